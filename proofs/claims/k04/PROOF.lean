import PyProof.Rows.All
import Wide.All
import OpenK.AllK
import Wide.FinOn
import HandS.Base
import HandS.Call
import HandS.List
import HandS.Comp
import HandS.Ends
import HandS.Words
import HandS.Wide
import HandS.Iter
import HandS.Text
import HandS.IsInst
import HandS.WideBits
import HandS.TupLe
import HandS.TupAny
import HandS.Zip
import HandS.Dict
import HandS.HotCalls
import HandS.ExcIs
import HandS.ExcField
import HandS.ExcInit
import HandS.ExcBuiltin
import HandS.ExcCtx
import KE.KExcIs
import KE.KExcInit
import HandS.RaiseMore
import PyProof.StrOps2
import HandS.Gcd
import HandS.Sort
import HandS.WideMore
import KE.KUnpackStar
import HandS.NoneIn
import KE.GoesMore
import KE.GoesEnum
import HandS.More
import PySem.Challenge.RW_lengthstell_k04_determinants_and_sums_of
set_option Elab.async false
set_option linter.all false
set_option maxRecDepth 100000
set_option maxHeartbeats 4000000
namespace Alg
/-- the sum over the columns, first row first, as the law adds it up: at is the column, s the sign -/
def lapRow (sub : Nat → Int) : Nat → Int → List Int → Int
  | _, _, [] => 0
  | at_, s, a :: r => s * a * sub at_ + lapRow sub (at_ + 1) (0 - s) r
/-- Laplace's expansion along the first row -/
def lap : List (List Int) → Int
  | [] => 1
  | r :: rs => lapRow (fun k => lap (rs.map fun q => q.eraseIdx k)) 0 1 r
termination_by m => m.length
decreasing_by simp
theorem lap_nil : lap [] = 1 := by rw [lap]
theorem lap_cons (r : List Int) (rs : List (List Int)) : lap (r :: rs) = lapRow (fun k => lap (rs.map fun q => q.eraseIdx k)) 0 1 r := by rw [lap]
/-- the minor of A with these rows and columns -/
def mi (A : Nat → Nat → Int) (rs cs : List Nat) : Int := lap (rs.map fun r => cs.map fun c => A r c)
theorem mi0 (A : Nat → Nat → Int) : mi A [] [] = 1 := lap_nil
theorem mi1 (A : Nat → Nat → Int) (a b : Nat) : mi A [a] [b] = A a b := by
  simp [mi, lap_cons, lap_nil, lapRow]
theorem mi2 (A : Nat → Nat → Int) (a b c d : Nat) : mi A [a, b] [c, d] = A a c * A b d - A a d * A b c := by
  simp [mi, lap_cons, lap_nil, lapRow]
  grind
end Alg
namespace Alg
theorem lap1 (a : Int) : lap [[a]] = a := by simp [lap_cons, lap_nil, lapRow]
theorem lap2 (a b c d : Int) : lap [[a, b], [c, d]] = a * d - b * c := by
  simp [lap_cons, lap_nil, lapRow]
  grind
theorem lap3 (a b c d e f g h i : Int) : lap [[a, b, c], [d, e, f], [g, h, i]] = a * (e * i - f * h) - b * (d * i - f * g) + c * (d * h - e * g) := by
  rw [lap_cons]
  simp [lapRow, lap2]
  grind
theorem lap4 (a b c d e f g h i j k l m n o p : Int) : lap [[a, b, c, d], [e, f, g, h], [i, j, k, l], [m, n, o, p]] =
    a * lap [[f, g, h], [j, k, l], [n, o, p]] - b * lap [[e, g, h], [i, k, l], [m, o, p]] + c * lap [[e, f, h], [i, j, l], [m, n, p]] - d * lap [[e, f, g], [i, j, k], [m, n, o]] := by
  rw [lap_cons]
  simp [lapRow]
  grind
theorem lap5 (a b c d e f g h i j k l m n o p q r s t u v w x y : Int) : lap [[a, b, c, d, e], [f, g, h, i, j], [k, l, m, n, o], [p, q, r, s, t], [u, v, w, x, y]] =
    a * lap [[g, h, i, j], [l, m, n, o], [q, r, s, t], [v, w, x, y]] - b * lap [[f, h, i, j], [k, m, n, o], [p, r, s, t], [u, w, x, y]] + c * lap [[f, g, i, j], [k, l, n, o], [p, q, s, t], [u, v, x, y]]
      - d * lap [[f, g, h, j], [k, l, m, o], [p, q, r, t], [u, v, w, y]] + e * lap [[f, g, h, i], [k, l, m, n], [p, q, r, s], [u, v, w, x]] := by
  rw [lap_cons]
  simp [lapRow]
  grind
/-- Jacobi's identity of the bordered minors, up to five rows -/
theorem jac0 (A : Nat → Nat → Int) (r i c j : Nat) : mi A [r] [c] * mi A [i] [j] - mi A [i] [c] * mi A [r] [j] = mi A [] [] * mi A [r, i] [c, j] := by
  simp only [mi, List.map_cons, List.map_nil, lap1, lap2, lap_nil]
  grind
theorem jac1 (A : Nat → Nat → Int) (r1 c1 r i c j : Nat) : mi A [r1, r] [c1, c] * mi A [r1, i] [c1, j] - mi A [r1, i] [c1, c] * mi A [r1, r] [c1, j] = mi A [r1] [c1] * mi A [r1, r, i] [c1, c, j] := by
  simp only [mi, List.map_cons, List.map_nil, lap1, lap2, lap3]
  grind
theorem jac2 (A : Nat → Nat → Int) (r1 r2 c1 c2 r i c j : Nat) : mi A [r1, r2, r] [c1, c2, c] * mi A [r1, r2, i] [c1, c2, j] - mi A [r1, r2, i] [c1, c2, c] * mi A [r1, r2, r] [c1, c2, j] = mi A [r1, r2] [c1, c2] * mi A [r1, r2, r, i] [c1, c2, c, j] := by
  simp only [mi, List.map_cons, List.map_nil, lap1, lap2, lap3, lap4]
  grind
end Alg
namespace Alg
theorem jac3 (A : Nat → Nat → Int) (r1 r2 r3 c1 c2 c3 r i c j : Nat) : mi A [r1, r2, r3, r] [c1, c2, c3, c] * mi A [r1, r2, r3, i] [c1, c2, c3, j] - mi A [r1, r2, r3, i] [c1, c2, c3, c] * mi A [r1, r2, r3, r] [c1, c2, c3, j] = mi A [r1, r2, r3] [c1, c2, c3] * mi A [r1, r2, r3, r, i] [c1, c2, c3, c, j] := by
  simp only [mi, List.map_cons, List.map_nil, lap1, lap2, lap3, lap4, lap5, lap_nil]
  grind
end Alg
namespace Alg
theorem sw_0_0_0 (A : Nat → Nat → Int) (x y c0 c1 : Nat) : mi A [y, x] [c0, c1] = - mi A [x, y] [c0, c1] := by
  simp only [mi, List.map_cons, List.map_nil, lap1, lap2, lap3, lap4, lap5, lap_nil]
  grind
theorem sw_0_0_1 (A : Nat → Nat → Int) (x y w0 c0 c1 c2 : Nat) : mi A [y, x, w0] [c0, c1, c2] = - mi A [x, y, w0] [c0, c1, c2] := by
  simp only [mi, List.map_cons, List.map_nil, lap1, lap2, lap3, lap4, lap5, lap_nil]
  grind
theorem sw_0_1_0 (A : Nat → Nat → Int) (x y u0 c0 c1 c2 : Nat) : mi A [y, u0, x] [c0, c1, c2] = - mi A [x, u0, y] [c0, c1, c2] := by
  simp only [mi, List.map_cons, List.map_nil, lap1, lap2, lap3, lap4, lap5, lap_nil]
  grind
theorem sw_1_0_0 (A : Nat → Nat → Int) (x y r0 c0 c1 c2 : Nat) : mi A [r0, y, x] [c0, c1, c2] = - mi A [r0, x, y] [c0, c1, c2] := by
  simp only [mi, List.map_cons, List.map_nil, lap1, lap2, lap3, lap4, lap5, lap_nil]
  grind
theorem sw_0_0_2 (A : Nat → Nat → Int) (x y w0 w1 c0 c1 c2 c3 : Nat) : mi A [y, x, w0, w1] [c0, c1, c2, c3] = - mi A [x, y, w0, w1] [c0, c1, c2, c3] := by
  simp only [mi, List.map_cons, List.map_nil, lap1, lap2, lap3, lap4, lap5, lap_nil]
  grind
theorem sw_0_1_1 (A : Nat → Nat → Int) (x y u0 w0 c0 c1 c2 c3 : Nat) : mi A [y, u0, x, w0] [c0, c1, c2, c3] = - mi A [x, u0, y, w0] [c0, c1, c2, c3] := by
  simp only [mi, List.map_cons, List.map_nil, lap1, lap2, lap3, lap4, lap5, lap_nil]
  grind
theorem sw_0_2_0 (A : Nat → Nat → Int) (x y u0 u1 c0 c1 c2 c3 : Nat) : mi A [y, u0, u1, x] [c0, c1, c2, c3] = - mi A [x, u0, u1, y] [c0, c1, c2, c3] := by
  simp only [mi, List.map_cons, List.map_nil, lap1, lap2, lap3, lap4, lap5, lap_nil]
  grind
theorem sw_1_0_1 (A : Nat → Nat → Int) (x y r0 w0 c0 c1 c2 c3 : Nat) : mi A [r0, y, x, w0] [c0, c1, c2, c3] = - mi A [r0, x, y, w0] [c0, c1, c2, c3] := by
  simp only [mi, List.map_cons, List.map_nil, lap1, lap2, lap3, lap4, lap5, lap_nil]
  grind
theorem sw_1_1_0 (A : Nat → Nat → Int) (x y r0 u0 c0 c1 c2 c3 : Nat) : mi A [r0, y, u0, x] [c0, c1, c2, c3] = - mi A [r0, x, u0, y] [c0, c1, c2, c3] := by
  simp only [mi, List.map_cons, List.map_nil, lap1, lap2, lap3, lap4, lap5, lap_nil]
  grind
theorem sw_2_0_0 (A : Nat → Nat → Int) (x y r0 r1 c0 c1 c2 c3 : Nat) : mi A [r0, r1, y, x] [c0, c1, c2, c3] = - mi A [r0, r1, x, y] [c0, c1, c2, c3] := by
  simp only [mi, List.map_cons, List.map_nil, lap1, lap2, lap3, lap4, lap5, lap_nil]
  grind
theorem sw_0_0_3 (A : Nat → Nat → Int) (x y w0 w1 w2 c0 c1 c2 c3 c4 : Nat) : mi A [y, x, w0, w1, w2] [c0, c1, c2, c3, c4] = - mi A [x, y, w0, w1, w2] [c0, c1, c2, c3, c4] := by
  simp only [mi, List.map_cons, List.map_nil, lap1, lap2, lap3, lap4, lap5, lap_nil]
  grind
theorem sw_0_1_2 (A : Nat → Nat → Int) (x y u0 w0 w1 c0 c1 c2 c3 c4 : Nat) : mi A [y, u0, x, w0, w1] [c0, c1, c2, c3, c4] = - mi A [x, u0, y, w0, w1] [c0, c1, c2, c3, c4] := by
  simp only [mi, List.map_cons, List.map_nil, lap1, lap2, lap3, lap4, lap5, lap_nil]
  grind
theorem sw_0_2_1 (A : Nat → Nat → Int) (x y u0 u1 w0 c0 c1 c2 c3 c4 : Nat) : mi A [y, u0, u1, x, w0] [c0, c1, c2, c3, c4] = - mi A [x, u0, u1, y, w0] [c0, c1, c2, c3, c4] := by
  simp only [mi, List.map_cons, List.map_nil, lap1, lap2, lap3, lap4, lap5, lap_nil]
  grind
theorem sw_0_3_0 (A : Nat → Nat → Int) (x y u0 u1 u2 c0 c1 c2 c3 c4 : Nat) : mi A [y, u0, u1, u2, x] [c0, c1, c2, c3, c4] = - mi A [x, u0, u1, u2, y] [c0, c1, c2, c3, c4] := by
  simp only [mi, List.map_cons, List.map_nil, lap1, lap2, lap3, lap4, lap5, lap_nil]
  grind
theorem sw_1_0_2 (A : Nat → Nat → Int) (x y r0 w0 w1 c0 c1 c2 c3 c4 : Nat) : mi A [r0, y, x, w0, w1] [c0, c1, c2, c3, c4] = - mi A [r0, x, y, w0, w1] [c0, c1, c2, c3, c4] := by
  simp only [mi, List.map_cons, List.map_nil, lap1, lap2, lap3, lap4, lap5, lap_nil]
  grind
theorem sw_1_1_1 (A : Nat → Nat → Int) (x y r0 u0 w0 c0 c1 c2 c3 c4 : Nat) : mi A [r0, y, u0, x, w0] [c0, c1, c2, c3, c4] = - mi A [r0, x, u0, y, w0] [c0, c1, c2, c3, c4] := by
  simp only [mi, List.map_cons, List.map_nil, lap1, lap2, lap3, lap4, lap5, lap_nil]
  grind
theorem sw_1_2_0 (A : Nat → Nat → Int) (x y r0 u0 u1 c0 c1 c2 c3 c4 : Nat) : mi A [r0, y, u0, u1, x] [c0, c1, c2, c3, c4] = - mi A [r0, x, u0, u1, y] [c0, c1, c2, c3, c4] := by
  simp only [mi, List.map_cons, List.map_nil, lap1, lap2, lap3, lap4, lap5, lap_nil]
  grind
theorem sw_2_0_1 (A : Nat → Nat → Int) (x y r0 r1 w0 c0 c1 c2 c3 c4 : Nat) : mi A [r0, r1, y, x, w0] [c0, c1, c2, c3, c4] = - mi A [r0, r1, x, y, w0] [c0, c1, c2, c3, c4] := by
  simp only [mi, List.map_cons, List.map_nil, lap1, lap2, lap3, lap4, lap5, lap_nil]
  grind
theorem sw_2_1_0 (A : Nat → Nat → Int) (x y r0 r1 u0 c0 c1 c2 c3 c4 : Nat) : mi A [r0, r1, y, u0, x] [c0, c1, c2, c3, c4] = - mi A [r0, r1, x, u0, y] [c0, c1, c2, c3, c4] := by
  simp only [mi, List.map_cons, List.map_nil, lap1, lap2, lap3, lap4, lap5, lap_nil]
  grind
theorem sw_3_0_0 (A : Nat → Nat → Int) (x y r0 r1 r2 c0 c1 c2 c3 c4 : Nat) : mi A [r0, r1, r2, y, x] [c0, c1, c2, c3, c4] = - mi A [r0, r1, r2, x, y] [c0, c1, c2, c3, c4] := by
  simp only [mi, List.map_cons, List.map_nil, lap1, lap2, lap3, lap4, lap5, lap_nil]
  grind
end Alg
namespace Alg
theorem zc_0_0 (A : Nat → Nat → Int) (c i0 : Nat) : mi A [] [] * mi A [i0] [c] = mi A [i0] [c] * mi A [] [] := by
  exact Int.mul_comm _ _
theorem zc_0_1 (A : Nat → Nat → Int) (c i0 i1 j0 : Nat) : mi A [] [] * mi A [i0, i1] [c, j0] = mi A [i0] [c] * mi A [i1] [j0] - mi A [i1] [c] * mi A [i0] [j0] := by
  exact (jac0 A i0 i1 c j0).symm
theorem zc_0_2 (A : Nat → Nat → Int) (c i0 i1 i2 j0 j1 : Nat) : mi A [] [] * mi A [i0, i1, i2] [c, j0, j1] = mi A [i0] [c] * mi A [i1, i2] [j0, j1] - mi A [i1] [c] * mi A [i0, i2] [j0, j1] + mi A [i2] [c] * mi A [i0, i1] [j0, j1] := by
  simp only [mi, List.map_cons, List.map_nil, lap1, lap2, lap3, lap4, lap5, lap_nil]
  grind
theorem zc_0_3 (A : Nat → Nat → Int) (c i0 i1 i2 i3 j0 j1 j2 : Nat) : mi A [] [] * mi A [i0, i1, i2, i3] [c, j0, j1, j2] = mi A [i0] [c] * mi A [i1, i2, i3] [j0, j1, j2] - mi A [i1] [c] * mi A [i0, i2, i3] [j0, j1, j2] + mi A [i2] [c] * mi A [i0, i1, i3] [j0, j1, j2] - mi A [i3] [c] * mi A [i0, i1, i2] [j0, j1, j2] := by
  simp only [mi, List.map_cons, List.map_nil, lap1, lap2, lap3, lap4, lap5, lap_nil]
  grind
theorem zc_0_4 (A : Nat → Nat → Int) (c i0 i1 i2 i3 i4 j0 j1 j2 j3 : Nat) : mi A [] [] * mi A [i0, i1, i2, i3, i4] [c, j0, j1, j2, j3] = mi A [i0] [c] * mi A [i1, i2, i3, i4] [j0, j1, j2, j3] - mi A [i1] [c] * mi A [i0, i2, i3, i4] [j0, j1, j2, j3] + mi A [i2] [c] * mi A [i0, i1, i3, i4] [j0, j1, j2, j3] - mi A [i3] [c] * mi A [i0, i1, i2, i4] [j0, j1, j2, j3] + mi A [i4] [c] * mi A [i0, i1, i2, i3] [j0, j1, j2, j3] := by
  simp only [mi, List.map_cons, List.map_nil, lap1, lap2, lap3, lap4, lap5, lap_nil]
  grind
theorem zc_1_0 (A : Nat → Nat → Int) (c r0 c0 i0 : Nat) : mi A [r0] [c0] * mi A [r0, i0] [c0, c] = mi A [r0, i0] [c0, c] * mi A [r0] [c0] := by
  exact Int.mul_comm _ _
theorem zc_1_1 (A : Nat → Nat → Int) (c r0 c0 i0 i1 j0 : Nat) : mi A [r0] [c0] * mi A [r0, i0, i1] [c0, c, j0] = mi A [r0, i0] [c0, c] * mi A [r0, i1] [c0, j0] - mi A [r0, i1] [c0, c] * mi A [r0, i0] [c0, j0] := by
  exact (jac1 A r0 c0 i0 i1 c j0).symm
theorem zc_1_2 (A : Nat → Nat → Int) (c r0 c0 i0 i1 i2 j0 j1 : Nat) : mi A [r0] [c0] * mi A [r0, i0, i1, i2] [c0, c, j0, j1] = mi A [r0, i0] [c0, c] * mi A [r0, i1, i2] [c0, j0, j1] - mi A [r0, i1] [c0, c] * mi A [r0, i0, i2] [c0, j0, j1] + mi A [r0, i2] [c0, c] * mi A [r0, i0, i1] [c0, j0, j1] := by
  simp only [mi, List.map_cons, List.map_nil, lap1, lap2, lap3, lap4, lap5, lap_nil]
  grind
theorem zc_1_3 (A : Nat → Nat → Int) (c r0 c0 i0 i1 i2 i3 j0 j1 j2 : Nat) : mi A [r0] [c0] * mi A [r0, i0, i1, i2, i3] [c0, c, j0, j1, j2] = mi A [r0, i0] [c0, c] * mi A [r0, i1, i2, i3] [c0, j0, j1, j2] - mi A [r0, i1] [c0, c] * mi A [r0, i0, i2, i3] [c0, j0, j1, j2] + mi A [r0, i2] [c0, c] * mi A [r0, i0, i1, i3] [c0, j0, j1, j2] - mi A [r0, i3] [c0, c] * mi A [r0, i0, i1, i2] [c0, j0, j1, j2] := by
  simp only [mi, List.map_cons, List.map_nil, lap1, lap2, lap3, lap4, lap5, lap_nil]
  grind
theorem zc_2_0 (A : Nat → Nat → Int) (c r0 r1 c0 c1 i0 : Nat) : mi A [r0, r1] [c0, c1] * mi A [r0, r1, i0] [c0, c1, c] = mi A [r0, r1, i0] [c0, c1, c] * mi A [r0, r1] [c0, c1] := by
  exact Int.mul_comm _ _
theorem zc_2_1 (A : Nat → Nat → Int) (c r0 r1 c0 c1 i0 i1 j0 : Nat) : mi A [r0, r1] [c0, c1] * mi A [r0, r1, i0, i1] [c0, c1, c, j0] = mi A [r0, r1, i0] [c0, c1, c] * mi A [r0, r1, i1] [c0, c1, j0] - mi A [r0, r1, i1] [c0, c1, c] * mi A [r0, r1, i0] [c0, c1, j0] := by
  exact (jac2 A r0 r1 c0 c1 i0 i1 c j0).symm
theorem zc_2_2 (A : Nat → Nat → Int) (c r0 r1 c0 c1 i0 i1 i2 j0 j1 : Nat) : mi A [r0, r1] [c0, c1] * mi A [r0, r1, i0, i1, i2] [c0, c1, c, j0, j1] = mi A [r0, r1, i0] [c0, c1, c] * mi A [r0, r1, i1, i2] [c0, c1, j0, j1] - mi A [r0, r1, i1] [c0, c1, c] * mi A [r0, r1, i0, i2] [c0, c1, j0, j1] + mi A [r0, r1, i2] [c0, c1, c] * mi A [r0, r1, i0, i1] [c0, c1, j0, j1] := by
  simp only [mi, List.map_cons, List.map_nil, lap1, lap2, lap3, lap4, lap5, lap_nil]
  grind
theorem zc_3_0 (A : Nat → Nat → Int) (c r0 r1 r2 c0 c1 c2 i0 : Nat) : mi A [r0, r1, r2] [c0, c1, c2] * mi A [r0, r1, r2, i0] [c0, c1, c2, c] = mi A [r0, r1, r2, i0] [c0, c1, c2, c] * mi A [r0, r1, r2] [c0, c1, c2] := by
  exact Int.mul_comm _ _
theorem zc_3_1 (A : Nat → Nat → Int) (c r0 r1 r2 c0 c1 c2 i0 i1 j0 : Nat) : mi A [r0, r1, r2] [c0, c1, c2] * mi A [r0, r1, r2, i0, i1] [c0, c1, c2, c, j0] = mi A [r0, r1, r2, i0] [c0, c1, c2, c] * mi A [r0, r1, r2, i1] [c0, c1, c2, j0] - mi A [r0, r1, r2, i1] [c0, c1, c2, c] * mi A [r0, r1, r2, i0] [c0, c1, c2, j0] := by
  exact (jac3 A r0 r1 r2 c0 c1 c2 i0 i1 c j0).symm
theorem zc_4_0 (A : Nat → Nat → Int) (c r0 r1 r2 r3 c0 c1 c2 c3 i0 : Nat) : mi A [r0, r1, r2, r3] [c0, c1, c2, c3] * mi A [r0, r1, r2, r3, i0] [c0, c1, c2, c3, c] = mi A [r0, r1, r2, r3, i0] [c0, c1, c2, c3, c] * mi A [r0, r1, r2, r3] [c0, c1, c2, c3] := by
  exact Int.mul_comm _ _
end Alg
namespace Alg
theorem tr_0 (A : Nat → Nat → Int)  : mi (fun a b => A b a) [] [] = mi A [] [] := by
  simp only [mi, List.map_cons, List.map_nil, lap1, lap2, lap3, lap4, lap5, lap_nil]
theorem tr_1 (A : Nat → Nat → Int) (r0 c0 : Nat) : mi (fun a b => A b a) [c0] [r0] = mi A [r0] [c0] := by
  simp only [mi, List.map_cons, List.map_nil, lap1, lap2, lap3, lap4, lap5, lap_nil]
theorem tr_2 (A : Nat → Nat → Int) (r0 r1 c0 c1 : Nat) : mi (fun a b => A b a) [c0, c1] [r0, r1] = mi A [r0, r1] [c0, c1] := by
  simp only [mi, List.map_cons, List.map_nil, lap1, lap2, lap3, lap4, lap5, lap_nil]
  grind
theorem tr_3 (A : Nat → Nat → Int) (r0 r1 r2 c0 c1 c2 : Nat) : mi (fun a b => A b a) [c0, c1, c2] [r0, r1, r2] = mi A [r0, r1, r2] [c0, c1, c2] := by
  simp only [mi, List.map_cons, List.map_nil, lap1, lap2, lap3, lap4, lap5, lap_nil]
  grind
theorem tr_4 (A : Nat → Nat → Int) (r0 r1 r2 r3 c0 c1 c2 c3 : Nat) : mi (fun a b => A b a) [c0, c1, c2, c3] [r0, r1, r2, r3] = mi A [r0, r1, r2, r3] [c0, c1, c2, c3] := by
  simp only [mi, List.map_cons, List.map_nil, lap1, lap2, lap3, lap4, lap5, lap_nil]
  grind
theorem tr_5 (A : Nat → Nat → Int) (r0 r1 r2 r3 r4 c0 c1 c2 c3 c4 : Nat) : mi (fun a b => A b a) [c0, c1, c2, c3, c4] [r0, r1, r2, r3, r4] = mi A [r0, r1, r2, r3, r4] [c0, c1, c2, c3, c4] := by
  simp only [mi, List.map_cons, List.map_nil, lap1, lap2, lap3, lap4, lap5, lap_nil]
  grind
end Alg
namespace Alg
theorem len0 {l : List Nat} (h : l.length = 0) : l = [] := List.eq_nil_of_length_eq_zero h
theorem lenS {l : List Nat} {n : Nat} (h : l.length = n + 1) : ∃ a r, l = a :: r ∧ r.length = n := by
  cases l with
  | nil => cases h
  | cons a r => exact ⟨a, r, rfl, Nat.succ.inj h⟩
theorem len1 {l : List Nat} (h : l.length = 1) : ∃ a, l = [a] := by
  obtain ⟨a, r, rfl, h2⟩ := lenS h
  obtain rfl := len0 h2
  exact ⟨a, rfl⟩
theorem len2 {l : List Nat} (h : l.length = 2) : ∃ a b, l = [a, b] := by
  obtain ⟨a, r, rfl, h2⟩ := lenS h
  obtain ⟨b, rfl⟩ := len1 h2
  exact ⟨a, b, rfl⟩
theorem len3 {l : List Nat} (h : l.length = 3) : ∃ a b c, l = [a, b, c] := by
  obtain ⟨a, r, rfl, h2⟩ := lenS h
  obtain ⟨b, c, rfl⟩ := len2 h2
  exact ⟨a, b, c, rfl⟩
theorem len4 {l : List Nat} (h : l.length = 4) : ∃ a b c d, l = [a, b, c, d] := by
  obtain ⟨a, r, rfl, h2⟩ := lenS h
  obtain ⟨b, c, d, rfl⟩ := len3 h2
  exact ⟨a, b, c, d, rfl⟩
theorem len5 {l : List Nat} (h : l.length = 5) : ∃ a b c d e, l = [a, b, c, d, e] := by
  obtain ⟨a, r, rfl, h2⟩ := lenS h
  obtain ⟨b, c, d, e, rfl⟩ := len4 h2
  exact ⟨a, b, c, d, e, rfl⟩
/-- Jacobi's identity, for lists -/
theorem jac (A : Nat → Nat → Int) (rs cs : List Nat) (r i c j : Nat) (h : rs.length = cs.length) (hk : rs.length ≤ 3) :
    mi A (rs ++ [r]) (cs ++ [c]) * mi A (rs ++ [i]) (cs ++ [j]) - mi A (rs ++ [i]) (cs ++ [c]) * mi A (rs ++ [r]) (cs ++ [j]) = mi A rs cs * mi A (rs ++ [r, i]) (cs ++ [c, j]) := by
  have hk' : rs.length = 0 ∨ rs.length = 1 ∨ rs.length = 2 ∨ rs.length = 3 := by omega
  rcases hk' with e | e | e | e <;> have e2 := h.symm.trans e
  · rw [len0 e, len0 e2]
    exact jac0 A r i c j
  · obtain ⟨a, rfl⟩ := len1 e
    obtain ⟨b, rfl⟩ := len1 e2
    exact jac1 A a b r i c j
  · obtain ⟨a1, a2, rfl⟩ := len2 e
    obtain ⟨b1, b2, rfl⟩ := len2 e2
    exact jac2 A a1 a2 b1 b2 r i c j
  · obtain ⟨a1, a2, a3, rfl⟩ := len3 e
    obtain ⟨b1, b2, b3, rfl⟩ := len3 e2
    exact jac3 A a1 a2 a3 b1 b2 b3 r i c j
/-- what an exact step of the elimination finds -/
theorem jac_div (A : Nat → Nat → Int) (rs cs : List Nat) (r i c j : Nat) (h : rs.length = cs.length) (hk : rs.length ≤ 3) (nz : mi A rs cs ≠ 0) :
    (mi A (rs ++ [r]) (cs ++ [c]) * mi A (rs ++ [i]) (cs ++ [j]) - mi A (rs ++ [i]) (cs ++ [c]) * mi A (rs ++ [r]) (cs ++ [j])).fdiv (mi A rs cs) = mi A (rs ++ [r, i]) (cs ++ [c, j]) := by
  rw [jac A rs cs r i c j h hk]
  exact Int.mul_fdiv_cancel_left _ nz
/-- two rows exchanged -/
theorem swp (A : Nat → Nat → Int) (rs l1 l2 cs : List Nat) (x y : Nat) (h : rs.length + l1.length + l2.length + 2 = cs.length) (h5 : cs.length ≤ 5) : mi A (rs ++ y :: (l1 ++ x :: l2)) cs = - mi A (rs ++ x :: (l1 ++ y :: l2)) cs := by
  have h1 : rs.length = 0 ∨ rs.length = 1 ∨ rs.length = 2 ∨ rs.length = 3 := by omega
  have h2 : l1.length = 0 ∨ l1.length = 1 ∨ l1.length = 2 ∨ l1.length = 3 := by omega
  have h3 : l2.length = 0 ∨ l2.length = 1 ∨ l2.length = 2 ∨ l2.length = 3 := by omega
  rcases h1 with e1 | e1 | e1 | e1 <;> rcases h2 with e2 | e2 | e2 | e2 <;> rcases h3 with e3 | e3 | e3 | e3 <;> (try (exfalso; omega))
  all_goals rw [e1, e2, e3] at h
  all_goals first
    | (obtain ⟨c1, c2, rfl⟩ := len2 h.symm)
    | (obtain ⟨c1, c2, c3, rfl⟩ := len3 h.symm)
    | (obtain ⟨c1, c2, c3, c4, rfl⟩ := len4 h.symm)
    | (obtain ⟨c1, c2, c3, c4, c5, rfl⟩ := len5 h.symm)
  all_goals first | (obtain rfl := len0 e1) | (obtain ⟨r1, rfl⟩ := len1 e1) | (obtain ⟨r1, r2, rfl⟩ := len2 e1) | (obtain ⟨r1, r2, r3, rfl⟩ := len3 e1)
  all_goals first | (obtain rfl := len0 e2) | (obtain ⟨u1, rfl⟩ := len1 e2) | (obtain ⟨u1, u2, rfl⟩ := len2 e2) | (obtain ⟨u1, u2, u3, rfl⟩ := len3 e2)
  all_goals first | (obtain rfl := len0 e3) | (obtain ⟨v1, rfl⟩ := len1 e3) | (obtain ⟨v1, v2, rfl⟩ := len2 e3) | (obtain ⟨v1, v2, v3, rfl⟩ := len3 e3)
  all_goals first
    | exact sw_0_0_0 A x y .. | exact sw_0_0_1 A x y .. | exact sw_0_0_2 A x y .. | exact sw_0_0_3 A x y ..
    | exact sw_0_1_0 A x y .. | exact sw_0_1_1 A x y .. | exact sw_0_1_2 A x y .. | exact sw_0_2_0 A x y .. | exact sw_0_2_1 A x y .. | exact sw_0_3_0 A x y ..
    | exact sw_1_0_0 A x y .. | exact sw_1_0_1 A x y .. | exact sw_1_0_2 A x y .. | exact sw_1_1_0 A x y .. | exact sw_1_1_1 A x y .. | exact sw_1_2_0 A x y ..
    | exact sw_2_0_0 A x y .. | exact sw_2_0_1 A x y .. | exact sw_2_1_0 A x y .. | exact sw_3_0_0 A x y ..
/-- a column without a pivot -/
theorem zcol (A : Nat → Nat → Int) (rs cs rest crest : List Nat) (c : Nat) (h : rs.length = cs.length) (hr : rest.length = crest.length + 1) (h5 : rs.length + rest.length ≤ 5) (hz : ∀ i ∈ rest, mi A (rs ++ [i]) (cs ++ [c]) = 0) (nz : mi A rs cs ≠ 0) :
    mi A (rs ++ rest) (cs ++ c :: crest) = 0 := by
  have key : mi A rs cs * mi A (rs ++ rest) (cs ++ c :: crest) = 0 := by
    have h1 : rs.length = 0 ∨ rs.length = 1 ∨ rs.length = 2 ∨ rs.length = 3 ∨ rs.length = 4 := by omega
    have h2 : crest.length = 0 ∨ crest.length = 1 ∨ crest.length = 2 ∨ crest.length = 3 ∨ crest.length = 4 := by omega
    rcases h1 with e1 | e1 | e1 | e1 | e1 <;> rcases h2 with e2 | e2 | e2 | e2 | e2 <;> (try (exfalso; omega))
    all_goals rw [e2] at hr
    all_goals have e3 := h.symm.trans e1
    all_goals first | (obtain rfl := len0 e1) | (obtain ⟨r1, rfl⟩ := len1 e1) | (obtain ⟨r1, r2, rfl⟩ := len2 e1) | (obtain ⟨r1, r2, r3, rfl⟩ := len3 e1) | (obtain ⟨r1, r2, r3, r4, rfl⟩ := len4 e1)
    all_goals first | (obtain rfl := len0 e3) | (obtain ⟨s1, rfl⟩ := len1 e3) | (obtain ⟨s1, s2, rfl⟩ := len2 e3) | (obtain ⟨s1, s2, s3, rfl⟩ := len3 e3) | (obtain ⟨s1, s2, s3, s4, rfl⟩ := len4 e3)
    all_goals first | (obtain rfl := len0 e2) | (obtain ⟨u1, rfl⟩ := len1 e2) | (obtain ⟨u1, u2, rfl⟩ := len2 e2) | (obtain ⟨u1, u2, u3, rfl⟩ := len3 e2) | (obtain ⟨u1, u2, u3, u4, rfl⟩ := len4 e2)
    all_goals first | (obtain ⟨v1, rfl⟩ := len1 hr) | (obtain ⟨v1, v2, rfl⟩ := len2 hr) | (obtain ⟨v1, v2, v3, rfl⟩ := len3 hr) | (obtain ⟨v1, v2, v3, v4, rfl⟩ := len4 hr) | (obtain ⟨v1, v2, v3, v4, v5, rfl⟩ := len5 hr)
    all_goals simp only [List.mem_cons, List.not_mem_nil, or_false, forall_eq_or_imp, forall_eq, List.nil_append, List.cons_append] at hz ⊢
    all_goals first
      | rw [zc_0_0 A] | rw [zc_0_1 A] | rw [zc_0_2 A] | rw [zc_0_3 A] | rw [zc_0_4 A] | rw [zc_1_0 A] | rw [zc_1_1 A] | rw [zc_1_2 A] | rw [zc_1_3 A] | rw [zc_2_0 A] | rw [zc_2_1 A] | rw [zc_2_2 A] | rw [zc_3_0 A] | rw [zc_3_1 A] | rw [zc_4_0 A]
    all_goals simp only [List.nil_append, List.cons_append, hz, Int.zero_mul, Int.sub_self, Int.add_zero, Int.neg_zero, Int.sub_zero]
  rcases Int.mul_eq_zero.mp key with e | e
  · exact absurd e nz
  · exact e
end Alg
namespace Alg
theorem range_split {k n : Nat} (h : k < n) : List.range n = List.range k ++ k :: List.range' (k + 1) (n - k - 1) := by
  rw [List.range_eq_range', List.range_eq_range']
  have e : n = k + ((n - k - 1) + 1) := by omega
  conv => lhs; rw [e]
  rw [← List.range'_append]
  simp [List.range'_succ]
/-- the state of the elimination ahead of column k: L the table as it stands, done and rest the rows in their order by now -/
structure St (A : Nat → Nat → Int) (n k : Nat) (L : Nat → Nat → Int) (sign scale : Int) (done rest : List Nat) : Prop where
  hd : done.length = k
  hr : done.length + rest.length = n
  hs : scale = mi A done (List.range k)
  nz : scale ≠ 0
  det : sign * mi A (done ++ rest) (List.range n) = mi A (List.range n) (List.range n)
  sg : sign = 1 ∨ sign = -1
  ent : ∀ t i, rest[t]? = some i → ∀ j, k ≤ j → j < n → L (k + t) j = mi A (done ++ [i]) (List.range k ++ [j])
theorem St.start {A L : Nat → Nat → Int} {n : Nat} (h : ∀ i j, i < n → j < n → L i j = A i j) : St A n 0 L 1 1 [] (List.range n) where
  hd := rfl
  hr := by simp
  hs := by rw [List.range_zero, mi0]
  nz := by decide
  det := by simp
  sg := Or.inl rfl
  ent := fun t i e j _ hj => by
    have ht : t < n := by
      rcases Nat.lt_or_ge t n with q | q
      · exact q
      · rw [List.getElem?_eq_none (by simpa using q)] at e
        cases e
    rw [List.getElem?_range ht] at e
    obtain rfl := Option.some.inj e
    rw [List.nil_append, List.range_zero, List.nil_append, mi1, Nat.zero_add]
    exact h t j ht hj
theorem St.none {A L : Nat → Nat → Int} {n k : Nat} {sign scale : Int} {done rest : List Nat} (s : St A n k L sign scale done rest) (hk : k < n) (h5 : n ≤ 5) (hz : ∀ i, k ≤ i → i < n → L i k = 0) :
    mi A (List.range n) (List.range n) = 0 := by
  have hl := s.hr
  have hd := s.hd
  have z : mi A (done ++ rest) (List.range k ++ k :: List.range' (k + 1) (n - k - 1)) = 0 := by
    refine zcol A done (List.range k) rest _ k (by simp [hd]) (by simp; omega) (by omega) (fun i hi => ?_) (by rw [← s.hs]; exact s.nz)
    obtain ⟨t, ht⟩ := List.getElem?_of_mem hi
    have htl : t < rest.length := by
      rcases Nat.lt_or_ge t rest.length with q | q
      · exact q
      · rw [List.getElem?_eq_none q] at ht
        cases ht
    rw [← s.ent t i ht k (Nat.le_refl k) hk]
    exact hz _ (by omega) (by omega)
  have e := s.det
  rw [← range_split hk] at z
  rw [z, Int.mul_zero] at e
  exact e.symm
theorem St.stop {A L : Nat → Nat → Int} {n : Nat} {sign scale : Int} {done rest : List Nat} (s : St A n n L sign scale done rest) : sign * scale = mi A (List.range n) (List.range n) := by
  have hl := s.hr
  have hd := s.hd
  have e : rest = [] := len0 (by omega)
  have d := s.det
  rw [e, List.append_nil, ← s.hs] at d
  exact d
theorem St.step {A L L' : Nat → Nat → Int} {n k : Nat} {sign scale : Int} {done rest : List Nat} (s : St A n k L sign scale done rest) (hk : k < n) (h5 : n ≤ 5) (p : L k k ≠ 0)
    (hL : ∀ i j, k < i → i < n → k < j → j < n → L' i j = (L k k * L i j - L i k * L k j).fdiv scale) : ∃ done' rest', St A n (k + 1) L' sign (L k k) done' rest' := by
  have hl := s.hr
  have hd := s.hd
  obtain ⟨x, r, rfl, hr⟩ : ∃ x r, rest = x :: r ∧ r.length = n - k - 1 := by
    obtain ⟨x, r, e, h⟩ := lenS (l := rest) (n := n - k - 1) (by omega)
    exact ⟨x, r, e, h⟩
  have ex : ∀ j, k ≤ j → j < n → L k j = mi A (done ++ [x]) (List.range k ++ [j]) := fun j h1 h2 => s.ent 0 x rfl j h1 h2
  refine ⟨done ++ [x], r, by rw [List.length_append, hd]; rfl, by rw [List.length_append, hd, hr]; show k + 1 + (n - k - 1) = n; omega, by rw [ex k (Nat.le_refl k) hk, List.range_succ], p, ?_, s.sg, fun t i e j hj1 hj2 => ?_⟩
  · rw [← s.det, List.append_assoc]
    rfl
  · have ht : t < r.length := by
      rcases Nat.lt_or_ge t r.length with q | q
      · exact q
      · rw [List.getElem?_eq_none q] at e
        cases e
    have ei : ∀ j, k ≤ j → j < n → L (k + 1 + t) j = mi A (done ++ [i]) (List.range k ++ [j]) := fun j h1 h2 => by
      have := s.ent (t + 1) i (by rw [List.getElem?_cons_succ]; exact e) j h1 h2
      rw [← this]
      congr 1
      omega
    rw [hL (k + 1 + t) j (by omega) (by omega) (by omega) hj2, ex k (Nat.le_refl k) hk, ei j (by omega) hj2, ei k (Nat.le_refl k) hk, ex j (by omega) hj2, s.hs]
    rw [jac_div A done (List.range k) x i k j (by simp [hd]) (by omega) (by rw [← s.hs]; exact s.nz), List.append_assoc, List.range_succ, List.append_assoc]
    rfl
theorem St.swap {A L L' : Nat → Nat → Int} {n k t0 : Nat} {sign scale : Int} {done rest : List Nat} (s : St A n k L sign scale done rest) (h5 : n ≤ 5) (h0 : 0 < t0) (ht : k + t0 < n)
    (hL : ∀ i j, i < n → L' i j = if i = k then L (k + t0) j else if i = k + t0 then L k j else L i j) : ∃ rest', St A n k L' (-sign) scale done rest' := by
  have hl := s.hr
  have hd := s.hd
  obtain ⟨x, r, rfl, hr⟩ : ∃ x r, rest = x :: r ∧ r.length = n - k - 1 := by
    obtain ⟨x, r, e, h⟩ := lenS (l := rest) (n := n - k - 1) (by omega)
    exact ⟨x, r, e, h⟩
  obtain ⟨y, hy⟩ : ∃ y, r[t0 - 1]? = some y := ⟨_, List.getElem?_eq_getElem (by omega)⟩
  obtain ⟨l1, l2, hr2, hl1⟩ : ∃ l1 l2, r = l1 ++ y :: l2 ∧ l1.length = t0 - 1 := by
    refine ⟨r.take (t0 - 1), r.drop t0, ?_, by rw [List.length_take]; omega⟩
    have e1 : r.drop (t0 - 1) = y :: r.drop t0 := by
      have hlt : t0 - 1 < r.length := by omega
      rw [List.drop_eq_getElem_cons hlt]
      have e2 : r[t0 - 1] = y := Option.some.inj ((List.getElem?_eq_getElem hlt).symm.trans hy)
      rw [e2]
      congr 2
      omega
    rw [← e1, List.take_append_drop]
  subst hr2
  refine ⟨y :: (l1 ++ x :: l2), hd, ?_, s.hs, s.nz, ?_, ?_, fun t i e j hj1 hj2 => ?_⟩
  · simp only [List.length_cons, List.length_append] at hl ⊢
    omega
  · have sw := swp A done l1 l2 (List.range n) x y (by simp only [List.length_cons, List.length_append, List.length_range] at hl ⊢; omega) (by simpa using h5)
    rw [sw, Int.neg_mul_neg]
    exact s.det
  · rcases s.sg with e | e
    · exact Or.inr (by rw [e])
    · exact Or.inl (by rw [e]; rfl)
  · have lt : t < (y :: (l1 ++ x :: l2)).length := by
      rcases Nat.lt_or_ge t (y :: (l1 ++ x :: l2)).length with q | q
      · exact q
      · rw [List.getElem?_eq_none q] at e
        cases e
    have lt2 : k + t < n := by
      simp only [List.length_cons, List.length_append] at lt hl
      omega
    rw [hL (k + t) j lt2]
    have ats : ∀ (u v : Nat) (q : Nat), q < t0 - 1 → (l1 ++ u :: l2)[q]? = l1[q]? := fun u v q hq => List.getElem?_append_left (by omega)
    by_cases e0 : t = 0
    · subst e0
      rw [if_pos (by omega)]
      have ey : i = y := (Option.some.inj e).symm
      rw [ey]
      refine s.ent t0 y ?_ j hj1 hj2
      obtain ⟨u, rfl⟩ : ∃ u, t0 = u + 1 := ⟨t0 - 1, by omega⟩
      rw [List.getElem?_cons_succ]
      exact hy
    · rw [if_neg (by omega)]
      obtain ⟨u, rfl⟩ : ∃ u, t = u + 1 := ⟨t - 1, by omega⟩
      rw [List.getElem?_cons_succ] at e
      by_cases e1 : u + 1 = t0
      · rw [if_pos (by omega)]
        have ex : i = x := by
          rw [List.getElem?_append_right (by omega)] at e
          have z : u - l1.length = 0 := by omega
          rw [z] at e
          exact (Option.some.inj e).symm
        rw [ex]
        exact s.ent 0 x rfl j hj1 hj2
      · rw [if_neg (by omega)]
        refine s.ent (u + 1) i ?_ j hj1 hj2
        rw [List.getElem?_cons_succ, ← e]
        rcases Nat.lt_or_ge u l1.length with q | q
        · rw [List.getElem?_append_left q, List.getElem?_append_left q]
        · rw [List.getElem?_append_right q, List.getElem?_append_right q]
          obtain ⟨v, hv⟩ : ∃ v, u - l1.length = v + 1 := ⟨u - l1.length - 1, by omega⟩
          rw [hv, List.getElem?_cons_succ, List.getElem?_cons_succ]
end Alg
namespace Alg
/-- sums over lists of indices -/
def S : List Nat → (Nat → Int) → Int
  | [], _ => 0
  | i :: r, f => f i + S r f
theorem S_congr {l : List Nat} {f g : Nat → Int} (h : ∀ i ∈ l, f i = g i) : S l f = S l g := by
  induction l with
  | nil => rfl
  | cons a r ih =>
    show f a + S r f = g a + S r g
    rw [h a List.mem_cons_self, ih fun i hi => h i (List.mem_cons_of_mem _ hi)]
theorem S_add (l : List Nat) (f g : Nat → Int) : S l (fun i => f i + g i) = S l f + S l g := by
  induction l with
  | nil => rfl
  | cons a r ih =>
    show f a + g a + S r _ = f a + S r f + (g a + S r g)
    rw [ih]
    omega
theorem S_sub (l : List Nat) (f g : Nat → Int) : S l (fun i => f i - g i) = S l f - S l g := by
  induction l with
  | nil => rfl
  | cons a r ih =>
    show f a - g a + S r _ = f a + S r f - (g a + S r g)
    rw [ih]
    omega
theorem S_mul (l : List Nat) (c : Int) (f : Nat → Int) : S l (fun i => c * f i) = c * S l f := by
  induction l with
  | nil => exact (Int.mul_zero c).symm
  | cons a r ih =>
    show c * f a + S r _ = c * (f a + S r f)
    rw [ih, Int.mul_add]
theorem S_zero {l : List Nat} {f : Nat → Int} (h : ∀ i ∈ l, f i = 0) : S l f = 0 := by
  induction l with
  | nil => rfl
  | cons a r ih =>
    show f a + S r f = 0
    rw [h a List.mem_cons_self, ih fun i hi => h i (List.mem_cons_of_mem _ hi)]
    rfl
theorem S_perm {l m : List Nat} (h : l.Perm m) (f : Nat → Int) : S l f = S m f := by
  induction h with
  | nil => rfl
  | cons a _ ih =>
    show f a + _ = f a + _
    rw [ih]
  | swap a b r =>
    show f b + (f a + S r f) = f a + (f b + S r f)
    omega
  | trans _ _ i1 i2 => exact i1.trans i2
/-- the vector with 1 at j -/
def E (j : Nat) : Nat → Int := fun i => if i = j then 1 else 0
theorem S_E {l : List Nat} {j : Nat} (hn : l.Nodup) (hj : j ∈ l) (f : Nat → Int) : S l (fun i => E j i * f i) = f j := by
  induction l with
  | nil => cases hj
  | cons a r ih =>
    obtain ⟨ha, hr⟩ := List.nodup_cons.mp hn
    show E j a * f a + S r _ = f j
    by_cases e : a = j
    · subst e
      rw [S_zero fun i hi => ?_]
      · unfold E
        rw [if_pos rfl]
        omega
      · have : i ≠ a := fun z => ha (z ▸ hi)
        unfold E
        rw [if_neg this, Int.zero_mul]
    · have hj2 : j ∈ r := by
        rcases List.mem_cons.mp hj with z | z
        · exact absurd z.symm e
        · exact z
      rw [ih hr hj2]
      unfold E
      rw [if_neg e]
      omega
/-- the form of B over the indices of l -/
def Qf (B : Nat → Nat → Int) (l : List Nat) (x : Nat → Int) : Int := S l fun i => S l fun j => x i * x j * B i j
def Psd (B : Nat → Nat → Int) (l : List Nat) : Prop := ∀ x, 0 ≤ Qf B l x
def Sym (B : Nat → Nat → Int) (l : List Nat) : Prop := ∀ i ∈ l, ∀ j ∈ l, B i j = B j i
theorem Qf_congr {B C : Nat → Nat → Int} {l : List Nat} {x y : Nat → Int} (h : ∀ i ∈ l, ∀ j ∈ l, B i j = C i j) (hx : ∀ i ∈ l, x i = y i) : Qf B l x = Qf C l y :=
  S_congr fun i hi => S_congr fun j hj => by rw [h i hi j hj, hx i hi, hx j hj]
theorem Psd_congr {B C : Nat → Nat → Int} {l : List Nat} (h : ∀ i ∈ l, ∀ j ∈ l, B i j = C i j) : Psd B l ↔ Psd C l :=
  ⟨fun p x => by rw [← Qf_congr (y := x) h fun _ _ => rfl]; exact p x, fun p x => by rw [Qf_congr (y := x) h fun _ _ => rfl]; exact p x⟩
theorem Qf_perm {B : Nat → Nat → Int} {l m : List Nat} (h : l.Perm m) (x : Nat → Int) : Qf B l x = Qf B m x := by
  unfold Qf
  rw [S_perm h]
  exact S_congr fun i _ => S_perm h _
theorem Psd_perm {B : Nat → Nat → Int} {l m : List Nat} (h : l.Perm m) : Psd B l ↔ Psd B m :=
  ⟨fun p x => by rw [← Qf_perm h]; exact p x, fun p x => by rw [Qf_perm h]; exact p x⟩
theorem Qf_scale {B : Nat → Nat → Int} {l : List Nat} {c : Int} (x : Nat → Int) : Qf (fun i j => c * B i j) l x = c * Qf B l x := by
  unfold Qf
  rw [← S_mul]
  refine S_congr fun i _ => ?_
  rw [← S_mul]
  exact S_congr fun j _ => by rw [Int.mul_left_comm]
theorem Psd_scale {B : Nat → Nat → Int} {l : List Nat} {c : Int} (hc : 0 < c) : Psd (fun i j => c * B i j) l ↔ Psd B l :=
  ⟨fun p x => by
    have := p x
    rw [Qf_scale] at this
    exact Int.le_of_mul_le_mul_left (by rw [Int.mul_zero]; exact this) hc, fun p x => by
    rw [Qf_scale]
    exact Int.mul_nonneg (Int.le_of_lt hc) (p x)⟩
/-- an index is taken out -/
theorem Qf_cons {B : Nat → Nat → Int} {p : Nat} {l : List Nat} (hs : Sym B (p :: l)) (x : Nat → Int) : Qf B (p :: l) x = x p * x p * B p p + 2 * x p * S l (fun j => x j * B p j) + Qf B l x := by
  have e1 : S l (fun j => x p * x j * B p j) = x p * S l (fun j => x j * B p j) := by
    rw [← S_mul]
    exact S_congr fun j _ => Int.mul_assoc ..
  have e2 : S l (fun i => x i * x p * B i p) = x p * S l (fun j => x j * B p j) := by
    rw [← S_mul]
    refine S_congr fun j hj => ?_
    rw [hs j (List.mem_cons_of_mem _ hj) p List.mem_cons_self, Int.mul_comm (x j) (x p), Int.mul_assoc]
  show (x p * x p * B p p + S l fun j => x p * x j * B p j) + S l (fun i => x i * x p * B i p + S l fun j => x i * x j * B i j) = _
  rw [S_add, e1, e2]
  unfold Qf
  grind
/-- Schur's complement -/
def Sc (B : Nat → Nat → Int) (p : Nat) : Nat → Nat → Int := fun i j => B p p * B i j - B i p * B p j
theorem Sc_sym {B : Nat → Nat → Int} {p : Nat} {l : List Nat} (hs : Sym B (p :: l)) : Sym (Sc B p) l := fun i hi j hj => by
  unfold Sc
  rw [hs i (List.mem_cons_of_mem _ hi) j (List.mem_cons_of_mem _ hj), hs i (List.mem_cons_of_mem _ hi) p List.mem_cons_self, hs p List.mem_cons_self j (List.mem_cons_of_mem _ hj), Int.mul_comm (B p i)]
theorem Qf_Sc {B : Nat → Nat → Int} {p : Nat} {l : List Nat} (hs : Sym B (p :: l)) (x : Nat → Int) : Qf (Sc B p) l x = B p p * Qf B l x - S l (fun j => x j * B p j) * S l (fun j => x j * B p j) := by
  unfold Qf
  rw [← S_mul, ← S_mul, ← S_sub]
  refine S_congr fun i hi => ?_
  rw [← S_mul]
  have e : S l (fun j => x j * B p j) * (x i * B p i) = S l (fun j => (x i * B p i) * (x j * B p j)) := by rw [S_mul, Int.mul_comm]
  rw [e, ← S_sub]
  refine S_congr fun j hj => ?_
  unfold Sc
  rw [hs i (List.mem_cons_of_mem _ hi) p List.mem_cons_self]
  grind
theorem Psd_Sc {B : Nat → Nat → Int} {p : Nat} {l : List Nat} (hs : Sym B (p :: l)) (hp : p ∉ l) (ha : 0 < B p p) : Psd B (p :: l) ↔ Psd (Sc B p) l := by
  constructor
  · intro h x
    have q := h (fun i => if i = p then - S l (fun j => x j * B p j) else B p p * x i)
    have ne : ∀ i ∈ l, (if i = p then - S l (fun j => x j * B p j) else B p p * x i) = B p p * x i := fun i hi => if_neg (fun z : i = p => hp (z ▸ hi))
    rw [Qf_cons hs] at q
    have e1 : S l (fun j => (if j = p then - S l (fun j => x j * B p j) else B p p * x j) * B p j) = B p p * S l (fun j => x j * B p j) := by
      rw [← S_mul]
      exact S_congr fun j hj => by rw [ne j hj, Int.mul_assoc]
    have e2 : Qf B l (fun i => if i = p then - S l (fun j => x j * B p j) else B p p * x i) = B p p * (B p p * Qf B l x) := by
      rw [Qf_congr (C := B) (y := fun i => B p p * x i) (fun _ _ _ _ => rfl) ne]
      unfold Qf
      rw [← S_mul, ← S_mul]
      refine S_congr fun i _ => ?_
      rw [← S_mul, ← S_mul]
      exact S_congr fun j _ => by grind
    rw [e1, e2, if_pos rfl] at q
    rw [Qf_Sc hs]
    have : 0 ≤ B p p * (B p p * Qf B l x - S l (fun j => x j * B p j) * S l (fun j => x j * B p j)) := by grind
    exact Int.le_of_mul_le_mul_left (by rw [Int.mul_zero]; exact this) ha
  · intro h x
    have q := h x
    rw [Qf_Sc hs] at q
    rw [Qf_cons hs]
    have sq : 0 ≤ (B p p * x p + S l (fun j => x j * B p j)) * (B p p * x p + S l (fun j => x j * B p j)) := by
      rcases Int.le_total 0 (B p p * x p + S l (fun j => x j * B p j)) with z | z
      · exact Int.mul_nonneg z z
      · exact Int.mul_nonneg_of_nonpos_of_nonpos z z
    have : 0 ≤ B p p * (x p * x p * B p p + 2 * x p * S l (fun j => x j * B p j) + Qf B l x) := by
      have e : B p p * (x p * x p * B p p + 2 * x p * S l (fun j => x j * B p j) + Qf B l x) = (B p p * x p + S l (fun j => x j * B p j)) * (B p p * x p + S l (fun j => x j * B p j)) + (B p p * Qf B l x - S l (fun j => x j * B p j) * S l (fun j => x j * B p j)) := by grind
      rw [e]
      omega
    exact Int.le_of_mul_le_mul_left (by rw [Int.mul_zero]; exact this) ha
/-- the diagonal of a form that is never below 0 -/
theorem Qf_E {B : Nat → Nat → Int} {l : List Nat} {i : Nat} (hn : l.Nodup) (hi : i ∈ l) : Qf B l (E i) = B i i := by
  have e : ∀ a ∈ l, S l (fun j => E i a * E i j * B a j) = E i a * B a i := fun a _ => by
    have : S l (fun j => E i a * E i j * B a j) = E i a * S l (fun j => E i j * B a j) := by
      rw [← S_mul]
      exact S_congr fun j _ => Int.mul_assoc ..
    rw [this, S_E hn hi]
  unfold Qf
  rw [S_congr e, S_E hn hi]
theorem Psd_diag {B : Nat → Nat → Int} {l : List Nat} {i : Nat} (hn : l.Nodup) (hi : i ∈ l) (h : Psd B l) : 0 ≤ B i i := by
  have := h (E i)
  rw [Qf_E hn hi] at this
  exact this
/-- a 0 on the diagonal: the row is 0 -/
theorem Psd_row {B : Nat → Nat → Int} {p j : Nat} {l : List Nat} (hs : Sym B (p :: l)) (hn : (p :: l).Nodup) (hj : j ∈ l) (h0 : B p p = 0) (h : Psd B (p :: l)) : B p j = 0 := by
  obtain ⟨hp, hl⟩ := List.nodup_cons.mp hn
  have key : ∀ t : Int, 0 ≤ 2 * t * B p j + B j j := fun t => by
    have q := h (fun i => if i = p then t else E j i)
    have ne : ∀ i ∈ l, (if i = p then t else E j i) = E j i := fun i hi => if_neg (fun z : i = p => hp (z ▸ hi))
    rw [Qf_cons hs, if_pos rfl, h0, Int.mul_zero, Int.zero_add] at q
    have e1 : S l (fun i => (if i = p then t else E j i) * B p i) = B p j := by
      rw [S_congr (g := fun i => E j i * B p i) fun i hi => by rw [ne i hi]]
      exact S_E hl hj _
    rw [e1, Qf_congr (C := B) (y := E j) (fun _ _ _ _ => rfl) ne, Qf_E hl hj] at q
    exact q
  rcases Int.lt_trichotomy (B p j) 0 with z | z | z
  · have q := key (B j j + 1)
    have d := key 0
    have : 2 * (B j j + 1) * B p j + B j j ≤ 2 * (B j j + 1) * (-1) + B j j := by
      have : 2 * (B j j + 1) * B p j ≤ 2 * (B j j + 1) * (-1) := Int.mul_le_mul_of_nonneg_left (by omega) (by omega)
      omega
    omega
  · exact z
  · have q := key (-(B j j + 1))
    have d := key 0
    have : 2 * (B j j + 1) * 1 ≤ 2 * (B j j + 1) * B p j := Int.mul_le_mul_of_nonneg_left (by omega) (by omega)
    have e : 2 * -(B j j + 1) * B p j = -(2 * (B j j + 1) * B p j) := by grind
    omega
end Alg
namespace Alg
theorem sc1 (B : Nat → Nat → Int) (p i : Nat) : mi (Sc B p) [i] [i] = mi B [p, i] [p, i] := by
  simp only [mi, List.map_cons, List.map_nil, lap1, lap2, Sc]
  grind
theorem sc2 (B : Nat → Nat → Int) (p i j : Nat) : mi (Sc B p) [i, j] [i, j] = B p p * mi B [p, i, j] [p, i, j] := by
  simp only [mi, List.map_cons, List.map_nil, lap2, lap3, Sc]
  grind
theorem sc3 (B : Nat → Nat → Int) (p i j k : Nat) : mi (Sc B p) [i, j, k] [i, j, k] = B p p * B p p * mi B [p, i, j, k] [p, i, j, k] := by
  simp only [mi, List.map_cons, List.map_nil, lap3, lap4, Sc]
  grind
theorem lapRow_zero (sub : Nat → Int) : ∀ (l : List Int) (t : Nat) (s : Int), (∀ a ∈ l, a = 0) → lapRow sub t s l = 0
  | [], _, _, _ => rfl
  | a :: r, t, s, h => by
    show s * a * sub t + lapRow sub (t + 1) (0 - s) r = 0
    rw [h a List.mem_cons_self, lapRow_zero sub r _ _ fun b hb => h b (List.mem_cons_of_mem _ hb), Int.mul_zero, Int.zero_mul]
    rfl
theorem mi_row_zero {B : Nat → Nat → Int} {p : Nat} {rs cs : List Nat} (h : ∀ c ∈ cs, B p c = 0) : mi B (p :: rs) cs = 0 := by
  unfold mi
  rw [List.map_cons, lap_cons]
  refine lapRow_zero _ _ _ _ fun a ha => ?_
  obtain ⟨c, hc, rfl⟩ := List.mem_map.mp ha
  exact h c hc
theorem mi_congr {A B : Nat → Nat → Int} {rs cs : List Nat} (h : ∀ r ∈ rs, ∀ c ∈ cs, A r c = B r c) : mi A rs cs = mi B rs cs := by
  unfold mi
  congr 1
  exact List.map_congr_left fun r hr => List.map_congr_left fun c hc => h r hr c hc
theorem sub_short {p : Nat} {l sub : List Nat} (h : sub.Sublist l) (hl : l.length ≤ 3) : sub.length = 0 ∨ sub.length = 1 ∨ sub.length = 2 ∨ sub.length = 3 := by
  have := h.length_le
  omega
/-- the sign of a principal minor through Schur's complement -/
theorem sc_sign {B : Nat → Nat → Int} {p : Nat} {sub : List Nat} (ha : 0 < B p p) (h3 : sub.length ≤ 3) : 0 ≤ mi (Sc B p) sub sub ↔ 0 ≤ mi B (p :: sub) (p :: sub) := by
  have hs : sub.length = 0 ∨ sub.length = 1 ∨ sub.length = 2 ∨ sub.length = 3 := by omega
  have one : ∀ x : Int, 0 ≤ B p p * x ↔ 0 ≤ x := fun x => ⟨fun q => Int.le_of_mul_le_mul_left (by rw [Int.mul_zero]; exact q) ha, fun q => Int.mul_nonneg (Int.le_of_lt ha) q⟩
  rcases hs with e | e | e | e
  · rw [len0 e, mi0, mi1]
    exact ⟨fun _ => Int.le_of_lt ha, fun _ => by decide⟩
  · obtain ⟨i, rfl⟩ := len1 e
    rw [sc1]
  · obtain ⟨i, j, rfl⟩ := len2 e
    rw [sc2]
    exact one _
  · obtain ⟨i, j, k, rfl⟩ := len3 e
    rw [sc3, Int.mul_assoc, one, one]
theorem Psd_tail {B : Nat → Nat → Int} {p : Nat} {l : List Nat} (hs : Sym B (p :: l)) (hp : p ∉ l) (h : Psd B (p :: l)) : Psd B l := fun x => by
  have q := h (fun i => if i = p then 0 else x i)
  have ne : ∀ i ∈ l, (if i = p then (0 : Int) else x i) = x i := fun i hi => if_neg (fun z : i = p => hp (z ▸ hi))
  rw [Qf_cons hs, if_pos rfl, Int.zero_mul, Int.zero_mul, Int.mul_zero, Int.zero_mul, Qf_congr (C := B) (y := x) (fun _ _ _ _ => rfl) ne] at q
  omega
theorem Sym_tail {B : Nat → Nat → Int} {p : Nat} {l : List Nat} (hs : Sym B (p :: l)) : Sym B l := fun i hi j hj => hs i (List.mem_cons_of_mem _ hi) j (List.mem_cons_of_mem _ hj)
/-- a form of up to four indices is never below 0 just if no principal minor is -/
theorem psd_minors : ∀ (l : List Nat), l.length ≤ 4 → l.Nodup → ∀ B, Sym B l → (Psd B l ↔ ∀ sub, sub.Sublist l → 0 ≤ mi B sub sub)
  | [], _, _, B, _ => ⟨fun _ sub h => by rw [List.sublist_nil.mp h, mi0]; decide, fun _ x => Int.le_refl 0⟩
  | p :: l, h4, hn, B, hs => by
    obtain ⟨hp, hl⟩ := List.nodup_cons.mp hn
    have l3 : l.length ≤ 3 := by simpa using h4
    have ihB := psd_minors l (by omega) hl B (Sym_tail hs)
    have ihS := psd_minors l (by omega) hl (Sc B p) (Sc_sym hs)
    constructor
    · intro h sub hsub
      rcases List.sublist_cons_iff.mp hsub with z | ⟨r, rfl, z⟩
      · exact ihB.mp (Psd_tail hs hp h) sub z
      · have a0 := Psd_diag hn List.mem_cons_self h
        by_cases ha : 0 < B p p
        · exact (sc_sign ha (by have := z.length_le; omega)).mp (ihS.mp ((Psd_Sc hs hp ha).mp h) r z)
        · have e0 : B p p = 0 := by omega
          rw [mi_row_zero fun c hc => ?_]
          · exact Int.le_refl 0
          · rcases List.mem_cons.mp hc with y | y
            · rw [y, e0]
            · exact Psd_row hs hn (z.subset y) e0 h
    · intro h
      have a0 : 0 ≤ B p p := by
        have := h [p] (List.Sublist.cons_cons p (List.nil_sublist l))
        rwa [mi1] at this
      by_cases ha : 0 < B p p
      · refine (Psd_Sc hs hp ha).mpr (ihS.mpr fun sub z => ?_)
        exact (sc_sign ha (by have := z.length_le; omega)).mpr (h (p :: sub) (List.Sublist.cons_cons p z))
      · have e0 : B p p = 0 := by omega
        have row : ∀ j ∈ l, B p j = 0 := fun j hj => by
          have q := h [p, j] (List.Sublist.cons_cons p (List.singleton_sublist.mpr hj))
          rw [mi2, e0, hs j (List.mem_cons_of_mem _ hj) p List.mem_cons_self, Int.zero_mul] at q
          rcases Int.lt_trichotomy (B p j) 0 with y | y | y
          · have := Int.mul_pos_of_neg_of_neg y y
            omega
          · exact y
          · have := Int.mul_pos y y
            omega
        have q := ihB.mpr fun sub z => h sub (z.trans (List.sublist_cons_self p l))
        intro x
        rw [Qf_cons hs, e0, S_zero fun j hj => by rw [row j hj, Int.mul_zero]]
        have := q x
        omega
end Alg
namespace Alg
/-- rows and columns change places -/
theorem mi_tr (A : Nat → Nat → Int) (rs cs : List Nat) (h : rs.length = cs.length) (h5 : rs.length ≤ 5) : mi (fun a b => A b a) cs rs = mi A rs cs := by
  have h1 : rs.length = 0 ∨ rs.length = 1 ∨ rs.length = 2 ∨ rs.length = 3 ∨ rs.length = 4 ∨ rs.length = 5 := by omega
  rcases h1 with e | e | e | e | e | e <;> have e2 := h.symm.trans e
  · rw [len0 e, len0 e2]
    exact tr_0 A
  · obtain ⟨a, rfl⟩ := len1 e
    obtain ⟨b, rfl⟩ := len1 e2
    exact tr_1 A a b
  · obtain ⟨a1, a2, rfl⟩ := len2 e
    obtain ⟨b1, b2, rfl⟩ := len2 e2
    exact tr_2 A a1 a2 b1 b2
  · obtain ⟨a1, a2, a3, rfl⟩ := len3 e
    obtain ⟨b1, b2, b3, rfl⟩ := len3 e2
    exact tr_3 A a1 a2 a3 b1 b2 b3
  · obtain ⟨a1, a2, a3, a4, rfl⟩ := len4 e
    obtain ⟨b1, b2, b3, b4, rfl⟩ := len4 e2
    exact tr_4 A a1 a2 a3 a4 b1 b2 b3 b4
  · obtain ⟨a1, a2, a3, a4, a5, rfl⟩ := len5 e
    obtain ⟨b1, b2, b3, b4, b5, rfl⟩ := len5 e2
    exact tr_5 A a1 a2 a3 a4 a5 b1 b2 b3 b4 b5
theorem lapRow_scale (sub : Nat → Int) (g : Int) : ∀ (l : List Int) (t : Nat) (s : Int), lapRow sub t s (l.map fun a => g * a) = g * lapRow sub t s l
  | [], _, _ => (Int.mul_zero g).symm
  | a :: r, t, s => by
    show s * (g * a) * sub t + lapRow sub (t + 1) (0 - s) (r.map fun a => g * a) = g * (s * a * sub t + lapRow sub (t + 1) (0 - s) r)
    rw [lapRow_scale sub g r]
    grind
/-- the first row times g -/
theorem lap_scale (g : Int) (r : List Int) (rs : List (List Int)) : lap ((r.map fun a => g * a) :: rs) = g * lap (r :: rs) := by
  rw [lap_cons, lap_cons, lapRow_scale]
/-- the state of the elimination by diagonal pivots: L the table as it stands, of the rows and columns of rest -/
structure Ps (A : Nat → Nat → Int) (n : Nat) (L : Nat → Nat → Int) (scale : Int) (done rest : List Nat) : Prop where
  hr : done.length + rest.length = n
  nd : (done ++ rest).Nodup
  hs : scale = mi A done done
  pos : 0 < scale
  ent : ∀ t u i j, rest[t]? = some i → rest[u]? = some j → L t u = mi A (done ++ [i]) (done ++ [j])
  psd : Psd A (List.range n) ↔ Psd (fun i j => mi A (done ++ [i]) (done ++ [j])) rest
  inr : ∀ i ∈ done ++ rest, i < n
theorem Ps.sym {A L : Nat → Nat → Int} {n : Nat} {scale : Int} {done rest : List Nat} (s : Ps A n L scale done rest) (h5 : n ≤ 5) (hA : ∀ i j, i < n → j < n → A i j = A j i) : Sym (fun i j => mi A (done ++ [i]) (done ++ [j])) rest := fun i hi j hj => by
  have hr := s.hr
  have hl : 0 < rest.length := List.length_pos_of_mem hi
  show mi A (done ++ [i]) (done ++ [j]) = mi A (done ++ [j]) (done ++ [i])
  rw [← mi_tr A (done ++ [i]) (done ++ [j]) (by simp) (by simp; omega)]
  refine mi_congr fun r hr c hc => ?_
  have mem : ∀ k x, x ∈ rest → k ∈ done ++ [x] → k < n := fun k x hx hk => s.inr k (by
    rcases List.mem_append.mp hk with y | y
    · exact List.mem_append_left _ y
    · rw [List.mem_singleton.mp y]
      exact List.mem_append_right _ hx)
  exact hA _ _ (mem c i hi hc) (mem r j hj hr)
theorem Ps.start {A L : Nat → Nat → Int} {n : Nat} (h : ∀ i j, i < n → j < n → L i j = A i j) : Ps A n L 1 [] (List.range n) where
  hr := by simp
  nd := by simpa using List.nodup_range
  hs := by rw [mi0]
  pos := by decide
  ent := fun t u i j e1 e2 => by
    have lt : ∀ {t i : Nat}, (List.range n)[t]? = some i → t < n ∧ i = t := fun {t i} e => by
      have ht : t < n := by
        rcases Nat.lt_or_ge t n with q | q
        · exact q
        · rw [List.getElem?_eq_none (by simpa using q)] at e
          cases e
      rw [List.getElem?_range ht] at e
      exact ⟨ht, (Option.some.inj e).symm⟩
    obtain ⟨h1, rfl⟩ := lt e1
    obtain ⟨h2, rfl⟩ := lt e2
    rw [List.nil_append, List.nil_append, mi1]
    exact h _ _ h1 h2
  psd := Psd_congr fun i _ j _ => by rw [List.nil_append, List.nil_append, mi1]
  inr := fun i hi => by simpa using hi
/-- no index is left: never below 0 -/
theorem Ps.stop {A L : Nat → Nat → Int} {n : Nat} {scale : Int} {done : List Nat} (s : Ps A n L scale done []) : Psd A (List.range n) := s.psd.mpr fun _ => Int.le_refl 0
theorem at_of {l : List Nat} {t : Nat} (h : t < l.length) : ∃ i, l[t]? = some i ∧ i ∈ l := ⟨l[t], List.getElem?_eq_getElem h, List.getElem_mem h⟩
/-- one of the diagonal is below 0 -/
theorem Ps.neg {A L : Nat → Nat → Int} {n t : Nat} {scale : Int} {done rest : List Nat} (s : Ps A n L scale done rest) (ht : t < rest.length) (h : L t t < 0) : ¬ Psd A (List.range n) := fun z => by
  obtain ⟨i, e, hi⟩ := at_of ht
  have nd : rest.Nodup := (List.nodup_append.mp s.nd).2.1
  have q := Psd_diag nd hi (s.psd.mp z)
  rw [s.ent t t i i e e] at h
  omega
/-- the whole diagonal is 0: just if all is 0 -/
theorem Ps.zero {A L : Nat → Nat → Int} {n : Nat} {scale : Int} {done rest : List Nat} (s : Ps A n L scale done rest) (h5 : n ≤ 5) (hA : ∀ i j, i < n → j < n → A i j = A j i) (h : ∀ t, t < rest.length → L t t = 0) :
    Psd A (List.range n) ↔ ∀ t u, t < rest.length → u < rest.length → L t u = 0 := by
  have nd : rest.Nodup := (List.nodup_append.mp s.nd).2.1
  rw [s.psd]
  constructor
  · intro z t u ht hu
    obtain ⟨i, e1, hi⟩ := at_of ht
    obtain ⟨j, e2, hj⟩ := at_of hu
    by_cases htu : t = u
    · rw [← htu]
      exact h t ht
    · rw [s.ent t u i j e1 e2]
      have hne : i ≠ j := fun q => by
        rw [← q] at e2
        exact htu ((List.getElem?_inj ht nd).mp (e1.trans e2.symm))
      have pm := List.perm_cons_erase hi
      have hj2 : j ∈ rest.erase i := (List.mem_erase_of_ne hne.symm).mpr hj
      refine Psd_row (B := fun i j => mi A (done ++ [i]) (done ++ [j])) (p := i) (l := rest.erase i) (fun a ha b hb => s.sym h5 hA a (pm.symm.subset ha) b (pm.symm.subset hb)) (pm.nodup_iff.mp nd) hj2 ?_ ((Psd_perm pm).mp z)
      show mi A (done ++ [i]) (done ++ [i]) = 0
      rw [← s.ent t t i i e1 e1]
      exact h t ht
  · intro z x
    unfold Qf
    rw [S_zero fun i hi => ?_]
    · exact Int.le_refl 0
    · refine S_zero fun j hj => ?_
      obtain ⟨t, ht⟩ := List.getElem?_of_mem hi
      obtain ⟨u, hu⟩ := List.getElem?_of_mem hj
      have lt : ∀ {t i : Nat}, rest[t]? = some i → t < rest.length := fun {t i} e => by
        rcases Nat.lt_or_ge t rest.length with q | q
        · exact q
        · rw [List.getElem?_eq_none q] at e
          cases e
      show x i * x j * mi A (done ++ [i]) (done ++ [j]) = 0
      rw [← s.ent t u i j ht hu, z t u (lt ht) (lt hu), Int.mul_zero]
/-- one step: the row and the column of the index at top go -/
theorem Ps.step {A L L' : Nat → Nat → Int} {n top : Nat} {scale : Int} {done rest : List Nat} (s : Ps A n L scale done rest) (h5 : n ≤ 5) (hA : ∀ i j, i < n → j < n → A i j = A j i) (ht : top < rest.length) (hp : 0 < L top top)
    (hL : ∀ t u, t < rest.length - 1 → u < rest.length - 1 → L' t u = (L top top * L (if t < top then t else t + 1) (if u < top then u else u + 1) - L (if t < top then t else t + 1) top * L top (if u < top then u else u + 1)).fdiv scale) :
    ∃ done', Ps A n L' (L top top) done' (rest.eraseIdx top) := by
  obtain ⟨p, e, hpm⟩ := at_of ht
  have nd : rest.Nodup := (List.nodup_append.mp s.nd).2.1
  have hr := s.hr
  have ep : L top top = mi A (done ++ [p]) (done ++ [p]) := s.ent top top p p e e
  have pm : rest.Perm (p :: rest.eraseIdx top) := by
    have e2 : rest[top] = p := Option.some.inj ((List.getElem?_eq_getElem ht).symm.trans e)
    have e3 : rest = rest.take top ++ p :: rest.drop (top + 1) := by rw [← e2, ← List.drop_eq_getElem_cons ht, List.take_append_drop]
    have e4 : rest.eraseIdx top = rest.take top ++ rest.drop (top + 1) := List.eraseIdx_eq_take_drop_succ ..
    rw [e4]
    conv => lhs; rw [e3]
    exact List.perm_middle
  have nz : mi A done done ≠ 0 := by
    have := s.pos
    rw [s.hs] at this
    omega
  have sym := s.sym h5 hA
  have idx : ∀ {t i : Nat}, (rest.eraseIdx top)[t]? = some i → t < rest.length - 1 ∧ rest[if t < top then t else t + 1]? = some i := fun {t i} q => by
    have lt : t < (rest.eraseIdx top).length := by
      rcases Nat.lt_or_ge t (rest.eraseIdx top).length with y | y
      · exact y
      · rw [List.getElem?_eq_none y] at q
        cases q
    rw [List.length_eraseIdx_of_lt ht] at lt
    rw [List.getElem?_eraseIdx] at q
    refine ⟨lt, ?_⟩
    split <;> rename_i y
    · rwa [if_pos y] at q
    · rwa [if_neg y] at q
  refine ⟨done ++ [p], ?_, ?_, ep, hp, fun t u i j e1 e2 => ?_, ?_, ?_⟩
  · rw [List.length_append, List.length_eraseIdx_of_lt ht]
    show done.length + 1 + (rest.length - 1) = n
    omega
  · rw [List.append_assoc]
    exact (List.Perm.append_left done pm).nodup_iff.mp s.nd
  · obtain ⟨h1, q1⟩ := idx e1
    obtain ⟨h2, q2⟩ := idx e2
    rw [hL t u h1 h2, ep, s.ent _ _ i j q1 q2, s.ent _ _ i p q1 e, s.ent _ _ p j e q2, s.hs]
    rw [jac_div A done done p i p j rfl (by omega) nz, List.append_assoc, List.append_assoc]
    rfl
  · rw [s.psd, Psd_perm pm, Psd_Sc (fun a ha b hb => sym a (pm.symm.subset ha) b (pm.symm.subset hb)) (List.nodup_cons.mp (pm.nodup_iff.mp nd)).1 (by rw [← ep]; exact hp)]
    rw [← Psd_scale (B := fun i j => mi A (done ++ [p] ++ [i]) (done ++ [p] ++ [j])) (c := mi A done done) (by rw [← s.hs]; exact s.pos)]
    refine Psd_congr fun i hi j hj => ?_
    have l1 : 0 < (rest.eraseIdx top).length := List.length_pos_of_mem hi
    rw [List.length_eraseIdx_of_lt ht] at l1
    have := jac A done done p i p j rfl (by omega)
    unfold Sc
    rw [this, List.append_assoc, List.append_assoc]
    rfl
  · intro i hi
    rw [List.append_assoc] at hi
    exact s.inr i ((List.Perm.append_left done pm).symm.subset hi)
end Alg
namespace Alg
/-- bounds -/
theorem lapRow_bound {sub : Nat → Int} {b c : Nat} (hsub : ∀ k, (sub k).natAbs ≤ c) : ∀ (l : List Int) (t : Nat) (s : Int), s.natAbs ≤ 1 → (∀ a ∈ l, a.natAbs ≤ b) → (lapRow sub t s l).natAbs ≤ l.length * (b * c)
  | [], _, _, _, _ => Nat.zero_le _
  | a :: r, t, s, hs, h => by
    have ih := lapRow_bound hsub r (t + 1) (0 - s) (by omega) fun x hx => h x (List.mem_cons_of_mem _ hx)
    have h1 : (s * a * sub t).natAbs ≤ b * c := by
      rw [Int.natAbs_mul, Int.natAbs_mul]
      have := Nat.mul_le_mul (Nat.mul_le_mul hs (h a List.mem_cons_self)) (hsub t)
      rwa [Nat.one_mul] at this
    show (s * a * sub t + lapRow sub (t + 1) (0 - s) r).natAbs ≤ (r.length + 1) * (b * c)
    have := Int.natAbs_add_le (s * a * sub t) (lapRow sub (t + 1) (0 - s) r)
    rw [Nat.succ_mul]
    omega
theorem lap_bound (b : Nat) : ∀ (n : Nat) (M : List (List Int)), M.length = n → (∀ r ∈ M, r.length ≤ 8 ∧ ∀ x ∈ r, x.natAbs ≤ 2 ^ b) → (lap M).natAbs ≤ 2 ^ ((b + 3) * n)
  | 0, M, h, _ => by
    rw [List.eq_nil_of_length_eq_zero h, lap_nil]
    exact Nat.le_refl 1
  | n + 1, M, h, hM => by
    cases M with
    | nil => cases h
    | cons r rs =>
      rw [lap_cons]
      have hr := hM r List.mem_cons_self
      have hsub : ∀ k, (lap (rs.map fun q => q.eraseIdx k)).natAbs ≤ 2 ^ ((b + 3) * n) := fun k => by
        refine lap_bound b n _ (by rw [List.length_map]; exact Nat.succ.inj h) fun q hq => ?_
        obtain ⟨q0, hq0, rfl⟩ := List.mem_map.mp hq
        obtain ⟨h1, h2⟩ := hM q0 (List.mem_cons_of_mem _ hq0)
        exact ⟨Nat.le_trans (List.length_eraseIdx_le ..) h1, fun x hx => h2 x ((List.eraseIdx_sublist ..).subset hx)⟩
      have q := lapRow_bound hsub r 0 1 (by decide) hr.2
      refine Nat.le_trans q ?_
      have e : (2 : Nat) ^ ((b + 3) * (n + 1)) = 8 * (2 ^ b * 2 ^ ((b + 3) * n)) := by
        rw [Nat.mul_succ, Nat.pow_add, Nat.pow_add]
        have : (2 : Nat) ^ 3 = 8 := rfl
        rw [this]
        generalize (2 : Nat) ^ ((b + 3) * n) = x
        generalize (2 : Nat) ^ b = y
        rw [Nat.mul_comm x, Nat.mul_comm y 8, Nat.mul_assoc]
      rw [e]
      exact Nat.mul_le_mul_right _ hr.1
end Alg
namespace Alg
/-- all lots of the numbers below n, in the law's order -/
def lots : Nat → List (List Nat)
  | 0 => [[]]
  | n + 1 => lots n ++ (lots n).map fun l => l ++ [n]
theorem lots_len : ∀ n, (lots n).length = 2 ^ n
  | 0 => rfl
  | n + 1 => by
    show (lots n ++ (lots n).map fun l => l ++ [n]).length = _
    rw [List.length_append, List.length_map, lots_len n, Nat.pow_succ]
    omega
theorem lots_mem : ∀ (n : Nat) (l : List Nat), l ∈ lots n ↔ l.Sublist (List.range n)
  | 0, l => by
    show l ∈ [[]] ↔ l.Sublist []
    rw [List.mem_singleton, List.sublist_nil]
  | n + 1, l => by
    show l ∈ lots n ++ (lots n).map (fun l => l ++ [n]) ↔ _
    rw [List.range_succ, List.mem_append, List.mem_map]
    constructor
    · rintro (h | ⟨m, h, rfl⟩)
      · exact ((lots_mem n l).mp h).trans (List.sublist_append_left _ _)
      · exact ((lots_mem n m).mp h).append (List.Sublist.refl _)
    · intro h
      obtain ⟨l1, l2, rfl, h1, h2⟩ := List.sublist_append_iff.mp h
      rcases List.sublist_cons_iff.mp h2 with z | ⟨r, rfl, z⟩
      · rw [List.sublist_nil.mp z, List.append_nil]
        exact Or.inl ((lots_mem n l1).mpr h1)
      · rw [List.sublist_nil.mp z]
        exact Or.inr ⟨l1, (lots_mem n l1).mpr h1, rfl⟩
theorem lots_bd {n : Nat} {l : List Nat} (h : l ∈ lots n) : l.length ≤ n ∧ ∀ i ∈ l, i < n := by
  have h := (lots_mem n l).mp h
  exact ⟨by have := h.length_le; rwa [List.length_range] at this, fun i hi => List.mem_range.mp (h.subset hi)⟩
theorem Psd_lots {n : Nat} (hn : n ≤ 4) {B : Nat → Nat → Int} (hs : ∀ i j, i < n → j < n → B i j = B j i) : Psd B (List.range n) ↔ ∀ l ∈ lots n, 0 ≤ mi B l l := by
  rw [psd_minors (List.range n) (by rw [List.length_range]; exact hn) List.nodup_range B fun i hi j hj => hs i j (List.mem_range.mp hi) (List.mem_range.mp hj)]
  exact ⟨fun h l hl => h l ((lots_mem n l).mp hl), fun h l hl => h l ((lots_mem n l).mpr hl)⟩
theorem Psd_neg {B : Nat → Nat → Int} {l : List Nat} (hn : l.Nodup) (hs : Sym B l) (h1 : Psd B l) (h2 : Psd (fun i j => -1 * B i j) l) : ∀ i ∈ l, ∀ j ∈ l, B i j = 0 := by
  intro i hi j hj
  have d1 := Psd_diag hn hi h1
  have d2 : 0 ≤ -1 * B i i := Psd_diag hn hi h2
  have d0 : B i i = 0 := by omega
  by_cases e : i = j
  · rw [← e]
    exact d0
  · have p : l.Perm (i :: l.erase i) := List.perm_cons_erase hi
    refine Psd_row (l := l.erase i) (fun a ha b hb => hs a (p.mem_iff.mpr ha) b (p.mem_iff.mpr hb)) (p.nodup_iff.mp hn) ?_ d0 ((Psd_perm p).mp h1)
    exact (List.mem_erase_of_ne (Ne.symm e)).mpr hj
theorem range_last (n : Nat) : (List.range (n + 1)).Perm (n :: List.range n) := by
  rw [List.range_succ]
  exact List.perm_append_singleton n _
theorem Psd_wide {B : Nat → Nat → Int} {n : Nat} (h1 : ∀ i, i ≤ n → B i n = 0) (h2 : ∀ i, i ≤ n → B n i = 0) (hs : ∀ i j, i < n → j < n → B i j = B j i) : Psd B (List.range (n + 1)) ↔ Psd B (List.range n) := by
  rw [Psd_perm (range_last n)]
  have sy : Sym B (n :: List.range n) := fun i hi j hj => by
    have q1 : i ≤ n := by
      rcases List.mem_cons.mp hi with rfl | z
      · exact Nat.le_refl _
      · exact Nat.le_of_lt (List.mem_range.mp z)
    have q2 : j ≤ n := by
      rcases List.mem_cons.mp hj with rfl | z
      · exact Nat.le_refl _
      · exact Nat.le_of_lt (List.mem_range.mp z)
    rcases Nat.lt_or_ge i n with y | y
    · rcases Nat.lt_or_ge j n with w | w
      · exact hs i j y w
      · have : j = n := by omega
        rw [this, h1 i q1, h2 i q1]
    · have : i = n := by omega
      rw [this, h1 j q2, h2 j q2]
  have e : ∀ x, Qf B (n :: List.range n) x = Qf B (List.range n) x := fun x => by
    rw [Qf_cons sy, h1 n (Nat.le_refl _), S_zero fun j hj => by rw [h2 j (Nat.le_of_lt (List.mem_range.mp hj)), Int.mul_zero]]
    simp
  exact ⟨fun p x => by rw [← e]; exact p x, fun p x => by rw [e]; exact p x⟩
theorem Psd_not {B : Nat → Nat → Int} {n : Nat} (h0 : 0 < n) (hs : ∀ i j, i ≤ n → j ≤ n → B i j = B j i) (hd : B n n = 0) (h1 : B n 0 ≠ 0) : ¬ Psd B (List.range (n + 1)) := fun p => by
  have p := (Psd_perm (range_last n)).mp p
  have mem : ∀ i, i ∈ n :: List.range n → i ≤ n := fun i hi => by
    rcases List.mem_cons.mp hi with rfl | z
    · exact Nat.le_refl _
    · exact Nat.le_of_lt (List.mem_range.mp z)
  exact h1 (Psd_row (fun i hi j hj => hs i j (mem i hi) (mem j hj)) ((range_last n).nodup_iff.mp List.nodup_range) (List.mem_range.mpr h0) hd p)
theorem mi_tr2 {A B : Nat → Nat → Int} {n : Nat} (hn : n ≤ 5) (h : ∀ i j, i < n → j < n → B i j = A j i) : mi B (List.range n) (List.range n) = mi A (List.range n) (List.range n) := by
  rw [mi_congr (B := fun a b => A b a) fun r hr c hc => h r c (List.mem_range.mp hr) (List.mem_range.mp hc)]
  exact mi_tr A _ _ rfl (by rw [List.length_range]; exact hn)
def sw (t i : Nat) : Nat := if i = 0 then t else if i = t then 0 else i
theorem lap_map (A : Nat → Nat → Int) (f : Nat → Nat) (rs cs : List Nat) : mi (fun a b => A (f a) b) rs cs = mi A (rs.map f) cs := by
  unfold mi
  rw [List.map_map]
  rfl
theorem mi_sw {A B : Nat → Nat → Int} {n t : Nat} (hn : n ≤ 5) (ht : t < n) (h0 : 0 < t) (h : ∀ i j, i < n → j < n → B i j = A (sw t i) j) : mi B (List.range n) (List.range n) = - mi A (List.range n) (List.range n) := by
  rw [mi_congr (B := fun a b => A (sw t a) b) fun r hr c hc => h r c (List.mem_range.mp hr) (List.mem_range.mp hc), lap_map A (sw t)]
  have key : ∃ l1 l2 : List Nat, (List.range n).map (sw t) = [] ++ t :: (l1 ++ 0 :: l2) ∧ List.range n = [] ++ 0 :: (l1 ++ t :: l2) ∧ l1.length + l2.length + 2 = n := by
    have c : n = 2 ∨ n = 3 ∨ n = 4 ∨ n = 5 := by omega
    have c2 : t = 1 ∨ t = 2 ∨ t = 3 ∨ t = 4 := by omega
    rcases c with rfl | rfl | rfl | rfl <;> rcases c2 with rfl | rfl | rfl | rfl
    · exact ⟨[], [], rfl, rfl, rfl⟩
    · omega
    · omega
    · omega
    · exact ⟨[], [2], rfl, rfl, rfl⟩
    · exact ⟨[1], [], rfl, rfl, rfl⟩
    · omega
    · omega
    · exact ⟨[], [2, 3], rfl, rfl, rfl⟩
    · exact ⟨[1], [3], rfl, rfl, rfl⟩
    · exact ⟨[1, 2], [], rfl, rfl, rfl⟩
    · omega
    · exact ⟨[], [2, 3, 4], rfl, rfl, rfl⟩
    · exact ⟨[1], [3, 4], rfl, rfl, rfl⟩
    · exact ⟨[1, 2], [4], rfl, rfl, rfl⟩
    · exact ⟨[1, 2, 3], [], rfl, rfl, rfl⟩
  obtain ⟨l1, l2, e1, e2, e3⟩ := key
  have s := swp A [] l1 l2 (List.range n) 0 t (by rw [List.length_range]; show 0 + l1.length + l2.length + 2 = n; omega) (by rw [List.length_range]; exact hn)
  rw [e1]
  refine s.trans ?_
  rw [← e2]
end Alg
/-! LayA: defs that are only ever entered where no display is under way (so that what is shown is shown whole). -/
namespace Lay
open PySem PySem.Spec PyProof.Rows L2

/-- no display is under way around A -/
def Quiet (A : Around) : Prop := A.guards = some []
theorem quiet_caller : Quiet callerA := rfl
theorem Quiet.deeper {A : Around} (q : Quiet A) (env : Env) : Quiet (A.deeper env) := q

section
variable {P : Program} {w : World} {K : PySem.W.Frag} {mg : Str → Option Value} {base : Heap}

/-- a def's promise, for quiet places alone -/
structure FnQ (P : Program) (w : World) (K : PySem.W.Frag) (mg : Str → Option Value) (base : Heap) (k : Nat) (f : Addr) (fd : FuncData) (ps : List Str) (sp : Sp) : Prop where
  many : ∀ vs H Q E, sp vs H Q E → vs.length = ps.length
  goes : ∀ (A : Around) (outer : List Env) (s : Shared) (H : Hp) (args : Args) (us : List Value) (vs : List V) (Q : VK) (E : XK), Quiet A → Room k A →
    Env0 P w K mg base A outer s H → BindsTo s fd args (ps.zip us) → Vals vs us → sp vs H Q E →
    codeAny (model P w) A (.call (.ref f) args) (CR CX0 outer P w H s Q E) s

theorem FnQ.of {k : Nat} {f : Addr} {fd : FuncData} {ps : List Str} {sp : Sp} (F : FnOk P w K mg base CX0 k f fd ps sp) : FnQ P w K mg base k f fd ps sp :=
  ⟨F.len, fun A o s H ar us vs Q E _ hr he hb hv hs => F.run A o s H ar us vs Q E hr he hb hv hs⟩

/-- a def by its body, entered where it is quiet -/
theorem quiet_def {x qual : Str} {st : Stmt} {f : Addr} {fd : FuncData} {N ps : List Str} {k : Nat} {sp : Sp} (F : Fun K x qual st f fd) (S : FnScope N ps (defScope st))
    (many : ∀ vs H Q E, sp vs H Q E → vs.length = ps.length)
    (body : ∀ (cdv : Value) (A : Around) (outer : List Env) (s : Shared) (H : Hp) (vs : List V) (Q : VK) (E : XK), Quiet A → Room k (A.deeper (envOfC qual (defScope st) s.heap.objs.size f cdv)) → sp vs H Q E →
      ∃ t, PSs (cxOf CX0 P w K mg base N qual (defScope st) f cdv A outer s H E).nox (defBody st) t ∧ t { nx := fun _ H' => Q .non H', rt := Q } (start N vs) H) :
    FnQ P w K mg base (k + 1) f fd ps sp := by
  obtain ⟨oc, od, kV, doc, pm, an, cdv, ct, osl, rfl, lk, hcd⟩ := F.ex
  refine ⟨many, fun A outer s H args us vs Q E hq hr he hb hv hs => ?_⟩
  -- the promise at this A alone, as a promise for all places: elsewhere nothing is asked
  have here : FnOk P w K mg base CX0 (k + 1) f (PySem.W.fnOf x qual (defArgs st) (defBody st) (defScope st) .none kV doc pm an cdv ct) ps sp → codeAny (model P w) A (.call (.ref f) args) (CR CX0 outer P w H s Q E) s :=
    fun G => G.run A outer s H args us vs Q E hr he hb hv hs
  have hl := many _ _ _ _ hs
  have KX : K.In s.heap := he.mod.kin.keeps fun b o e => (he.bs b o e).1
  have lim : s.heap.NoLimit := he.mod.nolimit.keeps fun b o e => (he.bs b o e).1
  have kinds : ∀ y ∈ ps.zip us, (defScope st).names.lookup y.1 = some .local ∨ ((defScope st).names.lookup y.1 = some .cell ∧ ((cellsFrom (s.heap.objs.size + 1) (defScope st).names []).lookup y.1).isSome = true) := by
    intro y hy
    rcases S.par y.1 (List.of_mem_zip hy).1 with q | q
    · exact Or.inl q
    · exact Or.inr ⟨q, PySem.W.cellsFrom_some _ _ _ (Or.inl q)⟩
  apply codeAny_call_function hr.depth (KX _ _ lk) rfl S.co S.gen rfl (PySem.W.codeRec_of KX hcd)
  apply hb
  apply wpAny_newFunctionEnv_cells S.kind kinds
  intro env henv s1 x1
  subst henv
  refine ⟨lim.keeps x1.toInCall.keep, ?_⟩
  apply codeAny_func
  obtain ⟨t, ht, q0⟩ := body cdv A outer s H vs Q E hq (hr.deeper _) hs
  have I : Inv (cxOf CX0 P w K mg base N qual (defScope st) f cdv A outer s H E) [] (start N vs) H s1 := inv_start S hr.hd he hl hv x1
  refine wpAny_mono (ht.nox.run [] s1 (start N vs) H _ I q0) (fun fl s2 h2 => ?_) (fun e s2 h2 => h2)
  cases fl with
  | next =>
    obtain ⟨a, b, J, z⟩ := h2
    exact ⟨V.non, b, J.os, J.bare, J.base, J.hok, rfl, z⟩
  | ret u =>
    obtain ⟨v, a, b, J, rv, z⟩ := h2
    exact ⟨v, b, J.os, J.bare, J.base, J.hok, rv, z⟩
  | brk =>
    obtain ⟨a, b, J, z⟩ := h2
    exact z.elim
  | cont =>
    obtain ⟨a, b, J, z⟩ := h2
    exact z.elim
end

section
variable {X : Cx} {k : Nat} {f : Addr} {fd : FuncData} {ps : List Str} {sp : Sp} {x : Str} {p pos : Pos} {e : Expr} {es : List Expr} {t : TA}
theorem quiet_run {pins : List (Addr × Obj)} {σ : L2.St} {H : Hp} {s : Shared} {Q : VK} {us : List Value} {vs : List V} (F : FnQ X.prog X.w X.K X.mg X.base k f fd ps sp) (hq : Quiet X.A) (hr : Room k X.A) (hb : Binds X.K fd ps [])
    (I : Inv X pins σ H s) (r : Vals vs us) (h : sp vs H Q E0) : wpAny (model X.prog X.w) X.A (call (.ref f) us) (EP X pins σ Q) X.xe s := by
  have hl : (us ++ []).length = ps.length := by
    rw [List.append_nil, ← r.length]
    exact F.many _ _ _ _ h
  have bb := hb s us I.kIn hl
  rw [List.append_nil] at bb
  refine wpAny_call (codeAny_mono (F.goes X.A X.stack s H ⟨us, []⟩ us vs Q E0 hq hr I.env0 bb r h) fun res s2 hh => ?_)
  cases res with
  | error z => exact False.elim hh
  | ok fl =>
    cases fl with
    | ret u => exact I.after hh
    | next => exact False.elim hh
    | brk => exact False.elim hh
    | cont => exact False.elim hh
def tCl (sp : Sp) (t : TA) : TE := fun σ H Q => t σ H fun vs H1 => sp vs H1 Q E0
/-- f(e, ..) where it is quiet -/
theorem qcall (F : FnQ X.prog X.w X.K X.mg X.base k f fd ps sp) (hq : Quiet X.A) (hr : Room k X.A) (hg : Gl X x) (hm : X.mg x = some (.ref f)) (hk : PySem.W.keepIn X.K (.ref f) = true) (hb : Binds X.K fd ps [])
    (ha : PA X (e :: es) t) (hdb : (x == ("__debug__" : Str)) = false := by decide) (he : starEach (e :: es) X.env = (false, eval e X.env) :: starEach es X.env := by rfl) (hpl : (backTo pos (starEach es X.env)).any (·.1) = false := by rfl) :
    PE X (.Call (.Name x p) (e :: es) [] pos) (tCl sp t) := by
  refine ⟨fun pins s σ H Q I h => wpAny_Call_Name_kw (ld_glob I hg hm ?_ hdb)⟩
  refine PySem.W.callWith_K (h₀ := X.base) I.ok.mod.kin hk (thn (ha.run pos pins s σ H _ I h) ?_) he hpl
  rintro us s1 ⟨vs, H1, I1, r, q⟩
  exact ⟨I1.kIn, quiet_run F hq hr hb I1 r q⟩
theorem qcall0 (F : FnQ X.prog X.w X.K X.mg X.base k f fd ps sp) (hq : Quiet X.A) (hr : Room k X.A) (hg : Gl X x) (hm : X.mg x = some (.ref f)) (hk : PySem.W.keepIn X.K (.ref f) = true) (hb : Binds X.K fd ps [])
    (hdb : (x == ("__debug__" : Str)) = false := by decide) : PE X (.Call (.Name x p) [] [] pos) (tCl sp tNil) :=
  ⟨fun pins s σ H Q I h => wpAny_Call_Name_kw (ld_glob I hg hm (PySem.W.callWith_K0 I.kIn hk (quiet_run (us := []) F hq hr hb I .nil h)) hdb)⟩

/-- repr(x) of whole data -/
def rRepr (K : PySem.W.Frag) : List V → Hp → VK → Prop := fun xs H Q => ∃ (a : Addr) (d : PyData), xs = [.ref a] ∧ Dp K H (.ref a) d ∧ d.showable = true ∧ d.hasDict = false ∧ d.depth ≤ 20 ∧ d.shown.length ≤ sizeLine ∧ Q (.str d.shown) H
theorem call_repr (hq : Quiet X.A) (hu : X.A.units + 64 < cLine) : CallR X (.builtin "repr") (rRepr X.K) := by
  intro pins s σ H xs us Q I r h
  obtain ⟨a, d, rfl, hd, hs, hdc, hdp, hsz, q⟩ := h
  cases r with
  | cons r1 r2 =>
    cases r2
    cases r1
    obtain ⟨as, rd⟩ := Dp.reads I d (.ref a) (.ref a) hd rfl
    refine repr_of_reads' rd hs (fun z => by rw [hdc] at z; cases z) hq (by omega) (fun _ _ z => z) (fun h' u tk hk => ?_) hsz
    exact ⟨.str d.shown, H, I.kept hk, ⟨u, rfl⟩, q⟩
/-- powers of any size below 2 ^ 27 bits -/
def CPowW (i j : Int) : Prop := 0 ≤ j ∧ (Builtin.Int.intBits i : Int) * j ≤ 2 ^ 27
theorem op_powW : OpR X (binaryOp .Pow) (rI CPowW fun i j => .int (i ^ j.toNat)) := opI fun _ _ _ _ _ _ _ hc q => pow_int hc.1 hc.2 q
end

/-! ### the end -/
theorem law_goes {P : Program} {w : World} {K : PySem.W.Frag} {mg mb : Str → Option Value} {k : Nat} {fa a : Addr} {fd : FuncData} {x : Str} {sp : Sp} {s1 : Shared} {vs : List Value} {ns : List Int}
    (KX : K.In s1.heap) (hns : s1.heap.Ns mainGlobals mg) (hb : s1.heap.Ns builtinsNs mb) (hbb : ∀ x : Str, x ≠ "__name__" → mb x = bootBuiltins x) (hlim : s1.heap.NoLimit) (hg : s1.gens = #[])
    (ha : s1.heap.get? a = some { cls := .type "list", data := .seq vs.toArray }) (hi : IntsAre vs ns) (hl : ns.length ≤ sizeLine) (hr : Room k callerA)
    (F : ∀ base : Heap, K.In base → base.Ns mainGlobals mg → FnQ P w K mg base k fa fd [x] sp) (hbind : ∀ (s : Shared) (u : Value), BindsTo s fd ⟨[u], []⟩ [(x, u)])
    (hsp : ∀ H : Hp, SqL K H a (ns.map V.int) → sp [.ref a] H (fun v _ => v = .bl true) E0) :
    codeAny (model P w) callerA (.call (.ref fa) ⟨[.ref a], []⟩) (fun r s' => r = .ok (.ret (.bool true)) ∧ OldK s1.heap s'.heap ∧ s'.os = s1.os ∧ AllBare s'.gens) s1 := by
  have rv := vals_ints hi
  -- from any abstract heap that tracks nothing, or the script alone, as a known object
  have from_ : ∀ H : Hp, SqL K H a (ns.map V.int) → HOk P w H s1.heap → (∀ b u, H b = some u → b = a ∧ K.lookup a = none ∧ u = .frz { cls := .type "list", data := .seq vs.toArray } (.lst (ns.map V.int))) →
      codeAny (model P w) callerA (.call (.ref fa) ⟨[.ref a], []⟩) (fun r s' => r = .ok (.ret (.bool true)) ∧ OldK s1.heap s'.heap ∧ s'.os = s1.os ∧ AllBare s'.gens) s1 := by
    intro H hS hok hT
    -- what is a dict, or of the written part, is not tracked
    have free1 : ∀ {b : Addr} {o : Obj}, s1.heap.get? b = some o → (∃ es ep, o.data = .dict es ep) → H b = none := by
      intro b o e hd
      cases q : H b with
      | none => rfl
      | some u =>
        obtain ⟨es, ep, hd⟩ := hd
        obtain ⟨rfl, -, -⟩ := hT b u q
        rw [ha] at e
        cases e
        cases hd
    have free2 : ∀ {b : Addr} {o : Obj}, K.lookup b = some o → H b = none := by
      intro b o e
      cases q : H b with
      | none => rfl
      | some u =>
        obtain ⟨rfl, z, -⟩ := hT b u q
        rw [z] at e
        cases e
    have ns2 : ∀ {b : Addr} {m : Str → Option Value}, s1.heap.Ns b m → (hidT s1.heap H).Ns b m := by
      rintro b m ⟨o, es, ep, e, d, r⟩
      exact ⟨o, es, ep, hidT_get e (free1 e ⟨es, ep, d⟩), d, r⟩
    have kb : K.In (hidT s1.heap H) := fun b o e => hidT_get (KX b o e) (free2 e)
    have md : Mod K mg (hidT s1.heap H) := by
      obtain ⟨mc, l1, l2⟩ := hlim
      exact ⟨kb, ns2 hns, ⟨mb, ns2 hb, hbb⟩, ⟨mc, ns2 l1, l2⟩⟩
    have en : Env0 P w K mg (hidT s1.heap H) callerA [] s1 H :=
      { frames := rfl, mod := md, bs := fun b o e => of_hidT e, bsz := Nat.le_of_eq (hidT_size _ _), funs := trivial, frf := (fun b hb => nomatch hb), hok := hok, bare := AllBare.of_eq hg }
    have run := (F _ kb (ns2 hns)).goes callerA [] s1 H ⟨[.ref a], []⟩ [.ref a] [.ref a] _ E0 quiet_caller hr en (hbind s1 (.ref a)) (.cons rfl .nil) (hsp H hS)
    refine codeAny_mono run fun r s2 h => ?_
    cases r with
    | error e => exact False.elim h
    | ok fl =>
      cases fl with
      | next => exact False.elim h
      | brk => exact False.elim h
      | cont => exact False.elim h
      | ret u =>
        obtain ⟨v, H2, os, bare, un, hok2, r2, rfl⟩ := h
        cases r2
        refine ⟨rfl, OldK.of_keep fun b o e => ?_, os, bare⟩
        cases q : H b with
        | none => exact un.keep b o e q (fun z => nomatch z) (fun z => nomatch z)
        | some u =>
          obtain ⟨rfl, -, rfl⟩ := hT b u q
          have k1 := (hok b _ q).1
          have k2 := (hok2 b _ (un.frzs b _ _ q)).1
          rw [e] at k1
          rw [k2, k1]
  cases hk : K.lookup a with
  | some o =>
    have e := KX a o hk
    rw [ha] at e
    cases e
    refine from_ (fun _ => none) (Or.inr ⟨_, vs.toArray, _, hk, rfl, rfl, rfl, ?_, ?_⟩) (fun b u z => nomatch z) (fun b u z => nomatch z)
    · rw [List.size_toArray, hi.length]
      exact hl
    · simpa using rv
  | none =>
    have h0 : upd (fun _ => none) a (.frz { cls := .type "list", data := .seq vs.toArray } (.lst (ns.map V.int))) a = some (.frz { cls := .type "list", data := .seq vs.toArray } (.lst (ns.map V.int))) := upd_same
    have one : ∀ b u, upd (fun _ => none) a (.frz { cls := .type "list", data := .seq vs.toArray } (.lst (ns.map V.int))) b = some u → b = a ∧ K.lookup a = none ∧ u = .frz { cls := .type "list", data := .seq vs.toArray } (.lst (ns.map V.int)) := by
      intro b u z
      by_cases hb : b = a
      · subst hb
        rw [h0] at z
        exact ⟨rfl, hk, (Option.some.inj z).symm⟩
      · rw [upd_ne hb] at z
        cases z
    refine from_ _ (Or.inl (Or.inr ⟨_, h0⟩)) (fun b u z => ?_) one
    obtain ⟨rfl, -, rfl⟩ := one b u z
    refine ⟨ha, ?_, vs, _, rv, ha⟩
    rw [List.length_map]
    exact hl
/-- the goal that k_head leaves (case hc) -/
theorem law_walks {l : PySem.W.OpenLaw} {n k : Nat} {q : Program} {loose : List Str} {XP : (Str → Option Value) → Heap → Prop} {YP : World → Heap → Prop} {d : DefRec} {K : Params → PySem.W.Frag} {sp : PySem.W.Frag → Sp} {x : Str}
    (hn : l.most = some n) (hn2 : n ≤ sizeLine) (hdf : d.params.defaults = []) (hr : Room k callerA)
    (hY : ∀ (w : World) (h : Heap), YP w h → (K w.params).In h)
    (F : ∀ (w : World) (mg : Str → Option Value) (fa : Addr) (h : Heap), (K w.params).In h → h.Ns mainGlobals mg → mg d.name = some (.ref fa) →
      ∃ fd : FuncData, (∀ (s : Shared) (u : Value), BindsTo s fd ⟨[u], []⟩ [(x, u)]) ∧
        ∀ base : Heap, (K w.params).In base → base.Ns mainGlobals mg → FnQ l.prog w (K w.params) mg base k fa fd [x] (sp (K w.params)))
    (hsp : ∀ (K : PySem.W.Frag) (H : Hp) (a : Addr) (ns : List Int), ns.length ≤ n → SqL K H a (ns.map V.int) → sp K [.ref a] H (fun v _ => v = .bl true) E0) :
    PySem.W.WalkO q loose XP YP l.row.toRowW d [] (fun f vs => PySem.call f vs) := by
  refine Att.attach_call hn hdf ?_
  intro w s0 s1 mg mb fa o pm cd doc a vs ns G Y ho hd hcd hmg hobj hints hlen hg
  have KX := hY w _ Y
  obtain ⟨fd, hb, hF⟩ := F w mg fa _ KX G.T.g hmg
  exact law_goes KX G.T.g G.T.b G.T.builtins G.T.nolimit hg hobj hints (Nat.le_trans hlen hn2) hr hF hb (fun H hS => hsp (K w.params) H a ns hlen hS)
end Lay
namespace Lay
open PySem PySem.Spec PyProof.Rows L2

/-! ### a def of the text that callers may use -/
structure DefAt (K : PySem.W.Frag) (mg : Str → Option Value) (x : Str) (st : Stmt) (ps : List Str) : Prop where
  ex : ∃ (f : Addr) (fd : FuncData), Fun K x x st f fd ∧ mg x = some (.ref f) ∧ Binds K fd ps []
structure Cal (P : Program) (w : World) (K : PySem.W.Frag) (mg : Str → Option Value) (base : Heap) (x : Str) (k : Nat) (ps : List Str) (sp : Sp) : Prop where
  ex : ∃ (f : Addr) (fd : FuncData), FnQ P w K mg base k f fd ps sp ∧ mg x = some (.ref f) ∧ PySem.W.keepIn K (.ref f) = true ∧ Binds K fd ps []
theorem Cal.lift {P : Program} {w : World} {K : PySem.W.Frag} {mg : Str → Option Value} {base : Heap} {x : Str} {j k : Nat} {ps : List Str} {sp : Sp} (c : Cal P w K mg base x j ps sp) (h : j ≤ k) : Cal P w K mg base x k ps sp := by
  obtain ⟨f, fd, F, m, kp, b⟩ := c.ex
  exact ⟨f, fd, ⟨F.many, fun A o s H ar us vs Q E hq hr he hb hv hs => F.goes A o s H ar us vs Q E hq (hr.mono h) he hb hv hs⟩, m, kp, b⟩
section
variable {P : Program} {w : World} {K : PySem.W.Frag} {mg : Str → Option Value} {base : Heap}
theorem cal_of {x : Str} {st : Stmt} {N ps : List Str} {k : Nat} {sp : Sp} (D : DefAt K mg x st ps) (S : FnScope N ps (defScope st))
    (many : ∀ vs H Q E, sp vs H Q E → vs.length = ps.length)
    (body : ∀ (f : Addr) (cdv : Value) (A : Around) (outer : List Env) (s : Shared) (H : Hp) (vs : List V) (Q : VK) (E : XK), Quiet A → Room k (A.deeper (envOfC x (defScope st) s.heap.objs.size f cdv)) → sp vs H Q E →
      ∃ t, PSs (cxOf CX0 P w K mg base N x (defScope st) f cdv A outer s H E).nox (defBody st) t ∧ t { nx := fun _ H' => Q .non H', rt := Q } (start N vs) H) :
    Cal P w K mg base x (k + 1) ps sp := by
  obtain ⟨f, fd, F, m, b⟩ := D.ex
  exact ⟨f, fd, quiet_def F S many (body f), m, F.kp, b⟩
theorem Cal.fn {x : Str} {k : Nat} {ps : List Str} {sp : Sp} (c : Cal P w K mg base x k ps sp) {fa : Addr} (h : mg x = some (.ref fa)) : ∃ fd, FnQ P w K mg base k fa fd ps sp := by
  obtain ⟨f, fd, F, m, -, -⟩ := c.ex
  rw [m] at h
  cases h
  exact ⟨fd, F⟩
end
section
variable {X : Cx} {k : Nat} {ps : List Str} {sp : Sp} {x : Str} {p pos : Pos} {e : Expr} {es : List Expr} {t : TA}
theorem qc (c : Cal X.prog X.w X.K X.mg X.base x k ps sp) (hq : Quiet X.A) (hr : Room k X.A) (hg : Gl X x)
    (ha : PA X (e :: es) t) (hdb : (x == ("__debug__" : Str)) = false := by decide) (he : starEach (e :: es) X.env = (false, eval e X.env) :: starEach es X.env := by rfl) (hpl : (backTo pos (starEach es X.env)).any (·.1) = false := by rfl) :
    PE X (.Call (.Name x p) (e :: es) [] pos) (tCl sp t) := by
  obtain ⟨f, fd, F, m, kp, b⟩ := c.ex
  exact qcall F hq hr hg m kp b ha hdb he hpl
theorem qc0 (c : Cal X.prog X.w X.K X.mg X.base x k ps sp) (hq : Quiet X.A) (hr : Room k X.A) (hg : Gl X x)
    (hdb : (x == ("__debug__" : Str)) = false := by decide) : PE X (.Call (.Name x p) [] [] pos) (tCl sp tNil) := by
  obtain ⟨f, fd, F, m, kp, b⟩ := c.ex
  exact qcall0 F hq hr hg m kp b hdb
end

/-! ### reading, step by step -/
section
variable {σ : L2.St} {H : Hp} {Q : VK} {ta tb tc te tv : TE} {D : Ends} {v x y : V} {K : PySem.W.Frag}
theorem rd_var {i : Nat} (h : σ[i]? = some (some v)) (q : Q v H) : tVar i σ H Q := ⟨v, h, q⟩
theorem rd_c (q : Q v H) : tC v σ H Q := q
theorem rd_op {r : R2} (q : ta σ H (fun x H1 => tb σ H1 fun y H2 => r x y H2 Q)) : tOp r ta tb σ H Q := q
theorem rd_un {r : V → Hp → VK → Prop} (q : ta σ H (fun x H1 => r x H1 Q)) : tUn r ta σ H Q := q
theorem rd_CB {r : List V → Hp → VK → Prop} {t : TA} (q : t σ H (fun vs H1 => r vs H1 Q)) : tCB r t σ H Q := q
theorem rd_Cl {sp : Sp} {t : TA} (q : t σ H (fun vs H1 => sp vs H1 Q E0)) : tCl sp t σ H Q := q
theorem rd_nil {R : List V → Hp → Prop} (q : R [] H) : tNil σ H R := q
theorem rd_cons {t : TA} {R : List V → Hp → Prop} (q : te σ H (fun x H1 => t σ H1 fun xs H2 => R (x :: xs) H2)) : tCons te t σ H R := q
theorem rd_seq {t u : TS} (q : t { D with nx := u D } σ H) : tSeq t u D σ H := q
theorem rd_next (q : D.nx σ H) : tNext D σ H := q
theorem rd_asg {g : TG} (q : te σ H (fun x H1 => g x σ H1 D.nx)) : tAsg te g D σ H := q
theorem rd_name {i : Nat} {R : L2.St → Hp → Prop} (q : R (σ.set i (some v)) H) : gName i v σ H R := q
theorem rd_ret (q : te σ H D.rt) : tRet te D σ H := q
theorem rd_drop (q : te σ H (fun _ H1 => D.nx σ H1)) : tDrop te D σ H := q
theorem rd_ifS {c : TT} {t u : TS} (q : c σ H (fun b H1 => if b = true then t D σ H1 else u D σ H1)) : tIfS c t u D σ H := q
theorem rd_test {R : Bool → Hp → Prop} (q : te σ H (fun x H' => ∃ k, x = .bl k ∧ R k H')) : tTest te σ H R := q
theorem rd_B {R : Bool → Hp → Prop} (q : te σ H (fun x H' => ∃ k, x = .bl k ∧ R k H')) : tB te σ H R := q
theorem rd_bl {b : Bool} {R : Bool → Prop} (q : R b) : ∃ k, V.bl b = V.bl k ∧ R k := ⟨b, rfl, q⟩
theorem rd_not {t : TT} {R : Bool → Hp → Prop} (q : t σ H (fun c H1 => R (!c) H1)) : tNot t σ H R := q
theorem rd_and {t u : TT} {R : Bool → Hp → Prop} (q : t σ H (fun c H1 => if c = true then u σ H1 R else R false H1)) : tAnd t u σ H R := q
theorem rd_or {t u : TT} {R : Bool → Hp → Prop} (q : t σ H (fun c H1 => if c = true then R true H1 else u σ H1 R)) : tOr t u σ H R := q
theorem rd_andV (q : ta σ H (fun x H1 => ∃ c, x = .bl c ∧ if c = true then tb σ H1 Q else Q (.bl false) H1)) : tAndV ta tb σ H Q := q
theorem rd_orV (q : ta σ H (fun x H1 => ∃ c, x = .bl c ∧ if c = true then Q (.bl true) H1 else tb σ H1 Q)) : tOrV ta tb σ H Q := q
theorem rd_notV (q : ta σ H (fun x H1 => ∃ c, x = .bl c ∧ Q (.bl (!c)) H1)) : tNotV ta σ H Q := q
theorem rd_ifE {t : TT} (q : t σ H (fun c H1 => if c = true then ta σ H1 Q else tb σ H1 Q)) : tIf t ta tb σ H Q := q
theorem rd_chain {r r' : R2} (q : ta σ H (fun x H1 => tb σ H1 fun y H2 => r x y H2 fun z H3 => ∃ k, z = .bl k ∧ (if k = true then tc σ H3 fun w' H4 => r' y w' H4 Q else Q (.bl false) H3))) : tChain r r' ta tb tc σ H Q := q
theorem rd_tup {t : TA} (q : t σ H (fun xs H1 => xs.length ≤ sizeLine ∧ ∀ p, H1 p = none → Q (.ref p) (upd H1 p (.tup xs)))) : tTup t σ H Q := q
theorem rd_lst {t : TA} (q : t σ H (fun xs H1 => xs.length ≤ sizeLine ∧ ∀ p, H1 p = none → Q (.ref p) (upd H1 p (.lst xs)))) : tLst t σ H Q := q
theorem rd_new {n : Nat} {R : Addr → Prop} (hn : n ≤ 1000) (q : ∀ p, H p = none → R p) : n ≤ sizeLine ∧ ∀ p, H p = none → R p := ⟨Nat.le_trans hn (by decide), q⟩
/-- the ifs -/
theorem rd_ite {p : Prop} [Decidable p] {A B : Prop} (h1 : p → A) (h2 : ¬ p → B) : if decide p = true then A else B := by
  by_cases h : p
  · rw [decide_eq_true h]
    exact iteT (h1 h)
  · rw [decide_eq_false h]
    exact iteF (h2 h)
theorem rd_iteN {p : Prop} [Decidable p] {A B : Prop} (h1 : ¬ p → A) (h2 : p → B) : if (!decide p) = true then A else B := by
  by_cases h : p
  · rw [decide_eq_true h]
    exact iteF (h2 h)
  · rw [decide_eq_false h]
    exact iteT (h1 h)
theorem rd_ifb {b : Bool} {A B : Prop} (h1 : b = true → A) (h2 : b = false → B) : if b = true then A else B := by
  cases b with
  | true => exact iteT (h1 rfl)
  | false => exact iteF (h2 rfl)
/-- ints -/
theorem rd_add {i j : Int} (q : Q (.int (i + j)) H) : rI0 (fun i j => .int (i + j)) (.int i) (.int j) H Q := ⟨i, j, rfl, rfl, q⟩
theorem rd_sub {i j : Int} (q : Q (.int (i - j)) H) : rI0 (fun i j => .int (i - j)) (.int i) (.int j) H Q := ⟨i, j, rfl, rfl, q⟩
theorem rd_lt {i j : Int} (q : Q (.bl (decide (i < j))) H) : rI0 (fun i j => .bl (decide (i < j))) (.int i) (.int j) H Q := ⟨i, j, rfl, rfl, q⟩
theorem rd_le {i j : Int} (q : Q (.bl (decide (i ≤ j))) H) : rI0 (fun i j => .bl (decide (i ≤ j))) (.int i) (.int j) H Q := ⟨i, j, rfl, rfl, q⟩
theorem rd_gt {i j : Int} (q : Q (.bl (decide (j < i))) H) : rI0 (fun i j => .bl (decide (j < i))) (.int i) (.int j) H Q := ⟨i, j, rfl, rfl, q⟩
theorem rd_ge {i j : Int} (q : Q (.bl (decide (j ≤ i))) H) : rI0 (fun i j => .bl (decide (j ≤ i))) (.int i) (.int j) H Q := ⟨i, j, rfl, rfl, q⟩
theorem rd_neg {i : Int} (q : Q (.int (-i)) H) : rU (fun i => .int (-i)) (.int i) H Q := ⟨i, rfl, q⟩
theorem rd_mul {i j : Int} (h : CMul i j) (q : Q (.int (i * j)) H) : rI CMul (fun i j => .int (i * j)) (.int i) (.int j) H Q := ⟨i, j, rfl, rfl, h, q⟩
theorem rd_mulW {i j : Int} (h : CMulW i j) (q : Q (.int (i * j)) H) : rI CMulW (fun i j => .int (i * j)) (.int i) (.int j) H Q := ⟨i, j, rfl, rfl, h, q⟩
theorem rd_pow {i j : Int} (h : CPow i j) (q : Q (.int (i ^ j.toNat)) H) : rI CPow (fun i j => .int (i ^ j.toNat)) (.int i) (.int j) H Q := ⟨i, j, rfl, rfl, h, q⟩
theorem rd_powW {i j : Int} (h : CPowW i j) (q : Q (.int (i ^ j.toNat)) H) : rI CPowW (fun i j => .int (i ^ j.toNat)) (.int i) (.int j) H Q := ⟨i, j, rfl, rfl, h, q⟩
theorem rd_mod {i j : Int} (h : 0 < j) (q : Q (.int (i % j)) H) : rI (fun _ j => 0 < j) (fun i j => .int (i % j)) (.int i) (.int j) H Q := ⟨i, j, rfl, rfl, h, q⟩
theorem rd_fdivW {i j : Int} (h : CDivW i j) (q : Q (.int (i / j)) H) : rI CDivW (fun i j => .int (i / j)) (.int i) (.int j) H Q := ⟨i, j, rfl, rfl, h, q⟩
theorem rd_eq (h : scal x y = true) (q : Q (.bl (decide (x = y))) H) : rEq x y H Q := ⟨h, q⟩
theorem rd_ne (h : scal x y = true) (q : Q (.bl (!decide (x = y))) H) : rNe x y H Q := ⟨h, q⟩
theorem int_eq {i j : Int} : decide (V.int i = V.int j) = decide (i = j) := by
  by_cases h : i = j
  · subst h
    rw [decide_eq_true rfl, decide_eq_true rfl]
  · rw [decide_eq_false h, decide_eq_false (fun z => h (V.int.inj z))]
theorem rd_eqI {i j : Int} (q : Q (.bl (decide (i = j))) H) : rEq (.int i) (.int j) H Q := ⟨rfl, by rw [int_eq]; exact q⟩
theorem rd_neI {i j : Int} (q : Q (.bl (!decide (i = j))) H) : rNe (.int i) (.int j) H Q := ⟨rfl, by rw [int_eq]; exact q⟩
theorem rd_ixL {p : Addr} {xs : List V} {i : Int} (h : SqL K H p xs) (ha : atI xs i = some v) (q : Q v H) : rIxL K (.ref p) (.int i) H Q := ⟨p, xs, i, v, rfl, rfl, h, ha, q⟩
theorem rd_ixT {p : Addr} {xs : List V} {i : Int} (h : SqT K H p xs) (ha : atI xs i = some v) (q : Q v H) : rIxT K (.ref p) (.int i) H Q := ⟨p, xs, i, v, rfl, rfl, h, ha, q⟩
end

/-! ### relations by name -/
def rInt : List V → Hp → VK → Prop := fun xs H Q => (∃ i, xs = [.int i] ∧ Q (.int i) H) ∨ ∃ k, xs = [.bl k] ∧ Q (.int (if k then 1 else 0)) H
def rAbs : List V → Hp → VK → Prop := fun xs H Q => ∃ i, xs = [.int i] ∧ Q (.int (if i < 0 then -i else i)) H
def rMx2 : List V → Hp → VK → Prop := fun xs H Q => ∃ i j, xs = [.int i, .int j] ∧ Q (.int (if j > i then j else i)) H
def rMn2 : List V → Hp → VK → Prop := fun xs H Q => ∃ i j, xs = [.int i, .int j] ∧ Q (.int (if j < i then j else i)) H
def rLenQ (K : PySem.W.Frag) : List V → Hp → VK → Prop := fun xs H Q => ∃ p ys, xs = [.ref p] ∧ (SqL K H p ys ∨ SqT K H p ys) ∧ Q (.int ys.length) H
def rLenZ : List V → Hp → VK → Prop := fun xs H Q => ∃ z, xs = [.str z] ∧ z.length ≤ sizeLine ∧ Q (.int z.length) H
def rLenA (K : PySem.W.Frag) : List V → Hp → VK → Prop := fun xs H Q => rLenQ K xs H Q ∨ rLenZ xs H Q
def rTupOf (K : PySem.W.Frag) : List V → Hp → VK → Prop := fun xs H Q => ∃ p ys, xs = [.ref p] ∧ ((SqL K H p ys ∧ ∀ l, H l = none → Q (.ref l) (upd H l (.tup ys))) ∨ (SqT K H p ys ∧ Q (.ref p) H))
def rLstOf (K : PySem.W.Frag) : List V → Hp → VK → Prop := fun xs H Q => ∃ p ys, xs = [.ref p] ∧ (SqL K H p ys ∨ SqT K H p ys) ∧ ∀ l, H l = none → Q (.ref l) (upd H l (.lst ys))
def rLtZ : R2 := fun x y H Q => ∃ i j, x = .str i ∧ y = .str j ∧ Q (.bl (decide (i.cps.toList < j.cps.toList))) H
def rLeZ : R2 := fun x y H Q => ∃ i j, x = .str i ∧ y = .str j ∧ Q (.bl (!decide (j.cps.toList < i.cps.toList))) H
def rGtZ : R2 := fun x y H Q => ∃ i j, x = .str i ∧ y = .str j ∧ Q (.bl (decide (j.cps.toList < i.cps.toList))) H
def rGeZ : R2 := fun x y H Q => ∃ i j, x = .str i ∧ y = .str j ∧ Q (.bl (!decide (i.cps.toList < j.cps.toList))) H
def rCatZ : R2 := fun x y H Q => ∃ i j, x = .str i ∧ y = .str j ∧ i.length + j.length ≤ sizeLine ∧ Q (.str (i ++ j)) H
section
variable {X : Cx}
theorem q_int : CallR X (.type "int") rInt := call_int1
theorem q_abs : CallR X (.builtin "abs") rAbs := call_abs
theorem q_max2 (hc : X.calm = true) : CallR X (.builtin "max") rMx2 := call_max2 hc
theorem q_min2 (hc : X.calm = true) : CallR X (.builtin "min") rMn2 := call_min2 hc
theorem q_lenQ : CallR X (.builtin "len") (rLenQ X.K) := call_len_seq
theorem q_lenZ : CallR X (.builtin "len") rLenZ := call_len_str
theorem q_lenA : CallR X (.builtin "len") (rLenA X.K) := CallR.or q_lenQ q_lenZ
theorem q_tupOf : CallR X (.type "tuple") (rTupOf X.K) := call_tuple_of
theorem q_lstOf : CallR X (.type "list") (rLstOf X.K) := call_list_of
theorem q_ltZ : OpR X (compareOp .Lt) rLtZ := op_lt_str
theorem q_leZ : OpR X (compareOp .LtE) rLeZ := op_le_str
theorem q_gtZ : OpR X (compareOp .Gt) rGtZ := op_gt_str
theorem q_geZ : OpR X (compareOp .GtE) rGeZ := op_ge_str
theorem q_catZ : OpR X (binaryOp .Add) rCatZ := op_add_str
end
section
variable {H : Hp} {Q : VK} {K : PySem.W.Frag}
theorem rd_int1 {i : Int} (q : Q (.int i) H) : rInt [V.int i] H Q := Or.inl ⟨i, rfl, q⟩
theorem rd_int1b {b : Bool} (q : Q (.int (if b then 1 else 0)) H) : rInt [V.bl b] H Q := Or.inr ⟨b, rfl, q⟩
theorem rd_abs {i : Int} (q : Q (.int (if i < 0 then -i else i)) H) : rAbs [V.int i] H Q := ⟨i, rfl, q⟩
theorem rd_max2 {i j : Int} (q : Q (.int (if j > i then j else i)) H) : rMx2 [V.int i, V.int j] H Q := ⟨i, j, rfl, q⟩
theorem rd_min2 {i j : Int} (q : Q (.int (if j < i then j else i)) H) : rMn2 [V.int i, V.int j] H Q := ⟨i, j, rfl, q⟩
theorem rd_lenL {p : Addr} {ys : List V} (h : SqL K H p ys) (q : Q (.int ys.length) H) : rLenQ K [V.ref p] H Q := ⟨p, ys, rfl, Or.inl h, q⟩
theorem rd_lenT {p : Addr} {ys : List V} (h : SqT K H p ys) (q : Q (.int ys.length) H) : rLenQ K [V.ref p] H Q := ⟨p, ys, rfl, Or.inr h, q⟩
theorem rd_lenS {z : Str} (h : z.length ≤ sizeLine) (q : Q (.int z.length) H) : rLenZ [V.str z] H Q := ⟨z, rfl, h, q⟩
theorem rd_ltZ {i j : Str} (q : Q (.bl (decide (i.cps.toList < j.cps.toList))) H) : rLtZ (.str i) (.str j) H Q := ⟨i, j, rfl, rfl, q⟩
theorem rd_leZ {i j : Str} (q : Q (.bl (!decide (j.cps.toList < i.cps.toList))) H) : rLeZ (.str i) (.str j) H Q := ⟨i, j, rfl, rfl, q⟩
theorem rd_gtZ {i j : Str} (q : Q (.bl (decide (j.cps.toList < i.cps.toList))) H) : rGtZ (.str i) (.str j) H Q := ⟨i, j, rfl, rfl, q⟩
theorem rd_geZ {i j : Str} (q : Q (.bl (!decide (i.cps.toList < j.cps.toList))) H) : rGeZ (.str i) (.str j) H Q := ⟨i, j, rfl, rfl, q⟩
theorem rd_catZ {i j : Str} (h : i.length + j.length ≤ sizeLine) (q : Q (.str (i ++ j)) H) : rCatZ (.str i) (.str j) H Q := ⟨i, j, rfl, rfl, h, q⟩
end
/-! ### heaps -/
theorem up_old {H : Hp} {a p : Addr} {o u : HO} (hp : H p = none) (h : H a = some o) : upd H p u a = some o := by
  rw [upd_ne (ne_of_none h hp)]
  exact h
theorem up_oth {H : Hp} {a b : Addr} {o u : HO} (hne : b ≠ a) (h : H b = some o) : upd H a u b = some o := by
  rw [upd_ne hne]
  exact h
theorem sq_old {K : PySem.W.Frag} {H : Hp} {a p : Addr} {u : HO} {xs : List V} (hp : H p = none) (h : SqL K H a xs) : SqL K (upd H p u) a xs := by
  rcases h with (h | ⟨o, h⟩) | h
  · exact Or.inl (Or.inl (up_old hp h))
  · exact Or.inl (Or.inr ⟨o, up_old hp h⟩)
  · exact Or.inr h
theorem at_z {α : Type} {xs : List α} {z : Int} {v : α} (h0 : 0 ≤ z) (h : xs[z.toNat]? = some v) : atI xs z = some v := by
  have e : z = ((z.toNat : Nat) : Int) := by omega
  rw [e]
  exact atI_nat h

/-! ### the bag -/
/-- a bag stands at a -/
def BagAt (H : Hp) (a : Addr) : Prop := ∃ g m c : Int, H a = some (.lst [.int g, .int m, .int c]) ∧ 0 ≤ g ∧ 0 ≤ m ∧ 0 ≤ c
/-- all but what stands at a is as it was -/
def But (a : Addr) (H H' : Hp) : Prop := ∀ b o, b ≠ a → H b = some o → H' b = some o
theorem But.refl (a : Addr) (H : Hp) : But a H H := fun _ _ _ h => h
theorem But.trans {a : Addr} {H H1 H2 : Hp} (x : But a H H1) (y : But a H1 H2) : But a H H2 := fun b o n h => y b o n (x b o n h)
theorem But.new {a p : Addr} {H : Hp} {u : HO} (hp : H p = none) : But a H (upd H p u) := fun _ _ _ h => up_old hp h
theorem But.upd {a : Addr} {H : Hp} {u : HO} : But a H (upd H a u) := fun _ _ n h => up_oth n h
theorem But.sq {K : PySem.W.Frag} {a b : Addr} {H H' : Hp} {xs : List V} (x : But a H H') (n : b ≠ a) (h : SqL K H b xs) : SqL K H' b xs := by
  rcases h with (h | ⟨o, h⟩) | h
  · exact Or.inl (Or.inl (x _ _ n h))
  · exact Or.inl (Or.inr ⟨o, x _ _ n h⟩)
  · exact Or.inr h
theorem BagAt.old {H : Hp} {a p : Addr} {u : HO} (hp : H p = none) (h : BagAt H a) : BagAt (upd H p u) a := by
  obtain ⟨g, m, c, e, r⟩ := h
  exact ⟨g, m, c, up_old hp e, r⟩
def spBag (K : PySem.W.Frag) : Sp := fun vs H Q _ => ∃ (a : Addr) (ns : List Int) (i : Nat), vs = [.ref a, .int (i : Int)] ∧ SqL K H a (ns.map V.int) ∧
  ∀ p H', H p = none → Same H H' → BagAt H' p → Q (.ref p) H'
def spDraw : Sp := fun vs H Q _ => ∃ (a : Addr) (n : Int), vs = [.ref a, .int n] ∧ BagAt H a ∧ 1 ≤ n ∧ n < 1000000 ∧
  ∀ (k : Int) (H' : Hp), 0 ≤ k → k < n → But a H H' → BagAt H' a → Q (.int k) H'
end Lay
namespace Lay
open PySem PySem.Spec PyProof.Rows L2
/-- one of the items of a list, or one sign of a text -/
def spOne (K : PySem.W.Frag) : Sp := fun vs H Q _ => ∃ (a : Addr) (it : V), vs = [.ref a, it] ∧ BagAt H a ∧
  ((∃ l xs, it = .ref l ∧ l ≠ a ∧ SqL K H l xs ∧ 0 < xs.length ∧ xs.length ≤ 1000 ∧ ∀ v H', v ∈ xs → But a H H' → BagAt H' a → Q v H') ∨
   (∃ z, it = .str z ∧ 0 < z.length ∧ z.length ≤ 1000 ∧ ∀ c H', c ∈ z.cps.toList → But a H H' → BagAt H' a → Q (.str ⟨#[c]⟩) H'))
/-- which built-in names the text leaves as they are -/
def Bare (mg : Str → Option Value) (x : Str) : Prop := mg x = none
end Lay
namespace Lay
open PySem PySem.Spec PyProof.Rows L2
theorem at_nat {α : Type} {xs : List α} {j : Nat} {v : α} (h : xs[j]? = some v) : atI xs (j : Int) = some v := atI_nat h
end Lay
namespace Lay
open PySem PySem.Spec PyProof.Rows L2
theorem rd_at {t : TS} {D : Ends} {σ : L2.St} {H : Hp} (σ2 : L2.St) (e : σ = σ2) (q : t D σ2 H) : t D σ H := by
  rw [e]
  exact q
end Lay
namespace Lay
open PySem PySem.Spec PyProof.Rows L2
theorem rd_gsub {to ti : TE} {t : TSet} {v : V} {σ : L2.St} {H : Hp} {R : L2.St → Hp → Prop} (q : to σ H (fun o H1 => ti σ H1 fun i H2 => t o i v H2 fun H3 => R σ H3)) : gSub to ti t v σ H R := q
theorem rd_setL {p : Addr} {xs ys : List V} {k : Int} {j : Nat} {v : V} {H : Hp} {R : Hp → Prop} (h : H p = some (.lst xs)) (hk : ixN xs.length k = some j) (e : xs.set j v = ys) (q : R (upd H p (.lst ys))) : rSetL (.ref p) (.int k) v H R := by
  subst e
  exact ⟨p, xs, k, j, rfl, rfl, h, hk, q⟩
theorem mul_lit {i j : Int} (h : -(2 ^ 64) < i ∧ i < 2 ^ 64) : CMul i j := Or.inl h
theorem mul_rit {i j : Int} (h : -(2 ^ 64) < j ∧ j < 2 ^ 64) : CMul i j := Or.inr h
end Lay
namespace Lay
open PySem PySem.Spec PyProof.Rows L2
section
variable {te ta tb : TE} {σ : L2.St} {H : Hp} {Q : VK} {D : Ends} {K : PySem.W.Frag}
/-- what is read up to here is told by P, whatever follows -/
theorem rd_with (P : V → Hp → Prop) (k : ∀ Q' : VK, (∀ v H1, P v H1 → Q' v H1) → te σ H Q') (r : ∀ v H1, P v H1 → Q v H1) : te σ H Q := k Q r
/-- a statement's end told by P; it may leave by returns that rt tells -/
theorem rd_withS {t : TS} (P : L2.St → Hp → Prop) (k : ∀ D' : Ends, (∀ σ1 H1, P σ1 H1 → D'.nx σ1 H1) → (∀ v H1, D.rt v H1 → D'.rt v H1) → t D' σ H) (r : ∀ σ1 H1, P σ1 H1 → D.nx σ1 H1) : t D σ H := k D r (fun _ _ h => h)
theorem rd_sl {r : V → Option Int → Option Int → Hp → VK → Prop} {tl th : TO} (q : te σ H (fun x H1 => tl σ H1 fun l H2 => th σ H2 fun u H3 => r x l u H3 Q)) : tSl r te tl th σ H Q := q
theorem rd_noP {R : Option Int → Hp → Prop} (q : R none H) : tNoPart σ H R := q
theorem rd_part {R : Option Int → Hp → Prop} (q : te σ H (fun x H1 => ∃ i, x = .int i ∧ R (some i) H1)) : tPart te σ H R := q
theorem rd_i {i : Int} {R : Int → Prop} (q : R i) : ∃ j, V.int i = V.int j ∧ R j := ⟨i, rfl, q⟩
theorem rd_slL {a : Addr} {xs : List V} {lo hi : Option Int} (h : SqL K H a xs) (q : ∀ p, H p = none → Q (.ref p) (upd H p (.lst (cutV xs lo hi)))) : rSlL K (.ref a) lo hi H Q := ⟨a, xs, rfl, h, q⟩
theorem rd_sum {a : Addr} {ns : List Int} (h : SqL K H a (ns.map V.int)) (q : Q (.int ns.sum) H) : rSum K [V.ref a] H Q := ⟨a, ns, rfl, h, q⟩
theorem rd_all {a : Addr} {bs : List Bool} (h : SqL K H a (bs.map V.bl)) (q : Q (.bl (bs.all id)) H) : rAll K [V.ref a] H Q := ⟨a, bs, rfl, h, q⟩
theorem rd_ixA {it : V} {i : Int} (h : rIxL K it (.int i) H Q ∨ rIxT K it (.int i) H Q ∨ rIxS it (.int i) H Q) : rIx K it (.int i) H Q := h
end
theorem cut_ints (ns : List Int) (lo hi : Option Int) : ∃ ms : List Int, cutV (ns.map V.int) lo hi = ms.map V.int := by
  refine ⟨(ns.drop (HT.sIx ns.length 0 lo)).take (HT.sIx ns.length ns.length hi - HT.sIx ns.length 0 lo), ?_⟩
  unfold cutV
  rw [List.map_take, List.map_drop, List.length_map]
end Lay
namespace Lay
open PySem PySem.Spec PyProof.Rows L2
/-! ### loops and comprehensions -/
section
variable {σ : L2.St} {H H1 : Hp} {Q : VK} {D : Ends} {K : PySem.W.Frag}
/-- what a for asks once it stands -/
def ForAt (J : It) (g : TG) (tb : TS) (D : Ends) (σ : L2.St) (H1 : Hp) : Prop := ∃ W : Nat → Nat → L2.St → Hp → Prop, (∃ m, W 0 m σ H1) ∧ ∀ i m σ H, W i m σ H →
  (J.stop i H ∧ D.nx σ H) ∨ (J.go i H ∧ ∃ N : L2.St → Hp → Prop, (∀ σ' H', N σ' H' → ∃ m', m' < m ∧ W (i + 1) m' σ' H') ∧ ∀ x H', J.yld i H x H' → g x σ H' fun σ2 H2 => tb { D with nx := N, ct := N, bk := D.nx } σ2 H2)
theorem rd_for {wi : TI} {g : TG} {tb : TS} (q : wi σ H (fun J H1 => ForAt J g tb D σ H1)) : tFor wi g tb D σ H := q
theorem rd_rng1 {ta : TA} {R : It → Hp → Prop} (q : ta σ H (fun vs H1 => ∃ j : Int, vs = [.int j] ∧ -(2 ^ 62) ≤ j ∧ j < 2 ^ 62 ∧ R (Itr 0 j.toNat) H1)) : iRng1 ta σ H R := q
theorem rd_iTup {te : TE} {R : It → Hp → Prop} (q : te σ H (fun x H1 => ∃ a, x = .ref a ∧ (∃ xs, SqT K H1 a xs) ∧ R (Itt K a) H1)) : iTup K te σ H R := q
theorem rd_iList {te : TE} {R : It → Hp → Prop} (q : te σ H (fun x H1 => ∃ a, x = .ref a ∧ (∃ xs, SqL K H1 a xs) ∧ R (Itl K a) H1)) : iList K te σ H R := q
theorem rd_iStr {te : TE} {R : It → Hp → Prop} (q : te σ H (fun x H1 => ∃ z, x = .str z ∧ R (Its z) H1)) : iStr te σ H R := q
theorem for_rng {n : Nat} {g : TG} {tb : TS} (Pv : Nat → L2.St → Hp → Prop) (h0 : Pv 0 σ H)
    (hs : ∀ i σ H, i < n → Pv i σ H → g (.int (0 + i)) σ H fun σ2 H2 => tb { D with nx := Pv (i + 1), ct := Pv (i + 1), bk := D.nx } σ2 H2) (hd : ∀ σ H, Pv n σ H → D.nx σ H) : ForAt (Itr 0 n) g tb D σ H :=
  for_range Pv h0 hs hd
/-- what a comprehension asks once its list stands at D -/
def LcAt (J : It) (g : TG) (tt : TT) (te : TE) (vs : List Nat) (σ : L2.St) (E : Addr) (H1 : Hp) (Q : VK) : Prop := ∃ W : Nat → Nat → Hp → Prop, (∃ m, W 0 m (upd H1 E (.lst []))) ∧ ∀ i m H, W i m H →
  (J.stop i H ∧ Q (.ref E) H) ∨ (J.go i H ∧ ∃ Nx : Hp → Prop, (∀ H', Nx H' → ∃ m', m' < m ∧ W (i + 1) m' H') ∧ ∀ x H', J.yld i H x H' → g x (wipe σ vs) H' fun σ2 H2 => wipe σ2 vs = wipe σ vs ∧ tt σ2 H2 fun b H3 =>
    if b = true then te σ2 H3 fun y H4 => ∃ acc, H4 E = some (.lst acc) ∧ acc.length < sizeLine ∧ Nx (upd H4 E (.lst (acc ++ [y]))) else Nx H3)
theorem rd_lc {wi : TI} {g : TG} {tt : TT} {te : TE} {vs : List Nat} (q : wi σ H (fun J H1 => ∀ E, H1 E = none → LcAt J g tt te vs σ E H1 Q)) : tLc wi g tt te vs σ H Q := q
theorem wipe1 (σ : L2.St) (i : Nat) (x : V) : wipe ((wipe σ [i]).set i (some x)) [i] = wipe σ [i] := by
  show ((σ.set i none).set i (some x)).set i none = σ.set i none
  rw [List.set_set, List.set_set]
theorem same_up {H1 H' : Hp} {E : Addr} {u : HO} (hE : H1 E = none) (s : Same H1 H') : Same H1 (upd H' E u) := fun b o e => by
  rw [upd_ne (ne_of_none e hE)]
  exact s b o e
/-- a walk that leaves the heap as it is and yields n items -/
structure Wk (J : It) (n : Nat) (G : Hp → Prop) (item : Nat → V) : Prop where
  stop : ∀ H, G H → J.stop n H
  go : ∀ i H, G H → i < n → J.go i H
  yld : ∀ i H x H', G H → i < n → J.yld i H x H' → H' = H ∧ x = item i
theorem wk_rng (n : Nat) : Wk (Itr 0 n) n (fun _ => True) (fun i => .int (0 + (i : Int))) := ⟨fun _ _ => Nat.le_refl _, fun _ _ _ h => h, fun _ _ _ _ _ _ h => h⟩
theorem wk_tup {a : Addr} {xs : List V} (d : V) : Wk (Itt K a) xs.length (fun H => SqT K H a xs) (fun i => xs.getD i d) :=
  ⟨fun H h => ⟨xs, h, Nat.le_refl _⟩, fun i H h hi => ⟨xs, xs[i], h, List.getElem?_eq_getElem hi⟩, fun i H x H' h hi y => by
    obtain ⟨e, y⟩ := y
    refine ⟨e, ?_⟩
    have z := y xs h
    show x = xs.getD i d
    rw [List.getD_eq_getElem?_getD, z]
    rfl⟩
theorem wk_list {a : Addr} {xs : List V} (d : V) : Wk (Itl K a) xs.length (fun H => SqL K H a xs) (fun i => xs.getD i d) :=
  ⟨fun H h => ⟨xs, h, Nat.le_refl _⟩, fun i H h hi => ⟨xs, xs[i], h, List.getElem?_eq_getElem hi⟩, fun i H x H' h hi y => by
    obtain ⟨e, y⟩ := y
    refine ⟨e, ?_⟩
    have z := y xs h
    show x = xs.getD i d
    rw [List.getD_eq_getElem?_getD, z]
    rfl⟩
theorem wk_str (z : Str) : Wk (Its z) z.cps.size (fun _ => True) (fun i => .str ⟨#[z.cps.toList.getD i 0]⟩) :=
  ⟨fun _ _ => Nat.le_refl _, fun _ _ _ h => h, fun i H x H' _ hi y => by
    obtain ⟨e, c, hc, rfl⟩ := y
    refine ⟨e, ?_⟩
    show V.str ⟨#[c]⟩ = V.str ⟨#[z.cps.toList.getD i 0]⟩
    rw [List.getD_eq_getElem?_getD, Array.getElem?_toList, hc]
    rfl⟩
/-- [f(x) for x in .. if b(x)], all of it leaving what stands -/
theorem lc_same {J : It} {n : Nat} {G : Hp → Prop} {item : Nat → V} (w : Wk J n G item) {i : Nat} {tt : TT} {te : TE} {E : Addr} (hn : n ≤ 1000) (hE : H1 E = none) (hG : ∀ H', Same H1 H' → G H') (b : Nat → Bool) (f : Nat → V)
    (ht : ∀ j, j < n → ∀ H', Same H1 H' → ∀ R : Bool → Hp → Prop, (∀ H'', Same H' H'' → R (b j) H'') → tt ((wipe σ [i]).set i (some (item j))) H' R)
    (he : ∀ j, j < n → b j = true → ∀ H', Same H1 H' → ∀ R : VK, (∀ H'', Same H' H'' → R (f j) H'') → te ((wipe σ [i]).set i (some (item j))) H' R)
    (hd : ∀ H', Same H1 H' → H' E = some (.lst (((List.range n).filter b).map f)) → Q (.ref E) H') : LcAt J (gName i) tt te [i] σ E H1 Q := by
  have small : ∀ m, m ≤ n → ((((List.range m).filter b).map f)).length ≤ m := fun m _ => by
    rw [List.length_map]
    exact Nat.le_trans (List.length_filter_le _ _) (Nat.le_of_eq List.length_range)
  refine ⟨fun k m H' => m = n - k ∧ k ≤ n ∧ Same H1 H' ∧ H' E = some (.lst (((List.range k).filter b).map f)), ⟨n, rfl, Nat.zero_le _, same_up hE (Same.refl H1), upd_same⟩, ?_⟩
  rintro k m H' ⟨rfl, hk, hs, hl⟩
  by_cases hlt : k < n
  · refine Or.inr ⟨w.go k H' (hG H' hs) hlt, fun H'' => Same H1 H'' ∧ H'' E = some (.lst (((List.range (k + 1)).filter b).map f)), fun H'' h => ⟨n - (k + 1), by omega, rfl, hlt, h.1, h.2⟩, fun x H2 hy => ?_⟩
    obtain ⟨rfl, rfl⟩ := w.yld k H' x H2 (hG H' hs) hlt hy
    refine ⟨wipe1 σ i _, ?_⟩
    refine ht k hlt H2 hs _ fun H3 s3 => ?_
    refine rd_ifb (fun hb => ?_) (fun hb => ?_)
    · refine he k hlt hb H3 (hs.trans s3) _ fun H4 s4 => ?_
      refine ⟨_, s4 _ _ (s3 _ _ hl), Nat.lt_of_le_of_lt (Nat.le_trans (small k (by omega)) (by omega : k ≤ 1000)) (by decide), same_up hE ((hs.trans s3).trans s4), ?_⟩
      rw [upd_same, List.range_succ, List.filter_append, List.map_append]
      simp [hb]
    · refine ⟨hs.trans s3, ?_⟩
      rw [s3 _ _ hl, List.range_succ, List.filter_append]
      simp [hb]
  · have e : k = n := by omega
    subst e
    exact Or.inl ⟨w.stop H' (hG H' hs), hd H' hs hl⟩
theorem rd_yes {R : Bool → Hp → Prop} (q : R true H) : tYes σ H R := q
theorem rd_bits {te : TE} (q : te σ H (fun x H1 => ∃ i, x = .int i ∧ Q (.int (Builtin.Int.intBits i : Nat)) H1)) : tBits te σ H Q := q
/-- [f(bag) for .. in range(n)]: each turn draws from the bag -/
theorem lc_bag {n i : Nat} {te : TE} {E a : Addr} (hn : n ≤ 1000) (hE : H1 E = none) (hb : BagAt H1 a) (P : V → Prop)
    (he : ∀ j, j < n → ∀ H', But a H1 H' → BagAt H' a → ∀ R : VK, (∀ v H'', P v → But a H' H'' → BagAt H'' a → R v H'') → te ((wipe σ [i]).set i (some (.int (0 + (j : Int))))) H' R)
    (hd : ∀ ys H', ys.length = n → (∀ y ∈ ys, P y) → But a H1 H' → BagAt H' a → H' E = some (.lst ys) → Q (.ref E) H') : LcAt (Itr 0 n) (gName i) tYes te [i] σ E H1 Q := by
  have nE : E ≠ a := fun z => by
    obtain ⟨_, _, _, e, _⟩ := hb
    rw [← z, hE] at e
    cases e
  refine ⟨fun k m H' => m = n - k ∧ k ≤ n ∧ ∃ ys : List V, ys.length = k ∧ (∀ y ∈ ys, P y) ∧ But a H1 H' ∧ BagAt H' a ∧ H' E = some (.lst ys), ⟨n, rfl, Nat.zero_le _, [], rfl, (fun _ z => nomatch z), But.new hE, BagAt.old hE hb, upd_same⟩, ?_⟩
  rintro k m H' ⟨rfl, hk, ys, hy, hP, bu, hb', hl⟩
  by_cases hlt : k < n
  · refine Or.inr ⟨hlt, fun H'' => ∃ ys : List V, ys.length = k + 1 ∧ (∀ y ∈ ys, P y) ∧ But a H1 H'' ∧ BagAt H'' a ∧ H'' E = some (.lst ys), fun H'' h => ⟨n - (k + 1), by omega, rfl, hlt, h⟩, fun x H2 hx => ?_⟩
    obtain ⟨rfl, rfl⟩ := hx
    refine ⟨wipe1 σ i _, ?_⟩
    refine rd_yes ?_
    refine rd_ifb (fun _ => ?_) (fun z => nomatch z)
    refine he k hlt H2 bu hb' _ fun v H3 hv b3 g3 => ?_
    refine ⟨ys, b3 _ _ nE hl, Nat.lt_of_le_of_lt (by omega : ys.length ≤ 1000) (by decide), ys ++ [v], by simp [hy], ?_, ?_, ?_, upd_same⟩
    · intro y hy
      rcases List.mem_append.mp hy with z | z
      · exact hP y z
      · cases List.mem_singleton.mp z
        exact hv
    · intro b o nb e
      rw [upd_ne (ne_of_none e hE)]
      exact b3 b o nb (bu b o nb e)
    · obtain ⟨g, m, c, e, r⟩ := g3
      exact ⟨g, m, c, up_oth nE.symm e, r⟩
  · have e : k = n := by omega
    subst e
    exact Or.inl ⟨Nat.le_refl _, hd ys H' hy hP bu hb' hl⟩
end
theorem pow10_abs (m : Nat) : ((10 : Int) ^ m).natAbs < 2 ^ (4 * m + 1) := by
  have h1 : ((10 : Int) ^ m).natAbs = 10 ^ m := by
    rw [Int.natAbs_pow]
    rfl
  rw [h1, Nat.pow_succ, Nat.pow_mul]
  have h2 : (10 : Nat) ^ m ≤ (2 ^ 4) ^ m := Nat.pow_le_pow_left (by decide) m
  have h3 : 0 < ((2 : Nat) ^ 4) ^ m := Nat.pow_pos (by decide)
  omega
theorem pow10_mul {a b : Nat} (h : a + b ≤ 100000) : CMulW ((10 : Int) ^ a) ((10 : Int) ^ b) := wide_mul (pow10_abs a) (pow10_abs b) (by omega) (by omega) (by omega)
end Lay
namespace Lay
open PySem PySem.Spec PyProof.Rows L2
theorem bits_short {i : Int} (h : Builtin.Int.intBits i ≤ 6000) : i.natAbs < 10 ^ 2000 := by
  have h1 : i.natAbs < 2 ^ 6000 := by
    unfold Builtin.Int.intBits at h
    by_cases z : i = 0
    · subst z
      exact Nat.pow_pos (by decide)
    · rw [if_neg (by simpa using z)] at h
      have z2 : i.natAbs ≠ 0 := by omega
      exact (Nat.log2_lt z2).mp (by omega)
  have h2 : (2 : Nat) ^ 6000 = (2 ^ 3) ^ 2000 := by rw [← Nat.pow_mul]
  have h3 : ((2 : Nat) ^ 3) ^ 2000 ≤ 10 ^ 2000 := Nat.pow_le_pow_left (by decide) 2000
  omega
end Lay
namespace Lay
open PySem PySem.Spec PyProof.Rows L2
section
variable {σ : L2.St} {H H1 : Hp} {Q : VK} {D : Ends} {K : PySem.W.Frag}
theorem rd_s {z : Str} {R : Str → Prop} (q : R z) : ∃ j, V.str z = V.str j ∧ R j := ⟨z, rfl, q⟩
theorem rd_r {p : Addr} {R : Addr → Prop} (q : R p) : ∃ a, V.ref p = V.ref a ∧ R a := ⟨p, rfl, q⟩
theorem rd_isi {v : V} {T n : String} {b : Bool} (ty : TyX K H v (.type T)) (hb : kitB T n = some b) (q : Q (.bl b) H) : rIsi K [v, .ty n] H Q := ⟨v, .ty n, _, _, b, rfl, ClsV.ty n, ty, kit_ty hb, q⟩
end
theorem range_getD {α : Type} (d : α) : ∀ l : List α, (List.range l.length).map (fun j => l.getD j d) = l := fun l => by
  apply List.ext_getElem?
  intro i
  rw [List.getElem?_map]
  by_cases h : i < l.length
  · rw [List.getElem?_range h]
    simp [List.getD_eq_getElem?_getD, h]
  · rw [List.getElem?_eq_none (by rw [List.length_range]; omega), List.getElem?_eq_none (by omega)]
    rfl
theorem range_all {α : Type} (d : α) (l : List α) (g : α → Bool) : (List.range l.length).all (fun j => g (l.getD j d)) = l.all g := by
  have e := range_getD d l
  calc (List.range l.length).all (fun j => g (l.getD j d)) = ((List.range l.length).map (fun j => l.getD j d)).all g := by rw [List.all_map]; rfl
    _ = l.all g := by rw [e]
theorem filt_yes {α : Type} (l : List α) : l.filter (fun _ => true) = l := List.filter_eq_self.mpr fun _ _ => rfl
end Lay
namespace Lay
open PySem PySem.Spec PyProof.Rows L2
section
variable {σ : L2.St} {H H1 : Hp} {Q : VK} {D : Ends} {K : PySem.W.Frag}
/-- a comprehension over anything that leaves what stands; S tells the slots of a turn -/
theorem lc_gen {J : It} {n : Nat} {G : Hp → Prop} {g : TG} {vs : List Nat} {tt : TT} {te : TE} {E : Addr} (Y : Nat → V → Hp → Prop) (S : Nat → L2.St → Hp → Prop)
    (stop : ∀ H', G H' → J.stop n H') (go : ∀ i H', G H' → i < n → J.go i H') (yld : ∀ i H' x H'', G H' → i < n → J.yld i H' x H'' → Same H' H'' ∧ Y i x H'')
    (hn : n ≤ 1000) (hE : H1 E = none) (hG : ∀ H', Same H1 H' → G H') (b : Nat → Bool) (f : Nat → V)
    (hg : ∀ j x H', j < n → Same H1 H' → Y j x H' → ∀ R : L2.St → Hp → Prop, (∀ σ2, wipe σ2 vs = wipe σ vs → S j σ2 H' → R σ2 H') → g x (wipe σ vs) H' R)
    (ht : ∀ j σ2 H', j < n → Same H1 H' → S j σ2 H' → ∀ R : Bool → Hp → Prop, (∀ H'', Same H' H'' → R (b j) H'') → tt σ2 H' R)
    (he : ∀ j σ2 H' H0, j < n → b j = true → S j σ2 H0 → Same H1 H' → Same H0 H' → ∀ R : VK, (∀ H'', Same H' H'' → R (f j) H'') → te σ2 H' R)
    (hd : ∀ H', Same H1 H' → H' E = some (.lst (((List.range n).filter b).map f)) → Q (.ref E) H') : LcAt J g tt te vs σ E H1 Q := by
  have small : ∀ m, m ≤ n → ((((List.range m).filter b).map f)).length ≤ m := fun m _ => by
    rw [List.length_map]
    exact Nat.le_trans (List.length_filter_le _ _) (Nat.le_of_eq List.length_range)
  refine ⟨fun k m H' => m = n - k ∧ k ≤ n ∧ Same H1 H' ∧ H' E = some (.lst (((List.range k).filter b).map f)), ⟨n, rfl, Nat.zero_le _, same_up hE (Same.refl H1), upd_same⟩, ?_⟩
  rintro k m H' ⟨rfl, hk, hs, hl⟩
  by_cases hlt : k < n
  · refine Or.inr ⟨go k H' (hG H' hs) hlt, fun H'' => Same H1 H'' ∧ H'' E = some (.lst (((List.range (k + 1)).filter b).map f)), fun H'' h => ⟨n - (k + 1), by omega, rfl, hlt, h.1, h.2⟩, fun x H2 hy => ?_⟩
    obtain ⟨s2, y2⟩ := yld k H' x H2 (hG H' hs) hlt hy
    refine hg k x H2 hlt (hs.trans s2) y2 _ fun σ2 hw hS => ⟨hw, ?_⟩
    refine ht k σ2 H2 hlt (hs.trans s2) hS _ fun H3 s3 => ?_
    refine rd_ifb (fun hb => ?_) (fun hb => ?_)
    · refine he k σ2 H3 H2 hlt hb hS ((hs.trans s2).trans s3) s3 _ fun H4 s4 => ?_
      refine ⟨_, s4 _ _ (s3 _ _ (s2 _ _ hl)), Nat.lt_of_le_of_lt (Nat.le_trans (small k (by omega)) (by omega : k ≤ 1000)) (by decide), same_up hE (((hs.trans s2).trans s3).trans s4), ?_⟩
      rw [upd_same, List.range_succ, List.filter_append, List.map_append]
      simp [hb]
    · refine ⟨(hs.trans s2).trans s3, ?_⟩
      rw [s3 _ _ (s2 _ _ hl), List.range_succ, List.filter_append]
      simp [hb]
  · have e : k = n := by omega
    subst e
    exact Or.inl ⟨stop H' (hG H' hs), hd H' hs hl⟩
/-! data -/
theorem dp_all {f : V → PyData} : ∀ {xs : List V}, (∀ x ∈ xs, Dp K H x (f x)) → DpAll K H xs (xs.map f)
  | [], _ => .nil
  | x :: xs, h => .cons (h x List.mem_cons_self) (dp_all fun y hy => h y (List.mem_cons_of_mem _ hy))
theorem rd_eqD {x y : V} {d e : PyData} (hd : Dp K H x d) (he : Dp K H y e) (sd : SeqAt.shaped d = true) (se : SeqAt.shaped e = true) (q : Q (.bl (PyData.eqv d e)) H) : rEqD K x y H Q := ⟨d, e, hd, he, sd, se, q⟩
end
theorem canAll_of {ds : List PyData} (h : ∀ d ∈ ds, d.canLay0 = true) : PyData.canLayAll0 ds = true := by
  induction ds with
  | nil => rfl
  | cons a l ih =>
    show (a.canLay0 && PyData.canLayAll0 l) = true
    rw [h a List.mem_cons_self, ih fun d hd => h d (List.mem_cons_of_mem _ hd)]
    rfl
theorem depthAll_of {ds : List PyData} {n : Nat} (h : ∀ d ∈ ds, d.depth ≤ n) : PyData.depthAll ds ≤ n := by
  induction ds with
  | nil => exact Nat.zero_le _
  | cons a l ih =>
    show max a.depth (PyData.depthAll l) ≤ n
    exact Nat.max_le.mpr ⟨h a List.mem_cons_self, ih fun d hd => h d (List.mem_cons_of_mem _ hd)⟩
/-- a list of flat data -/
theorem shaped_list {ds : List PyData} (h : ∀ d ∈ ds, d.canLay0 = true ∧ d.depth = 0) : SeqAt.shaped (.list ds) = true := by
  show (PyData.canLayAll0 ds && decide (PyData.depthAll ds + 1 ≤ 64)) = true
  rw [canAll_of fun d hd => (h d hd).1]
  have := depthAll_of (n := 0) fun d hd => Nat.le_of_eq (h d hd).2
  rw [decide_eq_true (by omega)]
  rfl
/-- the signs of a text are signs -/
def Sok (z : Str) : Prop := ∀ c ∈ z.cps.toList, c < 1114112
theorem Sok.ok {z : Str} (h : Sok z) : (PyData.str z).canLay0 = true := by
  show z.cps.all (· < 0x110000) = true
  rw [Array.all_eq_true_iff_forall_mem]
  intro c hc
  exact decide_eq_true (h c (Array.mem_toList_iff.mpr hc))
theorem sok_one {c : Nat} (h : c < 1114112) : Sok ⟨#[c]⟩ := fun x hx => by
  have e : x = c := by simpa using hx
  rw [e]
  exact h
theorem eqv_nil (ds : List PyData) : PyData.eqv (.list ds) (.list []) = ds.isEmpty := by
  cases ds <;> rfl
end Lay
namespace Lay
open PySem PySem.Spec PyProof.Rows L2
section
variable {K : PySem.W.Frag} {H H' : Hp}
theorem sqT_same {a : Addr} {xs : List V} (e : Same H H') (h : SqT K H a xs) : SqT K H' a xs := by
  rcases h with (h | ⟨o, h⟩) | h
  · exact Or.inl (Or.inl (e _ _ h))
  · exact Or.inl (Or.inr ⟨o, e _ _ h⟩)
  · exact Or.inr h
mutual
theorem dp_same (s : Same H H') : ∀ (d : PyData) (v : V), Dp K H v d → Dp K H' v d
  | .none, _, h => by cases h; exact .non
  | .bool b, _, h => by cases h; exact .bl b
  | .int i, _, h => by cases h; exact .int i
  | .str x, _, h => by cases h; exact .str x
  | .list ds, _, h => by
    cases h with
    | lst hs ha => exact .lst (s.seq hs) (dpAll_same s ds _ ha)
  | .tuple ds, _, h => by
    cases h with
    | tup hs ha => exact .tup (sqT_same s hs) (dpAll_same s ds _ ha)
  | .dict _, _, h => by cases h
theorem dpAll_same (s : Same H H') : ∀ (ds : List PyData) (vs : List V), DpAll K H vs ds → DpAll K H' vs ds
  | [], _, h => by cases h; exact .nil
  | d :: ds, _, h => by
    cases h with
    | cons h1 h2 => exact .cons (dp_same s d _ h1) (dpAll_same s ds _ h2)
end
theorem dp_allJ {α : Type} {f : α → V} {g : α → PyData} : ∀ {l : List α}, (∀ j ∈ l, Dp K H (f j) (g j)) → DpAll K H (l.map f) (l.map g)
  | [], _ => .nil
  | x :: xs, h => .cons (h x List.mem_cons_self) (dp_allJ fun y hy => h y (List.mem_cons_of_mem _ hy))
theorem dpAll_len : ∀ {vs : List V} {ds : List PyData}, DpAll K H vs ds → vs.length = ds.length
  | _, _, .nil => rfl
  | _, _, .cons _ t => congrArg (· + 1) (dpAll_len t)
theorem dpAll_get : ∀ {vs : List V} {ds : List PyData}, DpAll K H vs ds → ∀ i, i < vs.length → Dp K H (vs.getD i .non) (ds.getD i .none) ∧ ds.getD i .none ∈ ds
  | _, _, .cons h t, 0, _ => ⟨h, List.mem_cons_self⟩
  | _, _, .cons h t, i + 1, hi => by
    have z := dpAll_get t i (Nat.lt_of_succ_lt_succ hi)
    exact ⟨z.1, List.mem_cons_of_mem _ z.2⟩
end
theorem shaped_listN {ds : List PyData} {n : Nat} (hn : n ≤ 60) (h : ∀ d ∈ ds, d.canLay0 = true ∧ d.depth ≤ n) : SeqAt.shaped (.list ds) = true := by
  show (PyData.canLayAll0 ds && decide (PyData.depthAll ds + 1 ≤ 64)) = true
  rw [canAll_of fun d hd => (h d hd).1]
  have := depthAll_of (n := n) fun d hd => (h d hd).2
  rw [decide_eq_true (by omega)]
  rfl
end Lay
namespace Lay
open PySem PySem.Spec PyProof.Rows L2
def rJoin (K : PySem.W.Frag) : V → List V → Hp → VK → Prop := fun x xs H Q => ∃ a p, ∃ ys : List Str, x = .str a ∧ xs = [.ref p] ∧ (SqL K H p (ys.map V.str) ∨ SqT K H p (ys.map V.str)) ∧
      (ys.map (·.length)).sum + ys.length * a.length ≤ 16777216 ∧ Q (.str (Txt.join a ys)) H
theorem q_join {X : Cx} {o e : Expr} {to te : TE} {apos pos : Pos} (ho : PE X o to) (he : PE X e te) (hs : starEach [e] X.env = [(false, eval e X.env)] := by rfl) (hbase : attributeBase o "join" X.env (eval o X.env) = eval o X.env := by rfl) (hline : (apos.endLine == pos.line) = true := by rfl) :
    PE X (.Call (.Attribute o "join" apos) [e] [] pos) (tM1 (rJoin X.K) to te) := pe_join ho he hs hbase hline
section
variable {σ : L2.St} {H : Hp} {Q : VK} {K : PySem.W.Frag}
theorem rd_M1 {r : V → List V → Hp → VK → Prop} {to te : TE} (q : to σ H (fun x H1 => (∃ a, x = .str a) ∧ te σ H1 fun y H2 => r x [y] H2 Q)) : tM1 r to te σ H Q := q
theorem rd_isS {z : Str} {B : Prop} (q : B) : (∃ a, V.str z = V.str a) ∧ B := ⟨⟨z, rfl⟩, q⟩
theorem rd_join {a : Str} {p : Addr} {ys : List Str} (h : SqL K H p (ys.map V.str)) (hz : (ys.map (·.length)).sum + ys.length * a.length ≤ 16777216) (q : Q (.str (Txt.join a ys)) H) : rJoin K (.str a) [.ref p] H Q := ⟨a, p, ys, rfl, rfl, Or.inl h, hz, q⟩
end
/-- texts of one sign each, glued -/
theorem join_ones {ys : List Str} (h : ∀ y ∈ ys, y.length = 1 ∧ Sok y) : (ys.map (·.length)).sum = ys.length ∧ (Txt.join ("" : Str) ys).length = ys.length ∧ Sok (Txt.join ("" : Str) ys) := by
  have e0 : TL.tl ("" : Str) = [] := by decide +kernel
  have key : TL.tl (Txt.join ("" : Str) ys) = (ys.map TL.tl).flatten := by
    rw [TL.join_eq, TL.tl_join, e0]
    clear h
    induction ys with
    | nil => rfl
    | cons y r ih =>
      cases r with
      | nil =>
        show TL.tl y = TL.tl y ++ []
        rw [List.append_nil]
      | cons z r =>
        show TL.tl y ++ ([] ++ TL.joinL [] ((z :: r).map TL.tl)) = TL.tl y ++ ((z :: r).map TL.tl).flatten
        rw [← ih]
        rfl
  refine ⟨?_, ?_, ?_⟩
  · clear key
    induction ys with
    | nil => rfl
    | cons y r ih =>
      rw [List.map_cons, List.sum_cons, ih fun z hz => h z (List.mem_cons_of_mem _ hz), (h y List.mem_cons_self).1, List.length_cons]
      omega
  · have e : (Txt.join ("" : Str) ys).length = (TL.tl (Txt.join ("" : Str) ys)).length := by simp [Str.length, TL.tl]
    rw [e, key]
    clear key e
    induction ys with
    | nil => rfl
    | cons y r ih =>
      have e1 : (TL.tl y).length = 1 := by
        have := (h y List.mem_cons_self).1
        simpa [Str.length, TL.tl] using this
      rw [List.map_cons, List.flatten_cons, List.length_append, ih fun z hz => h z (List.mem_cons_of_mem _ hz), e1, List.length_cons]
      omega
  · intro c hc
    have hc : c ∈ TL.tl (Txt.join ("" : Str) ys) := hc
    rw [key] at hc
    obtain ⟨l, hl, hcl⟩ := List.mem_flatten.mp hc
    obtain ⟨y, hy, rfl⟩ := List.mem_map.mp hl
    exact (h y hy).2 c hcl
end Lay
namespace Lay
open PySem PySem.Spec PyProof.Rows L2
theorem rd_disp1 {σ : L2.St} {H : Hp} {Q : VK} {tk tv : TE} (q : ∀ p, H p = none → tk σ (upd H p (.dK [])) fun kx H1 => tv σ H1 fun vx H2 => H2 p = some (.dK []) ∧ ∃ kvs : List (Key × V), [(kx, vx)] = kvs.map (fun kv => (kV kv.1, kv.2)) ∧ kvs.length ≤ 15 ∧ Q (.ref p) (upd H2 p (.dK (mergeK [] kvs)))) : tDisp [(tk, tv)] σ H Q := q
theorem rd_dnew {σ : L2.St} {H : Hp} {Q : VK} (q : ∀ p, H p = none → Q (.ref p) (upd H p (.dK []))) : tDNewK σ H Q := q
end Lay
namespace Lay
open PySem PySem.Spec PyProof.Rows L2
section
variable {σ : L2.St} {H : Hp} {Q : VK} {K : PySem.W.Frag}
theorem rd_zipA {ta : TA} {R : It → Hp → Prop} (q : ta σ H (fun vs H1 => ∃ a b xs ys, vs = [.ref a, .ref b] ∧ ((SqL K H1 a xs ∧ SqL K H1 b ys ∧ R (Itz K a b) H1) ∨ (SqT K H1 a xs ∧ SqT K H1 b ys ∧ R (RZ.ItzT K a b) H1)))) : RZ.iZipA K ta σ H R := q
theorem rd_BM {T : String} {r : V → List V → Hp → VK → Prop} {to : TE} {t : TA} (q : to σ H (fun x H1 => tyV K T x H1 ∧ t σ H1 fun xs H2 => r x xs H2 Q)) : tBM K T r to t σ H Q := q
theorem rd_tyL {p : Addr} {xs : List V} {B : Prop} (h : H p = some (.lst xs)) (q : B) : tyV K "list" (.ref p) H ∧ B := ⟨Or.inl ⟨rfl, xs, SqL.of h⟩, q⟩
theorem rd_app {l : Addr} {xs : List V} {y : V} (h : H l = some (.lst xs)) (hl : xs.length ≤ 1000) (q : Q .non (upd H l (.lst (xs ++ [y])))) : rAppend (.ref l) [y] H Q := ⟨l, xs, y, rfl, rfl, h, Nat.lt_of_le_of_lt hl (by decide), q⟩
theorem rd_repr {a : Addr} {d : PyData} (hd : Dp K H (.ref a) d) (h1 : d.showable = true) (h2 : d.hasDict = false) (h3 : d.depth ≤ 20) (h4 : d.shown.length ≤ sizeLine) (q : Q (.str d.shown) H) : rRepr K [.ref a] H Q := ⟨a, d, rfl, hd, h1, h2, h3, h4, q⟩
theorem rd_inT {x : V} {p : Addr} {xs : List V} (h : SqT K H p xs) (h1 : flatV x = true) (h2 : xs.all flatV = true) (q : Q (.bl (inV x xs)) H) : rIn K false x (.ref p) H Q := ⟨p, xs, rfl, Or.inr h, h1, h2, q⟩
end
theorem cut_drop1 (xs : List V) : cutV xs (some 1) none = xs.drop 1 := by
  have e0 : HT.sIx xs.length 0 (some 1) = min 1 xs.length := HT.sIx_nat xs.length 0 1
  have e1 : HT.sIx xs.length xs.length none = xs.length := HT.sIx_none _ _
  unfold cutV
  rw [e0, e1]
  cases xs with
  | nil => rfl
  | cons x r =>
    have e2 : min 1 (x :: r).length = 1 := by rw [List.length_cons]; omega
    rw [e2, List.length_cons]
    show (r.take (r.length + 1 - 1)) = r
    rw [Nat.add_sub_cancel, List.take_length]
/-- t[1:], a tuple -/
theorem rd_slA1 {K : PySem.W.Frag} {H : Hp} {Q : VK} {a : Addr} {xs : List V} (h : H a = some (.tup xs)) (q : ∀ p H', Same H H' → H' p = some (.tup (xs.drop 1)) → Q (.ref p) H') : rSlA K (.ref a) (some 1) none H Q := by
  refine ⟨a, xs, rfl, SqT.of h, fun c => ?_, fun c p hp => ?_⟩
  · refine q a H (Same.refl H) ?_
    have e0 : HT.sIx xs.length 0 (some 1) = min 1 xs.length := HT.sIx_nat xs.length 0 1
    rw [e0] at c
    have : xs = [] := by
      cases xs with
      | nil => rfl
      | cons x r =>
        rw [List.length_cons] at c
        omega
    subst this
    exact h
  · rw [cut_drop1]
    exact q p _ (fun b o e => up_old hp e) upd_same
end Lay
/-! LayE: several clauses `except X as n`, the exception's context kept as None (so that defs may be called in the suites). -/
namespace Lay
open PySem PySem.Spec PyProof.Rows L2
/-- what the clauses wish, one behind the other; the name stands in slot i -/
def wAll (K : PySem.W.Frag) (i : Nat) (Wout : WX) (D : Ends) : List (Value × (Addr → Value → Option Addr → TS)) → WX
  | [] => Wout
  | (c, ts) :: r => wAs K c i ts (wAll K i Wout D r) D
/-- the clauses, each with its class and the reading of its suite -/
inductive Clauses (X : Cx) (n : Str) : List ExceptHandler → List (Value × (Addr → Value → Option Addr → TS)) → Prop
  | nil : Clauses X n [] []
  | cons {x : Str} {c : Value} {ts : Addr → Value → Option Addr → TS} {s₀ : Stmt} {ss : List Stmt} {p1 p2 : Pos} {hs : List ExceptHandler} {l : List (Value × (Addr → Value → Option Addr → TS))} (nm : Names X x c)
      (su : ∀ (a : Addr) (oe : Obj) (cls : Value) (d : Option Addr) (pn : List (Addr × Obj)), L2N.Zn cls d oe → (∃ vs, oe.data = .fields vs) → PSs (X.suite a ((a, oe) :: pn)) (s₀ :: ss) (ts a cls d)) (r : Clauses X n hs l) :
      Clauses X n (.ExceptHandler (some (.Name x p1)) (some n) (s₀ :: ss) p2 :: hs) ((c, ts) :: l)
section
variable {X : Cx} {n : Str} {i : Nat} {Wout : WX}
/-- one clause after the other is asked; a is the exception, h3 the heap in which it has landed -/
theorem clauses_run (hst : X.stack = X.env :: X.outer) (hfm : X.env.frame = some X.env.locals) (hN : X.N.Nodup) (hi : X.N[i]? = some n) (hln : X.env.kindOf n = some .local) (tk : L2N.Takes X Wout) {D : Ends} {pins : List (Addr × Obj)} {σ' : L2.St} {H' : Hp} {sI s' : Shared} {a : Addr} {B : Heap} {cls : Value} {d : Option Addr} {h3 : Heap}
    (J : Inv X pins σ' H' sI) (nb : ∀ b o, sI.heap.get? b = some o → b ∉ frs X.stack → B.get? b = some o) (up : sI.heap.UpToSlots s'.heap) (up3 : s'.heap.UpToSlots h3) (fl : HandSPX.FlyingZ B (X.env :: X.outer) a (L2N.Zn cls d) h3) (na : H' a = none) (os : s'.os = sI.os) (ag : AllBare s'.gens)
    (nL : a ≠ X.env.locals) (nF : a ∉ X.fs) : ∀ {hs : List ExceptHandler} {l : List (Value × (Addr → Value → Option Addr → TS))}, Clauses X n hs l → wAll X.K i Wout D l cls d σ' H' →
      wpAny (model X.prog X.w) X.A (handleBy (.ref a) X.env hs) (SP X pins D) X.xe { s' with heap := h3 } := by
  have ok := J.ok
  obtain ⟨o3, v3, g3, z3, f3⟩ := fl.there
  have Jl : ∀ {h : Heap}, B.StaysIn h → s'.heap.UpToSlots h → Inv X pins σ' H' { s' with heap := h } := fun {h} st u => J.landed (s' := { s' with heap := h }) nb st (up.trans u) os ag
  have S := (Jl fl.1 up3).suite g3 f3 na nL nF
  have what : PySem.W.Looks (model X.prog X.w) h3 (typeOf (.ref a)) cls := fun _ _ _ _ keep q => wpAny_typeOf_ref (keep _ _ g3) (by rw [z3.1]; exact q)
  intro hs l cl
  induction cl with
  | nil =>
    intro wish
    refine wpAny_handleBy_nil ?_
    obtain ⟨_, _, _, oe, vs, T, oT, tsx, he, hz, hd, h1, hr⟩ := id fl
    unfold PySem.passOn
    refine wpAny_bind (wpAny_field he hd h1 ?_)
    rw [if_neg (show ¬((Value.ref T == Value.none) = true) by simp)]
    have out : wpAny (model X.prog X.w) X.A (setFlight (.ref a) X.env.frame) (fun _ s4 => wpAny (model X.prog X.w) X.A (throw (.ref a) : Sem Flow) (SP X pins D) X.xe s4) X.xe { s' with heap := h3 } := by
      rw [hfm]
      exact HandSPX.setFlight_upZ fl fun h4 hh4 up4 => wpAny_throw (tk _ _ ⟨a, B, sI, pins, σ', H', cls, d, rfl, J, nb, (up.trans up3).trans up4, .inr (.inr (by rw [hst]; exact hh4)), na, os, ag, wish⟩)
    first | exact wpAny_bind (wpAny_pure (wpAny_bind out)) | exact wpAny_bind out
  | @cons x c ts s₀ ss p1 p2 hs2 l2 nm su r ih =>
    intro wish
    obtain ⟨b, e, yes, no⟩ := wish
    refine wpAny_handleBy_cons (codeAny_handlers_test ?_) (by intro q; cases q)
    have look := PySem.W.exm_one (M := model X.prog X.w) (Jl fl.1 up3).kIn what e
    have ask : ∀ {Q E : Value → Shared → Prop}, Q c { s' with heap := h3 } → wpAny (model X.prog X.w) (X.A.mark (some (.ref a))) (eval (.Name x p1) X.env) Q E { s' with heap := h3 } := fun {Q E} q => by
      obtain ⟨hg, hdb, hm | ⟨hm, hv, hne⟩⟩ := nm
      · exact ld_glob (X := X.suite a ((a, o3) :: (X.pn ++ pins))) S hg hm q hdb
      · exact ld_blt (X := X.suite a ((a, o3) :: (X.pn ++ pins))) S hg hm hv q hne hdb
    refine ask (look.here ?_)
    cases b with
    | false => exact ih (no rfl)
    | true =>
      refine codeAny_handlers_suite_as (HandSPX.lands_againZ fl fun h4 fl4 up4 => ?_)
      obtain ⟨o4, v4, g4, z4, f4⟩ := fl4.there
      have S4 := (Jl fl4.1 (up3.trans up4)).suite g4 f4 na nL nF
      refine store_ok (X := X.suite a ((a, o4) :: (X.pn ++ pins))) (v := .ref a) S4 hN hi (.inl hln) rfl (fun s5 S5 => ?_) (.inr hln)
      refine wpAny_mono ((su a o4 cls d (X.pn ++ pins) z4 ⟨_, f4⟩).run [] s5 _ H' _ S5 (yes rfl a na)) (fun f s6 sp => ?_) (fun _ _ z => z.elim)
      have gone : ∀ {σ6 : L2.St} {H6 : Hp} {Q : Shared → Prop}, Inv (X.suite a ((a, o4) :: (X.pn ++ pins))) [] σ6 H6 s6 → (∀ s7, Inv X pins (σ6.set i none) H6 s7 → Q s7) →
          wpAny (model X.prog X.w) X.A (do bindName X.env n .none; unbindBehindTheSuite X.env n p2) (fun _ s7 => Q s7) X.xe s6 := fun S6 hq => gone_ok (S6.unsuite ok) hN hi hln hq
      cases f with
      | next => exact match sp with | ⟨_, _, S6, q6⟩ => gone S6 fun s7 J7 => ⟨_, _, J7, q6⟩
      | brk => exact match sp with | ⟨_, _, S6, q6⟩ => gone S6 fun s7 J7 => ⟨_, _, J7, q6⟩
      | cont => exact match sp with | ⟨_, _, S6, q6⟩ => gone S6 fun s7 J7 => ⟨_, _, J7, q6⟩
      | ret u => exact match sp with | ⟨_, _, _, S6, r6, q6⟩ => gone S6 fun s7 J7 => ⟨_, _, _, J7, r6, q6⟩
/-- try: .. except X as n: .. except Y as n: .. -/
theorem ps_try_all {body : List Stmt} {h₀ : ExceptHandler} {hds : List ExceptHandler} {l : List (Value × (Addr → Value → Option Addr → TS))} {pos : Pos} {tb : WX → TS} (hst : X.stack = X.env :: X.outer) (hfm : X.env.frame = some X.env.locals) (hN : X.N.Nodup) (hi : X.N[i]? = some n) (hln : X.env.kindOf n = some .local) (tk : L2N.Takes X Wout)
    (hb : ∀ (W : WX) (pn : List (Addr × Obj)) (xe : Value → Shared → Prop), L2N.Takes (X.tr pn xe) W → PassesOwn (model X.prog X.w) X.A X.env xe → PSs (X.tr pn xe) body (tb W))
    (hh : Clauses X n (h₀ :: hds) l) : PS X (.Try body (h₀ :: hds) [] [] pos) (fun D σ H => tb (wAll X.K i Wout D l) D σ H) := by
  refine ⟨fun pins s σ H D I h => wpAny_Try_except ?_⟩
  have ok := I.ok
  have hfr : X.A.frames = some (X.env :: X.outer) := by rw [ok.frames, hst]
  have B1 := hb (wAll X.K i Wout D l) (X.pn ++ pins) (fun e s₁ => wpAny (model X.prog X.w) X.A (noteFrame e X.env) (fun _ s₂ => wpAny (model X.prog X.w) X.A (setFlight e none) (fun _ s₃ => wpAny (model X.prog X.w) X.A (handleBy e X.env (h₀ :: hds)) (SP X pins D) X.xe s₃) X.xe s₂) X.xe s₁)
    (fun u s' xx => ?_) PassesOwn.looking
  · refine wpAny_mono (B1.run [] s σ H D (I.toTry _) h) (fun f s1 sp => ?_) (fun _ _ z => z)
    cases f with
    | next => exact match sp with | ⟨_, _, J', q⟩ => wpAny_execs_nil ⟨_, _, J'.ofTry ok, q⟩
    | brk => exact match sp with | ⟨_, _, J', q⟩ => ⟨_, _, J'.ofTry ok, q⟩
    | cont => exact match sp with | ⟨_, _, J', q⟩ => ⟨_, _, J'.ofTry ok, q⟩
    | ret u => exact match sp with | ⟨_, _, _, J', r, q⟩ => ⟨_, _, _, J'.ofTry ok, r, q⟩
  · obtain ⟨a, B, sI, pins', σ', H', cls, d, rfl, J', nb, up, sky, na, os, ag, wish⟩ := xx
    have J := J'.ofTry (pins := pins) ok
    have sky' : Sky B (X.env :: X.outer) a (L2N.Zn cls d) X.env.locals s'.heap := by rw [← hst]; exact sky
    refine L2N.Sky.land L2N.Zn.steady hfr hfm sky' fun h3 fl up3 => ?_
    obtain ⟨oe, vs, he, hz, hd⟩ := fl.there
    have away : a ∉ frs (X.env :: X.outer) := fun hm => by
      obtain ⟨_, o', e', hnf⟩ := fl.2.2.1.mem hm
      rw [he] at e'
      cases e'
      exact hnf _ hd
    refine clauses_run hst hfm hN hi hln tk J nb up up3 fl na os ag (fun z => away (List.mem_filterMap.mpr ⟨X.env, List.mem_cons_self, by rw [hfm, z]⟩)) (fun hm => ?_) hh wish
    obtain ⟨e, he2, q⟩ := List.mem_filterMap.mp hm
    exact away (List.mem_filterMap.mpr ⟨e, List.mem_cons_of_mem _ he2, q⟩)
end
end Lay
/-! LayF: a def that is given the exception at hand, from an except suite. -/
namespace Lay
open PySem PySem.Spec PyProof.Rows L2 L2H
/-- the exception at hand as an argument: sp is told which object it is -/
structure FnE (P : Program) (w : World) (K : PySem.W.Frag) (mg : Str → Option Value) (base : Heap) (k : Nat) (f : Addr) (fd : FuncData) (ps : List Str) (sp : Addr → Value → Option Addr → Sp) : Prop where
  many : ∀ a cls d vs H Q E, sp a cls d vs H Q E → vs.length = ps.length
  goes : ∀ (A : Around) (outer : List Env) (s : Shared) (H : Hp) (args : Args) (us : List Value) (vs : List V) (Q : VK) (p : Addr × Obj) (cls : Value) (d : Option Addr), RoomH k A → Hot1 A p → L2N.Zn cls d p.2 → (∃ vs, p.2.data = .fields vs) → PinOk outer H s p → Env0 P w K mg base A outer s H → BindsTo s fd args (ps.zip us) → Vals vs us → sp p.1 cls d vs H Q E0 →
    codeAny (model P w) A (.call (.ref f) args) (CR CX0 outer P w H s Q E0) s
theorem hot_def {P : Program} {w : World} {K : PySem.W.Frag} {mg : Str → Option Value} {base : Heap} {x qual : Str} {st : Stmt} {f : Addr} {fd : FuncData} {N ps : List Str} {k : Nat} {sp : Addr → Value → Option Addr → Sp} (F : Fun K x qual st f fd) (S : FnScope N ps (defScope st))
    (many : ∀ a cls d vs H Q E, sp a cls d vs H Q E → vs.length = ps.length)
    (body : ∀ (cdv : Value) (A : Around) (outer : List Env) (s : Shared) (H : Hp) (vs : List V) (Q : VK) (p : Addr × Obj) (cls : Value) (d : Option Addr), Hot1 A p → L2N.Zn cls d p.2 → (∃ vs, p.2.data = .fields vs) → RoomH k (A.deeper (envOfC qual (defScope st) s.heap.objs.size f cdv)) → sp p.1 cls d vs H Q E0 →
      ∃ t, PSs (cxH CX0 P w K mg base N qual (defScope st) f cdv A outer s H E0 p).nox (defBody st) t ∧ t { nx := fun _ H' => Q .non H', rt := Q } (start N vs) H) :
    FnE P w K mg base (k + 1) f fd ps sp := by
  obtain ⟨oc, od, kV, doc, pm, an, cdv, ct, osl, rfl, lk, hcd⟩ := F.ex
  refine ⟨many, fun A outer s H args us vs Q p cls d hr hot hz hf pin he hb hv hs => ?_⟩
  have hl := many _ _ _ _ _ _ _ hs
  have KX : K.In s.heap := he.mod.kin.keeps fun b o e => (he.bs b o e).1
  have lim : s.heap.NoLimit := he.mod.nolimit.keeps fun b o e => (he.bs b o e).1
  have kinds : ∀ y ∈ ps.zip us, (defScope st).names.lookup y.1 = some .local ∨ ((defScope st).names.lookup y.1 = some .cell ∧ ((cellsFrom (s.heap.objs.size + 1) (defScope st).names []).lookup y.1).isSome = true) := by
    intro y hy
    rcases S.par y.1 (List.of_mem_zip hy).1 with q | q
    · exact Or.inl q
    · exact Or.inr ⟨q, PySem.W.cellsFrom_some _ _ _ (Or.inl q)⟩
  apply codeAny_call_function hr.depth (KX _ _ lk) rfl S.co S.gen rfl (PySem.W.codeRec_of KX hcd)
  apply hb
  apply wpAny_newFunctionEnv_cells S.kind kinds
  intro env henv s1 x1
  subst henv
  refine ⟨lim.keeps x1.toInCall.keep, ?_⟩
  apply codeAny_func
  obtain ⟨t, ht, q0⟩ := body cdv A outer s H vs Q p cls d hot hz hf (hr.deeper _) hs
  have I : Inv (cxH CX0 P w K mg base N qual (defScope st) f cdv A outer s H E0 p) [] (start N vs) H s1 := inv_startH S pin he hl hv x1
  refine wpAny_mono (ht.nox.run [] s1 (start N vs) H _ I q0) (fun fl s2 h2 => ?_) (fun e s2 h2 => h2)
  cases fl with
  | next =>
    obtain ⟨a, b, J, z⟩ := h2
    exact ⟨V.non, b, J.os, J.bare, J.base, J.hok, rfl, z⟩
  | ret u =>
    obtain ⟨v, a, b, J, rv, z⟩ := h2
    exact ⟨v, b, J.os, J.bare, J.base, J.hok, rv, z⟩
  | brk => exact match h2 with | ⟨_, _, _, z⟩ => z.elim
  | cont => exact match h2 with | ⟨_, _, _, z⟩ => z.elim
section
variable {X : Cx} {k : Nat} {f : Addr} {fd : FuncData} {ps : List Str} {sp : Addr → Value → Option Addr → Sp} {x : Str} {p : Addr × Obj} {cls : Value} {d : Option Addr} {q pos : Pos} {e : Expr} {es : List Expr} {t : TA}
/-- f(e, ..) in a suite, p the exception at hand -/
theorem hcall (F : FnE X.prog X.w X.K X.mg X.base k f fd ps sp) (hr : RoomH k X.A) (hot : Hot1 X.A p) (hz : L2N.Zn cls d p.2) (hf : ∃ vs, p.2.data = .fields vs) (hp : p ∈ X.pn) (hg : Gl X x) (hm : X.mg x = some (.ref f)) (hk : PySem.W.keepIn X.K (.ref f) = true) (hb : Binds X.K fd ps [])
    (ha : PA X (e :: es) t) (hdb : (x == ("__debug__" : Str)) = false := by decide) (he : starEach (e :: es) X.env = (false, eval e X.env) :: starEach es X.env := by rfl) (hpl : (backTo pos (starEach es X.env)).any (·.1) = false := by rfl) :
    PE X (.Call (.Name x q) (e :: es) [] pos) (tCl (sp p.1 cls d) t) := by
  refine ⟨fun pins s σ H Q I h => wpAny_Call_Name_kw (ld_glob I hg hm ?_ hdb)⟩
  refine PySem.W.callWith_K (h₀ := X.base) I.ok.mod.kin hk (thn (ha.run pos pins s σ H _ I h) ?_) he hpl
  rintro us s1 ⟨vs, H1, I1, r, z⟩
  refine ⟨I1.kIn, ?_⟩
  have hl : (us ++ []).length = ps.length := by
    rw [List.append_nil, ← r.length]
    exact F.many _ _ _ _ _ _ _ z
  have bb := hb s1 us I1.kIn hl
  rw [List.append_nil] at bb
  have P1 := I1.pin p (List.mem_append_left _ hp)
  have pin : PinOk X.stack H1 s1 p := ⟨P1.1, P1.2.1, fun hm2 => (List.mem_cons.mp (I1.stkSub p.1 hm2)).elim P1.2.2.1 P1.2.2.2.1, P1.2.2.2.2⟩
  refine wpAny_call (codeAny_mono (F.goes X.A X.stack s1 H1 ⟨us, []⟩ us vs Q p cls d hr hot hz hf pin I1.env0 bb r z) fun res s2 hh => ?_)
  cases res with
  | error z => exact False.elim hh
  | ok fl =>
    cases fl with
    | ret u => exact I1.after hh
    | next => exact False.elim hh
    | brk => exact False.elim hh
    | cont => exact False.elim hh
/-- isinstance(e, C), e the exception at hand: its class is at D, its dict at d or it has none -/
def rIsP (K : PySem.W.Frag) (a : Addr) (cls : Value) (d : Option Addr) : List V → Hp → VK → Prop := fun xs H Q => ∃ (c : V) (cv : Value) (D : Addr) (b : Bool), xs = [.ref a, c] ∧ ClsV c cv ∧ ExcC K D ∧ cls = .ref D ∧
  (∀ dd, d = some dd → ∃ fs, H dd = some (.xd fs)) ∧ PySem.W.kitOne K (.ref D) cv = some b ∧ Q (.bl b) H
theorem call_isP (hp : p ∈ X.pn) (hz : L2N.Zn cls d p.2) (hf : ∃ vs, p.2.data = .fields vs) : CallR X (.builtin "isinstance") (rIsP X.K p.1 cls d) := by
  intro pins s σ H xs us Q I r h
  obtain ⟨c, cv, D, b, rfl, hcv, T, ec, hd, e, z⟩ := h
  obtain ⟨vs, hv⟩ := hf
  have hcl : p.2.cls = .ref D := hz.1.trans ec
  have hdi : p.2.dict = d := hz.2.1
  obtain ⟨u1, u2, rfl, r1, r2⟩ := vals2 r
  have e2 := hcv.eq r2
  subst e2
  cases (show u1 = Value.ref p.1 from r1)
  have get := (I.pin p (List.mem_append_left _ hp)).1
  have no : PySem.W.notCls p.2 = true := by
    unfold PySem.W.notCls
    rw [hv]
  have isc : (PySem.W.clsIn X.K D).isSome = true := by
    obtain ⟨cd, hc, _⟩ := PySem.W.any_some T.hd
    rw [hc]
    rfl
  have J : ∃ od, PySem.W.InstAt s.heap p.1 p.2 D od := by
    cases hx : p.2.dict with
    | none => exact ⟨none, get, hcl, no, by rw [hx]; exact True.intro⟩
    | some d0 =>
      obtain ⟨fs, hf⟩ := hd d0 (hdi.symm.trans hx)
      obtain ⟨mA, hns, _⟩ := (show ObjOk X.prog X.w H s.heap d0 (.xd fs) from I.hok d0 _ hf)
      obtain ⟨od, ho, _⟩ := lookIn_ns hns
      exact ⟨some od, get, hcl, no, by rw [hx]; exact ho⟩
  obtain ⟨od, J⟩ := J
  exact PySem.W.kia_one (PySem.W.kitx_exc isc T.hg T.hk T.hs T.ha T.hn T.ht T.hm) I.kIn J e (fun z => nomatch z) fun tk => ⟨.bl b, H, I.tok tk, rfl, z⟩
end
theorem hot_suite {X : Cx} {a : Addr} {oe : Obj} {cls : Value} {d : Option Addr} {pn : List (Addr × Obj)} (hz : L2N.Zn cls d oe) (hf : ∃ vs, oe.data = .fields vs) : Hot1 (X.suite a pn).A (a, oe) := by
  obtain ⟨vs, hv⟩ := hf
  exact ⟨rfl, vs, hv, hz.2.2 vs hv⟩
end Lay
/-! LayG: making an error of an own class, over any of the built-in bases. -/
namespace PySem
namespace XG
open HandSPX
open Builtin Builtin.ObjectAttr
/-- the classes behind an own one: further own ones, then a built-in base's -/
structure Tail (B : String) (l : List Value) : Prop where
  pass : ∀ self : Value, refuseLoop self "__setattr__" l = pure ()
  full : l.isEmpty = false
  hasB : l.contains (.type B) = true
  obj : l.contains (.type "object") = true
  noA : l.contains (.type "AttributeError") = false
  noN : l.contains (.type "NameError") = false
theorem Tail.own {B : String} {l : List Value} (t : Tail B l) (c : Addr) : Tail B (.ref c :: l) := by
  refine ⟨fun self => ?_, rfl, ?_, ?_, ?_, ?_⟩
  · rw [refuseLoop_ref]
    exact t.pass self
  all_goals rw [List.contains_cons]
  · rw [t.hasB, Bool.or_true]
  · rw [t.obj, Bool.or_true]
  · rw [t.noA]; rfl
  · rw [t.noN]; rfl
theorem tail_VE : Tail "ValueError" [.type "ValueError", .type "Exception", .type "BaseException", .type "object"] := ⟨F.store_ValueError.passes, rfl, by decide +kernel, by decide +kernel, by decide +kernel, by decide +kernel⟩
theorem tail_IE : Tail "IndexError" [.type "IndexError", .type "LookupError", .type "Exception", .type "BaseException", .type "object"] := ⟨F.store_IndexError.passes, rfl, by decide +kernel, by decide +kernel, by decide +kernel, by decide +kernel⟩
theorem tail_OE : Tail "OverflowError" [.type "OverflowError", .type "ArithmeticError", .type "Exception", .type "BaseException", .type "object"] := ⟨F.store_OverflowError.passes, rfl, by decide +kernel, by decide +kernel, by decide +kernel, by decide +kernel⟩
theorem tail_AE : Tail "ArithmeticError" [.type "ArithmeticError", .type "Exception", .type "BaseException", .type "object"] := ⟨F.store_ArithmeticError.passes, rfl, by decide +kernel, by decide +kernel, by decide +kernel, by decide +kernel⟩
theorem tail_LE : Tail "LookupError" [.type "LookupError", .type "Exception", .type "BaseException", .type "object"] := ⟨F.store_LookupError.passes, rfl, by decide +kernel, by decide +kernel, by decide +kernel, by decide +kernel⟩
/-- KeyError is made by LookupError's maker -/
theorem tail_KE : Tail "LookupError" [.type "KeyError", .type "LookupError", .type "Exception", .type "BaseException", .type "object"] := ⟨fun self => by kernel_rfl, rfl, by decide +kernel, by decide +kernel, by decide +kernel, by decide +kernel⟩
section
variable {prog : Program} {w : World} {A : Around} {E : Value → Shared → Prop} {R : Result → Shared → Prop} {h : Heap} {g : Array GenState} {d : Drawn} {t : Nat} {os : OsState}
variable {nm q : Str} {C N : Addr} {bs bm bmB : List Value} {hdct : Bool} {sn : List Str} {sub : List Value} {ab : Bool} {col : Option Bool} {dd : Option Addr} {k0 k1 k2 k3 k5 : Option Value} {B newId initId : String}
theorem check_make {M : Model} (F : ExcBaseFacts B newId initId bmB) (T : Tail B bm) {args : List Value} {Q : Unit → Shared → Prop}
    (hC : h.get? C = some (excClassObj nm q C N bs bm hdct sn sub ab col dd k0 k1 k2 k3 k5 newId)) (z : Q () ⟨h, g, d, t, os⟩) : wpAny M A (checkBuiltinCall newId ⟨.ref C :: args, []⟩) Q E ⟨h, g, d, t, os⟩ := by
  have e1 : (Value.ref C :: bm).contains (.type B) = true := (T.own C).hasB
  have e2 := F.noStar
  simp only [checkBuiltinCall, F.newKind, F.newSplit, F.newRow]
  repeat (first | refine wpAny_loadPart_at hC ?_ | (refine wpAny_isSubtype_exc hC ?_; rw [e1]) | refine wpAny_staticBase_exc hC ?_ | refine wpAny_madeBy_exc hC ?_ | (simp only [bne_self_eq_false, Bool.false_eq_true, if_false]) | wp_step)
  exact z
theorem make_raw (F : ExcBaseFacts B newId initId bmB) (T : Tail B bm) {args : List Value} (hC : h.get? C = some (excClassObj nm q C N bs bm hdct sn sub ab col dd k0 k1 k2 k3 k5 newId)) (hl : args.length ≤ sizeLine)
    (z : R (.ok (.ret (.ref (h.objs.size + 1)))) ⟨(h.push (W.kdv_tup args)).push (excO C h.objs.size), g, d, t, os⟩) : codeAny (model prog w) A (.builtin newId ⟨.ref C :: args, []⟩) R ⟨h, g, d, t, os⟩ := by
  have e0 := F.ends
  have e1 : (Value.ref C :: bm).contains (.type B) = true := (T.own C).hasB
  have e2 : (Value.ref C :: bm).contains (.type "AttributeError") = false := (T.own C).noA
  have e3 : (Value.ref C :: bm).contains (.type "NameError") = false := (T.own C).noN
  refine codeAny_builtinAt F.entry ?_
  unfold Builtin.«BaseException.__new__»
  refine wpAt_bind ?_
  show wpAt _ _ _ (stack >>= _) _ _ _
  refine wpAt_bind (wpAt_stack fun p below => wpAt_of_wpAny ?_)
  wp_walk
  refine wpAt_of_wpAny ?_
  rw [F.owner]
  repeat (first | with_reducible refine wpAny_madeHere_exc F.canon hC ?_ | with_reducible refine wpAny_loadPart_at hC ?_ | (with_reducible refine wpAny_isSubtype_exc hC ?_; (first | rw [e1] | rw [e2] | rw [e3])) | wp_step)
  show R _ _
  rw [Heap.size_push]
  exact z
theorem make_in (F : ExcBaseFacts B newId initId bmB) (T : Tail B bm) {args : List Value} {fI : Addr} {Q : Fin → Shared → Prop} (hC : h.get? C = some (excClassObj nm q C N bs bm hdct sn sub ab col dd k0 k1 k2 k3 k5 newId))
    (hi : W.Looks (model prog w) h (typeLookup (.ref C) "__init__") (some (.ref fI))) (hb : ∀ self, W.Looks (model prog w) h (bindSpecial (.ref fI) self) (.ref fI, [self])) (hl : args.length ≤ sizeLine)
    (z : codeAny (model prog w) A (.call (.ref fI) ⟨.ref (h.objs.size + 1) :: args, []⟩) (fun r s' => match r with | .ok (.ret v) => v = .none ∧ Q (.done (.ret (.ref (h.objs.size + 1)))) s' | .ok _ => False | .error e => E e s') ⟨(h.push (W.kdv_tup args)).push (excO C h.objs.size), g, d, t, os⟩) :
    wpAny (model prog w) A (Builtin.«type.__call__» ⟨.ref C :: args, []⟩) Q E ⟨h, g, d, t, os⟩ := by
  repeat (first | with_reducible refine wpAny_loadPart_at hC ?_ | with_reducible refine wpAny_madeBy_exc hC ?_ | wp_step)
  refine codeAny_call_builtin_code (Code.quiet_builtin _ F.quiet) (check_make F T hC (make_raw F T hC hl ?_))
  show wpAny _ _ _ _ _ _
  have up : ∀ b o, h.get? b = some o → ((h.push (W.kdv_tup args)).push (excO C h.objs.size)).get? b = some o := fun b o e => Heap.get?_push_of_some _ (Heap.get?_push_of_some _ e)
  have atC := up _ _ hC
  have atE : ((h.push (W.kdv_tup args)).push (excO C h.objs.size)).get? (h.objs.size + 1) = some (excO C h.objs.size) := by heap_get
  have self1 : (Value.ref C :: bm).contains (.ref C) = true := by simp
  have j1 := hi.keeps up
  have j2 := (hb (.ref (h.objs.size + 1))).keeps up
  unfold isInstance
  repeat (first | with_reducible refine wpAny_loadPart_at atE ?_ | (with_reducible refine wpAny_isSubtype_exc atC ?_; rw [self1]) | wp_step)
  show wpAny _ _ (typeLookup (.ref C) _) _ _ _
  refine j1.at (wpAny_holding (wpAny_bind (j2.at (wpAny_bind (wpAny_call (codeAny_mono z fun r s' y => ?_))))))
  rcases r with e | (v | _ | _ | _) <;> first | exact y | exact y.elim | skip
  obtain ⟨rfl, y⟩ := y
  first | exact wpAny_pure (wpAny_pure y) | (wp_walk; exact y)
/-- C(..), C an own class of errors with its own __init__ -/
theorem make_call (F : ExcBaseFacts B newId initId bmB) (T : Tail B bm) {args : List Value} {fI : Addr} (hC : h.get? C = some (excClassObj nm q C N bs bm hdct sn sub ab col dd k0 k1 k2 k3 k5 newId))
    (hi : W.Looks (model prog w) h (typeLookup (.ref C) "__init__") (some (.ref fI))) (hb : ∀ self, W.Looks (model prog w) h (bindSpecial (.ref fI) self) (.ref fI, [self])) (hl : args.length ≤ sizeLine)
    (z : codeAny (model prog w) (A.under (.builtin "type.__call__" ⟨.ref C :: args, []⟩)) (.call (.ref fI) ⟨.ref (h.objs.size + 1) :: args, []⟩) (W.InitBack (h.objs.size + 1) R) ⟨(h.push (W.kdv_tup args)).push (excO C h.objs.size), g, d, t, os⟩) :
    codeAny (model prog w) A (.call (.ref C) ⟨args, []⟩) R ⟨h, g, d, t, os⟩ := by
  have l1 := tc_lookup
  have l2 := tc_bind (.ref C)
  have ty : (⟨h, g, d, t, os⟩ : Shared).TypeIs (.ref C) "type" := ⟨_, hC, rfl⟩
  refine codeAny_of_tree ?_
  show wpAny _ _ (callAny (.ref C) _) _ _ _
  repeat (any_goals (first | assumption | with_reducible refine wpAny_loadPart_at hC ?_ | wp_step))
  refine ⟨rfl, codeAny_call_builtin_at (Code.quiet_builtin _ (by decide +kernel)) entry_typeCall (wpAny_check_type_call_sub hC (make_in F T hC hi hb hl (codeAny_mono z fun r s' y => ?_)))⟩
  rcases r with e | (v | _ | _ | _) <;> exact y
/-- the first field of such an error -/
theorem store_first {K : W.Frag} {f : Str} {tk : Tok} {v : Value} {x : Addr} {fv : Array Value} {cd : ClassData} {bm : List Value} {B : String} (T : Tail B bm) (X : K.In h) (hx : h.get? x = some { cls := .ref C, data := .fields fv }) (hcd : W.clsIn K C = some cd) (hm : cd.mro = .ref C :: bm) (hh : cd.hasDict = true)
    (no : W.findIn K (.ref C) f = some none)
    (z : ∀ h' tk' dx, (∀ b o, b ≠ x → h.get? b = some o → h'.get? b = some o) → h.objs.size ≤ dx → dx ≠ x → h'.get? x = some { cls := .ref C, dict := some dx, data := .fields fv } → h'.Ns1 dx (fun y => if y = f then some v else none) → R (.ok (.ret .none)) ⟨h', g, d, tk', os⟩) :
    codeAny (model prog w) A (.call (.builtin "object.__setattr__") ⟨[.ref x, .str f tk, v], []⟩) R ⟨h, g, d, t, os⟩ := by
  have T1 := T.own C
  rw [← hm] at T1
  have I : W.InstAt h x { cls := .ref C, data := .fields fv } C none := ⟨hx, rfl, rfl, trivial⟩
  have SF := F.store_object
  have apart : x ≠ h.objs.size := Nat.ne_of_lt (Heap.lt_size hx)
  have isObj : W.Looks (model prog w) h (isInstance (.ref x) (.type "object")) true := I.type.andThen (W.looks_mroIn X (by unfold W.mroIn; rw [hcd, Option.bind_some, if_neg (by rw [T1.full]; decide), T1.obj]))
  refine codeAny_call_builtin SF.slot.plain SF.entry (@W.check_slot (model prog w) _ _ ⟨h, g, d, t, os⟩ "object.__setattr__" "object" "__setattr__" (.ref x) [.str f tk, v] [] _ SF.kind SF.split isObj (SF.args (.ref x) (.str f tk) v) ?_)
  have chain : W.Looks (model prog w) h (mroOf (.ref C)) cd.mro := (W.looks_clsIn X hcd).andThen .now
  have taker : W.Looks (model prog w) h (storeTaker? none) none := .now
  have data : W.Looks (model prog w) h (classData C) cd := W.looks_clsIn X hcd
  rw [W.osa_eq, refuse_eq]
  refine wpAny_bind (wpAny_bind (I.type.at (wpAny_bind (chain.at ?_))))
  rw [T1.pass]
  refine wpAny_pure (wpAny_bind (I.type.at (wpAny_bind ((W.looks_findIn X no).at (wpAny_bind (taker.at ?_))))))
  show wpAny _ _ (storeInOwnDict (.ref x) (.ref C) (.str f tk) f v false) _ _ _
  clear chain T1 isObj
  obtain ⟨c1, c2, c3, c4, c5, c6, c7, c8, c9, c10, c11⟩ := cd
  dsimp only at hh
  subst hh
  unfold storeInOwnDict ownDictForStores
  repeat (first | with_reducible refine store_in_new ?_ ?_ | with_reducible refine wpAny_loadPart_at hx ?_ | with_reducible refine data.at ?_ | wp_step)
  · exact ⟨_, #[], _, (Heap.get?_update_ne _ _ _ _ apart.symm).trans (Heap.get?_push_at rfl rfl), rfl, (fun e he => absurd he (by simp)), fun _ => rfl⟩
  · intro h' tk' hn' hs
    have there : (h.push { cls := .type "dict", data := .dict #[] }).get? x = some { cls := .ref C, data := .fields fv } := Heap.get?_push_of_some _ hx
    refine z h' tk' h.objs.size (fun b o hb ho => ?_) (Nat.le_refl _) apart.symm ((hs.2 x apart).trans (Heap.get?_update_self _ there rfl)) hn'
    exact (hs.2 b (Nat.ne_of_lt (Heap.lt_size ho))).trans ((Heap.get?_update_ne _ _ _ _ hb).trans (Heap.get?_push_of_some _ ho))
end
end XG
end PySem
/-! LayH: the rules for such errors: self.f = e in __init__, C(e) made (its context None). -/
namespace Lay
open PySem PySem.Spec PyProof.Rows L2
/-- what the written part says of the class at C, an own one over the built-in B -/
structure Xc (K : PySem.W.Frag) (C : Addr) (B newId : String) : Prop where
  cls : ∃ nm q N bs bm sn sub ab col dd k0 k1 k2 k3 k5, K.lookup C = some (excClassObj nm q C N bs bm true sn sub ab col dd k0 k1 k2 k3 k5 newId) ∧ PySem.XG.Tail B bm
  sa : PySem.W.findIn K (.ref C) "__setattr__" = some (some (.builtin "object.__setattr__"))
  exC : PySem.W.subIn K (.ref C) (.type "BaseException") = some true
  tyC : PySem.W.typeIn K (.ref C) = some (.type "type")
  kC : PySem.W.keepIn K (.ref C) = true
section
variable {X : Cx} {pins : List (Addr × Obj)} {σ : L2.St} {H : Hp} {s : Shared} {a C dx : Addr} {f : Str} {y : V} {u : Value} {Q : Unit → Shared → Prop} {E : Value → Shared → Prop} {A : Around} {B newId : String}
theorem set_first (T : Xc X.K C B newId) (I : Inv X pins σ H s) (e : H a = some (exo a C none)) (no : PySem.W.findIn X.K (.ref C) f = some none) (ry : RelV y u)
    (z : ∀ dx s', H dx = none → dx ≠ a → Inv X pins σ (upd (upd H dx (exd dx [(f, y)])) a (exo a C (some dx))) s' → Q () s') : wpAny (model X.prog X.w) A (setAttr (.ref a) f u) Q E s := by
  obtain ⟨nm, q, N, bs, bm, sn, sub, ab, col, dd, k0, k1, k2, k3, k5, hC, hbm⟩ := T.cls
  have hcl : PySem.W.clsIn X.K C = some { name := nm, bases := bs, mro := .ref C :: bm, ns := N, qualname := q, hasDict := true, slotNames := sn, subclasses := sub, abstract := ab, collection := col, hasDel := false } := by
    unfold PySem.W.clsIn
    rw [hC]
  obtain ⟨t1, ho⟩ := exo_at I.hok e
  obtain ⟨hp, g, d, t, os⟩ := s
  refine PySem.W.set_plain I.kIn (ox := { cls := .ref C, dict := none, data := .fields #[.ref t1, .none, .none, .none, .bool false, .none] }) (od := none) ⟨ho, rfl, rfl, trivial⟩ T.sa ?_
  refine PySem.XG.store_first hbm I.kIn ho hcl rfl rfl no (fun h' tk' dx kp dn dne hx hn => ?_)
  have new : H dx = none := I.hok.fresh dn
  have below : ∀ {b : Addr} {o : Obj}, hp.get? b = some o → b ≠ dx := fun q => Nat.ne_of_lt (Nat.lt_of_lt_of_le (Heap.lt_size q) dn)
  have nota : ∀ {b : Addr}, H b = none → b ≠ a := fun n z => by
    rw [z, e] at n
    cases n
  -- what is tracked and is neither the error nor its dict stands as before
  have stay : ∀ {b : Addr} {u : HO}, H b = some u → (exo a C none) ≠ u → upd (upd H dx (exd dx [(f, y)])) a (exo a C (some dx)) b = some u := fun {b u} hb ne => by
    rw [upd_ne (at_ne e hb ne), upd_ne (ne_of_none hb new)]
    exact hb
  have U : Un X.fs [] H (upd (upd H dx (exd dx [(f, y)])) a (exo a C (some dx))) hp h' :=
    { keep := fun b o q n _ _ => kp b o (nota n) q,
      slot := fun b o q n _ _ => ⟨o.slots, kp b o (nota n) q⟩,
      free := fun b o q n _ => by
        rw [upd_ne (nota n), upd_ne (below q)]
        exact n,
      there := fun b o q _ => by
        by_cases hb : b = a
        · exact ⟨_, by rw [hb]; exact hx⟩
        · exact ⟨o, kp b o hb q⟩,
      tups := fun b xs q => stay q exo_tup,
      frzs := fun b o v q => stay q exo_frz,
      tbls := fun b ps q => ⟨#[], by rw [stay q exo_tbl]; simp⟩ }
  refine z dx _ new dne (I.un (t' := tk') U fun b o q => ?_)
  by_cases hb : b = a
  · subst hb
    rw [upd_same] at q
    cases q
    exact exo_ok hx
  rw [upd_ne hb] at q
  by_cases hd : b = dx
  · subst hd
    rw [upd_same] at q
    cases q
    exact exd_ok hn (relO_put (fs := []) ry fun g => True.intro)
  rw [upd_ne hd] at q
  refine (I.hok b o q).stay (fun c v hc z => kp c v ?_ z) (fun c hc => stay hc exo_own) (fun c xs hc => stay hc exo_tup)
  rcases hc with hc | hc
  · rw [hc]
    exact hb
  · exact at_ne e hc exo_own
end
/-- self.f = e, the only field -/
def tSet1 (K : PySem.W.Frag) (B newId : String) (f : Str) (to te : TE) : TS := fun D σ H => te σ H fun y H1 => to σ H1 fun x H2 => ∃ a C : Addr, x = .ref a ∧ Xc K C B newId ∧ PySem.W.findIn K (.ref C) f = some none ∧
  H2 a = some (exo a C none) ∧ ∀ dx, H2 dx = none → dx ≠ a → D.nx σ (upd (upd H2 dx (exd dx [(f, y)])) a (exo a C (some dx)))
theorem ps_set1 {X : Cx} {o e : Expr} {to te : TE} {f : Str} {p' pos : Pos} {B newId : String} (ho : PE X o to) (he : PE X e te) (hs : swapsWith e (some (.Attribute o f p')) pos.line X.env = pure false := by rfl) : PS X (.Assign [.Attribute o f p'] e pos) (tSet1 X.K B newId f to te) := by
  refine ⟨fun pins s σ H D I h => plainObj_wpAny_Assign_Attribute (thn (he.run pins s σ H _ I h) ?_) hs⟩
  rintro v s1 ⟨y, H1, I1, r1, q1⟩
  refine thn (ho.run pins s1 σ H1 _ I1 q1) ?_
  rintro u s2 ⟨x, H2, I2, r2, a, C, rfl, T, no, ea, q⟩
  cases (show u = Value.ref a from r2)
  exact set_first T I2 ea no r1 fun dx s' n ne J => ⟨σ, _, J, q dx n ne⟩
/-- what __init__(self, v) of such a class promises -/
def spIni (K : PySem.W.Frag) (B newId : String) (f : Str) : Sp := fun vs H Q _ => ∃ (a C : Addr) (v : V), vs = [.ref a, v] ∧ Xc K C B newId ∧ PySem.W.findIn K (.ref C) f = some none ∧ H a = some (exo a C none) ∧
  ∀ dx, H dx = none → dx ≠ a → Q .non (upd (upd H dx (exd dx [(f, v)])) a (exo a C (some dx)))
/-- C(e): an error whose own dict, new, holds f -/
def tMk1 (C : Addr) (f : Str) (ta : TA) : L2.St → Hp → XK → Prop := fun σ H Q => ta σ H fun vs H1 => ∃ v, vs = [v] ∧ ∀ d, H1 d = none → Q (.ref C) (some d) (upd H1 d (.xd [(f, v)]))
section
variable {X : Cx} {B newId initId : String} {bmB : List Value} {x f : Str} {C fI : Addr} {k : Nat} {fd : FuncData} {ps : List Str} {e : Expr} {es : List Expr} {ta : TA} {p pos : Pos}
theorem del_upd {H : Hp} {a d : Addr} {o u : HO} (hd : d ≠ a) (ha : H a = none) : upd (del (upd (upd H d o) a u) a) d o = upd H d o := by
  funext b
  by_cases h1 : b = d
  · rw [h1, upd_same, upd_same]
  · rw [upd_ne h1, upd_ne h1]
    by_cases h2 : b = a
    · rw [h2, del_same, ha]
    · rw [del_ne h2, upd_ne h2, upd_ne h1]
theorem pmk_init (F : ExcBaseFacts B newId initId bmB) (T : Xc X.K C B newId) (no : PySem.W.findIn X.K (.ref C) f = some none) (iC : PySem.W.findIn X.K (.ref C) "__init__" = some (some (.ref fI))) (tI : PySem.W.typeIn X.K (.ref fI) = some (.type "function"))
    (F1 : FnOk X.prog X.w X.K X.mg X.base CX0 k fI fd ps (spIni X.K B newId f)) (hr : Room (k + 1) X.A) (hb : Binds X.K fd ps []) (hg : Gl X x) (hm : X.mg x = some (.ref C)) (ha : PA X (e :: es) ta)
    (hdb : (x == ("__debug__" : Str)) = false := by decide) (he : starEach (e :: es) X.env = (false, eval e X.env) :: starEach es X.env := by rfl) (hpl : (backTo pos (starEach es X.env)).any (·.1) = false := by rfl) :
    L2N.PMk X (.Call (.Name x p) (e :: es) [] pos) (tMk1 C f ta) := by
  intro pins s σ H Q I h
  obtain ⟨nm, q, N, bs, bm, sn, sub, ab, col, dd, k0, k1, k2, k3, k5, hC, hbm⟩ := T.cls
  refine wpAny_Call_Name_kw (ld_glob I hg hm ?_ hdb)
  refine PySem.W.callWith_K (h₀ := X.base) I.ok.mod.kin T.kC (thn (ha.run pos pins s σ H _ I h) ?_) he hpl
  rintro us s1 ⟨vs, H1, I1, r1, v, rfl, q1⟩
  refine ⟨I1.kIn, ?_⟩
  show wpAny _ _ (call (.ref C) us) _ _ _
  obtain ⟨hp, g, dr, tk, os⟩ := s1
  have above : hp.objs.size ≤ hp.objs.size + 1 := Nat.le_succ _
  have free : H1 (hp.objs.size + 1) = none := I1.hok.fresh above
  have up : ∀ b o, hp.get? b = some o → ((hp.push (PySem.W.kdv_tup us)).push (PySem.HandSPX.excO C hp.objs.size)).get? b = some o := fun b o e => Heap.get?_push_of_some _ (Heap.get?_push_of_some _ e)
  have at1 : ((hp.push (PySem.W.kdv_tup us)).push (PySem.HandSPX.excO C hp.objs.size)).get? (hp.objs.size + 1) = some (PySem.HandSPX.excO C hp.objs.size) := by heap_get
  have I2 : Inv X pins σ (upd H1 (hp.objs.size + 1) (exo (hp.objs.size + 1) C none)) ⟨(hp.push (PySem.W.kdv_tup us)).push (PySem.HandSPX.excO C hp.objs.size), g, dr, tk, os⟩ := I1.laid (t' := tk) up above (exo_ok at1)
  have r2 : Vals [V.ref (hp.objs.size + 1), v] (Value.ref (hp.objs.size + 1) :: us) := .cons rfl r1
  -- the promise of __init__ at hand, with the end that is wanted
  have wish : spIni X.K B newId f [V.ref (hp.objs.size + 1), v] (upd H1 (hp.objs.size + 1) (exo (hp.objs.size + 1) C none))
      (fun w2 H2 => w2 = .non ∧ ∃ d, H1 d = none ∧ d ≠ hp.objs.size + 1 ∧ H2 = upd (upd (upd H1 (hp.objs.size + 1) (exo (hp.objs.size + 1) C none)) d (exd d [(f, v)])) (hp.objs.size + 1) (exo (hp.objs.size + 1) C (some d))) E0 :=
    ⟨_, C, v, rfl, T, no, upd_same, fun d hd hne => ⟨rfl, d, by rw [upd_ne hne] at hd; exact hd, hne, rfl⟩⟩
  have hl : (Value.ref (hp.objs.size + 1) :: us ++ []).length = ps.length := by
    rw [List.append_nil, ← r2.length]
    exact F1.len _ _ _ _ wish
  have b2 := hb _ (Value.ref (hp.objs.size + 1) :: us) I2.kIn hl
  rw [List.append_nil] at b2
  have small : us.length ≤ sizeLine := by
    rw [← Paired.length r1]
    exact (by decide : 1 ≤ sizeLine)
  refine wpAny_call (PySem.XG.make_call F hbm (I1.kIn _ _ hC) (PySem.W.looks_findIn I1.kIn iC) (fun self => PySem.W.bind_fn I1.kIn self tI) small
    (codeAny_mono (F1.run _ X.stack _ _ ⟨Value.ref (hp.objs.size + 1) :: us, []⟩ (Value.ref (hp.objs.size + 1) :: us) _ _ E0 (hr.make C us []) (I2.env0.make C us []) b2 r2 wish) fun r s' hq' => ?_))
  cases r with
  | error er => exact False.elim hq'
  | ok fl =>
    cases fl with
    | next => exact False.elim hq'
    | brk => exact False.elim hq'
    | cont => exact False.elim hq'
    | ret u =>
      obtain ⟨w2, H2, os2, bare2, un2, hok2, rv, rfl, d, hd1, hdn, rfl⟩ := hq'
      obtain ⟨h2, g2, d2, t2, os'⟩ := s'
      obtain ⟨t0, G, J, kG, ge, hoe, na⟩ := mk_end0 (d2 := d2) (t2 := t2) I1 above up un2 hok2 os2 bare2 (d := d) (fs := [(f, v)]) upd_same (by rw [upd_ne hdn, upd_same]) hd1
      have eH : upd (del (upd (upd (upd H1 (hp.objs.size + 1) (exo (hp.objs.size + 1) C none)) d (exd d [(f, v)])) (hp.objs.size + 1) (exo (hp.objs.size + 1) C (some d))) (hp.objs.size + 1)) d (.xd [(f, v)]) = upd H1 d (.xd [(f, v)]) := by
        funext b
        by_cases h1 : b = d
        · rw [h1, upd_same, upd_same]
        · rw [upd_ne h1, upd_ne h1]
          by_cases h2 : b = hp.objs.size + 1
          · rw [h2, del_same, free]
          · rw [del_ne h2, upd_ne h2, upd_ne h1, upd_ne h2]
      rw [eH] at J na
      refine ⟨rv, hp.objs.size + 1, _, _, ⟨G, g2, d2, t2, os'⟩, _, .ref C, some d, rfl, J, kG, ge, hoe, ⟨rfl, rfl, fun vs hv => ?_⟩, rfl, rfl, na, rfl, bare2, raises_own T.exC T.tyC, q1 d hd1⟩
      cases hv
      rfl
/-- C(e), C an own class of errors without an own __init__ -/
theorem pmk_text (F : ExcBaseFacts B newId initId bmB) (q : PySem.W.excIn X.K C bmB newId = true) (gC : X.mg x = some (.ref C)) (kC : PySem.W.keepIn X.K (.ref C) = true) (r : Raises X (.ref C)) (hg : Gl X x) (ha : PA X (e :: es) ta)
    (hdb : (x == ("__debug__" : Str)) = false := by decide) (he : starEach (e :: es) X.env = (false, eval e X.env) :: starEach es X.env := by rfl) (hpl : (backTo pos (starEach es X.env)).any (·.1) = false := by rfl) :
    L2N.PMk X (.Call (.Name x p) (e :: es) [] pos) (fun σ H Q => ta σ H fun vs H1 => vs.length ≤ 1000 ∧ Q (.ref C) none H1) := by
  intro pins s σ H Q I h
  refine wpAny_Call_Name_kw (ld_glob I hg gC ?_ hdb)
  refine PySem.W.callWith_K (h₀ := X.base) I.ok.mod.kin kC (thn (ha.run pos pins s σ H _ I h) ?_) he hpl
  rintro us s1 ⟨vs, H1, I1, r1, hl, q1⟩
  refine ⟨I1.kIn, ?_⟩
  show wpAny _ _ (call (.ref C) us) _ _ _
  obtain ⟨bm, N, nm, qn, bs, hdct, sn, sub, ab, col, dd, k0, k1, k2, k3, k5, mN, hC, hN, hni, T⟩ := exc_obj I1.kIn q
  have small : us.length ≤ sizeLine := by
    rw [← Paired.length r1]
    exact Nat.le_trans hl (by decide)
  exact wpAny_call_exc_subT F T hC hN hni (fun h' e hm => L2N.mk_of I1 hm r q1 (I1.hok.gone hm.new)) small
end
end Lay
/-! LayI: repr of a value of any kind; a text times a number. -/
namespace Lay
open PySem PySem.Spec PyProof.Rows L2
/-- the value v is shown as z -/
inductive Sh (K : PySem.W.Frag) (H : Hp) : V → Str → Prop
  | int (i : Int) (h : i.natAbs.log2 < 1920) : Sh K H (.int i) (toString i)
  | str (x : Str) (h : (reprText x).length ≤ sizeLine) : Sh K H (.str x) (reprText x)
  | bl (b : Bool) : Sh K H (.bl b) (if b then "True" else "False")
  | non : Sh K H .non "None"
  | dat {a : Addr} {d : PyData} (h : Dp K H (.ref a) d) (h1 : d.showable = true) (h2 : d.hasDict = false) (h3 : d.depth ≤ 20) (h4 : d.shown.length ≤ sizeLine) : Sh K H (.ref a) d.shown
  | dct {p t : Addr} {k : Str} {is : List Int} (h : H p = some (.dK [(.inr k, .ref t)])) (ht : H t = some (.tup (is.map V.int))) (h1 : (PyData.dict [(.str k, .tuple (is.map PyData.int))]).showable = true)
      (h4 : (PyData.dict [(.str k, .tuple (is.map PyData.int))]).shown.length ≤ sizeLine) (h3 : (PyData.dict [(.str k, .tuple (is.map PyData.int))]).depth ≤ 20) : Sh K H (.ref p) (PyData.dict [(.str k, .tuple (is.map PyData.int))]).shown
theorem reads_ints {h : Heap} : ∀ {is : List Int} {us : List Value}, Vals (is.map V.int) us → ReadsAll h us (is.map PyData.int) []
  | [], _, .nil => .nil
  | i :: r, _, .cons (b := u) hu ht => by
    obtain ⟨t, rfl⟩ := hu
    exact ReadsAll.cons (as := []) (bs := []) (Reads.int i t) (reads_ints ht)
def rShow (K : PySem.W.Frag) : List V → Hp → VK → Prop := fun xs H Q => ∃ v z, xs = [v] ∧ Sh K H v z ∧ Q (.str z) H
section
variable {X : Cx}
theorem call_show (hq : Quiet X.A) (hu : X.A.units + 64 < cLine) : CallR X (.builtin "repr") (rShow X.K) := by
  intro pins s σ H xs us Q I r h
  obtain ⟨v, z, rfl, hs, q⟩ := h
  obtain ⟨u, rfl, ru⟩ := vals1 r
  cases hs with
  | int i hi =>
    obtain ⟨t, rfl⟩ := ru
    exact PySem.P.repr_of_int hi ⟨.str _, H, I.tok _, ⟨_, rfl⟩, q⟩
  | str x hx =>
    obtain ⟨t, rfl⟩ := ru
    exact PySem.P.repr_of_str ⟨.str _, H, I.tok _, ⟨_, rfl⟩, q⟩ hx
  | bl b =>
    cases (show u = Value.bool b from ru)
    exact PySem.P.repr_of_bool ⟨.str _, H, I.tok _, ⟨_, rfl⟩, q⟩
  | non =>
    cases (show u = Value.none from ru)
    exact PySem.P.repr_of_none ⟨.str _, H, I.tok _, ⟨_, rfl⟩, q⟩
  | @dat a d hd h1 h2 h3 h4 =>
    cases (show u = Value.ref a from ru)
    obtain ⟨as, rd⟩ := Dp.reads I d (.ref a) (.ref a) hd rfl
    exact repr_of_reads' rd h1 (fun z => by rw [h2] at z; cases z) hq (by omega) (fun _ _ z => z) (fun h' u tk hk => ⟨.str d.shown, H, I.kept hk, ⟨u, rfl⟩, q⟩) h4
  | @dct p t k is hp ht h1 h4 h3 =>
    cases (show u = Value.ref p from ru)
    obtain ⟨_, nosys, vs, kv, o, es, ep, ho, hex, hd, _, hpr, _⟩ := (show ObjOk X.prog X.w H s.heap p (.dK [(.inr k, .ref t)]) from I.hok p _ hp)
    obtain ⟨_, its, rv, hT⟩ := (show ObjOk X.prog X.w H s.heap t (.tup (is.map V.int)) from I.hok t _ ht)
    obtain ⟨ot, hot, hct, n, hdt⟩ := hT
    cases kv with
    | @cons _ q2 _ _ e1 e2 =>
      cases e2
      obtain ⟨ky, w2⟩ := q2
      obtain ⟨e1, e3⟩ := e1
      cases e1
      cases (show w2 = Value.ref t from e3)
      generalize hl : es.toList = l at hpr
      cases hpr with
      | @cons e kv es2 kvs2 hk hv hr =>
        cases hr
        obtain ⟨eh, ek, ev⟩ := e
        have hk' : Value.isStrOf k ek = true := hk
        obtain ⟨tk, rfl⟩ : ∃ tk, ek = .str k tk := by
          cases ek with
          | str y u =>
            have e9 : (y == k) = true := hk'
            rw [beq_iff_eq] at e9
            exact ⟨u, by rw [e9]⟩
          | _ => cases hk'
        cases hv
        have rt : Reads s.heap (.ref t) (.tuple (is.map PyData.int)) [] := Reads.tuple hot hct hdt (reads_ints rv)
        have rd : Reads s.heap (.ref p) (.dict [(.str k, .tuple (is.map PyData.int))]) (p :: ([] ++ []) ++ ([] ++ [])) := by
          refine Reads.dict ho hex.1 hd ?_ ?_
          · rw [hl]
            exact ReadsAll.cons (Reads.str k tk) ReadsAll.nil
          · rw [hl]
            exact ReadsAll.cons rt ReadsAll.nil
        refine repr_of_reads' rd h1 (fun _ z => ?_) hq (by omega) (fun _ _ z => z) (fun h' u tk hk => ⟨.str _, H, I.kept hk, ⟨u, rfl⟩, q⟩) h4
        have e0 : sysModules = p := by simpa using z
        rw [← e0] at nosys
        exact absurd nosys (by decide)
theorem times_size (c : Array Nat) : ∀ (n : Nat) (a : Array Nat), (List.foldl (fun x1 x2 => x1 ++ x2) a (List.replicate n c)).size = a.size + n * c.size
  | 0, a => by simp
  | n + 1, a => by
    rw [List.replicate_succ, List.foldl_cons, times_size c n (a ++ c), Array.size_append, Nat.succ_mul]
    omega
/-- a text times a number: which text it is is not told -/
def rTimes : R2 := fun x y H Q => ∃ z n, x = .str z ∧ y = .int n ∧ 1 ≤ n ∧ n ≤ 1000 ∧ 1 ≤ z.length ∧ z.length ≤ 1000 ∧ ∀ w : Str, Q (.str w) H
theorem op_times : OpR X (binaryOp .Mult) rTimes := by
  intro pins s σ H x y v u Q I rx ry h
  obtain ⟨z, n, rfl, rfl, h1, h2, h3, h4, q⟩ := h
  obtain ⟨t, rfl⟩ := rx
  obtain ⟨t', rfl⟩ := ry
  have e1 : decide (n < -(2 ^ 63 : Int)) = false := decide_eq_false (by omega)
  have e2 : decide (n ≥ 2 ^ 63) = false := decide_eq_false (by omega)
  have big : z.length * n.toNat ≤ 1000 * 1000 := Nat.mul_le_mul h4 (by omega)
  refine PySem.P.mul_str (by rw [e1, e2]; rfl) (fun _ _ => ?_) (fun _ _ => ?_) ?_
  · have : (1000 : Int) ≤ (2 ^ 63 - 1) / n := (Int.le_ediv_iff_mul_le (by omega)).mpr (by omega)
    omega
  · unfold Builtin.Str.tooLong
    refine decide_eq_false ?_
    have : 1000 * 1000 ≤ sizeLine := by decide
    omega
  · rw [if_neg (by omega : ¬ n < 1)]
    by_cases hz : (n == 1 || z.length == 0) = true
    · rw [if_pos hz]
      exact ⟨.str z, H, I, ⟨t, rfl⟩, q z⟩
    · rw [if_neg hz]
      refine ⟨?_, ⟨.str _, H, I.tok _, ⟨_, rfl⟩, q _⟩⟩
      show (List.foldl (fun x1 x2 => x1 ++ x2) #[] (List.replicate n.toNat z.cps)).size ≤ sizeLine
      rw [times_size]
      have e3 : z.cps.size = z.length := rfl
      have : 1000 * 1000 ≤ sizeLine := by decide
      have e4 : (#[] : Array Nat).size = 0 := rfl
      have e5 : n.toNat * z.cps.size = z.length * n.toNat := by rw [e3, Nat.mul_comm]
      omega
end
end Lay
/-! LayD: rules for k04: what is never reached, // by any divisor, a range that is kept. -/
namespace Lay
open PySem PySem.Spec PyProof.Rows L2
section
variable {X : Cx} {tg : Expr}
def CDivWN (_ j : Int) : Prop := j ≠ 0 ∧ j.natAbs.log2 < 9000
theorem op_fdivWN : OpR X (binaryOp .FloorDiv) (rI CDivWN fun i j => .int (i.fdiv j)) := opI fun _ _ _ _ _ _ _ hc q => floordiv_int hc.1 q (.inl (PyProof.noPylong_of_log2 hc.2))
theorem q_range1 : CallR X (.type "range") (fun vs H Q => ∃ j, vs = [V.int j] ∧ ∀ p, H p = none → Q (.ref p) (upd H p (.rng 0 j))) := by
  intro pins s σ H vs us Q I r h
  obtain ⟨j, rfl, q⟩ := h
  obtain ⟨u1, rfl, rj⟩ := vals1 r
  obtain ⟨u, rfl⟩ := rj
  refine call_range_1 ⟨.ref s.heap.objs.size, upd H s.heap.objs.size (.rng 0 j), I.laid (fun b o e => Heap.get?_push_of_some _ e) (Nat.le_refl _) ?_, rfl, q _ (I.hok.fresh (Nat.le_refl _))⟩
  exact ⟨_, _, _, Heap.get?_push_size _ rfl⟩
/-- for x in r, r a range that stands in a name -/
def iRngV (te : TE) : TI := fun σ H R => te σ H fun x H1 => ∃ (p : Addr) (j : Int), x = .ref p ∧ H1 p = some (.rng 0 j) ∧ -(2 ^ 62) ≤ j ∧ j < 2 ^ 62 ∧ R (Itr 0 j.toNat) H1
theorem pi_rngv {e : Expr} {te : TE} (he : PE X e te) : PI X tg e (iRngV te) := by
  refine ⟨fun pins s σ H R I h => thn (he.run pins s σ H _ I h) ?_⟩
  rintro v s1 ⟨x, H1, I1, r1, p, j, rfl, hp, h3, h4, q⟩
  cases (show v = Value.ref p from r1)
  obtain ⟨t, u, w, ho⟩ := (show ObjOk X.prog X.w H1 s1.heap p (.rng 0 j) from I1.hok p _ hp)
  refine wpAny_pyIter_range (show IsRange s1.heap p 0 j 1 t u w from ho) (small_one (by decide) (by decide) h3 h4) ?_
  refine ⟨s1.heap.objs.size, [s1.heap.objs.size], _, _, H1, rfl, I1.kept (t' := s1.toks) fun b o e => Heap.get?_push_of_some _ e, turn_range _ 0 j.toNat, ?_, fun b hb => ?_, q⟩
  · have e2 : ((j.toNat : Nat) : Int) - ((0 : Nat) : Int) = Builtin.Range.rangeSize 0 j 1 := by rw [rangeSize_one]; split <;> omega
    show IsRangeIter _ _ (0 + ((0 : Nat) : Int) * 1) (((j.toNat : Nat) : Int) - ((0 : Nat) : Int)) 1
    rw [e2]
    exact Heap.get?_push_size _ rfl
  · have e : b = s1.heap.objs.size := by simpa using hb
    subst e
    exact I1.fpOk (Nat.le_refl _) (I1.hok.fresh (Nat.le_refl _))
theorem rd_rng2 {ta : TA} {σ : L2.St} {H : Hp} {R : It → Hp → Prop} (q : ta σ H (fun vs H1 => ∃ i j : Int, vs = [.int i, .int j] ∧ (-(2 ^ 62) ≤ i ∧ i < 2 ^ 62 ∧ -(2 ^ 62) ≤ j ∧ j < 2 ^ 62) ∧ R (Itr i (j - i).toNat) H1)) : iRng2 ta σ H R := q
end
end Lay
namespace Lay
open PySem PySem.Spec PyProof.Rows L2
section
variable {σ : L2.St} {H H1 : Hp} {Q : VK} {K : PySem.W.Frag}
/-- a comprehension whose items are new objects: P tells of the j-th; what stands stays, but the list itself -/
theorem lc_made {J : It} {n : Nat} {G : Hp → Prop} {item : Nat → V} (w : Wk J n G item) {i : Nat} {te : TE} {E : Addr} (hn : n ≤ 1000) (hE : H1 E = none) (hG : ∀ H', Same H1 H' → G H') (P : Nat → V → Hp → Prop) (mono : ∀ j v H H', But E H H' → P j v H → P j v H')
    (he : ∀ j, j < n → ∀ H' o, Same H1 H' → H' E = some o → ∀ R : VK, (∀ v H'', Same H' H'' → P j v H'' → R v H'') → te ((wipe σ [i]).set i (some (item j))) H' R)
    (hd : ∀ ys H', Same H1 H' → ys.length = n → (∀ j v, ys[j]? = some v → P j v H') → H' E = some (.lst ys) → Q (.ref E) H') : LcAt J (gName i) tYes te [i] σ E H1 Q := by
  refine ⟨fun k m H' => m = n - k ∧ k ≤ n ∧ Same H1 H' ∧ ∃ ys : List V, ys.length = k ∧ (∀ j v, ys[j]? = some v → P j v H') ∧ H' E = some (.lst ys), ⟨n, rfl, Nat.zero_le _, same_up hE (Same.refl H1), [], rfl, (fun j v e => by cases e), upd_same⟩, ?_⟩
  rintro k m H' ⟨rfl, hk, hs, ys, hy, hP, hl⟩
  by_cases hlt : k < n
  · refine Or.inr ⟨w.go k H' (hG H' hs) hlt, fun H'' => Same H1 H'' ∧ ∃ ys : List V, ys.length = k + 1 ∧ (∀ j v, ys[j]? = some v → P j v H'') ∧ H'' E = some (.lst ys), fun H'' h => ⟨n - (k + 1), by omega, rfl, hlt, h⟩, fun x H2 hx => ?_⟩
    obtain ⟨rfl, rfl⟩ := w.yld k H' x H2 (hG H' hs) hlt hx
    refine ⟨wipe1 σ i _, ?_⟩
    refine rd_yes ?_
    refine rd_ifb (fun _ => ?_) (fun z => nomatch z)
    refine he k hlt H2 _ hs hl _ fun v H3 s3 pv => ?_
    have toE : But E H2 (upd H3 E (.lst (ys ++ [v]))) := fun b o nb e => by
      rw [upd_ne nb]
      exact s3 b o e
    refine ⟨ys, s3 _ _ hl, Nat.lt_of_le_of_lt (by omega : ys.length ≤ 1000) (by decide), same_up hE (hs.trans s3), ys ++ [v], by rw [List.length_append, hy]; rfl, fun j u e => ?_, upd_same⟩
    rcases Nat.lt_or_ge j ys.length with q | q
    · rw [List.getElem?_append_left q] at e
      exact mono j u _ _ toE (hP j u e)
    · rw [List.getElem?_append_right q] at e
      have j0 : j - ys.length = 0 := by
        rcases Nat.eq_zero_or_pos (j - ys.length) with y | y
        · exact y
        · rw [List.getElem?_eq_none (by show 1 ≤ j - ys.length; exact y)] at e
          cases e
      rw [j0] at e
      obtain rfl := Option.some.inj e
      have jk : j = k := by omega
      subst jk
      exact mono _ _ _ _ (fun b o nb e => by rw [upd_ne nb]; exact e) pv
  · have e : k = n := by omega
    subst e
    exact Or.inl ⟨w.stop H' (hG H' hs), hd ys H' hs hy hP hl⟩
end
/-- a list of these ints stands at p; a list of such lists; a tuple of tuples of ints -/
def Li (H : Hp) (p : Addr) (ns : List Int) : Prop := H p = some (.lst (ns.map V.int))
def LL (H : Hp) (p : Addr) (M : List (List Int)) : Prop := ∃ rs : List Addr, H p = some (.lst (rs.map V.ref)) ∧ rs.length = M.length ∧ ∀ (i : Nat) (r : Addr) (row : List Int), rs[i]? = some r → M[i]? = some row → Li H r row
def TT (H : Hp) (p : Addr) (M : List (List Int)) : Prop := ∃ rs : List Addr, H p = some (.tup (rs.map V.ref)) ∧ rs.length = M.length ∧ ∀ (i : Nat) (r : Addr) (row : List Int), rs[i]? = some r → M[i]? = some row → H r = some (.tup (row.map V.int))
theorem TT.same {H H' : Hp} {p : Addr} {M : List (List Int)} (s : Same H H') (h : TT H p M) : TT H' p M := by
  obtain ⟨rs, h1, h2, h3⟩ := h
  exact ⟨rs, s _ _ h1, h2, fun i r row e1 e2 => s _ _ (h3 i r row e1 e2)⟩
theorem Li.same {H H' : Hp} {p : Addr} {ns : List Int} (s : Same H H') (h : Li H p ns) : Li H' p ns := s _ _ h
theorem LL.same {H H' : Hp} {p : Addr} {M : List (List Int)} (s : Same H H') (h : LL H p M) : LL H' p M := by
  obtain ⟨rs, h1, h2, h3⟩ := h
  exact ⟨rs, s _ _ h1, h2, fun i r row e1 e2 => s _ _ (h3 i r row e1 e2)⟩
theorem LL.but {H H' : Hp} {a p : Addr} {M : List (List Int)} (s : But a H H') (hp : p ≠ a) (hr : ∀ rs : List Addr, H p = some (.lst (rs.map V.ref)) → a ∉ rs) (h : LL H p M) : LL H' p M := by
  obtain ⟨rs, h1, h2, h3⟩ := h
  have na := hr rs h1
  exact ⟨rs, s _ _ hp h1, h2, fun i r row e1 e2 => s _ _ (fun z => na (z ▸ List.mem_of_getElem? e1)) (h3 i r row e1 e2)⟩
/-- all are refs: the list of their addresses -/
theorem refs_of {ys : List V} (h : ∀ (j : Nat) (v : V), ys[j]? = some v → ∃ a, v = V.ref a) : ∃ rs : List Addr, ys = rs.map V.ref := by
  induction ys with
  | nil => exact ⟨[], rfl⟩
  | cons y r ih =>
    obtain ⟨rs, rfl⟩ := ih fun j v e => h (j + 1) v (by rw [List.getElem?_cons_succ]; exact e)
    obtain ⟨a, rfl⟩ := h 0 y rfl
    exact ⟨a :: rs, rfl⟩
end Lay
namespace Lay
open PySem PySem.Spec PyProof.Rows L2
theorem rd_par {i j : Nat} {ta : TA} {D : Ends} {σ : L2.St} {H : Hp} (q : ta σ H fun vs H1 => ∃ v w, vs = [v, w] ∧ D.nx ((σ.set i (some v)).set j (some w)) H1) : tPar i j ta D σ H := q
end Lay
namespace Lay
open PySem PySem.Spec PyProof.Rows L2
theorem cut_head (xs : List V) (k : Nat) : cutV xs none (some (k : Int)) = xs.take k := by
  unfold cutV
  rw [HT.sIx_none, HT.sIx_nat, Nat.sub_zero, List.drop_zero]
  rcases Nat.le_total k xs.length with h | h
  · rw [Nat.min_eq_left h]
  · rw [Nat.min_eq_right h, List.take_length, List.take_of_length_le h]
theorem cut_tail (xs : List V) (k : Nat) : cutV xs (some (k : Int)) none = xs.drop k := by
  unfold cutV
  rw [HT.sIx_none, HT.sIx_nat]
  rcases Nat.le_total k xs.length with h | h
  · rw [Nat.min_eq_left h]
    exact List.take_of_length_le (by rw [List.length_drop]; omega)
  · rw [Nat.min_eq_right h, List.drop_length, List.drop_of_length_le h, List.take_nil]
theorem erase_cut {α : Type} (l : List α) (k : Nat) : l.take k ++ l.drop (k + 1) = l.eraseIdx k := (List.eraseIdx_eq_take_drop_succ ..).symm
/-- lists of lists of ints as data -/
def rowD (r : List Int) : PyData := .list (r.map PyData.int)
theorem dp_ints {K : PySem.W.Frag} {H : Hp} : ∀ r : List Int, DpAll K H (r.map V.int) (r.map PyData.int)
  | [] => .nil
  | x :: r => .cons (.int x) (dp_ints r)
theorem dp_rows {K : PySem.W.Frag} {H : Hp} : ∀ (rs : List Addr) (M : List (List Int)), rs.length = M.length → (∀ (i : Nat) (r : Addr) (row : List Int), rs[i]? = some r → M[i]? = some row → Li H r row) → DpAll K H (rs.map V.ref) (M.map rowD)
  | [], [], _, _ => .nil
  | r :: rs, row :: M, hl, h => .cons (.lst (SqL.of (h 0 r row rfl rfl)) (dp_ints row)) (dp_rows rs M (Nat.succ.inj hl) fun i a b e1 e2 => h (i + 1) a b (by rw [List.getElem?_cons_succ]; exact e1) (by rw [List.getElem?_cons_succ]; exact e2))
  | [], _ :: _, hl, _ => by cases hl
  | _ :: _, [], hl, _ => by cases hl
theorem ints_flat : ∀ r : List Int, PyData.canLayAll0 (r.map PyData.int) = true ∧ PyData.depthAll (r.map PyData.int) = 0
  | [] => ⟨rfl, rfl⟩
  | _ :: r => by
    obtain ⟨h1, h2⟩ := ints_flat r
    refine ⟨?_, ?_⟩
    · show (true && PyData.canLayAll0 (r.map PyData.int)) = true
      rw [h1]
      rfl
    · show max 0 (PyData.depthAll (r.map PyData.int)) = 0
      rw [h2]
      rfl
theorem rowD_ok (r : List Int) : (rowD r).canLay0 = true ∧ (rowD r).depth ≤ 1 := by
  obtain ⟨h1, h2⟩ := ints_flat r
  refine ⟨h1, ?_⟩
  show PyData.depthAll (r.map PyData.int) + 1 ≤ 1
  omega
theorem rows_shaped (M : List (List Int)) : SeqAt.shaped (.list (M.map rowD)) = true := shaped_listN (n := 1) (by decide) fun d hd => by
  obtain ⟨r, _, rfl⟩ := List.mem_map.mp hd
  exact rowD_ok r
theorem LL.dp {K : PySem.W.Frag} {H : Hp} {p : Addr} {M : List (List Int)} (h : LL H p M) : Dp K H (.ref p) (.list (M.map rowD)) := by
  obtain ⟨rs, h1, h2, h3⟩ := h
  exact .lst (SqL.of h1) (dp_rows rs M h2 h3)
end Lay
theorem Lay.erase_map {α β : Type} (f : α → β) : ∀ (l : List α) (k : Nat), (l.map f).eraseIdx k = (l.eraseIdx k).map f
  | [], _ => rfl
  | _ :: _, 0 => rfl
  | a :: l, k + 1 => by
    show f a :: (l.map f).eraseIdx k = f a :: (l.eraseIdx k).map f
    rw [Lay.erase_map f l k]
namespace Lay
open PySem PySem.Spec PyProof.Rows L2
section
variable {σ : L2.St} {H1 : Hp} {Q : VK} {K : PySem.W.Frag}
/-- [e for x, y in zip(xs, ys)], two lists of one length -/
theorem lc_zip {a b E : Addr} {xs ys : List V} {i1 i2 n : Nat} {te : TE} (hx : xs.length = n) (hy : ys.length = n) (hn : n ≤ 1000) (hE : H1 E = none) (ha : SqL K H1 a xs) (hb : SqL K H1 b ys)
    (hw : ∀ x y, wipe (((wipe σ [i1, i2]).set i1 (some x)).set i2 (some y)) [i1, i2] = wipe σ [i1, i2]) (f : Nat → V)
    (he : ∀ j, j < n → ∀ H', Same H1 H' → ∀ R : VK, R (f j) H' → te (((wipe σ [i1, i2]).set i1 (some (xs.getD j .non))).set i2 (some (ys.getD j .non))) H' R)
    (hd : ∀ H', Same H1 H' → H' E = some (.lst ((List.range n).map f)) → Q (.ref E) H') : LcAt (Itz K a b) (gTup K 2 (gCons (gName i1) (gCons (gName i2) gNil))) tYes te [i1, i2] σ E H1 Q := by
  have keep : ∀ {p : Addr} {zs : List V} {H' : Hp}, Same H1 H' → SqL K H1 p zs → SqL K H' p zs := fun s h => s.seq h
  have gx : ∀ i, i < n → xs[i]? = some (xs.getD i .non) := fun i h => by rw [List.getD_eq_getElem?_getD, List.getElem?_eq_getElem (by omega)]; rfl
  have gy : ∀ i, i < n → ys[i]? = some (ys.getD i .non) := fun i h => by rw [List.getD_eq_getElem?_getD, List.getElem?_eq_getElem (by omega)]; rfl
  refine lc_gen (n := n) (G := fun H' => SqL K H' a xs ∧ SqL K H' b ys) (fun j x H' => ∃ T, x = .ref T ∧ H' T = some (.tup [xs.getD j .non, ys.getD j .non]))
    (fun j σ2 H' => σ2 = ((wipe σ [i1, i2]).set i1 (some (xs.getD j .non))).set i2 (some (ys.getD j .non))) (fun H' h => ⟨_, _, h.1, h.2, Or.inl (by omega)⟩) (fun i H' h hi => ⟨_, _, _, _, h.1, h.2, gx i hi, gy i hi⟩)
    (fun i H' x H'' h hi y => ?_) hn hE (fun H' s => ⟨keep s ha, keep s hb⟩) (fun _ => true) f ?_ ?_ ?_ ?_
  · obtain ⟨T, x1, x2, rfl, hT, rfl, f1, f2⟩ := y
    have e1 := Option.some.inj ((f1 _ h.1).symm.trans (gx i hi))
    have e2 := Option.some.inj ((f2 _ h.2).symm.trans (gy i hi))
    subst e1 e2
    exact ⟨fun b o e => up_old hT e, T, rfl, upd_same⟩
  · rintro j x H' hj hs ⟨T, rfl, hT⟩ R kk
    exact ⟨T, _, rfl, SqT.of hT, rfl, _, _, rfl, _, _, rfl, rfl, kk _ (hw _ _) rfl⟩
  · rintro j σ2 H' hj hs hS R kk
    exact kk _ (Same.refl _)
  · rintro j σ2 H' H0 hj _ rfl hs hs0 R kk
    exact he j hj H' hs R (kk _ (Same.refl _))
  · intro H' hs hl2
    rw [filt_yes] at hl2
    exact hd H' hs hl2
end
end Lay
namespace Lay
open PySem PySem.Spec PyProof.Rows L2
theorem rd_zipL {K : PySem.W.Frag} {ta : TA} {σ : L2.St} {H : Hp} {R : It → Hp → Prop} (q : ta σ H (fun vs H1 => ∃ a b xs ys, vs = [.ref a, .ref b] ∧ SqL K H1 a xs ∧ SqL K H1 b ys ∧ R (Itz K a b) H1)) : iZip K ta σ H R := q
end Lay
namespace Lay
open PySem PySem.Spec PyProof.Rows L2
section
variable {σ : L2.St} {H H1 : Hp} {Q : VK} {K : PySem.W.Frag}
theorem wipe2 (σ : L2.St) (a b : Nat) (h : a ≠ b) (x : V) : wipe ((wipe σ [a, b]).set a (some x)) [a, b] = wipe σ [a, b] := by
  show ((((σ.set b none).set a none).set a (some x)).set b none).set a none = (σ.set b none).set a none
  rw [List.set_set, List.set_comm _ _ h, List.set_set, List.set_set]
theorem wipe_in (σ : L2.St) (a b : Nat) (h : a ≠ b) (x : V) : wipe ((wipe σ [a, b]).set a (some x)) [b] = (wipe σ [a, b]).set a (some x) := by
  show (((σ.set b none).set a none).set a (some x)).set b none = ((σ.set b none).set a none).set a (some x)
  rw [List.set_set, List.set_comm _ _ h, List.set_set]
/-- [f(x, y) for x in .. for y in ..], all of it leaving what stands -/
theorem lc2_same {wi wi1 : TI} {te : TE} {a b : Nat} (hab : a ≠ b) {n : Nat} (hn : n ≤ 30) (c : Nat → Nat) (hc : ∀ i, i < n → c i ≤ 30) (f : Nat → Nat → V) (item : Nat → V) (item1 : Nat → Nat → V) (G : Hp → Prop) (G1 : Nat → Hp → Prop)
    (hi : ∀ R : It → Hp → Prop, (∀ J H1, Same H H1 → Wk J n G item → R J H1) → wi σ H R)
    (hG : ∀ H', Same H H' → G H')
    (hG1 : ∀ i H', i < n → Same H H' → G1 i H')
    (hi1 : ∀ i, i < n → ∀ H', Same H H' → ∀ R : It → Hp → Prop, (∀ J H1, Same H' H1 → Wk J (c i) (G1 i) (item1 i) → R J H1) → wi1 ((wipe σ [a, b]).set a (some (item i))) H' R)
    (he : ∀ i j, i < n → j < c i → ∀ H', Same H H' → ∀ R : VK, (∀ H'', Same H' H'' → R (f i j) H'') → te (((wipe σ [a, b]).set a (some (item i))).set b (some (item1 i j))) H' R)
    (hd : ∀ H' D, Same H H' → H' D = some (.lst ((List.range n).flatMap fun i => (List.range (c i)).map (f i))) → Q (.ref D) H') :
    tLc2 wi (gName a) tYes wi1 (gName b) tYes te [a, b] [b] σ H Q := by
  have len : ∀ k, k ≤ n → ((List.range k).flatMap fun i => (List.range (c i)).map (f i)).length ≤ k * 30 := by
    intro k
    induction k with
    | zero => intro _; exact Nat.zero_le _
    | succ k ih =>
      intro hk
      rw [List.range_succ, List.flatMap_append, List.length_append]
      have h1 := ih (by omega)
      have h2 : ([k].flatMap fun i => (List.range (c i)).map (f i)).length ≤ 30 := by
        simp only [List.flatMap_cons, List.flatMap_nil, List.append_nil, List.length_map, List.length_range]
        exact hc k (by omega)
      omega
  refine hi _ fun J H1 s1 w => ?_
  intro E hE
  refine ⟨fun k m H' => m = n - k ∧ k ≤ n ∧ Same H1 H' ∧ H' E = some (.lst ((List.range k).flatMap fun i => (List.range (c i)).map (f i))), ⟨n, rfl, Nat.zero_le _, same_up hE (Same.refl H1), upd_same⟩, ?_⟩
  rintro k m H' ⟨rfl, hk, hs, hl⟩
  by_cases hlt : k < n
  · refine Or.inr ⟨w.go k H' (hG H' (s1.trans hs)) hlt, fun H'' => Same H1 H'' ∧ H'' E = some (.lst ((List.range (k + 1)).flatMap fun i => (List.range (c i)).map (f i))), fun H'' h => ⟨n - (k + 1), by omega, rfl, hlt, h.1, h.2⟩, fun x H2 hy => ?_⟩
    obtain ⟨rfl, rfl⟩ := w.yld k H' x H2 (hG H' (s1.trans hs)) hlt hy
    refine ⟨wipe2 σ a b hab _, ?_⟩
    refine rd_yes ?_
    refine rd_ifb (fun _ => ?_) (fun z => nomatch z)
    refine hi1 k hlt H2 (s1.trans hs) _ fun J1 H4 s4 w1 => ?_
    refine ⟨fun j q H' => q = c k - j ∧ j ≤ c k ∧ Same H1 H' ∧ H' E = some (.lst (((List.range k).flatMap fun i => (List.range (c i)).map (f i)) ++ (List.range j).map (f k))), ⟨c k, rfl, Nat.zero_le _, hs.trans s4, by rw [s4 _ _ hl]; exact congrArg (fun z => some (HO.lst z)) (List.append_nil _).symm⟩, ?_⟩
    rintro j q H5 ⟨rfl, hj, hs5, hl5⟩
    by_cases hlj : j < c k
    · refine Or.inr ⟨w1.go j H5 (hG1 k _ hlt (s1.trans hs5)) hlj, fun H'' => Same H1 H'' ∧ H'' E = some (.lst (((List.range k).flatMap fun i => (List.range (c i)).map (f i)) ++ (List.range (j + 1)).map (f k))), fun H'' h => ⟨c k - (j + 1), by omega, rfl, hlj, h.1, h.2⟩, fun x H6 hy => ?_⟩
      obtain ⟨rfl, rfl⟩ := w1.yld j H5 x H6 (hG1 k _ hlt (s1.trans hs5)) hlj hy
      rw [wipe_in σ a b hab]
      refine ⟨?_, ?_⟩
      · show ((((wipe σ [a, b]).set a (some (item k))).set b (some (item1 k j)))).set b none = _
        rw [List.set_set]
        exact (wipe_in σ a b hab _).trans rfl
      refine rd_yes ?_
      refine rd_ifb (fun _ => ?_) (fun z => nomatch z)
      refine he k j hlt hlj H6 (s1.trans hs5) _ fun H7 s7 => ?_
      refine ⟨_, s7 _ _ hl5, ?_, same_up hE (hs5.trans s7), ?_⟩
      · rw [List.length_append, List.length_map, List.length_range]
        have h1 := len k hk
        have h2 := hc k hlt
        exact Nat.lt_of_le_of_lt (by omega : _ ≤ 1000) (by decide)
      · rw [upd_same, List.range_succ, List.map_append, List.append_assoc]
        rfl
    · have e : j = c k := by omega
      subst e
      refine Or.inl ⟨w1.stop H5 (hG1 k _ hlt (s1.trans hs5)), hs5, ?_⟩
      rw [hl5, List.range_succ, List.flatMap_append]
      simp only [List.flatMap_cons, List.flatMap_nil, List.append_nil]
  · have e : k = n := by omega
    subst e
    exact Or.inl ⟨w.stop H' (hG H' (s1.trans hs)), hd H' E (s1.trans hs) hl⟩
end
end Lay
namespace Lay
open PySem PySem.Spec PyProof.Rows L2
theorem pi_listK {X : Cx} {tg l : Expr} {tl : TE} {K : PySem.W.Frag} (e : X.K = K) (hl : PE X l tl) : PI X tg l (iList K tl) := by
  subst e
  exact pi_list hl
end Lay
/-! LayO: lists of new lists, none of them told twice; writing into them. -/
namespace Lay
open PySem PySem.Spec PyProof.Rows L2
/-- a list of lists of numbers, none of them told twice; the list and they were not there in H0 -/
def LLf (H0 H : Hp) (p : Addr) (M : List (List Int)) : Prop := ∃ rs : List Addr, H p = some (.lst (rs.map V.ref)) ∧ rs.length = M.length ∧ rs.Nodup ∧ H0 p = none ∧ (∀ r ∈ rs, H0 r = none) ∧ ∀ (i : Nat) (r : Addr) (row : List Int), rs[i]? = some r → M[i]? = some row → Li H r row
theorem LLf.ll {H0 H : Hp} {p : Addr} {M : List (List Int)} (h : LLf H0 H p M) : LL H p M := by
  obtain ⟨rs, h1, h2, _, _, _, h3⟩ := h
  exact ⟨rs, h1, h2, h3⟩
theorem LLf.same {H0 H H' : Hp} {p : Addr} {M : List (List Int)} (s : Same H H') (h : LLf H0 H p M) : LLf H0 H' p M := by
  obtain ⟨rs, h1, h2, hn, f1, f2, h3⟩ := h
  exact ⟨rs, s _ _ h1, h2, hn, f1, f2, fun i r row e1 e2 => s _ _ (h3 i r row e1 e2)⟩
theorem LLf.but {H0 H H' : Hp} {a p : Addr} {M : List (List Int)} (ha : H0 a ≠ none) (s : But a H H') (h : LLf H0 H p M) : LLf H0 H' p M := by
  obtain ⟨rs, h1, h2, hn, f1, f2, h3⟩ := h
  exact ⟨rs, s _ _ (fun z => ha (z ▸ f1)) h1, h2, hn, f1, f2, fun i r row e1 e2 => s _ _ (fun z => ha (z ▸ f2 r (List.mem_of_getElem? e1))) (h3 i r row e1 e2)⟩
theorem BagAt.live {H : Hp} {a : Addr} (h : BagAt H a) : H a ≠ none := fun z => by
  obtain ⟨_, _, _, e, _⟩ := h
  rw [z] at e
  cases e
theorem BagAt.same {H H' : Hp} {a : Addr} (s : Same H H') (h : BagAt H a) : BagAt H' a := by
  obtain ⟨g, m, c, e, r⟩ := h
  exact ⟨g, m, c, s _ _ e, r⟩
theorem But.same {a : Addr} {H H' : Hp} (s : Same H H') : But a H H' := fun b o _ e => s b o e
theorem But.free {a b : Addr} {H H' : Hp} (s : But a H H') (nb : b ≠ a) (h : H' b = none) : H b = none := by
  cases e : H b with
  | none => rfl
  | some o =>
    rw [s b o nb e] at h
    cases h
/-- two lists of rows put together -/
theorem LL.join {H : Hp} {q : Addr} {us ts : List Addr} {A B : List (List Int)} (hu : us.length = A.length) (ht : ts.length = B.length) (ru : ∀ (i : Nat) (r : Addr) (row : List Int), us[i]? = some r → A[i]? = some row → Li H r row) (rt : ∀ (i : Nat) (r : Addr) (row : List Int), ts[i]? = some r → B[i]? = some row → Li H r row) (hq : H q = some (.lst (us.map V.ref ++ ts.map V.ref))) : LL H q (A ++ B) := by
  refine ⟨us ++ ts, by rw [List.map_append]; exact hq, by rw [List.length_append, List.length_append, hu, ht], fun i r row e1 e2 => ?_⟩
  rcases Nat.lt_or_ge i us.length with y | y
  · rw [List.getElem?_append_left y] at e1
    rw [List.getElem?_append_left (by omega)] at e2
    exact ru i r row e1 e2
  · rw [List.getElem?_append_right y] at e1
    rw [List.getElem?_append_right (by omega)] at e2
    exact rt _ r row e1 (by rw [hu]; exact e2)
/-- all lots of the numbers below n, as the law has them -/
def lotsI (n : Nat) : List (List Int) := (Alg.lots n).map fun l => l.map fun (j : Nat) => (j : Int)
theorem lotsI_succ (n : Nat) : lotsI (n + 1) = lotsI n ++ (lotsI n).map fun l => l ++ [(n : Int)] := by
  unfold lotsI
  show ((Alg.lots n ++ (Alg.lots n).map fun l => l ++ [n]).map _) = _
  rw [List.map_append, List.map_map, List.map_map]
  congr 1
  exact List.map_congr_left fun l _ => by
    show (l ++ [n]).map _ = l.map _ ++ [(n : Int)]
    rw [List.map_append]
    rfl
theorem lotsI_len (n : Nat) : (lotsI n).length = 2 ^ n := by
  unfold lotsI
  rw [List.length_map, Alg.lots_len]
section
variable {σ : L2.St} {H H1 : Hp} {Q : VK} {K : PySem.W.Frag}
/-- a comprehension whose items are new objects, each one another one -/
theorem lc_new {J : It} {n : Nat} {G : Hp → Prop} {item : Nat → V} (w : Wk J n G item) {i : Nat} {te : TE} {E : Addr} (hn : n ≤ 1000) (hE : H1 E = none) (hG : ∀ H', Same H1 H' → G H') (P : Nat → Addr → Hp → Prop) (mono : ∀ j t H H', (∀ o, H t = some o → H' t = some o) → P j t H → P j t H') (live : ∀ j t H, P j t H → H t ≠ none)
    (he : ∀ j, j < n → ∀ H' o, Same H1 H' → H' E = some o → ∀ R : VK, (∀ t H'', H' t = none → Same H' H'' → P j t H'' → R (.ref t) H'') → te ((wipe σ [i]).set i (some (item j))) H' R)
    (hd : ∀ (rs : List Addr) H', Same H1 H' → rs.length = n → rs.Nodup → (∀ (j : Nat) (t : Addr), rs[j]? = some t → P j t H') → (∀ t ∈ rs, H1 t = none) → E ∉ rs → H' E = some (.lst (rs.map V.ref)) → Q (.ref E) H') : LcAt J (gName i) tYes te [i] σ E H1 Q := by
  refine ⟨fun k m H' => m = n - k ∧ k ≤ n ∧ Same H1 H' ∧ ∃ rs : List Addr, rs.length = k ∧ rs.Nodup ∧ (∀ (j : Nat) (t : Addr), rs[j]? = some t → P j t H') ∧ (∀ t ∈ rs, H1 t = none) ∧ E ∉ rs ∧ H' E = some (.lst (rs.map V.ref)), ⟨n, rfl, Nat.zero_le _, same_up hE (Same.refl H1), [], rfl, List.nodup_nil, (fun j v e => by cases e), (fun _ z => nomatch z), (fun z => nomatch z), upd_same⟩, ?_⟩
  rintro k m H' ⟨rfl, hk, hs, rs, hy, hnd, hP, hfr, hEr, hl⟩
  by_cases hlt : k < n
  · refine Or.inr ⟨w.go k H' (hG H' hs) hlt, fun H'' => Same H1 H'' ∧ ∃ rs : List Addr, rs.length = k + 1 ∧ rs.Nodup ∧ (∀ (j : Nat) (t : Addr), rs[j]? = some t → P j t H'') ∧ (∀ t ∈ rs, H1 t = none) ∧ E ∉ rs ∧ H'' E = some (.lst (rs.map V.ref)), fun H'' h => ⟨n - (k + 1), by omega, rfl, hlt, h⟩, fun x H2 hx => ?_⟩
    obtain ⟨rfl, rfl⟩ := w.yld k H' x H2 (hG H' hs) hlt hx
    refine ⟨wipe1 σ i _, ?_⟩
    refine rd_yes ?_
    refine rd_ifb (fun _ => ?_) (fun z => nomatch z)
    refine he k hlt H2 _ hs hl _ fun t H3 ht s3 pt => ?_
    have nt : t ∉ rs := fun hm => by
      obtain ⟨j, hj⟩ := List.getElem?_of_mem hm
      exact live j t H2 (hP j t hj) ht
    have nE : t ≠ E := fun z => by
      rw [z, hl] at ht
      cases ht
    refine ⟨rs.map V.ref, s3 _ _ hl, Nat.lt_of_le_of_lt (by rw [List.length_map]; omega : _ ≤ 1000) (by decide), same_up hE (hs.trans s3), rs ++ [t], by rw [List.length_append, hy]; rfl, ?_, fun j u e => ?_, ?_, ?_, by rw [upd_same, List.map_append]; rfl⟩
    · rw [List.nodup_append]
      refine ⟨hnd, List.pairwise_singleton _ _, fun x hx y hy z => ?_⟩
      cases List.mem_singleton.mp hy
      exact nt (z ▸ hx)
    · rcases Nat.lt_or_ge j rs.length with q | q
      · rw [List.getElem?_append_left q] at e
        exact mono j u _ _ (fun o ho => up_oth (fun z => hEr (z ▸ List.mem_of_getElem? e)) (s3 _ _ ho)) (hP j u e)
      · rw [List.getElem?_append_right q] at e
        have j0 : j - rs.length = 0 := by
          rcases Nat.eq_zero_or_pos (j - rs.length) with y | y
          · exact y
          · rw [List.getElem?_eq_none (by show 1 ≤ j - rs.length; exact y)] at e
            cases e
        rw [j0] at e
        obtain rfl := Option.some.inj e
        have jk : j = k := by omega
        subst jk
        exact mono _ _ _ _ (fun o ho => up_oth nE ho) pt
    · intro x hx
      rcases List.mem_append.mp hx with z | z
      · exact hfr x z
      · cases List.mem_singleton.mp z
        exact hs.free ht
    · intro hx
      rcases List.mem_append.mp hx with z | z
      · exact hEr z
      · exact nE (List.mem_singleton.mp z).symm
  · have e : k = n := by omega
    subst e
    exact Or.inl ⟨w.stop H' (hG H' hs), hd rs H' hs hy hnd hP hfr hEr hl⟩
/-- the same over a range, where each item draws from a bag -/
theorem lc_newB {n i : Nat} {te : TE} {E a : Addr} (hn : n ≤ 1000) (hE : H1 E = none) (hb : BagAt H1 a) (P : Nat → Addr → Hp → Prop) (mono : ∀ j t H H', (∀ o, H t = some o → H' t = some o) → P j t H → P j t H') (live : ∀ j t H, P j t H → H t ≠ none)
    (he : ∀ j, j < n → ∀ H', But a H1 H' → BagAt H' a → ∀ R : VK, (∀ t H'', H' t = none → But a H' H'' → BagAt H'' a → P j t H'' → R (.ref t) H'') → te ((wipe σ [i]).set i (some (.int (0 + (j : Int))))) H' R)
    (hd : ∀ (rs : List Addr) H', rs.length = n → rs.Nodup → (∀ (j : Nat) (t : Addr), rs[j]? = some t → P j t H') → (∀ t ∈ rs, H1 t = none) → E ∉ rs → But a H1 H' → BagAt H' a → H' E = some (.lst (rs.map V.ref)) → Q (.ref E) H') : LcAt (Itr 0 n) (gName i) tYes te [i] σ E H1 Q := by
  have nE : E ≠ a := fun z => by
    obtain ⟨_, _, _, e, _⟩ := hb
    rw [← z, hE] at e
    cases e
  have la : H1 a ≠ none := fun z => by
    obtain ⟨_, _, _, e, _⟩ := hb
    rw [z] at e
    cases e
  refine ⟨fun k m H' => m = n - k ∧ k ≤ n ∧ ∃ rs : List Addr, rs.length = k ∧ rs.Nodup ∧ (∀ (j : Nat) (t : Addr), rs[j]? = some t → P j t H') ∧ (∀ t ∈ rs, H1 t = none) ∧ E ∉ rs ∧ But a H1 H' ∧ BagAt H' a ∧ H' E = some (.lst (rs.map V.ref)), ⟨n, rfl, Nat.zero_le _, [], rfl, List.nodup_nil, (fun j v e => by cases e), (fun _ z => nomatch z), (fun z => nomatch z), But.new hE, BagAt.old hE hb, upd_same⟩, ?_⟩
  rintro k m H' ⟨rfl, hk, rs, hy, hnd, hP, hfr, hEr, bu, hb', hl⟩
  by_cases hlt : k < n
  · refine Or.inr ⟨hlt, fun H'' => ∃ rs : List Addr, rs.length = k + 1 ∧ rs.Nodup ∧ (∀ (j : Nat) (t : Addr), rs[j]? = some t → P j t H'') ∧ (∀ t ∈ rs, H1 t = none) ∧ E ∉ rs ∧ But a H1 H'' ∧ BagAt H'' a ∧ H'' E = some (.lst (rs.map V.ref)), fun H'' h => ⟨n - (k + 1), by omega, rfl, hlt, h⟩, fun x H2 hx => ?_⟩
    obtain ⟨rfl, rfl⟩ := hx
    refine ⟨wipe1 σ i _, ?_⟩
    refine rd_yes ?_
    refine rd_ifb (fun _ => ?_) (fun z => nomatch z)
    refine he k hlt H2 bu hb' _ fun t H3 ht b3 g3 pt => ?_
    have nt : t ∉ rs := fun hm => by
      obtain ⟨j, hj⟩ := List.getElem?_of_mem hm
      exact live j t H2 (hP j t hj) ht
    have ntE : t ≠ E := fun z => by
      rw [z, hl] at ht
      cases ht
    have nta : t ≠ a := fun z => by
      obtain ⟨_, _, _, e, _⟩ := hb'
      rw [z, e] at ht
      cases ht
    have free : H1 t = none := by
      cases h : H1 t with
      | none => rfl
      | some o =>
        rw [bu t o nta h] at ht
        cases ht
    have na : ∀ u ∈ rs, u ≠ a := fun u hu z => la (z ▸ hfr u hu)
    refine ⟨rs.map V.ref, b3 _ _ nE hl, Nat.lt_of_le_of_lt (by rw [List.length_map]; omega : _ ≤ 1000) (by decide), rs ++ [t], by rw [List.length_append, hy]; rfl, ?_, fun j u e => ?_, ?_, ?_, ?_, ?_, by rw [upd_same, List.map_append]; rfl⟩
    · rw [List.nodup_append]
      refine ⟨hnd, List.pairwise_singleton _ _, fun x hx y hy z => ?_⟩
      cases List.mem_singleton.mp hy
      exact nt (z ▸ hx)
    · rcases Nat.lt_or_ge j rs.length with q | q
      · rw [List.getElem?_append_left q] at e
        have hm := List.mem_of_getElem? e
        exact mono j u _ _ (fun o ho => up_oth (fun z => hEr (z ▸ hm)) (b3 _ _ (na u hm) ho)) (hP j u e)
      · rw [List.getElem?_append_right q] at e
        have j0 : j - rs.length = 0 := by
          rcases Nat.eq_zero_or_pos (j - rs.length) with y | y
          · exact y
          · rw [List.getElem?_eq_none (by show 1 ≤ j - rs.length; exact y)] at e
            cases e
        rw [j0] at e
        obtain rfl := Option.some.inj e
        have jk : j = k := by omega
        subst jk
        exact mono _ _ _ _ (fun o ho => up_oth ntE ho) pt
    · intro x hx
      rcases List.mem_append.mp hx with z | z
      · exact hfr x z
      · cases List.mem_singleton.mp z
        exact free
    · intro hx
      rcases List.mem_append.mp hx with z | z
      · exact hEr z
      · exact ntE (List.mem_singleton.mp z).symm
    · intro b o nb e
      rw [upd_ne (ne_of_none e hE)]
      exact b3 b o nb (bu b o nb e)
    · obtain ⟨g, m, c, e, r⟩ := g3
      exact ⟨g, m, c, up_oth nE.symm e, r⟩
  · have e : k = n := by omega
    subst e
    exact Or.inl ⟨Nat.le_refl _, hd rs H' hy hnd hP hfr hEr bu hb' hl⟩
end
/-- the rows that were made -/
theorem LLf.of {H0 H : Hp} {E : Addr} {n : Nat} {rs : List Addr} (row : Nat → List Int) (hl : H E = some (.lst (rs.map V.ref))) (hn : rs.length = n) (nd : rs.Nodup) (f1 : H0 E = none) (f2 : ∀ r ∈ rs, H0 r = none) (hP : ∀ (j : Nat) (t : Addr), rs[j]? = some t → Li H t (row j)) : LLf H0 H E ((List.range n).map row) :=
  ⟨rs, hl, by rw [hn, List.length_map, List.length_range], nd, f1, f2, fun i r w e1 e2 => by
    have hi : i < n := by
      have := (List.getElem?_eq_some_iff.mp e1).1
      omega
    rw [List.getElem?_map, List.getElem?_range hi] at e2
    cases e2
    exact hP i r e1⟩
/-- a row of each -/
theorem rows_of {H : Hp} {n m : Nat} {rs : List Addr} (P : Int → Prop) (hn : rs.length = n) (hP : ∀ (j : Nat) (t : Addr), rs[j]? = some t → ∃ ns : List Int, Li H t ns ∧ ns.length = m ∧ ∀ x ∈ ns, P x) : ∃ S : List (List Int), S.length = n ∧ (∀ r ∈ S, r.length = m ∧ ∀ x ∈ r, P x) ∧ ∀ (i : Nat) (r : Addr) (row : List Int), rs[i]? = some r → S[i]? = some row → Li H r row := by
  induction rs generalizing n with
  | nil => exact ⟨[], hn, (fun _ z => nomatch z), fun i r row e => by cases e⟩
  | cons a rs ih =>
    obtain ⟨k, rfl⟩ : ∃ k, n = k + 1 := ⟨rs.length, hn.symm⟩
    obtain ⟨S, s1, s2, s3⟩ := ih (n := k) (Nat.succ.inj hn) fun j t e => hP (j + 1) t (by rw [List.getElem?_cons_succ]; exact e)
    obtain ⟨ns, l1, l2, l3⟩ := hP 0 a rfl
    refine ⟨ns :: S, by rw [List.length_cons, s1], fun r hr => ?_, fun i r row e1 e2 => ?_⟩
    · rcases List.mem_cons.mp hr with rfl | z
      · exact ⟨l2, l3⟩
      · exact s2 r z
    · cases i with
      | zero => cases e1; cases e2; exact l1
      | succ i => exact s3 i r row (by rw [List.getElem?_cons_succ] at e1; exact e1) (by rw [List.getElem?_cons_succ] at e2; exact e2)
/-- an entry is put in -/
def put (M : List (List Int)) (i j : Nat) (v : Int) : List (List Int) := M.set i ((M.getD i []).set j v)
theorem put_len (M : List (List Int)) (i j : Nat) (v : Int) : (put M i j v).length = M.length := List.length_set
theorem put_wide {n : Nat} {M : List (List Int)} {i j : Nat} {v : Int} (h : ∀ r ∈ M, r.length = n) (hi : i < M.length) : ∀ r ∈ put M i j v, r.length = n := fun r hr => by
  rcases List.mem_or_eq_of_mem_set hr with z | z
  · exact h r z
  · rw [z, List.length_set]
    refine h _ ?_
    rw [List.getD_eq_getElem?_getD, List.getElem?_eq_getElem hi]
    exact List.getElem_mem hi
theorem row_put {n : Nat} {M : List (List Int)} {i j : Nat} {v : Int} (h : ∀ r ∈ M, r.length = n) (hi : i < M.length) (hj : j < n) (a b : Nat) : ((put M i j v).getD a []).getD b 0 = if a = i ∧ b = j then v else (M.getD a []).getD b 0 := by
  have hw : (M.getD i []).length = n := by
    refine h _ ?_
    rw [List.getD_eq_getElem?_getD, List.getElem?_eq_getElem hi]
    exact List.getElem_mem hi
  unfold put
  by_cases e : a = i
  · subst e
    rw [List.getD_eq_getElem?_getD (l := M.set a _), List.getElem?_set_self hi, Option.getD_some]
    by_cases f : b = j
    · subst f
      rw [if_pos ⟨rfl, rfl⟩, List.getD_eq_getElem?_getD, List.getElem?_set_self (by omega)]
      rfl
    · rw [if_neg (fun z => f z.2), List.getD_eq_getElem?_getD, List.getElem?_set_ne (fun z => f z.symm), ← List.getD_eq_getElem?_getD]
  · rw [if_neg (fun z => e z.1), List.getD_eq_getElem?_getD (l := M.set i _), List.getElem?_set_ne (fun z => e z.symm), ← List.getD_eq_getElem?_getD]
theorem LLf.put {H0 H : Hp} {p : Addr} {M : List (List Int)} {i j : Nat} {v : Int} (h : LLf H0 H p M) (hi : i < M.length) (hj : j < (M.getD i []).length) : ∃ (rs : List Addr) (r : Addr), H p = some (.lst (rs.map V.ref)) ∧ rs[i]? = some r ∧ H r = some (.lst ((M.getD i []).map V.int)) ∧ r ≠ p ∧ H0 r = none ∧ LLf H0 (upd H r (.lst (((M.getD i []).set j v).map V.int))) p (Lay.put M i j v) := by
  obtain ⟨rs, h1, h2, hn, g1, g2, h3⟩ := h
  have il : i < rs.length := by omega
  have e1 : rs[i]? = some rs[i] := List.getElem?_eq_getElem il
  have e2 : M[i]? = some (M.getD i []) := by rw [List.getD_eq_getElem?_getD, List.getElem?_eq_getElem hi]; rfl
  have e3 := h3 i _ _ e1 e2
  have np : rs[i] ≠ p := fun z => by
    have e4 : H p = some (.lst ((M.getD i []).map V.int)) := z ▸ e3
    rw [h1] at e4
    injection e4 with e4
    injection e4 with e4
    cases hc : M.getD i [] with
    | nil => rw [hc] at hj; cases hj
    | cons x y =>
      rw [hc] at e4
      cases hr : rs with
      | nil => rw [hr] at e4; cases e4
      | cons u w => rw [hr] at e4; cases e4
  refine ⟨rs, rs[i], h1, e1, e3, np, g2 _ (List.getElem_mem il), rs, up_oth (Ne.symm np) h1, by rw [put_len]; exact h2, hn, g1, g2, fun a r w f1 f2 => ?_⟩
  by_cases e : i = a
  · subst e
    rw [e1] at f1
    cases f1
    unfold Lay.put at f2
    rw [List.getElem?_set_self hi] at f2
    cases f2
    exact upd_same
  · unfold Lay.put at f2
    rw [List.getElem?_set_ne e] at f2
    have ne : r ≠ rs[i] := fun z => by
      have l1 := (List.getElem?_eq_some_iff.mp f1)
      obtain ⟨l1, l2⟩ := l1
      exact e ((List.getElem_inj hn).mp ((l2.trans z).symm))
    exact up_oth ne (h3 a r w f1 f2)
end Lay
namespace Lay
open PySem PySem.Spec PyProof.Rows L2
theorem dp_ones {K : PySem.W.Frag} {H : Hp} : ∀ l : List Nat, DpAll K H (l.map fun _ => V.int 1) (l.map fun _ => PyData.int 1)
  | [] => .nil
  | _ :: r => .cons (.int 1) (dp_ones r)
theorem ones_shaped (l : List Nat) : SeqAt.shaped (.list (l.map fun _ => PyData.int 1)) = true := shaped_listN (n := 0) (by decide) fun d hd => by
  obtain ⟨r, _, rfl⟩ := List.mem_map.mp hd
  exact ⟨rfl, Nat.le_refl _⟩
end Lay
namespace Lay
open PySem PySem.Spec PyProof.Rows L2
theorem eqvAll_dec : ∀ r s : List Int, PyData.eqvAll (r.map PyData.int) (s.map PyData.int) = decide (r = s)
  | [], [] => by simp only [List.map_nil, PyData.eqvAll]; rfl
  | [], y :: s => by simp only [List.map_nil, List.map_cons, PyData.eqvAll]; exact (decide_eq_false (fun z => nomatch z)).symm
  | x :: r, [] => by simp only [List.map_nil, List.map_cons, PyData.eqvAll]; exact (decide_eq_false (fun z => nomatch z)).symm
  | x :: r, y :: s => by
    simp only [List.map_cons, PyData.eqvAll, PyData.eqv, eqvAll_dec r s]
    by_cases h1 : x = y
    · by_cases h2 : r = s
      · rw [h1, h2]
        simp
      · rw [decide_eq_false h2, Bool.and_false, decide_eq_false (fun z => h2 (List.cons.inj z).2)]
    · have e : (x == y) = false := beq_eq_false_iff_ne.mpr h1
      rw [decide_eq_false (fun z => h1 (List.cons.inj z).1)]
      simp [h1]
theorem eqv_rowD (r s : List Int) : PyData.eqv (rowD r) (rowD s) = decide (r = s) := by
  unfold rowD
  simp only [PyData.eqv]
  exact eqvAll_dec r s
theorem rowD_shaped (r : List Int) : SeqAt.shaped (rowD r) = true := shaped_listN (n := 0) (by decide) fun d hd => by
  obtain ⟨x, _, rfl⟩ := List.mem_map.mp hd
  exact ⟨rfl, Nat.le_refl _⟩
theorem Li.dp {K : PySem.W.Frag} {H : Hp} {p : Addr} {r : List Int} (h : Li H p r) : Dp K H (.ref p) (rowD r) := .lst (SqL.of h) (dp_ints r)
theorem rep_zeros (n : Nat) : (List.replicate n [V.int 0]).flatten = (List.replicate n (0 : Int)).map V.int := by
  rw [List.map_replicate]
  induction n with
  | zero => rfl
  | succ n ih =>
    rw [List.replicate_succ, List.flatten_cons, ih]
    rfl
end Lay
/-! LayP: x, *ys = a list or a tuple. -/
namespace Lay
open PySem PySem.Spec PySem.Calls PySem.W PyProof.Rows L2
section
variable {P : Program} {w : World} {A : Around} {E : Value → Shared → Prop} {s : Shared}
theorem star_end {Q : List Value → Shared → Prop} {x : Value} {r : List Value} {h2 : Heap} {tk : Nat} (hr : r.length ≤ sizeLine)
    (q : Q [x, .ref h2.objs.size] { s with heap := h2.push { cls := .type "list", data := .seq r.toArray }, toks := tk }) :
    wpAny (model P w) A (newList (r.take (r.length - 0)) >>= fun d => pure ([x] ++ [d] ++ r.drop (r.length - 0))) Q E { s with heap := h2, toks := tk } := by
  have e1 : r.take (r.length - 0) = r := List.take_of_length_le (by omega)
  have e2 : r.drop (r.length - 0) = [] := List.drop_of_length_le (by omega)
  rw [e1, e2]
  exact wpAny_bind (PySem.wpAny_newList (wpAny_pure q))
theorem star_list {l : Addr} {x : Value} {r : List Value} {Q : List Value → Shared → Prop} (hl : s.heap.IsList l (x :: r).toArray) (hh : A.handled = none) (hz : (x :: r).length ≤ sizeLine)
    (q : ∀ (h2 : Heap) (tk : Nat), (∀ b o, s.heap.get? b = some o → h2.get? b = some o) → Q [x, .ref h2.objs.size] { s with heap := h2.push { cls := .type "list", data := .seq r.toArray }, toks := tk }) :
    wpAny (model P w) A (unpackItems (.ref l) 2 (some 1)) Q E s := by
  have hll : l < s.heap.objs.size := by
    obtain ⟨o, ho, _⟩ := hl
    exact Heap.lt_size ho
  have sz : (x :: r).toArray.size = r.length + 1 := rfl
  unfold unpackItems notIterableAtAll
  refine wpAny_bind (wpAny_bind (wpAny_specialOf hl.typeIs slot_list_iter.lookup (wpAny_pure ?_)))
  rw [if_neg (by decide)]
  refine wpAny_bind (wpAny_holding (wpAny_pyIter_list hl ?_))
  refine wpAny_bind (wpAny_holding (kun_draw (Nat.ne_of_lt hll) 1 0 _ _ ⟨_, Heap.get?_push_size _ rfl, rfl, rfl⟩ (hl.push _) (by rw [sz]; omega) fun h1 hit hsb => ?_))
  have hl1 : h1.IsList l (x :: r).toArray := (hl.push _).extBut hsb.extBut (Nat.ne_of_lt hll)
  obtain ⟨oi, hoi, hoj⟩ := id hit
  obtain ⟨ol, hol, _⟩ := id hl1
  show wpAny _ _ (if ([x] : List Value).length < 1 then _ else _) _ _ _
  rw [if_neg (show ¬ ([x] : List Value).length < 1 from Nat.lt_irrefl 1)]
  refine wpAny_bind (wpAny_holding (kun_collect (s := { s with heap := h1 }) (T := "list_iterator") (Or.inr (Or.inr (Or.inl rfl))) (Walks.list (A := A.in1) hh s.heap.objs.size l (Nat.ne_of_lt hll) (x :: r).toArray) (fun j u st => st.1.typeIs) (k := 1) (by rw [sz]; omega) ⟨hit, hl1⟩ (Heap.lt_size hoi) (Heap.lt_size hol) (fun h2 tk hk => ?_) (by rw [sz]; exact hz)))
  show wpAny _ _ (if r.length < 0 then _ else _) _ _ _
  rw [if_neg (by omega)]
  refine star_end (Nat.le_of_succ_le hz) (q h2 tk (fun b o e => hk b o (Nat.ne_of_lt (Heap.lt_size e)) (hsb.extBut b o (Nat.ne_of_lt (Heap.lt_size e)) (Heap.get?_push_of_some _ e))))
theorem star_tup {l : Addr} {x : Value} {r : List Value} {Q : List Value → Shared → Prop} (hl : IsTup s.heap l (x :: r).toArray) (hh : A.handled = none) (hz : (x :: r).length ≤ sizeLine)
    (q : ∀ (h2 : Heap) (tk : Nat), (∀ b o, s.heap.get? b = some o → h2.get? b = some o) → Q [x, .ref h2.objs.size] { s with heap := h2.push { cls := .type "list", data := .seq r.toArray }, toks := tk }) :
    wpAny (model P w) A (unpackItems (.ref l) 2 (some 1)) Q E s := by
  have hll : l < s.heap.objs.size := by
    obtain ⟨o, ho, _⟩ := hl
    exact Heap.lt_size ho
  have sz : (x :: r).toArray.size = r.length + 1 := rfl
  unfold unpackItems notIterableAtAll
  refine wpAny_bind (wpAny_bind (wpAny_specialOf hl.typeIs slot_tuple_iter.lookup (wpAny_pure ?_)))
  rw [if_neg (by decide)]
  refine wpAny_bind (wpAny_holding (iter_tuple hl ?_))
  refine wpAny_bind (wpAny_holding (draw_tuple (Nat.ne_of_lt hll) 1 0 _ _ ⟨_, Heap.get?_push_size _ rfl, rfl, rfl⟩ (hl.push _) (by rw [sz]; omega) fun h1 hit hsb => ?_))
  have hl1 : IsTup h1 l (x :: r).toArray := (hl.push _).extBut hsb.extBut (Nat.ne_of_lt hll)
  obtain ⟨oi, hoi, hoj⟩ := id hit
  obtain ⟨ol, hol, _⟩ := id hl1
  show wpAny _ _ (if ([x] : List Value).length < 1 then _ else _) _ _ _
  rw [if_neg (show ¬ ([x] : List Value).length < 1 from Nat.lt_irrefl 1)]
  refine wpAny_bind (wpAny_holding (kun_collect (s := { s with heap := h1 }) (T := "tuple_iterator") (Or.inr (Or.inr (Or.inr rfl))) (Walks.tuple (A := A.in1) hh s.heap.objs.size l (Nat.ne_of_lt hll) (x :: r).toArray) (fun j u st => st.1.typeIs) (k := 1) (by rw [sz]; omega) ⟨hit, hl1⟩ (Heap.lt_size hoi) (Heap.lt_size hol) (fun h2 tk hk => ?_) (by rw [sz]; exact hz)))
  show wpAny _ _ (if r.length < 0 then _ else _) _ _ _
  rw [if_neg (by omega)]
  refine star_end (Nat.le_of_succ_le hz) (q h2 tk (fun b o e => hk b o (Nat.ne_of_lt (Heap.lt_size e)) (hsb.extBut b o (Nat.ne_of_lt (Heap.lt_size e)) (Heap.get?_push_of_some _ e))))
end
/-- x, *ys = .. -/
def gStar (K : PySem.W.Frag) (t : TGs) : TG := fun v σ H Q => ∃ a x xs, v = .ref a ∧ (SqL K H a (x :: xs) ∨ SqT K H a (x :: xs)) ∧ ∀ D, H D = none → t [x, .ref D] σ (upd H D (.lst xs)) Q
theorem pg_star {X : Cx} {e1 e2 : Expr} {k : Nat} {p pos : Pos} {t : TGs} (hc : X.calm = true) (h : PGs X [e1, e2] t) (hn : (assignEach [e1, .Starred e2 p] X.env).length = 2 := by rfl) (hst : (assignEach [e1, .Starred e2 p] X.env).findIdx? (·.1) = some 1 := by rfl)
    (hm : (assignEach [e1, .Starred e2 p] X.env).map (·.2) = (assignEach [e1, e2] X.env).map (·.2) := by rfl) : PG X (.Tuple [e1, .Starred e2 p] k pos) (gStar X.K t) := by
  refine ⟨fun pins s σ H v u Q I r hw => ?_⟩
  obtain ⟨a, x, xs, rfl, hq, hw⟩ := hw
  cases r
  rw [PyProof.Rows.assign_Tuple]
  refine wpAny_bind (wpAny_standAt ?_)
  unfold unpack
  rw [hn, hst, hm]
  refine wpAny_bind (wpAny_holding ?_)
  rcases hq with hq | hq
  · obtain ⟨its, rv, pl, hz⟩ := I.list hq
    obtain ⟨u0, us, rfl⟩ : ∃ u0 us, its = u0 :: us := by
      cases rv
      exact ⟨_, _, rfl⟩
    have hl' : s.heap.IsList a (u0 :: us).toArray := by
      obtain ⟨o, m, e, c, d, q⟩ := pl
      exact ⟨o, e, c, m, q⟩
    refine star_list hl' (I.ok.hd hc) (by rw [← rv.length]; exact hz) fun h2 tk hk => ?_
    cases rv with
    | cons r1 r2 =>
      have I1 : Inv X pins σ H { s with heap := h2 } := I.kept (t' := s.toks) hk
      have hl2 : us.length ≤ sizeLine := by
        rw [← r2.length]
        exact Nat.le_of_succ_le hz
      exact h.run pins _ σ _ [x, .ref h2.objs.size] _ Q (I1.lnew (t' := tk) r2 (Nat.le_of_succ_le hz)) (.cons r1 (.cons rfl .nil)) (hw _ I1.fresh)
  · obtain ⟨its, rv, pl, hz⟩ := I.tuple hq
    obtain ⟨u0, us, rfl⟩ : ∃ u0 us, its = u0 :: us := by
      cases rv
      exact ⟨_, _, rfl⟩
    refine star_tup pl (I.ok.hd hc) (by rw [← rv.length]; exact hz) fun h2 tk hk => ?_
    cases rv with
    | cons r1 r2 =>
      have I1 : Inv X pins σ H { s with heap := h2 } := I.kept (t' := s.toks) hk
      exact h.run pins _ σ _ [x, .ref h2.objs.size] _ Q (I1.lnew (t' := tk) r2 (Nat.le_of_succ_le hz)) (.cons r1 (.cons rfl .nil)) (hw _ I1.fresh)
end Lay
/-! LayQ: zip of two of which each is a list or a tuple; slices of either. -/
namespace Lay
open PySem PySem.Spec PySem.Calls PyProof.Rows L2
/-- a list (true) or a tuple (false) -/
def Kq (K : PySem.W.Frag) (H : Hp) : Bool → Addr → List V → Prop
  | true, a, xs => SqL K H a xs
  | false, a, xs => SqT K H a xs
def seqAt : Bool → Heap → Addr → Array Value → Prop
  | true, h, a, its => h.IsList a its
  | false, h, a, its => h.IsTuple a its
def itAt : Bool → Heap → Addr → Addr → Nat → Prop
  | true, h, it, a, n => h.IsListIter it a n
  | false, h, it, a, n => h.IsTupleIter it a n
def itOb : Bool → Addr → Obj
  | true, a => { cls := .type "list_iterator", data := .fields #[.ref a, .int 0 0] }
  | false, a => { cls := .type "tuple_iterator", data := .fields #[.ref a, .int 0 0] }
section
variable {X : Cx} {pins : List (Addr × Obj)} {σ : L2.St} {H : Hp} {s : Shared} {a : Addr} {xs ys : List V}
theorem kd_of (I : Inv X pins σ H s) : ∀ {k : Bool}, Kq X.K H k a xs → ∃ its : List Value, Vals xs its ∧ seqAt k s.heap a its.toArray ∧ a < s.heap.objs.size
  | true, h => by
    obtain ⟨its, rv, pl, _⟩ := I.list h
    exact ⟨its, rv, pl.isList, pl.lt⟩
  | false, h => by
    obtain ⟨its, rv, pl, _⟩ := I.tuple h
    obtain ⟨o, ho, _⟩ := id pl
    exact ⟨its, rv, pl, Heap.lt_size ho⟩
theorem kd_inj (I : Inv X pins σ H s) : ∀ {k : Bool}, Kq X.K H k a xs → Kq X.K H k a ys → xs = ys
  | true, h, g => I.list_inj h g
  | false, h, g => I.tuple_inj h g
theorem kd_draws {P : Program} {w : World} {A : Around} (hh : A.handled = none) (it b : Addr) (hne : b ≠ it) (its : Array Value) : ∀ k : Bool, Draws P w A it [it, b] its.size (fun n v => its[n]? = some v) (fun n h => itAt k h it b n ∧ seqAt k h b its)
  | true => Draws.list hh it b hne its
  | false => Draws.tuple hh it b hne its
theorem kd_begins (b : Addr) (its : Array Value) : ∀ k : Bool, Begins (.ref b) (itOb k b) (fun h => seqAt k h b its)
  | true => begins_list b its
  | false => begins_tuple b its
theorem itAt_keep {h h' : Heap} {it b : Addr} {n : Nat} (st : ∀ o, h.get? it = some o → h'.get? it = some o) : ∀ {k : Bool}, itAt k h it b n → itAt k h' it b n
  | true, x => x.at st
  | false, x => x.at st
theorem itAt_ob {h : Heap} {it b : Addr} {n : Nat} : ∀ {k : Bool}, itAt k h it b n → ∃ o, h.get? it = some o ∧ ∀ v, o.data ≠ .cell v
  | true, ⟨o, e, _, d⟩ => ⟨o, e, fun v q => by rw [d] at q; cases q⟩
  | false, ⟨o, e, _, d⟩ => ⟨o, e, fun v q => by rw [d] at q; cases q⟩
theorem itAt_new {h : Heap} {it b : Addr} : ∀ {k : Bool}, h.get? it = some (itOb k b) → itAt k h it b 0
  | true, e => ⟨_, e, rfl, rfl⟩
  | false, e => ⟨_, e, rfl, rfl⟩
end
/-- what stands at a beside what stands at b, in new pairs -/
def Itm (K : PySem.W.Frag) (k1 k2 : Bool) (a b : Addr) : It :=
  ⟨fun n H => ∃ xs ys x y, (Kq K H k1 a xs ∧ Kq K H k2 b ys) ∧ xs[n]? = some x ∧ ys[n]? = some y,
    fun n H v H' => ∃ T x y, (v = .ref T ∧ H T = none ∧ H' = upd H T (.tup [x, y])) ∧ (∀ xs, Kq K H k1 a xs → xs[n]? = some x) ∧ ∀ ys, Kq K H k2 b ys → ys[n]? = some y,
    fun n H => ∃ xs ys, (Kq K H k1 a xs ∧ Kq K H k2 b ys) ∧ n ≤ xs.length ∧ n ≤ ys.length ∧ (n = xs.length ∨ n = ys.length)⟩
theorem five {z t1 t2 j1 j2 c : Addr} (h : c ∈ [z, t1, t2, j1, j2]) : c = z ∨ c = t1 ∨ c = t2 ∨ c = j1 ∨ c = j2 := by simpa using h
theorem turn_m {P : Program} {w : World} {K : PySem.W.Frag} {elts : List Expr} {kk : Nat} {tp : Pos} {k1 k2 : Bool} {a b z t1 t2 j1 j2 : Addr} (S : ZipSep2 z t1 t2 j1 j2 [j1, a] [j2, b]) (na : a ≠ j1) (nb : b ≠ j2) :
    Turn P w K (.Tuple elts kk tp) (Itm K k1 k2 a b) [z, t1, t2, j1, j2] z (fun n h => (IsZip h z t1 t2 .none ∧ IsTupOf2 h t1 (.ref j1) (.ref j2) ∧ ∃ u v, IsTupOf2 h t2 u v) ∧ itAt k1 h j1 a n ∧ itAt k2 h j2 b n) where
  mem := List.mem_cons_self
  obj := fun n h ⟨⟨q1, q2, u, v, q3⟩, q4, q5⟩ c hc => by
    rcases five hc with rfl | rfl | rfl | rfl | rfl
    · exact ⟨_, q1, fun _ y => nomatch y⟩
    · exact ⟨_, q2, fun _ y => nomatch y⟩
    · exact ⟨_, q3, fun _ y => nomatch y⟩
    · exact itAt_ob q4
    · exact itAt_ob q5
  keep := fun n h h' ⟨⟨q1, q2, u, v, q3⟩, q4, q5⟩ st =>
    ⟨⟨st z (by simp) _ q1, st t1 (by simp) _ q2, u, v, st t2 (by simp) _ q3⟩, itAt_keep (st j1 (by simp)) q4, itAt_keep (st j2 (by simp)) q5⟩
  item := by
    intro X eP ew eK hc n pins s σ H E I fp ⟨⟨q1, q2, u0, v0, q3⟩, q4, q5⟩ hgo
    subst eP ew eK
    obtain ⟨xs, ys, x, y, ⟨ka, kb⟩, gx, gy⟩ := hgo
    obtain ⟨its, rv, sa, la⟩ := kd_of I ka
    obtain ⟨jts, rw2, sb, lb⟩ := kd_of I kb
    obtain ⟨u, gu, ru⟩ := rv.get gx
    obtain ⟨v, gv, rv2⟩ := rw2.get gy
    have hd := I.ok.hd hc
    have zl : z < s.heap.objs.size := Heap.lt_size q1
    have e1 : its.toArray[n]? = some u := by simpa using gu
    have e2 : jts.toArray[n]? = some v := by simpa using gv
    have n1 : n < its.toArray.size := (Array.getElem?_eq_some_iff.mp e1).1
    have n2 : n < jts.toArray.size := (Array.getElem?_eq_some_iff.mp e2).1
    refine wpAny_pyNext_zipD2_item S (kd_draws (A := X.A.in1) hd j1 a na its.toArray k1) (kd_draws (A := X.A.in1) hd j2 b nb jts.toArray k2) q1 q2 q3 ⟨q4, sa⟩ ⟨q5, sb⟩ n1 n2 fun x1 x2 h1 tk p1 p2 z1 z2 d1 d2 hT hz st => ?_
    obtain rfl : u = x1 := Option.some.inj (e1.symm.trans p1)
    obtain rfl : v = x2 := Option.some.inj (e2.symm.trans p2)
    refine ⟨_, rfl, wpAny_letOwnedTupleGo_zip (s := { s with heap := h1, toks := tk }) z1 fun h2 z3 sb2 => ?_⟩
    have zT : s.heap.objs.size ≠ z := Nat.ne_of_gt zl
    have all : ∀ c o, c ∉ [z, t1, t2, j1, j2] → s.heap.get? c = some o → h2.get? c = some o := fun c o hn g => by
      have m := fun y (hy : y ∈ [z, t1, t2, j1, j2]) (e : c = y) => hn (e ▸ hy)
      exact (sb2.2 c (m z (by simp))).trans (st c o (m z (by simp)) (m t2 (by simp)) (m j1 (by simp)) (m j2 (by simp)) g)
    have hob : ObjOk X.prog X.w (upd H s.heap.objs.size (.tup [x, y])) h2 s.heap.objs.size (.tup [x, y]) :=
      ⟨(by decide : 2 ≤ sizeLine), [u, v], .cons ru (.cons rv2 .nil), _, (sb2.2 _ zT).trans hT, rfl, _, rfl⟩
    have J := I.turnedNew (t' := tk) (ch := [z, t1, t2, j1, j2]) all fp (Nat.le_refl s.heap.objs.size) hob
    refine ⟨.ref s.heap.objs.size, _, J, rfl, ⟨s.heap.objs.size, x, y, ⟨rfl, I.hok.fresh (Nat.le_refl _), rfl⟩, fun l g => kd_inj I ka g ▸ gx, fun l g => kd_inj I kb g ▸ gy⟩, ⟨⟨z3, ?_, u, v, ?_⟩, ?_, ?_⟩, fun c hm => ?_⟩
    · exact (sb2.2 _ S.TIz).trans (st t1 _ S.TIz S.TITO S.TIi1 S.TIi2 q2)
    · exact (sb2.2 _ S.TOz).trans z2
    · exact itAt_keep (fun o g => (sb2.2 _ (Ne.symm S.zi1)).trans g) d1.1
    · exact itAt_keep (fun o g => (sb2.2 _ (Ne.symm S.zi2)).trans g) d2.1
    · have lt : c < s.heap.objs.size := by
        rcases five hm with rfl | rfl | rfl | rfl | rfl
        · exact zl
        · exact Heap.lt_size q2
        · exact Heap.lt_size q3
        · obtain ⟨o, g, _⟩ := itAt_ob q4
          exact Heap.lt_size g
        · obtain ⟨o, g, _⟩ := itAt_ob q5
          exact Heap.lt_size g
      rw [upd_ne (Nat.ne_of_lt lt)]
      exact (fp c hm).1
  done := by
    intro X eP ew eK hc n pins s σ H E I fp ⟨⟨q1, q2, u0, v0, q3⟩, q4, q5⟩ hst
    subst eP ew eK
    obtain ⟨xs, ys, ⟨ka, kb⟩, l1, l2, l3⟩ := hst
    obtain ⟨its, rv, sa, la⟩ := kd_of I ka
    obtain ⟨jts, rw2, sb, lb⟩ := kd_of I kb
    have hd := I.ok.hd hc
    have z1 : its.toArray.size = xs.length := rv.length.symm
    have z2 : jts.toArray.size = ys.length := rw2.length.symm
    refine wpAny_pyNext_zipD2_end S (kd_draws (A := X.A.in1) hd j1 a na its.toArray k1) (kd_draws (A := X.A.in1) hd j2 b nb jts.toArray k2) q1 q2 q3 ⟨q4, sa⟩ ⟨q5, sb⟩ (by omega) (by omega) (by omega) fun h1 tk st => ⟨rfl, ?_⟩
    exact I.turnedL (t' := tk) (ch := [z, t1, t2, j1, j2]) (fun c o hn g => by
      have m := fun y (hy : y ∈ [z, t1, t2, j1, j2]) (e : c = y) => hn (e ▸ hy)
      exact st c o (m z (by simp)) (m t2 (by simp)) (m j1 (by simp)) (m j2 (by simp)) g) fp
  self := fun A n s Q E st hq => wpAny_pyIter_zip st.1.1 hq
/-- zip of two, each a list or a tuple -/
def iZipM (K : PySem.W.Frag) (ta : TA) : TI := fun σ H R => ta σ H fun vs H1 => ∃ k1 k2 a b xs ys, vs = [.ref a, .ref b] ∧ (Kq K H1 k1 a xs ∧ Kq K H1 k2 b ys) ∧ R (Itm K k1 k2 a b) H1
theorem pi_zipM {X : Cx} {e e2 : Expr} {ta : TA} {p pos tp : Pos} {elts : List Expr} {kk : Nat} (hg : Gl X "zip") (hm : X.mg "zip" = none) (ha : PA X [e, e2] ta)
    (hs : starEach [e, e2] X.env = (false, eval e X.env) :: starEach [e2] X.env := by rfl) (hpl : (backTo pos (starEach [e2] X.env)).any (·.1) = false := by rfl) :
    PI X (.Tuple elts kk tp) (.Call (.Name "zip" p) [e, e2] [] pos) (iZipM X.K ta) := by
  refine ⟨fun pins s σ H R I hw => Call_ (ld_blt I hg hm PyProof.Rows.boot_zip (PyProof.Rows.callWith_type1 (thn (ha.run pos pins s σ H _ I hw) fun us s1 ⟨vs, H1, I1, r1, k1, k2, a, b, xs, ys, ev, ⟨ka, kb⟩, q⟩ => ?_) hs hpl))⟩
  subst ev
  obtain ⟨u, us1, rfl, ru, rr⟩ : ∃ u us1, us = u :: us1 ∧ RelV (.ref a) u ∧ Vals [V.ref b] us1 := by
    cases r1 with
    | cons g1 g2 => exact ⟨_, _, rfl, g1, g2⟩
  obtain ⟨v, rfl, rv⟩ := vals1 rr
  cases ru
  cases rv
  obtain ⟨its, _, sa, la⟩ := kd_of I1 ka
  obtain ⟨jts, _, sb, lb⟩ := kd_of I1 kb
  refine zip_begins2 (kd_begins a its.toArray k1) (kd_begins b jts.toArray k2) sa sb fun h' z1 z2 z3 z4 z5 z6 st => wpAny_pyIter_zip z1 ?_
  have I2 : Inv X pins σ H1 { s1 with heap := h' } := I1.kept (t' := s1.toks) st
  have ap := zip_sep2 (N := s1.heap.objs.size) (fp1 := [a]) (fp2 := [b]) (fun c hc => List.mem_singleton.mp hc ▸ la) (fun c hc => List.mem_singleton.mp hc ▸ lb)
  have nb : b ≠ s1.heap.objs.size + 1 := Nat.ne_of_lt (Nat.lt_succ_of_lt lb)
  refine ⟨_, _, _, _, H1, rfl, I2, turn_m ap (Nat.ne_of_lt la) nb, ⟨⟨z1, z2, _, _, z3⟩, itAt_new z4, itAt_new z5⟩, fun c hc => ?_, q⟩
  have ge : s1.heap.objs.size ≤ c := by
    rcases five hc with rfl | rfl | rfl | rfl | rfl
    · exact Nat.le_add_right _ 4
    · exact Nat.le_add_right _ 2
    · exact Nat.le_add_right _ 3
    · exact Nat.le_refl _
    · exact Nat.le_add_right _ 1
  exact I1.fpOk ge (I1.hok.fresh ge)
end Lay
namespace Lay
open PySem PySem.Spec PyProof.Rows L2
theorem Kq.same {K : PySem.W.Frag} {H H' : Hp} {a : Addr} {xs : List V} (s : Same H H') : ∀ {k : Bool}, Kq K H k a xs → Kq K H' k a xs
  | true, h => s.seq h
  | false, h => sqT_same s h
theorem rd_zipM {K : PySem.W.Frag} {ta : TA} {σ : L2.St} {H : Hp} {R : It → Hp → Prop} (q : ta σ H (fun vs H1 => ∃ k1 k2 a b xs ys, vs = [.ref a, .ref b] ∧ (Kq K H1 k1 a xs ∧ Kq K H1 k2 b ys) ∧ R (Itm K k1 k2 a b) H1)) : iZipM K ta σ H R := q
section
variable {σ : L2.St} {H1 : Hp} {Q : VK} {K : PySem.W.Frag}
/-- [e for x, y in zip(xs, ys)], each a list or a tuple, of one length -/
theorem lc_zipM {k1 k2 : Bool} {a b E : Addr} {xs ys : List V} {i1 i2 n : Nat} {te : TE} (hx : xs.length = n) (hy : ys.length = n) (hn : n ≤ 1000) (hE : H1 E = none) (ha : Kq K H1 k1 a xs) (hb : Kq K H1 k2 b ys)
    (hw : ∀ x y, wipe (((wipe σ [i1, i2]).set i1 (some x)).set i2 (some y)) [i1, i2] = wipe σ [i1, i2]) (f : Nat → V)
    (he : ∀ j, j < n → ∀ H', Same H1 H' → ∀ R : VK, R (f j) H' → te (((wipe σ [i1, i2]).set i1 (some (xs.getD j .non))).set i2 (some (ys.getD j .non))) H' R)
    (hd : ∀ H', Same H1 H' → H' E = some (.lst ((List.range n).map f)) → Q (.ref E) H') : LcAt (Itm K k1 k2 a b) (gTup K 2 (gCons (gName i1) (gCons (gName i2) gNil))) tYes te [i1, i2] σ E H1 Q := by
  have gx : ∀ i, i < n → xs[i]? = some (xs.getD i .non) := fun i h => by rw [List.getD_eq_getElem?_getD, List.getElem?_eq_getElem (by omega)]; rfl
  have gy : ∀ i, i < n → ys[i]? = some (ys.getD i .non) := fun i h => by rw [List.getD_eq_getElem?_getD, List.getElem?_eq_getElem (by omega)]; rfl
  refine lc_gen (n := n) (G := fun H' => Kq K H' k1 a xs ∧ Kq K H' k2 b ys) (fun j x H' => ∃ T, x = .ref T ∧ H' T = some (.tup [xs.getD j .non, ys.getD j .non]))
    (fun j σ2 H' => σ2 = ((wipe σ [i1, i2]).set i1 (some (xs.getD j .non))).set i2 (some (ys.getD j .non))) (fun H' h => ⟨_, _, h, by omega, by omega, Or.inl hx.symm⟩) (fun i H' h hi => ⟨_, _, _, _, h, gx i hi, gy i hi⟩)
    (fun i H' x H'' h hi y => ?_) hn hE (fun H' s => ⟨Kq.same s ha, Kq.same s hb⟩) (fun _ => true) f ?_ ?_ ?_ ?_
  · obtain ⟨T, x1, x2, ⟨rfl, hT, rfl⟩, f1, f2⟩ := y
    have e1 := Option.some.inj ((f1 _ h.1).symm.trans (gx i hi))
    have e2 := Option.some.inj ((f2 _ h.2).symm.trans (gy i hi))
    subst e1 e2
    exact ⟨fun b o e => up_old hT e, T, rfl, upd_same⟩
  · rintro j x H' hj hs ⟨T, rfl, hT⟩ R kk
    exact ⟨T, _, rfl, SqT.of hT, rfl, _, _, rfl, _, _, rfl, rfl, kk _ (hw _ _) rfl⟩
  · rintro j σ2 H' hj hs hS R kk
    exact kk _ (Same.refl _)
  · rintro j σ2 H' H0 hj _ rfl hs hs0 R kk
    exact he j hj H' hs R (kk _ (Same.refl _))
  · intro H' hs hl2
    rw [filt_yes] at hl2
    exact hd H' hs hl2
end
/-- a slice of a list or a tuple -/
def rSlE (K : PySem.W.Frag) : V → Option Int → Option Int → Hp → VK → Prop := fun x lo hi H Q => rSlL K x lo hi H Q ∨ rSlA K x lo hi H Q
theorem sl_any {X : Cx} : SlR X (rSlE X.K) := SlR.or sl_list sl_tupA
end Lay
namespace Lay
open PySem PySem.Spec PyProof.Rows L2
theorem seq_nat {n j : Nat} (h : j < n) : seqIndex? (j : Int) n = some j := by
  unfold seqIndex?
  have e1 : ¬ (j : Int) < 0 := by omega
  simp only [e1, if_false]
  rw [if_pos (by simp; omega)]
  rw [Int.toNat_natCast]
theorem upd_live {H : Hp} {p b : Addr} {o : HO} (h : H b ≠ none) : upd H p o b ≠ none := by
  by_cases e : b = p
  · rw [e, upd_same]
    exact fun z => nomatch z
  · rw [upd_ne e]
    exact h
theorem LLf.base {H0 H1 H : Hp} {p : Addr} {M : List (List Int)} (s : Same H0 H1) (h : LLf H1 H p M) : LLf H0 H p M := by
  obtain ⟨rs, h1, h2, hn, g1, g2, h3⟩ := h
  exact ⟨rs, h1, h2, hn, s.free g1, fun r hr => s.free (g2 r hr), h3⟩
end Lay
namespace K04
open PySem PySem.Spec PyProof.Rows L2 Lay

def top (i : Nat) : Stmt := PySem.Challenge.pw_lengthstell_k04_determinants_and_sums_of.main.body.getD i (.Pass ⟨0, 0, 0, 0⟩)
abbrev sdivided : Stmt := top 2
theorem scdivided : FnScope ["row", "common", "entry"] ["row"] (defScope sdivided) := ⟨rfl, rfl, rfl, by decide +kernel, rfl, by decide +kernel, by decide +kernel⟩
abbrev s_row_with : Stmt := top 3
theorem sc_row_with : FnScope ["rows", "start", "column", "at"] ["rows", "start", "column"] (defScope s_row_with) := ⟨rfl, rfl, rfl, by decide +kernel, rfl, by decide +kernel, by decide +kernel⟩
abbrev s_swap : Stmt := top 4
theorem sc_swap : FnScope ["values", "one", "other"] ["values", "one", "other"] (defScope s_swap) := ⟨rfl, rfl, rfl, by decide +kernel, rfl, by decide +kernel, by decide +kernel⟩
abbrev s_combined : Stmt := top 5
theorem sc_combined : FnScope ["factor", "row", "lead", "above", "scale", "entry", "against"] ["factor", "row", "lead", "above", "scale"] (defScope s_combined) := ⟨rfl, rfl, rfl, by decide +kernel, rfl, by decide +kernel, by decide +kernel⟩
abbrev sdeterminant_of : Stmt := top 6
theorem scdeterminant_of : FnScope ["table", "left", "sign", "scale", "at", "lead", "above", "row"] ["table"] (defScope sdeterminant_of) := ⟨rfl, rfl, rfl, by decide +kernel, rfl, by decide +kernel, by decide +kernel⟩
abbrev sis_sum_of_squares : Stmt := top 7
theorem scis_sum_of_squares : FnScope ["table", "left", "scale", "diagonal", "top", "row", "at", "entry"] ["table"] (defScope sis_sum_of_squares) := ⟨rfl, rfl, rfl, by decide +kernel, rfl, by decide +kernel, by decide +kernel⟩
abbrev s_without_square : Stmt := top 8
theorem sc_without_square : FnScope ["left", "top", "scale", "above", "lead", "rows", "row", "factor"] ["left", "top", "scale"] (defScope s_without_square) := ⟨rfl, rfl, rfl, by decide +kernel, rfl, by decide +kernel, by decide +kernel⟩
abbrev sis_integer : Stmt := top 12
theorem scis_integer : FnScope ["value"] ["value"] (defScope sis_integer) := ⟨rfl, rfl, rfl, by decide +kernel, rfl, by decide +kernel, by decide +kernel⟩
abbrev sare_integers : Stmt := top 13
theorem scare_integers : FnScope ["values", "value", "each"] ["values"] (defScope sare_integers) := ⟨rfl, rfl, rfl, by decide +kernel, rfl, by decide +kernel, by decide +kernel⟩
abbrev shas_digits : Stmt := top 14
theorem schas_digits : FnScope ["number", "most"] ["number", "most"] (defScope shas_digits) := ⟨rfl, rfl, rfl, by decide +kernel, rfl, by decide +kernel, by decide +kernel⟩
abbrev s_least_longer : Stmt := top 15
theorem sc_least_longer : FnScope ["digits", "number", "_"] ["digits"] (defScope s_least_longer) := ⟨rfl, rfl, rfl, by decide +kernel, rfl, by decide +kernel, by decide +kernel⟩
abbrev scleared : Stmt := top 22
theorem sccleared : FnScope ["row"] ["row"] (defScope scleared) := ⟨rfl, rfl, rfl, by decide +kernel, rfl, by decide +kernel, by decide +kernel⟩
abbrev sdeterminant : Stmt := top 23
theorem scdeterminant : FnScope ["table"] ["table"] (defScope sdeterminant) := ⟨rfl, rfl, rfl, by decide +kernel, rfl, by decide +kernel, by decide +kernel⟩
abbrev sis_square_sum : Stmt := top 24
theorem scis_square_sum : FnScope ["table"] ["table"] (defScope sis_square_sum) := ⟨rfl, rfl, rfl, by decide +kernel, rfl, by decide +kernel, by decide +kernel⟩
abbrev s_is_row : Stmt := top 25
theorem sc_is_row : FnScope ["value"] ["value"] (defScope s_is_row) := ⟨rfl, rfl, rfl, by decide +kernel, rfl, by decide +kernel, by decide +kernel⟩
abbrev s_are_rows : Stmt := top 26
theorem sc_are_rows : FnScope ["value", "row"] ["value"] (defScope s_are_rows) := ⟨rfl, rfl, rfl, by decide +kernel, rfl, by decide +kernel, by decide +kernel⟩
abbrev s_check_table : Stmt := top 27
theorem sc_check_table : FnScope ["value"] ["value"] (defScope s_check_table) := ⟨rfl, rfl, rfl, by decide +kernel, rfl, by decide +kernel, by decide +kernel⟩
abbrev s_width_of : Stmt := top 28
theorem sc_width_of : FnScope ["rows"] ["rows"] (defScope s_width_of) := ⟨rfl, rfl, rfl, by decide +kernel, rfl, by decide +kernel, by decide +kernel⟩
abbrev s_is_symmetric : Stmt := top 29
theorem sc_is_symmetric : FnScope ["table", "indices", "one", "other"] ["table"] (defScope s_is_symmetric) := ⟨rfl, rfl, rfl, by decide +kernel, rfl, by decide +kernel, by decide +kernel⟩
abbrev s_law_bag : Stmt := top 31
theorem sc_law_bag : FnScope ["_law_script", "_law_at", "_law_cell", "_law_great", "_law_mixed"] ["_law_script", "_law_at"] (defScope s_law_bag) := ⟨rfl, rfl, rfl, by decide +kernel, rfl, by decide +kernel, by decide +kernel⟩
abbrev s_law_draw : Stmt := top 32
theorem sc_law_draw : FnScope ["_law_bag_here", "_law_total", "_law_found", "_law_one", "_law_two"] ["_law_bag_here", "_law_total"] (defScope s_law_draw) := ⟨rfl, rfl, rfl, by decide +kernel, rfl, by decide +kernel, by decide +kernel⟩
abbrev s_law_one_of : Stmt := top 33
theorem sc_law_one_of : FnScope ["_law_bag_here", "_law_items"] ["_law_bag_here", "_law_items"] (defScope s_law_one_of) := ⟨rfl, rfl, rfl, by decide +kernel, rfl, by decide +kernel, by decide +kernel⟩
abbrev s_law_divisor : Stmt := top 34
theorem sc_law_divisor : FnScope ["_law_numbers_here", "_law_found", "_law_number", "_law_one"] ["_law_numbers_here"] (defScope s_law_divisor) := ⟨rfl, rfl, rfl, by decide +kernel, rfl, by decide +kernel, by decide +kernel⟩
abbrev s_law_minor : Stmt := top 35
theorem sc_law_minor : FnScope ["_law_table", "_law_found", "_law_sign", "_law_at", "_law_row"] ["_law_table"] (defScope s_law_minor) := ⟨rfl, rfl, rfl, by decide +kernel, rfl, by decide +kernel, by decide +kernel⟩
abbrev s_law_is_sum : Stmt := top 36
theorem sc_law_is_sum : FnScope ["_law_table", "_law_lots", "_law_at", "_law_lot", "_law_i", "_law_j"] ["_law_table"] (defScope s_law_is_sum) := ⟨rfl, rfl, rfl, by decide +kernel, rfl, by decide +kernel, by decide +kernel⟩
abbrev s_law_numbers : Stmt := top 37
theorem sc_law_numbers : FnScope ["_law_bag_here", "_law_many", "_law_spread", "_law_at"] ["_law_bag_here", "_law_many", "_law_spread"] (defScope s_law_numbers) := ⟨rfl, rfl, rfl, by decide +kernel, rfl, by decide +kernel, by decide +kernel⟩
abbrev s_law_symmetric : Stmt := top 38
theorem sc_law_symmetric : FnScope ["_law_bag_here", "_law_many", "_law_way", "_law_some", "_law_table", "_law_at", "_law_i", "_law_j", "_law_turn", "_law_row"] ["_law_bag_here", "_law_many"] (defScope s_law_symmetric) := ⟨rfl, rfl, rfl, by decide +kernel, rfl, by decide +kernel, by decide +kernel⟩
abbrev s_law_wide : Stmt := top 39
theorem sc_law_wide : FnScope ["_law_table", "_law_factor", "_law_row", "_law_one"] ["_law_table", "_law_factor"] (defScope s_law_wide) := ⟨rfl, rfl, rfl, by decide +kernel, rfl, by decide +kernel, by decide +kernel⟩
abbrev s_law_tables_right : Stmt := top 40
theorem sc_law_tables_right : FnScope ["_law_bag_here", "_law_many", "_law_table", "_law_due", "_law_turned", "_law_great", "_law_first", "_law_at", "_law_changed", "_law_turn", "_law_row", "_law_one"] ["_law_bag_here"] (defScope s_law_tables_right) := ⟨rfl, rfl, rfl, by decide +kernel, rfl, by decide +kernel, by decide +kernel⟩
abbrev s_law_sums_right : Stmt := top 41
theorem sc_law_sums_right : FnScope ["_law_bag_here", "_law_many", "_law_table", "_law_due", "_law_empty", "_law_wider", "_law_row"] ["_law_bag_here"] (defScope s_law_sums_right) := ⟨rfl, rfl, rfl, by decide +kernel, rfl, by decide +kernel, by decide +kernel⟩
abbrev s_law_cleared_right : Stmt := top 42
theorem sc_law_cleared_right : FnScope ["_law_bag_here", "_law_row", "_law_factor", "_law_wide_here", "_law_divisor_here", "_law_due", "_law_one"] ["_law_bag_here"] (defScope s_law_cleared_right) := ⟨rfl, rfl, rfl, by decide +kernel, rfl, by decide +kernel, by decide +kernel⟩
abbrev slaw : Stmt := top 43
theorem sclaw : FnScope ["_law_script", "_law_at", "_law_bag_here"] ["_law_script"] (defScope slaw) := ⟨rfl, rfl, rfl, by decide +kernel, rfl, by decide +kernel, by decide +kernel⟩
structure Bi (mg : Str → Option Value) : Prop where
  b_abs : mg "abs" = none
  b_all : mg "all" = none
  b_bool : mg "bool" = none
  b_int : mg "int" = none
  b_isinstance : mg "isinstance" = none
  b_len : mg "len" = none
  b_list : mg "list" = none
  b_max : mg "max" = none
  b_min : mg "min" = none
  b_range : mg "range" = none
  b_repr : mg "repr" = none
  b_sum : mg "sum" = none
  b_tuple : mg "tuple" = none
  b_type : mg "type" = none
  b_zip : mg "zip" = none
  m_gcd : mg "gcd" = some (.builtin "math.gcd")
  c_MAX_DIGITS : ∃ t, mg "MAX_DIGITS" = some (.int 2000 t)
  c_MAX_ROWS : ∃ t, mg "MAX_ROWS" = some (.int 60 t)
  c_MAX_WIDTH : ∃ t, mg "MAX_WIDTH" = some (.int 28 t)
  c_SURE_BITS : ∃ t, mg "SURE_BITS" = some (.int 6000 t)
theorem sq_kept {K : PySem.W.Frag} {H H' H'' : Hp} {a p : Addr} {xs : List V} (hp : H p = none) (s : Same H H') (b : But p H' H'') (h : SqL K H a xs) : SqL K H'' a xs := by
  rcases h with (h | ⟨o, h⟩) | h
  · exact Or.inl (Or.inl (b _ _ (fun z => by rw [z, hp] at h; cases h) (s _ _ h)))
  · exact Or.inl (Or.inr ⟨o, b _ _ (fun z => by rw [z, hp] at h; cases h) (s _ _ h)⟩)
  · exact Or.inr h
def gl : List Int → Nat → Nat
  | [], g => g
  | x :: r, g => gl r (Nat.gcd g x.natAbs)
def spDiv (K : PySem.W.Frag) : Sp := fun vs H Q _ => ∃ (p : Addr) (ns : List Int), vs = [.ref p] ∧ SqT K H p (ns.map V.int) ∧ ns.length ≤ 100 ∧ Q (.int (gl ns 0)) H
def spNum : Sp := fun vs H Q _ => ∃ (a : Addr) (n s : Int), vs = [.ref a, .int n, .int s] ∧ BagAt H a ∧ 0 ≤ n ∧ n ≤ 100 ∧ 0 ≤ s ∧ s ≤ 1000 ∧ ∀ q H' ns, H q = none → But a H H' → BagAt H' a → Li H' q ns → ns.length = n.toNat → (∀ x ∈ ns, -s ≤ x ∧ x ≤ s) → Q (.ref q) H'
def spWide (K : PySem.W.Frag) : Sp := fun vs H Q _ => ∃ (p : Addr) (f : Int) (M : List (List Int)), vs = [.ref p, .int f] ∧ LL H p M ∧ M.length ≤ 100 ∧ (∀ r ∈ M, r.length ≤ 100 ∧ ∀ x ∈ r, CMulW f x) ∧ ∀ q H', H q = none → Same H H' → TT H' q (M.map fun r => r.map fun x => f * x) → Q (.ref q) H'
/-- a square table of n rows, its entries within 2 ^ 200 -/
structure Sq (n : Nat) (M : List (List Int)) : Prop where
  len : M.length = n
  sq : ∀ r ∈ M, r.length = n
  bd : ∀ r ∈ M, ∀ x ∈ r, x.natAbs ≤ 2 ^ 200
def spMinN : Nat → Sp := fun n vs H Q _ => ∃ (p : Addr) (M : List (List Int)), vs = [.ref p] ∧ LL H p M ∧ Sq n M ∧ n ≤ 5 ∧ ∀ H', Same H H' → Q (.int (Alg.lap M)) H'
def spMinP : Nat → Sp
  | 0 => fun _ _ _ _ => False
  | n + 1 => spMinN n
def spMin : Sp := fun vs H Q E => ∃ n, spMinN n vs H Q E
def at2 (M : List (List Int)) (i j : Nat) : Int := (M.getD i []).getD j 0
/-- a list of rows, each a list or a tuple -/
def RW (H : Hp) (p : Addr) (M : List (List Int)) : Prop := ∃ rs : List Addr, H p = some (.lst (rs.map V.ref)) ∧ rs.length = M.length ∧ ∀ (i : Nat) (r : Addr) (row : List Int), rs[i]? = some r → M[i]? = some row → H r = some (.lst (row.map V.int)) ∨ H r = some (.tup (row.map V.int))
theorem RW.same {H H' : Hp} {p : Addr} {M : List (List Int)} (s : Same H H') (h : RW H p M) : RW H' p M := by
  obtain ⟨rs, h1, h2, h3⟩ := h
  exact ⟨rs, s _ _ h1, h2, fun i r row e1 e2 => (h3 i r row e1 e2).imp (s _ _) (s _ _)⟩
def spRowWith (K : PySem.W.Frag) : Sp := fun vs H Q _ => ∃ (p : Addr) (s c w : Nat) (M : List (List Int)), vs = [.ref p, .int (s : Int), .int (c : Int)] ∧ RW H p M ∧ M.length ≤ 100 ∧ s ≤ M.length ∧ (∀ r ∈ M, r.length = w) ∧ c < w ∧
  (∀ i, s ≤ i → i < M.length → at2 M i c ≠ 0 → (∀ t, s ≤ t → t < i → at2 M t c = 0) → Q (.int (i : Int)) H) ∧ ((∀ t, s ≤ t → t < M.length → at2 M t c = 0) → Q .non H)
def spSwap : Sp := fun vs H Q _ => ∃ (p : Addr) (i j : Nat) (xs : List V) (x y : V), vs = [.ref p, .int (i : Int), .int (j : Int)] ∧ H p = some (.lst xs) ∧ xs[i]? = some x ∧ xs[j]? = some y ∧ xs.length ≤ 100 ∧
  ∀ H', Same H H' → Q .non (upd H' p (.lst ((xs.set i y).set j x)))
/-- what a step of the elimination makes of a row -/
def comb (f : Int) (r : List Int) (d : Int) (l : List Int) (s : Int) : List Int := (List.range r.length).map fun j => (d * r.getD j 0 - f * l.getD j 0).fdiv s
def spComb (K : PySem.W.Frag) : Sp := fun vs H Q _ => ∃ (k1 k2 : Bool) (a b : Addr) (f d s : Int) (r l : List Int), vs = [.int f, .ref a, .int d, .ref b, .int s] ∧ (Kq K H k1 a (r.map V.int) ∧ Kq K H k2 b (l.map V.int)) ∧ r.length = l.length ∧ r.length ≤ 100 ∧
  (s ≠ 0 ∧ s.natAbs.log2 < 9000) ∧ (f.natAbs < 2 ^ 2000 ∧ d.natAbs < 2 ^ 2000) ∧ (∀ x ∈ r, x.natAbs < 2 ^ 2000) ∧ (∀ x ∈ l, x.natAbs < 2 ^ 2000) ∧ ∀ H' q, H q = none → Same H H' → Li H' q (comb f r d l s) → Q (.ref q) H'
def spWidthOf : Sp := fun vs H Q _ => ∃ (p : Addr) (M : List (List Int)), vs = [.ref p] ∧ TT H p M ∧ Q (.int (M.headD []).length) H
theorem LL.row {K : PySem.W.Frag} {H : Hp} {p : Addr} {M : List (List Int)} {i : Nat} (h : LL H p M) (hi : i < M.length) : ∃ (rs : List Addr) (r : Addr), SqL K H p (rs.map V.ref) ∧ rs.length = M.length ∧ rs[i]? = some r ∧ SqL K H r ((M.getD i []).map V.int) := by
  obtain ⟨rs, h1, h2, h3⟩ := h
  refine ⟨rs, rs[i], SqL.of h1, h2, List.getElem?_eq_getElem (by omega), SqL.of ?_⟩
  rw [List.getD_eq_getElem?_getD, List.getElem?_eq_getElem hi]
  exact h3 i _ _ (List.getElem?_eq_getElem (by omega)) (List.getElem?_eq_getElem hi)
theorem ref_at {rs : List Addr} {i : Nat} {r : Addr} (h : rs[i]? = some r) : atI (rs.map V.ref) (i : Int) = some (V.ref r) := at_nat (by rw [List.getElem?_map, h]; rfl)
theorem int_at {r : List Int} {j : Nat} (h : j < r.length) : atI (r.map V.int) (j : Int) = some (V.int (r.getD j 0)) := at_nat (by rw [List.getElem?_map, List.getElem?_eq_getElem h, List.getD_eq_getElem?_getD, List.getElem?_eq_getElem h]; rfl)
theorem int_get {r : List Int} {j : Nat} (h : j < r.length) : (r.map V.int).getD j .non = V.int (r.getD j 0) := by
  rw [List.getD_eq_getElem?_getD, List.getElem?_map, List.getElem?_eq_getElem h, List.getD_eq_getElem?_getD, List.getElem?_eq_getElem h]
  rfl
theorem mem_get {r : List Int} {j : Nat} (h : j < r.length) : r.getD j 0 ∈ r := by
  rw [List.getD_eq_getElem?_getD, List.getElem?_eq_getElem h]
  exact List.getElem_mem h
theorem upd_two {H : Hp} {p : Addr} {o u : HO} : upd (upd H p o) p u = upd H p u := by
  funext b
  by_cases h : b = p
  · rw [h, upd_same, upd_same]
  · rw [upd_ne h, upd_ne h, upd_ne h]
theorem ix_nat {n j : Nat} (hj : j < n) : ixN n (j : Int) = some j := by
  unfold ixN
  rw [if_pos (by omega), if_pos (by omega), Int.toNat_natCast]
theorem Sq.lap_mi {n : Nat} {M : List (List Int)} (h : Sq n M) : Alg.lap M = Alg.mi (at2 M) (List.range n) (List.range n) := by
  unfold Alg.mi
  congr 1
  apply List.ext_getElem?
  intro i
  rw [List.getElem?_map]
  by_cases hi : i < n
  · have hl : i < M.length := by rw [h.len]; exact hi
    rw [List.getElem?_range hi, List.getElem?_eq_getElem hl]
    show some M[i] = some ((List.range n).map fun c => at2 M i c)
    congr 1
    have hr := h.sq M[i] (List.getElem_mem hl)
    apply List.ext_getElem?
    intro j
    rw [List.getElem?_map]
    by_cases hj : j < n
    · rw [List.getElem?_range hj, List.getElem?_eq_getElem (by omega)]
      show some M[i][j] = some (at2 M i j)
      unfold at2
      rw [List.getD_eq_getElem?_getD (l := M), List.getElem?_eq_getElem hl, Option.getD_some, List.getD_eq_getElem?_getD, List.getElem?_eq_getElem (by omega)]
      rfl
    · rw [List.getElem?_eq_none (by omega), List.getElem?_eq_none (by rw [List.length_range]; omega)]
      rfl
  · rw [List.getElem?_eq_none (by rw [h.len]; omega), List.getElem?_eq_none (by rw [List.length_range]; omega)]
    rfl
theorem at2_bd {n : Nat} {M : List (List Int)} (h : Sq n M) (i j : Nat) : (at2 M i j).natAbs ≤ 2 ^ 200 := by
  unfold at2
  rcases Nat.lt_or_ge i M.length with y | y
  · rcases Nat.lt_or_ge j (M.getD i []).length with z | z
    · have e : M.getD i [] ∈ M := by
        rw [List.getD_eq_getElem?_getD, List.getElem?_eq_getElem y]
        exact List.getElem_mem y
      exact h.bd _ e _ (mem_get z)
    · rw [List.getD_eq_getElem?_getD, List.getElem?_eq_none z]
      exact Nat.zero_le _
  · rw [List.getD_eq_getElem?_getD (l := M), List.getElem?_eq_none y]
    exact Nat.zero_le _
/-- minors of such a table -/
theorem mi_bd {A : Nat → Nat → Int} (hA : ∀ i j, (A i j).natAbs ≤ 2 ^ 200) {rs cs : List Nat} (h : rs.length ≤ 5) (h2 : cs.length ≤ 5) : (Alg.mi A rs cs).natAbs < 2 ^ 1100 := by
  unfold Alg.mi
  refine Nat.lt_of_le_of_lt (Alg.lap_bound 200 rs.length _ (by rw [List.length_map]) fun r hr => ?_) (Nat.pow_lt_pow_right (by decide) (by omega))
  obtain ⟨a, _, rfl⟩ := List.mem_map.mp hr
  refine ⟨by rw [List.length_map]; omega, fun x hx => ?_⟩
  obtain ⟨c, _, rfl⟩ := List.mem_map.mp hx
  exact hA a c
theorem lt2000 {x : Int} (h : x.natAbs < 2 ^ 1100) : x.natAbs < 2 ^ 2000 := Nat.lt_trans h (Nat.pow_lt_pow_right (by decide) (by decide))
theorem log9000 {x : Int} (h : x.natAbs < 2 ^ 1100) : x.natAbs.log2 < 9000 := Nat.lt_trans (PySem.Flt.log2_lt_of (by decide) h) (by decide)
theorem at2_set {L : List (List Int)} {i : Nat} {row : List Int} (hi : i < L.length) (a b : Nat) : at2 (L.set i row) a b = if a = i then row.getD b 0 else at2 L a b := by
  unfold at2
  by_cases e : a = i
  · subst e
    rw [if_pos rfl, List.getD_eq_getElem?_getD (l := L.set a row), List.getElem?_set_self hi]
    rfl
  · rw [if_neg e, List.getD_eq_getElem?_getD (l := L.set i row), List.getElem?_set_ne (fun z => e z.symm), ← List.getD_eq_getElem?_getD]
/-- the list of lists is not one of its rows -/
theorem LL.self {H : Hp} {p : Addr} {rs : List Addr} {M : List (List Int)} (h1 : H p = some (.lst (rs.map V.ref))) (h2 : rs.length = M.length) (h3 : ∀ (i : Nat) (r : Addr) (row : List Int), rs[i]? = some r → M[i]? = some row → Li H r row) : p ∉ rs := fun hm => by
  obtain ⟨i, hi⟩ := List.getElem?_of_mem hm
  have hlt : i < rs.length := (List.getElem?_eq_some_iff.mp hi).1
  have h := h3 i p _ hi (List.getElem?_eq_getElem (by omega : i < M.length))
  unfold Li at h
  rw [h1] at h
  have e : rs.map V.ref = (M[i]'(by omega)).map V.int := by
    injection h with h
    injection h
  cases rs with
  | nil => cases hlt
  | cons a r =>
    cases hm2 : M[i]'(by omega) with
    | nil => rw [hm2] at e; cases e
    | cons x y => rw [hm2] at e; cases e
/-- a row is put in -/
theorem LL.put {H : Hp} {p q : Addr} {rs : List Addr} {M : List (List Int)} {i : Nat} {row : List Int} (h1 : H p = some (.lst (rs.map V.ref))) (h2 : rs.length = M.length) (h3 : ∀ (i : Nat) (r : Addr) (row : List Int), rs[i]? = some r → M[i]? = some row → Li H r row) (hq : Li H q row) (hne : q ≠ p) :
    LL (upd H p (.lst ((rs.map V.ref).set i (.ref q)))) p (M.set i row) := by
  have np := LL.self h1 h2 h3
  refine ⟨rs.set i q, by rw [upd_same, List.map_set], by rw [List.length_set, List.length_set, h2], fun a r w e1 e2 => ?_⟩
  by_cases e : i = a
  · subst e
    have l1 : i < rs.length := by
      have := (List.getElem?_eq_some_iff.mp e1).1
      rwa [List.length_set] at this
    rw [List.getElem?_set_self l1] at e1
    rw [List.getElem?_set_self (by omega)] at e2
    cases e1
    cases e2
    exact up_oth hne hq
  · rw [List.getElem?_set_ne e] at e1 e2
    exact up_oth (fun z => np (z ▸ List.mem_of_getElem? e1)) (h3 a r w e1 e2)
def spDetOf : Sp := fun vs H Q _ => ∃ (p : Addr) (n : Nat) (M : List (List Int)), vs = [.ref p] ∧ TT H p M ∧ Sq n M ∧ n ≤ 5 ∧ ∀ H', Same H H' → Q (.int (Alg.lap M)) H'
def spLong : Sp := fun vs H Q _ => ∃ n : Nat, vs = [.int (n : Int)] ∧ n ≤ 2000 ∧ Q (.int (10 ^ n)) H
def spShort : Sp := fun vs H Q _ => ∃ i : Int, vs = [.int i, .int 2000] ∧ Q (.bl (decide (i.natAbs < 10 ^ 2000))) H
def spInt4 : Sp := fun vs H Q _ => ∃ i : Int, vs = [.int i] ∧ i.natAbs < 10 ^ 2000 ∧ Q (.bl true) H
/-- a row: a tuple of 1 to 28 integers -/
def spIsRow : Sp := fun vs H Q _ => ∃ (p : Addr) (ns : List Int), vs = [.ref p] ∧ H p = some (.tup (ns.map V.int)) ∧ 1 ≤ ns.length ∧ ns.length ≤ 28 ∧ (∀ x ∈ ns, x.natAbs < 10 ^ 200) ∧ ∀ H', Same H H' → Q (.bl true) H'
def spAreInts : Sp := fun vs H Q _ => ∃ (p : Addr) (ns : List Int), vs = [.ref p] ∧ H p = some (.tup (ns.map V.int)) ∧ ns.length ≤ 28 ∧ (∀ x ∈ ns, x.natAbs < 10 ^ 200) ∧ ∀ H', Same H H' → Q (.bl true) H'
theorem bits_small {i : Int} (h : i.natAbs < 10 ^ 200) : Builtin.Int.intBits i ≤ 800 := by
  have h1 : (10 : Nat) ^ 200 ≤ (2 ^ 4) ^ 200 := Nat.pow_le_pow_left (by decide) 200
  have h2 : ((2 : Nat) ^ 4) ^ 200 = 2 ^ 800 := (Nat.pow_mul 2 4 200).symm
  have h3 : i.natAbs.log2 < 800 := PySem.Flt.log2_lt_of (by decide) (by omega)
  unfold Builtin.Int.intBits
  split
  · exact Nat.zero_le _
  · omega
def spTab (o : V) : Sp := fun vs H Q _ => ∃ (p : Addr) (n : Nat) (M : List (List Int)), vs = [.ref p] ∧ TT H p M ∧ Sq n M ∧ n ≤ 5 ∧ ∀ H', Same H H' → Q o H'
theorem p200 {x : Int} (h : x.natAbs ≤ 2 ^ 200) : x.natAbs < 10 ^ 200 := Nat.lt_of_le_of_lt h (Nat.pow_lt_pow_left (by decide) (by decide))
/-- the index t of what is left when top is taken out -/
def skp (top t : Nat) : Nat := if t < top then t else t + 1
def SymM (n : Nat) (M : List (List Int)) : Prop := ∀ i j, i < n → j < n → at2 M i j = at2 M j i
def spPsd : Sp := fun vs H Q _ => ∃ (p : Addr) (n : Nat) (M : List (List Int)), vs = [.ref p] ∧ TT H p M ∧ Sq n M ∧ n ≤ 5 ∧ SymM n M ∧ ∀ b H', Same H H' → (b = true ↔ Alg.Psd (at2 M) (List.range n)) → Q (.bl b) H'
theorem filt_top (m top : Nat) (h : top < m) : (List.range m).filter (fun j : Nat => !decide ((0 + (j : Int)) = (top : Int))) = (List.range (m - 1)).map (skp top) := by
  have e : ∀ j : Nat, (!decide ((0 + (j : Int)) = (top : Int))) = !decide (j = top) := fun j => by
    congr 1
    exact decide_eq_decide.mpr (by omega)
  have e2 : (fun j : Nat => !decide ((0 + (j : Int)) = (top : Int))) = fun j => !decide (j = top) := funext e
  rw [e2]
  have key : ∀ a b : Nat, (List.range (a + b)).filter (fun j => !decide (j = a + b)) = List.range (a + b) := fun a b => List.filter_eq_self.mpr fun x hx => by
    have := List.mem_range.mp hx
    rw [decide_eq_false (by omega)]
    rfl
  obtain ⟨d, rfl⟩ : ∃ d, m = top + 1 + d := ⟨m - top - 1, by omega⟩
  induction d with
  | zero =>
    rw [Nat.add_zero, List.range_succ, List.filter_append]
    have h1 := key top 0
    rw [Nat.add_zero] at h1
    rw [h1]
    have h2 : [top].filter (fun j => !decide (j = top)) = [] := by simp
    rw [h2, List.append_nil]
    show List.range top = (List.range top).map (skp top)
    conv => lhs; rw [← List.map_id (List.range top)]
    exact List.map_congr_left fun x hx => by
      have := List.mem_range.mp hx
      unfold skp
      rw [if_pos this]
      rfl
  | succ d ih =>
    have ih := ih (by omega)
    have e3 : top + 1 + (d + 1) = (top + 1 + d) + 1 := by omega
    rw [e3, List.range_succ, List.filter_append, ih]
    have h2 : [top + 1 + d].filter (fun j => !decide (j = top)) = [top + 1 + d] := by
      rw [List.filter_cons, decide_eq_false (by omega)]
      rfl
    have e4 : top + 1 + d + 1 - 1 = (top + 1 + d - 1) + 1 := by omega
    rw [h2, e4, List.range_succ, List.map_append]
    congr 1
    show [top + 1 + d] = [skp top (top + 1 + d - 1)]
    unfold skp
    rw [if_neg (by omega)]
    congr 1
/-- a row is put behind -/
theorem LL.app {H : Hp} {p q : Addr} {rs : List Addr} {M : List (List Int)} {row : List Int} (h1 : H p = some (.lst (rs.map V.ref))) (h2 : rs.length = M.length) (h3 : ∀ (i : Nat) (r : Addr) (row : List Int), rs[i]? = some r → M[i]? = some row → Li H r row) (hq : Li H q row) (hne : q ≠ p) :
    LL (upd H p (.lst (rs.map V.ref ++ [.ref q]))) p (M ++ [row]) := by
  have np := LL.self h1 h2 h3
  refine ⟨rs ++ [q], by rw [upd_same, List.map_append]; rfl, by rw [List.length_append, List.length_append, h2]; rfl, fun a r w e1 e2 => ?_⟩
  rcases Nat.lt_or_ge a rs.length with y | y
  · rw [List.getElem?_append_left y] at e1
    rw [List.getElem?_append_left (by omega)] at e2
    exact up_oth (fun z => np (z ▸ List.mem_of_getElem? e1)) (h3 a r w e1 e2)
  · rw [List.getElem?_append_right y] at e1
    rw [List.getElem?_append_right (by omega)] at e2
    have z : a - rs.length = 0 := by
      rcases Nat.eq_zero_or_pos (a - rs.length) with z | z
      · exact z
      · rw [List.getElem?_eq_none (by show 1 ≤ a - rs.length; exact z)] at e1
        cases e1
    have z2 : a - M.length = 0 := by omega
    rw [z] at e1
    rw [z2] at e2
    cases e1
    cases e2
    exact up_oth hne hq
theorem at2_app {L : List (List Int)} {row : List Int} (a b : Nat) : at2 (L ++ [row]) a b = if a < L.length then at2 L a b else if a = L.length then row.getD b 0 else 0 := by
  unfold at2
  rw [List.getD_eq_getElem?_getD (l := L ++ [row])]
  split
  · rename_i y
    rw [List.getElem?_append_left y, ← List.getD_eq_getElem?_getD]
  · rename_i y
    rw [List.getElem?_append_right (by omega)]
    split
    · rename_i z
      rw [z, Nat.sub_self]
      rfl
    · rename_i z
      rw [List.getElem?_eq_none (by show 1 ≤ a - L.length; omega)]
      rfl
def spSym : Sp := fun vs H Q _ => ∃ (p : Addr) (n : Nat) (M : List (List Int)), vs = [.ref p] ∧ TT H p M ∧ Sq n M ∧ n ≤ 5 ∧ SymM n M ∧ ∀ H', Same H H' → Q (.bl true) H'
def dvd (ns : List Int) : List Int := if gl ns 0 = 0 then ns else ns.map fun x => x / ((gl ns 0 : Nat) : Int)
def spDvd : Sp := fun vs H Q _ => ∃ (p : Addr) (ns : List Int), vs = [.ref p] ∧ H p = some (.tup (ns.map V.int)) ∧ 1 ≤ ns.length ∧ ns.length ≤ 28 ∧ (∀ x ∈ ns, x.natAbs < 10 ^ 200) ∧ ∀ q H', Same H H' → H' q = some (.tup ((dvd ns).map V.int)) → Q (.ref q) H'
def spRight : Sp := fun vs H Q _ => ∃ (a : Addr), vs = [.ref a] ∧ BagAt H a ∧ ∀ H', But a H H' → BagAt H' a → Q (.bl true) H'

def spIsSum : Sp := fun vs H Q _ => ∃ (p : Addr) (n : Nat) (M : List (List Int)), vs = [.ref p] ∧ LL H p M ∧ Sq n M ∧ n ≤ 4 ∧ SymM n M ∧ ∀ b H', Same H H' → (b = true ↔ Alg.Psd (at2 M) (List.range n)) → Q (.bl b) H'
def spLaw (K : PySem.W.Frag) : Sp := fun vs H Q _ => ∃ (a : Addr) (ns : List Int), vs = [.ref a] ∧ SqL K H a (ns.map V.int) ∧ ns.length ≤ 63 ∧ ∀ H', Q (.bl true) H'
theorem at2_put {n : Nat} {M : List (List Int)} {i j : Nat} {v : Int} (h : ∀ r ∈ M, r.length = n) (hi : i < M.length) (hj : j < n) (a b : Nat) : at2 (put M i j v) a b = if a = i ∧ b = j then v else at2 M a b := row_put h hi hj a b
theorem at2_tab {n : Nat} {T : Nat → Nat → Int} {i j : Nat} (hi : i < n) (hj : j < n) : at2 ((List.range n).map fun i => (List.range n).map fun j => T i j) i j = T i j := by
  unfold at2
  rw [List.getD_eq_getElem?_getD (l := (List.range n).map _), List.getElem?_map, List.getElem?_range hi]
  show ((List.range n).map fun j => T i j).getD j 0 = _
  rw [List.getD_eq_getElem?_getD, List.getElem?_map, List.getElem?_range hj]
  rfl
theorem at2_mem {n : Nat} {M : List (List Int)} (hl : M.length = n) (hw : ∀ r ∈ M, r.length = n) {r : List Int} (hr : r ∈ M) {x : Int} (hx : x ∈ r) : ∃ i j, i < n ∧ j < n ∧ x = at2 M i j := by
  obtain ⟨i, hi⟩ := List.getElem?_of_mem hr
  obtain ⟨j, hj⟩ := List.getElem?_of_mem hx
  have hi2 := (List.getElem?_eq_some_iff.mp hi).1
  have hj2 := (List.getElem?_eq_some_iff.mp hj).1
  rw [hw r hr] at hj2
  refine ⟨i, j, by omega, hj2, ?_⟩
  unfold at2
  rw [List.getD_eq_getElem?_getD (l := M), hi]
  show x = r.getD j 0
  rw [List.getD_eq_getElem?_getD, hj]
  rfl
theorem Sq.of {n : Nat} {M : List (List Int)} (hl : M.length = n) (hw : ∀ r ∈ M, r.length = n) (hb : ∀ i j, i < n → j < n → (at2 M i j).natAbs ≤ 2 ^ 200) : Sq n M := ⟨hl, hw, fun r hr x hx => by
  obtain ⟨i, j, h1, h2, rfl⟩ := at2_mem hl hw hr hx
  exact hb i j h1 h2⟩
/-- such a table times a factor -/
theorem at2_wide {n : Nat} {M : List (List Int)} {f : Int} (hl : M.length = n) (hw : ∀ r ∈ M, r.length = n) {i j : Nat} (hi : i < n) (hj : j < n) : at2 (M.map fun r => r.map fun x => f * x) i j = f * at2 M i j := by
  unfold at2
  have e : M[i]? = some (M.getD i []) := by rw [List.getD_eq_getElem?_getD, List.getElem?_eq_getElem (by omega : i < M.length)]; rfl
  have w : (M.getD i []).length = n := hw _ (List.mem_of_getElem? e)
  rw [List.getD_eq_getElem?_getD (l := M.map _), List.getElem?_map, e]
  show ((M.getD i []).map fun x => f * x).getD j 0 = _
  rw [List.getD_eq_getElem?_getD, List.getElem?_map, List.getElem?_eq_getElem (by omega), List.getD_eq_getElem?_getD (l := M.getD i []), List.getElem?_eq_getElem (by omega)]
  rfl
theorem wide_len {n : Nat} {M : List (List Int)} {f : Int} (hl : M.length = n) (hw : ∀ r ∈ M, r.length = n) : (M.map fun r => r.map fun x => f * x).length = n ∧ ∀ r ∈ (M.map fun r => r.map fun x => f * x), r.length = n := ⟨by rw [List.length_map, hl], fun r hr => by
  obtain ⟨w, h1, rfl⟩ := List.mem_map.mp hr
  rw [List.length_map]
  exact hw w h1⟩
theorem sum_bd {b : Nat} : ∀ l : List Int, (∀ x ∈ l, x.natAbs ≤ b) → l.sum.natAbs ≤ l.length * b
  | [], _ => Nat.zero_le _
  | x :: r, h => by
    have h1 := sum_bd r fun y hy => h y (List.mem_cons_of_mem _ hy)
    have h2 := h x List.mem_cons_self
    rw [List.sum_cons, List.length_cons, Nat.succ_mul]
    omega
/-- a square table as the law draws it -/
structure Good (n : Nat) (M : List (List Int)) : Prop where
  len : M.length = n
  wide : ∀ r ∈ M, r.length = n
  bd : ∀ i j, i < n → j < n → (at2 M i j).natAbs ≤ 1000
  sym : SymM n M
theorem Good.row {n : Nat} {M : List (List Int)} (g : Good n M) {i : Nat} (hi : i < n) : (M.getD i []).length = n := by
  refine g.wide _ ?_
  rw [List.getD_eq_getElem?_getD, List.getElem?_eq_getElem (by rw [g.len]; exact hi)]
  exact List.getElem_mem _
theorem Good.put1 {n : Nat} {M : List (List Int)} (g : Good n M) {i : Nat} {v : Int} (hi : i < n) (hv : v.natAbs ≤ 1000) : Good n (put M i i v) where
  len := by rw [put_len]; exact g.len
  wide := put_wide g.wide (by rw [g.len]; exact hi)
  bd a b ha hb := by
    rw [at2_put g.wide (by rw [g.len]; exact hi) hi]
    split
    · exact hv
    · exact g.bd a b ha hb
  sym a b ha hb := by
    rw [at2_put g.wide (by rw [g.len]; exact hi) hi, at2_put g.wide (by rw [g.len]; exact hi) hi]
    by_cases e : a = i ∧ b = i
    · rw [if_pos e, if_pos ⟨e.2, e.1⟩]
    · rw [if_neg e, if_neg (fun z => e ⟨z.2, z.1⟩)]
      exact g.sym a b ha hb
theorem Good.put2 {n : Nat} {M : List (List Int)} (g : Good n M) {i j : Nat} {v : Int} (hi : i < n) (hj : j < n) (hv : v.natAbs ≤ 1000) : Good n (put (put M i j v) j i v) := by
  have e : ∀ a b, at2 (put (put M i j v) j i v) a b = if a = j ∧ b = i then v else if a = i ∧ b = j then v else at2 M a b := fun a b => by
    rw [at2_put (put_wide g.wide (by rw [g.len]; exact hi)) (by rw [put_len, g.len]; exact hj) hi, at2_put g.wide (by rw [g.len]; exact hi) hj]
  refine ⟨by rw [put_len, put_len]; exact g.len, put_wide (put_wide g.wide (by rw [g.len]; exact hi)) (by rw [put_len, g.len]; exact hj), fun a b ha hb => ?_, fun a b ha hb => ?_⟩
  · rw [e]
    split
    · exact hv
    · split
      · exact hv
      · exact g.bd a b ha hb
  · rw [e, e, g.sym a b ha hb]
    by_cases h1 : a = j ∧ b = i
    · rw [if_pos h1]
      by_cases h2 : b = j ∧ a = i
      · rw [if_pos h2]
      · rw [if_neg h2, if_pos ⟨h1.2, h1.1⟩]
    · rw [if_neg h1]
      by_cases h2 : a = i ∧ b = j
      · rw [if_pos h2, if_pos ⟨h2.2, h2.1⟩]
      · rw [if_neg h2, if_neg (fun z => h2 ⟨z.2, z.1⟩), if_neg (fun z => h1 ⟨z.2, z.1⟩)]
def spSymm : Sp := fun vs H Q _ => ∃ (a : Addr) (n : Nat), vs = [.ref a, .int (n : Int)] ∧ BagAt H a ∧ 1 ≤ n ∧ n ≤ 4 ∧ ∀ q H' M, But a H H' → BagAt H' a → LLf H H' q M → Good n M → Q (.ref q) H'
theorem cw {f x : Int} (hf : f.natAbs < 2 ^ 1100) (hx : x.natAbs < 2 ^ 1100) : CMulW f x := by
  have h1 := log9000 hf
  have h2 := log9000 hx
  show f.natAbs.log2 + x.natAbs.log2 < 1000000
  omega
theorem lap_bd {n : Nat} {M : List (List Int)} (h : Sq n M) (hn : n ≤ 5) : (Alg.lap M).natAbs < 2 ^ 1100 := by
  rw [h.lap_mi]
  exact mi_bd (at2_bd h) (by rw [List.length_range]; exact hn) (by rw [List.length_range]; exact hn)
theorem log1920 {x : Int} (h : x.natAbs < 2 ^ 1100) : x.natAbs.log2 < 1920 := Nat.lt_trans (PySem.Flt.log2_lt_of (by decide) h) (by decide)
theorem one_wide (M : List (List Int)) : (M.map fun r => r.map fun x => 1 * x) = M := by
  conv => rhs; rw [← List.map_id M]
  refine List.map_congr_left fun r _ => ?_
  show (r.map fun x => 1 * x) = r
  conv => rhs; rw [← List.map_id r]
  exact List.map_congr_left fun x _ => Int.one_mul x
theorem p1100 {x : Int} (h : x.natAbs ≤ 2 ^ 200) : x.natAbs < 2 ^ 1100 := Nat.lt_of_le_of_lt h (Nat.pow_lt_pow_right (by decide) (by decide))
theorem ten50 : (10 : Nat) ^ 50 * 2000 ≤ 2 ^ 200 := by decide
theorem row_eq {M : List (List Int)} {i : Nat} {row : List Int} (h : M[i]? = some row) : M.getD i [] = row := by rw [List.getD_eq_getElem?_getD, h]; rfl
theorem row_at {M : List (List Int)} {i : Nat} (h : i < M.length) : M[i]? = some (M.getD i []) := by rw [List.getD_eq_getElem?_getD, List.getElem?_eq_getElem h]; rfl
/-- a table with a column and a row of zeros more -/
def wid (n : Nat) (M : List (List Int)) : List (List Int) := (M.map fun r => r ++ [0]) ++ [List.replicate (n + 1) 0]
theorem wid_len {n : Nat} {M : List (List Int)} (hl : M.length = n) : (wid n M).length = n + 1 := by
  unfold wid
  rw [List.length_append, List.length_map, hl]
  rfl
theorem wid_wide {n : Nat} {M : List (List Int)} (hw : ∀ r ∈ M, r.length = n) : ∀ r ∈ wid n M, r.length = n + 1 := fun r hr => by
  unfold wid at hr
  rcases List.mem_append.mp hr with z | z
  · obtain ⟨w, h1, rfl⟩ := List.mem_map.mp z
    rw [List.length_append, hw w h1]
    rfl
  · rw [List.mem_singleton.mp z, List.length_replicate]
theorem at2_wid {n : Nat} {M : List (List Int)} (hl : M.length = n) (hw : ∀ r ∈ M, r.length = n) {i j : Nat} (hi : i ≤ n) (hj : j ≤ n) : at2 (wid n M) i j = if i < n ∧ j < n then at2 M i j else 0 := by
  unfold at2 wid
  rcases Nat.lt_or_ge i n with y | y
  · have e := row_at (M := M) (i := i) (by omega)
    have w := hw _ (List.mem_of_getElem? e)
    rw [List.getD_eq_getElem?_getD (l := _ ++ [_]), List.getElem?_append_left (by rw [List.length_map]; omega), List.getElem?_map, e]
    show (M.getD i [] ++ [0]).getD j 0 = _
    rcases Nat.lt_or_ge j n with z | z
    · rw [if_pos ⟨y, z⟩, List.getD_eq_getElem?_getD, List.getElem?_append_left (by omega), ← List.getD_eq_getElem?_getD]
    · rw [if_neg (fun q => by omega), List.getD_eq_getElem?_getD, List.getElem?_append_right (by omega)]
      have : j - (M.getD i []).length = 0 := by omega
      rw [this]
      rfl
  · have : i = n := by omega
    subst this
    rw [if_neg (fun q => by omega), List.getD_eq_getElem?_getD (l := _ ++ [_]), List.getElem?_append_right (by rw [List.length_map]; omega), List.length_map, hl, Nat.sub_self]
    show (List.replicate (i + 1) (0 : Int)).getD j 0 = 0
    rw [List.getD_eq_getElem?_getD, List.getElem?_replicate]
    split <;> rfl
/-- ones put in at its corners -/
def cor (n : Nat) (M : List (List Int)) : List (List Int) := put (put (wid n M) 0 n 1) n 0 1
theorem at2_cor {n : Nat} {M : List (List Int)} (hl : M.length = n) (hw : ∀ r ∈ M, r.length = n) (a b : Nat) : at2 (cor n M) a b = if a = n ∧ b = 0 then 1 else if a = 0 ∧ b = n then 1 else at2 (wid n M) a b := by
  unfold cor
  have w1 := wid_wide hw
  have l1 := wid_len hl
  rw [at2_put (n := n + 1) (put_wide w1 (by omega)) (by rw [put_len]; omega) (by omega), at2_put w1 (by omega) (by omega)]
/-- what is left of the table behind k steps, as it stood in the whole one -/
def Lf (k : Nat) (L : List (List Int)) : Nat → Nat → Int := fun a b => if a < k then 0 else at2 L (a - k) (b - k)
theorem Lf_at {k : Nat} {L : List (List Int)} (t u : Nat) : Lf k L (k + t) (k + u) = at2 L t u := by
  unfold Lf
  rw [if_neg (by omega), show k + t - k = t by omega, show k + u - k = u by omega]
def nxt (x : Int) (xs : List Int) (s : Int) (R : List (List Int)) : List (List Int) := R.map fun row => comb (row.getD 0 0) (row.drop 1) x xs s
theorem at2_nxt {x : Int} {xs : List Int} {s : Int} {R : List (List Int)} {m : Nat} (hR : R.length = m) (hw : ∀ r ∈ R, r.length = m + 1) {t u : Nat} (ht : t < m) (hu : u < m) :
    at2 (nxt x xs s R) t u = (x * at2 ((x :: xs) :: R) (t + 1) (u + 1) - at2 ((x :: xs) :: R) (t + 1) 0 * at2 ((x :: xs) :: R) 0 (u + 1)).fdiv s := by
  have e := row_at (M := R) (i := t) (by omega)
  have w := hw _ (List.mem_of_getElem? e)
  have e1 : at2 ((x :: xs) :: R) (t + 1) (u + 1) = (R.getD t []).getD (u + 1) 0 := rfl
  have e2 : at2 ((x :: xs) :: R) (t + 1) 0 = (R.getD t []).getD 0 0 := rfl
  have e3 : at2 ((x :: xs) :: R) 0 (u + 1) = xs.getD u 0 := rfl
  rw [e1, e2, e3]
  unfold at2 nxt
  rw [List.getD_eq_getElem?_getD (l := R.map _), List.getElem?_map, e]
  show (comb ((R.getD t []).getD 0 0) ((R.getD t []).drop 1) x xs s).getD u 0 = _
  unfold comb
  rw [List.getD_eq_getElem?_getD, List.getElem?_map, List.getElem?_range (by rw [List.length_drop]; omega)]
  show (x * ((R.getD t []).drop 1).getD u 0 - _).fdiv s = _
  rw [List.getD_eq_getElem?_getD (l := (R.getD t []).drop 1), List.getElem?_drop, Nat.add_comm 1 u, ← List.getD_eq_getElem?_getD]
theorem nxt_wide {x : Int} {xs : List Int} {s : Int} {R : List (List Int)} {m : Nat} (hw : ∀ r ∈ R, r.length = m + 1) : ∀ r ∈ nxt x xs s R, r.length = m := fun r hr => by
  obtain ⟨w, h1, rfl⟩ := List.mem_map.mp hr
  unfold comb
  rw [List.length_map, List.length_range, List.length_drop, hw w h1]
  rfl
theorem RW.self {H : Hp} {p : Addr} {rs : List Addr} {M : List (List Int)} (h1 : H p = some (.lst (rs.map V.ref))) (h2 : rs.length = M.length) (h3 : ∀ (i : Nat) (r : Addr) (row : List Int), rs[i]? = some r → M[i]? = some row → H r = some (.lst (row.map V.int)) ∨ H r = some (.tup (row.map V.int))) : p ∉ rs := fun hm => by
  obtain ⟨i, hi⟩ := List.getElem?_of_mem hm
  have hlt : i < rs.length := (List.getElem?_eq_some_iff.mp hi).1
  have hM : i < M.length := by omega
  rcases h3 i p _ hi (List.getElem?_eq_getElem hM) with h | h
  · rw [h1] at h
    have e : rs.map V.ref = M[i].map V.int := by
      injection h with h
      injection h
    cases rs with
    | nil => cases hlt
    | cons a r =>
      cases hm2 : M[i] with
      | nil => rw [hm2] at e; cases e
      | cons x y => rw [hm2] at e; cases e
  · rw [h1] at h
    cases h
/-- a new row is put behind -/
theorem LLf.app {H0 H : Hp} {p q : Addr} {M : List (List Int)} {row : List Int} (h : LLf H0 H p M) (hq : Li H q row) (h0 : H0 q = none) (new : ∀ rs : List Addr, H p = some (.lst (rs.map V.ref)) → q ∉ rs) (hne : q ≠ p) :
    ∃ rs : List Addr, H p = some (.lst (rs.map V.ref)) ∧ rs.length = M.length ∧ LLf H0 (upd H p (.lst (rs.map V.ref ++ [.ref q]))) p (M ++ [row]) := by
  obtain ⟨rs, h1, h2, hn, g1, g2, h3⟩ := h
  have np := LL.self h1 h2 h3
  have nq := new rs h1
  refine ⟨rs, h1, h2, rs ++ [q], by rw [upd_same, List.map_append]; rfl, by rw [List.length_append, List.length_append, h2]; rfl, ?_, g1, fun r hr => ?_, fun a r w e1 e2 => ?_⟩
  · rw [List.nodup_append]
    refine ⟨hn, List.pairwise_singleton _ _, fun x hx y hy z => ?_⟩
    cases List.mem_singleton.mp hy
    exact nq (z ▸ hx)
  · rcases List.mem_append.mp hr with z | z
    · exact g2 r z
    · rw [List.mem_singleton.mp z]
      exact h0
  · rcases Nat.lt_or_ge a rs.length with y | y
    · rw [List.getElem?_append_left y] at e1
      rw [List.getElem?_append_left (by omega)] at e2
      exact up_oth (fun z => np (z ▸ List.mem_of_getElem? e1)) (h3 a r w e1 e2)
    · rw [List.getElem?_append_right y] at e1
      rw [List.getElem?_append_right (by omega)] at e2
      have z : a - rs.length = 0 := by
        rcases Nat.eq_zero_or_pos (a - rs.length) with z | z
        · exact z
        · rw [List.getElem?_eq_none (by show 1 ≤ a - rs.length; exact z)] at e1
          cases e1
      have z2 : a - M.length = 0 := by omega
      rw [z] at e1
      rw [z2] at e2
      cases e1
      cases e2
      exact up_oth hne hq
def spWo : Sp := fun vs H Q _ => ∃ (H0 : Hp) (p : Addr) (top m : Nat) (s : Int) (L : List (List Int)), vs = [.ref p, .int (top : Int), .int s] ∧ Same H0 H ∧ LLf H0 H p L ∧ (L.length = m ∧ (∀ r ∈ L, r.length = m) ∧ m ≤ 5 ∧ top < m) ∧ (s ≠ 0 ∧ s.natAbs.log2 < 9000) ∧ (∀ r ∈ L, ∀ x ∈ r, x.natAbs < 2 ^ 2000) ∧
  ∀ q H' L', (∀ b o, H b = some o → b ≠ p → (∀ rs : List Addr, H p = some (.lst (rs.map V.ref)) → b ∉ rs) → H' b = some o) → LLf H0 H' q L' → L'.length = m - 1 → (∀ r ∈ L', r.length = m - 1) →
    (∀ t u, t < m - 1 → u < m - 1 → at2 L' t u = (at2 L top top * at2 L (skp top t) (skp top u) - at2 L (skp top t) top * at2 L top (skp top u)).fdiv s) → Q (.ref q) H'
theorem erase_getD {α : Type} (d : α) (l : List α) (top j : Nat) : (l.eraseIdx top).getD j d = l.getD (skp top j) d := by
  rw [List.getD_eq_getElem?_getD, List.getD_eq_getElem?_getD, List.getElem?_eraseIdx]
  unfold skp
  split
  · rfl
  · rfl
theorem erase_at {α : Type} (l : List α) (top j : Nat) : (l.eraseIdx top)[j]? = l[skp top j]? := by
  rw [List.getElem?_eraseIdx]
  unfold skp
  split
  · rfl
  · rfl
theorem int_q {r : List Int} {j : Nat} (h : j < r.length) : (r.map V.int)[j]? = some (V.int (r.getD j 0)) := by
  rw [List.getElem?_map, List.getElem?_eq_getElem h, List.getD_eq_getElem?_getD, List.getElem?_eq_getElem h]
  rfl
theorem gl_scale (g : Nat) (hg : 0 < g) : ∀ (l : List Int) (a : Nat), (∀ x ∈ l, (g : Int) ∣ x) → gl (l.map fun x => x / (g : Int)) a * g = gl l (a * g)
  | [], a, _ => rfl
  | x :: r, a, h => by
    show gl (r.map fun x => x / (g : Int)) (Nat.gcd a (x / (g : Int)).natAbs) * g = gl r (Nat.gcd (a * g) x.natAbs)
    rw [gl_scale g hg r _ fun y hy => h y (List.mem_cons_of_mem _ hy)]
    congr 1
    obtain ⟨y, rfl⟩ := h x List.mem_cons_self
    rw [Int.mul_ediv_cancel_left y (by omega), Int.natAbs_mul, Int.natAbs_natCast, Nat.mul_comm g y.natAbs, Nat.gcd_mul_right]
theorem gl_div : ∀ (l : List Int) (a : Nat), gl l a ∣ a ∧ ∀ x ∈ l, ((gl l a : Nat) : Int) ∣ x
  | [], a => ⟨Nat.dvd_refl a, fun x hx => by cases hx⟩
  | x :: r, a => by
    obtain ⟨h1, h2⟩ := gl_div r (Nat.gcd a x.natAbs)
    refine ⟨Nat.dvd_trans h1 (Nat.gcd_dvd_left _ _), fun y hy => ?_⟩
    rcases List.mem_cons.mp hy with rfl | hy
    · exact Int.ofNat_dvd_left.mpr (Nat.dvd_trans h1 (Nat.gcd_dvd_right _ _))
    · exact h2 y hy
theorem dvd_dvd (l : List Int) : dvd (dvd l) = dvd l := by
  by_cases h : gl l 0 = 0
  · have e : dvd l = l := if_pos h
    rw [e, e]
  · have e : dvd l = l.map fun x => x / ((gl l 0 : Nat) : Int) := if_neg h
    have z := gl_scale (gl l 0) (by omega) l 0 (gl_div l 0).2
    rw [← e, Nat.zero_mul] at z
    have g1 : gl (dvd l) 0 = 1 := by
      refine Nat.eq_of_mul_eq_mul_right (Nat.pos_of_ne_zero h) ?_
      rw [z, Nat.one_mul]
    have e2 : dvd (dvd l) = (dvd l).map fun x => x / ((gl (dvd l) 0 : Nat) : Int) := if_neg (by omega)
    rw [e2, g1]
    conv => rhs; rw [← List.map_id (dvd l)]
    exact List.map_congr_left fun x _ => Int.ediv_one x
theorem dvd_len (l : List Int) : (dvd l).length = l.length := by
  unfold dvd
  split
  · rfl
  · rw [List.length_map]
theorem dvd_bd {l : List Int} {B : Nat} (h : ∀ x ∈ l, x.natAbs < B) : ∀ x ∈ dvd l, x.natAbs < B := fun x hx => by
  unfold dvd at hx
  split at hx
  · exact h x hx
  · obtain ⟨y, hy, rfl⟩ := List.mem_map.mp hx
    exact Nat.lt_of_le_of_lt (Int.natAbs_ediv_le_natAbs _ _) (h y hy)
def tupD (l : List Int) : PyData := .tuple (l.map PyData.int)
theorem dp_ints {K : PySem.W.Frag} {H : Hp} : ∀ l : List Int, DpAll K H (l.map V.int) (l.map PyData.int)
  | [] => .nil
  | x :: r => .cons (.int x) (dp_ints r)
theorem tupD_dp {K : PySem.W.Frag} {H : Hp} {p : Addr} {l : List Int} (h : H p = some (.tup (l.map V.int))) : Dp K H (.ref p) (tupD l) := .tup (SqT.of h) (dp_ints l)
theorem tupD_shaped (l : List Int) : SeqAt.shaped (tupD l) = true := by
  have h : ∀ d ∈ l.map PyData.int, d.canLay0 = true ∧ d.depth = 0 := fun d hd => by
    obtain ⟨x, _, rfl⟩ := List.mem_map.mp hd
    exact ⟨rfl, rfl⟩
  show (PyData.canLayAll0 (l.map PyData.int) && decide (PyData.depthAll (l.map PyData.int) + 1 ≤ 64)) = true
  rw [canAll_of fun d hd => (h d hd).1]
  have := depthAll_of (n := 0) fun d hd => Nat.le_of_eq (h d hd).2
  rw [decide_eq_true (by omega)]
  rfl
theorem eqvAll_ints : ∀ l : List Int, PyData.eqvAll (l.map PyData.int) (l.map PyData.int) = true
  | [] => by simp only [List.map_nil, PyData.eqvAll]
  | x :: r => by
    simp only [List.map_cons, PyData.eqvAll, PyData.eqv, eqvAll_ints r, Bool.and_true]
    exact beq_self_eq_true x
theorem tupD_eqv (l : List Int) : PyData.eqv (tupD l) (tupD l) = true := by
  unfold tupD
  simp only [PyData.eqv]
  exact eqvAll_ints l

end K04
namespace K04
open PySem PySem.Spec PyProof.Rows L2 Lay
local macro_rules | `(tactic| walk_at "rd1") => `(tactic| (first
  | with_reducible refine rd_seq ?_
  | with_reducible refine rd_next ?_
  | with_reducible refine rd_asg ?_
  | with_reducible refine rd_name ?_
  | with_reducible refine rd_ret ?_
  | with_reducible refine rd_drop ?_
  | with_reducible refine rd_ifS ?_
  | with_reducible refine rd_c ?_
  | ((with_reducible refine rd_var (v := ?vv) ?hv ?_); (case hv => exact rfl))
  | with_reducible refine rd_op ?_
  | with_reducible refine rd_un ?_
  | with_reducible refine rd_CB ?_
  | with_reducible refine rd_Cl ?_
  | with_reducible refine rd_nil ?_
  | with_reducible refine rd_cons ?_
  | with_reducible refine rd_test ?_
  | with_reducible refine rd_B ?_
  | with_reducible refine rd_bl ?_
  | with_reducible refine rd_not ?_
  | with_reducible refine rd_and ?_
  | with_reducible refine rd_or ?_
  | with_reducible refine rd_andV ?_
  | with_reducible refine rd_orV ?_
  | with_reducible refine rd_notV ?_
  | with_reducible refine rd_ifE ?_
  | with_reducible refine rd_chain ?_
  | with_reducible refine rd_tup ?_
  | with_reducible refine rd_lst ?_
  | with_reducible refine rd_add ?_
  | with_reducible refine rd_sub ?_
  | with_reducible refine rd_lt ?_
  | with_reducible refine rd_le ?_
  | with_reducible refine rd_gt ?_
  | with_reducible refine rd_ge ?_
  | with_reducible refine rd_neg ?_
  | with_reducible refine rd_eqI ?_
  | with_reducible refine rd_neI ?_
  | with_reducible refine rd_int1 ?_
  | with_reducible refine rd_int1b ?_
  | with_reducible refine rd_abs ?_
  | with_reducible refine rd_max2 ?_
  | with_reducible refine rd_min2 ?_
  | with_reducible refine rd_ltZ ?_
  | with_reducible refine rd_leZ ?_
  | with_reducible refine rd_gtZ ?_
  | with_reducible refine rd_geZ ?_
  | with_reducible refine rd_gsub ?_
  | with_reducible refine rd_for ?_
  | with_reducible refine rd_rng1 ?_
  | with_reducible refine rd_iTup ?_
  | with_reducible refine rd_iList ?_
  | with_reducible refine rd_iStr ?_
  | with_reducible refine rd_lc ?_
  | with_reducible refine rd_bits ?_
  | with_reducible refine rd_yes ?_
  | with_reducible refine rd_sl ?_
  | with_reducible refine rd_noP ?_
  | with_reducible refine rd_part ?_
  | with_reducible refine rd_i ?_
  | with_reducible refine rd_s ?_
  | with_reducible refine rd_disp1 ?_
  | with_reducible refine rd_dnew ?_
  | with_reducible refine rd_M1 ?_
  | with_reducible refine rd_isS ?_
  | with_reducible refine rd_r ?_
  | with_reducible refine iteT ?_
  | with_reducible refine iteF ?_
  | ((with_reducible refine rd_new ?hn ?_); (case hn => exact Nat.le_of_ble_eq_true rfl))
  | ((with_reducible refine rd_mod ?hm ?_); (case hm => decide))
  | ((with_reducible refine rd_fdivW ?hm ?_); (case hm => exact wide_div (by decide) (b := 20) (by decide) (by decide) (by decide)))
  | ((with_reducible refine rd_mul ?hm ?_); (case hm => first | exact mul_lit ⟨by decide, by decide⟩ | exact mul_rit ⟨by decide, by decide⟩ | exact mul_lit ⟨by omega, by omega⟩ | exact mul_rit ⟨by omega, by omega⟩))
  | ((with_reducible refine rd_pow ?hm ?_); (case hm => exact ⟨by decide, by decide, by decide⟩))))
local macro_rules | `(tactic| walk_at "rd") => `(tactic| (repeat (walk_at "rd1")))
local macro_rules | `(tactic| walk_at "hp") => `(tactic| (first | assumption | exact upd_same | (refine up_old (by assumption) ?_; walk_at "hp")))
section
variable {P : Program} {w : World} {K : PySem.W.Frag} {mg : Str → Option Value} {base : Heap}
theorem okdivided (B : Bi mg) (D : DefAt K mg "divided" sdivided ["row"])  : Cal P w K mg base "divided" 1 ["row"] (spDvd) := by
  refine cal_of D scdivided (fun vs H Q E h => ?_) (fun f cdv A outer s H vs Q E hq hr h => ?_)
  · obtain ⟨p, ns, rfl, _⟩ := h; rfl
  · have hu := hr.units
    replace hq := Quiet.deeper hq (envOfC "divided" (defScope sdivided) s.heap.objs.size f cdv)
    skip
    refine ⟨_, (pss_cons (ps_set (i := 1) scdivided.nd rfl (by first | exact Or.inl rfl | exact Or.inr rfl) pe_int)
        (pss_cons (ps_for PassesOwn.never (by rfl) (pi_tup (pv 0)) (pg_name (i := 2) scdivided.nd rfl (by first | exact Or.inl rfl | exact Or.inr rfl)) (pss_cons (ps_set (i := 1) scdivided.nd rfl (by first | exact Or.inl rfl | exact Or.inr rfl) (pe_callBfun cr_gcd (by rfl) B.m_gcd (pa_cons (pv 1) (pa_cons (pv 2) pa_nil))))
        (pss_one (ps_if (pt_cmpR op_eq (pv 1) pe_int (nomark _)) (pss_one (ps_ret (pe_callTy (r := rTupOf K) (by exact q_tupOf) (by rfl) B.b_tuple (by decide +kernel) (pa_cons (pv 0) pa_nil)))) pss_nil))))
        (pss_cons (ps_if (pt_cmpR op_eq (pv 1) pe_int (nomark _)) (pss_one (ps_ret (pe_callTy (r := rTupOf K) (by exact q_tupOf) (by rfl) B.b_tuple (by decide +kernel) (pa_cons (pv 0) pa_nil)))) pss_nil)
        (pss_one (ps_ret (pe_callTy (r := rTupOf K) (by exact q_tupOf) (by rfl) B.b_tuple (by decide +kernel) (pa_cons (pe_lc (own := [("entry", 2)]) (g := gName 2) (tt := tYes) (by rfl) scdivided.nd (pi_tup (pv 0)) (blkOk_by (own := [("entry", 2)]) (N := ["row", "common", "entry"]) (sc := defScope sdivided) (by decide +kernel)) (fun _ _ _ _ _ => (pg_name (i := 2) scdivided.nd rfl (by first | exact Or.inl rfl | exact Or.inr rfl))) (fun _ _ _ _ _ => pts_nil) (fun _ _ _ _ _ => (pe_op op_fdivW (pv 2) (pv 1)))) pa_nil))))))), ?_⟩
    obtain ⟨p, ns, rfl, hp, n1, n2, hb, k⟩ := h
    refine rd_at [some (.ref p), none, none] rfl ?_
    walk_at "rd"
    refine ⟨⟨_, SqT.of hp⟩, for_tup (K := K) (a := p) (xs := ns.map V.int) (fun i σ' H' => ∃ (g : Nat) (v2 : Option V), σ' = [some (.ref p), some (.int (g : Nat)), v2] ∧ H' = H ∧ gl (ns.drop i) g = gl ns 0) ⟨0, none, rfl, rfl, rfl⟩ (fun i σ' H' _ ⟨_, _, _, e, _⟩ => by rw [e]; exact SqT.of hp) ?_ ?_⟩
    · rintro i x _ H' hx ⟨g, v2, rfl, rfl, hg⟩
      obtain ⟨z, hz, rfl⟩ : ∃ z, ns[i]? = some z ∧ x = .int z := by
        rw [List.getElem?_map] at hx
        cases e : ns[i]? with
        | none => rw [e] at hx; cases hx
        | some z => rw [e] at hx; exact ⟨z, rfl, (Option.some.inj hx).symm⟩
      have hd : ns.drop i = z :: ns.drop (i + 1) := by
        have hlt : i < ns.length := (List.getElem?_eq_some_iff.mp hz).1
        rw [List.drop_eq_getElem_cons hlt]
        congr 1
        exact Option.some.inj ((List.getElem?_eq_getElem hlt).symm.trans hz)
      walk_at "rd"
      refine ⟨_, _, rfl, ?_⟩
      rw [Int.natAbs_natCast]
      have hg2 : gl (ns.drop (i + 1)) (Nat.gcd g z.natAbs) = gl ns 0 := by
        rw [← hg, hd]
        rfl
      walk_at "rd"
      refine rd_ite (fun h1 => ?_) (fun h1 => ?_)
      · walk_at "rd"
        refine ⟨p, ns.map V.int, rfl, Or.inr ⟨SqT.of hp, ?_⟩⟩
        have e1 : Nat.gcd g z.natAbs = 1 := by omega
        have ones : ∀ l : List Int, gl l 1 = 1 := fun l => by
          induction l with
          | nil => rfl
          | cons x r ih =>
            show gl r (Nat.gcd 1 x.natAbs) = 1
            rw [Nat.gcd_one_left]
            exact ih
        rw [e1, ones] at hg2
        refine k p _ (Same.refl _) ?_
        unfold dvd
        rw [if_neg (by omega), ← hg2]
        have e2 : (ns.map fun x => x / ((1 : Nat) : Int)) = ns := by
          conv => rhs; rw [← List.map_id ns]
          exact List.map_congr_left fun x _ => Int.ediv_one x
        rw [e2]
        exact hp
      walk_at "rd"
      exact ⟨Nat.gcd g z.natAbs, _, rfl, rfl, hg2⟩
    · rintro _ H' ⟨g, v2, rfl, rfl, hg⟩
      rw [List.length_map, List.drop_length] at hg
      have e : g = gl ns 0 := hg
      walk_at "rd"
      refine rd_ite (fun h0 => ?_) (fun h0 => ?_)
      · walk_at "rd"
        refine ⟨p, ns.map V.int, rfl, Or.inr ⟨SqT.of hp, ?_⟩⟩
        exact k p _ (Same.refl _) (by unfold dvd; rw [if_pos (by omega)]; exact hp)
      · walk_at "rd"
        refine ⟨⟨_, SqT.of hp⟩, ?_⟩
        intro E1 hE1
        have gb : ∀ (l : List Int) (B g : Nat), g < B → (∀ x ∈ l, x.natAbs < B) → gl l g < B := fun l B => by
          induction l with
          | nil => exact fun g h _ => h
          | cons x r ih =>
            intro g h hx
            refine ih _ ?_ (fun y hy => hx y (List.mem_cons_of_mem _ hy))
            rcases Nat.eq_zero_or_pos g with z | z
            · rw [z, Nat.gcd_zero_left]
              exact hx x List.mem_cons_self
            · exact Nat.lt_of_le_of_lt (Nat.gcd_le_left _ z) h
        have gb2 : g < 10 ^ 200 := by rw [e]; exact gb ns _ 0 (Nat.pow_pos (by decide)) hb
        have hg0 : (0 : Int) < (g : Nat) := by omega
        have g9 : ((g : Nat) : Int).natAbs.log2 < 9000 := by
          rw [Int.natAbs_natCast]
          refine log9000 (x := (g : Int)) ?_
          rw [Int.natAbs_natCast]
          have h1 : (10 : Nat) ^ 200 ≤ (2 ^ 4) ^ 200 := Nat.pow_le_pow_left (by decide) 200
          have h2 : ((2 : Nat) ^ 4) ^ 200 = 2 ^ 800 := (Nat.pow_mul 2 4 200).symm
          have h3 : (2 : Nat) ^ 800 < 2 ^ 1100 := Nat.pow_lt_pow_right (by decide) (by decide)
          omega
        refine lc_same (n := (ns.map V.int).length) (wk_tup .non) (by rw [List.length_map]; omega) hE1 (fun H3 s3 => SqT.of (s3 _ _ hp)) (fun _ => true) (fun u => V.int (ns.getD u 0 / (g : Nat))) (fun u hu H3 _ R hR => hR H3 (Same.refl H3)) (fun u hu _ H3 s3 R hR => ?_) (fun H3 s3 hl3 => ?_)
        · rw [List.length_map] at hu
          rw [int_get hu]
          walk_at "rd"
          refine rd_fdivW ⟨hg0, g9⟩ ?_
          exact hR H3 (Same.refl H3)
        · walk_at "rd"
          refine ⟨E1, _, rfl, Or.inl ⟨SqL.of hl3, fun t ht => ?_⟩⟩
          refine k t _ (fun b o e => up_old ht (s3 _ _ e)) ?_
          rw [upd_same, filt_yes, List.length_map]
          unfold dvd
          rw [if_neg (by omega), ← e, List.map_map]
          have := congrArg (List.map fun x => V.int (x / (g : Nat))) (range_getD 0 ns)
          rw [List.map_map] at this
          exact congrArg (fun z => some (HO.tup z)) this
end
section
variable {P : Program} {w : World} {K : PySem.W.Frag} {mg : Str → Option Value} {base : Heap}
theorem ok_row_with (B : Bi mg) (D : DefAt K mg "_row_with" s_row_with ["rows", "start", "column"])  : Cal P w K mg base "_row_with" 1 ["rows", "start", "column"] (spRowWith K) := by
  refine cal_of D sc_row_with (fun vs H Q E h => ?_) (fun f cdv A outer s H vs Q E hq hr h => ?_)
  · obtain ⟨p, s, c, w, M, rfl, _⟩ := h; rfl
  · have hu := hr.units
    replace hq := Quiet.deeper hq (envOfC "_row_with" (defScope s_row_with) s.heap.objs.size f cdv)
    skip
    refine ⟨_, (pss_cons (ps_for PassesOwn.never (by rfl) (pi_range2 (by rfl) B.b_range (pa_cons (pv 1) (pa_cons (pe_callB (r := rLenQ K) (by exact q_lenQ) (by rfl) B.b_len (by decide +kernel) (pa_cons (pv 0) pa_nil)) pa_nil))) (pg_name (i := 3) sc_row_with.nd rfl (by first | exact Or.inl rfl | exact Or.inr rfl)) (pss_one (ps_if (pt_cmpR op_ne (pe_ix (r := rIx K) (by exact ix_seq) (pe_ix (r := rIxL K) (by exact ix_list) (pv 0) (pv 3) (fun _ _ => rfl)) (pv 2) (fun _ _ => rfl)) pe_int (nomark _)) (pss_one (ps_ret (pv 3))) pss_nil)))
        (pss_one (ps_ret pe_non))), ?_⟩
    obtain ⟨p, s, c, w, M, rfl, hLL, hn, hsn, hw, hc, k1, k2⟩ := h
    refine rd_at [some (.ref p), some (.int (s : Int)), some (.int (c : Int)), none] rfl ?_
    obtain ⟨rs, h1, h2, h3⟩ := id hLL
    walk_at "rd"
    refine rd_rng2 ?_
    walk_at "rd"
    refine rd_lenL (SqL.of h1) ?_
    walk_at "rd"
    refine ⟨_, _, rfl, ⟨by omega, by omega, by rw [List.length_map]; omega, by rw [List.length_map]; omega⟩, ?_⟩
    refine for_range (lo := (s : Int)) (n := (((rs.map V.ref).length : Int) - (s : Int)).toNat) (fun i σ' H' => ∃ v, σ' = [some (.ref p), some (.int (s : Int)), some (.int (c : Int)), v] ∧ H' = H ∧ ∀ t, s ≤ t → t < s + i → at2 M t c = 0) ⟨none, rfl, rfl, fun t h1 h2 => by omega⟩ ?_ ?_
    · rintro i _ H hi ⟨v, rfl, rfl, hz⟩
      rw [List.length_map] at hi
      have hlt : s + i < M.length := by omega
      have hlr : s + i < rs.length := by omega
      have g4 := h3 (s + i) rs[s + i] _ (List.getElem?_eq_getElem hlr) (row_at hlt)
      have eM : M.getD (s + i) [] ∈ M := by
        rw [List.getD_eq_getElem?_getD, List.getElem?_eq_getElem hlt]
        exact List.getElem_mem hlt
      have e1 : (s : Int) + (i : Int) = ((s + i : Nat) : Int) := by omega
      rw [e1]
      walk_at "rd"
      refine rd_ixL (SqL.of h1) (ref_at (List.getElem?_eq_getElem hlr)) ?_
      walk_at "rd"
      have hat : atI ((M.getD (s + i) []).map V.int) (c : Int) = some (V.int ((M.getD (s + i) []).getD c 0)) := int_at (by rw [hw _ eM]; exact hc)
      have both : ∀ {Q : VK}, Q (V.int ((M.getD (s + i) []).getD c 0)) H → (rIxL K (V.ref rs[s + i]) (V.int (c : Int)) H Q ∨ rIxT K (V.ref rs[s + i]) (V.int (c : Int)) H Q ∨ rIxS (V.ref rs[s + i]) (V.int (c : Int)) H Q) := fun q => g4.elim (fun g => Or.inl (rd_ixL (SqL.of g) hat q)) (fun g => Or.inr (Or.inl (rd_ixT (SqT.of g) hat q)))
      refine rd_ixA (both ?_)
      walk_at "rd"
      refine rd_iteN (fun h0 => ?_) (fun h0 => ?_)
      · walk_at "rd"
        exact k1 (s + i) (by omega) hlt h0 hz
      · walk_at "rd"
        refine ⟨_, rfl, rfl, fun t t1 t2 => ?_⟩
        rcases Nat.lt_or_ge t (s + i) with y | y
        · exact hz t t1 y
        · obtain rfl : t = s + i := by omega
          exact h0
    · rintro _ _ ⟨v, rfl, rfl, hz⟩
      walk_at "rd"
      refine k2 fun t t1 t2 => hz t t1 ?_
      rw [List.length_map]
      omega
end
section
variable {P : Program} {w : World} {K : PySem.W.Frag} {mg : Str → Option Value} {base : Heap}
theorem ok_swap (B : Bi mg) (D : DefAt K mg "_swap" s_swap ["values", "one", "other"])  : Cal P w K mg base "_swap" 1 ["values", "one", "other"] (spSwap) := by
  refine cal_of D sc_swap (fun vs H Q E h => ?_) (fun f cdv A outer s H vs Q E hq hr h => ?_)
  · obtain ⟨p, i, j, xs, x, y, rfl, _⟩ := h; rfl
  · have hu := hr.units
    replace hq := Quiet.deeper hq (envOfC "_swap" (defScope s_swap) s.heap.objs.size f cdv)
    skip
    refine ⟨_, (pss_one (ps_asg (pe_tup (pa_cons (pe_ix (r := rIxL K) (by exact ix_list) (pv 0) (pv 2) (fun _ _ => rfl)) (pa_cons (pe_ix (r := rIxL K) (by exact ix_list) (pv 0) (pv 1) (fun _ _ => rfl)) pa_nil))) (pg_tup (by rfl) (pgs_cons (pg_sub (pv 0) (pv 1) set_list) (pgs_cons (pg_sub (pv 0) (pv 2) set_list) pgs_nil))))), ?_⟩
    obtain ⟨p, i, j, xs, x, y, rfl, hp, hi, hj, hn, k⟩ := h
    refine rd_at [some (.ref p), some (.int (i : Int)), some (.int (j : Int))] rfl ?_
    walk_at "rd"
    refine rd_ixL (SqL.of hp) (at_nat hj) ?_
    walk_at "rd"
    refine rd_ixL (SqL.of hp) (at_nat hi) ?_
    walk_at "rd"
    intro t ht
    refine ⟨t, _, rfl, SqT.of upd_same, rfl, _, _, rfl, ?_⟩
    have hi1 : i < xs.length := (List.getElem?_eq_some_iff.mp hi).1
    have hj1 : j < xs.length := (List.getElem?_eq_some_iff.mp hj).1
    refine rd_gsub ?_
    walk_at "rd"
    refine rd_setL (up_old ht hp) (j := i) (ix_nat hi1) rfl ?_
    refine ⟨_, _, rfl, ?_⟩
    refine rd_gsub ?_
    walk_at "rd"
    refine rd_setL upd_same (j := j) (ix_nat (by rw [List.length_set]; exact hj1)) rfl ?_
    refine ⟨rfl, ?_⟩
    rw [upd_two]
    exact k _ (fun b o e => up_old ht e)
end
section
variable {P : Program} {w : World} {K : PySem.W.Frag} {mg : Str → Option Value} {base : Heap}
theorem ok_combined (B : Bi mg) (D : DefAt K mg "_combined" s_combined ["factor", "row", "lead", "above", "scale"])  : Cal P w K mg base "_combined" 1 ["factor", "row", "lead", "above", "scale"] (spComb K) := by
  refine cal_of D sc_combined (fun vs H Q E h => ?_) (fun f cdv A outer s H vs Q E hq hr h => ?_)
  · obtain ⟨_, _, a, b, f, d, s, r, l, rfl, _⟩ := h; rfl
  · have hu := hr.units
    replace hq := Quiet.deeper hq (envOfC "_combined" (defScope s_combined) s.heap.objs.size f cdv)
    skip
    refine ⟨_, (pss_one (ps_ret (pe_lc (own := [("entry", 5), ("against", 6)]) (g := gTup K 2 (gCons (gName 5) (gCons (gName 6) gNil))) (tt := tYes) (by rfl) sc_combined.nd (pi_zipM (by rfl) B.b_zip (pa_cons (pv 1) (pa_cons (pv 3) pa_nil))) (blkOk_by (own := [("entry", 5), ("against", 6)]) (N := ["factor", "row", "lead", "above", "scale", "entry", "against"]) (sc := defScope s_combined) (by decide +kernel)) (fun _ _ _ _ _ => (pg_tup (by rfl) (pgs_cons (pg_name (i := 5) sc_combined.nd rfl (by first | exact Or.inl rfl | exact Or.inr rfl)) (pgs_cons (pg_name (i := 6) sc_combined.nd rfl (by first | exact Or.inl rfl | exact Or.inr rfl)) pgs_nil)))) (fun _ _ _ _ _ => pts_nil) (fun _ _ _ _ _ => (pe_op op_fdivWN (pe_op op_sub (pe_op op_mulW (pv 2) (pv 5)) (pe_op op_mulW (pv 0) (pv 6))) (pv 4)))))), ?_⟩
    obtain ⟨k1, k2, a, b, f, d, s, r, l, rfl, ⟨ha, hb⟩, hl, hn, ⟨hs0, hs9⟩, ⟨bf, bd⟩, br, bl, k⟩ := h
    refine rd_at [some (.int f), some (.ref a), some (.int d), some (.ref b), some (.int s), none, none] rfl ?_
    walk_at "rd"
    refine rd_zipM ?_
    walk_at "rd"
    refine ⟨k1, k2, a, b, _, _, rfl, ⟨ha, hb⟩, ?_⟩
    intro E1 hE1
    refine lc_zipM (n := r.length) (by rw [List.length_map]) (by rw [List.length_map, hl]) (by omega) hE1 ha hb (fun _ _ => rfl) (fun j => V.int ((d * r.getD j 0 - f * l.getD j 0).fdiv s)) (fun j hj H' s' R hR => ?_) (fun H' s' hl2 => ?_)
    · rw [int_get hj, int_get (by omega : j < l.length)]
      walk_at "rd"
      refine rd_mulW (wide_mul (a := 2000) (b := 2000) bd (br _ (mem_get hj)) (by decide) (by decide) (by decide)) ?_
      walk_at "rd"
      refine rd_mulW (wide_mul (a := 2000) (b := 2000) bf (bl _ (mem_get (by omega))) (by decide) (by decide) (by decide)) ?_
      walk_at "rd"
      exact ⟨_, _, rfl, rfl, ⟨hs0, hs9⟩, hR⟩
    · refine k H' E1 hE1 s' ?_
      unfold Li comb
      rw [hl2, List.map_map]
      rfl
end
section
variable {P : Program} {w : World} {K : PySem.W.Frag} {mg : Str → Option Value} {base : Heap}
theorem ok_least_longer (B : Bi mg) (D : DefAt K mg "_least_longer" s_least_longer ["digits"])  : Cal P w K mg base "_least_longer" 1 ["digits"] (spLong) := by
  refine cal_of D sc_least_longer (fun vs H Q E h => ?_) (fun f cdv A outer s H vs Q E hq hr h => ?_)
  · obtain ⟨n, rfl, _⟩ := h; rfl
  · have hu := hr.units
    replace hq := Quiet.deeper hq (envOfC "_least_longer" (defScope s_least_longer) s.heap.objs.size f cdv)
    skip
    refine ⟨_, (pss_cons (ps_set (i := 1) sc_least_longer.nd rfl (by first | exact Or.inl rfl | exact Or.inr rfl) pe_int)
        (pss_cons (ps_for PassesOwn.never (by rfl) (pi_range1 (by rfl) B.b_range (pa_cons (pe_op op_fdivW (pv 0) pe_int) pa_nil)) (pg_name (i := 2) sc_least_longer.nd rfl (by first | exact Or.inl rfl | exact Or.inr rfl)) (pss_one (ps_set (i := 1) sc_least_longer.nd rfl (by first | exact Or.inl rfl | exact Or.inr rfl) (pe_op op_mulW (pv 1) (pe_op op_pow pe_int pe_int)))))
        (pss_cons (ps_for PassesOwn.never (by rfl) (pi_range1 (by rfl) B.b_range (pa_cons (pe_op op_sub (pv 0) (pe_op op_mul (pe_op op_fdivW (pv 0) pe_int) pe_int)) pa_nil)) (pg_name (i := 2) sc_least_longer.nd rfl (by first | exact Or.inl rfl | exact Or.inr rfl)) (pss_one (ps_set (i := 1) sc_least_longer.nd rfl (by first | exact Or.inl rfl | exact Or.inr rfl) (pe_op op_mulW (pv 1) pe_int))))
        (pss_one (ps_ret (pv 1)))))), ?_⟩
    obtain ⟨n, rfl, hn, k⟩ := h
    refine rd_at [some (.int n), none, none] rfl ?_
    walk_at "rd"
    refine ⟨_, rfl, by omega, by omega, ?_⟩
    have e1 : ((n : Int) / 20).toNat = n / 20 := by omega
    rw [e1]
    refine for_rng (fun i σ' H' => ∃ v, σ' = [some (.int n), some (.int (10 ^ (20 * i))), v] ∧ H' = H) ⟨none, rfl, rfl⟩ ?_ ?_
    · rintro i σ' H' hi ⟨v, rfl, rfl⟩
      walk_at "rd"
      refine rd_mulW (by simpa using pow10_mul (a := 20 * i) (b := 20) (by omega)) ?_
      walk_at "rd"
      refine ⟨some (.int (0 + (i : Int))), ?_, rfl⟩
      have e : (10 : Int) ^ (20 * i) * 10 ^ (20 : Int).toNat = 10 ^ (20 * (i + 1)) := by
        rw [show (20 : Int).toNat = 20 from rfl, ← Int.pow_add]
        rfl
      rw [e]
      rfl
    rintro σ' H' ⟨v, rfl, rfl⟩
    walk_at "rd"
    refine ⟨_, rfl, by omega, by omega, ?_⟩
    have e2 : ((n : Int) - (n : Int) / 20 * 20).toNat = n % 20 := by omega
    rw [e2]
    refine for_rng (fun i σ'' H'' => ∃ v, σ'' = [some (.int n), some (.int (10 ^ (20 * (n / 20) + i))), v] ∧ H'' = H') ⟨_, rfl, rfl⟩ ?_ ?_
    · rintro i σ'' H'' hi ⟨v, rfl, rfl⟩
      walk_at "rd"
      refine rd_mulW (by simpa using pow10_mul (a := 20 * (n / 20) + i) (b := 1) (by omega)) ?_
      walk_at "rd"
      refine ⟨some (.int (0 + (i : Int))), ?_, rfl⟩
      have e : (10 : Int) ^ (20 * (n / 20) + i) * 10 = 10 ^ (20 * (n / 20) + (i + 1)) := (Int.pow_succ _ _).symm
      rw [e]
      rfl
    rintro σ'' H'' ⟨v, rfl, rfl⟩
    walk_at "rd"
    have e3 : 20 * (n / 20) + n % 20 = n := by omega
    rw [e3]
    exact k
end
section
variable {P : Program} {w : World} {K : PySem.W.Frag} {mg : Str → Option Value} {base : Heap}
theorem ok_width_of (B : Bi mg) (D : DefAt K mg "_width_of" s_width_of ["rows"])  : Cal P w K mg base "_width_of" 1 ["rows"] (spWidthOf) := by
  refine cal_of D sc_width_of (fun vs H Q E h => ?_) (fun f cdv A outer s H vs Q E hq hr h => ?_)
  · obtain ⟨p, M, rfl, _⟩ := h; rfl
  · have hu := hr.units
    replace hq := Quiet.deeper hq (envOfC "_width_of" (defScope s_width_of) s.heap.objs.size f cdv)
    skip
    refine ⟨_, (pss_cons (ps_if (pt_cmpR op_eq (pe_callB (r := rLenQ K) (by exact q_lenQ) (by rfl) B.b_len (by decide +kernel) (pa_cons (pv 0) pa_nil)) pe_int (nomark _)) (pss_one (ps_ret pe_int)) pss_nil)
        (pss_one (ps_ret (pe_callB (r := rLenQ K) (by exact q_lenQ) (by rfl) B.b_len (by decide +kernel) (pa_cons (pe_ix (r := rIxT K) (by exact ix_tup) (pv 0) pe_int (fun _ _ => rfl)) pa_nil))))), ?_⟩
    obtain ⟨p, M, rfl, ⟨rs, h1, h2, h3⟩, k⟩ := h
    refine rd_at [some (.ref p)] rfl ?_
    walk_at "rd"
    refine rd_lenT (SqT.of h1) ?_
    walk_at "rd"
    refine rd_ite (fun h0 => ?_) (fun h0 => ?_)
    · have e : M = [] := by
        cases M with
        | nil => rfl
        | cons a b => rw [List.length_map, h2] at h0; cases h0
      subst e
      walk_at "rd"
      exact k
    · obtain ⟨m0, M', rfl⟩ : ∃ m0 M', M = m0 :: M' := by
        cases M with
        | nil => rw [List.length_map, h2] at h0; exact absurd rfl h0
        | cons a b => exact ⟨a, b, rfl⟩
      obtain ⟨r0, rs', rfl⟩ : ∃ r0 rs', rs = r0 :: rs' := by
        cases rs with
        | nil => cases h2
        | cons a b => exact ⟨a, b, rfl⟩
      walk_at "rd"
      refine rd_ixT (v := .ref r0) (SqT.of h1) (at_nat (j := 0) rfl) ?_
      walk_at "rd"
      refine rd_lenT (SqT.of (h3 0 r0 m0 rfl rfl)) ?_
      walk_at "rd"
      rw [List.length_map]
      exact k
end
section
variable {P : Program} {w : World} {K : PySem.W.Frag} {mg : Str → Option Value} {base : Heap}
theorem ok_is_symmetric (B : Bi mg) (D : DefAt K mg "_is_symmetric" s_is_symmetric ["table"])  : Cal P w K mg base "_is_symmetric" 1 ["table"] (spSym) := by
  refine cal_of D sc_is_symmetric (fun vs H Q E h => ?_) (fun f cdv A outer s H vs Q E hq hr h => ?_)
  · obtain ⟨p, n, M, rfl, _⟩ := h; rfl
  · have hu := hr.units
    replace hq := Quiet.deeper hq (envOfC "_is_symmetric" (defScope s_is_symmetric) s.heap.objs.size f cdv)
    skip
    refine ⟨_, (pss_cons (ps_set (i := 1) sc_is_symmetric.nd rfl (by first | exact Or.inl rfl | exact Or.inr rfl) (pe_callTy q_range1 (by rfl) B.b_range (by decide +kernel) (pa_cons (pe_callB (r := rLenQ K) (by exact q_lenQ) (by rfl) B.b_len (by decide +kernel) (pa_cons (pv 0) pa_nil)) pa_nil)))
        (pss_one (ps_ret (pe_callB (r := rAll K) (by exact (cr_all rfl)) (by rfl) B.b_all (by decide +kernel) (pa_cons (pe_lc2 (own := [("one", 2), ("other", 3)]) (vs1 := [3]) (g := gName 2) (g1 := gName 3) (tt := tYes) (tt1 := tYes) (by rfl) sc_is_symmetric.nd (pi_rngv (pv 1)) (blkOk_by (own := [("one", 2), ("other", 3)]) (N := ["table", "indices", "one", "other"]) (sc := defScope s_is_symmetric) (by decide +kernel)) (by decide) (fun _ _ _ _ _ => (pg_name (i := 2) sc_is_symmetric.nd rfl (by first | exact Or.inl rfl | exact Or.inr rfl))) (fun _ _ _ _ _ => pts_nil) (fun _ _ _ _ _ => (pi_rngv (pv 1))) (fun _ _ _ _ _ => (pg_name (i := 3) sc_is_symmetric.nd rfl (by first | exact Or.inl rfl | exact Or.inr rfl))) (fun _ _ _ _ _ => pts_nil) (fun _ _ _ _ _ => (pe_cmpR op_eq (pe_ix (r := rIxT K) (by exact ix_tup) (pe_ix (r := rIxT K) (by exact ix_tup) (pv 0) (pv 2) (fun _ _ => rfl)) (pv 3) (fun _ _ => rfl)) (pe_ix (r := rIxT K) (by exact ix_tup) (pe_ix (r := rIxT K) (by exact ix_tup) (pv 0) (pv 3) (fun _ _ => rfl)) (pv 2) (fun _ _ => rfl)) (nomark _)))) pa_nil))))), ?_⟩
    obtain ⟨p, n, M, rfl, ⟨rs, h1, h2, h3⟩, hsq, hn, hs, k⟩ := h
    have hlen := hsq.len
    refine rd_at [some (.ref p), none, none, none] rfl ?_
    walk_at "rd"
    refine rd_lenT (SqT.of h1) ?_
    walk_at "rd"
    refine ⟨_, rfl, fun p1 hp1 => ?_⟩
    walk_at "rd"
    rw [List.length_map]
    have hrl : rs.length = n := by omega
    have s1 : Same H (upd H p1 (.rng 0 (rs.length : Int))) := same_up hp1 (Same.refl H)
    have wk : Wk (Itr 0 (rs.length : Int).toNat) n (fun H' => H' = H' ∧ True) (fun i => .int (0 + (i : Int))) := by
      have e : (rs.length : Int).toNat = n := by omega
      rw [e]
      exact ⟨fun _ _ => Nat.le_refl _, fun _ _ _ h => h, fun _ _ _ _ _ _ h => h⟩
    have hget : ∀ i, i < n → ∃ r row, rs[i]? = some r ∧ M[i]? = some row ∧ row.length = n ∧ H r = some (.tup (row.map V.int)) := fun i hi => by
      have hM : i < M.length := by omega
      exact ⟨_, _, List.getElem?_eq_getElem (by omega : i < rs.length), List.getElem?_eq_getElem hM, hsq.sq _ (List.getElem_mem hM), h3 i _ _ (List.getElem?_eq_getElem (by omega)) (List.getElem?_eq_getElem hM)⟩
    refine lc2_same (a := 2) (b := 3) (by decide) (n := n) (by omega) (fun _ => n) (fun _ _ => by omega) (fun _ _ => .bl true) (fun i => .int (0 + (i : Int))) (fun _ i => .int (0 + (i : Int))) (fun H' => H' = H' ∧ True) (fun _ H' => H' = H' ∧ True) (fun R hR => ?_) (fun _ _ => ⟨rfl, trivial⟩) (fun _ _ _ _ => ⟨rfl, trivial⟩) (fun i hi H' s' R hR => ?_) (fun i j hi hj H' s' R hR => ?_) (fun H' E s' hE => ?_)
    · unfold iRngV
      refine rd_var (v := .ref p1) rfl ?_
      exact ⟨p1, _, rfl, upd_same, by omega, by omega, hR _ _ (Same.refl _) wk⟩
    · unfold iRngV
      refine rd_var (v := .ref p1) rfl ?_
      exact ⟨p1, _, rfl, s' _ _ upd_same, by omega, by omega, hR _ _ (Same.refl _) wk⟩
    · obtain ⟨r, row, e1, e2, e3, e4⟩ := hget i hi
      obtain ⟨r', row', f1, f2, f3, f4⟩ := hget j hj
      have sw := s1.trans s'
      rw [Int.zero_add, Int.zero_add]
      walk_at "rd"
      refine rd_ixT (v := .ref r) (SqT.of (sw _ _ h1)) (ref_at e1) ?_
      walk_at "rd"
      refine rd_ixT (v := .int (row.getD j 0)) (SqT.of (sw _ _ e4)) (at_nat (by rw [List.getElem?_map, List.getElem?_eq_getElem (by omega), List.getD_eq_getElem?_getD, List.getElem?_eq_getElem (by omega)]; rfl)) ?_
      walk_at "rd"
      refine rd_ixT (v := .ref r') (SqT.of (sw _ _ h1)) (ref_at f1) ?_
      walk_at "rd"
      refine rd_ixT (v := .int (row'.getD i 0)) (SqT.of (sw _ _ f4)) (at_nat (by rw [List.getElem?_map, List.getElem?_eq_getElem (by omega), List.getD_eq_getElem?_getD, List.getElem?_eq_getElem (by omega)]; rfl)) ?_
      walk_at "rd"
      have z := hs i j hi hj
      unfold at2 at z
      rw [List.getD_eq_getElem?_getD (l := M), List.getD_eq_getElem?_getD (l := M), e2, f2] at z
      rw [decide_eq_true (show row.getD j 0 = row'.getD i 0 from z)]
      exact hR _ (Same.refl _)
    · walk_at "rd"
      refine rd_all (bs := (List.range n).flatMap fun _ => (List.range n).map fun _ => true) (SqL.of (by rw [hE, List.map_flatMap]; simp only [List.map_map]; rfl)) ?_
      have e : ((List.range n).flatMap fun _ => (List.range n).map fun _ => true).all id = true := by
        refine List.all_eq_true.mpr fun x hx => ?_
        obtain ⟨_, _, hx⟩ := List.mem_flatMap.mp hx
        obtain ⟨_, _, rfl⟩ := List.mem_map.mp hx
        rfl
      rw [e]
      exact k H' (s1.trans s')
end
section
variable {P : Program} {w : World} {K : PySem.W.Frag} {mg : Str → Option Value} {base : Heap}
theorem ok_law_bag (B : Bi mg) (D : DefAt K mg "_law_bag" s_law_bag ["_law_script", "_law_at"])  : Cal P w K mg base "_law_bag" 1 ["_law_script", "_law_at"] (spBag K) := by
  refine cal_of D sc_law_bag (fun vs H Q E h => ?_) (fun f cdv A outer s H vs Q E hq hr h => ?_)
  · obtain ⟨a, ns, i, rfl, _⟩ := h; rfl
  · have hu := hr.units
    replace hq := Quiet.deeper hq (envOfC "_law_bag" (defScope s_law_bag) s.heap.objs.size f cdv)
    skip
    refine ⟨_, (pss_cons (ps_set (i := 2) sc_law_bag.nd rfl (by first | exact Or.inl rfl | exact Or.inr rfl) (pe_ifExp (pt_cmpR op_lt (pv 1) (pe_callB (r := rLenQ K) (by exact q_lenQ) (by rfl) B.b_len (by decide +kernel) (pa_cons (pv 0) pa_nil)) (nomark _)) (pe_ix (r := rIxL K) (by exact ix_list) (pv 0) (pv 1) (fun _ _ => rfl)) (pe_op op_add (pe_op op_add (pe_callB (r := rSum K) (by exact (cr_sum rfl)) (by rfl) B.b_sum (by decide +kernel) (pa_cons (pe_slice (r := rSlL K) (by exact sl_list) (pv 0) po_none (po_some pe_int)) pa_nil)) (pe_op op_mul pe_int (pv 1))) pe_int)))
        (pss_cons (ps_set (i := 3) sc_law_bag.nd rfl (by first | exact Or.inl rfl | exact Or.inr rfl) (pe_op op_mod (pe_callTy q_int (by rfl) B.b_int (by decide +kernel) (pa_cons (pe_callB q_abs (by rfl) B.b_abs (by decide +kernel) (pa_cons (pv 2) pa_nil)) pa_nil)) (pe_op op_powW (pe_op op_pow pe_int pe_int) pe_int)))
        (pss_cons (ps_set (i := 4) sc_law_bag.nd rfl (by first | exact Or.inl rfl | exact Or.inr rfl) (pe_op op_add (pe_op op_add (pe_op op_add (pe_op op_mul (pe_op op_mod (pe_callTy q_int (by rfl) B.b_int (by decide +kernel) (pa_cons (pv 3) pa_nil)) pe_int) pe_int) (pe_op op_mul pe_int (pv 1))) (pe_op op_mul pe_int (pe_callTy q_int (by rfl) B.b_int (by decide +kernel) (pa_cons (pe_cmpR op_lt (pv 2) pe_int (nomark _)) pa_nil)))) pe_int))
        (pss_one (ps_ret (pe_lst (pa_cons (pe_callB (q_max2 rfl) (by rfl) B.b_max (by decide +kernel) (pa_cons pe_int (pa_cons (pe_op op_sub (pv 3) (pe_op op_pow pe_int pe_int)) pa_nil))) (pa_cons (pe_op op_mod (pe_callTy q_int (by rfl) B.b_int (by decide +kernel) (pa_cons (pv 4) pa_nil)) pe_int) (pa_cons pe_int pa_nil))))))))), ?_⟩
    obtain ⟨a, ns, i, rfl, hS, k⟩ := h
    refine rd_at [some (.ref a), some (.int i), none, none, none] rfl ?_
    refine rd_seq (rd_asg ?_)
    refine rd_with (fun v H1 => ∃ z : Int, v = .int z ∧ Same H H1) (fun Q' k' => ?_) ?_
    · walk_at "rd"
      refine rd_lenL hS ?_
      walk_at "rd"
      refine rd_ite (fun hi => ?_) (fun hi => ?_)
      · rw [List.length_map] at hi
        have hi2 : i < ns.length := by omega
        walk_at "rd"
        refine rd_ixL hS (at_nat (j := i) (v := .int ns[i]) (by rw [List.getElem?_map, List.getElem?_eq_getElem hi2]; rfl)) ?_
        exact k' _ _ ⟨_, rfl, Same.refl H⟩
      · walk_at "rd"
        refine rd_slL hS (fun p hp => ?_)
        obtain ⟨ms, hms⟩ := cut_ints ns none (some 1)
        rw [hms]
        walk_at "rd"
        refine rd_sum (SqL.of upd_same) ?_
        walk_at "rd"
        exact k' _ _ ⟨_, rfl, fun b o e => up_old hp e⟩
    rintro v H1 ⟨z, rfl, hs⟩
    walk_at "rd"
    refine rd_powW ⟨by decide, by decide +kernel⟩ ?_
    refine rd_mod (by decide +kernel) ?_
    have g1 := Int.emod_nonneg (if z < 0 then -z else z) (show ((10 : Int) ^ (47 : Int).toNat) ^ (13 : Int).toNat ≠ 0 by decide +kernel)
    generalize (if z < 0 then -z else z) % ((10 : Int) ^ (47 : Int).toNat) ^ (13 : Int).toNat = g at g1
    walk_at "rd"
    have m1 := Int.emod_nonneg g (show (2305843009213693669 : Int) ≠ 0 by decide)
    have m2 := Int.emod_lt_of_pos g (show (0 : Int) < 2305843009213693669 by decide)
    generalize g % 2305843009213693669 = m at m1 m2
    walk_at "rd"
    intro p hp
    refine k p _ (hs.free hp) (fun b o e => up_old hp (hs b o e)) ⟨_, _, _, upd_same, ?_, Int.emod_nonneg _ (by decide), by decide⟩
    split <;> omega
end
section
variable {P : Program} {w : World} {K : PySem.W.Frag} {mg : Str → Option Value} {base : Heap}
theorem ok_law_draw (B : Bi mg) (D : DefAt K mg "_law_draw" s_law_draw ["_law_bag_here", "_law_total"])  : Cal P w K mg base "_law_draw" 1 ["_law_bag_here", "_law_total"] (spDraw) := by
  refine cal_of D sc_law_draw (fun vs H Q E h => ?_) (fun f cdv A outer s H vs Q E hq hr h => ?_)
  · obtain ⟨a, n, rfl, _⟩ := h; rfl
  · have hu := hr.units
    replace hq := Quiet.deeper hq (envOfC "_law_draw" (defScope s_law_draw) s.heap.objs.size f cdv)
    skip
    refine ⟨_, (pss_cons (ps_if (pt_cmpR op_gt (pe_ix (r := rIxL K) (by exact ix_list) (pv 0) pe_int (fun _ _ => rfl)) pe_int (nomark _)) (pss_cons (ps_set (i := 2) sc_law_draw.nd rfl (by first | exact Or.inl rfl | exact Or.inr rfl) (pe_op op_mod (pe_callTy q_int (by rfl) B.b_int (by decide +kernel) (pa_cons (pe_ix (r := rIxL K) (by exact ix_list) (pv 0) pe_int (fun _ _ => rfl)) pa_nil)) (pv 1)))
        (pss_cons (ps_asg (pe_op op_fdivW (pe_ix (r := rIxL K) (by exact ix_list) (pv 0) pe_int (fun _ _ => rfl)) (pv 1)) (pg_sub (pv 0) pe_int set_list))
        (pss_one (ps_ret (pv 2))))) pss_nil)
        (pss_cons (ps_asg (pe_op op_add (pe_ix (r := rIxL K) (by exact ix_list) (pv 0) pe_int (fun _ _ => rfl)) pe_int) (pg_sub (pv 0) pe_int set_list))
        (pss_cons (ps_set (i := 3) sc_law_draw.nd rfl (by first | exact Or.inl rfl | exact Or.inr rfl) (pe_op op_mod (pe_callTy q_int (by rfl) B.b_int (by decide +kernel) (pa_cons (pe_op op_add (pe_ix (r := rIxL K) (by exact ix_list) (pv 0) pe_int (fun _ _ => rfl)) (pe_op op_mul pe_int (pe_ix (r := rIxL K) (by exact ix_list) (pv 0) pe_int (fun _ _ => rfl)))) pa_nil)) pe_int))
        (pss_cons (ps_set (i := 4) sc_law_draw.nd rfl (by first | exact Or.inl rfl | exact Or.inr rfl) (pe_op op_add (pe_op op_mul (pe_op op_mod (pe_callTy q_int (by rfl) B.b_int (by decide +kernel) (pa_cons (pe_op op_mul (pv 3) (pv 3)) pa_nil)) pe_int) (pv 3)) (pe_op op_mul pe_int (pe_ix (r := rIxL K) (by exact ix_list) (pv 0) pe_int (fun _ _ => rfl)))))
        (pss_one (ps_ret (pe_op op_mod (pe_callTy q_int (by rfl) B.b_int (by decide +kernel) (pa_cons (pe_op op_fdivW (pe_op op_mod (pe_callTy q_int (by rfl) B.b_int (by decide +kernel) (pa_cons (pv 4) pa_nil)) pe_int) pe_int) pa_nil)) (pv 1)))))))), ?_⟩
    obtain ⟨a, n, rfl, ⟨g, m, c, ha, hg, hm, hc⟩, h1, h2, k⟩ := h
    refine rd_at [some (.ref a), some (.int n), none, none, none] rfl ?_
    have n0 : (0 : Int) < n := by omega
    walk_at "rd"
    refine rd_ixL (SqL.of ha) (at_nat (j := 0) rfl) ?_
    walk_at "rd"
    refine rd_ite (fun h0 => ?_) (fun h0 => ?_)
    · walk_at "rd"
      refine rd_ixL (SqL.of ha) (at_nat (j := 0) rfl) ?_
      walk_at "rd"
      refine rd_mod n0 ?_
      walk_at "rd"
      refine rd_ixL (SqL.of ha) (at_nat (j := 0) rfl) ?_
      walk_at "rd"
      refine rd_fdivW (wide_div n0 (b := 20) (by omega) (by decide) (by decide)) ?_
      walk_at "rd"
      refine rd_setL ha (j := 0) rfl rfl ?_
      walk_at "rd"
      refine k _ _ (Int.emod_nonneg _ (by omega)) (Int.emod_lt_of_pos _ n0) But.upd ⟨_, _, _, upd_same, Int.ediv_nonneg hg (by omega), hm, hc⟩
    · walk_at "rd"
      refine rd_ixL (SqL.of ha) (at_nat (j := 2) rfl) ?_
      walk_at "rd"
      refine rd_setL ha (j := 2) rfl rfl ?_
      walk_at "rd"
      have ha2 : upd H a (.lst [.int g, .int m, .int (c + 1)]) a = some (.lst [.int g, .int m, .int (c + 1)]) := upd_same
      refine rd_ixL (SqL.of ha2) (at_nat (j := 1) rfl) ?_
      walk_at "rd"
      refine rd_ixL (SqL.of ha2) (at_nat (j := 2) rfl) ?_
      walk_at "rd"
      have o1 := Int.emod_nonneg (m + 1048613 * (c + 1)) (show (2305843009213693951 : Int) ≠ 0 by decide)
      have o2 := Int.emod_lt_of_pos (m + 1048613 * (c + 1)) (show (0 : Int) < 2305843009213693951 by decide)
      generalize (m + 1048613 * (c + 1)) % 2305843009213693951 = one at o1 o2
      walk_at "rd"
      refine rd_ixL (SqL.of ha2) (at_nat (j := 2) rfl) ?_
      walk_at "rd"
      refine rd_mod n0 ?_
      exact k _ _ (Int.emod_nonneg _ (by omega)) (Int.emod_lt_of_pos _ n0) But.upd ⟨_, _, _, ha2, hg, hm, by omega⟩
end
section
variable {P : Program} {w : World} {K : PySem.W.Frag} {mg : Str → Option Value} {base : Heap}
theorem ok_law_divisor (B : Bi mg) (D : DefAt K mg "_law_divisor" s_law_divisor ["_law_numbers_here"])  : Cal P w K mg base "_law_divisor" 1 ["_law_numbers_here"] (spDiv K) := by
  refine cal_of D sc_law_divisor (fun vs H Q E h => ?_) (fun f cdv A outer s H vs Q E hq hr h => ?_)
  · obtain ⟨p, ns, rfl, _⟩ := h; rfl
  · have hu := hr.units
    replace hq := Quiet.deeper hq (envOfC "_law_divisor" (defScope s_law_divisor) s.heap.objs.size f cdv)
    skip
    refine ⟨_, (pss_cons (ps_set (i := 1) sc_law_divisor.nd rfl (by first | exact Or.inl rfl | exact Or.inr rfl) pe_int)
        (pss_cons (ps_for PassesOwn.never (by rfl) (pi_tup (pv 0)) (pg_name (i := 2) sc_law_divisor.nd rfl (by first | exact Or.inl rfl | exact Or.inr rfl)) (pss_cons (ps_set (i := 3) sc_law_divisor.nd rfl (by first | exact Or.inl rfl | exact Or.inr rfl) (pe_callB q_abs (by rfl) B.b_abs (by decide +kernel) (pa_cons (pv 2) pa_nil)))
        (pss_one (ps_while PassesOwn.never (pt_cmpR op_ne (pv 3) pe_int (nomark _)) (pss_one (ps_par (i := 1) (j := 3) (by rfl) sc_law_divisor.nd rfl rfl (by decide) rfl rfl (pa_cons (pv 3) (pa_cons (pe_op op_mod (pv 1) (pv 3)) pa_nil)) (by rfl)))))))
        (pss_one (ps_ret (pv 1))))), ?_⟩
    obtain ⟨p, ns, rfl, hS, hl, k⟩ := h
    refine rd_at [some (.ref p), none, none, none] rfl ?_
    walk_at "rd"
    refine ⟨⟨_, hS⟩, for_tup (K := K) (a := p) (xs := ns.map V.int) (fun i σ' H' => ∃ g v2 v3, σ' = [some (.ref p), some (.int (g : Nat)), v2, v3] ∧ H' = H ∧ gl (ns.drop i) g = gl ns 0) ⟨0, none, none, rfl, rfl, rfl⟩ (fun i σ' H' _ ⟨_, _, _, _, e, _⟩ => by rw [e]; exact hS) ?_ ?_⟩
    · rintro i x _ H' hx ⟨g, v2, v3, rfl, rfl, hg⟩
      obtain ⟨z, hz, rfl⟩ : ∃ z, ns[i]? = some z ∧ x = .int z := by
        rw [List.getElem?_map] at hx
        cases e : ns[i]? with
        | none => rw [e] at hx; cases hx
        | some z => rw [e] at hx; exact ⟨z, rfl, (Option.some.inj hx).symm⟩
      have hd : ns.drop i = z :: ns.drop (i + 1) := by
        have hlt : i < ns.length := (List.getElem?_eq_some_iff.mp hz).1
        rw [List.drop_eq_getElem_cons hlt]
        congr 1
        exact Option.some.inj ((List.getElem?_eq_getElem hlt).symm.trans hz)
      walk_at "rd"
      refine while_by (fun σ' H2 => ∃ f o : Nat, σ' = [some (.ref p), some (.int f), some (.int z), some (.int o)] ∧ H2 = H' ∧ Nat.gcd f o = Nat.gcd g z.natAbs) (fun σ' _ => match σ' with | [_, _, _, some (.int o)] => o.toNat | _ => 0) ⟨g, z.natAbs, ?_, rfl, rfl⟩ ?_ ?_
      · show [some (V.ref p), some (V.int (g : Nat)), some (V.int z), some (V.int (if z < 0 then -z else z))] = _
        have : (if z < 0 then -z else z) = ((z.natAbs : Nat) : Int) := by split <;> omega
        rw [this]
      · rintro _ _ ⟨f, o, rfl, rfl, hgc⟩
        walk_at "rd"
        refine rd_iteN (fun h0 => ?_) (fun h0 => ?_)
        · refine rd_par ?_
          walk_at "rd"
          refine rd_mod (by omega) ?_
          walk_at "rd"
          refine ⟨_, _, rfl, ⟨o, f % o, rfl, rfl, ?_⟩, ?_⟩
          · rw [← hgc, Nat.gcd_comm f o, Nat.gcd_comm o (f % o), ← Nat.gcd_rec o f]
          · show ((f : Int) % (o : Int)).toNat < (o : Int).toNat
            have h1 := Int.emod_lt_of_pos (f : Int) (show (0 : Int) < (o : Int) by omega)
            have h2 := Int.emod_nonneg (f : Int) (show (o : Int) ≠ 0 by omega)
            omega
        · have o0 : o = 0 := by omega
          subst o0
          refine ⟨f, _, _, rfl, rfl, ?_⟩
          rw [← hg, hd]
          show gl _ f = gl _ (Nat.gcd g z.natAbs)
          rw [← hgc, Nat.gcd_zero_right]
      · intro σ H Q Q' hh q
        obtain ⟨v, e, hs, b, eb, q⟩ := q
        exact ⟨v, e, hs, b, eb, hh _ _ q⟩
    · rintro _ H' ⟨g, v2, v3, rfl, rfl, hg⟩
      rw [List.length_map, List.drop_length] at hg
      walk_at "rd"
      have e : g = gl ns 0 := hg
      rw [e]
      exact k
end
section
variable {P : Program} {w : World} {K : PySem.W.Frag} {mg : Str → Option Value} {base : Heap}
theorem ok_law_wide (B : Bi mg) (D : DefAt K mg "_law_wide" s_law_wide ["_law_table", "_law_factor"])  : Cal P w K mg base "_law_wide" 1 ["_law_table", "_law_factor"] (spWide K) := by
  refine cal_of D sc_law_wide (fun vs H Q E h => ?_) (fun f cdv A outer s H vs Q E hq hr h => ?_)
  · obtain ⟨p, f, M, rfl, _⟩ := h; rfl
  · have hu := hr.units
    replace hq := Quiet.deeper hq (envOfC "_law_wide" (defScope s_law_wide) s.heap.objs.size f cdv)
    skip
    refine ⟨_, (pss_one (ps_ret (pe_callTy (r := rTupOf K) (by exact q_tupOf) (by rfl) B.b_tuple (by decide +kernel) (pa_cons (pe_lc (own := [("_law_row", 2)]) (g := gName 2) (tt := tYes) (by rfl) sc_law_wide.nd (pi_list (pv 0)) (blkOk_by (own := [("_law_row", 2)]) (N := ["_law_table", "_law_factor", "_law_row", "_law_one"]) (sc := defScope s_law_wide) (by decide +kernel)) (fun _ _ _ _ _ => (pg_name (i := 2) sc_law_wide.nd rfl (by first | exact Or.inl rfl | exact Or.inr rfl))) (fun _ _ _ _ _ => pts_nil) (fun _ _ _ _ _ => (pe_callTy (r := rTupOf K) (by exact q_tupOf) (by rfl) B.b_tuple (by decide +kernel) (pa_cons (by exact (pe_lc (own := [("_law_one", 3)]) (wi := iList K (tVar 2)) (g := gName 3) (tt := tYes) (by rfl) sc_law_wide.nd (by exact (pi_list (pv 2))) (by exact blkOk_by (by kernel_rfl)) (fun _ _ _ _ _ => (pg_name (i := 3) sc_law_wide.nd rfl (by first | exact Or.inl rfl | exact Or.inr rfl))) (fun _ _ _ _ _ => pts_nil) (fun _ _ _ _ _ => (pe_op op_mulW (pv 1) (pv 3))))) pa_nil)))) pa_nil)))), ?_⟩
    obtain ⟨p, f, M, rfl, ⟨rs, h1, h2, h3⟩, hn, hM, k⟩ := h
    refine rd_at [some (.ref p), some (.int f), none, none] rfl ?_
    walk_at "rd"
    refine ⟨⟨_, SqL.of h1⟩, ?_⟩
    intro E1 hE1
    refine lc_made (n := (rs.map V.ref).length) (wk_list .non) (by rw [List.length_map]; omega) hE1 (fun H' s' => SqL.of (s' _ _ h1)) (fun j v H' => ∃ t row, v = V.ref t ∧ t ≠ E1 ∧ M[j]? = some row ∧ H' t = some (.tup (row.map fun x => V.int (f * x)))) (fun j v H2 H3 b ⟨t, row, e, ne, em, et⟩ => ⟨t, row, e, ne, em, b _ _ ne et⟩) ?_ ?_
    · intro j hj H' o s' ho R kk
      rw [List.length_map] at hj
      have ej : (rs.map V.ref).getD j .non = V.ref rs[j] := by rw [List.getD_eq_getElem?_getD, List.getElem?_map, List.getElem?_eq_getElem hj]; rfl
      rw [ej]
      have hjm : j < M.length := by omega
      have hrow := s' _ _ (h3 j rs[j] M[j] (List.getElem?_eq_getElem hj) (List.getElem?_eq_getElem hjm))
      obtain ⟨hr1, hr2⟩ := hM M[j] (List.getElem_mem hjm)
      walk_at "rd"
      refine ⟨⟨_, SqL.of hrow⟩, ?_⟩
      intro E2 hE2
      refine lc_same (n := (M[j].map V.int).length) (wk_list .non) (by rw [List.length_map]; omega) hE2 (fun H3 s3 => SqL.of (s3 _ _ hrow)) (fun _ => true) (fun u => V.int (f * M[j].getD u 0)) (fun u hu H3 _ R hR => hR H3 (Same.refl H3)) (fun u hu _ H3 s3 R hR => ?_) (fun H3 s3 hl3 => ?_)
      · rw [List.length_map] at hu
        have eu : (M[j].map V.int).getD u .non = V.int M[j][u] := by rw [List.getD_eq_getElem?_getD, List.getElem?_map, List.getElem?_eq_getElem hu]; rfl
        have eg : M[j].getD u 0 = M[j][u] := by rw [List.getD_eq_getElem?_getD, List.getElem?_eq_getElem hu]; rfl
        rw [eu]
        walk_at "rd"
        refine rd_mulW (hr2 _ (List.getElem_mem hu)) ?_
        rw [eg] at hR
        exact hR H3 (Same.refl H3)
      · walk_at "rd"
        refine ⟨E2, _, rfl, Or.inl ⟨SqL.of hl3, fun t ht => ?_⟩⟩
        refine kk _ _ (fun b o e => up_old ht (s3 _ _ e)) ⟨t, M[j], rfl, fun z => ?_, List.getElem?_eq_getElem hjm, ?_⟩
        · rw [z, s3 _ _ ho] at ht
          cases ht
        · have e9 : (List.range M[j].length).map (fun u => V.int (f * M[j].getD u 0)) = M[j].map (fun x => V.int (f * x)) := by
            have := congrArg (List.map fun x => V.int (f * x)) (range_getD 0 M[j])
            rw [List.map_map] at this
            exact this
          rw [upd_same, filt_yes, List.length_map, e9]
    · intro ys H' s' hy hP hl2
      obtain ⟨ts, rfl⟩ := refs_of (fun j v e => by
        obtain ⟨t, _, e2, _⟩ := hP j v e
        exact ⟨t, e2⟩)
      walk_at "rd"
      refine ⟨E1, _, rfl, Or.inl ⟨SqL.of hl2, fun q hq2 => ?_⟩⟩
      refine k q _ (s'.free hq2) (fun b o e => up_old hq2 (s' _ _ e)) ⟨ts, upd_same, ?_, fun i r row e1 e2 => ?_⟩
      · rw [List.length_map] at hy ⊢
        simpa [h2] using hy
      · obtain ⟨t, row', e, _, em, et⟩ := hP i (V.ref r) (by rw [List.getElem?_map, e1]; rfl)
        cases e
        rw [List.getElem?_map, em] at e2
        cases e2
        refine up_old hq2 ?_
        rw [et, List.map_map]
        rfl
end
section
variable {P : Program} {w : World} {K : PySem.W.Frag} {mg : Str → Option Value} {base : Heap}
theorem okdeterminant_of (B : Bi mg) (D : DefAt K mg "determinant_of" sdeterminant_of ["table"]) (c_combined : Cal P w K mg base "_combined" 1 ["factor", "row", "lead", "above", "scale"] (spComb K)) (c_row_with : Cal P w K mg base "_row_with" 1 ["rows", "start", "column"] (spRowWith K)) (c_swap : Cal P w K mg base "_swap" 1 ["values", "one", "other"] (spSwap)) : Cal P w K mg base "determinant_of" 2 ["table"] (spDetOf) := by
  refine cal_of D scdeterminant_of (fun vs H Q E h => ?_) (fun f cdv A outer s H vs Q E hq hr h => ?_)
  · obtain ⟨p, n, M, rfl, _⟩ := h; rfl
  · have hu := hr.units
    replace hq := Quiet.deeper hq (envOfC "determinant_of" (defScope sdeterminant_of) s.heap.objs.size f cdv)
    have hr_combined := hr.mono (show 1 ≤ 1 by decide)
    have hr_row_with := hr.mono (show 1 ≤ 1 by decide)
    have hr_swap := hr.mono (show 1 ≤ 1 by decide)
    skip
    refine ⟨_, (pss_cons (ps_if (pt_cmpR op_eq (pe_callB (r := rLenQ K) (by exact q_lenQ) (by rfl) B.b_len (by decide +kernel) (pa_cons (pv 0) pa_nil)) pe_int (nomark _)) (pss_one (ps_ret pe_int)) pss_nil)
        (pss_cons (ps_set (i := 1) scdeterminant_of.nd rfl (by first | exact Or.inl rfl | exact Or.inr rfl) (pe_callTy (r := rLstOf K) (by exact q_lstOf) (by rfl) B.b_list (by decide +kernel) (pa_cons (pv 0) pa_nil)))
        (pss_cons (ps_set (i := 2) scdeterminant_of.nd rfl (by first | exact Or.inl rfl | exact Or.inr rfl) pe_int)
        (pss_cons (ps_set (i := 3) scdeterminant_of.nd rfl (by first | exact Or.inl rfl | exact Or.inr rfl) pe_int)
        (pss_cons (ps_while PassesOwn.never (pt_cmpR op_gt (pe_callB (r := rLenQ K) (by exact q_lenQ) (by rfl) B.b_len (by decide +kernel) (pa_cons (pv 1) pa_nil)) pe_int (nomark _)) (pss_cons (ps_set (i := 4) scdeterminant_of.nd rfl (by first | exact Or.inl rfl | exact Or.inr rfl) (qc c_row_with hq hr_row_with (by rfl) (pa_cons (pv 1) (pa_cons pe_int (pa_cons pe_int pa_nil)))))
        (pss_cons (ps_if (pt_cmpR op_isN (pv 4) pe_non (nomark _)) (pss_one (ps_ret pe_int)) pss_nil)
        (pss_cons (ps_if (pt_cmpR op_gt (pv 4) pe_int (nomark _)) (pss_cons (ps_expr (qc c_swap hq hr_swap (by rfl) (pa_cons (pv 1) (pa_cons pe_int (pa_cons (pv 4) pa_nil)))))
        (pss_one (ps_set (i := 2) scdeterminant_of.nd rfl (by first | exact Or.inl rfl | exact Or.inr rfl) (pe_un un_neg (pv 2))))) pss_nil)
        (pss_cons (ps_asg (pe_ix (r := rIxL K) (by exact ix_list) (pv 1) pe_int (fun _ _ => rfl)) (pg_star (by rfl) (pgs_cons (pg_name (i := 5) scdeterminant_of.nd rfl (by first | exact Or.inl rfl | exact Or.inr rfl)) (pgs_cons (pg_name (i := 6) scdeterminant_of.nd rfl (by first | exact Or.inl rfl | exact Or.inr rfl)) pgs_nil))))
        (pss_cons (ps_setLc (i := 1) (own := [("row", 7)]) (g := gName 7) (tt := tYes) (by rfl) scdeterminant_of.nd rfl rfl (sw_true rfl rfl rfl (by decide +kernel)) (pi_list (pe_slice (r := rSlL K) (by exact sl_list) (pv 1) (po_some pe_int) po_none)) (blkOk_by (own := [("row", 7)]) (N := ["table", "left", "sign", "scale", "at", "lead", "above", "row"]) (sc := defScope sdeterminant_of) (by decide +kernel)) (fun _ _ _ _ _ => (pg_name (i := 7) scdeterminant_of.nd rfl (by first | exact Or.inl rfl | exact Or.inr rfl))) (fun _ _ _ _ _ => pts_nil) (fun _ _ _ _ _ => (qc c_combined hq hr_combined (by rfl) (pa_cons (pe_ix (r := rIx K) (by exact ix_seq) (pv 7) pe_int (fun _ _ => rfl)) (pa_cons (pe_slice (r := rSlE K) (by exact sl_any) (pv 7) (po_some pe_int) po_none) (pa_cons (pv 5) (pa_cons (pv 6) (pa_cons (pv 3) pa_nil))))))))
        (pss_one (ps_set (i := 3) scdeterminant_of.nd rfl (by first | exact Or.inl rfl | exact Or.inr rfl) (pv 5)))))))))
        (pss_one (ps_ret (pe_op op_mul (pv 2) (pe_ix (r := rIx K) (by exact ix_seq) (pe_ix (r := rIxL K) (by exact ix_list) (pv 1) pe_int (fun _ _ => rfl)) pe_int (fun _ _ => rfl)))))))))), ?_⟩
    obtain ⟨p, n, M, rfl, ⟨rs, h1, h2, h3⟩, hsq, hn, k⟩ := h
    rw [hsq.lap_mi] at k
    have hlen := hsq.len
    have hbd := at2_bd hsq
    refine rd_at [some (.ref p), none, none, none, none, none, none, none] rfl ?_
    walk_at "rd"
    refine rd_lenT (SqT.of h1) ?_
    walk_at "rd"
    rw [List.length_map]
    refine rd_ite (fun h0 => ?_) (fun h0 => ?_)
    · walk_at "rd"
      have n0 : n = 0 := by omega
      subst n0
      have e := Alg.mi0 (at2 M)
      have k2 := k H (Same.refl H)
      rw [List.range_zero, e] at k2
      exact k2
    have n1 : 0 < n := by omega
    walk_at "rd"
    refine ⟨p, _, rfl, Or.inr (SqT.of h1), fun l0 hl0 => ?_⟩
    walk_at "rd"
    have RW0 : RW (upd H l0 (.lst (rs.map V.ref))) l0 M := ⟨rs, upd_same, h2, fun i r row e1 e2 => Or.inr (up_old hl0 (h3 i r row e1 e2))⟩
    refine ⟨fun m σ' H' => ∃ (l : Addr) (q : Nat) (sign scale : Int) (L : List (List Int)) (done rest : List Nat) (v4 v5 v6 : Option V), σ' = [some (.ref p), some (.ref l), some (.int sign), some (.int scale), v4, v5, v6, none] ∧ Same H H' ∧ H l = none ∧ RW H' l L ∧ L.length = m ∧ 0 < m ∧ q + m = n ∧ (∀ r ∈ L, r.length = m) ∧ Alg.St (at2 M) n q (Lf q L) sign scale done rest,
      ⟨n, l0, 0, 1, 1, M, [], List.range n, none, none, none, rfl, same_up hl0 (Same.refl H), hl0, RW0, hlen, n1, by omega, hsq.sq, Alg.St.start (fun i j _ _ => by
        have := Lf_at (k := 0) (L := M) i j
        rwa [Nat.zero_add, Nat.zero_add] at this)⟩, ?_⟩
    rintro m _ H3 ⟨l, q, sign, scale, L, done, rest, v4, v5, v6, rfl, s3, hl, hRW, hLm, hm0, hqm, hLw, st⟩
    obtain ⟨us, u1, u2, u3⟩ := id hRW
    have hdn := st.hd
    have hrn := st.hr
    have self := RW.self u1 u2 u3
    have ebd : ∀ t u, t < m → u < m → (at2 L t u).natAbs < 2 ^ 1100 := fun t u ht hu => by
      have e := st.ent t _ (List.getElem?_eq_getElem (by omega)) (q + u) (by omega) (by omega)
      rw [Lf_at] at e
      rw [e]
      exact mi_bd hbd (by rw [List.length_append]; show done.length + 1 ≤ 5; omega) (by rw [List.length_append, List.length_range]; show q + 1 ≤ 5; omega)
    have sc : scale.natAbs < 2 ^ 1100 := by
      rw [st.hs]
      exact mi_bd hbd (by omega) (by rw [List.length_range]; omega)
    walk_at "rd"
    refine rd_lenL (SqL.of u1) ?_
    walk_at "rd"
    rw [List.length_map]
    refine rd_ite (fun hgt => ?_) (fun hgt => ?_)
    · refine ⟨fun σ' H' => ∃ (l : Addr) (q : Nat) (sign scale : Int) (L : List (List Int)) (done rest : List Nat) (v4 v5 v6 : Option V), σ' = [some (.ref p), some (.ref l), some (.int sign), some (.int scale), v4, v5, v6, none] ∧ Same H H' ∧ H l = none ∧ RW H' l L ∧ L.length = m - 1 ∧ 0 < m - 1 ∧ q + (m - 1) = n ∧ (∀ r ∈ L, r.length = m - 1) ∧ Alg.St (at2 M) n q (Lf q L) sign scale done rest, fun σ' H' w => ⟨m - 1, by omega, w⟩, ?_⟩
      walk_at "rd"
      refine ⟨l, 0, 0, m, L, rfl, hRW, by omega, by omega, hLw, hm0, fun i hi1 hi2 hne hbefore => ?_, fun hz => ?_⟩
      · walk_at "rd"
        refine ⟨rfl, ?_⟩
        walk_at "rd"
        refine rd_ite (fun e => nomatch e) (fun _ => ?_)
        refine rd_next ?_
        with_reducible refine rd_seq ?_
        refine (rd_withS (fun σ1 H1 => ∃ (sign' : Int) (L' : List (List Int)) (rest' : List Nat) (v4 : Option V), σ1 = [some (.ref p), some (.ref l), some (.int sign'), some (.int scale), v4, v5, v6, none] ∧ Same H H1 ∧ RW H1 l L' ∧ L'.length = m ∧ (∀ r ∈ L', r.length = m) ∧ Alg.St (at2 M) n q (Lf q L') sign' scale done rest' ∧ at2 L' 0 0 ≠ 0 ∧ ∀ t u, t < m → u < m → (at2 L' t u).natAbs < 2 ^ 1100) (fun D' hD' _ => ?_) ?_)
        · walk_at "rd"
          refine rd_ite (fun hic => ?_) (fun hic => ?_)
          · have hi0 : 0 < i := by omega
            walk_at "rd"
            refine ⟨l, 0, i, us.map V.ref, V.ref (us[0]'(by omega)), V.ref (us[i]'(by omega)), rfl, u1, by rw [List.getElem?_map, List.getElem?_eq_getElem (by omega)]; rfl, by rw [List.getElem?_map, List.getElem?_eq_getElem (by omega)]; rfl, by rw [List.length_map]; omega, fun H4 s4 => ?_⟩
            walk_at "rd"
            have eL : ∀ a b, at2 ((L.set 0 (L.getD i [])).set i (L.getD 0 [])) a b = if a = 0 then at2 L i b else if a = i then at2 L 0 b else at2 L a b := fun a b => by
              rw [at2_set (by rw [List.length_set]; omega), at2_set (by omega)]
              by_cases z1 : a = 0
              · rw [if_neg (by omega), if_pos z1, if_pos z1]
                rfl
              · rw [if_neg z1, if_neg z1]
                rfl
            have eL2 : ∀ a b, a < n → Lf q ((L.set 0 (L.getD i [])).set i (L.getD 0 [])) a b = if a = q then Lf q L (q + i) b else if a = q + i then Lf q L q b else Lf q L a b := fun a b ha => by
              unfold Lf
              by_cases z0 : a < q
              · rw [if_pos z0, if_neg (by omega), if_neg (by omega), if_pos z0]
              · rw [if_neg z0, eL]
                by_cases z1 : a = q
                · rw [if_pos (by omega), if_pos z1, if_neg (by omega), show q + i - q = i by omega]
                · rw [if_neg (by omega), if_neg z1]
                  by_cases z2 : a = q + i
                  · rw [if_pos (by omega), if_pos z2, if_neg (by omega), Nat.sub_self]
                  · rw [if_neg (by omega), if_neg z2, if_neg z0]
            obtain ⟨rest', st'⟩ := st.swap hn (t0 := i) hi0 (by omega) eL2
            have gm : ∀ t, t < m → L.getD t [] ∈ L := fun t ht => List.mem_of_getElem? (row_at (by omega))
            refine hD' _ _ ⟨_, (L.set 0 (L.getD i [])).set i (L.getD 0 []), rest', _, rfl, fun b o e => ?_, ⟨(us.set 0 us[i]).set i us[0], by rw [upd_same, List.map_set, List.map_set], by simp [u2], fun a r w e1 e2 => ?_⟩, by simp [hLm], fun r hr => ?_, st', ?_, fun t u ht hu => ?_⟩
            · rw [upd_ne (fun z => by rw [z, hl] at e; cases e)]
              exact s4 _ _ (s3 _ _ e)
            · have key : r ∈ us ∧ (H3 r = some (.lst (w.map V.int)) ∨ H3 r = some (.tup (w.map V.int))) := by
                rw [List.getElem?_set] at e1 e2
                by_cases z1 : i = a
                · rw [if_pos z1] at e1 e2
                  simp only [List.length_set] at e1 e2
                  rw [if_pos (by omega)] at e1 e2
                  cases e1
                  cases e2
                  exact ⟨List.getElem_mem _, u3 0 _ _ (List.getElem?_eq_getElem (by omega)) (row_at (by omega))⟩
                · rw [if_neg z1] at e1 e2
                  rw [List.getElem?_set] at e1 e2
                  by_cases z2 : 0 = a
                  · rw [if_pos z2] at e1 e2
                    rw [if_pos (by omega)] at e1 e2
                    cases e1
                    cases e2
                    exact ⟨List.getElem_mem _, u3 i _ _ (List.getElem?_eq_getElem (by omega)) (row_at (by omega))⟩
                  · rw [if_neg z2] at e1 e2
                    exact ⟨List.mem_of_getElem? e1, u3 a r w e1 e2⟩
              exact key.2.imp (fun g => up_oth (fun z => self (z ▸ key.1)) (s4 _ _ g)) (fun g => up_oth (fun z => self (z ▸ key.1)) (s4 _ _ g))
            · rcases List.mem_or_eq_of_mem_set hr with hr | rfl
              · rcases List.mem_or_eq_of_mem_set hr with hr | rfl
                · exact hLw r hr
                · exact hLw _ (gm i (by omega))
              · exact hLw _ (gm 0 (by omega))
            · rw [eL 0 0, if_pos rfl]
              exact hne
            · rw [eL]
              split
              · exact ebd _ _ (by omega) hu
              · split
                · exact ebd _ _ (by omega) hu
                · exact ebd _ _ ht hu
          · have hi0 : i = 0 := by omega
            refine rd_next (hD' _ _ ⟨sign, L, rest, _, rfl, s3, hRW, hLm, hLw, st, by rw [← hi0] at hne ⊢; exact hne, ebd⟩)
        · rintro _ H4 ⟨sign', L', rest', v4', rfl, s4, hRW4, hLm4, hLw4, st4, piv, ebd4⟩
          obtain ⟨ws, w1, w2, w3⟩ := id hRW4
          obtain ⟨row0, R, rfl⟩ : ∃ r0 R, L' = r0 :: R := by
            cases L' with
            | nil => exact absurd hm0 (by rw [← hLm4]; exact Nat.lt_irrefl 0)
            | cons r0 R => exact ⟨r0, R, rfl⟩
          obtain ⟨c0, cs, rfl, hcs⟩ : ∃ c0 cs, ws = c0 :: cs ∧ cs.length = R.length := by
            cases ws with
            | nil => cases w2
            | cons c0 cs => exact ⟨c0, cs, rfl, Nat.succ.inj w2⟩
          have hr0 := hLw4 row0 List.mem_cons_self
          obtain ⟨x, xs, rfl⟩ : ∃ x xs, row0 = x :: xs := by
            cases row0 with
            | nil => exact absurd hm0 (by rw [← hr0]; exact Nat.lt_irrefl 0)
            | cons x xs => exact ⟨x, xs, rfl⟩
          have hRl : R.length = m - 1 := by
            rw [List.length_cons] at hLm4
            omega
          have hxs : xs.length = m - 1 := by
            rw [List.length_cons] at hr0
            omega
          have hRw : ∀ r ∈ R, r.length = (m - 1) + 1 := fun r hr => by
            have := hLw4 r (List.mem_cons_of_mem _ hr)
            omega
          have c0r := w3 0 c0 (x :: xs) rfl rfl
          walk_at "rd"
          refine rd_ixL (v := .ref c0) (SqL.of w1) (at_nat (j := 0) rfl) ?_
          refine ⟨c0, .int x, xs.map V.int, rfl, c0r.imp (fun g => SqL.of g) (fun g => SqT.of g), fun D5 hD5 => ?_⟩
          refine ⟨.int x, [.ref D5], rfl, ?_⟩
          walk_at "rd"
          refine ⟨.ref D5, [], rfl, ?_⟩
          walk_at "rd"
          refine ⟨rfl, ?_⟩
          have o5 : Same H4 (upd H4 D5 (.lst (xs.map V.int))) := fun b o e => up_old hD5 e
          have d5 : (upd H4 D5 (.lst (xs.map V.int))) D5 = some (.lst (xs.map V.int)) := upd_same
          generalize upd H4 D5 (.lst (xs.map V.int)) = H5 at o5 d5 ⊢
          walk_at "rd"
          refine rd_slL (SqL.of (o5 _ _ w1)) (fun q1 hq1 => ?_)
          rw [cut_drop1, show ((c0 :: cs).map V.ref).drop 1 = cs.map V.ref from rfl]
          walk_at "rd"
          refine ⟨⟨_, SqL.of upd_same⟩, ?_⟩
          have o6 : Same H5 (upd H5 q1 (.lst (cs.map V.ref))) := fun b o e => up_old hq1 e
          intro E1 hE1
          refine lc_made (n := (cs.map V.ref).length) (wk_list .non) (by rw [List.length_map]; omega) hE1 (fun H' s' => SqL.of (s' _ _ upd_same)) (fun j v H' => ∃ t row, v = V.ref t ∧ t ≠ E1 ∧ R[j]? = some row ∧ H' t = some (.lst ((comb (row.getD 0 0) (row.drop 1) x xs scale).map V.int))) (fun j v H2 H3 b ⟨t, row, e, ne, em, et⟩ => ⟨t, row, e, ne, em, b _ _ ne et⟩) ?_ ?_
          · intro j hj H6 o s6 ho R1 kk
            rw [List.length_map] at hj
            have ej : (cs.map V.ref).getD j .non = V.ref cs[j] := by rw [List.getD_eq_getElem?_getD, List.getElem?_map, List.getElem?_eq_getElem hj]; rfl
            have hjR : j < R.length := by omega
            have s46 := (o5.trans o6).trans s6
            have hrow := (w3 (j + 1) cs[j] R[j] (by rw [List.getElem?_cons_succ]; exact List.getElem?_eq_getElem hj) (by rw [List.getElem?_cons_succ]; exact List.getElem?_eq_getElem hjR)).imp (s46 _ _) (s46 _ _)
            have rw_ := hRw _ (List.getElem_mem hjR)
            have hat : atI (R[j].map V.int) ((0 : Nat) : Int) = some (V.int (R[j].getD 0 0)) := int_at (by omega)
            have rowb : ∀ y ∈ R[j], y.natAbs < 2 ^ 2000 := fun y hy => by
              obtain ⟨u, hu⟩ := List.getElem?_of_mem hy
              have hu2 := (List.getElem?_eq_some_iff.mp hu).1
              have e := ebd4 (j + 1) u (by omega) (by omega)
              have e2 : at2 ((x :: xs) :: R) (j + 1) u = y := by
                show (R.getD j []).getD u 0 = y
                rw [row_eq (List.getElem?_eq_getElem hjR), List.getD_eq_getElem?_getD, hu]
                rfl
              rw [e2] at e
              exact lt2000 e
            have xb : x.natAbs < 2 ^ 2000 := lt2000 (ebd4 0 0 hm0 hm0)
            have xsb : ∀ y ∈ xs, y.natAbs < 2 ^ 2000 := fun y hy => by
              obtain ⟨u, hu⟩ := List.getElem?_of_mem hy
              have hu2 := (List.getElem?_eq_some_iff.mp hu).1
              have e := ebd4 0 (u + 1) hm0 (by omega)
              have e2 : at2 ((x :: xs) :: R) 0 (u + 1) = y := by
                show xs.getD u 0 = y
                rw [List.getD_eq_getElem?_getD, hu]
                rfl
              rw [e2] at e
              exact lt2000 e
            have fb : (R[j].getD 0 0).natAbs < 2 ^ 2000 := rowb _ (mem_get (by omega))
            have dropb : ∀ y ∈ R[j].drop 1, y.natAbs < 2 ^ 2000 := fun y hy => rowb y (List.mem_of_mem_drop hy)
            have dl : (R[j].drop 1).length = xs.length := by
              rw [List.length_drop]
              omega
            have fin : ∀ (k1 : Bool) (a1 : Addr) (H7 : Hp), Same H6 H7 → Kq K H7 k1 a1 ((R[j].drop 1).map V.int) → spComb K [V.int (R[j].getD 0 0), .ref a1, .int x, .ref D5, .int scale] H7 (fun v H' => R1 v H') E0 := fun k1 a1 H7 s7 ha1 =>
              ⟨k1, true, a1, D5, R[j].getD 0 0, x, scale, R[j].drop 1, xs, rfl, ⟨ha1, SqL.of (s7 _ _ (s6 _ _ (o6 _ _ d5)))⟩, dl, by omega, ⟨st4.nz, log9000 sc⟩, ⟨fb, xb⟩, dropb, xsb, fun H8 t ht s8 hLi => kk _ _ (s7.trans s8) ⟨t, R[j], rfl, fun z => (by rw [z, s7 _ _ ho] at ht; cases ht), List.getElem?_eq_getElem hjR, hLi⟩⟩
            rw [ej]
            walk_at "rd"
            refine rd_ixA (hrow.elim (fun g => Or.inl (rd_ixL (SqL.of g) hat ?_)) (fun g => Or.inr (Or.inl (rd_ixT (SqT.of g) hat ?_))))
            · walk_at "rd"
              refine Or.inl (rd_slL (SqL.of g) (fun a1 ha1 => ?_))
              rw [cut_drop1, ← List.map_drop]
              walk_at "rd"
              exact fin true a1 _ (fun b o e => up_old ha1 e) (SqL.of upd_same)
            · walk_at "rd"
              refine Or.inr (rd_slA1 g (fun a1 H7 s7 ha1 => ?_))
              rw [← List.map_drop] at ha1
              walk_at "rd"
              exact fin false a1 _ s7 (SqT.of ha1)
          intro ys H6 s6 hy hP hl6
          obtain ⟨ts, rfl⟩ := refs_of (fun j v e => by
            obtain ⟨t, _, e2, _⟩ := hP j v e
            exact ⟨t, e2⟩)
          rw [List.length_map, List.length_map] at hy
          have s46 := (o5.trans o6).trans s6
          have hE4 : H4 E1 = none := (o5.trans o6).free hE1
          have stp : ∀ i j, q < i → i < n → q < j → j < n → Lf (q + 1) (nxt x xs scale R) i j = (Lf q ((x :: xs) :: R) q q * Lf q ((x :: xs) :: R) i j - Lf q ((x :: xs) :: R) i q * Lf q ((x :: xs) :: R) q j).fdiv scale := fun i j h1 h2 h3 h4 => by
            obtain ⟨t, rfl⟩ : ∃ t, i = q + 1 + t := ⟨i - q - 1, by omega⟩
            obtain ⟨u, rfl⟩ : ∃ u, j = q + 1 + u := ⟨j - q - 1, by omega⟩
            have f0 : Lf q ((x :: xs) :: R) q q = at2 ((x :: xs) :: R) 0 0 := Lf_at (k := q) (L := (x :: xs) :: R) 0 0
            have f1 := Lf_at (k := q) (L := (x :: xs) :: R) (t + 1) (u + 1)
            have f2 : Lf q ((x :: xs) :: R) (q + (t + 1)) q = at2 ((x :: xs) :: R) (t + 1) 0 := Lf_at (k := q) (L := (x :: xs) :: R) (t + 1) 0
            have f3 : Lf q ((x :: xs) :: R) q (q + (u + 1)) = at2 ((x :: xs) :: R) 0 (u + 1) := Lf_at (k := q) (L := (x :: xs) :: R) 0 (u + 1)
            have a1 : q + 1 + t = q + (t + 1) := by omega
            have a2 : q + 1 + u = q + (u + 1) := by omega
            rw [Lf_at (k := q + 1), at2_nxt hRl hRw (by omega) (by omega), a1, a2, f1]
            rw [f0, f2, f3]
            rfl
          obtain ⟨done', rest2, st5⟩ := st4.step (by omega) hn (by
            have f0 := Lf_at (k := q) (L := (x :: xs) :: R) 0 0
            rw [Nat.add_zero] at f0
            rw [f0]
            exact piv) stp
          have ex : Lf q ((x :: xs) :: R) q q = x := by
            have f0 := Lf_at (k := q) (L := (x :: xs) :: R) 0 0
            rw [Nat.add_zero] at f0
            exact f0
          rw [ex] at st5
          walk_at "rd"
          refine ⟨E1, q + 1, sign', x, nxt x xs scale R, done', rest2, _, _, _, rfl, s4.trans s46, s4.free hE4, ⟨ts, hl6, by unfold nxt; rw [List.length_map]; omega, fun u r row e1 e2 => Or.inl ?_⟩, by unfold nxt; rw [List.length_map]; exact hRl, by omega, by omega, nxt_wide hRw, st5⟩
          obtain ⟨t, row', e, _, em, et⟩ := hP u (V.ref r) (by rw [List.getElem?_map, e1]; rfl)
          cases e
          unfold nxt at e2
          rw [List.getElem?_map, em] at e2
          cases e2
          exact et
      · walk_at "rd"
        refine ⟨rfl, ?_⟩
        walk_at "rd"
        refine rd_ite (fun _ => ?_) (fun e => absurd rfl e)
        walk_at "rd"
        have e0 := st.none (by omega) hn (fun i h1 h2 => by
          obtain ⟨t, rfl⟩ : ∃ t, i = q + t := ⟨i - q, by omega⟩
          have f := Lf_at (k := q) (L := L) t 0
          rw [Nat.add_zero] at f
          rw [f]
          exact hz t (by omega) (by omega))
        rw [e0] at k
        exact k H3 s3
    · have m1 : m = 1 := by omega
      subst m1
      have e := st.ent 0 _ (List.getElem?_eq_getElem (by omega)) q (Nat.le_refl q) (by omega)
      have f := Lf_at (k := q) (L := L) 0 0
      rw [Nat.add_zero] at f e
      rw [f] at e
      have er : rest = [rest[0]'(by omega)] := by
        cases rest with
        | nil => exact absurd hrn (by rw [List.length_nil]; omega)
        | cons a r =>
          cases r with
          | nil => rfl
          | cons b r => exact absurd hrn (by rw [List.length_cons, List.length_cons]; omega)
      have rn : List.range q ++ [q] = List.range n := by
        rw [← hqm, List.range_succ]
      have d := st.det
      rw [rn] at e
      rw [er, ← e] at d
      have u0 := u3 0 (us[0]'(by omega)) (L.getD 0 []) (List.getElem?_eq_getElem (by omega)) (row_at (by omega))
      have hat : atI ((L.getD 0 []).map V.int) ((0 : Nat) : Int) = some (V.int ((L.getD 0 []).getD 0 0)) := int_at (by rw [hLw _ (List.mem_of_getElem? (row_at (by omega)))]; exact Nat.one_pos)
      walk_at "rd"
      refine rd_ixL (SqL.of u1) (ref_at (i := 0) (List.getElem?_eq_getElem (by omega))) ?_
      walk_at "rd"
      have both : ∀ {Q : VK}, Q (V.int ((L.getD 0 []).getD 0 0)) H3 → (rIxL K (V.ref (us[0]'(by omega))) (V.int ((0 : Nat) : Int)) H3 Q ∨ rIxT K (V.ref (us[0]'(by omega))) (V.int ((0 : Nat) : Int)) H3 Q ∨ rIxS (V.ref (us[0]'(by omega))) (V.int ((0 : Nat) : Int)) H3 Q) := fun q => u0.elim (fun g => Or.inl (rd_ixL (SqL.of g) hat q)) (fun g => Or.inr (Or.inl (rd_ixT (SqT.of g) hat q)))
      refine rd_ixA (both ?_)
      refine rd_mul (by rcases st.sg with q | q <;> rw [q] <;> exact mul_lit ⟨by decide, by decide⟩) ?_
      have d2 : sign * (L.getD 0 []).getD 0 0 = Alg.mi (at2 M) (List.range n) (List.range n) := d
      rw [d2]
      exact k H3 s3
end
section
variable {P : Program} {w : World} {K : PySem.W.Frag} {mg : Str → Option Value} {base : Heap}
theorem ok_without_square (B : Bi mg) (D : DefAt K mg "_without_square" s_without_square ["left", "top", "scale"]) (c_combined : Cal P w K mg base "_combined" 1 ["factor", "row", "lead", "above", "scale"] (spComb K)) : Cal P w K mg base "_without_square" 2 ["left", "top", "scale"] (spWo) := by
  refine cal_of D sc_without_square (fun vs H Q E h => ?_) (fun f cdv A outer s H vs Q E hq hr h => ?_)
  · obtain ⟨_, p, top, m, s, L, rfl, _⟩ := h; rfl
  · have hu := hr.units
    replace hq := Quiet.deeper hq (envOfC "_without_square" (defScope s_without_square) s.heap.objs.size f cdv)
    have hr_combined := hr.mono (show 1 ≤ 1 by decide)
    skip
    refine ⟨_, (pss_cons (ps_set (i := 3) sc_without_square.nd rfl (by first | exact Or.inl rfl | exact Or.inr rfl) (pe_bm PySem.F.plainAttrs_list PySem.F.slot_list_pop PySem.F.type_list_pop mt_popAt (pv 0) (pa_cons (pv 1) pa_nil)))
        (pss_cons (ps_set (i := 4) sc_without_square.nd rfl (by first | exact Or.inl rfl | exact Or.inr rfl) (pe_bm PySem.F.plainAttrs_list PySem.F.slot_list_pop PySem.F.type_list_pop mt_popAt (pv 3) (pa_cons (pv 1) pa_nil)))
        (pss_cons (ps_set (i := 5) sc_without_square.nd rfl (by first | exact Or.inl rfl | exact Or.inr rfl) (pe_lst pa_nil))
        (pss_cons (ps_for PassesOwn.never (by rfl) (pi_list (pv 0)) (pg_name (i := 6) sc_without_square.nd rfl (by first | exact Or.inl rfl | exact Or.inr rfl)) (pss_cons (ps_set (i := 7) sc_without_square.nd rfl (by first | exact Or.inl rfl | exact Or.inr rfl) (pe_bm PySem.F.plainAttrs_list PySem.F.slot_list_pop PySem.F.type_list_pop mt_popAt (pv 6) (pa_cons (pv 1) pa_nil)))
        (pss_one (ps_expr (pe_bm PySem.F.plainAttrs_list PySem.F.slot_list_append PySem.F.type_list_append mt_append (pv 5) (pa_cons (qc c_combined hq hr_combined (by rfl) (pa_cons (pv 7) (pa_cons (pv 6) (pa_cons (pv 4) (pa_cons (pv 3) (pa_cons (pv 2) pa_nil)))))) pa_nil))))))
        (pss_one (ps_ret (pv 5))))))), ?_⟩
    obtain ⟨H0, p, top, m, s, L, rfl, h0, hLf, ⟨hm, hw, h5, ht⟩, ⟨hs0, hs9⟩, hb, k⟩ := h
    refine rd_at [some (.ref p), some (.int (top : Int)), some (.int s), none, none, none, none, none] rfl ?_
    obtain ⟨rs, g1, g2, gn, f1, f2, g3⟩ := id hLf
    have np : p ∉ rs := LL.self g1 g2 g3
    have rl : rs.length = m := by omega
    have rowl : ∀ t, t < m → (L.getD t []).length = m := fun t h => hw _ (List.mem_of_getElem? (row_at (by omega)))
    have rowm : ∀ t, t < m → L.getD t [] ∈ L := fun t h => List.mem_of_getElem? (row_at (by omega))
    obtain ⟨ra, ea⟩ : ∃ ra, rs[top]? = some ra := ⟨_, List.getElem?_eq_getElem (by omega)⟩
    have ma := List.mem_of_getElem? ea
    have nap : ra ≠ p := fun z => np (z ▸ ma)
    have hra := g3 top ra _ ea (row_at (by omega))
    walk_at "rd"
    refine rd_BM ?_
    walk_at "rd"
    refine rd_tyL g1 ?_
    walk_at "rd"
    refine ⟨p, rs.map V.ref, (top : Int), top, V.ref ra, rfl, rfl, g1, by omega, by omega, seq_nat (by rw [List.length_map]; omega), by rw [List.getElem?_map, ea]; rfl, ?_⟩
    walk_at "rd"
    have hra1 : (upd H p (.lst ((rs.map V.ref).eraseIdx top))) ra = some (.lst ((L.getD top []).map V.int)) := up_oth nap hra
    refine rd_BM ?_
    walk_at "rd"
    refine rd_tyL hra1 ?_
    walk_at "rd"
    refine ⟨ra, (L.getD top []).map V.int, (top : Int), top, V.int ((L.getD top []).getD top 0), rfl, rfl, hra1, by omega, by omega, seq_nat (by rw [List.length_map, rowl top ht]; exact ht), int_q (by rw [rowl top ht]; exact ht), ?_⟩
    walk_at "rd"
    intro E hE
    walk_at "rd"
    rw [erase_map, erase_map] at hE ⊢
    have liv2 : ∀ b, H b ≠ none → (upd (upd H p (.lst ((rs.eraseIdx top).map V.ref))) ra (.lst (((L.getD top []).eraseIdx top).map V.int))) b ≠ none := fun b hb => upd_live (upd_live hb)
    have nE : ∀ b, H b ≠ none → E ≠ b := fun b hb z => liv2 b hb (z ▸ hE)
    have liv3 : ∀ b, H b ≠ none → (upd (upd (upd H p (.lst ((rs.eraseIdx top).map V.ref))) ra (.lst (((L.getD top []).eraseIdx top).map V.int))) E (.lst [])) b ≠ none := fun b hb => upd_live (liv2 b hb)
    have pl : H p ≠ none := by rw [g1]; exact fun z => nomatch z
    have ral : H ra ≠ none := by rw [hra]; exact fun z => nomatch z
    have k1 : (upd (upd (upd H p (.lst ((rs.eraseIdx top).map V.ref))) ra (.lst (((L.getD top []).eraseIdx top).map V.int))) E (.lst [])) p = some (.lst ((rs.eraseIdx top).map V.ref)) := up_old hE (up_oth (Ne.symm nap) upd_same)
    have k2 : (upd (upd (upd H p (.lst ((rs.eraseIdx top).map V.ref))) ra (.lst (((L.getD top []).eraseIdx top).map V.int))) E (.lst [])) ra = some (.lst (((L.getD top []).eraseIdx top).map V.int)) := up_old hE upd_same
    have k3 : (upd (upd (upd H p (.lst ((rs.eraseIdx top).map V.ref))) ra (.lst (((L.getD top []).eraseIdx top).map V.int))) E (.lst [])) E = some (.lst []) := upd_same
    have k4 : ∀ b o, H b = some o → b ≠ p → b ≠ ra → (upd (upd (upd H p (.lst ((rs.eraseIdx top).map V.ref))) ra (.lst (((L.getD top []).eraseIdx top).map V.int))) E (.lst [])) b = some o := fun b o e n1 n2 => up_old hE (up_oth n2 (up_oth n1 e))
    generalize (upd (upd (upd H p (.lst ((rs.eraseIdx top).map V.ref))) ra (.lst (((L.getD top []).eraseIdx top).map V.int))) E (.lst [])) = H3 at liv3 k1 k2 k3 k4 ⊢
    have hEn : H E = none := by
      cases e : H E with
      | none => rfl
      | some o => exact absurd rfl (nE E (by rw [e]; exact fun z => nomatch z))
    have sk : ∀ j, j < m - 1 → skp top j < m ∧ skp top j ≠ top := fun j h => by unfold skp; split <;> omega
    have el : (rs.eraseIdx top).length = m - 1 := by rw [List.length_eraseIdx, if_pos (by omega), rl]
    have nodup := gn.sublist (List.eraseIdx_sublist rs top)
    have sub : ∀ r, r ∈ rs.eraseIdx top → r ∈ rs := fun r hr => (List.eraseIdx_sublist rs top).subset hr
    have nra : ra ∉ rs.eraseIdx top := fun hm2 => by
      obtain ⟨j, hj⟩ := List.getElem?_of_mem hm2
      have hj2 := (List.getElem?_eq_some_iff.mp hj).1
      rw [erase_at] at hj
      have sj := sk j (by omega)
      have q := (List.getElem?_inj (by omega) gn).mp (hj.trans ea.symm)
      exact (sk j (by omega)).2 q
    refine ⟨⟨_, SqL.of k1⟩, ?_⟩
    refine for_list (K := K) (a := p) (xs := (rs.eraseIdx top).map V.ref) (fun i σ' H' => ∃ (Ls : List (List Int)) (v6 v7 : Option V), σ' = [some (.ref p), some (.int (top : Int)), some (.int s), some (.ref ra), some (.int ((L.getD top []).getD top 0)), some (.ref E), v6, v7] ∧
        (H' p = some (.lst ((rs.eraseIdx top).map V.ref)) ∧ H' ra = some (.lst (((L.getD top []).eraseIdx top).map V.int)) ∧ (∀ j r, i ≤ j → (rs.eraseIdx top)[j]? = some r → H' r = some (.lst ((L.getD (skp top j) []).map V.int)))) ∧
        (∀ b, H b ≠ none → H' b ≠ none) ∧ (∀ b o, H b = some o → b ≠ p → b ∉ rs → H' b = some o) ∧ LLf H H' E Ls ∧ Ls.length = i ∧ (∀ r ∈ Ls, r.length = m - 1) ∧
        (∀ t u, t < i → u < m - 1 → at2 Ls t u = (at2 L top top * at2 L (skp top t) (skp top u) - at2 L (skp top t) top * at2 L top (skp top u)).fdiv s))
      ⟨[], none, none, rfl, ⟨k1, k2, fun j r _ hj => by
        have hr := sub r (List.mem_of_getElem? hj)
        rw [erase_at] at hj
        have hj2 := (List.getElem?_eq_some_iff.mp hj).1
        refine k4 _ _ (g3 _ r _ hj (row_at (by omega))) (fun z => np (z ▸ hr)) (fun z => ?_)
        exact nra (z ▸ List.mem_of_getElem? (by rw [erase_at]; exact hj))⟩, liv3, fun b o e n1 n2 => k4 b o e n1 (fun z => n2 (z ▸ ma)), ⟨[], k3, rfl, List.nodup_nil, hEn, (fun _ z => nomatch z), fun i r w e => by cases e⟩, rfl, (fun _ z => nomatch z), fun t u h => absurd h (by omega)⟩ ?_ ?_ ?_
    · rintro i _ H' _ ⟨Ls, v6, v7, rfl, ⟨q1, _⟩, _⟩
      exact SqL.of q1
    · rintro i x _ H5 hx ⟨Ls, v6, v7, rfl, ⟨q1, q2, q3⟩, liv5, fr5, hLs, hn5, hw5, hent⟩
      obtain ⟨r, hr, rfl⟩ : ∃ r, (rs.eraseIdx top)[i]? = some r ∧ x = .ref r := by
        rw [List.getElem?_map] at hx
        cases e : (rs.eraseIdx top)[i]? with
        | none => rw [e] at hx; cases hx
        | some r => rw [e] at hx; exact ⟨r, rfl, (Option.some.inj hx).symm⟩
      have hi : i < m - 1 := by
        have := (List.getElem?_eq_some_iff.mp hr).1
        omega
      obtain ⟨s1, s2⟩ := sk i hi
      have mr := List.mem_of_getElem? hr
      have mrs := sub r mr
      have nrp : r ≠ p := fun z => np (z ▸ mrs)
      have nrra : r ≠ ra := fun z => nra (z ▸ mr)
      have hrow := q3 i r (Nat.le_refl i) hr
      have rli : H r ≠ none := by
        have hr2 := hr
        rw [erase_at] at hr2
        have e := g3 _ r _ hr2 (row_at (by omega))
        unfold Li at e
        rw [e]
        exact fun z => nomatch z
      have nrE : r ≠ E := fun z => rli (z ▸ hEn)
      have lr := rowl _ s1
      walk_at "rd"
      refine rd_BM ?_
      walk_at "rd"
      refine rd_tyL hrow ?_
      walk_at "rd"
      refine ⟨r, (L.getD (skp top i) []).map V.int, (top : Int), top, V.int ((L.getD (skp top i) []).getD top 0), rfl, rfl, hrow, by omega, by omega, seq_nat (by rw [List.length_map, lr]; exact ht), int_q (by rw [lr]; exact ht), ?_⟩
      rw [erase_map]
      have u1 : (upd H5 r (.lst (((L.getD (skp top i) []).eraseIdx top).map V.int))) p = some (.lst ((rs.eraseIdx top).map V.ref)) := up_oth (Ne.symm nrp) q1
      have u2 : (upd H5 r (.lst (((L.getD (skp top i) []).eraseIdx top).map V.int))) ra = some (.lst (((L.getD top []).eraseIdx top).map V.int)) := up_oth (Ne.symm nrra) q2
      have u3 : (upd H5 r (.lst (((L.getD (skp top i) []).eraseIdx top).map V.int))) r = some (.lst (((L.getD (skp top i) []).eraseIdx top).map V.int)) := upd_same
      have u4 : ∀ j r2, i + 1 ≤ j → (rs.eraseIdx top)[j]? = some r2 → (upd H5 r (.lst (((L.getD (skp top i) []).eraseIdx top).map V.int))) r2 = some (.lst ((L.getD (skp top j) []).map V.int)) := fun j r2 hj h2 => by
        refine up_oth (fun z => ?_) (q3 j r2 (by omega) h2)
        have hj2 := (List.getElem?_eq_some_iff.mp h2).1
        have := (List.getElem?_inj hj2 nodup).mp (h2.trans (z ▸ hr.symm))
        omega
      have u5 : ∀ b, H b ≠ none → (upd H5 r (.lst (((L.getD (skp top i) []).eraseIdx top).map V.int))) b ≠ none := fun b hb => upd_live (liv5 b hb)
      have u6 : ∀ b o, H b = some o → b ≠ p → b ∉ rs → (upd H5 r (.lst (((L.getD (skp top i) []).eraseIdx top).map V.int))) b = some o := fun b o e n1 n2 => up_oth (fun z => n2 (z ▸ mrs)) (fr5 b o e n1 n2)
      have u7 : LLf H (upd H5 r (.lst (((L.getD (skp top i) []).eraseIdx top).map V.int))) E Ls := by
        obtain ⟨qs, x1, x2, x3, x4, x5, x6⟩ := hLs
        refine ⟨qs, up_oth (Ne.symm nrE) x1, x2, x3, x4, x5, fun a t w e1 e2 => up_oth (fun z => ?_) (x6 a t w e1 e2)⟩
        exact rli (z ▸ x5 t (List.mem_of_getElem? e1))
      generalize (upd H5 r (.lst (((L.getD (skp top i) []).eraseIdx top).map V.int))) = H6 at u1 u2 u3 u4 u5 u6 u7 ⊢
      walk_at "rd"
      refine rd_BM ?_
      walk_at "rd"
      obtain ⟨qs0, w1, _⟩ := id u7
      refine rd_tyL w1 ?_
      walk_at "rd"
      have ler : ∀ t, t < m → ((L.getD t []).eraseIdx top).length = m - 1 := fun t h => by rw [List.length_eraseIdx, if_pos (by rw [rowl t h]; exact ht), rowl t h]
      refine ⟨true, true, r, ra, (L.getD (skp top i) []).getD top 0, (L.getD top []).getD top 0, s, (L.getD (skp top i) []).eraseIdx top, (L.getD top []).eraseIdx top, rfl, ⟨SqL.of u3, SqL.of u2⟩, by rw [ler _ s1, ler _ ht], by rw [ler _ s1]; omega, ⟨hs0, hs9⟩, ⟨hb _ (rowm _ s1) _ (mem_get (by rw [lr]; exact ht)), hb _ (rowm _ ht) _ (mem_get (by rw [rowl _ ht]; exact ht))⟩, fun y hy => hb _ (rowm _ s1) y ((List.eraseIdx_sublist _ _).subset hy), fun y hy => hb _ (rowm _ ht) y ((List.eraseIdx_sublist _ _).subset hy), fun H7 q hq s7 hLi => ?_⟩
      have u7' := u7.same s7
      have nqE : q ≠ E := fun z => by rw [z, w1] at hq; cases hq
      have hq0 : H q = none := by
        cases e : H q with
        | none => rfl
        | some o => exact absurd hq (u5 q (by rw [e]; exact fun z => nomatch z))
      obtain ⟨qs, y1, y2, y3⟩ := LLf.app (row := comb ((L.getD (skp top i) []).getD top 0) ((L.getD (skp top i) []).eraseIdx top) ((L.getD top []).getD top 0) ((L.getD top []).eraseIdx top) s) u7' hLi hq0 (fun rs2 e2 hm2 => by
        obtain ⟨qs1, z1, z2, _, _, _, z6⟩ := id u7
        have e3 := s7 _ _ z1
        rw [e3] at e2
        injection e2 with e2
        injection e2 with e2
        have e4 : qs1 = rs2 := (List.map_inj_right (fun a b h => V.ref.inj h)).mp e2
        subst e4
        obtain ⟨j, hj⟩ := List.getElem?_of_mem hm2
        have hj2 := (List.getElem?_eq_some_iff.mp hj).1
        have := z6 j q _ hj (List.getElem?_eq_getElem (by omega))
        unfold Li at this
        rw [hq] at this
        cases this) nqE
      walk_at "rd"
      refine rd_app y1 (by rw [List.length_map]; omega) ?_
      have nEp : p ≠ E := fun z => pl (z ▸ hEn)
      have nEra : ra ≠ E := fun z => ral (z ▸ hEn)
      refine ⟨_, _, _, rfl, ⟨up_oth nEp (s7 _ _ u1), up_oth nEra (s7 _ _ u2), fun j r2 hj h2 => up_oth (fun z => ?_) (s7 _ _ (u4 j r2 hj h2))⟩, fun b hb => upd_live ?_, fun b o e n1 n2 => up_oth (fun z => by rw [z, hEn] at e; cases e) (s7 _ _ (u6 b o e n1 n2)), y3, by rw [List.length_append, hn5]; rfl, fun r2 hr2 => ?_, fun t u h1 h2 => ?_⟩
      · have m2 := sub r2 (List.mem_of_getElem? h2)
        exact absurd (f2 r2 m2) (fun _ => by
          rw [erase_at] at h2
          have hj2 := (List.getElem?_eq_some_iff.mp h2).1
          have e := g3 _ r2 _ h2 (row_at (by omega))
          unfold Li at e
          rw [z, hEn] at e
          cases e)
      · cases e : H6 b with
        | none => exact absurd e (u5 b hb)
        | some o => rw [s7 b o e]; exact fun z => nomatch z
      · rcases List.mem_append.mp hr2 with y | y
        · exact hw5 r2 y
        · rw [List.mem_singleton.mp y]
          unfold comb
          rw [List.length_map, List.length_range, ler _ s1]
      · rw [at2_app]
        by_cases y : t < i
        · rw [if_pos (by omega)]
          exact hent t u y h2
        · obtain rfl : t = i := by omega
          rw [if_neg (by omega), if_pos hn5.symm]
          unfold comb
          rw [List.getD_eq_getElem?_getD, List.getElem?_map, List.getElem?_range (by rw [ler _ s1]; exact h2)]
          show (_ * ((L.getD (skp top t) []).eraseIdx top).getD u 0 - _ * ((L.getD top []).eraseIdx top).getD u 0).fdiv s = _
          rw [erase_getD, erase_getD]
          rfl
    · rintro _ H5 ⟨Ls, v6, v7, rfl, _, _, fr5, hLs, hn5, hw5, hent⟩
      rw [List.length_map, el] at hn5 hent
      walk_at "rd"
      refine k E H5 Ls (fun b o e n1 n2 => fr5 b o e n1 (n2 rs g1)) (LLf.base h0 hLs) hn5 hw5 hent
end
section
variable {P : Program} {w : World} {K : PySem.W.Frag} {mg : Str → Option Value} {base : Heap}
theorem okhas_digits (B : Bi mg) (D : DefAt K mg "has_digits" shas_digits ["number", "most"]) (c_least_longer : Cal P w K mg base "_least_longer" 1 ["digits"] (spLong)) : Cal P w K mg base "has_digits" 2 ["number", "most"] (spShort) := by
  refine cal_of D schas_digits (fun vs H Q E h => ?_) (fun f cdv A outer s H vs Q E hq hr h => ?_)
  · obtain ⟨i, rfl, _⟩ := h; rfl
  · have hu := hr.units
    replace hq := Quiet.deeper hq (envOfC "has_digits" (defScope shas_digits) s.heap.objs.size f cdv)
    have hr_least_longer := hr.mono (show 1 ≤ 1 by decide)
    skip
    refine ⟨_, (pss_one (ps_ret (pe_or (pe_cmpR op_le (pe_bits (pv 0)) (pe_op op_mul pe_int (pv 1)) (nomark _)) (pe_one (pe_cmpR op_lt (pe_callB q_abs (by rfl) B.b_abs (by decide +kernel) (pa_cons (pv 0) pa_nil)) (qc c_least_longer hq hr_least_longer (by rfl) (pa_cons (pv 1) pa_nil)) (nomark _)))))), ?_⟩
    obtain ⟨i, rfl, k⟩ := h
    refine rd_at [some (.int i), some (.int 2000)] rfl ?_
    walk_at "rd"
    refine rd_ite (fun hb => ?_) (fun hb => ?_)
    · have e : i.natAbs < 10 ^ 2000 := bits_short (by omega)
      rw [decide_eq_true e] at k
      exact k
    · walk_at "rd"
      refine ⟨2000, rfl, by omega, ?_⟩
      walk_at "rd"
      have e : ((if i < 0 then -i else i) < 10 ^ 2000) ↔ i.natAbs < 10 ^ 2000 := by
        have h1 : (if i < 0 then -i else i) = (i.natAbs : Int) := by split <;> omega
        have h2 : ((10 : Int) ^ 2000) = ((10 ^ 2000 : Nat) : Int) := by norm_cast
        rw [h1, h2, Int.ofNat_lt]
      rw [decide_eq_decide.mpr e]
      exact k
end
section
variable {P : Program} {w : World} {K : PySem.W.Frag} {mg : Str → Option Value} {base : Heap}
theorem ok_law_one_of (B : Bi mg) (D : DefAt K mg "_law_one_of" s_law_one_of ["_law_bag_here", "_law_items"]) (c_law_draw : Cal P w K mg base "_law_draw" 1 ["_law_bag_here", "_law_total"] (spDraw)) : Cal P w K mg base "_law_one_of" 2 ["_law_bag_here", "_law_items"] (spOne K) := by
  refine cal_of D sc_law_one_of (fun vs H Q E h => ?_) (fun f cdv A outer s H vs Q E hq hr h => ?_)
  · obtain ⟨a, it, rfl, _⟩ := h; rfl
  · have hu := hr.units
    replace hq := Quiet.deeper hq (envOfC "_law_one_of" (defScope s_law_one_of) s.heap.objs.size f cdv)
    have hr_law_draw := hr.mono (show 1 ≤ 1 by decide)
    skip
    refine ⟨_, (pss_one (ps_ret (pe_ix (r := rIx K) (by exact ix_seq) (pv 1) (qc c_law_draw hq hr_law_draw (by rfl) (pa_cons (pv 0) (pa_cons (pe_callB (r := rLenA K) (by exact q_lenA) (by rfl) B.b_len (by decide +kernel) (pa_cons (pv 1) pa_nil)) pa_nil))) (fun _ _ => rfl)))), ?_⟩
    obtain ⟨a, it, rfl, hb, h⟩ := h
    refine rd_at [some (.ref a), some it] rfl ?_
    walk_at "rd"
    rcases h with ⟨l, xs, rfl, hne, hS, h0, h1, k⟩ | ⟨z, rfl, h0, h1, k⟩
    · refine Or.inl ?_
      refine rd_lenL hS ?_
      walk_at "rd"
      refine ⟨a, _, rfl, hb, by omega, by omega, fun j H1 j0 j1 bu hb1 => ?_⟩
      have hj : j.toNat < xs.length := by omega
      refine rd_ixA (Or.inl (rd_ixL (bu.sq hne hS) (at_z (v := xs[j.toNat]) j0 (List.getElem?_eq_getElem hj)) ?_))
      exact k _ _ (List.getElem_mem hj) bu hb1
    · refine Or.inr ?_
      refine rd_lenS (Nat.le_trans h1 (by decide)) ?_
      walk_at "rd"
      refine ⟨a, _, rfl, hb, by omega, by omega, fun j H1 j0 j1 bu hb1 => ?_⟩
      have hj : j.toNat < z.cps.toList.length := by
        show j.toNat < z.cps.toList.length
        have e : z.length = z.cps.toList.length := by simp [Str.length]
        omega
      refine rd_ixA (Or.inr (Or.inr ⟨z, j, z.cps.toList[j.toNat], rfl, rfl, Nat.le_trans h1 (by decide), ?_, ?_⟩))
      · exact at_z j0 (List.getElem?_eq_getElem hj)
      · exact k _ _ (List.getElem_mem hj) bu hb1
end
section
variable {P : Program} {w : World} {K : PySem.W.Frag} {mg : Str → Option Value} {base : Heap}
theorem ok_law_numbers (B : Bi mg) (D : DefAt K mg "_law_numbers" s_law_numbers ["_law_bag_here", "_law_many", "_law_spread"]) (c_law_draw : Cal P w K mg base "_law_draw" 1 ["_law_bag_here", "_law_total"] (spDraw)) : Cal P w K mg base "_law_numbers" 2 ["_law_bag_here", "_law_many", "_law_spread"] (spNum) := by
  refine cal_of D sc_law_numbers (fun vs H Q E h => ?_) (fun f cdv A outer s H vs Q E hq hr h => ?_)
  · obtain ⟨a, n, s, rfl, _⟩ := h; rfl
  · have hu := hr.units
    replace hq := Quiet.deeper hq (envOfC "_law_numbers" (defScope s_law_numbers) s.heap.objs.size f cdv)
    have hr_law_draw := hr.mono (show 1 ≤ 1 by decide)
    skip
    refine ⟨_, (pss_one (ps_ret (pe_lc (own := [("_law_at", 3)]) (g := gName 3) (tt := tYes) (by rfl) sc_law_numbers.nd (pi_range1 (by rfl) B.b_range (pa_cons (pv 1) pa_nil)) (blkOk_by (own := [("_law_at", 3)]) (N := ["_law_bag_here", "_law_many", "_law_spread", "_law_at"]) (sc := defScope s_law_numbers) (by decide +kernel)) (fun _ _ _ _ _ => (pg_name (i := 3) sc_law_numbers.nd rfl (by first | exact Or.inl rfl | exact Or.inr rfl))) (fun _ _ _ _ _ => pts_nil) (fun _ _ _ _ _ => (pe_op op_sub (qc c_law_draw hq hr_law_draw (by rfl) (pa_cons (pv 0) (pa_cons (pe_op op_add (pe_op op_mul pe_int (pv 2)) pe_int) pa_nil))) (pv 2)))))), ?_⟩
    obtain ⟨a, n, s, rfl, hb, n0, n1, s0, s1, k⟩ := h
    refine rd_at [some (.ref a), some (.int n), some (.int s), none] rfl ?_
    walk_at "rd"
    refine ⟨n, rfl, by omega, by omega, ?_⟩
    intro E1 hE1
    refine lc_bag (n := n.toNat) (by omega) hE1 hb (fun v => ∃ i : Int, v = .int i ∧ -s ≤ i ∧ i ≤ s) ?_ ?_
    · intro i hi H' bu' hb' R kk
      walk_at "rd"
      refine ⟨a, 2 * s + 1, rfl, hb', by omega, by omega, fun j H'' j0 j1 bu'' hb'' => ?_⟩
      walk_at "rd"
      exact kk _ _ ⟨_, rfl, by omega, by omega⟩ bu'' hb''
    · intro ys H' hy hP bu' hb' hl2
      obtain ⟨ns, rfl, hns⟩ : ∃ ns : List Int, ys = ns.map V.int ∧ ∀ x ∈ ns, -s ≤ x ∧ x ≤ s := by
        clear hy hl2
        induction ys with
        | nil => exact ⟨[], rfl, fun _ z => nomatch z⟩
        | cons y r ih =>
          obtain ⟨ns, rfl, h1⟩ := ih fun y hy => hP y (List.mem_cons_of_mem _ hy)
          obtain ⟨i, rfl, h2⟩ := hP _ List.mem_cons_self
          refine ⟨i :: ns, rfl, fun x hx => ?_⟩
          rcases List.mem_cons.mp hx with rfl | hx
          · exact h2
          · exact h1 x hx
      rw [List.length_map] at hy
      exact k E1 H' ns hE1 bu' hb' hl2 hy hns
end
section
variable {P : Program} {w : World} {K : PySem.W.Frag} {mg : Str → Option Value} {base : Heap}
theorem okis_sum_of_squares (B : Bi mg) (D : DefAt K mg "is_sum_of_squares" sis_sum_of_squares ["table"]) (c_without_square : Cal P w K mg base "_without_square" 2 ["left", "top", "scale"] (spWo)) : Cal P w K mg base "is_sum_of_squares" 3 ["table"] (spPsd) := by
  refine cal_of D scis_sum_of_squares (fun vs H Q E h => ?_) (fun f cdv A outer s H vs Q E hq hr h => ?_)
  · obtain ⟨p, n, M, rfl, _⟩ := h; rfl
  · have hu := hr.units
    replace hq := Quiet.deeper hq (envOfC "is_sum_of_squares" (defScope sis_sum_of_squares) s.heap.objs.size f cdv)
    have hr_without_square := hr.mono (show 2 ≤ 2 by decide)
    skip
    refine ⟨_, (pss_cons (ps_set (i := 1) scis_sum_of_squares.nd rfl (by first | exact Or.inl rfl | exact Or.inr rfl) (pe_lc (own := [("row", 5)]) (g := gName 5) (tt := tYes) (by rfl) scis_sum_of_squares.nd (pi_tup (pv 0)) (blkOk_by (own := [("row", 5)]) (N := ["table", "left", "scale", "diagonal", "top", "row", "at", "entry"]) (sc := defScope sis_sum_of_squares) (by decide +kernel)) (fun _ _ _ _ _ => (pg_name (i := 5) scis_sum_of_squares.nd rfl (by first | exact Or.inl rfl | exact Or.inr rfl))) (fun _ _ _ _ _ => pts_nil) (fun _ _ _ _ _ => (pe_callTy (r := rLstOf K) (by exact q_lstOf) (by rfl) B.b_list (by decide +kernel) (pa_cons (pv 5) pa_nil)))))
        (pss_cons (ps_set (i := 2) scis_sum_of_squares.nd rfl (by first | exact Or.inl rfl | exact Or.inr rfl) pe_int)
        (pss_cons (ps_while PassesOwn.never (pt_cmpR op_gt (pe_callB (r := rLenQ K) (by exact q_lenQ) (by rfl) B.b_len (by decide +kernel) (pa_cons (pv 1) pa_nil)) pe_int (nomark _)) (pss_cons (ps_setLc (i := 3) (own := [("at", 6)]) (g := gName 6) (tt := tYes) (by rfl) scis_sum_of_squares.nd rfl rfl (sw_true rfl rfl rfl (by decide +kernel)) (pi_range1 (by rfl) B.b_range (pa_cons (pe_callB (r := rLenQ K) (by exact q_lenQ) (by rfl) B.b_len (by decide +kernel) (pa_cons (pv 1) pa_nil)) pa_nil)) (blkOk_by (own := [("at", 6)]) (N := ["table", "left", "scale", "diagonal", "top", "row", "at", "entry"]) (sc := defScope sis_sum_of_squares) (by decide +kernel)) (fun _ _ _ _ _ => (pg_name (i := 6) scis_sum_of_squares.nd rfl (by first | exact Or.inl rfl | exact Or.inr rfl))) (fun _ _ _ _ _ => pts_nil) (fun _ _ _ _ _ => (pe_ix (r := rIxL K) (by exact ix_list) (pe_ix (r := rIxL K) (by exact ix_list) (pv 1) (pv 6) (fun _ _ => rfl)) (pv 6) (fun _ _ => rfl))))
        (pss_cons (ps_if (pt_cmpR op_lt (pe_callB (r := rMin K) (by exact (cr_min rfl)) (by rfl) B.b_min (by decide +kernel) (pa_cons (pv 3) pa_nil)) pe_int (nomark _)) (pss_one (ps_ret pe_bl)) pss_nil)
        (pss_cons (ps_if (pt_cmpR op_eq (pe_callB (r := rMax K) (by exact (cr_max rfl)) (by rfl) B.b_max (by decide +kernel) (pa_cons (pv 3) pa_nil)) pe_int (nomark _)) (pss_one (ps_ret (pe_callB (r := rAll K) (by exact (cr_all rfl)) (by rfl) B.b_all (by decide +kernel) (pa_cons (pe_lc2 (own := [("row", 5), ("entry", 7)]) (vs1 := [7]) (g := gName 5) (g1 := gName 7) (tt := tYes) (tt1 := tYes) (by rfl) scis_sum_of_squares.nd (pi_list (pv 1)) (blkOk_by (own := [("row", 5), ("entry", 7)]) (N := ["table", "left", "scale", "diagonal", "top", "row", "at", "entry"]) (sc := defScope sis_sum_of_squares) (by decide +kernel)) (by decide) (fun _ _ _ _ _ => (pg_name (i := 5) scis_sum_of_squares.nd rfl (by first | exact Or.inl rfl | exact Or.inr rfl))) (fun _ _ _ _ _ => pts_nil) (fun _ _ _ _ _ => (pi_listK (K := K) rfl (pv 5))) (fun _ _ _ _ _ => (pg_name (i := 7) scis_sum_of_squares.nd rfl (by first | exact Or.inl rfl | exact Or.inr rfl))) (fun _ _ _ _ _ => pts_nil) (fun _ _ _ _ _ => (pe_cmpR op_eq (pv 7) pe_int (nomark _)))) pa_nil)))) pss_nil)
        (pss_cons (ps_set (i := 4) scis_sum_of_squares.nd rfl (by first | exact Or.inl rfl | exact Or.inr rfl) (pe_bm PySem.F.plainAttrs_list PySem.F.slot_list_index PySem.F.type_list_index mt_index (pv 3) (pa_cons (pe_callB (r := rMax K) (by exact (cr_max rfl)) (by rfl) B.b_max (by decide +kernel) (pa_cons (pv 3) pa_nil)) pa_nil)))
        (pss_cons (ps_set (i := 1) scis_sum_of_squares.nd rfl (by first | exact Or.inl rfl | exact Or.inr rfl) (qc c_without_square hq hr_without_square (by rfl) (pa_cons (pv 1) (pa_cons (pv 4) (pa_cons (pv 2) pa_nil)))))
        (pss_one (ps_set (i := 2) scis_sum_of_squares.nd rfl (by first | exact Or.inl rfl | exact Or.inr rfl) (pe_ix (r := rIxL K) (by exact ix_list) (pv 3) (pv 4) (fun _ _ => rfl))))))))))
        (pss_one (ps_ret pe_bl))))), ?_⟩
    obtain ⟨p, n, M, rfl, ⟨rs, h1', h2, h3'⟩, hsq, hn, hs, k⟩ := h
    have h1 : SqT K H p (rs.map V.ref) := SqT.of h1'
    have h3 : ∀ (i : Nat) (r : Addr) (row : List Int), rs[i]? = some r → M[i]? = some row → SqT K H r (row.map V.int) := fun i r row e1 e2 => SqT.of (h3' i r row e1 e2)
    have hlen := hsq.len
    have hbd := at2_bd hsq
    refine rd_at [some (.ref p), none, none, none, none, none, none, none] rfl ?_
    walk_at "rd"
    refine ⟨⟨_, h1⟩, ?_⟩
    intro E1 hE1
    refine lc_new (n := (rs.map V.ref).length) (wk_tup .non) (by rw [List.length_map]; omega) hE1 (fun H' s' => sqT_same s' h1) (fun j t H' => Li H' t (M.getD j [])) (fun j t H H' s l => s _ l) (fun j t H l z => by unfold Li at l; rw [l] at z; cases z) ?_ ?_
    · intro j hj H5 o s5 ho R1 kk
      rw [List.length_map] at hj
      have ej : (rs.map V.ref).getD j .non = V.ref rs[j] := by rw [List.getD_eq_getElem?_getD, List.getElem?_map, List.getElem?_eq_getElem hj]; rfl
      rw [ej]
      have hjm : j < M.length := by omega
      walk_at "rd"
      refine ⟨_, _, rfl, Or.inr (sqT_same s5 (h3 j rs[j] M[j] (List.getElem?_eq_getElem hj) (List.getElem?_eq_getElem hjm))), fun t ht => ?_⟩
      refine kk t _ ht (fun b o e => up_old ht e) ?_
      rw [row_eq (List.getElem?_eq_getElem hjm)]
      exact upd_same
    intro ts H2 s2 hy hnd hP hfr hE1r hl2
    rw [List.length_map] at hy
    have hLL : LLf H H2 E1 M := ⟨ts, hl2, by omega, hnd, hE1, hfr, fun u r row e1 e2 => by
      have e := hP u r e1
      rw [row_eq e2] at e
      exact e⟩
    walk_at "rd"
    refine ⟨fun m σ' H' => ∃ (l : Addr) (scale : Int) (L : List (List Int)) (done rest : List Nat) (v3 v4 : Option V), σ' = [some (.ref p), some (.ref l), some (.int scale), v3, v4, none, none, none] ∧ Same H H' ∧ LLf H H' l L ∧ L.length = m ∧ rest.length = m ∧ (∀ r ∈ L, r.length = m) ∧ Alg.Ps (at2 M) n (at2 L) scale done rest, ⟨n, E1, 1, M, [], List.range n, none, none, rfl, s2, hLL, hlen, List.length_range, hsq.sq, Alg.Ps.start (fun _ _ _ _ => rfl)⟩, ?_⟩
    rintro m _ H3 ⟨l, scale, L, done, rest, v3, v4, rfl, s3, hL3, hLm, hrm, hLw, ps⟩
    obtain ⟨us, u1, u2, und, uf1, uf2, u3⟩ := id hL3
    walk_at "rd"
    refine rd_lenL (SqL.of u1) ?_
    walk_at "rd"
    have gm : ∀ t, t < m → L.getD t [] ∈ L := fun t ht => by
      rw [List.getD_eq_getElem?_getD, List.getElem?_eq_getElem (by omega)]
      exact List.getElem_mem _
    have hdm : done.length + m = n := by rw [← hrm]; exact ps.hr
    refine rd_ite (fun h0 => ?_) (fun h0 => ?_)
    · rw [List.length_map] at h0
      have hm0 : 0 < m := by omega
      refine ⟨fun σ' H' => ∃ (l : Addr) (scale : Int) (L : List (List Int)) (done rest : List Nat) (v3 v4 : Option V), σ' = [some (.ref p), some (.ref l), some (.int scale), v3, v4, none, none, none] ∧ Same H H' ∧ LLf H H' l L ∧ L.length = m - 1 ∧ rest.length = m - 1 ∧ (∀ r ∈ L, r.length = m - 1) ∧ Alg.Ps (at2 M) n (at2 L) scale done rest, fun σ' H' w => ⟨m - 1, by omega, w⟩, ?_⟩
      walk_at "rd"
      refine rd_lenL (SqL.of u1) ?_
      walk_at "rd"
      refine ⟨_, rfl, by rw [List.length_map]; omega, by rw [List.length_map]; omega, ?_⟩
      have en : (((us.map V.ref).length : Nat) : Int).toNat = m := by rw [List.length_map]; omega
      rw [en]
      intro E2 hE2
      refine lc_same (n := m) (wk_rng m) (by omega) hE2 (fun _ _ => True.intro) (fun _ => true) (fun j => V.int (at2 L j j)) (fun j hj H4 _ R hR => hR H4 (Same.refl H4)) (fun j hj _ H4 s4 R hR => ?_) (fun H4 s4 hl4 => ?_)
      · rw [Int.zero_add]
        obtain ⟨w2, r2, y1, y2, y3, y4⟩ := LL.row (K := K) (i := j) (hL3.same s4).ll (by omega)
        walk_at "rd"
        refine rd_ixL y1 (ref_at y3) ?_
        walk_at "rd"
        refine rd_ixL y4 (int_at (by rw [hLw _ (gm j hj)]; exact hj)) ?_
        exact hR H4 (Same.refl H4)
      rw [filt_yes] at hl4
      have hS : SqL K H4 E2 (((List.range m).map fun j => at2 L j j).map V.int) := SqL.of (by rw [hl4, List.map_map]; rfl)
      have dmem : ∀ t, t < m → at2 L t t ∈ (List.range m).map fun j => at2 L j j := fun t ht => List.mem_map.mpr ⟨t, List.mem_range.mpr ht, rfl⟩
      have dlen : 0 < ((List.range m).map fun j => at2 L j j).length := by rw [List.length_map, List.length_range]; exact hm0
      walk_at "rd"
      refine ⟨E2, _, rfl, hS, dlen, fun mn hmn1 hmn2 => ?_⟩
      walk_at "rd"
      obtain ⟨t, ht, et⟩ := List.mem_map.mp hmn1
      have ht := List.mem_range.mp ht
      refine rd_ite (fun hneg => ?_) (fun hneg => ?_)
      · walk_at "rd"
        refine k false H4 (s3.trans s4) ⟨fun z => (nomatch z), fun z => absurd z (ps.neg (t := t) (by omega) ?_)⟩
        show at2 L t t < 0
        have et : at2 L t t = mn := et
        omega
      walk_at "rd"
      refine ⟨E2, _, rfl, hS, dlen, fun mx hx1 hx2 => ?_⟩
      walk_at "rd"
      refine rd_ite (fun hz => ?_) (fun hz => ?_)
      · walk_at "rd"
        have wk0 : Wk (Itl K l) m (fun H' => SqL K H' l (us.map V.ref)) (fun i => (us.map V.ref).getD i .non) := by
          have z := wk_list (K := K) (a := l) (xs := us.map V.ref) .non
          rw [List.length_map, u2, hLm] at z
          exact z
        have wk1 : ∀ i, i < m → Wk (Itl K (us.getD i l)) m (fun H' => SqL K H' (us.getD i l) ((L.getD i []).map V.int)) (fun j => ((L.getD i []).map V.int).getD j .non) := fun i hi => by
          have z := wk_list (K := K) (a := us.getD i l) (xs := (L.getD i []).map V.int) .non
          rw [List.length_map, hLw _ (gm i hi)] at z
          exact z
        have ug : ∀ i, i < m → us[i]? = some (us.getD i l) := fun i hi => by
          rw [List.getD_eq_getElem?_getD, List.getElem?_eq_getElem (by omega)]
          rfl
        have lg : ∀ i, i < m → L[i]? = some (L.getD i []) := fun i hi => by
          rw [List.getD_eq_getElem?_getD, List.getElem?_eq_getElem (by omega)]
          rfl
        refine lc2_same (a := 5) (b := 7) (by decide) (n := m) (by omega) (fun _ => m) (fun _ _ => by omega) (fun i j => .bl (decide (at2 L i j = 0))) (fun i => (us.map V.ref).getD i .non) (fun i j => ((L.getD i []).map V.int).getD j .non) (fun H' => SqL K H' l (us.map V.ref)) (fun i H' => SqL K H' (us.getD i l) ((L.getD i []).map V.int)) (fun R hR => ?_) (fun H5 s5 => SqL.of (s5 _ _ (s4 _ _ u1))) (fun i H5 hi s5 => SqL.of (s5 _ _ (s4 _ _ (u3 i _ _ (ug i hi) (lg i hi))))) (fun i hi H5 s5 R hR => ?_) (fun i j hi hj H5 s5 R hR => ?_) (fun H5 E5 s5 hE => ?_)
        · unfold iList
          refine rd_var (v := .ref l) rfl ?_
          exact ⟨l, rfl, ⟨_, SqL.of (s4 _ _ u1)⟩, hR _ _ (Same.refl _) wk0⟩
        · unfold iList
          refine rd_var (v := (us.map V.ref).getD i .non) rfl ?_
          refine ⟨us.getD i l, ?_, ⟨_, SqL.of (s5 _ _ (s4 _ _ (u3 i _ _ (ug i hi) (lg i hi))))⟩, hR _ _ (Same.refl _) (wk1 i hi)⟩
          rw [List.getD_eq_getElem?_getD, List.getElem?_map, ug i hi]
          rfl
        · rw [int_get (by rw [hLw _ (gm i hi)]; exact hj)]
          walk_at "rd"
          exact hR _ (Same.refl _)
        · walk_at "rd"
          refine rd_all (bs := (List.range m).flatMap fun i => (List.range m).map fun j => decide (at2 L i j = 0)) (SqL.of (by rw [hE, List.map_flatMap]; simp only [List.map_map]; rfl)) ?_
          refine k _ H5 ((s3.trans s4).trans s5) ?_
          rw [ps.zero hn hs (fun t ht => by
            have q1 := hmn2 _ (dmem t (by omega))
            have q2 := hx2 _ (dmem t (by omega))
            omega), hrm]
          constructor
          · intro z t u ht hu
            exact of_decide_eq_true (List.all_eq_true.mp z _ (List.mem_flatMap.mpr ⟨t, List.mem_range.mpr ht, List.mem_map.mpr ⟨u, List.mem_range.mpr hu, rfl⟩⟩))
          · intro z
            refine List.all_eq_true.mpr fun x hx => ?_
            obtain ⟨t, ht, hx⟩ := List.mem_flatMap.mp hx
            obtain ⟨u, hu, rfl⟩ := List.mem_map.mp hx
            exact decide_eq_true (z t u (List.mem_range.mp ht) (List.mem_range.mp hu))
      walk_at "rd"
      refine rd_BM ?_
      walk_at "rd"
      refine ⟨Or.inl ⟨rfl, _, hS⟩, ?_⟩
      walk_at "rd"
      refine ⟨E2, _, rfl, hS, dlen, fun mz hy1 hy2 => ?_⟩
      have emz : mz = mx := by
        have q1 := hx2 _ hy1
        have q2 := hy2 _ hx1
        omega
      subst emz
      walk_at "rd"
      obtain ⟨j, hj, hjv, hjn⟩ : ∃ j, j < m ∧ at2 L j j = mz ∧ ∀ i, i < j → at2 L i i ≠ mz := by
        obtain ⟨t, ht, et⟩ := List.mem_map.mp hy1
        have ht := List.mem_range.mp ht
        have key : ∀ t, t < m → at2 L t t = mz → ∃ j, j < m ∧ at2 L j j = mz ∧ ∀ i, i < j → at2 L i i ≠ mz := by
          intro t
          induction t using Nat.strongRecOn with
          | ind t ih =>
            intro h1 h2
            by_cases y : ∃ i, i < t ∧ at2 L i i = mz
            · obtain ⟨i, y1, y2⟩ := y
              exact ih i y1 (by omega) y2
            · exact ⟨t, h1, h2, fun i hi e => y ⟨i, hi, e⟩⟩
        exact key t ht et
      have dget : ∀ i, i < m → (((List.range m).map fun j => at2 L j j).map V.int)[i]? = some (V.int (at2 L i i)) := fun i hi => by
        rw [List.getElem?_map, List.getElem?_map, List.getElem?_range hi]
        rfl
      refine ⟨E2, _, .int mz, j, .int mz, rfl, rfl, hS, rfl, ?_, by rw [dget j hj, hjv], by show (mz == mz) = true; exact beq_self_eq_true mz, fun i z' hi hz' => ?_, ?_⟩
      · rw [List.all_map]
        exact List.all_eq_true.mpr fun _ _ => rfl
      · rw [dget i (by omega)] at hz'
        cases hz'
        show (at2 L i i == mz) = false
        exact beq_eq_false_iff_ne.mpr (hjn i hi)
      have hmz : 0 < mz := by
        have q1 := hmn2 _ hy1
        omega
      have sc : scale.natAbs < 2 ^ 1100 := by
        rw [ps.hs]
        exact mi_bd hbd (by omega) (by omega)
      have ebd : ∀ t u, t < m → u < m → (at2 L t u).natAbs < 2 ^ 1100 := fun t u ht hu => by
        rw [ps.ent t u _ _ (List.getElem?_eq_getElem (by omega)) (List.getElem?_eq_getElem (by omega))]
        exact mi_bd hbd (by rw [List.length_append]; show done.length + 1 ≤ 5; omega) (by rw [List.length_append]; show done.length + 1 ≤ 5; omega)
      have rowb : ∀ r ∈ L, ∀ x ∈ r, x.natAbs < 2 ^ 2000 := fun r hr x hx => by
        obtain ⟨t, ht⟩ := List.getElem?_of_mem hr
        obtain ⟨u, hu⟩ := List.getElem?_of_mem hx
        have ht2 := (List.getElem?_eq_some_iff.mp ht).1
        have hu2 := (List.getElem?_eq_some_iff.mp hu).1
        rw [hLw r hr] at hu2
        have e : at2 L t u = x := by
          unfold at2
          rw [List.getD_eq_getElem?_getD (l := L), ht]
          show r.getD u 0 = x
          rw [List.getD_eq_getElem?_getD, hu]
          rfl
        rw [← e]
        exact lt2000 (ebd t u (by omega) hu2)
      have sp : scale ≠ 0 := by
        have := ps.pos
        omega
      walk_at "rd"
      have l4 : H4 l ≠ none := by
        rw [s4 _ _ u1]
        exact fun z => nomatch z
      have nE2l : E2 ≠ l := fun z => by
        rw [z, u1] at hE2
        cases hE2
      have nE2r : E2 ∉ us := fun hm2 => by
        obtain ⟨t, ht⟩ := List.getElem?_of_mem hm2
        have ht2 := (List.getElem?_eq_some_iff.mp ht).1
        have e := u3 t E2 _ ht (row_at (by omega))
        unfold Li at e
        rw [hE2] at e
        cases e
      refine ⟨H, l, j, m, scale, L, rfl, s3.trans s4, hL3.same s4, ⟨hLm, hLw, by omega, hj⟩, ⟨sp, log9000 sc⟩, rowb, fun q H5 L' fr5 hL5 hL'm hL'w ent => ?_⟩
      have uniq : ∀ rs2 : List Addr, H4 l = some (.lst (rs2.map V.ref)) → rs2 = us := fun rs2 e2 => by
        rw [s4 _ _ u1] at e2
        injection e2 with e2
        injection e2 with e2
        exact ((List.map_inj_right (fun a b h => V.ref.inj h)).mp e2).symm
      have s35 : Same H H5 := fun b o e => fr5 b o (s4 _ _ (s3 _ _ e)) (fun z => by rw [z, uf1] at e; cases e) (fun rs2 e2 hm2 => by
        rw [uniq rs2 e2] at hm2
        have := uf2 b hm2
        rw [this] at e
        cases e)
      have hl5 : H5 E2 = some (.lst ((List.range m).map fun j => V.int (at2 L j j))) := fr5 _ _ hl4 nE2l (fun rs2 e2 hm2 => nE2r (by rw [uniq rs2 e2] at hm2; exact hm2))
      walk_at "rd"
      have hS5 : SqL K H5 E2 (((List.range m).map fun j => at2 L j j).map V.int) := SqL.of (by rw [hl5, List.map_map]; rfl)
      refine rd_ixL hS5 (at_nat (dget j hj)) ?_
      walk_at "rd"
      obtain ⟨done', st⟩ := ps.step hn hs (top := j) (L' := at2 L') (by omega) (by rw [hjv]; exact hmz) (fun t u ht hu => by
        rw [hrm] at ht hu
        exact ent t u ht hu)
      refine ⟨q, at2 L j j, L', done', rest.eraseIdx j, _, _, rfl, s35, hL5, hL'm, ?_, hL'w, st⟩
      rw [List.length_eraseIdx, hrm, if_pos hj]
    · rw [List.length_map] at h0
      have hm0 : m = 0 := by omega
      subst hm0
      have hr0 : rest = [] := List.eq_nil_of_length_eq_zero hrm
      subst hr0
      walk_at "rd"
      exact k true H3 s3 ⟨fun _ => ps.stop, fun _ => rfl⟩
end
section
variable {P : Program} {w : World} {K : PySem.W.Frag} {mg : Str → Option Value} {base : Heap}
theorem okis_integer (B : Bi mg) (D : DefAt K mg "is_integer" sis_integer ["value"]) (chas_digits : Cal P w K mg base "has_digits" 2 ["number", "most"] (spShort)) : Cal P w K mg base "is_integer" 3 ["value"] (spInt4) := by
  refine cal_of D scis_integer (fun vs H Q E h => ?_) (fun f cdv A outer s H vs Q E hq hr h => ?_)
  · obtain ⟨i, rfl, _⟩ := h; rfl
  · have hu := hr.units
    replace hq := Quiet.deeper hq (envOfC "is_integer" (defScope sis_integer) s.heap.objs.size f cdv)
    have hrhas_digits := hr.mono (show 2 ≤ 2 by decide)
    obtain ⟨t_MAX_DIGITS, k_MAX_DIGITS⟩ := B.c_MAX_DIGITS
    skip
    refine ⟨_, (pss_one (ps_ret (pe_and (pe_callB (r := rIsi K) (by exact call_isi) (by rfl) B.b_isinstance (by decide +kernel) (pa_cons (pv 0) (pa_cons (pe_bltn (v := .ty "int") (u := .type "int") (by rfl) B.b_int (by decide +kernel) rfl) pa_nil))) (pe_and (pe_not (pe_callB (r := rIsi K) (by exact call_isi) (by rfl) B.b_isinstance (by decide +kernel) (pa_cons (pv 0) (pa_cons (pe_bltn (v := .ty "bool") (u := .type "bool") (by rfl) B.b_bool (by decide +kernel) rfl) pa_nil)))) (pe_one (qc chas_digits hq hrhas_digits (by rfl) (pa_cons (pv 0) (pa_cons (pe_glob (v := .int 2000) (by rfl) k_MAX_DIGITS ⟨_, rfl⟩) pa_nil)))))))), ?_⟩
    obtain ⟨i, rfl, hi, k⟩ := h
    refine rd_at [some (.int i)] rfl ?_
    walk_at "rd"
    refine rd_isi (b := true) (.base (.int i)) (by decide +kernel) ?_
    walk_at "rd"
    refine rd_isi (b := false) (.base (.int i)) (by decide +kernel) ?_
    walk_at "rd"
    refine rd_ifb (fun _ => ?_) (fun z => nomatch z)
    walk_at "rd"
    refine ⟨i, rfl, ?_⟩
    rw [decide_eq_true hi]
    exact k
end
section
variable {P : Program} {w : World} {K : PySem.W.Frag} {mg : Str → Option Value} {base : Heap}
theorem ok_law_symmetric (B : Bi mg) (D : DefAt K mg "_law_symmetric" s_law_symmetric ["_law_bag_here", "_law_many"]) (c_law_draw : Cal P w K mg base "_law_draw" 1 ["_law_bag_here", "_law_total"] (spDraw)) (c_law_numbers : Cal P w K mg base "_law_numbers" 2 ["_law_bag_here", "_law_many", "_law_spread"] (spNum)) : Cal P w K mg base "_law_symmetric" 3 ["_law_bag_here", "_law_many"] (spSymm) := by
  refine cal_of D sc_law_symmetric (fun vs H Q E h => ?_) (fun f cdv A outer s H vs Q E hq hr h => ?_)
  · obtain ⟨a, n, rfl, _⟩ := h; rfl
  · have hu := hr.units
    replace hq := Quiet.deeper hq (envOfC "_law_symmetric" (defScope s_law_symmetric) s.heap.objs.size f cdv)
    have hr_law_draw := hr.mono (show 1 ≤ 2 by decide)
    have hr_law_numbers := hr.mono (show 2 ≤ 2 by decide)
    skip
    refine ⟨_, (pss_cons (ps_asg (pe_tup (pa_cons (qc c_law_draw hq hr_law_draw (by rfl) (pa_cons (pv 0) (pa_cons pe_int pa_nil))) (pa_cons (pe_lc (own := [("_law_turn", 8)]) (g := gName 8) (tt := tYes) (by rfl) sc_law_symmetric.nd (pi_range1 (by rfl) B.b_range (pa_cons (pe_op op_add pe_int (qc c_law_draw hq hr_law_draw (by rfl) (pa_cons (pv 0) (pa_cons (pv 1) pa_nil)))) pa_nil)) (blkOk_by (own := [("_law_turn", 8)]) (N := ["_law_bag_here", "_law_many", "_law_way", "_law_some", "_law_table", "_law_at", "_law_i", "_law_j", "_law_turn", "_law_row"]) (sc := defScope s_law_symmetric) (by decide +kernel)) (fun _ _ _ _ _ => (pg_name (i := 8) sc_law_symmetric.nd rfl (by first | exact Or.inl rfl | exact Or.inr rfl))) (fun _ _ _ _ _ => pts_nil) (fun _ _ _ _ _ => (qc c_law_numbers hq hr_law_numbers (by rfl) (pa_cons (pv 0) (pa_cons (pv 1) (pa_cons pe_int pa_nil)))))) pa_nil))) (pg_tup (by rfl) (pgs_cons (pg_name (i := 2) sc_law_symmetric.nd rfl (by first | exact Or.inl rfl | exact Or.inr rfl)) (pgs_cons (pg_name (i := 3) sc_law_symmetric.nd rfl (by first | exact Or.inl rfl | exact Or.inr rfl)) pgs_nil))))
        (pss_cons (ps_setLc (i := 4) (own := [("_law_i", 6)]) (g := gName 6) (tt := tYes) (by rfl) sc_law_symmetric.nd rfl rfl (sw_true rfl rfl rfl (by decide +kernel)) (pi_range1 (by rfl) B.b_range (pa_cons (pv 1) pa_nil)) (blkOk_by (own := [("_law_i", 6)]) (N := ["_law_bag_here", "_law_many", "_law_way", "_law_some", "_law_table", "_law_at", "_law_i", "_law_j", "_law_turn", "_law_row"]) (sc := defScope s_law_symmetric) (by decide +kernel)) (fun _ _ _ _ _ => (pg_name (i := 6) sc_law_symmetric.nd rfl (by first | exact Or.inl rfl | exact Or.inr rfl))) (fun _ _ _ _ _ => pts_nil) (fun _ _ _ _ _ => (by exact (pe_lc (own := [("_law_j", 7)]) (wi := iRng1 (tCons (tVar 1) tNil)) (g := gName 7) (tt := tYes) (by rfl) sc_law_symmetric.nd (by exact (pi_range1 (by rfl) B.b_range (pa_cons (pv 1) pa_nil))) (by exact blkOk_by (by kernel_rfl)) (fun _ _ _ _ _ => (pg_name (i := 7) sc_law_symmetric.nd rfl (by first | exact Or.inl rfl | exact Or.inr rfl))) (fun _ _ _ _ _ => pts_nil) (fun _ _ _ _ _ => (pe_callB (r := rSum K) (by exact (cr_sum rfl)) (by rfl) B.b_sum (by decide +kernel) (pa_cons (by exact (pe_lc (own := [("_law_row", 9)]) (wi := iList K (tVar 3)) (g := gName 9) (tt := tYes) (by rfl) sc_law_symmetric.nd (by exact (pi_list (pv 3))) (by exact blkOk_by (by kernel_rfl)) (fun _ _ _ _ _ => (pg_name (i := 9) sc_law_symmetric.nd rfl (by first | exact Or.inl rfl | exact Or.inr rfl))) (fun _ _ _ _ _ => pts_nil) (fun _ _ _ _ _ => (pe_op op_mulW (pe_ix (r := rIxL K) (by exact ix_list) (pv 9) (pv 6) (fun _ _ => rfl)) (pe_ix (r := rIxL K) (by exact ix_list) (pv 9) (pv 7) (fun _ _ => rfl)))))) pa_nil)))))))
        (pss_cons (ps_if (pt_cmpR op_eq (pv 2) pe_int (nomark _)) (pss_cons (ps_set (i := 5) sc_law_symmetric.nd rfl (by first | exact Or.inl rfl | exact Or.inr rfl) (qc c_law_draw hq hr_law_draw (by rfl) (pa_cons (pv 0) (pa_cons (pv 1) pa_nil))))
        (pss_one (ps_asg (pe_op op_sub (pe_op op_sub (pe_ix (r := rIxL K) (by exact ix_list) (pe_ix (r := rIxL K) (by exact ix_list) (pv 4) (pv 5) (fun _ _ => rfl)) (pv 5) (fun _ _ => rfl)) pe_int) (qc c_law_draw hq hr_law_draw (by rfl) (pa_cons (pv 0) (pa_cons pe_int pa_nil)))) (pg_sub (pe_ix (r := rIxL K) (by exact ix_list) (pv 4) (pv 5) (fun _ _ => rfl)) (pv 5) set_list)))) pss_nil)
        (pss_cons (ps_if (pt_cmpR op_eq (pv 2) pe_int (nomark _)) (pss_one (ps_for PassesOwn.never (by rfl) (pi_range1 (by rfl) B.b_range (pa_cons (pv 1) pa_nil)) (pg_name (i := 6) sc_law_symmetric.nd rfl (by first | exact Or.inl rfl | exact Or.inr rfl)) (pss_one (ps_for PassesOwn.never (by rfl) (pi_range1 (by rfl) B.b_range (pa_cons (pe_op op_add (pv 6) pe_int) pa_nil)) (pg_name (i := 7) sc_law_symmetric.nd rfl (by first | exact Or.inl rfl | exact Or.inr rfl)) (pss_cons (ps_asg (pe_op op_sub (qc c_law_draw hq hr_law_draw (by rfl) (pa_cons (pv 0) (pa_cons pe_int pa_nil))) pe_int) (pg_sub (pe_ix (r := rIxL K) (by exact ix_list) (pv 4) (pv 6) (fun _ _ => rfl)) (pv 7) set_list))
        (pss_one (ps_asg (pe_ix (r := rIxL K) (by exact ix_list) (pe_ix (r := rIxL K) (by exact ix_list) (pv 4) (pv 6) (fun _ _ => rfl)) (pv 7) (fun _ _ => rfl)) (pg_sub (pe_ix (r := rIxL K) (by exact ix_list) (pv 4) (pv 7) (fun _ _ => rfl)) (pv 6) set_list)))))))) pss_nil)
        (pss_one (ps_ret (pv 4))))))), ?_⟩
    obtain ⟨a, n, rfl, hb, n1, n4, k⟩ := h
    have ha := hb.live
    refine rd_at [some (.ref a), some (.int (n : Int)), none, none, none, none, none, none, none, none] rfl ?_
    walk_at "rd"
    refine ⟨a, 4, rfl, hb, by omega, by omega, fun way H1 w0 w1 b1 hb1 => ?_⟩
    walk_at "rd"
    refine ⟨a, n, rfl, hb1, by omega, by omega, fun c H2 c0 c1 b2 hb2 => ?_⟩
    walk_at "rd"
    refine ⟨1 + c, rfl, by omega, by omega, ?_⟩
    intro E1 hE1
    refine lc_newB (n := (1 + c).toNat) (by omega) hE1 hb2 (fun j t H' => ∃ ns : List Int, Li H' t ns ∧ ns.length = n ∧ ∀ x ∈ ns, -3 ≤ x ∧ x ≤ 3) (fun j t H H' s ⟨ns, l1, l2, l3⟩ => ⟨ns, s _ l1, l2, l3⟩) (fun j t H ⟨ns, l1, _⟩ z => by unfold Li at l1; rw [l1] at z; cases z) ?_ ?_
    · intro j hj H' bu' hb' R kk
      walk_at "rd"
      refine ⟨a, n, 3, rfl, hb', by omega, by omega, by omega, by omega, fun q H'' ns hq bu hb'' hns nl nb => ?_⟩
      exact kk q H'' hq bu hb'' ⟨ns, hns, by omega, nb⟩
    intro rs H3 hrs hnd hP hfr hEr bu3 hb3 hl3
    obtain ⟨S, sl, sw, sr⟩ := rows_of (m := n) (fun x => -3 ≤ x ∧ x ≤ 3) hrs hP
    walk_at "rd"
    intro t ht
    refine ⟨t, _, rfl, SqT.of upd_same, rfl, ?_⟩
    refine ⟨.int way, [.ref E1], rfl, ?_⟩
    walk_at "rd"
    refine ⟨.ref E1, [], rfl, ?_⟩
    walk_at "rd"
    refine ⟨rfl, ?_⟩
    have hl4 : (upd H3 t (.tup [.int way, .ref E1])) E1 = some (.lst (rs.map V.ref)) := up_old ht hl3
    have sr4 : ∀ (i : Nat) (r : Addr) (row : List Int), rs[i]? = some r → S[i]? = some row → Li (upd H3 t (.tup [.int way, .ref E1])) r row := fun i r row e1 e2 => up_old ht (sr i r row e1 e2)
    have hb4 : BagAt (upd H3 t (.tup [.int way, .ref E1])) a := hb3.old ht
    have bu4 : But a H (upd H3 t (.tup [.int way, .ref E1])) := ((b1.trans b2).trans bu3).trans (But.new ht)
    generalize upd H3 t (.tup [.int way, .ref E1]) = H4 at hl4 sr4 hb4 bu4 ⊢
    have rl : rs.length ≤ 4 := by omega
    have srow : ∀ v, v < rs.length → ∃ row, S[v]? = some row ∧ S.getD v [] = row ∧ row.length = n ∧ ∀ x ∈ row, -3 ≤ x ∧ x ≤ 3 := fun v hv => by
      have h1 : v < S.length := by omega
      exact ⟨S[v], List.getElem?_eq_getElem h1, by rw [List.getD_eq_getElem?_getD, List.getElem?_eq_getElem h1]; rfl, (sw _ (List.getElem_mem h1)).1, (sw _ (List.getElem_mem h1)).2⟩
    obtain ⟨T, hT⟩ : ∃ T : Nat → Nat → Int, ∀ i j, T i j = ((List.range rs.length).map fun v => (S.getD v []).getD i 0 * (S.getD v []).getD j 0).sum := ⟨_, fun _ _ => rfl⟩
    have ent : ∀ v i, v < rs.length → i < n → ((S.getD v []).getD i 0).natAbs ≤ 3 := fun v i hv hi => by
      obtain ⟨row, _, e2, e3, e4⟩ := srow v hv
      rw [e2]
      have := e4 _ (mem_get (by omega : i < row.length))
      omega
    have tb : ∀ i j, i < n → j < n → (T i j).natAbs ≤ 36 := fun i j hi hj => by
      rw [hT]
      refine Nat.le_trans (sum_bd (b := 9) _ fun x hx => ?_) (by rw [List.length_map, List.length_range]; omega)
      obtain ⟨v, hv, rfl⟩ := List.mem_map.mp hx
      have hv := List.mem_range.mp hv
      rw [Int.natAbs_mul]
      exact Nat.le_trans (Nat.mul_le_mul (ent v i hv hi) (ent v j hv hj)) (by decide)
    walk_at "rd"
    refine ⟨(n : Int), rfl, by omega, by omega, ?_⟩
    rw [Int.toNat_natCast]
    intro E2 hE2
    refine lc_new (wk_rng n) (by omega) hE2 (fun _ _ => True.intro) (fun j t H' => Li H' t ((List.range n).map fun jj => T j jj)) (fun j t H H' s l => s _ l) (fun j t H l z => by unfold Li at l; rw [l] at z; cases z) ?_ ?_
    · intro j hj H5 o s5 ho R1 kk
      rw [Int.zero_add]
      walk_at "rd"
      refine ⟨(n : Int), rfl, by omega, by omega, ?_⟩
      rw [Int.toNat_natCast]
      intro E3 hE3
      refine lc_same (n := n) (wk_rng n) (by omega) hE3 (fun _ _ => True.intro) (fun _ => true) (fun jj => V.int (T j jj)) (fun u hu H6 _ R hR => hR H6 (Same.refl H6)) (fun u hu _ H6 s6 R hR => ?_) (fun H6 s6 hl6 => ?_)
      · rw [Int.zero_add]
        walk_at "rd"
        refine ⟨⟨_, SqL.of (s6 _ _ (s5 _ _ hl4))⟩, ?_⟩
        intro E4 hE4
        refine lc_same (n := (rs.map V.ref).length) (wk_list .non) (by rw [List.length_map]; omega) hE4 (fun H' s' => SqL.of (s' _ _ (s6 _ _ (s5 _ _ hl4)))) (fun _ => true) (fun v => V.int ((S.getD v []).getD j 0 * (S.getD v []).getD u 0)) (fun v hv H7 _ R hR => hR H7 (Same.refl H7)) (fun v hv _ H7 s7 R2 hR2 => ?_) (fun H7 s7 hl7 => ?_)
        · rw [List.length_map] at hv
          obtain ⟨row, e1, e2, e3, e4⟩ := srow v hv
          have ev : (rs.map V.ref).getD v .non = V.ref rs[v] := by rw [List.getD_eq_getElem?_getD, List.getElem?_map, List.getElem?_eq_getElem hv]; rfl
          have hrow := s7 _ _ (s6 _ _ (s5 _ _ (sr4 v _ _ (List.getElem?_eq_getElem hv) e1)))
          have q1 := ent v j hv hj
          have q2 := ent v u hv hu
          rw [ev]
          rw [e2] at hR2 q1 q2
          walk_at "rd"
          refine rd_ixL (SqL.of hrow) (int_at (by omega)) ?_
          walk_at "rd"
          refine rd_ixL (SqL.of hrow) (int_at (by omega)) ?_
          refine rd_mulW (wide_mul (a := 2) (b := 2) (by omega) (by omega) (by decide) (by decide) (by decide)) ?_
          exact hR2 H7 (Same.refl H7)
        · rw [filt_yes, List.length_map] at hl7
          walk_at "rd"
          refine rd_sum (ns := (List.range rs.length).map fun v => (S.getD v []).getD j 0 * (S.getD v []).getD u 0) (SqL.of (by rw [hl7, List.map_map]; rfl)) ?_
          rw [← hT]
          exact hR H7 s7
      · refine kk E3 H6 hE3 s6 ?_
        show H6 E3 = _
        rw [hl6, filt_yes, List.map_map]
        rfl
    intro ts H5 s5 hts hnd5 hP5 hfr5 hE5 hl5
    have fr : ∀ b, H4 b = none → H b = none := fun b hb9 => bu4.free (fun z => hb4.live (z ▸ hb9)) hb9
    have L5 : LLf H H5 E2 ((List.range n).map fun i => (List.range n).map fun j => T i j) := LLf.of _ hl5 hts hnd5 (fr _ hE2) (fun r hr => fr _ (hfr5 r hr)) hP5
    have G5 : Good n ((List.range n).map fun i => (List.range n).map fun j => T i j) := ⟨by rw [List.length_map, List.length_range], fun r hr => by
      obtain ⟨i, _, rfl⟩ := List.mem_map.mp hr
      rw [List.length_map, List.length_range], fun i j hi hj => by
      rw [at2_tab hi hj]
      have := tb i j hi hj
      omega, fun i j hi hj => by
      rw [at2_tab hi hj, at2_tab hj hi, hT, hT]
      congr 1
      exact List.map_congr_left fun v _ => Int.mul_comm _ _⟩
    have bd5 : ∀ i, i < n → (at2 ((List.range n).map fun i => (List.range n).map fun j => T i j) i i).natAbs ≤ 36 := fun i hi => by
      rw [at2_tab hi hi]
      exact tb i i hi hi
    have hb5 := hb4.same s5
    have bu5 := bu4.trans (But.same s5)
    generalize ((List.range n).map fun i => (List.range n).map fun j => T i j) = M at L5 G5 bd5
    walk_at "rd"
    refine rd_ite (fun h0 => ?_) (fun h0 => ?_)
    · walk_at "rd"
      refine ⟨a, n, rfl, hb5, by omega, by omega, fun d H6 d0 d1 b6 hb6 => ?_⟩
      obtain ⟨i, rfl⟩ : ∃ i : Nat, d = i := ⟨d.toNat, by omega⟩
      have hi : i < n := by omega
      have L6 := L5.but ha b6
      obtain ⟨w2, r2, y1, y2, y3, y4⟩ := LL.row (K := K) (i := i) L6.ll (by rw [G5.len]; exact hi)
      walk_at "rd"
      refine rd_ixL y1 (ref_at y3) ?_
      walk_at "rd"
      refine rd_ixL y4 (int_at (by rw [G5.row hi]; exact hi)) ?_
      walk_at "rd"
      refine ⟨a, 3, rfl, hb6, by omega, by omega, fun e H7 e0 e1 b7 hb7 => ?_⟩
      have L7 := L6.but ha b7
      walk_at "rd"
      obtain ⟨qs, r, z1, z2, z3, z4, z5, z6⟩ := L7.put (i := i) (j := i) (v := (M.getD i []).getD i 0 - 1 - e) (by rw [G5.len]; exact hi) (by rw [G5.row hi]; exact hi)
      refine rd_ixL (SqL.of z1) (ref_at z2) ?_
      walk_at "rd"
      refine rd_setL z3 (j := i) (ix_nat (by rw [List.length_map, G5.row hi]; exact hi)) List.map_set.symm ?_
      walk_at "rd"
      refine rd_ite (fun h1 => absurd h1 (by omega)) (fun _ => ?_)
      walk_at "rd"
      refine k E2 _ _ (fun b o nb eb => ?_) ?_ z6 (G5.put1 hi ?_)
      · rw [upd_ne (fun z => by rw [z, z5] at eb; cases eb)]
        exact b7 b o nb (b6 b o nb (bu5 b o nb eb))
      · obtain ⟨g, m, cc, eb, rb⟩ := hb7
        exact ⟨g, m, cc, up_oth (fun z => ha (z ▸ z5)) eb, rb⟩
      · have := bd5 i hi
        unfold at2 at this
        omega
    · walk_at "rd"
      refine rd_ite (fun h1 => ?_) (fun h1 => ?_)
      · walk_at "rd"
        refine ⟨(n : Int), rfl, by omega, by omega, ?_⟩
        rw [Int.toNat_natCast]
        refine for_rng (n := n) (fun _ σ' H' => ∃ M v5 v6 v7, σ' = [some (.ref a), some (.int (n : Int)), some (.int way), some (.ref E1), some (.ref E2), v5, v6, v7, none, none] ∧ But a H H' ∧ BagAt H' a ∧ LLf H H' E2 M ∧ Good n M) ⟨M, _, _, _, rfl, bu5, hb5, L5, G5⟩ ?_ ?_
        · rintro i _ H6 hi ⟨M6, v5, v6, v7, rfl, bu6, hb6, L6, G6⟩
          rw [Int.zero_add]
          walk_at "rd"
          refine ⟨(i : Int) + 1, rfl, by omega, by omega, ?_⟩
          have ei : ((i : Int) + 1).toNat = i + 1 := by omega
          rw [ei]
          refine for_rng (n := i + 1) (fun _ σ' H' => ∃ M v5 v7, σ' = [some (.ref a), some (.int (n : Int)), some (.int way), some (.ref E1), some (.ref E2), v5, some (.int (i : Int)), v7, none, none] ∧ But a H H' ∧ BagAt H' a ∧ LLf H H' E2 M ∧ Good n M) ⟨M6, _, _, rfl, bu6, hb6, L6, G6⟩ ?_ ?_
          · rintro j _ H7 hj ⟨M7, v5, v7, rfl, bu7, hb7, L7, G7⟩
            rw [Int.zero_add]
            have hjn : j < n := by omega
            walk_at "rd"
            refine ⟨a, 7, rfl, hb7, by omega, by omega, fun e H8 e0 e1 b8 hb8 => ?_⟩
            have L8 := L7.but ha b8
            walk_at "rd"
            obtain ⟨qs, r, z1, z2, z3, z4, z5, z6⟩ := L8.put (i := i) (j := j) (v := e - 3) (by rw [G7.len]; exact hi) (by rw [G7.row hi]; exact hjn)
            refine rd_ixL (SqL.of z1) (ref_at z2) ?_
            walk_at "rd"
            refine rd_setL z3 (j := j) (ix_nat (by rw [List.length_map, G7.row hi]; exact hjn)) List.map_set.symm ?_
            have bu9 : But a H (upd H8 r (.lst (((M7.getD i []).set j (e - 3)).map V.int))) := fun b o nb eb => by
              rw [upd_ne (fun z => by rw [z, z5] at eb; cases eb)]
              exact b8 b o nb (bu7 b o nb eb)
            have hb9 : BagAt (upd H8 r (.lst (((M7.getD i []).set j (e - 3)).map V.int))) a := by
              obtain ⟨g, m, cc, eb, rb⟩ := hb8
              exact ⟨g, m, cc, up_oth (fun z => ha (z ▸ z5)) eb, rb⟩
            have len9 : (put M7 i j (e - 3)).length = n := by rw [put_len]; exact G7.len
            have wid9 : ∀ r ∈ put M7 i j (e - 3), r.length = n := put_wide G7.wide (by rw [G7.len]; exact hi)
            have row9 : ∀ t, t < n → ((put M7 i j (e - 3)).getD t []).length = n := fun t ht => by
              refine wid9 _ ?_
              rw [List.getD_eq_getElem?_getD, List.getElem?_eq_getElem (by rw [len9]; exact ht)]
              exact List.getElem_mem _
            have ent9 : ((put M7 i j (e - 3)).getD i []).getD j 0 = e - 3 := by
              rw [row_put G7.wide (by rw [G7.len]; exact hi) hjn, if_pos ⟨rfl, rfl⟩]
            generalize upd H8 r (.lst (((M7.getD i []).set j (e - 3)).map V.int)) = H9 at z6 bu9 hb9 ⊢
            obtain ⟨w2, r2, y1, y2, y3, y4⟩ := LL.row (K := K) (i := i) z6.ll (by rw [len9]; exact hi)
            walk_at "rd"
            refine rd_ixL y1 (ref_at y3) ?_
            walk_at "rd"
            refine rd_ixL y4 (int_at (by rw [row9 i hi]; exact hjn)) ?_
            rw [ent9]
            walk_at "rd"
            obtain ⟨qs2, r3, x1, x2, x3, x4, x5, x6⟩ := z6.put (i := j) (j := i) (v := e - 3) (by rw [len9]; exact hjn) (by rw [row9 j hjn]; exact hi)
            refine rd_ixL (SqL.of x1) (ref_at x2) ?_
            walk_at "rd"
            refine rd_setL x3 (j := i) (ix_nat (by rw [List.length_map, row9 j hjn]; exact hi)) List.map_set.symm ?_
            refine ⟨_, _, _, rfl, fun b o nb eb => ?_, ?_, x6, G7.put2 hi hjn (by omega)⟩
            · rw [upd_ne (fun z => by rw [z, x5] at eb; cases eb)]
              exact bu9 b o nb eb
            · obtain ⟨g, m, cc, eb, rb⟩ := hb9
              exact ⟨g, m, cc, up_oth (fun z => ha (z ▸ x5)) eb, rb⟩
          · rintro _ H7 ⟨M7, v5, v7, rfl, bu7, hb7, L7, G7⟩
            exact ⟨M7, _, _, _, rfl, bu7, hb7, L7, G7⟩
        · rintro _ H6 ⟨M6, v5, v6, v7, rfl, bu6, hb6, L6, G6⟩
          walk_at "rd"
          exact k E2 H6 M6 bu6 hb6 L6 G6
      · walk_at "rd"
        exact k E2 H5 M bu5 hb5 L5 G5
end
section
variable {P : Program} {w : World} {K : PySem.W.Frag} {mg : Str → Option Value} {base : Heap}
theorem okare_integers (B : Bi mg) (D : DefAt K mg "are_integers" sare_integers ["values"]) (cis_integer : Cal P w K mg base "is_integer" 3 ["value"] (spInt4)) : Cal P w K mg base "are_integers" 4 ["values"] (spAreInts) := by
  refine cal_of D scare_integers (fun vs H Q E h => ?_) (fun f cdv A outer s H vs Q E hq hr h => ?_)
  · obtain ⟨p, ns, rfl, _⟩ := h; rfl
  · have hu := hr.units
    replace hq := Quiet.deeper hq (envOfC "are_integers" (defScope sare_integers) s.heap.objs.size f cdv)
    have hris_integer := hr.mono (show 3 ≤ 3 by decide)
    obtain ⟨t_SURE_BITS, k_SURE_BITS⟩ := B.c_SURE_BITS
    skip
    refine ⟨_, (pss_cons (ps_for PassesOwn.never (by rfl) (pi_tup (pv 0)) (pg_name (i := 1) scare_integers.nd rfl (by first | exact Or.inl rfl | exact Or.inr rfl)) (pss_one (ps_if (PW.pt (pw_or (pt_cmpR op_isNotTy (pe_callTy (r := RZ.rTy4) (by exact RZ.call_type4) (by rfl) B.b_type (by decide +kernel) (pa_cons (pv 1) pa_nil)) (pe_bltn (v := .ty "int") (u := .type "int") (by rfl) B.b_int (by decide +kernel) rfl) (nomark _)) (pw_or1 (pt_cmpR op_gt (pe_bits (pv 1)) (pe_glob (v := .int 6000) (by rfl) k_SURE_BITS ⟨_, rfl⟩) (nomark _))))) (pss_one (ps_ret (pe_callB (r := rAll K) (by exact (cr_all rfl)) (by rfl) B.b_all (by decide +kernel) (pa_cons (pe_lc (own := [("each", 2)]) (g := gName 2) (tt := tYes) (by rfl) scare_integers.nd (pi_tup (pv 0)) (blkOk_by (own := [("each", 2)]) (N := ["values", "value", "each"]) (sc := defScope sare_integers) (by decide +kernel)) (fun _ _ _ _ _ => (pg_name (i := 2) scare_integers.nd rfl (by first | exact Or.inl rfl | exact Or.inr rfl))) (fun _ _ _ _ _ => pts_nil) (fun _ _ _ _ _ => (qc cis_integer hq hris_integer (by rfl) (pa_cons (pv 2) pa_nil)))) pa_nil)))) pss_nil)))
        (pss_one (ps_ret pe_bl))), ?_⟩
    obtain ⟨p, ns, rfl, hp, n2, hb, k⟩ := h
    refine rd_at [some (.ref p), none, none] rfl ?_
    walk_at "rd"
    refine ⟨⟨_, SqT.of hp⟩, for_tup (K := K) (a := p) (xs := ns.map V.int) (fun i σ' H' => ∃ v1, σ' = [some (.ref p), v1, none] ∧ H' = H) ⟨none, rfl, rfl⟩ (fun i σ' H' _ ⟨_, _, e⟩ => by rw [e]; exact SqT.of hp) ?_ ?_⟩
    · rintro i x _ H' hx ⟨v1, rfl, rfl⟩
      obtain ⟨z, hz, rfl⟩ : ∃ z, ns[i]? = some z ∧ x = .int z := by
        rw [List.getElem?_map] at hx
        cases e : ns[i]? with
        | none => rw [e] at hx; cases hx
        | some z => rw [e] at hx; exact ⟨z, rfl, (Option.some.inj hx).symm⟩
      have sm := bits_small (hb z (List.mem_of_getElem? hz))
      walk_at "rd"
      refine ⟨.int z, "int", rfl, .int z, ?_⟩
      walk_at "rd"
      refine ⟨_, _, rfl, rfl, ?_⟩
      walk_at "rd"
      refine rd_ifb (fun z => absurd z (by decide)) (fun _ => ?_)
      walk_at "rd"
      refine rd_ite (fun e => absurd e (by omega)) (fun _ => ?_)
      walk_at "rd"
      exact ⟨_, rfl, rfl⟩
    · rintro _ H' ⟨v1, rfl, rfl⟩
      walk_at "rd"
      exact k _ (Same.refl _)
end
section
variable {P : Program} {w : World} {K : PySem.W.Frag} {mg : Str → Option Value} {base : Heap}
theorem ok_is_row (B : Bi mg) (D : DefAt K mg "_is_row" s_is_row ["value"]) (care_integers : Cal P w K mg base "are_integers" 4 ["values"] (spAreInts)) : Cal P w K mg base "_is_row" 5 ["value"] (spIsRow) := by
  refine cal_of D sc_is_row (fun vs H Q E h => ?_) (fun f cdv A outer s H vs Q E hq hr h => ?_)
  · obtain ⟨p, ns, rfl, _⟩ := h; rfl
  · have hu := hr.units
    replace hq := Quiet.deeper hq (envOfC "_is_row" (defScope s_is_row) s.heap.objs.size f cdv)
    have hrare_integers := hr.mono (show 4 ≤ 4 by decide)
    obtain ⟨t_MAX_WIDTH, k_MAX_WIDTH⟩ := B.c_MAX_WIDTH
    skip
    refine ⟨_, (pss_one (ps_ret (pe_and (pe_callB (r := rIsi K) (by exact call_isi) (by rfl) B.b_isinstance (by decide +kernel) (pa_cons (pv 0) (pa_cons (pe_bltn (v := .ty "tuple") (u := .type "tuple") (by rfl) B.b_tuple (by decide +kernel) rfl) pa_nil))) (pe_and (pe_chain op_le op_le pe_int (pe_callB (r := rLenQ K) (by exact q_lenQ) (by rfl) B.b_len (by decide +kernel) (pa_cons (pv 0) pa_nil)) (pe_glob (v := .int 28) (by rfl) k_MAX_WIDTH ⟨_, rfl⟩)) (pe_one (qc care_integers hq hrare_integers (by rfl) (pa_cons (pv 0) pa_nil))))))), ?_⟩
    obtain ⟨p, ns, rfl, hp, n1, n2, hb, k⟩ := h
    refine rd_at [some (.ref p)] rfl ?_
    walk_at "rd"
    refine rd_isi (b := true) (.base (.tup hp)) (by decide +kernel) ?_
    walk_at "rd"
    refine rd_lenT (SqT.of hp) ?_
    walk_at "rd"
    rw [List.length_map]
    refine rd_ite (fun _ => ?_) (fun e => absurd (by omega) e)
    walk_at "rd"
    refine rd_ite (fun _ => ?_) (fun e => absurd (by omega) e)
    walk_at "rd"
    exact ⟨p, ns, rfl, hp, n2, hb, k⟩
end
section
variable {P : Program} {w : World} {K : PySem.W.Frag} {mg : Str → Option Value} {base : Heap}
theorem okcleared (B : Bi mg) (D : DefAt K mg "cleared" scleared ["row"]) (c_is_row : Cal P w K mg base "_is_row" 5 ["value"] (spIsRow)) (cdivided : Cal P w K mg base "divided" 1 ["row"] (spDvd)) : Cal P w K mg base "cleared" 6 ["row"] (spDvd) := by
  refine cal_of D sccleared (fun vs H Q E h => ?_) (fun f cdv A outer s H vs Q E hq hr h => ?_)
  · obtain ⟨p, ns, rfl, _⟩ := h; rfl
  · have hu := hr.units
    replace hq := Quiet.deeper hq (envOfC "cleared" (defScope scleared) s.heap.objs.size f cdv)
    have hr_is_row := hr.mono (show 5 ≤ 5 by decide)
    have hrdivided := hr.mono (show 1 ≤ 5 by decide)
    skip
    refine ⟨_, (pss_cons (ps_if (pt_not (pt_val (qc c_is_row hq hr_is_row (by rfl) (pa_cons (pv 0) pa_nil)))) (pss_one L2.ps_never) pss_nil)
        (pss_one (ps_ret (qc cdivided hq hrdivided (by rfl) (pa_cons (pv 0) pa_nil))))), ?_⟩
    obtain ⟨p, ns, rfl, hp, n1, n2, hb, k⟩ := h
    
    refine rd_at [some (.ref p)] rfl ?_
    walk_at "rd"
    refine ⟨p, ns, rfl, hp, n1, n2, hb, fun H1 s1 => ?_⟩
    walk_at "rd"
    refine rd_ifb (fun z => nomatch z) (fun _ => ?_)
    walk_at "rd"
    exact ⟨p, ns, rfl, s1 _ _ hp, n1, n2, hb, fun q H2 s2 hq => k q H2 (s1.trans s2) hq⟩
end
section
variable {P : Program} {w : World} {K : PySem.W.Frag} {mg : Str → Option Value} {base : Heap}
theorem ok_are_rows (B : Bi mg) (D : DefAt K mg "_are_rows" s_are_rows ["value"]) (c_is_row : Cal P w K mg base "_is_row" 5 ["value"] (spIsRow)) : Cal P w K mg base "_are_rows" 6 ["value"] (spTab (.bl true)) := by
  refine cal_of D sc_are_rows (fun vs H Q E h => ?_) (fun f cdv A outer s H vs Q E hq hr h => ?_)
  · obtain ⟨p, n, M, rfl, _⟩ := h; rfl
  · have hu := hr.units
    replace hq := Quiet.deeper hq (envOfC "_are_rows" (defScope s_are_rows) s.heap.objs.size f cdv)
    have hr_is_row := hr.mono (show 5 ≤ 5 by decide)
    obtain ⟨t_MAX_ROWS, k_MAX_ROWS⟩ := B.c_MAX_ROWS
    skip
    refine ⟨_, (pss_cons (ps_if (PW.pt (pw_or (pt_not (pt_val (pe_callB (r := rIsi K) (by exact call_isi) (by rfl) B.b_isinstance (by decide +kernel) (pa_cons (pv 0) (pa_cons (pe_bltn (v := .ty "tuple") (u := .type "tuple") (by rfl) B.b_tuple (by decide +kernel) rfl) pa_nil))))) (pw_or1 (pt_cmpR op_gt (pe_callB (r := rLenQ K) (by exact q_lenQ) (by rfl) B.b_len (by decide +kernel) (pa_cons (pv 0) pa_nil)) (pe_glob (v := .int 60) (by rfl) k_MAX_ROWS ⟨_, rfl⟩) (nomark _))))) (pss_one (ps_ret pe_bl)) pss_nil)
        (pss_cons (ps_for PassesOwn.never (by rfl) (pi_tup (pv 0)) (pg_name (i := 1) sc_are_rows.nd rfl (by first | exact Or.inl rfl | exact Or.inr rfl)) (pss_one (ps_if (PW.pt (pw_or (pt_not (pt_val (qc c_is_row hq hr_is_row (by rfl) (pa_cons (pv 1) pa_nil)))) (pw_or1 (pt_cmpR op_ne (pe_callB (r := rLenQ K) (by exact q_lenQ) (by rfl) B.b_len (by decide +kernel) (pa_cons (pv 1) pa_nil)) (pe_callB (r := rLenQ K) (by exact q_lenQ) (by rfl) B.b_len (by decide +kernel) (pa_cons (pe_ix (r := rIxT K) (by exact ix_tup) (pv 0) pe_int (fun _ _ => rfl)) pa_nil)) (nomark _))))) (pss_one (ps_ret pe_bl)) pss_nil)))
        (pss_one (ps_ret pe_bl)))), ?_⟩
    obtain ⟨p, n, M, rfl, ⟨rs, h1, h2, h3⟩, hsq, hn, k⟩ := h
    have hlen := hsq.len
    refine rd_at [some (.ref p), none] rfl ?_
    walk_at "rd"
    refine rd_isi (b := true) (.base (.tup h1)) (by decide +kernel) ?_
    walk_at "rd"
    refine rd_ifb (fun z => nomatch z) (fun _ => ?_)
    walk_at "rd"
    refine rd_lenT (SqT.of h1) ?_
    walk_at "rd"
    rw [List.length_map]
    refine rd_ite (fun e => absurd e (by omega)) (fun _ => ?_)
    walk_at "rd"
    refine ⟨⟨_, SqT.of h1⟩, for_tup (K := K) (a := p) (xs := rs.map V.ref) (fun i σ' H' => ∃ v1, σ' = [some (.ref p), v1] ∧ Same H H') ⟨none, rfl, Same.refl H⟩ (fun i σ' H' _ ⟨_, _, s'⟩ => SqT.of (s' _ _ h1)) ?_ ?_⟩
    · rintro i x _ H' hx ⟨v1, rfl, s'⟩
      obtain ⟨r, hr, rfl⟩ : ∃ r, rs[i]? = some r ∧ x = .ref r := by
        rw [List.getElem?_map] at hx
        cases e : rs[i]? with
        | none => rw [e] at hx; cases hx
        | some r => rw [e] at hx; exact ⟨r, rfl, (Option.some.inj hx).symm⟩
      have hi : i < rs.length := (List.getElem?_eq_some_iff.mp hr).1
      have hM : i < M.length := by omega
      have h0 : 0 < rs.length := by omega
      have hM0 : 0 < M.length := by omega
      have hw := hsq.sq _ (List.getElem_mem hM)
      have hrow := h3 i r _ hr (List.getElem?_eq_getElem hM)
      walk_at "rd"
      refine ⟨r, M[i], rfl, s' _ _ hrow, by omega, by omega, fun x hx => p200 (hsq.bd _ (List.getElem_mem hM) x hx), fun H2 s2 => ?_⟩
      have s3 := s'.trans s2
      walk_at "rd"
      refine rd_ifb (fun z => nomatch z) (fun _ => ?_)
      walk_at "rd"
      refine rd_lenT (SqT.of (s3 _ _ hrow)) ?_
      walk_at "rd"
      refine rd_ixT (v := .ref rs[0]) (SqT.of (s3 _ _ h1)) (ref_at (i := 0) (List.getElem?_eq_getElem h0)) ?_
      walk_at "rd"
      refine rd_lenT (SqT.of (s3 _ _ (h3 0 _ _ (List.getElem?_eq_getElem h0) (List.getElem?_eq_getElem hM0)))) ?_
      walk_at "rd"
      rw [List.length_map, List.length_map, hw, hsq.sq _ (List.getElem_mem hM0)]
      refine rd_iteN (fun e => absurd rfl e) (fun _ => ?_)
      walk_at "rd"
      exact ⟨_, rfl, s3⟩
    · rintro _ H' ⟨v1, rfl, s'⟩
      walk_at "rd"
      exact k _ s'
end
section
variable {P : Program} {w : World} {K : PySem.W.Frag} {mg : Str → Option Value} {base : Heap}
theorem step_law_minor {n : Nat} {f : Addr} {fd : FuncData} (B : Bi mg) (F : Fun K "_law_minor" "_law_minor" s_law_minor f fd) (c_law_minor : Cal P w K mg base "_law_minor" n ["_law_table"] (spMinP n)) : FnQ P w K mg base (n + 1) f fd ["_law_table"] (spMinN n) := by
  refine quiet_def F sc_law_minor (fun vs H Q E h => ?_) (fun cdv A outer s H vs Q E hq hr h => ?_)
  · obtain ⟨p, M, rfl, _⟩ := h; rfl
  · have hu := hr.units
    replace hq := Quiet.deeper hq (envOfC "_law_minor" (defScope s_law_minor) s.heap.objs.size f cdv)
    have hr_law_minor := hr
    skip
    refine ⟨_, (pss_cons (ps_if (pt_cmpR (r := rEqD K) (by exact (op_eqD hu)) (pv 0) (pe_lst pa_nil) (nomark _)) (pss_one (ps_ret pe_int)) pss_nil)
        (pss_cons (ps_asg (pe_tup (pa_cons pe_int (pa_cons pe_int pa_nil))) (pg_tup (by rfl) (pgs_cons (pg_name (i := 1) sc_law_minor.nd rfl (by first | exact Or.inl rfl | exact Or.inr rfl)) (pgs_cons (pg_name (i := 2) sc_law_minor.nd rfl (by first | exact Or.inl rfl | exact Or.inr rfl)) pgs_nil))))
        (pss_cons (ps_for PassesOwn.never (by rfl) (pi_range1 (by rfl) B.b_range (pa_cons (pe_callB (r := rLenQ K) (by exact q_lenQ) (by rfl) B.b_len (by decide +kernel) (pa_cons (pv 0) pa_nil)) pa_nil)) (pg_name (i := 3) sc_law_minor.nd rfl (by first | exact Or.inl rfl | exact Or.inr rfl)) (pss_cons (ps_if (pt_cmpR op_ne (pe_ix (r := rIxL K) (by exact ix_list) (pe_ix (r := rIxL K) (by exact ix_list) (pv 0) pe_int (fun _ _ => rfl)) (pv 3) (fun _ _ => rfl)) pe_int (nomark _)) (pss_one (ps_set (i := 1) sc_law_minor.nd rfl (by first | exact Or.inl rfl | exact Or.inr rfl) (pe_op op_add (pv 1) (pe_op op_mulW (pe_op op_mulW (pv 2) (pe_ix (r := rIxL K) (by exact ix_list) (pe_ix (r := rIxL K) (by exact ix_list) (pv 0) pe_int (fun _ _ => rfl)) (pv 3) (fun _ _ => rfl))) (qc c_law_minor hq hr_law_minor (by rfl) (pa_cons (pe_lc (own := [("_law_row", 4)]) (g := gName 4) (tt := tYes) (by rfl) sc_law_minor.nd (pi_list (pe_slice (r := rSlL K) (by exact sl_list) (pv 0) (po_some pe_int) po_none)) (blkOk_by (own := [("_law_row", 4)]) (N := ["_law_table", "_law_found", "_law_sign", "_law_at", "_law_row"]) (sc := defScope s_law_minor) (by decide +kernel)) (fun _ _ _ _ _ => (pg_name (i := 4) sc_law_minor.nd rfl (by first | exact Or.inl rfl | exact Or.inr rfl))) (fun _ _ _ _ _ => pts_nil) (fun _ _ _ _ _ => (pe_op op_cat (pe_slice (r := rSlL K) (by exact sl_list) (pv 4) po_none (po_some (pv 3))) (pe_slice (r := rSlL K) (by exact sl_list) (pv 4) (po_some (pe_op op_add (pv 3) pe_int)) po_none)))) pa_nil)))))) pss_nil)
        (pss_one (ps_set (i := 2) sc_law_minor.nd rfl (by first | exact Or.inl rfl | exact Or.inr rfl) (pe_op op_sub pe_int (pv 2))))))
        (pss_one (ps_ret (pv 1)))))), ?_⟩
    obtain ⟨p, M, rfl, hLL, hsq, hn, k⟩ := h
    obtain ⟨rs, h1, h2, h3⟩ := id hLL
    refine rd_at [some (.ref p), none, none, none, none] rfl ?_
    walk_at "rd"
    intro e0 he0
    refine rd_eqD (d := .list (M.map rowD)) (e := .list []) (hLL.same (fun b o e => up_old he0 e)).dp (.lst (SqL.of upd_same) .nil) (rows_shaped M) (by decide +kernel) ?_
    rw [eqv_nil]
    walk_at "rd"
    refine rd_ifb (fun hem => ?_) (fun hem => ?_)
    · have eM : M = [] := by simpa using hem
      subst eM
      walk_at "rd"
      rw [← Alg.lap_nil]
      exact k _ (fun b o e => up_old he0 e)
    walk_at "rd"
    intro t0 ht0
    refine ⟨t0, _, rfl, SqT.of upd_same, rfl, _, _, rfl, ?_⟩
    walk_at "rd"
    refine ⟨_, _, rfl, ?_⟩
    walk_at "rd"
    refine ⟨rfl, ?_⟩
    have same2 : Same H (upd (upd H e0 (.lst [])) t0 (.tup [.int 0, .int 1])) := fun b o e => up_old ht0 (up_old he0 e)
    generalize upd (upd H e0 (.lst [])) t0 (.tup [.int 0, .int 1]) = H2 at same2
    obtain ⟨r0, R, rfl⟩ : ∃ r0 R, M = r0 :: R := by
      cases M with
      | nil => cases hem
      | cons r0 R => exact ⟨r0, R, rfl⟩
    obtain ⟨a0, as, rfl, has⟩ : ∃ a0 as, rs = a0 :: as ∧ as.length = R.length := by
      cases rs with
      | nil => cases h2
      | cons a0 as => exact ⟨a0, as, rfl, Nat.succ.inj h2⟩
    have hRn : R.length + 1 = n := hsq.len
    have hr0 : r0.length = n := hsq.sq r0 List.mem_cons_self
    obtain ⟨m, rfl⟩ : ∃ m, n = m + 1 := ⟨R.length, hRn.symm⟩
    have hsub : ∀ k, (Alg.lap (R.map fun q => q.eraseIdx k)).natAbs < 2 ^ 1016 := fun k => by
      refine Nat.lt_of_le_of_lt (Alg.lap_bound 200 m _ (by rw [List.length_map]; omega) fun q hq => ?_) (Nat.pow_lt_pow_right (by decide) (by omega))
      obtain ⟨q0, hq0, rfl⟩ := List.mem_map.mp hq
      exact ⟨Nat.le_trans (List.length_eraseIdx_le ..) (by rw [hsq.sq q0 (List.mem_cons_of_mem _ hq0)]; omega), fun x hx => hsq.bd q0 (List.mem_cons_of_mem _ hq0) x ((List.eraseIdx_sublist ..).subset hx)⟩
    walk_at "rd"
    refine rd_lenL (SqL.of (same2 _ _ h1)) ?_
    walk_at "rd"
    refine ⟨_, rfl, by rw [List.length_map, List.length_cons]; omega, by rw [List.length_map, List.length_cons]; omega, ?_⟩
    have en : (((a0 :: as).map V.ref).length : Int).toNat = m + 1 := by rw [List.length_map]; show ((as.length + 1 : Nat) : Int).toNat = _; omega
    rw [en]
    refine for_rng (n := m + 1) (fun i σ' H' => ∃ fnd sg v3 v4, σ' = [some (.ref p), some (.int fnd), some (.int sg), v3, v4] ∧ Same H H' ∧ sg.natAbs = 1 ∧ fnd + Alg.lapRow (fun k => Alg.lap (R.map fun q => q.eraseIdx k)) i sg (r0.drop i) = Alg.lap (r0 :: R))
      ⟨0, 1, none, none, rfl, same2, rfl, by rw [Alg.lap_cons, Int.zero_add]; rfl⟩ ?_ ?_
    · rintro i _ H3 hi ⟨fnd, sg, v3, v4, rfl, s3, hsg, hsum⟩
      have hir : i < r0.length := by omega
      have hd : r0.drop i = r0[i] :: r0.drop (i + 1) := List.drop_eq_getElem_cons hir
      rw [hd] at hsum
      have hsum2 : fnd + (sg * r0[i] * Alg.lap (R.map fun q => q.eraseIdx i) + Alg.lapRow (fun k => Alg.lap (R.map fun q => q.eraseIdx k)) (i + 1) (0 - sg) (r0.drop (i + 1))) = Alg.lap (r0 :: R) := hsum
      have row0 : ∀ {H'}, Same H H' → H' a0 = some (.lst (r0.map V.int)) := fun s' => s' _ _ (h3 0 a0 r0 rfl rfl)
      have at0 : ∀ {H'}, Same H H' → SqL K H' p ((a0 :: as).map V.ref) := fun s' => SqL.of (s' _ _ h1)
      have ati : atI (r0.map V.int) (0 + (i : Int)) = some (.int r0[i]) := at_z (by omega) (by
        have e9 : (0 + (i : Int)).toNat = i := by omega
        rw [e9, List.getElem?_map, List.getElem?_eq_getElem hir]
        rfl)
      walk_at "rd"
      refine rd_ixL (v := .ref a0) (at0 s3) (at_nat (j := 0) rfl) ?_
      walk_at "rd"
      refine rd_ixL (SqL.of (row0 s3)) ati ?_
      walk_at "rd"
      refine rd_iteN (fun hz => ?_) (fun hz => ?_)
      · walk_at "rd"
        refine rd_ixL (v := .ref a0) (at0 s3) (at_nat (j := 0) rfl) ?_
        walk_at "rd"
        refine rd_ixL (SqL.of (row0 s3)) ati ?_
        have ba : r0[i].natAbs < 2 ^ 201 := Nat.lt_of_le_of_lt (hsq.bd r0 List.mem_cons_self _ (List.getElem_mem hir)) (Nat.pow_lt_pow_right (by decide) (by decide))
        refine rd_mulW (wide_mul (a := 1) (b := 201) (by rw [hsg]; decide) ba (by decide) (by decide) (by decide)) ?_
        walk_at "rd"
        refine rd_slL (at0 s3) (fun q1 hq1 => ?_)
        have ecut : cutV ((a0 :: as).map V.ref) (some 1) none = as.map V.ref := cut_tail ((a0 :: as).map V.ref) 1
        rw [ecut]
        refine ⟨q1, rfl, ⟨_, SqL.of upd_same⟩, ?_⟩
        intro E1 hE1
        have s4 : Same H (upd H3 q1 (.lst (as.map V.ref))) := fun b o e => up_old hq1 (s3 b o e)
        refine lc_made (n := (as.map V.ref).length) (wk_list .non) (by rw [List.length_map]; omega) hE1 (fun H' s' => SqL.of (s' _ _ upd_same)) (fun j v H' => ∃ t row, v = V.ref t ∧ t ≠ E1 ∧ R[j]? = some row ∧ H' t = some (.lst ((row.eraseIdx i).map V.int))) (fun j v H2 H3 b ⟨t, row, e, ne, em, et⟩ => ⟨t, row, e, ne, em, b _ _ ne et⟩) ?_ ?_
        · intro j hj H5 o s5 ho R1 kk
          rw [List.length_map] at hj
          have ej : (as.map V.ref).getD j .non = V.ref as[j] := by rw [List.getD_eq_getElem?_getD, List.getElem?_map, List.getElem?_eq_getElem hj]; rfl
          rw [ej]
          have hjm : j < R.length := by omega
          have hrow : H5 as[j] = some (.lst (R[j].map V.int)) := s5 _ _ (s4 _ _ (h3 (j + 1) as[j] R[j] (by rw [List.getElem?_cons_succ]; exact List.getElem?_eq_getElem hj) (by rw [List.getElem?_cons_succ]; exact List.getElem?_eq_getElem hjm)))
          walk_at "rd"
          rw [Int.zero_add]
          refine rd_slL (SqL.of hrow) (fun x1 hx1 => ?_)
          rw [cut_head]
          walk_at "rd"
          refine rd_slL (SqL.of (up_old hx1 hrow)) (fun x2 hx2 => ?_)
          have e8 : (i : Int) + 1 = ((i + 1 : Nat) : Int) := by omega
          rw [e8, cut_tail]
          refine ⟨x1, x2, _, _, rfl, rfl, up_old hx2 upd_same, upd_same, ?_, fun t ht => ?_⟩
          · have hlR := hsq.sq R[j] (List.mem_cons_of_mem _ (List.getElem_mem hjm))
            rw [List.length_take, List.length_drop, List.length_map]
            exact Nat.le_trans (show _ ≤ 100 by omega) (by decide)
          · refine kk _ _ (fun b o e => up_old ht (up_old hx2 (up_old hx1 e))) ⟨t, R[j], rfl, fun z => ?_, List.getElem?_eq_getElem hjm, ?_⟩
            · rw [z, up_old hx2 (up_old hx1 ho)] at ht
              cases ht
            · rw [upd_same, erase_cut]
              congr 2
              exact erase_map ..
        · intro ys H5 s5 hy hP hl2
          obtain ⟨ts, rfl⟩ := refs_of (fun j v e => by
            obtain ⟨t, _, e2, _⟩ := hP j v e
            exact ⟨t, e2⟩)
          walk_at "rd"
          refine ⟨E1, R.map fun q => q.eraseIdx i, rfl, ⟨ts, hl2, ?_, fun u r row e1 e2 => ?_⟩, ⟨by rw [List.length_map]; omega, fun q hq => ?_, fun q hq x hx => ?_⟩, by omega, fun H6 s6 => ?_⟩
          · rw [List.length_map] at hy ⊢
            rw [List.length_map] at hy
            omega
          · obtain ⟨t, row', e, _, em, et⟩ := hP u (V.ref r) (by rw [List.getElem?_map, e1]; rfl)
            cases e
            rw [List.getElem?_map, em] at e2
            cases e2
            exact et
          · obtain ⟨q0, hq0, rfl⟩ := List.mem_map.mp hq
            rw [List.length_eraseIdx_of_lt (by rw [hsq.sq q0 (List.mem_cons_of_mem _ hq0)]; exact hi), hsq.sq q0 (List.mem_cons_of_mem _ hq0)]
            rfl
          · obtain ⟨q0, hq0, rfl⟩ := List.mem_map.mp hq
            exact hsq.bd q0 (List.mem_cons_of_mem _ hq0) x ((List.eraseIdx_sublist ..).subset hx)
          · have bm : (sg * r0[i]).natAbs < 2 ^ 201 := by
              rw [Int.natAbs_mul, hsg, Nat.one_mul]
              exact ba
            refine rd_mulW (wide_mul bm (hsub i) (by decide) (by decide) (by decide)) ?_
            walk_at "rd"
            exact ⟨_, _, _, _, rfl, (s4.trans s5).trans s6, by omega, by omega⟩
      · have hz0 : r0[i] = 0 := hz
        rw [hz0, Int.mul_zero, Int.zero_mul, Int.zero_add] at hsum2
        walk_at "rd"
        exact ⟨_, _, _, _, rfl, s3, by omega, hsum2⟩
    · rintro _ H3 ⟨fnd, sg, v3, v4, rfl, s3, hsg, hsum⟩
      have hd : r0.drop (m + 1) = [] := List.drop_eq_nil_of_le (by omega)
      rw [hd] at hsum
      have e9 : fnd = Alg.lap (r0 :: R) := by
        have : fnd + 0 = Alg.lap (r0 :: R) := hsum
        omega
      walk_at "rd"
      rw [e9]
      exact k _ s3
theorem ok_law_minor (B : Bi mg) (D : DefAt K mg "_law_minor" s_law_minor ["_law_table"]) : Cal P w K mg base "_law_minor" 6 ["_law_table"] (spMin) := by
  obtain ⟨f, fd, F, m, b⟩ := D.ex
  have all : ∀ n, FnQ P w K mg base (n + 1) f fd ["_law_table"] (spMinN n) := by
    intro n
    induction n with
    | zero => exact step_law_minor B F ⟨f, fd, ⟨fun vs H Q E h => False.elim h, fun A o s H ar us vs Q E hq hr he hb hv hs => False.elim hs⟩, m, F.kp, b⟩
    | succ n ih => exact step_law_minor B F ⟨f, fd, ih, m, F.kp, b⟩
  exact ⟨f, fd, ⟨fun vs H Q E h => h.elim fun n h => (all n).many vs H Q E h, fun A o s H ar us vs Q E hq hr he hb hv hs => by
    obtain ⟨n, hs⟩ := hs
    have hn : n + 1 ≤ 6 := by
      obtain ⟨_, _, _, _, _, h5, _⟩ := hs
      omega
    exact (all n).goes A o s H ar us vs Q E hq (hr.mono hn) he hb hv hs⟩, m, F.kp, b⟩
end
section
variable {P : Program} {w : World} {K : PySem.W.Frag} {mg : Str → Option Value} {base : Heap}
theorem ok_check_table (B : Bi mg) (D : DefAt K mg "_check_table" s_check_table ["value"]) (c_are_rows : Cal P w K mg base "_are_rows" 6 ["value"] (spTab (.bl true))) (c_width_of : Cal P w K mg base "_width_of" 1 ["rows"] (spWidthOf)) : Cal P w K mg base "_check_table" 7 ["value"] (spTab .non) := by
  refine cal_of D sc_check_table (fun vs H Q E h => ?_) (fun f cdv A outer s H vs Q E hq hr h => ?_)
  · obtain ⟨p, n, M, rfl, _⟩ := h; rfl
  · have hu := hr.units
    replace hq := Quiet.deeper hq (envOfC "_check_table" (defScope s_check_table) s.heap.objs.size f cdv)
    have hr_are_rows := hr.mono (show 6 ≤ 6 by decide)
    have hr_width_of := hr.mono (show 1 ≤ 6 by decide)
    skip
    refine ⟨_, (pss_one (ps_if (PW.pt (pw_or (pt_not (pt_val (qc c_are_rows hq hr_are_rows (by rfl) (pa_cons (pv 0) pa_nil)))) (pw_or1 (pt_cmpR op_ne (pe_callB (r := rLenQ K) (by exact q_lenQ) (by rfl) B.b_len (by decide +kernel) (pa_cons (pv 0) pa_nil)) (qc c_width_of hq hr_width_of (by rfl) (pa_cons (pv 0) pa_nil)) (nomark _))))) (pss_one L2.ps_never) pss_nil)), ?_⟩
    obtain ⟨p, n, M, rfl, hT, hsq, hn, k⟩ := h
    refine rd_at [some (.ref p)] rfl ?_
    walk_at "rd"
    refine ⟨p, n, M, rfl, hT, hsq, hn, fun H1 s1 => ?_⟩
    walk_at "rd"
    refine rd_ifb (fun z => nomatch z) (fun _ => ?_)
    obtain ⟨rs, h1, h2, h3⟩ := id hT
    walk_at "rd"
    refine rd_lenT (SqT.of (s1 _ _ h1)) ?_
    walk_at "rd"
    refine ⟨p, M, rfl, hT.same s1, ?_⟩
    walk_at "rd"
    have e : ((rs.map V.ref).length : Int) = ((M.headD []).length : Int) := by
      rw [List.length_map, h2, hsq.len]
      cases M with
      | nil => rw [← hsq.len]; rfl
      | cons a b => show (n : Int) = (a.length : Int); rw [hsq.sq a List.mem_cons_self]
    refine rd_iteN (fun z => absurd e z) (fun _ => ?_)
    walk_at "rd"
    exact k H1 s1
end
section
variable {P : Program} {w : World} {K : PySem.W.Frag} {mg : Str → Option Value} {base : Heap}
theorem ok_law_is_sum (B : Bi mg) (D : DefAt K mg "_law_is_sum" s_law_is_sum ["_law_table"]) (c_law_minor : Cal P w K mg base "_law_minor" 6 ["_law_table"] (spMin)) : Cal P w K mg base "_law_is_sum" 7 ["_law_table"] (spIsSum) := by
  refine cal_of D sc_law_is_sum (fun vs H Q E h => ?_) (fun f cdv A outer s H vs Q E hq hr h => ?_)
  · obtain ⟨p, n, M, rfl, _⟩ := h; rfl
  · have hu := hr.units
    replace hq := Quiet.deeper hq (envOfC "_law_is_sum" (defScope s_law_is_sum) s.heap.objs.size f cdv)
    have hr_law_minor := hr.mono (show 6 ≤ 6 by decide)
    skip
    refine ⟨_, (pss_cons (ps_set (i := 1) sc_law_is_sum.nd rfl (by first | exact Or.inl rfl | exact Or.inr rfl) (pe_lst (pa_cons (pe_lst pa_nil) pa_nil)))
        (pss_cons (ps_for PassesOwn.never (by rfl) (pi_range1 (by rfl) B.b_range (pa_cons (pe_callB (r := rLenQ K) (by exact q_lenQ) (by rfl) B.b_len (by decide +kernel) (pa_cons (pv 0) pa_nil)) pa_nil)) (pg_name (i := 2) sc_law_is_sum.nd rfl (by first | exact Or.inl rfl | exact Or.inr rfl)) (pss_one (ps_set (i := 1) sc_law_is_sum.nd rfl (by first | exact Or.inl rfl | exact Or.inr rfl) (pe_op op_cat (pv 1) (pe_lc (own := [("_law_lot", 3)]) (g := gName 3) (tt := tYes) (by rfl) sc_law_is_sum.nd (pi_list (pe_callTy (r := rLstOf K) (by exact q_lstOf) (by rfl) B.b_list (by decide +kernel) (pa_cons (pv 1) pa_nil))) (blkOk_by (own := [("_law_lot", 3)]) (N := ["_law_table", "_law_lots", "_law_at", "_law_lot", "_law_i", "_law_j"]) (sc := defScope s_law_is_sum) (by decide +kernel)) (fun _ _ _ _ _ => (pg_name (i := 3) sc_law_is_sum.nd rfl (by first | exact Or.inl rfl | exact Or.inr rfl))) (fun _ _ _ _ _ => pts_nil) (fun _ _ _ _ _ => (pe_op op_cat (pv 3) (pe_lst (pa_cons (pv 2) pa_nil)))))))))
        (pss_one (ps_ret (pe_cmpR (r := rEqD K) (by exact (op_eqD hu)) (pe_lc (own := [("_law_lot", 3)]) (g := gName 3) (by rfl) sc_law_is_sum.nd (pi_list (pv 1)) (blkOk_by (own := [("_law_lot", 3)]) (N := ["_law_table", "_law_lots", "_law_at", "_law_lot", "_law_i", "_law_j"]) (sc := defScope s_law_is_sum) (by decide +kernel)) (fun _ _ _ _ _ => (pg_name (i := 3) sc_law_is_sum.nd rfl (by first | exact Or.inl rfl | exact Or.inr rfl))) (fun _ _ _ _ _ => (pts_one (pt_cmpR op_lt (qc c_law_minor hq hr_law_minor (by rfl) (pa_cons (by exact (pe_lc (own := [("_law_i", 4)]) (wi := iList K (tVar 3)) (g := gName 4) (tt := tYes) (by rfl) sc_law_is_sum.nd (by exact (pi_list (pv 3))) (by exact blkOk_by (by kernel_rfl)) (fun _ _ _ _ _ => (pg_name (i := 4) sc_law_is_sum.nd rfl (by first | exact Or.inl rfl | exact Or.inr rfl))) (fun _ _ _ _ _ => pts_nil) (fun _ _ _ _ _ => (by exact (pe_lc (own := [("_law_j", 5)]) (wi := iList K (tVar 3)) (g := gName 5) (tt := tYes) (by rfl) sc_law_is_sum.nd (by exact (pi_list (pv 3))) (by exact blkOk_by (by kernel_rfl)) (fun _ _ _ _ _ => (pg_name (i := 5) sc_law_is_sum.nd rfl (by first | exact Or.inl rfl | exact Or.inr rfl))) (fun _ _ _ _ _ => pts_nil) (fun _ _ _ _ _ => (pe_ix (r := rIxL K) (by exact ix_list) (pe_ix (r := rIxL K) (by exact ix_list) (pv 0) (pv 4) (fun _ _ => rfl)) (pv 5) (fun _ _ => rfl)))))))) pa_nil)) pe_int (nomark _)))) (fun _ _ _ _ _ => pe_int)) (pe_lst pa_nil) (nomark _)))))), ?_⟩
    obtain ⟨p, n, M, rfl, hLL, hsq, hn, hsym, k⟩ := h
    obtain ⟨rs, h1, h2, h3⟩ := id hLL
    have hlen := hsq.len
    refine rd_at [some (.ref p), none, none, none, none, none] rfl ?_
    walk_at "rd"
    intro e0 he0
    walk_at "rd"
    intro l0 hl0
    walk_at "rd"
    refine rd_lenL (SqL.of (up_old hl0 (up_old he0 h1))) ?_
    walk_at "rd"
    refine ⟨_, rfl, by rw [List.length_map]; omega, by rw [List.length_map]; omega, ?_⟩
    have en : (((rs.map V.ref).length : Nat) : Int).toNat = n := by rw [List.length_map]; omega
    rw [en]
    have pow4 : ∀ i, i ≤ 4 → 2 ^ i ≤ 16 := fun i hi => Nat.pow_le_pow_right (n := 2) (by decide) hi
    refine for_rng (n := n) (fun i σ' H' => ∃ l v2, σ' = [some (.ref p), some (.ref l), v2, none, none, none] ∧ Same H H' ∧ LL H' l (lotsI i)) ⟨l0, none, rfl, fun b o e => up_old hl0 (up_old he0 e), [e0], upd_same, rfl, fun i r row e1 e2 => ?_⟩ ?_ ?_
    · cases i with
      | zero =>
        cases e1
        cases e2
        exact up_old hl0 upd_same
      | succ i =>
        rw [List.getElem?_cons_succ] at e1
        cases e1
    · rintro i _ H2 hi ⟨l, v2, rfl, s2, hl⟩
      obtain ⟨us, u1, u2, u3⟩ := id hl
      have ul : us.length ≤ 16 := by
        rw [u2, lotsI_len]
        exact pow4 i (by omega)
      walk_at "rd"
      refine ⟨l, _, rfl, Or.inl (SqL.of u1), fun c hc => ?_⟩
      walk_at "rd"
      refine ⟨⟨_, SqL.of upd_same⟩, ?_⟩
      intro E1 hE1
      have s3 : Same H2 (upd H2 c (.lst (us.map V.ref))) := fun b o e => up_old hc e
      refine lc_made (n := (us.map V.ref).length) (wk_list .non) (by rw [List.length_map]; omega) hE1 (fun H' s' => SqL.of (s' _ _ upd_same)) (fun j v H' => ∃ t row, v = V.ref t ∧ t ≠ E1 ∧ (lotsI i)[j]? = some row ∧ H' t = some (.lst ((row ++ [(i : Int)]).map V.int))) (fun j v H2 H3 b ⟨t, row, e, ne, em, et⟩ => ⟨t, row, e, ne, em, b _ _ ne et⟩) ?_ ?_
      · intro j hj H5 o s5 ho R1 kk
        rw [List.length_map] at hj
        have ej : (us.map V.ref).getD j .non = V.ref us[j] := by rw [List.getD_eq_getElem?_getD, List.getElem?_map, List.getElem?_eq_getElem hj]; rfl
        rw [ej]
        have hjm : j < (lotsI i).length := by omega
        have hrow : H5 us[j] = some (.lst ((lotsI i)[j].map V.int)) := s5 _ _ (s3 _ _ (u3 j us[j] (lotsI i)[j] (List.getElem?_eq_getElem hj) (List.getElem?_eq_getElem hjm)))
        have hrl : (lotsI i)[j].length ≤ 4 := by
          have hm := List.getElem_mem hjm
          unfold lotsI at hm
          obtain ⟨m, hm1, hm2⟩ := List.mem_map.mp hm
          have hm3 : (lotsI i)[j] = m.map fun (j : Nat) => (j : Int) := hm2.symm
          rw [hm3, List.length_map]
          have := (Alg.lots_bd hm1).1
          omega
        walk_at "rd"
        intro x1 hx1
        rw [Int.zero_add]
        refine ⟨us[j], x1, _, _, rfl, rfl, up_old hx1 hrow, upd_same, ?_, fun t ht => ?_⟩
        · rw [List.length_map]
          exact Nat.le_trans (show _ ≤ 100 by simp only [List.length_cons, List.length_nil]; omega) (by decide)
        · refine kk _ _ (fun b o e => up_old ht (up_old hx1 e)) ⟨t, (lotsI i)[j], rfl, fun z => ?_, List.getElem?_eq_getElem hjm, ?_⟩
          · rw [z, up_old hx1 ho] at ht
            cases ht
          · rw [upd_same, List.map_append]
            rfl
      intro ys H5 s5 hy hP hl5
      obtain ⟨ts, rfl⟩ := refs_of (fun j v e => by
        obtain ⟨t, _, e2, _⟩ := hP j v e
        exact ⟨t, e2⟩)
      rw [List.length_map, List.length_map] at hy
      have sa : Same H2 H5 := s3.trans s5
      refine ⟨l, E1, _, _, rfl, rfl, sa _ _ u1, hl5, ?_, fun q hq => ?_⟩
      · rw [List.length_map, List.length_map]
        exact Nat.le_trans (show _ ≤ 100 by omega) (by decide)
      walk_at "rd"
      refine ⟨q, _, rfl, (s2.trans sa).trans fun b o e => up_old hq e, ?_⟩
      rw [lotsI_succ]
      refine LL.join u2 (by rw [List.length_map]; omega) (fun a r row e1 e2 => up_old hq (sa _ _ (u3 a r row e1 e2))) (fun a r row e1 e2 => ?_) upd_same
      obtain ⟨t, row', e, _, em, et⟩ := hP a (V.ref r) (by rw [List.getElem?_map, e1]; rfl)
      cases e
      rw [List.getElem?_map, em] at e2
      cases e2
      exact up_old hq et
    · rintro _ H2 ⟨l, v2, rfl, s2, hl⟩
      obtain ⟨us, u1, u2, u3⟩ := id hl
      have ul : us.length ≤ 16 := by
        rw [u2, lotsI_len]
        exact pow4 n hn
      walk_at "rd"
      refine ⟨⟨_, SqL.of u1⟩, ?_⟩
      intro E1 hE1
      have hu3 : ∀ u, u < us.length → ∃ lot : List Nat, lot ∈ Alg.lots n ∧ (Alg.lots n).getD u [] = lot ∧ (us.map V.ref).getD u .non = V.ref (us.getD u l) ∧ H2 (us.getD u l) = some (.lst ((lot.map fun (j : Nat) => (j : Int)).map V.int)) := fun u hu => by
        have hm : u < (Alg.lots n).length := by
          rw [u2] at hu
          unfold lotsI at hu
          rwa [List.length_map] at hu
        refine ⟨(Alg.lots n)[u], List.getElem_mem hm, ?_, ?_, ?_⟩
        · rw [List.getD_eq_getElem?_getD, List.getElem?_eq_getElem hm]
          rfl
        · rw [List.getD_eq_getElem?_getD, List.getElem?_map, List.getElem?_eq_getElem hu, List.getD_eq_getElem?_getD, List.getElem?_eq_getElem hu]
          rfl
        · refine u3 u _ _ ?_ ?_
          · rw [List.getD_eq_getElem?_getD, List.getElem?_eq_getElem hu]
            rfl
          · unfold lotsI
            rw [List.getElem?_map, List.getElem?_eq_getElem hm]
            rfl
      refine lc_same (n := (us.map V.ref).length) (wk_list .non) (by rw [List.length_map]; omega) hE1 (fun H' s' => SqL.of (s' _ _ u1)) (fun u => decide (Alg.mi (at2 M) ((Alg.lots n).getD u []) ((Alg.lots n).getD u []) < 0)) (fun _ => V.int 1) (fun u hu H4 s4 R hR => ?_) (fun u hu _ H4 s4 R hR => ?_) (fun H4 s4 hl4 => ?_)
      · rw [List.length_map] at hu
        obtain ⟨lot, hlm, elot, eu, hlot⟩ := hu3 u hu
        obtain ⟨lb1, lb2⟩ := Alg.lots_bd hlm
        rw [eu]
        rw [elot] at hR
        have hlot4 := s4 _ _ hlot
        generalize us.getD u l = r at hlot4
        walk_at "rd"
        refine ⟨⟨_, SqL.of hlot4⟩, ?_⟩
        intro E2 hE2
        have lg : ∀ j, j < lot.length → ((lot.map fun (j : Nat) => (j : Int)).map V.int).getD j .non = V.int ((lot.getD j 0 : Nat) : Int) := fun j hj => by
          rw [List.getD_eq_getElem?_getD, List.getElem?_map, List.getElem?_map, List.getElem?_eq_getElem hj, List.getD_eq_getElem?_getD, List.getElem?_eq_getElem hj]
          rfl
        have lm : ∀ j, j < lot.length → lot.getD j 0 < n := fun j hj => by
          rw [List.getD_eq_getElem?_getD, List.getElem?_eq_getElem hj]
          exact lb2 _ (List.getElem_mem hj)
        have ll : ((lot.map fun (j : Nat) => (j : Int)).map V.int).length = lot.length := by rw [List.length_map, List.length_map]
        refine lc_made (n := ((lot.map fun (j : Nat) => (j : Int)).map V.int).length) (wk_list .non) (by rw [ll]; omega) hE2 (fun H' s' => SqL.of (s' _ _ hlot4)) (fun j v H' => ∃ t, v = V.ref t ∧ t ≠ E2 ∧ H' t = some (.lst ((lot.map fun c => at2 M (lot.getD j 0) c).map V.int))) (fun j v H2 H3 b ⟨t, e, ne, et⟩ => ⟨t, e, ne, b _ _ ne et⟩) ?_ ?_
        · intro j hj H5 o s5 ho R1 kk
          rw [ll] at hj
          rw [lg j hj]
          walk_at "rd"
          refine ⟨⟨_, SqL.of (s5 _ _ hlot4)⟩, ?_⟩
          intro E3 hE3
          refine lc_same (n := ((lot.map fun (j : Nat) => (j : Int)).map V.int).length) (wk_list .non) (by rw [ll]; omega) hE3 (fun H' s' => SqL.of (s' _ _ (s5 _ _ hlot4))) (fun _ => true) (fun v => V.int (at2 M (lot.getD j 0) (lot.getD v 0))) (fun v hv H6 _ R hR => hR H6 (Same.refl H6)) (fun v hv _ H6 s6 R hR => ?_) (fun H6 s6 hl6 => ?_)
          · rw [ll] at hv
            rw [lg v hv]
            obtain ⟨w2, r2, y1, y2, y3, y4⟩ := LL.row (K := K) (i := lot.getD j 0) (hLL.same (((s2.trans s4).trans s5).trans s6)) (by rw [hlen]; exact lm j hj)
            walk_at "rd"
            refine rd_ixL y1 (ref_at y3) ?_
            walk_at "rd"
            refine rd_ixL y4 (int_at ?_) ?_
            · rw [hsq.sq _ ?_]
              · exact lm v hv
              · rw [List.getD_eq_getElem?_getD, List.getElem?_eq_getElem (by rw [hlen]; exact lm j hj)]
                exact List.getElem_mem _
            · exact hR H6 (Same.refl H6)
          · refine kk _ _ s6 ⟨E3, rfl, fun z => ?_, ?_⟩
            · rw [z, ho] at hE3
              cases hE3
            · rw [hl6, filt_yes, ll, List.map_map]
              have e9 := congrArg (List.map fun c => V.int (at2 M (lot.getD j 0) c)) (range_getD 0 lot)
              rw [List.map_map] at e9
              exact congrArg (fun z => some (HO.lst z)) e9
        intro ys H5 s5 hy hP hl5
        obtain ⟨ts, rfl⟩ := refs_of (fun j v e => by
          obtain ⟨t, e2, _⟩ := hP j v e
          exact ⟨t, e2⟩)
        rw [List.length_map, ll] at hy
        walk_at "rd"
        refine ⟨lot.length, E2, lot.map fun r => lot.map fun c => at2 M r c, rfl, ⟨ts, hl5, by rw [List.length_map]; exact hy, fun a t row e1 e2 => ?_⟩, ⟨List.length_map _, fun r hr => ?_, fun r hr x hx => ?_⟩, by omega, fun H6 s6 => ?_⟩
        · obtain ⟨t', e, _, et⟩ := hP a (V.ref t) (by rw [List.getElem?_map, e1]; rfl)
          cases e
          have ha : a < lot.length := by
            have := (List.getElem?_eq_some_iff.mp e1).1
            omega
          rw [List.getElem?_map, List.getElem?_eq_getElem ha] at e2
          cases e2
          rw [List.getD_eq_getElem?_getD, List.getElem?_eq_getElem ha] at et
          exact et
        · obtain ⟨a, _, rfl⟩ := List.mem_map.mp hr
          exact List.length_map _
        · obtain ⟨a, _, rfl⟩ := List.mem_map.mp hr
          obtain ⟨c, _, rfl⟩ := List.mem_map.mp hx
          exact at2_bd hsq a c
        · walk_at "rd"
          exact hR H6 (s5.trans s6)
      · walk_at "rd"
        exact hR H4 (Same.refl H4)
      walk_at "rd"
      intro E4 hE4
      refine rd_eqD (d := .list (((List.range (us.map V.ref).length).filter fun u => decide (Alg.mi (at2 M) ((Alg.lots n).getD u []) ((Alg.lots n).getD u []) < 0)).map fun _ => PyData.int 1)) (e := .list []) (.lst (SqL.of (up_old hE4 hl4)) (dp_ones _)) (.lst (SqL.of upd_same) .nil) (ones_shaped _) (by decide +kernel) ?_
      rw [eqv_nil]
      refine k _ _ ((s2.trans s4).trans fun b o e => up_old hE4 e) ?_
      rw [Alg.Psd_lots hn hsym]
      rw [List.isEmpty_iff, List.map_eq_nil_iff, List.filter_eq_nil_iff]
      have hul : (us.map V.ref).length = (Alg.lots n).length := by
        rw [List.length_map, u2]
        exact List.length_map _
      constructor
      · intro z lot hlot
        obtain ⟨u, hu⟩ := List.getElem?_of_mem hlot
        have hu2 := (List.getElem?_eq_some_iff.mp hu).1
        have q := z u (List.mem_range.mpr (by omega))
        rw [List.getD_eq_getElem?_getD, hu] at q
        have q2 : ¬ Alg.mi (at2 M) lot lot < 0 := fun w => q (decide_eq_true w)
        omega
      · intro z u hu
        have hu2 := List.mem_range.mp hu
        rw [hul] at hu2
        have q := z ((Alg.lots n).getD u []) (by
          rw [List.getD_eq_getElem?_getD, List.getElem?_eq_getElem hu2]
          exact List.getElem_mem hu2)
        intro w
        have w2 := of_decide_eq_true w
        omega
end
section
variable {P : Program} {w : World} {K : PySem.W.Frag} {mg : Str → Option Value} {base : Heap}
theorem ok_law_cleared_right (B : Bi mg) (D : DefAt K mg "_law_cleared_right" s_law_cleared_right ["_law_bag_here"]) (c_law_divisor : Cal P w K mg base "_law_divisor" 1 ["_law_numbers_here"] (spDiv K)) (c_law_draw : Cal P w K mg base "_law_draw" 1 ["_law_bag_here", "_law_total"] (spDraw)) (c_law_numbers : Cal P w K mg base "_law_numbers" 2 ["_law_bag_here", "_law_many", "_law_spread"] (spNum)) (c_law_one_of : Cal P w K mg base "_law_one_of" 2 ["_law_bag_here", "_law_items"] (spOne K)) (ccleared : Cal P w K mg base "cleared" 6 ["row"] (spDvd)) : Cal P w K mg base "_law_cleared_right" 7 ["_law_bag_here"] (spRight) := by
  refine cal_of D sc_law_cleared_right (fun vs H Q E h => ?_) (fun f cdv A outer s H vs Q E hq hr h => ?_)
  · obtain ⟨p, rfl, _⟩ := h; rfl
  · have hu := hr.units
    replace hq := Quiet.deeper hq (envOfC "_law_cleared_right" (defScope s_law_cleared_right) s.heap.objs.size f cdv)
    have hr_law_divisor := hr.mono (show 1 ≤ 6 by decide)
    have hr_law_draw := hr.mono (show 1 ≤ 6 by decide)
    have hr_law_numbers := hr.mono (show 2 ≤ 6 by decide)
    have hr_law_one_of := hr.mono (show 2 ≤ 6 by decide)
    have hrcleared := hr.mono (show 6 ≤ 6 by decide)
    skip
    refine ⟨_, (pss_cons (ps_asg (pe_tup (pa_cons (qc c_law_numbers hq hr_law_numbers (by rfl) (pa_cons (pv 0) (pa_cons (pe_op op_add pe_int (qc c_law_draw hq hr_law_draw (by rfl) (pa_cons (pv 0) (pa_cons pe_int pa_nil)))) (pa_cons pe_int pa_nil)))) (pa_cons (qc c_law_one_of hq hr_law_one_of (by rfl) (pa_cons (pv 0) (pa_cons (pe_lst (pa_cons pe_int (pa_cons pe_int (pa_cons (pe_un un_neg pe_int) (pa_cons (pe_op op_pow pe_int pe_int) (pa_cons pe_int pa_nil)))))) pa_nil))) pa_nil))) (pg_tup (by rfl) (pgs_cons (pg_name (i := 1) sc_law_cleared_right.nd rfl (by first | exact Or.inl rfl | exact Or.inr rfl)) (pgs_cons (pg_name (i := 2) sc_law_cleared_right.nd rfl (by first | exact Or.inl rfl | exact Or.inr rfl)) pgs_nil))))
        (pss_cons (ps_set (i := 3) sc_law_cleared_right.nd rfl (by first | exact Or.inl rfl | exact Or.inr rfl) (pe_callTy (r := rTupOf K) (by exact q_tupOf) (by rfl) B.b_tuple (by decide +kernel) (pa_cons (pe_lc (own := [("_law_one", 6)]) (g := gName 6) (tt := tYes) (by rfl) sc_law_cleared_right.nd (pi_list (pv 1)) (blkOk_by (own := [("_law_one", 6)]) (N := ["_law_bag_here", "_law_row", "_law_factor", "_law_wide_here", "_law_divisor_here", "_law_due", "_law_one"]) (sc := defScope s_law_cleared_right) (by decide +kernel)) (fun _ _ _ _ _ => (pg_name (i := 6) sc_law_cleared_right.nd rfl (by first | exact Or.inl rfl | exact Or.inr rfl))) (fun _ _ _ _ _ => pts_nil) (fun _ _ _ _ _ => (pe_op op_mulW (pv 2) (pv 6)))) pa_nil)))
        (pss_cons (ps_set (i := 4) sc_law_cleared_right.nd rfl (by first | exact Or.inl rfl | exact Or.inr rfl) (qc c_law_divisor hq hr_law_divisor (by rfl) (pa_cons (pv 3) pa_nil)))
        (pss_cons (ps_set (i := 5) sc_law_cleared_right.nd rfl (by first | exact Or.inl rfl | exact Or.inr rfl) (pe_ifExp (pt_cmpR op_eq (pv 4) pe_int (nomark _)) (pv 3) (pe_callTy (r := rTupOf K) (by exact q_tupOf) (by rfl) B.b_tuple (by decide +kernel) (pa_cons (pe_lc (own := [("_law_one", 6)]) (g := gName 6) (tt := tYes) (by rfl) sc_law_cleared_right.nd (pi_tup (pv 3)) (blkOk_by (own := [("_law_one", 6)]) (N := ["_law_bag_here", "_law_row", "_law_factor", "_law_wide_here", "_law_divisor_here", "_law_due", "_law_one"]) (sc := defScope s_law_cleared_right) (by decide +kernel)) (fun _ _ _ _ _ => (pg_name (i := 6) sc_law_cleared_right.nd rfl (by first | exact Or.inl rfl | exact Or.inr rfl))) (fun _ _ _ _ _ => pts_nil) (fun _ _ _ _ _ => (pe_op op_fdivW (pv 6) (pv 4)))) pa_nil))))
        (pss_one (ps_ret (pe_and (pe_cmpR (r := rEqD K) (by exact (op_eqD hu)) (qc ccleared hq hrcleared (by rfl) (pa_cons (pv 3) pa_nil)) (pv 5) (nomark _)) (pe_and (pe_callB (r := rIsi K) (by exact call_isi) (by rfl) B.b_isinstance (by decide +kernel) (pa_cons (qc ccleared hq hrcleared (by rfl) (pa_cons (pv 3) pa_nil)) (pa_cons (pe_bltn (v := .ty "tuple") (u := .type "tuple") (by rfl) B.b_tuple (by decide +kernel) rfl) pa_nil))) (pe_one (pe_cmpR (r := rEqD K) (by exact (op_eqD hu)) (qc ccleared hq hrcleared (by rfl) (pa_cons (qc ccleared hq hrcleared (by rfl) (pa_cons (pv 3) pa_nil)) pa_nil)) (pv 5) (nomark _))))))))))), ?_⟩
    obtain ⟨a, rfl, hb, k⟩ := h
    refine rd_at [some (.ref a), none, none, none, none, none, none] rfl ?_
    walk_at "rd"
    refine ⟨a, 28, rfl, hb, by omega, by omega, fun c H1 c0 c1 b1 hb1 => ?_⟩
    walk_at "rd"
    refine ⟨a, 1 + c, 6, rfl, hb1, by omega, by omega, by omega, by omega, fun q H2 ns hq b2 hb2 hns nl nb => ?_⟩
    walk_at "rd"
    intro l hl
    walk_at "rd"
    have la : l ≠ a := fun z => by
      obtain ⟨_, _, _, e, _⟩ := hb2
      rw [z, e] at hl
      cases hl
    refine ⟨a, .ref l, rfl, hb2.old hl, Or.inl ⟨l, _, rfl, la, SqL.of upd_same, by decide, by decide, fun v H3 hv b3 hb3 => ?_⟩⟩
    obtain ⟨f, rfl, hf⟩ : ∃ f : Int, v = .int f ∧ f.natAbs ≤ 10 ^ 50 := by
      simp only [List.mem_cons, List.not_mem_nil, or_false] at hv
      rcases hv with rfl | rfl | rfl | rfl | rfl
      · exact ⟨_, rfl, by decide⟩
      · exact ⟨_, rfl, by decide⟩
      · exact ⟨_, rfl, by decide⟩
      · exact ⟨_, rfl, by decide⟩
      · exact ⟨_, rfl, by decide⟩
    walk_at "rd"
    intro t ht
    refine ⟨t, _, rfl, SqT.of upd_same, rfl, ?_⟩
    refine ⟨.ref q, [.int f], rfl, ?_⟩
    walk_at "rd"
    refine ⟨.int f, [], rfl, ?_⟩
    walk_at "rd"
    refine ⟨rfl, ?_⟩
    have qa : q ≠ a := fun z => by
      obtain ⟨_, _, _, e, _⟩ := hb1
      rw [z, e] at hq
      cases hq
    have hq4 : (upd H3 t (.tup [.ref q, .int f])) q = some (.lst (ns.map V.int)) := up_old ht (b3 q _ qa (up_old hl hns))
    have hb4 : BagAt (upd H3 t (.tup [.ref q, .int f])) a := hb3.old ht
    have bu4 : But a H (upd H3 t (.tup [.ref q, .int f])) := ((b1.trans b2).trans ((But.new hl).trans b3)).trans (But.new ht)
    generalize upd H3 t (.tup [.ref q, .int f]) = H4 at hq4 hb4 bu4 ⊢
    have f200 : f.natAbs < 2 ^ 1100 := by
      have h1 : (10 : Nat) ^ 50 ≤ (2 ^ 4) ^ 50 := Nat.pow_le_pow_left (by decide) 50
      have h2 : ((2 : Nat) ^ 4) ^ 50 = 2 ^ 200 := (Nat.pow_mul 2 4 50).symm
      have h3 : (2 : Nat) ^ 200 < 2 ^ 1100 := Nat.pow_lt_pow_right (by decide) (by decide)
      omega
    have x200 : ∀ x ∈ ns, x.natAbs < 2 ^ 1100 := fun x hx => by
      have h1 := nb x hx
      have h3 : (2 : Nat) ^ 3 < 2 ^ 1100 := Nat.pow_lt_pow_right (by decide) (by decide)
      omega
    have wb : ∀ x ∈ ns.map (fun x => f * x), x.natAbs < 10 ^ 200 := fun x hx => by
      obtain ⟨y, hy, rfl⟩ := List.mem_map.mp hx
      have h1 := nb y hy
      rw [Int.natAbs_mul]
      have h2 : f.natAbs * y.natAbs ≤ 10 ^ 50 * 6 := Nat.mul_le_mul hf (by omega)
      have h3 : (10 : Nat) ^ 50 * 6 < 10 ^ 50 * 10 ^ 150 := Nat.mul_lt_mul_of_pos_left (Nat.lt_of_lt_of_le (by decide : 6 < 10 ^ 1) (Nat.pow_le_pow_right (by decide) (by decide))) (Nat.pow_pos (by decide))
      have h4 : (10 : Nat) ^ 50 * 10 ^ 150 = 10 ^ 200 := (Nat.pow_add 10 50 150).symm
      omega
    have nl2 : ns.length = (1 + c).toNat := nl
    walk_at "rd"
    refine ⟨⟨_, SqL.of hq4⟩, ?_⟩
    intro E1 hE1
    refine lc_same (n := (ns.map V.int).length) (wk_list .non) (by rw [List.length_map]; omega) hE1 (fun H5 s5 => SqL.of (s5 _ _ hq4)) (fun _ => true) (fun u => V.int (f * ns.getD u 0)) (fun u hu H5 _ R hR => hR H5 (Same.refl H5)) (fun u hu _ H5 s5 R hR => ?_) (fun H5 s5 hl5 => ?_)
    · rw [List.length_map] at hu
      rw [int_get hu]
      walk_at "rd"
      refine rd_mulW ?_ ?_
      · have mem : ns.getD u 0 ∈ ns := by
          rw [List.getD_eq_getElem?_getD, List.getElem?_eq_getElem hu]
          exact List.getElem_mem _
        have h1 := log9000 (x200 _ mem)
        have h2 := log9000 f200
        show f.natAbs.log2 + _ < 1000000
        omega
      · exact hR H5 (Same.refl H5)
    have hl6 : H5 E1 = some (.lst ((ns.map fun x => f * x).map V.int)) := by
      rw [hl5, filt_yes, List.length_map, List.map_map]
      have := congrArg (List.map fun x => V.int (f * x)) (range_getD 0 ns)
      rw [List.map_map] at this
      exact congrArg (fun z => some (HO.lst z)) this
    walk_at "rd"
    refine ⟨E1, _, rfl, Or.inl ⟨SqL.of hl6, fun t5 ht5 => ?_⟩⟩
    have bu6 : But a H (upd H5 t5 (.tup ((ns.map fun x => f * x).map V.int))) := fun b o nb e => up_old ht5 (s5 _ _ (bu4 b o nb e))
    have hb6 : BagAt (upd H5 t5 (.tup ((ns.map fun x => f * x).map V.int))) a := by
      refine BagAt.old ht5 ?_
      obtain ⟨g, m, c, e, r⟩ := hb4
      exact ⟨g, m, c, s5 _ _ e, r⟩
    have ht6 : (upd H5 t5 (.tup ((ns.map fun x => f * x).map V.int))) t5 = some (.tup ((ns.map fun x => f * x).map V.int)) := upd_same
    generalize upd H5 t5 (.tup ((ns.map fun x => f * x).map V.int)) = H6 at bu6 hb6 ht6 ⊢
    have wl : (ns.map fun x => f * x).length = ns.length := List.length_map _
    generalize (ns.map fun x => f * x) = W at wb ht6 wl ⊢
    walk_at "rd"
    refine ⟨t5, W, rfl, SqT.of ht6, by omega, ?_⟩
    walk_at "rd"
    refine rd_ite (fun h0 => ?_) (fun h0 => ?_)
    · walk_at "rd"
      have hd : H6 t5 = some (.tup ((dvd W).map V.int)) := by unfold dvd; rw [if_pos (by omega)]; exact ht6
      refine ⟨t5, W, rfl, ht6, by omega, by omega, wb, fun r1 G1 g1 hr1 => ?_⟩
      walk_at "rd"
      refine rd_eqD (tupD_dp hr1) (tupD_dp (g1 _ _ hd)) (tupD_shaped _) (tupD_shaped _) ?_
      rw [tupD_eqv]
      walk_at "rd"
      refine ⟨t5, W, rfl, g1 _ _ ht6, by omega, by omega, wb, fun r2 G2 g2 hr2 => ?_⟩
      walk_at "rd"
      refine rd_isi (b := true) (.base (.tup hr2)) (by decide +kernel) ?_
      refine ⟨true, rfl, ?_⟩
      refine rd_ifb (fun _ => ?_) (fun z => nomatch z)
      walk_at "rd"
      refine ⟨t5, W, rfl, g2 _ _ (g1 _ _ ht6), by omega, by omega, wb, fun r3 G3 g3 hr3 => ?_⟩
      walk_at "rd"
      refine ⟨r3, dvd W, rfl, hr3, by rw [dvd_len]; omega, by rw [dvd_len]; omega, dvd_bd wb, fun r4 G4 g4 hr4 => ?_⟩
      rw [dvd_dvd] at hr4
      walk_at "rd"
      refine rd_eqD (tupD_dp hr4) (tupD_dp (g4 _ _ (g3 _ _ (g2 _ _ (g1 _ _ hd))))) (tupD_shaped _) (tupD_shaped _) ?_
      rw [tupD_eqv]
      have sm := ((g1.trans g2).trans g3).trans g4
      exact k G4 (fun b o nb e => sm _ _ (bu6 b o nb e)) (by
        obtain ⟨g, m, c, e, r⟩ := hb6
        exact ⟨g, m, c, sm _ _ e, r⟩)
    · walk_at "rd"
      refine ⟨⟨_, SqT.of ht6⟩, ?_⟩
      intro E2 hE2
      have gb : ∀ (l : List Int) (B g : Nat), g < B → (∀ x ∈ l, x.natAbs < B) → gl l g < B := fun l B => by
        induction l with
        | nil => exact fun g h _ => h
        | cons x r ih =>
          intro g h hx
          refine ih _ ?_ (fun y hy => hx y (List.mem_cons_of_mem _ hy))
          rcases Nat.eq_zero_or_pos g with z | z
          · rw [z, Nat.gcd_zero_left]
            exact hx x List.mem_cons_self
          · exact Nat.lt_of_le_of_lt (Nat.gcd_le_left _ z) h
      have gb2 : gl W 0 < 10 ^ 200 := gb W _ 0 (Nat.pow_pos (by decide)) wb
      have hg0 : (0 : Int) < (gl W 0 : Nat) := by omega
      have g9 : ((gl W 0 : Nat) : Int).natAbs.log2 < 9000 := by
        refine log9000 (x := ((gl W 0 : Nat) : Int)) ?_
        rw [Int.natAbs_natCast]
        have h1 : (10 : Nat) ^ 200 ≤ (2 ^ 4) ^ 200 := Nat.pow_le_pow_left (by decide) 200
        have h2 : ((2 : Nat) ^ 4) ^ 200 = 2 ^ 800 := (Nat.pow_mul 2 4 200).symm
        have h3 : (2 : Nat) ^ 800 < 2 ^ 1100 := Nat.pow_lt_pow_right (by decide) (by decide)
        omega
      refine lc_same (n := (W.map V.int).length) (wk_tup .non) (by rw [List.length_map]; omega) hE2 (fun H7 s7 => SqT.of (s7 _ _ ht6)) (fun _ => true) (fun u => V.int (W.getD u 0 / (gl W 0 : Nat))) (fun u hu H7 _ R hR => hR H7 (Same.refl H7)) (fun u hu _ H7 s7 R hR => ?_) (fun H7 s7 hl7 => ?_)
      · rw [List.length_map] at hu
        rw [int_get hu]
        walk_at "rd"
        refine rd_fdivW ⟨hg0, g9⟩ ?_
        exact hR H7 (Same.refl H7)
      walk_at "rd"
      refine ⟨E2, _, rfl, Or.inl ⟨SqL.of hl7, fun t8 ht8 => ?_⟩⟩
      have s8 : Same H6 (upd H7 t8 (.tup ((List.filter (fun _ => true) (List.range (W.map V.int).length)).map fun u => V.int (W.getD u 0 / (gl W 0 : Nat))))) := fun b o e => up_old ht8 (s7 _ _ e)
      have hd : (upd H7 t8 (.tup ((List.filter (fun _ => true) (List.range (W.map V.int).length)).map fun u => V.int (W.getD u 0 / (gl W 0 : Nat))))) t8 = some (.tup ((dvd W).map V.int)) := by
        rw [upd_same, filt_yes, List.length_map]
        unfold dvd
        rw [if_neg (by omega), List.map_map]
        have := congrArg (List.map fun x => V.int (x / (gl W 0 : Nat))) (range_getD 0 W)
        rw [List.map_map] at this
        exact congrArg (fun z => some (HO.tup z)) this
      generalize (upd H7 t8 (.tup ((List.filter (fun _ => true) (List.range (W.map V.int).length)).map fun u => V.int (W.getD u 0 / (gl W 0 : Nat))))) = H8 at s8 hd ⊢
      have ht6 := s8 _ _ ht6
      have bu6 : But a H H8 := fun b o nb e => s8 _ _ (bu6 b o nb e)
      have hb6 : BagAt H8 a := by
        obtain ⟨g, m, c, e, r⟩ := hb6
        exact ⟨g, m, c, s8 _ _ e, r⟩
      walk_at "rd"
      refine ⟨t5, W, rfl, ht6, by omega, by omega, wb, fun r1 G1 g1 hr1 => ?_⟩
      walk_at "rd"
      refine rd_eqD (tupD_dp hr1) (tupD_dp (g1 _ _ hd)) (tupD_shaped _) (tupD_shaped _) ?_
      rw [tupD_eqv]
      walk_at "rd"
      refine ⟨t5, W, rfl, g1 _ _ ht6, by omega, by omega, wb, fun r2 G2 g2 hr2 => ?_⟩
      walk_at "rd"
      refine rd_isi (b := true) (.base (.tup hr2)) (by decide +kernel) ?_
      refine ⟨true, rfl, ?_⟩
      refine rd_ifb (fun _ => ?_) (fun z => nomatch z)
      walk_at "rd"
      refine ⟨t5, W, rfl, g2 _ _ (g1 _ _ ht6), by omega, by omega, wb, fun r3 G3 g3 hr3 => ?_⟩
      walk_at "rd"
      refine ⟨r3, dvd W, rfl, hr3, by rw [dvd_len]; omega, by rw [dvd_len]; omega, dvd_bd wb, fun r4 G4 g4 hr4 => ?_⟩
      rw [dvd_dvd] at hr4
      walk_at "rd"
      refine rd_eqD (tupD_dp hr4) (tupD_dp (g4 _ _ (g3 _ _ (g2 _ _ (g1 _ _ hd))))) (tupD_shaped _) (tupD_shaped _) ?_
      rw [tupD_eqv]
      have sm := ((g1.trans g2).trans g3).trans g4
      exact k G4 (fun b o nb e => sm _ _ (bu6 b o nb e)) (by
        obtain ⟨g, m, c, e, r⟩ := hb6
        exact ⟨g, m, c, sm _ _ e, r⟩)
end
section
variable {P : Program} {w : World} {K : PySem.W.Frag} {mg : Str → Option Value} {base : Heap}
theorem okdeterminant (B : Bi mg) (D : DefAt K mg "determinant" sdeterminant ["table"]) (c_check_table : Cal P w K mg base "_check_table" 7 ["value"] (spTab .non)) (cdeterminant_of : Cal P w K mg base "determinant_of" 2 ["table"] (spDetOf)) : Cal P w K mg base "determinant" 8 ["table"] (spDetOf) := by
  refine cal_of D scdeterminant (fun vs H Q E h => ?_) (fun f cdv A outer s H vs Q E hq hr h => ?_)
  · obtain ⟨p, n, M, rfl, _⟩ := h; rfl
  · have hu := hr.units
    replace hq := Quiet.deeper hq (envOfC "determinant" (defScope sdeterminant) s.heap.objs.size f cdv)
    have hr_check_table := hr.mono (show 7 ≤ 7 by decide)
    have hrdeterminant_of := hr.mono (show 2 ≤ 7 by decide)
    skip
    refine ⟨_, (pss_cons (ps_expr (qc c_check_table hq hr_check_table (by rfl) (pa_cons (pv 0) pa_nil)))
        (pss_one (ps_ret (qc cdeterminant_of hq hrdeterminant_of (by rfl) (pa_cons (pv 0) pa_nil))))), ?_⟩
    obtain ⟨p, n, M, rfl, hT, hsq, hn, k⟩ := h
    refine rd_at [some (.ref p)] rfl ?_
    walk_at "rd"
    refine ⟨p, n, M, rfl, hT, hsq, hn, fun H1 s1 => ?_⟩
    walk_at "rd"
    exact ⟨p, n, M, rfl, hT.same s1, hsq, hn, fun H2 s2 => k H2 (s1.trans s2)⟩
end
section
variable {P : Program} {w : World} {K : PySem.W.Frag} {mg : Str → Option Value} {base : Heap}
theorem okis_square_sum (B : Bi mg) (D : DefAt K mg "is_square_sum" sis_square_sum ["table"]) (c_check_table : Cal P w K mg base "_check_table" 7 ["value"] (spTab .non)) (c_is_symmetric : Cal P w K mg base "_is_symmetric" 1 ["table"] (spSym)) (cis_sum_of_squares : Cal P w K mg base "is_sum_of_squares" 3 ["table"] (spPsd)) : Cal P w K mg base "is_square_sum" 8 ["table"] (spPsd) := by
  refine cal_of D scis_square_sum (fun vs H Q E h => ?_) (fun f cdv A outer s H vs Q E hq hr h => ?_)
  · obtain ⟨p, n, M, rfl, _⟩ := h; rfl
  · have hu := hr.units
    replace hq := Quiet.deeper hq (envOfC "is_square_sum" (defScope sis_square_sum) s.heap.objs.size f cdv)
    have hr_check_table := hr.mono (show 7 ≤ 7 by decide)
    have hr_is_symmetric := hr.mono (show 1 ≤ 7 by decide)
    have hris_sum_of_squares := hr.mono (show 3 ≤ 7 by decide)
    skip
    refine ⟨_, (pss_cons (ps_expr (qc c_check_table hq hr_check_table (by rfl) (pa_cons (pv 0) pa_nil)))
        (pss_cons (ps_if (pt_not (pt_val (qc c_is_symmetric hq hr_is_symmetric (by rfl) (pa_cons (pv 0) pa_nil)))) (pss_one L2.ps_never) pss_nil)
        (pss_one (ps_ret (qc cis_sum_of_squares hq hris_sum_of_squares (by rfl) (pa_cons (pv 0) pa_nil)))))), ?_⟩
    obtain ⟨p, n, M, rfl, hT, hsq, hn, hs, k⟩ := h
    refine rd_at [some (.ref p)] rfl ?_
    walk_at "rd"
    refine ⟨p, n, M, rfl, hT, hsq, hn, fun H1 s1 => ?_⟩
    walk_at "rd"
    refine ⟨p, n, M, rfl, hT.same s1, hsq, hn, hs, fun H2 s2 => ?_⟩
    walk_at "rd"
    refine rd_ifb (fun z => nomatch z) (fun _ => ?_)
    walk_at "rd"
    exact ⟨p, n, M, rfl, (hT.same s1).same s2, hsq, hn, hs, fun b H3 s3 e => k b H3 ((s1.trans s2).trans s3) e⟩
end
section
variable {P : Program} {w : World} {K : PySem.W.Frag} {mg : Str → Option Value} {base : Heap}
theorem ok_law_tables_right (B : Bi mg) (D : DefAt K mg "_law_tables_right" s_law_tables_right ["_law_bag_here"]) (c_law_draw : Cal P w K mg base "_law_draw" 1 ["_law_bag_here", "_law_total"] (spDraw)) (c_law_minor : Cal P w K mg base "_law_minor" 6 ["_law_table"] (spMin)) (c_law_numbers : Cal P w K mg base "_law_numbers" 2 ["_law_bag_here", "_law_many", "_law_spread"] (spNum)) (c_law_one_of : Cal P w K mg base "_law_one_of" 2 ["_law_bag_here", "_law_items"] (spOne K)) (c_law_wide : Cal P w K mg base "_law_wide" 1 ["_law_table", "_law_factor"] (spWide K)) (cdeterminant : Cal P w K mg base "determinant" 8 ["table"] (spDetOf)) : Cal P w K mg base "_law_tables_right" 9 ["_law_bag_here"] (spRight) := by
  refine cal_of D sc_law_tables_right (fun vs H Q E h => ?_) (fun f cdv A outer s H vs Q E hq hr h => ?_)
  · obtain ⟨p, rfl, _⟩ := h; rfl
  · have hu := hr.units
    replace hq := Quiet.deeper hq (envOfC "_law_tables_right" (defScope s_law_tables_right) s.heap.objs.size f cdv)
    have hr_law_draw := hr.mono (show 1 ≤ 8 by decide)
    have hr_law_minor := hr.mono (show 6 ≤ 8 by decide)
    have hr_law_numbers := hr.mono (show 2 ≤ 8 by decide)
    have hr_law_one_of := hr.mono (show 2 ≤ 8 by decide)
    have hr_law_wide := hr.mono (show 1 ≤ 8 by decide)
    have hrdeterminant := hr.mono (show 8 ≤ 8 by decide)
    skip
    refine ⟨_, (pss_cons (ps_set (i := 1) sc_law_tables_right.nd rfl (by first | exact Or.inl rfl | exact Or.inr rfl) (qc c_law_draw hq hr_law_draw (by rfl) (pa_cons (pv 0) (pa_cons pe_int pa_nil))))
        (pss_cons (ps_set (i := 2) sc_law_tables_right.nd rfl (by first | exact Or.inl rfl | exact Or.inr rfl) (pe_lc (own := [("_law_turn", 9)]) (g := gName 9) (tt := tYes) (by rfl) sc_law_tables_right.nd (pi_range1 (by rfl) B.b_range (pa_cons (pv 1) pa_nil)) (blkOk_by (own := [("_law_turn", 9)]) (N := ["_law_bag_here", "_law_many", "_law_table", "_law_due", "_law_turned", "_law_great", "_law_first", "_law_at", "_law_changed", "_law_turn", "_law_row", "_law_one"]) (sc := defScope s_law_tables_right) (by decide +kernel)) (fun _ _ _ _ _ => (pg_name (i := 9) sc_law_tables_right.nd rfl (by first | exact Or.inl rfl | exact Or.inr rfl))) (fun _ _ _ _ _ => pts_nil) (fun _ _ _ _ _ => (qc c_law_numbers hq hr_law_numbers (by rfl) (pa_cons (pv 0) (pa_cons (pv 1) (pa_cons pe_int pa_nil)))))))
        (pss_cons (ps_set (i := 3) sc_law_tables_right.nd rfl (by first | exact Or.inl rfl | exact Or.inr rfl) (qc c_law_minor hq hr_law_minor (by rfl) (pa_cons (pv 2) pa_nil)))
        (pss_cons (ps_if (pt_cmpR op_ne (pe_callB (r := rShow K) (by exact (call_show hq hu)) (by rfl) B.b_repr (by decide +kernel) (pa_cons (qc cdeterminant hq hrdeterminant (by rfl) (pa_cons (qc c_law_wide hq hr_law_wide (by rfl) (pa_cons (pv 2) (pa_cons pe_int pa_nil))) pa_nil)) pa_nil)) (pe_callB (r := rShow K) (by exact (call_show hq hu)) (by rfl) B.b_repr (by decide +kernel) (pa_cons (pv 3) pa_nil)) (nomark _)) (pss_one (ps_ret pe_bl)) pss_nil)
        (pss_cons (ps_if (pt_cmpR op_eq (pv 1) pe_int (nomark _)) (pss_one (ps_ret (pe_cmpR op_eq (pv 3) pe_int (nomark _)))) pss_nil)
        (pss_cons (ps_setLc (i := 4) (own := [("_law_at", 7)]) (g := gName 7) (tt := tYes) (by rfl) sc_law_tables_right.nd rfl rfl (sw_true rfl rfl rfl (by decide +kernel)) (pi_range1 (by rfl) B.b_range (pa_cons (pv 1) pa_nil)) (blkOk_by (own := [("_law_at", 7)]) (N := ["_law_bag_here", "_law_many", "_law_table", "_law_due", "_law_turned", "_law_great", "_law_first", "_law_at", "_law_changed", "_law_turn", "_law_row", "_law_one"]) (sc := defScope s_law_tables_right) (by decide +kernel)) (fun _ _ _ _ _ => (pg_name (i := 7) sc_law_tables_right.nd rfl (by first | exact Or.inl rfl | exact Or.inr rfl))) (fun _ _ _ _ _ => pts_nil) (fun _ _ _ _ _ => (by exact (pe_lc (own := [("_law_row", 10)]) (wi := iList K (tVar 2)) (g := gName 10) (tt := tYes) (by rfl) sc_law_tables_right.nd (by exact (pi_list (pv 2))) (by exact blkOk_by (by kernel_rfl)) (fun _ _ _ _ _ => (pg_name (i := 10) sc_law_tables_right.nd rfl (by first | exact Or.inl rfl | exact Or.inr rfl))) (fun _ _ _ _ _ => pts_nil) (fun _ _ _ _ _ => (pe_ix (r := rIxL K) (by exact ix_list) (pv 10) (pv 7) (fun _ _ => rfl)))))))
        (pss_cons (ps_if (pt_cmpR op_ne (qc cdeterminant hq hrdeterminant (by rfl) (pa_cons (qc c_law_wide hq hr_law_wide (by rfl) (pa_cons (pv 4) (pa_cons pe_int pa_nil))) pa_nil)) (pv 3) (nomark _)) (pss_one (ps_ret pe_bl)) pss_nil)
        (pss_cons (ps_set (i := 5) sc_law_tables_right.nd rfl (by first | exact Or.inl rfl | exact Or.inr rfl) (qc c_law_one_of hq hr_law_one_of (by rfl) (pa_cons (pv 0) (pa_cons (pe_lst (pa_cons pe_int (pa_cons (pe_un un_neg pe_int) (pa_cons (pe_op op_add (pe_op op_pow pe_int pe_int) pe_int) pa_nil)))) pa_nil))))
        (pss_cons (ps_set (i := 6) sc_law_tables_right.nd rfl (by first | exact Or.inl rfl | exact Or.inr rfl) (pe_op op_cat (pe_lst (pa_cons (pe_lc (own := [("_law_one", 11)]) (g := gName 11) (tt := tYes) (by rfl) sc_law_tables_right.nd (pi_list (pe_ix (r := rIxL K) (by exact ix_list) (pv 2) pe_int (fun _ _ => rfl))) (blkOk_by (own := [("_law_one", 11)]) (N := ["_law_bag_here", "_law_many", "_law_table", "_law_due", "_law_turned", "_law_great", "_law_first", "_law_at", "_law_changed", "_law_turn", "_law_row", "_law_one"]) (sc := defScope s_law_tables_right) (by decide +kernel)) (fun _ _ _ _ _ => (pg_name (i := 11) sc_law_tables_right.nd rfl (by first | exact Or.inl rfl | exact Or.inr rfl))) (fun _ _ _ _ _ => pts_nil) (fun _ _ _ _ _ => (pe_op op_mulW (pv 5) (pv 11)))) pa_nil)) (pe_slice (r := rSlL K) (by exact sl_list) (pv 2) (po_some pe_int) po_none)))
        (pss_cons (ps_if (pt_cmpR op_ne (qc cdeterminant hq hrdeterminant (by rfl) (pa_cons (qc c_law_wide hq hr_law_wide (by rfl) (pa_cons (pv 6) (pa_cons pe_int pa_nil))) pa_nil)) (pe_op op_mulW (pv 5) (pv 3)) (nomark _)) (pss_one (ps_ret pe_bl)) pss_nil)
        (pss_cons (ps_set (i := 7) sc_law_tables_right.nd rfl (by first | exact Or.inl rfl | exact Or.inr rfl) (qc c_law_draw hq hr_law_draw (by rfl) (pa_cons (pv 0) (pa_cons (pv 1) pa_nil))))
        (pss_cons (ps_setLc (i := 8) (own := [("_law_row", 10)]) (g := gName 10) (tt := tYes) (by rfl) sc_law_tables_right.nd rfl rfl (sw_true rfl rfl rfl (by decide +kernel)) (pi_range1 (by rfl) B.b_range (pa_cons (pv 1) pa_nil)) (blkOk_by (own := [("_law_row", 10)]) (N := ["_law_bag_here", "_law_many", "_law_table", "_law_due", "_law_turned", "_law_great", "_law_first", "_law_at", "_law_changed", "_law_turn", "_law_row", "_law_one"]) (sc := defScope s_law_tables_right) (by decide +kernel)) (fun _ _ _ _ _ => (pg_name (i := 10) sc_law_tables_right.nd rfl (by first | exact Or.inl rfl | exact Or.inr rfl))) (fun _ _ _ _ _ => pts_nil) (fun _ _ _ _ _ => (pe_ifExp (pt_cmpR op_eq (pv 10) pe_int (nomark _)) (pe_ix (r := rIxL K) (by exact ix_list) (pv 2) (pv 7) (fun _ _ => rfl)) (pe_ifExp (pt_cmpR op_eq (pv 10) (pv 7) (nomark _)) (pe_ix (r := rIxL K) (by exact ix_list) (pv 2) pe_int (fun _ _ => rfl)) (pe_ix (r := rIxL K) (by exact ix_list) (pv 2) (pv 10) (fun _ _ => rfl))))))
        (pss_one (ps_ret (pe_cmpR op_eq (qc cdeterminant hq hrdeterminant (by rfl) (pa_cons (qc c_law_wide hq hr_law_wide (by rfl) (pa_cons (pv 8) (pa_cons pe_int pa_nil))) pa_nil)) (pe_ifExp (pt_cmpR op_eq (pv 7) pe_int (nomark _)) (pv 3) (pe_op op_sub pe_int (pv 3))) (nomark _)))))))))))))))), ?_⟩
    obtain ⟨a, rfl, hb, k⟩ := h
    have ha := hb.live
    refine rd_at [some (.ref a), none, none, none, none, none, none, none, none, none, none, none] rfl ?_
    walk_at "rd"
    refine ⟨a, 6, rfl, hb, by omega, by omega, fun m H1 m0 m1 b1 hb1 => ?_⟩
    obtain ⟨n, rfl⟩ : ∃ n : Nat, m = n := ⟨m.toNat, by omega⟩
    have hn : n ≤ 5 := by omega
    walk_at "rd"
    refine ⟨(n : Int), rfl, by omega, by omega, ?_⟩
    rw [Int.toNat_natCast]
    intro E1 hE1
    refine lc_newB (n := n) (by omega) hE1 hb1 (fun j t H' => ∃ ns : List Int, Li H' t ns ∧ ns.length = n ∧ ∀ x ∈ ns, -4 ≤ x ∧ x ≤ 4) (fun j t H H' s ⟨ns, l1, l2, l3⟩ => ⟨ns, s _ l1, l2, l3⟩) (fun j t H ⟨ns, l1, _⟩ z => by unfold Li at l1; rw [l1] at z; cases z) ?_ ?_
    · intro j hj H' bu' hb' R kk
      walk_at "rd"
      refine ⟨a, n, 4, rfl, hb', by omega, by omega, by omega, by omega, fun q H'' ns hq bu hb'' hns nl nb => ?_⟩
      exact kk q H'' hq bu hb'' ⟨ns, hns, by omega, nb⟩
    intro rs H2 hrs hnd hP hfr hEr bu2 hb2 hl2
    obtain ⟨M, sl, sw, sr⟩ := rows_of (m := n) (fun x => -4 ≤ x ∧ x ≤ 4) hrs hP
    have fr : ∀ b, H1 b = none → H b = none := fun b hb9 => b1.free (fun z => hb1.live (z ▸ hb9)) hb9
    have L2 : LLf H H2 E1 M := ⟨rs, hl2, by omega, hnd, fr _ hE1, fun r hr => fr _ (hfr r hr), sr⟩
    have wM : ∀ r ∈ M, r.length = n := fun r hr => (sw r hr).1
    have bM : ∀ r ∈ M, ∀ x ∈ r, x.natAbs ≤ 4 := fun r hr x hx => by
      have := (sw r hr).2 x hx
      omega
    have le4 : ∀ x : Int, x.natAbs ≤ 4 → x.natAbs ≤ 2 ^ 200 := fun x hx => Nat.le_trans hx (by decide)
    have sq : Sq n M := ⟨sl, wM, fun r hr x hx => le4 x (bM r hr x hx)⟩
    have b12 : But a H H2 := b1.trans bu2
    walk_at "rd"
    refine ⟨n, E1, M, rfl, L2.ll, sq, hn, fun H3 s3 => ?_⟩
    have L3 := L2.same s3
    have hb3 := hb2.same s3
    have b3 := b12.trans (But.same s3)
    have lb := lap_bd sq hn
    have cone : ∀ N : List (List Int), Sq n N → N.length ≤ 100 ∧ ∀ r ∈ N, r.length ≤ 100 ∧ ∀ x ∈ r, CMulW 1 x := fun N hN => ⟨by rw [hN.len]; omega, fun r hr => ⟨by rw [hN.sq r hr]; omega, fun x hx => cw (by show (1 : Nat) < 2 ^ 1100; exact Nat.one_lt_pow (by decide) (by decide)) (p1100 (hN.bd r hr x hx))⟩⟩
    walk_at "rd"
    refine ⟨E1, 1, M, rfl, L3.ll, (cone M sq).1, (cone M sq).2, fun q4 H4 hq4 s4 hT4 => ?_⟩
    rw [one_wide] at hT4
    walk_at "rd"
    refine ⟨q4, n, M, rfl, hT4, sq, hn, fun H5 s5 => ?_⟩
    walk_at "rd"
    refine ⟨_, _, rfl, .int _ (log1920 lb), ?_⟩
    walk_at "rd"
    refine ⟨_, _, rfl, .int _ (log1920 lb), ?_⟩
    refine rd_ne rfl ?_
    walk_at "rd"
    refine rd_iteN (fun e => absurd rfl e) (fun _ => ?_)
    have L5 := (L3.same s4).same s5
    have hb5 := (hb3.same s4).same s5
    have b5 := (b3.trans (But.same s4)).trans (But.same s5)
    clear L2 hb2 hT4
    walk_at "rd"
    refine rd_ite (fun h0 => ?_) (fun h0 => ?_)
    · walk_at "rd"
      have n0 : n = 0 := by omega
      subst n0
      have e : M = [] := List.eq_nil_of_length_eq_zero sl
      rw [e, Alg.lap_nil]
      exact k H5 b5 hb5
    have n1 : 0 < n := by omega
    walk_at "rd"
    refine ⟨(n : Int), rfl, by omega, by omega, ?_⟩
    rw [Int.toNat_natCast]
    intro E2 hE2
    obtain ⟨ps, p1, p2, p3, p4, p5, p6⟩ := id L5
    have pv : ∀ v, v < n → (ps.map V.ref).getD v .non = V.ref (ps.getD v E1) ∧ ps[v]? = some (ps.getD v E1) ∧ M[v]? = some (M.getD v []) ∧ (M.getD v []).length = n := fun v hv => by
      have h1 : v < ps.length := by omega
      have h2 : v < M.length := by omega
      refine ⟨?_, ?_, row_at h2, wM _ (List.mem_of_getElem? (row_at h2))⟩
      · rw [List.getD_eq_getElem?_getD, List.getElem?_map, List.getElem?_eq_getElem h1, List.getD_eq_getElem?_getD, List.getElem?_eq_getElem h1]
        rfl
      · rw [List.getD_eq_getElem?_getD, List.getElem?_eq_getElem h1]
        rfl
    have pl : (ps.map V.ref).length = n := by rw [List.length_map]; omega
    refine lc_new (wk_rng n) (by omega) hE2 (fun _ _ => True.intro) (fun j t H' => Li H' t ((List.range n).map fun r => at2 M r j)) (fun j t H H' s l => s _ l) (fun j t H l z => by unfold Li at l; rw [l] at z; cases z) ?_ ?_
    · intro j hj H6 o s6 ho R1 kk
      rw [Int.zero_add]
      walk_at "rd"
      refine ⟨⟨_, SqL.of (s6 _ _ p1)⟩, ?_⟩
      intro E3 hE3
      refine lc_same (n := (ps.map V.ref).length) (wk_list .non) (by omega) hE3 (fun H' s' => SqL.of (s' _ _ (s6 _ _ p1))) (fun _ => true) (fun v => V.int (at2 M v j)) (fun v hv H7 _ R hR => hR H7 (Same.refl H7)) (fun v hv _ H7 s7 R hR => ?_) (fun H7 s7 hl7 => ?_)
      · rw [pl] at hv
        obtain ⟨e1, e2, e3, e4⟩ := pv v hv
        rw [e1]
        have hrow := s7 _ _ (s6 _ _ (p6 v _ _ e2 e3))
        walk_at "rd"
        refine rd_ixL (SqL.of hrow) (int_at (by rw [e4]; exact hj)) ?_
        exact hR H7 (Same.refl H7)
      · refine kk E3 H7 hE3 s7 ?_
        show H7 E3 = _
        rw [hl7, filt_yes, pl, List.map_map]
        rfl
    intro ts H6 s6 hts hnd6 hP6 hfr6 hE6 hl6
    have L6t : LLf H5 H6 E2 ((List.range n).map fun j => (List.range n).map fun r => at2 M r j) := LLf.of _ hl6 hts hnd6 hE2 hfr6 hP6
    have sqt : Sq n ((List.range n).map fun j => (List.range n).map fun r => at2 M r j) := Sq.of (by rw [List.length_map, List.length_range]) (fun r hr => by
      obtain ⟨i, _, rfl⟩ := List.mem_map.mp hr
      rw [List.length_map, List.length_range]) (fun i j hi hj => by
      rw [at2_tab (T := fun j r => at2 M r j) hi hj]
      exact at2_bd sq j i)
    have lapt : Alg.lap ((List.range n).map fun j => (List.range n).map fun r => at2 M r j) = Alg.lap M := by
      rw [sqt.lap_mi, sq.lap_mi]
      exact Alg.mi_tr2 hn fun i j hi hj => at2_tab (T := fun j r => at2 M r j) hi hj
    generalize ((List.range n).map fun j => (List.range n).map fun r => at2 M r j) = Tr at L6t sqt lapt
    walk_at "rd"
    refine ⟨E2, 1, Tr, rfl, L6t.ll, (cone Tr sqt).1, (cone Tr sqt).2, fun q7 H7 hq7 s7 hT7 => ?_⟩
    rw [one_wide] at hT7
    walk_at "rd"
    refine ⟨q7, n, Tr, rfl, hT7, sqt, hn, fun H8 s8 => ?_⟩
    rw [lapt]
    walk_at "rd"
    refine rd_iteN (fun e => absurd rfl e) (fun _ => ?_)
    have L8 := ((L5.same s6).same s7).same s8
    have hb8 := ((hb5.same s6).same s7).same s8
    have b8 := ((b5.trans (But.same s6)).trans (But.same s7)).trans (But.same s8)
    clear p1 p6 L6t hT7 hl6 hP6
    walk_at "rd"
    intro l hl
    walk_at "rd"
    have la : l ≠ a := fun z => hb8.live (z ▸ hl)
    refine ⟨a, .ref l, rfl, hb8.old hl, Or.inl ⟨l, _, rfl, la, SqL.of upd_same, by decide, by decide, fun v H9 hv b9 hb9 => ?_⟩⟩
    obtain ⟨f, rfl, hf⟩ : ∃ f : Int, v = .int f ∧ f.natAbs ≤ 10 ^ 50 + 1 := by
      simp only [List.mem_cons, List.not_mem_nil, or_false] at hv
      rcases hv with rfl | rfl | rfl
      · exact ⟨_, rfl, by decide⟩
      · exact ⟨_, rfl, by decide⟩
      · exact ⟨_, rfl, by decide⟩
    have L9 := (L8.same (fun b o e => up_old hl e)).but ha b9
    have b9' := (b8.trans (But.new hl)).trans b9
    clear hv
    have fb : f.natAbs < 2 ^ 1100 := p1100 (by have := ten50; omega)
    obtain ⟨ps, p1, p2, p3, p4, p5, p6⟩ := id L9
    obtain ⟨r0, R, rfl⟩ : ∃ r0 R, M = r0 :: R := by
      cases M with
      | nil => exact absurd n1 (by rw [← sl]; exact Nat.lt_irrefl 0)
      | cons r0 R => exact ⟨r0, R, rfl⟩
    obtain ⟨c0, cs, rfl, hcs⟩ : ∃ c0 cs, ps = c0 :: cs ∧ cs.length = R.length := by
      cases ps with
      | nil => cases p2
      | cons c0 cs => exact ⟨c0, cs, rfl, Nat.succ.inj p2⟩
    have hr0 : r0.length = n := wM r0 List.mem_cons_self
    have e0 := p6 0 c0 r0 rfl rfl
    walk_at "rd"
    refine rd_ixL (v := .ref c0) (SqL.of p1) (at_nat (j := 0) rfl) ?_
    walk_at "rd"
    refine ⟨⟨_, SqL.of e0⟩, ?_⟩
    intro E3 hE3
    refine lc_same (n := (r0.map V.int).length) (wk_list .non) (by rw [List.length_map]; omega) hE3 (fun H' s' => SqL.of (s' _ _ e0)) (fun _ => true) (fun u => V.int (f * r0.getD u 0)) (fun u hu H10 _ R hR => hR H10 (Same.refl H10)) (fun u hu _ H10 s10 R hR => ?_) (fun H10 s10 hl10 => ?_)
    · rw [List.length_map] at hu
      rw [int_get hu]
      walk_at "rd"
      refine rd_mulW (cw fb (p1100 (le4 _ (bM r0 List.mem_cons_self _ (mem_get hu))))) ?_
      exact hR H10 (Same.refl H10)
    have hE3l : H10 E3 = some (.lst ((r0.map fun x => f * x).map V.int)) := by
      rw [hl10, filt_yes, List.length_map, List.map_map]
      have e9 := congrArg (List.map fun x => V.int (f * x)) (range_getD 0 r0)
      rw [List.map_map] at e9
      exact congrArg (fun z => some (HO.lst z)) e9
    walk_at "rd"
    intro l2 hl2
    walk_at "rd"
    have s11 : Same H9 (upd H10 l2 (.lst [.ref E3])) := fun b o e => up_old hl2 (s10 b o e)
    refine rd_slL (SqL.of (s11 _ _ p1)) (fun q1 hq1 => ?_)
    rw [cut_drop1, show ((c0 :: cs).map V.ref).drop 1 = cs.map V.ref from rfl]
    refine ⟨l2, q1, [.ref E3], cs.map V.ref, rfl, rfl, up_old hq1 upd_same, upd_same, ?_, fun q2 hq2 => ?_⟩
    · rw [List.length_map]
      have h7 : (r0 :: R).length = n := sl
      rw [List.length_cons] at h7
      exact Nat.le_trans (show _ ≤ 100 by simp only [List.length_cons, List.length_nil]; omega) (by decide)
    have s12 : Same H9 (upd (upd (upd H10 l2 (.lst [.ref E3])) q1 (.lst (cs.map V.ref))) q2 (.lst ([.ref E3] ++ cs.map V.ref))) := fun b o e => up_old hq2 (up_old hq1 (s11 b o e))
    have L12 : LL (upd (upd (upd H10 l2 (.lst [.ref E3])) q1 (.lst (cs.map V.ref))) q2 (.lst ([.ref E3] ++ cs.map V.ref))) q2 ((r0.map fun x => f * x) :: R) := by
      refine LL.join (us := [E3]) (ts := cs) (A := [r0.map fun x => f * x]) (B := R) rfl hcs (fun i r row e1 e2 => ?_) (fun i r row e1 e2 => ?_) upd_same
      · cases i with
        | zero =>
          cases e1
          cases e2
          exact up_old hq2 (up_old hq1 (up_old hl2 hE3l))
        | succ i =>
          rw [List.getElem?_cons_succ] at e1
          cases e1
      · exact s12 _ _ (p6 (i + 1) r row (by rw [List.getElem?_cons_succ]; exact e1) (by rw [List.getElem?_cons_succ]; exact e2))
    have sq12 : Sq n ((r0.map fun x => f * x) :: R) := ⟨sl, fun r hr => by
      rcases List.mem_cons.mp hr with rfl | z
      · rw [List.length_map]
        exact hr0
      · exact wM r (List.mem_cons_of_mem _ z), fun r hr x hx => by
      rcases List.mem_cons.mp hr with rfl | z
      · obtain ⟨y, hy, rfl⟩ := List.mem_map.mp hx
        rw [Int.natAbs_mul]
        have h1 := bM r0 List.mem_cons_self y hy
        have h2 := Nat.mul_le_mul hf h1
        have h3 := ten50
        omega
      · exact sq.bd r (List.mem_cons_of_mem _ z) x hx⟩
    generalize (upd (upd (upd H10 l2 (.lst [.ref E3])) q1 (.lst (cs.map V.ref))) q2 (.lst ([.ref E3] ++ cs.map V.ref))) = H12 at s12 L12 ⊢
    have L12b := L9.same s12
    have hb12 := hb9.same s12
    have b12 := b9'.trans (But.same s12)
    walk_at "rd"
    refine ⟨q2, 1, (r0.map fun x => f * x) :: R, rfl, L12, (cone _ sq12).1, (cone _ sq12).2, fun q13 H13 hq13 s13 hT13 => ?_⟩
    rw [one_wide] at hT13
    walk_at "rd"
    refine ⟨q13, n, _, rfl, hT13, sq12, hn, fun H14 s14 => ?_⟩
    rw [Alg.lap_scale]
    walk_at "rd"
    refine rd_mulW (cw fb lb) ?_
    walk_at "rd"
    refine rd_iteN (fun e => absurd rfl e) (fun _ => ?_)
    have L14 := (L12b.same s13).same s14
    have hb14 := (hb12.same s13).same s14
    have b14 := (b12.trans (But.same s13)).trans (But.same s14)
    clear hT13 L12 L12b p1 p6 e0
    walk_at "rd"
    refine ⟨a, n, rfl, hb14, by omega, by omega, fun d H15 d0 d1 b15 hb15 => ?_⟩
    obtain ⟨t, rfl⟩ : ∃ t : Nat, d = t := ⟨d.toNat, by omega⟩
    have ht : t < n := by omega
    have L15 := L14.but ha b15
    have b15' := b14.trans b15
    obtain ⟨ps, p1, p2, p3, p4, p5, p6⟩ := id L15
    generalize hM : r0 :: R = M at *
    walk_at "rd"
    refine ⟨(n : Int), rfl, by omega, by omega, ?_⟩
    rw [Int.toNat_natCast]
    intro E4 hE4
    have pat : ∀ i, i < n → ps[i]? = some (ps.getD i E1) := fun i hi => by
      rw [List.getD_eq_getElem?_getD, List.getElem?_eq_getElem (by omega)]
      rfl
    have swn : ∀ i, i < n → Alg.sw t i < n := fun i hi => by
      unfold Alg.sw
      split
      · exact ht
      · split
        · exact n1
        · exact hi
    refine lc_same (n := n) (wk_rng n) (by omega) hE4 (fun _ _ => True.intro) (fun _ => true) (fun u => V.ref (ps.getD (Alg.sw t u) E1)) (fun u hu H16 _ R hR => hR H16 (Same.refl H16)) (fun u hu _ H16 s16 R hR => ?_) (fun H16 s16 hl16 => ?_)
    · rw [Int.zero_add]
      walk_at "rd"
      refine rd_ite (fun h1 => ?_) (fun h1 => ?_)
      · have hu0 : u = 0 := by omega
        have es : Alg.sw t u = t := if_pos hu0
        rw [es] at hR
        walk_at "rd"
        refine rd_ixL (SqL.of (s16 _ _ p1)) (ref_at (pat t ht)) ?_
        exact hR H16 (Same.refl H16)
      · have hu0 : ¬ u = 0 := by omega
        walk_at "rd"
        refine rd_ite (fun h2 => ?_) (fun h2 => ?_)
        · have hut : u = t := by omega
          have es : Alg.sw t u = 0 := by
            unfold Alg.sw
            rw [if_neg hu0, if_pos hut]
          rw [es] at hR
          walk_at "rd"
          refine rd_ixL (SqL.of (s16 _ _ p1)) (ref_at (i := 0) (pat 0 n1)) ?_
          exact hR H16 (Same.refl H16)
        · have hut : ¬ u = t := by omega
          have es : Alg.sw t u = u := by
            unfold Alg.sw
            rw [if_neg hu0, if_neg hut]
          rw [es] at hR
          walk_at "rd"
          refine rd_ixL (SqL.of (s16 _ _ p1)) (ref_at (pat u hu)) ?_
          exact hR H16 (Same.refl H16)
    rw [filt_yes] at hl16
    have LC : LL H16 E4 ((List.range n).map fun i => M.getD (Alg.sw t i) []) := by
      refine ⟨(List.range n).map fun i => ps.getD (Alg.sw t i) E1, by rw [hl16, List.map_map]; rfl, by rw [List.length_map, List.length_map], fun i r row e1 e2 => ?_⟩
      have hi : i < n := by
        have := (List.getElem?_eq_some_iff.mp e1).1
        rwa [List.length_map, List.length_range] at this
      rw [List.getElem?_map, List.getElem?_range hi] at e1 e2
      cases e1
      cases e2
      exact s16 _ _ (p6 (Alg.sw t i) _ _ (pat _ (swn i hi)) (row_at (by rw [sl]; exact swn i hi)))
    have ec : ∀ i j, i < n → j < n → at2 ((List.range n).map fun i => M.getD (Alg.sw t i) []) i j = at2 M (Alg.sw t i) j := fun i j hi hj => by
      unfold at2
      rw [List.getD_eq_getElem?_getD (l := (List.range n).map _), List.getElem?_map, List.getElem?_range hi]
      rfl
    have sqC : Sq n ((List.range n).map fun i => M.getD (Alg.sw t i) []) := Sq.of (by rw [List.length_map, List.length_range]) (fun r hr => by
      obtain ⟨i, hi, rfl⟩ := List.mem_map.mp hr
      exact wM _ (List.mem_of_getElem? (row_at (by rw [sl]; exact swn i (List.mem_range.mp hi))))) (fun i j hi hj => by
      rw [ec i j hi hj]
      exact at2_bd sq _ _)
    have lapC : Alg.lap ((List.range n).map fun i => M.getD (Alg.sw t i) []) = if t = 0 then Alg.lap M else 0 - Alg.lap M := by
      rw [sqC.lap_mi, sq.lap_mi]
      split
      · rename_i h0t
        refine Alg.mi_congr fun r hr c hc => ?_
        rw [ec r c (List.mem_range.mp hr) (List.mem_range.mp hc)]
        have es : Alg.sw t r = r := by
          unfold Alg.sw
          split
          · omega
          · split
            · omega
            · rfl
        rw [es]
      · rw [Alg.mi_sw hn ht (by omega) ec]
        omega
    generalize ((List.range n).map fun i => M.getD (Alg.sw t i) []) = C at LC sqC lapC
    walk_at "rd"
    refine ⟨E4, 1, C, rfl, LC, (cone C sqC).1, (cone C sqC).2, fun q17 H17 hq17 s17 hT17 => ?_⟩
    rw [one_wide] at hT17
    walk_at "rd"
    refine ⟨q17, n, C, rfl, hT17, sqC, hn, fun H18 s18 => ?_⟩
    rw [lapC]
    walk_at "rd"
    have fin : ∀ b, b = true → Q (.bl b) H18 := fun b eb => by
      rw [eb]
      exact k H18 (((b15'.trans (But.same s16)).trans (But.same s17)).trans (But.same s18)) (((hb15.same s16).same s17).same s18)
    refine rd_ite (fun h1 => ?_) (fun h1 => ?_)
    · walk_at "rd"
      rw [if_pos (by omega)]
      exact fin _ (decide_eq_true rfl)
    · walk_at "rd"
      rw [if_neg (by omega)]
      exact fin _ (decide_eq_true rfl)
end
section
variable {P : Program} {w : World} {K : PySem.W.Frag} {mg : Str → Option Value} {base : Heap}
theorem ok_law_sums_right (B : Bi mg) (D : DefAt K mg "_law_sums_right" s_law_sums_right ["_law_bag_here"]) (c_law_draw : Cal P w K mg base "_law_draw" 1 ["_law_bag_here", "_law_total"] (spDraw)) (c_law_is_sum : Cal P w K mg base "_law_is_sum" 7 ["_law_table"] (spIsSum)) (c_law_one_of : Cal P w K mg base "_law_one_of" 2 ["_law_bag_here", "_law_items"] (spOne K)) (c_law_symmetric : Cal P w K mg base "_law_symmetric" 3 ["_law_bag_here", "_law_many"] (spSymm)) (c_law_wide : Cal P w K mg base "_law_wide" 1 ["_law_table", "_law_factor"] (spWide K)) (cis_square_sum : Cal P w K mg base "is_square_sum" 8 ["table"] (spPsd)) : Cal P w K mg base "_law_sums_right" 9 ["_law_bag_here"] (spRight) := by
  refine cal_of D sc_law_sums_right (fun vs H Q E h => ?_) (fun f cdv A outer s H vs Q E hq hr h => ?_)
  · obtain ⟨p, rfl, _⟩ := h; rfl
  · have hu := hr.units
    replace hq := Quiet.deeper hq (envOfC "_law_sums_right" (defScope s_law_sums_right) s.heap.objs.size f cdv)
    have hr_law_draw := hr.mono (show 1 ≤ 8 by decide)
    have hr_law_is_sum := hr.mono (show 7 ≤ 8 by decide)
    have hr_law_one_of := hr.mono (show 2 ≤ 8 by decide)
    have hr_law_symmetric := hr.mono (show 3 ≤ 8 by decide)
    have hr_law_wide := hr.mono (show 1 ≤ 8 by decide)
    have hris_square_sum := hr.mono (show 8 ≤ 8 by decide)
    skip
    refine ⟨_, (pss_cons (ps_set (i := 1) sc_law_sums_right.nd rfl (by first | exact Or.inl rfl | exact Or.inr rfl) (pe_op op_add pe_int (qc c_law_draw hq hr_law_draw (by rfl) (pa_cons (pv 0) (pa_cons pe_int pa_nil)))))
        (pss_cons (ps_set (i := 2) sc_law_sums_right.nd rfl (by first | exact Or.inl rfl | exact Or.inr rfl) (qc c_law_symmetric hq hr_law_symmetric (by rfl) (pa_cons (pv 0) (pa_cons (pv 1) pa_nil))))
        (pss_cons (ps_set (i := 3) sc_law_sums_right.nd rfl (by first | exact Or.inl rfl | exact Or.inr rfl) (qc c_law_is_sum hq hr_law_is_sum (by rfl) (pa_cons (pv 2) pa_nil)))
        (pss_cons (ps_if (pt_cmpR op_ne (pe_callB (r := rShow K) (by exact (call_show hq hu)) (by rfl) B.b_repr (by decide +kernel) (pa_cons (qc cis_square_sum hq hris_square_sum (by rfl) (pa_cons (qc c_law_wide hq hr_law_wide (by rfl) (pa_cons (pv 2) (pa_cons (qc c_law_one_of hq hr_law_one_of (by rfl) (pa_cons (pv 0) (pa_cons (pe_lst (pa_cons pe_int (pa_cons pe_int (pa_cons pe_int (pa_cons (pe_op op_pow pe_int pe_int) pa_nil))))) pa_nil))) pa_nil))) pa_nil)) pa_nil)) (pe_callB (r := rShow K) (by exact (call_show hq hu)) (by rfl) B.b_repr (by decide +kernel) (pa_cons (pv 3) pa_nil)) (nomark _)) (pss_one (ps_ret pe_bl)) pss_nil)
        (pss_cons (ps_set (i := 4) sc_law_sums_right.nd rfl (by first | exact Or.inl rfl | exact Or.inr rfl) (pe_cmpR (r := rEqD K) (by exact (op_eqD hu)) (pe_lc (own := [("_law_row", 6)]) (g := gName 6) (by rfl) sc_law_sums_right.nd (pi_list (pv 2)) (blkOk_by (own := [("_law_row", 6)]) (N := ["_law_bag_here", "_law_many", "_law_table", "_law_due", "_law_empty", "_law_wider", "_law_row"]) (sc := defScope s_law_sums_right) (by decide +kernel)) (fun _ _ _ _ _ => (pg_name (i := 6) sc_law_sums_right.nd rfl (by first | exact Or.inl rfl | exact Or.inr rfl))) (fun _ _ _ _ _ => (pts_one (pt_cmpR (r := rNeD K) (by exact (op_neD hu)) (pv 6) (pe_op op_rep (pe_lst (pa_cons pe_int pa_nil)) (pv 1)) (nomark _)))) (fun _ _ _ _ _ => (pv 6))) (pe_lst pa_nil) (nomark _)))
        (pss_cons (ps_if (PW.pt (pw_and (pt_val (qc cis_square_sum hq hris_square_sum (by rfl) (pa_cons (qc c_law_wide hq hr_law_wide (by rfl) (pa_cons (pv 2) (pa_cons (pe_un un_neg pe_int) pa_nil))) pa_nil))) (pw_and (pt_val (pv 3)) (pw_and1 (pt_not (pt_val (pv 4))))))) (pss_one (ps_ret pe_bl)) pss_nil)
        (pss_cons (ps_set (i := 5) sc_law_sums_right.nd rfl (by first | exact Or.inl rfl | exact Or.inr rfl) (pe_op op_cat (pe_lc (own := [("_law_row", 6)]) (g := gName 6) (tt := tYes) (by rfl) sc_law_sums_right.nd (pi_list (pv 2)) (blkOk_by (own := [("_law_row", 6)]) (N := ["_law_bag_here", "_law_many", "_law_table", "_law_due", "_law_empty", "_law_wider", "_law_row"]) (sc := defScope s_law_sums_right) (by decide +kernel)) (fun _ _ _ _ _ => (pg_name (i := 6) sc_law_sums_right.nd rfl (by first | exact Or.inl rfl | exact Or.inr rfl))) (fun _ _ _ _ _ => pts_nil) (fun _ _ _ _ _ => (pe_op op_cat (pv 6) (pe_lst (pa_cons pe_int pa_nil))))) (pe_lst (pa_cons (pe_op op_rep (pe_lst (pa_cons pe_int pa_nil)) (pe_op op_add (pv 1) pe_int)) pa_nil))))
        (pss_cons (ps_if (pt_cmpR op_ne (qc cis_square_sum hq hris_square_sum (by rfl) (pa_cons (qc c_law_wide hq hr_law_wide (by rfl) (pa_cons (pv 5) (pa_cons pe_int pa_nil))) pa_nil)) (pv 3) (nomark _)) (pss_one (ps_ret pe_bl)) pss_nil)
        (pss_cons (ps_asg (pe_tup (pa_cons pe_int (pa_cons pe_int pa_nil))) (pg_tup (by rfl) (pgs_cons (pg_sub (pe_ix (r := rIxL K) (by exact ix_list) (pv 5) pe_int (fun _ _ => rfl)) (pv 1) set_list) (pgs_cons (pg_sub (pe_ix (r := rIxL K) (by exact ix_list) (pv 5) (pv 1) (fun _ _ => rfl)) pe_int set_list) pgs_nil))))
        (pss_one (ps_ret (pe_not (qc cis_square_sum hq hris_square_sum (by rfl) (pa_cons (qc c_law_wide hq hr_law_wide (by rfl) (pa_cons (pv 5) (pa_cons pe_int pa_nil))) pa_nil)))))))))))))), ?_⟩
    obtain ⟨a, rfl, hb, k⟩ := h
    have ha := hb.live
    refine rd_at [some (.ref a), none, none, none, none, none, none] rfl ?_
    walk_at "rd"
    refine ⟨a, 4, rfl, hb, by omega, by omega, fun m H1 m0 m1 b1 hb1 => ?_⟩
    walk_at "rd"
    obtain ⟨n, en⟩ : ∃ n : Nat, 1 + m = n := ⟨(1 + m).toNat, by omega⟩
    rw [en]
    have n1 : 0 < n := by omega
    have n4 : n ≤ 4 := by omega
    refine ⟨a, n, rfl, hb1, by omega, by omega, fun q H2 M b2 hb2 L2 G => ?_⟩
    have ha1 := hb1.live
    have sq : Sq n M := Sq.of G.len G.wide fun i j hi hj => Nat.le_trans (G.bd i j hi hj) (by decide)
    walk_at "rd"
    refine ⟨q, n, M, rfl, L2.ll, sq, by omega, G.sym, fun due H3 s3 hdue => ?_⟩
    have L3 := L2.same s3
    have hb3 := hb2.same s3
    have b3 := (b1.trans b2).trans (But.same s3)
    have cfac : ∀ (k : Nat) (f : Int) (N : List (List Int)), f.natAbs ≤ 10 ^ 50 → Sq k N → k ≤ 5 → N.length ≤ 100 ∧ ∀ r ∈ N, r.length ≤ 100 ∧ ∀ x ∈ r, CMulW f x := fun k f N hf hN hk => ⟨by rw [hN.len]; omega, fun r hr => ⟨by rw [hN.sq r hr]; omega, fun x hx => cw (p1100 (by have := ten50; omega)) (p1100 (hN.bd r hr x hx))⟩⟩
    have cone := fun (k : Nat) (N : List (List Int)) (hN : Sq k N) (hk : k ≤ 5) => cfac k 1 N (by decide) hN hk
    have facS : ∀ f : Int, f.natAbs ≤ 10 ^ 50 → Sq n (M.map fun r => r.map fun x => f * x) ∧ SymM n (M.map fun r => r.map fun x => f * x) := fun f hf => ⟨Sq.of (wide_len G.len G.wide).1 (wide_len G.len G.wide).2 fun i j hi hj => by
      rw [at2_wide G.len G.wide hi hj, Int.natAbs_mul]
      have h1 := Nat.mul_le_mul hf (G.bd i j hi hj)
      have h2 := ten50
      omega, fun i j hi hj => by
      rw [at2_wide G.len G.wide hi hj, at2_wide G.len G.wide hj hi, G.sym i j hi hj]⟩
    have facP : ∀ f : Int, Alg.Psd (at2 (M.map fun r => r.map fun x => f * x)) (List.range n) ↔ Alg.Psd (fun i j => f * at2 M i j) (List.range n) := fun f => Alg.Psd_congr fun i hi j hj => at2_wide G.len G.wide (List.mem_range.mp hi) (List.mem_range.mp hj)
    walk_at "rd"
    intro l hl
    walk_at "rd"
    have la : l ≠ a := fun z => hb3.live (z ▸ hl)
    refine ⟨a, .ref l, rfl, hb3.old hl, Or.inl ⟨l, _, rfl, la, SqL.of upd_same, by decide, by decide, fun v H4 hv b4 hb4 => ?_⟩⟩
    obtain ⟨f, rfl, hf, f0⟩ : ∃ f : Int, v = .int f ∧ f.natAbs ≤ 10 ^ 50 ∧ 0 < f := by
      simp only [List.mem_cons, List.not_mem_nil, or_false] at hv
      rcases hv with rfl | rfl | rfl | rfl
      · exact ⟨_, rfl, by decide, by decide⟩
      · exact ⟨_, rfl, by decide, by decide⟩
      · exact ⟨_, rfl, by decide, by decide⟩
      · exact ⟨_, rfl, by decide, by decide⟩
    clear hv
    have L4 := (L3.same (fun b o e => up_old hl e)).but ha1 b4
    have b4' := (b3.trans (But.new hl)).trans b4
    walk_at "rd"
    refine ⟨q, f, M, rfl, L4.ll, (cfac n f M hf sq (by omega)).1, (cfac n f M hf sq (by omega)).2, fun q5 H5 hq5 s5 hT5 => ?_⟩
    walk_at "rd"
    refine ⟨q5, n, _, rfl, hT5, (facS f hf).1, by omega, (facS f hf).2, fun b6 H6 s6 hb6 => ?_⟩
    have e6 : b6 = due := Bool.eq_iff_iff.mpr (hb6.trans ((facP f).trans ((Alg.Psd_scale f0).trans hdue.symm)))
    rw [e6]
    walk_at "rd"
    refine ⟨_, _, rfl, .bl due, ?_⟩
    walk_at "rd"
    refine ⟨_, _, rfl, .bl due, ?_⟩
    refine rd_ne rfl ?_
    walk_at "rd"
    refine rd_iteN (fun e => absurd rfl e) (fun _ => ?_)
    have L6 := (L4.same s5).same s6
    have hb6' := (hb4.same s5).same s6
    have b6' := (b4'.trans (But.same s5)).trans (But.same s6)
    clear hT5
    obtain ⟨rs, p1, p2, p3, p4, p5, p6⟩ := id L6
    have pv : ∀ v, v < n → (rs.map V.ref).getD v .non = V.ref (rs.getD v q) ∧ rs[v]? = some (rs.getD v q) ∧ M[v]? = some (M.getD v []) ∧ (M.getD v []).length = n := fun v hv => by
      have hMl := G.len
      have h1 : v < rs.length := by omega
      have h2 : v < M.length := by omega
      refine ⟨?_, ?_, row_at h2, G.row hv⟩
      · rw [List.getD_eq_getElem?_getD, List.getElem?_map, List.getElem?_eq_getElem h1, List.getD_eq_getElem?_getD, List.getElem?_eq_getElem h1]
        rfl
      · rw [List.getD_eq_getElem?_getD, List.getElem?_eq_getElem h1]
        rfl
    have pl : (rs.map V.ref).length = n := by rw [List.length_map, p2]; exact G.len
    walk_at "rd"
    refine ⟨⟨_, SqL.of p1⟩, ?_⟩
    intro E1 hE1
    refine lc_same (n := (rs.map V.ref).length) (wk_list .non) (by omega) hE1 (fun H' s' => SqL.of (s' _ _ p1)) (fun u => !decide (M.getD u [] = List.replicate n 0)) (fun u => V.ref (rs.getD u q)) (fun u hu H7 s7 R hR => ?_) (fun u hu _ H7 s7 R hR => ?_) (fun H7 s7 hl7 => ?_)
    · rw [pl] at hu
      obtain ⟨e1, e2, e3, e4⟩ := pv u hu
      rw [e1]
      have hrow := s7 _ _ (p6 u _ _ e2 e3)
      walk_at "rd"
      intro z hz
      walk_at "rd"
      refine ⟨z, (n : Int), [.int 0], rfl, rfl, upd_same, by omega, by omega, ?_, fun z2 hz2 => ?_⟩
      · exact Nat.le_trans (show _ ≤ 100 by simp only [List.length_cons, List.length_nil]; omega) (by decide)
      rw [Int.toNat_natCast, rep_zeros]
      refine ⟨rowD (M.getD u []), rowD (List.replicate n 0), Li.dp (up_old hz2 (up_old hz hrow)), Li.dp upd_same, rowD_shaped _, rowD_shaped _, ?_⟩
      rw [eqv_rowD]
      refine ⟨_, rfl, ?_⟩
      exact hR _ (fun b o e => up_old hz2 (up_old hz e))
    · rw [pl] at hu
      obtain ⟨e1, e2, e3, e4⟩ := pv u hu
      rw [e1]
      walk_at "rd"
      exact hR H7 (Same.refl H7)
    rw [pl] at hl7
    have hl7' : H7 E1 = some (.lst ((((List.range n).filter fun u => !decide (M.getD u [] = List.replicate n 0)).map fun u => rs.getD u q).map V.ref)) := by
      rw [hl7, List.map_map]
      rfl
    walk_at "rd"
    intro e0 he0
    refine rd_eqD (d := .list ((((List.range n).filter fun u => !decide (M.getD u [] = List.replicate n 0)).map fun u => M.getD u []).map rowD)) (e := .list []) (.lst (SqL.of (up_old he0 hl7')) (dp_rows _ _ (by rw [List.length_map, List.length_map]) fun i r row e1 e2 => ?_)) (.lst (SqL.of upd_same) .nil) (rows_shaped _) (by decide +kernel) ?_
    · rw [List.getElem?_map] at e1 e2
      cases hg : ((List.range n).filter fun u => !decide (M.getD u [] = List.replicate n 0))[i]? with
      | none => rw [hg] at e1; cases e1
      | some u =>
        rw [hg] at e1 e2
        cases e1
        cases e2
        have hu : u < n := List.mem_range.mp (List.mem_filter.mp (List.mem_of_getElem? hg)).1
        obtain ⟨_, e2, e3, _⟩ := pv u hu
        exact up_old he0 (s7 _ _ (p6 u _ _ e2 e3))
    rw [eqv_nil]
    have key : due = true → Alg.Psd (fun i j => -1 * at2 M i j) (List.range n) → ((((List.range n).filter fun u => !decide (M.getD u [] = List.replicate n 0)).map fun u => M.getD u []).map rowD).isEmpty = true := fun hd hp => by
      have z := Alg.Psd_neg (List.nodup_range) (fun i hi j hj => G.sym i j (List.mem_range.mp hi) (List.mem_range.mp hj)) (hdue.mp hd) hp
      rw [List.isEmpty_iff, List.map_eq_nil_iff, List.map_eq_nil_iff, List.filter_eq_nil_iff]
      intro u hu
      have hu' := List.mem_range.mp hu
      have e : M.getD u [] = List.replicate n 0 := by
        refine List.eq_replicate_iff.mpr ⟨G.row hu', fun x hx => ?_⟩
        obtain ⟨j, hj⟩ := List.getElem?_of_mem hx
        have hj2 := (List.getElem?_eq_some_iff.mp hj).1
        rw [G.row hu'] at hj2
        have := z u hu j (List.mem_range.mpr hj2)
        unfold at2 at this
        rw [List.getD_eq_getElem?_getD, hj] at this
        exact this
      rw [decide_eq_true e]
      decide
    generalize ((((List.range n).filter fun u => !decide (M.getD u [] = List.replicate n 0)).map fun u => M.getD u []).map rowD).isEmpty = em at key
    have s7' : Same H6 (upd H7 e0 (.lst [])) := fun b o e => up_old he0 (s7 b o e)
    have L7 := L6.same s7'
    have hb7 := hb6'.same s7'
    have b7 := b6'.trans (But.same s7')
    clear p1 p6 hl7 hl7'
    generalize upd H7 e0 (.lst []) = H7b at s7' L7 hb7 b7 ⊢
    walk_at "rd"
    refine ⟨q, -1, M, rfl, L7.ll, (cfac n (-1) M (by decide) sq (by omega)).1, (cfac n (-1) M (by decide) sq (by omega)).2, fun q8 H8a hq8 s8a hT8 => ?_⟩
    walk_at "rd"
    refine ⟨q8, n, _, rfl, hT8, (facS (-1) (by decide)).1, by omega, (facS (-1) (by decide)).2, fun bn H8 s8b hbn => ?_⟩
    have L8 := (L7.same s8a).same s8b
    have hb8 := (hb7.same s8a).same s8b
    have b8 := (b7.trans (But.same s8a)).trans (But.same s8b)
    clear hT8
    obtain ⟨rs, p1, p2, p3, p4, p5, p6⟩ := id L8
    have pv : ∀ v, v < n → (rs.map V.ref).getD v .non = V.ref (rs.getD v q) ∧ rs[v]? = some (rs.getD v q) ∧ M[v]? = some (M.getD v []) ∧ (M.getD v []).length = n := fun v hv => by
      have hMl := G.len
      have h1 : v < rs.length := by omega
      have h2 : v < M.length := by omega
      refine ⟨?_, ?_, row_at h2, G.row hv⟩
      · rw [List.getD_eq_getElem?_getD, List.getElem?_map, List.getElem?_eq_getElem h1, List.getD_eq_getElem?_getD, List.getElem?_eq_getElem h1]
        rfl
      · rw [List.getD_eq_getElem?_getD, List.getElem?_eq_getElem h1]
        rfl
    have pl : (rs.map V.ref).length = n := by rw [List.length_map, p2]; exact G.len
    walk_at "rd"
    refine rd_ifb (fun hbt => ?_) (fun _ => ?_)
    · walk_at "rd"
      refine rd_ifb (fun hdt => ?_) (fun _ => ?_)
      · rw [key hdt ((facP (-1)).mp (hbn.mp hbt))]
        walk_at "rd"
        refine rd_ifb (fun z => nomatch z) (fun _ => ?_)
        skip
        walk_at "rd"
        refine ⟨⟨_, SqL.of p1⟩, ?_⟩
        intro E2 hE2
        refine lc_new (n := (rs.map V.ref).length) (wk_list .non) (by omega) hE2 (fun H' s' => SqL.of (s' _ _ p1)) (fun j t H' => Li H' t (M.getD j [] ++ [0])) (fun j t H H' s l => s _ l) (fun j t H l z => by unfold Li at l; rw [l] at z; cases z) ?_ ?_
        · intro j hj H9 o s9 ho R1 kk
          rw [pl] at hj
          obtain ⟨e1, e2, e3, e4⟩ := pv j hj
          rw [e1]
          have hrow := s9 _ _ (p6 j _ _ e2 e3)
          walk_at "rd"
          intro x hx
          refine ⟨rs.getD j q, x, _, _, rfl, rfl, up_old hx hrow, upd_same, ?_, fun t ht => ?_⟩
          · rw [List.length_map]
            exact Nat.le_trans (show _ ≤ 100 by simp only [List.length_cons, List.length_nil]; omega) (by decide)
          · refine kk t _ ((show Same H9 _ from fun b o e => up_old hx e).free ht) (fun b o e => up_old ht (up_old hx e)) ?_
            show upd _ t _ t = _
            rw [upd_same, List.map_append]
            rfl
        intro ts H9 s9 hts hnd9 hP9 hfr9 hE9 hl9
        rw [pl] at hts
        walk_at "rd"
        intro z hz
        walk_at "rd"
        refine ⟨z, (n : Int) + 1, [.int 0], rfl, rfl, upd_same, by omega, by omega, ?_, fun zr hzr => ?_⟩
        · exact Nat.le_trans (show _ ≤ 100 by simp only [List.length_cons, List.length_nil]; omega) (by decide)
        rw [show ((n : Int) + 1).toNat = n + 1 by omega, rep_zeros]
        walk_at "rd"
        intro l3 hl3
        refine ⟨E2, l3, ts.map V.ref, [.ref zr], rfl, rfl, up_old hl3 (up_old hzr (up_old hz hl9)), upd_same, ?_, fun q9 hq9 => ?_⟩
        · rw [List.length_map]
          exact Nat.le_trans (show _ ≤ 100 by simp only [List.length_cons, List.length_nil]; omega) (by decide)
        have sz : Same H9 (upd (upd (upd (upd H9 z (.lst [.int 0])) zr (.lst ((List.replicate (n + 1) (0 : Int)).map V.int))) l3 (.lst [.ref zr])) q9 (.lst (ts.map V.ref ++ [.ref zr]))) := fun b o e => up_old hq9 (up_old hl3 (up_old hzr (up_old hz e)))
        have hz9 : H9 zr = none := (show Same H9 _ from fun b o e => up_old hz e).free hzr
        have hq9' : H9 q9 = none := (show Same H9 _ from fun b o e => up_old hl3 (up_old hzr (up_old hz e))).free hq9
        have nzt : zr ∉ ts := fun hm => by
          obtain ⟨j, hj⟩ := List.getElem?_of_mem hm
          have := hP9 j zr hj
          unfold Li at this
          rw [hz9] at this
          cases this
        have LW : LLf H8 (upd (upd (upd (upd H9 z (.lst [.int 0])) zr (.lst ((List.replicate (n + 1) (0 : Int)).map V.int))) l3 (.lst [.ref zr])) q9 (.lst (ts.map V.ref ++ [.ref zr]))) q9 (wid n M) := by
          refine ⟨ts ++ [zr], by rw [upd_same, List.map_append]; rfl, by rw [List.length_append, hts, wid_len G.len]; rfl, ?_, s9.free hq9', fun r hr => ?_, fun i r row e1 e2 => ?_⟩
          · rw [List.nodup_append]
            refine ⟨hnd9, List.pairwise_singleton _ _, fun x hx y hy e => ?_⟩
            cases List.mem_singleton.mp hy
            exact nzt (e ▸ hx)
          · rcases List.mem_append.mp hr with y | y
            · exact hfr9 r y
            · rw [List.mem_singleton.mp y]
              exact s9.free hz9
          · unfold wid at e2
            rcases Nat.lt_or_ge i ts.length with y | y
            · rw [List.getElem?_append_left y] at e1
              rw [List.getElem?_append_left (by rw [List.length_map, G.len]; omega), List.getElem?_map, row_at (by rw [G.len]; omega)] at e2
              cases e2
              exact sz _ _ (hP9 i r e1)
            · rw [List.getElem?_append_right y] at e1
              rw [List.getElem?_append_right (by rw [List.length_map, G.len]; omega), List.length_map, G.len] at e2
              have i0 : i - ts.length = 0 := by
                rcases Nat.eq_zero_or_pos (i - ts.length) with w | w
                · exact w
                · rw [List.getElem?_eq_none (by show 1 ≤ i - ts.length; exact w)] at e1
                  cases e1
              rw [i0] at e1
              rw [show i - n = 0 by omega] at e2
              cases e1
              cases e2
              exact up_old hq9 (up_old hl3 upd_same)
        generalize (upd (upd (upd (upd H9 z (.lst [.int 0])) zr (.lst ((List.replicate (n + 1) (0 : Int)).map V.int))) l3 (.lst [.ref zr])) q9 (.lst (ts.map V.ref ++ [.ref zr]))) = H10 at sz LW ⊢
        have wl := wid_len (M := M) G.len
        have ww := wid_wide (M := M) G.wide
        have wa : ∀ i j, i ≤ n → j ≤ n → at2 (wid n M) i j = if i < n ∧ j < n then at2 M i j else 0 := fun i j hi hj => at2_wid G.len G.wide hi hj
        have sqW : Sq (n + 1) (wid n M) := Sq.of wl ww fun i j hi hj => by
          rw [wa i j (by omega) (by omega)]
          split
          · exact at2_bd sq i j
          · exact Nat.zero_le _
        have symW : SymM (n + 1) (wid n M) := fun i j hi hj => by
          rw [wa i j (by omega) (by omega), wa j i (by omega) (by omega)]
          by_cases h : i < n ∧ j < n
          · rw [if_pos h, if_pos ⟨h.2, h.1⟩]
            exact G.sym i j h.1 h.2
          · rw [if_neg h, if_neg (fun z => h ⟨z.2, z.1⟩)]
        have psdW : Alg.Psd (at2 (wid n M)) (List.range (n + 1)) ↔ Alg.Psd (at2 M) (List.range n) := by
          rw [Alg.Psd_wide (fun i hi => by rw [wa i n hi (Nat.le_refl _), if_neg (fun z => by omega)]) (fun i hi => by rw [wa n i (Nat.le_refl _) hi, if_neg (fun z => by omega)]) fun i j hi hj => symW i j (by omega) (by omega)]
          refine Alg.Psd_congr fun i hi j hj => ?_
          have hi := List.mem_range.mp hi
          have hj := List.mem_range.mp hj
          rw [wa i j (by omega) (by omega), if_pos ⟨hi, hj⟩]
        walk_at "rd"
        refine ⟨q9, 1, wid n M, rfl, LW.ll, (cone _ _ sqW (by omega)).1, (cone _ _ sqW (by omega)).2, fun q11 H11 hq11 s11 hT11 => ?_⟩
        rw [one_wide] at hT11
        walk_at "rd"
        refine ⟨q11, n + 1, wid n M, rfl, hT11, sqW, by omega, symW, fun b12 H12 s12 hb12 => ?_⟩
        have e12 : b12 = due := Bool.eq_iff_iff.mpr (hb12.trans (psdW.trans hdue.symm))
        rw [e12]
        walk_at "rd"
        refine rd_ne rfl ?_
        walk_at "rd"
        refine rd_iteN (fun e => absurd rfl e) (fun _ => ?_)
        have LW12 := (LW.same s11).same s12
        walk_at "rd"
        intro t ht
        refine ⟨t, _, rfl, SqT.of upd_same, rfl, _, _, rfl, ?_⟩
        have LW13 : LLf H8 (upd H12 t (.tup [.int 1, .int 1])) q9 (wid n M) := LW12.same fun b o e => up_old ht e
        have s13 : Same H8 (upd H12 t (.tup [.int 1, .int 1])) := fun b o e => up_old ht (s12 _ _ (s11 _ _ (sz _ _ (s9 b o e))))
        have ht13 : (upd H12 t (.tup [.int 1, .int 1])) t = some (.tup [.int 1, .int 1]) := upd_same
        generalize upd H12 t (.tup [.int 1, .int 1]) = H13 at LW13 s13 ht13 ⊢
        have row0 : ((wid n M).getD 0 []).length = n + 1 := ww _ (List.mem_of_getElem? (row_at (by omega)))
        obtain ⟨us, r, x1, x2, x3, x4, x5, x6⟩ := LW13.put (i := 0) (j := n) (v := 1) (by omega) (by omega)
        refine rd_gsub ?_
        walk_at "rd"
        refine rd_ixL (SqL.of x1) (ref_at (i := 0) x2) ?_
        walk_at "rd"
        refine rd_setL x3 (j := n) (ix_nat (by rw [List.length_map, row0]; omega)) List.map_set.symm ?_
        refine ⟨_, _, rfl, ?_⟩
        have bu14 : Same H8 (upd H13 r (.lst ((((wid n M).getD 0 []).set n 1).map V.int))) := fun b o eb => by
          rw [upd_ne (fun z => by rw [z, x5] at eb; cases eb)]
          exact s13 b o eb
        generalize upd H13 r (.lst ((((wid n M).getD 0 []).set n 1).map V.int)) = H14 at x6 bu14 ⊢
        have len14 : (put (wid n M) 0 n 1).length = n + 1 := by rw [put_len]; exact wl
        have wid14 : ∀ r ∈ put (wid n M) 0 n 1, r.length = n + 1 := put_wide ww (by omega)
        have rown : ((put (wid n M) 0 n 1).getD n []).length = n + 1 := wid14 _ (List.mem_of_getElem? (row_at (by omega)))
        obtain ⟨us2, r2, y1, y2, y3, y4, y5, y6⟩ := x6.put (i := n) (j := 0) (v := 1) (by omega) (by omega)
        refine rd_gsub ?_
        walk_at "rd"
        refine rd_ixL (SqL.of y1) (ref_at y2) ?_
        walk_at "rd"
        refine rd_setL y3 (j := 0) (ix_nat (j := 0) (by rw [List.length_map, rown]; omega)) List.map_set.symm ?_
        refine ⟨rfl, ?_⟩
        have bu15 : Same H8 (upd H14 r2 (.lst ((((put (wid n M) 0 n 1).getD n []).set 0 1).map V.int))) := fun b o eb => by
          rw [upd_ne (fun z => by rw [z, y5] at eb; cases eb)]
          exact bu14 b o eb
        generalize upd H14 r2 (.lst ((((put (wid n M) 0 n 1).getD n []).set 0 1).map V.int)) = H15 at y6 bu15 ⊢
        have ca := at2_cor (M := M) G.len G.wide
        have cl : (cor n M).length = n + 1 := by unfold cor; rw [put_len]; exact len14
        have cw : ∀ r ∈ cor n M, r.length = n + 1 := put_wide wid14 (by omega)
        have sqC : Sq (n + 1) (cor n M) := Sq.of cl cw fun i j hi hj => by
          rw [ca]
          split
          · decide
          · split
            · decide
            · exact at2_bd sqW i j
        have symC : SymM (n + 1) (cor n M) := fun i j hi hj => by
          rw [ca, ca, symW i j hi hj]
          by_cases h1 : i = n ∧ j = 0
          · rw [if_pos h1]
            by_cases h2 : j = n ∧ i = 0
            · rw [if_pos h2]
            · rw [if_neg h2, if_pos ⟨h1.2, h1.1⟩]
          · rw [if_neg h1]
            by_cases h2 : i = 0 ∧ j = n
            · rw [if_pos h2, if_pos ⟨h2.2, h2.1⟩]
            · rw [if_neg h2, if_neg (fun z => h2 ⟨z.2, z.1⟩), if_neg (fun z => h1 ⟨z.2, z.1⟩)]
        have notC : ¬ Alg.Psd (at2 (cor n M)) (List.range (n + 1)) := Alg.Psd_not n1 (fun i j hi hj => symC i j (by omega) (by omega)) (by
          rw [ca, if_neg (fun z => by omega), if_neg (fun z => by omega), wa n n (Nat.le_refl _) (Nat.le_refl _), if_neg (fun z => by omega)]) (by
          rw [ca, if_pos ⟨rfl, rfl⟩]
          decide)
        walk_at "rd"
        refine ⟨q9, 1, cor n M, rfl, y6.ll, (cone _ _ sqC (by omega)).1, (cone _ _ sqC (by omega)).2, fun q16 H16 hq16 s16 hT16 => ?_⟩
        rw [one_wide] at hT16
        walk_at "rd"
        refine ⟨q16, n + 1, cor n M, rfl, hT16, sqC, by omega, symC, fun b17 H17 s17 hb17 => ?_⟩
        have e17 : b17 = false := by
          cases b17 with
          | false => rfl
          | true => exact absurd (hb17.mp rfl) notC
        rw [e17]
        walk_at "rd"
        exact k H17 (b8.trans (But.same ((bu15.trans s16).trans s17))) (((hb8.same bu15).same s16).same s17)
      · skip
        walk_at "rd"
        refine ⟨⟨_, SqL.of p1⟩, ?_⟩
        intro E2 hE2
        refine lc_new (n := (rs.map V.ref).length) (wk_list .non) (by omega) hE2 (fun H' s' => SqL.of (s' _ _ p1)) (fun j t H' => Li H' t (M.getD j [] ++ [0])) (fun j t H H' s l => s _ l) (fun j t H l z => by unfold Li at l; rw [l] at z; cases z) ?_ ?_
        · intro j hj H9 o s9 ho R1 kk
          rw [pl] at hj
          obtain ⟨e1, e2, e3, e4⟩ := pv j hj
          rw [e1]
          have hrow := s9 _ _ (p6 j _ _ e2 e3)
          walk_at "rd"
          intro x hx
          refine ⟨rs.getD j q, x, _, _, rfl, rfl, up_old hx hrow, upd_same, ?_, fun t ht => ?_⟩
          · rw [List.length_map]
            exact Nat.le_trans (show _ ≤ 100 by simp only [List.length_cons, List.length_nil]; omega) (by decide)
          · refine kk t _ ((show Same H9 _ from fun b o e => up_old hx e).free ht) (fun b o e => up_old ht (up_old hx e)) ?_
            show upd _ t _ t = _
            rw [upd_same, List.map_append]
            rfl
        intro ts H9 s9 hts hnd9 hP9 hfr9 hE9 hl9
        rw [pl] at hts
        walk_at "rd"
        intro z hz
        walk_at "rd"
        refine ⟨z, (n : Int) + 1, [.int 0], rfl, rfl, upd_same, by omega, by omega, ?_, fun zr hzr => ?_⟩
        · exact Nat.le_trans (show _ ≤ 100 by simp only [List.length_cons, List.length_nil]; omega) (by decide)
        rw [show ((n : Int) + 1).toNat = n + 1 by omega, rep_zeros]
        walk_at "rd"
        intro l3 hl3
        refine ⟨E2, l3, ts.map V.ref, [.ref zr], rfl, rfl, up_old hl3 (up_old hzr (up_old hz hl9)), upd_same, ?_, fun q9 hq9 => ?_⟩
        · rw [List.length_map]
          exact Nat.le_trans (show _ ≤ 100 by simp only [List.length_cons, List.length_nil]; omega) (by decide)
        have sz : Same H9 (upd (upd (upd (upd H9 z (.lst [.int 0])) zr (.lst ((List.replicate (n + 1) (0 : Int)).map V.int))) l3 (.lst [.ref zr])) q9 (.lst (ts.map V.ref ++ [.ref zr]))) := fun b o e => up_old hq9 (up_old hl3 (up_old hzr (up_old hz e)))
        have hz9 : H9 zr = none := (show Same H9 _ from fun b o e => up_old hz e).free hzr
        have hq9' : H9 q9 = none := (show Same H9 _ from fun b o e => up_old hl3 (up_old hzr (up_old hz e))).free hq9
        have nzt : zr ∉ ts := fun hm => by
          obtain ⟨j, hj⟩ := List.getElem?_of_mem hm
          have := hP9 j zr hj
          unfold Li at this
          rw [hz9] at this
          cases this
        have LW : LLf H8 (upd (upd (upd (upd H9 z (.lst [.int 0])) zr (.lst ((List.replicate (n + 1) (0 : Int)).map V.int))) l3 (.lst [.ref zr])) q9 (.lst (ts.map V.ref ++ [.ref zr]))) q9 (wid n M) := by
          refine ⟨ts ++ [zr], by rw [upd_same, List.map_append]; rfl, by rw [List.length_append, hts, wid_len G.len]; rfl, ?_, s9.free hq9', fun r hr => ?_, fun i r row e1 e2 => ?_⟩
          · rw [List.nodup_append]
            refine ⟨hnd9, List.pairwise_singleton _ _, fun x hx y hy e => ?_⟩
            cases List.mem_singleton.mp hy
            exact nzt (e ▸ hx)
          · rcases List.mem_append.mp hr with y | y
            · exact hfr9 r y
            · rw [List.mem_singleton.mp y]
              exact s9.free hz9
          · unfold wid at e2
            rcases Nat.lt_or_ge i ts.length with y | y
            · rw [List.getElem?_append_left y] at e1
              rw [List.getElem?_append_left (by rw [List.length_map, G.len]; omega), List.getElem?_map, row_at (by rw [G.len]; omega)] at e2
              cases e2
              exact sz _ _ (hP9 i r e1)
            · rw [List.getElem?_append_right y] at e1
              rw [List.getElem?_append_right (by rw [List.length_map, G.len]; omega), List.length_map, G.len] at e2
              have i0 : i - ts.length = 0 := by
                rcases Nat.eq_zero_or_pos (i - ts.length) with w | w
                · exact w
                · rw [List.getElem?_eq_none (by show 1 ≤ i - ts.length; exact w)] at e1
                  cases e1
              rw [i0] at e1
              rw [show i - n = 0 by omega] at e2
              cases e1
              cases e2
              exact up_old hq9 (up_old hl3 upd_same)
        generalize (upd (upd (upd (upd H9 z (.lst [.int 0])) zr (.lst ((List.replicate (n + 1) (0 : Int)).map V.int))) l3 (.lst [.ref zr])) q9 (.lst (ts.map V.ref ++ [.ref zr]))) = H10 at sz LW ⊢
        have wl := wid_len (M := M) G.len
        have ww := wid_wide (M := M) G.wide
        have wa : ∀ i j, i ≤ n → j ≤ n → at2 (wid n M) i j = if i < n ∧ j < n then at2 M i j else 0 := fun i j hi hj => at2_wid G.len G.wide hi hj
        have sqW : Sq (n + 1) (wid n M) := Sq.of wl ww fun i j hi hj => by
          rw [wa i j (by omega) (by omega)]
          split
          · exact at2_bd sq i j
          · exact Nat.zero_le _
        have symW : SymM (n + 1) (wid n M) := fun i j hi hj => by
          rw [wa i j (by omega) (by omega), wa j i (by omega) (by omega)]
          by_cases h : i < n ∧ j < n
          · rw [if_pos h, if_pos ⟨h.2, h.1⟩]
            exact G.sym i j h.1 h.2
          · rw [if_neg h, if_neg (fun z => h ⟨z.2, z.1⟩)]
        have psdW : Alg.Psd (at2 (wid n M)) (List.range (n + 1)) ↔ Alg.Psd (at2 M) (List.range n) := by
          rw [Alg.Psd_wide (fun i hi => by rw [wa i n hi (Nat.le_refl _), if_neg (fun z => by omega)]) (fun i hi => by rw [wa n i (Nat.le_refl _) hi, if_neg (fun z => by omega)]) fun i j hi hj => symW i j (by omega) (by omega)]
          refine Alg.Psd_congr fun i hi j hj => ?_
          have hi := List.mem_range.mp hi
          have hj := List.mem_range.mp hj
          rw [wa i j (by omega) (by omega), if_pos ⟨hi, hj⟩]
        walk_at "rd"
        refine ⟨q9, 1, wid n M, rfl, LW.ll, (cone _ _ sqW (by omega)).1, (cone _ _ sqW (by omega)).2, fun q11 H11 hq11 s11 hT11 => ?_⟩
        rw [one_wide] at hT11
        walk_at "rd"
        refine ⟨q11, n + 1, wid n M, rfl, hT11, sqW, by omega, symW, fun b12 H12 s12 hb12 => ?_⟩
        have e12 : b12 = due := Bool.eq_iff_iff.mpr (hb12.trans (psdW.trans hdue.symm))
        rw [e12]
        walk_at "rd"
        refine rd_ne rfl ?_
        walk_at "rd"
        refine rd_iteN (fun e => absurd rfl e) (fun _ => ?_)
        have LW12 := (LW.same s11).same s12
        walk_at "rd"
        intro t ht
        refine ⟨t, _, rfl, SqT.of upd_same, rfl, _, _, rfl, ?_⟩
        have LW13 : LLf H8 (upd H12 t (.tup [.int 1, .int 1])) q9 (wid n M) := LW12.same fun b o e => up_old ht e
        have s13 : Same H8 (upd H12 t (.tup [.int 1, .int 1])) := fun b o e => up_old ht (s12 _ _ (s11 _ _ (sz _ _ (s9 b o e))))
        have ht13 : (upd H12 t (.tup [.int 1, .int 1])) t = some (.tup [.int 1, .int 1]) := upd_same
        generalize upd H12 t (.tup [.int 1, .int 1]) = H13 at LW13 s13 ht13 ⊢
        have row0 : ((wid n M).getD 0 []).length = n + 1 := ww _ (List.mem_of_getElem? (row_at (by omega)))
        obtain ⟨us, r, x1, x2, x3, x4, x5, x6⟩ := LW13.put (i := 0) (j := n) (v := 1) (by omega) (by omega)
        refine rd_gsub ?_
        walk_at "rd"
        refine rd_ixL (SqL.of x1) (ref_at (i := 0) x2) ?_
        walk_at "rd"
        refine rd_setL x3 (j := n) (ix_nat (by rw [List.length_map, row0]; omega)) List.map_set.symm ?_
        refine ⟨_, _, rfl, ?_⟩
        have bu14 : Same H8 (upd H13 r (.lst ((((wid n M).getD 0 []).set n 1).map V.int))) := fun b o eb => by
          rw [upd_ne (fun z => by rw [z, x5] at eb; cases eb)]
          exact s13 b o eb
        generalize upd H13 r (.lst ((((wid n M).getD 0 []).set n 1).map V.int)) = H14 at x6 bu14 ⊢
        have len14 : (put (wid n M) 0 n 1).length = n + 1 := by rw [put_len]; exact wl
        have wid14 : ∀ r ∈ put (wid n M) 0 n 1, r.length = n + 1 := put_wide ww (by omega)
        have rown : ((put (wid n M) 0 n 1).getD n []).length = n + 1 := wid14 _ (List.mem_of_getElem? (row_at (by omega)))
        obtain ⟨us2, r2, y1, y2, y3, y4, y5, y6⟩ := x6.put (i := n) (j := 0) (v := 1) (by omega) (by omega)
        refine rd_gsub ?_
        walk_at "rd"
        refine rd_ixL (SqL.of y1) (ref_at y2) ?_
        walk_at "rd"
        refine rd_setL y3 (j := 0) (ix_nat (j := 0) (by rw [List.length_map, rown]; omega)) List.map_set.symm ?_
        refine ⟨rfl, ?_⟩
        have bu15 : Same H8 (upd H14 r2 (.lst ((((put (wid n M) 0 n 1).getD n []).set 0 1).map V.int))) := fun b o eb => by
          rw [upd_ne (fun z => by rw [z, y5] at eb; cases eb)]
          exact bu14 b o eb
        generalize upd H14 r2 (.lst ((((put (wid n M) 0 n 1).getD n []).set 0 1).map V.int)) = H15 at y6 bu15 ⊢
        have ca := at2_cor (M := M) G.len G.wide
        have cl : (cor n M).length = n + 1 := by unfold cor; rw [put_len]; exact len14
        have cw : ∀ r ∈ cor n M, r.length = n + 1 := put_wide wid14 (by omega)
        have sqC : Sq (n + 1) (cor n M) := Sq.of cl cw fun i j hi hj => by
          rw [ca]
          split
          · decide
          · split
            · decide
            · exact at2_bd sqW i j
        have symC : SymM (n + 1) (cor n M) := fun i j hi hj => by
          rw [ca, ca, symW i j hi hj]
          by_cases h1 : i = n ∧ j = 0
          · rw [if_pos h1]
            by_cases h2 : j = n ∧ i = 0
            · rw [if_pos h2]
            · rw [if_neg h2, if_pos ⟨h1.2, h1.1⟩]
          · rw [if_neg h1]
            by_cases h2 : i = 0 ∧ j = n
            · rw [if_pos h2, if_pos ⟨h2.2, h2.1⟩]
            · rw [if_neg h2, if_neg (fun z => h2 ⟨z.2, z.1⟩), if_neg (fun z => h1 ⟨z.2, z.1⟩)]
        have notC : ¬ Alg.Psd (at2 (cor n M)) (List.range (n + 1)) := Alg.Psd_not n1 (fun i j hi hj => symC i j (by omega) (by omega)) (by
          rw [ca, if_neg (fun z => by omega), if_neg (fun z => by omega), wa n n (Nat.le_refl _) (Nat.le_refl _), if_neg (fun z => by omega)]) (by
          rw [ca, if_pos ⟨rfl, rfl⟩]
          decide)
        walk_at "rd"
        refine ⟨q9, 1, cor n M, rfl, y6.ll, (cone _ _ sqC (by omega)).1, (cone _ _ sqC (by omega)).2, fun q16 H16 hq16 s16 hT16 => ?_⟩
        rw [one_wide] at hT16
        walk_at "rd"
        refine ⟨q16, n + 1, cor n M, rfl, hT16, sqC, by omega, symC, fun b17 H17 s17 hb17 => ?_⟩
        have e17 : b17 = false := by
          cases b17 with
          | false => rfl
          | true => exact absurd (hb17.mp rfl) notC
        rw [e17]
        walk_at "rd"
        exact k H17 (b8.trans (But.same ((bu15.trans s16).trans s17))) (((hb8.same bu15).same s16).same s17)
    · skip
      walk_at "rd"
      refine ⟨⟨_, SqL.of p1⟩, ?_⟩
      intro E2 hE2
      refine lc_new (n := (rs.map V.ref).length) (wk_list .non) (by omega) hE2 (fun H' s' => SqL.of (s' _ _ p1)) (fun j t H' => Li H' t (M.getD j [] ++ [0])) (fun j t H H' s l => s _ l) (fun j t H l z => by unfold Li at l; rw [l] at z; cases z) ?_ ?_
      · intro j hj H9 o s9 ho R1 kk
        rw [pl] at hj
        obtain ⟨e1, e2, e3, e4⟩ := pv j hj
        rw [e1]
        have hrow := s9 _ _ (p6 j _ _ e2 e3)
        walk_at "rd"
        intro x hx
        refine ⟨rs.getD j q, x, _, _, rfl, rfl, up_old hx hrow, upd_same, ?_, fun t ht => ?_⟩
        · rw [List.length_map]
          exact Nat.le_trans (show _ ≤ 100 by simp only [List.length_cons, List.length_nil]; omega) (by decide)
        · refine kk t _ ((show Same H9 _ from fun b o e => up_old hx e).free ht) (fun b o e => up_old ht (up_old hx e)) ?_
          show upd _ t _ t = _
          rw [upd_same, List.map_append]
          rfl
      intro ts H9 s9 hts hnd9 hP9 hfr9 hE9 hl9
      rw [pl] at hts
      walk_at "rd"
      intro z hz
      walk_at "rd"
      refine ⟨z, (n : Int) + 1, [.int 0], rfl, rfl, upd_same, by omega, by omega, ?_, fun zr hzr => ?_⟩
      · exact Nat.le_trans (show _ ≤ 100 by simp only [List.length_cons, List.length_nil]; omega) (by decide)
      rw [show ((n : Int) + 1).toNat = n + 1 by omega, rep_zeros]
      walk_at "rd"
      intro l3 hl3
      refine ⟨E2, l3, ts.map V.ref, [.ref zr], rfl, rfl, up_old hl3 (up_old hzr (up_old hz hl9)), upd_same, ?_, fun q9 hq9 => ?_⟩
      · rw [List.length_map]
        exact Nat.le_trans (show _ ≤ 100 by simp only [List.length_cons, List.length_nil]; omega) (by decide)
      have sz : Same H9 (upd (upd (upd (upd H9 z (.lst [.int 0])) zr (.lst ((List.replicate (n + 1) (0 : Int)).map V.int))) l3 (.lst [.ref zr])) q9 (.lst (ts.map V.ref ++ [.ref zr]))) := fun b o e => up_old hq9 (up_old hl3 (up_old hzr (up_old hz e)))
      have hz9 : H9 zr = none := (show Same H9 _ from fun b o e => up_old hz e).free hzr
      have hq9' : H9 q9 = none := (show Same H9 _ from fun b o e => up_old hl3 (up_old hzr (up_old hz e))).free hq9
      have nzt : zr ∉ ts := fun hm => by
        obtain ⟨j, hj⟩ := List.getElem?_of_mem hm
        have := hP9 j zr hj
        unfold Li at this
        rw [hz9] at this
        cases this
      have LW : LLf H8 (upd (upd (upd (upd H9 z (.lst [.int 0])) zr (.lst ((List.replicate (n + 1) (0 : Int)).map V.int))) l3 (.lst [.ref zr])) q9 (.lst (ts.map V.ref ++ [.ref zr]))) q9 (wid n M) := by
        refine ⟨ts ++ [zr], by rw [upd_same, List.map_append]; rfl, by rw [List.length_append, hts, wid_len G.len]; rfl, ?_, s9.free hq9', fun r hr => ?_, fun i r row e1 e2 => ?_⟩
        · rw [List.nodup_append]
          refine ⟨hnd9, List.pairwise_singleton _ _, fun x hx y hy e => ?_⟩
          cases List.mem_singleton.mp hy
          exact nzt (e ▸ hx)
        · rcases List.mem_append.mp hr with y | y
          · exact hfr9 r y
          · rw [List.mem_singleton.mp y]
            exact s9.free hz9
        · unfold wid at e2
          rcases Nat.lt_or_ge i ts.length with y | y
          · rw [List.getElem?_append_left y] at e1
            rw [List.getElem?_append_left (by rw [List.length_map, G.len]; omega), List.getElem?_map, row_at (by rw [G.len]; omega)] at e2
            cases e2
            exact sz _ _ (hP9 i r e1)
          · rw [List.getElem?_append_right y] at e1
            rw [List.getElem?_append_right (by rw [List.length_map, G.len]; omega), List.length_map, G.len] at e2
            have i0 : i - ts.length = 0 := by
              rcases Nat.eq_zero_or_pos (i - ts.length) with w | w
              · exact w
              · rw [List.getElem?_eq_none (by show 1 ≤ i - ts.length; exact w)] at e1
                cases e1
            rw [i0] at e1
            rw [show i - n = 0 by omega] at e2
            cases e1
            cases e2
            exact up_old hq9 (up_old hl3 upd_same)
      generalize (upd (upd (upd (upd H9 z (.lst [.int 0])) zr (.lst ((List.replicate (n + 1) (0 : Int)).map V.int))) l3 (.lst [.ref zr])) q9 (.lst (ts.map V.ref ++ [.ref zr]))) = H10 at sz LW ⊢
      have wl := wid_len (M := M) G.len
      have ww := wid_wide (M := M) G.wide
      have wa : ∀ i j, i ≤ n → j ≤ n → at2 (wid n M) i j = if i < n ∧ j < n then at2 M i j else 0 := fun i j hi hj => at2_wid G.len G.wide hi hj
      have sqW : Sq (n + 1) (wid n M) := Sq.of wl ww fun i j hi hj => by
        rw [wa i j (by omega) (by omega)]
        split
        · exact at2_bd sq i j
        · exact Nat.zero_le _
      have symW : SymM (n + 1) (wid n M) := fun i j hi hj => by
        rw [wa i j (by omega) (by omega), wa j i (by omega) (by omega)]
        by_cases h : i < n ∧ j < n
        · rw [if_pos h, if_pos ⟨h.2, h.1⟩]
          exact G.sym i j h.1 h.2
        · rw [if_neg h, if_neg (fun z => h ⟨z.2, z.1⟩)]
      have psdW : Alg.Psd (at2 (wid n M)) (List.range (n + 1)) ↔ Alg.Psd (at2 M) (List.range n) := by
        rw [Alg.Psd_wide (fun i hi => by rw [wa i n hi (Nat.le_refl _), if_neg (fun z => by omega)]) (fun i hi => by rw [wa n i (Nat.le_refl _) hi, if_neg (fun z => by omega)]) fun i j hi hj => symW i j (by omega) (by omega)]
        refine Alg.Psd_congr fun i hi j hj => ?_
        have hi := List.mem_range.mp hi
        have hj := List.mem_range.mp hj
        rw [wa i j (by omega) (by omega), if_pos ⟨hi, hj⟩]
      walk_at "rd"
      refine ⟨q9, 1, wid n M, rfl, LW.ll, (cone _ _ sqW (by omega)).1, (cone _ _ sqW (by omega)).2, fun q11 H11 hq11 s11 hT11 => ?_⟩
      rw [one_wide] at hT11
      walk_at "rd"
      refine ⟨q11, n + 1, wid n M, rfl, hT11, sqW, by omega, symW, fun b12 H12 s12 hb12 => ?_⟩
      have e12 : b12 = due := Bool.eq_iff_iff.mpr (hb12.trans (psdW.trans hdue.symm))
      rw [e12]
      walk_at "rd"
      refine rd_ne rfl ?_
      walk_at "rd"
      refine rd_iteN (fun e => absurd rfl e) (fun _ => ?_)
      have LW12 := (LW.same s11).same s12
      walk_at "rd"
      intro t ht
      refine ⟨t, _, rfl, SqT.of upd_same, rfl, _, _, rfl, ?_⟩
      have LW13 : LLf H8 (upd H12 t (.tup [.int 1, .int 1])) q9 (wid n M) := LW12.same fun b o e => up_old ht e
      have s13 : Same H8 (upd H12 t (.tup [.int 1, .int 1])) := fun b o e => up_old ht (s12 _ _ (s11 _ _ (sz _ _ (s9 b o e))))
      have ht13 : (upd H12 t (.tup [.int 1, .int 1])) t = some (.tup [.int 1, .int 1]) := upd_same
      generalize upd H12 t (.tup [.int 1, .int 1]) = H13 at LW13 s13 ht13 ⊢
      have row0 : ((wid n M).getD 0 []).length = n + 1 := ww _ (List.mem_of_getElem? (row_at (by omega)))
      obtain ⟨us, r, x1, x2, x3, x4, x5, x6⟩ := LW13.put (i := 0) (j := n) (v := 1) (by omega) (by omega)
      refine rd_gsub ?_
      walk_at "rd"
      refine rd_ixL (SqL.of x1) (ref_at (i := 0) x2) ?_
      walk_at "rd"
      refine rd_setL x3 (j := n) (ix_nat (by rw [List.length_map, row0]; omega)) List.map_set.symm ?_
      refine ⟨_, _, rfl, ?_⟩
      have bu14 : Same H8 (upd H13 r (.lst ((((wid n M).getD 0 []).set n 1).map V.int))) := fun b o eb => by
        rw [upd_ne (fun z => by rw [z, x5] at eb; cases eb)]
        exact s13 b o eb
      generalize upd H13 r (.lst ((((wid n M).getD 0 []).set n 1).map V.int)) = H14 at x6 bu14 ⊢
      have len14 : (put (wid n M) 0 n 1).length = n + 1 := by rw [put_len]; exact wl
      have wid14 : ∀ r ∈ put (wid n M) 0 n 1, r.length = n + 1 := put_wide ww (by omega)
      have rown : ((put (wid n M) 0 n 1).getD n []).length = n + 1 := wid14 _ (List.mem_of_getElem? (row_at (by omega)))
      obtain ⟨us2, r2, y1, y2, y3, y4, y5, y6⟩ := x6.put (i := n) (j := 0) (v := 1) (by omega) (by omega)
      refine rd_gsub ?_
      walk_at "rd"
      refine rd_ixL (SqL.of y1) (ref_at y2) ?_
      walk_at "rd"
      refine rd_setL y3 (j := 0) (ix_nat (j := 0) (by rw [List.length_map, rown]; omega)) List.map_set.symm ?_
      refine ⟨rfl, ?_⟩
      have bu15 : Same H8 (upd H14 r2 (.lst ((((put (wid n M) 0 n 1).getD n []).set 0 1).map V.int))) := fun b o eb => by
        rw [upd_ne (fun z => by rw [z, y5] at eb; cases eb)]
        exact bu14 b o eb
      generalize upd H14 r2 (.lst ((((put (wid n M) 0 n 1).getD n []).set 0 1).map V.int)) = H15 at y6 bu15 ⊢
      have ca := at2_cor (M := M) G.len G.wide
      have cl : (cor n M).length = n + 1 := by unfold cor; rw [put_len]; exact len14
      have cw : ∀ r ∈ cor n M, r.length = n + 1 := put_wide wid14 (by omega)
      have sqC : Sq (n + 1) (cor n M) := Sq.of cl cw fun i j hi hj => by
        rw [ca]
        split
        · decide
        · split
          · decide
          · exact at2_bd sqW i j
      have symC : SymM (n + 1) (cor n M) := fun i j hi hj => by
        rw [ca, ca, symW i j hi hj]
        by_cases h1 : i = n ∧ j = 0
        · rw [if_pos h1]
          by_cases h2 : j = n ∧ i = 0
          · rw [if_pos h2]
          · rw [if_neg h2, if_pos ⟨h1.2, h1.1⟩]
        · rw [if_neg h1]
          by_cases h2 : i = 0 ∧ j = n
          · rw [if_pos h2, if_pos ⟨h2.2, h2.1⟩]
          · rw [if_neg h2, if_neg (fun z => h2 ⟨z.2, z.1⟩), if_neg (fun z => h1 ⟨z.2, z.1⟩)]
      have notC : ¬ Alg.Psd (at2 (cor n M)) (List.range (n + 1)) := Alg.Psd_not n1 (fun i j hi hj => symC i j (by omega) (by omega)) (by
        rw [ca, if_neg (fun z => by omega), if_neg (fun z => by omega), wa n n (Nat.le_refl _) (Nat.le_refl _), if_neg (fun z => by omega)]) (by
        rw [ca, if_pos ⟨rfl, rfl⟩]
        decide)
      walk_at "rd"
      refine ⟨q9, 1, cor n M, rfl, y6.ll, (cone _ _ sqC (by omega)).1, (cone _ _ sqC (by omega)).2, fun q16 H16 hq16 s16 hT16 => ?_⟩
      rw [one_wide] at hT16
      walk_at "rd"
      refine ⟨q16, n + 1, cor n M, rfl, hT16, sqC, by omega, symC, fun b17 H17 s17 hb17 => ?_⟩
      have e17 : b17 = false := by
        cases b17 with
        | false => rfl
        | true => exact absurd (hb17.mp rfl) notC
      rw [e17]
      walk_at "rd"
      exact k H17 (b8.trans (But.same ((bu15.trans s16).trans s17))) (((hb8.same bu15).same s16).same s17)
end
section
variable {P : Program} {w : World} {K : PySem.W.Frag} {mg : Str → Option Value} {base : Heap}
theorem oklaw {f : Addr} {fd : FuncData} (B : Bi mg) (F : Fun K "law" "law" slaw f fd) (c_law_bag : Cal P w K mg base "_law_bag" 1 ["_law_script", "_law_at"] (spBag K)) (c_law_cleared_right : Cal P w K mg base "_law_cleared_right" 7 ["_law_bag_here"] (spRight)) (c_law_sums_right : Cal P w K mg base "_law_sums_right" 9 ["_law_bag_here"] (spRight)) (c_law_tables_right : Cal P w K mg base "_law_tables_right" 9 ["_law_bag_here"] (spRight)) (ccleared : Cal P w K mg base "cleared" 6 ["row"] (spDvd)) (cdeterminant : Cal P w K mg base "determinant" 8 ["table"] (spDetOf)) (cis_square_sum : Cal P w K mg base "is_square_sum" 8 ["table"] (spPsd)) : FnQ P w K mg base 10 f fd ["_law_script"] (spLaw K) := by
  refine quiet_def F sclaw (fun vs H Q E h => ?_) (fun cdv A outer s H vs Q E hq hr h => ?_)
  · obtain ⟨a, ns, rfl, _⟩ := h; rfl
  · have hu := hr.units
    replace hq := Quiet.deeper hq (envOfC "law" (defScope slaw) s.heap.objs.size f cdv)
    have hr_law_bag := hr.mono (show 1 ≤ 9 by decide)
    have hr_law_cleared_right := hr.mono (show 7 ≤ 9 by decide)
    have hr_law_sums_right := hr.mono (show 9 ≤ 9 by decide)
    have hr_law_tables_right := hr.mono (show 9 ≤ 9 by decide)
    have hrcleared := hr.mono (show 6 ≤ 9 by decide)
    have hrdeterminant := hr.mono (show 8 ≤ 9 by decide)
    have hris_square_sum := hr.mono (show 8 ≤ 9 by decide)
    skip
    refine ⟨_, (pss_cons (ps_for PassesOwn.never (by rfl) (pi_range1 (by rfl) B.b_range (pa_cons (pe_callB (q_max2 rfl) (by rfl) B.b_max (by decide +kernel) (pa_cons pe_int (pa_cons (pe_callB (q_min2 rfl) (by rfl) B.b_min (by decide +kernel) (pa_cons pe_int (pa_cons (pe_callB (r := rLenQ K) (by exact q_lenQ) (by rfl) B.b_len (by decide +kernel) (pa_cons (pv 0) pa_nil)) pa_nil))) pa_nil))) pa_nil)) (pg_name (i := 1) sclaw.nd rfl (by first | exact Or.inl rfl | exact Or.inr rfl)) (pss_cons (ps_set (i := 2) sclaw.nd rfl (by first | exact Or.inl rfl | exact Or.inr rfl) (qc c_law_bag hq hr_law_bag (by rfl) (pa_cons (pv 0) (pa_cons (pv 1) pa_nil))))
        (pss_one (ps_if (PW.pt (pw_or (pt_not (pt_val (qc c_law_tables_right hq hr_law_tables_right (by rfl) (pa_cons (pv 2) pa_nil)))) (pw_or (pt_not (pt_val (qc c_law_sums_right hq hr_law_sums_right (by rfl) (pa_cons (pv 2) pa_nil)))) (pw_or (pt_not (pt_val (qc c_law_sums_right hq hr_law_sums_right (by rfl) (pa_cons (pv 2) pa_nil)))) (pw_or1 (pt_not (pt_val (qc c_law_cleared_right hq hr_law_cleared_right (by rfl) (pa_cons (pv 2) pa_nil))))))))) (pss_one (ps_ret pe_bl)) pss_nil))))
        (pss_one (ps_ret (pe_cmpR op_eq (pe_callB (r := rShow K) (by exact (call_show hq hu)) (by rfl) B.b_repr (by decide +kernel) (pa_cons (pe_lst (pa_cons (qc cdeterminant hq hrdeterminant (by rfl) (pa_cons (pe_tup pa_nil) pa_nil)) (pa_cons (qc cis_square_sum hq hris_square_sum (by rfl) (pa_cons (pe_tup pa_nil) pa_nil)) (pa_cons (qc cis_square_sum hq hris_square_sum (by rfl) (pa_cons (pe_tup (pa_cons (pe_tup (pa_cons pe_int pa_nil)) pa_nil)) pa_nil)) (pa_cons (qc ccleared hq hrcleared (by rfl) (pa_cons (pe_tup (pa_cons pe_int (pa_cons pe_int pa_nil))) pa_nil)) pa_nil))))) pa_nil)) (pe_callB (r := rShow K) (by exact (call_show hq hu)) (by rfl) B.b_repr (by decide +kernel) (pa_cons (pe_lst (pa_cons pe_int (pa_cons pe_bl (pa_cons pe_bl (pa_cons (pe_tup (pa_cons pe_int (pa_cons pe_int pa_nil))) pa_nil))))) pa_nil)) (nomark _))))), ?_⟩
    obtain ⟨a, ns, rfl, hS, hl, k⟩ := h
    refine rd_at [some (.ref a), none, none] rfl ?_
    walk_at "rd"
    refine rd_lenL hS ?_
    walk_at "rd"
    generalize hm : (if (if ((ns.map V.int).length : Int) < 3 then ((ns.map V.int).length : Int) else 3) > 1 then (if ((ns.map V.int).length : Int) < 3 then ((ns.map V.int).length : Int) else 3) else 1) = m
    have m1 : 1 ≤ m ∧ m ≤ 3 := by
      rw [← hm]
      split <;> split <;> omega
    refine ⟨m, rfl, by omega, by omega, ?_⟩
    refine for_rng (fun _ σ' H' => ∃ v1 v2, σ' = [some (.ref a), v1, v2] ∧ SqL K H' a (ns.map V.int)) ⟨none, none, rfl, hS⟩ ?_ ?_
    · rintro i _ H1 hi ⟨v1, v2, rfl, hS1⟩
      walk_at "rd"
      refine ⟨a, ns, i, by rw [Int.zero_add], hS1, fun p H2 hp hsame hb => ?_⟩
      walk_at "rd"
      refine ⟨p, rfl, hb, fun H3 b3 hb3 => ?_⟩
      walk_at "rd"
      refine rd_ifb (fun z => nomatch z) (fun _ => ?_)
      walk_at "rd"
      refine ⟨p, rfl, hb3, fun H4 b4 hb4 => ?_⟩
      walk_at "rd"
      refine rd_ifb (fun z => nomatch z) (fun _ => ?_)
      walk_at "rd"
      refine ⟨p, rfl, hb4, fun H5 b5 hb5 => ?_⟩
      walk_at "rd"
      refine rd_ifb (fun z => nomatch z) (fun _ => ?_)
      walk_at "rd"
      refine ⟨p, rfl, hb5, fun H6 b6 hb6 => ?_⟩
      walk_at "rd"
      refine rd_ifb (fun z => nomatch z) (fun _ => ?_)
      walk_at "rd"
      exact ⟨_, _, rfl, sq_kept hp hsame (((b3.trans b4).trans b5).trans b6) hS1⟩
    rintro _ H1 ⟨v1, v2, rfl, hS1⟩
    walk_at "rd"
    intro t1 ht1
    walk_at "rd"
    refine ⟨t1, 0, [], rfl, ⟨[], upd_same, rfl, fun i r row e => by cases e⟩, ⟨rfl, fun _ z => (nomatch z), fun _ z => (nomatch z)⟩, by decide, fun H2 s2 => ?_⟩
    rw [Alg.lap_nil]
    walk_at "rd"
    intro t2 ht2
    walk_at "rd"
    refine ⟨t2, 0, [], rfl, ⟨[], upd_same, rfl, fun i r row e => by cases e⟩, ⟨rfl, fun _ z => (nomatch z), fun _ z => (nomatch z)⟩, by decide, fun i j hi => by omega, fun c1 H3 s3 hc1 => ?_⟩
    have e1 : c1 = true := hc1.mpr fun x => Int.le_refl 0
    subst e1
    walk_at "rd"
    intro t3 ht3
    walk_at "rd"
    intro t4 ht4
    walk_at "rd"
    refine ⟨t4, 1, [[0]], rfl, ⟨[t3], upd_same, rfl, fun i r row e1 e2 => ?_⟩, ⟨rfl, fun r hr => by rw [List.mem_singleton.mp hr]; rfl, fun r hr x hx => by
      rw [List.mem_singleton.mp hr] at hx
      rw [List.mem_singleton.mp hx]
      exact Nat.zero_le _⟩, by decide, fun i j hi hj => by
      have h1 : i = 0 := by omega
      have h2 : j = 0 := by omega
      rw [h1, h2], fun c2 H4 s4 hc2 => ?_⟩
    · cases i with
      | zero =>
        cases e1
        cases e2
        exact up_old ht4 upd_same
      | succ i =>
        rw [List.getElem?_cons_succ] at e1
        cases e1
    have e2 : c2 = true := hc2.mpr fun x => by
      refine Int.le_of_eq ?_
      symm
      refine Alg.S_zero fun i hi => Alg.S_zero fun j hj => ?_
      have h1 : i = 0 := by have := List.mem_range.mp hi; omega
      have h2 : j = 0 := by have := List.mem_range.mp hj; omega
      rw [h1, h2]
      exact Int.mul_zero _
    subst e2
    walk_at "rd"
    intro t5 ht5
    walk_at "rd"
    refine ⟨t5, [0, 0], rfl, upd_same, by decide, by decide, fun x hx => ?_, fun q H5 s5 hq5 => ?_⟩
    · simp only [List.mem_cons, List.not_mem_nil, or_false, or_self] at hx
      rw [hx]
      exact Nat.pow_pos (by decide)
    have ed : dvd [0, 0] = [0, 0] := by decide
    rw [ed] at hq5
    walk_at "rd"
    intro l1 hl1
    walk_at "rd"
    refine ⟨_, _, rfl, .dat (d := .list [.int 1, .bool true, .bool true, .tuple [.int 0, .int 0]]) (.lst (SqL.of upd_same) (.cons (.int 1) (.cons (.bl true) (.cons (.bl true) (.cons (.tup (SqT.of (up_old hl1 hq5)) (.cons (.int 0) (.cons (.int 0) .nil))) .nil))))) (by decide +kernel) (by decide +kernel) (by decide +kernel) (by decide +kernel), ?_⟩
    walk_at "rd"
    intro t6 ht6
    walk_at "rd"
    intro l2 hl2
    walk_at "rd"
    refine ⟨_, _, rfl, .dat (d := .list [.int 1, .bool true, .bool true, .tuple [.int 0, .int 0]]) (.lst (SqL.of upd_same) (.cons (.int 1) (.cons (.bl true) (.cons (.bl true) (.cons (.tup (SqT.of (up_old hl2 upd_same)) (.cons (.int 0) (.cons (.int 0) .nil))) .nil))))) (by decide +kernel) (by decide +kernel) (by decide +kernel) (by decide +kernel), ?_⟩
    refine rd_eq rfl ?_
    rw [decide_eq_true rfl]
    exact k _
end
end K04
namespace K04
open PySem PySem.Spec PyProof.Rows L2 Lay

theorem all_mk {l : PySem.W.OpenLaw} {w : World} {K : PySem.W.Frag} {h : Heap} {mg : Str → Option Value} {fa f0 f1 f2 f3 f4 f5 f6 f7 f8 f9 f10 f11 f12 f13 f14 f15 f16 f17 f18 f19 f20 f21 f22 f23 f24 f25 f26 f27 f28 f29 f30 f31 : Addr} (X : K.In h) (G : h.Ns mainGlobals mg) (hfa : mg "law" = some (.ref fa))
    {od0 an0 od1 an1 od2 an2 od3 an3 od4 an4 od5 an5 od6 an6 od7 an7 od8 an8 od9 an9 od10 an10 od11 an11 od12 an12 od13 an13 od14 an14 od15 an15 od16 an16 od17 an17 od18 an18 od19 an19 od20 an20 od21 an21 od22 an22 od23 an23 od24 an24 od25 an25 od26 an26 od27 an27 od28 an28 od29 an29 od30 an30 od31 an31 : Option Addr} {sl0 sl1 sl2 sl3 sl4 sl5 sl6 sl7 sl8 sl9 sl10 sl11 sl12 sl13 sl14 sl15 sl16 sl17 sl18 sl19 sl20 sl21 sl22 sl23 sl24 sl25 sl26 sl27 sl28 sl29 sl30 sl31 : Array (Option Value)} {oc0 kV0 dc0 pm0 cd0 ct0 oc1 kV1 dc1 pm1 cd1 ct1 oc2 kV2 dc2 pm2 cd2 ct2 oc3 kV3 dc3 pm3 cd3 ct3 oc4 kV4 dc4 pm4 cd4 ct4 oc5 kV5 dc5 pm5 cd5 ct5 oc6 kV6 dc6 pm6 cd6 ct6 oc7 kV7 dc7 pm7 cd7 ct7 oc8 kV8 dc8 pm8 cd8 ct8 oc9 kV9 dc9 pm9 cd9 ct9 oc10 kV10 dc10 pm10 cd10 ct10 oc11 kV11 dc11 pm11 cd11 ct11 oc12 kV12 dc12 pm12 cd12 ct12 oc13 kV13 dc13 pm13 cd13 ct13 oc14 kV14 dc14 pm14 cd14 ct14 oc15 kV15 dc15 pm15 cd15 ct15 oc16 kV16 dc16 pm16 cd16 ct16 oc17 kV17 dc17 pm17 cd17 ct17 oc18 kV18 dc18 pm18 cd18 ct18 oc19 kV19 dc19 pm19 cd19 ct19 oc20 kV20 dc20 pm20 cd20 ct20 oc21 kV21 dc21 pm21 cd21 ct21 oc22 kV22 dc22 pm22 cd22 ct22 oc23 kV23 dc23 pm23 cd23 ct23 oc24 kV24 dc24 pm24 cd24 ct24 oc25 kV25 dc25 pm25 cd25 ct25 oc26 kV26 dc26 pm26 cd26 ct26 oc27 kV27 dc27 pm27 cd27 ct27 oc28 kV28 dc28 pm28 cd28 ct28 oc29 kV29 dc29 pm29 cd29 ct29 oc30 kV30 dc30 pm30 cd30 ct30 oc31 kV31 dc31 pm31 cd31 ct31 : Value}
    (a0 : PySem.W.nsIn K mainGlobals "divided" = some (some (.ref f0))) (l0 : K.lookup f0 = some ⟨oc0, od0, .func (PySem.W.fnOf "divided" "divided" (defArgs sdivided) (defBody sdivided) (defScope sdivided) .none kV0 dc0 pm0 an0 cd0 ct0), sl0⟩) (c0 : PySem.W.codeIn K cd0 "divided" = true) (k0 : PySem.W.keepIn K (.ref f0) = true)
    (a1 : PySem.W.nsIn K mainGlobals "_row_with" = some (some (.ref f1))) (l1 : K.lookup f1 = some ⟨oc1, od1, .func (PySem.W.fnOf "_row_with" "_row_with" (defArgs s_row_with) (defBody s_row_with) (defScope s_row_with) .none kV1 dc1 pm1 an1 cd1 ct1), sl1⟩) (c1 : PySem.W.codeIn K cd1 "_row_with" = true) (k1 : PySem.W.keepIn K (.ref f1) = true)
    (a2 : PySem.W.nsIn K mainGlobals "_swap" = some (some (.ref f2))) (l2 : K.lookup f2 = some ⟨oc2, od2, .func (PySem.W.fnOf "_swap" "_swap" (defArgs s_swap) (defBody s_swap) (defScope s_swap) .none kV2 dc2 pm2 an2 cd2 ct2), sl2⟩) (c2 : PySem.W.codeIn K cd2 "_swap" = true) (k2 : PySem.W.keepIn K (.ref f2) = true)
    (a3 : PySem.W.nsIn K mainGlobals "_combined" = some (some (.ref f3))) (l3 : K.lookup f3 = some ⟨oc3, od3, .func (PySem.W.fnOf "_combined" "_combined" (defArgs s_combined) (defBody s_combined) (defScope s_combined) .none kV3 dc3 pm3 an3 cd3 ct3), sl3⟩) (c3 : PySem.W.codeIn K cd3 "_combined" = true) (k3 : PySem.W.keepIn K (.ref f3) = true)
    (a4 : PySem.W.nsIn K mainGlobals "_least_longer" = some (some (.ref f4))) (l4 : K.lookup f4 = some ⟨oc4, od4, .func (PySem.W.fnOf "_least_longer" "_least_longer" (defArgs s_least_longer) (defBody s_least_longer) (defScope s_least_longer) .none kV4 dc4 pm4 an4 cd4 ct4), sl4⟩) (c4 : PySem.W.codeIn K cd4 "_least_longer" = true) (k4 : PySem.W.keepIn K (.ref f4) = true)
    (a5 : PySem.W.nsIn K mainGlobals "_width_of" = some (some (.ref f5))) (l5 : K.lookup f5 = some ⟨oc5, od5, .func (PySem.W.fnOf "_width_of" "_width_of" (defArgs s_width_of) (defBody s_width_of) (defScope s_width_of) .none kV5 dc5 pm5 an5 cd5 ct5), sl5⟩) (c5 : PySem.W.codeIn K cd5 "_width_of" = true) (k5 : PySem.W.keepIn K (.ref f5) = true)
    (a6 : PySem.W.nsIn K mainGlobals "_is_symmetric" = some (some (.ref f6))) (l6 : K.lookup f6 = some ⟨oc6, od6, .func (PySem.W.fnOf "_is_symmetric" "_is_symmetric" (defArgs s_is_symmetric) (defBody s_is_symmetric) (defScope s_is_symmetric) .none kV6 dc6 pm6 an6 cd6 ct6), sl6⟩) (c6 : PySem.W.codeIn K cd6 "_is_symmetric" = true) (k6 : PySem.W.keepIn K (.ref f6) = true)
    (a7 : PySem.W.nsIn K mainGlobals "_law_bag" = some (some (.ref f7))) (l7 : K.lookup f7 = some ⟨oc7, od7, .func (PySem.W.fnOf "_law_bag" "_law_bag" (defArgs s_law_bag) (defBody s_law_bag) (defScope s_law_bag) .none kV7 dc7 pm7 an7 cd7 ct7), sl7⟩) (c7 : PySem.W.codeIn K cd7 "_law_bag" = true) (k7 : PySem.W.keepIn K (.ref f7) = true)
    (a8 : PySem.W.nsIn K mainGlobals "_law_draw" = some (some (.ref f8))) (l8 : K.lookup f8 = some ⟨oc8, od8, .func (PySem.W.fnOf "_law_draw" "_law_draw" (defArgs s_law_draw) (defBody s_law_draw) (defScope s_law_draw) .none kV8 dc8 pm8 an8 cd8 ct8), sl8⟩) (c8 : PySem.W.codeIn K cd8 "_law_draw" = true) (k8 : PySem.W.keepIn K (.ref f8) = true)
    (a9 : PySem.W.nsIn K mainGlobals "_law_divisor" = some (some (.ref f9))) (l9 : K.lookup f9 = some ⟨oc9, od9, .func (PySem.W.fnOf "_law_divisor" "_law_divisor" (defArgs s_law_divisor) (defBody s_law_divisor) (defScope s_law_divisor) .none kV9 dc9 pm9 an9 cd9 ct9), sl9⟩) (c9 : PySem.W.codeIn K cd9 "_law_divisor" = true) (k9 : PySem.W.keepIn K (.ref f9) = true)
    (a10 : PySem.W.nsIn K mainGlobals "_law_wide" = some (some (.ref f10))) (l10 : K.lookup f10 = some ⟨oc10, od10, .func (PySem.W.fnOf "_law_wide" "_law_wide" (defArgs s_law_wide) (defBody s_law_wide) (defScope s_law_wide) .none kV10 dc10 pm10 an10 cd10 ct10), sl10⟩) (c10 : PySem.W.codeIn K cd10 "_law_wide" = true) (k10 : PySem.W.keepIn K (.ref f10) = true)
    (a11 : PySem.W.nsIn K mainGlobals "determinant_of" = some (some (.ref f11))) (l11 : K.lookup f11 = some ⟨oc11, od11, .func (PySem.W.fnOf "determinant_of" "determinant_of" (defArgs sdeterminant_of) (defBody sdeterminant_of) (defScope sdeterminant_of) .none kV11 dc11 pm11 an11 cd11 ct11), sl11⟩) (c11 : PySem.W.codeIn K cd11 "determinant_of" = true) (k11 : PySem.W.keepIn K (.ref f11) = true)
    (a12 : PySem.W.nsIn K mainGlobals "_without_square" = some (some (.ref f12))) (l12 : K.lookup f12 = some ⟨oc12, od12, .func (PySem.W.fnOf "_without_square" "_without_square" (defArgs s_without_square) (defBody s_without_square) (defScope s_without_square) .none kV12 dc12 pm12 an12 cd12 ct12), sl12⟩) (c12 : PySem.W.codeIn K cd12 "_without_square" = true) (k12 : PySem.W.keepIn K (.ref f12) = true)
    (a13 : PySem.W.nsIn K mainGlobals "has_digits" = some (some (.ref f13))) (l13 : K.lookup f13 = some ⟨oc13, od13, .func (PySem.W.fnOf "has_digits" "has_digits" (defArgs shas_digits) (defBody shas_digits) (defScope shas_digits) .none kV13 dc13 pm13 an13 cd13 ct13), sl13⟩) (c13 : PySem.W.codeIn K cd13 "has_digits" = true) (k13 : PySem.W.keepIn K (.ref f13) = true)
    (a14 : PySem.W.nsIn K mainGlobals "_law_one_of" = some (some (.ref f14))) (l14 : K.lookup f14 = some ⟨oc14, od14, .func (PySem.W.fnOf "_law_one_of" "_law_one_of" (defArgs s_law_one_of) (defBody s_law_one_of) (defScope s_law_one_of) .none kV14 dc14 pm14 an14 cd14 ct14), sl14⟩) (c14 : PySem.W.codeIn K cd14 "_law_one_of" = true) (k14 : PySem.W.keepIn K (.ref f14) = true)
    (a15 : PySem.W.nsIn K mainGlobals "_law_numbers" = some (some (.ref f15))) (l15 : K.lookup f15 = some ⟨oc15, od15, .func (PySem.W.fnOf "_law_numbers" "_law_numbers" (defArgs s_law_numbers) (defBody s_law_numbers) (defScope s_law_numbers) .none kV15 dc15 pm15 an15 cd15 ct15), sl15⟩) (c15 : PySem.W.codeIn K cd15 "_law_numbers" = true) (k15 : PySem.W.keepIn K (.ref f15) = true)
    (a16 : PySem.W.nsIn K mainGlobals "is_sum_of_squares" = some (some (.ref f16))) (l16 : K.lookup f16 = some ⟨oc16, od16, .func (PySem.W.fnOf "is_sum_of_squares" "is_sum_of_squares" (defArgs sis_sum_of_squares) (defBody sis_sum_of_squares) (defScope sis_sum_of_squares) .none kV16 dc16 pm16 an16 cd16 ct16), sl16⟩) (c16 : PySem.W.codeIn K cd16 "is_sum_of_squares" = true) (k16 : PySem.W.keepIn K (.ref f16) = true)
    (a17 : PySem.W.nsIn K mainGlobals "is_integer" = some (some (.ref f17))) (l17 : K.lookup f17 = some ⟨oc17, od17, .func (PySem.W.fnOf "is_integer" "is_integer" (defArgs sis_integer) (defBody sis_integer) (defScope sis_integer) .none kV17 dc17 pm17 an17 cd17 ct17), sl17⟩) (c17 : PySem.W.codeIn K cd17 "is_integer" = true) (k17 : PySem.W.keepIn K (.ref f17) = true)
    (a18 : PySem.W.nsIn K mainGlobals "_law_symmetric" = some (some (.ref f18))) (l18 : K.lookup f18 = some ⟨oc18, od18, .func (PySem.W.fnOf "_law_symmetric" "_law_symmetric" (defArgs s_law_symmetric) (defBody s_law_symmetric) (defScope s_law_symmetric) .none kV18 dc18 pm18 an18 cd18 ct18), sl18⟩) (c18 : PySem.W.codeIn K cd18 "_law_symmetric" = true) (k18 : PySem.W.keepIn K (.ref f18) = true)
    (a19 : PySem.W.nsIn K mainGlobals "are_integers" = some (some (.ref f19))) (l19 : K.lookup f19 = some ⟨oc19, od19, .func (PySem.W.fnOf "are_integers" "are_integers" (defArgs sare_integers) (defBody sare_integers) (defScope sare_integers) .none kV19 dc19 pm19 an19 cd19 ct19), sl19⟩) (c19 : PySem.W.codeIn K cd19 "are_integers" = true) (k19 : PySem.W.keepIn K (.ref f19) = true)
    (a20 : PySem.W.nsIn K mainGlobals "_is_row" = some (some (.ref f20))) (l20 : K.lookup f20 = some ⟨oc20, od20, .func (PySem.W.fnOf "_is_row" "_is_row" (defArgs s_is_row) (defBody s_is_row) (defScope s_is_row) .none kV20 dc20 pm20 an20 cd20 ct20), sl20⟩) (c20 : PySem.W.codeIn K cd20 "_is_row" = true) (k20 : PySem.W.keepIn K (.ref f20) = true)
    (a21 : PySem.W.nsIn K mainGlobals "cleared" = some (some (.ref f21))) (l21 : K.lookup f21 = some ⟨oc21, od21, .func (PySem.W.fnOf "cleared" "cleared" (defArgs scleared) (defBody scleared) (defScope scleared) .none kV21 dc21 pm21 an21 cd21 ct21), sl21⟩) (c21 : PySem.W.codeIn K cd21 "cleared" = true) (k21 : PySem.W.keepIn K (.ref f21) = true)
    (a22 : PySem.W.nsIn K mainGlobals "_are_rows" = some (some (.ref f22))) (l22 : K.lookup f22 = some ⟨oc22, od22, .func (PySem.W.fnOf "_are_rows" "_are_rows" (defArgs s_are_rows) (defBody s_are_rows) (defScope s_are_rows) .none kV22 dc22 pm22 an22 cd22 ct22), sl22⟩) (c22 : PySem.W.codeIn K cd22 "_are_rows" = true) (k22 : PySem.W.keepIn K (.ref f22) = true)
    (a23 : PySem.W.nsIn K mainGlobals "_law_minor" = some (some (.ref f23))) (l23 : K.lookup f23 = some ⟨oc23, od23, .func (PySem.W.fnOf "_law_minor" "_law_minor" (defArgs s_law_minor) (defBody s_law_minor) (defScope s_law_minor) .none kV23 dc23 pm23 an23 cd23 ct23), sl23⟩) (c23 : PySem.W.codeIn K cd23 "_law_minor" = true) (k23 : PySem.W.keepIn K (.ref f23) = true)
    (a24 : PySem.W.nsIn K mainGlobals "_check_table" = some (some (.ref f24))) (l24 : K.lookup f24 = some ⟨oc24, od24, .func (PySem.W.fnOf "_check_table" "_check_table" (defArgs s_check_table) (defBody s_check_table) (defScope s_check_table) .none kV24 dc24 pm24 an24 cd24 ct24), sl24⟩) (c24 : PySem.W.codeIn K cd24 "_check_table" = true) (k24 : PySem.W.keepIn K (.ref f24) = true)
    (a25 : PySem.W.nsIn K mainGlobals "_law_is_sum" = some (some (.ref f25))) (l25 : K.lookup f25 = some ⟨oc25, od25, .func (PySem.W.fnOf "_law_is_sum" "_law_is_sum" (defArgs s_law_is_sum) (defBody s_law_is_sum) (defScope s_law_is_sum) .none kV25 dc25 pm25 an25 cd25 ct25), sl25⟩) (c25 : PySem.W.codeIn K cd25 "_law_is_sum" = true) (k25 : PySem.W.keepIn K (.ref f25) = true)
    (a26 : PySem.W.nsIn K mainGlobals "_law_cleared_right" = some (some (.ref f26))) (l26 : K.lookup f26 = some ⟨oc26, od26, .func (PySem.W.fnOf "_law_cleared_right" "_law_cleared_right" (defArgs s_law_cleared_right) (defBody s_law_cleared_right) (defScope s_law_cleared_right) .none kV26 dc26 pm26 an26 cd26 ct26), sl26⟩) (c26 : PySem.W.codeIn K cd26 "_law_cleared_right" = true) (k26 : PySem.W.keepIn K (.ref f26) = true)
    (a27 : PySem.W.nsIn K mainGlobals "determinant" = some (some (.ref f27))) (l27 : K.lookup f27 = some ⟨oc27, od27, .func (PySem.W.fnOf "determinant" "determinant" (defArgs sdeterminant) (defBody sdeterminant) (defScope sdeterminant) .none kV27 dc27 pm27 an27 cd27 ct27), sl27⟩) (c27 : PySem.W.codeIn K cd27 "determinant" = true) (k27 : PySem.W.keepIn K (.ref f27) = true)
    (a28 : PySem.W.nsIn K mainGlobals "is_square_sum" = some (some (.ref f28))) (l28 : K.lookup f28 = some ⟨oc28, od28, .func (PySem.W.fnOf "is_square_sum" "is_square_sum" (defArgs sis_square_sum) (defBody sis_square_sum) (defScope sis_square_sum) .none kV28 dc28 pm28 an28 cd28 ct28), sl28⟩) (c28 : PySem.W.codeIn K cd28 "is_square_sum" = true) (k28 : PySem.W.keepIn K (.ref f28) = true)
    (a29 : PySem.W.nsIn K mainGlobals "_law_tables_right" = some (some (.ref f29))) (l29 : K.lookup f29 = some ⟨oc29, od29, .func (PySem.W.fnOf "_law_tables_right" "_law_tables_right" (defArgs s_law_tables_right) (defBody s_law_tables_right) (defScope s_law_tables_right) .none kV29 dc29 pm29 an29 cd29 ct29), sl29⟩) (c29 : PySem.W.codeIn K cd29 "_law_tables_right" = true) (k29 : PySem.W.keepIn K (.ref f29) = true)
    (a30 : PySem.W.nsIn K mainGlobals "_law_sums_right" = some (some (.ref f30))) (l30 : K.lookup f30 = some ⟨oc30, od30, .func (PySem.W.fnOf "_law_sums_right" "_law_sums_right" (defArgs s_law_sums_right) (defBody s_law_sums_right) (defScope s_law_sums_right) .none kV30 dc30 pm30 an30 cd30 ct30), sl30⟩) (c30 : PySem.W.codeIn K cd30 "_law_sums_right" = true) (k30 : PySem.W.keepIn K (.ref f30) = true)
    (a31 : PySem.W.nsIn K mainGlobals "law" = some (some (.ref f31))) (l31 : K.lookup f31 = some ⟨oc31, od31, .func (PySem.W.fnOf "law" "law" (defArgs slaw) (defBody slaw) (defScope slaw) .none kV31 dc31 pm31 an31 cd31 ct31), sl31⟩) (c31 : PySem.W.codeIn K cd31 "law" = true) (k31 : PySem.W.keepIn K (.ref f31) = true)
    {t_MAX_DIGITS : Tok} (g_MAX_DIGITS : PySem.W.nsIn K mainGlobals "MAX_DIGITS" = some (some (.int 2000 t_MAX_DIGITS)))
    {t_MAX_ROWS : Tok} (g_MAX_ROWS : PySem.W.nsIn K mainGlobals "MAX_ROWS" = some (some (.int 60 t_MAX_ROWS)))
    {t_MAX_WIDTH : Tok} (g_MAX_WIDTH : PySem.W.nsIn K mainGlobals "MAX_WIDTH" = some (some (.int 28 t_MAX_WIDTH)))
    {t_SURE_BITS : Tok} (g_SURE_BITS : PySem.W.nsIn K mainGlobals "SURE_BITS" = some (some (.int 6000 t_SURE_BITS)))
    (g_gcd : PySem.W.nsIn K mainGlobals "gcd" = some (some (.builtin "math.gcd")))
    (z_abs : PySem.W.nsIn K mainGlobals "abs" = some none)
    (z_all : PySem.W.nsIn K mainGlobals "all" = some none)
    (z_bool : PySem.W.nsIn K mainGlobals "bool" = some none)
    (z_int : PySem.W.nsIn K mainGlobals "int" = some none)
    (z_isinstance : PySem.W.nsIn K mainGlobals "isinstance" = some none)
    (z_len : PySem.W.nsIn K mainGlobals "len" = some none)
    (z_list : PySem.W.nsIn K mainGlobals "list" = some none)
    (z_max : PySem.W.nsIn K mainGlobals "max" = some none)
    (z_min : PySem.W.nsIn K mainGlobals "min" = some none)
    (z_range : PySem.W.nsIn K mainGlobals "range" = some none)
    (z_repr : PySem.W.nsIn K mainGlobals "repr" = some none)
    (z_sum : PySem.W.nsIn K mainGlobals "sum" = some none)
    (z_tuple : PySem.W.nsIn K mainGlobals "tuple" = some none)
    (z_type : PySem.W.nsIn K mainGlobals "type" = some none)
    (z_zip : PySem.W.nsIn K mainGlobals "zip" = some none)
    : ∃ fd : FuncData, (∀ (s : Shared) (v : Value), BindsTo s fd ⟨[v], []⟩ [("_law_script", v)]) ∧ ∀ base : Heap, K.In base → base.Ns mainGlobals mg → FnQ l.prog w K mg base 10 fa fd ["_law_script"] (spLaw K) := by
  have e := hfa.symm.trans (PySem.W.mg_of X G a31)
  cases e
  have B : Bi mg := { b_abs := PySem.W.mg_none_of X G z_abs, b_all := PySem.W.mg_none_of X G z_all, b_bool := PySem.W.mg_none_of X G z_bool, b_int := PySem.W.mg_none_of X G z_int, b_isinstance := PySem.W.mg_none_of X G z_isinstance, b_len := PySem.W.mg_none_of X G z_len, b_list := PySem.W.mg_none_of X G z_list, b_max := PySem.W.mg_none_of X G z_max, b_min := PySem.W.mg_none_of X G z_min, b_range := PySem.W.mg_none_of X G z_range, b_repr := PySem.W.mg_none_of X G z_repr, b_sum := PySem.W.mg_none_of X G z_sum, b_tuple := PySem.W.mg_none_of X G z_tuple, b_type := PySem.W.mg_none_of X G z_type, b_zip := PySem.W.mg_none_of X G z_zip, m_gcd := PySem.W.mg_of X G g_gcd, c_MAX_DIGITS := ⟨t_MAX_DIGITS, PySem.W.mg_of X G g_MAX_DIGITS⟩, c_MAX_ROWS := ⟨t_MAX_ROWS, PySem.W.mg_of X G g_MAX_ROWS⟩, c_MAX_WIDTH := ⟨t_MAX_WIDTH, PySem.W.mg_of X G g_MAX_WIDTH⟩, c_SURE_BITS := ⟨t_SURE_BITS, PySem.W.mg_of X G g_SURE_BITS⟩ }
  have F0 := fun_mk (st := sdivided) l0 c0 k0
  have D0 : DefAt K mg "divided" sdivided ["row"] := ⟨f0, _, F0, PySem.W.mg_of X G a0, F0.binds (ps := ["row"]) fun _ _ _ _ _ _ us hl => match us, hl with | [_], _ => rfl⟩
  have F1 := fun_mk (st := s_row_with) l1 c1 k1
  have D1 : DefAt K mg "_row_with" s_row_with ["rows", "start", "column"] := ⟨f1, _, F1, PySem.W.mg_of X G a1, F1.binds (ps := ["rows", "start", "column"]) fun _ _ _ _ _ _ us hl => match us, hl with | [_, _, _], _ => rfl⟩
  have F2 := fun_mk (st := s_swap) l2 c2 k2
  have D2 : DefAt K mg "_swap" s_swap ["values", "one", "other"] := ⟨f2, _, F2, PySem.W.mg_of X G a2, F2.binds (ps := ["values", "one", "other"]) fun _ _ _ _ _ _ us hl => match us, hl with | [_, _, _], _ => rfl⟩
  have F3 := fun_mk (st := s_combined) l3 c3 k3
  have D3 : DefAt K mg "_combined" s_combined ["factor", "row", "lead", "above", "scale"] := ⟨f3, _, F3, PySem.W.mg_of X G a3, F3.binds (ps := ["factor", "row", "lead", "above", "scale"]) fun _ _ _ _ _ _ us hl => match us, hl with | [_, _, _, _, _], _ => rfl⟩
  have F4 := fun_mk (st := s_least_longer) l4 c4 k4
  have D4 : DefAt K mg "_least_longer" s_least_longer ["digits"] := ⟨f4, _, F4, PySem.W.mg_of X G a4, F4.binds (ps := ["digits"]) fun _ _ _ _ _ _ us hl => match us, hl with | [_], _ => rfl⟩
  have F5 := fun_mk (st := s_width_of) l5 c5 k5
  have D5 : DefAt K mg "_width_of" s_width_of ["rows"] := ⟨f5, _, F5, PySem.W.mg_of X G a5, F5.binds (ps := ["rows"]) fun _ _ _ _ _ _ us hl => match us, hl with | [_], _ => rfl⟩
  have F6 := fun_mk (st := s_is_symmetric) l6 c6 k6
  have D6 : DefAt K mg "_is_symmetric" s_is_symmetric ["table"] := ⟨f6, _, F6, PySem.W.mg_of X G a6, F6.binds (ps := ["table"]) fun _ _ _ _ _ _ us hl => match us, hl with | [_], _ => rfl⟩
  have F7 := fun_mk (st := s_law_bag) l7 c7 k7
  have D7 : DefAt K mg "_law_bag" s_law_bag ["_law_script", "_law_at"] := ⟨f7, _, F7, PySem.W.mg_of X G a7, F7.binds (ps := ["_law_script", "_law_at"]) fun _ _ _ _ _ _ us hl => match us, hl with | [_, _], _ => rfl⟩
  have F8 := fun_mk (st := s_law_draw) l8 c8 k8
  have D8 : DefAt K mg "_law_draw" s_law_draw ["_law_bag_here", "_law_total"] := ⟨f8, _, F8, PySem.W.mg_of X G a8, F8.binds (ps := ["_law_bag_here", "_law_total"]) fun _ _ _ _ _ _ us hl => match us, hl with | [_, _], _ => rfl⟩
  have F9 := fun_mk (st := s_law_divisor) l9 c9 k9
  have D9 : DefAt K mg "_law_divisor" s_law_divisor ["_law_numbers_here"] := ⟨f9, _, F9, PySem.W.mg_of X G a9, F9.binds (ps := ["_law_numbers_here"]) fun _ _ _ _ _ _ us hl => match us, hl with | [_], _ => rfl⟩
  have F10 := fun_mk (st := s_law_wide) l10 c10 k10
  have D10 : DefAt K mg "_law_wide" s_law_wide ["_law_table", "_law_factor"] := ⟨f10, _, F10, PySem.W.mg_of X G a10, F10.binds (ps := ["_law_table", "_law_factor"]) fun _ _ _ _ _ _ us hl => match us, hl with | [_, _], _ => rfl⟩
  have F11 := fun_mk (st := sdeterminant_of) l11 c11 k11
  have D11 : DefAt K mg "determinant_of" sdeterminant_of ["table"] := ⟨f11, _, F11, PySem.W.mg_of X G a11, F11.binds (ps := ["table"]) fun _ _ _ _ _ _ us hl => match us, hl with | [_], _ => rfl⟩
  have F12 := fun_mk (st := s_without_square) l12 c12 k12
  have D12 : DefAt K mg "_without_square" s_without_square ["left", "top", "scale"] := ⟨f12, _, F12, PySem.W.mg_of X G a12, F12.binds (ps := ["left", "top", "scale"]) fun _ _ _ _ _ _ us hl => match us, hl with | [_, _, _], _ => rfl⟩
  have F13 := fun_mk (st := shas_digits) l13 c13 k13
  have D13 : DefAt K mg "has_digits" shas_digits ["number", "most"] := ⟨f13, _, F13, PySem.W.mg_of X G a13, F13.binds (ps := ["number", "most"]) fun _ _ _ _ _ _ us hl => match us, hl with | [_, _], _ => rfl⟩
  have F14 := fun_mk (st := s_law_one_of) l14 c14 k14
  have D14 : DefAt K mg "_law_one_of" s_law_one_of ["_law_bag_here", "_law_items"] := ⟨f14, _, F14, PySem.W.mg_of X G a14, F14.binds (ps := ["_law_bag_here", "_law_items"]) fun _ _ _ _ _ _ us hl => match us, hl with | [_, _], _ => rfl⟩
  have F15 := fun_mk (st := s_law_numbers) l15 c15 k15
  have D15 : DefAt K mg "_law_numbers" s_law_numbers ["_law_bag_here", "_law_many", "_law_spread"] := ⟨f15, _, F15, PySem.W.mg_of X G a15, F15.binds (ps := ["_law_bag_here", "_law_many", "_law_spread"]) fun _ _ _ _ _ _ us hl => match us, hl with | [_, _, _], _ => rfl⟩
  have F16 := fun_mk (st := sis_sum_of_squares) l16 c16 k16
  have D16 : DefAt K mg "is_sum_of_squares" sis_sum_of_squares ["table"] := ⟨f16, _, F16, PySem.W.mg_of X G a16, F16.binds (ps := ["table"]) fun _ _ _ _ _ _ us hl => match us, hl with | [_], _ => rfl⟩
  have F17 := fun_mk (st := sis_integer) l17 c17 k17
  have D17 : DefAt K mg "is_integer" sis_integer ["value"] := ⟨f17, _, F17, PySem.W.mg_of X G a17, F17.binds (ps := ["value"]) fun _ _ _ _ _ _ us hl => match us, hl with | [_], _ => rfl⟩
  have F18 := fun_mk (st := s_law_symmetric) l18 c18 k18
  have D18 : DefAt K mg "_law_symmetric" s_law_symmetric ["_law_bag_here", "_law_many"] := ⟨f18, _, F18, PySem.W.mg_of X G a18, F18.binds (ps := ["_law_bag_here", "_law_many"]) fun _ _ _ _ _ _ us hl => match us, hl with | [_, _], _ => rfl⟩
  have F19 := fun_mk (st := sare_integers) l19 c19 k19
  have D19 : DefAt K mg "are_integers" sare_integers ["values"] := ⟨f19, _, F19, PySem.W.mg_of X G a19, F19.binds (ps := ["values"]) fun _ _ _ _ _ _ us hl => match us, hl with | [_], _ => rfl⟩
  have F20 := fun_mk (st := s_is_row) l20 c20 k20
  have D20 : DefAt K mg "_is_row" s_is_row ["value"] := ⟨f20, _, F20, PySem.W.mg_of X G a20, F20.binds (ps := ["value"]) fun _ _ _ _ _ _ us hl => match us, hl with | [_], _ => rfl⟩
  have F21 := fun_mk (st := scleared) l21 c21 k21
  have D21 : DefAt K mg "cleared" scleared ["row"] := ⟨f21, _, F21, PySem.W.mg_of X G a21, F21.binds (ps := ["row"]) fun _ _ _ _ _ _ us hl => match us, hl with | [_], _ => rfl⟩
  have F22 := fun_mk (st := s_are_rows) l22 c22 k22
  have D22 : DefAt K mg "_are_rows" s_are_rows ["value"] := ⟨f22, _, F22, PySem.W.mg_of X G a22, F22.binds (ps := ["value"]) fun _ _ _ _ _ _ us hl => match us, hl with | [_], _ => rfl⟩
  have F23 := fun_mk (st := s_law_minor) l23 c23 k23
  have D23 : DefAt K mg "_law_minor" s_law_minor ["_law_table"] := ⟨f23, _, F23, PySem.W.mg_of X G a23, F23.binds (ps := ["_law_table"]) fun _ _ _ _ _ _ us hl => match us, hl with | [_], _ => rfl⟩
  have F24 := fun_mk (st := s_check_table) l24 c24 k24
  have D24 : DefAt K mg "_check_table" s_check_table ["value"] := ⟨f24, _, F24, PySem.W.mg_of X G a24, F24.binds (ps := ["value"]) fun _ _ _ _ _ _ us hl => match us, hl with | [_], _ => rfl⟩
  have F25 := fun_mk (st := s_law_is_sum) l25 c25 k25
  have D25 : DefAt K mg "_law_is_sum" s_law_is_sum ["_law_table"] := ⟨f25, _, F25, PySem.W.mg_of X G a25, F25.binds (ps := ["_law_table"]) fun _ _ _ _ _ _ us hl => match us, hl with | [_], _ => rfl⟩
  have F26 := fun_mk (st := s_law_cleared_right) l26 c26 k26
  have D26 : DefAt K mg "_law_cleared_right" s_law_cleared_right ["_law_bag_here"] := ⟨f26, _, F26, PySem.W.mg_of X G a26, F26.binds (ps := ["_law_bag_here"]) fun _ _ _ _ _ _ us hl => match us, hl with | [_], _ => rfl⟩
  have F27 := fun_mk (st := sdeterminant) l27 c27 k27
  have D27 : DefAt K mg "determinant" sdeterminant ["table"] := ⟨f27, _, F27, PySem.W.mg_of X G a27, F27.binds (ps := ["table"]) fun _ _ _ _ _ _ us hl => match us, hl with | [_], _ => rfl⟩
  have F28 := fun_mk (st := sis_square_sum) l28 c28 k28
  have D28 : DefAt K mg "is_square_sum" sis_square_sum ["table"] := ⟨f28, _, F28, PySem.W.mg_of X G a28, F28.binds (ps := ["table"]) fun _ _ _ _ _ _ us hl => match us, hl with | [_], _ => rfl⟩
  have F29 := fun_mk (st := s_law_tables_right) l29 c29 k29
  have D29 : DefAt K mg "_law_tables_right" s_law_tables_right ["_law_bag_here"] := ⟨f29, _, F29, PySem.W.mg_of X G a29, F29.binds (ps := ["_law_bag_here"]) fun _ _ _ _ _ _ us hl => match us, hl with | [_], _ => rfl⟩
  have F30 := fun_mk (st := s_law_sums_right) l30 c30 k30
  have D30 : DefAt K mg "_law_sums_right" s_law_sums_right ["_law_bag_here"] := ⟨f30, _, F30, PySem.W.mg_of X G a30, F30.binds (ps := ["_law_bag_here"]) fun _ _ _ _ _ _ us hl => match us, hl with | [_], _ => rfl⟩
  have FL := fun_mk (st := slaw) l31 c31 k31
  refine ⟨PySem.W.fnOf "law" "law" (defArgs slaw) (defBody slaw) (defScope slaw) .none kV31 dc31 pm31 an31 cd31 ct31, fun s v => .of_eq rfl, fun base _ _ => ?_⟩
  have C0 := okdivided (P := l.prog) (w := w) (base := base) B D0 
  have C1 := ok_row_with (P := l.prog) (w := w) (base := base) B D1 
  have C2 := ok_swap (P := l.prog) (w := w) (base := base) B D2 
  have C3 := ok_combined (P := l.prog) (w := w) (base := base) B D3 
  have C4 := ok_least_longer (P := l.prog) (w := w) (base := base) B D4 
  have C5 := ok_width_of (P := l.prog) (w := w) (base := base) B D5 
  have C6 := ok_is_symmetric (P := l.prog) (w := w) (base := base) B D6 
  have C7 := ok_law_bag (P := l.prog) (w := w) (base := base) B D7 
  have C8 := ok_law_draw (P := l.prog) (w := w) (base := base) B D8 
  have C9 := ok_law_divisor (P := l.prog) (w := w) (base := base) B D9 
  have C10 := ok_law_wide (P := l.prog) (w := w) (base := base) B D10 
  have C11 := okdeterminant_of (P := l.prog) (w := w) (base := base) B D11 C3 C1 C2
  have C12 := ok_without_square (P := l.prog) (w := w) (base := base) B D12 C3
  have C13 := okhas_digits (P := l.prog) (w := w) (base := base) B D13 C4
  have C14 := ok_law_one_of (P := l.prog) (w := w) (base := base) B D14 C8
  have C15 := ok_law_numbers (P := l.prog) (w := w) (base := base) B D15 C8
  have C16 := okis_sum_of_squares (P := l.prog) (w := w) (base := base) B D16 C12
  have C17 := okis_integer (P := l.prog) (w := w) (base := base) B D17 C13
  have C18 := ok_law_symmetric (P := l.prog) (w := w) (base := base) B D18 C8 C15
  have C19 := okare_integers (P := l.prog) (w := w) (base := base) B D19 C17
  have C20 := ok_is_row (P := l.prog) (w := w) (base := base) B D20 C19
  have C21 := okcleared (P := l.prog) (w := w) (base := base) B D21 C20 C0
  have C22 := ok_are_rows (P := l.prog) (w := w) (base := base) B D22 C20
  have C23 := ok_law_minor (P := l.prog) (w := w) (base := base) B D23 
  have C24 := ok_check_table (P := l.prog) (w := w) (base := base) B D24 C22 C5
  have C25 := ok_law_is_sum (P := l.prog) (w := w) (base := base) B D25 C23
  have C26 := ok_law_cleared_right (P := l.prog) (w := w) (base := base) B D26 C9 C8 C15 C14 C21
  have C27 := okdeterminant (P := l.prog) (w := w) (base := base) B D27 C24 C11
  have C28 := okis_square_sum (P := l.prog) (w := w) (base := base) B D28 C24 C6 C16
  have C29 := ok_law_tables_right (P := l.prog) (w := w) (base := base) B D29 C8 C23 C15 C14 C10 C27
  have C30 := ok_law_sums_right (P := l.prog) (w := w) (base := base) B D30 C8 C25 C14 C18 C10 C28
  exact oklaw B FL C7 C26 C30 C29 C21 C27 C28
end K04
open PySem PySem.W PyProof.Rows
set_option maxHeartbeats 0 in
theorem PySem.Challenge.cw_lengthstell_k04_determinants_and_sums_of_holds : PySem.Challenge.rw_lengthstell_k04_determinants_and_sums_of.Holds := by
  w_on; o_law; k_head; (case hw => w_witness2)
  k_fill
  refine Lay.law_walks (l := PySem.Challenge.rw_lengthstell_k04_determinants_and_sums_of) (n := 63) (k := 10) (x := "_law_script") (sp := fun K => K04.spLaw K) rfl (by decide) rfl ⟨rfl, by decide, by decide⟩ (fun w h Y => PySem.W.kIn_of Y) ?F ?hsp
  case hsp => exact fun K H a ns hl hS => ⟨a, ns, rfl, hS, hl, fun _ => rfl⟩
  case F =>
    intro w mg fa h KX G hmg
    refine' K04.all_mk KX G hmg ?a0 ?l0 ?c0 ?k0 ?a1 ?l1 ?c1 ?k1 ?a2 ?l2 ?c2 ?k2 ?a3 ?l3 ?c3 ?k3 ?a4 ?l4 ?c4 ?k4 ?a5 ?l5 ?c5 ?k5 ?a6 ?l6 ?c6 ?k6 ?a7 ?l7 ?c7 ?k7 ?a8 ?l8 ?c8 ?k8 ?a9 ?l9 ?c9 ?k9 ?a10 ?l10 ?c10 ?k10 ?a11 ?l11 ?c11 ?k11 ?a12 ?l12 ?c12 ?k12 ?a13 ?l13 ?c13 ?k13 ?a14 ?l14 ?c14 ?k14 ?a15 ?l15 ?c15 ?k15 ?a16 ?l16 ?c16 ?k16 ?a17 ?l17 ?c17 ?k17 ?a18 ?l18 ?c18 ?k18 ?a19 ?l19 ?c19 ?k19 ?a20 ?l20 ?c20 ?k20 ?a21 ?l21 ?c21 ?k21 ?a22 ?l22 ?c22 ?k22 ?a23 ?l23 ?c23 ?k23 ?a24 ?l24 ?c24 ?k24 ?a25 ?l25 ?c25 ?k25 ?a26 ?l26 ?c26 ?k26 ?a27 ?l27 ?c27 ?k27 ?a28 ?l28 ?c28 ?k28 ?a29 ?l29 ?c29 ?k29 ?a30 ?l30 ?c30 ?k30 ?a31 ?l31 ?c31 ?k31 ?g_MAX_DIGITS ?g_MAX_ROWS ?g_MAX_WIDTH ?g_SURE_BITS ?g_gcd ?z_abs ?z_all ?z_bool ?z_int ?z_isinstance ?z_len ?z_list ?z_max ?z_min ?z_range ?z_repr ?z_sum ?z_tuple ?z_type ?z_zip
    (case a0 => k_is)
    (case l0 => k_is)
    (case c0 => k_is)
    (case k0 => k_is)
    (case a1 => k_is)
    (case l1 => k_is)
    (case c1 => k_is)
    (case k1 => k_is)
    (case a2 => k_is)
    (case l2 => k_is)
    (case c2 => k_is)
    (case k2 => k_is)
    (case a3 => k_is)
    (case l3 => k_is)
    (case c3 => k_is)
    (case k3 => k_is)
    (case a4 => k_is)
    (case l4 => k_is)
    (case c4 => k_is)
    (case k4 => k_is)
    (case a5 => k_is)
    (case l5 => k_is)
    (case c5 => k_is)
    (case k5 => k_is)
    (case a6 => k_is)
    (case l6 => k_is)
    (case c6 => k_is)
    (case k6 => k_is)
    (case a7 => k_is)
    (case l7 => k_is)
    (case c7 => k_is)
    (case k7 => k_is)
    (case a8 => k_is)
    (case l8 => k_is)
    (case c8 => k_is)
    (case k8 => k_is)
    (case a9 => k_is)
    (case l9 => k_is)
    (case c9 => k_is)
    (case k9 => k_is)
    (case a10 => k_is)
    (case l10 => k_is)
    (case c10 => k_is)
    (case k10 => k_is)
    (case a11 => k_is)
    (case l11 => k_is)
    (case c11 => k_is)
    (case k11 => k_is)
    (case a12 => k_is)
    (case l12 => k_is)
    (case c12 => k_is)
    (case k12 => k_is)
    (case a13 => k_is)
    (case l13 => k_is)
    (case c13 => k_is)
    (case k13 => k_is)
    (case a14 => k_is)
    (case l14 => k_is)
    (case c14 => k_is)
    (case k14 => k_is)
    (case a15 => k_is)
    (case l15 => k_is)
    (case c15 => k_is)
    (case k15 => k_is)
    (case a16 => k_is)
    (case l16 => k_is)
    (case c16 => k_is)
    (case k16 => k_is)
    (case a17 => k_is)
    (case l17 => k_is)
    (case c17 => k_is)
    (case k17 => k_is)
    (case a18 => k_is)
    (case l18 => k_is)
    (case c18 => k_is)
    (case k18 => k_is)
    (case a19 => k_is)
    (case l19 => k_is)
    (case c19 => k_is)
    (case k19 => k_is)
    (case a20 => k_is)
    (case l20 => k_is)
    (case c20 => k_is)
    (case k20 => k_is)
    (case a21 => k_is)
    (case l21 => k_is)
    (case c21 => k_is)
    (case k21 => k_is)
    (case a22 => k_is)
    (case l22 => k_is)
    (case c22 => k_is)
    (case k22 => k_is)
    (case a23 => k_is)
    (case l23 => k_is)
    (case c23 => k_is)
    (case k23 => k_is)
    (case a24 => k_is)
    (case l24 => k_is)
    (case c24 => k_is)
    (case k24 => k_is)
    (case a25 => k_is)
    (case l25 => k_is)
    (case c25 => k_is)
    (case k25 => k_is)
    (case a26 => k_is)
    (case l26 => k_is)
    (case c26 => k_is)
    (case k26 => k_is)
    (case a27 => k_is)
    (case l27 => k_is)
    (case c27 => k_is)
    (case k27 => k_is)
    (case a28 => k_is)
    (case l28 => k_is)
    (case c28 => k_is)
    (case k28 => k_is)
    (case a29 => k_is)
    (case l29 => k_is)
    (case c29 => k_is)
    (case k29 => k_is)
    (case a30 => k_is)
    (case l30 => k_is)
    (case c30 => k_is)
    (case k30 => k_is)
    (case a31 => k_is)
    (case l31 => k_is)
    (case c31 => k_is)
    (case k31 => k_is)
    (case g_MAX_DIGITS => k_is)
    (case g_MAX_ROWS => k_is)
    (case g_MAX_WIDTH => k_is)
    (case g_SURE_BITS => k_is)
    (case g_gcd => k_is)
    (case z_abs => k_is)
    (case z_all => k_is)
    (case z_bool => k_is)
    (case z_int => k_is)
    (case z_isinstance => k_is)
    (case z_len => k_is)
    (case z_list => k_is)
    (case z_max => k_is)
    (case z_min => k_is)
    (case z_range => k_is)
    (case z_repr => k_is)
    (case z_sum => k_is)
    (case z_tuple => k_is)
    (case z_type => k_is)
    (case z_zip => k_is)
