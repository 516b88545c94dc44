import PyProof.Rows.All
import Wide.All
import OpenK.AllK
import Wide.FinOn
import HandS.Base
import HandS.Call
import HandS.List
import HandS.Comp
import HandS.Ends
import HandS.Words
import HandS.Wide
import HandS.Iter
import HandS.Text
import HandS.IsInst
import HandS.WideBits
import HandS.TupLe
import HandS.TupAny
import HandS.Zip
import HandS.Dict
import HandS.HotCalls
import HandS.ExcIs
import HandS.ExcField
import HandS.ExcInit
import HandS.ExcBuiltin
import HandS.ExcCtx
import KE.KExcIs
import KE.KExcInit
import HandS.RaiseMore
import PyProof.StrOps2
import HandS.Gcd
import HandS.Sort
import HandS.WideMore
import KE.KUnpackStar
import HandS.NoneIn
import KE.GoesMore
import KE.GoesEnum
import HandS.More
import HandS.Lambda
import HandS.EndTab
import HandS.TryOnly
import HandS.TryMany
import HandS.ExcOwn
import HandS.TupMul
import KE.DataMinMax
import HandS.DictComp
import HandS.Conv
import HandS.Flt
import KE.DataAny
import PySem.Challenge.RW_lengthstell_k05_errors_of_rows
import KE.KNestM
import KE.KLam
set_option Elab.async false
set_option linter.all false
set_option maxRecDepth 100000
set_option maxHeartbeats 4000000
namespace Alg
/-- the sum over the columns, first row first, as the law adds it up: at is the column, s the sign -/
def lapRow (sub : Nat → Int) : Nat → Int → List Int → Int
  | _, _, [] => 0
  | at_, s, a :: r => s * a * sub at_ + lapRow sub (at_ + 1) (0 - s) r
/-- Laplace's expansion along the first row -/
def lap : List (List Int) → Int
  | [] => 1
  | r :: rs => lapRow (fun k => lap (rs.map fun q => q.eraseIdx k)) 0 1 r
termination_by m => m.length
decreasing_by simp
theorem lap_nil : lap [] = 1 := by rw [lap]
theorem lap_cons (r : List Int) (rs : List (List Int)) : lap (r :: rs) = lapRow (fun k => lap (rs.map fun q => q.eraseIdx k)) 0 1 r := by rw [lap]
/-- the minor of A with these rows and columns -/
def mi (A : Nat → Nat → Int) (rs cs : List Nat) : Int := lap (rs.map fun r => cs.map fun c => A r c)
theorem mi0 (A : Nat → Nat → Int) : mi A [] [] = 1 := lap_nil
theorem mi1 (A : Nat → Nat → Int) (a b : Nat) : mi A [a] [b] = A a b := by
  simp [mi, lap_cons, lap_nil, lapRow]
theorem mi2 (A : Nat → Nat → Int) (a b c d : Nat) : mi A [a, b] [c, d] = A a c * A b d - A a d * A b c := by
  simp [mi, lap_cons, lap_nil, lapRow]
  grind
end Alg
namespace Alg
theorem lap1 (a : Int) : lap [[a]] = a := by simp [lap_cons, lap_nil, lapRow]
theorem lap2 (a b c d : Int) : lap [[a, b], [c, d]] = a * d - b * c := by
  simp [lap_cons, lap_nil, lapRow]
  grind
theorem lap3 (a b c d e f g h i : Int) : lap [[a, b, c], [d, e, f], [g, h, i]] = a * (e * i - f * h) - b * (d * i - f * g) + c * (d * h - e * g) := by
  rw [lap_cons]
  simp [lapRow, lap2]
  grind
theorem lap4 (a b c d e f g h i j k l m n o p : Int) : lap [[a, b, c, d], [e, f, g, h], [i, j, k, l], [m, n, o, p]] =
    a * lap [[f, g, h], [j, k, l], [n, o, p]] - b * lap [[e, g, h], [i, k, l], [m, o, p]] + c * lap [[e, f, h], [i, j, l], [m, n, p]] - d * lap [[e, f, g], [i, j, k], [m, n, o]] := by
  rw [lap_cons]
  simp [lapRow]
  grind
theorem lap5 (a b c d e f g h i j k l m n o p q r s t u v w x y : Int) : lap [[a, b, c, d, e], [f, g, h, i, j], [k, l, m, n, o], [p, q, r, s, t], [u, v, w, x, y]] =
    a * lap [[g, h, i, j], [l, m, n, o], [q, r, s, t], [v, w, x, y]] - b * lap [[f, h, i, j], [k, m, n, o], [p, r, s, t], [u, w, x, y]] + c * lap [[f, g, i, j], [k, l, n, o], [p, q, s, t], [u, v, x, y]]
      - d * lap [[f, g, h, j], [k, l, m, o], [p, q, r, t], [u, v, w, y]] + e * lap [[f, g, h, i], [k, l, m, n], [p, q, r, s], [u, v, w, x]] := by
  rw [lap_cons]
  simp [lapRow]
  grind
/-- Jacobi's identity of the bordered minors, up to five rows -/
theorem jac0 (A : Nat → Nat → Int) (r i c j : Nat) : mi A [r] [c] * mi A [i] [j] - mi A [i] [c] * mi A [r] [j] = mi A [] [] * mi A [r, i] [c, j] := by
  simp only [mi, List.map_cons, List.map_nil, lap1, lap2, lap_nil]
  grind
theorem jac1 (A : Nat → Nat → Int) (r1 c1 r i c j : Nat) : mi A [r1, r] [c1, c] * mi A [r1, i] [c1, j] - mi A [r1, i] [c1, c] * mi A [r1, r] [c1, j] = mi A [r1] [c1] * mi A [r1, r, i] [c1, c, j] := by
  simp only [mi, List.map_cons, List.map_nil, lap1, lap2, lap3]
  grind
theorem jac2 (A : Nat → Nat → Int) (r1 r2 c1 c2 r i c j : Nat) : mi A [r1, r2, r] [c1, c2, c] * mi A [r1, r2, i] [c1, c2, j] - mi A [r1, r2, i] [c1, c2, c] * mi A [r1, r2, r] [c1, c2, j] = mi A [r1, r2] [c1, c2] * mi A [r1, r2, r, i] [c1, c2, c, j] := by
  simp only [mi, List.map_cons, List.map_nil, lap1, lap2, lap3, lap4]
  grind
end Alg
namespace Alg
theorem jac3 (A : Nat → Nat → Int) (r1 r2 r3 c1 c2 c3 r i c j : Nat) : mi A [r1, r2, r3, r] [c1, c2, c3, c] * mi A [r1, r2, r3, i] [c1, c2, c3, j] - mi A [r1, r2, r3, i] [c1, c2, c3, c] * mi A [r1, r2, r3, r] [c1, c2, c3, j] = mi A [r1, r2, r3] [c1, c2, c3] * mi A [r1, r2, r3, r, i] [c1, c2, c3, c, j] := by
  simp only [mi, List.map_cons, List.map_nil, lap1, lap2, lap3, lap4, lap5, lap_nil]
  grind
end Alg
namespace Alg
theorem sw_0_0_0 (A : Nat → Nat → Int) (x y c0 c1 : Nat) : mi A [y, x] [c0, c1] = - mi A [x, y] [c0, c1] := by
  simp only [mi, List.map_cons, List.map_nil, lap1, lap2, lap3, lap4, lap5, lap_nil]
  grind
theorem sw_0_0_1 (A : Nat → Nat → Int) (x y w0 c0 c1 c2 : Nat) : mi A [y, x, w0] [c0, c1, c2] = - mi A [x, y, w0] [c0, c1, c2] := by
  simp only [mi, List.map_cons, List.map_nil, lap1, lap2, lap3, lap4, lap5, lap_nil]
  grind
theorem sw_0_1_0 (A : Nat → Nat → Int) (x y u0 c0 c1 c2 : Nat) : mi A [y, u0, x] [c0, c1, c2] = - mi A [x, u0, y] [c0, c1, c2] := by
  simp only [mi, List.map_cons, List.map_nil, lap1, lap2, lap3, lap4, lap5, lap_nil]
  grind
theorem sw_1_0_0 (A : Nat → Nat → Int) (x y r0 c0 c1 c2 : Nat) : mi A [r0, y, x] [c0, c1, c2] = - mi A [r0, x, y] [c0, c1, c2] := by
  simp only [mi, List.map_cons, List.map_nil, lap1, lap2, lap3, lap4, lap5, lap_nil]
  grind
theorem sw_0_0_2 (A : Nat → Nat → Int) (x y w0 w1 c0 c1 c2 c3 : Nat) : mi A [y, x, w0, w1] [c0, c1, c2, c3] = - mi A [x, y, w0, w1] [c0, c1, c2, c3] := by
  simp only [mi, List.map_cons, List.map_nil, lap1, lap2, lap3, lap4, lap5, lap_nil]
  grind
theorem sw_0_1_1 (A : Nat → Nat → Int) (x y u0 w0 c0 c1 c2 c3 : Nat) : mi A [y, u0, x, w0] [c0, c1, c2, c3] = - mi A [x, u0, y, w0] [c0, c1, c2, c3] := by
  simp only [mi, List.map_cons, List.map_nil, lap1, lap2, lap3, lap4, lap5, lap_nil]
  grind
theorem sw_0_2_0 (A : Nat → Nat → Int) (x y u0 u1 c0 c1 c2 c3 : Nat) : mi A [y, u0, u1, x] [c0, c1, c2, c3] = - mi A [x, u0, u1, y] [c0, c1, c2, c3] := by
  simp only [mi, List.map_cons, List.map_nil, lap1, lap2, lap3, lap4, lap5, lap_nil]
  grind
theorem sw_1_0_1 (A : Nat → Nat → Int) (x y r0 w0 c0 c1 c2 c3 : Nat) : mi A [r0, y, x, w0] [c0, c1, c2, c3] = - mi A [r0, x, y, w0] [c0, c1, c2, c3] := by
  simp only [mi, List.map_cons, List.map_nil, lap1, lap2, lap3, lap4, lap5, lap_nil]
  grind
theorem sw_1_1_0 (A : Nat → Nat → Int) (x y r0 u0 c0 c1 c2 c3 : Nat) : mi A [r0, y, u0, x] [c0, c1, c2, c3] = - mi A [r0, x, u0, y] [c0, c1, c2, c3] := by
  simp only [mi, List.map_cons, List.map_nil, lap1, lap2, lap3, lap4, lap5, lap_nil]
  grind
theorem sw_2_0_0 (A : Nat → Nat → Int) (x y r0 r1 c0 c1 c2 c3 : Nat) : mi A [r0, r1, y, x] [c0, c1, c2, c3] = - mi A [r0, r1, x, y] [c0, c1, c2, c3] := by
  simp only [mi, List.map_cons, List.map_nil, lap1, lap2, lap3, lap4, lap5, lap_nil]
  grind
theorem sw_0_0_3 (A : Nat → Nat → Int) (x y w0 w1 w2 c0 c1 c2 c3 c4 : Nat) : mi A [y, x, w0, w1, w2] [c0, c1, c2, c3, c4] = - mi A [x, y, w0, w1, w2] [c0, c1, c2, c3, c4] := by
  simp only [mi, List.map_cons, List.map_nil, lap1, lap2, lap3, lap4, lap5, lap_nil]
  grind
theorem sw_0_1_2 (A : Nat → Nat → Int) (x y u0 w0 w1 c0 c1 c2 c3 c4 : Nat) : mi A [y, u0, x, w0, w1] [c0, c1, c2, c3, c4] = - mi A [x, u0, y, w0, w1] [c0, c1, c2, c3, c4] := by
  simp only [mi, List.map_cons, List.map_nil, lap1, lap2, lap3, lap4, lap5, lap_nil]
  grind
theorem sw_0_2_1 (A : Nat → Nat → Int) (x y u0 u1 w0 c0 c1 c2 c3 c4 : Nat) : mi A [y, u0, u1, x, w0] [c0, c1, c2, c3, c4] = - mi A [x, u0, u1, y, w0] [c0, c1, c2, c3, c4] := by
  simp only [mi, List.map_cons, List.map_nil, lap1, lap2, lap3, lap4, lap5, lap_nil]
  grind
theorem sw_0_3_0 (A : Nat → Nat → Int) (x y u0 u1 u2 c0 c1 c2 c3 c4 : Nat) : mi A [y, u0, u1, u2, x] [c0, c1, c2, c3, c4] = - mi A [x, u0, u1, u2, y] [c0, c1, c2, c3, c4] := by
  simp only [mi, List.map_cons, List.map_nil, lap1, lap2, lap3, lap4, lap5, lap_nil]
  grind
theorem sw_1_0_2 (A : Nat → Nat → Int) (x y r0 w0 w1 c0 c1 c2 c3 c4 : Nat) : mi A [r0, y, x, w0, w1] [c0, c1, c2, c3, c4] = - mi A [r0, x, y, w0, w1] [c0, c1, c2, c3, c4] := by
  simp only [mi, List.map_cons, List.map_nil, lap1, lap2, lap3, lap4, lap5, lap_nil]
  grind
theorem sw_1_1_1 (A : Nat → Nat → Int) (x y r0 u0 w0 c0 c1 c2 c3 c4 : Nat) : mi A [r0, y, u0, x, w0] [c0, c1, c2, c3, c4] = - mi A [r0, x, u0, y, w0] [c0, c1, c2, c3, c4] := by
  simp only [mi, List.map_cons, List.map_nil, lap1, lap2, lap3, lap4, lap5, lap_nil]
  grind
theorem sw_1_2_0 (A : Nat → Nat → Int) (x y r0 u0 u1 c0 c1 c2 c3 c4 : Nat) : mi A [r0, y, u0, u1, x] [c0, c1, c2, c3, c4] = - mi A [r0, x, u0, u1, y] [c0, c1, c2, c3, c4] := by
  simp only [mi, List.map_cons, List.map_nil, lap1, lap2, lap3, lap4, lap5, lap_nil]
  grind
theorem sw_2_0_1 (A : Nat → Nat → Int) (x y r0 r1 w0 c0 c1 c2 c3 c4 : Nat) : mi A [r0, r1, y, x, w0] [c0, c1, c2, c3, c4] = - mi A [r0, r1, x, y, w0] [c0, c1, c2, c3, c4] := by
  simp only [mi, List.map_cons, List.map_nil, lap1, lap2, lap3, lap4, lap5, lap_nil]
  grind
theorem sw_2_1_0 (A : Nat → Nat → Int) (x y r0 r1 u0 c0 c1 c2 c3 c4 : Nat) : mi A [r0, r1, y, u0, x] [c0, c1, c2, c3, c4] = - mi A [r0, r1, x, u0, y] [c0, c1, c2, c3, c4] := by
  simp only [mi, List.map_cons, List.map_nil, lap1, lap2, lap3, lap4, lap5, lap_nil]
  grind
theorem sw_3_0_0 (A : Nat → Nat → Int) (x y r0 r1 r2 c0 c1 c2 c3 c4 : Nat) : mi A [r0, r1, r2, y, x] [c0, c1, c2, c3, c4] = - mi A [r0, r1, r2, x, y] [c0, c1, c2, c3, c4] := by
  simp only [mi, List.map_cons, List.map_nil, lap1, lap2, lap3, lap4, lap5, lap_nil]
  grind
end Alg
namespace Alg
theorem zc_0_0 (A : Nat → Nat → Int) (c i0 : Nat) : mi A [] [] * mi A [i0] [c] = mi A [i0] [c] * mi A [] [] := by
  exact Int.mul_comm _ _
theorem zc_0_1 (A : Nat → Nat → Int) (c i0 i1 j0 : Nat) : mi A [] [] * mi A [i0, i1] [c, j0] = mi A [i0] [c] * mi A [i1] [j0] - mi A [i1] [c] * mi A [i0] [j0] := by
  exact (jac0 A i0 i1 c j0).symm
theorem zc_0_2 (A : Nat → Nat → Int) (c i0 i1 i2 j0 j1 : Nat) : mi A [] [] * mi A [i0, i1, i2] [c, j0, j1] = mi A [i0] [c] * mi A [i1, i2] [j0, j1] - mi A [i1] [c] * mi A [i0, i2] [j0, j1] + mi A [i2] [c] * mi A [i0, i1] [j0, j1] := by
  simp only [mi, List.map_cons, List.map_nil, lap1, lap2, lap3, lap4, lap5, lap_nil]
  grind
theorem zc_0_3 (A : Nat → Nat → Int) (c i0 i1 i2 i3 j0 j1 j2 : Nat) : mi A [] [] * mi A [i0, i1, i2, i3] [c, j0, j1, j2] = mi A [i0] [c] * mi A [i1, i2, i3] [j0, j1, j2] - mi A [i1] [c] * mi A [i0, i2, i3] [j0, j1, j2] + mi A [i2] [c] * mi A [i0, i1, i3] [j0, j1, j2] - mi A [i3] [c] * mi A [i0, i1, i2] [j0, j1, j2] := by
  simp only [mi, List.map_cons, List.map_nil, lap1, lap2, lap3, lap4, lap5, lap_nil]
  grind
theorem zc_0_4 (A : Nat → Nat → Int) (c i0 i1 i2 i3 i4 j0 j1 j2 j3 : Nat) : mi A [] [] * mi A [i0, i1, i2, i3, i4] [c, j0, j1, j2, j3] = mi A [i0] [c] * mi A [i1, i2, i3, i4] [j0, j1, j2, j3] - mi A [i1] [c] * mi A [i0, i2, i3, i4] [j0, j1, j2, j3] + mi A [i2] [c] * mi A [i0, i1, i3, i4] [j0, j1, j2, j3] - mi A [i3] [c] * mi A [i0, i1, i2, i4] [j0, j1, j2, j3] + mi A [i4] [c] * mi A [i0, i1, i2, i3] [j0, j1, j2, j3] := by
  simp only [mi, List.map_cons, List.map_nil, lap1, lap2, lap3, lap4, lap5, lap_nil]
  grind
theorem zc_1_0 (A : Nat → Nat → Int) (c r0 c0 i0 : Nat) : mi A [r0] [c0] * mi A [r0, i0] [c0, c] = mi A [r0, i0] [c0, c] * mi A [r0] [c0] := by
  exact Int.mul_comm _ _
theorem zc_1_1 (A : Nat → Nat → Int) (c r0 c0 i0 i1 j0 : Nat) : mi A [r0] [c0] * mi A [r0, i0, i1] [c0, c, j0] = mi A [r0, i0] [c0, c] * mi A [r0, i1] [c0, j0] - mi A [r0, i1] [c0, c] * mi A [r0, i0] [c0, j0] := by
  exact (jac1 A r0 c0 i0 i1 c j0).symm
theorem zc_1_2 (A : Nat → Nat → Int) (c r0 c0 i0 i1 i2 j0 j1 : Nat) : mi A [r0] [c0] * mi A [r0, i0, i1, i2] [c0, c, j0, j1] = mi A [r0, i0] [c0, c] * mi A [r0, i1, i2] [c0, j0, j1] - mi A [r0, i1] [c0, c] * mi A [r0, i0, i2] [c0, j0, j1] + mi A [r0, i2] [c0, c] * mi A [r0, i0, i1] [c0, j0, j1] := by
  simp only [mi, List.map_cons, List.map_nil, lap1, lap2, lap3, lap4, lap5, lap_nil]
  grind
theorem zc_1_3 (A : Nat → Nat → Int) (c r0 c0 i0 i1 i2 i3 j0 j1 j2 : Nat) : mi A [r0] [c0] * mi A [r0, i0, i1, i2, i3] [c0, c, j0, j1, j2] = mi A [r0, i0] [c0, c] * mi A [r0, i1, i2, i3] [c0, j0, j1, j2] - mi A [r0, i1] [c0, c] * mi A [r0, i0, i2, i3] [c0, j0, j1, j2] + mi A [r0, i2] [c0, c] * mi A [r0, i0, i1, i3] [c0, j0, j1, j2] - mi A [r0, i3] [c0, c] * mi A [r0, i0, i1, i2] [c0, j0, j1, j2] := by
  simp only [mi, List.map_cons, List.map_nil, lap1, lap2, lap3, lap4, lap5, lap_nil]
  grind
theorem zc_2_0 (A : Nat → Nat → Int) (c r0 r1 c0 c1 i0 : Nat) : mi A [r0, r1] [c0, c1] * mi A [r0, r1, i0] [c0, c1, c] = mi A [r0, r1, i0] [c0, c1, c] * mi A [r0, r1] [c0, c1] := by
  exact Int.mul_comm _ _
theorem zc_2_1 (A : Nat → Nat → Int) (c r0 r1 c0 c1 i0 i1 j0 : Nat) : mi A [r0, r1] [c0, c1] * mi A [r0, r1, i0, i1] [c0, c1, c, j0] = mi A [r0, r1, i0] [c0, c1, c] * mi A [r0, r1, i1] [c0, c1, j0] - mi A [r0, r1, i1] [c0, c1, c] * mi A [r0, r1, i0] [c0, c1, j0] := by
  exact (jac2 A r0 r1 c0 c1 i0 i1 c j0).symm
theorem zc_2_2 (A : Nat → Nat → Int) (c r0 r1 c0 c1 i0 i1 i2 j0 j1 : Nat) : mi A [r0, r1] [c0, c1] * mi A [r0, r1, i0, i1, i2] [c0, c1, c, j0, j1] = mi A [r0, r1, i0] [c0, c1, c] * mi A [r0, r1, i1, i2] [c0, c1, j0, j1] - mi A [r0, r1, i1] [c0, c1, c] * mi A [r0, r1, i0, i2] [c0, c1, j0, j1] + mi A [r0, r1, i2] [c0, c1, c] * mi A [r0, r1, i0, i1] [c0, c1, j0, j1] := by
  simp only [mi, List.map_cons, List.map_nil, lap1, lap2, lap3, lap4, lap5, lap_nil]
  grind
theorem zc_3_0 (A : Nat → Nat → Int) (c r0 r1 r2 c0 c1 c2 i0 : Nat) : mi A [r0, r1, r2] [c0, c1, c2] * mi A [r0, r1, r2, i0] [c0, c1, c2, c] = mi A [r0, r1, r2, i0] [c0, c1, c2, c] * mi A [r0, r1, r2] [c0, c1, c2] := by
  exact Int.mul_comm _ _
theorem zc_3_1 (A : Nat → Nat → Int) (c r0 r1 r2 c0 c1 c2 i0 i1 j0 : Nat) : mi A [r0, r1, r2] [c0, c1, c2] * mi A [r0, r1, r2, i0, i1] [c0, c1, c2, c, j0] = mi A [r0, r1, r2, i0] [c0, c1, c2, c] * mi A [r0, r1, r2, i1] [c0, c1, c2, j0] - mi A [r0, r1, r2, i1] [c0, c1, c2, c] * mi A [r0, r1, r2, i0] [c0, c1, c2, j0] := by
  exact (jac3 A r0 r1 r2 c0 c1 c2 i0 i1 c j0).symm
theorem zc_4_0 (A : Nat → Nat → Int) (c r0 r1 r2 r3 c0 c1 c2 c3 i0 : Nat) : mi A [r0, r1, r2, r3] [c0, c1, c2, c3] * mi A [r0, r1, r2, r3, i0] [c0, c1, c2, c3, c] = mi A [r0, r1, r2, r3, i0] [c0, c1, c2, c3, c] * mi A [r0, r1, r2, r3] [c0, c1, c2, c3] := by
  exact Int.mul_comm _ _
end Alg
namespace Alg
theorem tr_0 (A : Nat → Nat → Int)  : mi (fun a b => A b a) [] [] = mi A [] [] := by
  simp only [mi, List.map_cons, List.map_nil, lap1, lap2, lap3, lap4, lap5, lap_nil]
theorem tr_1 (A : Nat → Nat → Int) (r0 c0 : Nat) : mi (fun a b => A b a) [c0] [r0] = mi A [r0] [c0] := by
  simp only [mi, List.map_cons, List.map_nil, lap1, lap2, lap3, lap4, lap5, lap_nil]
theorem tr_2 (A : Nat → Nat → Int) (r0 r1 c0 c1 : Nat) : mi (fun a b => A b a) [c0, c1] [r0, r1] = mi A [r0, r1] [c0, c1] := by
  simp only [mi, List.map_cons, List.map_nil, lap1, lap2, lap3, lap4, lap5, lap_nil]
  grind
theorem tr_3 (A : Nat → Nat → Int) (r0 r1 r2 c0 c1 c2 : Nat) : mi (fun a b => A b a) [c0, c1, c2] [r0, r1, r2] = mi A [r0, r1, r2] [c0, c1, c2] := by
  simp only [mi, List.map_cons, List.map_nil, lap1, lap2, lap3, lap4, lap5, lap_nil]
  grind
theorem tr_4 (A : Nat → Nat → Int) (r0 r1 r2 r3 c0 c1 c2 c3 : Nat) : mi (fun a b => A b a) [c0, c1, c2, c3] [r0, r1, r2, r3] = mi A [r0, r1, r2, r3] [c0, c1, c2, c3] := by
  simp only [mi, List.map_cons, List.map_nil, lap1, lap2, lap3, lap4, lap5, lap_nil]
  grind
theorem tr_5 (A : Nat → Nat → Int) (r0 r1 r2 r3 r4 c0 c1 c2 c3 c4 : Nat) : mi (fun a b => A b a) [c0, c1, c2, c3, c4] [r0, r1, r2, r3, r4] = mi A [r0, r1, r2, r3, r4] [c0, c1, c2, c3, c4] := by
  simp only [mi, List.map_cons, List.map_nil, lap1, lap2, lap3, lap4, lap5, lap_nil]
  grind
end Alg
namespace Alg
theorem len0 {l : List Nat} (h : l.length = 0) : l = [] := List.eq_nil_of_length_eq_zero h
theorem lenS {l : List Nat} {n : Nat} (h : l.length = n + 1) : ∃ a r, l = a :: r ∧ r.length = n := by
  cases l with
  | nil => cases h
  | cons a r => exact ⟨a, r, rfl, Nat.succ.inj h⟩
theorem len1 {l : List Nat} (h : l.length = 1) : ∃ a, l = [a] := by
  obtain ⟨a, r, rfl, h2⟩ := lenS h
  obtain rfl := len0 h2
  exact ⟨a, rfl⟩
theorem len2 {l : List Nat} (h : l.length = 2) : ∃ a b, l = [a, b] := by
  obtain ⟨a, r, rfl, h2⟩ := lenS h
  obtain ⟨b, rfl⟩ := len1 h2
  exact ⟨a, b, rfl⟩
theorem len3 {l : List Nat} (h : l.length = 3) : ∃ a b c, l = [a, b, c] := by
  obtain ⟨a, r, rfl, h2⟩ := lenS h
  obtain ⟨b, c, rfl⟩ := len2 h2
  exact ⟨a, b, c, rfl⟩
theorem len4 {l : List Nat} (h : l.length = 4) : ∃ a b c d, l = [a, b, c, d] := by
  obtain ⟨a, r, rfl, h2⟩ := lenS h
  obtain ⟨b, c, d, rfl⟩ := len3 h2
  exact ⟨a, b, c, d, rfl⟩
theorem len5 {l : List Nat} (h : l.length = 5) : ∃ a b c d e, l = [a, b, c, d, e] := by
  obtain ⟨a, r, rfl, h2⟩ := lenS h
  obtain ⟨b, c, d, e, rfl⟩ := len4 h2
  exact ⟨a, b, c, d, e, rfl⟩
/-- Jacobi's identity, for lists -/
theorem jac (A : Nat → Nat → Int) (rs cs : List Nat) (r i c j : Nat) (h : rs.length = cs.length) (hk : rs.length ≤ 3) :
    mi A (rs ++ [r]) (cs ++ [c]) * mi A (rs ++ [i]) (cs ++ [j]) - mi A (rs ++ [i]) (cs ++ [c]) * mi A (rs ++ [r]) (cs ++ [j]) = mi A rs cs * mi A (rs ++ [r, i]) (cs ++ [c, j]) := by
  have hk' : rs.length = 0 ∨ rs.length = 1 ∨ rs.length = 2 ∨ rs.length = 3 := by omega
  rcases hk' with e | e | e | e <;> have e2 := h.symm.trans e
  · rw [len0 e, len0 e2]
    exact jac0 A r i c j
  · obtain ⟨a, rfl⟩ := len1 e
    obtain ⟨b, rfl⟩ := len1 e2
    exact jac1 A a b r i c j
  · obtain ⟨a1, a2, rfl⟩ := len2 e
    obtain ⟨b1, b2, rfl⟩ := len2 e2
    exact jac2 A a1 a2 b1 b2 r i c j
  · obtain ⟨a1, a2, a3, rfl⟩ := len3 e
    obtain ⟨b1, b2, b3, rfl⟩ := len3 e2
    exact jac3 A a1 a2 a3 b1 b2 b3 r i c j
/-- what an exact step of the elimination finds -/
theorem jac_div (A : Nat → Nat → Int) (rs cs : List Nat) (r i c j : Nat) (h : rs.length = cs.length) (hk : rs.length ≤ 3) (nz : mi A rs cs ≠ 0) :
    (mi A (rs ++ [r]) (cs ++ [c]) * mi A (rs ++ [i]) (cs ++ [j]) - mi A (rs ++ [i]) (cs ++ [c]) * mi A (rs ++ [r]) (cs ++ [j])).fdiv (mi A rs cs) = mi A (rs ++ [r, i]) (cs ++ [c, j]) := by
  rw [jac A rs cs r i c j h hk]
  exact Int.mul_fdiv_cancel_left _ nz
/-- two rows exchanged -/
theorem swp (A : Nat → Nat → Int) (rs l1 l2 cs : List Nat) (x y : Nat) (h : rs.length + l1.length + l2.length + 2 = cs.length) (h5 : cs.length ≤ 5) : mi A (rs ++ y :: (l1 ++ x :: l2)) cs = - mi A (rs ++ x :: (l1 ++ y :: l2)) cs := by
  have h1 : rs.length = 0 ∨ rs.length = 1 ∨ rs.length = 2 ∨ rs.length = 3 := by omega
  have h2 : l1.length = 0 ∨ l1.length = 1 ∨ l1.length = 2 ∨ l1.length = 3 := by omega
  have h3 : l2.length = 0 ∨ l2.length = 1 ∨ l2.length = 2 ∨ l2.length = 3 := by omega
  rcases h1 with e1 | e1 | e1 | e1 <;> rcases h2 with e2 | e2 | e2 | e2 <;> rcases h3 with e3 | e3 | e3 | e3 <;> (try (exfalso; omega))
  all_goals rw [e1, e2, e3] at h
  all_goals first
    | (obtain ⟨c1, c2, rfl⟩ := len2 h.symm)
    | (obtain ⟨c1, c2, c3, rfl⟩ := len3 h.symm)
    | (obtain ⟨c1, c2, c3, c4, rfl⟩ := len4 h.symm)
    | (obtain ⟨c1, c2, c3, c4, c5, rfl⟩ := len5 h.symm)
  all_goals first | (obtain rfl := len0 e1) | (obtain ⟨r1, rfl⟩ := len1 e1) | (obtain ⟨r1, r2, rfl⟩ := len2 e1) | (obtain ⟨r1, r2, r3, rfl⟩ := len3 e1)
  all_goals first | (obtain rfl := len0 e2) | (obtain ⟨u1, rfl⟩ := len1 e2) | (obtain ⟨u1, u2, rfl⟩ := len2 e2) | (obtain ⟨u1, u2, u3, rfl⟩ := len3 e2)
  all_goals first | (obtain rfl := len0 e3) | (obtain ⟨v1, rfl⟩ := len1 e3) | (obtain ⟨v1, v2, rfl⟩ := len2 e3) | (obtain ⟨v1, v2, v3, rfl⟩ := len3 e3)
  all_goals first
    | exact sw_0_0_0 A x y .. | exact sw_0_0_1 A x y .. | exact sw_0_0_2 A x y .. | exact sw_0_0_3 A x y ..
    | exact sw_0_1_0 A x y .. | exact sw_0_1_1 A x y .. | exact sw_0_1_2 A x y .. | exact sw_0_2_0 A x y .. | exact sw_0_2_1 A x y .. | exact sw_0_3_0 A x y ..
    | exact sw_1_0_0 A x y .. | exact sw_1_0_1 A x y .. | exact sw_1_0_2 A x y .. | exact sw_1_1_0 A x y .. | exact sw_1_1_1 A x y .. | exact sw_1_2_0 A x y ..
    | exact sw_2_0_0 A x y .. | exact sw_2_0_1 A x y .. | exact sw_2_1_0 A x y .. | exact sw_3_0_0 A x y ..
/-- a column without a pivot -/
theorem zcol (A : Nat → Nat → Int) (rs cs rest crest : List Nat) (c : Nat) (h : rs.length = cs.length) (hr : rest.length = crest.length + 1) (h5 : rs.length + rest.length ≤ 5) (hz : ∀ i ∈ rest, mi A (rs ++ [i]) (cs ++ [c]) = 0) (nz : mi A rs cs ≠ 0) :
    mi A (rs ++ rest) (cs ++ c :: crest) = 0 := by
  have key : mi A rs cs * mi A (rs ++ rest) (cs ++ c :: crest) = 0 := by
    have h1 : rs.length = 0 ∨ rs.length = 1 ∨ rs.length = 2 ∨ rs.length = 3 ∨ rs.length = 4 := by omega
    have h2 : crest.length = 0 ∨ crest.length = 1 ∨ crest.length = 2 ∨ crest.length = 3 ∨ crest.length = 4 := by omega
    rcases h1 with e1 | e1 | e1 | e1 | e1 <;> rcases h2 with e2 | e2 | e2 | e2 | e2 <;> (try (exfalso; omega))
    all_goals rw [e2] at hr
    all_goals have e3 := h.symm.trans e1
    all_goals first | (obtain rfl := len0 e1) | (obtain ⟨r1, rfl⟩ := len1 e1) | (obtain ⟨r1, r2, rfl⟩ := len2 e1) | (obtain ⟨r1, r2, r3, rfl⟩ := len3 e1) | (obtain ⟨r1, r2, r3, r4, rfl⟩ := len4 e1)
    all_goals first | (obtain rfl := len0 e3) | (obtain ⟨s1, rfl⟩ := len1 e3) | (obtain ⟨s1, s2, rfl⟩ := len2 e3) | (obtain ⟨s1, s2, s3, rfl⟩ := len3 e3) | (obtain ⟨s1, s2, s3, s4, rfl⟩ := len4 e3)
    all_goals first | (obtain rfl := len0 e2) | (obtain ⟨u1, rfl⟩ := len1 e2) | (obtain ⟨u1, u2, rfl⟩ := len2 e2) | (obtain ⟨u1, u2, u3, rfl⟩ := len3 e2) | (obtain ⟨u1, u2, u3, u4, rfl⟩ := len4 e2)
    all_goals first | (obtain ⟨v1, rfl⟩ := len1 hr) | (obtain ⟨v1, v2, rfl⟩ := len2 hr) | (obtain ⟨v1, v2, v3, rfl⟩ := len3 hr) | (obtain ⟨v1, v2, v3, v4, rfl⟩ := len4 hr) | (obtain ⟨v1, v2, v3, v4, v5, rfl⟩ := len5 hr)
    all_goals simp only [List.mem_cons, List.not_mem_nil, or_false, forall_eq_or_imp, forall_eq, List.nil_append, List.cons_append] at hz ⊢
    all_goals first
      | rw [zc_0_0 A] | rw [zc_0_1 A] | rw [zc_0_2 A] | rw [zc_0_3 A] | rw [zc_0_4 A] | rw [zc_1_0 A] | rw [zc_1_1 A] | rw [zc_1_2 A] | rw [zc_1_3 A] | rw [zc_2_0 A] | rw [zc_2_1 A] | rw [zc_2_2 A] | rw [zc_3_0 A] | rw [zc_3_1 A] | rw [zc_4_0 A]
    all_goals simp only [List.nil_append, List.cons_append, hz, Int.zero_mul, Int.sub_self, Int.add_zero, Int.neg_zero, Int.sub_zero]
  rcases Int.mul_eq_zero.mp key with e | e
  · exact absurd e nz
  · exact e
end Alg
namespace Alg
theorem range_split {k n : Nat} (h : k < n) : List.range n = List.range k ++ k :: List.range' (k + 1) (n - k - 1) := by
  rw [List.range_eq_range', List.range_eq_range']
  have e : n = k + ((n - k - 1) + 1) := by omega
  conv => lhs; rw [e]
  rw [← List.range'_append]
  simp [List.range'_succ]
/-- the state of the elimination ahead of column k: L the table as it stands, done and rest the rows in their order by now -/
structure St (A : Nat → Nat → Int) (n k : Nat) (L : Nat → Nat → Int) (sign scale : Int) (done rest : List Nat) : Prop where
  hd : done.length = k
  hr : done.length + rest.length = n
  hs : scale = mi A done (List.range k)
  nz : scale ≠ 0
  det : sign * mi A (done ++ rest) (List.range n) = mi A (List.range n) (List.range n)
  sg : sign = 1 ∨ sign = -1
  ent : ∀ t i, rest[t]? = some i → ∀ j, k ≤ j → j < n → L (k + t) j = mi A (done ++ [i]) (List.range k ++ [j])
theorem St.start {A L : Nat → Nat → Int} {n : Nat} (h : ∀ i j, i < n → j < n → L i j = A i j) : St A n 0 L 1 1 [] (List.range n) where
  hd := rfl
  hr := by simp
  hs := by rw [List.range_zero, mi0]
  nz := by decide
  det := by simp
  sg := Or.inl rfl
  ent := fun t i e j _ hj => by
    have ht : t < n := by
      rcases Nat.lt_or_ge t n with q | q
      · exact q
      · rw [List.getElem?_eq_none (by simpa using q)] at e
        cases e
    rw [List.getElem?_range ht] at e
    obtain rfl := Option.some.inj e
    rw [List.nil_append, List.range_zero, List.nil_append, mi1, Nat.zero_add]
    exact h t j ht hj
theorem St.none {A L : Nat → Nat → Int} {n k : Nat} {sign scale : Int} {done rest : List Nat} (s : St A n k L sign scale done rest) (hk : k < n) (h5 : n ≤ 5) (hz : ∀ i, k ≤ i → i < n → L i k = 0) :
    mi A (List.range n) (List.range n) = 0 := by
  have hl := s.hr
  have hd := s.hd
  have z : mi A (done ++ rest) (List.range k ++ k :: List.range' (k + 1) (n - k - 1)) = 0 := by
    refine zcol A done (List.range k) rest _ k (by simp [hd]) (by simp; omega) (by omega) (fun i hi => ?_) (by rw [← s.hs]; exact s.nz)
    obtain ⟨t, ht⟩ := List.getElem?_of_mem hi
    have htl : t < rest.length := by
      rcases Nat.lt_or_ge t rest.length with q | q
      · exact q
      · rw [List.getElem?_eq_none q] at ht
        cases ht
    rw [← s.ent t i ht k (Nat.le_refl k) hk]
    exact hz _ (by omega) (by omega)
  have e := s.det
  rw [← range_split hk] at z
  rw [z, Int.mul_zero] at e
  exact e.symm
theorem St.stop {A L : Nat → Nat → Int} {n : Nat} {sign scale : Int} {done rest : List Nat} (s : St A n n L sign scale done rest) : sign * scale = mi A (List.range n) (List.range n) := by
  have hl := s.hr
  have hd := s.hd
  have e : rest = [] := len0 (by omega)
  have d := s.det
  rw [e, List.append_nil, ← s.hs] at d
  exact d
theorem St.step {A L L' : Nat → Nat → Int} {n k : Nat} {sign scale : Int} {done rest : List Nat} (s : St A n k L sign scale done rest) (hk : k < n) (h5 : n ≤ 5) (p : L k k ≠ 0)
    (hL : ∀ i j, k < i → i < n → k < j → j < n → L' i j = (L k k * L i j - L i k * L k j).fdiv scale) : ∃ done' rest', St A n (k + 1) L' sign (L k k) done' rest' := by
  have hl := s.hr
  have hd := s.hd
  obtain ⟨x, r, rfl, hr⟩ : ∃ x r, rest = x :: r ∧ r.length = n - k - 1 := by
    obtain ⟨x, r, e, h⟩ := lenS (l := rest) (n := n - k - 1) (by omega)
    exact ⟨x, r, e, h⟩
  have ex : ∀ j, k ≤ j → j < n → L k j = mi A (done ++ [x]) (List.range k ++ [j]) := fun j h1 h2 => s.ent 0 x rfl j h1 h2
  refine ⟨done ++ [x], r, by rw [List.length_append, hd]; rfl, by rw [List.length_append, hd, hr]; show k + 1 + (n - k - 1) = n; omega, by rw [ex k (Nat.le_refl k) hk, List.range_succ], p, ?_, s.sg, fun t i e j hj1 hj2 => ?_⟩
  · rw [← s.det, List.append_assoc]
    rfl
  · have ht : t < r.length := by
      rcases Nat.lt_or_ge t r.length with q | q
      · exact q
      · rw [List.getElem?_eq_none q] at e
        cases e
    have ei : ∀ j, k ≤ j → j < n → L (k + 1 + t) j = mi A (done ++ [i]) (List.range k ++ [j]) := fun j h1 h2 => by
      have := s.ent (t + 1) i (by rw [List.getElem?_cons_succ]; exact e) j h1 h2
      rw [← this]
      congr 1
      omega
    rw [hL (k + 1 + t) j (by omega) (by omega) (by omega) hj2, ex k (Nat.le_refl k) hk, ei j (by omega) hj2, ei k (Nat.le_refl k) hk, ex j (by omega) hj2, s.hs]
    rw [jac_div A done (List.range k) x i k j (by simp [hd]) (by omega) (by rw [← s.hs]; exact s.nz), List.append_assoc, List.range_succ, List.append_assoc]
    rfl
theorem St.swap {A L L' : Nat → Nat → Int} {n k t0 : Nat} {sign scale : Int} {done rest : List Nat} (s : St A n k L sign scale done rest) (h5 : n ≤ 5) (h0 : 0 < t0) (ht : k + t0 < n)
    (hL : ∀ i j, i < n → L' i j = if i = k then L (k + t0) j else if i = k + t0 then L k j else L i j) : ∃ rest', St A n k L' (-sign) scale done rest' := by
  have hl := s.hr
  have hd := s.hd
  obtain ⟨x, r, rfl, hr⟩ : ∃ x r, rest = x :: r ∧ r.length = n - k - 1 := by
    obtain ⟨x, r, e, h⟩ := lenS (l := rest) (n := n - k - 1) (by omega)
    exact ⟨x, r, e, h⟩
  obtain ⟨y, hy⟩ : ∃ y, r[t0 - 1]? = some y := ⟨_, List.getElem?_eq_getElem (by omega)⟩
  obtain ⟨l1, l2, hr2, hl1⟩ : ∃ l1 l2, r = l1 ++ y :: l2 ∧ l1.length = t0 - 1 := by
    refine ⟨r.take (t0 - 1), r.drop t0, ?_, by rw [List.length_take]; omega⟩
    have e1 : r.drop (t0 - 1) = y :: r.drop t0 := by
      have hlt : t0 - 1 < r.length := by omega
      rw [List.drop_eq_getElem_cons hlt]
      have e2 : r[t0 - 1] = y := Option.some.inj ((List.getElem?_eq_getElem hlt).symm.trans hy)
      rw [e2]
      congr 2
      omega
    rw [← e1, List.take_append_drop]
  subst hr2
  refine ⟨y :: (l1 ++ x :: l2), hd, ?_, s.hs, s.nz, ?_, ?_, fun t i e j hj1 hj2 => ?_⟩
  · simp only [List.length_cons, List.length_append] at hl ⊢
    omega
  · have sw := swp A done l1 l2 (List.range n) x y (by simp only [List.length_cons, List.length_append, List.length_range] at hl ⊢; omega) (by simpa using h5)
    rw [sw, Int.neg_mul_neg]
    exact s.det
  · rcases s.sg with e | e
    · exact Or.inr (by rw [e])
    · exact Or.inl (by rw [e]; rfl)
  · have lt : t < (y :: (l1 ++ x :: l2)).length := by
      rcases Nat.lt_or_ge t (y :: (l1 ++ x :: l2)).length with q | q
      · exact q
      · rw [List.getElem?_eq_none q] at e
        cases e
    have lt2 : k + t < n := by
      simp only [List.length_cons, List.length_append] at lt hl
      omega
    rw [hL (k + t) j lt2]
    have ats : ∀ (u v : Nat) (q : Nat), q < t0 - 1 → (l1 ++ u :: l2)[q]? = l1[q]? := fun u v q hq => List.getElem?_append_left (by omega)
    by_cases e0 : t = 0
    · subst e0
      rw [if_pos (by omega)]
      have ey : i = y := (Option.some.inj e).symm
      rw [ey]
      refine s.ent t0 y ?_ j hj1 hj2
      obtain ⟨u, rfl⟩ : ∃ u, t0 = u + 1 := ⟨t0 - 1, by omega⟩
      rw [List.getElem?_cons_succ]
      exact hy
    · rw [if_neg (by omega)]
      obtain ⟨u, rfl⟩ : ∃ u, t = u + 1 := ⟨t - 1, by omega⟩
      rw [List.getElem?_cons_succ] at e
      by_cases e1 : u + 1 = t0
      · rw [if_pos (by omega)]
        have ex : i = x := by
          rw [List.getElem?_append_right (by omega)] at e
          have z : u - l1.length = 0 := by omega
          rw [z] at e
          exact (Option.some.inj e).symm
        rw [ex]
        exact s.ent 0 x rfl j hj1 hj2
      · rw [if_neg (by omega)]
        refine s.ent (u + 1) i ?_ j hj1 hj2
        rw [List.getElem?_cons_succ, ← e]
        rcases Nat.lt_or_ge u l1.length with q | q
        · rw [List.getElem?_append_left q, List.getElem?_append_left q]
        · rw [List.getElem?_append_right q, List.getElem?_append_right q]
          obtain ⟨v, hv⟩ : ∃ v, u - l1.length = v + 1 := ⟨u - l1.length - 1, by omega⟩
          rw [hv, List.getElem?_cons_succ, List.getElem?_cons_succ]
end Alg
namespace Alg
/-- sums over lists of indices -/
def S : List Nat → (Nat → Int) → Int
  | [], _ => 0
  | i :: r, f => f i + S r f
theorem S_congr {l : List Nat} {f g : Nat → Int} (h : ∀ i ∈ l, f i = g i) : S l f = S l g := by
  induction l with
  | nil => rfl
  | cons a r ih =>
    show f a + S r f = g a + S r g
    rw [h a List.mem_cons_self, ih fun i hi => h i (List.mem_cons_of_mem _ hi)]
theorem S_add (l : List Nat) (f g : Nat → Int) : S l (fun i => f i + g i) = S l f + S l g := by
  induction l with
  | nil => rfl
  | cons a r ih =>
    show f a + g a + S r _ = f a + S r f + (g a + S r g)
    rw [ih]
    omega
theorem S_sub (l : List Nat) (f g : Nat → Int) : S l (fun i => f i - g i) = S l f - S l g := by
  induction l with
  | nil => rfl
  | cons a r ih =>
    show f a - g a + S r _ = f a + S r f - (g a + S r g)
    rw [ih]
    omega
theorem S_mul (l : List Nat) (c : Int) (f : Nat → Int) : S l (fun i => c * f i) = c * S l f := by
  induction l with
  | nil => exact (Int.mul_zero c).symm
  | cons a r ih =>
    show c * f a + S r _ = c * (f a + S r f)
    rw [ih, Int.mul_add]
theorem S_zero {l : List Nat} {f : Nat → Int} (h : ∀ i ∈ l, f i = 0) : S l f = 0 := by
  induction l with
  | nil => rfl
  | cons a r ih =>
    show f a + S r f = 0
    rw [h a List.mem_cons_self, ih fun i hi => h i (List.mem_cons_of_mem _ hi)]
    rfl
theorem S_perm {l m : List Nat} (h : l.Perm m) (f : Nat → Int) : S l f = S m f := by
  induction h with
  | nil => rfl
  | cons a _ ih =>
    show f a + _ = f a + _
    rw [ih]
  | swap a b r =>
    show f b + (f a + S r f) = f a + (f b + S r f)
    omega
  | trans _ _ i1 i2 => exact i1.trans i2
/-- the vector with 1 at j -/
def E (j : Nat) : Nat → Int := fun i => if i = j then 1 else 0
theorem S_E {l : List Nat} {j : Nat} (hn : l.Nodup) (hj : j ∈ l) (f : Nat → Int) : S l (fun i => E j i * f i) = f j := by
  induction l with
  | nil => cases hj
  | cons a r ih =>
    obtain ⟨ha, hr⟩ := List.nodup_cons.mp hn
    show E j a * f a + S r _ = f j
    by_cases e : a = j
    · subst e
      rw [S_zero fun i hi => ?_]
      · unfold E
        rw [if_pos rfl]
        omega
      · have : i ≠ a := fun z => ha (z ▸ hi)
        unfold E
        rw [if_neg this, Int.zero_mul]
    · have hj2 : j ∈ r := by
        rcases List.mem_cons.mp hj with z | z
        · exact absurd z.symm e
        · exact z
      rw [ih hr hj2]
      unfold E
      rw [if_neg e]
      omega
/-- the form of B over the indices of l -/
def Qf (B : Nat → Nat → Int) (l : List Nat) (x : Nat → Int) : Int := S l fun i => S l fun j => x i * x j * B i j
def Psd (B : Nat → Nat → Int) (l : List Nat) : Prop := ∀ x, 0 ≤ Qf B l x
def Sym (B : Nat → Nat → Int) (l : List Nat) : Prop := ∀ i ∈ l, ∀ j ∈ l, B i j = B j i
theorem Qf_congr {B C : Nat → Nat → Int} {l : List Nat} {x y : Nat → Int} (h : ∀ i ∈ l, ∀ j ∈ l, B i j = C i j) (hx : ∀ i ∈ l, x i = y i) : Qf B l x = Qf C l y :=
  S_congr fun i hi => S_congr fun j hj => by rw [h i hi j hj, hx i hi, hx j hj]
theorem Psd_congr {B C : Nat → Nat → Int} {l : List Nat} (h : ∀ i ∈ l, ∀ j ∈ l, B i j = C i j) : Psd B l ↔ Psd C l :=
  ⟨fun p x => by rw [← Qf_congr (y := x) h fun _ _ => rfl]; exact p x, fun p x => by rw [Qf_congr (y := x) h fun _ _ => rfl]; exact p x⟩
theorem Qf_perm {B : Nat → Nat → Int} {l m : List Nat} (h : l.Perm m) (x : Nat → Int) : Qf B l x = Qf B m x := by
  unfold Qf
  rw [S_perm h]
  exact S_congr fun i _ => S_perm h _
theorem Psd_perm {B : Nat → Nat → Int} {l m : List Nat} (h : l.Perm m) : Psd B l ↔ Psd B m :=
  ⟨fun p x => by rw [← Qf_perm h]; exact p x, fun p x => by rw [Qf_perm h]; exact p x⟩
theorem Qf_scale {B : Nat → Nat → Int} {l : List Nat} {c : Int} (x : Nat → Int) : Qf (fun i j => c * B i j) l x = c * Qf B l x := by
  unfold Qf
  rw [← S_mul]
  refine S_congr fun i _ => ?_
  rw [← S_mul]
  exact S_congr fun j _ => by rw [Int.mul_left_comm]
theorem Psd_scale {B : Nat → Nat → Int} {l : List Nat} {c : Int} (hc : 0 < c) : Psd (fun i j => c * B i j) l ↔ Psd B l :=
  ⟨fun p x => by
    have := p x
    rw [Qf_scale] at this
    exact Int.le_of_mul_le_mul_left (by rw [Int.mul_zero]; exact this) hc, fun p x => by
    rw [Qf_scale]
    exact Int.mul_nonneg (Int.le_of_lt hc) (p x)⟩
/-- an index is taken out -/
theorem Qf_cons {B : Nat → Nat → Int} {p : Nat} {l : List Nat} (hs : Sym B (p :: l)) (x : Nat → Int) : Qf B (p :: l) x = x p * x p * B p p + 2 * x p * S l (fun j => x j * B p j) + Qf B l x := by
  have e1 : S l (fun j => x p * x j * B p j) = x p * S l (fun j => x j * B p j) := by
    rw [← S_mul]
    exact S_congr fun j _ => Int.mul_assoc ..
  have e2 : S l (fun i => x i * x p * B i p) = x p * S l (fun j => x j * B p j) := by
    rw [← S_mul]
    refine S_congr fun j hj => ?_
    rw [hs j (List.mem_cons_of_mem _ hj) p List.mem_cons_self, Int.mul_comm (x j) (x p), Int.mul_assoc]
  show (x p * x p * B p p + S l fun j => x p * x j * B p j) + S l (fun i => x i * x p * B i p + S l fun j => x i * x j * B i j) = _
  rw [S_add, e1, e2]
  unfold Qf
  grind
/-- Schur's complement -/
def Sc (B : Nat → Nat → Int) (p : Nat) : Nat → Nat → Int := fun i j => B p p * B i j - B i p * B p j
theorem Sc_sym {B : Nat → Nat → Int} {p : Nat} {l : List Nat} (hs : Sym B (p :: l)) : Sym (Sc B p) l := fun i hi j hj => by
  unfold Sc
  rw [hs i (List.mem_cons_of_mem _ hi) j (List.mem_cons_of_mem _ hj), hs i (List.mem_cons_of_mem _ hi) p List.mem_cons_self, hs p List.mem_cons_self j (List.mem_cons_of_mem _ hj), Int.mul_comm (B p i)]
theorem Qf_Sc {B : Nat → Nat → Int} {p : Nat} {l : List Nat} (hs : Sym B (p :: l)) (x : Nat → Int) : Qf (Sc B p) l x = B p p * Qf B l x - S l (fun j => x j * B p j) * S l (fun j => x j * B p j) := by
  unfold Qf
  rw [← S_mul, ← S_mul, ← S_sub]
  refine S_congr fun i hi => ?_
  rw [← S_mul]
  have e : S l (fun j => x j * B p j) * (x i * B p i) = S l (fun j => (x i * B p i) * (x j * B p j)) := by rw [S_mul, Int.mul_comm]
  rw [e, ← S_sub]
  refine S_congr fun j hj => ?_
  unfold Sc
  rw [hs i (List.mem_cons_of_mem _ hi) p List.mem_cons_self]
  grind
theorem Psd_Sc {B : Nat → Nat → Int} {p : Nat} {l : List Nat} (hs : Sym B (p :: l)) (hp : p ∉ l) (ha : 0 < B p p) : Psd B (p :: l) ↔ Psd (Sc B p) l := by
  constructor
  · intro h x
    have q := h (fun i => if i = p then - S l (fun j => x j * B p j) else B p p * x i)
    have ne : ∀ i ∈ l, (if i = p then - S l (fun j => x j * B p j) else B p p * x i) = B p p * x i := fun i hi => if_neg (fun z : i = p => hp (z ▸ hi))
    rw [Qf_cons hs] at q
    have e1 : S l (fun j => (if j = p then - S l (fun j => x j * B p j) else B p p * x j) * B p j) = B p p * S l (fun j => x j * B p j) := by
      rw [← S_mul]
      exact S_congr fun j hj => by rw [ne j hj, Int.mul_assoc]
    have e2 : Qf B l (fun i => if i = p then - S l (fun j => x j * B p j) else B p p * x i) = B p p * (B p p * Qf B l x) := by
      rw [Qf_congr (C := B) (y := fun i => B p p * x i) (fun _ _ _ _ => rfl) ne]
      unfold Qf
      rw [← S_mul, ← S_mul]
      refine S_congr fun i _ => ?_
      rw [← S_mul, ← S_mul]
      exact S_congr fun j _ => by grind
    rw [e1, e2, if_pos rfl] at q
    rw [Qf_Sc hs]
    have : 0 ≤ B p p * (B p p * Qf B l x - S l (fun j => x j * B p j) * S l (fun j => x j * B p j)) := by grind
    exact Int.le_of_mul_le_mul_left (by rw [Int.mul_zero]; exact this) ha
  · intro h x
    have q := h x
    rw [Qf_Sc hs] at q
    rw [Qf_cons hs]
    have sq : 0 ≤ (B p p * x p + S l (fun j => x j * B p j)) * (B p p * x p + S l (fun j => x j * B p j)) := by
      rcases Int.le_total 0 (B p p * x p + S l (fun j => x j * B p j)) with z | z
      · exact Int.mul_nonneg z z
      · exact Int.mul_nonneg_of_nonpos_of_nonpos z z
    have : 0 ≤ B p p * (x p * x p * B p p + 2 * x p * S l (fun j => x j * B p j) + Qf B l x) := by
      have e : B p p * (x p * x p * B p p + 2 * x p * S l (fun j => x j * B p j) + Qf B l x) = (B p p * x p + S l (fun j => x j * B p j)) * (B p p * x p + S l (fun j => x j * B p j)) + (B p p * Qf B l x - S l (fun j => x j * B p j) * S l (fun j => x j * B p j)) := by grind
      rw [e]
      omega
    exact Int.le_of_mul_le_mul_left (by rw [Int.mul_zero]; exact this) ha
/-- the diagonal of a form that is never below 0 -/
theorem Qf_E {B : Nat → Nat → Int} {l : List Nat} {i : Nat} (hn : l.Nodup) (hi : i ∈ l) : Qf B l (E i) = B i i := by
  have e : ∀ a ∈ l, S l (fun j => E i a * E i j * B a j) = E i a * B a i := fun a _ => by
    have : S l (fun j => E i a * E i j * B a j) = E i a * S l (fun j => E i j * B a j) := by
      rw [← S_mul]
      exact S_congr fun j _ => Int.mul_assoc ..
    rw [this, S_E hn hi]
  unfold Qf
  rw [S_congr e, S_E hn hi]
theorem Psd_diag {B : Nat → Nat → Int} {l : List Nat} {i : Nat} (hn : l.Nodup) (hi : i ∈ l) (h : Psd B l) : 0 ≤ B i i := by
  have := h (E i)
  rw [Qf_E hn hi] at this
  exact this
/-- a 0 on the diagonal: the row is 0 -/
theorem Psd_row {B : Nat → Nat → Int} {p j : Nat} {l : List Nat} (hs : Sym B (p :: l)) (hn : (p :: l).Nodup) (hj : j ∈ l) (h0 : B p p = 0) (h : Psd B (p :: l)) : B p j = 0 := by
  obtain ⟨hp, hl⟩ := List.nodup_cons.mp hn
  have key : ∀ t : Int, 0 ≤ 2 * t * B p j + B j j := fun t => by
    have q := h (fun i => if i = p then t else E j i)
    have ne : ∀ i ∈ l, (if i = p then t else E j i) = E j i := fun i hi => if_neg (fun z : i = p => hp (z ▸ hi))
    rw [Qf_cons hs, if_pos rfl, h0, Int.mul_zero, Int.zero_add] at q
    have e1 : S l (fun i => (if i = p then t else E j i) * B p i) = B p j := by
      rw [S_congr (g := fun i => E j i * B p i) fun i hi => by rw [ne i hi]]
      exact S_E hl hj _
    rw [e1, Qf_congr (C := B) (y := E j) (fun _ _ _ _ => rfl) ne, Qf_E hl hj] at q
    exact q
  rcases Int.lt_trichotomy (B p j) 0 with z | z | z
  · have q := key (B j j + 1)
    have d := key 0
    have : 2 * (B j j + 1) * B p j + B j j ≤ 2 * (B j j + 1) * (-1) + B j j := by
      have : 2 * (B j j + 1) * B p j ≤ 2 * (B j j + 1) * (-1) := Int.mul_le_mul_of_nonneg_left (by omega) (by omega)
      omega
    omega
  · exact z
  · have q := key (-(B j j + 1))
    have d := key 0
    have : 2 * (B j j + 1) * 1 ≤ 2 * (B j j + 1) * B p j := Int.mul_le_mul_of_nonneg_left (by omega) (by omega)
    have e : 2 * -(B j j + 1) * B p j = -(2 * (B j j + 1) * B p j) := by grind
    omega
end Alg
namespace Alg
theorem sc1 (B : Nat → Nat → Int) (p i : Nat) : mi (Sc B p) [i] [i] = mi B [p, i] [p, i] := by
  simp only [mi, List.map_cons, List.map_nil, lap1, lap2, Sc]
  grind
theorem sc2 (B : Nat → Nat → Int) (p i j : Nat) : mi (Sc B p) [i, j] [i, j] = B p p * mi B [p, i, j] [p, i, j] := by
  simp only [mi, List.map_cons, List.map_nil, lap2, lap3, Sc]
  grind
theorem sc3 (B : Nat → Nat → Int) (p i j k : Nat) : mi (Sc B p) [i, j, k] [i, j, k] = B p p * B p p * mi B [p, i, j, k] [p, i, j, k] := by
  simp only [mi, List.map_cons, List.map_nil, lap3, lap4, Sc]
  grind
theorem lapRow_zero (sub : Nat → Int) : ∀ (l : List Int) (t : Nat) (s : Int), (∀ a ∈ l, a = 0) → lapRow sub t s l = 0
  | [], _, _, _ => rfl
  | a :: r, t, s, h => by
    show s * a * sub t + lapRow sub (t + 1) (0 - s) r = 0
    rw [h a List.mem_cons_self, lapRow_zero sub r _ _ fun b hb => h b (List.mem_cons_of_mem _ hb), Int.mul_zero, Int.zero_mul]
    rfl
theorem mi_row_zero {B : Nat → Nat → Int} {p : Nat} {rs cs : List Nat} (h : ∀ c ∈ cs, B p c = 0) : mi B (p :: rs) cs = 0 := by
  unfold mi
  rw [List.map_cons, lap_cons]
  refine lapRow_zero _ _ _ _ fun a ha => ?_
  obtain ⟨c, hc, rfl⟩ := List.mem_map.mp ha
  exact h c hc
theorem mi_congr {A B : Nat → Nat → Int} {rs cs : List Nat} (h : ∀ r ∈ rs, ∀ c ∈ cs, A r c = B r c) : mi A rs cs = mi B rs cs := by
  unfold mi
  congr 1
  exact List.map_congr_left fun r hr => List.map_congr_left fun c hc => h r hr c hc
theorem sub_short {p : Nat} {l sub : List Nat} (h : sub.Sublist l) (hl : l.length ≤ 3) : sub.length = 0 ∨ sub.length = 1 ∨ sub.length = 2 ∨ sub.length = 3 := by
  have := h.length_le
  omega
/-- the sign of a principal minor through Schur's complement -/
theorem sc_sign {B : Nat → Nat → Int} {p : Nat} {sub : List Nat} (ha : 0 < B p p) (h3 : sub.length ≤ 3) : 0 ≤ mi (Sc B p) sub sub ↔ 0 ≤ mi B (p :: sub) (p :: sub) := by
  have hs : sub.length = 0 ∨ sub.length = 1 ∨ sub.length = 2 ∨ sub.length = 3 := by omega
  have one : ∀ x : Int, 0 ≤ B p p * x ↔ 0 ≤ x := fun x => ⟨fun q => Int.le_of_mul_le_mul_left (by rw [Int.mul_zero]; exact q) ha, fun q => Int.mul_nonneg (Int.le_of_lt ha) q⟩
  rcases hs with e | e | e | e
  · rw [len0 e, mi0, mi1]
    exact ⟨fun _ => Int.le_of_lt ha, fun _ => by decide⟩
  · obtain ⟨i, rfl⟩ := len1 e
    rw [sc1]
  · obtain ⟨i, j, rfl⟩ := len2 e
    rw [sc2]
    exact one _
  · obtain ⟨i, j, k, rfl⟩ := len3 e
    rw [sc3, Int.mul_assoc, one, one]
theorem Psd_tail {B : Nat → Nat → Int} {p : Nat} {l : List Nat} (hs : Sym B (p :: l)) (hp : p ∉ l) (h : Psd B (p :: l)) : Psd B l := fun x => by
  have q := h (fun i => if i = p then 0 else x i)
  have ne : ∀ i ∈ l, (if i = p then (0 : Int) else x i) = x i := fun i hi => if_neg (fun z : i = p => hp (z ▸ hi))
  rw [Qf_cons hs, if_pos rfl, Int.zero_mul, Int.zero_mul, Int.mul_zero, Int.zero_mul, Qf_congr (C := B) (y := x) (fun _ _ _ _ => rfl) ne] at q
  omega
theorem Sym_tail {B : Nat → Nat → Int} {p : Nat} {l : List Nat} (hs : Sym B (p :: l)) : Sym B l := fun i hi j hj => hs i (List.mem_cons_of_mem _ hi) j (List.mem_cons_of_mem _ hj)
/-- a form of up to four indices is never below 0 just if no principal minor is -/
theorem psd_minors : ∀ (l : List Nat), l.length ≤ 4 → l.Nodup → ∀ B, Sym B l → (Psd B l ↔ ∀ sub, sub.Sublist l → 0 ≤ mi B sub sub)
  | [], _, _, B, _ => ⟨fun _ sub h => by rw [List.sublist_nil.mp h, mi0]; decide, fun _ x => Int.le_refl 0⟩
  | p :: l, h4, hn, B, hs => by
    obtain ⟨hp, hl⟩ := List.nodup_cons.mp hn
    have l3 : l.length ≤ 3 := by simpa using h4
    have ihB := psd_minors l (by omega) hl B (Sym_tail hs)
    have ihS := psd_minors l (by omega) hl (Sc B p) (Sc_sym hs)
    constructor
    · intro h sub hsub
      rcases List.sublist_cons_iff.mp hsub with z | ⟨r, rfl, z⟩
      · exact ihB.mp (Psd_tail hs hp h) sub z
      · have a0 := Psd_diag hn List.mem_cons_self h
        by_cases ha : 0 < B p p
        · exact (sc_sign ha (by have := z.length_le; omega)).mp (ihS.mp ((Psd_Sc hs hp ha).mp h) r z)
        · have e0 : B p p = 0 := by omega
          rw [mi_row_zero fun c hc => ?_]
          · exact Int.le_refl 0
          · rcases List.mem_cons.mp hc with y | y
            · rw [y, e0]
            · exact Psd_row hs hn (z.subset y) e0 h
    · intro h
      have a0 : 0 ≤ B p p := by
        have := h [p] (List.Sublist.cons_cons p (List.nil_sublist l))
        rwa [mi1] at this
      by_cases ha : 0 < B p p
      · refine (Psd_Sc hs hp ha).mpr (ihS.mpr fun sub z => ?_)
        exact (sc_sign ha (by have := z.length_le; omega)).mpr (h (p :: sub) (List.Sublist.cons_cons p z))
      · have e0 : B p p = 0 := by omega
        have row : ∀ j ∈ l, B p j = 0 := fun j hj => by
          have q := h [p, j] (List.Sublist.cons_cons p (List.singleton_sublist.mpr hj))
          rw [mi2, e0, hs j (List.mem_cons_of_mem _ hj) p List.mem_cons_self, Int.zero_mul] at q
          rcases Int.lt_trichotomy (B p j) 0 with y | y | y
          · have := Int.mul_pos_of_neg_of_neg y y
            omega
          · exact y
          · have := Int.mul_pos y y
            omega
        have q := ihB.mpr fun sub z => h sub (z.trans (List.sublist_cons_self p l))
        intro x
        rw [Qf_cons hs, e0, S_zero fun j hj => by rw [row j hj, Int.mul_zero]]
        have := q x
        omega
end Alg
namespace Alg
/-- rows and columns change places -/
theorem mi_tr (A : Nat → Nat → Int) (rs cs : List Nat) (h : rs.length = cs.length) (h5 : rs.length ≤ 5) : mi (fun a b => A b a) cs rs = mi A rs cs := by
  have h1 : rs.length = 0 ∨ rs.length = 1 ∨ rs.length = 2 ∨ rs.length = 3 ∨ rs.length = 4 ∨ rs.length = 5 := by omega
  rcases h1 with e | e | e | e | e | e <;> have e2 := h.symm.trans e
  · rw [len0 e, len0 e2]
    exact tr_0 A
  · obtain ⟨a, rfl⟩ := len1 e
    obtain ⟨b, rfl⟩ := len1 e2
    exact tr_1 A a b
  · obtain ⟨a1, a2, rfl⟩ := len2 e
    obtain ⟨b1, b2, rfl⟩ := len2 e2
    exact tr_2 A a1 a2 b1 b2
  · obtain ⟨a1, a2, a3, rfl⟩ := len3 e
    obtain ⟨b1, b2, b3, rfl⟩ := len3 e2
    exact tr_3 A a1 a2 a3 b1 b2 b3
  · obtain ⟨a1, a2, a3, a4, rfl⟩ := len4 e
    obtain ⟨b1, b2, b3, b4, rfl⟩ := len4 e2
    exact tr_4 A a1 a2 a3 a4 b1 b2 b3 b4
  · obtain ⟨a1, a2, a3, a4, a5, rfl⟩ := len5 e
    obtain ⟨b1, b2, b3, b4, b5, rfl⟩ := len5 e2
    exact tr_5 A a1 a2 a3 a4 a5 b1 b2 b3 b4 b5
theorem lapRow_scale (sub : Nat → Int) (g : Int) : ∀ (l : List Int) (t : Nat) (s : Int), lapRow sub t s (l.map fun a => g * a) = g * lapRow sub t s l
  | [], _, _ => (Int.mul_zero g).symm
  | a :: r, t, s => by
    show s * (g * a) * sub t + lapRow sub (t + 1) (0 - s) (r.map fun a => g * a) = g * (s * a * sub t + lapRow sub (t + 1) (0 - s) r)
    rw [lapRow_scale sub g r]
    grind
/-- the first row times g -/
theorem lap_scale (g : Int) (r : List Int) (rs : List (List Int)) : lap ((r.map fun a => g * a) :: rs) = g * lap (r :: rs) := by
  rw [lap_cons, lap_cons, lapRow_scale]
/-- the state of the elimination by diagonal pivots: L the table as it stands, of the rows and columns of rest -/
structure Ps (A : Nat → Nat → Int) (n : Nat) (L : Nat → Nat → Int) (scale : Int) (done rest : List Nat) : Prop where
  hr : done.length + rest.length = n
  nd : (done ++ rest).Nodup
  hs : scale = mi A done done
  pos : 0 < scale
  ent : ∀ t u i j, rest[t]? = some i → rest[u]? = some j → L t u = mi A (done ++ [i]) (done ++ [j])
  psd : Psd A (List.range n) ↔ Psd (fun i j => mi A (done ++ [i]) (done ++ [j])) rest
  inr : ∀ i ∈ done ++ rest, i < n
theorem Ps.sym {A L : Nat → Nat → Int} {n : Nat} {scale : Int} {done rest : List Nat} (s : Ps A n L scale done rest) (h5 : n ≤ 5) (hA : ∀ i j, i < n → j < n → A i j = A j i) : Sym (fun i j => mi A (done ++ [i]) (done ++ [j])) rest := fun i hi j hj => by
  have hr := s.hr
  have hl : 0 < rest.length := List.length_pos_of_mem hi
  show mi A (done ++ [i]) (done ++ [j]) = mi A (done ++ [j]) (done ++ [i])
  rw [← mi_tr A (done ++ [i]) (done ++ [j]) (by simp) (by simp; omega)]
  refine mi_congr fun r hr c hc => ?_
  have mem : ∀ k x, x ∈ rest → k ∈ done ++ [x] → k < n := fun k x hx hk => s.inr k (by
    rcases List.mem_append.mp hk with y | y
    · exact List.mem_append_left _ y
    · rw [List.mem_singleton.mp y]
      exact List.mem_append_right _ hx)
  exact hA _ _ (mem c i hi hc) (mem r j hj hr)
theorem Ps.start {A L : Nat → Nat → Int} {n : Nat} (h : ∀ i j, i < n → j < n → L i j = A i j) : Ps A n L 1 [] (List.range n) where
  hr := by simp
  nd := by simpa using List.nodup_range
  hs := by rw [mi0]
  pos := by decide
  ent := fun t u i j e1 e2 => by
    have lt : ∀ {t i : Nat}, (List.range n)[t]? = some i → t < n ∧ i = t := fun {t i} e => by
      have ht : t < n := by
        rcases Nat.lt_or_ge t n with q | q
        · exact q
        · rw [List.getElem?_eq_none (by simpa using q)] at e
          cases e
      rw [List.getElem?_range ht] at e
      exact ⟨ht, (Option.some.inj e).symm⟩
    obtain ⟨h1, rfl⟩ := lt e1
    obtain ⟨h2, rfl⟩ := lt e2
    rw [List.nil_append, List.nil_append, mi1]
    exact h _ _ h1 h2
  psd := Psd_congr fun i _ j _ => by rw [List.nil_append, List.nil_append, mi1]
  inr := fun i hi => by simpa using hi
/-- no index is left: never below 0 -/
theorem Ps.stop {A L : Nat → Nat → Int} {n : Nat} {scale : Int} {done : List Nat} (s : Ps A n L scale done []) : Psd A (List.range n) := s.psd.mpr fun _ => Int.le_refl 0
theorem at_of {l : List Nat} {t : Nat} (h : t < l.length) : ∃ i, l[t]? = some i ∧ i ∈ l := ⟨l[t], List.getElem?_eq_getElem h, List.getElem_mem h⟩
/-- one of the diagonal is below 0 -/
theorem Ps.neg {A L : Nat → Nat → Int} {n t : Nat} {scale : Int} {done rest : List Nat} (s : Ps A n L scale done rest) (ht : t < rest.length) (h : L t t < 0) : ¬ Psd A (List.range n) := fun z => by
  obtain ⟨i, e, hi⟩ := at_of ht
  have nd : rest.Nodup := (List.nodup_append.mp s.nd).2.1
  have q := Psd_diag nd hi (s.psd.mp z)
  rw [s.ent t t i i e e] at h
  omega
/-- the whole diagonal is 0: just if all is 0 -/
theorem Ps.zero {A L : Nat → Nat → Int} {n : Nat} {scale : Int} {done rest : List Nat} (s : Ps A n L scale done rest) (h5 : n ≤ 5) (hA : ∀ i j, i < n → j < n → A i j = A j i) (h : ∀ t, t < rest.length → L t t = 0) :
    Psd A (List.range n) ↔ ∀ t u, t < rest.length → u < rest.length → L t u = 0 := by
  have nd : rest.Nodup := (List.nodup_append.mp s.nd).2.1
  rw [s.psd]
  constructor
  · intro z t u ht hu
    obtain ⟨i, e1, hi⟩ := at_of ht
    obtain ⟨j, e2, hj⟩ := at_of hu
    by_cases htu : t = u
    · rw [← htu]
      exact h t ht
    · rw [s.ent t u i j e1 e2]
      have hne : i ≠ j := fun q => by
        rw [← q] at e2
        exact htu ((List.getElem?_inj ht nd).mp (e1.trans e2.symm))
      have pm := List.perm_cons_erase hi
      have hj2 : j ∈ rest.erase i := (List.mem_erase_of_ne hne.symm).mpr hj
      refine Psd_row (B := fun i j => mi A (done ++ [i]) (done ++ [j])) (p := i) (l := rest.erase i) (fun a ha b hb => s.sym h5 hA a (pm.symm.subset ha) b (pm.symm.subset hb)) (pm.nodup_iff.mp nd) hj2 ?_ ((Psd_perm pm).mp z)
      show mi A (done ++ [i]) (done ++ [i]) = 0
      rw [← s.ent t t i i e1 e1]
      exact h t ht
  · intro z x
    unfold Qf
    rw [S_zero fun i hi => ?_]
    · exact Int.le_refl 0
    · refine S_zero fun j hj => ?_
      obtain ⟨t, ht⟩ := List.getElem?_of_mem hi
      obtain ⟨u, hu⟩ := List.getElem?_of_mem hj
      have lt : ∀ {t i : Nat}, rest[t]? = some i → t < rest.length := fun {t i} e => by
        rcases Nat.lt_or_ge t rest.length with q | q
        · exact q
        · rw [List.getElem?_eq_none q] at e
          cases e
      show x i * x j * mi A (done ++ [i]) (done ++ [j]) = 0
      rw [← s.ent t u i j ht hu, z t u (lt ht) (lt hu), Int.mul_zero]
/-- one step: the row and the column of the index at top go -/
theorem Ps.step {A L L' : Nat → Nat → Int} {n top : Nat} {scale : Int} {done rest : List Nat} (s : Ps A n L scale done rest) (h5 : n ≤ 5) (hA : ∀ i j, i < n → j < n → A i j = A j i) (ht : top < rest.length) (hp : 0 < L top top)
    (hL : ∀ t u, t < rest.length - 1 → u < rest.length - 1 → L' t u = (L top top * L (if t < top then t else t + 1) (if u < top then u else u + 1) - L (if t < top then t else t + 1) top * L top (if u < top then u else u + 1)).fdiv scale) :
    ∃ done', Ps A n L' (L top top) done' (rest.eraseIdx top) := by
  obtain ⟨p, e, hpm⟩ := at_of ht
  have nd : rest.Nodup := (List.nodup_append.mp s.nd).2.1
  have hr := s.hr
  have ep : L top top = mi A (done ++ [p]) (done ++ [p]) := s.ent top top p p e e
  have pm : rest.Perm (p :: rest.eraseIdx top) := by
    have e2 : rest[top] = p := Option.some.inj ((List.getElem?_eq_getElem ht).symm.trans e)
    have e3 : rest = rest.take top ++ p :: rest.drop (top + 1) := by rw [← e2, ← List.drop_eq_getElem_cons ht, List.take_append_drop]
    have e4 : rest.eraseIdx top = rest.take top ++ rest.drop (top + 1) := List.eraseIdx_eq_take_drop_succ ..
    rw [e4]
    conv => lhs; rw [e3]
    exact List.perm_middle
  have nz : mi A done done ≠ 0 := by
    have := s.pos
    rw [s.hs] at this
    omega
  have sym := s.sym h5 hA
  have idx : ∀ {t i : Nat}, (rest.eraseIdx top)[t]? = some i → t < rest.length - 1 ∧ rest[if t < top then t else t + 1]? = some i := fun {t i} q => by
    have lt : t < (rest.eraseIdx top).length := by
      rcases Nat.lt_or_ge t (rest.eraseIdx top).length with y | y
      · exact y
      · rw [List.getElem?_eq_none y] at q
        cases q
    rw [List.length_eraseIdx_of_lt ht] at lt
    rw [List.getElem?_eraseIdx] at q
    refine ⟨lt, ?_⟩
    split <;> rename_i y
    · rwa [if_pos y] at q
    · rwa [if_neg y] at q
  refine ⟨done ++ [p], ?_, ?_, ep, hp, fun t u i j e1 e2 => ?_, ?_, ?_⟩
  · rw [List.length_append, List.length_eraseIdx_of_lt ht]
    show done.length + 1 + (rest.length - 1) = n
    omega
  · rw [List.append_assoc]
    exact (List.Perm.append_left done pm).nodup_iff.mp s.nd
  · obtain ⟨h1, q1⟩ := idx e1
    obtain ⟨h2, q2⟩ := idx e2
    rw [hL t u h1 h2, ep, s.ent _ _ i j q1 q2, s.ent _ _ i p q1 e, s.ent _ _ p j e q2, s.hs]
    rw [jac_div A done done p i p j rfl (by omega) nz, List.append_assoc, List.append_assoc]
    rfl
  · rw [s.psd, Psd_perm pm, Psd_Sc (fun a ha b hb => sym a (pm.symm.subset ha) b (pm.symm.subset hb)) (List.nodup_cons.mp (pm.nodup_iff.mp nd)).1 (by rw [← ep]; exact hp)]
    rw [← Psd_scale (B := fun i j => mi A (done ++ [p] ++ [i]) (done ++ [p] ++ [j])) (c := mi A done done) (by rw [← s.hs]; exact s.pos)]
    refine Psd_congr fun i hi j hj => ?_
    have l1 : 0 < (rest.eraseIdx top).length := List.length_pos_of_mem hi
    rw [List.length_eraseIdx_of_lt ht] at l1
    have := jac A done done p i p j rfl (by omega)
    unfold Sc
    rw [this, List.append_assoc, List.append_assoc]
    rfl
  · intro i hi
    rw [List.append_assoc] at hi
    exact s.inr i ((List.Perm.append_left done pm).symm.subset hi)
end Alg
namespace Alg
/-- bounds -/
theorem lapRow_bound {sub : Nat → Int} {b c : Nat} (hsub : ∀ k, (sub k).natAbs ≤ c) : ∀ (l : List Int) (t : Nat) (s : Int), s.natAbs ≤ 1 → (∀ a ∈ l, a.natAbs ≤ b) → (lapRow sub t s l).natAbs ≤ l.length * (b * c)
  | [], _, _, _, _ => Nat.zero_le _
  | a :: r, t, s, hs, h => by
    have ih := lapRow_bound hsub r (t + 1) (0 - s) (by omega) fun x hx => h x (List.mem_cons_of_mem _ hx)
    have h1 : (s * a * sub t).natAbs ≤ b * c := by
      rw [Int.natAbs_mul, Int.natAbs_mul]
      have := Nat.mul_le_mul (Nat.mul_le_mul hs (h a List.mem_cons_self)) (hsub t)
      rwa [Nat.one_mul] at this
    show (s * a * sub t + lapRow sub (t + 1) (0 - s) r).natAbs ≤ (r.length + 1) * (b * c)
    have := Int.natAbs_add_le (s * a * sub t) (lapRow sub (t + 1) (0 - s) r)
    rw [Nat.succ_mul]
    omega
theorem lap_bound (b : Nat) : ∀ (n : Nat) (M : List (List Int)), M.length = n → (∀ r ∈ M, r.length ≤ 8 ∧ ∀ x ∈ r, x.natAbs ≤ 2 ^ b) → (lap M).natAbs ≤ 2 ^ ((b + 3) * n)
  | 0, M, h, _ => by
    rw [List.eq_nil_of_length_eq_zero h, lap_nil]
    exact Nat.le_refl 1
  | n + 1, M, h, hM => by
    cases M with
    | nil => cases h
    | cons r rs =>
      rw [lap_cons]
      have hr := hM r List.mem_cons_self
      have hsub : ∀ k, (lap (rs.map fun q => q.eraseIdx k)).natAbs ≤ 2 ^ ((b + 3) * n) := fun k => by
        refine lap_bound b n _ (by rw [List.length_map]; exact Nat.succ.inj h) fun q hq => ?_
        obtain ⟨q0, hq0, rfl⟩ := List.mem_map.mp hq
        obtain ⟨h1, h2⟩ := hM q0 (List.mem_cons_of_mem _ hq0)
        exact ⟨Nat.le_trans (List.length_eraseIdx_le ..) h1, fun x hx => h2 x ((List.eraseIdx_sublist ..).subset hx)⟩
      have q := lapRow_bound hsub r 0 1 (by decide) hr.2
      refine Nat.le_trans q ?_
      have e : (2 : Nat) ^ ((b + 3) * (n + 1)) = 8 * (2 ^ b * 2 ^ ((b + 3) * n)) := by
        rw [Nat.mul_succ, Nat.pow_add, Nat.pow_add]
        have : (2 : Nat) ^ 3 = 8 := rfl
        rw [this]
        generalize (2 : Nat) ^ ((b + 3) * n) = x
        generalize (2 : Nat) ^ b = y
        rw [Nat.mul_comm x, Nat.mul_comm y 8, Nat.mul_assoc]
      rw [e]
      exact Nat.mul_le_mul_right _ hr.1
end Alg
namespace Alg
/-- all lots of the numbers below n, in the law's order -/
def lots : Nat → List (List Nat)
  | 0 => [[]]
  | n + 1 => lots n ++ (lots n).map fun l => l ++ [n]
theorem lots_len : ∀ n, (lots n).length = 2 ^ n
  | 0 => rfl
  | n + 1 => by
    show (lots n ++ (lots n).map fun l => l ++ [n]).length = _
    rw [List.length_append, List.length_map, lots_len n, Nat.pow_succ]
    omega
theorem lots_mem : ∀ (n : Nat) (l : List Nat), l ∈ lots n ↔ l.Sublist (List.range n)
  | 0, l => by
    show l ∈ [[]] ↔ l.Sublist []
    rw [List.mem_singleton, List.sublist_nil]
  | n + 1, l => by
    show l ∈ lots n ++ (lots n).map (fun l => l ++ [n]) ↔ _
    rw [List.range_succ, List.mem_append, List.mem_map]
    constructor
    · rintro (h | ⟨m, h, rfl⟩)
      · exact ((lots_mem n l).mp h).trans (List.sublist_append_left _ _)
      · exact ((lots_mem n m).mp h).append (List.Sublist.refl _)
    · intro h
      obtain ⟨l1, l2, rfl, h1, h2⟩ := List.sublist_append_iff.mp h
      rcases List.sublist_cons_iff.mp h2 with z | ⟨r, rfl, z⟩
      · rw [List.sublist_nil.mp z, List.append_nil]
        exact Or.inl ((lots_mem n l1).mpr h1)
      · rw [List.sublist_nil.mp z]
        exact Or.inr ⟨l1, (lots_mem n l1).mpr h1, rfl⟩
theorem lots_bd {n : Nat} {l : List Nat} (h : l ∈ lots n) : l.length ≤ n ∧ ∀ i ∈ l, i < n := by
  have h := (lots_mem n l).mp h
  exact ⟨by have := h.length_le; rwa [List.length_range] at this, fun i hi => List.mem_range.mp (h.subset hi)⟩
theorem Psd_lots {n : Nat} (hn : n ≤ 4) {B : Nat → Nat → Int} (hs : ∀ i j, i < n → j < n → B i j = B j i) : Psd B (List.range n) ↔ ∀ l ∈ lots n, 0 ≤ mi B l l := by
  rw [psd_minors (List.range n) (by rw [List.length_range]; exact hn) List.nodup_range B fun i hi j hj => hs i j (List.mem_range.mp hi) (List.mem_range.mp hj)]
  exact ⟨fun h l hl => h l ((lots_mem n l).mp hl), fun h l hl => h l ((lots_mem n l).mpr hl)⟩
theorem Psd_neg {B : Nat → Nat → Int} {l : List Nat} (hn : l.Nodup) (hs : Sym B l) (h1 : Psd B l) (h2 : Psd (fun i j => -1 * B i j) l) : ∀ i ∈ l, ∀ j ∈ l, B i j = 0 := by
  intro i hi j hj
  have d1 := Psd_diag hn hi h1
  have d2 : 0 ≤ -1 * B i i := Psd_diag hn hi h2
  have d0 : B i i = 0 := by omega
  by_cases e : i = j
  · rw [← e]
    exact d0
  · have p : l.Perm (i :: l.erase i) := List.perm_cons_erase hi
    refine Psd_row (l := l.erase i) (fun a ha b hb => hs a (p.mem_iff.mpr ha) b (p.mem_iff.mpr hb)) (p.nodup_iff.mp hn) ?_ d0 ((Psd_perm p).mp h1)
    exact (List.mem_erase_of_ne (Ne.symm e)).mpr hj
theorem range_last (n : Nat) : (List.range (n + 1)).Perm (n :: List.range n) := by
  rw [List.range_succ]
  exact List.perm_append_singleton n _
theorem Psd_wide {B : Nat → Nat → Int} {n : Nat} (h1 : ∀ i, i ≤ n → B i n = 0) (h2 : ∀ i, i ≤ n → B n i = 0) (hs : ∀ i j, i < n → j < n → B i j = B j i) : Psd B (List.range (n + 1)) ↔ Psd B (List.range n) := by
  rw [Psd_perm (range_last n)]
  have sy : Sym B (n :: List.range n) := fun i hi j hj => by
    have q1 : i ≤ n := by
      rcases List.mem_cons.mp hi with rfl | z
      · exact Nat.le_refl _
      · exact Nat.le_of_lt (List.mem_range.mp z)
    have q2 : j ≤ n := by
      rcases List.mem_cons.mp hj with rfl | z
      · exact Nat.le_refl _
      · exact Nat.le_of_lt (List.mem_range.mp z)
    rcases Nat.lt_or_ge i n with y | y
    · rcases Nat.lt_or_ge j n with w | w
      · exact hs i j y w
      · have : j = n := by omega
        rw [this, h1 i q1, h2 i q1]
    · have : i = n := by omega
      rw [this, h1 j q2, h2 j q2]
  have e : ∀ x, Qf B (n :: List.range n) x = Qf B (List.range n) x := fun x => by
    rw [Qf_cons sy, h1 n (Nat.le_refl _), S_zero fun j hj => by rw [h2 j (Nat.le_of_lt (List.mem_range.mp hj)), Int.mul_zero]]
    simp
  exact ⟨fun p x => by rw [← e]; exact p x, fun p x => by rw [e]; exact p x⟩
theorem Psd_not {B : Nat → Nat → Int} {n : Nat} (h0 : 0 < n) (hs : ∀ i j, i ≤ n → j ≤ n → B i j = B j i) (hd : B n n = 0) (h1 : B n 0 ≠ 0) : ¬ Psd B (List.range (n + 1)) := fun p => by
  have p := (Psd_perm (range_last n)).mp p
  have mem : ∀ i, i ∈ n :: List.range n → i ≤ n := fun i hi => by
    rcases List.mem_cons.mp hi with rfl | z
    · exact Nat.le_refl _
    · exact Nat.le_of_lt (List.mem_range.mp z)
  exact h1 (Psd_row (fun i hi j hj => hs i j (mem i hi) (mem j hj)) ((range_last n).nodup_iff.mp List.nodup_range) (List.mem_range.mpr h0) hd p)
theorem mi_tr2 {A B : Nat → Nat → Int} {n : Nat} (hn : n ≤ 5) (h : ∀ i j, i < n → j < n → B i j = A j i) : mi B (List.range n) (List.range n) = mi A (List.range n) (List.range n) := by
  rw [mi_congr (B := fun a b => A b a) fun r hr c hc => h r c (List.mem_range.mp hr) (List.mem_range.mp hc)]
  exact mi_tr A _ _ rfl (by rw [List.length_range]; exact hn)
def sw (t i : Nat) : Nat := if i = 0 then t else if i = t then 0 else i
theorem lap_map (A : Nat → Nat → Int) (f : Nat → Nat) (rs cs : List Nat) : mi (fun a b => A (f a) b) rs cs = mi A (rs.map f) cs := by
  unfold mi
  rw [List.map_map]
  rfl
theorem mi_sw {A B : Nat → Nat → Int} {n t : Nat} (hn : n ≤ 5) (ht : t < n) (h0 : 0 < t) (h : ∀ i j, i < n → j < n → B i j = A (sw t i) j) : mi B (List.range n) (List.range n) = - mi A (List.range n) (List.range n) := by
  rw [mi_congr (B := fun a b => A (sw t a) b) fun r hr c hc => h r c (List.mem_range.mp hr) (List.mem_range.mp hc), lap_map A (sw t)]
  have key : ∃ l1 l2 : List Nat, (List.range n).map (sw t) = [] ++ t :: (l1 ++ 0 :: l2) ∧ List.range n = [] ++ 0 :: (l1 ++ t :: l2) ∧ l1.length + l2.length + 2 = n := by
    have c : n = 2 ∨ n = 3 ∨ n = 4 ∨ n = 5 := by omega
    have c2 : t = 1 ∨ t = 2 ∨ t = 3 ∨ t = 4 := by omega
    rcases c with rfl | rfl | rfl | rfl <;> rcases c2 with rfl | rfl | rfl | rfl
    · exact ⟨[], [], rfl, rfl, rfl⟩
    · omega
    · omega
    · omega
    · exact ⟨[], [2], rfl, rfl, rfl⟩
    · exact ⟨[1], [], rfl, rfl, rfl⟩
    · omega
    · omega
    · exact ⟨[], [2, 3], rfl, rfl, rfl⟩
    · exact ⟨[1], [3], rfl, rfl, rfl⟩
    · exact ⟨[1, 2], [], rfl, rfl, rfl⟩
    · omega
    · exact ⟨[], [2, 3, 4], rfl, rfl, rfl⟩
    · exact ⟨[1], [3, 4], rfl, rfl, rfl⟩
    · exact ⟨[1, 2], [4], rfl, rfl, rfl⟩
    · exact ⟨[1, 2, 3], [], rfl, rfl, rfl⟩
  obtain ⟨l1, l2, e1, e2, e3⟩ := key
  have s := swp A [] l1 l2 (List.range n) 0 t (by rw [List.length_range]; show 0 + l1.length + l2.length + 2 = n; omega) (by rw [List.length_range]; exact hn)
  rw [e1]
  refine s.trans ?_
  rw [← e2]
end Alg
/-! LayA: defs that are only ever entered where no display is under way (so that what is shown is shown whole). -/
namespace Lay
open PySem PySem.Spec PyProof.Rows L2

/-- no display is under way around A -/
def Quiet (A : Around) : Prop := A.guards = some []
theorem quiet_caller : Quiet callerA := rfl
theorem Quiet.deeper {A : Around} (q : Quiet A) (env : Env) : Quiet (A.deeper env) := q

section
variable {P : Program} {w : World} {K : PySem.W.Frag} {mg : Str → Option Value} {base : Heap}

/-- a def's promise, for quiet places alone -/
structure FnQ (P : Program) (w : World) (K : PySem.W.Frag) (mg : Str → Option Value) (base : Heap) (k : Nat) (f : Addr) (fd : FuncData) (ps : List Str) (sp : Sp) : Prop where
  many : ∀ vs H Q E, sp vs H Q E → vs.length = ps.length
  goes : ∀ (A : Around) (outer : List Env) (s : Shared) (H : Hp) (args : Args) (us : List Value) (vs : List V) (Q : VK) (E : XK), Quiet A → Room k A →
    Env0 P w K mg base A outer s H → BindsTo s fd args (ps.zip us) → Vals vs us → sp vs H Q E →
    codeAny (model P w) A (.call (.ref f) args) (CR CX0 outer P w H s Q E) s

theorem FnQ.of {k : Nat} {f : Addr} {fd : FuncData} {ps : List Str} {sp : Sp} (F : FnOk P w K mg base CX0 k f fd ps sp) : FnQ P w K mg base k f fd ps sp :=
  ⟨F.len, fun A o s H ar us vs Q E _ hr he hb hv hs => F.run A o s H ar us vs Q E hr he hb hv hs⟩

/-- a def by its body, entered where it is quiet -/
theorem quiet_def {x qual : Str} {st : Stmt} {f : Addr} {fd : FuncData} {N ps : List Str} {k : Nat} {sp : Sp} (F : Fun K x qual st f fd) (S : FnScope N ps (defScope st))
    (many : ∀ vs H Q E, sp vs H Q E → vs.length = ps.length)
    (body : ∀ (cdv : Value) (A : Around) (outer : List Env) (s : Shared) (H : Hp) (vs : List V) (Q : VK) (E : XK), Quiet A → Room k (A.deeper (envOfC qual (defScope st) s.heap.objs.size f cdv)) → sp vs H Q E →
      ∃ t, PSs (cxOf CX0 P w K mg base N qual (defScope st) f cdv A outer s H E).nox (defBody st) t ∧ t { nx := fun _ H' => Q .non H', rt := Q } (start N vs) H) :
    FnQ P w K mg base (k + 1) f fd ps sp := by
  obtain ⟨oc, od, kV, doc, pm, an, cdv, ct, osl, rfl, lk, hcd⟩ := F.ex
  refine ⟨many, fun A outer s H args us vs Q E hq hr he hb hv hs => ?_⟩
  -- the promise at this A alone, as a promise for all places: elsewhere nothing is asked
  have here : FnOk P w K mg base CX0 (k + 1) f (PySem.W.fnOf x qual (defArgs st) (defBody st) (defScope st) .none kV doc pm an cdv ct) ps sp → codeAny (model P w) A (.call (.ref f) args) (CR CX0 outer P w H s Q E) s :=
    fun G => G.run A outer s H args us vs Q E hr he hb hv hs
  have hl := many _ _ _ _ hs
  have KX : K.In s.heap := he.mod.kin.keeps fun b o e => (he.bs b o e).1
  have lim : s.heap.NoLimit := he.mod.nolimit.keeps fun b o e => (he.bs b o e).1
  have kinds : ∀ y ∈ ps.zip us, (defScope st).names.lookup y.1 = some .local ∨ ((defScope st).names.lookup y.1 = some .cell ∧ ((cellsFrom (s.heap.objs.size + 1) (defScope st).names []).lookup y.1).isSome = true) := by
    intro y hy
    rcases S.par y.1 (List.of_mem_zip hy).1 with q | q
    · exact Or.inl q
    · exact Or.inr ⟨q, PySem.W.cellsFrom_some _ _ _ (Or.inl q)⟩
  apply codeAny_call_function hr.depth (KX _ _ lk) rfl S.co S.gen rfl (PySem.W.codeRec_of KX hcd)
  apply hb
  apply wpAny_newFunctionEnv_cells S.kind kinds
  intro env henv s1 x1
  subst henv
  refine ⟨lim.keeps x1.toInCall.keep, ?_⟩
  apply codeAny_func
  obtain ⟨t, ht, q0⟩ := body cdv A outer s H vs Q E hq (hr.deeper _) hs
  have I : Inv (cxOf CX0 P w K mg base N qual (defScope st) f cdv A outer s H E) [] (start N vs) H s1 := inv_start S hr.hd he hl hv x1
  refine wpAny_mono (ht.nox.run [] s1 (start N vs) H _ I q0) (fun fl s2 h2 => ?_) (fun e s2 h2 => h2)
  cases fl with
  | next =>
    obtain ⟨a, b, J, z⟩ := h2
    exact ⟨V.non, b, J.os, J.bare, J.base, J.hok, rfl, z⟩
  | ret u =>
    obtain ⟨v, a, b, J, rv, z⟩ := h2
    exact ⟨v, b, J.os, J.bare, J.base, J.hok, rv, z⟩
  | brk =>
    obtain ⟨a, b, J, z⟩ := h2
    exact z.elim
  | cont =>
    obtain ⟨a, b, J, z⟩ := h2
    exact z.elim
end

section
variable {X : Cx} {k : Nat} {f : Addr} {fd : FuncData} {ps : List Str} {sp : Sp} {x : Str} {p pos : Pos} {e : Expr} {es : List Expr} {t : TA}
theorem quiet_run {pins : List (Addr × Obj)} {σ : L2.St} {H : Hp} {s : Shared} {Q : VK} {us : List Value} {vs : List V} (F : FnQ X.prog X.w X.K X.mg X.base k f fd ps sp) (hq : Quiet X.A) (hr : Room k X.A) (hb : Binds X.K fd ps [])
    (I : Inv X pins σ H s) (r : Vals vs us) (h : sp vs H Q E0) : wpAny (model X.prog X.w) X.A (call (.ref f) us) (EP X pins σ Q) X.xe s := by
  have hl : (us ++ []).length = ps.length := by
    rw [List.append_nil, ← r.length]
    exact F.many _ _ _ _ h
  have bb := hb s us I.kIn hl
  rw [List.append_nil] at bb
  refine wpAny_call (codeAny_mono (F.goes X.A X.stack s H ⟨us, []⟩ us vs Q E0 hq hr I.env0 bb r h) fun res s2 hh => ?_)
  cases res with
  | error z => exact False.elim hh
  | ok fl =>
    cases fl with
    | ret u => exact I.after hh
    | next => exact False.elim hh
    | brk => exact False.elim hh
    | cont => exact False.elim hh
def tCl (sp : Sp) (t : TA) : TE := fun σ H Q => t σ H fun vs H1 => sp vs H1 Q E0
/-- f(e, ..) where it is quiet -/
theorem qcall (F : FnQ X.prog X.w X.K X.mg X.base k f fd ps sp) (hq : Quiet X.A) (hr : Room k X.A) (hg : Gl X x) (hm : X.mg x = some (.ref f)) (hk : PySem.W.keepIn X.K (.ref f) = true) (hb : Binds X.K fd ps [])
    (ha : PA X (e :: es) t) (hdb : (x == ("__debug__" : Str)) = false := by decide) (he : starEach (e :: es) X.env = (false, eval e X.env) :: starEach es X.env := by rfl) (hpl : (backTo pos (starEach es X.env)).any (·.1) = false := by rfl) :
    PE X (.Call (.Name x p) (e :: es) [] pos) (tCl sp t) := by
  refine ⟨fun pins s σ H Q I h => wpAny_Call_Name_kw (ld_glob I hg hm ?_ hdb)⟩
  refine PySem.W.callWith_K (h₀ := X.base) I.ok.mod.kin hk (thn (ha.run pos pins s σ H _ I h) ?_) he hpl
  rintro us s1 ⟨vs, H1, I1, r, q⟩
  exact ⟨I1.kIn, quiet_run F hq hr hb I1 r q⟩
theorem qcall0 (F : FnQ X.prog X.w X.K X.mg X.base k f fd ps sp) (hq : Quiet X.A) (hr : Room k X.A) (hg : Gl X x) (hm : X.mg x = some (.ref f)) (hk : PySem.W.keepIn X.K (.ref f) = true) (hb : Binds X.K fd ps [])
    (hdb : (x == ("__debug__" : Str)) = false := by decide) : PE X (.Call (.Name x p) [] [] pos) (tCl sp tNil) :=
  ⟨fun pins s σ H Q I h => wpAny_Call_Name_kw (ld_glob I hg hm (PySem.W.callWith_K0 I.kIn hk (quiet_run (us := []) F hq hr hb I .nil h)) hdb)⟩

/-- repr(x) of whole data -/
def rRepr (K : PySem.W.Frag) : List V → Hp → VK → Prop := fun xs H Q => ∃ (a : Addr) (d : PyData), xs = [.ref a] ∧ Dp K H (.ref a) d ∧ d.showable = true ∧ d.hasDict = false ∧ d.depth ≤ 20 ∧ d.shown.length ≤ sizeLine ∧ Q (.str d.shown) H
theorem call_repr (hq : Quiet X.A) (hu : X.A.units + 64 < cLine) : CallR X (.builtin "repr") (rRepr X.K) := by
  intro pins s σ H xs us Q I r h
  obtain ⟨a, d, rfl, hd, hs, hdc, hdp, hsz, q⟩ := h
  cases r with
  | cons r1 r2 =>
    cases r2
    cases r1
    obtain ⟨as, rd⟩ := Dp.reads I d (.ref a) (.ref a) hd rfl
    refine repr_of_reads' rd hs (fun z => by rw [hdc] at z; cases z) hq (by omega) (fun _ _ z => z) (fun h' u tk hk => ?_) hsz
    exact ⟨.str d.shown, H, I.kept hk, ⟨u, rfl⟩, q⟩
/-- powers of any size below 2 ^ 27 bits -/
def CPowW (i j : Int) : Prop := 0 ≤ j ∧ (Builtin.Int.intBits i : Int) * j ≤ 2 ^ 27
theorem op_powW : OpR X (binaryOp .Pow) (rI CPowW fun i j => .int (i ^ j.toNat)) := opI fun _ _ _ _ _ _ _ hc q => pow_int hc.1 hc.2 q
end

/-! ### the end -/
theorem law_goes {P : Program} {w : World} {K : PySem.W.Frag} {mg mb : Str → Option Value} {k : Nat} {fa a : Addr} {fd : FuncData} {x : Str} {sp : Sp} {s1 : Shared} {vs : List Value} {ns : List Int}
    (KX : K.In s1.heap) (hns : s1.heap.Ns mainGlobals mg) (hb : s1.heap.Ns builtinsNs mb) (hbb : ∀ x : Str, x ≠ "__name__" → mb x = bootBuiltins x) (hlim : s1.heap.NoLimit) (hg : s1.gens = #[])
    (ha : s1.heap.get? a = some { cls := .type "list", data := .seq vs.toArray }) (hi : IntsAre vs ns) (hl : ns.length ≤ sizeLine) (hr : Room k callerA)
    (F : ∀ base : Heap, K.In base → base.Ns mainGlobals mg → FnQ P w K mg base k fa fd [x] sp) (hbind : ∀ (s : Shared) (u : Value), BindsTo s fd ⟨[u], []⟩ [(x, u)])
    (hsp : ∀ H : Hp, SqL K H a (ns.map V.int) → sp [.ref a] H (fun v _ => v = .bl true) E0) :
    codeAny (model P w) callerA (.call (.ref fa) ⟨[.ref a], []⟩) (fun r s' => r = .ok (.ret (.bool true)) ∧ OldK s1.heap s'.heap ∧ s'.os = s1.os ∧ AllBare s'.gens) s1 := by
  have rv := vals_ints hi
  -- from any abstract heap that tracks nothing, or the script alone, as a known object
  have from_ : ∀ H : Hp, SqL K H a (ns.map V.int) → HOk P w H s1.heap → (∀ b u, H b = some u → b = a ∧ K.lookup a = none ∧ u = .frz { cls := .type "list", data := .seq vs.toArray } (.lst (ns.map V.int))) →
      codeAny (model P w) callerA (.call (.ref fa) ⟨[.ref a], []⟩) (fun r s' => r = .ok (.ret (.bool true)) ∧ OldK s1.heap s'.heap ∧ s'.os = s1.os ∧ AllBare s'.gens) s1 := by
    intro H hS hok hT
    -- what is a dict, or of the written part, is not tracked
    have free1 : ∀ {b : Addr} {o : Obj}, s1.heap.get? b = some o → (∃ es ep, o.data = .dict es ep) → H b = none := by
      intro b o e hd
      cases q : H b with
      | none => rfl
      | some u =>
        obtain ⟨es, ep, hd⟩ := hd
        obtain ⟨rfl, -, -⟩ := hT b u q
        rw [ha] at e
        cases e
        cases hd
    have free2 : ∀ {b : Addr} {o : Obj}, K.lookup b = some o → H b = none := by
      intro b o e
      cases q : H b with
      | none => rfl
      | some u =>
        obtain ⟨rfl, z, -⟩ := hT b u q
        rw [z] at e
        cases e
    have ns2 : ∀ {b : Addr} {m : Str → Option Value}, s1.heap.Ns b m → (hidT s1.heap H).Ns b m := by
      rintro b m ⟨o, es, ep, e, d, r⟩
      exact ⟨o, es, ep, hidT_get e (free1 e ⟨es, ep, d⟩), d, r⟩
    have kb : K.In (hidT s1.heap H) := fun b o e => hidT_get (KX b o e) (free2 e)
    have md : Mod K mg (hidT s1.heap H) := by
      obtain ⟨mc, l1, l2⟩ := hlim
      exact ⟨kb, ns2 hns, ⟨mb, ns2 hb, hbb⟩, ⟨mc, ns2 l1, l2⟩⟩
    have en : Env0 P w K mg (hidT s1.heap H) callerA [] s1 H :=
      { frames := rfl, mod := md, bs := fun b o e => of_hidT e, bsz := Nat.le_of_eq (hidT_size _ _), funs := trivial, frf := (fun b hb => nomatch hb), hok := hok, bare := AllBare.of_eq hg }
    have run := (F _ kb (ns2 hns)).goes callerA [] s1 H ⟨[.ref a], []⟩ [.ref a] [.ref a] _ E0 quiet_caller hr en (hbind s1 (.ref a)) (.cons rfl .nil) (hsp H hS)
    refine codeAny_mono run fun r s2 h => ?_
    cases r with
    | error e => exact False.elim h
    | ok fl =>
      cases fl with
      | next => exact False.elim h
      | brk => exact False.elim h
      | cont => exact False.elim h
      | ret u =>
        obtain ⟨v, H2, os, bare, un, hok2, r2, rfl⟩ := h
        cases r2
        refine ⟨rfl, OldK.of_keep fun b o e => ?_, os, bare⟩
        cases q : H b with
        | none => exact un.keep b o e q (fun z => nomatch z) (fun z => nomatch z)
        | some u =>
          obtain ⟨rfl, -, rfl⟩ := hT b u q
          have k1 := (hok b _ q).1
          have k2 := (hok2 b _ (un.frzs b _ _ q)).1
          rw [e] at k1
          rw [k2, k1]
  cases hk : K.lookup a with
  | some o =>
    have e := KX a o hk
    rw [ha] at e
    cases e
    refine from_ (fun _ => none) (Or.inr ⟨_, vs.toArray, _, hk, rfl, rfl, rfl, ?_, ?_⟩) (fun b u z => nomatch z) (fun b u z => nomatch z)
    · rw [List.size_toArray, hi.length]
      exact hl
    · simpa using rv
  | none =>
    have h0 : upd (fun _ => none) a (.frz { cls := .type "list", data := .seq vs.toArray } (.lst (ns.map V.int))) a = some (.frz { cls := .type "list", data := .seq vs.toArray } (.lst (ns.map V.int))) := upd_same
    have one : ∀ b u, upd (fun _ => none) a (.frz { cls := .type "list", data := .seq vs.toArray } (.lst (ns.map V.int))) b = some u → b = a ∧ K.lookup a = none ∧ u = .frz { cls := .type "list", data := .seq vs.toArray } (.lst (ns.map V.int)) := by
      intro b u z
      by_cases hb : b = a
      · subst hb
        rw [h0] at z
        exact ⟨rfl, hk, (Option.some.inj z).symm⟩
      · rw [upd_ne hb] at z
        cases z
    refine from_ _ (Or.inl (Or.inr ⟨_, h0⟩)) (fun b u z => ?_) one
    obtain ⟨rfl, -, rfl⟩ := one b u z
    refine ⟨ha, ?_, vs, _, rv, ha⟩
    rw [List.length_map]
    exact hl
/-- the goal that k_head leaves (case hc) -/
theorem law_walks {l : PySem.W.OpenLaw} {n k : Nat} {q : Program} {loose : List Str} {XP : (Str → Option Value) → Heap → Prop} {YP : World → Heap → Prop} {d : DefRec} {K : Params → PySem.W.Frag} {sp : PySem.W.Frag → Sp} {x : Str}
    (hn : l.most = some n) (hn2 : n ≤ sizeLine) (hdf : d.params.defaults = []) (hr : Room k callerA)
    (hY : ∀ (w : World) (h : Heap), YP w h → (K w.params).In h)
    (F : ∀ (w : World) (mg : Str → Option Value) (fa : Addr) (h : Heap), (K w.params).In h → h.Ns mainGlobals mg → mg d.name = some (.ref fa) →
      ∃ fd : FuncData, (∀ (s : Shared) (u : Value), BindsTo s fd ⟨[u], []⟩ [(x, u)]) ∧
        ∀ base : Heap, (K w.params).In base → base.Ns mainGlobals mg → FnQ l.prog w (K w.params) mg base k fa fd [x] (sp (K w.params)))
    (hsp : ∀ (K : PySem.W.Frag) (H : Hp) (a : Addr) (ns : List Int), ns.length ≤ n → SqL K H a (ns.map V.int) → sp K [.ref a] H (fun v _ => v = .bl true) E0) :
    PySem.W.WalkO q loose XP YP l.row.toRowW d [] (fun f vs => PySem.call f vs) := by
  refine Att.attach_call hn hdf ?_
  intro w s0 s1 mg mb fa o pm cd doc a vs ns G Y ho hd hcd hmg hobj hints hlen hg
  have KX := hY w _ Y
  obtain ⟨fd, hb, hF⟩ := F w mg fa _ KX G.T.g hmg
  exact law_goes KX G.T.g G.T.b G.T.builtins G.T.nolimit hg hobj hints (Nat.le_trans hlen hn2) hr hF hb (fun H hS => hsp (K w.params) H a ns hlen hS)
end Lay
namespace Lay
open PySem PySem.Spec PyProof.Rows L2

/-! ### a def of the text that callers may use -/
structure DefAt (K : PySem.W.Frag) (mg : Str → Option Value) (x : Str) (st : Stmt) (ps : List Str) : Prop where
  ex : ∃ (f : Addr) (fd : FuncData), Fun K x x st f fd ∧ mg x = some (.ref f) ∧ Binds K fd ps []
structure Cal (P : Program) (w : World) (K : PySem.W.Frag) (mg : Str → Option Value) (base : Heap) (x : Str) (k : Nat) (ps : List Str) (sp : Sp) : Prop where
  ex : ∃ (f : Addr) (fd : FuncData), FnQ P w K mg base k f fd ps sp ∧ mg x = some (.ref f) ∧ PySem.W.keepIn K (.ref f) = true ∧ Binds K fd ps []
theorem Cal.lift {P : Program} {w : World} {K : PySem.W.Frag} {mg : Str → Option Value} {base : Heap} {x : Str} {j k : Nat} {ps : List Str} {sp : Sp} (c : Cal P w K mg base x j ps sp) (h : j ≤ k) : Cal P w K mg base x k ps sp := by
  obtain ⟨f, fd, F, m, kp, b⟩ := c.ex
  exact ⟨f, fd, ⟨F.many, fun A o s H ar us vs Q E hq hr he hb hv hs => F.goes A o s H ar us vs Q E hq (hr.mono h) he hb hv hs⟩, m, kp, b⟩
section
variable {P : Program} {w : World} {K : PySem.W.Frag} {mg : Str → Option Value} {base : Heap}
theorem cal_of {x : Str} {st : Stmt} {N ps : List Str} {k : Nat} {sp : Sp} (D : DefAt K mg x st ps) (S : FnScope N ps (defScope st))
    (many : ∀ vs H Q E, sp vs H Q E → vs.length = ps.length)
    (body : ∀ (f : Addr) (cdv : Value) (A : Around) (outer : List Env) (s : Shared) (H : Hp) (vs : List V) (Q : VK) (E : XK), Quiet A → Room k (A.deeper (envOfC x (defScope st) s.heap.objs.size f cdv)) → sp vs H Q E →
      ∃ t, PSs (cxOf CX0 P w K mg base N x (defScope st) f cdv A outer s H E).nox (defBody st) t ∧ t { nx := fun _ H' => Q .non H', rt := Q } (start N vs) H) :
    Cal P w K mg base x (k + 1) ps sp := by
  obtain ⟨f, fd, F, m, b⟩ := D.ex
  exact ⟨f, fd, quiet_def F S many (body f), m, F.kp, b⟩
theorem Cal.fn {x : Str} {k : Nat} {ps : List Str} {sp : Sp} (c : Cal P w K mg base x k ps sp) {fa : Addr} (h : mg x = some (.ref fa)) : ∃ fd, FnQ P w K mg base k fa fd ps sp := by
  obtain ⟨f, fd, F, m, -, -⟩ := c.ex
  rw [m] at h
  cases h
  exact ⟨fd, F⟩
end
section
variable {X : Cx} {k : Nat} {ps : List Str} {sp : Sp} {x : Str} {p pos : Pos} {e : Expr} {es : List Expr} {t : TA}
theorem qc (c : Cal X.prog X.w X.K X.mg X.base x k ps sp) (hq : Quiet X.A) (hr : Room k X.A) (hg : Gl X x)
    (ha : PA X (e :: es) t) (hdb : (x == ("__debug__" : Str)) = false := by decide) (he : starEach (e :: es) X.env = (false, eval e X.env) :: starEach es X.env := by rfl) (hpl : (backTo pos (starEach es X.env)).any (·.1) = false := by rfl) :
    PE X (.Call (.Name x p) (e :: es) [] pos) (tCl sp t) := by
  obtain ⟨f, fd, F, m, kp, b⟩ := c.ex
  exact qcall F hq hr hg m kp b ha hdb he hpl
theorem qc0 (c : Cal X.prog X.w X.K X.mg X.base x k ps sp) (hq : Quiet X.A) (hr : Room k X.A) (hg : Gl X x)
    (hdb : (x == ("__debug__" : Str)) = false := by decide) : PE X (.Call (.Name x p) [] [] pos) (tCl sp tNil) := by
  obtain ⟨f, fd, F, m, kp, b⟩ := c.ex
  exact qcall0 F hq hr hg m kp b hdb
end

/-! ### reading, step by step -/
section
variable {σ : L2.St} {H : Hp} {Q : VK} {ta tb tc te tv : TE} {D : Ends} {v x y : V} {K : PySem.W.Frag}
theorem rd_var {i : Nat} (h : σ[i]? = some (some v)) (q : Q v H) : tVar i σ H Q := ⟨v, h, q⟩
theorem rd_c (q : Q v H) : tC v σ H Q := q
theorem rd_op {r : R2} (q : ta σ H (fun x H1 => tb σ H1 fun y H2 => r x y H2 Q)) : tOp r ta tb σ H Q := q
theorem rd_un {r : V → Hp → VK → Prop} (q : ta σ H (fun x H1 => r x H1 Q)) : tUn r ta σ H Q := q
theorem rd_CB {r : List V → Hp → VK → Prop} {t : TA} (q : t σ H (fun vs H1 => r vs H1 Q)) : tCB r t σ H Q := q
theorem rd_Cl {sp : Sp} {t : TA} (q : t σ H (fun vs H1 => sp vs H1 Q E0)) : tCl sp t σ H Q := q
theorem rd_nil {R : List V → Hp → Prop} (q : R [] H) : tNil σ H R := q
theorem rd_cons {t : TA} {R : List V → Hp → Prop} (q : te σ H (fun x H1 => t σ H1 fun xs H2 => R (x :: xs) H2)) : tCons te t σ H R := q
theorem rd_seq {t u : TS} (q : t { D with nx := u D } σ H) : tSeq t u D σ H := q
theorem rd_next (q : D.nx σ H) : tNext D σ H := q
theorem rd_asg {g : TG} (q : te σ H (fun x H1 => g x σ H1 D.nx)) : tAsg te g D σ H := q
theorem rd_name {i : Nat} {R : L2.St → Hp → Prop} (q : R (σ.set i (some v)) H) : gName i v σ H R := q
theorem rd_ret (q : te σ H D.rt) : tRet te D σ H := q
theorem rd_drop (q : te σ H (fun _ H1 => D.nx σ H1)) : tDrop te D σ H := q
theorem rd_ifS {c : TT} {t u : TS} (q : c σ H (fun b H1 => if b = true then t D σ H1 else u D σ H1)) : tIfS c t u D σ H := q
theorem rd_test {R : Bool → Hp → Prop} (q : te σ H (fun x H' => ∃ k, x = .bl k ∧ R k H')) : tTest te σ H R := q
theorem rd_B {R : Bool → Hp → Prop} (q : te σ H (fun x H' => ∃ k, x = .bl k ∧ R k H')) : tB te σ H R := q
theorem rd_bl {b : Bool} {R : Bool → Prop} (q : R b) : ∃ k, V.bl b = V.bl k ∧ R k := ⟨b, rfl, q⟩
theorem rd_not {t : TT} {R : Bool → Hp → Prop} (q : t σ H (fun c H1 => R (!c) H1)) : tNot t σ H R := q
theorem rd_and {t u : TT} {R : Bool → Hp → Prop} (q : t σ H (fun c H1 => if c = true then u σ H1 R else R false H1)) : tAnd t u σ H R := q
theorem rd_or {t u : TT} {R : Bool → Hp → Prop} (q : t σ H (fun c H1 => if c = true then R true H1 else u σ H1 R)) : tOr t u σ H R := q
theorem rd_andV (q : ta σ H (fun x H1 => ∃ c, x = .bl c ∧ if c = true then tb σ H1 Q else Q (.bl false) H1)) : tAndV ta tb σ H Q := q
theorem rd_orV (q : ta σ H (fun x H1 => ∃ c, x = .bl c ∧ if c = true then Q (.bl true) H1 else tb σ H1 Q)) : tOrV ta tb σ H Q := q
theorem rd_notV (q : ta σ H (fun x H1 => ∃ c, x = .bl c ∧ Q (.bl (!c)) H1)) : tNotV ta σ H Q := q
theorem rd_ifE {t : TT} (q : t σ H (fun c H1 => if c = true then ta σ H1 Q else tb σ H1 Q)) : tIf t ta tb σ H Q := q
theorem rd_chain {r r' : R2} (q : ta σ H (fun x H1 => tb σ H1 fun y H2 => r x y H2 fun z H3 => ∃ k, z = .bl k ∧ (if k = true then tc σ H3 fun w' H4 => r' y w' H4 Q else Q (.bl false) H3))) : tChain r r' ta tb tc σ H Q := q
theorem rd_tup {t : TA} (q : t σ H (fun xs H1 => xs.length ≤ sizeLine ∧ ∀ p, H1 p = none → Q (.ref p) (upd H1 p (.tup xs)))) : tTup t σ H Q := q
theorem rd_lst {t : TA} (q : t σ H (fun xs H1 => xs.length ≤ sizeLine ∧ ∀ p, H1 p = none → Q (.ref p) (upd H1 p (.lst xs)))) : tLst t σ H Q := q
theorem rd_new {n : Nat} {R : Addr → Prop} (hn : n ≤ 1000) (q : ∀ p, H p = none → R p) : n ≤ sizeLine ∧ ∀ p, H p = none → R p := ⟨Nat.le_trans hn (by decide), q⟩
/-- the ifs -/
theorem rd_ite {p : Prop} [Decidable p] {A B : Prop} (h1 : p → A) (h2 : ¬ p → B) : if decide p = true then A else B := by
  by_cases h : p
  · rw [decide_eq_true h]
    exact iteT (h1 h)
  · rw [decide_eq_false h]
    exact iteF (h2 h)
theorem rd_iteN {p : Prop} [Decidable p] {A B : Prop} (h1 : ¬ p → A) (h2 : p → B) : if (!decide p) = true then A else B := by
  by_cases h : p
  · rw [decide_eq_true h]
    exact iteF (h2 h)
  · rw [decide_eq_false h]
    exact iteT (h1 h)
theorem rd_ifb {b : Bool} {A B : Prop} (h1 : b = true → A) (h2 : b = false → B) : if b = true then A else B := by
  cases b with
  | true => exact iteT (h1 rfl)
  | false => exact iteF (h2 rfl)
/-- ints -/
theorem rd_add {i j : Int} (q : Q (.int (i + j)) H) : rI0 (fun i j => .int (i + j)) (.int i) (.int j) H Q := ⟨i, j, rfl, rfl, q⟩
theorem rd_sub {i j : Int} (q : Q (.int (i - j)) H) : rI0 (fun i j => .int (i - j)) (.int i) (.int j) H Q := ⟨i, j, rfl, rfl, q⟩
theorem rd_lt {i j : Int} (q : Q (.bl (decide (i < j))) H) : rI0 (fun i j => .bl (decide (i < j))) (.int i) (.int j) H Q := ⟨i, j, rfl, rfl, q⟩
theorem rd_le {i j : Int} (q : Q (.bl (decide (i ≤ j))) H) : rI0 (fun i j => .bl (decide (i ≤ j))) (.int i) (.int j) H Q := ⟨i, j, rfl, rfl, q⟩
theorem rd_gt {i j : Int} (q : Q (.bl (decide (j < i))) H) : rI0 (fun i j => .bl (decide (j < i))) (.int i) (.int j) H Q := ⟨i, j, rfl, rfl, q⟩
theorem rd_ge {i j : Int} (q : Q (.bl (decide (j ≤ i))) H) : rI0 (fun i j => .bl (decide (j ≤ i))) (.int i) (.int j) H Q := ⟨i, j, rfl, rfl, q⟩
theorem rd_neg {i : Int} (q : Q (.int (-i)) H) : rU (fun i => .int (-i)) (.int i) H Q := ⟨i, rfl, q⟩
theorem rd_mul {i j : Int} (h : CMul i j) (q : Q (.int (i * j)) H) : rI CMul (fun i j => .int (i * j)) (.int i) (.int j) H Q := ⟨i, j, rfl, rfl, h, q⟩
theorem rd_mulW {i j : Int} (h : CMulW i j) (q : Q (.int (i * j)) H) : rI CMulW (fun i j => .int (i * j)) (.int i) (.int j) H Q := ⟨i, j, rfl, rfl, h, q⟩
theorem rd_pow {i j : Int} (h : CPow i j) (q : Q (.int (i ^ j.toNat)) H) : rI CPow (fun i j => .int (i ^ j.toNat)) (.int i) (.int j) H Q := ⟨i, j, rfl, rfl, h, q⟩
theorem rd_powW {i j : Int} (h : CPowW i j) (q : Q (.int (i ^ j.toNat)) H) : rI CPowW (fun i j => .int (i ^ j.toNat)) (.int i) (.int j) H Q := ⟨i, j, rfl, rfl, h, q⟩
theorem rd_mod {i j : Int} (h : 0 < j) (q : Q (.int (i % j)) H) : rI (fun _ j => 0 < j) (fun i j => .int (i % j)) (.int i) (.int j) H Q := ⟨i, j, rfl, rfl, h, q⟩
theorem rd_fdivW {i j : Int} (h : CDivW i j) (q : Q (.int (i / j)) H) : rI CDivW (fun i j => .int (i / j)) (.int i) (.int j) H Q := ⟨i, j, rfl, rfl, h, q⟩
theorem rd_eq (h : scal x y = true) (q : Q (.bl (decide (x = y))) H) : rEq x y H Q := ⟨h, q⟩
theorem rd_ne (h : scal x y = true) (q : Q (.bl (!decide (x = y))) H) : rNe x y H Q := ⟨h, q⟩
theorem int_eq {i j : Int} : decide (V.int i = V.int j) = decide (i = j) := by
  by_cases h : i = j
  · subst h
    rw [decide_eq_true rfl, decide_eq_true rfl]
  · rw [decide_eq_false h, decide_eq_false (fun z => h (V.int.inj z))]
theorem rd_eqI {i j : Int} (q : Q (.bl (decide (i = j))) H) : rEq (.int i) (.int j) H Q := ⟨rfl, by rw [int_eq]; exact q⟩
theorem rd_neI {i j : Int} (q : Q (.bl (!decide (i = j))) H) : rNe (.int i) (.int j) H Q := ⟨rfl, by rw [int_eq]; exact q⟩
theorem rd_ixL {p : Addr} {xs : List V} {i : Int} (h : SqL K H p xs) (ha : atI xs i = some v) (q : Q v H) : rIxL K (.ref p) (.int i) H Q := ⟨p, xs, i, v, rfl, rfl, h, ha, q⟩
theorem rd_ixT {p : Addr} {xs : List V} {i : Int} (h : SqT K H p xs) (ha : atI xs i = some v) (q : Q v H) : rIxT K (.ref p) (.int i) H Q := ⟨p, xs, i, v, rfl, rfl, h, ha, q⟩
end

/-! ### relations by name -/
def rInt : List V → Hp → VK → Prop := fun xs H Q => (∃ i, xs = [.int i] ∧ Q (.int i) H) ∨ ∃ k, xs = [.bl k] ∧ Q (.int (if k then 1 else 0)) H
def rAbs : List V → Hp → VK → Prop := fun xs H Q => ∃ i, xs = [.int i] ∧ Q (.int (if i < 0 then -i else i)) H
def rMx2 : List V → Hp → VK → Prop := fun xs H Q => ∃ i j, xs = [.int i, .int j] ∧ Q (.int (if j > i then j else i)) H
def rMn2 : List V → Hp → VK → Prop := fun xs H Q => ∃ i j, xs = [.int i, .int j] ∧ Q (.int (if j < i then j else i)) H
def rLenQ (K : PySem.W.Frag) : List V → Hp → VK → Prop := fun xs H Q => ∃ p ys, xs = [.ref p] ∧ (SqL K H p ys ∨ SqT K H p ys) ∧ Q (.int ys.length) H
def rLenZ : List V → Hp → VK → Prop := fun xs H Q => ∃ z, xs = [.str z] ∧ z.length ≤ sizeLine ∧ Q (.int z.length) H
def rLenA (K : PySem.W.Frag) : List V → Hp → VK → Prop := fun xs H Q => rLenQ K xs H Q ∨ rLenZ xs H Q
def rTupOf (K : PySem.W.Frag) : List V → Hp → VK → Prop := fun xs H Q => ∃ p ys, xs = [.ref p] ∧ ((SqL K H p ys ∧ ∀ l, H l = none → Q (.ref l) (upd H l (.tup ys))) ∨ (SqT K H p ys ∧ Q (.ref p) H))
def rLstOf (K : PySem.W.Frag) : List V → Hp → VK → Prop := fun xs H Q => ∃ p ys, xs = [.ref p] ∧ (SqL K H p ys ∨ SqT K H p ys) ∧ ∀ l, H l = none → Q (.ref l) (upd H l (.lst ys))
def rLtZ : R2 := fun x y H Q => ∃ i j, x = .str i ∧ y = .str j ∧ Q (.bl (decide (i.cps.toList < j.cps.toList))) H
def rLeZ : R2 := fun x y H Q => ∃ i j, x = .str i ∧ y = .str j ∧ Q (.bl (!decide (j.cps.toList < i.cps.toList))) H
def rGtZ : R2 := fun x y H Q => ∃ i j, x = .str i ∧ y = .str j ∧ Q (.bl (decide (j.cps.toList < i.cps.toList))) H
def rGeZ : R2 := fun x y H Q => ∃ i j, x = .str i ∧ y = .str j ∧ Q (.bl (!decide (i.cps.toList < j.cps.toList))) H
def rCatZ : R2 := fun x y H Q => ∃ i j, x = .str i ∧ y = .str j ∧ i.length + j.length ≤ sizeLine ∧ Q (.str (i ++ j)) H
section
variable {X : Cx}
theorem q_int : CallR X (.type "int") rInt := call_int1
theorem q_abs : CallR X (.builtin "abs") rAbs := call_abs
theorem q_max2 (hc : X.calm = true) : CallR X (.builtin "max") rMx2 := call_max2 hc
theorem q_min2 (hc : X.calm = true) : CallR X (.builtin "min") rMn2 := call_min2 hc
theorem q_lenQ : CallR X (.builtin "len") (rLenQ X.K) := call_len_seq
theorem q_lenZ : CallR X (.builtin "len") rLenZ := call_len_str
theorem q_lenA : CallR X (.builtin "len") (rLenA X.K) := CallR.or q_lenQ q_lenZ
theorem q_tupOf : CallR X (.type "tuple") (rTupOf X.K) := call_tuple_of
theorem q_lstOf : CallR X (.type "list") (rLstOf X.K) := call_list_of
theorem q_ltZ : OpR X (compareOp .Lt) rLtZ := op_lt_str
theorem q_leZ : OpR X (compareOp .LtE) rLeZ := op_le_str
theorem q_gtZ : OpR X (compareOp .Gt) rGtZ := op_gt_str
theorem q_geZ : OpR X (compareOp .GtE) rGeZ := op_ge_str
theorem q_catZ : OpR X (binaryOp .Add) rCatZ := op_add_str
end
section
variable {H : Hp} {Q : VK} {K : PySem.W.Frag}
theorem rd_int1 {i : Int} (q : Q (.int i) H) : rInt [V.int i] H Q := Or.inl ⟨i, rfl, q⟩
theorem rd_int1b {b : Bool} (q : Q (.int (if b then 1 else 0)) H) : rInt [V.bl b] H Q := Or.inr ⟨b, rfl, q⟩
theorem rd_abs {i : Int} (q : Q (.int (if i < 0 then -i else i)) H) : rAbs [V.int i] H Q := ⟨i, rfl, q⟩
theorem rd_max2 {i j : Int} (q : Q (.int (if j > i then j else i)) H) : rMx2 [V.int i, V.int j] H Q := ⟨i, j, rfl, q⟩
theorem rd_min2 {i j : Int} (q : Q (.int (if j < i then j else i)) H) : rMn2 [V.int i, V.int j] H Q := ⟨i, j, rfl, q⟩
theorem rd_lenL {p : Addr} {ys : List V} (h : SqL K H p ys) (q : Q (.int ys.length) H) : rLenQ K [V.ref p] H Q := ⟨p, ys, rfl, Or.inl h, q⟩
theorem rd_lenT {p : Addr} {ys : List V} (h : SqT K H p ys) (q : Q (.int ys.length) H) : rLenQ K [V.ref p] H Q := ⟨p, ys, rfl, Or.inr h, q⟩
theorem rd_lenS {z : Str} (h : z.length ≤ sizeLine) (q : Q (.int z.length) H) : rLenZ [V.str z] H Q := ⟨z, rfl, h, q⟩
theorem rd_ltZ {i j : Str} (q : Q (.bl (decide (i.cps.toList < j.cps.toList))) H) : rLtZ (.str i) (.str j) H Q := ⟨i, j, rfl, rfl, q⟩
theorem rd_leZ {i j : Str} (q : Q (.bl (!decide (j.cps.toList < i.cps.toList))) H) : rLeZ (.str i) (.str j) H Q := ⟨i, j, rfl, rfl, q⟩
theorem rd_gtZ {i j : Str} (q : Q (.bl (decide (j.cps.toList < i.cps.toList))) H) : rGtZ (.str i) (.str j) H Q := ⟨i, j, rfl, rfl, q⟩
theorem rd_geZ {i j : Str} (q : Q (.bl (!decide (i.cps.toList < j.cps.toList))) H) : rGeZ (.str i) (.str j) H Q := ⟨i, j, rfl, rfl, q⟩
theorem rd_catZ {i j : Str} (h : i.length + j.length ≤ sizeLine) (q : Q (.str (i ++ j)) H) : rCatZ (.str i) (.str j) H Q := ⟨i, j, rfl, rfl, h, q⟩
end
/-! ### heaps -/
theorem up_old {H : Hp} {a p : Addr} {o u : HO} (hp : H p = none) (h : H a = some o) : upd H p u a = some o := by
  rw [upd_ne (ne_of_none h hp)]
  exact h
theorem up_oth {H : Hp} {a b : Addr} {o u : HO} (hne : b ≠ a) (h : H b = some o) : upd H a u b = some o := by
  rw [upd_ne hne]
  exact h
theorem sq_old {K : PySem.W.Frag} {H : Hp} {a p : Addr} {u : HO} {xs : List V} (hp : H p = none) (h : SqL K H a xs) : SqL K (upd H p u) a xs := by
  rcases h with (h | ⟨o, h⟩) | h
  · exact Or.inl (Or.inl (up_old hp h))
  · exact Or.inl (Or.inr ⟨o, up_old hp h⟩)
  · exact Or.inr h
theorem at_z {α : Type} {xs : List α} {z : Int} {v : α} (h0 : 0 ≤ z) (h : xs[z.toNat]? = some v) : atI xs z = some v := by
  have e : z = ((z.toNat : Nat) : Int) := by omega
  rw [e]
  exact atI_nat h

/-! ### the bag -/
/-- a bag stands at a -/
def BagAt (H : Hp) (a : Addr) : Prop := ∃ g m c : Int, H a = some (.lst [.int g, .int m, .int c]) ∧ 0 ≤ g ∧ 0 ≤ m ∧ 0 ≤ c
/-- all but what stands at a is as it was -/
def But (a : Addr) (H H' : Hp) : Prop := ∀ b o, b ≠ a → H b = some o → H' b = some o
theorem But.refl (a : Addr) (H : Hp) : But a H H := fun _ _ _ h => h
theorem But.trans {a : Addr} {H H1 H2 : Hp} (x : But a H H1) (y : But a H1 H2) : But a H H2 := fun b o n h => y b o n (x b o n h)
theorem But.new {a p : Addr} {H : Hp} {u : HO} (hp : H p = none) : But a H (upd H p u) := fun _ _ _ h => up_old hp h
theorem But.upd {a : Addr} {H : Hp} {u : HO} : But a H (upd H a u) := fun _ _ n h => up_oth n h
theorem But.sq {K : PySem.W.Frag} {a b : Addr} {H H' : Hp} {xs : List V} (x : But a H H') (n : b ≠ a) (h : SqL K H b xs) : SqL K H' b xs := by
  rcases h with (h | ⟨o, h⟩) | h
  · exact Or.inl (Or.inl (x _ _ n h))
  · exact Or.inl (Or.inr ⟨o, x _ _ n h⟩)
  · exact Or.inr h
theorem BagAt.old {H : Hp} {a p : Addr} {u : HO} (hp : H p = none) (h : BagAt H a) : BagAt (upd H p u) a := by
  obtain ⟨g, m, c, e, r⟩ := h
  exact ⟨g, m, c, up_old hp e, r⟩
def spBag (K : PySem.W.Frag) : Sp := fun vs H Q _ => ∃ (a : Addr) (ns : List Int) (i : Nat), vs = [.ref a, .int (i : Int)] ∧ SqL K H a (ns.map V.int) ∧
  ∀ p H', H p = none → Same H H' → BagAt H' p → Q (.ref p) H'
def spDraw : Sp := fun vs H Q _ => ∃ (a : Addr) (n : Int), vs = [.ref a, .int n] ∧ BagAt H a ∧ 1 ≤ n ∧ n < 1000000 ∧
  ∀ (k : Int) (H' : Hp), 0 ≤ k → k < n → But a H H' → BagAt H' a → Q (.int k) H'
end Lay
namespace Lay
open PySem PySem.Spec PyProof.Rows L2
/-- one of the items of a list, or one sign of a text -/
def spOne (K : PySem.W.Frag) : Sp := fun vs H Q _ => ∃ (a : Addr) (it : V), vs = [.ref a, it] ∧ BagAt H a ∧
  ((∃ l xs, it = .ref l ∧ l ≠ a ∧ SqL K H l xs ∧ 0 < xs.length ∧ xs.length ≤ 1000 ∧ ∀ v H', v ∈ xs → But a H H' → BagAt H' a → Q v H') ∨
   (∃ z, it = .str z ∧ 0 < z.length ∧ z.length ≤ 1000 ∧ ∀ c H', c ∈ z.cps.toList → But a H H' → BagAt H' a → Q (.str ⟨#[c]⟩) H'))
/-- which built-in names the text leaves as they are -/
def Bare (mg : Str → Option Value) (x : Str) : Prop := mg x = none
end Lay
namespace Lay
open PySem PySem.Spec PyProof.Rows L2
theorem at_nat {α : Type} {xs : List α} {j : Nat} {v : α} (h : xs[j]? = some v) : atI xs (j : Int) = some v := atI_nat h
end Lay
namespace Lay
open PySem PySem.Spec PyProof.Rows L2
theorem rd_at {t : TS} {D : Ends} {σ : L2.St} {H : Hp} (σ2 : L2.St) (e : σ = σ2) (q : t D σ2 H) : t D σ H := by
  rw [e]
  exact q
end Lay
namespace Lay
open PySem PySem.Spec PyProof.Rows L2
theorem rd_gsub {to ti : TE} {t : TSet} {v : V} {σ : L2.St} {H : Hp} {R : L2.St → Hp → Prop} (q : to σ H (fun o H1 => ti σ H1 fun i H2 => t o i v H2 fun H3 => R σ H3)) : gSub to ti t v σ H R := q
theorem rd_setL {p : Addr} {xs ys : List V} {k : Int} {j : Nat} {v : V} {H : Hp} {R : Hp → Prop} (h : H p = some (.lst xs)) (hk : ixN xs.length k = some j) (e : xs.set j v = ys) (q : R (upd H p (.lst ys))) : rSetL (.ref p) (.int k) v H R := by
  subst e
  exact ⟨p, xs, k, j, rfl, rfl, h, hk, q⟩
theorem mul_lit {i j : Int} (h : -(2 ^ 64) < i ∧ i < 2 ^ 64) : CMul i j := Or.inl h
theorem mul_rit {i j : Int} (h : -(2 ^ 64) < j ∧ j < 2 ^ 64) : CMul i j := Or.inr h
end Lay
namespace Lay
open PySem PySem.Spec PyProof.Rows L2
section
variable {te ta tb : TE} {σ : L2.St} {H : Hp} {Q : VK} {D : Ends} {K : PySem.W.Frag}
/-- what is read up to here is told by P, whatever follows -/
theorem rd_with (P : V → Hp → Prop) (k : ∀ Q' : VK, (∀ v H1, P v H1 → Q' v H1) → te σ H Q') (r : ∀ v H1, P v H1 → Q v H1) : te σ H Q := k Q r
/-- a statement's end told by P; it may leave by returns that rt tells -/
theorem rd_withS {t : TS} (P : L2.St → Hp → Prop) (k : ∀ D' : Ends, (∀ σ1 H1, P σ1 H1 → D'.nx σ1 H1) → (∀ v H1, D.rt v H1 → D'.rt v H1) → t D' σ H) (r : ∀ σ1 H1, P σ1 H1 → D.nx σ1 H1) : t D σ H := k D r (fun _ _ h => h)
theorem rd_sl {r : V → Option Int → Option Int → Hp → VK → Prop} {tl th : TO} (q : te σ H (fun x H1 => tl σ H1 fun l H2 => th σ H2 fun u H3 => r x l u H3 Q)) : tSl r te tl th σ H Q := q
theorem rd_noP {R : Option Int → Hp → Prop} (q : R none H) : tNoPart σ H R := q
theorem rd_part {R : Option Int → Hp → Prop} (q : te σ H (fun x H1 => ∃ i, x = .int i ∧ R (some i) H1)) : tPart te σ H R := q
theorem rd_i {i : Int} {R : Int → Prop} (q : R i) : ∃ j, V.int i = V.int j ∧ R j := ⟨i, rfl, q⟩
theorem rd_slL {a : Addr} {xs : List V} {lo hi : Option Int} (h : SqL K H a xs) (q : ∀ p, H p = none → Q (.ref p) (upd H p (.lst (cutV xs lo hi)))) : rSlL K (.ref a) lo hi H Q := ⟨a, xs, rfl, h, q⟩
theorem rd_sum {a : Addr} {ns : List Int} (h : SqL K H a (ns.map V.int)) (q : Q (.int ns.sum) H) : rSum K [V.ref a] H Q := ⟨a, ns, rfl, h, q⟩
theorem rd_all {a : Addr} {bs : List Bool} (h : SqL K H a (bs.map V.bl)) (q : Q (.bl (bs.all id)) H) : rAll K [V.ref a] H Q := ⟨a, bs, rfl, h, q⟩
theorem rd_ixA {it : V} {i : Int} (h : rIxL K it (.int i) H Q ∨ rIxT K it (.int i) H Q ∨ rIxS it (.int i) H Q) : rIx K it (.int i) H Q := h
end
theorem cut_ints (ns : List Int) (lo hi : Option Int) : ∃ ms : List Int, cutV (ns.map V.int) lo hi = ms.map V.int := by
  refine ⟨(ns.drop (HT.sIx ns.length 0 lo)).take (HT.sIx ns.length ns.length hi - HT.sIx ns.length 0 lo), ?_⟩
  unfold cutV
  rw [List.map_take, List.map_drop, List.length_map]
end Lay
namespace Lay
open PySem PySem.Spec PyProof.Rows L2
/-! ### loops and comprehensions -/
section
variable {σ : L2.St} {H H1 : Hp} {Q : VK} {D : Ends} {K : PySem.W.Frag}
/-- what a for asks once it stands -/
def ForAt (J : It) (g : TG) (tb : TS) (D : Ends) (σ : L2.St) (H1 : Hp) : Prop := ∃ W : Nat → Nat → L2.St → Hp → Prop, (∃ m, W 0 m σ H1) ∧ ∀ i m σ H, W i m σ H →
  (J.stop i H ∧ D.nx σ H) ∨ (J.go i H ∧ ∃ N : L2.St → Hp → Prop, (∀ σ' H', N σ' H' → ∃ m', m' < m ∧ W (i + 1) m' σ' H') ∧ ∀ x H', J.yld i H x H' → g x σ H' fun σ2 H2 => tb { D with nx := N, ct := N, bk := D.nx } σ2 H2)
theorem rd_for {wi : TI} {g : TG} {tb : TS} (q : wi σ H (fun J H1 => ForAt J g tb D σ H1)) : tFor wi g tb D σ H := q
theorem rd_rng1 {ta : TA} {R : It → Hp → Prop} (q : ta σ H (fun vs H1 => ∃ j : Int, vs = [.int j] ∧ -(2 ^ 62) ≤ j ∧ j < 2 ^ 62 ∧ R (Itr 0 j.toNat) H1)) : iRng1 ta σ H R := q
theorem rd_iTup {te : TE} {R : It → Hp → Prop} (q : te σ H (fun x H1 => ∃ a, x = .ref a ∧ (∃ xs, SqT K H1 a xs) ∧ R (Itt K a) H1)) : iTup K te σ H R := q
theorem rd_iList {te : TE} {R : It → Hp → Prop} (q : te σ H (fun x H1 => ∃ a, x = .ref a ∧ (∃ xs, SqL K H1 a xs) ∧ R (Itl K a) H1)) : iList K te σ H R := q
theorem rd_iStr {te : TE} {R : It → Hp → Prop} (q : te σ H (fun x H1 => ∃ z, x = .str z ∧ R (Its z) H1)) : iStr te σ H R := q
theorem for_rng {n : Nat} {g : TG} {tb : TS} (Pv : Nat → L2.St → Hp → Prop) (h0 : Pv 0 σ H)
    (hs : ∀ i σ H, i < n → Pv i σ H → g (.int (0 + i)) σ H fun σ2 H2 => tb { D with nx := Pv (i + 1), ct := Pv (i + 1), bk := D.nx } σ2 H2) (hd : ∀ σ H, Pv n σ H → D.nx σ H) : ForAt (Itr 0 n) g tb D σ H :=
  for_range Pv h0 hs hd
/-- what a comprehension asks once its list stands at D -/
def LcAt (J : It) (g : TG) (tt : TT) (te : TE) (vs : List Nat) (σ : L2.St) (E : Addr) (H1 : Hp) (Q : VK) : Prop := ∃ W : Nat → Nat → Hp → Prop, (∃ m, W 0 m (upd H1 E (.lst []))) ∧ ∀ i m H, W i m H →
  (J.stop i H ∧ Q (.ref E) H) ∨ (J.go i H ∧ ∃ Nx : Hp → Prop, (∀ H', Nx H' → ∃ m', m' < m ∧ W (i + 1) m' H') ∧ ∀ x H', J.yld i H x H' → g x (wipe σ vs) H' fun σ2 H2 => wipe σ2 vs = wipe σ vs ∧ tt σ2 H2 fun b H3 =>
    if b = true then te σ2 H3 fun y H4 => ∃ acc, H4 E = some (.lst acc) ∧ acc.length < sizeLine ∧ Nx (upd H4 E (.lst (acc ++ [y]))) else Nx H3)
theorem rd_lc {wi : TI} {g : TG} {tt : TT} {te : TE} {vs : List Nat} (q : wi σ H (fun J H1 => ∀ E, H1 E = none → LcAt J g tt te vs σ E H1 Q)) : tLc wi g tt te vs σ H Q := q
theorem wipe1 (σ : L2.St) (i : Nat) (x : V) : wipe ((wipe σ [i]).set i (some x)) [i] = wipe σ [i] := by
  show ((σ.set i none).set i (some x)).set i none = σ.set i none
  rw [List.set_set, List.set_set]
theorem same_up {H1 H' : Hp} {E : Addr} {u : HO} (hE : H1 E = none) (s : Same H1 H') : Same H1 (upd H' E u) := fun b o e => by
  rw [upd_ne (ne_of_none e hE)]
  exact s b o e
/-- a walk that leaves the heap as it is and yields n items -/
structure Wk (J : It) (n : Nat) (G : Hp → Prop) (item : Nat → V) : Prop where
  stop : ∀ H, G H → J.stop n H
  go : ∀ i H, G H → i < n → J.go i H
  yld : ∀ i H x H', G H → i < n → J.yld i H x H' → H' = H ∧ x = item i
theorem wk_rng (n : Nat) : Wk (Itr 0 n) n (fun _ => True) (fun i => .int (0 + (i : Int))) := ⟨fun _ _ => Nat.le_refl _, fun _ _ _ h => h, fun _ _ _ _ _ _ h => h⟩
theorem wk_tup {a : Addr} {xs : List V} (d : V) : Wk (Itt K a) xs.length (fun H => SqT K H a xs) (fun i => xs.getD i d) :=
  ⟨fun H h => ⟨xs, h, Nat.le_refl _⟩, fun i H h hi => ⟨xs, xs[i], h, List.getElem?_eq_getElem hi⟩, fun i H x H' h hi y => by
    obtain ⟨e, y⟩ := y
    refine ⟨e, ?_⟩
    have z := y xs h
    show x = xs.getD i d
    rw [List.getD_eq_getElem?_getD, z]
    rfl⟩
theorem wk_list {a : Addr} {xs : List V} (d : V) : Wk (Itl K a) xs.length (fun H => SqL K H a xs) (fun i => xs.getD i d) :=
  ⟨fun H h => ⟨xs, h, Nat.le_refl _⟩, fun i H h hi => ⟨xs, xs[i], h, List.getElem?_eq_getElem hi⟩, fun i H x H' h hi y => by
    obtain ⟨e, y⟩ := y
    refine ⟨e, ?_⟩
    have z := y xs h
    show x = xs.getD i d
    rw [List.getD_eq_getElem?_getD, z]
    rfl⟩
theorem wk_str (z : Str) : Wk (Its z) z.cps.size (fun _ => True) (fun i => .str ⟨#[z.cps.toList.getD i 0]⟩) :=
  ⟨fun _ _ => Nat.le_refl _, fun _ _ _ h => h, fun i H x H' _ hi y => by
    obtain ⟨e, c, hc, rfl⟩ := y
    refine ⟨e, ?_⟩
    show V.str ⟨#[c]⟩ = V.str ⟨#[z.cps.toList.getD i 0]⟩
    rw [List.getD_eq_getElem?_getD, Array.getElem?_toList, hc]
    rfl⟩
/-- [f(x) for x in .. if b(x)], all of it leaving what stands -/
theorem lc_same {J : It} {n : Nat} {G : Hp → Prop} {item : Nat → V} (w : Wk J n G item) {i : Nat} {tt : TT} {te : TE} {E : Addr} (hn : n ≤ 1000) (hE : H1 E = none) (hG : ∀ H', Same H1 H' → G H') (b : Nat → Bool) (f : Nat → V)
    (ht : ∀ j, j < n → ∀ H', Same H1 H' → ∀ R : Bool → Hp → Prop, (∀ H'', Same H' H'' → R (b j) H'') → tt ((wipe σ [i]).set i (some (item j))) H' R)
    (he : ∀ j, j < n → b j = true → ∀ H', Same H1 H' → ∀ R : VK, (∀ H'', Same H' H'' → R (f j) H'') → te ((wipe σ [i]).set i (some (item j))) H' R)
    (hd : ∀ H', Same H1 H' → H' E = some (.lst (((List.range n).filter b).map f)) → Q (.ref E) H') : LcAt J (gName i) tt te [i] σ E H1 Q := by
  have small : ∀ m, m ≤ n → ((((List.range m).filter b).map f)).length ≤ m := fun m _ => by
    rw [List.length_map]
    exact Nat.le_trans (List.length_filter_le _ _) (Nat.le_of_eq List.length_range)
  refine ⟨fun k m H' => m = n - k ∧ k ≤ n ∧ Same H1 H' ∧ H' E = some (.lst (((List.range k).filter b).map f)), ⟨n, rfl, Nat.zero_le _, same_up hE (Same.refl H1), upd_same⟩, ?_⟩
  rintro k m H' ⟨rfl, hk, hs, hl⟩
  by_cases hlt : k < n
  · refine Or.inr ⟨w.go k H' (hG H' hs) hlt, fun H'' => Same H1 H'' ∧ H'' E = some (.lst (((List.range (k + 1)).filter b).map f)), fun H'' h => ⟨n - (k + 1), by omega, rfl, hlt, h.1, h.2⟩, fun x H2 hy => ?_⟩
    obtain ⟨rfl, rfl⟩ := w.yld k H' x H2 (hG H' hs) hlt hy
    refine ⟨wipe1 σ i _, ?_⟩
    refine ht k hlt H2 hs _ fun H3 s3 => ?_
    refine rd_ifb (fun hb => ?_) (fun hb => ?_)
    · refine he k hlt hb H3 (hs.trans s3) _ fun H4 s4 => ?_
      refine ⟨_, s4 _ _ (s3 _ _ hl), Nat.lt_of_le_of_lt (Nat.le_trans (small k (by omega)) (by omega : k ≤ 1000)) (by decide), same_up hE ((hs.trans s3).trans s4), ?_⟩
      rw [upd_same, List.range_succ, List.filter_append, List.map_append]
      simp [hb]
    · refine ⟨hs.trans s3, ?_⟩
      rw [s3 _ _ hl, List.range_succ, List.filter_append]
      simp [hb]
  · have e : k = n := by omega
    subst e
    exact Or.inl ⟨w.stop H' (hG H' hs), hd H' hs hl⟩
theorem rd_yes {R : Bool → Hp → Prop} (q : R true H) : tYes σ H R := q
theorem rd_bits {te : TE} (q : te σ H (fun x H1 => ∃ i, x = .int i ∧ Q (.int (Builtin.Int.intBits i : Nat)) H1)) : tBits te σ H Q := q
/-- [f(bag) for .. in range(n)]: each turn draws from the bag -/
theorem lc_bag {n i : Nat} {te : TE} {E a : Addr} (hn : n ≤ 1000) (hE : H1 E = none) (hb : BagAt H1 a) (P : V → Prop)
    (he : ∀ j, j < n → ∀ H', But a H1 H' → BagAt H' a → ∀ R : VK, (∀ v H'', P v → But a H' H'' → BagAt H'' a → R v H'') → te ((wipe σ [i]).set i (some (.int (0 + (j : Int))))) H' R)
    (hd : ∀ ys H', ys.length = n → (∀ y ∈ ys, P y) → But a H1 H' → BagAt H' a → H' E = some (.lst ys) → Q (.ref E) H') : LcAt (Itr 0 n) (gName i) tYes te [i] σ E H1 Q := by
  have nE : E ≠ a := fun z => by
    obtain ⟨_, _, _, e, _⟩ := hb
    rw [← z, hE] at e
    cases e
  refine ⟨fun k m H' => m = n - k ∧ k ≤ n ∧ ∃ ys : List V, ys.length = k ∧ (∀ y ∈ ys, P y) ∧ But a H1 H' ∧ BagAt H' a ∧ H' E = some (.lst ys), ⟨n, rfl, Nat.zero_le _, [], rfl, (fun _ z => nomatch z), But.new hE, BagAt.old hE hb, upd_same⟩, ?_⟩
  rintro k m H' ⟨rfl, hk, ys, hy, hP, bu, hb', hl⟩
  by_cases hlt : k < n
  · refine Or.inr ⟨hlt, fun H'' => ∃ ys : List V, ys.length = k + 1 ∧ (∀ y ∈ ys, P y) ∧ But a H1 H'' ∧ BagAt H'' a ∧ H'' E = some (.lst ys), fun H'' h => ⟨n - (k + 1), by omega, rfl, hlt, h⟩, fun x H2 hx => ?_⟩
    obtain ⟨rfl, rfl⟩ := hx
    refine ⟨wipe1 σ i _, ?_⟩
    refine rd_yes ?_
    refine rd_ifb (fun _ => ?_) (fun z => nomatch z)
    refine he k hlt H2 bu hb' _ fun v H3 hv b3 g3 => ?_
    refine ⟨ys, b3 _ _ nE hl, Nat.lt_of_le_of_lt (by omega : ys.length ≤ 1000) (by decide), ys ++ [v], by simp [hy], ?_, ?_, ?_, upd_same⟩
    · intro y hy
      rcases List.mem_append.mp hy with z | z
      · exact hP y z
      · cases List.mem_singleton.mp z
        exact hv
    · intro b o nb e
      rw [upd_ne (ne_of_none e hE)]
      exact b3 b o nb (bu b o nb e)
    · obtain ⟨g, m, c, e, r⟩ := g3
      exact ⟨g, m, c, up_oth nE.symm e, r⟩
  · have e : k = n := by omega
    subst e
    exact Or.inl ⟨Nat.le_refl _, hd ys H' hy hP bu hb' hl⟩
end
theorem pow10_abs (m : Nat) : ((10 : Int) ^ m).natAbs < 2 ^ (4 * m + 1) := by
  have h1 : ((10 : Int) ^ m).natAbs = 10 ^ m := by
    rw [Int.natAbs_pow]
    rfl
  rw [h1, Nat.pow_succ, Nat.pow_mul]
  have h2 : (10 : Nat) ^ m ≤ (2 ^ 4) ^ m := Nat.pow_le_pow_left (by decide) m
  have h3 : 0 < ((2 : Nat) ^ 4) ^ m := Nat.pow_pos (by decide)
  omega
theorem pow10_mul {a b : Nat} (h : a + b ≤ 100000) : CMulW ((10 : Int) ^ a) ((10 : Int) ^ b) := wide_mul (pow10_abs a) (pow10_abs b) (by omega) (by omega) (by omega)
end Lay
namespace Lay
open PySem PySem.Spec PyProof.Rows L2
theorem bits_short {i : Int} (h : Builtin.Int.intBits i ≤ 6000) : i.natAbs < 10 ^ 2000 := by
  have h1 : i.natAbs < 2 ^ 6000 := by
    unfold Builtin.Int.intBits at h
    by_cases z : i = 0
    · subst z
      exact Nat.pow_pos (by decide)
    · rw [if_neg (by simpa using z)] at h
      have z2 : i.natAbs ≠ 0 := by omega
      exact (Nat.log2_lt z2).mp (by omega)
  have h2 : (2 : Nat) ^ 6000 = (2 ^ 3) ^ 2000 := by rw [← Nat.pow_mul]
  have h3 : ((2 : Nat) ^ 3) ^ 2000 ≤ 10 ^ 2000 := Nat.pow_le_pow_left (by decide) 2000
  omega
end Lay
namespace Lay
open PySem PySem.Spec PyProof.Rows L2
section
variable {σ : L2.St} {H H1 : Hp} {Q : VK} {D : Ends} {K : PySem.W.Frag}
theorem rd_s {z : Str} {R : Str → Prop} (q : R z) : ∃ j, V.str z = V.str j ∧ R j := ⟨z, rfl, q⟩
theorem rd_r {p : Addr} {R : Addr → Prop} (q : R p) : ∃ a, V.ref p = V.ref a ∧ R a := ⟨p, rfl, q⟩
theorem rd_isi {v : V} {T n : String} {b : Bool} (ty : TyX K H v (.type T)) (hb : kitB T n = some b) (q : Q (.bl b) H) : rIsi K [v, .ty n] H Q := ⟨v, .ty n, _, _, b, rfl, ClsV.ty n, ty, kit_ty hb, q⟩
end
theorem range_getD {α : Type} (d : α) : ∀ l : List α, (List.range l.length).map (fun j => l.getD j d) = l := fun l => by
  apply List.ext_getElem?
  intro i
  rw [List.getElem?_map]
  by_cases h : i < l.length
  · rw [List.getElem?_range h]
    simp [List.getD_eq_getElem?_getD, h]
  · rw [List.getElem?_eq_none (by rw [List.length_range]; omega), List.getElem?_eq_none (by omega)]
    rfl
theorem range_all {α : Type} (d : α) (l : List α) (g : α → Bool) : (List.range l.length).all (fun j => g (l.getD j d)) = l.all g := by
  have e := range_getD d l
  calc (List.range l.length).all (fun j => g (l.getD j d)) = ((List.range l.length).map (fun j => l.getD j d)).all g := by rw [List.all_map]; rfl
    _ = l.all g := by rw [e]
theorem filt_yes {α : Type} (l : List α) : l.filter (fun _ => true) = l := List.filter_eq_self.mpr fun _ _ => rfl
end Lay
namespace Lay
open PySem PySem.Spec PyProof.Rows L2
section
variable {σ : L2.St} {H H1 : Hp} {Q : VK} {D : Ends} {K : PySem.W.Frag}
/-- a comprehension over anything that leaves what stands; S tells the slots of a turn -/
theorem lc_gen {J : It} {n : Nat} {G : Hp → Prop} {g : TG} {vs : List Nat} {tt : TT} {te : TE} {E : Addr} (Y : Nat → V → Hp → Prop) (S : Nat → L2.St → Hp → Prop)
    (stop : ∀ H', G H' → J.stop n H') (go : ∀ i H', G H' → i < n → J.go i H') (yld : ∀ i H' x H'', G H' → i < n → J.yld i H' x H'' → Same H' H'' ∧ Y i x H'')
    (hn : n ≤ 1000) (hE : H1 E = none) (hG : ∀ H', Same H1 H' → G H') (b : Nat → Bool) (f : Nat → V)
    (hg : ∀ j x H', j < n → Same H1 H' → Y j x H' → ∀ R : L2.St → Hp → Prop, (∀ σ2, wipe σ2 vs = wipe σ vs → S j σ2 H' → R σ2 H') → g x (wipe σ vs) H' R)
    (ht : ∀ j σ2 H', j < n → Same H1 H' → S j σ2 H' → ∀ R : Bool → Hp → Prop, (∀ H'', Same H' H'' → R (b j) H'') → tt σ2 H' R)
    (he : ∀ j σ2 H' H0, j < n → b j = true → S j σ2 H0 → Same H1 H' → Same H0 H' → ∀ R : VK, (∀ H'', Same H' H'' → R (f j) H'') → te σ2 H' R)
    (hd : ∀ H', Same H1 H' → H' E = some (.lst (((List.range n).filter b).map f)) → Q (.ref E) H') : LcAt J g tt te vs σ E H1 Q := by
  have small : ∀ m, m ≤ n → ((((List.range m).filter b).map f)).length ≤ m := fun m _ => by
    rw [List.length_map]
    exact Nat.le_trans (List.length_filter_le _ _) (Nat.le_of_eq List.length_range)
  refine ⟨fun k m H' => m = n - k ∧ k ≤ n ∧ Same H1 H' ∧ H' E = some (.lst (((List.range k).filter b).map f)), ⟨n, rfl, Nat.zero_le _, same_up hE (Same.refl H1), upd_same⟩, ?_⟩
  rintro k m H' ⟨rfl, hk, hs, hl⟩
  by_cases hlt : k < n
  · refine Or.inr ⟨go k H' (hG H' hs) hlt, fun H'' => Same H1 H'' ∧ H'' E = some (.lst (((List.range (k + 1)).filter b).map f)), fun H'' h => ⟨n - (k + 1), by omega, rfl, hlt, h.1, h.2⟩, fun x H2 hy => ?_⟩
    obtain ⟨s2, y2⟩ := yld k H' x H2 (hG H' hs) hlt hy
    refine hg k x H2 hlt (hs.trans s2) y2 _ fun σ2 hw hS => ⟨hw, ?_⟩
    refine ht k σ2 H2 hlt (hs.trans s2) hS _ fun H3 s3 => ?_
    refine rd_ifb (fun hb => ?_) (fun hb => ?_)
    · refine he k σ2 H3 H2 hlt hb hS ((hs.trans s2).trans s3) s3 _ fun H4 s4 => ?_
      refine ⟨_, s4 _ _ (s3 _ _ (s2 _ _ hl)), Nat.lt_of_le_of_lt (Nat.le_trans (small k (by omega)) (by omega : k ≤ 1000)) (by decide), same_up hE (((hs.trans s2).trans s3).trans s4), ?_⟩
      rw [upd_same, List.range_succ, List.filter_append, List.map_append]
      simp [hb]
    · refine ⟨(hs.trans s2).trans s3, ?_⟩
      rw [s3 _ _ (s2 _ _ hl), List.range_succ, List.filter_append]
      simp [hb]
  · have e : k = n := by omega
    subst e
    exact Or.inl ⟨stop H' (hG H' hs), hd H' hs hl⟩
/-! data -/
theorem dp_all {f : V → PyData} : ∀ {xs : List V}, (∀ x ∈ xs, Dp K H x (f x)) → DpAll K H xs (xs.map f)
  | [], _ => .nil
  | x :: xs, h => .cons (h x List.mem_cons_self) (dp_all fun y hy => h y (List.mem_cons_of_mem _ hy))
theorem rd_eqD {x y : V} {d e : PyData} (hd : Dp K H x d) (he : Dp K H y e) (sd : SeqAt.shaped d = true) (se : SeqAt.shaped e = true) (q : Q (.bl (PyData.eqv d e)) H) : rEqD K x y H Q := ⟨d, e, hd, he, sd, se, q⟩
end
theorem canAll_of {ds : List PyData} (h : ∀ d ∈ ds, d.canLay0 = true) : PyData.canLayAll0 ds = true := by
  induction ds with
  | nil => rfl
  | cons a l ih =>
    show (a.canLay0 && PyData.canLayAll0 l) = true
    rw [h a List.mem_cons_self, ih fun d hd => h d (List.mem_cons_of_mem _ hd)]
    rfl
theorem depthAll_of {ds : List PyData} {n : Nat} (h : ∀ d ∈ ds, d.depth ≤ n) : PyData.depthAll ds ≤ n := by
  induction ds with
  | nil => exact Nat.zero_le _
  | cons a l ih =>
    show max a.depth (PyData.depthAll l) ≤ n
    exact Nat.max_le.mpr ⟨h a List.mem_cons_self, ih fun d hd => h d (List.mem_cons_of_mem _ hd)⟩
/-- a list of flat data -/
theorem shaped_list {ds : List PyData} (h : ∀ d ∈ ds, d.canLay0 = true ∧ d.depth = 0) : SeqAt.shaped (.list ds) = true := by
  show (PyData.canLayAll0 ds && decide (PyData.depthAll ds + 1 ≤ 64)) = true
  rw [canAll_of fun d hd => (h d hd).1]
  have := depthAll_of (n := 0) fun d hd => Nat.le_of_eq (h d hd).2
  rw [decide_eq_true (by omega)]
  rfl
/-- the signs of a text are signs -/
def Sok (z : Str) : Prop := ∀ c ∈ z.cps.toList, c < 1114112
theorem Sok.ok {z : Str} (h : Sok z) : (PyData.str z).canLay0 = true := by
  show z.cps.all (· < 0x110000) = true
  rw [Array.all_eq_true_iff_forall_mem]
  intro c hc
  exact decide_eq_true (h c (Array.mem_toList_iff.mpr hc))
theorem sok_one {c : Nat} (h : c < 1114112) : Sok ⟨#[c]⟩ := fun x hx => by
  have e : x = c := by simpa using hx
  rw [e]
  exact h
theorem eqv_nil (ds : List PyData) : PyData.eqv (.list ds) (.list []) = ds.isEmpty := by
  cases ds <;> rfl
end Lay
namespace Lay
open PySem PySem.Spec PyProof.Rows L2
section
variable {K : PySem.W.Frag} {H H' : Hp}
theorem sqT_same {a : Addr} {xs : List V} (e : Same H H') (h : SqT K H a xs) : SqT K H' a xs := by
  rcases h with (h | ⟨o, h⟩) | h
  · exact Or.inl (Or.inl (e _ _ h))
  · exact Or.inl (Or.inr ⟨o, e _ _ h⟩)
  · exact Or.inr h
mutual
theorem dp_same (s : Same H H') : ∀ (d : PyData) (v : V), Dp K H v d → Dp K H' v d
  | .none, _, h => by cases h; exact .non
  | .bool b, _, h => by cases h; exact .bl b
  | .int i, _, h => by cases h; exact .int i
  | .str x, _, h => by cases h; exact .str x
  | .list ds, _, h => by
    cases h with
    | lst hs ha => exact .lst (s.seq hs) (dpAll_same s ds _ ha)
  | .tuple ds, _, h => by
    cases h with
    | tup hs ha => exact .tup (sqT_same s hs) (dpAll_same s ds _ ha)
  | .dict _, _, h => by cases h
theorem dpAll_same (s : Same H H') : ∀ (ds : List PyData) (vs : List V), DpAll K H vs ds → DpAll K H' vs ds
  | [], _, h => by cases h; exact .nil
  | d :: ds, _, h => by
    cases h with
    | cons h1 h2 => exact .cons (dp_same s d _ h1) (dpAll_same s ds _ h2)
end
theorem dp_allJ {α : Type} {f : α → V} {g : α → PyData} : ∀ {l : List α}, (∀ j ∈ l, Dp K H (f j) (g j)) → DpAll K H (l.map f) (l.map g)
  | [], _ => .nil
  | x :: xs, h => .cons (h x List.mem_cons_self) (dp_allJ fun y hy => h y (List.mem_cons_of_mem _ hy))
theorem dpAll_len : ∀ {vs : List V} {ds : List PyData}, DpAll K H vs ds → vs.length = ds.length
  | _, _, .nil => rfl
  | _, _, .cons _ t => congrArg (· + 1) (dpAll_len t)
theorem dpAll_get : ∀ {vs : List V} {ds : List PyData}, DpAll K H vs ds → ∀ i, i < vs.length → Dp K H (vs.getD i .non) (ds.getD i .none) ∧ ds.getD i .none ∈ ds
  | _, _, .cons h t, 0, _ => ⟨h, List.mem_cons_self⟩
  | _, _, .cons h t, i + 1, hi => by
    have z := dpAll_get t i (Nat.lt_of_succ_lt_succ hi)
    exact ⟨z.1, List.mem_cons_of_mem _ z.2⟩
end
theorem shaped_listN {ds : List PyData} {n : Nat} (hn : n ≤ 60) (h : ∀ d ∈ ds, d.canLay0 = true ∧ d.depth ≤ n) : SeqAt.shaped (.list ds) = true := by
  show (PyData.canLayAll0 ds && decide (PyData.depthAll ds + 1 ≤ 64)) = true
  rw [canAll_of fun d hd => (h d hd).1]
  have := depthAll_of (n := n) fun d hd => (h d hd).2
  rw [decide_eq_true (by omega)]
  rfl
end Lay
namespace Lay
open PySem PySem.Spec PyProof.Rows L2
def rJoin (K : PySem.W.Frag) : V → List V → Hp → VK → Prop := fun x xs H Q => ∃ a p, ∃ ys : List Str, x = .str a ∧ xs = [.ref p] ∧ (SqL K H p (ys.map V.str) ∨ SqT K H p (ys.map V.str)) ∧
      (ys.map (·.length)).sum + ys.length * a.length ≤ 16777216 ∧ Q (.str (Txt.join a ys)) H
theorem q_join {X : Cx} {o e : Expr} {to te : TE} {apos pos : Pos} (ho : PE X o to) (he : PE X e te) (hs : starEach [e] X.env = [(false, eval e X.env)] := by rfl) (hbase : attributeBase o "join" X.env (eval o X.env) = eval o X.env := by rfl) (hline : (apos.endLine == pos.line) = true := by rfl) :
    PE X (.Call (.Attribute o "join" apos) [e] [] pos) (tM1 (rJoin X.K) to te) := pe_join ho he hs hbase hline
section
variable {σ : L2.St} {H : Hp} {Q : VK} {K : PySem.W.Frag}
theorem rd_M1 {r : V → List V → Hp → VK → Prop} {to te : TE} (q : to σ H (fun x H1 => (∃ a, x = .str a) ∧ te σ H1 fun y H2 => r x [y] H2 Q)) : tM1 r to te σ H Q := q
theorem rd_isS {z : Str} {B : Prop} (q : B) : (∃ a, V.str z = V.str a) ∧ B := ⟨⟨z, rfl⟩, q⟩
theorem rd_join {a : Str} {p : Addr} {ys : List Str} (h : SqL K H p (ys.map V.str)) (hz : (ys.map (·.length)).sum + ys.length * a.length ≤ 16777216) (q : Q (.str (Txt.join a ys)) H) : rJoin K (.str a) [.ref p] H Q := ⟨a, p, ys, rfl, rfl, Or.inl h, hz, q⟩
end
/-- texts of one sign each, glued -/
theorem join_ones {ys : List Str} (h : ∀ y ∈ ys, y.length = 1 ∧ Sok y) : (ys.map (·.length)).sum = ys.length ∧ (Txt.join ("" : Str) ys).length = ys.length ∧ Sok (Txt.join ("" : Str) ys) := by
  have e0 : TL.tl ("" : Str) = [] := by decide +kernel
  have key : TL.tl (Txt.join ("" : Str) ys) = (ys.map TL.tl).flatten := by
    rw [TL.join_eq, TL.tl_join, e0]
    clear h
    induction ys with
    | nil => rfl
    | cons y r ih =>
      cases r with
      | nil =>
        show TL.tl y = TL.tl y ++ []
        rw [List.append_nil]
      | cons z r =>
        show TL.tl y ++ ([] ++ TL.joinL [] ((z :: r).map TL.tl)) = TL.tl y ++ ((z :: r).map TL.tl).flatten
        rw [← ih]
        rfl
  refine ⟨?_, ?_, ?_⟩
  · clear key
    induction ys with
    | nil => rfl
    | cons y r ih =>
      rw [List.map_cons, List.sum_cons, ih fun z hz => h z (List.mem_cons_of_mem _ hz), (h y List.mem_cons_self).1, List.length_cons]
      omega
  · have e : (Txt.join ("" : Str) ys).length = (TL.tl (Txt.join ("" : Str) ys)).length := by simp [Str.length, TL.tl]
    rw [e, key]
    clear key e
    induction ys with
    | nil => rfl
    | cons y r ih =>
      have e1 : (TL.tl y).length = 1 := by
        have := (h y List.mem_cons_self).1
        simpa [Str.length, TL.tl] using this
      rw [List.map_cons, List.flatten_cons, List.length_append, ih fun z hz => h z (List.mem_cons_of_mem _ hz), e1, List.length_cons]
      omega
  · intro c hc
    have hc : c ∈ TL.tl (Txt.join ("" : Str) ys) := hc
    rw [key] at hc
    obtain ⟨l, hl, hcl⟩ := List.mem_flatten.mp hc
    obtain ⟨y, hy, rfl⟩ := List.mem_map.mp hl
    exact (h y hy).2 c hcl
end Lay
namespace Lay
open PySem PySem.Spec PyProof.Rows L2
theorem rd_disp1 {σ : L2.St} {H : Hp} {Q : VK} {tk tv : TE} (q : ∀ p, H p = none → tk σ (upd H p (.dK [])) fun kx H1 => tv σ H1 fun vx H2 => H2 p = some (.dK []) ∧ ∃ kvs : List (Key × V), [(kx, vx)] = kvs.map (fun kv => (kV kv.1, kv.2)) ∧ kvs.length ≤ 15 ∧ Q (.ref p) (upd H2 p (.dK (mergeK [] kvs)))) : tDisp [(tk, tv)] σ H Q := q
theorem rd_dnew {σ : L2.St} {H : Hp} {Q : VK} (q : ∀ p, H p = none → Q (.ref p) (upd H p (.dK []))) : tDNewK σ H Q := q
end Lay
namespace Lay
open PySem PySem.Spec PyProof.Rows L2
section
variable {σ : L2.St} {H : Hp} {Q : VK} {K : PySem.W.Frag}
theorem rd_zipA {ta : TA} {R : It → Hp → Prop} (q : ta σ H (fun vs H1 => ∃ a b xs ys, vs = [.ref a, .ref b] ∧ ((SqL K H1 a xs ∧ SqL K H1 b ys ∧ R (Itz K a b) H1) ∨ (SqT K H1 a xs ∧ SqT K H1 b ys ∧ R (RZ.ItzT K a b) H1)))) : RZ.iZipA K ta σ H R := q
theorem rd_BM {T : String} {r : V → List V → Hp → VK → Prop} {to : TE} {t : TA} (q : to σ H (fun x H1 => tyV K T x H1 ∧ t σ H1 fun xs H2 => r x xs H2 Q)) : tBM K T r to t σ H Q := q
theorem rd_tyL {p : Addr} {xs : List V} {B : Prop} (h : H p = some (.lst xs)) (q : B) : tyV K "list" (.ref p) H ∧ B := ⟨Or.inl ⟨rfl, xs, SqL.of h⟩, q⟩
theorem rd_app {l : Addr} {xs : List V} {y : V} (h : H l = some (.lst xs)) (hl : xs.length ≤ 1000) (q : Q .non (upd H l (.lst (xs ++ [y])))) : rAppend (.ref l) [y] H Q := ⟨l, xs, y, rfl, rfl, h, Nat.lt_of_le_of_lt hl (by decide), q⟩
theorem rd_repr {a : Addr} {d : PyData} (hd : Dp K H (.ref a) d) (h1 : d.showable = true) (h2 : d.hasDict = false) (h3 : d.depth ≤ 20) (h4 : d.shown.length ≤ sizeLine) (q : Q (.str d.shown) H) : rRepr K [.ref a] H Q := ⟨a, d, rfl, hd, h1, h2, h3, h4, q⟩
theorem rd_inT {x : V} {p : Addr} {xs : List V} (h : SqT K H p xs) (h1 : flatV x = true) (h2 : xs.all flatV = true) (q : Q (.bl (inV x xs)) H) : rIn K false x (.ref p) H Q := ⟨p, xs, rfl, Or.inr h, h1, h2, q⟩
end
theorem cut_drop1 (xs : List V) : cutV xs (some 1) none = xs.drop 1 := by
  have e0 : HT.sIx xs.length 0 (some 1) = min 1 xs.length := HT.sIx_nat xs.length 0 1
  have e1 : HT.sIx xs.length xs.length none = xs.length := HT.sIx_none _ _
  unfold cutV
  rw [e0, e1]
  cases xs with
  | nil => rfl
  | cons x r =>
    have e2 : min 1 (x :: r).length = 1 := by rw [List.length_cons]; omega
    rw [e2, List.length_cons]
    show (r.take (r.length + 1 - 1)) = r
    rw [Nat.add_sub_cancel, List.take_length]
/-- t[1:], a tuple -/
theorem rd_slA1 {K : PySem.W.Frag} {H : Hp} {Q : VK} {a : Addr} {xs : List V} (h : H a = some (.tup xs)) (q : ∀ p H', Same H H' → H' p = some (.tup (xs.drop 1)) → Q (.ref p) H') : rSlA K (.ref a) (some 1) none H Q := by
  refine ⟨a, xs, rfl, SqT.of h, fun c => ?_, fun c p hp => ?_⟩
  · refine q a H (Same.refl H) ?_
    have e0 : HT.sIx xs.length 0 (some 1) = min 1 xs.length := HT.sIx_nat xs.length 0 1
    rw [e0] at c
    have : xs = [] := by
      cases xs with
      | nil => rfl
      | cons x r =>
        rw [List.length_cons] at c
        omega
    subst this
    exact h
  · rw [cut_drop1]
    exact q p _ (fun b o e => up_old hp e) upd_same
end Lay
/-! LayE: several clauses `except X as n`, the exception's context kept as None (so that defs may be called in the suites). -/
namespace Lay
open PySem PySem.Spec PyProof.Rows L2
/-- what the clauses wish, one behind the other; the name stands in slot i -/
def wAll (K : PySem.W.Frag) (i : Nat) (Wout : WX) (D : Ends) : List (Value × (Addr → Value → Option Addr → TS)) → WX
  | [] => Wout
  | (c, ts) :: r => wAs K c i ts (wAll K i Wout D r) D
/-- the clauses, each with its class and the reading of its suite -/
inductive Clauses (X : Cx) (n : Str) : List ExceptHandler → List (Value × (Addr → Value → Option Addr → TS)) → Prop
  | nil : Clauses X n [] []
  | cons {x : Str} {c : Value} {ts : Addr → Value → Option Addr → TS} {s₀ : Stmt} {ss : List Stmt} {p1 p2 : Pos} {hs : List ExceptHandler} {l : List (Value × (Addr → Value → Option Addr → TS))} (nm : Names X x c)
      (su : ∀ (a : Addr) (oe : Obj) (cls : Value) (d : Option Addr) (pn : List (Addr × Obj)), L2N.Zn cls d oe → (∃ vs, oe.data = .fields vs) → PSs (X.suite a ((a, oe) :: pn)) (s₀ :: ss) (ts a cls d)) (r : Clauses X n hs l) :
      Clauses X n (.ExceptHandler (some (.Name x p1)) (some n) (s₀ :: ss) p2 :: hs) ((c, ts) :: l)
section
variable {X : Cx} {n : Str} {i : Nat} {Wout : WX}
/-- one clause after the other is asked; a is the exception, h3 the heap in which it has landed -/
theorem clauses_run (hst : X.stack = X.env :: X.outer) (hfm : X.env.frame = some X.env.locals) (hN : X.N.Nodup) (hi : X.N[i]? = some n) (hln : X.env.kindOf n = some .local) (tk : L2N.Takes X Wout) {D : Ends} {pins : List (Addr × Obj)} {σ' : L2.St} {H' : Hp} {sI s' : Shared} {a : Addr} {B : Heap} {cls : Value} {d : Option Addr} {h3 : Heap}
    (J : Inv X pins σ' H' sI) (nb : ∀ b o, sI.heap.get? b = some o → b ∉ frs X.stack → B.get? b = some o) (up : sI.heap.UpToSlots s'.heap) (up3 : s'.heap.UpToSlots h3) (fl : HandSPX.FlyingZ B (X.env :: X.outer) a (L2N.Zn cls d) h3) (na : H' a = none) (os : s'.os = sI.os) (ag : AllBare s'.gens)
    (nL : a ≠ X.env.locals) (nF : a ∉ X.fs) : ∀ {hs : List ExceptHandler} {l : List (Value × (Addr → Value → Option Addr → TS))}, Clauses X n hs l → wAll X.K i Wout D l cls d σ' H' →
      wpAny (model X.prog X.w) X.A (handleBy (.ref a) X.env hs) (SP X pins D) X.xe { s' with heap := h3 } := by
  have ok := J.ok
  obtain ⟨o3, v3, g3, z3, f3⟩ := fl.there
  have Jl : ∀ {h : Heap}, B.StaysIn h → s'.heap.UpToSlots h → Inv X pins σ' H' { s' with heap := h } := fun {h} st u => J.landed (s' := { s' with heap := h }) nb st (up.trans u) os ag
  have S := (Jl fl.1 up3).suite g3 f3 na nL nF
  have what : PySem.W.Looks (model X.prog X.w) h3 (typeOf (.ref a)) cls := fun _ _ _ _ keep q => wpAny_typeOf_ref (keep _ _ g3) (by rw [z3.1]; exact q)
  intro hs l cl
  induction cl with
  | nil =>
    intro wish
    refine wpAny_handleBy_nil ?_
    obtain ⟨_, _, _, oe, vs, T, oT, tsx, he, hz, hd, h1, hr⟩ := id fl
    unfold PySem.passOn
    refine wpAny_bind (wpAny_field he hd h1 ?_)
    rw [if_neg (show ¬((Value.ref T == Value.none) = true) by simp)]
    have out : wpAny (model X.prog X.w) X.A (setFlight (.ref a) X.env.frame) (fun _ s4 => wpAny (model X.prog X.w) X.A (throw (.ref a) : Sem Flow) (SP X pins D) X.xe s4) X.xe { s' with heap := h3 } := by
      rw [hfm]
      exact HandSPX.setFlight_upZ fl fun h4 hh4 up4 => wpAny_throw (tk _ _ ⟨a, B, sI, pins, σ', H', cls, d, rfl, J, nb, (up.trans up3).trans up4, .inr (.inr (by rw [hst]; exact hh4)), na, os, ag, wish⟩)
    first | exact wpAny_bind (wpAny_pure (wpAny_bind out)) | exact wpAny_bind out
  | @cons x c ts s₀ ss p1 p2 hs2 l2 nm su r ih =>
    intro wish
    obtain ⟨b, e, yes, no⟩ := wish
    refine wpAny_handleBy_cons (codeAny_handlers_test ?_) (by intro q; cases q)
    have look := PySem.W.exm_one (M := model X.prog X.w) (Jl fl.1 up3).kIn what e
    have ask : ∀ {Q E : Value → Shared → Prop}, Q c { s' with heap := h3 } → wpAny (model X.prog X.w) (X.A.mark (some (.ref a))) (eval (.Name x p1) X.env) Q E { s' with heap := h3 } := fun {Q E} q => by
      obtain ⟨hg, hdb, hm | ⟨hm, hv, hne⟩⟩ := nm
      · exact ld_glob (X := X.suite a ((a, o3) :: (X.pn ++ pins))) S hg hm q hdb
      · exact ld_blt (X := X.suite a ((a, o3) :: (X.pn ++ pins))) S hg hm hv q hne hdb
    refine ask (look.here ?_)
    cases b with
    | false => exact ih (no rfl)
    | true =>
      refine codeAny_handlers_suite_as (HandSPX.lands_againZ fl fun h4 fl4 up4 => ?_)
      obtain ⟨o4, v4, g4, z4, f4⟩ := fl4.there
      have S4 := (Jl fl4.1 (up3.trans up4)).suite g4 f4 na nL nF
      refine store_ok (X := X.suite a ((a, o4) :: (X.pn ++ pins))) (v := .ref a) S4 hN hi (.inl hln) rfl (fun s5 S5 => ?_) (.inr hln)
      refine wpAny_mono ((su a o4 cls d (X.pn ++ pins) z4 ⟨_, f4⟩).run [] s5 _ H' _ S5 (yes rfl a na)) (fun f s6 sp => ?_) (fun _ _ z => z.elim)
      have gone : ∀ {σ6 : L2.St} {H6 : Hp} {Q : Shared → Prop}, Inv (X.suite a ((a, o4) :: (X.pn ++ pins))) [] σ6 H6 s6 → (∀ s7, Inv X pins (σ6.set i none) H6 s7 → Q s7) →
          wpAny (model X.prog X.w) X.A (do bindName X.env n .none; unbindBehindTheSuite X.env n p2) (fun _ s7 => Q s7) X.xe s6 := fun S6 hq => gone_ok (S6.unsuite ok) hN hi hln hq
      cases f with
      | next => exact match sp with | ⟨_, _, S6, q6⟩ => gone S6 fun s7 J7 => ⟨_, _, J7, q6⟩
      | brk => exact match sp with | ⟨_, _, S6, q6⟩ => gone S6 fun s7 J7 => ⟨_, _, J7, q6⟩
      | cont => exact match sp with | ⟨_, _, S6, q6⟩ => gone S6 fun s7 J7 => ⟨_, _, J7, q6⟩
      | ret u => exact match sp with | ⟨_, _, _, S6, r6, q6⟩ => gone S6 fun s7 J7 => ⟨_, _, _, J7, r6, q6⟩
/-- try: .. except X as n: .. except Y as n: .. -/
theorem ps_try_all {body : List Stmt} {h₀ : ExceptHandler} {hds : List ExceptHandler} {l : List (Value × (Addr → Value → Option Addr → TS))} {pos : Pos} {tb : WX → TS} (hst : X.stack = X.env :: X.outer) (hfm : X.env.frame = some X.env.locals) (hN : X.N.Nodup) (hi : X.N[i]? = some n) (hln : X.env.kindOf n = some .local) (tk : L2N.Takes X Wout)
    (hb : ∀ (W : WX) (pn : List (Addr × Obj)) (xe : Value → Shared → Prop), L2N.Takes (X.tr pn xe) W → PassesOwn (model X.prog X.w) X.A X.env xe → PSs (X.tr pn xe) body (tb W))
    (hh : Clauses X n (h₀ :: hds) l) : PS X (.Try body (h₀ :: hds) [] [] pos) (fun D σ H => tb (wAll X.K i Wout D l) D σ H) := by
  refine ⟨fun pins s σ H D I h => wpAny_Try_except ?_⟩
  have ok := I.ok
  have hfr : X.A.frames = some (X.env :: X.outer) := by rw [ok.frames, hst]
  have B1 := hb (wAll X.K i Wout D l) (X.pn ++ pins) (fun e s₁ => wpAny (model X.prog X.w) X.A (noteFrame e X.env) (fun _ s₂ => wpAny (model X.prog X.w) X.A (setFlight e none) (fun _ s₃ => wpAny (model X.prog X.w) X.A (handleBy e X.env (h₀ :: hds)) (SP X pins D) X.xe s₃) X.xe s₂) X.xe s₁)
    (fun u s' xx => ?_) PassesOwn.looking
  · refine wpAny_mono (B1.run [] s σ H D (I.toTry _) h) (fun f s1 sp => ?_) (fun _ _ z => z)
    cases f with
    | next => exact match sp with | ⟨_, _, J', q⟩ => wpAny_execs_nil ⟨_, _, J'.ofTry ok, q⟩
    | brk => exact match sp with | ⟨_, _, J', q⟩ => ⟨_, _, J'.ofTry ok, q⟩
    | cont => exact match sp with | ⟨_, _, J', q⟩ => ⟨_, _, J'.ofTry ok, q⟩
    | ret u => exact match sp with | ⟨_, _, _, J', r, q⟩ => ⟨_, _, _, J'.ofTry ok, r, q⟩
  · obtain ⟨a, B, sI, pins', σ', H', cls, d, rfl, J', nb, up, sky, na, os, ag, wish⟩ := xx
    have J := J'.ofTry (pins := pins) ok
    have sky' : Sky B (X.env :: X.outer) a (L2N.Zn cls d) X.env.locals s'.heap := by rw [← hst]; exact sky
    refine L2N.Sky.land L2N.Zn.steady hfr hfm sky' fun h3 fl up3 => ?_
    obtain ⟨oe, vs, he, hz, hd⟩ := fl.there
    have away : a ∉ frs (X.env :: X.outer) := fun hm => by
      obtain ⟨_, o', e', hnf⟩ := fl.2.2.1.mem hm
      rw [he] at e'
      cases e'
      exact hnf _ hd
    refine clauses_run hst hfm hN hi hln tk J nb up up3 fl na os ag (fun z => away (List.mem_filterMap.mpr ⟨X.env, List.mem_cons_self, by rw [hfm, z]⟩)) (fun hm => ?_) hh wish
    obtain ⟨e, he2, q⟩ := List.mem_filterMap.mp hm
    exact away (List.mem_filterMap.mpr ⟨e, List.mem_cons_of_mem _ he2, q⟩)
end
end Lay
/-! LayF: a def that is given the exception at hand, from an except suite. -/
namespace Lay
open PySem PySem.Spec PyProof.Rows L2 L2H
/-- the exception at hand as an argument: sp is told which object it is -/
structure FnE (P : Program) (w : World) (K : PySem.W.Frag) (mg : Str → Option Value) (base : Heap) (k : Nat) (f : Addr) (fd : FuncData) (ps : List Str) (sp : Addr → Value → Option Addr → Sp) : Prop where
  many : ∀ a cls d vs H Q E, sp a cls d vs H Q E → vs.length = ps.length
  goes : ∀ (A : Around) (outer : List Env) (s : Shared) (H : Hp) (args : Args) (us : List Value) (vs : List V) (Q : VK) (p : Addr × Obj) (cls : Value) (d : Option Addr), RoomH k A → Hot1 A p → L2N.Zn cls d p.2 → (∃ vs, p.2.data = .fields vs) → PinOk outer H s p → Env0 P w K mg base A outer s H → BindsTo s fd args (ps.zip us) → Vals vs us → sp p.1 cls d vs H Q E0 →
    codeAny (model P w) A (.call (.ref f) args) (CR CX0 outer P w H s Q E0) s
theorem hot_def {P : Program} {w : World} {K : PySem.W.Frag} {mg : Str → Option Value} {base : Heap} {x qual : Str} {st : Stmt} {f : Addr} {fd : FuncData} {N ps : List Str} {k : Nat} {sp : Addr → Value → Option Addr → Sp} (F : Fun K x qual st f fd) (S : FnScope N ps (defScope st))
    (many : ∀ a cls d vs H Q E, sp a cls d vs H Q E → vs.length = ps.length)
    (body : ∀ (cdv : Value) (A : Around) (outer : List Env) (s : Shared) (H : Hp) (vs : List V) (Q : VK) (p : Addr × Obj) (cls : Value) (d : Option Addr), Hot1 A p → L2N.Zn cls d p.2 → (∃ vs, p.2.data = .fields vs) → RoomH k (A.deeper (envOfC qual (defScope st) s.heap.objs.size f cdv)) → sp p.1 cls d vs H Q E0 →
      ∃ t, PSs (cxH CX0 P w K mg base N qual (defScope st) f cdv A outer s H E0 p).nox (defBody st) t ∧ t { nx := fun _ H' => Q .non H', rt := Q } (start N vs) H) :
    FnE P w K mg base (k + 1) f fd ps sp := by
  obtain ⟨oc, od, kV, doc, pm, an, cdv, ct, osl, rfl, lk, hcd⟩ := F.ex
  refine ⟨many, fun A outer s H args us vs Q p cls d hr hot hz hf pin he hb hv hs => ?_⟩
  have hl := many _ _ _ _ _ _ _ hs
  have KX : K.In s.heap := he.mod.kin.keeps fun b o e => (he.bs b o e).1
  have lim : s.heap.NoLimit := he.mod.nolimit.keeps fun b o e => (he.bs b o e).1
  have kinds : ∀ y ∈ ps.zip us, (defScope st).names.lookup y.1 = some .local ∨ ((defScope st).names.lookup y.1 = some .cell ∧ ((cellsFrom (s.heap.objs.size + 1) (defScope st).names []).lookup y.1).isSome = true) := by
    intro y hy
    rcases S.par y.1 (List.of_mem_zip hy).1 with q | q
    · exact Or.inl q
    · exact Or.inr ⟨q, PySem.W.cellsFrom_some _ _ _ (Or.inl q)⟩
  apply codeAny_call_function hr.depth (KX _ _ lk) rfl S.co S.gen rfl (PySem.W.codeRec_of KX hcd)
  apply hb
  apply wpAny_newFunctionEnv_cells S.kind kinds
  intro env henv s1 x1
  subst henv
  refine ⟨lim.keeps x1.toInCall.keep, ?_⟩
  apply codeAny_func
  obtain ⟨t, ht, q0⟩ := body cdv A outer s H vs Q p cls d hot hz hf (hr.deeper _) hs
  have I : Inv (cxH CX0 P w K mg base N qual (defScope st) f cdv A outer s H E0 p) [] (start N vs) H s1 := inv_startH S pin he hl hv x1
  refine wpAny_mono (ht.nox.run [] s1 (start N vs) H _ I q0) (fun fl s2 h2 => ?_) (fun e s2 h2 => h2)
  cases fl with
  | next =>
    obtain ⟨a, b, J, z⟩ := h2
    exact ⟨V.non, b, J.os, J.bare, J.base, J.hok, rfl, z⟩
  | ret u =>
    obtain ⟨v, a, b, J, rv, z⟩ := h2
    exact ⟨v, b, J.os, J.bare, J.base, J.hok, rv, z⟩
  | brk => exact match h2 with | ⟨_, _, _, z⟩ => z.elim
  | cont => exact match h2 with | ⟨_, _, _, z⟩ => z.elim
section
variable {X : Cx} {k : Nat} {f : Addr} {fd : FuncData} {ps : List Str} {sp : Addr → Value → Option Addr → Sp} {x : Str} {p : Addr × Obj} {cls : Value} {d : Option Addr} {q pos : Pos} {e : Expr} {es : List Expr} {t : TA}
/-- f(e, ..) in a suite, p the exception at hand -/
theorem hcall (F : FnE X.prog X.w X.K X.mg X.base k f fd ps sp) (hr : RoomH k X.A) (hot : Hot1 X.A p) (hz : L2N.Zn cls d p.2) (hf : ∃ vs, p.2.data = .fields vs) (hp : p ∈ X.pn) (hg : Gl X x) (hm : X.mg x = some (.ref f)) (hk : PySem.W.keepIn X.K (.ref f) = true) (hb : Binds X.K fd ps [])
    (ha : PA X (e :: es) t) (hdb : (x == ("__debug__" : Str)) = false := by decide) (he : starEach (e :: es) X.env = (false, eval e X.env) :: starEach es X.env := by rfl) (hpl : (backTo pos (starEach es X.env)).any (·.1) = false := by rfl) :
    PE X (.Call (.Name x q) (e :: es) [] pos) (tCl (sp p.1 cls d) t) := by
  refine ⟨fun pins s σ H Q I h => wpAny_Call_Name_kw (ld_glob I hg hm ?_ hdb)⟩
  refine PySem.W.callWith_K (h₀ := X.base) I.ok.mod.kin hk (thn (ha.run pos pins s σ H _ I h) ?_) he hpl
  rintro us s1 ⟨vs, H1, I1, r, z⟩
  refine ⟨I1.kIn, ?_⟩
  have hl : (us ++ []).length = ps.length := by
    rw [List.append_nil, ← r.length]
    exact F.many _ _ _ _ _ _ _ z
  have bb := hb s1 us I1.kIn hl
  rw [List.append_nil] at bb
  have P1 := I1.pin p (List.mem_append_left _ hp)
  have pin : PinOk X.stack H1 s1 p := ⟨P1.1, P1.2.1, fun hm2 => (List.mem_cons.mp (I1.stkSub p.1 hm2)).elim P1.2.2.1 P1.2.2.2.1, P1.2.2.2.2⟩
  refine wpAny_call (codeAny_mono (F.goes X.A X.stack s1 H1 ⟨us, []⟩ us vs Q p cls d hr hot hz hf pin I1.env0 bb r z) fun res s2 hh => ?_)
  cases res with
  | error z => exact False.elim hh
  | ok fl =>
    cases fl with
    | ret u => exact I1.after hh
    | next => exact False.elim hh
    | brk => exact False.elim hh
    | cont => exact False.elim hh
/-- isinstance(e, C), e the exception at hand: its class is at D, its dict at d or it has none -/
def rIsP (K : PySem.W.Frag) (a : Addr) (cls : Value) (d : Option Addr) : List V → Hp → VK → Prop := fun xs H Q => ∃ (c : V) (cv : Value) (D : Addr) (b : Bool), xs = [.ref a, c] ∧ ClsV c cv ∧ ExcC K D ∧ cls = .ref D ∧
  (∀ dd, d = some dd → ∃ fs, H dd = some (.xd fs)) ∧ PySem.W.kitOne K (.ref D) cv = some b ∧ Q (.bl b) H
theorem call_isP (hp : p ∈ X.pn) (hz : L2N.Zn cls d p.2) (hf : ∃ vs, p.2.data = .fields vs) : CallR X (.builtin "isinstance") (rIsP X.K p.1 cls d) := by
  intro pins s σ H xs us Q I r h
  obtain ⟨c, cv, D, b, rfl, hcv, T, ec, hd, e, z⟩ := h
  obtain ⟨vs, hv⟩ := hf
  have hcl : p.2.cls = .ref D := hz.1.trans ec
  have hdi : p.2.dict = d := hz.2.1
  obtain ⟨u1, u2, rfl, r1, r2⟩ := vals2 r
  have e2 := hcv.eq r2
  subst e2
  cases (show u1 = Value.ref p.1 from r1)
  have get := (I.pin p (List.mem_append_left _ hp)).1
  have no : PySem.W.notCls p.2 = true := by
    unfold PySem.W.notCls
    rw [hv]
  have isc : (PySem.W.clsIn X.K D).isSome = true := by
    obtain ⟨cd, hc, _⟩ := PySem.W.any_some T.hd
    rw [hc]
    rfl
  have J : ∃ od, PySem.W.InstAt s.heap p.1 p.2 D od := by
    cases hx : p.2.dict with
    | none => exact ⟨none, get, hcl, no, by rw [hx]; exact True.intro⟩
    | some d0 =>
      obtain ⟨fs, hf⟩ := hd d0 (hdi.symm.trans hx)
      obtain ⟨mA, hns, _⟩ := (show ObjOk X.prog X.w H s.heap d0 (.xd fs) from I.hok d0 _ hf)
      obtain ⟨od, ho, _⟩ := lookIn_ns hns
      exact ⟨some od, get, hcl, no, by rw [hx]; exact ho⟩
  obtain ⟨od, J⟩ := J
  exact PySem.W.kia_one (PySem.W.kitx_exc isc T.hg T.hk T.hs T.ha T.hn T.ht T.hm) I.kIn J e (fun z => nomatch z) fun tk => ⟨.bl b, H, I.tok tk, rfl, z⟩
end
theorem hot_suite {X : Cx} {a : Addr} {oe : Obj} {cls : Value} {d : Option Addr} {pn : List (Addr × Obj)} (hz : L2N.Zn cls d oe) (hf : ∃ vs, oe.data = .fields vs) : Hot1 (X.suite a pn).A (a, oe) := by
  obtain ⟨vs, hv⟩ := hf
  exact ⟨rfl, vs, hv, hz.2.2 vs hv⟩
end Lay
/-! LayG: making an error of an own class, over any of the built-in bases. -/
namespace PySem
namespace XG
open HandSPX
open Builtin Builtin.ObjectAttr
/-- the classes behind an own one: further own ones, then a built-in base's -/
structure Tail (B : String) (l : List Value) : Prop where
  pass : ∀ self : Value, refuseLoop self "__setattr__" l = pure ()
  full : l.isEmpty = false
  hasB : l.contains (.type B) = true
  obj : l.contains (.type "object") = true
  noA : l.contains (.type "AttributeError") = false
  noN : l.contains (.type "NameError") = false
theorem Tail.own {B : String} {l : List Value} (t : Tail B l) (c : Addr) : Tail B (.ref c :: l) := by
  refine ⟨fun self => ?_, rfl, ?_, ?_, ?_, ?_⟩
  · rw [refuseLoop_ref]
    exact t.pass self
  all_goals rw [List.contains_cons]
  · rw [t.hasB, Bool.or_true]
  · rw [t.obj, Bool.or_true]
  · rw [t.noA]; rfl
  · rw [t.noN]; rfl
theorem tail_VE : Tail "ValueError" [.type "ValueError", .type "Exception", .type "BaseException", .type "object"] := ⟨F.store_ValueError.passes, rfl, by decide +kernel, by decide +kernel, by decide +kernel, by decide +kernel⟩
theorem tail_IE : Tail "IndexError" [.type "IndexError", .type "LookupError", .type "Exception", .type "BaseException", .type "object"] := ⟨F.store_IndexError.passes, rfl, by decide +kernel, by decide +kernel, by decide +kernel, by decide +kernel⟩
theorem tail_OE : Tail "OverflowError" [.type "OverflowError", .type "ArithmeticError", .type "Exception", .type "BaseException", .type "object"] := ⟨F.store_OverflowError.passes, rfl, by decide +kernel, by decide +kernel, by decide +kernel, by decide +kernel⟩
theorem tail_AE : Tail "ArithmeticError" [.type "ArithmeticError", .type "Exception", .type "BaseException", .type "object"] := ⟨F.store_ArithmeticError.passes, rfl, by decide +kernel, by decide +kernel, by decide +kernel, by decide +kernel⟩
theorem tail_LE : Tail "LookupError" [.type "LookupError", .type "Exception", .type "BaseException", .type "object"] := ⟨F.store_LookupError.passes, rfl, by decide +kernel, by decide +kernel, by decide +kernel, by decide +kernel⟩
/-- KeyError is made by LookupError's maker -/
theorem tail_KE : Tail "LookupError" [.type "KeyError", .type "LookupError", .type "Exception", .type "BaseException", .type "object"] := ⟨fun self => by kernel_rfl, rfl, by decide +kernel, by decide +kernel, by decide +kernel, by decide +kernel⟩
section
variable {prog : Program} {w : World} {A : Around} {E : Value → Shared → Prop} {R : Result → Shared → Prop} {h : Heap} {g : Array GenState} {d : Drawn} {t : Nat} {os : OsState}
variable {nm q : Str} {C N : Addr} {bs bm bmB : List Value} {hdct : Bool} {sn : List Str} {sub : List Value} {ab : Bool} {col : Option Bool} {dd : Option Addr} {k0 k1 k2 k3 k5 : Option Value} {B newId initId : String}
theorem check_make {M : Model} (F : ExcBaseFacts B newId initId bmB) (T : Tail B bm) {args : List Value} {Q : Unit → Shared → Prop}
    (hC : h.get? C = some (excClassObj nm q C N bs bm hdct sn sub ab col dd k0 k1 k2 k3 k5 newId)) (z : Q () ⟨h, g, d, t, os⟩) : wpAny M A (checkBuiltinCall newId ⟨.ref C :: args, []⟩) Q E ⟨h, g, d, t, os⟩ := by
  have e1 : (Value.ref C :: bm).contains (.type B) = true := (T.own C).hasB
  have e2 := F.noStar
  simp only [checkBuiltinCall, F.newKind, F.newSplit, F.newRow]
  repeat (first | refine wpAny_loadPart_at hC ?_ | (refine wpAny_isSubtype_exc hC ?_; rw [e1]) | refine wpAny_staticBase_exc hC ?_ | refine wpAny_madeBy_exc hC ?_ | (simp only [bne_self_eq_false, Bool.false_eq_true, if_false]) | wp_step)
  exact z
theorem make_raw (F : ExcBaseFacts B newId initId bmB) (T : Tail B bm) {args : List Value} (hC : h.get? C = some (excClassObj nm q C N bs bm hdct sn sub ab col dd k0 k1 k2 k3 k5 newId)) (hl : args.length ≤ sizeLine)
    (z : R (.ok (.ret (.ref (h.objs.size + 1)))) ⟨(h.push (W.kdv_tup args)).push (excO C h.objs.size), g, d, t, os⟩) : codeAny (model prog w) A (.builtin newId ⟨.ref C :: args, []⟩) R ⟨h, g, d, t, os⟩ := by
  have e0 := F.ends
  have e1 : (Value.ref C :: bm).contains (.type B) = true := (T.own C).hasB
  have e2 : (Value.ref C :: bm).contains (.type "AttributeError") = false := (T.own C).noA
  have e3 : (Value.ref C :: bm).contains (.type "NameError") = false := (T.own C).noN
  refine codeAny_builtinAt F.entry ?_
  unfold Builtin.«BaseException.__new__»
  refine wpAt_bind ?_
  show wpAt _ _ _ (stack >>= _) _ _ _
  refine wpAt_bind (wpAt_stack fun p below => wpAt_of_wpAny ?_)
  wp_walk
  refine wpAt_of_wpAny ?_
  rw [F.owner]
  repeat (first | with_reducible refine wpAny_madeHere_exc F.canon hC ?_ | with_reducible refine wpAny_loadPart_at hC ?_ | (with_reducible refine wpAny_isSubtype_exc hC ?_; (first | rw [e1] | rw [e2] | rw [e3])) | wp_step)
  show R _ _
  rw [Heap.size_push]
  exact z
theorem make_in (F : ExcBaseFacts B newId initId bmB) (T : Tail B bm) {args : List Value} {fI : Addr} {Q : Fin → Shared → Prop} (hC : h.get? C = some (excClassObj nm q C N bs bm hdct sn sub ab col dd k0 k1 k2 k3 k5 newId))
    (hi : W.Looks (model prog w) h (typeLookup (.ref C) "__init__") (some (.ref fI))) (hb : ∀ self, W.Looks (model prog w) h (bindSpecial (.ref fI) self) (.ref fI, [self])) (hl : args.length ≤ sizeLine)
    (z : codeAny (model prog w) A (.call (.ref fI) ⟨.ref (h.objs.size + 1) :: args, []⟩) (fun r s' => match r with | .ok (.ret v) => v = .none ∧ Q (.done (.ret (.ref (h.objs.size + 1)))) s' | .ok _ => False | .error e => E e s') ⟨(h.push (W.kdv_tup args)).push (excO C h.objs.size), g, d, t, os⟩) :
    wpAny (model prog w) A (Builtin.«type.__call__» ⟨.ref C :: args, []⟩) Q E ⟨h, g, d, t, os⟩ := by
  repeat (first | with_reducible refine wpAny_loadPart_at hC ?_ | with_reducible refine wpAny_madeBy_exc hC ?_ | wp_step)
  refine codeAny_call_builtin_code (Code.quiet_builtin _ F.quiet) (check_make F T hC (make_raw F T hC hl ?_))
  show wpAny _ _ _ _ _ _
  have up : ∀ b o, h.get? b = some o → ((h.push (W.kdv_tup args)).push (excO C h.objs.size)).get? b = some o := fun b o e => Heap.get?_push_of_some _ (Heap.get?_push_of_some _ e)
  have atC := up _ _ hC
  have atE : ((h.push (W.kdv_tup args)).push (excO C h.objs.size)).get? (h.objs.size + 1) = some (excO C h.objs.size) := by heap_get
  have self1 : (Value.ref C :: bm).contains (.ref C) = true := by simp
  have j1 := hi.keeps up
  have j2 := (hb (.ref (h.objs.size + 1))).keeps up
  unfold isInstance
  repeat (first | with_reducible refine wpAny_loadPart_at atE ?_ | (with_reducible refine wpAny_isSubtype_exc atC ?_; rw [self1]) | wp_step)
  show wpAny _ _ (typeLookup (.ref C) _) _ _ _
  refine j1.at (wpAny_holding (wpAny_bind (j2.at (wpAny_bind (wpAny_call (codeAny_mono z fun r s' y => ?_))))))
  rcases r with e | (v | _ | _ | _) <;> first | exact y | exact y.elim | skip
  obtain ⟨rfl, y⟩ := y
  first | exact wpAny_pure (wpAny_pure y) | (wp_walk; exact y)
/-- C(..), C an own class of errors with its own __init__ -/
theorem make_call (F : ExcBaseFacts B newId initId bmB) (T : Tail B bm) {args : List Value} {fI : Addr} (hC : h.get? C = some (excClassObj nm q C N bs bm hdct sn sub ab col dd k0 k1 k2 k3 k5 newId))
    (hi : W.Looks (model prog w) h (typeLookup (.ref C) "__init__") (some (.ref fI))) (hb : ∀ self, W.Looks (model prog w) h (bindSpecial (.ref fI) self) (.ref fI, [self])) (hl : args.length ≤ sizeLine)
    (z : codeAny (model prog w) (A.under (.builtin "type.__call__" ⟨.ref C :: args, []⟩)) (.call (.ref fI) ⟨.ref (h.objs.size + 1) :: args, []⟩) (W.InitBack (h.objs.size + 1) R) ⟨(h.push (W.kdv_tup args)).push (excO C h.objs.size), g, d, t, os⟩) :
    codeAny (model prog w) A (.call (.ref C) ⟨args, []⟩) R ⟨h, g, d, t, os⟩ := by
  have l1 := tc_lookup
  have l2 := tc_bind (.ref C)
  have ty : (⟨h, g, d, t, os⟩ : Shared).TypeIs (.ref C) "type" := ⟨_, hC, rfl⟩
  refine codeAny_of_tree ?_
  show wpAny _ _ (callAny (.ref C) _) _ _ _
  repeat (any_goals (first | assumption | with_reducible refine wpAny_loadPart_at hC ?_ | wp_step))
  refine ⟨rfl, codeAny_call_builtin_at (Code.quiet_builtin _ (by decide +kernel)) entry_typeCall (wpAny_check_type_call_sub hC (make_in F T hC hi hb hl (codeAny_mono z fun r s' y => ?_)))⟩
  rcases r with e | (v | _ | _ | _) <;> exact y
/-- the first field of such an error -/
theorem store_first {K : W.Frag} {f : Str} {tk : Tok} {v : Value} {x : Addr} {fv : Array Value} {cd : ClassData} {bm : List Value} {B : String} (T : Tail B bm) (X : K.In h) (hx : h.get? x = some { cls := .ref C, data := .fields fv }) (hcd : W.clsIn K C = some cd) (hm : cd.mro = .ref C :: bm) (hh : cd.hasDict = true)
    (no : W.findIn K (.ref C) f = some none)
    (z : ∀ h' tk' dx, (∀ b o, b ≠ x → h.get? b = some o → h'.get? b = some o) → h.objs.size ≤ dx → dx ≠ x → h'.get? x = some { cls := .ref C, dict := some dx, data := .fields fv } → h'.Ns1 dx (fun y => if y = f then some v else none) → R (.ok (.ret .none)) ⟨h', g, d, tk', os⟩) :
    codeAny (model prog w) A (.call (.builtin "object.__setattr__") ⟨[.ref x, .str f tk, v], []⟩) R ⟨h, g, d, t, os⟩ := by
  have T1 := T.own C
  rw [← hm] at T1
  have I : W.InstAt h x { cls := .ref C, data := .fields fv } C none := ⟨hx, rfl, rfl, trivial⟩
  have SF := F.store_object
  have apart : x ≠ h.objs.size := Nat.ne_of_lt (Heap.lt_size hx)
  have isObj : W.Looks (model prog w) h (isInstance (.ref x) (.type "object")) true := I.type.andThen (W.looks_mroIn X (by unfold W.mroIn; rw [hcd, Option.bind_some, if_neg (by rw [T1.full]; decide), T1.obj]))
  refine codeAny_call_builtin SF.slot.plain SF.entry (@W.check_slot (model prog w) _ _ ⟨h, g, d, t, os⟩ "object.__setattr__" "object" "__setattr__" (.ref x) [.str f tk, v] [] _ SF.kind SF.split isObj (SF.args (.ref x) (.str f tk) v) ?_)
  have chain : W.Looks (model prog w) h (mroOf (.ref C)) cd.mro := (W.looks_clsIn X hcd).andThen .now
  have taker : W.Looks (model prog w) h (storeTaker? none) none := .now
  have data : W.Looks (model prog w) h (classData C) cd := W.looks_clsIn X hcd
  rw [W.osa_eq, refuse_eq]
  refine wpAny_bind (wpAny_bind (I.type.at (wpAny_bind (chain.at ?_))))
  rw [T1.pass]
  refine wpAny_pure (wpAny_bind (I.type.at (wpAny_bind ((W.looks_findIn X no).at (wpAny_bind (taker.at ?_))))))
  show wpAny _ _ (storeInOwnDict (.ref x) (.ref C) (.str f tk) f v false) _ _ _
  clear chain T1 isObj
  obtain ⟨c1, c2, c3, c4, c5, c6, c7, c8, c9, c10, c11⟩ := cd
  dsimp only at hh
  subst hh
  unfold storeInOwnDict ownDictForStores
  repeat (first | with_reducible refine store_in_new ?_ ?_ | with_reducible refine wpAny_loadPart_at hx ?_ | with_reducible refine data.at ?_ | wp_step)
  · exact ⟨_, #[], _, (Heap.get?_update_ne _ _ _ _ apart.symm).trans (Heap.get?_push_at rfl rfl), rfl, (fun e he => absurd he (by simp)), fun _ => rfl⟩
  · intro h' tk' hn' hs
    have there : (h.push { cls := .type "dict", data := .dict #[] }).get? x = some { cls := .ref C, data := .fields fv } := Heap.get?_push_of_some _ hx
    refine z h' tk' h.objs.size (fun b o hb ho => ?_) (Nat.le_refl _) apart.symm ((hs.2 x apart).trans (Heap.get?_update_self _ there rfl)) hn'
    exact (hs.2 b (Nat.ne_of_lt (Heap.lt_size ho))).trans ((Heap.get?_update_ne _ _ _ _ hb).trans (Heap.get?_push_of_some _ ho))
end
end XG
end PySem
/-! LayH: the rules for such errors: self.f = e in __init__, C(e) made (its context None). -/
namespace Lay
open PySem PySem.Spec PyProof.Rows L2
/-- what the written part says of the class at C, an own one over the built-in B -/
structure Xc (K : PySem.W.Frag) (C : Addr) (B newId : String) : Prop where
  cls : ∃ nm q N bs bm sn sub ab col dd k0 k1 k2 k3 k5, K.lookup C = some (excClassObj nm q C N bs bm true sn sub ab col dd k0 k1 k2 k3 k5 newId) ∧ PySem.XG.Tail B bm
  sa : PySem.W.findIn K (.ref C) "__setattr__" = some (some (.builtin "object.__setattr__"))
  exC : PySem.W.subIn K (.ref C) (.type "BaseException") = some true
  tyC : PySem.W.typeIn K (.ref C) = some (.type "type")
  kC : PySem.W.keepIn K (.ref C) = true
section
variable {X : Cx} {pins : List (Addr × Obj)} {σ : L2.St} {H : Hp} {s : Shared} {a C dx : Addr} {f : Str} {y : V} {u : Value} {Q : Unit → Shared → Prop} {E : Value → Shared → Prop} {A : Around} {B newId : String}
theorem set_first (T : Xc X.K C B newId) (I : Inv X pins σ H s) (e : H a = some (exo a C none)) (no : PySem.W.findIn X.K (.ref C) f = some none) (ry : RelV y u)
    (z : ∀ dx s', H dx = none → dx ≠ a → Inv X pins σ (upd (upd H dx (exd dx [(f, y)])) a (exo a C (some dx))) s' → Q () s') : wpAny (model X.prog X.w) A (setAttr (.ref a) f u) Q E s := by
  obtain ⟨nm, q, N, bs, bm, sn, sub, ab, col, dd, k0, k1, k2, k3, k5, hC, hbm⟩ := T.cls
  have hcl : PySem.W.clsIn X.K C = some { name := nm, bases := bs, mro := .ref C :: bm, ns := N, qualname := q, hasDict := true, slotNames := sn, subclasses := sub, abstract := ab, collection := col, hasDel := false } := by
    unfold PySem.W.clsIn
    rw [hC]
  obtain ⟨t1, ho⟩ := exo_at I.hok e
  obtain ⟨hp, g, d, t, os⟩ := s
  refine PySem.W.set_plain I.kIn (ox := { cls := .ref C, dict := none, data := .fields #[.ref t1, .none, .none, .none, .bool false, .none] }) (od := none) ⟨ho, rfl, rfl, trivial⟩ T.sa ?_
  refine PySem.XG.store_first hbm I.kIn ho hcl rfl rfl no (fun h' tk' dx kp dn dne hx hn => ?_)
  have new : H dx = none := I.hok.fresh dn
  have below : ∀ {b : Addr} {o : Obj}, hp.get? b = some o → b ≠ dx := fun q => Nat.ne_of_lt (Nat.lt_of_lt_of_le (Heap.lt_size q) dn)
  have nota : ∀ {b : Addr}, H b = none → b ≠ a := fun n z => by
    rw [z, e] at n
    cases n
  -- what is tracked and is neither the error nor its dict stands as before
  have stay : ∀ {b : Addr} {u : HO}, H b = some u → (exo a C none) ≠ u → upd (upd H dx (exd dx [(f, y)])) a (exo a C (some dx)) b = some u := fun {b u} hb ne => by
    rw [upd_ne (at_ne e hb ne), upd_ne (ne_of_none hb new)]
    exact hb
  have U : Un X.fs [] H (upd (upd H dx (exd dx [(f, y)])) a (exo a C (some dx))) hp h' :=
    { keep := fun b o q n _ _ => kp b o (nota n) q,
      slot := fun b o q n _ _ => ⟨o.slots, kp b o (nota n) q⟩,
      free := fun b o q n _ => by
        rw [upd_ne (nota n), upd_ne (below q)]
        exact n,
      there := fun b o q _ => by
        by_cases hb : b = a
        · exact ⟨_, by rw [hb]; exact hx⟩
        · exact ⟨o, kp b o hb q⟩,
      tups := fun b xs q => stay q exo_tup,
      frzs := fun b o v q => stay q exo_frz,
      tbls := fun b ps q => ⟨#[], by rw [stay q exo_tbl]; simp⟩ }
  refine z dx _ new dne (I.un (t' := tk') U fun b o q => ?_)
  by_cases hb : b = a
  · subst hb
    rw [upd_same] at q
    cases q
    exact exo_ok hx
  rw [upd_ne hb] at q
  by_cases hd : b = dx
  · subst hd
    rw [upd_same] at q
    cases q
    exact exd_ok hn (relO_put (fs := []) ry fun g => True.intro)
  rw [upd_ne hd] at q
  refine (I.hok b o q).stay (fun c v hc z => kp c v ?_ z) (fun c hc => stay hc exo_own) (fun c xs hc => stay hc exo_tup)
  rcases hc with hc | hc
  · rw [hc]
    exact hb
  · exact at_ne e hc exo_own
end
/-- self.f = e, the only field -/
def tSet1 (K : PySem.W.Frag) (B newId : String) (f : Str) (to te : TE) : TS := fun D σ H => te σ H fun y H1 => to σ H1 fun x H2 => ∃ a C : Addr, x = .ref a ∧ Xc K C B newId ∧ PySem.W.findIn K (.ref C) f = some none ∧
  H2 a = some (exo a C none) ∧ ∀ dx, H2 dx = none → dx ≠ a → D.nx σ (upd (upd H2 dx (exd dx [(f, y)])) a (exo a C (some dx)))
theorem ps_set1 {X : Cx} {o e : Expr} {to te : TE} {f : Str} {p' pos : Pos} {B newId : String} (ho : PE X o to) (he : PE X e te) (hs : swapsWith e (some (.Attribute o f p')) pos.line X.env = pure false := by rfl) : PS X (.Assign [.Attribute o f p'] e pos) (tSet1 X.K B newId f to te) := by
  refine ⟨fun pins s σ H D I h => plainObj_wpAny_Assign_Attribute (thn (he.run pins s σ H _ I h) ?_) hs⟩
  rintro v s1 ⟨y, H1, I1, r1, q1⟩
  refine thn (ho.run pins s1 σ H1 _ I1 q1) ?_
  rintro u s2 ⟨x, H2, I2, r2, a, C, rfl, T, no, ea, q⟩
  cases (show u = Value.ref a from r2)
  exact set_first T I2 ea no r1 fun dx s' n ne J => ⟨σ, _, J, q dx n ne⟩
/-- what __init__(self, v) of such a class promises -/
def spIni (K : PySem.W.Frag) (B newId : String) (f : Str) : Sp := fun vs H Q _ => ∃ (a C : Addr) (v : V), vs = [.ref a, v] ∧ Xc K C B newId ∧ PySem.W.findIn K (.ref C) f = some none ∧ H a = some (exo a C none) ∧
  ∀ dx, H dx = none → dx ≠ a → Q .non (upd (upd H dx (exd dx [(f, v)])) a (exo a C (some dx)))
/-- C(e): an error whose own dict, new, holds f -/
def tMk1 (C : Addr) (f : Str) (ta : TA) : L2.St → Hp → XK → Prop := fun σ H Q => ta σ H fun vs H1 => ∃ v, vs = [v] ∧ ∀ d, H1 d = none → Q (.ref C) (some d) (upd H1 d (.xd [(f, v)]))
section
variable {X : Cx} {B newId initId : String} {bmB : List Value} {x f : Str} {C fI : Addr} {k : Nat} {fd : FuncData} {ps : List Str} {e : Expr} {es : List Expr} {ta : TA} {p pos : Pos}
theorem del_upd {H : Hp} {a d : Addr} {o u : HO} (hd : d ≠ a) (ha : H a = none) : upd (del (upd (upd H d o) a u) a) d o = upd H d o := by
  funext b
  by_cases h1 : b = d
  · rw [h1, upd_same, upd_same]
  · rw [upd_ne h1, upd_ne h1]
    by_cases h2 : b = a
    · rw [h2, del_same, ha]
    · rw [del_ne h2, upd_ne h2, upd_ne h1]
theorem pmk_init (F : ExcBaseFacts B newId initId bmB) (T : Xc X.K C B newId) (no : PySem.W.findIn X.K (.ref C) f = some none) (iC : PySem.W.findIn X.K (.ref C) "__init__" = some (some (.ref fI))) (tI : PySem.W.typeIn X.K (.ref fI) = some (.type "function"))
    (F1 : FnOk X.prog X.w X.K X.mg X.base CX0 k fI fd ps (spIni X.K B newId f)) (hr : Room (k + 1) X.A) (hb : Binds X.K fd ps []) (hg : Gl X x) (hm : X.mg x = some (.ref C)) (ha : PA X (e :: es) ta)
    (hdb : (x == ("__debug__" : Str)) = false := by decide) (he : starEach (e :: es) X.env = (false, eval e X.env) :: starEach es X.env := by rfl) (hpl : (backTo pos (starEach es X.env)).any (·.1) = false := by rfl) :
    L2N.PMk X (.Call (.Name x p) (e :: es) [] pos) (tMk1 C f ta) := by
  intro pins s σ H Q I h
  obtain ⟨nm, q, N, bs, bm, sn, sub, ab, col, dd, k0, k1, k2, k3, k5, hC, hbm⟩ := T.cls
  refine wpAny_Call_Name_kw (ld_glob I hg hm ?_ hdb)
  refine PySem.W.callWith_K (h₀ := X.base) I.ok.mod.kin T.kC (thn (ha.run pos pins s σ H _ I h) ?_) he hpl
  rintro us s1 ⟨vs, H1, I1, r1, v, rfl, q1⟩
  refine ⟨I1.kIn, ?_⟩
  show wpAny _ _ (call (.ref C) us) _ _ _
  obtain ⟨hp, g, dr, tk, os⟩ := s1
  have above : hp.objs.size ≤ hp.objs.size + 1 := Nat.le_succ _
  have free : H1 (hp.objs.size + 1) = none := I1.hok.fresh above
  have up : ∀ b o, hp.get? b = some o → ((hp.push (PySem.W.kdv_tup us)).push (PySem.HandSPX.excO C hp.objs.size)).get? b = some o := fun b o e => Heap.get?_push_of_some _ (Heap.get?_push_of_some _ e)
  have at1 : ((hp.push (PySem.W.kdv_tup us)).push (PySem.HandSPX.excO C hp.objs.size)).get? (hp.objs.size + 1) = some (PySem.HandSPX.excO C hp.objs.size) := by heap_get
  have I2 : Inv X pins σ (upd H1 (hp.objs.size + 1) (exo (hp.objs.size + 1) C none)) ⟨(hp.push (PySem.W.kdv_tup us)).push (PySem.HandSPX.excO C hp.objs.size), g, dr, tk, os⟩ := I1.laid (t' := tk) up above (exo_ok at1)
  have r2 : Vals [V.ref (hp.objs.size + 1), v] (Value.ref (hp.objs.size + 1) :: us) := .cons rfl r1
  -- the promise of __init__ at hand, with the end that is wanted
  have wish : spIni X.K B newId f [V.ref (hp.objs.size + 1), v] (upd H1 (hp.objs.size + 1) (exo (hp.objs.size + 1) C none))
      (fun w2 H2 => w2 = .non ∧ ∃ d, H1 d = none ∧ d ≠ hp.objs.size + 1 ∧ H2 = upd (upd (upd H1 (hp.objs.size + 1) (exo (hp.objs.size + 1) C none)) d (exd d [(f, v)])) (hp.objs.size + 1) (exo (hp.objs.size + 1) C (some d))) E0 :=
    ⟨_, C, v, rfl, T, no, upd_same, fun d hd hne => ⟨rfl, d, by rw [upd_ne hne] at hd; exact hd, hne, rfl⟩⟩
  have hl : (Value.ref (hp.objs.size + 1) :: us ++ []).length = ps.length := by
    rw [List.append_nil, ← r2.length]
    exact F1.len _ _ _ _ wish
  have b2 := hb _ (Value.ref (hp.objs.size + 1) :: us) I2.kIn hl
  rw [List.append_nil] at b2
  have small : us.length ≤ sizeLine := by
    rw [← Paired.length r1]
    exact (by decide : 1 ≤ sizeLine)
  refine wpAny_call (PySem.XG.make_call F hbm (I1.kIn _ _ hC) (PySem.W.looks_findIn I1.kIn iC) (fun self => PySem.W.bind_fn I1.kIn self tI) small
    (codeAny_mono (F1.run _ X.stack _ _ ⟨Value.ref (hp.objs.size + 1) :: us, []⟩ (Value.ref (hp.objs.size + 1) :: us) _ _ E0 (hr.make C us []) (I2.env0.make C us []) b2 r2 wish) fun r s' hq' => ?_))
  cases r with
  | error er => exact False.elim hq'
  | ok fl =>
    cases fl with
    | next => exact False.elim hq'
    | brk => exact False.elim hq'
    | cont => exact False.elim hq'
    | ret u =>
      obtain ⟨w2, H2, os2, bare2, un2, hok2, rv, rfl, d, hd1, hdn, rfl⟩ := hq'
      obtain ⟨h2, g2, d2, t2, os'⟩ := s'
      obtain ⟨t0, G, J, kG, ge, hoe, na⟩ := mk_end0 (d2 := d2) (t2 := t2) I1 above up un2 hok2 os2 bare2 (d := d) (fs := [(f, v)]) upd_same (by rw [upd_ne hdn, upd_same]) hd1
      have eH : upd (del (upd (upd (upd H1 (hp.objs.size + 1) (exo (hp.objs.size + 1) C none)) d (exd d [(f, v)])) (hp.objs.size + 1) (exo (hp.objs.size + 1) C (some d))) (hp.objs.size + 1)) d (.xd [(f, v)]) = upd H1 d (.xd [(f, v)]) := by
        funext b
        by_cases h1 : b = d
        · rw [h1, upd_same, upd_same]
        · rw [upd_ne h1, upd_ne h1]
          by_cases h2 : b = hp.objs.size + 1
          · rw [h2, del_same, free]
          · rw [del_ne h2, upd_ne h2, upd_ne h1, upd_ne h2]
      rw [eH] at J na
      refine ⟨rv, hp.objs.size + 1, _, _, ⟨G, g2, d2, t2, os'⟩, _, .ref C, some d, rfl, J, kG, ge, hoe, ⟨rfl, rfl, fun vs hv => ?_⟩, rfl, rfl, na, rfl, bare2, raises_own T.exC T.tyC, q1 d hd1⟩
      cases hv
      rfl
/-- C(e), C an own class of errors without an own __init__ -/
theorem pmk_text (F : ExcBaseFacts B newId initId bmB) (q : PySem.W.excIn X.K C bmB newId = true) (gC : X.mg x = some (.ref C)) (kC : PySem.W.keepIn X.K (.ref C) = true) (r : Raises X (.ref C)) (hg : Gl X x) (ha : PA X (e :: es) ta)
    (hdb : (x == ("__debug__" : Str)) = false := by decide) (he : starEach (e :: es) X.env = (false, eval e X.env) :: starEach es X.env := by rfl) (hpl : (backTo pos (starEach es X.env)).any (·.1) = false := by rfl) :
    L2N.PMk X (.Call (.Name x p) (e :: es) [] pos) (fun σ H Q => ta σ H fun vs H1 => vs.length ≤ 1000 ∧ Q (.ref C) none H1) := by
  intro pins s σ H Q I h
  refine wpAny_Call_Name_kw (ld_glob I hg gC ?_ hdb)
  refine PySem.W.callWith_K (h₀ := X.base) I.ok.mod.kin kC (thn (ha.run pos pins s σ H _ I h) ?_) he hpl
  rintro us s1 ⟨vs, H1, I1, r1, hl, q1⟩
  refine ⟨I1.kIn, ?_⟩
  show wpAny _ _ (call (.ref C) us) _ _ _
  obtain ⟨bm, N, nm, qn, bs, hdct, sn, sub, ab, col, dd, k0, k1, k2, k3, k5, mN, hC, hN, hni, T⟩ := exc_obj I1.kIn q
  have small : us.length ≤ sizeLine := by
    rw [← Paired.length r1]
    exact Nat.le_trans hl (by decide)
  exact wpAny_call_exc_subT F T hC hN hni (fun h' e hm => L2N.mk_of I1 hm r q1 (I1.hok.gone hm.new)) small
end
end Lay
/-! LayI: repr of a value of any kind; a text times a number. -/
namespace Lay
open PySem PySem.Spec PyProof.Rows L2
/-- the value v is shown as z -/
inductive Sh (K : PySem.W.Frag) (H : Hp) : V → Str → Prop
  | int (i : Int) (h : i.natAbs.log2 < 1920) : Sh K H (.int i) (toString i)
  | str (x : Str) (h : (reprText x).length ≤ sizeLine) : Sh K H (.str x) (reprText x)
  | bl (b : Bool) : Sh K H (.bl b) (if b then "True" else "False")
  | non : Sh K H .non "None"
  | dat {a : Addr} {d : PyData} (h : Dp K H (.ref a) d) (h1 : d.showable = true) (h2 : d.hasDict = false) (h3 : d.depth ≤ 20) (h4 : d.shown.length ≤ sizeLine) : Sh K H (.ref a) d.shown
  | dct {p t : Addr} {k : Str} {is : List Int} (h : H p = some (.dK [(.inr k, .ref t)])) (ht : H t = some (.tup (is.map V.int))) (h1 : (PyData.dict [(.str k, .tuple (is.map PyData.int))]).showable = true)
      (h4 : (PyData.dict [(.str k, .tuple (is.map PyData.int))]).shown.length ≤ sizeLine) (h3 : (PyData.dict [(.str k, .tuple (is.map PyData.int))]).depth ≤ 20) : Sh K H (.ref p) (PyData.dict [(.str k, .tuple (is.map PyData.int))]).shown
theorem reads_ints {h : Heap} : ∀ {is : List Int} {us : List Value}, Vals (is.map V.int) us → ReadsAll h us (is.map PyData.int) []
  | [], _, .nil => .nil
  | i :: r, _, .cons (b := u) hu ht => by
    obtain ⟨t, rfl⟩ := hu
    exact ReadsAll.cons (as := []) (bs := []) (Reads.int i t) (reads_ints ht)
def rShow (K : PySem.W.Frag) : List V → Hp → VK → Prop := fun xs H Q => ∃ v z, xs = [v] ∧ Sh K H v z ∧ Q (.str z) H
section
variable {X : Cx}
theorem call_show (hq : Quiet X.A) (hu : X.A.units + 64 < cLine) : CallR X (.builtin "repr") (rShow X.K) := by
  intro pins s σ H xs us Q I r h
  obtain ⟨v, z, rfl, hs, q⟩ := h
  obtain ⟨u, rfl, ru⟩ := vals1 r
  cases hs with
  | int i hi =>
    obtain ⟨t, rfl⟩ := ru
    exact PySem.P.repr_of_int hi ⟨.str _, H, I.tok _, ⟨_, rfl⟩, q⟩
  | str x hx =>
    obtain ⟨t, rfl⟩ := ru
    exact PySem.P.repr_of_str ⟨.str _, H, I.tok _, ⟨_, rfl⟩, q⟩ hx
  | bl b =>
    cases (show u = Value.bool b from ru)
    exact PySem.P.repr_of_bool ⟨.str _, H, I.tok _, ⟨_, rfl⟩, q⟩
  | non =>
    cases (show u = Value.none from ru)
    exact PySem.P.repr_of_none ⟨.str _, H, I.tok _, ⟨_, rfl⟩, q⟩
  | @dat a d hd h1 h2 h3 h4 =>
    cases (show u = Value.ref a from ru)
    obtain ⟨as, rd⟩ := Dp.reads I d (.ref a) (.ref a) hd rfl
    exact repr_of_reads' rd h1 (fun z => by rw [h2] at z; cases z) hq (by omega) (fun _ _ z => z) (fun h' u tk hk => ⟨.str d.shown, H, I.kept hk, ⟨u, rfl⟩, q⟩) h4
  | @dct p t k is hp ht h1 h4 h3 =>
    cases (show u = Value.ref p from ru)
    obtain ⟨_, nosys, vs, kv, o, es, ep, ho, hex, hd, _, hpr, _⟩ := (show ObjOk X.prog X.w H s.heap p (.dK [(.inr k, .ref t)]) from I.hok p _ hp)
    obtain ⟨_, its, rv, hT⟩ := (show ObjOk X.prog X.w H s.heap t (.tup (is.map V.int)) from I.hok t _ ht)
    obtain ⟨ot, hot, hct, n, hdt⟩ := hT
    cases kv with
    | @cons _ q2 _ _ e1 e2 =>
      cases e2
      obtain ⟨ky, w2⟩ := q2
      obtain ⟨e1, e3⟩ := e1
      cases e1
      cases (show w2 = Value.ref t from e3)
      generalize hl : es.toList = l at hpr
      cases hpr with
      | @cons e kv es2 kvs2 hk hv hr =>
        cases hr
        obtain ⟨eh, ek, ev⟩ := e
        have hk' : Value.isStrOf k ek = true := hk
        obtain ⟨tk, rfl⟩ : ∃ tk, ek = .str k tk := by
          cases ek with
          | str y u =>
            have e9 : (y == k) = true := hk'
            rw [beq_iff_eq] at e9
            exact ⟨u, by rw [e9]⟩
          | _ => cases hk'
        cases hv
        have rt : Reads s.heap (.ref t) (.tuple (is.map PyData.int)) [] := Reads.tuple hot hct hdt (reads_ints rv)
        have rd : Reads s.heap (.ref p) (.dict [(.str k, .tuple (is.map PyData.int))]) (p :: ([] ++ []) ++ ([] ++ [])) := by
          refine Reads.dict ho hex.1 hd ?_ ?_
          · rw [hl]
            exact ReadsAll.cons (Reads.str k tk) ReadsAll.nil
          · rw [hl]
            exact ReadsAll.cons rt ReadsAll.nil
        refine repr_of_reads' rd h1 (fun _ z => ?_) hq (by omega) (fun _ _ z => z) (fun h' u tk hk => ⟨.str _, H, I.kept hk, ⟨u, rfl⟩, q⟩) h4
        have e0 : sysModules = p := by simpa using z
        rw [← e0] at nosys
        exact absurd nosys (by decide)
theorem times_size (c : Array Nat) : ∀ (n : Nat) (a : Array Nat), (List.foldl (fun x1 x2 => x1 ++ x2) a (List.replicate n c)).size = a.size + n * c.size
  | 0, a => by simp
  | n + 1, a => by
    rw [List.replicate_succ, List.foldl_cons, times_size c n (a ++ c), Array.size_append, Nat.succ_mul]
    omega
/-- a text times a number: which text it is is not told -/
def rTimes : R2 := fun x y H Q => ∃ z n, x = .str z ∧ y = .int n ∧ 1 ≤ n ∧ n ≤ 1000 ∧ 1 ≤ z.length ∧ z.length ≤ 1000 ∧ ∀ w : Str, Q (.str w) H
theorem op_times : OpR X (binaryOp .Mult) rTimes := by
  intro pins s σ H x y v u Q I rx ry h
  obtain ⟨z, n, rfl, rfl, h1, h2, h3, h4, q⟩ := h
  obtain ⟨t, rfl⟩ := rx
  obtain ⟨t', rfl⟩ := ry
  have e1 : decide (n < -(2 ^ 63 : Int)) = false := decide_eq_false (by omega)
  have e2 : decide (n ≥ 2 ^ 63) = false := decide_eq_false (by omega)
  have big : z.length * n.toNat ≤ 1000 * 1000 := Nat.mul_le_mul h4 (by omega)
  refine PySem.P.mul_str (by rw [e1, e2]; rfl) (fun _ _ => ?_) (fun _ _ => ?_) ?_
  · have : (1000 : Int) ≤ (2 ^ 63 - 1) / n := (Int.le_ediv_iff_mul_le (by omega)).mpr (by omega)
    omega
  · unfold Builtin.Str.tooLong
    refine decide_eq_false ?_
    have : 1000 * 1000 ≤ sizeLine := by decide
    omega
  · rw [if_neg (by omega : ¬ n < 1)]
    by_cases hz : (n == 1 || z.length == 0) = true
    · rw [if_pos hz]
      exact ⟨.str z, H, I, ⟨t, rfl⟩, q z⟩
    · rw [if_neg hz]
      refine ⟨?_, ⟨.str _, H, I.tok _, ⟨_, rfl⟩, q _⟩⟩
      show (List.foldl (fun x1 x2 => x1 ++ x2) #[] (List.replicate n.toNat z.cps)).size ≤ sizeLine
      rw [times_size]
      have e3 : z.cps.size = z.length := rfl
      have : 1000 * 1000 ≤ sizeLine := by decide
      have e4 : (#[] : Array Nat).size = 0 := rfl
      have e5 : n.toNat * z.cps.size = z.length * n.toNat := by rw [e3, Nat.mul_comm]
      omega
end
end Lay
/-! LayD: rules for k04: what is never reached, // by any divisor, a range that is kept. -/
namespace Lay
open PySem PySem.Spec PyProof.Rows L2
section
variable {X : Cx} {tg : Expr}
def CDivWN (_ j : Int) : Prop := j ≠ 0 ∧ j.natAbs.log2 < 9000
theorem op_fdivWN : OpR X (binaryOp .FloorDiv) (rI CDivWN fun i j => .int (i.fdiv j)) := opI fun _ _ _ _ _ _ _ hc q => floordiv_int hc.1 q (.inl (PyProof.noPylong_of_log2 hc.2))
theorem q_range1 : CallR X (.type "range") (fun vs H Q => ∃ j, vs = [V.int j] ∧ ∀ p, H p = none → Q (.ref p) (upd H p (.rng 0 j))) := by
  intro pins s σ H vs us Q I r h
  obtain ⟨j, rfl, q⟩ := h
  obtain ⟨u1, rfl, rj⟩ := vals1 r
  obtain ⟨u, rfl⟩ := rj
  refine call_range_1 ⟨.ref s.heap.objs.size, upd H s.heap.objs.size (.rng 0 j), I.laid (fun b o e => Heap.get?_push_of_some _ e) (Nat.le_refl _) ?_, rfl, q _ (I.hok.fresh (Nat.le_refl _))⟩
  exact ⟨_, _, _, Heap.get?_push_size _ rfl⟩
/-- for x in r, r a range that stands in a name -/
def iRngV (te : TE) : TI := fun σ H R => te σ H fun x H1 => ∃ (p : Addr) (j : Int), x = .ref p ∧ H1 p = some (.rng 0 j) ∧ -(2 ^ 62) ≤ j ∧ j < 2 ^ 62 ∧ R (Itr 0 j.toNat) H1
theorem pi_rngv {e : Expr} {te : TE} (he : PE X e te) : PI X tg e (iRngV te) := by
  refine ⟨fun pins s σ H R I h => thn (he.run pins s σ H _ I h) ?_⟩
  rintro v s1 ⟨x, H1, I1, r1, p, j, rfl, hp, h3, h4, q⟩
  cases (show v = Value.ref p from r1)
  obtain ⟨t, u, w, ho⟩ := (show ObjOk X.prog X.w H1 s1.heap p (.rng 0 j) from I1.hok p _ hp)
  refine wpAny_pyIter_range (show IsRange s1.heap p 0 j 1 t u w from ho) (small_one (by decide) (by decide) h3 h4) ?_
  refine ⟨s1.heap.objs.size, [s1.heap.objs.size], _, _, H1, rfl, I1.kept (t' := s1.toks) fun b o e => Heap.get?_push_of_some _ e, turn_range _ 0 j.toNat, ?_, fun b hb => ?_, q⟩
  · have e2 : ((j.toNat : Nat) : Int) - ((0 : Nat) : Int) = Builtin.Range.rangeSize 0 j 1 := by rw [rangeSize_one]; split <;> omega
    show IsRangeIter _ _ (0 + ((0 : Nat) : Int) * 1) (((j.toNat : Nat) : Int) - ((0 : Nat) : Int)) 1
    rw [e2]
    exact Heap.get?_push_size _ rfl
  · have e : b = s1.heap.objs.size := by simpa using hb
    subst e
    exact I1.fpOk (Nat.le_refl _) (I1.hok.fresh (Nat.le_refl _))
theorem rd_rng2 {ta : TA} {σ : L2.St} {H : Hp} {R : It → Hp → Prop} (q : ta σ H (fun vs H1 => ∃ i j : Int, vs = [.int i, .int j] ∧ (-(2 ^ 62) ≤ i ∧ i < 2 ^ 62 ∧ -(2 ^ 62) ≤ j ∧ j < 2 ^ 62) ∧ R (Itr i (j - i).toNat) H1)) : iRng2 ta σ H R := q
end
end Lay
namespace Lay
open PySem PySem.Spec PyProof.Rows L2
section
variable {σ : L2.St} {H H1 : Hp} {Q : VK} {K : PySem.W.Frag}
/-- a comprehension whose items are new objects: P tells of the j-th; what stands stays, but the list itself -/
theorem lc_made {J : It} {n : Nat} {G : Hp → Prop} {item : Nat → V} (w : Wk J n G item) {i : Nat} {te : TE} {E : Addr} (hn : n ≤ 1000) (hE : H1 E = none) (hG : ∀ H', Same H1 H' → G H') (P : Nat → V → Hp → Prop) (mono : ∀ j v H H', But E H H' → P j v H → P j v H')
    (he : ∀ j, j < n → ∀ H' o, Same H1 H' → H' E = some o → ∀ R : VK, (∀ v H'', Same H' H'' → P j v H'' → R v H'') → te ((wipe σ [i]).set i (some (item j))) H' R)
    (hd : ∀ ys H', Same H1 H' → ys.length = n → (∀ j v, ys[j]? = some v → P j v H') → H' E = some (.lst ys) → Q (.ref E) H') : LcAt J (gName i) tYes te [i] σ E H1 Q := by
  refine ⟨fun k m H' => m = n - k ∧ k ≤ n ∧ Same H1 H' ∧ ∃ ys : List V, ys.length = k ∧ (∀ j v, ys[j]? = some v → P j v H') ∧ H' E = some (.lst ys), ⟨n, rfl, Nat.zero_le _, same_up hE (Same.refl H1), [], rfl, (fun j v e => by cases e), upd_same⟩, ?_⟩
  rintro k m H' ⟨rfl, hk, hs, ys, hy, hP, hl⟩
  by_cases hlt : k < n
  · refine Or.inr ⟨w.go k H' (hG H' hs) hlt, fun H'' => Same H1 H'' ∧ ∃ ys : List V, ys.length = k + 1 ∧ (∀ j v, ys[j]? = some v → P j v H'') ∧ H'' E = some (.lst ys), fun H'' h => ⟨n - (k + 1), by omega, rfl, hlt, h⟩, fun x H2 hx => ?_⟩
    obtain ⟨rfl, rfl⟩ := w.yld k H' x H2 (hG H' hs) hlt hx
    refine ⟨wipe1 σ i _, ?_⟩
    refine rd_yes ?_
    refine rd_ifb (fun _ => ?_) (fun z => nomatch z)
    refine he k hlt H2 _ hs hl _ fun v H3 s3 pv => ?_
    have toE : But E H2 (upd H3 E (.lst (ys ++ [v]))) := fun b o nb e => by
      rw [upd_ne nb]
      exact s3 b o e
    refine ⟨ys, s3 _ _ hl, Nat.lt_of_le_of_lt (by omega : ys.length ≤ 1000) (by decide), same_up hE (hs.trans s3), ys ++ [v], by rw [List.length_append, hy]; rfl, fun j u e => ?_, upd_same⟩
    rcases Nat.lt_or_ge j ys.length with q | q
    · rw [List.getElem?_append_left q] at e
      exact mono j u _ _ toE (hP j u e)
    · rw [List.getElem?_append_right q] at e
      have j0 : j - ys.length = 0 := by
        rcases Nat.eq_zero_or_pos (j - ys.length) with y | y
        · exact y
        · rw [List.getElem?_eq_none (by show 1 ≤ j - ys.length; exact y)] at e
          cases e
      rw [j0] at e
      obtain rfl := Option.some.inj e
      have jk : j = k := by omega
      subst jk
      exact mono _ _ _ _ (fun b o nb e => by rw [upd_ne nb]; exact e) pv
  · have e : k = n := by omega
    subst e
    exact Or.inl ⟨w.stop H' (hG H' hs), hd ys H' hs hy hP hl⟩
end
/-- a list of these ints stands at p; a list of such lists; a tuple of tuples of ints -/
def Li (H : Hp) (p : Addr) (ns : List Int) : Prop := H p = some (.lst (ns.map V.int))
def LL (H : Hp) (p : Addr) (M : List (List Int)) : Prop := ∃ rs : List Addr, H p = some (.lst (rs.map V.ref)) ∧ rs.length = M.length ∧ ∀ (i : Nat) (r : Addr) (row : List Int), rs[i]? = some r → M[i]? = some row → Li H r row
def TT (H : Hp) (p : Addr) (M : List (List Int)) : Prop := ∃ rs : List Addr, H p = some (.tup (rs.map V.ref)) ∧ rs.length = M.length ∧ ∀ (i : Nat) (r : Addr) (row : List Int), rs[i]? = some r → M[i]? = some row → H r = some (.tup (row.map V.int))
theorem TT.same {H H' : Hp} {p : Addr} {M : List (List Int)} (s : Same H H') (h : TT H p M) : TT H' p M := by
  obtain ⟨rs, h1, h2, h3⟩ := h
  exact ⟨rs, s _ _ h1, h2, fun i r row e1 e2 => s _ _ (h3 i r row e1 e2)⟩
theorem Li.same {H H' : Hp} {p : Addr} {ns : List Int} (s : Same H H') (h : Li H p ns) : Li H' p ns := s _ _ h
theorem LL.same {H H' : Hp} {p : Addr} {M : List (List Int)} (s : Same H H') (h : LL H p M) : LL H' p M := by
  obtain ⟨rs, h1, h2, h3⟩ := h
  exact ⟨rs, s _ _ h1, h2, fun i r row e1 e2 => s _ _ (h3 i r row e1 e2)⟩
theorem LL.but {H H' : Hp} {a p : Addr} {M : List (List Int)} (s : But a H H') (hp : p ≠ a) (hr : ∀ rs : List Addr, H p = some (.lst (rs.map V.ref)) → a ∉ rs) (h : LL H p M) : LL H' p M := by
  obtain ⟨rs, h1, h2, h3⟩ := h
  have na := hr rs h1
  exact ⟨rs, s _ _ hp h1, h2, fun i r row e1 e2 => s _ _ (fun z => na (z ▸ List.mem_of_getElem? e1)) (h3 i r row e1 e2)⟩
/-- all are refs: the list of their addresses -/
theorem refs_of {ys : List V} (h : ∀ (j : Nat) (v : V), ys[j]? = some v → ∃ a, v = V.ref a) : ∃ rs : List Addr, ys = rs.map V.ref := by
  induction ys with
  | nil => exact ⟨[], rfl⟩
  | cons y r ih =>
    obtain ⟨rs, rfl⟩ := ih fun j v e => h (j + 1) v (by rw [List.getElem?_cons_succ]; exact e)
    obtain ⟨a, rfl⟩ := h 0 y rfl
    exact ⟨a :: rs, rfl⟩
end Lay
namespace Lay
open PySem PySem.Spec PyProof.Rows L2
theorem rd_par {i j : Nat} {ta : TA} {D : Ends} {σ : L2.St} {H : Hp} (q : ta σ H fun vs H1 => ∃ v w, vs = [v, w] ∧ D.nx ((σ.set i (some v)).set j (some w)) H1) : tPar i j ta D σ H := q
end Lay
namespace Lay
open PySem PySem.Spec PyProof.Rows L2
theorem cut_head (xs : List V) (k : Nat) : cutV xs none (some (k : Int)) = xs.take k := by
  unfold cutV
  rw [HT.sIx_none, HT.sIx_nat, Nat.sub_zero, List.drop_zero]
  rcases Nat.le_total k xs.length with h | h
  · rw [Nat.min_eq_left h]
  · rw [Nat.min_eq_right h, List.take_length, List.take_of_length_le h]
theorem cut_tail (xs : List V) (k : Nat) : cutV xs (some (k : Int)) none = xs.drop k := by
  unfold cutV
  rw [HT.sIx_none, HT.sIx_nat]
  rcases Nat.le_total k xs.length with h | h
  · rw [Nat.min_eq_left h]
    exact List.take_of_length_le (by rw [List.length_drop]; omega)
  · rw [Nat.min_eq_right h, List.drop_length, List.drop_of_length_le h, List.take_nil]
theorem erase_cut {α : Type} (l : List α) (k : Nat) : l.take k ++ l.drop (k + 1) = l.eraseIdx k := (List.eraseIdx_eq_take_drop_succ ..).symm
/-- lists of lists of ints as data -/
def rowD (r : List Int) : PyData := .list (r.map PyData.int)
theorem dp_ints {K : PySem.W.Frag} {H : Hp} : ∀ r : List Int, DpAll K H (r.map V.int) (r.map PyData.int)
  | [] => .nil
  | x :: r => .cons (.int x) (dp_ints r)
theorem dp_rows {K : PySem.W.Frag} {H : Hp} : ∀ (rs : List Addr) (M : List (List Int)), rs.length = M.length → (∀ (i : Nat) (r : Addr) (row : List Int), rs[i]? = some r → M[i]? = some row → Li H r row) → DpAll K H (rs.map V.ref) (M.map rowD)
  | [], [], _, _ => .nil
  | r :: rs, row :: M, hl, h => .cons (.lst (SqL.of (h 0 r row rfl rfl)) (dp_ints row)) (dp_rows rs M (Nat.succ.inj hl) fun i a b e1 e2 => h (i + 1) a b (by rw [List.getElem?_cons_succ]; exact e1) (by rw [List.getElem?_cons_succ]; exact e2))
  | [], _ :: _, hl, _ => by cases hl
  | _ :: _, [], hl, _ => by cases hl
theorem ints_flat : ∀ r : List Int, PyData.canLayAll0 (r.map PyData.int) = true ∧ PyData.depthAll (r.map PyData.int) = 0
  | [] => ⟨rfl, rfl⟩
  | _ :: r => by
    obtain ⟨h1, h2⟩ := ints_flat r
    refine ⟨?_, ?_⟩
    · show (true && PyData.canLayAll0 (r.map PyData.int)) = true
      rw [h1]
      rfl
    · show max 0 (PyData.depthAll (r.map PyData.int)) = 0
      rw [h2]
      rfl
theorem rowD_ok (r : List Int) : (rowD r).canLay0 = true ∧ (rowD r).depth ≤ 1 := by
  obtain ⟨h1, h2⟩ := ints_flat r
  refine ⟨h1, ?_⟩
  show PyData.depthAll (r.map PyData.int) + 1 ≤ 1
  omega
theorem rows_shaped (M : List (List Int)) : SeqAt.shaped (.list (M.map rowD)) = true := shaped_listN (n := 1) (by decide) fun d hd => by
  obtain ⟨r, _, rfl⟩ := List.mem_map.mp hd
  exact rowD_ok r
theorem LL.dp {K : PySem.W.Frag} {H : Hp} {p : Addr} {M : List (List Int)} (h : LL H p M) : Dp K H (.ref p) (.list (M.map rowD)) := by
  obtain ⟨rs, h1, h2, h3⟩ := h
  exact .lst (SqL.of h1) (dp_rows rs M h2 h3)
end Lay
theorem Lay.erase_map {α β : Type} (f : α → β) : ∀ (l : List α) (k : Nat), (l.map f).eraseIdx k = (l.eraseIdx k).map f
  | [], _ => rfl
  | _ :: _, 0 => rfl
  | a :: l, k + 1 => by
    show f a :: (l.map f).eraseIdx k = f a :: (l.eraseIdx k).map f
    rw [Lay.erase_map f l k]
namespace Lay
open PySem PySem.Spec PyProof.Rows L2
section
variable {σ : L2.St} {H1 : Hp} {Q : VK} {K : PySem.W.Frag}
/-- [e for x, y in zip(xs, ys)], two lists of one length -/
theorem lc_zip {a b E : Addr} {xs ys : List V} {i1 i2 n : Nat} {te : TE} (hx : xs.length = n) (hy : ys.length = n) (hn : n ≤ 1000) (hE : H1 E = none) (ha : SqL K H1 a xs) (hb : SqL K H1 b ys)
    (hw : ∀ x y, wipe (((wipe σ [i1, i2]).set i1 (some x)).set i2 (some y)) [i1, i2] = wipe σ [i1, i2]) (f : Nat → V)
    (he : ∀ j, j < n → ∀ H', Same H1 H' → ∀ R : VK, R (f j) H' → te (((wipe σ [i1, i2]).set i1 (some (xs.getD j .non))).set i2 (some (ys.getD j .non))) H' R)
    (hd : ∀ H', Same H1 H' → H' E = some (.lst ((List.range n).map f)) → Q (.ref E) H') : LcAt (Itz K a b) (gTup K 2 (gCons (gName i1) (gCons (gName i2) gNil))) tYes te [i1, i2] σ E H1 Q := by
  have keep : ∀ {p : Addr} {zs : List V} {H' : Hp}, Same H1 H' → SqL K H1 p zs → SqL K H' p zs := fun s h => s.seq h
  have gx : ∀ i, i < n → xs[i]? = some (xs.getD i .non) := fun i h => by rw [List.getD_eq_getElem?_getD, List.getElem?_eq_getElem (by omega)]; rfl
  have gy : ∀ i, i < n → ys[i]? = some (ys.getD i .non) := fun i h => by rw [List.getD_eq_getElem?_getD, List.getElem?_eq_getElem (by omega)]; rfl
  refine lc_gen (n := n) (G := fun H' => SqL K H' a xs ∧ SqL K H' b ys) (fun j x H' => ∃ T, x = .ref T ∧ H' T = some (.tup [xs.getD j .non, ys.getD j .non]))
    (fun j σ2 H' => σ2 = ((wipe σ [i1, i2]).set i1 (some (xs.getD j .non))).set i2 (some (ys.getD j .non))) (fun H' h => ⟨_, _, h.1, h.2, Or.inl (by omega)⟩) (fun i H' h hi => ⟨_, _, _, _, h.1, h.2, gx i hi, gy i hi⟩)
    (fun i H' x H'' h hi y => ?_) hn hE (fun H' s => ⟨keep s ha, keep s hb⟩) (fun _ => true) f ?_ ?_ ?_ ?_
  · obtain ⟨T, x1, x2, rfl, hT, rfl, f1, f2⟩ := y
    have e1 := Option.some.inj ((f1 _ h.1).symm.trans (gx i hi))
    have e2 := Option.some.inj ((f2 _ h.2).symm.trans (gy i hi))
    subst e1 e2
    exact ⟨fun b o e => up_old hT e, T, rfl, upd_same⟩
  · rintro j x H' hj hs ⟨T, rfl, hT⟩ R kk
    exact ⟨T, _, rfl, SqT.of hT, rfl, _, _, rfl, _, _, rfl, rfl, kk _ (hw _ _) rfl⟩
  · rintro j σ2 H' hj hs hS R kk
    exact kk _ (Same.refl _)
  · rintro j σ2 H' H0 hj _ rfl hs hs0 R kk
    exact he j hj H' hs R (kk _ (Same.refl _))
  · intro H' hs hl2
    rw [filt_yes] at hl2
    exact hd H' hs hl2
end
end Lay
namespace Lay
open PySem PySem.Spec PyProof.Rows L2
theorem rd_zipL {K : PySem.W.Frag} {ta : TA} {σ : L2.St} {H : Hp} {R : It → Hp → Prop} (q : ta σ H (fun vs H1 => ∃ a b xs ys, vs = [.ref a, .ref b] ∧ SqL K H1 a xs ∧ SqL K H1 b ys ∧ R (Itz K a b) H1)) : iZip K ta σ H R := q
end Lay
namespace Lay
open PySem PySem.Spec PyProof.Rows L2
section
variable {σ : L2.St} {H H1 : Hp} {Q : VK} {K : PySem.W.Frag}
theorem wipe2 (σ : L2.St) (a b : Nat) (h : a ≠ b) (x : V) : wipe ((wipe σ [a, b]).set a (some x)) [a, b] = wipe σ [a, b] := by
  show ((((σ.set b none).set a none).set a (some x)).set b none).set a none = (σ.set b none).set a none
  rw [List.set_set, List.set_comm _ _ h, List.set_set, List.set_set]
theorem wipe_in (σ : L2.St) (a b : Nat) (h : a ≠ b) (x : V) : wipe ((wipe σ [a, b]).set a (some x)) [b] = (wipe σ [a, b]).set a (some x) := by
  show (((σ.set b none).set a none).set a (some x)).set b none = ((σ.set b none).set a none).set a (some x)
  rw [List.set_set, List.set_comm _ _ h, List.set_set]
/-- [f(x, y) for x in .. for y in ..], all of it leaving what stands -/
theorem lc2_same {wi wi1 : TI} {te : TE} {a b : Nat} (hab : a ≠ b) {n : Nat} (hn : n ≤ 30) (c : Nat → Nat) (hc : ∀ i, i < n → c i ≤ 30) (f : Nat → Nat → V) (item : Nat → V) (item1 : Nat → Nat → V) (G : Hp → Prop) (G1 : Nat → Hp → Prop)
    (hi : ∀ R : It → Hp → Prop, (∀ J H1, Same H H1 → Wk J n G item → R J H1) → wi σ H R)
    (hG : ∀ H', Same H H' → G H')
    (hG1 : ∀ i H', i < n → Same H H' → G1 i H')
    (hi1 : ∀ i, i < n → ∀ H', Same H H' → ∀ R : It → Hp → Prop, (∀ J H1, Same H' H1 → Wk J (c i) (G1 i) (item1 i) → R J H1) → wi1 ((wipe σ [a, b]).set a (some (item i))) H' R)
    (he : ∀ i j, i < n → j < c i → ∀ H', Same H H' → ∀ R : VK, (∀ H'', Same H' H'' → R (f i j) H'') → te (((wipe σ [a, b]).set a (some (item i))).set b (some (item1 i j))) H' R)
    (hd : ∀ H' D, Same H H' → H' D = some (.lst ((List.range n).flatMap fun i => (List.range (c i)).map (f i))) → Q (.ref D) H') :
    tLc2 wi (gName a) tYes wi1 (gName b) tYes te [a, b] [b] σ H Q := by
  have len : ∀ k, k ≤ n → ((List.range k).flatMap fun i => (List.range (c i)).map (f i)).length ≤ k * 30 := by
    intro k
    induction k with
    | zero => intro _; exact Nat.zero_le _
    | succ k ih =>
      intro hk
      rw [List.range_succ, List.flatMap_append, List.length_append]
      have h1 := ih (by omega)
      have h2 : ([k].flatMap fun i => (List.range (c i)).map (f i)).length ≤ 30 := by
        simp only [List.flatMap_cons, List.flatMap_nil, List.append_nil, List.length_map, List.length_range]
        exact hc k (by omega)
      omega
  refine hi _ fun J H1 s1 w => ?_
  intro E hE
  refine ⟨fun k m H' => m = n - k ∧ k ≤ n ∧ Same H1 H' ∧ H' E = some (.lst ((List.range k).flatMap fun i => (List.range (c i)).map (f i))), ⟨n, rfl, Nat.zero_le _, same_up hE (Same.refl H1), upd_same⟩, ?_⟩
  rintro k m H' ⟨rfl, hk, hs, hl⟩
  by_cases hlt : k < n
  · refine Or.inr ⟨w.go k H' (hG H' (s1.trans hs)) hlt, fun H'' => Same H1 H'' ∧ H'' E = some (.lst ((List.range (k + 1)).flatMap fun i => (List.range (c i)).map (f i))), fun H'' h => ⟨n - (k + 1), by omega, rfl, hlt, h.1, h.2⟩, fun x H2 hy => ?_⟩
    obtain ⟨rfl, rfl⟩ := w.yld k H' x H2 (hG H' (s1.trans hs)) hlt hy
    refine ⟨wipe2 σ a b hab _, ?_⟩
    refine rd_yes ?_
    refine rd_ifb (fun _ => ?_) (fun z => nomatch z)
    refine hi1 k hlt H2 (s1.trans hs) _ fun J1 H4 s4 w1 => ?_
    refine ⟨fun j q H' => q = c k - j ∧ j ≤ c k ∧ Same H1 H' ∧ H' E = some (.lst (((List.range k).flatMap fun i => (List.range (c i)).map (f i)) ++ (List.range j).map (f k))), ⟨c k, rfl, Nat.zero_le _, hs.trans s4, by rw [s4 _ _ hl]; exact congrArg (fun z => some (HO.lst z)) (List.append_nil _).symm⟩, ?_⟩
    rintro j q H5 ⟨rfl, hj, hs5, hl5⟩
    by_cases hlj : j < c k
    · refine Or.inr ⟨w1.go j H5 (hG1 k _ hlt (s1.trans hs5)) hlj, fun H'' => Same H1 H'' ∧ H'' E = some (.lst (((List.range k).flatMap fun i => (List.range (c i)).map (f i)) ++ (List.range (j + 1)).map (f k))), fun H'' h => ⟨c k - (j + 1), by omega, rfl, hlj, h.1, h.2⟩, fun x H6 hy => ?_⟩
      obtain ⟨rfl, rfl⟩ := w1.yld j H5 x H6 (hG1 k _ hlt (s1.trans hs5)) hlj hy
      rw [wipe_in σ a b hab]
      refine ⟨?_, ?_⟩
      · show ((((wipe σ [a, b]).set a (some (item k))).set b (some (item1 k j)))).set b none = _
        rw [List.set_set]
        exact (wipe_in σ a b hab _).trans rfl
      refine rd_yes ?_
      refine rd_ifb (fun _ => ?_) (fun z => nomatch z)
      refine he k j hlt hlj H6 (s1.trans hs5) _ fun H7 s7 => ?_
      refine ⟨_, s7 _ _ hl5, ?_, same_up hE (hs5.trans s7), ?_⟩
      · rw [List.length_append, List.length_map, List.length_range]
        have h1 := len k hk
        have h2 := hc k hlt
        exact Nat.lt_of_le_of_lt (by omega : _ ≤ 1000) (by decide)
      · rw [upd_same, List.range_succ, List.map_append, List.append_assoc]
        rfl
    · have e : j = c k := by omega
      subst e
      refine Or.inl ⟨w1.stop H5 (hG1 k _ hlt (s1.trans hs5)), hs5, ?_⟩
      rw [hl5, List.range_succ, List.flatMap_append]
      simp only [List.flatMap_cons, List.flatMap_nil, List.append_nil]
  · have e : k = n := by omega
    subst e
    exact Or.inl ⟨w.stop H' (hG H' (s1.trans hs)), hd H' E (s1.trans hs) hl⟩
end
end Lay
namespace Lay
open PySem PySem.Spec PyProof.Rows L2
theorem pi_listK {X : Cx} {tg l : Expr} {tl : TE} {K : PySem.W.Frag} (e : X.K = K) (hl : PE X l tl) : PI X tg l (iList K tl) := by
  subst e
  exact pi_list hl
end Lay
/-! LayO: lists of new lists, none of them told twice; writing into them. -/
namespace Lay
open PySem PySem.Spec PyProof.Rows L2
/-- a list of lists of numbers, none of them told twice; the list and they were not there in H0 -/
def LLf (H0 H : Hp) (p : Addr) (M : List (List Int)) : Prop := ∃ rs : List Addr, H p = some (.lst (rs.map V.ref)) ∧ rs.length = M.length ∧ rs.Nodup ∧ H0 p = none ∧ (∀ r ∈ rs, H0 r = none) ∧ ∀ (i : Nat) (r : Addr) (row : List Int), rs[i]? = some r → M[i]? = some row → Li H r row
theorem LLf.ll {H0 H : Hp} {p : Addr} {M : List (List Int)} (h : LLf H0 H p M) : LL H p M := by
  obtain ⟨rs, h1, h2, _, _, _, h3⟩ := h
  exact ⟨rs, h1, h2, h3⟩
theorem LLf.same {H0 H H' : Hp} {p : Addr} {M : List (List Int)} (s : Same H H') (h : LLf H0 H p M) : LLf H0 H' p M := by
  obtain ⟨rs, h1, h2, hn, f1, f2, h3⟩ := h
  exact ⟨rs, s _ _ h1, h2, hn, f1, f2, fun i r row e1 e2 => s _ _ (h3 i r row e1 e2)⟩
theorem LLf.but {H0 H H' : Hp} {a p : Addr} {M : List (List Int)} (ha : H0 a ≠ none) (s : But a H H') (h : LLf H0 H p M) : LLf H0 H' p M := by
  obtain ⟨rs, h1, h2, hn, f1, f2, h3⟩ := h
  exact ⟨rs, s _ _ (fun z => ha (z ▸ f1)) h1, h2, hn, f1, f2, fun i r row e1 e2 => s _ _ (fun z => ha (z ▸ f2 r (List.mem_of_getElem? e1))) (h3 i r row e1 e2)⟩
theorem BagAt.live {H : Hp} {a : Addr} (h : BagAt H a) : H a ≠ none := fun z => by
  obtain ⟨_, _, _, e, _⟩ := h
  rw [z] at e
  cases e
theorem BagAt.same {H H' : Hp} {a : Addr} (s : Same H H') (h : BagAt H a) : BagAt H' a := by
  obtain ⟨g, m, c, e, r⟩ := h
  exact ⟨g, m, c, s _ _ e, r⟩
theorem But.same {a : Addr} {H H' : Hp} (s : Same H H') : But a H H' := fun b o _ e => s b o e
theorem But.free {a b : Addr} {H H' : Hp} (s : But a H H') (nb : b ≠ a) (h : H' b = none) : H b = none := by
  cases e : H b with
  | none => rfl
  | some o =>
    rw [s b o nb e] at h
    cases h
/-- two lists of rows put together -/
theorem LL.join {H : Hp} {q : Addr} {us ts : List Addr} {A B : List (List Int)} (hu : us.length = A.length) (ht : ts.length = B.length) (ru : ∀ (i : Nat) (r : Addr) (row : List Int), us[i]? = some r → A[i]? = some row → Li H r row) (rt : ∀ (i : Nat) (r : Addr) (row : List Int), ts[i]? = some r → B[i]? = some row → Li H r row) (hq : H q = some (.lst (us.map V.ref ++ ts.map V.ref))) : LL H q (A ++ B) := by
  refine ⟨us ++ ts, by rw [List.map_append]; exact hq, by rw [List.length_append, List.length_append, hu, ht], fun i r row e1 e2 => ?_⟩
  rcases Nat.lt_or_ge i us.length with y | y
  · rw [List.getElem?_append_left y] at e1
    rw [List.getElem?_append_left (by omega)] at e2
    exact ru i r row e1 e2
  · rw [List.getElem?_append_right y] at e1
    rw [List.getElem?_append_right (by omega)] at e2
    exact rt _ r row e1 (by rw [hu]; exact e2)
/-- all lots of the numbers below n, as the law has them -/
def lotsI (n : Nat) : List (List Int) := (Alg.lots n).map fun l => l.map fun (j : Nat) => (j : Int)
theorem lotsI_succ (n : Nat) : lotsI (n + 1) = lotsI n ++ (lotsI n).map fun l => l ++ [(n : Int)] := by
  unfold lotsI
  show ((Alg.lots n ++ (Alg.lots n).map fun l => l ++ [n]).map _) = _
  rw [List.map_append, List.map_map, List.map_map]
  congr 1
  exact List.map_congr_left fun l _ => by
    show (l ++ [n]).map _ = l.map _ ++ [(n : Int)]
    rw [List.map_append]
    rfl
theorem lotsI_len (n : Nat) : (lotsI n).length = 2 ^ n := by
  unfold lotsI
  rw [List.length_map, Alg.lots_len]
section
variable {σ : L2.St} {H H1 : Hp} {Q : VK} {K : PySem.W.Frag}
/-- a comprehension whose items are new objects, each one another one -/
theorem lc_new {J : It} {n : Nat} {G : Hp → Prop} {item : Nat → V} (w : Wk J n G item) {i : Nat} {te : TE} {E : Addr} (hn : n ≤ 1000) (hE : H1 E = none) (hG : ∀ H', Same H1 H' → G H') (P : Nat → Addr → Hp → Prop) (mono : ∀ j t H H', (∀ o, H t = some o → H' t = some o) → P j t H → P j t H') (live : ∀ j t H, P j t H → H t ≠ none)
    (he : ∀ j, j < n → ∀ H' o, Same H1 H' → H' E = some o → ∀ R : VK, (∀ t H'', H' t = none → Same H' H'' → P j t H'' → R (.ref t) H'') → te ((wipe σ [i]).set i (some (item j))) H' R)
    (hd : ∀ (rs : List Addr) H', Same H1 H' → rs.length = n → rs.Nodup → (∀ (j : Nat) (t : Addr), rs[j]? = some t → P j t H') → (∀ t ∈ rs, H1 t = none) → E ∉ rs → H' E = some (.lst (rs.map V.ref)) → Q (.ref E) H') : LcAt J (gName i) tYes te [i] σ E H1 Q := by
  refine ⟨fun k m H' => m = n - k ∧ k ≤ n ∧ Same H1 H' ∧ ∃ rs : List Addr, rs.length = k ∧ rs.Nodup ∧ (∀ (j : Nat) (t : Addr), rs[j]? = some t → P j t H') ∧ (∀ t ∈ rs, H1 t = none) ∧ E ∉ rs ∧ H' E = some (.lst (rs.map V.ref)), ⟨n, rfl, Nat.zero_le _, same_up hE (Same.refl H1), [], rfl, List.nodup_nil, (fun j v e => by cases e), (fun _ z => nomatch z), (fun z => nomatch z), upd_same⟩, ?_⟩
  rintro k m H' ⟨rfl, hk, hs, rs, hy, hnd, hP, hfr, hEr, hl⟩
  by_cases hlt : k < n
  · refine Or.inr ⟨w.go k H' (hG H' hs) hlt, fun H'' => Same H1 H'' ∧ ∃ rs : List Addr, rs.length = k + 1 ∧ rs.Nodup ∧ (∀ (j : Nat) (t : Addr), rs[j]? = some t → P j t H'') ∧ (∀ t ∈ rs, H1 t = none) ∧ E ∉ rs ∧ H'' E = some (.lst (rs.map V.ref)), fun H'' h => ⟨n - (k + 1), by omega, rfl, hlt, h⟩, fun x H2 hx => ?_⟩
    obtain ⟨rfl, rfl⟩ := w.yld k H' x H2 (hG H' hs) hlt hx
    refine ⟨wipe1 σ i _, ?_⟩
    refine rd_yes ?_
    refine rd_ifb (fun _ => ?_) (fun z => nomatch z)
    refine he k hlt H2 _ hs hl _ fun t H3 ht s3 pt => ?_
    have nt : t ∉ rs := fun hm => by
      obtain ⟨j, hj⟩ := List.getElem?_of_mem hm
      exact live j t H2 (hP j t hj) ht
    have nE : t ≠ E := fun z => by
      rw [z, hl] at ht
      cases ht
    refine ⟨rs.map V.ref, s3 _ _ hl, Nat.lt_of_le_of_lt (by rw [List.length_map]; omega : _ ≤ 1000) (by decide), same_up hE (hs.trans s3), rs ++ [t], by rw [List.length_append, hy]; rfl, ?_, fun j u e => ?_, ?_, ?_, by rw [upd_same, List.map_append]; rfl⟩
    · rw [List.nodup_append]
      refine ⟨hnd, List.pairwise_singleton _ _, fun x hx y hy z => ?_⟩
      cases List.mem_singleton.mp hy
      exact nt (z ▸ hx)
    · rcases Nat.lt_or_ge j rs.length with q | q
      · rw [List.getElem?_append_left q] at e
        exact mono j u _ _ (fun o ho => up_oth (fun z => hEr (z ▸ List.mem_of_getElem? e)) (s3 _ _ ho)) (hP j u e)
      · rw [List.getElem?_append_right q] at e
        have j0 : j - rs.length = 0 := by
          rcases Nat.eq_zero_or_pos (j - rs.length) with y | y
          · exact y
          · rw [List.getElem?_eq_none (by show 1 ≤ j - rs.length; exact y)] at e
            cases e
        rw [j0] at e
        obtain rfl := Option.some.inj e
        have jk : j = k := by omega
        subst jk
        exact mono _ _ _ _ (fun o ho => up_oth nE ho) pt
    · intro x hx
      rcases List.mem_append.mp hx with z | z
      · exact hfr x z
      · cases List.mem_singleton.mp z
        exact hs.free ht
    · intro hx
      rcases List.mem_append.mp hx with z | z
      · exact hEr z
      · exact nE (List.mem_singleton.mp z).symm
  · have e : k = n := by omega
    subst e
    exact Or.inl ⟨w.stop H' (hG H' hs), hd rs H' hs hy hnd hP hfr hEr hl⟩
/-- the same over a range, where each item draws from a bag -/
theorem lc_newB {n i : Nat} {te : TE} {E a : Addr} (hn : n ≤ 1000) (hE : H1 E = none) (hb : BagAt H1 a) (P : Nat → Addr → Hp → Prop) (mono : ∀ j t H H', (∀ o, H t = some o → H' t = some o) → P j t H → P j t H') (live : ∀ j t H, P j t H → H t ≠ none)
    (he : ∀ j, j < n → ∀ H', But a H1 H' → BagAt H' a → ∀ R : VK, (∀ t H'', H' t = none → But a H' H'' → BagAt H'' a → P j t H'' → R (.ref t) H'') → te ((wipe σ [i]).set i (some (.int (0 + (j : Int))))) H' R)
    (hd : ∀ (rs : List Addr) H', rs.length = n → rs.Nodup → (∀ (j : Nat) (t : Addr), rs[j]? = some t → P j t H') → (∀ t ∈ rs, H1 t = none) → E ∉ rs → But a H1 H' → BagAt H' a → H' E = some (.lst (rs.map V.ref)) → Q (.ref E) H') : LcAt (Itr 0 n) (gName i) tYes te [i] σ E H1 Q := by
  have nE : E ≠ a := fun z => by
    obtain ⟨_, _, _, e, _⟩ := hb
    rw [← z, hE] at e
    cases e
  have la : H1 a ≠ none := fun z => by
    obtain ⟨_, _, _, e, _⟩ := hb
    rw [z] at e
    cases e
  refine ⟨fun k m H' => m = n - k ∧ k ≤ n ∧ ∃ rs : List Addr, rs.length = k ∧ rs.Nodup ∧ (∀ (j : Nat) (t : Addr), rs[j]? = some t → P j t H') ∧ (∀ t ∈ rs, H1 t = none) ∧ E ∉ rs ∧ But a H1 H' ∧ BagAt H' a ∧ H' E = some (.lst (rs.map V.ref)), ⟨n, rfl, Nat.zero_le _, [], rfl, List.nodup_nil, (fun j v e => by cases e), (fun _ z => nomatch z), (fun z => nomatch z), But.new hE, BagAt.old hE hb, upd_same⟩, ?_⟩
  rintro k m H' ⟨rfl, hk, rs, hy, hnd, hP, hfr, hEr, bu, hb', hl⟩
  by_cases hlt : k < n
  · refine Or.inr ⟨hlt, fun H'' => ∃ rs : List Addr, rs.length = k + 1 ∧ rs.Nodup ∧ (∀ (j : Nat) (t : Addr), rs[j]? = some t → P j t H'') ∧ (∀ t ∈ rs, H1 t = none) ∧ E ∉ rs ∧ But a H1 H'' ∧ BagAt H'' a ∧ H'' E = some (.lst (rs.map V.ref)), fun H'' h => ⟨n - (k + 1), by omega, rfl, hlt, h⟩, fun x H2 hx => ?_⟩
    obtain ⟨rfl, rfl⟩ := hx
    refine ⟨wipe1 σ i _, ?_⟩
    refine rd_yes ?_
    refine rd_ifb (fun _ => ?_) (fun z => nomatch z)
    refine he k hlt H2 bu hb' _ fun t H3 ht b3 g3 pt => ?_
    have nt : t ∉ rs := fun hm => by
      obtain ⟨j, hj⟩ := List.getElem?_of_mem hm
      exact live j t H2 (hP j t hj) ht
    have ntE : t ≠ E := fun z => by
      rw [z, hl] at ht
      cases ht
    have nta : t ≠ a := fun z => by
      obtain ⟨_, _, _, e, _⟩ := hb'
      rw [z, e] at ht
      cases ht
    have free : H1 t = none := by
      cases h : H1 t with
      | none => rfl
      | some o =>
        rw [bu t o nta h] at ht
        cases ht
    have na : ∀ u ∈ rs, u ≠ a := fun u hu z => la (z ▸ hfr u hu)
    refine ⟨rs.map V.ref, b3 _ _ nE hl, Nat.lt_of_le_of_lt (by rw [List.length_map]; omega : _ ≤ 1000) (by decide), rs ++ [t], by rw [List.length_append, hy]; rfl, ?_, fun j u e => ?_, ?_, ?_, ?_, ?_, by rw [upd_same, List.map_append]; rfl⟩
    · rw [List.nodup_append]
      refine ⟨hnd, List.pairwise_singleton _ _, fun x hx y hy z => ?_⟩
      cases List.mem_singleton.mp hy
      exact nt (z ▸ hx)
    · rcases Nat.lt_or_ge j rs.length with q | q
      · rw [List.getElem?_append_left q] at e
        have hm := List.mem_of_getElem? e
        exact mono j u _ _ (fun o ho => up_oth (fun z => hEr (z ▸ hm)) (b3 _ _ (na u hm) ho)) (hP j u e)
      · rw [List.getElem?_append_right q] at e
        have j0 : j - rs.length = 0 := by
          rcases Nat.eq_zero_or_pos (j - rs.length) with y | y
          · exact y
          · rw [List.getElem?_eq_none (by show 1 ≤ j - rs.length; exact y)] at e
            cases e
        rw [j0] at e
        obtain rfl := Option.some.inj e
        have jk : j = k := by omega
        subst jk
        exact mono _ _ _ _ (fun o ho => up_oth ntE ho) pt
    · intro x hx
      rcases List.mem_append.mp hx with z | z
      · exact hfr x z
      · cases List.mem_singleton.mp z
        exact free
    · intro hx
      rcases List.mem_append.mp hx with z | z
      · exact hEr z
      · exact ntE (List.mem_singleton.mp z).symm
    · intro b o nb e
      rw [upd_ne (ne_of_none e hE)]
      exact b3 b o nb (bu b o nb e)
    · obtain ⟨g, m, c, e, r⟩ := g3
      exact ⟨g, m, c, up_oth nE.symm e, r⟩
  · have e : k = n := by omega
    subst e
    exact Or.inl ⟨Nat.le_refl _, hd rs H' hy hnd hP hfr hEr bu hb' hl⟩
end
/-- the rows that were made -/
theorem LLf.of {H0 H : Hp} {E : Addr} {n : Nat} {rs : List Addr} (row : Nat → List Int) (hl : H E = some (.lst (rs.map V.ref))) (hn : rs.length = n) (nd : rs.Nodup) (f1 : H0 E = none) (f2 : ∀ r ∈ rs, H0 r = none) (hP : ∀ (j : Nat) (t : Addr), rs[j]? = some t → Li H t (row j)) : LLf H0 H E ((List.range n).map row) :=
  ⟨rs, hl, by rw [hn, List.length_map, List.length_range], nd, f1, f2, fun i r w e1 e2 => by
    have hi : i < n := by
      have := (List.getElem?_eq_some_iff.mp e1).1
      omega
    rw [List.getElem?_map, List.getElem?_range hi] at e2
    cases e2
    exact hP i r e1⟩
/-- a row of each -/
theorem rows_of {H : Hp} {n m : Nat} {rs : List Addr} (P : Int → Prop) (hn : rs.length = n) (hP : ∀ (j : Nat) (t : Addr), rs[j]? = some t → ∃ ns : List Int, Li H t ns ∧ ns.length = m ∧ ∀ x ∈ ns, P x) : ∃ S : List (List Int), S.length = n ∧ (∀ r ∈ S, r.length = m ∧ ∀ x ∈ r, P x) ∧ ∀ (i : Nat) (r : Addr) (row : List Int), rs[i]? = some r → S[i]? = some row → Li H r row := by
  induction rs generalizing n with
  | nil => exact ⟨[], hn, (fun _ z => nomatch z), fun i r row e => by cases e⟩
  | cons a rs ih =>
    obtain ⟨k, rfl⟩ : ∃ k, n = k + 1 := ⟨rs.length, hn.symm⟩
    obtain ⟨S, s1, s2, s3⟩ := ih (n := k) (Nat.succ.inj hn) fun j t e => hP (j + 1) t (by rw [List.getElem?_cons_succ]; exact e)
    obtain ⟨ns, l1, l2, l3⟩ := hP 0 a rfl
    refine ⟨ns :: S, by rw [List.length_cons, s1], fun r hr => ?_, fun i r row e1 e2 => ?_⟩
    · rcases List.mem_cons.mp hr with rfl | z
      · exact ⟨l2, l3⟩
      · exact s2 r z
    · cases i with
      | zero => cases e1; cases e2; exact l1
      | succ i => exact s3 i r row (by rw [List.getElem?_cons_succ] at e1; exact e1) (by rw [List.getElem?_cons_succ] at e2; exact e2)
/-- an entry is put in -/
def put (M : List (List Int)) (i j : Nat) (v : Int) : List (List Int) := M.set i ((M.getD i []).set j v)
theorem put_len (M : List (List Int)) (i j : Nat) (v : Int) : (put M i j v).length = M.length := List.length_set
theorem put_wide {n : Nat} {M : List (List Int)} {i j : Nat} {v : Int} (h : ∀ r ∈ M, r.length = n) (hi : i < M.length) : ∀ r ∈ put M i j v, r.length = n := fun r hr => by
  rcases List.mem_or_eq_of_mem_set hr with z | z
  · exact h r z
  · rw [z, List.length_set]
    refine h _ ?_
    rw [List.getD_eq_getElem?_getD, List.getElem?_eq_getElem hi]
    exact List.getElem_mem hi
theorem row_put {n : Nat} {M : List (List Int)} {i j : Nat} {v : Int} (h : ∀ r ∈ M, r.length = n) (hi : i < M.length) (hj : j < n) (a b : Nat) : ((put M i j v).getD a []).getD b 0 = if a = i ∧ b = j then v else (M.getD a []).getD b 0 := by
  have hw : (M.getD i []).length = n := by
    refine h _ ?_
    rw [List.getD_eq_getElem?_getD, List.getElem?_eq_getElem hi]
    exact List.getElem_mem hi
  unfold put
  by_cases e : a = i
  · subst e
    rw [List.getD_eq_getElem?_getD (l := M.set a _), List.getElem?_set_self hi, Option.getD_some]
    by_cases f : b = j
    · subst f
      rw [if_pos ⟨rfl, rfl⟩, List.getD_eq_getElem?_getD, List.getElem?_set_self (by omega)]
      rfl
    · rw [if_neg (fun z => f z.2), List.getD_eq_getElem?_getD, List.getElem?_set_ne (fun z => f z.symm), ← List.getD_eq_getElem?_getD]
  · rw [if_neg (fun z => e z.1), List.getD_eq_getElem?_getD (l := M.set i _), List.getElem?_set_ne (fun z => e z.symm), ← List.getD_eq_getElem?_getD]
theorem LLf.put {H0 H : Hp} {p : Addr} {M : List (List Int)} {i j : Nat} {v : Int} (h : LLf H0 H p M) (hi : i < M.length) (hj : j < (M.getD i []).length) : ∃ (rs : List Addr) (r : Addr), H p = some (.lst (rs.map V.ref)) ∧ rs[i]? = some r ∧ H r = some (.lst ((M.getD i []).map V.int)) ∧ r ≠ p ∧ H0 r = none ∧ LLf H0 (upd H r (.lst (((M.getD i []).set j v).map V.int))) p (Lay.put M i j v) := by
  obtain ⟨rs, h1, h2, hn, g1, g2, h3⟩ := h
  have il : i < rs.length := by omega
  have e1 : rs[i]? = some rs[i] := List.getElem?_eq_getElem il
  have e2 : M[i]? = some (M.getD i []) := by rw [List.getD_eq_getElem?_getD, List.getElem?_eq_getElem hi]; rfl
  have e3 := h3 i _ _ e1 e2
  have np : rs[i] ≠ p := fun z => by
    have e4 : H p = some (.lst ((M.getD i []).map V.int)) := z ▸ e3
    rw [h1] at e4
    injection e4 with e4
    injection e4 with e4
    cases hc : M.getD i [] with
    | nil => rw [hc] at hj; cases hj
    | cons x y =>
      rw [hc] at e4
      cases hr : rs with
      | nil => rw [hr] at e4; cases e4
      | cons u w => rw [hr] at e4; cases e4
  refine ⟨rs, rs[i], h1, e1, e3, np, g2 _ (List.getElem_mem il), rs, up_oth (Ne.symm np) h1, by rw [put_len]; exact h2, hn, g1, g2, fun a r w f1 f2 => ?_⟩
  by_cases e : i = a
  · subst e
    rw [e1] at f1
    cases f1
    unfold Lay.put at f2
    rw [List.getElem?_set_self hi] at f2
    cases f2
    exact upd_same
  · unfold Lay.put at f2
    rw [List.getElem?_set_ne e] at f2
    have ne : r ≠ rs[i] := fun z => by
      have l1 := (List.getElem?_eq_some_iff.mp f1)
      obtain ⟨l1, l2⟩ := l1
      exact e ((List.getElem_inj hn).mp ((l2.trans z).symm))
    exact up_oth ne (h3 a r w f1 f2)
end Lay
namespace Lay
open PySem PySem.Spec PyProof.Rows L2
theorem dp_ones {K : PySem.W.Frag} {H : Hp} : ∀ l : List Nat, DpAll K H (l.map fun _ => V.int 1) (l.map fun _ => PyData.int 1)
  | [] => .nil
  | _ :: r => .cons (.int 1) (dp_ones r)
theorem ones_shaped (l : List Nat) : SeqAt.shaped (.list (l.map fun _ => PyData.int 1)) = true := shaped_listN (n := 0) (by decide) fun d hd => by
  obtain ⟨r, _, rfl⟩ := List.mem_map.mp hd
  exact ⟨rfl, Nat.le_refl _⟩
end Lay
namespace Lay
open PySem PySem.Spec PyProof.Rows L2
theorem eqvAll_dec : ∀ r s : List Int, PyData.eqvAll (r.map PyData.int) (s.map PyData.int) = decide (r = s)
  | [], [] => by simp only [List.map_nil, PyData.eqvAll]; rfl
  | [], y :: s => by simp only [List.map_nil, List.map_cons, PyData.eqvAll]; exact (decide_eq_false (fun z => nomatch z)).symm
  | x :: r, [] => by simp only [List.map_nil, List.map_cons, PyData.eqvAll]; exact (decide_eq_false (fun z => nomatch z)).symm
  | x :: r, y :: s => by
    simp only [List.map_cons, PyData.eqvAll, PyData.eqv, eqvAll_dec r s]
    by_cases h1 : x = y
    · by_cases h2 : r = s
      · rw [h1, h2]
        simp
      · rw [decide_eq_false h2, Bool.and_false, decide_eq_false (fun z => h2 (List.cons.inj z).2)]
    · have e : (x == y) = false := beq_eq_false_iff_ne.mpr h1
      rw [decide_eq_false (fun z => h1 (List.cons.inj z).1)]
      simp [h1]
theorem eqv_rowD (r s : List Int) : PyData.eqv (rowD r) (rowD s) = decide (r = s) := by
  unfold rowD
  simp only [PyData.eqv]
  exact eqvAll_dec r s
theorem rowD_shaped (r : List Int) : SeqAt.shaped (rowD r) = true := shaped_listN (n := 0) (by decide) fun d hd => by
  obtain ⟨x, _, rfl⟩ := List.mem_map.mp hd
  exact ⟨rfl, Nat.le_refl _⟩
theorem Li.dp {K : PySem.W.Frag} {H : Hp} {p : Addr} {r : List Int} (h : Li H p r) : Dp K H (.ref p) (rowD r) := .lst (SqL.of h) (dp_ints r)
theorem rep_zeros (n : Nat) : (List.replicate n [V.int 0]).flatten = (List.replicate n (0 : Int)).map V.int := by
  rw [List.map_replicate]
  induction n with
  | zero => rfl
  | succ n ih =>
    rw [List.replicate_succ, List.flatten_cons, ih]
    rfl
end Lay
/-! LayP: x, *ys = a list or a tuple. -/
namespace Lay
open PySem PySem.Spec PySem.Calls PySem.W PyProof.Rows L2
section
variable {P : Program} {w : World} {A : Around} {E : Value → Shared → Prop} {s : Shared}
theorem star_end {Q : List Value → Shared → Prop} {x : Value} {r : List Value} {h2 : Heap} {tk : Nat} (hr : r.length ≤ sizeLine)
    (q : Q [x, .ref h2.objs.size] { s with heap := h2.push { cls := .type "list", data := .seq r.toArray }, toks := tk }) :
    wpAny (model P w) A (newList (r.take (r.length - 0)) >>= fun d => pure ([x] ++ [d] ++ r.drop (r.length - 0))) Q E { s with heap := h2, toks := tk } := by
  have e1 : r.take (r.length - 0) = r := List.take_of_length_le (by omega)
  have e2 : r.drop (r.length - 0) = [] := List.drop_of_length_le (by omega)
  rw [e1, e2]
  exact wpAny_bind (PySem.wpAny_newList (wpAny_pure q))
theorem star_list {l : Addr} {x : Value} {r : List Value} {Q : List Value → Shared → Prop} (hl : s.heap.IsList l (x :: r).toArray) (hh : A.handled = none) (hz : (x :: r).length ≤ sizeLine)
    (q : ∀ (h2 : Heap) (tk : Nat), (∀ b o, s.heap.get? b = some o → h2.get? b = some o) → Q [x, .ref h2.objs.size] { s with heap := h2.push { cls := .type "list", data := .seq r.toArray }, toks := tk }) :
    wpAny (model P w) A (unpackItems (.ref l) 2 (some 1)) Q E s := by
  have hll : l < s.heap.objs.size := by
    obtain ⟨o, ho, _⟩ := hl
    exact Heap.lt_size ho
  have sz : (x :: r).toArray.size = r.length + 1 := rfl
  unfold unpackItems notIterableAtAll
  refine wpAny_bind (wpAny_bind (wpAny_specialOf hl.typeIs slot_list_iter.lookup (wpAny_pure ?_)))
  rw [if_neg (by decide)]
  refine wpAny_bind (wpAny_holding (wpAny_pyIter_list hl ?_))
  refine wpAny_bind (wpAny_holding (kun_draw (Nat.ne_of_lt hll) 1 0 _ _ ⟨_, Heap.get?_push_size _ rfl, rfl, rfl⟩ (hl.push _) (by rw [sz]; omega) fun h1 hit hsb => ?_))
  have hl1 : h1.IsList l (x :: r).toArray := (hl.push _).extBut hsb.extBut (Nat.ne_of_lt hll)
  obtain ⟨oi, hoi, hoj⟩ := id hit
  obtain ⟨ol, hol, _⟩ := id hl1
  show wpAny _ _ (if ([x] : List Value).length < 1 then _ else _) _ _ _
  rw [if_neg (show ¬ ([x] : List Value).length < 1 from Nat.lt_irrefl 1)]
  refine wpAny_bind (wpAny_holding (kun_collect (s := { s with heap := h1 }) (T := "list_iterator") (Or.inr (Or.inr (Or.inl rfl))) (Walks.list (A := A.in1) hh s.heap.objs.size l (Nat.ne_of_lt hll) (x :: r).toArray) (fun j u st => st.1.typeIs) (k := 1) (by rw [sz]; omega) ⟨hit, hl1⟩ (Heap.lt_size hoi) (Heap.lt_size hol) (fun h2 tk hk => ?_) (by rw [sz]; exact hz)))
  show wpAny _ _ (if r.length < 0 then _ else _) _ _ _
  rw [if_neg (by omega)]
  refine star_end (Nat.le_of_succ_le hz) (q h2 tk (fun b o e => hk b o (Nat.ne_of_lt (Heap.lt_size e)) (hsb.extBut b o (Nat.ne_of_lt (Heap.lt_size e)) (Heap.get?_push_of_some _ e))))
theorem star_tup {l : Addr} {x : Value} {r : List Value} {Q : List Value → Shared → Prop} (hl : IsTup s.heap l (x :: r).toArray) (hh : A.handled = none) (hz : (x :: r).length ≤ sizeLine)
    (q : ∀ (h2 : Heap) (tk : Nat), (∀ b o, s.heap.get? b = some o → h2.get? b = some o) → Q [x, .ref h2.objs.size] { s with heap := h2.push { cls := .type "list", data := .seq r.toArray }, toks := tk }) :
    wpAny (model P w) A (unpackItems (.ref l) 2 (some 1)) Q E s := by
  have hll : l < s.heap.objs.size := by
    obtain ⟨o, ho, _⟩ := hl
    exact Heap.lt_size ho
  have sz : (x :: r).toArray.size = r.length + 1 := rfl
  unfold unpackItems notIterableAtAll
  refine wpAny_bind (wpAny_bind (wpAny_specialOf hl.typeIs slot_tuple_iter.lookup (wpAny_pure ?_)))
  rw [if_neg (by decide)]
  refine wpAny_bind (wpAny_holding (iter_tuple hl ?_))
  refine wpAny_bind (wpAny_holding (draw_tuple (Nat.ne_of_lt hll) 1 0 _ _ ⟨_, Heap.get?_push_size _ rfl, rfl, rfl⟩ (hl.push _) (by rw [sz]; omega) fun h1 hit hsb => ?_))
  have hl1 : IsTup h1 l (x :: r).toArray := (hl.push _).extBut hsb.extBut (Nat.ne_of_lt hll)
  obtain ⟨oi, hoi, hoj⟩ := id hit
  obtain ⟨ol, hol, _⟩ := id hl1
  show wpAny _ _ (if ([x] : List Value).length < 1 then _ else _) _ _ _
  rw [if_neg (show ¬ ([x] : List Value).length < 1 from Nat.lt_irrefl 1)]
  refine wpAny_bind (wpAny_holding (kun_collect (s := { s with heap := h1 }) (T := "tuple_iterator") (Or.inr (Or.inr (Or.inr rfl))) (Walks.tuple (A := A.in1) hh s.heap.objs.size l (Nat.ne_of_lt hll) (x :: r).toArray) (fun j u st => st.1.typeIs) (k := 1) (by rw [sz]; omega) ⟨hit, hl1⟩ (Heap.lt_size hoi) (Heap.lt_size hol) (fun h2 tk hk => ?_) (by rw [sz]; exact hz)))
  show wpAny _ _ (if r.length < 0 then _ else _) _ _ _
  rw [if_neg (by omega)]
  refine star_end (Nat.le_of_succ_le hz) (q h2 tk (fun b o e => hk b o (Nat.ne_of_lt (Heap.lt_size e)) (hsb.extBut b o (Nat.ne_of_lt (Heap.lt_size e)) (Heap.get?_push_of_some _ e))))
end
/-- x, *ys = .. -/
def gStar (K : PySem.W.Frag) (t : TGs) : TG := fun v σ H Q => ∃ a x xs, v = .ref a ∧ (SqL K H a (x :: xs) ∨ SqT K H a (x :: xs)) ∧ ∀ D, H D = none → t [x, .ref D] σ (upd H D (.lst xs)) Q
theorem pg_star {X : Cx} {e1 e2 : Expr} {k : Nat} {p pos : Pos} {t : TGs} (hc : X.calm = true) (h : PGs X [e1, e2] t) (hn : (assignEach [e1, .Starred e2 p] X.env).length = 2 := by rfl) (hst : (assignEach [e1, .Starred e2 p] X.env).findIdx? (·.1) = some 1 := by rfl)
    (hm : (assignEach [e1, .Starred e2 p] X.env).map (·.2) = (assignEach [e1, e2] X.env).map (·.2) := by rfl) : PG X (.Tuple [e1, .Starred e2 p] k pos) (gStar X.K t) := by
  refine ⟨fun pins s σ H v u Q I r hw => ?_⟩
  obtain ⟨a, x, xs, rfl, hq, hw⟩ := hw
  cases r
  rw [PyProof.Rows.assign_Tuple]
  refine wpAny_bind (wpAny_standAt ?_)
  unfold unpack
  rw [hn, hst, hm]
  refine wpAny_bind (wpAny_holding ?_)
  rcases hq with hq | hq
  · obtain ⟨its, rv, pl, hz⟩ := I.list hq
    obtain ⟨u0, us, rfl⟩ : ∃ u0 us, its = u0 :: us := by
      cases rv
      exact ⟨_, _, rfl⟩
    have hl' : s.heap.IsList a (u0 :: us).toArray := by
      obtain ⟨o, m, e, c, d, q⟩ := pl
      exact ⟨o, e, c, m, q⟩
    refine star_list hl' (I.ok.hd hc) (by rw [← rv.length]; exact hz) fun h2 tk hk => ?_
    cases rv with
    | cons r1 r2 =>
      have I1 : Inv X pins σ H { s with heap := h2 } := I.kept (t' := s.toks) hk
      have hl2 : us.length ≤ sizeLine := by
        rw [← r2.length]
        exact Nat.le_of_succ_le hz
      exact h.run pins _ σ _ [x, .ref h2.objs.size] _ Q (I1.lnew (t' := tk) r2 (Nat.le_of_succ_le hz)) (.cons r1 (.cons rfl .nil)) (hw _ I1.fresh)
  · obtain ⟨its, rv, pl, hz⟩ := I.tuple hq
    obtain ⟨u0, us, rfl⟩ : ∃ u0 us, its = u0 :: us := by
      cases rv
      exact ⟨_, _, rfl⟩
    refine star_tup pl (I.ok.hd hc) (by rw [← rv.length]; exact hz) fun h2 tk hk => ?_
    cases rv with
    | cons r1 r2 =>
      have I1 : Inv X pins σ H { s with heap := h2 } := I.kept (t' := s.toks) hk
      exact h.run pins _ σ _ [x, .ref h2.objs.size] _ Q (I1.lnew (t' := tk) r2 (Nat.le_of_succ_le hz)) (.cons r1 (.cons rfl .nil)) (hw _ I1.fresh)
end Lay
/-! LayQ: zip of two of which each is a list or a tuple; slices of either. -/
namespace Lay
open PySem PySem.Spec PySem.Calls PyProof.Rows L2
/-- a list (true) or a tuple (false) -/
def Kq (K : PySem.W.Frag) (H : Hp) : Bool → Addr → List V → Prop
  | true, a, xs => SqL K H a xs
  | false, a, xs => SqT K H a xs
def seqAt : Bool → Heap → Addr → Array Value → Prop
  | true, h, a, its => h.IsList a its
  | false, h, a, its => h.IsTuple a its
def itAt : Bool → Heap → Addr → Addr → Nat → Prop
  | true, h, it, a, n => h.IsListIter it a n
  | false, h, it, a, n => h.IsTupleIter it a n
def itOb : Bool → Addr → Obj
  | true, a => { cls := .type "list_iterator", data := .fields #[.ref a, .int 0 0] }
  | false, a => { cls := .type "tuple_iterator", data := .fields #[.ref a, .int 0 0] }
section
variable {X : Cx} {pins : List (Addr × Obj)} {σ : L2.St} {H : Hp} {s : Shared} {a : Addr} {xs ys : List V}
theorem kd_of (I : Inv X pins σ H s) : ∀ {k : Bool}, Kq X.K H k a xs → ∃ its : List Value, Vals xs its ∧ seqAt k s.heap a its.toArray ∧ a < s.heap.objs.size
  | true, h => by
    obtain ⟨its, rv, pl, _⟩ := I.list h
    exact ⟨its, rv, pl.isList, pl.lt⟩
  | false, h => by
    obtain ⟨its, rv, pl, _⟩ := I.tuple h
    obtain ⟨o, ho, _⟩ := id pl
    exact ⟨its, rv, pl, Heap.lt_size ho⟩
theorem kd_inj (I : Inv X pins σ H s) : ∀ {k : Bool}, Kq X.K H k a xs → Kq X.K H k a ys → xs = ys
  | true, h, g => I.list_inj h g
  | false, h, g => I.tuple_inj h g
theorem kd_draws {P : Program} {w : World} {A : Around} (hh : A.handled = none) (it b : Addr) (hne : b ≠ it) (its : Array Value) : ∀ k : Bool, Draws P w A it [it, b] its.size (fun n v => its[n]? = some v) (fun n h => itAt k h it b n ∧ seqAt k h b its)
  | true => Draws.list hh it b hne its
  | false => Draws.tuple hh it b hne its
theorem kd_begins (b : Addr) (its : Array Value) : ∀ k : Bool, Begins (.ref b) (itOb k b) (fun h => seqAt k h b its)
  | true => begins_list b its
  | false => begins_tuple b its
theorem itAt_keep {h h' : Heap} {it b : Addr} {n : Nat} (st : ∀ o, h.get? it = some o → h'.get? it = some o) : ∀ {k : Bool}, itAt k h it b n → itAt k h' it b n
  | true, x => x.at st
  | false, x => x.at st
theorem itAt_ob {h : Heap} {it b : Addr} {n : Nat} : ∀ {k : Bool}, itAt k h it b n → ∃ o, h.get? it = some o ∧ ∀ v, o.data ≠ .cell v
  | true, ⟨o, e, _, d⟩ => ⟨o, e, fun v q => by rw [d] at q; cases q⟩
  | false, ⟨o, e, _, d⟩ => ⟨o, e, fun v q => by rw [d] at q; cases q⟩
theorem itAt_new {h : Heap} {it b : Addr} : ∀ {k : Bool}, h.get? it = some (itOb k b) → itAt k h it b 0
  | true, e => ⟨_, e, rfl, rfl⟩
  | false, e => ⟨_, e, rfl, rfl⟩
end
/-- what stands at a beside what stands at b, in new pairs -/
def Itm (K : PySem.W.Frag) (k1 k2 : Bool) (a b : Addr) : It :=
  ⟨fun n H => ∃ xs ys x y, (Kq K H k1 a xs ∧ Kq K H k2 b ys) ∧ xs[n]? = some x ∧ ys[n]? = some y,
    fun n H v H' => ∃ T x y, (v = .ref T ∧ H T = none ∧ H' = upd H T (.tup [x, y])) ∧ (∀ xs, Kq K H k1 a xs → xs[n]? = some x) ∧ ∀ ys, Kq K H k2 b ys → ys[n]? = some y,
    fun n H => ∃ xs ys, (Kq K H k1 a xs ∧ Kq K H k2 b ys) ∧ n ≤ xs.length ∧ n ≤ ys.length ∧ (n = xs.length ∨ n = ys.length)⟩
theorem five {z t1 t2 j1 j2 c : Addr} (h : c ∈ [z, t1, t2, j1, j2]) : c = z ∨ c = t1 ∨ c = t2 ∨ c = j1 ∨ c = j2 := by simpa using h
theorem turn_m {P : Program} {w : World} {K : PySem.W.Frag} {elts : List Expr} {kk : Nat} {tp : Pos} {k1 k2 : Bool} {a b z t1 t2 j1 j2 : Addr} (S : ZipSep2 z t1 t2 j1 j2 [j1, a] [j2, b]) (na : a ≠ j1) (nb : b ≠ j2) :
    Turn P w K (.Tuple elts kk tp) (Itm K k1 k2 a b) [z, t1, t2, j1, j2] z (fun n h => (IsZip h z t1 t2 .none ∧ IsTupOf2 h t1 (.ref j1) (.ref j2) ∧ ∃ u v, IsTupOf2 h t2 u v) ∧ itAt k1 h j1 a n ∧ itAt k2 h j2 b n) where
  mem := List.mem_cons_self
  obj := fun n h ⟨⟨q1, q2, u, v, q3⟩, q4, q5⟩ c hc => by
    rcases five hc with rfl | rfl | rfl | rfl | rfl
    · exact ⟨_, q1, fun _ y => nomatch y⟩
    · exact ⟨_, q2, fun _ y => nomatch y⟩
    · exact ⟨_, q3, fun _ y => nomatch y⟩
    · exact itAt_ob q4
    · exact itAt_ob q5
  keep := fun n h h' ⟨⟨q1, q2, u, v, q3⟩, q4, q5⟩ st =>
    ⟨⟨st z (by simp) _ q1, st t1 (by simp) _ q2, u, v, st t2 (by simp) _ q3⟩, itAt_keep (st j1 (by simp)) q4, itAt_keep (st j2 (by simp)) q5⟩
  item := by
    intro X eP ew eK hc n pins s σ H E I fp ⟨⟨q1, q2, u0, v0, q3⟩, q4, q5⟩ hgo
    subst eP ew eK
    obtain ⟨xs, ys, x, y, ⟨ka, kb⟩, gx, gy⟩ := hgo
    obtain ⟨its, rv, sa, la⟩ := kd_of I ka
    obtain ⟨jts, rw2, sb, lb⟩ := kd_of I kb
    obtain ⟨u, gu, ru⟩ := rv.get gx
    obtain ⟨v, gv, rv2⟩ := rw2.get gy
    have hd := I.ok.hd hc
    have zl : z < s.heap.objs.size := Heap.lt_size q1
    have e1 : its.toArray[n]? = some u := by simpa using gu
    have e2 : jts.toArray[n]? = some v := by simpa using gv
    have n1 : n < its.toArray.size := (Array.getElem?_eq_some_iff.mp e1).1
    have n2 : n < jts.toArray.size := (Array.getElem?_eq_some_iff.mp e2).1
    refine wpAny_pyNext_zipD2_item S (kd_draws (A := X.A.in1) hd j1 a na its.toArray k1) (kd_draws (A := X.A.in1) hd j2 b nb jts.toArray k2) q1 q2 q3 ⟨q4, sa⟩ ⟨q5, sb⟩ n1 n2 fun x1 x2 h1 tk p1 p2 z1 z2 d1 d2 hT hz st => ?_
    obtain rfl : u = x1 := Option.some.inj (e1.symm.trans p1)
    obtain rfl : v = x2 := Option.some.inj (e2.symm.trans p2)
    refine ⟨_, rfl, wpAny_letOwnedTupleGo_zip (s := { s with heap := h1, toks := tk }) z1 fun h2 z3 sb2 => ?_⟩
    have zT : s.heap.objs.size ≠ z := Nat.ne_of_gt zl
    have all : ∀ c o, c ∉ [z, t1, t2, j1, j2] → s.heap.get? c = some o → h2.get? c = some o := fun c o hn g => by
      have m := fun y (hy : y ∈ [z, t1, t2, j1, j2]) (e : c = y) => hn (e ▸ hy)
      exact (sb2.2 c (m z (by simp))).trans (st c o (m z (by simp)) (m t2 (by simp)) (m j1 (by simp)) (m j2 (by simp)) g)
    have hob : ObjOk X.prog X.w (upd H s.heap.objs.size (.tup [x, y])) h2 s.heap.objs.size (.tup [x, y]) :=
      ⟨(by decide : 2 ≤ sizeLine), [u, v], .cons ru (.cons rv2 .nil), _, (sb2.2 _ zT).trans hT, rfl, _, rfl⟩
    have J := I.turnedNew (t' := tk) (ch := [z, t1, t2, j1, j2]) all fp (Nat.le_refl s.heap.objs.size) hob
    refine ⟨.ref s.heap.objs.size, _, J, rfl, ⟨s.heap.objs.size, x, y, ⟨rfl, I.hok.fresh (Nat.le_refl _), rfl⟩, fun l g => kd_inj I ka g ▸ gx, fun l g => kd_inj I kb g ▸ gy⟩, ⟨⟨z3, ?_, u, v, ?_⟩, ?_, ?_⟩, fun c hm => ?_⟩
    · exact (sb2.2 _ S.TIz).trans (st t1 _ S.TIz S.TITO S.TIi1 S.TIi2 q2)
    · exact (sb2.2 _ S.TOz).trans z2
    · exact itAt_keep (fun o g => (sb2.2 _ (Ne.symm S.zi1)).trans g) d1.1
    · exact itAt_keep (fun o g => (sb2.2 _ (Ne.symm S.zi2)).trans g) d2.1
    · have lt : c < s.heap.objs.size := by
        rcases five hm with rfl | rfl | rfl | rfl | rfl
        · exact zl
        · exact Heap.lt_size q2
        · exact Heap.lt_size q3
        · obtain ⟨o, g, _⟩ := itAt_ob q4
          exact Heap.lt_size g
        · obtain ⟨o, g, _⟩ := itAt_ob q5
          exact Heap.lt_size g
      rw [upd_ne (Nat.ne_of_lt lt)]
      exact (fp c hm).1
  done := by
    intro X eP ew eK hc n pins s σ H E I fp ⟨⟨q1, q2, u0, v0, q3⟩, q4, q5⟩ hst
    subst eP ew eK
    obtain ⟨xs, ys, ⟨ka, kb⟩, l1, l2, l3⟩ := hst
    obtain ⟨its, rv, sa, la⟩ := kd_of I ka
    obtain ⟨jts, rw2, sb, lb⟩ := kd_of I kb
    have hd := I.ok.hd hc
    have z1 : its.toArray.size = xs.length := rv.length.symm
    have z2 : jts.toArray.size = ys.length := rw2.length.symm
    refine wpAny_pyNext_zipD2_end S (kd_draws (A := X.A.in1) hd j1 a na its.toArray k1) (kd_draws (A := X.A.in1) hd j2 b nb jts.toArray k2) q1 q2 q3 ⟨q4, sa⟩ ⟨q5, sb⟩ (by omega) (by omega) (by omega) fun h1 tk st => ⟨rfl, ?_⟩
    exact I.turnedL (t' := tk) (ch := [z, t1, t2, j1, j2]) (fun c o hn g => by
      have m := fun y (hy : y ∈ [z, t1, t2, j1, j2]) (e : c = y) => hn (e ▸ hy)
      exact st c o (m z (by simp)) (m t2 (by simp)) (m j1 (by simp)) (m j2 (by simp)) g) fp
  self := fun A n s Q E st hq => wpAny_pyIter_zip st.1.1 hq
/-- zip of two, each a list or a tuple -/
def iZipM (K : PySem.W.Frag) (ta : TA) : TI := fun σ H R => ta σ H fun vs H1 => ∃ k1 k2 a b xs ys, vs = [.ref a, .ref b] ∧ (Kq K H1 k1 a xs ∧ Kq K H1 k2 b ys) ∧ R (Itm K k1 k2 a b) H1
theorem pi_zipM {X : Cx} {e e2 : Expr} {ta : TA} {p pos tp : Pos} {elts : List Expr} {kk : Nat} (hg : Gl X "zip") (hm : X.mg "zip" = none) (ha : PA X [e, e2] ta)
    (hs : starEach [e, e2] X.env = (false, eval e X.env) :: starEach [e2] X.env := by rfl) (hpl : (backTo pos (starEach [e2] X.env)).any (·.1) = false := by rfl) :
    PI X (.Tuple elts kk tp) (.Call (.Name "zip" p) [e, e2] [] pos) (iZipM X.K ta) := by
  refine ⟨fun pins s σ H R I hw => Call_ (ld_blt I hg hm PyProof.Rows.boot_zip (PyProof.Rows.callWith_type1 (thn (ha.run pos pins s σ H _ I hw) fun us s1 ⟨vs, H1, I1, r1, k1, k2, a, b, xs, ys, ev, ⟨ka, kb⟩, q⟩ => ?_) hs hpl))⟩
  subst ev
  obtain ⟨u, us1, rfl, ru, rr⟩ : ∃ u us1, us = u :: us1 ∧ RelV (.ref a) u ∧ Vals [V.ref b] us1 := by
    cases r1 with
    | cons g1 g2 => exact ⟨_, _, rfl, g1, g2⟩
  obtain ⟨v, rfl, rv⟩ := vals1 rr
  cases ru
  cases rv
  obtain ⟨its, _, sa, la⟩ := kd_of I1 ka
  obtain ⟨jts, _, sb, lb⟩ := kd_of I1 kb
  refine zip_begins2 (kd_begins a its.toArray k1) (kd_begins b jts.toArray k2) sa sb fun h' z1 z2 z3 z4 z5 z6 st => wpAny_pyIter_zip z1 ?_
  have I2 : Inv X pins σ H1 { s1 with heap := h' } := I1.kept (t' := s1.toks) st
  have ap := zip_sep2 (N := s1.heap.objs.size) (fp1 := [a]) (fp2 := [b]) (fun c hc => List.mem_singleton.mp hc ▸ la) (fun c hc => List.mem_singleton.mp hc ▸ lb)
  have nb : b ≠ s1.heap.objs.size + 1 := Nat.ne_of_lt (Nat.lt_succ_of_lt lb)
  refine ⟨_, _, _, _, H1, rfl, I2, turn_m ap (Nat.ne_of_lt la) nb, ⟨⟨z1, z2, _, _, z3⟩, itAt_new z4, itAt_new z5⟩, fun c hc => ?_, q⟩
  have ge : s1.heap.objs.size ≤ c := by
    rcases five hc with rfl | rfl | rfl | rfl | rfl
    · exact Nat.le_add_right _ 4
    · exact Nat.le_add_right _ 2
    · exact Nat.le_add_right _ 3
    · exact Nat.le_refl _
    · exact Nat.le_add_right _ 1
  exact I1.fpOk ge (I1.hok.fresh ge)
end Lay
namespace Lay
open PySem PySem.Spec PyProof.Rows L2
theorem Kq.same {K : PySem.W.Frag} {H H' : Hp} {a : Addr} {xs : List V} (s : Same H H') : ∀ {k : Bool}, Kq K H k a xs → Kq K H' k a xs
  | true, h => s.seq h
  | false, h => sqT_same s h
theorem rd_zipM {K : PySem.W.Frag} {ta : TA} {σ : L2.St} {H : Hp} {R : It → Hp → Prop} (q : ta σ H (fun vs H1 => ∃ k1 k2 a b xs ys, vs = [.ref a, .ref b] ∧ (Kq K H1 k1 a xs ∧ Kq K H1 k2 b ys) ∧ R (Itm K k1 k2 a b) H1)) : iZipM K ta σ H R := q
section
variable {σ : L2.St} {H1 : Hp} {Q : VK} {K : PySem.W.Frag}
/-- [e for x, y in zip(xs, ys)], each a list or a tuple, of one length -/
theorem lc_zipM {k1 k2 : Bool} {a b E : Addr} {xs ys : List V} {i1 i2 n : Nat} {te : TE} (hx : xs.length = n) (hy : ys.length = n) (hn : n ≤ 1000) (hE : H1 E = none) (ha : Kq K H1 k1 a xs) (hb : Kq K H1 k2 b ys)
    (hw : ∀ x y, wipe (((wipe σ [i1, i2]).set i1 (some x)).set i2 (some y)) [i1, i2] = wipe σ [i1, i2]) (f : Nat → V)
    (he : ∀ j, j < n → ∀ H', Same H1 H' → ∀ R : VK, R (f j) H' → te (((wipe σ [i1, i2]).set i1 (some (xs.getD j .non))).set i2 (some (ys.getD j .non))) H' R)
    (hd : ∀ H', Same H1 H' → H' E = some (.lst ((List.range n).map f)) → Q (.ref E) H') : LcAt (Itm K k1 k2 a b) (gTup K 2 (gCons (gName i1) (gCons (gName i2) gNil))) tYes te [i1, i2] σ E H1 Q := by
  have gx : ∀ i, i < n → xs[i]? = some (xs.getD i .non) := fun i h => by rw [List.getD_eq_getElem?_getD, List.getElem?_eq_getElem (by omega)]; rfl
  have gy : ∀ i, i < n → ys[i]? = some (ys.getD i .non) := fun i h => by rw [List.getD_eq_getElem?_getD, List.getElem?_eq_getElem (by omega)]; rfl
  refine lc_gen (n := n) (G := fun H' => Kq K H' k1 a xs ∧ Kq K H' k2 b ys) (fun j x H' => ∃ T, x = .ref T ∧ H' T = some (.tup [xs.getD j .non, ys.getD j .non]))
    (fun j σ2 H' => σ2 = ((wipe σ [i1, i2]).set i1 (some (xs.getD j .non))).set i2 (some (ys.getD j .non))) (fun H' h => ⟨_, _, h, by omega, by omega, Or.inl hx.symm⟩) (fun i H' h hi => ⟨_, _, _, _, h, gx i hi, gy i hi⟩)
    (fun i H' x H'' h hi y => ?_) hn hE (fun H' s => ⟨Kq.same s ha, Kq.same s hb⟩) (fun _ => true) f ?_ ?_ ?_ ?_
  · obtain ⟨T, x1, x2, ⟨rfl, hT, rfl⟩, f1, f2⟩ := y
    have e1 := Option.some.inj ((f1 _ h.1).symm.trans (gx i hi))
    have e2 := Option.some.inj ((f2 _ h.2).symm.trans (gy i hi))
    subst e1 e2
    exact ⟨fun b o e => up_old hT e, T, rfl, upd_same⟩
  · rintro j x H' hj hs ⟨T, rfl, hT⟩ R kk
    exact ⟨T, _, rfl, SqT.of hT, rfl, _, _, rfl, _, _, rfl, rfl, kk _ (hw _ _) rfl⟩
  · rintro j σ2 H' hj hs hS R kk
    exact kk _ (Same.refl _)
  · rintro j σ2 H' H0 hj _ rfl hs hs0 R kk
    exact he j hj H' hs R (kk _ (Same.refl _))
  · intro H' hs hl2
    rw [filt_yes] at hl2
    exact hd H' hs hl2
end
/-- a slice of a list or a tuple -/
def rSlE (K : PySem.W.Frag) : V → Option Int → Option Int → Hp → VK → Prop := fun x lo hi H Q => rSlL K x lo hi H Q ∨ rSlA K x lo hi H Q
theorem sl_any {X : Cx} : SlR X (rSlE X.K) := SlR.or sl_list sl_tupA
end Lay
namespace Lay
open PySem PySem.Spec PyProof.Rows L2
theorem seq_nat {n j : Nat} (h : j < n) : seqIndex? (j : Int) n = some j := by
  unfold seqIndex?
  have e1 : ¬ (j : Int) < 0 := by omega
  simp only [e1, if_false]
  rw [if_pos (by simp; omega)]
  rw [Int.toNat_natCast]
theorem upd_live {H : Hp} {p b : Addr} {o : HO} (h : H b ≠ none) : upd H p o b ≠ none := by
  by_cases e : b = p
  · rw [e, upd_same]
    exact fun z => nomatch z
  · rw [upd_ne e]
    exact h
theorem LLf.base {H0 H1 H : Hp} {p : Addr} {M : List (List Int)} (s : Same H0 H1) (h : LLf H1 H p M) : LLf H0 H p M := by
  obtain ⟨rs, h1, h2, hn, g1, g2, h3⟩ := h
  exact ⟨rs, h1, h2, hn, s.free g1, fun r hr => s.free (g2 r hr), h3⟩
end Lay
/-! LayR: the end of a law in quiet places, where the law's own defs make lambdas: their tables of code objects stand in the heap. -/
namespace Lay
open PySem PySem.Spec PyProof.Rows L2
/-- an empty table of code objects -/
def tabO : Obj := { cls := .none, data := .fields #[] }
theorem law_goesT {P : Program} {w : World} {K : PySem.W.Frag} {mg mb : Str → Option Value} {k : Nat} {fa a : Addr} {fd : FuncData} {x : Str} {sp : Sp} {s1 : Shared} {vs : List Value} {ns : List Int} {cs : List (Addr × Addr)}
    (KX : K.In s1.heap) (hns : s1.heap.Ns mainGlobals mg) (hb : s1.heap.Ns builtinsNs mb) (hbb : ∀ x : Str, x ≠ "__name__" → mb x = bootBuiltins x) (hlim : s1.heap.NoLimit) (hg : s1.gens = #[])
    (tabs : ∀ q ∈ cs, s1.heap.get? q.2 = some tabO ∧ K.lookup q.2 = none ∧ PySem.W.CodeHd s1.heap q.1 q.2)
    (bmod : ∃ (m : Addr) (ob : Obj), mg "__builtins__" = some (.ref m) ∧ m ≠ builtinsNs ∧ s1.heap.get? m = some ob ∧ ob.cls = .type "module" ∧ ob.dict = some builtinsNs ∧ ob.data = .plain)
    (ha : s1.heap.get? a = some { cls := .type "list", data := .seq vs.toArray }) (hi : IntsAre vs ns) (hl : ns.length ≤ sizeLine) (hr : Room k callerA)
    (F : ∀ base : Heap, K.In base → base.Ns mainGlobals mg → (∀ q ∈ cs, LamX.TabB base mg q.1 q.2) → FnQ P w K mg base k fa fd [x] sp) (hbind : ∀ (s : Shared) (u : Value), BindsTo s fd ⟨[u], []⟩ [(x, u)])
    (hsp : ∀ H : Hp, (∀ q ∈ cs, H q.2 = some (.tbl #[])) → SqL K H a (ns.map V.int) → sp [.ref a] H (fun v _ => v = .bl true) E0) :
    codeAny (model P w) callerA (.call (.ref fa) ⟨[.ref a], []⟩) (fun r s' => r = .ok (.ret (.bool true)) ∧ OldK s1.heap s'.heap ∧ s'.os = s1.os ∧ AllBare s'.gens) s1 := by
  have rv := vals_ints hi
  have inT : ∀ b, b ∈ cs.map Prod.snd → s1.heap.get? b = some tabO ∧ K.lookup b = none := fun b hm => by
    obtain ⟨q, hq, rfl⟩ := List.mem_map.mp hm
    exact ⟨(tabs q hq).1, (tabs q hq).2.1⟩
  have ofT : ∀ q ∈ cs, q.2 ∈ cs.map Prod.snd := fun q hq => List.mem_map.mpr ⟨q, hq, rfl⟩
  have naT : a ∉ cs.map Prod.snd := fun hm => by
    have e := (inT a hm).1
    rw [ha] at e
    cases e
  -- from an abstract heap that tracks the tables, and the script as a known object or not at all
  have from_ : ∀ H : Hp, (∀ q ∈ cs, H q.2 = some (.tbl #[])) → SqL K H a (ns.map V.int) → HOk P w H s1.heap →
      (∀ b u, H b = some u → (b = a ∧ K.lookup a = none ∧ u = .frz { cls := .type "list", data := .seq vs.toArray } (.lst (ns.map V.int))) ∨ (b ∈ cs.map Prod.snd ∧ u = .tbl #[])) →
      codeAny (model P w) callerA (.call (.ref fa) ⟨[.ref a], []⟩) (fun r s' => r = .ok (.ret (.bool true)) ∧ OldK s1.heap s'.heap ∧ s'.os = s1.os ∧ AllBare s'.gens) s1 := by
    intro H hTb hS hok hT
    have free : ∀ {b : Addr} {o : Obj}, s1.heap.get? b = some o → (o.data ≠ .seq vs.toArray) → (o.data ≠ .fields #[]) → H b = none := fun {b o} e n1 n2 => by
      cases q : H b with
      | none => rfl
      | some u =>
        rcases hT b u q with ⟨rfl, _, _⟩ | ⟨hm, _⟩
        · rw [ha] at e
          cases e
          exact absurd rfl n1
        · rw [(inT b hm).1] at e
          cases e
          exact absurd rfl n2
    have free1 : ∀ {b : Addr} {o : Obj}, s1.heap.get? b = some o → (∃ es ep, o.data = .dict es ep) → H b = none := fun {b o} e ⟨es, ep, d⟩ =>
      free e (fun z => by rw [d] at z; cases z) (fun z => by rw [d] at z; cases z)
    have free2 : ∀ {b : Addr} {o : Obj}, K.lookup b = some o → H b = none := fun {b o} e => by
      cases q : H b with
      | none => rfl
      | some u =>
        rcases hT b u q with ⟨rfl, z, _⟩ | ⟨hm, _⟩
        · rw [z] at e
          cases e
        · rw [(inT b hm).2] at e
          cases e
    have ns2 : ∀ {b : Addr} {m : Str → Option Value}, s1.heap.Ns b m → (hidT s1.heap H).Ns b m := by
      rintro b m ⟨o, es, ep, e, d, r⟩
      exact ⟨o, es, ep, hidT_get e (free1 e ⟨es, ep, d⟩), d, r⟩
    have kb : K.In (hidT s1.heap H) := fun b o e => hidT_get (KX b o e) (free2 e)
    have md : Mod K mg (hidT s1.heap H) := by
      obtain ⟨mc, l1, l2⟩ := hlim
      exact ⟨kb, ns2 hns, ⟨mb, ns2 hb, hbb⟩, ⟨mc, ns2 l1, l2⟩⟩
    have en : Env0 P w K mg (hidT s1.heap H) callerA [] s1 H :=
      { frames := rfl, mod := md, bs := fun b o e => of_hidT e, bsz := Nat.le_of_eq (hidT_size _ _), funs := trivial, frf := (fun b hb => nomatch hb), hok := hok, bare := AllBare.of_eq hg }
    have tb : ∀ q ∈ cs, LamX.TabB (hidT s1.heap H) mg q.1 q.2 := fun q hq => by
      obtain ⟨t1, t2, t3⟩ := tabs q hq
      refine ⟨?_, ?_, fun z => ?_⟩
      · obtain ⟨o, us, f1, f2, f3, f4, f5, f6, f7, y1, y2, y3, y4, y⟩ := t3
        refine ⟨o, us, f1, f2, f3, f4, f5, f6, f7, hidT_get y1 (free y1 (fun z => ?_) (fun z => ?_)), y2, y3, y4, y⟩
        · rw [y3] at z
          cases z
        · rw [y3] at z
          cases z
          cases y4
      · obtain ⟨m, ob, c1, c2, c3, c4, c5, c6⟩ := bmod
        refine ⟨m, ob, c1, c2, fun z => ?_, fun z => ?_, hidT_get c3 (free c3 (fun z => ?_) (fun z => ?_)), c4, c5, c6⟩
        · obtain ⟨o, es, ep, e, d, _⟩ := hns
          rw [z, e] at c3
          cases c3
          rw [d] at c6
          cases c6
        · rw [z, t1] at c3
          cases c3
          cases c6
        · rw [c6] at z
          cases z
        · rw [c6] at z
          cases z
      · obtain ⟨o, es, ep, e, d, _⟩ := hns
        rw [z, t1] at e
        cases e
        cases d
    have run := (F _ kb (ns2 hns) tb).goes callerA [] s1 H ⟨[.ref a], []⟩ [.ref a] [.ref a] _ E0 quiet_caller hr en (hbind s1 (.ref a)) (.cons rfl .nil) (hsp H hTb hS)
    refine codeAny_mono run fun r s2 h => ?_
    cases r with
    | error e => exact False.elim h
    | ok fl =>
      cases fl with
      | next => exact False.elim h
      | brk => exact False.elim h
      | cont => exact False.elim h
      | ret u =>
        obtain ⟨v, H2, os, bare, un, hok2, r2, rfl⟩ := h
        cases r2
        have key : ∀ b o, b ∉ cs.map Prod.snd → s1.heap.get? b = some o → s2.heap.get? b = some o := fun b o nb e => by
          cases q : H b with
          | none => exact un.keep b o e q (fun z => nomatch z) (fun z => nomatch z)
          | some u =>
            rcases hT b u q with ⟨rfl, _, rfl⟩ | ⟨hm, _⟩
            · have k1 := (hok b _ q).1
              have k2 := (hok2 b _ (un.frzs b _ _ q)).1
              rw [e] at k1
              rw [k2, k1]
            · exact absurd hm nb
        have more : ∀ b ∈ cs.map Prod.snd, ∃ us : Array Value, s2.heap.get? b = some { cls := .none, data := .fields us } := fun b hm => by
          obtain ⟨q, hq, rfl⟩ := List.mem_map.mp hm
          obtain ⟨us, z⟩ := un.tbls q.2 #[] (hTb q hq)
          exact ⟨_, hok2 q.2 _ z⟩
        refine ⟨rfl, ⟨fun b o e => ?_, fun b o e => ?_⟩, os, bare⟩
        · by_cases hm : b ∈ cs.map Prod.snd
          · obtain ⟨us, z⟩ := more b hm
            obtain ⟨q, hq, rfl⟩ := List.mem_map.mp hm
            obtain ⟨t1, _, t3⟩ := tabs q hq
            rw [t1] at e
            cases e
            refine Or.inr (Or.inl ⟨(t3.tab t1).isCodeTable, rfl, #[], us, rfl, ?_⟩)
            rw [Array.empty_append]
            exact z
          · exact Or.inl (key b o hm e)
        · by_cases hm : b ∈ cs.map Prod.snd
          · obtain ⟨us, z⟩ := more b hm
            exact ⟨_, z⟩
          · exact ⟨o, key b o hm e⟩
  cases hk : K.lookup a with
  | some o =>
    have e := KX a o hk
    rw [ha] at e
    cases e
    have at_ : ∀ b u, (if b ∈ cs.map Prod.snd then some (HO.tbl #[]) else none) = some u → b ∈ cs.map Prod.snd ∧ u = HO.tbl #[] := fun b u z => by
      by_cases hm : b ∈ cs.map Prod.snd
      · rw [if_pos hm] at z
        exact ⟨hm, (Option.some.inj z).symm⟩
      · rw [if_neg hm] at z
        cases z
    refine from_ (fun b => if b ∈ cs.map Prod.snd then some (.tbl #[]) else none) (fun q hq => if_pos (ofT q hq)) (Or.inr ⟨_, vs.toArray, _, hk, rfl, rfl, rfl, ?_, ?_⟩) (fun b u z => ?_) (fun b u z => Or.inr (at_ b u z))
    · rw [List.size_toArray, hi.length]
      exact hl
    · simpa using rv
    · obtain ⟨hm, rfl⟩ := at_ b u z
      exact (inT b hm).1
  | none =>
    have at_ : ∀ b u, (if b = a then some (HO.frz { cls := .type "list", data := .seq vs.toArray } (.lst (ns.map V.int))) else if b ∈ cs.map Prod.snd then some (.tbl #[]) else none) = some u →
        (b = a ∧ u = HO.frz { cls := .type "list", data := .seq vs.toArray } (.lst (ns.map V.int))) ∨ (b ∈ cs.map Prod.snd ∧ u = HO.tbl #[]) := fun b u z => by
      by_cases hba : b = a
      · rw [if_pos hba] at z
        exact Or.inl ⟨hba, (Option.some.inj z).symm⟩
      · rw [if_neg hba] at z
        by_cases hm : b ∈ cs.map Prod.snd
        · rw [if_pos hm] at z
          exact Or.inr ⟨hm, (Option.some.inj z).symm⟩
        · rw [if_neg hm] at z
          cases z
    refine from_ (fun b => if b = a then some (.frz { cls := .type "list", data := .seq vs.toArray } (.lst (ns.map V.int))) else if b ∈ cs.map Prod.snd then some (.tbl #[]) else none) (fun q hq => ?_) (Or.inl (Or.inr ⟨_, if_pos rfl⟩)) (fun b u z => ?_) (fun b u z => ?_)
    · show (if q.2 = a then _ else _) = _
      rw [if_neg (fun (z : q.2 = a) => naT (z ▸ ofT q hq)), if_pos (ofT q hq)]
    · rcases at_ b u z with ⟨rfl, rfl⟩ | ⟨hm, rfl⟩
      · refine ⟨ha, ?_, vs, _, rv, ha⟩
        rw [List.length_map]
        exact hl
      · exact (inT b hm).1
    · rcases at_ b u z with ⟨rfl, rfl⟩ | q
      · exact Or.inl ⟨rfl, hk, rfl⟩
      · exact Or.inr q
end Lay
namespace Lay
open PySem PySem.Spec PyProof.Rows L2
/-- what is known of the law's own def where the top has run: its promise in quiet places, and the tables of the defs that make lambdas -/
def LawAtQ (l : PySem.W.OpenLaw) (w : World) (K : PySem.W.Frag) (k n : Nat) (x : Str) (mg : Str → Option Value) (fa : Addr) (h : Heap) : Prop :=
  ∃ (fd : FuncData) (cs : List (Addr × Addr)) (sp : Sp),
    (∀ q ∈ cs, h.get? q.2 = some tabO ∧ K.lookup q.2 = none ∧ PySem.W.CodeHd h q.1 q.2) ∧
    (∀ (s : Shared) (u : Value), BindsTo s fd ⟨[u], []⟩ [(x, u)]) ∧
    (∀ (H : Hp) (a : Addr) (ns : List Int), ns.length ≤ n → (∀ q ∈ cs, H q.2 = some (.tbl #[])) → SqL K H a (ns.map V.int) → sp [.ref a] H (fun v _ => v = .bl true) E0) ∧
    ∀ base : Heap, K.In base → base.Ns mainGlobals mg → (∀ q ∈ cs, LamX.TabB base mg q.1 q.2) → FnQ l.prog w K mg base k fa fd [x] sp
theorem law_walksT {l : PySem.W.OpenLaw} {n k : Nat} {q : Program} {loose : List Str} {XP : (Str → Option Value) → Heap → Prop} {YP : World → Heap → Prop} {d : DefRec} {x : Str} (hn : l.most = some n) (hn2 : n ≤ sizeLine) (hdf : d.params.defaults = []) (hr : Room k callerA)
    (F : ∀ (w : World) (mg : Str → Option Value) (fa : Addr) (h : Heap), YP w h → h.Ns mainGlobals mg → mg d.name = some (.ref fa) → ∃ K : PySem.W.Frag, K.In h ∧ LawAtQ l w K k n x mg fa h) :
    PySem.W.WalkO q loose XP YP l.row.toRowW d [] (fun f vs => PySem.call f vs) := by
  refine Att.attach_callB hn hdf ?_
  intro w s0 s1 mg mb fa o pm cd doc a vs ns G Y ho hd hcd hmg hobj hints hlen _ hg
  obtain ⟨K, kin, fd, cs, sp, tabs, bi, hsp, prom⟩ := F w mg fa _ Y G.T.g hmg
  exact law_goesT kin G.T.g G.T.b G.T.builtins G.T.nolimit hg tabs G.T.bmain hobj hints (Nat.le_trans hlen hn2) hr prom bi fun H tb hS => hsp H a ns hlen tb hS
end Lay
/-! LayS: several clauses of which some have a name and some have none. -/
namespace Lay
open PySem PySem.Spec PyProof.Rows L2
/-- what the clauses wish, one behind the other; the name, where a clause has it, stands in slot i -/
def wMix (K : PySem.W.Frag) (i : Nat) (Wout : WX) (D : Ends) : List (Bool × Value × (Addr → Value → Option Addr → TS)) → WX
  | [] => Wout
  | (true, c, ts) :: r => wAs K c i ts (wMix K i Wout D r) D
  | (false, c, ts) :: r => wOnly K c ts (wMix K i Wout D r) D
inductive Mix (X : Cx) (n : Str) : List ExceptHandler → List (Bool × Value × (Addr → Value → Option Addr → TS)) → Prop
  | nil : Mix X n [] []
  | as {x : Str} {c : Value} {ts : Addr → Value → Option Addr → TS} {s₀ : Stmt} {ss : List Stmt} {p1 p2 : Pos} {hs : List ExceptHandler} {l : List (Bool × Value × (Addr → Value → Option Addr → TS))} (nm : Names X x c)
      (su : ∀ (a : Addr) (oe : Obj) (cls : Value) (d : Option Addr) (pn : List (Addr × Obj)), Zc cls d oe → (∃ vs, oe.data = .fields vs) → PSs (X.suite a ((a, oe) :: pn)) (s₀ :: ss) (ts a cls d)) (r : Mix X n hs l) :
      Mix X n (.ExceptHandler (some (.Name x p1)) (some n) (s₀ :: ss) p2 :: hs) ((true, c, ts) :: l)
  | only {x : Str} {c : Value} {ts : Addr → Value → Option Addr → TS} {s₀ : Stmt} {ss : List Stmt} {p1 p2 : Pos} {hs : List ExceptHandler} {l : List (Bool × Value × (Addr → Value → Option Addr → TS))} (nm : Names X x c)
      (su : ∀ (a : Addr) (oe : Obj) (cls : Value) (d : Option Addr) (pn : List (Addr × Obj)), Zc cls d oe → (∃ vs, oe.data = .fields vs) → PSs (X.suite a ((a, oe) :: pn)) (s₀ :: ss) (ts a cls d)) (r : Mix X n hs l) :
      Mix X n (.ExceptHandler (some (.Name x p1)) none (s₀ :: ss) p2 :: hs) ((false, c, ts) :: l)
section
variable {X : Cx} {n : Str} {i : Nat} {Wout : WX}
/-- one clause after the other is asked; a is the exception, h3 the heap in which it has landed -/
theorem mix_run (hst : X.stack = X.env :: X.outer) (hfm : X.env.frame = some X.env.locals) (hN : X.N.Nodup) (hi : X.N[i]? = some n) (hln : X.env.kindOf n = some .local) (tk : Takes X Wout) {D : Ends} {pins : List (Addr × Obj)} {σ' : L2.St} {H' : Hp} {sI s' : Shared} {a : Addr} {B : Heap} {cls : Value} {d : Option Addr} {h3 : Heap}
    (J : Inv X pins σ' H' sI) (nb : ∀ b o, sI.heap.get? b = some o → b ∉ frs X.stack → B.get? b = some o) (up : sI.heap.UpToSlots s'.heap) (up3 : s'.heap.UpToSlots h3) (fl : HandSPX.FlyingZ B (X.env :: X.outer) a (Zc cls d) h3) (na : H' a = none) (os : s'.os = sI.os) (ag : AllBare s'.gens)
    (nL : a ≠ X.env.locals) (nF : a ∉ X.fs) : ∀ {hs : List ExceptHandler} {l : List (Bool × Value × (Addr → Value → Option Addr → TS))}, Mix X n hs l → wMix X.K i Wout D l cls d σ' H' →
      wpAny (model X.prog X.w) X.A (handleBy (.ref a) X.env hs) (SP X pins D) X.xe { s' with heap := h3 } := by
  have ok := J.ok
  obtain ⟨o3, v3, g3, z3, f3⟩ := fl.there
  have Jl : ∀ {h : Heap}, B.StaysIn h → s'.heap.UpToSlots h → Inv X pins σ' H' { s' with heap := h } := fun {h} st u => J.landed (s' := { s' with heap := h }) nb st (up.trans u) os ag
  have S := (Jl fl.1 up3).suite g3 f3 na nL nF
  have what : PySem.W.Looks (model X.prog X.w) h3 (typeOf (.ref a)) cls := fun _ _ _ _ keep q => wpAny_typeOf_ref (keep _ _ g3) (by rw [z3.1]; exact q)
  intro hs l cl
  induction cl with
  | nil =>
    intro wish
    refine wpAny_handleBy_nil ?_
    obtain ⟨_, _, _, oe, vs, T, oT, tsx, he, hz, hd, h1, hr⟩ := id fl
    unfold PySem.passOn
    refine wpAny_bind (wpAny_field he hd h1 ?_)
    rw [if_neg (show ¬((Value.ref T == Value.none) = true) by simp)]
    have out : wpAny (model X.prog X.w) X.A (setFlight (.ref a) X.env.frame) (fun _ s4 => wpAny (model X.prog X.w) X.A (throw (.ref a) : Sem Flow) (SP X pins D) X.xe s4) X.xe { s' with heap := h3 } := by
      rw [hfm]
      exact HandSPX.setFlight_upZ fl fun h4 hh4 up4 => wpAny_throw (tk _ _ ⟨a, B, sI, pins, σ', H', cls, d, rfl, J, nb, (up.trans up3).trans up4, .inr (.inr (by rw [hst]; exact hh4)), na, os, ag, wish⟩)
    first | exact wpAny_bind (wpAny_pure (wpAny_bind out)) | exact wpAny_bind out
  | @as x c ts s₀ ss p1 p2 hs2 l2 nm su r ih =>
    intro wish
    obtain ⟨b, e, yes, no⟩ := wish
    refine wpAny_handleBy_cons (codeAny_handlers_test ?_) (by intro q; cases q)
    have look := PySem.W.exm_one (M := model X.prog X.w) (Jl fl.1 up3).kIn what e
    have ask : ∀ {Q E : Value → Shared → Prop}, Q c { s' with heap := h3 } → wpAny (model X.prog X.w) (X.A.mark (some (.ref a))) (eval (.Name x p1) X.env) Q E { s' with heap := h3 } := fun {Q E} q => by
      obtain ⟨hg, hdb, hm | ⟨hm, hv, hne⟩⟩ := nm
      · exact ld_glob (X := X.suite a ((a, o3) :: (X.pn ++ pins))) S hg hm q hdb
      · exact ld_blt (X := X.suite a ((a, o3) :: (X.pn ++ pins))) S hg hm hv q hne hdb
    refine ask (look.here ?_)
    cases b with
    | false => exact ih (no rfl)
    | true =>
      refine codeAny_handlers_suite_as (HandSPX.lands_againZ fl fun h4 fl4 up4 => ?_)
      obtain ⟨o4, v4, g4, z4, f4⟩ := fl4.there
      have S4 := (Jl fl4.1 (up3.trans up4)).suite g4 f4 na nL nF
      refine store_ok (X := X.suite a ((a, o4) :: (X.pn ++ pins))) (v := .ref a) S4 hN hi (.inl hln) rfl (fun s5 S5 => ?_) (.inr hln)
      refine wpAny_mono ((su a o4 cls d (X.pn ++ pins) z4 ⟨_, f4⟩).run [] s5 _ H' _ S5 (yes rfl a na)) (fun f s6 sp => ?_) (fun _ _ z => z.elim)
      have gone : ∀ {σ6 : L2.St} {H6 : Hp} {Q : Shared → Prop}, Inv (X.suite a ((a, o4) :: (X.pn ++ pins))) [] σ6 H6 s6 → (∀ s7, Inv X pins (σ6.set i none) H6 s7 → Q s7) →
          wpAny (model X.prog X.w) X.A (do bindName X.env n .none; unbindBehindTheSuite X.env n p2) (fun _ s7 => Q s7) X.xe s6 := fun S6 hq => gone_ok (S6.unsuite ok) hN hi hln hq
      cases f with
      | next => exact match sp with | ⟨_, _, S6, q6⟩ => gone S6 fun s7 J7 => ⟨_, _, J7, q6⟩
      | brk => exact match sp with | ⟨_, _, S6, q6⟩ => gone S6 fun s7 J7 => ⟨_, _, J7, q6⟩
      | cont => exact match sp with | ⟨_, _, S6, q6⟩ => gone S6 fun s7 J7 => ⟨_, _, J7, q6⟩
      | ret u => exact match sp with | ⟨_, _, _, S6, r6, q6⟩ => gone S6 fun s7 J7 => ⟨_, _, _, J7, r6, q6⟩
  | @only x c ts s₀ ss p1 p2 hs2 l2 nm su r ih =>
    intro wish
    obtain ⟨b, e, yes, no⟩ := wish
    refine wpAny_handleBy_cons (codeAny_handlers_test ?_) (by intro q; cases q)
    have look := PySem.W.exm_one (M := model X.prog X.w) (Jl fl.1 up3).kIn what e
    have ask : ∀ {Q E : Value → Shared → Prop}, Q c { s' with heap := h3 } → wpAny (model X.prog X.w) (X.A.mark (some (.ref a))) (eval (.Name x p1) X.env) Q E { s' with heap := h3 } := fun {Q E} q => by
      obtain ⟨hg, hdb, hm | ⟨hm, hv, hne⟩⟩ := nm
      · exact ld_glob (X := X.suite a ((a, o3) :: (X.pn ++ pins))) S hg hm q hdb
      · exact ld_blt (X := X.suite a ((a, o3) :: (X.pn ++ pins))) S hg hm hv q hne hdb
    refine ask (look.here ?_)
    cases b with
    | false => exact ih (no rfl)
    | true =>
      refine codeAny_handlers_suite (HandSPX.lands_againZ fl fun h4 fl4 up4 => ?_)
      obtain ⟨o4, v4, g4, z4, f4⟩ := fl4.there
      have J4 := Jl fl4.1 (up3.trans up4)
      have S4 := J4.suite g4 f4 na nL nF
      refine wpAny_mono ((su a o4 cls d (X.pn ++ pins) z4 ⟨_, f4⟩).run [] _ _ H' _ S4 (yes rfl a na)) (fun f s6 sp => ?_) (fun _ _ z => z.elim)
      cases f with
      | next => exact match sp with | ⟨_, _, S6, q6⟩ => ⟨_, _, S6.unsuite ok, q6⟩
      | brk => exact match sp with | ⟨_, _, S6, q6⟩ => ⟨_, _, S6.unsuite ok, q6⟩
      | cont => exact match sp with | ⟨_, _, S6, q6⟩ => ⟨_, _, S6.unsuite ok, q6⟩
      | ret u => exact match sp with | ⟨_, _, _, S6, r6, q6⟩ => ⟨_, _, _, S6.unsuite ok, r6, q6⟩
/-- try: .. except X: .. except Y as n: .. -/
theorem ps_try_mix {body : List Stmt} {h₀ : ExceptHandler} {hds : List ExceptHandler} {l : List (Bool × Value × (Addr → Value → Option Addr → TS))} {pos : Pos} {tb : WX → TS} (hst : X.stack = X.env :: X.outer) (hfm : X.env.frame = some X.env.locals) (hN : X.N.Nodup) (hi : X.N[i]? = some n) (hln : X.env.kindOf n = some .local) (tk : Takes X Wout)
    (hb : ∀ (W : WX) (pn : List (Addr × Obj)) (xe : Value → Shared → Prop), Takes (X.tr pn xe) W → PassesOwn (model X.prog X.w) X.A X.env xe → PSs (X.tr pn xe) body (tb W))
    (hh : Mix X n (h₀ :: hds) l) : PS X (.Try body (h₀ :: hds) [] [] pos) (fun D σ H => tb (wMix X.K i Wout D l) D σ H) := by
  refine ⟨fun pins s σ H D I h => wpAny_Try_except ?_⟩
  have ok := I.ok
  have hfr : X.A.frames = some (X.env :: X.outer) := by rw [ok.frames, hst]
  have B1 := hb (wMix X.K i Wout D l) (X.pn ++ pins) (fun e s₁ => wpAny (model X.prog X.w) X.A (noteFrame e X.env) (fun _ s₂ => wpAny (model X.prog X.w) X.A (setFlight e none) (fun _ s₃ => wpAny (model X.prog X.w) X.A (handleBy e X.env (h₀ :: hds)) (SP X pins D) X.xe s₃) X.xe s₂) X.xe s₁)
    (fun u s' xx => ?_) PassesOwn.looking
  · refine wpAny_mono (B1.run [] s σ H D (I.toTry _) h) (fun f s1 sp => ?_) (fun _ _ z => z)
    cases f with
    | next => exact match sp with | ⟨_, _, J', q⟩ => wpAny_execs_nil ⟨_, _, J'.ofTry ok, q⟩
    | brk => exact match sp with | ⟨_, _, J', q⟩ => ⟨_, _, J'.ofTry ok, q⟩
    | cont => exact match sp with | ⟨_, _, J', q⟩ => ⟨_, _, J'.ofTry ok, q⟩
    | ret u => exact match sp with | ⟨_, _, _, J', r, q⟩ => ⟨_, _, _, J'.ofTry ok, r, q⟩
  · obtain ⟨a, B, sI, pins', σ', H', cls, d, rfl, J', nb, up, sky, na, os, ag, wish⟩ := xx
    have J := J'.ofTry (pins := pins) ok
    have sky' : Sky B (X.env :: X.outer) a (Zc cls d) X.env.locals s'.heap := by rw [← hst]; exact sky
    refine Sky.land Zc.steady hfr hfm sky' fun h3 fl up3 => ?_
    obtain ⟨oe, vs, he, hz, hd⟩ := fl.there
    have away : a ∉ frs (X.env :: X.outer) := fun hm => by
      obtain ⟨_, o', e', hnf⟩ := fl.2.2.1.mem hm
      rw [he] at e'
      cases e'
      exact hnf _ hd
    refine mix_run hst hfm hN hi hln tk J nb up up3 fl na os ag (fun z => away (List.mem_filterMap.mpr ⟨X.env, List.mem_cons_self, by rw [hfm, z]⟩)) (fun hm => ?_) hh wish
    obtain ⟨e, he2, q⟩ := List.mem_filterMap.mp hm
    exact away (List.mem_filterMap.mpr ⟨e, List.mem_cons_of_mem _ he2, q⟩)
end
end Lay
/-! LayT: defs that may let an error out, entered in quiet places; a lambda handed to such a def. -/
namespace Lay
open PySem PySem.Spec PyProof.Rows L2
section
variable {P : Program} {w : World} {K : PySem.W.Frag} {mg : Str → Option Value} {base : Heap}
/-- a def's promise for quiet places, where it may let an error out -/
structure FnX (P : Program) (w : World) (K : PySem.W.Frag) (mg : Str → Option Value) (base : Heap) (k : Nat) (f : Addr) (fd : FuncData) (ps : List Str) (sp : Sp) : Prop where
  many : ∀ vs H Q E, sp vs H Q E → vs.length = ps.length
  goes : ∀ (A : Around) (outer : List Env) (s : Shared) (H : Hp) (args : Args) (us : List Value) (vs : List V) (Q : VK) (E : XK), Quiet A → Room k A →
    Env0 P w K mg base A outer s H → BindsTo s fd args (ps.zip us) → Vals vs us → sp vs H Q E → codeAny (model P w) A (.call (.ref f) args) (CR (L2.CX P w) outer P w H s Q E) s
theorem x_def {x qual : Str} {st : Stmt} {f : Addr} {fd : FuncData} {N ps : List Str} {k : Nat} {sp : Sp} (F : Fun K x qual st f fd) (S : FnScope N ps (defScope st))
    (many : ∀ vs H Q E, sp vs H Q E → vs.length = ps.length)
    (body : ∀ (cdv : Value) (A : Around) (outer : List Env) (s : Shared) (H : Hp) (vs : List V) (Q : VK) (E : XK), Quiet A → Room k (A.deeper (envOfC qual (defScope st) s.heap.objs.size f cdv)) → sp vs H Q E →
      ∃ t, PSs (cxOf (L2.CX P w) P w K mg base N qual (defScope st) f cdv A outer s H E) (defBody st) t ∧ t { nx := fun _ H' => Q .non H', rt := Q } (start N vs) H) :
    FnX P w K mg base (k + 1) f fd ps sp := by
  obtain ⟨oc, od, kV, doc, pm, an, cdv, ct, osl, rfl, lk, hcd⟩ := F.ex
  refine ⟨many, fun A outer s H args us vs Q E hq hr he hb hv hs => ?_⟩
  have hl := many _ _ _ _ hs
  have KX : K.In s.heap := he.mod.kin.keeps fun b o e => (he.bs b o e).1
  have lim : s.heap.NoLimit := he.mod.nolimit.keeps fun b o e => (he.bs b o e).1
  have kinds : ∀ y ∈ ps.zip us, (defScope st).names.lookup y.1 = some .local ∨ ((defScope st).names.lookup y.1 = some .cell ∧ ((cellsFrom (s.heap.objs.size + 1) (defScope st).names []).lookup y.1).isSome = true) := by
    intro y hy
    rcases S.par y.1 (List.of_mem_zip hy).1 with q | q
    · exact Or.inl q
    · exact Or.inr ⟨q, PySem.W.cellsFrom_some _ _ _ (Or.inl q)⟩
  apply codeAny_call_function hr.depth (KX _ _ lk) rfl S.co S.gen rfl (PySem.W.codeRec_of KX hcd)
  apply hb
  apply wpAny_newFunctionEnv_cells S.kind kinds
  intro env henv s1 x1
  subst henv
  refine ⟨lim.keeps x1.toInCall.keep, ?_⟩
  apply codeAny_func
  obtain ⟨t, ht, q0⟩ := body cdv A outer s H vs Q E hq (hr.deeper _) hs
  have I : Inv (cxOf (L2.CX P w) P w K mg base N qual (defScope st) f cdv A outer s H E) [] (start N vs) H s1 := inv_start S hr.hd he hl hv x1
  refine wpAny_mono (ht.run [] s1 (start N vs) H _ I q0) (fun fl s2 h2 => ?_) (fun e s2 h2 => h2)
  cases fl with
  | next =>
    obtain ⟨a, b, J, z⟩ := h2
    exact ⟨V.non, b, J.os, J.bare, J.base, J.hok, rfl, z⟩
  | ret u =>
    obtain ⟨v, a, b, J, rv, z⟩ := h2
    exact ⟨v, b, J.os, J.bare, J.base, J.hok, rv, z⟩
  | brk =>
    obtain ⟨a, b, J, z⟩ := h2
    exact z.elim
  | cont =>
    obtain ⟨a, b, J, z⟩ := h2
    exact z.elim
end
section
variable {X : Cx} {k : Nat} {f : Addr} {fd : FuncData} {ps : List Str} {sp : Sp} {x : Str} {p pos : Pos} {e : Expr} {es : List Expr} {t : TA} {W : WX}
/-- f(e, ..) where it is quiet; what it lets out is what W takes -/
def tClX (sp : Sp) (W : WX) (t : TA) : TE := fun σ H Q => t σ H fun vs H1 => sp vs H1 Q (WE W σ)
theorem x_run {pins : List (Addr × Obj)} {σ : L2.St} {H : Hp} {s : Shared} {Q : VK} {us : List Value} {vs : List V} (F : FnX X.prog X.w X.K X.mg X.base k f fd ps sp) (hq : Quiet X.A) (hr : Room k X.A) (hb : Binds X.K fd ps []) (tk : Takes X W)
    (I : Inv X pins σ H s) (r : Vals vs us) (h : sp vs H Q (WE W σ)) : wpAny (model X.prog X.w) X.A (call (.ref f) us) (EP X pins σ Q) X.xe s := by
  have hl : (us ++ []).length = ps.length := by
    rw [List.append_nil, ← r.length]
    exact F.many _ _ _ _ h
  have bb := hb s us I.kIn hl
  rw [List.append_nil] at bb
  refine wpAny_call (codeAny_mono (F.goes X.A X.stack s H ⟨us, []⟩ us vs Q (WE W σ) hq hr I.env0 bb r h) fun res s2 hh => ?_)
  cases res with
  | error z => exact passAt tk σ pins H s z s2 I hh
  | ok fl =>
    cases fl with
    | ret u => exact I.after hh
    | next => exact False.elim hh
    | brk => exact False.elim hh
    | cont => exact False.elim hh
theorem xcall (F : FnX X.prog X.w X.K X.mg X.base k f fd ps sp) (hq : Quiet X.A) (hr : Room k X.A) (hg : Gl X x) (hm : X.mg x = some (.ref f)) (hk : PySem.W.keepIn X.K (.ref f) = true) (hb : Binds X.K fd ps []) (tk : Takes X W)
    (ha : PA X (e :: es) t) (hdb : (x == ("__debug__" : Str)) = false := by decide) (he : starEach (e :: es) X.env = (false, eval e X.env) :: starEach es X.env := by rfl) (hpl : (backTo pos (starEach es X.env)).any (·.1) = false := by rfl) :
    PE X (.Call (.Name x p) (e :: es) [] pos) (tClX sp W t) := by
  refine ⟨fun pins s σ H Q I h => wpAny_Call_Name_kw (ld_glob I hg hm ?_ hdb)⟩
  refine PySem.W.callWith_K (h₀ := X.base) I.ok.mod.kin hk (thn (ha.run pos pins s σ H _ I h) ?_) he hpl
  rintro us s1 ⟨vs, H1, I1, r, q⟩
  exact ⟨I1.kIn, x_run F hq hr hb tk I1 r q⟩
end
/-- a def of the text that may let an error out -/
structure CalX (P : Program) (w : World) (K : PySem.W.Frag) (mg : Str → Option Value) (base : Heap) (x : Str) (k : Nat) (ps : List Str) (sp : Sp) : Prop where
  ex : ∃ (f : Addr) (fd : FuncData), FnX P w K mg base k f fd ps sp ∧ mg x = some (.ref f) ∧ PySem.W.keepIn K (.ref f) = true ∧ Binds K fd ps []
section
variable {P : Program} {w : World} {K : PySem.W.Frag} {mg : Str → Option Value} {base : Heap}
theorem calx_of {x : Str} {st : Stmt} {N ps : List Str} {k : Nat} {sp : Sp} (D : DefAt K mg x st ps) (S : FnScope N ps (defScope st)) (many : ∀ vs H Q E, sp vs H Q E → vs.length = ps.length)
    (body : ∀ (f : Addr) (cdv : Value) (A : Around) (outer : List Env) (s : Shared) (H : Hp) (vs : List V) (Q : VK) (E : XK), Quiet A → Room k (A.deeper (envOfC x (defScope st) s.heap.objs.size f cdv)) → sp vs H Q E →
      ∃ t, PSs (cxOf (L2.CX P w) P w K mg base N x (defScope st) f cdv A outer s H E) (defBody st) t ∧ t { nx := fun _ H' => Q .non H', rt := Q } (start N vs) H) : CalX P w K mg base x (k + 1) ps sp := by
  obtain ⟨f, fd, F, m, b⟩ := D.ex
  exact ⟨f, fd, x_def F S many (body f), m, F.kp, b⟩
end
theorem qcx {X : Cx} {k : Nat} {ps : List Str} {sp : Sp} {x : Str} {p pos : Pos} {e : Expr} {es : List Expr} {t : TA} {W : WX} (c : CalX X.prog X.w X.K X.mg X.base x k ps sp) (hq : Quiet X.A) (hr : Room k X.A) (hg : Gl X x) (tk : Takes X W)
    (ha : PA X (e :: es) t) (hdb : (x == ("__debug__" : Str)) = false := by decide) (he : starEach (e :: es) X.env = (false, eval e X.env) :: starEach es X.env := by rfl) (hpl : (backTo pos (starEach es X.env)).any (·.1) = false := by rfl) :
    PE X (.Call (.Name x p) (e :: es) [] pos) (tClX sp W t) := by
  obtain ⟨f, fd, F, m, kp, b⟩ := c.ex
  exact xcall F hq hr hg m kp b tk ha hdb he hpl
end Lay
/-! LayU: promises that hold at all places, calm or not; errors made where their context is of no concern. -/
namespace Lay
open PySem PySem.Spec PyProof.Rows L2
/-- a def of the text, its promise for all places -/
structure CalA (P : Program) (w : World) (K : PySem.W.Frag) (mg : Str → Option Value) (base : Heap) (x : Str) (k : Nat) (ps : List Str) (sp : Sp) : Prop where
  ex : ∃ (f : Addr) (fd : FuncData), FnOk P w K mg base CX0 k f fd ps sp ∧ mg x = some (.ref f) ∧ PySem.W.keepIn K (.ref f) = true ∧ Binds K fd ps []
/-- such a def that may let an error out -/
structure CalE (P : Program) (w : World) (K : PySem.W.Frag) (mg : Str → Option Value) (base : Heap) (x : Str) (k : Nat) (ps : List Str) (sp : Sp) : Prop where
  ex : ∃ (f : Addr) (fd : FuncData), FnOk P w K mg base (L2.CX P w) k f fd ps sp ∧ mg x = some (.ref f) ∧ PySem.W.keepIn K (.ref f) = true ∧ Binds K fd ps []
section
variable {P : Program} {w : World} {K : PySem.W.Frag} {mg : Str → Option Value} {base : Heap}
theorem CalA.lift {x : Str} {j k : Nat} {ps : List Str} {sp : Sp} (c : CalA P w K mg base x j ps sp) (h : j ≤ k) : CalA P w K mg base x k ps sp := by
  obtain ⟨f, fd, F, m, kp, b⟩ := c.ex
  exact ⟨f, fd, F.mono h, m, kp, b⟩
theorem CalA.quiet {x : Str} {k : Nat} {ps : List Str} {sp : Sp} (c : CalA P w K mg base x k ps sp) : Cal P w K mg base x k ps sp := by
  obtain ⟨f, fd, F, m, kp, b⟩ := c.ex
  exact ⟨f, fd, .of F, m, kp, b⟩
theorem cala_of {x : Str} {st : Stmt} {N ps : List Str} {k : Nat} {sp : Sp} (D : DefAt K mg x st ps) (S : FnScope N ps (defScope st)) (many : ∀ vs H Q E, sp vs H Q E → vs.length = ps.length)
    (body : ∀ (f : Addr) (cdv : Value) (A : Around) (outer : List Env) (s : Shared) (H : Hp) (vs : List V) (Q : VK) (E : XK), Room k (A.deeper (envOfC x (defScope st) s.heap.objs.size f cdv)) → sp vs H Q E →
      ∃ t, PSs (cxOf CX0 P w K mg base N x (defScope st) f cdv A outer s H E).nox (defBody st) t ∧ t { nx := fun _ H' => Q .non H', rt := Q } (start N vs) H) : CalA P w K mg base x (k + 1) ps sp := by
  obtain ⟨f, fd, F, m, b⟩ := D.ex
  exact ⟨f, fd, F.ok S many (body f), m, F.kp, b⟩
theorem cale_of {x : Str} {st : Stmt} {N ps : List Str} {k : Nat} {sp : Sp} (D : DefAt K mg x st ps) (S : FnScope N ps (defScope st)) (many : ∀ vs H Q E, sp vs H Q E → vs.length = ps.length)
    (body : ∀ (f : Addr) (cdv : Value) (A : Around) (outer : List Env) (s : Shared) (H : Hp) (vs : List V) (Q : VK) (E : XK), Room k (A.deeper (envOfC x (defScope st) s.heap.objs.size f cdv)) → sp vs H Q E →
      ∃ t, PSs (cxOf (L2.CX P w) P w K mg base N x (defScope st) f cdv A outer s H E) (defBody st) t ∧ t { nx := fun _ H' => Q .non H', rt := Q } (start N vs) H) : CalE P w K mg base x (k + 1) ps sp := by
  obtain ⟨f, fd, F, m, b⟩ := D.ex
  obtain ⟨oc, od, kV, doc, pm, an, cdv, ct, osl, rfl, lk, hcd⟩ := id F.ex
  exact ⟨f, _, fn_of lk hcd S many (fun A outer s H vs Q E hr hsp => body f cdv A outer s H vs Q E hr hsp), m, F.kp, b⟩
end
section
variable {X : Cx} {k : Nat} {ps : List Str} {sp : Sp} {x : Str} {p pos : Pos} {e : Expr} {es : List Expr} {t : TA} {W : WX}
theorem ac (c : CalA X.prog X.w X.K X.mg X.base x k ps sp) (hr : Room k X.A) (hg : Gl X x)
    (ha : PA X (e :: es) t) (hdb : (x == ("__debug__" : Str)) = false := by decide) (he : starEach (e :: es) X.env = (false, eval e X.env) :: starEach es X.env := by rfl) (hpl : (backTo pos (starEach es X.env)).any (·.1) = false := by rfl) :
    PE X (.Call (.Name x p) (e :: es) [] pos) (tCl sp t) := by
  obtain ⟨f, fd, F, m, kp, b⟩ := c.ex
  exact pe_callS (E := fun _ => E0) F hr hg m kp b (fun _ _ _ _ _ _ _ z => z.elim) ha hdb he hpl
theorem ac0 (c : CalA X.prog X.w X.K X.mg X.base x k ps sp) (hr : Room k X.A) (hg : Gl X x) (hdb : (x == ("__debug__" : Str)) = false := by decide) : PE X (.Call (.Name x p) [] [] pos) (tCl sp tNil) := by
  obtain ⟨f, fd, F, m, kp, b⟩ := c.ex
  have h := pe_call0 (p := p) (pos := pos) (E := E0) F hr hg m kp b .nil pass0 hdb
  exact h
theorem ec (c : CalE X.prog X.w X.K X.mg X.base x k ps sp) (hr : Room k X.A) (hg : Gl X x) (tk : Takes X W)
    (ha : PA X (e :: es) t) (hdb : (x == ("__debug__" : Str)) = false := by decide) (he : starEach (e :: es) X.env = (false, eval e X.env) :: starEach es X.env := by rfl) (hpl : (backTo pos (starEach es X.env)).any (·.1) = false := by rfl) :
    PE X (.Call (.Name x p) (e :: es) [] pos) (tClX sp W t) := by
  obtain ⟨f, fd, F, m, kp, b⟩ := c.ex
  exact pe_callS F hr hg m kp b (passAt tk) ha hdb he hpl
/-- what is made with its context known is made -/
theorem pmk_any {t : L2.St → Hp → XK → Prop} (h : L2N.PMk X e t) : L2.PMk X e t := fun pins s σ H Q I w => by
  refine wpAny_mono (h pins s σ H Q I w) (fun u s' z => ?_) (fun _ _ z => z)
  obtain ⟨a, oe, vs, sI, H', cls, d, e1, I1, k, ne, ge, zn, hd, h1, na, os, ag, r, q⟩ := z
  exact ⟨a, oe, vs, sI, H', cls, d, e1, I1, k, ne, ge, ⟨zn.1, zn.2.1⟩, hd, h1, na, os, ag, r, q⟩
theorem rd_ClX {σ : L2.St} {H : Hp} {Q : VK} (q : t σ H (fun vs H1 => sp vs H1 Q (WE W σ))) : tClX sp W t σ H Q := q
end
end Lay
/-! LayV: values of any kind, told by data; what rows and integers are among them. -/
namespace Lay
open PySem PySem.Spec PyProof.Rows L2
mutual
/-- the value v stands for d: what is made here, dicts only where they are empty -/
inductive AnyD (H : Hp) : V → PyData → Prop
  | non : AnyD H .non .none
  | bl (b : Bool) : AnyD H (.bl b) (.bool b)
  | int (i : Int) : AnyD H (.int i) (.int i)
  | str (x : Str) : AnyD H (.str x) (.str x)
  | lst {a : Addr} {xs : List V} {ds : List PyData} : H a = some (.lst xs) → AnyAll H xs ds → AnyD H (.ref a) (.list ds)
  | tup {a : Addr} {xs : List V} {ds : List PyData} : H a = some (.tup xs) → AnyAll H xs ds → AnyD H (.ref a) (.tuple ds)
  | dic {a : Addr} : H a = some (.dK []) → AnyD H (.ref a) (.dict [])
inductive AnyAll (H : Hp) : List V → List PyData → Prop
  | nil : AnyAll H [] []
  | cons {v : V} {vs : List V} {d : PyData} {ds : List PyData} : AnyD H v d → AnyAll H vs ds → AnyAll H (v :: vs) (d :: ds)
end
section
variable {K : PySem.W.Frag} {H H' : Hp}
mutual
theorem AnyD.same (s : Same H H') : ∀ {v : V} {d : PyData}, AnyD H v d → AnyD H' v d
  | _, _, .non => .non
  | _, _, .bl b => .bl b
  | _, _, .int i => .int i
  | _, _, .str z => .str z
  | _, _, .lst h t => .lst (s _ _ h) (t.same s)
  | _, _, .tup h t => .tup (s _ _ h) (t.same s)
  | _, _, .dic h => .dic (s _ _ h)
theorem AnyAll.same (s : Same H H') : ∀ {vs : List V} {ds : List PyData}, AnyAll H vs ds → AnyAll H' vs ds
  | _, _, .nil => .nil
  | _, _, .cons h t => .cons (h.same s) (t.same s)
end
theorem AnyAll.len : ∀ {vs : List V} {ds : List PyData}, AnyAll H vs ds → vs.length = ds.length
  | _, _, .nil => rfl
  | _, _, .cons _ t => by rw [List.length_cons, List.length_cons, t.len]
theorem AnyAll.get : ∀ {vs : List V} {ds : List PyData}, AnyAll H vs ds → ∀ {i : Nat} {v : V}, vs[i]? = some v → ∃ d, ds[i]? = some d ∧ AnyD H v d
  | _, _, .nil, i, v, e => by simp at e
  | _, _, .cons (ds := ds) (d := d) h t, i, v, e => by
    cases i with
    | zero =>
      rw [List.getElem?_cons_zero] at e
      cases e
      exact ⟨d, rfl, h⟩
    | succ i =>
      rw [List.getElem?_cons_succ] at e
      obtain ⟨d', e1, e2⟩ := t.get e
      exact ⟨d', by rw [List.getElem?_cons_succ]; exact e1, e2⟩
theorem AnyAll.ints : ∀ {vs : List V} {ns : List Int}, vs = ns.map V.int → AnyAll H vs (ns.map PyData.int)
  | _, [], rfl => .nil
  | _, n :: ns, rfl => .cons (.int n) (AnyAll.ints (ns := ns) rfl)
/-- the name of the type -/
def tyN : PyData → String
  | .none => "NoneType"
  | .bool _ => "bool"
  | .int _ => "int"
  | .str _ => "str"
  | .list _ => "list"
  | .tuple _ => "tuple"
  | .dict _ => "dict"
theorem AnyD.ty {v : V} {d : PyData} (h : AnyD H v d) : TyX K H v (.type (tyN d)) := by
  cases h with
  | non => exact .base .non
  | bl b => exact .base (.bl b)
  | int i => exact .base (.int i)
  | str z => exact .base (.str z)
  | lst h t => exact .base (.lst h)
  | tup h t => exact .base (.tup h)
  | dic h => exact .base (.dK h)
theorem rd_isiD {v : V} {d : PyData} {n : String} {b : Bool} {Q : VK} (h : AnyD H v d) (hb : kitB (tyN d) n = some b) (q : Q (.bl b) H) : rIsi K [v, .ty n] H Q := rd_isi h.ty hb q
end
/-- type(x) of plain data -/
def rTyD : List V → Hp → VK → Prop := fun xs H Q => ∃ (x : V) (d : PyData), xs = [x] ∧ AnyD H x d ∧ d ≠ .dict [] ∧ Q (.ty (tyN d)) H
theorem call_typeD {X : Cx} : CallR X (.type "type") rTyD := by
  intro pins s σ H xs us Q I r h
  obtain ⟨x, d, rfl, t, nd, q⟩ := h
  obtain ⟨u, rfl, rx⟩ := vals1 r
  cases t with
  | non =>
    cases (show u = Value.none from rx)
    exact call_type_of (PySem.typeIs_none s) (by decide +kernel) ⟨.ty _, H, I, rfl, q⟩
  | bl b =>
    cases (show u = Value.bool b from rx)
    exact call_type_of (PySem.typeIs_bool s b) (by decide +kernel) ⟨.ty _, H, I, rfl, q⟩
  | int i =>
    obtain ⟨h1, h2⟩ := (RZ.Ty4.int (H := H) i).is I rx
    exact call_type_of h1 h2 ⟨.ty _, H, I, rfl, q⟩
  | str z =>
    obtain ⟨h1, h2⟩ := (RZ.Ty4.str (H := H) z).is I rx
    exact call_type_of h1 h2 ⟨.ty _, H, I, rfl, q⟩
  | lst h t =>
    obtain ⟨h1, h2⟩ := (RZ.Ty4.lst h).is I rx
    exact call_type_of h1 h2 ⟨.ty _, H, I, rfl, q⟩
  | tup h t =>
    obtain ⟨h1, h2⟩ := (RZ.Ty4.tup h).is I rx
    exact call_type_of h1 h2 ⟨.ty _, H, I, rfl, q⟩
  | dic h => exact absurd rfl nd
/-- an integer of at most 2000 digits -/
def dInt : PyData → Bool
  | .int i => decide (i.natAbs < 10 ^ 2000)
  | _ => false
def dRow : PyData → Bool
  | .tuple ds => decide (1 ≤ ds.length) && decide (ds.length ≤ 28) && ds.all dInt
  | _ => false
def dLen : PyData → Nat
  | .tuple ds => ds.length
  | _ => 0
def dRows : PyData → Bool
  | .tuple ds => decide (ds.length ≤ 60) && ds.all fun r => dRow r && decide (dLen r = dLen (ds.headD .none))
  | _ => false
end Lay
/-! LayW: defs whose own code object is known, since they make lambdas. -/
namespace Lay
open PySem PySem.Spec PyProof.Rows L2
/-- a def of the text, its code object at c -/
structure DefC (K : PySem.W.Frag) (mg : Str → Option Value) (x : Str) (st : Stmt) (ps : List Str) (c : Addr) : Prop where
  ex : ∃ (f : Addr) (oc : Value) (od : Option Addr) (kV doc pm : Value) (an : Option Addr) (ct : Value) (osl : Array (Option Value)),
    K.lookup f = some ⟨oc, od, .func (PySem.W.fnOf x x (defArgs st) (defBody st) (defScope st) .none kV doc pm an (.ref c) ct), osl⟩ ∧ PySem.W.codeIn K (.ref c) x = true ∧
    PySem.W.keepIn K (.ref f) = true ∧ mg x = some (.ref f) ∧ Binds K (PySem.W.fnOf x x (defArgs st) (defBody st) (defScope st) .none kV doc pm an (.ref c) ct) ps []
section
variable {P : Program} {w : World} {K : PySem.W.Frag} {mg : Str → Option Value} {base : Heap}
theorem calc_of {x : Str} {st : Stmt} {N ps : List Str} {k : Nat} {sp : Sp} {c : Addr} (D : DefC K mg x st ps c) (S : FnScope N ps (defScope st)) (many : ∀ vs H Q E, sp vs H Q E → vs.length = ps.length)
    (body : ∀ (f : Addr) (A : Around) (outer : List Env) (s : Shared) (H : Hp) (vs : List V) (Q : VK) (E : XK), Quiet A → Room k (A.deeper (envOfC x (defScope st) s.heap.objs.size f (.ref c))) → sp vs H Q E →
      ∃ t, PSs (cxOf CX0 P w K mg base N x (defScope st) f (.ref c) A outer s H E).nox (defBody st) t ∧ t { nx := fun _ H' => Q .non H', rt := Q } (start N vs) H) : Cal P w K mg base x (k + 1) ps sp := by
  obtain ⟨f, oc, od, kV, doc, pm, an, ct, osl, lk, hcd, kp, hm, b0⟩ := D.ex
  refine ⟨f, _, ⟨many, fun A outer s H args us vs Q E hq hr he hb hv hs => ?_⟩, hm, kp, b0⟩
  have hl := many _ _ _ _ hs
  have KX : K.In s.heap := he.mod.kin.keeps fun b o e => (he.bs b o e).1
  have lim : s.heap.NoLimit := he.mod.nolimit.keeps fun b o e => (he.bs b o e).1
  have kinds : ∀ y ∈ ps.zip us, (defScope st).names.lookup y.1 = some .local ∨ ((defScope st).names.lookup y.1 = some .cell ∧ ((cellsFrom (s.heap.objs.size + 1) (defScope st).names []).lookup y.1).isSome = true) := by
    intro y hy
    rcases S.par y.1 (List.of_mem_zip hy).1 with q | q
    · exact Or.inl q
    · exact Or.inr ⟨q, PySem.W.cellsFrom_some _ _ _ (Or.inl q)⟩
  apply codeAny_call_function hr.depth (KX _ _ lk) rfl S.co S.gen rfl (PySem.W.codeRec_of KX hcd)
  apply hb
  apply wpAny_newFunctionEnv_cells S.kind kinds
  intro env henv s1 x1
  subst henv
  refine ⟨lim.keeps x1.toInCall.keep, ?_⟩
  apply codeAny_func
  obtain ⟨t, ht, q0⟩ := body f A outer s H vs Q E hq (hr.deeper _) hs
  have I : Inv (cxOf CX0 P w K mg base N x (defScope st) f (.ref c) A outer s H E) [] (start N vs) H s1 := inv_start S hr.hd he hl hv x1
  refine wpAny_mono (ht.nox.run [] s1 (start N vs) H _ I q0) (fun fl s2 h2 => ?_) (fun e s2 h2 => h2)
  cases fl with
  | next =>
    obtain ⟨a, b, J, z⟩ := h2
    exact ⟨V.non, b, J.os, J.bare, J.base, J.hok, rfl, z⟩
  | ret u =>
    obtain ⟨v, a, b, J, rv, z⟩ := h2
    exact ⟨v, b, J.os, J.bare, J.base, J.hok, rv, z⟩
  | brk =>
    obtain ⟨a, b, J, z⟩ := h2
    exact z.elim
  | cont =>
    obtain ⟨a, b, J, z⟩ := h2
    exact z.elim
end
mutual
/-- what is not a table stays -/
theorem AnyD.extN {H H' : Hp} (s : LamX.ExtN H H') : ∀ {v : V} {d : PyData}, AnyD H v d → AnyD H' v d
  | _, _, .non => .non
  | _, _, .bl b => .bl b
  | _, _, .int i => .int i
  | _, _, .str z => .str z
  | _, _, .lst h t => .lst (s _ _ h (fun _ z => nomatch z)) (t.extN s)
  | _, _, .tup h t => .tup (s _ _ h (fun _ z => nomatch z)) (t.extN s)
  | _, _, .dic h => .dic (s _ _ h (fun _ z => nomatch z))
theorem AnyAll.extN {H H' : Hp} (s : LamX.ExtN H H') : ∀ {vs : List V} {ds : List PyData}, AnyAll H vs ds → AnyAll H' vs ds
  | _, _, .nil => .nil
  | _, _, .cons h t => .cons (h.extN s) (t.extN s)
end
theorem BagAt.extN {H H' : Hp} {a : Addr} (s : LamX.ExtN H H') (h : BagAt H a) : BagAt H' a := by
  obtain ⟨g, m, c, e, r⟩ := h
  exact ⟨g, m, c, s _ _ e (fun _ z => nomatch z), r⟩
theorem But.del {H H' : Hp} {a : Addr} (b : But a H H') : Same (del H a) (del H' a) := fun c o e => by
  by_cases h : c = a
  · rw [h, del_same] at e
    cases e
  · rw [del_ne h] at e ⊢
    exact b _ _ h e
theorem same_del (H : Hp) (a : Addr) : Same (del H a) H := fun c o e => by
  by_cases h : c = a
  · rw [h, del_same] at e
    cases e
  · rw [del_ne h] at e
    exact e
end Lay
namespace Lay
open PySem PySem.Spec PyProof.Rows L2
/-- for x, y in zip(xs, ys): each a list or a tuple, of one length -/
theorem for_zipM {K : PySem.W.Frag} {σ : L2.St} {H1 : Hp} {D : Ends} {tb : TS} {k1 k2 : Bool} {a b : Addr} {xs ys : List V} {i1 i2 n : Nat} (hx : xs.length = n) (hy : ys.length = n) (Pv : Nat → L2.St → Hp → Prop) (h0 : Pv 0 σ H1)
    (hk : ∀ i σ H, Pv i σ H → Kq K H k1 a xs ∧ Kq K H k2 b ys)
    (hs : ∀ i σ H x y T, i < n → Pv i σ H → xs[i]? = some x → ys[i]? = some y → H T = none → tb { D with nx := Pv (i + 1), ct := Pv (i + 1), bk := D.nx } ((σ.set i1 (some x)).set i2 (some y)) (upd H T (.tup [x, y])))
    (hd : ∀ σ H, Pv n σ H → D.nx σ H) : ForAt (Itm K k1 k2 a b) (gTup K 2 (gCons (gName i1) (gCons (gName i2) gNil))) tb D σ H1 := by
  refine ⟨fun i m σ' H' => m = n - i ∧ i ≤ n ∧ Pv i σ' H', ⟨n, by omega, Nat.zero_le _, h0⟩, ?_⟩
  rintro i m σ' H' ⟨rfl, hi, hp⟩
  obtain ⟨ka, kb⟩ := hk _ _ _ hp
  by_cases hlt : i < n
  · refine Or.inr ⟨⟨xs, ys, xs[i]'(by omega), ys[i]'(by omega), ⟨ka, kb⟩, List.getElem?_eq_getElem (by omega), List.getElem?_eq_getElem (by omega)⟩, Pv (i + 1), fun σ2 H2 w => ⟨n - (i + 1), by omega, rfl, by omega, w⟩, ?_⟩
    rintro z H2 ⟨T, x, y, ⟨rfl, hT, rfl⟩, f1, f2⟩
    refine ⟨T, _, rfl, SqT.of upd_same, rfl, ⟨_, _, rfl, rd_name ⟨_, _, rfl, rd_name ⟨rfl, ?_⟩⟩⟩⟩
    exact hs i σ' H' x y T hlt hp (f1 _ ka) (f2 _ kb) hT
  · obtain rfl : i = n := by omega
    exact Or.inl ⟨⟨xs, ys, ⟨ka, kb⟩, by omega, by omega, Or.inl hx.symm⟩, hd _ _ hp⟩
end Lay
/-! LayY: min and max of a tuple of integers. -/
namespace Lay
open PySem PySem.Spec PyProof.Rows L2
theorem fold_min : ∀ (ns : List Int) (n : Int), ns.foldl min n ∈ n :: ns ∧ ∀ y, y ∈ n :: ns → ns.foldl min n ≤ y
  | [], n => ⟨List.mem_cons_self, fun y hy => by simp at hy; rw [hy]; exact Int.le_refl _⟩
  | z :: ns, n => by
    obtain ⟨h1, h2⟩ := fold_min ns (min n z)
    have h3 := h2 (min n z) List.mem_cons_self
    refine ⟨?_, fun y hy => ?_⟩
    · show ns.foldl min (min n z) ∈ _
      rcases List.mem_cons.mp h1 with e | e
      · rw [e]
        rcases Int.min_def n z ▸ (by split <;> simp : (if n ≤ z then n else z) = n ∨ (if n ≤ z then n else z) = z) with q | q
        · rw [q]; exact List.mem_cons_self
        · rw [q]; exact List.mem_cons_of_mem _ List.mem_cons_self
      · exact List.mem_cons_of_mem _ (List.mem_cons_of_mem _ e)
    · show ns.foldl min (min n z) ≤ y
      rcases List.mem_cons.mp hy with rfl | hy
      · exact Int.le_trans h3 (Int.min_le_left _ _)
      · rcases List.mem_cons.mp hy with rfl | hy
        · exact Int.le_trans h3 (Int.min_le_right _ _)
        · exact h2 y (List.mem_cons_of_mem _ hy)
theorem fold_max : ∀ (ns : List Int) (n : Int), ns.foldl max n ∈ n :: ns ∧ ∀ y, y ∈ n :: ns → y ≤ ns.foldl max n
  | [], n => ⟨List.mem_cons_self, fun y hy => by simp at hy; rw [hy]; exact Int.le_refl _⟩
  | z :: ns, n => by
    obtain ⟨h1, h2⟩ := fold_max ns (max n z)
    have h3 := h2 (max n z) List.mem_cons_self
    refine ⟨?_, fun y hy => ?_⟩
    · show ns.foldl max (max n z) ∈ _
      rcases List.mem_cons.mp h1 with e | e
      · rw [e]
        rcases Int.max_def n z ▸ (by split <;> simp : (if n ≤ z then z else n) = n ∨ (if n ≤ z then z else n) = z) with q | q
        · rw [q]; exact List.mem_cons_self
        · rw [q]; exact List.mem_cons_of_mem _ List.mem_cons_self
      · exact List.mem_cons_of_mem _ (List.mem_cons_of_mem _ e)
    · show y ≤ ns.foldl max (max n z)
      rcases List.mem_cons.mp hy with rfl | hy
      · exact Int.le_trans (Int.le_max_left _ _) h3
      · rcases List.mem_cons.mp hy with rfl | hy
        · exact Int.le_trans (Int.le_max_right _ _) h3
        · exact h2 y (List.mem_cons_of_mem _ hy)
end Lay
namespace Lay
open PySem PySem.Spec PyProof.Rows L2
theorem alike_intsAll (ns : List Int) : PySem.W.AlikeAll (ns.map PyData.int) := by
  refine ⟨fun x hx y hy => ?_, fun x hx z => ?_⟩
  · obtain ⟨i, _, rfl⟩ := List.mem_map.mp hx
    obtain ⟨j, _, rfl⟩ := List.mem_map.mp hy
    rfl
  · obtain ⟨i, _, rfl⟩ := List.mem_map.mp hx
    cases z
theorem depth_ints (ns : List Int) : PyData.depthAll (ns.map PyData.int) ≤ 0 := depthAll_of fun d hd => by
  obtain ⟨i, _, rfl⟩ := List.mem_map.mp hd
  exact Nat.le_refl 0
/-- min(xs), max(xs) of a tuple of ints -/
def rMinT (K : PySem.W.Frag) : List V → Hp → VK → Prop := fun vs H Q => ∃ (a : Addr) (ns : List Int), vs = [V.ref a] ∧ SqT K H a (ns.map V.int) ∧ 0 < ns.length ∧ ∀ m, m ∈ ns → (∀ y, y ∈ ns → m ≤ y) → Q (.int m) H
def rMaxT (K : PySem.W.Frag) : List V → Hp → VK → Prop := fun vs H Q => ∃ (a : Addr) (ns : List Int), vs = [V.ref a] ∧ SqT K H a (ns.map V.int) ∧ 0 < ns.length ∧ ∀ m, m ∈ ns → (∀ y, y ∈ ns → y ≤ m) → Q (.int m) H
theorem cr_minT {X : Cx} (hc : X.calm = true) (hu : X.A.units + 64 < cLine) : CallR X (.builtin "min") (rMinT X.K) := by
  intro pins s σ H vs us Q I r h
  obtain ⟨a, ns, rfl, hs, hne, q⟩ := h
  obtain ⟨its, rv, pl, hz⟩ := I.tuple hs
  rw [Vals.ref1 r]
  obtain ⟨n, l, rfl⟩ : ∃ n l, ns = n :: l := by
    cases ns with
    | nil => cases hne
    | cons n l => exact ⟨n, l, rfl⟩
  refine PySem.W.min_tuple_data (x := .int n) (xs := l.map PyData.int) (I.ok.hd hc) pl (reads_ints rv) (alike_intsAll (n :: l)) ?_ fun i v h' tk bs _ rd hk => ?_
  · have := depth_ints (n :: l)
    show X.A.units + 1 + PyData.depthAll ((n :: l).map PyData.int) < cLine
    omega
  · rw [PySem.W.minD_ints] at rd
    cases rd
    obtain ⟨h1, h2⟩ := fold_min l n
    exact ⟨.int _, H, I.kept hk, ⟨_, rfl⟩, q _ h1 h2⟩
theorem cr_maxT {X : Cx} (hc : X.calm = true) (hu : X.A.units + 64 < cLine) : CallR X (.builtin "max") (rMaxT X.K) := by
  intro pins s σ H vs us Q I r h
  obtain ⟨a, ns, rfl, hs, hne, q⟩ := h
  obtain ⟨its, rv, pl, hz⟩ := I.tuple hs
  rw [Vals.ref1 r]
  obtain ⟨n, l, rfl⟩ : ∃ n l, ns = n :: l := by
    cases ns with
    | nil => cases hne
    | cons n l => exact ⟨n, l, rfl⟩
  refine PySem.W.max_tuple_data (x := .int n) (xs := l.map PyData.int) (I.ok.hd hc) pl (reads_ints rv) (alike_intsAll (n :: l)) ?_ fun i v h' tk bs _ rd hk => ?_
  · have := depth_ints (n :: l)
    show X.A.units + 1 + PyData.depthAll ((n :: l).map PyData.int) < cLine
    omega
  · rw [PySem.W.maxD_ints] at rd
    cases rd
    obtain ⟨h1, h2⟩ := fold_max l n
    exact ⟨.int _, H, I.kept hk, ⟨_, rfl⟩, q _ h1 h2⟩
end Lay
/-! LayZ: a dict comprehension whose keys are tuples of ints and texts. -/
namespace Lay
open PySem PySem.Spec PyProof.Rows L2
section
variable {X : Cx}
theorem put_tup {pn : List (Addr × Obj)} {σ : L2.St} {H : Hp} {t : Shared} {E : Value → Shared → Prop} {d b : Addr} {ws : List (List Key × V)} {k : List Key} {z : V} {r : Value} {Q : Unit → Shared → Prop} (hu : X.A.units + 1 < cLine) (I : Inv X pn σ H t) (hd : H d = some (.dT ws)) (hb : H b = some (.tup (k.map kV)))
    (hw : ws.length < sizeLine) (rz : RelV z r) (q : ∀ t', Inv X pn σ (upd H d (.dT (putK ws k z))) t' → Q () t') : wpAny (model X.prog X.w) X.A (dictSet d (.ref b) r) Q E t := by
  obtain ⟨n1, nm, xs, rel, dd⟩ := dt_of I.hok hd
  have n2 : (putK ws k z).length ≤ sizeLine := Nat.le_trans (length_putK ws k z) hw
  have n3 : xs.length ≤ sizeLine := Paired.length rel ▸ n1
  refine wpAny_dictSet_heap (hsz := n3) (knd := tupleKind (mixKind X.prog X.w)) (show X.A.units < cLine by omega) (key_of I.hok hb) dd fun h' dd' sb => q _ ?_
  obtain ⟨o, es, ep, g1, g2, g3, g4, _, g5⟩ := dd'
  refine d_write I (by rw [hd]; trivial) sb ⟨o, g1⟩ ⟨n2, nm, _, (rel.put k hb rz).keeps fun c ys ec => ?_, o, es, ep, g1, g2, g3, g4, g5⟩
  exact (upd_ne (ne_of ec hd fun w => nomatch w)).trans ec
/-- {k: v for .. in ..} where the keys are tuples: D is the new dict -/
def tDcT (wi : TI) (g : TG) (tt : L2.TT) (tk tv : TE) (vs : List Nat) : TE := fun σ H Q => wi σ H fun J H1 => ∀ D, H1 D = none → ∃ W : Nat → Nat → Hp → Prop, (∃ m, W 0 m (upd H1 D (.dT []))) ∧ ∀ i m H, W i m H →
  (J.stop i H ∧ Q (.ref D) H) ∨ (J.go i H ∧ ∃ Nx : Hp → Prop, (∀ H', Nx H' → ∃ m', m' < m ∧ W (i + 1) m' H') ∧ ∀ x H', J.yld i H x H' → g x (wipe σ vs) H' fun σ2 H2 => wipe σ2 vs = wipe σ vs ∧ tt σ2 H2 fun b H3 =>
    if b = true then tk σ2 H3 fun y H4 => tv σ2 H4 fun z H5 => ∃ ws k q, y = .ref q ∧ H5 q = some (.tup (k.map kV)) ∧ H5 D = some (.dT ws) ∧ ws.length < sizeLine ∧ Nx (upd H5 D (.dT (putK ws k z))) else Nx H3)
theorem tup_comp {pn : List (Addr × Obj)} {t : Shared} {σ : L2.St} {H : Hp} {Q : VK} {ke ve te ie : Expr} {cs : List Expr} {sc : Scope} {own : List (Str × Nat)} {p0 p1 : Pos} {wi : TI} {g : TG} {tt : L2.TT} {tk tv : TE} {us : Option (Value → Sem Unit)} {R : Value → Shared → Prop}
    (hu : X.A.units + 1 < cLine) (calm : X.calm = true) (nd : X.N.Nodup) (I : Inv X pn σ H t) (PIe : PI X te ie wi) (B : BlkOk X.N X.env.scope sc own)
    (PGe : ∀ (t : Shared) (H : Hp) (C : Addr) (cl : List (Str × Addr)) (ps : List Addr), PG (X.blk t H sc (compEnvC sc cl C X.env) ps) te g) (PTe : ∀ (t : Shared) (H : Hp) (C : Addr) (cl : List (Str × Addr)) (ps : List Addr), PTs (X.blk t H sc (compEnvC sc cl C X.env) ps) cs tt)
    (PKe : ∀ (t : Shared) (H : Hp) (C : Addr) (cl : List (Str × Addr)) (ps : List Addr), PE (X.blk t H sc (compEnvC sc cl C X.env) ps) ke tk)
    (PVe : ∀ (t : Shared) (H : Hp) (C : Addr) (cl : List (Str × Addr)) (ps : List Addr), PE (X.blk t H sc (compEnvC sc cl C X.env) ps) ve tv) (fs : ∀ x, foldedSetIterable ie X.env x = pure x)
    (w : tDcT wi g tt tk tv (own.map (·.2)) σ H Q)
    (fin : ∀ D C t' m H', Inv X pn σ H' t' → Q (.ref D) H' → t'.heap.Ns C m → FpOk X pn H' C → compPost (model X.prog X.w) X.A X.xe us R (.ref D) C (.ok .next) t') :
    wpAny (model X.prog X.w) X.A (comprehension (.DictComp ke ve [⟨te, ie, cs, 0⟩] sc p0) sc X.env p1 newDict false (eval ie X.env) us) R X.xe t := by
  have caught : ∀ y ∈ sc.names, y.2 = .free → ∃ c, X.env.cells.lookup y.1 = some c := fun y hy e => (B.free y hy e).elim (fun k => I.ok.has _ (.inl k)) fun k => I.ok.has _ (.inr k)
  refine wpAny_comprehension_free (use := us) rfl fs (closure_ok caught) B.kind (fun y hy e => (B.uniq y hy).trans (by rw [e])) (thn (PIe.run pn t σ H _ I w) fun _ t1 z => thn z fun _ t2 z => ?_)
  obtain ⟨it, ps, st, J, G, rfl, IG, T, stG, free, w⟩ := z
  refine wpAny_newObj_type (newEnv_comp ?_)
  generalize eD : t2.heap.objs.size = D
  have newD : G D = none := IG.hok.fresh (Nat.le_of_eq eD)
  obtain ⟨W, ⟨m0, w0⟩, turn⟩ := w D newD
  generalize e3 : ({ t2 with heap := t2.heap.push { cls := .type "dict", data := .dict #[] } } : Shared) = t3
  have hp3 : t3.heap = t2.heap.push { cls := .type "dict", data := .dict #[] } := by subst e3; rfl
  have I3 : Inv X pn σ (upd G D (.dT [])) t3 := by
    subst e3
    refine IG.laid (t' := t2.toks) (fun _ _ e => Heap.get?_push_of_some _ e) (Nat.le_of_eq eD) ?_
    subst eD
    exact dt_empty t2.heap IG.big
  have old : ∀ b ∈ ps, b < t2.heap.objs.size := fun b hb => (T.obj _ _ stG b hb).elim fun o e => Heap.lt_size e.1
  have out3 : ∀ b ∈ ps, FpOk X pn (upd G D (.dT [])) b ∧ b < t3.heap.objs.size := fun b hb => by
    have lt := old b hb
    have ne : b ≠ D := fun e => absurd (eD.trans e.symm) (Nat.ne_of_gt lt)
    exact ⟨⟨(upd_ne ne).trans (free b hb).1, (free b hb).2⟩, hp3 ▸ (Heap.size_push t2.heap _).symm ▸ Nat.lt_succ_of_lt lt⟩
  have st3 : st 0 t3.heap := T.keep _ _ _ stG fun b _ o e => by rw [hp3]; exact Heap.get?_push_of_some _ e
  have I4 := block_start I3 B nd out3
  have gg := PGe t3 (upd G D (.dT [])) t3.heap.objs.size (cellsFrom (t3.heap.objs.size + 1) sc.names (cloFrom X.env.cells sc.names [])) ps
  have gt := PTe t3 (upd G D (.dT [])) t3.heap.objs.size (cellsFrom (t3.heap.objs.size + 1) sc.names (cloFrom X.env.cells sc.names [])) ps
  have gk := PKe t3 (upd G D (.dT [])) t3.heap.objs.size (cellsFrom (t3.heap.objs.size + 1) sc.names (cloFrom X.env.cells sc.names [])) ps
  have gv := PVe t3 (upd G D (.dT [])) t3.heap.objs.size (cellsFrom (t3.heap.objs.size + 1) sc.names (cloFrom X.env.cells sc.names [])) ps
  have goal : ∀ {Z : Result → Shared → Prop}, codeAny (model X.prog X.w) X.A (.compStart (.DictComp ke ve [⟨te, ie, cs, 0⟩] sc p0) 0 (.ref it) (.ref D) (compEnvC sc (cellsFrom (t3.heap.objs.size + 1) sc.names (cloFrom X.env.cells sc.names [])) t3.heap.objs.size X.env)) Z { t3 with heap := pushCells (t3.heap.push { cls := .type "dict", data := .dict #[] }) sc.names } →
      codeAny (model X.prog X.w) X.A (.compStart (.DictComp ke ve [⟨te, ie, cs, 0⟩] sc p0) 0 (.ref it) (.ref D) (compEnvC sc (cellsFrom (t3.heap.objs.size + 1) sc.names (cloFrom X.env.cells sc.names [])) t3.heap.objs.size X.env)) Z { t3 with heap := pushCells (t3.heap.push { cls := .type "dict", data := .dict #[] }) sc.names } := fun z => z
  refine goal (Z := compPost (model X.prog X.w) X.A X.xe us R (.ref D) t3.heap.objs.size) ?_
  have off : ∀ b ∈ ps, (upd G D (.dT [])) b = none := fun b hb => (out3 b hb).1.1
  generalize eE : compEnvC sc (cellsFrom (t3.heap.objs.size + 1) sc.names (cloFrom X.env.cells sc.names [])) t3.heap.objs.size X.env = ev at I4 gg gt gk gv ⊢
  have lE : ev.locals = t3.heap.objs.size := eE ▸ rfl
  generalize eG3 : upd G D (.dT []) = G3 at I3 I4 gg gt gk gv w0 off out3
  generalize e4 : ({ t3 with heap := pushCells (t3.heap.push { cls := .type "dict", data := .dict #[] }) sc.names } : Shared) = t4 at I4 ⊢
  have st4 : st 0 t4.heap := T.keep _ _ _ st3 fun b _ o e => by subst e4; exact pushCells_keeps _ _ _ _ (Heap.get?_push_of_some _ e)
  have here : ∀ {σ' : L2.St} {H' : Hp} {t' : Shared}, Inv (X.blk t3 G3 sc ev ps) [] σ' H' t' → (∀ b ∈ ps, H' b = none) → ∀ b ∈ ps, FpOk (X.blk t3 G3 sc ev ps) [] H' b := fun {σ' H' t'} J' n b hb =>
    ⟨n b hb, (J'.ok.exf b hb).1, J'.ok.exfs b hb, .inl hb, (fun x c e => (J'.ok.exf b hb).2 x c e), fun p hp => (by simp : p ∉ ([] : List (Addr × Obj)) ++ []).elim hp⟩
  refine codeAny_compStart_dict ?_ (T.self X.A 0 _ _ _ st4 ?_)
  all_goals
    refine compLoop_anyD (fun n t' => ∃ i H', Inv (X.blk t3 G3 sc ev ps) [] (wipe σ (own.map (·.2))) H' t' ∧ st i t'.heap ∧ (∀ b ∈ ps, H' b = none) ∧ W i n H') ?_ m0 ⟨0, G3, I4, st4, off, w0⟩
    rintro n t5 ⟨i, G5, I5, st5, n5, w5⟩
    rcases turn i n G5 w5 with ⟨stop, qq⟩ | ⟨go, Nx, hNx, step⟩
    · refine thnF (T.done (X.blk t3 G3 sc ev ps) rfl rfl rfl calm i [] t5 _ G5 (fun _ _ => False) I5 (here I5 n5) st5 stop) fun r t6 ⟨hr, I6⟩ => ?_
      subst hr
      have I7 : Inv X pn σ G5 t6 := I3.call' (ch := ps) I6.os I6.base I6.hok I6.bare fun b hb => match (out3 b hb).1 with | ⟨_, y1, y2, y3, y4⟩ => ⟨y3, y1, y4.1, y4.2⟩
      have fr : G5 t3.heap.objs.size = none := lE ▸ I6.free
      obtain ⟨m, hm, _⟩ := I6.loc
      exact fin D t3.heap.objs.size t6 m G5 I7 qq (lE ▸ hm) (I3.fpOk (Nat.le_refl _) fr)
    · refine thnF (T.item (X.blk t3 G3 sc ev ps) rfl rfl rfl calm i [] t5 _ G5 (fun _ _ => False) I5 (here I5 n5) st5 go) fun r t6 ⟨u, hr, h6⟩ => ?_
      subst hr
      refine thnF h6 fun _ t7 ⟨x, G7, I7, r7, y7, st7, n7⟩ => ?_
      refine thnF (gg.run _ t7 _ G7 x u _ (I7.pinned (here I7 n7) (T.obj _ _ st7)) r7 (step x G7 y7)) fun _ t8 ⟨σ8, G8, I8, e8, q8⟩ => ?_
      refine thnF (gt.run _ t8 σ8 G8 _ I8 q8) fun b t9 ⟨G9, I9, q9⟩ => ?_
      have back : ∀ {t' : Shared} {H' : Hp}, Inv (X.blk t3 G3 sc ev ps) ([] ++ pinsAt ps t7.heap) σ8 H' t' → Nx H' → ∃ m, m < n ∧ ∃ i H', Inv (X.blk t3 G3 sc ev ps) [] (wipe σ (own.map (·.2))) H' t' ∧ st i t'.heap ∧ (∀ b ∈ ps, H' b = none) ∧ W i m H' := fun {t' H'} J' nx => by
        obtain ⟨m', lt, w'⟩ := hNx H' nx
        have pin : ∀ b ∈ ps, ∀ o, t7.heap.get? b = some o → t'.heap.get? b = some o ∧ H' b = none := fun b hb o e =>
          match J'.pin (b, o) (List.mem_append_right _ (List.mem_append_right _ (mem_pinsAt hb e))) with | ⟨z1, z2, _⟩ => ⟨z1, z2⟩
        refine ⟨m', lt, i + 1, H', (J'.unpinned (pins := [])).weak (by rw [← e8, wipe_length]) (fun j v e => (wipe_some (e8 ▸ e)).1), T.keep _ _ _ st7 fun b hb o e => (pin b hb o e).1, fun b hb => ?_, w'⟩
        obtain ⟨o, e, _⟩ := T.obj _ _ st7 b hb
        exact (pin b hb o e).2
      cases b
      · rw [if_neg (fun z => nomatch z)] at q9 ⊢
        exact back I9 q9
      · rw [if_pos rfl] at q9 ⊢
        refine thnF (gk.run _ t9 σ8 G9 _ I9 q9) fun z t10 ⟨yk, G10, I10, r10, q10⟩ => ?_
        refine thnF (gv.run _ t10 σ8 G10 _ I10 q10) fun z2 t11 ⟨yv, G11, I11, r11, ws, k, q, ek, hq, hD, hl, nx⟩ => ?_
        subst ek
        cases r10
        exact put_tup (X := X.blk t3 G3 sc ev ps) hu I11 hD hq hl r11 fun t12 I12 => back I12 nx
theorem pe_dcT {ke ve te ie : Expr} {cs : List Expr} {sc : Scope} {own : List (Str × Nat)} {p0 : Pos} {wi : TI} {g : TG} {tt : L2.TT} {tk tv : TE} (hu : X.A.units + 1 < cLine) (calm : X.calm = true) (nd : X.N.Nodup) (PIe : PI X te ie wi) (B : BlkOk X.N X.env.scope sc own)
    (PGe : ∀ (t : Shared) (H : Hp) (C : Addr) (cl : List (Str × Addr)) (ps : List Addr), PG (X.blk t H sc (compEnvC sc cl C X.env) ps) te g) (PTe : ∀ (t : Shared) (H : Hp) (C : Addr) (cl : List (Str × Addr)) (ps : List Addr), PTs (X.blk t H sc (compEnvC sc cl C X.env) ps) cs tt)
    (PKe : ∀ (t : Shared) (H : Hp) (C : Addr) (cl : List (Str × Addr)) (ps : List Addr), PE (X.blk t H sc (compEnvC sc cl C X.env) ps) ke tk)
    (PVe : ∀ (t : Shared) (H : Hp) (C : Addr) (cl : List (Str × Addr)) (ps : List Addr), PE (X.blk t H sc (compEnvC sc cl C X.env) ps) ve tv) (fs : ∀ x, foldedSetIterable ie X.env x = pure x := by intro _; rfl) :
    PE X (.DictComp ke ve [⟨te, ie, cs, 0⟩] sc p0) (tDcT wi g tt tk tv (own.map (·.2))) := by
  refine ⟨fun pn t σ H Q I w => ?_⟩
  rw [arm_eval_DictComp]
  refine tup_comp hu calm nd I PIe B PGe PTe PKe PVe fs w fun D C t' m H' J q hm f => ⟨m, hm, fun h2 sb => ?_⟩
  exact match f with | ⟨y0, y1, _, y3, y4, y5⟩ => ⟨.ref D, H', J.turned (t' := t'.toks) (fun b o hb e => (sb.2 b hb).trans e) y0 y1 y3 y4 y5, rfl, q⟩
/-- list(d) of such a dict -/
def rLstT : List V → Hp → VK → Prop := fun xs H Q => ∃ d kvs, xs = [V.ref d] ∧ H d = some (.dT kvs) ∧ ∀ p bs, H p = none → IsKeys H kvs bs → Q (.ref p) (upd H p (.lst (bs.map V.ref)))
theorem q_lstT (calm : X.calm = true) : CallR X (.type "list") rLstT := by
  intro pn t σ H xs us Q I r h
  obtain ⟨d, kvs, e, hd, q⟩ := h
  exact call_list_dT calm pn t σ H xs us Q I r ⟨d, kvs, e, .inl hd, q⟩
end
end Lay
/-! LayZZ: any of a list of ints, the least of three ints, the readings of LayZ. -/
namespace Lay
open PySem PySem.Spec PyProof.Rows L2
theorem units1 {n m : Nat} (h : n + 64 < m) : n + 1 < m := Nat.lt_trans (Nat.add_lt_add_left (by decide) n) h
theorem plain_ints : ∀ ns : List Int, PyData.plainAll (ns.map PyData.int) = true
  | [] => rfl
  | n :: ns => by
    show PyData.plainAll (PyData.int n :: ns.map PyData.int) = true
    rw [PyData.plainAll, plain_ints ns]
    rfl
/-- any(xs) of a list of ints -/
def rAnyI (K : PySem.W.Frag) : List V → Hp → VK → Prop := fun vs H Q => ∃ (a : Addr) (ns : List Int), vs = [V.ref a] ∧ SqL K H a (ns.map V.int) ∧ Q (.bl (ns.any fun n => n != 0)) H
theorem cr_anyI {X : Cx} (hc : X.calm = true) : CallR X (.builtin "any") (rAnyI X.K) := by
  intro pins s σ H vs us Q I r h
  obtain ⟨a, ns, rfl, hs, q⟩ := h
  obtain ⟨its, rv, hl, _⟩ := I.list hs
  rw [Vals.ref1 r]
  refine PySem.W.any_list_data (I.ok.hd hc) hl.isList (xs := ns.map PyData.int) (by simpa using reads_ints rv) (plain_ints ns) (fun x hx => ?_) fun h' tk hk => ?_
  · obtain ⟨n, _, rfl⟩ := List.mem_map.mp hx
    trivial
  · rw [List.any_map]
    exact ⟨.bl _, H, I.kept hk, rfl, q⟩
theorem rd_anyI {K : PySem.W.Frag} {H : Hp} {Q : VK} {a : Addr} {ns : List Int} (h : SqL K H a (ns.map V.int)) (q : Q (.bl (ns.any fun n => n != 0)) H) : rAnyI K [V.ref a] H Q := ⟨a, ns, rfl, h, q⟩
/-- min(x, y, z) of ints -/
def rMn3 : List V → Hp → VK → Prop := fun xs H Q => ∃ i j k : Int, xs = [.int i, .int j, .int k] ∧ Q (.int (min (min i j) k)) H
theorem q_min3 {X : Cx} (hc : X.calm = true) : CallR X (.builtin "min") rMn3 := by
  intro pins s σ H xs us Q I r h
  obtain ⟨i, j, k, rfl, q⟩ := h
  refine call_min3Nu hc pins s σ H _ us Q I r ⟨_, _, _, .int (min (min i j) k), rfl, ?_, q⟩
  have e1 : nuMin2 (.int i) (.int j) = some (.int (min i j)) := by
    show some (if decide (j < i) = true then V.int j else V.int i) = _
    by_cases h : j < i
    · rw [decide_eq_true h, if_pos rfl, Int.min_eq_right (by omega)]
    · rw [decide_eq_false h, if_neg (fun z => nomatch z), Int.min_eq_left (by omega)]
  have e2 : ∀ m : Int, nuMin2 (.int m) (.int k) = some (.int (min m k)) := fun m => by
    show some (if decide (k < m) = true then V.int k else V.int m) = _
    by_cases h : k < m
    · rw [decide_eq_true h, if_pos rfl, Int.min_eq_right (by omega)]
    · rw [decide_eq_false h, if_neg (fun z => nomatch z), Int.min_eq_left (by omega)]
  show (nuMin2 (.int i) (.int j)).bind (fun m => nuMin2 m (.int k)) = _
  rw [e1]
  exact e2 _
theorem rd_min3 {H : Hp} {Q : VK} {i j k : Int} (q : Q (.int (min (min i j) k)) H) : rMn3 [V.int i, V.int j, V.int k] H Q := ⟨i, j, k, rfl, q⟩
/-- what such a comprehension asks once its dict stands at D -/
def DcAt (J : It) (g : TG) (tt : L2.TT) (tk tv : TE) (vs : List Nat) (σ : L2.St) (D : Addr) (H1 : Hp) (Q : VK) : Prop := ∃ W : Nat → Nat → Hp → Prop, (∃ m, W 0 m (upd H1 D (.dT []))) ∧ ∀ i m H, W i m H →
  (J.stop i H ∧ Q (.ref D) H) ∨ (J.go i H ∧ ∃ Nx : Hp → Prop, (∀ H', Nx H' → ∃ m', m' < m ∧ W (i + 1) m' H') ∧ ∀ x H', J.yld i H x H' → g x (wipe σ vs) H' fun σ2 H2 => wipe σ2 vs = wipe σ vs ∧ tt σ2 H2 fun b H3 =>
    if b = true then tk σ2 H3 fun y H4 => tv σ2 H4 fun z H5 => ∃ ws k q, y = .ref q ∧ H5 q = some (.tup (k.map kV)) ∧ H5 D = some (.dT ws) ∧ ws.length < sizeLine ∧ Nx (upd H5 D (.dT (putK ws k z))) else Nx H3)
theorem rd_dcT {σ : L2.St} {H : Hp} {Q : VK} {wi : TI} {g : TG} {tt : L2.TT} {tk tv : TE} {vs : List Nat} (q : wi σ H (fun J H1 => ∀ D, H1 D = none → DcAt J g tt tk tv vs σ D H1 Q)) : tDcT wi g tt tk tv vs σ H Q := q
theorem rd_lstT {H : Hp} {Q : VK} {d : Addr} {kvs : List (List Key × V)} (h : H d = some (.dT kvs)) (q : ∀ p bs, H p = none → IsKeys H kvs bs → Q (.ref p) (upd H p (.lst (bs.map V.ref)))) : rLstT [V.ref d] H Q := ⟨d, kvs, rfl, h, q⟩
/-- the pairs of the first n -/
def putN (ks : Nat → List Key) (zs : Nat → V) : Nat → List (List Key × V)
  | 0 => []
  | n + 1 => putK (putN ks zs n) (ks n) (zs n)
theorem putN_len (ks : Nat → List Key) (zs : Nat → V) : ∀ n, (putN ks zs n).length ≤ n
  | 0 => Nat.le_refl 0
  | n + 1 => Nat.le_trans (length_putK _ _ _) (Nat.succ_le_succ (putN_len ks zs n))
/-- {k(x): v(x) for x in ..}, what stands stays -/
theorem dc_same {σ : L2.St} {H1 : Hp} {Q : VK} {J : It} {n : Nat} {G : Hp → Prop} {item : Nat → V} (w : Wk J n G item) {i : Nat} {tk tv : TE} {E : Addr} (hn : n ≤ 1000) (hE : H1 E = none) (hG : ∀ H', Same H1 H' → G H') (ks : Nat → List Key) (zs : Nat → V)
    (hk : ∀ j, j < n → ∀ H', Same H1 H' → ∀ R : VK, (∀ q H'', Same H' H'' → H'' q = some (.tup ((ks j).map kV)) → R (.ref q) H'') → tk ((wipe σ [i]).set i (some (item j))) H' R)
    (hv : ∀ j, j < n → ∀ H', Same H1 H' → ∀ R : VK, (∀ H'', Same H' H'' → R (zs j) H'') → tv ((wipe σ [i]).set i (some (item j))) H' R)
    (hd : ∀ H', Same H1 H' → H' E = some (.dT (putN ks zs n)) → Q (.ref E) H') : DcAt J (gName i) tYes tk tv [i] σ E H1 Q := by
  refine ⟨fun k m H' => m = n - k ∧ k ≤ n ∧ Same H1 H' ∧ H' E = some (.dT (putN ks zs k)), ⟨n, rfl, Nat.zero_le _, same_up hE (Same.refl H1), upd_same⟩, ?_⟩
  rintro k m H' ⟨rfl, hle, hs, hl⟩
  by_cases hlt : k < n
  · refine Or.inr ⟨w.go k H' (hG H' hs) hlt, fun H'' => Same H1 H'' ∧ H'' E = some (.dT (putN ks zs (k + 1))), fun H'' h => ⟨n - (k + 1), by omega, rfl, hlt, h.1, h.2⟩, fun x H2 hy => ?_⟩
    obtain ⟨rfl, rfl⟩ := w.yld k H' x H2 (hG H' hs) hlt hy
    refine ⟨wipe1 σ i _, ?_⟩
    refine rd_yes ?_
    refine rd_ifb (fun _ => ?_) (fun z => nomatch z)
    refine hk k hlt H2 hs _ fun q H3 s3 hq => ?_
    refine hv k hlt H3 (hs.trans s3) _ fun H4 s4 => ?_
    refine ⟨_, ks k, q, rfl, s4 _ _ hq, s4 _ _ (s3 _ _ hl), Nat.lt_of_le_of_lt (Nat.le_trans (putN_len ks zs k) (by omega : k ≤ 1000)) (by decide), same_up hE ((hs.trans s3).trans s4), upd_same⟩
  · obtain rfl : k = n := by omega
    exact Or.inl ⟨w.stop H' (hG H' hs), hd H' hs hl⟩
theorem putN_one (k : List Key) (z : V) : ∀ n, putN (fun _ => k) (fun _ => z) (n + 1) = [(k, z)]
  | 0 => rfl
  | n + 1 => by
    rw [putN, putN_one k z n]
    simp [putK]
end Lay
namespace Lay
open PySem PySem.Spec PyProof.Rows L2
/-- for x in e, e a list or a tuple -/
def iSeq (K : PySem.W.Frag) (te : TE) : TI := fun σ H R => te σ H fun x H1 => ∃ a, x = .ref a ∧ (((∃ xs, SqL K H1 a xs) ∧ R (Itl K a) H1) ∨ ((∃ xs, SqT K H1 a xs) ∧ R (Itt K a) H1))
theorem pi_seq {X : Cx} {tg e : Expr} {te : TE} (he : PE X e te) : PI X tg e (iSeq X.K te) := by
  constructor
  intro pn t σ H R I w
  refine thn (he.run pn t σ H _ I w) ?_
  rintro v t1 ⟨x, H1, J, rv, a, rfl, w1⟩
  cases (show v = Value.ref a from rv)
  have it : ∀ b ∈ [t1.heap.objs.size], FpOk X pn H1 b := fun b hb => by
    cases List.mem_singleton.mp hb
    exact J.fpOk (Nat.le_refl _) (J.hok.fresh (Nat.le_refl _))
  have J2 : ∀ o : Obj, L2.Inv X pn σ H1 { t1 with heap := t1.heap.push o } := fun o => J.kept (t' := t1.toks) fun _ _ q => Heap.get?_push_of_some _ q
  rcases w1 with ⟨⟨xs, hs⟩, w2⟩ | ⟨⟨xs, hs⟩, w2⟩
  · obtain ⟨its, _, p, _⟩ := J.list hs
    refine wpAny_pyIter_list p.isList ?_
    exact ⟨t1.heap.objs.size, [t1.heap.objs.size], _, _, H1, rfl, J2 _, turn_list a _, ⟨_, Heap.get?_push_size _ rfl, rfl, rfl⟩, it, w2⟩
  · obtain ⟨its, _, p, _⟩ := J.tuple hs
    refine wpAny_pyIter_tuple (items := its.toArray) p ?_
    exact ⟨t1.heap.objs.size, [t1.heap.objs.size], _, _, H1, rfl, J2 _, turn_tuple a _, ⟨_, Heap.get?_push_size _ rfl, rfl, rfl⟩, it, w2⟩
theorem pi_seqK {X : Cx} {tg e : Expr} {te : TE} {K : PySem.W.Frag} (h : X.K = K) (he : PE X e te) : PI X tg e (iSeq K te) := by
  subst h
  exact pi_seq he
theorem rd_iSeqL {K : PySem.W.Frag} {te : TE} {σ : L2.St} {H : Hp} {R : It → Hp → Prop} (q : te σ H fun x H1 => ∃ a, x = .ref a ∧ (((∃ xs, SqL K H1 a xs) ∧ R (Itl K a) H1) ∨ ((∃ xs, SqT K H1 a xs) ∧ R (Itt K a) H1))) : iSeq K te σ H R := q
end Lay
namespace K05
open PySem PySem.Spec PyProof.Rows L2 Lay

def top (i : Nat) : Stmt := PySem.Challenge.pw_lengthstell_k05_errors_of_rows.main.body.getD i (.Pass ⟨0, 0, 0, 0⟩)
abbrev sdivided : Stmt := top 4
theorem scdivided : FnScope ["row", "common", "entry"] ["row"] (defScope sdivided) := ⟨rfl, rfl, rfl, by decide +kernel, rfl, by decide +kernel, by decide +kernel⟩
abbrev s_unlike : Stmt := top 5
theorem sc_unlike : FnScope ["rows", "row"] ["rows"] (defScope s_unlike) := ⟨rfl, rfl, rfl, by decide +kernel, rfl, by decide +kernel, by decide +kernel⟩
abbrev s_take_by_residues : Stmt := top 6
theorem sc_take_by_residues : FnScope ["rows", "start", "leads", "taken", "most", "patience", "idle", "at"] ["rows", "start", "leads", "taken", "most", "patience"] (defScope s_take_by_residues) := ⟨rfl, rfl, rfl, by decide +kernel, rfl, by decide +kernel, by decide +kernel⟩
abbrev s_adds_lead : Stmt := top 7
theorem sc_adds_lead : FnScope ["leads", "row", "left", "start", "column", "factor", "tail", "head", "above", "entry", "against"] ["leads", "row"] (defScope s_adds_lead) := ⟨rfl, rfl, rfl, by decide +kernel, rfl, by decide +kernel, by decide +kernel⟩
abbrev s_row_with : Stmt := top 8
theorem sc_row_with : FnScope ["rows", "start", "column", "at"] ["rows", "start", "column"] (defScope s_row_with) := ⟨rfl, rfl, rfl, by decide +kernel, rfl, by decide +kernel, by decide +kernel⟩
abbrev s_swap : Stmt := top 9
theorem sc_swap : FnScope ["values", "one", "other"] ["values", "one", "other"] (defScope s_swap) := ⟨rfl, rfl, rfl, by decide +kernel, rfl, by decide +kernel, by decide +kernel⟩
abbrev s_reduced_alone : Stmt := top 10
theorem sc_reduced_alone : FnScope ["rows", "width", "left", "leads", "opened", "scale", "column", "at", "form", "row", "entry"] ["rows", "width"] (defScope s_reduced_alone) := ⟨rfl, rfl, rfl, by decide +kernel, rfl, by decide +kernel, by decide +kernel⟩
abbrev s_clear_others : Stmt := top 11
theorem sc_clear_others : FnScope ["left", "top", "column", "scale", "lead", "at", "factor"] ["left", "top", "column", "scale"] (defScope s_clear_others) := ⟨rfl, rfl, rfl, by decide +kernel, rfl, by decide +kernel, by decide +kernel⟩
abbrev s_combined : Stmt := top 12
theorem sc_combined : FnScope ["factor", "row", "lead", "above", "scale", "entry", "against"] ["factor", "row", "lead", "above", "scale"] (defScope s_combined) := ⟨rfl, rfl, rfl, by decide +kernel, rfl, by decide +kernel, by decide +kernel⟩
abbrev sreduced : Stmt := top 13
theorem screduced : FnScope ["rows", "width", "likely", "unlike", "taken", "found", "_"] ["rows", "width", "likely"] (defScope sreduced) := ⟨rfl, rfl, rfl, by decide +kernel, rfl, by decide +kernel, by decide +kernel⟩
abbrev s_are_small : Stmt := top 14
theorem sc_are_small : FnScope ["rows", "row"] ["rows"] (defScope s_are_small) := ⟨rfl, rfl, rfl, by decide +kernel, rfl, by decide +kernel, by decide +kernel⟩
abbrev s_searched : Stmt := top 15
theorem sc_searched : FnScope ["rows", "width", "likely", "most", "leads", "taken", "start", "patience", "found", "outside"] ["rows", "width", "likely", "most"] (defScope s_searched) := ⟨rfl, rfl, rfl, by decide +kernel, rfl, by decide +kernel, by decide +kernel⟩
abbrev s_index_outside : Stmt := top 16
theorem sc_index_outside : FnScope ["found", "rows", "at"] ["found", "rows"] (defScope s_index_outside) := ⟨rfl, rfl, rfl, by decide +kernel, rfl, by decide +kernel, by decide +kernel⟩
abbrev s_is_sum_within : Stmt := top 17
theorem sc_is_sum_within : FnScope ["found", "row", "leads", "opened", "form", "scale", "left", "lead", "ends", "factor", "column", "entry", "end"] ["found", "row"] (defScope s_is_sum_within) := ⟨rfl, rfl, rfl, by decide +kernel, rfl, by decide +kernel, by decide +kernel⟩
abbrev skernel_of : Stmt := top 18
theorem sckernel_of : FnScope ["rows", "width", "leads", "opened", "form", "scale", "at", "row"] ["rows", "width"] (defScope skernel_of) := ⟨rfl, rfl, rfl, by decide +kernel, rfl, by decide +kernel, by decide +kernel⟩
abbrev s_kernel_row : Stmt := top 19
theorem sc_kernel_row : FnScope ["leads", "ends", "column", "scale", "width", "common", "end", "entries", "lead"] ["leads", "ends", "column", "scale", "width"] (defScope s_kernel_row) := ⟨rfl, rfl, rfl, by decide +kernel, rfl, by decide +kernel, by decide +kernel⟩
abbrev srank_of : Stmt := top 20
theorem scrank_of : FnScope ["rows", "width", "most", "unlike", "greatest", "taken", "found"] ["rows", "width", "most"] (defScope srank_of) := ⟨rfl, rfl, rfl, by decide +kernel, rfl, by decide +kernel, by decide +kernel⟩
abbrev sdeterminant_of : Stmt := top 21
theorem scdeterminant_of : FnScope ["table", "left", "sign", "scale", "at", "lead", "above", "row"] ["table"] (defScope sdeterminant_of) := ⟨rfl, rfl, rfl, by decide +kernel, rfl, by decide +kernel, by decide +kernel⟩
abbrev sis_sum_of_squares : Stmt := top 22
theorem scis_sum_of_squares : FnScope ["table", "left", "scale", "diagonal", "top", "row", "at", "entry"] ["table"] (defScope sis_sum_of_squares) := ⟨rfl, rfl, rfl, by decide +kernel, rfl, by decide +kernel, by decide +kernel⟩
abbrev s_without_square : Stmt := top 23
theorem sc_without_square : FnScope ["left", "top", "scale", "above", "lead", "rows", "row", "factor"] ["left", "top", "scale"] (defScope s_without_square) := ⟨rfl, rfl, rfl, by decide +kernel, rfl, by decide +kernel, by decide +kernel⟩
abbrev sis_integer : Stmt := top 27
theorem scis_integer : FnScope ["value"] ["value"] (defScope sis_integer) := ⟨rfl, rfl, rfl, by decide +kernel, rfl, by decide +kernel, by decide +kernel⟩
abbrev sare_integers : Stmt := top 28
theorem scare_integers : FnScope ["values", "value", "each"] ["values"] (defScope sare_integers) := ⟨rfl, rfl, rfl, by decide +kernel, rfl, by decide +kernel, by decide +kernel⟩
abbrev shas_digits : Stmt := top 29
theorem schas_digits : FnScope ["number", "most"] ["number", "most"] (defScope shas_digits) := ⟨rfl, rfl, rfl, by decide +kernel, rfl, by decide +kernel, by decide +kernel⟩
abbrev s_least_longer : Stmt := top 30
theorem sc_least_longer : FnScope ["digits", "number", "_"] ["digits"] (defScope s_least_longer) := ⟨rfl, rfl, rfl, by decide +kernel, rfl, by decide +kernel, by decide +kernel⟩
abbrev srank : Stmt := top 38
theorem scrank : FnScope ["rows", "width"] ["rows"] (defScope srank) := ⟨rfl, rfl, rfl, by decide +kernel, rfl, by decide +kernel, by decide +kernel⟩
abbrev sare_free : Stmt := top 39
theorem scare_free : FnScope ["rows"] ["rows"] (defScope sare_free) := ⟨rfl, rfl, rfl, by decide +kernel, rfl, by decide +kernel, by decide +kernel⟩
abbrev skernel : Stmt := top 40
theorem sckernel : FnScope ["rows", "width"] ["rows", "width"] (defScope skernel) := ⟨rfl, rfl, rfl, by decide +kernel, rfl, by decide +kernel, by decide +kernel⟩
abbrev ssolution : Stmt := top 41
theorem scsolution : FnScope ["rows", "aims", "width", "wide", "leads", "_", "form", "scale", "row", "aim"] ["rows", "aims"] (defScope ssolution) := ⟨rfl, rfl, rfl, by decide +kernel, rfl, by decide +kernel, by decide +kernel⟩
abbrev scleared : Stmt := top 42
theorem sccleared : FnScope ["row"] ["row"] (defScope scleared) := ⟨rfl, rfl, rfl, by decide +kernel, rfl, by decide +kernel, by decide +kernel⟩
abbrev sdeterminant : Stmt := top 43
theorem scdeterminant : FnScope ["table"] ["table"] (defScope sdeterminant) := ⟨rfl, rfl, rfl, by decide +kernel, rfl, by decide +kernel, by decide +kernel⟩
abbrev sis_square_sum : Stmt := top 44
theorem scis_square_sum : FnScope ["table"] ["table"] (defScope sis_square_sum) := ⟨rfl, rfl, rfl, by decide +kernel, rfl, by decide +kernel, by decide +kernel⟩
abbrev s_is_row : Stmt := top 45
theorem sc_is_row : FnScope ["value"] ["value"] (defScope s_is_row) := ⟨rfl, rfl, rfl, by decide +kernel, rfl, by decide +kernel, by decide +kernel⟩
abbrev s_are_rows : Stmt := top 46
theorem sc_are_rows : FnScope ["value", "row"] ["value"] (defScope s_are_rows) := ⟨rfl, rfl, rfl, by decide +kernel, rfl, by decide +kernel, by decide +kernel⟩
abbrev s_check_rows : Stmt := top 47
theorem sc_check_rows : FnScope ["value"] ["value"] (defScope s_check_rows) := ⟨rfl, rfl, rfl, by decide +kernel, rfl, by decide +kernel, by decide +kernel⟩
abbrev s_check_table : Stmt := top 48
theorem sc_check_table : FnScope ["value"] ["value"] (defScope s_check_table) := ⟨rfl, rfl, rfl, by decide +kernel, rfl, by decide +kernel, by decide +kernel⟩
abbrev s_width_of : Stmt := top 49
theorem sc_width_of : FnScope ["rows"] ["rows"] (defScope s_width_of) := ⟨rfl, rfl, rfl, by decide +kernel, rfl, by decide +kernel, by decide +kernel⟩
abbrev s_are_aims : Stmt := top 50
theorem sc_are_aims : FnScope ["rows", "value"] ["rows", "value"] (defScope s_are_aims) := ⟨rfl, rfl, rfl, by decide +kernel, rfl, by decide +kernel, by decide +kernel⟩
abbrev s_is_symmetric : Stmt := top 51
theorem sc_is_symmetric : FnScope ["table", "indices", "one", "other"] ["table"] (defScope s_is_symmetric) := ⟨rfl, rfl, rfl, by decide +kernel, rfl, by decide +kernel, by decide +kernel⟩
abbrev s_least_solution : Stmt := top 52
theorem sc_least_solution : FnScope ["leads", "ends", "scale", "width", "common", "end", "values", "lead"] ["leads", "ends", "scale", "width"] (defScope s_least_solution) := ⟨rfl, rfl, rfl, by decide +kernel, rfl, by decide +kernel, by decide +kernel⟩
abbrev s_law_bag : Stmt := top 54
theorem sc_law_bag : FnScope ["_law_script", "_law_at", "_law_cell", "_law_great_here", "_law_mixed"] ["_law_script", "_law_at"] (defScope s_law_bag) := ⟨rfl, rfl, rfl, by decide +kernel, rfl, by decide +kernel, by decide +kernel⟩
abbrev s_law_draw : Stmt := top 55
theorem sc_law_draw : FnScope ["_law_bag_here", "_law_total", "_law_found", "_law_one", "_law_two"] ["_law_bag_here", "_law_total"] (defScope s_law_draw) := ⟨rfl, rfl, rfl, by decide +kernel, rfl, by decide +kernel, by decide +kernel⟩
abbrev s_law_one_of : Stmt := top 56
theorem sc_law_one_of : FnScope ["_law_bag_here", "_law_items"] ["_law_bag_here", "_law_items"] (defScope s_law_one_of) := ⟨rfl, rfl, rfl, by decide +kernel, rfl, by decide +kernel, by decide +kernel⟩
abbrev s_law_word : Stmt := top 57
theorem sc_law_word : FnScope ["_law_call", "e"] ["_law_call"] (defScope s_law_word) := ⟨rfl, rfl, rfl, by decide +kernel, rfl, by decide +kernel, by decide +kernel⟩
abbrev s_law_great : Stmt := top 58
theorem sc_law_great : FnScope ["_law_found", "_law_turn"] [] (defScope s_law_great) := ⟨rfl, rfl, rfl, by decide +kernel, rfl, by decide +kernel, by decide +kernel⟩
abbrev s_law_bad_rows : Stmt := top 59
theorem sc_law_bad_rows : FnScope ["_law_bag_here", "_law_some"] ["_law_bag_here"] (defScope s_law_bad_rows) := ⟨rfl, rfl, rfl, by decide +kernel, rfl, by decide +kernel, by decide +kernel⟩
abbrev s_law_bad_row : Stmt := top 60
theorem sc_law_bad_row : FnScope ["_law_bag_here", "_law_some"] ["_law_bag_here"] (defScope s_law_bad_row) := ⟨rfl, rfl, rfl, by decide +kernel, rfl, by decide +kernel, by decide +kernel⟩
abbrev s_law_rows_refused : Stmt := top 61
theorem sc_law_rows_refused : FnScope ["_law_bag_here", "_law_bad", "_law_width", "_law_words"] ["_law_bag_here"] (defScope s_law_rows_refused) := ⟨rfl, rfl, rfl, by decide +kernel, rfl, by decide +kernel, by decide +kernel⟩
abbrev s_law_others_refused : Stmt := top 62
theorem sc_law_others_refused : FnScope ["_law_bag_here", "_law_many", "_law_rows", "_law_width", "_law_words", "_law_other", "_law_aims", "_law_wrong", "_law_long", "_law_odd", "_law_turn", "_law_at", "_law_one", "_law_row"] ["_law_bag_here"] (defScope s_law_others_refused) := ⟨rfl, rfl, rfl, by decide +kernel, rfl, by decide +kernel, by decide +kernel⟩
abbrev s_law_bounds_let : Stmt := top 63
theorem sc_law_bounds_let : FnScope ["_law_bag_here", "_law_edge", "_law_wide", "_law_words", "_law_at"] ["_law_bag_here"] (defScope s_law_bounds_let) := ⟨rfl, rfl, rfl, by decide +kernel, rfl, by decide +kernel, by decide +kernel⟩
abbrev slaw : Stmt := top 64
theorem sclaw : FnScope ["_law_script", "_law_at", "_law_bag_here", "_law_turn"] ["_law_script"] (defScope slaw) := ⟨rfl, rfl, rfl, by decide +kernel, rfl, by decide +kernel, by decide +kernel⟩
structure Bi (mg : Str → Option Value) : Prop where
  b_abs : mg "abs" = none
  b_all : mg "all" = none
  b_any : mg "any" = none
  b_bool : mg "bool" = none
  b_int : mg "int" = none
  b_isinstance : mg "isinstance" = none
  b_len : mg "len" = none
  b_list : mg "list" = none
  b_max : mg "max" = none
  b_min : mg "min" = none
  b_range : mg "range" = none
  b_repr : mg "repr" = none
  b_sum : mg "sum" = none
  b_tuple : mg "tuple" = none
  b_type : mg "type" = none
  b_zip : mg "zip" = none
  m_gcd : mg "gcd" = some (.builtin "math.gcd")
  c_MAX_DIGITS : ∃ t, mg "MAX_DIGITS" = some (.int 2000 t)
  c_MAX_ROWS : ∃ t, mg "MAX_ROWS" = some (.int 60 t)
  c_MAX_WIDTH : ∃ t, mg "MAX_WIDTH" = some (.int 28 t)
  c_PATIENCE : ∃ t, mg "PATIENCE" = some (.int 4 t)
  c_PRIME : ∃ t, mg "PRIME" = some (.int 1073741789 t)
  c_SURE_BITS : ∃ t, mg "SURE_BITS" = some (.int 6000 t)
theorem _root_.Lay.AnyD.row {H : Hp} {v : V} {d : PyData} (h : AnyD H v d) (e : dRow d = true) : ∃ (r : Addr) (ys : List V) (es : List PyData), v = .ref r ∧ d = .tuple es ∧ H r = some (.tup ys) ∧ AnyAll H ys es := by
  cases h with
  | @tup r ys es e1 t1 => exact ⟨r, ys, es, rfl, rfl, e1, t1⟩
  | non => cases e
  | bl b => cases e
  | int z => cases e
  | str z => cases e
  | lst e1 t1 => cases e
  | dic e1 => cases e
/-- what the top has written of the two classes of errors -/
structure Er (K : PySem.W.Frag) (mg : Str → Option Value) (CO CN : Addr) : Prop where
  nO : mg "InvalidOperation" = some (.ref CO)
  nN : mg "InvalidNumber" = some (.ref CN)
  kO : PySem.W.keepIn K (.ref CO) = true
  rsO : PySem.W.subIn K (.ref CO) (.type "BaseException") = some true ∧ PySem.W.typeIn K (.ref CO) = some (.type "type")
  exO : PySem.W.excIn K CO [.type "ValueError", .type "Exception", .type "BaseException", .type "object"] "ValueError.__new__" = true
  xcN : Xc K CN "IndexError" "IndexError.__new__"
  noN : PySem.W.findIn K (.ref CN) "given" = some none
  xfN : XfC K CN
  mOO : PySem.W.exmOne K (.ref CO) (.ref CO) = some true
  mNO : PySem.W.exmOne K (.ref CN) (.ref CO) = some false
  mNN : PySem.W.exmOne K (.ref CN) (.ref CN) = some true
/-- __init__ of such a class -/
structure Ini (P : Program) (w : World) (K : PySem.W.Frag) (mg : Str → Option Value) (base : Heap) (C : Addr) (B newId : String) (f : Str) : Prop where
  ex : ∃ (fI : Addr) (fd : FuncData), PySem.W.findIn K (.ref C) "__init__" = some (some (.ref fI)) ∧ PySem.W.typeIn K (.ref fI) = some (.type "function") ∧ FnOk P w K mg base CX0 1 fI fd ["self", f] (spIni K B newId f) ∧ Binds K fd ["self", f] []
def spLong : Sp := fun vs H Q _ => ∃ n : Nat, vs = [.int (n : Int)] ∧ n ≤ 2000 ∧ Q (.int (10 ^ n)) H
def spShort : Sp := fun vs H Q _ => ∃ i : Int, vs = [.int i, .int 2000] ∧ Q (.bl (decide (i.natAbs < 10 ^ 2000))) H
def spIntD : Sp := fun vs H Q _ => ∃ v d, vs = [v] ∧ AnyD H v d ∧ Q (.bl (dInt d)) H
def spIntsD : Sp := fun vs H Q _ => ∃ (p : Addr) (xs : List V) (ds : List PyData), vs = [.ref p] ∧ H p = some (.tup xs) ∧ AnyAll H xs ds ∧ ds.length ≤ 100 ∧ (∀ d ∈ ds, d ≠ .dict []) ∧ ∀ H', Same H H' → Q (.bl (ds.all dInt)) H'
/-- no dict within -/
def noDic : PyData → Prop
  | .tuple ds => ∀ d ∈ ds, d ≠ .dict []
  | _ => True
def noDics : PyData → Prop
  | .tuple ds => ∀ d ∈ ds, noDic d
  | _ => True
def spRowD : Sp := fun vs H Q _ => ∃ v d, vs = [v] ∧ AnyD H v d ∧ noDic d ∧ ∀ H', Same H H' → Q (.bl (dRow d)) H'
def spRowsD : Sp := fun vs H Q _ => ∃ v d, vs = [v] ∧ AnyD H v d ∧ noDics d ∧ ∀ H', Same H H' → Q (.bl (dRows d)) H'
def spCheck (CO : Addr) : Sp := fun vs H Q E => ∃ v d, vs = [v] ∧ AnyD H v d ∧ noDics d ∧ (dRows d = true → ∀ H', Same H H' → Q .non H') ∧ (dRows d = false → ∀ H', Same H H' → E (.ref CO) none H')
/-- a table's width, where it has rows -/
def dWid : PyData → Nat
  | .tuple (d :: _) => dLen d
  | _ => 0
def dSq (d : PyData) : Bool := dRows d && decide (dLen d = dWid d)
def spWidthD : Sp := fun vs H Q _ => ∃ v d, vs = [v] ∧ AnyD H v d ∧ dRows d = true ∧ Q (.int (dWid d : Int)) H
def spCheckT (CO : Addr) : Sp := fun vs H Q E => ∃ v d, vs = [v] ∧ AnyD H v d ∧ noDics d ∧ (dSq d = true → ∀ H', Same H H' → Q .non H') ∧ (dSq d = false → ∀ H', Same H H' → E (.ref CO) none H')
def dAims (n : Nat) : PyData → Bool
  | .tuple ds => decide (ds.length = n) && ds.all dInt
  | _ => false
def spAimsD : Sp := fun vs H Q _ => ∃ u c v d, vs = [u, v] ∧ AnyD H u c ∧ dRows c = true ∧ AnyD H v d ∧ noDic d ∧ ∀ H', Same H H' → Q (.bl (dAims (dLen c) d)) H'
def spGreat : Sp := fun vs H Q _ => vs = [] ∧ Q (.int (10 ^ 2000)) H
theorem _root_.Lay.AnyD.rows {H : Hp} {v : V} {d : PyData} (h : AnyD H v d) (e : dRows d = true) : ∃ (r : Addr) (ys : List V) (es : List PyData), v = .ref r ∧ d = .tuple es ∧ H r = some (.tup ys) ∧ AnyAll H ys es := by
  cases h with
  | @tup r ys es e1 t1 => exact ⟨r, ys, es, rfl, rfl, e1, t1⟩
  | non => cases e
  | bl b => cases e
  | int z => cases e
  | str z => cases e
  | lst e1 t1 => cases e
  | dic e1 => cases e
/-- m rows, one like the other, all of them the same tuple -/
def One (H : Hp) (p : Addr) (m : Nat) (r : List Int) : Prop := ∃ q, H p = some (.tup (List.replicate m (.ref q))) ∧ H q = some (.tup (r.map V.int))
def dOne (m : Nat) (r : List Int) : PyData := .tuple (List.replicate m (.tuple (r.map PyData.int)))
/-- such rows as the law hands over where nothing is refused -/
structure Fit (m : Nat) (r : List Int) : Prop where
  m1 : 1 ≤ m
  m60 : m ≤ 60
  l1 : 1 ≤ r.length
  l28 : r.length ≤ 28
  bd : ∀ x ∈ r, x.natAbs < 10 ^ 2000
  nz : (∀ x ∈ r, x = 0) ∨ ∃ x ∈ r, x % 1073741789 ≠ 0
structure Fit2 (m : Nat) (r : List Int) : Prop extends Fit m r where
  l2 : 2 ≤ r.length
  sm : ∀ x ∈ r, x.natAbs < 1073741789
theorem One.same {H H' : Hp} {p : Addr} {m : Nat} {r : List Int} (s : Same H H') (h : One H p m r) : One H' p m r := by
  obtain ⟨q, h1, h2⟩ := h
  exact ⟨q, s _ _ h1, s _ _ h2⟩
theorem One.any {H : Hp} {p : Addr} {m : Nat} {r : List Int} (h : One H p m r) : AnyD H (.ref p) (dOne m r) := by
  obtain ⟨q, h1, h2⟩ := h
  refine .tup h1 ?_
  clear h1
  induction m with
  | zero => exact .nil
  | succ m ih => exact .cons (.tup h2 (.ints rfl)) ih
theorem Fit.ints {m : Nat} {r : List Int} (f : Fit m r) : (r.map PyData.int).all dInt = true := by
  rw [List.all_map, List.all_eq_true]
  exact fun x hx => decide_eq_true (f.bd x hx)
theorem Fit.row {m : Nat} {r : List Int} (f : Fit m r) : dRow (.tuple (r.map PyData.int)) = true := by
  show (decide (1 ≤ (r.map PyData.int).length) && decide ((r.map PyData.int).length ≤ 28) && (r.map PyData.int).all dInt) = true
  rw [f.ints, List.length_map, decide_eq_true f.l1, decide_eq_true f.l28]
  rfl
theorem Fit.head {m : Nat} {r : List Int} (f : Fit m r) : (List.replicate m (PyData.tuple (r.map PyData.int))).headD .none = .tuple (r.map PyData.int) := by
  obtain ⟨j, rfl⟩ : ∃ j, m = j + 1 := ⟨m - 1, by have := f.m1; omega⟩
  rfl
theorem Fit.rows {m : Nat} {r : List Int} (f : Fit m r) : dRows (dOne m r) = true := by
  show (decide ((List.replicate m (PyData.tuple (r.map PyData.int))).length ≤ 60) && (List.replicate m (PyData.tuple (r.map PyData.int))).all fun x => dRow x && decide (dLen x = dLen ((List.replicate m (PyData.tuple (r.map PyData.int))).headD .none))) = true
  rw [List.length_replicate, decide_eq_true f.m60, Bool.true_and, List.all_eq_true, f.head]
  intro x hx
  rw [List.eq_of_mem_replicate hx, f.row]
  exact decide_eq_true rfl
theorem Fit.wid {m : Nat} {r : List Int} (f : Fit m r) : dWid (dOne m r) = r.length := by
  obtain ⟨j, rfl⟩ : ∃ j, m = j + 1 := ⟨m - 1, by have := f.m1; omega⟩
  show (r.map PyData.int).length = r.length
  exact List.length_map _
theorem noDics_one (m : Nat) (r : List Int) : noDics (dOne m r) := fun d hd => by
  rw [List.eq_of_mem_replicate hd]
  intro e he
  obtain ⟨x, _, rfl⟩ := List.mem_map.mp he
  exact fun z => nomatch z
def spRankOf : Sp := fun vs H Q _ => ∃ (p : Addr) (m : Nat) (r : List Int), vs = [.ref p, .int (r.length : Int), .int (r.length : Int)] ∧ One H p m r ∧ Fit m r ∧ ∀ (n : Int) H', Same H H' → Q (.int n) H'
/-- one of the checked functions of rows: what it refuses, and what it lets -/
def spRank (CO : Addr) : Sp := fun vs H Q E => ∃ v, vs = [v] ∧ ((∃ d, AnyD H v d ∧ noDics d ∧ dRows d = false ∧ ∀ H', Same H H' → E (.ref CO) none H') ∨
  (∃ (p : Addr) (m : Nat) (r : List Int), v = .ref p ∧ One H p m r ∧ Fit m r ∧ ∀ (n : Int) H', Same H H' → Q (.int n) H'))
def spFree (CO : Addr) : Sp := fun vs H Q E => ∃ v, vs = [v] ∧ ((∃ d, AnyD H v d ∧ noDics d ∧ dRows d = false ∧ ∀ H', Same H H' → E (.ref CO) none H') ∨
  (∃ (p : Addr) (m : Nat) (r : List Int), v = .ref p ∧ One H p m r ∧ Fit m r ∧ ∀ (b : Bool) H', Same H H' → Q (.bl b) H'))
def dWidth : PyData → Bool
  | .int i => decide (1 ≤ i ∧ i ≤ 28)
  | _ => false
/-- kernel_of: rows like one another, or none -/
def spKernelOf : Sp := fun vs H Q _ => ∃ (p : Addr) (m : Nat) (r : List Int), vs = [.ref p, .int (r.length : Int)] ∧ ((One H p m r ∧ Fit2 m r) ∨ (H p = some (.tup []) ∧ 2 ≤ r.length ∧ r.length ≤ 28 ∧ ∀ x ∈ r, x = 0)) ∧ ∀ v H', Same H H' → Q v H'
def spKernel (CO CN : Addr) : Sp := fun vs H Q E => ∃ v u, vs = [v, u] ∧ ((∃ d, AnyD H v d ∧ noDics d ∧ dRows d = false ∧ ∀ H', Same H H' → E (.ref CO) none H') ∨
  (∃ d e, AnyD H v d ∧ noDics d ∧ dRows d = true ∧ AnyD H u e ∧ dWidth e = false ∧ ∀ H' dd, Same H H' → H' dd = none → E (.ref CN) (some dd) (upd H' dd (.xd [("given", u)]))) ∨
  (∃ d i, AnyD H v d ∧ noDics d ∧ dRows d = true ∧ u = .int i ∧ 1 ≤ i ∧ i ≤ 28 ∧ dLen d ≠ 0 ∧ i ≠ (dWid d : Int) ∧ ∀ H', Same H H' → E (.ref CO) none H') ∨
  (∃ (p : Addr) (m : Nat) (r : List Int), v = .ref p ∧ u = .int (r.length : Int) ∧ ((One H p m r ∧ Fit2 m r) ∨ (H p = some (.tup []) ∧ 2 ≤ r.length ∧ r.length ≤ 28 ∧ ∀ x ∈ r, x = 0)) ∧ ∀ v H', Same H H' → Q v H'))
def spBadRow : Sp := fun vs H Q _ => ∃ a : Addr, vs = [.ref a] ∧ BagAt H a ∧ ∀ H' v d, But a H H' → BagAt H' a → AnyD (del H' a) v d → noDic d → dRow d = false → Q v H'
def spBadRows : Sp := fun vs H Q _ => ∃ a : Addr, vs = [.ref a] ∧ BagAt H a ∧ ∀ H' v d, But a H H' → BagAt H' a → AnyD (del H' a) v d → noDics d → dRows d = false → Q v H'
theorem _root_.Lay.BagAt.del_tup {H : Hp} {a p : Addr} {xs : List V} (b : BagAt H a) (h : H p = some (.tup xs)) : del H a p = some (.tup xs) := by
  by_cases e : p = a
  · obtain ⟨g, m, c, e1, _⟩ := b
    rw [e, e1] at h
    cases h
  · rw [del_ne e]
    exact h
theorem _root_.Lay.BagAt.del_dic {H : Hp} {a p : Addr} (b : BagAt H a) (h : H p = some (.dK [])) : del H a p = some (.dK []) := by
  by_cases e : p = a
  · obtain ⟨g, m, c, e1, _⟩ := b
    rw [e, e1] at h
    cases h
  · rw [del_ne e]
    exact h
theorem _root_.Lay.BagAt.ne {H : Hp} {a p : Addr} (b : BagAt H a) (h : H p = none) : p ≠ a := fun e => by
  obtain ⟨g, m, c, e1, _⟩ := b
  rw [e, e1] at h
  cases h
theorem great_not : dInt (.int (10 ^ 2000)) = false := by
  have e : ((10 : Int) ^ 2000).natAbs = 10 ^ 2000 := Int.natAbs_pow 10 2000
  show decide (((10 : Int) ^ 2000).natAbs < 10 ^ 2000) = false
  rw [e]
  exact decide_eq_false (Nat.lt_irrefl _)
theorem great_neg : dInt (.int (0 - 10 ^ 2000)) = false := by
  have e : (0 - (10 : Int) ^ 2000).natAbs = 10 ^ 2000 := by
    rw [Int.zero_sub, Int.natAbs_neg]
    exact Int.natAbs_pow 10 2000
  show decide ((0 - (10 : Int) ^ 2000).natAbs < 10 ^ 2000) = false
  rw [e]
  exact decide_eq_false (Nat.lt_irrefl _)
theorem any_rep {H : Hp} {v : V} {d : PyData} (n : Nat) (h : AnyD H v d) : AnyAll H (List.replicate n v) (List.replicate n d) := by
  induction n with
  | zero => exact .nil
  | succ n ih => exact .cons h ih
def isDic : PyData → Bool
  | .dict [] => true
  | _ => false
def noDicB : PyData → Bool
  | .tuple ds => ds.all fun d => !isDic d
  | _ => true
def noDicsB : PyData → Bool
  | .tuple ds => ds.all noDicB
  | _ => true
theorem noDic_by {d : PyData} (h : noDicB d = true) : noDic d := by
  cases d with
  | tuple ds =>
    intro x hx z
    have e := List.all_eq_true.mp (show (ds.all fun d => !isDic d) = true from h) x hx
    rw [z] at e
    cases e
  | _ => trivial
theorem noDics_by {d : PyData} (h : noDicsB d = true) : noDics d := by
  cases d with
  | tuple ds => exact fun x hx => noDic_by (List.all_eq_true.mp (show ds.all noDicB = true from h) x hx)
  | _ => trivial
theorem dRow_two (x y : PyData) (h : dInt x = false ∨ dInt y = false) : dRow (.tuple [x, y]) = false := by
  show (true && true && (dInt x && (dInt y && true))) = false
  rcases h with h | h
  · rw [h]
    rfl
  · rw [h, Bool.false_and, Bool.and_false]
    rfl
theorem dRows_row {r : PyData} (h : dRow r = false) : dRows (.tuple [r]) = false := by
  show (true && ((dRow r && decide (dLen r = dLen r)) && true)) = false
  rw [h]
  rfl
theorem dRows_long (d : PyData) : dRows (.tuple (List.replicate 61 d)) = false := by
  show (decide ((List.replicate 61 d).length ≤ 60) && ((List.replicate 61 d).all fun r => dRow r && decide (dLen r = dLen ((List.replicate 61 d).headD .none)))) = false
  rw [List.length_replicate]
  rfl
def dTab (M : List (List Int)) : PyData := .tuple (M.map fun r => .tuple (r.map PyData.int))
def okTab (M : List (List Int)) : Prop := (∃ x : Int, M = [[x]] ∧ x.natAbs < 10 ^ 2000) ∨ ∃ c : Int, M = [[1, 2], [c, 1]] ∧ 3 ≤ c ∧ c ≤ 6
def spSolution (CO : Addr) : Sp := fun vs H Q E => ∃ v u, vs = [v, u] ∧ ((∃ d, AnyD H v d ∧ noDics d ∧ dRows d = false ∧ ∀ H', Same H H' → E (.ref CO) none H') ∨
  (AnyD H v (.tuple []) ∧ ∀ H', Same H H' → E (.ref CO) none H') ∨
  (∃ d e, AnyD H v d ∧ noDics d ∧ dRows d = true ∧ dLen d ≠ 0 ∧ AnyD H u e ∧ noDic e ∧ dAims (dLen d) e = false ∧ ∀ H', Same H H' → E (.ref CO) none H') ∨
  (∃ (p q s : Addr) (x y : Int), v = .ref p ∧ H p = some (.tup [.ref q]) ∧ H q = some (.tup [.int x]) ∧ u = .ref s ∧ H s = some (.tup [.int y]) ∧ x.natAbs < 10 ^ 2000 ∧ x % 1073741789 ≠ 0 ∧ 1073741789 ≤ x ∧ y = 0 - x ∧ ∀ v H', Same H H' → Q v H'))
def spDet (CO : Addr) : Sp := fun vs H Q E => ∃ v, vs = [v] ∧ ((∃ d, AnyD H v d ∧ noDics d ∧ dSq d = false ∧ ∀ H', Same H H' → E (.ref CO) none H') ∨ (∃ M, AnyD H v (dTab M) ∧ okTab M ∧ ∀ (n : Int) H', Same H H' → Q (.int n) H'))
def spSqs (CO : Addr) : Sp := fun vs H Q E => ∃ v, vs = [v] ∧ ((∃ d, AnyD H v d ∧ noDics d ∧ dSq d = false ∧ ∀ H', Same H H' → E (.ref CO) none H') ∨
  (∃ c : Int, AnyD H v (dTab [[1, 2], [c, 1]]) ∧ 3 ≤ c ∧ c ≤ 6 ∧ ∀ H', Same H H' → E (.ref CO) none H') ∨
  (∃ x : Int, AnyD H v (dTab [[x]]) ∧ x.natAbs < 10 ^ 2000 ∧ x < 0 ∧ ∀ (b : Bool) H', Same H H' → Q (.bl b) H'))
def gl : List Int → Nat → Nat
  | [], g => g
  | x :: r, g => gl r (Nat.gcd g x.natAbs)
def dvd (ns : List Int) : List Int := if gl ns 0 = 0 then ns else ns.map fun x => x / ((gl ns 0 : Nat) : Int)
def spDvd : Sp := fun vs H Q _ => ∃ (p : Addr) (ns : List Int), vs = [.ref p] ∧ H p = some (.tup (ns.map V.int)) ∧ 1 ≤ ns.length ∧ ns.length ≤ 28 ∧ (∀ x ∈ ns, x.natAbs < 10 ^ 2000) ∧ ∀ q H', Same H H' → H' q = some (.tup ((dvd ns).map V.int)) → Q (.ref q) H'
def spCleared (CO : Addr) : Sp := fun vs H Q E => ∃ v, vs = [v] ∧ ((∃ d, AnyD H v d ∧ noDic d ∧ dRow d = false ∧ ∀ H', Same H H' → E (.ref CO) none H') ∨
  (∃ (p : Addr) (ns : List Int), v = .ref p ∧ H p = some (.tup (ns.map V.int)) ∧ 1 ≤ ns.length ∧ ns.length ≤ 28 ∧ (∀ x ∈ ns, x.natAbs < 10 ^ 2000) ∧ ∀ q H', Same H H' → H' q = some (.tup ((dvd ns).map V.int)) → Q (.ref q) H'))
/-- all but the bag and the tables is as it was -/
def ButN (a : Addr) (H H' : Hp) : Prop := ∀ b o, b ≠ a → H b = some o → (∀ ps, o ≠ .tbl ps) → H' b = some o
theorem ButN.refl (a : Addr) (H : Hp) : ButN a H H := fun _ _ _ h _ => h
theorem ButN.trans {a : Addr} {H H1 H2 : Hp} (x : ButN a H H1) (y : ButN a H1 H2) : ButN a H H2 := fun b o n h t => y b o n (x b o n h t) t
theorem ButN.but {a : Addr} {H H' : Hp} (x : But a H H') : ButN a H H' := fun b o n h _ => x b o n h
theorem ButN.ext {a : Addr} {H H' : Hp} (x : LamX.ExtN H H') : ButN a H H' := fun b o _ h t => x b o h t
theorem ButN.same {a : Addr} {H H' : Hp} (x : Same H H') : ButN a H H' := fun b o _ h _ => x b o h
def spRefused (T : List (Addr × Str)) : Sp := fun vs H Q _ => ∃ a : Addr, vs = [.ref a] ∧ BagAt H a ∧ LamX.Tabs T H ∧ ∀ H', ButN a H H' → BagAt H' a → LamX.Tabs T H' → Q (.bl true) H'
theorem tabs_but {T : List (Addr × Str)} {H H' : Hp} {a : Addr} (t : LamX.Tabs T H) (b : But a H H') (hb : BagAt H a) : LamX.Tabs T H' := fun p hp => by
  obtain ⟨g, m, c, e, _⟩ := hb
  obtain ⟨ps, h1, h2, h3⟩ := t p hp
  refine ⟨ps, b _ _ (fun z => by rw [z, e] at h1; cases h1) h1, h2, fun pos cv hc => ?_⟩
  obtain ⟨x, e1, e2⟩ := h3 pos cv hc
  exact ⟨x, e1, b _ _ (fun z => by
    rw [z, e] at e2
    unfold LamX.CodeO at e2
    cases e2) e2⟩
/-- where the law is, under way -/
structure At5 (a : Addr) (T : List (Addr × Str)) (H : Hp) (v : V) (d : PyData) (Hc : Hp) : Prop where
  but : ButN a H Hc
  bag : BagAt Hc a
  tabs : LamX.Tabs T Hc
  any : AnyD (del Hc a) v d
theorem bag_same {H H' : Hp} {a : Addr} (s : Same H H') (h : BagAt H a) : BagAt H' a := by
  obtain ⟨g, m, c, e, r⟩ := h
  exact ⟨g, m, c, s _ _ e, r⟩
theorem same_dels {H H' : Hp} {a : Addr} (s : Same H H') : Same (del H a) (del H' a) := But.del (fun b o _ h => s b o h)
theorem At5.same {a : Addr} {T : List (Addr × Str)} {H Hc H' : Hp} {v : V} {d : PyData} (t : At5 a T H v d Hc) (s : Same Hc H') : At5 a T H v d H' :=
  ⟨t.but.trans (.same s), bag_same s t.bag, t.tabs.ext (fun b o h => s b o h), t.any.same (same_dels s)⟩
theorem At5.but' {a : Addr} {T : List (Addr × Str)} {H Hc H' : Hp} {v : V} {d : PyData} (t : At5 a T H v d Hc) (s : But a Hc H') (hb : BagAt H' a) : At5 a T H v d H' :=
  ⟨t.but.trans (.but s), hb, tabs_but t.tabs s t.bag, t.any.same s.del⟩
theorem At5.ext {a : Addr} {T : List (Addr × Str)} {H Hc H' : Hp} {v : V} {d : PyData} (t : At5 a T H v d Hc) (s : LamX.ExtN Hc H') (h : LamX.Tabs T H') : At5 a T H v d H' :=
  ⟨t.but.trans (.ext s), t.bag.extN s, h, t.any.extN (fun c o e n => by
    by_cases hc : c = a
    · rw [hc, del_same] at e
      cases e
    · rw [del_ne hc] at e ⊢
      exact s _ _ e n)⟩
theorem At5.now {a : Addr} {T : List (Addr × Str)} {H Hc : Hp} {v : V} {d : PyData} (t : At5 a T H v d Hc) : AnyD Hc v d := t.any.same (same_del Hc a)
theorem same_new {H : Hp} {p : Addr} {u : HO} (hp : H p = none) : Same H (upd H p u) := fun _ _ h => up_old hp h
theorem notSq {d : PyData} (h : dRows d = false) : dSq d = false := by
  unfold dSq
  rw [h]
  rfl
theorem _root_.Lay.BagAt.ne_lst {H : Hp} {a l : Addr} {z : Str} {r : List V} (b : BagAt H a) (h : H l = some (.lst (.str z :: r))) : l ≠ a := fun e => by
  obtain ⟨g, m, c, e1, _⟩ := b
  rw [e, e1] at h
  cases h
theorem noDics_tab (M : List (List Int)) : noDics (dTab M) := fun d hd => by
  obtain ⟨r, _, rfl⟩ := List.mem_map.mp hd
  intro e he z
  obtain ⟨x, _, rfl⟩ := List.mem_map.mp he
  cases z
theorem dInt_small {i : Int} (h : i.natAbs < 100) : dInt (.int i) = true := decide_eq_true (p := i.natAbs < 10 ^ 2000) (Nat.lt_of_lt_of_le h (Nat.pow_le_pow_right (n := 10) (by decide) (show 2 ≤ 2000 by decide)))
theorem okTab_sq {M : List (List Int)} (h : okTab M) : dSq (dTab M) = true := by
  rcases h with ⟨x, rfl, hx⟩ | ⟨c, rfl, c1, c2⟩
  · show ((true && (((true && true && (dInt (.int x) && true)) && true) && true)) && true) = true
    rw [show dInt (.int x) = true from decide_eq_true hx]
    rfl
  · show ((true && (((true && true && (dInt (.int 1) && (dInt (.int 2) && true))) && true) && (((true && true && (dInt (.int c) && (dInt (.int 1) && true))) && true) && true))) && true) = true
    rw [dInt_small (i := 1) (by decide), dInt_small (i := 2) (by decide), dInt_small (i := c) (by omega)]
    rfl
def spDetOf : Sp := fun vs H Q _ => ∃ v M, vs = [v] ∧ AnyD H v (dTab M) ∧ okTab M ∧ ∀ (n : Int) H', Same H H' → Q (.int n) H'
def spSym : Sp := fun vs H Q _ => ∃ v, vs = [v] ∧ ((∃ c : Int, AnyD H v (dTab [[1, 2], [c, 1]]) ∧ 3 ≤ c ∧ c ≤ 6 ∧ ∀ H', Same H H' → Q (.bl false) H') ∨ (∃ x : Int, AnyD H v (dTab [[x]]) ∧ ∀ H', Same H H' → Q (.bl true) H'))
def spSqOf : Sp := fun vs H Q _ => ∃ v, ∃ x : Int, vs = [v] ∧ AnyD H v (dTab [[x]]) ∧ x.natAbs < 10 ^ 2000 ∧ x < 0 ∧ ∀ (b : Bool) H', Same H H' → Q (.bl b) H'
theorem log9 {g : Nat} (h0 : g ≠ 0) (h : g < 10 ^ 2000) : g.log2 < 9000 := by
  rw [Nat.log2_lt h0]
  have h1 : (10 : Nat) ^ 2000 ≤ (2 ^ 4) ^ 2000 := Nat.pow_le_pow_left (by decide) 2000
  have h2 : ((2 : Nat) ^ 4) ^ 2000 = 2 ^ (4 * 2000) := (Nat.pow_mul 2 4 2000).symm
  have h3 : (2 : Nat) ^ (4 * 2000) ≤ 2 ^ 9000 := Nat.pow_le_pow_right (by decide) (by decide)
  exact Nat.lt_of_lt_of_le h (Nat.le_trans (Nat.le_trans h1 (Nat.le_of_eq h2)) h3)
theorem int_get {r : List Int} {j : Nat} (h : j < r.length) : (r.map V.int).getD j .non = V.int (r.getD j 0) := by
  rw [List.getD_eq_getElem?_getD, List.getElem?_map, List.getElem?_eq_getElem h, List.getD_eq_getElem?_getD, List.getElem?_eq_getElem h]
  rfl
def at2 (M : List (List Int)) (i j : Nat) : Int := (M.getD i []).getD j 0
/-- a list of rows, each a list or a tuple -/
def RW (H : Hp) (p : Addr) (M : List (List Int)) : Prop := ∃ rs : List Addr, H p = some (.lst (rs.map V.ref)) ∧ rs.length = M.length ∧ ∀ (i : Nat) (r : Addr) (row : List Int), rs[i]? = some r → M[i]? = some row → H r = some (.lst (row.map V.int)) ∨ H r = some (.tup (row.map V.int))
theorem RW.same {H H' : Hp} {p : Addr} {M : List (List Int)} (s : Same H H') (h : RW H p M) : RW H' p M := by
  obtain ⟨rs, h1, h2, h3⟩ := h
  exact ⟨rs, s _ _ h1, h2, fun i r row e1 e2 => (h3 i r row e1 e2).imp (s _ _) (s _ _)⟩
def spRowWith (K : PySem.W.Frag) : Sp := fun vs H Q _ => ∃ (p : Addr) (s c w : Nat) (M : List (List Int)), vs = [.ref p, .int (s : Int), .int (c : Int)] ∧ RW H p M ∧ M.length ≤ 100 ∧ s ≤ M.length ∧ (∀ r ∈ M, r.length = w) ∧ c < w ∧
  (∀ i, s ≤ i → i < M.length → at2 M i c ≠ 0 → (∀ t, s ≤ t → t < i → at2 M t c = 0) → Q (.int (i : Int)) H) ∧ ((∀ t, s ≤ t → t < M.length → at2 M t c = 0) → Q .non H)
def spSwap : Sp := fun vs H Q _ => ∃ (p : Addr) (i j : Nat) (xs : List V) (x y : V), vs = [.ref p, .int (i : Int), .int (j : Int)] ∧ H p = some (.lst xs) ∧ xs[i]? = some x ∧ xs[j]? = some y ∧ xs.length ≤ 100 ∧
  ∀ H', Same H H' → Q .non (upd H' p (.lst ((xs.set i y).set j x)))
/-- what a step of the elimination makes of a row -/
def comb (f : Int) (r : List Int) (d : Int) (l : List Int) (s : Int) : List Int := (List.range r.length).map fun j => (d * r.getD j 0 - f * l.getD j 0).fdiv s
def spComb (K : PySem.W.Frag) : Sp := fun vs H Q _ => ∃ (k1 k2 : Bool) (a b : Addr) (f d s : Int) (r l : List Int), vs = [.int f, .ref a, .int d, .ref b, .int s] ∧ (Kq K H k1 a (r.map V.int) ∧ Kq K H k2 b (l.map V.int)) ∧ r.length = l.length ∧ r.length ≤ 100 ∧
  (s ≠ 0 ∧ s.natAbs.log2 < 9000) ∧ (f.natAbs < 2 ^ 2000 ∧ d.natAbs < 2 ^ 2000) ∧ (∀ x ∈ r, x.natAbs < 2 ^ 2000) ∧ (∀ x ∈ l, x.natAbs < 2 ^ 2000) ∧ ∀ H' q, H q = none → Same H H' → Li H' q (comb f r d l s) → Q (.ref q) H'
theorem ref_at {rs : List Addr} {i : Nat} {r : Addr} (h : rs[i]? = some r) : atI (rs.map V.ref) (i : Int) = some (V.ref r) := at_nat (by rw [List.getElem?_map, h]; rfl)
theorem int_at {r : List Int} {j : Nat} (h : j < r.length) : atI (r.map V.int) (j : Int) = some (V.int (r.getD j 0)) := at_nat (by rw [List.getElem?_map, List.getElem?_eq_getElem h, List.getD_eq_getElem?_getD, List.getElem?_eq_getElem h]; rfl)
theorem mem_get {r : List Int} {j : Nat} (h : j < r.length) : r.getD j 0 ∈ r := by
  rw [List.getD_eq_getElem?_getD, List.getElem?_eq_getElem h]
  exact List.getElem_mem h
theorem upd_two {H : Hp} {p : Addr} {o u : HO} : upd (upd H p o) p u = upd H p u := by
  funext b
  by_cases h : b = p
  · rw [h, upd_same, upd_same]
  · rw [upd_ne h, upd_ne h, upd_ne h]
theorem ix_nat {n j : Nat} (hj : j < n) : ixN n (j : Int) = some j := by
  unfold ixN
  rw [if_pos (by omega), if_pos (by omega), Int.toNat_natCast]
theorem row_at {M : List (List Int)} {i : Nat} (h : i < M.length) : M[i]? = some (M.getD i []) := by rw [List.getD_eq_getElem?_getD, List.getElem?_eq_getElem h]; rfl
theorem any_ints {H : Hp} : ∀ {xs : List V} {r : List Int}, AnyAll H xs (r.map PyData.int) → xs = r.map V.int
  | _, [], .nil => rfl
  | _, x :: r, .cons (.int _) t => by rw [List.map_cons, any_ints t]
theorem _root_.Lay.AnyD.tt {H : Hp} {v : V} {M : List (List Int)} (h : AnyD H v (dTab M)) : ∃ p, v = .ref p ∧ TT H p M := by
  have key : ∀ {xs : List V} {M : List (List Int)}, AnyAll H xs (M.map fun r => .tuple (r.map PyData.int)) → ∃ rs : List Addr, xs = rs.map V.ref ∧ rs.length = M.length ∧ ∀ (i : Nat) (r : Addr) (row : List Int), rs[i]? = some r → M[i]? = some row → H r = some (.tup (row.map V.int)) := by
    intro xs M
    induction M generalizing xs with
    | nil =>
      intro t
      cases t
      exact ⟨[], rfl, rfl, fun i r row e => by simp at e⟩
    | cons r M ih =>
      intro t
      cases t with
      | cons h t =>
        cases h with
        | @tup q ys _ hq ty =>
          obtain ⟨rs, rfl, e2, e3⟩ := ih t
          rw [any_ints ty] at hq
          refine ⟨q :: rs, rfl, by rw [List.length_cons, List.length_cons, e2], fun i r' row e1 e4 => ?_⟩
          cases i with
          | zero =>
            rw [List.getElem?_cons_zero] at e1 e4
            cases e1
            cases e4
            exact hq
          | succ i =>
            rw [List.getElem?_cons_succ] at e1 e4
            exact e3 i r' row e1 e4
  cases h with
  | @tup p xs _ hp t =>
    obtain ⟨rs, rfl, e2, e3⟩ := key t
    exact ⟨p, rfl, rs, hp, e2, e3⟩
theorem row_eq {M : List (List Int)} {i : Nat} {row : List Int} (h : M[i]? = some row) : M.getD i [] = row := by rw [List.getD_eq_getElem?_getD, h]; rfl
theorem LL.row {K : PySem.W.Frag} {H : Hp} {p : Addr} {M : List (List Int)} {i : Nat} (h : LL H p M) (hi : i < M.length) : ∃ (rs : List Addr) (r : Addr), SqL K H p (rs.map V.ref) ∧ rs.length = M.length ∧ rs[i]? = some r ∧ SqL K H r ((M.getD i []).map V.int) := by
  obtain ⟨rs, h1, h2, h3⟩ := h
  refine ⟨rs, rs[i], SqL.of h1, h2, List.getElem?_eq_getElem (by omega), SqL.of ?_⟩
  rw [List.getD_eq_getElem?_getD, List.getElem?_eq_getElem hi]
  exact h3 i _ _ (List.getElem?_eq_getElem (by omega)) (List.getElem?_eq_getElem hi)
/-- a def that is never called here -/
def spNever : Sp := fun _ _ _ _ => False
theorem never_of {P : Program} {w : World} {K : PySem.W.Frag} {mg : Str → Option Value} {base : Heap} {x : Str} {st : Stmt} {ps : List Str} {k : Nat} (D : DefAt K mg x st ps) : CalA P w K mg base x k ps spNever := by
  obtain ⟨f, fd, F, m, b⟩ := D.ex
  exact ⟨f, fd, ⟨fun _ _ _ _ h => h.elim, fun _ _ _ _ _ _ _ _ _ _ _ _ _ h => h.elim⟩, m, F.kp, b⟩
/-- what a reduced form is, as far as it counts here -/
structure Red (w : Nat) (L O : List Nat) (F : List (List Int)) (s : Int) : Prop where
  ll : F.length = L.length
  fw : ∀ f ∈ F, f.length = O.length
  sum : L.length + O.length = w
  le : ∀ x ∈ L, x < w
  oe : ∀ x ∈ O, x < w
  al : ∀ x, x < w → x ∈ L ∨ x ∈ O
  nz : 0 < s
  bd : s.natAbs < 10 ^ 2000
def ofN (l : List Nat) : List Int := l.map Int.ofNat
def Fd (H : Hp) (t : Addr) (L O : List Nat) (F : List (List Int)) (s : Int) : Prop := ∃ a b c : Addr, H t = some (.tup [.ref a, .ref b, .ref c, .int s]) ∧ Li H a (ofN L) ∧ Li H b (ofN O) ∧ LL H c F
theorem Fd.same {H H' : Hp} {t : Addr} {L O : List Nat} {F : List (List Int)} {s : Int} (x : Same H H') (h : Fd H t L O F s) : Fd H' t L O F s := by
  obtain ⟨a, b, c, h1, h2, h3, h4⟩ := h
  exact ⟨a, b, c, x _ _ h1, x _ _ h2, x _ _ h3, h4.same x⟩
/-- what a row alone is reduced to -/
def Sum1 (r : List Int) (L O : List Nat) (F : List (List Int)) (s : Int) : Prop := (L = [] ∧ F = [] ∧ ∀ x ∈ r, x = 0) ∨ ∃ c f, L = [c] ∧ F = [f] ∧ c < r.length ∧ (∀ x ∈ f, x.natAbs < 10 ^ 2000) ∧ ∀ j, j < O.length → s * r.getD (O.getD j 0) 0 = r.getD c 0 * f.getD j 0
def spReduced (K : PySem.W.Frag) : Sp := fun vs H Q _ => ∃ (p : Addr) (m : Nat) (q : Addr) (r : List Int) (k : Int), vs = [.ref p, .int (r.length : Int), .int k] ∧ (SqL K H p (List.replicate m (.ref q)) ∨ SqT K H p (List.replicate m (.ref q))) ∧
  (0 < m → H q = some (.tup (r.map V.int))) ∧ m ≤ 60 ∧ 2 ≤ r.length ∧ r.length ≤ 28 ∧ (∀ x ∈ r, x.natAbs < 10 ^ 2000) ∧
  ((∀ x ∈ r, x.natAbs < 1073741789) ∨ (1 ≤ m ∧ k = 1 ∧ ∃ x ∈ r, x % 1073741789 ≠ 0)) ∧
  ∀ (t : Addr) (L O : List Nat) (F : List (List Int)) (s : Int) (H' : Hp), Same H H' → Red r.length L O F s → Fd H' t L O F s → Q (.ref t) H'
def spLeast : Sp := fun vs H Q _ => ∃ (a e : Addr) (L : List Nat) (E : List Int) (s : Int) (w : Nat), vs = [.ref a, .ref e, .int s, .int (w : Int)] ∧ Li H a (ofN L) ∧ Li H e E ∧ E.length = L.length ∧ (∀ x ∈ L, x < w) ∧ 0 < s ∧ s.natAbs < 10 ^ 2000 ∧ w ≤ 28 ∧ ∀ v H', Same H H' → Q v H'
theorem at_last {r : List Int} (h : 0 < r.length) : atI (r.map V.int) (-1) = some (V.int (r.getD (r.length - 1) 0)) := by
  have e : ixN (r.map V.int).length (-1) = some (r.length - 1) := by
    unfold ixN
    rw [List.length_map, if_neg (by omega), if_pos (by omega)]
    congr 1
    omega
  unfold atI
  rw [e]
  show (r.map V.int)[r.length - 1]? = _
  rw [List.getElem?_map, List.getElem?_eq_getElem (by omega), List.getD_eq_getElem?_getD, List.getElem?_eq_getElem (by omega)]
  rfl
def spKRow : Sp := fun vs H Q _ => ∃ (a e : Addr) (L : List Nat) (F : List Int) (c : Nat) (s : Int) (w : Nat), vs = [.ref a, .ref e, .int (c : Int), .int s, .int (w : Int)] ∧ Li H a (ofN L) ∧ Li H e F ∧ F.length = L.length ∧ (∀ x ∈ L, x < w) ∧ c < w ∧ 0 < s ∧ s.natAbs < 10 ^ 2000 ∧ w ≤ 28 ∧ ∀ t H', Same H H' → Q (.ref t) H'
/-- the rows that are left where equal ones are taken out -/
def Few (H : Hp) (p : Addr) (m : Nat) (r : List Int) : Prop := (m = 0 ∧ H p = some (.lst [])) ∨ (m = 1 ∧ ∃ q, H p = some (.lst [.ref q]) ∧ H q = some (.tup (r.map V.int)))
def spSmall : Sp := fun vs H Q _ => ∃ (p : Addr) (m : Nat) (r : List Int), vs = [.ref p] ∧ Few H p m r ∧ 1 ≤ r.length ∧ ∀ b H', Same H H' → (b = true ↔ (1 ≤ m → ∀ x ∈ r, x.natAbs < 1073741789)) → Q (.bl b) H'
/-- one row alone: its lead is taken out of it -/
def spClear (K : PySem.W.Frag) : Sp := fun vs H Q _ => ∃ (p q : Addr) (r : List Int) (c : Nat) (s : Int), vs = [.ref p, .int 0, .int (c : Int), .int s] ∧ H p = some (.lst [.ref q]) ∧ H q = some (.lst (r.map V.int)) ∧ p ≠ q ∧ c < r.length ∧ r.length ≤ 100 ∧ Q (.int (r.getD c 0)) (upd H q (.lst ((r.eraseIdx c).map V.int)))
theorem int_q {r : List Int} {j : Nat} (h : j < r.length) : (r.map V.int)[j]? = some (V.int (r.getD j 0)) := by
  rw [List.getElem?_map, List.getElem?_eq_getElem h, List.getD_eq_getElem?_getD, List.getElem?_eq_getElem h]
  rfl
def spUnlike (K : PySem.W.Frag) : Sp := fun vs H Q _ => ∃ (p : Addr) (m : Nat) (q : Addr) (r : List Int), vs = [.ref p] ∧ (SqL K H p (List.replicate m (.ref q)) ∨ SqT K H p (List.replicate m (.ref q))) ∧ (0 < m → H q = some (.tup (r.map V.int))) ∧ m ≤ 60 ∧
  ∀ l H', Same H H' → Few H' l (min m 1) r → Q (.ref l) H'
def spAlone : Sp := fun vs H Q _ => ∃ (p : Addr) (m : Nat) (r : List Int), vs = [.ref p, .int (r.length : Int)] ∧ Few H p m r ∧ 1 ≤ r.length ∧ r.length ≤ 28 ∧ (∀ x ∈ r, x.natAbs < 10 ^ 2000) ∧
  ∀ (t : Addr) (L O : List Nat) (F : List (List Int)) (s : Int) (H' : Hp), Same H H' → Red r.length L O F s → (m = 0 → L = [] ∧ F = []) → (m = 1 → Sum1 r L O F s) → Fd H' t L O F s → Q (.ref t) H'
def spIsSum : Sp := fun vs H Q _ => ∃ (t q : Addr) (r : List Int) (L O : List Nat) (F : List (List Int)) (s : Int), vs = [.ref t, .ref q] ∧ H q = some (.tup (r.map V.int)) ∧ Fd H t L O F s ∧ Red r.length L O F s ∧ Sum1 r L O F s ∧ r.length ≤ 28 ∧ (∀ x ∈ r, x.natAbs < 10 ^ 2000) ∧ ∀ H', Same H H' → Q (.bl true) H'
def spOutside : Sp := fun vs H Q _ => ∃ (t p : Addr) (r : List Int) (L O : List Nat) (F : List (List Int)) (s : Int), vs = [.ref t, .ref p] ∧ Few H p 1 r ∧ Fd H t L O F s ∧ Red r.length L O F s ∧ Sum1 r L O F s ∧ r.length ≤ 28 ∧ (∀ x ∈ r, x.natAbs < 10 ^ 2000) ∧ ∀ H', Same H H' → Q .non H'
def spAdds : Sp := fun vs H Q _ => ∃ (l q : Addr) (r : List Int), vs = [.ref l, .ref q] ∧ H l = some (.lst (List.replicate r.length .non)) ∧ H q = some (.tup (r.map V.int)) ∧ 1 ≤ r.length ∧ r.length ≤ 28 ∧
  ((∃ x ∈ r, x % 1073741789 ≠ 0) → ∀ H', But l H H' → Q (.bl true) H') ∧ ((∀ x ∈ r, x % 1073741789 = 0) → ∀ H', Same H H' → Q (.bl false) H')
def spTake : Sp := fun vs H Q _ => ∃ (p l t q : Addr) (r : List Int), vs = [.ref p, .int 0, .ref l, .ref t, .int 1, .int 1] ∧ H p = some (.lst [.ref q]) ∧ H l = some (.lst (List.replicate r.length .non)) ∧ H q = some (.tup (r.map V.int)) ∧ H t = some (.lst []) ∧ l ≠ t ∧ 1 ≤ r.length ∧ r.length ≤ 28 ∧
  ((∃ x ∈ r, x % 1073741789 ≠ 0) → ∀ H', (∀ b o, b ≠ l → b ≠ t → H b = some o → H' b = some o) → H' t = some (.lst [.ref q]) → Q (.int 1) H') ∧ ((∀ x ∈ r, x % 1073741789 = 0) → ∀ H', Same H H' → Q (.int 1) H')
def spSearched : Sp := fun vs H Q _ => ∃ (p : Addr) (r : List Int) (k : Int), vs = [.ref p, .int (r.length : Int), .int 1, .int k] ∧ Few H p 1 r ∧ 1 ≤ r.length ∧ r.length ≤ 28 ∧ (∀ x ∈ r, x.natAbs < 10 ^ 2000) ∧
  ((k = 1 ∧ (∃ x ∈ r, x % 1073741789 ≠ 0) ∧ ∀ t u q H', Same H H' → H' t = some (.tup [.ref u, .non]) → H' u = some (.lst [q]) → Q (.ref t) H') ∨
   (((k = 1 ∧ ∀ x ∈ r, x = 0) ∨ (k = (r.length : Int) ∧ 2 ≤ r.length ∧ ∃ x ∈ r, x % 1073741789 ≠ 0)) ∧ ∀ t u v L O F s H', Same H H' → Red r.length L O F s → H' t = some (.tup [.ref u, .ref v]) → Fd H' v L O F s → Q (.ref t) H'))
theorem Few.same {H H' : Hp} {p : Addr} {m : Nat} {r : List Int} (s : Same H H') (h : Few H p m r) : Few H' p m r := by
  rcases h with ⟨e, h⟩ | ⟨e, q, h1, h2⟩
  · exact Or.inl ⟨e, s _ _ h⟩
  · exact Or.inr ⟨e, q, s _ _ h1, s _ _ h2⟩
theorem gl_dvd : ∀ (l : List Int) (g : Nat), gl l g ∣ g ∧ ∀ x ∈ l, ((gl l g : Nat) : Int) ∣ x
  | [], g => ⟨Nat.dvd_refl g, fun _ h => nomatch h⟩
  | x :: l, g => by
    obtain ⟨h1, h2⟩ := gl_dvd l (Nat.gcd g x.natAbs)
    refine ⟨Nat.dvd_trans h1 (Nat.gcd_dvd_left _ _), fun y hy => ?_⟩
    rcases List.mem_cons.mp hy with rfl | hy
    · exact Int.ofNat_dvd_left.mpr (Nat.dvd_trans h1 (Nat.gcd_dvd_right _ _))
    · exact h2 y hy
theorem dvd_len (r : List Int) : (dvd r).length = r.length := by
  unfold dvd
  split
  · rfl
  · exact List.length_map _
theorem dvd_mul (r : List Int) : ∃ g : Int, ∀ j, j < r.length → r.getD j 0 = g * (dvd r).getD j 0 := by
  unfold dvd
  split
  · exact ⟨1, fun j _ => (Int.one_mul _).symm⟩
  · refine ⟨((gl r 0 : Nat) : Int), fun j hj => ?_⟩
    have h := (gl_dvd r 0).2 _ (mem_get hj)
    have e : (r.map fun x => x / ((gl r 0 : Nat) : Int)).getD j 0 = r.getD j 0 / ((gl r 0 : Nat) : Int) := by
      rw [List.getD_eq_getElem?_getD, List.getElem?_map, List.getElem?_eq_getElem hj, List.getD_eq_getElem?_getD, List.getElem?_eq_getElem hj]
      rfl
    rw [e]
    exact (Int.mul_ediv_cancel' h).symm
theorem dvd_le (r : List Int) {B : Nat} (h : ∀ x ∈ r, x.natAbs < B) : ∀ x ∈ dvd r, x.natAbs < B := by
  unfold dvd
  split
  · exact h
  · intro x hx
    obtain ⟨y, hy, rfl⟩ := List.mem_map.mp hx
    refine Nat.lt_of_le_of_lt ?_ (h y hy)
    obtain ⟨k, hk⟩ := (gl_dvd r 0).2 y hy
    have n0 : ((gl r 0 : Nat) : Int) ≠ 0 := by omega
    have e : y / ((gl r 0 : Nat) : Int) = k := by
      conv => lhs; rw [hk]
      exact Int.mul_ediv_cancel_left k n0
    rw [e]
    have e2 : y.natAbs = (gl r 0) * k.natAbs := by
      conv => lhs; rw [hk]
      rw [Int.natAbs_mul, Int.natAbs_natCast]
    rw [e2]
    exact Nat.le_mul_of_pos_left _ (by omega)
theorem dvd_zero {r : List Int} (h : ∀ j, j < r.length → (dvd r).getD j 0 = 0) : ∀ x ∈ r, x = 0 := by
  intro x hx
  obtain ⟨g, hg⟩ := dvd_mul r
  obtain ⟨j, hj, rfl⟩ := List.mem_iff_getElem.mp hx
  have e := hg j hj
  rw [h j hj, Int.mul_zero, List.getD_eq_getElem?_getD, List.getElem?_eq_getElem hj] at e
  exact e
/-- the columns ahead of i but one -/
def opn (c i : Nat) : List Nat := (List.range (i - 1)).map fun j => if j < c then j else j + 1
theorem opn_first (c : Nat) : opn c (c + 1) = List.range c := by
  show (List.range c).map _ = _
  conv => rhs; rw [← List.map_id (List.range c)]
  exact List.map_congr_left fun j hj => if_pos (List.mem_range.mp hj)
theorem opn_next {c i : Nat} (h : c < i) : opn c (i + 1) = opn c i ++ [i] := by
  obtain ⟨k, rfl⟩ : ∃ k, i = k + 1 := ⟨i - 1, by omega⟩
  show (List.range (k + 1)).map _ = (List.range k).map _ ++ _
  rw [List.range_succ, List.map_append]
  congr 1
  show [if k < c then k else k + 1] = _
  rw [if_neg (by omega)]
theorem opn_len (c i : Nat) : (opn c i).length = i - 1 := by
  unfold opn
  rw [List.length_map, List.length_range]
theorem opn_get {c w j : Nat} (h : j < w - 1) : (opn c w).getD j 0 = if j < c then j else j + 1 := by
  unfold opn
  rw [List.getD_eq_getElem?_getD, List.getElem?_map, List.getElem?_range h]
  rfl
theorem ofN_snoc (l : List Nat) (i : Nat) : ofN (l ++ [i]) = ofN l ++ [(i : Int)] := by
  unfold ofN
  rw [List.map_append]
  rfl
theorem erase_get (ns : List Int) (c j : Nat) : (ns.eraseIdx c).getD j 0 = ns.getD (if j < c then j else j + 1) 0 := by
  rw [List.getD_eq_getElem?_getD, List.getElem?_eraseIdx, List.getD_eq_getElem?_getD]
  split <;> rfl
/-- one row, its lead in the column c -/
theorem red_one {r : List Int} {c : Nat} {F : List Int} {s : Int} {e : Int} (hc : c < r.length) (he : e = 1 ∨ e = -1) (hs : s = e * (dvd r).getD c 0) (s0 : 0 < s) (hF : F = ((dvd r).eraseIdx c).map fun x => e * x) (hb : ∀ x ∈ r, x.natAbs < 10 ^ 2000) : Red r.length [c] (opn c r.length) [F] s ∧ Sum1 r [c] (opn c r.length) [F] s := by
  have lF : F.length = r.length - 1 := by
    rw [hF, List.length_map, List.length_eraseIdx, dvd_len, if_pos hc]
  have ea : ∀ x : Int, (e * x).natAbs = x.natAbs := fun x => by
    rcases he with rfl | rfl
    · rw [Int.one_mul]
    · rw [Int.neg_mul, Int.one_mul, Int.natAbs_neg]
  have hcd : c < (dvd r).length := by rw [dvd_len]; exact hc
  refine ⟨⟨rfl, fun f hf => ?_, ?_, fun x hx => ?_, fun x hx => ?_, fun x hx => ?_, s0, ?_⟩, Or.inr ⟨c, F, rfl, rfl, hc, fun x hx => ?_, fun j hj => ?_⟩⟩
  · rw [List.mem_singleton.mp hf, lF, opn_len]
  · rw [opn_len]
    show 1 + _ = _
    omega
  · rw [List.mem_singleton.mp hx]
    exact hc
  · unfold opn at hx
    obtain ⟨j, hj, rfl⟩ := List.mem_map.mp hx
    have := List.mem_range.mp hj
    split <;> omega
  · by_cases h : x = c
    · exact Or.inl (h ▸ List.mem_singleton_self _)
    · refine Or.inr (List.mem_map.mpr ?_)
      rcases Nat.lt_or_ge x c with y | y
      · exact ⟨x, List.mem_range.mpr (by omega), if_pos y⟩
      · refine ⟨x - 1, List.mem_range.mpr (by omega), ?_⟩
        rw [if_neg (by omega)]
        omega
  · rw [hs, ea]
    exact dvd_le r hb _ (mem_get hcd)
  · rw [hF] at hx
    obtain ⟨y, hy, rfl⟩ := List.mem_map.mp hx
    rw [ea]
    exact dvd_le r hb _ (List.mem_of_mem_eraseIdx hy)
  · rw [opn_len] at hj
    obtain ⟨g, hg⟩ := dvd_mul r
    have o1 : (opn c r.length).getD j 0 < r.length := by
      rw [opn_get hj]
      split <;> omega
    have f1 : F.getD j 0 = e * (dvd r).getD ((opn c r.length).getD j 0) 0 := by
      rw [opn_get hj, ← erase_get, hF, List.getD_eq_getElem?_getD, List.getElem?_map, List.getD_eq_getElem?_getD]
      cases ((dvd r).eraseIdx c)[j]? with
      | none => exact (Int.mul_zero e).symm
      | some x => rfl
    rw [hg _ o1, hg c hc, f1, hs]
    simp only [Int.mul_assoc, Int.mul_comm, Int.mul_left_comm]
theorem red_none {r : List Int} : Red r.length [] (List.range r.length) [] 1 := by
  refine ⟨rfl, (fun _ h => nomatch h), by rw [List.length_range]; exact Nat.zero_add _, (fun _ h => nomatch h), fun x hx => List.mem_range.mp hx, fun x hx => Or.inr (List.mem_range.mpr hx), by decide, ?_⟩
  exact Nat.one_lt_pow (by decide) (by decide)
theorem big2 {x : Int} (h : x.natAbs < 10 ^ 2000) : x.natAbs < 2 ^ 8000 := by
  have h1 : (10 : Nat) ^ 2000 ≤ (2 ^ 4) ^ 2000 := Nat.pow_le_pow_left (by decide) 2000
  have h2 : ((2 : Nat) ^ 4) ^ 2000 = 2 ^ (4 * 2000) := (Nat.pow_mul 2 4 2000).symm
  exact Nat.lt_of_lt_of_le h (Nat.le_trans h1 (Nat.le_of_eq h2))
theorem mulW {x y : Int} (hx : x.natAbs < 10 ^ 2000) (hy : y.natAbs < 10 ^ 2000) : CMulW x y := wide_mul (a := 8000) (b := 8000) (big2 hx) (big2 hy) (by decide) (by decide) (by decide)
theorem any_zero {ns : List Int} (h : ∀ x ∈ ns, x = 0) : (ns.any fun n => n != 0) = false := by
  rw [List.any_eq_false]
  intro x hx
  rw [h x hx]
  decide
theorem ofN_at {l : List Nat} {j : Nat} (h : j < l.length) : ((ofN l).map V.int).getD j .non = V.int ((l.getD j 0 : Nat) : Int) := by
  unfold ofN
  rw [List.map_map, List.getD_eq_getElem?_getD, List.getElem?_map, List.getElem?_eq_getElem h, List.getD_eq_getElem?_getD, List.getElem?_eq_getElem h]
  rfl
theorem ofN_len (l : List Nat) : (ofN l).length = l.length := List.length_map _
theorem nat_mem {l : List Nat} {j : Nat} (h : j < l.length) : l.getD j 0 ∈ l := by
  rw [List.getD_eq_getElem?_getD, List.getElem?_eq_getElem h]
  exact List.getElem_mem h
/-- where the law is, under way: which values stand for which data -/
structure At6 (a : Addr) (T : List (Addr × Str)) (H : Hp) (L : List (V × PyData)) (Hc : Hp) : Prop where
  but : ButN a H Hc
  bag : BagAt Hc a
  tabs : LamX.Tabs T Hc
  all : ∀ p ∈ L, AnyD (del Hc a) p.1 p.2
theorem At6.same {a : Addr} {T : List (Addr × Str)} {H Hc H' : Hp} {L : List (V × PyData)} (t : At6 a T H L Hc) (s : Same Hc H') : At6 a T H L H' :=
  ⟨t.but.trans (.same s), bag_same s t.bag, t.tabs.ext (fun b o h => s b o h), fun p hp => (t.all p hp).same (same_dels s)⟩
theorem At6.but' {a : Addr} {T : List (Addr × Str)} {H Hc H' : Hp} {L : List (V × PyData)} (t : At6 a T H L Hc) (s : But a Hc H') (hb : BagAt H' a) : At6 a T H L H' :=
  ⟨t.but.trans (.but s), hb, tabs_but t.tabs s t.bag, fun p hp => (t.all p hp).same s.del⟩
theorem At6.ext {a : Addr} {T : List (Addr × Str)} {H Hc H' : Hp} {L : List (V × PyData)} (t : At6 a T H L Hc) (s : LamX.ExtN Hc H') (h : LamX.Tabs T H') : At6 a T H L H' :=
  ⟨t.but.trans (.ext s), t.bag.extN s, h, fun p hp => (t.all p hp).extN (fun c o e n => by
    by_cases hc : c = a
    · rw [hc, del_same] at e
      cases e
    · rw [del_ne hc] at e ⊢
      exact s _ _ e n)⟩
theorem At6.add {a : Addr} {T : List (Addr × Str)} {H Hc : Hp} {L : List (V × PyData)} {v : V} {d : PyData} (t : At6 a T H L Hc) (h : AnyD (del Hc a) v d) : At6 a T H ((v, d) :: L) Hc :=
  ⟨t.but, t.bag, t.tabs, fun p hp => (List.mem_cons.mp hp).elim (fun e => e ▸ h) (t.all p)⟩
theorem At6.get {a : Addr} {T : List (Addr × Str)} {H Hc : Hp} {L : List (V × PyData)} {v : V} {d : PyData} (t : At6 a T H L Hc) (h : (v, d) ∈ L) : AnyD Hc v d := (t.all _ h).same (same_del Hc a)
theorem At6.here {a : Addr} {T : List (Addr × Str)} {H Hc : Hp} {L : List (V × PyData)} {v : V} {d : PyData} (t : At6 a T H L Hc) (h : (v, d) ∈ L) : AnyD (del Hc a) v d := t.all _ h
/-- a new thing that stands for d -/
theorem At6.tup {a p : Addr} {T : List (Addr × Str)} {H Hc : Hp} {L : List (V × PyData)} {xs : List V} {ds : List PyData} (t : At6 a T H L Hc) (hp : Hc p = none) (h : AnyAll (del Hc a) xs ds) : At6 a T H ((.ref p, .tuple ds) :: L) (upd Hc p (.tup xs)) := by
  have n := t.bag.ne hp
  exact (t.same (same_new hp)).add (.tup ((del_ne n).trans upd_same) (h.same (same_dels (same_new hp))))
theorem At6.lst {a p : Addr} {T : List (Addr × Str)} {H Hc : Hp} {L : List (V × PyData)} {xs : List V} {ds : List PyData} (t : At6 a T H L Hc) (hp : Hc p = none) (h : AnyAll (del Hc a) xs ds) : At6 a T H ((.ref p, .list ds) :: L) (upd Hc p (.lst xs)) := by
  have n := t.bag.ne hp
  exact (t.same (same_new hp)).add (.lst ((del_ne n).trans upd_same) (h.same (same_dels (same_new hp))))
theorem At6.dic {a p : Addr} {T : List (Addr × Str)} {H Hc : Hp} {L : List (V × PyData)} (t : At6 a T H L Hc) (hp : Hc p = none) : At6 a T H ((.ref p, .dict []) :: L) (upd Hc p (.dK [])) := by
  have n := t.bag.ne hp
  exact (t.same (same_new hp)).add (.dic ((del_ne n).trans upd_same))
theorem any_strs (H : Hp) : ∀ zs : List Str, AnyAll H (zs.map V.str) (zs.map PyData.str)
  | [] => .nil
  | z :: zs => .cons (.str z) (any_strs H zs)
theorem strs_any {H : Hp} : ∀ {xs : List V} {zs : List Str}, AnyAll H xs (zs.map PyData.str) → xs = zs.map V.str
  | _, [], .nil => rfl
  | _, x :: r, .cons (.str _) t => by rw [List.map_cons, strs_any t]
/-- the words as they stand -/
theorem At6.words {a l : Addr} {T : List (Addr × Str)} {H Hc : Hp} {L : List (V × PyData)} {zs : List Str} (t : At6 a T H L Hc) (h : (V.ref l, PyData.list (zs.map PyData.str)) ∈ L) : Hc l = some (.lst (zs.map V.str)) := by
  cases t.get h with
  | lst e y =>
    rw [strs_any y] at e
    exact e
theorem tt_any {H : Hp} {p : Addr} {M : List (List Int)} (h : TT H p M) : AnyD H (.ref p) (dTab M) := by
  have key : ∀ {rs : List Addr} {M : List (List Int)}, rs.length = M.length → (∀ (i : Nat) (r : Addr) (row : List Int), rs[i]? = some r → M[i]? = some row → H r = some (.tup (row.map V.int))) → AnyAll H (rs.map V.ref) (M.map fun r => .tuple (r.map PyData.int)) := by
    intro rs M
    induction M generalizing rs with
    | nil =>
      intro hl _
      cases rs with
      | nil => exact .nil
      | cons r rs => cases hl
    | cons row M ih =>
      intro hl hr
      cases rs with
      | nil => cases hl
      | cons r rs =>
        exact .cons (.tup (hr 0 r row rfl rfl) (.ints rfl)) (ih (Nat.succ.inj hl) fun i r' row' e1 e2 => hr (i + 1) r' row' (by rw [List.getElem?_cons_succ]; exact e1) (by rw [List.getElem?_cons_succ]; exact e2))
  obtain ⟨rs, h1, h2, h3⟩ := h
  exact .tup h1 (key h2 h3)
/-- a table of short integers -/
structure Tb (M : List (List Int)) (n : Nat) : Prop where
  l1 : 1 ≤ M.length
  l60 : M.length ≤ 60
  n1 : 1 ≤ n
  n28 : n ≤ 28
  wd : ∀ r ∈ M, r.length = n
  sm : ∀ r ∈ M, ∀ x ∈ r, x.natAbs < 100
theorem Tb.rows {M : List (List Int)} {n : Nat} (t : Tb M n) : dRows (dTab M) = true := by
  have hrow : ∀ r ∈ M, dRow (.tuple (r.map PyData.int)) = true := fun r hr => by
    have e := t.wd r hr
    have h1 := t.n1
    have h2 := t.n28
    show (decide (1 ≤ (r.map PyData.int).length) && decide ((r.map PyData.int).length ≤ 28) && (r.map PyData.int).all dInt) = true
    rw [List.length_map, e, decide_eq_true h1, decide_eq_true h2, Bool.and_self, Bool.true_and, List.all_map, List.all_eq_true]
    exact fun x hx => dInt_small (t.sm r hr x hx)
  obtain ⟨r0, M', rfl⟩ : ∃ r0 M', M = r0 :: M' := by
    cases M with
    | nil => exact absurd t.l1 (by decide)
    | cons r M => exact ⟨r, M, rfl⟩
  show (decide (((r0 :: M').map fun r => PyData.tuple (r.map PyData.int)).length ≤ 60) && ((r0 :: M').map fun r => PyData.tuple (r.map PyData.int)).all fun x => dRow x && decide (dLen x = dLen (.tuple (r0.map PyData.int)))) = true
  rw [List.length_map, decide_eq_true t.l60, Bool.true_and, List.all_eq_true]
  intro x hx
  obtain ⟨r, hr, rfl⟩ := List.mem_map.mp hx
  rw [hrow r hr, Bool.true_and]
  refine decide_eq_true ?_
  show (r.map PyData.int).length = (r0.map PyData.int).length
  rw [List.length_map, List.length_map, t.wd r hr, t.wd r0 List.mem_cons_self]
theorem Tb.len {M : List (List Int)} : dLen (dTab M) = M.length := List.length_map _
theorem Tb.wid {M : List (List Int)} {n : Nat} (t : Tb M n) : dWid (dTab M) = n := by
  cases M with
  | nil => exact absurd t.l1 (by decide)
  | cons r M =>
    show (r.map PyData.int).length = n
    rw [List.length_map]
    exact t.wd r List.mem_cons_self
/-- a width that is none, as it is shown -/
structure WOk (e : PyData) (z : Str) : Prop where
  dw : dWidth e = false
  zl : z.length ≤ 10000
  lay : (PyData.str (("number " : Str) ++ z)).canLay0 = true
  sh : ∀ (K : PySem.W.Frag) (H : Hp) (u : V), AnyD H u e → Sh K H u z
theorem wok_int (i : Int) (h1 : dWidth (.int i) = false) (h2 : i.natAbs.log2 < 1920) (h3 : (toString i : Str).length ≤ 10000) (h4 : (PyData.str (("number " : Str) ++ (toString i : Str))).canLay0 = true) : WOk (.int i) (toString i) :=
  ⟨h1, h3, h4, fun K H u h => by cases h; exact .int i h2⟩
theorem wok_bl (b : Bool) (h4 : (PyData.str (("number " : Str) ++ (if b then "True" else "False" : Str))).canLay0 = true) (h3 : (if b then "True" else "False" : Str).length ≤ 10000) : WOk (.bool b) (if b then "True" else "False") :=
  ⟨rfl, h3, h4, fun K H u h => by cases h; exact .bl b⟩
theorem wok_non : WOk .none "None" := ⟨rfl, by decide +kernel, by decide +kernel, fun K H u h => by cases h; exact .non⟩
theorem wok_str : WOk (.str "2") (reprText "2") := ⟨rfl, by decide +kernel, by decide +kernel, fun K H u h => by cases h; exact .str "2" (Nat.le_trans (show (reprText ("2" : Str)).length ≤ 1000 by decide +kernel) (by decide))⟩
theorem wok_tup : WOk (.tuple [.int 2]) (PyData.tuple [.int 2]).shown := ⟨rfl, by decide +kernel, by decide +kernel, fun K H u h => by
  cases h with
  | tup e t =>
    rw [any_ints (r := [2]) t] at e
    exact .dat (.tup (SqT.of e) (dp_ints [2])) (by decide +kernel) (by decide +kernel) (by decide +kernel) (Nat.le_trans (show (PyData.tuple [.int 2]).shown.length ≤ 1000 by decide +kernel) (by decide))⟩
theorem wok_lst : WOk (.list [.int 1]) (PyData.list [.int 1]).shown := ⟨rfl, by decide +kernel, by decide +kernel, fun K H u h => by
  cases h with
  | lst e t =>
    rw [any_ints (r := [1]) t] at e
    exact .dat (.lst (SqL.of e) (dp_ints [1])) (by decide +kernel) (by decide +kernel) (by decide +kernel) (Nat.le_trans (show (PyData.list [.int 1]).shown.length ≤ 1000 by decide +kernel) (by decide))⟩
theorem eqv_two (z : Str) : PyData.eqv (.list [.str z, .str z]) (.list [.str z, .str z]) = true := by
  simp [PyData.eqv, PyData.eqvAll]
theorem shaped_two {z : Str} (h : (PyData.str z).canLay0 = true) : SeqAt.shaped (.list [.str z, .str z]) = true := shaped_list fun d hd => by
  simp only [List.mem_cons, List.not_mem_nil, or_false, or_self] at hd
  rw [hd]
  exact ⟨h, rfl⟩
theorem rows_tup {H : Hp} {n m : Nat} {rs : List Addr} (hn : rs.length = n) (hP : ∀ (j : Nat) (t : Addr), rs[j]? = some t → ∃ ns : List Int, H t = some (.tup (ns.map V.int)) ∧ ns.length = m ∧ ∀ x ∈ ns, x.natAbs < 100) :
    ∃ M : List (List Int), M.length = n ∧ (∀ r ∈ M, r.length = m) ∧ (∀ r ∈ M, ∀ x ∈ r, x.natAbs < 100) ∧ ∀ (i : Nat) (r : Addr) (row : List Int), rs[i]? = some r → M[i]? = some row → H r = some (.tup (row.map V.int)) := by
  induction rs generalizing n with
  | nil =>
    subst hn
    exact ⟨[], rfl, (fun _ h => nomatch h), (fun _ h => nomatch h), fun i r row e => nomatch e⟩
  | cons t rs ih =>
    subst hn
    obtain ⟨ns, h1, h2, h3⟩ := hP 0 t rfl
    obtain ⟨M, g1, g2, g3, g4⟩ := ih rfl fun j u e => hP (j + 1) u (by rw [List.getElem?_cons_succ]; exact e)
    refine ⟨ns :: M, by rw [List.length_cons, List.length_cons, g1], fun r hr => ?_, fun r hr => ?_, fun i r row e1 e2 => ?_⟩
    · rcases List.mem_cons.mp hr with rfl | hr
      · exact h2
      · exact g2 r hr
    · rcases List.mem_cons.mp hr with rfl | hr
      · exact h3
      · exact g3 r hr
    · cases i with
      | zero =>
        cases e1
        cases e2
        exact h1
      | succ i =>
        rw [List.getElem?_cons_succ] at e1 e2
        exact g4 i r row e1 e2
theorem ints_of {P : Int → Prop} {ys : List V} (h : ∀ y ∈ ys, ∃ i, y = V.int i ∧ P i) : ∃ ns : List Int, ys = ns.map V.int ∧ ∀ x ∈ ns, P x := by
  induction ys with
  | nil => exact ⟨[], rfl, fun _ z => nomatch z⟩
  | cons y r ih =>
    obtain ⟨ns, rfl, h1⟩ := ih fun y hy => h y (List.mem_cons_of_mem _ hy)
    obtain ⟨i, rfl, h2⟩ := h _ List.mem_cons_self
    refine ⟨i :: ns, rfl, fun x hx => ?_⟩
    rcases List.mem_cons.mp hx with rfl | hx
    · exact h2
    · exact h1 x hx
theorem sIx_last {n : Nat} (h : 0 < n) : HT.sIx n n (some (-1)) = n - 1 := by
  show (if (-1 : Int) < 0 then ((-1 : Int) + (n : Int)).toNat else min (-1 : Int).toNat n) = n - 1
  rw [if_pos (by decide)]
  omega
theorem cut_last {xs : List V} (h : 0 < xs.length) : cutV xs none (some (-1)) = xs.dropLast := by
  unfold cutV
  rw [HT.sIx_none, sIx_last h, Nat.sub_zero, List.drop_zero, List.dropLast_eq_take]
/-- xs[:-1] of a tuple -/
theorem rd_slLast {K : PySem.W.Frag} {H : Hp} {Q : VK} {a : Addr} {xs : List V} (h : H a = some (.tup xs)) (h0 : 0 < xs.length) (q : ∀ p, H p = none → Q (.ref p) (upd H p (.tup xs.dropLast))) : rSlT K (.ref a) none (some (-1)) H Q := by
  refine ⟨a, xs, rfl, SqT.of h, fun z => ?_, fun p hp => ?_⟩
  · have z2 := z.2
    rw [sIx_last h0] at z2
    omega
  · rw [cut_last h0]
    exact q p hp
/-- (x, ..) + (y,), whether the first is empty or not -/
theorem rd_cat1 {K : PySem.W.Frag} {H : Hp} {Q : VK} {a b : Addr} {xs : List V} {y : V} (h1 : H a = some (.tup xs)) (h2 : H b = some (.tup [y])) (hl : xs.length ≤ 100) (q : ∀ p H', Same H H' → H' p = some (.tup (xs ++ [y])) → (p = b ∨ H p = none) → Q (.ref p) H') : rCatA K (.ref a) (.ref b) H Q := by
  refine ⟨a, b, xs, [y], rfl, rfl, SqT.of h1, SqT.of h2, Nat.le_trans (show xs.length + 1 ≤ 1000 by omega) (by decide), fun e => ?_, (fun _ z => nomatch z), fun _ _ p hp => ?_⟩
  · subst e
    exact q b H (Same.refl _) h2 (Or.inl rfl)
  · exact q p _ (same_new hp) upd_same (Or.inr hp)
/-- a comprehension over what is walked, each turn draws from the bag -/
theorem lc_bagW {σ : L2.St} {H1 : Hp} {Q : VK} {J : It} {n : Nat} {G : Hp → Prop} {item : Nat → V} (w : Wk J n G item) {i : Nat} {te : TE} {E a : Addr} (hn : n ≤ 1000) (hE : H1 E = none) (hb : BagAt H1 a) (hG : ∀ H', But a H1 H' → BagAt H' a → G H') (P : V → Prop)
    (he : ∀ j, j < n → ∀ H', But a H1 H' → BagAt H' a → ∀ R : VK, (∀ v H'', P v → But a H' H'' → BagAt H'' a → R v H'') → te ((wipe σ [i]).set i (some (item j))) H' R)
    (hd : ∀ ys H', ys.length = n → (∀ y ∈ ys, P y) → But a H1 H' → BagAt H' a → H' E = some (.lst ys) → Q (.ref E) H') : LcAt J (gName i) tYes te [i] σ E H1 Q := by
  have nE : E ≠ a := hb.ne hE
  refine ⟨fun k m H' => m = n - k ∧ k ≤ n ∧ ∃ ys : List V, ys.length = k ∧ (∀ y ∈ ys, P y) ∧ But a H1 H' ∧ BagAt H' a ∧ H' E = some (.lst ys), ⟨n, rfl, Nat.zero_le _, [], rfl, (fun _ z => nomatch z), But.new hE, BagAt.old hE hb, upd_same⟩, ?_⟩
  rintro k m H' ⟨rfl, hk, ys, hy, hP, bu, hb', hl⟩
  by_cases hlt : k < n
  · refine Or.inr ⟨w.go k H' (hG H' bu hb') hlt, fun H'' => ∃ ys : List V, ys.length = k + 1 ∧ (∀ y ∈ ys, P y) ∧ But a H1 H'' ∧ BagAt H'' a ∧ H'' E = some (.lst ys), fun H'' h => ⟨n - (k + 1), by omega, rfl, hlt, h⟩, fun x H2 hx => ?_⟩
    obtain ⟨rfl, rfl⟩ := w.yld k H' x H2 (hG H' bu hb') hlt hx
    refine ⟨wipe1 σ i _, ?_⟩
    refine rd_yes ?_
    refine rd_ifb (fun _ => ?_) (fun z => nomatch z)
    refine he k hlt H2 bu hb' _ fun v H3 hv b3 g3 => ?_
    refine ⟨ys, b3 _ _ nE hl, Nat.lt_of_le_of_lt (by omega : ys.length ≤ 1000) (by decide), ys ++ [v], by rw [List.length_append, hy]; rfl, fun y hy2 => ?_, fun b o nb e => ?_, ?_, upd_same⟩
    · rcases List.mem_append.mp hy2 with z | z
      · exact hP y z
      · cases List.mem_singleton.mp z
        exact hv
    · rw [upd_ne (ne_of_none e hE)]
      exact b3 b o nb (bu b o nb e)
    · obtain ⟨g, m, c, e, r⟩ := g3
      exact ⟨g, m, c, up_oth nE.symm e, r⟩
  · obtain rfl : k = n := by omega
    exact Or.inl ⟨w.stop H' (hG H' bu hb'), hd ys H' hy hP bu hb' hl⟩
theorem At6.cat1 {a p b : Addr} {T : List (Addr × Str)} {H Hc H' : Hp} {L : List (V × PyData)} {xs : List V} {ds : List PyData} (t : At6 a T H L Hc) (hb : b ≠ a) (s : Same Hc H') (hp : H' p = some (.tup xs)) (hn : p = b ∨ Hc p = none) (h : AnyAll (del Hc a) xs ds) : At6 a T H ((.ref p, .tuple ds) :: L) H' := by
  have n : p ≠ a := hn.elim (fun e => e ▸ hb) fun e => t.bag.ne e
  exact (t.same s).add (.tup ((del_ne n).trans hp) (h.same (same_dels s)))
theorem any_snoc {H : Hp} {v : V} {d : PyData} : ∀ {xs : List V} {ds : List PyData}, AnyAll H xs ds → AnyD H v d → AnyAll H (xs ++ [v]) (ds ++ [d])
  | _, _, .nil, h => .cons h .nil
  | _, _, .cons x t, h => .cons x (any_snoc t h)
theorem ints_last (ns : List Int) : (ns.map V.int).dropLast = ns.dropLast.map V.int := (List.map_dropLast ..).symm
theorem aims_not {n : Nat} {ns : List Int} {d : PyData} (h : dInt d = false) : dAims n (.tuple (ns.map PyData.int ++ [d])) = false := by
  show (_ && (ns.map PyData.int ++ [d]).all dInt) = false
  rw [List.all_append, show ([d].all dInt) = false by rw [List.all_cons, h]; rfl, Bool.and_false, Bool.and_false]
theorem aims_len {n : Nat} {ds : List PyData} (h : ds.length ≠ n) : dAims n (.tuple ds) = false := by
  show (decide (ds.length = n) && _) = false
  rw [decide_eq_false h, Bool.false_and]
theorem noDic_ints {ns : List Int} {d : PyData} (h : d ≠ .dict []) : noDic (.tuple (ns.map PyData.int ++ [d])) := fun x hx => by
  rcases List.mem_append.mp hx with z | z
  · obtain ⟨i, _, rfl⟩ := List.mem_map.mp z
    exact fun z => nomatch z
  · rw [List.mem_singleton.mp z]
    exact h
theorem noDic_int {ns : List Int} : noDic (.tuple (ns.map PyData.int)) := fun x hx => by
  obtain ⟨i, _, rfl⟩ := List.mem_map.mp hx
  exact fun z => nomatch z
/-- the widths among which another one is chosen -/
def wds : List Int := [1, 2, 7, 28]
theorem wds_at {j : Nat} (h : j < 4) : (wds.map V.int).getD j .non = V.int (wds.getD j 0) := int_get h
theorem wds_some (m : Int) : 0 < (((List.range 4).filter fun j => !decide (wds.getD j 0 = m)).map fun j => V.int (wds.getD j 0)).length := by
  rw [List.length_map, List.length_pos_iff]
  intro z
  have h0 : ∀ j, j < 4 → wds.getD j 0 = m := fun j hj => by
    have := List.filter_eq_nil_iff.mp z j (List.mem_range.mpr hj)
    simpa using this
  have a := h0 0 (by decide)
  have b := h0 1 (by decide)
  have c : (1 : Int) = 2 := a.trans b.symm
  omega
theorem wds_of {m : Int} {v : V} (h : v ∈ ((List.range 4).filter fun j => !decide (wds.getD j 0 = m)).map fun j => V.int (wds.getD j 0)) : ∃ i : Int, v = .int i ∧ 1 ≤ i ∧ i ≤ 28 ∧ i ≠ m := by
  obtain ⟨j, hj, rfl⟩ := List.mem_map.mp h
  obtain ⟨h1, h2⟩ := List.mem_filter.mp hj
  have h3 := List.mem_range.mp h1
  refine ⟨_, rfl, ?_, ?_, by simpa using h2⟩
  · match j, h3 with
    | 0, _ => decide
    | 1, _ => decide
    | 2, _ => decide
    | 3, _ => decide
  · match j, h3 with
    | 0, _ => decide
    | 1, _ => decide
    | 2, _ => decide
    | 3, _ => decide
theorem At6.tupAt {a p : Addr} {T : List (Addr × Str)} {H Hc : Hp} {L : List (V × PyData)} {ds : List PyData} (t : At6 a T H L Hc) (h : (V.ref p, PyData.tuple ds) ∈ L) : ∃ xs, Hc p = some (.tup xs) ∧ xs.length = ds.length := by
  cases t.get h with
  | tup e y => exact ⟨_, e, y.len⟩
theorem At6.intsAt {a p : Addr} {T : List (Addr × Str)} {H Hc : Hp} {L : List (V × PyData)} {ns : List Int} (t : At6 a T H L Hc) (h : (V.ref p, PyData.tuple (ns.map PyData.int)) ∈ L) : Hc p = some (.tup (ns.map V.int)) := by
  cases t.get h with
  | tup e y =>
    rw [any_ints y] at e
    exact e
/-- rows one longer than they are many -/
def longT (m : Nat) : List (List Int) := List.replicate m (List.replicate (m + 1) 1)
theorem longT_not {m : Nat} (h : 1 ≤ m) : dSq (dTab (longT m)) = false := by
  obtain ⟨j, rfl⟩ : ∃ j, m = j + 1 := ⟨m - 1, by omega⟩
  have e : dLen (dTab (longT (j + 1))) ≠ dWid (dTab (longT (j + 1))) := by
    rw [Tb.len]
    show (List.replicate (j + 1) (List.replicate (j + 1 + 1) (1 : Int))).length ≠ ((List.replicate (j + 1 + 1) (1 : Int)).map PyData.int).length
    rw [List.length_replicate, List.length_map, List.length_replicate]
    omega
  unfold dSq
  rw [decide_eq_false e, Bool.and_false]
theorem flat_one (n : Nat) : (List.replicate n [V.int 1]).flatten = (List.replicate n (1 : Int)).map V.int := by
  induction n with
  | zero => rfl
  | succ n ih => rw [List.replicate_succ, List.flatten_cons, ih, List.replicate_succ]; rfl
theorem At6.root {a : Addr} {T : List (Addr × Str)} {H Hc : Hp} {L : List (V × PyData)} (t : At6 a T H L Hc) : At6 a T Hc L Hc := ⟨.refl a Hc, t.bag, t.tabs, t.all⟩
theorem edge_mod {d : Int} (h0 : 0 ≤ d) (h1 : d < 3) : (10 ^ 2000 - 1 - d) % 1073741789 ≠ 0 := by
  have e : (10 : Nat) ^ 2000 % 1073741789 = 276806529 := by decide +kernel
  have e2 : (10 : Int) ^ 2000 = (((10 : Nat) ^ 2000 : Nat) : Int) := by rw [Int.natCast_pow]; rfl
  rw [e2]
  generalize (10 : Nat) ^ 2000 = X at e
  omega
theorem edge_big : (10 : Int) ^ 2000 = (((10 : Nat) ^ 2000 : Nat) : Int) ∧ 2000000000 < (10 : Nat) ^ 2000 := by
  refine ⟨by rw [Int.natCast_pow]; rfl, ?_⟩
  exact Nat.lt_of_lt_of_le (show 2000000000 < 10 ^ 10 by decide) (Nat.pow_le_pow_right (by decide) (by decide))
theorem dvd_edge {x : Int} (h : 0 < x) : dvd [x, 0 - x] = [1, -1] := by
  have e : gl [x, 0 - x] 0 = x.natAbs := by
    show Nat.gcd (Nat.gcd 0 x.natAbs) (0 - x).natAbs = x.natAbs
    rw [Nat.gcd_zero_left, Int.zero_sub, Int.natAbs_neg, Nat.gcd_self]
  unfold dvd
  rw [e, if_neg (by omega)]
  have e2 : ((x.natAbs : Nat) : Int) = x := by omega
  rw [e2]
  show [x / x, (0 - x) / x] = _
  rw [Int.ediv_self (by omega), Int.zero_sub, Int.neg_ediv_of_dvd (Int.dvd_refl x), Int.ediv_self (by omega)]
theorem sq_keptN {K : PySem.W.Frag} {H1 H2 H3 : Hp} {a p : Addr} {xs : List V} (hp : H1 p = none) (s : Same H1 H2) (b : ButN p H2 H3) (h : SqL K H1 a xs) : SqL K H3 a xs := by
  rcases h with (h | ⟨o, h⟩) | h
  · exact Or.inl (Or.inl (b _ _ (ne_of_none h hp) (s _ _ h) fun _ z => nomatch z))
  · exact Or.inl (Or.inr ⟨o, b _ _ (ne_of_none h hp) (s _ _ h) fun _ z => nomatch z⟩)
  · exact Or.inr h
def spLaw (K : PySem.W.Frag) (T : List (Addr × Str)) : Sp := fun vs H Q _ => ∃ (a : Addr) (ns : List Int), vs = [.ref a] ∧ SqL K H a (ns.map V.int) ∧ ns.length ≤ 63 ∧ LamX.Tabs T H ∧ ∀ H', Q (.bl true) H'

end K05
namespace K05
open PySem PySem.Spec PyProof.Rows L2 Lay
theorem takes_len {X : Cx} {W : WX} (t : Takes X W) : Takes X (fun c d σ H => σ.length = X.N.length → W c d σ H) := fun u s' ⟨a, B, sI, pins, σ, H, cls, d, e, I, nb, up, sky, na, os, ag, w⟩ =>
  t u s' ⟨a, B, sI, pins, σ, H, cls, d, e, I, nb, up, sky, na, os, ag, w I.len⟩
/-- what _law_word makes of the lambda that it is handed -/
def TWord (K : PySem.W.Frag) (CO CN : Addr) : (XK → Hp → VK → Prop) → Hp → VK → Prop := fun tl H Q =>
  tl (fun cls d H' => (cls = .ref CO ∧ Q (.str "operation") H') ∨ (cls = .ref CN ∧ ∃ dd v z, d = some dd ∧ H' dd = some (.xd [("given", v)]) ∧ Sh K H' v z ∧ z.length ≤ 10000 ∧ Q (.str ("number " ++ z)) H')) H (fun _ H' => Q (.str "fine") H')
theorem rd_word {K : PySem.W.Frag} {CO CN : Addr} {t : XK → TE} {σ : L2.St} {H : Hp} {Q : VK}
    (q : t (fun cls d H' => (cls = .ref CO ∧ Q (.str "operation") H') ∨ (cls = .ref CN ∧ ∃ dd v z, d = some dd ∧ H' dd = some (.xd [("given", v)]) ∧ Sh K H' v z ∧ z.length ≤ 10000 ∧ Q (.str ("number " ++ z)) H')) σ H (fun _ H' => Q (.str "fine") H')) : TWord K CO CN (fun E H' Q' => t E σ H' Q') H Q := q
theorem word_gives {X : Cx} {CO CN g : Addr} {cdg : Value} {q : Str} (hq : Quiet X.A) (hr : Room 1 X.A) (R : Er X.K X.mg CO CN) (hrep : X.mg "repr" = none) :
    LamX.GivesTo X ["_law_call", "e"] "_law_word" (defScope s_law_word) g cdg (defBody s_law_word) "_law_call" q (TWord X.K CO CN) := by
  intro f c' s H Q tl act hc h
  have hu := (hr.deeper (envOfC "_law_word" (defScope s_law_word) s.heap.objs.size g cdg)).units
  replace hq := Quiet.deeper hq (envOfC "_law_word" (defScope s_law_word) s.heap.objs.size g cdg)
  refine ⟨_, pss_cons (ps_try_mix (X := (cxOf C8.CX0 X.prog X.w X.K X.mg X.base ["_law_call", "e"] "_law_word" (defScope s_law_word) g cdg X.A X.stack s H C8.E0).nox) (n := "e") (i := 1)
      (l := [(false, .ref CO, fun _ _ _ => tRet (tC (.str "operation"))), (true, .ref CN, fun a cls d => tRet (tOp rCatZ (tC (.str "number ")) (tCB (rShow X.K) (tCons (tXf a cls d CN "given" (tVar 1)) tNil))))])
      (tb := fun W D σ H => ∃ Ech : XK, (∀ cls d σ' H', Ech cls d H' → σ'.length = 2 → W cls d σ' H') ∧ σ[0]? = some (some (.ref f)) ∧ H c' = some (LamX.CodeO c' q) ∧ tl Ech H (fun _ H1 => D.nx σ H1))
      rfl rfl sc_law_word.nd rfl rfl LamX.takes0 (fun W pn xe tk _ => ?_)
      (Mix.only ⟨rfl, by decide, Or.inl R.nO⟩ (fun a oe cls d pn hz hf => pss_one (ps_ret pe_str))
        (Mix.as ⟨rfl, by decide, Or.inl R.nN⟩ (fun a oe cls d pn hz hf => pss_one (ps_ret (by exact pe_op q_catZ pe_str (pe_callB (r := rShow X.K) (by exact call_show hq hu) (by rfl) hrep (by decide +kernel) (pa_cons (pe_xf R.xfN R.noN hz hf (pv 1)) pa_nil))))) Mix.nil))) (pss_one (ps_ret pe_str)), ?_⟩
  · refine ⟨fun pins s' σ H' D I h' => ?_⟩
    obtain ⟨Ech, hW, h1, h2, h3⟩ := h'
    exact (pss_one (ps_expr (act _ pn xe Ech _ _ (takes_len tk) hW))).run pins s' σ H' D I ⟨h1, h2, h3⟩
  · refine ⟨_, ?_, rfl, hc, h⟩
    rintro cls d σ' H' (⟨rfl, k⟩ | ⟨rfl, dd, v, z, rfl, hd, hs, hl, k⟩) hn
    · exact ⟨true, R.mOO, fun _ a ha => k, fun z => nomatch z⟩
    · refine ⟨false, R.mNO, (fun z => nomatch z), fun _ => ⟨true, R.mNN, fun _ a ha => ?_, fun z => nomatch z⟩⟩
      match σ', hn with
      | [x, y], _ =>
        have e : ("number " : Str).length = 7 := by decide +kernel
        exact ⟨.ref a, rfl, rfl, rfl, dd, _, v, rfl, hd, by simp [List.lookup], v, z, rfl, hs, "number ", z, rfl, rfl, by rw [e]; exact Nat.le_trans (by omega : 7 + z.length ≤ 20000) (by decide), k⟩
/-- _law_word(lambda: ..) -/
theorem wl {X : Cx} {CO CN c P : Addr} {k : Nat} {T : List (Addr × Str)} {params : Arguments} {body : Expr} {scope : Scope} {t : XK → TE} {p lpos pos : Pos} (D : DefAt X.K X.mg "_law_word" s_law_word ["_law_call"]) (R : Er X.K X.mg CO CN) (hrep : X.mg "repr" = none) (hq : Quiet X.A)
    (hr : Room (k + 2) X.A) (hg : Gl X "_law_word") (TB : LamX.TabB X.base X.mg c P) (hcode : X.env.code = .ref c) (hT : (P, X.env.qual ++ "<lambda>") ∈ T) (hTu : ∀ p ∈ T, p.1 = P → p.2 = X.env.qual ++ "<lambda>") (L : LamX.LamS X.env.scope scope) (hdef : defaultsOf params X.env = ([], []))
    (hbind : ∀ (q : Str) (cl : List (Str × Addr)) (pm cv ctv : Value), bindArgs (PySem.W.kla_fn "<lambda>" q params body scope cl pm cv ctv) ⟨[], []⟩ = pure [])
    (hbody : ∀ (A : Around) (outer : List Env) (s : Shared) (H : Hp) (E : XK) (f c' : Addr), Room k (A.deeper (LamX.lamEnv X scope s.heap.objs.size f c')) → PE (LamX.lamCx X A outer s H E scope f c') body (t E)) :
    PE X (.Call (.Name "_law_word" p) [.Lambda params body scope lpos] [] pos) (LamX.tLam T (TWord X.K CO CN) t) := by
  obtain ⟨f, fd, F, m, b⟩ := D.ex
  have kp := F.kp
  obtain ⟨oc, od, kV, doc, pm, an, cdv, ct, osl, rfl, lk, hcd⟩ := F.ex
  exact LamX.pe_lamcall (a := "_law_call") hg m kp lk hcd b sc_law_word rfl (Or.inl rfl) (word_gives hq (hr.mono (by omega)) R hrep) TB hcode hT hTu hr L hdef hbind hbody
end K05
namespace K05
open PySem PySem.Spec PyProof.Rows L2 Lay
local macro_rules | `(tactic| walk_at "rd1") => `(tactic| (first
  | with_reducible refine rd_seq ?_
  | with_reducible refine rd_next ?_
  | with_reducible refine rd_asg ?_
  | with_reducible refine rd_name ?_
  | with_reducible refine rd_ret ?_
  | with_reducible refine rd_drop ?_
  | with_reducible refine rd_ifS ?_
  | with_reducible refine rd_c ?_
  | ((with_reducible refine rd_var (v := ?vv) ?hv ?_); (case hv => exact rfl))
  | with_reducible refine rd_op ?_
  | with_reducible refine rd_un ?_
  | with_reducible refine rd_CB ?_
  | with_reducible refine rd_Cl ?_
  | with_reducible refine rd_nil ?_
  | with_reducible refine rd_cons ?_
  | with_reducible refine rd_test ?_
  | with_reducible refine rd_B ?_
  | with_reducible refine rd_bl ?_
  | with_reducible refine rd_not ?_
  | with_reducible refine rd_and ?_
  | with_reducible refine rd_or ?_
  | with_reducible refine rd_andV ?_
  | with_reducible refine rd_orV ?_
  | with_reducible refine rd_notV ?_
  | with_reducible refine rd_ifE ?_
  | with_reducible refine rd_chain ?_
  | with_reducible refine rd_tup ?_
  | with_reducible refine rd_lst ?_
  | with_reducible refine rd_add ?_
  | with_reducible refine rd_sub ?_
  | with_reducible refine rd_lt ?_
  | with_reducible refine rd_le ?_
  | with_reducible refine rd_gt ?_
  | with_reducible refine rd_ge ?_
  | with_reducible refine rd_neg ?_
  | with_reducible refine rd_eqI ?_
  | with_reducible refine rd_neI ?_
  | with_reducible refine rd_int1 ?_
  | with_reducible refine rd_int1b ?_
  | with_reducible refine rd_abs ?_
  | with_reducible refine rd_max2 ?_
  | with_reducible refine rd_min2 ?_
  | with_reducible refine rd_ltZ ?_
  | with_reducible refine rd_leZ ?_
  | with_reducible refine rd_gtZ ?_
  | with_reducible refine rd_geZ ?_
  | with_reducible refine rd_gsub ?_
  | with_reducible refine rd_for ?_
  | with_reducible refine rd_rng1 ?_
  | with_reducible refine rd_iTup ?_
  | with_reducible refine rd_iList ?_
  | with_reducible refine rd_iStr ?_
  | with_reducible refine rd_lc ?_
  | with_reducible refine rd_bits ?_
  | with_reducible refine rd_yes ?_
  | with_reducible refine rd_sl ?_
  | with_reducible refine rd_noP ?_
  | with_reducible refine rd_part ?_
  | with_reducible refine rd_i ?_
  | with_reducible refine rd_s ?_
  | with_reducible refine rd_disp1 ?_
  | with_reducible refine rd_dnew ?_
  | with_reducible refine rd_M1 ?_
  | with_reducible refine rd_isS ?_
  | with_reducible refine rd_dcT ?_
  | with_reducible refine rd_iSeqL ?_
  | with_reducible refine rd_min3 ?_
  | with_reducible refine rd_r ?_
  | with_reducible refine iteT ?_
  | with_reducible refine iteF ?_
  | ((with_reducible refine rd_new ?hn ?_); (case hn => exact Nat.le_of_ble_eq_true rfl))
  | ((with_reducible refine rd_mod ?hm ?_); (case hm => decide))
  | ((with_reducible refine rd_fdivW ?hm ?_); (case hm => exact wide_div (by decide) (b := 20) (by decide) (by decide) (by decide)))
  | ((with_reducible refine rd_mul ?hm ?_); (case hm => first | exact mul_lit ⟨by decide, by decide⟩ | exact mul_rit ⟨by decide, by decide⟩ | exact mul_lit ⟨by omega, by omega⟩ | exact mul_rit ⟨by omega, by omega⟩))
  | ((with_reducible refine rd_pow ?hm ?_); (case hm => exact ⟨by decide, by decide, by decide⟩))))
local macro_rules | `(tactic| walk_at "rd") => `(tactic| (repeat (walk_at "rd1")))
local macro_rules | `(tactic| walk_at "hp") => `(tactic| (first | assumption | exact upd_same | (refine up_old (by assumption) ?_; walk_at "hp")))
local macro_rules | `(tactic| walk_at "badrow") => `(tactic| (first | exact dRow_two _ _ (Or.inl great_not) | exact dRows_row (dRow_two _ _ (Or.inr great_not)) | exact dRows_row (dRow_two _ _ (Or.inl great_neg)) | exact dRows_long _))
local macro_rules | `(tactic| walk_at "mem") => `(tactic| (first | assumption | exact List.mem_cons_self | (refine List.mem_cons_of_mem _ ?_; walk_at "mem")))
section
variable {P : Program} {w : World} {K : PySem.W.Frag} {mg : Str → Option Value} {base : Heap}
theorem okdivided (B : Bi mg) (D : DefAt K mg "divided" sdivided ["row"])  : CalA P w K mg base "divided" 1 ["row"] (spDvd) := by
  refine cala_of D scdivided (fun vs H Q E h => ?_) (fun f cdv A outer s H vs Q E hr h => ?_)
  · obtain ⟨p, ns, rfl, _⟩ := h; rfl
  · have hu := hr.units
    skip
    refine ⟨_, (pss_cons (ps_set (i := 1) scdivided.nd rfl (by first | exact Or.inl rfl | exact Or.inr rfl) pe_int)
        (pss_cons (ps_for PassesOwn.never (by rfl) (pi_tup (pv 0)) (pg_name (i := 2) scdivided.nd rfl (by first | exact Or.inl rfl | exact Or.inr rfl)) (pss_cons (ps_set (i := 1) scdivided.nd rfl (by first | exact Or.inl rfl | exact Or.inr rfl) (pe_callBfun cr_gcd (by rfl) B.m_gcd (pa_cons (pv 1) (pa_cons (pv 2) pa_nil))))
        (pss_one (ps_if (pt_cmpR op_eq (pv 1) pe_int (nomark _)) (pss_one (ps_ret (pe_callTy (r := rTupOf K) (by exact q_tupOf) (by rfl) B.b_tuple (by decide +kernel) (pa_cons (pv 0) pa_nil)))) pss_nil))))
        (pss_cons (ps_if (pt_cmpR op_eq (pv 1) pe_int (nomark _)) (pss_one (ps_ret (pe_callTy (r := rTupOf K) (by exact q_tupOf) (by rfl) B.b_tuple (by decide +kernel) (pa_cons (pv 0) pa_nil)))) pss_nil)
        (pss_one (ps_ret (pe_callTy (r := rTupOf K) (by exact q_tupOf) (by rfl) B.b_tuple (by decide +kernel) (pa_cons (pe_lc (own := [("entry", 2)]) (g := gName 2) (tt := tYes) (by rfl) scdivided.nd (pi_tup (pv 0)) (blkOk_by (own := [("entry", 2)]) (N := ["row", "common", "entry"]) (sc := defScope sdivided) (by decide +kernel)) (fun _ _ _ _ _ => (pg_name (i := 2) scdivided.nd rfl (by first | exact Or.inl rfl | exact Or.inr rfl))) (fun _ _ _ _ _ => pts_nil) (fun _ _ _ _ _ => (pe_op op_fdivW (pv 2) (pv 1)))) pa_nil))))))), ?_⟩
    obtain ⟨p, ns, rfl, hp, n1, n2, hb, k⟩ := h
    refine rd_at [some (.ref p), none, none] rfl ?_
    walk_at "rd"
    refine ⟨⟨_, SqT.of hp⟩, for_tup (K := K) (a := p) (xs := ns.map V.int) (fun i σ' H' => ∃ (g : Nat) (v2 : Option V), σ' = [some (.ref p), some (.int (g : Nat)), v2] ∧ H' = H ∧ gl (ns.drop i) g = gl ns 0) ⟨0, none, rfl, rfl, rfl⟩ (fun i σ' H' _ ⟨_, _, _, e, _⟩ => by rw [e]; exact SqT.of hp) ?_ ?_⟩
    · rintro i x _ H' hx ⟨g, v2, rfl, rfl, hg⟩
      obtain ⟨z, hz, rfl⟩ : ∃ z, ns[i]? = some z ∧ x = .int z := by
        rw [List.getElem?_map] at hx
        cases e : ns[i]? with
        | none => rw [e] at hx; cases hx
        | some z => rw [e] at hx; exact ⟨z, rfl, (Option.some.inj hx).symm⟩
      have hd : ns.drop i = z :: ns.drop (i + 1) := by
        have hlt : i < ns.length := (List.getElem?_eq_some_iff.mp hz).1
        rw [List.drop_eq_getElem_cons hlt]
        congr 1
        exact Option.some.inj ((List.getElem?_eq_getElem hlt).symm.trans hz)
      walk_at "rd"
      refine ⟨_, _, rfl, ?_⟩
      rw [Int.natAbs_natCast]
      have hg2 : gl (ns.drop (i + 1)) (Nat.gcd g z.natAbs) = gl ns 0 := by
        rw [← hg, hd]
        rfl
      walk_at "rd"
      refine rd_ite (fun h1 => ?_) (fun h1 => ?_)
      · walk_at "rd"
        refine ⟨p, ns.map V.int, rfl, Or.inr ⟨SqT.of hp, ?_⟩⟩
        have e1 : Nat.gcd g z.natAbs = 1 := by omega
        have ones : ∀ l : List Int, gl l 1 = 1 := fun l => by
          induction l with
          | nil => rfl
          | cons x r ih =>
            show gl r (Nat.gcd 1 x.natAbs) = 1
            rw [Nat.gcd_one_left]
            exact ih
        rw [e1, ones] at hg2
        refine k p _ (Same.refl _) ?_
        unfold dvd
        rw [if_neg (by omega), ← hg2]
        have e2 : (ns.map fun x => x / ((1 : Nat) : Int)) = ns := by
          conv => rhs; rw [← List.map_id ns]
          exact List.map_congr_left fun x _ => Int.ediv_one x
        rw [e2]
        exact hp
      walk_at "rd"
      exact ⟨Nat.gcd g z.natAbs, _, rfl, rfl, hg2⟩
    · rintro _ H' ⟨g, v2, rfl, rfl, hg⟩
      rw [List.length_map, List.drop_length] at hg
      have e : g = gl ns 0 := hg
      walk_at "rd"
      refine rd_ite (fun h0 => ?_) (fun h0 => ?_)
      · walk_at "rd"
        refine ⟨p, ns.map V.int, rfl, Or.inr ⟨SqT.of hp, ?_⟩⟩
        exact k p _ (Same.refl _) (by unfold dvd; rw [if_pos (by omega)]; exact hp)
      · walk_at "rd"
        refine ⟨⟨_, SqT.of hp⟩, ?_⟩
        intro E1 hE1
        have gb : ∀ (l : List Int) (B g : Nat), g < B → (∀ x ∈ l, x.natAbs < B) → gl l g < B := fun l B => by
          induction l with
          | nil => exact fun g h _ => h
          | cons x r ih =>
            intro g h hx
            refine ih _ ?_ (fun y hy => hx y (List.mem_cons_of_mem _ hy))
            rcases Nat.eq_zero_or_pos g with z | z
            · rw [z, Nat.gcd_zero_left]
              exact hx x List.mem_cons_self
            · exact Nat.lt_of_le_of_lt (Nat.gcd_le_left _ z) h
        have gb2 : g < 10 ^ 2000 := by rw [e]; exact gb ns _ 0 (Nat.pow_pos (by decide)) hb
        have hg0 : (0 : Int) < (g : Nat) := by omega
        have g9 : ((g : Nat) : Int).natAbs.log2 < 9000 := by
          rw [Int.natAbs_natCast]
          exact log9 (by omega) gb2
        refine lc_same (n := (ns.map V.int).length) (wk_tup .non) (by rw [List.length_map]; omega) hE1 (fun H3 s3 => SqT.of (s3 _ _ hp)) (fun _ => true) (fun u => V.int (ns.getD u 0 / (g : Nat))) (fun u hu H3 _ R hR => hR H3 (Same.refl H3)) (fun u hu _ H3 s3 R hR => ?_) (fun H3 s3 hl3 => ?_)
        · rw [List.length_map] at hu
          rw [int_get hu]
          walk_at "rd"
          refine rd_fdivW ⟨hg0, g9⟩ ?_
          exact hR H3 (Same.refl H3)
        · walk_at "rd"
          refine ⟨E1, _, rfl, Or.inl ⟨SqL.of hl3, fun t ht => ?_⟩⟩
          refine k t _ (fun b o e => up_old ht (s3 _ _ e)) ?_
          rw [upd_same, filt_yes, List.length_map]
          unfold dvd
          rw [if_neg (by omega), ← e, List.map_map]
          have := congrArg (List.map fun x => V.int (x / (g : Nat))) (range_getD 0 ns)
          rw [List.map_map] at this
          exact congrArg (fun z => some (HO.tup z)) this
end
section
variable {P : Program} {w : World} {K : PySem.W.Frag} {mg : Str → Option Value} {base : Heap}
theorem ok_unlike (B : Bi mg) (D : DefAt K mg "_unlike" s_unlike ["rows"])  : CalA P w K mg base "_unlike" 1 ["rows"] (spUnlike K) := by
  refine cala_of D sc_unlike (fun vs H Q E h => ?_) (fun f cdv A outer s H vs Q E hr h => ?_)
  · obtain ⟨p, m, q, r, rfl, _⟩ := h; rfl
  · have hu := hr.units
    skip
    refine ⟨_, (pss_one (ps_ret (pe_callTy (q_lstT rfl) (by rfl) B.b_list (by decide +kernel) (pa_cons (pe_dcT (own := [("row", 1)]) (g := gName 1) (tt := tYes) (units1 hu) (by rfl) sc_unlike.nd (pi_seqK (K := K) rfl (pv 0)) (blkOk_by (own := [("row", 1)]) (N := ["rows", "row"]) (sc := defScope s_unlike) (by decide +kernel)) (fun _ _ _ _ _ => (pg_name (i := 1) sc_unlike.nd rfl (by first | exact Or.inl rfl | exact Or.inr rfl))) (fun _ _ _ _ _ => pts_nil) (fun _ _ _ _ _ => (pe_callTy (r := rTupOf K) (by exact q_tupOf) (by rfl) B.b_tuple (by decide +kernel) (pa_cons (pv 1) pa_nil))) (fun _ _ _ _ _ => pe_bl)) pa_nil)))), ?_⟩
    obtain ⟨p, m, q, r, rfl, hp, hq2, hm, k⟩ := h
    refine rd_at [some (.ref p), none] rfl ?_
    walk_at "rd"
    have key : ∀ D H', Same H H' → H' D = some (.dT (putN (fun _ => r.map Sum.inl) (fun _ => V.bl true) m)) → ∀ R : VK, (∀ l H'', Same H' H'' → Few H'' l (min m 1) r → R (.ref l) H'') → rLstT [V.ref D] H' R := by
      intro D H' s' hD R kk
      refine rd_lstT hD fun l bs hl hk => ?_
      refine kk _ _ (fun b o e => up_old hl e) ?_
      cases m with
      | zero =>
        cases hk
        exact Or.inl ⟨rfl, upd_same⟩
      | succ n =>
        rw [putN_one] at hk
        obtain ⟨b, rfl, hb⟩ : ∃ b, bs = [b] ∧ H' b = some (.tup ((r.map Sum.inl).map kV)) := by
          cases hk with
          | cons h t =>
            cases t
            exact ⟨_, rfl, h⟩
        refine Or.inr ⟨by omega, b, upd_same, up_old hl ?_⟩
        rw [hb, List.map_map]
        rfl
    have step : ∀ (E : Addr), H E = none → ∀ j, j < m → ∀ H', Same H H' → ∀ R : VK, (∀ q' H'', Same H' H'' → H'' q' = some (.tup ((r.map Sum.inl).map kV)) → R (.ref q') H'') → tCB (rTupOf K) (tCons (tVar 1) tNil) ((wipe [some (V.ref p), none] [1]).set 1 (some ((List.replicate m (V.ref q)).getD j .non))) H' R := by
      intro E hE j hj H' s' R kk
      have e : (List.replicate m (V.ref q)).getD j .non = V.ref q := by
        rw [List.getD_eq_getElem?_getD, List.getElem?_replicate, if_pos hj]
        rfl
      rw [e]
      have h2 := s' _ _ (hq2 (by omega))
      walk_at "rd"
      refine ⟨q, _, rfl, Or.inr ⟨SqT.of h2, ?_⟩⟩
      refine kk q H' (Same.refl _) ?_
      rw [h2, List.map_map]
      rfl
    rcases hp with hp | hp
    · refine Or.inl ⟨⟨_, hp⟩, ?_⟩
      intro E hE
      refine dc_same (n := (List.replicate m (V.ref q)).length) (wk_list .non) (by rw [List.length_replicate]; omega) hE (fun H' s' => s'.seq hp) (fun _ => r.map Sum.inl) (fun _ => .bl true) (fun j hj H' s' R kk => step E hE j (by rw [List.length_replicate] at hj; exact hj) H' s' R kk) (fun j hj H' s' R kk => kk H' (Same.refl _)) fun H' s' hD => ?_
      rw [List.length_replicate] at hD
      exact key E H' s' hD _ fun l H'' s'' hf => k l H'' (s'.trans s'') hf
    · refine Or.inr ⟨⟨_, hp⟩, ?_⟩
      intro E hE
      refine dc_same (n := (List.replicate m (V.ref q)).length) (wk_tup .non) (by rw [List.length_replicate]; omega) hE (fun H' s' => sqT_same s' hp) (fun _ => r.map Sum.inl) (fun _ => .bl true) (fun j hj H' s' R kk => step E hE j (by rw [List.length_replicate] at hj; exact hj) H' s' R kk) (fun j hj H' s' R kk => kk H' (Same.refl _)) fun H' s' hD => ?_
      rw [List.length_replicate] at hD
      exact key E H' s' hD _ fun l H'' s'' hf => k l H'' (s'.trans s'') hf
end
section
variable {P : Program} {w : World} {K : PySem.W.Frag} {mg : Str → Option Value} {base : Heap}
theorem ok_adds_lead (B : Bi mg) (D : DefAt K mg "_adds_lead" s_adds_lead ["leads", "row"])  : CalA P w K mg base "_adds_lead" 1 ["leads", "row"] (spAdds) := by
  refine cala_of D sc_adds_lead (fun vs H Q E h => ?_) (fun f cdv A outer s H vs Q E hr h => ?_)
  · obtain ⟨l, q, r, rfl, _⟩ := h; rfl
  · have hu := hr.units
    obtain ⟨t_PRIME, k_PRIME⟩ := B.c_PRIME
    skip
    refine ⟨_, (pss_cons (ps_setLc (i := 2) (own := [("entry", 9)]) (g := gName 9) (tt := tYes) (by rfl) sc_adds_lead.nd rfl rfl (sw_true rfl rfl rfl (by decide +kernel)) (pi_tup (pv 1)) (blkOk_by (own := [("entry", 9)]) (N := ["leads", "row", "left", "start", "column", "factor", "tail", "head", "above", "entry", "against"]) (sc := defScope s_adds_lead) (by decide +kernel)) (fun _ _ _ _ _ => (pg_name (i := 9) sc_adds_lead.nd rfl (by first | exact Or.inl rfl | exact Or.inr rfl))) (fun _ _ _ _ _ => pts_nil) (fun _ _ _ _ _ => (pe_op op_mod (pv 9) (pe_glob (v := .int 1073741789) (by rfl) k_PRIME ⟨_, rfl⟩))))
        (pss_cons (ps_set (i := 3) sc_adds_lead.nd rfl (by first | exact Or.inl rfl | exact Or.inr rfl) pe_int)
        (pss_cons (ps_for PassesOwn.never (by rfl) (pi_range1 (by rfl) B.b_range (pa_cons (pe_callB (r := rLenQ K) (by exact q_lenQ) (by rfl) B.b_len (by decide +kernel) (pa_cons (pv 0) pa_nil)) pa_nil)) (pg_name (i := 4) sc_adds_lead.nd rfl (by first | exact Or.inl rfl | exact Or.inr rfl)) (pss_cons (ps_set (i := 5) sc_adds_lead.nd rfl (by first | exact Or.inl rfl | exact Or.inr rfl) (pe_ix (r := rIxL K) (by exact ix_list) (pv 2) (pe_op op_sub (pv 4) (pv 3)) (fun _ _ => rfl)))
        (pss_one (ps_if (pt_cmpR op_ne (pv 5) pe_int (nomark _)) (pss_cons (ps_set (i := 6) sc_adds_lead.nd rfl (by first | exact Or.inl rfl | exact Or.inr rfl) (pe_slice (r := rSlL K) (by exact sl_list) (pv 2) (po_some (pe_op op_add (pe_op op_sub (pv 4) (pv 3)) pe_int)) po_none))
        (pss_cons (ps_if (pt_cmpR op_isN (pe_ix (r := rIxL K) (by exact ix_list) (pv 0) (pv 4) (fun _ _ => rfl)) pe_non (nomark _)) (pss_cons (ps_asg (pe_tup (pa_cons (pv 5) (pa_cons (pv 6) pa_nil))) (pg_sub (pv 0) (pv 4) set_list))
        (pss_one (ps_ret pe_bl))) pss_nil)
        (pss_cons (ps_asg (pe_ix (r := rIxL K) (by exact ix_list) (pv 0) (pv 4) (fun _ _ => rfl)) (pg_tup (by rfl) (pgs_cons (pg_name (i := 7) sc_adds_lead.nd rfl (by first | exact Or.inl rfl | exact Or.inr rfl)) (pgs_cons (pg_name (i := 8) sc_adds_lead.nd rfl (by first | exact Or.inl rfl | exact Or.inr rfl)) pgs_nil))))
        (pss_cons (ps_setLc (i := 2) (own := [("entry", 9), ("against", 10)]) (g := gTup K 2 (gCons (gName 9) (gCons (gName 10) gNil))) (tt := tYes) (by rfl) sc_adds_lead.nd rfl rfl (sw_true rfl rfl rfl (by decide +kernel)) (pi_zipM (by rfl) B.b_zip (pa_cons (pv 6) (pa_cons (pv 8) pa_nil))) (blkOk_by (own := [("entry", 9), ("against", 10)]) (N := ["leads", "row", "left", "start", "column", "factor", "tail", "head", "above", "entry", "against"]) (sc := defScope s_adds_lead) (by decide +kernel)) (fun _ _ _ _ _ => (pg_tup (by rfl) (pgs_cons (pg_name (i := 9) sc_adds_lead.nd rfl (by first | exact Or.inl rfl | exact Or.inr rfl)) (pgs_cons (pg_name (i := 10) sc_adds_lead.nd rfl (by first | exact Or.inl rfl | exact Or.inr rfl)) pgs_nil)))) (fun _ _ _ _ _ => pts_nil) (fun _ _ _ _ _ => (pe_op op_mod (pe_op op_sub (pe_op op_mulW (pv 7) (pv 9)) (pe_op op_mulW (pv 5) (pv 10))) (pe_glob (v := .int 1073741789) (by rfl) k_PRIME ⟨_, rfl⟩))))
        (pss_one (ps_set (i := 3) sc_adds_lead.nd rfl (by first | exact Or.inl rfl | exact Or.inr rfl) (pe_op op_add (pv 4) pe_int))))))) pss_nil))))
        (pss_one (ps_ret pe_bl))))), ?_⟩
    obtain ⟨l, q, r, rfl, hl, hq2, n1, n2, k1, k2⟩ := h
    refine rd_at [some (.ref l), some (.ref q), none, none, none, none, none, none, none, none, none] rfl ?_
    walk_at "rd"
    refine ⟨⟨_, SqT.of hq2⟩, ?_⟩
    intro E1 hE1
    refine lc_same (n := (r.map V.int).length) (wk_tup .non) (by rw [List.length_map]; omega) hE1 (fun H' s' => SqT.of (s' _ _ hq2)) (fun _ => true) (fun j => V.int (r.getD j 0 % 1073741789)) (fun j hj H' _ R hR => hR H' (Same.refl _)) (fun j hj _ H' s' R hR => ?_) (fun H1 s' hl2 => ?_)
    · rw [List.length_map] at hj
      rw [int_get hj]
      walk_at "rd"
      exact hR H' (Same.refl _)
    have hL : Li H1 E1 (r.map fun x => x % 1073741789) := by
      unfold Li
      rw [hl2, filt_yes, List.length_map, List.map_map]
      have := congrArg (List.map fun x => V.int (x % 1073741789)) (range_getD 0 r)
      rw [List.map_map] at this
      exact congrArg (fun z => some (HO.lst z)) this
    walk_at "rd"
    refine rd_lenL (SqL.of (s' _ _ hl)) ?_
    rw [List.length_replicate]
    walk_at "rd"
    refine ⟨_, rfl, by omega, by omega, ?_⟩
    rw [Int.toNat_natCast]
    refine for_rng (fun i σ' H' => ∃ v4 v5 v6 : Option V, σ' = [some (.ref l), some (.ref q), some (.ref E1), some (.int 0), v4, v5, v6, none, none, none, none] ∧ H' = H1 ∧ ∀ t, t < i → r.getD t 0 % 1073741789 = 0) ⟨none, none, none, rfl, rfl, fun t ht => absurd ht (Nat.not_lt_zero _)⟩ ?_ ?_
    · rintro i _ H' hi ⟨v4, v5, v6, rfl, rfl, hz⟩
      have e0 : (0 : Int) + (i : Int) - 0 = (i : Int) := by omega
      have eg : (r.map fun x => x % 1073741789).getD i 0 = r.getD i 0 % 1073741789 := by
        rw [List.getD_eq_getElem?_getD, List.getElem?_map, List.getElem?_eq_getElem hi, List.getD_eq_getElem?_getD, List.getElem?_eq_getElem hi]
        rfl
      walk_at "rd"
      rw [e0]
      refine rd_ixL (SqL.of hL) (int_at (by rw [List.length_map]; exact hi)) ?_
      rw [eg]
      walk_at "rd"
      refine rd_iteN (fun h0 => ?_) (fun h0 => ?_)
      · walk_at "rd"
        refine rd_slL (SqL.of hL) (fun p5 hp5 => ?_)
        walk_at "rd"
        have e1 : (0 : Int) + (i : Int) = ((i : Nat) : Int) := by omega
        rw [e1]
        refine rd_ixL (v := .non) (SqL.of (up_old hp5 (s' _ _ hl))) (at_nat (by rw [List.getElem?_replicate, if_pos hi])) ?_
        walk_at "rd"
        refine ⟨rfl, ?_⟩
        walk_at "rd"
        refine rd_ite (fun _ => ?_) (fun z => absurd rfl z)
        walk_at "rd"
        intro p6 hp6
        walk_at "rd"
        refine rd_setL (up_old hp6 (up_old hp5 (s' _ _ hl))) (ix_nat (by rw [List.length_replicate]; exact hi)) rfl ?_
        walk_at "rd"
        refine k1 ⟨r.getD i 0, mem_get hi, h0⟩ _ fun b o nb e => ?_
        exact up_oth nb (up_old hp6 (up_old hp5 (s' _ _ e)))
      · walk_at "rd"
        refine ⟨_, _, _, rfl, rfl, fun t ht => ?_⟩
        rcases Nat.lt_succ_iff_lt_or_eq.mp ht with h1 | h1
        · exact hz t h1
        · rw [h1]
          exact h0
    · rintro _ H' ⟨v4, v5, v6, rfl, rfl, hz⟩
      walk_at "rd"
      refine k2 (fun x hx => ?_) _ s'
      obtain ⟨j, hj, rfl⟩ := List.mem_iff_getElem.mp hx
      have := hz j hj
      rw [List.getD_eq_getElem?_getD, List.getElem?_eq_getElem hj] at this
      exact this
end
section
variable {P : Program} {w : World} {K : PySem.W.Frag} {mg : Str → Option Value} {base : Heap}
theorem ok_row_with (B : Bi mg) (D : DefAt K mg "_row_with" s_row_with ["rows", "start", "column"])  : CalA P w K mg base "_row_with" 1 ["rows", "start", "column"] (spRowWith K) := by
  refine cala_of D sc_row_with (fun vs H Q E h => ?_) (fun f cdv A outer s H vs Q E hr h => ?_)
  · obtain ⟨p, s, c, w, M, rfl, _⟩ := h; rfl
  · have hu := hr.units
    skip
    refine ⟨_, (pss_cons (ps_for PassesOwn.never (by rfl) (pi_range2 (by rfl) B.b_range (pa_cons (pv 1) (pa_cons (pe_callB (r := rLenQ K) (by exact q_lenQ) (by rfl) B.b_len (by decide +kernel) (pa_cons (pv 0) pa_nil)) pa_nil))) (pg_name (i := 3) sc_row_with.nd rfl (by first | exact Or.inl rfl | exact Or.inr rfl)) (pss_one (ps_if (pt_cmpR op_ne (pe_ix (r := rIx K) (by exact ix_seq) (pe_ix (r := rIxL K) (by exact ix_list) (pv 0) (pv 3) (fun _ _ => rfl)) (pv 2) (fun _ _ => rfl)) pe_int (nomark _)) (pss_one (ps_ret (pv 3))) pss_nil)))
        (pss_one (ps_ret pe_non))), ?_⟩
    obtain ⟨p, s, c, w, M, rfl, hLL, hn, hsn, hw, hc, k1, k2⟩ := h
    refine rd_at [some (.ref p), some (.int (s : Int)), some (.int (c : Int)), none] rfl ?_
    obtain ⟨rs, h1, h2, h3⟩ := id hLL
    walk_at "rd"
    refine rd_rng2 ?_
    walk_at "rd"
    refine rd_lenL (SqL.of h1) ?_
    walk_at "rd"
    refine ⟨_, _, rfl, ⟨by omega, by omega, by rw [List.length_map]; omega, by rw [List.length_map]; omega⟩, ?_⟩
    refine for_range (lo := (s : Int)) (n := (((rs.map V.ref).length : Int) - (s : Int)).toNat) (fun i σ' H' => ∃ v, σ' = [some (.ref p), some (.int (s : Int)), some (.int (c : Int)), v] ∧ H' = H ∧ ∀ t, s ≤ t → t < s + i → at2 M t c = 0) ⟨none, rfl, rfl, fun t h1 h2 => by omega⟩ ?_ ?_
    · rintro i _ H hi ⟨v, rfl, rfl, hz⟩
      rw [List.length_map] at hi
      have hlt : s + i < M.length := by omega
      have hlr : s + i < rs.length := by omega
      have g4 := h3 (s + i) rs[s + i] _ (List.getElem?_eq_getElem hlr) (row_at hlt)
      have eM : M.getD (s + i) [] ∈ M := by
        rw [List.getD_eq_getElem?_getD, List.getElem?_eq_getElem hlt]
        exact List.getElem_mem hlt
      have e1 : (s : Int) + (i : Int) = ((s + i : Nat) : Int) := by omega
      rw [e1]
      walk_at "rd"
      refine rd_ixL (SqL.of h1) (ref_at (List.getElem?_eq_getElem hlr)) ?_
      walk_at "rd"
      have hat : atI ((M.getD (s + i) []).map V.int) (c : Int) = some (V.int ((M.getD (s + i) []).getD c 0)) := int_at (by rw [hw _ eM]; exact hc)
      have both : ∀ {Q : VK}, Q (V.int ((M.getD (s + i) []).getD c 0)) H → (rIxL K (V.ref rs[s + i]) (V.int (c : Int)) H Q ∨ rIxT K (V.ref rs[s + i]) (V.int (c : Int)) H Q ∨ rIxS (V.ref rs[s + i]) (V.int (c : Int)) H Q) := fun q => g4.elim (fun g => Or.inl (rd_ixL (SqL.of g) hat q)) (fun g => Or.inr (Or.inl (rd_ixT (SqT.of g) hat q)))
      refine rd_ixA (both ?_)
      walk_at "rd"
      refine rd_iteN (fun h0 => ?_) (fun h0 => ?_)
      · walk_at "rd"
        exact k1 (s + i) (by omega) hlt h0 hz
      · walk_at "rd"
        refine ⟨_, rfl, rfl, fun t t1 t2 => ?_⟩
        rcases Nat.lt_or_ge t (s + i) with y | y
        · exact hz t t1 y
        · obtain rfl : t = s + i := by omega
          exact h0
    · rintro _ _ ⟨v, rfl, rfl, hz⟩
      walk_at "rd"
      refine k2 fun t t1 t2 => hz t t1 ?_
      rw [List.length_map]
      omega
end
section
variable {P : Program} {w : World} {K : PySem.W.Frag} {mg : Str → Option Value} {base : Heap}
theorem ok_swap (B : Bi mg) (D : DefAt K mg "_swap" s_swap ["values", "one", "other"])  : CalA P w K mg base "_swap" 1 ["values", "one", "other"] (spSwap) := by
  refine cala_of D sc_swap (fun vs H Q E h => ?_) (fun f cdv A outer s H vs Q E hr h => ?_)
  · obtain ⟨p, i, j, xs, x, y, rfl, _⟩ := h; rfl
  · have hu := hr.units
    skip
    refine ⟨_, (pss_one (ps_asg (pe_tup (pa_cons (pe_ix (r := rIxL K) (by exact ix_list) (pv 0) (pv 2) (fun _ _ => rfl)) (pa_cons (pe_ix (r := rIxL K) (by exact ix_list) (pv 0) (pv 1) (fun _ _ => rfl)) pa_nil))) (pg_tup (by rfl) (pgs_cons (pg_sub (pv 0) (pv 1) set_list) (pgs_cons (pg_sub (pv 0) (pv 2) set_list) pgs_nil))))), ?_⟩
    obtain ⟨p, i, j, xs, x, y, rfl, hp, hi, hj, hn, k⟩ := h
    refine rd_at [some (.ref p), some (.int (i : Int)), some (.int (j : Int))] rfl ?_
    walk_at "rd"
    refine rd_ixL (SqL.of hp) (at_nat hj) ?_
    walk_at "rd"
    refine rd_ixL (SqL.of hp) (at_nat hi) ?_
    walk_at "rd"
    intro t ht
    refine ⟨t, _, rfl, SqT.of upd_same, rfl, _, _, rfl, ?_⟩
    have hi1 : i < xs.length := (List.getElem?_eq_some_iff.mp hi).1
    have hj1 : j < xs.length := (List.getElem?_eq_some_iff.mp hj).1
    refine rd_gsub ?_
    walk_at "rd"
    refine rd_setL (up_old ht hp) (j := i) (ix_nat hi1) rfl ?_
    refine ⟨_, _, rfl, ?_⟩
    refine rd_gsub ?_
    walk_at "rd"
    refine rd_setL upd_same (j := j) (ix_nat (by rw [List.length_set]; exact hj1)) rfl ?_
    refine ⟨rfl, ?_⟩
    rw [upd_two]
    exact k _ (fun b o e => up_old ht e)
end
section
variable {P : Program} {w : World} {K : PySem.W.Frag} {mg : Str → Option Value} {base : Heap}
theorem ok_combined (B : Bi mg) (D : DefAt K mg "_combined" s_combined ["factor", "row", "lead", "above", "scale"])  : CalA P w K mg base "_combined" 1 ["factor", "row", "lead", "above", "scale"] (spComb K) := by
  refine cala_of D sc_combined (fun vs H Q E h => ?_) (fun f cdv A outer s H vs Q E hr h => ?_)
  · obtain ⟨_, _, a, b, f, d, s, r, l, rfl, _⟩ := h; rfl
  · have hu := hr.units
    skip
    refine ⟨_, (pss_one (ps_ret (pe_lc (own := [("entry", 5), ("against", 6)]) (g := gTup K 2 (gCons (gName 5) (gCons (gName 6) gNil))) (tt := tYes) (by rfl) sc_combined.nd (pi_zipM (by rfl) B.b_zip (pa_cons (pv 1) (pa_cons (pv 3) pa_nil))) (blkOk_by (own := [("entry", 5), ("against", 6)]) (N := ["factor", "row", "lead", "above", "scale", "entry", "against"]) (sc := defScope s_combined) (by decide +kernel)) (fun _ _ _ _ _ => (pg_tup (by rfl) (pgs_cons (pg_name (i := 5) sc_combined.nd rfl (by first | exact Or.inl rfl | exact Or.inr rfl)) (pgs_cons (pg_name (i := 6) sc_combined.nd rfl (by first | exact Or.inl rfl | exact Or.inr rfl)) pgs_nil)))) (fun _ _ _ _ _ => pts_nil) (fun _ _ _ _ _ => (pe_op op_fdivWN (pe_op op_sub (pe_op op_mulW (pv 2) (pv 5)) (pe_op op_mulW (pv 0) (pv 6))) (pv 4)))))), ?_⟩
    obtain ⟨k1, k2, a, b, f, d, s, r, l, rfl, ⟨ha, hb⟩, hl, hn, ⟨hs0, hs9⟩, ⟨bf, bd⟩, br, bl, k⟩ := h
    refine rd_at [some (.int f), some (.ref a), some (.int d), some (.ref b), some (.int s), none, none] rfl ?_
    walk_at "rd"
    refine rd_zipM ?_
    walk_at "rd"
    refine ⟨k1, k2, a, b, _, _, rfl, ⟨ha, hb⟩, ?_⟩
    intro E1 hE1
    refine lc_zipM (n := r.length) (by rw [List.length_map]) (by rw [List.length_map, hl]) (by omega) hE1 ha hb (fun _ _ => rfl) (fun j => V.int ((d * r.getD j 0 - f * l.getD j 0).fdiv s)) (fun j hj H' s' R hR => ?_) (fun H' s' hl2 => ?_)
    · rw [int_get hj, int_get (by omega : j < l.length)]
      walk_at "rd"
      refine rd_mulW (wide_mul (a := 2000) (b := 2000) bd (br _ (mem_get hj)) (by decide) (by decide) (by decide)) ?_
      walk_at "rd"
      refine rd_mulW (wide_mul (a := 2000) (b := 2000) bf (bl _ (mem_get (by omega))) (by decide) (by decide) (by decide)) ?_
      walk_at "rd"
      exact ⟨_, _, rfl, rfl, ⟨hs0, hs9⟩, hR⟩
    · refine k H' E1 hE1 s' ?_
      unfold Li comb
      rw [hl2, List.map_map]
      rfl
end
section
variable {P : Program} {w : World} {K : PySem.W.Frag} {mg : Str → Option Value} {base : Heap}
theorem ok_are_small (B : Bi mg) (D : DefAt K mg "_are_small" s_are_small ["rows"])  : CalA P w K mg base "_are_small" 1 ["rows"] (spSmall) := by
  refine cala_of D sc_are_small (fun vs H Q E h => ?_) (fun f cdv A outer s H vs Q E hr h => ?_)
  · obtain ⟨p, m, r, rfl, _⟩ := h; rfl
  · have hu := hr.units
    obtain ⟨t_PRIME, k_PRIME⟩ := B.c_PRIME
    skip
    refine ⟨_, (pss_one (ps_ret (pe_callB (r := rAll K) (by exact (cr_all rfl)) (by rfl) B.b_all (by decide +kernel) (pa_cons (pe_lc (own := [("row", 1)]) (g := gName 1) (tt := tYes) (by rfl) sc_are_small.nd (pi_list (pv 0)) (blkOk_by (own := [("row", 1)]) (N := ["rows", "row"]) (sc := defScope s_are_small) (by decide +kernel)) (fun _ _ _ _ _ => (pg_name (i := 1) sc_are_small.nd rfl (by first | exact Or.inl rfl | exact Or.inr rfl))) (fun _ _ _ _ _ => pts_nil) (fun _ _ _ _ _ => (pe_and (pe_cmpR op_lt (pe_un un_neg (pe_glob (v := .int 1073741789) (by rfl) k_PRIME ⟨_, rfl⟩)) (pe_callB (r := rMinT K) (by exact (cr_minT rfl hu)) (by rfl) B.b_min (by decide +kernel) (pa_cons (pv 1) pa_nil)) (nomark _)) (pe_one (pe_cmpR op_lt (pe_callB (r := rMaxT K) (by exact (cr_maxT rfl hu)) (by rfl) B.b_max (by decide +kernel) (pa_cons (pv 1) pa_nil)) (pe_glob (v := .int 1073741789) (by rfl) k_PRIME ⟨_, rfl⟩) (nomark _)))))) pa_nil)))), ?_⟩
    obtain ⟨p, m, r, rfl, hf, hl, k⟩ := h
    refine rd_at [some (.ref p), none] rfl ?_
    walk_at "rd"
    rcases hf with ⟨rfl, h0⟩ | ⟨rfl, q, h1, h2⟩
    · refine ⟨⟨_, SqL.of h0⟩, ?_⟩
      intro E1 hE1
      refine lc_same (n := 0) (wk_list (xs := []) .non) (by omega) hE1 (fun H' s' => SqL.of (s' _ _ h0)) (fun _ => true) (fun _ => .bl true) (fun j hj => absurd hj (Nat.not_lt_zero _)) (fun j hj => absurd hj (Nat.not_lt_zero _)) (fun H' s' hl2 => ?_)
      walk_at "rd"
      refine rd_all (bs := []) (SqL.of hl2) ?_
      exact k true _ s' ⟨fun _ z => absurd z (by omega), fun _ => rfl⟩
    · refine ⟨⟨_, SqL.of h1⟩, ?_⟩
      intro E1 hE1
      obtain ⟨b, hb⟩ : ∃ b : Bool, b = decide (∀ x ∈ r, x.natAbs < 1073741789) := ⟨_, rfl⟩
      refine lc_same (n := 1) (wk_list (xs := [.ref q]) .non) (by omega) hE1 (fun H' s' => SqL.of (s' _ _ h1)) (fun _ => true) (fun _ => .bl b) (fun j hj H' _ R hR => hR H' (Same.refl _)) (fun j hj _ H' s' R hR => ?_) (fun H' s' hl2 => ?_)
      · obtain rfl : j = 0 := by omega
        have kk := hR H' (Same.refl _)
        walk_at "rd"
        refine ⟨q, r, rfl, SqT.of (s' _ _ h2), hl, fun mn n1 n2 => ?_⟩
        walk_at "rd"
        refine rd_ite (fun hlo => ?_) (fun hlo => ?_)
        · walk_at "rd"
          refine ⟨q, r, rfl, SqT.of (s' _ _ h2), hl, fun mx x1 x2 => ?_⟩
          walk_at "rd"
          have e : b = decide (mx < 1073741789) := by
            rw [hb]
            refine decide_eq_decide.mpr ⟨fun z => ?_, fun z x hx => ?_⟩
            · have := z mx x1
              omega
            · have a1 := n2 x hx
              have a2 := x2 x hx
              omega
          rw [← e]
          exact kk
        · have e : b = false := by
            rw [hb]
            refine decide_eq_false fun z => ?_
            have := z mn n1
            omega
          rw [e] at kk
          exact kk
      · walk_at "rd"
        refine rd_all (bs := [b]) (SqL.of hl2) ?_
        refine k _ _ s' ⟨fun z _ => ?_, fun z => ?_⟩
        · have e : b = true := by simpa using z
          rw [hb] at e
          exact of_decide_eq_true e
        · have e := z (Nat.le_refl 1)
          rw [hb, decide_eq_true e]
          rfl
end
section
variable {P : Program} {w : World} {K : PySem.W.Frag} {mg : Str → Option Value} {base : Heap}
theorem ok_is_sum_within (B : Bi mg) (D : DefAt K mg "_is_sum_within" s_is_sum_within ["found", "row"])  : CalA P w K mg base "_is_sum_within" 1 ["found", "row"] (spIsSum) := by
  refine cala_of D sc_is_sum_within (fun vs H Q E h => ?_) (fun f cdv A outer s H vs Q E hr h => ?_)
  · obtain ⟨t, q, r, L, O, F, s, rfl, _⟩ := h; rfl
  · have hu := hr.units
    skip
    refine ⟨_, (pss_cons (ps_asg (pv 0) (pg_tup (by rfl) (pgs_cons (pg_name (i := 2) sc_is_sum_within.nd rfl (by first | exact Or.inl rfl | exact Or.inr rfl)) (pgs_cons (pg_name (i := 3) sc_is_sum_within.nd rfl (by first | exact Or.inl rfl | exact Or.inr rfl)) (pgs_cons (pg_name (i := 4) sc_is_sum_within.nd rfl (by first | exact Or.inl rfl | exact Or.inr rfl)) (pgs_cons (pg_name (i := 5) sc_is_sum_within.nd rfl (by first | exact Or.inl rfl | exact Or.inr rfl)) pgs_nil))))))
        (pss_cons (ps_setLc (i := 6) (own := [("column", 10)]) (g := gName 10) (tt := tYes) (by rfl) sc_is_sum_within.nd rfl rfl (sw_true rfl rfl rfl (by decide +kernel)) (pi_list (pv 3)) (blkOk_by (own := [("column", 10)]) (N := ["found", "row", "leads", "opened", "form", "scale", "left", "lead", "ends", "factor", "column", "entry", "end"]) (sc := defScope s_is_sum_within) (by decide +kernel)) (fun _ _ _ _ _ => (pg_name (i := 10) sc_is_sum_within.nd rfl (by first | exact Or.inl rfl | exact Or.inr rfl))) (fun _ _ _ _ _ => pts_nil) (fun _ _ _ _ _ => (pe_op op_mulW (pv 5) (pe_ix (r := rIxT K) (by exact ix_tup) (pv 1) (pv 10) (fun _ _ => rfl)))))
        (pss_cons (ps_for PassesOwn.never (by rfl) (pi_zipM (by rfl) B.b_zip (pa_cons (pv 2) (pa_cons (pv 4) pa_nil))) (pg_tup (by rfl) (pgs_cons (pg_name (i := 7) sc_is_sum_within.nd rfl (by first | exact Or.inl rfl | exact Or.inr rfl)) (pgs_cons (pg_name (i := 8) sc_is_sum_within.nd rfl (by first | exact Or.inl rfl | exact Or.inr rfl)) pgs_nil))) (pss_cons (ps_set (i := 9) sc_is_sum_within.nd rfl (by first | exact Or.inl rfl | exact Or.inr rfl) (pe_ix (r := rIxT K) (by exact ix_tup) (pv 1) (pv 7) (fun _ _ => rfl)))
        (pss_one (ps_if (pt_cmpR op_ne (pv 9) pe_int (nomark _)) (pss_one (ps_setLc (i := 6) (own := [("entry", 11), ("end", 12)]) (g := gTup K 2 (gCons (gName 11) (gCons (gName 12) gNil))) (tt := tYes) (by rfl) sc_is_sum_within.nd rfl rfl (sw_true rfl rfl rfl (by decide +kernel)) (pi_zipM (by rfl) B.b_zip (pa_cons (pv 6) (pa_cons (pv 8) pa_nil))) (blkOk_by (own := [("entry", 11), ("end", 12)]) (N := ["found", "row", "leads", "opened", "form", "scale", "left", "lead", "ends", "factor", "column", "entry", "end"]) (sc := defScope s_is_sum_within) (by decide +kernel)) (fun _ _ _ _ _ => (pg_tup (by rfl) (pgs_cons (pg_name (i := 11) sc_is_sum_within.nd rfl (by first | exact Or.inl rfl | exact Or.inr rfl)) (pgs_cons (pg_name (i := 12) sc_is_sum_within.nd rfl (by first | exact Or.inl rfl | exact Or.inr rfl)) pgs_nil)))) (fun _ _ _ _ _ => pts_nil) (fun _ _ _ _ _ => (pe_op op_sub (pv 11) (pe_op op_mulW (pv 9) (pv 12)))))) pss_nil))))
        (pss_one (ps_ret (pe_not (pe_callB (r := rAnyI K) (by exact (cr_anyI rfl)) (by rfl) B.b_any (by decide +kernel) (pa_cons (pv 6) pa_nil)))))))), ?_⟩
    obtain ⟨t, q, r, L, O, F, s, rfl, hq2, ⟨a, b, c, h1, ha, hbO, hc⟩, red, sum, w2, hb, k⟩ := h
    refine rd_at [some (.ref t), some (.ref q), none, none, none, none, none, none, none, none, none, none, none] rfl ?_
    walk_at "rd"
    refine ⟨t, _, rfl, SqT.of h1, rfl, ⟨_, _, rfl, rd_name ⟨_, _, rfl, rd_name ⟨_, _, rfl, rd_name ⟨_, _, rfl, rd_name ⟨rfl, ?_⟩⟩⟩⟩⟩⟩
    have oL : O.length ≤ 28 := by
      have := red.sum
      omega
    walk_at "rd"
    refine ⟨⟨_, SqL.of hbO⟩, ?_⟩
    intro E1 hE1
    refine lc_same (n := ((ofN O).map V.int).length) (wk_list .non) (by rw [List.length_map, ofN_len]; omega) hE1 (fun H' s' => SqL.of (s' _ _ hbO)) (fun _ => true) (fun j => V.int (s * r.getD (O.getD j 0) 0)) (fun j hj H' _ R hR => hR H' (Same.refl _)) (fun j hj _ H' s' R hR => ?_) (fun H1 s1 hl1 => ?_)
    · rw [List.length_map, ofN_len] at hj
      rw [ofN_at hj]
      have ho := red.oe _ (nat_mem hj)
      walk_at "rd"
      refine rd_ixT (SqT.of (s' _ _ hq2)) (int_at ho) ?_
      refine rd_mulW (mulW red.bd (hb _ (mem_get ho))) ?_
      exact hR H' (Same.refl _)
    have hX : Li H1 E1 ((List.range O.length).map fun j => s * r.getD (O.getD j 0) 0) := by
      unfold Li
      rw [hl1, filt_yes, List.length_map, ofN_len, List.map_map]
      rfl
    clear hl1
    walk_at "rd"
    refine rd_zipM ?_
    walk_at "rd"
    obtain ⟨rs, c1, c2, c3⟩ := hc
    refine ⟨true, true, a, c, _, _, rfl, ⟨SqL.of (s1 _ _ ha), SqL.of (s1 _ _ c1)⟩, ?_⟩
    refine for_zipM (n := L.length) (by rw [List.length_map, ofN_len]) (by rw [List.length_map, c2]; exact red.ll) (fun i σ' H' => ∃ (l6 : Addr) (v7 v8 v9 : Option V) (X : List Int), σ' = [some (.ref t), some (.ref q), some (.ref a), some (.ref b), some (.ref c), some (.int s), some (.ref l6), v7, v8, v9, none, none, none] ∧ Same H1 H' ∧ Li H' l6 X ∧
      ((i = 0 ∧ X = (List.range O.length).map fun j => s * r.getD (O.getD j 0) 0) ∨ (i = 1 ∧ ∀ x ∈ X, x = 0))) ⟨E1, none, none, none, _, rfl, Same.refl _, hX, Or.inl ⟨rfl, rfl⟩⟩ (fun i σ' H' ⟨_, _, _, _, _, _, s', _⟩ => ⟨SqL.of (s' _ _ (s1 _ _ ha)), SqL.of (s' _ _ (s1 _ _ c1))⟩) ?_ ?_
    · rintro i _ H2 x y T hi ⟨l6, v7, v8, v9, X, rfl, s2, hl6, hXX⟩ hx hy hT
      obtain ⟨c0, f, rfl, rfl, hc0, hfb, hrel⟩ : ∃ c0 f, L = [c0] ∧ F = [f] ∧ c0 < r.length ∧ (∀ x ∈ f, x.natAbs < 10 ^ 2000) ∧ ∀ j, j < O.length → s * r.getD (O.getD j 0) 0 = r.getD c0 0 * f.getD j 0 := by
        rcases sum with ⟨rfl, _, _⟩ | sum
        · exact absurd hi (Nat.not_lt_zero _)
        · exact sum
      obtain rfl : i = 0 := Nat.lt_one_iff.mp hi
      obtain rfl : X = (List.range O.length).map fun j => s * r.getD (O.getD j 0) 0 := by
        rcases hXX with ⟨_, e⟩ | ⟨e, _⟩
        · exact e
        · cases e
      obtain ⟨c9, rfl⟩ : ∃ c9, rs = [c9] := by
        match rs, c2 with
        | [c9], _ => exact ⟨c9, rfl⟩
      cases hx
      cases hy
      have hf := c3 0 c9 f rfl rfl
      have lf : f.length = O.length := red.fw f List.mem_cons_self
      walk_at "rd"
      refine rd_ixT (SqT.of (up_old hT (s2 _ _ (s1 _ _ hq2)))) (int_at hc0) ?_
      walk_at "rd"
      refine rd_iteN (fun h0 => ?_) (fun h0 => ?_)
      · walk_at "rd"
        refine rd_zipM ?_
        walk_at "rd"
        have g6 := up_old (u := .tup [V.int (c0 : Nat), V.ref c9]) hT hl6
        have gf := up_old (u := .tup [V.int (c0 : Nat), V.ref c9]) hT (s2 _ _ (s1 _ _ hf))
        refine ⟨true, true, l6, c9, _, _, rfl, ⟨SqL.of g6, SqL.of gf⟩, ?_⟩
        intro E2 hE2
        refine lc_zipM (n := O.length) (by rw [List.length_map, List.length_map, List.length_range]) (by rw [List.length_map, lf]) (by omega) hE2 (SqL.of g6) (SqL.of gf) (fun _ _ => rfl) (fun _ => V.int 0) (fun j hj H' s' R hR => ?_) (fun H' s' hl2 => ?_)
        · rw [int_get (by rw [List.length_map, List.length_range]; exact hj), int_get (by omega)]
          have ej : ((List.range O.length).map fun j => s * r.getD (O.getD j 0) 0).getD j 0 = s * r.getD (O.getD j 0) 0 := by
            rw [List.getD_eq_getElem?_getD, List.getElem?_map, List.getElem?_range hj]
            rfl
          rw [ej]
          walk_at "rd"
          refine rd_mulW (mulW (hb _ (mem_get hc0)) (hfb _ (mem_get (by omega)))) ?_
          walk_at "rd"
          rw [hrel j hj, Int.sub_self]
          exact hR
        · walk_at "rd"
          refine ⟨E2, _, _, _, List.replicate O.length 0, rfl, (fun b o e => s' _ _ (up_old hT (s2 _ _ e))), ?_, Or.inr ⟨rfl, fun x hx => List.eq_of_mem_replicate hx⟩⟩
          unfold Li
          rw [hl2, List.map_replicate]
          refine congrArg (fun z => some (HO.lst z)) ?_
          exact List.ext_getElem (by simp) (by simp)
      · walk_at "rd"
        refine ⟨l6, _, _, _, _, rfl, s2.trans (fun b o e => up_old hT e), up_old hT hl6, Or.inr ⟨rfl, fun x hx => ?_⟩⟩
        obtain ⟨j, hj, rfl⟩ := List.mem_map.mp hx
        rw [hrel j (List.mem_range.mp hj), h0, Int.zero_mul]
    · rintro _ H2 ⟨l6, v7, v8, v9, X, rfl, s2, hl6, hXX⟩
      have hz : ∀ x ∈ X, x = 0 := by
        rcases hXX with ⟨e0, rfl⟩ | ⟨_, hz⟩
        · rcases sum with ⟨rfl, rfl, hz⟩ | ⟨c0, f, rfl, _⟩
          · intro x hx
            obtain ⟨j, hj, rfl⟩ := List.mem_map.mp hx
            rw [hz _ (mem_get (red.oe _ (nat_mem (List.mem_range.mp hj)))), Int.mul_zero]
          · cases e0
        · exact hz
      walk_at "rd"
      refine rd_anyI (SqL.of hl6) ?_
      rw [any_zero hz]
      walk_at "rd"
      exact k _ (s1.trans s2)
end
section
variable {P : Program} {w : World} {K : PySem.W.Frag} {mg : Str → Option Value} {base : Heap}
theorem ok_kernel_row (B : Bi mg) (D : DefAt K mg "_kernel_row" s_kernel_row ["leads", "ends", "column", "scale", "width"])  : CalA P w K mg base "_kernel_row" 1 ["leads", "ends", "column", "scale", "width"] (spKRow) := by
  refine cala_of D sc_kernel_row (fun vs H Q E h => ?_) (fun f cdv A outer s H vs Q E hr h => ?_)
  · obtain ⟨a, e, L, F, c0, s, w, rfl, _⟩ := h; rfl
  · have hu := hr.units
    skip
    refine ⟨_, (pss_cons (ps_set (i := 5) sc_kernel_row.nd rfl (by first | exact Or.inl rfl | exact Or.inr rfl) (pv 3))
        (pss_cons (ps_for PassesOwn.never (by rfl) (pi_list (pv 1)) (pg_name (i := 6) sc_kernel_row.nd rfl (by first | exact Or.inl rfl | exact Or.inr rfl)) (pss_one (ps_set (i := 5) sc_kernel_row.nd rfl (by first | exact Or.inl rfl | exact Or.inr rfl) (pe_callBfun cr_gcd (by rfl) B.m_gcd (pa_cons (pv 5) (pa_cons (pv 6) pa_nil))))))
        (pss_cons (ps_set (i := 7) sc_kernel_row.nd rfl (by first | exact Or.inl rfl | exact Or.inr rfl) (pe_op op_rep (pe_lst (pa_cons pe_int pa_nil)) (pv 4)))
        (pss_cons (ps_asg (pe_op op_fdivW (pv 3) (pv 5)) (pg_sub (pv 7) (pv 2) set_list))
        (pss_cons (ps_for PassesOwn.never (by rfl) (pi_zipM (by rfl) B.b_zip (pa_cons (pv 0) (pa_cons (pv 1) pa_nil))) (pg_tup (by rfl) (pgs_cons (pg_name (i := 8) sc_kernel_row.nd rfl (by first | exact Or.inl rfl | exact Or.inr rfl)) (pgs_cons (pg_name (i := 6) sc_kernel_row.nd rfl (by first | exact Or.inl rfl | exact Or.inr rfl)) pgs_nil))) (pss_one (ps_asg (pe_un un_neg (pe_op op_fdivW (pv 6) (pv 5))) (pg_sub (pv 7) (pv 8) set_list))))
        (pss_one (ps_ret (pe_callTy (r := rTupOf K) (by exact q_tupOf) (by rfl) B.b_tuple (by decide +kernel) (pa_cons (pv 7) pa_nil))))))))), ?_⟩
    obtain ⟨a, e, L, F, c0, s, w, rfl, ha, he, hl, hw, cw0, s0, sb, w28, k⟩ := h
    refine rd_at [some (.ref a), some (.ref e), some (.int (c0 : Int)), some (.int s), some (.int w), none, none, none, none] rfl ?_
    walk_at "rd"
    refine ⟨⟨_, SqL.of he⟩, for_list (K := K) (a := e) (xs := F.map V.int) (fun i σ' H' => ∃ (g : Int) (v5 : Option V), σ' = [some (.ref a), some (.ref e), some (.int (c0 : Int)), some (.int s), some (.int w), some (.int g), v5, none, none] ∧ 0 < g ∧ g ≤ s ∧ H' = H) ⟨s, none, rfl, s0, Int.le_refl _, rfl⟩ (fun i σ' H' _ ⟨_, _, _, _, _, e5⟩ => by rw [e5]; exact SqL.of he) ?_ ?_⟩
    · rintro i x _ H' hxi ⟨g, v5, rfl, g0, gs, rfl⟩
      obtain ⟨z, hz, rfl⟩ : ∃ z, F[i]? = some z ∧ x = .int z := by
        rw [List.getElem?_map] at hxi
        cases e : F[i]? with
        | none => rw [e] at hxi; cases hxi
        | some z => rw [e] at hxi; exact ⟨z, rfl, (Option.some.inj hxi).symm⟩
      walk_at "rd"
      refine ⟨_, _, rfl, ?_⟩
      walk_at "rd"
      have h1 : 0 < Nat.gcd g.natAbs z.natAbs := Nat.gcd_pos_of_pos_left _ (by omega)
      have h2 : Nat.gcd g.natAbs z.natAbs ≤ g.natAbs := Nat.gcd_le_left _ (by omega)
      exact ⟨_, _, rfl, by omega, by omega, rfl⟩
    rintro _ H' ⟨g, v5, rfl, g0, gs, rfl⟩
    have g9 : g.natAbs.log2 < 9000 := log9 (by omega) (by omega)
    walk_at "rd"
    intro p1 hp1
    walk_at "rd"
    refine ⟨p1, (w : Int), [.int 0], rfl, rfl, upd_same, by omega, by omega, ?_, fun p2 hp2 => ?_⟩
    · exact Nat.le_trans (show 1 * (w : Int).toNat ≤ 30 by omega) (by decide)
    walk_at "rd"
    refine rd_fdivW ⟨g0, g9⟩ ?_
    walk_at "rd"
    refine rd_setL upd_same (ix_nat (j := c0) (by simp; omega)) rfl ?_
    walk_at "rd"
    refine rd_zipM ?_
    walk_at "rd"
    have f2 : H' p2 = none := by
      cases e : H' p2 with
      | none => rfl
      | some o => rw [up_old hp1 e] at hp2; cases hp2
    have f3 : ∀ (u v : HO), Same H' (upd (upd (upd H' p1 (.lst [.int 0])) p2 u) p2 v) := fun u v b o e => by
      have n2 : b ≠ p2 := fun z => by rw [z, f2] at e; cases e
      rw [upd_ne n2]
      exact up_old hp2 (up_old hp1 e)
    refine ⟨true, true, a, e, _, _, rfl, ⟨SqL.of (f3 _ _ _ _ ha), SqL.of (f3 _ _ _ _ he)⟩, ?_⟩
    refine for_zipM (n := L.length) (by unfold ofN; simp) (by rw [List.length_map, hl]) (fun i σ' H5 => ∃ (vs : List V) (v5 v7 : Option V), σ' = [some (.ref a), some (.ref e), some (.int (c0 : Int)), some (.int s), some (.int w), some (.int g), v5, some (.ref p2), v7] ∧ H5 p2 = some (.lst vs) ∧ vs.length = w ∧ Same H' H5) ⟨_, _, _, rfl, upd_same, by simp, f3 _ _⟩ (fun i σ' H5 ⟨_, _, _, _, _, _, s5⟩ => ⟨SqL.of (s5 _ _ ha), SqL.of (s5 _ _ he)⟩) ?_ ?_
    · rintro i _ H5 x y T hi ⟨vs, v5, v7, rfl, h5, hv, s5⟩ hx hy hT
      obtain ⟨c, hc, rfl⟩ : ∃ c, L[i]? = some c ∧ x = .int (c : Int) := by
        unfold ofN at hx
        rw [List.map_map, List.getElem?_map, List.getElem?_eq_getElem hi] at hx
        exact ⟨L[i], List.getElem?_eq_getElem hi, (Option.some.inj hx).symm⟩
      obtain ⟨z, hz, rfl⟩ : ∃ z, F[i]? = some z ∧ y = .int z := by
        rw [List.getElem?_map] at hy
        cases e : F[i]? with
        | none => rw [e] at hy; cases hy
        | some z => rw [e] at hy; exact ⟨z, rfl, (Option.some.inj hy).symm⟩
      have cw := hw c (List.mem_of_getElem? hc)
      walk_at "rd"
      refine rd_fdivW ⟨g0, g9⟩ ?_
      walk_at "rd"
      refine rd_setL (up_old hT h5) (ix_nat (n := vs.length) (j := c) (by omega)) rfl ?_
      refine ⟨_, _, _, rfl, upd_same, by rw [List.length_set]; exact hv, fun b o eb => ?_⟩
      rw [upd_ne (fun z => by rw [z, f2] at eb; cases eb)]
      exact up_old hT (s5 _ _ eb)
    · rintro _ H5 ⟨vs, v5, v7, rfl, h5, hv, s5⟩
      walk_at "rd"
      refine ⟨p2, _, rfl, Or.inl ⟨SqL.of h5, fun l hl2 => ?_⟩⟩
      exact k _ _ (fun b o eb => up_old hl2 (s5 _ _ eb))
end
section
variable {P : Program} {w : World} {K : PySem.W.Frag} {mg : Str → Option Value} {base : Heap}
theorem ok_least_longer (B : Bi mg) (D : DefAt K mg "_least_longer" s_least_longer ["digits"])  : CalA P w K mg base "_least_longer" 1 ["digits"] (spLong) := by
  refine cala_of D sc_least_longer (fun vs H Q E h => ?_) (fun f cdv A outer s H vs Q E hr h => ?_)
  · obtain ⟨n, rfl, _⟩ := h; rfl
  · have hu := hr.units
    skip
    refine ⟨_, (pss_cons (ps_set (i := 1) sc_least_longer.nd rfl (by first | exact Or.inl rfl | exact Or.inr rfl) pe_int)
        (pss_cons (ps_for PassesOwn.never (by rfl) (pi_range1 (by rfl) B.b_range (pa_cons (pe_op op_fdivW (pv 0) pe_int) pa_nil)) (pg_name (i := 2) sc_least_longer.nd rfl (by first | exact Or.inl rfl | exact Or.inr rfl)) (pss_one (ps_set (i := 1) sc_least_longer.nd rfl (by first | exact Or.inl rfl | exact Or.inr rfl) (pe_op op_mulW (pv 1) (pe_op op_pow pe_int pe_int)))))
        (pss_cons (ps_for PassesOwn.never (by rfl) (pi_range1 (by rfl) B.b_range (pa_cons (pe_op op_sub (pv 0) (pe_op op_mul (pe_op op_fdivW (pv 0) pe_int) pe_int)) pa_nil)) (pg_name (i := 2) sc_least_longer.nd rfl (by first | exact Or.inl rfl | exact Or.inr rfl)) (pss_one (ps_set (i := 1) sc_least_longer.nd rfl (by first | exact Or.inl rfl | exact Or.inr rfl) (pe_op op_mulW (pv 1) pe_int))))
        (pss_one (ps_ret (pv 1)))))), ?_⟩
    obtain ⟨n, rfl, hn, k⟩ := h
    refine rd_at [some (.int n), none, none] rfl ?_
    walk_at "rd"
    refine ⟨_, rfl, by omega, by omega, ?_⟩
    have e1 : ((n : Int) / 20).toNat = n / 20 := by omega
    rw [e1]
    refine for_rng (fun i σ' H' => ∃ v, σ' = [some (.int n), some (.int (10 ^ (20 * i))), v] ∧ H' = H) ⟨none, rfl, rfl⟩ ?_ ?_
    · rintro i σ' H' hi ⟨v, rfl, rfl⟩
      walk_at "rd"
      refine rd_mulW (by simpa using pow10_mul (a := 20 * i) (b := 20) (by omega)) ?_
      walk_at "rd"
      refine ⟨some (.int (0 + (i : Int))), ?_, rfl⟩
      have e : (10 : Int) ^ (20 * i) * 10 ^ (20 : Int).toNat = 10 ^ (20 * (i + 1)) := by
        rw [show (20 : Int).toNat = 20 from rfl, ← Int.pow_add]
        rfl
      rw [e]
      rfl
    rintro σ' H' ⟨v, rfl, rfl⟩
    walk_at "rd"
    refine ⟨_, rfl, by omega, by omega, ?_⟩
    have e2 : ((n : Int) - (n : Int) / 20 * 20).toNat = n % 20 := by omega
    rw [e2]
    refine for_rng (fun i σ'' H'' => ∃ v, σ'' = [some (.int n), some (.int (10 ^ (20 * (n / 20) + i))), v] ∧ H'' = H') ⟨_, rfl, rfl⟩ ?_ ?_
    · rintro i σ'' H'' hi ⟨v, rfl, rfl⟩
      walk_at "rd"
      refine rd_mulW (by simpa using pow10_mul (a := 20 * (n / 20) + i) (b := 1) (by omega)) ?_
      walk_at "rd"
      refine ⟨some (.int (0 + (i : Int))), ?_, rfl⟩
      have e : (10 : Int) ^ (20 * (n / 20) + i) * 10 = 10 ^ (20 * (n / 20) + (i + 1)) := (Int.pow_succ _ _).symm
      rw [e]
      rfl
    rintro σ'' H'' ⟨v, rfl, rfl⟩
    walk_at "rd"
    have e3 : 20 * (n / 20) + n % 20 = n := by omega
    rw [e3]
    exact k
end
section
variable {P : Program} {w : World} {K : PySem.W.Frag} {mg : Str → Option Value} {base : Heap}
theorem ok_width_of (B : Bi mg) (D : DefAt K mg "_width_of" s_width_of ["rows"])  : CalA P w K mg base "_width_of" 1 ["rows"] (spWidthD) := by
  refine cala_of D sc_width_of (fun vs H Q E h => ?_) (fun f cdv A outer s H vs Q E hr h => ?_)
  · obtain ⟨v, d, rfl, _⟩ := h; rfl
  · have hu := hr.units
    skip
    refine ⟨_, (pss_cons (ps_if (pt_cmpR op_eq (pe_callB (r := rLenQ K) (by exact q_lenQ) (by rfl) B.b_len (by decide +kernel) (pa_cons (pv 0) pa_nil)) pe_int (nomark _)) (pss_one (ps_ret pe_int)) pss_nil)
        (pss_one (ps_ret (pe_callB (r := rLenQ K) (by exact q_lenQ) (by rfl) B.b_len (by decide +kernel) (pa_cons (pe_ix (r := rIxT K) (by exact ix_tup) (pv 0) pe_int (fun _ _ => rfl)) pa_nil))))), ?_⟩
    obtain ⟨v, d, rfl, hv, hd, k⟩ := h
    refine rd_at [some v] rfl ?_
    obtain ⟨a, xs, ds, rfl, rfl, e, t⟩ := hv.rows hd
    have hl := t.len
    walk_at "rd"
    refine rd_lenT (SqT.of e) ?_
    walk_at "rd"
    rw [hl]
    refine rd_ite (fun h0 => ?_) (fun h0 => ?_)
    · walk_at "rd"
      cases ds with
      | nil => exact k
      | cons d r => exact absurd h0 (by simp; omega)
    · walk_at "rd"
      cases t with
      | nil => exact absurd rfl h0
      | @cons v vs d r hv0 t =>
        have hr : dRow d = true := by
          have e1 : (decide ((d :: r).length ≤ 60) && (d :: r).all fun r' => dRow r' && decide (dLen r' = dLen ((d :: r).headD .none))) = true := hd
          rw [Bool.and_eq_true, List.all_cons, Bool.and_eq_true, Bool.and_eq_true] at e1
          exact e1.2.1.1
        obtain ⟨r1, ys, es, rfl, rfl, er, tr⟩ := hv0.row hr
        refine rd_ixT (v := .ref r1) (SqT.of e) (at_nat rfl) ?_
        walk_at "rd"
        refine rd_lenT (SqT.of er) ?_
        rw [tr.len]
        exact k
end
section
variable {P : Program} {w : World} {K : PySem.W.Frag} {mg : Str → Option Value} {base : Heap}
theorem ok_is_symmetric (B : Bi mg) (D : DefAt K mg "_is_symmetric" s_is_symmetric ["table"])  : CalA P w K mg base "_is_symmetric" 1 ["table"] (spSym) := by
  refine cala_of D sc_is_symmetric (fun vs H Q E h => ?_) (fun f cdv A outer s H vs Q E hr h => ?_)
  · obtain ⟨v, rfl, _⟩ := h; rfl
  · have hu := hr.units
    skip
    refine ⟨_, (pss_cons (ps_set (i := 1) sc_is_symmetric.nd rfl (by first | exact Or.inl rfl | exact Or.inr rfl) (pe_callTy q_range1 (by rfl) B.b_range (by decide +kernel) (pa_cons (pe_callB (r := rLenQ K) (by exact q_lenQ) (by rfl) B.b_len (by decide +kernel) (pa_cons (pv 0) pa_nil)) pa_nil)))
        (pss_one (ps_ret (pe_callB (r := rAll K) (by exact (cr_all rfl)) (by rfl) B.b_all (by decide +kernel) (pa_cons (pe_lc2 (own := [("one", 2), ("other", 3)]) (vs1 := [3]) (g := gName 2) (g1 := gName 3) (tt := tYes) (tt1 := tYes) (by rfl) sc_is_symmetric.nd (pi_rngv (pv 1)) (blkOk_by (own := [("one", 2), ("other", 3)]) (N := ["table", "indices", "one", "other"]) (sc := defScope s_is_symmetric) (by decide +kernel)) (by decide) (fun _ _ _ _ _ => (pg_name (i := 2) sc_is_symmetric.nd rfl (by first | exact Or.inl rfl | exact Or.inr rfl))) (fun _ _ _ _ _ => pts_nil) (fun _ _ _ _ _ => (pi_rngv (pv 1))) (fun _ _ _ _ _ => (pg_name (i := 3) sc_is_symmetric.nd rfl (by first | exact Or.inl rfl | exact Or.inr rfl))) (fun _ _ _ _ _ => pts_nil) (fun _ _ _ _ _ => (pe_cmpR op_eq (pe_ix (r := rIxT K) (by exact ix_tup) (pe_ix (r := rIxT K) (by exact ix_tup) (pv 0) (pv 2) (fun _ _ => rfl)) (pv 3) (fun _ _ => rfl)) (pe_ix (r := rIxT K) (by exact ix_tup) (pe_ix (r := rIxT K) (by exact ix_tup) (pv 0) (pv 3) (fun _ _ => rfl)) (pv 2) (fun _ _ => rfl)) (nomark _)))) pa_nil))))), ?_⟩
    obtain ⟨v, rfl, h⟩ := h
    obtain ⟨p, n, M, rfl, ⟨rs, h1, h2, h3⟩, hlen, hsq, hn, k⟩ : ∃ (p : Addr) (n : Nat) (M : List (List Int)), v = .ref p ∧ TT H p M ∧ M.length = n ∧ (∀ r ∈ M, r.length = n) ∧ n ≤ 5 ∧ ∀ H', Same H H' → Q (.bl (((List.range n).flatMap fun i => (List.range n).map fun j => decide (at2 M i j = at2 M j i)).all id)) H' := by
      rcases h with ⟨c, hv, c1, c2, k⟩ | ⟨x, hv, k⟩
      · obtain ⟨p, rfl, ht⟩ := hv.tt
        refine ⟨p, 2, _, rfl, ht, rfl, (fun r hr => by simp at hr; rcases hr with rfl | rfl <;> rfl), by decide, fun H' s' => ?_⟩
        have k1 := k H' s'
        have e : ((List.range 2).flatMap fun i => (List.range 2).map fun j => decide (at2 [[1, 2], [c, 1]] i j = at2 [[1, 2], [c, 1]] j i)).all id = false := by
          show (decide ((1 : Int) = 1) && (decide ((2 : Int) = c) && (decide (c = 2) && (decide ((1 : Int) = 1) && true)))) = false
          rw [decide_eq_false (show ¬ (2 : Int) = c by omega), Bool.false_and, Bool.and_false]
        rw [e]
        exact k1
      · obtain ⟨p, rfl, ht⟩ := hv.tt
        refine ⟨p, 1, _, rfl, ht, rfl, (fun r hr => by simp at hr; rw [hr]; rfl), by decide, fun H' s' => ?_⟩
        have k1 := k H' s'
        have e : ((List.range 1).flatMap fun i => (List.range 1).map fun j => decide (at2 [[x]] i j = at2 [[x]] j i)).all id = true := by
          show (decide (x = x) && true) = true
          rw [decide_eq_true rfl]
          rfl
        rw [e]
        exact k1
    refine rd_at [some (.ref p), none, none, none] rfl ?_
    walk_at "rd"
    refine rd_lenT (SqT.of h1) ?_
    walk_at "rd"
    refine ⟨_, rfl, fun p1 hp1 => ?_⟩
    walk_at "rd"
    rw [List.length_map]
    have hrl : rs.length = n := by omega
    have s1 : Same H (upd H p1 (.rng 0 (rs.length : Int))) := same_up hp1 (Same.refl H)
    have wk : Wk (Itr 0 (rs.length : Int).toNat) n (fun H' => H' = H' ∧ True) (fun i => .int (0 + (i : Int))) := by
      have e : (rs.length : Int).toNat = n := by omega
      rw [e]
      exact ⟨fun _ _ => Nat.le_refl _, fun _ _ _ h => h, fun _ _ _ _ _ _ h => h⟩
    have hget : ∀ i, i < n → ∃ r row, rs[i]? = some r ∧ M[i]? = some row ∧ row.length = n ∧ H r = some (.tup (row.map V.int)) := fun i hi => by
      have hM : i < M.length := by omega
      exact ⟨_, _, List.getElem?_eq_getElem (by omega : i < rs.length), List.getElem?_eq_getElem hM, hsq _ (List.getElem_mem hM), h3 i _ _ (List.getElem?_eq_getElem (by omega)) (List.getElem?_eq_getElem hM)⟩
    refine lc2_same (a := 2) (b := 3) (by decide) (n := n) (by omega) (fun _ => n) (fun _ _ => by omega) (fun i j => .bl (decide (at2 M i j = at2 M j i))) (fun i => .int (0 + (i : Int))) (fun _ i => .int (0 + (i : Int))) (fun H' => H' = H' ∧ True) (fun _ H' => H' = H' ∧ True) (fun R hR => ?_) (fun _ _ => ⟨rfl, trivial⟩) (fun _ _ _ _ => ⟨rfl, trivial⟩) (fun i hi H' s' R hR => ?_) (fun i j hi hj H' s' R hR => ?_) (fun H' E s' hE => ?_)
    · unfold iRngV
      refine rd_var (v := .ref p1) rfl ?_
      exact ⟨p1, _, rfl, upd_same, by omega, by omega, hR _ _ (Same.refl _) wk⟩
    · unfold iRngV
      refine rd_var (v := .ref p1) rfl ?_
      exact ⟨p1, _, rfl, s' _ _ upd_same, by omega, by omega, hR _ _ (Same.refl _) wk⟩
    · obtain ⟨r, row, e1, e2, e3, e4⟩ := hget i hi
      obtain ⟨r', row', f1, f2, f3, f4⟩ := hget j hj
      have sw := s1.trans s'
      rw [Int.zero_add, Int.zero_add]
      walk_at "rd"
      refine rd_ixT (v := .ref r) (SqT.of (sw _ _ h1)) (ref_at e1) ?_
      walk_at "rd"
      refine rd_ixT (v := .int (row.getD j 0)) (SqT.of (sw _ _ e4)) (at_nat (by rw [List.getElem?_map, List.getElem?_eq_getElem (by omega), List.getD_eq_getElem?_getD, List.getElem?_eq_getElem (by omega)]; rfl)) ?_
      walk_at "rd"
      refine rd_ixT (v := .ref r') (SqT.of (sw _ _ h1)) (ref_at f1) ?_
      walk_at "rd"
      refine rd_ixT (v := .int (row'.getD i 0)) (SqT.of (sw _ _ f4)) (at_nat (by rw [List.getElem?_map, List.getElem?_eq_getElem (by omega), List.getD_eq_getElem?_getD, List.getElem?_eq_getElem (by omega)]; rfl)) ?_
      walk_at "rd"
      have z : decide (at2 M i j = at2 M j i) = decide (row.getD j 0 = row'.getD i 0) := by
        unfold at2
        rw [List.getD_eq_getElem?_getD (l := M), List.getD_eq_getElem?_getD (l := M), e2, f2]
        rfl
      have hR2 := hR _ (Same.refl _)
      rw [z] at hR2
      exact hR2
    · walk_at "rd"
      refine rd_all (bs := (List.range n).flatMap fun i => (List.range n).map fun j => decide (at2 M i j = at2 M j i)) (SqL.of (by rw [hE, List.map_flatMap]; simp only [List.map_map]; rfl)) ?_
      exact k H' (s1.trans s')
end
section
variable {P : Program} {w : World} {K : PySem.W.Frag} {mg : Str → Option Value} {base : Heap}
theorem ok_least_solution (B : Bi mg) (D : DefAt K mg "_least_solution" s_least_solution ["leads", "ends", "scale", "width"])  : CalA P w K mg base "_least_solution" 1 ["leads", "ends", "scale", "width"] (spLeast) := by
  refine cala_of D sc_least_solution (fun vs H Q E h => ?_) (fun f cdv A outer s H vs Q E hr h => ?_)
  · obtain ⟨a, e, L, F, s, w, rfl, _⟩ := h; rfl
  · have hu := hr.units
    skip
    refine ⟨_, (pss_cons (ps_set (i := 4) sc_least_solution.nd rfl (by first | exact Or.inl rfl | exact Or.inr rfl) (pv 2))
        (pss_cons (ps_for PassesOwn.never (by rfl) (pi_list (pv 1)) (pg_name (i := 5) sc_least_solution.nd rfl (by first | exact Or.inl rfl | exact Or.inr rfl)) (pss_one (ps_set (i := 4) sc_least_solution.nd rfl (by first | exact Or.inl rfl | exact Or.inr rfl) (pe_callBfun cr_gcd (by rfl) B.m_gcd (pa_cons (pv 4) (pa_cons (pv 5) pa_nil))))))
        (pss_cons (ps_set (i := 6) sc_least_solution.nd rfl (by first | exact Or.inl rfl | exact Or.inr rfl) (pe_op op_rep (pe_lst (pa_cons pe_int pa_nil)) (pv 3)))
        (pss_cons (ps_for PassesOwn.never (by rfl) (pi_zipM (by rfl) B.b_zip (pa_cons (pv 0) (pa_cons (pv 1) pa_nil))) (pg_tup (by rfl) (pgs_cons (pg_name (i := 7) sc_least_solution.nd rfl (by first | exact Or.inl rfl | exact Or.inr rfl)) (pgs_cons (pg_name (i := 5) sc_least_solution.nd rfl (by first | exact Or.inl rfl | exact Or.inr rfl)) pgs_nil))) (pss_one (ps_asg (pe_op op_fdivW (pv 5) (pv 4)) (pg_sub (pv 6) (pv 7) set_list))))
        (pss_one (ps_ret (pe_tup (pa_cons (pe_callTy (r := rTupOf K) (by exact q_tupOf) (by rfl) B.b_tuple (by decide +kernel) (pa_cons (pv 6) pa_nil)) (pa_cons (pe_op op_fdivW (pv 2) (pv 4)) pa_nil))))))))), ?_⟩
    obtain ⟨a, e, L, F, s, w, rfl, ha, he, hl, hw, s0, sb, w28, k⟩ := h
    refine rd_at [some (.ref a), some (.ref e), some (.int s), some (.int w), none, none, none, none] rfl ?_
    walk_at "rd"
    refine ⟨⟨_, SqL.of he⟩, for_list (K := K) (a := e) (xs := F.map V.int) (fun i σ' H' => ∃ (g : Int) (v5 : Option V), σ' = [some (.ref a), some (.ref e), some (.int s), some (.int w), some (.int g), v5, none, none] ∧ 0 < g ∧ g ≤ s ∧ H' = H) ⟨s, none, rfl, s0, Int.le_refl _, rfl⟩ (fun i σ' H' _ ⟨_, _, _, _, _, e5⟩ => by rw [e5]; exact SqL.of he) ?_ ?_⟩
    · rintro i x _ H' hxi ⟨g, v5, rfl, g0, gs, rfl⟩
      obtain ⟨z, hz, rfl⟩ : ∃ z, F[i]? = some z ∧ x = .int z := by
        rw [List.getElem?_map] at hxi
        cases e : F[i]? with
        | none => rw [e] at hxi; cases hxi
        | some z => rw [e] at hxi; exact ⟨z, rfl, (Option.some.inj hxi).symm⟩
      walk_at "rd"
      refine ⟨_, _, rfl, ?_⟩
      walk_at "rd"
      have h1 : 0 < Nat.gcd g.natAbs z.natAbs := Nat.gcd_pos_of_pos_left _ (by omega)
      have h2 : Nat.gcd g.natAbs z.natAbs ≤ g.natAbs := Nat.gcd_le_left _ (by omega)
      exact ⟨_, _, rfl, by omega, by omega, rfl⟩
    rintro _ H' ⟨g, v5, rfl, g0, gs, rfl⟩
    have g9 : g.natAbs.log2 < 9000 := log9 (by omega) (by omega)
    walk_at "rd"
    intro p1 hp1
    walk_at "rd"
    refine ⟨p1, (w : Int), [.int 0], rfl, rfl, upd_same, by omega, by omega, ?_, fun p2 hp2 => ?_⟩
    · exact Nat.le_trans (show 1 * (w : Int).toNat ≤ 30 by omega) (by decide)
    walk_at "rd"
    refine rd_zipM ?_
    walk_at "rd"
    have o2 : Same H' (upd (upd H' p1 (.lst [.int 0])) p2 (.lst (List.replicate (w : Int).toNat [V.int 0]).flatten)) := fun b o e => up_old hp2 (up_old hp1 e)
    have f2 : H' p2 = none := by
      cases e : H' p2 with
      | none => rfl
      | some o => rw [up_old hp1 e] at hp2; cases hp2
    refine ⟨true, true, a, e, _, _, rfl, ⟨SqL.of (o2 _ _ ha), SqL.of (o2 _ _ he)⟩, ?_⟩
    refine for_zipM (n := L.length) (by unfold ofN; simp) (by rw [List.length_map, hl]) (fun i σ' H5 => ∃ (vs : List V) (v5 v7 : Option V), σ' = [some (.ref a), some (.ref e), some (.int s), some (.int w), some (.int g), v5, some (.ref p2), v7] ∧ H5 p2 = some (.lst vs) ∧ vs.length = w ∧ Same H' H5) ⟨_, _, _, rfl, upd_same, by simp, o2⟩ (fun i σ' H5 ⟨_, _, _, _, _, _, s5⟩ => ⟨SqL.of (s5 _ _ ha), SqL.of (s5 _ _ he)⟩) ?_ ?_
    · rintro i _ H5 x y T hi ⟨vs, v5, v7, rfl, h5, hv, s5⟩ hx hy hT
      obtain ⟨c, hc, rfl⟩ : ∃ c, L[i]? = some c ∧ x = .int (c : Int) := by
        unfold ofN at hx
        rw [List.map_map, List.getElem?_map, List.getElem?_eq_getElem hi] at hx
        exact ⟨L[i], List.getElem?_eq_getElem hi, (Option.some.inj hx).symm⟩
      obtain ⟨z, hz, rfl⟩ : ∃ z, F[i]? = some z ∧ y = .int z := by
        rw [List.getElem?_map] at hy
        cases e : F[i]? with
        | none => rw [e] at hy; cases hy
        | some z => rw [e] at hy; exact ⟨z, rfl, (Option.some.inj hy).symm⟩
      have cw := hw c (List.mem_of_getElem? hc)
      walk_at "rd"
      refine rd_fdivW ⟨g0, g9⟩ ?_
      walk_at "rd"
      refine rd_setL (up_old hT h5) (ix_nat (n := vs.length) (j := c) (by omega)) rfl ?_
      refine ⟨_, _, _, rfl, upd_same, by rw [List.length_set]; exact hv, fun b o eb => ?_⟩
      rw [upd_ne (fun z => by rw [z, f2] at eb; cases eb)]
      exact up_old hT (s5 _ _ eb)
    · rintro _ H5 ⟨vs, v5, v7, rfl, h5, hv, s5⟩
      walk_at "rd"
      refine ⟨p2, _, rfl, Or.inl ⟨SqL.of h5, fun l hl2 => ?_⟩⟩
      walk_at "rd"
      refine rd_fdivW ⟨g0, g9⟩ ?_
      walk_at "rd"
      intro r hr2
      exact k _ _ (fun b o eb => up_old hr2 (up_old hl2 (s5 _ _ eb)))
end
section
variable {P : Program} {w : World} {K : PySem.W.Frag} {mg : Str → Option Value} {base : Heap}
theorem ok_law_bag (B : Bi mg) (D : DefAt K mg "_law_bag" s_law_bag ["_law_script", "_law_at"])  : Cal P w K mg base "_law_bag" 1 ["_law_script", "_law_at"] (spBag K) := by
  refine cal_of D sc_law_bag (fun vs H Q E h => ?_) (fun f cdv A outer s H vs Q E hq hr h => ?_)
  · obtain ⟨a, ns, i, rfl, _⟩ := h; rfl
  · have hu := hr.units
    replace hq := Quiet.deeper hq (envOfC "_law_bag" (defScope s_law_bag) s.heap.objs.size f cdv)
    skip
    refine ⟨_, (pss_cons (ps_set (i := 2) sc_law_bag.nd rfl (by first | exact Or.inl rfl | exact Or.inr rfl) (pe_ifExp (pt_cmpR op_lt (pv 1) (pe_callB (r := rLenQ K) (by exact q_lenQ) (by rfl) B.b_len (by decide +kernel) (pa_cons (pv 0) pa_nil)) (nomark _)) (pe_ix (r := rIxL K) (by exact ix_list) (pv 0) (pv 1) (fun _ _ => rfl)) (pe_op op_add (pe_op op_add (pe_callB (r := rSum K) (by exact (cr_sum rfl)) (by rfl) B.b_sum (by decide +kernel) (pa_cons (pe_slice (r := rSlL K) (by exact sl_list) (pv 0) po_none (po_some pe_int)) pa_nil)) (pe_op op_mul pe_int (pv 1))) pe_int)))
        (pss_cons (ps_set (i := 3) sc_law_bag.nd rfl (by first | exact Or.inl rfl | exact Or.inr rfl) (pe_op op_mod (pe_callTy q_int (by rfl) B.b_int (by decide +kernel) (pa_cons (pe_callB q_abs (by rfl) B.b_abs (by decide +kernel) (pa_cons (pv 2) pa_nil)) pa_nil)) (pe_op op_powW (pe_op op_pow pe_int pe_int) pe_int)))
        (pss_cons (ps_set (i := 4) sc_law_bag.nd rfl (by first | exact Or.inl rfl | exact Or.inr rfl) (pe_op op_add (pe_op op_add (pe_op op_add (pe_op op_mul (pe_op op_mod (pe_callTy q_int (by rfl) B.b_int (by decide +kernel) (pa_cons (pv 3) pa_nil)) pe_int) pe_int) (pe_op op_mul pe_int (pv 1))) (pe_op op_mul pe_int (pe_callTy q_int (by rfl) B.b_int (by decide +kernel) (pa_cons (pe_cmpR op_lt (pv 2) pe_int (nomark _)) pa_nil)))) pe_int))
        (pss_one (ps_ret (pe_lst (pa_cons (pe_callB (q_max2 rfl) (by rfl) B.b_max (by decide +kernel) (pa_cons pe_int (pa_cons (pe_op op_sub (pv 3) (pe_op op_pow pe_int pe_int)) pa_nil))) (pa_cons (pe_op op_mod (pe_callTy q_int (by rfl) B.b_int (by decide +kernel) (pa_cons (pv 4) pa_nil)) pe_int) (pa_cons pe_int pa_nil))))))))), ?_⟩
    obtain ⟨a, ns, i, rfl, hS, k⟩ := h
    refine rd_at [some (.ref a), some (.int i), none, none, none] rfl ?_
    refine rd_seq (rd_asg ?_)
    refine rd_with (fun v H1 => ∃ z : Int, v = .int z ∧ Same H H1) (fun Q' k' => ?_) ?_
    · walk_at "rd"
      refine rd_lenL hS ?_
      walk_at "rd"
      refine rd_ite (fun hi => ?_) (fun hi => ?_)
      · rw [List.length_map] at hi
        have hi2 : i < ns.length := by omega
        walk_at "rd"
        refine rd_ixL hS (at_nat (j := i) (v := .int ns[i]) (by rw [List.getElem?_map, List.getElem?_eq_getElem hi2]; rfl)) ?_
        exact k' _ _ ⟨_, rfl, Same.refl H⟩
      · walk_at "rd"
        refine rd_slL hS (fun p hp => ?_)
        obtain ⟨ms, hms⟩ := cut_ints ns none (some 1)
        rw [hms]
        walk_at "rd"
        refine rd_sum (SqL.of upd_same) ?_
        walk_at "rd"
        exact k' _ _ ⟨_, rfl, fun b o e => up_old hp e⟩
    rintro v H1 ⟨z, rfl, hs⟩
    walk_at "rd"
    refine rd_powW ⟨by decide, by decide +kernel⟩ ?_
    refine rd_mod (by decide +kernel) ?_
    have g1 := Int.emod_nonneg (if z < 0 then -z else z) (show ((10 : Int) ^ (47 : Int).toNat) ^ (13 : Int).toNat ≠ 0 by decide +kernel)
    generalize (if z < 0 then -z else z) % ((10 : Int) ^ (47 : Int).toNat) ^ (13 : Int).toNat = g at g1
    walk_at "rd"
    have m1 := Int.emod_nonneg g (show (2305843009213693669 : Int) ≠ 0 by decide)
    have m2 := Int.emod_lt_of_pos g (show (0 : Int) < 2305843009213693669 by decide)
    generalize g % 2305843009213693669 = m at m1 m2
    walk_at "rd"
    intro p hp
    refine k p _ (hs.free hp) (fun b o e => up_old hp (hs b o e)) ⟨_, _, _, upd_same, ?_, Int.emod_nonneg _ (by decide), by decide⟩
    split <;> omega
end
section
variable {P : Program} {w : World} {K : PySem.W.Frag} {mg : Str → Option Value} {base : Heap}
theorem ok_law_draw (B : Bi mg) (D : DefAt K mg "_law_draw" s_law_draw ["_law_bag_here", "_law_total"])  : CalA P w K mg base "_law_draw" 1 ["_law_bag_here", "_law_total"] (spDraw) := by
  refine cala_of D sc_law_draw (fun vs H Q E h => ?_) (fun f cdv A outer s H vs Q E hr h => ?_)
  · obtain ⟨a, n, rfl, _⟩ := h; rfl
  · have hu := hr.units
    skip
    refine ⟨_, (pss_cons (ps_if (pt_cmpR op_gt (pe_ix (r := rIxL K) (by exact ix_list) (pv 0) pe_int (fun _ _ => rfl)) pe_int (nomark _)) (pss_cons (ps_set (i := 2) sc_law_draw.nd rfl (by first | exact Or.inl rfl | exact Or.inr rfl) (pe_op op_mod (pe_callTy q_int (by rfl) B.b_int (by decide +kernel) (pa_cons (pe_ix (r := rIxL K) (by exact ix_list) (pv 0) pe_int (fun _ _ => rfl)) pa_nil)) (pv 1)))
        (pss_cons (ps_asg (pe_op op_fdivW (pe_ix (r := rIxL K) (by exact ix_list) (pv 0) pe_int (fun _ _ => rfl)) (pv 1)) (pg_sub (pv 0) pe_int set_list))
        (pss_one (ps_ret (pv 2))))) pss_nil)
        (pss_cons (ps_asg (pe_op op_add (pe_ix (r := rIxL K) (by exact ix_list) (pv 0) pe_int (fun _ _ => rfl)) pe_int) (pg_sub (pv 0) pe_int set_list))
        (pss_cons (ps_set (i := 3) sc_law_draw.nd rfl (by first | exact Or.inl rfl | exact Or.inr rfl) (pe_op op_mod (pe_callTy q_int (by rfl) B.b_int (by decide +kernel) (pa_cons (pe_op op_add (pe_ix (r := rIxL K) (by exact ix_list) (pv 0) pe_int (fun _ _ => rfl)) (pe_op op_mul pe_int (pe_ix (r := rIxL K) (by exact ix_list) (pv 0) pe_int (fun _ _ => rfl)))) pa_nil)) pe_int))
        (pss_cons (ps_set (i := 4) sc_law_draw.nd rfl (by first | exact Or.inl rfl | exact Or.inr rfl) (pe_op op_add (pe_op op_mul (pe_op op_mod (pe_callTy q_int (by rfl) B.b_int (by decide +kernel) (pa_cons (pe_op op_mul (pv 3) (pv 3)) pa_nil)) pe_int) (pv 3)) (pe_op op_mul pe_int (pe_ix (r := rIxL K) (by exact ix_list) (pv 0) pe_int (fun _ _ => rfl)))))
        (pss_one (ps_ret (pe_op op_mod (pe_callTy q_int (by rfl) B.b_int (by decide +kernel) (pa_cons (pe_op op_fdivW (pe_op op_mod (pe_callTy q_int (by rfl) B.b_int (by decide +kernel) (pa_cons (pv 4) pa_nil)) pe_int) pe_int) pa_nil)) (pv 1)))))))), ?_⟩
    obtain ⟨a, n, rfl, ⟨g, m, c, ha, hg, hm, hc⟩, h1, h2, k⟩ := h
    refine rd_at [some (.ref a), some (.int n), none, none, none] rfl ?_
    have n0 : (0 : Int) < n := by omega
    walk_at "rd"
    refine rd_ixL (SqL.of ha) (at_nat (j := 0) rfl) ?_
    walk_at "rd"
    refine rd_ite (fun h0 => ?_) (fun h0 => ?_)
    · walk_at "rd"
      refine rd_ixL (SqL.of ha) (at_nat (j := 0) rfl) ?_
      walk_at "rd"
      refine rd_mod n0 ?_
      walk_at "rd"
      refine rd_ixL (SqL.of ha) (at_nat (j := 0) rfl) ?_
      walk_at "rd"
      refine rd_fdivW (wide_div n0 (b := 20) (by omega) (by decide) (by decide)) ?_
      walk_at "rd"
      refine rd_setL ha (j := 0) rfl rfl ?_
      walk_at "rd"
      refine k _ _ (Int.emod_nonneg _ (by omega)) (Int.emod_lt_of_pos _ n0) But.upd ⟨_, _, _, upd_same, Int.ediv_nonneg hg (by omega), hm, hc⟩
    · walk_at "rd"
      refine rd_ixL (SqL.of ha) (at_nat (j := 2) rfl) ?_
      walk_at "rd"
      refine rd_setL ha (j := 2) rfl rfl ?_
      walk_at "rd"
      have ha2 : upd H a (.lst [.int g, .int m, .int (c + 1)]) a = some (.lst [.int g, .int m, .int (c + 1)]) := upd_same
      refine rd_ixL (SqL.of ha2) (at_nat (j := 1) rfl) ?_
      walk_at "rd"
      refine rd_ixL (SqL.of ha2) (at_nat (j := 2) rfl) ?_
      walk_at "rd"
      have o1 := Int.emod_nonneg (m + 1048613 * (c + 1)) (show (2305843009213693951 : Int) ≠ 0 by decide)
      have o2 := Int.emod_lt_of_pos (m + 1048613 * (c + 1)) (show (0 : Int) < 2305843009213693951 by decide)
      generalize (m + 1048613 * (c + 1)) % 2305843009213693951 = one at o1 o2
      walk_at "rd"
      refine rd_ixL (SqL.of ha2) (at_nat (j := 2) rfl) ?_
      walk_at "rd"
      refine rd_mod n0 ?_
      exact k _ _ (Int.emod_nonneg _ (by omega)) (Int.emod_lt_of_pos _ n0) But.upd ⟨_, _, _, ha2, hg, hm, by omega⟩
end
section
variable {P : Program} {w : World} {K : PySem.W.Frag} {mg : Str → Option Value} {base : Heap}
theorem ok_law_great (B : Bi mg) (D : DefAt K mg "_law_great" s_law_great [])  : CalA P w K mg base "_law_great" 1 [] (spGreat) := by
  refine cala_of D sc_law_great (fun vs H Q E h => ?_) (fun f cdv A outer s H vs Q E hr h => ?_)
  · obtain ⟨rfl, _⟩ := h; rfl
  · have hu := hr.units
    skip
    refine ⟨_, (pss_cons (ps_set (i := 0) sc_law_great.nd rfl (by first | exact Or.inl rfl | exact Or.inr rfl) pe_int)
        (pss_cons (ps_for PassesOwn.never (by rfl) (pi_range1 (by rfl) B.b_range (pa_cons pe_int pa_nil)) (pg_name (i := 1) sc_law_great.nd rfl (by first | exact Or.inl rfl | exact Or.inr rfl)) (pss_one (ps_set (i := 0) sc_law_great.nd rfl (by first | exact Or.inl rfl | exact Or.inr rfl) (pe_op op_mulW (pv 0) (pe_op op_pow pe_int pe_int)))))
        (pss_one (ps_ret (pv 0))))), ?_⟩
    obtain ⟨rfl, k⟩ := h
    refine rd_at [none, none] rfl ?_
    walk_at "rd"
    refine ⟨_, rfl, by decide, by decide, ?_⟩
    refine for_rng (fun i σ' H' => ∃ v, σ' = [some (.int (10 ^ (50 * i))), v] ∧ H' = H) ⟨none, rfl, rfl⟩ ?_ ?_
    · rintro i σ' H' hi ⟨v, rfl, rfl⟩
      have hi' : i < 40 := hi
      walk_at "rd"
      refine rd_mulW (by simpa using pow10_mul (a := 50 * i) (b := 50) (by omega)) ?_
      walk_at "rd"
      refine ⟨some (.int (0 + (i : Int))), ?_, rfl⟩
      have e : (10 : Int) ^ (50 * i) * 10 ^ (50 : Int).toNat = 10 ^ (50 * (i + 1)) := by
        rw [show (50 : Int).toNat = 50 from rfl, ← Int.pow_add]
        rfl
      rw [e]
      rfl
    rintro σ' H' ⟨v, rfl, rfl⟩
    walk_at "rd"
    exact k
end
section
variable {P : Program} {w : World} {K : PySem.W.Frag} {mg : Str → Option Value} {base : Heap}
theorem ok_take_by_residues (B : Bi mg) (D : DefAt K mg "_take_by_residues" s_take_by_residues ["rows", "start", "leads", "taken", "most", "patience"]) (c_adds_lead : CalA P w K mg base "_adds_lead" 1 ["leads", "row"] (spAdds)) : CalA P w K mg base "_take_by_residues" 2 ["rows", "start", "leads", "taken", "most", "patience"] (spTake) := by
  refine cala_of D sc_take_by_residues (fun vs H Q E h => ?_) (fun f cdv A outer s H vs Q E hr h => ?_)
  · obtain ⟨p, l, t, q, r, rfl, _⟩ := h; rfl
  · have hu := hr.units
    have hr_adds_lead := hr.mono (show 1 ≤ 1 by decide)
    skip
    refine ⟨_, (pss_cons (ps_set (i := 6) sc_take_by_residues.nd rfl (by first | exact Or.inl rfl | exact Or.inr rfl) pe_int)
        (pss_cons (ps_for PassesOwn.never (by rfl) (pi_range2 (by rfl) B.b_range (pa_cons (pv 1) (pa_cons (pe_callB (r := rLenQ K) (by exact q_lenQ) (by rfl) B.b_len (by decide +kernel) (pa_cons (pv 0) pa_nil)) pa_nil))) (pg_name (i := 7) sc_take_by_residues.nd rfl (by first | exact Or.inl rfl | exact Or.inr rfl)) (pss_cons (ps_if (PW.pt (pw_or (pt_cmpR op_ge (pe_callB (r := rLenQ K) (by exact q_lenQ) (by rfl) B.b_len (by decide +kernel) (pa_cons (pv 3) pa_nil)) (pv 4) (nomark _)) (pw_or1 (pt_cmpR op_eq (pv 6) (pv 5) (nomark _))))) (pss_one (ps_ret (pv 7))) pss_nil)
        (pss_cons (ps_aug (i := 6) sc_take_by_residues.nd rfl (Or.inl rfl) pe_int iop_add)
        (pss_one (ps_if (pt_val (ac c_adds_lead hr_adds_lead (by rfl) (pa_cons (pv 2) (pa_cons (pe_ix (r := rIxL K) (by exact ix_list) (pv 0) (pv 7) (fun _ _ => rfl)) pa_nil)))) (pss_cons (ps_expr (pe_bm PySem.F.plainAttrs_list PySem.F.slot_list_append PySem.F.type_list_append mt_append (pv 3) (pa_cons (pe_ix (r := rIxL K) (by exact ix_list) (pv 0) (pv 7) (fun _ _ => rfl)) pa_nil)))
        (pss_one (ps_set (i := 6) sc_take_by_residues.nd rfl (by first | exact Or.inl rfl | exact Or.inr rfl) pe_int))) pss_nil)))))
        (pss_one (ps_ret (pe_callB (r := rLenQ K) (by exact q_lenQ) (by rfl) B.b_len (by decide +kernel) (pa_cons (pv 0) pa_nil)))))), ?_⟩
    obtain ⟨p, l, t, q, r, rfl, hp, hl, hq2, ht, nlt, n1, n2, k1, k2⟩ := h
    refine rd_at [some (.ref p), some (.int 0), some (.ref l), some (.ref t), some (.int 1), some (.int 1), none, none] rfl ?_
    have npl : p ≠ l := fun z => by
      rw [z, hl] at hp
      obtain ⟨j, hj⟩ : ∃ j, r.length = j + 1 := ⟨r.length - 1, by omega⟩
      rw [hj, List.replicate_succ] at hp
      cases hp
    have npt : p ≠ t := fun z => by
      rw [z, ht] at hp
      cases hp
    walk_at "rd"
    refine rd_rng2 ?_
    walk_at "rd"
    refine rd_lenL (SqL.of hp) ?_
    walk_at "rd"
    refine ⟨_, _, rfl, ⟨by decide, by decide, (show -(2 ^ 62) ≤ (1 : Int) by decide), (show (1 : Int) < 2 ^ 62 by decide)⟩, ?_⟩
    refine for_range (lo := (0 : Int)) (n := 1) (fun i σ' H' => ∃ v6 v7 : Option V, σ' = [some (.ref p), some (.int 0), some (.ref l), some (.ref t), some (.int 1), some (.int 1), v6, v7] ∧ ((i = 0 ∧ v6 = some (.int 0) ∧ H' = H) ∨ (i = 1 ∧ H' p = some (.lst [.ref q]) ∧ Q (.int 1) H'))) ⟨_, _, rfl, Or.inl ⟨rfl, rfl, rfl⟩⟩ ?_ ?_
    · rintro i _ H' hi ⟨v6, v7, rfl, (⟨rfl, rfl, rfl⟩ | ⟨z, _⟩)⟩
      · walk_at "rd"
        refine rd_lenL (SqL.of ht) ?_
        walk_at "rd"
        refine rd_ite (fun z => absurd (show (1 : Int) ≤ 0 from z) (by decide)) (fun _ => ?_)
        walk_at "rd"
        refine rd_ite (fun z => absurd z (by decide)) (fun _ => ?_)
        walk_at "rd"
        refine ⟨_, rfl, ?_⟩
        walk_at "rd"
        refine rd_ixL (v := .ref q) (SqL.of hp) (at_nat (j := 0) rfl) ?_
        walk_at "rd"
        refine ⟨l, q, r, rfl, hl, hq2, n1, n2, fun hx H1 b1 => ?_, fun hz H1 s1 => ?_⟩
        · walk_at "rd"
          refine rd_BM ?_
          walk_at "rd"
          have t1 := b1 _ _ nlt.symm ht
          refine rd_tyL t1 ?_
          walk_at "rd"
          refine rd_ixL (v := .ref q) (SqL.of (b1 _ _ npl hp)) (at_nat (j := 0) rfl) ?_
          walk_at "rd"
          refine rd_app t1 (by decide) ?_
          walk_at "rd"
          exact ⟨_, _, rfl, Or.inr ⟨rfl, up_oth npt (b1 _ _ npl hp), k1 hx _ (fun b o nb nt e => up_oth nt (b1 _ _ nb e)) upd_same⟩⟩
        · walk_at "rd"
          exact ⟨_, _, rfl, Or.inr ⟨rfl, s1 _ _ hp, k2 hz _ s1⟩⟩
      · omega
    · rintro _ H' ⟨v6, v7, rfl, (⟨z, _⟩ | ⟨_, h1, h2⟩)⟩
      · cases z
      · walk_at "rd"
        refine rd_lenL (SqL.of h1) ?_
        exact h2
end
section
variable {P : Program} {w : World} {K : PySem.W.Frag} {mg : Str → Option Value} {base : Heap}
theorem ok_clear_others (B : Bi mg) (D : DefAt K mg "_clear_others" s_clear_others ["left", "top", "column", "scale"]) (c_combined : CalA P w K mg base "_combined" 1 ["factor", "row", "lead", "above", "scale"] (spComb K)) : CalA P w K mg base "_clear_others" 2 ["left", "top", "column", "scale"] (spClear K) := by
  refine cala_of D sc_clear_others (fun vs H Q E h => ?_) (fun f cdv A outer s H vs Q E hr h => ?_)
  · obtain ⟨p, q, r, c, s, rfl, _⟩ := h; rfl
  · have hu := hr.units
    have hr_combined := hr.mono (show 1 ≤ 1 by decide)
    skip
    refine ⟨_, (pss_cons (ps_set (i := 4) sc_clear_others.nd rfl (by first | exact Or.inl rfl | exact Or.inr rfl) (pe_bm PySem.F.plainAttrs_list PySem.F.slot_list_pop PySem.F.type_list_pop mt_popAt (pe_ix (r := rIxL K) (by exact ix_list) (pv 0) (pv 1) (fun _ _ => rfl)) (pa_cons (pv 2) pa_nil)))
        (pss_cons (ps_for PassesOwn.never (by rfl) (pi_range1 (by rfl) B.b_range (pa_cons (pe_callB (r := rLenQ K) (by exact q_lenQ) (by rfl) B.b_len (by decide +kernel) (pa_cons (pv 0) pa_nil)) pa_nil)) (pg_name (i := 5) sc_clear_others.nd rfl (by first | exact Or.inl rfl | exact Or.inr rfl)) (pss_one (ps_if (pt_cmpR op_ne (pv 5) (pv 1) (nomark _)) (pss_cons (ps_set (i := 6) sc_clear_others.nd rfl (by first | exact Or.inl rfl | exact Or.inr rfl) (pe_bm PySem.F.plainAttrs_list PySem.F.slot_list_pop PySem.F.type_list_pop mt_popAt (pe_ix (r := rIxL K) (by exact ix_list) (pv 0) (pv 5) (fun _ _ => rfl)) (pa_cons (pv 2) pa_nil)))
        (pss_one (ps_if (PW.pt (pw_or (pt_cmpR op_ne (pv 6) pe_int (nomark _)) (pw_or1 (pt_cmpR (r := rNeD K) (by exact (op_neD hu)) (pv 4) (pv 3) (nomark _))))) (pss_one (ps_asg (ac c_combined hr_combined (by rfl) (pa_cons (pv 6) (pa_cons (pe_ix (r := rIxL K) (by exact ix_list) (pv 0) (pv 5) (fun _ _ => rfl)) (pa_cons (pv 4) (pa_cons (pe_ix (r := rIxL K) (by exact ix_list) (pv 0) (pv 1) (fun _ _ => rfl)) (pa_cons (pv 3) pa_nil)))))) (pg_sub (pv 0) (pv 5) set_list))) pss_nil))) pss_nil)))
        (pss_one (ps_ret (pv 4))))), ?_⟩
    obtain ⟨p, q, r, c, s, rfl, hp, hq2, hn, hc, hl, k⟩ := h
    refine rd_at [some (.ref p), some (.int 0), some (.int c), some (.int s), none, none, none] rfl ?_
    walk_at "rd"
    refine rd_BM ?_
    walk_at "rd"
    refine rd_ixL (v := .ref q) (SqL.of hp) (at_nat (j := 0) rfl) ?_
    refine rd_tyL hq2 ?_
    walk_at "rd"
    refine ⟨q, r.map V.int, (c : Int), c, V.int (r.getD c 0), rfl, rfl, hq2, by omega, by omega, seq_nat (by rw [List.length_map]; exact hc), int_q hc, ?_⟩
    walk_at "rd"
    rw [erase_map]
    refine rd_lenL (SqL.of (up_oth hn hp)) ?_
    walk_at "rd"
    refine ⟨1, rfl, by decide, by decide, ?_⟩
    refine for_rng (n := 1) (fun i σ' H' => (i = 0 ∨ i = 1) ∧ ∃ v, σ' = [some (.ref p), some (.int 0), some (.int c), some (.int s), some (.int (r.getD c 0)), v, none] ∧ H' = upd H q (.lst ((r.eraseIdx c).map V.int))) ⟨Or.inl rfl, none, rfl, rfl⟩ ?_ ?_
    · rintro i _ H' hi ⟨_, v, rfl, rfl⟩
      obtain rfl : i = 0 := by omega
      walk_at "rd"
      refine rd_iteN (fun z => absurd (by simp) z) (fun _ => ?_)
      walk_at "rd"
      exact ⟨Or.inr rfl, _, rfl, rfl⟩
    · rintro _ H' ⟨_, v, rfl, rfl⟩
      walk_at "rd"
      exact k
end
section
variable {P : Program} {w : World} {K : PySem.W.Frag} {mg : Str → Option Value} {base : Heap}
theorem ok_index_outside (B : Bi mg) (D : DefAt K mg "_index_outside" s_index_outside ["found", "rows"]) (c_is_sum_within : CalA P w K mg base "_is_sum_within" 1 ["found", "row"] (spIsSum)) : CalA P w K mg base "_index_outside" 2 ["found", "rows"] (spOutside) := by
  refine cala_of D sc_index_outside (fun vs H Q E h => ?_) (fun f cdv A outer s H vs Q E hr h => ?_)
  · obtain ⟨t, p, r, L, O, F, s, rfl, _⟩ := h; rfl
  · have hu := hr.units
    have hr_is_sum_within := hr.mono (show 1 ≤ 1 by decide)
    skip
    refine ⟨_, (pss_cons (ps_for PassesOwn.never (by rfl) (pi_range1 (by rfl) B.b_range (pa_cons (pe_callB (r := rLenQ K) (by exact q_lenQ) (by rfl) B.b_len (by decide +kernel) (pa_cons (pv 1) pa_nil)) pa_nil)) (pg_name (i := 2) sc_index_outside.nd rfl (by first | exact Or.inl rfl | exact Or.inr rfl)) (pss_one (ps_if (pt_not (pt_val (ac c_is_sum_within hr_is_sum_within (by rfl) (pa_cons (pv 0) (pa_cons (pe_ix (r := rIxL K) (by exact ix_list) (pv 1) (pv 2) (fun _ _ => rfl)) pa_nil))))) (pss_one (ps_ret (pv 2))) pss_nil)))
        (pss_one (ps_ret pe_non))), ?_⟩
    obtain ⟨t, p, r, L, O, F, s, rfl, hf, hfd, red, sum, w2, hb, k⟩ := h
    obtain ⟨q, h1, h2⟩ : ∃ q, H p = some (.lst [.ref q]) ∧ H q = some (.tup (r.map V.int)) := by
      rcases hf with ⟨e, _⟩ | ⟨_, hf⟩
      · cases e
      · exact hf
    refine rd_at [some (.ref t), some (.ref p), none] rfl ?_
    walk_at "rd"
    refine rd_lenL (SqL.of h1) ?_
    walk_at "rd"
    refine ⟨_, rfl, (show -(2 ^ 62) ≤ (1 : Int) by decide), (show (1 : Int) < 2 ^ 62 by decide), ?_⟩
    refine for_rng (n := 1) (fun i σ' H' => ∃ v2 : Option V, σ' = [some (.ref t), some (.ref p), v2] ∧ Same H H') ⟨none, rfl, Same.refl _⟩ ?_ ?_
    · rintro i _ H1 hi ⟨v2, rfl, s1⟩
      obtain rfl : i = 0 := Nat.lt_one_iff.mp hi
      walk_at "rd"
      refine rd_ixL (v := .ref q) (SqL.of (s1 _ _ h1)) (at_nat (j := 0) rfl) ?_
      walk_at "rd"
      refine ⟨t, q, r, L, O, F, s, rfl, s1 _ _ h2, hfd.same s1, red, sum, w2, hb, fun H2 s2 => ?_⟩
      walk_at "rd"
      refine rd_ifb (fun z => nomatch z) (fun _ => ?_)
      walk_at "rd"
      exact ⟨_, rfl, s1.trans s2⟩
    · rintro _ H1 ⟨v2, rfl, s1⟩
      walk_at "rd"
      exact k _ s1
end
section
variable {P : Program} {w : World} {K : PySem.W.Frag} {mg : Str → Option Value} {base : Heap}
theorem okdeterminant_of (B : Bi mg) (D : DefAt K mg "determinant_of" sdeterminant_of ["table"]) (c_combined : CalA P w K mg base "_combined" 1 ["factor", "row", "lead", "above", "scale"] (spComb K)) (c_row_with : CalA P w K mg base "_row_with" 1 ["rows", "start", "column"] (spRowWith K)) (c_swap : CalA P w K mg base "_swap" 1 ["values", "one", "other"] (spSwap)) : CalA P w K mg base "determinant_of" 2 ["table"] (spDetOf) := by
  refine cala_of D scdeterminant_of (fun vs H Q E h => ?_) (fun f cdv A outer s H vs Q E hr h => ?_)
  · obtain ⟨v, M, rfl, _⟩ := h; rfl
  · have hu := hr.units
    have hr_combined := hr.mono (show 1 ≤ 1 by decide)
    have hr_row_with := hr.mono (show 1 ≤ 1 by decide)
    have hr_swap := hr.mono (show 1 ≤ 1 by decide)
    skip
    refine ⟨_, (pss_cons (ps_if (pt_cmpR op_eq (pe_callB (r := rLenQ K) (by exact q_lenQ) (by rfl) B.b_len (by decide +kernel) (pa_cons (pv 0) pa_nil)) pe_int (nomark _)) (pss_one (ps_ret pe_int)) pss_nil)
        (pss_cons (ps_set (i := 1) scdeterminant_of.nd rfl (by first | exact Or.inl rfl | exact Or.inr rfl) (pe_callTy (r := rLstOf K) (by exact q_lstOf) (by rfl) B.b_list (by decide +kernel) (pa_cons (pv 0) pa_nil)))
        (pss_cons (ps_set (i := 2) scdeterminant_of.nd rfl (by first | exact Or.inl rfl | exact Or.inr rfl) pe_int)
        (pss_cons (ps_set (i := 3) scdeterminant_of.nd rfl (by first | exact Or.inl rfl | exact Or.inr rfl) pe_int)
        (pss_cons (ps_while PassesOwn.never (pt_cmpR op_gt (pe_callB (r := rLenQ K) (by exact q_lenQ) (by rfl) B.b_len (by decide +kernel) (pa_cons (pv 1) pa_nil)) pe_int (nomark _)) (pss_cons (ps_set (i := 4) scdeterminant_of.nd rfl (by first | exact Or.inl rfl | exact Or.inr rfl) (ac c_row_with hr_row_with (by rfl) (pa_cons (pv 1) (pa_cons pe_int (pa_cons pe_int pa_nil)))))
        (pss_cons (ps_if (pt_cmpR op_isN (pv 4) pe_non (nomark _)) (pss_one (ps_ret pe_int)) pss_nil)
        (pss_cons (ps_if (pt_cmpR op_gt (pv 4) pe_int (nomark _)) (pss_cons (ps_expr (ac c_swap hr_swap (by rfl) (pa_cons (pv 1) (pa_cons pe_int (pa_cons (pv 4) pa_nil)))))
        (pss_one (ps_set (i := 2) scdeterminant_of.nd rfl (by first | exact Or.inl rfl | exact Or.inr rfl) (pe_un un_neg (pv 2))))) pss_nil)
        (pss_cons (ps_asg (pe_ix (r := rIxL K) (by exact ix_list) (pv 1) pe_int (fun _ _ => rfl)) (pg_star (by rfl) (pgs_cons (pg_name (i := 5) scdeterminant_of.nd rfl (by first | exact Or.inl rfl | exact Or.inr rfl)) (pgs_cons (pg_name (i := 6) scdeterminant_of.nd rfl (by first | exact Or.inl rfl | exact Or.inr rfl)) pgs_nil))))
        (pss_cons (ps_setLc (i := 1) (own := [("row", 7)]) (g := gName 7) (tt := tYes) (by rfl) scdeterminant_of.nd rfl rfl (sw_true rfl rfl rfl (by decide +kernel)) (pi_list (pe_slice (r := rSlL K) (by exact sl_list) (pv 1) (po_some pe_int) po_none)) (blkOk_by (own := [("row", 7)]) (N := ["table", "left", "sign", "scale", "at", "lead", "above", "row"]) (sc := defScope sdeterminant_of) (by decide +kernel)) (fun _ _ _ _ _ => (pg_name (i := 7) scdeterminant_of.nd rfl (by first | exact Or.inl rfl | exact Or.inr rfl))) (fun _ _ _ _ _ => pts_nil) (fun _ _ _ _ _ => (ac c_combined hr_combined (by rfl) (pa_cons (pe_ix (r := rIx K) (by exact ix_seq) (pv 7) pe_int (fun _ _ => rfl)) (pa_cons (pe_slice (r := rSlE K) (by exact sl_any) (pv 7) (po_some pe_int) po_none) (pa_cons (pv 5) (pa_cons (pv 6) (pa_cons (pv 3) pa_nil))))))))
        (pss_one (ps_set (i := 3) scdeterminant_of.nd rfl (by first | exact Or.inl rfl | exact Or.inr rfl) (pv 5)))))))))
        (pss_one (ps_ret (pe_op op_mul (pv 2) (pe_ix (r := rIx K) (by exact ix_seq) (pe_ix (r := rIxL K) (by exact ix_list) (pv 1) pe_int (fun _ _ => rfl)) pe_int (fun _ _ => rfl)))))))))), ?_⟩
    obtain ⟨v, M, rfl, hv, hM, k⟩ := h
    obtain ⟨p, rfl, rs, h1, h2, h3⟩ := hv.tt
    refine rd_at [some (.ref p), none, none, none, none, none, none, none] rfl ?_
    walk_at "rd"
    refine rd_lenT (SqT.of h1) ?_
    walk_at "rd"
    rw [List.length_map]
    have n1 : 0 < M.length := by rcases hM with ⟨x, rfl, _⟩ | ⟨c, rfl, _⟩ <;> exact Nat.succ_pos _
    refine rd_ite (fun h0 => absurd h0 (by omega)) (fun h0 => ?_)
    walk_at "rd"
    refine ⟨p, _, rfl, Or.inr (SqT.of h1), fun l0 hl0 => ?_⟩
    walk_at "rd"
    have RW0 : RW (upd H l0 (.lst (rs.map V.ref))) l0 M := ⟨rs, upd_same, h2, fun i r row e1 e2 => Or.inr (up_old hl0 (h3 i r row e1 e2))⟩
    refine ⟨fun m σ' H' => ∃ (l : Addr) (scale : Int) (L : List (List Int)) (v4 v5 v6 : Option V), σ' = [some (.ref p), some (.ref l), some (.int 1), some (.int scale), v4, v5, v6, none] ∧ Same H H' ∧ RW H' l L ∧ L.length = m ∧ ((∃ x, L = [[x]]) ∨ (scale = 1 ∧ ∃ c, L = [[1, 2], [c, 1]] ∧ 3 ≤ c ∧ c ≤ 6)),
      ⟨M.length, l0, 1, M, none, none, none, rfl, same_up hl0 (Same.refl H), RW0, rfl, ?_⟩, ?_⟩
    · rcases hM with ⟨x, rfl, _⟩ | ⟨c, rfl, c1, c2⟩
      · exact Or.inl ⟨x, rfl⟩
      · exact Or.inr ⟨rfl, c, rfl, c1, c2⟩
    rintro m _ H3 ⟨l, scale, L, v4, v5, v6, rfl, s3, hRW, hLm, hL⟩
    obtain ⟨us, u1, u2, u3⟩ := id hRW
    walk_at "rd"
    refine rd_lenL (SqL.of u1) ?_
    walk_at "rd"
    rw [List.length_map]
    refine rd_ite (fun hgt => ?_) (fun hgt => ?_)
    · obtain ⟨rfl, c, rfl, c1, c2⟩ : scale = 1 ∧ ∃ c, L = [[1, 2], [c, 1]] ∧ 3 ≤ c ∧ c ≤ 6 := by
        rcases hL with ⟨x, rfl⟩ | hL
        · exact absurd (show us.length = 1 from u2) (by omega)
        · exact hL
      obtain rfl : m = 2 := hLm.symm
      refine ⟨fun σ' H' => ∃ (l : Addr) (scale : Int) (L : List (List Int)) (v4 v5 v6 : Option V), σ' = [some (.ref p), some (.ref l), some (.int 1), some (.int scale), v4, v5, v6, none] ∧ Same H H' ∧ RW H' l L ∧ L.length = 1 ∧ ((∃ x, L = [[x]]) ∨ (scale = 1 ∧ ∃ c, L = [[1, 2], [c, 1]] ∧ 3 ≤ c ∧ c ≤ 6)), fun σ' H' w => ⟨1, by omega, w⟩, ?_⟩
      walk_at "rd"
      refine ⟨l, 0, 0, 2, [[1, 2], [c, 1]], rfl, hRW, Nat.le_of_ble_eq_true rfl, Nat.zero_le _, (fun r hr => by simp at hr; rcases hr with rfl | rfl <;> rfl), by decide, fun i hi1 hi2 hne hbefore => ?_, fun hz => absurd (show (1 : Int) = 0 from hz 0 (by omega) (Nat.succ_pos _)) (by decide)⟩
      obtain rfl : i = 0 := by
        rcases Nat.eq_zero_or_pos i with z | z
        · exact z
        · exact absurd (show (1 : Int) = 0 from hbefore 0 (by omega) z) (by decide)
      walk_at "rd"
      refine ⟨rfl, ?_⟩
      walk_at "rd"
      refine rd_ite (fun e => nomatch e) (fun _ => ?_)
      walk_at "rd"
      refine rd_ite (fun e => absurd e (by decide)) (fun _ => ?_)
      obtain ⟨c0, ce, rfl⟩ : ∃ c0 ce, us = [c0, ce] := by
        match us, u2 with
        | [c0, ce], _ => exact ⟨c0, ce, rfl⟩
      have c0r := u3 0 c0 [1, 2] rfl rfl
      have c1r := u3 1 ce [c, 1] rfl rfl
      walk_at "rd"
      refine rd_ixL (v := .ref c0) (SqL.of u1) (at_nat (j := 0) rfl) ?_
      refine ⟨c0, .int 1, [V.int 2], rfl, c0r.imp (fun g => SqL.of g) (fun g => SqT.of g), fun D5 hD5 => ?_⟩
      refine ⟨.int 1, [.ref D5], rfl, ?_⟩
      walk_at "rd"
      refine ⟨.ref D5, [], rfl, ?_⟩
      walk_at "rd"
      refine ⟨rfl, ?_⟩
      have o5 : Same H3 (upd H3 D5 (.lst [V.int 2])) := fun b o e => up_old hD5 e
      have d5 : (upd H3 D5 (.lst [V.int 2])) D5 = some (.lst [V.int 2]) := upd_same
      generalize upd H3 D5 (.lst [V.int 2]) = H5 at o5 d5 ⊢
      walk_at "rd"
      refine rd_slL (SqL.of (o5 _ _ u1)) (fun q1 hq1 => ?_)
      rw [cut_drop1, show ([c0, ce].map V.ref).drop 1 = [V.ref ce] from rfl]
      walk_at "rd"
      refine ⟨⟨_, SqL.of upd_same⟩, ?_⟩
      have o6 : Same H5 (upd H5 q1 (.lst [V.ref ce])) := fun b o e => up_old hq1 e
      intro E1 hE1
      refine lc_made (n := 1) (wk_list (xs := [V.ref ce]) .non) (by omega) hE1 (fun H' s' => SqL.of (s' _ _ upd_same)) (fun j v H' => ∃ t, v = V.ref t ∧ t ≠ E1 ∧ H' t = some (.lst ((comb c [1] 1 [2] 1).map V.int))) (fun j v H2 H3 b ⟨t, e, ne, et⟩ => ⟨t, e, ne, b _ _ ne et⟩) ?_ ?_
      · intro j hj H6 o s6 ho R1 kk
        obtain rfl : j = 0 := by omega
        have s46 := (o5.trans o6).trans s6
        have hrow := c1r.imp (s46 _ _) (s46 _ _)
        have cb : c.natAbs < 2 ^ 2000 := Nat.lt_trans (show c.natAbs < 2 ^ 4 by omega) (Nat.pow_lt_pow_right (by decide) (by decide))
        have ob : (1 : Int).natAbs < 2 ^ 2000 := Nat.lt_trans (show (1 : Int).natAbs < 2 ^ 4 by decide) (Nat.pow_lt_pow_right (by decide) (by decide))
        have tb : (2 : Int).natAbs < 2 ^ 2000 := Nat.lt_trans (show (2 : Int).natAbs < 2 ^ 4 by decide) (Nat.pow_lt_pow_right (by decide) (by decide))
        have hat : atI ([c, 1].map V.int) ((0 : Nat) : Int) = some (V.int c) := rfl
        have fin : ∀ (k1 : Bool) (a1 : Addr) (H7 : Hp), Same H6 H7 → Kq K H7 k1 a1 ([(1 : Int)].map V.int) → spComb K [V.int c, .ref a1, .int 1, .ref D5, .int 1] H7 (fun v H' => R1 v H') E0 := fun k1 a1 H7 s7 ha1 =>
          ⟨k1, true, a1, D5, c, 1, 1, [1], [2], rfl, ⟨ha1, SqL.of (s7 _ _ (s6 _ _ (o6 _ _ d5)))⟩, rfl, by decide, ⟨by decide, by decide⟩, ⟨cb, ob⟩, (fun y hy => by simp at hy; rw [hy]; exact ob), (fun y hy => by simp at hy; rw [hy]; exact tb), fun H8 t ht s8 hLi => kk _ _ (s7.trans s8) ⟨t, rfl, fun z => (by rw [z, s7 _ _ ho] at ht; cases ht), hLi⟩⟩
        show tCl _ _ [_, _, _, _, _, _, _, some (V.ref ce)] H6 _
        walk_at "rd"
        refine rd_ixA (hrow.elim (fun g => Or.inl (rd_ixL (SqL.of g) hat ?_)) (fun g => Or.inr (Or.inl (rd_ixT (SqT.of g) hat ?_))))
        · walk_at "rd"
          refine Or.inl (rd_slL (SqL.of g) (fun a1 ha1 => ?_))
          rw [cut_drop1]
          walk_at "rd"
          exact fin true a1 _ (fun b o e => up_old ha1 e) (SqL.of upd_same)
        · walk_at "rd"
          refine Or.inr (rd_slA1 g (fun a1 H7 s7 ha1 => ?_))
          walk_at "rd"
          exact fin false a1 _ s7 (SqT.of ha1)
      intro ys H6 s6 hy hP hl6
      obtain ⟨ts, rfl⟩ := refs_of (fun j v e => by
        obtain ⟨t, e2, _⟩ := hP j v e
        exact ⟨t, e2⟩)
      rw [List.length_map] at hy
      have s46 := (o5.trans o6).trans s6
      walk_at "rd"
      refine ⟨E1, 1, [comb c [1] 1 [2] 1], _, _, _, rfl, s3.trans s46, ⟨ts, hl6, hy, fun u r row e1 e2 => Or.inl ?_⟩, rfl, Or.inl ⟨_, rfl⟩⟩
      obtain ⟨t, e, _, et⟩ := hP u (V.ref r) (by rw [List.getElem?_map, e1]; rfl)
      cases e
      have hu : u < ts.length := (List.getElem?_eq_some_iff.mp e1).1
      obtain rfl : u = 0 := by omega
      cases e2
      exact et
    · obtain ⟨x, rfl⟩ : ∃ x, L = [[x]] := by
        rcases hL with hL | ⟨_, c, rfl, _⟩
        · exact hL
        · exact absurd (show us.length = 2 from u2) (by omega)
      obtain ⟨c0, rfl⟩ : ∃ c0, us = [c0] := by
        match us, u2 with
        | [c0], _ => exact ⟨c0, rfl⟩
      walk_at "rd"
      have e0 := u3 0 c0 [x] rfl rfl
      refine rd_ixL (v := .ref c0) (SqL.of u1) (at_nat (j := 0) rfl) ?_
      walk_at "rd"
      refine rd_ixA (e0.elim (fun g => Or.inl (rd_ixL (v := .int x) (SqL.of g) (at_nat (j := 0) rfl) ?_)) (fun g => Or.inr (Or.inl (rd_ixT (v := .int x) (SqT.of g) (at_nat (j := 0) rfl) ?_))))
      · walk_at "rd"
        exact k _ _ s3
      · walk_at "rd"
        exact k _ _ s3
end
section
variable {P : Program} {w : World} {K : PySem.W.Frag} {mg : Str → Option Value} {base : Heap}
theorem okhas_digits (B : Bi mg) (D : DefAt K mg "has_digits" shas_digits ["number", "most"]) (c_least_longer : CalA P w K mg base "_least_longer" 1 ["digits"] (spLong)) : CalA P w K mg base "has_digits" 2 ["number", "most"] (spShort) := by
  refine cala_of D schas_digits (fun vs H Q E h => ?_) (fun f cdv A outer s H vs Q E hr h => ?_)
  · obtain ⟨i, rfl, _⟩ := h; rfl
  · have hu := hr.units
    have hr_least_longer := hr.mono (show 1 ≤ 1 by decide)
    skip
    refine ⟨_, (pss_one (ps_ret (pe_or (pe_cmpR op_le (pe_bits (pv 0)) (pe_op op_mul pe_int (pv 1)) (nomark _)) (pe_one (pe_cmpR op_lt (pe_callB q_abs (by rfl) B.b_abs (by decide +kernel) (pa_cons (pv 0) pa_nil)) (ac c_least_longer hr_least_longer (by rfl) (pa_cons (pv 1) pa_nil)) (nomark _)))))), ?_⟩
    obtain ⟨i, rfl, k⟩ := h
    refine rd_at [some (.int i), some (.int 2000)] rfl ?_
    walk_at "rd"
    refine rd_ite (fun hb => ?_) (fun hb => ?_)
    · have e : i.natAbs < 10 ^ 2000 := bits_short (by omega)
      rw [decide_eq_true e] at k
      exact k
    · walk_at "rd"
      refine ⟨2000, rfl, by omega, ?_⟩
      walk_at "rd"
      have e : ((if i < 0 then -i else i) < 10 ^ 2000) ↔ i.natAbs < 10 ^ 2000 := by
        have h1 : (if i < 0 then -i else i) = (i.natAbs : Int) := by split <;> omega
        have h2 : ((10 : Int) ^ 2000) = ((10 ^ 2000 : Nat) : Int) := by norm_cast
        rw [h1, h2, Int.ofNat_lt]
      rw [decide_eq_decide.mpr e]
      exact k
end
section
variable {P : Program} {w : World} {K : PySem.W.Frag} {mg : Str → Option Value} {base : Heap}
theorem ok_law_one_of (B : Bi mg) (D : DefAt K mg "_law_one_of" s_law_one_of ["_law_bag_here", "_law_items"]) (c_law_draw : CalA P w K mg base "_law_draw" 1 ["_law_bag_here", "_law_total"] (spDraw)) : CalA P w K mg base "_law_one_of" 2 ["_law_bag_here", "_law_items"] (spOne K) := by
  refine cala_of D sc_law_one_of (fun vs H Q E h => ?_) (fun f cdv A outer s H vs Q E hr h => ?_)
  · obtain ⟨a, it, rfl, _⟩ := h; rfl
  · have hu := hr.units
    have hr_law_draw := hr.mono (show 1 ≤ 1 by decide)
    skip
    refine ⟨_, (pss_one (ps_ret (pe_ix (r := rIx K) (by exact ix_seq) (pv 1) (ac c_law_draw hr_law_draw (by rfl) (pa_cons (pv 0) (pa_cons (pe_callB (r := rLenA K) (by exact q_lenA) (by rfl) B.b_len (by decide +kernel) (pa_cons (pv 1) pa_nil)) pa_nil))) (fun _ _ => rfl)))), ?_⟩
    obtain ⟨a, it, rfl, hb, h⟩ := h
    refine rd_at [some (.ref a), some it] rfl ?_
    walk_at "rd"
    rcases h with ⟨l, xs, rfl, hne, hS, h0, h1, k⟩ | ⟨z, rfl, h0, h1, k⟩
    · refine Or.inl ?_
      refine rd_lenL hS ?_
      walk_at "rd"
      refine ⟨a, _, rfl, hb, by omega, by omega, fun j H1 j0 j1 bu hb1 => ?_⟩
      have hj : j.toNat < xs.length := by omega
      refine rd_ixA (Or.inl (rd_ixL (bu.sq hne hS) (at_z (v := xs[j.toNat]) j0 (List.getElem?_eq_getElem hj)) ?_))
      exact k _ _ (List.getElem_mem hj) bu hb1
    · refine Or.inr ?_
      refine rd_lenS (Nat.le_trans h1 (by decide)) ?_
      walk_at "rd"
      refine ⟨a, _, rfl, hb, by omega, by omega, fun j H1 j0 j1 bu hb1 => ?_⟩
      have hj : j.toNat < z.cps.toList.length := by
        show j.toNat < z.cps.toList.length
        have e : z.length = z.cps.toList.length := by simp [Str.length]
        omega
      refine rd_ixA (Or.inr (Or.inr ⟨z, j, z.cps.toList[j.toNat], rfl, rfl, Nat.le_trans h1 (by decide), ?_, ?_⟩))
      · exact at_z j0 (List.getElem?_eq_getElem hj)
      · exact k _ _ (List.getElem_mem hj) bu hb1
end
section
variable {P : Program} {w : World} {K : PySem.W.Frag} {mg : Str → Option Value} {base : Heap}
theorem ok_reduced_alone (B : Bi mg) (D : DefAt K mg "_reduced_alone" s_reduced_alone ["rows", "width"]) (c_clear_others : CalA P w K mg base "_clear_others" 2 ["left", "top", "column", "scale"] (spClear K)) (c_row_with : CalA P w K mg base "_row_with" 1 ["rows", "start", "column"] (spRowWith K)) (c_swap : CalA P w K mg base "_swap" 1 ["values", "one", "other"] (spSwap)) (cdivided : CalA P w K mg base "divided" 1 ["row"] (spDvd)) : CalA P w K mg base "_reduced_alone" 3 ["rows", "width"] (spAlone) := by
  refine cala_of D sc_reduced_alone (fun vs H Q E h => ?_) (fun f cdv A outer s H vs Q E hr h => ?_)
  · obtain ⟨p, m, r, rfl, _⟩ := h; rfl
  · have hu := hr.units
    have hr_clear_others := hr.mono (show 2 ≤ 2 by decide)
    have hr_row_with := hr.mono (show 1 ≤ 2 by decide)
    have hr_swap := hr.mono (show 1 ≤ 2 by decide)
    have hrdivided := hr.mono (show 1 ≤ 2 by decide)
    skip
    refine ⟨_, (pss_cons (ps_setLc (i := 2) (own := [("row", 9)]) (g := gName 9) (tt := tYes) (by rfl) sc_reduced_alone.nd rfl rfl (sw_true rfl rfl rfl (by decide +kernel)) (pi_list (pv 0)) (blkOk_by (own := [("row", 9)]) (N := ["rows", "width", "left", "leads", "opened", "scale", "column", "at", "form", "row", "entry"]) (sc := defScope s_reduced_alone) (by decide +kernel)) (fun _ _ _ _ _ => (pg_name (i := 9) sc_reduced_alone.nd rfl (by first | exact Or.inl rfl | exact Or.inr rfl))) (fun _ _ _ _ _ => pts_nil) (fun _ _ _ _ _ => (pe_callTy (r := rLstOf K) (by exact q_lstOf) (by rfl) B.b_list (by decide +kernel) (pa_cons (ac cdivided hrdivided (by rfl) (pa_cons (pv 9) pa_nil)) pa_nil))))
        (pss_cons (ps_set (i := 3) sc_reduced_alone.nd rfl (by first | exact Or.inl rfl | exact Or.inr rfl) (pe_lst pa_nil))
        (pss_cons (ps_set (i := 4) sc_reduced_alone.nd rfl (by first | exact Or.inl rfl | exact Or.inr rfl) (pe_lst pa_nil))
        (pss_cons (ps_set (i := 5) sc_reduced_alone.nd rfl (by first | exact Or.inl rfl | exact Or.inr rfl) pe_int)
        (pss_cons (ps_for PassesOwn.never (by rfl) (pi_range1 (by rfl) B.b_range (pa_cons (pv 1) pa_nil)) (pg_name (i := 6) sc_reduced_alone.nd rfl (by first | exact Or.inl rfl | exact Or.inr rfl)) (pss_cons (ps_set (i := 7) sc_reduced_alone.nd rfl (by first | exact Or.inl rfl | exact Or.inr rfl) (ac c_row_with hr_row_with (by rfl) (pa_cons (pv 2) (pa_cons (pe_callB (r := rLenQ K) (by exact q_lenQ) (by rfl) B.b_len (by decide +kernel) (pa_cons (pv 3) pa_nil)) (pa_cons (pe_callB (r := rLenQ K) (by exact q_lenQ) (by rfl) B.b_len (by decide +kernel) (pa_cons (pv 4) pa_nil)) pa_nil)))))
        (pss_one (ps_if (pt_cmpR op_isN (pv 7) pe_non (nomark _)) (pss_one (ps_expr (pe_bm PySem.F.plainAttrs_list PySem.F.slot_list_append PySem.F.type_list_append mt_append (pv 4) (pa_cons (pv 6) pa_nil)))) (pss_cons (ps_expr (ac c_swap hr_swap (by rfl) (pa_cons (pv 2) (pa_cons (pe_callB (r := rLenQ K) (by exact q_lenQ) (by rfl) B.b_len (by decide +kernel) (pa_cons (pv 3) pa_nil)) (pa_cons (pv 7) pa_nil)))))
        (pss_cons (ps_set (i := 5) sc_reduced_alone.nd rfl (by first | exact Or.inl rfl | exact Or.inr rfl) (ac c_clear_others hr_clear_others (by rfl) (pa_cons (pv 2) (pa_cons (pe_callB (r := rLenQ K) (by exact q_lenQ) (by rfl) B.b_len (by decide +kernel) (pa_cons (pv 3) pa_nil)) (pa_cons (pe_callB (r := rLenQ K) (by exact q_lenQ) (by rfl) B.b_len (by decide +kernel) (pa_cons (pv 4) pa_nil)) (pa_cons (pv 5) pa_nil))))))
        (pss_one (ps_expr (pe_bm PySem.F.plainAttrs_list PySem.F.slot_list_append PySem.F.type_list_append mt_append (pv 3) (pa_cons (pv 6) pa_nil))))))))))
        (pss_cons (ps_set (i := 8) sc_reduced_alone.nd rfl (by first | exact Or.inl rfl | exact Or.inr rfl) (pe_slice (r := rSlL K) (by exact sl_list) (pv 2) po_none (po_some (pe_callB (r := rLenQ K) (by exact q_lenQ) (by rfl) B.b_len (by decide +kernel) (pa_cons (pv 3) pa_nil)))))
        (pss_cons (ps_if (pt_cmpR op_lt (pv 5) pe_int (nomark _)) (pss_one (ps_setLc (i := 8) (own := [("row", 9)]) (g := gName 9) (tt := tYes) (by rfl) sc_reduced_alone.nd rfl rfl (sw_true rfl rfl rfl (by decide +kernel)) (pi_list (pv 8)) (blkOk_by (own := [("row", 9)]) (N := ["rows", "width", "left", "leads", "opened", "scale", "column", "at", "form", "row", "entry"]) (sc := defScope s_reduced_alone) (by decide +kernel)) (fun _ _ _ _ _ => (pg_name (i := 9) sc_reduced_alone.nd rfl (by first | exact Or.inl rfl | exact Or.inr rfl))) (fun _ _ _ _ _ => pts_nil) (fun _ _ _ _ _ => (by exact (pe_lc (own := [("entry", 10)]) (wi := iList K (tVar 9)) (g := gName 10) (tt := tYes) (by rfl) sc_reduced_alone.nd (by exact (pi_list (pv 9))) (by exact blkOk_by (by kernel_rfl)) (fun _ _ _ _ _ => (pg_name (i := 10) sc_reduced_alone.nd rfl (by first | exact Or.inl rfl | exact Or.inr rfl))) (fun _ _ _ _ _ => pts_nil) (fun _ _ _ _ _ => (pe_un un_neg (pv 10)))))))) pss_nil)
        (pss_one (ps_ret (pe_tup (pa_cons (pv 3) (pa_cons (pv 4) (pa_cons (pv 8) (pa_cons (pe_callB q_abs (by rfl) B.b_abs (by decide +kernel) (pa_cons (pv 5) pa_nil)) pa_nil)))))))))))))), ?_⟩
    obtain ⟨p, m, r, rfl, hf, w1, w2, hb, k⟩ := h
    refine rd_at [some (.ref p), some (.int (r.length : Int)), none, none, none, none, none, none, none, none, none] rfl ?_
    walk_at "rd"
    rcases hf with ⟨rfl, h0⟩ | ⟨rfl, q, h1, h2⟩
    · -- no row
      refine ⟨⟨_, SqL.of h0⟩, ?_⟩
      intro E1 hE1
      refine lc_same (n := 0) (wk_list (xs := []) .non) (by omega) hE1 (fun H' s' => SqL.of (s' _ _ h0)) (fun _ => true) (fun _ => .non) (fun j hj => absurd hj (Nat.not_lt_zero _)) (fun j hj => absurd hj (Nat.not_lt_zero _)) (fun H1 s1 hl1 => ?_)
      replace hl1 : H1 E1 = some (.lst []) := hl1
      walk_at "rd"
      intro l3 hl3
      walk_at "rd"
      intro l4 hl4
      walk_at "rd"
      refine ⟨_, rfl, by omega, by omega, ?_⟩
      rw [Int.toNat_natCast]
      have x3 : upd (upd H1 l3 (.lst [])) l4 (.lst []) l3 = some (.lst []) := up_old hl4 upd_same
      have x1 : upd (upd H1 l3 (.lst [])) l4 (.lst []) E1 = some (.lst []) := up_old hl4 (up_old hl3 hl1)
      have s2 : Same H (upd (upd H1 l3 (.lst [])) l4 (.lst [])) := fun b o e => up_old hl4 (up_old hl3 (s1 _ _ e))
      have n34 : l3 ≠ l4 := fun z => by rw [z, upd_same] at hl4; cases hl4
      have n14 : E1 ≠ l4 := fun z => by rw [← z, up_old hl3 hl1] at hl4; cases hl4
      have f4 : H l4 = none := s1.free ((same_up hl3 (Same.refl H1)).free hl4)
      have x4 : upd (upd H1 l3 (.lst [])) l4 (.lst []) l4 = some (.lst []) := upd_same
      generalize upd (upd H1 l3 (.lst [])) l4 (.lst []) = H2 at x1 x3 x4 s2
      refine for_rng (fun i σ' H' => ∃ v6 v7 : Option V, σ' = [some (.ref p), some (.int (r.length : Int)), some (.ref E1), some (.ref l3), some (.ref l4), some (.int 1), v6, v7, none, none, none] ∧ Same H H' ∧ H' E1 = some (.lst []) ∧ H' l3 = some (.lst []) ∧ Li H' l4 (ofN (List.range i))) ⟨_, _, rfl, s2, x1, x3, x4⟩ ?_ ?_
      · rintro i _ H' hi ⟨v6, v7, rfl, s', y1, y3, y4⟩
        walk_at "rd"
        refine rd_lenL (SqL.of y3) ?_
        walk_at "rd"
        refine rd_lenL (SqL.of y4) ?_
        walk_at "rd"
        have e4 : ((List.map V.int (ofN (List.range i))).length : Int) = (i : Int) := by
          unfold ofN
          rw [List.length_map, List.length_map, List.length_range]
        rw [e4]
        refine ⟨E1, 0, i, r.length, [], rfl, ⟨[], y1, rfl, fun i r row e1 => nomatch e1⟩, Nat.zero_le _, Nat.le_refl _, (fun r hr => nomatch hr), hi, fun j hj1 hj2 => absurd hj2 (Nat.not_lt_zero _), fun _ => ?_⟩
        walk_at "rd"
        refine ⟨rfl, ?_⟩
        walk_at "rd"
        refine rd_ite (fun _ => ?_) (fun z => absurd rfl z)
        walk_at "rd"
        refine rd_BM ?_
        walk_at "rd"
        refine rd_tyL y4 ?_
        walk_at "rd"
        refine rd_app y4 (by unfold ofN; simp; omega) ?_
        walk_at "rd"
        refine ⟨_, _, rfl, same_up f4 s', up_oth n14 y1, up_oth n34 y3, ?_⟩
        unfold Li
        rw [upd_same, List.range_succ, ofN_snoc, List.map_append, Int.zero_add]
        rfl
      · rintro _ H' ⟨v6, v7, rfl, s', y1, y3, y4⟩
        walk_at "rd"
        refine rd_lenL (SqL.of y3) ?_
        walk_at "rd"
        refine rd_slL (SqL.of y1) (fun p8 hp8 => ?_)
        walk_at "rd"
        refine rd_ite (fun z => absurd z (by decide)) (fun _ => ?_)
        walk_at "rd"
        intro p9 hp9
        refine k p9 [] (List.range r.length) [] 1 _ (fun b o e => up_old hp9 (up_old hp8 (s' _ _ e))) red_none (fun _ => ⟨rfl, rfl⟩) (fun z => nomatch z) ⟨l3, l4, p8, upd_same, up_old hp9 (up_old hp8 y3), up_old hp9 (up_old hp8 y4), [], up_old hp9 upd_same, rfl, fun i r row e => nomatch e⟩
    · refine ⟨⟨_, SqL.of h1⟩, ?_⟩
      intro E1 hE1
      refine lc_new (n := 1) (wk_list (xs := [.ref q]) .non) (by omega) hE1 (fun H' s' => SqL.of (s' _ _ h1)) (fun _ t H' => H' t = some (.lst ((dvd r).map V.int))) (fun _ t H' H'' z y => z _ y) (fun _ t H' y z => by rw [z] at y; cases y) (fun j hj H' o s' ho R kk => ?_) (fun rs H1 s1 hrs hnd hP hfr hEr hl1 => ?_)
      · obtain rfl : j = 0 := by omega
        walk_at "rd"
        refine ⟨q, r, rfl, s' _ _ h2, w1, w2, hb, fun q' H2 s2 hq' => ?_⟩
        walk_at "rd"
        refine ⟨q', _, rfl, Or.inr (SqT.of hq'), fun l hl => ?_⟩
        exact kk l _ (s2.free hl) (fun b o e => up_old hl (s2 _ _ e)) upd_same
      obtain ⟨c, rfl⟩ : ∃ c, rs = [c] := by
        match rs, hrs with
        | [c], _ => exact ⟨c, rfl⟩
      have hc1 := hP 0 c rfl
      have fc := hfr c List.mem_cons_self
      have n1c : E1 ≠ c := fun z => hEr (z ▸ List.mem_cons_self)
      replace hl1 : H1 E1 = some (.lst [.ref c]) := hl1
      walk_at "rd"
      intro l3 hl3
      walk_at "rd"
      intro l4 hl4
      walk_at "rd"
      refine ⟨_, rfl, by omega, by omega, ?_⟩
      rw [Int.toNat_natCast]
      have x3 : upd (upd H1 l3 (.lst [])) l4 (.lst []) l3 = some (.lst []) := up_old hl4 upd_same
      have x1 : upd (upd H1 l3 (.lst [])) l4 (.lst []) E1 = some (.lst [.ref c]) := up_old hl4 (up_old hl3 hl1)
      have xc : upd (upd H1 l3 (.lst [])) l4 (.lst []) c = some (.lst ((dvd r).map V.int)) := up_old hl4 (up_old hl3 hc1)
      have s2 : Same H (upd (upd H1 l3 (.lst [])) l4 (.lst [])) := fun b o e => up_old hl4 (up_old hl3 (s1 _ _ e))
      have n34 : l3 ≠ l4 := fun z => by rw [z, upd_same] at hl4; cases hl4
      have n14 : E1 ≠ l4 := fun z => by rw [← z, up_old hl3 hl1] at hl4; cases hl4
      have n13 : E1 ≠ l3 := fun z => by rw [← z, hl1] at hl3; cases hl3
      have nc3 : c ≠ l3 := fun z => by rw [← z, hc1] at hl3; cases hl3
      have nc4 : c ≠ l4 := fun z => by rw [← z, up_old hl3 hc1] at hl4; cases hl4
      have f4 : H l4 = none := s1.free ((same_up hl3 (Same.refl H1)).free hl4)
      have f3 : H l3 = none := s1.free hl3
      have x4 : upd (upd H1 l3 (.lst [])) l4 (.lst []) l4 = some (.lst []) := upd_same
      generalize upd (upd H1 l3 (.lst [])) l4 (.lst []) = H2 at x1 x3 x4 xc s2
      have dl := dvd_len r
      refine for_rng (fun i σ' H' => ∃ (v6 v7 : Option V) (sc : Int), σ' = [some (.ref p), some (.int (r.length : Int)), some (.ref E1), some (.ref l3), some (.ref l4), some (.int sc), v6, v7, none, none, none] ∧ Same H H' ∧ H' E1 = some (.lst [.ref c]) ∧
        ((sc = 1 ∧ (∀ j, j < i → (dvd r).getD j 0 = 0) ∧ H' c = some (.lst ((dvd r).map V.int)) ∧ H' l3 = some (.lst []) ∧ Li H' l4 (ofN (List.range i))) ∨
         (∃ c0, c0 < i ∧ c0 < r.length ∧ (dvd r).getD c0 0 ≠ 0 ∧ sc = (dvd r).getD c0 0 ∧ Li H' c ((dvd r).eraseIdx c0) ∧ Li H' l3 [(c0 : Int)] ∧ Li H' l4 (ofN (opn c0 i))))) ⟨_, _, 1, rfl, s2, x1, Or.inl ⟨rfl, (fun j hj => absurd hj (Nat.not_lt_zero _)), xc, x3, x4⟩⟩ ?_ ?_
      · rintro i _ H' hi ⟨v6, v7, sc, rfl, s', y1, (⟨rfl, hz, yc, y3, y4⟩ | ⟨c0, hc0, hcr, hne, rfl, yc, y3, y4⟩)⟩
        · walk_at "rd"
          refine rd_lenL (SqL.of y3) ?_
          walk_at "rd"
          refine rd_lenL (SqL.of y4) ?_
          walk_at "rd"
          have e4 : ((List.map V.int (ofN (List.range i))).length : Int) = (i : Int) := by
            unfold ofN
            rw [List.length_map, List.length_map, List.length_range]
          rw [e4]
          refine ⟨E1, 0, i, r.length, [dvd r], rfl, ⟨[c], y1, rfl, fun j t row e1 e2 => ?_⟩, (show 1 ≤ 100 by decide), Nat.zero_le _, (fun x hx => by rw [List.mem_singleton.mp hx]; exact dl), hi, fun j hj1 hj2 hnz hbef => ?_, fun hall => ?_⟩
          · have hj : j = 0 := by
              have := (List.getElem?_eq_some_iff.mp e1).1
              exact Nat.lt_one_iff.mp this
            subst hj
            cases e1
            cases e2
            exact Or.inl yc
          · -- the lead
            obtain rfl : j = 0 := Nat.lt_one_iff.mp hj2
            have hnz : (dvd r).getD i 0 ≠ 0 := hnz
            walk_at "rd"
            refine ⟨rfl, ?_⟩
            walk_at "rd"
            refine rd_ite (fun z => nomatch z) (fun _ => ?_)
            walk_at "rd"
            refine rd_lenL (SqL.of y3) ?_
            walk_at "rd"
            refine ⟨E1, 0, 0, [.ref c], .ref c, .ref c, rfl, y1, rfl, rfl, (show 1 ≤ 100 by decide), fun H3 s3 => ?_⟩
            walk_at "rd"
            replace yc := up_oth (u := .lst ([V.ref c].set 0 (.ref c) |>.set 0 (.ref c))) n1c.symm (s3 _ _ yc)
            replace y3 := up_oth (u := .lst ([V.ref c].set 0 (.ref c) |>.set 0 (.ref c))) n13.symm (s3 _ _ y3)
            replace y4 := up_oth (u := .lst ([V.ref c].set 0 (.ref c) |>.set 0 (.ref c))) n14.symm (s3 _ _ y4)
            have y1 : upd H3 E1 (.lst ([V.ref c].set 0 (.ref c) |>.set 0 (.ref c))) E1 = some (.lst [.ref c]) := upd_same
            have s4 : Same H (upd H3 E1 (.lst ([V.ref c].set 0 (.ref c) |>.set 0 (.ref c)))) := same_up hE1 (s'.trans s3)
            generalize upd H3 E1 (.lst ([V.ref c].set 0 (.ref c) |>.set 0 (.ref c))) = H4 at y1 yc y3 y4 s4
            refine rd_lenL (SqL.of y3) ?_
            walk_at "rd"
            refine rd_lenL (SqL.of y4) ?_
            walk_at "rd"
            rw [e4]
            refine ⟨E1, c, dvd r, i, 1, rfl, y1, yc, n1c, by omega, by omega, ?_⟩
            walk_at "rd"
            refine rd_BM ?_
            walk_at "rd"
            have y3' := up_oth (u := .lst (((dvd r).eraseIdx i).map V.int)) nc3.symm y3
            refine rd_tyL y3' ?_
            walk_at "rd"
            refine rd_app y3' (by decide) ?_
            walk_at "rd"
            refine ⟨_, _, _, rfl, same_up f3 (same_up fc s4), up_oth n13 (up_oth n1c y1), Or.inr ⟨i, Nat.lt_succ_self i, hi, hnz, rfl, up_oth nc3 upd_same, ?_, ?_⟩⟩
            · unfold Li
              rw [upd_same, Int.zero_add]
              rfl
            · rw [opn_first]
              exact up_oth n34.symm (up_oth nc4.symm y4)
          · have hz0 : (dvd r).getD i 0 = 0 := hall 0 (Nat.le_refl _) Nat.zero_lt_one
            walk_at "rd"
            refine ⟨rfl, ?_⟩
            walk_at "rd"
            refine rd_ite (fun _ => ?_) (fun z => absurd rfl z)
            walk_at "rd"
            refine rd_BM ?_
            walk_at "rd"
            refine rd_tyL y4 ?_
            walk_at "rd"
            refine rd_app y4 (by unfold ofN; simp; omega) ?_
            walk_at "rd"
            refine ⟨_, _, _, rfl, same_up f4 s', up_oth n14 y1, Or.inl ⟨rfl, fun j hj => ?_, up_oth nc4 yc, up_oth n34 y3, ?_⟩⟩
            · rcases Nat.lt_succ_iff_lt_or_eq.mp hj with z | z
              · exact hz j z
              · rw [z]
                exact hz0
            · unfold Li
              rw [upd_same, List.range_succ, ofN_snoc, List.map_append, Int.zero_add]
              rfl
        · walk_at "rd"
          refine rd_lenL (SqL.of y3) ?_
          walk_at "rd"
          refine rd_lenL (SqL.of y4) ?_
          walk_at "rd"
          have e4 : ((List.map V.int (ofN (opn c0 i))).length : Int) = ((i - 1 : Nat) : Int) := by
            unfold ofN
            rw [List.length_map, List.length_map, opn_len]
          rw [e4]
          have le : ((dvd r).eraseIdx c0).length = r.length - 1 := by rw [List.length_eraseIdx, dl, if_pos hcr]
          refine ⟨E1, 1, i - 1, r.length - 1, [(dvd r).eraseIdx c0], rfl, ⟨[c], y1, rfl, fun j t row e1 e2 => ?_⟩, (show 1 ≤ 100 by decide), Nat.le_refl _, (fun x hx => by rw [List.mem_singleton.mp hx]; exact le), by omega, fun j hj1 hj2 => absurd (Nat.lt_of_le_of_lt hj1 hj2) (Nat.lt_irrefl 1), fun _ => ?_⟩
          · have hj : j = 0 := by
              have := (List.getElem?_eq_some_iff.mp e1).1
              exact Nat.lt_one_iff.mp this
            subst hj
            cases e1
            cases e2
            exact Or.inl yc
          walk_at "rd"
          refine ⟨rfl, ?_⟩
          walk_at "rd"
          refine rd_ite (fun _ => ?_) (fun z => absurd rfl z)
          walk_at "rd"
          refine rd_BM ?_
          walk_at "rd"
          refine rd_tyL y4 ?_
          walk_at "rd"
          refine rd_app y4 (by unfold ofN; rw [List.length_map, List.length_map, opn_len]; omega) ?_
          walk_at "rd"
          refine ⟨_, _, _, rfl, same_up f4 s', up_oth n14 y1, Or.inr ⟨c0, by omega, hcr, hne, rfl, up_oth nc4 yc, up_oth n34 y3, ?_⟩⟩
          unfold Li
          rw [upd_same, opn_next hc0, ofN_snoc, List.map_append, Int.zero_add]
          rfl
      · rintro _ H' ⟨v6, v7, sc, rfl, s', y1, (⟨rfl, hz, yc, y3, y4⟩ | ⟨c0, _, hcr, hne, rfl, yc, y3, y4⟩)⟩
        · walk_at "rd"
          refine rd_lenL (SqL.of y3) ?_
          walk_at "rd"
          refine rd_slL (SqL.of y1) (fun p8 hp8 => ?_)
          walk_at "rd"
          refine rd_ite (fun z => absurd z (by decide)) (fun _ => ?_)
          walk_at "rd"
          intro p9 hp9
          refine k p9 [] (List.range r.length) [] 1 _ (fun b o e => up_old hp9 (up_old hp8 (s' _ _ e))) red_none (fun z => nomatch z) (fun _ => Or.inl ⟨rfl, rfl, dvd_zero hz⟩) ⟨l3, l4, p8, upd_same, up_old hp9 (up_old hp8 y3), up_old hp9 (up_old hp8 y4), [], up_old hp9 upd_same, rfl, fun i r row e => nomatch e⟩
        · walk_at "rd"
          refine rd_lenL (SqL.of y3) ?_
          walk_at "rd"
          refine rd_slL (SqL.of y1) (fun p8 hp8 => ?_)
          have e8 : cutV [V.ref c] none (some ((List.map V.int [(c0 : Int)]).length : Int)) = [V.ref c] := rfl
          rw [e8]
          have z8 : upd H' p8 (.lst [V.ref c]) p8 = some (.lst [V.ref c]) := upd_same
          have zc := up_old (u := .lst [V.ref c]) hp8 yc
          have z3 := up_old (u := .lst [V.ref c]) hp8 y3
          have z4 := up_old (u := .lst [V.ref c]) hp8 y4
          have s8 : Same H (upd H' p8 (.lst [V.ref c])) := fun b o e => up_old hp8 (s' _ _ e)
          generalize upd H' p8 (.lst [V.ref c]) = H8 at z8 zc z3 z4 s8
          walk_at "rd"
          refine rd_ite (fun hneg => ?_) (fun hpos => ?_)
          · walk_at "rd"
            refine ⟨⟨_, SqL.of z8⟩, ?_⟩
            intro E9 hE9
            have zc0 : Li H8 c ((dvd r).eraseIdx c0) := zc
            generalize hns : (dvd r).eraseIdx c0 = ns at zc0
            have ln : ns.length ≤ 28 := by
              rw [← hns, List.length_eraseIdx, dl]
              split <;> omega
            refine lc_made (n := 1) (wk_list (xs := [.ref c]) .non) (by omega) hE9 (fun H' s' => SqL.of (s' _ _ z8)) (fun _ v H' => ∃ t, v = V.ref t ∧ t ≠ E9 ∧ Li H' t (ns.map fun x => -1 * x)) (fun _ v H' H'' b ⟨t, e, ne, et⟩ => ⟨t, e, ne, b _ _ ne et⟩) (fun j hj H2 o s2 ho R kk => ?_) (fun ys H2 s2 hy hP hl2 => ?_)
            · obtain rfl : j = 0 := by omega
              walk_at "rd"
              have hc2 := s2 _ _ zc0
              refine ⟨c, rfl, ⟨_, SqL.of hc2⟩, ?_⟩
              intro E5 hE5
              refine lc_same (n := (ns.map V.int).length) (wk_list .non) (by rw [List.length_map]; omega) hE5 (fun H' s' => SqL.of (s' _ _ hc2)) (fun _ => true) (fun j => V.int (-(ns.getD j 0))) (fun j hj H' _ R hR => hR H' (Same.refl _)) (fun j hj _ H' s' R hR => ?_) (fun H3 s3 hl3 => ?_)
              · rw [List.length_map] at hj
                rw [int_get hj]
                walk_at "rd"
                exact hR H' (Same.refl _)
              · refine kk _ _ s3 ⟨E5, rfl, fun z => (by rw [z, ho] at hE5; cases hE5), ?_⟩
                unfold Li
                rw [hl3, filt_yes, List.length_map, List.map_map]
                have := congrArg (List.map fun x => V.int (-1 * x)) (range_getD 0 ns)
                rw [List.map_map] at this
                rw [show (V.int ∘ fun x : Int => -1 * x) = fun x => V.int (-1 * x) from rfl, ← this]
                refine congrArg (fun z => some (HO.lst z)) (List.map_congr_left fun j _ => ?_)
                show V.int (-(ns.getD j 0)) = V.int (-1 * ns.getD j 0)
                rw [Int.neg_mul, Int.one_mul]
            · obtain ⟨t, e, _, ht⟩ := hP 0 (ys.getD 0 .non) (by rw [List.getD_eq_getElem?_getD, List.getElem?_eq_getElem (by omega)]; rfl)
              obtain ⟨y, rfl⟩ : ∃ y, ys = [y] := by
                match ys, hy with
                | [y], _ => exact ⟨y, rfl⟩
              replace e : y = V.ref t := e
              subst e
              walk_at "rd"
              intro p9 hp9
              rw [if_pos hneg]
              obtain ⟨r1, r2⟩ := red_one (e := -1) hcr (Or.inr rfl) (show -(dvd r).getD c0 0 = -1 * (dvd r).getD c0 0 by rw [Int.neg_mul, Int.one_mul]) (by omega) (F := ns.map fun x => -1 * x) (by rw [hns]) hb
              exact k p9 [c0] (opn c0 r.length) [ns.map fun x => -1 * x] _ _ (fun b o e => up_old hp9 (s2 _ _ (s8 _ _ e))) r1 (fun z => nomatch z) (fun _ => r2) ⟨l3, l4, E9, upd_same, up_old hp9 (s2 _ _ z3), up_old hp9 (s2 _ _ z4), [t], up_old hp9 hl2, rfl, fun j t' row e1 e2 => by
                obtain rfl : j = 0 := Nat.lt_one_iff.mp (List.getElem?_eq_some_iff.mp e1).1
                cases e1
                cases e2
                exact up_old hp9 ht⟩
          · walk_at "rd"
            intro p9 hp9
            rw [if_neg hpos]
            obtain ⟨r1, r2⟩ := red_one (e := 1) hcr (Or.inl rfl) (Int.one_mul _).symm (by omega) (F := (dvd r).eraseIdx c0) (by rw [show (fun x : Int => 1 * x) = id from funext fun x => Int.one_mul x, List.map_id]) hb
            exact k p9 [c0] (opn c0 r.length) [(dvd r).eraseIdx c0] _ _ (fun b o e => up_old hp9 (s8 _ _ e)) r1 (fun z => nomatch z) (fun _ => r2) ⟨l3, l4, p8, upd_same, up_old hp9 z3, up_old hp9 z4, [c], up_old hp9 z8, rfl, fun j t row e1 e2 => by
              obtain rfl : j = 0 := Nat.lt_one_iff.mp (List.getElem?_eq_some_iff.mp e1).1
              cases e1
              cases e2
              exact up_old hp9 zc⟩
end
section
variable {P : Program} {w : World} {K : PySem.W.Frag} {mg : Str → Option Value} {base : Heap}
theorem okis_sum_of_squares (B : Bi mg) (D : DefAt K mg "is_sum_of_squares" sis_sum_of_squares ["table"]) (c_without_square : CalA P w K mg base "_without_square" 2 ["left", "top", "scale"] (spNever)) : CalA P w K mg base "is_sum_of_squares" 3 ["table"] (spSqOf) := by
  refine cala_of D scis_sum_of_squares (fun vs H Q E h => ?_) (fun f cdv A outer s H vs Q E hr h => ?_)
  · obtain ⟨v, x, rfl, _⟩ := h; rfl
  · have hu := hr.units
    have hr_without_square := hr.mono (show 2 ≤ 2 by decide)
    skip
    refine ⟨_, (pss_cons (ps_set (i := 1) scis_sum_of_squares.nd rfl (by first | exact Or.inl rfl | exact Or.inr rfl) (pe_lc (own := [("row", 5)]) (g := gName 5) (tt := tYes) (by rfl) scis_sum_of_squares.nd (pi_tup (pv 0)) (blkOk_by (own := [("row", 5)]) (N := ["table", "left", "scale", "diagonal", "top", "row", "at", "entry"]) (sc := defScope sis_sum_of_squares) (by decide +kernel)) (fun _ _ _ _ _ => (pg_name (i := 5) scis_sum_of_squares.nd rfl (by first | exact Or.inl rfl | exact Or.inr rfl))) (fun _ _ _ _ _ => pts_nil) (fun _ _ _ _ _ => (pe_callTy (r := rLstOf K) (by exact q_lstOf) (by rfl) B.b_list (by decide +kernel) (pa_cons (pv 5) pa_nil)))))
        (pss_cons (ps_set (i := 2) scis_sum_of_squares.nd rfl (by first | exact Or.inl rfl | exact Or.inr rfl) pe_int)
        (pss_cons (ps_while PassesOwn.never (pt_cmpR op_gt (pe_callB (r := rLenQ K) (by exact q_lenQ) (by rfl) B.b_len (by decide +kernel) (pa_cons (pv 1) pa_nil)) pe_int (nomark _)) (pss_cons (ps_setLc (i := 3) (own := [("at", 6)]) (g := gName 6) (tt := tYes) (by rfl) scis_sum_of_squares.nd rfl rfl (sw_true rfl rfl rfl (by decide +kernel)) (pi_range1 (by rfl) B.b_range (pa_cons (pe_callB (r := rLenQ K) (by exact q_lenQ) (by rfl) B.b_len (by decide +kernel) (pa_cons (pv 1) pa_nil)) pa_nil)) (blkOk_by (own := [("at", 6)]) (N := ["table", "left", "scale", "diagonal", "top", "row", "at", "entry"]) (sc := defScope sis_sum_of_squares) (by decide +kernel)) (fun _ _ _ _ _ => (pg_name (i := 6) scis_sum_of_squares.nd rfl (by first | exact Or.inl rfl | exact Or.inr rfl))) (fun _ _ _ _ _ => pts_nil) (fun _ _ _ _ _ => (pe_ix (r := rIxL K) (by exact ix_list) (pe_ix (r := rIxL K) (by exact ix_list) (pv 1) (pv 6) (fun _ _ => rfl)) (pv 6) (fun _ _ => rfl))))
        (pss_cons (ps_if (pt_cmpR op_lt (pe_callB (r := rMin K) (by exact (cr_min rfl)) (by rfl) B.b_min (by decide +kernel) (pa_cons (pv 3) pa_nil)) pe_int (nomark _)) (pss_one (ps_ret pe_bl)) pss_nil)
        (pss_cons (ps_if (pt_cmpR op_eq (pe_callB (r := rMax K) (by exact (cr_max rfl)) (by rfl) B.b_max (by decide +kernel) (pa_cons (pv 3) pa_nil)) pe_int (nomark _)) (pss_one (ps_ret (pe_callB (r := rAll K) (by exact (cr_all rfl)) (by rfl) B.b_all (by decide +kernel) (pa_cons (pe_lc2 (own := [("row", 5), ("entry", 7)]) (vs1 := [7]) (g := gName 5) (g1 := gName 7) (tt := tYes) (tt1 := tYes) (by rfl) scis_sum_of_squares.nd (pi_list (pv 1)) (blkOk_by (own := [("row", 5), ("entry", 7)]) (N := ["table", "left", "scale", "diagonal", "top", "row", "at", "entry"]) (sc := defScope sis_sum_of_squares) (by decide +kernel)) (by decide) (fun _ _ _ _ _ => (pg_name (i := 5) scis_sum_of_squares.nd rfl (by first | exact Or.inl rfl | exact Or.inr rfl))) (fun _ _ _ _ _ => pts_nil) (fun _ _ _ _ _ => (pi_listK (K := K) rfl (pv 5))) (fun _ _ _ _ _ => (pg_name (i := 7) scis_sum_of_squares.nd rfl (by first | exact Or.inl rfl | exact Or.inr rfl))) (fun _ _ _ _ _ => pts_nil) (fun _ _ _ _ _ => (pe_cmpR op_eq (pv 7) pe_int (nomark _)))) pa_nil)))) pss_nil)
        (pss_cons (ps_set (i := 4) scis_sum_of_squares.nd rfl (by first | exact Or.inl rfl | exact Or.inr rfl) (pe_bm PySem.F.plainAttrs_list PySem.F.slot_list_index PySem.F.type_list_index mt_index (pv 3) (pa_cons (pe_callB (r := rMax K) (by exact (cr_max rfl)) (by rfl) B.b_max (by decide +kernel) (pa_cons (pv 3) pa_nil)) pa_nil)))
        (pss_cons (ps_set (i := 1) scis_sum_of_squares.nd rfl (by first | exact Or.inl rfl | exact Or.inr rfl) (ac c_without_square hr_without_square (by rfl) (pa_cons (pv 1) (pa_cons (pv 4) (pa_cons (pv 2) pa_nil)))))
        (pss_one (ps_set (i := 2) scis_sum_of_squares.nd rfl (by first | exact Or.inl rfl | exact Or.inr rfl) (pe_ix (r := rIxL K) (by exact ix_list) (pv 3) (pv 4) (fun _ _ => rfl))))))))))
        (pss_one (ps_ret pe_bl))))), ?_⟩
    obtain ⟨v, x, rfl, hv, hx, hx0, k⟩ := h
    obtain ⟨p, rfl, rs, h1', h2, h3'⟩ := hv.tt
    obtain ⟨M, hM⟩ : ∃ M : List (List Int), M = [[x]] := ⟨_, rfl⟩
    rw [← hM] at h2 h3'
    have hlen : M.length = 1 := by rw [hM]; rfl
    have h1 : SqT K H p (rs.map V.ref) := SqT.of h1'
    have h3 : ∀ (i : Nat) (r : Addr) (row : List Int), rs[i]? = some r → M[i]? = some row → SqT K H r (row.map V.int) := fun i r row e1 e2 => SqT.of (h3' i r row e1 e2)
    refine rd_at [some (.ref p), none, none, none, none, none, none, none] rfl ?_
    walk_at "rd"
    refine ⟨⟨_, h1⟩, ?_⟩
    intro E1 hE1
    refine lc_new (n := (rs.map V.ref).length) (wk_tup .non) (by rw [List.length_map]; omega) hE1 (fun H' s' => sqT_same s' h1) (fun j t H' => Li H' t (M.getD j [])) (fun j t H H' s l => s _ l) (fun j t H l z => by unfold Li at l; rw [l] at z; cases z) ?_ ?_
    · intro j hj H5 o s5 ho R1 kk
      rw [List.length_map] at hj
      have ej : (rs.map V.ref).getD j .non = V.ref rs[j] := by rw [List.getD_eq_getElem?_getD, List.getElem?_map, List.getElem?_eq_getElem hj]; rfl
      rw [ej]
      have hjm : j < M.length := by omega
      walk_at "rd"
      refine ⟨_, _, rfl, Or.inr (sqT_same s5 (h3 j rs[j] M[j] (List.getElem?_eq_getElem hj) (List.getElem?_eq_getElem hjm))), fun t ht => ?_⟩
      refine kk t _ ht (fun b o e => up_old ht e) ?_
      rw [row_eq (List.getElem?_eq_getElem hjm)]
      exact upd_same
    intro ts H2 s2 hy hnd hP hfr hE1r hl2
    rw [List.length_map] at hy
    have hLL : LLf H H2 E1 M := ⟨ts, hl2, by omega, hnd, hE1, hfr, fun u r row e1 e2 => by
      have e := hP u r e1
      rw [row_eq e2] at e
      exact e⟩
    walk_at "rd"
    
    refine ⟨fun m σ' H' => m = 1 ∧ σ' = [some (.ref p), some (.ref E1), some (.int 1), none, none, none, none, none] ∧ Same H H' ∧ LLf H H' E1 M, ⟨1, rfl, rfl, s2, hLL⟩, ?_⟩
    rintro m _ H3 ⟨rfl, rfl, s3, hL3⟩
    obtain ⟨us, u1, u2, und, uf1, uf2, u3⟩ := id hL3
    walk_at "rd"
    refine rd_lenL (SqL.of u1) ?_
    walk_at "rd"
    refine rd_ite (fun h0 => ?_) (fun h0 => absurd (by rw [List.length_map]; omega) h0)
    refine ⟨fun _ _ => False, fun σ' H' w => w.elim, ?_⟩
    walk_at "rd"
    refine rd_lenL (SqL.of u1) ?_
    walk_at "rd"
    refine ⟨_, rfl, by rw [List.length_map]; omega, by rw [List.length_map]; omega, ?_⟩
    have en : (((us.map V.ref).length : Nat) : Int).toNat = 1 := by rw [List.length_map]; omega
    rw [en]
    intro E2 hE2
    refine lc_same (n := 1) (wk_rng 1) (by omega) hE2 (fun _ _ => True.intro) (fun _ => true) (fun j => V.int (at2 M j j)) (fun j hj H4 _ R hR => hR H4 (Same.refl H4)) (fun j hj _ H4 s4 R hR => ?_) (fun H4 s4 hl4 => ?_)
    · rw [Int.zero_add]
      obtain ⟨w2, r2, y1, y2, y3, y4⟩ := LL.row (K := K) (i := j) (hL3.same s4).ll (by omega)
      walk_at "rd"
      refine rd_ixL y1 (ref_at y3) ?_
      walk_at "rd"
      refine rd_ixL y4 (int_at (by rw [hM]; obtain rfl : j = 0 := by omega
                                   exact Nat.zero_lt_one)) ?_
      exact hR H4 (Same.refl H4)
    rw [filt_yes] at hl4
    have hS : SqL K H4 E2 (((List.range 1).map fun j => at2 M j j).map V.int) := SqL.of (by rw [hl4, List.map_map]; rfl)
    walk_at "rd"
    refine ⟨E2, _, rfl, hS, by rw [List.length_map]; decide, fun mn hmn1 hmn2 => ?_⟩
    walk_at "rd"
    obtain ⟨t, ht, et⟩ := List.mem_map.mp hmn1
    have ht := List.mem_range.mp ht
    obtain rfl : t = 0 := by omega
    have e0 : at2 M 0 0 = x := by rw [hM]; rfl
    refine rd_ite (fun hneg => ?_) (fun hneg => absurd (by rw [← et]; show at2 M 0 0 < 0; omega) hneg)
    walk_at "rd"
    exact k false H4 (s3.trans s4)
end
section
variable {P : Program} {w : World} {K : PySem.W.Frag} {mg : Str → Option Value} {base : Heap}
theorem okis_integer (B : Bi mg) (D : DefAt K mg "is_integer" sis_integer ["value"]) (chas_digits : CalA P w K mg base "has_digits" 2 ["number", "most"] (spShort)) : CalA P w K mg base "is_integer" 3 ["value"] (spIntD) := by
  refine cala_of D scis_integer (fun vs H Q E h => ?_) (fun f cdv A outer s H vs Q E hr h => ?_)
  · obtain ⟨v, d, rfl, _⟩ := h; rfl
  · have hu := hr.units
    have hrhas_digits := hr.mono (show 2 ≤ 2 by decide)
    obtain ⟨t_MAX_DIGITS, k_MAX_DIGITS⟩ := B.c_MAX_DIGITS
    skip
    refine ⟨_, (pss_one (ps_ret (pe_and (pe_callB (r := rIsi K) (by exact call_isi) (by rfl) B.b_isinstance (by decide +kernel) (pa_cons (pv 0) (pa_cons (pe_bltn (v := .ty "int") (u := .type "int") (by rfl) B.b_int (by decide +kernel) rfl) pa_nil))) (pe_and (pe_not (pe_callB (r := rIsi K) (by exact call_isi) (by rfl) B.b_isinstance (by decide +kernel) (pa_cons (pv 0) (pa_cons (pe_bltn (v := .ty "bool") (u := .type "bool") (by rfl) B.b_bool (by decide +kernel) rfl) pa_nil)))) (pe_one (ac chas_digits hrhas_digits (by rfl) (pa_cons (pv 0) (pa_cons (pe_glob (v := .int 2000) (by rfl) k_MAX_DIGITS ⟨_, rfl⟩) pa_nil)))))))), ?_⟩
    obtain ⟨v, d, rfl, hv, k⟩ := h
    refine rd_at [some v] rfl ?_
    walk_at "rd"
    cases hv with
    | int i =>
      refine rd_isiD (.int i) (b := true) (show kitB "int" "int" = some true by decide +kernel) ?_
      walk_at "rd"
      refine rd_isiD (.int i) (b := false) (show kitB "int" "bool" = some false by decide +kernel) ?_
      walk_at "rd"
      refine rd_ifb (fun _ => ?_) (fun z => nomatch z)
      walk_at "rd"
      exact ⟨i, rfl, k⟩
    | bl b =>
      refine rd_isiD (.bl b) (b := true) (show kitB "bool" "int" = some true by decide +kernel) ?_
      walk_at "rd"
      refine rd_isiD (.bl b) (b := true) (show kitB "bool" "bool" = some true by decide +kernel) ?_
      walk_at "rd"
      refine rd_ifb (fun z => nomatch z) (fun _ => ?_)
      exact k
    | non =>
      refine rd_isiD .non (b := false) (show kitB "NoneType" "int" = some false by decide +kernel) ?_
      walk_at "rd"
      exact k
    | str z =>
      refine rd_isiD (.str z) (b := false) (show kitB "str" "int" = some false by decide +kernel) ?_
      walk_at "rd"
      exact k
    | lst e t =>
      refine rd_isiD (.lst e t) (b := false) (show kitB "list" "int" = some false by decide +kernel) ?_
      walk_at "rd"
      exact k
    | tup e t =>
      refine rd_isiD (.tup e t) (b := false) (show kitB "tuple" "int" = some false by decide +kernel) ?_
      walk_at "rd"
      exact k
    | dic e =>
      refine rd_isiD (.dic e) (b := false) (show kitB "dict" "int" = some false by decide +kernel) ?_
      walk_at "rd"
      exact k
end
section
variable {P : Program} {w : World} {K : PySem.W.Frag} {mg : Str → Option Value} {base : Heap}
theorem ok_law_bad_rows (B : Bi mg) (D : DefAt K mg "_law_bad_rows" s_law_bad_rows ["_law_bag_here"]) (c_law_great : CalA P w K mg base "_law_great" 1 [] (spGreat)) (c_law_one_of : CalA P w K mg base "_law_one_of" 2 ["_law_bag_here", "_law_items"] (spOne K)) : CalA P w K mg base "_law_bad_rows" 3 ["_law_bag_here"] (spBadRows) := by
  refine cala_of D sc_law_bad_rows (fun vs H Q E h => ?_) (fun f cdv A outer s H vs Q E hr h => ?_)
  · obtain ⟨a, rfl, _⟩ := h; rfl
  · have hu := hr.units
    have hr_law_great := hr.mono (show 1 ≤ 2 by decide)
    have hr_law_one_of := hr.mono (show 2 ≤ 2 by decide)
    skip
    refine ⟨_, (pss_cons (ps_set (i := 1) sc_law_bad_rows.nd rfl (by first | exact Or.inl rfl | exact Or.inr rfl) (pe_lst (pa_cons pe_non (pa_cons pe_int (pa_cons pe_bl (pa_cons pe_str (pa_cons (pe_lst (pa_cons (pe_tup (pa_cons pe_int (pa_cons pe_int pa_nil))) pa_nil)) (pa_cons (pe_tup (pa_cons (pe_lst (pa_cons pe_int (pa_cons pe_int pa_nil))) pa_nil)) (pa_cons (pe_tup (pa_cons (pe_tup (pa_cons pe_int (pa_cons pe_int pa_nil))) (pa_cons (pe_tup (pa_cons pe_int pa_nil)) pa_nil))) (pa_cons (pe_tup (pa_cons (pe_tup pa_nil) pa_nil)) (pa_cons (pe_tup (pa_cons (pe_tup (pa_cons pe_int (pa_cons pe_bl pa_nil))) pa_nil)) (pa_cons (pe_tup (pa_cons (pe_tup (pa_cons pe_int (pa_cons pe_str pa_nil))) pa_nil)) (pa_cons (pe_tup (pa_cons (pe_tup (pa_cons pe_int (pa_cons pe_non pa_nil))) pa_nil)) (pa_cons pe_dnewK pa_nil))))))))))))))
        (pss_cons (ps_set (i := 1) sc_law_bad_rows.nd rfl (by first | exact Or.inl rfl | exact Or.inr rfl) (pe_op op_cat (pv 1) (pe_lst (pa_cons (pe_tup (pa_cons (pe_tup (pa_cons pe_int (pa_cons (ac0 c_law_great hr_law_great (by rfl)) pa_nil))) pa_nil)) (pa_cons (pe_tup (pa_cons (pe_tup (pa_cons (pe_op op_sub pe_int (ac0 c_law_great hr_law_great (by rfl))) (pa_cons pe_int pa_nil))) pa_nil)) (pa_cons (pe_tup (pa_cons (pe_op (r := rRepT K) (by exact op_repT) (pe_tup (pa_cons pe_int pa_nil)) pe_int) pa_nil)) (pa_cons (pe_op (r := rRepT K) (by exact op_repT) (pe_tup (pa_cons (pe_tup (pa_cons pe_int (pa_cons pe_int pa_nil))) pa_nil)) pe_int) (pa_cons (pe_tup (pa_cons pe_int (pa_cons pe_int pa_nil))) (pa_cons (pe_tup (pa_cons (pe_tup (pa_cons pe_int (pa_cons (pe_tup (pa_cons pe_int pa_nil)) pa_nil))) pa_nil)) (pa_cons (pe_tup (pa_cons pe_str pa_nil)) pa_nil))))))))))
        (pss_one (ps_ret (ac c_law_one_of hr_law_one_of (by rfl) (pa_cons (pv 0) (pa_cons (pv 1) pa_nil))))))), ?_⟩
    obtain ⟨a, rfl, hb, k⟩ := h
    refine rd_at [some (.ref a), none] rfl ?_
    walk_at "rd"
    intro p1 h1
    walk_at "rd"
    intro p2 h2
    walk_at "rd"
    intro p3 h3
    walk_at "rd"
    intro p4 h4
    walk_at "rd"
    intro p5 h5
    walk_at "rd"
    intro p6 h6
    walk_at "rd"
    intro p7 h7
    walk_at "rd"
    intro p8 h8
    walk_at "rd"
    intro p9 h9
    walk_at "rd"
    intro p10 h10
    walk_at "rd"
    intro p11 h11
    walk_at "rd"
    intro p12 h12
    walk_at "rd"
    intro p13 h13
    walk_at "rd"
    intro p14 h14
    walk_at "rd"
    intro p15 h15
    walk_at "rd"
    intro p16 h16
    walk_at "rd"
    intro p17 h17
    walk_at "rd"
    refine ⟨rfl, ?_⟩
    walk_at "rd"
    intro p18 h18
    walk_at "rd"
    intro p19 h19
    walk_at "rd"
    refine ⟨rfl, ?_⟩
    walk_at "rd"
    intro p20 h20
    walk_at "rd"
    intro p21 h21
    walk_at "rd"
    intro p22 h22
    walk_at "rd"
    refine ⟨p22, 29, [.int 0], rfl, rfl, SqT.of upd_same, (fun z => nomatch z), by decide, by decide, Nat.le_of_ble_eq_true rfl, fun p23 h23 => ?_⟩
    walk_at "rd"
    intro p24 h24
    walk_at "rd"
    intro p25 h25
    walk_at "rd"
    intro p26 h26
    walk_at "rd"
    refine ⟨p26, 61, [.ref p25], rfl, rfl, SqT.of upd_same, (fun z => nomatch z), by decide, by decide, Nat.le_of_ble_eq_true rfl, fun p27 h27 => ?_⟩
    walk_at "rd"
    intro p28 h28
    walk_at "rd"
    intro p29 h29
    walk_at "rd"
    intro p30 h30
    walk_at "rd"
    intro p31 h31
    walk_at "rd"
    intro p32 h32
    walk_at "rd"
    intro p33 h33
    walk_at "rd"
    refine ⟨p17, p33, _, _, rfl, rfl, (up_old h33 (up_old h32 (up_old h31 (up_old h30 (up_old h29 (up_old h28 (up_old h27 (up_old h26 (up_old h25 (up_old h24 (up_old h23 (up_old h22 (up_old h21 (up_old h20 (up_old h19 (up_old h18 upd_same)))))))))))))))), upd_same, Nat.le_trans (Nat.le_of_ble_eq_true rfl) (show 30 ≤ sizeLine by decide), fun p34 h34 => ?_⟩
    walk_at "rd"
    have b1 := hb.old (u := .tup [.int 1, .int 2]) h1
    have b2 := b1.old (u := .lst [.ref p1]) h2
    have b3 := b2.old (u := .lst [.int 1, .int 2]) h3
    have b4 := b3.old (u := .tup [.ref p3]) h4
    have b5 := b4.old (u := .tup [.int 1, .int 2]) h5
    have b6 := b5.old (u := .tup [.int 3]) h6
    have b7 := b6.old (u := .tup [.ref p5, .ref p6]) h7
    have b8 := b7.old (u := .tup []) h8
    have b9 := b8.old (u := .tup [.ref p8]) h9
    have b10 := b9.old (u := .tup [.int 1, .bl true]) h10
    have b11 := b10.old (u := .tup [.ref p10]) h11
    have b12 := b11.old (u := .tup [.int 1, .str "2"]) h12
    have b13 := b12.old (u := .tup [.ref p12]) h13
    have b14 := b13.old (u := .tup [.int 1, .non]) h14
    have b15 := b14.old (u := .tup [.ref p14]) h15
    have b16 := b15.old (u := .dK []) h16
    have b17 := b16.old (u := .lst [.non, .int 3, .bl true, .str "12", .ref p2, .ref p4, .ref p7, .ref p9, .ref p11, .ref p13, .ref p15, .ref p16]) h17
    have b18 := b17.old (u := .tup [.int 1, .int (10 ^ 2000)]) h18
    have b19 := b18.old (u := .tup [.ref p18]) h19
    have b20 := b19.old (u := .tup [.int (0 - 10 ^ 2000), .int 1]) h20
    have b21 := b20.old (u := .tup [.ref p20]) h21
    have b22 := b21.old (u := .tup [.int 0]) h22
    have b23 := b22.old (u := .tup (List.replicate (Int.toNat 29) ([.int 0] : List V)).flatten) h23
    have b24 := b23.old (u := .tup [.ref p23]) h24
    have b25 := b24.old (u := .tup [.int 1, .int 2]) h25
    have b26 := b25.old (u := .tup [.ref p25]) h26
    have b27 := b26.old (u := .tup (List.replicate (Int.toNat 61) ([.ref p25] : List V)).flatten) h27
    have b28 := b27.old (u := .tup [.int 1, .int 2]) h28
    have b29 := b28.old (u := .tup [.int 2]) h29
    have b30 := b29.old (u := .tup [.int 1, .ref p29]) h30
    have b31 := b30.old (u := .tup [.ref p30]) h31
    have b32 := b31.old (u := .tup [.str "ab"]) h32
    have b33 := b32.old (u := .lst [.ref p19, .ref p21, .ref p24, .ref p27, .ref p28, .ref p31, .ref p32]) h33
    have b34 := b33.old (u := .lst ([.non, .int 3, .bl true, .str "12", .ref p2, .ref p4, .ref p7, .ref p9, .ref p11, .ref p13, .ref p15, .ref p16] ++ [.ref p19, .ref p21, .ref p24, .ref p27, .ref p28, .ref p31, .ref p32])) h34
    refine ⟨a, _, rfl, b34, Or.inl ⟨p34, _, rfl, b33.ne h34, SqL.of upd_same, Nat.le_of_ble_eq_true rfl, Nat.le_of_ble_eq_true rfl, fun v H1 hv b hb1 => ?_⟩⟩
    have at_ : ∀ {q xs}, (upd (upd (upd (upd (upd (upd (upd (upd (upd (upd (upd (upd (upd (upd (upd (upd (upd (upd (upd (upd (upd (upd (upd (upd (upd (upd (upd (upd (upd (upd (upd (upd (upd (upd H p1 (.tup [.int 1, .int 2])) p2 (.lst [.ref p1])) p3 (.lst [.int 1, .int 2])) p4 (.tup [.ref p3])) p5 (.tup [.int 1, .int 2])) p6 (.tup [.int 3])) p7 (.tup [.ref p5, .ref p6])) p8 (.tup [])) p9 (.tup [.ref p8])) p10 (.tup [.int 1, .bl true])) p11 (.tup [.ref p10])) p12 (.tup [.int 1, .str "2"])) p13 (.tup [.ref p12])) p14 (.tup [.int 1, .non])) p15 (.tup [.ref p14])) p16 (.dK [])) p17 (.lst [.non, .int 3, .bl true, .str "12", .ref p2, .ref p4, .ref p7, .ref p9, .ref p11, .ref p13, .ref p15, .ref p16])) p18 (.tup [.int 1, .int (10 ^ 2000)])) p19 (.tup [.ref p18])) p20 (.tup [.int (0 - 10 ^ 2000), .int 1])) p21 (.tup [.ref p20])) p22 (.tup [.int 0])) p23 (.tup (List.replicate (Int.toNat 29) ([.int 0] : List V)).flatten)) p24 (.tup [.ref p23])) p25 (.tup [.int 1, .int 2])) p26 (.tup [.ref p25])) p27 (.tup (List.replicate (Int.toNat 61) ([.ref p25] : List V)).flatten)) p28 (.tup [.int 1, .int 2])) p29 (.tup [.int 2])) p30 (.tup [.int 1, .ref p29])) p31 (.tup [.ref p30])) p32 (.tup [.str "ab"])) p33 (.lst [.ref p19, .ref p21, .ref p24, .ref p27, .ref p28, .ref p31, .ref p32])) p34 (.lst ([.non, .int 3, .bl true, .str "12", .ref p2, .ref p4, .ref p7, .ref p9, .ref p11, .ref p13, .ref p15, .ref p16] ++ [.ref p19, .ref p21, .ref p24, .ref p27, .ref p28, .ref p31, .ref p32]))) q = some (.tup xs) → del H1 a q = some (.tup xs) := fun {q xs} e => hb1.del_tup (b q _ (fun z => by
      have e' := b34.del_tup e
      rw [z, del_same] at e'
      cases e') e)
    have kk : ∀ d, AnyD (del H1 a) v d → noDics d → dRows d = false → Q v H1 := fun d => k H1 v d (fun c o hc e => b _ _ hc (up_old h34 (up_old h33 (up_old h32 (up_old h31 (up_old h30 (up_old h29 (up_old h28 (up_old h27 (up_old h26 (up_old h25 (up_old h24 (up_old h23 (up_old h22 (up_old h21 (up_old h20 (up_old h19 (up_old h18 (up_old h17 (up_old h16 (up_old h15 (up_old h14 (up_old h13 (up_old h12 (up_old h11 (up_old h10 (up_old h9 (up_old h8 (up_old h7 (up_old h6 (up_old h5 (up_old h4 (up_old h3 (up_old h2 (up_old h1 e))))))))))))))))))))))))))))))))))) hb1
    simp only [List.cons_append, List.nil_append, List.mem_cons, List.not_mem_nil, or_false] at hv
    rcases hv with rfl | rfl | rfl | rfl | rfl | rfl | rfl | rfl | rfl | rfl | rfl | rfl | rfl | rfl | rfl | rfl | rfl | rfl | rfl
    · exact kk _ .non (noDics_by rfl) rfl
    · exact kk _ (.int 3) (noDics_by rfl) rfl
    · exact kk _ (.bl true) (noDics_by rfl) rfl
    · exact kk _ (.str "12") (noDics_by rfl) rfl
    · exact kk _ (.lst (xs := [.ref p1]) (by rw [del_ne (b1.ne h2)]; exact b _ _ (b1.ne h2) (up_old h34 (up_old h33 (up_old h32 (up_old h31 (up_old h30 (up_old h29 (up_old h28 (up_old h27 (up_old h26 (up_old h25 (up_old h24 (up_old h23 (up_old h22 (up_old h21 (up_old h20 (up_old h19 (up_old h18 (up_old h17 (up_old h16 (up_old h15 (up_old h14 (up_old h13 (up_old h12 (up_old h11 (up_old h10 (up_old h9 (up_old h8 (up_old h7 (up_old h6 (up_old h5 (up_old h4 (up_old h3 upd_same))))))))))))))))))))))))))))))))) (.cons (.tup (at_ (up_old h34 (up_old h33 (up_old h32 (up_old h31 (up_old h30 (up_old h29 (up_old h28 (up_old h27 (up_old h26 (up_old h25 (up_old h24 (up_old h23 (up_old h22 (up_old h21 (up_old h20 (up_old h19 (up_old h18 (up_old h17 (up_old h16 (up_old h15 (up_old h14 (up_old h13 (up_old h12 (up_old h11 (up_old h10 (up_old h9 (up_old h8 (up_old h7 (up_old h6 (up_old h5 (up_old h4 (up_old h3 (up_old h2 upd_same)))))))))))))))))))))))))))))))))) (.cons (.int 1) (.cons (.int 2) .nil))) .nil)) (noDics_by rfl) rfl
    · exact kk _ (.tup (at_ (up_old h34 (up_old h33 (up_old h32 (up_old h31 (up_old h30 (up_old h29 (up_old h28 (up_old h27 (up_old h26 (up_old h25 (up_old h24 (up_old h23 (up_old h22 (up_old h21 (up_old h20 (up_old h19 (up_old h18 (up_old h17 (up_old h16 (up_old h15 (up_old h14 (up_old h13 (up_old h12 (up_old h11 (up_old h10 (up_old h9 (up_old h8 (up_old h7 (up_old h6 (up_old h5 upd_same))))))))))))))))))))))))))))))) (.cons (.lst (xs := [.int 1, .int 2]) (by rw [del_ne (b2.ne h3)]; exact b _ _ (b2.ne h3) (up_old h34 (up_old h33 (up_old h32 (up_old h31 (up_old h30 (up_old h29 (up_old h28 (up_old h27 (up_old h26 (up_old h25 (up_old h24 (up_old h23 (up_old h22 (up_old h21 (up_old h20 (up_old h19 (up_old h18 (up_old h17 (up_old h16 (up_old h15 (up_old h14 (up_old h13 (up_old h12 (up_old h11 (up_old h10 (up_old h9 (up_old h8 (up_old h7 (up_old h6 (up_old h5 (up_old h4 upd_same)))))))))))))))))))))))))))))))) (.cons (.int 1) (.cons (.int 2) .nil))) .nil)) (noDics_by rfl) rfl
    · exact kk _ (.tup (at_ (up_old h34 (up_old h33 (up_old h32 (up_old h31 (up_old h30 (up_old h29 (up_old h28 (up_old h27 (up_old h26 (up_old h25 (up_old h24 (up_old h23 (up_old h22 (up_old h21 (up_old h20 (up_old h19 (up_old h18 (up_old h17 (up_old h16 (up_old h15 (up_old h14 (up_old h13 (up_old h12 (up_old h11 (up_old h10 (up_old h9 (up_old h8 upd_same)))))))))))))))))))))))))))) (.cons (.tup (at_ (up_old h34 (up_old h33 (up_old h32 (up_old h31 (up_old h30 (up_old h29 (up_old h28 (up_old h27 (up_old h26 (up_old h25 (up_old h24 (up_old h23 (up_old h22 (up_old h21 (up_old h20 (up_old h19 (up_old h18 (up_old h17 (up_old h16 (up_old h15 (up_old h14 (up_old h13 (up_old h12 (up_old h11 (up_old h10 (up_old h9 (up_old h8 (up_old h7 (up_old h6 upd_same)))))))))))))))))))))))))))))) (.cons (.int 1) (.cons (.int 2) .nil))) (.cons (.tup (at_ (up_old h34 (up_old h33 (up_old h32 (up_old h31 (up_old h30 (up_old h29 (up_old h28 (up_old h27 (up_old h26 (up_old h25 (up_old h24 (up_old h23 (up_old h22 (up_old h21 (up_old h20 (up_old h19 (up_old h18 (up_old h17 (up_old h16 (up_old h15 (up_old h14 (up_old h13 (up_old h12 (up_old h11 (up_old h10 (up_old h9 (up_old h8 (up_old h7 upd_same))))))))))))))))))))))))))))) (.cons (.int 3) .nil)) .nil))) (noDics_by rfl) rfl
    · exact kk _ (.tup (at_ (up_old h34 (up_old h33 (up_old h32 (up_old h31 (up_old h30 (up_old h29 (up_old h28 (up_old h27 (up_old h26 (up_old h25 (up_old h24 (up_old h23 (up_old h22 (up_old h21 (up_old h20 (up_old h19 (up_old h18 (up_old h17 (up_old h16 (up_old h15 (up_old h14 (up_old h13 (up_old h12 (up_old h11 (up_old h10 upd_same)))))))))))))))))))))))))) (.cons (.tup (at_ (up_old h34 (up_old h33 (up_old h32 (up_old h31 (up_old h30 (up_old h29 (up_old h28 (up_old h27 (up_old h26 (up_old h25 (up_old h24 (up_old h23 (up_old h22 (up_old h21 (up_old h20 (up_old h19 (up_old h18 (up_old h17 (up_old h16 (up_old h15 (up_old h14 (up_old h13 (up_old h12 (up_old h11 (up_old h10 (up_old h9 upd_same))))))))))))))))))))))))))) .nil) .nil)) (noDics_by rfl) rfl
    · exact kk _ (.tup (at_ (up_old h34 (up_old h33 (up_old h32 (up_old h31 (up_old h30 (up_old h29 (up_old h28 (up_old h27 (up_old h26 (up_old h25 (up_old h24 (up_old h23 (up_old h22 (up_old h21 (up_old h20 (up_old h19 (up_old h18 (up_old h17 (up_old h16 (up_old h15 (up_old h14 (up_old h13 (up_old h12 upd_same)))))))))))))))))))))))) (.cons (.tup (at_ (up_old h34 (up_old h33 (up_old h32 (up_old h31 (up_old h30 (up_old h29 (up_old h28 (up_old h27 (up_old h26 (up_old h25 (up_old h24 (up_old h23 (up_old h22 (up_old h21 (up_old h20 (up_old h19 (up_old h18 (up_old h17 (up_old h16 (up_old h15 (up_old h14 (up_old h13 (up_old h12 (up_old h11 upd_same))))))))))))))))))))))))) (.cons (.int 1) (.cons (.bl true) .nil))) .nil)) (noDics_by rfl) rfl
    · exact kk _ (.tup (at_ (up_old h34 (up_old h33 (up_old h32 (up_old h31 (up_old h30 (up_old h29 (up_old h28 (up_old h27 (up_old h26 (up_old h25 (up_old h24 (up_old h23 (up_old h22 (up_old h21 (up_old h20 (up_old h19 (up_old h18 (up_old h17 (up_old h16 (up_old h15 (up_old h14 upd_same)))))))))))))))))))))) (.cons (.tup (at_ (up_old h34 (up_old h33 (up_old h32 (up_old h31 (up_old h30 (up_old h29 (up_old h28 (up_old h27 (up_old h26 (up_old h25 (up_old h24 (up_old h23 (up_old h22 (up_old h21 (up_old h20 (up_old h19 (up_old h18 (up_old h17 (up_old h16 (up_old h15 (up_old h14 (up_old h13 upd_same))))))))))))))))))))))) (.cons (.int 1) (.cons (.str "2") .nil))) .nil)) (noDics_by rfl) rfl
    · exact kk _ (.tup (at_ (up_old h34 (up_old h33 (up_old h32 (up_old h31 (up_old h30 (up_old h29 (up_old h28 (up_old h27 (up_old h26 (up_old h25 (up_old h24 (up_old h23 (up_old h22 (up_old h21 (up_old h20 (up_old h19 (up_old h18 (up_old h17 (up_old h16 upd_same)))))))))))))))))))) (.cons (.tup (at_ (up_old h34 (up_old h33 (up_old h32 (up_old h31 (up_old h30 (up_old h29 (up_old h28 (up_old h27 (up_old h26 (up_old h25 (up_old h24 (up_old h23 (up_old h22 (up_old h21 (up_old h20 (up_old h19 (up_old h18 (up_old h17 (up_old h16 (up_old h15 upd_same))))))))))))))))))))) (.cons (.int 1) (.cons .non .nil))) .nil)) (noDics_by rfl) rfl
    · exact kk _ (.dic (hb1.del_dic (b _ _ (fun z => b15.ne h16 z) (up_old h34 (up_old h33 (up_old h32 (up_old h31 (up_old h30 (up_old h29 (up_old h28 (up_old h27 (up_old h26 (up_old h25 (up_old h24 (up_old h23 (up_old h22 (up_old h21 (up_old h20 (up_old h19 (up_old h18 (up_old h17 upd_same))))))))))))))))))))) (noDics_by rfl) rfl
    · exact kk _ (.tup (at_ (up_old h34 (up_old h33 (up_old h32 (up_old h31 (up_old h30 (up_old h29 (up_old h28 (up_old h27 (up_old h26 (up_old h25 (up_old h24 (up_old h23 (up_old h22 (up_old h21 (up_old h20 upd_same)))))))))))))))) (.cons (.tup (at_ (up_old h34 (up_old h33 (up_old h32 (up_old h31 (up_old h30 (up_old h29 (up_old h28 (up_old h27 (up_old h26 (up_old h25 (up_old h24 (up_old h23 (up_old h22 (up_old h21 (up_old h20 (up_old h19 upd_same))))))))))))))))) (.cons (.int 1) (.cons (.int (10 ^ 2000)) .nil))) .nil)) (noDics_by rfl) (by walk_at "badrow")
    · exact kk _ (.tup (at_ (up_old h34 (up_old h33 (up_old h32 (up_old h31 (up_old h30 (up_old h29 (up_old h28 (up_old h27 (up_old h26 (up_old h25 (up_old h24 (up_old h23 (up_old h22 upd_same)))))))))))))) (.cons (.tup (at_ (up_old h34 (up_old h33 (up_old h32 (up_old h31 (up_old h30 (up_old h29 (up_old h28 (up_old h27 (up_old h26 (up_old h25 (up_old h24 (up_old h23 (up_old h22 (up_old h21 upd_same))))))))))))))) (.cons (.int (0 - 10 ^ 2000)) (.cons (.int 1) .nil))) .nil)) (noDics_by rfl) (by walk_at "badrow")
    · exact kk _ (.tup (at_ (up_old h34 (up_old h33 (up_old h32 (up_old h31 (up_old h30 (up_old h29 (up_old h28 (up_old h27 (up_old h26 (up_old h25 upd_same))))))))))) (.cons (.tup (at_ (up_old h34 (up_old h33 (up_old h32 (up_old h31 (up_old h30 (up_old h29 (up_old h28 (up_old h27 (up_old h26 (up_old h25 (up_old h24 upd_same)))))))))))) (.ints (ns := List.replicate 29 0) rfl)) .nil)) (noDics_by rfl) rfl
    · exact kk _ (.tup (at_ (up_old h34 (up_old h33 (up_old h32 (up_old h31 (up_old h30 (up_old h29 (up_old h28 upd_same)))))))) (any_rep 61 (.tup (at_ (up_old h34 (up_old h33 (up_old h32 (up_old h31 (up_old h30 (up_old h29 (up_old h28 (up_old h27 (up_old h26 upd_same)))))))))) (.cons (.int 1) (.cons (.int 2) .nil))))) (noDics_by rfl) (by walk_at "badrow")
    · exact kk _ (.tup (at_ (up_old h34 (up_old h33 (up_old h32 (up_old h31 (up_old h30 (up_old h29 upd_same))))))) (.cons (.int 1) (.cons (.int 2) .nil))) (noDics_by rfl) rfl
    · exact kk _ (.tup (at_ (up_old h34 (up_old h33 (up_old h32 upd_same)))) (.cons (.tup (at_ (up_old h34 (up_old h33 (up_old h32 (up_old h31 upd_same))))) (.cons (.int 1) (.cons (.tup (at_ (up_old h34 (up_old h33 (up_old h32 (up_old h31 (up_old h30 upd_same)))))) (.cons (.int 2) .nil)) .nil))) .nil)) (noDics_by rfl) rfl
    · exact kk _ (.tup (at_ (up_old h34 (up_old h33 upd_same))) (.cons (.str "ab") .nil)) (noDics_by rfl) rfl
end
section
variable {P : Program} {w : World} {K : PySem.W.Frag} {mg : Str → Option Value} {base : Heap}
theorem ok_law_bad_row (B : Bi mg) (D : DefAt K mg "_law_bad_row" s_law_bad_row ["_law_bag_here"]) (c_law_great : CalA P w K mg base "_law_great" 1 [] (spGreat)) (c_law_one_of : CalA P w K mg base "_law_one_of" 2 ["_law_bag_here", "_law_items"] (spOne K)) : CalA P w K mg base "_law_bad_row" 3 ["_law_bag_here"] (spBadRow) := by
  refine cala_of D sc_law_bad_row (fun vs H Q E h => ?_) (fun f cdv A outer s H vs Q E hr h => ?_)
  · obtain ⟨a, rfl, _⟩ := h; rfl
  · have hu := hr.units
    have hr_law_great := hr.mono (show 1 ≤ 2 by decide)
    have hr_law_one_of := hr.mono (show 2 ≤ 2 by decide)
    skip
    refine ⟨_, (pss_cons (ps_set (i := 1) sc_law_bad_row.nd rfl (by first | exact Or.inl rfl | exact Or.inr rfl) (pe_lst (pa_cons pe_non (pa_cons (pe_tup pa_nil) (pa_cons (pe_lst (pa_cons pe_int (pa_cons pe_int pa_nil))) (pa_cons pe_int (pa_cons pe_str (pa_cons (pe_tup (pa_cons pe_int (pa_cons pe_bl pa_nil))) (pa_cons (pe_op (r := rRepT K) (by exact op_repT) (pe_tup (pa_cons pe_int pa_nil)) pe_int) (pa_cons (pe_tup (pa_cons pe_int (pa_cons pe_non pa_nil))) (pa_cons (pe_tup (pa_cons (ac0 c_law_great hr_law_great (by rfl)) (pa_cons pe_int pa_nil))) (pa_cons (pe_tup (pa_cons (pe_tup (pa_cons pe_int (pa_cons pe_int pa_nil))) pa_nil)) (pa_cons pe_dnewK (pa_cons (pe_tup (pa_cons pe_int (pa_cons pe_str pa_nil))) pa_nil))))))))))))))
        (pss_one (ps_ret (ac c_law_one_of hr_law_one_of (by rfl) (pa_cons (pv 0) (pa_cons (pv 1) pa_nil)))))), ?_⟩
    obtain ⟨a, rfl, hb, k⟩ := h
    refine rd_at [some (.ref a), none] rfl ?_
    walk_at "rd"
    intro p1 h1
    walk_at "rd"
    intro p2 h2
    walk_at "rd"
    intro p3 h3
    walk_at "rd"
    intro p4 h4
    walk_at "rd"
    refine ⟨p4, 29, [.int 0], rfl, rfl, SqT.of (by walk_at "hp"), by decide, by decide, by decide, by decide, fun p5 h5 => ?_⟩
    walk_at "rd"
    intro p6 h6
    walk_at "rd"
    refine ⟨rfl, ?_⟩
    walk_at "rd"
    intro p7 h7
    walk_at "rd"
    intro p8 h8
    walk_at "rd"
    intro p9 h9
    walk_at "rd"
    intro p10 h10
    walk_at "rd"
    intro p11 h11
    walk_at "rd"
    intro p12 h12
    walk_at "rd"
    have b1 := hb.old (u := .tup []) h1
    have b2 := b1.old (u := .lst [.int 1, .int 2]) h2
    have n2 := b1.ne h2
    have b3 := b2.old (u := .tup [.int 1, .bl true]) h3
    have b4 := b3.old (u := .tup [.int 0]) h4
    have b5 := b4.old (u := .tup (List.replicate (Int.toNat 29) [V.int 0]).flatten) h5
    have b6 := b5.old (u := .tup [.int 1, .non]) h6
    have b7 := b6.old (u := .tup [.int (10 ^ 2000), .int 1]) h7
    have b8 := b7.old (u := .tup [.int 1, .int 2]) h8
    have b9 := b8.old (u := .tup [.ref p8]) h9
    have b10 := b9.old (u := .dK []) h10
    have b11 := b10.old (u := .tup [.int 1, .str "2"]) h11
    have n12 := b11.ne h12
    have b12 := b11.old (u := .lst [.non, .ref p1, .ref p2, .int 5, .str "12", .ref p3, .ref p5, .ref p6, .ref p7, .ref p9, .ref p10, .ref p11]) h12
    refine ⟨a, _, rfl, b12, Or.inl ⟨p12, _, rfl, n12, SqL.of upd_same, Nat.le_of_ble_eq_true rfl, Nat.le_of_ble_eq_true rfl, fun v H1 hv b hb1 => ?_⟩⟩
    have at_ : ∀ {q xs}, (upd (upd (upd (upd (upd (upd (upd (upd (upd (upd (upd (upd H p1 (.tup [])) p2 (.lst [.int 1, .int 2])) p3 (.tup [.int 1, .bl true])) p4 (.tup [.int 0])) p5 (.tup (List.replicate (Int.toNat 29) [V.int 0]).flatten)) p6 (.tup [.int 1, .non])) p7 (.tup [.int (10 ^ 2000), .int 1])) p8 (.tup [.int 1, .int 2])) p9 (.tup [.ref p8])) p10 (.dK [])) p11 (.tup [.int 1, .str "2"])) p12 (.lst [.non, .ref p1, .ref p2, .int 5, .str "12", .ref p3, .ref p5, .ref p6, .ref p7, .ref p9, .ref p10, .ref p11])) q = some (.tup xs) → del H1 a q = some (.tup xs) := fun {q xs} e => hb1.del_tup (b q _ (fun z => by
      have e' := b12.del_tup e
      rw [z, del_same] at e'
      cases e') e)
    have kk : ∀ d, AnyD (del H1 a) v d → noDic d → dRow d = false → Q v H1 := fun d => k H1 v d (fun c o hc e => b _ _ hc (by walk_at "hp")) hb1
    simp only [List.mem_cons, List.not_mem_nil, or_false] at hv
    rcases hv with rfl | rfl | rfl | rfl | rfl | rfl | rfl | rfl | rfl | rfl | rfl | rfl
    · exact kk _ .non trivial rfl
    · exact kk _ (.tup (at_ (by walk_at "hp")) .nil) (fun x hx => nomatch hx) rfl
    · refine kk _ (.lst (xs := [.int 1, .int 2]) ?_ (.cons (.int 1) (.cons (.int 2) .nil))) trivial rfl
      rw [del_ne n2]
      exact b _ _ n2 (by walk_at "hp")
    · exact kk _ (.int 5) trivial rfl
    · exact kk _ (.str "12") trivial rfl
    · exact kk _ (.tup (at_ (by walk_at "hp")) (.cons (.int 1) (.cons (.bl true) .nil))) (fun x hx => by simp at hx; rcases hx with rfl | rfl <;> exact fun z => nomatch z) rfl
    · exact kk _ (.tup (at_ (by walk_at "hp")) (.ints (ns := List.replicate 29 0) rfl)) (fun x hx => by obtain ⟨y, _, rfl⟩ := List.mem_map.mp hx; exact fun z => nomatch z) rfl
    · exact kk _ (.tup (at_ (by walk_at "hp")) (.cons (.int 1) (.cons .non .nil))) (fun x hx => by simp at hx; rcases hx with rfl | rfl <;> exact fun z => nomatch z) rfl
    · refine kk _ (.tup (at_ (by walk_at "hp")) (.cons (.int (10 ^ 2000)) (.cons (.int 1) .nil))) (fun x hx => by simp at hx; rcases hx with rfl | rfl <;> exact fun z => nomatch z) ?_
      walk_at "badrow"
    · exact kk _ (.tup (at_ (by walk_at "hp")) (.cons (.tup (at_ (by walk_at "hp")) (.cons (.int 1) (.cons (.int 2) .nil))) .nil)) (fun x hx => by simp at hx; rw [hx]; exact fun z => nomatch z) rfl
    · refine kk _ (.dic (hb1.del_dic (b _ _ (fun z => ?_) (by walk_at "hp")))) trivial rfl
      exact b9.ne h10 z
    · exact kk _ (.tup (at_ (by walk_at "hp")) (.cons (.int 1) (.cons (.str "2") .nil))) (fun x hx => by simp at hx; rcases hx with rfl | rfl <;> exact fun z => nomatch z) rfl
end
section
variable {P : Program} {w : World} {K : PySem.W.Frag} {mg : Str → Option Value} {base : Heap}
theorem ok_searched (B : Bi mg) (D : DefAt K mg "_searched" s_searched ["rows", "width", "likely", "most"]) (c_adds_lead : CalA P w K mg base "_adds_lead" 1 ["leads", "row"] (spAdds)) (c_are_small : CalA P w K mg base "_are_small" 1 ["rows"] (spSmall)) (c_index_outside : CalA P w K mg base "_index_outside" 2 ["found", "rows"] (spOutside)) (c_reduced_alone : CalA P w K mg base "_reduced_alone" 3 ["rows", "width"] (spAlone)) (c_take_by_residues : CalA P w K mg base "_take_by_residues" 2 ["rows", "start", "leads", "taken", "most", "patience"] (spTake)) : CalA P w K mg base "_searched" 4 ["rows", "width", "likely", "most"] (spSearched) := by
  refine cala_of D sc_searched (fun vs H Q E h => ?_) (fun f cdv A outer s H vs Q E hr h => ?_)
  · obtain ⟨p, r, k0, rfl, _⟩ := h; rfl
  · have hu := hr.units
    have hr_adds_lead := hr.mono (show 1 ≤ 3 by decide)
    have hr_are_small := hr.mono (show 1 ≤ 3 by decide)
    have hr_index_outside := hr.mono (show 2 ≤ 3 by decide)
    have hr_reduced_alone := hr.mono (show 3 ≤ 3 by decide)
    have hr_take_by_residues := hr.mono (show 2 ≤ 3 by decide)
    obtain ⟨t_PATIENCE, k_PATIENCE⟩ := B.c_PATIENCE
    skip
    refine ⟨_, (pss_cons (ps_set (i := 4) sc_searched.nd rfl (by first | exact Or.inl rfl | exact Or.inr rfl) (pe_op op_rep (pe_lst (pa_cons pe_non pa_nil)) (pv 1)))
        (pss_cons (ps_set (i := 5) sc_searched.nd rfl (by first | exact Or.inl rfl | exact Or.inr rfl) (pe_lst pa_nil))
        (pss_cons (ps_set (i := 6) sc_searched.nd rfl (by first | exact Or.inl rfl | exact Or.inr rfl) pe_int)
        (pss_cons (ps_set (i := 7) sc_searched.nd rfl (by first | exact Or.inl rfl | exact Or.inr rfl) (pe_ifExp (PW.pt (pw_and (pt_cmpR op_gt (pe_callB (r := rLenQ K) (by exact q_lenQ) (by rfl) B.b_len (by decide +kernel) (pa_cons (pv 0) pa_nil)) (pe_op op_mul pe_int (pe_glob (v := .int 4) (by rfl) k_PATIENCE ⟨_, rfl⟩)) (nomark _)) (pw_and1 (pt_val (ac c_are_small hr_are_small (by rfl) (pa_cons (pv 0) pa_nil)))))) (pe_glob (v := .int 4) (by rfl) k_PATIENCE ⟨_, rfl⟩) (pe_callB (r := rLenQ K) (by exact q_lenQ) (by rfl) B.b_len (by decide +kernel) (pa_cons (pv 0) pa_nil))))
        (pss_one (ps_while PassesOwn.never (pt_val pe_bl) (pss_cons (ps_set (i := 6) sc_searched.nd rfl (by first | exact Or.inl rfl | exact Or.inr rfl) (ac c_take_by_residues hr_take_by_residues (by rfl) (pa_cons (pv 0) (pa_cons (pv 6) (pa_cons (pv 4) (pa_cons (pv 5) (pa_cons (pv 2) (pa_cons (pv 7) pa_nil))))))))
        (pss_cons (ps_if (pt_cmpR op_eq (pe_callB (r := rLenQ K) (by exact q_lenQ) (by rfl) B.b_len (by decide +kernel) (pa_cons (pv 5) pa_nil)) (pv 3) (nomark _)) (pss_one (ps_ret (pe_tup (pa_cons (pv 5) (pa_cons pe_non pa_nil))))) pss_nil)
        (pss_cons (ps_set (i := 8) sc_searched.nd rfl (by first | exact Or.inl rfl | exact Or.inr rfl) (ac c_reduced_alone hr_reduced_alone (by rfl) (pa_cons (pv 5) (pa_cons (pv 1) pa_nil))))
        (pss_cons (ps_set (i := 9) sc_searched.nd rfl (by first | exact Or.inl rfl | exact Or.inr rfl) (ac c_index_outside hr_index_outside (by rfl) (pa_cons (pv 8) (pa_cons (pv 0) pa_nil))))
        (pss_cons (ps_if (pt_cmpR op_isN (pv 9) pe_non (nomark _)) (pss_one (ps_ret (pe_tup (pa_cons (pv 5) (pa_cons (pv 8) pa_nil))))) pss_nil)
        (pss_cons (ps_if (pt_not (pt_val (ac c_adds_lead hr_adds_lead (by rfl) (pa_cons (pv 4) (pa_cons (pe_ix (r := rIxL K) (by exact ix_list) (pv 0) (pv 9) (fun _ _ => rfl)) pa_nil))))) (pss_one (ps_set (i := 3) sc_searched.nd rfl (by first | exact Or.inl rfl | exact Or.inr rfl) pe_non)) pss_nil)
        (pss_cons (ps_expr (pe_bm PySem.F.plainAttrs_list PySem.F.slot_list_append PySem.F.type_list_append mt_append (pv 5) (pa_cons (pe_ix (r := rIxL K) (by exact ix_list) (pv 0) (pv 9) (fun _ _ => rfl)) pa_nil)))
        (pss_cons (ps_set (i := 6) sc_searched.nd rfl (by first | exact Or.inl rfl | exact Or.inr rfl) (pe_callB (q_max2 rfl) (by rfl) B.b_max (by decide +kernel) (pa_cons (pv 6) (pa_cons (pe_op op_add (pv 9) pe_int) pa_nil))))
        (pss_one (ps_set (i := 7) sc_searched.nd rfl (by first | exact Or.inl rfl | exact Or.inr rfl) (pe_callB (r := rLenQ K) (by exact q_lenQ) (by rfl) B.b_len (by decide +kernel) (pa_cons (pv 0) pa_nil)))))))))))))))))), ?_⟩
    obtain ⟨p, r, k0, rfl, hf, w1, w2, hb, k⟩ := h
    obtain ⟨q, h1, h2⟩ : ∃ q, H p = some (.lst [.ref q]) ∧ H q = some (.tup (r.map V.int)) := by
      rcases id hf with ⟨e, _⟩ | ⟨_, hf⟩
      · cases e
      · exact hf
    refine rd_at [some (.ref p), some (.int (r.length : Int)), some (.int 1), some (.int k0), none, none, none, none, none, none] rfl ?_
    walk_at "rd"
    intro p1 hp1
    walk_at "rd"
    refine ⟨p1, (r.length : Int), [.non], rfl, rfl, upd_same, by omega, by omega, ?_, fun l hl => ?_⟩
    · exact Nat.le_trans (show 1 * (r.length : Int).toNat ≤ 30 by omega) (by decide)
    walk_at "rd"
    intro t ht
    walk_at "rd"
    have eL : (List.replicate (r.length : Int).toNat [V.non]).flatten = List.replicate r.length V.non := by
      rw [Int.toNat_natCast]
      generalize r.length = n
      induction n with
      | zero => rfl
      | succ n ih => rw [List.replicate_succ, List.flatten_cons, ih, List.replicate_succ]; rfl
    rw [eL]
    have nlt : l ≠ t := fun z => by rw [← z, upd_same] at ht; cases ht
    have fl : H l = none := (same_up hp1 (Same.refl H)).free hl
    have sF : Same H (upd (upd H p1 (.lst [V.non])) l (.lst (List.replicate r.length V.non))) := fun b o e => up_old hl (up_old hp1 e)
    rw [eL] at ht
    have ft : H t = none := sF.free ht
    have s2 : Same H (upd (upd (upd H p1 (.lst [V.non])) l (.lst (List.replicate r.length V.non))) t (.lst [])) := fun b o e => by
      have nb : b ≠ t := fun z => by rw [z, ft] at e; cases e
      exact up_oth nb (up_old hl (up_old hp1 e))
    have xl : upd (upd (upd H p1 (.lst [V.non])) l (.lst (List.replicate r.length V.non))) t (.lst []) l = some (.lst (List.replicate r.length V.non)) := up_oth nlt upd_same
    have xt : upd (upd (upd H p1 (.lst [V.non])) l (.lst (List.replicate r.length V.non))) t (.lst []) t = some (.lst []) := upd_same
    generalize upd (upd (upd H p1 (.lst [V.non])) l (.lst (List.replicate r.length V.non))) t (.lst []) = H2 at s2 xl xt
    refine rd_lenL (SqL.of (s2 _ _ h1)) ?_
    walk_at "rd"
    refine rd_ite (fun z => absurd (show (8 : Int) < 1 from z) (by decide)) (fun _ => ?_)
    walk_at "rd"
    refine rd_lenL (SqL.of (s2 _ _ h1)) ?_
    refine ⟨fun m σ' H' => σ' = [some (.ref p), some (.int (r.length : Int)), some (.int 1), some (.int k0), some (.ref l), some (.ref t), some (.int 0), some (.int 1), none, none] ∧ H' = H2, ⟨1, rfl, rfl⟩, ?_⟩
    rintro m _ H5 ⟨rfl, e5⟩
    subst e5
    walk_at "rd"
    refine ⟨fun _ _ => False, fun _ _ z => z.elim, ?_⟩
    walk_at "rd"
    have x1 := s2 _ _ h1
    have x2 := s2 _ _ h2
    have fr : ∀ {H' : Hp}, (∀ b o, b ≠ l → b ≠ t → H5 b = some o → H' b = some o) → Same H H' := fun f b o e => f b o (fun z => by rw [z, fl] at e; cases e) (fun z => by rw [z, ft] at e; cases e) (s2 _ _ e)
    refine ⟨p, l, t, q, r, rfl, x1, xl, x2, xt, nlt, w1, w2, fun hne H6 f6 ht6 => ?_, fun hz0 H6 s6 => ?_⟩
    · walk_at "rd"
      refine rd_lenL (SqL.of ht6) ?_
      walk_at "rd"
      rcases k with ⟨rfl, _, k⟩ | ⟨(⟨rfl, hz⟩ | ⟨rfl, w3, _⟩), k⟩
      · refine rd_ite (fun _ => ?_) (fun z => absurd rfl z)
        walk_at "rd"
        intro p8 hp8
        exact k p8 t (.ref q) _ (fun b o e => up_old hp8 (fr f6 _ _ e)) upd_same (up_old hp8 ht6)
      · obtain ⟨x, hx, hnx⟩ := hne
        rw [hz x hx] at hnx
        exact absurd rfl hnx
      · refine rd_ite (fun z => absurd (show (1 : Int) = (r.length : Int) from z) (by omega)) (fun _ => ?_)
        walk_at "rd"
        have hq6 : H6 q = some (.tup (r.map V.int)) := fr f6 _ _ h2
        refine ⟨t, 1, r, rfl, Or.inr ⟨rfl, q, ht6, hq6⟩, w1, w2, hb, fun v L O F s H7 s7 red _ hsum hfd => ?_⟩
        walk_at "rd"
        have s67 : Same H H7 := (fr f6).trans s7
        refine ⟨v, p, r, L, O, F, s, rfl, hf.same s67, hfd, red, hsum rfl, w2, hb, fun H8 s8 => ?_⟩
        walk_at "rd"
        refine ⟨rfl, ?_⟩
        walk_at "rd"
        refine rd_ite (fun _ => ?_) (fun z => absurd rfl z)
        walk_at "rd"
        intro p9 hp9
        exact k p9 t v L O F s _ (fun b o e => up_old hp9 (s8 _ _ (s67 _ _ e))) red upd_same ((hfd.same s8).same (fun b o e => up_old hp9 e))
    · walk_at "rd"
      refine rd_lenL (SqL.of (s6 _ _ xt)) ?_
      walk_at "rd"
      rcases k with ⟨rfl, ⟨x, hx, hnx⟩, k⟩ | ⟨(⟨rfl, hz⟩ | ⟨rfl, w3, ⟨x, hx, hnx⟩⟩), k⟩
      · exact absurd (hz0 x hx) hnx
      · refine rd_ite (fun z => absurd (show (0 : Int) = 1 from z) (by decide)) (fun _ => ?_)
        walk_at "rd"
        refine ⟨t, 0, r, rfl, Or.inl ⟨rfl, s6 _ _ xt⟩, w1, w2, hb, fun v L O F s H7 s7 red hno _ hfd => ?_⟩
        walk_at "rd"
        obtain ⟨eL0, eF0⟩ := hno rfl
        have s67 : Same H H7 := (s2.trans s6).trans s7
        refine ⟨v, p, r, L, O, F, s, rfl, hf.same s67, hfd, red, Or.inl ⟨eL0, eF0, hz⟩, w2, hb, fun H8 s8 => ?_⟩
        walk_at "rd"
        refine ⟨rfl, ?_⟩
        walk_at "rd"
        refine rd_ite (fun _ => ?_) (fun z => absurd rfl z)
        walk_at "rd"
        intro p9 hp9
        exact k p9 t v L O F s _ (fun b o e => up_old hp9 (s8 _ _ (s67 _ _ e))) red upd_same ((hfd.same s8).same (fun b o e => up_old hp9 e))
      · exact absurd (hz0 x hx) hnx
end
section
variable {P : Program} {w : World} {K : PySem.W.Frag} {mg : Str → Option Value} {base : Heap}
theorem okare_integers (B : Bi mg) (D : DefAt K mg "are_integers" sare_integers ["values"]) (cis_integer : CalA P w K mg base "is_integer" 3 ["value"] (spIntD)) : CalA P w K mg base "are_integers" 4 ["values"] (spIntsD) := by
  refine cala_of D scare_integers (fun vs H Q E h => ?_) (fun f cdv A outer s H vs Q E hr h => ?_)
  · obtain ⟨p, xs, ds, rfl, _⟩ := h; rfl
  · have hu := hr.units
    have hris_integer := hr.mono (show 3 ≤ 3 by decide)
    obtain ⟨t_SURE_BITS, k_SURE_BITS⟩ := B.c_SURE_BITS
    skip
    refine ⟨_, (pss_cons (ps_for PassesOwn.never (by rfl) (pi_tup (pv 0)) (pg_name (i := 1) scare_integers.nd rfl (by first | exact Or.inl rfl | exact Or.inr rfl)) (pss_one (ps_if (PW.pt (pw_or (pt_cmpR op_isNotTy (pe_callTy (r := rTyD) (by exact call_typeD) (by rfl) B.b_type (by decide +kernel) (pa_cons (pv 1) pa_nil)) (pe_bltn (v := .ty "int") (u := .type "int") (by rfl) B.b_int (by decide +kernel) rfl) (nomark _)) (pw_or1 (pt_cmpR op_gt (pe_bits (pv 1)) (pe_glob (v := .int 6000) (by rfl) k_SURE_BITS ⟨_, rfl⟩) (nomark _))))) (pss_one (ps_ret (pe_callB (r := rAll K) (by exact (cr_all rfl)) (by rfl) B.b_all (by decide +kernel) (pa_cons (pe_lc (own := [("each", 2)]) (g := gName 2) (tt := tYes) (by rfl) scare_integers.nd (pi_tup (pv 0)) (blkOk_by (own := [("each", 2)]) (N := ["values", "value", "each"]) (sc := defScope sare_integers) (by decide +kernel)) (fun _ _ _ _ _ => (pg_name (i := 2) scare_integers.nd rfl (by first | exact Or.inl rfl | exact Or.inr rfl))) (fun _ _ _ _ _ => pts_nil) (fun _ _ _ _ _ => (ac cis_integer hris_integer (by rfl) (pa_cons (pv 2) pa_nil)))) pa_nil)))) pss_nil)))
        (pss_one (ps_ret pe_bl))), ?_⟩
    obtain ⟨p, xs, ds, rfl, hp, hx, hl, nd, k⟩ := h
    have hlen := hx.len
    refine rd_at [some (.ref p), none, none] rfl ?_
    walk_at "rd"
    refine ⟨⟨_, SqT.of hp⟩, for_tup (K := K) (a := p) (xs := xs) (fun i σ' H' => ∃ v1, σ' = [some (.ref p), v1, none] ∧ H' = H ∧ ∀ j, j < i → ∃ d, ds[j]? = some d ∧ dInt d = true) ⟨none, rfl, rfl, fun j hj => absurd hj (Nat.not_lt_zero _)⟩ (fun i σ' H' _ ⟨_, _, e, _⟩ => by rw [e]; exact SqT.of hp) ?_ ?_⟩
    · rintro i x _ H' hxi ⟨v1, rfl, rfl, old⟩
      obtain ⟨d, hd, hv⟩ := hx.get hxi
      have ndd := nd d (List.mem_of_getElem? hd)
      have rest : ∀ (v : Option V) (D : Ends), (∀ H1, Same H' H1 → D.rt (.bl (ds.all dInt)) H1) → tRet (tCB (rAll K) (tCons (tLc (iTup K (tVar 0)) (gName 2) tYes (tCl spIntD (tCons (tVar 2) tNil)) [2]) tNil)) D [some (.ref p), v, none] H' := fun v D kk => by
        walk_at "rd"
        refine ⟨⟨_, SqT.of hp⟩, ?_⟩
        intro E2 hE
        refine lc_same (wk_tup (xs := xs) .non) (b := fun _ => true) (f := fun j => .bl (dInt (ds.getD j .none))) (by omega) hE (fun H1 hs => SqT.of (hs _ _ hp)) (fun j _ H1 _ R kk => rd_yes (kk H1 (Same.refl _))) ?_ ?_
        · intro j hj _ H1 hs R k2
          walk_at "rd"
          obtain ⟨d2, e1, e2⟩ := hx.get (List.getElem?_eq_getElem hj)
          have e : ds.getD j .none = d2 := by rw [List.getD_eq_getElem?_getD, e1]; rfl
          have e3 : xs.getD j .non = xs[j] := by rw [List.getD_eq_getElem?_getD, List.getElem?_eq_getElem hj]; rfl
          rw [e] at k2
          refine ⟨_, d2, rfl, ?_, k2 _ (Same.refl _)⟩
          rw [e3]
          exact e2.same hs
        · intro H1 hs hl2
          rw [filt_yes, show (fun j => V.bl (dInt (ds.getD j .none))) = V.bl ∘ (fun j => dInt (ds.getD j .none)) from rfl, ← List.map_map] at hl2
          walk_at "rd"
          refine rd_all (SqL.of hl2) ?_
          rw [List.all_map, hlen]
          have e := range_all .none ds dInt
          have k3 := kk _ hs
          rw [← e] at k3
          exact k3
      walk_at "rd"
      refine ⟨x, d, rfl, hv, ndd, ?_⟩
      walk_at "rd"
      refine ⟨_, _, rfl, rfl, ?_⟩
      walk_at "rd"
      cases hv with
      | int z =>
        refine rd_ifb (fun z => absurd (show (!decide ("int" = "int")) = true from z) (by decide)) (fun _ => ?_)
        walk_at "rd"
        refine rd_ite (fun e => ?_) (fun e => ?_)
        · exact rest _ _ fun H1 s1 => k _ s1
        · walk_at "rd"
          refine ⟨_, rfl, rfl, fun j hj => ?_⟩
          rcases Nat.lt_succ_iff_lt_or_eq.mp hj with h1 | h1
          · exact old j h1
          · subst h1
            exact ⟨_, hd, decide_eq_true (bits_short (by omega))⟩
      | bl b => exact rd_ifb (fun _ => rest _ _ fun H1 s1 => k _ s1) (fun z => absurd (show (!decide ("bool" = "int")) = false from z) (by decide))
      | non => exact rd_ifb (fun _ => rest _ _ fun H1 s1 => k _ s1) (fun z => absurd (show (!decide ("NoneType" = "int")) = false from z) (by decide))
      | str z => exact rd_ifb (fun _ => rest _ _ fun H1 s1 => k _ s1) (fun z => absurd (show (!decide ("str" = "int")) = false from z) (by decide))
      | lst e t => exact rd_ifb (fun _ => rest _ _ fun H1 s1 => k _ s1) (fun z => absurd (show (!decide ("list" = "int")) = false from z) (by decide))
      | tup e t => exact rd_ifb (fun _ => rest _ _ fun H1 s1 => k _ s1) (fun z => absurd (show (!decide ("tuple" = "int")) = false from z) (by decide))
      | dic e => exact absurd rfl ndd
    · rintro _ H' ⟨v1, rfl, rfl, old⟩
      walk_at "rd"
      have e : ds.all dInt = true := by
        rw [List.all_eq_true]
        intro d hd
        obtain ⟨j, hj, rfl⟩ := List.mem_iff_getElem.mp hd
        obtain ⟨d', e1, e2⟩ := old j (by omega)
        rw [List.getElem?_eq_getElem hj] at e1
        cases e1
        exact e2
      have k0 := k _ (Same.refl _)
      rw [e] at k0
      exact k0
end
section
variable {P : Program} {w : World} {K : PySem.W.Frag} {mg : Str → Option Value} {base : Heap}
theorem okreduced (B : Bi mg) (D : DefAt K mg "reduced" sreduced ["rows", "width", "likely"]) (c_are_small : CalA P w K mg base "_are_small" 1 ["rows"] (spSmall)) (c_reduced_alone : CalA P w K mg base "_reduced_alone" 3 ["rows", "width"] (spAlone)) (c_searched : CalA P w K mg base "_searched" 4 ["rows", "width", "likely", "most"] (spSearched)) (c_unlike : CalA P w K mg base "_unlike" 1 ["rows"] (spUnlike K)) : CalA P w K mg base "reduced" 5 ["rows", "width", "likely"] (spReduced K) := by
  refine cala_of D screduced (fun vs H Q E h => ?_) (fun f cdv A outer s H vs Q E hr h => ?_)
  · obtain ⟨p, m, q, r, k0, rfl, _⟩ := h; rfl
  · have hu := hr.units
    have hr_are_small := hr.mono (show 1 ≤ 4 by decide)
    have hr_reduced_alone := hr.mono (show 3 ≤ 4 by decide)
    have hr_searched := hr.mono (show 4 ≤ 4 by decide)
    have hr_unlike := hr.mono (show 1 ≤ 4 by decide)
    skip
    refine ⟨_, (pss_cons (ps_set (i := 3) screduced.nd rfl (by first | exact Or.inl rfl | exact Or.inr rfl) (ac c_unlike hr_unlike (by rfl) (pa_cons (pv 0) pa_nil)))
        (pss_cons (ps_if (PW.pt (pw_and (pt_cmpR op_lt (pe_callB (r := rLenQ K) (by exact q_lenQ) (by rfl) B.b_len (by decide +kernel) (pa_cons (pv 3) pa_nil)) (pv 1) (nomark _)) (pw_and1 (pt_val (ac c_are_small hr_are_small (by rfl) (pa_cons (pv 3) pa_nil)))))) (pss_one (ps_ret (ac c_reduced_alone hr_reduced_alone (by rfl) (pa_cons (pv 3) (pa_cons (pv 1) pa_nil))))) pss_nil)
        (pss_cons (ps_asg (ac c_searched hr_searched (by rfl) (pa_cons (pv 3) (pa_cons (pv 1) (pa_cons (pv 2) (pa_cons (pv 1) pa_nil))))) (pg_tup (by rfl) (pgs_cons (pg_name (i := 4) screduced.nd rfl (by first | exact Or.inl rfl | exact Or.inr rfl)) (pgs_cons (pg_name (i := 5) screduced.nd rfl (by first | exact Or.inl rfl | exact Or.inr rfl)) pgs_nil))))
        (pss_cons (ps_if (pt_cmpR op_isN (pv 5) pe_non (nomark _)) (pss_one (ps_ret (pe_tup (pa_cons (pe_callTy (r := rLstOf K) (by exact q_lstOf) (by rfl) B.b_list (by decide +kernel) (pa_cons (pe_callTy q_range1 (by rfl) B.b_range (by decide +kernel) (pa_cons (pv 1) pa_nil)) pa_nil)) (pa_cons (pe_lst pa_nil) (pa_cons (pe_lc (own := [("_", 6)]) (g := gName 6) (tt := tYes) (by rfl) screduced.nd (pi_list (pv 4)) (blkOk_by (own := [("_", 6)]) (N := ["rows", "width", "likely", "unlike", "taken", "found", "_"]) (sc := defScope sreduced) (by decide +kernel)) (fun _ _ _ _ _ => (pg_name (i := 6) screduced.nd rfl (by first | exact Or.inl rfl | exact Or.inr rfl))) (fun _ _ _ _ _ => pts_nil) (fun _ _ _ _ _ => (pe_lst pa_nil))) (pa_cons pe_int pa_nil))))))) pss_nil)
        (pss_one (ps_ret (pv 5))))))), ?_⟩
    obtain ⟨p, m, q, r, k0, rfl, hp, hq2, hm, w2, w28, hb, hcase, k⟩ := h
    refine rd_at [some (.ref p), some (.int (r.length : Int)), some (.int k0), none, none, none, none] rfl ?_
    walk_at "rd"
    refine ⟨p, m, q, r, rfl, hp, hq2, hm, fun l H1 s1 hf => ?_⟩
    walk_at "rd"
    have hlen : ∃ ys : List V, SqL K H1 l ys ∧ ys.length = min m 1 := by
      rcases hf with ⟨e, h⟩ | ⟨e, q', h, _⟩
      · exact ⟨_, SqL.of h, e.symm⟩
      · exact ⟨_, SqL.of h, e.symm⟩
    obtain ⟨ys, hys, ly⟩ := hlen
    refine rd_lenL hys ?_
    walk_at "rd"
    rw [ly]
    refine rd_ite (fun _ => ?_) (fun z => absurd (by omega) z)
    walk_at "rd"
    refine ⟨l, min m 1, r, rfl, hf, by omega, fun b H2 s2 hbb => ?_⟩
    walk_at "rd"
    refine rd_ifb (fun ht => ?_) (fun hfl => ?_)
    · walk_at "rd"
      refine ⟨l, min m 1, r, rfl, hf.same s2, by omega, w28, hb, fun t L O F s H3 s3 red _ _ hfd => ?_⟩
      exact k t L O F s H3 ((s1.trans s2).trans s3) red hfd
    · obtain ⟨m1, rfl, hne⟩ : 1 ≤ m ∧ k0 = 1 ∧ ∃ x ∈ r, x % 1073741789 ≠ 0 := by
        rcases hcase with hs | hc
        · rw [hbb.mpr fun _ => hs] at hfl
          cases hfl
        · exact hc
      walk_at "rd"
      have e1 : min m 1 = 1 := by omega
      rw [e1] at hf
      refine ⟨l, r, (r.length : Int), rfl, hf.same s2, by omega, w28, hb, Or.inr ⟨Or.inr ⟨rfl, w2, hne⟩, fun t u v L O F s H3 s3 red ht hfd => ?_⟩⟩
      refine ⟨t, _, rfl, SqT.of ht, rfl, ⟨_, _, rfl, rd_name ⟨_, _, rfl, rd_name ⟨rfl, ?_⟩⟩⟩⟩
      walk_at "rd"
      refine ⟨rfl, ?_⟩
      walk_at "rd"
      refine rd_ite (fun z => nomatch z) (fun _ => ?_)
      walk_at "rd"
      exact k v L O F s H3 ((s1.trans s2).trans s3) red hfd
end
section
variable {P : Program} {w : World} {K : PySem.W.Frag} {mg : Str → Option Value} {base : Heap}
theorem okrank_of (B : Bi mg) (D : DefAt K mg "rank_of" srank_of ["rows", "width", "most"]) (c_searched : CalA P w K mg base "_searched" 4 ["rows", "width", "likely", "most"] (spSearched)) (c_unlike : CalA P w K mg base "_unlike" 1 ["rows"] (spUnlike K)) : CalA P w K mg base "rank_of" 5 ["rows", "width", "most"] (spRankOf) := by
  refine cala_of D scrank_of (fun vs H Q E h => ?_) (fun f cdv A outer s H vs Q E hr h => ?_)
  · obtain ⟨p, m, r, rfl, _⟩ := h; rfl
  · have hu := hr.units
    have hr_searched := hr.mono (show 4 ≤ 4 by decide)
    have hr_unlike := hr.mono (show 1 ≤ 4 by decide)
    skip
    refine ⟨_, (pss_cons (ps_set (i := 3) scrank_of.nd rfl (by first | exact Or.inl rfl | exact Or.inr rfl) (ac c_unlike hr_unlike (by rfl) (pa_cons (pv 0) pa_nil)))
        (pss_cons (ps_set (i := 4) scrank_of.nd rfl (by first | exact Or.inl rfl | exact Or.inr rfl) (pe_callB (q_min3 rfl) (by rfl) B.b_min (by decide +kernel) (pa_cons (pv 2) (pa_cons (pv 1) (pa_cons (pe_callB (r := rLenQ K) (by exact q_lenQ) (by rfl) B.b_len (by decide +kernel) (pa_cons (pv 3) pa_nil)) pa_nil)))))
        (pss_cons (ps_asg (ac c_searched hr_searched (by rfl) (pa_cons (pv 3) (pa_cons (pv 1) (pa_cons (pv 4) (pa_cons (pv 4) pa_nil))))) (pg_tup (by rfl) (pgs_cons (pg_name (i := 5) scrank_of.nd rfl (by first | exact Or.inl rfl | exact Or.inr rfl)) (pgs_cons (pg_name (i := 6) scrank_of.nd rfl (by first | exact Or.inl rfl | exact Or.inr rfl)) pgs_nil))))
        (pss_cons (ps_if (pt_cmpR op_isN (pv 6) pe_non (nomark _)) (pss_one (ps_ret (pe_callB (r := rLenQ K) (by exact q_lenQ) (by rfl) B.b_len (by decide +kernel) (pa_cons (pv 5) pa_nil)))) pss_nil)
        (pss_one (ps_ret (pe_callB (r := rLenQ K) (by exact q_lenQ) (by rfl) B.b_len (by decide +kernel) (pa_cons (pe_ix (r := rIxT K) (by exact ix_tup) (pv 6) pe_int (fun _ _ => rfl)) pa_nil)))))))), ?_⟩
    obtain ⟨p, m, r, rfl, ho, hf, k⟩ := h
    obtain ⟨q, h1, h2⟩ := id ho
    refine rd_at [some (.ref p), some (.int (r.length : Int)), some (.int (r.length : Int)), none, none, none, none] rfl ?_
    walk_at "rd"
    refine ⟨p, m, q, r, rfl, Or.inr (SqT.of h1), fun _ => h2, hf.m60, fun l H1 s1 hfw => ?_⟩
    have m1 := hf.m1
    have l1 := hf.l1
    have e1 : min m 1 = 1 := by omega
    rw [e1] at hfw
    walk_at "rd"
    obtain ⟨q', g1, g2⟩ : ∃ q, H1 l = some (.lst [.ref q]) ∧ H1 q = some (.tup (r.map V.int)) := by
      rcases hfw with ⟨e, _⟩ | ⟨_, hf⟩
      · cases e
      · exact hf
    refine rd_lenL (SqL.of g1) ?_
    walk_at "rd"
    have e2 : min (min (r.length : Int) (r.length : Int)) (([V.ref q'].length : Nat) : Int) = 1 := by
      show min (min (r.length : Int) (r.length : Int)) (1 : Int) = 1
      omega
    rw [e2]
    rcases hf.nz with hz | hne
    · refine ⟨l, r, 1, rfl, hfw, hf.l1, hf.l28, hf.bd, Or.inr ⟨Or.inl ⟨rfl, hz⟩, fun t u v L O F s H3 s3 red ht hfd => ?_⟩⟩
      refine ⟨t, _, rfl, SqT.of ht, rfl, ⟨_, _, rfl, rd_name ⟨_, _, rfl, rd_name ⟨rfl, ?_⟩⟩⟩⟩
      obtain ⟨a, b, c, f1, f2, _⟩ := hfd
      walk_at "rd"
      refine ⟨rfl, ?_⟩
      walk_at "rd"
      refine rd_ite (fun z => nomatch z) (fun _ => ?_)
      walk_at "rd"
      refine rd_ixT (v := .ref a) (SqT.of f1) (at_nat (j := 0) rfl) ?_
      refine rd_lenL (SqL.of f2) ?_
      exact k _ _ (s1.trans s3)
    · refine ⟨l, r, 1, rfl, hfw, hf.l1, hf.l28, hf.bd, Or.inl ⟨rfl, hne, fun t u qq H3 s3 ht hu2 => ?_⟩⟩
      refine ⟨t, _, rfl, SqT.of ht, rfl, ⟨_, _, rfl, rd_name ⟨_, _, rfl, rd_name ⟨rfl, ?_⟩⟩⟩⟩
      walk_at "rd"
      refine ⟨rfl, ?_⟩
      walk_at "rd"
      refine rd_ite (fun _ => ?_) (fun z => absurd rfl z)
      walk_at "rd"
      refine rd_lenL (SqL.of hu2) ?_
      exact k _ _ (s1.trans s3)
end
section
variable {P : Program} {w : World} {K : PySem.W.Frag} {mg : Str → Option Value} {base : Heap}
theorem ok_is_row (B : Bi mg) (D : DefAt K mg "_is_row" s_is_row ["value"]) (care_integers : CalA P w K mg base "are_integers" 4 ["values"] (spIntsD)) : CalA P w K mg base "_is_row" 5 ["value"] (spRowD) := by
  refine cala_of D sc_is_row (fun vs H Q E h => ?_) (fun f cdv A outer s H vs Q E hr h => ?_)
  · obtain ⟨v, d, rfl, _⟩ := h; rfl
  · have hu := hr.units
    have hrare_integers := hr.mono (show 4 ≤ 4 by decide)
    obtain ⟨t_MAX_WIDTH, k_MAX_WIDTH⟩ := B.c_MAX_WIDTH
    skip
    refine ⟨_, (pss_one (ps_ret (pe_and (pe_callB (r := rIsi K) (by exact call_isi) (by rfl) B.b_isinstance (by decide +kernel) (pa_cons (pv 0) (pa_cons (pe_bltn (v := .ty "tuple") (u := .type "tuple") (by rfl) B.b_tuple (by decide +kernel) rfl) pa_nil))) (pe_and (pe_chain op_le op_le pe_int (pe_callB (r := rLenQ K) (by exact q_lenQ) (by rfl) B.b_len (by decide +kernel) (pa_cons (pv 0) pa_nil)) (pe_glob (v := .int 28) (by rfl) k_MAX_WIDTH ⟨_, rfl⟩)) (pe_one (ac care_integers hrare_integers (by rfl) (pa_cons (pv 0) pa_nil))))))), ?_⟩
    obtain ⟨v, d, rfl, hv, nd, k⟩ := h
    refine rd_at [some v] rfl ?_
    walk_at "rd"
    cases hv with
    | @tup a xs ds e t =>
      have hl := t.len
      refine rd_isiD (.tup e t) (b := true) (show kitB "tuple" "tuple" = some true by decide +kernel) ?_
      walk_at "rd"
      refine rd_lenT (SqT.of e) ?_
      walk_at "rd"
      rw [hl]
      refine rd_ite (fun h1 => ?_) (fun h1 => ?_)
      · walk_at "rd"
        refine rd_ite (fun h2 => ?_) (fun h2 => ?_)
        · walk_at "rd"
          refine ⟨_, _, _, rfl, e, t, by omega, nd, fun H1 s1 => ?_⟩
          have k1 : Q (.bl (decide (1 ≤ ds.length) && decide (ds.length ≤ 28) && ds.all dInt)) H1 := k H1 s1
          rw [decide_eq_true (show 1 ≤ ds.length by omega), decide_eq_true (show ds.length ≤ 28 by omega), Bool.true_and, Bool.true_and] at k1
          exact k1
        · have k1 : Q (.bl (decide (1 ≤ ds.length) && decide (ds.length ≤ 28) && ds.all dInt)) H := k _ (Same.refl _)
          rw [decide_eq_false (show ¬ ds.length ≤ 28 by omega), Bool.and_false, Bool.false_and] at k1
          exact k1
      · have k1 : Q (.bl (decide (1 ≤ ds.length) && decide (ds.length ≤ 28) && ds.all dInt)) H := k _ (Same.refl _)
        rw [decide_eq_false (show ¬ 1 ≤ ds.length by omega), Bool.false_and, Bool.false_and] at k1
        refine ⟨_, rfl, ?_⟩
        walk_at "rd"
        exact k1
    | int i =>
      refine rd_isiD (.int i) (b := false) (show kitB "int" "tuple" = some false by decide +kernel) ?_
      walk_at "rd"
      exact k _ (Same.refl _)
    | bl b =>
      refine rd_isiD (.bl b) (b := false) (show kitB "bool" "tuple" = some false by decide +kernel) ?_
      walk_at "rd"
      exact k _ (Same.refl _)
    | non =>
      refine rd_isiD .non (b := false) (show kitB "NoneType" "tuple" = some false by decide +kernel) ?_
      walk_at "rd"
      exact k _ (Same.refl _)
    | str z =>
      refine rd_isiD (.str z) (b := false) (show kitB "str" "tuple" = some false by decide +kernel) ?_
      walk_at "rd"
      exact k _ (Same.refl _)
    | lst e t =>
      refine rd_isiD (.lst e t) (b := false) (show kitB "list" "tuple" = some false by decide +kernel) ?_
      walk_at "rd"
      exact k _ (Same.refl _)
    | dic e =>
      refine rd_isiD (.dic e) (b := false) (show kitB "dict" "tuple" = some false by decide +kernel) ?_
      walk_at "rd"
      exact k _ (Same.refl _)
end
section
variable {P : Program} {w : World} {K : PySem.W.Frag} {mg : Str → Option Value} {base : Heap}
theorem ok_are_aims (B : Bi mg) (D : DefAt K mg "_are_aims" s_are_aims ["rows", "value"]) (care_integers : CalA P w K mg base "are_integers" 4 ["values"] (spIntsD)) : CalA P w K mg base "_are_aims" 5 ["rows", "value"] (spAimsD) := by
  refine cala_of D sc_are_aims (fun vs H Q E h => ?_) (fun f cdv A outer s H vs Q E hr h => ?_)
  · obtain ⟨u, c, v, d, rfl, _⟩ := h; rfl
  · have hu := hr.units
    have hrare_integers := hr.mono (show 4 ≤ 4 by decide)
    skip
    refine ⟨_, (pss_one (ps_ret (pe_and (pe_callB (r := rIsi K) (by exact call_isi) (by rfl) B.b_isinstance (by decide +kernel) (pa_cons (pv 1) (pa_cons (pe_bltn (v := .ty "tuple") (u := .type "tuple") (by rfl) B.b_tuple (by decide +kernel) rfl) pa_nil))) (pe_and (pe_cmpR op_eq (pe_callB (r := rLenQ K) (by exact q_lenQ) (by rfl) B.b_len (by decide +kernel) (pa_cons (pv 1) pa_nil)) (pe_callB (r := rLenQ K) (by exact q_lenQ) (by rfl) B.b_len (by decide +kernel) (pa_cons (pv 0) pa_nil)) (nomark _)) (pe_one (ac care_integers hrare_integers (by rfl) (pa_cons (pv 1) pa_nil))))))), ?_⟩
    obtain ⟨u, c, v, d, rfl, hu2, hc, hv, nd, k⟩ := h
    refine rd_at [some u, some v] rfl ?_
    obtain ⟨a, xs, es, rfl, rfl, e0, t0⟩ := hu2.rows hc
    have hc60 : es.length ≤ 60 := by
      have e1 : (decide (es.length ≤ 60) && es.all fun r' => dRow r' && decide (dLen r' = dLen (es.headD .none))) = true := hc
      rw [Bool.and_eq_true] at e1
      exact of_decide_eq_true e1.1
    walk_at "rd"
    cases hv with
    | @tup p ys ds e t =>
      have k0 : ∀ H', Same H H' → Q (.bl (decide (ds.length = es.length) && ds.all dInt)) H' := k
      refine rd_isiD (.tup e t) (b := true) (show kitB "tuple" "tuple" = some true by decide +kernel) ?_
      walk_at "rd"
      refine rd_lenT (SqT.of e) ?_
      walk_at "rd"
      refine rd_lenT (SqT.of e0) ?_
      walk_at "rd"
      rw [t.len, t0.len]
      refine rd_ite (fun h1 => ?_) (fun h1 => ?_)
      · have h1' : ds.length = es.length := by omega
        walk_at "rd"
        refine ⟨_, _, _, rfl, e, t, by omega, nd, fun H1 s1 => ?_⟩
        have k1 := k0 H1 s1
        rw [decide_eq_true h1', Bool.true_and] at k1
        exact k1
      · have k1 := k0 _ (Same.refl _)
        rw [decide_eq_false (show ¬ ds.length = es.length by omega), Bool.false_and] at k1
        exact k1
    | int i =>
      refine rd_isiD (.int i) (b := false) (show kitB "int" "tuple" = some false by decide +kernel) ?_
      walk_at "rd"
      exact k _ (Same.refl _)
    | bl b =>
      refine rd_isiD (.bl b) (b := false) (show kitB "bool" "tuple" = some false by decide +kernel) ?_
      walk_at "rd"
      exact k _ (Same.refl _)
    | non =>
      refine rd_isiD .non (b := false) (show kitB "NoneType" "tuple" = some false by decide +kernel) ?_
      walk_at "rd"
      exact k _ (Same.refl _)
    | str z =>
      refine rd_isiD (.str z) (b := false) (show kitB "str" "tuple" = some false by decide +kernel) ?_
      walk_at "rd"
      exact k _ (Same.refl _)
    | lst e t =>
      refine rd_isiD (.lst e t) (b := false) (show kitB "list" "tuple" = some false by decide +kernel) ?_
      walk_at "rd"
      exact k _ (Same.refl _)
    | dic e =>
      refine rd_isiD (.dic e) (b := false) (show kitB "dict" "tuple" = some false by decide +kernel) ?_
      walk_at "rd"
      exact k _ (Same.refl _)
end
section
variable {P : Program} {w : World} {K : PySem.W.Frag} {mg : Str → Option Value} {base : Heap}
theorem okkernel_of (B : Bi mg) (D : DefAt K mg "kernel_of" skernel_of ["rows", "width"]) (c_kernel_row : CalA P w K mg base "_kernel_row" 1 ["leads", "ends", "column", "scale", "width"] (spKRow)) (creduced : CalA P w K mg base "reduced" 5 ["rows", "width", "likely"] (spReduced K)) : CalA P w K mg base "kernel_of" 6 ["rows", "width"] (spKernelOf) := by
  refine cala_of D sckernel_of (fun vs H Q E h => ?_) (fun f cdv A outer s H vs Q E hr h => ?_)
  · obtain ⟨p, m, r, rfl, _⟩ := h; rfl
  · have hu := hr.units
    have hr_kernel_row := hr.mono (show 1 ≤ 5 by decide)
    have hrreduced := hr.mono (show 5 ≤ 5 by decide)
    skip
    refine ⟨_, (pss_cons (ps_asg (ac creduced hrreduced (by rfl) (pa_cons (pv 0) (pa_cons (pv 1) (pa_cons (pv 1) pa_nil)))) (pg_tup (by rfl) (pgs_cons (pg_name (i := 2) sckernel_of.nd rfl (by first | exact Or.inl rfl | exact Or.inr rfl)) (pgs_cons (pg_name (i := 3) sckernel_of.nd rfl (by first | exact Or.inl rfl | exact Or.inr rfl)) (pgs_cons (pg_name (i := 4) sckernel_of.nd rfl (by first | exact Or.inl rfl | exact Or.inr rfl)) (pgs_cons (pg_name (i := 5) sckernel_of.nd rfl (by first | exact Or.inl rfl | exact Or.inr rfl)) pgs_nil))))))
        (pss_one (ps_ret (pe_callTy (r := rTupOf K) (by exact q_tupOf) (by rfl) B.b_tuple (by decide +kernel) (pa_cons (pe_lc (own := [("at", 6)]) (g := gName 6) (tt := tYes) (by rfl) sckernel_of.nd (pi_range1 (by rfl) B.b_range (pa_cons (pe_callB (r := rLenQ K) (by exact q_lenQ) (by rfl) B.b_len (by decide +kernel) (pa_cons (pv 3) pa_nil)) pa_nil)) (blkOk_by (own := [("at", 6)]) (N := ["rows", "width", "leads", "opened", "form", "scale", "at", "row"]) (sc := defScope skernel_of) (by decide +kernel)) (fun _ _ _ _ _ => (pg_name (i := 6) sckernel_of.nd rfl (by first | exact Or.inl rfl | exact Or.inr rfl))) (fun _ _ _ _ _ => pts_nil) (fun _ _ _ _ _ => (ac c_kernel_row hr_kernel_row (by rfl) (pa_cons (pv 2) (pa_cons (by exact (pe_lc (own := [("row", 7)]) (wi := iList K (tVar 4)) (g := gName 7) (tt := tYes) (by rfl) sckernel_of.nd (by exact (pi_list (pv 4))) (by exact blkOk_by (by kernel_rfl)) (fun _ _ _ _ _ => (pg_name (i := 7) sckernel_of.nd rfl (by first | exact Or.inl rfl | exact Or.inr rfl))) (fun _ _ _ _ _ => pts_nil) (fun _ _ _ _ _ => (pe_ix (r := rIxL K) (by exact ix_list) (pv 7) (pv 6) (fun _ _ => rfl))))) (pa_cons (pe_ix (r := rIxL K) (by exact ix_list) (pv 3) (pv 6) (fun _ _ => rfl)) (pa_cons (pv 5) (pa_cons (pv 1) pa_nil)))))))) pa_nil))))), ?_⟩
    obtain ⟨p, m, r, rfl, h, k⟩ := h
    refine rd_at [some (.ref p), some (.int (r.length : Int)), none, none, none, none, none, none] rfl ?_
    obtain ⟨q, m', hp, hq2, hm, w2, w28, hb, hs⟩ : ∃ (q : Addr) (m' : Nat), (SqL K H p (List.replicate m' (.ref q)) ∨ SqT K H p (List.replicate m' (.ref q))) ∧ (0 < m' → H q = some (.tup (r.map V.int))) ∧ m' ≤ 60 ∧ 2 ≤ r.length ∧ r.length ≤ 28 ∧ (∀ x ∈ r, x.natAbs < 10 ^ 2000) ∧ (∀ x ∈ r, x.natAbs < 1073741789) := by
      rcases h with ⟨⟨q, h1, h2⟩, hf⟩ | ⟨h0, h2, h28, hz⟩
      · exact ⟨q, m, Or.inr (SqT.of h1), fun _ => h2, hf.m60, hf.l2, hf.l28, hf.bd, hf.sm⟩
      · refine ⟨p, 0, Or.inr (SqT.of h0), fun z => absurd z (Nat.lt_irrefl _), by decide, h2, h28, fun x hx => ?_, fun x hx => ?_⟩
        · rw [hz x hx]
          exact Nat.pow_pos (by decide)
        · rw [hz x hx]
          decide
    walk_at "rd"
    refine ⟨p, m', q, r, (r.length : Int), rfl, hp, hq2, hm, w2, w28, hb, Or.inl hs, fun t L O F s H1 s1 red hfd => ?_⟩
    obtain ⟨a, b, c, h1, ha, hbO, rs, c1, c2, c3⟩ := hfd
    refine ⟨t, _, rfl, SqT.of h1, rfl, ⟨_, _, rfl, rd_name ⟨_, _, rfl, rd_name ⟨_, _, rfl, rd_name ⟨_, _, rfl, rd_name ⟨rfl, ?_⟩⟩⟩⟩⟩⟩
    have oL : O.length ≤ 28 := by
      have := red.sum
      omega
    have lL : L.length ≤ 28 := by
      have := red.sum
      omega
    walk_at "rd"
    refine rd_lenL (SqL.of hbO) ?_
    walk_at "rd"
    rw [List.length_map, ofN_len]
    refine ⟨_, rfl, by omega, by omega, ?_⟩
    rw [Int.toNat_natCast]
    intro E1 hE1
    refine lc_made (n := O.length) (wk_rng O.length) (by omega) hE1 (fun _ _ => trivial) (fun _ _ _ => True) (fun _ _ _ _ _ _ => trivial) (fun j hj H2 o s2 ho R kk => ?_) (fun ys H2 s2 hy _ hl2 => ?_)
    · have e0 : (0 : Int) + (j : Int) = (j : Int) := Int.zero_add _
      rw [e0]
      walk_at "rd"
      have k1 := s2 _ _ c1
      refine ⟨⟨_, SqL.of k1⟩, ?_⟩
      intro E2 hE2
      refine lc_same (n := (rs.map V.ref).length) (wk_list .non) (by rw [List.length_map, c2, red.ll]; omega) hE2 (fun H' s' => SqL.of (s' _ _ k1)) (fun _ => true) (fun i => V.int ((F.getD i []).getD j 0)) (fun i hi H' _ R hR => hR H' (Same.refl _)) (fun i hi _ H' s' R hR => ?_) (fun H3 s3 hl3 => ?_)
      · rw [List.length_map] at hi
        have hiF : i < F.length := by omega
        have ei : (rs.map V.ref).getD i .non = V.ref rs[i] := by rw [List.getD_eq_getElem?_getD, List.getElem?_map, List.getElem?_eq_getElem hi]; rfl
        rw [ei]
        have er := c3 i rs[i] _ (List.getElem?_eq_getElem hi) (row_at hiF)
        have fw := red.fw _ (show F.getD i [] ∈ F by rw [List.getD_eq_getElem?_getD, List.getElem?_eq_getElem hiF]; exact List.getElem_mem hiF)
        walk_at "rd"
        refine rd_ixL (SqL.of (s' _ _ (s2 _ _ er))) (int_at (by omega)) ?_
        exact hR H' (Same.refl _)
      · walk_at "rd"
        refine rd_ixL (v := .int ((O.getD j 0 : Nat) : Int)) (SqL.of (s3 _ _ (s2 _ _ hbO))) (at_nat (by
          have := ofN_at hj
          rw [List.getD_eq_getElem?_getD, List.getElem?_eq_getElem (by rw [List.length_map, ofN_len]; exact hj)] at this
          rw [List.getElem?_eq_getElem (by rw [List.length_map, ofN_len]; exact hj)]
          exact congrArg some this)) ?_
        walk_at "rd"
        refine ⟨a, E2, L, (List.range F.length).map fun i => (F.getD i []).getD j 0, O.getD j 0, s, r.length, rfl, s3 _ _ (s2 _ _ ha), ?_, by rw [List.length_map, List.length_range]; exact red.ll, red.le, red.oe _ (nat_mem hj), red.nz, red.bd, w28, fun v H4 s4 => kk (.ref v) _ (s3.trans s4) trivial⟩
        unfold Li
        rw [hl3, filt_yes, List.map_map, List.length_map, c2]
        rfl
    · walk_at "rd"
      refine ⟨E1, _, rfl, Or.inl ⟨SqL.of hl2, fun l hl => ?_⟩⟩
      exact k _ _ (fun b o e => up_old hl (s2 _ _ (s1 _ _ e)))
end
section
variable {P : Program} {w : World} {K : PySem.W.Frag} {mg : Str → Option Value} {base : Heap}
theorem okcleared (B : Bi mg) (D : DefAt K mg "cleared" scleared ["row"]) {CO CN : Addr} (R : Er K mg CO CN) (c_is_row : CalA P w K mg base "_is_row" 5 ["value"] (spRowD)) (cdivided : CalA P w K mg base "divided" 1 ["row"] (spDvd)) : CalE P w K mg base "cleared" 6 ["row"] (spCleared CO) := by
  refine cale_of D sccleared (fun vs H Q E h => ?_) (fun f cdv A outer s H vs Q E hr h => ?_)
  · obtain ⟨v, rfl, _⟩ := h; rfl
  · have hu := hr.units
    have hr_is_row := hr.mono (show 5 ≤ 5 by decide)
    have hrdivided := hr.mono (show 1 ≤ 5 by decide)
    skip
    refine ⟨_, (pss_cons (ps_if (pt_not (pt_val (ac c_is_row hr_is_row (by rfl) (pa_cons (pv 0) pa_nil)))) (pss_one (L2.ps_raise rfl (L2.takes_of rfl rfl rfl rfl) (pmk_own PySem.F.excBase_ValueError R.exO R.nO R.kO (raises_own R.rsO.1 R.rsO.2) (by rfl)))) pss_nil)
        (pss_one (ps_ret (ac cdivided hrdivided (by rfl) (pa_cons (pv 0) pa_nil))))), ?_⟩
    obtain ⟨v, rfl, h⟩ := h
    refine rd_at [some v] rfl ?_
    walk_at "rd"
    rcases h with ⟨d, hv, nd, hd, k⟩ | ⟨p, ns, rfl, hp, n1, n2, bd, k⟩
    · refine ⟨v, d, rfl, hv, nd, fun H1 s1 => ?_⟩
      walk_at "rd"
      rw [hd]
      refine rd_ifb (fun _ => ?_) (fun z => nomatch z)
      exact k _ s1
    · have nd : noDic (.tuple (ns.map PyData.int)) := fun x hx z => by
        obtain ⟨y, _, rfl⟩ := List.mem_map.mp hx
        cases z
      refine ⟨_, _, rfl, .tup hp (.ints rfl), nd, fun H1 s1 => ?_⟩
      walk_at "rd"
      have e : dRow (.tuple (ns.map PyData.int)) = true := by
        show (decide (1 ≤ (ns.map PyData.int).length) && decide ((ns.map PyData.int).length ≤ 28) && (ns.map PyData.int).all dInt) = true
        rw [List.length_map, decide_eq_true n1, decide_eq_true n2, Bool.true_and, Bool.true_and, List.all_map, List.all_eq_true]
        exact fun x hx => decide_eq_true (bd x hx)
      rw [e]
      refine rd_ifb (fun z => nomatch z) (fun _ => ?_)
      walk_at "rd"
      exact ⟨p, ns, rfl, s1 _ _ hp, n1, n2, bd, fun q H2 s2 hq => k q H2 (s1.trans s2) hq⟩
end
section
variable {P : Program} {w : World} {K : PySem.W.Frag} {mg : Str → Option Value} {base : Heap}
theorem ok_are_rows (B : Bi mg) (D : DefAt K mg "_are_rows" s_are_rows ["value"]) (c_is_row : CalA P w K mg base "_is_row" 5 ["value"] (spRowD)) : CalA P w K mg base "_are_rows" 6 ["value"] (spRowsD) := by
  refine cala_of D sc_are_rows (fun vs H Q E h => ?_) (fun f cdv A outer s H vs Q E hr h => ?_)
  · obtain ⟨v, d, rfl, _⟩ := h; rfl
  · have hu := hr.units
    have hr_is_row := hr.mono (show 5 ≤ 5 by decide)
    obtain ⟨t_MAX_ROWS, k_MAX_ROWS⟩ := B.c_MAX_ROWS
    skip
    refine ⟨_, (pss_cons (ps_if (PW.pt (pw_or (pt_not (pt_val (pe_callB (r := rIsi K) (by exact call_isi) (by rfl) B.b_isinstance (by decide +kernel) (pa_cons (pv 0) (pa_cons (pe_bltn (v := .ty "tuple") (u := .type "tuple") (by rfl) B.b_tuple (by decide +kernel) rfl) pa_nil))))) (pw_or1 (pt_cmpR op_gt (pe_callB (r := rLenQ K) (by exact q_lenQ) (by rfl) B.b_len (by decide +kernel) (pa_cons (pv 0) pa_nil)) (pe_glob (v := .int 60) (by rfl) k_MAX_ROWS ⟨_, rfl⟩) (nomark _))))) (pss_one (ps_ret pe_bl)) pss_nil)
        (pss_cons (ps_for PassesOwn.never (by rfl) (pi_tup (pv 0)) (pg_name (i := 1) sc_are_rows.nd rfl (by first | exact Or.inl rfl | exact Or.inr rfl)) (pss_one (ps_if (PW.pt (pw_or (pt_not (pt_val (ac c_is_row hr_is_row (by rfl) (pa_cons (pv 1) pa_nil)))) (pw_or1 (pt_cmpR op_ne (pe_callB (r := rLenQ K) (by exact q_lenQ) (by rfl) B.b_len (by decide +kernel) (pa_cons (pv 1) pa_nil)) (pe_callB (r := rLenQ K) (by exact q_lenQ) (by rfl) B.b_len (by decide +kernel) (pa_cons (pe_ix (r := rIxT K) (by exact ix_tup) (pv 0) pe_int (fun _ _ => rfl)) pa_nil)) (nomark _))))) (pss_one (ps_ret pe_bl)) pss_nil)))
        (pss_one (ps_ret pe_bl)))), ?_⟩
    obtain ⟨v, d, rfl, hv, nd, k⟩ := h
    refine rd_at [some v, none] rfl ?_
    walk_at "rd"
    cases hv with
    | @tup a xs ds e t =>
      have hl := t.len
      have k0 : ∀ H', Same H H' → Q (.bl (decide (ds.length ≤ 60) && ds.all fun r => dRow r && decide (dLen r = dLen (ds.headD .none)))) H' := k
      refine rd_isiD (.tup e t) (b := true) (show kitB "tuple" "tuple" = some true by decide +kernel) ?_
      walk_at "rd"
      refine rd_ifb (fun z => nomatch z) (fun _ => ?_)
      walk_at "rd"
      refine rd_lenT (SqT.of e) ?_
      walk_at "rd"
      rw [hl]
      refine rd_ite (fun h1 => ?_) (fun h1 => ?_)
      · walk_at "rd"
        have k1 := k0 _ (Same.refl _)
        rw [decide_eq_false (show ¬ ds.length ≤ 60 by omega), Bool.false_and] at k1
        exact k1
      walk_at "rd"
      have k1 : ∀ H', Same H H' → Q (.bl (ds.all fun r => dRow r && decide (dLen r = dLen (ds.headD .none)))) H' := fun H' s' => by
        have k2 := k0 _ s'
        rw [decide_eq_true (show ds.length ≤ 60 by omega), Bool.true_and] at k2
        exact k2
      refine ⟨⟨_, SqT.of e⟩, for_tup (K := K) (a := a) (xs := xs) (fun i σ' H' => ∃ v1, σ' = [some (.ref a), v1] ∧ Same H H' ∧ ∀ j, j < i → ∃ d, ds[j]? = some d ∧ (dRow d && decide (dLen d = dLen (ds.headD .none))) = true) ⟨none, rfl, Same.refl _, fun j hj => absurd hj (Nat.not_lt_zero _)⟩ (fun i σ' H' _ ⟨_, _, s', _⟩ => SqT.of (s' _ _ e)) ?_ ?_⟩
      · rintro i x _ H' hxi ⟨v1, rfl, s', old⟩
        obtain ⟨d, hd, hv⟩ := t.get hxi
        have hmem := List.mem_of_getElem? hd
        have bad : (dRow d && decide (dLen d = dLen (ds.headD .none))) = false → (ds.all fun r => dRow r && decide (dLen r = dLen (ds.headD .none))) = false := fun hb => by
          rw [List.all_eq_false]
          exact ⟨d, hmem, by rw [hb]; decide⟩
        walk_at "rd"
        refine ⟨x, d, rfl, hv.same s', nd d hmem, fun H2 s2 => ?_⟩
        have s3 := s'.trans s2
        walk_at "rd"
        cases hr2 : dRow d with
        | false =>
          refine rd_ifb (fun _ => ?_) (fun z => nomatch z)
          walk_at "rd"
          have k2 := k1 _ s3
          rw [bad (by rw [hr2]; rfl)] at k2
          exact k2
        | true =>
          refine rd_ifb (fun z => nomatch z) (fun _ => ?_)
          walk_at "rd"
          -- the row is a tuple, and so is the first one
          obtain ⟨r, ys, es, rfl, rfl, er, tr⟩ := hv.row hr2
          have h0 : 0 < xs.length := Nat.lt_of_le_of_lt (Nat.zero_le _) (List.getElem?_eq_some_iff.mp hxi).1
          obtain ⟨d0, hd0, hv0⟩ := t.get (List.getElem?_eq_getElem h0)
          have hr0 : dRow d0 = true := by
            rcases Nat.eq_zero_or_pos i with hi | hi
            · subst hi
              rw [hd0] at hd
              cases hd
              exact hr2
            · obtain ⟨d', e1, e2⟩ := old 0 hi
              rw [hd0] at e1
              cases e1
              exact (Bool.and_eq_true _ _ ▸ e2).1
          have hh : ds.headD .none = d0 := by
            cases ds with
            | nil => cases hd0
            | cons x y => cases hd0; rfl
          obtain ⟨r0, ys0, es0, e0, rfl, er0, tr0⟩ := hv0.row hr0
          refine rd_lenT (SqT.of (s3 _ _ er)) ?_
          walk_at "rd"
          refine rd_ixT (v := .ref r0) (SqT.of (s3 _ _ e)) (at_nat (by rw [List.getElem?_eq_getElem h0, e0])) ?_
          walk_at "rd"
          refine rd_lenT (SqT.of (s3 _ _ er0)) ?_
          walk_at "rd"
          rw [hh] at bad k1 old
          rw [tr.len, tr0.len]
          refine rd_iteN (fun hw => ?_) (fun hw => ?_)
          · walk_at "rd"
            have k2 := k1 _ s3
            rw [bad (by rw [hr2, Bool.true_and]; exact decide_eq_false (fun z => hw (by rw [show es.length = es0.length from z])))] at k2
            exact k2
          · walk_at "rd"
            refine ⟨_, rfl, s3, fun j hj => ?_⟩
            rcases Nat.lt_succ_iff_lt_or_eq.mp hj with h2 | h2
            · rw [hh]
              exact old j h2
            · subst h2
              refine ⟨_, hd, ?_⟩
              rw [hr2, hh, Bool.true_and]
              exact decide_eq_true (show es.length = es0.length by omega)
      · rintro _ H' ⟨v1, rfl, s', old⟩
        walk_at "rd"
        have k2 := k1 _ s'
        have e1 : (ds.all fun r => dRow r && decide (dLen r = dLen (ds.headD .none))) = true := by
          rw [List.all_eq_true]
          intro d hd
          obtain ⟨j, hj, rfl⟩ := List.mem_iff_getElem.mp hd
          obtain ⟨d', e1, e2⟩ := old j (by omega)
          rw [List.getElem?_eq_getElem hj] at e1
          cases e1
          exact e2
        rw [e1] at k2
        exact k2
    | int i =>
      refine rd_isiD (.int i) (b := false) (show kitB "int" "tuple" = some false by decide +kernel) ?_
      walk_at "rd"
      refine rd_ifb (fun _ => ?_) (fun z => nomatch z)
      walk_at "rd"
      exact k _ (Same.refl _)
    | bl b =>
      refine rd_isiD (.bl b) (b := false) (show kitB "bool" "tuple" = some false by decide +kernel) ?_
      walk_at "rd"
      refine rd_ifb (fun _ => ?_) (fun z => nomatch z)
      walk_at "rd"
      exact k _ (Same.refl _)
    | non =>
      refine rd_isiD .non (b := false) (show kitB "NoneType" "tuple" = some false by decide +kernel) ?_
      walk_at "rd"
      refine rd_ifb (fun _ => ?_) (fun z => nomatch z)
      walk_at "rd"
      exact k _ (Same.refl _)
    | str z =>
      refine rd_isiD (.str z) (b := false) (show kitB "str" "tuple" = some false by decide +kernel) ?_
      walk_at "rd"
      refine rd_ifb (fun _ => ?_) (fun z => nomatch z)
      walk_at "rd"
      exact k _ (Same.refl _)
    | lst e t =>
      refine rd_isiD (.lst e t) (b := false) (show kitB "list" "tuple" = some false by decide +kernel) ?_
      walk_at "rd"
      refine rd_ifb (fun _ => ?_) (fun z => nomatch z)
      walk_at "rd"
      exact k _ (Same.refl _)
    | dic e =>
      refine rd_isiD (.dic e) (b := false) (show kitB "dict" "tuple" = some false by decide +kernel) ?_
      walk_at "rd"
      refine rd_ifb (fun _ => ?_) (fun z => nomatch z)
      walk_at "rd"
      exact k _ (Same.refl _)
end
section
variable {P : Program} {w : World} {K : PySem.W.Frag} {mg : Str → Option Value} {base : Heap}
theorem ok_check_rows (B : Bi mg) (D : DefAt K mg "_check_rows" s_check_rows ["value"]) {CO CN : Addr} (R : Er K mg CO CN) (c_are_rows : CalA P w K mg base "_are_rows" 6 ["value"] (spRowsD)) : CalE P w K mg base "_check_rows" 7 ["value"] (spCheck CO) := by
  refine cale_of D sc_check_rows (fun vs H Q E h => ?_) (fun f cdv A outer s H vs Q E hr h => ?_)
  · obtain ⟨v, d, rfl, _⟩ := h; rfl
  · have hu := hr.units
    have hr_are_rows := hr.mono (show 6 ≤ 6 by decide)
    skip
    refine ⟨_, (pss_one (ps_if (pt_not (pt_val (ac c_are_rows hr_are_rows (by rfl) (pa_cons (pv 0) pa_nil)))) (pss_one (L2.ps_raise rfl (L2.takes_of rfl rfl rfl rfl) (pmk_own PySem.F.excBase_ValueError R.exO R.nO R.kO (raises_own R.rsO.1 R.rsO.2) (by rfl)))) pss_nil)), ?_⟩
    obtain ⟨v, d, rfl, hv, nd, k1, k2⟩ := h
    refine rd_at [some v] rfl ?_
    walk_at "rd"
    refine ⟨v, d, rfl, hv, nd, fun H1 s1 => ?_⟩
    walk_at "rd"
    cases e : dRows d with
    | true =>
      refine rd_ifb (fun z => nomatch z) (fun _ => ?_)
      walk_at "rd"
      exact k1 e _ s1
    | false =>
      refine rd_ifb (fun _ => ?_) (fun z => nomatch z)
      walk_at "rd"
      exact k2 e _ s1
end
section
variable {P : Program} {w : World} {K : PySem.W.Frag} {mg : Str → Option Value} {base : Heap}
theorem ok_check_table (B : Bi mg) (D : DefAt K mg "_check_table" s_check_table ["value"]) {CO CN : Addr} (R : Er K mg CO CN) (c_are_rows : CalA P w K mg base "_are_rows" 6 ["value"] (spRowsD)) (c_width_of : CalA P w K mg base "_width_of" 1 ["rows"] (spWidthD)) : CalE P w K mg base "_check_table" 7 ["value"] (spCheckT CO) := by
  refine cale_of D sc_check_table (fun vs H Q E h => ?_) (fun f cdv A outer s H vs Q E hr h => ?_)
  · obtain ⟨v, d, rfl, _⟩ := h; rfl
  · have hu := hr.units
    have hr_are_rows := hr.mono (show 6 ≤ 6 by decide)
    have hr_width_of := hr.mono (show 1 ≤ 6 by decide)
    skip
    refine ⟨_, (pss_one (ps_if (PW.pt (pw_or (pt_not (pt_val (ac c_are_rows hr_are_rows (by rfl) (pa_cons (pv 0) pa_nil)))) (pw_or1 (pt_cmpR op_ne (pe_callB (r := rLenQ K) (by exact q_lenQ) (by rfl) B.b_len (by decide +kernel) (pa_cons (pv 0) pa_nil)) (ac c_width_of hr_width_of (by rfl) (pa_cons (pv 0) pa_nil)) (nomark _))))) (pss_one (L2.ps_raise rfl (L2.takes_of rfl rfl rfl rfl) (pmk_own PySem.F.excBase_ValueError R.exO R.nO R.kO (raises_own R.rsO.1 R.rsO.2) (by rfl)))) pss_nil)), ?_⟩
    obtain ⟨v, d, rfl, hv, nd, k1, k2⟩ := h
    refine rd_at [some v] rfl ?_
    walk_at "rd"
    refine ⟨v, d, rfl, hv, nd, fun H1 s1 => ?_⟩
    walk_at "rd"
    cases e : dRows d with
    | false =>
      refine rd_ifb (fun _ => ?_) (fun z => nomatch z)
      walk_at "rd"
      exact k2 (by unfold dSq; rw [e]; rfl) _ s1
    | true =>
      refine rd_ifb (fun z => nomatch z) (fun _ => ?_)
      walk_at "rd"
      obtain ⟨a, xs, ds, rfl, rfl, e1, t⟩ := hv.rows e
      refine rd_lenT (SqT.of (s1 _ _ e1)) ?_
      walk_at "rd"
      refine ⟨_, _, rfl, hv.same s1, e, ?_⟩
      walk_at "rd"
      rw [t.len]
      have eq : dSq (.tuple ds) = decide (ds.length = dWid (.tuple ds)) := by
        unfold dSq
        rw [e, Bool.true_and]
        rfl
      refine rd_iteN (fun hw => ?_) (fun hw => ?_)
      · walk_at "rd"
        exact k2 (by rw [eq]; exact decide_eq_false (fun z => hw (by rw [z]))) _ s1
      · walk_at "rd"
        exact k1 (by rw [eq]; exact decide_eq_true (by omega)) _ s1
end
section
variable {P : Program} {w : World} {K : PySem.W.Frag} {mg : Str → Option Value} {base : Heap}
theorem okrank (B : Bi mg) (D : DefAt K mg "rank" srank ["rows"]) (c_check_rows : CalE P w K mg base "_check_rows" 7 ["value"] (spCheck CO)) (c_width_of : CalA P w K mg base "_width_of" 1 ["rows"] (spWidthD)) (crank_of : CalA P w K mg base "rank_of" 5 ["rows", "width", "most"] (spRankOf)) : CalE P w K mg base "rank" 8 ["rows"] (spRank CO) := by
  refine cale_of D scrank (fun vs H Q E h => ?_) (fun f cdv A outer s H vs Q E hr h => ?_)
  · obtain ⟨v, rfl, _⟩ := h; rfl
  · have hu := hr.units
    have hr_check_rows := hr.mono (show 7 ≤ 7 by decide)
    have hr_width_of := hr.mono (show 1 ≤ 7 by decide)
    have hrrank_of := hr.mono (show 5 ≤ 7 by decide)
    skip
    refine ⟨_, (pss_cons (ps_expr (ec c_check_rows hr_check_rows (by rfl) (L2.takes_of rfl rfl rfl rfl) (pa_cons (pv 0) pa_nil)))
        (pss_cons (ps_set (i := 1) scrank.nd rfl (by first | exact Or.inl rfl | exact Or.inr rfl) (ac c_width_of hr_width_of (by rfl) (pa_cons (pv 0) pa_nil)))
        (pss_one (ps_ret (ac crank_of hrrank_of (by rfl) (pa_cons (pv 0) (pa_cons (pv 1) (pa_cons (pv 1) pa_nil)))))))), ?_⟩
    obtain ⟨v, rfl, h⟩ := h
    refine rd_at [some v, none] rfl ?_
    walk_at "rd"
    refine rd_ClX ?_
    walk_at "rd"
    rcases h with ⟨d, hv, nd, hd, k⟩ | ⟨p, m, r, rfl, ho, hf, k⟩
    · exact ⟨v, d, rfl, hv, nd, (fun z => by rw [hd] at z; cases z), fun _ H1 s1 => k H1 s1⟩
    · refine ⟨_, _, rfl, ho.any, noDics_one m r, (fun _ H1 s1 => ?_), fun z => by rw [hf.rows] at z; cases z⟩
      walk_at "rd"
      refine ⟨_, _, rfl, (ho.same s1).any, hf.rows, ?_⟩
      rw [hf.wid]
      walk_at "rd"
      exact ⟨p, m, r, rfl, ho.same s1, hf, fun n H2 s2 => k n H2 (s1.trans s2)⟩
end
section
variable {P : Program} {w : World} {K : PySem.W.Frag} {mg : Str → Option Value} {base : Heap}
theorem okkernel (B : Bi mg) (D : DefAt K mg "kernel" skernel ["rows", "width"]) {CO CN : Addr} (R : Er K mg CO CN) (c_check_rows : CalE P w K mg base "_check_rows" 7 ["value"] (spCheck CO)) (c_width_of : CalA P w K mg base "_width_of" 1 ["rows"] (spWidthD)) (cis_integer : CalA P w K mg base "is_integer" 3 ["value"] (spIntD)) (ckernel_of : CalA P w K mg base "kernel_of" 6 ["rows", "width"] (spKernelOf)) (IN : Ini P w K mg base CN "IndexError" "IndexError.__new__" "given") : CalE P w K mg base "kernel" 8 ["rows", "width"] (spKernel CO CN) := by
  refine cale_of D sckernel (fun vs H Q E h => ?_) (fun f cdv A outer s H vs Q E hr h => ?_)
  · obtain ⟨v, u, rfl, _⟩ := h; rfl
  · have hu := hr.units
    obtain ⟨fIN, fdN, iCN, tIN, fnN, biN⟩ := IN.ex
    have hr_check_rows := hr.mono (show 7 ≤ 7 by decide)
    have hr_width_of := hr.mono (show 1 ≤ 7 by decide)
    have hris_integer := hr.mono (show 3 ≤ 7 by decide)
    have hrkernel_of := hr.mono (show 6 ≤ 7 by decide)
    obtain ⟨t_MAX_WIDTH, k_MAX_WIDTH⟩ := B.c_MAX_WIDTH
    skip
    refine ⟨_, (pss_cons (ps_expr (ec c_check_rows hr_check_rows (by rfl) (L2.takes_of rfl rfl rfl rfl) (pa_cons (pv 0) pa_nil)))
        (pss_cons (ps_if (PW.pt (pw_or (pt_not (pt_val (ac cis_integer hris_integer (by rfl) (pa_cons (pv 1) pa_nil)))) (pw_or1 (pt_not (pt_chain op_le op_le pe_int (pv 1) (pe_glob (v := .int 28) (by rfl) k_MAX_WIDTH ⟨_, rfl⟩)))))) (pss_one (L2.ps_raise rfl (L2.takes_of rfl rfl rfl rfl) (pmk_any (pmk_init PySem.F.excBase_IndexError R.xcN R.noN iCN tIN fnN (hr.mono (by decide)) biN (by rfl) R.nN (pa_cons (pv 1) pa_nil))))) pss_nil)
        (pss_cons (ps_if (PW.pt (pw_and (pt_cmpR op_gt (pe_callB (r := rLenQ K) (by exact q_lenQ) (by rfl) B.b_len (by decide +kernel) (pa_cons (pv 0) pa_nil)) pe_int (nomark _)) (pw_and1 (pt_cmpR op_ne (ac c_width_of hr_width_of (by rfl) (pa_cons (pv 0) pa_nil)) (pv 1) (nomark _))))) (pss_one (L2.ps_raise rfl (L2.takes_of rfl rfl rfl rfl) (pmk_own PySem.F.excBase_ValueError R.exO R.nO R.kO (raises_own R.rsO.1 R.rsO.2) (by rfl)))) pss_nil)
        (pss_one (ps_ret (ac ckernel_of hrkernel_of (by rfl) (pa_cons (pv 0) (pa_cons (pv 1) pa_nil)))))))), ?_⟩
    obtain ⟨v, u, rfl, h⟩ := h
    refine rd_at [some v, some u] rfl ?_
    walk_at "rd"
    refine rd_ClX ?_
    walk_at "rd"
    rcases h with ⟨d, hv, nd, hd, k⟩ | h
    · exact ⟨v, d, rfl, hv, nd, (fun z => by rw [hd] at z; cases z), fun _ H1 s1 => k H1 s1⟩
    obtain ⟨d, hv, nd, hd⟩ : ∃ d, AnyD H v d ∧ noDics d ∧ dRows d = true := by
      rcases h with ⟨d, e, hv, nd, hd, _⟩ | ⟨d, i, hv, nd, hd, _⟩ | ⟨p, m, r, rfl, _, (⟨ho, hf⟩ | ⟨h0, _⟩), _⟩
      · exact ⟨d, hv, nd, hd⟩
      · exact ⟨d, hv, nd, hd⟩
      · exact ⟨_, ho.any, noDics_one m r, hf.rows⟩
      · exact ⟨_, .tup h0 .nil, (fun x hx => nomatch hx), rfl⟩
    refine ⟨v, d, rfl, hv, nd, (fun _ H1 s1 => ?_), fun z => by rw [hd] at z; cases z⟩
    -- what the width is
    have wid : ∀ e, AnyD H u e → dWidth e = false → (∀ H' dd, Same H H' → H' dd = none → E (.ref CN) (some dd) (upd H' dd (.xd [("given", u)]))) → ∀ (t : TS) (D : Ends), tSeq (tIfS (tOr (tNot (tB (tCl spIntD (tCons (tVar 1) tNil)))) (tNot (tTest (tChain (rI0 fun i j => V.bl (decide (i ≤ j))) (rI0 fun i j => V.bl (decide (i ≤ j))) (tC (V.int 1)) (tVar 1) (tC (V.int 28))))))
        (fun x σ H => tMk1 CN "given" (tCons (tVar 1) tNil) σ H fun cls d H' => E cls d H') tNext) t D [some v, some u] H1 := fun e he hw ke t D => by
      walk_at "rd"
      refine ⟨u, e, rfl, he.same s1, ?_⟩
      walk_at "rd"
      have bad : tMk1 CN "given" (tCons (tVar 1) tNil) [some v, some u] H1 fun cls d H' => E cls d H' := ⟨u, rfl, u, rfl, fun dd hd' => ke H1 dd s1 hd'⟩
      cases ei : dInt e with
      | false => exact rd_ifb (fun _ => bad) (fun z => nomatch z)
      | true =>
        refine rd_ifb (fun z => nomatch z) (fun _ => ?_)
        cases he with
        | int i =>
          have hw2 : ¬ (1 ≤ i ∧ i ≤ 28) := of_decide_eq_false hw
          walk_at "rd"
          refine rd_ite (fun h1 => ?_) (fun h1 => ?_)
          · walk_at "rd"
            refine rd_iteN (fun h2 => ?_) (fun h2 => ?_)
            · exact bad
            · exact absurd ⟨h1, h2⟩ hw2
          · walk_at "rd"
            exact bad
        | non => cases ei
        | bl b => cases ei
        | str z => cases ei
        | lst e1 t1 => cases ei
        | tup e1 t1 => cases ei
        | dic e1 => cases ei
    have fine : ∀ i : Int, 1 ≤ i → i ≤ 28 → u = .int i → ∀ (t : TS) (D : Ends), t D [some v, some u] H1 → tSeq (tIfS (tOr (tNot (tB (tCl spIntD (tCons (tVar 1) tNil)))) (tNot (tTest (tChain (rI0 fun i j => V.bl (decide (i ≤ j))) (rI0 fun i j => V.bl (decide (i ≤ j))) (tC (V.int 1)) (tVar 1) (tC (V.int 28))))))
        (fun x σ H => tMk1 CN "given" (tCons (tVar 1) tNil) σ H fun cls d H' => E cls d H') tNext) t D [some v, some u] H1 := fun i h1 h2 hi t D kk => by
      subst hi
      walk_at "rd"
      refine ⟨_, _, rfl, .int i, ?_⟩
      walk_at "rd"
      have ei : dInt (.int i) = true := decide_eq_true (Nat.lt_of_lt_of_le (show i.natAbs < 10 ^ 2 by omega) (Nat.pow_le_pow_right (by decide) (by decide)))
      rw [ei]
      refine rd_ifb (fun z => nomatch z) (fun _ => ?_)
      walk_at "rd"
      refine rd_ite (fun _ => ?_) (fun z => absurd h1 z)
      walk_at "rd"
      refine rd_iteN (fun z => absurd h2 z) (fun _ => ?_)
      walk_at "rd"
      exact kk
    rcases h with ⟨d', e, hv', nd', hd', he, hw, k⟩ | ⟨d', i, hv', nd', hd', hi, i1, i2, hl, hne, k⟩ | ⟨p, m, r, rfl, hu2, ho, k⟩
    · exact wid e he hw k _ _
    · refine fine i i1 i2 hi _ _ ?_
      subst hi
      obtain ⟨a, xs, ds, rfl, rfl, e, t⟩ := hv'.rows hd'
      have hl' : ds.length ≠ 0 := hl
      walk_at "rd"
      refine rd_lenT (SqT.of (s1 _ _ e)) ?_
      walk_at "rd"
      rw [t.len]
      refine rd_ite (fun _ => ?_) (fun z => absurd (by omega) z)
      walk_at "rd"
      refine ⟨_, _, rfl, hv'.same s1, hd', ?_⟩
      walk_at "rd"
      refine rd_iteN (fun _ => ?_) (fun z => absurd z.symm hne)
      exact k _ s1
    · have hr1 : 1 ≤ r.length ∧ r.length ≤ 28 := by
        rcases ho with ⟨_, hf⟩ | ⟨_, h1, h2, _⟩
        · exact ⟨hf.l1, hf.l28⟩
        · exact ⟨by omega, h2⟩
      refine fine r.length (by omega) (by omega) hu2 _ _ ?_
      subst hu2
      rcases ho with ⟨ho, hf⟩ | ⟨h0, h1, h2, hz⟩
      · obtain ⟨q, e1, e2⟩ := ho
        have ho : One H p m r := ⟨q, e1, e2⟩
        walk_at "rd"
        refine rd_lenT (SqT.of (s1 _ _ e1)) ?_
        walk_at "rd"
        have m1 := hf.m1
        rw [List.length_replicate]
        refine rd_ite (fun _ => ?_) (fun z => absurd (by omega) z)
        walk_at "rd"
        refine ⟨_, _, rfl, (ho.same s1).any, hf.rows, ?_⟩
        rw [hf.wid]
        walk_at "rd"
        refine rd_iteN (fun z => absurd rfl z) (fun _ => ?_)
        walk_at "rd"
        exact ⟨p, m, r, rfl, Or.inl ⟨ho.same s1, hf⟩, fun v H2 s2 => k v H2 (s1.trans s2)⟩
      · walk_at "rd"
        refine rd_lenT (SqT.of (s1 _ _ h0)) ?_
        walk_at "rd"
        refine rd_ite (fun z => absurd z (by decide)) (fun _ => ?_)
        walk_at "rd"
        exact ⟨p, 0, r, rfl, Or.inr ⟨s1 _ _ h0, h1, h2, hz⟩, fun v H2 s2 => k v H2 (s1.trans s2)⟩
end
section
variable {P : Program} {w : World} {K : PySem.W.Frag} {mg : Str → Option Value} {base : Heap}
theorem oksolution (B : Bi mg) (D : DefAt K mg "solution" ssolution ["rows", "aims"]) {CO CN : Addr} (R : Er K mg CO CN) (c_are_aims : CalA P w K mg base "_are_aims" 5 ["rows", "value"] (spAimsD)) (c_check_rows : CalE P w K mg base "_check_rows" 7 ["value"] (spCheck CO)) (c_least_solution : CalA P w K mg base "_least_solution" 1 ["leads", "ends", "scale", "width"] (spLeast)) (c_width_of : CalA P w K mg base "_width_of" 1 ["rows"] (spWidthD)) (creduced : CalA P w K mg base "reduced" 5 ["rows", "width", "likely"] (spReduced K)) : CalE P w K mg base "solution" 8 ["rows", "aims"] (spSolution CO) := by
  refine cale_of D scsolution (fun vs H Q E h => ?_) (fun f cdv A outer s H vs Q E hr h => ?_)
  · obtain ⟨v, u, rfl, _⟩ := h; rfl
  · have hu := hr.units
    have hr_are_aims := hr.mono (show 5 ≤ 7 by decide)
    have hr_check_rows := hr.mono (show 7 ≤ 7 by decide)
    have hr_least_solution := hr.mono (show 1 ≤ 7 by decide)
    have hr_width_of := hr.mono (show 1 ≤ 7 by decide)
    have hrreduced := hr.mono (show 5 ≤ 7 by decide)
    skip
    refine ⟨_, (pss_cons (ps_expr (ec c_check_rows hr_check_rows (by rfl) (L2.takes_of rfl rfl rfl rfl) (pa_cons (pv 0) pa_nil)))
        (pss_cons (ps_if (pt_cmpR op_eq (pe_callB (r := rLenQ K) (by exact q_lenQ) (by rfl) B.b_len (by decide +kernel) (pa_cons (pv 0) pa_nil)) pe_int (nomark _)) (pss_one (L2.ps_raise rfl (L2.takes_of rfl rfl rfl rfl) (pmk_own PySem.F.excBase_ValueError R.exO R.nO R.kO (raises_own R.rsO.1 R.rsO.2) (by rfl)))) pss_nil)
        (pss_cons (ps_if (pt_not (pt_val (ac c_are_aims hr_are_aims (by rfl) (pa_cons (pv 0) (pa_cons (pv 1) pa_nil))))) (pss_one (L2.ps_raise rfl (L2.takes_of rfl rfl rfl rfl) (pmk_own PySem.F.excBase_ValueError R.exO R.nO R.kO (raises_own R.rsO.1 R.rsO.2) (by rfl)))) pss_nil)
        (pss_cons (ps_set (i := 2) scsolution.nd rfl (by first | exact Or.inl rfl | exact Or.inr rfl) (ac c_width_of hr_width_of (by rfl) (pa_cons (pv 0) pa_nil)))
        (pss_cons (ps_setLc (i := 3) (own := [("row", 8), ("aim", 9)]) (g := gTup K 2 (gCons (gName 8) (gCons (gName 9) gNil))) (tt := tYes) (by rfl) scsolution.nd rfl rfl (sw_true rfl rfl rfl (by decide +kernel)) (pi_zipM (by rfl) B.b_zip (pa_cons (pv 0) (pa_cons (pv 1) pa_nil))) (blkOk_by (own := [("row", 8), ("aim", 9)]) (N := ["rows", "aims", "width", "wide", "leads", "_", "form", "scale", "row", "aim"]) (sc := defScope ssolution) (by decide +kernel)) (fun _ _ _ _ _ => (pg_tup (by rfl) (pgs_cons (pg_name (i := 8) scsolution.nd rfl (by first | exact Or.inl rfl | exact Or.inr rfl)) (pgs_cons (pg_name (i := 9) scsolution.nd rfl (by first | exact Or.inl rfl | exact Or.inr rfl)) pgs_nil)))) (fun _ _ _ _ _ => pts_nil) (fun _ _ _ _ _ => (pe_op (r := rCatA K) (by exact op_catA) (pv 8) (pe_tup (pa_cons (pv 9) pa_nil)))))
        (pss_cons (ps_asg (ac creduced hrreduced (by rfl) (pa_cons (pv 3) (pa_cons (pe_op op_add (pv 2) pe_int) (pa_cons (pv 2) pa_nil)))) (pg_tup (by rfl) (pgs_cons (pg_name (i := 4) scsolution.nd rfl (by first | exact Or.inl rfl | exact Or.inr rfl)) (pgs_cons (pg_name (i := 5) scsolution.nd rfl (by first | exact Or.inl rfl | exact Or.inr rfl)) (pgs_cons (pg_name (i := 6) scsolution.nd rfl (by first | exact Or.inl rfl | exact Or.inr rfl)) (pgs_cons (pg_name (i := 7) scsolution.nd rfl (by first | exact Or.inl rfl | exact Or.inr rfl)) pgs_nil))))))
        (pss_cons (ps_if (pt_cmpR (r := rIn K false) (by exact op_in_seq) (pv 2) (pv 4) (by rfl)) (pss_one (ps_ret pe_non)) pss_nil)
        (pss_one (ps_ret (ac c_least_solution hr_least_solution (by rfl) (pa_cons (pv 4) (pa_cons (pe_lc (own := [("row", 8)]) (g := gName 8) (tt := tYes) (by rfl) scsolution.nd (pi_list (pv 6)) (blkOk_by (own := [("row", 8)]) (N := ["rows", "aims", "width", "wide", "leads", "_", "form", "scale", "row", "aim"]) (sc := defScope ssolution) (by decide +kernel)) (fun _ _ _ _ _ => (pg_name (i := 8) scsolution.nd rfl (by first | exact Or.inl rfl | exact Or.inr rfl))) (fun _ _ _ _ _ => pts_nil) (fun _ _ _ _ _ => (pe_ix (r := rIxL K) (by exact ix_list) (pv 8) (pe_un un_neg pe_int) (fun _ _ => rfl)))) (pa_cons (pv 7) (pa_cons (pv 2) pa_nil)))))))))))))), ?_⟩
    obtain ⟨v, u, rfl, h⟩ := h
    refine rd_at [some v, some u, none, none, none, none, none, none, none, none] rfl ?_
    walk_at "rd"
    refine rd_ClX ?_
    walk_at "rd"
    rcases h with ⟨d, hv, nd, hd, k⟩ | ⟨hv, k⟩ | ⟨d, e, hv, nd, hd, hl, he, ne, ha, k⟩ | ⟨p, q, r, x, y, rfl, hp, hq2, rfl, hr2, hx, hxm, hxb, hy, k⟩
    · exact ⟨v, d, rfl, hv, nd, (fun z => by rw [hd] at z; cases z), fun _ H1 s1 => k H1 s1⟩
    · refine ⟨v, _, rfl, hv, (fun x hx => nomatch hx), (fun _ H1 s1 => ?_), fun z => nomatch z⟩
      obtain ⟨a, xs, ds, rfl, e0, e, t⟩ := (hv.same s1).rows rfl
      cases e0
      cases t
      walk_at "rd"
      refine rd_lenT (SqT.of e) ?_
      walk_at "rd"
      refine rd_ite (fun _ => ?_) (fun z => absurd rfl z)
      exact k _ s1
    · refine ⟨v, d, rfl, hv, nd, (fun _ H1 s1 => ?_), fun z => by rw [hd] at z; cases z⟩
      obtain ⟨a, xs, ds, rfl, rfl, e1, t⟩ := (hv.same s1).rows hd
      have hl' : ds.length ≠ 0 := hl
      walk_at "rd"
      refine rd_lenT (SqT.of e1) ?_
      walk_at "rd"
      rw [t.len]
      refine rd_ite (fun z => absurd z (by omega)) (fun _ => ?_)
      walk_at "rd"
      refine ⟨_, _, u, e, rfl, hv.same s1, hd, he.same s1, ne, fun H2 s2 => ?_⟩
      walk_at "rd"
      rw [ha]
      refine rd_ifb (fun _ => ?_) (fun z => nomatch z)
      exact k _ (s1.trans s2)
    · have one : dRows (.tuple [.tuple [.int x]]) = true := by
        show (true && (((true && true && (dInt (.int x) && true)) && true) && true)) = true
        rw [show dInt (.int x) = true from decide_eq_true hx]
        rfl
      have any1 : AnyD H (.ref p) (.tuple [.tuple [.int x]]) := .tup hp (.cons (.tup hq2 (.cons (.int x) .nil)) .nil)
      refine ⟨.ref p, _, rfl, any1, (noDics_by rfl), (fun _ H1 s1 => ?_), fun z => by rw [one] at z; cases z⟩
      walk_at "rd"
      refine rd_lenT (SqT.of (s1 _ _ hp)) ?_
      walk_at "rd"
      refine rd_ite (fun z => absurd (show ((1 : Nat) : Int) = 0 from z) (by decide)) (fun _ => ?_)
      walk_at "rd"
      refine ⟨_, _, .ref r, .tuple [.int y], rfl, any1.same s1, one, .tup (s1 _ _ hr2) (.cons (.int y) .nil), (noDic_by rfl), fun H2 s2 => ?_⟩
      have s12 := s1.trans s2
      have ay : dAims (dLen (.tuple [.tuple [.int x]])) (.tuple [.int y]) = true := by
        show (true && (dInt (.int y) && true)) = true
        rw [show dInt (.int y) = true from decide_eq_true (by rw [hy, Int.zero_sub, Int.natAbs_neg]; exact hx)]
        rfl
      walk_at "rd"
      rw [ay]
      refine rd_ifb (fun z => nomatch z) (fun _ => ?_)
      walk_at "rd"
      refine ⟨_, _, rfl, any1.same s12, one, ?_⟩
      walk_at "rd"
      have P2 := s12 _ _ hp
      have Q2 := s12 _ _ hq2
      have R2 := s12 _ _ hr2
      refine rd_zipM ?_
      walk_at "rd"
      refine ⟨false, false, p, r, [.ref q], [.int y], rfl, ⟨SqT.of P2, SqT.of R2⟩, ?_⟩
      intro E1 hE1
      refine ⟨fun i m H' => Same H2 H' ∧ ((i = 0 ∧ m = 1 ∧ H' E1 = some (.lst [])) ∨ (i = 1 ∧ m = 0 ∧ ∃ t, H' E1 = some (.lst [.ref t]) ∧ H' t = some (.tup [.int x, .int y]))), ⟨1, same_up hE1 (Same.refl _), Or.inl ⟨rfl, rfl, upd_same⟩⟩, ?_⟩
      rintro i m H3 ⟨s3, (⟨rfl, rfl, h3⟩ | ⟨rfl, rfl, t, h3, ht⟩)⟩
      · refine Or.inr ⟨⟨[.ref q], [.int y], _, _, ⟨SqT.of (s3 _ _ P2), SqT.of (s3 _ _ R2)⟩, rfl, rfl⟩, fun H' => Same H2 H' ∧ ∃ t, H' E1 = some (.lst [.ref t]) ∧ H' t = some (.tup [.int x, .int y]), fun H' w => ⟨0, Nat.zero_lt_one, w.1, Or.inr ⟨rfl, rfl, w.2⟩⟩, ?_⟩
        rintro z H4 ⟨T, a1, b1, ⟨rfl, hT, rfl⟩, f1, f2⟩
        have e1 := Option.some.inj (f1 [.ref q] (SqT.of (s3 _ _ P2)))
        have e2 := Option.some.inj (f2 [.int y] (SqT.of (s3 _ _ R2)))
        subst e1 e2
        refine ⟨T, _, rfl, SqT.of upd_same, rfl, ⟨_, _, rfl, rd_name ⟨_, _, rfl, rd_name ⟨rfl, ?_⟩⟩⟩⟩
        refine ⟨rfl, ?_⟩
        refine rd_yes ?_
        walk_at "rd"
        intro p5 h5
        refine ⟨q, p5, [.int x], [.int y], rfl, rfl, SqT.of (up_old h5 (up_old hT (s3 _ _ Q2))), SqT.of upd_same, Nat.le_trans (Nat.le_of_ble_eq_true rfl) (show 30 ≤ sizeLine by decide), (fun z => nomatch z), (fun _ z => nomatch z), fun _ _ t ht => ?_⟩
        have e3 := up_old (u := .tup ([V.int x] ++ [V.int y])) ht (up_old h5 (up_old hT h3))
        refine ⟨[], e3, by decide, same_up hE1 (fun b o e => up_old ht (up_old h5 (up_old hT (s3 _ _ e)))), t, upd_same, ?_⟩
        refine up_oth (fun z => ?_) upd_same
        rw [z, up_old h5 (up_old hT h3)] at ht
        cases ht
      · refine Or.inl ⟨⟨[.ref q], [.int y], ⟨SqT.of (s3 _ _ P2), SqT.of (s3 _ _ R2)⟩, Nat.le_refl 1, Nat.le_refl 1, Or.inl rfl⟩, ?_⟩
        walk_at "rd"
        refine ⟨E1, 1, t, [x, y], 1, rfl, Or.inl (SqL.of h3), (fun _ => ht), by decide, by show 2 ≤ 2; decide, by show 2 ≤ 28; decide, ?_, Or.inr ⟨Nat.le_refl 1, rfl, x, List.mem_cons_self, hxm⟩, fun t2 L O F s H4 s4 red ⟨a, b, c, ht2, ha2, hb2, hc2⟩ => ?_⟩
        · intro z hz
          simp only [List.mem_cons, List.not_mem_nil, or_false] at hz
          rcases hz with rfl | rfl
          · exact hx
          · rw [hy, Int.zero_sub, Int.natAbs_neg]
            exact hx
        refine ⟨t2, _, rfl, SqT.of ht2, rfl, ⟨_, _, rfl, rd_name ⟨_, _, rfl, rd_name ⟨_, _, rfl, rd_name ⟨_, _, rfl, rd_name ⟨rfl, ?_⟩⟩⟩⟩⟩⟩
        have sA : Same H H4 := s12.trans (s3.trans s4)
        walk_at "rd"
        refine ⟨a, _, rfl, Or.inl (SqL.of ha2), rfl, by rw [List.all_map, List.all_eq_true]; exact fun _ _ => rfl, ?_⟩
        refine ⟨_, rfl, ?_⟩
        refine rd_ifb (fun _ => ?_) (fun hno => ?_)
        · walk_at "rd"
          exact k _ _ sA
        have no1 : 1 ∉ L := fun hm => by
          have e : inV (V.int 1) ((ofN L).map V.int) = true := List.any_eq_true.mpr ⟨V.int 1, List.mem_map.mpr ⟨1, List.mem_map.mpr ⟨1, hm, rfl⟩, rfl⟩, rfl⟩
          have e2 : inV (V.int 1) ((ofN L).map V.int) = false := hno
          rw [e] at e2
          cases e2
        have o1 : 1 ∈ O := (red.al 1 (show 1 < 2 by decide)).resolve_left no1
        have ol : 0 < O.length := List.length_pos_of_mem o1
        obtain ⟨rs, c1, c2, c3⟩ := hc2
        walk_at "rd"
        refine ⟨⟨_, SqL.of c1⟩, ?_⟩
        intro E3 hE3
        have fl : F.length ≤ 2 := by
          have h1 := red.ll
          have h2 := red.sum
          have h3 : [x, y].length = 2 := rfl
          omega
        refine lc_same (n := (rs.map V.ref).length) (wk_list .non) (by rw [List.length_map]; omega) hE3 (fun H' s' => SqL.of (s' _ _ c1)) (fun _ => true) (fun j => V.int ((F.getD j []).getD (O.length - 1) 0)) (fun j hj H' _ R hR => hR H' (Same.refl H')) (fun j hj _ H' s' R hR => ?_) (fun H' s' hl => ?_)
        · rw [List.length_map] at hj
          have hjF : j < F.length := by omega
          have ej : (rs.map V.ref).getD j .non = V.ref rs[j] := by rw [List.getD_eq_getElem?_getD, List.getElem?_map, List.getElem?_eq_getElem hj]; rfl
          have er := c3 j rs[j] F[j] (List.getElem?_eq_getElem hj) (List.getElem?_eq_getElem hjF)
          have fw := red.fw _ (List.getElem_mem hjF)
          have eF : F.getD j [] = F[j] := by rw [List.getD_eq_getElem?_getD, List.getElem?_eq_getElem hjF]; rfl
          rw [ej]
          rw [eF] at hR
          walk_at "rd"
          refine rd_ixL (SqL.of (s' _ _ er)) (at_last (by omega)) ?_
          rw [fw]
          exact hR _ (Same.refl _)
        · walk_at "rd"
          refine ⟨a, E3, L, (List.range F.length).map fun j => (F.getD j []).getD (O.length - 1) 0, s, 1, rfl, s' _ _ ha2, ?_, by rw [List.length_map, List.length_range]; exact red.ll, fun z hz => ?_, red.nz, red.bd, by decide, fun v H5 s5 => k v H5 ((sA.trans s').trans s5)⟩
          · unfold Li
            rw [hl, filt_yes, List.map_map, List.length_map, c2]
            rfl
          · have z1 := red.le z hz
            have z2 : z ≠ 1 := fun e => no1 (e ▸ hz)
            have h3 : [x, y].length = 2 := rfl
            omega
end
section
variable {P : Program} {w : World} {K : PySem.W.Frag} {mg : Str → Option Value} {base : Heap}
theorem okdeterminant (B : Bi mg) (D : DefAt K mg "determinant" sdeterminant ["table"]) (c_check_table : CalE P w K mg base "_check_table" 7 ["value"] (spCheckT CO)) (cdeterminant_of : CalA P w K mg base "determinant_of" 2 ["table"] (spDetOf)) : CalE P w K mg base "determinant" 8 ["table"] (spDet CO) := by
  refine cale_of D scdeterminant (fun vs H Q E h => ?_) (fun f cdv A outer s H vs Q E hr h => ?_)
  · obtain ⟨v, rfl, _⟩ := h; rfl
  · have hu := hr.units
    have hr_check_table := hr.mono (show 7 ≤ 7 by decide)
    have hrdeterminant_of := hr.mono (show 2 ≤ 7 by decide)
    skip
    refine ⟨_, (pss_cons (ps_expr (ec c_check_table hr_check_table (by rfl) (L2.takes_of rfl rfl rfl rfl) (pa_cons (pv 0) pa_nil)))
        (pss_one (ps_ret (ac cdeterminant_of hrdeterminant_of (by rfl) (pa_cons (pv 0) pa_nil))))), ?_⟩
    obtain ⟨v, rfl, h⟩ := h
    refine rd_at [some v] rfl ?_
    walk_at "rd"
    refine rd_ClX ?_
    walk_at "rd"
    rcases h with ⟨d, hv, nd, hd, k⟩ | ⟨M, hv, hM, k⟩
    · exact ⟨v, d, rfl, hv, nd, (fun z => by rw [hd] at z; cases z), fun _ H1 s1 => k H1 s1⟩
    · refine ⟨v, dTab M, rfl, hv, noDics_tab M, (fun _ H1 s1 => ?_), fun z => by rw [okTab_sq hM] at z; cases z⟩
      walk_at "rd"
      exact ⟨v, M, rfl, hv.same s1, hM, fun n H2 s2 => k n H2 (s1.trans s2)⟩
end
section
variable {P : Program} {w : World} {K : PySem.W.Frag} {mg : Str → Option Value} {base : Heap}
theorem okis_square_sum (B : Bi mg) (D : DefAt K mg "is_square_sum" sis_square_sum ["table"]) {CO CN : Addr} (R : Er K mg CO CN) (c_check_table : CalE P w K mg base "_check_table" 7 ["value"] (spCheckT CO)) (c_is_symmetric : CalA P w K mg base "_is_symmetric" 1 ["table"] (spSym)) (cis_sum_of_squares : CalA P w K mg base "is_sum_of_squares" 3 ["table"] (spSqOf)) : CalE P w K mg base "is_square_sum" 8 ["table"] (spSqs CO) := by
  refine cale_of D scis_square_sum (fun vs H Q E h => ?_) (fun f cdv A outer s H vs Q E hr h => ?_)
  · obtain ⟨v, rfl, _⟩ := h; rfl
  · have hu := hr.units
    have hr_check_table := hr.mono (show 7 ≤ 7 by decide)
    have hr_is_symmetric := hr.mono (show 1 ≤ 7 by decide)
    have hris_sum_of_squares := hr.mono (show 3 ≤ 7 by decide)
    skip
    refine ⟨_, (pss_cons (ps_expr (ec c_check_table hr_check_table (by rfl) (L2.takes_of rfl rfl rfl rfl) (pa_cons (pv 0) pa_nil)))
        (pss_cons (ps_if (pt_not (pt_val (ac c_is_symmetric hr_is_symmetric (by rfl) (pa_cons (pv 0) pa_nil)))) (pss_one (L2.ps_raise rfl (L2.takes_of rfl rfl rfl rfl) (pmk_own PySem.F.excBase_ValueError R.exO R.nO R.kO (raises_own R.rsO.1 R.rsO.2) (by rfl)))) pss_nil)
        (pss_one (ps_ret (ac cis_sum_of_squares hris_sum_of_squares (by rfl) (pa_cons (pv 0) pa_nil)))))), ?_⟩
    obtain ⟨v, rfl, h⟩ := h
    refine rd_at [some v] rfl ?_
    walk_at "rd"
    refine rd_ClX ?_
    walk_at "rd"
    rcases h with ⟨d, hv, nd, hd, k⟩ | ⟨c, hv, c1, c2, k⟩ | ⟨x, hv, hx, h0, k⟩
    · exact ⟨v, d, rfl, hv, nd, (fun z => by rw [hd] at z; cases z), fun _ H1 s1 => k H1 s1⟩
    · refine ⟨v, _, rfl, hv, noDics_tab _, (fun _ H1 s1 => ?_), fun z => by rw [okTab_sq (Or.inr ⟨c, rfl, c1, c2⟩)] at z; cases z⟩
      walk_at "rd"
      refine ⟨v, rfl, Or.inl ⟨c, hv.same s1, c1, c2, fun H2 s2 => ?_⟩⟩
      walk_at "rd"
      refine rd_ifb (fun _ => ?_) (fun z => nomatch z)
      exact k _ (s1.trans s2)
    · refine ⟨v, _, rfl, hv, noDics_tab _, (fun _ H1 s1 => ?_), fun z => by rw [okTab_sq (Or.inl ⟨x, rfl, hx⟩)] at z; cases z⟩
      walk_at "rd"
      refine ⟨v, rfl, Or.inr ⟨x, hv.same s1, fun H2 s2 => ?_⟩⟩
      walk_at "rd"
      refine rd_ifb (fun z => nomatch z) (fun _ => ?_)
      walk_at "rd"
      exact ⟨v, x, rfl, (hv.same s1).same s2, hx, h0, fun b H3 s3 => k b H3 ((s1.trans s2).trans s3)⟩
end
section
variable {P : Program} {w : World} {K : PySem.W.Frag} {mg : Str → Option Value} {base : Heap}
theorem okare_free (B : Bi mg) (D : DefAt K mg "are_free" sare_free ["rows"]) (crank : CalE P w K mg base "rank" 8 ["rows"] (spRank CO)) : CalE P w K mg base "are_free" 9 ["rows"] (spFree CO) := by
  refine cale_of D scare_free (fun vs H Q E h => ?_) (fun f cdv A outer s H vs Q E hr h => ?_)
  · obtain ⟨v, rfl, _⟩ := h; rfl
  · have hu := hr.units
    have hrrank := hr.mono (show 8 ≤ 8 by decide)
    skip
    refine ⟨_, (pss_one (ps_ret (pe_cmpR op_eq (ec crank hrrank (by rfl) (L2.takes_of rfl rfl rfl rfl) (pa_cons (pv 0) pa_nil)) (pe_callB (r := rLenQ K) (by exact q_lenQ) (by rfl) B.b_len (by decide +kernel) (pa_cons (pv 0) pa_nil)) (nomark _)))), ?_⟩
    obtain ⟨v, rfl, h⟩ := h
    refine rd_at [some v] rfl ?_
    walk_at "rd"
    refine rd_ClX ?_
    walk_at "rd"
    rcases h with ⟨d, hv, nd, hd, k⟩ | ⟨p, m, r, rfl, ho, hf, k⟩
    · exact ⟨v, rfl, Or.inl ⟨d, hv, nd, hd, k⟩⟩
    · refine ⟨_, rfl, Or.inr ⟨p, m, r, rfl, ho, hf, fun n H1 s1 => ?_⟩⟩
      walk_at "rd"
      obtain ⟨q, h1, h2⟩ := ho
      refine rd_lenT (SqT.of (s1 _ _ h1)) ?_
      walk_at "rd"
      exact k _ _ s1
end
section
variable {P : Program} {w : World} {K : PySem.W.Frag} {mg : Str → Option Value} {base : Heap}
set_option maxHeartbeats 0 in
theorem ok_law_rows_refused {CO CN c T1 : Addr} {T : List (Addr × Str)} (B : Bi mg) (D : DefC K mg "_law_rows_refused" s_law_rows_refused ["_law_bag_here"] c) (R : Er K mg CO CN) (DW : DefAt K mg "_law_word" s_law_word ["_law_call"]) (TB : LamX.TabB base mg c T1) (hmT : (T1, ("_law_rows_refused.<locals>.<lambda>" : Str)) ∈ T) (huT : ∀ p ∈ T, p.1 = T1 → p.2 = ("_law_rows_refused.<locals>.<lambda>" : Str)) (c_law_bad_row : CalA P w K mg base "_law_bad_row" 3 ["_law_bag_here"] (spBadRow)) (c_law_bad_rows : CalA P w K mg base "_law_bad_rows" 3 ["_law_bag_here"] (spBadRows)) (c_law_one_of : CalA P w K mg base "_law_one_of" 2 ["_law_bag_here", "_law_items"] (spOne K)) (care_free : CalE P w K mg base "are_free" 9 ["rows"] (spFree CO)) (ccleared : CalE P w K mg base "cleared" 6 ["row"] (spCleared CO)) (cdeterminant : CalE P w K mg base "determinant" 8 ["table"] (spDet CO)) (cis_square_sum : CalE P w K mg base "is_square_sum" 8 ["table"] (spSqs CO)) (ckernel : CalE P w K mg base "kernel" 8 ["rows", "width"] (spKernel CO CN)) (crank : CalE P w K mg base "rank" 8 ["rows"] (spRank CO)) (csolution : CalE P w K mg base "solution" 8 ["rows", "aims"] (spSolution CO)) : Cal P w K mg base "_law_rows_refused" 34 ["_law_bag_here"] (spRefused T) := by
  refine calc_of D sc_law_rows_refused (fun vs H Q E h => ?_) (fun f A outer s H vs Q E hq hr h => ?_)
  · obtain ⟨a, rfl, _⟩ := h; rfl
  · have hu := hr.units
    replace hq := Quiet.deeper hq (envOfC "_law_rows_refused" (defScope s_law_rows_refused) s.heap.objs.size f (.ref c))
    have hr_law_bad_row := hr.mono (show 3 ≤ 33 by decide)
    have hr_law_bad_rows := hr.mono (show 3 ≤ 33 by decide)
    have hr_law_one_of := hr.mono (show 2 ≤ 33 by decide)
    have hrare_free := hr.mono (show 9 ≤ 33 by decide)
    have hrcleared := hr.mono (show 6 ≤ 33 by decide)
    have hrdeterminant := hr.mono (show 8 ≤ 33 by decide)
    have hris_square_sum := hr.mono (show 8 ≤ 33 by decide)
    have hrkernel := hr.mono (show 8 ≤ 33 by decide)
    have hrrank := hr.mono (show 8 ≤ 33 by decide)
    have hrsolution := hr.mono (show 8 ≤ 33 by decide)
    skip
    refine ⟨_, (pss_cons (ps_asg (pe_tup (pa_cons (ac c_law_bad_rows hr_law_bad_rows (by rfl) (pa_cons (pv 0) pa_nil)) (pa_cons (ac c_law_one_of hr_law_one_of (by rfl) (pa_cons (pv 0) (pa_cons (pe_lst (pa_cons pe_int (pa_cons pe_int (pa_cons (pe_un un_neg pe_int) (pa_cons pe_non (pa_cons pe_bl (pa_cons pe_str (pa_cons (pe_tup (pa_cons pe_int pa_nil)) (pa_cons (pe_op op_pow pe_int pe_int) (pa_cons pe_int pa_nil)))))))))) pa_nil))) pa_nil))) (pg_tup (by rfl) (pgs_cons (pg_name (i := 1) sc_law_rows_refused.nd rfl (by first | exact Or.inl rfl | exact Or.inr rfl)) (pgs_cons (pg_name (i := 2) sc_law_rows_refused.nd rfl (by first | exact Or.inl rfl | exact Or.inr rfl)) pgs_nil))))
        (pss_cons (ps_set (i := 3) sc_law_rows_refused.nd rfl (by first | exact Or.inl rfl | exact Or.inr rfl) (pe_lst (pa_cons (wl (k := 30) (t := fun E => tClX (spRank CO) (fun cls d _ H => E cls d H) (tCons (tVar 1) tNil)) DW R B.b_repr hq (hr.mono (by decide)) (by rfl) TB (by rfl) hmT huT (LamX.lamS_by (sc := defScope s_law_rows_refused) (by decide +kernel)) (by rfl) (by intros; rfl) (fun A2 outer2 s2 H2 E2 f2 c2 hr2 => (ec crank (hr2.mono (by decide)) (by rfl) (L2.takes_of rfl rfl rfl rfl) (pa_cons (pv 1) pa_nil)))) pa_nil)))
        (pss_cons (ps_set (i := 3) sc_law_rows_refused.nd rfl (by first | exact Or.inl rfl | exact Or.inr rfl) (pe_op op_cat (pv 3) (pe_lst (pa_cons (wl (k := 30) (t := fun E => tClX (spFree CO) (fun cls d _ H => E cls d H) (tCons (tVar 1) tNil)) DW R B.b_repr hq (hr.mono (by decide)) (by rfl) TB (by rfl) hmT huT (LamX.lamS_by (sc := defScope s_law_rows_refused) (by decide +kernel)) (by rfl) (by intros; rfl) (fun A2 outer2 s2 H2 E2 f2 c2 hr2 => (ec care_free (hr2.mono (by decide)) (by rfl) (L2.takes_of rfl rfl rfl rfl) (pa_cons (pv 1) pa_nil)))) pa_nil))))
        (pss_cons (ps_set (i := 3) sc_law_rows_refused.nd rfl (by first | exact Or.inl rfl | exact Or.inr rfl) (pe_op op_cat (pv 3) (pe_lst (pa_cons (wl (k := 30) (t := fun E => tClX (spKernel CO CN) (fun cls d _ H => E cls d H) (tCons (tVar 1) (tCons (tVar 2) tNil))) DW R B.b_repr hq (hr.mono (by decide)) (by rfl) TB (by rfl) hmT huT (LamX.lamS_by (sc := defScope s_law_rows_refused) (by decide +kernel)) (by rfl) (by intros; rfl) (fun A2 outer2 s2 H2 E2 f2 c2 hr2 => (ec ckernel (hr2.mono (by decide)) (by rfl) (L2.takes_of rfl rfl rfl rfl) (pa_cons (pv 1) (pa_cons (pv 2) pa_nil))))) pa_nil))))
        (pss_cons (ps_set (i := 3) sc_law_rows_refused.nd rfl (by first | exact Or.inl rfl | exact Or.inr rfl) (pe_op op_cat (pv 3) (pe_lst (pa_cons (wl (k := 30) (t := fun E => tClX (spSolution CO) (fun cls d _ H => E cls d H) (tCons (tVar 1) (tCons (tTup tNil) tNil))) DW R B.b_repr hq (hr.mono (by decide)) (by rfl) TB (by rfl) hmT huT (LamX.lamS_by (sc := defScope s_law_rows_refused) (by decide +kernel)) (by rfl) (by intros; rfl) (fun A2 outer2 s2 H2 E2 f2 c2 hr2 => (ec csolution (hr2.mono (by decide)) (by rfl) (L2.takes_of rfl rfl rfl rfl) (pa_cons (pv 1) (pa_cons (pe_tup pa_nil) pa_nil))))) pa_nil))))
        (pss_cons (ps_set (i := 3) sc_law_rows_refused.nd rfl (by first | exact Or.inl rfl | exact Or.inr rfl) (pe_op op_cat (pv 3) (pe_lst (pa_cons (wl (k := 30) (t := fun E => tClX (spDet CO) (fun cls d _ H => E cls d H) (tCons (tVar 1) tNil)) DW R B.b_repr hq (hr.mono (by decide)) (by rfl) TB (by rfl) hmT huT (LamX.lamS_by (sc := defScope s_law_rows_refused) (by decide +kernel)) (by rfl) (by intros; rfl) (fun A2 outer2 s2 H2 E2 f2 c2 hr2 => (ec cdeterminant (hr2.mono (by decide)) (by rfl) (L2.takes_of rfl rfl rfl rfl) (pa_cons (pv 1) pa_nil)))) pa_nil))))
        (pss_cons (ps_set (i := 3) sc_law_rows_refused.nd rfl (by first | exact Or.inl rfl | exact Or.inr rfl) (pe_op op_cat (pv 3) (pe_lst (pa_cons (wl (k := 30) (t := fun E => tClX (spSqs CO) (fun cls d _ H => E cls d H) (tCons (tVar 1) tNil)) DW R B.b_repr hq (hr.mono (by decide)) (by rfl) TB (by rfl) hmT huT (LamX.lamS_by (sc := defScope s_law_rows_refused) (by decide +kernel)) (by rfl) (by intros; rfl) (fun A2 outer2 s2 H2 E2 f2 c2 hr2 => (ec cis_square_sum (hr2.mono (by decide)) (by rfl) (L2.takes_of rfl rfl rfl rfl) (pa_cons (pv 1) pa_nil)))) pa_nil))))
        (pss_cons (ps_set (i := 3) sc_law_rows_refused.nd rfl (by first | exact Or.inl rfl | exact Or.inr rfl) (pe_op op_cat (pv 3) (pe_lst (pa_cons (wl (k := 30) (t := fun E => tClX (spCleared CO) (fun cls d _ H => E cls d H) (tCons (tCl spBadRow (tCons (tVar 0) tNil)) tNil)) DW R B.b_repr hq (hr.mono (by decide)) (by rfl) TB (by rfl) hmT huT (LamX.lamS_by (sc := defScope s_law_rows_refused) (by decide +kernel)) (by rfl) (by intros; rfl) (fun A2 outer2 s2 H2 E2 f2 c2 hr2 => (ec ccleared (hr2.mono (by decide)) (by rfl) (L2.takes_of rfl rfl rfl rfl) (pa_cons (ac c_law_bad_row (hr2.mono (by decide)) (by rfl) (pa_cons (pv 0) pa_nil)) pa_nil)))) pa_nil))))
        (pss_one (ps_ret (pe_cmpR (r := rEqD K) (by exact (op_eqD hu)) (pv 3) (pe_op op_rep (pe_lst (pa_cons pe_str pa_nil)) pe_int) (nomark _)))))))))))), ?_⟩
    obtain ⟨a, rfl, hb, hT, k⟩ := h
    refine rd_at [some (.ref a), none, none, none] rfl ?_
    walk_at "rd"
    refine ⟨a, rfl, hb, fun H1 v d b1 hb1 hv nd hd => ?_⟩
    have st : At5 a T H v d H1 := ⟨.but b1, hb1, tabs_but hT b1 hb, hv⟩
    clear hv hb1 b1
    walk_at "rd"
    intro p1 h1
    replace st := st.same (same_new (u := .tup [.int 2]) h1)
    walk_at "rd"
    intro p2 h2
    have n2 := st.bag.ne h2
    replace st := st.same (same_new (u := .lst [.int 0, .int 29, .int (-1), .non, .bl true, .str "2", .ref p1, .int (10 ^ (60 : Int).toNat), .int 2]) h2)
    walk_at "rd"
    refine ⟨a, _, rfl, st.bag, Or.inl ⟨p2, _, rfl, n2, SqL.of upd_same, Nat.le_of_ble_eq_true rfl, Nat.le_of_ble_eq_true rfl, fun u H2 _ b2 hb2 => ?_⟩⟩
    replace st := st.but' b2 hb2
    walk_at "rd"
    intro p3 h3
    replace st := st.same (same_new (u := .tup [v, u]) h3)
    refine ⟨p3, [v, u], rfl, SqT.of upd_same, rfl, ?_⟩
    refine ⟨v, [u], rfl, rd_name ?_⟩
    refine ⟨u, [], rfl, rd_name ⟨rfl, ?_⟩⟩
    refine rd_at [some (.ref a), some v, some u, none] rfl ?_
    clear hb hT h1 h2 h3 n2 b2 hb2
    walk_at "rd"
    -- rank
    refine ⟨st.tabs, fun G1 x1 t1 => ?_⟩
    replace st := st.ext x1 t1
    refine rd_word ?_
    refine rd_ClX ?_
    walk_at "rd"
    refine ⟨v, rfl, Or.inl ⟨d, st.now, nd, hd, fun J s2 => Or.inl ⟨rfl, ?_⟩⟩⟩
    replace st := st.same s2
    walk_at "rd"
    intro p11 hp11
    replace st := st.same (same_new (u := .lst [.str "operation"]) hp11)
    have l1 := p11
    have hl := upd_same (H := J) (a := p11) (o := HO.lst [V.str "operation"])
    walk_at "rd"
    -- free
    refine ⟨st.tabs, fun G2 x2 t2 => ?_⟩
    replace st := st.ext x2 t2
    refine rd_word ?_
    refine rd_ClX ?_
    walk_at "rd"
    replace hl := x2 _ _ hl (fun _ z => nomatch z)
    refine ⟨v, rfl, Or.inl ⟨d, st.now, nd, hd, fun J s2 => Or.inl ⟨rfl, ?_⟩⟩⟩
    replace st := st.same s2
    replace hl := s2 _ _ hl
    walk_at "rd"
    intro p12 hp12
    replace st := st.same (same_new (u := .lst [.str "operation"]) hp12)
    replace hl := up_old (u := .lst [.str "operation"]) hp12 hl
    walk_at "rd"
    refine ⟨p11, p12, _, _, rfl, rfl, hl, upd_same, Nat.le_trans (Nat.le_of_ble_eq_true rfl) (show 30 ≤ sizeLine by decide), fun l2 hl2 => ?_⟩
    replace st := st.same (same_new (u := .lst ([V.str "operation"] ++ [.str "operation"])) hl2)
    clear hl
    have hl := upd_same (H := upd J p12 (.lst [.str "operation"])) (a := l2) (o := HO.lst [V.str "operation", V.str "operation"])
    walk_at "rd"
    -- kernel
    refine ⟨st.tabs, fun G3 x3 t3 => ?_⟩
    replace st := st.ext x3 t3
    refine rd_word ?_
    refine rd_ClX ?_
    walk_at "rd"
    replace hl := x3 _ _ hl (fun _ z => nomatch z)
    refine ⟨v, u, rfl, Or.inl ⟨d, st.now, nd, hd, fun J s2 => Or.inl ⟨rfl, ?_⟩⟩⟩
    replace st := st.same s2
    replace hl := s2 _ _ hl
    walk_at "rd"
    intro p13 hp13
    replace st := st.same (same_new (u := .lst [.str "operation"]) hp13)
    replace hl := up_old (u := .lst [.str "operation"]) hp13 hl
    walk_at "rd"
    refine ⟨l2, p13, _, _, rfl, rfl, hl, upd_same, Nat.le_trans (Nat.le_of_ble_eq_true rfl) (show 30 ≤ sizeLine by decide), fun l3 hl3 => ?_⟩
    replace st := st.same (same_new (u := .lst ([V.str "operation", V.str "operation"] ++ [.str "operation"])) hl3)
    clear hl
    have hl := upd_same (H := upd J p13 (.lst [.str "operation"])) (a := l3) (o := HO.lst [V.str "operation", V.str "operation", V.str "operation"])
    walk_at "rd"
    -- solution
    refine ⟨st.tabs, fun G4 x4 t4 => ?_⟩
    replace st := st.ext x4 t4
    refine rd_word ?_
    refine rd_ClX ?_
    walk_at "rd"
    replace hl := x4 _ _ hl (fun _ z => nomatch z)
    intro q4 hq4
    replace st := st.same (same_new (u := .tup []) hq4)
    replace hl := up_old (u := .tup []) hq4 hl
    walk_at "rd"
    refine ⟨v, .ref q4, rfl, Or.inl ⟨d, st.now, nd, hd, fun J s2 => Or.inl ⟨rfl, ?_⟩⟩⟩
    replace st := st.same s2
    replace hl := s2 _ _ hl
    walk_at "rd"
    intro p14 hp14
    replace st := st.same (same_new (u := .lst [.str "operation"]) hp14)
    replace hl := up_old (u := .lst [.str "operation"]) hp14 hl
    walk_at "rd"
    refine ⟨l3, p14, _, _, rfl, rfl, hl, upd_same, Nat.le_trans (Nat.le_of_ble_eq_true rfl) (show 30 ≤ sizeLine by decide), fun l4 hl4 => ?_⟩
    replace st := st.same (same_new (u := .lst ([V.str "operation", V.str "operation", V.str "operation"] ++ [.str "operation"])) hl4)
    clear hl
    have hl := upd_same (H := upd J p14 (.lst [.str "operation"])) (a := l4) (o := HO.lst [V.str "operation", V.str "operation", V.str "operation", V.str "operation"])
    walk_at "rd"
    -- det
    refine ⟨st.tabs, fun G5 x5 t5 => ?_⟩
    replace st := st.ext x5 t5
    refine rd_word ?_
    refine rd_ClX ?_
    walk_at "rd"
    replace hl := x5 _ _ hl (fun _ z => nomatch z)
    refine ⟨v, rfl, Or.inl ⟨d, st.now, nd, notSq hd, fun J s2 => Or.inl ⟨rfl, ?_⟩⟩⟩
    replace st := st.same s2
    replace hl := s2 _ _ hl
    walk_at "rd"
    intro p15 hp15
    replace st := st.same (same_new (u := .lst [.str "operation"]) hp15)
    replace hl := up_old (u := .lst [.str "operation"]) hp15 hl
    walk_at "rd"
    refine ⟨l4, p15, _, _, rfl, rfl, hl, upd_same, Nat.le_trans (Nat.le_of_ble_eq_true rfl) (show 30 ≤ sizeLine by decide), fun l5 hl5 => ?_⟩
    replace st := st.same (same_new (u := .lst ([V.str "operation", V.str "operation", V.str "operation", V.str "operation"] ++ [.str "operation"])) hl5)
    clear hl
    have hl := upd_same (H := upd J p15 (.lst [.str "operation"])) (a := l5) (o := HO.lst [V.str "operation", V.str "operation", V.str "operation", V.str "operation", V.str "operation"])
    walk_at "rd"
    -- sqs
    refine ⟨st.tabs, fun G6 x6 t6 => ?_⟩
    replace st := st.ext x6 t6
    refine rd_word ?_
    refine rd_ClX ?_
    walk_at "rd"
    replace hl := x6 _ _ hl (fun _ z => nomatch z)
    refine ⟨v, rfl, Or.inl ⟨d, st.now, nd, notSq hd, fun J s2 => Or.inl ⟨rfl, ?_⟩⟩⟩
    replace st := st.same s2
    replace hl := s2 _ _ hl
    walk_at "rd"
    intro p16 hp16
    replace st := st.same (same_new (u := .lst [.str "operation"]) hp16)
    replace hl := up_old (u := .lst [.str "operation"]) hp16 hl
    walk_at "rd"
    refine ⟨l5, p16, _, _, rfl, rfl, hl, upd_same, Nat.le_trans (Nat.le_of_ble_eq_true rfl) (show 30 ≤ sizeLine by decide), fun l6 hl6 => ?_⟩
    replace st := st.same (same_new (u := .lst ([V.str "operation", V.str "operation", V.str "operation", V.str "operation", V.str "operation"] ++ [.str "operation"])) hl6)
    clear hl
    have hl := upd_same (H := upd J p16 (.lst [.str "operation"])) (a := l6) (o := HO.lst [V.str "operation", V.str "operation", V.str "operation", V.str "operation", V.str "operation", V.str "operation"])
    walk_at "rd"
    -- cleared
    refine ⟨st.tabs, fun G7 x7 t7 => ?_⟩
    replace st := st.ext x7 t7
    refine rd_word ?_
    refine rd_ClX ?_
    walk_at "rd"
    replace hl := x7 _ _ hl (fun _ z => nomatch z)
    refine ⟨a, rfl, st.bag, fun J0 v7 d7 b7 hb7 hv7 nd7 hd7 => ?_⟩
    have nl : l6 ≠ a := st.bag.ne_lst hl
    replace st := st.but' b7 hb7
    replace hl := b7 _ _ nl hl
    walk_at "rd"
    refine ⟨v7, rfl, Or.inl ⟨d7, hv7.same (same_del J0 a), nd7, hd7, fun J s2 => Or.inl ⟨rfl, ?_⟩⟩⟩
    replace st := st.same s2
    replace hl := s2 _ _ hl
    walk_at "rd"
    intro p17 hp17
    replace st := st.same (same_new (u := .lst [.str "operation"]) hp17)
    replace hl := up_old (u := .lst [.str "operation"]) hp17 hl
    walk_at "rd"
    refine ⟨l6, p17, _, _, rfl, rfl, hl, upd_same, Nat.le_trans (Nat.le_of_ble_eq_true rfl) (show 30 ≤ sizeLine by decide), fun l7 hl7 => ?_⟩
    replace st := st.same (same_new (u := .lst ([V.str "operation", V.str "operation", V.str "operation", V.str "operation", V.str "operation", V.str "operation"] ++ [.str "operation"])) hl7)
    clear hl
    have hl := upd_same (H := upd J p17 (.lst [.str "operation"])) (a := l7) (o := HO.lst [V.str "operation", V.str "operation", V.str "operation", V.str "operation", V.str "operation", V.str "operation", V.str "operation"])
    walk_at "rd"
    intro r1 hr1
    replace st := st.same (same_new (u := .lst [.str "operation"]) hr1)
    replace hl := up_old (u := .lst [.str "operation"]) hr1 hl
    walk_at "rd"
    refine ⟨r1, 7, [.str "operation"], rfl, rfl, upd_same, by decide, by decide, Nat.le_trans (Nat.le_of_ble_eq_true rfl) (show 30 ≤ sizeLine by decide), fun r2 hr2 => ?_⟩
    replace st := st.same (same_new (u := .lst (List.replicate (Int.toNat 7) [V.str "operation"]).flatten) hr2)
    replace hl := up_old (u := .lst (List.replicate (Int.toNat 7) [V.str "operation"]).flatten) hr2 hl
    have seven : ∀ (l : Addr) (H' : Hp), H' l = some (.lst (List.replicate 7 (V.str "operation"))) → Dp K H' (.ref l) (.list (List.replicate 7 (.str "operation"))) := fun l H' h => .lst (SqL.of h) (.cons (.str _) (.cons (.str _) (.cons (.str _) (.cons (.str _) (.cons (.str _) (.cons (.str _) (.cons (.str _) .nil)))))))
    walk_at "rd"
    refine rd_eqD (seven l7 _ hl) (seven r2 _ upd_same) (by decide +kernel) (by decide +kernel) ?_
    rw [show PyData.eqv (.list (List.replicate 7 (.str "operation"))) (.list (List.replicate 7 (.str "operation"))) = true by decide +kernel]
    exact k _ st.but st.bag st.tabs
end
section
variable {P : Program} {w : World} {K : PySem.W.Frag} {mg : Str → Option Value} {base : Heap}
set_option maxHeartbeats 0 in
theorem ok_law_others_refused {CO CN c T1 : Addr} {T : List (Addr × Str)} (B : Bi mg) (D : DefC K mg "_law_others_refused" s_law_others_refused ["_law_bag_here"] c) (R : Er K mg CO CN) (DW : DefAt K mg "_law_word" s_law_word ["_law_call"]) (TB : LamX.TabB base mg c T1) (hmT : (T1, ("_law_others_refused.<locals>.<lambda>" : Str)) ∈ T) (huT : ∀ p ∈ T, p.1 = T1 → p.2 = ("_law_others_refused.<locals>.<lambda>" : Str)) (c_law_draw : CalA P w K mg base "_law_draw" 1 ["_law_bag_here", "_law_total"] (spDraw)) (c_law_great : CalA P w K mg base "_law_great" 1 [] (spGreat)) (c_law_one_of : CalA P w K mg base "_law_one_of" 2 ["_law_bag_here", "_law_items"] (spOne K)) (cdeterminant : CalE P w K mg base "determinant" 8 ["table"] (spDet CO)) (cis_square_sum : CalE P w K mg base "is_square_sum" 8 ["table"] (spSqs CO)) (ckernel : CalE P w K mg base "kernel" 8 ["rows", "width"] (spKernel CO CN)) (csolution : CalE P w K mg base "solution" 8 ["rows", "aims"] (spSolution CO)) : Cal P w K mg base "_law_others_refused" 34 ["_law_bag_here"] (spRefused T) := by
  refine calc_of D sc_law_others_refused (fun vs H Q E h => ?_) (fun f A outer s H vs Q E hq hr h => ?_)
  · obtain ⟨a, rfl, _⟩ := h; rfl
  · have hu := hr.units
    replace hq := Quiet.deeper hq (envOfC "_law_others_refused" (defScope s_law_others_refused) s.heap.objs.size f (.ref c))
    have hr_law_draw := hr.mono (show 1 ≤ 33 by decide)
    have hr_law_great := hr.mono (show 1 ≤ 33 by decide)
    have hr_law_one_of := hr.mono (show 2 ≤ 33 by decide)
    have hrdeterminant := hr.mono (show 8 ≤ 33 by decide)
    have hris_square_sum := hr.mono (show 8 ≤ 33 by decide)
    have hrkernel := hr.mono (show 8 ≤ 33 by decide)
    have hrsolution := hr.mono (show 8 ≤ 33 by decide)
    skip
    refine ⟨_, (pss_cons (ps_set (i := 1) sc_law_others_refused.nd rfl (by first | exact Or.inl rfl | exact Or.inr rfl) (pe_op op_add pe_int (ac c_law_draw hr_law_draw (by rfl) (pa_cons (pv 0) (pa_cons pe_int pa_nil)))))
        (pss_cons (ps_set (i := 2) sc_law_others_refused.nd rfl (by first | exact Or.inl rfl | exact Or.inr rfl) (pe_callTy (r := rTupOf K) (by exact q_tupOf) (by rfl) B.b_tuple (by decide +kernel) (pa_cons (pe_lc (own := [("_law_turn", 10)]) (g := gName 10) (tt := tYes) (by rfl) sc_law_others_refused.nd (pi_range1 (by rfl) B.b_range (pa_cons (pe_op op_add pe_int (ac c_law_draw hr_law_draw (by rfl) (pa_cons (pv 0) (pa_cons pe_int pa_nil)))) pa_nil)) (blkOk_by (own := [("_law_turn", 10)]) (N := ["_law_bag_here", "_law_many", "_law_rows", "_law_width", "_law_words", "_law_other", "_law_aims", "_law_wrong", "_law_long", "_law_odd", "_law_turn", "_law_at", "_law_one", "_law_row"]) (sc := defScope s_law_others_refused) (by decide +kernel)) (fun _ _ _ _ _ => (pg_name (i := 10) sc_law_others_refused.nd rfl (by first | exact Or.inl rfl | exact Or.inr rfl))) (fun _ _ _ _ _ => pts_nil) (fun _ _ _ _ _ => (pe_callTy (r := rTupOf K) (by exact q_tupOf) (by rfl) B.b_tuple (by decide +kernel) (pa_cons (by exact (pe_lc (own := [("_law_at", 11)]) (wi := iRng1 (tCons (tVar 1) tNil)) (g := gName 11) (tt := tYes) (by rfl) sc_law_others_refused.nd (by exact (pi_range1 (by rfl) B.b_range (pa_cons (pv 1) pa_nil))) (by exact blkOk_by (by kernel_rfl)) (fun _ _ _ _ _ => (pg_name (i := 11) sc_law_others_refused.nd rfl (by first | exact Or.inl rfl | exact Or.inr rfl))) (fun _ _ _ _ _ => pts_nil) (fun _ _ _ _ _ => (pe_op op_sub (ac c_law_draw hr_law_draw (by rfl) (pa_cons (pv 0) (pa_cons pe_int pa_nil))) pe_int)))) pa_nil)))) pa_nil)))
        (pss_cons (ps_set (i := 3) sc_law_others_refused.nd rfl (by first | exact Or.inl rfl | exact Or.inr rfl) (ac c_law_one_of hr_law_one_of (by rfl) (pa_cons (pv 0) (pa_cons (pe_lst (pa_cons pe_int (pa_cons pe_int (pa_cons (pe_un un_neg pe_int) (pa_cons pe_non (pa_cons pe_bl (pa_cons pe_str (pa_cons (pe_tup (pa_cons pe_int pa_nil)) (pa_cons (pe_op op_pow pe_int pe_int) (pa_cons (pe_lst (pa_cons pe_int pa_nil)) (pa_cons pe_bl pa_nil))))))))))) pa_nil))))
        (pss_cons (ps_set (i := 4) sc_law_others_refused.nd rfl (by first | exact Or.inl rfl | exact Or.inr rfl) (pe_lst (pa_cons (wl (k := 30) (t := fun E => tClX (spKernel CO CN) (fun cls d _ H => E cls d H) (tCons (tVar 2) (tCons (tVar 3) tNil))) DW R B.b_repr hq (hr.mono (by decide)) (by rfl) TB (by rfl) hmT huT (LamX.lamS_by (sc := defScope s_law_others_refused) (by decide +kernel)) (by rfl) (by intros; rfl) (fun A2 outer2 s2 H2 E2 f2 c2 hr2 => (ec ckernel (hr2.mono (by decide)) (by rfl) (L2.takes_of rfl rfl rfl rfl) (pa_cons (pv 2) (pa_cons (pv 3) pa_nil))))) pa_nil)))
        (pss_cons (ps_set (i := 4) sc_law_others_refused.nd rfl (by first | exact Or.inl rfl | exact Or.inr rfl) (pe_op op_cat (pv 4) (pe_lst (pa_cons (wl (k := 30) (t := fun E => tClX (spKernel CO CN) (fun cls d _ H => E cls d H) (tCons (tTup tNil) (tCons (tVar 3) tNil))) DW R B.b_repr hq (hr.mono (by decide)) (by rfl) TB (by rfl) hmT huT (LamX.lamS_by (sc := defScope s_law_others_refused) (by decide +kernel)) (by rfl) (by intros; rfl) (fun A2 outer2 s2 H2 E2 f2 c2 hr2 => (ec ckernel (hr2.mono (by decide)) (by rfl) (L2.takes_of rfl rfl rfl rfl) (pa_cons (pe_tup pa_nil) (pa_cons (pv 3) pa_nil))))) pa_nil))))
        (pss_cons (ps_if (pt_cmpR (r := rNeD K) (by exact (op_neD hu)) (pv 4) (pe_op op_rep (pe_lst (pa_cons (pe_op q_catZ pe_str (pe_callB (r := rShow K) (by exact (call_show hq hu)) (by rfl) B.b_repr (by decide +kernel) (pa_cons (pv 3) pa_nil))) pa_nil)) pe_int) (nomark _)) (pss_one (ps_ret pe_bl)) pss_nil)
        (pss_cons (ps_set (i := 5) sc_law_others_refused.nd rfl (by first | exact Or.inl rfl | exact Or.inr rfl) (ac c_law_one_of hr_law_one_of (by rfl) (pa_cons (pv 0) (pa_cons (pe_lc (own := [("_law_one", 12)]) (g := gName 12) (by rfl) sc_law_others_refused.nd (pi_tup (pe_tup (pa_cons pe_int (pa_cons pe_int (pa_cons pe_int (pa_cons pe_int pa_nil)))))) (blkOk_by (own := [("_law_one", 12)]) (N := ["_law_bag_here", "_law_many", "_law_rows", "_law_width", "_law_words", "_law_other", "_law_aims", "_law_wrong", "_law_long", "_law_odd", "_law_turn", "_law_at", "_law_one", "_law_row"]) (sc := defScope s_law_others_refused) (by decide +kernel)) (fun _ _ _ _ _ => (pg_name (i := 12) sc_law_others_refused.nd rfl (by first | exact Or.inl rfl | exact Or.inr rfl))) (fun _ _ _ _ _ => (pts_one (pt_cmpR op_ne (pv 12) (pv 1) (nomark _)))) (fun _ _ _ _ _ => (pv 12))) pa_nil))))
        (pss_cons (ps_set (i := 6) sc_law_others_refused.nd rfl (by first | exact Or.inl rfl | exact Or.inr rfl) (pe_callTy (r := rTupOf K) (by exact q_tupOf) (by rfl) B.b_tuple (by decide +kernel) (pa_cons (pe_lc (own := [("_law_row", 13)]) (g := gName 13) (tt := tYes) (by rfl) sc_law_others_refused.nd (pi_tup (pv 2)) (blkOk_by (own := [("_law_row", 13)]) (N := ["_law_bag_here", "_law_many", "_law_rows", "_law_width", "_law_words", "_law_other", "_law_aims", "_law_wrong", "_law_long", "_law_odd", "_law_turn", "_law_at", "_law_one", "_law_row"]) (sc := defScope s_law_others_refused) (by decide +kernel)) (fun _ _ _ _ _ => (pg_name (i := 13) sc_law_others_refused.nd rfl (by first | exact Or.inl rfl | exact Or.inr rfl))) (fun _ _ _ _ _ => pts_nil) (fun _ _ _ _ _ => (ac c_law_draw hr_law_draw (by rfl) (pa_cons (pv 0) (pa_cons pe_int pa_nil))))) pa_nil)))
        (pss_cons (ps_set (i := 7) sc_law_others_refused.nd rfl (by first | exact Or.inl rfl | exact Or.inr rfl) (pe_lst (pa_cons pe_non (pa_cons (pe_callTy (r := rLstOf K) (by exact q_lstOf) (by rfl) B.b_list (by decide +kernel) (pa_cons (pv 6) pa_nil)) (pa_cons (pe_op (r := rCatA K) (by exact op_catA) (pv 6) (pe_tup (pa_cons pe_int pa_nil))) (pa_cons (pe_slice (r := rSlT K) (by exact sl_tup) (pv 6) po_none (po_some (pe_un un_neg pe_int))) (pa_cons (pe_op (r := rCatA K) (by exact op_catA) (pe_slice (r := rSlT K) (by exact sl_tup) (pv 6) po_none (po_some (pe_un un_neg pe_int))) (pe_tup (pa_cons pe_bl pa_nil))) (pa_cons (pe_op (r := rCatA K) (by exact op_catA) (pe_slice (r := rSlT K) (by exact sl_tup) (pv 6) po_none (po_some (pe_un un_neg pe_int))) (pe_tup (pa_cons pe_non pa_nil))) (pa_cons pe_int (pa_cons pe_str (pa_cons pe_dnewK pa_nil)))))))))))
        (pss_cons (ps_set (i := 7) sc_law_others_refused.nd rfl (by first | exact Or.inl rfl | exact Or.inr rfl) (ac c_law_one_of hr_law_one_of (by rfl) (pa_cons (pv 0) (pa_cons (pe_op op_cat (pv 7) (pe_lst (pa_cons (pe_op (r := rCatA K) (by exact op_catA) (pe_slice (r := rSlT K) (by exact sl_tup) (pv 6) po_none (po_some (pe_un un_neg pe_int))) (pe_tup (pa_cons (ac0 c_law_great hr_law_great (by rfl)) pa_nil))) pa_nil))) pa_nil))))
        (pss_cons (ps_set (i := 4) sc_law_others_refused.nd rfl (by first | exact Or.inl rfl | exact Or.inr rfl) (pe_lst (pa_cons (wl (k := 30) (t := fun E => tClX (spKernel CO CN) (fun cls d _ H => E cls d H) (tCons (tVar 2) (tCons (tVar 5) tNil))) DW R B.b_repr hq (hr.mono (by decide)) (by rfl) TB (by rfl) hmT huT (LamX.lamS_by (sc := defScope s_law_others_refused) (by decide +kernel)) (by rfl) (by intros; rfl) (fun A2 outer2 s2 H2 E2 f2 c2 hr2 => (ec ckernel (hr2.mono (by decide)) (by rfl) (L2.takes_of rfl rfl rfl rfl) (pa_cons (pv 2) (pa_cons (pv 5) pa_nil))))) pa_nil)))
        (pss_cons (ps_set (i := 4) sc_law_others_refused.nd rfl (by first | exact Or.inl rfl | exact Or.inr rfl) (pe_op op_cat (pv 4) (pe_lst (pa_cons (wl (k := 30) (t := fun E => tClX (spSolution CO) (fun cls d _ H => E cls d H) (tCons (tVar 2) (tCons (tVar 7) tNil))) DW R B.b_repr hq (hr.mono (by decide)) (by rfl) TB (by rfl) hmT huT (LamX.lamS_by (sc := defScope s_law_others_refused) (by decide +kernel)) (by rfl) (by intros; rfl) (fun A2 outer2 s2 H2 E2 f2 c2 hr2 => (ec csolution (hr2.mono (by decide)) (by rfl) (L2.takes_of rfl rfl rfl rfl) (pa_cons (pv 2) (pa_cons (pv 7) pa_nil))))) pa_nil))))
        (pss_cons (ps_set (i := 4) sc_law_others_refused.nd rfl (by first | exact Or.inl rfl | exact Or.inr rfl) (pe_op op_cat (pv 4) (pe_lst (pa_cons (wl (k := 30) (t := fun E => tClX (spSolution CO) (fun cls d _ H => E cls d H) (tCons (tTup tNil) (tCons (tTup tNil) tNil))) DW R B.b_repr hq (hr.mono (by decide)) (by rfl) TB (by rfl) hmT huT (LamX.lamS_by (sc := defScope s_law_others_refused) (by decide +kernel)) (by rfl) (by intros; rfl) (fun A2 outer2 s2 H2 E2 f2 c2 hr2 => (ec csolution (hr2.mono (by decide)) (by rfl) (L2.takes_of rfl rfl rfl rfl) (pa_cons (pe_tup pa_nil) (pa_cons (pe_tup pa_nil) pa_nil))))) pa_nil))))
        (pss_cons (ps_set (i := 4) sc_law_others_refused.nd rfl (by first | exact Or.inl rfl | exact Or.inr rfl) (pe_op op_cat (pv 4) (pe_lst (pa_cons (wl (k := 30) (t := fun E => tClX (spSolution CO) (fun cls d _ H => E cls d H) (tCons (tTup tNil) (tCons (tVar 7) tNil))) DW R B.b_repr hq (hr.mono (by decide)) (by rfl) TB (by rfl) hmT huT (LamX.lamS_by (sc := defScope s_law_others_refused) (by decide +kernel)) (by rfl) (by intros; rfl) (fun A2 outer2 s2 H2 E2 f2 c2 hr2 => (ec csolution (hr2.mono (by decide)) (by rfl) (L2.takes_of rfl rfl rfl rfl) (pa_cons (pe_tup pa_nil) (pa_cons (pv 7) pa_nil))))) pa_nil))))
        (pss_cons (ps_set (i := 8) sc_law_others_refused.nd rfl (by first | exact Or.inl rfl | exact Or.inr rfl) (pe_callTy (r := rTupOf K) (by exact q_tupOf) (by rfl) B.b_tuple (by decide +kernel) (pa_cons (pe_lc (own := [("_law_turn", 10)]) (g := gName 10) (tt := tYes) (by rfl) sc_law_others_refused.nd (pi_range1 (by rfl) B.b_range (pa_cons (pv 1) pa_nil)) (blkOk_by (own := [("_law_turn", 10)]) (N := ["_law_bag_here", "_law_many", "_law_rows", "_law_width", "_law_words", "_law_other", "_law_aims", "_law_wrong", "_law_long", "_law_odd", "_law_turn", "_law_at", "_law_one", "_law_row"]) (sc := defScope s_law_others_refused) (by decide +kernel)) (fun _ _ _ _ _ => (pg_name (i := 10) sc_law_others_refused.nd rfl (by first | exact Or.inl rfl | exact Or.inr rfl))) (fun _ _ _ _ _ => pts_nil) (fun _ _ _ _ _ => (pe_op (r := rRepT K) (by exact op_repT) (pe_tup (pa_cons pe_int pa_nil)) (pe_op op_add (pv 1) pe_int)))) pa_nil)))
        (pss_cons (ps_set (i := 4) sc_law_others_refused.nd rfl (by first | exact Or.inl rfl | exact Or.inr rfl) (pe_op op_cat (pv 4) (pe_lst (pa_cons (wl (k := 30) (t := fun E => tClX (spDet CO) (fun cls d _ H => E cls d H) (tCons (tVar 8) tNil)) DW R B.b_repr hq (hr.mono (by decide)) (by rfl) TB (by rfl) hmT huT (LamX.lamS_by (sc := defScope s_law_others_refused) (by decide +kernel)) (by rfl) (by intros; rfl) (fun A2 outer2 s2 H2 E2 f2 c2 hr2 => (ec cdeterminant (hr2.mono (by decide)) (by rfl) (L2.takes_of rfl rfl rfl rfl) (pa_cons (pv 8) pa_nil)))) pa_nil))))
        (pss_cons (ps_set (i := 4) sc_law_others_refused.nd rfl (by first | exact Or.inl rfl | exact Or.inr rfl) (pe_op op_cat (pv 4) (pe_lst (pa_cons (wl (k := 30) (t := fun E => tClX (spSqs CO) (fun cls d _ H => E cls d H) (tCons (tVar 8) tNil)) DW R B.b_repr hq (hr.mono (by decide)) (by rfl) TB (by rfl) hmT huT (LamX.lamS_by (sc := defScope s_law_others_refused) (by decide +kernel)) (by rfl) (by intros; rfl) (fun A2 outer2 s2 H2 E2 f2 c2 hr2 => (ec cis_square_sum (hr2.mono (by decide)) (by rfl) (L2.takes_of rfl rfl rfl rfl) (pa_cons (pv 8) pa_nil)))) pa_nil))))
        (pss_cons (ps_set (i := 9) sc_law_others_refused.nd rfl (by first | exact Or.inl rfl | exact Or.inr rfl) (pe_tup (pa_cons (pe_tup (pa_cons pe_int (pa_cons pe_int pa_nil))) (pa_cons (pe_tup (pa_cons (pe_op op_add pe_int (ac c_law_draw hr_law_draw (by rfl) (pa_cons (pv 0) (pa_cons pe_int pa_nil)))) (pa_cons pe_int pa_nil))) pa_nil))))
        (pss_cons (ps_set (i := 4) sc_law_others_refused.nd rfl (by first | exact Or.inl rfl | exact Or.inr rfl) (pe_op op_cat (pv 4) (pe_lst (pa_cons (wl (k := 30) (t := fun E => tClX (spSqs CO) (fun cls d _ H => E cls d H) (tCons (tVar 9) tNil)) DW R B.b_repr hq (hr.mono (by decide)) (by rfl) TB (by rfl) hmT huT (LamX.lamS_by (sc := defScope s_law_others_refused) (by decide +kernel)) (by rfl) (by intros; rfl) (fun A2 outer2 s2 H2 E2 f2 c2 hr2 => (ec cis_square_sum (hr2.mono (by decide)) (by rfl) (L2.takes_of rfl rfl rfl rfl) (pa_cons (pv 9) pa_nil)))) pa_nil))))
        (pss_cons (ps_set (i := 4) sc_law_others_refused.nd rfl (by first | exact Or.inl rfl | exact Or.inr rfl) (pe_op op_cat (pv 4) (pe_lst (pa_cons (wl (k := 30) (t := fun E => tClX (spDet CO) (fun cls d _ H => E cls d H) (tCons (tVar 9) tNil)) DW R B.b_repr hq (hr.mono (by decide)) (by rfl) TB (by rfl) hmT huT (LamX.lamS_by (sc := defScope s_law_others_refused) (by decide +kernel)) (by rfl) (by intros; rfl) (fun A2 outer2 s2 H2 E2 f2 c2 hr2 => (ec cdeterminant (hr2.mono (by decide)) (by rfl) (L2.takes_of rfl rfl rfl rfl) (pa_cons (pv 9) pa_nil)))) pa_nil))))
        (pss_one (ps_ret (pe_cmpR (r := rEqD K) (by exact (op_eqD hu)) (pv 4) (pe_op op_cat (pe_op op_rep (pe_lst (pa_cons pe_str pa_nil)) pe_int) (pe_lst (pa_cons pe_str pa_nil))) (nomark _)))))))))))))))))))))))), ?_⟩
    obtain ⟨a, rfl, hb, hT, k⟩ := h
    refine rd_at [some (.ref a), none, none, none, none, none, none, none, none, none, none, none, none, none] rfl ?_
    have st : At6 a T H [] H := ⟨.refl a H, hb, hT, fun p hp => nomatch hp⟩
    clear hb hT
    walk_at "rd"
    refine ⟨a, 5, rfl, st.bag, by decide, by decide, fun m0 H1 m1 m2 b1 hb1 => ?_⟩
    replace st := st.but' b1 hb1
    clear b1 hb1
    walk_at "rd"
    refine ⟨a, 4, rfl, st.bag, by decide, by decide, fun n0 H2 n1 n2 b2 hb2 => ?_⟩
    replace st := st.but' b2 hb2
    clear b2 hb2
    walk_at "rd"
    refine ⟨_, rfl, by omega, by omega, ?_⟩
    intro E1 hE1
    refine lc_newB (n := (1 + n0).toNat) (by omega) hE1 st.bag (fun _ t H' => ∃ ns : List Int, H' t = some (.tup (ns.map V.int)) ∧ ns.length = (1 + m0).toNat ∧ ∀ x ∈ ns, x.natAbs < 100) (fun _ t H' H'' z ⟨ns, e, r⟩ => ⟨ns, z _ e, r⟩) (fun _ t H' ⟨ns, e, _⟩ z => by rw [z] at e; cases e) (fun j hj H' bu hb' R kk => ?_) (fun rs H3 hrs hnd hP hfr hEr b3 hb3 hl3 => ?_)
    · walk_at "rd"
      refine ⟨_, rfl, by omega, by omega, ?_⟩
      intro E2 hE2
      refine lc_bag (n := (1 + m0).toNat) (by omega) hE2 hb' (fun v => ∃ i : Int, v = .int i ∧ i.natAbs < 100) (fun i hi H5 bu5 hb5 R5 kk5 => ?_) (fun ys H5 hy hPy bu5 hb5 hl5 => ?_)
      · walk_at "rd"
        refine ⟨a, 9, rfl, hb5, by decide, by decide, fun x H6 x1 x2 b6 hb6 => ?_⟩
        walk_at "rd"
        exact kk5 _ _ ⟨_, rfl, by omega⟩ b6 hb6
      · obtain ⟨ns, rfl, hns⟩ := ints_of hPy
        walk_at "rd"
        refine ⟨E2, _, rfl, Or.inl ⟨SqL.of hl5, fun q hq => ?_⟩⟩
        exact kk q _ (bu5.free (hb5.ne hq) hq) (fun b o nb e => up_old hq (bu5 _ _ nb e)) (BagAt.old hq hb5) ⟨ns, upd_same, by rw [List.length_map] at hy; exact hy, hns⟩
    obtain ⟨M, M1, M2, M3, M4⟩ := rows_tup hrs hP
    have st0 := st
    replace st := st.but' b3 hb3
    walk_at "rd"
    refine ⟨E1, _, rfl, Or.inl ⟨SqL.of hl3, fun q hq => ?_⟩⟩
    have tb : Tb M (1 + m0).toNat := ⟨by omega, by omega, by omega, by omega, M2, M3⟩
    replace st := (st.same (same_new (u := .tup (rs.map V.ref)) hq)).add (v := .ref q) (d := dTab M) (tt_any ⟨rs, (del_ne (st.bag.ne hq)).trans upd_same, by rw [hrs, M1], fun i r row e1 e2 => by
      have nr : r ≠ a := st0.bag.ne (hfr r (List.mem_of_getElem? e1))
      rw [del_ne nr]
      exact up_old hq (M4 i r row e1 e2)⟩)
    clear st0
    walk_at "rd"
    -- width
    intro p1 hp1
    replace st := st.tup hp1 (.cons (.int 2) .nil)
    walk_at "rd"
    intro p2 hp2
    replace st := st.lst hp2 (.cons (.int 1) .nil)
    walk_at "rd"
    intro p3 hp3
    have n3 := st.bag.ne hp3
    replace st := st.same (same_new (u := .lst [.int 0, .int 29, .int (-1), .non, .bl true, .str "2", .ref p1, .int (10 ^ (60 : Int).toNat), .ref p2, .bl false]) hp3)
    walk_at "rd"
    refine ⟨a, _, rfl, st.bag, Or.inl ⟨p3, _, rfl, n3, SqL.of upd_same, Nat.le_of_ble_eq_true rfl, Nat.le_of_ble_eq_true rfl, fun u H4 hu4 b4 hb4 => ?_⟩⟩
    replace st := st.but' b4 hb4
    obtain ⟨e, z, wo, hue⟩ : ∃ e z, WOk e z ∧ AnyD (del H4 a) u e := by
      simp only [List.mem_cons, List.not_mem_nil, or_false] at hu4
      rcases hu4 with rfl | rfl | rfl | rfl | rfl | rfl | rfl | rfl | rfl | rfl
      · exact ⟨_, _, wok_int 0 (by decide +kernel) (by decide +kernel) (by decide +kernel) (by decide +kernel), .int _⟩
      · exact ⟨_, _, wok_int 29 (by decide +kernel) (by decide +kernel) (by decide +kernel) (by decide +kernel), .int _⟩
      · exact ⟨_, _, wok_int (-1) (by decide +kernel) (by decide +kernel) (by decide +kernel) (by decide +kernel), .int _⟩
      · exact ⟨_, _, wok_non, .non⟩
      · exact ⟨_, _, wok_bl true (by decide +kernel) (by decide +kernel), .bl _⟩
      · exact ⟨_, _, wok_str, .str _⟩
      · exact ⟨_, _, wok_tup, st.all _ (List.mem_cons_of_mem _ List.mem_cons_self)⟩
      · exact ⟨_, _, wok_int (10 ^ (60 : Int).toNat) (by decide +kernel) (by decide +kernel) (by decide +kernel) (by decide +kernel), .int _⟩
      · exact ⟨_, _, wok_lst, st.all _ List.mem_cons_self⟩
      · exact ⟨_, _, wok_bl false (by decide +kernel) (by decide +kernel), .bl _⟩
    replace st := st.add hue
    have mR : (V.ref q, dTab M) ∈ (u, e) :: (V.ref p2, PyData.list [.int 1]) :: (V.ref p1, PyData.tuple [.int 2]) :: (V.ref q, dTab M) :: [] := List.mem_cons_of_mem _ (List.mem_cons_of_mem _ (List.mem_cons_of_mem _ List.mem_cons_self))
    have mU : (u, e) ∈ (u, e) :: (V.ref p2, PyData.list [.int 1]) :: (V.ref p1, PyData.tuple [.int 2]) :: (V.ref q, dTab M) :: [] := List.mem_cons_self
    generalize (u, e) :: (V.ref p2, PyData.list [.int 1]) :: (V.ref p1, PyData.tuple [.int 2]) :: (V.ref q, dTab M) :: [] = L at st mR mU
    have nq : q ≠ a := hb3.ne hq
    clear hue hu4 hb4 b4 hP hfr hEr hl3 hb3 b3
    walk_at "rd"
    -- 1
    refine ⟨st.tabs, fun G1 x1 t1 => ?_⟩
    replace st := st.ext x1 t1
    refine rd_word ?_
    refine rd_ClX ?_
    walk_at "rd"
    refine ⟨.ref q, u, rfl, Or.inr (Or.inl ⟨_, e, st.get mR, noDics_tab M, tb.rows, st.get mU, wo.dw, fun J1 dd1 s1 hd1 => Or.inr ⟨rfl, dd1, u, z, rfl, upd_same, wo.sh K _ u ((st.get (v := u) (d := e) (by walk_at "mem")).same (fun b o e => up_old hd1 (s1 _ _ e))), wo.zl, ?_⟩⟩)⟩
    replace st := st.same (fun b o e => up_old hd1 (s1 _ _ e) : Same _ (upd J1 dd1 (.xd [("given", u)])))
    walk_at "rd"
    intro p1_1 hp1_1
    replace st := st.lst hp1_1 (any_strs _ [(("number " : Str) ++ z)])
    have mW1 := st.words (l := p1_1) (zs := [(("number " : Str) ++ z)]) List.mem_cons_self
    walk_at "rd"
    -- 2
    refine ⟨st.tabs, fun G2 x2 t2 => ?_⟩
    replace st := st.ext x2 t2
    refine rd_word ?_
    refine rd_ClX ?_
    walk_at "rd"
    intro q2 hq2
    replace st := st.tup hq2 .nil
    walk_at "rd"
    refine ⟨.ref q2, u, rfl, Or.inr (Or.inl ⟨.tuple [], e, (st.get (v := .ref q2) (d := .tuple []) (by walk_at "mem")), (fun x hx => nomatch hx), rfl, (st.get (v := u) (d := e) (by walk_at "mem")), wo.dw, fun J2 dd2 s2 hd2 => Or.inr ⟨rfl, dd2, u, z, rfl, upd_same, wo.sh K _ u ((st.get (v := u) (d := e) (by walk_at "mem")).same (fun b o e => up_old hd2 (s2 _ _ e))), wo.zl, ?_⟩⟩)⟩
    replace st := st.same (fun b o e => up_old hd2 (s2 _ _ e) : Same _ (upd J2 dd2 (.xd [("given", u)])))
    walk_at "rd"
    intro p1_2 hp1_2
    have hl2 := st.words (l := p1_1) (zs := [(("number " : Str) ++ z)]) (by walk_at "mem")
    replace st := st.same (same_new (u := .lst [.str (("number " : Str) ++ z)]) hp1_2)
    walk_at "rd"
    refine ⟨p1_1, p1_2, _, _, rfl, rfl, up_old hp1_2 hl2, upd_same, Nat.le_trans (Nat.le_of_ble_eq_true rfl) (show 30 ≤ sizeLine by decide), fun l2 hl2_2 => ?_⟩
    replace st := st.lst hl2_2 (any_strs _ [(("number " : Str) ++ z), (("number " : Str) ++ z)])
    walk_at "rd"
    have hw2 := st.words (l := l2) (zs := [(("number " : Str) ++ z), (("number " : Str) ++ z)]) (by walk_at "mem")
    refine ⟨u, z, rfl, wo.sh K _ u (st.get (v := u) (d := e) (by walk_at "mem")), ?_⟩
    refine rd_catZ ?_ ?_
    · exact Nat.le_trans (show ("number " : Str).length + z.length ≤ 20000 by have := wo.zl; rw [show ("number " : Str).length = 7 by decide +kernel]; omega) (by decide)
    walk_at "rd"
    intro p20 hp20
    replace st := st.same (same_new (u := .lst [.str (("number " : Str) ++ z)]) hp20)
    replace hw2 := up_old (u := .lst [.str (("number " : Str) ++ z)]) hp20 hw2
    walk_at "rd"
    refine ⟨p20, 2, _, rfl, rfl, upd_same, by decide, by decide, Nat.le_trans (Nat.le_of_ble_eq_true rfl) (show 30 ≤ sizeLine by decide), fun p21 hp21 => ?_⟩
    replace st := st.same (same_new (u := .lst (List.replicate (Int.toNat 2) [V.str (("number " : Str) ++ z)]).flatten) hp21)
    replace hw2 := up_old (u := .lst (List.replicate (Int.toNat 2) [V.str (("number " : Str) ++ z)]).flatten) hp21 hw2
    have two : ∀ (l : Addr) (H' : Hp), H' l = some (.lst [V.str (("number " : Str) ++ z), V.str (("number " : Str) ++ z)]) → Dp K H' (.ref l) (.list [.str (("number " : Str) ++ z), .str (("number " : Str) ++ z)]) := fun l H' h => .lst (SqL.of h) (.cons (.str _) (.cons (.str _) .nil))
    refine ⟨_, _, two _ _ hw2, two p21 _ upd_same, shaped_two wo.lay, shaped_two wo.lay, ?_⟩
    rw [eqv_two]
    walk_at "rd"
    
    refine rd_ifb (fun z => nomatch z) (fun _ => ?_)
    walk_at "rd"
    -- another width
    intro p30 hp30
    replace st := st.same (same_new (u := .tup [.int 1, .int 2, .int 7, .int 28]) hp30)
    walk_at "rd"
    refine ⟨⟨_, SqT.of upd_same⟩, ?_⟩
    intro E31 hE31
    have n31 := st.bag.ne hE31
    refine lc_same (n := (wds.map V.int).length) (wk_tup .non) (by decide) hE31 (fun H' s' => SqT.of (s' _ _ upd_same)) (fun j => !decide (wds.getD j 0 = 1 + m0)) (fun j => V.int (wds.getD j 0)) (fun j hj H' s' R hR => ?_) (fun j hj _ H' s' R hR => ?_) (fun H5 s5 hl5 => ?_)
    · rw [wds_at hj]
      walk_at "rd"
      exact hR H' (Same.refl _)
    · rw [wds_at hj]
      walk_at "rd"
      exact hR H' (Same.refl _)
    replace st := st.same s5
    walk_at "rd"
    refine ⟨a, _, rfl, st.bag, Or.inl ⟨E31, _, rfl, n31, SqL.of hl5, wds_some _, ?_, fun v6 H6 hv6 b6 hb6 => ?_⟩⟩
    · rw [List.length_map]
      exact Nat.le_trans (List.length_filter_le _ _) (Nat.le_of_ble_eq_true rfl)
    replace st := st.but' b6 hb6
    obtain ⟨oth, rfl, o1, o28, on⟩ := wds_of hv6
    clear hv6 b6 hb6 hl5 s5
    walk_at "rd"
    -- aims
    obtain ⟨xsR, hxR, lxR⟩ := st.tupAt (p := q) (ds := M.map fun r => .tuple (r.map PyData.int)) (by walk_at "mem")
    rw [List.length_map] at lxR
    refine ⟨⟨_, SqT.of hxR⟩, ?_⟩
    intro E32 hE32
    refine lc_bagW (n := xsR.length) (wk_tup .non) (by omega) hE32 st.bag (fun H' b' _ => SqT.of (b' _ _ nq hxR)) (fun v => ∃ i : Int, v = .int i ∧ i.natAbs < 100) (fun j hj H' b' hb' R kk => ?_) (fun ys H7 hy hPy b7 hb7 hl7 => ?_)
    · walk_at "rd"
      refine ⟨a, 5, rfl, hb', by decide, by decide, fun x H8 x1 x2 b8 hb8 => ?_⟩
      exact kk _ _ ⟨_, rfl, by omega⟩ b8 hb8
    obtain ⟨ns, rfl, hns⟩ := ints_of hPy
    rw [List.length_map] at hy
    have nsM : ns.length = M.length := by omega
    replace st := st.but' b7 hb7
    clear b7 hb7 hPy
    walk_at "rd"
    refine ⟨E32, _, rfl, Or.inl ⟨SqL.of hl7, fun qa hqa => ?_⟩⟩
    replace st := st.tup hqa (.ints (ns := ns) rfl)
    walk_at "rd"
    
    refine ⟨qa, _, rfl, Or.inr (SqT.of (st.intsAt (p := qa) (ns := ns) (by walk_at "mem"))), fun r1 hr1 => ?_⟩
    replace st := st.lst hr1 (.ints (ns := ns) rfl)
    walk_at "rd"
    intro t2 ht2
    have nt2 := st.bag.ne ht2
    replace st := st.tup ht2 (.cons (.int 1) .nil)
    walk_at "rd"
    refine rd_cat1 (st.intsAt (p := qa) (ns := ns) (by walk_at "mem")) upd_same (by rw [List.length_map]; have := List.length_dropLast (xs := ns); omega) (fun r2 Kr2 sr2 hr2 mr2 => ?_)
    replace st := st.cat1 nt2 sr2 hr2 mr2 (any_snoc (.ints rfl) (.int 1))
    walk_at "rd"
    refine rd_slLast (st.intsAt (p := qa) (ns := ns) (by walk_at "mem")) (by rw [List.length_map]; omega) (fun r3 hr3 => ?_)
    replace st := st.tup hr3 (.ints (ints_last ns))
    walk_at "rd"
    refine rd_slLast (st.intsAt (p := qa) (ns := ns) (by walk_at "mem")) (by rw [List.length_map]; omega) (fun r4 hr4 => ?_)
    replace st := st.tup hr4 (.ints (ints_last ns))
    walk_at "rd"
    intro t5 ht5
    have nt5 := st.bag.ne ht5
    replace st := st.tup ht5 (.cons (.bl true) .nil)
    walk_at "rd"
    refine rd_cat1 (st.intsAt (p := r4) (ns := ns.dropLast) (by walk_at "mem")) upd_same (by rw [List.length_map]; have := List.length_dropLast (xs := ns); omega) (fun r5 Kr5 sr5 hr5 mr5 => ?_)
    replace st := st.cat1 nt5 sr5 hr5 mr5 (any_snoc (.ints rfl) (.bl true))
    walk_at "rd"
    refine rd_slLast (st.intsAt (p := qa) (ns := ns) (by walk_at "mem")) (by rw [List.length_map]; omega) (fun r6 hr6 => ?_)
    replace st := st.tup hr6 (.ints (ints_last ns))
    walk_at "rd"
    intro t7 ht7
    have nt7 := st.bag.ne ht7
    replace st := st.tup ht7 (.cons .non .nil)
    walk_at "rd"
    refine rd_cat1 (st.intsAt (p := r6) (ns := ns.dropLast) (by walk_at "mem")) upd_same (by rw [List.length_map]; have := List.length_dropLast (xs := ns); omega) (fun r7 Kr7 sr7 hr7 mr7 => ?_)
    replace st := st.cat1 nt7 sr7 hr7 mr7 (any_snoc (.ints rfl) .non)
    walk_at "rd"
    intro r9 hr9
    replace st := st.dic hr9
    walk_at "rd"
    intro r10 hr10
    replace st := st.same (same_new (u := .lst [V.non, .ref r1, .ref r2, .ref r3, .ref r5, .ref r7, .int 3, .str "1", .ref r9]) hr10)
    have hl10 := upd_same (H := upd Kr7 r9 (.dK [])) (a := r10) (o := HO.lst [V.non, .ref r1, .ref r2, .ref r3, .ref r5, .ref r7, .int 3, .str "1", .ref r9])
    walk_at "rd"
    refine rd_slLast (st.intsAt (p := qa) (ns := ns) (by walk_at "mem")) (by rw [List.length_map]; omega) (fun r11 hr11 => ?_)
    replace st := st.tup hr11 (.ints (ints_last ns))
    replace hl10 := up_old (u := .tup (ns.map V.int).dropLast) hr11 hl10
    walk_at "rd"
    refine ⟨rfl, ?_⟩
    walk_at "rd"
    intro t12 ht12
    have nt12 := st.bag.ne ht12
    replace st := st.tup ht12 (.cons (.int (10 ^ 2000)) .nil)
    replace hl10 := up_old (u := .tup [.int (10 ^ 2000)]) ht12 hl10
    walk_at "rd"
    refine rd_cat1 (st.intsAt (p := r11) (ns := ns.dropLast) (by walk_at "mem")) upd_same (by rw [List.length_map]; have := List.length_dropLast (xs := ns); omega) (fun r13 K13 s13 hr13 mr13 => ?_)
    replace st := st.cat1 nt12 s13 hr13 mr13 (any_snoc (.ints rfl) (.int (10 ^ 2000)))
    replace hl10 := s13 _ _ hl10
    walk_at "rd"
    intro r14 hr14
    replace st := st.same (same_new (u := .lst [.ref r13]) hr14)
    replace hl10 := up_old (u := .lst [.ref r13]) hr14 hl10
    walk_at "rd"
    refine ⟨r10, r14, _, _, rfl, rfl, hl10, upd_same, Nat.le_trans (Nat.le_of_ble_eq_true rfl) (show 30 ≤ sizeLine by decide), fun r15 hr15 => ?_⟩
    have n15 := st.bag.ne hr15
    replace st := st.same (same_new (u := .lst ([V.non, .ref r1, .ref r2, .ref r3, .ref r5, .ref r7, .int 3, .str "1", .ref r9] ++ [.ref r13])) hr15)
    walk_at "rd"
    refine ⟨a, _, rfl, st.bag, Or.inl ⟨r15, _, rfl, n15, SqL.of upd_same, Nat.le_of_ble_eq_true rfl, Nat.le_of_ble_eq_true rfl, fun v8 H8 hv8 b8 hb8 => ?_⟩⟩
    replace st := st.but' b8 hb8
    have ldl := List.length_dropLast (xs := ns)
    have ne1 : ∀ d : PyData, (ns.map PyData.int ++ [d]).length ≠ M.length := fun d => by rw [List.length_append, List.length_map, nsM]; exact Nat.succ_ne_self _
    have ne2 : (ns.dropLast.map PyData.int).length ≠ M.length := by rw [List.length_map]; omega
    obtain ⟨e8, he8, nd8, da8⟩ : ∃ e8, AnyD (del H8 a) v8 e8 ∧ noDic e8 ∧ dAims M.length e8 = false := by
      simp only [List.mem_append, List.mem_cons, List.not_mem_nil, or_false] at hv8
      rcases hv8 with (rfl | rfl | rfl | rfl | rfl | rfl | rfl | rfl | rfl) | rfl
      · exact ⟨.none, .non, trivial, rfl⟩
      · exact ⟨.list (ns.map PyData.int), st.here (by walk_at "mem"), trivial, rfl⟩
      · exact ⟨.tuple (ns.map PyData.int ++ [.int 1]), st.here (by walk_at "mem"), noDic_ints (fun z => nomatch z), aims_len (ne1 _)⟩
      · exact ⟨.tuple (ns.dropLast.map PyData.int), st.here (by walk_at "mem"), noDic_int, aims_len ne2⟩
      · exact ⟨.tuple (ns.dropLast.map PyData.int ++ [.bool true]), st.here (by walk_at "mem"), noDic_ints (fun z => nomatch z), aims_not rfl⟩
      · exact ⟨.tuple (ns.dropLast.map PyData.int ++ [.none]), st.here (by walk_at "mem"), noDic_ints (fun z => nomatch z), aims_not rfl⟩
      · exact ⟨.int 3, .int 3, trivial, rfl⟩
      · exact ⟨.str "1", .str "1", trivial, rfl⟩
      · exact ⟨.dict [], st.here (by walk_at "mem"), trivial, rfl⟩
      · exact ⟨.tuple (ns.dropLast.map PyData.int ++ [.int (10 ^ 2000)]), st.here (by walk_at "mem"), noDic_ints (fun z => nomatch z), aims_not great_not⟩
    have mR2 : (V.ref q, dTab M) ∈ (v8, e8) :: (V.ref q, dTab M) :: [] := by walk_at "mem"
    replace st : At6 a T H ((v8, e8) :: (V.ref q, dTab M) :: []) H8 := ⟨st.but, st.bag, st.tabs, fun p hp => by
      rcases List.mem_cons.mp hp with rfl | hp
      · exact he8
      · rw [List.mem_singleton.mp hp]
        exact st.here (by walk_at "mem")⟩
    clear hv8 b8 hb8 hl10 he8
    walk_at "rd"
    -- 3
    refine ⟨st.tabs, fun G3 x3 t3 => ?_⟩
    replace st := st.ext x3 t3
    refine rd_word ?_
    refine rd_ClX ?_
    walk_at "rd"
    refine ⟨.ref q, .int oth, rfl, Or.inr (Or.inr (Or.inl ⟨dTab M, oth, (st.get (v := .ref q) (d := dTab M) (by walk_at "mem")), noDics_tab M, tb.rows, rfl, o1, o28, (by rw [Tb.len, M1]; omega), (by rw [tb.wid]; omega), fun J3 s3 => Or.inl ⟨rfl, ?_⟩⟩))⟩
    replace st := st.same s3
    walk_at "rd"
    intro p1_3 hp1_3
    replace st := st.lst hp1_3 (any_strs _ ["operation"])
    have mW3 := st.words (l := p1_3) (zs := ["operation"]) List.mem_cons_self
    walk_at "rd"
    -- 4
    refine ⟨st.tabs, fun G4 x4 t4 => ?_⟩
    replace st := st.ext x4 t4
    refine rd_word ?_
    refine rd_ClX ?_
    walk_at "rd"
    refine ⟨.ref q, v8, rfl, Or.inr (Or.inr (Or.inl ⟨dTab M, e8, (st.get (v := .ref q) (d := dTab M) (by walk_at "mem")), noDics_tab M, tb.rows, (by rw [Tb.len, M1]; omega), (st.get (v := v8) (d := e8) (by walk_at "mem")), nd8, (by rw [Tb.len]; exact da8), fun J4 s4 => Or.inl ⟨rfl, ?_⟩⟩))⟩
    replace st := st.same s4
    walk_at "rd"
    intro p1_4 hp1_4
    have hl4 := st.words (l := p1_3) (zs := ["operation"]) (by walk_at "mem")
    replace st := st.same (same_new (u := .lst [.str "operation"]) hp1_4)
    walk_at "rd"
    refine ⟨p1_3, p1_4, _, _, rfl, rfl, up_old hp1_4 hl4, upd_same, Nat.le_trans (Nat.le_of_ble_eq_true rfl) (show 30 ≤ sizeLine by decide), fun l4 hl2_4 => ?_⟩
    replace st := st.lst hl2_4 (any_strs _ ["operation", "operation"])
    walk_at "rd"
    -- 5
    refine ⟨st.tabs, fun G5 x5 t5 => ?_⟩
    replace st := st.ext x5 t5
    refine rd_word ?_
    refine rd_ClX ?_
    walk_at "rd"
    intro q5 hq5
    replace st := st.tup hq5 .nil
    walk_at "rd"
    intro r5 hr5
    replace st := st.tup hr5 .nil
    walk_at "rd"
    refine ⟨.ref q5, .ref r5, rfl, Or.inr (Or.inl ⟨(st.get (v := .ref q5) (d := .tuple []) (by walk_at "mem")), fun J5 s5 => Or.inl ⟨rfl, ?_⟩⟩)⟩
    replace st := st.same s5
    walk_at "rd"
    intro p1_5 hp1_5
    have hl5 := st.words (l := l4) (zs := ["operation", "operation"]) (by walk_at "mem")
    replace st := st.same (same_new (u := .lst [.str "operation"]) hp1_5)
    walk_at "rd"
    refine ⟨l4, p1_5, _, _, rfl, rfl, up_old hp1_5 hl5, upd_same, Nat.le_trans (Nat.le_of_ble_eq_true rfl) (show 30 ≤ sizeLine by decide), fun l5 hl2_5 => ?_⟩
    replace st := st.lst hl2_5 (any_strs _ ["operation", "operation", "operation"])
    walk_at "rd"
    -- 6
    refine ⟨st.tabs, fun G6 x6 t6 => ?_⟩
    replace st := st.ext x6 t6
    refine rd_word ?_
    refine rd_ClX ?_
    walk_at "rd"
    intro q6 hq6
    replace st := st.tup hq6 .nil
    walk_at "rd"
    refine ⟨.ref q6, v8, rfl, Or.inr (Or.inl ⟨(st.get (v := .ref q6) (d := .tuple []) (by walk_at "mem")), fun J6 s6 => Or.inl ⟨rfl, ?_⟩⟩)⟩
    replace st := st.same s6
    walk_at "rd"
    intro p1_6 hp1_6
    have hl6 := st.words (l := l5) (zs := ["operation", "operation", "operation"]) (by walk_at "mem")
    replace st := st.same (same_new (u := .lst [.str "operation"]) hp1_6)
    walk_at "rd"
    refine ⟨l5, p1_6, _, _, rfl, rfl, up_old hp1_6 hl6, upd_same, Nat.le_trans (Nat.le_of_ble_eq_true rfl) (show 30 ≤ sizeLine by decide), fun l6 hl2_6 => ?_⟩
    replace st := st.lst hl2_6 (any_strs _ ["operation", "operation", "operation", "operation"])
    walk_at "rd"
    refine ⟨_, rfl, by omega, by omega, ?_⟩
    intro E40 hE40
    refine lc_new (n := (1 + m0).toNat) (wk_rng _) (by omega) hE40 (fun _ _ => trivial) (fun _ t H' => H' t = some (.tup ((List.replicate ((1 + m0).toNat + 1) (1 : Int)).map V.int))) (fun _ t H' H'' z y => z _ y) (fun _ t H' y z => by rw [z] at y; cases y) (fun j hj H' o s' ho R kk => ?_) (fun rs40 H40 s40 hrs40 hnd40 hP40 hfr40 hEr40 hl40 => ?_)
    · walk_at "rd"
      intro t41 ht41
      walk_at "rd"
      refine ⟨t41, _, _, rfl, rfl, SqT.of upd_same, (fun z => nomatch z), by omega, by omega, by decide, fun p42 hp42 => ?_⟩
      refine kk p42 _ ((same_new ht41).free hp42) (fun b o eb => up_old hp42 (up_old ht41 eb)) ?_
      rw [upd_same, flat_one]
      have e9 : (1 + m0 + 1).toNat = (1 + m0).toNat + 1 := by omega
      rw [e9]
    have st40 := st.bag
    replace st := st.same s40
    walk_at "rd"
    refine ⟨E40, _, rfl, Or.inl ⟨SqL.of hl40, fun ql hql => ?_⟩⟩
    replace st := (st.same (same_new (u := .tup (rs40.map V.ref)) hql)).add (v := .ref ql) (d := dTab (longT (1 + m0).toNat)) (tt_any ⟨rs40, (del_ne (st.bag.ne hql)).trans upd_same, by unfold longT; rw [hrs40, List.length_replicate], fun i r row e1 e2 => by
      have nr : r ≠ a := st40.ne (hfr40 r (List.mem_of_getElem? e1))
      rw [del_ne nr, up_old hql (hP40 i r e1)]
      unfold longT at e2
      rw [List.mem_replicate.mp (List.mem_of_getElem? e2) |>.2]⟩)
    have hsq := longT_not (m := (1 + m0).toNat) (by omega)
    walk_at "rd"
    -- 7
    refine ⟨st.tabs, fun G7 x7 t7 => ?_⟩
    replace st := st.ext x7 t7
    refine rd_word ?_
    refine rd_ClX ?_
    walk_at "rd"
    refine ⟨.ref ql, rfl, Or.inl ⟨_, (st.get (v := .ref ql) (d := dTab (longT (1 + m0).toNat)) (by walk_at "mem")), noDics_tab _, hsq, fun J7 s7 => Or.inl ⟨rfl, ?_⟩⟩⟩
    replace st := st.same s7
    walk_at "rd"
    intro p1_7 hp1_7
    have hl7 := st.words (l := l6) (zs := ["operation", "operation", "operation", "operation"]) (by walk_at "mem")
    replace st := st.same (same_new (u := .lst [.str "operation"]) hp1_7)
    walk_at "rd"
    refine ⟨l6, p1_7, _, _, rfl, rfl, up_old hp1_7 hl7, upd_same, Nat.le_trans (Nat.le_of_ble_eq_true rfl) (show 30 ≤ sizeLine by decide), fun l7 hl2_7 => ?_⟩
    replace st := st.lst hl2_7 (any_strs _ ["operation", "operation", "operation", "operation", "operation"])
    walk_at "rd"
    -- 8
    refine ⟨st.tabs, fun G8 x8 t8 => ?_⟩
    replace st := st.ext x8 t8
    refine rd_word ?_
    refine rd_ClX ?_
    walk_at "rd"
    refine ⟨.ref ql, rfl, Or.inl ⟨_, (st.get (v := .ref ql) (d := dTab (longT (1 + m0).toNat)) (by walk_at "mem")), noDics_tab _, hsq, fun J8 s8 => Or.inl ⟨rfl, ?_⟩⟩⟩
    replace st := st.same s8
    walk_at "rd"
    intro p1_8 hp1_8
    have hl8 := st.words (l := l7) (zs := ["operation", "operation", "operation", "operation", "operation"]) (by walk_at "mem")
    replace st := st.same (same_new (u := .lst [.str "operation"]) hp1_8)
    walk_at "rd"
    refine ⟨l7, p1_8, _, _, rfl, rfl, up_old hp1_8 hl8, upd_same, Nat.le_trans (Nat.le_of_ble_eq_true rfl) (show 30 ≤ sizeLine by decide), fun l8 hl2_8 => ?_⟩
    replace st := st.lst hl2_8 (any_strs _ ["operation", "operation", "operation", "operation", "operation", "operation"])
    walk_at "rd"
    intro t50 ht50
    have nt50 := st.bag.ne ht50
    replace st := st.tup ht50 (.cons (.int 1) (.cons (.int 2) .nil))
    walk_at "rd"
    refine ⟨a, 4, rfl, st.bag, by decide, by decide, fun x0 H51 x1 x2 b51 hb51 => ?_⟩
    replace st := st.but' b51 hb51
    walk_at "rd"
    intro t52 ht52
    have nt52 := st.bag.ne ht52
    replace st := st.tup ht52 (.cons (.int (3 + x0)) (.cons (.int 1) .nil))
    walk_at "rd"
    intro t53 ht53
    replace st := st.tup ht53 (.cons (st.here (v := .ref t50) (d := .tuple [.int 1, .int 2]) (by walk_at "mem")) (.cons (st.here (v := .ref t52) (d := .tuple [.int (3 + x0), .int 1]) (by walk_at "mem")) .nil))
    walk_at "rd"
    -- 9
    refine ⟨st.tabs, fun G9 x9 t9 => ?_⟩
    replace st := st.ext x9 t9
    refine rd_word ?_
    refine rd_ClX ?_
    walk_at "rd"
    refine ⟨.ref t53, rfl, Or.inr (Or.inl ⟨3 + x0, (st.get (v := .ref t53) (d := dTab [[1, 2], [3 + x0, 1]]) (by walk_at "mem")), by omega, by omega, fun J9 s9 => Or.inl ⟨rfl, ?_⟩⟩)⟩
    replace st := st.same s9
    walk_at "rd"
    intro p1_9 hp1_9
    have hl9 := st.words (l := l8) (zs := ["operation", "operation", "operation", "operation", "operation", "operation"]) (by walk_at "mem")
    replace st := st.same (same_new (u := .lst [.str "operation"]) hp1_9)
    walk_at "rd"
    refine ⟨l8, p1_9, _, _, rfl, rfl, up_old hp1_9 hl9, upd_same, Nat.le_trans (Nat.le_of_ble_eq_true rfl) (show 30 ≤ sizeLine by decide), fun l9 hl2_9 => ?_⟩
    replace st := st.lst hl2_9 (any_strs _ ["operation", "operation", "operation", "operation", "operation", "operation", "operation"])
    walk_at "rd"
    -- 10
    refine ⟨st.tabs, fun G10 x10 t10 => ?_⟩
    replace st := st.ext x10 t10
    refine rd_word ?_
    refine rd_ClX ?_
    walk_at "rd"
    refine ⟨.ref t53, rfl, Or.inr ⟨_, (st.get (v := .ref t53) (d := dTab [[1, 2], [3 + x0, 1]]) (by walk_at "mem")), Or.inr ⟨3 + x0, rfl, by omega, by omega⟩, fun _ J10 s10 => ?_⟩⟩
    replace st := st.same s10
    walk_at "rd"
    intro p1_10 hp1_10
    have hl10 := st.words (l := l9) (zs := ["operation", "operation", "operation", "operation", "operation", "operation", "operation"]) (by walk_at "mem")
    replace st := st.same (same_new (u := .lst [.str "fine"]) hp1_10)
    walk_at "rd"
    refine ⟨l9, p1_10, _, _, rfl, rfl, up_old hp1_10 hl10, upd_same, Nat.le_trans (Nat.le_of_ble_eq_true rfl) (show 30 ≤ sizeLine by decide), fun l10 hl2_10 => ?_⟩
    replace st := st.lst hl2_10 (any_strs _ ["operation", "operation", "operation", "operation", "operation", "operation", "operation", "fine"])
    walk_at "rd"
    have hw9 := st.words (l := l10) (zs := ["operation", "operation", "operation", "operation", "operation", "operation", "operation", "fine"]) (by walk_at "mem")
    intro r60 hr60
    replace st := st.same (same_new (u := .lst [.str "operation"]) hr60)
    replace hw9 := up_old (u := .lst [.str "operation"]) hr60 hw9
    walk_at "rd"
    refine ⟨r60, 7, _, rfl, rfl, upd_same, by decide, by decide, Nat.le_trans (Nat.le_of_ble_eq_true rfl) (show 30 ≤ sizeLine by decide), fun r61 hr61 => ?_⟩
    replace st := st.same (same_new (u := .lst (List.replicate (Int.toNat 7) [V.str "operation"]).flatten) hr61)
    replace hw9 := up_old (u := .lst (List.replicate (Int.toNat 7) [V.str "operation"]).flatten) hr61 hw9
    walk_at "rd"
    intro r62 hr62
    replace st := st.same (same_new (u := .lst [.str "fine"]) hr62)
    replace hw9 := up_old (u := .lst [.str "fine"]) hr62 hw9
    walk_at "rd"
    refine ⟨r61, r62, _, _, rfl, rfl, up_old hr62 upd_same, upd_same, Nat.le_trans (Nat.le_of_ble_eq_true rfl) (show 30 ≤ sizeLine by decide), fun r63 hr63 => ?_⟩
    replace st := st.same (same_new (u := .lst ((List.replicate (Int.toNat 7) [V.str "operation"]).flatten ++ [V.str "fine"])) hr63)
    replace hw9 := up_old (u := .lst ((List.replicate (Int.toNat 7) [V.str "operation"]).flatten ++ [V.str "fine"])) hr63 hw9
    have eight : ∀ (l : Addr) (H' : Hp), H' l = some (.lst (List.replicate 7 (V.str "operation") ++ [V.str "fine"])) → Dp K H' (.ref l) (.list (List.replicate 7 (.str "operation") ++ [.str "fine"])) := fun l H' h => .lst (SqL.of h) (.cons (.str _) (.cons (.str _) (.cons (.str _) (.cons (.str _) (.cons (.str _) (.cons (.str _) (.cons (.str _) (.cons (.str _) .nil))))))))
    walk_at "rd"
    refine rd_eqD (eight _ _ hw9) (eight r63 _ upd_same) (by decide +kernel) (by decide +kernel) ?_
    rw [show PyData.eqv (.list (List.replicate 7 (.str "operation") ++ [.str "fine"])) (.list (List.replicate 7 (.str "operation") ++ [.str "fine"])) = true by decide +kernel]
    exact k _ st.but st.bag st.tabs
end
section
variable {P : Program} {w : World} {K : PySem.W.Frag} {mg : Str → Option Value} {base : Heap}
set_option maxHeartbeats 0 in
theorem ok_law_bounds_let {CO CN c T1 : Addr} {T : List (Addr × Str)} (B : Bi mg) (D : DefC K mg "_law_bounds_let" s_law_bounds_let ["_law_bag_here"] c) (R : Er K mg CO CN) (DW : DefAt K mg "_law_word" s_law_word ["_law_call"]) (TB : LamX.TabB base mg c T1) (hmT : (T1, ("_law_bounds_let.<locals>.<lambda>" : Str)) ∈ T) (huT : ∀ p ∈ T, p.1 = T1 → p.2 = ("_law_bounds_let.<locals>.<lambda>" : Str)) (c_law_draw : CalA P w K mg base "_law_draw" 1 ["_law_bag_here", "_law_total"] (spDraw)) (c_law_great : CalA P w K mg base "_law_great" 1 [] (spGreat)) (care_free : CalE P w K mg base "are_free" 9 ["rows"] (spFree CO)) (ccleared : CalE P w K mg base "cleared" 6 ["row"] (spCleared CO)) (cdeterminant : CalE P w K mg base "determinant" 8 ["table"] (spDet CO)) (cis_square_sum : CalE P w K mg base "is_square_sum" 8 ["table"] (spSqs CO)) (ckernel : CalE P w K mg base "kernel" 8 ["rows", "width"] (spKernel CO CN)) (crank : CalE P w K mg base "rank" 8 ["rows"] (spRank CO)) (csolution : CalE P w K mg base "solution" 8 ["rows", "aims"] (spSolution CO)) : Cal P w K mg base "_law_bounds_let" 34 ["_law_bag_here"] (spRefused T) := by
  refine calc_of D sc_law_bounds_let (fun vs H Q E h => ?_) (fun f A outer s H vs Q E hq hr h => ?_)
  · obtain ⟨a, rfl, _⟩ := h; rfl
  · have hu := hr.units
    replace hq := Quiet.deeper hq (envOfC "_law_bounds_let" (defScope s_law_bounds_let) s.heap.objs.size f (.ref c))
    have hr_law_draw := hr.mono (show 1 ≤ 33 by decide)
    have hr_law_great := hr.mono (show 1 ≤ 33 by decide)
    have hrare_free := hr.mono (show 9 ≤ 33 by decide)
    have hrcleared := hr.mono (show 6 ≤ 33 by decide)
    have hrdeterminant := hr.mono (show 8 ≤ 33 by decide)
    have hris_square_sum := hr.mono (show 8 ≤ 33 by decide)
    have hrkernel := hr.mono (show 8 ≤ 33 by decide)
    have hrrank := hr.mono (show 8 ≤ 33 by decide)
    have hrsolution := hr.mono (show 8 ≤ 33 by decide)
    skip
    refine ⟨_, (pss_cons (ps_set (i := 1) sc_law_bounds_let.nd rfl (by first | exact Or.inl rfl | exact Or.inr rfl) (pe_op op_sub (pe_op op_sub (ac0 c_law_great hr_law_great (by rfl)) pe_int) (ac c_law_draw hr_law_draw (by rfl) (pa_cons (pv 0) (pa_cons pe_int pa_nil)))))
        (pss_cons (ps_set (i := 2) sc_law_bounds_let.nd rfl (by first | exact Or.inl rfl | exact Or.inr rfl) (pe_op (r := rRepT K) (by exact op_repT) (pe_tup (pa_cons (pe_callTy (r := rTupOf K) (by exact q_tupOf) (by rfl) B.b_tuple (by decide +kernel) (pa_cons (pe_lc (own := [("_law_at", 4)]) (g := gName 4) (tt := tYes) (by rfl) sc_law_bounds_let.nd (pi_range1 (by rfl) B.b_range (pa_cons pe_int pa_nil)) (blkOk_by (own := [("_law_at", 4)]) (N := ["_law_bag_here", "_law_edge", "_law_wide", "_law_words", "_law_at"]) (sc := defScope s_law_bounds_let) (by decide +kernel)) (fun _ _ _ _ _ => (pg_name (i := 4) sc_law_bounds_let.nd rfl (by first | exact Or.inl rfl | exact Or.inr rfl))) (fun _ _ _ _ _ => pts_nil) (fun _ _ _ _ _ => (ac c_law_draw hr_law_draw (by rfl) (pa_cons (pv 0) (pa_cons pe_int pa_nil))))) pa_nil)) pa_nil)) pe_int))
        (pss_cons (ps_set (i := 3) sc_law_bounds_let.nd rfl (by first | exact Or.inl rfl | exact Or.inr rfl) (pe_lst (pa_cons (wl (k := 30) (t := fun E => tClX (spRank CO) (fun cls d _ H => E cls d H) (tCons (tVar 2) tNil)) DW R B.b_repr hq (hr.mono (by decide)) (by rfl) TB (by rfl) hmT huT (LamX.lamS_by (sc := defScope s_law_bounds_let) (by decide +kernel)) (by rfl) (by intros; rfl) (fun A2 outer2 s2 H2 E2 f2 c2 hr2 => (ec crank (hr2.mono (by decide)) (by rfl) (L2.takes_of rfl rfl rfl rfl) (pa_cons (pv 2) pa_nil)))) pa_nil)))
        (pss_cons (ps_set (i := 3) sc_law_bounds_let.nd rfl (by first | exact Or.inl rfl | exact Or.inr rfl) (pe_op op_cat (pv 3) (pe_lst (pa_cons (wl (k := 30) (t := fun E => tClX (spFree CO) (fun cls d _ H => E cls d H) (tCons (tVar 2) tNil)) DW R B.b_repr hq (hr.mono (by decide)) (by rfl) TB (by rfl) hmT huT (LamX.lamS_by (sc := defScope s_law_bounds_let) (by decide +kernel)) (by rfl) (by intros; rfl) (fun A2 outer2 s2 H2 E2 f2 c2 hr2 => (ec care_free (hr2.mono (by decide)) (by rfl) (L2.takes_of rfl rfl rfl rfl) (pa_cons (pv 2) pa_nil)))) pa_nil))))
        (pss_cons (ps_set (i := 3) sc_law_bounds_let.nd rfl (by first | exact Or.inl rfl | exact Or.inr rfl) (pe_op op_cat (pv 3) (pe_lst (pa_cons (wl (k := 30) (t := fun E => tClX (spKernel CO CN) (fun cls d _ H => E cls d H) (tCons (tVar 2) (tCons (tC (V.int 28)) tNil))) DW R B.b_repr hq (hr.mono (by decide)) (by rfl) TB (by rfl) hmT huT (LamX.lamS_by (sc := defScope s_law_bounds_let) (by decide +kernel)) (by rfl) (by intros; rfl) (fun A2 outer2 s2 H2 E2 f2 c2 hr2 => (ec ckernel (hr2.mono (by decide)) (by rfl) (L2.takes_of rfl rfl rfl rfl) (pa_cons (pv 2) (pa_cons pe_int pa_nil))))) pa_nil))))
        (pss_cons (ps_set (i := 3) sc_law_bounds_let.nd rfl (by first | exact Or.inl rfl | exact Or.inr rfl) (pe_op op_cat (pv 3) (pe_lst (pa_cons (wl (k := 30) (t := fun E => tClX (spRank CO) (fun cls d _ H => E cls d H) (tCons (tTup (tCons (tTup (tCons (tVar 1) (tCons (tOp (rI0 fun i j => V.int (i - j)) (tC (V.int 0)) (tVar 1)) tNil))) tNil)) tNil)) DW R B.b_repr hq (hr.mono (by decide)) (by rfl) TB (by rfl) hmT huT (LamX.lamS_by (sc := defScope s_law_bounds_let) (by decide +kernel)) (by rfl) (by intros; rfl) (fun A2 outer2 s2 H2 E2 f2 c2 hr2 => (ec crank (hr2.mono (by decide)) (by rfl) (L2.takes_of rfl rfl rfl rfl) (pa_cons (pe_tup (pa_cons (pe_tup (pa_cons (pv 1) (pa_cons (pe_op op_sub pe_int (pv 1)) pa_nil))) pa_nil)) pa_nil)))) pa_nil))))
        (pss_cons (ps_set (i := 3) sc_law_bounds_let.nd rfl (by first | exact Or.inl rfl | exact Or.inr rfl) (pe_op op_cat (pv 3) (pe_lst (pa_cons (wl (k := 30) (t := fun E => tClX (spCleared CO) (fun cls d _ H => E cls d H) (tCons (tTup (tCons (tVar 1) (tCons (tOp (rI0 fun i j => V.int (i - j)) (tC (V.int 0)) (tVar 1)) tNil))) tNil)) DW R B.b_repr hq (hr.mono (by decide)) (by rfl) TB (by rfl) hmT huT (LamX.lamS_by (sc := defScope s_law_bounds_let) (by decide +kernel)) (by rfl) (by intros; rfl) (fun A2 outer2 s2 H2 E2 f2 c2 hr2 => (ec ccleared (hr2.mono (by decide)) (by rfl) (L2.takes_of rfl rfl rfl rfl) (pa_cons (pe_tup (pa_cons (pv 1) (pa_cons (pe_op op_sub pe_int (pv 1)) pa_nil))) pa_nil)))) pa_nil))))
        (pss_cons (ps_set (i := 3) sc_law_bounds_let.nd rfl (by first | exact Or.inl rfl | exact Or.inr rfl) (pe_op op_cat (pv 3) (pe_lst (pa_cons (wl (k := 30) (t := fun E => tClX (spSolution CO) (fun cls d _ H => E cls d H) (tCons (tTup (tCons (tTup (tCons (tVar 1) tNil)) tNil)) (tCons (tTup (tCons (tOp (rI0 fun i j => V.int (i - j)) (tC (V.int 0)) (tVar 1)) tNil)) tNil))) DW R B.b_repr hq (hr.mono (by decide)) (by rfl) TB (by rfl) hmT huT (LamX.lamS_by (sc := defScope s_law_bounds_let) (by decide +kernel)) (by rfl) (by intros; rfl) (fun A2 outer2 s2 H2 E2 f2 c2 hr2 => (ec csolution (hr2.mono (by decide)) (by rfl) (L2.takes_of rfl rfl rfl rfl) (pa_cons (pe_tup (pa_cons (pe_tup (pa_cons (pv 1) pa_nil)) pa_nil)) (pa_cons (pe_tup (pa_cons (pe_op op_sub pe_int (pv 1)) pa_nil)) pa_nil))))) pa_nil))))
        (pss_cons (ps_set (i := 3) sc_law_bounds_let.nd rfl (by first | exact Or.inl rfl | exact Or.inr rfl) (pe_op op_cat (pv 3) (pe_lst (pa_cons (wl (k := 30) (t := fun E => tClX (spDet CO) (fun cls d _ H => E cls d H) (tCons (tTup (tCons (tTup (tCons (tVar 1) tNil)) tNil)) tNil)) DW R B.b_repr hq (hr.mono (by decide)) (by rfl) TB (by rfl) hmT huT (LamX.lamS_by (sc := defScope s_law_bounds_let) (by decide +kernel)) (by rfl) (by intros; rfl) (fun A2 outer2 s2 H2 E2 f2 c2 hr2 => (ec cdeterminant (hr2.mono (by decide)) (by rfl) (L2.takes_of rfl rfl rfl rfl) (pa_cons (pe_tup (pa_cons (pe_tup (pa_cons (pv 1) pa_nil)) pa_nil)) pa_nil)))) pa_nil))))
        (pss_cons (ps_set (i := 3) sc_law_bounds_let.nd rfl (by first | exact Or.inl rfl | exact Or.inr rfl) (pe_op op_cat (pv 3) (pe_lst (pa_cons (wl (k := 30) (t := fun E => tClX (spSqs CO) (fun cls d _ H => E cls d H) (tCons (tTup (tCons (tTup (tCons (tOp (rI0 fun i j => V.int (i - j)) (tC (V.int 0)) (tVar 1)) tNil)) tNil)) tNil)) DW R B.b_repr hq (hr.mono (by decide)) (by rfl) TB (by rfl) hmT huT (LamX.lamS_by (sc := defScope s_law_bounds_let) (by decide +kernel)) (by rfl) (by intros; rfl) (fun A2 outer2 s2 H2 E2 f2 c2 hr2 => (ec cis_square_sum (hr2.mono (by decide)) (by rfl) (L2.takes_of rfl rfl rfl rfl) (pa_cons (pe_tup (pa_cons (pe_tup (pa_cons (pe_op op_sub pe_int (pv 1)) pa_nil)) pa_nil)) pa_nil)))) pa_nil))))
        (pss_cons (ps_set (i := 3) sc_law_bounds_let.nd rfl (by first | exact Or.inl rfl | exact Or.inr rfl) (pe_op op_cat (pv 3) (pe_lst (pa_cons (wl (k := 30) (t := fun E => tClX (spKernel CO CN) (fun cls d _ H => E cls d H) (tCons (tTup tNil) (tCons (tC (V.int 28)) tNil))) DW R B.b_repr hq (hr.mono (by decide)) (by rfl) TB (by rfl) hmT huT (LamX.lamS_by (sc := defScope s_law_bounds_let) (by decide +kernel)) (by rfl) (by intros; rfl) (fun A2 outer2 s2 H2 E2 f2 c2 hr2 => (ec ckernel (hr2.mono (by decide)) (by rfl) (L2.takes_of rfl rfl rfl rfl) (pa_cons (pe_tup pa_nil) (pa_cons pe_int pa_nil))))) pa_nil))))
        (pss_one (ps_ret (pe_and (pe_cmpR (r := rEqD K) (by exact (op_eqD hu)) (pv 3) (pe_op op_rep (pe_lst (pa_cons pe_str pa_nil)) pe_int) (nomark _)) (pe_one (pe_cmpR (r := rEqD K) (by exact (op_eqD hu)) (ec ccleared hrcleared (by rfl) LamX.takes0 (pa_cons (pe_tup (pa_cons (pv 1) (pa_cons (pe_op op_sub pe_int (pv 1)) pa_nil))) pa_nil)) (pe_tup (pa_cons pe_int (pa_cons (pe_un un_neg pe_int) pa_nil))) (nomark _))))))))))))))))), ?_⟩
    obtain ⟨a, rfl, hb, hT, k⟩ := h
    refine rd_at [some (.ref a), none, none, none, none] rfl ?_
    have st : At6 a T H [] H := ⟨.refl a H, hb, hT, fun p hp => nomatch hp⟩
    clear hb hT
    walk_at "rd"
    refine ⟨rfl, ?_⟩
    walk_at "rd"
    refine ⟨a, 3, rfl, st.bag, by decide, by decide, fun d0 H1 m1 m2 b1 hb1 => ?_⟩
    replace st := st.but' b1 hb1
    clear b1 hb1
    walk_at "rd"
    have hmod := edge_mod m1 m2
    obtain ⟨eb1, eb2⟩ := edge_big
    have ebd : ((10 : Int) ^ 2000 - 1 - d0).natAbs < 10 ^ 2000 := by
      rw [eb1]
      generalize (10 : Nat) ^ 2000 = X at eb2
      omega
    have epos : (1073741789 : Int) ≤ (10 : Int) ^ 2000 - 1 - d0 := by
      rw [eb1]
      generalize (10 : Nat) ^ 2000 = X at eb2
      omega
    generalize (10 : Int) ^ 2000 - 1 - d0 = ed at hmod ebd epos ⊢
    clear eb1 eb2
    refine ⟨(28 : Int), rfl, by decide, by decide, ?_⟩
    intro E1 hE1
    refine lc_bag (n := 28) (by decide) hE1 st.bag (fun v => ∃ i : Int, v = .int i ∧ 0 ≤ i ∧ i < 3) (fun i hi H5 bu5 hb5 R5 kk5 => ?_) (fun ys H5 hy hPy bu5 hb5 hl5 => ?_)
    · walk_at "rd"
      refine ⟨a, 3, rfl, hb5, by decide, by decide, fun x H6 x1 x2 b6 hb6 => ?_⟩
      exact kk5 _ _ ⟨_, rfl, x1, x2⟩ b6 hb6
    obtain ⟨r, rfl, hr3⟩ := ints_of hPy
    rw [List.length_map] at hy
    replace st := st.but' bu5 hb5
    clear bu5 hPy
    walk_at "rd"
    refine ⟨E1, _, rfl, Or.inl ⟨SqL.of hl5, fun qw hqw => ?_⟩⟩
    have nqw := st.bag.ne hqw
    replace st := st.same (same_new (u := .tup (r.map V.int)) hqw)
    have gq := upd_same (H := H5) (a := qw) (o := HO.tup (r.map V.int))
    walk_at "rd"
    intro tw htw
    replace st := st.same (same_new (u := .tup [.ref qw]) htw)
    replace gq := up_old (u := .tup [.ref qw]) htw gq
    walk_at "rd"
    refine ⟨tw, 60, _, rfl, rfl, SqT.of upd_same, (fun z => nomatch z), by decide, by decide, Nat.le_of_ble_eq_true rfl, fun pw hpw => ?_⟩
    have npw := st.bag.ne hpw
    replace st := st.same (same_new (u := .tup (List.replicate (Int.toNat 60) [V.ref qw]).flatten) hpw)
    replace gq := up_old (u := .tup (List.replicate (Int.toNat 60) [V.ref qw]).flatten) hpw gq
    have gp := upd_same (H := upd (upd H5 qw (.tup (r.map V.int))) tw (.tup [.ref qw])) (a := pw) (o := HO.tup (List.replicate 60 (V.ref qw)))
    have but0 := st.but
    replace st := st.root
    have fit : Fit2 60 r := ⟨⟨by decide, by decide, by omega, by omega, fun x hx => ?_, ?_⟩, by omega, fun x hx => ?_⟩
    case refine_1 =>
      obtain ⟨h1, h2⟩ := hr3 x hx
      exact Nat.lt_of_lt_of_le (show x.natAbs < 10 ^ 1 by omega) (Nat.pow_le_pow_right (by decide) (by decide))
    case refine_2 =>
      by_cases hz : ∀ x ∈ r, x = 0
      · exact Or.inl hz
      · refine Or.inr ?_
        obtain ⟨x, hx⟩ := Classical.not_forall.mp hz
        obtain ⟨hx, hnz⟩ := Classical.not_imp.mp hx
        obtain ⟨h1, h2⟩ := hr3 x hx
        exact ⟨x, hx, by omega⟩
    case refine_3 =>
      obtain ⟨h1, h2⟩ := hr3 x hx
      omega
    have one : ∀ {Hc : Hp}, ButN a (upd (upd (upd H5 qw (.tup (r.map V.int))) tw (.tup [.ref qw])) pw (.tup (List.replicate (Int.toNat 60) [V.ref qw]).flatten)) Hc → One Hc pw 60 r := fun b => ⟨qw, b _ _ npw gp (fun _ z => nomatch z), b _ _ nqw gq (fun _ z => nomatch z)⟩
    have fitE : Fit 1 [ed, 0 - ed] := ⟨by decide, by decide, (show 1 ≤ 2 by decide), (show 2 ≤ 28 by decide), fun x hx => ?_, Or.inr ⟨ed, List.mem_cons_self, hmod⟩⟩
    case refine_1 =>
      simp only [List.mem_cons, List.not_mem_nil, or_false] at hx
      rcases hx with rfl | rfl
      · exact ebd
      · rw [Int.zero_sub, Int.natAbs_neg]
        exact ebd
    have nebd : (0 - ed).natAbs < 10 ^ 2000 := by rw [Int.zero_sub, Int.natAbs_neg]; exact ebd
    clear gp gq hl5 hb5
    generalize upd (upd (upd H5 qw (.tup (r.map V.int))) tw (.tup [.ref qw])) pw (.tup (List.replicate (Int.toNat 60) [V.ref qw]).flatten) = Hw at st one but0 ⊢
    walk_at "rd"
    -- 1
    refine ⟨st.tabs, fun G1 x1 t1 => ?_⟩
    replace st := st.ext x1 t1
    refine rd_word ?_
    refine rd_ClX ?_
    walk_at "rd"
    refine ⟨.ref pw, rfl, Or.inr ⟨pw, 60, r, rfl, one st.but, fit.toFit, fun _ J1 s1 => ?_⟩⟩
    replace st := st.same s1
    walk_at "rd"
    intro p1_1 hp1_1
    replace st := st.lst hp1_1 (any_strs _ ["fine"])
    walk_at "rd"
    -- 2
    refine ⟨st.tabs, fun G2 x2 t2 => ?_⟩
    replace st := st.ext x2 t2
    refine rd_word ?_
    refine rd_ClX ?_
    walk_at "rd"
    refine ⟨.ref pw, rfl, Or.inr ⟨pw, 60, r, rfl, one st.but, fit.toFit, fun _ J2 s2 => ?_⟩⟩
    replace st := st.same s2
    walk_at "rd"
    intro p1_2 hp1_2
    have hl2 := st.words (l := p1_1) (zs := ["fine"]) (by walk_at "mem")
    replace st := st.same (same_new (u := .lst [.str "fine"]) hp1_2)
    walk_at "rd"
    refine ⟨p1_1, p1_2, _, _, rfl, rfl, up_old hp1_2 hl2, upd_same, Nat.le_trans (Nat.le_of_ble_eq_true rfl) (show 30 ≤ sizeLine by decide), fun l2 hl2_2 => ?_⟩
    replace st := st.lst hl2_2 (any_strs _ ["fine", "fine"])
    walk_at "rd"
    -- 3
    refine ⟨st.tabs, fun G3 x3 t3 => ?_⟩
    replace st := st.ext x3 t3
    refine rd_word ?_
    refine rd_ClX ?_
    walk_at "rd"
    refine ⟨.ref pw, .int 28, rfl, Or.inr (Or.inr (Or.inr ⟨pw, 60, r, rfl, by rw [hy]; rfl, Or.inl ⟨one st.but, fit⟩, fun _ J3 s3 => ?_⟩))⟩
    replace st := st.same s3
    walk_at "rd"
    intro p1_3 hp1_3
    have hl3 := st.words (l := l2) (zs := ["fine", "fine"]) (by walk_at "mem")
    replace st := st.same (same_new (u := .lst [.str "fine"]) hp1_3)
    walk_at "rd"
    refine ⟨l2, p1_3, _, _, rfl, rfl, up_old hp1_3 hl3, upd_same, Nat.le_trans (Nat.le_of_ble_eq_true rfl) (show 30 ≤ sizeLine by decide), fun l3 hl2_3 => ?_⟩
    replace st := st.lst hl2_3 (any_strs _ ["fine", "fine", "fine"])
    walk_at "rd"
    -- 4
    refine ⟨st.tabs, fun G4 x4 t4 => ?_⟩
    replace st := st.ext x4 t4
    refine rd_word ?_
    refine rd_ClX ?_
    walk_at "rd"
    intro u4 hu4
    replace st := st.tup hu4 (.cons (.int ed) (.cons (.int (0 - ed)) .nil))
    walk_at "rd"
    intro v4 hv4
    replace st := st.same (same_new (u := .tup [.ref u4]) hv4)
    walk_at "rd"
    refine ⟨.ref v4, rfl, Or.inr ⟨v4, 1, [ed, 0 - ed], rfl, ⟨u4, upd_same, up_old hv4 upd_same⟩, fitE, fun _ J4 s4 => ?_⟩⟩
    replace st := st.same s4
    walk_at "rd"
    intro p1_4 hp1_4
    have hl4 := st.words (l := l3) (zs := ["fine", "fine", "fine"]) (by walk_at "mem")
    replace st := st.same (same_new (u := .lst [.str "fine"]) hp1_4)
    walk_at "rd"
    refine ⟨l3, p1_4, _, _, rfl, rfl, up_old hp1_4 hl4, upd_same, Nat.le_trans (Nat.le_of_ble_eq_true rfl) (show 30 ≤ sizeLine by decide), fun l4 hl2_4 => ?_⟩
    replace st := st.lst hl2_4 (any_strs _ ["fine", "fine", "fine", "fine"])
    walk_at "rd"
    -- 5
    refine ⟨st.tabs, fun G5 x5 t5 => ?_⟩
    replace st := st.ext x5 t5
    refine rd_word ?_
    refine rd_ClX ?_
    walk_at "rd"
    intro u5 hu5
    replace st := st.tup hu5 (.cons (.int ed) (.cons (.int (0 - ed)) .nil))
    walk_at "rd"
    refine ⟨.ref u5, rfl, Or.inr ⟨u5, [ed, 0 - ed], rfl, upd_same, (show 1 ≤ 2 by decide), (show 2 ≤ 28 by decide), fitE.bd, fun _ J5 s5 _ => ?_⟩⟩
    replace st := st.same s5
    walk_at "rd"
    intro p1_5 hp1_5
    have hl5 := st.words (l := l4) (zs := ["fine", "fine", "fine", "fine"]) (by walk_at "mem")
    replace st := st.same (same_new (u := .lst [.str "fine"]) hp1_5)
    walk_at "rd"
    refine ⟨l4, p1_5, _, _, rfl, rfl, up_old hp1_5 hl5, upd_same, Nat.le_trans (Nat.le_of_ble_eq_true rfl) (show 30 ≤ sizeLine by decide), fun l5 hl2_5 => ?_⟩
    replace st := st.lst hl2_5 (any_strs _ ["fine", "fine", "fine", "fine", "fine"])
    walk_at "rd"
    -- 6
    refine ⟨st.tabs, fun G6 x6 t6 => ?_⟩
    replace st := st.ext x6 t6
    refine rd_word ?_
    refine rd_ClX ?_
    walk_at "rd"
    intro u6 hu6
    replace st := st.same (same_new (u := .tup [.int ed]) hu6)
    walk_at "rd"
    intro v6 hv6
    replace st := st.same (same_new (u := .tup [.ref u6]) hv6)
    walk_at "rd"
    intro z6 hz6
    replace st := st.same (same_new (u := .tup [.int (0 - ed)]) hz6)
    walk_at "rd"
    refine ⟨.ref v6, .ref z6, rfl, Or.inr (Or.inr (Or.inr ⟨v6, u6, z6, ed, 0 - ed, rfl, up_old hz6 upd_same, up_old hz6 (up_old hv6 upd_same), rfl, upd_same, ebd, hmod, epos, rfl, fun _ J6 s6 => ?_⟩))⟩
    replace st := st.same s6
    walk_at "rd"
    intro p1_6 hp1_6
    have hl6 := st.words (l := l5) (zs := ["fine", "fine", "fine", "fine", "fine"]) (by walk_at "mem")
    replace st := st.same (same_new (u := .lst [.str "fine"]) hp1_6)
    walk_at "rd"
    refine ⟨l5, p1_6, _, _, rfl, rfl, up_old hp1_6 hl6, upd_same, Nat.le_trans (Nat.le_of_ble_eq_true rfl) (show 30 ≤ sizeLine by decide), fun l6 hl2_6 => ?_⟩
    replace st := st.lst hl2_6 (any_strs _ ["fine", "fine", "fine", "fine", "fine", "fine"])
    walk_at "rd"
    -- 7
    refine ⟨st.tabs, fun G7 x7 t7 => ?_⟩
    replace st := st.ext x7 t7
    refine rd_word ?_
    refine rd_ClX ?_
    walk_at "rd"
    intro u7 hu7
    replace st := st.tup hu7 (.cons (.int (ed)) .nil)
    walk_at "rd"
    intro v7 hv7
    replace st := st.tup hv7 (.cons (st.here (v := .ref u7) (d := .tuple [.int (ed)]) (by walk_at "mem")) .nil)
    walk_at "rd"
    refine ⟨.ref v7, rfl, Or.inr ⟨[[ed]], (st.get (v := .ref v7) (d := dTab [[ed]]) (by walk_at "mem")), Or.inl ⟨ed, rfl, ebd⟩, fun _ J7 s7 => ?_⟩⟩
    replace st := st.same s7
    walk_at "rd"
    intro p1_7 hp1_7
    have hl7 := st.words (l := l6) (zs := ["fine", "fine", "fine", "fine", "fine", "fine"]) (by walk_at "mem")
    replace st := st.same (same_new (u := .lst [.str "fine"]) hp1_7)
    walk_at "rd"
    refine ⟨l6, p1_7, _, _, rfl, rfl, up_old hp1_7 hl7, upd_same, Nat.le_trans (Nat.le_of_ble_eq_true rfl) (show 30 ≤ sizeLine by decide), fun l7 hl2_7 => ?_⟩
    replace st := st.lst hl2_7 (any_strs _ ["fine", "fine", "fine", "fine", "fine", "fine", "fine"])
    walk_at "rd"
    -- 8
    refine ⟨st.tabs, fun G8 x8 t8 => ?_⟩
    replace st := st.ext x8 t8
    refine rd_word ?_
    refine rd_ClX ?_
    walk_at "rd"
    intro u8 hu8
    replace st := st.tup hu8 (.cons (.int (0 - ed)) .nil)
    walk_at "rd"
    intro v8 hv8
    replace st := st.tup hv8 (.cons (st.here (v := .ref u8) (d := .tuple [.int (0 - ed)]) (by walk_at "mem")) .nil)
    walk_at "rd"
    refine ⟨.ref v8, rfl, Or.inr (Or.inr ⟨0 - ed, (st.get (v := .ref v8) (d := dTab [[0 - ed]]) (by walk_at "mem")), nebd, by omega, fun _ J8 s8 => ?_⟩)⟩
    replace st := st.same s8
    walk_at "rd"
    intro p1_8 hp1_8
    have hl8 := st.words (l := l7) (zs := ["fine", "fine", "fine", "fine", "fine", "fine", "fine"]) (by walk_at "mem")
    replace st := st.same (same_new (u := .lst [.str "fine"]) hp1_8)
    walk_at "rd"
    refine ⟨l7, p1_8, _, _, rfl, rfl, up_old hp1_8 hl8, upd_same, Nat.le_trans (Nat.le_of_ble_eq_true rfl) (show 30 ≤ sizeLine by decide), fun l8 hl2_8 => ?_⟩
    replace st := st.lst hl2_8 (any_strs _ ["fine", "fine", "fine", "fine", "fine", "fine", "fine", "fine"])
    walk_at "rd"
    -- 9
    refine ⟨st.tabs, fun G9 x9 t9 => ?_⟩
    replace st := st.ext x9 t9
    refine rd_word ?_
    refine rd_ClX ?_
    walk_at "rd"
    intro u9 hu9
    replace st := st.tup hu9 .nil
    walk_at "rd"
    refine ⟨.ref u9, .int 28, rfl, Or.inr (Or.inr (Or.inr ⟨u9, 0, List.replicate 28 0, rfl, rfl, Or.inr ⟨upd_same, Nat.le_of_ble_eq_true rfl, Nat.le_of_ble_eq_true rfl, fun x hx => List.eq_of_mem_replicate hx⟩, fun _ J9 s9 => ?_⟩))⟩
    replace st := st.same s9
    walk_at "rd"
    intro p1_9 hp1_9
    have hl9 := st.words (l := l8) (zs := ["fine", "fine", "fine", "fine", "fine", "fine", "fine", "fine"]) (by walk_at "mem")
    replace st := st.same (same_new (u := .lst [.str "fine"]) hp1_9)
    walk_at "rd"
    refine ⟨l8, p1_9, _, _, rfl, rfl, up_old hp1_9 hl9, upd_same, Nat.le_trans (Nat.le_of_ble_eq_true rfl) (show 30 ≤ sizeLine by decide), fun l9 hl2_9 => ?_⟩
    replace st := st.lst hl2_9 (any_strs _ ["fine", "fine", "fine", "fine", "fine", "fine", "fine", "fine", "fine"])
    walk_at "rd"
    have hw9 := st.words (l := l9) (zs := ["fine", "fine", "fine", "fine", "fine", "fine", "fine", "fine", "fine"]) (by walk_at "mem")
    intro r60 hr60
    replace st := st.same (same_new (u := .lst [.str "fine"]) hr60)
    replace hw9 := up_old (u := .lst [.str "fine"]) hr60 hw9
    walk_at "rd"
    refine ⟨r60, 9, _, rfl, rfl, upd_same, by decide, by decide, Nat.le_trans (Nat.le_of_ble_eq_true rfl) (show 30 ≤ sizeLine by decide), fun r61 hr61 => ?_⟩
    replace st := st.same (same_new (u := .lst (List.replicate (Int.toNat 9) [V.str "fine"]).flatten) hr61)
    replace hw9 := up_old (u := .lst (List.replicate (Int.toNat 9) [V.str "fine"]).flatten) hr61 hw9
    have nine : ∀ (l : Addr) (H' : Hp), H' l = some (.lst (List.replicate 9 (V.str "fine"))) → Dp K H' (.ref l) (.list (List.replicate 9 (.str "fine"))) := fun l H' h => .lst (SqL.of h) (.cons (.str _) (.cons (.str _) (.cons (.str _) (.cons (.str _) (.cons (.str _) (.cons (.str _) (.cons (.str _) (.cons (.str _) (.cons (.str _) .nil)))))))))
    walk_at "rd"
    refine rd_eqD (nine _ _ hw9) (nine r61 _ upd_same) (by decide +kernel) (by decide +kernel) ?_
    rw [show PyData.eqv (.list (List.replicate 9 (.str "fine"))) (.list (List.replicate 9 (.str "fine"))) = true by decide +kernel]
    walk_at "rd"
    refine rd_ClX ?_
    walk_at "rd"
    intro t70 ht70
    replace st := st.same (same_new (u := .tup [.int ed, .int (0 - ed)]) ht70)
    walk_at "rd"
    refine ⟨.ref t70, rfl, Or.inr ⟨t70, [ed, 0 - ed], rfl, upd_same, (show 1 ≤ 2 by decide), (show 2 ≤ 28 by decide), fitE.bd, fun q8 J70 s70 hq8 => ?_⟩⟩
    replace st := st.same s70
    rw [dvd_edge (by omega)] at hq8
    walk_at "rd"
    intro t71 ht71
    replace st := st.same (same_new (u := .tup [.int 1, .int (-1)]) ht71)
    walk_at "rd"
    refine rd_eqD (d := .tuple [.int 1, .int (-1)]) (e := .tuple [.int 1, .int (-1)]) (.tup (SqT.of (up_old ht71 hq8)) (dp_ints [1, -1])) (.tup (SqT.of upd_same) (dp_ints [1, -1])) (by decide +kernel) (by decide +kernel) ?_
    rw [show PyData.eqv (.tuple [.int 1, .int (-1)]) (.tuple [.int 1, .int (-1)]) = true by decide +kernel]
    exact k _ (but0.trans st.but) st.bag st.tabs
end
section
variable {P : Program} {w : World} {K : PySem.W.Frag} {mg : Str → Option Value} {base : Heap}
theorem oklaw {T : List (Addr × Str)} {f : Addr} {fd : FuncData} (B : Bi mg) (F : Fun K "law" "law" slaw f fd) (c_law_bag : Cal P w K mg base "_law_bag" 1 ["_law_script", "_law_at"] (spBag K)) (c_law_bounds_let : Cal P w K mg base "_law_bounds_let" 34 ["_law_bag_here"] (spRefused T)) (c_law_others_refused : Cal P w K mg base "_law_others_refused" 34 ["_law_bag_here"] (spRefused T)) (c_law_rows_refused : Cal P w K mg base "_law_rows_refused" 34 ["_law_bag_here"] (spRefused T)) : FnQ P w K mg base 35 f fd ["_law_script"] (spLaw K T) := by
  refine quiet_def F sclaw (fun vs H Q E h => ?_) (fun cdv A outer s H vs Q E hq hr h => ?_)
  · obtain ⟨a, ns, rfl, _⟩ := h; rfl
  · have hu := hr.units
    replace hq := Quiet.deeper hq (envOfC "law" (defScope slaw) s.heap.objs.size f cdv)
    have hr_law_bag := hr.mono (show 1 ≤ 34 by decide)
    have hr_law_bounds_let := hr.mono (show 34 ≤ 34 by decide)
    have hr_law_others_refused := hr.mono (show 34 ≤ 34 by decide)
    have hr_law_rows_refused := hr.mono (show 34 ≤ 34 by decide)
    obtain ⟨t_MAX_ROWS, k_MAX_ROWS⟩ := B.c_MAX_ROWS
    obtain ⟨t_MAX_WIDTH, k_MAX_WIDTH⟩ := B.c_MAX_WIDTH
    skip
    refine ⟨_, (pss_cons (ps_for PassesOwn.never (by rfl) (pi_range1 (by rfl) B.b_range (pa_cons (pe_callB (q_max2 rfl) (by rfl) B.b_max (by decide +kernel) (pa_cons pe_int (pa_cons (pe_callB (q_min2 rfl) (by rfl) B.b_min (by decide +kernel) (pa_cons pe_int (pa_cons (pe_callB (r := rLenQ K) (by exact q_lenQ) (by rfl) B.b_len (by decide +kernel) (pa_cons (pv 0) pa_nil)) pa_nil))) pa_nil))) pa_nil)) (pg_name (i := 1) sclaw.nd rfl (by first | exact Or.inl rfl | exact Or.inr rfl)) (pss_cons (ps_set (i := 2) sclaw.nd rfl (by first | exact Or.inl rfl | exact Or.inr rfl) (qc c_law_bag hq hr_law_bag (by rfl) (pa_cons (pv 0) (pa_cons (pv 1) pa_nil))))
        (pss_cons (ps_for PassesOwn.never (by rfl) (pi_range1 (by rfl) B.b_range (pa_cons pe_int pa_nil)) (pg_name (i := 3) sclaw.nd rfl (by first | exact Or.inl rfl | exact Or.inr rfl)) (pss_one (ps_if (PW.pt (pw_or (pt_not (pt_val (qc c_law_rows_refused hq hr_law_rows_refused (by rfl) (pa_cons (pv 2) pa_nil)))) (pw_or1 (pt_not (pt_val (qc c_law_others_refused hq hr_law_others_refused (by rfl) (pa_cons (pv 2) pa_nil))))))) (pss_one (ps_ret pe_bl)) pss_nil)))
        (pss_one (ps_if (pt_not (pt_val (qc c_law_bounds_let hq hr_law_bounds_let (by rfl) (pa_cons (pv 2) pa_nil)))) (pss_one (ps_ret pe_bl)) pss_nil)))))
        (pss_one (ps_ret (pe_cmpR (r := rEqD K) (by exact (op_eqD hu)) (pe_lst (pa_cons (pe_glob (v := .int 60) (by rfl) k_MAX_ROWS ⟨_, rfl⟩) (pa_cons (pe_glob (v := .int 28) (by rfl) k_MAX_WIDTH ⟨_, rfl⟩) pa_nil))) (pe_lst (pa_cons pe_int (pa_cons pe_int pa_nil))) (nomark _))))), ?_⟩
    obtain ⟨a, ns, rfl, hS, hl, hT, k⟩ := h
    refine rd_at [some (.ref a), none, none, none] rfl ?_
    walk_at "rd"
    refine rd_lenL hS ?_
    walk_at "rd"
    generalize hm : (if (if ((ns.map V.int).length : Int) < 3 then ((ns.map V.int).length : Int) else 3) > 1 then (if ((ns.map V.int).length : Int) < 3 then ((ns.map V.int).length : Int) else 3) else 1) = m
    have m1 : 1 ≤ m ∧ m ≤ 3 := by
      rw [← hm]
      split <;> split <;> omega
    refine ⟨m, rfl, by omega, by omega, ?_⟩
    refine for_rng (fun _ σ' H' => ∃ v1 v2 v3, σ' = [some (.ref a), v1, v2, v3] ∧ SqL K H' a (ns.map V.int) ∧ LamX.Tabs T H') ⟨none, none, none, rfl, hS, hT⟩ ?_ ?_
    · rintro i _ H1 hi ⟨v1, v2, v3, rfl, hS1, hT1⟩
      walk_at "rd"
      refine ⟨a, ns, i, by rw [Int.zero_add], hS1, fun p H2 hp hsame hb => ?_⟩
      walk_at "rd"
      refine ⟨2, rfl, by decide, by decide, ?_⟩
      refine for_rng (n := 2) (fun _ σ' H' => ∃ v3, σ' = [some (.ref a), some (.int (0 + i)), some (.ref p), v3] ∧ ButN p H2 H' ∧ BagAt H' p ∧ LamX.Tabs T H') ⟨v3, rfl, .refl _ _, hb, hT1.ext (fun b o e => hsame b o e)⟩ ?_ ?_
      · rintro j _ H3 hj ⟨v3, rfl, b3, hb3, hT3⟩
        walk_at "rd"
        refine ⟨p, rfl, hb3, hT3, fun H4 b4 hb4 hT4 => ?_⟩
        walk_at "rd"
        refine rd_ifb (fun z => nomatch z) (fun _ => ?_)
        walk_at "rd"
        refine ⟨p, rfl, hb4, hT4, fun H5 b5 hb5 hT5 => ?_⟩
        walk_at "rd"
        refine rd_ifb (fun z => nomatch z) (fun _ => ?_)
        walk_at "rd"
        exact ⟨_, rfl, (b3.trans b4).trans b5, hb5, hT5⟩
      · rintro _ H3 ⟨v3, rfl, b3, hb3, hT3⟩
        walk_at "rd"
        refine ⟨p, rfl, hb3, hT3, fun H4 b4 hb4 hT4 => ?_⟩
        walk_at "rd"
        refine rd_ifb (fun z => nomatch z) (fun _ => ?_)
        walk_at "rd"
        exact ⟨_, _, _, rfl, sq_keptN hp hsame (b3.trans b4) hS1, hT4⟩
    rintro _ H1 ⟨v1, v2, v3, rfl, hS1, hT1⟩
    walk_at "rd"
    intro t1 ht1
    walk_at "rd"
    intro t2 ht2
    refine rd_eqD (d := .list [.int 60, .int 28]) (e := .list [.int 60, .int 28]) (.lst (SqL.of (up_old ht2 upd_same)) (dp_ints [60, 28])) (.lst (SqL.of upd_same) (dp_ints [60, 28])) (by decide +kernel) (by decide +kernel) ?_
    rw [show PyData.eqv (.list [.int 60, .int 28]) (.list [.int 60, .int 28]) = true by decide +kernel]
    exact k _
end
end K05
namespace K05
open PySem PySem.Spec PyProof.Rows L2 Lay

abbrev si12 : Stmt := inClass (top 34) 0
theorem sci12 : FnScope ["self", "given"] ["self", "given"] (defScope si12) := ⟨rfl, rfl, rfl, by decide +kernel, rfl, by decide +kernel, by decide +kernel⟩
theorem oki12 {P : Program} {w : World} {K : PySem.W.Frag} {mg : Str → Option Value} {base : Heap} {f : Addr} {fd : FuncData} (F : Fun K "__init__" "InvalidNumber.__init__" si12 f fd) : FnOk P w K mg base CX0 1 f fd ["self", "given"] (spIni K "IndexError" "IndexError.__new__" "given") := by
  refine F.ok sci12 (fun vs H Q E h => ?_) (fun cdv A outer s H vs Q E hr h => ?_)
  · obtain ⟨a, C, v, rfl, _⟩ := h
    rfl
  · obtain ⟨a, C, v, rfl, T, no, ea, k⟩ := h
    exact ⟨_, pss_one (ps_set1 (B := "IndexError") (newId := "IndexError.__new__") (pv 0) (pv 1)), _, rfl, _, rfl, a, C, rfl, T, no, ea, fun dx n ne => k dx n ne⟩
set_option maxHeartbeats 0 in
theorem all_mk {l : PySem.W.OpenLaw} {w : World} {K : PySem.W.Frag} {h : Heap} {mg : Str → Option Value} {fa CO CN g12 c1 c2 c3 P1 P2 P3 f0 f1 f2 f3 f4 f5 f6 f7 f8 f9 f10 f11 f12 f13 f14 f15 f16 f17 f18 f19 f20 f21 f22 f23 f24 f25 f26 f27 f28 f29 f30 f31 f32 f33 f34 f35 f36 f37 f38 f39 f40 f41 f42 f43 f44 f45 f46 f47 f48 f49 : Addr} (X : K.In h) (G : h.Ns mainGlobals mg) (hfa : mg "law" = some (.ref fa))
    {od0 an0 od1 an1 od2 an2 od3 an3 od4 an4 od5 an5 od6 an6 od7 an7 od8 an8 od9 an9 od10 an10 od11 an11 od12 an12 od13 an13 od14 an14 od15 an15 od16 an16 od17 an17 od18 an18 od19 an19 od20 an20 od21 an21 od22 an22 od23 an23 od24 an24 od25 an25 od26 an26 od27 an27 od28 an28 od29 an29 od30 an30 od31 an31 od32 an32 od33 an33 od34 an34 od35 an35 od36 an36 od37 an37 od38 an38 od39 an39 od40 an40 od41 an41 od42 an42 od43 an43 od44 an44 od45 an45 od46 an46 od47 an47 od48 an48 od49 an49 : Option Addr} {sl0 sl1 sl2 sl3 sl4 sl5 sl6 sl7 sl8 sl9 sl10 sl11 sl12 sl13 sl14 sl15 sl16 sl17 sl18 sl19 sl20 sl21 sl22 sl23 sl24 sl25 sl26 sl27 sl28 sl29 sl30 sl31 sl32 sl33 sl34 sl35 sl36 sl37 sl38 sl39 sl40 sl41 sl42 sl43 sl44 sl45 sl46 sl47 sl48 sl49 : Array (Option Value)} {oc0 kV0 dc0 pm0 ct0 cd0 oc1 kV1 dc1 pm1 ct1 cd1 oc2 kV2 dc2 pm2 ct2 cd2 oc3 kV3 dc3 pm3 ct3 cd3 oc4 kV4 dc4 pm4 ct4 cd4 oc5 kV5 dc5 pm5 ct5 cd5 oc6 kV6 dc6 pm6 ct6 cd6 oc7 kV7 dc7 pm7 ct7 cd7 oc8 kV8 dc8 pm8 ct8 cd8 oc9 kV9 dc9 pm9 ct9 cd9 oc10 kV10 dc10 pm10 ct10 cd10 oc11 kV11 dc11 pm11 ct11 cd11 oc12 kV12 dc12 pm12 ct12 cd12 oc13 kV13 dc13 pm13 ct13 cd13 oc14 kV14 dc14 pm14 ct14 cd14 oc15 kV15 dc15 pm15 ct15 cd15 oc16 kV16 dc16 pm16 ct16 cd16 oc17 kV17 dc17 pm17 ct17 cd17 oc18 kV18 dc18 pm18 ct18 cd18 oc19 kV19 dc19 pm19 ct19 cd19 oc20 kV20 dc20 pm20 ct20 cd20 oc21 kV21 dc21 pm21 ct21 cd21 oc22 kV22 dc22 pm22 ct22 cd22 oc23 kV23 dc23 pm23 ct23 cd23 oc24 kV24 dc24 pm24 ct24 cd24 oc25 kV25 dc25 pm25 ct25 cd25 oc26 kV26 dc26 pm26 ct26 cd26 oc27 kV27 dc27 pm27 ct27 cd27 oc28 kV28 dc28 pm28 ct28 cd28 oc29 kV29 dc29 pm29 ct29 cd29 oc30 kV30 dc30 pm30 ct30 cd30 oc31 kV31 dc31 pm31 ct31 cd31 oc32 kV32 dc32 pm32 ct32 cd32 oc33 kV33 dc33 pm33 ct33 cd33 oc34 kV34 dc34 pm34 ct34 cd34 oc35 kV35 dc35 pm35 ct35 cd35 oc36 kV36 dc36 pm36 ct36 cd36 oc37 kV37 dc37 pm37 ct37 cd37 oc38 kV38 dc38 pm38 ct38 cd38 oc39 kV39 dc39 pm39 ct39 cd39 oc40 kV40 dc40 pm40 ct40 cd40 oc41 kV41 dc41 pm41 ct41 cd41 oc42 kV42 dc42 pm42 ct42 cd42 oc43 kV43 dc43 pm43 ct43 cd43 oc44 kV44 dc44 pm44 ct44 cd44 oc45 kV45 dc45 pm45 ct45 oc46 kV46 dc46 pm46 ct46 oc47 kV47 dc47 pm47 ct47 oc48 kV48 dc48 pm48 ct48 cd48 oc49 kV49 dc49 pm49 ct49 cd49 : Value}
    {hod han qd1 qd2 qd3 : Option Addr} {hsl qs1 qs2 qs3 : Array (Option Value)} {hoc hkV hdc hpm hcd hct : Value} {vs1 vs2 vs3 : Array Value} {nm qn : Str} {NN : Addr} {bs su : List Value} {sn : List Str} {ab : Bool} {co : Option Bool} {dd : Option Addr} {x0 x1 x2 x3 x5 : Option Value}
    (a0 : PySem.W.nsIn K mainGlobals "divided" = some (some (.ref f0)))
    (l0 : K.lookup f0 = some ⟨oc0, od0, .func (PySem.W.fnOf "divided" "divided" (defArgs sdivided) (defBody sdivided) (defScope sdivided) .none kV0 dc0 pm0 an0 cd0 ct0), sl0⟩)
    (c_0 : PySem.W.codeIn K cd0 "divided" = true)
    (k0 : PySem.W.keepIn K (.ref f0) = true)
    (a1 : PySem.W.nsIn K mainGlobals "_unlike" = some (some (.ref f1)))
    (l1 : K.lookup f1 = some ⟨oc1, od1, .func (PySem.W.fnOf "_unlike" "_unlike" (defArgs s_unlike) (defBody s_unlike) (defScope s_unlike) .none kV1 dc1 pm1 an1 cd1 ct1), sl1⟩)
    (c_1 : PySem.W.codeIn K cd1 "_unlike" = true)
    (k1 : PySem.W.keepIn K (.ref f1) = true)
    (a2 : PySem.W.nsIn K mainGlobals "_adds_lead" = some (some (.ref f2)))
    (l2 : K.lookup f2 = some ⟨oc2, od2, .func (PySem.W.fnOf "_adds_lead" "_adds_lead" (defArgs s_adds_lead) (defBody s_adds_lead) (defScope s_adds_lead) .none kV2 dc2 pm2 an2 cd2 ct2), sl2⟩)
    (c_2 : PySem.W.codeIn K cd2 "_adds_lead" = true)
    (k2 : PySem.W.keepIn K (.ref f2) = true)
    (a3 : PySem.W.nsIn K mainGlobals "_row_with" = some (some (.ref f3)))
    (l3 : K.lookup f3 = some ⟨oc3, od3, .func (PySem.W.fnOf "_row_with" "_row_with" (defArgs s_row_with) (defBody s_row_with) (defScope s_row_with) .none kV3 dc3 pm3 an3 cd3 ct3), sl3⟩)
    (c_3 : PySem.W.codeIn K cd3 "_row_with" = true)
    (k3 : PySem.W.keepIn K (.ref f3) = true)
    (a4 : PySem.W.nsIn K mainGlobals "_swap" = some (some (.ref f4)))
    (l4 : K.lookup f4 = some ⟨oc4, od4, .func (PySem.W.fnOf "_swap" "_swap" (defArgs s_swap) (defBody s_swap) (defScope s_swap) .none kV4 dc4 pm4 an4 cd4 ct4), sl4⟩)
    (c_4 : PySem.W.codeIn K cd4 "_swap" = true)
    (k4 : PySem.W.keepIn K (.ref f4) = true)
    (a5 : PySem.W.nsIn K mainGlobals "_combined" = some (some (.ref f5)))
    (l5 : K.lookup f5 = some ⟨oc5, od5, .func (PySem.W.fnOf "_combined" "_combined" (defArgs s_combined) (defBody s_combined) (defScope s_combined) .none kV5 dc5 pm5 an5 cd5 ct5), sl5⟩)
    (c_5 : PySem.W.codeIn K cd5 "_combined" = true)
    (k5 : PySem.W.keepIn K (.ref f5) = true)
    (a6 : PySem.W.nsIn K mainGlobals "_are_small" = some (some (.ref f6)))
    (l6 : K.lookup f6 = some ⟨oc6, od6, .func (PySem.W.fnOf "_are_small" "_are_small" (defArgs s_are_small) (defBody s_are_small) (defScope s_are_small) .none kV6 dc6 pm6 an6 cd6 ct6), sl6⟩)
    (c_6 : PySem.W.codeIn K cd6 "_are_small" = true)
    (k6 : PySem.W.keepIn K (.ref f6) = true)
    (a7 : PySem.W.nsIn K mainGlobals "_is_sum_within" = some (some (.ref f7)))
    (l7 : K.lookup f7 = some ⟨oc7, od7, .func (PySem.W.fnOf "_is_sum_within" "_is_sum_within" (defArgs s_is_sum_within) (defBody s_is_sum_within) (defScope s_is_sum_within) .none kV7 dc7 pm7 an7 cd7 ct7), sl7⟩)
    (c_7 : PySem.W.codeIn K cd7 "_is_sum_within" = true)
    (k7 : PySem.W.keepIn K (.ref f7) = true)
    (a8 : PySem.W.nsIn K mainGlobals "_kernel_row" = some (some (.ref f8)))
    (l8 : K.lookup f8 = some ⟨oc8, od8, .func (PySem.W.fnOf "_kernel_row" "_kernel_row" (defArgs s_kernel_row) (defBody s_kernel_row) (defScope s_kernel_row) .none kV8 dc8 pm8 an8 cd8 ct8), sl8⟩)
    (c_8 : PySem.W.codeIn K cd8 "_kernel_row" = true)
    (k8 : PySem.W.keepIn K (.ref f8) = true)
    (a9 : PySem.W.nsIn K mainGlobals "_least_longer" = some (some (.ref f9)))
    (l9 : K.lookup f9 = some ⟨oc9, od9, .func (PySem.W.fnOf "_least_longer" "_least_longer" (defArgs s_least_longer) (defBody s_least_longer) (defScope s_least_longer) .none kV9 dc9 pm9 an9 cd9 ct9), sl9⟩)
    (c_9 : PySem.W.codeIn K cd9 "_least_longer" = true)
    (k9 : PySem.W.keepIn K (.ref f9) = true)
    (a10 : PySem.W.nsIn K mainGlobals "_width_of" = some (some (.ref f10)))
    (l10 : K.lookup f10 = some ⟨oc10, od10, .func (PySem.W.fnOf "_width_of" "_width_of" (defArgs s_width_of) (defBody s_width_of) (defScope s_width_of) .none kV10 dc10 pm10 an10 cd10 ct10), sl10⟩)
    (c_10 : PySem.W.codeIn K cd10 "_width_of" = true)
    (k10 : PySem.W.keepIn K (.ref f10) = true)
    (a11 : PySem.W.nsIn K mainGlobals "_is_symmetric" = some (some (.ref f11)))
    (l11 : K.lookup f11 = some ⟨oc11, od11, .func (PySem.W.fnOf "_is_symmetric" "_is_symmetric" (defArgs s_is_symmetric) (defBody s_is_symmetric) (defScope s_is_symmetric) .none kV11 dc11 pm11 an11 cd11 ct11), sl11⟩)
    (c_11 : PySem.W.codeIn K cd11 "_is_symmetric" = true)
    (k11 : PySem.W.keepIn K (.ref f11) = true)
    (a12 : PySem.W.nsIn K mainGlobals "_least_solution" = some (some (.ref f12)))
    (l12 : K.lookup f12 = some ⟨oc12, od12, .func (PySem.W.fnOf "_least_solution" "_least_solution" (defArgs s_least_solution) (defBody s_least_solution) (defScope s_least_solution) .none kV12 dc12 pm12 an12 cd12 ct12), sl12⟩)
    (c_12 : PySem.W.codeIn K cd12 "_least_solution" = true)
    (k12 : PySem.W.keepIn K (.ref f12) = true)
    (a13 : PySem.W.nsIn K mainGlobals "_law_bag" = some (some (.ref f13)))
    (l13 : K.lookup f13 = some ⟨oc13, od13, .func (PySem.W.fnOf "_law_bag" "_law_bag" (defArgs s_law_bag) (defBody s_law_bag) (defScope s_law_bag) .none kV13 dc13 pm13 an13 cd13 ct13), sl13⟩)
    (c_13 : PySem.W.codeIn K cd13 "_law_bag" = true)
    (k13 : PySem.W.keepIn K (.ref f13) = true)
    (a14 : PySem.W.nsIn K mainGlobals "_law_draw" = some (some (.ref f14)))
    (l14 : K.lookup f14 = some ⟨oc14, od14, .func (PySem.W.fnOf "_law_draw" "_law_draw" (defArgs s_law_draw) (defBody s_law_draw) (defScope s_law_draw) .none kV14 dc14 pm14 an14 cd14 ct14), sl14⟩)
    (c_14 : PySem.W.codeIn K cd14 "_law_draw" = true)
    (k14 : PySem.W.keepIn K (.ref f14) = true)
    (a15 : PySem.W.nsIn K mainGlobals "_law_great" = some (some (.ref f15)))
    (l15 : K.lookup f15 = some ⟨oc15, od15, .func (PySem.W.fnOf "_law_great" "_law_great" (defArgs s_law_great) (defBody s_law_great) (defScope s_law_great) .none kV15 dc15 pm15 an15 cd15 ct15), sl15⟩)
    (c_15 : PySem.W.codeIn K cd15 "_law_great" = true)
    (k15 : PySem.W.keepIn K (.ref f15) = true)
    (a16 : PySem.W.nsIn K mainGlobals "_take_by_residues" = some (some (.ref f16)))
    (l16 : K.lookup f16 = some ⟨oc16, od16, .func (PySem.W.fnOf "_take_by_residues" "_take_by_residues" (defArgs s_take_by_residues) (defBody s_take_by_residues) (defScope s_take_by_residues) .none kV16 dc16 pm16 an16 cd16 ct16), sl16⟩)
    (c_16 : PySem.W.codeIn K cd16 "_take_by_residues" = true)
    (k16 : PySem.W.keepIn K (.ref f16) = true)
    (a17 : PySem.W.nsIn K mainGlobals "_clear_others" = some (some (.ref f17)))
    (l17 : K.lookup f17 = some ⟨oc17, od17, .func (PySem.W.fnOf "_clear_others" "_clear_others" (defArgs s_clear_others) (defBody s_clear_others) (defScope s_clear_others) .none kV17 dc17 pm17 an17 cd17 ct17), sl17⟩)
    (c_17 : PySem.W.codeIn K cd17 "_clear_others" = true)
    (k17 : PySem.W.keepIn K (.ref f17) = true)
    (a18 : PySem.W.nsIn K mainGlobals "_index_outside" = some (some (.ref f18)))
    (l18 : K.lookup f18 = some ⟨oc18, od18, .func (PySem.W.fnOf "_index_outside" "_index_outside" (defArgs s_index_outside) (defBody s_index_outside) (defScope s_index_outside) .none kV18 dc18 pm18 an18 cd18 ct18), sl18⟩)
    (c_18 : PySem.W.codeIn K cd18 "_index_outside" = true)
    (k18 : PySem.W.keepIn K (.ref f18) = true)
    (a19 : PySem.W.nsIn K mainGlobals "determinant_of" = some (some (.ref f19)))
    (l19 : K.lookup f19 = some ⟨oc19, od19, .func (PySem.W.fnOf "determinant_of" "determinant_of" (defArgs sdeterminant_of) (defBody sdeterminant_of) (defScope sdeterminant_of) .none kV19 dc19 pm19 an19 cd19 ct19), sl19⟩)
    (c_19 : PySem.W.codeIn K cd19 "determinant_of" = true)
    (k19 : PySem.W.keepIn K (.ref f19) = true)
    (a20 : PySem.W.nsIn K mainGlobals "_without_square" = some (some (.ref f20)))
    (l20 : K.lookup f20 = some ⟨oc20, od20, .func (PySem.W.fnOf "_without_square" "_without_square" (defArgs s_without_square) (defBody s_without_square) (defScope s_without_square) .none kV20 dc20 pm20 an20 cd20 ct20), sl20⟩)
    (c_20 : PySem.W.codeIn K cd20 "_without_square" = true)
    (k20 : PySem.W.keepIn K (.ref f20) = true)
    (a21 : PySem.W.nsIn K mainGlobals "has_digits" = some (some (.ref f21)))
    (l21 : K.lookup f21 = some ⟨oc21, od21, .func (PySem.W.fnOf "has_digits" "has_digits" (defArgs shas_digits) (defBody shas_digits) (defScope shas_digits) .none kV21 dc21 pm21 an21 cd21 ct21), sl21⟩)
    (c_21 : PySem.W.codeIn K cd21 "has_digits" = true)
    (k21 : PySem.W.keepIn K (.ref f21) = true)
    (a22 : PySem.W.nsIn K mainGlobals "_law_one_of" = some (some (.ref f22)))
    (l22 : K.lookup f22 = some ⟨oc22, od22, .func (PySem.W.fnOf "_law_one_of" "_law_one_of" (defArgs s_law_one_of) (defBody s_law_one_of) (defScope s_law_one_of) .none kV22 dc22 pm22 an22 cd22 ct22), sl22⟩)
    (c_22 : PySem.W.codeIn K cd22 "_law_one_of" = true)
    (k22 : PySem.W.keepIn K (.ref f22) = true)
    (a23 : PySem.W.nsIn K mainGlobals "_reduced_alone" = some (some (.ref f23)))
    (l23 : K.lookup f23 = some ⟨oc23, od23, .func (PySem.W.fnOf "_reduced_alone" "_reduced_alone" (defArgs s_reduced_alone) (defBody s_reduced_alone) (defScope s_reduced_alone) .none kV23 dc23 pm23 an23 cd23 ct23), sl23⟩)
    (c_23 : PySem.W.codeIn K cd23 "_reduced_alone" = true)
    (k23 : PySem.W.keepIn K (.ref f23) = true)
    (a24 : PySem.W.nsIn K mainGlobals "is_sum_of_squares" = some (some (.ref f24)))
    (l24 : K.lookup f24 = some ⟨oc24, od24, .func (PySem.W.fnOf "is_sum_of_squares" "is_sum_of_squares" (defArgs sis_sum_of_squares) (defBody sis_sum_of_squares) (defScope sis_sum_of_squares) .none kV24 dc24 pm24 an24 cd24 ct24), sl24⟩)
    (c_24 : PySem.W.codeIn K cd24 "is_sum_of_squares" = true)
    (k24 : PySem.W.keepIn K (.ref f24) = true)
    (a25 : PySem.W.nsIn K mainGlobals "is_integer" = some (some (.ref f25)))
    (l25 : K.lookup f25 = some ⟨oc25, od25, .func (PySem.W.fnOf "is_integer" "is_integer" (defArgs sis_integer) (defBody sis_integer) (defScope sis_integer) .none kV25 dc25 pm25 an25 cd25 ct25), sl25⟩)
    (c_25 : PySem.W.codeIn K cd25 "is_integer" = true)
    (k25 : PySem.W.keepIn K (.ref f25) = true)
    (a26 : PySem.W.nsIn K mainGlobals "_law_bad_rows" = some (some (.ref f26)))
    (l26 : K.lookup f26 = some ⟨oc26, od26, .func (PySem.W.fnOf "_law_bad_rows" "_law_bad_rows" (defArgs s_law_bad_rows) (defBody s_law_bad_rows) (defScope s_law_bad_rows) .none kV26 dc26 pm26 an26 cd26 ct26), sl26⟩)
    (c_26 : PySem.W.codeIn K cd26 "_law_bad_rows" = true)
    (k26 : PySem.W.keepIn K (.ref f26) = true)
    (a27 : PySem.W.nsIn K mainGlobals "_law_bad_row" = some (some (.ref f27)))
    (l27 : K.lookup f27 = some ⟨oc27, od27, .func (PySem.W.fnOf "_law_bad_row" "_law_bad_row" (defArgs s_law_bad_row) (defBody s_law_bad_row) (defScope s_law_bad_row) .none kV27 dc27 pm27 an27 cd27 ct27), sl27⟩)
    (c_27 : PySem.W.codeIn K cd27 "_law_bad_row" = true)
    (k27 : PySem.W.keepIn K (.ref f27) = true)
    (a28 : PySem.W.nsIn K mainGlobals "_searched" = some (some (.ref f28)))
    (l28 : K.lookup f28 = some ⟨oc28, od28, .func (PySem.W.fnOf "_searched" "_searched" (defArgs s_searched) (defBody s_searched) (defScope s_searched) .none kV28 dc28 pm28 an28 cd28 ct28), sl28⟩)
    (c_28 : PySem.W.codeIn K cd28 "_searched" = true)
    (k28 : PySem.W.keepIn K (.ref f28) = true)
    (a29 : PySem.W.nsIn K mainGlobals "are_integers" = some (some (.ref f29)))
    (l29 : K.lookup f29 = some ⟨oc29, od29, .func (PySem.W.fnOf "are_integers" "are_integers" (defArgs sare_integers) (defBody sare_integers) (defScope sare_integers) .none kV29 dc29 pm29 an29 cd29 ct29), sl29⟩)
    (c_29 : PySem.W.codeIn K cd29 "are_integers" = true)
    (k29 : PySem.W.keepIn K (.ref f29) = true)
    (a30 : PySem.W.nsIn K mainGlobals "reduced" = some (some (.ref f30)))
    (l30 : K.lookup f30 = some ⟨oc30, od30, .func (PySem.W.fnOf "reduced" "reduced" (defArgs sreduced) (defBody sreduced) (defScope sreduced) .none kV30 dc30 pm30 an30 cd30 ct30), sl30⟩)
    (c_30 : PySem.W.codeIn K cd30 "reduced" = true)
    (k30 : PySem.W.keepIn K (.ref f30) = true)
    (a31 : PySem.W.nsIn K mainGlobals "rank_of" = some (some (.ref f31)))
    (l31 : K.lookup f31 = some ⟨oc31, od31, .func (PySem.W.fnOf "rank_of" "rank_of" (defArgs srank_of) (defBody srank_of) (defScope srank_of) .none kV31 dc31 pm31 an31 cd31 ct31), sl31⟩)
    (c_31 : PySem.W.codeIn K cd31 "rank_of" = true)
    (k31 : PySem.W.keepIn K (.ref f31) = true)
    (a32 : PySem.W.nsIn K mainGlobals "_is_row" = some (some (.ref f32)))
    (l32 : K.lookup f32 = some ⟨oc32, od32, .func (PySem.W.fnOf "_is_row" "_is_row" (defArgs s_is_row) (defBody s_is_row) (defScope s_is_row) .none kV32 dc32 pm32 an32 cd32 ct32), sl32⟩)
    (c_32 : PySem.W.codeIn K cd32 "_is_row" = true)
    (k32 : PySem.W.keepIn K (.ref f32) = true)
    (a33 : PySem.W.nsIn K mainGlobals "_are_aims" = some (some (.ref f33)))
    (l33 : K.lookup f33 = some ⟨oc33, od33, .func (PySem.W.fnOf "_are_aims" "_are_aims" (defArgs s_are_aims) (defBody s_are_aims) (defScope s_are_aims) .none kV33 dc33 pm33 an33 cd33 ct33), sl33⟩)
    (c_33 : PySem.W.codeIn K cd33 "_are_aims" = true)
    (k33 : PySem.W.keepIn K (.ref f33) = true)
    (a34 : PySem.W.nsIn K mainGlobals "kernel_of" = some (some (.ref f34)))
    (l34 : K.lookup f34 = some ⟨oc34, od34, .func (PySem.W.fnOf "kernel_of" "kernel_of" (defArgs skernel_of) (defBody skernel_of) (defScope skernel_of) .none kV34 dc34 pm34 an34 cd34 ct34), sl34⟩)
    (c_34 : PySem.W.codeIn K cd34 "kernel_of" = true)
    (k34 : PySem.W.keepIn K (.ref f34) = true)
    (a35 : PySem.W.nsIn K mainGlobals "cleared" = some (some (.ref f35)))
    (l35 : K.lookup f35 = some ⟨oc35, od35, .func (PySem.W.fnOf "cleared" "cleared" (defArgs scleared) (defBody scleared) (defScope scleared) .none kV35 dc35 pm35 an35 cd35 ct35), sl35⟩)
    (c_35 : PySem.W.codeIn K cd35 "cleared" = true)
    (k35 : PySem.W.keepIn K (.ref f35) = true)
    (a36 : PySem.W.nsIn K mainGlobals "_are_rows" = some (some (.ref f36)))
    (l36 : K.lookup f36 = some ⟨oc36, od36, .func (PySem.W.fnOf "_are_rows" "_are_rows" (defArgs s_are_rows) (defBody s_are_rows) (defScope s_are_rows) .none kV36 dc36 pm36 an36 cd36 ct36), sl36⟩)
    (c_36 : PySem.W.codeIn K cd36 "_are_rows" = true)
    (k36 : PySem.W.keepIn K (.ref f36) = true)
    (a37 : PySem.W.nsIn K mainGlobals "_check_rows" = some (some (.ref f37)))
    (l37 : K.lookup f37 = some ⟨oc37, od37, .func (PySem.W.fnOf "_check_rows" "_check_rows" (defArgs s_check_rows) (defBody s_check_rows) (defScope s_check_rows) .none kV37 dc37 pm37 an37 cd37 ct37), sl37⟩)
    (c_37 : PySem.W.codeIn K cd37 "_check_rows" = true)
    (k37 : PySem.W.keepIn K (.ref f37) = true)
    (a38 : PySem.W.nsIn K mainGlobals "_check_table" = some (some (.ref f38)))
    (l38 : K.lookup f38 = some ⟨oc38, od38, .func (PySem.W.fnOf "_check_table" "_check_table" (defArgs s_check_table) (defBody s_check_table) (defScope s_check_table) .none kV38 dc38 pm38 an38 cd38 ct38), sl38⟩)
    (c_38 : PySem.W.codeIn K cd38 "_check_table" = true)
    (k38 : PySem.W.keepIn K (.ref f38) = true)
    (a39 : PySem.W.nsIn K mainGlobals "rank" = some (some (.ref f39)))
    (l39 : K.lookup f39 = some ⟨oc39, od39, .func (PySem.W.fnOf "rank" "rank" (defArgs srank) (defBody srank) (defScope srank) .none kV39 dc39 pm39 an39 cd39 ct39), sl39⟩)
    (c_39 : PySem.W.codeIn K cd39 "rank" = true)
    (k39 : PySem.W.keepIn K (.ref f39) = true)
    (a40 : PySem.W.nsIn K mainGlobals "kernel" = some (some (.ref f40)))
    (l40 : K.lookup f40 = some ⟨oc40, od40, .func (PySem.W.fnOf "kernel" "kernel" (defArgs skernel) (defBody skernel) (defScope skernel) .none kV40 dc40 pm40 an40 cd40 ct40), sl40⟩)
    (c_40 : PySem.W.codeIn K cd40 "kernel" = true)
    (k40 : PySem.W.keepIn K (.ref f40) = true)
    (a41 : PySem.W.nsIn K mainGlobals "solution" = some (some (.ref f41)))
    (l41 : K.lookup f41 = some ⟨oc41, od41, .func (PySem.W.fnOf "solution" "solution" (defArgs ssolution) (defBody ssolution) (defScope ssolution) .none kV41 dc41 pm41 an41 cd41 ct41), sl41⟩)
    (c_41 : PySem.W.codeIn K cd41 "solution" = true)
    (k41 : PySem.W.keepIn K (.ref f41) = true)
    (a42 : PySem.W.nsIn K mainGlobals "determinant" = some (some (.ref f42)))
    (l42 : K.lookup f42 = some ⟨oc42, od42, .func (PySem.W.fnOf "determinant" "determinant" (defArgs sdeterminant) (defBody sdeterminant) (defScope sdeterminant) .none kV42 dc42 pm42 an42 cd42 ct42), sl42⟩)
    (c_42 : PySem.W.codeIn K cd42 "determinant" = true)
    (k42 : PySem.W.keepIn K (.ref f42) = true)
    (a43 : PySem.W.nsIn K mainGlobals "is_square_sum" = some (some (.ref f43)))
    (l43 : K.lookup f43 = some ⟨oc43, od43, .func (PySem.W.fnOf "is_square_sum" "is_square_sum" (defArgs sis_square_sum) (defBody sis_square_sum) (defScope sis_square_sum) .none kV43 dc43 pm43 an43 cd43 ct43), sl43⟩)
    (c_43 : PySem.W.codeIn K cd43 "is_square_sum" = true)
    (k43 : PySem.W.keepIn K (.ref f43) = true)
    (a44 : PySem.W.nsIn K mainGlobals "are_free" = some (some (.ref f44)))
    (l44 : K.lookup f44 = some ⟨oc44, od44, .func (PySem.W.fnOf "are_free" "are_free" (defArgs sare_free) (defBody sare_free) (defScope sare_free) .none kV44 dc44 pm44 an44 cd44 ct44), sl44⟩)
    (c_44 : PySem.W.codeIn K cd44 "are_free" = true)
    (k44 : PySem.W.keepIn K (.ref f44) = true)
    (a45 : PySem.W.nsIn K mainGlobals "_law_rows_refused" = some (some (.ref f45)))
    (l45 : K.lookup f45 = some ⟨oc45, od45, .func (PySem.W.fnOf "_law_rows_refused" "_law_rows_refused" (defArgs s_law_rows_refused) (defBody s_law_rows_refused) (defScope s_law_rows_refused) .none kV45 dc45 pm45 an45 (.ref c1) ct45), sl45⟩)
    (c_45 : PySem.W.codeIn K (.ref c1) "_law_rows_refused" = true)
    (k45 : PySem.W.keepIn K (.ref f45) = true)
    (a46 : PySem.W.nsIn K mainGlobals "_law_others_refused" = some (some (.ref f46)))
    (l46 : K.lookup f46 = some ⟨oc46, od46, .func (PySem.W.fnOf "_law_others_refused" "_law_others_refused" (defArgs s_law_others_refused) (defBody s_law_others_refused) (defScope s_law_others_refused) .none kV46 dc46 pm46 an46 (.ref c2) ct46), sl46⟩)
    (c_46 : PySem.W.codeIn K (.ref c2) "_law_others_refused" = true)
    (k46 : PySem.W.keepIn K (.ref f46) = true)
    (a47 : PySem.W.nsIn K mainGlobals "_law_bounds_let" = some (some (.ref f47)))
    (l47 : K.lookup f47 = some ⟨oc47, od47, .func (PySem.W.fnOf "_law_bounds_let" "_law_bounds_let" (defArgs s_law_bounds_let) (defBody s_law_bounds_let) (defScope s_law_bounds_let) .none kV47 dc47 pm47 an47 (.ref c3) ct47), sl47⟩)
    (c_47 : PySem.W.codeIn K (.ref c3) "_law_bounds_let" = true)
    (k47 : PySem.W.keepIn K (.ref f47) = true)
    (a48 : PySem.W.nsIn K mainGlobals "law" = some (some (.ref f48)))
    (l48 : K.lookup f48 = some ⟨oc48, od48, .func (PySem.W.fnOf "law" "law" (defArgs slaw) (defBody slaw) (defScope slaw) .none kV48 dc48 pm48 an48 cd48 ct48), sl48⟩)
    (c_48 : PySem.W.codeIn K cd48 "law" = true)
    (k48 : PySem.W.keepIn K (.ref f48) = true)
    (a49 : PySem.W.nsIn K mainGlobals "_law_word" = some (some (.ref f49)))
    (l49 : K.lookup f49 = some ⟨oc49, od49, .func (PySem.W.fnOf "_law_word" "_law_word" (defArgs s_law_word) (defBody s_law_word) (defScope s_law_word) .none kV49 dc49 pm49 an49 cd49 ct49), sl49⟩)
    (c_49 : PySem.W.codeIn K cd49 "_law_word" = true)
    (k49 : PySem.W.keepIn K (.ref f49) = true)
    (q1 : K.lookup c1 = some ⟨.type "code", qd1, .fields vs1, qs1⟩)
    (p1 : (vs1[11]? : Option Value) = some (.ref P1))
    (h1 : PySem.W.codeHdIn K c1 P1 = true)
    (t1 : h.get? P1 = some tabO)
    (o1 : K.lookup P1 = none)
    (q2 : K.lookup c2 = some ⟨.type "code", qd2, .fields vs2, qs2⟩)
    (p2 : (vs2[11]? : Option Value) = some (.ref P2))
    (h2 : PySem.W.codeHdIn K c2 P2 = true)
    (t2 : h.get? P2 = some tabO)
    (o2 : K.lookup P2 = none)
    (q3 : K.lookup c3 = some ⟨.type "code", qd3, .fields vs3, qs3⟩)
    (p3 : (vs3[11]? : Option Value) = some (.ref P3))
    (h3 : PySem.W.codeHdIn K c3 P3 = true)
    (t3 : h.get? P3 = some tabO)
    (o3 : K.lookup P3 = none)
    (d12 : P1 ≠ P2)
    (d13 : P1 ≠ P3)
    (d23 : P2 ≠ P3)
    (nO : PySem.W.nsIn K mainGlobals "InvalidOperation" = some (some (.ref CO)))
    (nN : PySem.W.nsIn K mainGlobals "InvalidNumber" = some (some (.ref CN)))
    (kO : PySem.W.keepIn K (.ref CO) = true)
    (kN : PySem.W.keepIn K (.ref CN) = true)
    (sO : PySem.W.subIn K (.ref CO) (.type "BaseException") = some true)
    (yO : PySem.W.typeIn K (.ref CO) = some (.type "type"))
    (sN : PySem.W.subIn K (.ref CN) (.type "BaseException") = some true)
    (yN : PySem.W.typeIn K (.ref CN) = some (.type "type"))
    (exO : PySem.W.excIn K CO [.type "ValueError", .type "Exception", .type "BaseException", .type "object"] "ValueError.__new__" = true)
    (xl : K.lookup CN = some (excClassObj nm qn CN NN bs [.type "IndexError", .type "LookupError", .type "Exception", .type "BaseException", .type "object"] true sn su ab co dd x0 x1 x2 x3 x5 "IndexError.__new__"))
    (sa : PySem.W.findIn K (.ref CN) "__setattr__" = some (some (.builtin "object.__setattr__")))
    (noN : PySem.W.findIn K (.ref CN) "given" = some none)
    (ic : PySem.W.findIn K (.ref CN) "__init__" = some (some (.ref g12)))
    (ti : PySem.W.typeIn K (.ref g12) = some (.type "function"))
    (il : K.lookup g12 = some ⟨hoc, hod, .func (PySem.W.fnOf "__init__" "InvalidNumber.__init__" (defArgs si12) (defBody si12) (defScope si12) .none hkV hdc hpm han hcd hct), hsl⟩)
    (ik : PySem.W.codeIn K hcd "InvalidNumber.__init__" = true)
    (kk : PySem.W.keepIn K (.ref g12) = true)
    (xf : xfB K CN = true)
    (mOO : PySem.W.exmOne K (.ref CO) (.ref CO) = some true)
    (mNO : PySem.W.exmOne K (.ref CN) (.ref CO) = some false)
    (mNN : PySem.W.exmOne K (.ref CN) (.ref CN) = some true)
    {t_MAX_DIGITS : Tok}
    (g_MAX_DIGITS : PySem.W.nsIn K mainGlobals "MAX_DIGITS" = some (some (.int 2000 t_MAX_DIGITS)))
    {t_MAX_ROWS : Tok}
    (g_MAX_ROWS : PySem.W.nsIn K mainGlobals "MAX_ROWS" = some (some (.int 60 t_MAX_ROWS)))
    {t_MAX_WIDTH : Tok}
    (g_MAX_WIDTH : PySem.W.nsIn K mainGlobals "MAX_WIDTH" = some (some (.int 28 t_MAX_WIDTH)))
    {t_PATIENCE : Tok}
    (g_PATIENCE : PySem.W.nsIn K mainGlobals "PATIENCE" = some (some (.int 4 t_PATIENCE)))
    {t_PRIME : Tok}
    (g_PRIME : PySem.W.nsIn K mainGlobals "PRIME" = some (some (.int 1073741789 t_PRIME)))
    {t_SURE_BITS : Tok}
    (g_SURE_BITS : PySem.W.nsIn K mainGlobals "SURE_BITS" = some (some (.int 6000 t_SURE_BITS)))
    (g_gcd : PySem.W.nsIn K mainGlobals "gcd" = some (some (.builtin "math.gcd")))
    (z_abs : PySem.W.nsIn K mainGlobals "abs" = some none)
    (z_all : PySem.W.nsIn K mainGlobals "all" = some none)
    (z_any : PySem.W.nsIn K mainGlobals "any" = some none)
    (z_bool : PySem.W.nsIn K mainGlobals "bool" = some none)
    (z_int : PySem.W.nsIn K mainGlobals "int" = some none)
    (z_isinstance : PySem.W.nsIn K mainGlobals "isinstance" = some none)
    (z_len : PySem.W.nsIn K mainGlobals "len" = some none)
    (z_list : PySem.W.nsIn K mainGlobals "list" = some none)
    (z_max : PySem.W.nsIn K mainGlobals "max" = some none)
    (z_min : PySem.W.nsIn K mainGlobals "min" = some none)
    (z_range : PySem.W.nsIn K mainGlobals "range" = some none)
    (z_repr : PySem.W.nsIn K mainGlobals "repr" = some none)
    (z_sum : PySem.W.nsIn K mainGlobals "sum" = some none)
    (z_tuple : PySem.W.nsIn K mainGlobals "tuple" = some none)
    (z_type : PySem.W.nsIn K mainGlobals "type" = some none)
    (z_zip : PySem.W.nsIn K mainGlobals "zip" = some none)
    : LawAtQ l w K 35 63 "_law_script" mg fa h := by
  have e := hfa.symm.trans (PySem.W.mg_of X G a48)
  cases e
  have B : Bi mg := { b_abs := PySem.W.mg_none_of X G z_abs, b_all := PySem.W.mg_none_of X G z_all, b_any := PySem.W.mg_none_of X G z_any, b_bool := PySem.W.mg_none_of X G z_bool, b_int := PySem.W.mg_none_of X G z_int, b_isinstance := PySem.W.mg_none_of X G z_isinstance, b_len := PySem.W.mg_none_of X G z_len, b_list := PySem.W.mg_none_of X G z_list, b_max := PySem.W.mg_none_of X G z_max, b_min := PySem.W.mg_none_of X G z_min, b_range := PySem.W.mg_none_of X G z_range, b_repr := PySem.W.mg_none_of X G z_repr, b_sum := PySem.W.mg_none_of X G z_sum, b_tuple := PySem.W.mg_none_of X G z_tuple, b_type := PySem.W.mg_none_of X G z_type, b_zip := PySem.W.mg_none_of X G z_zip, m_gcd := PySem.W.mg_of X G g_gcd, c_MAX_DIGITS := ⟨t_MAX_DIGITS, PySem.W.mg_of X G g_MAX_DIGITS⟩, c_MAX_ROWS := ⟨t_MAX_ROWS, PySem.W.mg_of X G g_MAX_ROWS⟩, c_MAX_WIDTH := ⟨t_MAX_WIDTH, PySem.W.mg_of X G g_MAX_WIDTH⟩, c_PATIENCE := ⟨t_PATIENCE, PySem.W.mg_of X G g_PATIENCE⟩, c_PRIME := ⟨t_PRIME, PySem.W.mg_of X G g_PRIME⟩, c_SURE_BITS := ⟨t_SURE_BITS, PySem.W.mg_of X G g_SURE_BITS⟩ }
  have xcN : Xc K CN "IndexError" "IndexError.__new__" := ⟨⟨_, _, _, _, _, _, _, _, _, _, _, _, _, _, _, xl, PySem.XG.tail_IE⟩, sa, sN, yN, kN⟩
  have R : Er K mg CO CN := ⟨PySem.W.mg_of X G nO, PySem.W.mg_of X G nN, kO, ⟨sO, yO⟩, exO, xcN, noN, xfB_ok xf, mOO, mNO, mNN⟩
  have F0 := fun_mk (st := sdivided) l0 c_0 k0
  have D0 : DefAt K mg "divided" sdivided ["row"] := ⟨f0, _, F0, PySem.W.mg_of X G a0, (F0.binds (ps := ["row"]) fun _ _ _ _ _ _ us hl => match us, hl with | [_], _ => rfl)⟩
  have F1 := fun_mk (st := s_unlike) l1 c_1 k1
  have D1 : DefAt K mg "_unlike" s_unlike ["rows"] := ⟨f1, _, F1, PySem.W.mg_of X G a1, (F1.binds (ps := ["rows"]) fun _ _ _ _ _ _ us hl => match us, hl with | [_], _ => rfl)⟩
  have F2 := fun_mk (st := s_adds_lead) l2 c_2 k2
  have D2 : DefAt K mg "_adds_lead" s_adds_lead ["leads", "row"] := ⟨f2, _, F2, PySem.W.mg_of X G a2, (F2.binds (ps := ["leads", "row"]) fun _ _ _ _ _ _ us hl => match us, hl with | [_, _], _ => rfl)⟩
  have F3 := fun_mk (st := s_row_with) l3 c_3 k3
  have D3 : DefAt K mg "_row_with" s_row_with ["rows", "start", "column"] := ⟨f3, _, F3, PySem.W.mg_of X G a3, (F3.binds (ps := ["rows", "start", "column"]) fun _ _ _ _ _ _ us hl => match us, hl with | [_, _, _], _ => rfl)⟩
  have F4 := fun_mk (st := s_swap) l4 c_4 k4
  have D4 : DefAt K mg "_swap" s_swap ["values", "one", "other"] := ⟨f4, _, F4, PySem.W.mg_of X G a4, (F4.binds (ps := ["values", "one", "other"]) fun _ _ _ _ _ _ us hl => match us, hl with | [_, _, _], _ => rfl)⟩
  have F5 := fun_mk (st := s_combined) l5 c_5 k5
  have D5 : DefAt K mg "_combined" s_combined ["factor", "row", "lead", "above", "scale"] := ⟨f5, _, F5, PySem.W.mg_of X G a5, (F5.binds (ps := ["factor", "row", "lead", "above", "scale"]) fun _ _ _ _ _ _ us hl => match us, hl with | [_, _, _, _, _], _ => rfl)⟩
  have F6 := fun_mk (st := s_are_small) l6 c_6 k6
  have D6 : DefAt K mg "_are_small" s_are_small ["rows"] := ⟨f6, _, F6, PySem.W.mg_of X G a6, (F6.binds (ps := ["rows"]) fun _ _ _ _ _ _ us hl => match us, hl with | [_], _ => rfl)⟩
  have F7 := fun_mk (st := s_is_sum_within) l7 c_7 k7
  have D7 : DefAt K mg "_is_sum_within" s_is_sum_within ["found", "row"] := ⟨f7, _, F7, PySem.W.mg_of X G a7, (F7.binds (ps := ["found", "row"]) fun _ _ _ _ _ _ us hl => match us, hl with | [_, _], _ => rfl)⟩
  have F8 := fun_mk (st := s_kernel_row) l8 c_8 k8
  have D8 : DefAt K mg "_kernel_row" s_kernel_row ["leads", "ends", "column", "scale", "width"] := ⟨f8, _, F8, PySem.W.mg_of X G a8, (F8.binds (ps := ["leads", "ends", "column", "scale", "width"]) fun _ _ _ _ _ _ us hl => match us, hl with | [_, _, _, _, _], _ => rfl)⟩
  have F9 := fun_mk (st := s_least_longer) l9 c_9 k9
  have D9 : DefAt K mg "_least_longer" s_least_longer ["digits"] := ⟨f9, _, F9, PySem.W.mg_of X G a9, (F9.binds (ps := ["digits"]) fun _ _ _ _ _ _ us hl => match us, hl with | [_], _ => rfl)⟩
  have F10 := fun_mk (st := s_width_of) l10 c_10 k10
  have D10 : DefAt K mg "_width_of" s_width_of ["rows"] := ⟨f10, _, F10, PySem.W.mg_of X G a10, (F10.binds (ps := ["rows"]) fun _ _ _ _ _ _ us hl => match us, hl with | [_], _ => rfl)⟩
  have F11 := fun_mk (st := s_is_symmetric) l11 c_11 k11
  have D11 : DefAt K mg "_is_symmetric" s_is_symmetric ["table"] := ⟨f11, _, F11, PySem.W.mg_of X G a11, (F11.binds (ps := ["table"]) fun _ _ _ _ _ _ us hl => match us, hl with | [_], _ => rfl)⟩
  have F12 := fun_mk (st := s_least_solution) l12 c_12 k12
  have D12 : DefAt K mg "_least_solution" s_least_solution ["leads", "ends", "scale", "width"] := ⟨f12, _, F12, PySem.W.mg_of X G a12, (F12.binds (ps := ["leads", "ends", "scale", "width"]) fun _ _ _ _ _ _ us hl => match us, hl with | [_, _, _, _], _ => rfl)⟩
  have F13 := fun_mk (st := s_law_bag) l13 c_13 k13
  have D13 : DefAt K mg "_law_bag" s_law_bag ["_law_script", "_law_at"] := ⟨f13, _, F13, PySem.W.mg_of X G a13, (F13.binds (ps := ["_law_script", "_law_at"]) fun _ _ _ _ _ _ us hl => match us, hl with | [_, _], _ => rfl)⟩
  have F14 := fun_mk (st := s_law_draw) l14 c_14 k14
  have D14 : DefAt K mg "_law_draw" s_law_draw ["_law_bag_here", "_law_total"] := ⟨f14, _, F14, PySem.W.mg_of X G a14, (F14.binds (ps := ["_law_bag_here", "_law_total"]) fun _ _ _ _ _ _ us hl => match us, hl with | [_, _], _ => rfl)⟩
  have F15 := fun_mk (st := s_law_great) l15 c_15 k15
  have D15 : DefAt K mg "_law_great" s_law_great [] := ⟨f15, _, F15, PySem.W.mg_of X G a15, (F15.binds (ps := []) fun _ _ _ _ _ _ us hl => match us, hl with | [], _ => rfl)⟩
  have F16 := fun_mk (st := s_take_by_residues) l16 c_16 k16
  have D16 : DefAt K mg "_take_by_residues" s_take_by_residues ["rows", "start", "leads", "taken", "most", "patience"] := ⟨f16, _, F16, PySem.W.mg_of X G a16, (F16.binds (ps := ["rows", "start", "leads", "taken", "most", "patience"]) fun _ _ _ _ _ _ us hl => match us, hl with | [_, _, _, _, _, _], _ => rfl)⟩
  have F17 := fun_mk (st := s_clear_others) l17 c_17 k17
  have D17 : DefAt K mg "_clear_others" s_clear_others ["left", "top", "column", "scale"] := ⟨f17, _, F17, PySem.W.mg_of X G a17, (F17.binds (ps := ["left", "top", "column", "scale"]) fun _ _ _ _ _ _ us hl => match us, hl with | [_, _, _, _], _ => rfl)⟩
  have F18 := fun_mk (st := s_index_outside) l18 c_18 k18
  have D18 : DefAt K mg "_index_outside" s_index_outside ["found", "rows"] := ⟨f18, _, F18, PySem.W.mg_of X G a18, (F18.binds (ps := ["found", "rows"]) fun _ _ _ _ _ _ us hl => match us, hl with | [_, _], _ => rfl)⟩
  have F19 := fun_mk (st := sdeterminant_of) l19 c_19 k19
  have D19 : DefAt K mg "determinant_of" sdeterminant_of ["table"] := ⟨f19, _, F19, PySem.W.mg_of X G a19, (F19.binds (ps := ["table"]) fun _ _ _ _ _ _ us hl => match us, hl with | [_], _ => rfl)⟩
  have F20 := fun_mk (st := s_without_square) l20 c_20 k20
  have D20 : DefAt K mg "_without_square" s_without_square ["left", "top", "scale"] := ⟨f20, _, F20, PySem.W.mg_of X G a20, (F20.binds (ps := ["left", "top", "scale"]) fun _ _ _ _ _ _ us hl => match us, hl with | [_, _, _], _ => rfl)⟩
  have F21 := fun_mk (st := shas_digits) l21 c_21 k21
  have D21 : DefAt K mg "has_digits" shas_digits ["number", "most"] := ⟨f21, _, F21, PySem.W.mg_of X G a21, (F21.binds (ps := ["number", "most"]) fun _ _ _ _ _ _ us hl => match us, hl with | [_, _], _ => rfl)⟩
  have F22 := fun_mk (st := s_law_one_of) l22 c_22 k22
  have D22 : DefAt K mg "_law_one_of" s_law_one_of ["_law_bag_here", "_law_items"] := ⟨f22, _, F22, PySem.W.mg_of X G a22, (F22.binds (ps := ["_law_bag_here", "_law_items"]) fun _ _ _ _ _ _ us hl => match us, hl with | [_, _], _ => rfl)⟩
  have F23 := fun_mk (st := s_reduced_alone) l23 c_23 k23
  have D23 : DefAt K mg "_reduced_alone" s_reduced_alone ["rows", "width"] := ⟨f23, _, F23, PySem.W.mg_of X G a23, (F23.binds (ps := ["rows", "width"]) fun _ _ _ _ _ _ us hl => match us, hl with | [_, _], _ => rfl)⟩
  have F24 := fun_mk (st := sis_sum_of_squares) l24 c_24 k24
  have D24 : DefAt K mg "is_sum_of_squares" sis_sum_of_squares ["table"] := ⟨f24, _, F24, PySem.W.mg_of X G a24, (F24.binds (ps := ["table"]) fun _ _ _ _ _ _ us hl => match us, hl with | [_], _ => rfl)⟩
  have F25 := fun_mk (st := sis_integer) l25 c_25 k25
  have D25 : DefAt K mg "is_integer" sis_integer ["value"] := ⟨f25, _, F25, PySem.W.mg_of X G a25, (F25.binds (ps := ["value"]) fun _ _ _ _ _ _ us hl => match us, hl with | [_], _ => rfl)⟩
  have F26 := fun_mk (st := s_law_bad_rows) l26 c_26 k26
  have D26 : DefAt K mg "_law_bad_rows" s_law_bad_rows ["_law_bag_here"] := ⟨f26, _, F26, PySem.W.mg_of X G a26, (F26.binds (ps := ["_law_bag_here"]) fun _ _ _ _ _ _ us hl => match us, hl with | [_], _ => rfl)⟩
  have F27 := fun_mk (st := s_law_bad_row) l27 c_27 k27
  have D27 : DefAt K mg "_law_bad_row" s_law_bad_row ["_law_bag_here"] := ⟨f27, _, F27, PySem.W.mg_of X G a27, (F27.binds (ps := ["_law_bag_here"]) fun _ _ _ _ _ _ us hl => match us, hl with | [_], _ => rfl)⟩
  have F28 := fun_mk (st := s_searched) l28 c_28 k28
  have D28 : DefAt K mg "_searched" s_searched ["rows", "width", "likely", "most"] := ⟨f28, _, F28, PySem.W.mg_of X G a28, (F28.binds (ps := ["rows", "width", "likely", "most"]) fun _ _ _ _ _ _ us hl => match us, hl with | [_, _, _, _], _ => rfl)⟩
  have F29 := fun_mk (st := sare_integers) l29 c_29 k29
  have D29 : DefAt K mg "are_integers" sare_integers ["values"] := ⟨f29, _, F29, PySem.W.mg_of X G a29, (F29.binds (ps := ["values"]) fun _ _ _ _ _ _ us hl => match us, hl with | [_], _ => rfl)⟩
  have F30 := fun_mk (st := sreduced) l30 c_30 k30
  have D30 : DefAt K mg "reduced" sreduced ["rows", "width", "likely"] := ⟨f30, _, F30, PySem.W.mg_of X G a30, (F30.binds (ps := ["rows", "width", "likely"]) fun _ _ _ _ _ _ us hl => match us, hl with | [_, _, _], _ => rfl)⟩
  have F31 := fun_mk (st := srank_of) l31 c_31 k31
  have D31 : DefAt K mg "rank_of" srank_of ["rows", "width", "most"] := ⟨f31, _, F31, PySem.W.mg_of X G a31, (F31.binds (ps := ["rows", "width", "most"]) fun _ _ _ _ _ _ us hl => match us, hl with | [_, _, _], _ => rfl)⟩
  have F32 := fun_mk (st := s_is_row) l32 c_32 k32
  have D32 : DefAt K mg "_is_row" s_is_row ["value"] := ⟨f32, _, F32, PySem.W.mg_of X G a32, (F32.binds (ps := ["value"]) fun _ _ _ _ _ _ us hl => match us, hl with | [_], _ => rfl)⟩
  have F33 := fun_mk (st := s_are_aims) l33 c_33 k33
  have D33 : DefAt K mg "_are_aims" s_are_aims ["rows", "value"] := ⟨f33, _, F33, PySem.W.mg_of X G a33, (F33.binds (ps := ["rows", "value"]) fun _ _ _ _ _ _ us hl => match us, hl with | [_, _], _ => rfl)⟩
  have F34 := fun_mk (st := skernel_of) l34 c_34 k34
  have D34 : DefAt K mg "kernel_of" skernel_of ["rows", "width"] := ⟨f34, _, F34, PySem.W.mg_of X G a34, (F34.binds (ps := ["rows", "width"]) fun _ _ _ _ _ _ us hl => match us, hl with | [_, _], _ => rfl)⟩
  have F35 := fun_mk (st := scleared) l35 c_35 k35
  have D35 : DefAt K mg "cleared" scleared ["row"] := ⟨f35, _, F35, PySem.W.mg_of X G a35, (F35.binds (ps := ["row"]) fun _ _ _ _ _ _ us hl => match us, hl with | [_], _ => rfl)⟩
  have F36 := fun_mk (st := s_are_rows) l36 c_36 k36
  have D36 : DefAt K mg "_are_rows" s_are_rows ["value"] := ⟨f36, _, F36, PySem.W.mg_of X G a36, (F36.binds (ps := ["value"]) fun _ _ _ _ _ _ us hl => match us, hl with | [_], _ => rfl)⟩
  have F37 := fun_mk (st := s_check_rows) l37 c_37 k37
  have D37 : DefAt K mg "_check_rows" s_check_rows ["value"] := ⟨f37, _, F37, PySem.W.mg_of X G a37, (F37.binds (ps := ["value"]) fun _ _ _ _ _ _ us hl => match us, hl with | [_], _ => rfl)⟩
  have F38 := fun_mk (st := s_check_table) l38 c_38 k38
  have D38 : DefAt K mg "_check_table" s_check_table ["value"] := ⟨f38, _, F38, PySem.W.mg_of X G a38, (F38.binds (ps := ["value"]) fun _ _ _ _ _ _ us hl => match us, hl with | [_], _ => rfl)⟩
  have F39 := fun_mk (st := srank) l39 c_39 k39
  have D39 : DefAt K mg "rank" srank ["rows"] := ⟨f39, _, F39, PySem.W.mg_of X G a39, (F39.binds (ps := ["rows"]) fun _ _ _ _ _ _ us hl => match us, hl with | [_], _ => rfl)⟩
  have F40 := fun_mk (st := skernel) l40 c_40 k40
  have D40 : DefAt K mg "kernel" skernel ["rows", "width"] := ⟨f40, _, F40, PySem.W.mg_of X G a40, (F40.binds (ps := ["rows", "width"]) fun _ _ _ _ _ _ us hl => match us, hl with | [_, _], _ => rfl)⟩
  have F41 := fun_mk (st := ssolution) l41 c_41 k41
  have D41 : DefAt K mg "solution" ssolution ["rows", "aims"] := ⟨f41, _, F41, PySem.W.mg_of X G a41, (F41.binds (ps := ["rows", "aims"]) fun _ _ _ _ _ _ us hl => match us, hl with | [_, _], _ => rfl)⟩
  have F42 := fun_mk (st := sdeterminant) l42 c_42 k42
  have D42 : DefAt K mg "determinant" sdeterminant ["table"] := ⟨f42, _, F42, PySem.W.mg_of X G a42, (F42.binds (ps := ["table"]) fun _ _ _ _ _ _ us hl => match us, hl with | [_], _ => rfl)⟩
  have F43 := fun_mk (st := sis_square_sum) l43 c_43 k43
  have D43 : DefAt K mg "is_square_sum" sis_square_sum ["table"] := ⟨f43, _, F43, PySem.W.mg_of X G a43, (F43.binds (ps := ["table"]) fun _ _ _ _ _ _ us hl => match us, hl with | [_], _ => rfl)⟩
  have F44 := fun_mk (st := sare_free) l44 c_44 k44
  have D44 : DefAt K mg "are_free" sare_free ["rows"] := ⟨f44, _, F44, PySem.W.mg_of X G a44, (F44.binds (ps := ["rows"]) fun _ _ _ _ _ _ us hl => match us, hl with | [_], _ => rfl)⟩
  have F45 := fun_mk (st := s_law_rows_refused) l45 c_45 k45
  have D45 : DefC K mg "_law_rows_refused" s_law_rows_refused ["_law_bag_here"] c1 := ⟨f45, _, _, _, _, _, _, _, _, l45, c_45, k45, PySem.W.mg_of X G a45, (F45.binds (ps := ["_law_bag_here"]) fun _ _ _ _ _ _ us hl => match us, hl with | [_], _ => rfl)⟩
  have F46 := fun_mk (st := s_law_others_refused) l46 c_46 k46
  have D46 : DefC K mg "_law_others_refused" s_law_others_refused ["_law_bag_here"] c2 := ⟨f46, _, _, _, _, _, _, _, _, l46, c_46, k46, PySem.W.mg_of X G a46, (F46.binds (ps := ["_law_bag_here"]) fun _ _ _ _ _ _ us hl => match us, hl with | [_], _ => rfl)⟩
  have F47 := fun_mk (st := s_law_bounds_let) l47 c_47 k47
  have D47 : DefC K mg "_law_bounds_let" s_law_bounds_let ["_law_bag_here"] c3 := ⟨f47, _, _, _, _, _, _, _, _, l47, c_47, k47, PySem.W.mg_of X G a47, (F47.binds (ps := ["_law_bag_here"]) fun _ _ _ _ _ _ us hl => match us, hl with | [_], _ => rfl)⟩
  have F49 := fun_mk (st := s_law_word) l49 c_49 k49
  have D49 : DefAt K mg "_law_word" s_law_word ["_law_call"] := ⟨f49, _, F49, PySem.W.mg_of X G a49, (F49.binds (ps := ["_law_call"]) fun _ _ _ _ _ _ us hl => match us, hl with | [_], _ => rfl)⟩
  have FL := fun_mk (st := slaw) l48 c_48 k48
  have FI := fun_mk (x := "__init__") (qual := "InvalidNumber.__init__") (st := si12) il ik kk
  have bI := FI.binds (ps := ["self", "given"]) fun _ _ _ _ _ _ us hl => match us, hl with | [_, _], _ => rfl
  have oth : ∀ {x : Addr} {y z : Str} {P : Addr}, x ≠ P → ((x, y) : Addr × Str).1 = P → y = z := fun n e => absurd e n
  have u1 : ∀ p ∈ ([(P1, ("_law_rows_refused.<locals>.<lambda>" : Str)), (P2, ("_law_others_refused.<locals>.<lambda>" : Str)), (P3, ("_law_bounds_let.<locals>.<lambda>" : Str))] : List (Addr × Str)), p.1 = P1 → p.2 = ("_law_rows_refused.<locals>.<lambda>" : Str) := fun p hp e => by
    simp only [List.mem_cons, List.not_mem_nil, or_false] at hp
    rcases hp with rfl | rfl | rfl
    · rfl
    · exact absurd e d12.symm
    · exact absurd e d13.symm
  have u2 : ∀ p ∈ ([(P1, ("_law_rows_refused.<locals>.<lambda>" : Str)), (P2, ("_law_others_refused.<locals>.<lambda>" : Str)), (P3, ("_law_bounds_let.<locals>.<lambda>" : Str))] : List (Addr × Str)), p.1 = P2 → p.2 = ("_law_others_refused.<locals>.<lambda>" : Str) := fun p hp e => by
    simp only [List.mem_cons, List.not_mem_nil, or_false] at hp
    rcases hp with rfl | rfl | rfl
    · exact absurd e d12
    · rfl
    · exact absurd e d23.symm
  have u3 : ∀ p ∈ ([(P1, ("_law_rows_refused.<locals>.<lambda>" : Str)), (P2, ("_law_others_refused.<locals>.<lambda>" : Str)), (P3, ("_law_bounds_let.<locals>.<lambda>" : Str))] : List (Addr × Str)), p.1 = P3 → p.2 = ("_law_bounds_let.<locals>.<lambda>" : Str) := fun p hp e => by
    simp only [List.mem_cons, List.not_mem_nil, or_false] at hp
    rcases hp with rfl | rfl | rfl
    · exact absurd e d13
    · exact absurd e d23
    · rfl
  refine ⟨PySem.W.fnOf "law" "law" (defArgs slaw) (defBody slaw) (defScope slaw) .none kV48 dc48 pm48 an48 cd48 ct48, [(c1, P1), (c2, P2), (c3, P3)], spLaw K [(P1, ("_law_rows_refused.<locals>.<lambda>" : Str)), (P2, ("_law_others_refused.<locals>.<lambda>" : Str)), (P3, ("_law_bounds_let.<locals>.<lambda>" : Str))], fun q hq => ?_, fun s v => .of_eq rfl, fun H a ns hn hT hS => ?_, fun base KB NB TB => ?_⟩
  · simp only [List.mem_cons, List.not_mem_nil, or_false] at hq
    rcases hq with rfl | rfl | rfl
    · exact ⟨t1, o1, PySem.W.codeHd_of_K X h1⟩
    · exact ⟨t2, o2, PySem.W.codeHd_of_K X h2⟩
    · exact ⟨t3, o3, PySem.W.codeHd_of_K X h3⟩
  · refine ⟨a, ns, rfl, hS, hn, fun p hp => ?_, fun _ => rfl⟩
    have tb : ∀ (P : Addr) (q : Str), H P = some (.tbl #[]) → LamX.TabS H P q := fun P q e => ⟨#[], e, trivial, fun pos cv hc => nomatch hc⟩
    simp only [List.mem_cons, List.not_mem_nil, or_false] at hp
    rcases hp with rfl | rfl | rfl
    · exact tb _ _ (hT (c1, P1) (by simp))
    · exact tb _ _ (hT (c2, P2) (by simp))
    · exact tb _ _ (hT (c3, P3) (by simp))
  · have IN : Ini l.prog w K mg base CN "IndexError" "IndexError.__new__" "given" := ⟨⟨g12, _, ic, ti, oki12 FI, bI⟩⟩
    have DW := D49
    have C0 := okdivided (P := l.prog) (w := w) (base := base) B D0 
    have C1 := ok_unlike (P := l.prog) (w := w) (base := base) B D1 
    have C2 := ok_adds_lead (P := l.prog) (w := w) (base := base) B D2 
    have C3 := ok_row_with (P := l.prog) (w := w) (base := base) B D3 
    have C4 := ok_swap (P := l.prog) (w := w) (base := base) B D4 
    have C5 := ok_combined (P := l.prog) (w := w) (base := base) B D5 
    have C6 := ok_are_small (P := l.prog) (w := w) (base := base) B D6 
    have C7 := ok_is_sum_within (P := l.prog) (w := w) (base := base) B D7 
    have C8 := ok_kernel_row (P := l.prog) (w := w) (base := base) B D8 
    have C9 := ok_least_longer (P := l.prog) (w := w) (base := base) B D9 
    have C10 := ok_width_of (P := l.prog) (w := w) (base := base) B D10 
    have C11 := ok_is_symmetric (P := l.prog) (w := w) (base := base) B D11 
    have C12 := ok_least_solution (P := l.prog) (w := w) (base := base) B D12 
    have C13 := ok_law_bag (P := l.prog) (w := w) (base := base) B D13 
    have C14 := ok_law_draw (P := l.prog) (w := w) (base := base) B D14 
    have C15 := ok_law_great (P := l.prog) (w := w) (base := base) B D15 
    have C16 := ok_take_by_residues (P := l.prog) (w := w) (base := base) B D16 C2
    have C17 := ok_clear_others (P := l.prog) (w := w) (base := base) B D17 C5
    have C18 := ok_index_outside (P := l.prog) (w := w) (base := base) B D18 C7
    have C19 := okdeterminant_of (P := l.prog) (w := w) (base := base) B D19 C5 C3 C4
    have C20 := never_of (P := l.prog) (w := w) (base := base) (k := 2) D20
    have C21 := okhas_digits (P := l.prog) (w := w) (base := base) B D21 C9
    have C22 := ok_law_one_of (P := l.prog) (w := w) (base := base) B D22 C14
    have C23 := ok_reduced_alone (P := l.prog) (w := w) (base := base) B D23 C17 C3 C4 C0
    have C24 := okis_sum_of_squares (P := l.prog) (w := w) (base := base) B D24 C20
    have C25 := okis_integer (P := l.prog) (w := w) (base := base) B D25 C21
    have C26 := ok_law_bad_rows (P := l.prog) (w := w) (base := base) B D26 C15 C22
    have C27 := ok_law_bad_row (P := l.prog) (w := w) (base := base) B D27 C15 C22
    have C28 := ok_searched (P := l.prog) (w := w) (base := base) B D28 C2 C6 C18 C23 C16
    have C29 := okare_integers (P := l.prog) (w := w) (base := base) B D29 C25
    have C30 := okreduced (P := l.prog) (w := w) (base := base) B D30 C6 C23 C28 C1
    have C31 := okrank_of (P := l.prog) (w := w) (base := base) B D31 C28 C1
    have C32 := ok_is_row (P := l.prog) (w := w) (base := base) B D32 C29
    have C33 := ok_are_aims (P := l.prog) (w := w) (base := base) B D33 C29
    have C34 := okkernel_of (P := l.prog) (w := w) (base := base) B D34 C8 C30
    have C35 := okcleared (P := l.prog) (w := w) (base := base) B D35 R C32 C0
    have C36 := ok_are_rows (P := l.prog) (w := w) (base := base) B D36 C32
    have C37 := ok_check_rows (P := l.prog) (w := w) (base := base) B D37 R C36
    have C38 := ok_check_table (P := l.prog) (w := w) (base := base) B D38 R C36 C10
    have C39 := okrank (P := l.prog) (w := w) (base := base) B D39 C37 C10 C31
    have C40 := okkernel (P := l.prog) (w := w) (base := base) B D40 R C37 C10 C25 C34 IN
    have C41 := oksolution (P := l.prog) (w := w) (base := base) B D41 R C33 C37 C12 C10 C30
    have C42 := okdeterminant (P := l.prog) (w := w) (base := base) B D42 C38 C19
    have C43 := okis_square_sum (P := l.prog) (w := w) (base := base) B D43 R C38 C11 C24
    have C44 := okare_free (P := l.prog) (w := w) (base := base) B D44 C39
    have C45 := ok_law_rows_refused (P := l.prog) (w := w) (base := base) B D45 R DW (TB (c1, P1) (by simp)) (by simp) u1 C27 C26 C22 C44 C35 C42 C43 C40 C39 C41
    have C46 := ok_law_others_refused (P := l.prog) (w := w) (base := base) B D46 R DW (TB (c2, P2) (by simp)) (by simp) u2 C14 C15 C22 C42 C43 C40 C41
    have C47 := ok_law_bounds_let (P := l.prog) (w := w) (base := base) B D47 R DW (TB (c3, P3) (by simp)) (by simp) u3 C14 C15 C44 C35 C42 C43 C40 C39 C41
    exact oklaw B FL C13 C47 C46 C45
end K05
open PySem PySem.W PyProof.Rows
set_option maxHeartbeats 0 in
theorem PySem.Challenge.cw_lengthstell_k05_errors_of_rows_holds : PySem.Challenge.rw_lengthstell_k05_errors_of_rows.Holds := by
  w_on; o_law; k_head; (case hw => w_witness2)
  k_fill
  refine Lay.law_walksT (l := PySem.Challenge.rw_lengthstell_k05_errors_of_rows) (n := 63) (k := 35) (x := "_law_script") rfl (by decide) rfl ⟨rfl, by decide, by decide⟩ ?F
  case F =>
    intro w mg fa h Y G hmg
    refine ⟨_, PySem.W.km_in_of Y, ?_⟩
    refine' K05.all_mk (PySem.W.km_in_of Y) G hmg ?a0 ?l0 ?c_0 ?k0 ?a1 ?l1 ?c_1 ?k1 ?a2 ?l2 ?c_2 ?k2 ?a3 ?l3 ?c_3 ?k3 ?a4 ?l4 ?c_4 ?k4 ?a5 ?l5 ?c_5 ?k5 ?a6 ?l6 ?c_6 ?k6 ?a7 ?l7 ?c_7 ?k7 ?a8 ?l8 ?c_8 ?k8 ?a9 ?l9 ?c_9 ?k9 ?a10 ?l10 ?c_10 ?k10 ?a11 ?l11 ?c_11 ?k11 ?a12 ?l12 ?c_12 ?k12 ?a13 ?l13 ?c_13 ?k13 ?a14 ?l14 ?c_14 ?k14 ?a15 ?l15 ?c_15 ?k15 ?a16 ?l16 ?c_16 ?k16 ?a17 ?l17 ?c_17 ?k17 ?a18 ?l18 ?c_18 ?k18 ?a19 ?l19 ?c_19 ?k19 ?a20 ?l20 ?c_20 ?k20 ?a21 ?l21 ?c_21 ?k21 ?a22 ?l22 ?c_22 ?k22 ?a23 ?l23 ?c_23 ?k23 ?a24 ?l24 ?c_24 ?k24 ?a25 ?l25 ?c_25 ?k25 ?a26 ?l26 ?c_26 ?k26 ?a27 ?l27 ?c_27 ?k27 ?a28 ?l28 ?c_28 ?k28 ?a29 ?l29 ?c_29 ?k29 ?a30 ?l30 ?c_30 ?k30 ?a31 ?l31 ?c_31 ?k31 ?a32 ?l32 ?c_32 ?k32 ?a33 ?l33 ?c_33 ?k33 ?a34 ?l34 ?c_34 ?k34 ?a35 ?l35 ?c_35 ?k35 ?a36 ?l36 ?c_36 ?k36 ?a37 ?l37 ?c_37 ?k37 ?a38 ?l38 ?c_38 ?k38 ?a39 ?l39 ?c_39 ?k39 ?a40 ?l40 ?c_40 ?k40 ?a41 ?l41 ?c_41 ?k41 ?a42 ?l42 ?c_42 ?k42 ?a43 ?l43 ?c_43 ?k43 ?a44 ?l44 ?c_44 ?k44 ?a45 ?l45 ?c_45 ?k45 ?a46 ?l46 ?c_46 ?k46 ?a47 ?l47 ?c_47 ?k47 ?a48 ?l48 ?c_48 ?k48 ?a49 ?l49 ?c_49 ?k49 ?q1 ?p1 ?h1 ?t1 ?o1 ?q2 ?p2 ?h2 ?t2 ?o2 ?q3 ?p3 ?h3 ?t3 ?o3 ?d12 ?d13 ?d23 ?nO ?nN ?kO ?kN ?sO ?yO ?sN ?yN ?exO ?xl ?sa ?noN ?ic ?ti ?il ?ik ?kk ?xf ?mOO ?mNO ?mNN ?g_MAX_DIGITS ?g_MAX_ROWS ?g_MAX_WIDTH ?g_PATIENCE ?g_PRIME ?g_SURE_BITS ?g_gcd ?z_abs ?z_all ?z_any ?z_bool ?z_int ?z_isinstance ?z_len ?z_list ?z_max ?z_min ?z_range ?z_repr ?z_sum ?z_tuple ?z_type ?z_zip
    (case a0 => k_is)
    (case l0 => k_is)
    (case c_0 => k_is)
    (case k0 => k_is)
    (case a1 => k_is)
    (case l1 => k_is)
    (case c_1 => k_is)
    (case k1 => k_is)
    (case a2 => k_is)
    (case l2 => k_is)
    (case c_2 => k_is)
    (case k2 => k_is)
    (case a3 => k_is)
    (case l3 => k_is)
    (case c_3 => k_is)
    (case k3 => k_is)
    (case a4 => k_is)
    (case l4 => k_is)
    (case c_4 => k_is)
    (case k4 => k_is)
    (case a5 => k_is)
    (case l5 => k_is)
    (case c_5 => k_is)
    (case k5 => k_is)
    (case a6 => k_is)
    (case l6 => k_is)
    (case c_6 => k_is)
    (case k6 => k_is)
    (case a7 => k_is)
    (case l7 => k_is)
    (case c_7 => k_is)
    (case k7 => k_is)
    (case a8 => k_is)
    (case l8 => k_is)
    (case c_8 => k_is)
    (case k8 => k_is)
    (case a9 => k_is)
    (case l9 => k_is)
    (case c_9 => k_is)
    (case k9 => k_is)
    (case a10 => k_is)
    (case l10 => k_is)
    (case c_10 => k_is)
    (case k10 => k_is)
    (case a11 => k_is)
    (case l11 => k_is)
    (case c_11 => k_is)
    (case k11 => k_is)
    (case a12 => k_is)
    (case l12 => k_is)
    (case c_12 => k_is)
    (case k12 => k_is)
    (case a13 => k_is)
    (case l13 => k_is)
    (case c_13 => k_is)
    (case k13 => k_is)
    (case a14 => k_is)
    (case l14 => k_is)
    (case c_14 => k_is)
    (case k14 => k_is)
    (case a15 => k_is)
    (case l15 => k_is)
    (case c_15 => k_is)
    (case k15 => k_is)
    (case a16 => k_is)
    (case l16 => k_is)
    (case c_16 => k_is)
    (case k16 => k_is)
    (case a17 => k_is)
    (case l17 => k_is)
    (case c_17 => k_is)
    (case k17 => k_is)
    (case a18 => k_is)
    (case l18 => k_is)
    (case c_18 => k_is)
    (case k18 => k_is)
    (case a19 => k_is)
    (case l19 => k_is)
    (case c_19 => k_is)
    (case k19 => k_is)
    (case a20 => k_is)
    (case l20 => k_is)
    (case c_20 => k_is)
    (case k20 => k_is)
    (case a21 => k_is)
    (case l21 => k_is)
    (case c_21 => k_is)
    (case k21 => k_is)
    (case a22 => k_is)
    (case l22 => k_is)
    (case c_22 => k_is)
    (case k22 => k_is)
    (case a23 => k_is)
    (case l23 => k_is)
    (case c_23 => k_is)
    (case k23 => k_is)
    (case a24 => k_is)
    (case l24 => k_is)
    (case c_24 => k_is)
    (case k24 => k_is)
    (case a25 => k_is)
    (case l25 => k_is)
    (case c_25 => k_is)
    (case k25 => k_is)
    (case a26 => k_is)
    (case l26 => k_is)
    (case c_26 => k_is)
    (case k26 => k_is)
    (case a27 => k_is)
    (case l27 => k_is)
    (case c_27 => k_is)
    (case k27 => k_is)
    (case a28 => k_is)
    (case l28 => k_is)
    (case c_28 => k_is)
    (case k28 => k_is)
    (case a29 => k_is)
    (case l29 => k_is)
    (case c_29 => k_is)
    (case k29 => k_is)
    (case a30 => k_is)
    (case l30 => k_is)
    (case c_30 => k_is)
    (case k30 => k_is)
    (case a31 => k_is)
    (case l31 => k_is)
    (case c_31 => k_is)
    (case k31 => k_is)
    (case a32 => k_is)
    (case l32 => k_is)
    (case c_32 => k_is)
    (case k32 => k_is)
    (case a33 => k_is)
    (case l33 => k_is)
    (case c_33 => k_is)
    (case k33 => k_is)
    (case a34 => k_is)
    (case l34 => k_is)
    (case c_34 => k_is)
    (case k34 => k_is)
    (case a35 => k_is)
    (case l35 => k_is)
    (case c_35 => k_is)
    (case k35 => k_is)
    (case a36 => k_is)
    (case l36 => k_is)
    (case c_36 => k_is)
    (case k36 => k_is)
    (case a37 => k_is)
    (case l37 => k_is)
    (case c_37 => k_is)
    (case k37 => k_is)
    (case a38 => k_is)
    (case l38 => k_is)
    (case c_38 => k_is)
    (case k38 => k_is)
    (case a39 => k_is)
    (case l39 => k_is)
    (case c_39 => k_is)
    (case k39 => k_is)
    (case a40 => k_is)
    (case l40 => k_is)
    (case c_40 => k_is)
    (case k40 => k_is)
    (case a41 => k_is)
    (case l41 => k_is)
    (case c_41 => k_is)
    (case k41 => k_is)
    (case a42 => k_is)
    (case l42 => k_is)
    (case c_42 => k_is)
    (case k42 => k_is)
    (case a43 => k_is)
    (case l43 => k_is)
    (case c_43 => k_is)
    (case k43 => k_is)
    (case a44 => k_is)
    (case l44 => k_is)
    (case c_44 => k_is)
    (case k44 => k_is)
    (case a45 => k_is)
    (case l45 => k_is)
    (case c_45 => k_is)
    (case k45 => k_is)
    (case a46 => k_is)
    (case l46 => k_is)
    (case c_46 => k_is)
    (case k46 => k_is)
    (case a47 => k_is)
    (case l47 => k_is)
    (case c_47 => k_is)
    (case k47 => k_is)
    (case a48 => k_is)
    (case l48 => k_is)
    (case c_48 => k_is)
    (case k48 => k_is)
    (case a49 => k_is)
    (case l49 => k_is)
    (case c_49 => k_is)
    (case k49 => k_is)
    (case q1 => k_is)
    (case p1 => exact rfl)
    (case h1 => kernel_rfl)
    (case t1 => exact PySem.W.km_tabs_of Y _ (by simp))
    (case o1 => kernel_rfl)
    (case q2 => k_is)
    (case p2 => exact rfl)
    (case h2 => kernel_rfl)
    (case t2 => exact PySem.W.km_tabs_of Y _ (by simp))
    (case o2 => kernel_rfl)
    (case q3 => k_is)
    (case p3 => exact rfl)
    (case h3 => kernel_rfl)
    (case t3 => exact PySem.W.km_tabs_of Y _ (by simp))
    (case o3 => kernel_rfl)
    (case d12 => decide)
    (case d13 => decide)
    (case d23 => decide)
    (case nO => k_is)
    (case nN => k_is)
    (case kO => k_is)
    (case kN => k_is)
    (case sO => k_is)
    (case yO => k_is)
    (case sN => k_is)
    (case yN => k_is)
    (case exO => kernel_rfl)
    (case xl => k_is)
    (case sa => k_is)
    (case noN => k_is)
    (case ic => k_is)
    (case ti => k_is)
    (case il => k_is)
    (case ik => k_is)
    (case kk => k_is)
    (case xf => kernel_rfl)
    (case mOO => kernel_rfl)
    (case mNO => kernel_rfl)
    (case mNN => kernel_rfl)
    (case g_MAX_DIGITS => k_is)
    (case g_MAX_ROWS => k_is)
    (case g_MAX_WIDTH => k_is)
    (case g_PATIENCE => k_is)
    (case g_PRIME => k_is)
    (case g_SURE_BITS => k_is)
    (case g_gcd => k_is)
    (case z_abs => k_is)
    (case z_all => k_is)
    (case z_any => k_is)
    (case z_bool => k_is)
    (case z_int => k_is)
    (case z_isinstance => k_is)
    (case z_len => k_is)
    (case z_list => k_is)
    (case z_max => k_is)
    (case z_min => k_is)
    (case z_range => k_is)
    (case z_repr => k_is)
    (case z_sum => k_is)
    (case z_tuple => k_is)
    (case z_type => k_is)
    (case z_zip => k_is)
