import PyProof.Rows.All
import Wide.All
import OpenK.AllK
import Wide.FinOn
import HandS.Base
import HandS.Call
import HandS.List
import HandS.Comp
import HandS.Ends
import HandS.Words
import HandS.Wide
import HandS.Iter
import HandS.Text
import HandS.IsInst
import HandS.WideBits
import HandS.TupLe
import HandS.TupAny
import HandS.Zip
import HandS.Dict
import HandS.HotCalls
import HandS.ExcIs
import HandS.ExcField
import HandS.ExcInit
import HandS.ExcBuiltin
import HandS.ExcCtx
import KE.KExcIs
import KE.KExcInit
import HandS.RaiseMore
import PyProof.StrOps2
import HandS.Gcd
import HandS.Sort
import HandS.WideMore
import KE.KUnpackStar
import HandS.NoneIn
import KE.GoesMore
import KE.GoesEnum
import HandS.More
import HandS.Lambda
import HandS.EndTab
import HandS.TryOnly
import HandS.TryMany
import HandS.ExcOwn
import HandS.TupMul
import KE.DataMinMax
import HandS.DictComp
import HandS.Conv
import HandS.Flt
import KE.DataAny
import HandS.Style
import PyProof.ListRange
import HandS.Deep
import HandS.Strs
import KE.DataEq
import KE.SortData
import KE.KSortTup
import HandS.TupSets
import KE.KDictKeyed
import HandS.SetBool
import KE.KDictCopyH
import KE.KDictSum
import HandS.SetFor
import KE.SortKeyHeap
import KE.KSortKey
import HandS.SortKw
import HandS.Property
import HandS.Defaults
import PyProof.TupleOfSeq
import PyProof.ReprLen
import HandS.DeepEq
import KE.KEqNest
import HandS.WordsDict
import HandS.ListItems
import HandS.Small
import PySem.Challenge.RW_lengthstell_k13_whole_mirrored_placings
set_option Elab.async false
set_option linter.all false
set_option maxRecDepth 100000
set_option maxHeartbeats 4000000
namespace Alg
/-- the sum over the columns, first row first, as the law adds it up: at is the column, s the sign -/
def lapRow (sub : Nat → Int) : Nat → Int → List Int → Int
  | _, _, [] => 0
  | at_, s, a :: r => s * a * sub at_ + lapRow sub (at_ + 1) (0 - s) r
/-- Laplace's expansion along the first row -/
def lap : List (List Int) → Int
  | [] => 1
  | r :: rs => lapRow (fun k => lap (rs.map fun q => q.eraseIdx k)) 0 1 r
termination_by m => m.length
decreasing_by simp
theorem lap_nil : lap [] = 1 := by rw [lap]
theorem lap_cons (r : List Int) (rs : List (List Int)) : lap (r :: rs) = lapRow (fun k => lap (rs.map fun q => q.eraseIdx k)) 0 1 r := by rw [lap]
/-- the minor of A with these rows and columns -/
def mi (A : Nat → Nat → Int) (rs cs : List Nat) : Int := lap (rs.map fun r => cs.map fun c => A r c)
theorem mi0 (A : Nat → Nat → Int) : mi A [] [] = 1 := lap_nil
theorem mi1 (A : Nat → Nat → Int) (a b : Nat) : mi A [a] [b] = A a b := by
  simp [mi, lap_cons, lap_nil, lapRow]
theorem mi2 (A : Nat → Nat → Int) (a b c d : Nat) : mi A [a, b] [c, d] = A a c * A b d - A a d * A b c := by
  simp [mi, lap_cons, lap_nil, lapRow]
  grind
end Alg
namespace Alg
theorem lap1 (a : Int) : lap [[a]] = a := by simp [lap_cons, lap_nil, lapRow]
theorem lap2 (a b c d : Int) : lap [[a, b], [c, d]] = a * d - b * c := by
  simp [lap_cons, lap_nil, lapRow]
  grind
theorem lap3 (a b c d e f g h i : Int) : lap [[a, b, c], [d, e, f], [g, h, i]] = a * (e * i - f * h) - b * (d * i - f * g) + c * (d * h - e * g) := by
  rw [lap_cons]
  simp [lapRow, lap2]
  grind
theorem lap4 (a b c d e f g h i j k l m n o p : Int) : lap [[a, b, c, d], [e, f, g, h], [i, j, k, l], [m, n, o, p]] =
    a * lap [[f, g, h], [j, k, l], [n, o, p]] - b * lap [[e, g, h], [i, k, l], [m, o, p]] + c * lap [[e, f, h], [i, j, l], [m, n, p]] - d * lap [[e, f, g], [i, j, k], [m, n, o]] := by
  rw [lap_cons]
  simp [lapRow]
  grind
theorem lap5 (a b c d e f g h i j k l m n o p q r s t u v w x y : Int) : lap [[a, b, c, d, e], [f, g, h, i, j], [k, l, m, n, o], [p, q, r, s, t], [u, v, w, x, y]] =
    a * lap [[g, h, i, j], [l, m, n, o], [q, r, s, t], [v, w, x, y]] - b * lap [[f, h, i, j], [k, m, n, o], [p, r, s, t], [u, w, x, y]] + c * lap [[f, g, i, j], [k, l, n, o], [p, q, s, t], [u, v, x, y]]
      - d * lap [[f, g, h, j], [k, l, m, o], [p, q, r, t], [u, v, w, y]] + e * lap [[f, g, h, i], [k, l, m, n], [p, q, r, s], [u, v, w, x]] := by
  rw [lap_cons]
  simp [lapRow]
  grind
/-- Jacobi's identity of the bordered minors, up to five rows -/
theorem jac0 (A : Nat → Nat → Int) (r i c j : Nat) : mi A [r] [c] * mi A [i] [j] - mi A [i] [c] * mi A [r] [j] = mi A [] [] * mi A [r, i] [c, j] := by
  simp only [mi, List.map_cons, List.map_nil, lap1, lap2, lap_nil]
  grind
theorem jac1 (A : Nat → Nat → Int) (r1 c1 r i c j : Nat) : mi A [r1, r] [c1, c] * mi A [r1, i] [c1, j] - mi A [r1, i] [c1, c] * mi A [r1, r] [c1, j] = mi A [r1] [c1] * mi A [r1, r, i] [c1, c, j] := by
  simp only [mi, List.map_cons, List.map_nil, lap1, lap2, lap3]
  grind
theorem jac2 (A : Nat → Nat → Int) (r1 r2 c1 c2 r i c j : Nat) : mi A [r1, r2, r] [c1, c2, c] * mi A [r1, r2, i] [c1, c2, j] - mi A [r1, r2, i] [c1, c2, c] * mi A [r1, r2, r] [c1, c2, j] = mi A [r1, r2] [c1, c2] * mi A [r1, r2, r, i] [c1, c2, c, j] := by
  simp only [mi, List.map_cons, List.map_nil, lap1, lap2, lap3, lap4]
  grind
end Alg
namespace Alg
theorem jac3 (A : Nat → Nat → Int) (r1 r2 r3 c1 c2 c3 r i c j : Nat) : mi A [r1, r2, r3, r] [c1, c2, c3, c] * mi A [r1, r2, r3, i] [c1, c2, c3, j] - mi A [r1, r2, r3, i] [c1, c2, c3, c] * mi A [r1, r2, r3, r] [c1, c2, c3, j] = mi A [r1, r2, r3] [c1, c2, c3] * mi A [r1, r2, r3, r, i] [c1, c2, c3, c, j] := by
  simp only [mi, List.map_cons, List.map_nil, lap1, lap2, lap3, lap4, lap5, lap_nil]
  grind
end Alg
namespace Alg
theorem sw_0_0_0 (A : Nat → Nat → Int) (x y c0 c1 : Nat) : mi A [y, x] [c0, c1] = - mi A [x, y] [c0, c1] := by
  simp only [mi, List.map_cons, List.map_nil, lap1, lap2, lap3, lap4, lap5, lap_nil]
  grind
theorem sw_0_0_1 (A : Nat → Nat → Int) (x y w0 c0 c1 c2 : Nat) : mi A [y, x, w0] [c0, c1, c2] = - mi A [x, y, w0] [c0, c1, c2] := by
  simp only [mi, List.map_cons, List.map_nil, lap1, lap2, lap3, lap4, lap5, lap_nil]
  grind
theorem sw_0_1_0 (A : Nat → Nat → Int) (x y u0 c0 c1 c2 : Nat) : mi A [y, u0, x] [c0, c1, c2] = - mi A [x, u0, y] [c0, c1, c2] := by
  simp only [mi, List.map_cons, List.map_nil, lap1, lap2, lap3, lap4, lap5, lap_nil]
  grind
theorem sw_1_0_0 (A : Nat → Nat → Int) (x y r0 c0 c1 c2 : Nat) : mi A [r0, y, x] [c0, c1, c2] = - mi A [r0, x, y] [c0, c1, c2] := by
  simp only [mi, List.map_cons, List.map_nil, lap1, lap2, lap3, lap4, lap5, lap_nil]
  grind
theorem sw_0_0_2 (A : Nat → Nat → Int) (x y w0 w1 c0 c1 c2 c3 : Nat) : mi A [y, x, w0, w1] [c0, c1, c2, c3] = - mi A [x, y, w0, w1] [c0, c1, c2, c3] := by
  simp only [mi, List.map_cons, List.map_nil, lap1, lap2, lap3, lap4, lap5, lap_nil]
  grind
theorem sw_0_1_1 (A : Nat → Nat → Int) (x y u0 w0 c0 c1 c2 c3 : Nat) : mi A [y, u0, x, w0] [c0, c1, c2, c3] = - mi A [x, u0, y, w0] [c0, c1, c2, c3] := by
  simp only [mi, List.map_cons, List.map_nil, lap1, lap2, lap3, lap4, lap5, lap_nil]
  grind
theorem sw_0_2_0 (A : Nat → Nat → Int) (x y u0 u1 c0 c1 c2 c3 : Nat) : mi A [y, u0, u1, x] [c0, c1, c2, c3] = - mi A [x, u0, u1, y] [c0, c1, c2, c3] := by
  simp only [mi, List.map_cons, List.map_nil, lap1, lap2, lap3, lap4, lap5, lap_nil]
  grind
theorem sw_1_0_1 (A : Nat → Nat → Int) (x y r0 w0 c0 c1 c2 c3 : Nat) : mi A [r0, y, x, w0] [c0, c1, c2, c3] = - mi A [r0, x, y, w0] [c0, c1, c2, c3] := by
  simp only [mi, List.map_cons, List.map_nil, lap1, lap2, lap3, lap4, lap5, lap_nil]
  grind
theorem sw_1_1_0 (A : Nat → Nat → Int) (x y r0 u0 c0 c1 c2 c3 : Nat) : mi A [r0, y, u0, x] [c0, c1, c2, c3] = - mi A [r0, x, u0, y] [c0, c1, c2, c3] := by
  simp only [mi, List.map_cons, List.map_nil, lap1, lap2, lap3, lap4, lap5, lap_nil]
  grind
theorem sw_2_0_0 (A : Nat → Nat → Int) (x y r0 r1 c0 c1 c2 c3 : Nat) : mi A [r0, r1, y, x] [c0, c1, c2, c3] = - mi A [r0, r1, x, y] [c0, c1, c2, c3] := by
  simp only [mi, List.map_cons, List.map_nil, lap1, lap2, lap3, lap4, lap5, lap_nil]
  grind
theorem sw_0_0_3 (A : Nat → Nat → Int) (x y w0 w1 w2 c0 c1 c2 c3 c4 : Nat) : mi A [y, x, w0, w1, w2] [c0, c1, c2, c3, c4] = - mi A [x, y, w0, w1, w2] [c0, c1, c2, c3, c4] := by
  simp only [mi, List.map_cons, List.map_nil, lap1, lap2, lap3, lap4, lap5, lap_nil]
  grind
theorem sw_0_1_2 (A : Nat → Nat → Int) (x y u0 w0 w1 c0 c1 c2 c3 c4 : Nat) : mi A [y, u0, x, w0, w1] [c0, c1, c2, c3, c4] = - mi A [x, u0, y, w0, w1] [c0, c1, c2, c3, c4] := by
  simp only [mi, List.map_cons, List.map_nil, lap1, lap2, lap3, lap4, lap5, lap_nil]
  grind
theorem sw_0_2_1 (A : Nat → Nat → Int) (x y u0 u1 w0 c0 c1 c2 c3 c4 : Nat) : mi A [y, u0, u1, x, w0] [c0, c1, c2, c3, c4] = - mi A [x, u0, u1, y, w0] [c0, c1, c2, c3, c4] := by
  simp only [mi, List.map_cons, List.map_nil, lap1, lap2, lap3, lap4, lap5, lap_nil]
  grind
theorem sw_0_3_0 (A : Nat → Nat → Int) (x y u0 u1 u2 c0 c1 c2 c3 c4 : Nat) : mi A [y, u0, u1, u2, x] [c0, c1, c2, c3, c4] = - mi A [x, u0, u1, u2, y] [c0, c1, c2, c3, c4] := by
  simp only [mi, List.map_cons, List.map_nil, lap1, lap2, lap3, lap4, lap5, lap_nil]
  grind
theorem sw_1_0_2 (A : Nat → Nat → Int) (x y r0 w0 w1 c0 c1 c2 c3 c4 : Nat) : mi A [r0, y, x, w0, w1] [c0, c1, c2, c3, c4] = - mi A [r0, x, y, w0, w1] [c0, c1, c2, c3, c4] := by
  simp only [mi, List.map_cons, List.map_nil, lap1, lap2, lap3, lap4, lap5, lap_nil]
  grind
theorem sw_1_1_1 (A : Nat → Nat → Int) (x y r0 u0 w0 c0 c1 c2 c3 c4 : Nat) : mi A [r0, y, u0, x, w0] [c0, c1, c2, c3, c4] = - mi A [r0, x, u0, y, w0] [c0, c1, c2, c3, c4] := by
  simp only [mi, List.map_cons, List.map_nil, lap1, lap2, lap3, lap4, lap5, lap_nil]
  grind
theorem sw_1_2_0 (A : Nat → Nat → Int) (x y r0 u0 u1 c0 c1 c2 c3 c4 : Nat) : mi A [r0, y, u0, u1, x] [c0, c1, c2, c3, c4] = - mi A [r0, x, u0, u1, y] [c0, c1, c2, c3, c4] := by
  simp only [mi, List.map_cons, List.map_nil, lap1, lap2, lap3, lap4, lap5, lap_nil]
  grind
theorem sw_2_0_1 (A : Nat → Nat → Int) (x y r0 r1 w0 c0 c1 c2 c3 c4 : Nat) : mi A [r0, r1, y, x, w0] [c0, c1, c2, c3, c4] = - mi A [r0, r1, x, y, w0] [c0, c1, c2, c3, c4] := by
  simp only [mi, List.map_cons, List.map_nil, lap1, lap2, lap3, lap4, lap5, lap_nil]
  grind
theorem sw_2_1_0 (A : Nat → Nat → Int) (x y r0 r1 u0 c0 c1 c2 c3 c4 : Nat) : mi A [r0, r1, y, u0, x] [c0, c1, c2, c3, c4] = - mi A [r0, r1, x, u0, y] [c0, c1, c2, c3, c4] := by
  simp only [mi, List.map_cons, List.map_nil, lap1, lap2, lap3, lap4, lap5, lap_nil]
  grind
theorem sw_3_0_0 (A : Nat → Nat → Int) (x y r0 r1 r2 c0 c1 c2 c3 c4 : Nat) : mi A [r0, r1, r2, y, x] [c0, c1, c2, c3, c4] = - mi A [r0, r1, r2, x, y] [c0, c1, c2, c3, c4] := by
  simp only [mi, List.map_cons, List.map_nil, lap1, lap2, lap3, lap4, lap5, lap_nil]
  grind
end Alg
namespace Alg
theorem zc_0_0 (A : Nat → Nat → Int) (c i0 : Nat) : mi A [] [] * mi A [i0] [c] = mi A [i0] [c] * mi A [] [] := by
  exact Int.mul_comm _ _
theorem zc_0_1 (A : Nat → Nat → Int) (c i0 i1 j0 : Nat) : mi A [] [] * mi A [i0, i1] [c, j0] = mi A [i0] [c] * mi A [i1] [j0] - mi A [i1] [c] * mi A [i0] [j0] := by
  exact (jac0 A i0 i1 c j0).symm
theorem zc_0_2 (A : Nat → Nat → Int) (c i0 i1 i2 j0 j1 : Nat) : mi A [] [] * mi A [i0, i1, i2] [c, j0, j1] = mi A [i0] [c] * mi A [i1, i2] [j0, j1] - mi A [i1] [c] * mi A [i0, i2] [j0, j1] + mi A [i2] [c] * mi A [i0, i1] [j0, j1] := by
  simp only [mi, List.map_cons, List.map_nil, lap1, lap2, lap3, lap4, lap5, lap_nil]
  grind
theorem zc_0_3 (A : Nat → Nat → Int) (c i0 i1 i2 i3 j0 j1 j2 : Nat) : mi A [] [] * mi A [i0, i1, i2, i3] [c, j0, j1, j2] = mi A [i0] [c] * mi A [i1, i2, i3] [j0, j1, j2] - mi A [i1] [c] * mi A [i0, i2, i3] [j0, j1, j2] + mi A [i2] [c] * mi A [i0, i1, i3] [j0, j1, j2] - mi A [i3] [c] * mi A [i0, i1, i2] [j0, j1, j2] := by
  simp only [mi, List.map_cons, List.map_nil, lap1, lap2, lap3, lap4, lap5, lap_nil]
  grind
theorem zc_0_4 (A : Nat → Nat → Int) (c i0 i1 i2 i3 i4 j0 j1 j2 j3 : Nat) : mi A [] [] * mi A [i0, i1, i2, i3, i4] [c, j0, j1, j2, j3] = mi A [i0] [c] * mi A [i1, i2, i3, i4] [j0, j1, j2, j3] - mi A [i1] [c] * mi A [i0, i2, i3, i4] [j0, j1, j2, j3] + mi A [i2] [c] * mi A [i0, i1, i3, i4] [j0, j1, j2, j3] - mi A [i3] [c] * mi A [i0, i1, i2, i4] [j0, j1, j2, j3] + mi A [i4] [c] * mi A [i0, i1, i2, i3] [j0, j1, j2, j3] := by
  simp only [mi, List.map_cons, List.map_nil, lap1, lap2, lap3, lap4, lap5, lap_nil]
  grind
theorem zc_1_0 (A : Nat → Nat → Int) (c r0 c0 i0 : Nat) : mi A [r0] [c0] * mi A [r0, i0] [c0, c] = mi A [r0, i0] [c0, c] * mi A [r0] [c0] := by
  exact Int.mul_comm _ _
theorem zc_1_1 (A : Nat → Nat → Int) (c r0 c0 i0 i1 j0 : Nat) : mi A [r0] [c0] * mi A [r0, i0, i1] [c0, c, j0] = mi A [r0, i0] [c0, c] * mi A [r0, i1] [c0, j0] - mi A [r0, i1] [c0, c] * mi A [r0, i0] [c0, j0] := by
  exact (jac1 A r0 c0 i0 i1 c j0).symm
theorem zc_1_2 (A : Nat → Nat → Int) (c r0 c0 i0 i1 i2 j0 j1 : Nat) : mi A [r0] [c0] * mi A [r0, i0, i1, i2] [c0, c, j0, j1] = mi A [r0, i0] [c0, c] * mi A [r0, i1, i2] [c0, j0, j1] - mi A [r0, i1] [c0, c] * mi A [r0, i0, i2] [c0, j0, j1] + mi A [r0, i2] [c0, c] * mi A [r0, i0, i1] [c0, j0, j1] := by
  simp only [mi, List.map_cons, List.map_nil, lap1, lap2, lap3, lap4, lap5, lap_nil]
  grind
theorem zc_1_3 (A : Nat → Nat → Int) (c r0 c0 i0 i1 i2 i3 j0 j1 j2 : Nat) : mi A [r0] [c0] * mi A [r0, i0, i1, i2, i3] [c0, c, j0, j1, j2] = mi A [r0, i0] [c0, c] * mi A [r0, i1, i2, i3] [c0, j0, j1, j2] - mi A [r0, i1] [c0, c] * mi A [r0, i0, i2, i3] [c0, j0, j1, j2] + mi A [r0, i2] [c0, c] * mi A [r0, i0, i1, i3] [c0, j0, j1, j2] - mi A [r0, i3] [c0, c] * mi A [r0, i0, i1, i2] [c0, j0, j1, j2] := by
  simp only [mi, List.map_cons, List.map_nil, lap1, lap2, lap3, lap4, lap5, lap_nil]
  grind
theorem zc_2_0 (A : Nat → Nat → Int) (c r0 r1 c0 c1 i0 : Nat) : mi A [r0, r1] [c0, c1] * mi A [r0, r1, i0] [c0, c1, c] = mi A [r0, r1, i0] [c0, c1, c] * mi A [r0, r1] [c0, c1] := by
  exact Int.mul_comm _ _
theorem zc_2_1 (A : Nat → Nat → Int) (c r0 r1 c0 c1 i0 i1 j0 : Nat) : mi A [r0, r1] [c0, c1] * mi A [r0, r1, i0, i1] [c0, c1, c, j0] = mi A [r0, r1, i0] [c0, c1, c] * mi A [r0, r1, i1] [c0, c1, j0] - mi A [r0, r1, i1] [c0, c1, c] * mi A [r0, r1, i0] [c0, c1, j0] := by
  exact (jac2 A r0 r1 c0 c1 i0 i1 c j0).symm
theorem zc_2_2 (A : Nat → Nat → Int) (c r0 r1 c0 c1 i0 i1 i2 j0 j1 : Nat) : mi A [r0, r1] [c0, c1] * mi A [r0, r1, i0, i1, i2] [c0, c1, c, j0, j1] = mi A [r0, r1, i0] [c0, c1, c] * mi A [r0, r1, i1, i2] [c0, c1, j0, j1] - mi A [r0, r1, i1] [c0, c1, c] * mi A [r0, r1, i0, i2] [c0, c1, j0, j1] + mi A [r0, r1, i2] [c0, c1, c] * mi A [r0, r1, i0, i1] [c0, c1, j0, j1] := by
  simp only [mi, List.map_cons, List.map_nil, lap1, lap2, lap3, lap4, lap5, lap_nil]
  grind
theorem zc_3_0 (A : Nat → Nat → Int) (c r0 r1 r2 c0 c1 c2 i0 : Nat) : mi A [r0, r1, r2] [c0, c1, c2] * mi A [r0, r1, r2, i0] [c0, c1, c2, c] = mi A [r0, r1, r2, i0] [c0, c1, c2, c] * mi A [r0, r1, r2] [c0, c1, c2] := by
  exact Int.mul_comm _ _
theorem zc_3_1 (A : Nat → Nat → Int) (c r0 r1 r2 c0 c1 c2 i0 i1 j0 : Nat) : mi A [r0, r1, r2] [c0, c1, c2] * mi A [r0, r1, r2, i0, i1] [c0, c1, c2, c, j0] = mi A [r0, r1, r2, i0] [c0, c1, c2, c] * mi A [r0, r1, r2, i1] [c0, c1, c2, j0] - mi A [r0, r1, r2, i1] [c0, c1, c2, c] * mi A [r0, r1, r2, i0] [c0, c1, c2, j0] := by
  exact (jac3 A r0 r1 r2 c0 c1 c2 i0 i1 c j0).symm
theorem zc_4_0 (A : Nat → Nat → Int) (c r0 r1 r2 r3 c0 c1 c2 c3 i0 : Nat) : mi A [r0, r1, r2, r3] [c0, c1, c2, c3] * mi A [r0, r1, r2, r3, i0] [c0, c1, c2, c3, c] = mi A [r0, r1, r2, r3, i0] [c0, c1, c2, c3, c] * mi A [r0, r1, r2, r3] [c0, c1, c2, c3] := by
  exact Int.mul_comm _ _
end Alg
namespace Alg
theorem tr_0 (A : Nat → Nat → Int)  : mi (fun a b => A b a) [] [] = mi A [] [] := by
  simp only [mi, List.map_cons, List.map_nil, lap1, lap2, lap3, lap4, lap5, lap_nil]
theorem tr_1 (A : Nat → Nat → Int) (r0 c0 : Nat) : mi (fun a b => A b a) [c0] [r0] = mi A [r0] [c0] := by
  simp only [mi, List.map_cons, List.map_nil, lap1, lap2, lap3, lap4, lap5, lap_nil]
theorem tr_2 (A : Nat → Nat → Int) (r0 r1 c0 c1 : Nat) : mi (fun a b => A b a) [c0, c1] [r0, r1] = mi A [r0, r1] [c0, c1] := by
  simp only [mi, List.map_cons, List.map_nil, lap1, lap2, lap3, lap4, lap5, lap_nil]
  grind
theorem tr_3 (A : Nat → Nat → Int) (r0 r1 r2 c0 c1 c2 : Nat) : mi (fun a b => A b a) [c0, c1, c2] [r0, r1, r2] = mi A [r0, r1, r2] [c0, c1, c2] := by
  simp only [mi, List.map_cons, List.map_nil, lap1, lap2, lap3, lap4, lap5, lap_nil]
  grind
theorem tr_4 (A : Nat → Nat → Int) (r0 r1 r2 r3 c0 c1 c2 c3 : Nat) : mi (fun a b => A b a) [c0, c1, c2, c3] [r0, r1, r2, r3] = mi A [r0, r1, r2, r3] [c0, c1, c2, c3] := by
  simp only [mi, List.map_cons, List.map_nil, lap1, lap2, lap3, lap4, lap5, lap_nil]
  grind
theorem tr_5 (A : Nat → Nat → Int) (r0 r1 r2 r3 r4 c0 c1 c2 c3 c4 : Nat) : mi (fun a b => A b a) [c0, c1, c2, c3, c4] [r0, r1, r2, r3, r4] = mi A [r0, r1, r2, r3, r4] [c0, c1, c2, c3, c4] := by
  simp only [mi, List.map_cons, List.map_nil, lap1, lap2, lap3, lap4, lap5, lap_nil]
  grind
end Alg
namespace Alg
theorem len0 {l : List Nat} (h : l.length = 0) : l = [] := List.eq_nil_of_length_eq_zero h
theorem lenS {l : List Nat} {n : Nat} (h : l.length = n + 1) : ∃ a r, l = a :: r ∧ r.length = n := by
  cases l with
  | nil => cases h
  | cons a r => exact ⟨a, r, rfl, Nat.succ.inj h⟩
theorem len1 {l : List Nat} (h : l.length = 1) : ∃ a, l = [a] := by
  obtain ⟨a, r, rfl, h2⟩ := lenS h
  obtain rfl := len0 h2
  exact ⟨a, rfl⟩
theorem len2 {l : List Nat} (h : l.length = 2) : ∃ a b, l = [a, b] := by
  obtain ⟨a, r, rfl, h2⟩ := lenS h
  obtain ⟨b, rfl⟩ := len1 h2
  exact ⟨a, b, rfl⟩
theorem len3 {l : List Nat} (h : l.length = 3) : ∃ a b c, l = [a, b, c] := by
  obtain ⟨a, r, rfl, h2⟩ := lenS h
  obtain ⟨b, c, rfl⟩ := len2 h2
  exact ⟨a, b, c, rfl⟩
theorem len4 {l : List Nat} (h : l.length = 4) : ∃ a b c d, l = [a, b, c, d] := by
  obtain ⟨a, r, rfl, h2⟩ := lenS h
  obtain ⟨b, c, d, rfl⟩ := len3 h2
  exact ⟨a, b, c, d, rfl⟩
theorem len5 {l : List Nat} (h : l.length = 5) : ∃ a b c d e, l = [a, b, c, d, e] := by
  obtain ⟨a, r, rfl, h2⟩ := lenS h
  obtain ⟨b, c, d, e, rfl⟩ := len4 h2
  exact ⟨a, b, c, d, e, rfl⟩
/-- Jacobi's identity, for lists -/
theorem jac (A : Nat → Nat → Int) (rs cs : List Nat) (r i c j : Nat) (h : rs.length = cs.length) (hk : rs.length ≤ 3) :
    mi A (rs ++ [r]) (cs ++ [c]) * mi A (rs ++ [i]) (cs ++ [j]) - mi A (rs ++ [i]) (cs ++ [c]) * mi A (rs ++ [r]) (cs ++ [j]) = mi A rs cs * mi A (rs ++ [r, i]) (cs ++ [c, j]) := by
  have hk' : rs.length = 0 ∨ rs.length = 1 ∨ rs.length = 2 ∨ rs.length = 3 := by omega
  rcases hk' with e | e | e | e <;> have e2 := h.symm.trans e
  · rw [len0 e, len0 e2]
    exact jac0 A r i c j
  · obtain ⟨a, rfl⟩ := len1 e
    obtain ⟨b, rfl⟩ := len1 e2
    exact jac1 A a b r i c j
  · obtain ⟨a1, a2, rfl⟩ := len2 e
    obtain ⟨b1, b2, rfl⟩ := len2 e2
    exact jac2 A a1 a2 b1 b2 r i c j
  · obtain ⟨a1, a2, a3, rfl⟩ := len3 e
    obtain ⟨b1, b2, b3, rfl⟩ := len3 e2
    exact jac3 A a1 a2 a3 b1 b2 b3 r i c j
/-- what an exact step of the elimination finds -/
theorem jac_div (A : Nat → Nat → Int) (rs cs : List Nat) (r i c j : Nat) (h : rs.length = cs.length) (hk : rs.length ≤ 3) (nz : mi A rs cs ≠ 0) :
    (mi A (rs ++ [r]) (cs ++ [c]) * mi A (rs ++ [i]) (cs ++ [j]) - mi A (rs ++ [i]) (cs ++ [c]) * mi A (rs ++ [r]) (cs ++ [j])).fdiv (mi A rs cs) = mi A (rs ++ [r, i]) (cs ++ [c, j]) := by
  rw [jac A rs cs r i c j h hk]
  exact Int.mul_fdiv_cancel_left _ nz
/-- two rows exchanged -/
theorem swp (A : Nat → Nat → Int) (rs l1 l2 cs : List Nat) (x y : Nat) (h : rs.length + l1.length + l2.length + 2 = cs.length) (h5 : cs.length ≤ 5) : mi A (rs ++ y :: (l1 ++ x :: l2)) cs = - mi A (rs ++ x :: (l1 ++ y :: l2)) cs := by
  have h1 : rs.length = 0 ∨ rs.length = 1 ∨ rs.length = 2 ∨ rs.length = 3 := by omega
  have h2 : l1.length = 0 ∨ l1.length = 1 ∨ l1.length = 2 ∨ l1.length = 3 := by omega
  have h3 : l2.length = 0 ∨ l2.length = 1 ∨ l2.length = 2 ∨ l2.length = 3 := by omega
  rcases h1 with e1 | e1 | e1 | e1 <;> rcases h2 with e2 | e2 | e2 | e2 <;> rcases h3 with e3 | e3 | e3 | e3 <;> (try (exfalso; omega))
  all_goals rw [e1, e2, e3] at h
  all_goals first
    | (obtain ⟨c1, c2, rfl⟩ := len2 h.symm)
    | (obtain ⟨c1, c2, c3, rfl⟩ := len3 h.symm)
    | (obtain ⟨c1, c2, c3, c4, rfl⟩ := len4 h.symm)
    | (obtain ⟨c1, c2, c3, c4, c5, rfl⟩ := len5 h.symm)
  all_goals first | (obtain rfl := len0 e1) | (obtain ⟨r1, rfl⟩ := len1 e1) | (obtain ⟨r1, r2, rfl⟩ := len2 e1) | (obtain ⟨r1, r2, r3, rfl⟩ := len3 e1)
  all_goals first | (obtain rfl := len0 e2) | (obtain ⟨u1, rfl⟩ := len1 e2) | (obtain ⟨u1, u2, rfl⟩ := len2 e2) | (obtain ⟨u1, u2, u3, rfl⟩ := len3 e2)
  all_goals first | (obtain rfl := len0 e3) | (obtain ⟨v1, rfl⟩ := len1 e3) | (obtain ⟨v1, v2, rfl⟩ := len2 e3) | (obtain ⟨v1, v2, v3, rfl⟩ := len3 e3)
  all_goals first
    | exact sw_0_0_0 A x y .. | exact sw_0_0_1 A x y .. | exact sw_0_0_2 A x y .. | exact sw_0_0_3 A x y ..
    | exact sw_0_1_0 A x y .. | exact sw_0_1_1 A x y .. | exact sw_0_1_2 A x y .. | exact sw_0_2_0 A x y .. | exact sw_0_2_1 A x y .. | exact sw_0_3_0 A x y ..
    | exact sw_1_0_0 A x y .. | exact sw_1_0_1 A x y .. | exact sw_1_0_2 A x y .. | exact sw_1_1_0 A x y .. | exact sw_1_1_1 A x y .. | exact sw_1_2_0 A x y ..
    | exact sw_2_0_0 A x y .. | exact sw_2_0_1 A x y .. | exact sw_2_1_0 A x y .. | exact sw_3_0_0 A x y ..
/-- a column without a pivot -/
theorem zcol (A : Nat → Nat → Int) (rs cs rest crest : List Nat) (c : Nat) (h : rs.length = cs.length) (hr : rest.length = crest.length + 1) (h5 : rs.length + rest.length ≤ 5) (hz : ∀ i ∈ rest, mi A (rs ++ [i]) (cs ++ [c]) = 0) (nz : mi A rs cs ≠ 0) :
    mi A (rs ++ rest) (cs ++ c :: crest) = 0 := by
  have key : mi A rs cs * mi A (rs ++ rest) (cs ++ c :: crest) = 0 := by
    have h1 : rs.length = 0 ∨ rs.length = 1 ∨ rs.length = 2 ∨ rs.length = 3 ∨ rs.length = 4 := by omega
    have h2 : crest.length = 0 ∨ crest.length = 1 ∨ crest.length = 2 ∨ crest.length = 3 ∨ crest.length = 4 := by omega
    rcases h1 with e1 | e1 | e1 | e1 | e1 <;> rcases h2 with e2 | e2 | e2 | e2 | e2 <;> (try (exfalso; omega))
    all_goals rw [e2] at hr
    all_goals have e3 := h.symm.trans e1
    all_goals first | (obtain rfl := len0 e1) | (obtain ⟨r1, rfl⟩ := len1 e1) | (obtain ⟨r1, r2, rfl⟩ := len2 e1) | (obtain ⟨r1, r2, r3, rfl⟩ := len3 e1) | (obtain ⟨r1, r2, r3, r4, rfl⟩ := len4 e1)
    all_goals first | (obtain rfl := len0 e3) | (obtain ⟨s1, rfl⟩ := len1 e3) | (obtain ⟨s1, s2, rfl⟩ := len2 e3) | (obtain ⟨s1, s2, s3, rfl⟩ := len3 e3) | (obtain ⟨s1, s2, s3, s4, rfl⟩ := len4 e3)
    all_goals first | (obtain rfl := len0 e2) | (obtain ⟨u1, rfl⟩ := len1 e2) | (obtain ⟨u1, u2, rfl⟩ := len2 e2) | (obtain ⟨u1, u2, u3, rfl⟩ := len3 e2) | (obtain ⟨u1, u2, u3, u4, rfl⟩ := len4 e2)
    all_goals first | (obtain ⟨v1, rfl⟩ := len1 hr) | (obtain ⟨v1, v2, rfl⟩ := len2 hr) | (obtain ⟨v1, v2, v3, rfl⟩ := len3 hr) | (obtain ⟨v1, v2, v3, v4, rfl⟩ := len4 hr) | (obtain ⟨v1, v2, v3, v4, v5, rfl⟩ := len5 hr)
    all_goals simp only [List.mem_cons, List.not_mem_nil, or_false, forall_eq_or_imp, forall_eq, List.nil_append, List.cons_append] at hz ⊢
    all_goals first
      | rw [zc_0_0 A] | rw [zc_0_1 A] | rw [zc_0_2 A] | rw [zc_0_3 A] | rw [zc_0_4 A] | rw [zc_1_0 A] | rw [zc_1_1 A] | rw [zc_1_2 A] | rw [zc_1_3 A] | rw [zc_2_0 A] | rw [zc_2_1 A] | rw [zc_2_2 A] | rw [zc_3_0 A] | rw [zc_3_1 A] | rw [zc_4_0 A]
    all_goals simp only [List.nil_append, List.cons_append, hz, Int.zero_mul, Int.sub_self, Int.add_zero, Int.neg_zero, Int.sub_zero]
  rcases Int.mul_eq_zero.mp key with e | e
  · exact absurd e nz
  · exact e
end Alg
namespace Alg
theorem range_split {k n : Nat} (h : k < n) : List.range n = List.range k ++ k :: List.range' (k + 1) (n - k - 1) := by
  rw [List.range_eq_range', List.range_eq_range']
  have e : n = k + ((n - k - 1) + 1) := by omega
  conv => lhs; rw [e]
  rw [← List.range'_append]
  simp [List.range'_succ]
/-- the state of the elimination ahead of column k: L the table as it stands, done and rest the rows in their order by now -/
structure St (A : Nat → Nat → Int) (n k : Nat) (L : Nat → Nat → Int) (sign scale : Int) (done rest : List Nat) : Prop where
  hd : done.length = k
  hr : done.length + rest.length = n
  hs : scale = mi A done (List.range k)
  nz : scale ≠ 0
  det : sign * mi A (done ++ rest) (List.range n) = mi A (List.range n) (List.range n)
  sg : sign = 1 ∨ sign = -1
  ent : ∀ t i, rest[t]? = some i → ∀ j, k ≤ j → j < n → L (k + t) j = mi A (done ++ [i]) (List.range k ++ [j])
theorem St.start {A L : Nat → Nat → Int} {n : Nat} (h : ∀ i j, i < n → j < n → L i j = A i j) : St A n 0 L 1 1 [] (List.range n) where
  hd := rfl
  hr := by simp
  hs := by rw [List.range_zero, mi0]
  nz := by decide
  det := by simp
  sg := Or.inl rfl
  ent := fun t i e j _ hj => by
    have ht : t < n := by
      rcases Nat.lt_or_ge t n with q | q
      · exact q
      · rw [List.getElem?_eq_none (by simpa using q)] at e
        cases e
    rw [List.getElem?_range ht] at e
    obtain rfl := Option.some.inj e
    rw [List.nil_append, List.range_zero, List.nil_append, mi1, Nat.zero_add]
    exact h t j ht hj
theorem St.none {A L : Nat → Nat → Int} {n k : Nat} {sign scale : Int} {done rest : List Nat} (s : St A n k L sign scale done rest) (hk : k < n) (h5 : n ≤ 5) (hz : ∀ i, k ≤ i → i < n → L i k = 0) :
    mi A (List.range n) (List.range n) = 0 := by
  have hl := s.hr
  have hd := s.hd
  have z : mi A (done ++ rest) (List.range k ++ k :: List.range' (k + 1) (n - k - 1)) = 0 := by
    refine zcol A done (List.range k) rest _ k (by simp [hd]) (by simp; omega) (by omega) (fun i hi => ?_) (by rw [← s.hs]; exact s.nz)
    obtain ⟨t, ht⟩ := List.getElem?_of_mem hi
    have htl : t < rest.length := by
      rcases Nat.lt_or_ge t rest.length with q | q
      · exact q
      · rw [List.getElem?_eq_none q] at ht
        cases ht
    rw [← s.ent t i ht k (Nat.le_refl k) hk]
    exact hz _ (by omega) (by omega)
  have e := s.det
  rw [← range_split hk] at z
  rw [z, Int.mul_zero] at e
  exact e.symm
theorem St.stop {A L : Nat → Nat → Int} {n : Nat} {sign scale : Int} {done rest : List Nat} (s : St A n n L sign scale done rest) : sign * scale = mi A (List.range n) (List.range n) := by
  have hl := s.hr
  have hd := s.hd
  have e : rest = [] := len0 (by omega)
  have d := s.det
  rw [e, List.append_nil, ← s.hs] at d
  exact d
theorem St.step {A L L' : Nat → Nat → Int} {n k : Nat} {sign scale : Int} {done rest : List Nat} (s : St A n k L sign scale done rest) (hk : k < n) (h5 : n ≤ 5) (p : L k k ≠ 0)
    (hL : ∀ i j, k < i → i < n → k < j → j < n → L' i j = (L k k * L i j - L i k * L k j).fdiv scale) : ∃ done' rest', St A n (k + 1) L' sign (L k k) done' rest' := by
  have hl := s.hr
  have hd := s.hd
  obtain ⟨x, r, rfl, hr⟩ : ∃ x r, rest = x :: r ∧ r.length = n - k - 1 := by
    obtain ⟨x, r, e, h⟩ := lenS (l := rest) (n := n - k - 1) (by omega)
    exact ⟨x, r, e, h⟩
  have ex : ∀ j, k ≤ j → j < n → L k j = mi A (done ++ [x]) (List.range k ++ [j]) := fun j h1 h2 => s.ent 0 x rfl j h1 h2
  refine ⟨done ++ [x], r, by rw [List.length_append, hd]; rfl, by rw [List.length_append, hd, hr]; show k + 1 + (n - k - 1) = n; omega, by rw [ex k (Nat.le_refl k) hk, List.range_succ], p, ?_, s.sg, fun t i e j hj1 hj2 => ?_⟩
  · rw [← s.det, List.append_assoc]
    rfl
  · have ht : t < r.length := by
      rcases Nat.lt_or_ge t r.length with q | q
      · exact q
      · rw [List.getElem?_eq_none q] at e
        cases e
    have ei : ∀ j, k ≤ j → j < n → L (k + 1 + t) j = mi A (done ++ [i]) (List.range k ++ [j]) := fun j h1 h2 => by
      have := s.ent (t + 1) i (by rw [List.getElem?_cons_succ]; exact e) j h1 h2
      rw [← this]
      congr 1
      omega
    rw [hL (k + 1 + t) j (by omega) (by omega) (by omega) hj2, ex k (Nat.le_refl k) hk, ei j (by omega) hj2, ei k (Nat.le_refl k) hk, ex j (by omega) hj2, s.hs]
    rw [jac_div A done (List.range k) x i k j (by simp [hd]) (by omega) (by rw [← s.hs]; exact s.nz), List.append_assoc, List.range_succ, List.append_assoc]
    rfl
theorem St.swap {A L L' : Nat → Nat → Int} {n k t0 : Nat} {sign scale : Int} {done rest : List Nat} (s : St A n k L sign scale done rest) (h5 : n ≤ 5) (h0 : 0 < t0) (ht : k + t0 < n)
    (hL : ∀ i j, i < n → L' i j = if i = k then L (k + t0) j else if i = k + t0 then L k j else L i j) : ∃ rest', St A n k L' (-sign) scale done rest' := by
  have hl := s.hr
  have hd := s.hd
  obtain ⟨x, r, rfl, hr⟩ : ∃ x r, rest = x :: r ∧ r.length = n - k - 1 := by
    obtain ⟨x, r, e, h⟩ := lenS (l := rest) (n := n - k - 1) (by omega)
    exact ⟨x, r, e, h⟩
  obtain ⟨y, hy⟩ : ∃ y, r[t0 - 1]? = some y := ⟨_, List.getElem?_eq_getElem (by omega)⟩
  obtain ⟨l1, l2, hr2, hl1⟩ : ∃ l1 l2, r = l1 ++ y :: l2 ∧ l1.length = t0 - 1 := by
    refine ⟨r.take (t0 - 1), r.drop t0, ?_, by rw [List.length_take]; omega⟩
    have e1 : r.drop (t0 - 1) = y :: r.drop t0 := by
      have hlt : t0 - 1 < r.length := by omega
      rw [List.drop_eq_getElem_cons hlt]
      have e2 : r[t0 - 1] = y := Option.some.inj ((List.getElem?_eq_getElem hlt).symm.trans hy)
      rw [e2]
      congr 2
      omega
    rw [← e1, List.take_append_drop]
  subst hr2
  refine ⟨y :: (l1 ++ x :: l2), hd, ?_, s.hs, s.nz, ?_, ?_, fun t i e j hj1 hj2 => ?_⟩
  · simp only [List.length_cons, List.length_append] at hl ⊢
    omega
  · have sw := swp A done l1 l2 (List.range n) x y (by simp only [List.length_cons, List.length_append, List.length_range] at hl ⊢; omega) (by simpa using h5)
    rw [sw, Int.neg_mul_neg]
    exact s.det
  · rcases s.sg with e | e
    · exact Or.inr (by rw [e])
    · exact Or.inl (by rw [e]; rfl)
  · have lt : t < (y :: (l1 ++ x :: l2)).length := by
      rcases Nat.lt_or_ge t (y :: (l1 ++ x :: l2)).length with q | q
      · exact q
      · rw [List.getElem?_eq_none q] at e
        cases e
    have lt2 : k + t < n := by
      simp only [List.length_cons, List.length_append] at lt hl
      omega
    rw [hL (k + t) j lt2]
    have ats : ∀ (u v : Nat) (q : Nat), q < t0 - 1 → (l1 ++ u :: l2)[q]? = l1[q]? := fun u v q hq => List.getElem?_append_left (by omega)
    by_cases e0 : t = 0
    · subst e0
      rw [if_pos (by omega)]
      have ey : i = y := (Option.some.inj e).symm
      rw [ey]
      refine s.ent t0 y ?_ j hj1 hj2
      obtain ⟨u, rfl⟩ : ∃ u, t0 = u + 1 := ⟨t0 - 1, by omega⟩
      rw [List.getElem?_cons_succ]
      exact hy
    · rw [if_neg (by omega)]
      obtain ⟨u, rfl⟩ : ∃ u, t = u + 1 := ⟨t - 1, by omega⟩
      rw [List.getElem?_cons_succ] at e
      by_cases e1 : u + 1 = t0
      · rw [if_pos (by omega)]
        have ex : i = x := by
          rw [List.getElem?_append_right (by omega)] at e
          have z : u - l1.length = 0 := by omega
          rw [z] at e
          exact (Option.some.inj e).symm
        rw [ex]
        exact s.ent 0 x rfl j hj1 hj2
      · rw [if_neg (by omega)]
        refine s.ent (u + 1) i ?_ j hj1 hj2
        rw [List.getElem?_cons_succ, ← e]
        rcases Nat.lt_or_ge u l1.length with q | q
        · rw [List.getElem?_append_left q, List.getElem?_append_left q]
        · rw [List.getElem?_append_right q, List.getElem?_append_right q]
          obtain ⟨v, hv⟩ : ∃ v, u - l1.length = v + 1 := ⟨u - l1.length - 1, by omega⟩
          rw [hv, List.getElem?_cons_succ, List.getElem?_cons_succ]
end Alg
namespace Alg
/-- sums over lists of indices -/
def S : List Nat → (Nat → Int) → Int
  | [], _ => 0
  | i :: r, f => f i + S r f
theorem S_congr {l : List Nat} {f g : Nat → Int} (h : ∀ i ∈ l, f i = g i) : S l f = S l g := by
  induction l with
  | nil => rfl
  | cons a r ih =>
    show f a + S r f = g a + S r g
    rw [h a List.mem_cons_self, ih fun i hi => h i (List.mem_cons_of_mem _ hi)]
theorem S_add (l : List Nat) (f g : Nat → Int) : S l (fun i => f i + g i) = S l f + S l g := by
  induction l with
  | nil => rfl
  | cons a r ih =>
    show f a + g a + S r _ = f a + S r f + (g a + S r g)
    rw [ih]
    omega
theorem S_sub (l : List Nat) (f g : Nat → Int) : S l (fun i => f i - g i) = S l f - S l g := by
  induction l with
  | nil => rfl
  | cons a r ih =>
    show f a - g a + S r _ = f a + S r f - (g a + S r g)
    rw [ih]
    omega
theorem S_mul (l : List Nat) (c : Int) (f : Nat → Int) : S l (fun i => c * f i) = c * S l f := by
  induction l with
  | nil => exact (Int.mul_zero c).symm
  | cons a r ih =>
    show c * f a + S r _ = c * (f a + S r f)
    rw [ih, Int.mul_add]
theorem S_zero {l : List Nat} {f : Nat → Int} (h : ∀ i ∈ l, f i = 0) : S l f = 0 := by
  induction l with
  | nil => rfl
  | cons a r ih =>
    show f a + S r f = 0
    rw [h a List.mem_cons_self, ih fun i hi => h i (List.mem_cons_of_mem _ hi)]
    rfl
theorem S_perm {l m : List Nat} (h : l.Perm m) (f : Nat → Int) : S l f = S m f := by
  induction h with
  | nil => rfl
  | cons a _ ih =>
    show f a + _ = f a + _
    rw [ih]
  | swap a b r =>
    show f b + (f a + S r f) = f a + (f b + S r f)
    omega
  | trans _ _ i1 i2 => exact i1.trans i2
/-- the vector with 1 at j -/
def E (j : Nat) : Nat → Int := fun i => if i = j then 1 else 0
theorem S_E {l : List Nat} {j : Nat} (hn : l.Nodup) (hj : j ∈ l) (f : Nat → Int) : S l (fun i => E j i * f i) = f j := by
  induction l with
  | nil => cases hj
  | cons a r ih =>
    obtain ⟨ha, hr⟩ := List.nodup_cons.mp hn
    show E j a * f a + S r _ = f j
    by_cases e : a = j
    · subst e
      rw [S_zero fun i hi => ?_]
      · unfold E
        rw [if_pos rfl]
        omega
      · have : i ≠ a := fun z => ha (z ▸ hi)
        unfold E
        rw [if_neg this, Int.zero_mul]
    · have hj2 : j ∈ r := by
        rcases List.mem_cons.mp hj with z | z
        · exact absurd z.symm e
        · exact z
      rw [ih hr hj2]
      unfold E
      rw [if_neg e]
      omega
/-- the form of B over the indices of l -/
def Qf (B : Nat → Nat → Int) (l : List Nat) (x : Nat → Int) : Int := S l fun i => S l fun j => x i * x j * B i j
def Psd (B : Nat → Nat → Int) (l : List Nat) : Prop := ∀ x, 0 ≤ Qf B l x
def Sym (B : Nat → Nat → Int) (l : List Nat) : Prop := ∀ i ∈ l, ∀ j ∈ l, B i j = B j i
theorem Qf_congr {B C : Nat → Nat → Int} {l : List Nat} {x y : Nat → Int} (h : ∀ i ∈ l, ∀ j ∈ l, B i j = C i j) (hx : ∀ i ∈ l, x i = y i) : Qf B l x = Qf C l y :=
  S_congr fun i hi => S_congr fun j hj => by rw [h i hi j hj, hx i hi, hx j hj]
theorem Psd_congr {B C : Nat → Nat → Int} {l : List Nat} (h : ∀ i ∈ l, ∀ j ∈ l, B i j = C i j) : Psd B l ↔ Psd C l :=
  ⟨fun p x => by rw [← Qf_congr (y := x) h fun _ _ => rfl]; exact p x, fun p x => by rw [Qf_congr (y := x) h fun _ _ => rfl]; exact p x⟩
theorem Qf_perm {B : Nat → Nat → Int} {l m : List Nat} (h : l.Perm m) (x : Nat → Int) : Qf B l x = Qf B m x := by
  unfold Qf
  rw [S_perm h]
  exact S_congr fun i _ => S_perm h _
theorem Psd_perm {B : Nat → Nat → Int} {l m : List Nat} (h : l.Perm m) : Psd B l ↔ Psd B m :=
  ⟨fun p x => by rw [← Qf_perm h]; exact p x, fun p x => by rw [Qf_perm h]; exact p x⟩
theorem Qf_scale {B : Nat → Nat → Int} {l : List Nat} {c : Int} (x : Nat → Int) : Qf (fun i j => c * B i j) l x = c * Qf B l x := by
  unfold Qf
  rw [← S_mul]
  refine S_congr fun i _ => ?_
  rw [← S_mul]
  exact S_congr fun j _ => by rw [Int.mul_left_comm]
theorem Psd_scale {B : Nat → Nat → Int} {l : List Nat} {c : Int} (hc : 0 < c) : Psd (fun i j => c * B i j) l ↔ Psd B l :=
  ⟨fun p x => by
    have := p x
    rw [Qf_scale] at this
    exact Int.le_of_mul_le_mul_left (by rw [Int.mul_zero]; exact this) hc, fun p x => by
    rw [Qf_scale]
    exact Int.mul_nonneg (Int.le_of_lt hc) (p x)⟩
/-- an index is taken out -/
theorem Qf_cons {B : Nat → Nat → Int} {p : Nat} {l : List Nat} (hs : Sym B (p :: l)) (x : Nat → Int) : Qf B (p :: l) x = x p * x p * B p p + 2 * x p * S l (fun j => x j * B p j) + Qf B l x := by
  have e1 : S l (fun j => x p * x j * B p j) = x p * S l (fun j => x j * B p j) := by
    rw [← S_mul]
    exact S_congr fun j _ => Int.mul_assoc ..
  have e2 : S l (fun i => x i * x p * B i p) = x p * S l (fun j => x j * B p j) := by
    rw [← S_mul]
    refine S_congr fun j hj => ?_
    rw [hs j (List.mem_cons_of_mem _ hj) p List.mem_cons_self, Int.mul_comm (x j) (x p), Int.mul_assoc]
  show (x p * x p * B p p + S l fun j => x p * x j * B p j) + S l (fun i => x i * x p * B i p + S l fun j => x i * x j * B i j) = _
  rw [S_add, e1, e2]
  unfold Qf
  grind
/-- Schur's complement -/
def Sc (B : Nat → Nat → Int) (p : Nat) : Nat → Nat → Int := fun i j => B p p * B i j - B i p * B p j
theorem Sc_sym {B : Nat → Nat → Int} {p : Nat} {l : List Nat} (hs : Sym B (p :: l)) : Sym (Sc B p) l := fun i hi j hj => by
  unfold Sc
  rw [hs i (List.mem_cons_of_mem _ hi) j (List.mem_cons_of_mem _ hj), hs i (List.mem_cons_of_mem _ hi) p List.mem_cons_self, hs p List.mem_cons_self j (List.mem_cons_of_mem _ hj), Int.mul_comm (B p i)]
theorem Qf_Sc {B : Nat → Nat → Int} {p : Nat} {l : List Nat} (hs : Sym B (p :: l)) (x : Nat → Int) : Qf (Sc B p) l x = B p p * Qf B l x - S l (fun j => x j * B p j) * S l (fun j => x j * B p j) := by
  unfold Qf
  rw [← S_mul, ← S_mul, ← S_sub]
  refine S_congr fun i hi => ?_
  rw [← S_mul]
  have e : S l (fun j => x j * B p j) * (x i * B p i) = S l (fun j => (x i * B p i) * (x j * B p j)) := by rw [S_mul, Int.mul_comm]
  rw [e, ← S_sub]
  refine S_congr fun j hj => ?_
  unfold Sc
  rw [hs i (List.mem_cons_of_mem _ hi) p List.mem_cons_self]
  grind
theorem Psd_Sc {B : Nat → Nat → Int} {p : Nat} {l : List Nat} (hs : Sym B (p :: l)) (hp : p ∉ l) (ha : 0 < B p p) : Psd B (p :: l) ↔ Psd (Sc B p) l := by
  constructor
  · intro h x
    have q := h (fun i => if i = p then - S l (fun j => x j * B p j) else B p p * x i)
    have ne : ∀ i ∈ l, (if i = p then - S l (fun j => x j * B p j) else B p p * x i) = B p p * x i := fun i hi => if_neg (fun z : i = p => hp (z ▸ hi))
    rw [Qf_cons hs] at q
    have e1 : S l (fun j => (if j = p then - S l (fun j => x j * B p j) else B p p * x j) * B p j) = B p p * S l (fun j => x j * B p j) := by
      rw [← S_mul]
      exact S_congr fun j hj => by rw [ne j hj, Int.mul_assoc]
    have e2 : Qf B l (fun i => if i = p then - S l (fun j => x j * B p j) else B p p * x i) = B p p * (B p p * Qf B l x) := by
      rw [Qf_congr (C := B) (y := fun i => B p p * x i) (fun _ _ _ _ => rfl) ne]
      unfold Qf
      rw [← S_mul, ← S_mul]
      refine S_congr fun i _ => ?_
      rw [← S_mul, ← S_mul]
      exact S_congr fun j _ => by grind
    rw [e1, e2, if_pos rfl] at q
    rw [Qf_Sc hs]
    have : 0 ≤ B p p * (B p p * Qf B l x - S l (fun j => x j * B p j) * S l (fun j => x j * B p j)) := by grind
    exact Int.le_of_mul_le_mul_left (by rw [Int.mul_zero]; exact this) ha
  · intro h x
    have q := h x
    rw [Qf_Sc hs] at q
    rw [Qf_cons hs]
    have sq : 0 ≤ (B p p * x p + S l (fun j => x j * B p j)) * (B p p * x p + S l (fun j => x j * B p j)) := by
      rcases Int.le_total 0 (B p p * x p + S l (fun j => x j * B p j)) with z | z
      · exact Int.mul_nonneg z z
      · exact Int.mul_nonneg_of_nonpos_of_nonpos z z
    have : 0 ≤ B p p * (x p * x p * B p p + 2 * x p * S l (fun j => x j * B p j) + Qf B l x) := by
      have e : B p p * (x p * x p * B p p + 2 * x p * S l (fun j => x j * B p j) + Qf B l x) = (B p p * x p + S l (fun j => x j * B p j)) * (B p p * x p + S l (fun j => x j * B p j)) + (B p p * Qf B l x - S l (fun j => x j * B p j) * S l (fun j => x j * B p j)) := by grind
      rw [e]
      omega
    exact Int.le_of_mul_le_mul_left (by rw [Int.mul_zero]; exact this) ha
/-- the diagonal of a form that is never below 0 -/
theorem Qf_E {B : Nat → Nat → Int} {l : List Nat} {i : Nat} (hn : l.Nodup) (hi : i ∈ l) : Qf B l (E i) = B i i := by
  have e : ∀ a ∈ l, S l (fun j => E i a * E i j * B a j) = E i a * B a i := fun a _ => by
    have : S l (fun j => E i a * E i j * B a j) = E i a * S l (fun j => E i j * B a j) := by
      rw [← S_mul]
      exact S_congr fun j _ => Int.mul_assoc ..
    rw [this, S_E hn hi]
  unfold Qf
  rw [S_congr e, S_E hn hi]
theorem Psd_diag {B : Nat → Nat → Int} {l : List Nat} {i : Nat} (hn : l.Nodup) (hi : i ∈ l) (h : Psd B l) : 0 ≤ B i i := by
  have := h (E i)
  rw [Qf_E hn hi] at this
  exact this
/-- a 0 on the diagonal: the row is 0 -/
theorem Psd_row {B : Nat → Nat → Int} {p j : Nat} {l : List Nat} (hs : Sym B (p :: l)) (hn : (p :: l).Nodup) (hj : j ∈ l) (h0 : B p p = 0) (h : Psd B (p :: l)) : B p j = 0 := by
  obtain ⟨hp, hl⟩ := List.nodup_cons.mp hn
  have key : ∀ t : Int, 0 ≤ 2 * t * B p j + B j j := fun t => by
    have q := h (fun i => if i = p then t else E j i)
    have ne : ∀ i ∈ l, (if i = p then t else E j i) = E j i := fun i hi => if_neg (fun z : i = p => hp (z ▸ hi))
    rw [Qf_cons hs, if_pos rfl, h0, Int.mul_zero, Int.zero_add] at q
    have e1 : S l (fun i => (if i = p then t else E j i) * B p i) = B p j := by
      rw [S_congr (g := fun i => E j i * B p i) fun i hi => by rw [ne i hi]]
      exact S_E hl hj _
    rw [e1, Qf_congr (C := B) (y := E j) (fun _ _ _ _ => rfl) ne, Qf_E hl hj] at q
    exact q
  rcases Int.lt_trichotomy (B p j) 0 with z | z | z
  · have q := key (B j j + 1)
    have d := key 0
    have : 2 * (B j j + 1) * B p j + B j j ≤ 2 * (B j j + 1) * (-1) + B j j := by
      have : 2 * (B j j + 1) * B p j ≤ 2 * (B j j + 1) * (-1) := Int.mul_le_mul_of_nonneg_left (by omega) (by omega)
      omega
    omega
  · exact z
  · have q := key (-(B j j + 1))
    have d := key 0
    have : 2 * (B j j + 1) * 1 ≤ 2 * (B j j + 1) * B p j := Int.mul_le_mul_of_nonneg_left (by omega) (by omega)
    have e : 2 * -(B j j + 1) * B p j = -(2 * (B j j + 1) * B p j) := by grind
    omega
end Alg
namespace Alg
theorem sc1 (B : Nat → Nat → Int) (p i : Nat) : mi (Sc B p) [i] [i] = mi B [p, i] [p, i] := by
  simp only [mi, List.map_cons, List.map_nil, lap1, lap2, Sc]
  grind
theorem sc2 (B : Nat → Nat → Int) (p i j : Nat) : mi (Sc B p) [i, j] [i, j] = B p p * mi B [p, i, j] [p, i, j] := by
  simp only [mi, List.map_cons, List.map_nil, lap2, lap3, Sc]
  grind
theorem sc3 (B : Nat → Nat → Int) (p i j k : Nat) : mi (Sc B p) [i, j, k] [i, j, k] = B p p * B p p * mi B [p, i, j, k] [p, i, j, k] := by
  simp only [mi, List.map_cons, List.map_nil, lap3, lap4, Sc]
  grind
theorem lapRow_zero (sub : Nat → Int) : ∀ (l : List Int) (t : Nat) (s : Int), (∀ a ∈ l, a = 0) → lapRow sub t s l = 0
  | [], _, _, _ => rfl
  | a :: r, t, s, h => by
    show s * a * sub t + lapRow sub (t + 1) (0 - s) r = 0
    rw [h a List.mem_cons_self, lapRow_zero sub r _ _ fun b hb => h b (List.mem_cons_of_mem _ hb), Int.mul_zero, Int.zero_mul]
    rfl
theorem mi_row_zero {B : Nat → Nat → Int} {p : Nat} {rs cs : List Nat} (h : ∀ c ∈ cs, B p c = 0) : mi B (p :: rs) cs = 0 := by
  unfold mi
  rw [List.map_cons, lap_cons]
  refine lapRow_zero _ _ _ _ fun a ha => ?_
  obtain ⟨c, hc, rfl⟩ := List.mem_map.mp ha
  exact h c hc
theorem mi_congr {A B : Nat → Nat → Int} {rs cs : List Nat} (h : ∀ r ∈ rs, ∀ c ∈ cs, A r c = B r c) : mi A rs cs = mi B rs cs := by
  unfold mi
  congr 1
  exact List.map_congr_left fun r hr => List.map_congr_left fun c hc => h r hr c hc
theorem sub_short {p : Nat} {l sub : List Nat} (h : sub.Sublist l) (hl : l.length ≤ 3) : sub.length = 0 ∨ sub.length = 1 ∨ sub.length = 2 ∨ sub.length = 3 := by
  have := h.length_le
  omega
/-- the sign of a principal minor through Schur's complement -/
theorem sc_sign {B : Nat → Nat → Int} {p : Nat} {sub : List Nat} (ha : 0 < B p p) (h3 : sub.length ≤ 3) : 0 ≤ mi (Sc B p) sub sub ↔ 0 ≤ mi B (p :: sub) (p :: sub) := by
  have hs : sub.length = 0 ∨ sub.length = 1 ∨ sub.length = 2 ∨ sub.length = 3 := by omega
  have one : ∀ x : Int, 0 ≤ B p p * x ↔ 0 ≤ x := fun x => ⟨fun q => Int.le_of_mul_le_mul_left (by rw [Int.mul_zero]; exact q) ha, fun q => Int.mul_nonneg (Int.le_of_lt ha) q⟩
  rcases hs with e | e | e | e
  · rw [len0 e, mi0, mi1]
    exact ⟨fun _ => Int.le_of_lt ha, fun _ => by decide⟩
  · obtain ⟨i, rfl⟩ := len1 e
    rw [sc1]
  · obtain ⟨i, j, rfl⟩ := len2 e
    rw [sc2]
    exact one _
  · obtain ⟨i, j, k, rfl⟩ := len3 e
    rw [sc3, Int.mul_assoc, one, one]
theorem Psd_tail {B : Nat → Nat → Int} {p : Nat} {l : List Nat} (hs : Sym B (p :: l)) (hp : p ∉ l) (h : Psd B (p :: l)) : Psd B l := fun x => by
  have q := h (fun i => if i = p then 0 else x i)
  have ne : ∀ i ∈ l, (if i = p then (0 : Int) else x i) = x i := fun i hi => if_neg (fun z : i = p => hp (z ▸ hi))
  rw [Qf_cons hs, if_pos rfl, Int.zero_mul, Int.zero_mul, Int.mul_zero, Int.zero_mul, Qf_congr (C := B) (y := x) (fun _ _ _ _ => rfl) ne] at q
  omega
theorem Sym_tail {B : Nat → Nat → Int} {p : Nat} {l : List Nat} (hs : Sym B (p :: l)) : Sym B l := fun i hi j hj => hs i (List.mem_cons_of_mem _ hi) j (List.mem_cons_of_mem _ hj)
/-- a form of up to four indices is never below 0 just if no principal minor is -/
theorem psd_minors : ∀ (l : List Nat), l.length ≤ 4 → l.Nodup → ∀ B, Sym B l → (Psd B l ↔ ∀ sub, sub.Sublist l → 0 ≤ mi B sub sub)
  | [], _, _, B, _ => ⟨fun _ sub h => by rw [List.sublist_nil.mp h, mi0]; decide, fun _ x => Int.le_refl 0⟩
  | p :: l, h4, hn, B, hs => by
    obtain ⟨hp, hl⟩ := List.nodup_cons.mp hn
    have l3 : l.length ≤ 3 := by simpa using h4
    have ihB := psd_minors l (by omega) hl B (Sym_tail hs)
    have ihS := psd_minors l (by omega) hl (Sc B p) (Sc_sym hs)
    constructor
    · intro h sub hsub
      rcases List.sublist_cons_iff.mp hsub with z | ⟨r, rfl, z⟩
      · exact ihB.mp (Psd_tail hs hp h) sub z
      · have a0 := Psd_diag hn List.mem_cons_self h
        by_cases ha : 0 < B p p
        · exact (sc_sign ha (by have := z.length_le; omega)).mp (ihS.mp ((Psd_Sc hs hp ha).mp h) r z)
        · have e0 : B p p = 0 := by omega
          rw [mi_row_zero fun c hc => ?_]
          · exact Int.le_refl 0
          · rcases List.mem_cons.mp hc with y | y
            · rw [y, e0]
            · exact Psd_row hs hn (z.subset y) e0 h
    · intro h
      have a0 : 0 ≤ B p p := by
        have := h [p] (List.Sublist.cons_cons p (List.nil_sublist l))
        rwa [mi1] at this
      by_cases ha : 0 < B p p
      · refine (Psd_Sc hs hp ha).mpr (ihS.mpr fun sub z => ?_)
        exact (sc_sign ha (by have := z.length_le; omega)).mpr (h (p :: sub) (List.Sublist.cons_cons p z))
      · have e0 : B p p = 0 := by omega
        have row : ∀ j ∈ l, B p j = 0 := fun j hj => by
          have q := h [p, j] (List.Sublist.cons_cons p (List.singleton_sublist.mpr hj))
          rw [mi2, e0, hs j (List.mem_cons_of_mem _ hj) p List.mem_cons_self, Int.zero_mul] at q
          rcases Int.lt_trichotomy (B p j) 0 with y | y | y
          · have := Int.mul_pos_of_neg_of_neg y y
            omega
          · exact y
          · have := Int.mul_pos y y
            omega
        have q := ihB.mpr fun sub z => h sub (z.trans (List.sublist_cons_self p l))
        intro x
        rw [Qf_cons hs, e0, S_zero fun j hj => by rw [row j hj, Int.mul_zero]]
        have := q x
        omega
end Alg
namespace Alg
/-- rows and columns change places -/
theorem mi_tr (A : Nat → Nat → Int) (rs cs : List Nat) (h : rs.length = cs.length) (h5 : rs.length ≤ 5) : mi (fun a b => A b a) cs rs = mi A rs cs := by
  have h1 : rs.length = 0 ∨ rs.length = 1 ∨ rs.length = 2 ∨ rs.length = 3 ∨ rs.length = 4 ∨ rs.length = 5 := by omega
  rcases h1 with e | e | e | e | e | e <;> have e2 := h.symm.trans e
  · rw [len0 e, len0 e2]
    exact tr_0 A
  · obtain ⟨a, rfl⟩ := len1 e
    obtain ⟨b, rfl⟩ := len1 e2
    exact tr_1 A a b
  · obtain ⟨a1, a2, rfl⟩ := len2 e
    obtain ⟨b1, b2, rfl⟩ := len2 e2
    exact tr_2 A a1 a2 b1 b2
  · obtain ⟨a1, a2, a3, rfl⟩ := len3 e
    obtain ⟨b1, b2, b3, rfl⟩ := len3 e2
    exact tr_3 A a1 a2 a3 b1 b2 b3
  · obtain ⟨a1, a2, a3, a4, rfl⟩ := len4 e
    obtain ⟨b1, b2, b3, b4, rfl⟩ := len4 e2
    exact tr_4 A a1 a2 a3 a4 b1 b2 b3 b4
  · obtain ⟨a1, a2, a3, a4, a5, rfl⟩ := len5 e
    obtain ⟨b1, b2, b3, b4, b5, rfl⟩ := len5 e2
    exact tr_5 A a1 a2 a3 a4 a5 b1 b2 b3 b4 b5
theorem lapRow_scale (sub : Nat → Int) (g : Int) : ∀ (l : List Int) (t : Nat) (s : Int), lapRow sub t s (l.map fun a => g * a) = g * lapRow sub t s l
  | [], _, _ => (Int.mul_zero g).symm
  | a :: r, t, s => by
    show s * (g * a) * sub t + lapRow sub (t + 1) (0 - s) (r.map fun a => g * a) = g * (s * a * sub t + lapRow sub (t + 1) (0 - s) r)
    rw [lapRow_scale sub g r]
    grind
/-- the first row times g -/
theorem lap_scale (g : Int) (r : List Int) (rs : List (List Int)) : lap ((r.map fun a => g * a) :: rs) = g * lap (r :: rs) := by
  rw [lap_cons, lap_cons, lapRow_scale]
/-- the state of the elimination by diagonal pivots: L the table as it stands, of the rows and columns of rest -/
structure Ps (A : Nat → Nat → Int) (n : Nat) (L : Nat → Nat → Int) (scale : Int) (done rest : List Nat) : Prop where
  hr : done.length + rest.length = n
  nd : (done ++ rest).Nodup
  hs : scale = mi A done done
  pos : 0 < scale
  ent : ∀ t u i j, rest[t]? = some i → rest[u]? = some j → L t u = mi A (done ++ [i]) (done ++ [j])
  psd : Psd A (List.range n) ↔ Psd (fun i j => mi A (done ++ [i]) (done ++ [j])) rest
  inr : ∀ i ∈ done ++ rest, i < n
theorem Ps.sym {A L : Nat → Nat → Int} {n : Nat} {scale : Int} {done rest : List Nat} (s : Ps A n L scale done rest) (h5 : n ≤ 5) (hA : ∀ i j, i < n → j < n → A i j = A j i) : Sym (fun i j => mi A (done ++ [i]) (done ++ [j])) rest := fun i hi j hj => by
  have hr := s.hr
  have hl : 0 < rest.length := List.length_pos_of_mem hi
  show mi A (done ++ [i]) (done ++ [j]) = mi A (done ++ [j]) (done ++ [i])
  rw [← mi_tr A (done ++ [i]) (done ++ [j]) (by simp) (by simp; omega)]
  refine mi_congr fun r hr c hc => ?_
  have mem : ∀ k x, x ∈ rest → k ∈ done ++ [x] → k < n := fun k x hx hk => s.inr k (by
    rcases List.mem_append.mp hk with y | y
    · exact List.mem_append_left _ y
    · rw [List.mem_singleton.mp y]
      exact List.mem_append_right _ hx)
  exact hA _ _ (mem c i hi hc) (mem r j hj hr)
theorem Ps.start {A L : Nat → Nat → Int} {n : Nat} (h : ∀ i j, i < n → j < n → L i j = A i j) : Ps A n L 1 [] (List.range n) where
  hr := by simp
  nd := by simpa using List.nodup_range
  hs := by rw [mi0]
  pos := by decide
  ent := fun t u i j e1 e2 => by
    have lt : ∀ {t i : Nat}, (List.range n)[t]? = some i → t < n ∧ i = t := fun {t i} e => by
      have ht : t < n := by
        rcases Nat.lt_or_ge t n with q | q
        · exact q
        · rw [List.getElem?_eq_none (by simpa using q)] at e
          cases e
      rw [List.getElem?_range ht] at e
      exact ⟨ht, (Option.some.inj e).symm⟩
    obtain ⟨h1, rfl⟩ := lt e1
    obtain ⟨h2, rfl⟩ := lt e2
    rw [List.nil_append, List.nil_append, mi1]
    exact h _ _ h1 h2
  psd := Psd_congr fun i _ j _ => by rw [List.nil_append, List.nil_append, mi1]
  inr := fun i hi => by simpa using hi
/-- no index is left: never below 0 -/
theorem Ps.stop {A L : Nat → Nat → Int} {n : Nat} {scale : Int} {done : List Nat} (s : Ps A n L scale done []) : Psd A (List.range n) := s.psd.mpr fun _ => Int.le_refl 0
theorem at_of {l : List Nat} {t : Nat} (h : t < l.length) : ∃ i, l[t]? = some i ∧ i ∈ l := ⟨l[t], List.getElem?_eq_getElem h, List.getElem_mem h⟩
/-- one of the diagonal is below 0 -/
theorem Ps.neg {A L : Nat → Nat → Int} {n t : Nat} {scale : Int} {done rest : List Nat} (s : Ps A n L scale done rest) (ht : t < rest.length) (h : L t t < 0) : ¬ Psd A (List.range n) := fun z => by
  obtain ⟨i, e, hi⟩ := at_of ht
  have nd : rest.Nodup := (List.nodup_append.mp s.nd).2.1
  have q := Psd_diag nd hi (s.psd.mp z)
  rw [s.ent t t i i e e] at h
  omega
/-- the whole diagonal is 0: just if all is 0 -/
theorem Ps.zero {A L : Nat → Nat → Int} {n : Nat} {scale : Int} {done rest : List Nat} (s : Ps A n L scale done rest) (h5 : n ≤ 5) (hA : ∀ i j, i < n → j < n → A i j = A j i) (h : ∀ t, t < rest.length → L t t = 0) :
    Psd A (List.range n) ↔ ∀ t u, t < rest.length → u < rest.length → L t u = 0 := by
  have nd : rest.Nodup := (List.nodup_append.mp s.nd).2.1
  rw [s.psd]
  constructor
  · intro z t u ht hu
    obtain ⟨i, e1, hi⟩ := at_of ht
    obtain ⟨j, e2, hj⟩ := at_of hu
    by_cases htu : t = u
    · rw [← htu]
      exact h t ht
    · rw [s.ent t u i j e1 e2]
      have hne : i ≠ j := fun q => by
        rw [← q] at e2
        exact htu ((List.getElem?_inj ht nd).mp (e1.trans e2.symm))
      have pm := List.perm_cons_erase hi
      have hj2 : j ∈ rest.erase i := (List.mem_erase_of_ne hne.symm).mpr hj
      refine Psd_row (B := fun i j => mi A (done ++ [i]) (done ++ [j])) (p := i) (l := rest.erase i) (fun a ha b hb => s.sym h5 hA a (pm.symm.subset ha) b (pm.symm.subset hb)) (pm.nodup_iff.mp nd) hj2 ?_ ((Psd_perm pm).mp z)
      show mi A (done ++ [i]) (done ++ [i]) = 0
      rw [← s.ent t t i i e1 e1]
      exact h t ht
  · intro z x
    unfold Qf
    rw [S_zero fun i hi => ?_]
    · exact Int.le_refl 0
    · refine S_zero fun j hj => ?_
      obtain ⟨t, ht⟩ := List.getElem?_of_mem hi
      obtain ⟨u, hu⟩ := List.getElem?_of_mem hj
      have lt : ∀ {t i : Nat}, rest[t]? = some i → t < rest.length := fun {t i} e => by
        rcases Nat.lt_or_ge t rest.length with q | q
        · exact q
        · rw [List.getElem?_eq_none q] at e
          cases e
      show x i * x j * mi A (done ++ [i]) (done ++ [j]) = 0
      rw [← s.ent t u i j ht hu, z t u (lt ht) (lt hu), Int.mul_zero]
/-- one step: the row and the column of the index at top go -/
theorem Ps.step {A L L' : Nat → Nat → Int} {n top : Nat} {scale : Int} {done rest : List Nat} (s : Ps A n L scale done rest) (h5 : n ≤ 5) (hA : ∀ i j, i < n → j < n → A i j = A j i) (ht : top < rest.length) (hp : 0 < L top top)
    (hL : ∀ t u, t < rest.length - 1 → u < rest.length - 1 → L' t u = (L top top * L (if t < top then t else t + 1) (if u < top then u else u + 1) - L (if t < top then t else t + 1) top * L top (if u < top then u else u + 1)).fdiv scale) :
    ∃ done', Ps A n L' (L top top) done' (rest.eraseIdx top) := by
  obtain ⟨p, e, hpm⟩ := at_of ht
  have nd : rest.Nodup := (List.nodup_append.mp s.nd).2.1
  have hr := s.hr
  have ep : L top top = mi A (done ++ [p]) (done ++ [p]) := s.ent top top p p e e
  have pm : rest.Perm (p :: rest.eraseIdx top) := by
    have e2 : rest[top] = p := Option.some.inj ((List.getElem?_eq_getElem ht).symm.trans e)
    have e3 : rest = rest.take top ++ p :: rest.drop (top + 1) := by rw [← e2, ← List.drop_eq_getElem_cons ht, List.take_append_drop]
    have e4 : rest.eraseIdx top = rest.take top ++ rest.drop (top + 1) := List.eraseIdx_eq_take_drop_succ ..
    rw [e4]
    conv => lhs; rw [e3]
    exact List.perm_middle
  have nz : mi A done done ≠ 0 := by
    have := s.pos
    rw [s.hs] at this
    omega
  have sym := s.sym h5 hA
  have idx : ∀ {t i : Nat}, (rest.eraseIdx top)[t]? = some i → t < rest.length - 1 ∧ rest[if t < top then t else t + 1]? = some i := fun {t i} q => by
    have lt : t < (rest.eraseIdx top).length := by
      rcases Nat.lt_or_ge t (rest.eraseIdx top).length with y | y
      · exact y
      · rw [List.getElem?_eq_none y] at q
        cases q
    rw [List.length_eraseIdx_of_lt ht] at lt
    rw [List.getElem?_eraseIdx] at q
    refine ⟨lt, ?_⟩
    split <;> rename_i y
    · rwa [if_pos y] at q
    · rwa [if_neg y] at q
  refine ⟨done ++ [p], ?_, ?_, ep, hp, fun t u i j e1 e2 => ?_, ?_, ?_⟩
  · rw [List.length_append, List.length_eraseIdx_of_lt ht]
    show done.length + 1 + (rest.length - 1) = n
    omega
  · rw [List.append_assoc]
    exact (List.Perm.append_left done pm).nodup_iff.mp s.nd
  · obtain ⟨h1, q1⟩ := idx e1
    obtain ⟨h2, q2⟩ := idx e2
    rw [hL t u h1 h2, ep, s.ent _ _ i j q1 q2, s.ent _ _ i p q1 e, s.ent _ _ p j e q2, s.hs]
    rw [jac_div A done done p i p j rfl (by omega) nz, List.append_assoc, List.append_assoc]
    rfl
  · rw [s.psd, Psd_perm pm, Psd_Sc (fun a ha b hb => sym a (pm.symm.subset ha) b (pm.symm.subset hb)) (List.nodup_cons.mp (pm.nodup_iff.mp nd)).1 (by rw [← ep]; exact hp)]
    rw [← Psd_scale (B := fun i j => mi A (done ++ [p] ++ [i]) (done ++ [p] ++ [j])) (c := mi A done done) (by rw [← s.hs]; exact s.pos)]
    refine Psd_congr fun i hi j hj => ?_
    have l1 : 0 < (rest.eraseIdx top).length := List.length_pos_of_mem hi
    rw [List.length_eraseIdx_of_lt ht] at l1
    have := jac A done done p i p j rfl (by omega)
    unfold Sc
    rw [this, List.append_assoc, List.append_assoc]
    rfl
  · intro i hi
    rw [List.append_assoc] at hi
    exact s.inr i ((List.Perm.append_left done pm).symm.subset hi)
end Alg
namespace Alg
/-- bounds -/
theorem lapRow_bound {sub : Nat → Int} {b c : Nat} (hsub : ∀ k, (sub k).natAbs ≤ c) : ∀ (l : List Int) (t : Nat) (s : Int), s.natAbs ≤ 1 → (∀ a ∈ l, a.natAbs ≤ b) → (lapRow sub t s l).natAbs ≤ l.length * (b * c)
  | [], _, _, _, _ => Nat.zero_le _
  | a :: r, t, s, hs, h => by
    have ih := lapRow_bound hsub r (t + 1) (0 - s) (by omega) fun x hx => h x (List.mem_cons_of_mem _ hx)
    have h1 : (s * a * sub t).natAbs ≤ b * c := by
      rw [Int.natAbs_mul, Int.natAbs_mul]
      have := Nat.mul_le_mul (Nat.mul_le_mul hs (h a List.mem_cons_self)) (hsub t)
      rwa [Nat.one_mul] at this
    show (s * a * sub t + lapRow sub (t + 1) (0 - s) r).natAbs ≤ (r.length + 1) * (b * c)
    have := Int.natAbs_add_le (s * a * sub t) (lapRow sub (t + 1) (0 - s) r)
    rw [Nat.succ_mul]
    omega
theorem lap_bound (b : Nat) : ∀ (n : Nat) (M : List (List Int)), M.length = n → (∀ r ∈ M, r.length ≤ 8 ∧ ∀ x ∈ r, x.natAbs ≤ 2 ^ b) → (lap M).natAbs ≤ 2 ^ ((b + 3) * n)
  | 0, M, h, _ => by
    rw [List.eq_nil_of_length_eq_zero h, lap_nil]
    exact Nat.le_refl 1
  | n + 1, M, h, hM => by
    cases M with
    | nil => cases h
    | cons r rs =>
      rw [lap_cons]
      have hr := hM r List.mem_cons_self
      have hsub : ∀ k, (lap (rs.map fun q => q.eraseIdx k)).natAbs ≤ 2 ^ ((b + 3) * n) := fun k => by
        refine lap_bound b n _ (by rw [List.length_map]; exact Nat.succ.inj h) fun q hq => ?_
        obtain ⟨q0, hq0, rfl⟩ := List.mem_map.mp hq
        obtain ⟨h1, h2⟩ := hM q0 (List.mem_cons_of_mem _ hq0)
        exact ⟨Nat.le_trans (List.length_eraseIdx_le ..) h1, fun x hx => h2 x ((List.eraseIdx_sublist ..).subset hx)⟩
      have q := lapRow_bound hsub r 0 1 (by decide) hr.2
      refine Nat.le_trans q ?_
      have e : (2 : Nat) ^ ((b + 3) * (n + 1)) = 8 * (2 ^ b * 2 ^ ((b + 3) * n)) := by
        rw [Nat.mul_succ, Nat.pow_add, Nat.pow_add]
        have : (2 : Nat) ^ 3 = 8 := rfl
        rw [this]
        generalize (2 : Nat) ^ ((b + 3) * n) = x
        generalize (2 : Nat) ^ b = y
        rw [Nat.mul_comm x, Nat.mul_comm y 8, Nat.mul_assoc]
      rw [e]
      exact Nat.mul_le_mul_right _ hr.1
end Alg
namespace Alg
/-- all lots of the numbers below n, in the law's order -/
def lots : Nat → List (List Nat)
  | 0 => [[]]
  | n + 1 => lots n ++ (lots n).map fun l => l ++ [n]
theorem lots_len : ∀ n, (lots n).length = 2 ^ n
  | 0 => rfl
  | n + 1 => by
    show (lots n ++ (lots n).map fun l => l ++ [n]).length = _
    rw [List.length_append, List.length_map, lots_len n, Nat.pow_succ]
    omega
theorem lots_mem : ∀ (n : Nat) (l : List Nat), l ∈ lots n ↔ l.Sublist (List.range n)
  | 0, l => by
    show l ∈ [[]] ↔ l.Sublist []
    rw [List.mem_singleton, List.sublist_nil]
  | n + 1, l => by
    show l ∈ lots n ++ (lots n).map (fun l => l ++ [n]) ↔ _
    rw [List.range_succ, List.mem_append, List.mem_map]
    constructor
    · rintro (h | ⟨m, h, rfl⟩)
      · exact ((lots_mem n l).mp h).trans (List.sublist_append_left _ _)
      · exact ((lots_mem n m).mp h).append (List.Sublist.refl _)
    · intro h
      obtain ⟨l1, l2, rfl, h1, h2⟩ := List.sublist_append_iff.mp h
      rcases List.sublist_cons_iff.mp h2 with z | ⟨r, rfl, z⟩
      · rw [List.sublist_nil.mp z, List.append_nil]
        exact Or.inl ((lots_mem n l1).mpr h1)
      · rw [List.sublist_nil.mp z]
        exact Or.inr ⟨l1, (lots_mem n l1).mpr h1, rfl⟩
theorem lots_bd {n : Nat} {l : List Nat} (h : l ∈ lots n) : l.length ≤ n ∧ ∀ i ∈ l, i < n := by
  have h := (lots_mem n l).mp h
  exact ⟨by have := h.length_le; rwa [List.length_range] at this, fun i hi => List.mem_range.mp (h.subset hi)⟩
theorem Psd_lots {n : Nat} (hn : n ≤ 4) {B : Nat → Nat → Int} (hs : ∀ i j, i < n → j < n → B i j = B j i) : Psd B (List.range n) ↔ ∀ l ∈ lots n, 0 ≤ mi B l l := by
  rw [psd_minors (List.range n) (by rw [List.length_range]; exact hn) List.nodup_range B fun i hi j hj => hs i j (List.mem_range.mp hi) (List.mem_range.mp hj)]
  exact ⟨fun h l hl => h l ((lots_mem n l).mp hl), fun h l hl => h l ((lots_mem n l).mpr hl)⟩
theorem Psd_neg {B : Nat → Nat → Int} {l : List Nat} (hn : l.Nodup) (hs : Sym B l) (h1 : Psd B l) (h2 : Psd (fun i j => -1 * B i j) l) : ∀ i ∈ l, ∀ j ∈ l, B i j = 0 := by
  intro i hi j hj
  have d1 := Psd_diag hn hi h1
  have d2 : 0 ≤ -1 * B i i := Psd_diag hn hi h2
  have d0 : B i i = 0 := by omega
  by_cases e : i = j
  · rw [← e]
    exact d0
  · have p : l.Perm (i :: l.erase i) := List.perm_cons_erase hi
    refine Psd_row (l := l.erase i) (fun a ha b hb => hs a (p.mem_iff.mpr ha) b (p.mem_iff.mpr hb)) (p.nodup_iff.mp hn) ?_ d0 ((Psd_perm p).mp h1)
    exact (List.mem_erase_of_ne (Ne.symm e)).mpr hj
theorem range_last (n : Nat) : (List.range (n + 1)).Perm (n :: List.range n) := by
  rw [List.range_succ]
  exact List.perm_append_singleton n _
theorem Psd_wide {B : Nat → Nat → Int} {n : Nat} (h1 : ∀ i, i ≤ n → B i n = 0) (h2 : ∀ i, i ≤ n → B n i = 0) (hs : ∀ i j, i < n → j < n → B i j = B j i) : Psd B (List.range (n + 1)) ↔ Psd B (List.range n) := by
  rw [Psd_perm (range_last n)]
  have sy : Sym B (n :: List.range n) := fun i hi j hj => by
    have q1 : i ≤ n := by
      rcases List.mem_cons.mp hi with rfl | z
      · exact Nat.le_refl _
      · exact Nat.le_of_lt (List.mem_range.mp z)
    have q2 : j ≤ n := by
      rcases List.mem_cons.mp hj with rfl | z
      · exact Nat.le_refl _
      · exact Nat.le_of_lt (List.mem_range.mp z)
    rcases Nat.lt_or_ge i n with y | y
    · rcases Nat.lt_or_ge j n with w | w
      · exact hs i j y w
      · have : j = n := by omega
        rw [this, h1 i q1, h2 i q1]
    · have : i = n := by omega
      rw [this, h1 j q2, h2 j q2]
  have e : ∀ x, Qf B (n :: List.range n) x = Qf B (List.range n) x := fun x => by
    rw [Qf_cons sy, h1 n (Nat.le_refl _), S_zero fun j hj => by rw [h2 j (Nat.le_of_lt (List.mem_range.mp hj)), Int.mul_zero]]
    simp
  exact ⟨fun p x => by rw [← e]; exact p x, fun p x => by rw [e]; exact p x⟩
theorem Psd_not {B : Nat → Nat → Int} {n : Nat} (h0 : 0 < n) (hs : ∀ i j, i ≤ n → j ≤ n → B i j = B j i) (hd : B n n = 0) (h1 : B n 0 ≠ 0) : ¬ Psd B (List.range (n + 1)) := fun p => by
  have p := (Psd_perm (range_last n)).mp p
  have mem : ∀ i, i ∈ n :: List.range n → i ≤ n := fun i hi => by
    rcases List.mem_cons.mp hi with rfl | z
    · exact Nat.le_refl _
    · exact Nat.le_of_lt (List.mem_range.mp z)
  exact h1 (Psd_row (fun i hi j hj => hs i j (mem i hi) (mem j hj)) ((range_last n).nodup_iff.mp List.nodup_range) (List.mem_range.mpr h0) hd p)
theorem mi_tr2 {A B : Nat → Nat → Int} {n : Nat} (hn : n ≤ 5) (h : ∀ i j, i < n → j < n → B i j = A j i) : mi B (List.range n) (List.range n) = mi A (List.range n) (List.range n) := by
  rw [mi_congr (B := fun a b => A b a) fun r hr c hc => h r c (List.mem_range.mp hr) (List.mem_range.mp hc)]
  exact mi_tr A _ _ rfl (by rw [List.length_range]; exact hn)
def sw (t i : Nat) : Nat := if i = 0 then t else if i = t then 0 else i
theorem lap_map (A : Nat → Nat → Int) (f : Nat → Nat) (rs cs : List Nat) : mi (fun a b => A (f a) b) rs cs = mi A (rs.map f) cs := by
  unfold mi
  rw [List.map_map]
  rfl
theorem mi_sw {A B : Nat → Nat → Int} {n t : Nat} (hn : n ≤ 5) (ht : t < n) (h0 : 0 < t) (h : ∀ i j, i < n → j < n → B i j = A (sw t i) j) : mi B (List.range n) (List.range n) = - mi A (List.range n) (List.range n) := by
  rw [mi_congr (B := fun a b => A (sw t a) b) fun r hr c hc => h r c (List.mem_range.mp hr) (List.mem_range.mp hc), lap_map A (sw t)]
  have key : ∃ l1 l2 : List Nat, (List.range n).map (sw t) = [] ++ t :: (l1 ++ 0 :: l2) ∧ List.range n = [] ++ 0 :: (l1 ++ t :: l2) ∧ l1.length + l2.length + 2 = n := by
    have c : n = 2 ∨ n = 3 ∨ n = 4 ∨ n = 5 := by omega
    have c2 : t = 1 ∨ t = 2 ∨ t = 3 ∨ t = 4 := by omega
    rcases c with rfl | rfl | rfl | rfl <;> rcases c2 with rfl | rfl | rfl | rfl
    · exact ⟨[], [], rfl, rfl, rfl⟩
    · omega
    · omega
    · omega
    · exact ⟨[], [2], rfl, rfl, rfl⟩
    · exact ⟨[1], [], rfl, rfl, rfl⟩
    · omega
    · omega
    · exact ⟨[], [2, 3], rfl, rfl, rfl⟩
    · exact ⟨[1], [3], rfl, rfl, rfl⟩
    · exact ⟨[1, 2], [], rfl, rfl, rfl⟩
    · omega
    · exact ⟨[], [2, 3, 4], rfl, rfl, rfl⟩
    · exact ⟨[1], [3, 4], rfl, rfl, rfl⟩
    · exact ⟨[1, 2], [4], rfl, rfl, rfl⟩
    · exact ⟨[1, 2, 3], [], rfl, rfl, rfl⟩
  obtain ⟨l1, l2, e1, e2, e3⟩ := key
  have s := swp A [] l1 l2 (List.range n) 0 t (by rw [List.length_range]; show 0 + l1.length + l2.length + 2 = n; omega) (by rw [List.length_range]; exact hn)
  rw [e1]
  refine s.trans ?_
  rw [← e2]
end Alg
/-! LayA: defs that are only ever entered where no display is under way (so that what is shown is shown whole). -/
namespace Lay
open PySem PySem.Spec PyProof.Rows L2

/-- no display is under way around A -/
def Quiet (A : Around) : Prop := A.guards = some []
theorem quiet_caller : Quiet callerA := rfl
theorem Quiet.deeper {A : Around} (q : Quiet A) (env : Env) : Quiet (A.deeper env) := q

section
variable {P : Program} {w : World} {K : PySem.W.Frag} {mg : Str → Option Value} {base : Heap}

/-- a def's promise, for quiet places alone -/
structure FnQ (P : Program) (w : World) (K : PySem.W.Frag) (mg : Str → Option Value) (base : Heap) (k : Nat) (f : Addr) (fd : FuncData) (ps : List Str) (sp : Sp) : Prop where
  many : ∀ vs H Q E, sp vs H Q E → vs.length = ps.length
  goes : ∀ (A : Around) (outer : List Env) (s : Shared) (H : Hp) (args : Args) (us : List Value) (vs : List V) (Q : VK) (E : XK), Quiet A → Room k A →
    Env0 P w K mg base A outer s H → BindsTo s fd args (ps.zip us) → Vals vs us → sp vs H Q E →
    codeAny (model P w) A (.call (.ref f) args) (CR CX0 outer P w H s Q E) s

theorem FnQ.of {k : Nat} {f : Addr} {fd : FuncData} {ps : List Str} {sp : Sp} (F : FnOk P w K mg base CX0 k f fd ps sp) : FnQ P w K mg base k f fd ps sp :=
  ⟨F.len, fun A o s H ar us vs Q E _ hr he hb hv hs => F.run A o s H ar us vs Q E hr he hb hv hs⟩

/-- a def by its body, entered where it is quiet -/
theorem quiet_def {x qual : Str} {st : Stmt} {f : Addr} {fd : FuncData} {N ps : List Str} {k : Nat} {sp : Sp} (F : Fun K x qual st f fd) (S : FnScope N ps (defScope st))
    (many : ∀ vs H Q E, sp vs H Q E → vs.length = ps.length)
    (body : ∀ (cdv : Value) (A : Around) (outer : List Env) (s : Shared) (H : Hp) (vs : List V) (Q : VK) (E : XK), Quiet A → Room k (A.deeper (envOfC qual (defScope st) s.heap.objs.size f cdv)) → sp vs H Q E →
      ∃ t, PSs (cxOf CX0 P w K mg base N qual (defScope st) f cdv A outer s H E).nox (defBody st) t ∧ t { nx := fun _ H' => Q .non H', rt := Q } (start N vs) H) :
    FnQ P w K mg base (k + 1) f fd ps sp := by
  obtain ⟨oc, od, kV, doc, pm, an, cdv, ct, osl, rfl, lk, hcd⟩ := F.ex
  refine ⟨many, fun A outer s H args us vs Q E hq hr he hb hv hs => ?_⟩
  -- the promise at this A alone, as a promise for all places: elsewhere nothing is asked
  have here : FnOk P w K mg base CX0 (k + 1) f (PySem.W.fnOf x qual (defArgs st) (defBody st) (defScope st) .none kV doc pm an cdv ct) ps sp → codeAny (model P w) A (.call (.ref f) args) (CR CX0 outer P w H s Q E) s :=
    fun G => G.run A outer s H args us vs Q E hr he hb hv hs
  have hl := many _ _ _ _ hs
  have KX : K.In s.heap := he.mod.kin.keeps fun b o e => (he.bs b o e).1
  have lim : s.heap.NoLimit := he.mod.nolimit.keeps fun b o e => (he.bs b o e).1
  have kinds : ∀ y ∈ ps.zip us, (defScope st).names.lookup y.1 = some .local ∨ ((defScope st).names.lookup y.1 = some .cell ∧ ((cellsFrom (s.heap.objs.size + 1) (defScope st).names []).lookup y.1).isSome = true) := by
    intro y hy
    rcases S.par y.1 (List.of_mem_zip hy).1 with q | q
    · exact Or.inl q
    · exact Or.inr ⟨q, PySem.W.cellsFrom_some _ _ _ (Or.inl q)⟩
  apply codeAny_call_function hr.depth (KX _ _ lk) rfl S.co S.gen rfl (PySem.W.codeRec_of KX hcd)
  apply hb
  apply wpAny_newFunctionEnv_cells S.kind kinds
  intro env henv s1 x1
  subst henv
  refine ⟨lim.keeps x1.toInCall.keep, ?_⟩
  apply codeAny_func
  obtain ⟨t, ht, q0⟩ := body cdv A outer s H vs Q E hq (hr.deeper _) hs
  have I : Inv (cxOf CX0 P w K mg base N qual (defScope st) f cdv A outer s H E) [] (start N vs) H s1 := inv_start S hr.hd he hl hv x1
  refine wpAny_mono (ht.nox.run [] s1 (start N vs) H _ I q0) (fun fl s2 h2 => ?_) (fun e s2 h2 => h2)
  cases fl with
  | next =>
    obtain ⟨a, b, J, z⟩ := h2
    exact ⟨V.non, b, J.os, J.bare, J.base, J.hok, rfl, z⟩
  | ret u =>
    obtain ⟨v, a, b, J, rv, z⟩ := h2
    exact ⟨v, b, J.os, J.bare, J.base, J.hok, rv, z⟩
  | brk =>
    obtain ⟨a, b, J, z⟩ := h2
    exact z.elim
  | cont =>
    obtain ⟨a, b, J, z⟩ := h2
    exact z.elim
end

section
variable {X : Cx} {k : Nat} {f : Addr} {fd : FuncData} {ps : List Str} {sp : Sp} {x : Str} {p pos : Pos} {e : Expr} {es : List Expr} {t : TA}
theorem quiet_run {pins : List (Addr × Obj)} {σ : L2.St} {H : Hp} {s : Shared} {Q : VK} {us : List Value} {vs : List V} (F : FnQ X.prog X.w X.K X.mg X.base k f fd ps sp) (hq : Quiet X.A) (hr : Room k X.A) (hb : Binds X.K fd ps [])
    (I : Inv X pins σ H s) (r : Vals vs us) (h : sp vs H Q E0) : wpAny (model X.prog X.w) X.A (call (.ref f) us) (EP X pins σ Q) X.xe s := by
  have hl : (us ++ []).length = ps.length := by
    rw [List.append_nil, ← r.length]
    exact F.many _ _ _ _ h
  have bb := hb s us I.kIn hl
  rw [List.append_nil] at bb
  refine wpAny_call (codeAny_mono (F.goes X.A X.stack s H ⟨us, []⟩ us vs Q E0 hq hr I.env0 bb r h) fun res s2 hh => ?_)
  cases res with
  | error z => exact False.elim hh
  | ok fl =>
    cases fl with
    | ret u => exact I.after hh
    | next => exact False.elim hh
    | brk => exact False.elim hh
    | cont => exact False.elim hh
def tCl (sp : Sp) (t : TA) : TE := fun σ H Q => t σ H fun vs H1 => sp vs H1 Q E0
/-- f(e, ..) where it is quiet -/
theorem qcall (F : FnQ X.prog X.w X.K X.mg X.base k f fd ps sp) (hq : Quiet X.A) (hr : Room k X.A) (hg : Gl X x) (hm : X.mg x = some (.ref f)) (hk : PySem.W.keepIn X.K (.ref f) = true) (hb : Binds X.K fd ps [])
    (ha : PA X (e :: es) t) (hdb : (x == ("__debug__" : Str)) = false := by decide) (he : starEach (e :: es) X.env = (false, eval e X.env) :: starEach es X.env := by rfl) (hpl : (backTo pos (starEach es X.env)).any (·.1) = false := by rfl) :
    PE X (.Call (.Name x p) (e :: es) [] pos) (tCl sp t) := by
  refine ⟨fun pins s σ H Q I h => wpAny_Call_Name_kw (ld_glob I hg hm ?_ hdb)⟩
  refine PySem.W.callWith_K (h₀ := X.base) I.ok.mod.kin hk (thn (ha.run pos pins s σ H _ I h) ?_) he hpl
  rintro us s1 ⟨vs, H1, I1, r, q⟩
  exact ⟨I1.kIn, quiet_run F hq hr hb I1 r q⟩
theorem qcall0 (F : FnQ X.prog X.w X.K X.mg X.base k f fd ps sp) (hq : Quiet X.A) (hr : Room k X.A) (hg : Gl X x) (hm : X.mg x = some (.ref f)) (hk : PySem.W.keepIn X.K (.ref f) = true) (hb : Binds X.K fd ps [])
    (hdb : (x == ("__debug__" : Str)) = false := by decide) : PE X (.Call (.Name x p) [] [] pos) (tCl sp tNil) :=
  ⟨fun pins s σ H Q I h => wpAny_Call_Name_kw (ld_glob I hg hm (PySem.W.callWith_K0 I.kIn hk (quiet_run (us := []) F hq hr hb I .nil h)) hdb)⟩

/-- repr(x) of whole data -/
def rRepr (K : PySem.W.Frag) : List V → Hp → VK → Prop := fun xs H Q => ∃ (a : Addr) (d : PyData), xs = [.ref a] ∧ Dp K H (.ref a) d ∧ d.showable = true ∧ d.hasDict = false ∧ d.depth ≤ 20 ∧ d.shown.length ≤ sizeLine ∧ Q (.str d.shown) H
theorem call_repr (hq : Quiet X.A) (hu : X.A.units + 64 < cLine) : CallR X (.builtin "repr") (rRepr X.K) := by
  intro pins s σ H xs us Q I r h
  obtain ⟨a, d, rfl, hd, hs, hdc, hdp, hsz, q⟩ := h
  cases r with
  | cons r1 r2 =>
    cases r2
    cases r1
    obtain ⟨as, rd⟩ := Dp.reads I d (.ref a) (.ref a) hd rfl
    refine repr_of_reads' rd hs (fun z => by rw [hdc] at z; cases z) hq (by omega) (fun _ _ z => z) (fun h' u tk hk => ?_) hsz
    exact ⟨.str d.shown, H, I.kept hk, ⟨u, rfl⟩, q⟩
/-- powers of any size below 2 ^ 27 bits -/
def CPowW (i j : Int) : Prop := 0 ≤ j ∧ (Builtin.Int.intBits i : Int) * j ≤ 2 ^ 27
theorem op_powW : OpR X (binaryOp .Pow) (rI CPowW fun i j => .int (i ^ j.toNat)) := opI fun _ _ _ _ _ _ _ hc q => pow_int hc.1 hc.2 q
end

/-! ### the end -/
theorem law_goes {P : Program} {w : World} {K : PySem.W.Frag} {mg mb : Str → Option Value} {k : Nat} {fa a : Addr} {fd : FuncData} {x : Str} {sp : Sp} {s1 : Shared} {vs : List Value} {ns : List Int}
    (KX : K.In s1.heap) (hns : s1.heap.Ns mainGlobals mg) (hb : s1.heap.Ns builtinsNs mb) (hbb : ∀ x : Str, x ≠ "__name__" → mb x = bootBuiltins x) (hlim : s1.heap.NoLimit) (hg : s1.gens = #[])
    (ha : s1.heap.get? a = some { cls := .type "list", data := .seq vs.toArray }) (hi : IntsAre vs ns) (hl : ns.length ≤ sizeLine) (hr : Room k callerA)
    (F : ∀ base : Heap, K.In base → base.Ns mainGlobals mg → FnQ P w K mg base k fa fd [x] sp) (hbind : ∀ (s : Shared) (u : Value), BindsTo s fd ⟨[u], []⟩ [(x, u)])
    (hsp : ∀ H : Hp, SqL K H a (ns.map V.int) → sp [.ref a] H (fun v _ => v = .bl true) E0) :
    codeAny (model P w) callerA (.call (.ref fa) ⟨[.ref a], []⟩) (fun r s' => r = .ok (.ret (.bool true)) ∧ OldK s1.heap s'.heap ∧ s'.os = s1.os ∧ AllBare s'.gens) s1 := by
  have rv := vals_ints hi
  -- from any abstract heap that tracks nothing, or the script alone, as a known object
  have from_ : ∀ H : Hp, SqL K H a (ns.map V.int) → HOk P w H s1.heap → (∀ b u, H b = some u → b = a ∧ K.lookup a = none ∧ u = .frz { cls := .type "list", data := .seq vs.toArray } (.lst (ns.map V.int))) →
      codeAny (model P w) callerA (.call (.ref fa) ⟨[.ref a], []⟩) (fun r s' => r = .ok (.ret (.bool true)) ∧ OldK s1.heap s'.heap ∧ s'.os = s1.os ∧ AllBare s'.gens) s1 := by
    intro H hS hok hT
    -- what is a dict, or of the written part, is not tracked
    have free1 : ∀ {b : Addr} {o : Obj}, s1.heap.get? b = some o → (∃ es ep, o.data = .dict es ep) → H b = none := by
      intro b o e hd
      cases q : H b with
      | none => rfl
      | some u =>
        obtain ⟨es, ep, hd⟩ := hd
        obtain ⟨rfl, -, -⟩ := hT b u q
        rw [ha] at e
        cases e
        cases hd
    have free2 : ∀ {b : Addr} {o : Obj}, K.lookup b = some o → H b = none := by
      intro b o e
      cases q : H b with
      | none => rfl
      | some u =>
        obtain ⟨rfl, z, -⟩ := hT b u q
        rw [z] at e
        cases e
    have ns2 : ∀ {b : Addr} {m : Str → Option Value}, s1.heap.Ns b m → (hidT s1.heap H).Ns b m := by
      rintro b m ⟨o, es, ep, e, d, r⟩
      exact ⟨o, es, ep, hidT_get e (free1 e ⟨es, ep, d⟩), d, r⟩
    have kb : K.In (hidT s1.heap H) := fun b o e => hidT_get (KX b o e) (free2 e)
    have md : Mod K mg (hidT s1.heap H) := by
      obtain ⟨mc, l1, l2⟩ := hlim
      exact ⟨kb, ns2 hns, ⟨mb, ns2 hb, hbb⟩, ⟨mc, ns2 l1, l2⟩⟩
    have en : Env0 P w K mg (hidT s1.heap H) callerA [] s1 H :=
      { frames := rfl, mod := md, bs := fun b o e => of_hidT e, bsz := Nat.le_of_eq (hidT_size _ _), funs := trivial, frf := (fun b hb => nomatch hb), hok := hok, bare := AllBare.of_eq hg }
    have run := (F _ kb (ns2 hns)).goes callerA [] s1 H ⟨[.ref a], []⟩ [.ref a] [.ref a] _ E0 quiet_caller hr en (hbind s1 (.ref a)) (.cons rfl .nil) (hsp H hS)
    refine codeAny_mono run fun r s2 h => ?_
    cases r with
    | error e => exact False.elim h
    | ok fl =>
      cases fl with
      | next => exact False.elim h
      | brk => exact False.elim h
      | cont => exact False.elim h
      | ret u =>
        obtain ⟨v, H2, os, bare, un, hok2, r2, rfl⟩ := h
        cases r2
        refine ⟨rfl, OldK.of_keep fun b o e => ?_, os, bare⟩
        cases q : H b with
        | none => exact un.keep b o e q (fun z => nomatch z) (fun z => nomatch z)
        | some u =>
          obtain ⟨rfl, -, rfl⟩ := hT b u q
          have k1 := (hok b _ q).1
          have k2 := (hok2 b _ (un.frzs b _ _ q)).1
          rw [e] at k1
          rw [k2, k1]
  cases hk : K.lookup a with
  | some o =>
    have e := KX a o hk
    rw [ha] at e
    cases e
    refine from_ (fun _ => none) (Or.inr ⟨_, vs.toArray, _, hk, rfl, rfl, rfl, ?_, ?_⟩) (fun b u z => nomatch z) (fun b u z => nomatch z)
    · rw [List.size_toArray, hi.length]
      exact hl
    · simpa using rv
  | none =>
    have h0 : upd (fun _ => none) a (.frz { cls := .type "list", data := .seq vs.toArray } (.lst (ns.map V.int))) a = some (.frz { cls := .type "list", data := .seq vs.toArray } (.lst (ns.map V.int))) := upd_same
    have one : ∀ b u, upd (fun _ => none) a (.frz { cls := .type "list", data := .seq vs.toArray } (.lst (ns.map V.int))) b = some u → b = a ∧ K.lookup a = none ∧ u = .frz { cls := .type "list", data := .seq vs.toArray } (.lst (ns.map V.int)) := by
      intro b u z
      by_cases hb : b = a
      · subst hb
        rw [h0] at z
        exact ⟨rfl, hk, (Option.some.inj z).symm⟩
      · rw [upd_ne hb] at z
        cases z
    refine from_ _ (Or.inl (Or.inr ⟨_, h0⟩)) (fun b u z => ?_) one
    obtain ⟨rfl, -, rfl⟩ := one b u z
    refine ⟨ha, ?_, vs, _, rv, ha⟩
    rw [List.length_map]
    exact hl
/-- the goal that k_head leaves (case hc) -/
theorem law_walks {l : PySem.W.OpenLaw} {n k : Nat} {q : Program} {loose : List Str} {XP : (Str → Option Value) → Heap → Prop} {YP : World → Heap → Prop} {d : DefRec} {K : Params → PySem.W.Frag} {sp : PySem.W.Frag → Sp} {x : Str}
    (hn : l.most = some n) (hn2 : n ≤ sizeLine) (hdf : d.params.defaults = []) (hr : Room k callerA)
    (hY : ∀ (w : World) (h : Heap), YP w h → (K w.params).In h)
    (F : ∀ (w : World) (mg : Str → Option Value) (fa : Addr) (h : Heap), (K w.params).In h → h.Ns mainGlobals mg → mg d.name = some (.ref fa) →
      ∃ fd : FuncData, (∀ (s : Shared) (u : Value), BindsTo s fd ⟨[u], []⟩ [(x, u)]) ∧
        ∀ base : Heap, (K w.params).In base → base.Ns mainGlobals mg → FnQ l.prog w (K w.params) mg base k fa fd [x] (sp (K w.params)))
    (hsp : ∀ (K : PySem.W.Frag) (H : Hp) (a : Addr) (ns : List Int), ns.length ≤ n → SqL K H a (ns.map V.int) → sp K [.ref a] H (fun v _ => v = .bl true) E0) :
    PySem.W.WalkO q loose XP YP l.row.toRowW d [] (fun f vs => PySem.call f vs) := by
  refine Att.attach_call hn hdf ?_
  intro w s0 s1 mg mb fa o pm cd doc a vs ns G Y ho hd hcd hmg hobj hints hlen hg
  have KX := hY w _ Y
  obtain ⟨fd, hb, hF⟩ := F w mg fa _ KX G.T.g hmg
  exact law_goes KX G.T.g G.T.b G.T.builtins G.T.nolimit hg hobj hints (Nat.le_trans hlen hn2) hr hF hb (fun H hS => hsp (K w.params) H a ns hlen hS)
end Lay
namespace Lay
open PySem PySem.Spec PyProof.Rows L2

/-! ### a def of the text that callers may use -/
structure DefAt (K : PySem.W.Frag) (mg : Str → Option Value) (x : Str) (st : Stmt) (ps : List Str) : Prop where
  ex : ∃ (f : Addr) (fd : FuncData), Fun K x x st f fd ∧ mg x = some (.ref f) ∧ Binds K fd ps []
structure Cal (P : Program) (w : World) (K : PySem.W.Frag) (mg : Str → Option Value) (base : Heap) (x : Str) (k : Nat) (ps : List Str) (sp : Sp) : Prop where
  ex : ∃ (f : Addr) (fd : FuncData), FnQ P w K mg base k f fd ps sp ∧ mg x = some (.ref f) ∧ PySem.W.keepIn K (.ref f) = true ∧ Binds K fd ps []
theorem Cal.lift {P : Program} {w : World} {K : PySem.W.Frag} {mg : Str → Option Value} {base : Heap} {x : Str} {j k : Nat} {ps : List Str} {sp : Sp} (c : Cal P w K mg base x j ps sp) (h : j ≤ k) : Cal P w K mg base x k ps sp := by
  obtain ⟨f, fd, F, m, kp, b⟩ := c.ex
  exact ⟨f, fd, ⟨F.many, fun A o s H ar us vs Q E hq hr he hb hv hs => F.goes A o s H ar us vs Q E hq (hr.mono h) he hb hv hs⟩, m, kp, b⟩
section
variable {P : Program} {w : World} {K : PySem.W.Frag} {mg : Str → Option Value} {base : Heap}
theorem cal_of {x : Str} {st : Stmt} {N ps : List Str} {k : Nat} {sp : Sp} (D : DefAt K mg x st ps) (S : FnScope N ps (defScope st))
    (many : ∀ vs H Q E, sp vs H Q E → vs.length = ps.length)
    (body : ∀ (f : Addr) (cdv : Value) (A : Around) (outer : List Env) (s : Shared) (H : Hp) (vs : List V) (Q : VK) (E : XK), Quiet A → Room k (A.deeper (envOfC x (defScope st) s.heap.objs.size f cdv)) → sp vs H Q E →
      ∃ t, PSs (cxOf CX0 P w K mg base N x (defScope st) f cdv A outer s H E).nox (defBody st) t ∧ t { nx := fun _ H' => Q .non H', rt := Q } (start N vs) H) :
    Cal P w K mg base x (k + 1) ps sp := by
  obtain ⟨f, fd, F, m, b⟩ := D.ex
  exact ⟨f, fd, quiet_def F S many (body f), m, F.kp, b⟩
theorem Cal.fn {x : Str} {k : Nat} {ps : List Str} {sp : Sp} (c : Cal P w K mg base x k ps sp) {fa : Addr} (h : mg x = some (.ref fa)) : ∃ fd, FnQ P w K mg base k fa fd ps sp := by
  obtain ⟨f, fd, F, m, -, -⟩ := c.ex
  rw [m] at h
  cases h
  exact ⟨fd, F⟩
end
section
variable {X : Cx} {k : Nat} {ps : List Str} {sp : Sp} {x : Str} {p pos : Pos} {e : Expr} {es : List Expr} {t : TA}
theorem qc (c : Cal X.prog X.w X.K X.mg X.base x k ps sp) (hq : Quiet X.A) (hr : Room k X.A) (hg : Gl X x)
    (ha : PA X (e :: es) t) (hdb : (x == ("__debug__" : Str)) = false := by decide) (he : starEach (e :: es) X.env = (false, eval e X.env) :: starEach es X.env := by rfl) (hpl : (backTo pos (starEach es X.env)).any (·.1) = false := by rfl) :
    PE X (.Call (.Name x p) (e :: es) [] pos) (tCl sp t) := by
  obtain ⟨f, fd, F, m, kp, b⟩ := c.ex
  exact qcall F hq hr hg m kp b ha hdb he hpl
theorem qc0 (c : Cal X.prog X.w X.K X.mg X.base x k ps sp) (hq : Quiet X.A) (hr : Room k X.A) (hg : Gl X x)
    (hdb : (x == ("__debug__" : Str)) = false := by decide) : PE X (.Call (.Name x p) [] [] pos) (tCl sp tNil) := by
  obtain ⟨f, fd, F, m, kp, b⟩ := c.ex
  exact qcall0 F hq hr hg m kp b hdb
end

/-! ### reading, step by step -/
section
variable {σ : L2.St} {H : Hp} {Q : VK} {ta tb tc te tv : TE} {D : Ends} {v x y : V} {K : PySem.W.Frag}
theorem rd_var {i : Nat} (h : σ[i]? = some (some v)) (q : Q v H) : tVar i σ H Q := ⟨v, h, q⟩
theorem rd_c (q : Q v H) : tC v σ H Q := q
theorem rd_op {r : R2} (q : ta σ H (fun x H1 => tb σ H1 fun y H2 => r x y H2 Q)) : tOp r ta tb σ H Q := q
theorem rd_un {r : V → Hp → VK → Prop} (q : ta σ H (fun x H1 => r x H1 Q)) : tUn r ta σ H Q := q
theorem rd_CB {r : List V → Hp → VK → Prop} {t : TA} (q : t σ H (fun vs H1 => r vs H1 Q)) : tCB r t σ H Q := q
theorem rd_Cl {sp : Sp} {t : TA} (q : t σ H (fun vs H1 => sp vs H1 Q E0)) : tCl sp t σ H Q := q
theorem rd_nil {R : List V → Hp → Prop} (q : R [] H) : tNil σ H R := q
theorem rd_cons {t : TA} {R : List V → Hp → Prop} (q : te σ H (fun x H1 => t σ H1 fun xs H2 => R (x :: xs) H2)) : tCons te t σ H R := q
theorem rd_seq {t u : TS} (q : t { D with nx := u D } σ H) : tSeq t u D σ H := q
theorem rd_next (q : D.nx σ H) : tNext D σ H := q
theorem rd_asg {g : TG} (q : te σ H (fun x H1 => g x σ H1 D.nx)) : tAsg te g D σ H := q
theorem rd_name {i : Nat} {R : L2.St → Hp → Prop} (q : R (σ.set i (some v)) H) : gName i v σ H R := q
theorem rd_ret (q : te σ H D.rt) : tRet te D σ H := q
theorem rd_drop (q : te σ H (fun _ H1 => D.nx σ H1)) : tDrop te D σ H := q
theorem rd_ifS {c : TT} {t u : TS} (q : c σ H (fun b H1 => if b = true then t D σ H1 else u D σ H1)) : tIfS c t u D σ H := q
theorem rd_test {R : Bool → Hp → Prop} (q : te σ H (fun x H' => ∃ k, x = .bl k ∧ R k H')) : tTest te σ H R := q
theorem rd_B {R : Bool → Hp → Prop} (q : te σ H (fun x H' => ∃ k, x = .bl k ∧ R k H')) : tB te σ H R := q
theorem rd_bl {b : Bool} {R : Bool → Prop} (q : R b) : ∃ k, V.bl b = V.bl k ∧ R k := ⟨b, rfl, q⟩
theorem rd_not {t : TT} {R : Bool → Hp → Prop} (q : t σ H (fun c H1 => R (!c) H1)) : tNot t σ H R := q
theorem rd_and {t u : TT} {R : Bool → Hp → Prop} (q : t σ H (fun c H1 => if c = true then u σ H1 R else R false H1)) : tAnd t u σ H R := q
theorem rd_or {t u : TT} {R : Bool → Hp → Prop} (q : t σ H (fun c H1 => if c = true then R true H1 else u σ H1 R)) : tOr t u σ H R := q
theorem rd_andV (q : ta σ H (fun x H1 => ∃ c, x = .bl c ∧ if c = true then tb σ H1 Q else Q (.bl false) H1)) : tAndV ta tb σ H Q := q
theorem rd_orV (q : ta σ H (fun x H1 => ∃ c, x = .bl c ∧ if c = true then Q (.bl true) H1 else tb σ H1 Q)) : tOrV ta tb σ H Q := q
theorem rd_notV (q : ta σ H (fun x H1 => ∃ c, x = .bl c ∧ Q (.bl (!c)) H1)) : tNotV ta σ H Q := q
theorem rd_ifE {t : TT} (q : t σ H (fun c H1 => if c = true then ta σ H1 Q else tb σ H1 Q)) : tIf t ta tb σ H Q := q
theorem rd_chain {r r' : R2} (q : ta σ H (fun x H1 => tb σ H1 fun y H2 => r x y H2 fun z H3 => ∃ k, z = .bl k ∧ (if k = true then tc σ H3 fun w' H4 => r' y w' H4 Q else Q (.bl false) H3))) : tChain r r' ta tb tc σ H Q := q
theorem rd_tup {t : TA} (q : t σ H (fun xs H1 => xs.length ≤ sizeLine ∧ ∀ p, H1 p = none → Q (.ref p) (upd H1 p (.tup xs)))) : tTup t σ H Q := q
theorem rd_lst {t : TA} (q : t σ H (fun xs H1 => xs.length ≤ sizeLine ∧ ∀ p, H1 p = none → Q (.ref p) (upd H1 p (.lst xs)))) : tLst t σ H Q := q
theorem rd_new {n : Nat} {R : Addr → Prop} (hn : n ≤ 1000) (q : ∀ p, H p = none → R p) : n ≤ sizeLine ∧ ∀ p, H p = none → R p := ⟨Nat.le_trans hn (by decide), q⟩
/-- the ifs -/
theorem rd_ite {p : Prop} [Decidable p] {A B : Prop} (h1 : p → A) (h2 : ¬ p → B) : if decide p = true then A else B := by
  by_cases h : p
  · rw [decide_eq_true h]
    exact iteT (h1 h)
  · rw [decide_eq_false h]
    exact iteF (h2 h)
theorem rd_iteN {p : Prop} [Decidable p] {A B : Prop} (h1 : ¬ p → A) (h2 : p → B) : if (!decide p) = true then A else B := by
  by_cases h : p
  · rw [decide_eq_true h]
    exact iteF (h2 h)
  · rw [decide_eq_false h]
    exact iteT (h1 h)
theorem rd_ifb {b : Bool} {A B : Prop} (h1 : b = true → A) (h2 : b = false → B) : if b = true then A else B := by
  cases b with
  | true => exact iteT (h1 rfl)
  | false => exact iteF (h2 rfl)
/-- ints -/
theorem rd_add {i j : Int} (q : Q (.int (i + j)) H) : rI0 (fun i j => .int (i + j)) (.int i) (.int j) H Q := ⟨i, j, rfl, rfl, q⟩
theorem rd_sub {i j : Int} (q : Q (.int (i - j)) H) : rI0 (fun i j => .int (i - j)) (.int i) (.int j) H Q := ⟨i, j, rfl, rfl, q⟩
theorem rd_lt {i j : Int} (q : Q (.bl (decide (i < j))) H) : rI0 (fun i j => .bl (decide (i < j))) (.int i) (.int j) H Q := ⟨i, j, rfl, rfl, q⟩
theorem rd_le {i j : Int} (q : Q (.bl (decide (i ≤ j))) H) : rI0 (fun i j => .bl (decide (i ≤ j))) (.int i) (.int j) H Q := ⟨i, j, rfl, rfl, q⟩
theorem rd_gt {i j : Int} (q : Q (.bl (decide (j < i))) H) : rI0 (fun i j => .bl (decide (j < i))) (.int i) (.int j) H Q := ⟨i, j, rfl, rfl, q⟩
theorem rd_ge {i j : Int} (q : Q (.bl (decide (j ≤ i))) H) : rI0 (fun i j => .bl (decide (j ≤ i))) (.int i) (.int j) H Q := ⟨i, j, rfl, rfl, q⟩
theorem rd_neg {i : Int} (q : Q (.int (-i)) H) : rU (fun i => .int (-i)) (.int i) H Q := ⟨i, rfl, q⟩
theorem rd_mul {i j : Int} (h : CMul i j) (q : Q (.int (i * j)) H) : rI CMul (fun i j => .int (i * j)) (.int i) (.int j) H Q := ⟨i, j, rfl, rfl, h, q⟩
theorem rd_mulW {i j : Int} (h : CMulW i j) (q : Q (.int (i * j)) H) : rI CMulW (fun i j => .int (i * j)) (.int i) (.int j) H Q := ⟨i, j, rfl, rfl, h, q⟩
theorem rd_pow {i j : Int} (h : CPow i j) (q : Q (.int (i ^ j.toNat)) H) : rI CPow (fun i j => .int (i ^ j.toNat)) (.int i) (.int j) H Q := ⟨i, j, rfl, rfl, h, q⟩
theorem rd_powW {i j : Int} (h : CPowW i j) (q : Q (.int (i ^ j.toNat)) H) : rI CPowW (fun i j => .int (i ^ j.toNat)) (.int i) (.int j) H Q := ⟨i, j, rfl, rfl, h, q⟩
theorem rd_mod {i j : Int} (h : 0 < j) (q : Q (.int (i % j)) H) : rI (fun _ j => 0 < j) (fun i j => .int (i % j)) (.int i) (.int j) H Q := ⟨i, j, rfl, rfl, h, q⟩
theorem rd_fdivW {i j : Int} (h : CDivW i j) (q : Q (.int (i / j)) H) : rI CDivW (fun i j => .int (i / j)) (.int i) (.int j) H Q := ⟨i, j, rfl, rfl, h, q⟩
theorem rd_eq (h : scal x y = true) (q : Q (.bl (decide (x = y))) H) : rEq x y H Q := ⟨h, q⟩
theorem rd_ne (h : scal x y = true) (q : Q (.bl (!decide (x = y))) H) : rNe x y H Q := ⟨h, q⟩
theorem int_eq {i j : Int} : decide (V.int i = V.int j) = decide (i = j) := by
  by_cases h : i = j
  · subst h
    rw [decide_eq_true rfl, decide_eq_true rfl]
  · rw [decide_eq_false h, decide_eq_false (fun z => h (V.int.inj z))]
theorem rd_eqI {i j : Int} (q : Q (.bl (decide (i = j))) H) : rEq (.int i) (.int j) H Q := ⟨rfl, by rw [int_eq]; exact q⟩
theorem rd_neI {i j : Int} (q : Q (.bl (!decide (i = j))) H) : rNe (.int i) (.int j) H Q := ⟨rfl, by rw [int_eq]; exact q⟩
theorem rd_ixL {p : Addr} {xs : List V} {i : Int} (h : SqL K H p xs) (ha : atI xs i = some v) (q : Q v H) : rIxL K (.ref p) (.int i) H Q := ⟨p, xs, i, v, rfl, rfl, h, ha, q⟩
theorem rd_ixT {p : Addr} {xs : List V} {i : Int} (h : SqT K H p xs) (ha : atI xs i = some v) (q : Q v H) : rIxT K (.ref p) (.int i) H Q := ⟨p, xs, i, v, rfl, rfl, h, ha, q⟩
end

/-! ### relations by name -/
def rInt : List V → Hp → VK → Prop := fun xs H Q => (∃ i, xs = [.int i] ∧ Q (.int i) H) ∨ ∃ k, xs = [.bl k] ∧ Q (.int (if k then 1 else 0)) H
def rAbs : List V → Hp → VK → Prop := fun xs H Q => ∃ i, xs = [.int i] ∧ Q (.int (if i < 0 then -i else i)) H
def rMx2 : List V → Hp → VK → Prop := fun xs H Q => ∃ i j, xs = [.int i, .int j] ∧ Q (.int (if j > i then j else i)) H
def rMn2 : List V → Hp → VK → Prop := fun xs H Q => ∃ i j, xs = [.int i, .int j] ∧ Q (.int (if j < i then j else i)) H
def rLenQ (K : PySem.W.Frag) : List V → Hp → VK → Prop := fun xs H Q => ∃ p ys, xs = [.ref p] ∧ (SqL K H p ys ∨ SqT K H p ys) ∧ Q (.int ys.length) H
def rLenZ : List V → Hp → VK → Prop := fun xs H Q => ∃ z, xs = [.str z] ∧ z.length ≤ sizeLine ∧ Q (.int z.length) H
def rLenA (K : PySem.W.Frag) : List V → Hp → VK → Prop := fun xs H Q => rLenQ K xs H Q ∨ rLenZ xs H Q
def rTupOf (K : PySem.W.Frag) : List V → Hp → VK → Prop := fun xs H Q => ∃ p ys, xs = [.ref p] ∧ ((SqL K H p ys ∧ ∀ l, H l = none → Q (.ref l) (upd H l (.tup ys))) ∨ (SqT K H p ys ∧ Q (.ref p) H))
def rLstOf (K : PySem.W.Frag) : List V → Hp → VK → Prop := fun xs H Q => ∃ p ys, xs = [.ref p] ∧ (SqL K H p ys ∨ SqT K H p ys) ∧ ∀ l, H l = none → Q (.ref l) (upd H l (.lst ys))
def rLtZ : R2 := fun x y H Q => ∃ i j, x = .str i ∧ y = .str j ∧ Q (.bl (decide (i.cps.toList < j.cps.toList))) H
def rLeZ : R2 := fun x y H Q => ∃ i j, x = .str i ∧ y = .str j ∧ Q (.bl (!decide (j.cps.toList < i.cps.toList))) H
def rGtZ : R2 := fun x y H Q => ∃ i j, x = .str i ∧ y = .str j ∧ Q (.bl (decide (j.cps.toList < i.cps.toList))) H
def rGeZ : R2 := fun x y H Q => ∃ i j, x = .str i ∧ y = .str j ∧ Q (.bl (!decide (i.cps.toList < j.cps.toList))) H
def rCatZ : R2 := fun x y H Q => ∃ i j, x = .str i ∧ y = .str j ∧ i.length + j.length ≤ sizeLine ∧ Q (.str (i ++ j)) H
section
variable {X : Cx}
theorem q_int : CallR X (.type "int") rInt := call_int1
theorem q_abs : CallR X (.builtin "abs") rAbs := call_abs
theorem q_max2 (hc : X.calm = true) : CallR X (.builtin "max") rMx2 := call_max2 hc
theorem q_min2 (hc : X.calm = true) : CallR X (.builtin "min") rMn2 := call_min2 hc
theorem q_lenQ : CallR X (.builtin "len") (rLenQ X.K) := call_len_seq
theorem q_lenZ : CallR X (.builtin "len") rLenZ := call_len_str
theorem q_lenA : CallR X (.builtin "len") (rLenA X.K) := CallR.or q_lenQ q_lenZ
theorem q_tupOf : CallR X (.type "tuple") (rTupOf X.K) := call_tuple_of
theorem q_lstOf : CallR X (.type "list") (rLstOf X.K) := call_list_of
theorem q_ltZ : OpR X (compareOp .Lt) rLtZ := op_lt_str
theorem q_leZ : OpR X (compareOp .LtE) rLeZ := op_le_str
theorem q_gtZ : OpR X (compareOp .Gt) rGtZ := op_gt_str
theorem q_geZ : OpR X (compareOp .GtE) rGeZ := op_ge_str
theorem q_catZ : OpR X (binaryOp .Add) rCatZ := op_add_str
end
section
variable {H : Hp} {Q : VK} {K : PySem.W.Frag}
theorem rd_int1 {i : Int} (q : Q (.int i) H) : rInt [V.int i] H Q := Or.inl ⟨i, rfl, q⟩
theorem rd_int1b {b : Bool} (q : Q (.int (if b then 1 else 0)) H) : rInt [V.bl b] H Q := Or.inr ⟨b, rfl, q⟩
theorem rd_abs {i : Int} (q : Q (.int (if i < 0 then -i else i)) H) : rAbs [V.int i] H Q := ⟨i, rfl, q⟩
theorem rd_max2 {i j : Int} (q : Q (.int (if j > i then j else i)) H) : rMx2 [V.int i, V.int j] H Q := ⟨i, j, rfl, q⟩
theorem rd_min2 {i j : Int} (q : Q (.int (if j < i then j else i)) H) : rMn2 [V.int i, V.int j] H Q := ⟨i, j, rfl, q⟩
theorem rd_lenL {p : Addr} {ys : List V} (h : SqL K H p ys) (q : Q (.int ys.length) H) : rLenQ K [V.ref p] H Q := ⟨p, ys, rfl, Or.inl h, q⟩
theorem rd_lenT {p : Addr} {ys : List V} (h : SqT K H p ys) (q : Q (.int ys.length) H) : rLenQ K [V.ref p] H Q := ⟨p, ys, rfl, Or.inr h, q⟩
theorem rd_lenS {z : Str} (h : z.length ≤ sizeLine) (q : Q (.int z.length) H) : rLenZ [V.str z] H Q := ⟨z, rfl, h, q⟩
theorem rd_ltZ {i j : Str} (q : Q (.bl (decide (i.cps.toList < j.cps.toList))) H) : rLtZ (.str i) (.str j) H Q := ⟨i, j, rfl, rfl, q⟩
theorem rd_leZ {i j : Str} (q : Q (.bl (!decide (j.cps.toList < i.cps.toList))) H) : rLeZ (.str i) (.str j) H Q := ⟨i, j, rfl, rfl, q⟩
theorem rd_gtZ {i j : Str} (q : Q (.bl (decide (j.cps.toList < i.cps.toList))) H) : rGtZ (.str i) (.str j) H Q := ⟨i, j, rfl, rfl, q⟩
theorem rd_geZ {i j : Str} (q : Q (.bl (!decide (i.cps.toList < j.cps.toList))) H) : rGeZ (.str i) (.str j) H Q := ⟨i, j, rfl, rfl, q⟩
theorem rd_catZ {i j : Str} (h : i.length + j.length ≤ sizeLine) (q : Q (.str (i ++ j)) H) : rCatZ (.str i) (.str j) H Q := ⟨i, j, rfl, rfl, h, q⟩
end
/-! ### heaps -/
theorem up_old {H : Hp} {a p : Addr} {o u : HO} (hp : H p = none) (h : H a = some o) : upd H p u a = some o := by
  rw [upd_ne (ne_of_none h hp)]
  exact h
theorem up_oth {H : Hp} {a b : Addr} {o u : HO} (hne : b ≠ a) (h : H b = some o) : upd H a u b = some o := by
  rw [upd_ne hne]
  exact h
theorem sq_old {K : PySem.W.Frag} {H : Hp} {a p : Addr} {u : HO} {xs : List V} (hp : H p = none) (h : SqL K H a xs) : SqL K (upd H p u) a xs := by
  rcases h with (h | ⟨o, h⟩) | h
  · exact Or.inl (Or.inl (up_old hp h))
  · exact Or.inl (Or.inr ⟨o, up_old hp h⟩)
  · exact Or.inr h
theorem at_z {α : Type} {xs : List α} {z : Int} {v : α} (h0 : 0 ≤ z) (h : xs[z.toNat]? = some v) : atI xs z = some v := by
  have e : z = ((z.toNat : Nat) : Int) := by omega
  rw [e]
  exact atI_nat h

/-! ### the bag -/
/-- a bag stands at a -/
def BagAt (H : Hp) (a : Addr) : Prop := ∃ g m c : Int, H a = some (.lst [.int g, .int m, .int c]) ∧ 0 ≤ g ∧ 0 ≤ m ∧ 0 ≤ c
/-- all but what stands at a is as it was -/
def But (a : Addr) (H H' : Hp) : Prop := ∀ b o, b ≠ a → H b = some o → H' b = some o
theorem But.refl (a : Addr) (H : Hp) : But a H H := fun _ _ _ h => h
theorem But.trans {a : Addr} {H H1 H2 : Hp} (x : But a H H1) (y : But a H1 H2) : But a H H2 := fun b o n h => y b o n (x b o n h)
theorem But.new {a p : Addr} {H : Hp} {u : HO} (hp : H p = none) : But a H (upd H p u) := fun _ _ _ h => up_old hp h
theorem But.upd {a : Addr} {H : Hp} {u : HO} : But a H (upd H a u) := fun _ _ n h => up_oth n h
theorem But.sq {K : PySem.W.Frag} {a b : Addr} {H H' : Hp} {xs : List V} (x : But a H H') (n : b ≠ a) (h : SqL K H b xs) : SqL K H' b xs := by
  rcases h with (h | ⟨o, h⟩) | h
  · exact Or.inl (Or.inl (x _ _ n h))
  · exact Or.inl (Or.inr ⟨o, x _ _ n h⟩)
  · exact Or.inr h
theorem BagAt.old {H : Hp} {a p : Addr} {u : HO} (hp : H p = none) (h : BagAt H a) : BagAt (upd H p u) a := by
  obtain ⟨g, m, c, e, r⟩ := h
  exact ⟨g, m, c, up_old hp e, r⟩
def spBag (K : PySem.W.Frag) : Sp := fun vs H Q _ => ∃ (a : Addr) (ns : List Int) (i : Nat), vs = [.ref a, .int (i : Int)] ∧ SqL K H a (ns.map V.int) ∧
  ∀ p H', H p = none → Same H H' → BagAt H' p → Q (.ref p) H'
def spDraw : Sp := fun vs H Q _ => ∃ (a : Addr) (n : Int), vs = [.ref a, .int n] ∧ BagAt H a ∧ 1 ≤ n ∧ n < 1000000 ∧
  ∀ (k : Int) (H' : Hp), 0 ≤ k → k < n → But a H H' → BagAt H' a → Q (.int k) H'
end Lay
namespace Lay
open PySem PySem.Spec PyProof.Rows L2
/-- one of the items of a list, or one sign of a text -/
def spOne (K : PySem.W.Frag) : Sp := fun vs H Q _ => ∃ (a : Addr) (it : V), vs = [.ref a, it] ∧ BagAt H a ∧
  ((∃ l xs, it = .ref l ∧ l ≠ a ∧ SqL K H l xs ∧ 0 < xs.length ∧ xs.length ≤ 1000 ∧ ∀ v H', v ∈ xs → But a H H' → BagAt H' a → Q v H') ∨
   (∃ z, it = .str z ∧ 0 < z.length ∧ z.length ≤ 1000 ∧ ∀ c H', c ∈ z.cps.toList → But a H H' → BagAt H' a → Q (.str ⟨#[c]⟩) H'))
/-- which built-in names the text leaves as they are -/
def Bare (mg : Str → Option Value) (x : Str) : Prop := mg x = none
end Lay
namespace Lay
open PySem PySem.Spec PyProof.Rows L2
theorem at_nat {α : Type} {xs : List α} {j : Nat} {v : α} (h : xs[j]? = some v) : atI xs (j : Int) = some v := atI_nat h
end Lay
namespace Lay
open PySem PySem.Spec PyProof.Rows L2
theorem rd_at {t : TS} {D : Ends} {σ : L2.St} {H : Hp} (σ2 : L2.St) (e : σ = σ2) (q : t D σ2 H) : t D σ H := by
  rw [e]
  exact q
end Lay
namespace Lay
open PySem PySem.Spec PyProof.Rows L2
theorem rd_gsub {to ti : TE} {t : TSet} {v : V} {σ : L2.St} {H : Hp} {R : L2.St → Hp → Prop} (q : to σ H (fun o H1 => ti σ H1 fun i H2 => t o i v H2 fun H3 => R σ H3)) : gSub to ti t v σ H R := q
theorem rd_setL {p : Addr} {xs ys : List V} {k : Int} {j : Nat} {v : V} {H : Hp} {R : Hp → Prop} (h : H p = some (.lst xs)) (hk : ixN xs.length k = some j) (e : xs.set j v = ys) (q : R (upd H p (.lst ys))) : rSetL (.ref p) (.int k) v H R := by
  subst e
  exact ⟨p, xs, k, j, rfl, rfl, h, hk, q⟩
theorem mul_lit {i j : Int} (h : -(2 ^ 64) < i ∧ i < 2 ^ 64) : CMul i j := Or.inl h
theorem mul_rit {i j : Int} (h : -(2 ^ 64) < j ∧ j < 2 ^ 64) : CMul i j := Or.inr h
end Lay
namespace Lay
open PySem PySem.Spec PyProof.Rows L2
section
variable {te ta tb : TE} {σ : L2.St} {H : Hp} {Q : VK} {D : Ends} {K : PySem.W.Frag}
/-- what is read up to here is told by P, whatever follows -/
theorem rd_with (P : V → Hp → Prop) (k : ∀ Q' : VK, (∀ v H1, P v H1 → Q' v H1) → te σ H Q') (r : ∀ v H1, P v H1 → Q v H1) : te σ H Q := k Q r
/-- a statement's end told by P; it may leave by returns that rt tells -/
theorem rd_withS {t : TS} (P : L2.St → Hp → Prop) (k : ∀ D' : Ends, (∀ σ1 H1, P σ1 H1 → D'.nx σ1 H1) → (∀ v H1, D.rt v H1 → D'.rt v H1) → t D' σ H) (r : ∀ σ1 H1, P σ1 H1 → D.nx σ1 H1) : t D σ H := k D r (fun _ _ h => h)
theorem rd_sl {r : V → Option Int → Option Int → Hp → VK → Prop} {tl th : TO} (q : te σ H (fun x H1 => tl σ H1 fun l H2 => th σ H2 fun u H3 => r x l u H3 Q)) : tSl r te tl th σ H Q := q
theorem rd_noP {R : Option Int → Hp → Prop} (q : R none H) : tNoPart σ H R := q
theorem rd_part {R : Option Int → Hp → Prop} (q : te σ H (fun x H1 => ∃ i, x = .int i ∧ R (some i) H1)) : tPart te σ H R := q
theorem rd_i {i : Int} {R : Int → Prop} (q : R i) : ∃ j, V.int i = V.int j ∧ R j := ⟨i, rfl, q⟩
theorem rd_slL {a : Addr} {xs : List V} {lo hi : Option Int} (h : SqL K H a xs) (q : ∀ p, H p = none → Q (.ref p) (upd H p (.lst (cutV xs lo hi)))) : rSlL K (.ref a) lo hi H Q := ⟨a, xs, rfl, h, q⟩
theorem rd_sum {a : Addr} {ns : List Int} (h : SqL K H a (ns.map V.int)) (q : Q (.int ns.sum) H) : rSum K [V.ref a] H Q := ⟨a, ns, rfl, h, q⟩
theorem rd_all {a : Addr} {bs : List Bool} (h : SqL K H a (bs.map V.bl)) (q : Q (.bl (bs.all id)) H) : rAll K [V.ref a] H Q := ⟨a, bs, rfl, h, q⟩
theorem rd_ixA {it : V} {i : Int} (h : rIxL K it (.int i) H Q ∨ rIxT K it (.int i) H Q ∨ rIxS it (.int i) H Q) : rIx K it (.int i) H Q := h
end
theorem cut_ints (ns : List Int) (lo hi : Option Int) : ∃ ms : List Int, cutV (ns.map V.int) lo hi = ms.map V.int := by
  refine ⟨(ns.drop (HT.sIx ns.length 0 lo)).take (HT.sIx ns.length ns.length hi - HT.sIx ns.length 0 lo), ?_⟩
  unfold cutV
  rw [List.map_take, List.map_drop, List.length_map]
end Lay
namespace Lay
open PySem PySem.Spec PyProof.Rows L2
/-! ### loops and comprehensions -/
section
variable {σ : L2.St} {H H1 : Hp} {Q : VK} {D : Ends} {K : PySem.W.Frag}
/-- what a for asks once it stands -/
def ForAt (J : It) (g : TG) (tb : TS) (D : Ends) (σ : L2.St) (H1 : Hp) : Prop := ∃ W : Nat → Nat → L2.St → Hp → Prop, (∃ m, W 0 m σ H1) ∧ ∀ i m σ H, W i m σ H →
  (J.stop i H ∧ D.nx σ H) ∨ (J.go i H ∧ ∃ N : L2.St → Hp → Prop, (∀ σ' H', N σ' H' → ∃ m', m' < m ∧ W (i + 1) m' σ' H') ∧ ∀ x H', J.yld i H x H' → g x σ H' fun σ2 H2 => tb { D with nx := N, ct := N, bk := D.nx } σ2 H2)
theorem rd_for {wi : TI} {g : TG} {tb : TS} (q : wi σ H (fun J H1 => ForAt J g tb D σ H1)) : tFor wi g tb D σ H := q
theorem rd_rng1 {ta : TA} {R : It → Hp → Prop} (q : ta σ H (fun vs H1 => ∃ j : Int, vs = [.int j] ∧ -(2 ^ 62) ≤ j ∧ j < 2 ^ 62 ∧ R (Itr 0 j.toNat) H1)) : iRng1 ta σ H R := q
theorem rd_iTup {te : TE} {R : It → Hp → Prop} (q : te σ H (fun x H1 => ∃ a, x = .ref a ∧ (∃ xs, SqT K H1 a xs) ∧ R (Itt K a) H1)) : iTup K te σ H R := q
theorem rd_iList {te : TE} {R : It → Hp → Prop} (q : te σ H (fun x H1 => ∃ a, x = .ref a ∧ (∃ xs, SqL K H1 a xs) ∧ R (Itl K a) H1)) : iList K te σ H R := q
theorem rd_iStr {te : TE} {R : It → Hp → Prop} (q : te σ H (fun x H1 => ∃ z, x = .str z ∧ R (Its z) H1)) : iStr te σ H R := q
theorem for_rng {n : Nat} {g : TG} {tb : TS} (Pv : Nat → L2.St → Hp → Prop) (h0 : Pv 0 σ H)
    (hs : ∀ i σ H, i < n → Pv i σ H → g (.int (0 + i)) σ H fun σ2 H2 => tb { D with nx := Pv (i + 1), ct := Pv (i + 1), bk := D.nx } σ2 H2) (hd : ∀ σ H, Pv n σ H → D.nx σ H) : ForAt (Itr 0 n) g tb D σ H :=
  for_range Pv h0 hs hd
/-- what a comprehension asks once its list stands at D -/
def LcAt (J : It) (g : TG) (tt : TT) (te : TE) (vs : List Nat) (σ : L2.St) (E : Addr) (H1 : Hp) (Q : VK) : Prop := ∃ W : Nat → Nat → Hp → Prop, (∃ m, W 0 m (upd H1 E (.lst []))) ∧ ∀ i m H, W i m H →
  (J.stop i H ∧ Q (.ref E) H) ∨ (J.go i H ∧ ∃ Nx : Hp → Prop, (∀ H', Nx H' → ∃ m', m' < m ∧ W (i + 1) m' H') ∧ ∀ x H', J.yld i H x H' → g x (wipe σ vs) H' fun σ2 H2 => wipe σ2 vs = wipe σ vs ∧ tt σ2 H2 fun b H3 =>
    if b = true then te σ2 H3 fun y H4 => ∃ acc, H4 E = some (.lst acc) ∧ acc.length < sizeLine ∧ Nx (upd H4 E (.lst (acc ++ [y]))) else Nx H3)
theorem rd_lc {wi : TI} {g : TG} {tt : TT} {te : TE} {vs : List Nat} (q : wi σ H (fun J H1 => ∀ E, H1 E = none → LcAt J g tt te vs σ E H1 Q)) : tLc wi g tt te vs σ H Q := q
theorem wipe1 (σ : L2.St) (i : Nat) (x : V) : wipe ((wipe σ [i]).set i (some x)) [i] = wipe σ [i] := by
  show ((σ.set i none).set i (some x)).set i none = σ.set i none
  rw [List.set_set, List.set_set]
theorem same_up {H1 H' : Hp} {E : Addr} {u : HO} (hE : H1 E = none) (s : Same H1 H') : Same H1 (upd H' E u) := fun b o e => by
  rw [upd_ne (ne_of_none e hE)]
  exact s b o e
/-- a walk that leaves the heap as it is and yields n items -/
structure Wk (J : It) (n : Nat) (G : Hp → Prop) (item : Nat → V) : Prop where
  stop : ∀ H, G H → J.stop n H
  go : ∀ i H, G H → i < n → J.go i H
  yld : ∀ i H x H', G H → i < n → J.yld i H x H' → H' = H ∧ x = item i
theorem wk_rng (n : Nat) : Wk (Itr 0 n) n (fun _ => True) (fun i => .int (0 + (i : Int))) := ⟨fun _ _ => Nat.le_refl _, fun _ _ _ h => h, fun _ _ _ _ _ _ h => h⟩
theorem wk_tup {a : Addr} {xs : List V} (d : V) : Wk (Itt K a) xs.length (fun H => SqT K H a xs) (fun i => xs.getD i d) :=
  ⟨fun H h => ⟨xs, h, Nat.le_refl _⟩, fun i H h hi => ⟨xs, xs[i], h, List.getElem?_eq_getElem hi⟩, fun i H x H' h hi y => by
    obtain ⟨e, y⟩ := y
    refine ⟨e, ?_⟩
    have z := y xs h
    show x = xs.getD i d
    rw [List.getD_eq_getElem?_getD, z]
    rfl⟩
theorem wk_list {a : Addr} {xs : List V} (d : V) : Wk (Itl K a) xs.length (fun H => SqL K H a xs) (fun i => xs.getD i d) :=
  ⟨fun H h => ⟨xs, h, Nat.le_refl _⟩, fun i H h hi => ⟨xs, xs[i], h, List.getElem?_eq_getElem hi⟩, fun i H x H' h hi y => by
    obtain ⟨e, y⟩ := y
    refine ⟨e, ?_⟩
    have z := y xs h
    show x = xs.getD i d
    rw [List.getD_eq_getElem?_getD, z]
    rfl⟩
theorem wk_str (z : Str) : Wk (Its z) z.cps.size (fun _ => True) (fun i => .str ⟨#[z.cps.toList.getD i 0]⟩) :=
  ⟨fun _ _ => Nat.le_refl _, fun _ _ _ h => h, fun i H x H' _ hi y => by
    obtain ⟨e, c, hc, rfl⟩ := y
    refine ⟨e, ?_⟩
    show V.str ⟨#[c]⟩ = V.str ⟨#[z.cps.toList.getD i 0]⟩
    rw [List.getD_eq_getElem?_getD, Array.getElem?_toList, hc]
    rfl⟩
/-- [f(x) for x in .. if b(x)], all of it leaving what stands -/
theorem lc_same {J : It} {n : Nat} {G : Hp → Prop} {item : Nat → V} (w : Wk J n G item) {i : Nat} {tt : TT} {te : TE} {E : Addr} (hn : n ≤ 1000) (hE : H1 E = none) (hG : ∀ H', Same H1 H' → G H') (b : Nat → Bool) (f : Nat → V)
    (ht : ∀ j, j < n → ∀ H', Same H1 H' → ∀ R : Bool → Hp → Prop, (∀ H'', Same H' H'' → R (b j) H'') → tt ((wipe σ [i]).set i (some (item j))) H' R)
    (he : ∀ j, j < n → b j = true → ∀ H', Same H1 H' → ∀ R : VK, (∀ H'', Same H' H'' → R (f j) H'') → te ((wipe σ [i]).set i (some (item j))) H' R)
    (hd : ∀ H', Same H1 H' → H' E = some (.lst (((List.range n).filter b).map f)) → Q (.ref E) H') : LcAt J (gName i) tt te [i] σ E H1 Q := by
  have small : ∀ m, m ≤ n → ((((List.range m).filter b).map f)).length ≤ m := fun m _ => by
    rw [List.length_map]
    exact Nat.le_trans (List.length_filter_le _ _) (Nat.le_of_eq List.length_range)
  refine ⟨fun k m H' => m = n - k ∧ k ≤ n ∧ Same H1 H' ∧ H' E = some (.lst (((List.range k).filter b).map f)), ⟨n, rfl, Nat.zero_le _, same_up hE (Same.refl H1), upd_same⟩, ?_⟩
  rintro k m H' ⟨rfl, hk, hs, hl⟩
  by_cases hlt : k < n
  · refine Or.inr ⟨w.go k H' (hG H' hs) hlt, fun H'' => Same H1 H'' ∧ H'' E = some (.lst (((List.range (k + 1)).filter b).map f)), fun H'' h => ⟨n - (k + 1), by omega, rfl, hlt, h.1, h.2⟩, fun x H2 hy => ?_⟩
    obtain ⟨rfl, rfl⟩ := w.yld k H' x H2 (hG H' hs) hlt hy
    refine ⟨wipe1 σ i _, ?_⟩
    refine ht k hlt H2 hs _ fun H3 s3 => ?_
    refine rd_ifb (fun hb => ?_) (fun hb => ?_)
    · refine he k hlt hb H3 (hs.trans s3) _ fun H4 s4 => ?_
      refine ⟨_, s4 _ _ (s3 _ _ hl), Nat.lt_of_le_of_lt (Nat.le_trans (small k (by omega)) (by omega : k ≤ 1000)) (by decide), same_up hE ((hs.trans s3).trans s4), ?_⟩
      rw [upd_same, List.range_succ, List.filter_append, List.map_append]
      simp [hb]
    · refine ⟨hs.trans s3, ?_⟩
      rw [s3 _ _ hl, List.range_succ, List.filter_append]
      simp [hb]
  · have e : k = n := by omega
    subst e
    exact Or.inl ⟨w.stop H' (hG H' hs), hd H' hs hl⟩
theorem rd_yes {R : Bool → Hp → Prop} (q : R true H) : tYes σ H R := q
theorem rd_bits {te : TE} (q : te σ H (fun x H1 => ∃ i, x = .int i ∧ Q (.int (Builtin.Int.intBits i : Nat)) H1)) : tBits te σ H Q := q
/-- [f(bag) for .. in range(n)]: each turn draws from the bag -/
theorem lc_bag {n i : Nat} {te : TE} {E a : Addr} (hn : n ≤ 1000) (hE : H1 E = none) (hb : BagAt H1 a) (P : V → Prop)
    (he : ∀ j, j < n → ∀ H', But a H1 H' → BagAt H' a → ∀ R : VK, (∀ v H'', P v → But a H' H'' → BagAt H'' a → R v H'') → te ((wipe σ [i]).set i (some (.int (0 + (j : Int))))) H' R)
    (hd : ∀ ys H', ys.length = n → (∀ y ∈ ys, P y) → But a H1 H' → BagAt H' a → H' E = some (.lst ys) → Q (.ref E) H') : LcAt (Itr 0 n) (gName i) tYes te [i] σ E H1 Q := by
  have nE : E ≠ a := fun z => by
    obtain ⟨_, _, _, e, _⟩ := hb
    rw [← z, hE] at e
    cases e
  refine ⟨fun k m H' => m = n - k ∧ k ≤ n ∧ ∃ ys : List V, ys.length = k ∧ (∀ y ∈ ys, P y) ∧ But a H1 H' ∧ BagAt H' a ∧ H' E = some (.lst ys), ⟨n, rfl, Nat.zero_le _, [], rfl, (fun _ z => nomatch z), But.new hE, BagAt.old hE hb, upd_same⟩, ?_⟩
  rintro k m H' ⟨rfl, hk, ys, hy, hP, bu, hb', hl⟩
  by_cases hlt : k < n
  · refine Or.inr ⟨hlt, fun H'' => ∃ ys : List V, ys.length = k + 1 ∧ (∀ y ∈ ys, P y) ∧ But a H1 H'' ∧ BagAt H'' a ∧ H'' E = some (.lst ys), fun H'' h => ⟨n - (k + 1), by omega, rfl, hlt, h⟩, fun x H2 hx => ?_⟩
    obtain ⟨rfl, rfl⟩ := hx
    refine ⟨wipe1 σ i _, ?_⟩
    refine rd_yes ?_
    refine rd_ifb (fun _ => ?_) (fun z => nomatch z)
    refine he k hlt H2 bu hb' _ fun v H3 hv b3 g3 => ?_
    refine ⟨ys, b3 _ _ nE hl, Nat.lt_of_le_of_lt (by omega : ys.length ≤ 1000) (by decide), ys ++ [v], by simp [hy], ?_, ?_, ?_, upd_same⟩
    · intro y hy
      rcases List.mem_append.mp hy with z | z
      · exact hP y z
      · cases List.mem_singleton.mp z
        exact hv
    · intro b o nb e
      rw [upd_ne (ne_of_none e hE)]
      exact b3 b o nb (bu b o nb e)
    · obtain ⟨g, m, c, e, r⟩ := g3
      exact ⟨g, m, c, up_oth nE.symm e, r⟩
  · have e : k = n := by omega
    subst e
    exact Or.inl ⟨Nat.le_refl _, hd ys H' hy hP bu hb' hl⟩
end
theorem pow10_abs (m : Nat) : ((10 : Int) ^ m).natAbs < 2 ^ (4 * m + 1) := by
  have h1 : ((10 : Int) ^ m).natAbs = 10 ^ m := by
    rw [Int.natAbs_pow]
    rfl
  rw [h1, Nat.pow_succ, Nat.pow_mul]
  have h2 : (10 : Nat) ^ m ≤ (2 ^ 4) ^ m := Nat.pow_le_pow_left (by decide) m
  have h3 : 0 < ((2 : Nat) ^ 4) ^ m := Nat.pow_pos (by decide)
  omega
theorem pow10_mul {a b : Nat} (h : a + b ≤ 100000) : CMulW ((10 : Int) ^ a) ((10 : Int) ^ b) := wide_mul (pow10_abs a) (pow10_abs b) (by omega) (by omega) (by omega)
end Lay
namespace Lay
open PySem PySem.Spec PyProof.Rows L2
theorem bits_short {i : Int} (h : Builtin.Int.intBits i ≤ 6000) : i.natAbs < 10 ^ 2000 := by
  have h1 : i.natAbs < 2 ^ 6000 := by
    unfold Builtin.Int.intBits at h
    by_cases z : i = 0
    · subst z
      exact Nat.pow_pos (by decide)
    · rw [if_neg (by simpa using z)] at h
      have z2 : i.natAbs ≠ 0 := by omega
      exact (Nat.log2_lt z2).mp (by omega)
  have h2 : (2 : Nat) ^ 6000 = (2 ^ 3) ^ 2000 := by rw [← Nat.pow_mul]
  have h3 : ((2 : Nat) ^ 3) ^ 2000 ≤ 10 ^ 2000 := Nat.pow_le_pow_left (by decide) 2000
  omega
end Lay
namespace Lay
open PySem PySem.Spec PyProof.Rows L2
section
variable {σ : L2.St} {H H1 : Hp} {Q : VK} {D : Ends} {K : PySem.W.Frag}
theorem rd_s {z : Str} {R : Str → Prop} (q : R z) : ∃ j, V.str z = V.str j ∧ R j := ⟨z, rfl, q⟩
theorem rd_r {p : Addr} {R : Addr → Prop} (q : R p) : ∃ a, V.ref p = V.ref a ∧ R a := ⟨p, rfl, q⟩
theorem rd_isi {v : V} {T n : String} {b : Bool} (ty : TyX K H v (.type T)) (hb : kitB T n = some b) (q : Q (.bl b) H) : rIsi K [v, .ty n] H Q := ⟨v, .ty n, _, _, b, rfl, ClsV.ty n, ty, kit_ty hb, q⟩
end
theorem range_getD {α : Type} (d : α) : ∀ l : List α, (List.range l.length).map (fun j => l.getD j d) = l := fun l => by
  apply List.ext_getElem?
  intro i
  rw [List.getElem?_map]
  by_cases h : i < l.length
  · rw [List.getElem?_range h]
    simp [List.getD_eq_getElem?_getD, h]
  · rw [List.getElem?_eq_none (by rw [List.length_range]; omega), List.getElem?_eq_none (by omega)]
    rfl
theorem range_all {α : Type} (d : α) (l : List α) (g : α → Bool) : (List.range l.length).all (fun j => g (l.getD j d)) = l.all g := by
  have e := range_getD d l
  calc (List.range l.length).all (fun j => g (l.getD j d)) = ((List.range l.length).map (fun j => l.getD j d)).all g := by rw [List.all_map]; rfl
    _ = l.all g := by rw [e]
theorem filt_yes {α : Type} (l : List α) : l.filter (fun _ => true) = l := List.filter_eq_self.mpr fun _ _ => rfl
end Lay
namespace Lay
open PySem PySem.Spec PyProof.Rows L2
section
variable {σ : L2.St} {H H1 : Hp} {Q : VK} {D : Ends} {K : PySem.W.Frag}
/-- a comprehension over anything that leaves what stands; S tells the slots of a turn -/
theorem lc_gen {J : It} {n : Nat} {G : Hp → Prop} {g : TG} {vs : List Nat} {tt : TT} {te : TE} {E : Addr} (Y : Nat → V → Hp → Prop) (S : Nat → L2.St → Hp → Prop)
    (stop : ∀ H', G H' → J.stop n H') (go : ∀ i H', G H' → i < n → J.go i H') (yld : ∀ i H' x H'', G H' → i < n → J.yld i H' x H'' → Same H' H'' ∧ Y i x H'')
    (hn : n ≤ 1000) (hE : H1 E = none) (hG : ∀ H', Same H1 H' → G H') (b : Nat → Bool) (f : Nat → V)
    (hg : ∀ j x H', j < n → Same H1 H' → Y j x H' → ∀ R : L2.St → Hp → Prop, (∀ σ2, wipe σ2 vs = wipe σ vs → S j σ2 H' → R σ2 H') → g x (wipe σ vs) H' R)
    (ht : ∀ j σ2 H', j < n → Same H1 H' → S j σ2 H' → ∀ R : Bool → Hp → Prop, (∀ H'', Same H' H'' → R (b j) H'') → tt σ2 H' R)
    (he : ∀ j σ2 H' H0, j < n → b j = true → S j σ2 H0 → Same H1 H' → Same H0 H' → ∀ R : VK, (∀ H'', Same H' H'' → R (f j) H'') → te σ2 H' R)
    (hd : ∀ H', Same H1 H' → H' E = some (.lst (((List.range n).filter b).map f)) → Q (.ref E) H') : LcAt J g tt te vs σ E H1 Q := by
  have small : ∀ m, m ≤ n → ((((List.range m).filter b).map f)).length ≤ m := fun m _ => by
    rw [List.length_map]
    exact Nat.le_trans (List.length_filter_le _ _) (Nat.le_of_eq List.length_range)
  refine ⟨fun k m H' => m = n - k ∧ k ≤ n ∧ Same H1 H' ∧ H' E = some (.lst (((List.range k).filter b).map f)), ⟨n, rfl, Nat.zero_le _, same_up hE (Same.refl H1), upd_same⟩, ?_⟩
  rintro k m H' ⟨rfl, hk, hs, hl⟩
  by_cases hlt : k < n
  · refine Or.inr ⟨go k H' (hG H' hs) hlt, fun H'' => Same H1 H'' ∧ H'' E = some (.lst (((List.range (k + 1)).filter b).map f)), fun H'' h => ⟨n - (k + 1), by omega, rfl, hlt, h.1, h.2⟩, fun x H2 hy => ?_⟩
    obtain ⟨s2, y2⟩ := yld k H' x H2 (hG H' hs) hlt hy
    refine hg k x H2 hlt (hs.trans s2) y2 _ fun σ2 hw hS => ⟨hw, ?_⟩
    refine ht k σ2 H2 hlt (hs.trans s2) hS _ fun H3 s3 => ?_
    refine rd_ifb (fun hb => ?_) (fun hb => ?_)
    · refine he k σ2 H3 H2 hlt hb hS ((hs.trans s2).trans s3) s3 _ fun H4 s4 => ?_
      refine ⟨_, s4 _ _ (s3 _ _ (s2 _ _ hl)), Nat.lt_of_le_of_lt (Nat.le_trans (small k (by omega)) (by omega : k ≤ 1000)) (by decide), same_up hE (((hs.trans s2).trans s3).trans s4), ?_⟩
      rw [upd_same, List.range_succ, List.filter_append, List.map_append]
      simp [hb]
    · refine ⟨(hs.trans s2).trans s3, ?_⟩
      rw [s3 _ _ (s2 _ _ hl), List.range_succ, List.filter_append]
      simp [hb]
  · have e : k = n := by omega
    subst e
    exact Or.inl ⟨stop H' (hG H' hs), hd H' hs hl⟩
/-! data -/
theorem dp_all {f : V → PyData} : ∀ {xs : List V}, (∀ x ∈ xs, Dp K H x (f x)) → DpAll K H xs (xs.map f)
  | [], _ => .nil
  | x :: xs, h => .cons (h x List.mem_cons_self) (dp_all fun y hy => h y (List.mem_cons_of_mem _ hy))
theorem rd_eqD {x y : V} {d e : PyData} (hd : Dp K H x d) (he : Dp K H y e) (sd : SeqAt.shaped d = true) (se : SeqAt.shaped e = true) (q : Q (.bl (PyData.eqv d e)) H) : rEqD K x y H Q := ⟨d, e, hd, he, sd, se, q⟩
end
theorem canAll_of {ds : List PyData} (h : ∀ d ∈ ds, d.canLay0 = true) : PyData.canLayAll0 ds = true := by
  induction ds with
  | nil => rfl
  | cons a l ih =>
    show (a.canLay0 && PyData.canLayAll0 l) = true
    rw [h a List.mem_cons_self, ih fun d hd => h d (List.mem_cons_of_mem _ hd)]
    rfl
theorem depthAll_of {ds : List PyData} {n : Nat} (h : ∀ d ∈ ds, d.depth ≤ n) : PyData.depthAll ds ≤ n := by
  induction ds with
  | nil => exact Nat.zero_le _
  | cons a l ih =>
    show max a.depth (PyData.depthAll l) ≤ n
    exact Nat.max_le.mpr ⟨h a List.mem_cons_self, ih fun d hd => h d (List.mem_cons_of_mem _ hd)⟩
/-- a list of flat data -/
theorem shaped_list {ds : List PyData} (h : ∀ d ∈ ds, d.canLay0 = true ∧ d.depth = 0) : SeqAt.shaped (.list ds) = true := by
  show (PyData.canLayAll0 ds && decide (PyData.depthAll ds + 1 ≤ 64)) = true
  rw [canAll_of fun d hd => (h d hd).1]
  have := depthAll_of (n := 0) fun d hd => Nat.le_of_eq (h d hd).2
  rw [decide_eq_true (by omega)]
  rfl
/-- the signs of a text are signs -/
def Sok (z : Str) : Prop := ∀ c ∈ z.cps.toList, c < 1114112
theorem Sok.ok {z : Str} (h : Sok z) : (PyData.str z).canLay0 = true := by
  show z.cps.all (· < 0x110000) = true
  rw [Array.all_eq_true_iff_forall_mem]
  intro c hc
  exact decide_eq_true (h c (Array.mem_toList_iff.mpr hc))
theorem sok_one {c : Nat} (h : c < 1114112) : Sok ⟨#[c]⟩ := fun x hx => by
  have e : x = c := by simpa using hx
  rw [e]
  exact h
theorem eqv_nil (ds : List PyData) : PyData.eqv (.list ds) (.list []) = ds.isEmpty := by
  cases ds <;> rfl
end Lay
namespace Lay
open PySem PySem.Spec PyProof.Rows L2
section
variable {K : PySem.W.Frag} {H H' : Hp}
theorem sqT_same {a : Addr} {xs : List V} (e : Same H H') (h : SqT K H a xs) : SqT K H' a xs := by
  rcases h with (h | ⟨o, h⟩) | h
  · exact Or.inl (Or.inl (e _ _ h))
  · exact Or.inl (Or.inr ⟨o, e _ _ h⟩)
  · exact Or.inr h
mutual
theorem dp_same (s : Same H H') : ∀ (d : PyData) (v : V), Dp K H v d → Dp K H' v d
  | .none, _, h => by cases h; exact .non
  | .bool b, _, h => by cases h; exact .bl b
  | .int i, _, h => by cases h; exact .int i
  | .str x, _, h => by cases h; exact .str x
  | .list ds, _, h => by
    cases h with
    | lst hs ha => exact .lst (s.seq hs) (dpAll_same s ds _ ha)
  | .tuple ds, _, h => by
    cases h with
    | tup hs ha => exact .tup (sqT_same s hs) (dpAll_same s ds _ ha)
  | .dict _, _, h => by cases h
theorem dpAll_same (s : Same H H') : ∀ (ds : List PyData) (vs : List V), DpAll K H vs ds → DpAll K H' vs ds
  | [], _, h => by cases h; exact .nil
  | d :: ds, _, h => by
    cases h with
    | cons h1 h2 => exact .cons (dp_same s d _ h1) (dpAll_same s ds _ h2)
end
theorem dp_allJ {α : Type} {f : α → V} {g : α → PyData} : ∀ {l : List α}, (∀ j ∈ l, Dp K H (f j) (g j)) → DpAll K H (l.map f) (l.map g)
  | [], _ => .nil
  | x :: xs, h => .cons (h x List.mem_cons_self) (dp_allJ fun y hy => h y (List.mem_cons_of_mem _ hy))
theorem dpAll_len : ∀ {vs : List V} {ds : List PyData}, DpAll K H vs ds → vs.length = ds.length
  | _, _, .nil => rfl
  | _, _, .cons _ t => congrArg (· + 1) (dpAll_len t)
theorem dpAll_get : ∀ {vs : List V} {ds : List PyData}, DpAll K H vs ds → ∀ i, i < vs.length → Dp K H (vs.getD i .non) (ds.getD i .none) ∧ ds.getD i .none ∈ ds
  | _, _, .cons h t, 0, _ => ⟨h, List.mem_cons_self⟩
  | _, _, .cons h t, i + 1, hi => by
    have z := dpAll_get t i (Nat.lt_of_succ_lt_succ hi)
    exact ⟨z.1, List.mem_cons_of_mem _ z.2⟩
end
theorem shaped_listN {ds : List PyData} {n : Nat} (hn : n ≤ 60) (h : ∀ d ∈ ds, d.canLay0 = true ∧ d.depth ≤ n) : SeqAt.shaped (.list ds) = true := by
  show (PyData.canLayAll0 ds && decide (PyData.depthAll ds + 1 ≤ 64)) = true
  rw [canAll_of fun d hd => (h d hd).1]
  have := depthAll_of (n := n) fun d hd => (h d hd).2
  rw [decide_eq_true (by omega)]
  rfl
end Lay
namespace Lay
open PySem PySem.Spec PyProof.Rows L2
def rJoin (K : PySem.W.Frag) : V → List V → Hp → VK → Prop := fun x xs H Q => ∃ a p, ∃ ys : List Str, x = .str a ∧ xs = [.ref p] ∧ (SqL K H p (ys.map V.str) ∨ SqT K H p (ys.map V.str)) ∧
      (ys.map (·.length)).sum + ys.length * a.length ≤ 16777216 ∧ Q (.str (Txt.join a ys)) H
theorem q_join {X : Cx} {o e : Expr} {to te : TE} {apos pos : Pos} (ho : PE X o to) (he : PE X e te) (hs : starEach [e] X.env = [(false, eval e X.env)] := by rfl) (hbase : attributeBase o "join" X.env (eval o X.env) = eval o X.env := by rfl) (hline : (apos.endLine == pos.line) = true := by rfl) :
    PE X (.Call (.Attribute o "join" apos) [e] [] pos) (tM1 (rJoin X.K) to te) := pe_join ho he hs hbase hline
section
variable {σ : L2.St} {H : Hp} {Q : VK} {K : PySem.W.Frag}
theorem rd_M1 {r : V → List V → Hp → VK → Prop} {to te : TE} (q : to σ H (fun x H1 => (∃ a, x = .str a) ∧ te σ H1 fun y H2 => r x [y] H2 Q)) : tM1 r to te σ H Q := q
theorem rd_isS {z : Str} {B : Prop} (q : B) : (∃ a, V.str z = V.str a) ∧ B := ⟨⟨z, rfl⟩, q⟩
theorem rd_join {a : Str} {p : Addr} {ys : List Str} (h : SqL K H p (ys.map V.str)) (hz : (ys.map (·.length)).sum + ys.length * a.length ≤ 16777216) (q : Q (.str (Txt.join a ys)) H) : rJoin K (.str a) [.ref p] H Q := ⟨a, p, ys, rfl, rfl, Or.inl h, hz, q⟩
end
/-- texts of one sign each, glued -/
theorem join_ones {ys : List Str} (h : ∀ y ∈ ys, y.length = 1 ∧ Sok y) : (ys.map (·.length)).sum = ys.length ∧ (Txt.join ("" : Str) ys).length = ys.length ∧ Sok (Txt.join ("" : Str) ys) := by
  have e0 : TL.tl ("" : Str) = [] := by decide +kernel
  have key : TL.tl (Txt.join ("" : Str) ys) = (ys.map TL.tl).flatten := by
    rw [TL.join_eq, TL.tl_join, e0]
    clear h
    induction ys with
    | nil => rfl
    | cons y r ih =>
      cases r with
      | nil =>
        show TL.tl y = TL.tl y ++ []
        rw [List.append_nil]
      | cons z r =>
        show TL.tl y ++ ([] ++ TL.joinL [] ((z :: r).map TL.tl)) = TL.tl y ++ ((z :: r).map TL.tl).flatten
        rw [← ih]
        rfl
  refine ⟨?_, ?_, ?_⟩
  · clear key
    induction ys with
    | nil => rfl
    | cons y r ih =>
      rw [List.map_cons, List.sum_cons, ih fun z hz => h z (List.mem_cons_of_mem _ hz), (h y List.mem_cons_self).1, List.length_cons]
      omega
  · have e : (Txt.join ("" : Str) ys).length = (TL.tl (Txt.join ("" : Str) ys)).length := by simp [Str.length, TL.tl]
    rw [e, key]
    clear key e
    induction ys with
    | nil => rfl
    | cons y r ih =>
      have e1 : (TL.tl y).length = 1 := by
        have := (h y List.mem_cons_self).1
        simpa [Str.length, TL.tl] using this
      rw [List.map_cons, List.flatten_cons, List.length_append, ih fun z hz => h z (List.mem_cons_of_mem _ hz), e1, List.length_cons]
      omega
  · intro c hc
    have hc : c ∈ TL.tl (Txt.join ("" : Str) ys) := hc
    rw [key] at hc
    obtain ⟨l, hl, hcl⟩ := List.mem_flatten.mp hc
    obtain ⟨y, hy, rfl⟩ := List.mem_map.mp hl
    exact (h y hy).2 c hcl
end Lay
namespace Lay
open PySem PySem.Spec PyProof.Rows L2
theorem rd_disp1 {σ : L2.St} {H : Hp} {Q : VK} {tk tv : TE} (q : ∀ p, H p = none → tk σ (upd H p (.dK [])) fun kx H1 => tv σ H1 fun vx H2 => H2 p = some (.dK []) ∧ ∃ kvs : List (Key × V), [(kx, vx)] = kvs.map (fun kv => (kV kv.1, kv.2)) ∧ kvs.length ≤ 15 ∧ Q (.ref p) (upd H2 p (.dK (mergeK [] kvs)))) : tDisp [(tk, tv)] σ H Q := q
theorem rd_dnew {σ : L2.St} {H : Hp} {Q : VK} (q : ∀ p, H p = none → Q (.ref p) (upd H p (.dK []))) : tDNewK σ H Q := q
end Lay
namespace Lay
open PySem PySem.Spec PyProof.Rows L2
section
variable {σ : L2.St} {H : Hp} {Q : VK} {K : PySem.W.Frag}
theorem rd_zipA {ta : TA} {R : It → Hp → Prop} (q : ta σ H (fun vs H1 => ∃ a b xs ys, vs = [.ref a, .ref b] ∧ ((SqL K H1 a xs ∧ SqL K H1 b ys ∧ R (Itz K a b) H1) ∨ (SqT K H1 a xs ∧ SqT K H1 b ys ∧ R (RZ.ItzT K a b) H1)))) : RZ.iZipA K ta σ H R := q
theorem rd_BM {T : String} {r : V → List V → Hp → VK → Prop} {to : TE} {t : TA} (q : to σ H (fun x H1 => tyV K T x H1 ∧ t σ H1 fun xs H2 => r x xs H2 Q)) : tBM K T r to t σ H Q := q
theorem rd_tyL {p : Addr} {xs : List V} {B : Prop} (h : H p = some (.lst xs)) (q : B) : tyV K "list" (.ref p) H ∧ B := ⟨Or.inl ⟨rfl, xs, SqL.of h⟩, q⟩
theorem rd_app {l : Addr} {xs : List V} {y : V} (h : H l = some (.lst xs)) (hl : xs.length ≤ 1000) (q : Q .non (upd H l (.lst (xs ++ [y])))) : rAppend (.ref l) [y] H Q := ⟨l, xs, y, rfl, rfl, h, Nat.lt_of_le_of_lt hl (by decide), q⟩
theorem rd_repr {a : Addr} {d : PyData} (hd : Dp K H (.ref a) d) (h1 : d.showable = true) (h2 : d.hasDict = false) (h3 : d.depth ≤ 20) (h4 : d.shown.length ≤ sizeLine) (q : Q (.str d.shown) H) : rRepr K [.ref a] H Q := ⟨a, d, rfl, hd, h1, h2, h3, h4, q⟩
theorem rd_inT {x : V} {p : Addr} {xs : List V} (h : SqT K H p xs) (h1 : flatV x = true) (h2 : xs.all flatV = true) (q : Q (.bl (inV x xs)) H) : rIn K false x (.ref p) H Q := ⟨p, xs, rfl, Or.inr h, h1, h2, q⟩
end
theorem cut_drop1 (xs : List V) : cutV xs (some 1) none = xs.drop 1 := by
  have e0 : HT.sIx xs.length 0 (some 1) = min 1 xs.length := HT.sIx_nat xs.length 0 1
  have e1 : HT.sIx xs.length xs.length none = xs.length := HT.sIx_none _ _
  unfold cutV
  rw [e0, e1]
  cases xs with
  | nil => rfl
  | cons x r =>
    have e2 : min 1 (x :: r).length = 1 := by rw [List.length_cons]; omega
    rw [e2, List.length_cons]
    show (r.take (r.length + 1 - 1)) = r
    rw [Nat.add_sub_cancel, List.take_length]
/-- t[1:], a tuple -/
theorem rd_slA1 {K : PySem.W.Frag} {H : Hp} {Q : VK} {a : Addr} {xs : List V} (h : H a = some (.tup xs)) (q : ∀ p H', Same H H' → H' p = some (.tup (xs.drop 1)) → Q (.ref p) H') : rSlA K (.ref a) (some 1) none H Q := by
  refine ⟨a, xs, rfl, SqT.of h, fun c => ?_, fun c p hp => ?_⟩
  · refine q a H (Same.refl H) ?_
    have e0 : HT.sIx xs.length 0 (some 1) = min 1 xs.length := HT.sIx_nat xs.length 0 1
    rw [e0] at c
    have : xs = [] := by
      cases xs with
      | nil => rfl
      | cons x r =>
        rw [List.length_cons] at c
        omega
    subst this
    exact h
  · rw [cut_drop1]
    exact q p _ (fun b o e => up_old hp e) upd_same
end Lay
/-! LayE: several clauses `except X as n`, the exception's context kept as None (so that defs may be called in the suites). -/
namespace Lay
open PySem PySem.Spec PyProof.Rows L2
/-- what the clauses wish, one behind the other; the name stands in slot i -/
def wAll (K : PySem.W.Frag) (i : Nat) (Wout : WX) (D : Ends) : List (Value × (Addr → Value → Option Addr → TS)) → WX
  | [] => Wout
  | (c, ts) :: r => wAs K c i ts (wAll K i Wout D r) D
/-- the clauses, each with its class and the reading of its suite -/
inductive Clauses (X : Cx) (n : Str) : List ExceptHandler → List (Value × (Addr → Value → Option Addr → TS)) → Prop
  | nil : Clauses X n [] []
  | cons {x : Str} {c : Value} {ts : Addr → Value → Option Addr → TS} {s₀ : Stmt} {ss : List Stmt} {p1 p2 : Pos} {hs : List ExceptHandler} {l : List (Value × (Addr → Value → Option Addr → TS))} (nm : Names X x c)
      (su : ∀ (a : Addr) (oe : Obj) (cls : Value) (d : Option Addr) (pn : List (Addr × Obj)), L2N.Zn cls d oe → (∃ vs, oe.data = .fields vs) → PSs (X.suite a ((a, oe) :: pn)) (s₀ :: ss) (ts a cls d)) (r : Clauses X n hs l) :
      Clauses X n (.ExceptHandler (some (.Name x p1)) (some n) (s₀ :: ss) p2 :: hs) ((c, ts) :: l)
section
variable {X : Cx} {n : Str} {i : Nat} {Wout : WX}
/-- one clause after the other is asked; a is the exception, h3 the heap in which it has landed -/
theorem clauses_run (hst : X.stack = X.env :: X.outer) (hfm : X.env.frame = some X.env.locals) (hN : X.N.Nodup) (hi : X.N[i]? = some n) (hln : X.env.kindOf n = some .local) (tk : L2N.Takes X Wout) {D : Ends} {pins : List (Addr × Obj)} {σ' : L2.St} {H' : Hp} {sI s' : Shared} {a : Addr} {B : Heap} {cls : Value} {d : Option Addr} {h3 : Heap}
    (J : Inv X pins σ' H' sI) (nb : ∀ b o, sI.heap.get? b = some o → b ∉ frs X.stack → B.get? b = some o) (up : sI.heap.UpToSlots s'.heap) (up3 : s'.heap.UpToSlots h3) (fl : HandSPX.FlyingZ B (X.env :: X.outer) a (L2N.Zn cls d) h3) (na : H' a = none) (os : s'.os = sI.os) (ag : AllBare s'.gens)
    (nL : a ≠ X.env.locals) (nF : a ∉ X.fs) : ∀ {hs : List ExceptHandler} {l : List (Value × (Addr → Value → Option Addr → TS))}, Clauses X n hs l → wAll X.K i Wout D l cls d σ' H' →
      wpAny (model X.prog X.w) X.A (handleBy (.ref a) X.env hs) (SP X pins D) X.xe { s' with heap := h3 } := by
  have ok := J.ok
  obtain ⟨o3, v3, g3, z3, f3⟩ := fl.there
  have Jl : ∀ {h : Heap}, B.StaysIn h → s'.heap.UpToSlots h → Inv X pins σ' H' { s' with heap := h } := fun {h} st u => J.landed (s' := { s' with heap := h }) nb st (up.trans u) os ag
  have S := (Jl fl.1 up3).suite g3 f3 na nL nF
  have what : PySem.W.Looks (model X.prog X.w) h3 (typeOf (.ref a)) cls := fun _ _ _ _ keep q => wpAny_typeOf_ref (keep _ _ g3) (by rw [z3.1]; exact q)
  intro hs l cl
  induction cl with
  | nil =>
    intro wish
    refine wpAny_handleBy_nil ?_
    obtain ⟨_, _, _, oe, vs, T, oT, tsx, he, hz, hd, h1, hr⟩ := id fl
    unfold PySem.passOn
    refine wpAny_bind (wpAny_field he hd h1 ?_)
    rw [if_neg (show ¬((Value.ref T == Value.none) = true) by simp)]
    have out : wpAny (model X.prog X.w) X.A (setFlight (.ref a) X.env.frame) (fun _ s4 => wpAny (model X.prog X.w) X.A (throw (.ref a) : Sem Flow) (SP X pins D) X.xe s4) X.xe { s' with heap := h3 } := by
      rw [hfm]
      exact HandSPX.setFlight_upZ fl fun h4 hh4 up4 => wpAny_throw (tk _ _ ⟨a, B, sI, pins, σ', H', cls, d, rfl, J, nb, (up.trans up3).trans up4, .inr (.inr (by rw [hst]; exact hh4)), na, os, ag, wish⟩)
    first | exact wpAny_bind (wpAny_pure (wpAny_bind out)) | exact wpAny_bind out
  | @cons x c ts s₀ ss p1 p2 hs2 l2 nm su r ih =>
    intro wish
    obtain ⟨b, e, yes, no⟩ := wish
    refine wpAny_handleBy_cons (codeAny_handlers_test ?_) (by intro q; cases q)
    have look := PySem.W.exm_one (M := model X.prog X.w) (Jl fl.1 up3).kIn what e
    have ask : ∀ {Q E : Value → Shared → Prop}, Q c { s' with heap := h3 } → wpAny (model X.prog X.w) (X.A.mark (some (.ref a))) (eval (.Name x p1) X.env) Q E { s' with heap := h3 } := fun {Q E} q => by
      obtain ⟨hg, hdb, hm | ⟨hm, hv, hne⟩⟩ := nm
      · exact ld_glob (X := X.suite a ((a, o3) :: (X.pn ++ pins))) S hg hm q hdb
      · exact ld_blt (X := X.suite a ((a, o3) :: (X.pn ++ pins))) S hg hm hv q hne hdb
    refine ask (look.here ?_)
    cases b with
    | false => exact ih (no rfl)
    | true =>
      refine codeAny_handlers_suite_as (HandSPX.lands_againZ fl fun h4 fl4 up4 => ?_)
      obtain ⟨o4, v4, g4, z4, f4⟩ := fl4.there
      have S4 := (Jl fl4.1 (up3.trans up4)).suite g4 f4 na nL nF
      refine store_ok (X := X.suite a ((a, o4) :: (X.pn ++ pins))) (v := .ref a) S4 hN hi (.inl hln) rfl (fun s5 S5 => ?_) (.inr hln)
      refine wpAny_mono ((su a o4 cls d (X.pn ++ pins) z4 ⟨_, f4⟩).run [] s5 _ H' _ S5 (yes rfl a na)) (fun f s6 sp => ?_) (fun _ _ z => z.elim)
      have gone : ∀ {σ6 : L2.St} {H6 : Hp} {Q : Shared → Prop}, Inv (X.suite a ((a, o4) :: (X.pn ++ pins))) [] σ6 H6 s6 → (∀ s7, Inv X pins (σ6.set i none) H6 s7 → Q s7) →
          wpAny (model X.prog X.w) X.A (do bindName X.env n .none; unbindBehindTheSuite X.env n p2) (fun _ s7 => Q s7) X.xe s6 := fun S6 hq => gone_ok (S6.unsuite ok) hN hi hln hq
      cases f with
      | next => exact match sp with | ⟨_, _, S6, q6⟩ => gone S6 fun s7 J7 => ⟨_, _, J7, q6⟩
      | brk => exact match sp with | ⟨_, _, S6, q6⟩ => gone S6 fun s7 J7 => ⟨_, _, J7, q6⟩
      | cont => exact match sp with | ⟨_, _, S6, q6⟩ => gone S6 fun s7 J7 => ⟨_, _, J7, q6⟩
      | ret u => exact match sp with | ⟨_, _, _, S6, r6, q6⟩ => gone S6 fun s7 J7 => ⟨_, _, _, J7, r6, q6⟩
/-- try: .. except X as n: .. except Y as n: .. -/
theorem ps_try_all {body : List Stmt} {h₀ : ExceptHandler} {hds : List ExceptHandler} {l : List (Value × (Addr → Value → Option Addr → TS))} {pos : Pos} {tb : WX → TS} (hst : X.stack = X.env :: X.outer) (hfm : X.env.frame = some X.env.locals) (hN : X.N.Nodup) (hi : X.N[i]? = some n) (hln : X.env.kindOf n = some .local) (tk : L2N.Takes X Wout)
    (hb : ∀ (W : WX) (pn : List (Addr × Obj)) (xe : Value → Shared → Prop), L2N.Takes (X.tr pn xe) W → PassesOwn (model X.prog X.w) X.A X.env xe → PSs (X.tr pn xe) body (tb W))
    (hh : Clauses X n (h₀ :: hds) l) : PS X (.Try body (h₀ :: hds) [] [] pos) (fun D σ H => tb (wAll X.K i Wout D l) D σ H) := by
  refine ⟨fun pins s σ H D I h => wpAny_Try_except ?_⟩
  have ok := I.ok
  have hfr : X.A.frames = some (X.env :: X.outer) := by rw [ok.frames, hst]
  have B1 := hb (wAll X.K i Wout D l) (X.pn ++ pins) (fun e s₁ => wpAny (model X.prog X.w) X.A (noteFrame e X.env) (fun _ s₂ => wpAny (model X.prog X.w) X.A (setFlight e none) (fun _ s₃ => wpAny (model X.prog X.w) X.A (handleBy e X.env (h₀ :: hds)) (SP X pins D) X.xe s₃) X.xe s₂) X.xe s₁)
    (fun u s' xx => ?_) PassesOwn.looking
  · refine wpAny_mono (B1.run [] s σ H D (I.toTry _) h) (fun f s1 sp => ?_) (fun _ _ z => z)
    cases f with
    | next => exact match sp with | ⟨_, _, J', q⟩ => wpAny_execs_nil ⟨_, _, J'.ofTry ok, q⟩
    | brk => exact match sp with | ⟨_, _, J', q⟩ => ⟨_, _, J'.ofTry ok, q⟩
    | cont => exact match sp with | ⟨_, _, J', q⟩ => ⟨_, _, J'.ofTry ok, q⟩
    | ret u => exact match sp with | ⟨_, _, _, J', r, q⟩ => ⟨_, _, _, J'.ofTry ok, r, q⟩
  · obtain ⟨a, B, sI, pins', σ', H', cls, d, rfl, J', nb, up, sky, na, os, ag, wish⟩ := xx
    have J := J'.ofTry (pins := pins) ok
    have sky' : Sky B (X.env :: X.outer) a (L2N.Zn cls d) X.env.locals s'.heap := by rw [← hst]; exact sky
    refine L2N.Sky.land L2N.Zn.steady hfr hfm sky' fun h3 fl up3 => ?_
    obtain ⟨oe, vs, he, hz, hd⟩ := fl.there
    have away : a ∉ frs (X.env :: X.outer) := fun hm => by
      obtain ⟨_, o', e', hnf⟩ := fl.2.2.1.mem hm
      rw [he] at e'
      cases e'
      exact hnf _ hd
    refine clauses_run hst hfm hN hi hln tk J nb up up3 fl na os ag (fun z => away (List.mem_filterMap.mpr ⟨X.env, List.mem_cons_self, by rw [hfm, z]⟩)) (fun hm => ?_) hh wish
    obtain ⟨e, he2, q⟩ := List.mem_filterMap.mp hm
    exact away (List.mem_filterMap.mpr ⟨e, List.mem_cons_of_mem _ he2, q⟩)
end
end Lay
/-! LayF: a def that is given the exception at hand, from an except suite. -/
namespace Lay
open PySem PySem.Spec PyProof.Rows L2 L2H
/-- the exception at hand as an argument: sp is told which object it is -/
structure FnE (P : Program) (w : World) (K : PySem.W.Frag) (mg : Str → Option Value) (base : Heap) (k : Nat) (f : Addr) (fd : FuncData) (ps : List Str) (sp : Addr → Value → Option Addr → Sp) : Prop where
  many : ∀ a cls d vs H Q E, sp a cls d vs H Q E → vs.length = ps.length
  goes : ∀ (A : Around) (outer : List Env) (s : Shared) (H : Hp) (args : Args) (us : List Value) (vs : List V) (Q : VK) (p : Addr × Obj) (cls : Value) (d : Option Addr), RoomH k A → Hot1 A p → L2N.Zn cls d p.2 → (∃ vs, p.2.data = .fields vs) → PinOk outer H s p → Env0 P w K mg base A outer s H → BindsTo s fd args (ps.zip us) → Vals vs us → sp p.1 cls d vs H Q E0 →
    codeAny (model P w) A (.call (.ref f) args) (CR CX0 outer P w H s Q E0) s
theorem hot_def {P : Program} {w : World} {K : PySem.W.Frag} {mg : Str → Option Value} {base : Heap} {x qual : Str} {st : Stmt} {f : Addr} {fd : FuncData} {N ps : List Str} {k : Nat} {sp : Addr → Value → Option Addr → Sp} (F : Fun K x qual st f fd) (S : FnScope N ps (defScope st))
    (many : ∀ a cls d vs H Q E, sp a cls d vs H Q E → vs.length = ps.length)
    (body : ∀ (cdv : Value) (A : Around) (outer : List Env) (s : Shared) (H : Hp) (vs : List V) (Q : VK) (p : Addr × Obj) (cls : Value) (d : Option Addr), Hot1 A p → L2N.Zn cls d p.2 → (∃ vs, p.2.data = .fields vs) → RoomH k (A.deeper (envOfC qual (defScope st) s.heap.objs.size f cdv)) → sp p.1 cls d vs H Q E0 →
      ∃ t, PSs (cxH CX0 P w K mg base N qual (defScope st) f cdv A outer s H E0 p).nox (defBody st) t ∧ t { nx := fun _ H' => Q .non H', rt := Q } (start N vs) H) :
    FnE P w K mg base (k + 1) f fd ps sp := by
  obtain ⟨oc, od, kV, doc, pm, an, cdv, ct, osl, rfl, lk, hcd⟩ := F.ex
  refine ⟨many, fun A outer s H args us vs Q p cls d hr hot hz hf pin he hb hv hs => ?_⟩
  have hl := many _ _ _ _ _ _ _ hs
  have KX : K.In s.heap := he.mod.kin.keeps fun b o e => (he.bs b o e).1
  have lim : s.heap.NoLimit := he.mod.nolimit.keeps fun b o e => (he.bs b o e).1
  have kinds : ∀ y ∈ ps.zip us, (defScope st).names.lookup y.1 = some .local ∨ ((defScope st).names.lookup y.1 = some .cell ∧ ((cellsFrom (s.heap.objs.size + 1) (defScope st).names []).lookup y.1).isSome = true) := by
    intro y hy
    rcases S.par y.1 (List.of_mem_zip hy).1 with q | q
    · exact Or.inl q
    · exact Or.inr ⟨q, PySem.W.cellsFrom_some _ _ _ (Or.inl q)⟩
  apply codeAny_call_function hr.depth (KX _ _ lk) rfl S.co S.gen rfl (PySem.W.codeRec_of KX hcd)
  apply hb
  apply wpAny_newFunctionEnv_cells S.kind kinds
  intro env henv s1 x1
  subst henv
  refine ⟨lim.keeps x1.toInCall.keep, ?_⟩
  apply codeAny_func
  obtain ⟨t, ht, q0⟩ := body cdv A outer s H vs Q p cls d hot hz hf (hr.deeper _) hs
  have I : Inv (cxH CX0 P w K mg base N qual (defScope st) f cdv A outer s H E0 p) [] (start N vs) H s1 := inv_startH S pin he hl hv x1
  refine wpAny_mono (ht.nox.run [] s1 (start N vs) H _ I q0) (fun fl s2 h2 => ?_) (fun e s2 h2 => h2)
  cases fl with
  | next =>
    obtain ⟨a, b, J, z⟩ := h2
    exact ⟨V.non, b, J.os, J.bare, J.base, J.hok, rfl, z⟩
  | ret u =>
    obtain ⟨v, a, b, J, rv, z⟩ := h2
    exact ⟨v, b, J.os, J.bare, J.base, J.hok, rv, z⟩
  | brk => exact match h2 with | ⟨_, _, _, z⟩ => z.elim
  | cont => exact match h2 with | ⟨_, _, _, z⟩ => z.elim
section
variable {X : Cx} {k : Nat} {f : Addr} {fd : FuncData} {ps : List Str} {sp : Addr → Value → Option Addr → Sp} {x : Str} {p : Addr × Obj} {cls : Value} {d : Option Addr} {q pos : Pos} {e : Expr} {es : List Expr} {t : TA}
/-- f(e, ..) in a suite, p the exception at hand -/
theorem hcall (F : FnE X.prog X.w X.K X.mg X.base k f fd ps sp) (hr : RoomH k X.A) (hot : Hot1 X.A p) (hz : L2N.Zn cls d p.2) (hf : ∃ vs, p.2.data = .fields vs) (hp : p ∈ X.pn) (hg : Gl X x) (hm : X.mg x = some (.ref f)) (hk : PySem.W.keepIn X.K (.ref f) = true) (hb : Binds X.K fd ps [])
    (ha : PA X (e :: es) t) (hdb : (x == ("__debug__" : Str)) = false := by decide) (he : starEach (e :: es) X.env = (false, eval e X.env) :: starEach es X.env := by rfl) (hpl : (backTo pos (starEach es X.env)).any (·.1) = false := by rfl) :
    PE X (.Call (.Name x q) (e :: es) [] pos) (tCl (sp p.1 cls d) t) := by
  refine ⟨fun pins s σ H Q I h => wpAny_Call_Name_kw (ld_glob I hg hm ?_ hdb)⟩
  refine PySem.W.callWith_K (h₀ := X.base) I.ok.mod.kin hk (thn (ha.run pos pins s σ H _ I h) ?_) he hpl
  rintro us s1 ⟨vs, H1, I1, r, z⟩
  refine ⟨I1.kIn, ?_⟩
  have hl : (us ++ []).length = ps.length := by
    rw [List.append_nil, ← r.length]
    exact F.many _ _ _ _ _ _ _ z
  have bb := hb s1 us I1.kIn hl
  rw [List.append_nil] at bb
  have P1 := I1.pin p (List.mem_append_left _ hp)
  have pin : PinOk X.stack H1 s1 p := ⟨P1.1, P1.2.1, fun hm2 => (List.mem_cons.mp (I1.stkSub p.1 hm2)).elim P1.2.2.1 P1.2.2.2.1, P1.2.2.2.2⟩
  refine wpAny_call (codeAny_mono (F.goes X.A X.stack s1 H1 ⟨us, []⟩ us vs Q p cls d hr hot hz hf pin I1.env0 bb r z) fun res s2 hh => ?_)
  cases res with
  | error z => exact False.elim hh
  | ok fl =>
    cases fl with
    | ret u => exact I1.after hh
    | next => exact False.elim hh
    | brk => exact False.elim hh
    | cont => exact False.elim hh
/-- isinstance(e, C), e the exception at hand: its class is at D, its dict at d or it has none -/
def rIsP (K : PySem.W.Frag) (a : Addr) (cls : Value) (d : Option Addr) : List V → Hp → VK → Prop := fun xs H Q => ∃ (c : V) (cv : Value) (D : Addr) (b : Bool), xs = [.ref a, c] ∧ ClsV c cv ∧ ExcC K D ∧ cls = .ref D ∧
  (∀ dd, d = some dd → ∃ fs, H dd = some (.xd fs)) ∧ PySem.W.kitOne K (.ref D) cv = some b ∧ Q (.bl b) H
theorem call_isP (hp : p ∈ X.pn) (hz : L2N.Zn cls d p.2) (hf : ∃ vs, p.2.data = .fields vs) : CallR X (.builtin "isinstance") (rIsP X.K p.1 cls d) := by
  intro pins s σ H xs us Q I r h
  obtain ⟨c, cv, D, b, rfl, hcv, T, ec, hd, e, z⟩ := h
  obtain ⟨vs, hv⟩ := hf
  have hcl : p.2.cls = .ref D := hz.1.trans ec
  have hdi : p.2.dict = d := hz.2.1
  obtain ⟨u1, u2, rfl, r1, r2⟩ := vals2 r
  have e2 := hcv.eq r2
  subst e2
  cases (show u1 = Value.ref p.1 from r1)
  have get := (I.pin p (List.mem_append_left _ hp)).1
  have no : PySem.W.notCls p.2 = true := by
    unfold PySem.W.notCls
    rw [hv]
  have isc : (PySem.W.clsIn X.K D).isSome = true := by
    obtain ⟨cd, hc, _⟩ := PySem.W.any_some T.hd
    rw [hc]
    rfl
  have J : ∃ od, PySem.W.InstAt s.heap p.1 p.2 D od := by
    cases hx : p.2.dict with
    | none => exact ⟨none, get, hcl, no, by rw [hx]; exact True.intro⟩
    | some d0 =>
      obtain ⟨fs, hf⟩ := hd d0 (hdi.symm.trans hx)
      obtain ⟨mA, hns, _⟩ := (show ObjOk X.prog X.w H s.heap d0 (.xd fs) from I.hok d0 _ hf)
      obtain ⟨od, ho, _⟩ := lookIn_ns hns
      exact ⟨some od, get, hcl, no, by rw [hx]; exact ho⟩
  obtain ⟨od, J⟩ := J
  exact PySem.W.kia_one (PySem.W.kitx_exc isc T.hg T.hk T.hs T.ha T.hn T.ht T.hm) I.kIn J e (fun z => nomatch z) fun tk => ⟨.bl b, H, I.tok tk, rfl, z⟩
end
theorem hot_suite {X : Cx} {a : Addr} {oe : Obj} {cls : Value} {d : Option Addr} {pn : List (Addr × Obj)} (hz : L2N.Zn cls d oe) (hf : ∃ vs, oe.data = .fields vs) : Hot1 (X.suite a pn).A (a, oe) := by
  obtain ⟨vs, hv⟩ := hf
  exact ⟨rfl, vs, hv, hz.2.2 vs hv⟩
end Lay
/-! LayG: making an error of an own class, over any of the built-in bases. -/
namespace PySem
namespace XG
open HandSPX
open Builtin Builtin.ObjectAttr
/-- the classes behind an own one: further own ones, then a built-in base's -/
structure Tail (B : String) (l : List Value) : Prop where
  pass : ∀ self : Value, refuseLoop self "__setattr__" l = pure ()
  full : l.isEmpty = false
  hasB : l.contains (.type B) = true
  obj : l.contains (.type "object") = true
  noA : l.contains (.type "AttributeError") = false
  noN : l.contains (.type "NameError") = false
theorem Tail.own {B : String} {l : List Value} (t : Tail B l) (c : Addr) : Tail B (.ref c :: l) := by
  refine ⟨fun self => ?_, rfl, ?_, ?_, ?_, ?_⟩
  · rw [refuseLoop_ref]
    exact t.pass self
  all_goals rw [List.contains_cons]
  · rw [t.hasB, Bool.or_true]
  · rw [t.obj, Bool.or_true]
  · rw [t.noA]; rfl
  · rw [t.noN]; rfl
theorem tail_VE : Tail "ValueError" [.type "ValueError", .type "Exception", .type "BaseException", .type "object"] := ⟨F.store_ValueError.passes, rfl, by decide +kernel, by decide +kernel, by decide +kernel, by decide +kernel⟩
theorem tail_IE : Tail "IndexError" [.type "IndexError", .type "LookupError", .type "Exception", .type "BaseException", .type "object"] := ⟨F.store_IndexError.passes, rfl, by decide +kernel, by decide +kernel, by decide +kernel, by decide +kernel⟩
theorem tail_OE : Tail "OverflowError" [.type "OverflowError", .type "ArithmeticError", .type "Exception", .type "BaseException", .type "object"] := ⟨F.store_OverflowError.passes, rfl, by decide +kernel, by decide +kernel, by decide +kernel, by decide +kernel⟩
theorem tail_AE : Tail "ArithmeticError" [.type "ArithmeticError", .type "Exception", .type "BaseException", .type "object"] := ⟨F.store_ArithmeticError.passes, rfl, by decide +kernel, by decide +kernel, by decide +kernel, by decide +kernel⟩
theorem tail_LE : Tail "LookupError" [.type "LookupError", .type "Exception", .type "BaseException", .type "object"] := ⟨F.store_LookupError.passes, rfl, by decide +kernel, by decide +kernel, by decide +kernel, by decide +kernel⟩
/-- KeyError is made by LookupError's maker -/
theorem tail_KE : Tail "LookupError" [.type "KeyError", .type "LookupError", .type "Exception", .type "BaseException", .type "object"] := ⟨fun self => by kernel_rfl, rfl, by decide +kernel, by decide +kernel, by decide +kernel, by decide +kernel⟩
section
variable {prog : Program} {w : World} {A : Around} {E : Value → Shared → Prop} {R : Result → Shared → Prop} {h : Heap} {g : Array GenState} {d : Drawn} {t : Nat} {os : OsState}
variable {nm q : Str} {C N : Addr} {bs bm bmB : List Value} {hdct : Bool} {sn : List Str} {sub : List Value} {ab : Bool} {col : Option Bool} {dd : Option Addr} {k0 k1 k2 k3 k5 : Option Value} {B newId initId : String}
theorem check_make {M : Model} (F : ExcBaseFacts B newId initId bmB) (T : Tail B bm) {args : List Value} {Q : Unit → Shared → Prop}
    (hC : h.get? C = some (excClassObj nm q C N bs bm hdct sn sub ab col dd k0 k1 k2 k3 k5 newId)) (z : Q () ⟨h, g, d, t, os⟩) : wpAny M A (checkBuiltinCall newId ⟨.ref C :: args, []⟩) Q E ⟨h, g, d, t, os⟩ := by
  have e1 : (Value.ref C :: bm).contains (.type B) = true := (T.own C).hasB
  have e2 := F.noStar
  simp only [checkBuiltinCall, F.newKind, F.newSplit, F.newRow]
  repeat (first | refine wpAny_loadPart_at hC ?_ | (refine wpAny_isSubtype_exc hC ?_; rw [e1]) | refine wpAny_staticBase_exc hC ?_ | refine wpAny_madeBy_exc hC ?_ | (simp only [bne_self_eq_false, Bool.false_eq_true, if_false]) | wp_step)
  exact z
theorem make_raw (F : ExcBaseFacts B newId initId bmB) (T : Tail B bm) {args : List Value} (hC : h.get? C = some (excClassObj nm q C N bs bm hdct sn sub ab col dd k0 k1 k2 k3 k5 newId)) (hl : args.length ≤ sizeLine)
    (z : R (.ok (.ret (.ref (h.objs.size + 1)))) ⟨(h.push (W.kdv_tup args)).push (excO C h.objs.size), g, d, t, os⟩) : codeAny (model prog w) A (.builtin newId ⟨.ref C :: args, []⟩) R ⟨h, g, d, t, os⟩ := by
  have e0 := F.ends
  have e1 : (Value.ref C :: bm).contains (.type B) = true := (T.own C).hasB
  have e2 : (Value.ref C :: bm).contains (.type "AttributeError") = false := (T.own C).noA
  have e3 : (Value.ref C :: bm).contains (.type "NameError") = false := (T.own C).noN
  refine codeAny_builtinAt F.entry ?_
  unfold Builtin.«BaseException.__new__»
  refine wpAt_bind ?_
  show wpAt _ _ _ (stack >>= _) _ _ _
  refine wpAt_bind (wpAt_stack fun p below => wpAt_of_wpAny ?_)
  wp_walk
  refine wpAt_of_wpAny ?_
  rw [F.owner]
  repeat (first | with_reducible refine wpAny_madeHere_exc F.canon hC ?_ | with_reducible refine wpAny_loadPart_at hC ?_ | (with_reducible refine wpAny_isSubtype_exc hC ?_; (first | rw [e1] | rw [e2] | rw [e3])) | wp_step)
  show R _ _
  rw [Heap.size_push]
  exact z
theorem make_in (F : ExcBaseFacts B newId initId bmB) (T : Tail B bm) {args : List Value} {fI : Addr} {Q : Fin → Shared → Prop} (hC : h.get? C = some (excClassObj nm q C N bs bm hdct sn sub ab col dd k0 k1 k2 k3 k5 newId))
    (hi : W.Looks (model prog w) h (typeLookup (.ref C) "__init__") (some (.ref fI))) (hb : ∀ self, W.Looks (model prog w) h (bindSpecial (.ref fI) self) (.ref fI, [self])) (hl : args.length ≤ sizeLine)
    (z : codeAny (model prog w) A (.call (.ref fI) ⟨.ref (h.objs.size + 1) :: args, []⟩) (fun r s' => match r with | .ok (.ret v) => v = .none ∧ Q (.done (.ret (.ref (h.objs.size + 1)))) s' | .ok _ => False | .error e => E e s') ⟨(h.push (W.kdv_tup args)).push (excO C h.objs.size), g, d, t, os⟩) :
    wpAny (model prog w) A (Builtin.«type.__call__» ⟨.ref C :: args, []⟩) Q E ⟨h, g, d, t, os⟩ := by
  repeat (first | with_reducible refine wpAny_loadPart_at hC ?_ | with_reducible refine wpAny_madeBy_exc hC ?_ | wp_step)
  refine codeAny_call_builtin_code (Code.quiet_builtin _ F.quiet) (check_make F T hC (make_raw F T hC hl ?_))
  show wpAny _ _ _ _ _ _
  have up : ∀ b o, h.get? b = some o → ((h.push (W.kdv_tup args)).push (excO C h.objs.size)).get? b = some o := fun b o e => Heap.get?_push_of_some _ (Heap.get?_push_of_some _ e)
  have atC := up _ _ hC
  have atE : ((h.push (W.kdv_tup args)).push (excO C h.objs.size)).get? (h.objs.size + 1) = some (excO C h.objs.size) := by heap_get
  have self1 : (Value.ref C :: bm).contains (.ref C) = true := by simp
  have j1 := hi.keeps up
  have j2 := (hb (.ref (h.objs.size + 1))).keeps up
  unfold isInstance
  repeat (first | with_reducible refine wpAny_loadPart_at atE ?_ | (with_reducible refine wpAny_isSubtype_exc atC ?_; rw [self1]) | wp_step)
  show wpAny _ _ (typeLookup (.ref C) _) _ _ _
  refine j1.at (wpAny_holding (wpAny_bind (j2.at (wpAny_bind (wpAny_call (codeAny_mono z fun r s' y => ?_))))))
  rcases r with e | (v | _ | _ | _) <;> first | exact y | exact y.elim | skip
  obtain ⟨rfl, y⟩ := y
  first | exact wpAny_pure (wpAny_pure y) | (wp_walk; exact y)
/-- C(..), C an own class of errors with its own __init__ -/
theorem make_call (F : ExcBaseFacts B newId initId bmB) (T : Tail B bm) {args : List Value} {fI : Addr} (hC : h.get? C = some (excClassObj nm q C N bs bm hdct sn sub ab col dd k0 k1 k2 k3 k5 newId))
    (hi : W.Looks (model prog w) h (typeLookup (.ref C) "__init__") (some (.ref fI))) (hb : ∀ self, W.Looks (model prog w) h (bindSpecial (.ref fI) self) (.ref fI, [self])) (hl : args.length ≤ sizeLine)
    (z : codeAny (model prog w) (A.under (.builtin "type.__call__" ⟨.ref C :: args, []⟩)) (.call (.ref fI) ⟨.ref (h.objs.size + 1) :: args, []⟩) (W.InitBack (h.objs.size + 1) R) ⟨(h.push (W.kdv_tup args)).push (excO C h.objs.size), g, d, t, os⟩) :
    codeAny (model prog w) A (.call (.ref C) ⟨args, []⟩) R ⟨h, g, d, t, os⟩ := by
  have l1 := tc_lookup
  have l2 := tc_bind (.ref C)
  have ty : (⟨h, g, d, t, os⟩ : Shared).TypeIs (.ref C) "type" := ⟨_, hC, rfl⟩
  refine codeAny_of_tree ?_
  show wpAny _ _ (callAny (.ref C) _) _ _ _
  repeat (any_goals (first | assumption | with_reducible refine wpAny_loadPart_at hC ?_ | wp_step))
  refine ⟨rfl, codeAny_call_builtin_at (Code.quiet_builtin _ (by decide +kernel)) entry_typeCall (wpAny_check_type_call_sub hC (make_in F T hC hi hb hl (codeAny_mono z fun r s' y => ?_)))⟩
  rcases r with e | (v | _ | _ | _) <;> exact y
/-- the first field of such an error -/
theorem store_first {K : W.Frag} {f : Str} {tk : Tok} {v : Value} {x : Addr} {fv : Array Value} {cd : ClassData} {bm : List Value} {B : String} (T : Tail B bm) (X : K.In h) (hx : h.get? x = some { cls := .ref C, data := .fields fv }) (hcd : W.clsIn K C = some cd) (hm : cd.mro = .ref C :: bm) (hh : cd.hasDict = true)
    (no : W.findIn K (.ref C) f = some none)
    (z : ∀ h' tk' dx, (∀ b o, b ≠ x → h.get? b = some o → h'.get? b = some o) → h.objs.size ≤ dx → dx ≠ x → h'.get? x = some { cls := .ref C, dict := some dx, data := .fields fv } → h'.Ns1 dx (fun y => if y = f then some v else none) → R (.ok (.ret .none)) ⟨h', g, d, tk', os⟩) :
    codeAny (model prog w) A (.call (.builtin "object.__setattr__") ⟨[.ref x, .str f tk, v], []⟩) R ⟨h, g, d, t, os⟩ := by
  have T1 := T.own C
  rw [← hm] at T1
  have I : W.InstAt h x { cls := .ref C, data := .fields fv } C none := ⟨hx, rfl, rfl, trivial⟩
  have SF := F.store_object
  have apart : x ≠ h.objs.size := Nat.ne_of_lt (Heap.lt_size hx)
  have isObj : W.Looks (model prog w) h (isInstance (.ref x) (.type "object")) true := I.type.andThen (W.looks_mroIn X (by unfold W.mroIn; rw [hcd, Option.bind_some, if_neg (by rw [T1.full]; decide), T1.obj]))
  refine codeAny_call_builtin SF.slot.plain SF.entry (@W.check_slot (model prog w) _ _ ⟨h, g, d, t, os⟩ "object.__setattr__" "object" "__setattr__" (.ref x) [.str f tk, v] [] _ SF.kind SF.split isObj (SF.args (.ref x) (.str f tk) v) ?_)
  have chain : W.Looks (model prog w) h (mroOf (.ref C)) cd.mro := (W.looks_clsIn X hcd).andThen .now
  have taker : W.Looks (model prog w) h (storeTaker? none) none := .now
  have data : W.Looks (model prog w) h (classData C) cd := W.looks_clsIn X hcd
  rw [W.osa_eq, refuse_eq]
  refine wpAny_bind (wpAny_bind (I.type.at (wpAny_bind (chain.at ?_))))
  rw [T1.pass]
  refine wpAny_pure (wpAny_bind (I.type.at (wpAny_bind ((W.looks_findIn X no).at (wpAny_bind (taker.at ?_))))))
  show wpAny _ _ (storeInOwnDict (.ref x) (.ref C) (.str f tk) f v false) _ _ _
  clear chain T1 isObj
  obtain ⟨c1, c2, c3, c4, c5, c6, c7, c8, c9, c10, c11⟩ := cd
  dsimp only at hh
  subst hh
  unfold storeInOwnDict ownDictForStores
  repeat (first | with_reducible refine store_in_new ?_ ?_ | with_reducible refine wpAny_loadPart_at hx ?_ | with_reducible refine data.at ?_ | wp_step)
  · exact ⟨_, #[], _, (Heap.get?_update_ne _ _ _ _ apart.symm).trans (Heap.get?_push_at rfl rfl), rfl, (fun e he => absurd he (by simp)), fun _ => rfl⟩
  · intro h' tk' hn' hs
    have there : (h.push { cls := .type "dict", data := .dict #[] }).get? x = some { cls := .ref C, data := .fields fv } := Heap.get?_push_of_some _ hx
    refine z h' tk' h.objs.size (fun b o hb ho => ?_) (Nat.le_refl _) apart.symm ((hs.2 x apart).trans (Heap.get?_update_self _ there rfl)) hn'
    exact (hs.2 b (Nat.ne_of_lt (Heap.lt_size ho))).trans ((Heap.get?_update_ne _ _ _ _ hb).trans (Heap.get?_push_of_some _ ho))
end
end XG
end PySem
/-! LayH: the rules for such errors: self.f = e in __init__, C(e) made (its context None). -/
namespace Lay
open PySem PySem.Spec PyProof.Rows L2
/-- what the written part says of the class at C, an own one over the built-in B -/
structure Xc (K : PySem.W.Frag) (C : Addr) (B newId : String) : Prop where
  cls : ∃ nm q N bs bm sn sub ab col dd k0 k1 k2 k3 k5, K.lookup C = some (excClassObj nm q C N bs bm true sn sub ab col dd k0 k1 k2 k3 k5 newId) ∧ PySem.XG.Tail B bm
  sa : PySem.W.findIn K (.ref C) "__setattr__" = some (some (.builtin "object.__setattr__"))
  exC : PySem.W.subIn K (.ref C) (.type "BaseException") = some true
  tyC : PySem.W.typeIn K (.ref C) = some (.type "type")
  kC : PySem.W.keepIn K (.ref C) = true
section
variable {X : Cx} {pins : List (Addr × Obj)} {σ : L2.St} {H : Hp} {s : Shared} {a C dx : Addr} {f : Str} {y : V} {u : Value} {Q : Unit → Shared → Prop} {E : Value → Shared → Prop} {A : Around} {B newId : String}
theorem set_first (T : Xc X.K C B newId) (I : Inv X pins σ H s) (e : H a = some (exo a C none)) (no : PySem.W.findIn X.K (.ref C) f = some none) (ry : RelV y u)
    (z : ∀ dx s', H dx = none → dx ≠ a → Inv X pins σ (upd (upd H dx (exd dx [(f, y)])) a (exo a C (some dx))) s' → Q () s') : wpAny (model X.prog X.w) A (setAttr (.ref a) f u) Q E s := by
  obtain ⟨nm, q, N, bs, bm, sn, sub, ab, col, dd, k0, k1, k2, k3, k5, hC, hbm⟩ := T.cls
  have hcl : PySem.W.clsIn X.K C = some { name := nm, bases := bs, mro := .ref C :: bm, ns := N, qualname := q, hasDict := true, slotNames := sn, subclasses := sub, abstract := ab, collection := col, hasDel := false } := by
    unfold PySem.W.clsIn
    rw [hC]
  obtain ⟨t1, ho⟩ := exo_at I.hok e
  obtain ⟨hp, g, d, t, os⟩ := s
  refine PySem.W.set_plain I.kIn (ox := { cls := .ref C, dict := none, data := .fields #[.ref t1, .none, .none, .none, .bool false, .none] }) (od := none) ⟨ho, rfl, rfl, trivial⟩ T.sa ?_
  refine PySem.XG.store_first hbm I.kIn ho hcl rfl rfl no (fun h' tk' dx kp dn dne hx hn => ?_)
  have new : H dx = none := I.hok.fresh dn
  have below : ∀ {b : Addr} {o : Obj}, hp.get? b = some o → b ≠ dx := fun q => Nat.ne_of_lt (Nat.lt_of_lt_of_le (Heap.lt_size q) dn)
  have nota : ∀ {b : Addr}, H b = none → b ≠ a := fun n z => by
    rw [z, e] at n
    cases n
  -- what is tracked and is neither the error nor its dict stands as before
  have stay : ∀ {b : Addr} {u : HO}, H b = some u → (exo a C none) ≠ u → upd (upd H dx (exd dx [(f, y)])) a (exo a C (some dx)) b = some u := fun {b u} hb ne => by
    rw [upd_ne (at_ne e hb ne), upd_ne (ne_of_none hb new)]
    exact hb
  have U : Un X.fs [] H (upd (upd H dx (exd dx [(f, y)])) a (exo a C (some dx))) hp h' :=
    { keep := fun b o q n _ _ => kp b o (nota n) q,
      slot := fun b o q n _ _ => ⟨o.slots, kp b o (nota n) q⟩,
      free := fun b o q n _ => by
        rw [upd_ne (nota n), upd_ne (below q)]
        exact n,
      there := fun b o q _ => by
        by_cases hb : b = a
        · exact ⟨_, by rw [hb]; exact hx⟩
        · exact ⟨o, kp b o hb q⟩,
      tups := fun b xs q => stay q exo_tup,
      frzs := fun b o v q => stay q exo_frz,
      tbls := fun b ps q => ⟨#[], by rw [stay q exo_tbl]; simp⟩ }
  refine z dx _ new dne (I.un (t' := tk') U fun b o q => ?_)
  by_cases hb : b = a
  · subst hb
    rw [upd_same] at q
    cases q
    exact exo_ok hx
  rw [upd_ne hb] at q
  by_cases hd : b = dx
  · subst hd
    rw [upd_same] at q
    cases q
    exact exd_ok hn (relO_put (fs := []) ry fun g => True.intro)
  rw [upd_ne hd] at q
  refine (I.hok b o q).stay (fun c v hc z => kp c v ?_ z) (fun c hc => stay hc exo_own) (fun c xs hc => stay hc exo_tup)
  rcases hc with hc | hc
  · rw [hc]
    exact hb
  · exact at_ne e hc exo_own
end
/-- self.f = e, the only field -/
def tSet1 (K : PySem.W.Frag) (B newId : String) (f : Str) (to te : TE) : TS := fun D σ H => te σ H fun y H1 => to σ H1 fun x H2 => ∃ a C : Addr, x = .ref a ∧ Xc K C B newId ∧ PySem.W.findIn K (.ref C) f = some none ∧
  H2 a = some (exo a C none) ∧ ∀ dx, H2 dx = none → dx ≠ a → D.nx σ (upd (upd H2 dx (exd dx [(f, y)])) a (exo a C (some dx)))
theorem ps_set1 {X : Cx} {o e : Expr} {to te : TE} {f : Str} {p' pos : Pos} {B newId : String} (ho : PE X o to) (he : PE X e te) (hs : swapsWith e (some (.Attribute o f p')) pos.line X.env = pure false := by rfl) : PS X (.Assign [.Attribute o f p'] e pos) (tSet1 X.K B newId f to te) := by
  refine ⟨fun pins s σ H D I h => plainObj_wpAny_Assign_Attribute (thn (he.run pins s σ H _ I h) ?_) hs⟩
  rintro v s1 ⟨y, H1, I1, r1, q1⟩
  refine thn (ho.run pins s1 σ H1 _ I1 q1) ?_
  rintro u s2 ⟨x, H2, I2, r2, a, C, rfl, T, no, ea, q⟩
  cases (show u = Value.ref a from r2)
  exact set_first T I2 ea no r1 fun dx s' n ne J => ⟨σ, _, J, q dx n ne⟩
/-- what __init__(self, v) of such a class promises -/
def spIni (K : PySem.W.Frag) (B newId : String) (f : Str) : Sp := fun vs H Q _ => ∃ (a C : Addr) (v : V), vs = [.ref a, v] ∧ Xc K C B newId ∧ PySem.W.findIn K (.ref C) f = some none ∧ H a = some (exo a C none) ∧
  ∀ dx, H dx = none → dx ≠ a → Q .non (upd (upd H dx (exd dx [(f, v)])) a (exo a C (some dx)))
/-- C(e): an error whose own dict, new, holds f -/
def tMk1 (C : Addr) (f : Str) (ta : TA) : L2.St → Hp → XK → Prop := fun σ H Q => ta σ H fun vs H1 => ∃ v, vs = [v] ∧ ∀ d, H1 d = none → Q (.ref C) (some d) (upd H1 d (.xd [(f, v)]))
section
variable {X : Cx} {B newId initId : String} {bmB : List Value} {x f : Str} {C fI : Addr} {k : Nat} {fd : FuncData} {ps : List Str} {e : Expr} {es : List Expr} {ta : TA} {p pos : Pos}
theorem del_upd {H : Hp} {a d : Addr} {o u : HO} (hd : d ≠ a) (ha : H a = none) : upd (del (upd (upd H d o) a u) a) d o = upd H d o := by
  funext b
  by_cases h1 : b = d
  · rw [h1, upd_same, upd_same]
  · rw [upd_ne h1, upd_ne h1]
    by_cases h2 : b = a
    · rw [h2, del_same, ha]
    · rw [del_ne h2, upd_ne h2, upd_ne h1]
theorem pmk_init (F : ExcBaseFacts B newId initId bmB) (T : Xc X.K C B newId) (no : PySem.W.findIn X.K (.ref C) f = some none) (iC : PySem.W.findIn X.K (.ref C) "__init__" = some (some (.ref fI))) (tI : PySem.W.typeIn X.K (.ref fI) = some (.type "function"))
    (F1 : FnOk X.prog X.w X.K X.mg X.base CX0 k fI fd ps (spIni X.K B newId f)) (hr : Room (k + 1) X.A) (hb : Binds X.K fd ps []) (hg : Gl X x) (hm : X.mg x = some (.ref C)) (ha : PA X (e :: es) ta)
    (hdb : (x == ("__debug__" : Str)) = false := by decide) (he : starEach (e :: es) X.env = (false, eval e X.env) :: starEach es X.env := by rfl) (hpl : (backTo pos (starEach es X.env)).any (·.1) = false := by rfl) :
    L2N.PMk X (.Call (.Name x p) (e :: es) [] pos) (tMk1 C f ta) := by
  intro pins s σ H Q I h
  obtain ⟨nm, q, N, bs, bm, sn, sub, ab, col, dd, k0, k1, k2, k3, k5, hC, hbm⟩ := T.cls
  refine wpAny_Call_Name_kw (ld_glob I hg hm ?_ hdb)
  refine PySem.W.callWith_K (h₀ := X.base) I.ok.mod.kin T.kC (thn (ha.run pos pins s σ H _ I h) ?_) he hpl
  rintro us s1 ⟨vs, H1, I1, r1, v, rfl, q1⟩
  refine ⟨I1.kIn, ?_⟩
  show wpAny _ _ (call (.ref C) us) _ _ _
  obtain ⟨hp, g, dr, tk, os⟩ := s1
  have above : hp.objs.size ≤ hp.objs.size + 1 := Nat.le_succ _
  have free : H1 (hp.objs.size + 1) = none := I1.hok.fresh above
  have up : ∀ b o, hp.get? b = some o → ((hp.push (PySem.W.kdv_tup us)).push (PySem.HandSPX.excO C hp.objs.size)).get? b = some o := fun b o e => Heap.get?_push_of_some _ (Heap.get?_push_of_some _ e)
  have at1 : ((hp.push (PySem.W.kdv_tup us)).push (PySem.HandSPX.excO C hp.objs.size)).get? (hp.objs.size + 1) = some (PySem.HandSPX.excO C hp.objs.size) := by heap_get
  have I2 : Inv X pins σ (upd H1 (hp.objs.size + 1) (exo (hp.objs.size + 1) C none)) ⟨(hp.push (PySem.W.kdv_tup us)).push (PySem.HandSPX.excO C hp.objs.size), g, dr, tk, os⟩ := I1.laid (t' := tk) up above (exo_ok at1)
  have r2 : Vals [V.ref (hp.objs.size + 1), v] (Value.ref (hp.objs.size + 1) :: us) := .cons rfl r1
  -- the promise of __init__ at hand, with the end that is wanted
  have wish : spIni X.K B newId f [V.ref (hp.objs.size + 1), v] (upd H1 (hp.objs.size + 1) (exo (hp.objs.size + 1) C none))
      (fun w2 H2 => w2 = .non ∧ ∃ d, H1 d = none ∧ d ≠ hp.objs.size + 1 ∧ H2 = upd (upd (upd H1 (hp.objs.size + 1) (exo (hp.objs.size + 1) C none)) d (exd d [(f, v)])) (hp.objs.size + 1) (exo (hp.objs.size + 1) C (some d))) E0 :=
    ⟨_, C, v, rfl, T, no, upd_same, fun d hd hne => ⟨rfl, d, by rw [upd_ne hne] at hd; exact hd, hne, rfl⟩⟩
  have hl : (Value.ref (hp.objs.size + 1) :: us ++ []).length = ps.length := by
    rw [List.append_nil, ← r2.length]
    exact F1.len _ _ _ _ wish
  have b2 := hb _ (Value.ref (hp.objs.size + 1) :: us) I2.kIn hl
  rw [List.append_nil] at b2
  have small : us.length ≤ sizeLine := by
    rw [← Paired.length r1]
    exact (by decide : 1 ≤ sizeLine)
  refine wpAny_call (PySem.XG.make_call F hbm (I1.kIn _ _ hC) (PySem.W.looks_findIn I1.kIn iC) (fun self => PySem.W.bind_fn I1.kIn self tI) small
    (codeAny_mono (F1.run _ X.stack _ _ ⟨Value.ref (hp.objs.size + 1) :: us, []⟩ (Value.ref (hp.objs.size + 1) :: us) _ _ E0 (hr.make C us []) (I2.env0.make C us []) b2 r2 wish) fun r s' hq' => ?_))
  cases r with
  | error er => exact False.elim hq'
  | ok fl =>
    cases fl with
    | next => exact False.elim hq'
    | brk => exact False.elim hq'
    | cont => exact False.elim hq'
    | ret u =>
      obtain ⟨w2, H2, os2, bare2, un2, hok2, rv, rfl, d, hd1, hdn, rfl⟩ := hq'
      obtain ⟨h2, g2, d2, t2, os'⟩ := s'
      obtain ⟨t0, G, J, kG, ge, hoe, na⟩ := mk_end0 (d2 := d2) (t2 := t2) I1 above up un2 hok2 os2 bare2 (d := d) (fs := [(f, v)]) upd_same (by rw [upd_ne hdn, upd_same]) hd1
      have eH : upd (del (upd (upd (upd H1 (hp.objs.size + 1) (exo (hp.objs.size + 1) C none)) d (exd d [(f, v)])) (hp.objs.size + 1) (exo (hp.objs.size + 1) C (some d))) (hp.objs.size + 1)) d (.xd [(f, v)]) = upd H1 d (.xd [(f, v)]) := by
        funext b
        by_cases h1 : b = d
        · rw [h1, upd_same, upd_same]
        · rw [upd_ne h1, upd_ne h1]
          by_cases h2 : b = hp.objs.size + 1
          · rw [h2, del_same, free]
          · rw [del_ne h2, upd_ne h2, upd_ne h1, upd_ne h2]
      rw [eH] at J na
      refine ⟨rv, hp.objs.size + 1, _, _, ⟨G, g2, d2, t2, os'⟩, _, .ref C, some d, rfl, J, kG, ge, hoe, ⟨rfl, rfl, fun vs hv => ?_⟩, rfl, rfl, na, rfl, bare2, raises_own T.exC T.tyC, q1 d hd1⟩
      cases hv
      rfl
/-- C(e), C an own class of errors without an own __init__ -/
theorem pmk_text (F : ExcBaseFacts B newId initId bmB) (q : PySem.W.excIn X.K C bmB newId = true) (gC : X.mg x = some (.ref C)) (kC : PySem.W.keepIn X.K (.ref C) = true) (r : Raises X (.ref C)) (hg : Gl X x) (ha : PA X (e :: es) ta)
    (hdb : (x == ("__debug__" : Str)) = false := by decide) (he : starEach (e :: es) X.env = (false, eval e X.env) :: starEach es X.env := by rfl) (hpl : (backTo pos (starEach es X.env)).any (·.1) = false := by rfl) :
    L2N.PMk X (.Call (.Name x p) (e :: es) [] pos) (fun σ H Q => ta σ H fun vs H1 => vs.length ≤ 1000 ∧ Q (.ref C) none H1) := by
  intro pins s σ H Q I h
  refine wpAny_Call_Name_kw (ld_glob I hg gC ?_ hdb)
  refine PySem.W.callWith_K (h₀ := X.base) I.ok.mod.kin kC (thn (ha.run pos pins s σ H _ I h) ?_) he hpl
  rintro us s1 ⟨vs, H1, I1, r1, hl, q1⟩
  refine ⟨I1.kIn, ?_⟩
  show wpAny _ _ (call (.ref C) us) _ _ _
  obtain ⟨bm, N, nm, qn, bs, hdct, sn, sub, ab, col, dd, k0, k1, k2, k3, k5, mN, hC, hN, hni, T⟩ := exc_obj I1.kIn q
  have small : us.length ≤ sizeLine := by
    rw [← Paired.length r1]
    exact Nat.le_trans hl (by decide)
  exact wpAny_call_exc_subT F T hC hN hni (fun h' e hm => L2N.mk_of I1 hm r q1 (I1.hok.gone hm.new)) small
end
end Lay
/-! LayI: repr of a value of any kind; a text times a number. -/
namespace Lay
open PySem PySem.Spec PyProof.Rows L2
/-- the value v is shown as z -/
inductive Sh (K : PySem.W.Frag) (H : Hp) : V → Str → Prop
  | int (i : Int) (h : i.natAbs.log2 < 1920) : Sh K H (.int i) (toString i)
  | str (x : Str) (h : (reprText x).length ≤ sizeLine) : Sh K H (.str x) (reprText x)
  | bl (b : Bool) : Sh K H (.bl b) (if b then "True" else "False")
  | non : Sh K H .non "None"
  | dat {a : Addr} {d : PyData} (h : Dp K H (.ref a) d) (h1 : d.showable = true) (h2 : d.hasDict = false) (h3 : d.depth ≤ 20) (h4 : d.shown.length ≤ sizeLine) : Sh K H (.ref a) d.shown
  | dct {p t : Addr} {k : Str} {is : List Int} (h : H p = some (.dK [(.inr k, .ref t)])) (ht : H t = some (.tup (is.map V.int))) (h1 : (PyData.dict [(.str k, .tuple (is.map PyData.int))]).showable = true)
      (h4 : (PyData.dict [(.str k, .tuple (is.map PyData.int))]).shown.length ≤ sizeLine) (h3 : (PyData.dict [(.str k, .tuple (is.map PyData.int))]).depth ≤ 20) : Sh K H (.ref p) (PyData.dict [(.str k, .tuple (is.map PyData.int))]).shown
theorem reads_ints {h : Heap} : ∀ {is : List Int} {us : List Value}, Vals (is.map V.int) us → ReadsAll h us (is.map PyData.int) []
  | [], _, .nil => .nil
  | i :: r, _, .cons (b := u) hu ht => by
    obtain ⟨t, rfl⟩ := hu
    exact ReadsAll.cons (as := []) (bs := []) (Reads.int i t) (reads_ints ht)
def rShow (K : PySem.W.Frag) : List V → Hp → VK → Prop := fun xs H Q => ∃ v z, xs = [v] ∧ Sh K H v z ∧ Q (.str z) H
section
variable {X : Cx}
theorem call_show (hq : Quiet X.A) (hu : X.A.units + 64 < cLine) : CallR X (.builtin "repr") (rShow X.K) := by
  intro pins s σ H xs us Q I r h
  obtain ⟨v, z, rfl, hs, q⟩ := h
  obtain ⟨u, rfl, ru⟩ := vals1 r
  cases hs with
  | int i hi =>
    obtain ⟨t, rfl⟩ := ru
    exact PySem.P.repr_of_int hi ⟨.str _, H, I.tok _, ⟨_, rfl⟩, q⟩
  | str x hx =>
    obtain ⟨t, rfl⟩ := ru
    exact PySem.P.repr_of_str ⟨.str _, H, I.tok _, ⟨_, rfl⟩, q⟩ hx
  | bl b =>
    cases (show u = Value.bool b from ru)
    exact PySem.P.repr_of_bool ⟨.str _, H, I.tok _, ⟨_, rfl⟩, q⟩
  | non =>
    cases (show u = Value.none from ru)
    exact PySem.P.repr_of_none ⟨.str _, H, I.tok _, ⟨_, rfl⟩, q⟩
  | @dat a d hd h1 h2 h3 h4 =>
    cases (show u = Value.ref a from ru)
    obtain ⟨as, rd⟩ := Dp.reads I d (.ref a) (.ref a) hd rfl
    exact repr_of_reads' rd h1 (fun z => by rw [h2] at z; cases z) hq (by omega) (fun _ _ z => z) (fun h' u tk hk => ⟨.str d.shown, H, I.kept hk, ⟨u, rfl⟩, q⟩) h4
  | @dct p t k is hp ht h1 h4 h3 =>
    cases (show u = Value.ref p from ru)
    obtain ⟨_, nosys, vs, kv, o, es, ep, ho, hex, hd, _, hpr, _⟩ := (show ObjOk X.prog X.w H s.heap p (.dK [(.inr k, .ref t)]) from I.hok p _ hp)
    obtain ⟨_, its, rv, hT⟩ := (show ObjOk X.prog X.w H s.heap t (.tup (is.map V.int)) from I.hok t _ ht)
    obtain ⟨ot, hot, hct, n, hdt⟩ := hT
    cases kv with
    | @cons _ q2 _ _ e1 e2 =>
      cases e2
      obtain ⟨ky, w2⟩ := q2
      obtain ⟨e1, e3⟩ := e1
      cases e1
      cases (show w2 = Value.ref t from e3)
      generalize hl : es.toList = l at hpr
      cases hpr with
      | @cons e kv es2 kvs2 hk hv hr =>
        cases hr
        obtain ⟨eh, ek, ev⟩ := e
        have hk' : Value.isStrOf k ek = true := hk
        obtain ⟨tk, rfl⟩ : ∃ tk, ek = .str k tk := by
          cases ek with
          | str y u =>
            have e9 : (y == k) = true := hk'
            rw [beq_iff_eq] at e9
            exact ⟨u, by rw [e9]⟩
          | _ => cases hk'
        cases hv
        have rt : Reads s.heap (.ref t) (.tuple (is.map PyData.int)) [] := Reads.tuple hot hct hdt (reads_ints rv)
        have rd : Reads s.heap (.ref p) (.dict [(.str k, .tuple (is.map PyData.int))]) (p :: ([] ++ []) ++ ([] ++ [])) := by
          refine Reads.dict ho hex.1 hd ?_ ?_
          · rw [hl]
            exact ReadsAll.cons (Reads.str k tk) ReadsAll.nil
          · rw [hl]
            exact ReadsAll.cons rt ReadsAll.nil
        refine repr_of_reads' rd h1 (fun _ z => ?_) hq (by omega) (fun _ _ z => z) (fun h' u tk hk => ⟨.str _, H, I.kept hk, ⟨u, rfl⟩, q⟩) h4
        have e0 : sysModules = p := by simpa using z
        rw [← e0] at nosys
        exact absurd nosys (by decide)
theorem times_size (c : Array Nat) : ∀ (n : Nat) (a : Array Nat), (List.foldl (fun x1 x2 => x1 ++ x2) a (List.replicate n c)).size = a.size + n * c.size
  | 0, a => by simp
  | n + 1, a => by
    rw [List.replicate_succ, List.foldl_cons, times_size c n (a ++ c), Array.size_append, Nat.succ_mul]
    omega
/-- a text times a number: which text it is is not told -/
def rTimes : R2 := fun x y H Q => ∃ z n, x = .str z ∧ y = .int n ∧ 1 ≤ n ∧ n ≤ 1000 ∧ 1 ≤ z.length ∧ z.length ≤ 1000 ∧ ∀ w : Str, Q (.str w) H
theorem op_times : OpR X (binaryOp .Mult) rTimes := by
  intro pins s σ H x y v u Q I rx ry h
  obtain ⟨z, n, rfl, rfl, h1, h2, h3, h4, q⟩ := h
  obtain ⟨t, rfl⟩ := rx
  obtain ⟨t', rfl⟩ := ry
  have e1 : decide (n < -(2 ^ 63 : Int)) = false := decide_eq_false (by omega)
  have e2 : decide (n ≥ 2 ^ 63) = false := decide_eq_false (by omega)
  have big : z.length * n.toNat ≤ 1000 * 1000 := Nat.mul_le_mul h4 (by omega)
  refine PySem.P.mul_str (by rw [e1, e2]; rfl) (fun _ _ => ?_) (fun _ _ => ?_) ?_
  · have : (1000 : Int) ≤ (2 ^ 63 - 1) / n := (Int.le_ediv_iff_mul_le (by omega)).mpr (by omega)
    omega
  · unfold Builtin.Str.tooLong
    refine decide_eq_false ?_
    have : 1000 * 1000 ≤ sizeLine := by decide
    omega
  · rw [if_neg (by omega : ¬ n < 1)]
    by_cases hz : (n == 1 || z.length == 0) = true
    · rw [if_pos hz]
      exact ⟨.str z, H, I, ⟨t, rfl⟩, q z⟩
    · rw [if_neg hz]
      refine ⟨?_, ⟨.str _, H, I.tok _, ⟨_, rfl⟩, q _⟩⟩
      show (List.foldl (fun x1 x2 => x1 ++ x2) #[] (List.replicate n.toNat z.cps)).size ≤ sizeLine
      rw [times_size]
      have e3 : z.cps.size = z.length := rfl
      have : 1000 * 1000 ≤ sizeLine := by decide
      have e4 : (#[] : Array Nat).size = 0 := rfl
      have e5 : n.toNat * z.cps.size = z.length * n.toNat := by rw [e3, Nat.mul_comm]
      omega
end
end Lay
/-! LayD: rules for k04: what is never reached, // by any divisor, a range that is kept. -/
namespace Lay
open PySem PySem.Spec PyProof.Rows L2
section
variable {X : Cx} {tg : Expr}
def CDivWN (_ j : Int) : Prop := j ≠ 0 ∧ j.natAbs.log2 < 9000
theorem op_fdivWN : OpR X (binaryOp .FloorDiv) (rI CDivWN fun i j => .int (i.fdiv j)) := opI fun _ _ _ _ _ _ _ hc q => floordiv_int hc.1 q (.inl (PyProof.noPylong_of_log2 hc.2))
theorem q_range1 : CallR X (.type "range") (fun vs H Q => ∃ j, vs = [V.int j] ∧ ∀ p, H p = none → Q (.ref p) (upd H p (.rng 0 j))) := by
  intro pins s σ H vs us Q I r h
  obtain ⟨j, rfl, q⟩ := h
  obtain ⟨u1, rfl, rj⟩ := vals1 r
  obtain ⟨u, rfl⟩ := rj
  refine call_range_1 ⟨.ref s.heap.objs.size, upd H s.heap.objs.size (.rng 0 j), I.laid (fun b o e => Heap.get?_push_of_some _ e) (Nat.le_refl _) ?_, rfl, q _ (I.hok.fresh (Nat.le_refl _))⟩
  exact ⟨_, _, _, Heap.get?_push_size _ rfl⟩
/-- for x in r, r a range that stands in a name -/
def iRngV (te : TE) : TI := fun σ H R => te σ H fun x H1 => ∃ (p : Addr) (j : Int), x = .ref p ∧ H1 p = some (.rng 0 j) ∧ -(2 ^ 62) ≤ j ∧ j < 2 ^ 62 ∧ R (Itr 0 j.toNat) H1
theorem pi_rngv {e : Expr} {te : TE} (he : PE X e te) : PI X tg e (iRngV te) := by
  refine ⟨fun pins s σ H R I h => thn (he.run pins s σ H _ I h) ?_⟩
  rintro v s1 ⟨x, H1, I1, r1, p, j, rfl, hp, h3, h4, q⟩
  cases (show v = Value.ref p from r1)
  obtain ⟨t, u, w, ho⟩ := (show ObjOk X.prog X.w H1 s1.heap p (.rng 0 j) from I1.hok p _ hp)
  refine wpAny_pyIter_range (show IsRange s1.heap p 0 j 1 t u w from ho) (small_one (by decide) (by decide) h3 h4) ?_
  refine ⟨s1.heap.objs.size, [s1.heap.objs.size], _, _, H1, rfl, I1.kept (t' := s1.toks) fun b o e => Heap.get?_push_of_some _ e, turn_range _ 0 j.toNat, ?_, fun b hb => ?_, q⟩
  · have e2 : ((j.toNat : Nat) : Int) - ((0 : Nat) : Int) = Builtin.Range.rangeSize 0 j 1 := by rw [rangeSize_one]; split <;> omega
    show IsRangeIter _ _ (0 + ((0 : Nat) : Int) * 1) (((j.toNat : Nat) : Int) - ((0 : Nat) : Int)) 1
    rw [e2]
    exact Heap.get?_push_size _ rfl
  · have e : b = s1.heap.objs.size := by simpa using hb
    subst e
    exact I1.fpOk (Nat.le_refl _) (I1.hok.fresh (Nat.le_refl _))
theorem rd_rng2 {ta : TA} {σ : L2.St} {H : Hp} {R : It → Hp → Prop} (q : ta σ H (fun vs H1 => ∃ i j : Int, vs = [.int i, .int j] ∧ (-(2 ^ 62) ≤ i ∧ i < 2 ^ 62 ∧ -(2 ^ 62) ≤ j ∧ j < 2 ^ 62) ∧ R (Itr i (j - i).toNat) H1)) : iRng2 ta σ H R := q
end
end Lay
namespace Lay
open PySem PySem.Spec PyProof.Rows L2
section
variable {σ : L2.St} {H H1 : Hp} {Q : VK} {K : PySem.W.Frag}
/-- a comprehension whose items are new objects: P tells of the j-th; what stands stays, but the list itself -/
theorem lc_made {J : It} {n : Nat} {G : Hp → Prop} {item : Nat → V} (w : Wk J n G item) {i : Nat} {te : TE} {E : Addr} (hn : n ≤ 1000) (hE : H1 E = none) (hG : ∀ H', Same H1 H' → G H') (P : Nat → V → Hp → Prop) (mono : ∀ j v H H', But E H H' → P j v H → P j v H')
    (he : ∀ j, j < n → ∀ H' o, Same H1 H' → H' E = some o → ∀ R : VK, (∀ v H'', Same H' H'' → P j v H'' → R v H'') → te ((wipe σ [i]).set i (some (item j))) H' R)
    (hd : ∀ ys H', Same H1 H' → ys.length = n → (∀ j v, ys[j]? = some v → P j v H') → H' E = some (.lst ys) → Q (.ref E) H') : LcAt J (gName i) tYes te [i] σ E H1 Q := by
  refine ⟨fun k m H' => m = n - k ∧ k ≤ n ∧ Same H1 H' ∧ ∃ ys : List V, ys.length = k ∧ (∀ j v, ys[j]? = some v → P j v H') ∧ H' E = some (.lst ys), ⟨n, rfl, Nat.zero_le _, same_up hE (Same.refl H1), [], rfl, (fun j v e => by cases e), upd_same⟩, ?_⟩
  rintro k m H' ⟨rfl, hk, hs, ys, hy, hP, hl⟩
  by_cases hlt : k < n
  · refine Or.inr ⟨w.go k H' (hG H' hs) hlt, fun H'' => Same H1 H'' ∧ ∃ ys : List V, ys.length = k + 1 ∧ (∀ j v, ys[j]? = some v → P j v H'') ∧ H'' E = some (.lst ys), fun H'' h => ⟨n - (k + 1), by omega, rfl, hlt, h⟩, fun x H2 hx => ?_⟩
    obtain ⟨rfl, rfl⟩ := w.yld k H' x H2 (hG H' hs) hlt hx
    refine ⟨wipe1 σ i _, ?_⟩
    refine rd_yes ?_
    refine rd_ifb (fun _ => ?_) (fun z => nomatch z)
    refine he k hlt H2 _ hs hl _ fun v H3 s3 pv => ?_
    have toE : But E H2 (upd H3 E (.lst (ys ++ [v]))) := fun b o nb e => by
      rw [upd_ne nb]
      exact s3 b o e
    refine ⟨ys, s3 _ _ hl, Nat.lt_of_le_of_lt (by omega : ys.length ≤ 1000) (by decide), same_up hE (hs.trans s3), ys ++ [v], by rw [List.length_append, hy]; rfl, fun j u e => ?_, upd_same⟩
    rcases Nat.lt_or_ge j ys.length with q | q
    · rw [List.getElem?_append_left q] at e
      exact mono j u _ _ toE (hP j u e)
    · rw [List.getElem?_append_right q] at e
      have j0 : j - ys.length = 0 := by
        rcases Nat.eq_zero_or_pos (j - ys.length) with y | y
        · exact y
        · rw [List.getElem?_eq_none (by show 1 ≤ j - ys.length; exact y)] at e
          cases e
      rw [j0] at e
      obtain rfl := Option.some.inj e
      have jk : j = k := by omega
      subst jk
      exact mono _ _ _ _ (fun b o nb e => by rw [upd_ne nb]; exact e) pv
  · have e : k = n := by omega
    subst e
    exact Or.inl ⟨w.stop H' (hG H' hs), hd ys H' hs hy hP hl⟩
end
/-- a list of these ints stands at p; a list of such lists; a tuple of tuples of ints -/
def Li (H : Hp) (p : Addr) (ns : List Int) : Prop := H p = some (.lst (ns.map V.int))
def LL (H : Hp) (p : Addr) (M : List (List Int)) : Prop := ∃ rs : List Addr, H p = some (.lst (rs.map V.ref)) ∧ rs.length = M.length ∧ ∀ (i : Nat) (r : Addr) (row : List Int), rs[i]? = some r → M[i]? = some row → Li H r row
def TT (H : Hp) (p : Addr) (M : List (List Int)) : Prop := ∃ rs : List Addr, H p = some (.tup (rs.map V.ref)) ∧ rs.length = M.length ∧ ∀ (i : Nat) (r : Addr) (row : List Int), rs[i]? = some r → M[i]? = some row → H r = some (.tup (row.map V.int))
theorem TT.same {H H' : Hp} {p : Addr} {M : List (List Int)} (s : Same H H') (h : TT H p M) : TT H' p M := by
  obtain ⟨rs, h1, h2, h3⟩ := h
  exact ⟨rs, s _ _ h1, h2, fun i r row e1 e2 => s _ _ (h3 i r row e1 e2)⟩
theorem Li.same {H H' : Hp} {p : Addr} {ns : List Int} (s : Same H H') (h : Li H p ns) : Li H' p ns := s _ _ h
theorem LL.same {H H' : Hp} {p : Addr} {M : List (List Int)} (s : Same H H') (h : LL H p M) : LL H' p M := by
  obtain ⟨rs, h1, h2, h3⟩ := h
  exact ⟨rs, s _ _ h1, h2, fun i r row e1 e2 => s _ _ (h3 i r row e1 e2)⟩
theorem LL.but {H H' : Hp} {a p : Addr} {M : List (List Int)} (s : But a H H') (hp : p ≠ a) (hr : ∀ rs : List Addr, H p = some (.lst (rs.map V.ref)) → a ∉ rs) (h : LL H p M) : LL H' p M := by
  obtain ⟨rs, h1, h2, h3⟩ := h
  have na := hr rs h1
  exact ⟨rs, s _ _ hp h1, h2, fun i r row e1 e2 => s _ _ (fun z => na (z ▸ List.mem_of_getElem? e1)) (h3 i r row e1 e2)⟩
/-- all are refs: the list of their addresses -/
theorem refs_of {ys : List V} (h : ∀ (j : Nat) (v : V), ys[j]? = some v → ∃ a, v = V.ref a) : ∃ rs : List Addr, ys = rs.map V.ref := by
  induction ys with
  | nil => exact ⟨[], rfl⟩
  | cons y r ih =>
    obtain ⟨rs, rfl⟩ := ih fun j v e => h (j + 1) v (by rw [List.getElem?_cons_succ]; exact e)
    obtain ⟨a, rfl⟩ := h 0 y rfl
    exact ⟨a :: rs, rfl⟩
end Lay
namespace Lay
open PySem PySem.Spec PyProof.Rows L2
theorem rd_par {i j : Nat} {ta : TA} {D : Ends} {σ : L2.St} {H : Hp} (q : ta σ H fun vs H1 => ∃ v w, vs = [v, w] ∧ D.nx ((σ.set i (some v)).set j (some w)) H1) : tPar i j ta D σ H := q
end Lay
namespace Lay
open PySem PySem.Spec PyProof.Rows L2
theorem cut_head (xs : List V) (k : Nat) : cutV xs none (some (k : Int)) = xs.take k := by
  unfold cutV
  rw [HT.sIx_none, HT.sIx_nat, Nat.sub_zero, List.drop_zero]
  rcases Nat.le_total k xs.length with h | h
  · rw [Nat.min_eq_left h]
  · rw [Nat.min_eq_right h, List.take_length, List.take_of_length_le h]
theorem cut_tail (xs : List V) (k : Nat) : cutV xs (some (k : Int)) none = xs.drop k := by
  unfold cutV
  rw [HT.sIx_none, HT.sIx_nat]
  rcases Nat.le_total k xs.length with h | h
  · rw [Nat.min_eq_left h]
    exact List.take_of_length_le (by rw [List.length_drop]; omega)
  · rw [Nat.min_eq_right h, List.drop_length, List.drop_of_length_le h, List.take_nil]
theorem erase_cut {α : Type} (l : List α) (k : Nat) : l.take k ++ l.drop (k + 1) = l.eraseIdx k := (List.eraseIdx_eq_take_drop_succ ..).symm
/-- lists of lists of ints as data -/
def rowD (r : List Int) : PyData := .list (r.map PyData.int)
theorem dp_ints {K : PySem.W.Frag} {H : Hp} : ∀ r : List Int, DpAll K H (r.map V.int) (r.map PyData.int)
  | [] => .nil
  | x :: r => .cons (.int x) (dp_ints r)
theorem dp_rows {K : PySem.W.Frag} {H : Hp} : ∀ (rs : List Addr) (M : List (List Int)), rs.length = M.length → (∀ (i : Nat) (r : Addr) (row : List Int), rs[i]? = some r → M[i]? = some row → Li H r row) → DpAll K H (rs.map V.ref) (M.map rowD)
  | [], [], _, _ => .nil
  | r :: rs, row :: M, hl, h => .cons (.lst (SqL.of (h 0 r row rfl rfl)) (dp_ints row)) (dp_rows rs M (Nat.succ.inj hl) fun i a b e1 e2 => h (i + 1) a b (by rw [List.getElem?_cons_succ]; exact e1) (by rw [List.getElem?_cons_succ]; exact e2))
  | [], _ :: _, hl, _ => by cases hl
  | _ :: _, [], hl, _ => by cases hl
theorem ints_flat : ∀ r : List Int, PyData.canLayAll0 (r.map PyData.int) = true ∧ PyData.depthAll (r.map PyData.int) = 0
  | [] => ⟨rfl, rfl⟩
  | _ :: r => by
    obtain ⟨h1, h2⟩ := ints_flat r
    refine ⟨?_, ?_⟩
    · show (true && PyData.canLayAll0 (r.map PyData.int)) = true
      rw [h1]
      rfl
    · show max 0 (PyData.depthAll (r.map PyData.int)) = 0
      rw [h2]
      rfl
theorem rowD_ok (r : List Int) : (rowD r).canLay0 = true ∧ (rowD r).depth ≤ 1 := by
  obtain ⟨h1, h2⟩ := ints_flat r
  refine ⟨h1, ?_⟩
  show PyData.depthAll (r.map PyData.int) + 1 ≤ 1
  omega
theorem rows_shaped (M : List (List Int)) : SeqAt.shaped (.list (M.map rowD)) = true := shaped_listN (n := 1) (by decide) fun d hd => by
  obtain ⟨r, _, rfl⟩ := List.mem_map.mp hd
  exact rowD_ok r
theorem LL.dp {K : PySem.W.Frag} {H : Hp} {p : Addr} {M : List (List Int)} (h : LL H p M) : Dp K H (.ref p) (.list (M.map rowD)) := by
  obtain ⟨rs, h1, h2, h3⟩ := h
  exact .lst (SqL.of h1) (dp_rows rs M h2 h3)
end Lay
theorem Lay.erase_map {α β : Type} (f : α → β) : ∀ (l : List α) (k : Nat), (l.map f).eraseIdx k = (l.eraseIdx k).map f
  | [], _ => rfl
  | _ :: _, 0 => rfl
  | a :: l, k + 1 => by
    show f a :: (l.map f).eraseIdx k = f a :: (l.eraseIdx k).map f
    rw [Lay.erase_map f l k]
namespace Lay
open PySem PySem.Spec PyProof.Rows L2
section
variable {σ : L2.St} {H1 : Hp} {Q : VK} {K : PySem.W.Frag}
/-- [e for x, y in zip(xs, ys)], two lists of one length -/
theorem lc_zip {a b E : Addr} {xs ys : List V} {i1 i2 n : Nat} {te : TE} (hx : xs.length = n) (hy : ys.length = n) (hn : n ≤ 1000) (hE : H1 E = none) (ha : SqL K H1 a xs) (hb : SqL K H1 b ys)
    (hw : ∀ x y, wipe (((wipe σ [i1, i2]).set i1 (some x)).set i2 (some y)) [i1, i2] = wipe σ [i1, i2]) (f : Nat → V)
    (he : ∀ j, j < n → ∀ H', Same H1 H' → ∀ R : VK, R (f j) H' → te (((wipe σ [i1, i2]).set i1 (some (xs.getD j .non))).set i2 (some (ys.getD j .non))) H' R)
    (hd : ∀ H', Same H1 H' → H' E = some (.lst ((List.range n).map f)) → Q (.ref E) H') : LcAt (Itz K a b) (gTup K 2 (gCons (gName i1) (gCons (gName i2) gNil))) tYes te [i1, i2] σ E H1 Q := by
  have keep : ∀ {p : Addr} {zs : List V} {H' : Hp}, Same H1 H' → SqL K H1 p zs → SqL K H' p zs := fun s h => s.seq h
  have gx : ∀ i, i < n → xs[i]? = some (xs.getD i .non) := fun i h => by rw [List.getD_eq_getElem?_getD, List.getElem?_eq_getElem (by omega)]; rfl
  have gy : ∀ i, i < n → ys[i]? = some (ys.getD i .non) := fun i h => by rw [List.getD_eq_getElem?_getD, List.getElem?_eq_getElem (by omega)]; rfl
  refine lc_gen (n := n) (G := fun H' => SqL K H' a xs ∧ SqL K H' b ys) (fun j x H' => ∃ T, x = .ref T ∧ H' T = some (.tup [xs.getD j .non, ys.getD j .non]))
    (fun j σ2 H' => σ2 = ((wipe σ [i1, i2]).set i1 (some (xs.getD j .non))).set i2 (some (ys.getD j .non))) (fun H' h => ⟨_, _, h.1, h.2, Or.inl (by omega)⟩) (fun i H' h hi => ⟨_, _, _, _, h.1, h.2, gx i hi, gy i hi⟩)
    (fun i H' x H'' h hi y => ?_) hn hE (fun H' s => ⟨keep s ha, keep s hb⟩) (fun _ => true) f ?_ ?_ ?_ ?_
  · obtain ⟨T, x1, x2, rfl, hT, rfl, f1, f2⟩ := y
    have e1 := Option.some.inj ((f1 _ h.1).symm.trans (gx i hi))
    have e2 := Option.some.inj ((f2 _ h.2).symm.trans (gy i hi))
    subst e1 e2
    exact ⟨fun b o e => up_old hT e, T, rfl, upd_same⟩
  · rintro j x H' hj hs ⟨T, rfl, hT⟩ R kk
    exact ⟨T, _, rfl, SqT.of hT, rfl, _, _, rfl, _, _, rfl, rfl, kk _ (hw _ _) rfl⟩
  · rintro j σ2 H' hj hs hS R kk
    exact kk _ (Same.refl _)
  · rintro j σ2 H' H0 hj _ rfl hs hs0 R kk
    exact he j hj H' hs R (kk _ (Same.refl _))
  · intro H' hs hl2
    rw [filt_yes] at hl2
    exact hd H' hs hl2
end
end Lay
namespace Lay
open PySem PySem.Spec PyProof.Rows L2
theorem rd_zipL {K : PySem.W.Frag} {ta : TA} {σ : L2.St} {H : Hp} {R : It → Hp → Prop} (q : ta σ H (fun vs H1 => ∃ a b xs ys, vs = [.ref a, .ref b] ∧ SqL K H1 a xs ∧ SqL K H1 b ys ∧ R (Itz K a b) H1)) : iZip K ta σ H R := q
end Lay
namespace Lay
open PySem PySem.Spec PyProof.Rows L2
section
variable {σ : L2.St} {H H1 : Hp} {Q : VK} {K : PySem.W.Frag}
theorem wipe2 (σ : L2.St) (a b : Nat) (h : a ≠ b) (x : V) : wipe ((wipe σ [a, b]).set a (some x)) [a, b] = wipe σ [a, b] := by
  show ((((σ.set b none).set a none).set a (some x)).set b none).set a none = (σ.set b none).set a none
  rw [List.set_set, List.set_comm _ _ h, List.set_set, List.set_set]
theorem wipe_in (σ : L2.St) (a b : Nat) (h : a ≠ b) (x : V) : wipe ((wipe σ [a, b]).set a (some x)) [b] = (wipe σ [a, b]).set a (some x) := by
  show (((σ.set b none).set a none).set a (some x)).set b none = ((σ.set b none).set a none).set a (some x)
  rw [List.set_set, List.set_comm _ _ h, List.set_set]
/-- [f(x, y) for x in .. for y in ..], all of it leaving what stands -/
theorem lc2_same {wi wi1 : TI} {te : TE} {a b : Nat} (hab : a ≠ b) {n : Nat} (hn : n ≤ 30) (c : Nat → Nat) (hc : ∀ i, i < n → c i ≤ 30) (f : Nat → Nat → V) (item : Nat → V) (item1 : Nat → Nat → V) (G : Hp → Prop) (G1 : Nat → Hp → Prop)
    (hi : ∀ R : It → Hp → Prop, (∀ J H1, Same H H1 → Wk J n G item → R J H1) → wi σ H R)
    (hG : ∀ H', Same H H' → G H')
    (hG1 : ∀ i H', i < n → Same H H' → G1 i H')
    (hi1 : ∀ i, i < n → ∀ H', Same H H' → ∀ R : It → Hp → Prop, (∀ J H1, Same H' H1 → Wk J (c i) (G1 i) (item1 i) → R J H1) → wi1 ((wipe σ [a, b]).set a (some (item i))) H' R)
    (he : ∀ i j, i < n → j < c i → ∀ H', Same H H' → ∀ R : VK, (∀ H'', Same H' H'' → R (f i j) H'') → te (((wipe σ [a, b]).set a (some (item i))).set b (some (item1 i j))) H' R)
    (hd : ∀ H' D, Same H H' → H' D = some (.lst ((List.range n).flatMap fun i => (List.range (c i)).map (f i))) → Q (.ref D) H') :
    tLc2 wi (gName a) tYes wi1 (gName b) tYes te [a, b] [b] σ H Q := by
  have len : ∀ k, k ≤ n → ((List.range k).flatMap fun i => (List.range (c i)).map (f i)).length ≤ k * 30 := by
    intro k
    induction k with
    | zero => intro _; exact Nat.zero_le _
    | succ k ih =>
      intro hk
      rw [List.range_succ, List.flatMap_append, List.length_append]
      have h1 := ih (by omega)
      have h2 : ([k].flatMap fun i => (List.range (c i)).map (f i)).length ≤ 30 := by
        simp only [List.flatMap_cons, List.flatMap_nil, List.append_nil, List.length_map, List.length_range]
        exact hc k (by omega)
      omega
  refine hi _ fun J H1 s1 w => ?_
  intro E hE
  refine ⟨fun k m H' => m = n - k ∧ k ≤ n ∧ Same H1 H' ∧ H' E = some (.lst ((List.range k).flatMap fun i => (List.range (c i)).map (f i))), ⟨n, rfl, Nat.zero_le _, same_up hE (Same.refl H1), upd_same⟩, ?_⟩
  rintro k m H' ⟨rfl, hk, hs, hl⟩
  by_cases hlt : k < n
  · refine Or.inr ⟨w.go k H' (hG H' (s1.trans hs)) hlt, fun H'' => Same H1 H'' ∧ H'' E = some (.lst ((List.range (k + 1)).flatMap fun i => (List.range (c i)).map (f i))), fun H'' h => ⟨n - (k + 1), by omega, rfl, hlt, h.1, h.2⟩, fun x H2 hy => ?_⟩
    obtain ⟨rfl, rfl⟩ := w.yld k H' x H2 (hG H' (s1.trans hs)) hlt hy
    refine ⟨wipe2 σ a b hab _, ?_⟩
    refine rd_yes ?_
    refine rd_ifb (fun _ => ?_) (fun z => nomatch z)
    refine hi1 k hlt H2 (s1.trans hs) _ fun J1 H4 s4 w1 => ?_
    refine ⟨fun j q H' => q = c k - j ∧ j ≤ c k ∧ Same H1 H' ∧ H' E = some (.lst (((List.range k).flatMap fun i => (List.range (c i)).map (f i)) ++ (List.range j).map (f k))), ⟨c k, rfl, Nat.zero_le _, hs.trans s4, by rw [s4 _ _ hl]; exact congrArg (fun z => some (HO.lst z)) (List.append_nil _).symm⟩, ?_⟩
    rintro j q H5 ⟨rfl, hj, hs5, hl5⟩
    by_cases hlj : j < c k
    · refine Or.inr ⟨w1.go j H5 (hG1 k _ hlt (s1.trans hs5)) hlj, fun H'' => Same H1 H'' ∧ H'' E = some (.lst (((List.range k).flatMap fun i => (List.range (c i)).map (f i)) ++ (List.range (j + 1)).map (f k))), fun H'' h => ⟨c k - (j + 1), by omega, rfl, hlj, h.1, h.2⟩, fun x H6 hy => ?_⟩
      obtain ⟨rfl, rfl⟩ := w1.yld j H5 x H6 (hG1 k _ hlt (s1.trans hs5)) hlj hy
      rw [wipe_in σ a b hab]
      refine ⟨?_, ?_⟩
      · show ((((wipe σ [a, b]).set a (some (item k))).set b (some (item1 k j)))).set b none = _
        rw [List.set_set]
        exact (wipe_in σ a b hab _).trans rfl
      refine rd_yes ?_
      refine rd_ifb (fun _ => ?_) (fun z => nomatch z)
      refine he k j hlt hlj H6 (s1.trans hs5) _ fun H7 s7 => ?_
      refine ⟨_, s7 _ _ hl5, ?_, same_up hE (hs5.trans s7), ?_⟩
      · rw [List.length_append, List.length_map, List.length_range]
        have h1 := len k hk
        have h2 := hc k hlt
        exact Nat.lt_of_le_of_lt (by omega : _ ≤ 1000) (by decide)
      · rw [upd_same, List.range_succ, List.map_append, List.append_assoc]
        rfl
    · have e : j = c k := by omega
      subst e
      refine Or.inl ⟨w1.stop H5 (hG1 k _ hlt (s1.trans hs5)), hs5, ?_⟩
      rw [hl5, List.range_succ, List.flatMap_append]
      simp only [List.flatMap_cons, List.flatMap_nil, List.append_nil]
  · have e : k = n := by omega
    subst e
    exact Or.inl ⟨w.stop H' (hG H' (s1.trans hs)), hd H' E (s1.trans hs) hl⟩
end
end Lay
namespace Lay
open PySem PySem.Spec PyProof.Rows L2
theorem pi_listK {X : Cx} {tg l : Expr} {tl : TE} {K : PySem.W.Frag} (e : X.K = K) (hl : PE X l tl) : PI X tg l (iList K tl) := by
  subst e
  exact pi_list hl
end Lay
/-! LayO: lists of new lists, none of them told twice; writing into them. -/
namespace Lay
open PySem PySem.Spec PyProof.Rows L2
/-- a list of lists of numbers, none of them told twice; the list and they were not there in H0 -/
def LLf (H0 H : Hp) (p : Addr) (M : List (List Int)) : Prop := ∃ rs : List Addr, H p = some (.lst (rs.map V.ref)) ∧ rs.length = M.length ∧ rs.Nodup ∧ H0 p = none ∧ (∀ r ∈ rs, H0 r = none) ∧ ∀ (i : Nat) (r : Addr) (row : List Int), rs[i]? = some r → M[i]? = some row → Li H r row
theorem LLf.ll {H0 H : Hp} {p : Addr} {M : List (List Int)} (h : LLf H0 H p M) : LL H p M := by
  obtain ⟨rs, h1, h2, _, _, _, h3⟩ := h
  exact ⟨rs, h1, h2, h3⟩
theorem LLf.same {H0 H H' : Hp} {p : Addr} {M : List (List Int)} (s : Same H H') (h : LLf H0 H p M) : LLf H0 H' p M := by
  obtain ⟨rs, h1, h2, hn, f1, f2, h3⟩ := h
  exact ⟨rs, s _ _ h1, h2, hn, f1, f2, fun i r row e1 e2 => s _ _ (h3 i r row e1 e2)⟩
theorem LLf.but {H0 H H' : Hp} {a p : Addr} {M : List (List Int)} (ha : H0 a ≠ none) (s : But a H H') (h : LLf H0 H p M) : LLf H0 H' p M := by
  obtain ⟨rs, h1, h2, hn, f1, f2, h3⟩ := h
  exact ⟨rs, s _ _ (fun z => ha (z ▸ f1)) h1, h2, hn, f1, f2, fun i r row e1 e2 => s _ _ (fun z => ha (z ▸ f2 r (List.mem_of_getElem? e1))) (h3 i r row e1 e2)⟩
theorem BagAt.live {H : Hp} {a : Addr} (h : BagAt H a) : H a ≠ none := fun z => by
  obtain ⟨_, _, _, e, _⟩ := h
  rw [z] at e
  cases e
theorem BagAt.same {H H' : Hp} {a : Addr} (s : Same H H') (h : BagAt H a) : BagAt H' a := by
  obtain ⟨g, m, c, e, r⟩ := h
  exact ⟨g, m, c, s _ _ e, r⟩
theorem But.same {a : Addr} {H H' : Hp} (s : Same H H') : But a H H' := fun b o _ e => s b o e
theorem But.free {a b : Addr} {H H' : Hp} (s : But a H H') (nb : b ≠ a) (h : H' b = none) : H b = none := by
  cases e : H b with
  | none => rfl
  | some o =>
    rw [s b o nb e] at h
    cases h
/-- two lists of rows put together -/
theorem LL.join {H : Hp} {q : Addr} {us ts : List Addr} {A B : List (List Int)} (hu : us.length = A.length) (ht : ts.length = B.length) (ru : ∀ (i : Nat) (r : Addr) (row : List Int), us[i]? = some r → A[i]? = some row → Li H r row) (rt : ∀ (i : Nat) (r : Addr) (row : List Int), ts[i]? = some r → B[i]? = some row → Li H r row) (hq : H q = some (.lst (us.map V.ref ++ ts.map V.ref))) : LL H q (A ++ B) := by
  refine ⟨us ++ ts, by rw [List.map_append]; exact hq, by rw [List.length_append, List.length_append, hu, ht], fun i r row e1 e2 => ?_⟩
  rcases Nat.lt_or_ge i us.length with y | y
  · rw [List.getElem?_append_left y] at e1
    rw [List.getElem?_append_left (by omega)] at e2
    exact ru i r row e1 e2
  · rw [List.getElem?_append_right y] at e1
    rw [List.getElem?_append_right (by omega)] at e2
    exact rt _ r row e1 (by rw [hu]; exact e2)
/-- all lots of the numbers below n, as the law has them -/
def lotsI (n : Nat) : List (List Int) := (Alg.lots n).map fun l => l.map fun (j : Nat) => (j : Int)
theorem lotsI_succ (n : Nat) : lotsI (n + 1) = lotsI n ++ (lotsI n).map fun l => l ++ [(n : Int)] := by
  unfold lotsI
  show ((Alg.lots n ++ (Alg.lots n).map fun l => l ++ [n]).map _) = _
  rw [List.map_append, List.map_map, List.map_map]
  congr 1
  exact List.map_congr_left fun l _ => by
    show (l ++ [n]).map _ = l.map _ ++ [(n : Int)]
    rw [List.map_append]
    rfl
theorem lotsI_len (n : Nat) : (lotsI n).length = 2 ^ n := by
  unfold lotsI
  rw [List.length_map, Alg.lots_len]
section
variable {σ : L2.St} {H H1 : Hp} {Q : VK} {K : PySem.W.Frag}
/-- a comprehension whose items are new objects, each one another one -/
theorem lc_new {J : It} {n : Nat} {G : Hp → Prop} {item : Nat → V} (w : Wk J n G item) {i : Nat} {te : TE} {E : Addr} (hn : n ≤ 1000) (hE : H1 E = none) (hG : ∀ H', Same H1 H' → G H') (P : Nat → Addr → Hp → Prop) (mono : ∀ j t H H', (∀ o, H t = some o → H' t = some o) → P j t H → P j t H') (live : ∀ j t H, P j t H → H t ≠ none)
    (he : ∀ j, j < n → ∀ H' o, Same H1 H' → H' E = some o → ∀ R : VK, (∀ t H'', H' t = none → Same H' H'' → P j t H'' → R (.ref t) H'') → te ((wipe σ [i]).set i (some (item j))) H' R)
    (hd : ∀ (rs : List Addr) H', Same H1 H' → rs.length = n → rs.Nodup → (∀ (j : Nat) (t : Addr), rs[j]? = some t → P j t H') → (∀ t ∈ rs, H1 t = none) → E ∉ rs → H' E = some (.lst (rs.map V.ref)) → Q (.ref E) H') : LcAt J (gName i) tYes te [i] σ E H1 Q := by
  refine ⟨fun k m H' => m = n - k ∧ k ≤ n ∧ Same H1 H' ∧ ∃ rs : List Addr, rs.length = k ∧ rs.Nodup ∧ (∀ (j : Nat) (t : Addr), rs[j]? = some t → P j t H') ∧ (∀ t ∈ rs, H1 t = none) ∧ E ∉ rs ∧ H' E = some (.lst (rs.map V.ref)), ⟨n, rfl, Nat.zero_le _, same_up hE (Same.refl H1), [], rfl, List.nodup_nil, (fun j v e => by cases e), (fun _ z => nomatch z), (fun z => nomatch z), upd_same⟩, ?_⟩
  rintro k m H' ⟨rfl, hk, hs, rs, hy, hnd, hP, hfr, hEr, hl⟩
  by_cases hlt : k < n
  · refine Or.inr ⟨w.go k H' (hG H' hs) hlt, fun H'' => Same H1 H'' ∧ ∃ rs : List Addr, rs.length = k + 1 ∧ rs.Nodup ∧ (∀ (j : Nat) (t : Addr), rs[j]? = some t → P j t H'') ∧ (∀ t ∈ rs, H1 t = none) ∧ E ∉ rs ∧ H'' E = some (.lst (rs.map V.ref)), fun H'' h => ⟨n - (k + 1), by omega, rfl, hlt, h⟩, fun x H2 hx => ?_⟩
    obtain ⟨rfl, rfl⟩ := w.yld k H' x H2 (hG H' hs) hlt hx
    refine ⟨wipe1 σ i _, ?_⟩
    refine rd_yes ?_
    refine rd_ifb (fun _ => ?_) (fun z => nomatch z)
    refine he k hlt H2 _ hs hl _ fun t H3 ht s3 pt => ?_
    have nt : t ∉ rs := fun hm => by
      obtain ⟨j, hj⟩ := List.getElem?_of_mem hm
      exact live j t H2 (hP j t hj) ht
    have nE : t ≠ E := fun z => by
      rw [z, hl] at ht
      cases ht
    refine ⟨rs.map V.ref, s3 _ _ hl, Nat.lt_of_le_of_lt (by rw [List.length_map]; omega : _ ≤ 1000) (by decide), same_up hE (hs.trans s3), rs ++ [t], by rw [List.length_append, hy]; rfl, ?_, fun j u e => ?_, ?_, ?_, by rw [upd_same, List.map_append]; rfl⟩
    · rw [List.nodup_append]
      refine ⟨hnd, List.pairwise_singleton _ _, fun x hx y hy z => ?_⟩
      cases List.mem_singleton.mp hy
      exact nt (z ▸ hx)
    · rcases Nat.lt_or_ge j rs.length with q | q
      · rw [List.getElem?_append_left q] at e
        exact mono j u _ _ (fun o ho => up_oth (fun z => hEr (z ▸ List.mem_of_getElem? e)) (s3 _ _ ho)) (hP j u e)
      · rw [List.getElem?_append_right q] at e
        have j0 : j - rs.length = 0 := by
          rcases Nat.eq_zero_or_pos (j - rs.length) with y | y
          · exact y
          · rw [List.getElem?_eq_none (by show 1 ≤ j - rs.length; exact y)] at e
            cases e
        rw [j0] at e
        obtain rfl := Option.some.inj e
        have jk : j = k := by omega
        subst jk
        exact mono _ _ _ _ (fun o ho => up_oth nE ho) pt
    · intro x hx
      rcases List.mem_append.mp hx with z | z
      · exact hfr x z
      · cases List.mem_singleton.mp z
        exact hs.free ht
    · intro hx
      rcases List.mem_append.mp hx with z | z
      · exact hEr z
      · exact nE (List.mem_singleton.mp z).symm
  · have e : k = n := by omega
    subst e
    exact Or.inl ⟨w.stop H' (hG H' hs), hd rs H' hs hy hnd hP hfr hEr hl⟩
/-- the same over a range, where each item draws from a bag -/
theorem lc_newB {n i : Nat} {te : TE} {E a : Addr} (hn : n ≤ 1000) (hE : H1 E = none) (hb : BagAt H1 a) (P : Nat → Addr → Hp → Prop) (mono : ∀ j t H H', (∀ o, H t = some o → H' t = some o) → P j t H → P j t H') (live : ∀ j t H, P j t H → H t ≠ none)
    (he : ∀ j, j < n → ∀ H', But a H1 H' → BagAt H' a → ∀ R : VK, (∀ t H'', H' t = none → But a H' H'' → BagAt H'' a → P j t H'' → R (.ref t) H'') → te ((wipe σ [i]).set i (some (.int (0 + (j : Int))))) H' R)
    (hd : ∀ (rs : List Addr) H', rs.length = n → rs.Nodup → (∀ (j : Nat) (t : Addr), rs[j]? = some t → P j t H') → (∀ t ∈ rs, H1 t = none) → E ∉ rs → But a H1 H' → BagAt H' a → H' E = some (.lst (rs.map V.ref)) → Q (.ref E) H') : LcAt (Itr 0 n) (gName i) tYes te [i] σ E H1 Q := by
  have nE : E ≠ a := fun z => by
    obtain ⟨_, _, _, e, _⟩ := hb
    rw [← z, hE] at e
    cases e
  have la : H1 a ≠ none := fun z => by
    obtain ⟨_, _, _, e, _⟩ := hb
    rw [z] at e
    cases e
  refine ⟨fun k m H' => m = n - k ∧ k ≤ n ∧ ∃ rs : List Addr, rs.length = k ∧ rs.Nodup ∧ (∀ (j : Nat) (t : Addr), rs[j]? = some t → P j t H') ∧ (∀ t ∈ rs, H1 t = none) ∧ E ∉ rs ∧ But a H1 H' ∧ BagAt H' a ∧ H' E = some (.lst (rs.map V.ref)), ⟨n, rfl, Nat.zero_le _, [], rfl, List.nodup_nil, (fun j v e => by cases e), (fun _ z => nomatch z), (fun z => nomatch z), But.new hE, BagAt.old hE hb, upd_same⟩, ?_⟩
  rintro k m H' ⟨rfl, hk, rs, hy, hnd, hP, hfr, hEr, bu, hb', hl⟩
  by_cases hlt : k < n
  · refine Or.inr ⟨hlt, fun H'' => ∃ rs : List Addr, rs.length = k + 1 ∧ rs.Nodup ∧ (∀ (j : Nat) (t : Addr), rs[j]? = some t → P j t H'') ∧ (∀ t ∈ rs, H1 t = none) ∧ E ∉ rs ∧ But a H1 H'' ∧ BagAt H'' a ∧ H'' E = some (.lst (rs.map V.ref)), fun H'' h => ⟨n - (k + 1), by omega, rfl, hlt, h⟩, fun x H2 hx => ?_⟩
    obtain ⟨rfl, rfl⟩ := hx
    refine ⟨wipe1 σ i _, ?_⟩
    refine rd_yes ?_
    refine rd_ifb (fun _ => ?_) (fun z => nomatch z)
    refine he k hlt H2 bu hb' _ fun t H3 ht b3 g3 pt => ?_
    have nt : t ∉ rs := fun hm => by
      obtain ⟨j, hj⟩ := List.getElem?_of_mem hm
      exact live j t H2 (hP j t hj) ht
    have ntE : t ≠ E := fun z => by
      rw [z, hl] at ht
      cases ht
    have nta : t ≠ a := fun z => by
      obtain ⟨_, _, _, e, _⟩ := hb'
      rw [z, e] at ht
      cases ht
    have free : H1 t = none := by
      cases h : H1 t with
      | none => rfl
      | some o =>
        rw [bu t o nta h] at ht
        cases ht
    have na : ∀ u ∈ rs, u ≠ a := fun u hu z => la (z ▸ hfr u hu)
    refine ⟨rs.map V.ref, b3 _ _ nE hl, Nat.lt_of_le_of_lt (by rw [List.length_map]; omega : _ ≤ 1000) (by decide), rs ++ [t], by rw [List.length_append, hy]; rfl, ?_, fun j u e => ?_, ?_, ?_, ?_, ?_, by rw [upd_same, List.map_append]; rfl⟩
    · rw [List.nodup_append]
      refine ⟨hnd, List.pairwise_singleton _ _, fun x hx y hy z => ?_⟩
      cases List.mem_singleton.mp hy
      exact nt (z ▸ hx)
    · rcases Nat.lt_or_ge j rs.length with q | q
      · rw [List.getElem?_append_left q] at e
        have hm := List.mem_of_getElem? e
        exact mono j u _ _ (fun o ho => up_oth (fun z => hEr (z ▸ hm)) (b3 _ _ (na u hm) ho)) (hP j u e)
      · rw [List.getElem?_append_right q] at e
        have j0 : j - rs.length = 0 := by
          rcases Nat.eq_zero_or_pos (j - rs.length) with y | y
          · exact y
          · rw [List.getElem?_eq_none (by show 1 ≤ j - rs.length; exact y)] at e
            cases e
        rw [j0] at e
        obtain rfl := Option.some.inj e
        have jk : j = k := by omega
        subst jk
        exact mono _ _ _ _ (fun o ho => up_oth ntE ho) pt
    · intro x hx
      rcases List.mem_append.mp hx with z | z
      · exact hfr x z
      · cases List.mem_singleton.mp z
        exact free
    · intro hx
      rcases List.mem_append.mp hx with z | z
      · exact hEr z
      · exact ntE (List.mem_singleton.mp z).symm
    · intro b o nb e
      rw [upd_ne (ne_of_none e hE)]
      exact b3 b o nb (bu b o nb e)
    · obtain ⟨g, m, c, e, r⟩ := g3
      exact ⟨g, m, c, up_oth nE.symm e, r⟩
  · have e : k = n := by omega
    subst e
    exact Or.inl ⟨Nat.le_refl _, hd rs H' hy hnd hP hfr hEr bu hb' hl⟩
end
/-- the rows that were made -/
theorem LLf.of {H0 H : Hp} {E : Addr} {n : Nat} {rs : List Addr} (row : Nat → List Int) (hl : H E = some (.lst (rs.map V.ref))) (hn : rs.length = n) (nd : rs.Nodup) (f1 : H0 E = none) (f2 : ∀ r ∈ rs, H0 r = none) (hP : ∀ (j : Nat) (t : Addr), rs[j]? = some t → Li H t (row j)) : LLf H0 H E ((List.range n).map row) :=
  ⟨rs, hl, by rw [hn, List.length_map, List.length_range], nd, f1, f2, fun i r w e1 e2 => by
    have hi : i < n := by
      have := (List.getElem?_eq_some_iff.mp e1).1
      omega
    rw [List.getElem?_map, List.getElem?_range hi] at e2
    cases e2
    exact hP i r e1⟩
/-- a row of each -/
theorem rows_of {H : Hp} {n m : Nat} {rs : List Addr} (P : Int → Prop) (hn : rs.length = n) (hP : ∀ (j : Nat) (t : Addr), rs[j]? = some t → ∃ ns : List Int, Li H t ns ∧ ns.length = m ∧ ∀ x ∈ ns, P x) : ∃ S : List (List Int), S.length = n ∧ (∀ r ∈ S, r.length = m ∧ ∀ x ∈ r, P x) ∧ ∀ (i : Nat) (r : Addr) (row : List Int), rs[i]? = some r → S[i]? = some row → Li H r row := by
  induction rs generalizing n with
  | nil => exact ⟨[], hn, (fun _ z => nomatch z), fun i r row e => by cases e⟩
  | cons a rs ih =>
    obtain ⟨k, rfl⟩ : ∃ k, n = k + 1 := ⟨rs.length, hn.symm⟩
    obtain ⟨S, s1, s2, s3⟩ := ih (n := k) (Nat.succ.inj hn) fun j t e => hP (j + 1) t (by rw [List.getElem?_cons_succ]; exact e)
    obtain ⟨ns, l1, l2, l3⟩ := hP 0 a rfl
    refine ⟨ns :: S, by rw [List.length_cons, s1], fun r hr => ?_, fun i r row e1 e2 => ?_⟩
    · rcases List.mem_cons.mp hr with rfl | z
      · exact ⟨l2, l3⟩
      · exact s2 r z
    · cases i with
      | zero => cases e1; cases e2; exact l1
      | succ i => exact s3 i r row (by rw [List.getElem?_cons_succ] at e1; exact e1) (by rw [List.getElem?_cons_succ] at e2; exact e2)
/-- an entry is put in -/
def put (M : List (List Int)) (i j : Nat) (v : Int) : List (List Int) := M.set i ((M.getD i []).set j v)
theorem put_len (M : List (List Int)) (i j : Nat) (v : Int) : (put M i j v).length = M.length := List.length_set
theorem put_wide {n : Nat} {M : List (List Int)} {i j : Nat} {v : Int} (h : ∀ r ∈ M, r.length = n) (hi : i < M.length) : ∀ r ∈ put M i j v, r.length = n := fun r hr => by
  rcases List.mem_or_eq_of_mem_set hr with z | z
  · exact h r z
  · rw [z, List.length_set]
    refine h _ ?_
    rw [List.getD_eq_getElem?_getD, List.getElem?_eq_getElem hi]
    exact List.getElem_mem hi
theorem row_put {n : Nat} {M : List (List Int)} {i j : Nat} {v : Int} (h : ∀ r ∈ M, r.length = n) (hi : i < M.length) (hj : j < n) (a b : Nat) : ((put M i j v).getD a []).getD b 0 = if a = i ∧ b = j then v else (M.getD a []).getD b 0 := by
  have hw : (M.getD i []).length = n := by
    refine h _ ?_
    rw [List.getD_eq_getElem?_getD, List.getElem?_eq_getElem hi]
    exact List.getElem_mem hi
  unfold put
  by_cases e : a = i
  · subst e
    rw [List.getD_eq_getElem?_getD (l := M.set a _), List.getElem?_set_self hi, Option.getD_some]
    by_cases f : b = j
    · subst f
      rw [if_pos ⟨rfl, rfl⟩, List.getD_eq_getElem?_getD, List.getElem?_set_self (by omega)]
      rfl
    · rw [if_neg (fun z => f z.2), List.getD_eq_getElem?_getD, List.getElem?_set_ne (fun z => f z.symm), ← List.getD_eq_getElem?_getD]
  · rw [if_neg (fun z => e z.1), List.getD_eq_getElem?_getD (l := M.set i _), List.getElem?_set_ne (fun z => e z.symm), ← List.getD_eq_getElem?_getD]
theorem LLf.put {H0 H : Hp} {p : Addr} {M : List (List Int)} {i j : Nat} {v : Int} (h : LLf H0 H p M) (hi : i < M.length) (hj : j < (M.getD i []).length) : ∃ (rs : List Addr) (r : Addr), H p = some (.lst (rs.map V.ref)) ∧ rs[i]? = some r ∧ H r = some (.lst ((M.getD i []).map V.int)) ∧ r ≠ p ∧ H0 r = none ∧ LLf H0 (upd H r (.lst (((M.getD i []).set j v).map V.int))) p (Lay.put M i j v) := by
  obtain ⟨rs, h1, h2, hn, g1, g2, h3⟩ := h
  have il : i < rs.length := by omega
  have e1 : rs[i]? = some rs[i] := List.getElem?_eq_getElem il
  have e2 : M[i]? = some (M.getD i []) := by rw [List.getD_eq_getElem?_getD, List.getElem?_eq_getElem hi]; rfl
  have e3 := h3 i _ _ e1 e2
  have np : rs[i] ≠ p := fun z => by
    have e4 : H p = some (.lst ((M.getD i []).map V.int)) := z ▸ e3
    rw [h1] at e4
    injection e4 with e4
    injection e4 with e4
    cases hc : M.getD i [] with
    | nil => rw [hc] at hj; cases hj
    | cons x y =>
      rw [hc] at e4
      cases hr : rs with
      | nil => rw [hr] at e4; cases e4
      | cons u w => rw [hr] at e4; cases e4
  refine ⟨rs, rs[i], h1, e1, e3, np, g2 _ (List.getElem_mem il), rs, up_oth (Ne.symm np) h1, by rw [put_len]; exact h2, hn, g1, g2, fun a r w f1 f2 => ?_⟩
  by_cases e : i = a
  · subst e
    rw [e1] at f1
    cases f1
    unfold Lay.put at f2
    rw [List.getElem?_set_self hi] at f2
    cases f2
    exact upd_same
  · unfold Lay.put at f2
    rw [List.getElem?_set_ne e] at f2
    have ne : r ≠ rs[i] := fun z => by
      have l1 := (List.getElem?_eq_some_iff.mp f1)
      obtain ⟨l1, l2⟩ := l1
      exact e ((List.getElem_inj hn).mp ((l2.trans z).symm))
    exact up_oth ne (h3 a r w f1 f2)
end Lay
namespace Lay
open PySem PySem.Spec PyProof.Rows L2
theorem dp_ones {K : PySem.W.Frag} {H : Hp} : ∀ l : List Nat, DpAll K H (l.map fun _ => V.int 1) (l.map fun _ => PyData.int 1)
  | [] => .nil
  | _ :: r => .cons (.int 1) (dp_ones r)
theorem ones_shaped (l : List Nat) : SeqAt.shaped (.list (l.map fun _ => PyData.int 1)) = true := shaped_listN (n := 0) (by decide) fun d hd => by
  obtain ⟨r, _, rfl⟩ := List.mem_map.mp hd
  exact ⟨rfl, Nat.le_refl _⟩
end Lay
namespace Lay
open PySem PySem.Spec PyProof.Rows L2
theorem eqvAll_dec : ∀ r s : List Int, PyData.eqvAll (r.map PyData.int) (s.map PyData.int) = decide (r = s)
  | [], [] => by simp only [List.map_nil, PyData.eqvAll]; rfl
  | [], y :: s => by simp only [List.map_nil, List.map_cons, PyData.eqvAll]; exact (decide_eq_false (fun z => nomatch z)).symm
  | x :: r, [] => by simp only [List.map_nil, List.map_cons, PyData.eqvAll]; exact (decide_eq_false (fun z => nomatch z)).symm
  | x :: r, y :: s => by
    simp only [List.map_cons, PyData.eqvAll, PyData.eqv, eqvAll_dec r s]
    by_cases h1 : x = y
    · by_cases h2 : r = s
      · rw [h1, h2]
        simp
      · rw [decide_eq_false h2, Bool.and_false, decide_eq_false (fun z => h2 (List.cons.inj z).2)]
    · have e : (x == y) = false := beq_eq_false_iff_ne.mpr h1
      rw [decide_eq_false (fun z => h1 (List.cons.inj z).1)]
      simp [h1]
theorem eqv_rowD (r s : List Int) : PyData.eqv (rowD r) (rowD s) = decide (r = s) := by
  unfold rowD
  simp only [PyData.eqv]
  exact eqvAll_dec r s
theorem rowD_shaped (r : List Int) : SeqAt.shaped (rowD r) = true := shaped_listN (n := 0) (by decide) fun d hd => by
  obtain ⟨x, _, rfl⟩ := List.mem_map.mp hd
  exact ⟨rfl, Nat.le_refl _⟩
theorem Li.dp {K : PySem.W.Frag} {H : Hp} {p : Addr} {r : List Int} (h : Li H p r) : Dp K H (.ref p) (rowD r) := .lst (SqL.of h) (dp_ints r)
theorem rep_zeros (n : Nat) : (List.replicate n [V.int 0]).flatten = (List.replicate n (0 : Int)).map V.int := by
  rw [List.map_replicate]
  induction n with
  | zero => rfl
  | succ n ih =>
    rw [List.replicate_succ, List.flatten_cons, ih]
    rfl
end Lay
/-! LayP: x, *ys = a list or a tuple. -/
namespace Lay
open PySem PySem.Spec PySem.Calls PySem.W PyProof.Rows L2
section
variable {P : Program} {w : World} {A : Around} {E : Value → Shared → Prop} {s : Shared}
theorem star_end {Q : List Value → Shared → Prop} {x : Value} {r : List Value} {h2 : Heap} {tk : Nat} (hr : r.length ≤ sizeLine)
    (q : Q [x, .ref h2.objs.size] { s with heap := h2.push { cls := .type "list", data := .seq r.toArray }, toks := tk }) :
    wpAny (model P w) A (newList (r.take (r.length - 0)) >>= fun d => pure ([x] ++ [d] ++ r.drop (r.length - 0))) Q E { s with heap := h2, toks := tk } := by
  have e1 : r.take (r.length - 0) = r := List.take_of_length_le (by omega)
  have e2 : r.drop (r.length - 0) = [] := List.drop_of_length_le (by omega)
  rw [e1, e2]
  exact wpAny_bind (PySem.wpAny_newList (wpAny_pure q))
theorem star_list {l : Addr} {x : Value} {r : List Value} {Q : List Value → Shared → Prop} (hl : s.heap.IsList l (x :: r).toArray) (hh : A.handled = none) (hz : (x :: r).length ≤ sizeLine)
    (q : ∀ (h2 : Heap) (tk : Nat), (∀ b o, s.heap.get? b = some o → h2.get? b = some o) → Q [x, .ref h2.objs.size] { s with heap := h2.push { cls := .type "list", data := .seq r.toArray }, toks := tk }) :
    wpAny (model P w) A (unpackItems (.ref l) 2 (some 1)) Q E s := by
  have hll : l < s.heap.objs.size := by
    obtain ⟨o, ho, _⟩ := hl
    exact Heap.lt_size ho
  have sz : (x :: r).toArray.size = r.length + 1 := rfl
  unfold unpackItems notIterableAtAll
  refine wpAny_bind (wpAny_bind (wpAny_specialOf hl.typeIs slot_list_iter.lookup (wpAny_pure ?_)))
  rw [if_neg (by decide)]
  refine wpAny_bind (wpAny_holding (wpAny_pyIter_list hl ?_))
  refine wpAny_bind (wpAny_holding (kun_draw (Nat.ne_of_lt hll) 1 0 _ _ ⟨_, Heap.get?_push_size _ rfl, rfl, rfl⟩ (hl.push _) (by rw [sz]; omega) fun h1 hit hsb => ?_))
  have hl1 : h1.IsList l (x :: r).toArray := (hl.push _).extBut hsb.extBut (Nat.ne_of_lt hll)
  obtain ⟨oi, hoi, hoj⟩ := id hit
  obtain ⟨ol, hol, _⟩ := id hl1
  show wpAny _ _ (if ([x] : List Value).length < 1 then _ else _) _ _ _
  rw [if_neg (show ¬ ([x] : List Value).length < 1 from Nat.lt_irrefl 1)]
  refine wpAny_bind (wpAny_holding (kun_collect (s := { s with heap := h1 }) (T := "list_iterator") (Or.inr (Or.inr (Or.inl rfl))) (Walks.list (A := A.in1) hh s.heap.objs.size l (Nat.ne_of_lt hll) (x :: r).toArray) (fun j u st => st.1.typeIs) (k := 1) (by rw [sz]; omega) ⟨hit, hl1⟩ (Heap.lt_size hoi) (Heap.lt_size hol) (fun h2 tk hk => ?_) (by rw [sz]; exact hz)))
  show wpAny _ _ (if r.length < 0 then _ else _) _ _ _
  rw [if_neg (by omega)]
  refine star_end (Nat.le_of_succ_le hz) (q h2 tk (fun b o e => hk b o (Nat.ne_of_lt (Heap.lt_size e)) (hsb.extBut b o (Nat.ne_of_lt (Heap.lt_size e)) (Heap.get?_push_of_some _ e))))
theorem star_tup {l : Addr} {x : Value} {r : List Value} {Q : List Value → Shared → Prop} (hl : IsTup s.heap l (x :: r).toArray) (hh : A.handled = none) (hz : (x :: r).length ≤ sizeLine)
    (q : ∀ (h2 : Heap) (tk : Nat), (∀ b o, s.heap.get? b = some o → h2.get? b = some o) → Q [x, .ref h2.objs.size] { s with heap := h2.push { cls := .type "list", data := .seq r.toArray }, toks := tk }) :
    wpAny (model P w) A (unpackItems (.ref l) 2 (some 1)) Q E s := by
  have hll : l < s.heap.objs.size := by
    obtain ⟨o, ho, _⟩ := hl
    exact Heap.lt_size ho
  have sz : (x :: r).toArray.size = r.length + 1 := rfl
  unfold unpackItems notIterableAtAll
  refine wpAny_bind (wpAny_bind (wpAny_specialOf hl.typeIs slot_tuple_iter.lookup (wpAny_pure ?_)))
  rw [if_neg (by decide)]
  refine wpAny_bind (wpAny_holding (iter_tuple hl ?_))
  refine wpAny_bind (wpAny_holding (draw_tuple (Nat.ne_of_lt hll) 1 0 _ _ ⟨_, Heap.get?_push_size _ rfl, rfl, rfl⟩ (hl.push _) (by rw [sz]; omega) fun h1 hit hsb => ?_))
  have hl1 : IsTup h1 l (x :: r).toArray := (hl.push _).extBut hsb.extBut (Nat.ne_of_lt hll)
  obtain ⟨oi, hoi, hoj⟩ := id hit
  obtain ⟨ol, hol, _⟩ := id hl1
  show wpAny _ _ (if ([x] : List Value).length < 1 then _ else _) _ _ _
  rw [if_neg (show ¬ ([x] : List Value).length < 1 from Nat.lt_irrefl 1)]
  refine wpAny_bind (wpAny_holding (kun_collect (s := { s with heap := h1 }) (T := "tuple_iterator") (Or.inr (Or.inr (Or.inr rfl))) (Walks.tuple (A := A.in1) hh s.heap.objs.size l (Nat.ne_of_lt hll) (x :: r).toArray) (fun j u st => st.1.typeIs) (k := 1) (by rw [sz]; omega) ⟨hit, hl1⟩ (Heap.lt_size hoi) (Heap.lt_size hol) (fun h2 tk hk => ?_) (by rw [sz]; exact hz)))
  show wpAny _ _ (if r.length < 0 then _ else _) _ _ _
  rw [if_neg (by omega)]
  refine star_end (Nat.le_of_succ_le hz) (q h2 tk (fun b o e => hk b o (Nat.ne_of_lt (Heap.lt_size e)) (hsb.extBut b o (Nat.ne_of_lt (Heap.lt_size e)) (Heap.get?_push_of_some _ e))))
end
/-- x, *ys = .. -/
def gStar (K : PySem.W.Frag) (t : TGs) : TG := fun v σ H Q => ∃ a x xs, v = .ref a ∧ (SqL K H a (x :: xs) ∨ SqT K H a (x :: xs)) ∧ ∀ D, H D = none → t [x, .ref D] σ (upd H D (.lst xs)) Q
theorem pg_star {X : Cx} {e1 e2 : Expr} {k : Nat} {p pos : Pos} {t : TGs} (hc : X.calm = true) (h : PGs X [e1, e2] t) (hn : (assignEach [e1, .Starred e2 p] X.env).length = 2 := by rfl) (hst : (assignEach [e1, .Starred e2 p] X.env).findIdx? (·.1) = some 1 := by rfl)
    (hm : (assignEach [e1, .Starred e2 p] X.env).map (·.2) = (assignEach [e1, e2] X.env).map (·.2) := by rfl) : PG X (.Tuple [e1, .Starred e2 p] k pos) (gStar X.K t) := by
  refine ⟨fun pins s σ H v u Q I r hw => ?_⟩
  obtain ⟨a, x, xs, rfl, hq, hw⟩ := hw
  cases r
  rw [PyProof.Rows.assign_Tuple]
  refine wpAny_bind (wpAny_standAt ?_)
  unfold unpack
  rw [hn, hst, hm]
  refine wpAny_bind (wpAny_holding ?_)
  rcases hq with hq | hq
  · obtain ⟨its, rv, pl, hz⟩ := I.list hq
    obtain ⟨u0, us, rfl⟩ : ∃ u0 us, its = u0 :: us := by
      cases rv
      exact ⟨_, _, rfl⟩
    have hl' : s.heap.IsList a (u0 :: us).toArray := by
      obtain ⟨o, m, e, c, d, q⟩ := pl
      exact ⟨o, e, c, m, q⟩
    refine star_list hl' (I.ok.hd hc) (by rw [← rv.length]; exact hz) fun h2 tk hk => ?_
    cases rv with
    | cons r1 r2 =>
      have I1 : Inv X pins σ H { s with heap := h2 } := I.kept (t' := s.toks) hk
      have hl2 : us.length ≤ sizeLine := by
        rw [← r2.length]
        exact Nat.le_of_succ_le hz
      exact h.run pins _ σ _ [x, .ref h2.objs.size] _ Q (I1.lnew (t' := tk) r2 (Nat.le_of_succ_le hz)) (.cons r1 (.cons rfl .nil)) (hw _ I1.fresh)
  · obtain ⟨its, rv, pl, hz⟩ := I.tuple hq
    obtain ⟨u0, us, rfl⟩ : ∃ u0 us, its = u0 :: us := by
      cases rv
      exact ⟨_, _, rfl⟩
    refine star_tup pl (I.ok.hd hc) (by rw [← rv.length]; exact hz) fun h2 tk hk => ?_
    cases rv with
    | cons r1 r2 =>
      have I1 : Inv X pins σ H { s with heap := h2 } := I.kept (t' := s.toks) hk
      exact h.run pins _ σ _ [x, .ref h2.objs.size] _ Q (I1.lnew (t' := tk) r2 (Nat.le_of_succ_le hz)) (.cons r1 (.cons rfl .nil)) (hw _ I1.fresh)
end Lay
/-! LayQ: zip of two of which each is a list or a tuple; slices of either. -/
namespace Lay
open PySem PySem.Spec PySem.Calls PyProof.Rows L2
/-- a list (true) or a tuple (false) -/
def Kq (K : PySem.W.Frag) (H : Hp) : Bool → Addr → List V → Prop
  | true, a, xs => SqL K H a xs
  | false, a, xs => SqT K H a xs
def seqAt : Bool → Heap → Addr → Array Value → Prop
  | true, h, a, its => h.IsList a its
  | false, h, a, its => h.IsTuple a its
def itAt : Bool → Heap → Addr → Addr → Nat → Prop
  | true, h, it, a, n => h.IsListIter it a n
  | false, h, it, a, n => h.IsTupleIter it a n
def itOb : Bool → Addr → Obj
  | true, a => { cls := .type "list_iterator", data := .fields #[.ref a, .int 0 0] }
  | false, a => { cls := .type "tuple_iterator", data := .fields #[.ref a, .int 0 0] }
section
variable {X : Cx} {pins : List (Addr × Obj)} {σ : L2.St} {H : Hp} {s : Shared} {a : Addr} {xs ys : List V}
theorem kd_of (I : Inv X pins σ H s) : ∀ {k : Bool}, Kq X.K H k a xs → ∃ its : List Value, Vals xs its ∧ seqAt k s.heap a its.toArray ∧ a < s.heap.objs.size
  | true, h => by
    obtain ⟨its, rv, pl, _⟩ := I.list h
    exact ⟨its, rv, pl.isList, pl.lt⟩
  | false, h => by
    obtain ⟨its, rv, pl, _⟩ := I.tuple h
    obtain ⟨o, ho, _⟩ := id pl
    exact ⟨its, rv, pl, Heap.lt_size ho⟩
theorem kd_inj (I : Inv X pins σ H s) : ∀ {k : Bool}, Kq X.K H k a xs → Kq X.K H k a ys → xs = ys
  | true, h, g => I.list_inj h g
  | false, h, g => I.tuple_inj h g
theorem kd_draws {P : Program} {w : World} {A : Around} (hh : A.handled = none) (it b : Addr) (hne : b ≠ it) (its : Array Value) : ∀ k : Bool, Draws P w A it [it, b] its.size (fun n v => its[n]? = some v) (fun n h => itAt k h it b n ∧ seqAt k h b its)
  | true => Draws.list hh it b hne its
  | false => Draws.tuple hh it b hne its
theorem kd_begins (b : Addr) (its : Array Value) : ∀ k : Bool, Begins (.ref b) (itOb k b) (fun h => seqAt k h b its)
  | true => begins_list b its
  | false => begins_tuple b its
theorem itAt_keep {h h' : Heap} {it b : Addr} {n : Nat} (st : ∀ o, h.get? it = some o → h'.get? it = some o) : ∀ {k : Bool}, itAt k h it b n → itAt k h' it b n
  | true, x => x.at st
  | false, x => x.at st
theorem itAt_ob {h : Heap} {it b : Addr} {n : Nat} : ∀ {k : Bool}, itAt k h it b n → ∃ o, h.get? it = some o ∧ ∀ v, o.data ≠ .cell v
  | true, ⟨o, e, _, d⟩ => ⟨o, e, fun v q => by rw [d] at q; cases q⟩
  | false, ⟨o, e, _, d⟩ => ⟨o, e, fun v q => by rw [d] at q; cases q⟩
theorem itAt_new {h : Heap} {it b : Addr} : ∀ {k : Bool}, h.get? it = some (itOb k b) → itAt k h it b 0
  | true, e => ⟨_, e, rfl, rfl⟩
  | false, e => ⟨_, e, rfl, rfl⟩
end
/-- what stands at a beside what stands at b, in new pairs -/
def Itm (K : PySem.W.Frag) (k1 k2 : Bool) (a b : Addr) : It :=
  ⟨fun n H => ∃ xs ys x y, (Kq K H k1 a xs ∧ Kq K H k2 b ys) ∧ xs[n]? = some x ∧ ys[n]? = some y,
    fun n H v H' => ∃ T x y, (v = .ref T ∧ H T = none ∧ H' = upd H T (.tup [x, y])) ∧ (∀ xs, Kq K H k1 a xs → xs[n]? = some x) ∧ ∀ ys, Kq K H k2 b ys → ys[n]? = some y,
    fun n H => ∃ xs ys, (Kq K H k1 a xs ∧ Kq K H k2 b ys) ∧ n ≤ xs.length ∧ n ≤ ys.length ∧ (n = xs.length ∨ n = ys.length)⟩
theorem five {z t1 t2 j1 j2 c : Addr} (h : c ∈ [z, t1, t2, j1, j2]) : c = z ∨ c = t1 ∨ c = t2 ∨ c = j1 ∨ c = j2 := by simpa using h
theorem turn_m {P : Program} {w : World} {K : PySem.W.Frag} {elts : List Expr} {kk : Nat} {tp : Pos} {k1 k2 : Bool} {a b z t1 t2 j1 j2 : Addr} (S : ZipSep2 z t1 t2 j1 j2 [j1, a] [j2, b]) (na : a ≠ j1) (nb : b ≠ j2) :
    Turn P w K (.Tuple elts kk tp) (Itm K k1 k2 a b) [z, t1, t2, j1, j2] z (fun n h => (IsZip h z t1 t2 .none ∧ IsTupOf2 h t1 (.ref j1) (.ref j2) ∧ ∃ u v, IsTupOf2 h t2 u v) ∧ itAt k1 h j1 a n ∧ itAt k2 h j2 b n) where
  mem := List.mem_cons_self
  obj := fun n h ⟨⟨q1, q2, u, v, q3⟩, q4, q5⟩ c hc => by
    rcases five hc with rfl | rfl | rfl | rfl | rfl
    · exact ⟨_, q1, fun _ y => nomatch y⟩
    · exact ⟨_, q2, fun _ y => nomatch y⟩
    · exact ⟨_, q3, fun _ y => nomatch y⟩
    · exact itAt_ob q4
    · exact itAt_ob q5
  keep := fun n h h' ⟨⟨q1, q2, u, v, q3⟩, q4, q5⟩ st =>
    ⟨⟨st z (by simp) _ q1, st t1 (by simp) _ q2, u, v, st t2 (by simp) _ q3⟩, itAt_keep (st j1 (by simp)) q4, itAt_keep (st j2 (by simp)) q5⟩
  item := by
    intro X eP ew eK hc n pins s σ H E I fp ⟨⟨q1, q2, u0, v0, q3⟩, q4, q5⟩ hgo
    subst eP ew eK
    obtain ⟨xs, ys, x, y, ⟨ka, kb⟩, gx, gy⟩ := hgo
    obtain ⟨its, rv, sa, la⟩ := kd_of I ka
    obtain ⟨jts, rw2, sb, lb⟩ := kd_of I kb
    obtain ⟨u, gu, ru⟩ := rv.get gx
    obtain ⟨v, gv, rv2⟩ := rw2.get gy
    have hd := I.ok.hd hc
    have zl : z < s.heap.objs.size := Heap.lt_size q1
    have e1 : its.toArray[n]? = some u := by simpa using gu
    have e2 : jts.toArray[n]? = some v := by simpa using gv
    have n1 : n < its.toArray.size := (Array.getElem?_eq_some_iff.mp e1).1
    have n2 : n < jts.toArray.size := (Array.getElem?_eq_some_iff.mp e2).1
    refine wpAny_pyNext_zipD2_item S (kd_draws (A := X.A.in1) hd j1 a na its.toArray k1) (kd_draws (A := X.A.in1) hd j2 b nb jts.toArray k2) q1 q2 q3 ⟨q4, sa⟩ ⟨q5, sb⟩ n1 n2 fun x1 x2 h1 tk p1 p2 z1 z2 d1 d2 hT hz st => ?_
    obtain rfl : u = x1 := Option.some.inj (e1.symm.trans p1)
    obtain rfl : v = x2 := Option.some.inj (e2.symm.trans p2)
    refine ⟨_, rfl, wpAny_letOwnedTupleGo_zip (s := { s with heap := h1, toks := tk }) z1 fun h2 z3 sb2 => ?_⟩
    have zT : s.heap.objs.size ≠ z := Nat.ne_of_gt zl
    have all : ∀ c o, c ∉ [z, t1, t2, j1, j2] → s.heap.get? c = some o → h2.get? c = some o := fun c o hn g => by
      have m := fun y (hy : y ∈ [z, t1, t2, j1, j2]) (e : c = y) => hn (e ▸ hy)
      exact (sb2.2 c (m z (by simp))).trans (st c o (m z (by simp)) (m t2 (by simp)) (m j1 (by simp)) (m j2 (by simp)) g)
    have hob : ObjOk X.prog X.w (upd H s.heap.objs.size (.tup [x, y])) h2 s.heap.objs.size (.tup [x, y]) :=
      ⟨(by decide : 2 ≤ sizeLine), [u, v], .cons ru (.cons rv2 .nil), _, (sb2.2 _ zT).trans hT, rfl, _, rfl⟩
    have J := I.turnedNew (t' := tk) (ch := [z, t1, t2, j1, j2]) all fp (Nat.le_refl s.heap.objs.size) hob
    refine ⟨.ref s.heap.objs.size, _, J, rfl, ⟨s.heap.objs.size, x, y, ⟨rfl, I.hok.fresh (Nat.le_refl _), rfl⟩, fun l g => kd_inj I ka g ▸ gx, fun l g => kd_inj I kb g ▸ gy⟩, ⟨⟨z3, ?_, u, v, ?_⟩, ?_, ?_⟩, fun c hm => ?_⟩
    · exact (sb2.2 _ S.TIz).trans (st t1 _ S.TIz S.TITO S.TIi1 S.TIi2 q2)
    · exact (sb2.2 _ S.TOz).trans z2
    · exact itAt_keep (fun o g => (sb2.2 _ (Ne.symm S.zi1)).trans g) d1.1
    · exact itAt_keep (fun o g => (sb2.2 _ (Ne.symm S.zi2)).trans g) d2.1
    · have lt : c < s.heap.objs.size := by
        rcases five hm with rfl | rfl | rfl | rfl | rfl
        · exact zl
        · exact Heap.lt_size q2
        · exact Heap.lt_size q3
        · obtain ⟨o, g, _⟩ := itAt_ob q4
          exact Heap.lt_size g
        · obtain ⟨o, g, _⟩ := itAt_ob q5
          exact Heap.lt_size g
      rw [upd_ne (Nat.ne_of_lt lt)]
      exact (fp c hm).1
  done := by
    intro X eP ew eK hc n pins s σ H E I fp ⟨⟨q1, q2, u0, v0, q3⟩, q4, q5⟩ hst
    subst eP ew eK
    obtain ⟨xs, ys, ⟨ka, kb⟩, l1, l2, l3⟩ := hst
    obtain ⟨its, rv, sa, la⟩ := kd_of I ka
    obtain ⟨jts, rw2, sb, lb⟩ := kd_of I kb
    have hd := I.ok.hd hc
    have z1 : its.toArray.size = xs.length := rv.length.symm
    have z2 : jts.toArray.size = ys.length := rw2.length.symm
    refine wpAny_pyNext_zipD2_end S (kd_draws (A := X.A.in1) hd j1 a na its.toArray k1) (kd_draws (A := X.A.in1) hd j2 b nb jts.toArray k2) q1 q2 q3 ⟨q4, sa⟩ ⟨q5, sb⟩ (by omega) (by omega) (by omega) fun h1 tk st => ⟨rfl, ?_⟩
    exact I.turnedL (t' := tk) (ch := [z, t1, t2, j1, j2]) (fun c o hn g => by
      have m := fun y (hy : y ∈ [z, t1, t2, j1, j2]) (e : c = y) => hn (e ▸ hy)
      exact st c o (m z (by simp)) (m t2 (by simp)) (m j1 (by simp)) (m j2 (by simp)) g) fp
  self := fun A n s Q E st hq => wpAny_pyIter_zip st.1.1 hq
/-- zip of two, each a list or a tuple -/
def iZipM (K : PySem.W.Frag) (ta : TA) : TI := fun σ H R => ta σ H fun vs H1 => ∃ k1 k2 a b xs ys, vs = [.ref a, .ref b] ∧ (Kq K H1 k1 a xs ∧ Kq K H1 k2 b ys) ∧ R (Itm K k1 k2 a b) H1
theorem pi_zipM {X : Cx} {e e2 : Expr} {ta : TA} {p pos tp : Pos} {elts : List Expr} {kk : Nat} (hg : Gl X "zip") (hm : X.mg "zip" = none) (ha : PA X [e, e2] ta)
    (hs : starEach [e, e2] X.env = (false, eval e X.env) :: starEach [e2] X.env := by rfl) (hpl : (backTo pos (starEach [e2] X.env)).any (·.1) = false := by rfl) :
    PI X (.Tuple elts kk tp) (.Call (.Name "zip" p) [e, e2] [] pos) (iZipM X.K ta) := by
  refine ⟨fun pins s σ H R I hw => Call_ (ld_blt I hg hm PyProof.Rows.boot_zip (PyProof.Rows.callWith_type1 (thn (ha.run pos pins s σ H _ I hw) fun us s1 ⟨vs, H1, I1, r1, k1, k2, a, b, xs, ys, ev, ⟨ka, kb⟩, q⟩ => ?_) hs hpl))⟩
  subst ev
  obtain ⟨u, us1, rfl, ru, rr⟩ : ∃ u us1, us = u :: us1 ∧ RelV (.ref a) u ∧ Vals [V.ref b] us1 := by
    cases r1 with
    | cons g1 g2 => exact ⟨_, _, rfl, g1, g2⟩
  obtain ⟨v, rfl, rv⟩ := vals1 rr
  cases ru
  cases rv
  obtain ⟨its, _, sa, la⟩ := kd_of I1 ka
  obtain ⟨jts, _, sb, lb⟩ := kd_of I1 kb
  refine zip_begins2 (kd_begins a its.toArray k1) (kd_begins b jts.toArray k2) sa sb fun h' z1 z2 z3 z4 z5 z6 st => wpAny_pyIter_zip z1 ?_
  have I2 : Inv X pins σ H1 { s1 with heap := h' } := I1.kept (t' := s1.toks) st
  have ap := zip_sep2 (N := s1.heap.objs.size) (fp1 := [a]) (fp2 := [b]) (fun c hc => List.mem_singleton.mp hc ▸ la) (fun c hc => List.mem_singleton.mp hc ▸ lb)
  have nb : b ≠ s1.heap.objs.size + 1 := Nat.ne_of_lt (Nat.lt_succ_of_lt lb)
  refine ⟨_, _, _, _, H1, rfl, I2, turn_m ap (Nat.ne_of_lt la) nb, ⟨⟨z1, z2, _, _, z3⟩, itAt_new z4, itAt_new z5⟩, fun c hc => ?_, q⟩
  have ge : s1.heap.objs.size ≤ c := by
    rcases five hc with rfl | rfl | rfl | rfl | rfl
    · exact Nat.le_add_right _ 4
    · exact Nat.le_add_right _ 2
    · exact Nat.le_add_right _ 3
    · exact Nat.le_refl _
    · exact Nat.le_add_right _ 1
  exact I1.fpOk ge (I1.hok.fresh ge)
end Lay
namespace Lay
open PySem PySem.Spec PyProof.Rows L2
theorem Kq.same {K : PySem.W.Frag} {H H' : Hp} {a : Addr} {xs : List V} (s : Same H H') : ∀ {k : Bool}, Kq K H k a xs → Kq K H' k a xs
  | true, h => s.seq h
  | false, h => sqT_same s h
theorem rd_zipM {K : PySem.W.Frag} {ta : TA} {σ : L2.St} {H : Hp} {R : It → Hp → Prop} (q : ta σ H (fun vs H1 => ∃ k1 k2 a b xs ys, vs = [.ref a, .ref b] ∧ (Kq K H1 k1 a xs ∧ Kq K H1 k2 b ys) ∧ R (Itm K k1 k2 a b) H1)) : iZipM K ta σ H R := q
section
variable {σ : L2.St} {H1 : Hp} {Q : VK} {K : PySem.W.Frag}
/-- [e for x, y in zip(xs, ys)], each a list or a tuple, of one length -/
theorem lc_zipM {k1 k2 : Bool} {a b E : Addr} {xs ys : List V} {i1 i2 n : Nat} {te : TE} (hx : xs.length = n) (hy : ys.length = n) (hn : n ≤ 1000) (hE : H1 E = none) (ha : Kq K H1 k1 a xs) (hb : Kq K H1 k2 b ys)
    (hw : ∀ x y, wipe (((wipe σ [i1, i2]).set i1 (some x)).set i2 (some y)) [i1, i2] = wipe σ [i1, i2]) (f : Nat → V)
    (he : ∀ j, j < n → ∀ H', Same H1 H' → ∀ R : VK, R (f j) H' → te (((wipe σ [i1, i2]).set i1 (some (xs.getD j .non))).set i2 (some (ys.getD j .non))) H' R)
    (hd : ∀ H', Same H1 H' → H' E = some (.lst ((List.range n).map f)) → Q (.ref E) H') : LcAt (Itm K k1 k2 a b) (gTup K 2 (gCons (gName i1) (gCons (gName i2) gNil))) tYes te [i1, i2] σ E H1 Q := by
  have gx : ∀ i, i < n → xs[i]? = some (xs.getD i .non) := fun i h => by rw [List.getD_eq_getElem?_getD, List.getElem?_eq_getElem (by omega)]; rfl
  have gy : ∀ i, i < n → ys[i]? = some (ys.getD i .non) := fun i h => by rw [List.getD_eq_getElem?_getD, List.getElem?_eq_getElem (by omega)]; rfl
  refine lc_gen (n := n) (G := fun H' => Kq K H' k1 a xs ∧ Kq K H' k2 b ys) (fun j x H' => ∃ T, x = .ref T ∧ H' T = some (.tup [xs.getD j .non, ys.getD j .non]))
    (fun j σ2 H' => σ2 = ((wipe σ [i1, i2]).set i1 (some (xs.getD j .non))).set i2 (some (ys.getD j .non))) (fun H' h => ⟨_, _, h, by omega, by omega, Or.inl hx.symm⟩) (fun i H' h hi => ⟨_, _, _, _, h, gx i hi, gy i hi⟩)
    (fun i H' x H'' h hi y => ?_) hn hE (fun H' s => ⟨Kq.same s ha, Kq.same s hb⟩) (fun _ => true) f ?_ ?_ ?_ ?_
  · obtain ⟨T, x1, x2, ⟨rfl, hT, rfl⟩, f1, f2⟩ := y
    have e1 := Option.some.inj ((f1 _ h.1).symm.trans (gx i hi))
    have e2 := Option.some.inj ((f2 _ h.2).symm.trans (gy i hi))
    subst e1 e2
    exact ⟨fun b o e => up_old hT e, T, rfl, upd_same⟩
  · rintro j x H' hj hs ⟨T, rfl, hT⟩ R kk
    exact ⟨T, _, rfl, SqT.of hT, rfl, _, _, rfl, _, _, rfl, rfl, kk _ (hw _ _) rfl⟩
  · rintro j σ2 H' hj hs hS R kk
    exact kk _ (Same.refl _)
  · rintro j σ2 H' H0 hj _ rfl hs hs0 R kk
    exact he j hj H' hs R (kk _ (Same.refl _))
  · intro H' hs hl2
    rw [filt_yes] at hl2
    exact hd H' hs hl2
end
/-- a slice of a list or a tuple -/
def rSlE (K : PySem.W.Frag) : V → Option Int → Option Int → Hp → VK → Prop := fun x lo hi H Q => rSlL K x lo hi H Q ∨ rSlA K x lo hi H Q
theorem sl_any {X : Cx} : SlR X (rSlE X.K) := SlR.or sl_list sl_tupA
end Lay
namespace Lay
open PySem PySem.Spec PyProof.Rows L2
theorem seq_nat {n j : Nat} (h : j < n) : seqIndex? (j : Int) n = some j := by
  unfold seqIndex?
  have e1 : ¬ (j : Int) < 0 := by omega
  simp only [e1, if_false]
  rw [if_pos (by simp; omega)]
  rw [Int.toNat_natCast]
theorem upd_live {H : Hp} {p b : Addr} {o : HO} (h : H b ≠ none) : upd H p o b ≠ none := by
  by_cases e : b = p
  · rw [e, upd_same]
    exact fun z => nomatch z
  · rw [upd_ne e]
    exact h
theorem LLf.base {H0 H1 H : Hp} {p : Addr} {M : List (List Int)} (s : Same H0 H1) (h : LLf H1 H p M) : LLf H0 H p M := by
  obtain ⟨rs, h1, h2, hn, g1, g2, h3⟩ := h
  exact ⟨rs, h1, h2, hn, s.free g1, fun r hr => s.free (g2 r hr), h3⟩
end Lay
/-! LayR: the end of a law in quiet places, where the law's own defs make lambdas: their tables of code objects stand in the heap. -/
namespace Lay
open PySem PySem.Spec PyProof.Rows L2
/-- an empty table of code objects -/
def tabO : Obj := { cls := .none, data := .fields #[] }
theorem law_goesT {P : Program} {w : World} {K : PySem.W.Frag} {mg mb : Str → Option Value} {k : Nat} {fa a : Addr} {fd : FuncData} {x : Str} {sp : Sp} {s1 : Shared} {vs : List Value} {ns : List Int} {cs : List (Addr × Addr)}
    (KX : K.In s1.heap) (hns : s1.heap.Ns mainGlobals mg) (hb : s1.heap.Ns builtinsNs mb) (hbb : ∀ x : Str, x ≠ "__name__" → mb x = bootBuiltins x) (hlim : s1.heap.NoLimit) (hg : s1.gens = #[])
    (tabs : ∀ q ∈ cs, s1.heap.get? q.2 = some tabO ∧ K.lookup q.2 = none ∧ PySem.W.CodeHd s1.heap q.1 q.2)
    (bmod : ∃ (m : Addr) (ob : Obj), mg "__builtins__" = some (.ref m) ∧ m ≠ builtinsNs ∧ s1.heap.get? m = some ob ∧ ob.cls = .type "module" ∧ ob.dict = some builtinsNs ∧ ob.data = .plain)
    (ha : s1.heap.get? a = some { cls := .type "list", data := .seq vs.toArray }) (hi : IntsAre vs ns) (hl : ns.length ≤ sizeLine) (hr : Room k callerA)
    (F : ∀ base : Heap, K.In base → base.Ns mainGlobals mg → (∀ q ∈ cs, LamX.TabB base mg q.1 q.2) → FnQ P w K mg base k fa fd [x] sp) (hbind : ∀ (s : Shared) (u : Value), BindsTo s fd ⟨[u], []⟩ [(x, u)])
    (hsp : ∀ H : Hp, (∀ q ∈ cs, H q.2 = some (.tbl #[])) → SqL K H a (ns.map V.int) → sp [.ref a] H (fun v _ => v = .bl true) E0) :
    codeAny (model P w) callerA (.call (.ref fa) ⟨[.ref a], []⟩) (fun r s' => r = .ok (.ret (.bool true)) ∧ OldK s1.heap s'.heap ∧ s'.os = s1.os ∧ AllBare s'.gens) s1 := by
  have rv := vals_ints hi
  have inT : ∀ b, b ∈ cs.map Prod.snd → s1.heap.get? b = some tabO ∧ K.lookup b = none := fun b hm => by
    obtain ⟨q, hq, rfl⟩ := List.mem_map.mp hm
    exact ⟨(tabs q hq).1, (tabs q hq).2.1⟩
  have ofT : ∀ q ∈ cs, q.2 ∈ cs.map Prod.snd := fun q hq => List.mem_map.mpr ⟨q, hq, rfl⟩
  have naT : a ∉ cs.map Prod.snd := fun hm => by
    have e := (inT a hm).1
    rw [ha] at e
    cases e
  -- from an abstract heap that tracks the tables, and the script as a known object or not at all
  have from_ : ∀ H : Hp, (∀ q ∈ cs, H q.2 = some (.tbl #[])) → SqL K H a (ns.map V.int) → HOk P w H s1.heap →
      (∀ b u, H b = some u → (b = a ∧ K.lookup a = none ∧ u = .frz { cls := .type "list", data := .seq vs.toArray } (.lst (ns.map V.int))) ∨ (b ∈ cs.map Prod.snd ∧ u = .tbl #[])) →
      codeAny (model P w) callerA (.call (.ref fa) ⟨[.ref a], []⟩) (fun r s' => r = .ok (.ret (.bool true)) ∧ OldK s1.heap s'.heap ∧ s'.os = s1.os ∧ AllBare s'.gens) s1 := by
    intro H hTb hS hok hT
    have free : ∀ {b : Addr} {o : Obj}, s1.heap.get? b = some o → (o.data ≠ .seq vs.toArray) → (o.data ≠ .fields #[]) → H b = none := fun {b o} e n1 n2 => by
      cases q : H b with
      | none => rfl
      | some u =>
        rcases hT b u q with ⟨rfl, _, _⟩ | ⟨hm, _⟩
        · rw [ha] at e
          cases e
          exact absurd rfl n1
        · rw [(inT b hm).1] at e
          cases e
          exact absurd rfl n2
    have free1 : ∀ {b : Addr} {o : Obj}, s1.heap.get? b = some o → (∃ es ep, o.data = .dict es ep) → H b = none := fun {b o} e ⟨es, ep, d⟩ =>
      free e (fun z => by rw [d] at z; cases z) (fun z => by rw [d] at z; cases z)
    have free2 : ∀ {b : Addr} {o : Obj}, K.lookup b = some o → H b = none := fun {b o} e => by
      cases q : H b with
      | none => rfl
      | some u =>
        rcases hT b u q with ⟨rfl, z, _⟩ | ⟨hm, _⟩
        · rw [z] at e
          cases e
        · rw [(inT b hm).2] at e
          cases e
    have ns2 : ∀ {b : Addr} {m : Str → Option Value}, s1.heap.Ns b m → (hidT s1.heap H).Ns b m := by
      rintro b m ⟨o, es, ep, e, d, r⟩
      exact ⟨o, es, ep, hidT_get e (free1 e ⟨es, ep, d⟩), d, r⟩
    have kb : K.In (hidT s1.heap H) := fun b o e => hidT_get (KX b o e) (free2 e)
    have md : Mod K mg (hidT s1.heap H) := by
      obtain ⟨mc, l1, l2⟩ := hlim
      exact ⟨kb, ns2 hns, ⟨mb, ns2 hb, hbb⟩, ⟨mc, ns2 l1, l2⟩⟩
    have en : Env0 P w K mg (hidT s1.heap H) callerA [] s1 H :=
      { frames := rfl, mod := md, bs := fun b o e => of_hidT e, bsz := Nat.le_of_eq (hidT_size _ _), funs := trivial, frf := (fun b hb => nomatch hb), hok := hok, bare := AllBare.of_eq hg }
    have tb : ∀ q ∈ cs, LamX.TabB (hidT s1.heap H) mg q.1 q.2 := fun q hq => by
      obtain ⟨t1, t2, t3⟩ := tabs q hq
      refine ⟨?_, ?_, fun z => ?_⟩
      · obtain ⟨o, us, f1, f2, f3, f4, f5, f6, f7, y1, y2, y3, y4, y⟩ := t3
        refine ⟨o, us, f1, f2, f3, f4, f5, f6, f7, hidT_get y1 (free y1 (fun z => ?_) (fun z => ?_)), y2, y3, y4, y⟩
        · rw [y3] at z
          cases z
        · rw [y3] at z
          cases z
          cases y4
      · obtain ⟨m, ob, c1, c2, c3, c4, c5, c6⟩ := bmod
        refine ⟨m, ob, c1, c2, fun z => ?_, fun z => ?_, hidT_get c3 (free c3 (fun z => ?_) (fun z => ?_)), c4, c5, c6⟩
        · obtain ⟨o, es, ep, e, d, _⟩ := hns
          rw [z, e] at c3
          cases c3
          rw [d] at c6
          cases c6
        · rw [z, t1] at c3
          cases c3
          cases c6
        · rw [c6] at z
          cases z
        · rw [c6] at z
          cases z
      · obtain ⟨o, es, ep, e, d, _⟩ := hns
        rw [z, t1] at e
        cases e
        cases d
    have run := (F _ kb (ns2 hns) tb).goes callerA [] s1 H ⟨[.ref a], []⟩ [.ref a] [.ref a] _ E0 quiet_caller hr en (hbind s1 (.ref a)) (.cons rfl .nil) (hsp H hTb hS)
    refine codeAny_mono run fun r s2 h => ?_
    cases r with
    | error e => exact False.elim h
    | ok fl =>
      cases fl with
      | next => exact False.elim h
      | brk => exact False.elim h
      | cont => exact False.elim h
      | ret u =>
        obtain ⟨v, H2, os, bare, un, hok2, r2, rfl⟩ := h
        cases r2
        have key : ∀ b o, b ∉ cs.map Prod.snd → s1.heap.get? b = some o → s2.heap.get? b = some o := fun b o nb e => by
          cases q : H b with
          | none => exact un.keep b o e q (fun z => nomatch z) (fun z => nomatch z)
          | some u =>
            rcases hT b u q with ⟨rfl, _, rfl⟩ | ⟨hm, _⟩
            · have k1 := (hok b _ q).1
              have k2 := (hok2 b _ (un.frzs b _ _ q)).1
              rw [e] at k1
              rw [k2, k1]
            · exact absurd hm nb
        have more : ∀ b ∈ cs.map Prod.snd, ∃ us : Array Value, s2.heap.get? b = some { cls := .none, data := .fields us } := fun b hm => by
          obtain ⟨q, hq, rfl⟩ := List.mem_map.mp hm
          obtain ⟨us, z⟩ := un.tbls q.2 #[] (hTb q hq)
          exact ⟨_, hok2 q.2 _ z⟩
        refine ⟨rfl, ⟨fun b o e => ?_, fun b o e => ?_⟩, os, bare⟩
        · by_cases hm : b ∈ cs.map Prod.snd
          · obtain ⟨us, z⟩ := more b hm
            obtain ⟨q, hq, rfl⟩ := List.mem_map.mp hm
            obtain ⟨t1, _, t3⟩ := tabs q hq
            rw [t1] at e
            cases e
            refine Or.inr (Or.inl ⟨(t3.tab t1).isCodeTable, rfl, #[], us, rfl, ?_⟩)
            rw [Array.empty_append]
            exact z
          · exact Or.inl (key b o hm e)
        · by_cases hm : b ∈ cs.map Prod.snd
          · obtain ⟨us, z⟩ := more b hm
            exact ⟨_, z⟩
          · exact ⟨o, key b o hm e⟩
  cases hk : K.lookup a with
  | some o =>
    have e := KX a o hk
    rw [ha] at e
    cases e
    have at_ : ∀ b u, (if b ∈ cs.map Prod.snd then some (HO.tbl #[]) else none) = some u → b ∈ cs.map Prod.snd ∧ u = HO.tbl #[] := fun b u z => by
      by_cases hm : b ∈ cs.map Prod.snd
      · rw [if_pos hm] at z
        exact ⟨hm, (Option.some.inj z).symm⟩
      · rw [if_neg hm] at z
        cases z
    refine from_ (fun b => if b ∈ cs.map Prod.snd then some (.tbl #[]) else none) (fun q hq => if_pos (ofT q hq)) (Or.inr ⟨_, vs.toArray, _, hk, rfl, rfl, rfl, ?_, ?_⟩) (fun b u z => ?_) (fun b u z => Or.inr (at_ b u z))
    · rw [List.size_toArray, hi.length]
      exact hl
    · simpa using rv
    · obtain ⟨hm, rfl⟩ := at_ b u z
      exact (inT b hm).1
  | none =>
    have at_ : ∀ b u, (if b = a then some (HO.frz { cls := .type "list", data := .seq vs.toArray } (.lst (ns.map V.int))) else if b ∈ cs.map Prod.snd then some (.tbl #[]) else none) = some u →
        (b = a ∧ u = HO.frz { cls := .type "list", data := .seq vs.toArray } (.lst (ns.map V.int))) ∨ (b ∈ cs.map Prod.snd ∧ u = HO.tbl #[]) := fun b u z => by
      by_cases hba : b = a
      · rw [if_pos hba] at z
        exact Or.inl ⟨hba, (Option.some.inj z).symm⟩
      · rw [if_neg hba] at z
        by_cases hm : b ∈ cs.map Prod.snd
        · rw [if_pos hm] at z
          exact Or.inr ⟨hm, (Option.some.inj z).symm⟩
        · rw [if_neg hm] at z
          cases z
    refine from_ (fun b => if b = a then some (.frz { cls := .type "list", data := .seq vs.toArray } (.lst (ns.map V.int))) else if b ∈ cs.map Prod.snd then some (.tbl #[]) else none) (fun q hq => ?_) (Or.inl (Or.inr ⟨_, if_pos rfl⟩)) (fun b u z => ?_) (fun b u z => ?_)
    · show (if q.2 = a then _ else _) = _
      rw [if_neg (fun (z : q.2 = a) => naT (z ▸ ofT q hq)), if_pos (ofT q hq)]
    · rcases at_ b u z with ⟨rfl, rfl⟩ | ⟨hm, rfl⟩
      · refine ⟨ha, ?_, vs, _, rv, ha⟩
        rw [List.length_map]
        exact hl
      · exact (inT b hm).1
    · rcases at_ b u z with ⟨rfl, rfl⟩ | q
      · exact Or.inl ⟨rfl, hk, rfl⟩
      · exact Or.inr q
end Lay
namespace Lay
open PySem PySem.Spec PyProof.Rows L2
/-- what is known of the law's own def where the top has run: its promise in quiet places, and the tables of the defs that make lambdas -/
def LawAtQ (l : PySem.W.OpenLaw) (w : World) (K : PySem.W.Frag) (k n : Nat) (x : Str) (mg : Str → Option Value) (fa : Addr) (h : Heap) : Prop :=
  ∃ (fd : FuncData) (cs : List (Addr × Addr)) (sp : Sp),
    (∀ q ∈ cs, h.get? q.2 = some tabO ∧ K.lookup q.2 = none ∧ PySem.W.CodeHd h q.1 q.2) ∧
    (∀ (s : Shared) (u : Value), BindsTo s fd ⟨[u], []⟩ [(x, u)]) ∧
    (∀ (H : Hp) (a : Addr) (ns : List Int), ns.length ≤ n → (∀ q ∈ cs, H q.2 = some (.tbl #[])) → SqL K H a (ns.map V.int) → sp [.ref a] H (fun v _ => v = .bl true) E0) ∧
    ∀ base : Heap, K.In base → base.Ns mainGlobals mg → (∀ q ∈ cs, LamX.TabB base mg q.1 q.2) → FnQ l.prog w K mg base k fa fd [x] sp
theorem law_walksT {l : PySem.W.OpenLaw} {n k : Nat} {q : Program} {loose : List Str} {XP : (Str → Option Value) → Heap → Prop} {YP : World → Heap → Prop} {d : DefRec} {x : Str} (hn : l.most = some n) (hn2 : n ≤ sizeLine) (hdf : d.params.defaults = []) (hr : Room k callerA)
    (F : ∀ (w : World) (mg : Str → Option Value) (fa : Addr) (h : Heap), YP w h → h.Ns mainGlobals mg → mg d.name = some (.ref fa) → ∃ K : PySem.W.Frag, K.In h ∧ LawAtQ l w K k n x mg fa h) :
    PySem.W.WalkO q loose XP YP l.row.toRowW d [] (fun f vs => PySem.call f vs) := by
  refine Att.attach_callB hn hdf ?_
  intro w s0 s1 mg mb fa o pm cd doc a vs ns G Y ho hd hcd hmg hobj hints hlen _ hg
  obtain ⟨K, kin, fd, cs, sp, tabs, bi, hsp, prom⟩ := F w mg fa _ Y G.T.g hmg
  exact law_goesT kin G.T.g G.T.b G.T.builtins G.T.nolimit hg tabs G.T.bmain hobj hints (Nat.le_trans hlen hn2) hr prom bi fun H tb hS => hsp H a ns hlen tb hS
end Lay
/-! LayS: several clauses of which some have a name and some have none. -/
namespace Lay
open PySem PySem.Spec PyProof.Rows L2
/-- what the clauses wish, one behind the other; the name, where a clause has it, stands in slot i -/
def wMix (K : PySem.W.Frag) (i : Nat) (Wout : WX) (D : Ends) : List (Bool × Value × (Addr → Value → Option Addr → TS)) → WX
  | [] => Wout
  | (true, c, ts) :: r => wAs K c i ts (wMix K i Wout D r) D
  | (false, c, ts) :: r => wOnly K c ts (wMix K i Wout D r) D
inductive Mix (X : Cx) (n : Str) : List ExceptHandler → List (Bool × Value × (Addr → Value → Option Addr → TS)) → Prop
  | nil : Mix X n [] []
  | as {x : Str} {c : Value} {ts : Addr → Value → Option Addr → TS} {s₀ : Stmt} {ss : List Stmt} {p1 p2 : Pos} {hs : List ExceptHandler} {l : List (Bool × Value × (Addr → Value → Option Addr → TS))} (nm : Names X x c)
      (su : ∀ (a : Addr) (oe : Obj) (cls : Value) (d : Option Addr) (pn : List (Addr × Obj)), Zc cls d oe → (∃ vs, oe.data = .fields vs) → PSs (X.suite a ((a, oe) :: pn)) (s₀ :: ss) (ts a cls d)) (r : Mix X n hs l) :
      Mix X n (.ExceptHandler (some (.Name x p1)) (some n) (s₀ :: ss) p2 :: hs) ((true, c, ts) :: l)
  | only {x : Str} {c : Value} {ts : Addr → Value → Option Addr → TS} {s₀ : Stmt} {ss : List Stmt} {p1 p2 : Pos} {hs : List ExceptHandler} {l : List (Bool × Value × (Addr → Value → Option Addr → TS))} (nm : Names X x c)
      (su : ∀ (a : Addr) (oe : Obj) (cls : Value) (d : Option Addr) (pn : List (Addr × Obj)), Zc cls d oe → (∃ vs, oe.data = .fields vs) → PSs (X.suite a ((a, oe) :: pn)) (s₀ :: ss) (ts a cls d)) (r : Mix X n hs l) :
      Mix X n (.ExceptHandler (some (.Name x p1)) none (s₀ :: ss) p2 :: hs) ((false, c, ts) :: l)
section
variable {X : Cx} {n : Str} {i : Nat} {Wout : WX}
/-- one clause after the other is asked; a is the exception, h3 the heap in which it has landed -/
theorem mix_run (hst : X.stack = X.env :: X.outer) (hfm : X.env.frame = some X.env.locals) (hN : X.N.Nodup) (hi : X.N[i]? = some n) (hln : X.env.kindOf n = some .local) (tk : Takes X Wout) {D : Ends} {pins : List (Addr × Obj)} {σ' : L2.St} {H' : Hp} {sI s' : Shared} {a : Addr} {B : Heap} {cls : Value} {d : Option Addr} {h3 : Heap}
    (J : Inv X pins σ' H' sI) (nb : ∀ b o, sI.heap.get? b = some o → b ∉ frs X.stack → B.get? b = some o) (up : sI.heap.UpToSlots s'.heap) (up3 : s'.heap.UpToSlots h3) (fl : HandSPX.FlyingZ B (X.env :: X.outer) a (Zc cls d) h3) (na : H' a = none) (os : s'.os = sI.os) (ag : AllBare s'.gens)
    (nL : a ≠ X.env.locals) (nF : a ∉ X.fs) : ∀ {hs : List ExceptHandler} {l : List (Bool × Value × (Addr → Value → Option Addr → TS))}, Mix X n hs l → wMix X.K i Wout D l cls d σ' H' →
      wpAny (model X.prog X.w) X.A (handleBy (.ref a) X.env hs) (SP X pins D) X.xe { s' with heap := h3 } := by
  have ok := J.ok
  obtain ⟨o3, v3, g3, z3, f3⟩ := fl.there
  have Jl : ∀ {h : Heap}, B.StaysIn h → s'.heap.UpToSlots h → Inv X pins σ' H' { s' with heap := h } := fun {h} st u => J.landed (s' := { s' with heap := h }) nb st (up.trans u) os ag
  have S := (Jl fl.1 up3).suite g3 f3 na nL nF
  have what : PySem.W.Looks (model X.prog X.w) h3 (typeOf (.ref a)) cls := fun _ _ _ _ keep q => wpAny_typeOf_ref (keep _ _ g3) (by rw [z3.1]; exact q)
  intro hs l cl
  induction cl with
  | nil =>
    intro wish
    refine wpAny_handleBy_nil ?_
    obtain ⟨_, _, _, oe, vs, T, oT, tsx, he, hz, hd, h1, hr⟩ := id fl
    unfold PySem.passOn
    refine wpAny_bind (wpAny_field he hd h1 ?_)
    rw [if_neg (show ¬((Value.ref T == Value.none) = true) by simp)]
    have out : wpAny (model X.prog X.w) X.A (setFlight (.ref a) X.env.frame) (fun _ s4 => wpAny (model X.prog X.w) X.A (throw (.ref a) : Sem Flow) (SP X pins D) X.xe s4) X.xe { s' with heap := h3 } := by
      rw [hfm]
      exact HandSPX.setFlight_upZ fl fun h4 hh4 up4 => wpAny_throw (tk _ _ ⟨a, B, sI, pins, σ', H', cls, d, rfl, J, nb, (up.trans up3).trans up4, .inr (.inr (by rw [hst]; exact hh4)), na, os, ag, wish⟩)
    first | exact wpAny_bind (wpAny_pure (wpAny_bind out)) | exact wpAny_bind out
  | @as x c ts s₀ ss p1 p2 hs2 l2 nm su r ih =>
    intro wish
    obtain ⟨b, e, yes, no⟩ := wish
    refine wpAny_handleBy_cons (codeAny_handlers_test ?_) (by intro q; cases q)
    have look := PySem.W.exm_one (M := model X.prog X.w) (Jl fl.1 up3).kIn what e
    have ask : ∀ {Q E : Value → Shared → Prop}, Q c { s' with heap := h3 } → wpAny (model X.prog X.w) (X.A.mark (some (.ref a))) (eval (.Name x p1) X.env) Q E { s' with heap := h3 } := fun {Q E} q => by
      obtain ⟨hg, hdb, hm | ⟨hm, hv, hne⟩⟩ := nm
      · exact ld_glob (X := X.suite a ((a, o3) :: (X.pn ++ pins))) S hg hm q hdb
      · exact ld_blt (X := X.suite a ((a, o3) :: (X.pn ++ pins))) S hg hm hv q hne hdb
    refine ask (look.here ?_)
    cases b with
    | false => exact ih (no rfl)
    | true =>
      refine codeAny_handlers_suite_as (HandSPX.lands_againZ fl fun h4 fl4 up4 => ?_)
      obtain ⟨o4, v4, g4, z4, f4⟩ := fl4.there
      have S4 := (Jl fl4.1 (up3.trans up4)).suite g4 f4 na nL nF
      refine store_ok (X := X.suite a ((a, o4) :: (X.pn ++ pins))) (v := .ref a) S4 hN hi (.inl hln) rfl (fun s5 S5 => ?_) (.inr hln)
      refine wpAny_mono ((su a o4 cls d (X.pn ++ pins) z4 ⟨_, f4⟩).run [] s5 _ H' _ S5 (yes rfl a na)) (fun f s6 sp => ?_) (fun _ _ z => z.elim)
      have gone : ∀ {σ6 : L2.St} {H6 : Hp} {Q : Shared → Prop}, Inv (X.suite a ((a, o4) :: (X.pn ++ pins))) [] σ6 H6 s6 → (∀ s7, Inv X pins (σ6.set i none) H6 s7 → Q s7) →
          wpAny (model X.prog X.w) X.A (do bindName X.env n .none; unbindBehindTheSuite X.env n p2) (fun _ s7 => Q s7) X.xe s6 := fun S6 hq => gone_ok (S6.unsuite ok) hN hi hln hq
      cases f with
      | next => exact match sp with | ⟨_, _, S6, q6⟩ => gone S6 fun s7 J7 => ⟨_, _, J7, q6⟩
      | brk => exact match sp with | ⟨_, _, S6, q6⟩ => gone S6 fun s7 J7 => ⟨_, _, J7, q6⟩
      | cont => exact match sp with | ⟨_, _, S6, q6⟩ => gone S6 fun s7 J7 => ⟨_, _, J7, q6⟩
      | ret u => exact match sp with | ⟨_, _, _, S6, r6, q6⟩ => gone S6 fun s7 J7 => ⟨_, _, _, J7, r6, q6⟩
  | @only x c ts s₀ ss p1 p2 hs2 l2 nm su r ih =>
    intro wish
    obtain ⟨b, e, yes, no⟩ := wish
    refine wpAny_handleBy_cons (codeAny_handlers_test ?_) (by intro q; cases q)
    have look := PySem.W.exm_one (M := model X.prog X.w) (Jl fl.1 up3).kIn what e
    have ask : ∀ {Q E : Value → Shared → Prop}, Q c { s' with heap := h3 } → wpAny (model X.prog X.w) (X.A.mark (some (.ref a))) (eval (.Name x p1) X.env) Q E { s' with heap := h3 } := fun {Q E} q => by
      obtain ⟨hg, hdb, hm | ⟨hm, hv, hne⟩⟩ := nm
      · exact ld_glob (X := X.suite a ((a, o3) :: (X.pn ++ pins))) S hg hm q hdb
      · exact ld_blt (X := X.suite a ((a, o3) :: (X.pn ++ pins))) S hg hm hv q hne hdb
    refine ask (look.here ?_)
    cases b with
    | false => exact ih (no rfl)
    | true =>
      refine codeAny_handlers_suite (HandSPX.lands_againZ fl fun h4 fl4 up4 => ?_)
      obtain ⟨o4, v4, g4, z4, f4⟩ := fl4.there
      have J4 := Jl fl4.1 (up3.trans up4)
      have S4 := J4.suite g4 f4 na nL nF
      refine wpAny_mono ((su a o4 cls d (X.pn ++ pins) z4 ⟨_, f4⟩).run [] _ _ H' _ S4 (yes rfl a na)) (fun f s6 sp => ?_) (fun _ _ z => z.elim)
      cases f with
      | next => exact match sp with | ⟨_, _, S6, q6⟩ => ⟨_, _, S6.unsuite ok, q6⟩
      | brk => exact match sp with | ⟨_, _, S6, q6⟩ => ⟨_, _, S6.unsuite ok, q6⟩
      | cont => exact match sp with | ⟨_, _, S6, q6⟩ => ⟨_, _, S6.unsuite ok, q6⟩
      | ret u => exact match sp with | ⟨_, _, _, S6, r6, q6⟩ => ⟨_, _, _, S6.unsuite ok, r6, q6⟩
/-- try: .. except X: .. except Y as n: .. -/
theorem ps_try_mix {body : List Stmt} {h₀ : ExceptHandler} {hds : List ExceptHandler} {l : List (Bool × Value × (Addr → Value → Option Addr → TS))} {pos : Pos} {tb : WX → TS} (hst : X.stack = X.env :: X.outer) (hfm : X.env.frame = some X.env.locals) (hN : X.N.Nodup) (hi : X.N[i]? = some n) (hln : X.env.kindOf n = some .local) (tk : Takes X Wout)
    (hb : ∀ (W : WX) (pn : List (Addr × Obj)) (xe : Value → Shared → Prop), Takes (X.tr pn xe) W → PassesOwn (model X.prog X.w) X.A X.env xe → PSs (X.tr pn xe) body (tb W))
    (hh : Mix X n (h₀ :: hds) l) : PS X (.Try body (h₀ :: hds) [] [] pos) (fun D σ H => tb (wMix X.K i Wout D l) D σ H) := by
  refine ⟨fun pins s σ H D I h => wpAny_Try_except ?_⟩
  have ok := I.ok
  have hfr : X.A.frames = some (X.env :: X.outer) := by rw [ok.frames, hst]
  have B1 := hb (wMix X.K i Wout D l) (X.pn ++ pins) (fun e s₁ => wpAny (model X.prog X.w) X.A (noteFrame e X.env) (fun _ s₂ => wpAny (model X.prog X.w) X.A (setFlight e none) (fun _ s₃ => wpAny (model X.prog X.w) X.A (handleBy e X.env (h₀ :: hds)) (SP X pins D) X.xe s₃) X.xe s₂) X.xe s₁)
    (fun u s' xx => ?_) PassesOwn.looking
  · refine wpAny_mono (B1.run [] s σ H D (I.toTry _) h) (fun f s1 sp => ?_) (fun _ _ z => z)
    cases f with
    | next => exact match sp with | ⟨_, _, J', q⟩ => wpAny_execs_nil ⟨_, _, J'.ofTry ok, q⟩
    | brk => exact match sp with | ⟨_, _, J', q⟩ => ⟨_, _, J'.ofTry ok, q⟩
    | cont => exact match sp with | ⟨_, _, J', q⟩ => ⟨_, _, J'.ofTry ok, q⟩
    | ret u => exact match sp with | ⟨_, _, _, J', r, q⟩ => ⟨_, _, _, J'.ofTry ok, r, q⟩
  · obtain ⟨a, B, sI, pins', σ', H', cls, d, rfl, J', nb, up, sky, na, os, ag, wish⟩ := xx
    have J := J'.ofTry (pins := pins) ok
    have sky' : Sky B (X.env :: X.outer) a (Zc cls d) X.env.locals s'.heap := by rw [← hst]; exact sky
    refine Sky.land Zc.steady hfr hfm sky' fun h3 fl up3 => ?_
    obtain ⟨oe, vs, he, hz, hd⟩ := fl.there
    have away : a ∉ frs (X.env :: X.outer) := fun hm => by
      obtain ⟨_, o', e', hnf⟩ := fl.2.2.1.mem hm
      rw [he] at e'
      cases e'
      exact hnf _ hd
    refine mix_run hst hfm hN hi hln tk J nb up up3 fl na os ag (fun z => away (List.mem_filterMap.mpr ⟨X.env, List.mem_cons_self, by rw [hfm, z]⟩)) (fun hm => ?_) hh wish
    obtain ⟨e, he2, q⟩ := List.mem_filterMap.mp hm
    exact away (List.mem_filterMap.mpr ⟨e, List.mem_cons_of_mem _ he2, q⟩)
end
end Lay
/-! LayT: defs that may let an error out, entered in quiet places; a lambda handed to such a def. -/
namespace Lay
open PySem PySem.Spec PyProof.Rows L2
section
variable {P : Program} {w : World} {K : PySem.W.Frag} {mg : Str → Option Value} {base : Heap}
/-- a def's promise for quiet places, where it may let an error out -/
structure FnX (P : Program) (w : World) (K : PySem.W.Frag) (mg : Str → Option Value) (base : Heap) (k : Nat) (f : Addr) (fd : FuncData) (ps : List Str) (sp : Sp) : Prop where
  many : ∀ vs H Q E, sp vs H Q E → vs.length = ps.length
  goes : ∀ (A : Around) (outer : List Env) (s : Shared) (H : Hp) (args : Args) (us : List Value) (vs : List V) (Q : VK) (E : XK), Quiet A → Room k A →
    Env0 P w K mg base A outer s H → BindsTo s fd args (ps.zip us) → Vals vs us → sp vs H Q E → codeAny (model P w) A (.call (.ref f) args) (CR (L2.CX P w) outer P w H s Q E) s
theorem x_def {x qual : Str} {st : Stmt} {f : Addr} {fd : FuncData} {N ps : List Str} {k : Nat} {sp : Sp} (F : Fun K x qual st f fd) (S : FnScope N ps (defScope st))
    (many : ∀ vs H Q E, sp vs H Q E → vs.length = ps.length)
    (body : ∀ (cdv : Value) (A : Around) (outer : List Env) (s : Shared) (H : Hp) (vs : List V) (Q : VK) (E : XK), Quiet A → Room k (A.deeper (envOfC qual (defScope st) s.heap.objs.size f cdv)) → sp vs H Q E →
      ∃ t, PSs (cxOf (L2.CX P w) P w K mg base N qual (defScope st) f cdv A outer s H E) (defBody st) t ∧ t { nx := fun _ H' => Q .non H', rt := Q } (start N vs) H) :
    FnX P w K mg base (k + 1) f fd ps sp := by
  obtain ⟨oc, od, kV, doc, pm, an, cdv, ct, osl, rfl, lk, hcd⟩ := F.ex
  refine ⟨many, fun A outer s H args us vs Q E hq hr he hb hv hs => ?_⟩
  have hl := many _ _ _ _ hs
  have KX : K.In s.heap := he.mod.kin.keeps fun b o e => (he.bs b o e).1
  have lim : s.heap.NoLimit := he.mod.nolimit.keeps fun b o e => (he.bs b o e).1
  have kinds : ∀ y ∈ ps.zip us, (defScope st).names.lookup y.1 = some .local ∨ ((defScope st).names.lookup y.1 = some .cell ∧ ((cellsFrom (s.heap.objs.size + 1) (defScope st).names []).lookup y.1).isSome = true) := by
    intro y hy
    rcases S.par y.1 (List.of_mem_zip hy).1 with q | q
    · exact Or.inl q
    · exact Or.inr ⟨q, PySem.W.cellsFrom_some _ _ _ (Or.inl q)⟩
  apply codeAny_call_function hr.depth (KX _ _ lk) rfl S.co S.gen rfl (PySem.W.codeRec_of KX hcd)
  apply hb
  apply wpAny_newFunctionEnv_cells S.kind kinds
  intro env henv s1 x1
  subst henv
  refine ⟨lim.keeps x1.toInCall.keep, ?_⟩
  apply codeAny_func
  obtain ⟨t, ht, q0⟩ := body cdv A outer s H vs Q E hq (hr.deeper _) hs
  have I : Inv (cxOf (L2.CX P w) P w K mg base N qual (defScope st) f cdv A outer s H E) [] (start N vs) H s1 := inv_start S hr.hd he hl hv x1
  refine wpAny_mono (ht.run [] s1 (start N vs) H _ I q0) (fun fl s2 h2 => ?_) (fun e s2 h2 => h2)
  cases fl with
  | next =>
    obtain ⟨a, b, J, z⟩ := h2
    exact ⟨V.non, b, J.os, J.bare, J.base, J.hok, rfl, z⟩
  | ret u =>
    obtain ⟨v, a, b, J, rv, z⟩ := h2
    exact ⟨v, b, J.os, J.bare, J.base, J.hok, rv, z⟩
  | brk =>
    obtain ⟨a, b, J, z⟩ := h2
    exact z.elim
  | cont =>
    obtain ⟨a, b, J, z⟩ := h2
    exact z.elim
end
section
variable {X : Cx} {k : Nat} {f : Addr} {fd : FuncData} {ps : List Str} {sp : Sp} {x : Str} {p pos : Pos} {e : Expr} {es : List Expr} {t : TA} {W : WX}
/-- f(e, ..) where it is quiet; what it lets out is what W takes -/
def tClX (sp : Sp) (W : WX) (t : TA) : TE := fun σ H Q => t σ H fun vs H1 => sp vs H1 Q (WE W σ)
theorem x_run {pins : List (Addr × Obj)} {σ : L2.St} {H : Hp} {s : Shared} {Q : VK} {us : List Value} {vs : List V} (F : FnX X.prog X.w X.K X.mg X.base k f fd ps sp) (hq : Quiet X.A) (hr : Room k X.A) (hb : Binds X.K fd ps []) (tk : Takes X W)
    (I : Inv X pins σ H s) (r : Vals vs us) (h : sp vs H Q (WE W σ)) : wpAny (model X.prog X.w) X.A (call (.ref f) us) (EP X pins σ Q) X.xe s := by
  have hl : (us ++ []).length = ps.length := by
    rw [List.append_nil, ← r.length]
    exact F.many _ _ _ _ h
  have bb := hb s us I.kIn hl
  rw [List.append_nil] at bb
  refine wpAny_call (codeAny_mono (F.goes X.A X.stack s H ⟨us, []⟩ us vs Q (WE W σ) hq hr I.env0 bb r h) fun res s2 hh => ?_)
  cases res with
  | error z => exact passAt tk σ pins H s z s2 I hh
  | ok fl =>
    cases fl with
    | ret u => exact I.after hh
    | next => exact False.elim hh
    | brk => exact False.elim hh
    | cont => exact False.elim hh
theorem xcall (F : FnX X.prog X.w X.K X.mg X.base k f fd ps sp) (hq : Quiet X.A) (hr : Room k X.A) (hg : Gl X x) (hm : X.mg x = some (.ref f)) (hk : PySem.W.keepIn X.K (.ref f) = true) (hb : Binds X.K fd ps []) (tk : Takes X W)
    (ha : PA X (e :: es) t) (hdb : (x == ("__debug__" : Str)) = false := by decide) (he : starEach (e :: es) X.env = (false, eval e X.env) :: starEach es X.env := by rfl) (hpl : (backTo pos (starEach es X.env)).any (·.1) = false := by rfl) :
    PE X (.Call (.Name x p) (e :: es) [] pos) (tClX sp W t) := by
  refine ⟨fun pins s σ H Q I h => wpAny_Call_Name_kw (ld_glob I hg hm ?_ hdb)⟩
  refine PySem.W.callWith_K (h₀ := X.base) I.ok.mod.kin hk (thn (ha.run pos pins s σ H _ I h) ?_) he hpl
  rintro us s1 ⟨vs, H1, I1, r, q⟩
  exact ⟨I1.kIn, x_run F hq hr hb tk I1 r q⟩
end
/-- a def of the text that may let an error out -/
structure CalX (P : Program) (w : World) (K : PySem.W.Frag) (mg : Str → Option Value) (base : Heap) (x : Str) (k : Nat) (ps : List Str) (sp : Sp) : Prop where
  ex : ∃ (f : Addr) (fd : FuncData), FnX P w K mg base k f fd ps sp ∧ mg x = some (.ref f) ∧ PySem.W.keepIn K (.ref f) = true ∧ Binds K fd ps []
section
variable {P : Program} {w : World} {K : PySem.W.Frag} {mg : Str → Option Value} {base : Heap}
theorem calx_of {x : Str} {st : Stmt} {N ps : List Str} {k : Nat} {sp : Sp} (D : DefAt K mg x st ps) (S : FnScope N ps (defScope st)) (many : ∀ vs H Q E, sp vs H Q E → vs.length = ps.length)
    (body : ∀ (f : Addr) (cdv : Value) (A : Around) (outer : List Env) (s : Shared) (H : Hp) (vs : List V) (Q : VK) (E : XK), Quiet A → Room k (A.deeper (envOfC x (defScope st) s.heap.objs.size f cdv)) → sp vs H Q E →
      ∃ t, PSs (cxOf (L2.CX P w) P w K mg base N x (defScope st) f cdv A outer s H E) (defBody st) t ∧ t { nx := fun _ H' => Q .non H', rt := Q } (start N vs) H) : CalX P w K mg base x (k + 1) ps sp := by
  obtain ⟨f, fd, F, m, b⟩ := D.ex
  exact ⟨f, fd, x_def F S many (body f), m, F.kp, b⟩
end
theorem qcx {X : Cx} {k : Nat} {ps : List Str} {sp : Sp} {x : Str} {p pos : Pos} {e : Expr} {es : List Expr} {t : TA} {W : WX} (c : CalX X.prog X.w X.K X.mg X.base x k ps sp) (hq : Quiet X.A) (hr : Room k X.A) (hg : Gl X x) (tk : Takes X W)
    (ha : PA X (e :: es) t) (hdb : (x == ("__debug__" : Str)) = false := by decide) (he : starEach (e :: es) X.env = (false, eval e X.env) :: starEach es X.env := by rfl) (hpl : (backTo pos (starEach es X.env)).any (·.1) = false := by rfl) :
    PE X (.Call (.Name x p) (e :: es) [] pos) (tClX sp W t) := by
  obtain ⟨f, fd, F, m, kp, b⟩ := c.ex
  exact xcall F hq hr hg m kp b tk ha hdb he hpl
end Lay
/-! LayU: promises that hold at all places, calm or not; errors made where their context is of no concern. -/
namespace Lay
open PySem PySem.Spec PyProof.Rows L2
/-- a def of the text, its promise for all places -/
structure CalA (P : Program) (w : World) (K : PySem.W.Frag) (mg : Str → Option Value) (base : Heap) (x : Str) (k : Nat) (ps : List Str) (sp : Sp) : Prop where
  ex : ∃ (f : Addr) (fd : FuncData), FnOk P w K mg base CX0 k f fd ps sp ∧ mg x = some (.ref f) ∧ PySem.W.keepIn K (.ref f) = true ∧ Binds K fd ps []
/-- such a def that may let an error out -/
structure CalE (P : Program) (w : World) (K : PySem.W.Frag) (mg : Str → Option Value) (base : Heap) (x : Str) (k : Nat) (ps : List Str) (sp : Sp) : Prop where
  ex : ∃ (f : Addr) (fd : FuncData), FnOk P w K mg base (L2.CX P w) k f fd ps sp ∧ mg x = some (.ref f) ∧ PySem.W.keepIn K (.ref f) = true ∧ Binds K fd ps []
section
variable {P : Program} {w : World} {K : PySem.W.Frag} {mg : Str → Option Value} {base : Heap}
theorem CalA.lift {x : Str} {j k : Nat} {ps : List Str} {sp : Sp} (c : CalA P w K mg base x j ps sp) (h : j ≤ k) : CalA P w K mg base x k ps sp := by
  obtain ⟨f, fd, F, m, kp, b⟩ := c.ex
  exact ⟨f, fd, F.mono h, m, kp, b⟩
theorem CalA.quiet {x : Str} {k : Nat} {ps : List Str} {sp : Sp} (c : CalA P w K mg base x k ps sp) : Cal P w K mg base x k ps sp := by
  obtain ⟨f, fd, F, m, kp, b⟩ := c.ex
  exact ⟨f, fd, .of F, m, kp, b⟩
theorem cala_of {x : Str} {st : Stmt} {N ps : List Str} {k : Nat} {sp : Sp} (D : DefAt K mg x st ps) (S : FnScope N ps (defScope st)) (many : ∀ vs H Q E, sp vs H Q E → vs.length = ps.length)
    (body : ∀ (f : Addr) (cdv : Value) (A : Around) (outer : List Env) (s : Shared) (H : Hp) (vs : List V) (Q : VK) (E : XK), Room k (A.deeper (envOfC x (defScope st) s.heap.objs.size f cdv)) → sp vs H Q E →
      ∃ t, PSs (cxOf CX0 P w K mg base N x (defScope st) f cdv A outer s H E).nox (defBody st) t ∧ t { nx := fun _ H' => Q .non H', rt := Q } (start N vs) H) : CalA P w K mg base x (k + 1) ps sp := by
  obtain ⟨f, fd, F, m, b⟩ := D.ex
  exact ⟨f, fd, F.ok S many (body f), m, F.kp, b⟩
theorem cale_of {x : Str} {st : Stmt} {N ps : List Str} {k : Nat} {sp : Sp} (D : DefAt K mg x st ps) (S : FnScope N ps (defScope st)) (many : ∀ vs H Q E, sp vs H Q E → vs.length = ps.length)
    (body : ∀ (f : Addr) (cdv : Value) (A : Around) (outer : List Env) (s : Shared) (H : Hp) (vs : List V) (Q : VK) (E : XK), Room k (A.deeper (envOfC x (defScope st) s.heap.objs.size f cdv)) → sp vs H Q E →
      ∃ t, PSs (cxOf (L2.CX P w) P w K mg base N x (defScope st) f cdv A outer s H E) (defBody st) t ∧ t { nx := fun _ H' => Q .non H', rt := Q } (start N vs) H) : CalE P w K mg base x (k + 1) ps sp := by
  obtain ⟨f, fd, F, m, b⟩ := D.ex
  obtain ⟨oc, od, kV, doc, pm, an, cdv, ct, osl, rfl, lk, hcd⟩ := id F.ex
  exact ⟨f, _, fn_of lk hcd S many (fun A outer s H vs Q E hr hsp => body f cdv A outer s H vs Q E hr hsp), m, F.kp, b⟩
end
section
variable {X : Cx} {k : Nat} {ps : List Str} {sp : Sp} {x : Str} {p pos : Pos} {e : Expr} {es : List Expr} {t : TA} {W : WX}
theorem ac (c : CalA X.prog X.w X.K X.mg X.base x k ps sp) (hr : Room k X.A) (hg : Gl X x)
    (ha : PA X (e :: es) t) (hdb : (x == ("__debug__" : Str)) = false := by decide) (he : starEach (e :: es) X.env = (false, eval e X.env) :: starEach es X.env := by rfl) (hpl : (backTo pos (starEach es X.env)).any (·.1) = false := by rfl) :
    PE X (.Call (.Name x p) (e :: es) [] pos) (tCl sp t) := by
  obtain ⟨f, fd, F, m, kp, b⟩ := c.ex
  exact pe_callS (E := fun _ => E0) F hr hg m kp b (fun _ _ _ _ _ _ _ z => z.elim) ha hdb he hpl
theorem ac0 (c : CalA X.prog X.w X.K X.mg X.base x k ps sp) (hr : Room k X.A) (hg : Gl X x) (hdb : (x == ("__debug__" : Str)) = false := by decide) : PE X (.Call (.Name x p) [] [] pos) (tCl sp tNil) := by
  obtain ⟨f, fd, F, m, kp, b⟩ := c.ex
  have h := pe_call0 (p := p) (pos := pos) (E := E0) F hr hg m kp b .nil pass0 hdb
  exact h
theorem ec (c : CalE X.prog X.w X.K X.mg X.base x k ps sp) (hr : Room k X.A) (hg : Gl X x) (tk : Takes X W)
    (ha : PA X (e :: es) t) (hdb : (x == ("__debug__" : Str)) = false := by decide) (he : starEach (e :: es) X.env = (false, eval e X.env) :: starEach es X.env := by rfl) (hpl : (backTo pos (starEach es X.env)).any (·.1) = false := by rfl) :
    PE X (.Call (.Name x p) (e :: es) [] pos) (tClX sp W t) := by
  obtain ⟨f, fd, F, m, kp, b⟩ := c.ex
  exact pe_callS F hr hg m kp b (passAt tk) ha hdb he hpl
/-- what is made with its context known is made -/
theorem pmk_any {t : L2.St → Hp → XK → Prop} (h : L2N.PMk X e t) : L2.PMk X e t := fun pins s σ H Q I w => by
  refine wpAny_mono (h pins s σ H Q I w) (fun u s' z => ?_) (fun _ _ z => z)
  obtain ⟨a, oe, vs, sI, H', cls, d, e1, I1, k, ne, ge, zn, hd, h1, na, os, ag, r, q⟩ := z
  exact ⟨a, oe, vs, sI, H', cls, d, e1, I1, k, ne, ge, ⟨zn.1, zn.2.1⟩, hd, h1, na, os, ag, r, q⟩
theorem rd_ClX {σ : L2.St} {H : Hp} {Q : VK} (q : t σ H (fun vs H1 => sp vs H1 Q (WE W σ))) : tClX sp W t σ H Q := q
end
end Lay
/-! LayV: values of any kind, told by data; what rows and integers are among them. -/
namespace Lay
open PySem PySem.Spec PyProof.Rows L2
mutual
/-- the value v stands for d: what is made here, dicts only where they are empty -/
inductive AnyD (H : Hp) : V → PyData → Prop
  | non : AnyD H .non .none
  | bl (b : Bool) : AnyD H (.bl b) (.bool b)
  | int (i : Int) : AnyD H (.int i) (.int i)
  | str (x : Str) : AnyD H (.str x) (.str x)
  | lst {a : Addr} {xs : List V} {ds : List PyData} : H a = some (.lst xs) → AnyAll H xs ds → AnyD H (.ref a) (.list ds)
  | tup {a : Addr} {xs : List V} {ds : List PyData} : H a = some (.tup xs) → AnyAll H xs ds → AnyD H (.ref a) (.tuple ds)
  | dic {a : Addr} : H a = some (.dK []) → AnyD H (.ref a) (.dict [])
inductive AnyAll (H : Hp) : List V → List PyData → Prop
  | nil : AnyAll H [] []
  | cons {v : V} {vs : List V} {d : PyData} {ds : List PyData} : AnyD H v d → AnyAll H vs ds → AnyAll H (v :: vs) (d :: ds)
end
section
variable {K : PySem.W.Frag} {H H' : Hp}
mutual
theorem AnyD.same (s : Same H H') : ∀ {v : V} {d : PyData}, AnyD H v d → AnyD H' v d
  | _, _, .non => .non
  | _, _, .bl b => .bl b
  | _, _, .int i => .int i
  | _, _, .str z => .str z
  | _, _, .lst h t => .lst (s _ _ h) (t.same s)
  | _, _, .tup h t => .tup (s _ _ h) (t.same s)
  | _, _, .dic h => .dic (s _ _ h)
theorem AnyAll.same (s : Same H H') : ∀ {vs : List V} {ds : List PyData}, AnyAll H vs ds → AnyAll H' vs ds
  | _, _, .nil => .nil
  | _, _, .cons h t => .cons (h.same s) (t.same s)
end
theorem AnyAll.len : ∀ {vs : List V} {ds : List PyData}, AnyAll H vs ds → vs.length = ds.length
  | _, _, .nil => rfl
  | _, _, .cons _ t => by rw [List.length_cons, List.length_cons, t.len]
theorem AnyAll.get : ∀ {vs : List V} {ds : List PyData}, AnyAll H vs ds → ∀ {i : Nat} {v : V}, vs[i]? = some v → ∃ d, ds[i]? = some d ∧ AnyD H v d
  | _, _, .nil, i, v, e => by simp at e
  | _, _, .cons (ds := ds) (d := d) h t, i, v, e => by
    cases i with
    | zero =>
      rw [List.getElem?_cons_zero] at e
      cases e
      exact ⟨d, rfl, h⟩
    | succ i =>
      rw [List.getElem?_cons_succ] at e
      obtain ⟨d', e1, e2⟩ := t.get e
      exact ⟨d', by rw [List.getElem?_cons_succ]; exact e1, e2⟩
theorem AnyAll.ints : ∀ {vs : List V} {ns : List Int}, vs = ns.map V.int → AnyAll H vs (ns.map PyData.int)
  | _, [], rfl => .nil
  | _, n :: ns, rfl => .cons (.int n) (AnyAll.ints (ns := ns) rfl)
/-- the name of the type -/
def tyN : PyData → String
  | .none => "NoneType"
  | .bool _ => "bool"
  | .int _ => "int"
  | .str _ => "str"
  | .list _ => "list"
  | .tuple _ => "tuple"
  | .dict _ => "dict"
theorem AnyD.ty {v : V} {d : PyData} (h : AnyD H v d) : TyX K H v (.type (tyN d)) := by
  cases h with
  | non => exact .base .non
  | bl b => exact .base (.bl b)
  | int i => exact .base (.int i)
  | str z => exact .base (.str z)
  | lst h t => exact .base (.lst h)
  | tup h t => exact .base (.tup h)
  | dic h => exact .base (.dK h)
theorem rd_isiD {v : V} {d : PyData} {n : String} {b : Bool} {Q : VK} (h : AnyD H v d) (hb : kitB (tyN d) n = some b) (q : Q (.bl b) H) : rIsi K [v, .ty n] H Q := rd_isi h.ty hb q
end
/-- type(x) of plain data -/
def rTyD : List V → Hp → VK → Prop := fun xs H Q => ∃ (x : V) (d : PyData), xs = [x] ∧ AnyD H x d ∧ d ≠ .dict [] ∧ Q (.ty (tyN d)) H
theorem call_typeD {X : Cx} : CallR X (.type "type") rTyD := by
  intro pins s σ H xs us Q I r h
  obtain ⟨x, d, rfl, t, nd, q⟩ := h
  obtain ⟨u, rfl, rx⟩ := vals1 r
  cases t with
  | non =>
    cases (show u = Value.none from rx)
    exact call_type_of (PySem.typeIs_none s) (by decide +kernel) ⟨.ty _, H, I, rfl, q⟩
  | bl b =>
    cases (show u = Value.bool b from rx)
    exact call_type_of (PySem.typeIs_bool s b) (by decide +kernel) ⟨.ty _, H, I, rfl, q⟩
  | int i =>
    obtain ⟨h1, h2⟩ := (RZ.Ty4.int (H := H) i).is I rx
    exact call_type_of h1 h2 ⟨.ty _, H, I, rfl, q⟩
  | str z =>
    obtain ⟨h1, h2⟩ := (RZ.Ty4.str (H := H) z).is I rx
    exact call_type_of h1 h2 ⟨.ty _, H, I, rfl, q⟩
  | lst h t =>
    obtain ⟨h1, h2⟩ := (RZ.Ty4.lst h).is I rx
    exact call_type_of h1 h2 ⟨.ty _, H, I, rfl, q⟩
  | tup h t =>
    obtain ⟨h1, h2⟩ := (RZ.Ty4.tup h).is I rx
    exact call_type_of h1 h2 ⟨.ty _, H, I, rfl, q⟩
  | dic h => exact absurd rfl nd
/-- an integer of at most 2000 digits -/
def dInt : PyData → Bool
  | .int i => decide (i.natAbs < 10 ^ 2000)
  | _ => false
def dRow : PyData → Bool
  | .tuple ds => decide (1 ≤ ds.length) && decide (ds.length ≤ 28) && ds.all dInt
  | _ => false
def dLen : PyData → Nat
  | .tuple ds => ds.length
  | _ => 0
def dRows : PyData → Bool
  | .tuple ds => decide (ds.length ≤ 60) && ds.all fun r => dRow r && decide (dLen r = dLen (ds.headD .none))
  | _ => false
end Lay
/-! LayW: defs whose own code object is known, since they make lambdas. -/
namespace Lay
open PySem PySem.Spec PyProof.Rows L2
/-- a def of the text, its code object at c -/
structure DefC (K : PySem.W.Frag) (mg : Str → Option Value) (x : Str) (st : Stmt) (ps : List Str) (c : Addr) : Prop where
  ex : ∃ (f : Addr) (oc : Value) (od : Option Addr) (kV doc pm : Value) (an : Option Addr) (ct : Value) (osl : Array (Option Value)),
    K.lookup f = some ⟨oc, od, .func (PySem.W.fnOf x x (defArgs st) (defBody st) (defScope st) .none kV doc pm an (.ref c) ct), osl⟩ ∧ PySem.W.codeIn K (.ref c) x = true ∧
    PySem.W.keepIn K (.ref f) = true ∧ mg x = some (.ref f) ∧ Binds K (PySem.W.fnOf x x (defArgs st) (defBody st) (defScope st) .none kV doc pm an (.ref c) ct) ps []
section
variable {P : Program} {w : World} {K : PySem.W.Frag} {mg : Str → Option Value} {base : Heap}
theorem calc_of {x : Str} {st : Stmt} {N ps : List Str} {k : Nat} {sp : Sp} {c : Addr} (D : DefC K mg x st ps c) (S : FnScope N ps (defScope st)) (many : ∀ vs H Q E, sp vs H Q E → vs.length = ps.length)
    (body : ∀ (f : Addr) (A : Around) (outer : List Env) (s : Shared) (H : Hp) (vs : List V) (Q : VK) (E : XK), Quiet A → Room k (A.deeper (envOfC x (defScope st) s.heap.objs.size f (.ref c))) → sp vs H Q E →
      ∃ t, PSs (cxOf CX0 P w K mg base N x (defScope st) f (.ref c) A outer s H E).nox (defBody st) t ∧ t { nx := fun _ H' => Q .non H', rt := Q } (start N vs) H) : Cal P w K mg base x (k + 1) ps sp := by
  obtain ⟨f, oc, od, kV, doc, pm, an, ct, osl, lk, hcd, kp, hm, b0⟩ := D.ex
  refine ⟨f, _, ⟨many, fun A outer s H args us vs Q E hq hr he hb hv hs => ?_⟩, hm, kp, b0⟩
  have hl := many _ _ _ _ hs
  have KX : K.In s.heap := he.mod.kin.keeps fun b o e => (he.bs b o e).1
  have lim : s.heap.NoLimit := he.mod.nolimit.keeps fun b o e => (he.bs b o e).1
  have kinds : ∀ y ∈ ps.zip us, (defScope st).names.lookup y.1 = some .local ∨ ((defScope st).names.lookup y.1 = some .cell ∧ ((cellsFrom (s.heap.objs.size + 1) (defScope st).names []).lookup y.1).isSome = true) := by
    intro y hy
    rcases S.par y.1 (List.of_mem_zip hy).1 with q | q
    · exact Or.inl q
    · exact Or.inr ⟨q, PySem.W.cellsFrom_some _ _ _ (Or.inl q)⟩
  apply codeAny_call_function hr.depth (KX _ _ lk) rfl S.co S.gen rfl (PySem.W.codeRec_of KX hcd)
  apply hb
  apply wpAny_newFunctionEnv_cells S.kind kinds
  intro env henv s1 x1
  subst henv
  refine ⟨lim.keeps x1.toInCall.keep, ?_⟩
  apply codeAny_func
  obtain ⟨t, ht, q0⟩ := body f A outer s H vs Q E hq (hr.deeper _) hs
  have I : Inv (cxOf CX0 P w K mg base N x (defScope st) f (.ref c) A outer s H E) [] (start N vs) H s1 := inv_start S hr.hd he hl hv x1
  refine wpAny_mono (ht.nox.run [] s1 (start N vs) H _ I q0) (fun fl s2 h2 => ?_) (fun e s2 h2 => h2)
  cases fl with
  | next =>
    obtain ⟨a, b, J, z⟩ := h2
    exact ⟨V.non, b, J.os, J.bare, J.base, J.hok, rfl, z⟩
  | ret u =>
    obtain ⟨v, a, b, J, rv, z⟩ := h2
    exact ⟨v, b, J.os, J.bare, J.base, J.hok, rv, z⟩
  | brk =>
    obtain ⟨a, b, J, z⟩ := h2
    exact z.elim
  | cont =>
    obtain ⟨a, b, J, z⟩ := h2
    exact z.elim
end
mutual
/-- what is not a table stays -/
theorem AnyD.extN {H H' : Hp} (s : LamX.ExtN H H') : ∀ {v : V} {d : PyData}, AnyD H v d → AnyD H' v d
  | _, _, .non => .non
  | _, _, .bl b => .bl b
  | _, _, .int i => .int i
  | _, _, .str z => .str z
  | _, _, .lst h t => .lst (s _ _ h (fun _ z => nomatch z)) (t.extN s)
  | _, _, .tup h t => .tup (s _ _ h (fun _ z => nomatch z)) (t.extN s)
  | _, _, .dic h => .dic (s _ _ h (fun _ z => nomatch z))
theorem AnyAll.extN {H H' : Hp} (s : LamX.ExtN H H') : ∀ {vs : List V} {ds : List PyData}, AnyAll H vs ds → AnyAll H' vs ds
  | _, _, .nil => .nil
  | _, _, .cons h t => .cons (h.extN s) (t.extN s)
end
theorem BagAt.extN {H H' : Hp} {a : Addr} (s : LamX.ExtN H H') (h : BagAt H a) : BagAt H' a := by
  obtain ⟨g, m, c, e, r⟩ := h
  exact ⟨g, m, c, s _ _ e (fun _ z => nomatch z), r⟩
theorem But.del {H H' : Hp} {a : Addr} (b : But a H H') : Same (del H a) (del H' a) := fun c o e => by
  by_cases h : c = a
  · rw [h, del_same] at e
    cases e
  · rw [del_ne h] at e ⊢
    exact b _ _ h e
theorem same_del (H : Hp) (a : Addr) : Same (del H a) H := fun c o e => by
  by_cases h : c = a
  · rw [h, del_same] at e
    cases e
  · rw [del_ne h] at e
    exact e
end Lay
namespace Lay
open PySem PySem.Spec PyProof.Rows L2
/-- for x, y in zip(xs, ys): each a list or a tuple, of one length -/
theorem for_zipM {K : PySem.W.Frag} {σ : L2.St} {H1 : Hp} {D : Ends} {tb : TS} {k1 k2 : Bool} {a b : Addr} {xs ys : List V} {i1 i2 n : Nat} (hx : xs.length = n) (hy : ys.length = n) (Pv : Nat → L2.St → Hp → Prop) (h0 : Pv 0 σ H1)
    (hk : ∀ i σ H, Pv i σ H → Kq K H k1 a xs ∧ Kq K H k2 b ys)
    (hs : ∀ i σ H x y T, i < n → Pv i σ H → xs[i]? = some x → ys[i]? = some y → H T = none → tb { D with nx := Pv (i + 1), ct := Pv (i + 1), bk := D.nx } ((σ.set i1 (some x)).set i2 (some y)) (upd H T (.tup [x, y])))
    (hd : ∀ σ H, Pv n σ H → D.nx σ H) : ForAt (Itm K k1 k2 a b) (gTup K 2 (gCons (gName i1) (gCons (gName i2) gNil))) tb D σ H1 := by
  refine ⟨fun i m σ' H' => m = n - i ∧ i ≤ n ∧ Pv i σ' H', ⟨n, by omega, Nat.zero_le _, h0⟩, ?_⟩
  rintro i m σ' H' ⟨rfl, hi, hp⟩
  obtain ⟨ka, kb⟩ := hk _ _ _ hp
  by_cases hlt : i < n
  · refine Or.inr ⟨⟨xs, ys, xs[i]'(by omega), ys[i]'(by omega), ⟨ka, kb⟩, List.getElem?_eq_getElem (by omega), List.getElem?_eq_getElem (by omega)⟩, Pv (i + 1), fun σ2 H2 w => ⟨n - (i + 1), by omega, rfl, by omega, w⟩, ?_⟩
    rintro z H2 ⟨T, x, y, ⟨rfl, hT, rfl⟩, f1, f2⟩
    refine ⟨T, _, rfl, SqT.of upd_same, rfl, ⟨_, _, rfl, rd_name ⟨_, _, rfl, rd_name ⟨rfl, ?_⟩⟩⟩⟩
    exact hs i σ' H' x y T hlt hp (f1 _ ka) (f2 _ kb) hT
  · obtain rfl : i = n := by omega
    exact Or.inl ⟨⟨xs, ys, ⟨ka, kb⟩, by omega, by omega, Or.inl hx.symm⟩, hd _ _ hp⟩
end Lay
/-! LayY: min and max of a tuple of integers. -/
namespace Lay
open PySem PySem.Spec PyProof.Rows L2
theorem fold_min : ∀ (ns : List Int) (n : Int), ns.foldl min n ∈ n :: ns ∧ ∀ y, y ∈ n :: ns → ns.foldl min n ≤ y
  | [], n => ⟨List.mem_cons_self, fun y hy => by simp at hy; rw [hy]; exact Int.le_refl _⟩
  | z :: ns, n => by
    obtain ⟨h1, h2⟩ := fold_min ns (min n z)
    have h3 := h2 (min n z) List.mem_cons_self
    refine ⟨?_, fun y hy => ?_⟩
    · show ns.foldl min (min n z) ∈ _
      rcases List.mem_cons.mp h1 with e | e
      · rw [e]
        rcases Int.min_def n z ▸ (by split <;> simp : (if n ≤ z then n else z) = n ∨ (if n ≤ z then n else z) = z) with q | q
        · rw [q]; exact List.mem_cons_self
        · rw [q]; exact List.mem_cons_of_mem _ List.mem_cons_self
      · exact List.mem_cons_of_mem _ (List.mem_cons_of_mem _ e)
    · show ns.foldl min (min n z) ≤ y
      rcases List.mem_cons.mp hy with rfl | hy
      · exact Int.le_trans h3 (Int.min_le_left _ _)
      · rcases List.mem_cons.mp hy with rfl | hy
        · exact Int.le_trans h3 (Int.min_le_right _ _)
        · exact h2 y (List.mem_cons_of_mem _ hy)
theorem fold_max : ∀ (ns : List Int) (n : Int), ns.foldl max n ∈ n :: ns ∧ ∀ y, y ∈ n :: ns → y ≤ ns.foldl max n
  | [], n => ⟨List.mem_cons_self, fun y hy => by simp at hy; rw [hy]; exact Int.le_refl _⟩
  | z :: ns, n => by
    obtain ⟨h1, h2⟩ := fold_max ns (max n z)
    have h3 := h2 (max n z) List.mem_cons_self
    refine ⟨?_, fun y hy => ?_⟩
    · show ns.foldl max (max n z) ∈ _
      rcases List.mem_cons.mp h1 with e | e
      · rw [e]
        rcases Int.max_def n z ▸ (by split <;> simp : (if n ≤ z then z else n) = n ∨ (if n ≤ z then z else n) = z) with q | q
        · rw [q]; exact List.mem_cons_self
        · rw [q]; exact List.mem_cons_of_mem _ List.mem_cons_self
      · exact List.mem_cons_of_mem _ (List.mem_cons_of_mem _ e)
    · show y ≤ ns.foldl max (max n z)
      rcases List.mem_cons.mp hy with rfl | hy
      · exact Int.le_trans (Int.le_max_left _ _) h3
      · rcases List.mem_cons.mp hy with rfl | hy
        · exact Int.le_trans (Int.le_max_right _ _) h3
        · exact h2 y (List.mem_cons_of_mem _ hy)
end Lay
namespace Lay
open PySem PySem.Spec PyProof.Rows L2
theorem alike_intsAll (ns : List Int) : PySem.W.AlikeAll (ns.map PyData.int) := by
  refine ⟨fun x hx y hy => ?_, fun x hx z => ?_⟩
  · obtain ⟨i, _, rfl⟩ := List.mem_map.mp hx
    obtain ⟨j, _, rfl⟩ := List.mem_map.mp hy
    rfl
  · obtain ⟨i, _, rfl⟩ := List.mem_map.mp hx
    cases z
theorem depth_ints (ns : List Int) : PyData.depthAll (ns.map PyData.int) ≤ 0 := depthAll_of fun d hd => by
  obtain ⟨i, _, rfl⟩ := List.mem_map.mp hd
  exact Nat.le_refl 0
/-- min(xs), max(xs) of a tuple of ints -/
def rMinT (K : PySem.W.Frag) : List V → Hp → VK → Prop := fun vs H Q => ∃ (a : Addr) (ns : List Int), vs = [V.ref a] ∧ SqT K H a (ns.map V.int) ∧ 0 < ns.length ∧ ∀ m, m ∈ ns → (∀ y, y ∈ ns → m ≤ y) → Q (.int m) H
def rMaxT (K : PySem.W.Frag) : List V → Hp → VK → Prop := fun vs H Q => ∃ (a : Addr) (ns : List Int), vs = [V.ref a] ∧ SqT K H a (ns.map V.int) ∧ 0 < ns.length ∧ ∀ m, m ∈ ns → (∀ y, y ∈ ns → y ≤ m) → Q (.int m) H
theorem cr_minT {X : Cx} (hc : X.calm = true) (hu : X.A.units + 64 < cLine) : CallR X (.builtin "min") (rMinT X.K) := by
  intro pins s σ H vs us Q I r h
  obtain ⟨a, ns, rfl, hs, hne, q⟩ := h
  obtain ⟨its, rv, pl, hz⟩ := I.tuple hs
  rw [Vals.ref1 r]
  obtain ⟨n, l, rfl⟩ : ∃ n l, ns = n :: l := by
    cases ns with
    | nil => cases hne
    | cons n l => exact ⟨n, l, rfl⟩
  refine PySem.W.min_tuple_data (x := .int n) (xs := l.map PyData.int) (I.ok.hd hc) pl (reads_ints rv) (alike_intsAll (n :: l)) ?_ fun i v h' tk bs _ rd hk => ?_
  · have := depth_ints (n :: l)
    show X.A.units + 1 + PyData.depthAll ((n :: l).map PyData.int) < cLine
    omega
  · rw [PySem.W.minD_ints] at rd
    cases rd
    obtain ⟨h1, h2⟩ := fold_min l n
    exact ⟨.int _, H, I.kept hk, ⟨_, rfl⟩, q _ h1 h2⟩
theorem cr_maxT {X : Cx} (hc : X.calm = true) (hu : X.A.units + 64 < cLine) : CallR X (.builtin "max") (rMaxT X.K) := by
  intro pins s σ H vs us Q I r h
  obtain ⟨a, ns, rfl, hs, hne, q⟩ := h
  obtain ⟨its, rv, pl, hz⟩ := I.tuple hs
  rw [Vals.ref1 r]
  obtain ⟨n, l, rfl⟩ : ∃ n l, ns = n :: l := by
    cases ns with
    | nil => cases hne
    | cons n l => exact ⟨n, l, rfl⟩
  refine PySem.W.max_tuple_data (x := .int n) (xs := l.map PyData.int) (I.ok.hd hc) pl (reads_ints rv) (alike_intsAll (n :: l)) ?_ fun i v h' tk bs _ rd hk => ?_
  · have := depth_ints (n :: l)
    show X.A.units + 1 + PyData.depthAll ((n :: l).map PyData.int) < cLine
    omega
  · rw [PySem.W.maxD_ints] at rd
    cases rd
    obtain ⟨h1, h2⟩ := fold_max l n
    exact ⟨.int _, H, I.kept hk, ⟨_, rfl⟩, q _ h1 h2⟩
end Lay
/-! LayZ: a dict comprehension whose keys are tuples of ints and texts. -/
namespace Lay
open PySem PySem.Spec PyProof.Rows L2
section
variable {X : Cx}
theorem put_tup {pn : List (Addr × Obj)} {σ : L2.St} {H : Hp} {t : Shared} {E : Value → Shared → Prop} {d b : Addr} {ws : List (List Key × V)} {k : List Key} {z : V} {r : Value} {Q : Unit → Shared → Prop} (hu : X.A.units + 1 < cLine) (I : Inv X pn σ H t) (hd : H d = some (.dT ws)) (hb : H b = some (.tup (k.map kV)))
    (hw : ws.length < sizeLine) (rz : RelV z r) (q : ∀ t', Inv X pn σ (upd H d (.dT (putK ws k z))) t' → Q () t') : wpAny (model X.prog X.w) X.A (dictSet d (.ref b) r) Q E t := by
  obtain ⟨n1, nm, xs, rel, dd⟩ := dt_of I.hok hd
  have n2 : (putK ws k z).length ≤ sizeLine := Nat.le_trans (length_putK ws k z) hw
  have n3 : xs.length ≤ sizeLine := Paired.length rel ▸ n1
  refine wpAny_dictSet_heap (hsz := n3) (knd := tupleKind (mixKind X.prog X.w)) (show X.A.units < cLine by omega) (key_of I.hok hb) dd fun h' dd' sb => q _ ?_
  obtain ⟨o, es, ep, g1, g2, g3, g4, _, g5⟩ := dd'
  refine d_write I (by rw [hd]; trivial) sb ⟨o, g1⟩ ⟨n2, nm, _, (rel.put k hb rz).keeps fun c ys ec => ?_, o, es, ep, g1, g2, g3, g4, g5⟩
  exact (upd_ne (ne_of ec hd fun w => nomatch w)).trans ec
/-- {k: v for .. in ..} where the keys are tuples: D is the new dict -/
def tDcT (wi : TI) (g : TG) (tt : L2.TT) (tk tv : TE) (vs : List Nat) : TE := fun σ H Q => wi σ H fun J H1 => ∀ D, H1 D = none → ∃ W : Nat → Nat → Hp → Prop, (∃ m, W 0 m (upd H1 D (.dT []))) ∧ ∀ i m H, W i m H →
  (J.stop i H ∧ Q (.ref D) H) ∨ (J.go i H ∧ ∃ Nx : Hp → Prop, (∀ H', Nx H' → ∃ m', m' < m ∧ W (i + 1) m' H') ∧ ∀ x H', J.yld i H x H' → g x (wipe σ vs) H' fun σ2 H2 => wipe σ2 vs = wipe σ vs ∧ tt σ2 H2 fun b H3 =>
    if b = true then tk σ2 H3 fun y H4 => tv σ2 H4 fun z H5 => ∃ ws k q, y = .ref q ∧ H5 q = some (.tup (k.map kV)) ∧ H5 D = some (.dT ws) ∧ ws.length < sizeLine ∧ Nx (upd H5 D (.dT (putK ws k z))) else Nx H3)
theorem tup_comp {pn : List (Addr × Obj)} {t : Shared} {σ : L2.St} {H : Hp} {Q : VK} {ke ve te ie : Expr} {cs : List Expr} {sc : Scope} {own : List (Str × Nat)} {p0 p1 : Pos} {wi : TI} {g : TG} {tt : L2.TT} {tk tv : TE} {us : Option (Value → Sem Unit)} {R : Value → Shared → Prop}
    (hu : X.A.units + 1 < cLine) (calm : X.calm = true) (nd : X.N.Nodup) (I : Inv X pn σ H t) (PIe : PI X te ie wi) (B : BlkOk X.N X.env.scope sc own)
    (PGe : ∀ (t : Shared) (H : Hp) (C : Addr) (cl : List (Str × Addr)) (ps : List Addr), PG (X.blk t H sc (compEnvC sc cl C X.env) ps) te g) (PTe : ∀ (t : Shared) (H : Hp) (C : Addr) (cl : List (Str × Addr)) (ps : List Addr), PTs (X.blk t H sc (compEnvC sc cl C X.env) ps) cs tt)
    (PKe : ∀ (t : Shared) (H : Hp) (C : Addr) (cl : List (Str × Addr)) (ps : List Addr), PE (X.blk t H sc (compEnvC sc cl C X.env) ps) ke tk)
    (PVe : ∀ (t : Shared) (H : Hp) (C : Addr) (cl : List (Str × Addr)) (ps : List Addr), PE (X.blk t H sc (compEnvC sc cl C X.env) ps) ve tv) (fs : ∀ x, foldedSetIterable ie X.env x = pure x)
    (w : tDcT wi g tt tk tv (own.map (·.2)) σ H Q)
    (fin : ∀ D C t' m H', Inv X pn σ H' t' → Q (.ref D) H' → t'.heap.Ns C m → FpOk X pn H' C → compPost (model X.prog X.w) X.A X.xe us R (.ref D) C (.ok .next) t') :
    wpAny (model X.prog X.w) X.A (comprehension (.DictComp ke ve [⟨te, ie, cs, 0⟩] sc p0) sc X.env p1 newDict false (eval ie X.env) us) R X.xe t := by
  have caught : ∀ y ∈ sc.names, y.2 = .free → ∃ c, X.env.cells.lookup y.1 = some c := fun y hy e => (B.free y hy e).elim (fun k => I.ok.has _ (.inl k)) fun k => I.ok.has _ (.inr k)
  refine wpAny_comprehension_free (use := us) rfl fs (closure_ok caught) B.kind (fun y hy e => (B.uniq y hy).trans (by rw [e])) (thn (PIe.run pn t σ H _ I w) fun _ t1 z => thn z fun _ t2 z => ?_)
  obtain ⟨it, ps, st, J, G, rfl, IG, T, stG, free, w⟩ := z
  refine wpAny_newObj_type (newEnv_comp ?_)
  generalize eD : t2.heap.objs.size = D
  have newD : G D = none := IG.hok.fresh (Nat.le_of_eq eD)
  obtain ⟨W, ⟨m0, w0⟩, turn⟩ := w D newD
  generalize e3 : ({ t2 with heap := t2.heap.push { cls := .type "dict", data := .dict #[] } } : Shared) = t3
  have hp3 : t3.heap = t2.heap.push { cls := .type "dict", data := .dict #[] } := by subst e3; rfl
  have I3 : Inv X pn σ (upd G D (.dT [])) t3 := by
    subst e3
    refine IG.laid (t' := t2.toks) (fun _ _ e => Heap.get?_push_of_some _ e) (Nat.le_of_eq eD) ?_
    subst eD
    exact dt_empty t2.heap IG.big
  have old : ∀ b ∈ ps, b < t2.heap.objs.size := fun b hb => (T.obj _ _ stG b hb).elim fun o e => Heap.lt_size e.1
  have out3 : ∀ b ∈ ps, FpOk X pn (upd G D (.dT [])) b ∧ b < t3.heap.objs.size := fun b hb => by
    have lt := old b hb
    have ne : b ≠ D := fun e => absurd (eD.trans e.symm) (Nat.ne_of_gt lt)
    exact ⟨⟨(upd_ne ne).trans (free b hb).1, (free b hb).2⟩, hp3 ▸ (Heap.size_push t2.heap _).symm ▸ Nat.lt_succ_of_lt lt⟩
  have st3 : st 0 t3.heap := T.keep _ _ _ stG fun b _ o e => by rw [hp3]; exact Heap.get?_push_of_some _ e
  have I4 := block_start I3 B nd out3
  have gg := PGe t3 (upd G D (.dT [])) t3.heap.objs.size (cellsFrom (t3.heap.objs.size + 1) sc.names (cloFrom X.env.cells sc.names [])) ps
  have gt := PTe t3 (upd G D (.dT [])) t3.heap.objs.size (cellsFrom (t3.heap.objs.size + 1) sc.names (cloFrom X.env.cells sc.names [])) ps
  have gk := PKe t3 (upd G D (.dT [])) t3.heap.objs.size (cellsFrom (t3.heap.objs.size + 1) sc.names (cloFrom X.env.cells sc.names [])) ps
  have gv := PVe t3 (upd G D (.dT [])) t3.heap.objs.size (cellsFrom (t3.heap.objs.size + 1) sc.names (cloFrom X.env.cells sc.names [])) ps
  have goal : ∀ {Z : Result → Shared → Prop}, codeAny (model X.prog X.w) X.A (.compStart (.DictComp ke ve [⟨te, ie, cs, 0⟩] sc p0) 0 (.ref it) (.ref D) (compEnvC sc (cellsFrom (t3.heap.objs.size + 1) sc.names (cloFrom X.env.cells sc.names [])) t3.heap.objs.size X.env)) Z { t3 with heap := pushCells (t3.heap.push { cls := .type "dict", data := .dict #[] }) sc.names } →
      codeAny (model X.prog X.w) X.A (.compStart (.DictComp ke ve [⟨te, ie, cs, 0⟩] sc p0) 0 (.ref it) (.ref D) (compEnvC sc (cellsFrom (t3.heap.objs.size + 1) sc.names (cloFrom X.env.cells sc.names [])) t3.heap.objs.size X.env)) Z { t3 with heap := pushCells (t3.heap.push { cls := .type "dict", data := .dict #[] }) sc.names } := fun z => z
  refine goal (Z := compPost (model X.prog X.w) X.A X.xe us R (.ref D) t3.heap.objs.size) ?_
  have off : ∀ b ∈ ps, (upd G D (.dT [])) b = none := fun b hb => (out3 b hb).1.1
  generalize eE : compEnvC sc (cellsFrom (t3.heap.objs.size + 1) sc.names (cloFrom X.env.cells sc.names [])) t3.heap.objs.size X.env = ev at I4 gg gt gk gv ⊢
  have lE : ev.locals = t3.heap.objs.size := eE ▸ rfl
  generalize eG3 : upd G D (.dT []) = G3 at I3 I4 gg gt gk gv w0 off out3
  generalize e4 : ({ t3 with heap := pushCells (t3.heap.push { cls := .type "dict", data := .dict #[] }) sc.names } : Shared) = t4 at I4 ⊢
  have st4 : st 0 t4.heap := T.keep _ _ _ st3 fun b _ o e => by subst e4; exact pushCells_keeps _ _ _ _ (Heap.get?_push_of_some _ e)
  have here : ∀ {σ' : L2.St} {H' : Hp} {t' : Shared}, Inv (X.blk t3 G3 sc ev ps) [] σ' H' t' → (∀ b ∈ ps, H' b = none) → ∀ b ∈ ps, FpOk (X.blk t3 G3 sc ev ps) [] H' b := fun {σ' H' t'} J' n b hb =>
    ⟨n b hb, (J'.ok.exf b hb).1, J'.ok.exfs b hb, .inl hb, (fun x c e => (J'.ok.exf b hb).2 x c e), fun p hp => (by simp : p ∉ ([] : List (Addr × Obj)) ++ []).elim hp⟩
  refine codeAny_compStart_dict ?_ (T.self X.A 0 _ _ _ st4 ?_)
  all_goals
    refine compLoop_anyD (fun n t' => ∃ i H', Inv (X.blk t3 G3 sc ev ps) [] (wipe σ (own.map (·.2))) H' t' ∧ st i t'.heap ∧ (∀ b ∈ ps, H' b = none) ∧ W i n H') ?_ m0 ⟨0, G3, I4, st4, off, w0⟩
    rintro n t5 ⟨i, G5, I5, st5, n5, w5⟩
    rcases turn i n G5 w5 with ⟨stop, qq⟩ | ⟨go, Nx, hNx, step⟩
    · refine thnF (T.done (X.blk t3 G3 sc ev ps) rfl rfl rfl calm i [] t5 _ G5 (fun _ _ => False) I5 (here I5 n5) st5 stop) fun r t6 ⟨hr, I6⟩ => ?_
      subst hr
      have I7 : Inv X pn σ G5 t6 := I3.call' (ch := ps) I6.os I6.base I6.hok I6.bare fun b hb => match (out3 b hb).1 with | ⟨_, y1, y2, y3, y4⟩ => ⟨y3, y1, y4.1, y4.2⟩
      have fr : G5 t3.heap.objs.size = none := lE ▸ I6.free
      obtain ⟨m, hm, _⟩ := I6.loc
      exact fin D t3.heap.objs.size t6 m G5 I7 qq (lE ▸ hm) (I3.fpOk (Nat.le_refl _) fr)
    · refine thnF (T.item (X.blk t3 G3 sc ev ps) rfl rfl rfl calm i [] t5 _ G5 (fun _ _ => False) I5 (here I5 n5) st5 go) fun r t6 ⟨u, hr, h6⟩ => ?_
      subst hr
      refine thnF h6 fun _ t7 ⟨x, G7, I7, r7, y7, st7, n7⟩ => ?_
      refine thnF (gg.run _ t7 _ G7 x u _ (I7.pinned (here I7 n7) (T.obj _ _ st7)) r7 (step x G7 y7)) fun _ t8 ⟨σ8, G8, I8, e8, q8⟩ => ?_
      refine thnF (gt.run _ t8 σ8 G8 _ I8 q8) fun b t9 ⟨G9, I9, q9⟩ => ?_
      have back : ∀ {t' : Shared} {H' : Hp}, Inv (X.blk t3 G3 sc ev ps) ([] ++ pinsAt ps t7.heap) σ8 H' t' → Nx H' → ∃ m, m < n ∧ ∃ i H', Inv (X.blk t3 G3 sc ev ps) [] (wipe σ (own.map (·.2))) H' t' ∧ st i t'.heap ∧ (∀ b ∈ ps, H' b = none) ∧ W i m H' := fun {t' H'} J' nx => by
        obtain ⟨m', lt, w'⟩ := hNx H' nx
        have pin : ∀ b ∈ ps, ∀ o, t7.heap.get? b = some o → t'.heap.get? b = some o ∧ H' b = none := fun b hb o e =>
          match J'.pin (b, o) (List.mem_append_right _ (List.mem_append_right _ (mem_pinsAt hb e))) with | ⟨z1, z2, _⟩ => ⟨z1, z2⟩
        refine ⟨m', lt, i + 1, H', (J'.unpinned (pins := [])).weak (by rw [← e8, wipe_length]) (fun j v e => (wipe_some (e8 ▸ e)).1), T.keep _ _ _ st7 fun b hb o e => (pin b hb o e).1, fun b hb => ?_, w'⟩
        obtain ⟨o, e, _⟩ := T.obj _ _ st7 b hb
        exact (pin b hb o e).2
      cases b
      · rw [if_neg (fun z => nomatch z)] at q9 ⊢
        exact back I9 q9
      · rw [if_pos rfl] at q9 ⊢
        refine thnF (gk.run _ t9 σ8 G9 _ I9 q9) fun z t10 ⟨yk, G10, I10, r10, q10⟩ => ?_
        refine thnF (gv.run _ t10 σ8 G10 _ I10 q10) fun z2 t11 ⟨yv, G11, I11, r11, ws, k, q, ek, hq, hD, hl, nx⟩ => ?_
        subst ek
        cases r10
        exact put_tup (X := X.blk t3 G3 sc ev ps) hu I11 hD hq hl r11 fun t12 I12 => back I12 nx
theorem pe_dcT {ke ve te ie : Expr} {cs : List Expr} {sc : Scope} {own : List (Str × Nat)} {p0 : Pos} {wi : TI} {g : TG} {tt : L2.TT} {tk tv : TE} (hu : X.A.units + 1 < cLine) (calm : X.calm = true) (nd : X.N.Nodup) (PIe : PI X te ie wi) (B : BlkOk X.N X.env.scope sc own)
    (PGe : ∀ (t : Shared) (H : Hp) (C : Addr) (cl : List (Str × Addr)) (ps : List Addr), PG (X.blk t H sc (compEnvC sc cl C X.env) ps) te g) (PTe : ∀ (t : Shared) (H : Hp) (C : Addr) (cl : List (Str × Addr)) (ps : List Addr), PTs (X.blk t H sc (compEnvC sc cl C X.env) ps) cs tt)
    (PKe : ∀ (t : Shared) (H : Hp) (C : Addr) (cl : List (Str × Addr)) (ps : List Addr), PE (X.blk t H sc (compEnvC sc cl C X.env) ps) ke tk)
    (PVe : ∀ (t : Shared) (H : Hp) (C : Addr) (cl : List (Str × Addr)) (ps : List Addr), PE (X.blk t H sc (compEnvC sc cl C X.env) ps) ve tv) (fs : ∀ x, foldedSetIterable ie X.env x = pure x := by intro _; rfl) :
    PE X (.DictComp ke ve [⟨te, ie, cs, 0⟩] sc p0) (tDcT wi g tt tk tv (own.map (·.2))) := by
  refine ⟨fun pn t σ H Q I w => ?_⟩
  rw [arm_eval_DictComp]
  refine tup_comp hu calm nd I PIe B PGe PTe PKe PVe fs w fun D C t' m H' J q hm f => ⟨m, hm, fun h2 sb => ?_⟩
  exact match f with | ⟨y0, y1, _, y3, y4, y5⟩ => ⟨.ref D, H', J.turned (t' := t'.toks) (fun b o hb e => (sb.2 b hb).trans e) y0 y1 y3 y4 y5, rfl, q⟩
/-- list(d) of such a dict -/
def rLstT : List V → Hp → VK → Prop := fun xs H Q => ∃ d kvs, xs = [V.ref d] ∧ H d = some (.dT kvs) ∧ ∀ p bs, H p = none → IsKeys H kvs bs → Q (.ref p) (upd H p (.lst (bs.map V.ref)))
theorem q_lstT (calm : X.calm = true) : CallR X (.type "list") rLstT := by
  intro pn t σ H xs us Q I r h
  obtain ⟨d, kvs, e, hd, q⟩ := h
  exact call_list_dT calm pn t σ H xs us Q I r ⟨d, kvs, e, .inl hd, q⟩
end
end Lay
/-! LayZZ: any of a list of ints, the least of three ints, the readings of LayZ. -/
namespace Lay
open PySem PySem.Spec PyProof.Rows L2
theorem units1 {n m : Nat} (h : n + 64 < m) : n + 1 < m := Nat.lt_trans (Nat.add_lt_add_left (by decide) n) h
theorem plain_ints : ∀ ns : List Int, PyData.plainAll (ns.map PyData.int) = true
  | [] => rfl
  | n :: ns => by
    show PyData.plainAll (PyData.int n :: ns.map PyData.int) = true
    rw [PyData.plainAll, plain_ints ns]
    rfl
/-- any(xs) of a list of ints -/
def rAnyI (K : PySem.W.Frag) : List V → Hp → VK → Prop := fun vs H Q => ∃ (a : Addr) (ns : List Int), vs = [V.ref a] ∧ SqL K H a (ns.map V.int) ∧ Q (.bl (ns.any fun n => n != 0)) H
theorem cr_anyI {X : Cx} (hc : X.calm = true) : CallR X (.builtin "any") (rAnyI X.K) := by
  intro pins s σ H vs us Q I r h
  obtain ⟨a, ns, rfl, hs, q⟩ := h
  obtain ⟨its, rv, hl, _⟩ := I.list hs
  rw [Vals.ref1 r]
  refine PySem.W.any_list_data (I.ok.hd hc) hl.isList (xs := ns.map PyData.int) (by simpa using reads_ints rv) (plain_ints ns) (fun x hx => ?_) fun h' tk hk => ?_
  · obtain ⟨n, _, rfl⟩ := List.mem_map.mp hx
    trivial
  · rw [List.any_map]
    exact ⟨.bl _, H, I.kept hk, rfl, q⟩
theorem rd_anyI {K : PySem.W.Frag} {H : Hp} {Q : VK} {a : Addr} {ns : List Int} (h : SqL K H a (ns.map V.int)) (q : Q (.bl (ns.any fun n => n != 0)) H) : rAnyI K [V.ref a] H Q := ⟨a, ns, rfl, h, q⟩
/-- min(x, y, z) of ints -/
def rMn3 : List V → Hp → VK → Prop := fun xs H Q => ∃ i j k : Int, xs = [.int i, .int j, .int k] ∧ Q (.int (min (min i j) k)) H
theorem q_min3 {X : Cx} (hc : X.calm = true) : CallR X (.builtin "min") rMn3 := by
  intro pins s σ H xs us Q I r h
  obtain ⟨i, j, k, rfl, q⟩ := h
  refine call_min3Nu hc pins s σ H _ us Q I r ⟨_, _, _, .int (min (min i j) k), rfl, ?_, q⟩
  have e1 : nuMin2 (.int i) (.int j) = some (.int (min i j)) := by
    show some (if decide (j < i) = true then V.int j else V.int i) = _
    by_cases h : j < i
    · rw [decide_eq_true h, if_pos rfl, Int.min_eq_right (by omega)]
    · rw [decide_eq_false h, if_neg (fun z => nomatch z), Int.min_eq_left (by omega)]
  have e2 : ∀ m : Int, nuMin2 (.int m) (.int k) = some (.int (min m k)) := fun m => by
    show some (if decide (k < m) = true then V.int k else V.int m) = _
    by_cases h : k < m
    · rw [decide_eq_true h, if_pos rfl, Int.min_eq_right (by omega)]
    · rw [decide_eq_false h, if_neg (fun z => nomatch z), Int.min_eq_left (by omega)]
  show (nuMin2 (.int i) (.int j)).bind (fun m => nuMin2 m (.int k)) = _
  rw [e1]
  exact e2 _
theorem rd_min3 {H : Hp} {Q : VK} {i j k : Int} (q : Q (.int (min (min i j) k)) H) : rMn3 [V.int i, V.int j, V.int k] H Q := ⟨i, j, k, rfl, q⟩
/-- what such a comprehension asks once its dict stands at D -/
def DcAt (J : It) (g : TG) (tt : L2.TT) (tk tv : TE) (vs : List Nat) (σ : L2.St) (D : Addr) (H1 : Hp) (Q : VK) : Prop := ∃ W : Nat → Nat → Hp → Prop, (∃ m, W 0 m (upd H1 D (.dT []))) ∧ ∀ i m H, W i m H →
  (J.stop i H ∧ Q (.ref D) H) ∨ (J.go i H ∧ ∃ Nx : Hp → Prop, (∀ H', Nx H' → ∃ m', m' < m ∧ W (i + 1) m' H') ∧ ∀ x H', J.yld i H x H' → g x (wipe σ vs) H' fun σ2 H2 => wipe σ2 vs = wipe σ vs ∧ tt σ2 H2 fun b H3 =>
    if b = true then tk σ2 H3 fun y H4 => tv σ2 H4 fun z H5 => ∃ ws k q, y = .ref q ∧ H5 q = some (.tup (k.map kV)) ∧ H5 D = some (.dT ws) ∧ ws.length < sizeLine ∧ Nx (upd H5 D (.dT (putK ws k z))) else Nx H3)
theorem rd_dcT {σ : L2.St} {H : Hp} {Q : VK} {wi : TI} {g : TG} {tt : L2.TT} {tk tv : TE} {vs : List Nat} (q : wi σ H (fun J H1 => ∀ D, H1 D = none → DcAt J g tt tk tv vs σ D H1 Q)) : tDcT wi g tt tk tv vs σ H Q := q
theorem rd_lstT {H : Hp} {Q : VK} {d : Addr} {kvs : List (List Key × V)} (h : H d = some (.dT kvs)) (q : ∀ p bs, H p = none → IsKeys H kvs bs → Q (.ref p) (upd H p (.lst (bs.map V.ref)))) : rLstT [V.ref d] H Q := ⟨d, kvs, rfl, h, q⟩
/-- the pairs of the first n -/
def putN (ks : Nat → List Key) (zs : Nat → V) : Nat → List (List Key × V)
  | 0 => []
  | n + 1 => putK (putN ks zs n) (ks n) (zs n)
theorem putN_len (ks : Nat → List Key) (zs : Nat → V) : ∀ n, (putN ks zs n).length ≤ n
  | 0 => Nat.le_refl 0
  | n + 1 => Nat.le_trans (length_putK _ _ _) (Nat.succ_le_succ (putN_len ks zs n))
/-- {k(x): v(x) for x in ..}, what stands stays -/
theorem dc_same {σ : L2.St} {H1 : Hp} {Q : VK} {J : It} {n : Nat} {G : Hp → Prop} {item : Nat → V} (w : Wk J n G item) {i : Nat} {tk tv : TE} {E : Addr} (hn : n ≤ 1000) (hE : H1 E = none) (hG : ∀ H', Same H1 H' → G H') (ks : Nat → List Key) (zs : Nat → V)
    (hk : ∀ j, j < n → ∀ H', Same H1 H' → ∀ R : VK, (∀ q H'', Same H' H'' → H'' q = some (.tup ((ks j).map kV)) → R (.ref q) H'') → tk ((wipe σ [i]).set i (some (item j))) H' R)
    (hv : ∀ j, j < n → ∀ H', Same H1 H' → ∀ R : VK, (∀ H'', Same H' H'' → R (zs j) H'') → tv ((wipe σ [i]).set i (some (item j))) H' R)
    (hd : ∀ H', Same H1 H' → H' E = some (.dT (putN ks zs n)) → Q (.ref E) H') : DcAt J (gName i) tYes tk tv [i] σ E H1 Q := by
  refine ⟨fun k m H' => m = n - k ∧ k ≤ n ∧ Same H1 H' ∧ H' E = some (.dT (putN ks zs k)), ⟨n, rfl, Nat.zero_le _, same_up hE (Same.refl H1), upd_same⟩, ?_⟩
  rintro k m H' ⟨rfl, hle, hs, hl⟩
  by_cases hlt : k < n
  · refine Or.inr ⟨w.go k H' (hG H' hs) hlt, fun H'' => Same H1 H'' ∧ H'' E = some (.dT (putN ks zs (k + 1))), fun H'' h => ⟨n - (k + 1), by omega, rfl, hlt, h.1, h.2⟩, fun x H2 hy => ?_⟩
    obtain ⟨rfl, rfl⟩ := w.yld k H' x H2 (hG H' hs) hlt hy
    refine ⟨wipe1 σ i _, ?_⟩
    refine rd_yes ?_
    refine rd_ifb (fun _ => ?_) (fun z => nomatch z)
    refine hk k hlt H2 hs _ fun q H3 s3 hq => ?_
    refine hv k hlt H3 (hs.trans s3) _ fun H4 s4 => ?_
    refine ⟨_, ks k, q, rfl, s4 _ _ hq, s4 _ _ (s3 _ _ hl), Nat.lt_of_le_of_lt (Nat.le_trans (putN_len ks zs k) (by omega : k ≤ 1000)) (by decide), same_up hE ((hs.trans s3).trans s4), upd_same⟩
  · obtain rfl : k = n := by omega
    exact Or.inl ⟨w.stop H' (hG H' hs), hd H' hs hl⟩
theorem putN_one (k : List Key) (z : V) : ∀ n, putN (fun _ => k) (fun _ => z) (n + 1) = [(k, z)]
  | 0 => rfl
  | n + 1 => by
    rw [putN, putN_one k z n]
    simp [putK]
end Lay
namespace Lay
open PySem PySem.Spec PyProof.Rows L2
/-- for x in e, e a list or a tuple -/
def iSeq (K : PySem.W.Frag) (te : TE) : TI := fun σ H R => te σ H fun x H1 => ∃ a, x = .ref a ∧ (((∃ xs, SqL K H1 a xs) ∧ R (Itl K a) H1) ∨ ((∃ xs, SqT K H1 a xs) ∧ R (Itt K a) H1))
theorem pi_seq {X : Cx} {tg e : Expr} {te : TE} (he : PE X e te) : PI X tg e (iSeq X.K te) := by
  constructor
  intro pn t σ H R I w
  refine thn (he.run pn t σ H _ I w) ?_
  rintro v t1 ⟨x, H1, J, rv, a, rfl, w1⟩
  cases (show v = Value.ref a from rv)
  have it : ∀ b ∈ [t1.heap.objs.size], FpOk X pn H1 b := fun b hb => by
    cases List.mem_singleton.mp hb
    exact J.fpOk (Nat.le_refl _) (J.hok.fresh (Nat.le_refl _))
  have J2 : ∀ o : Obj, L2.Inv X pn σ H1 { t1 with heap := t1.heap.push o } := fun o => J.kept (t' := t1.toks) fun _ _ q => Heap.get?_push_of_some _ q
  rcases w1 with ⟨⟨xs, hs⟩, w2⟩ | ⟨⟨xs, hs⟩, w2⟩
  · obtain ⟨its, _, p, _⟩ := J.list hs
    refine wpAny_pyIter_list p.isList ?_
    exact ⟨t1.heap.objs.size, [t1.heap.objs.size], _, _, H1, rfl, J2 _, turn_list a _, ⟨_, Heap.get?_push_size _ rfl, rfl, rfl⟩, it, w2⟩
  · obtain ⟨its, _, p, _⟩ := J.tuple hs
    refine wpAny_pyIter_tuple (items := its.toArray) p ?_
    exact ⟨t1.heap.objs.size, [t1.heap.objs.size], _, _, H1, rfl, J2 _, turn_tuple a _, ⟨_, Heap.get?_push_size _ rfl, rfl, rfl⟩, it, w2⟩
theorem pi_seqK {X : Cx} {tg e : Expr} {te : TE} {K : PySem.W.Frag} (h : X.K = K) (he : PE X e te) : PI X tg e (iSeq K te) := by
  subst h
  exact pi_seq he
theorem rd_iSeqL {K : PySem.W.Frag} {te : TE} {σ : L2.St} {H : Hp} {R : It → Hp → Prop} (q : te σ H fun x H1 => ∃ a, x = .ref a ∧ (((∃ xs, SqL K H1 a xs) ∧ R (Itl K a) H1) ∨ ((∃ xs, SqT K H1 a xs) ∧ R (Itt K a) H1))) : iSeq K te σ H R := q
end Lay
namespace Lay
open PySem PySem.Spec PyProof.Rows L2
theorem nodup_by {l : List Addr} (h : ∀ a b, a < b → b < l.length → l[a]? ≠ l[b]?) : l.Nodup := List.pairwise_iff_getElem.mpr fun i j hi hj hij z => h i j hij hj (by rw [List.getElem?_eq_getElem hi, List.getElem?_eq_getElem hj, z])
theorem nd_get {l : List Addr} (h : l.Nodup) : ∀ a b, a < b → b < l.length → l[a]? ≠ l[b]? := fun a b hab hb z => by
  rw [List.getElem?_eq_getElem hb, List.getElem?_eq_getElem (show a < l.length by omega)] at z
  exact List.pairwise_iff_getElem.mp h a b (by omega) hb hab (Option.some.inj z)
/-- a list of rows, each another list -/
structure Rs (H : Hp) (p : Addr) (rs : List Addr) (X : List (List Int)) : Prop where
  at_ : H p = some (.lst (rs.map V.ref))
  len : rs.length = X.length
  nd : rs.Nodup
  np : p ∉ rs
  row : ∀ (i : Nat) (r : Addr) (row : List Int), rs[i]? = some r → X[i]? = some row → H r = some (.lst (row.map V.int))
theorem Rs.keep {H H' : Hp} {p : Addr} {rs : List Addr} {X : List (List Int)} (h : Rs H p rs X) (k : ∀ b, b = p ∨ b ∈ rs → ∀ o, H b = some o → H' b = some o) : Rs H' p rs X :=
  ⟨k p (Or.inl rfl) _ h.at_, h.len, h.nd, h.np, fun i r row e1 e2 => k r (Or.inr (List.mem_of_getElem? e1)) _ (h.row i r row e1 e2)⟩
theorem Rs.same {H H' : Hp} {p : Addr} {rs : List Addr} {X : List (List Int)} (s : Same H H') (h : Rs H p rs X) : Rs H' p rs X := h.keep fun b _ o e => s b o e
theorem Rs.get {H : Hp} {p : Addr} {rs : List Addr} {X : List (List Int)} {i : Nat} (h : Rs H p rs X) (hi : i < X.length) : ∃ r, rs[i]? = some r ∧ r ∈ rs ∧ r ≠ p ∧ H r = some (.lst ((X.getD i []).map V.int)) := by
  have hi2 : i < rs.length := by rw [h.len]; exact hi
  have e := List.getElem?_eq_getElem hi2
  refine ⟨rs[i], e, List.getElem_mem hi2, fun z => h.np (z ▸ List.getElem_mem hi2), ?_⟩
  have e2 : X[i]? = some (X.getD i []) := by rw [List.getD_eq_getElem?_getD, List.getElem?_eq_getElem hi]; rfl
  exact h.row i _ _ e e2
/-- a row's list is written anew -/
theorem Rs.put {H : Hp} {p : Addr} {rs : List Addr} {X : List (List Int)} {i : Nat} {r : Addr} {row : List Int} (h : Rs H p rs X) (e : rs[i]? = some r) : Rs (upd H r (.lst (row.map V.int))) p rs (X.set i row) := by
  have np : p ≠ r := fun z => h.np (z ▸ List.mem_of_getElem? e)
  refine ⟨up_oth np h.at_, by rw [List.length_set]; exact h.len, h.nd, h.np, fun j q row' e1 e2 => ?_⟩
  by_cases hj : j = i
  · subst hj
    rw [e] at e1
    cases e1
    rw [List.getElem?_set_self (by rw [← h.len]; exact (List.getElem?_eq_some_iff.mp e).1)] at e2
    cases e2
    exact upd_same
  · rw [List.getElem?_set_ne (Ne.symm hj)] at e2
    refine up_oth (fun z => hj ?_) (h.row j q row' e1 e2)
    subst z
    have h1 := (List.getElem?_eq_some_iff.mp e1)
    have h2 := (List.getElem?_eq_some_iff.mp e)
    exact (List.getElem_inj h.nd).mp (h1.2.trans h2.2.symm)
/-- another list in the place of a row -/
theorem Rs.swap {H : Hp} {p q : Addr} {rs : List Addr} {X : List (List Int)} {i : Nat} {row : List Int} (h : Rs H p rs X) (hi : i < rs.length) (hq : H q = some (.lst (row.map V.int))) (nq : q ∉ rs) (nqp : q ≠ p) : Rs (upd H p (.lst ((rs.set i q).map V.ref))) p (rs.set i q) (X.set i row) := by
  have mem : ∀ b, b ∈ rs.set i q → b = q ∨ b ∈ rs := fun b hb => (List.mem_or_eq_of_mem_set hb).symm
  refine ⟨upd_same, by rw [List.length_set, List.length_set, h.len], ?_, fun hb => (mem p hb).elim (fun z => nqp z.symm) h.np, fun j b row' e1 e2 => ?_⟩
  · refine nodup_by fun a b hab hb => ?_
    rw [List.length_set] at hb
    intro z
    by_cases ha : a = i
    · subst ha
      rw [List.getElem?_set_self hi, List.getElem?_set_ne (by omega)] at z
      exact nq (List.mem_of_getElem? z.symm)
    · by_cases hb2 : b = i
      · subst hb2
        rw [List.getElem?_set_self hi, List.getElem?_set_ne (by omega)] at z
        exact nq (List.mem_of_getElem? z)
      · rw [List.getElem?_set_ne (Ne.symm ha), List.getElem?_set_ne (Ne.symm hb2)] at z
        exact nd_get h.nd a b hab hb z
  · by_cases hj : j = i
    · subst hj
      rw [List.getElem?_set_self hi] at e1
      cases e1
      rw [List.getElem?_set_self (by rw [← h.len]; exact hi)] at e2
      cases e2
      exact up_oth nqp hq
    · rw [List.getElem?_set_ne (Ne.symm hj)] at e1 e2
      exact up_oth (fun z => h.np (z ▸ List.mem_of_getElem? e1)) (h.row j b row' e1 e2)
/-- two rows exchanged -/
theorem Rs.xch {H H' : Hp} {p : Addr} {rs : List Addr} {X : List (List Int)} {i j : Nat} {x y : Addr} {r s : List Int} (h : Rs H p rs X) (s' : Same H H') (hx : rs[i]? = some x) (hy : rs[j]? = some y) (hr : X[i]? = some r) (hs : X[j]? = some s) : Rs (upd H' p (.lst (((rs.map V.ref).set i (.ref y)).set j (.ref x)))) p ((rs.set i y).set j x) ((X.set i s).set j r) := by
  have li := (List.getElem?_eq_some_iff.mp hx).1
  have lj := (List.getElem?_eq_some_iff.mp hy).1
  have em : ((rs.set i y).set j x).map V.ref = ((rs.map V.ref).set i (.ref y)).set j (.ref x) := by rw [List.map_set, List.map_set]
  have mem : ∀ b, b ∈ (rs.set i y).set j x → b ∈ rs := fun b hb => by
    rcases List.mem_or_eq_of_mem_set hb with z | z
    · rcases List.mem_or_eq_of_mem_set z with z | z
      · exact z
      · exact z ▸ List.mem_of_getElem? hy
    · exact z ▸ List.mem_of_getElem? hx
  have get : ∀ a, ((rs.set i y).set j x)[a]? = if a = j then some x else if a = i then some y else rs[a]? := fun a => by
    by_cases h1 : a = j
    · subst h1
      rw [if_pos rfl, List.getElem?_set_self (by rw [List.length_set]; exact lj)]
    · rw [if_neg h1, List.getElem?_set_ne (Ne.symm h1)]
      by_cases h2 : a = i
      · subst h2
        rw [if_pos rfl, List.getElem?_set_self li]
      · rw [if_neg h2, List.getElem?_set_ne (Ne.symm h2)]
  have getX : ∀ a, ((X.set i s).set j r)[a]? = if a = j then some r else if a = i then some s else X[a]? := fun a => by
    by_cases h1 : a = j
    · subst h1
      rw [if_pos rfl, List.getElem?_set_self (by rw [List.length_set, ← h.len]; exact lj)]
    · rw [if_neg h1, List.getElem?_set_ne (Ne.symm h1)]
      by_cases h2 : a = i
      · subst h2
        rw [if_pos rfl, List.getElem?_set_self (by rw [← h.len]; exact li)]
      · rw [if_neg h2, List.getElem?_set_ne (Ne.symm h2)]
  have inj : ∀ {a b : Nat} {u : Addr}, rs[a]? = some u → rs[b]? = some u → a = b := fun {a b u} ha hb => (List.getElem_inj h.nd).mp ((List.getElem?_eq_some_iff.mp ha).2.trans (List.getElem?_eq_some_iff.mp hb).2.symm)
  refine ⟨by rw [upd_same, em], by rw [List.length_set, List.length_set, List.length_set, List.length_set, h.len], ?_, fun hb => h.np (mem p hb), fun a b row e1 e2 => ?_⟩
  · refine nodup_by fun a b hab hb => ?_
    rw [List.length_set, List.length_set] at hb
    rw [get, get]
    intro z
    have ha : rs[a]? = some rs[a] := List.getElem?_eq_getElem (by omega)
    have hb' : rs[b]? = some rs[b] := List.getElem?_eq_getElem hb
    by_cases a1 : a = j
    · subst a1
      rw [if_pos rfl] at z
      by_cases b2 : b = i
      · subst b2
        rw [if_neg (by omega), if_pos rfl] at z
        exact absurd (inj hx (z ▸ hy)) (by omega)
      · rw [if_neg (by omega), if_neg b2] at z
        exact b2 (inj z.symm hx)
    · rw [if_neg a1] at z
      by_cases a2 : a = i
      · subst a2
        rw [if_pos rfl] at z
        by_cases b1 : b = j
        · subst b1
          rw [if_pos rfl] at z
          exact absurd (inj hx (z ▸ hy)) (by omega)
        · rw [if_neg b1, if_neg (by omega)] at z
          exact b1 (inj z.symm hy)
      · rw [if_neg a2] at z
        by_cases b1 : b = j
        · rw [if_pos b1] at z
          exact a2 (inj z hx)
        · rw [if_neg b1] at z
          by_cases b2 : b = i
          · rw [if_pos b2] at z
            exact a1 (inj z hy)
          · rw [if_neg b2] at z
            rw [hb'] at z
            exact absurd (inj z hb') (by omega)
  · rw [get] at e1
    rw [getX] at e2
    have b0 : b ≠ p := fun z => h.np (z ▸ (by
      by_cases a1 : a = j
      · rw [if_pos a1] at e1
        cases e1
        exact List.mem_of_getElem? hx
      · rw [if_neg a1] at e1
        by_cases a2 : a = i
        · rw [if_pos a2] at e1
          cases e1
          exact List.mem_of_getElem? hy
        · rw [if_neg a2] at e1
          exact List.mem_of_getElem? e1))
    refine up_oth b0 (s' _ _ ?_)
    by_cases a1 : a = j
    · rw [if_pos a1] at e1 e2
      cases e1
      cases e2
      exact h.row i _ _ hx hr
    · rw [if_neg a1] at e1 e2
      by_cases a2 : a = i
      · rw [if_pos a2] at e1 e2
        cases e1
        cases e2
        exact h.row j _ _ hy hs
      · rw [if_neg a2] at e1 e2
        exact h.row a b row e1 e2
end Lay
/-! LayL: t[::-1] of a tuple, () * k. -/
namespace Lay
open PySem PySem.Spec PyProof.Rows L2 HT
section
variable {prog : Program} {w : World} {A : Around} {E : Value → Shared → Prop} {s : Shared}
theorem back_cut {sl : Addr} {c : Value} {n : Nat} {Q : Int × Int × Nat → Shared → Prop} (hs : s.heap.IsSliceOf sl .none .none c) (pc : IsPart c (some (-1)))
    (h : Q ((n : Int) - 1, -1, n) s) : wpAny (model prog w) A (Builtin.Slice.sliceApplied (.ref sl) (pure (n : Int))) Q E s := by
  obtain ⟨os, e1, e2, e3⟩ := id hs
  unfold Builtin.Slice.sliceApplied Builtin.Slice.sliceFields
  refine wpAny_bind (wpAny_bind (wpAny_field e1 e3 (x := .none) rfl (wpAny_bind (wpAny_field e1 e3 (x := .none) rfl (wpAny_bind (wpAny_field e1 e3 (x := c) rfl (wpAny_pure ?_)))))))
  refine wpAny_bind (slicePart_ pc ?_)
  show wpAny _ _ (if ((-1 : Int) == 0) = true then _ else _) _ _ s
  rw [if_neg (by decide : ¬ (((-1 : Int) == 0) = true))]
  refine wpAny_bind (slicePart_none (wpAny_bind (slicePart_none (wpAny_bind (wpAny_pure ?_)))))
  have ep : Builtin.Slice.slicePlaces ((n : Int) - 1) (-1) (-1) = n := by
    unfold Builtin.Slice.slicePlaces
    rw [if_neg (by decide : ¬ ((-1 : Int) > 0))]
    by_cases z : n = 0
    · subst z
      rfl
    · rw [if_pos (show (n : Int) - 1 > -1 by omega), show (-(-1) : Int) = 1 from rfl, Int.ediv_one]
      omega
  show wpAny _ _ (pure ((n : Int) - 1, (-1 : Int), Builtin.Slice.slicePlaces ((n : Int) - 1) (-1) (-1))) _ _ s
  rw [ep]
  exact wpAny_pure h
theorem back_pick (xs : Array Value) : ((List.range xs.size).filterMap fun (k : Nat) => xs[((xs.size : Int) - 1 + (k : Int) * -1).toNat]?) = xs.toList.reverse := by
  have e1 : ((List.range xs.size).filterMap fun (k : Nat) => xs[((xs.size : Int) - 1 + (k : Int) * -1).toNat]?) = (List.range xs.size).map fun k => xs.toList.reverse.getD k .none := by
    have gen : ∀ (l : List Nat) (f : Nat → Option Value) (g : Nat → Value), (∀ k ∈ l, f k = some (g k)) → l.filterMap f = l.map g := fun l f g h => by
      induction l with
      | nil => rfl
      | cons x l ih => rw [List.filterMap_cons, h x List.mem_cons_self, List.map_cons, ih fun k hk => h k (List.mem_cons_of_mem _ hk)]
    refine gen _ _ _ fun k hk => ?_
    have hk := List.mem_range.mp hk
    have e2 : ((xs.size : Int) - 1 + (k : Int) * -1).toNat = xs.size - 1 - k := by omega
    rw [e2, List.getD_eq_getElem?_getD, List.getElem?_reverse (by rw [Array.length_toList]; exact hk), Array.length_toList, Array.getElem?_toList]
    show _ = some _
    rw [Array.getElem?_eq_getElem (show xs.size - 1 - k < xs.size by omega)]
    rfl
  rw [e1]
  have e3 := range_getD Value.none xs.toList.reverse
  rw [List.length_reverse, Array.length_toList] at e3
  exact e3
theorem back_item {t sl : Addr} {items : Array Value} {c : Value} {Q : Value → Shared → Prop} (ht : IsTup s.heap t items) (hs : s.heap.IsSliceOf sl .none .none c) (pc : IsPart c (some (-1)))
    (h : Q (.ref s.heap.objs.size) { s with heap := s.heap.push { cls := .type "tuple", data := .seq items.toList.reverse.toArray } }) (hz : items.size ≤ sizeLine) : wpAny (model prog w) A (getItem (.ref t) (.ref sl)) Q E s := by
  have big : sizeOk (.seq items.toList.reverse.toArray) := by
    show items.toList.reverse.toArray.size ≤ sizeLine
    rw [List.size_toArray, List.length_reverse, Array.length_toList]
    exact hz
  obtain ⟨os, e1, e2, _⟩ := id hs
  have ts : s.TypeIs (.ref sl) "slice" := ⟨os, e1, e2⟩
  unfold getItem
  have tt := ht.typeIs
  refine wpAny_holding (wpAny_bind (wpAny_sequenceKey tt (by decide) ?_))
  refine wpAny_bind (wpAny_callSpecial?_slot (name := Str.ofString "__getitem__") tt PyProof.Rows.slot_tuple_getitem (wpAny_call_entry PyProof.Rows.slot_tuple_getitem tt entry_tuple_getitem ?_ (args_tuple_getitem _ _)))
  show wpAny _ _ (Builtin.Tuple.tupleItemsOf (.ref t) >>= _) _ _ s
  refine wpAny_bind (tupleItemsOf_ ht (wpAny_bind (wpAny_typeOf ts ?_)))
  rw [if_pos (by decide)]
  refine wpAny_bind (back_cut hs pc ?_)
  show wpAny _ _ (if (((items.size : Int) - 1 == 0) && ((-1 : Int) == 1) && (items.size == items.size)) = true then _ else _) _ _ s
  rw [if_neg (by rw [Bool.and_eq_true, Bool.and_eq_true]; exact fun z => absurd z.1.2 (by decide)), back_pick]
  refine wpAny_bind (m := Builtin.Tuple.tupleExact _) (wpAny_newObj_type (wpAny_pure ?_) big)
  exact ⟨_, rfl, wpAny_pure h⟩
end
section
variable {X : Cx}
def tRevT (K : PySem.W.Frag) (te : TE) : TE := fun σ H Q => te σ H fun x H1 => ∃ a xs, x = .ref a ∧ SqT K H1 a xs ∧ ∀ p, H1 p = none → Q (.ref p) (upd H1 p (.tup xs.reverse))
theorem pe_revT {e : Expr} {te : TE} {k : Nat} {p1 p2 p3 pos : Pos} (he : PE X e te) : PE X (.Subscript e (.Slice none none (some (.UnaryOp .USub (.Constant (.int 1) k p1) p2)) p3) pos) (tRevT X.K te) := by
  constructor
  intro pins s σ H Q I h
  refine Subscript_ (thn (he.run pins s σ H _ I h) fun v s1 ⟨x, H1, I1, r1, a, xs, ex, hx, q⟩ => ?_)
  subst ex
  cases r1
  have step : PO X (some (.UnaryOp .USub (.Constant (.int 1) k p1) p2)) (tPart (tUn (rU fun i => .int (-i)) (tC (.int 1)))) := po_some (pe_un un_neg pe_int)
  refine wpAny_Slice (thn (po_none.run pins s1 σ H1 (fun o G => o = none ∧ G = H1) I1 ⟨rfl, rfl⟩) fun vl s2 ⟨o2, H2, I2, pl, f1, f2⟩ => ?_)
  subst f1 f2
  refine thn (po_none.run pins s2 σ H2 (fun o G => o = none ∧ G = H2) I2 ⟨rfl, rfl⟩) fun vu s3 ⟨o3, H3, I3, pu, f1, f2⟩ => ?_
  subst f1 f2
  refine thn (step.run pins s3 σ H3 (fun o G => o = some (-1) ∧ G = H3) I3 ⟨1, rfl, -1, rfl, rfl, rfl⟩) fun vs s4 ⟨o4, H4, I4, ps, f1, f2⟩ => ?_
  subst f1 f2
  cases pl
  cases pu
  generalize hs5 : ({ s4 with heap := s4.heap.push { cls := .type "slice", data := .fields #[Value.none, Value.none, vs] } } : Shared) = s5
  have I5 : Inv X pins σ H4 s5 := by
    subst hs5
    exact I4.kept (t' := s4.toks) fun b ob q => Heap.get?_push_of_some _ q
  obtain ⟨its, r, ht, hz⟩ := I5.tuple hx
  have hsl : s5.heap.IsSliceOf s4.heap.objs.size .none .none vs := by
    subst hs5
    exact Heap.IsSliceOf.new _ _ _ vs
  show wpAny (model X.prog X.w) X.A (subscriptTail e (.Slice none none (some (.UnaryOp .USub (.Constant (.int 1) k p1) p2)) p3) (.ref a) (.ref s4.heap.objs.size)) (EP X pins σ Q) X.xe s5
  refine tail_any (ops := [.ref a, .ref s4.heap.objs.size]) ht.typeIs PyProof.Rows.slot_tuple_getitem.lookup (back_item ht hsl ps ?_ (by rw [List.size_toArray, ← r.length]; exact hz)) (by with_unfolding_all rfl)
  refine ⟨.ref s5.heap.objs.size, upd H4 s5.heap.objs.size (.tup xs.reverse), I5.laid (t' := s5.toks) (fun b ob z => Heap.get?_push_of_some _ z) (Nat.le_refl _) ?_, rfl, q _ (I5.hok.fresh (Nat.le_refl _))⟩
  exact ⟨by rw [List.length_reverse]; exact hz, _, r.reverse, IsTup.new _ _⟩
end
end Lay
namespace Lay
open PySem PySem.Spec PyProof.Rows L2
theorem mul_none (l : Addr) (n : Nat) (dd : Option Addr) (sl : Array (Option Value)) (x : Int) (u : Tok) (hx : (decide (x < -(2 ^ 63)) || decide (x ≥ 2 ^ 63)) = false) :
    Meets (Builtin.«tuple.__mul__» ⟨[.ref l, .int x u], []⟩) (fun _ R s => s.heap.get? l = some { cls := .type "tuple", dict := dd, data := .seq #[] n, slots := sl } ∧ R (.ok (.ret (.ref l))) s) :=
  .of_wp fun prog w A R s h => by
    obtain ⟨hp, g, d, tk, os⟩ := s
    obtain ⟨hl, h⟩ := h
    have f1 := AutoSeq1.idx_int
    wp_walk using wpAny_loadPart' hl
    refine wpAny_ite_false (decide_eq_false (by rw [hx]; decide)) ?_
    wp_walk using wpAny_loadPart' hl
    repeat (first | (refine wpAny_ite_true rfl ?_; wp_walk using wpAny_loadPart' hl))
    exact ⟨_, rfl, h⟩
section
variable {X : Cx}
/-- a tuple times an int, the empty one too -/
def rRepE (K : PySem.W.Frag) : R2 := fun x y H Q => ∃ l k xs, x = .ref l ∧ y = .int k ∧ SqT K H l xs ∧ 2 ≤ k ∧ k ≤ 1000 ∧ xs.length ≤ 1000 ∧ (xs = [] → Q (.ref l) H) ∧ ∀ p, H p = none → Q (.ref p) (upd H p (.tup (List.replicate k.toNat xs).flatten))
theorem op_repE : OpR X (binaryOp .Mult) (rRepE X.K) := by
  intro pins s σ H x y v u Q I rx ry h
  obtain ⟨l, k, xs, rfl, rfl, hT, h1, h2, hz, q0, q⟩ := h
  by_cases hne : xs = []
  · subst hne
    cases rx
    obtain ⟨t, rfl⟩ := ry
    obtain ⟨its, r, ⟨⟨c, dd, dt, sl⟩, ho, hc, n, hd⟩, _⟩ := I.tuple hT
    cases r
    dsimp only at hc hd
    subst hc hd
    have h0 : (decide (k < -(2 ^ 63)) || decide (k ≥ 2 ^ 63)) = false := by
      rw [decide_eq_false (show ¬ k < -(2 ^ 63) by omega), decide_eq_false (show ¬ k ≥ 2 ^ 63 by omega)]
      rfl
    exact wpAny_binaryOp_repeat_ref (T := "tuple") (U := "int") (by decide) ⟨_, ho, rfl⟩ (fun s' => typeIs_int s' k t) noFill_tuple_mul F.fills_int_mul F.slot_int_rmul repeat_tuple F.slot_int_index.lookup
      (call_meets F.slot_int_rmul (typeIs_int s k t) F.entry_int_rmul (F.args_int_rmul_2 _ _) (int_rmul_tuple k t l #[] n dd sl) ⟨ho, rfl, ⟨_, ho, rfl⟩, call_meets F.slot_tuple_mul ⟨_, ho, rfl⟩ F.entry_tuple_mul (F.args_tuple_mul_2 _ _) (mul_none l n dd sl k t h0) ⟨ho, ⟨.ref l, H, I, rfl, q0 rfl⟩⟩⟩)
  · exact op_repT pins s σ H _ _ v u Q I rx ry ⟨l, k, xs, rfl, rfl, hT, hne, h1, h2, hz, q⟩
end
end Lay
/-! LayM: enumerate over a list or a tuple. -/
namespace Lay
open PySem PySem.Spec PyProof.Rows L2
open Sem (wp)
theorem enum_made {v : Value} {o : Obj} {H : Heap → Prop} (B : Begins v o H) :
    Meets (Builtin.«enumerate.__new__» ⟨[.type "enumerate", v], []⟩) (fun _ R s => H s.heap ∧ R (.ok (.ret (.ref (s.heap.push o).objs.size))) { s with heap := (s.heap.push o).push { cls := .type "enumerate", data := .fields #[.none, .bool false, .ref s.heap.objs.size, rawInt 0, .none, .none] } }) :=
  .of_wp fun prog w A R s h => by
    obtain ⟨hp, g, d, tk, os⟩ := s
    obtain ⟨ok, h⟩ := h
    have hsub := sub_enumerate
    have begin' : ∀ {A' : Around} {E Q : Value → Shared → Prop}, Q (.ref hp.objs.size) ⟨hp.push o, g, d, tk, os⟩ → wpAny (model prog w) A' (pyIter v) Q E ⟨hp, g, d, tk, os⟩ := fun q => B.iter prog w _ _ ⟨hp, g, d, tk, os⟩ _ ok q
    wp_walk using begin'
    refine wpAny_stack_any fun st => wpAny_pure ?_
    split
    · rename_i c _ _ _ _ _
      cases (c == Value.type "enumerate") <;> (wp_walk using begin'; exact ⟨_, rfl, h⟩)
    · wp_walk using begin'; exact ⟨_, rfl, h⟩
section
variable {prog : Program} {w : World} {A : Around} {E : Value → Shared → Prop} {s : Shared}
theorem enum_call {v : Value} {o : Obj} {H : Heap → Prop} {Q : Value → Shared → Prop} (B : Begins v o H) (ok : H s.heap)
    (h : ∀ G, IsEnum G (s.heap.objs.size + 1) s.heap.objs.size 0 .none → G.get? s.heap.objs.size = some o → (∀ b o, s.heap.get? b = some o → G.get? b = some o) → Q (.ref (s.heap.objs.size + 1)) { s with heap := G }) : wpAny (model prog w) A (call (.type "enumerate") [v]) Q E s := by
  refine callType_new F.called_enumerate (by decide) (F.typeCall_enumerate_1 _) (F.newCall_enumerate_1 _) (fun obj => F.args_object_init_2 obj _) F.entry_enumerate_new (enum_made B) ⟨ok, ?_⟩
  have z : (s.heap.push o).objs.size = s.heap.objs.size + 1 := Heap.size_push ..
  have e0 := Heap.get?_push_size (s.heap.push o) (o := { cls := .type "enumerate", data := .fields #[.none, .bool false, .ref s.heap.objs.size, rawInt 0, .none, .none] }) rfl
  show _ ∧ _
  rw [z] at e0 ⊢
  exact ⟨⟨_, e0, rfl⟩, h _ e0 (Heap.get?_push_of_some _ (Heap.get?_push_size _ B.free)) fun b o x => Heap.get?_push_of_some _ (Heap.get?_push_of_some _ x)⟩
end
/-- what stands at a, each item beside its number in a new pair -/
def Iem (K : PySem.W.Frag) (k1 : Bool) (a : Addr) : It :=
  ⟨fun n H => ∃ xs x, Kq K H k1 a xs ∧ xs[n]? = some x,
    fun n H v H' => ∃ T x, (v = .ref T ∧ H T = none ∧ H' = upd H T (.tup [.int (n : Nat), x])) ∧ ∀ xs, Kq K H k1 a xs → xs[n]? = some x,
    fun n H => ∃ xs, Kq K H k1 a xs ∧ n = xs.length⟩
theorem turn_em {P : Program} {w : World} {K : PySem.W.Frag} {elts : List Expr} {kk : Nat} {tp : Pos} {k1 : Bool} {a e j : Addr} (nej : e ≠ j) (nea : e ≠ a) (na : a ≠ j) :
    Turn P w K (.Tuple elts kk tp) (Iem K k1 a) [e, j] e (fun n h => (∃ old, IsEnum h e j (n : Nat) old) ∧ itAt k1 h j a n) where
  mem := List.mem_cons_self
  obj := fun n h ⟨⟨old, q1⟩, q2⟩ c hc => by
    rcases (by simpa using hc : c = e ∨ c = j) with rfl | rfl
    · exact ⟨_, q1, fun _ y => nomatch y⟩
    · exact itAt_ob q2
  keep := fun n h h' ⟨⟨old, q1⟩, q2⟩ st => ⟨⟨old, st e (by simp) _ q1⟩, itAt_keep (st j (by simp)) q2⟩
  item := by
    intro X eP ew eK hc n pins s σ H E I fp ⟨⟨old, q1⟩, q2⟩ hgo
    subst eP ew eK
    obtain ⟨xs, x, ka, gx⟩ := hgo
    obtain ⟨its, rv, sa, la⟩ := kd_of I ka
    obtain ⟨u, gu, ru⟩ := rv.get gx
    have e1 : its.toArray[n]? = some u := by simpa using gu
    have el : e < s.heap.objs.size := Heap.lt_size q1
    have jl : j < s.heap.objs.size := by
      obtain ⟨o, g, _⟩ := itAt_ob q2
      exact Heap.lt_size g
    refine wpAny_pyNext_enum_itemD (kd_draws (A := X.A.in1) (I.ok.hd hc) j a na its.toArray k1) q1 ⟨q2, sa⟩ (Array.getElem?_eq_some_iff.mp e1).1 nej (fun z => by rcases List.mem_cons.mp z with z | z; exact nej z; exact nea (List.mem_singleton.mp z)) fun x1 h1 tk p1 z1 d1 hT _ st => ?_
    obtain rfl : u = x1 := Option.some.inj (e1.symm.trans p1)
    refine ⟨_, rfl, wpAny_letOwnedTupleGo_enum (s := { s with heap := h1, toks := tk + 1 }) z1 fun h2 z3 sb => ?_⟩
    have eT : s.heap.objs.size ≠ e := Nat.ne_of_gt el
    have all : ∀ c o, c ∉ [e, j] → s.heap.get? c = some o → h2.get? c = some o := fun c o hn g => by
      have n1 : c ≠ e := fun z => hn (by simp [z])
      have n2 : c ≠ j := fun z => hn (by simp [z])
      exact (sb.2 c n1).trans (st c o n1 n2 g)
    have hob : ObjOk X.prog X.w (upd H s.heap.objs.size (.tup [.int (n : Nat), x])) h2 s.heap.objs.size (.tup [.int (n : Nat), x]) :=
      ⟨(by decide : 2 ≤ sizeLine), [.int (n : Nat) tk, u], .cons ⟨_, rfl⟩ (.cons ru .nil), _, (sb.2 _ eT).trans hT, rfl, _, rfl⟩
    have J := I.turnedNew (t' := tk + 1) (ch := [e, j]) all fp (Nat.le_refl s.heap.objs.size) hob
    refine ⟨.ref s.heap.objs.size, _, J, rfl, ⟨s.heap.objs.size, x, ⟨rfl, I.hok.fresh (Nat.le_refl _), rfl⟩, fun l g => kd_inj I ka g ▸ gx⟩, ⟨⟨u, ?_⟩, itAt_keep (fun o g => (sb.2 _ (Ne.symm nej)).trans g) d1.1⟩, fun c hm => ?_⟩
    · have e9 : ((n + 1 : Nat) : Int) = (n : Int) + 1 := by omega
      exact e9 ▸ z3
    · have lt : c < s.heap.objs.size := by
        rcases (by simpa using hm : c = e ∨ c = j) with rfl | rfl
        · exact el
        · exact jl
      rw [upd_ne (Nat.ne_of_lt lt)]
      exact (fp c hm).1
  done := by
    intro X eP ew eK hc n pins s σ H E I fp ⟨⟨old, q1⟩, q2⟩ hst
    subst eP ew eK
    obtain ⟨xs, ka, l1⟩ := hst
    obtain ⟨its, rv, sa, la⟩ := kd_of I ka
    have z1 : n = its.toArray.size := by rw [l1, List.size_toArray]; exact rv.length
    subst z1
    refine wpAny_pyNext_enum_endD (kd_draws (A := X.A.in1) (I.ok.hd hc) j a na its.toArray k1) q1 ⟨q2, sa⟩ fun h1 eb => ⟨rfl, ?_⟩
    exact I.turnedL (t' := s.toks) (ch := [e, j]) (fun c o hn g => eb c o (fun z => hn (by simp [z])) g) fp
  self := fun A n s Q E st hq => let ⟨⟨_, q⟩, _⟩ := st; wpAny_pyIter_enum q hq
def iEnm (K : PySem.W.Frag) (ta : TA) : TI := fun σ H R => ta σ H fun vs H1 => ∃ k1 a xs, vs = [.ref a] ∧ Kq K H1 k1 a xs ∧ R (Iem K k1 a) H1
theorem rd_enm {K : PySem.W.Frag} {ta : TA} {σ : L2.St} {H : Hp} {R : It → Hp → Prop} (q : ta σ H (fun vs H1 => ∃ k1 a xs, vs = [.ref a] ∧ Kq K H1 k1 a xs ∧ R (Iem K k1 a) H1)) : iEnm K ta σ H R := q
theorem pi_enumM {X : Cx} {e : Expr} {ta : TA} {p pos tp : Pos} {elts : List Expr} {kk : Nat} (hg : Gl X "enumerate") (hm : X.mg "enumerate" = none) (ha : PA X [e] ta) (hs : starEach [e] X.env = [(false, eval e X.env)] := by rfl) :
    PI X (.Tuple elts kk tp) (.Call (.Name "enumerate" p) [e] [] pos) (iEnm X.K ta) := by
  constructor
  intro pins s σ H R I hw
  refine Call_ (ld_blt I hg hm boot_enumerate (PyProof.Rows.callWith_type1 (thn (ha.run pos pins s σ H _ I hw) fun us s1 ⟨vs, H1, I1, r1, k1, a, xs, ev, ka, q⟩ => ?_) hs rfl))
  subst ev
  obtain ⟨u, rfl, ru⟩ := vals1 r1
  cases ru
  obtain ⟨its, _, sa, la⟩ := kd_of I1 ka
  refine enum_call (kd_begins a its.toArray k1) sa fun G z1 z2 st => wpAny_pyIter_enum z1 ?_
  have I2 : Inv X pins σ H1 { s1 with heap := G } := I1.kept (t' := s1.toks) st
  have l1 : a < s1.heap.objs.size + 1 := Nat.lt_succ_of_lt la
  refine ⟨_, _, _, _, H1, rfl, I2, turn_em (k1 := k1) (a := a) (Nat.succ_ne_self s1.heap.objs.size) (Nat.ne_of_gt l1) (Nat.ne_of_lt la), ⟨⟨_, z1⟩, itAt_new z2⟩, fun c hc => ?_, q⟩
  have ge : s1.heap.objs.size ≤ c := by
    rcases (by simpa using hc : c = s1.heap.objs.size + 1 ∨ c = s1.heap.objs.size) with rfl | rfl
    · exact Nat.le_add_right _ 1
    · exact Nat.le_refl _
  exact I1.fpOk ge (I1.hok.fresh ge)
end Lay
namespace Lay
open PySem PySem.Spec PyProof.Rows L2
theorem pe_revTK {X : Cx} {K : PySem.W.Frag} {e : Expr} {te : TE} {k : Nat} {p1 p2 p3 pos : Pos} (h : X.K = K) (he : PE X e te) : PE X (.Subscript e (.Slice none none (some (.UnaryOp .USub (.Constant (.int 1) k p1) p2)) p3) pos) (tRevT K te) := by
  subst h
  exact pe_revT he
end Lay
/-! LayJ: list(range(n)). -/
namespace Lay
open PySem PySem.Spec PyProof.Rows L2
def rLstR : List V → Hp → VK → Prop := fun xs H Q => ∃ (p : Addr) (n : Nat), xs = [V.ref p] ∧ H p = some (.rng 0 (n : Int)) ∧ n ≤ 1000 ∧ ∀ l, H l = none → Q (.ref l) (upd H l (.lst ((List.range n).map fun i => V.int (i : Nat))))
theorem q_lstR {X : Cx} (hc : X.calm = true) : CallR X (.type "list") rLstR := by
  intro pins s σ H xs us Q I r h
  obtain ⟨p, n, rfl, hp, n9, q⟩ := h
  obtain ⟨u, rfl, rx⟩ := vals1 r
  cases (show u = Value.ref p from rx)
  obtain ⟨t, u, w, ho⟩ := (show ObjOk X.prog X.w H s.heap p (.rng 0 (n : Int)) from I.hok p _ hp)
  have en : Builtin.Range.rangeSize 0 (n : Int) 1 = n := by rw [rangeSize_one]; split <;> omega
  refine PySem.call_list_range (n := n) (I.ok.hd hc) (show IsRange s.heap p 0 (n : Int) 1 t u w from ho) (small_one (by decide) (by decide) (by omega) (by omega)) (by rw [en]) (by omega) fun h' tk acc c' hkeep hS hacc => ?_
  refine ⟨.ref s.heap.objs.size, upd H s.heap.objs.size (.lst ((List.range n).map fun i => V.int (i : Nat))), I.laid hkeep (Nat.le_refl _) (show ObjOk X.prog X.w _ _ _ (.lst ((List.range n).map fun i => V.int (i : Nat))) from ⟨?_, acc.toList, c', ?_, ?_⟩), rfl, q _ (I.hok.fresh (Nat.le_refl _))⟩
  · exact Nat.le_trans (show _ ≤ 1000 by rw [List.length_map, List.length_range]; exact n9) (by decide)
  · have el : acc.toList.length = acc.size := by simp
    refine vals_of_at (by rw [List.length_map, List.length_range, el, hacc.1]) fun j x v h1 h2 => ?_
    obtain ⟨t2, e2⟩ := hacc.2 j v (by rw [← Array.getElem?_toList]; exact h2)
    have lt := (List.getElem?_eq_some_iff.mp h1).1
    rw [List.length_map, List.length_range] at lt
    rw [List.getElem?_map, List.getElem?_range lt] at h1
    cases h1
    refine ⟨t2, ?_⟩
    rw [e2]
    congr 1
    omega
  · exact hS
theorem rd_lstR {H : Hp} {Q : VK} {p : Addr} {n : Nat} (h : H p = some (.rng 0 (n : Int))) (n9 : n ≤ 1000) (q : ∀ l, H l = none → Q (.ref l) (upd H l (.lst ((List.range n).map fun i => V.int (i : Nat))))) : rLstR [V.ref p] H Q := ⟨p, n, rfl, h, n9, q⟩
theorem rd_par3 {i j l : Nat} {ta : L2.TA} {D : L2.Ends} {σ : L2.St} {H : Hp} (q : ta σ H fun vs H1 => ∃ u v w, vs = [u, v, w] ∧ D.nx (((σ.set i (some u)).set j (some v)).set l (some w)) H1) : L2.tPar3 i j l ta D σ H := q
theorem pe_revLK {X : Cx} {K : PySem.W.Frag} {e : Expr} {te : L2.TE} {k : Nat} {p1 p2 p3 pos : Pos} (h : X.K = K) (he : PE X e te) : PE X (.Subscript e (.Slice none none (some (.UnaryOp .USub (.Constant (.int 1) k p1) p2)) p3) pos) (L2.tRevL K te) := by
  subst h
  exact L2.pe_revL he
theorem rd_revL {K : PySem.W.Frag} {te : L2.TE} {σ : L2.St} {H : Hp} {Q : VK} (q : te σ H fun x H1 => ∃ a xs, x = .ref a ∧ SqL K H1 a xs ∧ ∀ p, H1 p = none → Q (.ref p) (upd H1 p (.lst xs.reverse))) : L2.tRevL K te σ H Q := q
end Lay
/-! LayAA: data (texts, tuples of these) compared, found, sorted. -/
namespace Lay
open PySem PySem.Spec PyProof.Rows L2
theorem readsAll_len {h : Heap} : ∀ {us : List Value} {ds : List PyData} {as : List Addr}, ReadsAll h us ds as → us.length = ds.length
  | _, _, _, .nil => rfl
  | _, _, _, .cons _ t => congrArg Nat.succ (readsAll_len t)
section
variable {prog : Program} {w : World} {A : Around} {E : Value → Shared → Prop} {s : Shared}
/-- the answer of a comparison of tuples, asked of the type itself -/
theorem oneLt_tups {da db : PyData} {xs ys : List PyData} {a b : Value} {as bs : List Addr} {Q : Bool → Shared → Prop} (ea : da = .tuple xs) (eb : db = .tuple ys) (ra : Reads s.heap a da as) (rb : Reads s.heap b db bs) (al : W.alike da db = true)
    (hu : A.units + min da.depth db.depth < cLine) (h : Q (W.dataLt da db) s) : wpAny (model prog w) A (oneLt' true a b) Q E s := by
  subst ea eb
  cases ra with
  | @tuple l o vs n _ as e1 e2 e3 r1 =>
    cases rb with
    | @tuple l2 o2 vs2 n2 _ as2 f1 f2 f3 r2 =>
      have h0 : A.units < cLine := by omega
      rw [oneLt'_eq]
      refine wpAny_bind (wpAny_cRoomFor h0 ?_)
      have ti : s.TypeIs (.ref l) "tuple" := ⟨o, e1, e2⟩
      obtain ⟨c1, d1, t1, sl1⟩ := o
      obtain ⟨c2, d2, t2, sl2⟩ := o2
      cases e2
      cases e3
      cases f2
      cases f3
      have al2 : W.alikeAll xs ys = true := al
      have du : A.in1.units + min (PyData.depthAll xs) (PyData.depthAll ys) < cLine := by
        have e : A.units + min (PyData.depthAll xs + 1) (PyData.depthAll ys + 1) < cLine := hu
        have e2 : A.in1.units = A.units + 1 := rfl
        omega
      refine wpAny_bind (wpAny_callSpecialIfBound?_slot ti F.slot_tuple_lt ?_)
      refine call_meets F.slot_tuple_lt ti F.entry_tuple_lt (F.args_tuple_lt_2 _ _) (SeqAt.tuple_ltAt l l2 vs vs2 n n2 d1 d2 sl1 sl2 (SeqAt.pairEq xs ys) (fun j => W.dataLt (xs.getD j .none) (ys.getD j .none))) ⟨e1, f1, fun j h1 h2 => ?_, fun j h1 h2 hj => ?_, ?_⟩
      · have := W.eqAt_alikeAll xs ys A.in1 s vs.toList vs2.toList _ _ r1 r2 al2 du j (by rw [Array.length_toList]; exact h1) (by rw [Array.length_toList]; exact h2)
        rw [Array.getElem_toList, Array.getElem_toList] at this
        exact this
      · have := W.rcLt_alikeAll xs ys A.in1 s vs.toList vs2.toList _ _ r1 r2 al2 du j (by rw [Array.length_toList]; exact h1) (by rw [Array.length_toList]; exact h2) hj
        rw [Array.getElem_toList, Array.getElem_toList] at this
        exact this
      · have l1 := readsAll_len r1
        have l2 := readsAll_len r2
        rw [Array.length_toList] at l1 l2
        rw [l1, l2, W.firstLt_toks xs ys al2]
        rw [W.dataLt_tuple] at h
        show wpAny _ _ (truthOfDropped (Value.bool _)) Q E s
        first | exact wpAny_pure h | exact h | (unfold truthOfDropped; skip)
def isE : PyData → Bool
  | .tuple [] => true
  | _ => false
/-- the first items of tuples -/
theorem firsts_tup : ∀ {us : List Value} {ds : List PyData} {Q : List (Option Value) → Shared → Prop}, W.EachIs (fun v d => ∃ as, Reads s.heap v d as) us ds → (∀ d ∈ ds, ∃ xs, d = .tuple xs) →
    (∀ fs : List (Option Value), fs.map Option.isSome = ds.map (fun d => !isE d) → Q fs s) → wpAny (model prog w) A (List.mapM firstOfTuple' us) Q E s
  | [], [], Q, .nil, _, h => wpAny_pure (h [] rfl)
  | u :: us, d :: ds, Q, .cons hu ht, hd, h => by
    obtain ⟨as, ru⟩ := hu
    obtain ⟨xs, rfl⟩ := hd d List.mem_cons_self
    cases ru with
    | @tuple l o vs n _ as e1 e2 e3 r1 =>
      rw [List.mapM_cons]
      rw [W.kas_first_eq]
      refine wpAny_bind (wpAny_bind (wpAny_typeOf ⟨o, e1, e2⟩ ?_))
      rw [if_neg (by decide)]
      refine wpAny_bind (wpAny_listItems e1 e3 (wpAny_pure ?_))
      refine wpAny_bind (firsts_tup ht (fun d hd2 => hd d (List.mem_cons_of_mem _ hd2)) fun fs hfs => wpAny_pure (h _ ?_))
      rw [List.map_cons, List.map_cons, hfs]
      congr 1
      have l1 := readsAll_len r1
      rw [Array.length_toList] at l1
      cases xs with
      | nil =>
        have z : vs.size = 0 := l1
        rw [Array.getElem?_eq_none (by omega)]
        rfl
      | cons x xs =>
        have z : 0 < vs.size := by rw [l1]; exact Nat.succ_pos _
        rw [Array.getElem?_eq_getElem z]
        rfl
theorem each_get {α β : Type} {R : α → β → Prop} : ∀ {as : List α} {bs : List β}, W.EachIs R as bs → ∀ a ∈ as, ∃ b ∈ bs, R a b
  | _, _, .nil, _, h => nomatch h
  | _, _, .cons h t, a, ha => by
    rcases List.mem_cons.mp ha with e | e
    · exact ⟨_, List.mem_cons_self, e ▸ h⟩
    · obtain ⟨b, hb, r⟩ := each_get t a e
      exact ⟨b, List.mem_cons_of_mem _ hb, r⟩
/-- tuples, empty ones among them, can be sorted -/
theorem SortsAt_tups {vs : List Value} {ds : List PyData} (h : W.EachIs (fun v d => ∃ as, Reads s.heap v d as) vs ds) (al : W.AllAlike ds) (ht : ∀ d ∈ ds, ∃ xs, d = .tuple xs) (hu : ∀ d ∈ ds, A.units + d.depth < cLine) : W.SortsAt prog w A s (W.dataKind s.heap ds) vs := by
  by_cases all : ∀ d ∈ ds, ∃ x r, d = PyData.tuple (x :: r)
  · exact W.SortsAt.data h al (Or.inl all) hu
  · have some_ : ∃ d ∈ ds, d = .tuple [] := by
      refine Classical.byContradiction fun no => all fun d hd => ?_
      obtain ⟨xs, rfl⟩ := ht d hd
      cases xs with
      | nil => exact absurd ⟨_, hd, rfl⟩ no
      | cons x r => exact ⟨x, r, rfl⟩
    refine ⟨fun v hv => ?_, ?_⟩
    · obtain ⟨d, hd, as, rd⟩ := each_get h v hv
      exact ⟨_, W.dataKind_some al hd rd⟩
    · -- how two of them are compared
      have both : ∀ b, PyProof.Rows.H.LtAt prog w A s (W.dataKind s.heap ds) (if b = true then oneType' else general') := by
        intro b E x y ka kb Q hx hy hQ
        obtain ⟨d, as, hd, rd, rfl⟩ := W.dataKind_inv hx
        obtain ⟨e, bs, he, re, rfl⟩ := W.dataKind_inv hy
        have a2 := al d hd e he
        obtain ⟨xs, rfl⟩ := ht d hd
        obtain ⟨ys, rfl⟩ := ht e he
        have u1 := hu _ hd
        have hQ : Q (W.dataLt (.tuple xs) (.tuple ys)) s := hQ
        cases b with
        | true =>
          rw [if_pos rfl, keyLt'_oneType]
          exact oneLt_tups rfl rfl rd re a2 (by omega) hQ
        | false =>
          rw [if_neg (fun z => nomatch z)]
          show wpAny _ _ (oneLt' false x y) Q E s
          exact W.oneLt_alike (fun z => nomatch z) rd re a2 (fun z => nomatch z) (by omega) hQ
      refine ⟨_, both (isE (ds.headD .none)), fun l2 E Q hQ => ?_⟩
      rw [keyKind'_eq, Array.mapM_eq_mapM_toList]
      refine wpAny_bind (wpAny_map (firsts_tup h ht fun fs hfs => ?_))
      have e1 : (fs.toArray.all fun x => x.isSome) = false := by
        rw [← Array.all_toList]
        obtain ⟨d, hd, e⟩ := some_
        have e2 : fs.all (fun x => x.isSome) = (fs.map Option.isSome).all id := by rw [List.all_map]; rfl
        show fs.all (fun x => x.isSome) = false
        rw [e2, hfs, List.all_map, List.all_eq_false]
        exact ⟨d, hd, by rw [e]; decide⟩
      rw [if_neg (by rw [e1]; exact fun z => nomatch z)]
      have e3 : (fs.toArray[0]?.bind id).isSome = !isE (ds.headD .none) := by
        rw [List.getElem?_toArray]
        cases fs with
        | nil =>
          cases ds with
          | nil => exact absurd some_ (fun ⟨_, hd, _⟩ => nomatch hd)
          | cons d ds => cases hfs
        | cons f fs =>
          cases ds with
          | nil => cases hfs
          | cons d ds =>
            rw [List.map_cons, List.map_cons] at hfs
            have e4 := (List.cons.inj hfs).1
            show f.isSome = _
            exact e4
      rw [e3]
      cases z : isE (ds.headD .none) with
      | true =>
        rw [z] at hQ
        rw [if_neg (by decide)]
        rw [if_pos rfl] at hQ
        rw [oneTypeOnly'_eq, Array.mapM_eq_mapM_toList]
        refine wpAny_bind (wpAny_bind (wpAny_map (W.kas_mapM (r := Value.type "tuple") vs.toArray.toList (fun v hv Q' hq => ?_) ?_)))
        · obtain ⟨d, hd, as, rd⟩ := each_get h v (by simpa using hv)
          obtain ⟨xs, rfl⟩ := ht d hd
          cases rd with
          | tuple q1 q2 q3 q4 => exact wpAny_typeOf ⟨_, q1, q2⟩ hq
        · have ea : ((List.map (fun _ => Value.type "tuple") vs.toArray.toList).toArray.all fun x => x == Value.type "tuple") = true := by
            rw [← Array.all_toList]
            show (List.map (fun _ => Value.type "tuple") vs).all _ = true
            rw [List.all_map, List.all_eq_true]
            intro x hx
            rfl
          have e0 : (List.map (fun _ => Value.type "tuple") vs.toArray.toList).toArray[0]? = some (Value.type "tuple") := by
            rw [List.getElem?_toArray]
            show (List.map (fun _ => Value.type "tuple") vs)[0]? = _
            rw [List.getElem?_map, List.getElem?_eq_getElem (by omega)]
            rfl
          rw [e0]
          show wpAny _ _ (pure (if _ = true then some (Value.type "tuple") else none)) _ _ _
          rw [ea, if_pos rfl]
          exact wpAny_pure (wpAny_pure hQ)
      | false =>
        rw [z] at hQ
        rw [if_pos (by decide)]
        rw [if_neg (by decide)] at hQ
        exact wpAny_pure hQ
end
end Lay
/-! LayAB: sets of tuples of texts. -/
namespace Lay
open PySem PySem.Spec PyProof.Rows L2
section
variable {P : Program} {w : World} {A : Around} {E : Value → Shared → Prop} {s : Shared}
abbrev IsS (P : Program) (w : World) (h : Heap) (k : List Str) (b : Addr) : Prop := IsTupleKey (PySem.strKind P w) h k b
abbrev shash (P : Program) (w : World) (k : List Str) : Int := tupleKeyHash (PySem.strKind P w) k
theorem items_str {k : List Str} {vs : List Value} (h : PySem.ItemsAre (PySem.strKind P w) k vs) : ∀ v ∈ vs, ∃ x t, v = Value.str x t := by
  induction h with
  | nil => exact fun v hv => nomatch hv
  | @cons k v ks vs hk ht ih =>
    intro u hu
    rcases List.mem_cons.mp hu with e | e
    · subst e
      cases u with
      | str x t => exact ⟨x, t, rfl⟩
      | _ => exact absurd hk (fun z => nomatch z)
    · exact ih u e
theorem seq_at {a : Addr} {o : Obj} {vs : Array Value} {n : Nat} {Q : Option (Array Value) → Shared → Prop} (h : s.heap.get? a = some o) (e : o.data = .seq vs n) (q : Q (some vs) s) : wpAny (model P w) A (seqItems? (.ref a)) Q E s := by
  unfold seqItems?
  refine wpAny_bind (wpAny_load h ?_)
  rw [e]
  exact wpAny_pure q
theorem aclassS {k : List Str} {b : Addr} {Q : Bool → Shared → Prop} (h : IsS P w s.heap k b) (hQ : Q false s) : wpAny (model P w) A (ofAClassStatement 8 (.ref b)) Q E s := by
  obtain ⟨o, vs, n, h1, h2, h3, h4⟩ := h
  rw [ofAClassStatement.eq_2]
  refine wpAny_bind (wpAny_typeOf ⟨o, h1, h2⟩ ?_)
  show wpAny _ _ (if (("tuple" : String) == "tuple") = true then _ else _) _ _ _
  rw [if_pos (by decide)]
  refine wpAny_bind (wpAny_pure ?_)
  show wpAny _ _ (if (!true) = true then _ else _) _ _ _
  rw [if_neg (by decide)]
  refine wpAny_bind (seq_at h1 h3 ?_)
  show wpAny _ _ (forIn vs _ _ >>= _) _ _ _
  rw [← Array.forIn_toList]
  have st := items_str h4
  generalize vs.toList = l at st
  refine wpAny_bind ?_
  clear h4 h1 h3
  induction l with
  | nil => exact wpAny_pure (wpAny_pure hQ)
  | cons v l ih =>
    obtain ⟨x, t, rfl⟩ := st v List.mem_cons_self
    rw [List.forIn_cons, ofAClassStatement.eq_3 _ _ (fun a z => by cases z)]
    exact wpAny_bind (wpAny_bind (wpAny_pure (wpAny_pure (ih fun u hu => st u (List.mem_cons_of_mem _ hu)))))
theorem hashS {k : List Str} {b : Addr} {Q : Bool → Shared → Prop} (h : IsS P w s.heap k b) (hQ : ∀ v, Q v s) : wpAny (model P w) A (hashByValue 8 (.ref b)) Q E s := by
  obtain ⟨o, vs, n, h1, h2, h3, h4⟩ := h
  show wpAny _ _ (specialOf (.ref b) (Str.ofString "__hash__") >>= _) _ _ _
  refine wpAny_bind (wpAny_specialOf (T := "tuple") (r := some (.builtin "tuple.__hash__")) ⟨o, h1, h2⟩ (by rfl) ?_)
  refine wpAny_bind (seq_at h1 h3 ?_)
  show wpAny _ _ (forIn vs _ _ >>= _) _ _ _
  rw [← Array.forIn_toList]
  have st := items_str h4
  generalize vs.toList = l at st
  refine wpAny_bind ?_
  cases l with
  | nil => exact wpAny_pure (wpAny_pure (hQ _))
  | cons v l =>
    obtain ⟨x, t, rfl⟩ := st v List.mem_cons_self
    rw [List.forIn_cons]
    refine wpAny_bind (wpAny_bind (wpAny_pure (wpAny_pure ?_)))
    show wpAny _ _ (pure (some false, ())) _ _ _
    refine wpAny_pure ?_
    show wpAny _ _ (pure false) _ _ _
    exact wpAny_pure (hQ _)
theorem quietS {k : List Str} {b : Addr} {Q : Bool → Shared → Prop} (h : IsS P w s.heap k b) (hQ : Q true s) : wpAny (model P w) A (eqIsQuiet 8 (.ref b)) Q E s :=
  (PySem.tupleKind (PySem.strKind P w)).quiet h hQ
theorem seenS {k : List Str} {b : Addr} {Q : Bool → Shared → Prop} (h : IsS P w s.heap k b) {ys : List Value} (hy : ∀ y ∈ ys, ∃ k' c, y = Value.ref c ∧ IsS P w s.heap k' c) (hQ : Q false s) : wpAny (model P w) A (searchCouldBeSeen (.ref b) ys) Q E s := by
  unfold searchCouldBeSeen
  refine wpAny_bind ?_
  induction ys with
  | nil => exact wpAny_pure (wpAny_pure hQ)
  | cons y ys ih =>
    obtain ⟨k', c, rfl, hc⟩ := hy y List.mem_cons_self
    have ih := ih fun z hz => hy z (List.mem_cons_of_mem _ hz)
    rw [List.forIn_cons]
    by_cases e : (b == c) = true
    · show wpAny _ _ ((if ((b == c) || false && false) = true then _ else _) >>= _) _ _ _
      rw [if_pos (by rw [e]; rfl)]
      exact wpAny_bind (wpAny_pure ih)
    · show wpAny _ _ ((if ((b == c) || false && false) = true then _ else _) >>= _) _ _ _
      rw [if_neg (by rw [Bool.or_eq_true]; exact fun z => z.elim e (fun y => nomatch y))]
      refine wpAny_bind (wpAny_bind (quietS h ?_))
      rw [if_neg (by decide)]
      refine wpAny_bind (quietS hc ?_)
      rw [if_neg (by decide)]
      refine wpAny_bind (aclassS h ?_)
      rw [if_neg (by decide)]
      refine wpAny_bind (aclassS hc ?_)
      rw [if_neg (by decide)]
      exact wpAny_pure ih
theorem eqS {k k' : List Str} {a b : Addr} {Q : Bool → Shared → Prop} (u : A.units < cLine) (h : IsS P w s.heap k a) (h' : IsS P w s.heap k' b) (hQ : Q (decide (k = k')) s) : wpAny (model P w) A (eqBool (.ref a) (.ref b)) Q E s :=
  (PySem.tupleKind (PySem.strKind P w)).eqBool u h h' hQ
theorem sameS {a : Addr} {Q : Bool → Shared → Prop} (hQ : Q true s) : wpAny (model P w) A (isSame (.ref a) (.ref a)) Q E s := by
  show wpAny _ _ (if (a == a) = true then pure true else _) _ _ _
  rw [if_pos (beq_self_eq_true a)]
  exact wpAny_pure hQ
/-- a set of tuples of texts, entry by entry -/
structure SetS (P : Program) (w : World) (h : Heap) (a : Addr) (L : List (Addr × List Str)) (es : Array (Int × Value)) (ep : Nat) (t : SetTable) : Prop where
  ob : ∃ o, h.get? a = some o ∧ o.ExactSet ∧ o.data = Data.set es ep t
  rows : es.toList = L.map fun p => (shash P w p.2, Value.ref p.1)
  tab : TabOk t (L.map fun p => shash P w p.2)
  nd : (L.map (·.2)).Nodup
  tup : ∀ p ∈ L, IsS P w h p.2 p.1
  led : w.params.followText "set-order" = true ∨ t.led = true
  room : L.length * 5 < t.mask * 3
  few : L.length < 64
section
variable {a : Addr} {L : List (Addr × List Str)} {es : Array (Int × Value)} {ep : Nat} {t : SetTable}
theorem SetS.size {h : Heap} (S : SetS P w h a L es ep t) : es.size = L.length := by
  have := congrArg List.length S.rows
  rw [List.length_map, Array.length_toList] at this
  exact this
theorem SetS.psize {h : Heap} (S : SetS P w h a L es ep t) : t.place.size = L.length := by rw [S.tab.sz, List.length_map]
theorem stateS (S : SetS P w s.heap a L es ep t) {Q : Array (Int × Value) × Nat × SetTable → Shared → Prop} (hQ : Q (es, ep, t) s) : wpAny (model P w) A (setState a) Q E s := by
  obtain ⟨o, h1, _, h3⟩ := S.ob
  unfold setState
  refine wpAny_bind (wpAny_load h1 ?_)
  rw [h3]
  show wpAny _ _ (if (t.place.size != es.size || decide (t.fill > t.mask)) = true then _ else _) _ _ _
  have z1 : (t.place.size != es.size) = false := by rw [S.size, S.psize]; exact bne_self_eq_false _
  have z2 : t.fill ≤ t.mask := by
    unfold SetTable.fill
    rw [S.tab.dm, S.psize]
    have := S.room
    show L.length + 0 ≤ _
    omega
  rw [if_neg (by rw [z1, decide_eq_false (by omega)]; decide)]
  exact wpAny_pure hQ
theorem way_dummy (t : SetTable) (p : SetTable.Probe) (h : p.dummy = none) : ∀ c, (nth t.mask p c).dummy = none
  | 0 => h
  | c + 1 => by
    rw [nth_succ, ← adv_eq, advance_dummy]
    exact way_dummy t p h c
theorem SetS.row {h : Heap} (S : SetS P w h a L es ep t) {i : Nat} (hi : i < L.length) : es[i]? = some (shash P w L[i].2, Value.ref L[i].1) := by
  rw [← Array.getElem?_toList, S.rows, List.getElem?_map, List.getElem?_eq_getElem hi]
  rfl
theorem SetS.hashAt {h : Heap} (S : SetS P w h a L es ep t) {i : Nat} (hi : i < L.length) : (Option.map (fun x => x.fst) es[i]?).getD 0 = shash P w L[i].2 := by
  rw [S.row hi]
  rfl
theorem search_fromS (S : SetS P w s.heap a L es ep t) {x : Addr} {k : List Str} (hx : IsS P w s.heap k x) (u : A.units < cLine) {K : Nat} (hK : K < 10 * SetTable.turns t.mask) (nK : ¬ way t.mask (shash P w k) K ∈ t.place.toList)
    (aK : ∀ c, c < K → way t.mask (shash P w k) c ∈ t.place.toList) {Q : SetFound → Shared → Prop} (q1 : k ∈ L.map (·.2) → Q (.there none) s) (q2 : k ∉ L.map (·.2) → Q (.free (way t.mask (shash P w k) K) false) s) :
    ∀ (f c : Nat) (stand : Option SetTable.Probe), stand.getD (t.probeStart (shash P w k)) = nth t.mask (runAt t.mask (SetTable.bits (shash P w k) % (t.mask + 1)) (SetTable.bits (shash P w k))) c → c ≤ K → K - c < f →
      (∀ (i : Nat) (p : Addr × List Str), L[i]? = some p → p.2 = k → ∃ c', c ≤ c' ∧ c' < K ∧ t.place.toList[i]? = some (way t.mask (shash P w k) c')) → wpAny (model P w) A (setSearchFrom a (.ref x) (shash P w k) true f stand) Q E s := by
  intro f
  induction f with
  | zero => exact fun c _ _ _ h => absurd h (Nat.not_lt_zero _)
  | succ f ih =>
    intro c stand hst hc hf hin
    rw [setSearchFrom_succ]
    refine wpAny_bind (stateS S ?_)
    have odd : t.gaveWay = false := by
      unfold SetTable.gaveWay
      rcases S.tab.mok with e | e | e <;> (rw [e]; rfl)
    show wpAny _ _ (if t.gaveWay = true then _ else _) _ _ _
    rw [if_neg (by rw [odd]; exact fun z => nomatch z)]
    generalize hr : runAt t.mask (SetTable.bits (shash P w k) % (t.mask + 1)) (SetTable.bits (shash P w k)) = r at hst
    have wy : ∀ c, way t.mask (shash P w k) c = (nth t.mask r c).j := fun c => by rw [← hr]
    have rd : r.dummy = none := by rw [← hr]; rfl
    rw [hst]
    have sp := go_spec t S.tab.ris S.tab.dm (fun i => (Option.map (fun x => x.fst) es[i]?).getD 0) (shash P w k) (10 * SetTable.turns t.mask) (K - c) (nth t.mask r c) (way_dummy t r rd c) (by omega)
      (fun q hq => by rw [← nth_add, ← wy]; exact aK _ (by omega)) (by rw [← nth_add, ← wy, show c + (K - c) = K by omega]; exact nK)
    have inL : ∀ {i j : Nat}, t.place.toList[i]? = some j → i < L.length := fun {i j} h => by
      have := (List.getElem?_eq_some_iff.mp h).1
      rw [Array.length_toList, S.psize] at this
      exact this
    unfold SetTable.probe
    rcases sp with ⟨k0, i, hk0, hp, hh, hno, e⟩ | ⟨hno, e⟩
    · rw [e]
      have hi := inL hp
      have rest : wpAny (model P w) A (searchRest a (.ref x) (shash P w k) true f es t (nth t.mask (nth t.mask r c) k0).j i (nth t.mask (nth t.mask r c) (k0 + 1))) Q E s := by
        unfold searchRest
        rw [S.row hi]
        refine wpAny_bind (wpAny_holding (eqS u (S.tup _ (List.getElem_mem hi)) hx ?_))
        refine wpAny_bind (stateS S ?_)
        by_cases eq : L[i].2 = k
        · rw [decide_eq_true eq]
          show wpAny _ _ (if (true && true) = true then _ else _) _ _ _
          rw [if_pos (by decide)]
          exact wpAny_pure (q1 (List.mem_map.mpr ⟨_, List.getElem_mem hi, eq⟩))
        · rw [decide_eq_false eq]
          show wpAny _ _ (if (true && false) = true then _ else _) _ _ _
          rw [if_neg (by decide)]
          have sm : t.sameMemory t.moves t.mask = some true := by
            unfold SetTable.sameMemory
            rw [if_pos (beq_self_eq_true _)]
          rw [sm]
          have sl : t.slot (nth t.mask (nth t.mask r c) k0).j = .live i := slot_live S.tab.ris hp
          show wpAny _ _ (match (if (true : Bool) = true then t.slot _ else _) with | .live i' => _ | x => _) _ _ _
          rw [if_pos rfl, sl]
          show wpAny _ _ (match es[i]? with | some (_, y') => _ | none => _) _ _ _
          rw [S.row hi]
          refine wpAny_bind (sameS ?_)
          refine wpAny_bind (wpAny_pure ?_)
          show wpAny _ _ (if (false : Bool) = true then _ else _) _ _ _
          rw [if_neg (fun z => nomatch z)]
          refine ih (c + k0 + 1) _ ?_ (by omega) (by omega) fun i2 p2 e1 e2 => ?_
          · show nth t.mask (nth t.mask r c) (k0 + 1) = _
            rw [← nth_add, ← hr]
            rfl
          · obtain ⟨c', g1, g2, g3⟩ := hin i2 p2 e1 e2
            refine ⟨c', ?_, g2, g3⟩
            have hi2 := inL g3
            have e3 : L[i2].2 = k := by
              rw [List.getElem?_eq_getElem hi2] at e1
              rw [Option.some.inj e1]
              exact e2
            rcases Nat.lt_trichotomy c' (c + k0) with z | z | z
            · refine absurd ?_ (hno (c' - c) i2 (by omega) (by rw [← nth_add, ← wy, show c + (c' - c) = c' by omega]; exact g3))
              show (Option.map (fun x => x.fst) es[i2]?).getD 0 = _
              rw [S.hashAt hi2, e3]
            · exfalso
              rw [z, wy, nth_add] at g3
              have : i = i2 := by
                rcases Nat.lt_trichotomy i i2 with y | y | y
                · have := ris_lt S.tab.ris hp g3 y
                  omega
                · exact y
                · have := ris_lt S.tab.ris g3 hp y
                  omega
              subst this
              exact eq e3
            · omega
      show wpAny _ _ (if (!t.led) = true then _ else _) _ _ _
      by_cases ld : t.led = true
      · rw [if_neg (by rw [ld]; exact fun z => nomatch z)]
        exact rest
      · rw [if_pos (by rw [Bool.not_eq_true] at ld; rw [ld]; rfl)]
        refine wpAny_bind (seenS hx (fun y hy => ?_) ?_)
        · obtain ⟨z, hz, rfl⟩ := List.mem_map.mp hy
          have hz2 : z ∈ es.toList := by
            have := Array.mem_toList_iff.mp hz
            exact Array.mem_toList_iff.mpr (Array.mem_filter.mp this).1
          rw [S.rows] at hz2
          obtain ⟨p, hp, rfl⟩ := List.mem_map.mp hz2
          exact ⟨_, _, rfl, S.tup p hp⟩
        · rw [if_neg (fun z => nomatch z)]
          exact rest
    · rw [e]
      show wpAny _ _ (pure (SetFound.free (nth t.mask (nth t.mask r c) (K - c)).j false)) _ _ _
      rw [← nth_add, ← wy, show c + (K - c) = K by omega]
      refine wpAny_pure (q2 fun hm => ?_)
      obtain ⟨p, hp, e2⟩ := List.mem_map.mp hm
      obtain ⟨i, hi, ei⟩ := List.mem_iff_getElem.mp hp
      obtain ⟨c', g1, g2, g3⟩ := hin i p (by rw [List.getElem?_eq_getElem hi, ei]) e2
      refine hno (c' - c) i (by omega) (by rw [← nth_add, ← wy, show c + (c' - c) = c' by omega]; exact g3) ?_
      show (Option.map (fun x => x.fst) es[i]?).getD 0 = _
      rw [S.hashAt hi, ei, e2]
end
end
end Lay
/-! LayAC: a set of tuples of texts grows. -/
namespace Lay
open PySem PySem.Spec PyProof.Rows L2
section
variable {P : Program} {w : World} {A : Around} {E : Value → Shared → Prop} {s : Shared}
variable {a : Addr} {L : List (Addr × List Str)} {es : Array (Int × Value)} {ep : Nat} {t : SetTable}
theorem searchS (S : SetS P w s.heap a L es ep t) {x : Addr} {k : List Str} (hx : IsS P w s.heap k x) (u : A.units < cLine) {Q : SetFound → Shared → Prop} (q1 : k ∈ L.map (·.2) → Q (.there none) s)
    (q2 : ∀ K, k ∉ L.map (·.2) → ¬ way t.mask (shash P w k) K ∈ t.place.toList → (∀ c, c < K → way t.mask (shash P w k) c ∈ t.place.toList) → Q (.free (way t.mask (shash P w k) K) false) s) :
    wpAny (model P w) A (setSearch a (.ref x) (shash P w k) true) Q E s := by
  have lm : (L.map fun p => shash P w p.2).length ≤ t.mask := by
    rw [List.length_map]
    have := S.room
    omega
  obtain ⟨K, hK, nK, aK⟩ := S.tab.first lm (shash P w k)
  have tu : SetTable.turns t.mask ≤ 142 := by
    unfold SetTable.turns
    rcases S.tab.mok with e | e | e <;> omega
  refine search_fromS S hx u hK nK aK q1 (fun h => q2 K h nK aK) 100000 0 none (start_run t _) (Nat.zero_le _) (by omega) fun i p e1 e2 => ?_
  have hi : i < L.length := (List.getElem?_eq_some_iff.mp e1).1
  have hp : i < t.place.toList.length := by rw [Array.length_toList, S.psize]; exact hi
  obtain ⟨c, g1, g2⟩ := S.tab.reach i (shash P w k) _ (by rw [List.getElem?_map, e1, ← e2]; rfl) (List.getElem?_eq_getElem hp)
  refine ⟨c, Nat.zero_le _, ?_, by rw [List.getElem?_eq_getElem hp, g1]⟩
  rcases Nat.lt_or_ge c K with z | z
  · exact z
  · exfalso
    rcases Nat.lt_or_eq_of_le z with y | y
    · exact nK (g2 K y)
    · rw [y, g1] at nK
      exact nK (List.getElem_mem hp)
theorem take_drop_nodup {α : Type} {l : List α} {x : α} {p : Nat} (h : l.Nodup) (hx : x ∉ l) : (l.take p ++ x :: l.drop p).Nodup := by
  have e : (l.take p ++ x :: l.drop p).Perm (x :: l) := by
    refine List.perm_middle.trans ?_
    rw [List.take_append_drop]
  exact (e.nodup_iff).mpr (List.nodup_cons.mpr ⟨hx, h⟩)
theorem insertAt_list {α : Type} (xs : Array α) (p : Nat) (x : α) : (SetTable.insertAt xs p x).toList = xs.toList.take p ++ x :: xs.toList.drop p := by
  unfold SetTable.insertAt
  simp [List.take_of_length_le]
/-- what a set object becomes -/
theorem putSet_at {h : Heap} {o : Obj} {es1 : Array (Int × Value)} {t1 : SetTable} (h1 : h.get? a = some o) (h2 : o.ExactSet) (h3 : o.data = Data.set es ep t) :
    Heap.SameBut a h (h.update a (Obj.putSet es1 t1)) ∧ ∃ o', (h.update a (Obj.putSet es1 t1)).get? a = some o' ∧ o'.ExactSet ∧ o'.data = Data.set es1 (ep + 1) t1 := by
  obtain ⟨c, d, da, sl⟩ := o
  cases h3
  refine ⟨⟨?_, fun b hb => Heap.get?_update_ne h b a _ hb⟩, ⟨c, d, Data.set es1 (ep + 1) t1, sl⟩, ?_, h2, rfl⟩
  · obtain ⟨objs, l⟩ := h
    exact Array.size_modify
  · rw [Heap.get?_update_self _ h1 rfl]
    rfl
theorem storeS {o : Obj} {es1 : Array (Int × Value)} {t1 : SetTable} (h1 : s.heap.get? a = some o) (h3 : o.data = Data.set es ep t) (hz : es1.size ≤ sizeLine) {Q : Unit → Shared → Prop}
    (hQ : Q () { heap := s.heap.update a (Obj.putSet es1 t1), gens := s.gens, drawn := s.drawn, toks := s.toks, os := s.os }) : wpAny (model P w) A (storeSet a es1 t1) Q E s := by
  unfold storeSet
  refine wpAny_bind (wpAny_load h1 ?_)
  rw [h3]
  show wpAny _ _ (if es1.size > sizeLine then _ else _) _ _ _
  rw [if_neg (by omega)]
  exact wpAny_update h1 hQ
theorem isS_same {h h' : Heap} {k : List Str} {b : Addr} {o : Obj} (hk : IsS P w h k b) (h1 : h.get? a = some o) (h3 : o.data = Data.set es ep t) (sb : Heap.SameBut a h h') : IsS P w h' k b := by
  obtain ⟨o2, vs, n, e1, e2, e3, e4⟩ := hk
  refine ⟨o2, vs, n, ?_, e2, e3, e4⟩
  rw [sb.2 b fun z => ?_]
  · exact e1
  · rw [z, h1] at e1
    cases e1
    rw [h3] at e3
    cases e3
/-- the table laid anew -/
theorem relay_tab {hs : List Int} {M : Nat} {owner : Array (Option Nat)} (mok : MaskOk M) (own : Own M hs owner) :
    ((liveOf M owner).map (·.2)).Perm (List.range hs.length) ∧ TabOk (tabOf t M owner) ((liveOf M owner).map fun p => hs.getD p.2 0) := by
  have mem : ∀ {j k : Nat}, (j, k) ∈ liveOf M owner ↔ j ≤ M ∧ oAt owner j = some k := fun {j k} => mem_live own.sz
  have hr : Ris (List.range (M + 1)) := List.pairwise_lt_range
  have rl : Ris ((liveOf M owner).map (·.1)) := (ris_live (fun j => owner.getD j none) (List.range (M + 1)) hr).1
  have all : ∀ k, k < hs.length → k ∈ (liveOf M owner).map (·.2) := fun k hk => by
    obtain ⟨j, hj, e⟩ := own.all k hk
    exact List.mem_map.mpr ⟨(j, k), mem.mpr ⟨hj, e⟩, rfl⟩
  have len : (liveOf M owner).length ≤ hs.length := by
    obtain ⟨ps, h1, h2⟩ := own.ps
    rw [← h1, ← List.length_map (f := (·.1))]
    refine nat_nodup_len _ _ (List.Pairwise.imp (R := (· < ·)) (S := (· ≠ ·)) (fun {a b} hab => Nat.ne_of_lt hab) rl) fun j hj => ?_
    obtain ⟨p, hp, e⟩ := List.mem_map.mp hj
    obtain ⟨g1, g2⟩ := mem.mp (show (p.1, p.2) ∈ liveOf M owner from hp)
    rw [← e]
    exact h2 _ g1 (by rw [g2]; exact fun z => nomatch z)
  have len2 : hs.length ≤ (liveOf M owner).length := by
    have := nat_nodup_len (List.range hs.length) ((liveOf M owner).map (·.2)) List.nodup_range fun k hk => all k (List.mem_range.mp hk)
    rwa [List.length_range, List.length_map] at this
  refine ⟨perm_range _ _ (by rw [List.length_map]; omega) all, ⟨rl, rfl, ?_, mok, fun x hx => ?_, fun i h j e1 e2 => ?_⟩⟩
  · show ((liveOf M owner).map (·.1)).toArray.size = _
    rw [List.size_toArray, List.length_map, List.length_map]
  · obtain ⟨p, hp, e⟩ := List.mem_map.mp hx
    rw [← e]
    exact (mem.mp (show (p.1, p.2) ∈ liveOf M owner from hp)).1
  · have e2 : ((liveOf M owner).map (·.1))[i]? = some j := e2
    rw [List.getElem?_map] at e1 e2
    cases q : (liveOf M owner)[i]? with
    | none => rw [q] at e1; cases e1
    | some p =>
      rw [q] at e1 e2
      cases e1
      cases e2
      obtain ⟨g1, g2⟩ := mem.mp (show (p.1, p.2) ∈ liveOf M owner from List.mem_of_getElem? q)
      obtain ⟨h', K, f1, f2, f3⟩ := own.at_ _ _ g1 g2
      have eh : hs.getD p.2 0 = h' := by rw [List.getD_eq_getElem?_getD, f1]; rfl
      show ∃ k, way M (hs.getD p.2 0) k = p.1 ∧ ∀ k', k' < k → way M (hs.getD p.2 0) k' ∈ (liveOf M owner).map (·.1)
      rw [eh]
      refine ⟨K, f2, fun k' hk' => ?_⟩
      have o1 := f3 k' hk'
      cases q2 : oAt owner (way M h' k') with
      | none => exact absurd q2 o1
      | some k2 => exact List.mem_map.mpr ⟨(way M h' k', k2), mem.mpr ⟨way_le mok, q2⟩, rfl⟩
theorem filterMap_some {α β : Type} {f : α → Option β} {g : α → β} : ∀ {l : List α}, (∀ x ∈ l, f x = some (g x)) → l.filterMap f = l.map g
  | [], _ => rfl
  | x :: l, h => by rw [List.filterMap_cons, h x List.mem_cons_self, List.map_cons, filterMap_some fun y hy => h y (List.mem_cons_of_mem _ hy)]
theorem map_range_get {α : Type} (l : List α) (d : α) : (List.range l.length).map (fun i => l.getD i d) = l := by
  refine List.ext_getElem (by rw [List.length_map, List.length_range]) fun i h1 h2 => ?_
  rw [List.getElem_map, List.getElem_range, List.getD_eq_getElem?_getD, List.getElem?_eq_getElem h2]
  rfl
/-- a set that has grown over its table is laid anew -/
theorem relayS {o : Obj} (h1 : s.heap.get? a = some o) (h2 : o.ExactSet) (h3 : o.data = Data.set es ep t) (rows : es.toList = L.map fun p => (shash P w p.2, Value.ref p.1)) (ps : t.place.size = es.size) (dm : t.dummies = #[]) (em : es.size ≤ t.mask)
    (nd : (L.map (·.2)).Nodup) (tup : ∀ p ∈ L, IsS P w s.heap p.2 p.1) (led : w.params.followText "set-order" = true ∨ t.led = true) (few : L.length < 64) {wanted M : Nat} (hM : SetTable.sizeAbove wanted - 1 = M) (mok : MaskOk M) (small : SetTable.sizeAbove wanted ≤ 128) (room : L.length * 5 < M * 3)
    {Q : Unit → Shared → Prop} (hQ : ∀ h' L' es' ep' t', Heap.SameBut a s.heap h' → SetS P w h' a L' es' ep' t' → L'.Perm L → Q () { heap := h', gens := s.gens, drawn := s.drawn, toks := s.toks, os := s.os }) : wpAny (model P w) A (setRelay a wanted) Q E s := by
  have sz : es.size = L.length := by
    have := congrArg List.length rows
    rw [List.length_map, Array.length_toList] at this
    exact this
  have st : ∀ {Q : Array (Int × Value) × Nat × SetTable → Shared → Prop}, Q (es, ep, t) s → wpAny (model P w) A (setState a) Q E s := fun hQ => by
    unfold setState
    refine wpAny_bind (wpAny_load h1 ?_)
    rw [h3]
    show wpAny _ _ (if (t.place.size != es.size || decide (t.fill > t.mask)) = true then _ else _) _ _ _
    have z1 : (t.place.size != es.size) = false := by rw [ps]; exact bne_self_eq_false _
    have z2 : t.fill ≤ t.mask := by
      unfold SetTable.fill
      rw [dm, ps]
      show es.size + 0 ≤ _
      omega
    rw [if_neg (by rw [z1, decide_eq_false (by omega)]; decide)]
    exact wpAny_pure hQ
  rw [setRelay_eq]
  refine wpAny_bind (st ?_)
  show wpAny _ _ (if SetTable.sizeAbove wanted > sizeLine then _ else _) _ _ _
  have sl : (128 : Nat) ≤ sizeLine := by decide
  rw [if_neg (by omega)]
  have hsz : (Array.map (fun x : Int × Value => x.fst) es).size ≤ M := by
    rw [Array.size_map]
    omega
  obtain ⟨owner, ho, own⟩ := layClean_ok mok hsz
  have hs : (Array.map (fun x : Int × Value => x.fst) es).toList = L.map fun p => shash P w p.2 := by
    rw [Array.toList_map, rows, List.map_map]
    rfl
  rw [hs] at own
  obtain ⟨pm, tab⟩ := relay_tab (t := t) mok own
  rw [List.length_map] at pm
  rw [relaid_eq, hM, ho]
  have inr : ∀ k ∈ (liveOf M owner).map (·.2), k < L.length := fun k hk => List.mem_range.mp (pm.mem_iff.mp hk)
  have ees : (Array.filterMap (fun x => es[x]?) ((liveOf M owner).map (·.2)).toArray).toList = ((liveOf M owner).map (·.2)).map fun k => (shash P w (L.getD k (0, [])).2, Value.ref (L.getD k (0, [])).1) := by
    rw [Array.toList_filterMap]
    refine filterMap_some fun k hk => ?_
    have hk := inr k hk
    rw [← Array.getElem?_toList, rows, List.getElem?_map, List.getElem?_eq_getElem hk, List.getD_eq_getElem?_getD, List.getElem?_eq_getElem hk]
    rfl
  generalize hE : Array.filterMap (fun x => es[x]?) ((liveOf M owner).map (·.2)).toArray = es' at ees
  have s1 : es'.size = es.size := by
    have e1 := congrArg List.length ees
    rw [List.length_map, Array.length_toList] at e1
    rw [e1, sz, pm.length_eq, List.length_range]
  show wpAny _ _ (_ >>= _) Q E s
  refine wpAny_bind ?_
  show wpAny _ _ (if ((Array.filterMap (fun x => es[x]?) ((liveOf M owner).map (·.2)).toArray).size != es.size) = true then _ else _) _ _ _
  rw [hE, if_neg (by rw [s1, bne_self_eq_false]; exact fun z => nomatch z)]
  refine wpAny_pure ?_
  show wpAny _ _ (storeSet a es' (tabOf t M owner)) _ _ _
  obtain ⟨sb, o', p1, p2, p3⟩ := putSet_at (es1 := es') (t1 := tabOf t M owner) h1 h2 h3
  have fl : (64 : Nat) ≤ sizeLine := by decide
  refine storeS h1 h3 (by omega) ?_
  have perm : (((liveOf M owner).map (·.2)).map fun k => L.getD k (0, [])).Perm L := by
    have e := pm.map fun k => L.getD k (0, [])
    rw [map_range_get] at e
    exact e
  refine hQ _ (((liveOf M owner).map (·.2)).map fun k => L.getD k (0, [])) es' (ep + 1) (tabOf t M owner) sb ⟨⟨o', p1, p2, p3⟩, ?_, ?_, ?_, fun p hp => ?_, led, ?_, ?_⟩ perm
  · rw [ees, List.map_map, List.map_map, List.map_map]
    rfl
  · have e : ((((liveOf M owner).map (·.2)).map fun k => L.getD k (0, [])).map fun p => shash P w p.2) = (liveOf M owner).map fun p => (L.map fun p => shash P w p.2).getD p.2 0 := by
      rw [List.map_map, List.map_map]
      refine List.map_congr_left fun p hp => ?_
      have hk := inr p.2 (List.mem_map.mpr ⟨p, hp, rfl⟩)
      show shash P w (L.getD p.2 (0, [])).2 = (L.map fun p => shash P w p.2).getD p.2 0
      rw [List.getD_eq_getElem?_getD, List.getElem?_eq_getElem hk, List.getD_eq_getElem?_getD, List.getElem?_map, List.getElem?_eq_getElem hk]
      rfl
    rw [e]
    exact tab
  · exact ((perm.map (·.2)).nodup_iff).mpr nd
  · exact isS_same (tup p (perm.mem_iff.mp hp)) h1 h3 sb
  · rw [perm.length_eq]
    exact room
  · rw [perm.length_eq]
    exact few
/-- one tuple more -/
theorem addS (S : SetS P w s.heap a L es ep t) {x : Addr} {k : List Str} (hx : IsS P w s.heap k x) (u : A.units < cLine) (few : L.length + 1 < 64) {Q : Bool → Shared → Prop}
    (hQ : ∀ b h' L' es' ep' t', Heap.SameBut a s.heap h' → SetS P w h' a L' es' ep' t' → (k ∈ L.map (·.2) → L' = L) → (k ∉ L.map (·.2) → L'.Perm ((x, k) :: L)) → Q b { heap := h', gens := s.gens, drawn := s.drawn, toks := s.toks, os := s.os }) :
    wpAny (model P w) A (setAddHashed a (.ref x) (shash P w k)) Q E s := by
  unfold setAddHashed
  refine wpAny_holding ?_
  show wpAny _ _ (setAddHashedIn a (.ref x) (shash P w k) (99999 + 1)) _ _ _
  rw [setAddHashedIn_succ]
  refine wpAny_bind (stateS S ?_)
  show wpAny _ _ (if byScan (.ref x) es = true then _ else _) _ _ _
  rw [if_neg (show ¬ byScan (.ref x) es = true from fun z => nomatch z)]
  refine wpAny_bind (searchS S hx u (fun hk => ?_) fun K hk nK aK => ?_)
  · exact wpAny_pure (hQ false s.heap L es ep t ⟨rfl, fun _ _ => rfl⟩ S (fun _ => rfl) fun z => absurd hk z)
  · refine wpAny_bind (stateS S ?_)
    dsimp only
    obtain ⟨g1, g2, g3, g4, g5, g6, g7, g8, g9⟩ := S.tab.put nK aK
    generalize hj : way t.mask (shash P w k) K = j at *
    rw [List.length_map] at g2 g9
    generalize hpr : t.put j = pr at g1 g2 g3 g4 g5 g6 g7 g8 g9 ⊢
    obtain ⟨t1, p⟩ := pr
    have g1 : p = SetTable.below t.place j := g1
    rw [← g1] at g2 g3
    replace g3 : TabOk t1 _ := g3
    replace g4 : t1.mask = t.mask := g4
    replace g5 : t1.led = t.led := g5
    replace g9 : t1.fill = L.length + 1 := g9
    obtain ⟨o, h1, h2, h3⟩ := S.ob
    -- what follows once it is known whether the hash goes by value
    have rest : ∀ (t2 : SetTable), t2.mask = t1.mask → t2.place = t1.place → t2.dummies = t1.dummies → t2.led = t1.led →
        wpAny (model P w) A (do
          storeSet a (SetTable.insertAt es p (shash P w k, .ref x)) t2
          if (!false && t2.tooFull) = true then do
            setRelay a (SetTable.grown (es.size + 1))
            pure true
          else pure true) Q E s := by
      intro t2 m1 m2 m3 m4
      have tab2 : TabOk t2 ((L.map fun p => shash P w p.2).take p ++ shash P w k :: (L.map fun p => shash P w p.2).drop p) := by
        obtain ⟨a1, a2, a3, a4, a5, a6⟩ := g3
        exact ⟨by rw [m2]; exact a1, by rw [m3]; exact a2, by rw [m2]; exact a3, by rw [m1]; exact a4, fun z hz => by rw [m2] at hz; rw [m1]; exact a5 z hz, fun i h j e1 e2 => by rw [m2] at e2; obtain ⟨K, f1, f2⟩ := a6 i h j e1 e2; exact ⟨K, by rw [m1]; exact f1, fun k' hk' => by rw [m1, m2]; exact f2 k' hk'⟩⟩
      have eL : (L.take p ++ (x, k) :: L.drop p).map (fun q => shash P w q.2) = (L.map fun p => shash P w p.2).take p ++ shash P w k :: (L.map fun p => shash P w p.2).drop p := by
        rw [List.map_append, List.map_cons, List.map_take, List.map_drop]
      have perm : (L.take p ++ (x, k) :: L.drop p).Perm ((x, k) :: L) := by
        refine List.perm_middle.trans ?_
        rw [List.take_append_drop]
      have nd2 : ((L.take p ++ (x, k) :: L.drop p).map (·.2)).Nodup := ((perm.map (·.2)).nodup_iff).mpr (List.nodup_cons.mpr ⟨hk, S.nd⟩)
      have len2 : (L.take p ++ (x, k) :: L.drop p).length = L.length + 1 := perm.length_eq
      have rows2 : (SetTable.insertAt es p (shash P w k, Value.ref x)).toList = (L.take p ++ (x, k) :: L.drop p).map fun q => (shash P w q.2, Value.ref q.1) := by
        rw [insertAt_list, S.rows, List.map_append, List.map_cons, List.map_take, List.map_drop]
      obtain ⟨sb, o', p1, p2, p3⟩ := putSet_at (es1 := SetTable.insertAt es p (shash P w k, Value.ref x)) (t1 := t2) h1 h2 h3
      have sz2 : (SetTable.insertAt es p (shash P w k, Value.ref x)).size = L.length + 1 := by
        have := congrArg List.length rows2
        rw [List.length_map, Array.length_toList, len2] at this
        exact this
      have fl : (64 : Nat) ≤ sizeLine := by decide
      refine wpAny_bind (storeS h1 h3 (by omega) ?_)
      have tup2 : ∀ q ∈ L.take p ++ (x, k) :: L.drop p, IsS P w (s.heap.update a (Obj.putSet (SetTable.insertAt es p (shash P w k, Value.ref x)) t2)) q.2 q.1 := fun q hq => by
        rcases List.mem_cons.mp (perm.mem_iff.mp hq) with e | e
        · rw [e]
          exact isS_same hx h1 h3 sb
        · exact isS_same (S.tup q e) h1 h3 sb
      have led2 : w.params.followText "set-order" = true ∨ t2.led = true := by rw [m4, g5]; exact S.led
      have fill2 : t2.fill = L.length + 1 := by
        rw [← g9]
        unfold SetTable.fill
        rw [m2, m3]
      by_cases tf : t2.tooFull = true
      · rw [if_pos (by rw [tf]; rfl)]
        have full : t.mask * 3 ≤ (L.length + 1) * 5 := by
          unfold SetTable.tooFull at tf
          have := of_decide_eq_true tf
          rw [fill2, m1, g4] at this
          omega
        have rm := S.room
        have fin : ∀ M, SetTable.sizeAbove (SetTable.grown (es.size + 1)) - 1 = M → MaskOk M → SetTable.sizeAbove (SetTable.grown (es.size + 1)) ≤ 128 → (L.length + 1) * 5 < M * 3 →
            wpAny (model P w) A (do setRelay a (SetTable.grown (es.size + 1)); pure true) Q E { heap := s.heap.update a (Obj.putSet (SetTable.insertAt es p (shash P w k, Value.ref x)) t2), gens := s.gens, drawn := s.drawn, toks := s.toks, os := s.os } := fun M c1 c2 c3 c4 => by
          refine wpAny_bind (relayS (s := { heap := s.heap.update a (Obj.putSet (SetTable.insertAt es p (shash P w k, Value.ref x)) t2), gens := s.gens, drawn := s.drawn, toks := s.toks, os := s.os }) p1 p2 p3 rows2 ?_ tab2.dm ?_ nd2 tup2 led2 (by omega) c1 c2 c3 (by rw [len2]; exact c4) fun h' L' es' ep' t' b1 b2 b3 => ?_)
          · rw [tab2.sz, ← eL, List.length_map, len2, sz2]
          · rw [sz2, m1, g4]
            rcases S.tab.mok with e | e | e <;> (rw [e] at rm ⊢; omega)
          · exact wpAny_pure (hQ true h' L' es' ep' t' ⟨b1.1.trans sb.1, fun b hb => (b1.2 b hb).trans (sb.2 b hb)⟩ b2 (fun z => absurd z hk) fun _ => b3.trans perm)
        rw [S.size] at fin ⊢
        rcases S.tab.mok with e | e | e
        · have ln : L.length = 4 := by rw [e] at rm full; omega
          rw [ln] at fin ⊢
          exact fin 31 (by decide) (Or.inr (Or.inl rfl)) (by decide) (by decide)
        · have ln : L.length = 18 := by rw [e] at rm full; omega
          rw [ln] at fin ⊢
          exact fin 127 (by decide) (Or.inr (Or.inr rfl)) (by decide) (by decide)
        · rw [e] at full
          omega
      · rw [if_neg (by rw [Bool.not_eq_true] at tf; rw [tf]; decide)]
        have room2 : (L.take p ++ (x, k) :: L.drop p).length * 5 < t2.mask * 3 := by
          rw [len2]
          unfold SetTable.tooFull at tf
          rw [decide_eq_true_iff, fill2] at tf
          omega
        refine wpAny_pure (hQ true _ (L.take p ++ (x, k) :: L.drop p) _ _ t2 sb ⟨⟨o', p1, p2, p3⟩, rows2, by rw [eL]; exact tab2, nd2, tup2, led2, room2, by omega⟩ (fun z => absurd z hk) fun _ => perm)
    show wpAny _ _ (if t1.plain = true then _ else _) _ _ _
    by_cases pl : t1.plain = true
    · rw [if_pos pl]
      refine wpAny_bind (hashS hx fun v => ?_)
      cases v with
      | true => exact rest t1 rfl rfl rfl rfl
      | false => exact rest { t1 with plain := false } rfl rfl rfl rfl
    · rw [if_neg pl]
      refine wpAny_bind (wpAny_pure ?_)
      exact rest t1 rfl rfl rfl rfl
end
end Lay
/-! LayAD: {x for xs in .. for x in xs}, a set of tuples of texts, and sorted of it. -/
namespace Lay
open PySem PySem.Spec PyProof.Rows L2
section
variable {P : Program} {w : World} {A : Around} {E : Value → Shared → Prop} {s : Shared}
theorem calmly {α : Type} {m : Sem α} {Q : α → Shared → Prop} (h : wpAny (model P w) A m Q (fun _ _ => False) s) : wpAny (model P w) A m Q E s := wpAny_mono h (fun _ _ z => z) fun _ _ z => z.elim
variable {elt t0 i0 t1 i1 : Expr} {sc : Scope} {pos : Pos} {acc it : Value} {env : Env} {R : Result → Shared → Prop}
/-- the inner loop -/
theorem set_in (I : Nat → Shared → Prop) (h : ∀ (n : Nat) (s : Shared), I n s → wpAny (model P w) A (pyNext it) (fun r s₁ => match r with
    | none => R (.ok .next) s₁
    | some v => wpAny (model P w) A (letOwnedTupleGo t1 it v) (fun _ s2 => wpAny (model P w) A (assign t1 env v) (fun _ s3 => wpAny (model P w) A (eval elt env) (fun x s4 => wpAny (model P w) A (call (.builtin "set.add") [acc, x]) (fun _ s5 => ∃ m, m < n ∧ I m s5) (fun _ _ => False) s4) (fun _ _ => False) s3) (fun _ _ => False) s2) (fun _ _ => False) s₁) (fun _ _ => False) s) :
    ∀ n, I n s → codeAny (model P w) A (.compLoop (.SetComp elt [⟨t0, i0, [], 0⟩, ⟨t1, i1, [], 0⟩] sc pos) 1 it acc env) R s := by
  intro n hI
  refine codeAny_loop (M := model P w) (c := .compLoop (.SetComp elt [⟨t0, i0, [], 0⟩, ⟨t1, i1, [], 0⟩] sc pos) 1 it acc env) rfl I (fun n s hI => ?_) n hI
  show wpAny (model P w) A ((compTurn (.SetComp elt [⟨t0, i0, [], 0⟩, ⟨t1, i1, [], 0⟩] sc pos) 1 it acc env).onRaise _) _ _ _
  refine wpAny_onRaise (calmly ?_)
  unfold compTurn
  refine wpAny_bind (wpAny_standAt ?_)
  refine wpAny_bind (wpAny_mono (h n s hI) (fun r s1 hr => ?_) fun _ _ z => z)
  cases r with
  | none => exact wpAny_pure hr
  | some v =>
    refine wpAny_bind (wpAny_mono hr (fun _ s2 hr => ?_) fun _ _ z => z)
    refine wpAny_bind (wpAny_mono hr (fun _ s3 hr => ?_) fun _ _ z => z)
    refine wpAny_bind (wpAny_pure ?_)
    show wpAny (model P w) A (if (true : Bool) = true then _ else _) _ _ _
    rw [if_pos rfl]
    refine wpAny_bind (wpAny_bind (wpAny_mono hr (fun x s4 hr => ?_) fun _ _ z => z))
    refine wpAny_bind (wpAny_standAt ?_)
    refine wpAny_bind (wpAny_mono hr (fun _ s5 hr => ?_) fun _ _ z => z)
    refine wpAny_pure ?_
    exact wpAny_pure ⟨rfl, hr⟩
theorem set_start (d : Nat) (h1 : codeAny (model P w) A (.compLoop (.SetComp elt [⟨t0, i0, [], 0⟩, ⟨t1, i1, [], 0⟩] sc pos) d it acc env) R s)
    (h2 : wpAny (model P w) A (pyIter it) (fun it' s' => codeAny (model P w) A (.compLoop (.SetComp elt [⟨t0, i0, [], 0⟩, ⟨t1, i1, [], 0⟩] sc pos) d it' acc env) R s') (fun _ _ => False) s) (hd : d = 0 ∨ d = 1) :
    codeAny (model P w) A (.compStart (.SetComp elt [⟨t0, i0, [], 0⟩, ⟨t1, i1, [], 0⟩] sc pos) d it acc env) R s := by
  refine codeAny_of_tree ?_
  show wpAny (model P w) A ((compStart (.SetComp elt [⟨t0, i0, [], 0⟩, ⟨t1, i1, [], 0⟩] sc pos) d it acc env).onRaise _) _ _ _
  refine wpAny_onRaise (calmly ?_)
  unfold compStart
  rcases hd with rfl | rfl
  all_goals
    rw [if_neg (fun z => nomatch z)]
    refine wpAny_bind (wpAny_askSetting ?_)
    show wpAny (model P w) A (if (w.params.followText "comprehension-iter-twice") = true then _ else _) _ _ _
    by_cases f : (w.params.followText "comprehension-iter-twice") = true
    · rw [if_pos f]
      exact wpAny_pure ⟨rfl, h1⟩
    · rw [if_neg f]
      refine wpAny_bind (wpAny_rule ?_)
      refine wpAny_bind (wpAny_standAt ?_)
      refine wpAny_bind (wpAny_mono h2 (fun it' s' h => ?_) fun _ _ z => z)
      exact wpAny_pure ⟨rfl, h⟩
/-- the outer loop -/
theorem set_out (fs : ∀ x, foldedSetIterable i1 env x = pure x) (I : Nat → Shared → Prop) (h : ∀ (n : Nat) (s : Shared), I n s → wpAny (model P w) A (pyNext it) (fun r s₁ => match r with
    | none => R (.ok .next) s₁
    | some v => wpAny (model P w) A (letOwnedTupleGo t0 it v) (fun _ s2 => wpAny (model P w) A (assign t0 env v) (fun _ s3 => wpAny (model P w) A (eval i1 env) (fun x s4 => wpAny (model P w) A (pyIter x) (fun it1 s5 =>
        codeAny (model P w) A (.compStart (.SetComp elt [⟨t0, i0, [], 0⟩, ⟨t1, i1, [], 0⟩] sc pos) 1 it1 acc env) (fun r s' => match r with | .ok _ => ∃ m, m < n ∧ I m s' | .error _ => False) s5) (fun _ _ => False) s4) (fun _ _ => False) s3) (fun _ _ => False) s2) (fun _ _ => False) s₁) (fun _ _ => False) s) :
    ∀ n, I n s → codeAny (model P w) A (.compLoop (.SetComp elt [⟨t0, i0, [], 0⟩, ⟨t1, i1, [], 0⟩] sc pos) 0 it acc env) R s := by
  intro n hI
  refine codeAny_loop (M := model P w) (c := .compLoop (.SetComp elt [⟨t0, i0, [], 0⟩, ⟨t1, i1, [], 0⟩] sc pos) 0 it acc env) rfl I (fun n s hI => ?_) n hI
  show wpAny (model P w) A ((compTurn (.SetComp elt [⟨t0, i0, [], 0⟩, ⟨t1, i1, [], 0⟩] sc pos) 0 it acc env).onRaise _) _ _ _
  refine wpAny_onRaise (calmly ?_)
  unfold compTurn
  refine wpAny_bind (wpAny_standAt ?_)
  refine wpAny_bind (wpAny_mono (h n s hI) (fun r s1 hr => ?_) fun _ _ z => z)
  cases r with
  | none => exact wpAny_pure hr
  | some v =>
    refine wpAny_bind (wpAny_mono hr (fun _ s2 hr => ?_) fun _ _ z => z)
    refine wpAny_bind (wpAny_mono hr (fun _ s3 hr => ?_) fun _ _ z => z)
    refine wpAny_bind (wpAny_pure ?_)
    show wpAny (model P w) A (if (true : Bool) = true then _ else _) _ _ _
    rw [if_pos rfl]
    refine wpAny_bind (wpAny_mono hr (fun x s4 hr => ?_) fun _ _ z => z)
    refine wpAny_bind (wpAny_standAt ?_)
    show wpAny (model P w) A (if ((0 : Nat) != 0) = true then _ else _) _ _ _
    rw [if_neg (fun z => nomatch z), fs]
    refine wpAny_bind (wpAny_pure ?_)
    refine wpAny_bind (wpAny_holding ?_)
    show wpAny (model P w) A (if ((0 : Nat) != 0) = true then _ else _) _ _ _
    rw [if_neg (fun z => nomatch z)]
    refine wpAny_mono hr (fun it1 s5 hr => ?_) fun _ _ z => z
    refine wpAny_bind (wpAny_runOwn (codeAny_mono hr fun r s' hr => ?_))
    cases r with
    | error e => exact hr.elim
    | ok f => exact wpAny_pure ⟨rfl, hr⟩
end
end Lay
/-! LayAE: {x for xs in .. for x in xs} as a rule; a set of tuples of texts among the objects that are told. -/
namespace Lay
open PySem PySem.Spec PyProof.Rows L2
/-- the set itself, its tuples told elsewhere -/
def SetS1 (P : Program) (w : World) (a : Addr) (L : List (Addr × List Str)) (h : Heap) : Prop := ∃ (es : Array (Int × Value)) (ep : Nat) (t : SetTable), (∃ o, h.get? a = some o ∧ o.ExactSet ∧ o.data = Data.set es ep t) ∧ (es.toList = L.map fun p => (shash P w p.2, Value.ref p.1)) ∧
  TabOk t (L.map fun p => shash P w p.2) ∧ (L.map (·.2)).Nodup ∧ (w.params.followText "set-order" = true ∨ t.led = true) ∧ L.length * 5 < t.mask * 3 ∧ L.length < 64
def SetSO (P : Program) (w : World) (a : Addr) (L : List (Addr × List Str)) : HO := .ext (SetS1 P w a L)
section
variable {P : Program} {w : World} {h : Heap} {a : Addr} {L : List (Addr × List Str)}
theorem SetS.one {es : Array (Int × Value)} {ep : Nat} {t : SetTable} (S : SetS P w h a L es ep t) : SetS1 P w a L h := ⟨es, ep, t, S.ob, S.rows, S.tab, S.nd, S.led, S.room, S.few⟩
theorem SetS1.all (S : SetS1 P w a L h) (ht : ∀ p ∈ L, IsS P w h p.2 p.1) : ∃ es ep t, SetS P w h a L es ep t := by
  obtain ⟨es, ep, t, a1, a2, a3, a4, a5, a6, a7⟩ := S
  exact ⟨es, ep, t, a1, a2, a3, a4, ht, a5, a6, a7⟩
theorem SetS1.new {H : Hp} (S : SetS1 P w a L h) : ObjOk P w H h a (SetSO P w a L) := by
  refine ⟨S, ?_, fun h1 h2 z k => ?_⟩
  · obtain ⟨_, _, _, ⟨o, e, _⟩, _⟩ := S
    exact ⟨o, e⟩
  · obtain ⟨es, ep, t, ⟨o, e, r⟩, q⟩ := z
    exact ⟨es, ep, t, ⟨o, k o e, r⟩, q⟩
theorem SetS1.fresh (w : World) (g : h.get? a = some { cls := .type "set", dict := none, data := .set #[] 0 (.fresh 0 0 (!w.params.followText "set-order")) }) : SetS1 P w a [] h := by
  refine ⟨#[], 0, .fresh 0 0 (!w.params.followText "set-order"), ⟨_, g, ⟨rfl, rfl, rfl⟩, rfl⟩, rfl, ⟨.nil, rfl, rfl, .inl rfl, fun x hx => ?_, fun i y j e => ?_⟩, .nil, ?_, ?_, ?_⟩
  · cases hx
  · simp at e
  · cases z : w.params.followText "set-order" with
    | true => exact .inl rfl
    | false => exact .inr rfl
  · show 0 * 5 < 7 * 3
    decide
  · decide
theorem strs_items : ∀ {k : List Str} {us : List Value}, Vals (k.map V.str) us → PySem.ItemsAre (PySem.strKind P w) k us
  | [], _, .nil => .nil
  | z :: k, _, .cons r t => by
    obtain ⟨n, rfl⟩ := r
    exact .cons (by exact decide_eq_true rfl) (strs_items t)
end
section
variable {X : Cx} {pn : List (Addr × Obj)} {σ : L2.St} {H : Hp} {t : Shared}
theorem isS_of {b : Addr} {k : List Str} (I : Inv X pn σ H t) (g : SqT X.K H b (k.map V.str)) : IsS X.prog X.w t.heap k b := by
  obtain ⟨us, r, ⟨o, e1, e2, n, e3⟩, _⟩ := I.tuple g
  exact ⟨o, us.toArray, n, e1, e2, e3, by simpa using strs_items r⟩
/-- set.add -/
theorem add_setS {E : Value → Shared → Prop} {D b : Addr} {k : List Str} {L : List (Addr × List Str)} {Q : Value → Shared → Prop} (hu : X.A.units + 64 < cLine) (I : Inv X pn σ H t) (hD : H D = some (SetSO X.prog X.w D L)) (hb : SqT X.K H b (k.map V.str)) (hL : ∀ p ∈ L, SqT X.K H p.1 (p.2.map V.str)) (few : L.length + 1 < 64)
    (q : ∀ L' t', (k ∈ L.map (·.2) → L' = L) → (k ∉ L.map (·.2) → L'.Perm ((b, k) :: L)) → Inv X pn σ (upd H D (SetSO X.prog X.w D L')) t' → Q .none t') : wpAny (model X.prog X.w) X.A (call (.builtin "set.add") [.ref D, .ref b]) Q E t := by
  have S1 : SetS1 X.prog X.w D L t.heap := (I.hok D _ hD).1
  obtain ⟨es, ep, tb, S⟩ := S1.all fun p hp => isS_of I (hL p hp)
  have kb := isS_of I hb
  have ty : t.TypeIs (.ref D) "set" := by
    obtain ⟨o, e, x, _⟩ := S.ob
    exact ⟨o, e, x.1⟩
  refine wpAny_call_entry F.slot_set_add ty F.entry_set_add ?_ (F.args_set_add_2 _ _)
  show wpAny _ _ ((do let p ← Builtin.Frozenset.oneOther "add" ⟨[.ref D, .ref b], []⟩; let _ ← setAdd p.1 p.2; ret Value.none)) _ _ _
  unfold Builtin.Frozenset.oneOther
  simp only [List.isEmpty_nil, bind_assoc]
  unfold Builtin.Frozenset.addrOf setAdd
  refine wpAny_bind (wpAny_pure (wpAny_bind (wpAny_pure (wpAny_bind (wpAny_holding ?_)))))
  refine wpAny_bind (wpAny_pyHash_tuple (knd := PySem.strKind X.prog X.w) (by show X.A.units + 1 < cLine; omega) kb ?_)
  refine addS (s := { heap := t.heap, gens := t.gens, drawn := t.drawn, toks := t.toks + (k.length + 1), os := t.os }) S kb (by show X.A.units + 1 < cLine; omega) few fun r h' L' es' ep' tb' sb S' c1 c2 => ?_
  show wpAny _ _ (ret Value.none) _ _ _
  refine wpAny_pure ⟨_, rfl, q L' _ c1 c2 ?_⟩
  have ex : ∃ u, h'.get? D = some u := by
    obtain ⟨o, e, _⟩ := S'.ob
    exact ⟨o, e⟩
  exact I.write (e := D) (t' := t.toks + (k.length + 1)) (by rw [hD]; trivial) (.inl rfl) (fun c u hc e => (sb.2 c hc).trans e) ex S'.one.new
end
section
variable {X : Cx}
/-- D: the new set -/
def tSc2 (K : PySem.W.Frag) (P : Program) (w : World) (wi : TI) (g : TG) (wi1 : TI) (g1 : TG) (te : TE) (vs vs1 : List Nat) : TE := fun σ H Q => wi σ H fun J H1 => ∀ D, H1 D = none → ∃ W : Nat → Nat → Hp → Prop, (∃ m, W 0 m (upd H1 D (SetSO P w D []))) ∧ ∀ i m H, W i m H →
  (J.stop i H ∧ Q (.ref D) H) ∨ (J.go i H ∧ ∃ Nx : Hp → Prop, (∀ H', Nx H' → ∃ m', m' < m ∧ W (i + 1) m' H') ∧ ∀ x H', J.yld i H x H' → g x (wipe σ vs) H' fun σ2 H2 => wipe σ2 vs = wipe σ vs ∧
    wi1 σ2 H2 fun J1 H4 => ∃ W1 : Nat → Nat → Hp → Prop, (∃ m, W1 0 m H4) ∧ ∀ j k H, W1 j k H →
      (J1.stop j H ∧ Nx H) ∨ (J1.go j H ∧ ∃ Nx1 : Hp → Prop, (∀ H', Nx1 H' → ∃ k', k' < k ∧ W1 (j + 1) k' H') ∧ ∀ x H', J1.yld j H x H' → g1 x (wipe σ2 vs1) H' fun σ3 H5 => wipe σ3 vs1 = wipe σ2 vs1 ∧
        te σ3 H5 fun y H6 => ∃ (b : Addr) (z : List Str) (L : List (Addr × List Str)), y = .ref b ∧ SqT K H6 b (z.map V.str) ∧ H6 D = some (SetSO P w D L) ∧ (∀ p ∈ L, SqT K H6 p.1 (p.2.map V.str)) ∧ L.length + 1 < 64 ∧
          ∀ L', (z ∈ L.map (·.2) → L' = L) → (z ∉ L.map (·.2) → L'.Perm ((b, z) :: L)) → Nx1 (upd H6 D (SetSO P w D L'))))
theorem sc2_run {pn : List (Addr × Obj)} {t : Shared} {σ : L2.St} {H : Hp} {Q : VK} {elt te0 ie0 te1 ie1 : Expr} {sc : Scope} {own : List (Str × Nat)} {vs1 : List Nat} {p0 p1 : Pos} {wi wi1 : TI} {g g1 : TG} {te : TE} {us : Option (Value → Sem Unit)} {R : Value → Shared → Prop}
    (hu : X.A.units + 64 < cLine) (calm : X.calm = true) (nd : X.N.Nodup) (I : Inv X pn σ H t) (PIe : PI X te0 ie0 wi) (B : BlkOk X.N X.env.scope sc own) (sub : ∀ i ∈ vs1, i ∈ own.map (·.2))
    (PG0 : ∀ (t : Shared) (H : Hp) (C : Addr) (cl : List (Str × Addr)) (ps : List Addr), PG (X.blk t H sc (compEnvC sc cl C X.env) ps) te0 g)
    (PI1 : ∀ (t : Shared) (H : Hp) (C : Addr) (cl : List (Str × Addr)) (ps : List Addr), PI (X.blk t H sc (compEnvC sc cl C X.env) ps) te1 ie1 wi1)
    (PG1 : ∀ (t : Shared) (H : Hp) (C : Addr) (cl : List (Str × Addr)) (ps : List Addr), PG (X.blk t H sc (compEnvC sc cl C X.env) ps) te1 g1)
    (PEe : ∀ (t : Shared) (H : Hp) (C : Addr) (cl : List (Str × Addr)) (ps : List Addr), PE (X.blk t H sc (compEnvC sc cl C X.env) ps) elt te) (fs : ∀ x, foldedSetIterable ie0 X.env x = pure x) (fs1 : ∀ env x, foldedSetIterable ie1 env x = pure x)
    (w : tSc2 X.K X.prog X.w wi g wi1 g1 te (own.map (·.2)) vs1 σ H Q)
    (fin : ∀ D C t' m H', Inv X pn σ H' t' → Q (.ref D) H' → t'.heap.Ns C m → FpOk X pn H' C → compPost (model X.prog X.w) X.A X.xe us R (.ref D) C (.ok .next) t') :
    wpAny (model X.prog X.w) X.A (comprehension (.SetComp elt [⟨te0, ie0, [], 0⟩, ⟨te1, ie1, [], 0⟩] sc p0) sc X.env p1 (newSet (.type "set")) false (eval ie0 X.env) us) R X.xe t := by
  have caught : ∀ y ∈ sc.names, y.2 = .free → ∃ c, X.env.cells.lookup y.1 = some c := fun y hy e => (B.free y hy e).elim (fun k => I.ok.has _ (.inl k)) fun k => I.ok.has _ (.inr k)
  refine wpAny_comprehension_free (use := us) rfl fs (closure_ok caught) B.kind (fun y hy e => (B.uniq y hy).trans (by rw [e])) (thn (PIe.run pn t σ H _ I w) fun _ t1 z => thn z fun _ t2 z => ?_)
  obtain ⟨it, ps, st, J, G, rfl, IG, T, stG, free, w⟩ := z
  refine PpSet.newSet_ok (newEnv_comp ?_)
  generalize eD : t2.heap.objs.size = D
  have newD : G D = none := IG.hok.fresh (Nat.le_of_eq eD)
  obtain ⟨W, ⟨m0, w0⟩, turn⟩ := w D newD
  generalize eO : ({ cls := .type "set", dict := none, data := .set #[] 0 (.fresh 0 0 (!X.w.params.followText "set-order")) } : Obj) = oS
  generalize e3 : ({ t2 with heap := t2.heap.push oS } : Shared) = t3
  have hp3 : t3.heap = t2.heap.push oS := by subst e3; rfl
  have I3 : Inv X pn σ (upd G D (SetSO X.prog X.w D [])) t3 := by
    subst e3
    refine IG.laid (t' := t2.toks) (fun _ _ e => Heap.get?_push_of_some _ e) (Nat.le_of_eq eD) ?_
    refine (SetS1.fresh X.w ?_).new
    subst eD eO
    exact Heap.get?_push_size _ rfl
  have old : ∀ b ∈ ps, b < t2.heap.objs.size := fun b hb => (T.obj _ _ stG b hb).elim fun o e => Heap.lt_size e.1
  have out3 : ∀ b ∈ ps, FpOk X pn (upd G D (SetSO X.prog X.w D [])) b ∧ b < t3.heap.objs.size := fun b hb => by
    have lt := old b hb
    have ne : b ≠ D := fun e => absurd (eD.trans e.symm) (Nat.ne_of_gt lt)
    exact ⟨⟨(upd_ne ne).trans (free b hb).1, (free b hb).2⟩, hp3 ▸ (Heap.size_push t2.heap _).symm ▸ Nat.lt_succ_of_lt lt⟩
  have st3 : st 0 t3.heap := T.keep _ _ _ stG fun b _ o e => by rw [hp3]; exact Heap.get?_push_of_some _ e
  have I4 := block_start I3 B nd out3
  have gg := PG0 t3 (upd G D (SetSO X.prog X.w D [])) t3.heap.objs.size (cellsFrom (t3.heap.objs.size + 1) sc.names (cloFrom X.env.cells sc.names [])) ps
  have gi := PI1 t3 (upd G D (SetSO X.prog X.w D [])) t3.heap.objs.size (cellsFrom (t3.heap.objs.size + 1) sc.names (cloFrom X.env.cells sc.names [])) ps
  have gh := PG1 t3 (upd G D (SetSO X.prog X.w D [])) t3.heap.objs.size (cellsFrom (t3.heap.objs.size + 1) sc.names (cloFrom X.env.cells sc.names [])) ps
  have ge := PEe t3 (upd G D (SetSO X.prog X.w D [])) t3.heap.objs.size (cellsFrom (t3.heap.objs.size + 1) sc.names (cloFrom X.env.cells sc.names [])) ps
  have goal : ∀ {Z : Result → Shared → Prop}, codeAny (model X.prog X.w) X.A (.compStart (.SetComp elt [⟨te0, ie0, [], 0⟩, ⟨te1, ie1, [], 0⟩] sc p0) 0 (.ref it) (.ref D) (compEnvC sc (cellsFrom (t3.heap.objs.size + 1) sc.names (cloFrom X.env.cells sc.names [])) t3.heap.objs.size X.env)) Z { t3 with heap := pushCells (t3.heap.push { cls := .type "dict", data := .dict #[] }) sc.names } →
      codeAny (model X.prog X.w) X.A (.compStart (.SetComp elt [⟨te0, ie0, [], 0⟩, ⟨te1, ie1, [], 0⟩] sc p0) 0 (.ref it) (.ref D) (compEnvC sc (cellsFrom (t3.heap.objs.size + 1) sc.names (cloFrom X.env.cells sc.names [])) t3.heap.objs.size X.env)) Z { t3 with heap := pushCells (t3.heap.push { cls := .type "dict", data := .dict #[] }) sc.names } := fun z => z
  refine goal (Z := compPost (model X.prog X.w) X.A X.xe us R (.ref D) t3.heap.objs.size) ?_
  have off : ∀ b ∈ ps, (upd G D (SetSO X.prog X.w D [])) b = none := fun b hb => (out3 b hb).1.1
  generalize eE : compEnvC sc (cellsFrom (t3.heap.objs.size + 1) sc.names (cloFrom X.env.cells sc.names [])) t3.heap.objs.size X.env = ev at I4 gg gi gh ge ⊢
  have lE : ev.locals = t3.heap.objs.size := eE ▸ rfl
  generalize eG3 : upd G D (SetSO X.prog X.w D []) = G3 at I3 I4 gg gi gh ge w0 off out3
  generalize e4 : ({ t3 with heap := pushCells (t3.heap.push { cls := .type "dict", data := .dict #[] }) sc.names } : Shared) = t4 at I4 ⊢
  have st4 : st 0 t4.heap := T.keep _ _ _ st3 fun b _ o e => by subst e4; exact pushCells_keeps _ _ _ _ (Heap.get?_push_of_some _ e)
  have here : ∀ {σ' : L2.St} {H' : Hp} {t' : Shared}, Inv (X.blk t3 G3 sc ev ps) [] σ' H' t' → (∀ b ∈ ps, H' b = none) → ∀ b ∈ ps, FpOk (X.blk t3 G3 sc ev ps) [] H' b := fun {σ' H' t'} J' n b hb =>
    ⟨n b hb, (J'.ok.exf b hb).1, J'.ok.exfs b hb, .inl hb, (fun x c e => (J'.ok.exf b hb).2 x c e), fun p hp => (by simp : p ∉ ([] : List (Addr × Obj)) ++ []).elim hp⟩
  refine set_start 0 ?_ (T.self X.A 0 _ _ _ st4 ?_) (.inl rfl)
  all_goals
    refine set_out (fs1 ev) (fun n t' => ∃ i H', Inv (X.blk t3 G3 sc ev ps) [] (wipe σ (own.map (·.2))) H' t' ∧ st i t'.heap ∧ (∀ b ∈ ps, H' b = none) ∧ W i n H') ?_ m0 ⟨0, G3, I4, st4, off, w0⟩
    rintro n t5 ⟨i, G5, I5, st5, n5, w5⟩
    rcases turn i n G5 w5 with ⟨stop, qq⟩ | ⟨go, Nx, hNx, step⟩
    · refine thnF (T.done (X.blk t3 G3 sc ev ps) rfl rfl rfl calm i [] t5 _ G5 (fun _ _ => False) I5 (here I5 n5) st5 stop) fun r t6 ⟨hr, I6⟩ => ?_
      subst hr
      have I7 : Inv X pn σ G5 t6 := I3.call' (ch := ps) I6.os I6.base I6.hok I6.bare fun b hb => match (out3 b hb).1 with | ⟨_, y1, y2, y3, y4⟩ => ⟨y3, y1, y4.1, y4.2⟩
      have fr : G5 t3.heap.objs.size = none := lE ▸ I6.free
      obtain ⟨m, hm, _⟩ := I6.loc
      exact fin D t3.heap.objs.size t6 m G5 I7 qq (lE ▸ hm) (I3.fpOk (Nat.le_refl _) fr)
    · refine thnF (T.item (X.blk t3 G3 sc ev ps) rfl rfl rfl calm i [] t5 _ G5 (fun _ _ => False) I5 (here I5 n5) st5 go) fun r t6 ⟨u, hr, h6⟩ => ?_
      subst hr
      refine thnF h6 fun _ t7 ⟨x, G7, I7, r7, y7, st7, n7⟩ => ?_
      refine thnF (gg.run _ t7 _ G7 x u _ (I7.pinned (here I7 n7) (T.obj _ _ st7)) r7 (step x G7 y7)) fun _ t8 ⟨σ8, G8, I8, e8, q8⟩ => ?_
      have back : ∀ {σ' : L2.St} {t' : Shared} {H' : Hp}, Inv (X.blk t3 G3 sc ev ps) ([] ++ pinsAt ps t7.heap) σ' H' t' → (wipe σ (own.map (·.2))).length = σ'.length → (∀ (j : Nat) v, (wipe σ (own.map (·.2)))[j]? = some (some v) → σ'[j]? = some (some v)) → Nx H' → ∃ m, m < n ∧ ∃ i H', Inv (X.blk t3 G3 sc ev ps) [] (wipe σ (own.map (·.2))) H' t' ∧ st i t'.heap ∧ (∀ b ∈ ps, H' b = none) ∧ W i m H' := fun {σ' t' H'} J' hl hk nx => by
        obtain ⟨m', lt, w'⟩ := hNx H' nx
        have pin : ∀ b ∈ ps, ∀ o, t7.heap.get? b = some o → t'.heap.get? b = some o ∧ H' b = none := fun b hb o e =>
          match J'.pin (b, o) (List.mem_append_right _ (List.mem_append_right _ (mem_pinsAt hb e))) with | ⟨z1, z2, _⟩ => ⟨z1, z2⟩
        refine ⟨m', lt, i + 1, H', (J'.unpinned (pins := [])).weak hl hk, T.keep _ _ _ st7 fun b hb o e => (pin b hb o e).1, fun b hb => ?_, w'⟩
        obtain ⟨o, e, _⟩ := T.obj _ _ st7 b hb
        exact (pin b hb o e).2
      have l8 : (wipe σ (own.map (·.2))).length = σ8.length := by rw [← e8, wipe_length]
      have k9 : ∀ (j : Nat) v, (wipe σ (own.map (·.2)))[j]? = some (some v) → (wipe σ8 vs1)[j]? = some (some v) := fun j v e => by
        rw [← e8] at e
        obtain ⟨z1, z2⟩ := wipe_some e
        exact (wipe_out fun y => z2 (sub j y)).trans z1
      refine thnF (gi.run _ t8 σ8 G8 _ I8 q8) fun v9 t9 z9 => thnF z9 fun _ t10 z10 => ?_
      obtain ⟨it1, ps1, st1, J1, G10, rfl, I10, T1, st10, free1, W1, ⟨m1, w1⟩, turn1⟩ := z10
      have here1 : ∀ {H' : Hp}, (∀ b ∈ ps1, H' b = none) → ∀ b ∈ ps1, FpOk (X.blk t3 G3 sc ev ps) ([] ++ pinsAt ps t7.heap) H' b := fun n b hb => ⟨n b hb, (free1 b hb).2⟩
      refine set_start 1 ?_ (T1.self X.A 0 _ _ _ st10 ?_) (.inr rfl)
      all_goals
        refine set_in (fun k t' => ∃ j H', Inv (X.blk t3 G3 sc ev ps) ([] ++ pinsAt ps t7.heap) (wipe σ8 vs1) H' t' ∧ st1 j t'.heap ∧ (∀ b ∈ ps1, H' b = none) ∧ W1 j k H') ?_ m1 ⟨0, G10, I10.weak (wipe_length _ _) (fun j v e => (wipe_some e).1), st10, fun b hb => (free1 b hb).1, w1⟩
        rintro k t11 ⟨j, G11, I11, st11, n11, w11⟩
        rcases turn1 j k G11 w11 with ⟨stop1, nx1⟩ | ⟨go1, Nx1, hNx1, step1⟩
        · refine thnF (T1.done (X.blk t3 G3 sc ev ps) rfl rfl rfl calm j _ t11 (wipe σ8 vs1) G11 (fun _ _ => False) I11 (here1 n11) st11 stop1) fun r t12 ⟨hr, I12⟩ => ?_
          subst hr
          exact back I12 (l8.trans (wipe_length σ8 vs1).symm) k9 nx1
        · refine thnF (T1.item (X.blk t3 G3 sc ev ps) rfl rfl rfl calm j _ t11 (wipe σ8 vs1) G11 (fun _ _ => False) I11 (here1 n11) st11 go1) fun r t12 ⟨u1, hr, h12⟩ => ?_
          subst hr
          refine thnF h12 fun _ t13 ⟨x1, G13, I13, r13, y13, st13, n13⟩ => ?_
          refine thnF (gh.run _ t13 (wipe σ8 vs1) G13 x1 u1 _ (I13.pinned (here1 n13) (T1.obj _ _ st13)) r13 (step1 x1 G13 y13)) fun _ t14 ⟨σ14, G14, I14, e14, q14⟩ => ?_
          refine thnF (ge.run _ t14 σ14 G14 _ I14 q14) fun z t15 ⟨yv, G15, I15, r15, b, ky, L, ey, hb, hD, hL, few, nx⟩ => ?_
          subst ey
          cases r15
          refine add_setS (X := X.blk t3 G3 sc ev ps) hu I15 hD hb hL few fun L' t16 c1 c2 I16 => ?_
          obtain ⟨m', lt, w'⟩ := hNx1 _ (nx L' c1 c2)
          have pin : ∀ b ∈ ps1, ∀ o, t13.heap.get? b = some o → t16.heap.get? b = some o ∧ (upd G15 D (SetSO X.prog X.w D L')) b = none := fun b hb o e =>
            match I16.pin (b, o) (List.mem_append_right _ (List.mem_append_right _ (mem_pinsAt hb e))) with | ⟨z1, z2, _⟩ => ⟨z1, z2⟩
          refine ⟨m', lt, j + 1, _, I16.unpinned.weak (by rw [← e14, wipe_length]) (fun j v e => by rw [← e14] at e; exact (wipe_some e).1), T1.keep _ _ _ st13 fun b hb o e => (pin b hb o e).1, fun b hb => ?_, w'⟩
          obtain ⟨o, e, _⟩ := T1.obj _ _ st13 b hb
          exact (pin b hb o e).2
theorem pe_sc2 {elt te0 ie0 te1 ie1 : Expr} {sc : Scope} {own : List (Str × Nat)} {vs1 : List Nat} {p0 : Pos} {wi wi1 : TI} {g g1 : TG} {te : TE} (hu : X.A.units + 64 < cLine) (calm : X.calm = true) (nd : X.N.Nodup) (PIe : PI X te0 ie0 wi) (B : BlkOk X.N X.env.scope sc own) (sub : ∀ i ∈ vs1, i ∈ own.map (·.2))
    (PG0 : ∀ (t : Shared) (H : Hp) (C : Addr) (cl : List (Str × Addr)) (ps : List Addr), PG (X.blk t H sc (compEnvC sc cl C X.env) ps) te0 g)
    (PI1 : ∀ (t : Shared) (H : Hp) (C : Addr) (cl : List (Str × Addr)) (ps : List Addr), PI (X.blk t H sc (compEnvC sc cl C X.env) ps) te1 ie1 wi1)
    (PG1 : ∀ (t : Shared) (H : Hp) (C : Addr) (cl : List (Str × Addr)) (ps : List Addr), PG (X.blk t H sc (compEnvC sc cl C X.env) ps) te1 g1)
    (PEe : ∀ (t : Shared) (H : Hp) (C : Addr) (cl : List (Str × Addr)) (ps : List Addr), PE (X.blk t H sc (compEnvC sc cl C X.env) ps) elt te) (fs : ∀ x, foldedSetIterable ie0 X.env x = pure x := by intro _; rfl) (fs1 : ∀ env x, foldedSetIterable ie1 env x = pure x := by intro _ _; rfl) :
    PE X (.SetComp elt [⟨te0, ie0, [], 0⟩, ⟨te1, ie1, [], 0⟩] sc p0) (tSc2 X.K X.prog X.w wi g wi1 g1 te (own.map (·.2)) vs1) := by
  refine ⟨fun pn t σ H Q I w => ?_⟩
  show wpAny _ _ (comprehension (.SetComp elt [⟨te0, ie0, [], 0⟩, ⟨te1, ie1, [], 0⟩] sc p0) sc X.env (firstIterPos [⟨te0, ie0, [], 0⟩, ⟨te1, ie1, [], 0⟩] p0) (newSet (.type "set")) false (eval ie0 X.env)) _ _ _
  refine sc2_run hu calm nd I PIe B sub PG0 PI1 PG1 PEe fs fs1 w fun D C t' m H' J q hm f => ⟨m, hm, fun h2 sb => ?_⟩
  exact match f with | ⟨y0, y1, _, y3, y4, y5⟩ => ⟨.ref D, H', J.turned (t' := t'.toks) (fun b o hb e => (sb.2 b hb).trans e) y0 y1 y3 y4 y5, rfl, q⟩
end
end Lay
/-! LayAF: sorted(x) of tuples that are alike, x a list, a set of tuples of texts, a dict. -/
namespace Lay
open PySem PySem.Spec PyProof.Rows L2
section
variable {prog : Program} {w : World} {A : Around} {E : Value → Shared → Prop} {s : Shared} {β : Type} {R : Value → β → Prop} {enc : β → PyData} {vs : List Value} {bs : List β}
theorem each_map2 : ∀ {vs : List Value} {bs : List β} {T : Value → PyData → Prop}, W.EachIs (fun v b => T v (enc b)) vs bs → W.EachIs T vs (bs.map enc)
  | _, _, _, .nil => .nil
  | _, _, _, .cons h t => .cons h (each_map2 t)
theorem sortT {a : Addr} {n : Nat} {Q : Value → Shared → Prop} (ho : s.heap.get? a = some (seqObj "list" vs.toArray n)) (e : W.EachIs R vs bs) (er : W.EachIs (fun v b => ∃ as, Reads s.heap v (enc b) as ∧ a ∉ as) vs bs) (al : W.AllAlike (bs.map enc)) (ht : ∀ b ∈ bs, ∃ xs, enc b = .tuple xs)
    (hL : bs.length ≤ sizeLine) (hu : ∀ b ∈ bs, A.units + 1 + (enc b).depth < cLine) (q : ∀ out, W.EachIs R out (bs.mergeSort (W.dataLe false enc)) → Q .none { s with heap := sortedHeap s.heap a vs out.toArray }) : wpAny (model prog w) A (call (.builtin "list.sort") [.ref a]) Q E s := by
  have er' : W.EachIs (fun v b => ∃ as, Reads (W.sortingHeap s.heap a vs) v (enc b) as) vs bs := W.each_keepBut (fun _ _ hb q => W.sortingHeap_old hb q) (fun o q => by rw [ho] at q; rw [← Option.some.inj q]) al er
  have S : W.SortsAt prog w A.in1 { s with heap := W.sortingHeap s.heap a vs } (W.dataKind (W.sortingHeap s.heap a vs) (bs.map enc)) vs := by
    refine SortsAt_tups (s := { s with heap := W.sortingHeap s.heap a vs }) (each_map2 er') al (fun d hd => ?_) fun d hd => ?_
    · obtain ⟨b, hb, rfl⟩ := List.mem_map.mp hd
      exact ht b hb
    · obtain ⟨b, hb, rfl⟩ := List.mem_map.mp hd
      exact hu b hb
  exact wpAny_call_entry PySem.F.slot_list_sort ⟨_, ho, rfl⟩ PySem.F.entry_list_sort (W.list_sort_vals ho S (by rw [e.length]; exact hL) ⟨.none, rfl, q _ (W.sortVals_data false e er' al)⟩) (PySem.F.args_list_sort_1 _)
/-- what sorted gives: the new list at p -/
def SortedAt (s : Shared) (R : Value → β → Prop) (bs' : List β) (s' : Shared) (p : Addr) : Prop := (∀ b o, s.heap.get? b = some o → s'.heap.get? b = some o) ∧ s'.gens = s.gens ∧ s'.os = s.os ∧ (∃ h1 : Heap, (∀ b o, s.heap.get? b = some o → h1.get? b = some o) ∧ (∀ b o, h1.get? b = some o → s'.heap.get? b = some o) ∧ h1.objs.size ≤ p) ∧ ∃ (out : List Value) (c : Nat), s'.heap.get? p = some (seqObj "list" out.toArray c) ∧ W.EachIs R out bs'
theorem sorted_col {x : Value} {Z : List β → Prop} {Q : Value → Shared → Prop}
    (col : ∀ (Q' : List Value → Shared → Prop), (∀ vs s1 bs, (∀ b o, s.heap.get? b = some o → s1.heap.get? b = some o) → s1.gens = s.gens → s1.os = s.os → W.EachIs R vs bs → Z bs → Q' vs s1) → wpAny (model prog w) A.in1 (collect x) Q' E s)
    (zl : ∀ vs bs, Z bs → W.EachIs R vs bs → bs.length ≤ sizeLine ∧ W.AllAlike (bs.map enc) ∧ W.EachIs (fun v b => ∃ as, Reads s.heap v (enc b) as) vs bs ∧ (∀ b ∈ bs, ∃ xs, enc b = .tuple xs) ∧ ∀ b ∈ bs, (enc b).depth ≤ 20) (hu : A.units + 64 < cLine)
    (q : ∀ s' p bs, Z bs → SortedAt s R (bs.mergeSort (W.dataLe false enc)) s' p → Q (.ref p) s') : wpAny (model prog w) A (call (.builtin "sorted") [x]) Q E s := by
  refine Calls.call_function_entry kind_sorted plain_sorted entry_sorted (args_sorted1 _) ?_
  unfold Builtin.«sorted»
  refine wpAny_bind (m := checkCount "sorted" 1 1 _) (wpAny_pure (wpAny_bind (col _ fun vs s1 bs keep hg ho e z => ?_)))
  obtain ⟨z1, z2, z3, z4, z5⟩ := zl vs bs z e
  refine wpAny_bind (wpAny_newList ?_ (by rw [e.length]; exact z1))
  have at_ : (s1.heap.push (seqObj "list" vs.toArray 0)).get? s1.heap.objs.size = some (seqObj "list" vs.toArray 0) := Heap.get?_push_size _ rfl
  have er : W.EachIs (fun v b => ∃ as, Reads (s1.heap.push (seqObj "list" vs.toArray 0)) v (enc b) as ∧ s1.heap.objs.size ∉ as) vs bs := by
    refine W.EachIs.mono (fun v b ⟨as, r⟩ => ⟨as, Reads.keeps (fun b o e => Heap.get?_push_of_some _ (keep b o e)) r, fun y => ?_⟩) z3
    obtain ⟨o, e⟩ := PyProof.On.reads_mem_get r _ y
    exact absurd (Heap.lt_size (keep _ _ e)) (Nat.lt_irrefl _)
  refine wpAny_bind (wpAny_holding (sortT (A := A.in1) (s := { s1 with heap := s1.heap.push (seqObj "list" vs.toArray 0) }) at_ e er z2 z4 z1 (fun b hb => ?_) fun out eo => ?_))
  · have := z5 b hb
    show A.units + 1 + 1 + (enc b).depth < cLine
    omega
  · obtain ⟨c, hc⟩ := sortedHeap_at (vs := vs) (out := out.toArray) at_
    have old2 : ∀ b u, s1.heap.get? b = some u → (sortedHeap (s1.heap.push (seqObj "list" vs.toArray 0)) s1.heap.objs.size vs out.toArray).get? b = some u := fun b u old => ?_
    refine wpAny_pure ⟨_, rfl, q _ s1.heap.objs.size bs z ⟨fun b u e => old2 b u (keep b u e), hg, ho, ⟨s1.heap, keep, old2, Nat.le_refl _⟩, out, c, hc, eo⟩⟩
    have lt := Heap.lt_size old
    show (sortedHeap (s1.heap.push (seqObj "list" vs.toArray 0)) s1.heap.objs.size vs out.toArray).get? b = some u
    rw [sortedHeap_old (Nat.ne_of_lt lt) (by rw [size_push']; exact Nat.lt_succ_of_lt lt)]
    exact Heap.get?_push_of_some _ old
end
section
variable {X : Cx}
theorem each_vals : ∀ {bs : List (V × PyData)} {us : List Value}, Vals (bs.map (·.1)) us → W.EachIs (fun v b => RelV b.1 v) us bs
  | [], _, .nil => .nil
  | b :: bs, _, .cons r t => .cons r (each_vals t)
theorem vals_each : ∀ {bs : List (V × PyData)} {us : List Value}, W.EachIs (fun v b => RelV b.1 v) us bs → Vals (bs.map (·.1)) us
  | [], _, .nil => .nil
  | b :: bs, _, .cons r t => .cons r (vals_each t)
/-- the values are told, can be compared, and are tuples -/
structure Srt (K : PySem.W.Frag) (H : Hp) (bs : List (V × PyData)) : Prop where
  dp : ∀ b ∈ bs, Dp K H b.1 b.2
  tup : ∀ b ∈ bs, ∃ xs, b.2 = .tuple xs
  al : W.AllAlike (bs.map (·.2))
  dep : ∀ b ∈ bs, b.2.depth ≤ 20
theorem each_reads {pn : List (Addr × Obj)} {σ : L2.St} {H : Hp} {s : Shared} (I : Inv X pn σ H s) : ∀ {bs : List (V × PyData)} {us : List Value}, (∀ b ∈ bs, Dp X.K H b.1 b.2) → W.EachIs (fun v b => RelV b.1 v) us bs → W.EachIs (fun v b => ∃ as, Reads s.heap v b.2 as) us bs
  | _, _, _, .nil => .nil
  | _, _, h, .cons r t => .cons (Dp.reads I _ _ _ (h _ List.mem_cons_self) r) (each_reads I (fun b hb => h b (List.mem_cons_of_mem _ hb)) t)
theorem sorted_end {pn : List (Addr × Obj)} {σ : L2.St} {H : Hp} {s s' : Shared} {bs' : List (V × PyData)} {p : Addr} {Q : VK} (I : Inv X pn σ H s) (S : SortedAt s (fun v b => RelV b.1 v) bs' s' p) (hz : bs'.length ≤ sizeLine) (q : H p = none → Q (.ref p) (upd H p (.lst (bs'.map (·.1))))) : EP X pn σ Q (.ref p) s' := by
  obtain ⟨_, g, o, ⟨h1, k0, k, hp⟩, out, c, hout, eo⟩ := S
  have two : ∃ s2 : Shared, Inv X pn σ H s2 ∧ s2.heap = h1 ∧ s2.os = s.os ∧ s2.gens = s.gens := ⟨_, I.kept (t' := s.toks) k0, rfl, rfl, rfl⟩
  obtain ⟨s2, I, rfl, eo2, eg2⟩ := two
  rw [← eo2] at o
  rw [← eg2] at g
  have hn : H p = none := I.hok.fresh hp
  have J : Inv X pn σ (upd H p (.lst (bs'.map (·.1)))) { s2 with heap := s'.heap, gens := s'.gens, drawn := s'.drawn, toks := s'.toks } :=
    I.call (ch := []) (Un.laid k hp hn) (I.hok.laid k hp ⟨by rw [List.length_map]; exact hz, out, c, vals_each eo, hout⟩) (by rw [g]; exact I.bare) (fun _ z => nomatch z)
  have e : s' = { s2 with heap := s'.heap, gens := s'.gens, drawn := s'.drawn, toks := s'.toks } := by
    cases s'
    cases s2
    cases o
    rfl
  rw [e]
  exact ⟨.ref p, _, J, rfl, q hn⟩
theorem sort_len {bs : List (V × PyData)} : (bs.mergeSort (W.dataLe false (·.2))).length = bs.length := List.length_mergeSort bs
/-- sorted(list) -/
def rSortedD (K : PySem.W.Frag) : List V → Hp → VK → Prop := fun vs H Q => ∃ (a : Addr) (bs : List (V × PyData)), vs = [V.ref a] ∧ SqL K H a (bs.map (·.1)) ∧ Srt K H bs ∧ ∀ p, H p = none → Q (.ref p) (upd H p (.lst ((bs.mergeSort (W.dataLe false (·.2))).map (·.1))))
theorem cr_sortedD (hu : X.A.units + 64 < cLine) : CallR X (.builtin "sorted") (rSortedD X.K) := by
  intro pn s σ H vs us Q I r h
  obtain ⟨a, bs, rfl, hs, S, q⟩ := h
  obtain ⟨its, rv, pl, hz⟩ := I.list hs
  rw [Vals.ref1 r]
  rw [List.length_map] at hz
  have e := each_vals rv
  refine sorted_col (Z := fun z => z = bs) (enc := (·.2)) (R := fun v b => RelV b.1 v) (fun Q' q' => ?_) (fun vs bs' z e' => ?_) hu fun s' p bs' z so => ?_
  · refine collect_list pl.isList (q' _ _ bs (fun b o g => ?_) rfl rfl e rfl) (by rw [e.length]; exact hz)
    have lt := Heap.lt_size g
    show ((s.heap.push (seqObj "list" #[] 0)).update s.heap.objs.size (Obj.mapSeq (· ++ its.toArray))).get? b = some o
    rw [Heap.get?_update_ne _ _ _ _ (Nat.ne_of_lt lt)]
    exact Heap.get?_push_of_some _ g
  · subst z
    exact ⟨hz, S.al, each_reads I S.dp e', S.tup, S.dep⟩
  · subst z
    exact sorted_end I so (by rw [sort_len]; exact hz) fun hn => q p hn
theorem SetS.fits {P : Program} {w : World} {h : Heap} {a : Addr} {L : List (Addr × List Str)} {es : Array (Int × Value)} {ep : Nat} {t : SetTable} (S : SetS P w h a L es ep t) : t.fits es.size = true := by
  have h1 := S.size
  have h2 := S.psize
  have h3 := S.room
  unfold SetTable.fits SetTable.fill
  rw [S.tab.dm, Bool.and_eq_true, beq_iff_eq, decide_eq_true_eq]
  show t.place.size = es.size ∧ t.place.size + 0 ≤ t.mask
  omega
/-- sorted(set) -/
def kD (p : Addr × List Str) : V × PyData := (.ref p.1, .tuple (p.2.map PyData.str))
def rSortedS (K : PySem.W.Frag) (P : Program) (w : World) : List V → Hp → VK → Prop := fun vs H Q => ∃ (a : Addr) (L : List (Addr × List Str)), vs = [V.ref a] ∧ H a = some (SetSO P w a L) ∧ (∀ p ∈ L, SqT K H p.1 (p.2.map V.str)) ∧ Srt K H (L.map kD) ∧
  ∀ (M : List (Addr × List Str)) (p : Addr), M.Perm L → (L.map (·.2)).Nodup → H p = none → Q (.ref p) (upd H p (.lst (((M.map kD).mergeSort (W.dataLe false (·.2))).map (·.1))))
theorem refs_some : ∀ {vs : List Value} {L : List (Addr × List Str)}, (∀ v ∈ vs, v ∈ L.map fun q => Value.ref q.1) → ∃ M : List (Addr × List Str), vs = M.map (fun q => Value.ref q.1) ∧ ∀ q ∈ M, q ∈ L
  | [], L, _ => ⟨[], rfl, fun q h => nomatch h⟩
  | v :: vs, L, h => by
    obtain ⟨M, e, m⟩ := refs_some (L := L) fun u hu => h u (List.mem_cons_of_mem _ hu)
    obtain ⟨q, hq, eq⟩ := List.mem_map.mp (h v List.mem_cons_self)
    exact ⟨q :: M, by rw [List.map_cons, eq, e], fun r hr => (List.mem_cons.mp hr).elim (fun z => z ▸ hq) (m r)⟩
theorem each_kD : ∀ {M : List (Addr × List Str)}, W.EachIs (fun v b => RelV b.1 v) (M.map fun q => Value.ref q.1) (M.map kD)
  | [] => .nil
  | q :: M => .cons rfl each_kD
theorem nodup_of {α β : Type} (f : α → β) : ∀ {l : List α}, (l.map f).Nodup → l.Nodup
  | [], _ => .nil
  | a :: l, h => by
    rw [List.map_cons, List.nodup_cons] at h
    exact List.nodup_cons.mpr ⟨fun z => h.1 (List.mem_map_of_mem z), nodup_of f h.2⟩
theorem strs_one : ∀ {k k' : List Str} {us : List Value}, Vals (k.map V.str) us → Vals (k'.map V.str) us → k = k'
  | [], [], _, _, _ => rfl
  | [], _ :: _, _, .nil, h => nomatch h
  | _ :: _, [], _, h, .nil => nomatch h
  | z :: k, z' :: k', _, .cons r1 t1, .cons r2 t2 => by
    obtain ⟨n1, e1⟩ := r1
    obtain ⟨n2, e2⟩ := r2
    rw [e1] at e2
    cases e2
    rw [strs_one t1 t2]
theorem cr_sortedS2 (calm : X.calm = true) (hu : X.A.units + 64 < cLine) : CallR X (.builtin "sorted") (rSortedS X.K X.prog X.w) := by
  intro pn s σ H vs us Q I r h
  obtain ⟨a, L, rfl, ha, hk, S, q⟩ := h
  have S1 : SetS1 X.prog X.w a L s.heap := (I.hok a _ ha).1
  obtain ⟨es, ep, t, T⟩ := S1.all fun p hp => isS_of I (hk p hp)
  rw [Vals.ref1 r]
  have sz := T.size
  have few := T.few
  have lim : (64 : Nat) ≤ sizeLine := by decide
  -- an address holds one tuple
  have one : ∀ q ∈ L, ∀ r ∈ L, q.1 = r.1 → q = r := fun q hq r hr e => by
    obtain ⟨u1, v1, p1⟩ := I.tuple (hk q hq)
    obtain ⟨u2, v2, p2⟩ := I.tuple (hk r hr)
    rw [e] at p1
    obtain ⟨⟨o, g1, _, n1, g3⟩, _⟩ := p1
    obtain ⟨⟨o', g1', _, n1', g3'⟩, _⟩ := p2
    rw [g1] at g1'
    cases g1'
    rw [g3] at g3'
    have eu : u1 = u2 := by
      have := (Data.seq.inj g3').1
      simpa using this
    subst eu
    exact Prod.ext e (strs_one v1 v2)
  refine sorted_col (Z := fun z => ∃ M : List (Addr × List Str), M.Perm L ∧ z = M.map kD) (enc := (·.2)) (R := fun v b => RelV b.1 v) (fun Q' q' => ?_) (fun vs bs' z e' => ?_) hu fun s' p bs' z so => ?_
  · obtain ⟨o, g1, g2, g3⟩ := T.ob
    refine collect_set (I.ok.hd calm) ⟨o, g1, g2.1, g3⟩ T.fits (by unfold scanBound; omega) T.tab.ris T.led fun s1 out keep big hg ho pm => ?_
    have e1 : es.toList.map (·.2) = L.map fun q => Value.ref q.1 := by rw [T.rows, List.map_map]; rfl
    rw [e1] at pm
    obtain ⟨M, rfl, hM⟩ := refs_some (L := L) fun v hv => pm.mem_iff.mp hv
    refine q' _ s1 (M.map kD) keep hg ho each_kD ⟨M, ?_, rfl⟩
    have nL : L.Nodup := nodup_of _ T.nd
    have nR : (L.map fun q => Value.ref q.1).Nodup := List.pairwise_map.mpr (List.Pairwise.imp_of_mem (fun {x y} hx hy hne e => hne (one x hx y hy (Value.ref.inj e))) nL)
    refine (List.perm_ext_iff_of_nodup (nodup_of _ (pm.nodup_iff.mpr nR)) nL).mpr fun x => ⟨hM x, fun hx => ?_⟩
    obtain ⟨y, hy, e⟩ := List.mem_map.mp (pm.mem_iff.mpr (List.mem_map.mpr ⟨x, hx, rfl⟩))
    rw [← one y (hM y hy) x hx (Value.ref.inj e)]
    exact hy
  · obtain ⟨M, zm, rfl⟩ := z
    have z := zm.map kD
    refine ⟨by rw [z.length_eq, List.length_map]; omega, fun x hx y hy => S.al x ((z.map _).mem_iff.mp hx) y ((z.map _).mem_iff.mp hy), each_reads I (fun b hb => S.dp b (z.mem_iff.mp hb)) e', fun b hb => S.tup b (z.mem_iff.mp hb), fun b hb => S.dep b (z.mem_iff.mp hb)⟩
  · obtain ⟨M, zm, rfl⟩ := z
    exact sorted_end I so (by rw [sort_len, List.length_map, zm.length_eq]; omega) fun hn => q M p zm T.nd hn
end
end Lay
/-! LayAG: data compared with <, looked for in tuples, the place of data in a tuple. -/
namespace Lay
open PySem PySem.Spec PyProof.Rows L2
section
variable {X : Cx}
/-- x < y -/
def rLtD (K : PySem.W.Frag) : R2 := fun x y H Q => ∃ d e, Dp K H x d ∧ Dp K H y e ∧ W.alike d e = true ∧ d ≠ .none ∧ d.depth ≤ 20 ∧ Q (.bl (W.dataLt d e)) H
theorem op_ltD (hu : X.A.units + 64 < cLine) : OpR X (compareOp .Lt) (rLtD X.K) := by
  intro pn s σ H x y v u Q I rx ry h
  obtain ⟨d, e, hd, he, al, nn, dp, q⟩ := h
  obtain ⟨as, r1⟩ := Dp.reads I d x v hd rx
  obtain ⟨bs, r2⟩ := Dp.reads I e y u he ry
  exact W.rcLt_alike d e X.A s v u as bs r1 r2 al nn (by omega) X.prog X.w _ _ ⟨.bl _, H, I, rfl, q⟩
/-- x in t, x not in t -/
def rInT (K : PySem.W.Frag) (neg : Bool) : R2 := fun x y H Q => ∃ d ds, Dp K H x d ∧ Dp K H y (.tuple ds) ∧ PyData.plainAll ds = true ∧ d.plain = true ∧ d.depth ≤ 20 ∧ Q (.bl (neg ^^ ds.any fun z => PyData.eqv z d)) H
theorem op_inT (hu : X.A.units + 64 < cLine) : OpR X (compareOp .In) (rInT X.K false) := by
  intro pn s σ H x y v u Q I rx ry h
  obtain ⟨d, ds, hd, he, p1, p2, dp, q⟩ := h
  obtain ⟨as, r1⟩ := Dp.reads I d x v hd rx
  obtain ⟨bs, r2⟩ := Dp.reads I (.tuple ds) y u he ry
  rw [Bool.false_xor] at q
  exact SeqAt.in_tuple_data r2 r1 p1 p2 (by omega) ⟨.bl _, H, I, rfl, q⟩
theorem op_notInT (hu : X.A.units + 64 < cLine) : OpR X (compareOp .NotIn) (rInT X.K true) := by
  intro pn s σ H x y v u Q I rx ry h
  obtain ⟨d, ds, hd, he, p1, p2, dp, q⟩ := h
  obtain ⟨as, r1⟩ := Dp.reads I d x v hd rx
  obtain ⟨bs, r2⟩ := Dp.reads I (.tuple ds) y u he ry
  rw [Bool.true_xor] at q
  exact SeqAt.notIn_tuple_data r2 r1 p1 p2 (by omega) ⟨.bl _, H, I, rfl, q⟩
theorem reads_at {h : Heap} : ∀ {us : List Value} {ds : List PyData} {as : List Addr}, ReadsAll h us ds as → ∀ (i : Nat) (u : Value) (d : PyData), us[i]? = some u → ds[i]? = some d → ∃ bs, Reads h u d bs
  | _, _, _, .nil, i, u, d, e, _ => by cases i <;> cases e
  | _, _, _, .cons r t, 0, u, d, e1, e2 => by
    cases e1
    cases e2
    exact ⟨_, r⟩
  | _, _, _, .cons r t, i + 1, u, d, e1, e2 => reads_at t i u d e1 e2
/-- t.index(x) -/
def rIndexT (K : PySem.W.Frag) : V → List V → Hp → VK → Prop := fun x xs H Q => ∃ (a : Addr) (y : V) (d : PyData) (ds : List PyData) (j : Nat), x = V.ref a ∧ xs = [y] ∧ Dp K H (V.ref a) (.tuple ds) ∧ Dp K H y d ∧ W.AllAlike (d :: ds) ∧ d.depth ≤ 20 ∧
  (∃ z, ds[j]? = some z ∧ PyData.eqv z d = true) ∧ (∀ (m : Nat) (z : PyData), m < j → ds[m]? = some z → PyData.eqv z d = false) ∧ Q (.int (j : Nat)) H
open Classical in
theorem mt_indexT (hu : X.A.units + 64 < cLine) : MtR X "tuple.index" (rIndexT X.K) := by
  intro pn s σ H x xs v us Q I rx rxs h
  obtain ⟨a, y, d, ds, j, rfl, rfl, hl, hy, al, dp, ⟨zj, hz, hzj⟩, hno, q⟩ := h
  cases rx
  cases rxs with
  | cons ry rt =>
    rename_i uy ut
    cases rt
    obtain ⟨bs, r1⟩ := Dp.reads I d y uy hy ry
    obtain ⟨as, r2⟩ := Dp.reads I (.tuple ds) (V.ref a) (.ref a) hl rfl
    cases r2 with
    | @tuple _ o vs n _ _ e1 e2 e3 e4 =>
      obtain ⟨cl, dd, da, sl⟩ := o
      cases e2
      cases e3
      have len := readsAll_len e4
      rw [Array.length_toList] at len
      have mem : ∀ {i : Nat} {z : PyData}, ds[i]? = some z → z ∈ ds := fun e => List.mem_of_getElem? e
      have alz : ∀ z ∈ ds, W.alike z d = true := fun z hz => al z (List.mem_cons_of_mem _ hz) d List.mem_cons_self
      have iff : ∀ (i : Nat) (u : Value) (z : PyData), vs.toList[i]? = some u → ds[i]? = some z → decide (∃ z ∈ ds, (∃ as, Reads s.heap u z as) ∧ PyData.eqv z d = true) = PyData.eqv z d := fun i u z h1 h2 => by
        obtain ⟨cs, r3⟩ := reads_at e4 i u z h1 h2
        cases q2 : PyData.eqv z d with
        | true => exact decide_eq_true ⟨z, mem h2, ⟨_, r3⟩, q2⟩
        | false =>
          refine decide_eq_false fun ⟨z2, m2, ⟨as2, r4⟩, y2⟩ => ?_
          have := W.alike_unique z2 z u _ _ (al z2 (List.mem_cons_of_mem _ m2) z (List.mem_cons_of_mem _ (mem h2))) r4 r3
          rw [this, q2] at y2
          cases y2
      have jl : j < ds.length := (List.getElem?_eq_some_iff.mp hz).1
      refine call_meets PySem.F.slot_tuple_index ⟨_, e1, rfl⟩ PySem.F.entry_tuple_index (PySem.F.args_tuple_index_2 _ _) (TI.tuple_indexAt a vs n dd sl uy (fun u => decide (∃ z ∈ ds, (∃ as, Reads s.heap u z as) ∧ PyData.eqv z d = true)) j (by omega) ?_ ?_) ⟨e1, fun u hu2 => ?_, ?_⟩
      · rw [iff j _ zj (by rw [Array.getElem?_toList, Array.getElem?_eq_getElem (by omega)]) hz]
        exact hzj
      · intro m hm hmj
        have hm2 : m < ds.length := by omega
        rw [iff m _ ds[m] (by rw [Array.getElem?_toList, Array.getElem?_eq_getElem hm]) (List.getElem?_eq_getElem hm2)]
        exact hno m _ hmj (List.getElem?_eq_getElem hm2)
      · obtain ⟨i, hi, eu⟩ := Array.mem_iff_getElem.mp hu2
        have hi2 : i < ds.length := by omega
        have g1 : vs.toList[i]? = some u := by rw [Array.getElem?_toList, Array.getElem?_eq_getElem hi, eu]
        rw [iff i u ds[i] g1 (List.getElem?_eq_getElem hi2)]
        obtain ⟨cs, r3⟩ := reads_at e4 i u _ g1 (List.getElem?_eq_getElem hi2)
        refine W.eqAt_alike ds[i] d X.A.in1 s u uy cs bs r3 r1 (alz _ (List.getElem_mem hi2)) ?_
        show X.A.units + 1 + _ < cLine
        omega
      · refine ⟨.int (j : Nat), H, I.tok _, ⟨_, rfl⟩, q⟩
end
end Lay
/-! LayAH: a dict whose keys are tuples of tuples of texts. -/
namespace Lay
open PySem PySem.Spec PyProof.Rows L2
/-- a pair of names; a lot of pairs; lots -/
def pd (k : List Str) : PyData := .tuple (k.map PyData.str)
def ld (z : List (List Str)) : PyData := .tuple (z.map pd)
def lsd (c : List (List (List Str))) : PyData := .tuple (c.map ld)
def nk (z : List (List Str)) : NestedKey := .tup (z.map fun k => .tup (k.map NestedKey.text))
theorem texts_inj : ∀ {k k' : List Str}, k.map NestedKey.text = k'.map NestedKey.text → k = k'
  | [], [], _ => rfl
  | [], _ :: _, h => nomatch h
  | _ :: _, [], h => nomatch h
  | x :: k, y :: k', h => by
    have a := List.cons.inj h
    rw [NestedKey.text.inj a.1, texts_inj a.2]
theorem nks_inj : ∀ {z z' : List (List Str)}, (z.map fun k => NestedKey.tup (k.map NestedKey.text)) = (z'.map fun k => NestedKey.tup (k.map NestedKey.text)) → z = z'
  | [], [], _ => rfl
  | [], _ :: _, h => nomatch h
  | _ :: _, [], h => nomatch h
  | x :: k, y :: k', h => by
    have a := List.cons.inj h
    rw [texts_inj (NestedKey.tup.inj a.1), nks_inj a.2]
theorem nk_inj {z z' : List (List Str)} (h : nk z = nk z') : z = z' := nks_inj (NestedKey.tup.inj h)
theorem nested_strs {h : Heap} : ∀ {k : List Str} {us : List Value} {as : List Addr}, ReadsAll h us (k.map PyData.str) as → NestedAll h (k.map NestedKey.text) us
  | [], _, _, .nil => .nil
  | z :: k, _, _, .cons (.str _ t) r => .cons (.text z t) (nested_strs r)
theorem nested_pd {h : Heap} {k : List Str} {u : Value} {as : List Addr} (r : Reads h u (pd k) as) : NestedIs h (.tup (k.map NestedKey.text)) u := by
  unfold pd at r
  cases r with
  | tuple e1 e2 e3 e4 => exact .tup e1 e2 e3 (nested_strs e4)
theorem nested_pds {h : Heap} : ∀ {z : List (List Str)} {us : List Value} {as : List Addr}, ReadsAll h us (z.map pd) as → NestedAll h (z.map fun k => .tup (k.map NestedKey.text)) us
  | [], _, _, .nil => .nil
  | k :: z, _, _, .cons r t => .cons (nested_pd r) (nested_pds t)
theorem nested_ld {h : Heap} {z : List (List Str)} {u : Value} {as : List Addr} (r : Reads h u (ld z) as) : NestedIs h (nk z) u := by
  unfold ld at r
  cases r with
  | tuple e1 e2 e3 e4 => exact .tup e1 e2 e3 (nested_pds e4)
theorem depth_texts : ∀ (k : List Str), NestedKey.depthAll (k.map NestedKey.text) = 0
  | [] => rfl
  | x :: k => by
    show max 0 (NestedKey.depthAll (k.map NestedKey.text)) = 0
    rw [depth_texts k]
    rfl
theorem depth_nks : ∀ (z : List (List Str)), NestedKey.depthAll (z.map fun k => .tup (k.map NestedKey.text)) ≤ 1
  | [] => Nat.zero_le _
  | x :: k => by
    show max (NestedKey.depthAll (x.map NestedKey.text) + 1) (NestedKey.depthAll (k.map fun k => .tup (k.map NestedKey.text))) ≤ 1
    rw [depth_texts x]
    exact Nat.max_le.mpr ⟨Nat.le_refl _, depth_nks k⟩
theorem depth_nk (z : List (List Str)) : (nk z).depth ≤ 8 := by
  show NestedKey.depthAll (z.map fun k => .tup (k.map NestedKey.text)) + 1 ≤ 8
  have := depth_nks z
  omega
theorem nk_is {P : Program} {w : World} {h : Heap} {z : List (List Str)} {b : Addr} {as : List Addr} (r : Reads h (.ref b) (ld z) as) : (nestedKind P w).is h (nk z) b := ⟨nested_ld r, depth_nk z⟩
/-- the dict itself: its keys, in order -/
def DK1 (P : Program) (w : World) (a : Addr) (L : List (Addr × List (List Str))) (h : Heap) : Prop := (a == sysModules) = false ∧ L.length < 64 ∧ ∃ (xs : List (NestedKey × Addr × Value)) (es : Array DictEntry) (ep : Nat), (∃ o, h.get? a = some o ∧ o.ExactDict ∧ o.data = Data.dict es ep) ∧
  es.toList = xs.map (entryOfKey (nestedKind P w)) ∧ (xs.map (·.1)).Nodup ∧ xs.map (fun x => (x.2.1, x.1)) = L.map fun p => (p.1, nk p.2)
def DKO (P : Program) (w : World) (a : Addr) (L : List (Addr × List (List Str))) : HO := .ext (DK1 P w a L)
def lD (p : Addr × List (List Str)) : V × PyData := (.ref p.1, ld p.2)
section
variable {P : Program} {w : World} {H : Hp} {h : Heap} {a : Addr} {L : List (Addr × List (List Str))}
theorem DK1.new (S : DK1 P w a L h) : ObjOk P w H h a (DKO P w a L) := by
  refine ⟨S, ?_, fun h1 h2 z k => ?_⟩
  · obtain ⟨_, _, _, _, _, ⟨o, e, _⟩, _⟩ := S
    exact ⟨o, e⟩
  · obtain ⟨y1, y2, xs, es, ep, ⟨o, e, r⟩, q⟩ := z
    exact ⟨y1, y2, xs, es, ep, ⟨o, k o e, r⟩, q⟩
theorem dk_keys {xs : List (NestedKey × Addr × Value)} {L : List (Addr × List (List Str))} (e : xs.map (fun x => (x.2.1, x.1)) = L.map fun p => (p.1, nk p.2)) : xs.map (·.1) = L.map fun p => nk p.2 := by
  have := congrArg (List.map Prod.snd) e
  rw [List.map_map, List.map_map] at this
  exact this
theorem DK1.nodup (S : DK1 P w a L h) : (L.map (·.2)).Nodup := by
  obtain ⟨_, _, xs, es, ep, _, _, nd, e⟩ := S
  rw [dk_keys e, show (L.map fun p => nk p.2) = (L.map (·.2)).map nk by rw [List.map_map]; rfl] at nd
  exact nodup_of _ nd
end
section
variable {X : Cx}
/-- {} -/
def tDNewN (P : Program) (w : World) : TE := fun _ H Q => ∀ p, H p = none → Q (.ref p) (upd H p (DKO P w p []))
theorem pe_dnewN {pos : Pos} : PE X (.Dict [] [] pos) (tDNewN X.prog X.w) := ⟨fun pn s σ H Q I h =>
  wpAny_Dict_empty ⟨.ref s.heap.objs.size, _, I.laid (t' := s.toks) (fun _ _ e => Heap.get?_push_of_some _ e) (Nat.le_refl _)
    (DK1.new ⟨beq_eq_false_iff_ne.mpr (Ne.symm (Nat.ne_of_lt I.big)), by decide, [], #[], 0, ⟨_, Heap.get?_push_size _ rfl, ⟨rfl, rfl, rfl⟩, rfl⟩, rfl, .nil, rfl⟩), rfl, h _ (I.hok.fresh (Nat.le_refl _))⟩⟩
/-- d[lot] = x -/
def rSetN (K : PySem.W.Frag) (P : Program) (w : World) : V → V → V → Hp → (Hp → Prop) → Prop := fun o i _ H Q => ∃ (d b : Addr) (z : List (List Str)) (L : List (Addr × List (List Str))), o = .ref d ∧ i = .ref b ∧ H d = some (DKO P w d L) ∧ Dp K H (.ref b) (ld z) ∧ (∀ p ∈ L, Dp K H (.ref p.1) (ld p.2)) ∧ L.length + 1 < 64 ∧
  ∀ L', (z ∈ L.map (·.2) → L' = L) → (z ∉ L.map (·.2) → L' = L ++ [(b, z)]) → Q (upd H d (DKO P w d L'))
theorem mem_split {xs : List (NestedKey × Addr × Value)} {k : NestedKey} : (atKey xs k).isSome = true ↔ k ∈ xs.map (·.1) := by
  unfold atKey
  rw [Option.isSome_map, List.find?_isSome]
  simp only [List.mem_map]
  constructor
  · rintro ⟨x, hx, e⟩
    exact ⟨x, hx, of_decide_eq_true e⟩
  · rintro ⟨x, hx, e⟩
    exact ⟨x, hx, decide_eq_true e⟩
theorem set_keyN (hu : X.A.units + 64 < cLine) : PSet X (rSetN X.K X.prog X.w) := by
  intro pn s σ H o i v ov iv u Q I ro ri rv h
  obtain ⟨d, b, z, L, rfl, rfl, hd, hb, hL, few, q⟩ := h
  cases ro
  cases ri
  have S : DK1 X.prog X.w d L s.heap := (I.hok d _ hd).1
  obtain ⟨nsys, fewL, xs, es, ep, ⟨ob, g1, g2, g3⟩, rows, nd, keys⟩ := S
  obtain ⟨as, rb⟩ := Dp.reads I _ _ _ hb rfl
  have kb : (nestedKind X.prog X.w).is s.heap (nk z) b := nk_is rb
  have lenx : xs.length = L.length := by
    have := congrArg List.length keys
    rwa [List.length_map, List.length_map] at this
  have all : ∀ x ∈ xs, (nestedKind X.prog X.w).is s.heap x.1 x.2.1 := fun x hx => by
    have m : (x.2.1, x.1) ∈ L.map fun p => (p.1, nk p.2) := keys ▸ List.mem_map_of_mem (f := fun x : NestedKey × Addr × Value => (x.2.1, x.1)) hx
    obtain ⟨p, hp, e⟩ := List.mem_map.mp m
    obtain ⟨as, rp⟩ := Dp.reads I _ _ _ (hL p hp) (show RelV (V.ref p.1) (.ref p.1) from rfl)
    have e1 : p.1 = x.2.1 := (Prod.mk.inj e).1
    have e2 : nk p.2 = x.1 := (Prod.mk.inj e).2
    rw [← e1, ← e2]
    exact nk_is rp
  have lim : (64 : Nat) ≤ sizeLine := by decide
  refine wpAny_setItem_heap (knd := nestedKind X.prog X.w) (hsz := by omega) (by show X.A.units + 1 + 8 < cLine; omega) kb ⟨ob, es, ep, g1, g2, g3, rows, all, nd⟩ fun h' D sb => ?_
  obtain ⟨ob', es', ep', f1, f2, f3, rows', _, nd'⟩ := D
  have kz : nk z ∈ xs.map (·.1) ↔ z ∈ L.map (·.2) := by
    rw [dk_keys keys]
    constructor
    · intro m
      obtain ⟨p, hp, e⟩ := List.mem_map.mp m
      exact List.mem_map.mpr ⟨p, hp, nk_inj e⟩
    · intro m
      obtain ⟨p, hp, e⟩ := List.mem_map.mp m
      exact List.mem_map.mpr ⟨p, hp, by rw [e]⟩
  have fin : ∀ L', L'.length < 64 → (storedH xs (nk z) b u).map (fun x => (x.2.1, x.1)) = L'.map (fun p => (p.1, nk p.2)) → Q (upd H d (DKO X.prog X.w d L')) → ∃ H', Inv X pn σ H' { heap := h', gens := s.gens, drawn := s.drawn, toks := s.toks + (nestedKind X.prog X.w).draws (nk z), os := s.os } ∧ Q H' := fun L' fl e qq =>
    ⟨_, I.write (e := d) (t' := s.toks + (nestedKind X.prog X.w).draws (nk z)) (by rw [hd]; trivial) (.inl rfl) (fun c y hc e => (sb.2 c hc).trans e) ⟨ob', f1⟩ (DK1.new ⟨nsys, fl, _, es', ep', ⟨ob', f1, f2, f3⟩, rows', nd', e⟩), qq⟩
  by_cases m : z ∈ L.map (·.2)
  · refine fin L (by omega) ?_ (q L (fun _ => rfl) fun n => absurd m n)
    unfold storedH
    rw [if_pos (mem_split.mpr (kz.mpr m)), List.map_map, ← keys]
    refine List.map_congr_left fun x _ => ?_
    show ((putAt (nk z) u x).2.1, (putAt (nk z) u x).1) = _
    unfold putAt
    split <;> rfl
  · refine fin (L ++ [(b, z)]) (by rw [List.length_append]; exact few) ?_ (q _ (fun y => absurd y m) fun _ => rfl)
    unfold storedH
    rw [if_neg (fun y => m (kz.mp (mem_split.mp y))), List.map_append, List.map_append, keys]
    rfl
/-- sorted(d) -/
def rSortedN (K : PySem.W.Frag) (P : Program) (w : World) : List V → Hp → VK → Prop := fun vs H Q => ∃ (a : Addr) (L : List (Addr × List (List Str))), vs = [V.ref a] ∧ H a = some (DKO P w a L) ∧ Srt K H (L.map lD) ∧
  ∀ p, (L.map (·.2)).Nodup → H p = none → Q (.ref p) (upd H p (.lst (((L.map lD).mergeSort (W.dataLe false (·.2))).map (·.1))))
theorem each_lD : ∀ {L : List (Addr × List (List Str))} {vs : List Value}, vs = L.map (fun p => Value.ref p.1) → W.EachIs (fun v b => RelV b.1 v) vs (L.map lD)
  | [], _, rfl => .nil
  | q :: L, _, rfl => .cons rfl (each_lD rfl)
theorem cr_sortedN (calm : X.calm = true) (hu : X.A.units + 64 < cLine) : CallR X (.builtin "sorted") (rSortedN X.K X.prog X.w) := by
  intro pn s σ H vs us Q I r h
  obtain ⟨a, L, rfl, ha, S, q⟩ := h
  have D : DK1 X.prog X.w a L s.heap := (I.hok a _ ha).1
  have nd := D.nodup
  rw [Vals.ref1 r]
  obtain ⟨nsys, few, xs, es, ep, ob, rows, _, keys⟩ := D
  have lim : (64 : Nat) ≤ sizeLine := by decide
  have lenx : xs.length = L.length := by
    have := congrArg List.length keys
    rwa [List.length_map, List.length_map] at this
  have lene : es.size = L.length := by
    have := congrArg List.length rows
    rwa [List.length_map, Array.length_toList, lenx] at this
  have hz : (L.map lD).length ≤ sizeLine := by rw [List.length_map]; omega
  refine sorted_col (Z := fun z => z = L.map lD) (enc := (·.2)) (R := fun v b => RelV b.1 v) (fun Q' q' => ?_) (fun vs bs' z e' => ?_) hu fun s' p bs' z so => ?_
  · refine W.kdu_collect (PySem.KdlSrc.rawDict (es := es) (ep := ep) nsys) (I.ok.hd calm) ob (by omega) fun h' tk acc keep hacc => ?_
    refine q' _ _ (L.map lD) keep rfl rfl (each_lD ?_) rfl
    refine List.ext_getElem (by rw [Array.length_toList, hacc.1, List.length_map, lene]) fun i h1 h2 => ?_
    rw [Array.length_toList] at h1
    rw [List.length_map] at h2
    obtain ⟨hi, e⟩ := hacc.2 i _ (Array.getElem?_eq_getElem h1)
    rw [Array.getElem_toList, e, List.getElem_map]
    have e2 : es[i] = entryOfKey (nestedKind X.prog X.w) (xs[i]'(by omega)) := by
      have : es.toList[i]? = (xs.map (entryOfKey (nestedKind X.prog X.w)))[i]? := by rw [rows]
      rw [Array.getElem?_toList, Array.getElem?_eq_getElem hi, List.getElem?_map, List.getElem?_eq_getElem (by omega)] at this
      exact Option.some.inj this
    have e3 : (xs[i]'(by omega)).2.1 = L[i].1 := by
      have : (xs.map (fun x => (x.2.1, x.1)))[i]? = (L.map fun p => (p.1, nk p.2))[i]? := by rw [keys]
      rw [List.getElem?_map, List.getElem?_map, List.getElem?_eq_getElem (by omega), List.getElem?_eq_getElem h2] at this
      exact (Prod.mk.inj (Option.some.inj this)).1
    rw [e2]
    show Value.ref _ = Value.ref _
    rw [← e3]
  · subst z
    exact ⟨hz, S.al, each_reads I S.dp e', S.tup, S.dep⟩
  · subst z
    exact sorted_end I so (by rw [sort_len]; exact hz) fun hn => q p nd hn
end
end Lay
/-! LayAI: pairs, lots, lots of lots among the objects; single bits; what the set comprehension gives. -/
namespace Lay
open PySem PySem.Spec PyProof.Rows L2
theorem units5 {k : Nat} {A : Around} (r : Room k A) : A.units + 65 < cLine := by
  have := r.un
  omega
/-- n & 2 ** k -/
def rBit : R2 := fun x y H Q => ∃ n k : Nat, x = .int (n : Int) ∧ y = .int (2 ^ k) ∧ Q (.int (if n.testBit k = true then 2 ^ k else 0)) H
theorem op_bit {X : Cx} : OpR X (binaryOp .BitAnd) rBit := by
  intro pn s σ H x y v u Q I rx ry h
  obtain ⟨n, k, rfl, rfl, q⟩ := h
  refine op_and pn s σ H _ _ v u Q I rx ry ⟨_, _, rfl, rfl, ?_⟩
  have p2 : ((2 : Int) ^ k) = ((2 ^ k : Nat) : Int) := by rw [Int.natCast_pow]; rfl
  have e : Builtin.bitAnd (n : Int) ((2 : Int) ^ k) = if n.testBit k = true then 2 ^ k else 0 := by
    rw [p2]
    unfold Builtin.bitAnd
    rw [decide_eq_true (Int.natCast_nonneg n), decide_eq_true (Int.natCast_nonneg (2 ^ k))]
    show (((n : Int).toNat &&& ((2 ^ k : Nat) : Int).toNat : Nat) : Int) = _
    rw [Int.toNat_natCast, Int.toNat_natCast]
    have e2 : n &&& 2 ^ k = if n.testBit k = true then 2 ^ k else 0 := by
      refine Nat.eq_of_testBit_eq fun i => ?_
      rw [Nat.testBit_and, Nat.testBit_two_pow]
      by_cases ik : k = i
      · subst ik
        cases z : n.testBit k
        · simp
        · simp [Nat.testBit_two_pow_self]
      · rw [decide_eq_false ik, Bool.and_false]
        split
        · rw [Nat.testBit_two_pow, decide_eq_false ik]
        · rw [Nat.zero_testBit]
    rw [e2]
    split
    · exact p2.symm
    · rfl
  show Q (V.int (Builtin.bitAnd (n : Int) ((2 : Int) ^ k))) H
  rw [e]
  exact q
theorem rd_bit {n k : Nat} {H : Hp} {Q : VK} (q : Q (.int (if n.testBit k = true then 2 ^ k else 0)) H) : rBit (.int (n : Int)) (.int (2 ^ k)) H Q := ⟨n, k, rfl, rfl, q⟩
def rShl1 : R2 := fun x y H Q => ∃ k : Nat, x = .int 1 ∧ y = .int (k : Int) ∧ k ≤ 1000 ∧ Q (.int (2 ^ k)) H
theorem op_shl1 {X : Cx} : OpR X (binaryOp .LShift) rShl1 := by
  intro pn s σ H x y v u Q I rx ry h
  obtain ⟨k, rfl, rfl, hk, q⟩ := h
  exact op_oneShl pn s σ H _ _ v u Q I rx ry ⟨k, rfl, rfl, by omega, q⟩
theorem rd_shl1 {k : Nat} {H : Hp} {Q : VK} (hk : k ≤ 1000) (q : Q (.int (2 ^ k)) H) : rShl1 (.int 1) (.int (k : Int)) H Q := ⟨k, rfl, rfl, hk, q⟩
/-! each of one list belongs to the one of the other -/
def Rel {α β : Type} (P : α → β → Prop) (rs : List α) (N : List β) : Prop := rs.length = N.length ∧ ∀ (i : Nat) r x, rs[i]? = some r → N[i]? = some x → P r x
section
variable {α β : Type} {P : α → β → Prop} {a b : List α} {c d : List β}
theorem Rel.nil : Rel P ([] : List α) ([] : List β) := ⟨rfl, fun i r x e => nomatch e⟩
theorem Rel.cons {r : α} {x : β} (h : P r x) (t : Rel P a c) : Rel P (r :: a) (x :: c) := ⟨by rw [List.length_cons, List.length_cons, t.1], fun i r' x' e1 e2 => by
  cases i with
  | zero => cases e1; cases e2; exact h
  | succ i => exact t.2 i r' x' e1 e2⟩
theorem Rel.tail {r : α} {x : β} (h : Rel P (r :: a) (x :: c)) : P r x ∧ Rel P a c :=
  ⟨h.2 0 r x rfl rfl, by have := h.1; rw [List.length_cons, List.length_cons] at this; omega, fun i r' x' e1 e2 => h.2 (i + 1) r' x' e1 e2⟩
theorem Rel.app (h : Rel P a c) (g : Rel P b d) : Rel P (a ++ b) (c ++ d) := by
  refine ⟨by rw [List.length_append, List.length_append, h.1, g.1], fun i r x e1 e2 => ?_⟩
  have l := h.1
  rcases Nat.lt_or_ge i a.length with y | y
  · rw [List.getElem?_append_left y] at e1
    rw [List.getElem?_append_left (by omega)] at e2
    exact h.2 i r x e1 e2
  · rw [List.getElem?_append_right y] at e1
    rw [List.getElem?_append_right (by omega), ← l] at e2
    exact g.2 _ r x e1 e2
theorem Rel.take (h : Rel P a c) (n : Nat) : Rel P (a.take n) (c.take n) := by
  refine ⟨by rw [List.length_take, List.length_take, h.1], fun i r x e1 e2 => ?_⟩
  rw [List.getElem?_take] at e1 e2
  split at e1
  · rename_i lt
    rw [if_pos lt] at e2
    exact h.2 i r x e1 e2
  · cases e1
theorem Rel.drop (h : Rel P a c) (n : Nat) : Rel P (a.drop n) (c.drop n) := by
  refine ⟨by rw [List.length_drop, List.length_drop, h.1], fun i r x e1 e2 => ?_⟩
  rw [List.getElem?_drop] at e1 e2
  exact h.2 _ r x e1 e2
theorem Rel.mono {P' : α → β → Prop} (h : Rel P a c) (m : ∀ r x, P r x → P' r x) : Rel P' a c := ⟨h.1, fun i r x e1 e2 => m r x (h.2 i r x e1 e2)⟩
theorem Rel.left (h : Rel P a c) {i : Nat} {x : β} (e : c[i]? = some x) : ∃ r, a[i]? = some r ∧ P r x := by
  have lt := (List.getElem?_eq_some_iff.mp e).1
  have l := h.1
  refine ⟨a[i]'(by omega), List.getElem?_eq_getElem _, h.2 i _ x (List.getElem?_eq_getElem _) e⟩
theorem Rel.right (h : Rel P a c) {i : Nat} {r : α} (e : a[i]? = some r) : ∃ x, c[i]? = some x ∧ P r x := by
  have lt := (List.getElem?_eq_some_iff.mp e).1
  have l := h.1
  exact ⟨c[i]'(by omega), List.getElem?_eq_getElem _, h.2 i r _ e (List.getElem?_eq_getElem _)⟩
theorem Rel.erase (h : Rel P a c) (n : Nat) : Rel P (a.eraseIdx n) (c.eraseIdx n) := by
  refine ⟨by rw [List.length_eraseIdx, List.length_eraseIdx, h.1], fun i r x e1 e2 => ?_⟩
  rw [List.getElem?_eraseIdx] at e1 e2
  split at e1
  · rename_i lt
    rw [if_pos lt] at e2
    exact h.2 _ r x e1 e2
  · rename_i lt
    rw [if_neg lt] at e2
    exact h.2 _ r x e1 e2
/-- a list of pairs is the two lists -/
theorem Rel.zip (h : Rel P a c) : (a.zip c).map (·.1) = a ∧ (a.zip c).map (·.2) = c ∧ ∀ p ∈ a.zip c, P p.1 p.2 := by
  have l := h.1
  refine ⟨List.map_fst_zip (by omega), List.map_snd_zip (by omega), fun p hp => ?_⟩
  obtain ⟨i, hi, e⟩ := List.mem_iff_getElem.mp hp
  rw [List.length_zip] at hi
  rw [List.getElem_zip] at e
  rw [← e]
  exact h.2 i _ _ (List.getElem?_eq_getElem (by omega)) (List.getElem?_eq_getElem (by omega))
theorem Rel.of_pairs {l : List (α × β)} (h : ∀ p ∈ l, P p.1 p.2) : Rel P (l.map (·.1)) (l.map (·.2)) := by
  refine ⟨by rw [List.length_map, List.length_map], fun i r x e1 e2 => ?_⟩
  rw [List.getElem?_map] at e1 e2
  cases g : l[i]? with
  | none => rw [g] at e1; cases e1
  | some p =>
    rw [g] at e1 e2
    cases e1
    cases e2
    exact h p (List.mem_of_getElem? g)
end
/-! pairs, lots, lots of lots -/
def PT (H : Hp) (r : Addr) (k : List Str) : Prop := H r = some (.tup (k.map V.str))
def LtT (H : Hp) (r : Addr) (z : List (List Str)) : Prop := ∃ rs : List Addr, H r = some (.tup (rs.map V.ref)) ∧ Rel (PT H) rs z
def LsT (H : Hp) (r : Addr) (c : List (List (List Str))) : Prop := ∃ rs : List Addr, H r = some (.tup (rs.map V.ref)) ∧ Rel (LtT H) rs c
def PLs (H : Hp) (r : Addr) (z : List (List Str)) : Prop := ∃ rs : List Addr, H r = some (.lst (rs.map V.ref)) ∧ Rel (PT H) rs z
def LLs (H : Hp) (r : Addr) (c : List (List (List Str))) : Prop := ∃ rs : List Addr, H r = some (.lst (rs.map V.ref)) ∧ Rel (LtT H) rs c
section
variable {K : PySem.W.Frag} {H H' : Hp} {r : Addr} {k : List Str} {z : List (List Str)} {c : List (List (List Str))}
theorem PT.same (s : Same H H') (h : PT H r k) : PT H' r k := s _ _ h
theorem LtT.same (s : Same H H') (h : LtT H r z) : LtT H' r z := by
  obtain ⟨rs, h1, h2⟩ := h
  exact ⟨rs, s _ _ h1, h2.mono fun _ _ p => p.same s⟩
theorem LsT.same (s : Same H H') (h : LsT H r c) : LsT H' r c := by
  obtain ⟨rs, h1, h2⟩ := h
  exact ⟨rs, s _ _ h1, h2.mono fun _ _ p => p.same s⟩
theorem PLs.same (s : Same H H') (h : PLs H r z) : PLs H' r z := by
  obtain ⟨rs, h1, h2⟩ := h
  exact ⟨rs, s _ _ h1, h2.mono fun _ _ p => p.same s⟩
theorem LLs.same (s : Same H H') (h : LLs H r c) : LLs H' r c := by
  obtain ⟨rs, h1, h2⟩ := h
  exact ⟨rs, s _ _ h1, h2.mono fun _ _ p => p.same s⟩
theorem dp_strs : ∀ k : List Str, DpAll K H (k.map V.str) (k.map PyData.str)
  | [] => .nil
  | z :: k => .cons (.str z) (dp_strs k)
theorem PT.dp (h : PT H r k) : Dp K H (.ref r) (pd k) := .tup (SqT.of h) (dp_strs k)
theorem dp_rel {α : Type} {P : Addr → α → Prop} {f : α → PyData} (m : ∀ r x, P r x → Dp K H (.ref r) (f x)) : ∀ {rs : List Addr} {z : List α}, Rel P rs z → DpAll K H (rs.map V.ref) (z.map f)
  | [], [], _ => .nil
  | [], _ :: _, h => nomatch h.1
  | _ :: _, [], h => nomatch h.1
  | r :: rs, x :: z, h => .cons (m r x h.tail.1) (dp_rel m h.tail.2)
theorem LtT.dp (h : LtT H r z) : Dp K H (.ref r) (ld z) := by
  obtain ⟨rs, h1, h2⟩ := h
  exact .tup (SqT.of h1) (dp_rel (fun _ _ p => p.dp) h2)
theorem LsT.dp (h : LsT H r c) : Dp K H (.ref r) (lsd c) := by
  obtain ⟨rs, h1, h2⟩ := h
  exact .tup (SqT.of h1) (dp_rel (fun _ _ p => p.dp) h2)
theorem PLs.dp (h : PLs H r z) : Dp K H (.ref r) (.list (z.map pd)) := by
  obtain ⟨rs, h1, h2⟩ := h
  exact .lst (SqL.of h1) (dp_rel (fun _ _ p => p.dp) h2)
end
theorem nodup_len {α : Type} : ∀ {l m : List α}, l.Nodup → (∀ x ∈ l, x ∈ m) → l.length ≤ m.length
  | [], _, _, _ => Nat.zero_le _
  | x :: l, m, nd, h => by
    rw [List.nodup_cons] at nd
    obtain ⟨a, b, rfl⟩ := List.append_of_mem (h x List.mem_cons_self)
    have := nodup_len (l := l) (m := a ++ b) nd.2 fun y hy => by
      have := h y (List.mem_cons_of_mem _ hy)
      rcases List.mem_append.mp this with u | u
      · exact List.mem_append_left _ u
      · rcases List.mem_cons.mp u with v | v
        · exact absurd (v ▸ hy) nd.1
        · exact List.mem_append_right _ v
    rw [List.length_append] at this
    rw [List.length_append, List.length_cons, List.length_cons]
    omega
/-- {pair for lot in lots for pair in lot} -/
theorem rd_sc2 {K : PySem.W.Frag} {P : Program} {w : World} {H : Hp} {Q : VK} {t : Addr} {c : List (List (List Str))} {M : List (List Str)} (hT : LsT H t c) (hM : ∀ z ∈ c, ∀ k ∈ z, k ∈ M) (lM : M.length ≤ 62)
    (q : ∀ D L H', Same H H' → H' D = some (SetSO P w D L) → (∀ p ∈ L, PT H' p.1 p.2) → (∀ k, k ∈ L.map (·.2) ↔ ∃ z ∈ c, k ∈ z) → Q (.ref D) H') :
    tSc2 K P w (iTup K (tVar 0)) (gName 1) (iTup K (tVar 1)) (gName 2) (tVar 2) [1, 2] [2] [some (.ref t), none, none] H Q := by
  obtain ⟨rs, h1, h2⟩ := hT
  refine rd_iTup (rd_var (v := .ref t) rfl ⟨t, rfl, ⟨_, SqT.of h1⟩, fun D hD => ?_⟩)
  have len := h2.1
  -- what is known of the set so far
  let St : List (List Str) → Hp → Prop := fun done Hc => ∃ L, Same H Hc ∧ Hc D = some (SetSO P w D L) ∧ (∀ p ∈ L, PT H p.1 p.2) ∧ (L.map (·.2)).Nodup ∧ ∀ k, k ∈ L.map (·.2) ↔ k ∈ done
  refine ⟨fun i m Hc => m = rs.length - i ∧ i ≤ rs.length ∧ St (c.take i).flatten Hc, ⟨rs.length, by omega, Nat.zero_le _, [], fun b o e => up_old hD e, upd_same, (fun p hp => nomatch hp), .nil, fun k => Iff.rfl⟩, ?_⟩
  rintro i m Hc ⟨rfl, hi, L, s1, g1, pL, nd, iff⟩
  by_cases lt : i < rs.length
  · have ltc : i < c.length := by omega
    have hr : H rs[i] = _ := (h2.2 i _ _ (List.getElem?_eq_getElem lt) (List.getElem?_eq_getElem ltc)).choose_spec.1
    have hz := (h2.2 i _ _ (List.getElem?_eq_getElem lt) (List.getElem?_eq_getElem ltc)).choose_spec.2
    generalize (h2.2 i _ _ (List.getElem?_eq_getElem lt) (List.getElem?_eq_getElem ltc)).choose = ps at hr hz
    have mz : c[i] ∈ c := List.getElem_mem ltc
    have e1 : (c.take (i + 1)).flatten = (c.take i).flatten ++ c[i] := by
      rw [show c.take (i + 1) = c.take i ++ [c[i]] by rw [List.take_succ, List.getElem?_eq_getElem ltc]; rfl, List.flatten_append, List.flatten_singleton]
    generalize c[i] = z at hz mz e1
    have lz := hz.1
    refine .inr ⟨⟨_, .ref rs[i], SqT.of (s1 _ _ h1), by rw [List.getElem?_map, List.getElem?_eq_getElem lt]; rfl⟩, fun H' => ∃ m', m' < rs.length - i ∧ (m' = rs.length - (i + 1) ∧ i + 1 ≤ rs.length ∧ St (c.take (i + 1)).flatten H'), fun _ w => w, ?_⟩
    rintro x H2 ⟨rfl, y⟩
    have ex : x = .ref rs[i] := by
      have := y _ (SqT.of (s1 _ _ h1))
      rw [List.getElem?_map, List.getElem?_eq_getElem lt] at this
      exact (Option.some.inj this).symm
    subst ex
    refine rd_name ⟨rfl, rd_iTup (rd_var (v := .ref rs[i]) rfl ⟨_, rfl, ⟨_, SqT.of (s1 _ _ hr)⟩, ?_⟩)⟩
    refine ⟨fun j k Hd => k = ps.length - j ∧ j ≤ ps.length ∧ St ((c.take i).flatten ++ z.take j) Hd, ⟨ps.length, by omega, Nat.zero_le _, L, s1, g1, pL, nd, fun k => by rw [List.take_zero, List.append_nil]; exact iff k⟩, ?_⟩
    clear g1 pL nd iff L
    rintro j k Hd ⟨rfl, hj, L, s2, g2, pL, nd, iff⟩
    by_cases lj : j < ps.length
    · have ljz : j < z.length := by omega
      have hp := hz.2 j _ _ (List.getElem?_eq_getElem lj) (List.getElem?_eq_getElem ljz)
      have inM := hM z mz z[j] (List.getElem_mem ljz)
      have e2 : z.take (j + 1) = z.take j ++ [z[j]] := by rw [List.take_succ, List.getElem?_eq_getElem ljz]; rfl
      have few : L.length ≤ M.length := by
        have := nodup_len (l := L.map (·.2)) (m := M) nd fun k hk => by
          rcases List.mem_append.mp ((iff k).mp hk) with u | u
          · obtain ⟨z', hz', hk'⟩ := List.mem_flatten.mp u
            exact hM z' (List.mem_of_mem_take hz') k hk'
          · exact hM z mz k (List.mem_of_mem_take u)
        rwa [List.length_map] at this
      refine .inr ⟨⟨_, .ref ps[j], SqT.of (s2 _ _ hr), by rw [List.getElem?_map, List.getElem?_eq_getElem lj]; rfl⟩, fun H' => ∃ k', k' < ps.length - j ∧ (k' = ps.length - (j + 1) ∧ j + 1 ≤ ps.length ∧ St ((c.take i).flatten ++ z.take (j + 1)) H'), fun _ w => w, ?_⟩
      rintro x H3 ⟨rfl, y2⟩
      have ex : x = .ref ps[j] := by
        have := y2 _ (SqT.of (s2 _ _ hr))
        rw [List.getElem?_map, List.getElem?_eq_getElem lj] at this
        exact (Option.some.inj this).symm
      subst ex
      refine rd_name ⟨rfl, rd_var (v := .ref ps[j]) rfl ⟨ps[j], z[j], L, rfl, SqT.of (s2 _ _ hp), g2, fun p hp => SqT.of (s2 _ _ (pL p hp)), by omega, fun L' c1 c2 => ⟨_, by omega, rfl, lj, L', fun b o e => ?_, upd_same, ?_⟩⟩⟩
      · have nb : b ≠ D := fun z => by rw [z, hD] at e; cases e
        exact up_oth nb (s2 _ _ e)
      · by_cases m : z[j] ∈ L.map (·.2)
        · rw [c1 m]
          refine ⟨pL, nd, fun k => (iff k).trans ?_⟩
          rw [e2, ← List.append_assoc, List.mem_append (t := [z[j]])]
          refine ⟨.inl, fun u => u.elim id fun v => ?_⟩
          rw [List.mem_singleton.mp v]
          exact (iff _).mp m
        · have pm := c2 m
          refine ⟨fun p hp2 => ?_, ((pm.map (·.2)).nodup_iff).mpr (List.nodup_cons.mpr ⟨m, nd⟩), fun k => ?_⟩
          · rcases List.mem_cons.mp (pm.mem_iff.mp hp2) with u | u
            · rw [u]
              exact hp
            · exact pL p u
          · rw [(pm.map (·.2)).mem_iff, List.map_cons, List.mem_cons, iff k, e2, ← List.append_assoc, List.mem_append (t := [z[j]]), List.mem_singleton]
            exact Or.comm
    · obtain rfl : j = ps.length := by omega
      refine .inl ⟨⟨_, SqT.of (s2 _ _ hr), by rw [List.length_map]; exact Nat.le_refl _⟩, _, by omega, rfl, lt, L, s2, g2, pL, nd, fun k => ?_⟩
      rw [iff k, e1, lz, List.take_length]
  · obtain rfl : i = rs.length := by omega
    refine .inl ⟨⟨_, SqT.of (s1 _ _ h1), by rw [List.length_map]; exact Nat.le_refl _⟩, q D L Hc s1 g1 (fun p hp => s1 _ _ (pL p hp)) fun k => ?_⟩
    rw [iff k, len, List.take_length, List.mem_flatten]
end Lay
/-! LayAJ: the order of pairs and of lots, sorted lists of them, their shapes. -/
namespace Lay
open PySem PySem.Spec PyProof.Rows L2
theorem dlt_irr (d : PyData) : W.dataLt d d = false := (listOrd itemOrd).irrefl _
theorem dlt_trans {d e f : PyData} (h : W.dataLt d e = true) (g : W.dataLt e f = true) : W.dataLt d f = true := (listOrd itemOrd).trans _ _ _ h g
theorem dlt_asym {d e : PyData} (h : W.dataLt d e = true) : W.dataLt e d = false := by
  cases g : W.dataLt e d with
  | false => rfl
  | true => rw [← dlt_irr d, dlt_trans h g]
theorem lex_more (l : List itemOrd.α) (x : itemOrd.α) : PyProof.Rows.lexLt itemOrd l (l ++ [x]) = true := by
  induction l with
  | nil => rfl
  | cons y l ih =>
    show (itemOrd.blt y y || !itemOrd.blt y y && PyProof.Rows.lexLt itemOrd l (l ++ [x])) = true
    rw [itemOrd.irrefl, ih]
    rfl
theorem dlt_tri {d e : PyData} (al : W.alike d e = true) (h : W.dataLt d e = false) (g : W.dataLt e d = false) : d.eqv e = true := by
  cases q : d.eqv e with
  | true => rfl
  | false =>
    have t := (W.toks_eqv d e al).2 q [] [Sum.inl 0]
    have eq : W.keyToks d = W.keyToks e := (listOrd itemOrd).total _ _ h g
    rw [List.append_nil, ← eq, lex_more] at t
    have z : PyProof.Rows.lexLt itemOrd (W.keyToks d) (W.keyToks d) = false := (listOrd itemOrd).irrefl _
    rw [z] at t
    cases t
/-! what is encoded -/
/-- data of one kind: alike, and told apart by == -/
structure Enc {α : Type} (enc : α → PyData) : Prop where
  al : ∀ x y, W.alike (enc x) (enc y) = true
  inj : ∀ x y, (enc x).eqv (enc y) = true → x = y
theorem alike_map {α : Type} {enc : α → PyData} (h : ∀ x y, W.alike (enc x) (enc y) = true) : ∀ xs ys : List α, W.alikeAll (xs.map enc) (ys.map enc) = true
  | [], _ => by rw [W.alikeAll.eq_def]; rfl
  | _ :: _, [] => by rw [W.alikeAll.eq_def]; rfl
  | x :: xs, y :: ys => by
    show (W.alike (enc x) (enc y) && W.alikeAll (xs.map enc) (ys.map enc)) = true
    rw [h, alike_map h xs ys]
    rfl
theorem eqv_map {α : Type} {enc : α → PyData} (h : ∀ x y, (enc x).eqv (enc y) = true → x = y) : ∀ xs ys : List α, PyData.eqvAll (xs.map enc) (ys.map enc) = true → xs = ys
  | [], [], _ => rfl
  | [], _ :: _, e => by cases e
  | _ :: _, [], e => by cases e
  | x :: xs, y :: ys, e => by
    have e : (PyData.eqv (enc x) (enc y) && PyData.eqvAll (xs.map enc) (ys.map enc)) = true := e
    rw [Bool.and_eq_true] at e
    rw [h _ _ e.1, eqv_map h _ _ e.2]
theorem Enc.tuple {α : Type} {enc : α → PyData} (h : Enc enc) : Enc fun xs : List α => PyData.tuple (xs.map enc) where
  al := fun xs ys => alike_map h.al xs ys
  inj := fun xs ys e => eqv_map h.inj xs ys e
theorem enc_str : Enc PyData.str where
  al := fun _ _ => rfl
  inj := fun x y e => beq_iff_eq.mp (show (x == y) = true from e)
theorem enc_pd : Enc pd := enc_str.tuple
theorem enc_ld : Enc ld := enc_pd.tuple
theorem enc_lsd : Enc lsd := enc_ld.tuple
section
variable {α : Type} {enc : α → PyData} (E : Enc enc)
include E
theorem Enc.refl (x : α) : (enc x).eqv (enc x) = true := W.eqv_refl_alike _ (E.al x x)
theorem Enc.iff [DecidableEq α] (x y : α) : (enc x).eqv (enc y) = decide (x = y) := by
  by_cases h : x = y
  · subst h
    rw [decide_eq_true rfl, E.refl]
  · rw [decide_eq_false h]
    cases q : (enc x).eqv (enc y) with
    | false => rfl
    | true => exact absurd (E.inj _ _ q) h
theorem Enc.tri {x y : α} (ne : x ≠ y) (h : W.dataLt (enc y) (enc x) = false) : W.dataLt (enc x) (enc y) = true := by
  cases q : W.dataLt (enc x) (enc y) with
  | true => rfl
  | false => exact absurd (E.inj _ _ (dlt_tri (E.al x y) q h)) ne
/-- strictly ascending -/
abbrev Asc (enc : α → PyData) (l : List α) : Prop := l.Pairwise fun x y => W.dataLt (enc x) (enc y) = true
omit E in
theorem Asc.nodup {l : List α} (h : Asc enc l) : l.Nodup := List.Pairwise.imp (R := fun x y => W.dataLt (enc x) (enc y) = true) (S := (· ≠ ·)) (fun {a b} hab e => by rw [e, dlt_irr] at hab; cases hab) h
omit E in
theorem Asc.one : ∀ {l m : List α}, Asc enc l → Asc enc m → (∀ x, x ∈ l ↔ x ∈ m) → l = m
  | [], [], _, _, _ => rfl
  | [], y :: m, _, _, h => absurd ((h y).mpr List.mem_cons_self) (fun z => nomatch z)
  | x :: l, [], _, _, h => absurd ((h x).mp List.mem_cons_self) (fun z => nomatch z)
  | x :: l, y :: m, hl, hm, h => by
    have hl' := List.pairwise_cons.mp hl
    have hm' := List.pairwise_cons.mp hm
    have exy : x = y := by
      rcases List.mem_cons.mp ((h x).mp List.mem_cons_self) with e | e
      · exact e
      · rcases List.mem_cons.mp ((h y).mpr List.mem_cons_self) with e2 | e2
        · exact e2.symm
        · have a := hm'.1 x e
          have b := hl'.1 y e2
          rw [dlt_asym a] at b
          cases b
    subst exy
    rw [Asc.one hl'.2 hm'.2 fun z => ?_]
    constructor
    · intro hz
      rcases List.mem_cons.mp ((h z).mp (List.mem_cons_of_mem _ hz)) with e | e
      · have a := hl'.1 z hz
        rw [e, dlt_irr] at a
        cases a
      · exact e
    · intro hz
      rcases List.mem_cons.mp ((h z).mpr (List.mem_cons_of_mem _ hz)) with e | e
      · have a := hm'.1 z hz
        rw [e, dlt_irr] at a
        cases a
      · exact e
/-- what a sort makes of values and what they stand for -/
theorem sorted_rel {P : Addr → α → Prop} {rs : List Addr} {zs : List α} {bs : List (V × PyData)} (R : Rel P rs zs) (nd : zs.Nodup) (hb : bs = (rs.zip zs).map fun p => (V.ref p.1, enc p.2)) :
    ∃ rs' zs', (bs.mergeSort (W.dataLe false (·.2))).map (·.1) = rs'.map V.ref ∧ Rel P rs' zs' ∧ zs'.Perm zs ∧ Asc enc zs' := by
  subst hb
  obtain ⟨z1, z2, z3⟩ := R.zip
  generalize rs.zip zs = ps at z1 z2 z3
  have e := W.sort_maps (r := fun a b : Addr × α => !W.dataLt (enc b.2) (enc a.2)) (s := W.dataLe false (·.2)) (fun p : Addr × α => (V.ref p.1, enc p.2)) (l := ps) fun a _ b _ => by rw [W.dataLe_eq]; rfl
  rw [← e]
  have pm := List.mergeSort_perm ps fun a b : Addr × α => !W.dataLt (enc b.2) (enc a.2)
  have pw := List.pairwise_mergeSort (le := fun a b : Addr × α => !W.dataLt (enc b.2) (enc a.2)) (fun a b c h1 h2 => ?_) (fun a b => ?_) ps
  · generalize ps.mergeSort _ = qs at pm pw
    refine ⟨qs.map (·.1), qs.map (·.2), by rw [List.map_map, List.map_map]; rfl, Rel.of_pairs fun p hp => z3 p (pm.mem_iff.mp hp), by rw [← z2]; exact pm.map _, ?_⟩
    have nq : (qs.map (·.2)).Nodup := ((pm.map (·.2)).nodup_iff).mpr (by rw [z2]; exact nd)
    refine List.pairwise_map.mpr ((List.Pairwise.and pw (List.pairwise_map.mp nq)).imp fun {a b} h => ?_)
    refine E.tri h.2 ?_
    have := h.1
    rw [Bool.not_eq_true'] at this
    exact this
  · rw [Bool.not_eq_true'] at h1 h2 ⊢
    cases q : W.dataLt (enc c.2) (enc a.2) with
    | false => rfl
    | true =>
      rcases (listOrd itemOrd).negTrans _ (W.keyToks (enc b.2)) _ q with g | g
      · have g : W.dataLt (enc c.2) (enc b.2) = true := g
        rw [h2] at g
        cases g
      · have g : W.dataLt (enc b.2) (enc a.2) = true := g
        rw [h1] at g
        cases g
  · cases q : W.dataLt (enc b.2) (enc a.2) with
    | false => rfl
    | true => rw [dlt_asym q]; rfl
end
/-! shapes -/
theorem depth_pd (k : List Str) : (pd k).depth ≤ 1 := by
  have : PyData.depthAll (k.map PyData.str) ≤ 0 := depthAll_of fun d hd => by
    obtain ⟨z, _, rfl⟩ := List.mem_map.mp hd
    exact Nat.le_refl 0
  show PyData.depthAll (k.map PyData.str) + 1 ≤ 1
  omega
theorem depth_ld (z : List (List Str)) : (ld z).depth ≤ 2 := by
  have : PyData.depthAll (z.map pd) ≤ 1 := depthAll_of fun d hd => by
    obtain ⟨k, _, rfl⟩ := List.mem_map.mp hd
    exact depth_pd k
  show PyData.depthAll (z.map pd) + 1 ≤ 2
  omega
theorem depth_lsd (c : List (List (List Str))) : (lsd c).depth ≤ 3 := by
  have : PyData.depthAll (c.map ld) ≤ 2 := depthAll_of fun d hd => by
    obtain ⟨k, _, rfl⟩ := List.mem_map.mp hd
    exact depth_ld k
  show PyData.depthAll (c.map ld) + 1 ≤ 3
  omega
theorem plainAll_of {ds : List PyData} (h : ∀ d ∈ ds, d.plain = true) : PyData.plainAll ds = true := by
  induction ds with
  | nil => rfl
  | cons d ds ih =>
    show (d.plain && PyData.plainAll ds) = true
    rw [h d List.mem_cons_self, ih fun e he => h e (List.mem_cons_of_mem _ he)]
    rfl
theorem plain_pd (k : List Str) : (pd k).plain = true := plainAll_of fun d hd => by
  obtain ⟨z, _, rfl⟩ := List.mem_map.mp hd
  rfl
theorem plain_pds (z : List (List Str)) : PyData.plainAll (z.map pd) = true := plainAll_of fun d hd => by
  obtain ⟨k, _, rfl⟩ := List.mem_map.mp hd
  exact plain_pd k
/-- texts that may stand in whole data -/
def OkP (k : List Str) : Prop := ∀ z ∈ k, Sok z
theorem lay_pd {k : List Str} (h : OkP k) : (pd k).canLay0 = true := canAll_of fun d hd => by
  obtain ⟨z, hz, rfl⟩ := List.mem_map.mp hd
  exact (h z hz).ok
theorem lay_ld {z : List (List Str)} (h : ∀ k ∈ z, OkP k) : (ld z).canLay0 = true := canAll_of fun d hd => by
  obtain ⟨k, hk, rfl⟩ := List.mem_map.mp hd
  exact lay_pd (h k hk)
theorem lay_lsd {c : List (List (List Str))} (h : ∀ z ∈ c, ∀ k ∈ z, OkP k) : (lsd c).canLay0 = true := canAll_of fun d hd => by
  obtain ⟨z, hz, rfl⟩ := List.mem_map.mp hd
  exact lay_ld (h z hz)
theorem shaped_of {d : PyData} (h : d.canLay0 = true) (g : d.depth ≤ 60) : SeqAt.shaped d = true := by
  unfold SeqAt.shaped
  rw [h, decide_eq_true (by omega)]
  rfl
theorem shaped_pd {k : List Str} (h : OkP k) : SeqAt.shaped (pd k) = true := shaped_of (lay_pd h) (by have := depth_pd k; omega)
theorem shaped_ld {z : List (List Str)} (h : ∀ k ∈ z, OkP k) : SeqAt.shaped (ld z) = true := shaped_of (lay_ld h) (by have := depth_ld z; omega)
theorem shaped_lsd {c : List (List (List Str))} (h : ∀ z ∈ c, ∀ k ∈ z, OkP k) : SeqAt.shaped (lsd c) = true := shaped_of (lay_lsd h) (by have := depth_lsd c; omega)
theorem shaped_pds {z : List (List Str)} (h : ∀ k ∈ z, OkP k) : SeqAt.shaped (.list (z.map pd)) = true := shaped_listN (n := 1) (by decide) fun d hd => by
  obtain ⟨k, hk, rfl⟩ := List.mem_map.mp hd
  exact ⟨lay_pd (h k hk), depth_pd k⟩
/-! sorting pairs, lots -/
theorem zip_srt {α : Type} {enc : α → PyData} {P : Addr → α → Prop} {K : PySem.W.Frag} {H : Hp} {rs : List Addr} {zs : List α} (R : Rel P rs zs) (E : Enc enc) (m : ∀ r x, P r x → Dp K H (.ref r) (enc x)) (tup : ∀ x, ∃ xs, enc x = .tuple xs) (dep : ∀ x, (enc x).depth ≤ 20) : Srt K H ((rs.zip zs).map fun p => (V.ref p.1, enc p.2)) := by
  have z := R.zip.2.2
  refine ⟨fun b hb => ?_, fun b hb => ?_, fun d hd e he => ?_, fun b hb => ?_⟩
  · obtain ⟨p, hp, rfl⟩ := List.mem_map.mp hb
    exact m _ _ (z p hp)
  · obtain ⟨p, hp, rfl⟩ := List.mem_map.mp hb
    exact tup _
  · obtain ⟨b, hb, rfl⟩ := List.mem_map.mp hd
    obtain ⟨p, hp, rfl⟩ := List.mem_map.mp hb
    obtain ⟨b', hb', rfl⟩ := List.mem_map.mp he
    obtain ⟨p', hp', rfl⟩ := List.mem_map.mp hb'
    exact E.al _ _
  · obtain ⟨p, hp, rfl⟩ := List.mem_map.mp hb
    exact dep _
section
variable {K : PySem.W.Frag} {H : Hp} {Q : VK}
theorem zip_fst {α : Type} {enc : α → PyData} {P : Addr → α → Prop} {rs : List Addr} {zs : List α} (R : Rel P rs zs) : ((rs.zip zs).map fun p => (V.ref p.1, enc p.2)).map (·.1) = rs.map V.ref := by
  rw [List.map_map, show ((fun b : V × PyData => b.1) ∘ fun p : Addr × α => (V.ref p.1, enc p.2)) = V.ref ∘ (·.1) from rfl, ← List.map_map, R.zip.1]
/-- sorted of a list of lots -/
theorem rd_sortLs {r : Addr} {c : List (List (List Str))} (h : LLs H r c) (nd : c.Nodup) (q : ∀ p H' c', Same H H' → LLs H' p c' → c'.Perm c → Asc ld c' → Q (.ref p) H') : rSortedD K [.ref r] H Q := by
  obtain ⟨rs, h1, R⟩ := h
  refine ⟨r, (rs.zip c).map fun p => (V.ref p.1, ld p.2), rfl, ?_, zip_srt R enc_ld (fun _ _ p => p.dp) (fun x => ⟨_, rfl⟩) (fun x => Nat.le_trans (depth_ld x) (by decide)), fun p hp => ?_⟩
  · rw [zip_fst R]
    exact SqL.of h1
  · obtain ⟨rs', c', e, R', pm, asc⟩ := sorted_rel enc_ld R nd rfl
    rw [e]
    have s : Same H (upd H p (.lst (rs'.map V.ref))) := fun b o e => up_old hp e
    exact q p _ c' s ⟨rs', upd_same, R'.mono fun _ _ x => x.same s⟩ pm asc
end
end Lay
/-! LayAK: readings for sets, dicts, lists of lots. -/
namespace Lay
open PySem PySem.Spec PyProof.Rows L2
section
variable {K : PySem.W.Frag} {P : Program} {w : World} {H : Hp} {Q : VK}
theorem zip_self {α β : Type} : ∀ L : List (α × β), (L.map (·.1)).zip (L.map (·.2)) = L
  | [] => rfl
  | p :: L => by rw [List.map_cons, List.map_cons, List.zip_cons_cons, zip_self L]
/-- sorted of a set of pairs -/
theorem rd_sortS {D : Addr} {L : List (Addr × List Str)} (h : H D = some (SetSO P w D L)) (hL : ∀ p ∈ L, PT H p.1 p.2) (q : ∀ p H' ms, Same H H' → PLs H' p ms → Asc pd ms → (∀ k, k ∈ ms ↔ k ∈ L.map (·.2)) → Q (.ref p) H') : rSortedS K P w [.ref D] H Q := by
  have R := Rel.of_pairs (P := PT H) hL
  have srt := zip_srt (K := K) (H := H) R enc_pd (fun _ _ p => p.dp) (fun x => ⟨_, rfl⟩) (fun x => Nat.le_trans (depth_pd x) (by decide))
  rw [zip_self] at srt
  refine ⟨D, L, rfl, h, fun p hp => SqT.of (hL p hp), srt, fun M p pm nd hp => ?_⟩
  have RM := Rel.of_pairs (P := PT H) (l := M) fun p hp => hL p (pm.mem_iff.mp hp)
  obtain ⟨rs', ms, e, R', pm', asc⟩ := sorted_rel enc_pd (bs := M.map kD) RM (((pm.map (·.2)).nodup_iff).mpr nd) (by rw [zip_self]; rfl)
  rw [e]
  have s : Same H (upd H p (.lst (rs'.map V.ref))) := fun b o e => up_old hp e
  exact q p _ ms s ⟨rs', upd_same, R'.mono fun _ _ x => x.same s⟩ asc fun k => pm'.mem_iff.trans (pm.map (·.2)).mem_iff
/-- sorted of a dict of lots -/
theorem rd_sortN {D : Addr} {L : List (Addr × List (List Str))} (h : H D = some (DKO P w D L)) (hL : ∀ p ∈ L, LtT H p.1 p.2) (q : ∀ p H' c, Same H H' → LLs H' p c → Asc ld c → c.Perm (L.map (·.2)) → Q (.ref p) H') : rSortedN K P w [.ref D] H Q := by
  have R := Rel.of_pairs (P := LtT H) hL
  have srt := zip_srt (K := K) (H := H) R enc_ld (fun _ _ p => p.dp) (fun x => ⟨_, rfl⟩) (fun x => Nat.le_trans (depth_ld x) (by decide))
  rw [zip_self] at srt
  refine ⟨D, L, rfl, h, srt, fun p nd hp => ?_⟩
  obtain ⟨rs', ms, e, R', pm', asc⟩ := sorted_rel enc_ld (bs := L.map lD) R nd (by rw [zip_self]; rfl)
  rw [e]
  have s : Same H (upd H p (.lst (rs'.map V.ref))) := fun b o e => up_old hp e
  exact q p _ ms s ⟨rs', upd_same, R'.mono fun _ _ x => x.same s⟩ asc pm'
/-- tuple of a list -/
theorem rd_tupP {r : Addr} {z : List (List Str)} (h : PLs H r z) (q : ∀ p H', Same H H' → LtT H' p z → Q (.ref p) H') : rTupOf K [.ref r] H Q := by
  obtain ⟨rs, h1, R⟩ := h
  refine ⟨r, _, rfl, Or.inl ⟨SqL.of h1, fun l hl => ?_⟩⟩
  have s : Same H (upd H l (.tup (rs.map V.ref))) := fun b o e => up_old hl e
  exact q l _ s ⟨rs, upd_same, R.mono fun _ _ x => x.same s⟩
theorem rd_tupLs {r : Addr} {c : List (List (List Str))} (h : LLs H r c) (q : ∀ p H', Same H H' → LsT H' p c → Q (.ref p) H') : rTupOf K [.ref r] H Q := by
  obtain ⟨rs, h1, R⟩ := h
  refine ⟨r, _, rfl, Or.inl ⟨SqL.of h1, fun l hl => ?_⟩⟩
  have s : Same H (upd H l (.tup (rs.map V.ref))) := fun b o e => up_old hl e
  exact q l _ s ⟨rs, upd_same, R.mono fun _ _ x => x.same s⟩
theorem Rel.refs_at {α : Type} {P : Addr → α → Prop} {rs : List Addr} {z : List α} (R : Rel P rs z) {i : Nat} (hi : i < z.length) : ∃ r, (rs.map V.ref)[i]? = some (.ref r) ∧ (rs.map V.ref).getD i .non = .ref r ∧ P r z[i] := by
  obtain ⟨r, e, p⟩ := R.left (List.getElem?_eq_getElem hi)
  refine ⟨r, by rw [List.getElem?_map, e]; rfl, ?_, p⟩
  rw [List.getD_eq_getElem?_getD, List.getElem?_map, e]
  rfl
theorem Rel.refs_len {α : Type} {P : Addr → α → Prop} {rs : List Addr} {z : List α} (R : Rel P rs z) : (rs.map V.ref).length = z.length := by rw [List.length_map, R.1]
theorem ty_str {z : Str} : TyX K H (.str z) (.type "str") := .base (.str z)
theorem ty_tup {r : Addr} {xs : List V} (h : H r = some (.tup xs)) : TyX K H (.ref r) (.type "tuple") := .base (.tup h)
theorem rd_isStr {z : Str} (q : Q (.bl true) H) : rIsi K [.str z, .ty "str"] H Q := rd_isi ty_str rfl q
theorem rd_isTup {r : Addr} {xs : List V} (h : H r = some (.tup xs)) (q : Q (.bl true) H) : rIsi K [.ref r, .ty "tuple"] H Q := rd_isi (ty_tup h) rfl q
theorem rd_ltD {x y : V} {d e : PyData} (hd : Dp K H x d) (he : Dp K H y e) (al : W.alike d e = true) (nn : d ≠ .none) (dp : d.depth ≤ 20) (q : Q (.bl (W.dataLt d e)) H) : rLtD K x y H Q := ⟨d, e, hd, he, al, nn, dp, q⟩
end
/-- a method of a list, inside a comprehension -/
theorem pe_bmK {X : Cx} {K : PySem.W.Frag} {ob a1 : Expr} {as : List Expr} {tb : TE} {ta : TA} {nm : Str} {q1 q2 : Pos} {T id : String} {r : V → List V → Hp → VK → Prop} (hK : X.K = K) (pl : PlainAttrs T) (sl : Slot T nm id) (ht : typeOf (.builtin id) = pure (.type "method_descriptor")) (hm : MtR X id r) (po : PE X ob tb) (pas : PA X (a1 :: as) ta)
    (z1 : attributeBase ob nm X.env (eval ob X.env) = eval ob X.env := by rfl)
    (z2 : ((((backTo q2 (starEach (a1 :: as) X.env)).all fun y => !y.fst) && (backToKw q2 (keywordEach [] X.env)).all fun y => y.fst.isSome) && decide (((a1 :: as).length + ([] : List Keyword).length + if ([] : List Keyword).isEmpty = true then 0 else 1) < 30)) = true := by rfl)
    (z3 : (q1.endLine == q2.line) = true := by rfl) (z4 : starEach (a1 :: as) X.env = (false, eval a1 X.env) :: starEach as X.env := by rfl) (z5 : ((backTo q2 (starEach as X.env)).any fun y => y.fst) = false := by rfl) : PE X (.Call (.Attribute ob nm q1) (a1 :: as) [] q2) (tBM K T r tb ta) := by
  subst hK
  exact pe_bm pl sl ht hm po pas z1 z2 z3 z4 z5
/-- a tuple that stands as it was made -/
def FzT (H : Hp) (p : Addr) (xs : List V) : Prop := ∃ o : Obj, H p = some (.frz o (.tup xs)) ∧ o.cls = .type "tuple" ∧ o.dict = none
theorem FzT.same {H H' : Hp} {p : Addr} {xs : List V} (s : Same H H') (h : FzT H p xs) : FzT H' p xs := by
  obtain ⟨o, e, r⟩ := h
  exact ⟨o, s _ _ e, r⟩
theorem FzT.sq {K : PySem.W.Frag} {H : Hp} {p : Addr} {xs : List V} (h : FzT H p xs) : SqT K H p xs := by
  obtain ⟨o, e, r⟩ := h
  exact .inl (.inr ⟨o, e⟩)
/-- a method of such a tuple -/
def tTM (r : V → List V → Hp → VK → Prop) (to : TE) (t : TA) : TE := fun σ H Q => to σ H fun x H1 => (∃ p xs, x = .ref p ∧ FzT H1 p xs) ∧ t σ H1 fun ys H2 => r x ys H2 Q
theorem pe_tm {X : Cx} {ob a1 : Expr} {as : List Expr} {tb : TE} {ta : TA} {nm : Str} {q1 q2 : Pos} {id : String} {r : V → List V → Hp → VK → Prop} (sl : Slot "tuple" nm id) (ht : typeOf (.builtin id) = pure (.type "method_descriptor")) (hm : MtR X id r) (po : PE X ob tb) (pas : PA X (a1 :: as) ta)
    (z1 : attributeBase ob nm X.env (eval ob X.env) = eval ob X.env := by rfl)
    (z2 : ((((backTo q2 (starEach (a1 :: as) X.env)).all fun y => !y.fst) && (backToKw q2 (keywordEach [] X.env)).all fun y => y.fst.isSome) && decide (((a1 :: as).length + ([] : List Keyword).length + if ([] : List Keyword).isEmpty = true then 0 else 1) < 30)) = true := by rfl)
    (z3 : (q1.endLine == q2.line) = true := by rfl) (z4 : starEach (a1 :: as) X.env = (false, eval a1 X.env) :: starEach as X.env := by rfl) (z5 : ((backTo q2 (starEach as X.env)).any fun y => y.fst) = false := by rfl) : PE X (.Call (.Attribute ob nm q1) (a1 :: as) [] q2) (tTM r tb ta) := by
  refine ⟨fun pn s σ H Q I h => wpAny_Call_method_late z1 z2 z3 rfl (thn (po.run pn s σ H _ I h) fun v s1 ⟨x, H1, I1, r1, ⟨p, xs, ex, o, e, c, d⟩, q⟩ => ?_)⟩
  subst ex
  cases r1
  have ho : s1.heap.get? p = some o := (I1.hok p _ e).1
  refine ⟨"tuple", id, PySem.F.plainAttrs_tuple, sl, ht, ⟨o, ho, c⟩, (fun a ea => by cases ea; exact ⟨o, ho, d⟩), ?_⟩
  have args := pas.run q2 pn s1 σ H1 _ I1 q
  rw [z4] at args ⊢
  refine Calls.callWith_builtin (by show (false || (backTo q2 (starEach as X.env)).any fun y => y.fst) = false; rw [z5]; rfl) (Calls.evalArgs_plain (thn args fun us s2 ⟨ys, H2, I2, r2, w⟩ => hm pn s2 σ H2 (.ref p) ys (.ref p) us Q I2 rfl r2 w))
theorem rd_TM {r : V → List V → Hp → VK → Prop} {to : TE} {t : TA} {σ : L2.St} {H : Hp} {Q : VK} (q : to σ H fun x H1 => (∃ p xs, x = .ref p ∧ FzT H1 p xs) ∧ t σ H1 fun ys H2 => r x ys H2 Q) : tTM r to t σ H Q := q
/-- tuple(list), the new tuple as it was made -/
def rTupF (K : PySem.W.Frag) : List V → Hp → VK → Prop := fun vs H Q => ∃ p ys, vs = [.ref p] ∧ SqL K H p ys ∧ ∀ l H', Same H H' → FzT H' l ys → Q (.ref l) H'
theorem q_tupF {X : Cx} : CallR X (.type "tuple") (rTupF X.K) := by
  intro pn s σ H vs us Q I r h
  obtain ⟨p, ys, rfl, hq, q⟩ := h
  rw [Vals.ref1 r]
  obtain ⟨its, rv, pl, hz⟩ := I.list hq
  have len := rv.length
  refine call_tuple_list pl.isList (fun h' kp => ?_) (by rw [List.size_toArray, ← len]; exact hz)
  have J : Inv X pn σ H { s with heap := h' } := I.kept (t' := s.toks) kp
  have fr : H h'.objs.size = none := J.hok.fresh (Nat.le_refl _)
  have J2 : Inv X pn σ (upd H h'.objs.size (.frz { cls := .type "tuple", data := .seq its.toArray } (.tup ys))) { s with heap := h'.push { cls := .type "tuple", data := .seq its.toArray } } :=
    J.laid (t' := s.toks) (fun _ _ e => Heap.get?_push_of_some _ e) (Nat.le_refl _) ⟨Heap.get?_push_size _ rfl, hz, its, rv, IsTup.new _ _⟩
  exact ⟨.ref h'.objs.size, _, J2, rfl, q _ _ (fun b o e => up_old fr e) ⟨_, upd_same, rfl, rfl⟩⟩
/-- the members of some lots -/
def MeT (H : Hp) (p : Addr) (ms : List (List Str)) : Prop := ∃ rs : List Addr, FzT H p (rs.map V.ref) ∧ Rel (PT H) rs ms
theorem MeT.same {H H' : Hp} {p : Addr} {ms : List (List Str)} (s : Same H H') (h : MeT H p ms) : MeT H' p ms := by
  obtain ⟨rs, f, R⟩ := h
  exact ⟨rs, f.same s, R.mono fun _ _ x => x.same s⟩
theorem MeT.dp {K : PySem.W.Frag} {H : Hp} {p : Addr} {ms : List (List Str)} (h : MeT H p ms) : Dp K H (.ref p) (ld ms) := by
  obtain ⟨rs, f, R⟩ := h
  exact .tup f.sq (dp_rel (fun _ _ p => p.dp) R)
theorem rd_tupF {K : PySem.W.Frag} {H : Hp} {Q : VK} {r : Addr} {z : List (List Str)} (h : PLs H r z) (q : ∀ p H', Same H H' → MeT H' p z → Q (.ref p) H') : rTupF K [.ref r] H Q := by
  obtain ⟨rs, h1, R⟩ := h
  exact ⟨r, _, rfl, SqL.of h1, fun l H' s f => q l H' s ⟨rs, f, R.mono fun _ _ x => x.same s⟩⟩
end Lay
/-! LayBA: set(t) of a tuple, whatever its items are: what one item more does is all that is asked. -/
namespace Lay
open PySem PySem.Spec PyProof.Rows L2
/-- what stood stands -/
def Old (h h' : Heap) : Prop := ∀ b o, h.get? b = some o → h'.get? b = some o
theorem Old.refl (h : Heap) : Old h h := fun _ _ e => e
theorem Old.trans {a b c : Heap} (x : Old a b) (y : Old b c) : Old a c := fun p o e => y p o (x p o e)
/-- the set as it is made -/
def newSetO (w : World) : Obj := { cls := .type "set", dict := none, data := .set #[] 0 (.fresh 0 0 (!w.params.followText "set-order")) }
/-- the set at S grows by the items -/
structure Grow (P : Program) (w : World) (h0 : Heap) (S : Addr) (items : Array Value) (G : Nat → Heap → Prop) : Prop where
  keep : ∀ i h h', G i h → (∀ o, h.get? S = some o → h'.get? S = some o) → G i h'
  step : ∀ {A : Around} {E : Value → Shared → Prop} {s : Shared} {Q : Bool → Shared → Prop} (i : Nat) (v : Value), A.units + 2 < cLine → items[i]? = some v → G i s.heap → Old h0 s.heap →
    (∀ b h' tk, s.toks ≤ tk → Heap.SameBut S s.heap h' → G (i + 1) h' → Q b { s with heap := h', toks := tk }) → wpAny (model P w) A (setAdd S v) Q E s
section
variable {P : Program} {w : World} {A : Around} {E : Value → Shared → Prop} {s : Shared}
theorem grow_loop {I : Addr} {fp wr : List Addr} {G : Array GenState → Array GenState → Prop} {n : Nat} {Pv : Nat → Value → Prop} {St : Nat → Shared → Prop} {R : Result → Shared → Prop} {h0 : Heap} {items : Array Value} {Gs : Nat → Heap → Prop}
    (W : WalksS P w A.in1 I fp wr G n Pv St) (S : Addr) (hSf : S ∉ fp) (g : Grow P w h0 S items Gs) (hO : ∀ b o, h0.get? b = some o → b ∉ S :: wr) (hn : n = items.size) (u : A.units + 4 < cLine) (hval : ∀ i v, Pv i v → items[i]? = some v) :
    ∀ (k i : Nat) (s : Shared), n - i = k → i ≤ n → St i s → Gs i s.heap → Old h0 s.heap → (∀ s', Moved (S :: wr) G s s' → Gs n s'.heap → R (.ok (.ret .none)) s') →
      codeAny (model P w) A (.builtin "set.update.loop" ⟨[.ref S, .ref I], []⟩) R s := by
  have hSw : S ∉ wr := fun h => hSf (W.sub _ h)
  have grown : ∀ b ∈ wr, b ∈ S :: wr := fun b hb => List.mem_cons_of_mem _ hb
  intro k
  induction k with
  | zero =>
    intro i s hk hi hst hG old hR
    obtain rfl : i = n := by omega
    refine codeAny_builtin F.entry_set_update_loop ?_
    rw [Around.under_plainId F.plain_set_update_loop _]
    show wpAny _ A.in1 (pyNext (.ref I) >>= _) _ _ s
    refine wpAny_bind (W.done s _ _ hst fun s' mv => ?_)
    exact wpAny_pure (hR s' (mv.mono grown) (g.keep _ _ _ hG fun o e => mv.heap S o hSw e))
  | succ k ih =>
    intro i s hk hi hst hG old hR
    have lt : i < n := by omega
    refine codeAny_builtin F.entry_set_update_loop ?_
    rw [Around.under_plainId F.plain_set_update_loop _]
    show wpAny _ A.in1 (pyNext (.ref I) >>= _) _ _ s
    refine wpAny_bind (W.item i s _ _ lt hst fun v s1 hP hst1 mv => ?_)
    have old1 : Old h0 s1.heap := fun b o e => mv.heap b o (fun z => hO b o e (grown b z)) (old b o e)
    show wpAny _ A.in1 (holding [v] (setAdd S v) >>= _) _ _ s1
    refine wpAny_bind (wpAny_holding (g.step i v (by show A.units + 1 + 2 < cLine; omega) (hval i v hP) (g.keep _ _ _ hG fun o e => mv.heap S o hSw e) old1 fun r h2 tk le sb G2 => ?_))
    refine wpAny_pure ⟨plainId_quiet F.plain_set_update_loop _, ih (i + 1) { s1 with heap := h2, toks := tk } (by omega) lt (W.frame _ s1 _ _ hst1 le fun b hb o e => ?_) G2 (fun b o e => ?_) fun s3 mv3 G3 => ?_⟩
    · exact (sb.2 b fun z => hSf (z ▸ hb)).trans e
    · exact (sb.2 b fun z => hO b o e (z ▸ List.mem_cons_self)).trans (old1 b o e)
    · refine hR s3 (Moved.trans W.gtrans ((mv.mono grown).then_heap le fun b o hb e => ?_) mv3) G3
      exact (sb.2 b fun z => hb (z ▸ List.mem_cons_self)).trans e
end
end Lay
/-! LayBB: the call set(t) of a tuple. -/
namespace Lay
open PySem PySem.Spec PyProof.Rows L2
section
variable {P : Program} {w : World} {A : Around} {E : Value → Shared → Prop} {s : Shared}
theorem set_tuple {l : Addr} {items : Array Value} {G : Nat → Heap → Prop} {Q : Value → Shared → Prop} (hh : A.handled = none) (hl : s.heap.IsTuple l items) (u : A.units + 20 < cLine) (g : Grow P w s.heap s.heap.objs.size items G)
    (g0 : ∀ h, h.get? s.heap.objs.size = some (newSetO w) → G 0 h) (h : ∀ h' tk, G items.size h' → Old s.heap h' → Q (.ref s.heap.objs.size) { s with heap := h', toks := tk }) :
    wpAny (model P w) A (call (.type "set") [.ref l]) Q E s := by
  obtain ⟨c, tl, hmro⟩ := F.called_set.mro
  have hmade := F.called_set.made
  have hsub := F.called_set.sub
  refine wpAny_call (codeAny_of_tree ?_)
  show wpAny _ _ (callAny (.type "set") _) _ _ _
  refine wpAny_pure ⟨Code.quiet_builtin _ (by decide +kernel), codeAny_builtin F.entry_type_call ?_⟩
  rw [Around.under_plain (weight_type_call_type "set" [.ref l] []) rfl]
  have k1 := F.called_set.notType
  have k2 := F.called_set.canCreate
  have kc := F.typeCall_set_1 (.ref l)
  repeat (any_goals (first | assumption | wp_step))
  refine codeAny_mono (code_set_led1 (.ref l) (E := E) (Q₁ := fun x t => x = .ref s.heap.objs.size ∧ t = { s with heap := s.heap.push (newSetO w) }) ⟨rfl, rfl⟩) fun r t hr => ?_
  cases r with
  | error e => exact hr
  | ok fl =>
    cases fl with
    | ret x =>
      obtain ⟨rfl, rfl⟩ := hr
      have at0 : (s.heap.push (newSetO w)).get? s.heap.objs.size = some (newSetO w) := Heap.get?_push_size _ rfl
      have ty : Shared.TypeIs { s with heap := s.heap.push (newSetO w) } (.ref s.heap.objs.size) "set" := ⟨_, at0, rfl⟩
      have li := F.called_set.init.lookup
      have bi := F.called_set.init.bind (.ref s.heap.objs.size)
      repeat (any_goals (first | assumption | wp_step))
      refine codeAny_mono (codeAny_call_builtin (R := wants (fun r t2 => r = .none ∧ ∃ h' tk, t2 = { s with heap := h', toks := tk } ∧ G items.size h' ∧ Old s.heap h') E) F.called_set.init.plain F.entry_set_init (check_set_init_1 ty ?_)) fun r2 t2 hr2 => ?_
      · have hlS : l < s.heap.objs.size := by
          obtain ⟨_, e, _⟩ := hl
          exact Heap.lt_size e
        obtain ⟨ol, e1, e2, nl, e3⟩ := hl
        obtain ⟨ocls, odict, odata, oslots⟩ := ol
        simp only at e2 e3
        subst e2; subst e3
        have hol : (s.heap.push (newSetO w)).get? l = some { cls := .type "tuple", dict := odict, data := .seq items nl, slots := oslots } := Heap.get?_push_of_some _ e1
        have hsls := F.sub_tuple_set
        have hslf := F.sub_tuple_frozenset
        have hne : (Value.type "tuple" == Value.type "dict") = false := by decide
        have tup1 : (s.heap.push (newSetO w)).IsTuple l items := ⟨_, hol, rfl, nl, rfl⟩
        unfold Builtin.«set.__init__» noKeywords Builtin.Frozenset.updateFrom
        generalize hPI : pyIter = PI
        wp_walk
        subst hPI
        refine wpAny_pyIter_tuple tup1 ?_
        refine wpAny_bind (wpAny_runValue ?_)
        have hh3 : A.in1.in1.in1.handled = none := by simp [hh]
        have neI : l ≠ (s.heap.push (newSetO w)).objs.size := by
          rw [Heap.size_push]; exact Nat.ne_of_lt (Nat.lt_succ_of_lt hlS)
        have hSf : s.heap.objs.size ∉ [(s.heap.push (newSetO w)).objs.size, l] := by
          rw [Heap.size_push]; simp only [List.mem_cons, List.mem_singleton, List.not_mem_nil, or_false, not_or]
          exact ⟨Nat.ne_of_lt (Nat.lt_succ_self _), Nat.ne_of_gt hlS⟩
        have away : ∀ b o, s.heap.get? b = some o → b ∉ [s.heap.objs.size, (s.heap.push (newSetO w)).objs.size] := fun b o e => by
          have lt := Heap.lt_size e
          rw [Heap.size_push]; simp only [List.mem_cons, List.mem_singleton, List.not_mem_nil, or_false, not_or]
          exact ⟨Nat.ne_of_lt lt, Nat.ne_of_lt (Nat.lt_succ_of_lt lt)⟩
        refine grow_loop ((Walks.tuple hh3 _ l neI items).toS) s.heap.objs.size hSf g away rfl (by show A.units + 1 + 1 + 4 < cLine; omega) (fun i v e => e) (items.size - 0) 0 _ (by omega) (Nat.zero_le _)
          ⟨⟨_, Heap.get?_push_size _ rfl, rfl, rfl⟩, (tup1.push _)⟩ (g0 _ (Heap.get?_push_of_some _ at0)) (fun b o e => Heap.get?_push_of_some _ (Heap.get?_push_of_some _ e)) ?hR
        intro s' mv G'
        obtain ⟨h', g', d', tk', os'⟩ := s'
        have eg : g' = s.gens := mv.gens
        have ed : d' = s.drawn := mv.drawn
        have eo : os' = s.os := mv.os
        subst eg; subst ed; subst eo
        show wpAny _ _ _ _ _ _
        refine wpAny_pure ?_
        show wpAny _ _ (ret Value.none) _ _ _
        exact wpAny_pure ⟨rfl, h', tk', rfl, G', fun b o e => mv.heap b o (away b o e) (Heap.get?_push_of_some _ (Heap.get?_push_of_some _ e))⟩
      · cases r2 with
        | error e => exact hr2
        | ok fl2 =>
          cases fl2 with
          | ret r =>
            obtain ⟨rfl, h', tk, rfl, G', old⟩ := hr2
            repeat (any_goals (first | assumption | wp_step))
            exact h _ _ G' old
          | _ => exact hr2.elim
    | _ => exact hr.elim
end
end Lay
/-! LayBC: len(set(t)) of a tuple of unlike texts, or of unlike tuples of texts. -/
namespace Lay
open PySem PySem.Spec PyProof.Rows L2
theorem isS_old {P : Program} {w : World} {h h' : Heap} {k : List Str} {b : Addr} (x : IsS P w h k b) (o : Old h h') : IsS P w h' k b := by
  obtain ⟨ob, vs, n, e, r⟩ := x
  exact ⟨ob, vs, n, o _ _ e, r⟩
section
variable {P : Program} {w : World} {h0 : Heap} {S : Addr}
theorem grow_strs {xs : List Str} {us : List Value} (r : Vals (xs.map V.str) us) (nd : xs.Nodup) (few : xs.length < 4000) : Grow P w h0 S us.toArray (fun i h => h.SetOf (strKind P w) S (fun k => decide (k ∈ xs.take i)) i) := by
  refine ⟨fun i h h' G k => ?_, fun {A E s Q} i v u hi G old q => ?_⟩
  · obtain ⟨o, es, ep, t, ho, z⟩ := G
    exact ⟨o, es, ep, t, k o ho, z⟩
  · have hi2 : us[i]? = some v := by simpa using hi
    have lt : i < us.length := (List.getElem?_eq_some_iff.mp hi2).1
    have lx : i < xs.length := by have := r.length; rw [List.length_map] at this; omega
    obtain ⟨v', e1, t, e2⟩ := r.get (i := i) (x := .str xs[i]) (by rw [List.getElem?_map, List.getElem?_eq_getElem lx]; rfl)
    rw [hi2] at e1
    cases e1
    subst e2
    unfold setAdd
    refine wpAny_holding (wpAny_bind ((strKind P w).pyHash (k := xs[i]) (strKind_is _ _ _ _) ?_))
    refine wpAny_setAddHashed_of (knd := strKind P w) (s := { s with toks := s.toks + 1 }) (strKind_is _ _ _ _) rfl G (by unfold scanBound; omega) fun h' sb G' => ?_
    have no : xs[i] ∉ xs.take i := fun hm => by
      obtain ⟨j, hj, e⟩ := List.mem_iff_getElem.mp hm
      rw [List.length_take] at hj
      rw [List.getElem_take] at e
      have := (List.nodup_iff_pairwise_ne.mp nd)
      exact List.pairwise_iff_getElem.mp this j i (by omega) lx (by omega) e
    have e2 : xs.take (i + 1) = xs.take i ++ [xs[i]] := by rw [List.take_succ, List.getElem?_eq_getElem lx]; rfl
    refine q _ h' (s.toks + 1) (Nat.le_succ _) sb (SetOf_congr G' (fun k => ?_) ?_)
    · have both : (k ∈ xs.take i ++ [xs[i]]) ↔ (k ∈ xs.take i ∨ k = xs[i]) := by rw [List.mem_append, List.mem_singleton]
      rw [e2, decide_eq_decide.mpr both, Bool.decide_or]
    · rw [decide_eq_false no]
      rfl
theorem refs_vals : ∀ {rs : List Addr} {us : List Value}, Vals (rs.map V.ref) us → us = rs.map Value.ref
  | [], _, .nil => rfl
  | r :: rs, _, .cons x t => by
    cases x
    rw [refs_vals t]
    rfl
theorem nodup_get {α : Type} {xs : List α} (nd : xs.Nodup) {i : Nat} (lx : i < xs.length) : xs[i] ∉ xs.take i := fun hm => by
  obtain ⟨j, hj, e⟩ := List.mem_iff_getElem.mp hm
  rw [List.length_take] at hj
  rw [List.getElem_take] at e
  exact List.pairwise_iff_getElem.mp (List.nodup_iff_pairwise_ne.mp nd) j i (by omega) lx (by omega) e
theorem grow_tups {rs : List Addr} {ks : List (List Str)} (r : Rel (fun a k => IsS P w h0 k a) rs ks) (nd : ks.Nodup) (few : ks.length < 63) :
    Grow P w h0 S (rs.map Value.ref).toArray (fun i h => ∃ L, SetS1 P w S L h ∧ L.length = i ∧ (∀ k, k ∈ L.map (·.2) ↔ k ∈ ks.take i) ∧ ∀ p ∈ L, IsS P w h0 p.2 p.1) := by
  refine ⟨fun i h h' ⟨L, G, z⟩ k => ⟨L, ?_, z⟩, fun {A E s Q} i v u hi ⟨L, G, len, mem, tup⟩ old q => ?_⟩
  · obtain ⟨es, ep, t, ⟨o, e, y⟩, z⟩ := G
    exact ⟨es, ep, t, ⟨o, k o e, y⟩, z⟩
  · have hi2 : (rs.map Value.ref)[i]? = some v := by simpa using hi
    rw [List.getElem?_map] at hi2
    cases e1 : rs[i]? with
    | none => rw [e1] at hi2; cases hi2
    | some a =>
      rw [e1] at hi2
      cases hi2
      obtain ⟨k, e2, hk⟩ := r.right e1
      obtain ⟨lx, ek⟩ := List.getElem?_eq_some_iff.mp e2
      have ka := isS_old hk old
      obtain ⟨es, ep, tb, T⟩ := G.all fun p hp => isS_old (tup p hp) old
      unfold setAdd
      refine wpAny_bind (wpAny_pyHash_tuple (knd := strKind P w) (by show A.units < cLine; omega) ka ?_) |> wpAny_holding
      refine addS (s := { heap := s.heap, gens := s.gens, drawn := s.drawn, toks := s.toks + (k.length + 1), os := s.os }) T ka (by omega) (by omega) fun b h' L' es' ep' tb' sb T' c1 c2 => ?_
      have no : k ∉ L.map (·.2) := fun hm => nodup_get nd lx (by rw [ek]; exact (mem k).mp hm)
      have pm := c2 no
      refine q b h' _ (Nat.le_add_right _ _) sb ⟨L', T'.one, by rw [pm.length_eq, List.length_cons, len], fun k' => ?_, fun p hp => ?_⟩
      · have e3 : ks.take (i + 1) = ks.take i ++ [k] := by rw [List.take_succ, e2]; rfl
        rw [(pm.map (·.2)).mem_iff, List.map_cons, List.mem_cons, mem k', e3, List.mem_append, List.mem_singleton]
        exact Or.comm
      · rcases List.mem_cons.mp (pm.mem_iff.mp hp) with e | e
        · rw [e]
          exact hk
        · exact tup p e
end
/-- len(set(t)), nothing twice in t -/
def tUnl (K : PySem.W.Frag) (ta : TE) : TE := fun σ H Q => ta σ H fun x H1 => ∃ l, x = .ref l ∧ ((∃ xs : List Str, SqT K H1 l (xs.map V.str) ∧ xs.Nodup ∧ xs.length < 4000 ∧ Q (.int (xs.length : Nat)) H1) ∨
  (∃ (rs : List Addr) (ks : List (List Str)), SqT K H1 l (rs.map V.ref) ∧ Rel (PT H1) rs ks ∧ ks.Nodup ∧ ks.length < 63 ∧ Q (.int (ks.length : Nat)) H1))
section
variable {X : Cx}
theorem pe_unl {a : Expr} {ta : TE} {p p2 q pos : Pos} (hu : X.A.units + 64 < cLine) (hc : X.calm = true) (hg : Gl X "len") (hm : X.mg "len" = none) (hg2 : Gl X "set") (hm2 : X.mg "set" = none) (ha : PE X a ta)
    (na : starEach [a] X.env = (false, eval a X.env) :: starEach [] X.env := by rfl) : PE X (.Call (.Name "len" p) [.Call (.Name "set" p2) [a] [] q] [] pos) (tUnl X.K ta) := by
  refine ⟨fun pins s σ H Q I h => ?_⟩
  refine Call_ (ld_blt I hg hm boot_len ?_)
  refine PyProof.Rows.callWith_builtin1 (PyProof.Rows.args_cons ?_ rfl) rfl rfl
  refine Call_ (ld_blt I hg2 hm2 boot_set ?_)
  refine PyProof.Rows.callWith_type1 (PyProof.Rows.args_cons (thn (ha.run pins s σ H _ I h) fun v s1 ⟨x, H1, I1, r1, q1⟩ => PyProof.Rows.args_nil ?_) na) na rfl
  obtain ⟨l, rfl, q1⟩ := q1
  cases r1
  rcases q1 with ⟨xs, hq, nd, few, q1⟩ | ⟨rs, ks, hq, hr, nd, few, q1⟩
  · obtain ⟨its, r, pl, hz⟩ := I1.tuple hq
    have hl : its.toArray.size = xs.length := by rw [List.size_toArray, ← r.length, List.length_map]
    refine set_tuple (I1.ok.hd hc) pl (by omega) (grow_strs r nd few) (fun h e => ?_) fun h' tk G old => ?_
    · exact SetOf_congr ((setObjOf_fresh (knd := strKind X.prog X.w) _).setOf e (by unfold scanBound; omega)) (fun k => by simp) rfl
    · refine PyProof.Rows.args_nil ?_
      rw [hl] at G
      obtain ⟨o, es, ep, t, ho, hex, hd, _, _, _, hf, hn⟩ := G
      have I2 : Inv X pins σ H1 { s1 with heap := h', toks := tk } := I1.kept old
      exact call_len_set ho hex hd hf (by rw [hn] <;> omega) ⟨.int (xs.length : Nat), H1, I2.tok _, ⟨_, by rw [hn]⟩, q1⟩
  · obtain ⟨its, r, pl, hz⟩ := I1.tuple hq
    have ei := refs_vals r
    subst ei
    have lr := hr.1
    refine set_tuple (I1.ok.hd hc) pl (by omega) (grow_tups (ks := ks) (hr.mono fun a k pk => isS_of I1 (SqT.of pk)) nd few) (fun h e => ?_) fun h' tk G old => ?_
    · exact ⟨[], SetS1.fresh X.w e, rfl, fun k => by simp, fun p hp => nomatch hp⟩
    · refine PyProof.Rows.args_nil ?_
      obtain ⟨L, G, len, mem, tup⟩ := G
      have I2 : Inv X pins σ H1 { s1 with heap := h', toks := tk } := I1.kept old
      obtain ⟨es, ep, t, T⟩ := G.all fun p hp => isS_old (tup p hp) old
      have sz := T.size
      obtain ⟨o, ho, hex, hd⟩ := T.ob
      have len2 : L.length = ks.length := by rw [len, List.size_toArray, List.length_map, lr]
      exact call_len_set ho hex hd T.fits (by rw [sz] <;> omega) ⟨.int (ks.length : Nat), H1, I2.tok _, ⟨_, by rw [sz, len2]⟩, q1⟩
end
end Lay
/-! LayBD: min and max of two texts; xs.extend(t) of a tuple; sorted(xs, key=len) of tuples of texts. -/
namespace Lay
open PySem PySem.Spec PyProof.Rows L2
section
variable {P : Program} {w : World} {A : Around} {E : Value → Shared → Prop} {s : Shared}
def two (i j : Str) (n : Nat) : Str := if n = 0 then i else j
theorem two_at {i j : Str} {t u : Tok} (n : Nat) (v : Value) (h : (#[Value.str i t, Value.str j u])[n]? = some v) : ∃ t', v = .str (two i j n) t' := by
  match n, h with
  | 0, h => cases h; exact ⟨t, rfl⟩
  | 1, h => cases h; exact ⟨u, rfl⟩
theorem two_gt {i j : Str} {t u : Tok} : CmpOf P w A .Gt (fun n v => (#[Value.str i t, Value.str j u])[n]? = some v) (fun a b => decide ((two i j b).cps.toList < (two i j a).cps.toList)) := fun a b va vb s Q E ha hb h => by
  obtain ⟨x, rfl⟩ := two_at a va ha
  obtain ⟨y, rfl⟩ := two_at b vb hb
  exact richCompare_gives (op := .Gt) (typeIs_str s _ x) (typeIs_str s _ y) PySem.F.slot_str_gt PySem.F.entry_str_gt (PySem.F.args_str_gt_2 _ _) (PySem.gives_str_gt _ _ x y) (fun z => nomatch z) h
theorem two_lt {i j : Str} {t u : Tok} : CmpOf P w A .Lt (fun n v => (#[Value.str i t, Value.str j u])[n]? = some v) (fun a b => decide ((two i j a).cps.toList < (two i j b).cps.toList)) := fun a b va vb s Q E ha hb h => by
  obtain ⟨x, rfl⟩ := two_at a va ha
  obtain ⟨y, rfl⟩ := two_at b vb hb
  exact richCompare_gives (op := .Lt) (typeIs_str s _ x) (typeIs_str s _ y) PySem.F.slot_str_lt PySem.F.entry_str_lt (PySem.F.args_str_lt_2 _ _) (PySem.gives_str_lt _ _ x y) (fun z => nomatch z) h
theorem away2 {s : Shared} {o1 o2 : Obj} {h' : Heap} (k : ∀ c o, c ∉ [s.heap.objs.size + 1] → ((s.heap.push o1).push o2).get? c = some o → h'.get? c = some o) : ∀ c o, s.heap.get? c = some o → h'.get? c = some o := fun c o e => by
  refine k c o (fun m => ?_) (Heap.get?_push_of_some _ (Heap.get?_push_of_some _ e))
  have lt := Heap.lt_size e
  rw [List.mem_singleton] at m
  rw [m] at lt
  exact Nat.lt_irrefl _ (Nat.lt_of_succ_lt lt)
theorem max_two_strs {i j : Str} {t u : Tok} {Q : Value → Shared → Prop} (hh : A.handled = none) (h : ∀ h' tk, (∀ c o, s.heap.get? c = some o → h'.get? c = some o) → Q (if decide (i.cps.toList < j.cps.toList) = true then .str j u else .str i t) { s with heap := h', toks := tk }) :
    wpAny (model P w) A (call (.builtin "max") [.str i t, .str j u]) Q E s := by
  have hT : (s.heap.push { cls := .type "tuple", data := .seq #[.str i t, .str j u] }).IsTuple s.heap.objs.size #[.str i t, .str j u] := ⟨_, Heap.get?_push_size _ rfl, rfl, 0, rfl⟩
  refine call_max_two (wpAny_pyIter_tuple hT ?_)
  have hsz : (s.heap.push { cls := .type "tuple", data := .seq #[.str i t, .str j u] }).objs.size = s.heap.objs.size + 1 := Heap.size_push ..
  refine ⟨_, [_, s.heap.objs.size], [_], _, _, _, _, rfl, Walks.tuple (A := A.in1) hh _ s.heap.objs.size (by rw [hsz]; exact Nat.ne_of_lt (Nat.lt_succ_self _)) #[.str i t, .str j u],
    ⟨⟨_, Heap.get?_push_size _ rfl, rfl, rfl⟩, hT.push _⟩, fun c hc => ?_, by simp, two_gt, fun v h' tk hP hk => ?_⟩
  · show c < ((s.heap.push _).push _).objs.size
    rw [Heap.size_push, hsz]
    simp only [List.mem_cons, List.not_mem_nil, or_false, hsz] at hc
    rcases hc with rfl | rfl
    · exact Nat.lt_succ_self _
    · exact Nat.lt_succ_of_lt (Nat.lt_succ_self _)
  · have q := h h' tk (away2 (by rw [hsz] at hk; exact hk))
    have e : (if decide (i.cps.toList < j.cps.toList) = true then Value.str j u else Value.str i t) = v := by
      have hP : (#[Value.str i t, Value.str j u])[if decide (i.cps.toList < j.cps.toList) = true then 1 else 0]? = some v := hP
      generalize decide (i.cps.toList < j.cps.toList) = c at hP
      cases c with
      | false => cases hP; rfl
      | true => cases hP; rfl
    rw [e] at q
    exact q
theorem min_two_strs {i j : Str} {t u : Tok} {Q : Value → Shared → Prop} (hh : A.handled = none) (h : ∀ h' tk, (∀ c o, s.heap.get? c = some o → h'.get? c = some o) → Q (if decide (j.cps.toList < i.cps.toList) = true then .str j u else .str i t) { s with heap := h', toks := tk }) :
    wpAny (model P w) A (call (.builtin "min") [.str i t, .str j u]) Q E s := by
  have hT : (s.heap.push { cls := .type "tuple", data := .seq #[.str i t, .str j u] }).IsTuple s.heap.objs.size #[.str i t, .str j u] := ⟨_, Heap.get?_push_size _ rfl, rfl, 0, rfl⟩
  refine call_min_two (wpAny_pyIter_tuple hT ?_)
  have hsz : (s.heap.push { cls := .type "tuple", data := .seq #[.str i t, .str j u] }).objs.size = s.heap.objs.size + 1 := Heap.size_push ..
  refine ⟨_, [_, s.heap.objs.size], [_], _, _, _, _, rfl, Walks.tuple (A := A.in1) hh _ s.heap.objs.size (by rw [hsz]; exact Nat.ne_of_lt (Nat.lt_succ_self _)) #[.str i t, .str j u],
    ⟨⟨_, Heap.get?_push_size _ rfl, rfl, rfl⟩, hT.push _⟩, fun c hc => ?_, by simp, two_lt, fun v h' tk hP hk => ?_⟩
  · show c < ((s.heap.push _).push _).objs.size
    rw [Heap.size_push, hsz]
    simp only [List.mem_cons, List.not_mem_nil, or_false, hsz] at hc
    rcases hc with rfl | rfl
    · exact Nat.lt_succ_self _
    · exact Nat.lt_succ_of_lt (Nat.lt_succ_self _)
  · have q := h h' tk (away2 (by rw [hsz] at hk; exact hk))
    have e : (if decide (j.cps.toList < i.cps.toList) = true then Value.str j u else Value.str i t) = v := by
      have hP : (#[Value.str i t, Value.str j u])[if decide (j.cps.toList < i.cps.toList) = true then 1 else 0]? = some v := hP
      generalize decide (j.cps.toList < i.cps.toList) = c at hP
      cases c with
      | false => cases hP; rfl
      | true => cases hP; rfl
    rw [e] at q
    exact q
end
/-- the greater of two texts, the first one of equal ones -/
def maxS (i j : Str) : Str := if decide (i.cps.toList < j.cps.toList) = true then j else i
def minS (i j : Str) : Str := if decide (j.cps.toList < i.cps.toList) = true then j else i
def rTwo (f : Str → Str → Str) : List V → Hp → VK → Prop := fun xs H Q => ∃ i j, xs = [.str i, .str j] ∧ Q (.str (f i j)) H
theorem rd_two {f : Str → Str → Str} {i j : Str} {H : Hp} {Q : VK} (q : Q (.str (f i j)) H) : rTwo f [V.str i, V.str j] H Q := ⟨i, j, rfl, q⟩
theorem pick2 {c : Bool} {i j : Str} {t u : Tok} : RelV (.str (if c = true then j else i)) (if c = true then Value.str j u else Value.str i t) := by
  cases c with
  | true => exact ⟨u, rfl⟩
  | false => exact ⟨t, rfl⟩
section
variable {X : Cx}
theorem cr_maxS (hc : X.calm = true) : CallR X (.builtin "max") (rTwo maxS) := by
  intro pins s σ H xs us Q I r h
  obtain ⟨i, j, rfl, q⟩ := h
  obtain ⟨v, v', rfl, ⟨t, rfl⟩, ⟨u, rfl⟩⟩ := vals2 r
  exact max_two_strs (I.ok.hd hc) fun h' tk k => ⟨_, H, I.kept k, pick2, q⟩
theorem cr_minS (hc : X.calm = true) : CallR X (.builtin "min") (rTwo minS) := by
  intro pins s σ H xs us Q I r h
  obtain ⟨i, j, rfl, q⟩ := h
  obtain ⟨v, v', rfl, ⟨t, rfl⟩, ⟨u, rfl⟩⟩ := vals2 r
  exact min_two_strs (I.ok.hd hc) fun h' tk k => ⟨_, H, I.kept k, pick2, q⟩
end
section
theorem ext_tup (l : Addr) (its : Array Value) (n : Nat) (b : Addr) (its2 : Array Value) (n2 : Nat) (dd : Option Addr) (sl : Array (Option Value)) (c0 : ¬(!its.isEmpty && Builtin.List.listTooLong (its.size + its2.size)) = true) (c1 : its.size ≤ sizeLine) (c2 : its.size + its2.size ≤ sizeLine + 1) :
    Meets (Builtin.«list.extend» ⟨[.ref l, .ref b], []⟩) (fun _ R s => s.heap.get? l = some { cls := .type "list", dict := none, data := .seq its n, slots := #[] } ∧ s.heap.get? b = some { cls := .type "tuple", dict := dd, data := .seq its2 n2, slots := sl } ∧
      R (.ok (.ret Value.none)) { s with heap := s.heap.update l (Obj.mapSeq fun y => y ++ its2), toks := s.toks }) :=
  .of_wp fun prog w A R s h => by
    obtain ⟨hp, g, d, tk, os⟩ := s
    obtain ⟨g1, g2, h⟩ := h
    have f1 := PySem.AutoSeq1.idx_int
    have f2 := PySem.AutoSeq1.sub_tuple_tuple
    have f3 := PySem.AutoSeq1.sub_list_list
    have f4 := PySem.AutoSeq1.sub_tuple_list
    have f5 := PySem.AutoSeq1.sub_list_tuple
    have z : (its ++ its2).size ≤ sizeLine + 1 := by rw [Array.size_append]; exact c2
    wp_walk using (wpAny_updateSeq g1 rfl (hz := c1) (_hz' := z)), PySem.AutoSeq1.wpAny_loadPart' g1, PySem.AutoSeq1.wpAny_loadPart' g2
    exact ⟨_, rfl, h⟩
end
/-- xs.extend(t) -/
def rExtT : V → List V → Hp → VK → Prop := fun x vs H Q => ∃ l b xs zs, x = .ref l ∧ vs = [.ref b] ∧ H l = some (.lst xs) ∧ H b = some (.tup zs) ∧ xs.length + zs.length ≤ sizeLine ∧ Q .non (upd H l (.lst (xs ++ zs)))
section
variable {X : Cx}
theorem mt_extT : MtR X "list.extend" rExtT := by
  intro pins s σ H x vs v us Q I rx rv h
  obtain ⟨l, b, xs, zs, rfl, rfl, hH, hB, hz, q⟩ := h
  cases rx
  obtain ⟨u, rfl, ru⟩ := rv.one
  cases ru
  obtain ⟨z, its, n, r, hl, e⟩ := I.lstM hH
  obtain ⟨its2, r2, ⟨⟨cls, dd, dt, sl⟩, e2, hc, n2, hd⟩, z2⟩ := I.tuple (SqT.of hB)
  simp only at hc hd
  subst hc
  subst hd
  have l2 := r2.length
  have hsz : its.toArray.size + its2.toArray.size ≤ sizeLine := by rw [List.size_toArray, List.size_toArray]; omega
  have hlong : ¬ (!its.toArray.isEmpty && Builtin.List.listTooLong (its.toArray.size + its2.toArray.size)) = true := by
    rw [notLongL hsz, Bool.and_false]
    exact Bool.false_ne_true
  refine call_meets PySem.F.slot_list_extend ⟨_, e, rfl⟩ PySem.F.entry_list_extend (PySem.F.args_list_extend_2 _ _) (ext_tup l its.toArray n b its2.toArray n2 dd sl hlong (by rw [List.size_toArray]; omega) (by omega)) ⟨e, e2, ?_⟩
  refine ⟨.non, _, I.lset (its' := its ++ its2) hH e (by simp) (r.append r2) ?_, rfl, q⟩
  rw [List.length_append]
  omega
end
theorem rd_extT {l b : Addr} {xs zs : List V} {H : Hp} {Q : VK} (h1 : H l = some (.lst xs)) (h2 : H b = some (.tup zs)) (h3 : xs.length + zs.length ≤ sizeLine) (q : Q .non (upd H l (.lst (xs ++ zs)))) : rExtT (.ref l) [.ref b] H Q := ⟨l, b, xs, zs, rfl, rfl, h1, h2, h3, q⟩
/-- sorted(xs, key=len) of tuples of texts: some order of them -/
def tSortLen (K : PySem.W.Frag) (ta : TE) : TE := fun σ H Q => ta σ H fun x H1 => ∃ (a : Addr) (rs : List Addr) (ks : List (List Str)), x = .ref a ∧ SqL K H1 a (rs.map V.ref) ∧ Rel (PT H1) rs ks ∧ ks.length ≤ 4000 ∧
  ∀ (os : List (Addr × List Str)) (p : Addr), os.Perm (rs.zip ks) → H1 p = none → Q (.ref p) (upd H1 p (.lst ((os.map (·.1)).map V.ref)))
section
variable {X : Cx}
theorem pe_sortLen {e : Expr} {te : TE} {p p2 pos kp : Pos} (hu : X.A.units + 64 < cLine) (hg : Gl X "sorted") (hm : X.mg "sorted" = none) (hg2 : Gl X "len") (hm2 : X.mg "len" = none) (ha : PE X e te)
    (na : starEach [e] X.env = (false, eval e X.env) :: starEach [] X.env := by rfl) : PE X (.Call (.Name "sorted" p) [e] [⟨some "key", .Name "len" p2, kp⟩] pos) (tSortLen X.K te) := by
  refine ⟨fun pins s σ H Q I h => ?_⟩
  refine wpAny_Call_Name_kw (ld_blt I hg hm (show bootBuiltins "sorted" = some (.builtin "sorted") by decide +kernel) ?_)
  refine PyProof.Rows.callWith_kw ?_ (by rw [na]; rfl) (by rw [na]; rfl)
  refine PyProof.Rows.args_cons (thn (ha.run pins s σ H _ I h) fun v s1 ⟨x, H1, I1, r1, q1⟩ => PyProof.Rows.args_nil ?_) na
  obtain ⟨a, rs, ks, rfl, hq, hr, hk, q1⟩ := q1
  cases r1
  show wpAny _ _ (evalAll [do let v ← eval (.Name "len" p2) X.env; standAt pos; pure v]) _ _ s1
  refine wpAny_evalAll_cons (wpAny_bind (ld_blt I1 hg2 hm2 boot_len (wpAny_bind (wpAny_standAt (wpAny_pure ?_)))))
  refine wpAny_evalAll_nil ?_
  obtain ⟨its, rv, hl, hz⟩ := I1.list hq
  have ei := refs_vals rv
  subst ei
  have lr := hr.1
  obtain ⟨z1, z2, z3⟩ := hr.zip
  have each : PySem.W.EachIs (fun (v : Value) (b : Addr × List Str) => v = .ref b.1) (rs.map Value.ref) (rs.zip ks) := by
    have t := PySem.W.EachIs.of (R := fun (v : Value) (b : Addr × List Str) => v = .ref b.1) (zs := (rs.zip ks).map fun b => (Value.ref b.1, b)) (fun q hq => by
      obtain ⟨b, _, rfl⟩ := List.mem_map.mp hq
      rfl)
    rw [List.map_map, List.map_map] at t
    have e1 : (rs.zip ks).map (Prod.fst ∘ fun b => (Value.ref b.1, b)) = rs.map Value.ref := by
      rw [← congrArg (List.map Value.ref) z1, List.map_map]
      rfl
    have e2 : (rs.zip ks).map (Prod.snd ∘ fun b : Addr × List Str => (Value.ref b.1, b)) = rs.zip ks := by
      exact List.map_id' _
    rw [e1, e2] at t
    exact t
  have lz : (rs.zip ks).length ≤ 4000 := by rw [List.length_zip]; omega
  have sl : sizeLine = 16777216 := sizeLine_eq
  refine PySem.W.sorted_key_data (b := false) (f := .builtin "len") (fun b : Addr × List Str => PyData.int b.2.length) hl.isList each (fun d hd d' hd' => ?_) (.inr fun d hd => ?_) (by omega) (fun b hb => ?_) (PyProof.Rows.ksk_s1 _ _) (fun _ => PyProof.Rows.ksk_l1 _ _) (fun x => PyProof.Rows.ksk_t4 "len" x) (fun v b hv hb h tk keep => ?_) fun out c h' tk keep none_ at_ len_ each' => ?_
  · obtain ⟨b, _, rfl⟩ := List.mem_map.mp hd
    obtain ⟨b', _, rfl⟩ := List.mem_map.mp hd'
    rfl
  · obtain ⟨b, _, rfl⟩ := List.mem_map.mp hd
    exact ⟨(fun z => nomatch z), (fun xs z => nomatch z)⟩
  · show X.A.units + 2 + 0 < cLine
    omega
  · subst hv
    obtain ⟨its2, r2, pl, _⟩ := I1.tuple (SqT.of (z3 b hb))
    have e2 : its2.toArray.size = b.2.length := by rw [List.size_toArray, ← r2.length, List.length_map]
    obtain ⟨o, g1, g2, n, g3⟩ := pl
    have fit : ((its2.toArray.size : Nat) : Int) < 2 ^ 63 := by
      obtain ⟨_, _, _, zz⟩ := I1.tuple (SqT.of (z3 b hb))
      rw [List.length_map] at zz
      rw [e2]
      omega
    refine len_tuple (s := { heap := h, gens := s1.gens, drawn := s1.drawn, toks := tk, os := s1.os }) ⟨o, keep _ _ g1, g2, n, g3⟩ fit ⟨h, _, rfl, fun _ _ e => e, ?_⟩
    rw [e2]
    exact .int _ _
  · have go : ∀ {vs : List Value} {bs : List (Addr × List Str)}, PySem.W.EachIs (fun (v : Value) (b : Addr × List Str) => v = .ref b.1) vs bs → vs = bs.map fun b => Value.ref b.1 := fun e => by
      induction e with
      | nil => rfl
      | cons h _ ih => rw [h, ih]; rfl
    have eo := go each'
    have pm := List.mergeSort_perm (rs.zip ks) (PySem.W.dataLe false fun b : Addr × List Str => PyData.int b.2.length)
    generalize (rs.zip ks).mergeSort (PySem.W.dataLe false fun b : Addr × List Str => PyData.int b.2.length) = os at eo pm
    have lo : os.length ≤ 4000 := by rw [pm.length_eq]; exact lz
    refine ⟨.ref _, upd H1 (s1.heap.objs.size + 1) (.lst ((os.map (·.1)).map V.ref)), I1.laid (t' := tk) keep (Nat.le_succ _) ⟨by rw [List.length_map, List.length_map]; omega, out, c, ?_, at_⟩, rfl, q1 os _ pm (I1.hok.fresh (Nat.le_succ _))⟩
    rw [eo, List.map_map]
    clear pm eo lo
    induction os with
    | nil => exact .nil
    | cons b os ih => exact .cons rfl ih
end
end Lay
/-! LayBE: a class of the text: its methods, its properties, its instances made, as promises for all places. -/
namespace Lay
open PySem PySem.Spec PyProof.Rows L2
/-- a method as it stands in the text: name, qualified name -/
structure MthAt (K : PySem.W.Frag) (C : Addr) (m q : Str) (st : Stmt) (ps : List Str) : Prop where
  ex : ∃ (f : Addr) (fd : FuncData), Fun K m q st f fd ∧ Meth K C m f ∧ Binds K fd ps []
/-- its promise -/
structure MthA (P : Program) (w : World) (K : PySem.W.Frag) (mg : Str → Option Value) (base : Heap) (C : Addr) (m : Str) (k : Nat) (ps : List Str) (sp : Sp) : Prop where
  ex : ∃ (f : Addr) (fd : FuncData), FnOk P w K mg base CX0 k f fd ps sp ∧ Meth K C m f ∧ Binds K fd ps []
/-- the class's own maker: __init__ with these defaults behind the values that are given -/
structure MakAt (K : PySem.W.Frag) (mg : Str → Option Value) (C : Addr) (x q : Str) (st : Stmt) (ps : List Str) (dfs : List (List V)) : Prop where
  ex : ∃ (f : Addr) (fd : FuncData), (∀ (P : Program) (w : World) (base : Heap) (N : List Str) (k : Nat) (sp : Sp), FnScope N ps (defScope st) → (∀ vs H Q E, sp vs H Q E → vs.length = ps.length) →
      (∀ (cdv : Value) (A : Around) (outer : List Env) (s : Shared) (H : Hp) (vs : List V) (Q : VK) (E : XK), Room k (A.deeper (envOfC q (defScope st) s.heap.objs.size f cdv)) → sp vs H Q E →
        ∃ t, PSs (cxOf CX0 P w K mg base N q (defScope st) f cdv A outer s H E).nox (defBody st) t ∧ t { nx := fun _ H' => Q .non H', rt := Q } (start N vs) H) → FnOk P w K mg base CX0 (k + 1) f fd ps sp) ∧
    Mk K C f ∧ (∀ dvs ∈ dfs, ∃ ds, Vals dvs ds ∧ Binds K fd ps ds) ∧ mg x = some (.ref C)
structure MakA (P : Program) (w : World) (K : PySem.W.Frag) (mg : Str → Option Value) (base : Heap) (C : Addr) (x : Str) (k : Nat) (ps : List Str) (dfs : List (List V)) (sp : Sp) : Prop where
  ex : ∃ (f : Addr) (fd : FuncData), FnOk P w K mg base CX0 k f fd ps sp ∧ Mk K C f ∧ (∀ dvs ∈ dfs, ∃ ds, Vals dvs ds ∧ Binds K fd ps ds) ∧ mg x = some (.ref C)
/-- a property's promise -/
structure PrpA (P : Program) (w : World) (K : PySem.W.Frag) (mg : Str → Option Value) (base : Heap) (C : Addr) (n : Str) (k : Nat) (sp : Sp) : Prop where
  ex : ∃ (p g : Addr) (fd : FuncData), PropOf K C n p g ∧ FnOk P w K mg base CX0 k g fd ["self"] sp ∧ Binds K fd ["self"] []
section
variable {P : Program} {w : World} {K : PySem.W.Frag} {mg : Str → Option Value} {base : Heap} {C : Addr}
theorem mth_of {m q : Str} {st : Stmt} {N ps : List Str} {k : Nat} {sp : Sp} (D : MthAt K C m q st ps) (S : FnScope N ps (defScope st)) (many : ∀ vs H Q E, sp vs H Q E → vs.length = ps.length)
    (body : ∀ (f : Addr) (cdv : Value) (A : Around) (outer : List Env) (s : Shared) (H : Hp) (vs : List V) (Q : VK) (E : XK), Room k (A.deeper (envOfC q (defScope st) s.heap.objs.size f cdv)) → sp vs H Q E →
      ∃ t, PSs (cxOf CX0 P w K mg base N q (defScope st) f cdv A outer s H E).nox (defBody st) t ∧ t { nx := fun _ H' => Q .non H', rt := Q } (start N vs) H) : MthA P w K mg base C m (k + 1) ps sp := by
  obtain ⟨f, fd, F, m, b⟩ := D.ex
  exact ⟨f, fd, F.ok S many (body f), m, b⟩
theorem mak_of {x q : Str} {st : Stmt} {N ps : List Str} {k : Nat} {sp : Sp} {dfs : List (List V)} (D : MakAt K mg C x q st ps dfs) (S : FnScope N ps (defScope st)) (many : ∀ vs H Q E, sp vs H Q E → vs.length = ps.length)
    (body : ∀ (f : Addr) (cdv : Value) (A : Around) (outer : List Env) (s : Shared) (H : Hp) (vs : List V) (Q : VK) (E : XK), Room k (A.deeper (envOfC q (defScope st) s.heap.objs.size f cdv)) → sp vs H Q E →
      ∃ t, PSs (cxOf CX0 P w K mg base N q (defScope st) f cdv A outer s H E).nox (defBody st) t ∧ t { nx := fun _ H' => Q .non H', rt := Q } (start N vs) H) : MakA P w K mg base C x (k + 1) ps dfs sp := by
  obtain ⟨f, fd, F, m, b, g⟩ := D.ex
  exact ⟨f, fd, F P w base N k sp S many (body f), m, b, g⟩
/-- a maker with no defaults that are wanted -/
theorem mak_at {x q : Str} {st : Stmt} {ps : List Str} {f : Addr} {fd : FuncData} (F : Fun K "__init__" q st f fd) (m : Mk K C f) (b : Binds K fd ps []) (g : mg x = some (.ref C)) : MakAt K mg C x q st ps [[]] :=
  ⟨f, fd, fun P w base N k sp S many body => F.ok S many body, m, fun dvs h => ⟨[], by rw [List.mem_singleton.mp h]; exact .nil, b⟩, g⟩
/-- a maker with defaults -/
theorem mak_atD {x q : Str} {st : Stmt} {ps : List Str} {f : Addr} {fd : FuncData} {dvs : List V} {kws : List (Str × V)} (F : FunD K "__init__" q (defArgs st) (defBody st) (defScope st) dvs kws f fd) (m : Mk K C f) {dfs : List (List V)} (b : ∀ dvs ∈ dfs, ∃ ds, Vals dvs ds ∧ Binds K fd ps ds) (g : mg x = some (.ref C)) :
    MakAt K mg C x q st ps dfs :=
  ⟨f, fd, fun P w base N k sp S many body => F.ok S many fun cdv A outer s H vs Q E hr h => by
    obtain ⟨t, z, y⟩ := body cdv A outer s H vs Q E hr h
    exact ⟨t, z.nox, y⟩, m, b, g⟩
end
section
variable {X : Cx} {C : Addr} {k : Nat} {ps : List Str} {sp : Sp} {m x : Str} {p pos apos : Pos} {o e : Expr} {es : List Expr} {ta : TE} {t : TA}
/-- o.m(e, ..) -/
theorem mc {pl : Sem Bool} (cl : Cls X.K C) (c : MthA X.prog X.w X.K X.mg X.base C m k ps sp) (hr : Room k X.A) (he : PE X o ta) (ha : PA X (e :: es) t)
    (hst : starEach (e :: es) X.env = (false, eval e X.env) :: starEach es X.env := by rfl) (hpl : (backTo pos (starEach es X.env)).any (·.1) = false := by rfl)
    (ht : eval (.Call (.Attribute o m apos) (e :: es) [] pos) X.env = (do
      let ov ← eval o X.env
      standAt apos.atName
      let (f, first) ← holding [ov] (getMethod ov m pl)
      callWith pos f first (backTo pos (starEach (e :: es) X.env)) (backToKw pos (keywordEach [] X.env))) := by rfl) :
    PE X (.Call (.Attribute o m apos) (e :: es) [] pos) (tMeth C m sp [] E0 ta t) := by
  obtain ⟨f, fd, F, hm, b⟩ := c.ex
  exact pe_meth (pl := pl) he cl hm F hr b .nil pass0 ha hst hpl ht
/-- C(e, ..) -/
theorem mkc {dfs : List (List V)} (dvs : List V) (hd : dvs ∈ dfs) (c : MakA X.prog X.w X.K X.mg X.base C x k ps dfs sp) (hr : Room (k + 1) X.A) (hg : Gl X x) (ha : PA X (e :: es) t) (hdb : (x == ("__debug__" : Str)) = false := by decide)
    (he : starEach (e :: es) X.env = (false, eval e X.env) :: starEach es X.env := by rfl) (hpl : (backTo pos (starEach es X.env)).any (·.1) = false := by rfl) : PE X (.Call (.Name x p) (e :: es) [] pos) (tMake C sp dvs E0 t) := by
  obtain ⟨f, fd, F, hm, b, g⟩ := c.ex
  obtain ⟨ds, v, b⟩ := b dvs hd
  exact pe_make hm F hr hg g b v pass0 ha hdb he hpl
/-- o.n, a property -/
theorem ppc (cl : Cls X.K C) (c : PrpA X.prog X.w X.K X.mg X.base C m k sp) (hr : Room (k + 1) X.A) (he : PE X o ta) (hab : attributeBase o m X.env (eval o X.env) = eval o X.env := by rfl) : PE X (.Attribute o m pos) (tProp C sp [] E0 ta) := by
  obtain ⟨p, g, fd, hp, F, b⟩ := c.ex
  exact pe_prop he cl hp F hr b .nil (fun _ _ _ _ _ _ _ h => h.elim) hab
/-- a class as a value -/
theorem pe_own (hg : Gl X x) (h : X.mg x = some (.ref C)) (hd : (x == ("__debug__" : Str)) = false := by decide) : PE X (.Name x pos) (tC (.ref C)) := pe_glob hg h rfl hd
end
/-- what isinstance asks of the class -/
structure InC (K : PySem.W.Frag) (C : Addr) : Prop where
  cl : Cls K C
  cc : PySem.W.findIn K (.ref C) "__class__" = some (some (.builtin "object.__class__"))
  cg : PySem.W.specialIn K (.builtin "object.__class__") "__get__" = some (some (.builtin "getset_descriptor.__get__"))
  ct : PySem.W.takesIn K (.builtin "object.__class__") = some true
  cm : PySem.W.mroIn K C (.type "object") = some true
def rIsC (C : Addr) : List V → Hp → VK → Prop := fun xs H Q => ∃ a dx fs, xs = [.ref a, .ref C] ∧ H a = some (.ins C dx fs) ∧ Q (.bl true) H
theorem kit_self (K : PySem.W.Frag) (C : Addr) : PySem.W.kitOne K (.ref C) (.ref C) = some true := by
  unfold PySem.W.kitOne
  have e : (Value.ref C == Value.ref C) = true := by simp
  rw [if_pos e]
theorem call_isC {X : Cx} {C : Addr} (c : InC X.K C) : CallR X (.builtin "isinstance") (rIsC C) := by
  intro pins s σ H xs us Q I r h
  obtain ⟨a, dx, fs, rfl, ha, q⟩ := h
  obtain ⟨u, v, rfl, ru, rv⟩ := vals2 r
  cases rv
  exact isinst_ok I ru (TyOf.ins ha c.cl c.cc c.cg c.ct c.cm) (kit_self _ _) fun tk => ⟨.bl true, H, I.tok _, rfl, q⟩
/-! what is read -/
section
variable {K : PySem.W.Frag} {C : Addr} {H : Hp} {Q : VK} {σ : L2.St} {sp : Sp} {m : Str} {ta : TE} {t : TA}
theorem rd_meth (q : ta σ H fun x H1 => ∃ a dx fs, x = .ref a ∧ H1 a = some (.ins C dx fs) ∧ fs.lookup m = none ∧ t σ H1 fun vs H2 => sp (x :: vs) H2 Q E0) : tMeth C m sp [] E0 ta t σ H Q := by
  have e : (fun (x : V) (H1 : Hp) => ∃ a dx fs, x = .ref a ∧ H1 a = some (.ins C dx fs) ∧ fs.lookup m = none ∧ t σ H1 fun vs H2 => sp (x :: (vs ++ [])) H2 Q E0) = fun x H1 => ∃ a dx fs, x = .ref a ∧ H1 a = some (.ins C dx fs) ∧ fs.lookup m = none ∧ t σ H1 fun vs H2 => sp (x :: vs) H2 Q E0 := by
    funext x H1
    simp only [List.append_nil]
  show ta σ H _
  rw [e]
  exact q
theorem rd_isC {a dx : Addr} {fs : List (Str × V)} (h : H a = some (.ins C dx fs)) (q : Q (.bl true) H) : rIsC C [.ref a, .ref C] H Q := ⟨a, dx, fs, rfl, h, q⟩
theorem rd_fldK {f : Str} {a dx : Addr} {fs : List (Str × V)} {v : V} {i : Nat} (cl : Cls K C) (n : NoAttr K C f) (hv : σ[i]? = some (some (.ref a))) (h : H a = some (.ins C dx fs)) (l : fs.lookup f = some v) (q : Q v H) : tFld K (tVar i) f σ H Q :=
  ⟨.ref a, hv, a, C, dx, fs, v, rfl, h, cl, n, l, q⟩
end
end Lay
namespace Lay
open PySem PySem.Spec PyProof.Rows L2
/-- o.f within a block -/
theorem fldK {X : Cx} {K : PySem.W.Frag} {e : Expr} {ta : TE} {f : Str} {pos : Pos} (hK : X.K = K) (he : PE X e ta) (hb : attributeBase e f X.env (eval e X.env) = eval e X.env := by rfl) : PE X (.Attribute e f pos) (tFld K ta f) := by
  subst hK
  exact pe_fld he hb
end Lay
/-! LayBF: comprehensions over pairs, with draws, of two clauses. -/
namespace Lay
open PySem PySem.Spec PyProof.Rows L2
section
variable {σ : L2.St} {H H1 : Hp} {Q : VK} {K : PySem.W.Frag}
/-- [f(x, y) for x, y in pairs if b(x, y)], all of it leaving what stands -/
theorem lc_pairs {a E : Addr} {rs : List Addr} {z : List (List Str)} {i1 i2 : Nat} {tt : L2.TT} {te : TE} (hn : z.length ≤ 1000) (hE : H1 E = none) (h : SqT K H1 a (rs.map V.ref)) (R : Rel (PT H1) rs z) (two : ∀ k ∈ z, ∃ x y, k = [x, y])
    (wp : ∀ x y : V, wipe (((wipe σ [i1, i2]).set i1 (some x)).set i2 (some y)) [i1, i2] = wipe σ [i1, i2])
    (I : Nat → List V → Prop) (b : Nat → Bool) (F : Nat → V → Prop) (i0 : I 0 []) (iy : ∀ k v acc, k < z.length → b k = true → F k v → I k acc → I (k + 1) (acc ++ [v])) (ino : ∀ k acc, k < z.length → b k = false → I k acc → I (k + 1) acc) (few : ∀ k acc, I k acc → acc.length ≤ k)
    (ht : ∀ k x y H', z[k]? = some [x, y] → Same H1 H' → ∀ R : Bool → Hp → Prop, (∀ H'', Same H' H'' → R (b k) H'') → tt (((wipe σ [i1, i2]).set i1 (some (.str x))).set i2 (some (.str y))) H' R)
    (he : ∀ k x y H', z[k]? = some [x, y] → b k = true → Same H1 H' → ∀ R : VK, (∀ v H'', Same H' H'' → F k v → R v H'') → te (((wipe σ [i1, i2]).set i1 (some (.str x))).set i2 (some (.str y))) H' R)
    (hd : ∀ acc H', Same H1 H' → I z.length acc → H' E = some (.lst acc) → Q (.ref E) H') : LcAt (Itt K a) (gTup K 2 (gCons (gName i1) (gCons (gName i2) gNil))) tt te [i1, i2] σ E H1 Q := by
  have w := wk_tup (K := K) (a := a) (xs := rs.map V.ref) .non
  have lr := R.1
  have hG : ∀ H', Same H1 H' → SqT K H' a (rs.map V.ref) := fun H' s => by
    rcases h with (h | ⟨o, h⟩) | h
    · exact .inl (.inl (s _ _ h))
    · exact .inl (.inr ⟨o, s _ _ h⟩)
    · exact .inr h
  refine ⟨fun k m H' => m = z.length - k ∧ k ≤ z.length ∧ Same H1 H' ∧ ∃ acc, I k acc ∧ H' E = some (.lst acc), ⟨z.length, rfl, Nat.zero_le _, same_up hE (Same.refl H1), [], i0, upd_same⟩, ?_⟩
  rintro k m H' ⟨rfl, hk, hs, acc, hI, hl⟩
  have small := few k acc hI
  by_cases lt : k < z.length
  · have ltr : k < (rs.map V.ref).length := by rw [List.length_map]; omega
    refine Or.inr ⟨w.go k H' (hG H' hs) ltr, fun H'' => Same H1 H'' ∧ ∃ acc, I (k + 1) acc ∧ H'' E = some (.lst acc), fun H'' h => ⟨z.length - (k + 1), by omega, rfl, lt, h⟩, fun x H2 hy => ?_⟩
    obtain ⟨rfl, rfl⟩ := w.yld k H' x H2 (hG H' hs) ltr hy
    have lk : k < rs.length := by omega
    have er : (rs.map V.ref).getD k .non = .ref rs[k] := by rw [List.getD_eq_getElem?_getD, List.getElem?_map, List.getElem?_eq_getElem lk]; rfl
    rw [er]
    have pk := R.2 k _ _ (List.getElem?_eq_getElem lk) (List.getElem?_eq_getElem lt)
    obtain ⟨u, v, e⟩ := two _ (List.getElem_mem lt)
    have ez : z[k]? = some [u, v] := by rw [List.getElem?_eq_getElem lt, e]
    rw [e] at pk
    refine ⟨rs[k], _, rfl, SqT.of (hs _ _ pk), rfl, ⟨_, _, rfl, rd_name ⟨_, _, rfl, rd_name ⟨rfl, ?_⟩⟩⟩⟩
    refine ⟨wp _ _, ?_⟩
    refine ht k u v H2 ez hs _ fun H3 s3 => ?_
    refine rd_ifb (fun hb => ?_) (fun hb => ?_)
    · refine he k u v H3 ez hb (hs.trans s3) _ fun y H4 s4 hF => ?_
      have e4 := s4 _ _ (s3 _ _ hl)
      refine ⟨acc, e4, Nat.lt_of_le_of_lt (by omega : acc.length ≤ 1000) (by decide), same_up hE ((hs.trans s3).trans s4), acc ++ [y], iy k y acc lt hb hF hI, upd_same⟩
    · exact ⟨hs.trans s3, acc, ino k acc lt hb hI, s3 _ _ hl⟩
  · obtain rfl : k = z.length := by omega
    have st : (Itt K a).stop z.length H' := by
      have := w.stop H' (hG H' hs)
      rw [List.length_map, lr] at this
      exact this
    exact Or.inl ⟨st, hd acc H' hs hI hl⟩
/-- [x for x in .. if draw(bag)], which of them is not told -/
theorem lc_drawn {J : It} {n : Nat} {G : Hp → Prop} {item : Nat → V} (w : Wk J n G item) {i : Nat} {tt : L2.TT} {te : TE} {E a : Addr} (hn : n ≤ 1000) (hE : H1 E = none) (hb : BagAt H1 a) (hG : ∀ H', But a H1 H' → G H') (f : Nat → V)
    (ht : ∀ j, j < n → ∀ H', But a H1 H' → BagAt H' a → ∀ R : Bool → Hp → Prop, (∀ b H'', But a H' H'' → BagAt H'' a → R b H'') → tt ((wipe σ [i]).set i (some (item j))) H' R)
    (he : ∀ j, j < n → ∀ H', But a H1 H' → ∀ R : VK, R (f j) H' → te ((wipe σ [i]).set i (some (item j))) H' R)
    (hd : ∀ (js : List Nat) H', js.Sublist (List.range n) → But a H1 H' → BagAt H' a → H' E = some (.lst (js.map f)) → Q (.ref E) H') : LcAt J (gName i) tt te [i] σ E H1 Q := by
  have nE : E ≠ a := fun z => by
    obtain ⟨_, _, _, e, _⟩ := hb
    rw [← z, hE] at e
    cases e
  refine ⟨fun k m H' => m = n - k ∧ k ≤ n ∧ But a H1 H' ∧ BagAt H' a ∧ ∃ js : List Nat, js.Sublist (List.range k) ∧ H' E = some (.lst (js.map f)), ⟨n, rfl, Nat.zero_le _, But.new hE, BagAt.old hE hb, [], List.nil_sublist _, upd_same⟩, ?_⟩
  rintro k m H' ⟨rfl, hk, bu, hb', js, sub, hl⟩
  have few := sub.length_le
  rw [List.length_range] at few
  by_cases lt : k < n
  · refine Or.inr ⟨w.go k H' (hG H' bu) lt, fun H'' => But a H1 H'' ∧ BagAt H'' a ∧ ∃ js : List Nat, js.Sublist (List.range (k + 1)) ∧ H'' E = some (.lst (js.map f)), fun H'' h => ⟨n - (k + 1), by omega, rfl, lt, h⟩, fun x H2 hy => ?_⟩
    obtain ⟨rfl, rfl⟩ := w.yld k H' x H2 (hG H' bu) lt hy
    refine ⟨wipe1 σ i _, ?_⟩
    refine ht k lt H2 bu hb' _ fun c H3 b3 g3 => ?_
    have e3 := b3 _ _ nE hl
    have bu3 := bu.trans b3
    refine rd_ifb (fun _ => ?_) (fun _ => ?_)
    · refine he k lt H3 bu3 _ ?_
      refine ⟨js.map f, e3, Nat.lt_of_le_of_lt (by rw [List.length_map]; omega : _ ≤ 1000) (by decide), fun b o nb e => ?_, ?_, js ++ [k], ?_, by rw [upd_same, List.map_append]; rfl⟩
      · rw [upd_ne (ne_of_none e hE)]
        exact bu3 b o nb e
      · obtain ⟨g, m, c, e, r⟩ := g3
        exact ⟨g, m, c, up_oth nE.symm e, r⟩
      · rw [List.range_succ]
        exact sub.append (List.Sublist.refl _)
    · refine ⟨bu3, g3, js, ?_, e3⟩
      rw [List.range_succ]
      exact sub.trans (List.sublist_append_left _ _)
  · obtain rfl : k = n := by omega
    exact Or.inl ⟨w.stop H' (hG H' bu), hd js H' sub bu hb' hl⟩
theorem pick_sublist {α : Type} (l : List α) (d : α) {js : List Nat} (h : js.Sublist (List.range l.length)) : (js.map fun j => l.getD j d).Sublist l := by
  have e : (List.range l.length).map (fun i => l.getD i d) = l := by
    refine List.ext_getElem (by rw [List.length_map, List.length_range]) fun i h1 h2 => ?_
    rw [List.getElem_map, List.getElem_range, List.getD_eq_getElem?_getD, List.getElem?_eq_getElem h2]
    rfl
  have z := h.map fun i => l.getD i d
  rw [e] at z
  exact z
end
end Lay
/-! LayBG: sorted(t) of a tuple of data: texts, or tuples. -/
namespace Lay
open PySem PySem.Spec PyProof.Rows L2
/-- all are tuples, or none is a tuple or None -/
def Kind2 (ds : List PyData) : Prop := (∀ d ∈ ds, ∃ xs, d = .tuple xs) ∨ ∀ d ∈ ds, d ≠ .none ∧ ∀ xs, d ≠ .tuple xs
section
variable {prog : Program} {w : World} {A : Around} {E : Value → Shared → Prop} {s : Shared} {β : Type} {R : Value → β → Prop} {enc : β → PyData} {vs : List Value} {bs : List β}
theorem sortG {a : Addr} {n : Nat} {Q : Value → Shared → Prop} (ho : s.heap.get? a = some (seqObj "list" vs.toArray n)) (e : W.EachIs R vs bs) (er : W.EachIs (fun v b => ∃ as, Reads s.heap v (enc b) as ∧ a ∉ as) vs bs) (al : W.AllAlike (bs.map enc)) (ht : Kind2 (bs.map enc))
    (hL : bs.length ≤ sizeLine) (hu : ∀ b ∈ bs, A.units + 1 + (enc b).depth < cLine) (q : ∀ out, W.EachIs R out (bs.mergeSort (W.dataLe false enc)) → Q .none { s with heap := sortedHeap s.heap a vs out.toArray }) : wpAny (model prog w) A (call (.builtin "list.sort") [.ref a]) Q E s := by
  have er' : W.EachIs (fun v b => ∃ as, Reads (W.sortingHeap s.heap a vs) v (enc b) as) vs bs := W.each_keepBut (fun _ _ hb q => W.sortingHeap_old hb q) (fun o q => by rw [ho] at q; rw [← Option.some.inj q]) al er
  have room : ∀ d ∈ bs.map enc, A.units + 1 + d.depth < cLine := fun d hd => by
    obtain ⟨b, hb, rfl⟩ := List.mem_map.mp hd
    exact hu b hb
  have S : W.SortsAt prog w A.in1 { s with heap := W.sortingHeap s.heap a vs } (W.dataKind (W.sortingHeap s.heap a vs) (bs.map enc)) vs := by
    rcases ht with ht | ht
    · exact SortsAt_tups (s := { s with heap := W.sortingHeap s.heap a vs }) (each_map2 er') al ht room
    · exact W.SortsAt.data (s := { s with heap := W.sortingHeap s.heap a vs }) (each_map2 er') al (.inr ht) room
  exact wpAny_call_entry PySem.F.slot_list_sort ⟨_, ho, rfl⟩ PySem.F.entry_list_sort (W.list_sort_vals ho S (by rw [e.length]; exact hL) ⟨.none, rfl, q _ (W.sortVals_data false e er' al)⟩) (PySem.F.args_list_sort_1 _)
theorem sorted_colG {x : Value} {Z : List β → Prop} {Q : Value → Shared → Prop}
    (col : ∀ (Q' : List Value → Shared → Prop), (∀ vs s1 bs, (∀ b o, s.heap.get? b = some o → s1.heap.get? b = some o) → s1.gens = s.gens → s1.os = s.os → W.EachIs R vs bs → Z bs → Q' vs s1) → wpAny (model prog w) A.in1 (collect x) Q' E s)
    (zl : ∀ vs bs, Z bs → W.EachIs R vs bs → bs.length ≤ sizeLine ∧ W.AllAlike (bs.map enc) ∧ W.EachIs (fun v b => ∃ as, Reads s.heap v (enc b) as) vs bs ∧ Kind2 (bs.map enc) ∧ ∀ b ∈ bs, (enc b).depth ≤ 20) (hu : A.units + 64 < cLine)
    (q : ∀ s' p bs, Z bs → SortedAt s R (bs.mergeSort (W.dataLe false enc)) s' p → Q (.ref p) s') : wpAny (model prog w) A (call (.builtin "sorted") [x]) Q E s := by
  refine Calls.call_function_entry kind_sorted plain_sorted entry_sorted (args_sorted1 _) ?_
  unfold Builtin.«sorted»
  refine wpAny_bind (m := checkCount "sorted" 1 1 _) (wpAny_pure (wpAny_bind (col _ fun vs s1 bs keep hg ho e z => ?_)))
  obtain ⟨z1, z2, z3, z4, z5⟩ := zl vs bs z e
  refine wpAny_bind (wpAny_newList ?_ (by rw [e.length]; exact z1))
  have at_ : (s1.heap.push (seqObj "list" vs.toArray 0)).get? s1.heap.objs.size = some (seqObj "list" vs.toArray 0) := Heap.get?_push_size _ rfl
  have er : W.EachIs (fun v b => ∃ as, Reads (s1.heap.push (seqObj "list" vs.toArray 0)) v (enc b) as ∧ s1.heap.objs.size ∉ as) vs bs := by
    refine W.EachIs.mono (fun v b ⟨as, r⟩ => ⟨as, Reads.keeps (fun b o e => Heap.get?_push_of_some _ (keep b o e)) r, fun y => ?_⟩) z3
    obtain ⟨o, e⟩ := PyProof.On.reads_mem_get r _ y
    exact absurd (Heap.lt_size (keep _ _ e)) (Nat.lt_irrefl _)
  refine wpAny_bind (wpAny_holding (sortG (A := A.in1) (s := { s1 with heap := s1.heap.push (seqObj "list" vs.toArray 0) }) at_ e er z2 z4 z1 (fun b hb => ?_) fun out eo => ?_))
  · have := z5 b hb
    show A.units + 1 + 1 + (enc b).depth < cLine
    omega
  · obtain ⟨c, hc⟩ := sortedHeap_at (vs := vs) (out := out.toArray) at_
    have old2 : ∀ b u, s1.heap.get? b = some u → (sortedHeap (s1.heap.push (seqObj "list" vs.toArray 0)) s1.heap.objs.size vs out.toArray).get? b = some u := fun b u old => ?_
    refine wpAny_pure ⟨_, rfl, q _ s1.heap.objs.size bs z ⟨fun b u e => old2 b u (keep b u e), hg, ho, ⟨s1.heap, keep, old2, Nat.le_refl _⟩, out, c, hc, eo⟩⟩
    have lt := Heap.lt_size old
    show (sortedHeap (s1.heap.push (seqObj "list" vs.toArray 0)) s1.heap.objs.size vs out.toArray).get? b = some u
    rw [sortedHeap_old (Nat.ne_of_lt lt) (by rw [size_push']; exact Nat.lt_succ_of_lt lt)]
    exact Heap.get?_push_of_some _ old
end
/-- what is sorted: told, alike, of one kind -/
structure SrtG (K : PySem.W.Frag) (H : Hp) (bs : List (V × PyData)) : Prop where
  dp : ∀ b ∈ bs, Dp K H b.1 b.2
  kind : Kind2 (bs.map (·.2))
  al : W.AllAlike (bs.map (·.2))
  dep : ∀ b ∈ bs, b.2.depth ≤ 20
/-- sorted(t), t a tuple -/
def rSortTG (K : PySem.W.Frag) : List V → Hp → VK → Prop := fun vs H Q => ∃ (a : Addr) (bs : List (V × PyData)), vs = [V.ref a] ∧ SqT K H a (bs.map (·.1)) ∧ SrtG K H bs ∧ ∀ p, H p = none → Q (.ref p) (upd H p (.lst ((bs.mergeSort (W.dataLe false (·.2))).map (·.1))))
section
variable {X : Cx}
theorem cr_sortTG (hu : X.A.units + 64 < cLine) : CallR X (.builtin "sorted") (rSortTG X.K) := by
  intro pn s σ H vs us Q I r h
  obtain ⟨a, bs, rfl, hs, S, q⟩ := h
  obtain ⟨its, rv, pl, hz⟩ := I.tuple hs
  rw [Vals.ref1 r]
  rw [List.length_map] at hz
  have e := each_vals rv
  refine sorted_colG (Z := fun z => z = bs) (enc := (·.2)) (R := fun v b => RelV b.1 v) (fun Q' q' => ?_) (fun vs bs' z e' => ?_) hu fun s' p bs' z so => ?_
  · obtain ⟨o, g1, g2, n, g3⟩ := pl
    refine wpAny_collect_seq a (.inr rfl) g1 g2 g3 (fun h' k => ?_) (by rw [List.size_toArray, e.length]; exact hz)
    exact q' _ { s with heap := h' } bs k rfl rfl (by simpa using e) rfl
  · subst z
    exact ⟨hz, S.al, each_reads I S.dp e', S.kind, S.dep⟩
  · subst z
    exact sorted_end I so (by rw [sort_len]; exact hz) fun hn => q p hn
end
/-- what is ascending is left -/
theorem sort_id {bs : List (V × PyData)} (h : bs.Pairwise fun a b => W.dataLt a.2 b.2 = true) : bs.mergeSort (W.dataLe false (·.2)) = bs :=
  List.mergeSort_of_pairwise (h.imp fun {a b} hab => by rw [W.dataLe_eq]; show (!W.dataLt b.2 a.2) = true; rw [dlt_asym hab]; rfl)
section
variable {K : PySem.W.Frag} {H : Hp} {Q : VK} {a : Addr}
/-- ascending texts -/
theorem rd_sortTZ {xs : List Str} (h : SqT K H a (xs.map V.str)) (asc : Asc PyData.str xs) (q : ∀ p, H p = none → Q (.ref p) (upd H p (.lst (xs.map V.str)))) : rSortTG K [.ref a] H Q := by
  have e1 : (xs.map fun z => (V.str z, PyData.str z)).map (·.1) = xs.map V.str := by rw [List.map_map]; rfl
  have e2 : (xs.map fun z => (V.str z, PyData.str z)).map (·.2) = xs.map PyData.str := by rw [List.map_map]; rfl
  refine ⟨a, xs.map fun z => (V.str z, PyData.str z), rfl, by rw [e1]; exact h, ⟨fun b hb => ?_, ?_, ?_, fun b hb => ?_⟩, fun p hp => ?_⟩
  · obtain ⟨z, _, rfl⟩ := List.mem_map.mp hb
    exact .str z
  · rw [e2]
    refine .inr fun d hd => ?_
    obtain ⟨z, _, rfl⟩ := List.mem_map.mp hd
    exact ⟨(fun y => nomatch y), (fun xs y => nomatch y)⟩
  · rw [e2]
    intro d hd d' hd'
    obtain ⟨z, _, rfl⟩ := List.mem_map.mp hd
    obtain ⟨z', _, rfl⟩ := List.mem_map.mp hd'
    rfl
  · obtain ⟨z, _, rfl⟩ := List.mem_map.mp hb
    exact Nat.zero_le _
  · rw [sort_id (List.pairwise_map.mpr asc), e1]
    exact q p hp
/-- ascending pairs -/
theorem rd_sortTP {rs : List Addr} {z : List (List Str)} (h : SqT K H a (rs.map V.ref)) (R : Rel (PT H) rs z) (asc : Asc pd z) (q : ∀ p, H p = none → Q (.ref p) (upd H p (.lst (rs.map V.ref)))) : rSortTG K [.ref a] H Q := by
  obtain ⟨z1, z2, z3⟩ := R.zip
  have e1 : ((rs.zip z).map fun b => (V.ref b.1, pd b.2)).map (·.1) = rs.map V.ref := by rw [List.map_map, ← congrArg (List.map V.ref) z1, List.map_map]; rfl
  have e2 : ((rs.zip z).map fun b => (V.ref b.1, pd b.2)).map (·.2) = z.map pd := by rw [List.map_map, ← congrArg (List.map pd) z2, List.map_map]; rfl
  refine ⟨a, (rs.zip z).map fun b => (V.ref b.1, pd b.2), rfl, by rw [e1]; exact h, ⟨fun b hb => ?_, ?_, ?_, fun b hb => ?_⟩, fun p hp => ?_⟩
  · obtain ⟨c, hc, rfl⟩ := List.mem_map.mp hb
    exact PT.dp (z3 c hc)
  · rw [e2]
    refine .inl fun d hd => ?_
    obtain ⟨k, _, rfl⟩ := List.mem_map.mp hd
    exact ⟨_, rfl⟩
  · rw [e2]
    intro d hd d' hd'
    obtain ⟨k, _, rfl⟩ := List.mem_map.mp hd
    obtain ⟨k', _, rfl⟩ := List.mem_map.mp hd'
    exact enc_pd.al k k'
  · obtain ⟨c, hc, rfl⟩ := List.mem_map.mp hb
    exact Nat.le_trans (depth_pd _) (by decide)
  · have pw : ((rs.zip z).map fun b => (V.ref b.1, pd b.2)).Pairwise fun a b => W.dataLt a.2 b.2 = true := by
      have : (((rs.zip z).map fun b => (V.ref b.1, pd b.2)).map (·.2)).Pairwise fun a b => W.dataLt a b = true := by
        rw [e2]
        exact List.pairwise_map.mpr asc
      exact List.pairwise_map.mp this
    rw [sort_id pw, e1]
    exact q p hp
end
end Lay
/-! LayCA: == and != of tuples of dicts, and of dicts whose keys are tuples. -/
namespace Lay
open PySem PySem.Spec PyProof.Rows L2
open AutoSeq1 (wpAny_loadPart')
open PySem.SeqAt (EqIn EqP EqAt rcIn_tuples)
open MeetsSeq MeetsSeq2 MeetsSeq3 SeqRoads2 in
theorem tuple_neIn {prog : Program} {w : World} (l b : Addr) (us ws : Array Value) (n n2 : Nat) (di di2 : Option Addr) (so so2 : Array (Option Value)) (e : Nat → Bool) :
    MeetsIn prog w (Builtin.«tuple.__ne__» ⟨[.ref l, .ref b], []⟩)
      (fun A R s => s.heap.get? l = some { cls := .type "tuple", dict := di, data := .seq us n, slots := so } ∧ s.heap.get? b = some { cls := .type "tuple", dict := di2, data := .seq ws n2, slots := so2 } ∧
        (∀ j (h1 : j < us.size) (h2 : j < ws.size), EqIn prog w A.in1 s us[j] ws[j] (e j)) ∧
        R (.ok (.ret (.bool (!((List.range (min us.size ws.size)).all e && us.size == ws.size))))) s) :=
  .of_wp fun A R s h => by
    obtain ⟨hp, g, d, tk, os⟩ := s; obtain ⟨gl, gb, ge, h⟩ := h
    have f2 := AutoSeq1.sub_tuple_tuple
    have eZ : (us.toList.zip ws.toList).length = min us.size ws.size := by simp
    wp_walk using wpAny_loadPart' gl, wpAny_loadPart' gb, wpAny_forIn_list _ (fun more b s' => b.1 = none ∧ s' = ⟨hp, g, d, tk, os⟩ ∧ ∃ i, more = (us.toList.zip ws.toList).drop i ∧
      R (.ok (.ret (.bool (!(((List.range (min us.size ws.size)).drop i).all e && us.size == ws.size))))) ⟨hp, g, d, tk, os⟩) _
    case turn =>
      rintro ⟨y, x⟩ more b s' ⟨gb', rfl, i, gz, gR⟩
      have glt : i < (us.toList.zip ws.toList).length := by
        rcases Nat.lt_or_ge i (us.toList.zip ws.toList).length with k' | k'
        · exact k'
        · rw [List.drop_of_length_le k'] at gz; cases gz
      have gm : i < min us.size ws.size := eZ ▸ glt
      have h1 : i < us.size := Nat.lt_of_lt_of_le gm (Nat.min_le_left _ _)
      have h2 : i < ws.size := Nat.lt_of_lt_of_le gm (Nat.min_le_right _ _)
      rw [List.drop_eq_getElem_cons glt] at gz
      injection gz with eyx emore
      have ey : y = us[i] := by have := congrArg Prod.fst eyx; simpa using this
      have ex : x = ws[i] := by have := congrArg Prod.snd eyx; simpa using this
      subst ey ex
      have gd : (List.range (min us.size ws.size)).drop i = i :: (List.range (min us.size ws.size)).drop (i + 1) := by simp [List.drop_eq_getElem_cons, gm]
      rw [gd, List.all_cons] at gR
      refine wpAny_bind (ge i h1 h2 _ _ ?_)
      cases ey : e i with
      | true =>
        rw [ey] at gR
        wp_walk
        exact ⟨rfl, rfl, i + 1, emore, by simpa using gR⟩
      | false =>
        rw [ey] at gR
        wp_walk
        exact ⟨_, rfl, by simpa using gR⟩
    case fin =>
      rintro ⟨b1, b2⟩ s' ⟨gb', rfl, i, gz, gR⟩
      simp only at gb'
      subst gb'
      have gge : min us.size ws.size ≤ i := by
        rcases Nat.lt_or_ge i (us.toList.zip ws.toList).length with k' | k'
        · rw [List.drop_eq_getElem_cons k'] at gz; cases gz
        · exact eZ ▸ k'
      rw [List.drop_of_length_le (by simpa using gge)] at gR
      wp_walk
      exact ⟨_, rfl, by simpa [Builtin.Tuple.tupleCompareSizes, bne] using gR⟩
    case h =>
      exact ⟨rfl, rfl, 0, rfl, by simpa using h⟩
theorem rcNeIn_tuples {prog : Program} {w : World} {A : Around} {s : Shared} {E : Value → Shared → Prop} {l b : Addr} {us ws : Array Value} {e : Nat → Bool} {Q : Value → Shared → Prop} (gl : s.heap.IsTuple l us) (gb : s.heap.IsTuple b ws) (ru : A.units < cLine)
    (ge : ∀ j (h1 : j < us.size) (h2 : j < ws.size), EqIn prog w A.in1 s us[j] ws[j] (e j)) (h : Q (.bool (!((List.range (min us.size ws.size)).all e && us.size == ws.size))) s) :
    wpAny (model prog w) A (richCompare .NotEq (.ref l) (.ref b)) Q E s := by
  obtain ⟨⟨cl1, di, dat, so⟩, qo, qc, n, gd⟩ := id gl
  obtain ⟨⟨cl2, di2, dat2, so2⟩, qo2, qc2, n2, gd2⟩ := id gb
  simp only at qc gd qc2 gd2
  subst qc gd qc2 gd2
  exact wpAny_richCompare_same_room (T := "tuple") (op := .NotEq) ⟨_, qo, rfl⟩ ⟨_, qo2, rfl⟩ F.slot_tuple_ne (call_meetsIn F.slot_tuple_ne ⟨_, qo, rfl⟩ F.entry_tuple_ne (F.args_tuple_ne_2 _ _) (tuple_neIn l b us ws n n2 di di2 so so2 e)
    ⟨qo, qo2, ge, show Value.bool (!((List.range (min us.size ws.size)).all e && us.size == ws.size)) ≠ Value.notImplemented ∧ Q (.bool (!((List.range (min us.size ws.size)).all e && us.size == ws.size))) s from ⟨(fun x => nomatch x), h⟩⟩) ru
/-- two dicts with the same keys in the same order, keys on the heap -/
theorem samePairsH {prog : Program} {w : World} {K : Type} [DecidableEq K] {knd : HeapKind prog w K} {A : Around} {E : Value → Shared → Prop} {s : Shared} {nm : String} {a b : Addr} {xs ys : List (K × Addr × Value)} {e : Nat → Bool} {Q : Bool → Shared → Prop} (ru : knd.room A) (ha : (a == sysModules) = false) (gb : (b == sysModules) = false)
    (da : s.heap.DictOfH knd a xs) (db : s.heap.DictOfH knd b ys) (ke : xs.map (·.1) = ys.map (·.1)) (hits : ∀ (i : Nat) (x y : K × Addr × Value), xs[i]? = some x → ys[i]? = some y → EqP prog w A s x.2.2 y.2.2 (e i)) (h : Q ((List.range xs.length).all e) s) :
    wpAny (model prog w) A (Builtin.Dict.samePairs nm a b) Q E s := by
  obtain ⟨oa, es, ep, toa, _, tda, tka, tia, tna⟩ := da
  obtain ⟨ob, es', ep', tob, _, tdb, tkb, tib, tnb⟩ := db
  have tla : xs.length = es.size := by rw [← Array.length_toList, tka, List.length_map]
  have tlb : ys.length = es'.size := by rw [← Array.length_toList, tkb, List.length_map]
  have tll : xs.length = ys.length := by
    have := congrArg List.length ke
    rwa [List.length_map, List.length_map] at this
  have esz : es.size = es'.size := by omega
  unfold Builtin.Dict.samePairs Builtin.Dict.showsAll
  rw [if_neg (show ¬ (a == sysModules) = true by rw [ha]; exact Bool.false_ne_true), if_neg (show ¬ (b == sysModules) = true by rw [gb]; exact Bool.false_ne_true)]
  refine wpAny_bind (wpAny_pure (wpAny_bind (wpAny_pure ?_)))
  refine wpAny_bind (wpAny_dictEntries toa tda ?_)
  dsimp only
  refine wpAny_bind (wpAny_dictEntries tob tdb ?_)
  rw [if_neg (by rw [esz]; simp)]
  refine wpAny_bind (wpAny_dictEpoch toa tda ?_)
  refine wpAny_bind ?_
  rw [Std.Legacy.Range.forIn_eq_forIn_range']
  simp only [Std.Legacy.Range.size, Nat.sub_zero, Nat.add_sub_cancel, Nat.div_one]
  refine wpAny_forIn_list _
    (fun more q s' => s' = s ∧ q = (none, ()) ∧ ∃ i, more = List.range' i (es.size - i) ∧ i ≤ es.size ∧ Q (((List.range xs.length).drop i).all e) s)
    _ ?_ ?_ _ _ ⟨rfl, rfl, 0, by simp, Nat.zero_le _, h⟩
  · rintro x more q s' ⟨rfl, rfl, i, gr, gi, gQ⟩
    have glt : i < es.size := by
      rcases Nat.lt_or_ge i es.size with h | h
      · exact h
      · rw [Nat.sub_eq_zero_of_le h] at gr; simp at gr
    obtain ⟨rfl, emore⟩ : x = i ∧ more = List.range' (i + 1) (es.size - (i + 1)) := by
      have e : es.size - i = (es.size - (i + 1)) + 1 := by omega
      rw [e, List.range'_succ] at gr
      injection gr with h1 h2
      exact ⟨h1, h2⟩
    have lx : x < xs.length := by omega
    have ly : x < ys.length := by omega
    have gd : (List.range xs.length).drop x = x :: (List.range xs.length).drop (x + 1) := by simp [List.drop_eq_getElem_cons, lx]
    rw [gd, List.all_cons] at gQ
    have ee : es[x] = entryOfKey knd xs[x] := by
      have := entry_at tka x
      rw [Array.getElem?_eq_getElem glt, List.getElem?_eq_getElem lx] at this
      exact Option.some.inj this
    have kk : (ys[x]).1 = (xs[x]).1 := by
      have : (xs.map (·.1))[x]? = (ys.map (·.1))[x]? := by rw [ke]
      rw [List.getElem?_map, List.getElem?_map, List.getElem?_eq_getElem lx, List.getElem?_eq_getElem ly] at this
      exact (Option.some.inj this).symm
    refine wpAny_bind (wpAny_dictEntries toa tda ?_)
    rw [Array.getElem?_eq_getElem glt, ee]
    show wpAny _ _ (holding [Value.ref xs[x].2.1, xs[x].2.2] _ >>= _) _ _ _
    refine wpAny_bind (wpAny_holding (wpAny_bind (wpAny_dictFind_heap ru (tia _ (List.getElem_mem lx)) tob tdb tkb tib tnb ?_ ?_)))
    · intro hn
      exact absurd (show ys[x]? = some (xs[x].1, ys[x].2) by rw [List.getElem?_eq_getElem ly, ← kk]) (hn x _)
    · intro j p tj
      obtain rfl : j = x := idxH_unique tnb (q := ys[x].2) tj (show ys[x]? = some (xs[x].1, ys[x].2) by rw [List.getElem?_eq_getElem ly, ← kk])
      have tj' : ys[j]? = some ys[j] := List.getElem?_eq_getElem ly
      have tjl : j < es'.size := by omega
      have ee' : es'[j] = entryOfKey knd ys[j] := by
        have := entry_at tkb j
        rw [Array.getElem?_eq_getElem tjl, List.getElem?_eq_getElem ly] at this
        exact Option.some.inj this
      refine wpAny_bind (wpAny_dictEntries tob tdb ?_)
      rw [Array.getElem?_eq_getElem tjl, ee']
      refine wpAny_holding (hits j _ _ (List.getElem?_eq_getElem lx) tj' _ _ ?_)
      cases ge : e j with
      | false =>
        rw [ge, Bool.false_and] at gQ
        show wpAny _ _ (if (!false) = true then _ else _) _ _ _
        rw [if_pos (by decide)]
        exact wpAny_pure (wpAny_pure gQ)
      | true =>
        rw [ge, Bool.true_and] at gQ
        show wpAny _ _ (if (!true) = true then _ else _) _ _ _
        rw [if_neg (by decide)]
        refine wpAny_bind (wpAny_dictEpoch toa tda ?_)
        rw [if_neg (by simp)]
        exact wpAny_pure ⟨rfl, rfl, j + 1, emore, by omega, gQ⟩
  · rintro q s' ⟨rfl, rfl, i, gr, gi, gQ⟩
    have gin : i = es.size := by
      rcases Nat.lt_or_ge i es.size with h | h
      · have e : es.size - i = (es.size - (i + 1)) + 1 := by omega
        rw [e, List.range'_succ] at gr; exact nomatch gr
      · exact Nat.le_antisymm gi h
    refine wpAny_pure ?_
    rw [gin, ← tla, List.drop_of_length_le (by simp)] at gQ
    exact gQ
theorem DictOfH.typed {prog : Program} {w : World} {K : Type} [DecidableEq K] {knd : HeapKind prog w K} {s : Shared} {a : Addr} {xs : List (K × Addr × Value)} (d : s.heap.DictOfH knd a xs) : s.TypeIs (.ref a) "dict" := Heap.DictOfH.typeIs d
theorem rcH_dicts {prog : Program} {w : World} {K : Type} [DecidableEq K] {knd : HeapKind prog w K} {A : Around} {s : Shared} {a b : Addr} {xs ys : List (K × Addr × Value)} {e : Nat → Bool} (ru : A.units < cLine) (gr : knd.room A.in1) (ha : (a == sysModules) = false) (gb : (b == sysModules) = false)
    (da : s.heap.DictOfH knd a xs) (db : s.heap.DictOfH knd b ys) (ke : xs.map (·.1) = ys.map (·.1)) (hits : ∀ (i : Nat) (x y : K × Addr × Value), xs[i]? = some x → ys[i]? = some y → EqP prog w A.in1 s x.2.2 y.2.2 (e i)) (E Q : Value → Shared → Prop) (h : Q (.bool ((List.range xs.length).all e)) s) :
    wpAny (model prog w) A (richCompare .Eq (.ref a) (.ref b)) Q E s := by
  refine wpAny_richCompare_same_room (op := .Eq) da.typeIs db.typeIs PySem.F.slot_dict_eq (wpAny_call_entry PySem.F.slot_dict_eq da.typeIs PySem.F.entry_dict_eq ?_ (PySem.F.args_dict_eq_2 _ _)) ru
  show wpAny _ _ (Builtin.Dict.dictSlotArgs "__eq__" ⟨[.ref a, .ref b], []⟩ >>= _) _ _ s
  refine wpAny_bind ?_
  unfold Builtin.Dict.dictSlotArgs
  refine wpAny_bind (wpAny_notOrdered_dict da.typeIs ?_)
  show wpAny _ _ (pure (Value.ref a, Value.ref b)) _ _ s
  refine wpAny_pure ?_
  refine wpAny_bind (wpAny_isInstance (T := "dict") db.typeIs PySem.F.sub_dict_dict ?_)
  simp only [Bool.not_true, Bool.false_eq_true, if_false]
  refine wpAny_bind (wpAny_pure (wpAny_bind (wpAny_pure ?_)))
  refine wpAny_bind (samePairsH (e := e) gr ha gb da db ke hits ?_)
  refine wpAny_pure ⟨_, rfl, ?_, ?_⟩
  · exact fun x => nomatch x
  · simpa using h
theorem rcNeH_dicts {prog : Program} {w : World} {K : Type} [DecidableEq K] {knd : HeapKind prog w K} {A : Around} {s : Shared} {a b : Addr} {xs ys : List (K × Addr × Value)} {e : Nat → Bool} (ru : A.units < cLine) (gr : knd.room A.in1) (ha : (a == sysModules) = false) (gb : (b == sysModules) = false)
    (da : s.heap.DictOfH knd a xs) (db : s.heap.DictOfH knd b ys) (ke : xs.map (·.1) = ys.map (·.1)) (hits : ∀ (i : Nat) (x y : K × Addr × Value), xs[i]? = some x → ys[i]? = some y → EqP prog w A.in1 s x.2.2 y.2.2 (e i)) (E Q : Value → Shared → Prop) (h : Q (.bool (!(List.range xs.length).all e)) s) :
    wpAny (model prog w) A (richCompare .NotEq (.ref a) (.ref b)) Q E s := by
  refine wpAny_richCompare_same_room (op := .NotEq) da.typeIs db.typeIs PySem.F.slot_dict_ne (wpAny_call_entry PySem.F.slot_dict_ne da.typeIs PySem.F.entry_dict_ne ?_ (PySem.F.args_dict_ne_2 _ _)) ru
  show wpAny _ _ (Builtin.Dict.dictSlotArgs "__ne__" ⟨[.ref a, .ref b], []⟩ >>= _) _ _ s
  refine wpAny_bind ?_
  unfold Builtin.Dict.dictSlotArgs
  refine wpAny_bind (wpAny_notOrdered_dict da.typeIs ?_)
  show wpAny _ _ (pure (Value.ref a, Value.ref b)) _ _ s
  refine wpAny_pure ?_
  refine wpAny_bind (wpAny_isInstance (T := "dict") db.typeIs PySem.F.sub_dict_dict ?_)
  simp only [Bool.not_true, Bool.false_eq_true, if_false]
  refine wpAny_bind (wpAny_pure (wpAny_bind (wpAny_pure ?_)))
  refine wpAny_bind (samePairsH (e := e) gr ha gb da db ke hits ?_)
  refine wpAny_pure ⟨_, rfl, ?_, ?_⟩
  · exact fun x => nomatch x
  · simpa using h
end Lay
/-! LayCB: equal or not: data, tuples of dicts, dicts of the same keys in the same order. -/
namespace Lay
open PySem PySem.Spec PyProof.Rows L2
open PySem.SeqAt (EqIn EqP EqAt rcIn_tuples)
/-- two tuples item by item; two dicts of the same keys -/
def EqRB (K : PySem.W.Frag) (H : Hp) (E : V → V → Bool → Prop) (x y : V) (b : Bool) : Prop :=
  (∃ (a c : Addr) (xs ys : List V) (e : Nat → Bool), x = .ref a ∧ y = .ref c ∧ SqT K H a xs ∧ SqT K H c ys ∧ xs.length = ys.length ∧ (∀ i u v, xs[i]? = some u → ys[i]? = some v → E u v (e i)) ∧ b = (List.range xs.length).all e) ∨
  (∃ (a c : Addr) (ks : List Key) (f g : Key → V) (e : Key → Bool), x = .ref a ∧ y = .ref c ∧ H a = some (.dK (ks.map fun k => (k, f k))) ∧ H c = some (.dK (ks.map fun k => (k, g k))) ∧ (∀ k ∈ ks, E (f k) (g k) (e k)) ∧ b = ks.all e) ∨
  ∃ (a c : Addr) (ks : List (List Key)) (f g : List Key → V) (e : List Key → Bool), x = .ref a ∧ y = .ref c ∧ H a = some (.dT (ks.map fun k => (k, f k))) ∧ H c = some (.dT (ks.map fun k => (k, g k))) ∧ (∀ k ∈ ks, E (f k) (g k) (e k)) ∧ b = ks.all e
/-- x == y answers b, of nesting below n -/
def EqB (K : PySem.W.Frag) (H : Hp) : Nat → V → V → Bool → Prop
  | 0 => fun _ _ _ => False
  | n + 1 => fun x y b => (∃ d e, Dp K H x d ∧ Dp K H y e ∧ SeqAt.shaped d = true ∧ SeqAt.shaped e = true ∧ b = PyData.eqv d e) ∨ (EqRB K H (EqB K H n) x y b ∧ (x = y → b = true))
theorem val_map {κ : Type} [DecidableEq κ] {ν : Type} (f : κ → ν) : ∀ {ks : List κ} {k : κ}, k ∈ ks → ((ks.map fun k => (k, f k)).find? fun kv => decide (kv.1 = k)).map (·.2) = some (f k)
  | [], _, h => nomatch h
  | x :: ks, k, h => by
    by_cases e : x = k
    · rw [List.map_cons, List.find?_cons]
      rw [show (decide ((x, f x).1 = k)) = true from decide_eq_true e, e]
      rfl
    · rw [List.map_cons, List.find?_cons]
      rw [show (decide ((x, f x).1 = k)) = false from decide_eq_false e]
      rcases List.mem_cons.mp h with h | h
      · exact absurd h.symm e
      · exact val_map f h
section
variable {X : Cx} {pins : List (Addr × Obj)} {σ : L2.St} {H : Hp} {s : Shared}
theorem hits_all' {P : Program} {w : World} {A : Around} {s : Shared} {F : V → V → Bool → Prop} (ih : ∀ x y v u b, F x y b → RelV x v → RelV y u → EqP P w A s v u b) {f g : Key → V} {e : Key → Bool} {ls : List (Key × V)} {vb : List (Key × Value)} (rb : KV ls vb)
    (lk : ∀ k ∈ ls.map (·.1), valV ls k = some (g k)) : ∀ {ks : List Key} {va : List (Key × Value)}, KV (ks.map fun k => (k, f k)) va → (∀ k ∈ ks, k ∈ ls.map (·.1) ∧ F (f k) (g k) (e k)) → PySem.W.KeqHitsP P w A s vb va (ks.all e)
  | [], _, ra, _ => by cases ra; exact .nil
  | k :: ks, _, ra, h => by
    rw [List.map_cons] at ra
    cases ra with
    | @cons p q ps qs hq t =>
      obtain ⟨h1, h2⟩ := hq
      obtain ⟨km, hf⟩ := h k List.mem_cons_self
      have rr : RelO (some (g k)) (valueAt vb k) := by rw [← lk k km]; exact rb.val k
      obtain ⟨y, hy, ry⟩ := rr.some_of
      obtain ⟨key, v⟩ := q
      have h1' : k = key := h1
      rw [h1'] at hy
      rw [List.all_cons]
      exact .hit hy (ih _ _ _ _ _ hf h2 ry) (hits_all' ih rb lk t fun k' hm => h k' (List.mem_cons_of_mem _ hm))
theorem kt_get {H : Hp} {kvs : List (List Key × V)} {xs : List (List Key × Addr × Value)} (r : KT H kvs xs) : ∀ (i : Nat) (x : List Key × Addr × Value), xs[i]? = some x → ∃ p, kvs[i]? = some p ∧ p.1 = x.1 ∧ RelV p.2 x.2.2 := by
  induction r with
  | nil => intro i x h; exact absurd h (by simp)
  | @cons p q ps qs hq t ih =>
    intro i x h
    cases i with
    | zero =>
      rw [List.getElem?_cons_zero] at h
      cases h
      exact ⟨p, rfl, hq.1, hq.2.2⟩
    | succ i =>
      rw [List.getElem?_cons_succ] at h
      obtain ⟨p', e1, e2⟩ := ih i x h
      exact ⟨p', by rw [List.getElem?_cons_succ]; exact e1, e2⟩
theorem kt_keys {H : Hp} {kvs : List (List Key × V)} {xs : List (List Key × Addr × Value)} (r : KT H kvs xs) : xs.map (·.1) = kvs.map (·.1) := by
  induction r with
  | nil => rfl
  | @cons p q ps qs hq t ih => rw [List.map_cons, List.map_cons, ih, hq.1]
theorem eqRB_run (I : Inv X pins σ H s) {A : Around} {F : V → V → Bool → Prop} (hu : A.units + 1 < cLine) (ih : ∀ x y v u b, F x y b → RelV x v → RelV y u → EqP X.prog X.w A.in1 s v u b) {x y : V} {b : Bool} (h : EqRB X.K H F x y b) {v u : Value} (rx : RelV x v) (ry : RelV y u)
    (E Q : Value → Shared → Prop) : (Q (.bool b) s → wpAny (model X.prog X.w) A (richCompare .Eq v u) Q E s) ∧ ((∃ (a c : Addr) (ks : List Key) (f g : Key → V), x = .ref a ∧ y = .ref c ∧ H a = some (.dK (ks.map fun k => (k, f k))) ∧ H c = some (.dK (ks.map fun k => (k, g k)))) ∨ (Q (.bool (!b)) s → wpAny (model X.prog X.w) A (richCompare .NotEq v u) Q E s)) := by
  rcases h with ⟨a, c, xs, ys, e, rfl, rfl, ha, hc, hl, hp, rfl⟩ | ⟨a, c, ks, f, g, e, rfl, rfl, ha, hc, hp, rfl⟩ | ⟨a, c, ks, f, g, e, rfl, rfl, ha, hc, hp, rfl⟩
  · cases (show v = Value.ref a from rx)
    cases (show u = Value.ref c from ry)
    obtain ⟨us, r1, p1, _⟩ := I.tuple ha
    obtain ⟨ws, r2, p2, _⟩ := I.tuple hc
    have l1 := r1.length
    have l2 := r2.length
    have hmin : min us.toArray.size ws.toArray.size = xs.length := by
      rw [List.size_toArray, List.size_toArray]
      omega
    have hb : (us.toArray.size == ws.toArray.size) = true := by
      rw [List.size_toArray, List.size_toArray]
      exact beq_iff_eq.mpr (by omega)
    have it : ∀ j (h1 : j < us.toArray.size) (h2 : j < ws.toArray.size), EqIn X.prog X.w A.in1 s us.toArray[j] ws.toArray[j] (e j) := fun j h1 h2 => by
      have h1 : j < us.length := by simpa using h1
      have h2 : j < ws.length := by simpa using h2
      obtain ⟨u', e1, q1⟩ := Vals.get (i := j) (x := xs[j]'(by omega)) r1 (List.getElem?_eq_getElem _)
      obtain ⟨w', e2, q2⟩ := Vals.get (i := j) (x := ys[j]'(by omega)) r2 (List.getElem?_eq_getElem _)
      have := ih _ _ _ _ _ (hp j _ _ (List.getElem?_eq_getElem (by omega)) (List.getElem?_eq_getElem (by omega))) q1 q2
      rw [List.getElem?_eq_getElem h1] at e1
      rw [List.getElem?_eq_getElem h2] at e2
      cases e1
      cases e2
      have this : EqIn X.prog X.w A.in1 s us[j] ws[j] (e j) := this
      simpa using this
    refine ⟨fun q => rcIn_tuples p1 p2 (by omega) it ?_, .inr fun q => rcNeIn_tuples p1 p2 (by omega) it ?_⟩
    · rw [hmin, hb, Bool.and_true]
      exact q
    · rw [hmin, hb, Bool.and_true]
      exact q
  · cases (show v = Value.ref a from rx)
    cases (show u = Value.ref c from ry)
    refine ⟨fun q => ?_, .inl ⟨a, c, ks, f, g, rfl, rfl, ha, hc⟩⟩
    obtain ⟨_, ya, va, ra, da⟩ := dk_of I.hok ha
    obtain ⟨_, yb, vb, rb, db⟩ := dk_of I.hok hc
    have km : ∀ k, k ∈ (ks.map fun k => (k, g k)).map (·.1) ↔ k ∈ ks := fun k => by
      rw [List.map_map]
      show k ∈ ks.map id ↔ _
      rw [List.map_id]
    refine PySem.W.rcP_dicts (knd := mixKind X.prog X.w) (r := ks.all e) ya yb da db (by omega) (fun _ => hits_all' (ls := ks.map fun k => (k, g k)) ih rb (fun k hk => val_map g ((km k).mp hk)) ra fun k hk => ⟨(km k).mpr hk, hp k hk⟩) E Q ?_
    have el : va.length = vb.length := by
      rw [← ra.length, ← rb.length, List.length_map, List.length_map]
    rw [el, beq_self_eq_true, Bool.true_and]
    exact q
  · cases (show v = Value.ref a from rx)
    cases (show u = Value.ref c from ry)
    obtain ⟨_, ya, xs, ra, da⟩ := dt_of I.hok ha
    obtain ⟨_, yb, ys, rb, db⟩ := dt_of I.hok hc
    have k1 := kt_keys ra
    have k2 := kt_keys rb
    rw [List.map_map] at k1 k2
    have lx : xs.length = ks.length := by
      have := congrArg List.length k1
      rwa [List.length_map, List.length_map] at this
    have hits : ∀ (i : Nat) (x y : List Key × Addr × Value), xs[i]? = some x → ys[i]? = some y → EqP X.prog X.w A.in1 s x.2.2 y.2.2 ((fun i => match ks[i]? with | some k => e k | none => true) i) := fun i x y hx hy => by
      obtain ⟨p, e1, e2, e3⟩ := kt_get ra i x hx
      obtain ⟨p', f1, f2, f3⟩ := kt_get rb i y hy
      rw [List.getElem?_map] at e1 f1
      obtain ⟨k, hk, rfl⟩ := Option.map_eq_some_iff.mp e1
      rw [hk] at f1
      cases f1
      show EqP _ _ _ _ _ _ (match ks[i]? with | some k => e k | none => true)
      rw [hk]
      exact ih _ _ _ _ _ (hp k (List.mem_of_getElem? hk)) e3 f3
    have all : (List.range xs.length).all (fun i => match ks[i]? with | some k => e k | none => true) = ks.all e := by
      rw [lx]
      rw [Bool.eq_iff_iff, List.all_eq_true, List.all_eq_true]
      constructor
      · intro h k hk
        obtain ⟨i, hi⟩ := List.mem_iff_getElem?.mp hk
        have := h i (List.mem_range.mpr (List.getElem?_eq_some_iff.mp hi).1)
        rw [hi] at this
        exact this
      · intro h i hi
        have hi := List.mem_range.mp hi
        rw [List.getElem?_eq_getElem hi]
        exact h _ (List.getElem_mem hi)
    have room : (tupleKind (mixKind X.prog X.w)).room A.in1 := by show A.units + 1 < cLine; exact hu
    refine ⟨fun q => rcH_dicts (by omega) room ya yb da db (k1.trans k2.symm) hits E Q ?_, .inr fun q => rcNeH_dicts (by omega) room ya yb da db (k1.trans k2.symm) hits E Q ?_⟩
    · rw [all]; exact q
    · rw [all]; exact q
theorem eqB_run (I : Inv X pins σ H s) : ∀ (n : Nat) (A : Around), A.units + 64 + n < cLine → ∀ (x y : V) (v u : Value) (b : Bool), EqB X.K H n x y b → RelV x v → RelV y u → EqP X.prog X.w A s v u b
  | 0, _, _, _, _, _, _, _, h, _, _ => (show False from h).elim
  | n + 1, A, hu, x, y, v, u, b, h, rx, ry => by
    rcases h with ⟨d, e, hd, he, sd, se, rfl⟩ | ⟨h, same⟩
    · obtain ⟨as, r1⟩ := Dp.reads I d x v hd rx
      obtain ⟨bs, r2⟩ := Dp.reads I e y u he ry
      exact (SeqAt.eqAt_reads d e A s v u as bs r1 r2 (SeqAt.canLay_of_shaped sd) (SeqAt.canLay_of_shaped se) (SeqAt.room_of_shaped sd (by omega))).eqP
    · have step := fun E Q => (eqRB_run I (A := A) (by omega) (eqB_run I n A.in1 (by show A.units + 1 + 64 + n < cLine; omega)) h rx ry E Q).1
      obtain ⟨a, c, rfl, rfl⟩ : ∃ a c, x = .ref a ∧ y = .ref c := by
        rcases h with ⟨a, c, _, _, _, e1, e2, _⟩ | ⟨a, c, _, _, _, _, e1, e2, _⟩ | ⟨a, c, _, _, _, _, e1, e2, _⟩
        · exact ⟨a, c, e1, e2⟩
        · exact ⟨a, c, e1, e2⟩
        · exact ⟨a, c, e1, e2⟩
      cases (show v = Value.ref a from rx)
      cases (show u = Value.ref c from ry)
      by_cases e : a = c
      · subst e
        rw [same rfl]
        exact (SeqAt.EqAt.same _).eqP
      · exact SeqAt.eqP_refs e step
end
section
variable {X : Cx}
/-- x == y: tuples of dicts, dicts -/
def rEqB (K : PySem.W.Frag) : R2 := fun x y H Q => ∃ n b, n ≤ 10 ∧ EqRB K H (EqB K H n) x y b ∧ Q (.bl b) H
theorem op_eqB (hu : X.A.units + 100 < cLine) : OpR X (compareOp .Eq) (rEqB X.K) := by
  intro pins s σ H x y v u Q I rx ry h
  obtain ⟨n, b, hn, h, q⟩ := h
  exact (eqRB_run I (A := X.A) (by omega) (eqB_run I n X.A.in1 (by show X.A.units + 1 + 64 + n < cLine; omega)) h rx ry _ _).1 ⟨.bl b, H, I, rfl, q⟩
/-- x != y: tuples of dicts, dicts whose keys are tuples -/
def rNeB (K : PySem.W.Frag) : R2 := fun x y H Q => ∃ n b, n ≤ 10 ∧ EqRB K H (EqB K H n) x y b ∧ (∀ a kvs, x = .ref a → H a ≠ some (.dK kvs)) ∧ Q (.bl (!b)) H
theorem op_neB (hu : X.A.units + 100 < cLine) : OpR X (compareOp .NotEq) (rNeB X.K) := by
  intro pins s σ H x y v u Q I rx ry h
  obtain ⟨n, b, hn, h, nd, q⟩ := h
  rcases (eqRB_run I (A := X.A) (by omega) (eqB_run I n X.A.in1 (by show X.A.units + 1 + 64 + n < cLine; omega)) h rx ry X.xe (EP X pins σ Q)).2 with ⟨a, _, _, _, _, rfl, _, ha, _⟩ | g
  · exact absurd ha (nd a _ rfl)
  · exact g ⟨.bl (!b), H, I, rfl, q⟩
end
end Lay
/-! LayCC: dicts with names as keys, by a list of names and a function; comprehensions of dicts; a dict that is walked. -/
namespace Lay
open PySem PySem.Spec PyProof.Rows L2
theorem units100 {k : Nat} {A : Around} (r : Room k A) : A.units + 100 < cLine := by
  have := r.un
  omega
/-- a dict: its names in their order, what stands at each -/
def dKf (ks : List Str) (f : Str → V) : HO := .dK (ks.map fun z => (Sum.inr z, f z))
def dTf (ks : List (List Str)) (f : List Str → V) : HO := .dT (ks.map fun z => (z.map Sum.inr, f z))
theorem inrs_inj : ∀ {k k' : List Str}, k.map (Sum.inr : Str → Key) = k'.map Sum.inr → k = k'
  | [], [], _ => rfl
  | [], _ :: _, h => nomatch h
  | _ :: _, [], h => nomatch h
  | x :: k, y :: k', h => by
    have a := List.cons.inj h
    rw [Sum.inr.inj a.1, inrs_inj a.2]
theorem kV_inrs (k : List Str) : (k.map (Sum.inr : Str → Key)).map kV = k.map V.str := by
  rw [List.map_map]; rfl
section
variable {κ ι : Type} [DecidableEq κ]
theorem val_in {e : ι → κ} (inj : ∀ a b, e a = e b → a = b) (f : ι → V) : ∀ {ks : List ι} {z : ι}, z ∈ ks → valV (ks.map fun z => (e z, f z)) (e z) = some (f z)
  | [], _, h => nomatch h
  | x :: ks, z, h => by
    rw [List.map_cons]
    by_cases q : e x = e z
    · rw [valV_pos (p := (e x, f x)) q, inj _ _ q]
    · rw [valV_neg (p := (e x, f x)) q]
      rcases List.mem_cons.mp h with h | h
      · exact absurd (by rw [h]) q
      · exact val_in inj f h
theorem val_out {e : ι → κ} (inj : ∀ a b, e a = e b → a = b) (f : ι → V) : ∀ {ks : List ι} {z : ι}, z ∉ ks → valV (ks.map fun z => (e z, f z)) (e z) = none
  | [], _, _ => rfl
  | x :: ks, z, h => by
    have h := not_or.mp (fun q => h (List.mem_cons.mpr q))
    rw [List.map_cons, valV_neg (p := (e x, f x)) (fun q => h.1 (inj _ _ q).symm)]
    exact val_out inj f h.2
theorem put_out {e : ι → κ} (inj : ∀ a b, e a = e b → a = b) (f : ι → V) {ks : List ι} {z : ι} (v : V) (h : z ∉ ks) : putK (ks.map fun z => (e z, f z)) (e z) v = (ks.map fun z => (e z, f z)) ++ [(e z, v)] := putK_new v (val_out inj f h)
theorem put_in [DecidableEq ι] {e : ι → κ} (inj : ∀ a b, e a = e b → a = b) (f : ι → V) {ks : List ι} {z : ι} (v : V) (h : z ∈ ks) : putK (ks.map fun z => (e z, f z)) (e z) v = ks.map fun y => (e y, if y = z then v else f y) := by
  unfold putK
  rw [if_pos (by rw [valV_any, val_in inj f h]; rfl), List.map_map]
  refine List.map_congr_left fun y _ => ?_
  show (if e y = e z then (e y, v) else (e y, f y)) = _
  by_cases q : y = z
  · rw [if_pos (by rw [q]), if_pos q]
  · rw [if_neg (fun x => q (inj _ _ x)), if_neg q]
end
theorem inr_inj (a b : Str) (h : (Sum.inr a : Key) = Sum.inr b) : a = b := Sum.inr.inj h
theorem inrs_inj' (a b : List Str) (h : a.map (Sum.inr : Str → Key) = b.map Sum.inr) : a = b := inrs_inj h
section
variable {H : Hp} {d : Addr} {ks : List Str} {f : Str → V} {z : Str}
theorem get_f (h : Rd H d (dKf ks f)) (m : z ∈ ks) : DGet H d (.str z) (some (f z)) := .inl ⟨_, Sum.inr z, h, rfl, (val_in inr_inj f m).symm⟩
theorem get_no (h : Rd H d (dKf ks f)) (m : z ∉ ks) : DGet H d (.str z) none := .inl ⟨_, Sum.inr z, h, rfl, (val_out inr_inj f m).symm⟩
theorem put_f (h : H d = some (dKf ks f)) (few : ks.length ≤ 1000) (m : z ∈ ks) (v : V) : DPut H d (.str z) v (upd H d (dKf ks fun y => if y = z then v else f y)) :=
  .inl ⟨_, Sum.inr z, h, rfl, by rw [List.length_map]; exact Nat.lt_of_le_of_lt few (by decide), by rw [put_in inr_inj f v m]; rfl⟩
end
/-- dict(pairs) of unlike names -/
theorem merge_f (f : Str → V) : ∀ {ks : List Str} (done : List Str), (done ++ ks).Nodup → mergeK (done.map fun z => (Sum.inr z, f z)) (ks.map fun z => (Sum.inr z, f z)) = (done ++ ks).map fun z => (Sum.inr z, f z)
  | [], done, _ => by rw [List.append_nil]; rfl
  | x :: ks, done, nd => by
    show mergeK (putK _ (Sum.inr x) (f x)) _ = _
    have nx : x ∉ done := fun h => (List.nodup_append.mp nd).2.2 x h x List.mem_cons_self rfl
    rw [put_out inr_inj f (f x) nx]
    have e : (done.map fun z => ((Sum.inr z : Key), f z)) ++ [(Sum.inr x, f x)] = (done ++ [x]).map fun z => (Sum.inr z, f z) := by rw [List.map_append]; rfl
    rw [e, merge_f f (done ++ [x]) (by rw [List.append_assoc]; exact nd), List.append_assoc]
    rfl
theorem merge_nil {ks : List Str} (nd : ks.Nodup) (f : Str → V) : mergeK [] (ks.map fun z => (Sum.inr z, f z)) = ks.map fun z => (Sum.inr z, f z) := merge_f f [] nd
section
variable {σ : L2.St} {H H1 : Hp} {Q : VK} {K : PySem.W.Frag}
def DnAt (e0 : HO) (wr : Hp → Addr → V → V → (Hp → Prop) → Prop) (J : It) (g : TG) (tt : L2.TT) (tk tv : TE) (vs : List Nat) (σ : L2.St) (D : Addr) (H1 : Hp) (Q : VK) : Prop := ∃ W : Nat → Nat → Hp → Prop, (∃ m, W 0 m (upd H1 D e0)) ∧ ∀ i m H, W i m H →
  (J.stop i H ∧ Q (.ref D) H) ∨ (J.go i H ∧ ∃ Nx : Hp → Prop, (∀ H', Nx H' → ∃ m', m' < m ∧ W (i + 1) m' H') ∧ ∀ x H', J.yld i H x H' → g x (wipe σ vs) H' fun σ2 H2 => wipe σ2 vs = wipe σ vs ∧ tt σ2 H2 fun b H3 =>
    if b = true then tk σ2 H3 fun y H4 => tv σ2 H4 fun z H5 => wr H5 D y z Nx else Nx H3)
def wrK : Hp → Addr → V → V → (Hp → Prop) → Prop := fun H5 D y z Nx => ∃ kvs k, y = kV k ∧ H5 D = some (.dK kvs) ∧ kvs.length < sizeLine ∧ Nx (upd H5 D (.dK (putK kvs k z)))
def wrT : Hp → Addr → V → V → (Hp → Prop) → Prop := fun H5 D y z Nx => ∃ ws k q, y = .ref q ∧ H5 q = some (.tup (k.map kV)) ∧ H5 D = some (.dT ws) ∧ ws.length < sizeLine ∧ Nx (upd H5 D (.dT (putK ws k z)))
theorem rd_dc {wi : TI} {g : TG} {tt : L2.TT} {tk tv : TE} {vs : List Nat} (q : wi σ H (fun J H1 => ∀ D, H1 D = none → DnAt (HO.dK []) wrK J g tt tk tv vs σ D H1 Q)) : tDc wi g tt tk tv vs σ H Q := q
theorem rd_dct {wi : TI} {g : TG} {tt : L2.TT} {tk tv : TE} {vs : List Nat} (q : wi σ H (fun J H1 => ∀ D, H1 D = none → DnAt (HO.dT []) wrT J g tt tk tv vs σ D H1 Q)) : tDcT wi g tt tk tv vs σ H Q := q
/-- {z: f(z) for z in names}, all of it leaving what stands -/
theorem dc_names {J : It} {n : Nat} {G : Hp → Prop} {item : Nat → V} (w : Wk J n G item) {i : Nat} {tk tv : TE} {D : Addr} {zs : List Str} (hz : zs.length = n) (hi : ∀ (j : Nat) (z : Str), zs[j]? = some z → item j = .str z) (nd : zs.Nodup) (hn : n ≤ 1000) (hD : H1 D = none) (hG : ∀ H', Same H1 H' → G H')
    (F : Str → V → Hp → Prop) (mono : ∀ z v H H', But D H H' → (∃ kvs, H D = some (.dK kvs)) → F z v H → F z v H')
    (hk : ∀ z ∈ zs, ∀ H', Same H1 H' → ∀ R : VK, R (.str z) H' → tk ((wipe σ [i]).set i (some (.str z))) H' R)
    (hv : ∀ z ∈ zs, ∀ H', Same H1 H' → ∀ R : VK, (∀ v H'', Same H' H'' → F z v H'' → R v H'') → tv ((wipe σ [i]).set i (some (.str z))) H' R)
    (hd : ∀ (f : Str → V) H', Same H1 H' → (∀ z ∈ zs, F z (f z) H') → H' D = some (dKf zs f) → Q (.ref D) H') : DnAt (HO.dK []) wrK J (gName i) tYes tk tv [i] σ D H1 Q := by
  refine ⟨fun k m H' => m = n - k ∧ k ≤ n ∧ Same H1 H' ∧ ∃ f : Str → V, (∀ z ∈ zs.take k, F z (f z) H') ∧ H' D = some (dKf (zs.take k) f), ⟨n, rfl, Nat.zero_le _, same_up hD (Same.refl H1), fun _ => .non, (fun z hz => by rw [List.take_zero] at hz; exact nomatch hz), upd_same⟩, ?_⟩
  rintro k m H' ⟨rfl, hk', hs, f, hF, hl⟩
  by_cases hlt : k < n
  · have hkl : k < zs.length := by omega
    have ez : zs[k]? = some zs[k] := List.getElem?_eq_getElem hkl
    have mz : zs[k] ∈ zs := List.getElem_mem hkl
    have et : zs.take (k + 1) = zs.take k ++ [zs[k]] := by rw [List.take_succ, ez]; rfl
    have nz : zs[k] ∉ zs.take k := fun h => by
      have := (List.Sublist.nodup (List.take_sublist (k + 1) zs) nd)
      rw [et] at this
      exact (List.nodup_append.mp this).2.2 _ h _ (List.mem_singleton.mpr rfl) rfl
    refine Or.inr ⟨w.go k H' (hG H' hs) hlt, fun H'' => Same H1 H'' ∧ ∃ f : Str → V, (∀ z ∈ zs.take (k + 1), F z (f z) H'') ∧ H'' D = some (dKf (zs.take (k + 1)) f), fun H'' h => ⟨n - (k + 1), by omega, rfl, hlt, h⟩, fun x H2 hx => ?_⟩
    obtain ⟨rfl, rfl⟩ := w.yld k H' x H2 (hG H' hs) hlt hx
    rw [hi k _ ez]
    refine ⟨wipe1 σ i _, ?_⟩
    refine rd_yes ?_
    refine rd_ifb (fun _ => ?_) (fun z => nomatch z)
    refine hk _ mz H2 hs _ ?_
    refine hv _ mz H2 hs _ fun v H4 s4 hFv => ?_
    have e4 := s4 _ _ hl
    refine ⟨_, Sum.inr zs[k], rfl, e4, Nat.lt_of_le_of_lt (by rw [List.length_map, List.length_take]; omega : _ ≤ 1000) (by decide), same_up hD (hs.trans s4), fun z => if z = zs[k] then v else f z, fun z hz => ?_, ?_⟩
    · have same5 : F z (if z = zs[k] then v else f z) H4 := by
        rw [et] at hz
        by_cases q : z = zs[k]
        · rw [if_pos q, q]; exact hFv
        · rw [if_neg q]
          rcases List.mem_append.mp hz with h | h
          · exact mono _ _ _ _ (fun b o _ e => s4 b o e) ⟨_, hl⟩ (hF z h)
          · exact absurd (List.mem_singleton.mp h) q
      exact mono _ _ _ _ (fun b o nb e => by rw [upd_ne nb]; exact e) ⟨_, e4⟩ same5
    · rw [upd_same, put_out inr_inj f v nz, et]
      unfold dKf
      rw [List.map_append]
      congr 3
      · refine List.map_congr_left fun z hz => ?_
        show ((Sum.inr z : Key), f z) = (Sum.inr z, if z = zs[k] then v else f z)
        rw [if_neg (fun q : z = zs[k] => nz (q ▸ hz))]
      · show [((Sum.inr zs[k] : Key), v)] = [(Sum.inr zs[k], if zs[k] = zs[k] then v else f zs[k])]
        rw [if_pos rfl]
  · have e : k = n := by omega
    subst e
    rw [← hz, List.take_length] at hF hl
    exact Or.inl ⟨w.stop H' (hG H' hs), hd f H' hs hF hl⟩
/-- {(x, y): g(x, y) for x, y in pairs}: unlike pairs, whole numbers -/
theorem dct_pairs {a D : Addr} {rs : List Addr} {R : List (List Str)} {i1 i2 : Nat} {tk tv : TE} (hn : R.length ≤ 1000) (hD : H1 D = none) (h : SqT K H1 a (rs.map V.ref)) (rel : Rel (PT H1) rs R) (two : ∀ k ∈ R, ∃ x y, k = [x, y]) (nd : R.Nodup)
    (wp : ∀ x y : V, wipe (((wipe σ [i1, i2]).set i1 (some x)).set i2 (some y)) [i1, i2] = wipe σ [i1, i2]) (g : List Str → Int)
    (hk : ∀ x y, [x, y] ∈ R → ∀ H', Same H1 H' → ∀ S : VK, (∀ p H'', Same H' H'' → H'' p = some (.tup [.str x, .str y]) → S (.ref p) H'') → tk (((wipe σ [i1, i2]).set i1 (some (.str x))).set i2 (some (.str y))) H' S)
    (hv : ∀ x y, [x, y] ∈ R → ∀ H', Same H1 H' → ∀ S : VK, (∀ H'', Same H' H'' → S (.int (g [x, y])) H'') → tv (((wipe σ [i1, i2]).set i1 (some (.str x))).set i2 (some (.str y))) H' S)
    (hd : ∀ H', Same H1 H' → H' D = some (dTf R fun k => .int (g k)) → Q (.ref D) H') : DnAt (HO.dT []) wrT (Itt K a) (gTup K 2 (gCons (gName i1) (gCons (gName i2) gNil))) tYes tk tv [i1, i2] σ D H1 Q := by
  have w := wk_tup (K := K) (a := a) (xs := rs.map V.ref) .non
  have lr := rel.1
  have hG : ∀ H', Same H1 H' → SqT K H' a (rs.map V.ref) := fun H' s => by
    rcases h with (h | ⟨o, h⟩) | h
    · exact .inl (.inl (s _ _ h))
    · exact .inl (.inr ⟨o, s _ _ h⟩)
    · exact .inr h
  refine ⟨fun k m H' => m = R.length - k ∧ k ≤ R.length ∧ Same H1 H' ∧ H' D = some (dTf (R.take k) fun k => .int (g k)), ⟨R.length, rfl, Nat.zero_le _, same_up hD (Same.refl H1), upd_same⟩, ?_⟩
  rintro k m H' ⟨rfl, hk', hs, hl⟩
  by_cases lt : k < R.length
  · have ltr : k < (rs.map V.ref).length := by rw [List.length_map]; omega
    have ez : R[k]? = some R[k] := List.getElem?_eq_getElem lt
    have mz : R[k] ∈ R := List.getElem_mem lt
    have et : R.take (k + 1) = R.take k ++ [R[k]] := by rw [List.take_succ, ez]; rfl
    have nz : R[k] ∉ R.take k := fun h => by
      have := (List.Sublist.nodup (List.take_sublist (k + 1) R) nd)
      rw [et] at this
      exact (List.nodup_append.mp this).2.2 _ h _ (List.mem_singleton.mpr rfl) rfl
    refine Or.inr ⟨w.go k H' (hG H' hs) ltr, fun H'' => Same H1 H'' ∧ H'' D = some (dTf (R.take (k + 1)) fun k => .int (g k)), fun H'' h => ⟨R.length - (k + 1), by omega, rfl, lt, h⟩, fun x H2 hy => ?_⟩
    obtain ⟨rfl, rfl⟩ := w.yld k H' x H2 (hG H' hs) ltr hy
    have lk : k < rs.length := by omega
    have er : (rs.map V.ref).getD k .non = .ref rs[k] := by rw [List.getD_eq_getElem?_getD, List.getElem?_map, List.getElem?_eq_getElem lk]; rfl
    rw [er]
    have pk := rel.2 k _ _ (List.getElem?_eq_getElem lk) ez
    obtain ⟨u, v, e⟩ := two _ mz
    rw [e] at pk mz
    refine ⟨rs[k], _, rfl, SqT.of (hs _ _ pk), rfl, ⟨_, _, rfl, rd_name ⟨_, _, rfl, rd_name ⟨rfl, ?_⟩⟩⟩⟩
    refine ⟨wp _ _, ?_⟩
    refine rd_yes ?_
    refine rd_ifb (fun _ => ?_) (fun z => nomatch z)
    refine hk u v mz H2 hs _ fun p H3 s3 hp => ?_
    refine hv u v mz H3 (hs.trans s3) _ fun H4 s4 => ?_
    have e4 := s4 _ _ (s3 _ _ hl)
    refine ⟨_, [Sum.inr u, Sum.inr v], p, rfl, s4 _ _ hp, e4, Nat.lt_of_le_of_lt (by rw [List.length_map, List.length_take]; omega : _ ≤ 1000) (by decide), same_up hD ((hs.trans s3).trans s4), ?_⟩
    have key : ([Sum.inr u, Sum.inr v] : List Key) = [u, v].map Sum.inr := rfl
    rw [upd_same, key, ← e, put_out inrs_inj' (fun k => .int (g k)) (.int (g R[k])) nz, et]
    unfold dTf
    rw [List.map_append]
    rfl
  · obtain rfl : k = R.length := by omega
    have st : (Itt K a).stop R.length H' := by
      have := w.stop H' (hG H' hs)
      rw [List.length_map, lr] at this
      exact this
    rw [List.take_length] at hl
    exact Or.inl ⟨st, hd H' hs hl⟩
/-- a dict that is walked: it stands as it is -/
theorem wk_keys {d : Addr} {o : Obj} {ks : List Str} {f : Str → V} : Wk (Itk d o (ks.map fun z => (Sum.inr z, f z))) ks.length (fun H => H d = some (.frz o (dKf ks f))) (fun i => .str (ks.getD i "")) :=
  ⟨fun H h => ⟨h, Nat.le_of_eq (List.length_map ..)⟩, fun i H h hi => ⟨h, by rw [List.length_map]; exact hi⟩, fun i H x H' h hi y => by
    obtain ⟨e, k, v, hk, rfl⟩ := y
    refine ⟨e, ?_⟩
    rw [List.getElem?_map, List.getElem?_eq_getElem hi] at hk
    cases hk
    rw [List.getD_eq_getElem?_getD, List.getElem?_eq_getElem hi]
    rfl⟩
theorem wk_vals {d : Addr} {o : Obj} {ks : List Str} {f : Str → V} : Wk (Itd d o (ks.map fun z => (Sum.inr z, f z))) ks.length (fun H => H d = some (.frz o (dKf ks f))) (fun i => f (ks.getD i "")) :=
  ⟨fun H h => ⟨h, Nat.le_of_eq (List.length_map ..)⟩, fun i H h hi => ⟨h, by rw [List.length_map]; exact hi⟩, fun i H x H' h hi y => by
    obtain ⟨e, k, hk⟩ := y
    refine ⟨e, ?_⟩
    rw [List.getElem?_map, List.getElem?_eq_getElem hi] at hk
    cases hk
    rw [List.getD_eq_getElem?_getD, List.getElem?_eq_getElem hi]
    rfl⟩
/-- while the dict is locked -/
theorem rd_lock {t : TE} {d : Addr} {ks : List Str} {f : Str → V} (hd : H d = some (dKf ks f)) (q : ∀ od, t σ (upd H d (.frz od (dKf ks f))) fun v H' => H' d = some (.frz od (dKf ks f)) ∧ Q v (upd H' d (dKf ks f))) : tLockE t σ H Q := ⟨d, _, hd, True.intro, q⟩
theorem same_unlock {d : Addr} {u : HO} {od : Obj} {H' : Hp} (hd : H d = some u) (s : Same (upd H d (.frz od u)) H') : Same H (upd H' d u) := fun b o e => by
  by_cases hb : b = d
  · rw [hb] at e ⊢
    rw [upd_same, ← e, hd]
  · rw [upd_ne hb]
    exact s b o (by rw [upd_ne hb]; exact e)
/-- what is told of tuples is told while the dict is locked -/
theorem pt_lock {d t : Addr} {ks : List Str} {f : Str → V} {od : Obj} {xs : List V} (hd : H d = some (dKf ks f)) (h : SqT K H t xs) : SqT K (upd H d (.frz od (dKf ks f))) t xs := by
  rcases h with (h | ⟨o, h⟩) | h
  · exact .inl (.inl (by rw [upd_ne (fun e => by rw [e, hd] at h; cases h)]; exact h))
  · exact .inl (.inr ⟨o, by rw [upd_ne (fun e => by rw [e, hd] at h; cases h)]; exact h⟩)
  · exact .inr h
theorem SqT.same' {H' : Hp} {t : Addr} {xs : List V} (s : Same H H') (h : SqT K H t xs) : SqT K H' t xs := by
  rcases h with (h | ⟨o, h⟩) | h
  · exact .inl (.inl (s _ _ h))
  · exact .inl (.inr ⟨o, s _ _ h⟩)
  · exact .inr h
theorem SqT.but' {H' : Hp} {d t : Addr} {kvs : List (Key × V)} {xs : List V} (s : But d H H') (hd : H d = some (.dK kvs)) (h : SqT K H t xs) : SqT K H' t xs := by
  rcases h with (h | ⟨o, h⟩) | h
  · exact .inl (.inl (s _ _ (fun e => by rw [e, hd] at h; cases h) h))
  · exact .inl (.inr ⟨o, s _ _ (fun e => by rw [e, hd] at h; cases h) h⟩)
  · exact .inr h
end
/-! placings -/
/-- a spot -/
def sv (L : List Int) : List V := L.map V.int
/-- a placing: the names in their order, the spot of each -/
def Plc (K : PySem.W.Frag) (H : Hp) (d : Addr) (ks : List Str) (f : Str → List Int) : Prop := ∃ A : Str → Addr, H d = some (dKf ks fun z => .ref (A z)) ∧ ∀ z ∈ ks, SqT K H (A z) (sv (f z))
theorem Plc.same {K : PySem.W.Frag} {H H' : Hp} {d : Addr} {ks : List Str} {f : Str → List Int} (s : Same H H') (h : Plc K H d ks f) : Plc K H' d ks f := by
  obtain ⟨A, h1, h2⟩ := h
  exact ⟨A, s _ _ h1, fun z hz => SqT.same' s (h2 z hz)⟩
theorem Plc.congr {K : PySem.W.Frag} {H : Hp} {d : Addr} {ks : List Str} {f g : Str → List Int} (e : ∀ z ∈ ks, f z = g z) (h : Plc K H d ks f) : Plc K H d ks g := by
  obtain ⟨A, h1, h2⟩ := h
  exact ⟨A, h1, fun z hz => by rw [← e z hz]; exact h2 z hz⟩
/-- squares: a whole number for each pair -/
def Sqs (H : Hp) (d : Addr) (R : List (List Str)) (g : List Str → Int) : Prop := H d = some (dTf R fun k => .int (g k))
theorem Sqs.same {H H' : Hp} {d : Addr} {R : List (List Str)} {g : List Str → Int} (s : Same H H') (h : Sqs H d R g) : Sqs H' d R g := s _ _ h
end Lay
/-! LayCD: placings that are compared; mirrored spots. -/
namespace Lay
open PySem PySem.Spec PyProof.Rows L2
/-- a spot as data -/
def sp (l : List Int) : PyData := .tuple (l.map PyData.int)
theorem sp_dp {K : PySem.W.Frag} {H : Hp} {p : Addr} {l : List Int} (h : SqT K H p (sv l)) : Dp K H (.ref p) (sp l) := .tup h (dp_ints l)
theorem sp_shaped (l : List Int) : SeqAt.shaped (sp l) = true := by
  have h : ∀ d ∈ l.map PyData.int, d.canLay0 = true ∧ d.depth = 0 := fun d hd => by
    obtain ⟨x, _, rfl⟩ := List.mem_map.mp hd
    exact ⟨rfl, rfl⟩
  show (PyData.canLayAll0 (l.map PyData.int) && decide (PyData.depthAll (l.map PyData.int) + 1 ≤ 64)) = true
  rw [canAll_of fun d hd => (h d hd).1]
  have := depthAll_of (n := 0) fun d hd => Nat.le_of_eq (h d hd).2
  rw [decide_eq_true (by omega)]
  rfl
theorem sp_eqv (l m : List Int) : PyData.eqv (sp l) (sp m) = decide (l = m) := by
  unfold sp
  simp only [PyData.eqv]
  exact eqvAll_dec l m
section
variable {K : PySem.W.Frag} {H : Hp}
/-- tuples of ints, asked for == -/
theorem rd_eqSp {p q : Addr} {l m : List Int} {Q : VK} (hp : SqT K H p (sv l)) (hq : SqT K H q (sv m)) (k : Q (.bl (decide (l = m))) H) : rEqD K (.ref p) (.ref q) H Q := by
  refine rd_eqD (sp_dp hp) (sp_dp hq) (sp_shaped l) (sp_shaped m) ?_
  rw [sp_eqv]
  exact k
theorem eqB_sp {p q : Addr} {l : List Int} {n : Nat} (hp : SqT K H p (sv l)) (hq : SqT K H q (sv l)) : EqB K H (n + 1) (.ref p) (.ref q) true :=
  .inl ⟨_, _, sp_dp hp, sp_dp hq, sp_shaped l, sp_shaped l, by rw [sp_eqv, decide_eq_true rfl]⟩
def unK (k : Key) : Str := match k with | .inr z => z | .inl _ => ""
theorem eqR_plc {d e : Addr} {ks : List Str} {f : Str → List Int} (hd : Plc K H d ks f) (he : Plc K H e ks f) {n : Nat} : EqRB K H (EqB K H (n + 1)) (.ref d) (.ref e) true := by
  obtain ⟨A, a1, a2⟩ := hd
  obtain ⟨B, b1, b2⟩ := he
  refine .inr (.inl ⟨d, e, ks.map Sum.inr, fun k => .ref (A (unK k)), fun k => .ref (B (unK k)), fun _ => true, rfl, rfl, ?_, ?_, fun k hk => ?_, ?_⟩)
  · rw [a1, List.map_map]; rfl
  · rw [b1, List.map_map]; rfl
  · obtain ⟨z, hz, rfl⟩ := List.mem_map.mp hk
    exact eqB_sp (a2 z hz) (b2 z hz)
  · exact (List.all_eq_true.mpr fun _ _ => rfl).symm
/-- two pairs of placings that are alike -/
theorem eqR_two {p q d1 d2 e1 e2 : Addr} {ks ls : List Str} {f g : Str → List Int} (hp : SqT K H p [.ref d1, .ref d2]) (hq : SqT K H q [.ref e1, .ref e2]) (h1 : Plc K H d1 ks f) (h2 : Plc K H d2 ls g) (k1 : Plc K H e1 ks f) (k2 : Plc K H e2 ls g) : EqRB K H (EqB K H 2) (.ref p) (.ref q) true := by
  refine .inl ⟨p, q, _, _, fun _ => true, rfl, rfl, hp, hq, rfl, fun i u v hu hv => ?_, (List.all_eq_true.mpr fun _ _ => rfl).symm⟩
  rcases i with _ | _ | i
  · cases hu
    cases hv
    exact .inr ⟨eqR_plc h1 k1, fun _ => rfl⟩
  · cases hu
    cases hv
    exact .inr ⟨eqR_plc h2 k2, fun _ => rfl⟩
  · cases hu
theorem rd_neTwo {p q d1 d2 e1 e2 : Addr} {ks ls : List Str} {f g : Str → List Int} {Q : VK} (hp : SqT K H p [.ref d1, .ref d2]) (hq : SqT K H q [.ref e1, .ref e2]) (h1 : Plc K H d1 ks f) (h2 : Plc K H d2 ls g) (k1 : Plc K H e1 ks f) (k2 : Plc K H e2 ls g) (nd : ∀ kvs, H p ≠ some (.dK kvs)) (k : Q (.bl false) H) : rNeB K (.ref p) (.ref q) H Q :=
  ⟨2, true, by decide, eqR_two hp hq h1 h2 k1 k2, fun a kvs e => by cases e; exact nd kvs, k⟩
theorem rd_eqTwo {p q d1 d2 e1 e2 : Addr} {ks ls : List Str} {f g : Str → List Int} {Q : VK} (hp : SqT K H p [.ref d1, .ref d2]) (hq : SqT K H q [.ref e1, .ref e2]) (h1 : Plc K H d1 ks f) (h2 : Plc K H d2 ls g) (k1 : Plc K H e1 ks f) (k2 : Plc K H e2 ls g) (k : Q (.bl true) H) : rEqB K (.ref p) (.ref q) H Q :=
  ⟨2, true, by decide, eqR_two hp hq h1 h2 k1 k2, k⟩
theorem unKs (k : List Str) : (k.map (Sum.inr : Str → Key)).map unK = k := by
  rw [List.map_map]
  show k.map id = k
  rw [List.map_id]
theorem eqR_sqs {d e : Addr} {R : List (List Str)} {f g : List Str → Int} (hd : Sqs H d R f) (he : Sqs H e R g) {n : Nat} : EqRB K H (EqB K H (n + 1)) (.ref d) (.ref e) (R.all fun k => decide (f k = g k)) := by
  refine .inr (.inr ⟨d, e, R.map (·.map Sum.inr), fun k => .int (f (k.map unK)), fun k => .int (g (k.map unK)), fun k => decide (f (k.map unK) = g (k.map unK)), rfl, rfl, ?_, ?_, fun k hk => ?_, ?_⟩)
  · rw [show H d = _ from hd, List.map_map]
    unfold dTf
    congr 2
    exact List.map_congr_left fun k _ => by show _ = (k.map Sum.inr, V.int (f ((k.map Sum.inr).map unK))); rw [unKs]
  · rw [show H e = _ from he, List.map_map]
    unfold dTf
    congr 2
    exact List.map_congr_left fun k _ => by show _ = (k.map Sum.inr, V.int (g ((k.map Sum.inr).map unK))); rw [unKs]
  · refine .inl ⟨_, _, .int _, .int _, rfl, rfl, ?_⟩
    simp only [PyData.eqv]
    rfl
  · rw [List.all_map]
    refine congrArg (fun p => R.all p) (funext fun k => ?_)
    show _ = decide (f ((k.map Sum.inr).map unK) = g ((k.map Sum.inr).map unK))
    rw [unKs]
theorem rd_eqSqs {d e : Addr} {R : List (List Str)} {f g : List Str → Int} {Q : VK} (hd : Sqs H d R f) (he : Sqs H e R g) (k : Q (.bl (R.all fun k => decide (f k = g k))) H) : rEqB K (.ref d) (.ref e) H Q := ⟨1, _, by decide, eqR_sqs hd he, k⟩
theorem rd_neSqs {d e : Addr} {R : List (List Str)} {f g : List Str → Int} {Q : VK} (hd : Sqs H d R f) (he : Sqs H e R g) (k : Q (.bl (!R.all fun k => decide (f k = g k))) H) : rNeB K (.ref d) (.ref e) H Q :=
  ⟨1, _, by decide, eqR_sqs hd he, (fun a kvs e => by cases e; rw [show H d = _ from hd]; exact (fun z => by cases z)), k⟩
end
/-! the mathematics -/
/-- the square of the distance of two spots of the plane -/
def sq2 (a b : Int × Int) : Int := (a.1 - b.1) * (a.1 - b.1) + (a.2 - b.2) * (a.2 - b.2)
/-- twice the area of a triangle -/
def area (a b c : Int × Int) : Int := (b.1 - a.1) * (c.2 - a.2) - (b.2 - a.2) * (c.1 - a.1)
/-- a spot mirrored in the line through a and b, times their square -/
def mir (a b c : Int × Int) : Int × Int :=
  let x := b.1 - a.1
  let y := b.2 - a.2
  let u := c.1 - a.1
  let v := c.2 - a.2
  ((x * x + y * y) * a.1 + (x * x - y * y) * u + (2 * x * y) * v, (x * x + y * y) * a.2 + (2 * x * y) * u - (x * x - y * y) * v)
def tim (s : Int) (a : Int × Int) : Int × Int := (s * a.1, s * a.2)
theorem mir_mir (a b c d : Int × Int) : sq2 (mir a b c) (mir a b d) = sq2 (tim (sq2 a b) c) (tim (sq2 a b) d) := by
  obtain ⟨a1, a2⟩ := a
  obtain ⟨b1, b2⟩ := b
  obtain ⟨c1, c2⟩ := c
  obtain ⟨d1, d2⟩ := d
  simp only [sq2, mir, tim]
  grind
theorem mir_left (a b : Int × Int) : mir a b a = tim (sq2 a b) a := by
  obtain ⟨a1, a2⟩ := a
  obtain ⟨b1, b2⟩ := b
  simp only [sq2, mir, tim, Prod.mk.injEq]
  constructor <;> grind
theorem mir_right (a b : Int × Int) : mir a b b = tim (sq2 a b) b := by
  obtain ⟨a1, a2⟩ := a
  obtain ⟨b1, b2⟩ := b
  simp only [sq2, mir, tim, Prod.mk.injEq]
  constructor <;> grind
theorem mir_line (a b c : Int × Int) (h : area a b c = 0) : mir a b c = tim (sq2 a b) c := by
  obtain ⟨a1, a2⟩ := a
  obtain ⟨b1, b2⟩ := b
  obtain ⟨c1, c2⟩ := c
  simp only [area] at h
  simp only [sq2, mir, tim, Prod.mk.injEq]
  constructor <;> grind
/-- what the mirror does to the distance of a spot that is mirrored and one that is not -/
theorem mir_far (a b c d : Int × Int) : sq2 (mir a b c) (tim (sq2 a b) d) - sq2 (tim (sq2 a b) c) (tim (sq2 a b) d) = 4 * sq2 a b * area a b c * area a b d := by
  obtain ⟨a1, a2⟩ := a
  obtain ⟨b1, b2⟩ := b
  obtain ⟨c1, c2⟩ := c
  obtain ⟨d1, d2⟩ := d
  simp only [sq2, mir, tim, area]
  grind
theorem sq2_zero {a b : Int × Int} (h : sq2 a b = 0) : a = b := by
  obtain ⟨a1, a2⟩ := a
  obtain ⟨b1, b2⟩ := b
  unfold sq2 at h
  have h1 : 0 ≤ (a1 - b1) * (a1 - b1) := by
    rcases Int.le_total 0 (a1 - b1) with q | q
    · exact Int.mul_nonneg q q
    · exact Int.mul_nonneg_of_nonpos_of_nonpos q q
  have h2 : 0 ≤ (a2 - b2) * (a2 - b2) := by
    rcases Int.le_total 0 (a2 - b2) with q | q
    · exact Int.mul_nonneg q q
    · exact Int.mul_nonneg_of_nonpos_of_nonpos q q
  have e1 : (a1 - b1) * (a1 - b1) = 0 := by
    simp only at h
    omega
  have e2 : (a2 - b2) * (a2 - b2) = 0 := by
    simp only at h
    omega
  have g1 : a1 - b1 = 0 := (Int.mul_eq_zero.mp e1).elim id id
  have g2 : a2 - b2 = 0 := (Int.mul_eq_zero.mp e2).elim id id
  rw [show a1 = b1 by omega, show a2 = b2 by omega]
end Lay
/-! LayCE: a dict comprehension that is assigned; words. -/
namespace Lay
open PySem PySem.Spec PyProof.Rows L2
section
variable {X : Cx}
theorem sw_trueD {kx vx : Expr} {gs : List Comprehension} {scope : Scope} {pos py : Pos} {y : Str} {l : Nat} {env : Env} (hk : env.scope.kind = .function) (hy : env.scope.names.lookup y = some .local) (hl : (py.line == pos.line) = true)
    (ha : (scope.names.any fun (n, k) => n == y && (k == .local || k == .cell)) = false) : swapsWith (.DictComp kx vx gs scope pos) (some (.Name y py)) l env = pure true := by
  have ky : env.kindOf y = some .local := hy
  have hb : env.blockKind = .function := by unfold Env.blockKind; rw [hk]; rfl
  unfold swapsWith
  simp only [hb, ky, ha, Expr.pos, hl]
  rfl
theorem ps_setDc {i : Nat} {y : Str} {py : Pos} {kx vx tg iter : Expr} {ifs : List Expr} {scope : Scope} {own : List (Str × Nat)} {pos spos : Pos} {wi : TI} {g : TG} {tt : L2.TT} {tk tv : TE} (hc : X.calm = true) (hN : X.N.Nodup) (hy : X.N[i]? = some y) (hyl : X.env.scope.names.lookup y = some .local)
    (hsw : swapsWith (.DictComp kx vx [⟨tg, iter, ifs, 0⟩] scope pos) (some (.Name y py)) spos.line X.env = pure true) (hi : PI X tg iter wi) (ok : BlkOk X.N X.env.scope scope own)
    (hg : ∀ (s : Shared) (H : Hp) (C : Addr) (cl : List (Str × Addr)) (fp : List Addr), PG (X.blk s H scope (compEnvC scope cl C X.env) fp) tg g) (ht : ∀ (s : Shared) (H : Hp) (C : Addr) (cl : List (Str × Addr)) (fp : List Addr), PTs (X.blk s H scope (compEnvC scope cl C X.env) fp) ifs tt)
    (hk : ∀ (s : Shared) (H : Hp) (C : Addr) (cl : List (Str × Addr)) (fp : List Addr), PE (X.blk s H scope (compEnvC scope cl C X.env) fp) kx tk)
    (he : ∀ (s : Shared) (H : Hp) (C : Addr) (cl : List (Str × Addr)) (fp : List Addr), PE (X.blk s H scope (compEnvC scope cl C X.env) fp) vx tv) (hs : ∀ x, foldedSetIterable iter X.env x = pure x := by intro _; rfl) :
    PS X (.Assign [.Name y py] (.DictComp kx vx [⟨tg, iter, ifs, 0⟩] scope pos) spos) (tAsg (tDc wi g tt tk tv (own.map (·.2))) (gName i)) := by
  refine ⟨fun pins s σ H D I h => ?_⟩
  rw [exec_Assign_Name_used _ _ _ _ hsw]
  refine wpAny_bind (wpAny_standAt (wpAny_bind ?_))
  show wpAny _ X.A (do let _ ← comprehension (.DictComp kx vx [⟨tg, iter, ifs, 0⟩] scope pos) scope X.env (firstIterPos [⟨tg, iter, ifs, 0⟩] pos) newDict false (eval iter X.env) (some (assign (.Name y py) X.env))) _ _ s
  have h : tDc wi g tt tk tv (own.map (·.2)) σ H (fun x H1 => gName i x σ H1 D.nx) := h
  refine wpAny_bind (thn (dc_core (Qf := fun _ s' => SP X pins D .next s') hc hN I hi ok hg ht hk he hs h fun L C s' m H' I' q hn f => ?_) fun _ s' hq => wpAny_pure (wpAny_pure hq))
  show wpAny _ _ (assign (.Name y py) X.env (.ref L)) _ _ _
  refine wpAny_assign_Name (store_ok2 (v := V.ref L) I' hN hy (.inl hyl) rfl (fun s2 I2 ⟨a, sb, ha⟩ => ?_) (.inr hyl))
  obtain ⟨f0, f1, f2, f3, f4, f5⟩ := f
  have haC : C ≠ a := by
    rcases ha with z | z
    · rw [z]; exact f1
    · exact fun e => f4 y a z e.symm
  refine ⟨m, hn.sameBut sb haC, fun h3 sb3 => ?_⟩
  exact ⟨_, H', I2.turned (t' := s2.toks) (fun b o hb e => (sb3.2 b hb).trans e) f0 f1 f3 f4 f5, q⟩
end
/-! words -/
section
variable {σ : L2.St} {H : Hp} {Q : VK} {K : PySem.W.Frag}
theorem rd_dget {td ty : TE} (q : td σ H fun x H1 => ty σ H1 fun y H2 => ∃ a v, x = .ref a ∧ DGet H2 a y (some v) ∧ Q v H2) : tDGet td ty σ H Q := q
theorem rd_din {td ty : TE} (q : ty σ H fun y H1 => td σ H1 fun x H2 => ∃ a o, x = .ref a ∧ DGet H2 a y o ∧ Q (.bl o.isSome) H2) : tDIn ty td σ H Q := q
theorem rd_dni {td ty : TE} (q : ty σ H fun y H1 => td σ H1 fun x H2 => ∃ a o, x = .ref a ∧ DGet H2 a y o ∧ Q (.bl (!o.isSome)) H2) : tDNotIn ty td σ H Q := q
theorem rd_keys {td : TE} {R : It → Hp → Prop} (q : td σ H fun x H1 => ∃ d o, x = .ref d ∧ ((∃ kvs, H1 d = some (.frz o (.dK kvs)) ∧ R (Itk d o kvs) H1) ∨ ∃ kvs, H1 d = some (.frz o (.dT kvs)) ∧ R (Itkt d o kvs) H1)) : iKeys td σ H R := q
theorem rd_vals {td : TE} {R : It → Hp → Prop} (q : td σ H fun x H1 => ∃ d o kvs, x = .ref d ∧ H1 d = some (.frz o (.dK kvs)) ∧ R (Itd d o kvs) H1) : iVals td σ H R := q
/-- p[z] of a placing -/
theorem plc_get {d : Addr} {ks : List Str} {f : Str → List Int} {z : Str} (h : Plc K H d ks f) {G : V → Prop} (m : z ∈ ks) (q : ∀ p, SqT K H p (sv (f z)) → G (.ref p)) : ∃ a v, V.ref d = .ref a ∧ DGet H a (.str z) (some v) ∧ G v := by
  obtain ⟨A, h1, h2⟩ := h
  exact ⟨d, _, rfl, get_f (.inl h1) m, q _ (h2 z m)⟩
theorem plc_in {d : Addr} {ks : List Str} {f : Str → List Int} {z : Str} (h : Plc K H d ks f) (m : z ∈ ks) {G : Option V → Prop} (q : ∀ v, G (some v)) : ∃ a o, V.ref d = .ref a ∧ DGet H a (.str z) o ∧ G o := by
  obtain ⟨A, h1, h2⟩ := h
  exact ⟨d, _, rfl, get_f (.inl h1) m, q _⟩
theorem Plc.dict {d : Addr} {ks : List Str} {f : Str → List Int} (h : Plc K H d ks f) : ∃ kvs, H d = some (.dK kvs) ∧ kvs.length = ks.length ∧ kvs.map (·.1) = ks.map Sum.inr := by
  obtain ⟨A, h1, _⟩ := h
  refine ⟨_, h1, List.length_map .., ?_⟩
  rw [List.map_map]
  rfl
/-- numbers that are short -/
def Bd (n : Nat) (x : Int) : Prop := x.natAbs < 2 ^ n
theorem Bd.mono {n m : Nat} {x : Int} (h : Bd n x) (l : n ≤ m) : Bd m x := Nat.lt_of_lt_of_le h (Nat.pow_le_pow_right (by decide) l)
theorem Bd.add {n m : Nat} {x y : Int} (h : Bd n x) (g : Bd m y) : Bd (max n m + 1) (x + y) := by
  have h1 := h.mono (Nat.le_max_left n m)
  have h2 := g.mono (Nat.le_max_right n m)
  unfold Bd at *
  rw [Nat.pow_succ]
  omega
theorem Bd.sub {n m : Nat} {x y : Int} (h : Bd n x) (g : Bd m y) : Bd (max n m + 1) (x - y) := by
  have h1 := h.mono (Nat.le_max_left n m)
  have h2 := g.mono (Nat.le_max_right n m)
  unfold Bd at *
  rw [Nat.pow_succ]
  omega
theorem Bd.mul {n m : Nat} {x y : Int} (h : Bd n x) (g : Bd m y) : Bd (n + m) (x * y) := by
  unfold Bd at *
  rw [Int.natAbs_mul, Nat.pow_add]
  have p : 0 < 2 ^ m := Nat.two_pow_pos m
  exact Nat.lt_of_le_of_lt (Nat.mul_le_mul_left _ (Nat.le_of_lt g)) (Nat.mul_lt_mul_of_pos_right h p)
theorem Bd.w {n m : Nat} {x y : Int} (h : Bd n x) (g : Bd m y) (l : n + m ≤ 900000) : CMulW x y := wide_mul (a := n + 1) (b := m + 1) (h.mono (Nat.le_succ n)) (g.mono (Nat.le_succ m)) (Nat.succ_pos _) (Nat.succ_pos _) (by omega)
theorem Bd.bits {n : Nat} {x : Int} (h : Bd n x) : Builtin.Int.intBits x ≤ n := intBits_le h
end
end Lay
/-! LayCF: [f(x, y) for x in names for y in names if b(x, y)], the names sorted anew each time. -/
namespace Lay
open PySem PySem.Spec PyProof.Rows L2
section
variable {σ : L2.St} {H : Hp} {Q : VK} {K : PySem.W.Frag}
theorem getD_ofS {zs : List Str} {k : Nat} (h : k < zs.length) : (zs.map V.str).getD k .non = .str zs[k] := by
  rw [List.getD_eq_getElem?_getD, List.getElem?_map, List.getElem?_eq_getElem h]; rfl
theorem take_more {α : Type} {zs : List α} {k : Nat} (h : k < zs.length) : zs.take (k + 1) = zs.take k ++ [zs[k]] := by
  rw [List.take_succ, List.getElem?_eq_getElem h]; rfl
theorem pls_more {H H' : Hp} {E t : Addr} {z : List (List Str)} {k : List Str} (h : PLs H E z) (s : Same H H') (ht : PT H' t k) : ∃ rs : List Addr, H' E = some (.lst (rs.map V.ref)) ∧ rs.length = z.length ∧ PLs (upd H' E (.lst (rs.map V.ref ++ [.ref t]))) E (z ++ [k]) := by
  obtain ⟨rs, h1, R⟩ := h
  have n : ∀ (r : Addr) (k : List Str), PT H' r k → PT (upd H' E (.lst (rs.map V.ref ++ [.ref t]))) r k := fun r k p => by
    unfold PT at *
    rw [upd_ne (fun e => by rw [e, s _ _ h1] at p; cases p)]
    exact p
  refine ⟨rs, s _ _ h1, R.1, rs ++ [t], by rw [upd_same, List.map_append]; rfl, ?_⟩
  exact (R.mono fun _ _ p => n _ _ (p.same s)).app ⟨rfl, fun i r x h1 h2 => by
    rcases i with _ | i
    · cases h1
      cases h2
      exact n _ _ ht
    · cases h1⟩
theorem lc2_names {wi wi1 : TI} {tt1 : L2.TT} {te : TE} {a b : Nat} (hab : a ≠ b) {zs : List Str} (few : zs.length ≤ 30) (bb : Str → Str → Bool) (f : Str → Str → List Str)
    (hi : ∀ R : It → Hp → Prop, (∀ l H1, Same H H1 → H1 l = some (.lst (zs.map V.str)) → R (Itl K l) H1) → wi σ H R)
    (hi1 : ∀ x ∈ zs, ∀ H', Same H H' → ∀ R : It → Hp → Prop, (∀ l H1, Same H' H1 → H' l = none → H1 l = some (.lst (zs.map V.str)) → R (Itl K l) H1) → wi1 ((wipe σ [a, b]).set a (some (.str x))) H' R)
    (ht : ∀ x ∈ zs, ∀ y ∈ zs, ∀ H', Same H H' → ∀ R : Bool → Hp → Prop, R (bb x y) H' → tt1 (((wipe σ [a, b]).set a (some (.str x))).set b (some (.str y))) H' R)
    (he : ∀ x ∈ zs, ∀ y ∈ zs, bb x y = true → ∀ H', Same H H' → ∀ R : VK, (∀ t H'', Same H' H'' → PT H'' t (f x y) → R (.ref t) H'') → te (((wipe σ [a, b]).set a (some (.str x))).set b (some (.str y))) H' R)
    (hd : ∀ H' D, Same H H' → PLs H' D (zs.flatMap fun x => (zs.filter (bb x)).map (f x)) → Q (.ref D) H') :
    tLc2 wi (gName a) tYes wi1 (gName b) tt1 te [a, b] [b] σ H Q := by
  have len1 : ∀ (x : Str) (us : List Str), ((us.filter (bb x)).map (f x)).length ≤ us.length := fun x us => by
    rw [List.length_map]; exact List.length_filter_le _ _
  have len : ∀ us : List Str, (us.flatMap fun x => (zs.filter (bb x)).map (f x)).length ≤ us.length * 30 := by
    intro us
    induction us with
    | nil => exact Nat.zero_le _
    | cons u us ih =>
      rw [List.flatMap_cons, List.length_append, List.length_cons]
      have := len1 u zs
      omega
  refine hi _ fun l H1 s1 hl => ?_
  intro E hE
  have w : Wk (Itl K l) (zs.map V.str).length (fun H' => SqL K H' l (zs.map V.str)) (fun i => (zs.map V.str).getD i .non) := wk_list .non
  refine ⟨fun k m H' => m = zs.length - k ∧ k ≤ zs.length ∧ Same H1 H' ∧ PLs H' E ((zs.take k).flatMap fun x => (zs.filter (bb x)).map (f x)), ⟨zs.length, rfl, Nat.zero_le _, same_up hE (Same.refl H1), [], upd_same, Rel.nil⟩, ?_⟩
  rintro k m H' ⟨rfl, hk, hs, hp⟩
  by_cases hlt : k < zs.length
  · have hlt' : k < (zs.map V.str).length := by rw [List.length_map]; exact hlt
    have mx : zs[k] ∈ zs := List.getElem_mem hlt
    refine Or.inr ⟨w.go k H' (SqL.of (hs _ _ hl)) hlt', fun H'' => Same H1 H'' ∧ PLs H'' E ((zs.take (k + 1)).flatMap fun x => (zs.filter (bb x)).map (f x)), fun H'' h => ⟨zs.length - (k + 1), by omega, rfl, hlt, h.1, h.2⟩, fun x H2 hy => ?_⟩
    obtain ⟨rfl, rfl⟩ := w.yld k H' x H2 (SqL.of (hs _ _ hl)) hlt' hy
    rw [getD_ofS hlt]
    refine ⟨wipe2 σ a b hab _, ?_⟩
    refine rd_yes ?_
    refine rd_ifb (fun _ => ?_) (fun z => nomatch z)
    refine hi1 _ mx H2 (s1.trans hs) _ fun l1 H4 s4 nl1 hl1 => ?_
    have nE : l1 ≠ E := fun e => by
      obtain ⟨_, h, _⟩ := hp
      rw [← e, nl1] at h
      cases h
    have w1 : Wk (Itl K l1) (zs.map V.str).length (fun H' => SqL K H' l1 (zs.map V.str)) (fun i => (zs.map V.str).getD i .non) := wk_list .non
    refine ⟨fun j q H' => q = zs.length - j ∧ j ≤ zs.length ∧ Same H1 H' ∧ H' l1 = some (.lst (zs.map V.str)) ∧ PLs H' E (((zs.take k).flatMap fun x => (zs.filter (bb x)).map (f x)) ++ ((zs.take j).filter (bb zs[k])).map (f zs[k])), ⟨zs.length, rfl, Nat.zero_le _, hs.trans s4, hl1, by
      rw [List.take_zero, List.filter_nil, List.map_nil, List.append_nil]
      exact hp.same s4⟩, ?_⟩
    rintro j q H5 ⟨rfl, hj, hs5, hl5, hp5⟩
    by_cases hlj : j < zs.length
    · have hlj' : j < (zs.map V.str).length := by rw [List.length_map]; exact hlj
      have my : zs[j] ∈ zs := List.getElem_mem hlj
      refine Or.inr ⟨w1.go j H5 (SqL.of hl5) hlj', fun H'' => Same H1 H'' ∧ H'' l1 = some (.lst (zs.map V.str)) ∧ PLs H'' E (((zs.take k).flatMap fun x => (zs.filter (bb x)).map (f x)) ++ ((zs.take (j + 1)).filter (bb zs[k])).map (f zs[k])), fun H'' h => ⟨zs.length - (j + 1), by omega, rfl, hlj, h.1, h.2⟩, fun x H6 hy => ?_⟩
      obtain ⟨rfl, rfl⟩ := w1.yld j H5 x H6 (SqL.of hl5) hlj' hy
      rw [getD_ofS hlj, wipe_in σ a b hab]
      refine ⟨?_, ?_⟩
      · show ((((wipe σ [a, b]).set a (some (.str zs[k]))).set b (some (.str zs[j])))).set b none = _
        rw [List.set_set]
        exact (wipe_in σ a b hab _).trans rfl
      refine ht _ mx _ my H6 (s1.trans hs5) _ ?_
      refine rd_ifb (fun hb => ?_) (fun hb => ?_)
      · refine he _ mx _ my hb H6 (s1.trans hs5) _ fun t H7 s7 ht7 => ?_
        obtain ⟨rs, e1, e2, e3⟩ := pls_more hp5 s7 ht7
        refine ⟨_, e1, ?_, same_up hE (hs5.trans s7), ?_, ?_⟩
        · rw [List.length_map, e2, List.length_append]
          have h1 := len (zs.take k)
          have h2 := len1 zs[k] (zs.take j)
          have h3 : (zs.take k).length ≤ 30 := by rw [List.length_take]; omega
          have h4 : (zs.take j).length ≤ 30 := by rw [List.length_take]; omega
          exact Nat.lt_of_le_of_lt (by omega : _ ≤ 1000) (by decide)
        · rw [upd_ne nE]
          exact s7 _ _ hl5
        · rw [take_more hlj, List.filter_append, List.map_append, List.filter_cons, if_pos hb, ← List.append_assoc]
          exact e3
      · refine ⟨hs5, hl5, ?_⟩
        rw [take_more hlj, List.filter_append, List.filter_cons, if_neg (by rw [hb]; exact Bool.false_ne_true), List.filter_nil, List.append_nil]
        exact hp5
    · have e : j = zs.length := by omega
      subst e
      have st := w1.stop H5 (SqL.of hl5)
      rw [List.length_map] at st
      refine Or.inl ⟨st, hs5, ?_⟩
      rw [List.take_length] at hp5
      rw [take_more hlt, List.flatMap_append]
      simp only [List.flatMap_cons, List.flatMap_nil, List.append_nil]
      exact hp5
  · have e : k = zs.length := by omega
    subst e
    have st := w.stop H' (SqL.of (hs _ _ hl))
    rw [List.length_map] at st
    rw [List.take_length] at hp
    exact Or.inl ⟨st, hd H' E (s1.trans hs) hp⟩
end
end Lay
/-! LayCG: [f(z) for z in names], each f(z) a tuple; dict(..) of such pairs. -/
namespace Lay
open PySem PySem.Spec PyProof.Rows L2
/-- tuples stay -/
def Tups (H H' : Hp) : Prop := ∀ b xs, H b = some (.tup xs) → H' b = some (.tup xs)
section
variable {σ : L2.St} {H H1 : Hp} {Q : VK} {K : PySem.W.Frag}
theorem Rel.snoc {α β : Type} {P : α → β → Prop} {rs : List α} {z : List β} {t : α} {k : β} (h : Rel P rs z) (g : P t k) : Rel P (rs ++ [t]) (z ++ [k]) := h.app ⟨rfl, fun i r x h1 h2 => by
  rcases i with _ | i
  · cases h1
    cases h2
    exact g
  · cases h1⟩
theorem lc_namesS {J : It} {n : Nat} {G : Hp → Prop} {item : Nat → V} (w : Wk J n G item) {i : Nat} {te : TE} {E : Addr} {zs : List Str} (hz : zs.length = n) (hi : ∀ (j : Nat) (z : Str), zs[j]? = some z → item j = .str z) (hn : n ≤ 1000) (hE : H1 E = none) (hG : ∀ H', Same H1 H' → G H')
    (F : Addr → Str → Hp → Prop) (mono : ∀ t z H H', Tups H H' → F t z H → F t z H')
    (he : ∀ z ∈ zs, ∀ H', Same H1 H' → ∀ R : VK, (∀ t H'', Same H' H'' → F t z H'' → R (.ref t) H'') → te ((wipe σ [i]).set i (some (.str z))) H' R)
    (hd : ∀ (rs : List Addr) H', Rel (fun t z => F t z H') rs zs → Same H1 H' → H' E = some (.lst (rs.map V.ref)) → Q (.ref E) H') : LcAt J (gName i) tYes te [i] σ E H1 Q := by
  refine ⟨fun k m H' => m = n - k ∧ k ≤ n ∧ Same H1 H' ∧ ∃ rs : List Addr, Rel (fun t z => F t z H') rs (zs.take k) ∧ H' E = some (.lst (rs.map V.ref)), ⟨n, rfl, Nat.zero_le _, same_up hE (Same.refl H1), [], Rel.nil, upd_same⟩, ?_⟩
  rintro k m H' ⟨rfl, hk, hs, rs, R, hl⟩
  have lr := R.1
  rw [List.length_take] at lr
  by_cases lt : k < n
  · have ltz : k < zs.length := by omega
    refine Or.inr ⟨w.go k H' (hG H' hs) lt, fun H'' => Same H1 H'' ∧ ∃ rs : List Addr, Rel (fun t z => F t z H'') rs (zs.take (k + 1)) ∧ H'' E = some (.lst (rs.map V.ref)), fun H'' h => ⟨n - (k + 1), by omega, rfl, lt, h⟩, fun x H2 hy => ?_⟩
    obtain ⟨rfl, rfl⟩ := w.yld k H' x H2 (hG H' hs) lt hy
    rw [hi k _ (List.getElem?_eq_getElem ltz)]
    refine ⟨wipe1 σ i _, ?_⟩
    refine rd_yes ?_
    refine rd_ifb (fun _ => ?_) (fun z => nomatch z)
    refine he _ (List.getElem_mem ltz) H2 hs _ fun t H4 s4 hF => ?_
    have e4 := s4 _ _ hl
    have u4 : Tups H4 (upd H4 E (.lst (rs.map V.ref ++ [.ref t]))) := fun b xs e => by rw [upd_ne (fun q => by rw [q, e4] at e; cases e)]; exact e
    refine ⟨_, e4, Nat.lt_of_le_of_lt (by rw [List.length_map]; omega : _ ≤ 1000) (by decide), same_up hE (hs.trans s4), rs ++ [t], ?_, by rw [upd_same, List.map_append]; rfl⟩
    rw [take_more ltz]
    exact Rel.snoc (R.mono fun _ _ p => mono _ _ _ _ u4 (mono _ _ _ _ (fun b xs e => s4 b _ e) p)) (mono _ _ _ _ u4 hF)
  · obtain rfl : k = n := by omega
    rw [← hz, List.take_length] at R
    exact Or.inl ⟨w.stop H' (hG H' hs), hd rs H' R hs hl⟩
theorem lc_namesB {J : It} {n : Nat} {G : Hp → Prop} {item : Nat → V} (w : Wk J n G item) {i : Nat} {te : TE} {E a : Addr} {zs : List Str} (hz : zs.length = n) (hi : ∀ (j : Nat) (z : Str), zs[j]? = some z → item j = .str z) (hn : n ≤ 1000) (hE : H1 E = none) (hb : BagAt H1 a) (hG : ∀ H', But a H1 H' → G H')
    (F : Addr → Str → Hp → Prop) (mono : ∀ t z H H', Tups H H' → F t z H → F t z H')
    (he : ∀ z ∈ zs, ∀ H', But a H1 H' → BagAt H' a → ∀ R : VK, (∀ t H'', But a H' H'' → BagAt H'' a → F t z H'' → R (.ref t) H'') → te ((wipe σ [i]).set i (some (.str z))) H' R)
    (hd : ∀ (rs : List Addr) H', Rel (fun t z => F t z H') rs zs → But a H1 H' → BagAt H' a → H' E = some (.lst (rs.map V.ref)) → Q (.ref E) H') : LcAt J (gName i) tYes te [i] σ E H1 Q := by
  have nE : E ≠ a := fun z => by
    obtain ⟨_, _, _, e, _⟩ := hb
    rw [← z, hE] at e
    cases e
  refine ⟨fun k m H' => m = n - k ∧ k ≤ n ∧ But a H1 H' ∧ BagAt H' a ∧ ∃ rs : List Addr, Rel (fun t z => F t z H') rs (zs.take k) ∧ H' E = some (.lst (rs.map V.ref)), ⟨n, rfl, Nat.zero_le _, But.new hE, BagAt.old hE hb, [], Rel.nil, upd_same⟩, ?_⟩
  rintro k m H' ⟨rfl, hk, bu, hb', rs, R, hl⟩
  have lr := R.1
  rw [List.length_take] at lr
  by_cases lt : k < n
  · have ltz : k < zs.length := by omega
    refine Or.inr ⟨w.go k H' (hG H' bu) lt, fun H'' => But a H1 H'' ∧ BagAt H'' a ∧ ∃ rs : List Addr, Rel (fun t z => F t z H'') rs (zs.take (k + 1)) ∧ H'' E = some (.lst (rs.map V.ref)), fun H'' h => ⟨n - (k + 1), by omega, rfl, lt, h⟩, fun x H2 hy => ?_⟩
    obtain ⟨rfl, rfl⟩ := w.yld k H' x H2 (hG H' bu) lt hy
    rw [hi k _ (List.getElem?_eq_getElem ltz)]
    refine ⟨wipe1 σ i _, ?_⟩
    refine rd_yes ?_
    refine rd_ifb (fun _ => ?_) (fun z => nomatch z)
    refine he _ (List.getElem_mem ltz) H2 bu hb' _ fun t H4 b4 g4 hF => ?_
    have e4 := b4 _ _ nE hl
    have u4 : Tups H4 (upd H4 E (.lst (rs.map V.ref ++ [.ref t]))) := fun b xs e => by rw [upd_ne (fun q => by rw [q, e4] at e; cases e)]; exact e
    have u3 : Tups H2 H4 := fun b xs e => b4 b _ (fun q => by
      obtain ⟨_, _, _, ea, _⟩ := hb'
      rw [q, ea] at e
      cases e) e
    refine ⟨_, e4, Nat.lt_of_le_of_lt (by rw [List.length_map]; omega : _ ≤ 1000) (by decide), fun b o nb e => ?_, ?_, rs ++ [t], ?_, by rw [upd_same, List.map_append]; rfl⟩
    · rw [upd_ne (ne_of_none e hE)]
      exact b4 b o nb (bu b o nb e)
    · obtain ⟨g, m, c, ea, r⟩ := g4
      exact ⟨g, m, c, by rw [upd_ne nE.symm]; exact ea, r⟩
    · rw [take_more ltz]
      exact Rel.snoc (R.mono fun _ _ p => mono _ _ _ _ u4 (mono _ _ _ _ u3 p)) (mono _ _ _ _ u4 hF)
  · obtain rfl : k = n := by omega
    rw [← hz, List.take_length] at R
    exact Or.inl ⟨w.stop H' (hG H' bu), hd rs H' R bu hb' hl⟩
/-- a pair of a name and a spot that was made -/
def Pr (C : Str → Int × Int → Prop) (t : Addr) (z : Str) (H : Hp) : Prop := ∃ q s, H t = some (.tup [.str z, .ref q]) ∧ C z s ∧ H q = some (.tup (sv [s.1, s.2]))
theorem Pr.mono {C : Str → Int × Int → Prop} (t : Addr) (z : Str) (H H' : Hp) (u : Tups H H') (h : Pr C t z H) : Pr C t z H' := by
  obtain ⟨q, s, h1, h2, h3⟩ := h
  exact ⟨q, s, u _ _ h1, h2, u _ _ h3⟩
theorem pairs_back {C : Str → Int × Int → Prop} : ∀ {P : List Str} {rs : List Addr}, Rel (fun t z => Pr C t z H) rs P → P.Nodup → ∃ (fD : Str → V) (f : Str → Int × Int), Paired (fun (p : Addr) (kv : Key × V) => SqT K H p [kV kv.1, kv.2]) rs (P.map fun z => (Sum.inr z, fD z)) ∧
    ∀ z ∈ P, C z (f z) ∧ ∃ p, fD z = .ref p ∧ H p = some (.tup (sv [(f z).1, (f z).2]))
  | [], [], _, _ => ⟨fun _ => .non, fun _ => (0, 0), .nil, fun z h => nomatch h⟩
  | [], _ :: _, R, _ => nomatch R.1
  | _ :: _, [], R, _ => nomatch R.1
  | z :: P, t :: rs, R, nd => by
    obtain ⟨⟨q, s, h1, h2, h3⟩, T⟩ := R.tail
    have nd' := List.nodup_cons.mp nd
    obtain ⟨fD, f, pp, all⟩ := pairs_back T nd'.2
    refine ⟨fun y => if y = z then .ref q else fD y, fun y => if y = z then s else f y, ?_, fun y hy => ?_⟩
    · rw [List.map_cons]
      refine .cons ?_ ?_
      · show SqT K H t [.str z, if z = z then .ref q else fD z]
        rw [if_pos rfl]
        exact SqT.of h1
      · have e : (P.map fun y => ((Sum.inr y : Key), if y = z then .ref q else fD y)) = P.map fun y => (Sum.inr y, fD y) := List.map_congr_left fun y hy => by
          rw [if_neg (fun e : y = z => nd'.1 (e ▸ hy))]
        rw [e]
        exact pp
    · show C y (if y = z then s else f y) ∧ ∃ p, (if y = z then V.ref q else fD y) = .ref p ∧ H p = some (.tup (sv [(if y = z then s else f y).1, (if y = z then s else f y).2]))
      by_cases e : y = z
      · rw [if_pos e, if_pos e]
        rw [e]
        exact ⟨h2, q, rfl, h3⟩
      · rw [if_neg e, if_neg e]
        rcases List.mem_cons.mp hy with h | h
        · exact absurd h e
        · exact all y h
end
end Lay
namespace K13
open PySem PySem.Spec PyProof.Rows L2 Lay

def top (i : Nat) : Stmt := PySem.Challenge.pw_lengthstell_k13_whole_mirrored_placings.main.body.getD i (.Pass ⟨0, 0, 0, 0⟩)
abbrev s_wall : Stmt := top 0
theorem sc_wall : FnScope ["k"] ["k"] (defScope s_wall) := ⟨rfl, rfl, rfl, by decide +kernel, rfl, by decide +kernel, by decide +kernel⟩
abbrev sproduct_of : Stmt := top 2
theorem scproduct_of : FnScope ["row", "other", "entry", "against"] ["row", "other"] (defScope sproduct_of) := ⟨rfl, rfl, rfl, by decide +kernel, rfl, by decide +kernel, by decide +kernel⟩
abbrev sis_integer : Stmt := top 13
theorem scis_integer : FnScope ["value"] ["value"] (defScope sis_integer) := ⟨rfl, rfl, rfl, by decide +kernel, rfl, by decide +kernel, by decide +kernel⟩
abbrev shas_digits : Stmt := top 14
theorem schas_digits : FnScope ["number", "most"] ["number", "most"] (defScope shas_digits) := ⟨rfl, rfl, rfl, by decide +kernel, rfl, by decide +kernel, by decide +kernel⟩
abbrev s_least_longer : Stmt := top 15
theorem sc_least_longer : FnScope ["digits", "number", "_"] ["digits"] (defScope s_least_longer) := ⟨rfl, rfl, rfl, by decide +kernel, rfl, by decide +kernel, by decide +kernel⟩
abbrev sis_name : Stmt := top 16
theorem scis_name : FnScope ["value", "letter"] ["value"] (defScope sis_name) := ⟨rfl, rfl, rfl, by decide +kernel, rfl, by decide +kernel, by decide +kernel⟩
abbrev sare_names : Stmt := top 17
theorem scare_names : FnScope ["value", "name"] ["value"] (defScope sare_names) := ⟨rfl, rfl, rfl, by decide +kernel, rfl, by decide +kernel, by decide +kernel⟩
abbrev sis_lot : Stmt := top 18
theorem scis_lot : FnScope ["value"] ["value"] (defScope sis_lot) := ⟨rfl, rfl, rfl, by decide +kernel, rfl, by decide +kernel, by decide +kernel⟩
abbrev sis_pair : Stmt := top 19
theorem scis_pair : FnScope ["value"] ["value"] (defScope sis_pair) := ⟨rfl, rfl, rfl, by decide +kernel, rfl, by decide +kernel, by decide +kernel⟩
abbrev sis_ascending : Stmt := top 20
theorem scis_ascending : FnScope ["values", "at"] ["values"] (defScope sis_ascending) := ⟨rfl, rfl, rfl, by decide +kernel, rfl, by decide +kernel, by decide +kernel⟩
abbrev sFrame___init__ : Stmt := inClass (top 23) 0
theorem scFrame___init__ : FnScope ["self", "pins", "rods"] ["self", "pins", "rods"] (defScope sFrame___init__) := ⟨rfl, rfl, rfl, by decide +kernel, rfl, by decide +kernel, by decide +kernel⟩
abbrev sFrame_pins : Stmt := inClass (top 23) 2
theorem scFrame_pins : FnScope ["self"] ["self"] (defScope sFrame_pins) := ⟨rfl, rfl, rfl, by decide +kernel, rfl, by decide +kernel, by decide +kernel⟩
abbrev sFrame_rods : Stmt := inClass (top 23) 3
theorem scFrame_rods : FnScope ["self"] ["self"] (defScope sFrame_rods) := ⟨rfl, rfl, rfl, by decide +kernel, rfl, by decide +kernel, by decide +kernel⟩
abbrev spairs_among : Stmt := top 24
theorem scpairs_among : FnScope ["pins", "one", "other"] ["pins"] (defScope spairs_among) := ⟨rfl, rfl, rfl, by decide +kernel, rfl, by decide +kernel, by decide +kernel⟩
abbrev sis_lot_of : Stmt := top 25
theorem scis_lot_of : FnScope ["pins", "value", "pin"] ["pins", "value"] (defScope sis_lot_of) := ⟨rfl, rfl, rfl, by decide +kernel, rfl, by decide +kernel, by decide +kernel⟩
abbrev srods_within : Stmt := top 26
theorem scrods_within : FnScope ["rods", "lot", "one", "other"] ["rods", "lot"] (defScope srods_within) := ⟨rfl, rfl, rfl, by decide +kernel, rfl, by decide +kernel, by decide +kernel⟩
abbrev s_are_pins : Stmt := top 27
theorem sc_are_pins : FnScope ["value"] ["value"] (defScope s_are_pins) := ⟨rfl, rfl, rfl, by decide +kernel, rfl, by decide +kernel, by decide +kernel⟩
abbrev s_are_rods : Stmt := top 28
theorem sc_are_rods : FnScope ["pins", "value", "rod"] ["pins", "value"] (defScope s_are_rods) := ⟨rfl, rfl, rfl, by decide +kernel, rfl, by decide +kernel, by decide +kernel⟩
abbrev scheck_frame : Stmt := top 30
theorem sccheck_frame : FnScope ["frame"] ["frame"] (defScope scheck_frame) := ⟨rfl, rfl, rfl, by decide +kernel, rfl, by decide +kernel, by decide +kernel⟩
abbrev sis_spot : Stmt := top 32
theorem scis_spot : FnScope ["value", "space", "number"] ["value", "space"] (defScope sis_spot) := ⟨rfl, rfl, rfl, by decide +kernel, rfl, by decide +kernel, by decide +kernel⟩
abbrev sare_spots : Stmt := top 33
theorem scare_spots : FnScope ["pins", "value", "space", "pin"] ["pins", "value", "space"] (defScope sare_spots) := ⟨rfl, rfl, rfl, by decide +kernel, rfl, by decide +kernel, by decide +kernel⟩
abbrev scheck_placing : Stmt := top 34
theorem sccheck_placing : FnScope ["frame", "placing"] ["frame", "placing"] (defScope scheck_placing) := ⟨rfl, rfl, rfl, by decide +kernel, rfl, by decide +kernel, by decide +kernel⟩
abbrev scheck_free_placing : Stmt := top 35
theorem sccheck_free_placing : FnScope ["placing"] ["placing"] (defScope scheck_free_placing) := ⟨rfl, rfl, rfl, by decide +kernel, rfl, by decide +kernel, by decide +kernel⟩
abbrev scheck_pin_placed : Stmt := top 36
theorem sccheck_pin_placed : FnScope ["placing", "pin"] ["placing", "pin"] (defScope scheck_pin_placed) := ⟨rfl, rfl, rfl, by decide +kernel, rfl, by decide +kernel, by decide +kernel⟩
abbrev sspace_in : Stmt := top 37
theorem scspace_in : FnScope ["placing", "spot"] ["placing"] (defScope sspace_in) := ⟨rfl, rfl, rfl, by decide +kernel, rfl, by decide +kernel, by decide +kernel⟩
abbrev s_is_any_placing : Stmt := top 38
theorem sc_is_any_placing : FnScope ["value", "pin"] ["value"] (defScope s_is_any_placing) := ⟨rfl, rfl, rfl, by decide +kernel, rfl, by decide +kernel, by decide +kernel⟩
abbrev ssquares : Stmt := top 40
theorem scsquares : FnScope ["frame", "placing"] ["frame", "placing"] (defScope ssquares) := ⟨rfl, rfl, rfl, by decide +kernel, rfl, by decide +kernel, by decide +kernel⟩
abbrev sare_alike : Stmt := top 41
theorem scare_alike : FnScope ["placing", "other_placing", "pairs"] ["placing", "other_placing"] (defScope sare_alike) := ⟨rfl, rfl, rfl, by decide +kernel, rfl, by decide +kernel, by decide +kernel⟩
abbrev smirrored : Stmt := top 42
theorem scmirrored : FnScope ["placing", "one", "other", "side", "scale", "first", "second", "pin"] ["placing", "one", "other", "side"] (defScope smirrored) := ⟨rfl, rfl, rfl, by decide +kernel, rfl, by decide +kernel, by decide +kernel⟩
abbrev s_sum : Stmt := top 43
theorem sc_sum : FnScope ["spot", "other", "number", "further"] ["spot", "other"] (defScope s_sum) := ⟨rfl, rfl, rfl, by decide +kernel, rfl, by decide +kernel, by decide +kernel⟩
abbrev s_difference : Stmt := top 44
theorem sc_difference : FnScope ["spot", "other", "number", "less"] ["spot", "other"] (defScope s_difference) := ⟨rfl, rfl, rfl, by decide +kernel, rfl, by decide +kernel, by decide +kernel⟩
abbrev s_multiple : Stmt := top 45
theorem sc_multiple : FnScope ["spot", "scale", "number"] ["spot", "scale"] (defScope s_multiple) := ⟨rfl, rfl, rfl, by decide +kernel, rfl, by decide +kernel, by decide +kernel⟩
abbrev s_square : Stmt := top 46
theorem sc_square : FnScope ["spot", "other", "apart"] ["spot", "other"] (defScope s_square) := ⟨rfl, rfl, rfl, by decide +kernel, rfl, by decide +kernel, by decide +kernel⟩
abbrev s_squares_of : Stmt := top 47
theorem sc_squares_of : FnScope ["pairs", "placing", "one", "other"] ["pairs", "placing"] (defScope s_squares_of) := ⟨rfl, rfl, rfl, by decide +kernel, rfl, by decide +kernel, by decide +kernel⟩
abbrev s_mirror_image : Stmt := top 48
theorem sc_mirror_image : FnScope ["spot", "start", "end", "along", "away", "scale", "foot", "back"] ["spot", "start", "end"] (defScope s_mirror_image) := ⟨rfl, rfl, rfl, by decide +kernel, rfl, by decide +kernel, by decide +kernel⟩
abbrev s_law_bag : Stmt := top 50
theorem sc_law_bag : FnScope ["_law_script", "_law_at", "_law_cell", "_law_great", "_law_mixed"] ["_law_script", "_law_at"] (defScope s_law_bag) := ⟨rfl, rfl, rfl, by decide +kernel, rfl, by decide +kernel, by decide +kernel⟩
abbrev s_law_draw : Stmt := top 51
theorem sc_law_draw : FnScope ["_law_bag_here", "_law_total", "_law_found", "_law_one", "_law_two"] ["_law_bag_here", "_law_total"] (defScope s_law_draw) := ⟨rfl, rfl, rfl, by decide +kernel, rfl, by decide +kernel, by decide +kernel⟩
abbrev s_law_one_of : Stmt := top 52
theorem sc_law_one_of : FnScope ["_law_bag_here", "_law_items"] ["_law_bag_here", "_law_items"] (defScope s_law_one_of) := ⟨rfl, rfl, rfl, by decide +kernel, rfl, by decide +kernel, by decide +kernel⟩
abbrev s_law_shuffled : Stmt := top 53
theorem sc_law_shuffled : FnScope ["_law_bag_here", "_law_items", "_law_waits", "_law_turn"] ["_law_bag_here", "_law_items"] (defScope s_law_shuffled) := ⟨rfl, rfl, rfl, by decide +kernel, rfl, by decide +kernel, by decide +kernel⟩
abbrev s_law_some_of : Stmt := top 54
theorem sc_law_some_of : FnScope ["_law_bag_here", "_law_items", "_law_size", "_law_one"] ["_law_bag_here", "_law_items", "_law_size"] (defScope s_law_some_of) := ⟨rfl, rfl, rfl, by decide +kernel, rfl, by decide +kernel, by decide +kernel⟩
abbrev s_law_names : Stmt := top 55
theorem sc_law_names : FnScope ["_law_bag_here", "_law_many", "_law_some"] ["_law_bag_here", "_law_many"] (defScope s_law_names) := ⟨rfl, rfl, rfl, by decide +kernel, rfl, by decide +kernel, by decide +kernel⟩
abbrev s_law_pairs_of : Stmt := top 56
theorem sc_law_pairs_of : FnScope ["_law_pins", "_law_found", "_law_at", "_law_other"] ["_law_pins"] (defScope s_law_pairs_of) := ⟨rfl, rfl, rfl, by decide +kernel, rfl, by decide +kernel, by decide +kernel⟩
abbrev s_law_lot : Stmt := top 57
theorem sc_law_lot : FnScope ["_law_bag_here", "_law_items"] ["_law_bag_here", "_law_items"] (defScope s_law_lot) := ⟨rfl, rfl, rfl, by decide +kernel, rfl, by decide +kernel, by decide +kernel⟩
abbrev s_law_spot : Stmt := top 58
theorem sc_law_spot : FnScope ["_law_bag_here", "_law_space", "_law_spread", "_law_turn"] ["_law_bag_here", "_law_space", "_law_spread"] (defScope s_law_spot) := ⟨rfl, rfl, rfl, by decide +kernel, rfl, by decide +kernel, by decide +kernel⟩
abbrev s_law_placing : Stmt := top 59
theorem sc_law_placing : FnScope ["_law_bag_here", "_law_pins", "_law_space", "_law_spread", "_law_pin"] ["_law_bag_here", "_law_pins", "_law_space", "_law_spread"] (defScope s_law_placing) := ⟨rfl, rfl, rfl, by decide +kernel, rfl, by decide +kernel, by decide +kernel⟩
abbrev s_law_is_turned : Stmt := top 60
theorem sc_law_is_turned : FnScope ["_law_one", "_law_two", "_law_three"] ["_law_one", "_law_two", "_law_three"] (defScope s_law_is_turned) := ⟨rfl, rfl, rfl, by decide +kernel, rfl, by decide +kernel, by decide +kernel⟩
abbrev s_law_square : Stmt := top 61
theorem sc_law_square : FnScope ["_law_placing_here", "_law_one", "_law_other", "_law_here", "_law_there"] ["_law_placing_here", "_law_one", "_law_other"] (defScope s_law_square) := ⟨rfl, rfl, rfl, by decide +kernel, rfl, by decide +kernel, by decide +kernel⟩
abbrev s_law_mirrored : Stmt := top 62
theorem sc_law_mirrored : FnScope ["_law_start", "_law_end", "_law_spot_here", "_law_x", "_law_y", "_law_across", "_law_upward", "_law_size", "_law_far", "_law_skew"] ["_law_start", "_law_end", "_law_spot_here"] (defScope s_law_mirrored) := ⟨rfl, rfl, rfl, by decide +kernel, rfl, by decide +kernel, by decide +kernel⟩
abbrev s_law_right : Stmt := top 63
theorem sc_law_right : FnScope ["_law_bag_here", "_law_pins", "_law_placing_here", "_law_one", "_law_other", "_law_rest", "_law_side", "_law_size", "_law_start", "_law_end", "_law_first", "_law_second", "_law_told", "_law_apart", "_law_frame", "_law_off", "_law_is_plain", "_law_pin", "_law_pair"] ["_law_bag_here"] (defScope s_law_right) := ⟨rfl, rfl, rfl, by decide +kernel, rfl, by decide +kernel, by decide +kernel⟩
abbrev slaw : Stmt := top 64
theorem sclaw : FnScope ["_law_script", "_law_at", "_law_bag_here", "_law_square_here", "_law_first", "_law_second"] ["_law_script"] (defScope slaw) := ⟨rfl, rfl, rfl, by decide +kernel, rfl, by decide +kernel, by decide +kernel⟩
structure Bi (mg : Str → Option Value) : Prop where
  b_abs : mg "abs" = none
  b_all : mg "all" = none
  b_bool : mg "bool" = none
  b_dict : mg "dict" = none
  b_int : mg "int" = none
  b_isinstance : mg "isinstance" = none
  b_len : mg "len" = none
  b_list : mg "list" = none
  b_max : mg "max" = none
  b_min : mg "min" = none
  b_range : mg "range" = none
  b_set : mg "set" = none
  b_sorted : mg "sorted" = none
  b_str : mg "str" = none
  b_sum : mg "sum" = none
  b_tuple : mg "tuple" = none
  b_zip : mg "zip" = none
  c_MAX_DIGITS : ∃ t, mg "MAX_DIGITS" = some (.int 2000 t)
  c_MAX_LETTERS : ∃ t, mg "MAX_LETTERS" = some (.int 4 t)
  c_MAX_PINS : ∃ t, mg "MAX_PINS" = some (.int 8 t)
/-- what the top has written of the class -/
structure FrmKFrame (K : PySem.W.Frag) (mg : Str → Option Value) (CFrame e0 : Addr) : Prop where
  cl : Cls K CFrame
  ins : InC K CFrame
  gC : mg "Frame" = some (.ref CFrame)
  n_pins : NoAttr K CFrame "_pins"
  n_rods : NoAttr K CFrame "_rods"
  em : ∃ (o : Obj) (n : Nat), K.lookup e0 = some o ∧ o.cls = .type "tuple" ∧ o.data = .seq #[] n
def okc (c : Nat) : Bool := !decide ([c] < [97]) && !decide ([122] < [c])
theorem okc_a {c : Nat} (h : okc c = true) : (!decide ([c] < ("a" : Str).cps.toList)) = true := by
  have e : ("a" : Str).cps.toList = [97] := by decide +kernel
  rw [e]
  unfold okc at h
  rw [Bool.and_eq_true] at h
  exact h.1
theorem okc_z {c : Nat} (h : okc c = true) : (!decide (("z" : Str).cps.toList < [c])) = true := by
  have e : ("z" : Str).cps.toList = [122] := by decide +kernel
  rw [e]
  unfold okc at h
  rw [Bool.and_eq_true] at h
  exact h.2
theorem okc_lt {c : Nat} (h : okc c = true) : c < 1114112 := by
  unfold okc at h
  rw [Bool.and_eq_true, Bool.not_eq_true', Bool.not_eq_true', decide_eq_false_iff_not, decide_eq_false_iff_not] at h
  have h2 := h.2
  rw [List.cons_lt_cons_iff] at h2
  omega
/-- a name -/
def Nm (z : Str) : Prop := 1 ≤ z.length ∧ z.length ≤ 4 ∧ ∀ c ∈ z.cps.toList, okc c = true
theorem Nm.sok {z : Str} (h : Nm z) : Sok z := fun c hc => okc_lt (h.2.2 c hc)
/-- a pair of names, ascending -/
def PairOk (k : List Str) : Prop := ∃ x y, k = [x, y] ∧ Nm x ∧ Nm y ∧ x.cps.toList < y.cps.toList
theorem PairOk.ok {k : List Str} (h : PairOk k) : OkP k := by
  obtain ⟨x, y, rfl, hx, hy, _⟩ := h
  intro z hz
  rcases List.mem_cons.mp hz with e | e
  · rw [e]; exact hx.sok
  · rw [List.mem_singleton.mp e]; exact hy.sok
theorem rising_asc : ∀ {x : Str} {l : List Str}, risingS x l = true → (x :: l).Nodup → Asc PyData.str (x :: l)
  | x, [], _, _ => List.pairwise_singleton _ _
  | x, y :: r, h, nd => by
    have h : (!ltCps y.cps.toList x.cps.toList && risingS y r) = true := h
    rw [Bool.and_eq_true, Bool.not_eq_true', ltCps_eq] at h
    have nd' := List.nodup_cons.mp nd
    have ih := rising_asc h.2 nd'.2
    have xy : W.dataLt (.str x) (.str y) = true := enc_str.tri (fun e => nd'.1 (e ▸ List.mem_cons_self)) (by rw [W.dataLt_str]; exact h.1)
    refine List.pairwise_cons.mpr ⟨fun z hz => ?_, ih⟩
    rcases List.mem_cons.mp hz with e | e
    · rw [e]; exact xy
    · exact dlt_trans xy ((List.pairwise_cons.mp ih).1 z e)
theorem sorted_asc {l : List Str} (h : sortedS l = true) (nd : l.Nodup) : Asc PyData.str l := by
  cases l with
  | nil => exact .nil
  | cons x l => exact rising_asc h nd
theorem name_yes {z : Str} (h : Nm z) : ((List.range z.cps.size).map (fun j => okc (z.cps.toList.getD j 0))).all id = true := by
  rw [List.all_map, List.all_eq_true]
  intro j hj
  have hj : j < z.cps.toList.length := by rw [Array.length_toList]; exact List.mem_range.mp hj
  refine h.2.2 _ ?_
  rw [List.getD_eq_getElem?_getD, List.getElem?_eq_getElem hj]
  exact List.getElem_mem hj
theorem yes_all (n : Nat) : ((List.range n).map fun _ => true).all id = true := by
  rw [List.all_map, List.all_eq_true]
  intro j _
  rfl
/-- an ascending list of names -/
structure PinsOk (P : List Str) : Prop where
  asc : Asc PyData.str P
  nm : ∀ z ∈ P, Nm z
  few : P.length ≤ 8
/-- pins and rods of a frame -/
structure FrOk (P : List Str) (R : List (List Str)) : Prop where
  pins : PinsOk P
  asc : Asc pd R
  pair : ∀ k ∈ R, ∃ x y, k = [x, y] ∧ x ∈ P ∧ y ∈ P ∧ x.cps.toList < y.cps.toList
  few : R.length ≤ 28
theorem FrOk.ok {P : List Str} {R : List (List Str)} (h : FrOk P R) {k : List Str} (hk : k ∈ R) : PairOk k := by
  obtain ⟨x, y, e, hx, hy, lt⟩ := h.pair k hk
  exact ⟨x, y, e, h.pins.nm x hx, h.pins.nm y hy, lt⟩
/-- a tuple, made or written -/
def TyT (K : PySem.W.Frag) (H : Hp) (r : Addr) : Prop := (∃ xs, H r = some (.tup xs)) ∨ ∃ o, K.lookup r = some o ∧ o.cls = .type "tuple"
theorem TyT.x {K : PySem.W.Frag} {H : Hp} {r : Addr} (h : TyT K H r) : TyX K H (.ref r) (.type "tuple") := by
  rcases h with ⟨xs, h⟩ | ⟨o, h, c⟩
  · exact ty_tup h
  · exact .kTuple h c
theorem TyT.same {K : PySem.W.Frag} {H H' : Hp} {r : Addr} (s : Same H H') (h : TyT K H r) : TyT K H' r := h.elim (fun ⟨xs, h⟩ => .inl ⟨xs, s _ _ h⟩) .inr
/-- rods as a tuple, written in the text or made -/
def LtQ (K : PySem.W.Frag) (H : Hp) (r : Addr) (z : List (List Str)) : Prop := ∃ rs : List Addr, SqT K H r (rs.map V.ref) ∧ Rel (PT H) rs z ∧ TyT K H r
theorem LtT.q {K : PySem.W.Frag} {H : Hp} {r : Addr} {z : List (List Str)} (h : LtT H r z) : LtQ K H r z := by
  obtain ⟨rs, h1, h2⟩ := h
  exact ⟨rs, SqT.of h1, h2, .inl ⟨_, h1⟩⟩
/-- a frame -/
def FrAt (C : Addr) (H : Hp) (a : Addr) (P : List Str) (R : List (List Str)) : Prop := ∃ dx p r, H a = some (.ins C dx [("_pins", .ref p), ("_rods", .ref r)]) ∧ PT H p P ∧ LtT H r R
theorem FrAt.same {C : Addr} {H H' : Hp} {a : Addr} {P : List Str} {R : List (List Str)} (s : Same H H') (h : FrAt C H a P R) : FrAt C H' a P R := by
  obtain ⟨dx, p, r, h1, h2, h3⟩ := h
  exact ⟨dx, p, r, s _ _ h1, h2.same s, h3.same s⟩
/-- names as a tuple, written in the text or made -/
def PQ (K : PySem.W.Frag) (H : Hp) (p : Addr) (k : List Str) : Prop := SqT K H p (k.map V.str) ∧ TyT K H p
theorem PT.q {K : PySem.W.Frag} {H : Hp} {p : Addr} {k : List Str} (h : PT H p k) : PQ K H p k := ⟨SqT.of h, .inl ⟨_, h⟩⟩
theorem PQ.same {K : PySem.W.Frag} {H H' : Hp} {p : Addr} {k : List Str} (s : Same H H') (h : PQ K H p k) : PQ K H' p k := ⟨SqT.same' s h.1, h.2.same s⟩
def spNo : Sp := fun _ _ _ _ => False
def spName : Sp := fun vs H Q _ => ∃ z : Str, vs = [.str z] ∧ Nm z ∧ ∀ H', Same H H' → Q (.bl true) H'
def spNames (K : PySem.W.Frag) : Sp := fun vs H Q _ => ∃ (p : Addr) (k : List Str), vs = [.ref p] ∧ PQ K H p k ∧ k.length ≤ 8 ∧ (∀ z ∈ k, Nm z) ∧ ∀ H', Same H H' → Q (.bl true) H'
def spLot (K : PySem.W.Frag) : Sp := fun vs H Q _ => ∃ (p : Addr) (k : List Str), vs = [.ref p] ∧ PQ K H p k ∧ PinsOk k ∧ ∀ H', Same H H' → Q (.bl true) H'
def spPair : Sp := fun vs H Q _ => ∃ (p : Addr) (k : List Str), vs = [.ref p] ∧ PT H p k ∧ PairOk k ∧ ∀ H', Same H H' → Q (.bl true) H'
def spAsc (K : PySem.W.Frag) : Sp := fun vs H Q _ => ∃ (p : Addr) (xs : List V) (ds : List PyData), vs = [.ref p] ∧ SqT K H p xs ∧ DpAll K H xs ds ∧ ds.length ≤ 40 ∧ (∀ d ∈ ds, ∀ e ∈ ds, W.alike d e = true) ∧ (∀ d ∈ ds, d ≠ .none ∧ d.depth ≤ 20) ∧
  ds.Pairwise (fun d e => W.dataLt d e = true) ∧ ∀ H', Same H H' → Q (.bl true) H'
def spDigits : Sp := fun vs H Q _ => ∃ i : Int, vs = [.int i, .int 2000] ∧ Bd 5000 i ∧ Q (.bl true) H
def spInt : Sp := fun vs H Q _ => ∃ i : Int, vs = [.int i] ∧ Bd 5000 i ∧ Q (.bl true) H
def spLotOf (K : PySem.W.Frag) : Sp := fun vs H Q _ => ∃ (p l : Addr) (P L : List Str), vs = [.ref p, .ref l] ∧ H p = some (.lst (P.map V.str)) ∧ P.length ≤ 8 ∧ PQ K H l L ∧ PinsOk L ∧ (∀ z ∈ L, z ∈ P) ∧ ∀ H', Same H H' → Q (.bl true) H'
def spWithinR (K : PySem.W.Frag) : Sp := fun vs H Q _ => ∃ (r l : Addr) (R : List (List Str)) (L : List Str), vs = [.ref r, .ref l] ∧ LtQ K H r R ∧ PT H l L ∧ FrOk L R ∧ ∀ p H' ys, Same H H' → H' p = some (.tup ys) → ys.length = R.length → Q (.ref p) H'
def spPins : Sp := fun vs H Q _ => ∃ (p : Addr) (P : List Str), vs = [.ref p] ∧ PT H p P ∧ PinsOk P ∧ 1 ≤ P.length ∧ ∀ H', Same H H' → Q (.bl true) H'
def spRods (K : PySem.W.Frag) : Sp := fun vs H Q _ => ∃ (p r : Addr) (P : List Str) (R : List (List Str)), vs = [.ref p, .ref r] ∧ PT H p P ∧ LtQ K H r R ∧ FrOk P R ∧ ∀ H', Same H H' → Q (.bl true) H'
def spInit (K : PySem.W.Frag) (C : Addr) : Sp := fun vs H Q _ => ∃ (x dx p r : Addr) (P : List Str) (R : List (List Str)), vs = [.ref x, .ref p, .ref r] ∧ H x = some (.ins C dx []) ∧ PT H p P ∧ LtQ K H r R ∧ FrOk P R ∧ 1 ≤ P.length ∧
  ∀ H', FrAt C H' x P R → (∀ b o, b ≠ x → H b = some o → H' b = some o) → Q .non H'
def spIsFrame (C : Addr) : Sp := fun vs H Q _ => ∃ (a dx : Addr) (fs : List (Str × V)), vs = [.ref a] ∧ H a = some (.ins C dx fs) ∧ Q .non H
/-! sides: what is reached -/
/-- a rod joins the two -/
def Adj (R : List (List Str)) (x y : Str) : Prop := [minS x y, maxS x y] ∈ R
instance (R : List (List Str)) (x y : Str) : Decidable (Adj R x y) := by unfold Adj; infer_instance
theorem lt_irr (x : Str) : ¬ x.cps.toList < x.cps.toList := List.lt_irrefl _
theorem lt_asy {x y : Str} (h : x.cps.toList < y.cps.toList) : ¬ y.cps.toList < x.cps.toList := fun g => List.lt_irrefl _ (List.lt_trans h g)
theorem minS_lt {x y : Str} (h : x.cps.toList < y.cps.toList) : minS x y = x ∧ maxS x y = y := by
  unfold minS maxS
  rw [decide_eq_false (lt_asy h), decide_eq_true h]
  exact ⟨rfl, rfl⟩
theorem minS_gt {x y : Str} (h : y.cps.toList < x.cps.toList) : minS x y = y ∧ maxS x y = x := by
  unfold minS maxS
  rw [decide_eq_true h, decide_eq_false (lt_asy h)]
  exact ⟨rfl, rfl⟩
theorem str_tri (x y : Str) : x.cps.toList < y.cps.toList ∨ x = y ∨ y.cps.toList < x.cps.toList := by
  rcases Classical.em (x.cps.toList < y.cps.toList) with h | h
  · exact .inl h
  · rcases Classical.em (y.cps.toList < x.cps.toList) with g | g
    · exact .inr (.inr g)
    · refine .inr (.inl ?_)
      have e : x.cps.toList = y.cps.toList := List.le_antisymm (List.not_lt.mp g) (List.not_lt.mp h)
      cases x; cases y
      have e2 := Array.toList_inj.mp e
      simpa using e2
theorem adj_iff {P : List Str} {R : List (List Str)} (h : FrOk P R) (x y : Str) : Adj R x y ↔ [x, y] ∈ R ∨ [y, x] ∈ R := by
  have asc : ∀ {a b : Str}, [a, b] ∈ R → a.cps.toList < b.cps.toList := fun {a b} m => by
    obtain ⟨u, v, e, _, _, lt⟩ := h.pair _ m
    cases e
    exact lt
  unfold Adj
  constructor
  · intro m
    rcases str_tri x y with l | e | l
    · rw [(minS_lt l).1, (minS_lt l).2] at m
      exact .inl m
    · subst e
      have := asc m
      unfold minS maxS at this
      rw [decide_eq_false (lt_irr x)] at this
      exact absurd this (lt_irr x)
    · rw [(minS_gt l).1, (minS_gt l).2] at m
      exact .inr m
  · rintro (m | m)
    · rw [(minS_lt (asc m)).1, (minS_lt (asc m)).2]
      exact m
    · rw [(minS_gt (asc m)).1, (minS_gt (asc m)).2]
      exact m
/-- what is reached from x along rods within W -/
inductive Reach (R : List (List Str)) (W : List Str) (x : Str) : Str → Prop where
  | self : Reach R W x x
  | step {y z : Str} : Reach R W x y → z ∈ W → Adj R y z → Reach R W x z
theorem Reach.mem {R : List (List Str)} {W : List Str} {x y : Str} (h : Reach R W x y) (hx : x ∈ W) : y ∈ W := by
  cases h with
  | self => exact hx
  | step _ m _ => exact m
noncomputable def compW (R : List (List Str)) (W : List Str) (x : Str) : List Str := W.filter fun y => @decide (Reach R W x y) (Classical.propDecidable _)
theorem compW_mem {R : List (List Str)} {W : List Str} {x y : Str} : y ∈ compW R W x ↔ y ∈ W ∧ Reach R W x y := by
  unfold compW
  rw [List.mem_filter]
  refine and_congr_right fun _ => ?_
  exact @decide_eq_true_iff _ (Classical.propDecidable _)
theorem compW_sub (R : List (List Str)) (W : List Str) (x : Str) : (compW R W x).Sublist W := List.filter_sublist
/-- a closed list of what is reached is all of it -/
theorem comp_is {R : List (List Str)} {W ws zs : List Str} {x : Str} (asc : Asc PyData.str W) (hx : x ∈ W) (pm : zs.Perm ws) (sz : sortedS zs = true) (nd : ws.Nodup) (mx : x ∈ ws) (sub : ∀ y ∈ ws, y ∈ W ∧ Reach R W x y) (closed : ∀ y ∈ ws, ∀ z ∈ W, Adj R y z → z ∈ ws) : zs = compW R W x := by
  refine Asc.one (enc := PyData.str) (sorted_asc sz (pm.nodup_iff.mpr nd)) (asc.sublist (compW_sub R W x)) fun y => ?_
  rw [pm.mem_iff, compW_mem]
  refine ⟨fun h => sub y h, fun hh => ?_⟩
  have h := hh.2
  clear hh
  induction h with
  | self => exact mx
  | step _ m a ih => exact closed _ ih _ m a
/-- the sides, in the order of their first pins -/
noncomputable def addW (R : List (List Str)) (W : List Str) (S : List (List Str)) (x : Str) : List (List Str) := if ∃ s ∈ S, x ∈ s then S else S ++ [compW R W x]
noncomputable def sidesW (R : List (List Str)) (W : List Str) : List (List Str) := W.foldl (addW R W) []
def restW (P L : List Str) : List Str := P.filter fun y => decide (y ∉ L)
theorem restW_mem {P L : List Str} {y : Str} : y ∈ restW P L ↔ y ∈ P ∧ y ∉ L := by
  unfold restW
  rw [List.mem_filter, decide_eq_true_iff]
theorem restW_sub (P L : List Str) : (restW P L).Sublist P := List.filter_sublist
theorem restW_nil (P : List Str) : restW P [] = P := by
  unfold restW
  rw [List.filter_eq_self]
  intro y _
  exact decide_eq_true (fun z => nomatch z)
theorem PinsOk.sub {P Q : List Str} (h : PinsOk P) (s : Q.Sublist P) : PinsOk Q := ⟨h.asc.sublist s, fun z hz => h.nm z (s.subset hz), Nat.le_trans s.length_le h.few⟩
/-- neighbours, in their order -/
def nbs (P : List Str) (R : List (List Str)) (x : Str) : List Str := P.filter fun y => decide (Adj R x y)
theorem nbs_mem {P : List Str} {R : List (List Str)} {x y : Str} : y ∈ nbs P R x ↔ y ∈ P ∧ Adj R x y := by
  unfold nbs
  rw [List.mem_filter, decide_eq_true_iff]
/-- the rods whose pins are left -/
def rodsW (W : List Str) (R : List (List Str)) : List (List Str) := R.filter fun k => decide (k.getD 0 "" ∈ W) && decide (k.getD 1 "" ∈ W)
theorem reach_same {R R' : List (List Str)} {W : List Str} (h : ∀ y ∈ W, ∀ z ∈ W, (Adj R y z ↔ Adj R' y z)) {x : Str} (hx : x ∈ W) (y : Str) : Reach R W x y ↔ Reach R' W x y := by
  constructor
  · intro r
    induction r with
    | self => exact .self
    | step r m a ih => exact .step ih m ((h _ (r.mem hx) _ m).mp a)
  · intro r
    induction r with
    | self => exact .self
    | step r m a ih => exact .step ih m ((h _ (r.mem hx) _ m).mpr a)
theorem foldl_same {α β : Type} {f g : β → α → β} : ∀ {l : List α} {b : β}, (∀ b, ∀ x ∈ l, f b x = g b x) → l.foldl f b = l.foldl g b
  | [], b, _ => rfl
  | x :: l, b, h => by
    rw [List.foldl_cons, List.foldl_cons, h b x List.mem_cons_self]
    exact foldl_same fun b y hy => h b y (List.mem_cons_of_mem _ hy)
theorem sides_same {R R' : List (List Str)} {W : List Str} (h : ∀ y ∈ W, ∀ z ∈ W, (Adj R y z ↔ Adj R' y z)) : sidesW R W = sidesW R' W := by
  unfold sidesW
  refine foldl_same fun S x hx => ?_
  have e : compW R W x = compW R' W x := by
    unfold compW
    refine List.filter_congr fun y _ => ?_
    have := reach_same h hx y
    exact decide_eq_decide.mpr this
  unfold addW
  rw [e]
theorem rods_left {P W : List Str} {R : List (List Str)} (h : FrOk P R) : sidesW (rodsW W R) W = sidesW R W := by
  refine sides_same fun y hy z hz => ?_
  unfold Adj
  have both : minS y z ∈ W ∧ maxS y z ∈ W := by
    unfold minS maxS
    constructor <;> (split <;> assumption)
  unfold rodsW
  rw [List.mem_filter]
  refine ⟨fun m => m.1, fun m => ⟨m, ?_⟩⟩
  show (decide (minS y z ∈ W) && decide (maxS y z ∈ W)) = true
  rw [decide_eq_true both.1, decide_eq_true both.2]
  rfl
theorem FrOk.left {P W : List Str} {R : List (List Str)} (h : FrOk P R) (s : W.Sublist P) : FrOk W (rodsW W R) := by
  refine ⟨h.pins.sub s, h.asc.sublist List.filter_sublist, fun k hk => ?_, Nat.le_trans (List.filter_sublist.length_le) h.few⟩
  unfold rodsW at hk
  rw [List.mem_filter, Bool.and_eq_true, decide_eq_true_iff, decide_eq_true_iff] at hk
  obtain ⟨m, m1, m2⟩ := hk
  obtain ⟨a, b, rfl, _, _, lt⟩ := h.pair k m
  exact ⟨a, b, rfl, m1, m2, lt⟩
/-- all sides: told of the pins that are told -/
def Told (S : List (List Str)) (x : Str) : Prop := ∃ s ∈ S, x ∈ s
instance (S : List (List Str)) (x : Str) : Decidable (Told S x) := by unfold Told; infer_instance
theorem addW_yes {R : List (List Str)} {W : List Str} {S : List (List Str)} {x : Str} (h : Told S x) : addW R W S x = S := by
  unfold addW
  exact if_pos h
theorem addW_no {R : List (List Str)} {W : List Str} {S : List (List Str)} {x : Str} (h : ¬ Told S x) : addW R W S x = S ++ [compW R W x] := by
  unfold addW
  exact if_neg h
/-! lots of a size -/
theorem pd_lt (x y : Str) (a b : List Str) : W.dataLt (pd (x :: a)) (pd (y :: b)) = if decide (x = y) = true then W.dataLt (pd a) (pd b) else decide (x.cps.toList < y.cps.toList) := by
  show W.dataLt (.tuple (.str x :: a.map PyData.str)) (.tuple (.str y :: b.map PyData.str)) = if decide (x = y) = true then W.dataLt (.tuple (a.map PyData.str)) (.tuple (b.map PyData.str)) else _
  rw [W.dataLt_tuple, W.dataLt_tuple, W.dataLt_cons (enc_str.al x y), enc_str.iff, W.dataLt_str]
theorem pd_app : ∀ {a b : List Str} (u v : List Str), a.length = b.length → W.dataLt (pd a) (pd b) = true → W.dataLt (pd (a ++ u)) (pd (b ++ v)) = true
  | [], [], u, v, _, h => by rw [dlt_irr] at h; cases h
  | [], _ :: _, _, _, e, _ => nomatch e
  | _ :: _, [], _, _, e, _ => nomatch e
  | x :: a, y :: b, u, v, e, h => by
    rw [pd_lt] at h
    rw [List.cons_append, List.cons_append, pd_lt]
    by_cases q : x = y
    · rw [decide_eq_true q, if_pos rfl] at h ⊢
      exact pd_app u v (Nat.succ.inj e) h
    · rw [decide_eq_false q, if_neg Bool.false_ne_true] at h ⊢
      exact h
theorem pd_one (a : List Str) {x y : Str} (h : x.cps.toList < y.cps.toList) : W.dataLt (pd (a ++ [x])) (pd (a ++ [y])) = true := by
  induction a with
  | nil =>
    rw [List.nil_append, List.nil_append, pd_lt]
    have ne : x ≠ y := fun e => by rw [e] at h; exact lt_irr y h
    rw [decide_eq_false ne, if_neg Bool.false_ne_true]
    exact decide_eq_true h
  | cons z a ih =>
    rw [List.cons_append, List.cons_append, pd_lt, decide_eq_true rfl, if_pos rfl]
    exact ih
/-- may y come behind z -/
def goes (z : List Str) (y : Str) : Bool := decide (z = []) || decide ((z.getLastD ("" : Str)).cps.toList < y.cps.toList)
/-- lots of n of the pins, each built on the one before -/
def lotsN (P : List Str) : Nat → List (List Str)
  | 0 => [[]]
  | n + 1 => ((lotsN P n).map fun z => (P.filter (goes z)).map fun y => z ++ [y]).flatten
theorem lotsN_len {P : List Str} : ∀ {n : Nat} {z : List Str}, z ∈ lotsN P n → z.length = n
  | 0, z, h => by rw [List.mem_singleton.mp h]; rfl
  | n + 1, z, h => by
    obtain ⟨l, hl, hz⟩ := List.mem_flatten.mp h
    obtain ⟨z', hz', rfl⟩ := List.mem_map.mp hl
    obtain ⟨y, _, rfl⟩ := List.mem_map.mp hz
    rw [List.length_append, lotsN_len hz']
    rfl
theorem asc_lt {P : List Str} (h : Asc PyData.str P) : P.Pairwise fun x y => x.cps.toList < y.cps.toList := h.imp fun {a b} hab => by
  rw [W.dataLt_str] at hab
  exact of_decide_eq_true hab
theorem lt_asc {P : List Str} (h : P.Pairwise fun x y => x.cps.toList < y.cps.toList) : Asc PyData.str P := h.imp fun {a b} hab => by
  rw [W.dataLt_str]
  exact decide_eq_true hab
theorem lotsN_asc {P : List Str} (hP : Asc PyData.str P) : ∀ n, Asc pd (lotsN P n)
  | 0 => List.pairwise_singleton _ _
  | n + 1 => by
    refine List.pairwise_flatten.mpr ⟨fun l hl => ?_, List.pairwise_map.mpr ?_⟩
    · obtain ⟨z, _, rfl⟩ := List.mem_map.mp hl
      refine List.pairwise_map.mpr ((asc_lt (hP.sublist List.filter_sublist)).imp fun {a b} hab => pd_one z hab)
    · refine (lotsN_asc hP n).imp_of_mem fun {a b} ha hb hab => ?_
      intro x hx y hy
      obtain ⟨u, _, rfl⟩ := List.mem_map.mp hx
      obtain ⟨v, _, rfl⟩ := List.mem_map.mp hy
      exact pd_app _ _ ((lotsN_len ha).trans (lotsN_len hb).symm) hab
theorem asc_last {z : List Str} {y : Str} : Asc PyData.str (z ++ [y]) ↔ Asc PyData.str z ∧ (z = [] ∨ (z.getLastD ("" : Str)).cps.toList < y.cps.toList) := by
  constructor
  · intro h
    refine ⟨h.sublist (List.sublist_append_left _ _), ?_⟩
    rcases List.eq_nil_or_concat z with e | ⟨l, b, e⟩
    · exact .inl e
    · right
      subst e
      rw [List.concat_eq_append] at h ⊢
      rw [List.getLastD_concat]
      have := (List.pairwise_append.mp h).2.2 b (List.mem_append_right _ List.mem_cons_self) y List.mem_cons_self
      rw [W.dataLt_str] at this
      exact of_decide_eq_true this
  · rintro ⟨h, g⟩
    refine List.pairwise_append.mpr ⟨h, List.pairwise_singleton _ _, fun a ha b hb => ?_⟩
    rw [List.mem_singleton.mp hb, W.dataLt_str]
    refine decide_eq_true ?_
    rcases List.eq_nil_or_concat z with e | ⟨l, c, e⟩
    · rw [e] at ha
      cases ha
    · subst e
      rw [List.concat_eq_append] at h g ha
      rw [List.getLastD_concat] at g
      have g := g.resolve_left (by simp)
      rcases List.mem_append.mp ha with m | m
      · have := (List.pairwise_append.mp h).2.2 a m c List.mem_cons_self
        rw [W.dataLt_str] at this
        exact List.lt_trans (of_decide_eq_true this) g
      · rw [List.mem_singleton.mp m]
        exact g
theorem goes_iff {z : List Str} {y : Str} : goes z y = true ↔ z = [] ∨ (z.getLastD ("" : Str)).cps.toList < y.cps.toList := by
  unfold goes
  rw [Bool.or_eq_true, decide_eq_true_iff, decide_eq_true_iff]
theorem lotsN_mem {P : List Str} : ∀ {n : Nat} {z : List Str}, z ∈ lotsN P n ↔ Asc PyData.str z ∧ (∀ y ∈ z, y ∈ P) ∧ z.length = n
  | 0, z => by
    show z ∈ [[]] ↔ _
    rw [List.mem_singleton]
    constructor
    · rintro rfl
      exact ⟨.nil, (fun y h => nomatch h), rfl⟩
    · rintro ⟨_, _, h⟩
      exact List.length_eq_zero_iff.mp h
  | n + 1, z => by
    show z ∈ List.flatten _ ↔ _
    rw [List.mem_flatten]
    constructor
    · rintro ⟨l, hl, hz⟩
      obtain ⟨z', hz', rfl⟩ := List.mem_map.mp hl
      obtain ⟨y, hy, rfl⟩ := List.mem_map.mp hz
      obtain ⟨a1, a2, a3⟩ := lotsN_mem.mp hz'
      obtain ⟨b1, b2⟩ := List.mem_filter.mp hy
      refine ⟨asc_last.mpr ⟨a1, goes_iff.mp b2⟩, fun x hx => ?_, by rw [List.length_append, a3]; rfl⟩
      rcases List.mem_append.mp hx with m | m
      · exact a2 x m
      · rw [List.mem_singleton.mp m]
        exact b1
    · rintro ⟨a1, a2, a3⟩
      rcases List.eq_nil_or_concat z with e | ⟨l, y, e⟩
      · rw [e] at a3
        cases a3
      · subst e
        rw [List.concat_eq_append] at a1 a2 a3 ⊢
        obtain ⟨b1, b2⟩ := asc_last.mp a1
        rw [List.length_append] at a3
        have a3 : l.length = n := Nat.succ.inj a3
        exact ⟨_, List.mem_map.mpr ⟨l, lotsN_mem.mpr ⟨b1, fun x hx => a2 x (List.mem_append_left _ hx), a3⟩, rfl⟩, List.mem_map.mpr ⟨y, List.mem_filter.mpr ⟨a2 y (List.mem_append_right _ List.mem_cons_self), goes_iff.mpr b2⟩, rfl⟩⟩
theorem asc_sub_iff {P z : List Str} (hP : Asc PyData.str P) : z.Sublist P ↔ Asc PyData.str z ∧ ∀ y ∈ z, y ∈ P := by
  refine ⟨fun h => ⟨hP.sublist h, fun y hy => h.subset hy⟩, fun ⟨h1, h2⟩ => ?_⟩
  have e : z = P.filter fun y => decide (y ∈ z) := Asc.one h1 (hP.sublist List.filter_sublist) fun y => by
    rw [List.mem_filter, decide_eq_true_iff]
    exact ⟨fun h => ⟨h2 y h, h⟩, fun h => h.2⟩
  rw [e]
  exact List.filter_sublist
noncomputable def cutW (P : List Str) (R : List (List Str)) (z : List Str) : Bool := decide (2 ≤ (sidesW R (restW P z)).length)
noncomputable def cutsN (P : List Str) (R : List (List Str)) (n : Nat) : List (List Str) := (lotsN P n).filter (cutW P R)
theorem cutsN_one {P : List Str} {R zs : List (List Str)} {n : Nat} (hP : Asc PyData.str P) (asc : Asc pd zs) (mem : ∀ z, z ∈ zs ↔ z.Sublist P ∧ z.length = n ∧ cutW P R z = true) : zs = cutsN P R n := by
  refine Asc.one asc ((lotsN_asc hP n).sublist List.filter_sublist) fun z => ?_
  unfold cutsN
  rw [mem z, List.mem_filter, lotsN_mem, asc_sub_iff hP]
  exact ⟨fun ⟨a, b, c⟩ => ⟨⟨a.1, a.2, b⟩, c⟩, fun ⟨a, c⟩ => ⟨⟨a.1, a.2.1⟩, a.2.2, c⟩⟩
theorem cutsN_mem {P : List Str} {R : List (List Str)} {n : Nat} (hP : Asc PyData.str P) {z : List Str} : z ∈ cutsN P R n ↔ z.Sublist P ∧ z.length = n ∧ cutW P R z = true := by
  unfold cutsN
  rw [List.mem_filter, lotsN_mem, asc_sub_iff hP]
  exact ⟨fun ⟨a, c⟩ => ⟨⟨a.1, a.2.1⟩, a.2.2, c⟩, fun ⟨a, b, c⟩ => ⟨⟨a.1, a.2, b⟩, c⟩⟩
/-! promises -/
def spNb (C : Addr) : Sp := fun vs H Q _ => ∃ (a : Addr) (x : Str) (P : List Str) (R : List (List Str)), vs = [.ref a, .str x] ∧ FrAt C H a P R ∧ FrOk P R ∧ x ∈ P ∧ ∀ p H', Same H H' → PT H' p (nbs P R x) → Q (.ref p) H'
def spSideWith (C : Addr) : Sp := fun vs H Q _ => ∃ (a l : Addr) (x : Str) (P L : List Str) (R : List (List Str)), vs = [.ref a, .ref l, .str x] ∧ FrAt C H a P R ∧ FrOk P R ∧ PT H l L ∧ L.length ≤ 8 ∧ x ∈ restW P L ∧
  ∀ p H', Same H H' → PT H' p (compW R (restW P L) x) → Q (.ref p) H'
def spSidesOf (C : Addr) : Sp := fun vs H Q _ => ∃ (a l : Addr) (P L : List Str) (R : List (List Str)), vs = [.ref a, .ref l] ∧ FrAt C H a P R ∧ FrOk P R ∧ PT H l L ∧ L.length ≤ 8 ∧ (∀ z ∈ L, z ∈ P) ∧
  ∀ p H', Same H H' → LtT H' p (sidesW R (restW P L)) → Q (.ref p) H'
def spDoesCut (C : Addr) : Sp := fun vs H Q _ => ∃ (a l : Addr) (P L : List Str) (R : List (List Str)), vs = [.ref a, .ref l] ∧ FrAt C H a P R ∧ FrOk P R ∧ PT H l L ∧ L.length ≤ 8 ∧ (∀ z ∈ L, z ∈ P) ∧
  ∀ H', Same H H' → Q (.bl (cutW P R L)) H'
def spPieces (C : Addr) : Sp := fun vs H Q _ => ∃ (a : Addr) (P : List Str) (R : List (List Str)), vs = [.ref a] ∧ FrAt C H a P R ∧ FrOk P R ∧ ∀ p H', Same H H' → LtT H' p (sidesW R P) → Q (.ref p) H'
def spSides (C : Addr) : Sp := fun vs H Q _ => ∃ (a l : Addr) (P L : List Str) (R : List (List Str)), vs = [.ref a, .ref l] ∧ FrAt C H a P R ∧ FrOk P R ∧ PT H l L ∧ PinsOk L ∧ (∀ z ∈ L, z ∈ P) ∧
  ∀ p H', Same H H' → LtT H' p (sidesW R (restW P L)) → Q (.ref p) H'
def spIsCut (C : Addr) : Sp := fun vs H Q _ => ∃ (a l : Addr) (P L : List Str) (R : List (List Str)), vs = [.ref a, .ref l] ∧ FrAt C H a P R ∧ FrOk P R ∧ PT H l L ∧ PinsOk L ∧ (∀ z ∈ L, z ∈ P) ∧
  ∀ H', Same H H' → Q (.bl (cutW P R L)) H'
def spLotsOf : Sp := fun vs H Q _ => ∃ (p : Addr) (P : List Str) (n : Nat), vs = [.ref p, .int (n : Int)] ∧ PT H p P ∧ PinsOk P ∧ n ≤ 6 ∧ ∀ q H', Same H H' → PLs H' q (lotsN P n) → Q (.ref q) H'
def spCuts (C : Addr) : Sp := fun vs H Q _ => ∃ (a : Addr) (P : List Str) (R : List (List Str)) (n : Nat), vs = [.ref a, .int (n : Int)] ∧ FrAt C H a P R ∧ FrOk P R ∧ n ≤ 6 ∧ ∀ q H', Same H H' → LtT H' q (cutsN P R n) → Q (.ref q) H'
/-! the walk of the program: what is reached so far, i of it looked at -/
structure RI (R : List (List Str)) (W : List Str) (x : Str) (rs : List Str) (i : Nat) : Prop where
  nd : rs.Nodup
  mx : x ∈ rs
  sub : ∀ y ∈ rs, y ∈ W ∧ Reach R W x y
  cl : ∀ j y, j < i → rs[j]? = some y → ∀ z ∈ W, Adj R y z → z ∈ rs
section
variable {R : List (List Str)} {W rs : List Str} {x : Str} {i : Nat}
theorem RI.start (hx : x ∈ W) : RI R W x [x] 0 :=
  ⟨List.pairwise_singleton _ _, List.mem_cons_self, fun y hy => by rw [List.mem_singleton.mp hy]; exact ⟨hx, .self⟩, fun j y h => absurd h (Nat.not_lt_zero _)⟩
theorem RI.len (h : RI R W x rs i) : rs.length ≤ W.length := nodup_len h.nd fun y hy => (h.sub y hy).1
theorem RI.app (h : RI R W x rs i) (hi : i ≤ rs.length) {y z : Str} (hz : z ∈ W) (nz : z ∉ rs) (hy : y ∈ rs) (a : Adj R y z) : RI R W x (rs ++ [z]) i := by
  refine ⟨?_, List.mem_append_left _ h.mx, fun u hu => ?_, fun j u hj e v hv av => ?_⟩
  · rw [List.nodup_append]
    refine ⟨h.nd, List.pairwise_singleton _ _, fun u hu v hv e => ?_⟩
    rw [List.mem_singleton.mp hv] at e
    exact nz (e ▸ hu)
  · rcases List.mem_append.mp hu with m | m
    · exact h.sub u m
    · rw [List.mem_singleton.mp m]
      exact ⟨hz, .step (h.sub y hy).2 hz a⟩
  · rw [List.getElem?_append_left (by omega)] at e
    exact List.mem_append_left _ (h.cl j u hj e v hv av)
theorem RI.next (h : RI R W x rs i) {y : Str} (e : rs[i]? = some y) (c : ∀ z ∈ W, Adj R y z → z ∈ rs) : RI R W x rs (i + 1) := by
  refine ⟨h.nd, h.mx, h.sub, fun j u hj eu z hz a => ?_⟩
  rcases Nat.lt_or_ge j i with l | l
  · exact h.cl j u l eu z hz a
  · obtain rfl : j = i := by omega
    rw [e] at eu
    cases eu
    exact c z hz a
theorem RI.done (h : RI R W x rs i) (hi : rs.length ≤ i) (hx : x ∈ W) (asc : Asc PyData.str W) {zs : List Str} (pm : zs.Perm rs) (sz : sortedS zs = true) : zs = compW R W x :=
  comp_is asc hx pm sz h.nd h.mx h.sub fun y hy z hz a => by
    obtain ⟨j, hj, e⟩ := List.mem_iff_getElem.mp hy
    exact h.cl j y (by omega) (by rw [List.getElem?_eq_getElem hj, e]) z hz a
end
/-! short words for what is read -/
theorem in_strs (z : Str) (L : List Str) : inV (.str z) (L.map V.str) = decide (z ∈ L) := by
  unfold inV
  rw [List.any_map]
  induction L with
  | nil => rfl
  | cons y L ih =>
    rw [List.any_cons, ih]
    have e : (fun y => eqV (V.str y) (V.str z)) y = decide (z = y) := by
      show (y == z) = _
      by_cases h : y = z
      · subst h
        rw [decide_eq_true rfl]
        exact beq_self_eq_true y
      · rw [decide_eq_false (fun e => h e.symm)]
        exact beq_eq_false_iff_ne.mpr h
    show ((fun y => eqV (V.str y) (V.str z)) y || _) = _
    rw [e, ← Bool.decide_or]
    exact decide_eq_decide.mpr List.mem_cons.symm
section
variable {K : PySem.W.Frag} {mg : Str → Option Value} {C e0 : Addr} {H : Hp} {Q : VK} {σ : L2.St} {a p r dx : Addr} {L : List Str} {z : Str}
theorem rd_inZ (h : SqL K H p (L.map V.str) ∨ SqT K H p (L.map V.str)) (q : Q (.bl (decide (z ∈ L))) H) : rIn K false (.str z) (.ref p) H Q := by
  refine ⟨p, _, rfl, h, rfl, flat_strs L, ?_⟩
  rw [if_neg Bool.false_ne_true, in_strs]
  exact q
theorem rd_niZ (h : SqL K H p (L.map V.str) ∨ SqT K H p (L.map V.str)) (q : Q (.bl (!decide (z ∈ L))) H) : rIn K true (.str z) (.ref p) H Q := by
  refine ⟨p, _, rfl, h, rfl, flat_strs L, ?_⟩
  rw [if_pos rfl, in_strs]
  exact q
theorem look_pins {v u : V} : List.lookup ("_pins" : Str) [("_pins", v), ("_rods", u)] = some v := by
  have e : (("_pins" : Str) == ("_pins" : Str)) = true := by decide +kernel
  simp only [List.lookup, e]
theorem look_rods {v u : V} : List.lookup ("_rods" : Str) [("_pins", v), ("_rods", u)] = some u := by
  have e : (("_rods" : Str) == ("_pins" : Str)) = false := by decide +kernel
  have e2 : (("_rods" : Str) == ("_rods" : Str)) = true := by decide +kernel
  simp only [List.lookup, e, e2]
theorem look_check {v u : V} : List.lookup ("_check_pin" : Str) [("_pins", v), ("_rods", u)] = none := by
  have e : (("_check_pin" : Str) == ("_pins" : Str)) = false := by decide +kernel
  have e2 : (("_check_pin" : Str) == ("_rods" : Str)) = false := by decide +kernel
  simp only [List.lookup, e, e2]
theorem look_nb {v u : V} : List.lookup ("neighbours" : Str) [("_pins", v), ("_rods", u)] = none := by
  have e : (("neighbours" : Str) == ("_pins" : Str)) = false := by decide +kernel
  have e2 : (("neighbours" : Str) == ("_rods" : Str)) = false := by decide +kernel
  simp only [List.lookup, e, e2]
theorem rd_fPins {i : Nat} (F : FrmKFrame K mg C e0) (h : H a = some (.ins C dx [("_pins", .ref p), ("_rods", .ref r)])) (hv : σ[i]? = some (some (.ref a))) (q : Q (.ref p) H) : tFld K (tVar i) "_pins" σ H Q := rd_fldK F.cl F.n_pins hv h look_pins q
theorem rd_fRods {i : Nat} (F : FrmKFrame K mg C e0) (h : H a = some (.ins C dx [("_pins", .ref p), ("_rods", .ref r)])) (hv : σ[i]? = some (some (.ref a))) (q : Q (.ref r) H) : tFld K (tVar i) "_rods" σ H Q := rd_fldK F.cl F.n_rods hv h look_rods q
theorem rd_pPins {i : Nat} (h : H a = some (.ins C dx [("_pins", .ref p), ("_rods", .ref r)])) (hv : σ[i]? = some (some (.ref a))) (q : Q (.ref p) H) : tProp C (getSp C "_pins") [] E0 (tVar i) σ H Q :=
  ⟨.ref a, hv, a, dx, _, rfl, h, a, dx, _, .ref p, rfl, h, look_pins, q⟩
end
theorem pick_filter {α : Type} (l : List α) (d : α) (p : α → Bool) : ((List.range l.length).filter fun j => p (l.getD j d)).map (fun j => l.getD j d) = l.filter p := by
  have e : (List.range l.length).map (fun i => l.getD i d) = l := by
    refine List.ext_getElem (by rw [List.length_map, List.length_range]) fun i h1 h2 => ?_
    rw [List.getElem_map, List.getElem_range, List.getD_eq_getElem?_getD, List.getElem?_eq_getElem h2]
    rfl
  have z := List.filter_map (f := fun i => l.getD i d) (p := p) (l := List.range l.length)
  rw [e] at z
  exact z.symm
theorem pick_strs (l : List Str) (p : Str → Bool) : ((List.range l.length).filter fun j => p (l.getD j "")).map (fun j => V.str (l.getD j "")) = (l.filter p).map V.str := by
  rw [← pick_filter l "" p, List.map_map]
  rfl
theorem getD_strs {l : List Str} {j : Nat} (h : j < l.length) : (l.map V.str).getD j .non = .str (l.getD j "") := by
  rw [List.getD_eq_getElem?_getD, List.getElem?_map, List.getElem?_eq_getElem h, List.getD_eq_getElem?_getD, List.getElem?_eq_getElem h]
  rfl
theorem getD_mem {l : List Str} {j : Nat} (h : j < l.length) : l.getD j "" ∈ l := by
  rw [List.getD_eq_getElem?_getD, List.getElem?_eq_getElem h]
  exact List.getElem_mem h
theorem LtQ.same {K : PySem.W.Frag} {H H' : Hp} {r : Addr} {z : List (List Str)} (s : Same H H') (h : LtQ K H r z) : LtQ K H' r z := by
  obtain ⟨rs, h1, R, ty⟩ := h
  refine ⟨rs, ?_, R.mono fun _ _ p => p.same s, ty.same s⟩
  rcases h1 with (h | ⟨o, h⟩) | h
  · exact .inl (.inl (s _ _ h))
  · exact .inl (.inr ⟨o, s _ _ h⟩)
  · exact .inr h
theorem sq_same {K : PySem.W.Frag} {H H' : Hp} {a : Addr} {xs : List V} (h : SqT K H a xs) (s : Same H H') : SqT K H' a xs := by
  rcases h with (h | ⟨o, h⟩) | h
  · exact .inl (.inl (s _ _ h))
  · exact .inl (.inr ⟨o, s _ _ h⟩)
  · exact .inr h
theorem any_pds (R : List (List Str)) (k : List Str) : ((R.map pd).any fun y => PyData.eqv y (pd k)) = decide (k ∈ R) := by
  rw [List.any_map]
  induction R with
  | nil => rfl
  | cons y R ih =>
    rw [List.any_cons, ih]
    show ((pd y).eqv (pd k) || _) = _
    rw [enc_pd.iff, ← Bool.decide_or]
    refine decide_eq_decide.mpr ?_
    rw [List.mem_cons]
    exact or_congr_left ⟨fun e => e.symm, fun e => e.symm⟩
theorem rd_inP {K : PySem.W.Frag} {H : Hp} {Q : VK} {t r : Addr} {k : List Str} {R : List (List Str)} (hk : PT H t k) (hR : LtT H r R) (q : Q (.bl (decide (k ∈ R))) H) : rInT K false (.ref t) (.ref r) H Q := by
  refine ⟨_, _, hk.dp, hR.dp, plain_pds _, plain_pd _, Nat.le_trans (depth_pd _) (by decide), ?_⟩
  rw [Bool.false_xor, any_pds]
  exact q
theorem rd_unlZ {K : PySem.W.Frag} {σ : L2.St} {H : Hp} {Q : VK} {i : Nat} {p : Addr} {xs : List Str} (hv : σ[i]? = some (some (.ref p))) (h : SqT K H p (xs.map V.str)) (nd : xs.Nodup) (few : xs.length < 4000) (q : Q (.int (xs.length : Nat)) H) : tUnl K (tVar i) σ H Q :=
  ⟨.ref p, hv, p, rfl, .inl ⟨xs, h, nd, few, q⟩⟩
theorem rd_unlP {K : PySem.W.Frag} {σ : L2.St} {H : Hp} {Q : VK} {i : Nat} {p : Addr} {rs : List Addr} {ks : List (List Str)} (hv : σ[i]? = some (some (.ref p))) (h : SqT K H p (rs.map V.ref)) (R : Rel (PT H) rs ks) (nd : ks.Nodup) (few : ks.length < 63) (q : Q (.int (ks.length : Nat)) H) : tUnl K (tVar i) σ H Q :=
  ⟨.ref p, hv, p, rfl, .inr ⟨rs, ks, h, R, nd, few, q⟩⟩
theorem rd_sFld {K : PySem.W.Frag} {σ : L2.St} {H : Hp} {D : Ends} {tv : TE} {f : Str} {i : Nat} (q : tv σ H fun y H1 => ∃ v, σ[i]? = some (some v) ∧ ∃ a C dx fs, v = .ref a ∧ H1 a = some (.ins C dx fs) ∧ Cls K C ∧ NoAttr K C f ∧ fs.length < 1000 ∧ D.nx σ (upd H1 a (.ins C dx (putF f y fs)))) : sFld K (tVar i) tv f D σ H := q
theorem put_pins {v : V} : putF ("_pins" : Str) v [] = [(("_pins" : Str), v)] := rfl
theorem put_rods {v u : V} : putF ("_rods" : Str) u [(("_pins" : Str), v)] = [(("_pins" : Str), v), (("_rods" : Str), u)] := by
  have e : ¬ ("_pins" : Str) = ("_rods" : Str) := by decide +kernel
  unfold putF
  rw [if_neg e]
  rfl
theorem pt_write {H : Hp} {D r : Addr} {u : HO} {k : List Str} (nt : ∀ xs, H D ≠ some (.tup xs)) (h : PT H r k) : PT (upd H D u) r k := by
  have h : H r = some (.tup (k.map V.str)) := h
  exact up_oth (fun e => by rw [e] at h; exact nt _ h) h
theorem lst_nt {H : Hp} {D : Addr} {xs : List V} (h : H D = some (.lst xs)) : ∀ ys, H D ≠ some (.tup ys) := fun ys e => by rw [h] at e; cases e
/-- the sides of the first k pins -/
noncomputable def sidesK (R : List (List Str)) (W P L : List Str) (k : Nat) : List (List Str) := (P.take k).foldl (fun S x => if x ∉ L then addW R W S x else S) []
theorem sidesK_all (R : List (List Str)) (P L : List Str) : sidesK R (restW P L) P L P.length = sidesW R (restW P L) := by
  unfold sidesK sidesW
  rw [List.take_length]
  conv => rhs; arg 3; unfold restW
  rw [List.foldl_filter]
  refine foldl_same fun S x _ => ?_
  by_cases h : x ∈ L
  · rw [if_neg (fun g => g h), if_neg (by rw [decide_eq_true_iff]; exact fun g => g h)]
  · rw [if_pos h, if_pos (decide_eq_true h)]
theorem sidesK_more {R : List (List Str)} {W P L : List Str} {k : Nat} {x : Str} (h : P[k]? = some x) : sidesK R W P L (k + 1) = if x ∉ L then addW R W (sidesK R W P L k) x else sidesK R W P L k := by
  unfold sidesK
  rw [List.take_succ, h, List.foldl_append]
  rfl
theorem told_app {S : List (List Str)} {s : List Str} {z : Str} : Told (S ++ [s]) z ↔ Told S z ∨ z ∈ s := by
  unfold Told
  constructor
  · rintro ⟨u, hu, hz⟩
    rcases List.mem_append.mp hu with m | m
    · exact .inl ⟨u, m, hz⟩
    · rw [List.mem_singleton.mp m] at hz
      exact .inr hz
  · rintro (⟨u, hu, hz⟩ | hz)
    · exact ⟨u, List.mem_append_left _ hu, hz⟩
    · exact ⟨s, List.mem_append_right _ List.mem_cons_self, hz⟩
/-! picked ones, sublots -/
theorem getD_at {α : Type} {l : List α} {j : Nat} {d : α} (h : j < l.length) : l.getD j d = l[j] := by rw [List.getD_eq_getElem?_getD, List.getElem?_eq_getElem h]; rfl
theorem range_map {α β : Type} (l : List α) (d : α) (f : α → β) : (List.range l.length).map (fun j => f (l.getD j d)) = l.map f := by
  refine List.ext_getElem (by rw [List.length_map, List.length_range, List.length_map]) fun i h1 h2 => ?_
  rw [List.length_map] at h2
  rw [List.getElem_map, List.getElem_map, List.getElem_range, getD_at h2]
theorem rel_map {α β γ : Type} {P : α → β → Prop} {f : γ → α} {g : γ → β} {l : List γ} (h : ∀ j ∈ l, P (f j) (g j)) : Rel P (l.map f) (l.map g) := by
  refine ⟨by rw [List.length_map, List.length_map], fun i r x e1 e2 => ?_⟩
  rw [List.getElem?_map] at e1 e2
  cases q : l[i]? with
  | none => rw [q] at e1; cases e1
  | some j =>
    rw [q] at e1 e2
    cases e1
    cases e2
    exact h j (List.mem_of_getElem? q)
theorem ref_at {α : Type} {P : Addr → α → Prop} {rs : List Addr} {z : List α} (R : Rel P rs z) {j : Nat} (hj : j < z.length) : (rs.map V.ref).getD j .non = .ref (rs.getD j 0) ∧ P (rs.getD j 0) z[j] ∧ (rs.map V.ref)[j]? = some (.ref (rs.getD j 0)) := by
  obtain ⟨r, e1, e2, p⟩ := R.refs_at hj
  have er : rs.getD j 0 = r := by
    have l := R.1
    rw [List.getElem?_map, List.getElem?_eq_getElem (by omega)] at e1
    rw [getD_at (by omega)]
    exact V.ref.inj (Option.some.inj e1)
  rw [er]
  exact ⟨e2, p, e1⟩
theorem pls_pick {rs : List Addr} {z : List (List Str)} {H H' : Hp} {E : Addr} {p : List Str → Bool} (R : Rel (PT H) rs z) (m : ∀ r k, PT H r k → PT H' r k) (h : H' E = some (.lst (((List.range z.length).filter fun j => p (z.getD j [])).map fun j => V.ref (rs.getD j 0)))) : PLs H' E (z.filter p) := by
  refine ⟨((List.range z.length).filter fun j => p (z.getD j [])).map fun j => rs.getD j 0, by rw [List.map_map]; exact h, ?_⟩
  rw [← pick_filter z [] p]
  refine rel_map fun j hj => ?_
  rw [List.mem_filter, List.mem_range] at hj
  rw [getD_at hj.1]
  exact m _ _ (ref_at R hj.1).2.1
/-- all sublots, each pin put behind those that are there -/
def subs (P : List Str) : List (List Str) := P.foldl (fun s y => s ++ s.map fun z => z ++ [y]) [[]]
theorem subs_more (P : List Str) (y : Str) : subs (P ++ [y]) = subs P ++ (subs P).map fun z => z ++ [y] := by
  unfold subs
  rw [List.foldl_append]
  rfl
theorem subs_ind {C : List Str → Prop} (h0 : C []) (h1 : ∀ P y, C P → C (P ++ [y])) : ∀ (n : Nat) (P : List Str), P.length = n → C P
  | 0, P, h => by rw [List.length_eq_zero_iff.mp h]; exact h0
  | n + 1, P, h => by
    rcases List.eq_nil_or_concat P with e | ⟨l, y, e⟩
    · rw [e] at h; cases h
    · rw [e, List.concat_eq_append] at h ⊢
      rw [List.length_append] at h
      exact h1 l y (subs_ind h0 h1 n l (Nat.succ.inj h))
theorem sub_last {P z : List Str} {y : Str} : z.Sublist (P ++ [y]) ↔ z.Sublist P ∨ ∃ u, u.Sublist P ∧ z = u ++ [y] := by
  rw [List.sublist_append_iff]
  constructor
  · rintro ⟨a, b, rfl, h1, h2⟩
    cases h2 with
    | cons _ h => rw [List.sublist_nil.mp h, List.append_nil]; exact .inl h1
    | cons_cons _ h => rw [List.sublist_nil.mp h]; exact .inr ⟨a, h1, rfl⟩
  · rintro (h | ⟨u, h, rfl⟩)
    · exact ⟨z, [], (List.append_nil z).symm, h, List.nil_sublist _⟩
    · exact ⟨u, [y], rfl, h, List.Sublist.refl _⟩
theorem subs_mem (P : List Str) : ∀ z, z ∈ subs P ↔ z.Sublist P := by
  refine subs_ind (C := fun P => ∀ z, z ∈ subs P ↔ z.Sublist P) ?_ ?_ P.length P rfl
  · intro z
    show z ∈ [[]] ↔ _
    rw [List.mem_singleton, List.sublist_nil]
  · intro P y ih z
    rw [subs_more, List.mem_append, ih z, List.mem_map, sub_last]
    refine or_congr_right ⟨fun ⟨u, hu, e⟩ => ⟨u, (ih u).mp hu, e.symm⟩, fun ⟨u, hu, e⟩ => ⟨u, (ih u).mpr hu, e.symm⟩⟩
theorem subs_len (P : List Str) : (subs P).length = 2 ^ P.length := by
  refine subs_ind (C := fun P => (subs P).length = 2 ^ P.length) rfl ?_ P.length P rfl
  intro P y ih
  rw [subs_more, List.length_append, List.length_map, ih, List.length_append]
  show _ = 2 ^ (P.length + 1)
  rw [Nat.pow_succ]
  omega
theorem subs_nodup {P : List Str} : P.Nodup → (subs P).Nodup := by
  refine subs_ind (C := fun P => P.Nodup → (subs P).Nodup) (fun _ => List.pairwise_singleton _ _) ?_ P.length P rfl
  intro P y ih nd
  rw [List.nodup_append] at nd
  rw [subs_more, List.nodup_append]
  have ih := ih nd.1
  refine ⟨ih, ?_, fun a ha b hb e => ?_⟩
  · refine List.pairwise_map.mpr (List.Pairwise.imp (fun {a b} hab e => hab ?_) ih)
    exact List.append_cancel_right e
  · obtain ⟨u, hu, rfl⟩ := List.mem_map.mp hb
    have sa := (subs_mem P a).mp ha
    have : y ∈ P := sa.subset (e ▸ List.mem_append_right _ List.mem_cons_self)
    exact nd.2.2 y this y List.mem_cons_self rfl
theorem lotsN_few {P : List Str} (h : PinsOk P) {n : Nat} (h6 : n ≤ 6) : (lotsN P n).length ≤ 256 := by
  have := nodup_len (l := lotsN P n) (m := subs P) (lotsN_asc h.asc n).nodup fun z hz => (subs_mem P z).mpr ((asc_sub_iff h.asc).mpr ⟨(lotsN_mem.mp hz).1, (lotsN_mem.mp hz).2.1⟩)
  rw [subs_len] at this
  exact Nat.le_trans this (Nat.pow_le_pow_right (by decide) h.few)
theorem rd_catP {K : PySem.W.Frag} {H : Hp} {Q : VK} {a b : Addr} {xs : List Str} {y : Str} (ha : PT H a xs) (hb : PT H b [y]) (few : xs.length ≤ 1000) (q : ∀ p H', Same H H' → PT H' p (xs ++ [y]) → Q (.ref p) H') : rCatA K (.ref a) (.ref b) H Q := by
  have lim : (2000 : Nat) ≤ sizeLine := by decide
  refine ⟨a, b, _, _, rfl, rfl, SqT.of ha, SqT.of hb, by rw [List.length_map, List.length_map]; show _ + 1 ≤ _; omega, fun e => ?_, fun _ e => (nomatch e), fun _ _ p hp => ?_⟩
  · have e2 : xs = [] := List.map_eq_nil_iff.mp e
    rw [e2] at q
    exact q b H (Same.refl _) hb
  · refine q p _ (fun c o e => up_old hp e) ?_
    show upd H p _ p = _
    rw [upd_same, List.map_append]
theorem eqv_pd (z z' : List Str) : PyData.eqv (pd z) (pd z') = decide (z = z') := enc_pd.iff z z'
/-- the lots that are built on the lot z -/
def grownBy (P z : List Str) : List (List Str) := (P.filter (goes z)).map fun y => z ++ [y]
theorem lotsN_next (P : List Str) (n : Nat) : lotsN P (n + 1) = ((lotsN P n).map (grownBy P)).flatten := rfl
theorem grown_more {P z : List Str} {j : Nat} {y : Str} (h : P[j]? = some y) : grownBy (P.take (j + 1)) z = if goes z y = true then grownBy (P.take j) z ++ [z ++ [y]] else grownBy (P.take j) z := by
  unfold grownBy
  rw [List.take_succ, h, List.filter_append]
  show ((_ ++ List.filter (goes z) [y]).map _) = _
  by_cases g : goes z y = true
  · rw [if_pos g, List.filter_cons_of_pos g, List.map_append]
    rfl
  · rw [if_neg g, List.filter_cons_of_neg g, List.filter_nil, List.append_nil]
theorem grown_len (P z : List Str) : (grownBy P z).length ≤ P.length := by
  unfold grownBy
  rw [List.length_map]
  exact List.length_filter_le _ _
theorem flat_len {zs : List (List Str)} {P : List Str} (i : Nat) (h : P.length ≤ 8) : ((zs.take i).map (grownBy P)).flatten.length ≤ 8 * zs.length := by
  have go : ∀ l : List (List Str), ((l.map (grownBy P)).flatten).length ≤ 8 * l.length := fun l => by
    induction l with
    | nil => exact Nat.zero_le _
    | cons z l ih =>
      rw [List.map_cons, List.flatten_cons, List.length_append, List.length_cons]
      have := grown_len P z
      omega
  have := go (zs.take i)
  rw [List.length_take] at this
  omega
/-- [f(x) for x in .. if b(x)], each f(x) a tuple of texts -/
theorem lc_tups {σ : L2.St} {H1 : Hp} {Q : VK} {J : It} {n : Nat} {G : Hp → Prop} {item : Nat → V} (w : Wk J n G item) {i : Nat} {tt : L2.TT} {te : TE} {E : Addr} (hn : n ≤ 1000) (hE : H1 E = none) (hG : ∀ H', Same H1 H' → G H') (b : Nat → Bool) (f : Nat → List Str)
    (ht : ∀ j, j < n → ∀ H', Same H1 H' → ∀ R : Bool → Hp → Prop, (∀ H'', Same H' H'' → R (b j) H'') → tt ((wipe σ [i]).set i (some (item j))) H' R)
    (he : ∀ j, j < n → b j = true → ∀ H', Same H1 H' → ∀ R : VK, (∀ t H'', Same H' H'' → PT H'' t (f j) → R (.ref t) H'') → te ((wipe σ [i]).set i (some (item j))) H' R)
    (hd : ∀ H', Same H1 H' → PLs H' E (((List.range n).filter b).map f) → Q (.ref E) H') : LcAt J (gName i) tt te [i] σ E H1 Q := by
  refine ⟨fun k m H' => m = n - k ∧ k ≤ n ∧ Same H1 H' ∧ PLs H' E (((List.range k).filter b).map f), ⟨n, rfl, Nat.zero_le _, same_up hE (Same.refl H1), [], upd_same, Rel.nil⟩, ?_⟩
  rintro k m H' ⟨rfl, hk, hs, rs, hl, R⟩
  have lr := R.1
  rw [List.length_map] at lr
  have few := List.length_filter_le b (List.range k)
  rw [List.length_range] at few
  by_cases hlt : k < n
  · refine Or.inr ⟨w.go k H' (hG H' hs) hlt, fun H'' => Same H1 H'' ∧ PLs H'' E (((List.range (k + 1)).filter b).map f), fun H'' h => ⟨n - (k + 1), by omega, rfl, hlt, h.1, h.2⟩, fun x H2 hy => ?_⟩
    obtain ⟨rfl, rfl⟩ := w.yld k H' x H2 (hG H' hs) hlt hy
    refine ⟨wipe1 σ i _, ?_⟩
    refine ht k hlt H2 hs _ fun H3 s3 => ?_
    refine rd_ifb (fun hb => ?_) (fun hb => ?_)
    · refine he k hlt hb H3 (hs.trans s3) _ fun t H4 s4 ht4 => ?_
      have e4 := s4 _ _ (s3 _ _ hl)
      refine ⟨_, e4, Nat.lt_of_le_of_lt (by rw [List.length_map]; omega : _ ≤ 1000) (by decide), same_up hE ((hs.trans s3).trans s4), rs ++ [t], by rw [upd_same, List.map_append]; rfl, ?_⟩
      rw [List.range_succ, List.filter_append, List.map_append]
      have e1 : List.map f (List.filter b [k]) = [f k] := by simp [hb]
      rw [e1]
      exact (Rel.app (R.mono fun _ _ p => (p.same s3).same s4) (Rel.cons ht4 Rel.nil)).mono fun _ _ p => pt_write (lst_nt e4) p
    · refine ⟨hs.trans s3, rs, s3 _ _ hl, ?_⟩
      rw [List.range_succ, List.filter_append]
      have e1 : List.filter b [k] = [] := by simp [hb]
      rw [e1, List.append_nil]
      exact R.mono fun _ _ p => p.same s3
  · have e : k = n := by omega
    subst e
    exact Or.inl ⟨w.stop H' (hG H' hs), hd H' hs ⟨rs, hl, R⟩⟩
theorem yes_map {α β : Type} (l : List α) (d : α) (f : α → β) : ((List.range l.length).filter fun _ => true).map (fun j => f (l.getD j d)) = l.map f := by
  rw [List.filter_eq_self.mpr fun _ _ => rfl]
  exact range_map l d f
theorem rd_sortLen {K : PySem.W.Frag} {σ : L2.St} {H : Hp} {Q : VK} {ta : TE} (q : ta σ H fun x H1 => ∃ (a : Addr) (rs : List Addr) (ks : List (List Str)), x = .ref a ∧ SqL K H1 a (rs.map V.ref) ∧ Rel (PT H1) rs ks ∧ ks.length ≤ 4000 ∧
  ∀ (os : List (Addr × List Str)) (p : Addr), os.Perm (rs.zip ks) → H1 p = none → Q (.ref p) (upd H1 p (.lst ((os.map (·.1)).map V.ref)))) : tSortLen K ta σ H Q := q
theorem subs_few {P : List Str} (h : P.length ≤ 8) : (subs P).length ≤ 256 := by
  rw [subs_len]
  exact Nat.pow_le_pow_right (by decide) h
/-- sorted(xs) of a list of unlike tuples of texts -/
theorem rd_sortPL {K : PySem.W.Frag} {H : Hp} {Q : VK} {r : Addr} {z : List (List Str)} (h : PLs H r z) (nd : z.Nodup) (q : ∀ p H' zs, Same H H' → PLs H' p zs → zs.Perm z → Asc pd zs → Q (.ref p) H') : rSortedD K [.ref r] H Q := by
  obtain ⟨rs, h1, R⟩ := h
  obtain ⟨z1, z2, z3⟩ := R.zip
  have e1 : ((rs.zip z).map fun b => (V.ref b.1, pd b.2)).map (·.1) = rs.map V.ref := by rw [List.map_map, ← congrArg (List.map V.ref) z1, List.map_map]; rfl
  have e2 : ((rs.zip z).map fun b => (V.ref b.1, pd b.2)).map (·.2) = z.map pd := by rw [List.map_map, ← congrArg (List.map pd) z2, List.map_map]; rfl
  obtain ⟨rs', zs', s1, s2, s3, s4⟩ := sorted_rel (enc := pd) enc_pd R nd (bs := (rs.zip z).map fun p => (V.ref p.1, pd p.2)) rfl
  refine ⟨r, (rs.zip z).map fun b => (V.ref b.1, pd b.2), rfl, by rw [e1]; exact SqL.of h1, ⟨fun b hb => ?_, fun b hb => ?_, ?_, fun b hb => ?_⟩, fun p hp => ?_⟩
  · obtain ⟨c, hc, rfl⟩ := List.mem_map.mp hb
    exact Lay.PT.dp (z3 c hc)
  · obtain ⟨c, hc, rfl⟩ := List.mem_map.mp hb
    exact ⟨_, rfl⟩
  · rw [e2]
    intro d hd d' hd'
    obtain ⟨k, _, rfl⟩ := List.mem_map.mp hd
    obtain ⟨k', _, rfl⟩ := List.mem_map.mp hd'
    exact enc_pd.al k k'
  · obtain ⟨c, hc, rfl⟩ := List.mem_map.mp hb
    exact Nat.le_trans (depth_pd _) (by decide)
  · rw [s1]
    have sm : Same H (upd H p (.lst (rs'.map V.ref))) := fun b o e => up_old hp e
    exact q p _ zs' sm ⟨rs', upd_same, s2.mono fun _ _ q => q.same sm⟩ s3 s4
/-! what is drawn -/
instance (z : Str) : Decidable (Nm z) := by unfold Nm; infer_instance
section
variable {H H' : Hp} {a r : Addr} {k : List Str} {z : List (List Str)} {c : List (List (List Str))}
theorem bag_tup (b : BagAt H a) {xs : List V} (h : H r = some (.tup xs)) : r ≠ a := fun e => by
  obtain ⟨g, m, c, e1, _⟩ := b
  rw [e, e1] at h
  cases h
theorem bag_refs (b : BagAt H a) {rs : List Addr} (h : H r = some (.lst (rs.map V.ref))) : r ≠ a := fun e => by
  obtain ⟨g, m, c, e1, _⟩ := b
  rw [e, e1] at h
  cases rs <;> cases h
theorem bag_strs (b : BagAt H a) {rs : List Str} (h : H r = some (.lst (rs.map V.str))) : r ≠ a := fun e => by
  obtain ⟨g, m, c, e1, _⟩ := b
  rw [e, e1] at h
  cases rs <;> cases h
theorem bag_none (b : BagAt H a) (h : H r = none) : r ≠ a := fun e => by
  obtain ⟨g, m, c, e1, _⟩ := b
  rw [e, e1] at h
  cases h
theorem _root_.Lay.PT.but (b : BagAt H a) (u : But a H H') (h : PT H r k) : PT H' r k := u _ _ (bag_tup b h) h
theorem _root_.Lay.LtT.but (b : BagAt H a) (u : But a H H') (h : LtT H r z) : LtT H' r z := by
  obtain ⟨rs, h1, R⟩ := h
  exact ⟨rs, u _ _ (bag_tup b h1) h1, R.mono fun _ _ p => p.but b u⟩
theorem _root_.Lay.PLs.but (b : BagAt H a) (u : But a H H') (h : PLs H r z) : PLs H' r z := by
  obtain ⟨rs, h1, R⟩ := h
  exact ⟨rs, u _ _ (bag_refs b h1) h1, R.mono fun _ _ p => p.but b u⟩
theorem same_but (s : Same H H') : But a H H' := fun x o _ e => s x o e
end
theorem bag_same {H H' : Hp} {a : Addr} (s : Same H H') (h : BagAt H a) : BagAt H' a := by
  obtain ⟨g, m, c, e, r⟩ := h
  exact ⟨g, m, c, s _ _ e, r⟩
/-- texts in a drawn order -/
def spShuffled : Sp := fun vs H Q _ => ∃ (a l : Addr) (xs : List V), vs = [.ref a, .ref l] ∧ BagAt H a ∧ H l = some (.lst xs) ∧ xs.length ≤ 20 ∧
  ∀ ys p H', ys.Perm xs → H p = none → But a H H' → BagAt H' a → H' p = some (.lst ys) → Q (.ref p) H'
theorem strs_back {ys : List V} {L : List Str} (h : ys.Perm (L.map V.str)) : ∃ zs : List Str, ys = zs.map V.str ∧ zs.Perm L := by
  let f : V → Str := fun v => match v with | .str z => z | _ => ""
  have e : ∀ {ys : List V}, (∀ v ∈ ys, ∃ z, v = .str z) → ys = (ys.map f).map V.str := fun {ys} h => by
    induction ys with
    | nil => rfl
    | cons v ys ih =>
      obtain ⟨z, rfl⟩ := h v List.mem_cons_self
      rw [List.map_cons, List.map_cons, ← ih fun u hu => h u (List.mem_cons_of_mem _ hu)]
  refine ⟨ys.map f, e fun v hv => ?_, ?_⟩
  · obtain ⟨z, _, e⟩ := List.mem_map.mp (h.mem_iff.mp hv)
    exact ⟨z, e.symm⟩
  · have := h.map f
    rw [List.map_map, show (f ∘ V.str) = id from rfl, List.map_id] at this
    exact this
theorem erase_perm {α : Type} : ∀ {l : List α} {k : Nat} {y : α}, l[k]? = some y → (y :: l.eraseIdx k).Perm l
  | [], k, y, h => by cases k <;> cases h
  | x :: l, 0, y, h => by
    cases h
    exact List.Perm.refl _
  | x :: l, k + 1, y, h => by
    have h : l[k]? = some y := h
    rw [List.eraseIdx_cons_succ]
    exact (List.Perm.swap x y _).trans ((erase_perm h).cons x)
/-- all pairs of some texts -/
def pairsOf : List Str → List (List Str)
  | [] => []
  | x :: r => r.map (fun y => [x, y]) ++ pairsOf r
theorem pairs_fst : ∀ {l : List Str} {k : List Str}, k ∈ pairsOf l → ∃ x ∈ l, ∃ y ∈ l, k = [x, y]
  | [], k, h => nomatch h
  | x :: r, k, h => by
    rcases List.mem_append.mp h with e | e
    · obtain ⟨y, hy, rfl⟩ := List.mem_map.mp e
      exact ⟨x, List.mem_cons_self, y, List.mem_cons_of_mem _ hy, rfl⟩
    · obtain ⟨a, ha, b, hb, rfl⟩ := pairs_fst e
      exact ⟨a, List.mem_cons_of_mem _ ha, b, List.mem_cons_of_mem _ hb, rfl⟩
theorem pair_lt1 {x y x' y' : Str} (h : W.dataLt (.str x) (.str x') = true) : W.dataLt (pd [x, y]) (pd [x', y']) = true := by
  show W.dataLt (.tuple [.str x, .str y]) (.tuple [.str x', .str y']) = true
  rw [W.dataLt_pair (enc_str.al x x') (enc_str.al y y'), enc_str.iff, decide_eq_false (fun e => by rw [e, dlt_irr] at h; cases h), if_neg (fun z => nomatch z)]
  exact h
theorem pair_lt2 {x y y' : Str} (h : W.dataLt (.str y) (.str y') = true) : W.dataLt (pd [x, y]) (pd [x, y']) = true := by
  show W.dataLt (.tuple [.str x, .str y]) (.tuple [.str x, .str y']) = true
  rw [W.dataLt_pair (enc_str.al x x) (enc_str.al y y'), enc_str.refl, if_pos rfl, enc_str.iff, decide_eq_false (fun e => by rw [e, dlt_irr] at h; cases h), if_neg (fun z => nomatch z)]
  exact h
theorem pairs_asc : ∀ {l : List Str}, Asc PyData.str l → Asc pd (pairsOf l)
  | [], _ => .nil
  | x :: r, h => by
    have h' := List.pairwise_cons.mp h
    refine List.pairwise_append.mpr ⟨List.pairwise_map.mpr (h'.2.imp fun {a b} hab => pair_lt2 hab), pairs_asc h'.2, fun a ha b hb => ?_⟩
    obtain ⟨y, hy, rfl⟩ := List.mem_map.mp ha
    obtain ⟨x', hx', y', _, rfl⟩ := pairs_fst hb
    exact pair_lt1 (h'.1 x' hx')
theorem pairs_ok : ∀ {l : List Str}, Asc PyData.str l → (∀ z ∈ l, Nm z) → ∀ k ∈ pairsOf l, PairOk k
  | [], _, _, k, h => nomatch h
  | x :: r, asc, nm, k, h => by
    have h' := List.pairwise_cons.mp asc
    rcases List.mem_append.mp h with e | e
    · obtain ⟨y, hy, rfl⟩ := List.mem_map.mp e
      have lt := h'.1 y hy
      rw [W.dataLt_str] at lt
      exact ⟨x, y, rfl, nm x List.mem_cons_self, nm y (List.mem_cons_of_mem _ hy), of_decide_eq_true lt⟩
    · exact pairs_ok h'.2 (fun z hz => nm z (List.mem_cons_of_mem _ hz)) k e
/-- the pairs whose first text is among the first i -/
def upto (l : List Str) (i : Nat) : List (List Str) := ((List.range i).map fun j => (l.drop (j + 1)).map fun y => [l.getD j "", y]).flatten
theorem upto_more (l : List Str) (i : Nat) : upto l (i + 1) = upto l i ++ (l.drop (i + 1)).map fun y => [l.getD i "", y] := by
  unfold upto
  rw [List.range_succ, List.map_append, List.flatten_append]
  congr 1
  exact List.flatten_singleton
theorem upto_all : ∀ l : List Str, upto l l.length = pairsOf l
  | [] => rfl
  | x :: r => by
    have ih := upto_all r
    unfold upto at ih ⊢
    rw [List.length_cons, List.range_succ_eq_map, List.map_cons, List.flatten_cons, List.map_map]
    show r.map _ ++ _ = r.map _ ++ pairsOf r
    rw [← ih]
    rfl
def names8 : List Str := ["a", "b", "c", "d", "e", "f", "g", "h"]
def names14 : List Str := ["a", "aa", "ab", "b", "ba", "c", "mast", "p", "q", "y", "z", "zz", "zzz", "zzzz"]
theorem names8_ok : names8.Nodup ∧ ∀ z ∈ names8, Nm z := by decide +kernel
theorem names14_ok : names14.Nodup ∧ ∀ z ∈ names14, Nm z := by decide +kernel
theorem pairs_len : ∀ l : List Str, 2 * (pairsOf l).length = l.length * (l.length - 1)
  | [] => rfl
  | x :: r => by
    have ih := pairs_len r
    show 2 * (r.map _ ++ pairsOf r).length = _
    rw [List.length_append, List.length_map, List.length_cons, Nat.add_sub_cancel, Nat.mul_add, ih]
    rcases Nat.eq_zero_or_pos r.length with e | e
    · rw [e]
    · have : r.length * (r.length - 1) + r.length = r.length * r.length := by
        have h : r.length - 1 + 1 = r.length := by omega
        conv => rhs; rhs; rw [← h]
        rw [Nat.mul_add, Nat.mul_one]
      have e2 : (r.length + 1) * r.length = r.length * r.length + r.length := by rw [Nat.add_mul, Nat.one_mul]
      omega
theorem pairs_few {l : List Str} (h : l.length ≤ 8) : (pairsOf l).length ≤ 28 := by
  have e := pairs_len l
  have : l.length * (l.length - 1) ≤ 8 * 7 := Nat.mul_le_mul h (by omega)
  omega
theorem upto_few {P : List Str} (h : P.length ≤ 8) {i : Nat} : (upto P i).length ≤ 8 * i := by
  induction i with
  | zero => exact Nat.zero_le _
  | succ i ih =>
    rw [upto_more, List.length_append, List.length_map, List.length_drop]
    omega
theorem pairs_fr {P : List Str} (h : PinsOk P) {R : List (List Str)} (s : R.Sublist (pairsOf P)) : FrOk P R := by
  refine ⟨h, (pairs_asc h.asc).sublist s, fun k hk => ?_, Nat.le_trans s.length_le (pairs_few h.few)⟩
  have hk := s.subset hk
  obtain ⟨x, hx, y, hy, e⟩ := pairs_fst hk
  obtain ⟨u, v, e2, _, _, lt⟩ := pairs_ok h.asc h.nm k hk
  rw [e] at e2
  cases e2
  exact ⟨x, y, e, hx, hy, lt⟩
/-- a plain frame: a tuple of its pins and its rods -/
def FtAt (H : Hp) (t : Addr) (P : List Str) (R : List (List Str)) : Prop := ∃ p r, H t = some (.tup [.ref p, .ref r]) ∧ PT H p P ∧ LtT H r R
theorem FtAt.same {H H' : Hp} {t : Addr} {P : List Str} {R : List (List Str)} (s : Same H H') (h : FtAt H t P R) : FtAt H' t P R := by
  obtain ⟨p, r, h1, h2, h3⟩ := h
  exact ⟨p, r, s _ _ h1, h2.same s, h3.same s⟩
theorem FtAt.but {H H' : Hp} {a t : Addr} {P : List Str} {R : List (List Str)} (b : BagAt H a) (u : But a H H') (h : FtAt H t P R) : FtAt H' t P R := by
  obtain ⟨p, r, h1, h2, h3⟩ := h
  exact ⟨p, r, u _ _ (bag_tup b h1) h1, h2.but b u, h3.but b u⟩
theorem FrAt.but {C : Addr} {H H' : Hp} {a t : Addr} {P : List Str} {R : List (List Str)} (b : BagAt H a) (u : But a H H') (h : FrAt C H t P R) : FrAt C H' t P R := by
  obtain ⟨dx, p, r, h1, h2, h3⟩ := h
  refine ⟨dx, p, r, u _ _ (fun e => ?_) h1, h2.but b u, h3.but b u⟩
  obtain ⟨_, _, _, z, _⟩ := b
  rw [e, z] at h1
  cases h1
def spSomeOf : Sp := fun vs H Q _ => ∃ (a l : Addr) (xs : List V) (m : Nat), vs = [.ref a, .ref l, .int (m : Int)] ∧ BagAt H a ∧ H l = some (.lst xs) ∧ l ≠ a ∧ xs.length ≤ 100 ∧ 1 ≤ m ∧ m ≤ 2 ∧
  ∀ (ys : List V) p H', ys.Sublist xs → But a H H' → BagAt H' a → H' p = some (.lst ys) → Q (.ref p) H'
def spNamesM : Sp := fun vs H Q _ => ∃ (a : Addr) (m : Nat), vs = [.ref a, .int (m : Int)] ∧ BagAt H a ∧ 1 ≤ m ∧ m ≤ 7 ∧
  ∀ (ys : List Str) p H', ys.length = m → ys.Nodup → (∀ z ∈ ys, Nm z) → But a H H' → BagAt H' a → H' p = some (.lst (ys.map V.str)) → Q (.ref p) H'
def spPairsOf : Sp := fun vs H Q _ => ∃ (p : Addr) (P : List Str), vs = [.ref p] ∧ PT H p P ∧ PinsOk P ∧ ∀ q H', Same H H' → PLs H' q (pairsOf P) → Q (.ref q) H'
def spLawLot : Sp := fun vs H Q _ => ∃ (a p : Addr) (P : List Str), vs = [.ref a, .ref p] ∧ BagAt H a ∧ H p = some (.lst (P.map V.str)) ∧ p ≠ a ∧ P.length ≤ 8 ∧ ∀ t H' (L : List Str), But a H H' → BagAt H' a → PT H' t L → L.Sublist P → Q (.ref t) H'
def spRight : Sp := fun vs H Q _ => ∃ a : Addr, vs = [.ref a] ∧ BagAt H a ∧ ∀ H', But a H H' → BagAt H' a → Q (.bl true) H'
def spLaw (K : PySem.W.Frag) : Sp := fun vs H Q _ => ∃ (a : Addr) (ns : List Int), vs = [.ref a] ∧ SqL K H a (ns.map V.int) ∧ ns.length ≤ 63 ∧ ∀ H', Q (.bl true) H'
/-! what a frame is made of -/
theorem rd_frame {K : PySem.W.Frag} {C : Addr} {H : Hp} {G : Addr → Hp → Prop} {p r : Addr} {P : List Str} {R : List (List Str)} (hp : PT H p P) (hr : LtQ K H r R) (ok : FrOk P R) (n1 : 1 ≤ P.length) (q : ∀ x H', Same H H' → FrAt C H' x P R → G x H') :
    ∀ x dx, H x = none → H dx = none → dx ≠ x → spInit K C [.ref x, .ref p, .ref r] (upd (upd H dx (.own x)) x (.ins C dx [])) (fun v H2 => v = .non ∧ G x H2) E0 := fun x dx nx nd ne => by
  have s : Same H (upd (upd H dx (.own x)) x (.ins C dx [])) := fun b o e => by
    rw [upd_ne (ne_of_none e nx), upd_ne (ne_of_none e nd)]
    exact e
  refine ⟨x, dx, p, r, P, R, rfl, upd_same, hp.same s, hr.same s, ok, n1, fun H' hF kp => ⟨rfl, q x H' (fun b o e => kp b o (ne_of_none e nx) (s b o e)) hF⟩⟩
theorem rd_mk2 {C : Addr} {sp : Sp} {σ : L2.St} {H : Hp} {Q : VK} {t : TA} (q : t σ H fun vs H1 => ∀ x dx, H1 x = none → H1 dx = none → dx ≠ x → sp (.ref x :: (vs ++ [])) (upd (upd H1 dx (.own x)) x (.ins C dx [])) (fun v H2 => v = .non ∧ Q (.ref x) H2) E0) : tMake C sp [] E0 t σ H Q := q
theorem rd_mk1 {C e0 : Addr} {sp : Sp} {σ : L2.St} {H : Hp} {Q : VK} {t : TA} (q : t σ H fun vs H1 => ∀ x dx, H1 x = none → H1 dx = none → dx ≠ x → sp (.ref x :: (vs ++ [.ref e0])) (upd (upd H1 dx (.own x)) x (.ins C dx [])) (fun v H2 => v = .non ∧ Q (.ref x) H2) E0) : tMake C sp [.ref e0] E0 t σ H Q := q

/-! spots and placings -/
def Pl (f : Str → Int × Int) : Str → List Int := fun z => [(f z).1, (f z).2]
def Bs (n : Nat) (a : Int × Int) : Prop := Bd n a.1 ∧ Bd n a.2
def S2 (K : PySem.W.Frag) (H : Hp) (p : Addr) (a : Int × Int) : Prop := SqT K H p (sv [a.1, a.2])
/-- the spots of a placing are tuples, made or written -/
def PlT (K : PySem.W.Frag) (H : Hp) (d : Addr) : Prop := ∀ kvs, H d = some (.dK kvs) → ∀ p ∈ kvs, ∃ r, p.2 = .ref r ∧ TyT K H r
def subS (a b : Int × Int) : Int × Int := (a.1 - b.1, a.2 - b.2)
def addS (a b : Int × Int) : Int × Int := (a.1 + b.1, a.2 + b.2)
def dotS (a b : Int × Int) : Int := a.1 * b.1 + a.2 * b.2
theorem sv0 (a b : Int) : (sv [a, b]).getD 0 .non = .int a := rfl
theorem sv1 (a b : Int) : (sv [a, b]).getD 1 .non = .int b := rfl
theorem two_j {j : Nat} (h : j < 2) : j = 0 ∨ j = 1 := by omega
theorem Bs.sub {n : Nat} {a b : Int × Int} (h : Bs n a) (g : Bs n b) : Bs (n + 1) (subS a b) := ⟨(h.1.sub g.1).mono (by omega), (h.2.sub g.2).mono (by omega)⟩
theorem Bs.mono {n m : Nat} {a : Int × Int} (h : Bs n a) (l : n ≤ m) : Bs m a := ⟨h.1.mono l, h.2.mono l⟩
theorem dot_bd {n : Nat} {a b : Int × Int} (h : Bs n a) (g : Bs n b) : Bd (2 * n + 1) (dotS a b) := ((h.1.mul g.1).add (h.2.mul g.2)).mono (by omega)
theorem tim_bd {n m : Nat} {s : Int} {a : Int × Int} (h : Bd m s) (g : Bs n a) : Bs (m + n) (tim s a) := ⟨h.mul g.1, h.mul g.2⟩
theorem Int.two_bd : Bd 2 2 := by unfold Bd; decide
/-- the program's own way to the mirrored spot -/
theorem mir_is (a b c : Int × Int) : mir a b c = addS (tim (dotS (subS b a) (subS b a)) a) (subS (tim (2 * dotS (subS c a) (subS b a)) (subS b a)) (tim (dotS (subS b a) (subS b a)) (subS c a))) := by
  obtain ⟨a1, a2⟩ := a
  obtain ⟨b1, b2⟩ := b
  obtain ⟨c1, c2⟩ := c
  simp only [mir, addS, tim, dotS, subS, Prod.mk.injEq]
  constructor <;> grind
theorem asc_eq {P z : List Str} (hP : Asc PyData.str P) (hz : Asc PyData.str z) (pm : z.Perm P) : z = P := ((asc_sub_iff hP).mpr ⟨hz, fun y h => pm.mem_iff.mp h⟩).eq_of_length pm.length_eq
/-- a placing of the plane whose numbers are short -/
structure PlOk (ks : List Str) (f : Str → Int × Int) (n : Nat) : Prop where
  nd : ks.Nodup
  nm : ∀ z ∈ ks, Nm z
  one : 1 ≤ ks.length
  few : ks.length ≤ 8
  bd : ∀ z ∈ ks, Bs n (f z)
/-- the square of a pair -/
def sqP (f : Str → Int × Int) (k : List Str) : Int := match k with | [x, y] => sq2 (f x) (f y) | _ => 0
def pairsA (ks : List Str) : List (List Str) := (ks.flatMap fun x => (ks.filter fun y => decide (x.cps.toList < y.cps.toList)).map fun y => [x, y])
theorem PlT.same {K : PySem.W.Frag} {H H' : Hp} {d : Addr} (s : Same H H') (kvs : List (Key × V)) (e : H d = some (.dK kvs)) (h : PlT K H d) : PlT K H' d := fun ls e' p hp => by
  rw [s _ _ e] at e'
  cases e'
  obtain ⟨r, e1, e2⟩ := h _ e p hp
  exact ⟨r, e1, e2.same s⟩
theorem plt_get {K : PySem.W.Frag} {H : Hp} {d : Addr} {ks : List Str} {f : Str → List Int} {z : Str} (h : Plc K H d ks f) (t : PlT K H d) {G : V → Prop} (m : z ∈ ks) (q : ∀ p, SqT K H p (sv (f z)) → TyT K H p → G (.ref p)) : ∃ a v, V.ref d = .ref a ∧ DGet H a (.str z) (some v) ∧ G v := by
  obtain ⟨A, h1, h2⟩ := h
  refine ⟨d, _, rfl, get_f (.inl h1) m, q _ (h2 z m) ?_⟩
  obtain ⟨r, e1, e2⟩ := t _ h1 _ (List.mem_map_of_mem (f := fun z => ((Sum.inr z : Key), V.ref (A z))) m)
  cases e1
  exact e2
theorem all_same {n : Nat} {b : Bool} (h : 1 ≤ n) : ((List.range n).map fun _ => b).all id = b := by
  rw [List.all_map]
  cases b with
  | true => exact List.all_eq_true.mpr fun _ _ => rfl
  | false => exact Bool.eq_false_iff.mpr fun h2 => absurd (List.all_eq_true.mp h2 0 (List.mem_range.mpr h)) (by decide)
theorem sql_same {K : PySem.W.Frag} {H H' : Hp} {a : Addr} {xs : List V} (h : SqL K H a xs) (s : Same H H') : SqL K H' a xs := by
  rcases h with (h | ⟨o, h⟩) | h
  · exact .inl (.inl (s _ _ h))
  · exact .inl (.inr ⟨o, s _ _ h⟩)
  · exact .inr h
theorem pairsA_mem {ks k : List Str} : k ∈ pairsA ks ↔ ∃ x y, k = [x, y] ∧ x ∈ ks ∧ y ∈ ks ∧ x.cps.toList < y.cps.toList := by
  unfold pairsA
  rw [List.mem_flatMap]
  constructor
  · rintro ⟨x, hx, h⟩
    obtain ⟨y, hy, rfl⟩ := List.mem_map.mp h
    rw [List.mem_filter] at hy
    exact ⟨x, y, rfl, hx, hy.1, of_decide_eq_true hy.2⟩
  · rintro ⟨x, y, rfl, hx, hy, lt⟩
    exact ⟨x, hx, List.mem_map.mpr ⟨y, List.mem_filter.mpr ⟨hy, decide_eq_true lt⟩, rfl⟩⟩
theorem pairsA_two {ks : List Str} : ∀ k ∈ pairsA ks, ∃ x y, k = [x, y] ∧ x ∈ ks ∧ y ∈ ks := fun k hk => by
  obtain ⟨x, y, e, hx, hy, _⟩ := pairsA_mem.mp hk
  exact ⟨x, y, e, hx, hy⟩
theorem pairsA_nodup {ks : List Str} (nd : ks.Nodup) : (pairsA ks).Nodup := by
  unfold pairsA
  refine List.pairwise_flatMap.mpr ⟨fun x _ => ?_, nd.imp fun {a b} ne u hu v hv e => ?_⟩
  · refine List.pairwise_map.mpr ((List.Pairwise.filter _ nd).imp fun {a b} ne e => ne ?_)
    have := (List.cons.inj e).2
    exact (List.cons.inj this).1
  · obtain ⟨_, _, rfl⟩ := List.mem_map.mp hu
    obtain ⟨_, _, rfl⟩ := List.mem_map.mp hv
    exact ne (List.cons.inj e).1
theorem pairsA_len {ks : List Str} (few : ks.length ≤ 8) : (pairsA ks).length ≤ 100 := by
  have go : ∀ us : List Str, (us.flatMap fun x => (ks.filter fun y => decide (x.cps.toList < y.cps.toList)).map fun y => [x, y]).length ≤ us.length * 8 := by
    intro us
    induction us with
    | nil => exact Nat.zero_le _
    | cons u us ih =>
      rw [List.flatMap_cons, List.length_append, List.length_cons, List.length_map]
      have := List.length_filter_le (fun y : Str => decide (u.cps.toList < y.cps.toList)) ks
      omega
  have := go ks
  unfold pairsA
  omega
theorem eqv_strs : ∀ l : List Str, PyData.eqvAll (l.map PyData.str) (l.map PyData.str) = true
  | [] => rfl
  | z :: l => by
    simp only [List.map_cons, PyData.eqvAll, PyData.eqv, eqv_strs l, Bool.and_true]
    exact beq_self_eq_true z
theorem rd_neStrs {K : PySem.W.Frag} {H : Hp} {Q : VK} {p q : Addr} {l : List Str} (hp : SqL K H p (l.map V.str)) (hq : SqL K H q (l.map V.str)) (ok : ∀ d ∈ l.map PyData.str, d.canLay0 = true ∧ d.depth ≤ 1) (k : Q (.bl false) H) : rNeD K (.ref p) (.ref q) H Q := by
  have sh := shaped_listN (n := 1) (by decide) ok
  refine ⟨_, _, .lst hp (dp_strs l), .lst hq (dp_strs l), sh, sh, ?_⟩
  simp only [PyData.eqv]
  rw [eqv_strs]
  exact k
theorem rd_pRods {K : PySem.W.Frag} {C : Addr} {H : Hp} {σ : L2.St} {Q : VK} {a dx p r : Addr} {i : Nat} (h : H a = some (.ins C dx [("_pins", .ref p), ("_rods", .ref r)])) (hv : σ[i]? = some (some (.ref a))) (q : Q (.ref r) H) : tProp C (getSp C "_rods") [] E0 (tVar i) σ H Q :=
  ⟨.ref a, hv, a, _, _, rfl, h, a, dx, _, _, rfl, h, look_rods, q⟩
def spDrawW : Sp := fun vs H Q _ => ∃ (a : Addr) (n : Int), vs = [.ref a, .int n] ∧ BagAt H a ∧ 1 ≤ n ∧ n < 1298074214633706907132624082305024 ∧
  ∀ (k : Int) (H' : Hp), 0 ≤ k → k < n → But a H H' → BagAt H' a → Q (.int k) H'
def spProduct (K : PySem.W.Frag) : Sp := fun vs H Q _ => ∃ (p q : Addr) (a b : Int × Int) (n : Nat), vs = [.ref p, .ref q] ∧ S2 K H p a ∧ S2 K H q b ∧ Bs n a ∧ Bs n b ∧ n ≤ 3000 ∧ ∀ H', Same H H' → Q (.int (dotS a b)) H'
def spSum (K : PySem.W.Frag) : Sp := fun vs H Q _ => ∃ (p q : Addr) (a b : Int × Int), vs = [.ref p, .ref q] ∧ S2 K H p a ∧ S2 K H q b ∧ ∀ t H', Same H H' → H t = none → H' t = some (.tup (sv [(addS a b).1, (addS a b).2])) → Q (.ref t) H'
def spDiff (K : PySem.W.Frag) : Sp := fun vs H Q _ => ∃ (p q : Addr) (a b : Int × Int), vs = [.ref p, .ref q] ∧ S2 K H p a ∧ S2 K H q b ∧ ∀ t H', Same H H' → H t = none → H' t = some (.tup (sv [(subS a b).1, (subS a b).2])) → Q (.ref t) H'
def spMul (K : PySem.W.Frag) : Sp := fun vs H Q _ => ∃ (p : Addr) (s : Int) (a : Int × Int) (n : Nat), vs = [.ref p, .int s] ∧ S2 K H p a ∧ Bs n a ∧ Bd n s ∧ n ≤ 3000 ∧ ∀ t H', Same H H' → H t = none → H' t = some (.tup (sv [(tim s a).1, (tim s a).2])) → Q (.ref t) H'
def spSquare (K : PySem.W.Frag) : Sp := fun vs H Q _ => ∃ (p q : Addr) (a b : Int × Int) (n : Nat), vs = [.ref p, .ref q] ∧ S2 K H p a ∧ S2 K H q b ∧ Bs n a ∧ Bs n b ∧ n ≤ 2000 ∧ ∀ H', Same H H' → Q (.int (sq2 a b)) H'
def spMirror (K : PySem.W.Frag) : Sp := fun vs H Q _ => ∃ (p s e : Addr) (c a b : Int × Int) (n : Nat), vs = [.ref p, .ref s, .ref e] ∧ S2 K H p c ∧ S2 K H s a ∧ S2 K H e b ∧ Bs n c ∧ Bs n a ∧ Bs n b ∧ n ≤ 200 ∧ ∀ t H', Same H H' → H t = none → H' t = some (.tup (sv [(mir a b c).1, (mir a b c).2])) → Q (.ref t) H'
def spSqOf (K : PySem.W.Frag) : Sp := fun vs H Q _ => ∃ (r d : Addr) (R : List (List Str)) (ks : List Str) (f : Str → Int × Int) (n : Nat), vs = [.ref r, .ref d] ∧ LtT H r R ∧ Plc K H d ks (Pl f) ∧ PlOk ks f n ∧ n ≤ 2000 ∧ R.length ≤ 100 ∧ R.Nodup ∧ (∀ k ∈ R, ∃ x y, k = [x, y] ∧ x ∈ ks ∧ y ∈ ks) ∧
  ∀ t H', Same H H' → Sqs H' t R (sqP f) → Q (.ref t) H'
def spAmong : Sp := fun vs H Q _ => ∃ (l : Addr) (ks : List Str), vs = [.ref l] ∧ H l = some (.lst (ks.map V.str)) ∧ PinsOk ks ∧ ∀ r H', Same H H' → LtT H' r (pairsA ks) → Q (.ref r) H'
def spSpot (K : PySem.W.Frag) : Sp := fun vs H Q _ => ∃ (p : Addr) (a : Int × Int) (m n : Nat), vs = [.ref p, .int (m : Int)] ∧ (m = 1 ∨ m = 2) ∧ (S2 K H p a ∧ TyT K H p) ∧ Bs n a ∧ n ≤ 5000 ∧ ∀ H', Same H H' → Q (.bl (decide (m = 2))) H'
def spSpots (K : PySem.W.Frag) : Sp := fun vs H Q _ => ∃ (l d : Addr) (ps ks : List Str) (f : Str → Int × Int) (m n : Nat), vs = [.ref l, .ref d, .int (m : Int)] ∧ (m = 1 ∨ m = 2) ∧ (H l = some (.lst (ps.map V.str)) ∨ PT H l ps) ∧ ps.length = ks.length ∧ (∀ z ∈ ps, z ∈ ks) ∧ Plc K H d ks (Pl f) ∧ PlT K H d ∧ PlOk ks f n ∧ n ≤ 5000 ∧
  ∀ H', Same H H' → Q (.bl (decide (m = 2))) H'
def spChPlac (K : PySem.W.Frag) (C : Addr) : Sp := fun vs H Q _ => ∃ (a d : Addr) (P : List Str) (R : List (List Str)) (f : Str → Int × Int) (n : Nat), vs = [.ref a, .ref d] ∧ FrAt C H a P R ∧ Plc K H d P (Pl f) ∧ PlT K H d ∧ PlOk P f n ∧ n ≤ 5000 ∧ ∀ H', Same H H' → Q .non H'
def spAnyPlac (K : PySem.W.Frag) : Sp := fun vs H Q _ => ∃ (d : Addr) (P : List Str) (f : Str → Int × Int) (n : Nat), vs = [.ref d] ∧ Plc K H d P (Pl f) ∧ PlT K H d ∧ PlOk P f n ∧ n ≤ 5000 ∧ ∀ H', Same H H' → Q (.bl true) H'
def spChFree (K : PySem.W.Frag) : Sp := fun vs H Q _ => ∃ (d : Addr) (P : List Str) (f : Str → Int × Int) (n : Nat), vs = [.ref d] ∧ Plc K H d P (Pl f) ∧ PlT K H d ∧ PlOk P f n ∧ n ≤ 5000 ∧ ∀ H', Same H H' → Q .non H'
def spChPin (K : PySem.W.Frag) : Sp := fun vs H Q _ => ∃ (d : Addr) (z : Str) (P : List Str) (f : Str → List Int), vs = [.ref d, .str z] ∧ Plc K H d P f ∧ z ∈ P ∧ Nm z ∧ ∀ H', Same H H' → Q .non H'
def spSpace (K : PySem.W.Frag) : Sp := fun vs H Q _ => ∃ (d : Addr) (P : List Str) (f : Str → Int × Int) (n : Nat), vs = [.ref d] ∧ Plc K H d P (Pl f) ∧ PlOk P f n ∧ ∀ H', Same H H' → Q (.int 2) H'
def spSquares (K : PySem.W.Frag) (C : Addr) : Sp := fun vs H Q _ => ∃ (a d : Addr) (P : List Str) (R : List (List Str)) (f : Str → Int × Int) (n : Nat), vs = [.ref a, .ref d] ∧ FrAt C H a P R ∧ FrOk P R ∧ Plc K H d P (Pl f) ∧ PlT K H d ∧ PlOk P f n ∧ n ≤ 2000 ∧ ∀ t H', Same H H' → Sqs H' t R (sqP f) → Q (.ref t) H'
def spAlike (K : PySem.W.Frag) : Sp := fun vs H Q _ => ∃ (d e : Addr) (P : List Str) (f g : Str → Int × Int) (n : Nat), vs = [.ref d, .ref e] ∧ Plc K H d P (Pl f) ∧ Plc K H e P (Pl g) ∧ PlT K H d ∧ PlT K H e ∧ PinsOk P ∧ PlOk P f n ∧ PlOk P g n ∧ n ≤ 2000 ∧
  ∀ H', Same H H' → Q (.bl ((pairsA P).all fun k => decide (sqP f k = sqP g k))) H'
/-- what mirrored tells -/
def mirF (f : Str → Int × Int) (x y : Str) (S : List Str) (z : Str) : Int × Int := if z ∈ S then mir (f x) (f y) (f z) else tim (sq2 (f x) (f y)) (f z)
def firF (f : Str → Int × Int) (x y : Str) (z : Str) : Int × Int := tim (sq2 (f x) (f y)) (f z)
def spMirrored (K : PySem.W.Frag) : Sp := fun vs H Q _ => ∃ (d l : Addr) (ks S : List Str) (x y : Str) (f : Str → Int × Int), vs = [.ref d, .str x, .str y, .ref l] ∧ Plc K H d ks (Pl f) ∧ PlT K H d ∧ PlOk ks f 150 ∧ x ∈ ks ∧ y ∈ ks ∧ x ≠ y ∧ PQ K H l S ∧ PinsOk S ∧ (∀ z ∈ S, z ∈ ks ∧ z ≠ x ∧ z ≠ y) ∧ f x ≠ f y ∧
  ∀ t d1 d2 P H', Same H H' → H' t = some (.tup [.ref d1, .ref d2]) → P.Perm ks → PinsOk P → Plc K H' d1 P (Pl (firF f x y)) → PlT K H' d1 → Plc K H' d2 P (Pl (mirF f x y S)) → PlT K H' d2 → Q (.ref t) H'
def spOneOf (K : PySem.W.Frag) : Sp := fun vs H Q _ => ∃ (a l : Addr) (xs : List V), vs = [.ref a, .ref l] ∧ BagAt H a ∧ (H l = some (.lst xs) ∨ H l = some (.tup xs)) ∧ l ≠ a ∧ 1 ≤ xs.length ∧ xs.length ≤ 1000 ∧ ∀ v H', v ∈ xs → But a H H' → BagAt H' a → Q v H'
def spLawSpot : Sp := fun vs H Q _ => ∃ (a : Addr) (n : Int), vs = [.ref a, .int 2, .int n] ∧ BagAt H a ∧ 1 ≤ n ∧ n ≤ 10 ^ 30 ∧ ∀ t s H', Bs 110 s → But a H H' → BagAt H' a → H t = none → H' t = some (.tup (sv [s.1, s.2])) → Q (.ref t) H'
def spLawPlac (K : PySem.W.Frag) : Sp := fun vs H Q _ => ∃ (a p : Addr) (P : List Str) (n : Int), vs = [.ref a, .ref p, .int 2, .int n] ∧ BagAt H a ∧ PT H p P ∧ PinsOk P ∧ 1 ≤ P.length ∧ 1 ≤ n ∧ n ≤ 10 ^ 30 ∧ ∀ d f H', PlOk P f 110 → H d = none → But a H H' → BagAt H' a → Plc K H' d P (Pl f) → PlT K H' d → Q (.ref d) H'
def spTurned (K : PySem.W.Frag) : Sp := fun vs H Q _ => ∃ (p q r : Addr) (a b c : Int × Int), vs = [.ref p, .ref q, .ref r] ∧ S2 K H p a ∧ S2 K H q b ∧ S2 K H r c ∧ Bs 150 a ∧ Bs 150 b ∧ Bs 150 c ∧ ∀ H', Same H H' → Q (.int (area a b c)) H'
def spLawSquare (K : PySem.W.Frag) : Sp := fun vs H Q _ => ∃ (d : Addr) (x y : Str) (ks : List Str) (f : Str → Int × Int), vs = [.ref d, .str x, .str y] ∧ Plc K H d ks (Pl f) ∧ PlOk ks f 150 ∧ x ∈ ks ∧ y ∈ ks ∧ ∀ H', Same H H' → Q (.int (sq2 (f x) (f y))) H'
def spLawMir (K : PySem.W.Frag) : Sp := fun vs H Q _ => ∃ (p q r : Addr) (a b c : Int × Int), vs = [.ref p, .ref q, .ref r] ∧ S2 K H p a ∧ S2 K H q b ∧ S2 K H r c ∧ Bs 150 a ∧ Bs 150 b ∧ Bs 150 c ∧ ∀ t H', Same H H' → H t = none → H' t = some (.tup (sv [(mir a b c).1, (mir a b c).2])) → Q (.ref t) H'
theorem rd_eqZ {z h : Str} {H : Hp} {Q : VK} (q : Q (.bl (decide (z = h))) H) : rEq (.str z) (.str h) H Q := by
  refine ⟨rfl, ?_⟩
  have e : decide (V.str z = V.str h) = decide (z = h) := decide_eq_decide.mpr ⟨fun e => V.str.inj e, fun e => by rw [e]⟩
  rw [e]
  exact q
/-- a dict of spots that were made -/
def Md (H : Hp) (P : List Str) (fD : Str → V) (g : Str → Int × Int) : Prop := ∀ z ∈ P, ∃ p, fD z = .ref p ∧ H p = some (.tup (sv [(g z).1, (g z).2]))
theorem Md.but {H H' : Hp} {D : Addr} {P : List Str} {fD : Str → V} {g : Str → Int × Int} {kvs : List (Key × V)} (b : But D H H') (hD : H D = some (.dK kvs)) (h : Md H P fD g) : Md H' P fD g := fun z hz => by
  obtain ⟨p, e1, e2⟩ := h z hz
  exact ⟨p, e1, b _ _ (fun e => by rw [e, hD] at e2; cases e2) e2⟩
theorem Md.same {H H' : Hp} {P : List Str} {fD : Str → V} {g : Str → Int × Int} (s : Same H H') (h : Md H P fD g) : Md H' P fD g := fun z hz => by
  obtain ⟨p, e1, e2⟩ := h z hz
  exact ⟨p, e1, s _ _ e2⟩
theorem plc_made {K : PySem.W.Frag} {H : Hp} {d : Addr} {P : List Str} {fD : Str → V} {g : Str → Int × Int} (h : H d = some (dKf P fD)) (F : Md H P fD g) : Plc K H d P (Pl g) ∧ PlT K H d := by
  let A : Str → Addr := fun z => match fD z with | .ref p => p | _ => 0
  have eA : ∀ z ∈ P, fD z = .ref (A z) := fun z hz => by
    obtain ⟨p, e, _⟩ := F z hz
    show fD z = .ref (match fD z with | .ref p => p | _ => 0)
    rw [e]
  have eH : H d = some (dKf P fun z => .ref (A z)) := by
    rw [h]
    unfold dKf
    congr 2
    exact List.map_congr_left fun z hz => by rw [eA z hz]
  refine ⟨⟨A, eH, fun z hz => ?_⟩, fun kvs e q hq => ?_⟩
  · obtain ⟨p, e, e2⟩ := F z hz
    have : A z = p := V.ref.inj ((eA z hz).symm.trans e)
    rw [this]
    exact SqT.of e2
  · rw [eH] at e
    cases e
    obtain ⟨z, hz, rfl⟩ := List.mem_map.mp hq
    obtain ⟨p, e, e2⟩ := F z hz
    have : A z = p := V.ref.inj ((eA z hz).symm.trans e)
    exact ⟨A z, rfl, .inl ⟨_, by rw [this]; exact e2⟩⟩
theorem but_old {D : Addr} {H H1 H2 : Hp} (s : Same H H1) (n : H D = none) (b : But D H1 H2) : Same H H2 := fun c o e => b c o (ne_of_none e n) (s c o e)
/-- the second placing while the lot is walked -/
def part (f : Str → Int × Int) (x y : Str) (S : List Str) (i : Nat) : Str → Int × Int := mirF f x y (S.take i)
theorem part_zero (f : Str → Int × Int) (x y : Str) (S : List Str) : part f x y S 0 = firF f x y := funext fun z => by
  unfold part mirF firF
  rw [List.take_zero, if_neg (fun h => nomatch h)]
theorem part_all (f : Str → Int × Int) (x y : Str) (S : List Str) : part f x y S S.length = mirF f x y S := by
  unfold part
  rw [List.take_length]
theorem part_at {f : Str → Int × Int} {x y : Str} {S : List Str} {i : Nat} (h : i < S.length) : part f x y S (i + 1) S[i] = mir (f x) (f y) (f S[i]) := by
  unfold part mirF
  rw [if_pos (by rw [take_more h]; exact List.mem_append.mpr (.inr (List.mem_singleton.mpr rfl)))]
theorem part_oth {f : Str → Int × Int} {x y z : Str} {S : List Str} {i : Nat} (h : i < S.length) (n : z ≠ S[i]) : part f x y S (i + 1) z = part f x y S i z := by
  unfold part mirF
  have e : z ∈ S.take (i + 1) ↔ z ∈ S.take i := by
    rw [take_more h, List.mem_append, List.mem_singleton]
    exact ⟨fun q => q.elim id fun q => absurd q n, .inl⟩
  by_cases q : z ∈ S.take i
  · rw [if_pos q, if_pos (e.mpr q)]
  · rw [if_neg q, if_neg (fun w => q (e.mp w))]
theorem md_put {H : Hp} {D t : Addr} {P S : List Str} {f : Str → Int × Int} {x y : Str} {fD : Str → V} {i : Nat} (hD : H D = some (dKf P fD)) (h : Md H P fD (part f x y S i)) (hi : i < S.length) (ht : H t = some (.tup (sv [(mir (f x) (f y) (f S[i])).1, (mir (f x) (f y) (f S[i])).2]))) :
    Md (upd H D (dKf P fun z => if z = S[i] then .ref t else fD z)) P (fun z => if z = S[i] then .ref t else fD z) (part f x y S (i + 1)) := fun z hz => by
  by_cases e : z = S[i]
  · refine ⟨t, if_pos e, ?_⟩
    rw [upd_ne (fun q => by rw [q, hD] at ht; cases ht), e, part_at hi]
    exact ht
  · obtain ⟨p, e1, e2⟩ := h z hz
    refine ⟨p, (if_neg e).trans e1, ?_⟩
    rw [upd_ne (fun q => by rw [q, hD] at e2; cases e2), part_oth hi e]
    exact e2
theorem rd_par3 {i j l : Nat} {ta : TA} {D : Ends} {σ : L2.St} {H : Hp} (q : ta σ H fun vs H1 => ∃ u v w, vs = [u, v, w] ∧ D.nx (((σ.set i (some u)).set j (some v)).set l (some w)) H1) : tPar3 i j l ta D σ H := q
theorem rd_mid {s1 : L2.TS} {D : L2.Ends} {σ : L2.St} {H : Hp} (I : L2.St → Hp → Prop) (h2 : ∀ σ' H', I σ' H' → D.nx σ' H') (h1 : ∀ N : L2.St → Hp → Prop, (∀ σ' H', I σ' H' → N σ' H') → s1 { D with nx := N } σ H) : s1 D σ H := h1 D.nx h2
theorem rd_neZ {z h : Str} {H : Hp} {Q : VK} (q : Q (.bl (!decide (z = h))) H) : rNe (.str z) (.str h) H Q := by
  refine ⟨rfl, ?_⟩
  have e : decide (V.str z = V.str h) = decide (z = h) := decide_eq_decide.mpr ⟨fun e => V.str.inj e, fun e => by rw [e]⟩
  rw [e]
  exact q
theorem bag_dict {H : Hp} {a d : Addr} {kvs : List (Key × V)} (b : BagAt H a) (h : H d = some (.dK kvs)) : d ≠ a := fun e => by
  obtain ⟨g, m, c, e1, _⟩ := b
  rw [e, e1] at h
  cases h
theorem bag_sqt {K : PySem.W.Frag} {H H' : Hp} {a p : Addr} {xs : List V} (b : BagAt H a) (u : But a H H') (h : SqT K H p xs) : SqT K H' p xs := by
  obtain ⟨g, m, c, e1, _⟩ := b
  rcases h with (h | ⟨o, h⟩) | h
  · exact .inl (.inl (u _ _ (fun e => by rw [e, e1] at h; cases h) h))
  · exact .inl (.inr ⟨o, u _ _ (fun e => by rw [e, e1] at h; cases h) h⟩)
  · exact .inr h
theorem bag_plc {K : PySem.W.Frag} {H H' : Hp} {a d : Addr} {ks : List Str} {f : Str → List Int} (b : BagAt H a) (u : But a H H') (h : Plc K H d ks f) : Plc K H' d ks f := by
  obtain ⟨A, h1, h2⟩ := h
  exact ⟨A, u _ _ (bag_dict b h1) h1, fun z hz => bag_sqt b u (h2 z hz)⟩
theorem bag_tyt {K : PySem.W.Frag} {H H' : Hp} {a r : Addr} (b : BagAt H a) (u : But a H H') (h : TyT K H r) : TyT K H' r := h.elim (fun ⟨xs, h⟩ => .inl ⟨xs, u _ _ (bag_tup b h) h⟩) .inr
theorem bag_plt {K : PySem.W.Frag} {H H' : Hp} {a d : Addr} {ks : List Str} {f : Str → List Int} (b : BagAt H a) (u : But a H H') (h : Plc K H d ks f) (t : PlT K H d) : PlT K H' d := fun ls e' p hp => by
  obtain ⟨A, h1, _⟩ := h
  rw [u _ _ (bag_dict b h1) h1] at e'
  cases e'
  obtain ⟨r, e1, e2⟩ := t _ h1 p hp
  exact ⟨r, e1, bag_tyt b u e2⟩
theorem plc_put {K : PySem.W.Frag} {H : Hp} {d q : Addr} {P : List Str} {f : Str → Int × Int} {s : Int × Int} {y : Str} (h : Plc K H d P (Pl f)) (t : PlT K H d) (few : P.length ≤ 1000) (m : y ∈ P) (hq : H q = some (.tup (sv [s.1, s.2]))) :
    ∃ o, DPut H d (.str y) (.ref q) (upd H d o) ∧ Plc K (upd H d o) d P (Pl fun z => if z = y then s else f z) ∧ PlT K (upd H d o) d := by
  obtain ⟨A, h1, h2⟩ := h
  let A' : Str → Addr := fun z => if z = y then q else A z
  have eo : (dKf P fun z => if z = y then V.ref q else V.ref (A z)) = dKf P fun z => .ref (A' z) := by
    unfold dKf
    congr 1
    refine List.map_congr_left fun z _ => ?_
    show ((Sum.inr z : Key), if z = y then V.ref q else V.ref (A z)) = (Sum.inr z, V.ref (if z = y then q else A z))
    by_cases e : z = y
    · rw [if_pos e, if_pos e]
    · rw [if_neg e, if_neg e]
  have nq : q ≠ d := fun e => by rw [e, h1] at hq; cases hq
  refine ⟨_, put_f h1 few m (.ref q), ?_, ?_⟩
  · refine ⟨A', by rw [upd_same, eo], fun z hz => ?_⟩
    show SqT K _ (if z = y then q else A z) (sv (Pl (fun z => if z = y then s else f z) z))
    unfold Pl
    by_cases e : z = y
    · simp only [if_pos e]
      exact SqT.of (by rw [upd_ne nq]; exact hq)
    · simp only [if_neg e]
      exact SqT.but' But.upd h1 (h2 z hz)
  · intro ls e' p hp
    rw [upd_same, eo] at e'
    cases e'
    obtain ⟨z, hz, rfl⟩ := List.mem_map.mp hp
    refine ⟨A' z, rfl, ?_⟩
    show TyT K _ (if z = y then q else A z)
    by_cases e : z = y
    · rw [if_pos e]
      exact .inl ⟨_, by rw [upd_ne nq]; exact hq⟩
    · rw [if_neg e]
      obtain ⟨r, e1, e2⟩ := t _ h1 _ (List.mem_map_of_mem (f := fun z => ((Sum.inr z : Key), V.ref (A z))) hz)
      cases e1
      exact e2.elim (fun ⟨xs, h⟩ => .inl ⟨xs, by rw [upd_ne (fun e => by rw [e, h1] at h; cases h)]; exact h⟩) .inr
theorem other_pos {P : List Str} {x : Str} (nd : P.Nodup) (two : 2 ≤ P.length) : 1 ≤ (P.filter fun z => !decide (z = x)).length := by
  match P, two with
  | u :: v :: r, _ =>
    have nuv : u ≠ v := fun e => (List.nodup_cons.mp nd).1 (e ▸ List.mem_cons_self)
    by_cases e : u = x
    · have : v ∈ (u :: v :: r).filter fun z => !decide (z = x) := List.mem_filter.mpr ⟨List.mem_cons_of_mem _ List.mem_cons_self, by rw [decide_eq_false (fun q => nuv (e.trans q.symm))]; rfl⟩
      exact List.length_pos_of_mem this
    · have : u ∈ (u :: v :: r).filter fun z => !decide (z = x) := List.mem_filter.mpr ⟨List.mem_cons_self, by rw [decide_eq_false e]; rfl⟩
      exact List.length_pos_of_mem this
theorem perm_back {α β : Type} {f : α → β} : ∀ {ys zs : List β}, ys.Perm zs → ∀ {l : List α}, zs = l.map f → ∃ l' : List α, ys = l'.map f ∧ l'.Perm l := by
  intro ys zs h
  induction h with
  | nil => intro l e; exact ⟨[], rfl, by cases l with | nil => exact .nil | cons _ _ => cases e⟩
  | cons x _ ih =>
    intro l e
    cases l with
    | nil => cases e
    | cons u l =>
      have q := List.cons.inj e
      obtain ⟨l', e1, e2⟩ := ih q.2
      exact ⟨u :: l', by rw [List.map_cons, e1, q.1], e2.cons u⟩
  | swap x y zs =>
    intro l e
    match l, e with
    | u :: v :: l, e =>
      have q := List.cons.inj e
      have q2 := List.cons.inj q.2
      exact ⟨v :: u :: l, by rw [List.map_cons, List.map_cons, q.1, q2.1, q2.2], .swap _ _ _⟩
  | trans _ _ ih1 ih2 =>
    intro l e
    obtain ⟨l2, e2, p2⟩ := ih2 e
    obtain ⟨l1, e1, p1⟩ := ih1 e2
    exact ⟨l1, e1, p1.trans p2⟩
theorem perm_paired {α β : Type} {R : α → β → Prop} {ts : List α} {l : List β} {ts' : List α} (pm : ts'.Perm ts) : Paired R ts l → ∃ l' : List β, l'.Perm l ∧ Paired R ts' l' := by
  induction pm generalizing l with
  | nil => intro h; exact ⟨l, .refl _, h⟩
  | cons x _ ih =>
    intro h
    cases h with
    | cons r t =>
      obtain ⟨l', p, q⟩ := ih t
      exact ⟨_ :: l', p.cons _, .cons r q⟩
  | swap x y ts =>
    intro h
    cases h with
    | cons r t =>
      cases t with
      | cons r2 t2 => exact ⟨_, .swap _ _ _, .cons r2 (.cons r t2)⟩
  | trans _ _ ih1 ih2 =>
    intro h
    obtain ⟨l2, p2, q2⟩ := ih2 h
    obtain ⟨l1, p1, q1⟩ := ih1 q2
    exact ⟨l1, p1.trans p2, q1⟩
theorem PlOk.mono {ks : List Str} {f : Str → Int × Int} {n m : Nat} (h : PlOk ks f n) (l : n ≤ m) : PlOk ks f m := ⟨h.nd, h.nm, h.one, h.few, fun z hz => (h.bd z hz).mono l⟩
theorem Int.three_bd : Bd 2 3 := by unfold Bd; decide
theorem Int.one_bd : Bd 1 1 := by unfold Bd; decide
theorem rd_listItems {te : TE} {σ : L2.St} {H : Hp} {Q : VK} (q : te σ H fun x H1 => LiI.rItemsL x H1 Q) : LiI.tListItems te σ H Q := q
/-! what is asked of the mirror -/
theorem sq2_comm (a b : Int × Int) : sq2 a b = sq2 b a := by
  obtain ⟨a1, a2⟩ := a
  obtain ⟨b1, b2⟩ := b
  simp only [sq2]
  grind
section
variable {f : Str → Int × Int} {x y : Str} {S : List Str}
def AsM (f : Str → Int × Int) (x y : Str) (S : List Str) (z : Str) : Prop := mirF f x y S z = mir (f x) (f y) (f z)
def AsT (f : Str → Int × Int) (x y : Str) (S : List Str) (z : Str) : Prop := mirF f x y S z = tim (sq2 (f x) (f y)) (f z)
theorem asM_in {z : Str} (h : z ∈ S) : AsM f x y S z := if_pos h
theorem asT_out {z : Str} (h : z ∉ S) : AsT f x y S z := if_neg h
theorem both_x (h : x ∉ S) : AsM f x y S x ∧ AsT f x y S x := ⟨(asT_out h).trans (mir_left _ _).symm, asT_out h⟩
theorem both_y (h : y ∉ S) : AsM f x y S y ∧ AsT f x y S y := ⟨(asT_out h).trans (mir_right _ _).symm, asT_out h⟩
theorem both_line {z : Str} (h : area (f x) (f y) (f z) = 0) : AsM f x y S z ∧ AsT f x y S z := by
  by_cases m : z ∈ S
  · exact ⟨asM_in m, (asM_in m).trans (mir_line _ _ _ h)⟩
  · exact ⟨(asT_out m).trans (mir_line _ _ _ h).symm, asT_out m⟩
theorem sq_MM {u v : Str} (hu : AsM f x y S u) (hv : AsM f x y S v) : sq2 (firF f x y u) (firF f x y v) = sq2 (mirF f x y S u) (mirF f x y S v) := by
  rw [hu, hv, mir_mir]
  rfl
theorem sq_TT {u v : Str} (hu : AsT f x y S u) (hv : AsT f x y S v) : sq2 (firF f x y u) (firF f x y v) = sq2 (mirF f x y S u) (mirF f x y S v) := by
  rw [hu, hv]
  rfl
theorem as_or (z : Str) : AsM f x y S z ∨ AsT f x y S z := by
  by_cases m : z ∈ S
  · exact .inl (asM_in m)
  · exact .inr (asT_out m)
theorem sq_rod {u v : Str} (hx : x ∉ S) (hy : y ∉ S) (h : (decide (u ∈ S) = decide (v ∈ S)) ∨ x ∈ [u, v] ∨ y ∈ [u, v]) : sq2 (firF f x y u) (firF f x y v) = sq2 (mirF f x y S u) (mirF f x y S v) := by
  have one : ∀ {u v : Str}, AsM f x y S u ∧ AsT f x y S u → sq2 (firF f x y u) (firF f x y v) = sq2 (mirF f x y S u) (mirF f x y S v) := fun {u v} h => (as_or v).elim (sq_MM h.1) (sq_TT h.2)
  have two : ∀ {u v : Str}, AsM f x y S v ∧ AsT f x y S v → sq2 (firF f x y u) (firF f x y v) = sq2 (mirF f x y S u) (mirF f x y S v) := fun {u v} h => (as_or u).elim (fun q => sq_MM q h.1) (fun q => sq_TT q h.2)
  rcases h with h | h | h
  · by_cases m : u ∈ S
    · rw [decide_eq_true m] at h
      exact sq_MM (asM_in m) (asM_in (of_decide_eq_true h.symm))
    · rw [decide_eq_false m] at h
      exact sq_TT (asT_out m) (asT_out (of_decide_eq_false h.symm))
  · rcases List.mem_cons.mp h with e | h
    · exact one (e ▸ both_x hx)
    · exact two (List.mem_singleton.mp h ▸ both_x hx)
  · rcases List.mem_cons.mp h with e | h
    · exact one (e ▸ both_y hy)
    · exact two (List.mem_singleton.mp h ▸ both_y hy)
theorem all_plain {P Rs : List Str} (okP : PinsOk P) (hx : x ∉ S) (hy : y ∉ S) (nf : f x ≠ f y) (eR : P.filter (fun z => !decide (z ∈ [x, y])) = Rs) (sub : ∀ z ∈ S, z ∈ Rs) :
    ((pairsA P).all fun k => decide (sqP (firF f x y) k = sqP (mirF f x y S) k)) =
      (decide (((Rs.filter fun z => !decide (area (f x) (f y) (f z) = 0)).filter fun z => decide (z ∈ S)) = []) || decide (((Rs.filter fun z => !decide (area (f x) (f y) (f z) = 0)).filter fun z => !decide (z ∈ S)) = [])) := by
  have inR : ∀ z, z ∈ Rs ↔ z ∈ P ∧ z ≠ x ∧ z ≠ y := fun z => by
    rw [← eR, List.mem_filter, Bool.not_eq_true', decide_eq_false_iff_not, List.mem_cons, List.mem_singleton, not_or]
  rw [Bool.eq_iff_iff, Bool.or_eq_true, decide_eq_true_iff, decide_eq_true_iff, List.all_eq_true]
  constructor
  · intro h
    refine Classical.byContradiction fun n => ?_
    rw [not_or] at n
    obtain ⟨z1, m1⟩ := List.exists_mem_of_ne_nil _ n.1
    obtain ⟨z2, m2⟩ := List.exists_mem_of_ne_nil _ n.2
    rw [List.mem_filter, List.mem_filter, Bool.not_eq_true', decide_eq_false_iff_not, decide_eq_true_iff] at m1
    rw [List.mem_filter, List.mem_filter, Bool.not_eq_true', decide_eq_false_iff_not, Bool.not_eq_true', decide_eq_false_iff_not] at m2
    obtain ⟨⟨r1, a1⟩, s1⟩ := m1
    obtain ⟨⟨r2, a2⟩, s2⟩ := m2
    have ne : z1 ≠ z2 := fun e => s2 (e ▸ s1)
    have far : sq2 (mirF f x y S z1) (mirF f x y S z2) ≠ sq2 (firF f x y z1) (firF f x y z2) := fun e => by
      have e1 : mirF f x y S z1 = mir (f x) (f y) (f z1) := asM_in s1
      have e2 : mirF f x y S z2 = tim (sq2 (f x) (f y)) (f z2) := asT_out s2
      rw [e1, e2] at e
      have m := mir_far (f x) (f y) (f z1) (f z2)
      rw [e] at m
      have z : 4 * sq2 (f x) (f y) * area (f x) (f y) (f z1) * area (f x) (f y) (f z2) = 0 := by
        rw [← m]
        exact Int.sub_self _
      rcases Int.mul_eq_zero.mp z with z | z
      · rcases Int.mul_eq_zero.mp z with z | z
        · rcases Int.mul_eq_zero.mp z with z | z
          · exact absurd z (by decide)
          · exact nf (sq2_zero z)
        · exact a1 z
      · exact a2 z
    have p1 := ((inR z1).mp r1).1
    have p2 := ((inR z2).mp r2).1
    rcases str_tri z1 z2 with lt | e | lt
    · exact far (of_decide_eq_true (h _ (pairsA_mem.mpr ⟨z1, z2, rfl, p1, p2, lt⟩))).symm
    · exact ne e
    · have := of_decide_eq_true (h _ (pairsA_mem.mpr ⟨z2, z1, rfl, p2, p1, lt⟩))
      have this : sq2 (firF f x y z2) (firF f x y z1) = sq2 (mirF f x y S z2) (mirF f x y S z1) := this
      rw [sq2_comm, sq2_comm (mirF f x y S z2)] at this
      exact far this.symm
  · intro h k hk
    obtain ⟨u, v, rfl, hu, hv, _⟩ := pairsA_mem.mp hk
    refine decide_eq_true ?_
    show sq2 (firF f x y u) (firF f x y v) = sq2 (mirF f x y S u) (mirF f x y S v)
    have kinds : ∀ z ∈ P, z = x ∨ z = y ∨ z ∈ Rs := fun z hz => by
      by_cases e1 : z = x
      · exact .inl e1
      · by_cases e2 : z = y
        · exact .inr (.inl e2)
        · exact .inr (.inr ((inR z).mpr ⟨hz, e1, e2⟩))
    rcases h with h | h
    · have all : ∀ z ∈ P, AsT f x y S z := fun z hz => by
        by_cases m : z ∈ S
        · refine (both_line ?_).2
          refine Classical.byContradiction fun n => ?_
          have : z ∈ ((Rs.filter fun z => !decide (area (f x) (f y) (f z) = 0)).filter fun z => decide (z ∈ S)) := List.mem_filter.mpr ⟨List.mem_filter.mpr ⟨sub z m, by rw [decide_eq_false n]; rfl⟩, decide_eq_true m⟩
          rw [h] at this
          exact nomatch this
        · exact asT_out m
      exact sq_TT (all u hu) (all v hv)
    · have all : ∀ z ∈ P, AsM f x y S z := fun z hz => by
        rcases kinds z hz with e | e | r
        · rw [e]; exact (both_x hx).1
        · rw [e]; exact (both_y hy).1
        · by_cases m : z ∈ S
          · exact asM_in m
          · refine (both_line ?_).1
            refine Classical.byContradiction fun n => ?_
            have : z ∈ ((Rs.filter fun z => !decide (area (f x) (f y) (f z) = 0)).filter fun z => !decide (z ∈ S)) := List.mem_filter.mpr ⟨List.mem_filter.mpr ⟨r, by rw [decide_eq_false n]; rfl⟩, by rw [decide_eq_false m]; rfl⟩
            rw [h] at this
            exact nomatch this
      exact sq_MM (all u hu) (all v hv)
end
theorem rel_sub {α β : Type} {P : α → β → Prop} : ∀ {rs' rs : List α} {z : List β}, rs'.Sublist rs → Rel P rs z → ∃ z' : List β, z'.Sublist z ∧ Rel P rs' z'
  | _, _, [], .slnil, _ => ⟨[], .slnil, Rel.nil⟩
  | _, _, _ :: _, .slnil, R => nomatch R.1
  | _, _, [], .cons _ _, R => nomatch R.1
  | _, _, w :: z, .cons _ h, R => by
    obtain ⟨z', s, r⟩ := rel_sub h R.tail.2
    exact ⟨z', s.cons w, r⟩
  | _, _, [], .cons_cons _ _, R => nomatch R.1
  | _, _, w :: z, .cons_cons _ h, R => by
    obtain ⟨z', s, r⟩ := rel_sub h R.tail.2
    exact ⟨w :: z', s.cons_cons w, .cons R.tail.1 r⟩
/-- pairs that may be rods: of one side, or with a pin of the line -/
def condZ (S : List Str) (x y : Str) (k : List Str) : Bool := match k with | [u, v] => decide (decide (u ∈ S) = decide (v ∈ S)) || (decide (x ∈ [u, v]) || decide (y ∈ [u, v])) | _ => false
theorem condZ_or {S : List Str} {x y u v : Str} (h : condZ S x y [u, v] = true) : (decide (u ∈ S) = decide (v ∈ S)) ∨ x ∈ [u, v] ∨ y ∈ [u, v] := by
  have h : (decide (decide (u ∈ S) = decide (v ∈ S)) || (decide (x ∈ [u, v]) || decide (y ∈ [u, v]))) = true := h
  rw [Bool.or_eq_true, Bool.or_eq_true] at h
  exact h.imp of_decide_eq_true fun h => h.imp of_decide_eq_true of_decide_eq_true
theorem bl_eq (p q : Bool) : decide (V.bl p = V.bl q) = decide (p = q) := decide_eq_decide.mpr ⟨fun e => V.bl.inj e, fun e => by rw [e]⟩
theorem mir_bd {a b c : Int × Int} (ha : Bs 120 a) (hb : Bs 120 b) (hc : Bs 120 c) : Bs 400 (mir a b c) := by
  have bx := hb.1.sub ha.1
  have b2 := hb.2.sub ha.2
  have bu := hc.1.sub ha.1
  have bv := hc.2.sub ha.2
  have bs := (bx.mul bx).add (b2.mul b2)
  have bf := (bx.mul bx).sub (b2.mul b2)
  have bk := (Int.two_bd.mul bx).mul b2
  exact ⟨(((bs.mul ha.1).add (bf.mul bu)).add (bk.mul bv)).mono (by decide), (((bs.mul ha.2).add (bk.mul bu)).sub (bf.mul bv)).mono (by decide)⟩
theorem sq2_bd {a b : Int × Int} (ha : Bs 120 a) (hb : Bs 120 b) : Bd 243 (sq2 a b) := (dot_bd (ha.sub hb) (ha.sub hb)).mono (by decide)
theorem fir_ok {P : List Str} {f : Str → Int × Int} {x y : Str} (ok : PlOk P f 120) (hx : x ∈ P) (hy : y ∈ P) : PlOk P (firF f x y) 400 :=
  ⟨ok.nd, ok.nm, ok.one, ok.few, fun z hz => (tim_bd (sq2_bd (ok.bd x hx) (ok.bd y hy)) (ok.bd z hz)).mono (by decide)⟩
theorem mir_ok {P S : List Str} {f : Str → Int × Int} {x y : Str} (ok : PlOk P f 120) (hx : x ∈ P) (hy : y ∈ P) : PlOk P (mirF f x y S) 400 :=
  ⟨ok.nd, ok.nm, ok.one, ok.few, fun z hz => by
    unfold mirF
    by_cases m : z ∈ S
    · rw [if_pos m]; exact mir_bd (ok.bd x hx) (ok.bd y hy) (ok.bd z hz)
    · rw [if_neg m]; exact (tim_bd (sq2_bd (ok.bd x hx) (ok.bd y hy)) (ok.bd z hz)).mono (by decide)⟩
theorem eqv_nilS (l : List Str) : PyData.eqv (.list (l.map PyData.str)) (.list []) = decide (l = []) := by
  cases l with
  | nil => rfl
  | cons z l => rfl
theorem rd_eqNil {K : PySem.W.Frag} {H : Hp} {Q : VK} {p q : Addr} {l : List Str} (hp : SqL K H p (l.map V.str)) (hq : SqL K H q []) (ok : ∀ d ∈ l.map PyData.str, d.canLay0 = true ∧ d.depth ≤ 1) (k : Q (.bl (decide (l = []))) H) : rEqD K (.ref p) (.ref q) H Q := by
  refine rd_eqD (.lst hp (dp_strs l)) (.lst hq .nil) (shaped_listN (n := 1) (by decide) ok) (by decide +kernel) ?_
  rw [eqv_nilS]
  exact k
/-! the square of the law -/
theorem sq_kept {K : PySem.W.Frag} {a p : Addr} {xs : List V} {H1 H2 H4 : Hp} (hp : H1 p = none) (hsame : Same H1 H2) (b : But p H2 H4) (hS : SqL K H1 a xs) : SqL K H4 a xs := by
  rcases hS with (h | ⟨o, h⟩) | h
  · exact Or.inl (Or.inl (b _ _ (fun z => by rw [z, hp] at h; cases h) (hsame _ _ h)))
  · exact Or.inl (Or.inr ⟨o, b _ _ (fun z => by rw [z, hp] at h; cases h) (hsame _ _ h)⟩)
  · exact Or.inr h
def sqK : List Str := ["a", "b", "c", "d"]
theorem sqK_pins : PinsOk sqK := ⟨lt_asc (by decide +kernel), by decide +kernel, by decide⟩
def sqF (z : Str) : Int × Int := if z = "a" then (0, 0) else if z = "b" then (2, 0) else if z = "c" then (2, 2) else (0, 2)
def sqD (t1 t2 t3 t4 : Addr) (z : Str) : V := if z = "a" then .ref t1 else if z = "b" then .ref t2 else if z = "c" then .ref t3 else .ref t4
theorem sqD_a (t1 t2 t3 t4 : Addr) : sqD t1 t2 t3 t4 "a" = .ref t1 := if_pos rfl
theorem sqD_b (t1 t2 t3 t4 : Addr) : sqD t1 t2 t3 t4 "b" = .ref t2 := by
  unfold sqD
  rw [if_neg (by decide +kernel), if_pos rfl]
theorem sqD_c (t1 t2 t3 t4 : Addr) : sqD t1 t2 t3 t4 "c" = .ref t3 := by
  unfold sqD
  rw [if_neg (by decide +kernel), if_neg (by decide +kernel), if_pos rfl]
theorem sqD_d (t1 t2 t3 t4 : Addr) : sqD t1 t2 t3 t4 "d" = .ref t4 := by
  unfold sqD
  rw [if_neg (by decide +kernel), if_neg (by decide +kernel), if_neg (by decide +kernel)]
theorem sqD_list (t1 t2 t3 t4 : Addr) : (sqK.map fun z => ((Sum.inr z : Key), sqD t1 t2 t3 t4 z)) = [(.inr "a", .ref t1), (.inr "b", .ref t2), (.inr "c", .ref t3), (.inr "d", .ref t4)] := by
  show [((Sum.inr "a" : Key), sqD t1 t2 t3 t4 "a"), (.inr "b", sqD t1 t2 t3 t4 "b"), (.inr "c", sqD t1 t2 t3 t4 "c"), (.inr "d", sqD t1 t2 t3 t4 "d")] = _
  rw [sqD_a, sqD_b, sqD_c, sqD_d]
theorem sqF_all : sqF "a" = (0, 0) ∧ sqF "b" = (2, 0) ∧ sqF "c" = (2, 2) ∧ sqF "d" = (0, 2) := by decide +kernel
theorem sq_md {H : Hp} {t1 t2 t3 t4 : Addr} (h1 : H t1 = some (.tup [.int 0, .int 0])) (h2 : H t2 = some (.tup [.int 2, .int 0])) (h3 : H t3 = some (.tup [.int 2, .int 2])) (h4 : H t4 = some (.tup [.int 0, .int 2])) : Md H sqK (sqD t1 t2 t3 t4) sqF := fun z hz => by
  obtain ⟨ea, eb, ec, ed⟩ := sqF_all
  rcases List.mem_cons.mp hz with e | hz
  · exact ⟨t1, by rw [e, sqD_a], by rw [e, ea]; exact h1⟩
  rcases List.mem_cons.mp hz with e | hz
  · exact ⟨t2, by rw [e, sqD_b], by rw [e, eb]; exact h2⟩
  rcases List.mem_cons.mp hz with e | hz
  · exact ⟨t3, by rw [e, sqD_c], by rw [e, ec]; exact h3⟩
  · exact ⟨t4, by rw [List.mem_singleton.mp hz, sqD_d], by rw [List.mem_singleton.mp hz, ed]; exact h4⟩
theorem sq_ok : PlOk sqK sqF 150 := ⟨sqK_pins.asc.nodup, sqK_pins.nm, by decide, by decide, fun z hz => by
  have small : ∀ z ∈ sqK, (sqF z).1.natAbs ≤ 2 ∧ (sqF z).2.natAbs ≤ 2 := by decide +kernel
  obtain ⟨h1, h2⟩ := small z hz
  exact ⟨Nat.lt_of_le_of_lt h1 (by decide), Nat.lt_of_le_of_lt h2 (by decide)⟩⟩
theorem rd_disp {trs : List (TE × TE)} {σ : L2.St} {H : Hp} {Q : VK} (q : ∀ p, H p = none → tPairs trs σ (upd H p (.dK [])) fun ps H2 => H2 p = some (.dK []) ∧ ∃ kvs : List (Key × V), ps = kvs.map (fun kv => (kV kv.1, kv.2)) ∧ kvs.length ≤ 15 ∧ Q (.ref p) (upd H2 p (.dK (mergeK [] kvs)))) : tDisp trs σ H Q := q
theorem rd_pcons {tk tv : TE} {r : List (TE × TE)} {σ : L2.St} {H : Hp} {Q : List (V × V) → Hp → Prop} (q : tk σ H fun x H1 => tv σ H1 fun y H2 => tPairs r σ H2 fun ps H3 => Q ((x, y) :: ps) H3) : tPairs ((tk, tv) :: r) σ H Q := q
theorem rd_pnil {σ : L2.St} {H : Hp} {Q : List (V × V) → Hp → Prop} (q : Q [] H) : tPairs [] σ H Q := q
theorem sq_first : firF sqF "c" "a" "d" = (0, 16) ∧ mirF sqF "c" "a" ["d"] "d" = (16, 0) ∧ mirF sqF "c" "a" ["d"] "b" = (16, 0) := by decide +kernel
theorem d_pins : PinsOk [("d" : Str)] := ⟨lt_asc (by decide +kernel), by decide +kernel, by decide⟩
theorem nil_pins : PinsOk [] := ⟨.nil, (fun z h => nomatch h), Nat.zero_le _⟩
theorem fir_sym (f : Str → Int × Int) (x y : Str) : firF f x y = firF f y x := funext fun z => by
  unfold firF
  rw [sq2_comm]
theorem mir_none (f : Str → Int × Int) (x y : Str) : mirF f x y [] = firF f x y := funext fun z => if_neg (fun h => nomatch h)

end K13
namespace K13
open PySem PySem.Spec PyProof.Rows L2 Lay
local macro_rules | `(tactic| walk_at "rd1") => `(tactic| (first
  | with_reducible refine rd_seq ?_
  | with_reducible refine rd_next ?_
  | with_reducible refine rd_asg ?_
  | with_reducible refine rd_name ?_
  | with_reducible refine rd_ret ?_
  | with_reducible refine rd_drop ?_
  | with_reducible refine rd_ifS ?_
  | with_reducible refine rd_c ?_
  | ((with_reducible refine rd_var (v := ?vv) ?hv ?_); (case hv => exact rfl))
  | with_reducible refine rd_op ?_
  | with_reducible refine rd_un ?_
  | with_reducible refine rd_CB ?_
  | with_reducible refine rd_Cl ?_
  | with_reducible refine rd_nil ?_
  | with_reducible refine rd_cons ?_
  | with_reducible refine rd_test ?_
  | with_reducible refine rd_B ?_
  | with_reducible refine rd_bl ?_
  | with_reducible refine rd_not ?_
  | with_reducible refine rd_and ?_
  | with_reducible refine rd_or ?_
  | with_reducible refine rd_andV ?_
  | with_reducible refine rd_orV ?_
  | with_reducible refine rd_notV ?_
  | with_reducible refine rd_ifE ?_
  | with_reducible refine rd_chain ?_
  | with_reducible refine rd_tup ?_
  | with_reducible refine rd_lst ?_
  | with_reducible refine rd_add ?_
  | with_reducible refine rd_sub ?_
  | with_reducible refine rd_lt ?_
  | with_reducible refine rd_le ?_
  | with_reducible refine rd_gt ?_
  | with_reducible refine rd_ge ?_
  | with_reducible refine rd_neg ?_
  | with_reducible refine rd_eqI ?_
  | with_reducible refine rd_neI ?_
  | with_reducible refine rd_int1 ?_
  | with_reducible refine rd_int1b ?_
  | with_reducible refine rd_abs ?_
  | with_reducible refine rd_max2 ?_
  | with_reducible refine rd_min2 ?_
  | with_reducible refine rd_ltZ ?_
  | with_reducible refine rd_leZ ?_
  | with_reducible refine rd_gtZ ?_
  | with_reducible refine rd_geZ ?_
  | with_reducible refine rd_gsub ?_
  | with_reducible refine rd_for ?_
  | with_reducible refine rd_rng1 ?_
  | with_reducible refine rd_iTup ?_
  | with_reducible refine rd_iList ?_
  | with_reducible refine rd_iStr ?_
  | with_reducible refine rd_lc ?_
  | with_reducible refine rd_bits ?_
  | with_reducible refine rd_yes ?_
  | with_reducible refine rd_sl ?_
  | with_reducible refine rd_noP ?_
  | with_reducible refine rd_part ?_
  | with_reducible refine rd_i ?_
  | with_reducible refine rd_s ?_
  | with_reducible refine rd_disp1 ?_
  | with_reducible refine rd_dnew ?_
  | with_reducible refine rd_M1 ?_
  | with_reducible refine rd_isS ?_
  | with_reducible refine rd_dcT ?_
  | with_reducible refine rd_iSeqL ?_
  | with_reducible refine rd_min3 ?_
  | with_reducible refine rd_r ?_
  | with_reducible refine iteT ?_
  | with_reducible refine iteF ?_
  | ((with_reducible refine rd_new ?hn ?_); (case hn => exact Nat.le_of_ble_eq_true rfl))
  | ((with_reducible refine rd_mod ?hm ?_); (case hm => decide))
  | ((with_reducible refine rd_fdivW ?hm ?_); (case hm => exact wide_div (by decide) (b := 20) (by decide) (by decide) (by decide)))
  | ((with_reducible refine rd_mul ?hm ?_); (case hm => first | exact mul_lit ⟨by decide, by decide⟩ | exact mul_rit ⟨by decide, by decide⟩ | exact mul_lit ⟨by omega, by omega⟩ | exact mul_rit ⟨by omega, by omega⟩))
  | ((with_reducible refine rd_pow ?hm ?_); (case hm => exact ⟨by decide, by decide, by decide⟩))))
local macro_rules | `(tactic| walk_at "rd") => `(tactic| (repeat (walk_at "rd1")))
local macro_rules | `(tactic| walk_at "hp") => `(tactic| (first | assumption | exact upd_same | (refine up_old (by assumption) ?_; walk_at "hp")))
local macro_rules | `(tactic| walk_at "badrow") => `(tactic| (first | exact dRow_two _ _ (Or.inl great_not) | exact dRows_row (dRow_two _ _ (Or.inr great_not)) | exact dRows_row (dRow_two _ _ (Or.inl great_neg)) | exact dRows_long _))
local macro_rules | `(tactic| walk_at "mem") => `(tactic| (first | assumption | exact List.mem_cons_self | (refine List.mem_cons_of_mem _ ?_; walk_at "mem")))
section
variable {P : Program} {w : World} {K : PySem.W.Frag} {mg : Str → Option Value} {base : Heap}
theorem okproduct_of (B : Bi mg) {CFrame e0 : Addr} (FKFrame : FrmKFrame K mg CFrame e0)  (D : DefAt K mg "product_of" sproduct_of ["row", "other"]) : CalA P w K mg base "product_of" 1 ["row", "other"] (spProduct K) := by
  refine cala_of D scproduct_of (fun vs H Q E h => ?_) (fun f cdv A outer s H vs Q E hr h => ?_)
  · obtain ⟨p, q, a, b, n, rfl, _⟩ := h; rfl
  · have hu := hr.units
    skip
    refine ⟨_, (pss_one (ps_ret (pe_callB (r := rSum K) (by exact (cr_sum rfl)) (by rfl) B.b_sum (by decide +kernel) (pa_cons (pe_lc (own := [("entry", 2), ("against", 3)]) (g := gTup K 2 (gCons (gName 2) (gCons (gName 3) gNil))) (tt := tYes) (by rfl) scproduct_of.nd (pi_zipM (by rfl) B.b_zip (pa_cons (pv 0) (pa_cons (pv 1) pa_nil))) (blkOk_by (own := [("entry", 2), ("against", 3)]) (N := ["row", "other", "entry", "against"]) (sc := defScope sproduct_of) (by decide +kernel)) (fun _ _ _ _ _ => (pg_tup (by rfl) (pgs_cons (pg_name (i := 2) scproduct_of.nd rfl (by first | exact Or.inl rfl | exact Or.inr rfl)) (pgs_cons (pg_name (i := 3) scproduct_of.nd rfl (by first | exact Or.inl rfl | exact Or.inr rfl)) pgs_nil)))) (fun _ _ _ _ _ => pts_nil) (fun _ _ _ _ _ => (pe_op op_mulW (pv 2) (pv 3)))) pa_nil)))), ?_⟩
    obtain ⟨p, q, a, b, n, rfl, hp, hq, ba, bb, hn, k⟩ := h
    refine rd_at [some (.ref p), some (.ref q), none, none] rfl ?_
    walk_at "rd"
    refine rd_zipM ?_
    walk_at "rd"
    refine ⟨false, false, p, q, _, _, rfl, ⟨hp, hq⟩, ?_⟩
    intro E1 hE1
    refine lc_zipM (n := 2) rfl rfl (by decide) hE1 hp hq (fun _ _ => rfl) (fun j => V.int ([a.1 * b.1, a.2 * b.2].getD j 0)) (fun j hj H' s' R hR => ?_) (fun H' s' hl => ?_)
    · rcases two_j hj with e | e
      · subst e
        rw [sv0, sv0]
        walk_at "rd"
        refine rd_mulW (ba.1.w bb.1 (by omega)) ?_
        exact hR
      · subst e
        rw [sv1, sv1]
        walk_at "rd"
        refine rd_mulW (ba.2.w bb.2 (by omega)) ?_
        exact hR
    · walk_at "rd"
      refine rd_sum (ns := [a.1 * b.1, a.2 * b.2]) (SqL.of hl) ?_
      have e : [a.1 * b.1, a.2 * b.2].sum = dotS a b := by
        show a.1 * b.1 + (a.2 * b.2 + 0) = _
        rw [Int.add_zero]
        rfl
      rw [e]
      exact k _ s'
end
section
variable {P : Program} {w : World} {K : PySem.W.Frag} {mg : Str → Option Value} {base : Heap}
theorem ok_least_longer (B : Bi mg) {CFrame e0 : Addr} (FKFrame : FrmKFrame K mg CFrame e0)  (D : DefAt K mg "_least_longer" s_least_longer ["digits"]) : CalA P w K mg base "_least_longer" 1 ["digits"] (spNo) := by
  refine cala_of D sc_least_longer (fun vs H Q E h => ?_) (fun f cdv A outer s H vs Q E hr h => ?_)
  · exact h.elim
  · have hu := hr.units
    skip
    refine ⟨_, (pss_cons (ps_set (i := 1) sc_least_longer.nd rfl (by first | exact Or.inl rfl | exact Or.inr rfl) pe_int)
        (pss_cons (ps_for PassesOwn.never (by rfl) (pi_range1 (by rfl) B.b_range (pa_cons (pe_op op_fdivW (pv 0) pe_int) pa_nil)) (pg_name (i := 2) sc_least_longer.nd rfl (by first | exact Or.inl rfl | exact Or.inr rfl)) (pss_one (ps_set (i := 1) sc_least_longer.nd rfl (by first | exact Or.inl rfl | exact Or.inr rfl) (pe_op op_mul (pv 1) (pe_op op_pow pe_int pe_int)))))
        (pss_cons (ps_for PassesOwn.never (by rfl) (pi_range1 (by rfl) B.b_range (pa_cons (pe_op op_sub (pv 0) (pe_op op_mul (pe_op op_fdivW (pv 0) pe_int) pe_int)) pa_nil)) (pg_name (i := 2) sc_least_longer.nd rfl (by first | exact Or.inl rfl | exact Or.inr rfl)) (pss_one (ps_set (i := 1) sc_least_longer.nd rfl (by first | exact Or.inl rfl | exact Or.inr rfl) (pe_op op_mul (pv 1) pe_int))))
        (pss_one (ps_ret (pv 1)))))), ?_⟩
    exact h.elim
end
section
variable {P : Program} {w : World} {K : PySem.W.Frag} {mg : Str → Option Value} {base : Heap}
theorem okis_name (B : Bi mg) {CFrame e0 : Addr} (FKFrame : FrmKFrame K mg CFrame e0)  (D : DefAt K mg "is_name" sis_name ["value"]) : CalA P w K mg base "is_name" 1 ["value"] (spName) := by
  refine cala_of D scis_name (fun vs H Q E h => ?_) (fun f cdv A outer s H vs Q E hr h => ?_)
  · obtain ⟨z, rfl, _⟩ := h; rfl
  · have hu := hr.units
    obtain ⟨t_MAX_LETTERS, k_MAX_LETTERS⟩ := B.c_MAX_LETTERS
    skip
    refine ⟨_, (pss_cons (ps_if (PW.pt (pw_or (pt_not (pt_val (pe_callB (r := rIsi K) (by exact call_isi) (by rfl) B.b_isinstance (by decide +kernel) (pa_cons (pv 0) (pa_cons (pe_bltn (v := .ty "str") (u := .type "str") (by rfl) B.b_str (by decide +kernel) rfl) pa_nil))))) (pw_or1 (pt_not (pt_chain op_le op_le pe_int (pe_callB q_lenZ (by rfl) B.b_len (by decide +kernel) (pa_cons (pv 0) pa_nil)) (pe_glob (v := .int 4) (by rfl) k_MAX_LETTERS ⟨_, rfl⟩)))))) (pss_one (ps_ret pe_bl)) pss_nil)
        (pss_one (ps_ret (pe_callB (r := rAll K) (by exact (cr_all rfl)) (by rfl) B.b_all (by decide +kernel) (pa_cons (pe_lc (own := [("letter", 1)]) (g := gName 1) (tt := tYes) (by rfl) scis_name.nd (pi_str (pv 0)) (blkOk_by (own := [("letter", 1)]) (N := ["value", "letter"]) (sc := defScope sis_name) (by decide +kernel)) (fun _ _ _ _ _ => (pg_name (i := 1) scis_name.nd rfl (by first | exact Or.inl rfl | exact Or.inr rfl))) (fun _ _ _ _ _ => pts_nil) (fun _ _ _ _ _ => (pe_chain q_leZ q_leZ pe_str (pv 1) pe_str))) pa_nil))))), ?_⟩
    obtain ⟨z, rfl, hz, k⟩ := h
    refine rd_at [some (.str z), none] rfl ?_
    have l1 := hz.1
    have l4 := hz.2.1
    walk_at "rd"
    refine rd_isStr ?_
    walk_at "rd"
    refine rd_ifb (fun z => nomatch z) (fun _ => ?_)
    walk_at "rd"
    refine rd_lenS (Nat.le_trans l4 (by decide)) ?_
    walk_at "rd"
    refine rd_ite (fun h2 => ?_) (fun h2 => absurd (by omega) h2)
    walk_at "rd"
    refine rd_iteN (fun h3 => absurd (by omega) h3) (fun h3 => ?_)
    walk_at "rd"
    intro E hE
    refine lc_same (wk_str z) (b := fun _ => true) (f := fun j => .bl (okc (z.cps.toList.getD j 0))) (by have : z.length = z.cps.size := rfl; omega) hE (fun _ _ => trivial) (fun j _ H' _ R kk => rd_yes (kk H' (Same.refl _))) ?_ ?_
    · intro j hj _ H' hs R kk
      have hj2 : j < z.cps.toList.length := by rw [Array.length_toList]; exact hj
      have ok := hz.2.2 (z.cps.toList.getD j 0) (by rw [List.getD_eq_getElem?_getD, List.getElem?_eq_getElem hj2]; exact List.getElem_mem hj2)
      rw [ok] at kk
      walk_at "rd"
      refine rd_ifb (fun a1 => ?_) (fun a1 => absurd (okc_a ok) (by rw [a1]; exact fun z => nomatch z))
      walk_at "rd"
      rw [okc_z ok]
      exact kk _ (Same.refl _)
    · intro H' hs hl
      rw [filt_yes, show (fun j => V.bl (okc (z.cps.toList.getD j 0))) = V.bl ∘ (fun j => okc (z.cps.toList.getD j 0)) from rfl, ← List.map_map] at hl
      walk_at "rd"
      refine rd_all (SqL.of hl) ?_
      rw [name_yes hz]
      exact k _ hs
end
section
variable {P : Program} {w : World} {K : PySem.W.Frag} {mg : Str → Option Value} {base : Heap}
theorem okis_ascending (B : Bi mg) {CFrame e0 : Addr} (FKFrame : FrmKFrame K mg CFrame e0)  (D : DefAt K mg "is_ascending" sis_ascending ["values"]) : CalA P w K mg base "is_ascending" 1 ["values"] (spAsc K) := by
  refine cala_of D scis_ascending (fun vs H Q E h => ?_) (fun f cdv A outer s H vs Q E hr h => ?_)
  · obtain ⟨p, xs, ds, rfl, _⟩ := h; rfl
  · have hu := hr.units
    skip
    refine ⟨_, (pss_one (ps_ret (pe_callB (r := rAll K) (by exact (cr_all rfl)) (by rfl) B.b_all (by decide +kernel) (pa_cons (pe_lc (own := [("at", 1)]) (g := gName 1) (tt := tYes) (by rfl) scis_ascending.nd (pi_range1 (by rfl) B.b_range (pa_cons (pe_op op_sub (pe_callB (r := rLenQ K) (by exact q_lenQ) (by rfl) B.b_len (by decide +kernel) (pa_cons (pv 0) pa_nil)) pe_int) pa_nil)) (blkOk_by (own := [("at", 1)]) (N := ["values", "at"]) (sc := defScope sis_ascending) (by decide +kernel)) (fun _ _ _ _ _ => (pg_name (i := 1) scis_ascending.nd rfl (by first | exact Or.inl rfl | exact Or.inr rfl))) (fun _ _ _ _ _ => pts_nil) (fun _ _ _ _ _ => (pe_cmpR (r := rLtD K) (by exact (op_ltD hu)) (pe_ix (r := rIxT K) (by exact ix_tup) (pv 0) (pv 1) (fun _ _ => rfl)) (pe_ix (r := rIxT K) (by exact ix_tup) (pv 0) (pe_op op_add (pv 1) pe_int) (fun _ _ => rfl)) (nomark _)))) pa_nil)))), ?_⟩
    obtain ⟨p, xs, ds, rfl, hp, hd, l40, al, nn, pw, q⟩ := h
    refine rd_at [some (.ref p), none] rfl ?_
    have len := dpAll_len hd
    walk_at "rd"
    refine rd_lenT hp ?_
    walk_at "rd"
    refine ⟨_, rfl, by omega, by omega, ?_⟩
    rw [show ((xs.length : Int) - 1).toNat = xs.length - 1 by omega]
    intro E hE
    refine lc_same (wk_rng (xs.length - 1)) (b := fun _ => true) (f := fun j => .bl true) (by omega) hE (fun _ _ => trivial) (fun j _ H' _ R kk => rd_yes (kk H' (Same.refl _))) ?_ ?_
    · intro j hj _ H' hs R kk
      have gx : ∀ i, i < xs.length → xs[i]? = some (xs.getD i .non) := fun i hi => by rw [List.getD_eq_getElem?_getD, List.getElem?_eq_getElem hi]; rfl
      walk_at "rd"
      refine rd_ixT (SqT.same' hs hp) (at_z (v := xs.getD j .non) (by omega) (by rw [show (0 + (j : Int)).toNat = j by omega]; exact gx j (by omega))) ?_
      walk_at "rd"
      refine rd_ixT (SqT.same' hs hp) (at_z (v := xs.getD (j + 1) .non) (by omega) (by rw [show (0 + (j : Int) + 1).toNat = j + 1 by omega]; exact gx (j + 1) (by omega))) ?_
      obtain ⟨d1, m1⟩ := dpAll_get hd j (by omega)
      obtain ⟨d2, m2⟩ := dpAll_get hd (j + 1) (by omega)
      have lt : W.dataLt (ds.getD j .none) (ds.getD (j + 1) .none) = true := by
        have := List.pairwise_iff_getElem.mp pw j (j + 1) (by omega) (by omega) (by omega)
        rw [List.getD_eq_getElem?_getD, List.getD_eq_getElem?_getD, List.getElem?_eq_getElem (by omega), List.getElem?_eq_getElem (by omega)]
        exact this
      refine rd_ltD (dp_same hs _ _ d1) (dp_same hs _ _ d2) (al _ m1 _ m2) (nn _ m1).1 (nn _ m1).2 ?_
      rw [lt]
      exact kk _ (Same.refl _)
    · intro H' hs hl
      rw [filt_yes, show (fun j : Nat => V.bl true) = V.bl ∘ (fun _ => true) from rfl, ← List.map_map] at hl
      walk_at "rd"
      refine rd_all (SqL.of hl) ?_
      rw [yes_all]
      exact q _ hs
end
section
variable {P : Program} {w : World} {K : PySem.W.Frag} {mg : Str → Option Value} {base : Heap}
theorem okpairs_among (B : Bi mg) {CFrame e0 : Addr} (FKFrame : FrmKFrame K mg CFrame e0)  (D : DefAt K mg "pairs_among" spairs_among ["pins"]) : CalA P w K mg base "pairs_among" 1 ["pins"] (spAmong) := by
  refine cala_of D scpairs_among (fun vs H Q E h => ?_) (fun f cdv A outer s H vs Q E hr h => ?_)
  · obtain ⟨l, ks, rfl, _⟩ := h; rfl
  · have hu := hr.units
    skip
    refine ⟨_, (pss_one (ps_ret (pe_callTy (r := rTupOf K) (by exact q_tupOf) (by rfl) B.b_tuple (by decide +kernel) (pa_cons (pe_lc2 (own := [("one", 1), ("other", 2)]) (vs1 := [2]) (g := gName 1) (g1 := gName 2) (tt := tYes) (wi := iList K (tCB (rSortedS K) (tCons (tVar 0) tNil))) (wi1 := iList K (tCB (rSortedS K) (tCons (tVar 0) tNil))) (by rfl) scpairs_among.nd (by exact (pi_list (pe_callB (r := rSortedS K) (by exact cr_sortedS) (by rfl) B.b_sorted (by decide +kernel) (pa_cons (pv 0) pa_nil)))) (blkOk_by (own := [("one", 1), ("other", 2)]) (N := ["pins", "one", "other"]) (sc := defScope spairs_among) (by decide +kernel)) (by decide) (fun _ _ _ _ _ => (pg_name (i := 1) scpairs_among.nd rfl (by first | exact Or.inl rfl | exact Or.inr rfl))) (fun _ _ _ _ _ => pts_nil) (fun _ _ _ _ _ => (by exact (pi_list (pe_callB (r := rSortedS K) (by exact cr_sortedS) (by rfl) B.b_sorted (by decide +kernel) (pa_cons (pv 0) pa_nil))))) (fun _ _ _ _ _ => (pg_name (i := 2) scpairs_among.nd rfl (by first | exact Or.inl rfl | exact Or.inr rfl))) (fun _ _ _ _ _ => (by exact (pts_one (pt_cmpR q_ltZ (pv 1) (pv 2) (nomark _))))) (fun _ _ _ _ _ => (by exact (pe_tup (pa_cons (pv 1) (pa_cons (pv 2) pa_nil)))))) pa_nil)))), ?_⟩
    obtain ⟨l, ks, rfl, hl, ok, k⟩ := h
    refine rd_at [some (.ref l), none, none] rfl ?_
    have few := ok.few
    have srt : ∀ H', Same H H' → ∀ G : V → Hp → Prop, (∀ p H'', Same H' H'' → H' p = none → H'' p = some (.lst (ks.map V.str)) → G (.ref p) H'') → L2.rSortedS K [.ref l] H' G := fun H' s G g =>
      ⟨l, ks, rfl, SqL.of (s _ _ hl), by omega, fun zs o pm sz ho => by
        have e := asc_eq ok.asc (sorted_asc sz (pm.nodup_iff.mpr ok.asc.nodup)) pm
        rw [e]
        exact g o _ (fun b u e => up_old ho e) ho upd_same⟩
    walk_at "rd"
    refine lc2_names (K := K) (by decide) (zs := ks) (by omega) (fun x y => decide (x.cps.toList < y.cps.toList)) (fun x y => [x, y]) (fun R kk => ?_) (fun x mx H1 s1 R kk => ?_) (fun x mx y my H1 s1 R kk => ?_) (fun x mx y my hb H1 s1 R kk => ?_) (fun H1 E s1 h1 => ?_)
    · walk_at "rd"
      refine srt _ (Same.refl _) _ fun p H2 s2 n2 h2 => ?_
      walk_at "rd"
      exact ⟨⟨_, SqL.of h2⟩, kk p H2 s2 h2⟩
    · walk_at "rd"
      refine srt _ s1 _ fun p H2 s2 n2 h2 => ?_
      walk_at "rd"
      exact ⟨⟨_, SqL.of h2⟩, kk p H2 s2 n2 h2⟩
    · walk_at "rd"
      exact kk
    · walk_at "rd"
      exact fun p np => kk p _ (fun c o e => up_old np e) upd_same
    · walk_at "rd"
      obtain ⟨rs, e1, R⟩ := h1
      refine ⟨E, _, rfl, Or.inl ⟨SqL.of e1, fun w hw => ?_⟩⟩
      have s2 : Same H1 (upd H1 w (.tup (rs.map V.ref))) := fun c o e => up_old hw e
      exact k w _ (s1.trans s2) ⟨rs, upd_same, R.mono fun _ _ p => p.same s2⟩
end
section
variable {P : Program} {w : World} {K : PySem.W.Frag} {mg : Str → Option Value} {base : Heap}
theorem okrods_within (B : Bi mg) {CFrame e0 : Addr} (FKFrame : FrmKFrame K mg CFrame e0)  (D : DefAt K mg "rods_within" srods_within ["rods", "lot"]) : CalA P w K mg base "rods_within" 1 ["rods", "lot"] (spWithinR K) := by
  refine cala_of D scrods_within (fun vs H Q E h => ?_) (fun f cdv A outer s H vs Q E hr h => ?_)
  · obtain ⟨r, l, R, L, rfl, _⟩ := h; rfl
  · have hu := hr.units
    skip
    refine ⟨_, (pss_one (ps_ret (pe_callTy (r := rTupOf K) (by exact q_tupOf) (by rfl) B.b_tuple (by decide +kernel) (pa_cons (pe_lc (own := [("one", 2), ("other", 3)]) (g := gTup K 2 (gCons (gName 2) (gCons (gName 3) gNil))) (by rfl) scrods_within.nd (pi_tup (pv 0)) (blkOk_by (own := [("one", 2), ("other", 3)]) (N := ["rods", "lot", "one", "other"]) (sc := defScope srods_within) (by decide +kernel)) (fun _ _ _ _ _ => (pg_tup (by rfl) (pgs_cons (pg_name (i := 2) scrods_within.nd rfl (by first | exact Or.inl rfl | exact Or.inr rfl)) (pgs_cons (pg_name (i := 3) scrods_within.nd rfl (by first | exact Or.inl rfl | exact Or.inr rfl)) pgs_nil)))) (fun _ _ _ _ _ => (pts_one (PW.pt (pw_and (pt_cmpR (r := rIn K false) (by exact op_in_seq) (pv 2) (pv 1) (by rfl)) (pw_and1 (pt_cmpR (r := rIn K false) (by exact op_in_seq) (pv 3) (pv 1) (by rfl))))))) (fun _ _ _ _ _ => (pe_tup (pa_cons (pv 2) (pa_cons (pv 3) pa_nil))))) pa_nil)))), ?_⟩
    obtain ⟨r, l, R, L, rfl, ⟨rs, hr, Rr, _⟩, hl, ok, q⟩ := h
    refine rd_at [some (.ref r), some (.ref l), none, none] rfl ?_
    walk_at "rd"
    refine ⟨⟨_, hr⟩, fun E hE => ?_⟩
    have few := ok.few
    have ins : ∀ (k : Nat) (x y : Str), R[k]? = some [x, y] → x ∈ L ∧ y ∈ L := fun k x y e => by
      obtain ⟨u, v, e2, hu, hv, _⟩ := ok.pair _ (List.mem_of_getElem? e)
      cases e2
      exact ⟨hu, hv⟩
    refine lc_pairs (K := K) (a := r) (z := R) (i1 := 2) (i2 := 3) (by omega) hE hr Rr (fun k hk => by obtain ⟨x, y, e, _⟩ := ok.pair k hk; exact ⟨x, y, e⟩) (fun _ _ => rfl) (fun k acc => acc.length = k) (fun _ => true) (fun _ _ => True) rfl (fun k v acc _ _ _ e => by rw [List.length_append, e]; rfl) (fun _ _ _ z _ => nomatch z) (fun k acc e => Nat.le_of_eq e) ?_ ?_ ?_
    · intro k x y H' e s Rc kk
      obtain ⟨m1, m2⟩ := ins k x y e
      have hl' := hl.same s
      walk_at "rd"
      refine rd_inZ (.inr (SqT.of hl')) ?_
      rw [decide_eq_true m1]
      walk_at "rd"
      refine rd_inZ (.inr (SqT.of hl')) ?_
      rw [decide_eq_true m2]
      walk_at "rd"
      exact kk _ (Same.refl _)
    · intro k x y H' e _ s Rc kk
      walk_at "rd"
      intro t ht
      exact kk _ _ (fun b o e => up_old ht e) trivial
    · intro acc H' s la hl2
      walk_at "rd"
      refine ⟨E, acc, rfl, Or.inl ⟨SqL.of hl2, fun w hw => ?_⟩⟩
      exact q w _ acc (s.trans fun b o e => up_old hw e) upd_same la
end
section
variable {P : Program} {w : World} {K : PySem.W.Frag} {mg : Str → Option Value} {base : Heap}
theorem okcheck_frame (B : Bi mg) {CFrame e0 : Addr} (FKFrame : FrmKFrame K mg CFrame e0)  (D : DefAt K mg "check_frame" scheck_frame ["frame"]) : CalA P w K mg base "check_frame" 1 ["frame"] (spIsFrame CFrame) := by
  refine cala_of D sccheck_frame (fun vs H Q E h => ?_) (fun f cdv A outer s H vs Q E hr h => ?_)
  · obtain ⟨a, dx, fs, rfl, _⟩ := h; rfl
  · have hu := hr.units
    skip
    refine ⟨_, (pss_one (ps_if (pt_not (pt_val (pe_callB (call_isC FKFrame.ins) (by rfl) B.b_isinstance (by decide +kernel) (pa_cons (pv 0) (pa_cons (pe_own (by rfl) FKFrame.gC) pa_nil))))) (pss_one L2.ps_never) pss_nil)), ?_⟩
    obtain ⟨a, dx, fs, rfl, ha, k⟩ := h
    refine rd_at [some (.ref a)] rfl ?_
    walk_at "rd"
    refine rd_isC ha ?_
    walk_at "rd"
    exact k
end
section
variable {P : Program} {w : World} {K : PySem.W.Frag} {mg : Str → Option Value} {base : Heap}
theorem okspace_in (B : Bi mg) {CFrame e0 : Addr} (FKFrame : FrmKFrame K mg CFrame e0)  (D : DefAt K mg "space_in" sspace_in ["placing"]) : CalA P w K mg base "space_in" 1 ["placing"] (spSpace K) := by
  refine cala_of D scspace_in (fun vs H Q E h => ?_) (fun f cdv A outer s H vs Q E hr h => ?_)
  · obtain ⟨d, P, f, n, rfl, _⟩ := h; rfl
  · have hu := hr.units
    skip
    refine ⟨_, (pss_one (ps_ret (pe_callB (r := rMax K) (by exact (cr_max rfl)) (by rfl) B.b_max (by decide +kernel) (pa_cons (pe_lock (pe_lc (own := [("spot", 1)]) (g := gName 1) (tt := tYes) (by rfl) scspace_in.nd (pi_values (pv 0)) (blkOk_by (own := [("spot", 1)]) (N := ["placing", "spot"]) (sc := defScope sspace_in) (by decide +kernel)) (fun _ _ _ _ _ => (pg_name (i := 1) scspace_in.nd rfl (by first | exact Or.inl rfl | exact Or.inr rfl))) (fun _ _ _ _ _ => pts_nil) (fun _ _ _ _ _ => (pe_callB (r := rLenQ K) (by exact q_lenQ) (by rfl) B.b_len (by decide +kernel) (pa_cons (pv 1) pa_nil))))) pa_nil)))), ?_⟩
    obtain ⟨d, P, f, n, rfl, hd, ok, k⟩ := h
    refine rd_at [some (.ref d), none] rfl ?_
    obtain ⟨A, h1, h2⟩ := id hd
    have few := ok.few
    have one := ok.one
    walk_at "rd"
    refine rd_lock h1 fun od => ?_
    walk_at "rd"
    refine rd_vals ?_
    walk_at "rd"
    refine ⟨d, od, _, rfl, upd_same, fun E hE => ?_⟩
    have nE : E ≠ d := fun e => by rw [e, upd_same] at hE; cases hE
    refine lc_same wk_vals (b := fun _ => true) (f := fun _ => .int 2) (by omega) hE (fun H' hs => hs _ _ upd_same) (fun j _ H' _ R kk => rd_yes (kk H' (Same.refl _))) ?_ ?_
    · intro j hj _ H' hs R kk
      rw [List.getD_eq_getElem?_getD, List.getElem?_eq_getElem hj]
      walk_at "rd"
      exact ⟨_, _, rfl, .inr (SqT.same' hs (pt_lock h1 (h2 _ (List.getElem_mem hj)))), kk _ (Same.refl _)⟩
    intro H' hs hl
    refine ⟨hs _ _ upd_same, ?_⟩
    have s0 := same_unlock h1 hs
    have hl' : upd H' d (dKf P fun z => .ref (A z)) E = some (.lst (((List.range P.length).filter fun _ => true).map fun _ => .int 2)) := by rw [upd_ne nE]; exact hl
    generalize upd H' d (dKf P fun z => .ref (A z)) = H1 at s0 hl'
    rw [filt_yes, show (fun j : Nat => V.int 2) = V.int ∘ (fun _ => 2) from rfl, ← List.map_map] at hl'
    walk_at "rd"
    refine ⟨E, _, rfl, SqL.of hl', by rw [List.length_map, List.length_range]; omega, fun m hm _ => ?_⟩
    obtain ⟨_, _, rfl⟩ := List.mem_map.mp hm
    exact k _ s0
end
section
variable {P : Program} {w : World} {K : PySem.W.Frag} {mg : Str → Option Value} {base : Heap}
theorem ok_sum (B : Bi mg) {CFrame e0 : Addr} (FKFrame : FrmKFrame K mg CFrame e0)  (D : DefAt K mg "_sum" s_sum ["spot", "other"]) : CalA P w K mg base "_sum" 1 ["spot", "other"] (spSum K) := by
  refine cala_of D sc_sum (fun vs H Q E h => ?_) (fun f cdv A outer s H vs Q E hr h => ?_)
  · obtain ⟨p, q, a, b, rfl, _⟩ := h; rfl
  · have hu := hr.units
    skip
    refine ⟨_, (pss_one (ps_ret (pe_callTy (r := rTupOf K) (by exact q_tupOf) (by rfl) B.b_tuple (by decide +kernel) (pa_cons (pe_lc (own := [("number", 2), ("further", 3)]) (g := gTup K 2 (gCons (gName 2) (gCons (gName 3) gNil))) (tt := tYes) (by rfl) sc_sum.nd (pi_zipM (by rfl) B.b_zip (pa_cons (pv 0) (pa_cons (pv 1) pa_nil))) (blkOk_by (own := [("number", 2), ("further", 3)]) (N := ["spot", "other", "number", "further"]) (sc := defScope s_sum) (by decide +kernel)) (fun _ _ _ _ _ => (pg_tup (by rfl) (pgs_cons (pg_name (i := 2) sc_sum.nd rfl (by first | exact Or.inl rfl | exact Or.inr rfl)) (pgs_cons (pg_name (i := 3) sc_sum.nd rfl (by first | exact Or.inl rfl | exact Or.inr rfl)) pgs_nil)))) (fun _ _ _ _ _ => pts_nil) (fun _ _ _ _ _ => (pe_op op_add (pv 2) (pv 3)))) pa_nil)))), ?_⟩
    obtain ⟨p, q, a, b, rfl, hp, hq, k⟩ := h
    refine rd_at [some (.ref p), some (.ref q), none, none] rfl ?_
    walk_at "rd"
    refine rd_zipM ?_
    walk_at "rd"
    refine ⟨false, false, p, q, _, _, rfl, ⟨hp, hq⟩, ?_⟩
    intro E1 hE1
    refine lc_zipM (n := 2) rfl rfl (by decide) hE1 hp hq (fun _ _ => rfl) (fun j => V.int ([a.1 + b.1, a.2 + b.2].getD j 0)) (fun j hj H' s' R hR => ?_) (fun H' s' hl => ?_)
    · rcases two_j hj with e | e
      · subst e
        rw [sv0, sv0]
        walk_at "rd"
        exact hR
      · subst e
        rw [sv1, sv1]
        walk_at "rd"
        exact hR
    · walk_at "rd"
      refine ⟨E1, _, rfl, Or.inl ⟨SqL.of hl, fun w hw => ?_⟩⟩
      exact k w _ (s'.trans (fun c o e => up_old hw e)) (s'.free hw) upd_same
end
section
variable {P : Program} {w : World} {K : PySem.W.Frag} {mg : Str → Option Value} {base : Heap}
theorem ok_difference (B : Bi mg) {CFrame e0 : Addr} (FKFrame : FrmKFrame K mg CFrame e0)  (D : DefAt K mg "_difference" s_difference ["spot", "other"]) : CalA P w K mg base "_difference" 1 ["spot", "other"] (spDiff K) := by
  refine cala_of D sc_difference (fun vs H Q E h => ?_) (fun f cdv A outer s H vs Q E hr h => ?_)
  · obtain ⟨p, q, a, b, rfl, _⟩ := h; rfl
  · have hu := hr.units
    skip
    refine ⟨_, (pss_one (ps_ret (pe_callTy (r := rTupOf K) (by exact q_tupOf) (by rfl) B.b_tuple (by decide +kernel) (pa_cons (pe_lc (own := [("number", 2), ("less", 3)]) (g := gTup K 2 (gCons (gName 2) (gCons (gName 3) gNil))) (tt := tYes) (by rfl) sc_difference.nd (pi_zipM (by rfl) B.b_zip (pa_cons (pv 0) (pa_cons (pv 1) pa_nil))) (blkOk_by (own := [("number", 2), ("less", 3)]) (N := ["spot", "other", "number", "less"]) (sc := defScope s_difference) (by decide +kernel)) (fun _ _ _ _ _ => (pg_tup (by rfl) (pgs_cons (pg_name (i := 2) sc_difference.nd rfl (by first | exact Or.inl rfl | exact Or.inr rfl)) (pgs_cons (pg_name (i := 3) sc_difference.nd rfl (by first | exact Or.inl rfl | exact Or.inr rfl)) pgs_nil)))) (fun _ _ _ _ _ => pts_nil) (fun _ _ _ _ _ => (pe_op op_sub (pv 2) (pv 3)))) pa_nil)))), ?_⟩
    obtain ⟨p, q, a, b, rfl, hp, hq, k⟩ := h
    refine rd_at [some (.ref p), some (.ref q), none, none] rfl ?_
    walk_at "rd"
    refine rd_zipM ?_
    walk_at "rd"
    refine ⟨false, false, p, q, _, _, rfl, ⟨hp, hq⟩, ?_⟩
    intro E1 hE1
    refine lc_zipM (n := 2) rfl rfl (by decide) hE1 hp hq (fun _ _ => rfl) (fun j => V.int ([a.1 - b.1, a.2 - b.2].getD j 0)) (fun j hj H' s' R hR => ?_) (fun H' s' hl => ?_)
    · rcases two_j hj with e | e
      · subst e
        rw [sv0, sv0]
        walk_at "rd"
        exact hR
      · subst e
        rw [sv1, sv1]
        walk_at "rd"
        exact hR
    · walk_at "rd"
      refine ⟨E1, _, rfl, Or.inl ⟨SqL.of hl, fun w hw => ?_⟩⟩
      exact k w _ (s'.trans (fun c o e => up_old hw e)) (s'.free hw) upd_same
end
section
variable {P : Program} {w : World} {K : PySem.W.Frag} {mg : Str → Option Value} {base : Heap}
theorem ok_multiple (B : Bi mg) {CFrame e0 : Addr} (FKFrame : FrmKFrame K mg CFrame e0)  (D : DefAt K mg "_multiple" s_multiple ["spot", "scale"]) : CalA P w K mg base "_multiple" 1 ["spot", "scale"] (spMul K) := by
  refine cala_of D sc_multiple (fun vs H Q E h => ?_) (fun f cdv A outer s H vs Q E hr h => ?_)
  · obtain ⟨p, s, a, n, rfl, _⟩ := h; rfl
  · have hu := hr.units
    skip
    refine ⟨_, (pss_one (ps_ret (pe_callTy (r := rTupOf K) (by exact q_tupOf) (by rfl) B.b_tuple (by decide +kernel) (pa_cons (pe_lc (own := [("number", 2)]) (g := gName 2) (tt := tYes) (by rfl) sc_multiple.nd (pi_tup (pv 0)) (blkOk_by (own := [("number", 2)]) (N := ["spot", "scale", "number"]) (sc := defScope s_multiple) (by decide +kernel)) (fun _ _ _ _ _ => (pg_name (i := 2) sc_multiple.nd rfl (by first | exact Or.inl rfl | exact Or.inr rfl))) (fun _ _ _ _ _ => pts_nil) (fun _ _ _ _ _ => (pe_op op_mulW (pv 2) (pv 1)))) pa_nil)))), ?_⟩
    obtain ⟨p, s, a, n, rfl, hp, ba, bs, hn, k⟩ := h
    refine rd_at [some (.ref p), some (.int s), none] rfl ?_
    walk_at "rd"
    refine ⟨⟨_, hp⟩, fun E hE => ?_⟩
    refine lc_same (wk_tup (xs := sv [a.1, a.2]) .non) (b := fun _ => true) (f := fun j => V.int ([s * a.1, s * a.2].getD j 0)) (show 2 ≤ 1000 by decide) hE (fun H' hs => SqT.same' hs hp) (fun j _ H' _ R kk => rd_yes (kk H' (Same.refl _))) ?_ ?_
    · intro j hj _ H' hs R kk
      rcases two_j hj with e | e
      · subst e
        rw [sv0]
        walk_at "rd"
        refine rd_mulW (ba.1.w bs (by omega)) ?_
        rw [Int.mul_comm]
        exact kk _ (Same.refl _)
      · subst e
        rw [sv1]
        walk_at "rd"
        refine rd_mulW (ba.2.w bs (by omega)) ?_
        rw [Int.mul_comm]
        exact kk _ (Same.refl _)
    · intro H' s' hl
      rw [filt_yes] at hl
      walk_at "rd"
      refine ⟨E, _, rfl, Or.inl ⟨SqL.of hl, fun w hw => ?_⟩⟩
      exact k w _ (s'.trans (fun c o e => up_old hw e)) (s'.free hw) upd_same
end
section
variable {P : Program} {w : World} {K : PySem.W.Frag} {mg : Str → Option Value} {base : Heap}
theorem ok_law_bag (B : Bi mg) {CFrame e0 : Addr} (FKFrame : FrmKFrame K mg CFrame e0)  (D : DefAt K mg "_law_bag" s_law_bag ["_law_script", "_law_at"]) : CalA P w K mg base "_law_bag" 1 ["_law_script", "_law_at"] (spBag K) := by
  refine cala_of D sc_law_bag (fun vs H Q E h => ?_) (fun f cdv A outer s H vs Q E hr h => ?_)
  · obtain ⟨a, ns, i, rfl, _⟩ := h; rfl
  · have hu := hr.units
    skip
    refine ⟨_, (pss_cons (ps_set (i := 2) sc_law_bag.nd rfl (by first | exact Or.inl rfl | exact Or.inr rfl) (pe_ifExp (pt_cmpR op_lt (pv 1) (pe_callB (r := rLenQ K) (by exact q_lenQ) (by rfl) B.b_len (by decide +kernel) (pa_cons (pv 0) pa_nil)) (nomark _)) (pe_ix (r := rIxL K) (by exact ix_list) (pv 0) (pv 1) (fun _ _ => rfl)) (pe_op op_add (pe_op op_add (pe_callB (r := rSum K) (by exact (cr_sum rfl)) (by rfl) B.b_sum (by decide +kernel) (pa_cons (pe_slice (r := rSlL K) (by exact sl_list) (pv 0) po_none (po_some pe_int)) pa_nil)) (pe_op op_mul pe_int (pv 1))) pe_int)))
        (pss_cons (ps_set (i := 3) sc_law_bag.nd rfl (by first | exact Or.inl rfl | exact Or.inr rfl) (pe_op op_mod (pe_callTy q_int (by rfl) B.b_int (by decide +kernel) (pa_cons (pe_callB q_abs (by rfl) B.b_abs (by decide +kernel) (pa_cons (pv 2) pa_nil)) pa_nil)) (pe_op op_powW (pe_op op_pow pe_int pe_int) pe_int)))
        (pss_cons (ps_set (i := 4) sc_law_bag.nd rfl (by first | exact Or.inl rfl | exact Or.inr rfl) (pe_op op_add (pe_op op_add (pe_op op_add (pe_op op_mul (pe_op op_mod (pe_callTy q_int (by rfl) B.b_int (by decide +kernel) (pa_cons (pv 3) pa_nil)) pe_int) pe_int) (pe_op op_mul pe_int (pv 1))) (pe_op op_mul pe_int (pe_callTy q_int (by rfl) B.b_int (by decide +kernel) (pa_cons (pe_cmpR op_lt (pv 2) pe_int (nomark _)) pa_nil)))) pe_int))
        (pss_one (ps_ret (pe_lst (pa_cons (pe_callB (q_max2 rfl) (by rfl) B.b_max (by decide +kernel) (pa_cons pe_int (pa_cons (pe_op op_sub (pv 3) (pe_op op_pow pe_int pe_int)) pa_nil))) (pa_cons (pe_op op_mod (pe_callTy q_int (by rfl) B.b_int (by decide +kernel) (pa_cons (pv 4) pa_nil)) pe_int) (pa_cons pe_int pa_nil))))))))), ?_⟩
    obtain ⟨a, ns, i, rfl, hS, k⟩ := h
    refine rd_at [some (.ref a), some (.int i), none, none, none] rfl ?_
    refine rd_seq (rd_asg ?_)
    refine rd_with (fun v H1 => ∃ z : Int, v = .int z ∧ Same H H1) (fun Q' k' => ?_) ?_
    · walk_at "rd"
      refine rd_lenL hS ?_
      walk_at "rd"
      refine rd_ite (fun hi => ?_) (fun hi => ?_)
      · rw [List.length_map] at hi
        have hi2 : i < ns.length := by omega
        walk_at "rd"
        refine rd_ixL hS (at_nat (j := i) (v := .int ns[i]) (by rw [List.getElem?_map, List.getElem?_eq_getElem hi2]; rfl)) ?_
        exact k' _ _ ⟨_, rfl, Same.refl H⟩
      · walk_at "rd"
        refine rd_slL hS (fun p hp => ?_)
        obtain ⟨ms, hms⟩ := cut_ints ns none (some 1)
        rw [hms]
        walk_at "rd"
        refine rd_sum (SqL.of upd_same) ?_
        walk_at "rd"
        exact k' _ _ ⟨_, rfl, fun b o e => up_old hp e⟩
    rintro v H1 ⟨z, rfl, hs⟩
    walk_at "rd"
    refine rd_powW ⟨by decide, by decide +kernel⟩ ?_
    refine rd_mod (by decide +kernel) ?_
    have g1 := Int.emod_nonneg (if z < 0 then -z else z) (show ((10 : Int) ^ (47 : Int).toNat) ^ (13 : Int).toNat ≠ 0 by decide +kernel)
    generalize (if z < 0 then -z else z) % ((10 : Int) ^ (47 : Int).toNat) ^ (13 : Int).toNat = g at g1
    walk_at "rd"
    have m1 := Int.emod_nonneg g (show (2305843009213693669 : Int) ≠ 0 by decide)
    have m2 := Int.emod_lt_of_pos g (show (0 : Int) < 2305843009213693669 by decide)
    generalize g % 2305843009213693669 = m at m1 m2
    walk_at "rd"
    intro p hp
    refine k p _ (hs.free hp) (fun b o e => up_old hp (hs b o e)) ⟨_, _, _, upd_same, ?_, Int.emod_nonneg _ (by decide), by decide⟩
    split <;> omega
end
section
variable {P : Program} {w : World} {K : PySem.W.Frag} {mg : Str → Option Value} {base : Heap}
theorem ok_law_draw (B : Bi mg) {CFrame e0 : Addr} (FKFrame : FrmKFrame K mg CFrame e0)  (D : DefAt K mg "_law_draw" s_law_draw ["_law_bag_here", "_law_total"]) : CalA P w K mg base "_law_draw" 1 ["_law_bag_here", "_law_total"] (spDrawW) := by
  refine cala_of D sc_law_draw (fun vs H Q E h => ?_) (fun f cdv A outer s H vs Q E hr h => ?_)
  · obtain ⟨a, n, rfl, _⟩ := h; rfl
  · have hu := hr.units
    skip
    refine ⟨_, (pss_cons (ps_if (pt_cmpR op_gt (pe_ix (r := rIxL K) (by exact ix_list) (pv 0) pe_int (fun _ _ => rfl)) pe_int (nomark _)) (pss_cons (ps_set (i := 2) sc_law_draw.nd rfl (by first | exact Or.inl rfl | exact Or.inr rfl) (pe_op op_mod (pe_callTy q_int (by rfl) B.b_int (by decide +kernel) (pa_cons (pe_ix (r := rIxL K) (by exact ix_list) (pv 0) pe_int (fun _ _ => rfl)) pa_nil)) (pv 1)))
        (pss_cons (ps_asg (pe_op op_fdivW (pe_ix (r := rIxL K) (by exact ix_list) (pv 0) pe_int (fun _ _ => rfl)) (pv 1)) (pg_sub (pv 0) pe_int set_list))
        (pss_one (ps_ret (pv 2))))) pss_nil)
        (pss_cons (ps_asg (pe_op op_add (pe_ix (r := rIxL K) (by exact ix_list) (pv 0) pe_int (fun _ _ => rfl)) pe_int) (pg_sub (pv 0) pe_int set_list))
        (pss_cons (ps_set (i := 3) sc_law_draw.nd rfl (by first | exact Or.inl rfl | exact Or.inr rfl) (pe_op op_mod (pe_callTy q_int (by rfl) B.b_int (by decide +kernel) (pa_cons (pe_op op_add (pe_ix (r := rIxL K) (by exact ix_list) (pv 0) pe_int (fun _ _ => rfl)) (pe_op op_mul pe_int (pe_ix (r := rIxL K) (by exact ix_list) (pv 0) pe_int (fun _ _ => rfl)))) pa_nil)) pe_int))
        (pss_cons (ps_set (i := 4) sc_law_draw.nd rfl (by first | exact Or.inl rfl | exact Or.inr rfl) (pe_op op_add (pe_op op_mul (pe_op op_mod (pe_callTy q_int (by rfl) B.b_int (by decide +kernel) (pa_cons (pe_op op_mul (pv 3) (pv 3)) pa_nil)) pe_int) (pv 3)) (pe_op op_mul pe_int (pe_ix (r := rIxL K) (by exact ix_list) (pv 0) pe_int (fun _ _ => rfl)))))
        (pss_one (ps_ret (pe_op op_mod (pe_callTy q_int (by rfl) B.b_int (by decide +kernel) (pa_cons (pe_op op_fdivW (pe_op op_mod (pe_callTy q_int (by rfl) B.b_int (by decide +kernel) (pa_cons (pv 4) pa_nil)) pe_int) pe_int) pa_nil)) (pv 1)))))))), ?_⟩
    obtain ⟨a, n, rfl, ⟨g, m, c, ha, hg, hm, hc⟩, h1, h2, k⟩ := h
    refine rd_at [some (.ref a), some (.int n), none, none, none] rfl ?_
    have n0 : (0 : Int) < n := by omega
    have nb : n.natAbs < 2 ^ 110 := by
      rw [show (2 : Nat) ^ 110 = 1298074214633706907132624082305024 by decide +kernel]
      omega
    walk_at "rd"
    refine rd_ixL (SqL.of ha) (at_nat (j := 0) rfl) ?_
    walk_at "rd"
    refine rd_ite (fun h0 => ?_) (fun h0 => ?_)
    · walk_at "rd"
      refine rd_ixL (SqL.of ha) (at_nat (j := 0) rfl) ?_
      walk_at "rd"
      refine rd_mod n0 ?_
      walk_at "rd"
      refine rd_ixL (SqL.of ha) (at_nat (j := 0) rfl) ?_
      walk_at "rd"
      refine rd_fdivW (wide_div n0 (b := 110) nb (by decide) (by decide)) ?_
      walk_at "rd"
      refine rd_setL ha (j := 0) rfl rfl ?_
      walk_at "rd"
      refine k _ _ (Int.emod_nonneg _ (by omega)) (Int.emod_lt_of_pos _ n0) But.upd ⟨_, _, _, upd_same, Int.ediv_nonneg hg (by omega), hm, hc⟩
    · walk_at "rd"
      refine rd_ixL (SqL.of ha) (at_nat (j := 2) rfl) ?_
      walk_at "rd"
      refine rd_setL ha (j := 2) rfl rfl ?_
      walk_at "rd"
      have ha2 : upd H a (.lst [.int g, .int m, .int (c + 1)]) a = some (.lst [.int g, .int m, .int (c + 1)]) := upd_same
      refine rd_ixL (SqL.of ha2) (at_nat (j := 1) rfl) ?_
      walk_at "rd"
      refine rd_ixL (SqL.of ha2) (at_nat (j := 2) rfl) ?_
      walk_at "rd"
      have o1 := Int.emod_nonneg (m + 1048613 * (c + 1)) (show (2305843009213693951 : Int) ≠ 0 by decide)
      have o2 := Int.emod_lt_of_pos (m + 1048613 * (c + 1)) (show (0 : Int) < 2305843009213693951 by decide)
      generalize (m + 1048613 * (c + 1)) % 2305843009213693951 = one at o1 o2
      walk_at "rd"
      refine rd_ixL (SqL.of ha2) (at_nat (j := 2) rfl) ?_
      walk_at "rd"
      refine rd_mod n0 ?_
      exact k _ _ (Int.emod_nonneg _ (by omega)) (Int.emod_lt_of_pos _ n0) But.upd ⟨_, _, _, ha2, hg, hm, by omega⟩
end
section
variable {P : Program} {w : World} {K : PySem.W.Frag} {mg : Str → Option Value} {base : Heap}
theorem ok_law_pairs_of (B : Bi mg) {CFrame e0 : Addr} (FKFrame : FrmKFrame K mg CFrame e0)  (D : DefAt K mg "_law_pairs_of" s_law_pairs_of ["_law_pins"]) : CalA P w K mg base "_law_pairs_of" 1 ["_law_pins"] (spPairsOf) := by
  refine cala_of D sc_law_pairs_of (fun vs H Q E h => ?_) (fun f cdv A outer s H vs Q E hr h => ?_)
  · obtain ⟨p, P, rfl, _⟩ := h; rfl
  · have hu := hr.units
    skip
    refine ⟨_, (pss_cons (ps_set (i := 1) sc_law_pairs_of.nd rfl (by first | exact Or.inl rfl | exact Or.inr rfl) (pe_lst pa_nil))
        (pss_cons (ps_for PassesOwn.never (by rfl) (pi_range1 (by rfl) B.b_range (pa_cons (pe_callB (r := rLenQ K) (by exact q_lenQ) (by rfl) B.b_len (by decide +kernel) (pa_cons (pv 0) pa_nil)) pa_nil)) (pg_name (i := 2) sc_law_pairs_of.nd rfl (by first | exact Or.inl rfl | exact Or.inr rfl)) (pss_one (ps_set (i := 1) sc_law_pairs_of.nd rfl (by first | exact Or.inl rfl | exact Or.inr rfl) (pe_op op_cat (pv 1) (pe_lc (own := [("_law_other", 3)]) (g := gName 3) (tt := tYes) (by rfl) sc_law_pairs_of.nd (pi_tup (pe_slice (r := rSlT K) (by exact sl_tup) (pv 0) (po_some (pe_op op_add (pv 2) pe_int)) po_none)) (blkOk_by (own := [("_law_other", 3)]) (N := ["_law_pins", "_law_found", "_law_at", "_law_other"]) (sc := defScope s_law_pairs_of) (by decide +kernel)) (fun _ _ _ _ _ => (pg_name (i := 3) sc_law_pairs_of.nd rfl (by first | exact Or.inl rfl | exact Or.inr rfl))) (fun _ _ _ _ _ => pts_nil) (fun _ _ _ _ _ => (pe_tup (pa_cons (pe_ix (r := rIxT K) (by exact ix_tup) (pv 0) (pv 2) (fun _ _ => rfl)) (pa_cons (pv 3) pa_nil)))))))))
        (pss_one (ps_ret (pv 1))))), ?_⟩
    obtain ⟨p, P, rfl, hp, ok, q⟩ := h
    refine rd_at [some (.ref p), none, none, none] rfl ?_
    have few := ok.few
    walk_at "rd"
    intro f0 hf0
    have s1 : Same H (upd H f0 (.lst [])) := fun b o e => up_old hf0 e
    have g1 : upd H f0 (.lst []) f0 = some (.lst []) := upd_same
    generalize upd H f0 (.lst []) = H1 at s1 g1
    walk_at "rd"
    refine rd_lenT (SqT.of (hp.same s1)) ?_
    rw [List.length_map]
    walk_at "rd"
    refine ⟨_, rfl, by omega, by omega, ?_⟩
    rw [Int.toNat_natCast]
    refine for_rng (fun i σ' H' => ∃ (f : Addr) (v2 : Option V), σ' = [some (.ref p), some (.ref f), v2, none] ∧ Same H1 H' ∧ PLs H' f (upto P i)) ⟨f0, _, rfl, Same.refl _, [], g1, Rel.nil⟩ ?_ ?_
    · rintro i _ H3 hi ⟨f, v2, rfl, s3, hf⟩
      have more := upto_more P i
      have fewU := upto_few few (i := i)
      generalize upto P i = U at hf more fewU
      obtain ⟨fs, f1, Rf⟩ := id hf
      have lf := Rf.1
      have hp3 := (hp.same s1).same s3
      walk_at "rd"
      refine ⟨p, P.map V.str, rfl, SqT.of hp3, ?_, fun w hw => ?_⟩
      · rw [List.length_map]
        rintro ⟨z, _⟩
        rw [show (0 + (i : Int)) + 1 = ((i + 1 : Nat) : Int) by omega, HT.sIx_nat] at z
        omega
      have cut : cutV (P.map V.str) (some ((0 + (i : Int)) + 1)) none = (P.drop (i + 1)).map V.str := by
        rw [List.map_drop, show (0 + (i : Int)) + 1 = ((i + 1 : Nat) : Int) by omega]
        exact cut_tail _ (i + 1)
      rw [cut]
      have s4 : Same H3 (upd H3 w (.tup ((P.drop (i + 1)).map V.str))) := fun b o e => up_old hw e
      have g4 : Lay.PT (upd H3 w (.tup ((P.drop (i + 1)).map V.str))) w (P.drop (i + 1)) := upd_same
      generalize upd H3 w (.tup ((P.drop (i + 1)).map V.str)) = H4 at s4 g4
      have ld : (P.drop (i + 1)).length ≤ 8 := by rw [List.length_drop]; omega
      generalize P.drop (i + 1) = ds at more g4 ld
      refine ⟨w, rfl, ⟨_, SqT.of g4⟩, fun E hE => ?_⟩
      refine lc_tups (wk_tup (xs := ds.map V.str) .non) (b := fun _ => true) (f := fun j => [P.getD i "", ds.getD j ""]) (by rw [List.length_map]; omega) hE (fun H' s => SqT.of (s _ _ g4)) (fun j _ H' _ Rc kk => rd_yes (kk H' (Same.refl _))) ?_ ?_
      · intro j hj _ H' s Rc kk
        rw [List.length_map] at hj
        rw [getD_strs hj]
        walk_at "rd"
        refine rd_ixT (SqT.of ((hp3.same s4).same s)) (at_z (v := .str (P.getD i "")) (by omega) (by rw [show (0 + (i : Int)).toNat = i by omega, List.getElem?_map, List.getElem?_eq_getElem hi, getD_at hi]; rfl)) ?_
        walk_at "rd"
        intro t ht
        exact kk t _ (fun b o e => up_old ht e) upd_same
      · intro H' s hl
        rw [List.length_map, yes_map ds "" (fun y => [P.getD i "", y])] at hl
        obtain ⟨es, e1, Re⟩ := id hl
        have le := Re.1
        rw [List.length_map] at le
        walk_at "rd"
        have lim : 1000 ≤ sizeLine := by decide
        refine ⟨f, E, _, _, rfl, rfl, s _ _ (s4 _ _ f1), e1, by rw [List.length_map, List.length_map]; omega, fun x hx => ?_⟩
        have s7 : Same H' (upd H' x (.lst (fs.map V.ref ++ es.map V.ref))) := fun b o e => up_old hx e
        refine ⟨x, _, rfl, s3.trans (s4.trans (s.trans s7)), ?_⟩
        rw [more]
        exact ⟨fs ++ es, by rw [List.map_append]; exact upd_same, (Rel.app (Rf.mono fun _ _ p => ((p.same s4).same s)) Re).mono fun _ _ p => p.same s7⟩
    · rintro _ H3 ⟨f, v2, rfl, s3, hf⟩
      rw [upto_all] at hf
      walk_at "rd"
      exact q f H3 (s1.trans s3) hf
end
section
variable {P : Program} {w : World} {K : PySem.W.Frag} {mg : Str → Option Value} {base : Heap}
theorem ok_law_is_turned (B : Bi mg) {CFrame e0 : Addr} (FKFrame : FrmKFrame K mg CFrame e0)  (D : DefAt K mg "_law_is_turned" s_law_is_turned ["_law_one", "_law_two", "_law_three"]) : CalA P w K mg base "_law_is_turned" 1 ["_law_one", "_law_two", "_law_three"] (spTurned K) := by
  refine cala_of D sc_law_is_turned (fun vs H Q E h => ?_) (fun f cdv A outer s H vs Q E hr h => ?_)
  · obtain ⟨p, q, r, a, b, c, rfl, _⟩ := h; rfl
  · have hu := hr.units
    skip
    refine ⟨_, (pss_one (ps_ret (pe_op op_sub (pe_op op_mulW (pe_op op_sub (pe_ix (r := rIxT K) (by exact ix_tup) (pv 1) pe_int (fun _ _ => rfl)) (pe_ix (r := rIxT K) (by exact ix_tup) (pv 0) pe_int (fun _ _ => rfl))) (pe_op op_sub (pe_ix (r := rIxT K) (by exact ix_tup) (pv 2) pe_int (fun _ _ => rfl)) (pe_ix (r := rIxT K) (by exact ix_tup) (pv 0) pe_int (fun _ _ => rfl)))) (pe_op op_mulW (pe_op op_sub (pe_ix (r := rIxT K) (by exact ix_tup) (pv 1) pe_int (fun _ _ => rfl)) (pe_ix (r := rIxT K) (by exact ix_tup) (pv 0) pe_int (fun _ _ => rfl))) (pe_op op_sub (pe_ix (r := rIxT K) (by exact ix_tup) (pv 2) pe_int (fun _ _ => rfl)) (pe_ix (r := rIxT K) (by exact ix_tup) (pv 0) pe_int (fun _ _ => rfl))))))), ?_⟩
    obtain ⟨p, q, r, a, b, c, rfl, hp, hq, hr, ba, bb, bc, k⟩ := h
    refine rd_at [some (.ref p), some (.ref q), some (.ref r)] rfl ?_
    walk_at "rd"
    refine rd_ixT hq (at_nat (j := 0) rfl) ?_
    walk_at "rd"
    refine rd_ixT hp (at_nat (j := 0) rfl) ?_
    walk_at "rd"
    refine rd_ixT hr (at_nat (j := 1) rfl) ?_
    walk_at "rd"
    refine rd_ixT hp (at_nat (j := 1) rfl) ?_
    walk_at "rd"
    refine rd_mulW ((bb.1.sub ba.1).w (bc.2.sub ba.2) (by decide)) ?_
    walk_at "rd"
    refine rd_ixT hq (at_nat (j := 1) rfl) ?_
    walk_at "rd"
    refine rd_ixT hp (at_nat (j := 1) rfl) ?_
    walk_at "rd"
    refine rd_ixT hr (at_nat (j := 0) rfl) ?_
    walk_at "rd"
    refine rd_ixT hp (at_nat (j := 0) rfl) ?_
    walk_at "rd"
    refine rd_mulW ((bb.2.sub ba.2).w (bc.1.sub ba.1) (by decide)) ?_
    walk_at "rd"
    exact k _ (Same.refl _)
end
section
variable {P : Program} {w : World} {K : PySem.W.Frag} {mg : Str → Option Value} {base : Heap}
theorem ok_law_square (B : Bi mg) {CFrame e0 : Addr} (FKFrame : FrmKFrame K mg CFrame e0)  (D : DefAt K mg "_law_square" s_law_square ["_law_placing_here", "_law_one", "_law_other"]) : CalA P w K mg base "_law_square" 1 ["_law_placing_here", "_law_one", "_law_other"] (spLawSquare K) := by
  refine cala_of D sc_law_square (fun vs H Q E h => ?_) (fun f cdv A outer s H vs Q E hr h => ?_)
  · obtain ⟨d, x, y, ks, f, rfl, _⟩ := h; rfl
  · have hu := hr.units
    skip
    refine ⟨_, (pss_one (ps_ret (pe_callB (r := rSum K) (by exact (cr_sum rfl)) (by rfl) B.b_sum (by decide +kernel) (pa_cons (pe_lc (own := [("_law_here", 3), ("_law_there", 4)]) (g := gTup K 2 (gCons (gName 3) (gCons (gName 4) gNil))) (tt := tYes) (by rfl) sc_law_square.nd (pi_zipM (by rfl) B.b_zip (pa_cons (pe_dget (units1 hu) (pv 0) (pv 1) (fun _ _ => rfl)) (pa_cons (pe_dget (units1 hu) (pv 0) (pv 2) (fun _ _ => rfl)) pa_nil))) (blkOk_by (own := [("_law_here", 3), ("_law_there", 4)]) (N := ["_law_placing_here", "_law_one", "_law_other", "_law_here", "_law_there"]) (sc := defScope s_law_square) (by decide +kernel)) (fun _ _ _ _ _ => (pg_tup (by rfl) (pgs_cons (pg_name (i := 3) sc_law_square.nd rfl (by first | exact Or.inl rfl | exact Or.inr rfl)) (pgs_cons (pg_name (i := 4) sc_law_square.nd rfl (by first | exact Or.inl rfl | exact Or.inr rfl)) pgs_nil)))) (fun _ _ _ _ _ => pts_nil) (fun _ _ _ _ _ => (pe_op op_mulW (pe_op op_sub (pv 3) (pv 4)) (pe_op op_sub (pv 3) (pv 4))))) pa_nil)))), ?_⟩
    obtain ⟨d, x, y, ks, f, rfl, hd, ok, mx, my, k⟩ := h
    refine rd_at [some (.ref d), some (.str x), some (.str y), none, none] rfl ?_
    walk_at "rd"
    refine rd_zipM ?_
    walk_at "rd"
    refine rd_dget ?_
    walk_at "rd"
    refine plc_get hd mx fun p hp => ?_
    walk_at "rd"
    refine rd_dget ?_
    walk_at "rd"
    refine plc_get hd my fun q hq => ?_
    walk_at "rd"
    refine ⟨false, false, p, q, _, _, rfl, ⟨hp, hq⟩, ?_⟩
    intro E1 hE1
    have bx := ok.bd x mx
    have by' := ok.bd y my
    refine lc_zipM (n := 2) rfl rfl (by decide) hE1 hp hq (fun _ _ => rfl) (fun j => V.int ([((f x).1 - (f y).1) * ((f x).1 - (f y).1), ((f x).2 - (f y).2) * ((f x).2 - (f y).2)].getD j 0)) (fun j hj H' s' R hR => ?_) (fun H' s' hl => ?_)
    · rcases two_j hj with e | e
      · subst e
        rw [show (sv (Pl f x)).getD 0 .non = .int (f x).1 from rfl, show (sv (Pl f y)).getD 0 .non = .int (f y).1 from rfl]
        walk_at "rd"
        refine rd_mulW ((bx.1.sub by'.1).w (bx.1.sub by'.1) (by decide)) ?_
        exact hR
      · subst e
        rw [show (sv (Pl f x)).getD 1 .non = .int (f x).2 from rfl, show (sv (Pl f y)).getD 1 .non = .int (f y).2 from rfl]
        walk_at "rd"
        refine rd_mulW ((bx.2.sub by'.2).w (bx.2.sub by'.2) (by decide)) ?_
        exact hR
    · walk_at "rd"
      refine rd_sum (ns := [((f x).1 - (f y).1) * ((f x).1 - (f y).1), ((f x).2 - (f y).2) * ((f x).2 - (f y).2)]) (SqL.of hl) ?_
      have e : [((f x).1 - (f y).1) * ((f x).1 - (f y).1), ((f x).2 - (f y).2) * ((f x).2 - (f y).2)].sum = sq2 (f x) (f y) := by
        show _ + (_ + 0) = _
        rw [Int.add_zero]
        rfl
      rw [e]
      exact k _ s'
end
section
variable {P : Program} {w : World} {K : PySem.W.Frag} {mg : Str → Option Value} {base : Heap}
theorem ok_law_mirrored (B : Bi mg) {CFrame e0 : Addr} (FKFrame : FrmKFrame K mg CFrame e0)  (D : DefAt K mg "_law_mirrored" s_law_mirrored ["_law_start", "_law_end", "_law_spot_here"]) : CalA P w K mg base "_law_mirrored" 1 ["_law_start", "_law_end", "_law_spot_here"] (spLawMir K) := by
  refine cala_of D sc_law_mirrored (fun vs H Q E h => ?_) (fun f cdv A outer s H vs Q E hr h => ?_)
  · obtain ⟨p, q, r, a, b, c, rfl, _⟩ := h; rfl
  · have hu := hr.units
    skip
    refine ⟨_, (pss_cons (ps_asg (pe_tup (pa_cons (pe_op op_sub (pe_ix (r := rIxT K) (by exact ix_tup) (pv 1) pe_int (fun _ _ => rfl)) (pe_ix (r := rIxT K) (by exact ix_tup) (pv 0) pe_int (fun _ _ => rfl))) (pa_cons (pe_op op_sub (pe_ix (r := rIxT K) (by exact ix_tup) (pv 1) pe_int (fun _ _ => rfl)) (pe_ix (r := rIxT K) (by exact ix_tup) (pv 0) pe_int (fun _ _ => rfl))) (pa_cons (pe_op op_sub (pe_ix (r := rIxT K) (by exact ix_tup) (pv 2) pe_int (fun _ _ => rfl)) (pe_ix (r := rIxT K) (by exact ix_tup) (pv 0) pe_int (fun _ _ => rfl))) (pa_cons (pe_op op_sub (pe_ix (r := rIxT K) (by exact ix_tup) (pv 2) pe_int (fun _ _ => rfl)) (pe_ix (r := rIxT K) (by exact ix_tup) (pv 0) pe_int (fun _ _ => rfl))) pa_nil))))) (pg_tup (by rfl) (pgs_cons (pg_name (i := 3) sc_law_mirrored.nd rfl (by first | exact Or.inl rfl | exact Or.inr rfl)) (pgs_cons (pg_name (i := 4) sc_law_mirrored.nd rfl (by first | exact Or.inl rfl | exact Or.inr rfl)) (pgs_cons (pg_name (i := 5) sc_law_mirrored.nd rfl (by first | exact Or.inl rfl | exact Or.inr rfl)) (pgs_cons (pg_name (i := 6) sc_law_mirrored.nd rfl (by first | exact Or.inl rfl | exact Or.inr rfl)) pgs_nil))))))
        (pss_cons (L2.ps_par3 (i := 7) (j := 8) (l := 9) (by rfl) sc_law_mirrored.nd rfl rfl rfl (by decide) (by decide) (by decide) rfl rfl rfl (pa_cons (pe_op op_add (pe_op op_mulW (pv 3) (pv 3)) (pe_op op_mulW (pv 4) (pv 4))) (pa_cons (pe_op op_sub (pe_op op_mulW (pv 3) (pv 3)) (pe_op op_mulW (pv 4) (pv 4))) (pa_cons (pe_op op_mulW (pe_op op_mulW pe_int (pv 3)) (pv 4)) pa_nil))) (by rfl))
        (pss_one (ps_ret (pe_tup (pa_cons (pe_op op_add (pe_op op_add (pe_op op_mulW (pv 7) (pe_ix (r := rIxT K) (by exact ix_tup) (pv 0) pe_int (fun _ _ => rfl))) (pe_op op_mulW (pv 8) (pv 5))) (pe_op op_mulW (pv 9) (pv 6))) (pa_cons (pe_op op_sub (pe_op op_add (pe_op op_mulW (pv 7) (pe_ix (r := rIxT K) (by exact ix_tup) (pv 0) pe_int (fun _ _ => rfl))) (pe_op op_mulW (pv 9) (pv 5))) (pe_op op_mulW (pv 8) (pv 6))) pa_nil))))))), ?_⟩
    obtain ⟨p, q, r, a, b, c, rfl, hp, hq, hr, ba, bb, bc, k⟩ := h
    refine rd_at [some (.ref p), some (.ref q), some (.ref r), none, none, none, none, none, none, none] rfl ?_
    walk_at "rd"
    refine rd_ixT hq (at_nat (j := 0) rfl) ?_
    walk_at "rd"
    refine rd_ixT hp (at_nat (j := 0) rfl) ?_
    walk_at "rd"
    refine rd_ixT hq (at_nat (j := 1) rfl) ?_
    walk_at "rd"
    refine rd_ixT hp (at_nat (j := 1) rfl) ?_
    walk_at "rd"
    refine rd_ixT hr (at_nat (j := 0) rfl) ?_
    walk_at "rd"
    refine rd_ixT hp (at_nat (j := 0) rfl) ?_
    walk_at "rd"
    refine rd_ixT hr (at_nat (j := 1) rfl) ?_
    walk_at "rd"
    refine rd_ixT hp (at_nat (j := 1) rfl) ?_
    walk_at "rd"
    intro p1 np1
    have s1 : Same H (upd H p1 (.tup [.int (b.1 - a.1), .int (b.2 - a.2), .int (c.1 - a.1), .int (c.2 - a.2)])) := fun c o e => up_old np1 e
    have g1 : upd H p1 (.tup [.int (b.1 - a.1), .int (b.2 - a.2), .int (c.1 - a.1), .int (c.2 - a.2)]) p1 = some (.tup [.int (b.1 - a.1), .int (b.2 - a.2), .int (c.1 - a.1), .int (c.2 - a.2)]) := upd_same
    generalize upd H p1 (.tup [.int (b.1 - a.1), .int (b.2 - a.2), .int (c.1 - a.1), .int (c.2 - a.2)]) = H1 at s1 g1
    refine ⟨p1, _, rfl, SqT.of g1, rfl, ⟨_, _, rfl, rd_name ⟨_, _, rfl, rd_name ⟨_, _, rfl, rd_name ⟨_, _, rfl, rd_name ⟨rfl, ?_⟩⟩⟩⟩⟩⟩
    have bx := bb.1.sub ba.1
    have b2 := bb.2.sub ba.2
    have bu := bc.1.sub ba.1
    have bv := bc.2.sub ba.2
    have bs := (bx.mul bx).add (b2.mul b2)
    have bf := (bx.mul bx).sub (b2.mul b2)
    have bk := (Int.two_bd.mul bx).mul b2
    have hp1 : SqT K H1 p (sv [a.1, a.2]) := SqT.same' s1 hp
    walk_at "rd"
    refine rd_par3 ?_
    walk_at "rd"
    refine rd_mulW (bx.w bx (by decide)) ?_
    walk_at "rd"
    refine rd_mulW (b2.w b2 (by decide)) ?_
    walk_at "rd"
    refine rd_mulW (bx.w bx (by decide)) ?_
    walk_at "rd"
    refine rd_mulW (b2.w b2 (by decide)) ?_
    walk_at "rd"
    refine rd_mulW (Int.two_bd.w bx (by decide)) ?_
    walk_at "rd"
    refine rd_mulW ((Int.two_bd.mul bx).w b2 (by decide)) ?_
    walk_at "rd"
    refine ⟨_, _, _, rfl, ?_⟩
    walk_at "rd"
    refine rd_ixT hp1 (at_nat (j := 0) rfl) ?_
    walk_at "rd"
    refine rd_mulW (bs.w ba.1 (by decide)) ?_
    walk_at "rd"
    refine rd_mulW (bf.w bu (by decide)) ?_
    walk_at "rd"
    refine rd_mulW (bk.w bv (by decide)) ?_
    walk_at "rd"
    refine rd_ixT hp1 (at_nat (j := 1) rfl) ?_
    walk_at "rd"
    refine rd_mulW (bs.w ba.2 (by decide)) ?_
    walk_at "rd"
    refine rd_mulW (bk.w bu (by decide)) ?_
    walk_at "rd"
    refine rd_mulW (bf.w bv (by decide)) ?_
    walk_at "rd"
    intro t nt
    exact k t _ (s1.trans fun c o e => up_old nt e) (s1.free nt) upd_same
end
section
variable {P : Program} {w : World} {K : PySem.W.Frag} {mg : Str → Option Value} {base : Heap}
theorem okhas_digits (B : Bi mg) {CFrame e0 : Addr} (FKFrame : FrmKFrame K mg CFrame e0) (c_least_longer : CalA P w K mg base "_least_longer" 1 ["digits"] (spNo)) (D : DefAt K mg "has_digits" shas_digits ["number", "most"]) : CalA P w K mg base "has_digits" 2 ["number", "most"] (spDigits) := by
  refine cala_of D schas_digits (fun vs H Q E h => ?_) (fun f cdv A outer s H vs Q E hr h => ?_)
  · obtain ⟨i, rfl, _⟩ := h; rfl
  · have hu := hr.units
    have hr_least_longer := hr.mono (show 1 ≤ 1 by decide)
    skip
    refine ⟨_, (pss_one (ps_ret (pe_or (pe_cmpR op_le (pe_bits (pv 0)) (pe_op op_mul pe_int (pv 1)) (nomark _)) (pe_one (pe_cmpR op_lt (pe_callB q_abs (by rfl) B.b_abs (by decide +kernel) (pa_cons (pv 0) pa_nil)) (ac c_least_longer hr_least_longer (by rfl) (pa_cons (pv 1) pa_nil)) (nomark _)))))), ?_⟩
    obtain ⟨i, rfl, h0, k⟩ := h
    refine rd_at [some (.int i), some (.int 2000)] rfl ?_
    walk_at "rd"
    have few : Builtin.Int.intBits i ≤ 5000 := h0.bits
    refine rd_ite (fun _ => k) (fun h2 => absurd (by omega) h2)
end
section
variable {P : Program} {w : World} {K : PySem.W.Frag} {mg : Str → Option Value} {base : Heap}
theorem okare_names (B : Bi mg) {CFrame e0 : Addr} (FKFrame : FrmKFrame K mg CFrame e0) (cis_name : CalA P w K mg base "is_name" 1 ["value"] (spName)) (D : DefAt K mg "are_names" sare_names ["value"]) : CalA P w K mg base "are_names" 2 ["value"] (spNames K) := by
  refine cala_of D scare_names (fun vs H Q E h => ?_) (fun f cdv A outer s H vs Q E hr h => ?_)
  · obtain ⟨p, k, rfl, _⟩ := h; rfl
  · have hu := hr.units
    have hris_name := hr.mono (show 1 ≤ 1 by decide)
    skip
    refine ⟨_, (pss_one (ps_ret (pe_and (pe_callB (r := rIsi K) (by exact call_isi) (by rfl) B.b_isinstance (by decide +kernel) (pa_cons (pv 0) (pa_cons (pe_bltn (v := .ty "tuple") (u := .type "tuple") (by rfl) B.b_tuple (by decide +kernel) rfl) pa_nil))) (pe_one (pe_callB (r := rAll K) (by exact (cr_all rfl)) (by rfl) B.b_all (by decide +kernel) (pa_cons (pe_lc (own := [("name", 1)]) (g := gName 1) (tt := tYes) (by rfl) scare_names.nd (pi_tup (pv 0)) (blkOk_by (own := [("name", 1)]) (N := ["value", "name"]) (sc := defScope sare_names) (by decide +kernel)) (fun _ _ _ _ _ => (pg_name (i := 1) scare_names.nd rfl (by first | exact Or.inl rfl | exact Or.inr rfl))) (fun _ _ _ _ _ => pts_nil) (fun _ _ _ _ _ => (ac cis_name hris_name (by rfl) (pa_cons (pv 1) pa_nil)))) pa_nil)))))), ?_⟩
    obtain ⟨p, k, rfl, ⟨hp, ty⟩, l2, hk, q⟩ := h
    refine rd_at [some (.ref p), none] rfl ?_
    walk_at "rd"
    refine rd_isi (b := true) ty.x (show kitB "tuple" "tuple" = some true by decide +kernel) ?_
    walk_at "rd"
    refine ⟨⟨_, hp⟩, ?_⟩
    intro E hE
    refine lc_same (wk_tup (xs := k.map V.str) .non) (b := fun _ => true) (f := fun j => .bl true) (by rw [List.length_map]; omega) hE (fun H' hs => SqT.same' hs hp) (fun j _ H' _ R kk => rd_yes (kk H' (Same.refl _))) ?_ ?_
    · intro j hj _ H' hs R kk
      rw [List.length_map] at hj
      walk_at "rd"
      have e : (k.map V.str).getD j .non = .str k[j] := by rw [List.getD_eq_getElem?_getD, List.getElem?_map, List.getElem?_eq_getElem hj]; rfl
      rw [e]
      exact ⟨k[j], rfl, hk _ (List.getElem_mem hj), kk⟩
    · intro H' hs hl
      rw [filt_yes, show (fun j : Nat => V.bl true) = V.bl ∘ (fun _ => true) from rfl, ← List.map_map] at hl
      walk_at "rd"
      refine rd_all (SqL.of hl) ?_
      rw [yes_all]
      exact q _ hs
end
section
variable {P : Program} {w : World} {K : PySem.W.Frag} {mg : Str → Option Value} {base : Heap}
theorem okcheck_pin_placed (B : Bi mg) {CFrame e0 : Addr} (FKFrame : FrmKFrame K mg CFrame e0) (cis_name : CalA P w K mg base "is_name" 1 ["value"] (spName)) (D : DefAt K mg "check_pin_placed" scheck_pin_placed ["placing", "pin"]) : CalA P w K mg base "check_pin_placed" 2 ["placing", "pin"] (spChPin K) := by
  refine cala_of D sccheck_pin_placed (fun vs H Q E h => ?_) (fun f cdv A outer s H vs Q E hr h => ?_)
  · obtain ⟨d, z, P, f, rfl, _⟩ := h; rfl
  · have hu := hr.units
    have hris_name := hr.mono (show 1 ≤ 1 by decide)
    skip
    refine ⟨_, (pss_one (ps_if (PW.pt (pw_or (pt_not (pt_val (ac cis_name hris_name (by rfl) (pa_cons (pv 1) pa_nil)))) (pw_or1 (pt_cmp (pc_dnotin (units1 hu) (pv 1) (pv 0)))))) (pss_one L2.ps_never) pss_nil)), ?_⟩
    obtain ⟨d, z, P, f, rfl, hd, mz, nz, k⟩ := h
    refine rd_at [some (.ref d), some (.str z)] rfl ?_
    walk_at "rd"
    refine ⟨z, rfl, nz, fun H1 s1 => ?_⟩
    walk_at "rd"
    refine rd_ifb (fun z => nomatch z) (fun _ => ?_)
    walk_at "rd"
    refine rd_dni ?_
    walk_at "rd"
    refine plc_in (hd.same s1) mz fun v => ?_
    dsimp only [Option.isSome, Bool.not_true]
    walk_at "rd"
    refine rd_ifb (fun z => nomatch z) (fun _ => ?_)
    walk_at "rd"
    exact k _ s1
end
section
variable {P : Program} {w : World} {K : PySem.W.Frag} {mg : Str → Option Value} {base : Heap}
theorem ok_square (B : Bi mg) {CFrame e0 : Addr} (FKFrame : FrmKFrame K mg CFrame e0) (c_difference : CalA P w K mg base "_difference" 1 ["spot", "other"] (spDiff K)) (cproduct_of : CalA P w K mg base "product_of" 1 ["row", "other"] (spProduct K)) (D : DefAt K mg "_square" s_square ["spot", "other"]) : CalA P w K mg base "_square" 2 ["spot", "other"] (spSquare K) := by
  refine cala_of D sc_square (fun vs H Q E h => ?_) (fun f cdv A outer s H vs Q E hr h => ?_)
  · obtain ⟨p, q, a, b, n, rfl, _⟩ := h; rfl
  · have hu := hr.units
    have hr_difference := hr.mono (show 1 ≤ 1 by decide)
    have hrproduct_of := hr.mono (show 1 ≤ 1 by decide)
    skip
    refine ⟨_, (pss_cons (ps_set (i := 2) sc_square.nd rfl (by first | exact Or.inl rfl | exact Or.inr rfl) (ac c_difference hr_difference (by rfl) (pa_cons (pv 0) (pa_cons (pv 1) pa_nil))))
        (pss_one (ps_ret (ac cproduct_of hrproduct_of (by rfl) (pa_cons (pv 2) (pa_cons (pv 2) pa_nil)))))), ?_⟩
    obtain ⟨p, q, a, b, n, rfl, hp, hq, ba, bb, hn, k⟩ := h
    refine rd_at [some (.ref p), some (.ref q), none] rfl ?_
    walk_at "rd"
    refine ⟨p, q, a, b, rfl, hp, hq, fun t H1 s1 nt ht => ?_⟩
    walk_at "rd"
    refine ⟨t, t, subS a b, subS a b, n + 1, rfl, SqT.of ht, SqT.of ht, ba.sub bb, ba.sub bb, by omega, fun H2 s2 => ?_⟩
    exact k _ (s1.trans s2)
end
section
variable {P : Program} {w : World} {K : PySem.W.Frag} {mg : Str → Option Value} {base : Heap}
theorem ok_mirror_image (B : Bi mg) {CFrame e0 : Addr} (FKFrame : FrmKFrame K mg CFrame e0) (c_difference : CalA P w K mg base "_difference" 1 ["spot", "other"] (spDiff K)) (c_multiple : CalA P w K mg base "_multiple" 1 ["spot", "scale"] (spMul K)) (c_sum : CalA P w K mg base "_sum" 1 ["spot", "other"] (spSum K)) (cproduct_of : CalA P w K mg base "product_of" 1 ["row", "other"] (spProduct K)) (D : DefAt K mg "_mirror_image" s_mirror_image ["spot", "start", "end"]) : CalA P w K mg base "_mirror_image" 2 ["spot", "start", "end"] (spMirror K) := by
  refine cala_of D sc_mirror_image (fun vs H Q E h => ?_) (fun f cdv A outer s H vs Q E hr h => ?_)
  · obtain ⟨p, s, e, c, a, b, n, rfl, _⟩ := h; rfl
  · have hu := hr.units
    have hr_difference := hr.mono (show 1 ≤ 1 by decide)
    have hr_multiple := hr.mono (show 1 ≤ 1 by decide)
    have hr_sum := hr.mono (show 1 ≤ 1 by decide)
    have hrproduct_of := hr.mono (show 1 ≤ 1 by decide)
    skip
    refine ⟨_, (pss_cons (ps_set (i := 3) sc_mirror_image.nd rfl (by first | exact Or.inl rfl | exact Or.inr rfl) (ac c_difference hr_difference (by rfl) (pa_cons (pv 2) (pa_cons (pv 1) pa_nil))))
        (pss_cons (ps_set (i := 4) sc_mirror_image.nd rfl (by first | exact Or.inl rfl | exact Or.inr rfl) (ac c_difference hr_difference (by rfl) (pa_cons (pv 0) (pa_cons (pv 1) pa_nil))))
        (pss_cons (ps_set (i := 5) sc_mirror_image.nd rfl (by first | exact Or.inl rfl | exact Or.inr rfl) (ac cproduct_of hrproduct_of (by rfl) (pa_cons (pv 3) (pa_cons (pv 3) pa_nil))))
        (pss_cons (ps_set (i := 6) sc_mirror_image.nd rfl (by first | exact Or.inl rfl | exact Or.inr rfl) (ac c_multiple hr_multiple (by rfl) (pa_cons (pv 3) (pa_cons (pe_op op_mulW pe_int (ac cproduct_of hrproduct_of (by rfl) (pa_cons (pv 4) (pa_cons (pv 3) pa_nil)))) pa_nil))))
        (pss_cons (ps_set (i := 7) sc_mirror_image.nd rfl (by first | exact Or.inl rfl | exact Or.inr rfl) (ac c_difference hr_difference (by rfl) (pa_cons (pv 6) (pa_cons (ac c_multiple hr_multiple (by rfl) (pa_cons (pv 4) (pa_cons (pv 5) pa_nil))) pa_nil))))
        (pss_one (ps_ret (ac c_sum hr_sum (by rfl) (pa_cons (ac c_multiple hr_multiple (by rfl) (pa_cons (pv 1) (pa_cons (pv 5) pa_nil))) (pa_cons (pv 7) pa_nil)))))))))), ?_⟩
    obtain ⟨p, s, e, c, a, b, n, rfl, hp, hs, he, bc, ba, bb, hn, k⟩ := h
    refine rd_at [some (.ref p), some (.ref s), some (.ref e), none, none, none, none, none] rfl ?_
    walk_at "rd"
    refine ⟨e, s, b, a, rfl, he, hs, fun t1 H1 s1 n1 h1 => ?_⟩
    walk_at "rd"
    refine ⟨p, s, c, a, rfl, SqT.same' s1 hp, SqT.same' s1 hs, fun t2 H2 s2 n2 h2 => ?_⟩
    walk_at "rd"
    have bx := bb.sub ba
    have bw := bc.sub ba
    refine ⟨t1, t1, _, _, n + 1, rfl, SqT.of (s2 _ _ h1), SqT.of (s2 _ _ h1), bx, bx, by omega, fun H3 s3 => ?_⟩
    walk_at "rd"
    refine ⟨t2, t1, _, _, n + 1, rfl, SqT.of (s3 _ _ h2), SqT.of (s3 _ _ (s2 _ _ h1)), bw, bx, by omega, fun H4 s4 => ?_⟩
    walk_at "rd"
    refine rd_mulW (Int.two_bd.w (dot_bd bw bx) (by omega)) ?_
    walk_at "rd"
    have s34 := s3.trans s4
    have bdot : Bd (2 * (n + 1) + 1 + 2) (2 * dotS (subS c a) (subS b a)) := (Int.two_bd.mul (dot_bd bw bx)).mono (by omega)
    refine ⟨t1, _, _, 4 * n + 10, rfl, SqT.of (s4 _ _ (s3 _ _ (s2 _ _ h1))), bx.mono (by omega), bdot.mono (by omega), by omega, fun t3 H5 s5 n5 h5 => ?_⟩
    walk_at "rd"
    refine ⟨t2, _, _, 4 * n + 10, rfl, SqT.of (s5 _ _ (s34 _ _ h2)), bw.mono (by omega), (dot_bd bx bx).mono (by omega), by omega, fun t4 H6 s6 n6 h6 => ?_⟩
    walk_at "rd"
    refine ⟨t3, t4, tim (2 * dotS (subS c a) (subS b a)) (subS b a), tim (dotS (subS b a) (subS b a)) (subS c a), rfl, SqT.of (s6 _ _ h5), SqT.of h6, fun t5 H7 s7 n7 h7 => ?_⟩
    walk_at "rd"
    have s17 : Same H H7 := s1.trans (s2.trans (s34.trans (s5.trans (s6.trans s7))))
    refine ⟨s, _, a, 4 * n + 10, rfl, SqT.same' s17 hs, ba.mono (by omega), (dot_bd bx bx).mono (by omega), by omega, fun t6 H8 s8 n8 h8 => ?_⟩
    walk_at "rd"
    refine ⟨t6, t5, tim (dotS (subS b a) (subS b a)) a, subS (tim (2 * dotS (subS c a) (subS b a)) (subS b a)) (tim (dotS (subS b a) (subS b a)) (subS c a)), rfl, SqT.of h8, SqT.of (s8 _ _ h7), fun t H9 s9 n9 h9 => ?_⟩
    refine k t H9 (s17.trans (s8.trans s9)) ((s17.trans s8).free n9) ?_
    rw [h9, mir_is]
end
section
variable {P : Program} {w : World} {K : PySem.W.Frag} {mg : Str → Option Value} {base : Heap}
theorem ok_law_one_of (B : Bi mg) {CFrame e0 : Addr} (FKFrame : FrmKFrame K mg CFrame e0) (c_law_draw : CalA P w K mg base "_law_draw" 1 ["_law_bag_here", "_law_total"] (spDrawW)) (D : DefAt K mg "_law_one_of" s_law_one_of ["_law_bag_here", "_law_items"]) : CalA P w K mg base "_law_one_of" 2 ["_law_bag_here", "_law_items"] (spOneOf K) := by
  refine cala_of D sc_law_one_of (fun vs H Q E h => ?_) (fun f cdv A outer s H vs Q E hr h => ?_)
  · obtain ⟨a, l, xs, rfl, _⟩ := h; rfl
  · have hu := hr.units
    have hr_law_draw := hr.mono (show 1 ≤ 1 by decide)
    skip
    refine ⟨_, (pss_one (ps_ret (pe_ix (r := rIx K) (by exact ix_seq) (pv 1) (ac c_law_draw hr_law_draw (by rfl) (pa_cons (pv 0) (pa_cons (pe_callB (r := rLenQ K) (by exact q_lenQ) (by rfl) B.b_len (by decide +kernel) (pa_cons (pv 1) pa_nil)) pa_nil))) (fun _ _ => rfl)))), ?_⟩
    obtain ⟨a, l, xs, rfl, hb, hl, nla, l1, l2, k⟩ := h
    refine rd_at [some (.ref a), some (.ref l)] rfl ?_
    walk_at "rd"
    have hl' : SqL K H l xs ∨ SqT K H l xs := hl.elim (fun h => .inl (SqL.of h)) fun h => .inr (SqT.of h)
    refine ⟨l, xs, rfl, hl', ?_⟩
    walk_at "rd"
    refine ⟨a, xs.length, rfl, hb, by omega, by omega, fun j H1 j0 jn b1 g1 => ?_⟩
    have jl : j.toNat < xs.length := by omega
    have ea : atI xs j = some xs[j.toNat] := at_z j0 (List.getElem?_eq_getElem jl)
    have fin := k xs[j.toNat] H1 (List.getElem_mem jl) b1 g1
    refine rd_ixA ?_
    rcases hl with hl | hl
    · exact .inl (rd_ixL (SqL.of (b1 _ _ nla hl)) ea fin)
    · exact .inr (.inl (rd_ixT (SqT.of (b1 _ _ nla hl)) ea fin))
end
section
variable {P : Program} {w : World} {K : PySem.W.Frag} {mg : Str → Option Value} {base : Heap}
theorem ok_law_shuffled (B : Bi mg) {CFrame e0 : Addr} (FKFrame : FrmKFrame K mg CFrame e0) (c_law_draw : CalA P w K mg base "_law_draw" 1 ["_law_bag_here", "_law_total"] (spDrawW)) (D : DefAt K mg "_law_shuffled" s_law_shuffled ["_law_bag_here", "_law_items"]) : CalA P w K mg base "_law_shuffled" 2 ["_law_bag_here", "_law_items"] (spShuffled) := by
  refine cala_of D sc_law_shuffled (fun vs H Q E h => ?_) (fun f cdv A outer s H vs Q E hr h => ?_)
  · obtain ⟨a, l, xs, rfl, _⟩ := h; rfl
  · have hu := hr.units
    have hr_law_draw := hr.mono (show 1 ≤ 1 by decide)
    skip
    refine ⟨_, (pss_cons (ps_set (i := 2) sc_law_shuffled.nd rfl (by first | exact Or.inl rfl | exact Or.inr rfl) (pe_callTy (r := rLstOf K) (by exact q_lstOf) (by rfl) B.b_list (by decide +kernel) (pa_cons (pv 1) pa_nil)))
        (pss_one (ps_ret (pe_lc (own := [("_law_turn", 3)]) (g := gName 3) (tt := tYes) (by rfl) sc_law_shuffled.nd (pi_range1 (by rfl) B.b_range (pa_cons (pe_callB (r := rLenQ K) (by exact q_lenQ) (by rfl) B.b_len (by decide +kernel) (pa_cons (pv 1) pa_nil)) pa_nil)) (blkOk_by (own := [("_law_turn", 3)]) (N := ["_law_bag_here", "_law_items", "_law_waits", "_law_turn"]) (sc := defScope s_law_shuffled) (by decide +kernel)) (fun _ _ _ _ _ => (pg_name (i := 3) sc_law_shuffled.nd rfl (by first | exact Or.inl rfl | exact Or.inr rfl))) (fun _ _ _ _ _ => pts_nil) (fun _ _ _ _ _ => (by exact (pe_bmK (K := K) (r := rPopAt) rfl PySem.F.plainAttrs_list PySem.F.slot_list_pop PySem.F.type_list_pop mt_popAt (pv 2) (pa_cons (ac c_law_draw hr_law_draw (by rfl) (pa_cons (pv 0) (pa_cons (pe_callB (r := rLenQ K) (by exact q_lenQ) (by rfl) B.b_len (by decide +kernel) (pa_cons (pv 2) pa_nil)) pa_nil))) pa_nil)))))))), ?_⟩
    obtain ⟨a, l, xs, rfl, hb, hl, l20, k⟩ := h
    refine rd_at [some (.ref a), some (.ref l), none, none] rfl ?_
    walk_at "rd"
    refine ⟨l, xs, rfl, Or.inl (SqL.of hl), fun W hW => ?_⟩
    have s1 : Same H (upd H W (.lst xs)) := fun b o e => up_old hW e
    have g1 : upd H W (.lst xs) W = some (.lst xs) := upd_same
    have nWa : W ≠ a := bag_none hb hW
    generalize upd H W (.lst xs) = H1 at s1 g1
    have hb1 := bag_same s1 hb
    walk_at "rd"
    refine rd_lenL (SqL.of (s1 _ _ hl)) ?_
    refine ⟨_, rfl, by omega, by omega, ?_⟩
    rw [Int.toNat_natCast]
    intro E hE
    have nEa : E ≠ a := bag_none hb1 hE
    have nEW : E ≠ W := fun e => by rw [e, g1] at hE; cases hE
    have lim : 1000 ≤ sizeLine := by decide
    have freshE : H E = none := by
      cases z : H E with
      | none => rfl
      | some o => rw [s1 _ _ z] at hE; cases hE
    refine ⟨fun i m H' => m = xs.length - i ∧ i ≤ xs.length ∧ ∃ ys ws : List V, (ys ++ ws).Perm xs ∧ ys.length = i ∧ But a H H' ∧ BagAt H' a ∧ H' W = some (.lst ws) ∧ H' E = some (.lst ys), ⟨xs.length, by omega, Nat.zero_le _, [], xs, List.Perm.refl _, rfl, same_but fun b o e => up_old hE (s1 _ _ e), BagAt.old hE hb1, up_old hE g1, upd_same⟩, ?_⟩
    rintro i m H2 ⟨rfl, hi, ys, ws, pm, ly, bu, hb2, hw2, he2⟩
    have tot := pm.length_eq
    rw [List.length_append, ly] at tot
    by_cases lt : i < xs.length
    · refine Or.inr ⟨lt, fun H' => ∃ m', m' < xs.length - i ∧ m' = xs.length - (i + 1) ∧ i + 1 ≤ xs.length ∧ ∃ ys ws : List V, (ys ++ ws).Perm xs ∧ ys.length = i + 1 ∧ But a H H' ∧ BagAt H' a ∧ H' W = some (.lst ws) ∧ H' E = some (.lst ys), fun _ w => w, ?_⟩
      rintro x H3 ⟨rfl, rfl⟩
      refine rd_name ⟨rfl, ?_⟩
      walk_at "rd"
      refine rd_BM (rd_var rfl (rd_tyL hw2 ?_))
      walk_at "rd"
      refine rd_lenL (SqL.of hw2) ?_
      walk_at "rd"
      refine ⟨a, _, rfl, hb2, by omega, by omega, fun j H4 j0 j1 bu4 hb4 => ?_⟩
      have hw4 := bu4 _ _ nWa hw2
      have he4 := bu4 _ _ nEa he2
      have jl : j.toNat < ws.length := by omega
      walk_at "rd"
      refine ⟨W, ws, j, j.toNat, ws[j.toNat], rfl, rfl, hw4, by omega, by omega, seqIndex_of j0 (by omega), List.getElem?_eq_getElem jl, ?_⟩
      have pe := erase_perm (List.getElem?_eq_getElem jl)
      refine ⟨ys, up_oth nEW he4, by omega, _, by omega, rfl, lt, ys ++ [ws[j.toNat]], ws.eraseIdx j.toNat, ?_, by rw [List.length_append, ly]; rfl, ?_, ?_, ?_, upd_same⟩
      · rw [List.append_assoc]
        exact (pe.append_left ys).trans pm
      · intro b o nb e
        have e4 := bu4 b o nb (bu b o nb e)
        have nbW : b ≠ W := fun z => by rw [z, hW] at e; cases e
        have nbE : b ≠ E := fun z => by rw [z, freshE] at e; cases e
        exact up_oth nbE (up_oth nbW e4)
      · obtain ⟨g, m, c, e, r⟩ := hb4
        exact ⟨g, m, c, up_oth nEa.symm (up_oth nWa.symm e), r⟩
      · exact up_oth nEW.symm upd_same
    · have e : i = xs.length := by omega
      have w0 : ws = [] := List.length_eq_zero_iff.mp (by omega)
      rw [w0, List.append_nil] at pm
      refine Or.inl ⟨(show xs.length ≤ i by omega), ?_⟩
      walk_at "rd"
      exact k ys E H2 pm freshE bu hb2 he2
end
section
variable {P : Program} {w : World} {K : PySem.W.Frag} {mg : Str → Option Value} {base : Heap}
theorem ok_law_some_of (B : Bi mg) {CFrame e0 : Addr} (FKFrame : FrmKFrame K mg CFrame e0) (c_law_draw : CalA P w K mg base "_law_draw" 1 ["_law_bag_here", "_law_total"] (spDrawW)) (D : DefAt K mg "_law_some_of" s_law_some_of ["_law_bag_here", "_law_items", "_law_size"]) : CalA P w K mg base "_law_some_of" 2 ["_law_bag_here", "_law_items", "_law_size"] (spSomeOf) := by
  refine cala_of D sc_law_some_of (fun vs H Q E h => ?_) (fun f cdv A outer s H vs Q E hr h => ?_)
  · obtain ⟨a, l, xs, m, rfl, _⟩ := h; rfl
  · have hu := hr.units
    have hr_law_draw := hr.mono (show 1 ≤ 1 by decide)
    skip
    refine ⟨_, (pss_one (ps_ret (pe_lc (own := [("_law_one", 3)]) (g := gName 3) (by rfl) sc_law_some_of.nd (pi_list (pv 1)) (blkOk_by (own := [("_law_one", 3)]) (N := ["_law_bag_here", "_law_items", "_law_size", "_law_one"]) (sc := defScope s_law_some_of) (by decide +kernel)) (fun _ _ _ _ _ => (pg_name (i := 3) sc_law_some_of.nd rfl (by first | exact Or.inl rfl | exact Or.inr rfl))) (fun _ _ _ _ _ => (pts_one (pt_cmpR op_eq (ac c_law_draw hr_law_draw (by rfl) (pa_cons (pv 0) (pa_cons (pv 2) pa_nil))) pe_int (nomark _)))) (fun _ _ _ _ _ => (pv 3))))), ?_⟩
    obtain ⟨a, l, xs, m, rfl, hb, hl, nla, few, m1, m2, q⟩ := h
    refine rd_at [some (.ref a), some (.ref l), some (.int m), none] rfl ?_
    walk_at "rd"
    refine ⟨⟨_, SqL.of hl⟩, fun E hE => ?_⟩
    refine lc_drawn (wk_list (xs := xs) .non) (a := a) (by omega) hE hb (fun H' u => SqL.of (u _ _ nla hl)) (fun j => xs.getD j .non) ?_ ?_ ?_
    · intro j hj H' u b Rc kk
      walk_at "rd"
      refine ⟨a, m, rfl, b, by omega, by omega, fun d H2 d0 d1 u2 b2 => ?_⟩
      walk_at "rd"
      exact kk _ _ u2 b2
    · intro j hj H' u Rc kk
      walk_at "rd"
      exact kk
    · intro js H' sub u b hE2
      walk_at "rd"
      exact q _ E H' (pick_sublist xs .non sub) u b hE2
end
section
variable {P : Program} {w : World} {K : PySem.W.Frag} {mg : Str → Option Value} {base : Heap}
theorem ok_law_spot (B : Bi mg) {CFrame e0 : Addr} (FKFrame : FrmKFrame K mg CFrame e0) (c_law_draw : CalA P w K mg base "_law_draw" 1 ["_law_bag_here", "_law_total"] (spDrawW)) (D : DefAt K mg "_law_spot" s_law_spot ["_law_bag_here", "_law_space", "_law_spread"]) : CalA P w K mg base "_law_spot" 2 ["_law_bag_here", "_law_space", "_law_spread"] (spLawSpot) := by
  refine cala_of D sc_law_spot (fun vs H Q E h => ?_) (fun f cdv A outer s H vs Q E hr h => ?_)
  · obtain ⟨a, n, rfl, _⟩ := h; rfl
  · have hu := hr.units
    have hr_law_draw := hr.mono (show 1 ≤ 1 by decide)
    skip
    refine ⟨_, (pss_one (ps_ret (pe_callTy (r := rTupOf K) (by exact q_tupOf) (by rfl) B.b_tuple (by decide +kernel) (pa_cons (pe_lc (own := [("_law_turn", 3)]) (g := gName 3) (tt := tYes) (by rfl) sc_law_spot.nd (pi_range1 (by rfl) B.b_range (pa_cons (pv 1) pa_nil)) (blkOk_by (own := [("_law_turn", 3)]) (N := ["_law_bag_here", "_law_space", "_law_spread", "_law_turn"]) (sc := defScope s_law_spot) (by decide +kernel)) (fun _ _ _ _ _ => (pg_name (i := 3) sc_law_spot.nd rfl (by first | exact Or.inl rfl | exact Or.inr rfl))) (fun _ _ _ _ _ => pts_nil) (fun _ _ _ _ _ => (pe_op op_sub (ac c_law_draw hr_law_draw (by rfl) (pa_cons (pv 0) (pa_cons (pe_op op_add (pe_op op_mul pe_int (pv 2)) pe_int) pa_nil))) (pv 2)))) pa_nil)))), ?_⟩
    obtain ⟨a, n, rfl, hb, n1, n2, k⟩ := h
    refine rd_at [some (.ref a), some (.int 2), some (.int n), none] rfl ?_
    walk_at "rd"
    have n2' : n ≤ 1000000000000000000000000000000 := n2
    refine ⟨2, rfl, by decide, by decide, fun E hE => ?_⟩
    refine lc_bag (n := 2) (by decide) hE hb (fun v => ∃ i : Int, v = .int i ∧ Bd 110 i) (fun j hj H' bu g R kk => ?_) (fun ys H' ly hy bu g hl => ?_)
    · walk_at "rd"
      refine ⟨a, _, rfl, g, by omega, by omega, fun d H2 d0 d1 b2 g2 => ?_⟩
      walk_at "rd"
      refine kk _ H2 ⟨_, rfl, ?_⟩ b2 g2
      unfold Bd
      rw [show (2 : Nat) ^ 110 = 1298074214633706907132624082305024 by decide +kernel]
      omega
    · match ys, ly with
      | [u, v], _ =>
        obtain ⟨i0, rfl, b0⟩ := hy u List.mem_cons_self
        obtain ⟨i1, rfl, b1⟩ := hy v (List.mem_cons_of_mem _ List.mem_cons_self)
        walk_at "rd"
        refine ⟨E, _, rfl, Or.inl ⟨SqL.of hl, fun t nt => ?_⟩⟩
        have s : Same H' (upd H' t (.tup [.int i0, .int i1])) := fun c o e => up_old nt e
        refine k t (i0, i1) _ ⟨b0, b1⟩ (bu.trans (same_but s)) (bag_same s g) ?_ upd_same
        exact bu.free (bag_none g nt) nt
end
section
variable {P : Program} {w : World} {K : PySem.W.Frag} {mg : Str → Option Value} {base : Heap}
theorem okis_integer (B : Bi mg) {CFrame e0 : Addr} (FKFrame : FrmKFrame K mg CFrame e0) (chas_digits : CalA P w K mg base "has_digits" 2 ["number", "most"] (spDigits)) (D : DefAt K mg "is_integer" sis_integer ["value"]) : CalA P w K mg base "is_integer" 3 ["value"] (spInt) := by
  refine cala_of D scis_integer (fun vs H Q E h => ?_) (fun f cdv A outer s H vs Q E hr h => ?_)
  · obtain ⟨i, rfl, _⟩ := h; rfl
  · have hu := hr.units
    have hrhas_digits := hr.mono (show 2 ≤ 2 by decide)
    obtain ⟨t_MAX_DIGITS, k_MAX_DIGITS⟩ := B.c_MAX_DIGITS
    skip
    refine ⟨_, (pss_one (ps_ret (pe_and (pe_callB (r := rIsi K) (by exact call_isi) (by rfl) B.b_isinstance (by decide +kernel) (pa_cons (pv 0) (pa_cons (pe_bltn (v := .ty "int") (u := .type "int") (by rfl) B.b_int (by decide +kernel) rfl) pa_nil))) (pe_and (pe_not (pe_callB (r := rIsi K) (by exact call_isi) (by rfl) B.b_isinstance (by decide +kernel) (pa_cons (pv 0) (pa_cons (pe_bltn (v := .ty "bool") (u := .type "bool") (by rfl) B.b_bool (by decide +kernel) rfl) pa_nil)))) (pe_one (ac chas_digits hrhas_digits (by rfl) (pa_cons (pv 0) (pa_cons (pe_glob (v := .int 2000) (by rfl) k_MAX_DIGITS ⟨_, rfl⟩) pa_nil)))))))), ?_⟩
    obtain ⟨i, rfl, h0, k⟩ := h
    refine rd_at [some (.int i)] rfl ?_
    walk_at "rd"
    refine rd_isi (b := true) (.base (.int i)) (show kitB "int" "int" = some true by decide +kernel) ?_
    walk_at "rd"
    refine rd_isi (b := false) (.base (.int i)) (show kitB "int" "bool" = some false by decide +kernel) ?_
    walk_at "rd"
    refine rd_ifb (fun _ => ?_) (fun z => nomatch z)
    walk_at "rd"
    exact ⟨i, rfl, h0, k⟩
end
section
variable {P : Program} {w : World} {K : PySem.W.Frag} {mg : Str → Option Value} {base : Heap}
theorem okis_lot (B : Bi mg) {CFrame e0 : Addr} (FKFrame : FrmKFrame K mg CFrame e0) (care_names : CalA P w K mg base "are_names" 2 ["value"] (spNames K)) (cis_ascending : CalA P w K mg base "is_ascending" 1 ["values"] (spAsc K)) (D : DefAt K mg "is_lot" sis_lot ["value"]) : CalA P w K mg base "is_lot" 3 ["value"] (spLot K) := by
  refine cala_of D scis_lot (fun vs H Q E h => ?_) (fun f cdv A outer s H vs Q E hr h => ?_)
  · obtain ⟨p, k, rfl, _⟩ := h; rfl
  · have hu := hr.units
    have hrare_names := hr.mono (show 2 ≤ 2 by decide)
    have hris_ascending := hr.mono (show 1 ≤ 2 by decide)
    skip
    refine ⟨_, (pss_one (ps_ret (pe_and (ac care_names hrare_names (by rfl) (pa_cons (pv 0) pa_nil)) (pe_one (ac cis_ascending hris_ascending (by rfl) (pa_cons (pv 0) pa_nil)))))), ?_⟩
    obtain ⟨p, k, rfl, hp, ok, q⟩ := h
    refine rd_at [some (.ref p)] rfl ?_
    have few := ok.few
    walk_at "rd"
    refine ⟨p, _, rfl, hp, ok.few, ok.nm, fun H1 s1 => ?_⟩
    walk_at "rd"
    refine ⟨p, _, k.map PyData.str, rfl, SqT.same' s1 hp.1, dp_strs k, (by rw [List.length_map]; omega), (fun d hd e he => ?_), (fun d hd => ?_), List.pairwise_map.mpr ok.asc, fun H2 s2 => q _ (s1.trans s2)⟩
    · obtain ⟨a, _, rfl⟩ := List.mem_map.mp hd
      obtain ⟨b, _, rfl⟩ := List.mem_map.mp he
      rfl
    · obtain ⟨a, _, rfl⟩ := List.mem_map.mp hd
      exact ⟨(fun z => nomatch z), Nat.zero_le _⟩
end
section
variable {P : Program} {w : World} {K : PySem.W.Frag} {mg : Str → Option Value} {base : Heap}
theorem ok_are_pins (B : Bi mg) {CFrame e0 : Addr} (FKFrame : FrmKFrame K mg CFrame e0) (care_names : CalA P w K mg base "are_names" 2 ["value"] (spNames K)) (D : DefAt K mg "_are_pins" s_are_pins ["value"]) : CalA P w K mg base "_are_pins" 3 ["value"] (spPins) := by
  refine cala_of D sc_are_pins (fun vs H Q E h => ?_) (fun f cdv A outer s H vs Q E hr h => ?_)
  · obtain ⟨p, P, rfl, _⟩ := h; rfl
  · have hu := hr.units
    have hrare_names := hr.mono (show 2 ≤ 2 by decide)
    obtain ⟨t_MAX_PINS, k_MAX_PINS⟩ := B.c_MAX_PINS
    skip
    refine ⟨_, (pss_cons (ps_if (PW.pt (pw_or (pt_not (pt_val (ac care_names hrare_names (by rfl) (pa_cons (pv 0) pa_nil)))) (pw_or1 (pt_not (pt_chain op_le op_le pe_int (pe_callB (r := rLenQ K) (by exact q_lenQ) (by rfl) B.b_len (by decide +kernel) (pa_cons (pv 0) pa_nil)) (pe_glob (v := .int 8) (by rfl) k_MAX_PINS ⟨_, rfl⟩)))))) (pss_one (ps_ret pe_bl)) pss_nil)
        (pss_one (ps_ret (pe_cmpR op_eq (pe_unl hu rfl (by rfl) B.b_len (by rfl) B.b_set (pv 0)) (pe_callB (r := rLenQ K) (by exact q_lenQ) (by rfl) B.b_len (by decide +kernel) (pa_cons (pv 0) pa_nil)) (nomark _))))), ?_⟩
    obtain ⟨p, P, rfl, hp, ok, n1, q⟩ := h
    refine rd_at [some (.ref p)] rfl ?_
    have few := ok.few
    walk_at "rd"
    refine ⟨p, P, rfl, PT.q hp, ok.few, ok.nm, fun H1 s1 => ?_⟩
    have hp1 := hp.same s1
    walk_at "rd"
    refine rd_ifb (fun z => nomatch z) (fun _ => ?_)
    walk_at "rd"
    refine rd_lenT (SqT.of hp1) ?_
    rw [List.length_map]
    walk_at "rd"
    refine rd_ite (fun h2 => ?_) (fun h2 => absurd (by omega) h2)
    walk_at "rd"
    refine rd_iteN (fun h3 => absurd (by omega) h3) (fun h3 => ?_)
    walk_at "rd"
    refine rd_unlZ rfl (SqT.of hp1) ok.asc.nodup (by omega) ?_
    walk_at "rd"
    refine rd_lenT (SqT.of hp1) ?_
    rw [List.length_map]
    walk_at "rd"
    rw [decide_eq_true rfl]
    exact q _ s1
end
section
variable {P : Program} {w : World} {K : PySem.W.Frag} {mg : Str → Option Value} {base : Heap}
theorem ok_squares_of (B : Bi mg) {CFrame e0 : Addr} (FKFrame : FrmKFrame K mg CFrame e0) (c_square : CalA P w K mg base "_square" 2 ["spot", "other"] (spSquare K)) (D : DefAt K mg "_squares_of" s_squares_of ["pairs", "placing"]) : CalA P w K mg base "_squares_of" 3 ["pairs", "placing"] (spSqOf K) := by
  refine cala_of D sc_squares_of (fun vs H Q E h => ?_) (fun f cdv A outer s H vs Q E hr h => ?_)
  · obtain ⟨r, d, R, ks, f, n, rfl, _⟩ := h; rfl
  · have hu := hr.units
    have hr_square := hr.mono (show 2 ≤ 2 by decide)
    skip
    refine ⟨_, (pss_one (ps_ret (pe_dcT (own := [("one", 2), ("other", 3)]) (g := gTup K 2 (gCons (gName 2) (gCons (gName 3) gNil))) (tt := tYes) (units1 hu) (by rfl) sc_squares_of.nd (pi_tup (pv 0)) (blkOk_by (own := [("one", 2), ("other", 3)]) (N := ["pairs", "placing", "one", "other"]) (sc := defScope s_squares_of) (by decide +kernel)) (fun _ _ _ _ _ => (pg_tup (by rfl) (pgs_cons (pg_name (i := 2) sc_squares_of.nd rfl (by first | exact Or.inl rfl | exact Or.inr rfl)) (pgs_cons (pg_name (i := 3) sc_squares_of.nd rfl (by first | exact Or.inl rfl | exact Or.inr rfl)) pgs_nil)))) (fun _ _ _ _ _ => pts_nil) (fun _ _ _ _ _ => (pe_tup (pa_cons (pv 2) (pa_cons (pv 3) pa_nil)))) (fun _ _ _ _ _ => (ac c_square hr_square (by rfl) (pa_cons (pe_dget (units1 hu) (pv 1) (pv 2) (fun _ _ => rfl)) (pa_cons (pe_dget (units1 hu) (pv 1) (pv 3) (fun _ _ => rfl)) pa_nil))))))), ?_⟩
    obtain ⟨r, d, R, ks, f, n, rfl, ⟨rs, hr, rel⟩, hd, ok, hn, few, nd, two, k⟩ := h
    refine rd_at [some (.ref r), some (.ref d), none, none] rfl ?_
    walk_at "rd"
    refine ⟨⟨_, SqT.of hr⟩, fun D hD => ?_⟩
    refine dct_pairs (K := K) (H1 := H) (R := R) (by omega) hD (SqT.of hr) rel (fun k hk => ?_) nd (fun _ _ => rfl) (sqP f) (fun x y m H1 s1 S kk => ?_) (fun x y m H1 s1 S kk => ?_) (fun H1 s1 h1 => ?_)
    · obtain ⟨x, y, e, _⟩ := two k hk
      exact ⟨x, y, e⟩
    · walk_at "rd"
      exact fun p np => kk p _ (fun c o e => up_old np e) upd_same
    · obtain ⟨x', y', e, mx, my⟩ := two _ m
      cases e
      walk_at "rd"
      refine rd_dget ?_
      walk_at "rd"
      refine plc_get (hd.same s1) mx fun p hp => ?_
      walk_at "rd"
      refine rd_dget ?_
      walk_at "rd"
      refine plc_get (hd.same s1) my fun q hq => ?_
      walk_at "rd"
      exact ⟨p, q, f x, f y, n, rfl, hp, hq, ok.bd x mx, ok.bd y my, by omega, fun H2 s2 => kk _ s2⟩
    · exact k D H1 s1 h1
end
section
variable {P : Program} {w : World} {K : PySem.W.Frag} {mg : Str → Option Value} {base : Heap}
theorem ok_law_names (B : Bi mg) {CFrame e0 : Addr} (FKFrame : FrmKFrame K mg CFrame e0) (c_law_draw : CalA P w K mg base "_law_draw" 1 ["_law_bag_here", "_law_total"] (spDrawW)) (c_law_shuffled : CalA P w K mg base "_law_shuffled" 2 ["_law_bag_here", "_law_items"] (spShuffled)) (D : DefAt K mg "_law_names" s_law_names ["_law_bag_here", "_law_many"]) : CalA P w K mg base "_law_names" 3 ["_law_bag_here", "_law_many"] (spNamesM) := by
  refine cala_of D sc_law_names (fun vs H Q E h => ?_) (fun f cdv A outer s H vs Q E hr h => ?_)
  · obtain ⟨a, m, rfl, _⟩ := h; rfl
  · have hu := hr.units
    have hr_law_draw := hr.mono (show 1 ≤ 2 by decide)
    have hr_law_shuffled := hr.mono (show 2 ≤ 2 by decide)
    skip
    refine ⟨_, (pss_cons (ps_set (i := 2) sc_law_names.nd rfl (by first | exact Or.inl rfl | exact Or.inr rfl) (pe_lst (pa_cons pe_str (pa_cons pe_str (pa_cons pe_str (pa_cons pe_str (pa_cons pe_str (pa_cons pe_str (pa_cons pe_str (pa_cons pe_str pa_nil))))))))))
        (pss_cons (ps_if (pt_cmpR op_eq (ac c_law_draw hr_law_draw (by rfl) (pa_cons (pv 0) (pa_cons pe_int pa_nil))) pe_int (nomark _)) (pss_one (ps_set (i := 2) sc_law_names.nd rfl (by first | exact Or.inl rfl | exact Or.inr rfl) (pe_lst (pa_cons pe_str (pa_cons pe_str (pa_cons pe_str (pa_cons pe_str (pa_cons pe_str (pa_cons pe_str (pa_cons pe_str (pa_cons pe_str (pa_cons pe_str (pa_cons pe_str (pa_cons pe_str (pa_cons pe_str (pa_cons pe_str (pa_cons pe_str pa_nil))))))))))))))))) pss_nil)
        (pss_cons (ps_if (pt_cmpR op_gt (pv 1) (pe_callB (r := rLenQ K) (by exact q_lenQ) (by rfl) B.b_len (by decide +kernel) (pa_cons (pv 2) pa_nil)) (nomark _)) (pss_one (ps_set (i := 2) sc_law_names.nd rfl (by first | exact Or.inl rfl | exact Or.inr rfl) (pe_op op_cat (pv 2) (pe_lst (pa_cons pe_str (pa_cons pe_str (pa_cons pe_str (pa_cons pe_str (pa_cons pe_str (pa_cons pe_str pa_nil)))))))))) pss_nil)
        (pss_one (ps_ret (pe_slice (r := rSlL K) (by exact sl_list) (ac c_law_shuffled hr_law_shuffled (by rfl) (pa_cons (pv 0) (pa_cons (pv 2) pa_nil))) po_none (po_some (pv 1)))))))), ?_⟩
    obtain ⟨a, m, rfl, hb, m1, m7, k⟩ := h
    refine rd_at [some (.ref a), some (.int (m : Int)), none] rfl ?_
    walk_at "rd"
    intro l hl
    have s1 : Same H (upd H l (.lst (names8.map V.str))) := fun b o e => up_old hl e
    have g1 : upd H l (.lst (names8.map V.str)) l = some (.lst (names8.map V.str)) := upd_same
    have hl1 : upd H l (.lst [.str "a", .str "b", .str "c", .str "d", .str "e", .str "f", .str "g", .str "h"]) = upd H l (.lst (names8.map V.str)) := rfl
    rw [hl1]
    clear hl1
    generalize upd H l (.lst (names8.map V.str)) = H1 at s1 g1
    have b1 := bag_same s1 hb
    walk_at "rd"
    refine ⟨a, 3, rfl, b1, by decide, by decide, fun j H2 j0 j1 u2 b2 => ?_⟩
    have hl2 := u2 _ _ (bag_strs b1 g1) g1
    walk_at "rd"
    have u02 : But a H H2 := (same_but s1).trans u2
    -- what follows
    have rest : ∀ (L : List Str) (H3 : Hp), But a H H3 → 7 ≤ L.length → (L.Nodup ∧ ∀ z ∈ L, Nm z) → ∀ ys p H4, ys.Perm (L.map V.str) → But a H3 H4 → BagAt H4 a → H4 p = some (.lst ys) → rSlL K (.ref p) none (some (m : Int)) H4 Q := by
      intro L H3 u3 l4 ⟨nd, nm⟩ ys p H4 pm u4 b4 h4
      obtain ⟨zs, rfl, pz⟩ := strs_back pm
      refine rd_slL (SqL.of h4) fun r hr => ?_
      have cut : cutV (zs.map V.str) none (some (m : Int)) = (zs.take m).map V.str := by
        rw [List.map_take]
        exact cut_head _ m
      rw [cut]
      have s5 : Same H4 (upd H4 r (.lst ((zs.take m).map V.str))) := fun b o e => up_old hr e
      have lz := pz.length_eq
      exact k _ _ _ (by rw [List.length_take]; omega) ((pz.nodup_iff.mpr nd).sublist (List.take_sublist _ _)) (fun z hz => nm z (pz.mem_iff.mp (List.mem_of_mem_take hz))) ((u3.trans u4).trans (same_but s5)) (bag_same s5 b4) upd_same
    refine rd_ite (fun _ => ?_) (fun _ => ?_)
    · walk_at "rd"
      intro l2 hl2'
      have s3 : Same H2 (upd H2 l2 (.lst (names14.map V.str))) := fun b o e => up_old hl2' e
      have g3 : upd H2 l2 (.lst (names14.map V.str)) l2 = some (.lst (names14.map V.str)) := upd_same
      have hl3 : upd H2 l2 (.lst [.str "a", .str "aa", .str "ab", .str "b", .str "ba", .str "c", .str "mast", .str "p", .str "q", .str "y", .str "z", .str "zz", .str "zzz", .str "zzzz"]) = upd H2 l2 (.lst (names14.map V.str)) := rfl
      rw [hl3]
      clear hl3
      generalize upd H2 l2 (.lst (names14.map V.str)) = H3 at s3 g3
      walk_at "rd"
      refine rd_lenL (SqL.of g3) ?_
      walk_at "rd"
      refine rd_ite (fun h => absurd h (by simp only [List.length_map]; show ¬ (_ : Int) < _; first | (rw [show names14.length = 14 from rfl]; omega) | (rw [show names8.length = 8 from rfl]; omega))) (fun _ => ?_)
      walk_at "rd"
      refine ⟨a, l2, _, rfl, bag_same s3 b2, g3, (by decide), fun ys p H4 pm hp u4 b4 h4 => ?_⟩
      walk_at "rd"
      exact rest names14 H3 (u02.trans (same_but s3)) (by decide) names14_ok ys p H4 pm u4 b4 h4
    · walk_at "rd"
      refine rd_lenL (SqL.of hl2) ?_
      walk_at "rd"
      refine rd_ite (fun h => absurd h (by simp only [List.length_map]; show ¬ (_ : Int) < _; first | (rw [show names14.length = 14 from rfl]; omega) | (rw [show names8.length = 8 from rfl]; omega))) (fun _ => ?_)
      walk_at "rd"
      refine ⟨a, l, _, rfl, b2, hl2, (by decide), fun ys p H4 pm hp u4 b4 h4 => ?_⟩
      walk_at "rd"
      exact rest names8 H2 u02 (by decide) names8_ok ys p H4 pm u4 b4 h4
end
section
variable {P : Program} {w : World} {K : PySem.W.Frag} {mg : Str → Option Value} {base : Heap}
theorem ok_law_lot (B : Bi mg) {CFrame e0 : Addr} (FKFrame : FrmKFrame K mg CFrame e0) (c_law_some_of : CalA P w K mg base "_law_some_of" 2 ["_law_bag_here", "_law_items", "_law_size"] (spSomeOf)) (D : DefAt K mg "_law_lot" s_law_lot ["_law_bag_here", "_law_items"]) : CalA P w K mg base "_law_lot" 3 ["_law_bag_here", "_law_items"] (spLawLot) := by
  refine cala_of D sc_law_lot (fun vs H Q E h => ?_) (fun f cdv A outer s H vs Q E hr h => ?_)
  · obtain ⟨a, p, P, rfl, _⟩ := h; rfl
  · have hu := hr.units
    have hr_law_some_of := hr.mono (show 2 ≤ 2 by decide)
    skip
    refine ⟨_, (pss_one (ps_ret (pe_callTy (r := rTupOf K) (by exact q_tupOf) (by rfl) B.b_tuple (by decide +kernel) (pa_cons (ac c_law_some_of hr_law_some_of (by rfl) (pa_cons (pv 0) (pa_cons (pv 1) (pa_cons pe_int pa_nil)))) pa_nil)))), ?_⟩
    obtain ⟨a, p, P, rfl, hb, hp, npa, l8, q⟩ := h
    refine rd_at [some (.ref a), some (.ref p)] rfl ?_
    walk_at "rd"
    refine ⟨a, p, _, 2, rfl, hb, hp, npa, by rw [List.length_map]; omega, by decide, by decide, fun ys l H1 sub u b hl => ?_⟩
    obtain ⟨zs, subz, rfl⟩ := List.sublist_map_iff.mp sub
    walk_at "rd"
    refine ⟨l, _, rfl, Or.inl ⟨SqL.of hl, fun w hw => ?_⟩⟩
    have s : Same H1 (upd H1 w (.tup (zs.map V.str))) := fun c o e => up_old hw e
    exact q w _ zs (u.trans (same_but s)) (bag_same s b) upd_same subz
end
section
variable {P : Program} {w : World} {K : PySem.W.Frag} {mg : Str → Option Value} {base : Heap}
theorem ok_law_placing (B : Bi mg) {CFrame e0 : Addr} (FKFrame : FrmKFrame K mg CFrame e0) (c_law_spot : CalA P w K mg base "_law_spot" 2 ["_law_bag_here", "_law_space", "_law_spread"] (spLawSpot)) (D : DefAt K mg "_law_placing" s_law_placing ["_law_bag_here", "_law_pins", "_law_space", "_law_spread"]) : CalA P w K mg base "_law_placing" 3 ["_law_bag_here", "_law_pins", "_law_space", "_law_spread"] (spLawPlac K) := by
  refine cala_of D sc_law_placing (fun vs H Q E h => ?_) (fun f cdv A outer s H vs Q E hr h => ?_)
  · obtain ⟨a, p, P, n, rfl, _⟩ := h; rfl
  · have hu := hr.units
    have hr_law_spot := hr.mono (show 2 ≤ 2 by decide)
    skip
    refine ⟨_, (pss_one (ps_ret (pe_callTy (call_dictP rfl) (by rfl) B.b_dict (by decide +kernel) (pa_cons (pe_lc (own := [("_law_pin", 4)]) (g := gName 4) (tt := tYes) (by rfl) sc_law_placing.nd (pi_list (pe_callB (r := rSortTG K) (by exact (cr_sortTG hu)) (by rfl) B.b_sorted (by decide +kernel) (pa_cons (pv 1) pa_nil))) (blkOk_by (own := [("_law_pin", 4)]) (N := ["_law_bag_here", "_law_pins", "_law_space", "_law_spread", "_law_pin"]) (sc := defScope s_law_placing) (by decide +kernel)) (fun _ _ _ _ _ => (pg_name (i := 4) sc_law_placing.nd rfl (by first | exact Or.inl rfl | exact Or.inr rfl))) (fun _ _ _ _ _ => pts_nil) (fun _ _ _ _ _ => (pe_tup (pa_cons (pv 4) (pa_cons (ac c_law_spot hr_law_spot (by rfl) (pa_cons (pv 0) (pa_cons (pv 2) (pa_cons (pv 3) pa_nil)))) pa_nil))))) pa_nil)))), ?_⟩
    obtain ⟨a, p, P, n, rfl, hb, hp, ok, one, n1, n2, k⟩ := h
    refine rd_at [some (.ref a), some (.ref p), some (.int 2), some (.int n), none] rfl ?_
    have few := ok.few
    walk_at "rd"
    refine rd_sortTZ (SqT.of hp) ok.asc fun o no => ?_
    have s1 : Same H (upd H o (.lst (P.map V.str))) := fun b u e => up_old no e
    have g1 : upd H o (.lst (P.map V.str)) o = some (.lst (P.map V.str)) := upd_same
    have noa := bag_none hb no
    have hb1 := bag_same s1 hb
    generalize upd H o (.lst (P.map V.str)) = H1 at s1 g1 hb1
    refine ⟨o, rfl, ⟨_, SqL.of g1⟩, fun E hE => ?_⟩
    refine lc_namesB (wk_list (xs := P.map V.str) .non) (a := a) (zs := P) (by rw [List.length_map]) (fun j z e => ?_) (by rw [List.length_map]; omega) hE hb1 (fun H' u => SqL.of (u _ _ noa g1)) (Pr fun _ s => Bs 110 s) Pr.mono (fun z mz H' u g R kk => ?_) (fun rs H' rel u g hl => ?_)
    · rw [List.getD_eq_getElem?_getD, List.getElem?_map, e]; rfl
    · walk_at "rd"
      refine ⟨a, n, rfl, g, n1, n2, fun t s H2 bs b2 g2 nt ht => ?_⟩
      walk_at "rd"
      intro q nq
      have s3 : Same H2 (upd H2 q (.tup [.str z, .ref t])) := fun c o e => up_old nq e
      exact kk q _ (b2.trans (same_but s3)) (bag_same s3 g2) ⟨t, s, upd_same, bs, s3 _ _ ht⟩
    · obtain ⟨fD, f, pp, all⟩ := pairs_back (K := K) rel ok.asc.nodup
      walk_at "rd"
      refine ⟨E, rs, _, rfl, SqL.of hl, pp, fun d nd => ?_⟩
      rw [merge_nil ok.asc.nodup]
      have s3 : Same H' (upd H' d (dKf P fD)) := fun c o e => up_old nd e
      obtain ⟨a1, a2⟩ := plc_made (K := K) (H := upd H' d (dKf P fD)) (d := d) (P := P) (fD := fD) (g := f) upd_same (fun z hz => by
        obtain ⟨p, e1, e2⟩ := (all z hz).2
        exact ⟨p, e1, s3 _ _ e2⟩)
      exact k d f _ ⟨ok.asc.nodup, ok.nm, one, few, fun z hz => (all z hz).1⟩ (((same_but s1).trans u).free (bag_none g nd) nd) ((same_but s1).trans (u.trans (same_but s3))) (bag_same s3 g) a1 a2
end
section
variable {P : Program} {w : World} {K : PySem.W.Frag} {mg : Str → Option Value} {base : Heap}
theorem okis_pair (B : Bi mg) {CFrame e0 : Addr} (FKFrame : FrmKFrame K mg CFrame e0) (cis_lot : CalA P w K mg base "is_lot" 3 ["value"] (spLot K)) (D : DefAt K mg "is_pair" sis_pair ["value"]) : CalA P w K mg base "is_pair" 4 ["value"] (spPair) := by
  refine cala_of D scis_pair (fun vs H Q E h => ?_) (fun f cdv A outer s H vs Q E hr h => ?_)
  · obtain ⟨p, k, rfl, _⟩ := h; rfl
  · have hu := hr.units
    have hris_lot := hr.mono (show 3 ≤ 3 by decide)
    skip
    refine ⟨_, (pss_one (ps_ret (pe_and (ac cis_lot hris_lot (by rfl) (pa_cons (pv 0) pa_nil)) (pe_one (pe_cmpR op_eq (pe_callB (r := rLenQ K) (by exact q_lenQ) (by rfl) B.b_len (by decide +kernel) (pa_cons (pv 0) pa_nil)) pe_int (nomark _)))))), ?_⟩
    obtain ⟨p, k, rfl, hp, ok, q⟩ := h
    refine rd_at [some (.ref p)] rfl ?_
    walk_at "rd"
    have ok2 : PinsOk k := by
      obtain ⟨x, y, rfl, hx, hy, lt⟩ := id ok
      refine ⟨List.pairwise_cons.mpr ⟨fun d hd => ?_, List.pairwise_singleton _ _⟩, fun z hz => ?_, (by show 2 ≤ 8; decide)⟩
      · rw [List.mem_singleton.mp hd, W.dataLt_str]
        exact decide_eq_true lt
      · rcases List.mem_cons.mp hz with e | e
        · rw [e]; exact hx
        · rw [List.mem_singleton.mp e]; exact hy
    refine ⟨p, _, rfl, PT.q hp, ok2, fun H1 s1 => ?_⟩
    walk_at "rd"
    obtain ⟨x, y, rfl, hx, hy, lt⟩ := ok
    refine rd_lenT (SqT.of (s1 _ _ hp)) ?_
    walk_at "rd"
    exact q _ s1
end
section
variable {P : Program} {w : World} {K : PySem.W.Frag} {mg : Str → Option Value} {base : Heap}
theorem okis_lot_of (B : Bi mg) {CFrame e0 : Addr} (FKFrame : FrmKFrame K mg CFrame e0) (cis_lot : CalA P w K mg base "is_lot" 3 ["value"] (spLot K)) (D : DefAt K mg "is_lot_of" sis_lot_of ["pins", "value"]) : CalA P w K mg base "is_lot_of" 4 ["pins", "value"] (spLotOf K) := by
  refine cala_of D scis_lot_of (fun vs H Q E h => ?_) (fun f cdv A outer s H vs Q E hr h => ?_)
  · obtain ⟨p, l, P, L, rfl, _⟩ := h; rfl
  · have hu := hr.units
    have hris_lot := hr.mono (show 3 ≤ 3 by decide)
    skip
    refine ⟨_, (pss_one (ps_ret (pe_and (ac cis_lot hris_lot (by rfl) (pa_cons (pv 1) pa_nil)) (pe_one (pe_callB (r := rAll K) (by exact (cr_all rfl)) (by rfl) B.b_all (by decide +kernel) (pa_cons (pe_lc (own := [("pin", 2)]) (g := gName 2) (tt := tYes) (by rfl) scis_lot_of.nd (pi_tup (pv 1)) (blkOk_by (own := [("pin", 2)]) (N := ["pins", "value", "pin"]) (sc := defScope sis_lot_of) (by decide +kernel)) (fun _ _ _ _ _ => (pg_name (i := 2) scis_lot_of.nd rfl (by first | exact Or.inl rfl | exact Or.inr rfl))) (fun _ _ _ _ _ => pts_nil) (fun _ _ _ _ _ => (pe_cmpR (r := rIn K false) (by exact op_in_seq) (pv 2) (pv 0) (by rfl)))) pa_nil)))))), ?_⟩
    obtain ⟨p, l, P, L, rfl, hp, fewP, hl, okL, sub, q⟩ := h
    refine rd_at [some (.ref p), some (.ref l), none] rfl ?_
    have fewL := okL.few
    walk_at "rd"
    refine ⟨l, _, rfl, hl, okL, fun H1 s1 => ?_⟩
    walk_at "rd"
    have hl1 := hl.same s1
    refine ⟨⟨_, hl1.1⟩, ?_⟩
    intro E hE
    refine lc_same (wk_tup (xs := L.map V.str) .non) (b := fun _ => true) (f := fun j => .bl true) (by rw [List.length_map]; omega) hE (fun H' hs => SqT.same' hs hl1.1) (fun j _ H' _ R kk => rd_yes (kk H' (Same.refl _))) ?_ ?_
    · intro j hj _ H' hs R kk
      rw [List.length_map] at hj
      rw [getD_strs hj]
      walk_at "rd"
      refine rd_inZ (.inl (SqL.of ((s1.trans hs) _ _ hp))) ?_
      rw [decide_eq_true (sub _ (getD_mem hj))]
      exact kk _ (Same.refl _)
    · intro H' hs hl
      rw [filt_yes, show (fun j : Nat => V.bl true) = V.bl ∘ (fun _ => true) from rfl, ← List.map_map] at hl
      walk_at "rd"
      refine rd_all (SqL.of hl) ?_
      rw [yes_all]
      exact q _ (s1.trans hs)
end
section
variable {P : Program} {w : World} {K : PySem.W.Frag} {mg : Str → Option Value} {base : Heap}
theorem okis_spot (B : Bi mg) {CFrame e0 : Addr} (FKFrame : FrmKFrame K mg CFrame e0) (cis_integer : CalA P w K mg base "is_integer" 3 ["value"] (spInt)) (D : DefAt K mg "is_spot" sis_spot ["value", "space"]) : CalA P w K mg base "is_spot" 4 ["value", "space"] (spSpot K) := by
  refine cala_of D scis_spot (fun vs H Q E h => ?_) (fun f cdv A outer s H vs Q E hr h => ?_)
  · obtain ⟨p, a, m, n, rfl, _⟩ := h; rfl
  · have hu := hr.units
    have hris_integer := hr.mono (show 3 ≤ 3 by decide)
    skip
    refine ⟨_, (pss_cons (ps_if (PW.pt (pw_or (pt_not (pt_val (pe_callB (r := rIsi K) (by exact call_isi) (by rfl) B.b_isinstance (by decide +kernel) (pa_cons (pv 0) (pa_cons (pe_bltn (v := .ty "tuple") (u := .type "tuple") (by rfl) B.b_tuple (by decide +kernel) rfl) pa_nil))))) (pw_or1 (pt_cmpR op_ne (pe_callB (r := rLenQ K) (by exact q_lenQ) (by rfl) B.b_len (by decide +kernel) (pa_cons (pv 0) pa_nil)) (pv 1) (nomark _))))) (pss_one (ps_ret pe_bl)) pss_nil)
        (pss_one (ps_ret (pe_callB (r := rAll K) (by exact (cr_all rfl)) (by rfl) B.b_all (by decide +kernel) (pa_cons (pe_lc (own := [("number", 2)]) (g := gName 2) (tt := tYes) (by rfl) scis_spot.nd (pi_tup (pv 0)) (blkOk_by (own := [("number", 2)]) (N := ["value", "space", "number"]) (sc := defScope sis_spot) (by decide +kernel)) (fun _ _ _ _ _ => (pg_name (i := 2) scis_spot.nd rfl (by first | exact Or.inl rfl | exact Or.inr rfl))) (fun _ _ _ _ _ => pts_nil) (fun _ _ _ _ _ => (ac cis_integer hris_integer (by rfl) (pa_cons (pv 2) pa_nil)))) pa_nil))))), ?_⟩
    obtain ⟨p, a, m, n, rfl, hm, ⟨hp, ty⟩, ba, hn, k⟩ := h
    refine rd_at [some (.ref p), some (.int m), none] rfl ?_
    walk_at "rd"
    refine rd_isi (b := true) ty.x (show kitB "tuple" "tuple" = some true by decide +kernel) ?_
    walk_at "rd"
    refine rd_ifb (fun z => nomatch z) (fun _ => ?_)
    walk_at "rd"
    refine rd_lenT hp ?_
    walk_at "rd"
    rcases hm with rfl | rfl
    · refine rd_iteN (fun _ => ?_) (fun h2 => absurd h2 (show ¬ ((2 : Nat) : Int) = (1 : Nat) by decide))
      walk_at "rd"
      exact k _ (Same.refl _)
    refine rd_iteN (fun h2 => absurd rfl h2) (fun _ => ?_)
    walk_at "rd"
    refine ⟨⟨_, hp⟩, fun E hE => ?_⟩
    refine lc_same (wk_tup (xs := sv [a.1, a.2]) .non) (b := fun _ => true) (f := fun j => .bl true) (show 2 ≤ 1000 by decide) hE (fun H' hs => SqT.same' hs hp) (fun j _ H' _ R kk => rd_yes (kk H' (Same.refl _))) ?_ ?_
    · intro j hj _ H' hs R kk
      rcases two_j hj with e | e
      · subst e
        rw [sv0]
        walk_at "rd"
        exact ⟨_, rfl, ba.1.mono hn, kk _ (Same.refl _)⟩
      · subst e
        rw [sv1]
        walk_at "rd"
        exact ⟨_, rfl, ba.2.mono hn, kk _ (Same.refl _)⟩
    · intro H' hs hl
      rw [filt_yes, show (fun j : Nat => V.bl true) = V.bl ∘ (fun _ => true) from rfl, ← List.map_map] at hl
      walk_at "rd"
      refine rd_all (SqL.of hl) ?_
      rw [yes_all]
      exact k _ hs
end
section
variable {P : Program} {w : World} {K : PySem.W.Frag} {mg : Str → Option Value} {base : Heap}
theorem ok_are_rods (B : Bi mg) {CFrame e0 : Addr} (FKFrame : FrmKFrame K mg CFrame e0) (cis_pair : CalA P w K mg base "is_pair" 4 ["value"] (spPair)) (crods_within : CalA P w K mg base "rods_within" 1 ["rods", "lot"] (spWithinR K)) (D : DefAt K mg "_are_rods" s_are_rods ["pins", "value"]) : CalA P w K mg base "_are_rods" 5 ["pins", "value"] (spRods K) := by
  refine cala_of D sc_are_rods (fun vs H Q E h => ?_) (fun f cdv A outer s H vs Q E hr h => ?_)
  · obtain ⟨p, r, P, R, rfl, _⟩ := h; rfl
  · have hu := hr.units
    have hris_pair := hr.mono (show 4 ≤ 4 by decide)
    have hrrods_within := hr.mono (show 1 ≤ 4 by decide)
    skip
    refine ⟨_, (pss_cons (ps_if (PW.pt (pw_or (pt_not (pt_val (pe_callB (r := rIsi K) (by exact call_isi) (by rfl) B.b_isinstance (by decide +kernel) (pa_cons (pv 1) (pa_cons (pe_bltn (v := .ty "tuple") (u := .type "tuple") (by rfl) B.b_tuple (by decide +kernel) rfl) pa_nil))))) (pw_or1 (pt_not (pt_val (pe_callB (r := rAll K) (by exact (cr_all rfl)) (by rfl) B.b_all (by decide +kernel) (pa_cons (pe_lc (own := [("rod", 2)]) (g := gName 2) (tt := tYes) (by rfl) sc_are_rods.nd (pi_tup (pv 1)) (blkOk_by (own := [("rod", 2)]) (N := ["pins", "value", "rod"]) (sc := defScope s_are_rods) (by decide +kernel)) (fun _ _ _ _ _ => (pg_name (i := 2) sc_are_rods.nd rfl (by first | exact Or.inl rfl | exact Or.inr rfl))) (fun _ _ _ _ _ => pts_nil) (fun _ _ _ _ _ => (ac cis_pair hris_pair (by rfl) (pa_cons (pv 2) pa_nil)))) pa_nil))))))) (pss_one (ps_ret pe_bl)) pss_nil)
        (pss_cons (ps_if (pt_cmpR op_lt (pe_callB (r := rLenQ K) (by exact q_lenQ) (by rfl) B.b_len (by decide +kernel) (pa_cons (ac crods_within hrrods_within (by rfl) (pa_cons (pv 1) (pa_cons (pv 0) pa_nil))) pa_nil)) (pe_callB (r := rLenQ K) (by exact q_lenQ) (by rfl) B.b_len (by decide +kernel) (pa_cons (pv 1) pa_nil)) (nomark _)) (pss_one (ps_ret pe_bl)) pss_nil)
        (pss_one (ps_ret (pe_cmpR op_eq (pe_unl hu rfl (by rfl) B.b_len (by rfl) B.b_set (pv 1)) (pe_callB (r := rLenQ K) (by exact q_lenQ) (by rfl) B.b_len (by decide +kernel) (pa_cons (pv 1) pa_nil)) (nomark _)))))), ?_⟩
    obtain ⟨p, r, P, R, rfl, hp, hr, ok, q⟩ := h
    refine rd_at [some (.ref p), some (.ref r), none] rfl ?_
    have few := ok.few
    obtain ⟨rs, h1, Rr, ty⟩ := id hr
    have lr := Rr.1
    walk_at "rd"
    refine rd_isi (b := true) ty.x (show kitB "tuple" "tuple" = some true by decide +kernel) ?_
    walk_at "rd"
    refine rd_ifb (fun z => nomatch z) (fun _ => ?_)
    walk_at "rd"
    refine ⟨⟨_, h1⟩, fun E hE => ?_⟩
    have later : ∀ {H'}, Same H H' → LtQ K H' r R := fun {H'} s => ⟨rs, sq_same h1 s, Rr.mono fun _ _ p => p.same s, ty.same s⟩
    refine lc_same (wk_tup (xs := rs.map V.ref) .non) (b := fun _ => true) (f := fun _ => .bl true) (by rw [List.length_map]; omega) hE (fun H' s => sq_same h1 s) (fun j _ H' _ Rc kk => rd_yes (kk H' (Same.refl _))) ?_ ?_
    · intro j hj _ H' s Rc kk
      rw [List.length_map] at hj
      have er : (rs.map V.ref).getD j .non = .ref rs[j] := by rw [List.getD_eq_getElem?_getD, List.getElem?_map, List.getElem?_eq_getElem hj]; rfl
      rw [er]
      have lj : j < R.length := by omega
      have pj := Rr.2 j _ _ (List.getElem?_eq_getElem hj) (List.getElem?_eq_getElem lj)
      walk_at "rd"
      exact ⟨_, _, rfl, pj.same s, ok.ok (List.getElem_mem lj), fun H2 s2 => kk _ s2⟩
    intro H2 s2 hl2
    rw [filt_yes, show (fun j : Nat => V.bl true) = V.bl ∘ (fun _ => true) from rfl, ← List.map_map] at hl2
    walk_at "rd"
    refine rd_all (SqL.of hl2) ?_
    rw [yes_all]
    walk_at "rd"
    refine rd_ifb (fun z => nomatch z) (fun _ => ?_)
    walk_at "rd"
    refine ⟨r, p, R, P, rfl, later s2, hp.same s2, ok, fun w H3 ys s3 hw ly => ?_⟩
    have s23 := s2.trans s3
    walk_at "rd"
    refine rd_lenT (SqT.of hw) ?_
    walk_at "rd"
    refine rd_lenT (sq_same h1 s23) ?_
    rw [List.length_map]
    walk_at "rd"
    refine rd_ite (fun h3 => absurd h3 (by omega)) (fun _ => ?_)
    walk_at "rd"
    refine rd_unlP rfl (sq_same h1 s23) (Rr.mono fun _ _ p => p.same s23) ok.asc.nodup (by omega) ?_
    walk_at "rd"
    refine rd_lenT (sq_same h1 s23) ?_
    rw [List.length_map]
    rw [lr]
    walk_at "rd"
    rw [decide_eq_true rfl]
    exact q _ s23
end
section
variable {P : Program} {w : World} {K : PySem.W.Frag} {mg : Str → Option Value} {base : Heap}
theorem okare_spots (B : Bi mg) {CFrame e0 : Addr} (FKFrame : FrmKFrame K mg CFrame e0) (cis_spot : CalA P w K mg base "is_spot" 4 ["value", "space"] (spSpot K)) (D : DefAt K mg "are_spots" sare_spots ["pins", "value", "space"]) : CalA P w K mg base "are_spots" 5 ["pins", "value", "space"] (spSpots K) := by
  refine cala_of D scare_spots (fun vs H Q E h => ?_) (fun f cdv A outer s H vs Q E hr h => ?_)
  · obtain ⟨l, d, ps, ks, f, m, n, rfl, _⟩ := h; rfl
  · have hu := hr.units
    have hris_spot := hr.mono (show 4 ≤ 4 by decide)
    skip
    refine ⟨_, (pss_cons (ps_if (PW.pt (pw_or (pt_not (pt_val (pe_callB (r := rIsi K) (by exact call_isi) (by rfl) B.b_isinstance (by decide +kernel) (pa_cons (pv 1) (pa_cons (pe_bltn (v := .ty "dict") (u := .type "dict") (by rfl) B.b_dict (by decide +kernel) rfl) pa_nil))))) (pw_or1 (pt_cmpR op_ne (pe_callB call_lenD (by rfl) B.b_len (by decide +kernel) (pa_cons (pv 1) pa_nil)) (pe_callB (r := rLenQ K) (by exact q_lenQ) (by rfl) B.b_len (by decide +kernel) (pa_cons (pv 0) pa_nil)) (nomark _))))) (pss_one (ps_ret pe_bl)) pss_nil)
        (pss_one (ps_ret (pe_callB (r := rAll K) (by exact (cr_all rfl)) (by rfl) B.b_all (by decide +kernel) (pa_cons (pe_lc (own := [("pin", 3)]) (g := gName 3) (tt := tYes) (by rfl) scare_spots.nd (pi_seqK (K := K) rfl (pv 0)) (blkOk_by (own := [("pin", 3)]) (N := ["pins", "value", "space", "pin"]) (sc := defScope sare_spots) (by decide +kernel)) (fun _ _ _ _ _ => (pg_name (i := 3) scare_spots.nd rfl (by first | exact Or.inl rfl | exact Or.inr rfl))) (fun _ _ _ _ _ => pts_nil) (fun _ _ _ _ _ => (pe_and (pe_cmp (pc_din (units1 hu) (pv 3) (pv 1))) (pe_one (ac cis_spot hris_spot (by rfl) (pa_cons (pe_dget (units1 hu) (pv 1) (pv 3) (fun _ _ => rfl)) (pa_cons (pv 2) pa_nil))))))) pa_nil))))), ?_⟩
    obtain ⟨l, d, ps, ks, f, m, n, rfl, hm, hl, len, sub, hd, ty, ok, hn, k⟩ := h
    refine rd_at [some (.ref l), some (.ref d), some (.int m), none] rfl ?_
    obtain ⟨kvs, e1, e2, _⟩ := hd.dict
    have few := ok.few
    have one := ok.one
    walk_at "rd"
    refine rd_isi (b := true) (.base (.dK e1)) (show kitB "dict" "dict" = some true by decide +kernel) ?_
    walk_at "rd"
    refine rd_ifb (fun z => nomatch z) (fun _ => ?_)
    walk_at "rd"
    refine ⟨_, _, rfl, e1, ?_⟩
    walk_at "rd"
    have hl' : SqL K H l (ps.map V.str) ∨ SqT K H l (ps.map V.str) := hl.elim (fun h => .inl (SqL.of h)) fun h => .inr (SqT.of h)
    refine ⟨_, _, rfl, hl', ?_⟩
    rw [List.length_map]
    walk_at "rd"
    refine rd_iteN (fun h2 => absurd (by omega) h2) (fun _ => ?_)
    walk_at "rd"
    rcases hl' with hl | hl
    · refine .inl ⟨⟨_, hl⟩, fun E hE => ?_⟩
      refine lc_same (wk_list (xs := ps.map V.str) .non) (b := fun _ => true) (f := fun j => .bl (decide (m = 2))) (by rw [List.length_map]; omega) hE (fun H' hs => sql_same hl hs) (fun j _ H' _ R kk => rd_yes (kk H' (Same.refl _))) ?_ ?_
      · intro j hj _ H' hs R kk
        rw [List.length_map] at hj
        have mj := sub _ (List.getElem_mem hj)
        rw [getD_ofS hj]
        walk_at "rd"
        refine rd_din ?_
        walk_at "rd"
        refine plc_in (hd.same hs) mj fun v => ?_
        walk_at "rd"
        dsimp only [Option.isSome]
        refine rd_ifb (fun _ => ?_) (fun z => nomatch z)
        walk_at "rd"
        refine rd_dget ?_
        walk_at "rd"
        refine plt_get (hd.same hs) (PlT.same hs kvs e1 ty) mj fun p hp tp => ?_
        walk_at "rd"
        exact ⟨p, f (ps[j]), m, n, rfl, hm, ⟨hp, tp⟩, ok.bd _ mj, hn, fun H2 s2 => kk _ s2⟩
      · intro H' hs hl2
        rw [filt_yes, show (fun j : Nat => V.bl (decide (m = 2))) = V.bl ∘ (fun _ => decide (m = 2)) from rfl, ← List.map_map] at hl2
        walk_at "rd"
        refine rd_all (SqL.of hl2) ?_
        rw [List.length_map, all_same (by omega)]
        exact k _ hs
    · refine .inr ⟨⟨_, hl⟩, fun E hE => ?_⟩
      refine lc_same (wk_tup (xs := ps.map V.str) .non) (b := fun _ => true) (f := fun j => .bl (decide (m = 2))) (by rw [List.length_map]; omega) hE (fun H' hs => SqT.same' hs hl) (fun j _ H' _ R kk => rd_yes (kk H' (Same.refl _))) ?_ ?_
      · intro j hj _ H' hs R kk
        rw [List.length_map] at hj
        have mj := sub _ (List.getElem_mem hj)
        rw [getD_ofS hj]
        walk_at "rd"
        refine rd_din ?_
        walk_at "rd"
        refine plc_in (hd.same hs) mj fun v => ?_
        walk_at "rd"
        dsimp only [Option.isSome]
        refine rd_ifb (fun _ => ?_) (fun z => nomatch z)
        walk_at "rd"
        refine rd_dget ?_
        walk_at "rd"
        refine plt_get (hd.same hs) (PlT.same hs kvs e1 ty) mj fun p hp tp => ?_
        walk_at "rd"
        exact ⟨p, f (ps[j]), m, n, rfl, hm, ⟨hp, tp⟩, ok.bd _ mj, hn, fun H2 s2 => kk _ s2⟩
      · intro H' hs hl2
        rw [filt_yes, show (fun j : Nat => V.bl (decide (m = 2))) = V.bl ∘ (fun _ => decide (m = 2)) from rfl, ← List.map_map] at hl2
        walk_at "rd"
        refine rd_all (SqL.of hl2) ?_
        rw [List.length_map, all_same (by omega)]
        exact k _ hs
end
section
variable {P : Program} {w : World} {K : PySem.W.Frag} {mg : Str → Option Value} {base : Heap}
theorem okFrame___init__ (B : Bi mg) {CFrame e0 : Addr} (FKFrame : FrmKFrame K mg CFrame e0) (c_are_pins : CalA P w K mg base "_are_pins" 3 ["value"] (spPins)) (c_are_rods : CalA P w K mg base "_are_rods" 5 ["pins", "value"] (spRods K)) (D : MakAt K mg CFrame "Frame" "Frame.__init__" sFrame___init__ ["self", "pins", "rods"] [[], [.ref e0]]) : MakA P w K mg base CFrame "Frame" 6 ["self", "pins", "rods"] [[], [.ref e0]] (spInit K CFrame) := by
  refine mak_of D scFrame___init__ (fun vs H Q E h => ?_) (fun f cdv A outer s H vs Q E hr h => ?_)
  · obtain ⟨x, dx, p, r, P, R, rfl, _⟩ := h; rfl
  · have hu := hr.units
    have hr_are_pins := hr.mono (show 3 ≤ 5 by decide)
    have hr_are_rods := hr.mono (show 5 ≤ 5 by decide)
    skip
    refine ⟨_, (pss_cons (ps_if (pt_not (pt_val (ac c_are_pins hr_are_pins (by rfl) (pa_cons (pv 1) pa_nil)))) (pss_one L2.ps_never) pss_nil)
        (pss_cons (ps_if (pt_not (pt_val (ac c_are_rods hr_are_rods (by rfl) (pa_cons (pv 1) (pa_cons (pv 2) pa_nil))))) (pss_one L2.ps_never) pss_nil)
        (pss_cons (ps_fld (pv 0) (pe_callTy (r := rTupOf K) (by exact q_tupOf) (by rfl) B.b_tuple (by decide +kernel) (pa_cons (pe_callB (r := rSortTG K) (by exact (cr_sortTG hu)) (by rfl) B.b_sorted (by decide +kernel) (pa_cons (pv 1) pa_nil)) pa_nil)) rfl)
        (pss_one (ps_fld (pv 0) (pe_callTy (r := rTupOf K) (by exact q_tupOf) (by rfl) B.b_tuple (by decide +kernel) (pa_cons (pe_callB (r := rSortTG K) (by exact (cr_sortTG hu)) (by rfl) B.b_sorted (by decide +kernel) (pa_cons (pv 2) pa_nil)) pa_nil)) rfl))))), ?_⟩
    obtain ⟨x, dx, p, r, P, R, rfl, hx, hp, hr, ok, n1, q⟩ := h
    refine rd_at [some (.ref x), some (.ref p), some (.ref r)] rfl ?_
    walk_at "rd"
    refine ⟨p, P, rfl, hp, ok.pins, n1, fun H1 s1 => ?_⟩
    have hr1 := LtQ.same s1 hr
    walk_at "rd"
    refine rd_ifb (fun z => nomatch z) (fun _ => ?_)
    walk_at "rd"
    refine ⟨p, r, P, R, rfl, hp.same s1, hr1, ok, fun H2 s2 => ?_⟩
    have s12 := s1.trans s2
    walk_at "rd"
    refine rd_ifb (fun z => nomatch z) (fun _ => ?_)
    walk_at "rd"
    refine rd_sFld ?_
    walk_at "rd"
    refine rd_sortTZ (SqT.of (hp.same s12)) ok.pins.asc fun l hl => ?_
    have s3 : Same H2 (upd H2 l (.lst (P.map V.str))) := fun b o e => up_old hl e
    have g3 : upd H2 l (.lst (P.map V.str)) l = some (.lst (P.map V.str)) := upd_same
    generalize upd H2 l (.lst (P.map V.str)) = H3 at s3 g3
    walk_at "rd"
    refine ⟨l, _, rfl, Or.inl ⟨SqL.of g3, fun t ht => ?_⟩⟩
    have s4 : Same H3 (upd H3 t (.tup (P.map V.str))) := fun b o e => up_old ht e
    have g4 : Lay.PT (upd H3 t (.tup (P.map V.str))) t P := upd_same
    generalize upd H3 t (.tup (P.map V.str)) = H4 at s4 g4
    have s04 := s12.trans (s3.trans s4)
    refine ⟨.ref x, rfl, x, CFrame, dx, [], rfl, s04 _ _ hx, FKFrame.cl, FKFrame.n_pins, (by show 0 < 1000; decide), ?_⟩
    rw [put_pins]
    have nx : ∀ (b : Addr) (o : HO), H4 b = some o → b ≠ x → upd H4 x (.ins CFrame dx [("_pins", .ref t)]) b = some o := fun b o e n => up_oth n e
    have hx4 : upd H4 x (.ins CFrame dx [("_pins", .ref t)]) x = some (.ins CFrame dx [("_pins", .ref t)]) := upd_same
    have htx : t ≠ x := fun e => by have z := s04 _ _ hx; rw [← e, show H4 t = some (.tup (P.map V.str)) from g4] at z; cases z
    have g5 : Lay.PT (upd H4 x (.ins CFrame dx [("_pins", .ref t)])) t P := nx _ _ g4 htx
    have notx : ∀ (b : Addr) (xs : List V), H b = some (.tup xs) → b ≠ x := fun b xs e n => by rw [n, hx] at e; cases e
    obtain ⟨rs, h1, Rr, _⟩ := id hr
    have R5 : Rel (Lay.PT (upd H4 x (.ins CFrame dx [("_pins", .ref t)]))) rs R := Rr.mono fun _ _ p => nx _ _ (s04 _ _ p) (notx _ _ p)
    have h5 : SqT K (upd H4 x (.ins CFrame dx [("_pins", .ref t)])) r (rs.map V.ref) := by
      rcases h1 with (h | ⟨o, h⟩) | h
      · exact .inl (.inl (nx _ _ (s04 _ _ h) (notx _ _ h)))
      · exact .inl (.inr ⟨o, nx _ _ (s04 _ _ h) (fun n => by rw [n, hx] at h; cases h)⟩)
      · exact .inr h
    have b5 : ∀ b o, b ≠ x → H b = some o → upd H4 x (.ins CFrame dx [("_pins", .ref t)]) b = some o := fun b o n e => nx _ _ (s04 _ _ e) n
    generalize upd H4 x (.ins CFrame dx [("_pins", .ref t)]) = H5 at hx4 g5 R5 h5 b5
    dsimp only
    refine rd_sFld ?_
    walk_at "rd"
    refine rd_sortTP h5 R5 ok.asc fun l2 hl2 => ?_
    have s6 : Same H5 (upd H5 l2 (.lst (rs.map V.ref))) := fun b o e => up_old hl2 e
    have g6 : upd H5 l2 (.lst (rs.map V.ref)) l2 = some (.lst (rs.map V.ref)) := upd_same
    generalize upd H5 l2 (.lst (rs.map V.ref)) = H6 at s6 g6
    walk_at "rd"
    refine ⟨l2, _, rfl, Or.inl ⟨SqL.of g6, fun w hw => ?_⟩⟩
    have s7 : Same H6 (upd H6 w (.tup (rs.map V.ref))) := fun b o e => up_old hw e
    have g7 : upd H6 w (.tup (rs.map V.ref)) w = some (.tup (rs.map V.ref)) := upd_same
    generalize upd H6 w (.tup (rs.map V.ref)) = H7 at s7 g7
    have s57 := s6.trans s7
    refine ⟨.ref x, rfl, x, CFrame, dx, _, rfl, s57 _ _ hx4, FKFrame.cl, FKFrame.n_rods, (by show 1 < 1000; decide), ?_⟩
    rw [put_rods]
    have hx7 := s57 _ _ hx4
    have out : ∀ (b : Addr) (xs : List V), H7 b = some (.tup xs) → upd H7 x (.ins CFrame dx [("_pins", .ref t), ("_rods", .ref w)]) b = some (.tup xs) := fun b xs e => up_oth (fun n => by rw [n, hx7] at e; cases e) e
    refine q _ ⟨dx, t, w, upd_same, out _ _ (s57 _ _ g5), rs, out _ _ g7, R5.mono fun _ _ p => out _ _ (s57 _ _ p)⟩ fun b o n e => up_oth n (s57 _ _ (b5 b o n e))
end
section
variable {P : Program} {w : World} {K : PySem.W.Frag} {mg : Str → Option Value} {base : Heap}
theorem okcheck_placing (B : Bi mg) {CFrame e0 : Addr} (FKFrame : FrmKFrame K mg CFrame e0) (cFrame_pins : PrpA P w K mg base CFrame "pins" 1 (getSp CFrame "_pins")) (care_spots : CalA P w K mg base "are_spots" 5 ["pins", "value", "space"] (spSpots K)) (D : DefAt K mg "check_placing" scheck_placing ["frame", "placing"]) : CalA P w K mg base "check_placing" 6 ["frame", "placing"] (spChPlac K CFrame) := by
  refine cala_of D sccheck_placing (fun vs H Q E h => ?_) (fun f cdv A outer s H vs Q E hr h => ?_)
  · obtain ⟨a, d, P, R, f, n, rfl, _⟩ := h; rfl
  · have hu := hr.units
    have hrFrame_pins := hr.mono (show 2 ≤ 5 by decide)
    have hrare_spots := hr.mono (show 5 ≤ 5 by decide)
    skip
    refine ⟨_, (pss_one (ps_if (PW.pt (pw_and (pt_not (pt_val (ac care_spots hrare_spots (by rfl) (pa_cons (ppc FKFrame.cl cFrame_pins hrFrame_pins (pv 0)) (pa_cons (pv 1) (pa_cons pe_int pa_nil)))))) (pw_and1 (pt_not (pt_val (ac care_spots hrare_spots (by rfl) (pa_cons (ppc FKFrame.cl cFrame_pins hrFrame_pins (pv 0)) (pa_cons (pv 1) (pa_cons pe_int pa_nil))))))))) (pss_one L2.ps_never) pss_nil)), ?_⟩
    obtain ⟨a, d, P, R, f, n, rfl, fr, hd, ty, ok, hn, k⟩ := h
    refine rd_at [some (.ref a), some (.ref d)] rfl ?_
    obtain ⟨kvs, e1, _⟩ := hd.dict
    obtain ⟨dx, p, r, f1, hp, _⟩ := id fr
    walk_at "rd"
    refine rd_pPins f1 rfl ?_
    walk_at "rd"
    refine ⟨p, d, P, P, f, 1, n, rfl, .inl rfl, .inr hp, rfl, fun _ h => h, hd, ty, ok, hn, fun H1 s1 => ?_⟩
    walk_at "rd"
    refine rd_ifb (fun _ => ?_) (fun z => nomatch z)
    walk_at "rd"
    refine rd_pPins (s1 _ _ f1) rfl ?_
    walk_at "rd"
    refine ⟨p, d, P, P, f, 2, n, rfl, .inr rfl, .inr (hp.same s1), rfl, fun _ h => h, hd.same s1, PlT.same s1 kvs e1 ty, ok, hn, fun H2 s2 => ?_⟩
    walk_at "rd"
    refine rd_ifb (fun z => nomatch z) (fun _ => ?_)
    walk_at "rd"
    exact k _ (s1.trans s2)
end
section
variable {P : Program} {w : World} {K : PySem.W.Frag} {mg : Str → Option Value} {base : Heap}
theorem ok_is_any_placing (B : Bi mg) {CFrame e0 : Addr} (FKFrame : FrmKFrame K mg CFrame e0) (care_spots : CalA P w K mg base "are_spots" 5 ["pins", "value", "space"] (spSpots K)) (cis_name : CalA P w K mg base "is_name" 1 ["value"] (spName)) (D : DefAt K mg "_is_any_placing" s_is_any_placing ["value"]) : CalA P w K mg base "_is_any_placing" 6 ["value"] (spAnyPlac K) := by
  refine cala_of D sc_is_any_placing (fun vs H Q E h => ?_) (fun f cdv A outer s H vs Q E hr h => ?_)
  · obtain ⟨d, P, f, n, rfl, _⟩ := h; rfl
  · have hu := hr.units
    have hrare_spots := hr.mono (show 5 ≤ 5 by decide)
    have hris_name := hr.mono (show 1 ≤ 5 by decide)
    obtain ⟨t_MAX_PINS, k_MAX_PINS⟩ := B.c_MAX_PINS
    skip
    refine ⟨_, (pss_cons (ps_if (PW.pt (pw_or (pt_not (pt_val (pe_callB (r := rIsi K) (by exact call_isi) (by rfl) B.b_isinstance (by decide +kernel) (pa_cons (pv 0) (pa_cons (pe_bltn (v := .ty "dict") (u := .type "dict") (by rfl) B.b_dict (by decide +kernel) rfl) pa_nil))))) (pw_or1 (pt_not (pt_chain op_le op_le pe_int (pe_callB call_lenD (by rfl) B.b_len (by decide +kernel) (pa_cons (pv 0) pa_nil)) (pe_glob (v := .int 8) (by rfl) k_MAX_PINS ⟨_, rfl⟩)))))) (pss_one (ps_ret pe_bl)) pss_nil)
        (pss_cons (ps_if (pt_not (pt_val (pe_callB (r := rAll K) (by exact (cr_all rfl)) (by rfl) B.b_all (by decide +kernel) (pa_cons (pe_lock (pe_lc (own := [("pin", 1)]) (g := gName 1) (tt := tYes) (by rfl) sc_is_any_placing.nd (pi_keys (pv 0)) (blkOk_by (own := [("pin", 1)]) (N := ["value", "pin"]) (sc := defScope s_is_any_placing) (by decide +kernel)) (fun _ _ _ _ _ => (pg_name (i := 1) sc_is_any_placing.nd rfl (by first | exact Or.inl rfl | exact Or.inr rfl))) (fun _ _ _ _ _ => pts_nil) (fun _ _ _ _ _ => (ac cis_name hris_name (by rfl) (pa_cons (pv 1) pa_nil))))) pa_nil)))) (pss_one (ps_ret pe_bl)) pss_nil)
        (pss_one (ps_ret (pe_or (ac care_spots hrare_spots (by rfl) (pa_cons (pe_callTy (call_listD rfl) (by rfl) B.b_list (by decide +kernel) (pa_cons (pv 0) pa_nil)) (pa_cons (pv 0) (pa_cons pe_int pa_nil)))) (pe_one (ac care_spots hrare_spots (by rfl) (pa_cons (pe_callTy (call_listD rfl) (by rfl) B.b_list (by decide +kernel) (pa_cons (pv 0) pa_nil)) (pa_cons (pv 0) (pa_cons pe_int pa_nil)))))))))), ?_⟩
    obtain ⟨d, P, f, n, rfl, hd, ty, ok, hn, k⟩ := h
    refine rd_at [some (.ref d), none] rfl ?_
    obtain ⟨kvs, e1, e2, e3⟩ := hd.dict
    have few := ok.few
    have one := ok.one
    walk_at "rd"
    refine rd_isi (b := true) (.base (.dK e1)) (show kitB "dict" "dict" = some true by decide +kernel) ?_
    walk_at "rd"
    refine rd_ifb (fun z => nomatch z) (fun _ => ?_)
    walk_at "rd"
    refine ⟨_, _, rfl, e1, ?_⟩
    walk_at "rd"
    refine rd_ite (fun h2 => ?_) (fun h2 => absurd (by omega) h2)
    walk_at "rd"
    refine rd_iteN (fun h3 => absurd (by omega) h3) (fun h3 => ?_)
    walk_at "rd"
    obtain ⟨A, a1, a2⟩ := id hd
    refine rd_lock a1 fun od => ?_
    walk_at "rd"
    refine rd_keys ?_
    walk_at "rd"
    refine ⟨d, od, rfl, .inl ⟨_, upd_same, fun E hE => ?_⟩⟩
    have nE : E ≠ d := fun e => by rw [e, upd_same] at hE; cases hE
    refine lc_same wk_keys (b := fun _ => true) (f := fun _ => .bl true) (by omega) hE (fun H' hs => hs _ _ upd_same) (fun j _ H' _ R kk => rd_yes (kk H' (Same.refl _))) ?_ ?_
    · intro j hj _ H' hs R kk
      rw [List.getD_eq_getElem?_getD, List.getElem?_eq_getElem hj]
      walk_at "rd"
      exact ⟨_, rfl, ok.nm _ (List.getElem_mem hj), fun H2 s2 => kk _ s2⟩
    intro H' hs hl
    refine ⟨hs _ _ upd_same, ?_⟩
    have s0 := same_unlock a1 hs
    have hl' : upd H' d (dKf P fun z => .ref (A z)) E = some (.lst (((List.range P.length).filter fun _ => true).map fun _ => .bl true)) := by rw [upd_ne nE]; exact hl
    generalize upd H' d (dKf P fun z => .ref (A z)) = H1 at s0 hl'
    rw [filt_yes, show (fun j : Nat => V.bl true) = V.bl ∘ (fun _ => true) from rfl, ← List.map_map] at hl'
    walk_at "rd"
    refine rd_all (SqL.of hl') ?_
    rw [yes_all]
    walk_at "rd"
    refine rd_ifb (fun z => nomatch z) (fun _ => ?_)
    walk_at "rd"
    refine ⟨d, kvs, rfl, .inl (s0 _ _ e1), fun l1 n1 => ?_⟩
    have s1 : Same H1 (upd H1 l1 (.lst (kvs.map fun kv => kV kv.1))) := fun b o e => up_old n1 e
    have ek : (kvs.map fun kv => kV kv.1) = P.map V.str := by
      have := congrArg (List.map kV) e3
      rw [List.map_map, List.map_map] at this
      exact this
    have g1 : upd H1 l1 (.lst (kvs.map fun kv => kV kv.1)) l1 = some (.lst (P.map V.str)) := by rw [upd_same, ek]
    generalize upd H1 l1 (.lst (kvs.map fun kv => kV kv.1)) = H2 at s1 g1
    have s02 := s0.trans s1
    walk_at "rd"
    refine ⟨l1, d, P, P, f, 1, n, rfl, .inl rfl, .inl g1, rfl, fun _ h => h, hd.same s02, PlT.same s02 kvs e1 ty, ok, hn, fun H3 s3 => ?_⟩
    have s03 := s02.trans s3
    walk_at "rd"
    refine ⟨_, rfl, ?_⟩
    walk_at "rd"
    refine ⟨d, kvs, rfl, .inl (s03 _ _ e1), fun l2 n2 => ?_⟩
    have s4 : Same H3 (upd H3 l2 (.lst (kvs.map fun kv => kV kv.1))) := fun b o e => up_old n2 e
    have g4 : upd H3 l2 (.lst (kvs.map fun kv => kV kv.1)) l2 = some (.lst (P.map V.str)) := by rw [upd_same, ek]
    generalize upd H3 l2 (.lst (kvs.map fun kv => kV kv.1)) = H4 at s4 g4
    have s04 := s03.trans s4
    walk_at "rd"
    refine ⟨l2, d, P, P, f, 2, n, rfl, .inr rfl, .inl g4, rfl, fun _ h => h, hd.same s04, PlT.same s04 kvs e1 ty, ok, hn, fun H5 s5 => ?_⟩
    exact k _ (s04.trans s5)
end
section
variable {P : Program} {w : World} {K : PySem.W.Frag} {mg : Str → Option Value} {base : Heap}
theorem okcheck_free_placing (B : Bi mg) {CFrame e0 : Addr} (FKFrame : FrmKFrame K mg CFrame e0) (c_is_any_placing : CalA P w K mg base "_is_any_placing" 6 ["value"] (spAnyPlac K)) (D : DefAt K mg "check_free_placing" scheck_free_placing ["placing"]) : CalA P w K mg base "check_free_placing" 7 ["placing"] (spChFree K) := by
  refine cala_of D sccheck_free_placing (fun vs H Q E h => ?_) (fun f cdv A outer s H vs Q E hr h => ?_)
  · obtain ⟨d, P, f, n, rfl, _⟩ := h; rfl
  · have hu := hr.units
    have hr_is_any_placing := hr.mono (show 6 ≤ 6 by decide)
    skip
    refine ⟨_, (pss_one (ps_if (pt_not (pt_val (ac c_is_any_placing hr_is_any_placing (by rfl) (pa_cons (pv 0) pa_nil)))) (pss_one L2.ps_never) pss_nil)), ?_⟩
    obtain ⟨d, P, f, n, rfl, hd, ty, ok, hn, k⟩ := h
    refine rd_at [some (.ref d)] rfl ?_
    walk_at "rd"
    refine ⟨d, P, f, n, rfl, hd, ty, ok, hn, fun H1 s1 => ?_⟩
    walk_at "rd"
    refine rd_ifb (fun z => nomatch z) (fun _ => ?_)
    walk_at "rd"
    exact k _ s1
end
section
variable {P : Program} {w : World} {K : PySem.W.Frag} {mg : Str → Option Value} {base : Heap}
theorem oksquares (B : Bi mg) {CFrame e0 : Addr} (FKFrame : FrmKFrame K mg CFrame e0) (cFrame_rods : PrpA P w K mg base CFrame "rods" 1 (getSp CFrame "_rods")) (c_squares_of : CalA P w K mg base "_squares_of" 3 ["pairs", "placing"] (spSqOf K)) (ccheck_frame : CalA P w K mg base "check_frame" 1 ["frame"] (spIsFrame CFrame)) (ccheck_placing : CalA P w K mg base "check_placing" 6 ["frame", "placing"] (spChPlac K CFrame)) (D : DefAt K mg "squares" ssquares ["frame", "placing"]) : CalA P w K mg base "squares" 7 ["frame", "placing"] (spSquares K CFrame) := by
  refine cala_of D scsquares (fun vs H Q E h => ?_) (fun f cdv A outer s H vs Q E hr h => ?_)
  · obtain ⟨a, d, P, R, f, n, rfl, _⟩ := h; rfl
  · have hu := hr.units
    have hrFrame_rods := hr.mono (show 2 ≤ 6 by decide)
    have hr_squares_of := hr.mono (show 3 ≤ 6 by decide)
    have hrcheck_frame := hr.mono (show 1 ≤ 6 by decide)
    have hrcheck_placing := hr.mono (show 6 ≤ 6 by decide)
    skip
    refine ⟨_, (pss_cons (ps_expr (ac ccheck_frame hrcheck_frame (by rfl) (pa_cons (pv 0) pa_nil)))
        (pss_cons (ps_expr (ac ccheck_placing hrcheck_placing (by rfl) (pa_cons (pv 0) (pa_cons (pv 1) pa_nil))))
        (pss_one (ps_ret (ac c_squares_of hr_squares_of (by rfl) (pa_cons (ppc FKFrame.cl cFrame_rods hrFrame_rods (pv 0)) (pa_cons (pv 1) pa_nil))))))), ?_⟩
    obtain ⟨a, d, P, R, f, n, rfl, fr, frok, hd, ty, ok, hn, k⟩ := h
    refine rd_at [some (.ref a), some (.ref d)] rfl ?_
    obtain ⟨dx, p, r, f1, f2, f3⟩ := id fr
    walk_at "rd"
    refine ⟨a, dx, _, rfl, f1, ?_⟩
    walk_at "rd"
    refine ⟨a, d, P, R, f, n, rfl, fr, hd, ty, ok, by omega, fun H1 s1 => ?_⟩
    walk_at "rd"
    refine rd_pRods (K := K) (s1 _ _ f1) rfl ?_
    walk_at "rd"
    refine ⟨r, d, R, P, f, n, rfl, f3.same s1, hd.same s1, ok, hn, (by have := frok.few; omega), frok.asc.nodup, fun k hk => ?_, fun t H2 s2 h2 => ?_⟩
    · obtain ⟨x, y, e, hx, hy, _⟩ := frok.pair k hk
      exact ⟨x, y, e, hx, hy⟩
    · exact k t _ (s1.trans s2) h2
end
section
variable {P : Program} {w : World} {K : PySem.W.Frag} {mg : Str → Option Value} {base : Heap}
theorem okare_alike (B : Bi mg) {CFrame e0 : Addr} (FKFrame : FrmKFrame K mg CFrame e0) (c_squares_of : CalA P w K mg base "_squares_of" 3 ["pairs", "placing"] (spSqOf K)) (ccheck_free_placing : CalA P w K mg base "check_free_placing" 7 ["placing"] (spChFree K)) (cpairs_among : CalA P w K mg base "pairs_among" 1 ["pins"] (spAmong)) (D : DefAt K mg "are_alike" sare_alike ["placing", "other_placing"]) : CalA P w K mg base "are_alike" 8 ["placing", "other_placing"] (spAlike K) := by
  refine cala_of D scare_alike (fun vs H Q E h => ?_) (fun f cdv A outer s H vs Q E hr h => ?_)
  · obtain ⟨d, e, P, f, g, n, rfl, _⟩ := h; rfl
  · have hu := hr.units
    have hr_squares_of := hr.mono (show 3 ≤ 7 by decide)
    have hrcheck_free_placing := hr.mono (show 7 ≤ 7 by decide)
    have hrpairs_among := hr.mono (show 1 ≤ 7 by decide)
    skip
    refine ⟨_, (pss_cons (ps_expr (ac ccheck_free_placing hrcheck_free_placing (by rfl) (pa_cons (pv 0) pa_nil)))
        (pss_cons (ps_expr (ac ccheck_free_placing hrcheck_free_placing (by rfl) (pa_cons (pv 1) pa_nil)))
        (pss_cons (ps_if (pt_cmpR (r := rNeD K) (by exact (op_neD hu)) (pe_callB (call_sortedD rfl) (by rfl) B.b_sorted (by decide +kernel) (pa_cons (pv 0) pa_nil)) (pe_callB (call_sortedD rfl) (by rfl) B.b_sorted (by decide +kernel) (pa_cons (pv 1) pa_nil)) (nomark _)) (pss_one L2.ps_never) pss_nil)
        (pss_cons (ps_set (i := 2) scare_alike.nd rfl (by first | exact Or.inl rfl | exact Or.inr rfl) (ac cpairs_among hrpairs_among (by rfl) (pa_cons (pe_callTy (call_listD rfl) (by rfl) B.b_list (by decide +kernel) (pa_cons (pv 0) pa_nil)) pa_nil)))
        (pss_one (ps_ret (pe_cmpR (r := rEqB K) (by exact (op_eqB (units100 hr))) (ac c_squares_of hr_squares_of (by rfl) (pa_cons (pv 2) (pa_cons (pv 0) pa_nil))) (ac c_squares_of hr_squares_of (by rfl) (pa_cons (pv 2) (pa_cons (pv 1) pa_nil))) (nomark _)))))))), ?_⟩
    obtain ⟨d, e, P, f, g, n, rfl, hd, he, td, te, okP, okf, okg, hn, k⟩ := h
    refine rd_at [some (.ref d), some (.ref e), none] rfl ?_
    obtain ⟨kd, d1, d2, d3⟩ := hd.dict
    obtain ⟨ke, e1, e2, e3⟩ := he.dict
    walk_at "rd"
    refine ⟨d, P, f, n, rfl, hd, td, okf, by omega, fun H1 s1 => ?_⟩
    walk_at "rd"
    refine ⟨e, P, g, n, rfl, he.same s1, PlT.same s1 ke e1 te, okg, by omega, fun H2 s2 => ?_⟩
    have s12 := s1.trans s2
    walk_at "rd"
    have sok : ∀ z ∈ P.map PyData.str, z.canLay0 = true ∧ z.depth ≤ 1 := fun z hz => by
      obtain ⟨y, hy, rfl⟩ := List.mem_map.mp hz
      exact ⟨((okP.nm y hy).sok).ok, Nat.zero_le _⟩
    have few := okP.few
    refine ⟨d, kd, P, rfl, .inl (s12 _ _ d1), d3, by omega, fun ys o1 pm1 z1 n1 => ?_⟩
    rw [asc_eq okP.asc (sorted_asc z1 (pm1.nodup_iff.mpr okP.asc.nodup)) pm1]
    have s3 : Same H2 (upd H2 o1 (.lst (P.map V.str))) := fun b u e => up_old n1 e
    have g3 : upd H2 o1 (.lst (P.map V.str)) o1 = some (.lst (P.map V.str)) := upd_same
    generalize upd H2 o1 (.lst (P.map V.str)) = H3 at s3 g3
    walk_at "rd"
    refine ⟨e, ke, P, rfl, .inl (s3 _ _ (s12 _ _ e1)), e3, by omega, fun ys o2 pm2 z2 n2 => ?_⟩
    rw [asc_eq okP.asc (sorted_asc z2 (pm2.nodup_iff.mpr okP.asc.nodup)) pm2]
    have s4 : Same H3 (upd H3 o2 (.lst (P.map V.str))) := fun b u e => up_old n2 e
    have g4 : upd H3 o2 (.lst (P.map V.str)) o2 = some (.lst (P.map V.str)) := upd_same
    generalize upd H3 o2 (.lst (P.map V.str)) = H4 at s4 g4
    have s14 := s12.trans (s3.trans s4)
    walk_at "rd"
    refine rd_neStrs (SqL.of (s4 _ _ g3)) (SqL.of g4) sok ?_
    walk_at "rd"
    refine ⟨d, kd, rfl, .inl (s14 _ _ d1), fun o3 n3 => ?_⟩
    have ek : (kd.map fun kv => kV kv.1) = P.map V.str := by
      have := congrArg (List.map kV) d3
      rw [List.map_map, List.map_map] at this
      exact this
    have s5 : Same H4 (upd H4 o3 (.lst (kd.map fun kv => kV kv.1))) := fun b u e => up_old n3 e
    have g5 : upd H4 o3 (.lst (kd.map fun kv => kV kv.1)) o3 = some (.lst (P.map V.str)) := by rw [upd_same, ek]
    generalize upd H4 o3 (.lst (kd.map fun kv => kV kv.1)) = H5 at s5 g5
    walk_at "rd"
    refine ⟨o3, P, rfl, g5, okP, fun r H6 s6 h6 => ?_⟩
    have s16 := s14.trans (s5.trans s6)
    walk_at "rd"
    refine ⟨r, d, pairsA P, P, f, n, rfl, h6, hd.same s16, okf, hn, pairsA_len few, pairsA_nodup okP.asc.nodup, pairsA_two, fun t1 H7 s7 h7 => ?_⟩
    walk_at "rd"
    refine ⟨r, e, pairsA P, P, g, n, rfl, h6.same s7, he.same (s16.trans s7), okg, hn, pairsA_len few, pairsA_nodup okP.asc.nodup, pairsA_two, fun t2 H8 s8 h8 => ?_⟩
    walk_at "rd"
    refine rd_eqSqs (h7.same s8) h8 ?_
    exact k _ (s16.trans (s7.trans s8))
end
section
variable {P : Program} {w : World} {K : PySem.W.Frag} {mg : Str → Option Value} {base : Heap}
theorem okmirrored (B : Bi mg) {CFrame e0 : Addr} (FKFrame : FrmKFrame K mg CFrame e0) (c_mirror_image : CalA P w K mg base "_mirror_image" 2 ["spot", "start", "end"] (spMirror K)) (c_multiple : CalA P w K mg base "_multiple" 1 ["spot", "scale"] (spMul K)) (c_square : CalA P w K mg base "_square" 2 ["spot", "other"] (spSquare K)) (ccheck_free_placing : CalA P w K mg base "check_free_placing" 7 ["placing"] (spChFree K)) (ccheck_pin_placed : CalA P w K mg base "check_pin_placed" 2 ["placing", "pin"] (spChPin K)) (cis_lot_of : CalA P w K mg base "is_lot_of" 4 ["pins", "value"] (spLotOf K)) (cspace_in : CalA P w K mg base "space_in" 1 ["placing"] (spSpace K)) (D : DefAt K mg "mirrored" smirrored ["placing", "one", "other", "side"]) : CalA P w K mg base "mirrored" 8 ["placing", "one", "other", "side"] (spMirrored K) := by
  refine cala_of D scmirrored (fun vs H Q E h => ?_) (fun f cdv A outer s H vs Q E hr h => ?_)
  · obtain ⟨d, l, ks, S, x, y, f, rfl, _⟩ := h; rfl
  · have hu := hr.units
    have hr_mirror_image := hr.mono (show 2 ≤ 7 by decide)
    have hr_multiple := hr.mono (show 1 ≤ 7 by decide)
    have hr_square := hr.mono (show 2 ≤ 7 by decide)
    have hrcheck_free_placing := hr.mono (show 7 ≤ 7 by decide)
    have hrcheck_pin_placed := hr.mono (show 2 ≤ 7 by decide)
    have hris_lot_of := hr.mono (show 4 ≤ 7 by decide)
    have hrspace_in := hr.mono (show 1 ≤ 7 by decide)
    skip
    refine ⟨_, (pss_cons (ps_expr (ac ccheck_free_placing hrcheck_free_placing (by rfl) (pa_cons (pv 0) pa_nil)))
        (pss_cons (ps_if (pt_cmpR op_ne (ac cspace_in hrspace_in (by rfl) (pa_cons (pv 0) pa_nil)) pe_int (nomark _)) (pss_one L2.ps_never) pss_nil)
        (pss_cons (ps_expr (ac ccheck_pin_placed hrcheck_pin_placed (by rfl) (pa_cons (pv 0) (pa_cons (pv 1) pa_nil))))
        (pss_cons (ps_expr (ac ccheck_pin_placed hrcheck_pin_placed (by rfl) (pa_cons (pv 0) (pa_cons (pv 2) pa_nil))))
        (pss_cons (ps_if (pt_cmpR op_eq (pv 1) (pv 2) (nomark _)) (pss_one L2.ps_never) pss_nil)
        (pss_cons (ps_if (PW.pt (pw_or (pt_not (pt_val (ac cis_lot_of hris_lot_of (by rfl) (pa_cons (pe_callTy (call_listD rfl) (by rfl) B.b_list (by decide +kernel) (pa_cons (pv 0) pa_nil)) (pa_cons (pv 3) pa_nil))))) (pw_or (pt_cmpR (r := rIn K false) (by exact op_in_seq) (pv 1) (pv 3) (by rfl)) (pw_or1 (pt_cmpR (r := rIn K false) (by exact op_in_seq) (pv 2) (pv 3) (by rfl)))))) (pss_one L2.ps_never) pss_nil)
        (pss_cons (ps_set (i := 4) scmirrored.nd rfl (by first | exact Or.inl rfl | exact Or.inr rfl) (ac c_square hr_square (by rfl) (pa_cons (pe_dget (units1 hu) (pv 0) (pv 1) (fun _ _ => rfl)) (pa_cons (pe_dget (units1 hu) (pv 0) (pv 2) (fun _ _ => rfl)) pa_nil))))
        (pss_cons (ps_if (pt_cmpR op_eq (pv 4) pe_int (nomark _)) (pss_one L2.ps_never) pss_nil)
        (pss_cons (ps_set (i := 5) scmirrored.nd rfl (by first | exact Or.inl rfl | exact Or.inr rfl) (pe_dc (own := [("pin", 7)]) (g := gName 7) (tt := tYes) (by rfl) scmirrored.nd (pi_list (pe_callB (call_sortedD rfl) (by rfl) B.b_sorted (by decide +kernel) (pa_cons (pv 0) pa_nil))) (blkOk_by (own := [("pin", 7)]) (N := ["placing", "one", "other", "side", "scale", "first", "second", "pin"]) (sc := defScope smirrored) (by decide +kernel)) (fun _ _ _ _ _ => (pg_name (i := 7) scmirrored.nd rfl (by first | exact Or.inl rfl | exact Or.inr rfl))) (fun _ _ _ _ _ => pts_nil) (fun _ _ _ _ _ => (pv 7)) (fun _ _ _ _ _ => (ac c_multiple hr_multiple (by rfl) (pa_cons (pe_dget (units1 hu) (pv 0) (pv 7) (fun _ _ => rfl)) (pa_cons (pv 4) pa_nil))))))
        (pss_cons (ps_lock (ps_setDc (i := 6) (own := [("pin", 7)]) (g := gName 7) (tt := tYes) (by rfl) scmirrored.nd rfl rfl (sw_trueD rfl rfl rfl (by decide +kernel)) (pi_keys (pv 5)) (blkOk_by (own := [("pin", 7)]) (N := ["placing", "one", "other", "side", "scale", "first", "second", "pin"]) (sc := defScope smirrored) (by decide +kernel)) (fun _ _ _ _ _ => (pg_name (i := 7) scmirrored.nd rfl (by first | exact Or.inl rfl | exact Or.inr rfl))) (fun _ _ _ _ _ => pts_nil) (fun _ _ _ _ _ => (pv 7)) (fun _ _ _ _ _ => (pe_dget (units1 hu) (pv 5) (pv 7) (fun _ _ => rfl)))))
        (pss_cons (ps_for PassesOwn.never (by rfl) (pi_tup (pv 3)) (pg_name (i := 7) scmirrored.nd rfl (by first | exact Or.inl rfl | exact Or.inr rfl)) (pss_one (ps_asg (ac c_mirror_image hr_mirror_image (by rfl) (pa_cons (pe_dget (units1 hu) (pv 0) (pv 7) (fun _ _ => rfl)) (pa_cons (pe_dget (units1 hu) (pv 0) (pv 1) (fun _ _ => rfl)) (pa_cons (pe_dget (units1 hu) (pv 0) (pv 2) (fun _ _ => rfl)) pa_nil)))) (pg_sub (pv 6) (pv 7) (set_dict (units1 hu))))))
        (pss_one (ps_ret (pe_tup (pa_cons (pv 5) (pa_cons (pv 6) pa_nil)))))))))))))))), ?_⟩
    obtain ⟨d, l, ks, S, x, y, f, rfl, hd, td, ok, mx, my, nxy, hl, okS, sub, nf, k⟩ := h
    refine rd_at [some (.ref d), some (.str x), some (.str y), some (.ref l), none, none, none, none] rfl ?_
    obtain ⟨kd, d1, d2, d3⟩ := hd.dict
    have few := ok.few
    walk_at "rd"
    refine ⟨d, ks, f, 150, rfl, hd, td, ok, by decide, fun H1 s1 => ?_⟩
    walk_at "rd"
    refine ⟨d, ks, f, 150, rfl, hd.same s1, ok, fun H2 s2 => ?_⟩
    have s02 := s1.trans s2
    walk_at "rd"
    refine rd_iteN (fun h2 => absurd rfl h2) (fun _ => ?_)
    walk_at "rd"
    refine ⟨d, x, ks, _, rfl, hd.same s02, mx, ok.nm x mx, fun H3 s3 => ?_⟩
    have s03 := s02.trans s3
    walk_at "rd"
    refine ⟨d, y, ks, _, rfl, hd.same s03, my, ok.nm y my, fun H4 s4 => ?_⟩
    have s04 := s03.trans s4
    walk_at "rd"
    refine rd_eqZ ?_
    rw [decide_eq_false nxy]
    walk_at "rd"
    refine ⟨d, kd, rfl, .inl (s04 _ _ d1), fun o n5 => ?_⟩
    have ek : (kd.map fun kv => kV kv.1) = ks.map V.str := by
      have := congrArg (List.map kV) d3
      rw [List.map_map, List.map_map] at this
      exact this
    have s5 : Same H4 (upd H4 o (.lst (kd.map fun kv => kV kv.1))) := fun b u e => up_old n5 e
    have g5 : upd H4 o (.lst (kd.map fun kv => kV kv.1)) o = some (.lst (ks.map V.str)) := by rw [upd_same, ek]
    generalize upd H4 o (.lst (kd.map fun kv => kV kv.1)) = H5 at s5 g5
    have s05 := s04.trans s5
    walk_at "rd"
    refine ⟨o, l, ks, S, rfl, g5, few, hl.same s05, okS, fun z hz => (sub z hz).1, fun H6 s6 => ?_⟩
    have s06 := s05.trans s6
    walk_at "rd"
    refine rd_ifb (fun z => nomatch z) (fun _ => ?_)
    walk_at "rd"
    refine rd_inZ (.inr (hl.same s06).1) ?_
    rw [decide_eq_false (fun h => (sub x h).2.1 rfl)]
    walk_at "rd"
    refine rd_inZ (.inr (hl.same s06).1) ?_
    rw [decide_eq_false (fun h => (sub y h).2.2 rfl)]
    walk_at "rd"
    refine rd_dget ?_
    walk_at "rd"
    refine plc_get (hd.same s06) mx fun p1 hp1 => ?_
    walk_at "rd"
    refine rd_dget ?_
    walk_at "rd"
    refine plc_get (hd.same s06) my fun q1 hq1 => ?_
    walk_at "rd"
    refine ⟨p1, q1, f x, f y, 150, rfl, hp1, hq1, ok.bd x mx, ok.bd y my, by decide, fun H7 s7 => ?_⟩
    have s07 := s06.trans s7
    walk_at "rd"
    refine rd_ite (fun h => absurd (sq2_zero h) nf) (fun _ => ?_)
    walk_at "rd"
    refine rd_dc ?_
    walk_at "rd"
    refine ⟨d, kd, ks, rfl, .inl (s07 _ _ d1), d3, by omega, fun P o2 pm z2 n2 => ?_⟩
    have okP : PinsOk P := ⟨sorted_asc z2 (pm.nodup_iff.mpr ok.nd), fun z hz => ok.nm z (pm.mem_iff.mp hz), by rw [pm.length_eq]; exact few⟩
    have fewP := okP.few
    have s8 : Same H7 (upd H7 o2 (.lst (P.map V.str))) := fun b u e => up_old n2 e
    have g8 : upd H7 o2 (.lst (P.map V.str)) o2 = some (.lst (P.map V.str)) := upd_same
    generalize upd H7 o2 (.lst (P.map V.str)) = H8 at s8 g8
    have s08 := s07.trans s8
    walk_at "rd"
    refine ⟨⟨_, SqL.of g8⟩, fun D1 hD1 => ?_⟩
    have bdS : Bd 303 (sq2 (f x) (f y)) := (dot_bd ((ok.bd x mx).sub (ok.bd y my)) ((ok.bd x mx).sub (ok.bd y my))).mono (by decide)
    refine dc_names (wk_list (xs := P.map V.str) .non) (zs := P) (by rw [List.length_map]) (fun j z e => ?_) okP.asc.nodup (by rw [List.length_map]; omega) hD1 (fun H' hs => SqL.of (hs _ _ g8)) (fun z v H' => ∃ p, v = .ref p ∧ H' p = some (.tup (sv [(firF f x y z).1, (firF f x y z).2]))) (fun z v Ha Hb b ⟨kvs, e⟩ ⟨p, e1, e2⟩ => ⟨p, e1, b _ _ (fun q => by rw [q, e] at e2; cases e2) e2⟩) (fun z mz H' s R kk => ?_) (fun z mz H' s R kk => ?_) (fun f1 H9 s9 m1 h9 => ?_)
    · rw [List.getD_eq_getElem?_getD, List.getElem?_map, e]; rfl
    · walk_at "rd"
      exact kk
    · walk_at "rd"
      refine rd_dget ?_
      walk_at "rd"
      refine plc_get (hd.same (s08.trans s)) (pm.mem_iff.mp mz) fun p hp => ?_
      walk_at "rd"
      exact ⟨p, _, f z, 400, rfl, hp, (ok.bd z (pm.mem_iff.mp mz)).mono (by decide), bdS.mono (by decide), by decide, fun t Hb sb nt ht => kk _ Hb sb ⟨t, rfl, ht⟩⟩
    have m1 : Md H9 P f1 (firF f x y) := m1
    have s09 := s08.trans s9
    walk_at "rd"
    refine ⟨D1, _, h9, True.intro, fun od => ?_⟩
    have upS : upd H9 D1 (.frz od (dKf P f1)) D1 = some (.frz od (dKf P f1)) := upd_same
    have m1l : Md (upd H9 D1 (.frz od (dKf P f1))) P f1 (firF f x y) := fun z hz => by
      obtain ⟨p, e1, e2⟩ := m1 z hz
      exact ⟨p, e1, by rw [upd_ne (fun e => by rw [e, h9] at e2; cases e2)]; exact e2⟩
    walk_at "rd"
    refine rd_dc ?_
    refine rd_keys ?_
    walk_at "rd"
    refine ⟨D1, od, rfl, .inl ⟨_, upS, fun D2 hD2 => ?_⟩⟩
    have n21 : D2 ≠ D1 := fun e => by rw [e, upS] at hD2; cases hD2
    have nD2 : H D2 = none := s09.free (by rw [upd_ne n21] at hD2; exact hD2)
    refine dc_names wk_keys (zs := P) rfl (fun j z e => by rw [List.getD_eq_getElem?_getD, e]; rfl) okP.asc.nodup (by omega) hD2 (fun H' hs => hs _ _ upS) (fun z v H' => ∃ p, v = .ref p ∧ H' p = some (.tup (sv [(firF f x y z).1, (firF f x y z).2]))) (fun z v Ha Hb b ⟨kvs, e⟩ ⟨p, e1, e2⟩ => ⟨p, e1, b _ _ (fun q => by rw [q, e] at e2; cases e2) e2⟩) (fun z mz H' s R kk => ?_) (fun z mz H' s R kk => ?_) (fun f2 H10 s10 m2 h10 => ?_)
    · walk_at "rd"
      exact kk
    · walk_at "rd"
      refine rd_dget ?_
      walk_at "rd"
      refine ⟨D1, _, rfl, get_f (.inr ⟨od, s _ _ upS⟩) mz, ?_⟩
      obtain ⟨p, e1, e2⟩ := m1l z mz
      exact kk _ H' (Same.refl _) ⟨p, e1, s _ _ e2⟩
    have e10 := s10 _ _ upS
    refine rd_name ?_
    refine ⟨e10, ?_⟩
    have s0 := same_unlock h9 s10
    have h11 : upd H10 D1 (dKf P f1) D2 = some (dKf P f2) := by rw [upd_ne n21]; exact h10
    have m11 : Md (upd H10 D1 (dKf P f1)) P f2 (firF f x y) := fun z hz => by
      obtain ⟨p, e1, e2⟩ := m2 z hz
      exact ⟨p, e1, by rw [upd_ne (fun e => by rw [e, e10] at e2; cases e2)]; exact e2⟩
    generalize upd H10 D1 (dKf P f1) = H11 at s0 h11 m11
    have s11 := s09.trans s0
    have m1' := m1.same s0
    have h9' := s0 _ _ h9
    walk_at "rd"
    refine ⟨⟨_, (hl.same s11).1⟩, ?_⟩
    refine for_tup (K := K) (xs := S.map V.str) (fun i σ H' => (∃ u, σ = [some (.ref d), some (.str x), some (.str y), some (.ref l), some (.int (sq2 (f x) (f y))), some (.ref D1), some (.ref D2), u]) ∧ But D2 H11 H' ∧ ∃ f3, H' D2 = some (dKf P f3) ∧ Md H' P f3 (part f x y S i)) ?_ ?_ ?_ ?_
    · exact ⟨⟨none, rfl⟩, But.refl _ _, f2, h11, by rw [part_zero]; exact m11⟩
    · rintro i σ H' _ ⟨_, b, _⟩
      exact (hl.same (but_old s11 nD2 b)).1
    · rintro i v σ H' hv ⟨⟨u, rfl⟩, b, f3, hD, mD⟩
      rw [List.getElem?_map] at hv
      obtain ⟨z, hz, rfl⟩ := Option.map_eq_some_iff.mp hv
      obtain ⟨hi, rfl⟩ := List.getElem?_eq_some_iff.mp hz
      have mz := (sub _ (List.getElem_mem hi)).1
      have sH := but_old s11 nD2 b
      refine rd_name ?_
      walk_at "rd"
      refine rd_dget ?_
      walk_at "rd"
      refine plc_get (hd.same sH) mz fun p hp => ?_
      walk_at "rd"
      refine rd_dget ?_
      walk_at "rd"
      refine plc_get (hd.same sH) mx fun q hq => ?_
      walk_at "rd"
      refine rd_dget ?_
      walk_at "rd"
      refine plc_get (hd.same sH) my fun r hr => ?_
      walk_at "rd"
      refine ⟨p, q, r, _, _, _, 150, rfl, hp, hq, hr, ok.bd _ mz, ok.bd x mx, ok.bd y my, by decide, fun t H12 s12 nt ht => ?_⟩
      walk_at "rd"
      refine ⟨D2, _, rfl, put_f (s12 _ _ hD) (by omega) (pm.mem_iff.mpr mz) _, ?_⟩
      refine ⟨⟨_, rfl⟩, b.trans ((same_but s12).trans But.upd), _, upd_same, ?_⟩
      exact md_put (s12 _ _ hD) (mD.same s12) hi ht
    · rintro σ H' ⟨⟨u, rfl⟩, b, f3, hD, mD⟩
      rw [List.length_map, part_all] at mD
      have sH := but_old s11 nD2 b
      have hD1 : H' D1 = some (dKf P f1) := b _ _ (fun e => n21 e.symm) h9'
      have m1x : Md H' P f1 (firF f x y) := m1'.but b h11
      walk_at "rd"
      intro t nt
      have st : Same H' (upd H' t (.tup [.ref D1, .ref D2])) := fun c o e => up_old nt e
      obtain ⟨a1, a2⟩ := plc_made (K := K) (st _ _ hD1) (m1x.same st)
      obtain ⟨b1, b2⟩ := plc_made (K := K) (st _ _ hD) (mD.same st)
      exact k t D1 D2 P _ (sH.trans st) upd_same pm okP a1 a2 b1 b2
end
section
variable {P : Program} {w : World} {K : PySem.W.Frag} {mg : Str → Option Value} {base : Heap}
theorem ok_law_right (B : Bi mg) {CFrame e0 : Addr} (FKFrame : FrmKFrame K mg CFrame e0) (cFrame___init__ : MakA P w K mg base CFrame "Frame" 6 ["self", "pins", "rods"] [[], [.ref e0]] (spInit K CFrame)) (c_law_draw : CalA P w K mg base "_law_draw" 1 ["_law_bag_here", "_law_total"] (spDrawW)) (c_law_is_turned : CalA P w K mg base "_law_is_turned" 1 ["_law_one", "_law_two", "_law_three"] (spTurned K)) (c_law_lot : CalA P w K mg base "_law_lot" 3 ["_law_bag_here", "_law_items"] (spLawLot)) (c_law_mirrored : CalA P w K mg base "_law_mirrored" 1 ["_law_start", "_law_end", "_law_spot_here"] (spLawMir K)) (c_law_names : CalA P w K mg base "_law_names" 3 ["_law_bag_here", "_law_many"] (spNamesM)) (c_law_one_of : CalA P w K mg base "_law_one_of" 2 ["_law_bag_here", "_law_items"] (spOneOf K)) (c_law_pairs_of : CalA P w K mg base "_law_pairs_of" 1 ["_law_pins"] (spPairsOf)) (c_law_placing : CalA P w K mg base "_law_placing" 3 ["_law_bag_here", "_law_pins", "_law_space", "_law_spread"] (spLawPlac K)) (c_law_shuffled : CalA P w K mg base "_law_shuffled" 2 ["_law_bag_here", "_law_items"] (spShuffled)) (c_law_some_of : CalA P w K mg base "_law_some_of" 2 ["_law_bag_here", "_law_items", "_law_size"] (spSomeOf)) (c_law_square : CalA P w K mg base "_law_square" 1 ["_law_placing_here", "_law_one", "_law_other"] (spLawSquare K)) (care_alike : CalA P w K mg base "are_alike" 8 ["placing", "other_placing"] (spAlike K)) (cmirrored : CalA P w K mg base "mirrored" 8 ["placing", "one", "other", "side"] (spMirrored K)) (csquares : CalA P w K mg base "squares" 7 ["frame", "placing"] (spSquares K CFrame)) (D : DefAt K mg "_law_right" s_law_right ["_law_bag_here"]) : Cal P w K mg base "_law_right" 9 ["_law_bag_here"] (spRight) := by
  refine cal_of D sc_law_right (fun vs H Q E h => ?_) (fun f cdv A outer s H vs Q E hq hr h => ?_)
  · obtain ⟨a, rfl, _⟩ := h; rfl
  · have hu := hr.units
    replace hq := Quiet.deeper hq (envOfC "_law_right" (defScope s_law_right) s.heap.objs.size f cdv)
    have hrFrame___init__ := hr.mono (show 7 ≤ 8 by decide)
    have hr_law_draw := hr.mono (show 1 ≤ 8 by decide)
    have hr_law_is_turned := hr.mono (show 1 ≤ 8 by decide)
    have hr_law_lot := hr.mono (show 3 ≤ 8 by decide)
    have hr_law_mirrored := hr.mono (show 1 ≤ 8 by decide)
    have hr_law_names := hr.mono (show 3 ≤ 8 by decide)
    have hr_law_one_of := hr.mono (show 2 ≤ 8 by decide)
    have hr_law_pairs_of := hr.mono (show 1 ≤ 8 by decide)
    have hr_law_placing := hr.mono (show 3 ≤ 8 by decide)
    have hr_law_shuffled := hr.mono (show 2 ≤ 8 by decide)
    have hr_law_some_of := hr.mono (show 2 ≤ 8 by decide)
    have hr_law_square := hr.mono (show 1 ≤ 8 by decide)
    have hrare_alike := hr.mono (show 8 ≤ 8 by decide)
    have hrmirrored := hr.mono (show 8 ≤ 8 by decide)
    have hrsquares := hr.mono (show 7 ≤ 8 by decide)
    skip
    refine ⟨_, (pss_cons (ps_set (i := 1) sc_law_right.nd rfl (by first | exact Or.inl rfl | exact Or.inr rfl) (pe_callTy (r := rTupOf K) (by exact q_tupOf) (by rfl) B.b_tuple (by decide +kernel) (pa_cons (pe_callB (r := rSortedS K) (by exact cr_sortedS) (by rfl) B.b_sorted (by decide +kernel) (pa_cons (ac c_law_names hr_law_names (by rfl) (pa_cons (pv 0) (pa_cons (pe_op op_add pe_int (ac c_law_draw hr_law_draw (by rfl) (pa_cons (pv 0) (pa_cons pe_int pa_nil)))) pa_nil))) pa_nil)) pa_nil)))
        (pss_cons (ps_set (i := 2) sc_law_right.nd rfl (by first | exact Or.inl rfl | exact Or.inr rfl) (ac c_law_placing hr_law_placing (by rfl) (pa_cons (pv 0) (pa_cons (pv 1) (pa_cons pe_int (pa_cons (ac c_law_one_of hr_law_one_of (by rfl) (pa_cons (pv 0) (pa_cons (pe_lst (pa_cons pe_int (pa_cons pe_int (pa_cons (pe_op op_pow pe_int pe_int) pa_nil)))) pa_nil))) pa_nil))))))
        (pss_cons (ps_set (i := 3) sc_law_right.nd rfl (by first | exact Or.inl rfl | exact Or.inr rfl) (ac c_law_one_of hr_law_one_of (by rfl) (pa_cons (pv 0) (pa_cons (pv 1) pa_nil))))
        (pss_cons (ps_set (i := 4) sc_law_right.nd rfl (by first | exact Or.inl rfl | exact Or.inr rfl) (ac c_law_one_of hr_law_one_of (by rfl) (pa_cons (pv 0) (pa_cons (pe_lc (own := [("_law_pin", 17)]) (g := gName 17) (by rfl) sc_law_right.nd (pi_tup (pv 1)) (blkOk_by (own := [("_law_pin", 17)]) (N := ["_law_bag_here", "_law_pins", "_law_placing_here", "_law_one", "_law_other", "_law_rest", "_law_side", "_law_size", "_law_start", "_law_end", "_law_first", "_law_second", "_law_told", "_law_apart", "_law_frame", "_law_off", "_law_is_plain", "_law_pin", "_law_pair"]) (sc := defScope s_law_right) (by decide +kernel)) (fun _ _ _ _ _ => (pg_name (i := 17) sc_law_right.nd rfl (by first | exact Or.inl rfl | exact Or.inr rfl))) (fun _ _ _ _ _ => (pts_one (pt_cmpR op_ne (pv 17) (pv 3) (nomark _)))) (fun _ _ _ _ _ => (pv 17))) pa_nil))))
        (pss_cons (ps_if (pt_cmpR (r := rEqD K) (by exact (op_eqD hu)) (pe_dget (units1 hu) (pv 2) (pv 3) (fun _ _ => rfl)) (pe_dget (units1 hu) (pv 2) (pv 4) (fun _ _ => rfl)) (nomark _)) (pss_one (ps_asg (pe_tup (pa_cons (pe_op op_add (pe_ix (r := rIxT K) (by exact ix_tup) (pe_dget (units1 hu) (pv 2) (pv 3) (fun _ _ => rfl)) pe_int (fun _ _ => rfl)) pe_int) (pa_cons (pe_op op_sub (pe_ix (r := rIxT K) (by exact ix_tup) (pe_dget (units1 hu) (pv 2) (pv 3) (fun _ _ => rfl)) pe_int (fun _ _ => rfl)) pe_int) pa_nil))) (pg_sub (pv 2) (pv 4) (set_dict (units1 hu))))) pss_nil)
        (pss_cons (ps_setLc (i := 5) (own := [("_law_pin", 17)]) (g := gName 17) (by rfl) sc_law_right.nd rfl rfl (sw_true rfl rfl rfl (by decide +kernel)) (pi_tup (pv 1)) (blkOk_by (own := [("_law_pin", 17)]) (N := ["_law_bag_here", "_law_pins", "_law_placing_here", "_law_one", "_law_other", "_law_rest", "_law_side", "_law_size", "_law_start", "_law_end", "_law_first", "_law_second", "_law_told", "_law_apart", "_law_frame", "_law_off", "_law_is_plain", "_law_pin", "_law_pair"]) (sc := defScope s_law_right) (by decide +kernel)) (fun _ _ _ _ _ => (pg_name (i := 17) sc_law_right.nd rfl (by first | exact Or.inl rfl | exact Or.inr rfl))) (fun _ _ _ _ _ => (pts_one (pt_cmpR (r := rIn K true) (by exact op_notIn_seq) (pv 17) (pe_tup (pa_cons (pv 3) (pa_cons (pv 4) pa_nil))) (by rfl)))) (fun _ _ _ _ _ => (pv 17)))
        (pss_cons (ps_set (i := 6) sc_law_right.nd rfl (by first | exact Or.inl rfl | exact Or.inr rfl) (ac c_law_lot hr_law_lot (by rfl) (pa_cons (pv 0) (pa_cons (pv 5) pa_nil))))
        (pss_cons (ps_asg (pe_tup (pa_cons (ac c_law_square hr_law_square (by rfl) (pa_cons (pv 2) (pa_cons (pv 3) (pa_cons (pv 4) pa_nil)))) (pa_cons (pe_dget (units1 hu) (pv 2) (pv 3) (fun _ _ => rfl)) (pa_cons (pe_dget (units1 hu) (pv 2) (pv 4) (fun _ _ => rfl)) pa_nil)))) (pg_tup (by rfl) (pgs_cons (pg_name (i := 7) sc_law_right.nd rfl (by first | exact Or.inl rfl | exact Or.inr rfl)) (pgs_cons (pg_name (i := 8) sc_law_right.nd rfl (by first | exact Or.inl rfl | exact Or.inr rfl)) (pgs_cons (pg_name (i := 9) sc_law_right.nd rfl (by first | exact Or.inl rfl | exact Or.inr rfl)) pgs_nil)))))
        (pss_cons (ps_set (i := 10) sc_law_right.nd rfl (by first | exact Or.inl rfl | exact Or.inr rfl) (pe_callTy (call_dictP rfl) (by rfl) B.b_dict (by decide +kernel) (pa_cons (pe_lc (own := [("_law_pin", 17)]) (g := gName 17) (tt := tYes) (by rfl) sc_law_right.nd (pi_tup (pv 1)) (blkOk_by (own := [("_law_pin", 17)]) (N := ["_law_bag_here", "_law_pins", "_law_placing_here", "_law_one", "_law_other", "_law_rest", "_law_side", "_law_size", "_law_start", "_law_end", "_law_first", "_law_second", "_law_told", "_law_apart", "_law_frame", "_law_off", "_law_is_plain", "_law_pin", "_law_pair"]) (sc := defScope s_law_right) (by decide +kernel)) (fun _ _ _ _ _ => (pg_name (i := 17) sc_law_right.nd rfl (by first | exact Or.inl rfl | exact Or.inr rfl))) (fun _ _ _ _ _ => pts_nil) (fun _ _ _ _ _ => (pe_tup (pa_cons (pv 17) (pa_cons (pe_tup (pa_cons (pe_op op_mulW (pv 7) (pe_ix (r := rIxT K) (by exact ix_tup) (pe_dget (units1 hu) (pv 2) (pv 17) (fun _ _ => rfl)) pe_int (fun _ _ => rfl))) (pa_cons (pe_op op_mulW (pv 7) (pe_ix (r := rIxT K) (by exact ix_tup) (pe_dget (units1 hu) (pv 2) (pv 17) (fun _ _ => rfl)) pe_int (fun _ _ => rfl))) pa_nil))) pa_nil))))) pa_nil)))
        (pss_cons (ps_set (i := 11) sc_law_right.nd rfl (by first | exact Or.inl rfl | exact Or.inr rfl) (pe_callTy (call_dictP rfl) (by rfl) B.b_dict (by decide +kernel) (pa_cons (pe_lc (own := [("_law_pin", 17)]) (g := gName 17) (tt := tYes) (by rfl) sc_law_right.nd (pi_tup (pv 1)) (blkOk_by (own := [("_law_pin", 17)]) (N := ["_law_bag_here", "_law_pins", "_law_placing_here", "_law_one", "_law_other", "_law_rest", "_law_side", "_law_size", "_law_start", "_law_end", "_law_first", "_law_second", "_law_told", "_law_apart", "_law_frame", "_law_off", "_law_is_plain", "_law_pin", "_law_pair"]) (sc := defScope s_law_right) (by decide +kernel)) (fun _ _ _ _ _ => (pg_name (i := 17) sc_law_right.nd rfl (by first | exact Or.inl rfl | exact Or.inr rfl))) (fun _ _ _ _ _ => pts_nil) (fun _ _ _ _ _ => (pe_tup (pa_cons (pv 17) (pa_cons (pe_ifExp (pt_cmpR (r := rIn K false) (by exact op_in_seq) (pv 17) (pv 6) (by rfl)) (ac c_law_mirrored hr_law_mirrored (by rfl) (pa_cons (pv 8) (pa_cons (pv 9) (pa_cons (pe_dget (units1 hu) (pv 2) (pv 17) (fun _ _ => rfl)) pa_nil)))) (pe_dget (units1 hu) (pv 10) (pv 17) (fun _ _ => rfl))) pa_nil))))) pa_nil)))
        (pss_cons (ps_set (i := 12) sc_law_right.nd rfl (by first | exact Or.inl rfl | exact Or.inr rfl) (ac cmirrored hrmirrored (by rfl) (pa_cons (pe_callTy (call_dictP rfl) (by rfl) B.b_dict (by decide +kernel) (pa_cons (ac c_law_shuffled hr_law_shuffled (by rfl) (pa_cons (pv 0) (pa_cons (LiI.pe_listItems (by rfl) (pv 2) (by rfl) B.b_list (by decide +kernel)) pa_nil))) pa_nil)) (pa_cons (pv 3) (pa_cons (pv 4) (pa_cons (pv 6) pa_nil))))))
        (pss_cons (ps_if (PW.pt (pw_or (pt_cmpR (r := rNeB K) (by exact (op_neB (units100 hr))) (pv 12) (pe_tup (pa_cons (pv 10) (pa_cons (pv 11) pa_nil))) (nomark _)) (pw_or (pt_cmpR (r := rNeD K) (by exact (op_neD hu)) (pe_callTy (call_listD rfl) (by rfl) B.b_list (by decide +kernel) (pa_cons (pe_ix (r := rIxT K) (by exact ix_tup) (pv 12) pe_int (fun _ _ => rfl)) pa_nil)) (pe_callTy (r := rLstOf K) (by exact q_lstOf) (by rfl) B.b_list (by decide +kernel) (pa_cons (pv 1) pa_nil)) (nomark _)) (pw_or1 (pt_cmpR (r := rNeD K) (by exact (op_neD hu)) (pe_callTy (call_listD rfl) (by rfl) B.b_list (by decide +kernel) (pa_cons (pe_ix (r := rIxT K) (by exact ix_tup) (pv 12) pe_int (fun _ _ => rfl)) pa_nil)) (pe_callTy (r := rLstOf K) (by exact q_lstOf) (by rfl) B.b_list (by decide +kernel) (pa_cons (pv 1) pa_nil)) (nomark _)))))) (pss_one (ps_ret pe_bl)) pss_nil)
        (pss_cons (ps_setLc (i := 13) (own := [("_law_pair", 18)]) (g := gName 18) (by rfl) sc_law_right.nd rfl rfl (sw_true rfl rfl rfl (by decide +kernel)) (pi_list (ac c_law_pairs_of hr_law_pairs_of (by rfl) (pa_cons (pv 1) pa_nil))) (blkOk_by (own := [("_law_pair", 18)]) (N := ["_law_bag_here", "_law_pins", "_law_placing_here", "_law_one", "_law_other", "_law_rest", "_law_side", "_law_size", "_law_start", "_law_end", "_law_first", "_law_second", "_law_told", "_law_apart", "_law_frame", "_law_off", "_law_is_plain", "_law_pin", "_law_pair"]) (sc := defScope s_law_right) (by decide +kernel)) (fun _ _ _ _ _ => (pg_name (i := 18) sc_law_right.nd rfl (by first | exact Or.inl rfl | exact Or.inr rfl))) (fun _ _ _ _ _ => (pts_one (PW.pt (pw_or (pt_cmpR op_eq (pe_cmpR (r := rIn K false) (by exact op_in_seq) (pe_ix (r := rIxT K) (by exact ix_tup) (pv 18) pe_int (fun _ _ => rfl)) (pv 6) (by rfl)) (pe_cmpR (r := rIn K false) (by exact op_in_seq) (pe_ix (r := rIxT K) (by exact ix_tup) (pv 18) pe_int (fun _ _ => rfl)) (pv 6) (by rfl)) (nomark _)) (pw_or (pt_cmpR (r := rIn K false) (by exact op_in_seq) (pv 3) (pv 18) (by rfl)) (pw_or1 (pt_cmpR (r := rIn K false) (by exact op_in_seq) (pv 4) (pv 18) (by rfl)))))))) (fun _ _ _ _ _ => (pv 18)))
        (pss_cons (ps_set (i := 14) sc_law_right.nd rfl (by first | exact Or.inl rfl | exact Or.inr rfl) (mkc [] (by simp) cFrame___init__ hrFrame___init__ (by rfl) (pa_cons (pv 1) (pa_cons (pe_callTy (r := rTupOf K) (by exact q_tupOf) (by rfl) B.b_tuple (by decide +kernel) (pa_cons (ac c_law_some_of hr_law_some_of (by rfl) (pa_cons (pv 0) (pa_cons (pv 13) (pa_cons (ac c_law_one_of hr_law_one_of (by rfl) (pa_cons (pv 0) (pa_cons (pe_lst (pa_cons pe_int (pa_cons pe_int pa_nil))) pa_nil))) pa_nil)))) pa_nil)) pa_nil))))
        (pss_cons (ps_if (pt_cmpR (r := rNeB K) (by exact (op_neB (units100 hr))) (ac csquares hrsquares (by rfl) (pa_cons (pv 14) (pa_cons (pe_ix (r := rIxT K) (by exact ix_tup) (pv 12) pe_int (fun _ _ => rfl)) pa_nil))) (ac csquares hrsquares (by rfl) (pa_cons (pv 14) (pa_cons (pe_ix (r := rIxT K) (by exact ix_tup) (pv 12) pe_int (fun _ _ => rfl)) pa_nil))) (nomark _)) (pss_one (ps_ret pe_bl)) pss_nil)
        (pss_cons (ps_setLc (i := 15) (own := [("_law_pin", 17)]) (g := gName 17) (by rfl) sc_law_right.nd rfl rfl (sw_true rfl rfl rfl (by decide +kernel)) (pi_list (pv 5)) (blkOk_by (own := [("_law_pin", 17)]) (N := ["_law_bag_here", "_law_pins", "_law_placing_here", "_law_one", "_law_other", "_law_rest", "_law_side", "_law_size", "_law_start", "_law_end", "_law_first", "_law_second", "_law_told", "_law_apart", "_law_frame", "_law_off", "_law_is_plain", "_law_pin", "_law_pair"]) (sc := defScope s_law_right) (by decide +kernel)) (fun _ _ _ _ _ => (pg_name (i := 17) sc_law_right.nd rfl (by first | exact Or.inl rfl | exact Or.inr rfl))) (fun _ _ _ _ _ => (pts_one (pt_cmpR op_ne (ac c_law_is_turned hr_law_is_turned (by rfl) (pa_cons (pv 8) (pa_cons (pv 9) (pa_cons (pe_dget (units1 hu) (pv 2) (pv 17) (fun _ _ => rfl)) pa_nil)))) pe_int (nomark _)))) (fun _ _ _ _ _ => (pv 17)))
        (pss_cons (ps_set (i := 16) sc_law_right.nd rfl (by first | exact Or.inl rfl | exact Or.inr rfl) (pe_or (pe_cmpR (r := rEqD K) (by exact (op_eqD hu)) (pe_lc (own := [("_law_pin", 17)]) (g := gName 17) (by rfl) sc_law_right.nd (pi_list (pv 15)) (blkOk_by (own := [("_law_pin", 17)]) (N := ["_law_bag_here", "_law_pins", "_law_placing_here", "_law_one", "_law_other", "_law_rest", "_law_side", "_law_size", "_law_start", "_law_end", "_law_first", "_law_second", "_law_told", "_law_apart", "_law_frame", "_law_off", "_law_is_plain", "_law_pin", "_law_pair"]) (sc := defScope s_law_right) (by decide +kernel)) (fun _ _ _ _ _ => (pg_name (i := 17) sc_law_right.nd rfl (by first | exact Or.inl rfl | exact Or.inr rfl))) (fun _ _ _ _ _ => (pts_one (pt_cmpR (r := rIn K false) (by exact op_in_seq) (pv 17) (pv 6) (by rfl)))) (fun _ _ _ _ _ => (pv 17))) (pe_lst pa_nil) (nomark _)) (pe_one (pe_cmpR (r := rEqD K) (by exact (op_eqD hu)) (pe_lc (own := [("_law_pin", 17)]) (g := gName 17) (by rfl) sc_law_right.nd (pi_list (pv 15)) (blkOk_by (own := [("_law_pin", 17)]) (N := ["_law_bag_here", "_law_pins", "_law_placing_here", "_law_one", "_law_other", "_law_rest", "_law_side", "_law_size", "_law_start", "_law_end", "_law_first", "_law_second", "_law_told", "_law_apart", "_law_frame", "_law_off", "_law_is_plain", "_law_pin", "_law_pair"]) (sc := defScope s_law_right) (by decide +kernel)) (fun _ _ _ _ _ => (pg_name (i := 17) sc_law_right.nd rfl (by first | exact Or.inl rfl | exact Or.inr rfl))) (fun _ _ _ _ _ => (pts_one (pt_cmpR (r := rIn K true) (by exact op_notIn_seq) (pv 17) (pv 6) (by rfl)))) (fun _ _ _ _ _ => (pv 17))) (pe_lst pa_nil) (nomark _)))))
        (pss_one (ps_ret (pe_cmpR op_eq (ac care_alike hrare_alike (by rfl) (pa_cons (pe_ix (r := rIxT K) (by exact ix_tup) (pv 12) pe_int (fun _ _ => rfl)) (pa_cons (pe_ix (r := rIxT K) (by exact ix_tup) (pv 12) pe_int (fun _ _ => rfl)) pa_nil))) (pv 16) (nomark _))))))))))))))))))))), ?_⟩
    obtain ⟨a, rfl, hb, k⟩ := h
    refine rd_at [some (.ref a), none, none, none, none, none, none, none, none, none, none, none, none, none, none, none, none, none, none] rfl ?_
    walk_at "rd"
    refine ⟨a, 5, rfl, hb, by decide, by decide, fun d H1 d0 d5 u1 b1 => ?_⟩
    walk_at "rd"
    refine ⟨a, 2 + d.toNat, (by rw [show (2 + d : Int) = ((2 + d.toNat : Nat) : Int) by omega]), b1, by omega, by omega, fun ys l H2 ly nd nm u2 b2 hl => ?_⟩
    walk_at "rd"
    refine ⟨l, ys, rfl, SqL.of hl, by omega, fun P o pm sz no => ?_⟩
    have lP := pm.length_eq
    have okP : PinsOk P := ⟨sorted_asc sz (pm.nodup_iff.mpr nd), fun z hz => nm z (pm.mem_iff.mp hz), by omega⟩
    have one : 2 ≤ P.length := by omega
    have s3 : Same H2 (upd H2 o (.lst (P.map V.str))) := fun b u e => up_old no e
    have g3 : upd H2 o (.lst (P.map V.str)) o = some (.lst (P.map V.str)) := upd_same
    have b3 := bag_same s3 b2
    have u3 := (u1.trans u2).trans (same_but s3)
    generalize upd H2 o (.lst (P.map V.str)) = H3 at s3 g3 b3 u3
    walk_at "rd"
    refine ⟨o, _, rfl, Or.inl ⟨SqL.of g3, fun t nt => ?_⟩⟩
    have s4 : Same H3 (upd H3 t (.tup (P.map V.str))) := fun b u e => up_old nt e
    have ht : Lay.PT (upd H3 t (.tup (P.map V.str))) t P := upd_same
    have b4 := bag_same s4 b3
    have u4 := u3.trans (same_but s4)
    generalize upd H3 t (.tup (P.map V.str)) = H4 at s4 ht b4 u4
    clear g3 s3 s4 u1 u2 u3 b1 b2 b3 hl hb
    walk_at "rd"
    intro q5 n5
    have s5 : Same H4 (upd H4 q5 (.lst [.int 2, .int 4, .int (10 ^ (30 : Int).toNat)])) := fun b u e => up_old n5 e
    have g5 : upd H4 q5 (.lst [.int 2, .int 4, .int (10 ^ (30 : Int).toNat)]) q5 = some (.lst [.int 2, .int 4, .int (10 ^ (30 : Int).toNat)]) := upd_same
    have b5 := bag_same s5 b4
    have u5 := u4.trans (same_but s5)
    have n5a := bag_none b4 n5
    generalize upd H4 q5 (.lst [.int 2, .int 4, .int (10 ^ (30 : Int).toNat)]) = H5 at s5 g5 b5 u5
    walk_at "rd"
    refine ⟨a, q5, _, rfl, b5, .inl g5, n5a, by decide, by decide, fun v H6 mv u6 b6 => ?_⟩
    obtain ⟨n, rfl, n1, n2⟩ : ∃ n : Int, v = .int n ∧ 1 ≤ n ∧ n ≤ 10 ^ 30 := by
      rcases List.mem_cons.mp mv with e | mv
      · exact ⟨2, e, by decide, by decide +kernel⟩
      rcases List.mem_cons.mp mv with e | mv
      · exact ⟨4, e, by decide, by decide +kernel⟩
      · exact ⟨10 ^ 30, List.mem_singleton.mp mv, by decide +kernel, Int.le_refl _⟩
    have nta : t ≠ a := bag_tup b4 ht
    have ht6 : Lay.PT H6 t P := u6 _ _ nta (s5 _ _ ht)
    walk_at "rd"
    refine ⟨a, t, P, n, rfl, b6, ht6, okP, by omega, n1, n2, fun dd f H7 okf n7 u7 b7 hd td => ?_⟩
    have ht7 : Lay.PT H7 t P := u7 _ _ nta ht6
    have u07 := (u5.trans u6).trans u7
    have nd0 : H dd = none := (u5.trans u6).free (fun e => by rw [e] at n7; exact bag_none b6 n7 rfl) n7
    clear g5 s5 u4 u5 u6 u7 b4 b5 b6 ht ht6
    walk_at "rd"
    refine ⟨a, t, _, rfl, b7, .inr ht7, nta, by rw [List.length_map]; omega, by rw [List.length_map]; omega, fun v H8 mv u8 b8 => ?_⟩
    obtain ⟨x, mx, rfl⟩ := List.mem_map.mp mv
    have ht8 : Lay.PT H8 t P := u8 _ _ nta ht7
    walk_at "rd"
    have u08 := u07.trans u8
    have hd8 := bag_plc b7 u8 hd
    have td8 := bag_plt b7 u8 hd td
    clear hd td ht7 u8 u07 b7
    have few := okP.few
    refine ⟨⟨_, SqT.of ht8⟩, fun E hE => ?_⟩
    refine lc_same (wk_tup (xs := P.map V.str) .non) (b := fun j => !decide (P.getD j "" = x)) (f := fun j => .str (P.getD j "")) (by rw [List.length_map]; omega) hE (fun H' hs => SqT.of (hs _ _ ht8)) ?_ ?_ ?_
    · intro j hj H' hs R kk
      rw [List.length_map] at hj
      rw [getD_strs hj]
      walk_at "rd"
      exact rd_neZ ⟨_, rfl, kk H' (Same.refl _)⟩
    · intro j hj _ H' hs R kk
      rw [List.length_map] at hj
      rw [getD_strs hj]
      walk_at "rd"
      exact kk H' (Same.refl _)
    intro H9 s9 hl9
    rw [List.length_map, pick_strs P (fun z => !decide (z = x))] at hl9
    have b9 := bag_same s9 b8
    have pos := other_pos (x := x) okP.asc.nodup one
    have lfil := List.length_filter_le (fun z => !decide (z = x)) P
    walk_at "rd"
    refine ⟨a, E, _, rfl, b9, .inl hl9, bag_strs b9 hl9, by rw [List.length_map]; exact pos, by rw [List.length_map]; omega, fun v H10 mv u10 b10 => ?_⟩
    obtain ⟨y, my, rfl⟩ := List.mem_map.mp mv
    rw [List.mem_filter] at my
    have nyx : y ≠ x := fun e => by
      have := my.2
      rw [decide_eq_true e] at this
      cases this
    replace my := my.1
    have ht10 := u10 _ _ nta (s9 _ _ ht8)
    have hd10 := bag_plc b9 u10 (hd8.same s9)
    have td10 : PlT K H10 dd := by
      obtain ⟨kvs, e, _⟩ := hd8.dict
      exact bag_plt b9 u10 (hd8.same s9) (PlT.same s9 kvs e td8)
    have u010 := u08.trans ((same_but s9).trans u10)
    clear hl9 lfil pos mv u10 u08 b9 b8 s9 hd8 td8 ht8 hE
    walk_at "rd1"
    refine rd_next ?_
    with_reducible refine rd_seq ?_
    refine rd_mid (fun σ' H' => σ' = [some (.ref a), some (.ref t), some (.ref dd), some (.str x), some (.str y), none, none, none, none, none, none, none, none, none, none, none, none, none, none] ∧ But a H H' ∧ BagAt H' a ∧ Lay.PT H' t P ∧ ∃ f : Str → Int × Int, PlOk P f 120 ∧ f x ≠ f y ∧ Plc K H' dd P (Pl f) ∧ PlT K H' dd) ?rest ?first
    case first =>
      intro N hN
      walk_at "rd"
      refine rd_dget ?_
      walk_at "rd"
      refine plc_get hd10 mx fun p1 hp1 => ?_
      walk_at "rd"
      refine rd_dget ?_
      walk_at "rd"
      refine plc_get hd10 my fun p2 hp2 => ?_
      walk_at "rd"
      refine rd_eqSp hp1 hp2 ?_
      refine ⟨_, rfl, ?_⟩
      by_cases eq : Pl f x = Pl f y
      · rw [if_pos (decide_eq_true eq)]
        walk_at "rd"
        refine rd_dget ?_
        walk_at "rd"
        refine plc_get hd10 mx fun p3 hp3 => ?_
        walk_at "rd"
        refine rd_ixT hp3 (at_nat (j := 0) rfl) ?_
        walk_at "rd"
        refine rd_dget ?_
        walk_at "rd"
        refine plc_get hd10 mx fun p4 hp4 => ?_
        walk_at "rd"
        refine rd_ixT hp4 (at_nat (j := 1) rfl) ?_
        walk_at "rd"
        intro q nq
        have s11 : Same H10 (upd H10 q (.tup [.int ((f x).1 + 3), .int ((f x).2 - 1)])) := fun b u e => up_old nq e
        have g11 : upd H10 q (.tup [.int ((f x).1 + 3), .int ((f x).2 - 1)]) q = some (.tup (sv [((f x).1 + 3, (f x).2 - 1).1, ((f x).1 + 3, (f x).2 - 1).2])) := upd_same
        generalize upd H10 q (.tup [.int ((f x).1 + 3), .int ((f x).2 - 1)]) = H11 at s11 g11
        obtain ⟨kvs, e10, _⟩ := hd10.dict
        obtain ⟨o2, dp, c1, c2⟩ := plc_put (hd10.same s11) (PlT.same s11 kvs e10 td10) (by omega) my g11
        have nda := bag_dict b10 e10
        walk_at "rd"
        refine ⟨dd, _, rfl, dp, ?_⟩
        refine hN _ _ ⟨rfl, fun b ob nb e => ?_, ?_, ?_, _, ⟨okf.nd, okf.nm, okf.one, okf.few, fun z hz => ?_⟩, ?_, c1, c2⟩
        · rw [upd_ne (ne_of_none e nd0)]
          exact s11 _ _ (u010 b ob nb e)
        · obtain ⟨g, m, c, ea, r⟩ := bag_same s11 b10
          exact ⟨g, m, c, by rw [upd_ne nda.symm]; exact ea, r⟩
        · have e := s11 _ _ ht10
          show upd H11 dd o2 t = _
          rw [upd_ne (fun q => by rw [q, s11 _ _ e10] at e; cases e)]
          exact e
        · show Bs 120 (if z = y then ((f x).1 + 3, (f x).2 - 1) else f z)
          by_cases e : z = y
          · rw [if_pos e]
            exact ⟨((okf.bd x mx).1.add Int.three_bd).mono (by decide), ((okf.bd x mx).2.sub Int.one_bd).mono (by decide)⟩
          · rw [if_neg e]
            exact (okf.bd z hz).mono (by decide)
        · show (if x = y then ((f x).1 + 3, (f x).2 - 1) else f x) ≠ (if y = y then ((f x).1 + 3, (f x).2 - 1) else f y)
          rw [if_neg (fun e => nyx e.symm), if_pos rfl]
          intro e
          have := congrArg Prod.fst e
          simp only at this
          omega
      · rw [if_neg (fun h => eq (of_decide_eq_true h))]
        walk_at "rd"
        exact hN _ _ ⟨rfl, u010, b10, ht10, f, okf.mono (by decide), fun e => eq (by unfold Pl; rw [e]), hd10, td10⟩
    case rest =>
      clear hd10 td10 okf
      rintro _ H11 ⟨rfl, u11, b11, ht11, f, okf, nf, hd11, td11⟩
      obtain ⟨kvs, e11, _, ek11⟩ := hd11.dict
      have nda := bag_dict b11 e11
      walk_at "rd"
      refine ⟨⟨_, SqT.of ht11⟩, fun ER hE => ?_⟩
      refine lc_same (wk_tup (xs := P.map V.str) .non) (b := fun j => !decide (P.getD j "" ∈ [x, y])) (f := fun j => .str (P.getD j "")) (by rw [List.length_map]; omega) hE (fun H' hs => SqT.of (hs _ _ ht11)) ?_ ?_ ?_
      · intro j hj H' hs R kk
        rw [List.length_map] at hj
        rw [getD_strs hj]
        walk_at "rd"
        intro q nq
        refine rd_niZ (L := [x, y]) (.inr (SqT.of upd_same)) ?_
        exact ⟨_, rfl, kk _ (fun c o e => up_old nq e)⟩
      · intro j hj _ H' hs R kk
        rw [List.length_map] at hj
        rw [getD_strs hj]
        walk_at "rd"
        exact kk H' (Same.refl _)
      intro H12 s12 hl12
      rw [List.length_map, pick_strs P (fun z => !decide (z ∈ [x, y]))] at hl12
      have b12 := bag_same s12 b11
      have lfil := List.length_filter_le (fun z => !decide (z ∈ [x, y])) P
      have restP : (P.filter fun z => !decide (z ∈ [x, y])).Sublist P := List.filter_sublist
      have restN : ∀ z ∈ (P.filter fun z => !decide (z ∈ [x, y])), z ∈ P ∧ z ≠ x ∧ z ≠ y := fun z hz => by
        rw [List.mem_filter] at hz
        have h2 := hz.2
        rw [Bool.not_eq_true', decide_eq_false_iff_not] at h2
        exact ⟨hz.1, fun e => h2 (e ▸ List.mem_cons_self), fun e => h2 (e ▸ List.mem_cons_of_mem _ List.mem_cons_self)⟩
      generalize hRs : (P.filter fun z => !decide (z ∈ [x, y])) = Rs at hl12 lfil restP restN
      walk_at "rd"
      refine ⟨a, ER, Rs, rfl, b12, hl12, bag_strs b12 hl12, by omega, fun l H13 S u13 b13 hl subS => ?_⟩
      have ht13 := u13 _ _ nta (s12 _ _ ht11)
      have hd13 := bag_plc b12 u13 (hd11.same s12)
      have td13 := bag_plt b12 u13 (hd11.same s12) (PlT.same s12 kvs e11 td11)
      have hr13 := u13 _ _ (bag_strs b12 hl12) hl12
      have u013 := u11.trans ((same_but s12).trans u13)
      have okS : PinsOk S := (okP.sub restP).sub subS
      have subP : ∀ z ∈ S, z ∈ P ∧ z ≠ x ∧ z ≠ y := fun z hz => restN z (subS.subset hz)
      clear hd11 td11 ht11 hl12 u11 b11 b12 u13 s12 hE e11 ek11
      walk_at "rd"
      refine ⟨dd, x, y, P, f, rfl, hd13, okf.mono (by decide), mx, my, fun H14 s14 => ?_⟩
      walk_at "rd"
      refine rd_dget ?_
      walk_at "rd"
      refine plc_get (hd13.same s14) mx fun p1 hp1 => ?_
      walk_at "rd"
      refine rd_dget ?_
      walk_at "rd"
      refine plc_get (hd13.same s14) my fun p2 hp2 => ?_
      walk_at "rd"
      intro p14 np14
      have s15 : Same H14 (upd H14 p14 (.tup [.int (sq2 (f x) (f y)), .ref p1, .ref p2])) := fun c o e => up_old np14 e
      have g15 : upd H14 p14 (.tup [.int (sq2 (f x) (f y)), .ref p1, .ref p2]) p14 = some (.tup [.int (sq2 (f x) (f y)), .ref p1, .ref p2]) := upd_same
      generalize upd H14 p14 (.tup [.int (sq2 (f x) (f y)), .ref p1, .ref p2]) = H15 at s15 g15
      refine ⟨p14, _, rfl, SqT.of g15, rfl, ⟨_, _, rfl, rd_name ⟨_, _, rfl, rd_name ⟨_, _, rfl, rd_name ⟨rfl, ?_⟩⟩⟩⟩⟩
      have s135 := s14.trans s15
      have hs1 : S2 K H15 p1 (f x) := SqT.same' s15 hp1
      have hs2 : S2 K H15 p2 (f y) := SqT.same' s15 hp2
      have ht15 := s135 _ _ ht13
      have hd15 := hd13.same s135
      have td15 : PlT K H15 dd := by
        obtain ⟨kvs, e, _⟩ := hd13.dict
        exact PlT.same s135 kvs e td13
      have b15 := bag_same s135 b13
      have u015 := u013.trans (same_but s135)
      have hl15 : Lay.PT H15 l S := s135 _ _ hl
      have hr15 := s135 _ _ hr13
      have bdS : Bd 243 (sq2 (f x) (f y)) := (dot_bd ((okf.bd x mx).sub (okf.bd y my)) ((okf.bd x mx).sub (okf.bd y my))).mono (by decide)
      clear s14 s15 g15 s135 hp1 hp2 ht13 hd13 td13 b13 u013 hl hr13
      walk_at "rd"
      refine ⟨⟨_, SqT.of ht15⟩, fun E hE => ?_⟩
      refine lc_namesS (wk_tup (xs := P.map V.str) .non) (zs := P) (by rw [List.length_map]) (fun j z e => by rw [List.getD_eq_getElem?_getD, List.getElem?_map, e]; rfl) (by rw [List.length_map]; omega) hE (fun H' s => SqT.of (s _ _ ht15)) (Pr fun z s => s = firF f x y z) Pr.mono (fun z mz H' s R kk => ?_) (fun rs H' rel s hlst => ?_)
      · walk_at "rd"
        refine rd_dget ?_
        walk_at "rd"
        refine plc_get (hd15.same s) mz fun p hp => ?_
        walk_at "rd"
        refine rd_ixT hp (at_nat (j := 0) rfl) ?_
        walk_at "rd"
        refine rd_mulW (bdS.w (okf.bd z mz).1 (by decide)) ?_
        walk_at "rd"
        refine rd_dget ?_
        walk_at "rd"
        refine plc_get (hd15.same s) mz fun p' hp' => ?_
        walk_at "rd"
        refine rd_ixT hp' (at_nat (j := 1) rfl) ?_
        walk_at "rd"
        refine rd_mulW (bdS.w (okf.bd z mz).2 (by decide)) ?_
        walk_at "rd"
        intro q nq
        have s1 : Same H' (upd H' q (.tup [.int (sq2 (f x) (f y) * (f z).1), .int (sq2 (f x) (f y) * (f z).2)])) := fun c o e => up_old nq e
        have g1 : upd H' q (.tup [.int (sq2 (f x) (f y) * (f z).1), .int (sq2 (f x) (f y) * (f z).2)]) q = some (.tup [.int (sq2 (f x) (f y) * (f z).1), .int (sq2 (f x) (f y) * (f z).2)]) := upd_same
        generalize upd H' q (.tup [.int (sq2 (f x) (f y) * (f z).1), .int (sq2 (f x) (f y) * (f z).2)]) = Hq at s1 g1
        walk_at "rd"
        intro q2 nq2
        have s2 : Same Hq (upd Hq q2 (.tup [.str z, .ref q])) := fun c o e => up_old nq2 e
        exact kk q2 _ (s1.trans s2) ⟨q, firF f x y z, upd_same, rfl, s2 _ _ g1⟩
      obtain ⟨fD, f1, pp, all⟩ := pairs_back (K := K) rel okP.asc.nodup
      walk_at "rd"
      refine ⟨E, rs, _, rfl, SqL.of hlst, pp, fun d1 nd1 => ?_⟩
      rw [merge_nil okP.asc.nodup]
      have s16 : Same H' (upd H' d1 (.dK (P.map fun z => (Sum.inr z, fD z)))) := fun c o e => up_old nd1 e
      have g16 : upd H' d1 (.dK (P.map fun z => (Sum.inr z, fD z))) d1 = some (dKf P fD) := upd_same
      have m16 : Md (upd H' d1 (.dK (P.map fun z => (Sum.inr z, fD z)))) P fD (firF f x y) := fun z hz => by
        obtain ⟨e, p, e1, e2⟩ := all z hz
        rw [e] at e2
        exact ⟨p, e1, s16 _ _ e2⟩
      generalize upd H' d1 (.dK (P.map fun z => (Sum.inr z, fD z))) = H16 at s16 g16 m16
      replace s16 := s.trans s16
      clear rel s hlst pp all hE nd1
      walk_at "rd"
      refine ⟨⟨_, SqT.of (s16 _ _ ht15)⟩, fun E hE => ?_⟩
      refine lc_namesS (wk_tup (xs := P.map V.str) .non) (zs := P) (by rw [List.length_map]) (fun j z e => by rw [List.getD_eq_getElem?_getD, List.getElem?_map, e]; rfl) (by rw [List.length_map]; omega) hE (fun H' s => SqT.of (s _ _ (s16 _ _ ht15))) (Pr fun z s => s = mirF f x y S z) Pr.mono (fun z mz H' s R kk => ?_) (fun rs H' rel s hlst => ?_)
      · walk_at "rd"
        refine rd_inZ (L := S) (.inr (SqT.of (s _ _ (s16 _ _ hl15)))) ?_
        refine ⟨_, rfl, ?_⟩
        by_cases mS : z ∈ S
        · rw [if_pos (decide_eq_true mS)]
          walk_at "rd"
          refine rd_dget ?_
          walk_at "rd"
          refine plc_get (hd15.same (s16.trans s)) mz fun p hp => ?_
          walk_at "rd"
          refine ⟨p1, p2, p, f x, f y, f z, rfl, SqT.same' (s16.trans s) hs1, SqT.same' (s16.trans s) hs2, hp, (okf.bd x mx).mono (by decide), (okf.bd y my).mono (by decide), (okf.bd z mz).mono (by decide), fun q Hq s1 nq g1 => ?_⟩
          walk_at "rd"
          intro q2 nq2
          have s2 : Same Hq (upd Hq q2 (.tup [.str z, .ref q])) := fun c o e => up_old nq2 e
          refine kk q2 _ (s1.trans s2) ⟨q, mir (f x) (f y) (f z), upd_same, ?_, s2 _ _ g1⟩
          show _ = mirF f x y S z
          unfold mirF
          rw [if_pos mS]
        · rw [if_neg (fun h => mS (of_decide_eq_true h))]
          walk_at "rd"
          refine rd_dget ?_
          walk_at "rd"
          refine ⟨d1, _, rfl, get_f (.inl (s _ _ g16)) mz, ?_⟩
          obtain ⟨q, e1, e2⟩ := m16 z mz
          rw [e1]
          walk_at "rd"
          intro q2 nq2
          have s2 : Same H' (upd H' q2 (.tup [.str z, .ref q])) := fun c o e => up_old nq2 e
          refine kk q2 _ s2 ⟨q, firF f x y z, upd_same, ?_, s2 _ _ (s _ _ e2)⟩
          show _ = mirF f x y S z
          unfold mirF firF
          rw [if_neg mS]
      obtain ⟨fD2, f2, pp, all⟩ := pairs_back (K := K) rel okP.asc.nodup
      walk_at "rd"
      refine ⟨E, rs, _, rfl, SqL.of hlst, pp, fun d2 nd2 => ?_⟩
      rw [merge_nil okP.asc.nodup]
      have s17 : Same H' (upd H' d2 (.dK (P.map fun z => (Sum.inr z, fD2 z)))) := fun c o e => up_old nd2 e
      have g17 : upd H' d2 (.dK (P.map fun z => (Sum.inr z, fD2 z))) d2 = some (dKf P fD2) := upd_same
      have m17 : Md (upd H' d2 (.dK (P.map fun z => (Sum.inr z, fD2 z)))) P fD2 (mirF f x y S) := fun z hz => by
        obtain ⟨e, p, e1, e2⟩ := all z hz
        rw [e] at e2
        exact ⟨p, e1, s17 _ _ e2⟩
      generalize upd H' d2 (.dK (P.map fun z => (Sum.inr z, fD2 z))) = H17 at s17 g17 m17
      replace s17 := s.trans s17
      obtain ⟨F1, _⟩ := plc_made (K := K) (s17 _ _ g16) (m16.same s17)
      obtain ⟨F2, _⟩ := plc_made (K := K) g17 m17
      have s57 := s16.trans s17
      clear rel s hlst pp all hE nd2 m16 g16 m17 g17 s17 s16
      walk_at "rd"
      refine rd_listItems ?_
      walk_at "rd"
      have td17 : PlT K H17 dd := by
        obtain ⟨kvs, e, _⟩ := hd15.dict
        exact PlT.same s57 kvs e td15
      obtain ⟨A, a1, a2⟩ := hd15.same s57
      refine ⟨dd, _, rfl, a1, fun H18 pl ts s18 npl nts npt hpl pairs => ?_⟩
      have s58 := s57.trans s18
      have b18 := bag_same s58 b15
      walk_at "rd"
      refine ⟨a, pl, ts.map V.ref, rfl, b18, hpl, by rw [List.length_map, Paired.length pairs, List.length_map]; omega, fun ys p19 H19 perm n19 u19 b19 h19 => ?_⟩
      obtain ⟨ts', rfl, pts⟩ := perm_back perm rfl
      have pairs19 : Paired (fun (t : Addr) (q : Key × V) => SqT K H19 t [kV q.1, q.2]) ts (P.map fun z => ((Sum.inr z : Key), V.ref (A z))) := Paired.mapP pairs fun t q h => SqT.of (u19 _ _ (bag_tup b18 h) h)
      obtain ⟨kvs', pk, pp⟩ := perm_paired pts pairs19
      obtain ⟨ks, rfl, pks⟩ := perm_back pk rfl
      have ndk : ks.Nodup := pks.nodup_iff.mpr okP.asc.nodup
      walk_at "rd"
      refine ⟨p19, ts', _, rfl, SqL.of h19, pp, fun d3 nd3 => ?_⟩
      rw [merge_nil ndk]
      have s20 : Same H19 (upd H19 d3 (.dK (ks.map fun z => (Sum.inr z, V.ref (A z))))) := fun c o e => up_old nd3 e
      have g20 : upd H19 d3 (.dK (ks.map fun z => (Sum.inr z, V.ref (A z)))) d3 = some (dKf ks fun z => .ref (A z)) := upd_same
      generalize upd H19 d3 (.dK (ks.map fun z => (Sum.inr z, V.ref (A z)))) = H20 at s20 g20
      have P20 : Plc K H20 d3 ks (Pl f) := ⟨A, g20, fun z hz => SqT.same' s20 (bag_sqt b18 u19 (SqT.same' s18 (a2 z (pks.mem_iff.mp hz))))⟩
      have T20 : PlT K H20 d3 := fun ls e p hp => by
        rw [g20] at e
        cases e
        obtain ⟨z, hz, rfl⟩ := List.mem_map.mp hp
        refine ⟨A z, rfl, ?_⟩
        obtain ⟨r, e1, e2⟩ := td17 _ a1 _ (List.mem_map_of_mem (f := fun z => ((Sum.inr z : Key), V.ref (A z))) (pks.mem_iff.mp hz))
        cases e1
        exact (bag_tyt b18 u19 (e2.same s18)).same s20
      have ht20 := s20 _ _ (u19 _ _ nta (s58 _ _ ht15))
      have hl20 : Lay.PT H20 l S := s20 _ _ (u19 _ _ (bag_tup b18 (s58 _ _ hl15)) (s58 _ _ hl15))
      have hr20 := s20 _ _ (u19 _ _ (bag_strs b18 (s58 _ _ hr15)) (s58 _ _ hr15))
      have F120 := (bag_plc b18 u19 (F1.same s18)).same s20
      have F220 := (bag_plc b18 u19 (F2.same s18)).same s20
      have hd20 := (bag_plc b18 u19 (hd15.same s58)).same s20
      have hs120 : S2 K H20 p1 (f x) := SqT.same' s20 (bag_sqt b18 u19 (SqT.same' s58 hs1))
      have hs220 : S2 K H20 p2 (f y) := SqT.same' s20 (bag_sqt b18 u19 (SqT.same' s58 hs2))
      have b20 := bag_same s20 b19
      have u020 := (u015.trans (same_but s58)).trans (u19.trans (same_but s20))
      clear pairs pairs19 pts pk pp h19 perm hpl npt nts npl n19 nd3 g20 a1 a2 td17 s57 s58 s18 u19 b18 b19 s20 F1 F2 hd15 td15 hs1 hs2 ht15 hl15 hr15 u015 b15
      walk_at "rd"
      refine ⟨d3, l, ks, S, x, y, f, rfl, P20, T20, ⟨ndk, fun z hz => okf.nm z (pks.mem_iff.mp hz), by rw [pks.length_eq]; exact okf.one, by rw [pks.length_eq]; exact okf.few, fun z hz => (okf.bd z (pks.mem_iff.mp hz)).mono (by decide)⟩, pks.mem_iff.mpr mx, pks.mem_iff.mpr my, nyx.symm, PT.q hl20, okS, fun z hz => ⟨pks.mem_iff.mpr (subP z hz).1, (subP z hz).2⟩, nf, fun tt e1 e2 P2 H21 s21 htt pm2 okP2 q1 t1 q2 t2 => ?_⟩
      have eP : P2 = P := asc_eq okP.asc okP2.asc (pm2.trans pks)
      rw [eP] at q1 q2
      have ht21 := s21 _ _ ht20
      have hl21 := hl20.same s21
      have hr21 := s21 _ _ hr20
      have F121 := F120.same s21
      have F221 := F220.same s21
      have hd21 := hd20.same s21
      have hs121 : S2 K H21 p1 (f x) := SqT.same' s21 hs120
      have hs221 : S2 K H21 p2 (f y) := SqT.same' s21 hs220
      have b21 := bag_same s21 b20
      have u021 := u020.trans (same_but s21)
      have sok : ∀ z ∈ P.map PyData.str, z.canLay0 = true ∧ z.depth ≤ 1 := fun z hz => by
        obtain ⟨y, hy, rfl⟩ := List.mem_map.mp hz
        exact ⟨((okP.nm y hy).sok).ok, Nat.zero_le _⟩
      clear P20 T20 pm2 okP2 eP ht20 hl20 hr20 F120 F220 hd20 hs120 hs220 b20 u020 s21 ndk pks
      walk_at "rd"
      intro q22 n22
      have s22 : Same H21 (upd H21 q22 (.tup [.ref d1, .ref d2])) := fun b u e => up_old n22 e
      have g22 : upd H21 q22 (.tup [.ref d1, .ref d2]) q22 = some (.tup [.ref d1, .ref d2]) := upd_same
      generalize upd H21 q22 (.tup [.ref d1, .ref d2]) = H22 at s22 g22
      refine rd_neTwo (SqT.of (s22 _ _ htt)) (SqT.of g22) (q1.same s22) (q2.same s22) (F121.same s22) (F221.same s22) (fun kvs e => by rw [s22 _ _ htt] at e; cases e) ?_
      walk_at "rd"
      refine rd_ixT (SqT.of (s22 _ _ htt)) (at_nat (j := 0) rfl) ?_
      walk_at "rd"
      obtain ⟨kw0, w0, _, v0⟩ := (q1.same s22).dict
      refine ⟨e1, kw0, rfl, .inl w0, fun o0 no0 => ?_⟩
      have ek0 : (kw0.map fun kv => kV kv.1) = P.map V.str := by
        have := congrArg (List.map kV) v0
        rw [List.map_map, List.map_map] at this
        exact this
      have sa0 : Same H22 (upd H22 o0 (.lst (kw0.map fun kv => kV kv.1))) := fun b u e => up_old no0 e
      have ga0 : upd H22 o0 (.lst (kw0.map fun kv => kV kv.1)) o0 = some (.lst (P.map V.str)) := by rw [upd_same, ek0]
      generalize upd H22 o0 (.lst (kw0.map fun kv => kV kv.1)) = H22a at sa0 ga0
      walk_at "rd"
      refine ⟨t, _, rfl, .inr (SqT.of (sa0 _ _ (s22 _ _ ht21))), fun oo0 noo0 => ?_⟩
      have sb0 : Same H22a (upd H22a oo0 (.lst (P.map V.str))) := fun b u e => up_old noo0 e
      have gb0 : upd H22a oo0 (.lst (P.map V.str)) oo0 = some (.lst (P.map V.str)) := upd_same
      generalize upd H22a oo0 (.lst (P.map V.str)) = H23 at sb0 gb0
      walk_at "rd"
      refine rd_neStrs (SqL.of (sb0 _ _ ga0)) (SqL.of gb0) sok ?_
      have s23 := s22.trans (sa0.trans sb0)
      walk_at "rd"
      refine rd_ixT (SqT.of (s23 _ _ htt)) (at_nat (j := 1) rfl) ?_
      walk_at "rd"
      obtain ⟨kw1, w1, _, v1⟩ := (q2.same s23).dict
      refine ⟨e2, kw1, rfl, .inl w1, fun o1 no1 => ?_⟩
      have ek1 : (kw1.map fun kv => kV kv.1) = P.map V.str := by
        have := congrArg (List.map kV) v1
        rw [List.map_map, List.map_map] at this
        exact this
      have sa1 : Same H23 (upd H23 o1 (.lst (kw1.map fun kv => kV kv.1))) := fun b u e => up_old no1 e
      have ga1 : upd H23 o1 (.lst (kw1.map fun kv => kV kv.1)) o1 = some (.lst (P.map V.str)) := by rw [upd_same, ek1]
      generalize upd H23 o1 (.lst (kw1.map fun kv => kV kv.1)) = H23a at sa1 ga1
      walk_at "rd"
      refine ⟨t, _, rfl, .inr (SqT.of (sa1 _ _ (s23 _ _ ht21))), fun oo1 noo1 => ?_⟩
      have sb1 : Same H23a (upd H23a oo1 (.lst (P.map V.str))) := fun b u e => up_old noo1 e
      have gb1 : upd H23a oo1 (.lst (P.map V.str)) oo1 = some (.lst (P.map V.str)) := upd_same
      generalize upd H23a oo1 (.lst (P.map V.str)) = H24 at sb1 gb1
      walk_at "rd"
      refine rd_neStrs (SqL.of (sb1 _ _ ga1)) (SqL.of gb1) sok ?_
      have s24 := s23.trans (sa1.trans sb1)
      walk_at "rd"
      refine ⟨t, P, rfl, s24 _ _ ht21, okP, fun q H25 s25 ⟨rs, hq, rel⟩ => ?_⟩
      have s215 := s24.trans s25
      have lrel := rel.1
      have fewZ := pairs_few okP.few
      have b25 := bag_same s215 b21
      have hl25 := hl21.same s215
      walk_at "rd"
      refine ⟨⟨_, SqL.of hq⟩, fun EA hE => ?_⟩
      refine lc_same (wk_list (xs := rs.map V.ref) .non) (b := fun j => condZ S x y ((pairsOf P).getD j [])) (f := fun j => .ref (rs.getD j 0)) (by rw [List.length_map]; omega) hE (fun H' hs => SqL.of (hs _ _ hq)) ?_ ?_ ?_
      · intro j hj H' hs R kk
        rw [List.length_map] at hj
        have lj : j < (pairsOf P).length := by omega
        have pj := rel.2 j _ _ (List.getElem?_eq_getElem hj) (List.getElem?_eq_getElem lj)
        obtain ⟨u, v, ej, _⟩ := (pairs_fr okP (List.Sublist.refl _)).pair _ (List.getElem_mem lj)
        rw [List.getD_eq_getElem?_getD, List.getElem?_eq_getElem lj, Option.getD_some, ej] at kk
        rw [ej] at pj
        have er : (rs.map V.ref).getD j .non = .ref rs[j] := by rw [List.getD_eq_getElem?_getD, List.getElem?_map, List.getElem?_eq_getElem hj]; rfl
        rw [er]
        walk_at "rd"
        refine rd_ixT (SqT.of (pj.same hs)) (at_nat (j := 0) rfl) ?_
        walk_at "rd"
        refine rd_inZ (L := S) (.inr (SqT.of (hl25.same hs))) ?_
        walk_at "rd"
        refine rd_ixT (SqT.of (pj.same hs)) (at_nat (j := 1) rfl) ?_
        walk_at "rd"
        refine rd_inZ (L := S) (.inr (SqT.of (hl25.same hs))) ?_
        walk_at "rd"
        refine rd_eq rfl ?_
        rw [bl_eq]
        refine ⟨_, rfl, ?_⟩
        by_cases c1 : decide (u ∈ S) = decide (v ∈ S)
        · rw [if_pos (decide_eq_true c1)]
          have e : condZ S x y [u, v] = true := by
            show (decide (decide (u ∈ S) = decide (v ∈ S)) || _) = true
            rw [decide_eq_true c1, Bool.true_or]
          rw [← e]
          exact kk H' (Same.refl _)
        · rw [if_neg (fun h => c1 (of_decide_eq_true h))]
          walk_at "rd"
          refine rd_inZ (L := [u, v]) (.inr (SqT.of (pj.same hs))) ?_
          refine ⟨_, rfl, ?_⟩
          by_cases c2 : x ∈ [u, v]
          · rw [if_pos (decide_eq_true c2)]
            have e : condZ S x y [u, v] = true := by
              show (_ || (decide (x ∈ [u, v]) || _)) = true
              rw [decide_eq_true c2, Bool.true_or, Bool.or_true]
            rw [← e]
            exact kk H' (Same.refl _)
          · rw [if_neg (fun h => c2 (of_decide_eq_true h))]
            walk_at "rd"
            refine rd_inZ (L := [u, v]) (.inr (SqT.of (pj.same hs))) ?_
            refine ⟨_, rfl, ?_⟩
            have e : condZ S x y [u, v] = decide (y ∈ [u, v]) := by
              show (decide (decide (u ∈ S) = decide (v ∈ S)) || (decide (x ∈ [u, v]) || decide (y ∈ [u, v]))) = _
              rw [decide_eq_false c1, decide_eq_false c2, Bool.false_or, Bool.false_or]
            rw [← e]
            exact kk H' (Same.refl _)
      · intro j hj _ H' hs R kk
        rw [List.length_map] at hj
        have er : (rs.map V.ref).getD j .non = .ref (rs.getD j 0) := by rw [List.getD_eq_getElem?_getD, List.getElem?_map, List.getElem?_eq_getElem hj, List.getD_eq_getElem?_getD, List.getElem?_eq_getElem hj]; rfl
        rw [er]
        walk_at "rd"
        exact kk H' (Same.refl _)
      intro H26 s26 hl26
      rw [List.length_map, lrel] at hl26
      obtain ⟨rs2, h26, rel2⟩ := pls_pick (z := pairsOf P) (p := condZ S x y) rel (fun _ _ p => p.same s26) hl26
      have s216 := s215.trans s26
      have b26 := bag_same s216 b21
      have fewE : (rs2.map V.ref).length ≤ 100 := by
        have := rel2.1
        have l2 := List.length_filter_le (condZ S x y) (pairsOf P)
        rw [List.length_map]
        omega
      clear hE hq rel hl26
      walk_at "rd"
      refine rd_mk2 ?_
      walk_at "rd"
      intro q27 n27
      have s27 : Same H26 (upd H26 q27 (.lst [.int 1, .int 2])) := fun b u e => up_old n27 e
      have g27 : upd H26 q27 (.lst [.int 1, .int 2]) q27 = some (.lst [.int 1, .int 2]) := upd_same
      have n27a := bag_none b26 n27
      generalize upd H26 q27 (.lst [.int 1, .int 2]) = H27 at s27 g27
      have s217 := s216.trans s27
      have b27 := bag_same s217 b21
      walk_at "rd"
      refine ⟨a, q27, _, rfl, b27, .inl g27, n27a, by decide, by decide, fun v H28 mv u28 b28 => ?_⟩
      obtain ⟨n, rfl, n1, n2⟩ : ∃ n : Nat, v = .int (n : Int) ∧ 1 ≤ n ∧ n ≤ 2 := by
        rcases List.mem_cons.mp mv with e | mv
        · exact ⟨1, e, by decide, by decide⟩
        · exact ⟨2, List.mem_singleton.mp mv, by decide, by decide⟩
      have h27 := s27 _ _ h26
      have nEa := bag_refs b27 h27
      walk_at "rd"
      refine ⟨a, _, rs2.map V.ref, n, rfl, b28, u28 _ _ nEa h27, nEa, fewE, n1, n2, fun ys p29 H29 sub29 u29 b29 h29 => ?_⟩
      obtain ⟨rs3, sub3, rfl⟩ := List.sublist_map_iff.mp sub29
      walk_at "rd"
      refine ⟨p29, _, rfl, Or.inl ⟨SqL.of h29, fun tr ntr => ?_⟩⟩
      have s30 : Same H29 (upd H29 tr (.tup (rs3.map V.ref))) := fun b u e => up_old ntr e
      have g30 : upd H29 tr (.tup (rs3.map V.ref)) tr = some (.tup (rs3.map V.ref)) := upd_same
      generalize upd H29 tr (.tup (rs3.map V.ref)) = H30 at s30 g30
      have uB := u28.trans u29
      obtain ⟨R, subR, relR⟩ := rel_sub sub3 rel2
      have frR : FrOk P R := pairs_fr okP (subR.trans List.filter_sublist)
      have rel30 : Rel (Lay.PT H30) rs3 R := relR.mono fun _ _ p => s30 _ _ (uB _ _ (bag_tup b27 (s27 _ _ p)) (s27 _ _ p))
      have ht27 := s217 _ _ ht21
      have ht30 : Lay.PT H30 t P := s30 _ _ (uB _ _ nta ht27)
      walk_at "rd"
      refine rd_frame (K := K) ht30 (LtT.q ⟨rs3, g30, rel30⟩) frR (by omega) fun fr H31 s31 fr31 => ?_
      have sC := s30.trans s31
      have htt31 := sC _ _ (uB _ _ (bag_tup b27 (s217 _ _ htt)) (s217 _ _ htt))
      have hl31 : Lay.PT H31 l S := sC _ _ (uB _ _ (bag_tup b27 (s217 _ _ hl21)) (s217 _ _ hl21))
      have hr31 := sC _ _ (uB _ _ (bag_strs b27 (s217 _ _ hr21)) (s217 _ _ hr21))
      have q131 := (bag_plc b27 uB (q1.same s217)).same sC
      have q231 := (bag_plc b27 uB (q2.same s217)).same sC
      have t131 : PlT K H31 e1 := by
        obtain ⟨k0, w0, _⟩ := q1.dict
        obtain ⟨k2, w2, _⟩ := (bag_plc b27 uB (q1.same s217)).dict
        exact PlT.same sC k2 w2 (bag_plt b27 uB (q1.same s217) (PlT.same s217 k0 w0 t1))
      have t231 : PlT K H31 e2 := by
        obtain ⟨k0, w0, _⟩ := q2.dict
        obtain ⟨k2, w2, _⟩ := (bag_plc b27 uB (q2.same s217)).dict
        exact PlT.same sC k2 w2 (bag_plt b27 uB (q2.same s217) (PlT.same s217 k0 w0 t2))
      have hd31 := (bag_plc b27 uB (hd21.same s217)).same sC
      have hs131 : S2 K H31 p1 (f x) := SqT.same' sC (bag_sqt b27 uB (SqT.same' s217 hs121))
      have hs231 : S2 K H31 p2 (f y) := SqT.same' sC (bag_sqt b27 uB (SqT.same' s217 hs221))
      have b31 := bag_same sC b29
      have u031 := (u021.trans (same_but s217)).trans (uB.trans (same_but sC))
      have okF := fir_ok (f := f) okf mx my
      have okM := mir_ok (f := f) (S := S) okf mx my
      clear rel2 h26 h27 s27 g27 s30 g30 relR rel30 ht27 ht30 s31 sC uB u28 u29 b27 b28 b29 h29 mv q1 q2 t1 t2 hd21 hs121 hs221 hl21 hr21 htt ht21 s217 s216 s215 u021 b21 b25 b26 hl25
      walk_at "rd"
      refine rd_ixT (SqT.of htt31) (at_nat (j := 0) rfl) ?_
      walk_at "rd"
      refine ⟨fr, e1, P, R, firF f x y, 400, rfl, fr31, frR, q131, t131, okF, by decide, fun g1 H32 s32 h32 => ?_⟩
      walk_at "rd"
      refine rd_ixT (SqT.of (s32 _ _ htt31)) (at_nat (j := 1) rfl) ?_
      walk_at "rd"
      obtain ⟨k20, w20, _⟩ := q231.dict
      obtain ⟨k10, w10, _⟩ := q131.dict
      refine ⟨fr, e2, P, R, mirF f x y S, 400, rfl, fr31.same s32, frR, q231.same s32, PlT.same s32 k20 w20 t231, okM, by decide, fun g2 H33 s33 h33 => ?_⟩
      walk_at "rd"
      refine rd_neSqs (h32.same s33) h33 ?_
      have nxS : x ∉ S := fun h => (subP x h).2.1 rfl
      have nyS : y ∉ S := fun h => (subP y h).2.2 rfl
      have allR : (R.all fun k => decide (sqP (firF f x y) k = sqP (mirF f x y S) k)) = true := List.all_eq_true.mpr fun k hk => by
        have mk := subR.subset hk
        rw [List.mem_filter] at mk
        obtain ⟨u, v, rfl, _⟩ := frR.pair k hk
        exact decide_eq_true (sq_rod nxS nyS (condZ_or mk.2))
      rw [allR]
      have s313 := s32.trans s33
      clear h32 h33 s32 s33 allR
      walk_at "rd"
      refine rd_ifb (fun z => nomatch z) (fun _ => ?_)
      walk_at "rd"
      refine ⟨⟨_, SqL.of (s313 _ _ hr31)⟩, fun EO hE => ?_⟩
      refine lc_same (wk_list (xs := Rs.map V.str) .non) (b := fun j => !decide (area (f x) (f y) (f (Rs.getD j "")) = 0)) (f := fun j => .str (Rs.getD j "")) (by rw [List.length_map]; omega) hE (fun H' hs => SqL.of (hs _ _ (s313 _ _ hr31))) ?_ ?_ ?_
      · intro j hj H' hs Rc kk
        rw [List.length_map] at hj
        rw [getD_strs hj]
        have mj := (restN _ (getD_mem hj)).1
        walk_at "rd"
        refine rd_dget ?_
        walk_at "rd"
        refine plc_get (hd31.same (s313.trans hs)) mj fun p hp => ?_
        walk_at "rd"
        refine ⟨p1, p2, p, f x, f y, _, rfl, SqT.same' (s313.trans hs) hs131, SqT.same' (s313.trans hs) hs231, hp, (okf.bd x mx).mono (by decide), (okf.bd y my).mono (by decide), (okf.bd _ mj).mono (by decide), fun H2 s2 => ?_⟩
        walk_at "rd"
        exact kk _ s2
      · intro j hj _ H' hs Rc kk
        rw [List.length_map] at hj
        rw [getD_strs hj]
        walk_at "rd"
        exact kk H' (Same.refl _)
      intro H34 s34 hl34
      rw [List.length_map, pick_strs Rs (fun z => !decide (area (f x) (f y) (f z) = 0))] at hl34
      have s314 := s313.trans s34
      have fin := all_plain (f := f) (S := S) okP nxS nyS nf hRs fun z hz => subS.subset hz
      have lO := List.length_filter_le (fun z => !decide (area (f x) (f y) (f z) = 0)) Rs
      have mO : ∀ z ∈ (Rs.filter fun z => !decide (area (f x) (f y) (f z) = 0)), z ∈ P := fun z hz => (restN z (List.mem_filter.mp hz).1).1
      generalize (Rs.filter fun z => !decide (area (f x) (f y) (f z) = 0)) = Of at hl34 fin lO mO
      clear hE s34 s313
      walk_at "rd1"
      refine rd_next ?_
      with_reducible refine rd_seq ?_
      refine rd_mid (fun σ' H' => σ' = [some (.ref a), some (.ref t), some (.ref dd), some (.str x), some (.str y), some (.ref ER), some (.ref l), some (.int (sq2 (f x) (f y))), some (.ref p1), some (.ref p2), some (.ref d1), some (.ref d2), some (.ref tt), some (.ref EA), some (.ref fr), some (.ref EO), some (.bl (decide ((Of.filter fun z => decide (z ∈ S)) = []) || decide ((Of.filter fun z => !decide (z ∈ S)) = []))), none, none] ∧ Same H34 H') ?rest3 ?first3
      case first3 =>
        intro N hN
        have okO : ∀ {T : List Str}, (∀ z ∈ T, z ∈ P) → ∀ d ∈ T.map PyData.str, d.canLay0 = true ∧ d.depth ≤ 1 := fun {T} h d hd => by
          obtain ⟨z, hz, rfl⟩ := List.mem_map.mp hd
          exact sok _ (List.mem_map_of_mem (h z hz))
        walk_at "rd"
        refine ⟨⟨_, SqL.of hl34⟩, fun E hE => ?_⟩
        refine lc_same (wk_list (xs := Of.map V.str) .non) (b := fun j => decide ((Of.getD j "") ∈ S)) (f := fun j => .str (Of.getD j "")) (by rw [List.length_map]; omega) hE (fun H' hs => SqL.of (hs _ _ hl34)) ?_ ?_ ?_
        · intro j hj H' hs Rc kk
          rw [List.length_map] at hj
          rw [getD_strs hj]
          walk_at "rd"
          refine rd_inZ (L := S) (.inr (SqT.of (hs _ _ (s314 _ _ hl31)))) ?_
          exact ⟨_, rfl, kk H' (Same.refl _)⟩
        · intro j hj _ H' hs Rc kk
          rw [List.length_map] at hj
          rw [getD_strs hj]
          walk_at "rd"
          exact kk H' (Same.refl _)
        intro H35 s35 hl35
        rw [List.length_map, pick_strs Of (fun z => decide (z ∈ S))] at hl35
        walk_at "rd"
        intro q36 n36
        have s36 : Same H35 (upd H35 q36 (.lst [])) := fun b u e => up_old n36 e
        have g36 : upd H35 q36 (.lst []) q36 = some (.lst []) := upd_same
        generalize upd H35 q36 (.lst []) = H36 at s36 g36
        refine rd_eqNil (SqL.of (s36 _ _ hl35)) (SqL.of g36) (okO fun z hz => mO z (List.mem_filter.mp hz).1) ?_
        refine ⟨_, rfl, ?_⟩
        have s46 := s35.trans s36
        by_cases c1 : (Of.filter fun z => decide (z ∈ S)) = []
        · rw [if_pos (decide_eq_true c1)]
          walk_at "rd"
          refine hN _ _ ⟨?_, s46⟩
          rw [decide_eq_true c1]
          rfl
        · rw [if_neg (fun h => c1 (of_decide_eq_true h))]
          walk_at "rd"
          refine ⟨⟨_, SqL.of (s46 _ _ hl34)⟩, fun E hE => ?_⟩
          refine lc_same (wk_list (xs := Of.map V.str) .non) (b := fun j => !decide ((Of.getD j "") ∈ S)) (f := fun j => .str (Of.getD j "")) (by rw [List.length_map]; omega) hE (fun H' hs => SqL.of (hs _ _ (s46 _ _ hl34))) ?_ ?_ ?_
          · intro j hj H' hs Rc kk
            rw [List.length_map] at hj
            rw [getD_strs hj]
            walk_at "rd"
            refine rd_niZ (L := S) (.inr (SqT.of (hs _ _ (s46 _ _ (s314 _ _ hl31))))) ?_
            exact ⟨_, rfl, kk H' (Same.refl _)⟩
          · intro j hj _ H' hs Rc kk
            rw [List.length_map] at hj
            rw [getD_strs hj]
            walk_at "rd"
            exact kk H' (Same.refl _)
          intro H37 s37 hl37
          rw [List.length_map, pick_strs Of (fun z => !decide (z ∈ S))] at hl37
          walk_at "rd"
          intro q38 n38
          have s38 : Same H37 (upd H37 q38 (.lst [])) := fun b u e => up_old n38 e
          have g38 : upd H37 q38 (.lst []) q38 = some (.lst []) := upd_same
          generalize upd H37 q38 (.lst []) = H38 at s38 g38
          refine rd_eqNil (SqL.of (s38 _ _ hl37)) (SqL.of g38) (okO fun z hz => mO z (List.mem_filter.mp hz).1) ?_
          walk_at "rd"
          refine hN _ _ ⟨?_, s46.trans (s37.trans s38)⟩
          rw [decide_eq_false c1, Bool.false_or]
          rfl
      case rest3 =>
        rintro _ H35 ⟨rfl, s35⟩
        have s315 := s314.trans s35
        walk_at "rd"
        refine rd_ixT (SqT.of (s315 _ _ htt31)) (at_nat (j := 0) rfl) ?_
        walk_at "rd"
        refine rd_ixT (SqT.of (s315 _ _ htt31)) (at_nat (j := 1) rfl) ?_
        walk_at "rd"
        refine ⟨e1, e2, P, firF f x y, mirF f x y S, 400, rfl, q131.same s315, q231.same s315, PlT.same s315 k10 w10 t131, PlT.same s315 k20 w20 t231, okP, okF, okM, by decide, fun H36 s36 => ?_⟩
        walk_at "rd"
        refine rd_eq rfl ?_
        rw [bl_eq, fin, decide_eq_true rfl]
        exact k _ (u031.trans (same_but (s315.trans s36))) (bag_same (s315.trans s36) b31)
end
section
variable {P : Program} {w : World} {K : PySem.W.Frag} {mg : Str → Option Value} {base : Heap}
theorem oklaw {f : Addr} {fd : FuncData} (B : Bi mg) (F : Fun K "law" "law" slaw f fd) {CFrame e0 : Addr} (FKFrame : FrmKFrame K mg CFrame e0) (c_law_bag : CalA P w K mg base "_law_bag" 1 ["_law_script", "_law_at"] (spBag K)) (c_law_right : Cal P w K mg base "_law_right" 9 ["_law_bag_here"] (spRight)) (cmirrored : CalA P w K mg base "mirrored" 8 ["placing", "one", "other", "side"] (spMirrored K)) : FnQ P w K mg base 10 f fd ["_law_script"] (spLaw K) := by
  refine quiet_def F sclaw (fun vs H Q E h => ?_) (fun cdv A outer s H vs Q E hq hr h => ?_)
  · obtain ⟨a, ns, rfl, _⟩ := h; rfl
  · have hu := hr.units
    replace hq := Quiet.deeper hq (envOfC "law" (defScope slaw) s.heap.objs.size f cdv)
    have hr_law_bag := hr.mono (show 1 ≤ 9 by decide)
    have hr_law_right := hr.mono (show 9 ≤ 9 by decide)
    have hrmirrored := hr.mono (show 8 ≤ 9 by decide)
    skip
    refine ⟨_, (pss_cons (ps_for PassesOwn.never (by rfl) (pi_range1 (by rfl) B.b_range (pa_cons (pe_callB (q_max2 rfl) (by rfl) B.b_max (by decide +kernel) (pa_cons pe_int (pa_cons (pe_callB (q_min2 rfl) (by rfl) B.b_min (by decide +kernel) (pa_cons pe_int (pa_cons (pe_callB (r := rLenQ K) (by exact q_lenQ) (by rfl) B.b_len (by decide +kernel) (pa_cons (pv 0) pa_nil)) pa_nil))) pa_nil))) pa_nil)) (pg_name (i := 1) sclaw.nd rfl (by first | exact Or.inl rfl | exact Or.inr rfl)) (pss_cons (ps_set (i := 2) sclaw.nd rfl (by first | exact Or.inl rfl | exact Or.inr rfl) (ac c_law_bag hr_law_bag (by rfl) (pa_cons (pv 0) (pa_cons (pv 1) pa_nil))))
        (pss_one (ps_if (PW.pt (pw_or (pt_not (pt_val (qc c_law_right hq hr_law_right (by rfl) (pa_cons (pv 2) pa_nil)))) (pw_or1 (pt_not (pt_val (qc c_law_right hq hr_law_right (by rfl) (pa_cons (pv 2) pa_nil))))))) (pss_one (ps_ret pe_bl)) pss_nil))))
        (pss_cons (ps_set (i := 3) sclaw.nd rfl (by first | exact Or.inl rfl | exact Or.inr rfl) (pe_disp (pps_cons pe_str (pe_tup (pa_cons pe_int (pa_cons pe_int pa_nil))) (pps_cons pe_str (pe_tup (pa_cons pe_int (pa_cons pe_int pa_nil))) (pps_cons pe_str (pe_tup (pa_cons pe_int (pa_cons pe_int pa_nil))) (pps_cons pe_str (pe_tup (pa_cons pe_int (pa_cons pe_int pa_nil))) pps_nil)))) (by rfl) (by rfl) (fun z => by cases z) (by decide)))
        (pss_cons (ps_asg (ac cmirrored hrmirrored (by rfl) (pa_cons (pv 3) (pa_cons pe_str (pa_cons pe_str (pa_cons (pe_tup (pa_cons pe_str pa_nil)) pa_nil))))) (pg_tup (by rfl) (pgs_cons (pg_name (i := 4) sclaw.nd rfl (by first | exact Or.inl rfl | exact Or.inr rfl)) (pgs_cons (pg_name (i := 5) sclaw.nd rfl (by first | exact Or.inl rfl | exact Or.inr rfl)) pgs_nil))))
        (pss_cons (ps_if (pt_cmpR (r := rNeD K) (by exact (op_neD hu)) (pe_lst (pa_cons (pe_dget (units1 hu) (pv 4) pe_str (fun _ _ => rfl)) (pa_cons (pe_dget (units1 hu) (pv 5) pe_str (fun _ _ => rfl)) (pa_cons (pe_dget (units1 hu) (pv 5) pe_str (fun _ _ => rfl)) pa_nil)))) (pe_lst (pa_cons (pe_tup (pa_cons pe_int (pa_cons pe_int pa_nil))) (pa_cons (pe_tup (pa_cons pe_int (pa_cons pe_int pa_nil))) (pa_cons (pe_tup (pa_cons pe_int (pa_cons pe_int pa_nil))) pa_nil)))) (nomark _)) (pss_one (ps_ret pe_bl)) pss_nil)
        (pss_one (ps_ret (pe_and (pe_cmpR (r := rEqB K) (by exact (op_eqB (units100 hr))) (ac cmirrored hrmirrored (by rfl) (pa_cons (pv 3) (pa_cons pe_str (pa_cons pe_str (pa_cons (pe_tup pa_nil) pa_nil))))) (ac cmirrored hrmirrored (by rfl) (pa_cons (pv 3) (pa_cons pe_str (pa_cons pe_str (pa_cons (pe_tup pa_nil) pa_nil))))) (nomark _)) (pe_one (pe_cmpR (r := rEqD K) (by exact (op_eqD hu)) (pe_dget (units1 hu) (pv 3) pe_str (fun _ _ => rfl)) (pe_tup (pa_cons pe_int (pa_cons pe_int pa_nil))) (nomark _)))))))))), ?_⟩
    obtain ⟨a, ns, rfl, hS, hl, k⟩ := h
    refine rd_at [some (.ref a), none, none, none, none, none] rfl ?_
    walk_at "rd"
    refine rd_lenL hS ?_
    walk_at "rd"
    generalize hm : (if (if ((ns.map V.int).length : Int) < 3 then ((ns.map V.int).length : Int) else 3) > 1 then (if ((ns.map V.int).length : Int) < 3 then ((ns.map V.int).length : Int) else 3) else 1) = m
    have m1 : 1 ≤ m ∧ m ≤ 3 := by
      rw [← hm]
      split <;> split <;> omega
    refine ⟨m, rfl, by omega, by omega, ?_⟩
    refine for_rng (fun _ σ' H' => ∃ v1 v2, σ' = [some (.ref a), v1, v2, none, none, none] ∧ SqL K H' a (ns.map V.int)) ⟨none, none, rfl, hS⟩ ?_ ?_
    · rintro i _ H1 hi ⟨v1, v2, rfl, hS1⟩
      walk_at "rd"
      refine ⟨a, ns, i, by rw [Int.zero_add], hS1, fun p H2 hp hsame hb => ?_⟩
      walk_at "rd"
      refine ⟨p, rfl, hb, fun H3 u3 b3 => ?_⟩
      walk_at "rd"
      refine rd_ifb (fun z => nomatch z) (fun _ => ?_)
      walk_at "rd"
      refine ⟨p, rfl, b3, fun H4 u4 b4 => ?_⟩
      walk_at "rd"
      refine rd_ifb (fun z => nomatch z) (fun _ => ?_)
      walk_at "rd"
      exact ⟨_, _, rfl, sq_kept hp hsame (u3.trans u4) hS1⟩
    rintro _ H1 ⟨v1, v2, rfl, hS1⟩
    clear hS1
    walk_at "rd"
    refine rd_disp ?_
    intro p np
    have s2 : Same H1 (upd H1 p (.dK [])) := fun b u e => up_old np e
    have g2 : upd H1 p (.dK []) p = some (.dK []) := upd_same
    generalize upd H1 p (.dK []) = H2 at s2 g2
    refine rd_pcons ?_
    walk_at "rd"
    intro t1 n1
    have s3 : Same H2 (upd H2 t1 (.tup [.int 0, .int 0])) := fun b u e => up_old n1 e
    have g3 : upd H2 t1 (.tup [.int 0, .int 0]) t1 = some (.tup [.int 0, .int 0]) := upd_same
    generalize upd H2 t1 (.tup [.int 0, .int 0]) = H3 at s3 g3
    refine rd_pcons ?_
    walk_at "rd"
    intro t2 n2
    have s4 : Same H3 (upd H3 t2 (.tup [.int 2, .int 0])) := fun b u e => up_old n2 e
    have g4 : upd H3 t2 (.tup [.int 2, .int 0]) t2 = some (.tup [.int 2, .int 0]) := upd_same
    generalize upd H3 t2 (.tup [.int 2, .int 0]) = H4 at s4 g4
    refine rd_pcons ?_
    walk_at "rd"
    intro t3 n3
    have s5 : Same H4 (upd H4 t3 (.tup [.int 2, .int 2])) := fun b u e => up_old n3 e
    have g5 : upd H4 t3 (.tup [.int 2, .int 2]) t3 = some (.tup [.int 2, .int 2]) := upd_same
    generalize upd H4 t3 (.tup [.int 2, .int 2]) = H5 at s5 g5
    refine rd_pcons ?_
    walk_at "rd"
    intro t4 n4
    have s6 : Same H5 (upd H5 t4 (.tup [.int 0, .int 2])) := fun b u e => up_old n4 e
    have g6 : upd H5 t4 (.tup [.int 0, .int 2]) t4 = some (.tup [.int 0, .int 2]) := upd_same
    generalize upd H5 t4 (.tup [.int 0, .int 2]) = H6 at s6 g6
    refine rd_pnil ?_
    have e6 := s6 _ _ (s5 _ _ (s4 _ _ (s3 _ _ g2)))
    have m6 : Md H6 sqK (sqD t1 t2 t3 t4) sqF := sq_md (s6 _ _ (s5 _ _ (s4 _ _ g3))) (s6 _ _ (s5 _ _ g4)) (s6 _ _ g5) g6
    refine ⟨e6, sqK.map fun z => (Sum.inr z, sqD t1 t2 t3 t4 z), by rw [sqD_list]; rfl, by rw [List.length_map]; decide, ?_⟩
    rw [merge_nil sqK_pins.asc.nodup]
    have m7 : Md (upd H6 p (.dK (sqK.map fun z => (Sum.inr z, sqD t1 t2 t3 t4 z)))) sqK (sqD t1 t2 t3 t4) sqF := m6.but But.upd e6
    have g7 : upd H6 p (.dK (sqK.map fun z => (Sum.inr z, sqD t1 t2 t3 t4 z))) p = some (dKf sqK (sqD t1 t2 t3 t4)) := upd_same
    obtain ⟨P7, T7⟩ := plc_made (K := K) g7 m7
    generalize upd H6 p (.dK (sqK.map fun z => (Sum.inr z, sqD t1 t2 t3 t4 z))) = H7 at m7 g7 P7 T7
    clear s2 s3 s4 s5 s6 g2 g3 g4 g5 g6 e6 m6 n1 n2 n3 n4 np
    have few4 : sqK.length = 4 := rfl
    walk_at "rd"
    intro tl ntl
    have s8 : Same H7 (upd H7 tl (.tup [.str "d"])) := fun b u e => up_old ntl e
    have g8 : Lay.PT (upd H7 tl (.tup [.str "d"])) tl ["d"] := upd_same
    generalize upd H7 tl (.tup [.str "d"]) = H8 at s8 g8
    walk_at "rd"
    refine ⟨p, tl, sqK, ["d"], "c", "a", sqF, rfl, P7.same s8, PlT.same s8 _ g7 T7, sq_ok, by decide +kernel, by decide +kernel, by decide +kernel, PT.q g8, d_pins, by decide +kernel, by decide +kernel, fun tt d1 d2 P2 H9 s9 htt pm okP2 q1 w1 q2 w2 => ?_⟩
    have eP : P2 = sqK := asc_eq sqK_pins.asc okP2.asc pm
    rw [eP] at q1 q2
    refine ⟨tt, _, rfl, SqT.of htt, rfl, ⟨_, _, rfl, rd_name ⟨_, _, rfl, rd_name ⟨rfl, ?_⟩⟩⟩⟩
    have md : ("d" : Str) ∈ sqK := by decide +kernel
    have mb : ("b" : Str) ∈ sqK := by decide +kernel
    walk_at "rd"
    refine rd_dget ?_
    walk_at "rd"
    refine plc_get q1 md fun a1 ha1 => ?_
    walk_at "rd"
    refine rd_dget ?_
    walk_at "rd"
    refine plc_get q2 md fun a2 ha2 => ?_
    walk_at "rd"
    refine rd_dget ?_
    walk_at "rd"
    refine plc_get q2 mb fun a3 ha3 => ?_
    walk_at "rd"
    intro l9 nl9
    have s10 : Same H9 (upd H9 l9 (.lst [.ref a1, .ref a2, .ref a3])) := fun b u e => up_old nl9 e
    have g10 : upd H9 l9 (.lst [.ref a1, .ref a2, .ref a3]) l9 = some (.lst [.ref a1, .ref a2, .ref a3]) := upd_same
    generalize upd H9 l9 (.lst [.ref a1, .ref a2, .ref a3]) = H10 at s10 g10
    walk_at "rd"
    intro c1 nc1
    have s11 : Same H10 (upd H10 c1 (.tup [.int 0, .int 16])) := fun b u e => up_old nc1 e
    have g11 : upd H10 c1 (.tup [.int 0, .int 16]) c1 = some (.tup [.int 0, .int 16]) := upd_same
    generalize upd H10 c1 (.tup [.int 0, .int 16]) = H11 at s11 g11
    walk_at "rd"
    intro c2 nc2
    have s12 : Same H11 (upd H11 c2 (.tup [.int 16, .int 0])) := fun b u e => up_old nc2 e
    have g12 : upd H11 c2 (.tup [.int 16, .int 0]) c2 = some (.tup [.int 16, .int 0]) := upd_same
    generalize upd H11 c2 (.tup [.int 16, .int 0]) = H12 at s12 g12
    walk_at "rd"
    intro c3 nc3
    have s13 : Same H12 (upd H12 c3 (.tup [.int 16, .int 0])) := fun b u e => up_old nc3 e
    have g13 : upd H12 c3 (.tup [.int 16, .int 0]) c3 = some (.tup [.int 16, .int 0]) := upd_same
    generalize upd H12 c3 (.tup [.int 16, .int 0]) = H13 at s13 g13
    walk_at "rd"
    intro l2 nl2
    have s14 : Same H13 (upd H13 l2 (.lst [.ref c1, .ref c2, .ref c3])) := fun b u e => up_old nl2 e
    have g14 : upd H13 l2 (.lst [.ref c1, .ref c2, .ref c3]) l2 = some (.lst [.ref c1, .ref c2, .ref c3]) := upd_same
    generalize upd H13 l2 (.lst [.ref c1, .ref c2, .ref c3]) = H14 at s14 g14
    walk_at "rd"
    have e1 : sv (Pl (firF sqF "c" "a") "d") = sv [0, 16] := by unfold Pl; rw [sq_first.1]
    have e2 : sv (Pl (mirF sqF "c" "a" ["d"]) "d") = sv [16, 0] := by unfold Pl; rw [sq_first.2.1]
    have e3 : sv (Pl (mirF sqF "c" "a" ["d"]) "b") = sv [16, 0] := by unfold Pl; rw [sq_first.2.2]
    rw [e1] at ha1
    rw [e2] at ha2
    rw [e3] at ha3
    have sX : Same H9 H14 := s10.trans (s11.trans (s12.trans (s13.trans s14)))
    have dl : Dp K H14 (.ref l9) (.list [sp [0, 16], sp [16, 0], sp [16, 0]]) := .lst (SqL.of (s14 _ _ (s13 _ _ (s12 _ _ (s11 _ _ g10))))) (.cons (sp_dp (SqT.same' sX ha1)) (.cons (sp_dp (SqT.same' sX ha2)) (.cons (sp_dp (SqT.same' sX ha3)) .nil)))
    have dr : Dp K H14 (.ref l2) (.list [sp [0, 16], sp [16, 0], sp [16, 0]]) := .lst (SqL.of g14) (.cons (sp_dp (SqT.of (s14 _ _ (s13 _ _ (s12 _ _ g11))))) (.cons (sp_dp (SqT.of (s14 _ _ (s13 _ _ g12)))) (.cons (sp_dp (SqT.of (s14 _ _ g13))) .nil)))
    refine ⟨_, _, dl, dr, by decide +kernel, by decide +kernel, ?_⟩
    have ev : PyData.eqv (.list [sp [0, 16], sp [16, 0], sp [16, 0]]) (.list [sp [0, 16], sp [16, 0], sp [16, 0]]) = true := by decide +kernel
    rw [ev]
    have P14 : Plc K H14 p sqK (Pl sqF) := P7.same (s8.trans (s9.trans sX))
    have g14' := (s8.trans (s9.trans sX)) _ _ g7
    have T14 : PlT K H14 p := PlT.same (s8.trans (s9.trans sX)) _ g7 T7
    clear dl dr s10 s11 s12 s13 s14 g10 g11 g12 g13 g14 sX ha1 ha2 ha3 q1 q2 w1 w2 s8 s9 P7 T7 g7 m7 htt g8
    walk_at "rd"
    refine rd_ifb (fun z => nomatch z) (fun _ => ?_)
    walk_at "rd"
    intro q15 nq15
    have s15 : Same H14 (upd H14 q15 (.tup [])) := fun b u e => up_old nq15 e
    have g15 : upd H14 q15 (.tup []) q15 = some (.tup []) := upd_same
    generalize upd H14 q15 (.tup []) = H15 at s15 g15
    walk_at "rd"
    refine ⟨p, q15, sqK, [], "a", "b", sqF, rfl, P14.same s15, PlT.same s15 _ g14' T14, sq_ok, by decide +kernel, by decide +kernel, by decide +kernel, PT.q g15, nil_pins, (fun z h => nomatch h), by decide +kernel, fun tA x1 x2 PA H16 s16 hA pmA okA qa1 wa1 qa2 wa2 => ?_⟩
    have eA : PA = sqK := asc_eq sqK_pins.asc okA.asc pmA
    rw [eA] at qa1 qa2
    rw [mir_none] at qa2
    walk_at "rd"
    intro q17 nq17
    have s17 : Same H16 (upd H16 q17 (.tup [])) := fun b u e => up_old nq17 e
    have g17 : upd H16 q17 (.tup []) q17 = some (.tup []) := upd_same
    generalize upd H16 q17 (.tup []) = H17 at s17 g17
    walk_at "rd"
    have s417 := s15.trans (s16.trans s17)
    refine ⟨p, q17, sqK, [], "b", "a", sqF, rfl, P14.same s417, PlT.same s417 _ g14' T14, sq_ok, by decide +kernel, by decide +kernel, by decide +kernel, PT.q g17, nil_pins, (fun z h => nomatch h), by decide +kernel, fun tB y1 y2 PB H18 s18 hB pmB okB qb1 wb1 qb2 wb2 => ?_⟩
    have eB : PB = sqK := asc_eq sqK_pins.asc okB.asc pmB
    rw [eB] at qb1 qb2
    rw [mir_none] at qb2
    rw [fir_sym sqF "b" "a"] at qb1 qb2
    have s68 := s17.trans s18
    refine rd_eqTwo (SqT.of (s68 _ _ hA)) (SqT.of hB) (qa1.same s68) (qa2.same s68) qb1 qb2 ?_
    walk_at "rd"
    refine rd_dget ?_
    walk_at "rd"
    refine plc_get (P14.same (s417.trans s18)) md fun pd hpd => ?_
    walk_at "rd"
    intro q19 nq19
    have s19 : Same H18 (upd H18 q19 (.tup [.int 0, .int 2])) := fun b u e => up_old nq19 e
    have g19 : upd H18 q19 (.tup [.int 0, .int 2]) q19 = some (.tup [.int 0, .int 2]) := upd_same
    generalize upd H18 q19 (.tup [.int 0, .int 2]) = H19 at s19 g19
    have ed : Pl sqF "d" = [0, 2] := by unfold Pl; rw [sqF_all.2.2.2]
    rw [ed] at hpd
    refine rd_eqSp (SqT.same' s19 hpd) (m := [0, 2]) (SqT.of g19) ?_
    rw [decide_eq_true rfl]
    exact k _
end
end K13
namespace K13
open PySem PySem.Spec PyProof.Rows L2 Lay

theorem all_mk {l : PySem.W.OpenLaw} {w : World} {K : PySem.W.Frag} {h : Heap} {mg : Str → Option Value} {fa f0 f1 f2 f3 f4 f5 f6 f7 f8 f9 f10 f11 f12 f13 f14 f15 f16 f17 f18 f19 f20 f21 f22 f23 f24 f25 f26 f27 f28 f29 f30 f31 f32 f33 f34 f35 f36 f37 f38 f39 f40 f41 f42 f43 f44 f45 f46 f47 f48 p47 p48 CFrame e0 T38 : Addr} (X : K.In h) (G : h.Ns mainGlobals mg) (hfa : mg "law" = some (.ref fa))
    {od0 an0 od1 an1 od2 an2 od3 an3 od4 an4 od5 an5 od6 an6 od7 an7 od8 an8 od9 an9 od10 an10 od11 an11 od12 an12 od13 an13 od14 an14 od15 an15 od16 an16 od17 an17 od18 an18 od19 an19 od20 an20 od21 an21 od22 an22 od23 an23 od24 an24 od25 an25 od26 an26 od27 an27 od28 an28 od29 an29 od30 an30 od31 an31 od32 an32 od33 an33 od34 an34 od35 an35 od36 an36 od37 an37 od38 an38 od39 an39 od40 an40 od41 an41 od42 an42 od43 an43 od44 an44 od45 an45 od46 an46 od47 an47 od48 an48 odT38 odE38 : Option Addr} {sl0 sl1 sl2 sl3 sl4 sl5 sl6 sl7 sl8 sl9 sl10 sl11 sl12 sl13 sl14 sl15 sl16 sl17 sl18 sl19 sl20 sl21 sl22 sl23 sl24 sl25 sl26 sl27 sl28 sl29 sl30 sl31 sl32 sl33 sl34 sl35 sl36 sl37 sl38 sl39 sl40 sl41 sl42 sl43 sl44 sl45 sl46 sl47 sl48 slT38 slE38 : Array (Option Value)} {oc0 kV0 dc0 pm0 cd0 ct0 oc1 kV1 dc1 pm1 cd1 ct1 oc2 kV2 dc2 pm2 cd2 ct2 oc3 kV3 dc3 pm3 cd3 ct3 oc4 kV4 dc4 pm4 cd4 ct4 oc5 kV5 dc5 pm5 cd5 ct5 oc6 kV6 dc6 pm6 cd6 ct6 oc7 kV7 dc7 pm7 cd7 ct7 oc8 kV8 dc8 pm8 cd8 ct8 oc9 kV9 dc9 pm9 cd9 ct9 oc10 kV10 dc10 pm10 cd10 ct10 oc11 kV11 dc11 pm11 cd11 ct11 oc12 kV12 dc12 pm12 cd12 ct12 oc13 kV13 dc13 pm13 cd13 ct13 oc14 kV14 dc14 pm14 cd14 ct14 oc15 kV15 dc15 pm15 cd15 ct15 oc16 kV16 dc16 pm16 cd16 ct16 oc17 kV17 dc17 pm17 cd17 ct17 oc18 kV18 dc18 pm18 cd18 ct18 oc19 kV19 dc19 pm19 cd19 ct19 oc20 kV20 dc20 pm20 cd20 ct20 oc21 kV21 dc21 pm21 cd21 ct21 oc22 kV22 dc22 pm22 cd22 ct22 oc23 kV23 dc23 pm23 cd23 ct23 oc24 kV24 dc24 pm24 cd24 ct24 oc25 kV25 dc25 pm25 cd25 ct25 oc26 kV26 dc26 pm26 cd26 ct26 oc27 kV27 dc27 pm27 cd27 ct27 oc28 kV28 dc28 pm28 cd28 ct28 oc29 kV29 dc29 pm29 cd29 ct29 oc30 kV30 dc30 pm30 cd30 ct30 oc31 kV31 dc31 pm31 cd31 ct31 oc32 kV32 dc32 pm32 cd32 ct32 oc33 kV33 dc33 pm33 cd33 ct33 oc34 kV34 dc34 pm34 cd34 ct34 oc35 kV35 dc35 pm35 cd35 ct35 oc36 kV36 dc36 pm36 cd36 ct36 oc37 kV37 dc37 pm37 cd37 ct37 oc38 kV38 dc38 pm38 cd38 ct38 oc39 kV39 dc39 pm39 cd39 ct39 oc40 kV40 dc40 pm40 cd40 ct40 oc41 kV41 dc41 pm41 cd41 ct41 oc42 kV42 dc42 pm42 cd42 ct42 oc43 kV43 dc43 pm43 cd43 ct43 oc44 kV44 dc44 pm44 cd44 ct44 oc45 kV45 dc45 pm45 cd45 ct45 oc46 kV46 dc46 pm46 cd46 ct46 oc47 kV47 dc47 pm47 cd47 ct47 oc48 kV48 dc48 pm48 cd48 ct48 ocT38 : Value}
    {re47 re48 : List Value}
    {nT38 nE38 : Nat}
    (gFrame : PySem.W.nsIn K mainGlobals "Frame" = some (some (.ref CFrame)))
    (a0 : PySem.W.nsIn K mainGlobals "product_of" = some (some (.ref f0)))
    (l0 : K.lookup f0 = some ⟨oc0, od0, .func (PySem.W.fnOf "product_of" "product_of" (defArgs sproduct_of) (defBody sproduct_of) (defScope sproduct_of) .none kV0 dc0 pm0 an0 cd0 ct0), sl0⟩)
    (c0 : PySem.W.codeIn K cd0 "product_of" = true)
    (k0 : PySem.W.keepIn K (.ref f0) = true)
    (a1 : PySem.W.nsIn K mainGlobals "_least_longer" = some (some (.ref f1)))
    (l1 : K.lookup f1 = some ⟨oc1, od1, .func (PySem.W.fnOf "_least_longer" "_least_longer" (defArgs s_least_longer) (defBody s_least_longer) (defScope s_least_longer) .none kV1 dc1 pm1 an1 cd1 ct1), sl1⟩)
    (c1 : PySem.W.codeIn K cd1 "_least_longer" = true)
    (k1 : PySem.W.keepIn K (.ref f1) = true)
    (a2 : PySem.W.nsIn K mainGlobals "is_name" = some (some (.ref f2)))
    (l2 : K.lookup f2 = some ⟨oc2, od2, .func (PySem.W.fnOf "is_name" "is_name" (defArgs sis_name) (defBody sis_name) (defScope sis_name) .none kV2 dc2 pm2 an2 cd2 ct2), sl2⟩)
    (c2 : PySem.W.codeIn K cd2 "is_name" = true)
    (k2 : PySem.W.keepIn K (.ref f2) = true)
    (a3 : PySem.W.nsIn K mainGlobals "is_ascending" = some (some (.ref f3)))
    (l3 : K.lookup f3 = some ⟨oc3, od3, .func (PySem.W.fnOf "is_ascending" "is_ascending" (defArgs sis_ascending) (defBody sis_ascending) (defScope sis_ascending) .none kV3 dc3 pm3 an3 cd3 ct3), sl3⟩)
    (c3 : PySem.W.codeIn K cd3 "is_ascending" = true)
    (k3 : PySem.W.keepIn K (.ref f3) = true)
    (a4 : PySem.W.nsIn K mainGlobals "pairs_among" = some (some (.ref f4)))
    (l4 : K.lookup f4 = some ⟨oc4, od4, .func (PySem.W.fnOf "pairs_among" "pairs_among" (defArgs spairs_among) (defBody spairs_among) (defScope spairs_among) .none kV4 dc4 pm4 an4 cd4 ct4), sl4⟩)
    (c4 : PySem.W.codeIn K cd4 "pairs_among" = true)
    (k4 : PySem.W.keepIn K (.ref f4) = true)
    (a5 : PySem.W.nsIn K mainGlobals "rods_within" = some (some (.ref f5)))
    (l5 : K.lookup f5 = some ⟨oc5, od5, .func (PySem.W.fnOf "rods_within" "rods_within" (defArgs srods_within) (defBody srods_within) (defScope srods_within) .none kV5 dc5 pm5 an5 cd5 ct5), sl5⟩)
    (c5 : PySem.W.codeIn K cd5 "rods_within" = true)
    (k5 : PySem.W.keepIn K (.ref f5) = true)
    (a6 : PySem.W.nsIn K mainGlobals "check_frame" = some (some (.ref f6)))
    (l6 : K.lookup f6 = some ⟨oc6, od6, .func (PySem.W.fnOf "check_frame" "check_frame" (defArgs scheck_frame) (defBody scheck_frame) (defScope scheck_frame) .none kV6 dc6 pm6 an6 cd6 ct6), sl6⟩)
    (c6 : PySem.W.codeIn K cd6 "check_frame" = true)
    (k6 : PySem.W.keepIn K (.ref f6) = true)
    (a7 : PySem.W.nsIn K mainGlobals "space_in" = some (some (.ref f7)))
    (l7 : K.lookup f7 = some ⟨oc7, od7, .func (PySem.W.fnOf "space_in" "space_in" (defArgs sspace_in) (defBody sspace_in) (defScope sspace_in) .none kV7 dc7 pm7 an7 cd7 ct7), sl7⟩)
    (c7 : PySem.W.codeIn K cd7 "space_in" = true)
    (k7 : PySem.W.keepIn K (.ref f7) = true)
    (a8 : PySem.W.nsIn K mainGlobals "_sum" = some (some (.ref f8)))
    (l8 : K.lookup f8 = some ⟨oc8, od8, .func (PySem.W.fnOf "_sum" "_sum" (defArgs s_sum) (defBody s_sum) (defScope s_sum) .none kV8 dc8 pm8 an8 cd8 ct8), sl8⟩)
    (c8 : PySem.W.codeIn K cd8 "_sum" = true)
    (k8 : PySem.W.keepIn K (.ref f8) = true)
    (a9 : PySem.W.nsIn K mainGlobals "_difference" = some (some (.ref f9)))
    (l9 : K.lookup f9 = some ⟨oc9, od9, .func (PySem.W.fnOf "_difference" "_difference" (defArgs s_difference) (defBody s_difference) (defScope s_difference) .none kV9 dc9 pm9 an9 cd9 ct9), sl9⟩)
    (c9 : PySem.W.codeIn K cd9 "_difference" = true)
    (k9 : PySem.W.keepIn K (.ref f9) = true)
    (a10 : PySem.W.nsIn K mainGlobals "_multiple" = some (some (.ref f10)))
    (l10 : K.lookup f10 = some ⟨oc10, od10, .func (PySem.W.fnOf "_multiple" "_multiple" (defArgs s_multiple) (defBody s_multiple) (defScope s_multiple) .none kV10 dc10 pm10 an10 cd10 ct10), sl10⟩)
    (c10 : PySem.W.codeIn K cd10 "_multiple" = true)
    (k10 : PySem.W.keepIn K (.ref f10) = true)
    (a11 : PySem.W.nsIn K mainGlobals "_law_bag" = some (some (.ref f11)))
    (l11 : K.lookup f11 = some ⟨oc11, od11, .func (PySem.W.fnOf "_law_bag" "_law_bag" (defArgs s_law_bag) (defBody s_law_bag) (defScope s_law_bag) .none kV11 dc11 pm11 an11 cd11 ct11), sl11⟩)
    (c11 : PySem.W.codeIn K cd11 "_law_bag" = true)
    (k11 : PySem.W.keepIn K (.ref f11) = true)
    (a12 : PySem.W.nsIn K mainGlobals "_law_draw" = some (some (.ref f12)))
    (l12 : K.lookup f12 = some ⟨oc12, od12, .func (PySem.W.fnOf "_law_draw" "_law_draw" (defArgs s_law_draw) (defBody s_law_draw) (defScope s_law_draw) .none kV12 dc12 pm12 an12 cd12 ct12), sl12⟩)
    (c12 : PySem.W.codeIn K cd12 "_law_draw" = true)
    (k12 : PySem.W.keepIn K (.ref f12) = true)
    (a13 : PySem.W.nsIn K mainGlobals "_law_pairs_of" = some (some (.ref f13)))
    (l13 : K.lookup f13 = some ⟨oc13, od13, .func (PySem.W.fnOf "_law_pairs_of" "_law_pairs_of" (defArgs s_law_pairs_of) (defBody s_law_pairs_of) (defScope s_law_pairs_of) .none kV13 dc13 pm13 an13 cd13 ct13), sl13⟩)
    (c13 : PySem.W.codeIn K cd13 "_law_pairs_of" = true)
    (k13 : PySem.W.keepIn K (.ref f13) = true)
    (a14 : PySem.W.nsIn K mainGlobals "_law_is_turned" = some (some (.ref f14)))
    (l14 : K.lookup f14 = some ⟨oc14, od14, .func (PySem.W.fnOf "_law_is_turned" "_law_is_turned" (defArgs s_law_is_turned) (defBody s_law_is_turned) (defScope s_law_is_turned) .none kV14 dc14 pm14 an14 cd14 ct14), sl14⟩)
    (c14 : PySem.W.codeIn K cd14 "_law_is_turned" = true)
    (k14 : PySem.W.keepIn K (.ref f14) = true)
    (a15 : PySem.W.nsIn K mainGlobals "_law_square" = some (some (.ref f15)))
    (l15 : K.lookup f15 = some ⟨oc15, od15, .func (PySem.W.fnOf "_law_square" "_law_square" (defArgs s_law_square) (defBody s_law_square) (defScope s_law_square) .none kV15 dc15 pm15 an15 cd15 ct15), sl15⟩)
    (c15 : PySem.W.codeIn K cd15 "_law_square" = true)
    (k15 : PySem.W.keepIn K (.ref f15) = true)
    (a16 : PySem.W.nsIn K mainGlobals "_law_mirrored" = some (some (.ref f16)))
    (l16 : K.lookup f16 = some ⟨oc16, od16, .func (PySem.W.fnOf "_law_mirrored" "_law_mirrored" (defArgs s_law_mirrored) (defBody s_law_mirrored) (defScope s_law_mirrored) .none kV16 dc16 pm16 an16 cd16 ct16), sl16⟩)
    (c16 : PySem.W.codeIn K cd16 "_law_mirrored" = true)
    (k16 : PySem.W.keepIn K (.ref f16) = true)
    (a17 : PySem.W.nsIn K mainGlobals "has_digits" = some (some (.ref f17)))
    (l17 : K.lookup f17 = some ⟨oc17, od17, .func (PySem.W.fnOf "has_digits" "has_digits" (defArgs shas_digits) (defBody shas_digits) (defScope shas_digits) .none kV17 dc17 pm17 an17 cd17 ct17), sl17⟩)
    (c17 : PySem.W.codeIn K cd17 "has_digits" = true)
    (k17 : PySem.W.keepIn K (.ref f17) = true)
    (a18 : PySem.W.nsIn K mainGlobals "are_names" = some (some (.ref f18)))
    (l18 : K.lookup f18 = some ⟨oc18, od18, .func (PySem.W.fnOf "are_names" "are_names" (defArgs sare_names) (defBody sare_names) (defScope sare_names) .none kV18 dc18 pm18 an18 cd18 ct18), sl18⟩)
    (c18 : PySem.W.codeIn K cd18 "are_names" = true)
    (k18 : PySem.W.keepIn K (.ref f18) = true)
    (a19 : PySem.W.nsIn K mainGlobals "check_pin_placed" = some (some (.ref f19)))
    (l19 : K.lookup f19 = some ⟨oc19, od19, .func (PySem.W.fnOf "check_pin_placed" "check_pin_placed" (defArgs scheck_pin_placed) (defBody scheck_pin_placed) (defScope scheck_pin_placed) .none kV19 dc19 pm19 an19 cd19 ct19), sl19⟩)
    (c19 : PySem.W.codeIn K cd19 "check_pin_placed" = true)
    (k19 : PySem.W.keepIn K (.ref f19) = true)
    (a20 : PySem.W.nsIn K mainGlobals "_square" = some (some (.ref f20)))
    (l20 : K.lookup f20 = some ⟨oc20, od20, .func (PySem.W.fnOf "_square" "_square" (defArgs s_square) (defBody s_square) (defScope s_square) .none kV20 dc20 pm20 an20 cd20 ct20), sl20⟩)
    (c20 : PySem.W.codeIn K cd20 "_square" = true)
    (k20 : PySem.W.keepIn K (.ref f20) = true)
    (a21 : PySem.W.nsIn K mainGlobals "_mirror_image" = some (some (.ref f21)))
    (l21 : K.lookup f21 = some ⟨oc21, od21, .func (PySem.W.fnOf "_mirror_image" "_mirror_image" (defArgs s_mirror_image) (defBody s_mirror_image) (defScope s_mirror_image) .none kV21 dc21 pm21 an21 cd21 ct21), sl21⟩)
    (c21 : PySem.W.codeIn K cd21 "_mirror_image" = true)
    (k21 : PySem.W.keepIn K (.ref f21) = true)
    (a22 : PySem.W.nsIn K mainGlobals "_law_one_of" = some (some (.ref f22)))
    (l22 : K.lookup f22 = some ⟨oc22, od22, .func (PySem.W.fnOf "_law_one_of" "_law_one_of" (defArgs s_law_one_of) (defBody s_law_one_of) (defScope s_law_one_of) .none kV22 dc22 pm22 an22 cd22 ct22), sl22⟩)
    (c22 : PySem.W.codeIn K cd22 "_law_one_of" = true)
    (k22 : PySem.W.keepIn K (.ref f22) = true)
    (a23 : PySem.W.nsIn K mainGlobals "_law_shuffled" = some (some (.ref f23)))
    (l23 : K.lookup f23 = some ⟨oc23, od23, .func (PySem.W.fnOf "_law_shuffled" "_law_shuffled" (defArgs s_law_shuffled) (defBody s_law_shuffled) (defScope s_law_shuffled) .none kV23 dc23 pm23 an23 cd23 ct23), sl23⟩)
    (c23 : PySem.W.codeIn K cd23 "_law_shuffled" = true)
    (k23 : PySem.W.keepIn K (.ref f23) = true)
    (a24 : PySem.W.nsIn K mainGlobals "_law_some_of" = some (some (.ref f24)))
    (l24 : K.lookup f24 = some ⟨oc24, od24, .func (PySem.W.fnOf "_law_some_of" "_law_some_of" (defArgs s_law_some_of) (defBody s_law_some_of) (defScope s_law_some_of) .none kV24 dc24 pm24 an24 cd24 ct24), sl24⟩)
    (c24 : PySem.W.codeIn K cd24 "_law_some_of" = true)
    (k24 : PySem.W.keepIn K (.ref f24) = true)
    (a25 : PySem.W.nsIn K mainGlobals "_law_spot" = some (some (.ref f25)))
    (l25 : K.lookup f25 = some ⟨oc25, od25, .func (PySem.W.fnOf "_law_spot" "_law_spot" (defArgs s_law_spot) (defBody s_law_spot) (defScope s_law_spot) .none kV25 dc25 pm25 an25 cd25 ct25), sl25⟩)
    (c25 : PySem.W.codeIn K cd25 "_law_spot" = true)
    (k25 : PySem.W.keepIn K (.ref f25) = true)
    (a26 : PySem.W.nsIn K mainGlobals "is_integer" = some (some (.ref f26)))
    (l26 : K.lookup f26 = some ⟨oc26, od26, .func (PySem.W.fnOf "is_integer" "is_integer" (defArgs sis_integer) (defBody sis_integer) (defScope sis_integer) .none kV26 dc26 pm26 an26 cd26 ct26), sl26⟩)
    (c26 : PySem.W.codeIn K cd26 "is_integer" = true)
    (k26 : PySem.W.keepIn K (.ref f26) = true)
    (a27 : PySem.W.nsIn K mainGlobals "is_lot" = some (some (.ref f27)))
    (l27 : K.lookup f27 = some ⟨oc27, od27, .func (PySem.W.fnOf "is_lot" "is_lot" (defArgs sis_lot) (defBody sis_lot) (defScope sis_lot) .none kV27 dc27 pm27 an27 cd27 ct27), sl27⟩)
    (c27 : PySem.W.codeIn K cd27 "is_lot" = true)
    (k27 : PySem.W.keepIn K (.ref f27) = true)
    (a28 : PySem.W.nsIn K mainGlobals "_are_pins" = some (some (.ref f28)))
    (l28 : K.lookup f28 = some ⟨oc28, od28, .func (PySem.W.fnOf "_are_pins" "_are_pins" (defArgs s_are_pins) (defBody s_are_pins) (defScope s_are_pins) .none kV28 dc28 pm28 an28 cd28 ct28), sl28⟩)
    (c28 : PySem.W.codeIn K cd28 "_are_pins" = true)
    (k28 : PySem.W.keepIn K (.ref f28) = true)
    (a29 : PySem.W.nsIn K mainGlobals "_squares_of" = some (some (.ref f29)))
    (l29 : K.lookup f29 = some ⟨oc29, od29, .func (PySem.W.fnOf "_squares_of" "_squares_of" (defArgs s_squares_of) (defBody s_squares_of) (defScope s_squares_of) .none kV29 dc29 pm29 an29 cd29 ct29), sl29⟩)
    (c29 : PySem.W.codeIn K cd29 "_squares_of" = true)
    (k29 : PySem.W.keepIn K (.ref f29) = true)
    (a30 : PySem.W.nsIn K mainGlobals "_law_names" = some (some (.ref f30)))
    (l30 : K.lookup f30 = some ⟨oc30, od30, .func (PySem.W.fnOf "_law_names" "_law_names" (defArgs s_law_names) (defBody s_law_names) (defScope s_law_names) .none kV30 dc30 pm30 an30 cd30 ct30), sl30⟩)
    (c30 : PySem.W.codeIn K cd30 "_law_names" = true)
    (k30 : PySem.W.keepIn K (.ref f30) = true)
    (a31 : PySem.W.nsIn K mainGlobals "_law_lot" = some (some (.ref f31)))
    (l31 : K.lookup f31 = some ⟨oc31, od31, .func (PySem.W.fnOf "_law_lot" "_law_lot" (defArgs s_law_lot) (defBody s_law_lot) (defScope s_law_lot) .none kV31 dc31 pm31 an31 cd31 ct31), sl31⟩)
    (c31 : PySem.W.codeIn K cd31 "_law_lot" = true)
    (k31 : PySem.W.keepIn K (.ref f31) = true)
    (a32 : PySem.W.nsIn K mainGlobals "_law_placing" = some (some (.ref f32)))
    (l32 : K.lookup f32 = some ⟨oc32, od32, .func (PySem.W.fnOf "_law_placing" "_law_placing" (defArgs s_law_placing) (defBody s_law_placing) (defScope s_law_placing) .none kV32 dc32 pm32 an32 cd32 ct32), sl32⟩)
    (c32 : PySem.W.codeIn K cd32 "_law_placing" = true)
    (k32 : PySem.W.keepIn K (.ref f32) = true)
    (a33 : PySem.W.nsIn K mainGlobals "is_pair" = some (some (.ref f33)))
    (l33 : K.lookup f33 = some ⟨oc33, od33, .func (PySem.W.fnOf "is_pair" "is_pair" (defArgs sis_pair) (defBody sis_pair) (defScope sis_pair) .none kV33 dc33 pm33 an33 cd33 ct33), sl33⟩)
    (c33 : PySem.W.codeIn K cd33 "is_pair" = true)
    (k33 : PySem.W.keepIn K (.ref f33) = true)
    (a34 : PySem.W.nsIn K mainGlobals "is_lot_of" = some (some (.ref f34)))
    (l34 : K.lookup f34 = some ⟨oc34, od34, .func (PySem.W.fnOf "is_lot_of" "is_lot_of" (defArgs sis_lot_of) (defBody sis_lot_of) (defScope sis_lot_of) .none kV34 dc34 pm34 an34 cd34 ct34), sl34⟩)
    (c34 : PySem.W.codeIn K cd34 "is_lot_of" = true)
    (k34 : PySem.W.keepIn K (.ref f34) = true)
    (a35 : PySem.W.nsIn K mainGlobals "is_spot" = some (some (.ref f35)))
    (l35 : K.lookup f35 = some ⟨oc35, od35, .func (PySem.W.fnOf "is_spot" "is_spot" (defArgs sis_spot) (defBody sis_spot) (defScope sis_spot) .none kV35 dc35 pm35 an35 cd35 ct35), sl35⟩)
    (c35 : PySem.W.codeIn K cd35 "is_spot" = true)
    (k35 : PySem.W.keepIn K (.ref f35) = true)
    (a36 : PySem.W.nsIn K mainGlobals "_are_rods" = some (some (.ref f36)))
    (l36 : K.lookup f36 = some ⟨oc36, od36, .func (PySem.W.fnOf "_are_rods" "_are_rods" (defArgs s_are_rods) (defBody s_are_rods) (defScope s_are_rods) .none kV36 dc36 pm36 an36 cd36 ct36), sl36⟩)
    (c36 : PySem.W.codeIn K cd36 "_are_rods" = true)
    (k36 : PySem.W.keepIn K (.ref f36) = true)
    (a37 : PySem.W.nsIn K mainGlobals "are_spots" = some (some (.ref f37)))
    (l37 : K.lookup f37 = some ⟨oc37, od37, .func (PySem.W.fnOf "are_spots" "are_spots" (defArgs sare_spots) (defBody sare_spots) (defScope sare_spots) .none kV37 dc37 pm37 an37 cd37 ct37), sl37⟩)
    (c37 : PySem.W.codeIn K cd37 "are_spots" = true)
    (k37 : PySem.W.keepIn K (.ref f37) = true)
    (a38 : PySem.W.findIn K (.ref CFrame) "__init__" = some (some (.ref f38)))
    (i38 : PySem.W.isFn K (.ref f38) = true)
    (l38 : K.lookup f38 = some ⟨oc38, od38, .func (PySem.W.fnOf "__init__" "Frame.__init__" (defArgs sFrame___init__) (defBody sFrame___init__) (defScope sFrame___init__) (.ref T38) kV38 dc38 pm38 an38 cd38 ct38), sl38⟩)
    (c38 : PySem.W.codeIn K cd38 "Frame.__init__" = true)
    (k38 : PySem.W.keepIn K (.ref f38) = true)
    (lT38 : K.lookup T38 = some ⟨ocT38, odT38, .seq #[.ref e0] nT38, slT38⟩)
    (lE38 : K.lookup e0 = some ⟨.type "tuple", odE38, .seq #[] nE38, slE38⟩)
    (a39 : PySem.W.nsIn K mainGlobals "check_placing" = some (some (.ref f39)))
    (l39 : K.lookup f39 = some ⟨oc39, od39, .func (PySem.W.fnOf "check_placing" "check_placing" (defArgs scheck_placing) (defBody scheck_placing) (defScope scheck_placing) .none kV39 dc39 pm39 an39 cd39 ct39), sl39⟩)
    (c39 : PySem.W.codeIn K cd39 "check_placing" = true)
    (k39 : PySem.W.keepIn K (.ref f39) = true)
    (a40 : PySem.W.nsIn K mainGlobals "_is_any_placing" = some (some (.ref f40)))
    (l40 : K.lookup f40 = some ⟨oc40, od40, .func (PySem.W.fnOf "_is_any_placing" "_is_any_placing" (defArgs s_is_any_placing) (defBody s_is_any_placing) (defScope s_is_any_placing) .none kV40 dc40 pm40 an40 cd40 ct40), sl40⟩)
    (c40 : PySem.W.codeIn K cd40 "_is_any_placing" = true)
    (k40 : PySem.W.keepIn K (.ref f40) = true)
    (a41 : PySem.W.nsIn K mainGlobals "check_free_placing" = some (some (.ref f41)))
    (l41 : K.lookup f41 = some ⟨oc41, od41, .func (PySem.W.fnOf "check_free_placing" "check_free_placing" (defArgs scheck_free_placing) (defBody scheck_free_placing) (defScope scheck_free_placing) .none kV41 dc41 pm41 an41 cd41 ct41), sl41⟩)
    (c41 : PySem.W.codeIn K cd41 "check_free_placing" = true)
    (k41 : PySem.W.keepIn K (.ref f41) = true)
    (a42 : PySem.W.nsIn K mainGlobals "squares" = some (some (.ref f42)))
    (l42 : K.lookup f42 = some ⟨oc42, od42, .func (PySem.W.fnOf "squares" "squares" (defArgs ssquares) (defBody ssquares) (defScope ssquares) .none kV42 dc42 pm42 an42 cd42 ct42), sl42⟩)
    (c42 : PySem.W.codeIn K cd42 "squares" = true)
    (k42 : PySem.W.keepIn K (.ref f42) = true)
    (a43 : PySem.W.nsIn K mainGlobals "are_alike" = some (some (.ref f43)))
    (l43 : K.lookup f43 = some ⟨oc43, od43, .func (PySem.W.fnOf "are_alike" "are_alike" (defArgs sare_alike) (defBody sare_alike) (defScope sare_alike) .none kV43 dc43 pm43 an43 cd43 ct43), sl43⟩)
    (c43 : PySem.W.codeIn K cd43 "are_alike" = true)
    (k43 : PySem.W.keepIn K (.ref f43) = true)
    (a44 : PySem.W.nsIn K mainGlobals "mirrored" = some (some (.ref f44)))
    (l44 : K.lookup f44 = some ⟨oc44, od44, .func (PySem.W.fnOf "mirrored" "mirrored" (defArgs smirrored) (defBody smirrored) (defScope smirrored) .none kV44 dc44 pm44 an44 cd44 ct44), sl44⟩)
    (c44 : PySem.W.codeIn K cd44 "mirrored" = true)
    (k44 : PySem.W.keepIn K (.ref f44) = true)
    (a45 : PySem.W.nsIn K mainGlobals "_law_right" = some (some (.ref f45)))
    (l45 : K.lookup f45 = some ⟨oc45, od45, .func (PySem.W.fnOf "_law_right" "_law_right" (defArgs s_law_right) (defBody s_law_right) (defScope s_law_right) .none kV45 dc45 pm45 an45 cd45 ct45), sl45⟩)
    (c45 : PySem.W.codeIn K cd45 "_law_right" = true)
    (k45 : PySem.W.keepIn K (.ref f45) = true)
    (a46 : PySem.W.nsIn K mainGlobals "law" = some (some (.ref f46)))
    (l46 : K.lookup f46 = some ⟨oc46, od46, .func (PySem.W.fnOf "law" "law" (defArgs slaw) (defBody slaw) (defScope slaw) .none kV46 dc46 pm46 an46 cd46 ct46), sl46⟩)
    (c46 : PySem.W.codeIn K cd46 "law" = true)
    (k46 : PySem.W.keepIn K (.ref f46) = true)
    (pa47 : PySem.W.findIn K (.ref CFrame) "pins" = some (some (.ref p47)))
    (pg47 : PySem.W.specialIn K (.ref p47) "__get__" = some (some (.builtin "property.__get__")))
    (pt47 : PySem.W.takesIn K (.ref p47) = some true)
    (pr47 : PySem.W.recIn K p47 "property" = some (.ref f47 :: re47))
    (l47 : K.lookup f47 = some ⟨oc47, od47, .func (PySem.W.fnOf "pins" "Frame.pins" (defArgs sFrame_pins) (defBody sFrame_pins) (defScope sFrame_pins) .none kV47 dc47 pm47 an47 cd47 ct47), sl47⟩)
    (c47 : PySem.W.codeIn K cd47 "Frame.pins" = true)
    (pa48 : PySem.W.findIn K (.ref CFrame) "rods" = some (some (.ref p48)))
    (pg48 : PySem.W.specialIn K (.ref p48) "__get__" = some (some (.builtin "property.__get__")))
    (pt48 : PySem.W.takesIn K (.ref p48) = some true)
    (pr48 : PySem.W.recIn K p48 "property" = some (.ref f48 :: re48))
    (l48 : K.lookup f48 = some ⟨oc48, od48, .func (PySem.W.fnOf "rods" "Frame.rods" (defArgs sFrame_rods) (defBody sFrame_rods) (defScope sFrame_rods) .none kV48 dc48 pm48 an48 cd48 ct48), sl48⟩)
    (c48 : PySem.W.codeIn K cd48 "Frame.rods" = true)
    (pgFrame : PySem.W.plainGet K CFrame Str.empty = true)
    (hdFrame : PySem.W.hasDictIn K CFrame = true)
    (poFrame : PySem.W.plainOver K CFrame = true)
    (saFrame : PySem.W.findIn K (.ref CFrame) "__setattr__" = some (some (.builtin "object.__setattr__")))
    (ccFrame : PySem.W.findIn K (.ref CFrame) "__class__" = some (some (.builtin "object.__class__")))
    (cgFrame : PySem.W.specialIn K (.builtin "object.__class__") "__get__" = some (some (.builtin "getset_descriptor.__get__")))
    (ctFrame : PySem.W.takesIn K (.builtin "object.__class__") = some true)
    (cmFrame : PySem.W.mroIn K CFrame (.type "object") = some true)
    (mkFrame : PySem.W.makesIn K CFrame = true)
    (kcFrame : PySem.W.keepIn K (.ref CFrame) = true)
    (nFrame_pins : PySem.W.findIn K (.ref CFrame) "_pins" = some none)
    (nFrame_rods : PySem.W.findIn K (.ref CFrame) "_rods" = some none)
    {t_MAX_DIGITS : Tok}
    (g_MAX_DIGITS : PySem.W.nsIn K mainGlobals "MAX_DIGITS" = some (some (.int 2000 t_MAX_DIGITS)))
    {t_MAX_LETTERS : Tok}
    (g_MAX_LETTERS : PySem.W.nsIn K mainGlobals "MAX_LETTERS" = some (some (.int 4 t_MAX_LETTERS)))
    {t_MAX_PINS : Tok}
    (g_MAX_PINS : PySem.W.nsIn K mainGlobals "MAX_PINS" = some (some (.int 8 t_MAX_PINS)))
    (z_abs : PySem.W.nsIn K mainGlobals "abs" = some none)
    (z_all : PySem.W.nsIn K mainGlobals "all" = some none)
    (z_bool : PySem.W.nsIn K mainGlobals "bool" = some none)
    (z_dict : PySem.W.nsIn K mainGlobals "dict" = some none)
    (z_int : PySem.W.nsIn K mainGlobals "int" = some none)
    (z_isinstance : PySem.W.nsIn K mainGlobals "isinstance" = some none)
    (z_len : PySem.W.nsIn K mainGlobals "len" = some none)
    (z_list : PySem.W.nsIn K mainGlobals "list" = some none)
    (z_max : PySem.W.nsIn K mainGlobals "max" = some none)
    (z_min : PySem.W.nsIn K mainGlobals "min" = some none)
    (z_range : PySem.W.nsIn K mainGlobals "range" = some none)
    (z_set : PySem.W.nsIn K mainGlobals "set" = some none)
    (z_sorted : PySem.W.nsIn K mainGlobals "sorted" = some none)
    (z_str : PySem.W.nsIn K mainGlobals "str" = some none)
    (z_sum : PySem.W.nsIn K mainGlobals "sum" = some none)
    (z_tuple : PySem.W.nsIn K mainGlobals "tuple" = some none)
    (z_zip : PySem.W.nsIn K mainGlobals "zip" = some none)
    : ∃ fd : FuncData, (∀ (s : Shared) (v : Value), BindsTo s fd ⟨[v], []⟩ [("_law_script", v)]) ∧ ∀ base : Heap, K.In base → base.Ns mainGlobals mg → FnQ l.prog w K mg base 10 fa fd ["_law_script"] (spLaw K) := by
  have e := hfa.symm.trans (PySem.W.mg_of X G a46)
  cases e
  have B : Bi mg := { b_abs := PySem.W.mg_none_of X G z_abs, b_all := PySem.W.mg_none_of X G z_all, b_bool := PySem.W.mg_none_of X G z_bool, b_dict := PySem.W.mg_none_of X G z_dict, b_int := PySem.W.mg_none_of X G z_int, b_isinstance := PySem.W.mg_none_of X G z_isinstance, b_len := PySem.W.mg_none_of X G z_len, b_list := PySem.W.mg_none_of X G z_list, b_max := PySem.W.mg_none_of X G z_max, b_min := PySem.W.mg_none_of X G z_min, b_range := PySem.W.mg_none_of X G z_range, b_set := PySem.W.mg_none_of X G z_set, b_sorted := PySem.W.mg_none_of X G z_sorted, b_str := PySem.W.mg_none_of X G z_str, b_sum := PySem.W.mg_none_of X G z_sum, b_tuple := PySem.W.mg_none_of X G z_tuple, b_zip := PySem.W.mg_none_of X G z_zip, c_MAX_DIGITS := ⟨t_MAX_DIGITS, PySem.W.mg_of X G g_MAX_DIGITS⟩, c_MAX_LETTERS := ⟨t_MAX_LETTERS, PySem.W.mg_of X G g_MAX_LETTERS⟩, c_MAX_PINS := ⟨t_MAX_PINS, PySem.W.mg_of X G g_MAX_PINS⟩ }
  have clFrame : Cls K CFrame := ⟨pgFrame, hdFrame, poFrame, saFrame⟩
  have FKFrame : FrmKFrame K mg CFrame e0 := { cl := clFrame, ins := ⟨clFrame, ccFrame, cgFrame, ctFrame, cmFrame⟩, gC := PySem.W.mg_of X G gFrame, n_pins := nFrame_pins, n_rods := nFrame_rods, em := ⟨_, nE38, lE38, rfl, rfl⟩ }
  have F0 := fun_mk (st := sproduct_of) l0 c0 k0
  have D0 : DefAt K mg "product_of" sproduct_of ["row", "other"] := ⟨f0, _, F0, PySem.W.mg_of X G a0, F0.binds (ps := ["row", "other"]) fun _ _ _ _ _ _ us hl => match us, hl with | [_, _], _ => rfl⟩
  have F1 := fun_mk (st := s_least_longer) l1 c1 k1
  have D1 : DefAt K mg "_least_longer" s_least_longer ["digits"] := ⟨f1, _, F1, PySem.W.mg_of X G a1, F1.binds (ps := ["digits"]) fun _ _ _ _ _ _ us hl => match us, hl with | [_], _ => rfl⟩
  have F2 := fun_mk (st := sis_name) l2 c2 k2
  have D2 : DefAt K mg "is_name" sis_name ["value"] := ⟨f2, _, F2, PySem.W.mg_of X G a2, F2.binds (ps := ["value"]) fun _ _ _ _ _ _ us hl => match us, hl with | [_], _ => rfl⟩
  have F3 := fun_mk (st := sis_ascending) l3 c3 k3
  have D3 : DefAt K mg "is_ascending" sis_ascending ["values"] := ⟨f3, _, F3, PySem.W.mg_of X G a3, F3.binds (ps := ["values"]) fun _ _ _ _ _ _ us hl => match us, hl with | [_], _ => rfl⟩
  have F4 := fun_mk (st := spairs_among) l4 c4 k4
  have D4 : DefAt K mg "pairs_among" spairs_among ["pins"] := ⟨f4, _, F4, PySem.W.mg_of X G a4, F4.binds (ps := ["pins"]) fun _ _ _ _ _ _ us hl => match us, hl with | [_], _ => rfl⟩
  have F5 := fun_mk (st := srods_within) l5 c5 k5
  have D5 : DefAt K mg "rods_within" srods_within ["rods", "lot"] := ⟨f5, _, F5, PySem.W.mg_of X G a5, F5.binds (ps := ["rods", "lot"]) fun _ _ _ _ _ _ us hl => match us, hl with | [_, _], _ => rfl⟩
  have F6 := fun_mk (st := scheck_frame) l6 c6 k6
  have D6 : DefAt K mg "check_frame" scheck_frame ["frame"] := ⟨f6, _, F6, PySem.W.mg_of X G a6, F6.binds (ps := ["frame"]) fun _ _ _ _ _ _ us hl => match us, hl with | [_], _ => rfl⟩
  have F7 := fun_mk (st := sspace_in) l7 c7 k7
  have D7 : DefAt K mg "space_in" sspace_in ["placing"] := ⟨f7, _, F7, PySem.W.mg_of X G a7, F7.binds (ps := ["placing"]) fun _ _ _ _ _ _ us hl => match us, hl with | [_], _ => rfl⟩
  have F8 := fun_mk (st := s_sum) l8 c8 k8
  have D8 : DefAt K mg "_sum" s_sum ["spot", "other"] := ⟨f8, _, F8, PySem.W.mg_of X G a8, F8.binds (ps := ["spot", "other"]) fun _ _ _ _ _ _ us hl => match us, hl with | [_, _], _ => rfl⟩
  have F9 := fun_mk (st := s_difference) l9 c9 k9
  have D9 : DefAt K mg "_difference" s_difference ["spot", "other"] := ⟨f9, _, F9, PySem.W.mg_of X G a9, F9.binds (ps := ["spot", "other"]) fun _ _ _ _ _ _ us hl => match us, hl with | [_, _], _ => rfl⟩
  have F10 := fun_mk (st := s_multiple) l10 c10 k10
  have D10 : DefAt K mg "_multiple" s_multiple ["spot", "scale"] := ⟨f10, _, F10, PySem.W.mg_of X G a10, F10.binds (ps := ["spot", "scale"]) fun _ _ _ _ _ _ us hl => match us, hl with | [_, _], _ => rfl⟩
  have F11 := fun_mk (st := s_law_bag) l11 c11 k11
  have D11 : DefAt K mg "_law_bag" s_law_bag ["_law_script", "_law_at"] := ⟨f11, _, F11, PySem.W.mg_of X G a11, F11.binds (ps := ["_law_script", "_law_at"]) fun _ _ _ _ _ _ us hl => match us, hl with | [_, _], _ => rfl⟩
  have F12 := fun_mk (st := s_law_draw) l12 c12 k12
  have D12 : DefAt K mg "_law_draw" s_law_draw ["_law_bag_here", "_law_total"] := ⟨f12, _, F12, PySem.W.mg_of X G a12, F12.binds (ps := ["_law_bag_here", "_law_total"]) fun _ _ _ _ _ _ us hl => match us, hl with | [_, _], _ => rfl⟩
  have F13 := fun_mk (st := s_law_pairs_of) l13 c13 k13
  have D13 : DefAt K mg "_law_pairs_of" s_law_pairs_of ["_law_pins"] := ⟨f13, _, F13, PySem.W.mg_of X G a13, F13.binds (ps := ["_law_pins"]) fun _ _ _ _ _ _ us hl => match us, hl with | [_], _ => rfl⟩
  have F14 := fun_mk (st := s_law_is_turned) l14 c14 k14
  have D14 : DefAt K mg "_law_is_turned" s_law_is_turned ["_law_one", "_law_two", "_law_three"] := ⟨f14, _, F14, PySem.W.mg_of X G a14, F14.binds (ps := ["_law_one", "_law_two", "_law_three"]) fun _ _ _ _ _ _ us hl => match us, hl with | [_, _, _], _ => rfl⟩
  have F15 := fun_mk (st := s_law_square) l15 c15 k15
  have D15 : DefAt K mg "_law_square" s_law_square ["_law_placing_here", "_law_one", "_law_other"] := ⟨f15, _, F15, PySem.W.mg_of X G a15, F15.binds (ps := ["_law_placing_here", "_law_one", "_law_other"]) fun _ _ _ _ _ _ us hl => match us, hl with | [_, _, _], _ => rfl⟩
  have F16 := fun_mk (st := s_law_mirrored) l16 c16 k16
  have D16 : DefAt K mg "_law_mirrored" s_law_mirrored ["_law_start", "_law_end", "_law_spot_here"] := ⟨f16, _, F16, PySem.W.mg_of X G a16, F16.binds (ps := ["_law_start", "_law_end", "_law_spot_here"]) fun _ _ _ _ _ _ us hl => match us, hl with | [_, _, _], _ => rfl⟩
  have F17 := fun_mk (st := shas_digits) l17 c17 k17
  have D17 : DefAt K mg "has_digits" shas_digits ["number", "most"] := ⟨f17, _, F17, PySem.W.mg_of X G a17, F17.binds (ps := ["number", "most"]) fun _ _ _ _ _ _ us hl => match us, hl with | [_, _], _ => rfl⟩
  have F18 := fun_mk (st := sare_names) l18 c18 k18
  have D18 : DefAt K mg "are_names" sare_names ["value"] := ⟨f18, _, F18, PySem.W.mg_of X G a18, F18.binds (ps := ["value"]) fun _ _ _ _ _ _ us hl => match us, hl with | [_], _ => rfl⟩
  have F19 := fun_mk (st := scheck_pin_placed) l19 c19 k19
  have D19 : DefAt K mg "check_pin_placed" scheck_pin_placed ["placing", "pin"] := ⟨f19, _, F19, PySem.W.mg_of X G a19, F19.binds (ps := ["placing", "pin"]) fun _ _ _ _ _ _ us hl => match us, hl with | [_, _], _ => rfl⟩
  have F20 := fun_mk (st := s_square) l20 c20 k20
  have D20 : DefAt K mg "_square" s_square ["spot", "other"] := ⟨f20, _, F20, PySem.W.mg_of X G a20, F20.binds (ps := ["spot", "other"]) fun _ _ _ _ _ _ us hl => match us, hl with | [_, _], _ => rfl⟩
  have F21 := fun_mk (st := s_mirror_image) l21 c21 k21
  have D21 : DefAt K mg "_mirror_image" s_mirror_image ["spot", "start", "end"] := ⟨f21, _, F21, PySem.W.mg_of X G a21, F21.binds (ps := ["spot", "start", "end"]) fun _ _ _ _ _ _ us hl => match us, hl with | [_, _, _], _ => rfl⟩
  have F22 := fun_mk (st := s_law_one_of) l22 c22 k22
  have D22 : DefAt K mg "_law_one_of" s_law_one_of ["_law_bag_here", "_law_items"] := ⟨f22, _, F22, PySem.W.mg_of X G a22, F22.binds (ps := ["_law_bag_here", "_law_items"]) fun _ _ _ _ _ _ us hl => match us, hl with | [_, _], _ => rfl⟩
  have F23 := fun_mk (st := s_law_shuffled) l23 c23 k23
  have D23 : DefAt K mg "_law_shuffled" s_law_shuffled ["_law_bag_here", "_law_items"] := ⟨f23, _, F23, PySem.W.mg_of X G a23, F23.binds (ps := ["_law_bag_here", "_law_items"]) fun _ _ _ _ _ _ us hl => match us, hl with | [_, _], _ => rfl⟩
  have F24 := fun_mk (st := s_law_some_of) l24 c24 k24
  have D24 : DefAt K mg "_law_some_of" s_law_some_of ["_law_bag_here", "_law_items", "_law_size"] := ⟨f24, _, F24, PySem.W.mg_of X G a24, F24.binds (ps := ["_law_bag_here", "_law_items", "_law_size"]) fun _ _ _ _ _ _ us hl => match us, hl with | [_, _, _], _ => rfl⟩
  have F25 := fun_mk (st := s_law_spot) l25 c25 k25
  have D25 : DefAt K mg "_law_spot" s_law_spot ["_law_bag_here", "_law_space", "_law_spread"] := ⟨f25, _, F25, PySem.W.mg_of X G a25, F25.binds (ps := ["_law_bag_here", "_law_space", "_law_spread"]) fun _ _ _ _ _ _ us hl => match us, hl with | [_, _, _], _ => rfl⟩
  have F26 := fun_mk (st := sis_integer) l26 c26 k26
  have D26 : DefAt K mg "is_integer" sis_integer ["value"] := ⟨f26, _, F26, PySem.W.mg_of X G a26, F26.binds (ps := ["value"]) fun _ _ _ _ _ _ us hl => match us, hl with | [_], _ => rfl⟩
  have F27 := fun_mk (st := sis_lot) l27 c27 k27
  have D27 : DefAt K mg "is_lot" sis_lot ["value"] := ⟨f27, _, F27, PySem.W.mg_of X G a27, F27.binds (ps := ["value"]) fun _ _ _ _ _ _ us hl => match us, hl with | [_], _ => rfl⟩
  have F28 := fun_mk (st := s_are_pins) l28 c28 k28
  have D28 : DefAt K mg "_are_pins" s_are_pins ["value"] := ⟨f28, _, F28, PySem.W.mg_of X G a28, F28.binds (ps := ["value"]) fun _ _ _ _ _ _ us hl => match us, hl with | [_], _ => rfl⟩
  have F29 := fun_mk (st := s_squares_of) l29 c29 k29
  have D29 : DefAt K mg "_squares_of" s_squares_of ["pairs", "placing"] := ⟨f29, _, F29, PySem.W.mg_of X G a29, F29.binds (ps := ["pairs", "placing"]) fun _ _ _ _ _ _ us hl => match us, hl with | [_, _], _ => rfl⟩
  have F30 := fun_mk (st := s_law_names) l30 c30 k30
  have D30 : DefAt K mg "_law_names" s_law_names ["_law_bag_here", "_law_many"] := ⟨f30, _, F30, PySem.W.mg_of X G a30, F30.binds (ps := ["_law_bag_here", "_law_many"]) fun _ _ _ _ _ _ us hl => match us, hl with | [_, _], _ => rfl⟩
  have F31 := fun_mk (st := s_law_lot) l31 c31 k31
  have D31 : DefAt K mg "_law_lot" s_law_lot ["_law_bag_here", "_law_items"] := ⟨f31, _, F31, PySem.W.mg_of X G a31, F31.binds (ps := ["_law_bag_here", "_law_items"]) fun _ _ _ _ _ _ us hl => match us, hl with | [_, _], _ => rfl⟩
  have F32 := fun_mk (st := s_law_placing) l32 c32 k32
  have D32 : DefAt K mg "_law_placing" s_law_placing ["_law_bag_here", "_law_pins", "_law_space", "_law_spread"] := ⟨f32, _, F32, PySem.W.mg_of X G a32, F32.binds (ps := ["_law_bag_here", "_law_pins", "_law_space", "_law_spread"]) fun _ _ _ _ _ _ us hl => match us, hl with | [_, _, _, _], _ => rfl⟩
  have F33 := fun_mk (st := sis_pair) l33 c33 k33
  have D33 : DefAt K mg "is_pair" sis_pair ["value"] := ⟨f33, _, F33, PySem.W.mg_of X G a33, F33.binds (ps := ["value"]) fun _ _ _ _ _ _ us hl => match us, hl with | [_], _ => rfl⟩
  have F34 := fun_mk (st := sis_lot_of) l34 c34 k34
  have D34 : DefAt K mg "is_lot_of" sis_lot_of ["pins", "value"] := ⟨f34, _, F34, PySem.W.mg_of X G a34, F34.binds (ps := ["pins", "value"]) fun _ _ _ _ _ _ us hl => match us, hl with | [_, _], _ => rfl⟩
  have F35 := fun_mk (st := sis_spot) l35 c35 k35
  have D35 : DefAt K mg "is_spot" sis_spot ["value", "space"] := ⟨f35, _, F35, PySem.W.mg_of X G a35, F35.binds (ps := ["value", "space"]) fun _ _ _ _ _ _ us hl => match us, hl with | [_, _], _ => rfl⟩
  have F36 := fun_mk (st := s_are_rods) l36 c36 k36
  have D36 : DefAt K mg "_are_rods" s_are_rods ["pins", "value"] := ⟨f36, _, F36, PySem.W.mg_of X G a36, F36.binds (ps := ["pins", "value"]) fun _ _ _ _ _ _ us hl => match us, hl with | [_, _], _ => rfl⟩
  have F37 := fun_mk (st := sare_spots) l37 c37 k37
  have D37 : DefAt K mg "are_spots" sare_spots ["pins", "value", "space"] := ⟨f37, _, F37, PySem.W.mg_of X G a37, F37.binds (ps := ["pins", "value", "space"]) fun _ _ _ _ _ _ us hl => match us, hl with | [_, _, _], _ => rfl⟩
  have F38 : FunD K "__init__" "Frame.__init__" (defArgs sFrame___init__) (defBody sFrame___init__) (defScope sFrame___init__) [.ref e0] [] f38 _ := ⟨⟨oc38, od38, .ref T38, kV38, dc38, pm38, an38, cd38, ct38, sl38, rfl, l38, c38, .inr ⟨(fun y => nomatch y), T38, _, [.ref e0], nT38, rfl, lT38, rfl, .cons rfl .nil⟩, .inl rfl⟩, k38⟩
  have D38 : MakAt K mg CFrame "Frame" "Frame.__init__" sFrame___init__ ["self", "pins", "rods"] [[], [.ref e0]] := by
    refine mak_atD F38 ⟨mkFrame, a38, i38, kcFrame⟩ (fun dvs hd => ?_) (PySem.W.mg_of X G gFrame)
    rcases List.mem_cons.mp hd with e | e
    · subst e
      obtain ⟨ds, v, b⟩ := F38.binds1 (ps := ["self", "pins", "rods"]) 3 1 (fun y => nomatch y) rfl fun _ _ _ _ _ _ _ us its hu hi => match us, its, hu, hi with | [_, _, _], [_], _, _ => ⟨_, rfl, rfl⟩
      exact ⟨ds, v, b⟩
    · rw [List.mem_singleton.mp e]
      obtain ⟨ds, v, b⟩ := F38.binds1 (ps := ["self", "pins", "rods"]) 2 0 (fun y => nomatch y) rfl fun _ _ _ _ _ _ _ us its hu hi => match us, its, hu, hi with | [_, _], [_], _, _ => ⟨_, rfl, rfl⟩
      exact ⟨ds, v, b⟩
  have F39 := fun_mk (st := scheck_placing) l39 c39 k39
  have D39 : DefAt K mg "check_placing" scheck_placing ["frame", "placing"] := ⟨f39, _, F39, PySem.W.mg_of X G a39, F39.binds (ps := ["frame", "placing"]) fun _ _ _ _ _ _ us hl => match us, hl with | [_, _], _ => rfl⟩
  have F40 := fun_mk (st := s_is_any_placing) l40 c40 k40
  have D40 : DefAt K mg "_is_any_placing" s_is_any_placing ["value"] := ⟨f40, _, F40, PySem.W.mg_of X G a40, F40.binds (ps := ["value"]) fun _ _ _ _ _ _ us hl => match us, hl with | [_], _ => rfl⟩
  have F41 := fun_mk (st := scheck_free_placing) l41 c41 k41
  have D41 : DefAt K mg "check_free_placing" scheck_free_placing ["placing"] := ⟨f41, _, F41, PySem.W.mg_of X G a41, F41.binds (ps := ["placing"]) fun _ _ _ _ _ _ us hl => match us, hl with | [_], _ => rfl⟩
  have F42 := fun_mk (st := ssquares) l42 c42 k42
  have D42 : DefAt K mg "squares" ssquares ["frame", "placing"] := ⟨f42, _, F42, PySem.W.mg_of X G a42, F42.binds (ps := ["frame", "placing"]) fun _ _ _ _ _ _ us hl => match us, hl with | [_, _], _ => rfl⟩
  have F43 := fun_mk (st := sare_alike) l43 c43 k43
  have D43 : DefAt K mg "are_alike" sare_alike ["placing", "other_placing"] := ⟨f43, _, F43, PySem.W.mg_of X G a43, F43.binds (ps := ["placing", "other_placing"]) fun _ _ _ _ _ _ us hl => match us, hl with | [_, _], _ => rfl⟩
  have F44 := fun_mk (st := smirrored) l44 c44 k44
  have D44 : DefAt K mg "mirrored" smirrored ["placing", "one", "other", "side"] := ⟨f44, _, F44, PySem.W.mg_of X G a44, F44.binds (ps := ["placing", "one", "other", "side"]) fun _ _ _ _ _ _ us hl => match us, hl with | [_, _, _, _], _ => rfl⟩
  have F45 := fun_mk (st := s_law_right) l45 c45 k45
  have D45 : DefAt K mg "_law_right" s_law_right ["_law_bag_here"] := ⟨f45, _, F45, PySem.W.mg_of X G a45, F45.binds (ps := ["_law_bag_here"]) fun _ _ _ _ _ _ us hl => match us, hl with | [_], _ => rfl⟩
  have FL := fun_mk (st := slaw) l46 c46 k46
  refine ⟨PySem.W.fnOf "law" "law" (defArgs slaw) (defBody slaw) (defScope slaw) .none kV46 dc46 pm46 an46 cd46 ct46, fun s v => .of_eq rfl, fun base _ _ => ?_⟩
  have Q47 : PrpA l.prog w K mg base CFrame "pins" 1 (getSp CFrame "_pins") := ⟨p47, f47, _, ⟨pa47, pg47, pt47, ⟨_, pr47⟩⟩, fn_getter (k := 0) l47 c47 scFrame_pins rfl rfl clFrame FKFrame.n_pins, .all fun us hl => match us, hl with | [_], _ => rfl⟩
  have Q48 : PrpA l.prog w K mg base CFrame "rods" 1 (getSp CFrame "_rods") := ⟨p48, f48, _, ⟨pa48, pg48, pt48, ⟨_, pr48⟩⟩, fn_getter (k := 0) l48 c48 scFrame_rods rfl rfl clFrame FKFrame.n_rods, .all fun us hl => match us, hl with | [_], _ => rfl⟩
  have Q0 := okproduct_of (P := l.prog) (w := w) (base := base) B FKFrame  D0
  have Q1 := ok_least_longer (P := l.prog) (w := w) (base := base) B FKFrame  D1
  have Q2 := okis_name (P := l.prog) (w := w) (base := base) B FKFrame  D2
  have Q3 := okis_ascending (P := l.prog) (w := w) (base := base) B FKFrame  D3
  have Q4 := okpairs_among (P := l.prog) (w := w) (base := base) B FKFrame  D4
  have Q5 := okrods_within (P := l.prog) (w := w) (base := base) B FKFrame  D5
  have Q6 := okcheck_frame (P := l.prog) (w := w) (base := base) B FKFrame  D6
  have Q7 := okspace_in (P := l.prog) (w := w) (base := base) B FKFrame  D7
  have Q8 := ok_sum (P := l.prog) (w := w) (base := base) B FKFrame  D8
  have Q9 := ok_difference (P := l.prog) (w := w) (base := base) B FKFrame  D9
  have Q10 := ok_multiple (P := l.prog) (w := w) (base := base) B FKFrame  D10
  have Q11 := ok_law_bag (P := l.prog) (w := w) (base := base) B FKFrame  D11
  have Q12 := ok_law_draw (P := l.prog) (w := w) (base := base) B FKFrame  D12
  have Q13 := ok_law_pairs_of (P := l.prog) (w := w) (base := base) B FKFrame  D13
  have Q14 := ok_law_is_turned (P := l.prog) (w := w) (base := base) B FKFrame  D14
  have Q15 := ok_law_square (P := l.prog) (w := w) (base := base) B FKFrame  D15
  have Q16 := ok_law_mirrored (P := l.prog) (w := w) (base := base) B FKFrame  D16
  have Q17 := okhas_digits (P := l.prog) (w := w) (base := base) B FKFrame Q1 D17
  have Q18 := okare_names (P := l.prog) (w := w) (base := base) B FKFrame Q2 D18
  have Q19 := okcheck_pin_placed (P := l.prog) (w := w) (base := base) B FKFrame Q2 D19
  have Q20 := ok_square (P := l.prog) (w := w) (base := base) B FKFrame Q9 Q0 D20
  have Q21 := ok_mirror_image (P := l.prog) (w := w) (base := base) B FKFrame Q9 Q10 Q8 Q0 D21
  have Q22 := ok_law_one_of (P := l.prog) (w := w) (base := base) B FKFrame Q12 D22
  have Q23 := ok_law_shuffled (P := l.prog) (w := w) (base := base) B FKFrame Q12 D23
  have Q24 := ok_law_some_of (P := l.prog) (w := w) (base := base) B FKFrame Q12 D24
  have Q25 := ok_law_spot (P := l.prog) (w := w) (base := base) B FKFrame Q12 D25
  have Q26 := okis_integer (P := l.prog) (w := w) (base := base) B FKFrame Q17 D26
  have Q27 := okis_lot (P := l.prog) (w := w) (base := base) B FKFrame Q18 Q3 D27
  have Q28 := ok_are_pins (P := l.prog) (w := w) (base := base) B FKFrame Q18 D28
  have Q29 := ok_squares_of (P := l.prog) (w := w) (base := base) B FKFrame Q20 D29
  have Q30 := ok_law_names (P := l.prog) (w := w) (base := base) B FKFrame Q12 Q23 D30
  have Q31 := ok_law_lot (P := l.prog) (w := w) (base := base) B FKFrame Q24 D31
  have Q32 := ok_law_placing (P := l.prog) (w := w) (base := base) B FKFrame Q25 D32
  have Q33 := okis_pair (P := l.prog) (w := w) (base := base) B FKFrame Q27 D33
  have Q34 := okis_lot_of (P := l.prog) (w := w) (base := base) B FKFrame Q27 D34
  have Q35 := okis_spot (P := l.prog) (w := w) (base := base) B FKFrame Q26 D35
  have Q36 := ok_are_rods (P := l.prog) (w := w) (base := base) B FKFrame Q33 Q5 D36
  have Q37 := okare_spots (P := l.prog) (w := w) (base := base) B FKFrame Q35 D37
  have Q38 := okFrame___init__ (P := l.prog) (w := w) (base := base) B FKFrame Q28 Q36 D38
  have Q39 := okcheck_placing (P := l.prog) (w := w) (base := base) B FKFrame Q47 Q37 D39
  have Q40 := ok_is_any_placing (P := l.prog) (w := w) (base := base) B FKFrame Q37 Q2 D40
  have Q41 := okcheck_free_placing (P := l.prog) (w := w) (base := base) B FKFrame Q40 D41
  have Q42 := oksquares (P := l.prog) (w := w) (base := base) B FKFrame Q48 Q29 Q6 Q39 D42
  have Q43 := okare_alike (P := l.prog) (w := w) (base := base) B FKFrame Q29 Q41 Q4 D43
  have Q44 := okmirrored (P := l.prog) (w := w) (base := base) B FKFrame Q21 Q10 Q20 Q41 Q19 Q34 Q7 D44
  have Q45 := ok_law_right (P := l.prog) (w := w) (base := base) B FKFrame Q38 Q12 Q14 Q31 Q16 Q30 Q22 Q13 Q32 Q23 Q24 Q15 Q43 Q44 Q42 D45
  exact oklaw B FL FKFrame Q11 Q45 Q44
end K13
open PySem PySem.W PyProof.Rows
set_option maxHeartbeats 0 in
theorem PySem.Challenge.cw_lengthstell_k13_whole_mirrored_placings_holds : PySem.Challenge.rw_lengthstell_k13_whole_mirrored_placings.Holds := by
  w_on; o_law; k_head; (case hw => w_witness2)
  k_fill
  refine Lay.law_walks (l := PySem.Challenge.rw_lengthstell_k13_whole_mirrored_placings) (n := 63) (k := 10) (x := "_law_script") (sp := fun K => K13.spLaw K) rfl (by decide) rfl ⟨rfl, by decide, by decide⟩ (fun w h Y => PySem.W.kIn_of Y) ?F ?hsp
  case hsp => exact fun K H a ns hl hS => ⟨a, ns, rfl, hS, hl, fun _ => rfl⟩
  case F =>
    intro w mg fa h KX G hmg
    refine' K13.all_mk KX G hmg ?gFrame ?a0 ?l0 ?c0 ?k0 ?a1 ?l1 ?c1 ?k1 ?a2 ?l2 ?c2 ?k2 ?a3 ?l3 ?c3 ?k3 ?a4 ?l4 ?c4 ?k4 ?a5 ?l5 ?c5 ?k5 ?a6 ?l6 ?c6 ?k6 ?a7 ?l7 ?c7 ?k7 ?a8 ?l8 ?c8 ?k8 ?a9 ?l9 ?c9 ?k9 ?a10 ?l10 ?c10 ?k10 ?a11 ?l11 ?c11 ?k11 ?a12 ?l12 ?c12 ?k12 ?a13 ?l13 ?c13 ?k13 ?a14 ?l14 ?c14 ?k14 ?a15 ?l15 ?c15 ?k15 ?a16 ?l16 ?c16 ?k16 ?a17 ?l17 ?c17 ?k17 ?a18 ?l18 ?c18 ?k18 ?a19 ?l19 ?c19 ?k19 ?a20 ?l20 ?c20 ?k20 ?a21 ?l21 ?c21 ?k21 ?a22 ?l22 ?c22 ?k22 ?a23 ?l23 ?c23 ?k23 ?a24 ?l24 ?c24 ?k24 ?a25 ?l25 ?c25 ?k25 ?a26 ?l26 ?c26 ?k26 ?a27 ?l27 ?c27 ?k27 ?a28 ?l28 ?c28 ?k28 ?a29 ?l29 ?c29 ?k29 ?a30 ?l30 ?c30 ?k30 ?a31 ?l31 ?c31 ?k31 ?a32 ?l32 ?c32 ?k32 ?a33 ?l33 ?c33 ?k33 ?a34 ?l34 ?c34 ?k34 ?a35 ?l35 ?c35 ?k35 ?a36 ?l36 ?c36 ?k36 ?a37 ?l37 ?c37 ?k37 ?a38 ?i38 ?l38 ?c38 ?k38 ?lT38 ?lE38 ?a39 ?l39 ?c39 ?k39 ?a40 ?l40 ?c40 ?k40 ?a41 ?l41 ?c41 ?k41 ?a42 ?l42 ?c42 ?k42 ?a43 ?l43 ?c43 ?k43 ?a44 ?l44 ?c44 ?k44 ?a45 ?l45 ?c45 ?k45 ?a46 ?l46 ?c46 ?k46 ?pa47 ?pg47 ?pt47 ?pr47 ?l47 ?c47 ?pa48 ?pg48 ?pt48 ?pr48 ?l48 ?c48 ?pgFrame ?hdFrame ?poFrame ?saFrame ?ccFrame ?cgFrame ?ctFrame ?cmFrame ?mkFrame ?kcFrame ?nFrame_pins ?nFrame_rods ?g_MAX_DIGITS ?g_MAX_LETTERS ?g_MAX_PINS ?z_abs ?z_all ?z_bool ?z_dict ?z_int ?z_isinstance ?z_len ?z_list ?z_max ?z_min ?z_range ?z_set ?z_sorted ?z_str ?z_sum ?z_tuple ?z_zip
    (case gFrame => k_is)
    (case a0 => k_is)
    (case l0 => k_is)
    (case c0 => k_is)
    (case k0 => k_is)
    (case a1 => k_is)
    (case l1 => k_is)
    (case c1 => k_is)
    (case k1 => k_is)
    (case a2 => k_is)
    (case l2 => k_is)
    (case c2 => k_is)
    (case k2 => k_is)
    (case a3 => k_is)
    (case l3 => k_is)
    (case c3 => k_is)
    (case k3 => k_is)
    (case a4 => k_is)
    (case l4 => k_is)
    (case c4 => k_is)
    (case k4 => k_is)
    (case a5 => k_is)
    (case l5 => k_is)
    (case c5 => k_is)
    (case k5 => k_is)
    (case a6 => k_is)
    (case l6 => k_is)
    (case c6 => k_is)
    (case k6 => k_is)
    (case a7 => k_is)
    (case l7 => k_is)
    (case c7 => k_is)
    (case k7 => k_is)
    (case a8 => k_is)
    (case l8 => k_is)
    (case c8 => k_is)
    (case k8 => k_is)
    (case a9 => k_is)
    (case l9 => k_is)
    (case c9 => k_is)
    (case k9 => k_is)
    (case a10 => k_is)
    (case l10 => k_is)
    (case c10 => k_is)
    (case k10 => k_is)
    (case a11 => k_is)
    (case l11 => k_is)
    (case c11 => k_is)
    (case k11 => k_is)
    (case a12 => k_is)
    (case l12 => k_is)
    (case c12 => k_is)
    (case k12 => k_is)
    (case a13 => k_is)
    (case l13 => k_is)
    (case c13 => k_is)
    (case k13 => k_is)
    (case a14 => k_is)
    (case l14 => k_is)
    (case c14 => k_is)
    (case k14 => k_is)
    (case a15 => k_is)
    (case l15 => k_is)
    (case c15 => k_is)
    (case k15 => k_is)
    (case a16 => k_is)
    (case l16 => k_is)
    (case c16 => k_is)
    (case k16 => k_is)
    (case a17 => k_is)
    (case l17 => k_is)
    (case c17 => k_is)
    (case k17 => k_is)
    (case a18 => k_is)
    (case l18 => k_is)
    (case c18 => k_is)
    (case k18 => k_is)
    (case a19 => k_is)
    (case l19 => k_is)
    (case c19 => k_is)
    (case k19 => k_is)
    (case a20 => k_is)
    (case l20 => k_is)
    (case c20 => k_is)
    (case k20 => k_is)
    (case a21 => k_is)
    (case l21 => k_is)
    (case c21 => k_is)
    (case k21 => k_is)
    (case a22 => k_is)
    (case l22 => k_is)
    (case c22 => k_is)
    (case k22 => k_is)
    (case a23 => k_is)
    (case l23 => k_is)
    (case c23 => k_is)
    (case k23 => k_is)
    (case a24 => k_is)
    (case l24 => k_is)
    (case c24 => k_is)
    (case k24 => k_is)
    (case a25 => k_is)
    (case l25 => k_is)
    (case c25 => k_is)
    (case k25 => k_is)
    (case a26 => k_is)
    (case l26 => k_is)
    (case c26 => k_is)
    (case k26 => k_is)
    (case a27 => k_is)
    (case l27 => k_is)
    (case c27 => k_is)
    (case k27 => k_is)
    (case a28 => k_is)
    (case l28 => k_is)
    (case c28 => k_is)
    (case k28 => k_is)
    (case a29 => k_is)
    (case l29 => k_is)
    (case c29 => k_is)
    (case k29 => k_is)
    (case a30 => k_is)
    (case l30 => k_is)
    (case c30 => k_is)
    (case k30 => k_is)
    (case a31 => k_is)
    (case l31 => k_is)
    (case c31 => k_is)
    (case k31 => k_is)
    (case a32 => k_is)
    (case l32 => k_is)
    (case c32 => k_is)
    (case k32 => k_is)
    (case a33 => k_is)
    (case l33 => k_is)
    (case c33 => k_is)
    (case k33 => k_is)
    (case a34 => k_is)
    (case l34 => k_is)
    (case c34 => k_is)
    (case k34 => k_is)
    (case a35 => k_is)
    (case l35 => k_is)
    (case c35 => k_is)
    (case k35 => k_is)
    (case a36 => k_is)
    (case l36 => k_is)
    (case c36 => k_is)
    (case k36 => k_is)
    (case a37 => k_is)
    (case l37 => k_is)
    (case c37 => k_is)
    (case k37 => k_is)
    (case a38 => k_is)
    (case i38 => k_is)
    (case l38 => k_is)
    (case c38 => k_is)
    (case k38 => k_is)
    (case lT38 => k_is)
    (case lE38 => k_is)
    (case a39 => k_is)
    (case l39 => k_is)
    (case c39 => k_is)
    (case k39 => k_is)
    (case a40 => k_is)
    (case l40 => k_is)
    (case c40 => k_is)
    (case k40 => k_is)
    (case a41 => k_is)
    (case l41 => k_is)
    (case c41 => k_is)
    (case k41 => k_is)
    (case a42 => k_is)
    (case l42 => k_is)
    (case c42 => k_is)
    (case k42 => k_is)
    (case a43 => k_is)
    (case l43 => k_is)
    (case c43 => k_is)
    (case k43 => k_is)
    (case a44 => k_is)
    (case l44 => k_is)
    (case c44 => k_is)
    (case k44 => k_is)
    (case a45 => k_is)
    (case l45 => k_is)
    (case c45 => k_is)
    (case k45 => k_is)
    (case a46 => k_is)
    (case l46 => k_is)
    (case c46 => k_is)
    (case k46 => k_is)
    (case pa47 => k_is)
    (case pg47 => k_is)
    (case pt47 => k_is)
    (case pr47 => k_is)
    (case l47 => k_is)
    (case c47 => k_is)
    (case pa48 => k_is)
    (case pg48 => k_is)
    (case pt48 => k_is)
    (case pr48 => k_is)
    (case l48 => k_is)
    (case c48 => k_is)
    (case pgFrame => k_is)
    (case hdFrame => k_is)
    (case poFrame => k_is)
    (case saFrame => k_is)
    (case ccFrame => k_is)
    (case cgFrame => k_is)
    (case ctFrame => k_is)
    (case cmFrame => k_is)
    (case mkFrame => k_is)
    (case kcFrame => k_is)
    (case nFrame_pins => k_is)
    (case nFrame_rods => k_is)
    (case g_MAX_DIGITS => k_is)
    (case g_MAX_LETTERS => k_is)
    (case g_MAX_PINS => k_is)
    (case z_abs => k_is)
    (case z_all => k_is)
    (case z_bool => k_is)
    (case z_dict => k_is)
    (case z_int => k_is)
    (case z_isinstance => k_is)
    (case z_len => k_is)
    (case z_list => k_is)
    (case z_max => k_is)
    (case z_min => k_is)
    (case z_range => k_is)
    (case z_set => k_is)
    (case z_sorted => k_is)
    (case z_str => k_is)
    (case z_sum => k_is)
    (case z_tuple => k_is)
    (case z_zip => k_is)
