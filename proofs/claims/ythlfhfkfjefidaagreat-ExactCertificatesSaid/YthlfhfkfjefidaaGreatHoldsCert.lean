/- ExactCertificates: CheckOptimum of the program accepts just the certificates that the reference accepts, with the same error for a program that may not be, for all programs of few rows and unknowns (or such as are refused) and all lists of few fractions of few limbs, also such as are not in normal form: the statement holds for every input, with no condition. -/
import Derived.Test.YthlfhfkfjefidaaGreatLawCert
import Derived.Test.YthlfhfkfjefidaaGreatVec4
namespace Go.Proofs.YthlfhfkfjefidaaGreat
open Go.ChangeShapes Go.WideShapes Go.ChangeAt Go.RowKit Go.Joins Go.Deep
set_option maxRecDepth 100000 in
theorem cert_lifted (os : Os) (started : os.Started) (H : Type) (enc : TypeId × Value → H) :
 ReturnsInHanded {} Tryz.checked os 6 .any (Rows.exactCertificatesSpec.pre6 enc Tryz.prog Tryz.f6 Rows.exactCertificatesRow.domain false) (Rows.exactCertificatesSpec.post enc Tryz.prog Tryz.f6 false true false false) := by
 refine returnsInHanded_of_change (C := Tryz.checked) Tryz.own started (by kernel_rfl) Tryz.func6
  (ChangeSpec.witness6 (enc := enc) (C := Tryz.checked) false ⟨#[], #[.agg #[.slice none 0 0, .slice none 0 0, .slice none 0 0], .agg #[.int .i64 0, .slice none 0 0, .slice none 0 0, .slice none 0 0, .bool false, .slice none 0 0, .bool false, .slice none 0 0]], []⟩ 8 (by kernel_rfl) (by kernel_rfl) (by kernel_rfl) (by kernel_rfl)) ?_
 intro W base args ds gs before hval0 hW _ _
 have hval : ∀ (j : Nat) t v, Tryz.f6.params[j]? = some t → args[j]? = some v → Value.okWide Tryz.prog W .any base t v := hval0
 have hW' := hW
 obtain ⟨p, q, hA0, hV, rfl, _, _⟩ := hW
 have hA : DataW.TrodAll enc Tryz.prog W 0 (fun _ => true) true Tryz.f6.params.toList args.toList ds p := hA0
 rw [Tryz.params6] at hA hval
 obtain ⟨v0, v1, d0, d1, p0, p1, rfl, rfl, rfl, h0, h1⟩ := trodAll_two hA
 obtain ⟨rfl, rfl⟩ := trodVars_none hV
 obtain ⟨A, B, C, n, c, m, e, k, f, S, Ms, Lb, Lc, rfl, g1, g2, g3, g4⟩ := open_P (hval 0 _ v0 rfl rfl) h0
 obtain ⟨kd, XA, YA, RA, xn, xc, yn, yc, rn, rc, Lx, Ly, Lr, rv, rfl, g5, g6, g7, g8, g9⟩ := open_O (hval 1 _ v1 rfl rfl) h1
 refine (lawCert_any g1 g2 g3 g4 g5 g6 g7 g8 g9).mono fun e W' ⟨hb, he⟩ => ?_
 subst he
 exact ⟨_, rfl, law_post (tb := 4) Tryz.laidOut (by kernel_rfl) (by kernel_rfl) Tryz.underlying4 rfl hW' rfl rfl rfl hb⟩
theorem cert_holds : Rows.ExactCertificatesSaid :=
 OpenClaim.holds_of_wide 6 Tryz.f6 rfl rfl rfl rfl rfl rfl rfl ⟨rfl, rfl, rfl, rfl, rfl⟩ rfl rfl rfl rfl rfl (by kernel_rfl) Tryz.func6 (by kernel_rfl)
  (of_decide_eq_true (by kernel_rfl)) (by unfold Func.isWrapper; first | (rw [if_pos (by decide +kernel)]; kernel_rfl) | (rw [if_neg (by decide +kernel)]; exact ⟨rfl, rfl⟩))
  (fun os started H enc _ => cert_lifted os started H enc)
end Go.Proofs.YthlfhfkfjefidaaGreat
