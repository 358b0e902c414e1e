/- A region that draws its order, walked along one line: operations with guards. -/
import Derived.Test.YtgjjjnofdjhikaaLine
namespace Go.Proofs.Ytgjjjnofdjhikaa
open Go Go.RowKit Go.Proofs.Ytgjjjnofdjhikaa.Sim

section
variable {P : Program} {ops : Array Oper} {Q : Exit → Act → World → Prop} {S : World → Prop}
/-- Nothing may break S: an operation is taken, its guard is met. -/
theorem goes_met {i n : Nat} {oi : Oper} {v : Value} {L : Array Bool} {a : Act} {w : World} (hi : ops[i]? = some oi) (hB : takeE ops [] [] i L = true) (hw : Region.wanted oi (yielded ops a.tmps) = true)
    (hQ : ∀ c a w, Q (.panic c) (a.put oi.dst v) w → Q (.panic c) a w) (hy : ∀ w, S w → (execOp a.eval oi).run P w = .ok (.value v) w) (hS : S w)
    (h : Goes P ops Q (SD S []) n (L.setIfInBounds i true) (a.put oi.dst v) w) : Goes P ops Q (SD S []) (n + 1) L a w := by
  simp only [takeE, Bool.and_eq_true, Bool.not_eq_true'] at hB
  obtain ⟨h1, h2, h3, h4, h5, h6⟩ := hB
  refine Goes.take (D := fun k => ([] : List Nat).contains k) hi h1 hQ ?_ ?_ n L a w (Region.free_spec hi h2) (by simpa using h3) (waits_of h4) ?_ (.inr hS) h
  · rintro L w (⟨k, hk, hl⟩ | hs)
    · cases hk
    · exact .inr hs
  · rintro L w (⟨k, hk, hl⟩ | hs)
    · cases hk
    · exact .inr hs
  · refine .inl ⟨hw, ?_⟩
    rintro w ⟨L, hD, ⟨k, hk, hl⟩ | hs⟩
    · cases hk
    · exact hy w hs
/-- It is passed over, its guard is not met. -/
theorem goes_skip {i n : Nat} {oi : Oper} {L : Array Bool} {a : Act} {w : World} (hi : ops[i]? = some oi) (hB : takeE ops [] [] i L = true) (hw : Region.wanted oi (yielded ops a.tmps) = false)
    (hQ : ∀ c a w, Q (.panic c) (a.put oi.dst undef) w → Q (.panic c) a w) (hS : S w)
    (h : Goes P ops Q (SD S []) n (L.setIfInBounds i true) (a.put oi.dst undef) w) : Goes P ops Q (SD S []) (n + 1) L a w := by
  simp only [takeE, Bool.and_eq_true, Bool.not_eq_true'] at hB
  obtain ⟨h1, h2, h3, h4, h5, h6⟩ := hB
  refine Goes.take (D := fun k => ([] : List Nat).contains k) hi h1 hQ ?_ ?_ n L a w (Region.free_spec hi h2) (by simpa using h3) (waits_of h4) ?_ (.inr hS) h
  · rintro L w (⟨k, hk, hl⟩ | hs)
    · cases hk
    · exact .inr hs
  · rintro L w (⟨k, hk, hl⟩ | hs)
    · cases hk
    · exact .inr hs
  · exact .inr ⟨hw, rfl⟩
/-- Two operations may come up. -/
theorem goes_two {D : List Nat} {i j n : Nat} {oi oj : Oper} {L : Array Bool} {a : Act} {w : World} (hi : ops[i]? = some oi) (hj : ops[j]? = some oj) (hr : Region.ready .any ops L = [i, j])
    (h1 : wpList P ops (Behind Q fun a' w' => S w' ∧ Goes P ops Q (SD S D) n (L.setIfInBounds i true) a' w') [oi] a w)
    (h2 : wpList P ops (Behind Q fun a' w' => S w' ∧ Goes P ops Q (SD S D) n (L.setIfInBounds j true) a' w') [oj] a w) : Goes P ops Q (SD S D) (n + 1) L a w := by
  refine Goes.all hr (by simp) fun k hk => ?_
  rcases List.mem_cons.1 hk with rfl | hk
  · exact wpOp_mono (fun a' w' h => ⟨.inr h.1, h.2⟩) (wpOp_of_list hi h1)
  · obtain rfl := List.mem_singleton.1 hk
    exact wpOp_mono (fun a' w' h => ⟨.inr h.1, h.2⟩) (wpOp_of_list hj h2)
end
end Go.Proofs.Ytgjjjnofdjhikaa
