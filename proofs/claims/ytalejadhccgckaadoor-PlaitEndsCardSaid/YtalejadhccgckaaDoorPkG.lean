/- Strands and crossings: the reference's run, Ends, Shadow, Crossings. -/
import Derived.Test.YtalejadhccgckaaDoorPkF
namespace Go.Proofs.YtalejadhccgckaaDoor.Vm
open Go
set_option maxRecDepth 100000
set_option linter.unusedSimpArgs false
set_option linter.unusedVariables false
attribute [-simp] List.getD_eq_getElem?_getD

theorem run_r {H : Hp} {lim : Nat} {s : ByteArray} {K : V → Hp → Prop} (hv : vld s = true) (hK : K (.tup [.agg (fol (chT s) s.size).S, .agg (fol (chT s) s.size).O, .agg (fol (chT s) s.size).U]) H) : VCall tbl lim 69 [.str s] H K := by
  refine VCall_fn tbl_at69 rfl ?_
  have hb := vld_len hv
  simp [vf69, splice, iz3]
  refine wLoop_up s.size (fun i fr L H' => (fr 0 = .str s ∧ fr 2 = .lp 0 0 ∧ fr 3 = .lp 1 0 ∧ fr 4 = .lp 2 0 ∧ fr 5 = .lp 3 0 ∧ fr 6 = .lp 4 0 ∧ fr 7 = .lp 5 0 ∧ fr 8 = .int .i64 i) ∧ L = [z3V, z3V, z3V, (fol (chT s) i).S, (fol (chT s) i).O, (fol (chT s) i).U] ∧ H' = H ∧ i ≤ s.size) ⟨by simp, rfl, rfl, by omega⟩ ?_
  rintro i hi fr L H' ⟨⟨f0, f2, f3, f4, f5, f6, f7, f8⟩, rfl, rfl, hle⟩
  by_cases hp : i < s.size
  · have hp' : ((i : Int) < (s.size : Int)) = True := eq_true (by omega)
    have hl := vld_at hv hp
    obtain ⟨hP, hS⟩ := fol_ok (g := chT s) i
    have hs1 : fol (chT s) (i + 1) = (fol (chT s) i).step (chT s i) := rfl
    have hx := idxT hp
    rw [hs1]
    generalize fol (chT s) i = f at hP hS
    obtain ⟨a, b, c, x, y, z, p, q, r⟩ := f
    simp only [P6, Sum] at hP hS
    rcases hl with e | e | e | e <;> rw [e] at hx ⊢ <;> rcases hP with ⟨rfl, rfl, rfl⟩ | ⟨rfl, rfl, rfl⟩ | ⟨rfl, rfl, rfl⟩ | ⟨rfl, rfl, rfl⟩ | ⟨rfl, rfl, rfl⟩ | ⟨rfl, rfl, rfl⟩ <;>
      simp (disch := omega) [f0, f2, f3, f4, f5, f6, f7, f8, hp', hx, wrap_i64, F9.step, F9.put, on, F9.S, F9.O, F9.U, rd3a, rd3b, rd3c, splice] <;> exact ⟨hp, by omega⟩
  · have hp' : ((i : Int) < (s.size : Int)) = False := eq_false (by omega)
    have hi : i = s.size := by omega
    subst hi
    simp [f0, f2, f3, f4, f5, f6, f7, f8, hp', F9.S, F9.O, F9.U, rd3w, splice]
    exact hK

/-- where the strands end -/
def endV (s : ByteArray) : V := if vld s then .tup [.agg ((fol (chT s) s.size).E 3), .int .i64 0] else .tup [.agg z3V, .int .i64 1]
theorem ends_t {H : Hp} {lim : Nat} {s : ByteArray} {K : V → Hp → Prop} (hlim : lim ≤ H.length) (hK : ∀ X, K (endV s) (H ++ X)) : VCall tbl lim 34 [.str s] H K := by
  refine VCall_fn tbl_at34 rfl ?_
  simp [vf34, iz3]
  refine valid_t hlim fun X => ?_
  unfold endV at hK
  cases hv : vld s with
  | false =>
    simp [hv] at hK ⊢
    simp [splice]
    exact hK X
  | true =>
    simp [hv] at hK ⊢
    refine follow_t hv (by simp; omega) fun Y => ?_
    simp [splice, F9.E, F9.O, F9.U, rd3w] at hK ⊢
    exact hK _
theorem ends_r {H : Hp} {lim : Nat} {s : ByteArray} {K : V → Hp → Prop} (hs : s.size ≤ 1000000) (hK : K (endV s) H) : VCall tbl lim 35 [.str s] H K := by
  refine VCall_fn tbl_at35 rfl ?_
  simp [vf35, iz3]
  refine valid_r hs ?_
  unfold endV at hK
  cases hv : vld s with
  | false =>
    simp [hv] at hK ⊢
    simp [splice, rd3w]
    exact hK
  | true =>
    simp [hv] at hK ⊢
    refine run_r hv ?_
    obtain ⟨hP, hS⟩ := fol_ok (g := chT s) s.size
    generalize fol (chT s) s.size = f at hP hS hK
    obtain ⟨a, b, c, x, y, z, p, q, r⟩ := f
    simp only [P6, Sum] at hP hS
    simp [splice, F9.S, F9.O, F9.U]
    refine wLoop_up 3 (fun i fr L H' => (fr 2 = .lp 0 0 ∧ fr 3 = .int .i64 0 ∧ fr 4 = .lp 1 0 ∧ fr 5 = .lp 2 0 ∧ fr 8 = .int .i64 i) ∧ L = [z3V, F9.E ⟨a, b, c, x, y, z, p, q, r⟩ i, [.int .i64 a, .int .i64 b, .int .i64 c], [.int .i64 x, .int .i64 y, .int .i64 z], [.int .i64 p, .int .i64 q, .int .i64 r]] ∧ H' = H ∧ i ≤ 3) ⟨by simp, by simp [F9.E, en], rfl, by omega⟩ ?_
    rintro i hi fr L H' ⟨⟨g2, g3, g4, g5, g8⟩, rfl, rfl, hle⟩
    by_cases h3 : i < 3
    · match i, h3 with
      | 0, _ =>
        rcases hP with ⟨rfl, rfl, rfl⟩ | ⟨rfl, rfl, rfl⟩ | ⟨rfl, rfl, rfl⟩ | ⟨rfl, rfl, rfl⟩ | ⟨rfl, rfl, rfl⟩ | ⟨rfl, rfl, rfl⟩ <;>
          simp at g8 <;> simp (disch := omega) [g2, g3, g4, g5, g8, wrap_i64, F9.E, en, splice, rd3a, rd3b, rd3c]
      | 1, _ =>
        rcases hP with ⟨rfl, rfl, rfl⟩ | ⟨rfl, rfl, rfl⟩ | ⟨rfl, rfl, rfl⟩ | ⟨rfl, rfl, rfl⟩ | ⟨rfl, rfl, rfl⟩ | ⟨rfl, rfl, rfl⟩ <;>
          simp at g8 <;> simp (disch := omega) [g2, g3, g4, g5, g8, wrap_i64, F9.E, en, splice, rd3a, rd3b, rd3c]
      | 2, _ =>
        rcases hP with ⟨rfl, rfl, rfl⟩ | ⟨rfl, rfl, rfl⟩ | ⟨rfl, rfl, rfl⟩ | ⟨rfl, rfl, rfl⟩ | ⟨rfl, rfl, rfl⟩ | ⟨rfl, rfl, rfl⟩ <;>
          simp at g8 <;> simp (disch := omega) [g2, g3, g4, g5, g8, wrap_i64, F9.E, en, splice, rd3a, rd3b, rd3c]
    · have hi3 : i = 3 := by omega
      subst hi3
      simp at g8
      simp [g2, g3, g4, g5, g8, F9.E, rd3w, splice] at hK ⊢
      exact hK
def shaV (s : ByteArray) : V := if vld s then .tup [.agg (fol (chT s) s.size).O, .agg (fol (chT s) s.size).U, .int .i64 0] else .tup [.agg z3V, .agg z3V, .int .i64 1]
theorem shadow_t {H : Hp} {lim : Nat} {s : ByteArray} {K : V → Hp → Prop} (hlim : lim ≤ H.length) (hK : ∀ X, K (shaV s) (H ++ X)) : VCall tbl lim 40 [.str s] H K := by
  refine VCall_fn tbl_at40 rfl ?_
  simp [vf40, iz3]
  refine valid_t hlim fun X => ?_
  unfold shaV at hK
  cases hv : vld s with
  | false =>
    simp [hv] at hK ⊢
    simp [splice, rd3w]
    exact hK X
  | true =>
    simp [hv] at hK ⊢
    refine follow_t hv (by simp; omega) fun Y => ?_
    simp [splice, F9.E, F9.O, F9.U, rd3w] at hK ⊢
    exact hK _
theorem shadow_r {H : Hp} {lim : Nat} {s : ByteArray} {K : V → Hp → Prop} (hs : s.size ≤ 1000000) (hK : K (shaV s) H) : VCall tbl lim 41 [.str s] H K := by
  refine VCall_fn tbl_at41 rfl ?_
  simp [vf41, iz3]
  refine valid_r hs ?_
  unfold shaV at hK
  cases hv : vld s with
  | false =>
    simp [hv] at hK ⊢
    simp [splice, rd3w]
    exact hK
  | true =>
    simp [hv] at hK ⊢
    refine run_r hv ?_
    simp [splice, F9.S, F9.O, F9.U, rd3w] at hK ⊢
    exact hK
end Go.Proofs.YtalejadhccgckaaDoor.Vm
