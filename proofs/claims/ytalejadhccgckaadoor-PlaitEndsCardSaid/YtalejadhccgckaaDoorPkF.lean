/- Strands: what both packages make of them. -/
import Derived.Test.YtalejadhccgckaaDoorPkD
namespace Go.Proofs.YtalejadhccgckaaDoor.Vm
open Go
set_option maxRecDepth 100000
set_option linter.unusedSimpArgs false
set_option linter.unusedVariables false
attribute [-simp] List.getD_eq_getElem?_getD

/-- who is at each place, and how often each was over and under -/
structure F9 where
  a : Int
  b : Int
  c : Int
  x : Int
  y : Int
  z : Int
  p : Int
  q : Int
  r : Int
def F9.start : F9 := ⟨0, 1, 2, 0, 0, 0, 0, 0, 0⟩
def on (k n : Int) : Int := if k = n then 1 else 0
def F9.put (f : F9) (up dn : Int) : F9 := { f with x := f.x + on up 0, y := f.y + on up 1, z := f.z + on up 2, p := f.p + on dn 0, q := f.q + on dn 1, r := f.r + on dn 2 }
/-- a crossing -/
def F9.step (l : Nat) (f : F9) : F9 :=
  if l = 97 then { f.put f.a f.b with a := f.b, b := f.a } else if l = 65 then { f.put f.b f.a with a := f.b, b := f.a }
  else if l = 98 then { f.put f.b f.c with b := f.c, c := f.b } else { f.put f.c f.b with b := f.c, c := f.b }
def fol (g : Nat → Nat) : Nat → F9
  | 0 => .start
  | n + 1 => (fol g n).step (g n)
def P6 (f : F9) : Prop := (f.a = 0 ∧ f.b = 1 ∧ f.c = 2) ∨ (f.a = 0 ∧ f.b = 2 ∧ f.c = 1) ∨ (f.a = 1 ∧ f.b = 0 ∧ f.c = 2) ∨ (f.a = 1 ∧ f.b = 2 ∧ f.c = 0) ∨ (f.a = 2 ∧ f.b = 0 ∧ f.c = 1) ∨ (f.a = 2 ∧ f.b = 1 ∧ f.c = 0)
def Sum (n : Int) (f : F9) : Prop := f.x + f.y + f.z = n ∧ f.p + f.q + f.r = n ∧ 0 ≤ f.x ∧ 0 ≤ f.y ∧ 0 ≤ f.z ∧ 0 ≤ f.p ∧ 0 ≤ f.q ∧ 0 ≤ f.r
theorem step_ok {f : F9} {n : Int} (l : Nat) (h : P6 f) (hs : Sum n f) : P6 (f.step l) ∧ Sum (n + 1) (f.step l) := by
  obtain ⟨a, b, c, x, y, z, p, q, r⟩ := f
  simp only [P6, Sum] at h hs
  unfold F9.step
  rcases h with ⟨rfl, rfl, rfl⟩ | ⟨rfl, rfl, rfl⟩ | ⟨rfl, rfl, rfl⟩ | ⟨rfl, rfl, rfl⟩ | ⟨rfl, rfl, rfl⟩ | ⟨rfl, rfl, rfl⟩ <;> repeat' split
  all_goals simp only [P6, Sum, F9.put, on]
  all_goals simp
  all_goals omega
theorem fol_ok {g : Nat → Nat} : ∀ n : Nat, P6 (fol g n) ∧ Sum n (fol g n)
  | 0 => ⟨Or.inl ⟨rfl, rfl, rfl⟩, by simp [fol, F9.start, Sum]⟩
  | n + 1 => by
    obtain ⟨h1, h2⟩ := fol_ok (g := g) n
    have := step_ok (g n) h1 h2
    simp only [fol, Int.natCast_add, Int.cast_ofNat_Int]
    exact this
def F9.S (f : F9) : List V := [.int .i64 f.a, .int .i64 f.b, .int .i64 f.c]
def F9.O (f : F9) : List V := [.int .i64 f.x, .int .i64 f.y, .int .i64 f.z]
def F9.U (f : F9) : List V := [.int .i64 f.p, .int .i64 f.q, .int .i64 f.r]
abbrev z3V : List V := [.int .i64 0, .int .i64 0, .int .i64 0]
/-- where each ends, when so many places have been looked at -/
def en (f : F9) (i : Nat) (k : Int) : Int := if 3 ≤ i ∧ f.c = k then 2 else if 2 ≤ i ∧ f.b = k then 1 else 0
def F9.E (f : F9) (i : Nat) : List V := [.int .i64 (en f i 0), .int .i64 (en f i 1), .int .i64 (en f i 2)]

theorem crossing_t {H : Hp} {lim : Nat} {l : Nat} {K : V → Hp → Prop} (hl : l = 97 ∨ l = 65 ∨ l = 98 ∨ l = 66) (hK : K (.tup [.int .i64 (if l = 97 ∨ l = 65 then 0 else 1), .bool (decide (l = 97 ∨ l = 98))]) H) : VCall tbl lim 70 [.int .i32 l] H K := by
  refine VCall_fn tbl_at70 rfl ?_
  rcases hl with rfl | rfl | rfl | rfl <;> simp [vf70] at hK ⊢ <;> exact hK
theorem rd3a {a b c : V} : rd none [a, b, c] 0 = some a := rfl
theorem rd3b {a b c : V} : rd none [a, b, c] 1 = some b := rfl
theorem rd3c {a b c : V} : rd none [a, b, c] 2 = some c := rfl
theorem rd3w {a b c : V} : rd (some 3) [a, b, c] 0 = some (.agg [a, b, c]) := rfl
theorem dz3 : List.drop 3 (ints (zs 3)) = [] := rfl
theorem iz3 : ints (zs 3) = z3V := rfl

theorem follow_t {H : Hp} {lim : Nat} {s : ByteArray} {K : V → Hp → Prop} (hv : vld s = true) (hlim : lim ≤ H.length) (hK : ∀ X, K (.tup [.agg ((fol (chT s) s.size).E 3), .agg (fol (chT s) s.size).O, .agg (fol (chT s) s.size).U]) (H ++ X)) : VCall tbl lim 68 [.str s] H K := by
  refine VCall_fn tbl_at68 rfl ?_
  have hb := vld_len hv
  simp [vf68, splice, iz3]
  refine wLoop_up s.size (fun i fr L H' => (fr 0 = .str s ∧ fr 2 = .lp 0 0 ∧ fr 3 = .lp 1 0 ∧ fr 4 = .lp 2 0 ∧ fr 5 = .lp 3 0 ∧ fr 16 = .it H.length) ∧ L = [z3V, (fol (chT s) i).O, (fol (chT s) i).U, (fol (chT s) i).S] ∧ H' = H ++ [.sit s i] ∧ i ≤ s.size) ⟨by simp, rfl, rfl, by omega⟩ ?_
  rintro i hi fr L H' ⟨⟨f0, f2, f3, f4, f5, f16⟩, rfl, rfl, hle⟩
  by_cases hp : i < s.size
  · have hn := vnext_some (H := H) (lim := lim) hlim hp
    have hl := vld_at hv hp
    have hd : Utf8.decode s i = (chT s i, 1) := dec_lt (by omega)
    rw [hd] at hn
    simp only at hn
    obtain ⟨hP, hS⟩ := fol_ok (g := chT s) i
    have hs1 : fol (chT s) (i + 1) = (fol (chT s) i).step (chT s i) := rfl
    rw [hs1]
    generalize fol (chT s) i = f at hP hS
    obtain ⟨a, b, c, x, y, z, p, q, r⟩ := f
    simp only [P6, Sum] at hP hS
    simp [f0, f16, hn]
    refine crossing_t hl ?_
    rcases hl with e | e | e | e <;> rw [e] <;> rcases hP with ⟨rfl, rfl, rfl⟩ | ⟨rfl, rfl, rfl⟩ | ⟨rfl, rfl, rfl⟩ | ⟨rfl, rfl, rfl⟩ | ⟨rfl, rfl, rfl⟩ | ⟨rfl, rfl, rfl⟩ <;>
      simp (disch := omega) [f0, f2, f3, f4, f5, f16, wrap_i64, F9.step, F9.put, on, F9.S, F9.O, F9.U, rd3a, rd3b, rd3c, splice] <;> exact ⟨hp, by omega⟩
  · have hn := vnext_end (H := H) (lim := lim) hlim hp
    have hi : i = s.size := by omega
    subst hi
    obtain ⟨hP, hS⟩ := fol_ok (g := chT s) s.size
    generalize fol (chT s) s.size = f at hP hS hK
    obtain ⟨a, b, c, x, y, z, p, q, r⟩ := f
    simp only [P6, Sum] at hP hS
    have hg0 : ∀ a b c : Int, vidxA 3 1 none (.agg [.int .i64 a, .int .i64 b, .int .i64 c]) (.int .i64 0) = some (.int .i64 a) := fun _ _ _ => rfl
    have hg1 : ∀ a b c : Int, vidxA 3 1 none (.agg [.int .i64 a, .int .i64 b, .int .i64 c]) (.int .i64 1) = some (.int .i64 b) := fun _ _ _ => rfl
    have hg2 : ∀ a b c : Int, vidxA 3 1 none (.agg [.int .i64 a, .int .i64 b, .int .i64 c]) (.int .i64 2) = some (.int .i64 c) := fun _ _ _ => rfl
    simp [f0, f2, f3, f4, f5, f16, hn, F9.S, rd3w]
    refine wLoop_up 3 (fun i fr L H' => (fr 2 = .lp 0 0 ∧ fr 3 = .lp 1 0 ∧ fr 4 = .lp 2 0 ∧ fr 53 = .agg [.int .i64 a, .int .i64 b, .int .i64 c] ∧ fr 54 = .int .i64 i) ∧ L = [F9.E ⟨a, b, c, x, y, z, p, q, r⟩ i, [.int .i64 x, .int .i64 y, .int .i64 z], [.int .i64 p, .int .i64 q, .int .i64 r], [.int .i64 a, .int .i64 b, .int .i64 c]] ∧ H' = H ++ [.sit s s.size] ∧ i ≤ 3) ⟨by simp [f2, f3, f4], by simp [F9.E, en, F9.O, F9.U], rfl, by omega⟩ ?_
    rintro i hi fr L H' ⟨⟨g2, g3, g4, g53, g54⟩, rfl, rfl, hle⟩
    by_cases h3 : i < 3
    · have e3 : ((i : Int) < 3) = True := eq_true (by omega)
      match i, h3 with
      | 0, _ =>
        rcases hP with ⟨rfl, rfl, rfl⟩ | ⟨rfl, rfl, rfl⟩ | ⟨rfl, rfl, rfl⟩ | ⟨rfl, rfl, rfl⟩ | ⟨rfl, rfl, rfl⟩ | ⟨rfl, rfl, rfl⟩ <;>
          simp at g54 <;> simp (disch := omega) [g2, g3, g4, g53, g54, hg0, hg1, hg2, wrap_i64, F9.E, en, splice]
      | 1, _ =>
        rcases hP with ⟨rfl, rfl, rfl⟩ | ⟨rfl, rfl, rfl⟩ | ⟨rfl, rfl, rfl⟩ | ⟨rfl, rfl, rfl⟩ | ⟨rfl, rfl, rfl⟩ | ⟨rfl, rfl, rfl⟩ <;>
          simp at g54 <;> simp (disch := omega) [g2, g3, g4, g53, g54, hg0, hg1, hg2, wrap_i64, F9.E, en, splice]
      | 2, _ =>
        rcases hP with ⟨rfl, rfl, rfl⟩ | ⟨rfl, rfl, rfl⟩ | ⟨rfl, rfl, rfl⟩ | ⟨rfl, rfl, rfl⟩ | ⟨rfl, rfl, rfl⟩ | ⟨rfl, rfl, rfl⟩ <;>
          simp at g54 <;> simp (disch := omega) [g2, g3, g4, g53, g54, hg0, hg1, hg2, wrap_i64, F9.E, en, splice]
    · have hi3 : i = 3 := by omega
      subst hi3
      have hk := hK [.sit s s.size]
      simp only [F9.E, F9.O, F9.U] at hk
      simp at g54
      simp [g2, g3, g4, g53, g54, F9.E, rd3w, splice]
      exact hk
end Go.Proofs.YtalejadhccgckaaDoor.Vm
