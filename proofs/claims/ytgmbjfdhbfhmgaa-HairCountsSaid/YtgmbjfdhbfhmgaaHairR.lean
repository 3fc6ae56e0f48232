/- Inputs: slices of ints in the model's memory, and the machine's start that stands for them. -/
import Derived.Test.YtgmbjfdhbfhmgaaHairB
import Derived.Test.YtgmbjfdhbfhmgaaRows
import Derived.ProofKit
import Derived.OpenShut
import Derived.JoinedCond
namespace Go.Proofs.Ytgmbjfdhbfhmgaa.Vm
open Go Go.RowKit
set_option linter.unusedVariables false
set_option linter.unusedSimpArgs false
attribute [-simp] List.getD_eq_getElem?_getD

inductive SlIn (w : World) : Value → List Int → Prop
  | nil : SlIn w (.slice none 0 0) []
  | zero {a : Addr} {cap : Nat} : SlIn w (.slice (some a) 0 cap) []
  | row {r o cap : Nat} {C : Array Value} {el : TypeId} {fz : Nat × Nat} {l : List Int} : w.heap[r]? = some (.cells C el fz) → o + cap ≤ C.size → l.length ≤ cap → (∀ i, i < l.length → C[o + i]? = some (.int .i64 (l.getD i 0))) →
      SlIn w (.slice (some ⟨r, o, none⟩) l.length cap) l

structure Good (ρ : Loc) (H : Hp) (w : World) : Prop where
  rel : RelH ρ H w
  free : ∀ b, H.length ≤ b → ρ b = none
  noOwn : ∀ b, ¬ OwnAt H b

theorem Good.start {w : World} : Good (fun _ => none) [] w :=
  ⟨⟨fun b r o c h => by simp at h, fun b r o c cs own h => by simp at h, fun b1 b2 r o1 c1 o2 c2 cs1 cs2 own2 h => by simp at h⟩, fun _ _ => rfl, fun b ⟨cs, h⟩ => by simp at h⟩

theorem Good.add {ρ : Loc} {H : Hp} {w : World} (g : Good ρ H w) {x : Value} {l : List Int} (h : SlIn w x l) :
    ∃ H' ρ' v, HX H H' ∧ Good ρ' H' w ∧ (∀ b y, ρ b = some y → ρ' b = some y) ∧ SlV H' v l ∧ VR ρ' v x := by
  cases h with
  | nil => exact ⟨H, ρ, .snil, .refl, g, fun _ _ h => h, .nil, .snil⟩
  | zero => exact ⟨H, ρ, .sempty, .refl, g, fun _ _ h => h, .empty, .sempty⟩
  | row h1 h2 h3 h4 =>
    rename_i r o cap C el fz
    have hle := Loc.add_le (x := (r, o, cap)) (g.free H.length (Nat.le_refl _))
    have hat : (ρ.add H.length (r, o, cap)) H.length = some (r, o, cap) := by simp [Loc.add]
    have hback : ∀ b y, (ρ.add H.length (r, o, cap)) b = some y → (b = H.length ∧ y = (r, o, cap)) ∨ (b ≠ H.length ∧ ρ b = some y) := by
      intro b y hb
      unfold Loc.add at hb
      split at hb
      · rename_i e; exact Or.inl ⟨e, (Option.some.inj hb).symm⟩
      · rename_i e; exact Or.inr ⟨e, hb⟩
    have hget : ∀ b blk, (H ++ [Blk.row (ints l) false])[b]? = some blk → b ≠ H.length → H[b]? = some blk := by
      intro b blk hb hne
      by_cases hlt : b < H.length
      · rwa [List.getElem?_append_left hlt] at hb
      · have := (List.getElem?_eq_some_iff.1 hb).1
        simp at this; omega
    have hnone : ∀ b, ¬ OwnAt (H ++ [Blk.row (ints l) false]) b := by
      rintro b ⟨cs, hcs⟩
      by_cases hb : b = H.length
      · subst hb
        rw [List.getElem?_concat_length] at hcs; cases hcs
      · exact g.noOwn b ⟨cs, hget b _ hcs hb⟩
    refine ⟨H ++ [.row (ints l) false], ρ.add H.length (r, o, cap), .sl H.length 0 l.length 1, .push, ⟨⟨fun b r' o' c' hb => ?_, fun b r' o' c' cs own hb hr => ?_, fun b1 b2 r' o1 c1 o2 c2 cs1 cs2 own2 _ _ hr1 _ => ?_⟩, fun b hb => ?_, hnone⟩, hle, ?_, ?_⟩
    · rcases hback b _ hb with ⟨_, e⟩ | ⟨_, e⟩
      · cases e; exact (Array.getElem?_eq_some_iff.1 h1).1
      · exact g.rel.dom b r' o' c' e
    · rcases hback b _ hb with ⟨rfl, e⟩ | ⟨hne, e⟩
      · cases e
        rw [List.getElem?_concat_length] at hr
        cases hr
        refine ⟨C, el, fz, h1, h2, by simpa [ints_length] using h3, fun h => (by cases h), fun i hi => ?_⟩
        have hi' : i < l.length := by simpa [ints_length] using hi
        rw [ints_getD hi']
        refine ⟨?_, rfl⟩
        rw [Array.getD_eq_getD_getElem?, h4 i hi']
        exact .int _ _
      · obtain ⟨C', el', fz', a1, a2, a3, a4, a5⟩ := g.rel.row b r' o' c' cs own e (hget b _ hr hne)
        exact ⟨C', el', fz', a1, a2, a3, a4, a5.mono hle⟩
    · exact absurd ⟨cs1, hr1⟩ (hnone b1)
    · unfold Loc.add
      rw [if_neg (by simp at hb; omega)]
      exact g.free b (by simp at hb; omega)
    · exact .sl (List.getElem?_concat_length) (by simp [ints_length]) (by rw [List.drop_zero, List.take_of_length_le (by simp [ints_length])])
    · have := VR.sl (ρ := ρ.add H.length (r, o, cap)) (off := 0) (sz := 1) (len := l.length) hat h3 (by omega)
      simpa using this

/-- out of the kit's reading of a slice of ints -/
theorem slIn_of {w : World} {a : Addr} {len cap : Nat} {zs : List Int} (hl : len ≤ cap) (hz : zs.length = cap) (hc : ∀ i, i < zs.length → w.cell? (a.add i) = some (.int .i64 (zs.getD i 0))) : SlIn w (.slice (some a) len cap) (zs.take len) := by
  by_cases h0 : len = 0
  · subst h0; rw [List.take_zero]; exact .zero
  · have hpos : 0 < zs.length := by omega
    obtain ⟨r, o, sp⟩ := a
    have hfirst := hc 0 hpos
    simp only [Addr.add, if_true, World.cell?] at hfirst
    split at hfirst
    case h_2 => cases hfirst
    rename_i C el fz hC
    split at hfirst
    · cases hfirst
    rename_i hsp
    have hsp' : sp = none := by cases sp <;> simp at hsp ⊢
    subst hsp'
    have hcell : ∀ i, i < zs.length → C[o + i]? = some (.int .i64 (zs.getD i 0)) := by
      intro i hi
      have := hc i hi
      by_cases hi0 : i = 0
      · subst hi0; simpa using hfirst
      · simp only [Addr.add, hi0, if_false, World.cell?, hC] at this
        simpa using this
    have hsz : o + cap ≤ C.size := by
      have := (Array.getElem?_eq_some_iff.1 (hcell (cap - 1) (by omega))).1
      omega
    have hlen : (zs.take len).length = len := by simp; omega
    have := SlIn.row (w := w) (r := r) (o := o) (cap := cap) (l := zs.take len) hC hsz (by omega) (fun i hi => by
      rw [hcell i (by omega)]
      congr 2
      rw [List.getD_eq_getElem?_getD, List.getD_eq_getElem?_getD, List.getElem?_take_of_lt (by omega)])
    rw [hlen] at this
    exact this

theorem hairCounts_walk {W : World} {x y : Value} {l m : List Int} (hx : SlIn W x l) (hy : SlIn W y m) {n : Int} (hn : -9223372036854775808 ≤ n ∧ n ≤ 9223372036854775807) :
    Calls Try.prog 4 #[.agg #[x, y], .int .i64 n] W fun e W' => e = .returned (.bool true) ∧ Below W.heap.size W W' := by
  obtain ⟨H1, ρ1, v, k1, g1, _, s1, r1⟩ := Good.start.add hx
  obtain ⟨H2, ρ2, u, k2, g2, le2, s2, r2⟩ := g1.add hy
  have hb : BunV H2 l m (.agg [v, u]) := .mk (s1.mono k2) s2
  have hsc : ∀ {H v l}, SlV H v l → scal v = true := fun h => by cases h <;> rfl
  have hv : VR ρ2 (.agg [v, u]) (.agg #[x, y]) := by
    refine .agg rfl (fun i hi => ?_) fun i hi => ?_
    · match i, hi with
      | 0, _ => exact r1.mono le2
      | 1, _ => exact r2
    · match i, hi with
      | 0, _ => exact hsc s1
      | 1, _ => exact hsc s2
  refine (calls_of_vcall (lim := H2.length) (Checked.mixed Try.checked) tblOk (law_HairCounts hb (Nat.le_refl _) hn (K := fun v _ => v = .bool true) (fun _ _ => rfl)) g2.rel (VRs.nil.cons (.int _ _) |>.cons hv) g2.free).mono ?_
  rintro e W' ⟨v', H', x', ρ', hk, rfl, hvr, g, _⟩
  subst hk
  cases hvr
  refine ⟨rfl, g.os, g.tape, g.output, g.size, fun k hk => g.keep k hk ?_ (fun _ _ => by simp)⟩
  rintro ⟨b, o, c, _, ho, _⟩
  exact g2.noOwn b ho

end Go.Proofs.Ytgmbjfdhbfhmgaa.Vm
