/- strconv.Itoa as a given contract of the machine, from its own table (VmPrimItB). -/
import Derived.Test.YtpdnbmnnkefedaaGreatDoorVmPrimItB
import Derived.WalkSmall
namespace Go.Proofs.YtpdnbmnnkefedaaGreatDoor.Vm
open Go Go.RowKit
set_option maxRecDepth 100000
set_option linter.unusedSimpArgs false
set_option linter.unusedVariables false
def isI : V → Bool
  | .int _ _ => true
  | _ => false
def p7 : List V → Bool
  | .int .u64 a :: .int .u64 b :: .int .u64 c :: .int .u64 d :: .int .u64 e :: .int .u64 f :: .int .u64 g :: _ => decide (a = 1 ∧ b = 10 ∧ c = 100 ∧ d = 1000 ∧ e = 10000 ∧ f = 100000 ∧ g = 1000000)
  | _ => false
theorem p7_of {cs : List V} (h : p7 cs = true) : ∃ R, cs = T0.P7 ++ R := by
  unfold p7 at h
  split at h
  · rename_i R
    simp only [decide_eq_true_eq] at h
    obtain ⟨rfl, rfl, rfl, rfl, rfl, rfl, rfl⟩ := h
    exact ⟨R, rfl⟩
  · cases h
def chkP (H : Hp) : Bool := match H[(0 : Nat)]? with
  | some (.row cs _) => cs.all isI && p7 cs
  | _ => false
/-- the laid table alone -/
theorem startI {ρ : Loc} {H : Hp} {w : World} (hH : RelH ρ H w) (hG : GRel ρ) (hc : chkP H = true) : ∃ ρ0 H0, RelH ρ0 H0 w ∧ GRel ρ0 ∧ T0.TabP H0 ∧ H0.length = glMap.length ∧ ∀ b, glMap.length ≤ b → ρ0 b = none := by
  unfold chkP at hc
  split at hc
  case h_2 => cases hc
  rename_i cs own hb
  simp only [Bool.and_eq_true] at hc
  obtain ⟨hint, hp⟩ := hc
  have hlen : glMap.length = (glMap.length - 1) + 1 := by
    have e : (glMap.length == 0) = false := by kernel_rfl
    have : glMap.length ≠ 0 := fun h => by rw [h] at e; cases e
    omega
  generalize hN : glMap.length = N at *
  have rows : ∀ b x, (Blk.row cs own :: List.replicate (N - 1) Blk.dead)[b]? = some x → (b = 0 ∧ x = .row cs own) ∨ x = .dead := by
    intro b x hx
    cases b with
    | zero => left; simp at hx; exact ⟨rfl, hx.symm⟩
    | succ b =>
      right
      simp only [List.getElem?_cons_succ, List.getElem?_replicate] at hx
      split at hx
      · exact (Option.some.inj hx).symm
      · cases hx
  refine ⟨fun b => if b < N then ρ b else none, .row cs own :: List.replicate (N - 1) .dead, ⟨fun b r o c hb => ?_, fun b r o c cs' own' hb' hr => ?_, fun b1 b2 r o1 c1 o2 c2 cs1 cs2 own2 h1 h2 k1 k2 => ?_, ⟨fun b r o c x hx hb hr => ?_, fun b1 b2 r o1 c1 o2 c2 x1 x2 hx1 hx2 h1 h2 k1 k2 => ?_⟩⟩, fun k g cs' hk => ?_, ?_, by simp; omega, fun b hb => by simp; omega⟩
  · split at hb
    · exact hH.dom b r o c hb
    · cases hb
  · rcases rows b _ hr with ⟨rfl, e⟩ | e
    case inr => cases e
    cases e
    have h0 : 0 < N := by omega
    simp only [h0, if_true] at hb'
    obtain ⟨C, el, fz, q1, q2, q3, q4, q5⟩ := hH.row 0 r o c cs own hb' hb
    refine ⟨C, el, fz, q1, q2, q3, q4, fun i hi => ⟨?_, (q5 i hi).2⟩⟩
    have hm : isI (cs.getD i dv) = true := by
      rw [List.getD_eq_getElem?_getD, List.getElem?_eq_getElem hi]
      exact List.all_eq_true.1 hint _ (List.getElem_mem hi)
    have := (q5 i hi).1
    generalize cs.getD i dv = v at this hm
    generalize C.getD (o + i) ux = y at this
    cases v <;> first | (cases this; exact .int _ _) | cases hm
  · rcases rows b1 _ k1 with ⟨rfl, e⟩ | e
    case inr => cases e
    rcases rows b2 _ k2 with ⟨rfl, e2⟩ | e2
    case inr => cases e2
    rfl
  · rcases rows b _ hr with ⟨_, rfl⟩ | rfl <;> cases hx
  · rcases rows b1 _ k1 with ⟨_, rfl⟩ | rfl <;> cases hx1
  · have h2 : k < N := by
      have := (List.getElem?_eq_some_iff.1 hk).1
      omega
    simp only [h2, if_true]
    exact hG k g cs' hk
  · obtain ⟨R, rfl⟩ := p7_of hp
    exact ⟨R, own, _, rfl⟩
def gItoa : List V → Option V
  | [.int .i64 n] => if 0 ≤ n ∧ n ≤ 1000000 then some (.str (T0.bA (Lib.decDigits n.toNat))) else none
  | _ => none
def pItoa : PrimF := flatP chkP gItoa
theorem mixI : Tryz.prog.follows .mixedOrders = true := by kernel_rfl
theorem pok_Itoa : PrimOk Tryz.prog 154 pItoa := by
  refine primOk_flat (by kernel_rfl) fun args H v ρ w xs hf hg hc hH hG hx => ?_
  unfold gItoa at hg
  split at hg
  case h_2 => cases hg
  rename_i n
  split at hg
  case isFalse => cases hg
  rename_i hn
  cases hg
  obtain ⟨ρ0, H0, r1, r2, r3, r4, r5⟩ := startI hH hG hc
  obtain ⟨m, rfl⟩ : ∃ m : Nat, n = m := ⟨n.toNat, by omega⟩
  obtain ⟨xs⟩ := xs
  have e1 := hx.1
  have e2 := hx.2 0 (by simp)
  match xs, e1, e2 with
  | [a], _, e2 =>
    simp at e2
    cases e2
    have hv : VCall T0.tbl H0.length 154 [.int .i64 (m : Int)] H0 (fun v _ => v = .str (T0.bA (Lib.decDigits m))) := T0.itoa_t r3 (Nat.le_refl _) (by omega) fun _ _ => rfl
    refine (calls_of_vcall (xs := #[.int .i64 (m : Int)]) mixI T0.tblOk hv r1 r2 (.cons (.int _ _) .nil) (fun b hb => r5 b (by omega)) (by decide)).mono ?_
    rintro e w' ⟨v, H', x, ρ', rfl, rfl, hvr, g, hR⟩
    cases hvr
    refine ⟨_, rfl, .str _, ⟨g.os, g.tape, g.output, g.size, fun k hk => g.keep k hk ?_ (fun _ _ => by simp)⟩⟩
    rintro ⟨b', o', c', hb1, ⟨X, hX⟩, hb2⟩
    rw [r5 b' (by omega)] at hb2
    cases hb2
def vf154 : VFn := ⟨1, [], .prim pItoa⟩
theorem pok154 : PrimOk Tryz.prog 154 pItoa := pok_Itoa
end Go.Proofs.YtpdnbmnnkefedaaGreatDoor.Vm
