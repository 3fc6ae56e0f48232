/- Package plot over the machine: the plan that is made. -/
import Derived.Test.YtdipmhdekjlifaaPlM
namespace Go.Proofs.Ytdipmhdekjlifaa.Vm
open Go
set_option maxRecDepth 100000
set_option linter.unusedSimpArgs false
set_option linter.unusedVariables false
attribute [-simp] List.getD_eq_getElem?_getD
theorem rd1 {a : V} : rd none [a] 0 = some a := Eq.trans rfl rfl
def cmpI (x y : Int) : Int := if x < y then -1 else if y < x then 1 else 0
theorem ordr_of {α : Type} (f : α → Int) : Ordr fun x y => cmpI (f x) (f y) := by
  have e : ∀ x y, leC (fun x y => cmpI (f x) (f y)) x y ↔ f x ≤ f y := fun x y => by
    show ¬ (cmpI (f y) (f x)) < 0 ↔ _
    unfold cmpI
    split
    · constructor <;> omega
    · split
      · constructor <;> omega
      · constructor <;> omega
  exact ⟨fun x y z h1 h2 => (e x z).2 (Int.le_trans ((e x y).1 h1) ((e y z).1 h2)), fun x y => by rw [e, e]; omega⟩
theorem LstV.keepB {α : Type} {k : Nat} {c : Cod α k} {H H' : Hp} {v : V} {l : List α} (h : LstV c H v l) (hk : ∀ b o n z, v = .sl b o n z → H'[b]? = H[b]?) : LstV c H' v l := by
  cases h with
  | nil => exact .nil
  | empty => exact .empty
  | sl h1 h2 h3 => exact .sl (by rw [hk _ _ _ _ rfl]; exact h1) h2 h3
theorem LstV.below {α : Type} {k : Nat} {c : Cod α k} {H : Hp} {v : V} {l : List α} (h : LstV c H v l) : ∀ b o n z, v = .sl b o n z → b < H.length := by
  rintro b o n z rfl
  cases h with
  | sl h1 _ _ => exact (List.getElem?_eq_some_iff.1 h1).1
theorem OwnV.keepB {n : Nat} {H H' : Hp} {v : V} {l : List Int} (h : OwnV n H v l) (hk : ∀ b o m z, v = .sl b o m z → H'[b]? = H[b]?) : OwnV n H' v l := by
  cases h with
  | nil => exact .nil
  | row h1 h3 => exact .row h1 (by rw [hk _ _ _ _ rfl]; exact h3)
theorem OwnT.keepB {α : Type} {k : Nat} {c : Cod α k} {n : Nat} {H H' : Hp} {v : V} {l : List α} (h : OwnT n c H v l) (hk : ∀ b o m z, v = .sl b o m z → H'[b]? = H[b]?) : OwnT n c H' v l := by
  cases h with
  | nil => exact .nil
  | row h1 h3 => exact .row h1 (by rw [hk _ _ _ _ rfl]; exact h3)
theorem apH_oth {n : Nat} {H : Hp} {v : V} {l : List Int} (h : OwnV n H v l) {new all : List V} {b' : Nat} (hb : b' < H.length) (hne : ∀ o z y, v ≠ .sl b' o z y) : (apH H v new all)[b']? = H[b']? := by
  cases h with
  | nil =>
    show (H ++ [Blk.row new true] ++ [Blk.row all true])[b']? = _
    rw [List.getElem?_append_left (by simp; omega), List.getElem?_append_left hb]
  | row h1 h3 =>
    rename_i b
    show ((H ++ [Blk.row new true]).set b .dead ++ [Blk.row all true])[b']? = _
    rw [List.getElem?_append_left (by simp; omega), List.getElem?_set_ne (fun e => hne _ _ _ (by rw [e])), List.getElem?_append_left hb]
theorem apH_len {n : Nat} {H : Hp} {v : V} {l : List Int} (h : OwnV n H v l) {new all : List V} : (apH H v new all).length = H.length + 2 := by
  cases h <;> simp [apH]
theorem setH_othB {n : Nat} {H : Hp} {v : V} {l : List Int} (h : OwnV n H v l) {cs : List V} {b' : Nat} (hne : ∀ o z y, v ≠ .sl b' o z y) : (setH H v cs)[b']? = H[b']? := by
  cases h with
  | nil => rfl
  | row h1 h3 =>
    rename_i b
    show (H.set b _)[b']? = _
    rw [List.getElem?_set_ne (fun e => hne _ _ _ (by rw [e]))]
def Apart (u v : V) : Prop := ∀ b o z y b' o' z' y', u = .sl b o z y → v = .sl b' o' z' y' → b ≠ b'
section
variable {lim : Nat} {H : Hp} {K : V → Hp → Prop} {sv jv qv : V} {S : List Int} {J : List Jb} {x y : Int}
theorem cmp_isNaN (hK : K (.bool false) H) : VCall tbl lim 80 [.int .i64 x] H K := by
  refine VCall_fn tbl_at80 rfl ?_
  simp [vf80]
  exact hK
theorem cmp_Compare (hK : K (.int .i64 (cmpI x y)) H) : VCall tbl lim 74 [.int .i64 x, .int .i64 y] H K := by
  refine VCall_fn tbl_at74 rfl ?_
  simp [vf74]
  refine cmp_isNaN ?_
  simp
  refine cmp_isNaN ?_
  simp
  refine cond_dec (fun h => ?_) fun h => ?_
  · simp; simpa [cmpI, h] using hK
  · simp
    refine cond_dec (fun h2 => ?_) fun h2 => ?_
    · simp; simpa [cmpI, h, h2] using hK
    · simp; simpa [cmpI, h, h2] using hK
theorem plan_cmp {b B0 : Nat} (hB : H[B0]? = some (.row [jv] true)) (hbB : B0 ≠ b) (hjb : ∀ b0 o k z, jv = .sl b0 o k z → b0 ≠ b) (hj : LstV jbC H jv J) {l : List Int} (hl : ∀ x ∈ l, 0 ≤ x ∧ x < J.length) :
    CmpI H b 73 [] [.ptr B0 0] l fun x y => cmpI (J.getD x.toNat default).d (J.getD y.toNat default).d := by
  intro H' lim x y K hx hy hsame hK
  have hj' : LstV jbC H' jv J := hj.keepB fun b0 o k z e => hsame b0 (hjb b0 o k z e)
  have hB' : H'[B0]? = some (.row [jv] true) := by rw [hsame B0 hbB]; exact hB
  have h1 := hl x hx
  have h2 := hl y hy
  have fj : ∀ i, i < J.length → ∀ j, vfaddr j (ept 3 jv i) = some (eptf 3 jv i j) := fun i hi j => hj'.faddr hi
  show VCall tbl lim 73 [.int .i64 x, .int .i64 y, .ptr B0 0] H' K
  refine VCall_fn tbl_at73 rfl ?_
  simp (disch := omega) [vf73, hB', rd1, hj'.addr, fj, jb_get hj', lpId_eptf]
  refine cmp_Compare ?_
  simp
  exact hK
theorem sort_nil {g : Nat} {fs cs : List V} (hst : allStor fs = true ∧ allStor cs = true) (hK : K (.tup []) H) : VCall tbl lim 72 [.snil, .func (.func g) fs cs] H K := by
  refine VCall_fn tbl_at72 rfl ?_
  simp [vf72]
  refine VCall_fn tbl_at79 rfl ?_
  simp [vf79]
  refine wLoop_round ?_
  simp
  refine VCall_fn tbl_at84 rfl ?_
  simp (disch := omega) [vf84, wrap_i64]
  refine wLoop_round ?_
  simp
  refine wLoop_round ?_
  simp
  exact hK
theorem sort_own {n g : Nat} {u : V} {l : List Int} {cf : Int → Int → Int} {fs cs : List V} (hu : OwnV n H u l) (hlim : lim ≤ n) (hst : allStor fs = true ∧ allStor cs = true) (hc : ∀ b o z y, u = .sl b o z y → CmpI H b g fs cs l cf) (ho : Ordr cf) (hl : l.length < 20)
    (hK : ∀ l' H', PermR 0 l.length l l' → SortR cf 0 l.length l' → OwnV n H' u l' → (∀ b', (∀ o z y, u ≠ .sl b' o z y) → H'[b']? = H[b']?) → H'.length = H.length → K (.tup []) H') : VCall tbl lim 72 [u, .func (.func g) fs cs] H K := by
  cases hu with
  | nil => exact sort_nil hst (hK [] H PermR.refl (fun p q _ _ h => absurd h (by simp)) .nil (fun _ _ => rfl) rfl)
  | row h1 h3 =>
    rename_i b
    have hbl := (List.getElem?_eq_some_iff.1 h3).1
    refine stable_int h3 (by omega) hst (hc _ _ _ _ rfl) ho hl fun l' hp hs => ?_
    refine hK l' _ hp hs ?_ (fun b' hne => by rw [List.getElem?_set_ne (fun e => hne _ _ _ (by rw [e]))]) (by simp)
    have e : l.length = l'.length := hp.len.symm
    rw [e]
    exact .row h1 (setGet hbl)
end
section
variable {S : List Int} {J : List Jb} {o : List Nat}
def dayP (S : List Int) (J : List Jb) (o : List Nat) (d t : Nat) : DS := dayF J d (o.take t) ⟨S.getD d 0, wkD S J o d, fun _ => 0⟩
theorem dayP_succ {d t : Nat} (ht : t < o.length) : dayP S J o d (t + 1) = stepJ J d (dayP S J o d t) (o.getD t default) := by
  unfold dayP
  rw [take_snocD ht]
  simp [dayF]
theorem dayP_all {d : Nat} : dayP S J o d o.length = dayF J d o ⟨S.getD d 0, wkD S J o d, fun _ => 0⟩ := by simp [dayP]
theorem dayP_I (hval : valJ S J = 0) (ho : OrdJ J o) {d : Nat} (hd : d < S.length) : ∀ {t : Nat}, t ≤ o.length → DayI J d J.length (S.getD d 0) (wkD S J o d) (o.take t) (dayP S J o d t)
  | 0, _ => by
    have := dayI_start (J := J) (d := (d : Int)) ((valJ_ok hval).2.2.1 d hd).1 (wk_nn hval ho (Nat.le_of_lt hd))
    simpa [dayP, dayF] using this
  | t + 1, ht => by
    have ih := dayP_I hval ho hd (t := t) (by omega)
    rw [dayP_succ (by omega), take_snocD (by omega)]
    have hmd : o.getD t default ∈ o.drop t := by
      rw [getD_of (show t < o.length by omega), List.drop_eq_getElem_cons (show t < o.length by omega)]; exact List.mem_cons_self
    have hm : o.getD t default ∈ o := by rw [getD_of (by omega)]; exact List.getElem_mem _
    refine dayI_step ((ho.mem _).1 hm) ?_ ?_ ih
    · intro hmem
      have hnd := ho.nd
      rw [← List.take_append_drop t o, List.nodup_append] at hnd
      exact hnd.2.2 _ hmem (o.getD t default) hmd rfl
    · intro k hk
      have hs := ho.srt
      rw [← List.take_append_drop t o, List.pairwise_append] at hs
      exact hs.2.2 k hk _ hmd
end
/-- the order, as the machine has it -/
theorem ordJ_of {J : List Jb} {l : List Int} (hp : PermR 0 J.length ((List.range J.length).map Int.ofNat) l) (hs : SortR (fun x y => cmpI (J.getD x.toNat default).d (J.getD y.toNat default).d) 0 J.length l) :
    OrdJ J (l.map Int.toNat) ∧ l = (l.map Int.toNat).map Int.ofNat ∧ l.length = J.length := by
  have hlen : l.length = J.length := by have := hp.len; simpa using this
  have hmem : ∀ x ∈ l, ∃ i : Nat, x = i ∧ i < J.length := fun x hx => by
    have := hp.perm.mem_iff.1 hx
    simp only [List.mem_map, List.mem_range] at this
    obtain ⟨i, h1, rfl⟩ := this
    exact ⟨i, rfl, h1⟩
  have e : l = (l.map Int.toNat).map Int.ofNat := by
    rw [List.map_map]
    conv => lhs; rw [← List.map_id l]
    apply List.map_congr_left
    intro x hx
    obtain ⟨i, rfl, _⟩ := hmem x hx
    rfl
  have hperm : (l.map Int.toNat).Perm (List.range J.length) := by
    have := hp.perm.map Int.toNat
    rw [List.map_map] at this
    have e2 : (List.range J.length).map (Int.toNat ∘ Int.ofNat) = List.range J.length := by
      conv => rhs; rw [← List.map_id (List.range J.length)]
      apply List.map_congr_left
      intro x _; rfl
    rw [e2] at this; exact this
  refine ⟨⟨hperm.nodup_iff.2 List.nodup_range, fun i => by rw [hperm.mem_iff, List.mem_range], ?_⟩, e, hlen⟩
  rw [List.pairwise_map, List.pairwise_iff_getElem]
  intro i j hi hj hij
  have := hs i j (by omega) hij (by omega)
  rw [getD_of hi, getD_of hj] at this
  unfold leC cmpI at this
  by_cases h1 : (J.getD l[j].toNat default).d < (J.getD l[i].toNat default).d
  · simp only [h1, if_true] at this; exact absurd (by omega) this
  · omega
end Go.Proofs.Ytdipmhdekjlifaa.Vm
