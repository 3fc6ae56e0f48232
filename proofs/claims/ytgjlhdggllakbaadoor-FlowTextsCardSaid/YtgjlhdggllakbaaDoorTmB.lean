/- Texts of bundles over the machine: the reference's side. -/
import Derived.Test.YtgjlhdggllakbaaDoorTxB
namespace Go.Proofs.YtgjlhdggllakbaaDoor.Vm
open Go
set_option maxRecDepth 100000
set_option linter.unusedSimpArgs false
set_option linter.unusedVariables false
attribute [-simp] List.getD_eq_getElem?_getD

/-- bytes as a text -/
def bA (l : List UInt8) : ByteArray := ⟨l.toArray⟩
theorem bA_size {l : List UInt8} : (bA l).size = l.length := by show l.toArray.size = _; simp
theorem bA_app {l m : List UInt8} : bA l ++ bA m = bA (l ++ m) := by
  have h : (bA l ++ bA m).data = (bA (l ++ m)).data := by simp [bA]
  generalize bA l ++ bA m = a at h
  generalize bA (l ++ m) = b at h
  cases a; cases b; simp at h; subst h; rfl
theorem bA_inj {l m : List UInt8} (h : bA l = bA m) : l = m := by
  have := congrArg (fun a : ByteArray => a.data.toList) h
  simpa [bA] using this
theorem bA_list {s : ByteArray} : bA s.data.toList = s := by cases s; rfl
theorem list_bA {l : List UInt8} : (bA l).data.toList = l := by simp [bA]
theorem vlenT_str {s : ByteArray} : vlenT (.str s) = some (.int .i64 s.size) := Eq.trans rfl rfl
attribute [simp] vlenT_str
theorem vadd_bA {l m : List UInt8} (h : l.length + m.length ≤ 1000000) : vbin .add (.str (bA l)) (.str (bA m)) = some (.str (bA (l ++ m))) := by
  have : (bA l).size + (bA m).size ≤ 1000000 := by rw [bA_size, bA_size]; exact h
  simp only [vbin]; rw [if_pos (by omega), bA_app]
theorem dig_lit {n : Nat} (h : n < 10) : vslT (.str ⟨#[48, 49, 50, 51, 52, 53, 54, 55, 56, 57]⟩) (some (.int .i64 (n : Int))) (some (.int .i64 ((n : Int) + 1))) = some (.str (bA (Lib.decDigits n))) := by
  rw [Lib.decDigits_one h]
  match n, h with
  | 0, _ => rfl
  | 1, _ => rfl
  | 2, _ => rfl
  | 3, _ => rfl
  | 4, _ => rfl
  | 5, _ => rfl
  | 6, _ => rfl
  | 7, _ => rfl
  | 8, _ => rfl
  | 9, _ => rfl
theorem dd_len20 {n : Nat} (h : n < 1000000000) : (Lib.decDigits n).length ≤ 9 := dd_len 8 n (by simpa using h)
theorem digits_r : ∀ (n : Nat), n < 1000000000 → ∀ {H : Hp} {lim : Nat} {K : V → Hp → Prop}, K (.str (bA (Lib.decDigits n))) H → VCall tbl lim 26 [.int .i64 (n : Int)] H K := by
  intro n
  induction n using Nat.strongRecOn with
  | _ n ih =>
    intro hn H lim K hK
    refine VCall_fn tbl_at26 rfl ?_
    by_cases h : n < 10
    · have h' : ((n : Int) < 10) = True := eq_true (by omega)
      simp (disch := omega) [vf26, h', wrap_i64, dig_lit h]
      exact hK
    · have h' : ((n : Int) < 10) = False := eq_false (by omega)
      obtain ⟨a, ha⟩ : ∃ a : Nat, a = n / 10 := ⟨_, rfl⟩
      obtain ⟨b, hb⟩ : ∃ b : Nat, b = n % 10 := ⟨_, rfl⟩
      have q1 : Int.tdiv (n : Int) 10 = (a : Int) := by rw [Int.tdiv_eq_ediv_of_nonneg (by omega)]; omega
      have q2 : Int.tmod (n : Int) 10 = (b : Int) := by rw [Int.tmod_eq_emod_of_nonneg (by omega)]; omega
      have hcat : Lib.decDigits a ++ Lib.decDigits b = Lib.decDigits n := by
        rw [dd_big h, ha, hb, Lib.decDigits_one (i := n % 10) (by omega)]
      have hl1 := dd_len20 (n := a) (by omega)
      have hl2 := dd_len20 (n := b) (by omega)
      have hadd := vadd_bA (l := Lib.decDigits a) (m := Lib.decDigits b) (by omega)
      rw [hcat] at hadd
      simp (disch := omega) [vf26, h', q1, wrap_i64]
      refine ih a (by omega) (by omega) ?_
      simp (disch := omega) [q2]
      refine ih b (by omega) (by omega) ?_
      simp [hadd]
      exact hK
/-- a text in a cell -/
def strC : Cod ByteArray 1 := ⟨fun s => [.str s], fun _ => rfl⟩
theorem ext_bA {s : ByteArray} {a b : Nat} : s.extract a b = bA ((s.data.toList.take b).drop a) := by
  obtain ⟨⟨l⟩⟩ := s
  have h : ((⟨⟨l⟩⟩ : ByteArray).extract a b).data = (bA ((l.take b).drop a)).data := by
    simp [bA, ByteArray.data_extract]
    rw [List.drop_take]
  generalize (⟨⟨l⟩⟩ : ByteArray).extract a b = x at h
  generalize bA ((l.take b).drop a) = y at h
  cases x; cases y; simp at h; subst h; rfl
theorem slT_bA {s : ByteArray} {a b : Nat} (h1 : a ≤ b) (h2 : b ≤ s.size) : vslT (.str s) (some (.int .i64 (a : Int))) (some (.int .i64 (b : Int))) = some (.str (bA ((s.data.toList.take b).drop a))) := by
  simp only [vslT, vbounds, vint]
  rw [if_pos (by omega), if_pos (by omega)]
  simp only [Int.toNat_natCast, ext_bA]
theorem slT_end {s : ByteArray} {a : Nat} (h1 : a ≤ s.size) : vslT (.str s) (some (.int .i64 (a : Int))) none = some (.str (bA (s.data.toList.drop a))) := by
  simp only [vslT, vbounds, vint]
  rw [if_pos (by omega), if_pos (by omega)]
  simp only [Int.toNat_natCast, ext_bA]
  congr 3
  rw [List.take_of_length_le (by show s.data.toList.length ≤ s.data.size; simp)]
def chB (s : ByteArray) (i : Nat) : UInt8 := s.data.toList.getD i 0
theorem idxB {s : ByteArray} {i : Nat} (h : i < s.size) : vidxT (.str s) (.int .i64 (i : Int)) = some (.int .u8 ((chB s i).toNat : Nat)) := by
  have h' : i < s.data.size := h
  simp only [vidxT, vint]; rw [if_pos (by omega)]
  simp only [Int.toNat_natCast, chB, List.getD_eq_getElem?_getD, Array.getD_eq_getD_getElem?, Array.getElem?_toList]
/-- cut at a byte -/
theorem words_r {H : Hp} {lim : Nat} {s : ByteArray} {c : Nat} {K : V → Hp → Prop} (hc : c < 256) (hs : s.size ≤ 100000) (hlim : lim ≤ H.length) (hK : ∀ H' u, HX H H' → OwnT H.length strC H' u ((wds (UInt8.ofNat c) s.data.toList).map bA) → K u H') : VCall tbl lim 29 [.str s, .int .u8 (c : Int)] H K := by
  refine VCall_fn tbl_at29 rfl ?_
  have hsz : s.data.toList.length = s.size := by show s.data.toList.length = s.data.size; simp
  obtain ⟨l, hl⟩ : ∃ l, l = s.data.toList := ⟨_, rfl⟩
  rw [← hl] at hK hsz
  simp [vf29]
  refine wLoop_up s.size (fun i fr L H' => (fr 0 = .str s ∧ fr 1 = .int .u8 c ∧ fr 7 = .int .i64 i) ∧ (∃ from' Ws u, fr 6 = .int .i64 (from' : Nat) ∧ fr 5 = u ∧ from' ≤ i ∧ UInt8.ofNat c ∉ (l.take i).drop from' ∧ wds (UInt8.ofNat c) l = Ws ++ wds (UInt8.ofNat c) (l.drop from') ∧ Ws.length ≤ i ∧ HX H H' ∧ OwnT H.length strC H' u (Ws.map bA)) ∧ L = [] ∧ i ≤ s.size) ⟨by simp, ⟨0, [], .snil, by simp, by simp, Nat.le_refl _, by simp, by simp, by simp, .refl, .nil⟩, rfl, by omega⟩ ?_
  rintro i hi fr L H1 ⟨⟨f0, f1, f7⟩, ⟨from', Ws, u, f6, f5, g1, g2, g3, g4, hx, hu⟩, rfl, hle⟩
  have hl1 := hx.len
  by_cases hp : i < s.size
  · have hp' : ((i : Int) < (s.size : Int)) = True := eq_true (by omega)
    have hxi := idxB hp
    have htk : l.take (i + 1) = l.take i ++ [chB s i] := by
      rw [List.take_add_one]
      have : l[i]? = some (chB s i) := by
        rw [hl, chB, List.getD_eq_getElem?_getD, List.getElem?_eq_getElem (by rw [← hl]; omega)]; rfl
      rw [this]; rfl
    by_cases e : (chB s i).toNat = c
    · have e' : (((chB s i).toNat : Int) = (c : Int)) = True := eq_true (by omega)
      have ec : chB s i = UInt8.ofNat c := by rw [← e]; simp
      have hcur : l.drop from' = (l.take i).drop from' ++ UInt8.ofNat c :: l.drop (i + 1) := by
        have h1 : l = (l.take i ++ [chB s i]) ++ l.drop (i + 1) := by rw [← htk, List.take_append_drop]
        conv => lhs; rw [h1]
        rw [List.drop_append_of_le_length (by simp; omega), List.drop_append_of_le_length (by simp; omega), ec]
        simp
      have hw : wds (UInt8.ofNat c) (l.drop from') = (l.take i).drop from' :: wds (UInt8.ofNat c) (l.drop (i + 1)) := by rw [hcur, wds_app g2]
      obtain ⟨u', H2, a1, a2, a3, a4, a5, a6⟩ := hu.append (x := bA ((l.take i).drop from')) (cs := [V.str (bA ((l.take i).drop from'))]) (bytes := 16) (lim := lim) rfl ⟨hlim, hl1⟩ (by omega) (by simp; omega)
      have hsl := slT_bA (s := s) (a := from') (b := i) g1 (by omega)
      rw [← hl] at hsl
      simp (disch := omega) [f0, f1, f5, f6, f7, hp', hxi, e', hsl, splice, a1, wrap_i64]
      refine ⟨hp, ⟨i + 1, by omega, Nat.le_refl _, by simp, Ws ++ [(l.take i).drop from'], ?_, by simp; omega, a3 H hx (Nat.le_refl _), by simpa using a2⟩, hp⟩
      rw [g3, hw]; simp
    · have e' : (((chB s i).toNat : Int) = (c : Int)) = False := eq_false (by omega)
      simp (disch := omega) [f0, f1, f5, f6, f7, hp', hxi, e', wrap_i64]
      refine ⟨hp, ⟨from', rfl, by omega, ?_, Ws, g3, by omega, hx, hu⟩, hp⟩
      rw [htk, List.drop_append_of_le_length (by simp; omega)]
      intro h
      rcases List.mem_append.1 h with h | h
      · exact g2 h
      · have : UInt8.ofNat c = chB s i := by simpa using h
        exact e (by rw [← this]; simp; omega)
  · have hp' : ((i : Int) < (s.size : Int)) = False := eq_false (by omega)
    have hi : i = s.size := by omega
    subst hi
    rw [List.take_of_length_le (by omega)] at g2
    rw [wds_free g2] at g3
    obtain ⟨u', H2, a1, a2, a3, a4, a5, a6⟩ := hu.append (x := bA (l.drop from')) (cs := [V.str (bA (l.drop from'))]) (bytes := 16) (lim := lim) rfl ⟨hlim, hl1⟩ (by omega) (by simp; omega)
    have hsl := slT_end (s := s) (a := from') g1
    rw [← hl] at hsl
    simp (disch := omega) [f0, f1, f5, f6, f7, hp', hsl, splice, a1, a2.lst.stor]
    refine hK H2 u' (a3 H hx (Nat.le_refl _)) ?_
    rw [g3]; simpa using a2

theorem valD_cut {l : List UInt8} {i : Nat} {b : UInt8} (h : l[i]? = some b) : valD (l.take (i + 1)) = 10 * valD (l.take i) + (b.toNat - 48) := by
  rw [List.take_add_one, h]
  exact valD_snoc
theorem valD_bd : ∀ (k : Nat) (l : List UInt8), l.length = k → l.all dgB = true → valD l < 10 ^ k
  | 0, l, h, _ => by rw [List.eq_nil_of_length_eq_zero h]; simp [valD]
  | k + 1, l, h, ha => by
    rcases List.eq_nil_or_concat l with rfl | ⟨m, b, rfl⟩
    · cases h
    · rw [List.concat_eq_append] at h ha ⊢
      rw [List.all_append, Bool.and_eq_true] at ha
      have h1 := valD_bd k m (by simpa using h) ha.1
      have h2 : dgB b = true := by simpa using ha.2
      simp only [dgB, Bool.and_eq_true, decide_eq_true_eq] at h2
      rw [valD_snoc, Nat.pow_succ]
      omega
/-- the reference's reader of a number -/
theorem number_r {H : Hp} {lim : Nat} {s : ByteArray} {K : V → Hp → Prop} (hs : s.size ≤ 100000) (hK : K (.int .i64 (numR s.data.toList)) H) : VCall tbl lim 30 [.str s] H K := by
  refine VCall_fn tbl_at30 rfl ?_
  have hsz : s.data.toList.length = s.size := by show s.data.toList.length = s.data.size; simp
  obtain ⟨l, hl⟩ : ∃ l, l = s.data.toList := ⟨_, rfl⟩
  rw [← hl] at hK hsz
  have bad : (¬ (l.all dgB ∧ l.length ≤ 9 ∧ l ≠ [] ∧ Lib.decDigits (valD l) = l)) → K (.int .i64 (-1)) H := fun h => by
    unfold numR at hK; rwa [if_neg h] at hK
  simp [vf30]
  refine wLoop_up s.size (fun i fr L H' => (fr 0 = .str s ∧ fr 4 = .int .i64 i ∧ fr 3 = .int .i64 (valD (l.take i) : Nat)) ∧ L = [] ∧ H' = H ∧ i ≤ s.size ∧ i ≤ 9 ∧ (l.take i).all dgB = true) ⟨by simp [valD], rfl, rfl, by omega, by omega, by simp⟩ ?_
  rintro i hi fr L H' ⟨⟨f0, f4, f3⟩, rfl, rfl, hle, h9, hall⟩
  have hbd := valD_bd i (l.take i) (by simp; omega) hall
  have hpw : 10 ^ i ≤ 10 ^ 9 := Nat.pow_le_pow_right (by omega) h9
  have hp9 : (10 : Nat) ^ 9 = 1000000000 := by decide
  by_cases hp : i < s.size
  · have hp' : ((i : Int) < (s.size : Int)) = True := eq_true (by omega)
    have hxi := idxB hp
    have hat : l[i]? = some (chB s i) := by
      rw [hl, chB, List.getD_eq_getElem?_getD, List.getElem?_eq_getElem (by rw [← hl]; omega)]; rfl
    have hmem : chB s i ∈ l := List.mem_of_getElem? hat
    have hb256 : (chB s i).toNat < 256 := UInt8.toNat_lt _
    have hv := valD_cut hat
    by_cases h48 : 48 ≤ (chB s i).toNat
    case neg =>
      have e1 : (((chB s i).toNat : Int) < 48) = True := eq_true (by omega)
      simp [f0, f3, f4, hp', hxi, e1]
      refine bad fun h => ?_
      have := List.all_eq_true.1 h.1 _ hmem
      simp [dgB] at this; omega
    have e1 : (((chB s i).toNat : Int) < 48) = False := eq_false (by omega)
    by_cases h57 : (chB s i).toNat ≤ 57
    case neg =>
      have e2 : ((57 : Int) < ((chB s i).toNat : Int)) = True := eq_true (by omega)
      simp [f0, f3, f4, hp', hxi, e1, e2]
      refine bad fun h => ?_
      have := List.all_eq_true.1 h.1 _ hmem
      simp [dgB] at this; omega
    have e2 : ((57 : Int) < ((chB s i).toNat : Int)) = False := eq_false (by omega)
    by_cases h8 : i = 9
    · have e3 : ((i : Int) = 9) = True := eq_true (by omega)
      simp [f0, f3, f4, hp', hxi, e1, e2, e3]
      refine bad fun h => ?_
      omega
    have e3 : ((i : Int) = 9) = False := eq_false (by omega)
    have wu : IntKind.wrap .u8 (((chB s i).toNat : Int) - 48) = (((chB s i).toNat - 48 : Nat) : Int) := by
      simp [IntKind.wrap, IntKind.bits, IntKind.signed]; omega
    obtain ⟨d, hd⟩ : ∃ d, d = (chB s i).toNat - 48 := ⟨_, rfl⟩
    rw [← hd] at wu hv
    obtain ⟨v, hv0⟩ : ∃ v, v = valD (l.take i) := ⟨_, rfl⟩
    rw [← hv0] at f3 hbd hv
    simp (disch := omega) [f0, f3, f4, hp', hxi, e1, e2, e3, wu, wrap_i64]
    refine ⟨hp, by rw [hv]; omega, hp, by omega, ?_⟩
    intro x hx
    rw [List.take_add_one, hat] at hx
    rcases List.mem_append.1 hx with h | h
    · exact List.all_eq_true.1 hall x h
    · have : x = chB s i := by simpa using h
      rw [this]; simp [dgB, h48, h57]
  · have hp' : ((i : Int) < (s.size : Int)) = False := eq_false (by omega)
    have hi : i = s.size := by omega
    subst hi
    rw [List.take_of_length_le (by omega)] at f3 hall hbd
    by_cases hz : s.size = 0
    · have hz' : s = ⟨#[]⟩ := by
        obtain ⟨⟨m⟩⟩ := s
        have hm : m.length = 0 := by rw [hl, hz] at hsz; exact hsz
        have : m = [] := List.eq_nil_of_length_eq_zero hm
        subst this; rfl
      have hln : l = [] := List.eq_nil_of_length_eq_zero (by omega)
      have ev : vbin .eql (.str s) (.str ⟨#[]⟩) = some (.bool true) := by rw [hz']; simp [vbin]
      simp [f0, f3, f4, hp', ev]
      exact bad fun h => h.2.2.1 hln
    · have ev : vbin .eql (.str s) (.str ⟨#[]⟩) = some (.bool false) := by
        have : (s.toList == (⟨#[]⟩ : ByteArray).toList) = false := by
          rw [Lib.toList_data, Lib.toList_data]
          have hne : s.data.toList ≠ [] := fun e => hz (by
            have := congrArg List.length e
            rw [← hl] at this
            simp at this
            rw [this] at hsz
            simpa using hsz.symm)
          simpa using hne
        simp only [vbin, this]
      simp [f0, f3, f4, hp', ev]
      refine digits_r _ (by omega) ?_
      by_cases hd : Lib.decDigits (valD l) = l
      · have ev2 : vbin .neq (.str (bA (Lib.decDigits (valD l)))) (.str s) = some (.bool false) := by
          have : bA (Lib.decDigits (valD l)) = s := by rw [hd, hl]; exact bA_list
          rw [this]; simp [vbin]
        simp [f0, f3, f4, ev2]
        unfold numR at hK
        rw [if_pos ⟨hall, by omega, fun e => hz (by rw [← hsz, e]; rfl), hd⟩] at hK
        exact hK
      · have ev2 : vbin .neq (.str (bA (Lib.decDigits (valD l)))) (.str s) = some (.bool true) := by
          have hne : ¬ (Lib.decDigits (valD l) = s.data.toList) := fun e => hd (by rw [e, hl])
          simp only [vbin]
          rw [Lib.toList_data, Lib.toList_data, list_bA]
          simpa using hne
        simp [f0, f3, f4, ev2]
        exact bad fun h => hd h.2.2.2
end Go.Proofs.YtgjlhdggllakbaaDoor.Vm
namespace Go.Proofs.YtgjlhdggllakbaaDoor.Vm
open Go
set_option maxRecDepth 100000
set_option linter.unusedSimpArgs false
set_option linter.unusedVariables false
attribute [-simp] List.getD_eq_getElem?_getD

theorem nums_app {c : UInt8} {l m : List Nat} : nums c (l ++ m) = nums c l ++ nums c m := by simp [nums]
theorem nums_one {c : UInt8} {n : Nat} : nums c [n] = c :: Lib.decDigits n := by simp [nums]
theorem toN_take {l : List Int} {i : Nat} (h : i < l.length) : toN (l.take (i + 1)) = toN (l.take i) ++ [(l.getD i 0).toNat] := by
  rw [List.take_add_one, List.getElem?_eq_getElem h]
  have : l.getD i 0 = l[i] := by rw [List.getD_eq_getElem?_getD, List.getElem?_eq_getElem h]; rfl
  rw [this]
  unfold toN
  rw [List.map_append]; rfl
theorem nums_take {l : List Int} {i : Nat} (h : i < l.length) : nums 32 (toN (l.take (i + 1))) = nums 32 (toN (l.take i)) ++ 32 :: Lib.decDigits (l.getD i 0).toNat := by
  rw [toN_take h, nums_app, nums_one]
theorem mid_take {r w : List Int} {way i : Nat} : midL (toN ((sideF (op r w) way).take i)) := fun n hn => by
  simp only [toN, List.mem_map] at hn
  obtain ⟨x, hx, rfl⟩ := hn
  have := side_bd x (List.mem_of_mem_take hx)
  omega
theorem side_len {r w : List Int} {way : Nat} : (sideF (op r w) way).length ≤ 24 := by simp only [sideF, listN_length]; exact lastN_le _ _
theorem side_at {r w : List Int} {way i : Nat} (h : i < (sideF (op r w) way).length) : ((sideF (op r w) way).getD i 0).toNat < 1000000000 ∧ (((sideF (op r w) way).getD i 0).toNat : Int) = (sideF (op r w) way).getD i 0 := by
  have hm : (sideF (op r w) way).getD i 0 ∈ sideF (op r w) way := by
    rw [List.getD_eq_getElem?_getD, List.getElem?_eq_getElem h]; exact List.getElem_mem h
  have := side_bd _ hm
  omega
theorem rd2a {a b : V} : rd none [a, b] 0 = some a := rfl
theorem rd2b {a b : V} : rd none [a, b] 1 = some b := rfl
theorem bA1 {b : UInt8} : (⟨#[b]⟩ : ByteArray) = bA [b] := rfl
/-- the text of a bundle, or none -/
def txtP (r w : List Int) : ByteArray := if errOf r w = 0 then bA (fmtB r w) else ⟨#[]⟩
theorem trim_ok {r w : List Int} (he : errOf r w = 0) : trimP r w = (rS r w, wS r w, 0) := by
  unfold trimP; rw [if_pos he]; exact outP_small fun a b => (op_bd a b).2
theorem trim_err {r w : List Int} (he : errOf r w ≠ 0) : trimP r w = ([], [], errOf r w) := by
  unfold trimP; rw [if_neg he]; rfl
theorem ref01_Format {lim : Nat} {H : Hp} {bv : V} {r w : List Int} {K : V → Hp → Prop} (hb : BunV H r w bv) (hlim : lim ≤ H.length) (hK : ∀ H', HX H H' → K (.tup [.str (txtP r w), .int .i64 (errOf r w)]) H') : VCall tbl lim 8 [bv] H K := by
  obtain ⟨hx, hy⟩ := hb
  rename_i rv wv
  have hb : BunV H r w (.agg [rv, wv]) := .mk hx hy
  refine VCall_fn tbl_at8 rfl ?_
  simp [vf8, hx.stor, hy.stor, hx.one, hy.one]
  refine ref01_Trim hb hlim fun H1 v x1 o1 => ?_
  obtain ⟨o1, o2⟩ := o1
  rename_i v1 v2
  have l1 := x1.len
  simp [o1.sl.stor, o2.sl.stor, o1.sl.one, o2.sl.one, splice]
  by_cases he : errOf r w = 0
  case neg =>
    have h2 : (trimP r w).2.2 = errOf r w := by rw [trim_err he]
    rw [h2]
    simp [he]
    have := hK H1 x1
    rw [txtP, if_neg he] at this
    exact this
  rw [trim_ok he] at o1 o2 ⊢
  simp
  have a1 : SlV H1 v1 (rS r w) := o1.sl
  have a2 : SlV H1 v2 (wS r w) := o2.sl
  have n1 : (rS r w).length ≤ 24 := side_len
  have n2 : (wS r w).length ≤ 24 := side_len
  have m1 : ∀ i, (nums 32 (toN ((rS r w).take i))).length ≤ 240 := fun i => by
    have := nums_len (c := 32) (mid_take (r := r) (w := w) (way := 0) (i := i))
    simp only [toN, List.length_map, List.length_take] at this
    simp only [rS] at n1 ⊢
    simp only [toN]; omega
  have m2 : ∀ i, (nums 32 (toN ((wS r w).take i))).length ≤ 240 := fun i => by
    have := nums_len (c := 32) (mid_take (r := r) (w := w) (way := 1) (i := i))
    simp only [toN, List.length_map, List.length_take] at this
    simp only [wS] at n2 ⊢
    simp only [toN]; omega
  have hL : [[rv, wv], [v1, v2]][1]? = some [v1, v2] := rfl
  refine wLoop_up (rS r w).length (fun i fr L H' => (fr 4 = .lp 1 0 ∧ fr 7 = .int .i64 i ∧ fr 6 = .str (bA (hairL ++ nums 32 (toN ((rS r w).take i))))) ∧ L = [[rv, wv], [v1, v2]] ∧ H' = H1 ∧ i ≤ (rS r w).length) ⟨⟨rfl, rfl, by simp [nums, toN]; rfl⟩, rfl, rfl, by omega⟩ ?_
  rintro i hi fr L H' ⟨⟨f4, f7, f6⟩, rfl, rfl, hle⟩
  by_cases hp : i < (rS r w).length
  · have hp' : ((i : Int) < ((rS r w).length : Int)) = True := eq_true (by omega)
    obtain ⟨b1, b2⟩ := side_at (r := r) (w := w) (way := 0) (i := i) hp
    obtain ⟨n, hn⟩ : ∃ n : Nat, n = ((rS r w).getD i 0).toNat := ⟨_, rfl⟩
    have b1 : n < 1000000000 := by rw [hn]; exact b1
    have b2 : (rS r w).getD i 0 = (n : Int) := by rw [hn]; exact b2.symm
    have hld := a1.load (i := i) hp (L := [[rv, wv], [v1, v2]])
    rw [b2] at hld
    have hdl := dd_len20 b1
    have hm := m1 i
    have ad1 := vadd_bA (l := [32]) (m := Lib.decDigits n) (by simp; omega)
    have ad2 := vadd_bA (l := hairL ++ nums 32 (toN ((rS r w).take i))) (m := 32 :: Lib.decDigits n) (by simp [hairL]; omega)
    have hnx := nums_take (l := rS r w) (i := i) hp
    rw [← hn] at hnx
    have had := a1.addr (i := (i : Int)) ⟨by omega, by omega⟩
    simp only [List.cons_append, List.nil_append] at ad1
    simp (disch := omega) [f4, f6, f7, hL, rd2a, a1.len, hp', had, hld, wrap_i64]
    refine digits_r n b1 ?_
    simp (disch := omega) [f4, f6, f7, bA1, ad1, ad2, wrap_i64]
    refine ⟨hp, ?_, hp⟩
    rw [hnx]
  · have hp' : ((i : Int) < ((rS r w).length : Int)) = False := eq_false (by omega)
    have hi : i = (rS r w).length := by omega
    subst hi
    rw [List.take_of_length_le (Nat.le_refl _)] at f6
    have hm := m1 (rS r w).length
    rw [List.take_of_length_le (Nat.le_refl _)] at hm
    have ew : (⟨#[32, 119, 114, 111, 110, 103]⟩ : ByteArray) = bA (32 :: wrongL) := rfl
    have ad3 := vadd_bA (l := hairL ++ nums 32 (toN (rS r w))) (m := 32 :: wrongL) (by simp [hairL, wrongL]; omega)
    obtain ⟨P, hP⟩ : ∃ P, P = hairL ++ nums 32 (toN (rS r w)) ++ 32 :: wrongL := ⟨_, rfl⟩
    have hPl : P.length ≤ 260 := by rw [hP]; simp [hairL, wrongL]; omega
    rw [← hP] at ad3
    simp [f4, f6, f7, hL, rd2a, a1.len, hp', ew, ad3]
    refine wLoop_up (wS r w).length (fun i fr L H'' => (fr 4 = .lp 1 0 ∧ fr 8 = .int .i64 i ∧ fr 6 = .str (bA (P ++ nums 32 (toN ((wS r w).take i))))) ∧ L = [[rv, wv], [v1, v2]] ∧ H'' = H' ∧ i ≤ (wS r w).length) ⟨⟨by simp [f4], by simp, by simp [nums, toN]⟩, rfl, rfl, by omega⟩ ?_
    rintro i hi fr2 L2 H2 ⟨⟨f4, f8, f6⟩, rfl, rfl, hle⟩
    by_cases hp : i < (wS r w).length
    · have hp' : ((i : Int) < ((wS r w).length : Int)) = True := eq_true (by omega)
      obtain ⟨b1, b2⟩ := side_at (r := r) (w := w) (way := 1) (i := i) hp
      obtain ⟨n, hn⟩ : ∃ n : Nat, n = ((wS r w).getD i 0).toNat := ⟨_, rfl⟩
      have b1 : n < 1000000000 := by rw [hn]; exact b1
      have b2 : (wS r w).getD i 0 = (n : Int) := by rw [hn]; exact b2.symm
      have hld := a2.load (i := i) hp (L := [[rv, wv], [v1, v2]])
      rw [b2] at hld
      have hdl := dd_len20 b1
      have hm := m2 i
      have ad1 := vadd_bA (l := [32]) (m := Lib.decDigits n) (by simp; omega)
      have ad2 := vadd_bA (l := P ++ nums 32 (toN ((wS r w).take i))) (m := 32 :: Lib.decDigits n) (by simp; omega)
      have hnx := nums_take (l := wS r w) (i := i) hp
      rw [← hn] at hnx
      have had := a2.addr (i := (i : Int)) ⟨by omega, by omega⟩
      simp only [List.cons_append, List.nil_append] at ad1
      simp (disch := omega) [f4, f6, f8, hL, rd2b, a2.len, hp', had, hld, wrap_i64]
      refine digits_r n b1 ?_
      simp (disch := omega) [f4, f6, f8, bA1, ad1, ad2, wrap_i64]
      refine ⟨hp, ?_, hp⟩
      rw [hnx]
    · have hp' : ((i : Int) < ((wS r w).length : Int)) = False := eq_false (by omega)
      have hi : i = (wS r w).length := by omega
      subst hi
      rw [List.take_of_length_le (Nat.le_refl _)] at f6
      simp [f4, f6, f8, hL, rd2b, a2.len, hp']
      have := hK H2 x1
      rw [txtP, if_pos he, he] at this
      have e2 : P ++ nums 32 (toN (wS r w)) = fmtB r w := by rw [hP]; simp [fmtB, fmtH]
      rw [e2]; exact this
end Go.Proofs.YtgjlhdggllakbaaDoor.Vm
namespace Go.Proofs.YtgjlhdggllakbaaDoor.Vm
open Go
set_option maxRecDepth 100000
set_option linter.unusedSimpArgs false
set_option linter.unusedVariables false
attribute [-simp] List.getD_eq_getElem?_getD

/-! two lists of one's own, apart -/
def Apt (a b : V) : Prop := ∀ k o z y o' z' y', a = .sl k o z y → b = .sl k o' z' y' → False
structure TwoB (n : Nat) (H : Hp) (rv wv : V) (r w : List Int) : Prop where
  a : OwnV n H rv r
  b : OwnV n H wv w
  ap : Apt rv wv
theorem apH_other {H : Hp} {v wv : V} {new all : List V} {n : Nat} {w : List Int} (hw : OwnV n H wv w) (ha : Apt v wv) {m : Nat} : OwnV n (apH H v new all) wv w ∧ Apt (.sl (H.length + 1) 0 m 1) wv := by
  cases hw with
  | nil => exact ⟨.nil, fun k o z y o' z' y' h1 h2 => by cases h2⟩
  | row h1 h3 =>
    rename_i b
    have hlt : b < H.length := (List.getElem?_eq_some_iff.1 h3).1
    refine ⟨.row h1 ?_, fun k o z y o' z' y' h1 h2 => by cases h1; cases h2; omega⟩
    unfold apH
    split
    · rename_i b2 o z y
      have hne : b2 ≠ b := fun e => ha b o z y 0 _ 1 (by rw [e]) rfl
      rw [List.getElem?_append_left (by simp; omega), List.getElem?_set_ne hne, List.getElem?_append_left hlt]; exact h3
    · rw [List.append_assoc, List.getElem?_append_left hlt]; exact h3
theorem Apt.symm {a b : V} (h : Apt a b) : Apt b a := fun k o z y o' z' y' h1 h2 => h k o' z' y' o z y h2 h1
theorem wds_len {c : UInt8} : ∀ l : List UInt8, (wds c l).length ≤ l.length + 1
  | [] => by simp [wds]
  | b :: l => by
    have := wds_len (c := c) l
    rw [wds]
    split
    · simp; omega
    · split
      · simp
      · rename_i w ws e; rw [e] at this; simp at this ⊢; omega
theorem wds_pos {c : UInt8} : ∀ l : List UInt8, 1 ≤ (wds c l).length
  | [] => by simp [wds]
  | b :: l => by
    rw [wds]
    split
    · simp
    · split <;> simp
theorem wds_mem {c : UInt8} : ∀ (l : List UInt8), ∀ w ∈ wds c l, w.length ≤ l.length
  | [], w, h => by simp [wds] at h; rw [h]; simp
  | b :: l, w, h => by
    have ih := wds_mem (c := c) l
    rw [wds] at h
    split at h
    · rcases List.mem_cons.1 h with rfl | h
      · simp
      · have := ih w h; simp; omega
    · split at h
      · simp at h; rw [h]; simp
      · rename_i w' ws e
        rw [e] at ih
        rcases List.mem_cons.1 h with rfl | h
        · have := ih w' (by simp); simp; omega
        · have := ih w (by simp [h]); simp; omega
theorem veq_wrong {W : List UInt8} : vbin .eql (.str (bA W)) (.str ⟨#[119, 114, 111, 110, 103]⟩) = some (.bool (decide (W = wrongL))) := by
  simp only [vbin]
  rw [Lib.toList_data, Lib.toList_data, list_bA]
  show some (V.bool (W == [119, 114, 111, 110, 103])) = _
  by_cases h : W = wrongL
  · rw [h]; rfl
  · have : (W == [119, 114, 111, 110, 103]) = false := by simpa [wrongL] using h
    rw [this]; simp [h]
instance {x : RdH} {T : List UInt8} : Decidable (accB x T) := inferInstanceAs (Decidable (_ ∧ _))
/-- what a reader answers -/
def prsP (x : RdH) (T : List UInt8) : List Int × List Int × Int := if 4000 < T.length then ([], [], 4) else if accB x T then (rS x.r x.w, wS x.r x.w, 0) else ([], [], 3)
theorem vneq_bA {W : List UInt8} {s : ByteArray} : vbin .neq (.str (bA W)) (.str s) = some (.bool (!(decide (W = s.data.toList)))) := by
  simp only [vbin]
  rw [Lib.toList_data, Lib.toList_data, list_bA]
  by_cases h : W = s.data.toList
  · simp [h]
  · simp [h]
theorem ref01_Parse {lim : Nat} {H : Hp} {s : ByteArray} {K : V → Hp → Prop} (hs : s.size ≤ 1000000) (hlim : lim ≤ H.length) (hK : ∀ H' v, HX H H' → OwnB H.length H' (prsP (rdR (wds 32 s.data.toList)) s.data.toList).1 (prsP (rdR (wds 32 s.data.toList)) s.data.toList).2.1 v → K (.tup [v, .int .i64 (prsP (rdR (wds 32 s.data.toList)) s.data.toList).2.2]) H') : VCall tbl lim 10 [.str s] H K := by
  have hsz : s.data.toList.length = s.size := by show s.data.toList.length = s.data.size; simp
  refine VCall_fn tbl_at10 rfl ?_
  by_cases h4 : 4000 < s.size
  · have h4' : ((4000 : Int) < (s.size : Int)) = True := eq_true (by omega)
    have e : prsP (rdR (wds 32 s.data.toList)) s.data.toList = ([], [], 4) := by unfold prsP; rw [if_pos (by omega)]
    rw [e] at hK
    simp [vf10, h4', splice]
    exact hK H _ .refl .zero
  have h4' : ((4000 : Int) < (s.size : Int)) = False := eq_false (by omega)
  simp [vf10, h4']
  refine words_r (c := 32) (by omega) (by omega) hlim fun H1 u x1 hu => ?_
  have l1 := x1.len
  have e32 : UInt8.ofNat 32 = 32 := rfl
  rw [e32] at hu
  obtain ⟨Ws, hWs⟩ : ∃ Ws, Ws = wds 32 s.data.toList := ⟨_, rfl⟩
  rw [← hWs] at hu
  have wl := wds_len (c := 32) s.data.toList
  have wp := wds_pos (c := 32) s.data.toList
  have wm := wds_mem (c := 32) s.data.toList
  rw [← hWs] at wl wp wm
  have hul := hu.lst
  have hlen : (Ws.map bA).length = Ws.length := by simp
  simp [hul.stor]
  refine wLoop_up Ws.length (fun j fr L H' => (fr 0 = .str s ∧ fr 2 = .lp 0 0 ∧ fr 4 = .lp 1 0 ∧ fr 5 = u ∧ fr 7 = .int .i64 ((j : Int) + 1)) ∧ (∃ x rv wv, x = ((Ws.take (j + 1)).drop 1).foldl RdH.stepR ⟨false, [], []⟩ ∧ fr 6 = .bool x.k ∧ L = [[.snil, .snil], [rv, wv]] ∧ HX H1 H' ∧ TwoB H1.length H' rv wv x.r x.w ∧ x.r.length + x.w.length ≤ j) ∧ j + 1 ≤ Ws.length) ⟨⟨by simp, by simp, by simp, by simp, by simp⟩, ⟨_, .snil, .snil, rfl, by simp [List.drop_take], rfl, .refl, ⟨by simpa [List.drop_take] using .nil, by simpa [List.drop_take] using .nil, fun k o z y o' z' y' h => by cases h⟩, by simp [List.drop_take]⟩, by omega⟩ ?_
  rintro j hj fr L H2 ⟨⟨f0, f2, f4, f5, f7⟩, ⟨x, rv, wv, hx, f6, rfl, x2, hT, hxl⟩, hle⟩
  have l2 := x2.len
  by_cases hp : j + 1 < Ws.length
  · have hp' : ((j : Int) + 1 < (Ws.length : Int)) = True := eq_true (by omega)
    obtain ⟨W, hW⟩ : ∃ W, W = Ws.getD (j + 1) [] := ⟨_, rfl⟩
    have hWat : Ws[j + 1]? = some W := by rw [hW, List.getD_eq_getElem?_getD, List.getElem?_eq_getElem hp]; rfl
    have hWm : W ∈ Ws := List.mem_of_getElem? hWat
    have hWl := wm W hWm
    have hnx : ((Ws.take (j + 1 + 1)).drop 1).foldl RdH.stepR ⟨false, [], []⟩ = x.stepR W := by
      rw [List.take_add_one, hWat, List.drop_append_of_le_length (by simp; omega), List.foldl_append, ← hx]; rfl
    have had : viaddrS 1 u (.int .i64 ((j : Int) + 1)) = some (ept 1 u (j + 1)) := by
      have := hul.addr (i := ((j : Int) + 1)) ⟨by omega, by rw [hlen]; omega⟩
      simpa using this
    have hld : ∀ {H' : Hp} {L : Lo}, HX H1 H' → vload none L H' (ept 1 u (j + 1)) = some (.str (bA W)) := by
      intro H' L hx'
      have h1 := (hul.mono hx').load1 (i := j + 1) (by rw [hlen]; exact hp) (L := L)
      rw [h1]
      have : (Ws.map bA).getD (j + 1) default = bA W := by
        rw [List.getD_eq_getElem?_getD, List.getElem?_map, hWat]; rfl
      rw [this]; rfl
    have hsb : (bA W).size ≤ 100000 := by rw [bA_size]; omega
    have hlW : (bA W).data.toList = W := list_bA
    by_cases hk : x.k = true
    · have hst : x.stepR W = { x with w := x.w ++ [numR W] } := by
        unfold RdH.stepR; rw [if_neg (fun h => by rw [hk] at h; exact absurd h.2 (by decide)), if_pos hk]
      have hap := hT.b.append (lim := lim) (x := numR W) ⟨by omega, by omega⟩
      obtain ⟨c1, c2⟩ := apH_other (v := wv) (new := [V.int .i64 (numR W)]) (all := ints (x.w ++ [numR W])) (m := x.w.length + 1) hT.a hT.ap.symm
      have c3 := hT.b.ap l2 (x := numR W) (new := [V.int .i64 (numR W)])
      have c4 := hT.b.apX x2 (Nat.le_refl _) (new := [V.int .i64 (numR W)]) (all := ints (x.w ++ [numR W]))
      rw [hnx, hst]
      have hveq := veq_wrong (W := W)
      generalize decide (W = wrongL) = bb at hveq
      cases bb
      all_goals
        simp (disch := omega) [f0, f2, f4, f5, f6, f7, hul.len, hp', had, hld x2, hveq, hk, rd2b]
        refine number_r hsb ?_
        rw [hlW]
        simp (disch := omega) [f0, f2, f4, f5, f6, f7, rd2b, splice, hap, wrap_i64]
        exact ⟨by omega, ⟨hk, _, _, ⟨rfl, rfl⟩, c4, ⟨c1, c3, c2.symm⟩, by omega⟩, by omega⟩
    · have hkf : x.k = false := by simpa using hk
      have hveq := veq_wrong (W := W)
      by_cases hw : W = wrongL
      · have hst : x.stepR W = { x with k := true } := by
          unfold RdH.stepR; rw [if_pos ⟨hw, hkf⟩]
        rw [decide_eq_true hw] at hveq
        rw [hnx, hst]
        simp (disch := omega) [f0, f2, f4, f5, f6, f7, hul.len, hp', had, hld x2, hveq, hkf, rd2b, wrap_i64]
        exact ⟨by omega, ⟨rv, wv, ⟨rfl, rfl⟩, x2, hT, by omega⟩, by omega⟩
      · have hst : x.stepR W = { x with r := x.r ++ [numR W] } := by
          unfold RdH.stepR; rw [if_neg (fun h => hw h.1), if_neg hk]
        rw [decide_eq_false hw] at hveq
        have hap := hT.a.append (lim := lim) (x := numR W) ⟨by omega, by omega⟩
        obtain ⟨c1, c2⟩ := apH_other (v := rv) (new := [V.int .i64 (numR W)]) (all := ints (x.r ++ [numR W])) (m := x.r.length + 1) hT.b hT.ap
        have c3 := hT.a.ap l2 (x := numR W) (new := [V.int .i64 (numR W)])
        have c4 := hT.a.apX x2 (Nat.le_refl _) (new := [V.int .i64 (numR W)]) (all := ints (x.r ++ [numR W]))
        rw [hnx, hst]
        simp (disch := omega) [f0, f2, f4, f5, f6, f7, hul.len, hp', had, hld x2, hveq, hkf, rd2a]
        refine number_r hsb ?_
        rw [hlW]
        simp (disch := omega) [f0, f2, f4, f5, f6, f7, rd2a, splice, hap, wrap_i64]
        exact ⟨by omega, ⟨hkf, _, _, ⟨rfl, rfl⟩, c4, ⟨c3, c1, c2⟩, by omega⟩, by omega⟩
  · have hp' : ((j : Int) + 1 < (Ws.length : Int)) = False := eq_false (by omega)
    have hjn : j + 1 = Ws.length := by omega
    rw [hjn, List.take_of_length_le (Nat.le_refl _)] at hx
    have hxr : x = rdR (wds 32 s.data.toList) := by rw [hx, ← hWs]; rfl
    rw [← hxr] at hK
    obtain ⟨ta, tb, tap⟩ := hT
    have hbun : BunV H2 x.r x.w (.agg [rv, wv]) := .mk ta.sl tb.sl
    have hlm : lim ≤ H2.length := by omega
    simp (disch := omega) [f0, f2, f4, f5, f6, f7, hul.len, hp', ta.sl.stor, tb.sl.stor, ta.sl.one, tb.sl.one]
    refine ref01_Trim hbun hlm fun H3 v x3 o3 => ?_
    have l3 := x3.len
    obtain ⟨o1, o2⟩ := o3
    rename_i v1 v2
    have hbun3 := hbun.mono x3
    simp (disch := omega) [f0, f2, f4, o1.sl.stor, o2.sl.stor, o1.sl.one, o2.sl.one, ta.sl.stor, tb.sl.stor, ta.sl.one, tb.sl.one, splice]
    refine ref01_Format hbun3 (by omega) fun H4 x4 => ?_
    have l4 := x4.len
    have xx : HX H H4 := ((x1.trans x2).trans x3).trans x4
    by_cases he : errOf x.r x.w = 0
    case neg =>
      have e0 : (trimP x.r x.w).2.2 = errOf x.r x.w := by rw [trim_err he]
      have ep : prsP x s.data.toList = ([], [], 3) := by
        unfold prsP; rw [if_neg (by omega), if_neg (fun h => he h.1)]
      rw [ep] at hK
      simp [e0, he, f0, f2, splice]
      exact hK H4 _ xx .zero
    have et : txtP x.r x.w = bA (fmtB x.r x.w) := by unfold txtP; rw [if_pos he]
    rw [trim_ok he] at o1 o2 ⊢
    rw [et, he]
    have vn := vneq_bA (W := fmtB x.r x.w) (s := s)
    by_cases ha : fmtB x.r x.w = s.data.toList
    · have ep : prsP x s.data.toList = (rS x.r x.w, wS x.r x.w, 0) := by
        unfold prsP; rw [if_neg (by omega), if_pos ⟨he, ha⟩]
      rw [ep] at hK
      rw [decide_eq_true ha] at vn
      simp [f0, f2, vn, splice]
      exact hK H4 _ xx (.mk ((o1.mono x4).le (by omega)) ((o2.mono x4).le (by omega)))
    · have ep : prsP x s.data.toList = ([], [], 3) := by
        unfold prsP; rw [if_neg (by omega), if_neg (fun h => ha h.2)]
      rw [ep] at hK
      rw [decide_eq_false ha] at vn
      simp [f0, f2, vn, splice]
      exact hK H4 _ xx .zero
end Go.Proofs.YtgjlhdggllakbaaDoor.Vm
