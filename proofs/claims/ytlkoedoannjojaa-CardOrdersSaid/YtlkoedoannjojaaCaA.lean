/- Package card over the machine: entries, right texts. -/
import Derived.Test.YtlkoedoannjojaaVmTab
import Derived.Test.YtlkoedoannjojaaVmRec
import Derived.Test.YtlkoedoannjojaaVmMove
namespace Go.Proofs.Ytlkoedoannjojaa.Vm
open Go
set_option maxRecDepth 100000
set_option linter.unusedSimpArgs false
set_option linter.unusedVariables false
attribute [-simp] List.getD_eq_getElem?_getD

theorem rd3_0 {a b c : V} : rd none [a, b, c] 0 = some a := Eq.trans rfl rfl
theorem rd3_1 {a b c : V} : rd none [a, b, c] 1 = some b := Eq.trans rfl rfl
theorem rd3_2 {a b c : V} : rd none [a, b, c] 2 = some c := Eq.trans rfl rfl
theorem rd3_w {a b c : V} : rd (some 3) [a, b, c] 0 = some (.agg [a, b, c]) := Eq.trans rfl rfl
theorem rd6_0 {a b c d e f : V} : rd none [a, b, c, d, e, f] 0 = some a := Eq.trans rfl rfl
theorem rd6_1 {a b c d e f : V} : rd none [a, b, c, d, e, f] 1 = some b := Eq.trans rfl rfl
theorem rd6_2 {a b c d e f : V} : rd none [a, b, c, d, e, f] 2 = some c := Eq.trans rfl rfl
theorem rd6_3 {a b c d e f : V} : rd none [a, b, c, d, e, f] 3 = some d := Eq.trans rfl rfl
theorem rd6_4 {a b c d e f : V} : rd none [a, b, c, d, e, f] 4 = some e := Eq.trans rfl rfl
theorem rd6_5 {a b c d e f : V} : rd none [a, b, c, d, e, f] 5 = some f := Eq.trans rfl rfl
theorem rd6_w {a b c d e f : V} : rd (some 6) [a, b, c, d, e, f] 0 = some (.agg [a, b, c, d, e, f]) := Eq.trans rfl rfl
theorem rd6_s {a b c d e f : V} : rd (some 3) [a, b, c, d, e, f] 2 = some (.agg [c, d, e]) := Eq.trans rfl rfl
theorem splice33 {a b c x y z : V} : splice [a, b, c] 0 [x, y, z] = [x, y, z] := by simp [splice]
theorem splice66 {a b c d e f x y z u v w : V} : splice [a, b, c, d, e, f] 0 [x, y, z, u, v, w] = [x, y, z, u, v, w] := by simp [splice]
theorem iz3 : ints (zs 3) = [.int .i64 0, .int .i64 0, .int .i64 0] := Eq.trans rfl rfl
attribute [simp] rd3_0 rd3_1 rd3_2 rd3_w rd6_0 rd6_1 rd6_2 rd6_3 rd6_4 rd6_5 rd6_w rd6_s splice33 splice66
theorem vwant_dv {b : Bool} {l : List V} : vwant b (.tup l) = false := Eq.trans rfl rfl
attribute [simp] vwant_dv
theorem vlenT_str {s : ByteArray} : vlenT (.str s) = some (.int .i64 s.size) := Eq.trans rfl rfl
attribute [simp] vlenT_str
theorem lastO {α : Type} {X : List α} {c : α} : (X ++ [c])[X.length]? = some c := by simp
theorem lastS {α : Type} {X : List α} {c d : α} : (X ++ [c]).set X.length d = X ++ [d] := by simp
theorem keepL {L : Lo} {q : Nat} {c : List V} (h : L[q]? = some c) : ∀ d, (L ++ [d])[q]? = some c := fun d => by
  rw [List.getElem?_append_left (List.getElem?_eq_some_iff.1 h).1]; exact h
theorem getD_take {α : Type} [Inhabited α] {l : List α} {n k : Nat} (h : k < n) : (l.take n).getD k default = l.getD k default := by
  simp only [List.getD_eq_getElem?_getD, List.getElem?_take_of_lt h]

def allN (f : Nat → Bool) : Nat → Bool
  | 0 => true
  | n + 1 => allN f n && f n
theorem allN_at {f : Nat → Bool} : ∀ {n : Nat}, allN f n = true → ∀ {i : Nat}, i < n → f i = true
  | n + 1, h, i, hi => by
    simp only [allN, Bool.and_eq_true] at h
    by_cases e : i = n
    · subst e; exact h.2
    · exact allN_at h.1 (by omega)
theorem allN_of {f : Nat → Bool} : ∀ {n : Nat}, (∀ i, i < n → f i = true) → allN f n = true
  | 0, _ => rfl
  | n + 1, h => by simp only [allN, h n (by omega), Bool.and_true]; exact allN_of fun i hi => h i (by omega)
theorem allN_not {f : Nat → Bool} {n i : Nat} (hi : i < n) (hf : f i = false) : allN f n = false := by
  cases h : allN f n with
  | false => rfl
  | true => rw [allN_at h hi] at hf; cases hf
theorem allN_and {f g : Nat → Bool} : ∀ {n : Nat}, allN (fun i => f i && g i) n = (allN f n && allN g n)
  | 0 => rfl
  | n + 1 => by simp only [allN, allN_and]; cases allN f n <;> cases allN g n <;> cases f n <;> cases g n <;> rfl

/-- an entry: place, number, what it has seen, text -/
structure En where
  p : Int
  s : Int
  a : Int
  b : Int
  c : Int
  t : ByteArray
def En.zero : En := ⟨0, 0, 0, 0, 0, ⟨#[]⟩⟩
instance : Inhabited En := ⟨En.zero⟩
def En.cells (e : En) : List V := [.int .i64 e.p, .int .i64 e.s, .int .i64 e.a, .int .i64 e.b, .int .i64 e.c, .str e.t]
def enC : Cod En 6 := ⟨En.cells, fun _ => rfl⟩
def En.in64 (e : En) : Prop := I64 e.p ∧ I64 e.s ∧ I64 e.a ∧ I64 e.b ∧ I64 e.c ∧ e.t.size ≤ maxLen
/-- entries, as they are given -/
def EnsV (H : Hp) (v : V) (l : List En) : Prop := LstV enC H v l ∧ ∀ i, i < l.length → (l.getD i default).in64
theorem ens_of {H : Hp} {v : V} {d : CD} (h : RepT H (.sl [cInt, cInt, cInt, cInt, cInt, .str]) v d) : ∃ l : List En, EnsV H v l ∧ l.length ≤ maxLen := by
  obtain ⟨l1, h1, hm, hp⟩ := lst_of (c := enC) rfl (fun z => z.in64) (fun vs ds h => by
    obtain ⟨v0, u0, _, _, rfl, _, p0, q0⟩ := reps_cons h
    obtain ⟨v1, u1, _, _, rfl, _, p1, q1⟩ := reps_cons q0
    obtain ⟨v2, u2, _, _, rfl, _, p2, q2⟩ := reps_cons q1
    obtain ⟨v3, u3, _, _, rfl, _, p3, q3⟩ := reps_cons q2
    obtain ⟨v4, u4, _, _, rfl, _, p4, q4⟩ := reps_cons q3
    obtain ⟨v5, u5, _, _, rfl, _, p5, q5⟩ := reps_cons q4
    have e := reps_nil q5
    subst e
    obtain ⟨n0, rfl, c0⟩ := int_of p0
    obtain ⟨n1, rfl, c1⟩ := int_of p1
    obtain ⟨n2, rfl, c2⟩ := int_of p2
    obtain ⟨n3, rfl, c3⟩ := int_of p3
    obtain ⟨n4, rfl, c4⟩ := int_of p4
    obtain ⟨n5, rfl, c5⟩ := str_of p5
    exact ⟨⟨n0, n1, n2, n3, n4, n5⟩, rfl, c0, c1, c2, c3, c4, c5⟩) h
  refine ⟨l1, ⟨h1, fun i hi => hp _ ?_⟩, hm⟩
  rw [List.getD_eq_getElem?_getD, List.getElem?_eq_getElem hi]
  exact List.getElem_mem hi
theorem EnsV.mono {H H' : Hp} {v : V} {l : List En} (hx : HX H H') (h : EnsV H v l) : EnsV H' v l := ⟨h.1.mono hx, h.2⟩

/-- a byte of a text -/
def chT (s : ByteArray) (i : Nat) : Nat := (s.data.getD i 0).toNat
def byB (s : ByteArray) (i : Nat) : Bool := decide (32 ≤ chT s i ∧ chT s i ≤ 126)
def rightB (s : ByteArray) : Bool := decide (1 ≤ s.size ∧ s.size ≤ 60) && !decide (chT s 0 = 32) && !decide (chT s (s.size - 1) = 32) && allN (byB s) s.size
theorem chT_lt {s : ByteArray} {i : Nat} : chT s i < 256 := UInt8.toNat_lt _
theorem idxT {s : ByteArray} {i : Nat} (h : i < s.size) : vidxT (.str s) (.int .i64 (i : Int)) = some (.int .u8 (chT s i : Nat)) := by
  simp only [vidxT, vint]; rw [if_pos (by omega)]; rfl
/-- the row of a text's bytes -/
def byC : Cod Nat 1 := ⟨fun n => [.int .u8 n], fun _ => rfl⟩
def bytesN (s : ByteArray) : List Nat := s.data.toList.map fun b => b.toNat
theorem bytesN_len {s : ByteArray} : (bytesN s).length = s.size := by simp [bytesN]
theorem bytesN_get {s : ByteArray} {i : Nat} (h : i < s.size) : (bytesN s).getD i default = chT s i := by
  have h' : i < s.data.size := h
  have e0 : s.data[i]? = some s.data[i] := Array.getElem?_eq_getElem h'
  simp [bytesN, chT, List.getD_eq_getElem?_getD, e0, Array.getD_eq_getD_getElem?]
theorem bytes_all {s : ByteArray} : vbytesL s = byC.all (bytesN s) := by
  simp only [vbytesL, Cod.all, bytesN, List.map_map]
  induction s.data.toList with
  | nil => rfl
  | cons x l ih => simp only [List.map_cons, List.flatten_cons, ← ih]; rfl
theorem bytesV {H : Hp} {s : ByteArray} : LstV byC (H ++ [.row (vbytesL s) false]) (.sl H.length 0 s.size 1) (bytesN s) := by
  have h := LstV.sl (c := byC) (H := H ++ [.row (vbytesL s) false]) (b := H.length) (off := 0) (cs := vbytesL s) (own := false) (l := bytesN s) List.getElem?_concat_length (by simp [vbytesL, bytesN_len]) (by rw [bytes_all]; rw [List.drop_zero, List.take_of_length_le (by rw [Cod.all_len]; exact Nat.le_refl _)])
  rwa [bytesN_len] at h

def tri (a b c : Int) (q : Nat) : Int := if q = 0 then a else if q = 1 then b else c
def En.at (e : En) (q : Nat) : Int := tri e.a e.b e.c q
theorem tri_rd {a b c : Int} {q : Nat} (hq : q < 3) : rd none [.int .i64 a, .int .i64 b, .int .i64 c] q = some (.int .i64 (tri a b c q)) := by
  match q, hq with
  | 0, _ => rfl
  | 1, _ => rfl
  | 2, _ => rfl
theorem en_rd {p s a b c : Int} {t : ByteArray} {q : Nat} (hq : q < 3) : rd none [.int .i64 p, .int .i64 s, .int .i64 a, .int .i64 b, .int .i64 c, .str t] (2 + q) = some (.int .i64 (tri a b c q)) := by
  match q, hq with
  | 0, _ => rfl
  | 1, _ => rfl
  | 2, _ => rfl
/-- whether an entry has seen another one -/
def seesB (e f : En) : Bool := decide (f.s ≤ e.at f.p.toNat)
/-- how many entries of a place there are ahead -/
def cntE (c : List En) (q : Int) : Nat → Nat
  | 0 => 0
  | n + 1 => cntE c q n + if (c.getD n default).p = q then 1 else 0
theorem cntE_le {c : List En} {q : Int} : ∀ {n : Nat}, cntE c q n ≤ n
  | 0 => Nat.le_refl _
  | n + 1 => by have := @cntE_le c q n; simp only [cntE]; split <;> omega
theorem cntE_mono {c : List En} {q : Int} : ∀ {n m : Nat}, n ≤ m → cntE c q n ≤ cntE c q m
  | n, 0, h => by have : n = 0 := by omega
                  subst this; exact Nat.le_refl _
  | n, m + 1, h => by
    by_cases e : n = m + 1
    · subst e; exact Nat.le_refl _
    · have := @cntE_mono c q n m (by omega); simp only [cntE]; omega
def okE1 (c : List En) (i : Nat) : Bool := decide (0 ≤ (c.getD i default).p ∧ (c.getD i default).p ≤ 2) && rightB (c.getD i default).t
def prevP (c : List En) (i : Nat) : Int := if i = 0 then 0 else (c.getD (i - 1) default).p
def okE2 (c : List En) (i : Nat) : Bool := decide ((c.getD i default).s = cntE c (c.getD i default).p i + 1 ∧ prevP c i ≤ (c.getD i default).p)
def lessB (e f : En) : Bool := decide (e.a < f.a ∨ e.b < f.b ∨ e.c < f.c)
def selfB (e : En) : Bool := decide (e.at e.p.toNat = e.s - 1)
def rangB (c : List En) (e : En) : Bool := decide (0 ≤ e.a ∧ e.a ≤ cntE c 0 c.length) && decide (0 ≤ e.b ∧ e.b ≤ cntE c 1 c.length) && decide (0 ≤ e.c ∧ e.c ≤ cntE c 2 c.length)
def trB (c : List En) (e : En) (j : Nat) : Bool := !(seesB e (c.getD j default) && lessB e (c.getD j default))
def seenR (c : List En) (e : En) : Bool := selfB e && rangB c e && allN (trB c e) c.length
def valE (c : List En) : Int :=
  if 60 < c.length then 4 else if allN (fun i => okE1 c i && okE2 c i) c.length = false then 1 else if allN (fun i => seenR c (c.getD i default)) c.length = false then 11 else 0
theorem valE_small {c : List En} (h : valE c = 0) : c.length ≤ 60 := by
  unfold valE at h; split at h
  · cases h
  · omega
theorem valE_ok {c : List En} (h : valE c = 0) {i : Nat} (hi : i < c.length) : okE1 c i = true ∧ okE2 c i = true ∧ seenR c (c.getD i default) = true := by
  unfold valE at h
  split at h
  · cases h
  split at h
  · cases h
  rename_i h1
  split at h
  · cases h
  rename_i h2
  simp only [Bool.not_eq_false] at h1 h2
  have a := allN_at h1 hi
  simp only [Bool.and_eq_true] at a
  exact ⟨a.1, a.2, allN_at h2 hi⟩
/-- the counts of a list -/
def triC (c : List En) (n q : Nat) : Int := tri (cntE c 0 n) (cntE c 1 n) (cntE c 2 n) q
theorem triC_eq {c : List En} {n : Nat} {q : Int} (h : 0 ≤ q ∧ q ≤ 2) : tri (cntE c 0 n) (cntE c 1 n) (cntE c 2 n) q.toNat = cntE c q n := by
  rcases (show q = 0 ∨ q = 1 ∨ q = 2 by omega) with rfl | rfl | rfl <;> rfl
def rq (c : List En) (e : En) (q : Nat) : Bool := decide (0 ≤ e.at q ∧ e.at q ≤ triC c c.length q)
theorem rangB_eq {c : List En} {e : En} : rangB c e = allN (rq c e) 3 := by
  simp [rangB, allN, rq, En.at, triC, tri]
def sq (e f : En) (q : Nat) : Bool := !(seesB e f && decide (e.at q < f.at q))
theorem sq_eq {e f : En} : (!(seesB e f && lessB e f)) = allN (sq e f) 3 := by
  simp only [allN, sq, lessB, En.at, tri, Bool.true_and, if_true, Nat.one_ne_zero, if_false, show ¬ (2 : Nat) = 0 by omega, show ¬ (2 : Nat) = 1 by omega]
  cases seesB e f <;> simp [Bool.decide_or]
  cases decide (e.a < f.a) <;> cases decide (e.b < f.b) <;> cases decide (e.c < f.c) <;> rfl
/-- what is wrong with what an entry has seen, in the order of places -/
def wq (c : List En) (e : En) (q : Nat) : Bool := !((decide ((q : Int) = e.p) && !decide (e.at q = e.s - 1)) || !rq c e q)
theorem wq_eq {c : List En} {e : En} (h : 0 ≤ e.p ∧ e.p ≤ 2) : allN (wq c e) 3 = (selfB e && rangB c e) := by
  have hh : selfB e = (!(decide ((0 : Int) = e.p) && !decide (e.at 0 = e.s - 1)) && !(decide ((1 : Int) = e.p) && !decide (e.at 1 = e.s - 1)) && !(decide ((2 : Int) = e.p) && !decide (e.at 2 = e.s - 1))) := by
    unfold selfB
    rcases (show e.p = 0 ∨ e.p = 1 ∨ e.p = 2 by omega) with hp | hp | hp <;> simp [hp]
  rw [hh, rangB_eq]
  simp only [allN, wq, Bool.true_and]
  have e0 : ((0 : Nat) : Int) = 0 := rfl
  have e1 : ((1 : Nat) : Int) = 1 := rfl
  have e2 : ((2 : Nat) : Int) = 2 := rfl
  rw [e0, e1, e2]
  generalize (decide ((0 : Int) = e.p) && !decide (e.at 0 = e.s - 1)) = x0
  generalize (decide ((1 : Int) = e.p) && !decide (e.at 1 = e.s - 1)) = x1
  generalize (decide ((2 : Int) = e.p) && !decide (e.at 2 = e.s - 1)) = x2
  generalize rq c e 0 = y0
  generalize rq c e 1 = y1
  generalize rq c e 2 = y2
  cases x0 <;> cases x1 <;> cases x2 <;> cases y0 <;> cases y1 <;> cases y2 <;> rfl
end Go.Proofs.Ytlkoedoannjojaa.Vm
