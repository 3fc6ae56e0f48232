/- Package hair over the machine: opening a bundle, counting. -/
import Derived.Test.YtiilicnmcpjmkaaGreatDoorVmTab
import Derived.Test.YtiilicnmcpjmkaaGreatDoorVmRec
import Derived.Lib.SplitLaws
import Derived.Lib.AtoiTie
import Derived.Lib.AtoiAllCases
import Derived.Lib.ItoaMem
import Derived.Lib.IndexBytes
import Derived.Lib.IndexMore
import Derived.KernelRfl
import Derived.Test.YtiilicnmcpjmkaaGreatDoorVmMove
namespace Go.Proofs.YtiilicnmcpjmkaaGreatDoor.Vm
open Go
set_option maxRecDepth 100000
set_option linter.unusedSimpArgs false
attribute [-simp] List.getD_eq_getElem?_getD
def restN (xs:List Int):Nat→Int
  | 0=>0
  | k+1=>(xs.getD (23-k) 0+xs.getD (47-k) 0)+restN xs k
def Small (xs:List Int):Prop:=∀x∈xs,-1099511627776≤x∧x≤1099511627776
theorem Small.at {xs:List Int}(h:Small xs)(i:Nat) : -1099511627776≤xs.getD i 0∧xs.getD i 0≤1099511627776:=by
  by_cases hi:i<xs.length
  · rw [List.getD_eq_getElem?_getD,List.getElem?_eq_getElem hi];exact h _ (List.getElem_mem hi)
  · rw [List.getD_eq_getElem?_getD,List.getElem?_eq_none (by omega)];simp
def aboveS (xs:List Int)(n:Int):Int:=restN xs (24-(max n 1-1).toNat)
theorem SlV.at {H:Hp} {v:V} {l:List Int} (h:SlV H v l) {i:Nat} (hi:i<l.length):∃b o,viaddrS 1 v (.int .i64 i)=some (.ptr b o)∧∀L,vload none L H (.ptr b o)=some (.int .i64 (l.getD i 0)):=by
  cases h with
  | nil=>simp at hi
  | empty=>simp at hi
  | sl h1 h2 h3 =>
    rename_i b off cs own
    refine ⟨b,off+i,?_,fun L => ?_⟩
    · rw [viaddrS_in (by omega)];simp
    · rw [vload_ptr h1]
      have hlt:off+i<cs.length:=by omega
      simp only [rd,hlt,if_true]
      have e:(cs.drop off)[i]? = (ints l)[i]? := by
        rw [←h3,List.getElem?_take_of_lt hi]
      rw [List.getElem?_drop,ints_get?,List.getElem?_eq_getElem hi] at e
      simp [List.getD_eq_getElem?_getD,e,hi]
def anyNeg (l:List Int):Bool:=l.any (·<0)
def anyBig (l:List Int):Bool:=l.any (1000000<·)
def errOf (r w:List Int):Int :=
  if 24<r.length∨24<w.length then 4 else if anyNeg r∨anyNeg w then 1 else if anyBig r∨anyBig w then 4 else 0
inductive BunV (H:Hp)(r w:List Int):V→Prop
  | mk {rv wv:V}:SlV H rv r→SlV H wv w→BunV H r w (.agg [rv,wv])
theorem BunV.mono {H H':Hp}(hx:HX H H'){v:V}{r w:List Int}(h:BunV H r w v):BunV H' r w v:=by
  cases h with
  | mk h1 h2=>exact .mk (h1.mono hx) (h2.mono hx)
def pad (l:List Int):List Int:=l++List.replicate (24-l.length) 0
def sheafOf (r w:List Int):List Int:=pad r++pad w
def opened (r w:List Int):List Int:=if errOf r w=0 then sheafOf r w else zs 48
def inRest (xs:List Int):Nat→Int
  | 0=>0
  | k+1=>(24-k)*(xs.getD (23-k) 0+xs.getD (47-k) 0)+inRest xs k
def inchesS (xs:List Int):Int:=inRest xs 24
section
variable {lim:Nat}{H:Hp}{bv:V}{r w:List Int}{K:V→Hp→Prop}
theorem BunV.stor (h:BunV H r w bv):stor bv=true∧(cellsV bv).length=2:=by
  cases h with
  | mk h1 h2=>exact ⟨rfl,rfl⟩
theorem BunV.load (h:BunV H r w bv):rd (some 2) (cellsV bv) 0=some bv:=by
  cases h with
  | mk h1 h2=>exact rd_two
end
end Go.Proofs.YtiilicnmcpjmkaaGreatDoor.Vm
namespace Go.Proofs.YtiilicnmcpjmkaaGreatDoor.Vm
open Go
set_option maxRecDepth 100000
set_option linter.unusedSimpArgs false
attribute [-simp] List.getD_eq_getElem?_getD
structure RefOf (xs ys:List Int):Prop where
  len:ys.length=50
  right:∀i,i<24→ys.getD (i+1) 0=xs.getD i 0
  wrong:∀i,i<24→ys.getD (26+i) 0=xs.getD (24+i) 0
  zero:ys.getD 0 0=0∧ys.getD 25 0=0
theorem RefOf.at {xs ys:List Int}(h:RefOf xs ys){m:Nat}(h1:1≤m)(h2:m≤24):ys.getD m 0=xs.getD (m-1) 0∧ys.getD (25+m) 0=xs.getD (24+(m-1)) 0:=by
  obtain ⟨i,rfl⟩:∃i,m=i+1:=⟨m-1,by omega⟩
  refine ⟨h.right i (by omega),?_⟩
  rw [show 25+(i+1)=26+i by omega]
  exact h.wrong i (by omega)
section
variable {lim:Nat}{H:Hp}{bv:V}{r w:List Int}{K:V→Hp→Prop}
end
section
variable {lim:Nat}{H:Hp}{bv:V}{r w:List Int}{K:V→Hp→Prop}
end
end Go.Proofs.YtiilicnmcpjmkaaGreatDoor.Vm
namespace Go.Proofs.YtiilicnmcpjmkaaGreatDoor.Vm
open Go
set_option maxRecDepth 100000
set_option linter.unusedSimpArgs false
set_option linter.unusedVariables false
attribute [-simp] List.getD_eq_getElem?_getD
inductive OwnB (n:Nat)(H:Hp)(r w:List Int):V→Prop
  | mk {rv wv:V}:OwnV n H rv r→OwnV n H wv w→OwnB n H r w (.agg [rv,wv])
theorem OwnB.mono {n:Nat}{H H':Hp}(hx:HX H H'){v:V}{r w:List Int}(h:OwnB n H r w v):OwnB n H' r w v:=by
  cases h with
  | mk h1 h2=>exact .mk (h1.mono hx) (h2.mono hx)
theorem OwnB.le {n m:Nat}(hnm:n≤m){H:Hp}{v:V}{r w:List Int}(h:OwnB m H r w v):OwnB n H r w v:=by
  cases h with
  | mk h1 h2=>exact .mk (h1.le hnm) (h2.le hnm)
theorem OwnB.zero {n:Nat}{H:Hp}:OwnB n H [] [] (.agg [.snil,.snil]):=.mk .nil .nil
theorem OwnB.stor {n:Nat}{H:Hp}{v:V}{r w:List Int}(h:OwnB n H r w v):stor v=true∧(cellsV v).length=2:=by
  cases h;exact ⟨rfl,rfl⟩
abbrev HF:=Nat→Nat→Int
def mk48 (f:HF):List Int:=(List.range 48).map fun k=>f (k / 24) (k % 24+1)
def mk50 (f:HF):List Int:=(List.range 50).map fun k=>if k % 25=0 then 0 else f (k / 25) (k % 25)
def fset (f:HF)(w n:Nat)(x:Int):HF:=fun w' n'=>if w'=w∧n'=n then x else f w' n'
@[simp] theorem mk48_len {f:HF}:(mk48 f).length=48:=by simp [mk48]
@[simp] theorem mk50_len {f:HF}:(mk50 f).length=50:=by simp [mk50]
def op (r w:List Int):HF:=fun way n=>if errOf r w=0 then (if way=0 then r else w).getD (n-1) 0 else 0
def lastN (f:Nat→Int):Nat→Nat
  | 0=>0
  | k+1=>if f (k+1)=0 then lastN f k else k+1
def listN (f:Nat→Int)(n:Nat):List Int:=(List.range n).map fun i=>f (i+1)
@[simp] theorem listN_length (f:Nat→Int) (n:Nat):(listN f n).length=n:=by simp [listN]
def sideF (f:HF)(way:Nat):List Int:=listN (f way) (lastN (f way) 24)
end Go.Proofs.YtiilicnmcpjmkaaGreatDoor.Vm
namespace Go.Proofs.YtiilicnmcpjmkaaGreatDoor.Vm
open Go
set_option maxRecDepth 100000
set_option linter.unusedSimpArgs false
set_option linter.unusedVariables false
attribute [-simp] List.getD_eq_getElem?_getD
def bigN (f:HF):Nat→Bool
  | 0=>false
  | k+1=>bigN f k||(decide (1000000<f 0 (k+1))||decide (1000000<f 1 (k+1)))
def outR (f:HF):List Int:=if bigN f 24 then [] else sideF f 0
def outW (f:HF):List Int:=if bigN f 24 then [] else sideF f 1
def outE (f:HF):Int:=if bigN f 24 then 4 else 0
def abv (f:HF):Nat→Int
  | 0=>0
  | m+1=>abv f m+(f 0 (24-m)+f 1 (24-m))
def drw (f:HF)(n:Int):HF:=fun w L =>
  if w=0 then min (max 0 (n-abv f (24-L))) (f 0 L) else min (max 0 (n-abv f (24-L))-min (max 0 (n-abv f (24-L))) (f 0 L)) (f w L)
def rem2 (f:HF)(n:Int)(i:Nat):Int:=if i % 2=0 then max 0 (n-abv f (i / 2)) else max 0 (n-abv f (i / 2))-min (max 0 (n-abv f (i / 2))) (f 0 (24-i / 2))
end Go.Proofs.YtiilicnmcpjmkaaGreatDoor.Vm
namespace Go.Proofs.YtiilicnmcpjmkaaGreatDoor.Vm
open Go
set_option maxRecDepth 100000
set_option linter.unusedSimpArgs false
set_option linter.unusedVariables false
attribute [-simp] List.getD_eq_getElem?_getD
attribute [simp] splice11 splice22 splice20 splice21
theorem splice_zs48 {f:HF}:splice (ints (zs 48)) 0 (ints (mk48 f))=ints (mk48 f):=splice_ints_all (by simp)
theorem splice_zs50 {f:HF}:splice (ints (zs 50)) 0 (ints (mk50 f))=ints (mk50 f):=splice_ints_all (by simp)
theorem splice_48 {f g:HF}:splice (ints (mk48 g)) 0 (ints (mk48 f))=ints (mk48 f):=splice_ints_all (by simp)
theorem splice_50 {f g:HF}:splice (ints (mk50 g)) 0 (ints (mk50 f))=ints (mk50 f):=splice_ints_all (by simp)
attribute [simp] splice_zs48 splice_zs50 splice_48 splice_50
theorem rd48_all {f:HF}:rd (some 48) (ints (mk48 f)) 0=some (.agg (ints (mk48 f))):=rd_ints_all (by simp)
theorem rd50_all {f:HF}:rd (some 50) (ints (mk50 f)) 0=some (.agg (ints (mk50 f))):=rd_ints_all (by simp)
attribute [simp] rd48_all rd50_all
def er2 (r w r' w':List Int):Int:=if errOf r w=0 then errOf r' w' else errOf r w
abbrev Out:=List Int×List Int×Int
def outP (f:HF):Out:=(outR f,outW f,outE f)
def errP (e:Int):Out:=([],[],e)
def addF (f g:HF):HF:=fun w n=>f w n+g w n
def trimP (r w:List Int):Out:=if errOf r w=0 then outP (op r w) else errP (errOf r w)
def mixP (r w r' w':List Int):Out:=if er2 r w r' w'=0 then outP (addF (op r w) (op r' w')) else errP (er2 r w r' w')
def turnF (f:HF):HF:=fun w n=>if w=0 then f 0 n+f 1 n else 0
def turnP (r w:List Int):Out:=if errOf r w=0 then outP (turnF (op r w)) else errP (errOf r w)
section
variable {lim:Nat}{H:Hp}{av bv:V}{r w r' w':List Int}{K:V→Hp→Prop}
theorem BunV.right {rv:V}{r:List Int}(h:SlV H rv r):BunV H r [] (.agg [rv,.snil]):=.mk h .nil
abbrev Out2:=List Int×List Int×List Int×List Int×Int
def cntF (f:HF):Int:=abv f 24
def part2 (f g:HF):Out2:=(sideF f 0,sideF f 1,sideF g 0,sideF g 1,0)
def errQ (e:Int):Out2:=([],[],[],[],e)
def subF (f g:HF):HF:=fun w n=>f w n-g w n
def drawP (r w:List Int)(n:Int):Out2:=if errOf r w=0 then if n<0 then errQ 1 else if cntF (op r w)<n then errQ 6 else part2 (drw (op r w) n) (subF (op r w) (drw (op r w) n)) else errQ (errOf r w)
def kA (l:Int):Nat:=24-(max l 1-1).toNat
@[simp] theorem kA_0:kA 0=24:=rfl
@[simp] theorem kA_1:kA 1=24:=rfl
end
end Go.Proofs.YtiilicnmcpjmkaaGreatDoor.Vm
namespace Go.Proofs.YtiilicnmcpjmkaaGreatDoor.Vm
open Go
set_option maxRecDepth 100000
set_option linter.unusedSimpArgs false
set_option linter.unusedVariables false
attribute [-simp] List.getD_eq_getElem?_getD
def allI:List CK→Bool
  | []=>true
  | .int .i64 :: ks=>allI ks
  | _=>false
section
variable {lim:Nat}{H:Hp}{av bv:V}{r w r' w':List Int}{K:V→Hp→Prop}
def sameB (r w r' w':List Int):Bool:=if er2 r w r' w'=0 then decide (mk48 (op r w)=mk48 (op r' w')) else false
end
def Bel (m:Nat)(v:V):Prop:=∀b o k z,v=.sl b o k z→b<m
section
variable {lim:Nat}{H:Hp}{av bv:V}{r w r' w':List Int}{K:V→Hp→Prop}
end
end Go.Proofs.YtiilicnmcpjmkaaGreatDoor.Vm
namespace Go.Proofs.YtiilicnmcpjmkaaGreatDoor.Vm
open Go
set_option linter.unusedSimpArgs false
set_option linter.unusedVariables false
def wds (c:UInt8):List UInt8→List (List UInt8)
  | []=>[[]]
  | b :: r=>if b=c then [] :: wds c r else match wds c r with
    | []=>[[b]]
    | w :: ws=>(b :: w) :: ws
theorem at_byte {c:UInt8}:∀s:List UInt8,(Lib.indexByte s c = -1∧c∉s)∨∃p q,s=p++c :: q∧c∉p∧Lib.indexByte s c=p.length
  | []=>.inl ⟨rfl,by simp⟩
  | b :: s=>by
    by_cases h:b=c
    · subst h
      exact .inr ⟨[],s,rfl,by simp,by simp [Lib.indexByte]⟩
    · have hb:(b==c)=false:=by simpa using h
      rcases at_byte (c:=c) s with ⟨h1,h2⟩ | ⟨p,q,rfl,h1,h2⟩
      · refine .inl ⟨by simp [Lib.indexByte,hb,h1],?_⟩
        intro e
        rcases List.mem_cons.1 e with e | e
        · exact h e.symm
        · exact h2 e
      · refine .inr ⟨b :: p,q,rfl,?_,?_⟩
        · intro e
          rcases List.mem_cons.1 e with e | e
          · exact h e.symm
          · exact h1 e
        · have hn:((p.length:Int) == -1)=false:=by simp
          simp only [Lib.indexByte,hb,h2,hn,Bool.false_eq_true,if_false,List.length_cons]
          omega
def isDg (b:UInt8):Prop:=48≤b.toNat∧b.toNat≤57
theorem dg_of {d:Nat}(h:d<10):isDg (UInt8.ofNat (48+d))∧(UInt8.ofNat (48+d)).toNat=48+d:=by
  have e:(UInt8.ofNat (48+d)).toNat=48+d:=by simp;omega
  exact ⟨⟨by omega,by omega⟩,e⟩
theorem dd_big {u:Nat}(h:¬u<10):Lib.decDigits u=Lib.decDigits (u / 10)++[UInt8.ofNat (48+u % 10)]:=by
  rw [Lib.decDigits,dif_neg h]
theorem dd_dg:∀u:Nat,∀b∈Lib.decDigits u,isDg b:=by
  intro u
  induction u using Nat.strongRecOn with
  | _ u ih =>
    intro b hb
    by_cases h:u<10
    · rw [Lib.decDigits_one h] at hb
      rw [List.mem_singleton.1 hb]
      exact (dg_of h).1
    · rw [dd_big h] at hb
      rcases List.mem_append.1 hb with hb | hb
      · exact ih (u / 10) (by omega) b hb
      · rw [List.mem_singleton.1 hb]
        exact (dg_of (by omega)).1
theorem dd_ne (u:Nat):Lib.decDigits u≠[]:=by
  by_cases h:u<10
  · rw [Lib.decDigits_one h];simp
  · rw [dd_big h];simp
theorem parse_snoc {b:UInt8} (hb:isDg b):∀{l:List UInt8} {a v:Nat},Lib.parseUint10 a l=.ok v→v<1844674407370955161→Lib.parseUint10 a (l++[b])=.ok (v*10+(b.toNat-48))
  | [],a,v,h,hv=>by
    simp only [Lib.parseUint10] at h
    injection h with h;subst h
    obtain ⟨h1,h2⟩:=hb
    simp only [List.nil_append,Lib.parseUint10]
    rw [if_pos ⟨h1,h2⟩,if_neg (by omega),if_neg (by omega)]
  | c :: l,a,v,h,hv=>by
    simp only [List.cons_append,Lib.parseUint10] at h ⊢
    split at h
    · split at h
      · cases h
      · split at h
        · cases h
        · rename_i h1 h2 h3
          rw [if_pos h1,if_neg h2,if_neg h3]
          exact parse_snoc hb h hv
    · cases h
theorem dd_parse (u:Nat):u<1844674407370955161→Lib.parseUint10 0 (Lib.decDigits u)=.ok u:=by
  induction u using Nat.strongRecOn with
  | _ u ih =>
    intro hu
    by_cases h:u<10
    · rw [Lib.decDigits_one h]
      obtain ⟨h1,h2⟩:=dg_of h
      simp only [Lib.parseUint10]
      rw [if_pos (show 48≤_∧_ from h1),if_neg (by omega),h2,if_neg (by omega)]
      congr 1;omega
    · rw [dd_big h]
      obtain ⟨h1,h2⟩:=dg_of (d:=u % 10) (by omega)
      rw [parse_snoc h1 (ih (u / 10) (by omega) (by omega)) (by omega),h2]
      congr 1;omega
theorem atoi_dd {u:Nat}(hu:u<1000000000000):Lib.atoiAll (Lib.decDigits u)=.ok (u:Int):=by
  have hp:=dd_parse u (by omega)
  have hd:=dd_dg u
  have hne:=dd_ne u
  generalize Lib.decDigits u=l at hp hd hne
  cases l with
  | nil=>exact absurd rfl hne
  | cons c r =>
    have hc:=hd c (by simp)
    obtain ⟨a,b⟩:=hc
    rw [Lib.atoiAll_plain c r (by omega) (by omega),Lib.parseMag,if_neg hne,hp]
    simp only [Lib.signless]
    rw [if_neg (by omega)]
theorem dd_inj {u v:Nat}(hu:u<1000000000000)(hv:v<1000000000000)(h:Lib.decDigits u=Lib.decDigits v):u=v:=by
  have a:=atoi_dd hu
  rw [h,atoi_dd hv] at a
  injection a with a;omega
theorem dg_not {u:Nat}{c:UInt8}(h:¬isDg c):c∉Lib.decDigits u:=fun hc=>h (dd_dg u c hc)
def nums (c:UInt8)(l:List Nat):List UInt8:=l.flatMap fun n=>c :: Lib.decDigits n
def hairL:List UInt8:=[104,97,105,114]
def wrongL:List UInt8:=[119,114,111,110,103]
def fmtH (r w:List Nat):List UInt8:=hairL++nums 32 r++32 :: (wrongL++nums 32 w)
structure RdH where
  k:Bool
  r:List Int
  w:List Int
  deriving DecidableEq
def RdH.num (x:RdH):Lib.NumEnd Int→RdH
  | .ok n=>if x.k then ⟨true,x.r,x.w++[n]⟩ else ⟨false,x.r++[n],x.w⟩
  | _=>x
def RdH.step (x:RdH)(w:List UInt8):RdH:=(if w=wrongL then { x with k:=true } else x).num (Lib.atoiAll w)
def rdH (l:List (List UInt8)):RdH:=l.foldl RdH.step ⟨false,[],[]⟩
def ints' (l:List Nat):List Int:=l.map fun n:Nat=>(n:Int)
def bigL (l:List Nat):Prop:=∀n∈l,n<1000000000000
end Go.Proofs.YtiilicnmcpjmkaaGreatDoor.Vm
namespace Go.Proofs.YtiilicnmcpjmkaaGreatDoor.Vm
open Go
set_option linter.unusedSimpArgs false
set_option linter.unusedVariables false
attribute [-simp] List.getD_eq_getElem?_getD
def valD (l:List UInt8):Nat:=l.foldl (fun n b=>10*n+(b.toNat-48)) 0
theorem dd_len:∀(k u:Nat),u<10 ^ (k+1)→(Lib.decDigits u).length≤k+1
  | 0,u,h=>by rw [Lib.decDigits_one (by simpa using h)];simp
  | k + 1,u,h=>by
    by_cases h1:u<10
    · rw [Lib.decDigits_one h1];simp
    · rw [dd_big h1,List.length_append]
      have:=dd_len k (u / 10) (by rw [Nat.pow_succ] at h;omega)
      simp;omega
def dgB (b:UInt8):Bool:=decide (48≤b.toNat)&&decide (b.toNat≤57)
def numR (l:List UInt8):Int:=if l.all dgB∧l.length≤9∧l≠[]∧Lib.decDigits (valD l)=l then (valD l:Int) else -1
def RdH.stepR (x:RdH)(w:List UInt8):RdH:=if w=wrongL∧x.k=false then { x with k:=true } else if x.k then { x with w:=x.w++[numR w] } else { x with r:=x.r++[numR w] }
def rdR (l:List (List UInt8)):RdH:=(l.drop 1).foldl RdH.stepR ⟨false,[],[]⟩
def midL (l:List Nat):Prop:=∀n∈l,n<1000000000
def toN (l:List Int):List Nat:=l.map Int.toNat
def rS (r w:List Int):List Int:=sideF (op r w) 0
def wS (r w:List Int):List Int:=sideF (op r w) 1
def fmtB (r w:List Int):List UInt8:=fmtH (toN (rS r w)) (toN (wS r w))
def accB (x:RdH)(T:List UInt8):Prop:=errOf x.r x.w=0∧fmtB x.r x.w=T
end Go.Proofs.YtiilicnmcpjmkaaGreatDoor.Vm
namespace Go.Proofs.YtiilicnmcpjmkaaGreatDoor.Vm
open Go
set_option maxRecDepth 100000
set_option linter.unusedSimpArgs false
set_option linter.unusedVariables false
attribute [-simp] List.getD_eq_getElem?_getD
def bA (l:List UInt8):ByteArray:=⟨l.toArray⟩
theorem bA_size {l:List UInt8}:(bA l).size=l.length:=by show l.toArray.size=_;simp
theorem bA_app {l m:List UInt8}:bA l++bA m=bA (l++m):=by
  have h:(bA l++bA m).data=(bA (l++m)).data:=by simp [bA]
  generalize bA l++bA m=a at h
  generalize bA (l++m)=b at h
  cases a;cases b;simp at h;subst h;rfl
theorem bA_list {s:ByteArray}:bA s.data.toList=s:=by cases s;rfl
theorem list_bA {l:List UInt8}:(bA l).data.toList=l:=by simp [bA]
theorem vlenT_strH {s:ByteArray}:vlenT (.str s)=some (.int .i64 s.size):=Eq.trans rfl rfl
attribute [simp] vlenT_strH
theorem vadd_bA {l m:List UInt8}(h:l.length+m.length≤1000000):vbin .add (.str (bA l)) (.str (bA m))=some (.str (bA (l++m))):=by
  have:(bA l).size+(bA m).size≤1000000:=by rw [bA_size,bA_size];exact h
  simp only [vbin];rw [if_pos (by omega),bA_app]
def strC:Cod ByteArray 1:=⟨fun s=>[.str s],fun _=>rfl⟩
theorem ext_bA {s:ByteArray}{a b:Nat}:s.extract a b=bA ((s.data.toList.take b).drop a):=by
  obtain ⟨⟨l⟩⟩:=s
  have h:((⟨⟨l⟩⟩:ByteArray).extract a b).data=(bA ((l.take b).drop a)).data:=by
    simp [bA,ByteArray.data_extract]
    rw [List.drop_take]
  generalize (⟨⟨l⟩⟩:ByteArray).extract a b=x at h
  generalize bA ((l.take b).drop a)=y at h
  cases x;cases y;simp at h;subst h;rfl
theorem slT_bA {s:ByteArray}{a b:Nat}(h1:a≤b)(h2:b≤s.size):vslT (.str s) (some (.int .i64 (a:Int))) (some (.int .i64 (b:Int)))=some (.str (bA ((s.data.toList.take b).drop a))):=by
  simp only [vslT,vbounds,vint]
  rw [if_pos (by omega),if_pos (by omega)]
  simp only [Int.toNat_natCast,ext_bA]
def chB (s:ByteArray)(i:Nat):UInt8:=s.data.toList.getD i 0
end Go.Proofs.YtiilicnmcpjmkaaGreatDoor.Vm
namespace Go.Proofs.YtiilicnmcpjmkaaGreatDoor.Vm
open Go
set_option maxRecDepth 100000
set_option linter.unusedSimpArgs false
set_option linter.unusedVariables false
attribute [-simp] List.getD_eq_getElem?_getD
theorem bA1 {b:UInt8}:(⟨#[b]⟩:ByteArray)=bA [b]:=rfl
def txtP (r w:List Int):ByteArray:=if errOf r w=0 then bA (fmtB r w) else ⟨#[]⟩
end Go.Proofs.YtiilicnmcpjmkaaGreatDoor.Vm
namespace Go.Proofs.YtiilicnmcpjmkaaGreatDoor.Vm
open Go
set_option maxRecDepth 100000
set_option linter.unusedSimpArgs false
set_option linter.unusedVariables false
attribute [-simp] List.getD_eq_getElem?_getD
def Apt (a b:V):Prop:=∀k o z y o' z' y',a=.sl k o z y→b=.sl k o' z' y'→False
structure TwoB (n:Nat)(H:Hp)(rv wv:V)(r w:List Int):Prop where
  a:OwnV n H rv r
  b:OwnV n H wv w
  ap:Apt rv wv
theorem Apt.symm {a b:V}(h:Apt a b):Apt b a:=fun k o z y o' z' y' h1 h2=>h k o' z' y' o z y h2 h1
instance {x:RdH}{T:List UInt8}:Decidable (accB x T):=inferInstanceAs (Decidable (_∧_))
def prsP (x:RdH)(T:List UInt8):List Int×List Int×Int:=if 4000<T.length then ([],[],4) else if accB x T then (rS x.r x.w,wS x.r x.w,0) else ([],[],3)
theorem vneq_bA {W:List UInt8}{s:ByteArray}:vbin .neq (.str (bA W)) (.str s)=some (.bool (!(decide (W=s.data.toList)))):=by
  simp only [vbin]
  rw [Lib.toList_data,Lib.toList_data,list_bA]
  by_cases h:W=s.data.toList
  · simp [h]
  · simp [h]
end Go.Proofs.YtiilicnmcpjmkaaGreatDoor.Vm
namespace Go.Proofs.YtiilicnmcpjmkaaGreatDoor.Vm
open Go
set_option maxRecDepth 100000
set_option linter.unusedSimpArgs false
set_option linter.unusedVariables false
attribute [-simp] List.getD_eq_getElem?_getD
def len8:ByteArray:=⟨#[0,1,2,2,3,3,3,3,4,4,4,4,4,4,4,4,5,5,5,5,5,5,5,5,5,5,5,5,5,5,5,5,6,6,6,6,6,6,6,6,6,6,6,6,6,6,6,6,6,6,6,6,6,6,6,6,6,6,6,6,6,6,6,6,7,7,7,7,7,7,7,7,7,7,7,7,7,7,7,7,7,7,7,7,7,7,7,7,7,7,7,7,7,7,7,7,7,7,7,7,7,7,7,7,7,7,7,7,7,7,7,7,7,7,7,7,7,7,7,7,7,7,7,7,7,7,7,7,8,8,8,8,8,8,8,8,8,8,8,8,8,8,8,8,8,8,8,8,8,8,8,8,8,8,8,8,8,8,8,8,8,8,8,8,8,8,8,8,8,8,8,8,8,8,8,8,8,8,8,8,8,8,8,8,8,8,8,8,8,8,8,8,8,8,8,8,8,8,8,8,8,8,8,8,8,8,8,8,8,8,8,8,8,8,8,8,8,8,8,8,8,8,8,8,8,8,8,8,8,8,8,8,8,8,8,8,8,8,8,8,8,8,8,8,8,8,8,8,8,8,8,8,8,8,8,8]⟩
def bl8 (t:Nat):Nat:=if t<1 then 0 else if t<2 then 1 else if t<4 then 2 else if t<8 then 3 else if t<16 then 4 else if t<32 then 5 else if t<64 then 6 else if t<128 then 7 else 8
theorem len8_all:∀t,t<256→len8.data.toList.getD t 0=UInt8.ofNat (bl8 t):=by decide +kernel
theorem len8_at {t:Nat}(h:t<256):vidxT (.str len8) (.int .u8 (t:Int))=some (.int .u8 (bl8 t:Nat)):=by
  have hz:len8.size=256:=by decide +kernel
  simp only [vidxT,vint]
  rw [if_pos (by omega)]
  have e:=len8_all t h
  have hb:bl8 t<256:=by unfold bl8;(repeat' split)<;>omega
  have:len8.data.getD ((t:Int)).toNat 0=UInt8.ofNat (bl8 t):=by
    rw [Int.toNat_natCast,←e,Array.getD_eq_getD_getElem?,List.getD_eq_getElem?_getD,Array.getElem?_toList]
  rw [this]
  congr 2
  simp;omega
def blen (n:Nat):Nat:=if n<256 then bl8 n else if n<65536 then 8+bl8 (n / 256) else 16+bl8 (n / 65536)
theorem bl8_le (t:Nat):bl8 t≤8:=by unfold bl8;(repeat' split)<;>omega
theorem fdN {n m:Nat}:Int.fdiv (n:Int) (m:Int)=((n / m:Nat):Int):=by
  rw [Int.fdiv_eq_ediv_of_nonneg _ (by omega)];rfl
theorem shr_8 {n:Nat}:vbin .shr (.int .u64 (n:Int)) (.int .u64 8)=some (.int .u64 ((n / 256:Nat):Int)):=by
  show some (V.int .u64 (Int.fdiv (n:Int) ((256:Nat):Int)))=_
  rw [fdN]
theorem shr_16 {n:Nat}:vbin .shr (.int .u64 (n:Int)) (.int .u64 16)=some (.int .u64 ((n / 65536:Nat):Int)):=by
  show some (V.int .u64 (Int.fdiv (n:Int) ((65536:Nat):Int)))=_
  rw [fdN]
theorem len64_t {H:Hp}{lim n:Nat}{K:V→Hp→Prop}(hn:n≤1000000)(hK:K (.int .i64 (blen n:Nat)) H):VCall tbl lim 82 [.int .u64 (n:Int)] H K:=by
  refine VCall_fn tbl_at82 rfl ?_
  have c1:((4294967296:Int)≤(n:Int))=False:=eq_false (by omega)
  have k8:vbin .shr (.int .u64 (n:Int)) (.int .u64 8)=some (.int .u64 ((n / 256:Nat):Int)):=shr_8
  have k16:vbin .shr (.int .u64 (n:Int)) (.int .u64 16)=some (.int .u64 ((n / 65536:Nat):Int)):=shr_16
  unfold blen at hK
  by_cases h1:n<256
  · have c2:((65536:Int)≤(n:Int))=False:=eq_false (by omega)
    have c3:((256:Int)≤(n:Int))=False:=eq_false (by omega)
    have w1:IntKind.wrap .u8 (n:Int)=(n:Int):=by simp [IntKind.wrap,IntKind.bits,IntKind.signed];omega
    have ht:=len8_at h1
    simp only [len8] at ht
    rw [if_pos h1] at hK
    have hb:=bl8_le n
    simp (disch:=omega) [vf82,c1,c2,c3,w1,ht,wrap_i64]
    exact hK
  rw [if_neg h1] at hK
  by_cases h2:n<65536
  · have c2:((65536:Int)≤(n:Int))=False:=eq_false (by omega)
    have c3:((256:Int)≤(n:Int))=True:=eq_true (by omega)
    rw [if_pos h2] at hK
    obtain ⟨m,hm⟩:∃m,m=n / 256:=⟨_,rfl⟩
    rw [←hm] at k8 hK
    have w1:IntKind.wrap .u8 (m:Int)=(m:Int):=by simp [IntKind.wrap,IntKind.bits,IntKind.signed];omega
    have ht:=len8_at (t:=m) (by omega)
    simp only [len8] at ht
    have hb:=bl8_le m
    simp (disch:=omega) [vf82,c1,c2,c3,w1,ht,k8,wrap_i64]
    have e:((8+bl8 m:Nat):Int)=8+(bl8 m:Int):=by omega
    rw [e] at hK
    exact hK
  · have c2:((65536:Int)≤(n:Int))=True:=eq_true (by omega)
    rw [if_neg h2] at hK
    obtain ⟨m,hm⟩:∃m,m=n / 65536:=⟨_,rfl⟩
    rw [←hm] at k16 hK
    have c3:((256:Int)≤(m:Int))=False:=eq_false (by omega)
    have w1:IntKind.wrap .u8 (m:Int)=(m:Int):=by simp [IntKind.wrap,IntKind.bits,IntKind.signed];omega
    have ht:=len8_at (t:=m) (by omega)
    simp only [len8] at ht
    have hb:=bl8_le m
    simp (disch:=omega) [vf82,c1,c2,c3,w1,ht,k16,wrap_i64]
    have e:((16+bl8 m:Nat):Int)=16+(bl8 m:Int):=by omega
    rw [e] at hK
    exact hK
section
variable {lim:Nat}{H:Hp}{K:V→Hp→Prop}
end
end Go.Proofs.YtiilicnmcpjmkaaGreatDoor.Vm
namespace Go.Proofs.YtiilicnmcpjmkaaGreatDoor.Vm
open Go
set_option maxRecDepth 100000
set_option linter.unusedSimpArgs false
set_option linter.unusedVariables false
attribute [-simp] List.getD_eq_getElem?_getD
def lit36:ByteArray:=⟨#[48,49,50,51,52,53,54,55,56,57,97,98,99,100,101,102,103,104,105,106,107,108,109,110,111,112,113,114,115,116,117,118,119,120,121,122]⟩
def smL:ByteArray:=⟨#[48,48,48,49,48,50,48,51,48,52,48,53,48,54,48,55,48,56,48,57,49,48,49,49,49,50,49,51,49,52,49,53,49,54,49,55,49,56,49,57,50,48,50,49,50,50,50,51,50,52,50,53,50,54,50,55,50,56,50,57,51,48,51,49,51,50,51,51,51,52,51,53,51,54,51,55,51,56,51,57,52,48,52,49,52,50,52,51,52,52,52,53,52,54,52,55,52,56,52,57,53,48,53,49,53,50,53,51,53,52,53,53,53,54,53,55,53,56,53,57,54,48,54,49,54,50,54,51,54,52,54,53,54,54,54,55,54,56,54,57,55,48,55,49,55,50,55,51,55,52,55,53,55,54,55,55,55,56,55,57,56,48,56,49,56,50,56,51,56,52,56,53,56,54,56,55,56,56,56,57,57,48,57,49,57,50,57,51,57,52,57,53,57,54,57,55,57,56,57,57]⟩
theorem lit36_at {n:Nat}(h:n<10):vslT (.str lit36) (some (.int .i64 (n:Int))) (some (.int .i64 ((n:Int)+1)))=some (.str (bA (Lib.decDigits n))):=by
  rw [Lib.decDigits_one h]
  match n,h with
  | 0,_=>rfl
  | 1,_=>rfl
  | 2,_=>rfl
  | 3,_=>rfl
  | 4,_=>rfl
  | 5,_=>rfl
  | 6,_=>rfl
  | 7,_=>rfl
  | 8,_=>rfl
  | 9,_=>rfl
theorem smL_all:∀n,n<100→(smL.data.toList.take (2*n+2)).drop (2*n)=[UInt8.ofNat (48+n / 10),UInt8.ofNat (48+n % 10)]:=by decide +kernel
theorem smL_at {n:Nat}(h1:¬n<10)(h2:n<100){a b:Int}(ha:a=2*n)(hb:b=2*n+2):vslT (.str smL) (some (.int .i64 a)) (some (.int .i64 b))=some (.str (bA (Lib.decDigits n))):=by
  have e1:a=((2*n:Nat):Int):=by omega
  have e2:b=((2*n+2:Nat):Int):=by omega
  have hz:smL.size=200:=by decide +kernel
  rw [e1,e2,slT_bA (by omega) (by omega),smL_all n h2,Lib.decDigits_two h1 h2]
theorem small_t {H:Hp}{lim n:Nat}{K:V→Hp→Prop}(h2:n<100)(hK:K (.str (bA (Lib.decDigits n))) H):VCall tbl lim 83 [.int .i64 (n:Int)] H K:=by
  refine VCall_fn tbl_at83 rfl ?_
  by_cases h1:n<10
  · have h1':((n:Int)<10)=True:=eq_true (by omega)
    have:=lit36_at h1
    simp only [lit36] at this
    simp (disch:=omega) [vf83,h1',this,wrap_i64]
    exact hK
  · have h1':((n:Int)<10)=False:=eq_false (by omega)
    have:=smL_at h1 h2 (a:=(n:Int)*2) (b:=(n:Int)*2+2) (by omega) (by omega)
    simp only [smL] at this
    simp (disch:=omega) [vf83,h1',this,wrap_i64]
    exact hK
theorem shr_18 {n:Nat}:vbin .shr (.int .i64 (n:Int)) (.int .u64 18)=some (.int .i64 ((n / 262144:Nat):Int)):=by
  show some (V.int .i64 (Int.fdiv (n:Int) ((262144:Nat):Int)))=_
  rw [fdN]
def nD (n:Nat):Nat:=if n<1000 then 3 else if n<10000 then 4 else if n<100000 then 5 else if n<1000000 then 6 else 7
def lq (n:Nat):Nat:=if n<512 then 2 else if n<8192 then 3 else if n<65536 then 4 else if n<524288 then 5 else 6
theorem bl_lq {n:Nat}(h1:100≤n)(h2:n≤1000000):blen n*78913 / 262144=lq n∧blen n≤20:=by
  unfold blen lq bl8
  repeat' split
  all_goals omega
theorem log10_t {H:Hp}{lim n:Nat}{K:V→Hp→Prop}(h1:100≤n)(h2:n≤1000000)(hK:K (.int .i64 (lq n:Nat)) H):VCall tbl lim 103 [.int .i64 (blen n:Nat)] H K:=by
  refine VCall_fn tbl_at103 rfl ?_
  obtain ⟨a,b⟩:=bl_lq h1 h2
  have hs:=shr_18 (n:=blen n*78913)
  rw [a] at hs
  have e:((blen n*78913:Nat):Int)=(blen n:Int)*78913:=by omega
  rw [e] at hs
  simp (disch:=omega) [vf103,wrap_i64,hs]
  exact hK
theorem bool2_t {H:Hp}{lim:Nat}{b:Bool}{K:V→Hp→Prop}(hK:K (.int .i64 (if b then 1 else 0)) H):VCall tbl lim 104 [.bool b] H K:=by
  refine VCall_fn tbl_at104 rfl ?_
  cases b<;>simp [vf104] at hK ⊢<;>exact hK
theorem numDigits_t {H:Hp} {lim n:Nat} {K:V→Hp→Prop} (hg:HX glHp H) (h1:100≤n) (h2:n≤1000000) (hK:K (.int .i64 (nD n:Nat)) H):VCall tbl lim 84 [.int .u64 (n:Int)] H K:=by
  refine VCall_fn tbl_at84 rfl ?_
  simp [vf84]
  refine len64_t h2 ?_
  simp
  refine log10_t h1 h2 ?_
  simp
  obtain ⟨X,rfl⟩:=hg
  have d2:∀{L:Lo},vload none L (glHp++X) (.ptr 0 2)=some (.int .u64 100):=fun {L}=>rfl
  have d3:∀{L:Lo},vload none L (glHp++X) (.ptr 0 3)=some (.int .u64 1000):=fun {L}=>rfl
  have d4:∀{L:Lo},vload none L (glHp++X) (.ptr 0 4)=some (.int .u64 10000):=fun {L}=>rfl
  have d5:∀{L:Lo},vload none L (glHp++X) (.ptr 0 5)=some (.int .u64 100000):=fun {L}=>rfl
  have d6:∀{L:Lo},vload none L (glHp++X) (.ptr 0 6)=some (.int .u64 1000000):=fun {L}=>rfl
  have a2:viaddrA 20 1 (.ptr 0 0) (.int .i64 2)=some (.ptr 0 2):=rfl
  have a3:viaddrA 20 1 (.ptr 0 0) (.int .i64 3)=some (.ptr 0 3):=rfl
  have a4:viaddrA 20 1 (.ptr 0 0) (.int .i64 4)=some (.ptr 0 4):=rfl
  have a5:viaddrA 20 1 (.ptr 0 0) (.int .i64 5)=some (.ptr 0 5):=rfl
  have a6:viaddrA 20 1 (.ptr 0 0) (.int .i64 6)=some (.ptr 0 6):=rfl
  generalize glHp++X=H at *
  have fin : ∀ (q p:Nat),(q:Int)=(lq n:Nat)→viaddrA 20 1 (.ptr 0 0) (.int .i64 (q:Int))=some (.ptr 0 q)→(∀{L:Lo},vload none L H (.ptr 0 q)=some (.int .u64 (p:Int)))→q≤6→(nD n=if p≤n then q+1 else q)→wNext tbl lim [] H (pureV [] H (viaddrA 20 1 (V.ptr 0 0) (V.int IntKind.i64 ((lq n:Nat):Int)))) (opsK tbl lim (some 10)
      [oL 11 10,oP 12 (VOp.bin BinOp.geq (Opd.t 8) (Opd.t 11)),oP 13 (VOp.call 104 [Opd.t 12]),
        oP 14 (VOp.bin BinOp.add (Opd.t 7) (Opd.t 13)),oM 2 14]
      (seqQ (wCode tbl lim VCode.ret (fnQ [VRes.tmp 2] K)) (fnQ [VRes.tmp 2] K) VExit.normal)
      (upd
        (upd
          (upd
            (upd
              (upd
                (upd (upd (upd (fr0 [V.int IntKind.u64 ↑n]) 2 (V.int IntKind.i64 0)) 4 (V.int IntKind.u64 ↑n)) 5
                  (V.int IntKind.i64 ↑(blen n)))
                6 (V.int IntKind.i64 ↑(lq n)))
              3 (V.int IntKind.i64 ↑(lq n)))
            7 (V.int IntKind.i64 ↑(lq n)))
          8 (V.int IntKind.u64 ↑n))
        9 (V.int IntKind.i64 ↑(lq n)))):=by
    intro q p hq ha hd hq6 hnd
    rw [←hq]
    by_cases hp:p≤n
    · have hp':((p:Int)≤(n:Int))=True:=eq_true (by omega)
      simp [ha,hd,hp']
      refine bool2_t ?_
      rw [if_pos hp] at hnd
      simp (disch:=omega) [wrap_i64]
      rw [hnd] at hK
      have e:((q+1:Nat):Int)=(q:Int)+1:=by omega
      rw [e] at hK
      exact hK
    · have hp':((p:Int)≤(n:Int))=False:=eq_false (by omega)
      simp [ha,hd,hp']
      refine bool2_t ?_
      rw [if_neg hp] at hnd
      simp (disch:=omega) [wrap_i64]
      rw [hnd] at hK
      exact hK
  by_cases k1:n<512
  · exact fin 2 100 (by simp [lq,k1]) a2 d2 (by omega) (by unfold nD;rw [if_pos (by omega),if_pos h1])
  by_cases k2:n<8192
  · exact fin 3 1000 (by simp [lq,k1,k2]) a3 d3 (by omega) (by unfold nD;(repeat' split)<;>omega)
  by_cases k3:n<65536
  · exact fin 4 10000 (by simp [lq,k1,k2,k3]) a4 d4 (by omega) (by unfold nD;(repeat' split)<;>omega)
  by_cases k4:n<524288
  · exact fin 5 100000 (by simp [lq,k1,k2,k3,k4]) a5 d5 (by omega) (by unfold nD;(repeat' split)<;>omega)
  · exact fin 6 1000000 (by simp [lq,k1,k2,k3,k4]) a6 d6 (by omega) (by unfold nD;(repeat' split)<;>omega)
end Go.Proofs.YtiilicnmcpjmkaaGreatDoor.Vm
namespace Go.Proofs.YtiilicnmcpjmkaaGreatDoor.Vm
open Go
set_option maxRecDepth 100000
set_option linter.unusedSimpArgs false
set_option linter.unusedVariables false
attribute [-simp] List.getD_eq_getElem?_getD
theorem sm_lo:∀k,k<100→smL.data.toList.getD (2*k) 0=UInt8.ofNat (48+k / 10):=by decide +kernel
theorem sm_hi:∀k,k<100→smL.data.toList.getD (2*k+1) 0=UInt8.ofNat (48+k % 10):=by decide +kernel
theorem sm_ix {j d:Nat}(hj:j<200)(hd:d<10)(h:smL.data.toList.getD j 0=UInt8.ofNat (48+d)):vidxT (.str smL) (.int .u32 (j:Int))=some (.int .u8 ((48+d:Nat):Int)):=by
  have hz:smL.size=200:=by decide +kernel
  simp only [vidxT,vint]
  rw [if_pos (by omega)]
  have:smL.data.getD ((j:Int)).toNat 0=UInt8.ofNat (48+d):=by
    rw [Int.toNat_natCast,←h,Array.getD_eq_getD_getElem?,List.getD_eq_getElem?_getD,Array.getElem?_toList]
  rw [this]
  congr 2
  simp;omega
theorem st_row {H:Hp}{lim off:Nat}{cs:List V}{v:V}(hl:lim≤H.length)(h:off+1≤cs.length):vstoreH lim (H++[.row cs true]) H.length off [v]=some (H++[.row (splice cs off [v]) true]):=by
  simp only [vstoreH,hl,if_true,List.getElem?_concat_length,List.length_cons,List.length_nil,Nat.zero_add,h]
  congr 1
  rw [List.set_append_right _ _ (Nat.le_refl _),Nat.sub_self];rfl
theorem base3_t {H:Hp}{lim n:Nat}{K:V→Hp→Prop}(hlim:lim≤H.length)(h1:100≤n)(h2:n<1000)
    (hK:K (.tup []) (H++[.row (splice (List.replicate 24 (.int .u8 0)) 1 [.int .u8 ((48+n / 100:Nat):Int),.int .u8 ((48+n / 10 % 10:Nat):Int),.int .u8 ((48+n % 10:Nat):Int)]) true])):VCall tbl lim 85 [.sl H.length 1 3 1,.int .u64 (n:Int)] (H++[.row (List.replicate 24 (.int .u8 0)) true]) K:=by
  refine VCall_fn tbl_at85 rfl ?_
  obtain ⟨a,ha⟩:∃a:Nat,a=n % 100:=⟨_,rfl⟩
  obtain ⟨c,hc⟩:∃c:Nat,c=n / 100:=⟨_,rfl⟩
  obtain ⟨j,hj⟩:∃j:Nat,j=2*a:=⟨_,rfl⟩
  have r1:Int.tmod (n:Int) 100=(a:Int):=by rw [Int.tmod_eq_emod_of_nonneg (by omega)];omega
  have q1:Int.tdiv (n:Int) 100=(c:Int):=by rw [Int.tdiv_eq_ediv_of_nonneg (by omega)];omega
  have w0:IntKind.wrap .u32 (n:Int)=(n:Int):=by simp [IntKind.wrap,IntKind.bits,IntKind.signed];omega
  have w1:IntKind.wrap .u32 ((a:Int)*2)=(j:Int):=by simp [IntKind.wrap,IntKind.bits,IntKind.signed];omega
  have w2:IntKind.wrap .u32 ((j:Int)+1)=(j:Int)+1:=by simp [IntKind.wrap,IntKind.bits,IntKind.signed];omega
  have w3:IntKind.wrap .u32 (c:Int)=(c:Int):=by simp [IntKind.wrap,IntKind.bits,IntKind.signed];omega
  have w4:IntKind.wrap .u32 (48+(c:Int))=48+(c:Int):=by simp [IntKind.wrap,IntKind.bits,IntKind.signed];omega
  have w5:IntKind.wrap .u8 (48+(c:Int))=48+(c:Int):=by simp [IntKind.wrap,IntKind.bits,IntKind.signed];omega
  have x1:=sm_ix (j:=2*a+1) (d:=a % 10) (by omega) (by omega) (sm_hi a (by omega))
  have x0:=sm_ix (j:=2*a) (d:=a / 10) (by omega) (by omega) (sm_lo a (by omega))
  rw [←hj] at x0 x1
  have ej:((j+1:Nat):Int)=(j:Int)+1:=by omega
  rw [ej] at x1
  have e1:48+n / 100=48+c:=by omega
  have e2:48+n / 10 % 10=48+a / 10:=by omega
  have e3:48+n % 10=48+a % 10:=by omega
  rw [e1,e2,e3] at hK
  obtain ⟨d0,hd0⟩:∃d,d=48+a / 10:=⟨_,rfl⟩
  obtain ⟨d1,hd1⟩:∃d,d=48+a % 10:=⟨_,rfl⟩
  rw [←hd0] at x0 hK
  rw [←hd1] at x1 hK
  simp only [smL] at x0 x1
  simp [vf85]
  refine wLoop_round ?_
  have y2:viaddrS 1 (.sl H.length 1 3 1) (.int .i64 2)=some (.ptr H.length 3):=by simp [viaddrS,vint]
  have y1:viaddrS 1 (.sl H.length 1 3 1) (.int .i64 1)=some (.ptr H.length 2):=by simp [viaddrS,vint]
  have y0:viaddrS 1 (.sl H.length 1 3 1) (.int .i64 0)=some (.ptr H.length 1):=by simp [viaddrS,vint]
  simp (disch:=first | omega | (simp;done)) [w0,r1,q1,w1,w2,w3,w4,w5,x0,x1,y0,y1,y2,wrap_i64,st_row,splice]
  have ec:((48+c:Nat):Int)=48+(c:Int):=by omega
  rw [ec] at hK
  simp [splice] at hK
  exact hK
theorem u32_wrap {x:Nat}(h:x<4294967296):IntKind.wrap .u32 (x:Int)=(x:Int):=by simp [IntKind.wrap,IntKind.bits,IntKind.signed];omega
theorem base4_t {H:Hp}{lim n:Nat}{K:V→Hp→Prop}(hlim:lim≤H.length)(h1:1000≤n)(h2:n<10000)
    (hK:K (.tup []) (H++[.row (splice (List.replicate 24 (.int .u8 0)) 1 [.int .u8 ((48+n / 1000:Nat):Int),.int .u8 ((48+n / 100 % 10:Nat):Int),.int .u8 ((48+n / 10 % 10:Nat):Int),.int .u8 ((48+n % 10:Nat):Int)]) true])):VCall tbl lim 85 [.sl H.length 1 4 1,.int .u64 (n:Int)] (H++[.row (List.replicate 24 (.int .u8 0)) true]) K:=by
  refine VCall_fn tbl_at85 rfl ?_
  obtain ⟨a,ha⟩:∃a:Nat,a=n % 100:=⟨_,rfl⟩
  obtain ⟨c,hc⟩:∃c:Nat,c=n / 100:=⟨_,rfl⟩
  obtain ⟨j,hj⟩:∃j:Nat,j=2*a:=⟨_,rfl⟩
  obtain ⟨k,hk⟩:∃k:Nat,k=2*c:=⟨_,rfl⟩
  have r0:Int.tmod (n:Int) 10000=(n:Int):=by rw [Int.tmod_eq_emod_of_nonneg (by omega)];omega
  have q0:Int.tdiv (n:Int) 10000=0:=by rw [Int.tdiv_eq_ediv_of_nonneg (by omega)];omega
  have r1:Int.tmod (n:Int) 100=(a:Int):=by rw [Int.tmod_eq_emod_of_nonneg (by omega)];omega
  have q1:Int.tdiv (n:Int) 100=(c:Int):=by rw [Int.tdiv_eq_ediv_of_nonneg (by omega)];omega
  have w0:IntKind.wrap .u32 (n:Int)=(n:Int):=u32_wrap (by omega)
  have w1:IntKind.wrap .u32 ((a:Int)*2)=(j:Int):=by simp [IntKind.wrap,IntKind.bits,IntKind.signed];omega
  have w2:IntKind.wrap .u32 ((j:Int)+1)=(j:Int)+1:=by simp [IntKind.wrap,IntKind.bits,IntKind.signed];omega
  have w3:IntKind.wrap .u32 (c:Int)=(c:Int):=u32_wrap (by omega)
  have w4:IntKind.wrap .u32 ((c:Int)*2)=(k:Int):=by simp [IntKind.wrap,IntKind.bits,IntKind.signed];omega
  have w5:IntKind.wrap .u32 ((k:Int)+1)=(k:Int)+1:=by simp [IntKind.wrap,IntKind.bits,IntKind.signed];omega
  have w6:IntKind.wrap .u32 0=0:=rfl
  have x1:=sm_ix (j:=2*a+1) (d:=a % 10) (by omega) (by omega) (sm_hi a (by omega))
  have x0:=sm_ix (j:=2*a) (d:=a / 10) (by omega) (by omega) (sm_lo a (by omega))
  have x3:=sm_ix (j:=2*c+1) (d:=c % 10) (by omega) (by omega) (sm_hi c (by omega))
  have x2:=sm_ix (j:=2*c) (d:=c / 10) (by omega) (by omega) (sm_lo c (by omega))
  rw [←hj] at x0 x1
  rw [←hk] at x2 x3
  have ej:((j+1:Nat):Int)=(j:Int)+1:=by omega
  have ek:((k+1:Nat):Int)=(k:Int)+1:=by omega
  rw [ej] at x1
  rw [ek] at x3
  have e0:48+n / 1000=48+c / 10:=by omega
  have e1:48+n / 100 % 10=48+c % 10:=by omega
  have e2:48+n / 10 % 10=48+a / 10:=by omega
  have e3:48+n % 10=48+a % 10:=by omega
  rw [e0,e1,e2,e3] at hK
  obtain ⟨d0,hd0⟩:∃d,d=48+a / 10:=⟨_,rfl⟩
  obtain ⟨d1,hd1⟩:∃d,d=48+a % 10:=⟨_,rfl⟩
  obtain ⟨d2,hd2⟩:∃d,d=48+c / 10:=⟨_,rfl⟩
  obtain ⟨d3,hd3⟩:∃d,d=48+c % 10:=⟨_,rfl⟩
  rw [←hd0] at x0 hK
  rw [←hd1] at x1 hK
  rw [←hd2] at x2 hK
  rw [←hd3] at x3 hK
  simp only [smL] at x0 x1 x2 x3
  have y3:viaddrS 1 (.sl H.length 1 4 1) (.int .i64 3)=some (.ptr H.length 4):=by simp [viaddrS,vint]
  have y2:viaddrS 1 (.sl H.length 1 4 1) (.int .i64 2)=some (.ptr H.length 3):=by simp [viaddrS,vint]
  have y1:viaddrS 1 (.sl H.length 1 4 1) (.int .i64 1)=some (.ptr H.length 2):=by simp [viaddrS,vint]
  have y0:viaddrS 1 (.sl H.length 1 4 1) (.int .i64 0)=some (.ptr H.length 1):=by simp [viaddrS,vint]
  simp [vf85]
  refine wLoop_round ?_
  simp (disch:=first | omega | (simp;done)) [w0,r0,q0,r1,q1,w1,w2,w3,w4,w5,w6,x0,x1,x2,x3,y0,y1,y2,y3,wrap_i64,st_row,splice]
  simp [splice] at hK
  exact hK
theorem base5_t {H:Hp}{lim n:Nat}{K:V→Hp→Prop}(hlim:lim≤H.length)(h1:10000≤n)(h2:n<100000)
    (hK:K (.tup []) (H++[.row (splice (List.replicate 24 (.int .u8 0)) 1 [.int .u8 ((48+n / 10000:Nat):Int),.int .u8 ((48+n / 1000 % 10:Nat):Int),.int .u8 ((48+n / 100 % 10:Nat):Int),.int .u8 ((48+n / 10 % 10:Nat):Int),.int .u8 ((48+n % 10:Nat):Int)]) true])):VCall tbl lim 85 [.sl H.length 1 5 1,.int .u64 (n:Int)] (H++[.row (List.replicate 24 (.int .u8 0)) true]) K:=by
  refine VCall_fn tbl_at85 rfl ?_
  obtain ⟨u,hu⟩:∃u:Nat,u=n % 10000:=⟨_,rfl⟩
  obtain ⟨e,he⟩:∃e:Nat,e=n / 10000:=⟨_,rfl⟩
  obtain ⟨a,ha⟩:∃a:Nat,a=u % 100:=⟨_,rfl⟩
  obtain ⟨c,hc⟩:∃c:Nat,c=u / 100:=⟨_,rfl⟩
  obtain ⟨j,hj⟩:∃j:Nat,j=2*a:=⟨_,rfl⟩
  obtain ⟨k,hk⟩:∃k:Nat,k=2*c:=⟨_,rfl⟩
  have r0:Int.tmod (n:Int) 10000=(u:Int):=by rw [Int.tmod_eq_emod_of_nonneg (by omega)];omega
  have q0:Int.tdiv (n:Int) 10000=(e:Int):=by rw [Int.tdiv_eq_ediv_of_nonneg (by omega)];omega
  have r1:Int.tmod (u:Int) 100=(a:Int):=by rw [Int.tmod_eq_emod_of_nonneg (by omega)];omega
  have q1:Int.tdiv (u:Int) 100=(c:Int):=by rw [Int.tdiv_eq_ediv_of_nonneg (by omega)];omega
  have w0:IntKind.wrap .u32 (n:Int)=(n:Int):=u32_wrap (by omega)
  have w1:IntKind.wrap .u32 ((a:Int)*2)=(j:Int):=by simp [IntKind.wrap,IntKind.bits,IntKind.signed];omega
  have w2:IntKind.wrap .u32 ((j:Int)+1)=(j:Int)+1:=by simp [IntKind.wrap,IntKind.bits,IntKind.signed];omega
  have w3:IntKind.wrap .u32 (c:Int)=(c:Int):=u32_wrap (by omega)
  have w4:IntKind.wrap .u32 ((c:Int)*2)=(k:Int):=by simp [IntKind.wrap,IntKind.bits,IntKind.signed];omega
  have w5:IntKind.wrap .u32 ((k:Int)+1)=(k:Int)+1:=by simp [IntKind.wrap,IntKind.bits,IntKind.signed];omega
  have w6:IntKind.wrap .u32 (e:Int)=(e:Int):=u32_wrap (by omega)
  have w7:IntKind.wrap .u32 (48+(e:Int))=48+(e:Int):=by simp [IntKind.wrap,IntKind.bits,IntKind.signed];omega
  have w8:IntKind.wrap .u8 (48+(e:Int))=48+(e:Int):=by simp [IntKind.wrap,IntKind.bits,IntKind.signed];omega
  have x1:=sm_ix (j:=2*a+1) (d:=a % 10) (by omega) (by omega) (sm_hi a (by omega))
  have x0:=sm_ix (j:=2*a) (d:=a / 10) (by omega) (by omega) (sm_lo a (by omega))
  have x3:=sm_ix (j:=2*c+1) (d:=c % 10) (by omega) (by omega) (sm_hi c (by omega))
  have x2:=sm_ix (j:=2*c) (d:=c / 10) (by omega) (by omega) (sm_lo c (by omega))
  rw [←hj] at x0 x1
  rw [←hk] at x2 x3
  have ej:((j+1:Nat):Int)=(j:Int)+1:=by omega
  have ek:((k+1:Nat):Int)=(k:Int)+1:=by omega
  rw [ej] at x1
  rw [ek] at x3
  have e9:((48+n / 10000:Nat):Int)=48+(e:Int):=by omega
  have e0:48+n / 1000 % 10=48+c / 10:=by omega
  have e1:48+n / 100 % 10=48+c % 10:=by omega
  have e2:48+n / 10 % 10=48+a / 10:=by omega
  have e3:48+n % 10=48+a % 10:=by omega
  rw [e9,e0,e1,e2,e3] at hK
  obtain ⟨d0,hd0⟩:∃d,d=48+a / 10:=⟨_,rfl⟩
  obtain ⟨d1,hd1⟩:∃d,d=48+a % 10:=⟨_,rfl⟩
  obtain ⟨d2,hd2⟩:∃d,d=48+c / 10:=⟨_,rfl⟩
  obtain ⟨d3,hd3⟩:∃d,d=48+c % 10:=⟨_,rfl⟩
  rw [←hd0] at x0 hK
  rw [←hd1] at x1 hK
  rw [←hd2] at x2 hK
  rw [←hd3] at x3 hK
  simp only [smL] at x0 x1 x2 x3
  have y4:viaddrS 1 (.sl H.length 1 5 1) (.int .i64 4)=some (.ptr H.length 5):=by simp [viaddrS,vint]
  have y3:viaddrS 1 (.sl H.length 1 5 1) (.int .i64 3)=some (.ptr H.length 4):=by simp [viaddrS,vint]
  have y2:viaddrS 1 (.sl H.length 1 5 1) (.int .i64 2)=some (.ptr H.length 3):=by simp [viaddrS,vint]
  have y1:viaddrS 1 (.sl H.length 1 5 1) (.int .i64 1)=some (.ptr H.length 2):=by simp [viaddrS,vint]
  have y0:viaddrS 1 (.sl H.length 1 5 1) (.int .i64 0)=some (.ptr H.length 1):=by simp [viaddrS,vint]
  simp [vf85]
  refine wLoop_round ?_
  simp (disch:=first | omega | (simp;done)) [w0,r0,q0,r1,q1,w1,w2,w3,w4,w5,w6,w7,w8,x0,x1,x2,x3,y0,y1,y2,y3,y4,wrap_i64,st_row,splice]
  simp [splice] at hK
  exact hK
theorem base6_t {H:Hp}{lim n:Nat}{K:V→Hp→Prop}(hlim:lim≤H.length)(h1:100000≤n)(h2:n<1000000)
    (hK:K (.tup []) (H++[.row (splice (List.replicate 24 (.int .u8 0)) 1 [.int .u8 ((48+n / 100000:Nat):Int),.int .u8 ((48+n / 10000 % 10:Nat):Int),.int .u8 ((48+n / 1000 % 10:Nat):Int),.int .u8 ((48+n / 100 % 10:Nat):Int),.int .u8 ((48+n / 10 % 10:Nat):Int),.int .u8 ((48+n % 10:Nat):Int)]) true])):VCall tbl lim 85 [.sl H.length 1 6 1,.int .u64 (n:Int)] (H++[.row (List.replicate 24 (.int .u8 0)) true]) K:=by
  refine VCall_fn tbl_at85 rfl ?_
  obtain ⟨u,hu⟩:∃u:Nat,u=n % 10000:=⟨_,rfl⟩
  obtain ⟨e,he⟩:∃e:Nat,e=n / 10000:=⟨_,rfl⟩
  obtain ⟨g,hg⟩:∃g:Nat,g=2*e:=⟨_,rfl⟩
  obtain ⟨a,ha⟩:∃a:Nat,a=u % 100:=⟨_,rfl⟩
  obtain ⟨c,hc⟩:∃c:Nat,c=u / 100:=⟨_,rfl⟩
  obtain ⟨j,hj⟩:∃j:Nat,j=2*a:=⟨_,rfl⟩
  obtain ⟨k,hk⟩:∃k:Nat,k=2*c:=⟨_,rfl⟩
  have r0:Int.tmod (n:Int) 10000=(u:Int):=by rw [Int.tmod_eq_emod_of_nonneg (by omega)];omega
  have q0:Int.tdiv (n:Int) 10000=(e:Int):=by rw [Int.tdiv_eq_ediv_of_nonneg (by omega)];omega
  have r1:Int.tmod (u:Int) 100=(a:Int):=by rw [Int.tmod_eq_emod_of_nonneg (by omega)];omega
  have q1:Int.tdiv (u:Int) 100=(c:Int):=by rw [Int.tdiv_eq_ediv_of_nonneg (by omega)];omega
  have w0:IntKind.wrap .u32 (n:Int)=(n:Int):=u32_wrap (by omega)
  have w1:IntKind.wrap .u32 ((a:Int)*2)=(j:Int):=by simp [IntKind.wrap,IntKind.bits,IntKind.signed];omega
  have w2:IntKind.wrap .u32 ((j:Int)+1)=(j:Int)+1:=by simp [IntKind.wrap,IntKind.bits,IntKind.signed];omega
  have w3:IntKind.wrap .u32 (c:Int)=(c:Int):=u32_wrap (by omega)
  have w4:IntKind.wrap .u32 ((c:Int)*2)=(k:Int):=by simp [IntKind.wrap,IntKind.bits,IntKind.signed];omega
  have w5:IntKind.wrap .u32 ((k:Int)+1)=(k:Int)+1:=by simp [IntKind.wrap,IntKind.bits,IntKind.signed];omega
  have w6:IntKind.wrap .u32 (e:Int)=(e:Int):=u32_wrap (by omega)
  have r2:Int.tmod (e:Int) 100=(e:Int):=by rw [Int.tmod_eq_emod_of_nonneg (by omega)];omega
  have q2:Int.tdiv (e:Int) 100=0:=by rw [Int.tdiv_eq_ediv_of_nonneg (by omega)];omega
  have w7:IntKind.wrap .u32 ((e:Int)*2)=(g:Int):=by simp [IntKind.wrap,IntKind.bits,IntKind.signed];omega
  have w8:IntKind.wrap .u32 ((g:Int)+1)=(g:Int)+1:=by simp [IntKind.wrap,IntKind.bits,IntKind.signed];omega
  have w9:IntKind.wrap .u32 0=0:=rfl
  have x5:=sm_ix (j:=2*e+1) (d:=e % 10) (by omega) (by omega) (sm_hi e (by omega))
  have x4:=sm_ix (j:=2*e) (d:=e / 10) (by omega) (by omega) (sm_lo e (by omega))
  rw [←hg] at x4 x5
  have eg:((g+1:Nat):Int)=(g:Int)+1:=by omega
  rw [eg] at x5
  have x1:=sm_ix (j:=2*a+1) (d:=a % 10) (by omega) (by omega) (sm_hi a (by omega))
  have x0:=sm_ix (j:=2*a) (d:=a / 10) (by omega) (by omega) (sm_lo a (by omega))
  have x3:=sm_ix (j:=2*c+1) (d:=c % 10) (by omega) (by omega) (sm_hi c (by omega))
  have x2:=sm_ix (j:=2*c) (d:=c / 10) (by omega) (by omega) (sm_lo c (by omega))
  rw [←hj] at x0 x1
  rw [←hk] at x2 x3
  have ej:((j+1:Nat):Int)=(j:Int)+1:=by omega
  have ek:((k+1:Nat):Int)=(k:Int)+1:=by omega
  rw [ej] at x1
  rw [ek] at x3
  have e9:48+n / 100000=48+e / 10:=by omega
  have e8:48+n / 10000 % 10=48+e % 10:=by omega
  have e0:48+n / 1000 % 10=48+c / 10:=by omega
  have e1:48+n / 100 % 10=48+c % 10:=by omega
  have e2:48+n / 10 % 10=48+a / 10:=by omega
  have e3:48+n % 10=48+a % 10:=by omega
  rw [e9,e8,e0,e1,e2,e3] at hK
  obtain ⟨d0,hd0⟩:∃d,d=48+a / 10:=⟨_,rfl⟩
  obtain ⟨d1,hd1⟩:∃d,d=48+a % 10:=⟨_,rfl⟩
  obtain ⟨d2,hd2⟩:∃d,d=48+c / 10:=⟨_,rfl⟩
  obtain ⟨d3,hd3⟩:∃d,d=48+c % 10:=⟨_,rfl⟩
  obtain ⟨d4,hd4⟩:∃d,d=48+e / 10:=⟨_,rfl⟩
  obtain ⟨d5,hd5⟩:∃d,d=48+e % 10:=⟨_,rfl⟩
  rw [←hd4] at x4 hK
  rw [←hd5] at x5 hK
  rw [←hd0] at x0 hK
  rw [←hd1] at x1 hK
  rw [←hd2] at x2 hK
  rw [←hd3] at x3 hK
  simp only [smL] at x0 x1 x2 x3 x4 x5
  have y5:viaddrS 1 (.sl H.length 1 6 1) (.int .i64 5)=some (.ptr H.length 6):=by simp [viaddrS,vint]
  have y4:viaddrS 1 (.sl H.length 1 6 1) (.int .i64 4)=some (.ptr H.length 5):=by simp [viaddrS,vint]
  have y3:viaddrS 1 (.sl H.length 1 6 1) (.int .i64 3)=some (.ptr H.length 4):=by simp [viaddrS,vint]
  have y2:viaddrS 1 (.sl H.length 1 6 1) (.int .i64 2)=some (.ptr H.length 3):=by simp [viaddrS,vint]
  have y1:viaddrS 1 (.sl H.length 1 6 1) (.int .i64 1)=some (.ptr H.length 2):=by simp [viaddrS,vint]
  have y0:viaddrS 1 (.sl H.length 1 6 1) (.int .i64 0)=some (.ptr H.length 1):=by simp [viaddrS,vint]
  simp [vf85]
  refine wLoop_round ?_
  simp (disch:=first | omega | (simp;done)) [w0,r0,q0,r1,q1,w1,w2,w3,w4,w5,w6,r2,q2,w7,w8,w9,x0,x1,x2,x3,x4,x5,y0,y1,y2,y3,y4,y5,wrap_i64,st_row,splice]
  simp [splice] at hK
  exact hK
theorem base7_t {H:Hp}{lim:Nat}{K:V→Hp→Prop}(hlim:lim≤H.length)
    (hK:K (.tup []) (H++[.row (splice (List.replicate 24 (.int .u8 0)) 1 [.int .u8 49,.int .u8 48,.int .u8 48,.int .u8 48,.int .u8 48,.int .u8 48,.int .u8 48]) true])):VCall tbl lim 85 [.sl H.length 1 7 1,.int .u64 1000000] (H++[.row (List.replicate 24 (.int .u8 0)) true]) K:=by
  refine VCall_fn tbl_at85 rfl ?_
  have r0:Int.tmod (1000000:Int) 10000=0:=rfl
  have q0:Int.tdiv (1000000:Int) 10000=100:=rfl
  have r1:Int.tmod (0:Int) 100=0:=rfl
  have q1:Int.tdiv (0:Int) 100=0:=rfl
  have r2:Int.tmod (100:Int) 100=0:=rfl
  have q2:Int.tdiv (100:Int) 100=1:=rfl
  have w0:IntKind.wrap .u32 1000000=1000000:=rfl
  have w1:IntKind.wrap .u32 0=0:=rfl
  have w2:IntKind.wrap .u32 1=1:=rfl
  have w3:IntKind.wrap .u32 100=100:=rfl
  have w4:IntKind.wrap .u32 49=49:=rfl
  have w5:IntKind.wrap .u8 49=49:=rfl
  have x1:vidxT (.str smL) (.int .u32 1)=some (.int .u8 48):=sm_ix (j:=1) (d:=0) (by omega) (by omega) (sm_hi 0 (by omega))
  have x0:vidxT (.str smL) (.int .u32 0)=some (.int .u8 48):=sm_ix (j:=0) (d:=0) (by omega) (by omega) (sm_lo 0 (by omega))
  simp only [smL] at x0 x1
  have y6:viaddrS 1 (.sl H.length 1 7 1) (.int .i64 6)=some (.ptr H.length 7):=by simp [viaddrS,vint]
  have y5:viaddrS 1 (.sl H.length 1 7 1) (.int .i64 5)=some (.ptr H.length 6):=by simp [viaddrS,vint]
  have y4:viaddrS 1 (.sl H.length 1 7 1) (.int .i64 4)=some (.ptr H.length 5):=by simp [viaddrS,vint]
  have y3:viaddrS 1 (.sl H.length 1 7 1) (.int .i64 3)=some (.ptr H.length 4):=by simp [viaddrS,vint]
  have y2:viaddrS 1 (.sl H.length 1 7 1) (.int .i64 2)=some (.ptr H.length 3):=by simp [viaddrS,vint]
  have y1:viaddrS 1 (.sl H.length 1 7 1) (.int .i64 1)=some (.ptr H.length 2):=by simp [viaddrS,vint]
  have y0:viaddrS 1 (.sl H.length 1 7 1) (.int .i64 0)=some (.ptr H.length 1):=by simp [viaddrS,vint]
  simp [vf85]
  refine wLoop_round ?_
  simp (disch:=first | omega | (simp;done)) [r0,q0,r1,q1,r2,q2,w0,w1,w2,w3,w4,w5,x0,x1,y0,y1,y2,y3,y4,y5,y6,wrap_i64,st_row,splice]
  simp [splice] at hK
  exact hK
end Go.Proofs.YtiilicnmcpjmkaaGreatDoor.Vm
namespace Go.Proofs.YtiilicnmcpjmkaaGreatDoor.Vm
open Go
set_option maxRecDepth 100000
set_option linter.unusedSimpArgs false
set_option linter.unusedVariables false
attribute [-simp] List.getD_eq_getElem?_getD
theorem dd3 {n:Nat}(h1:100≤n)(h2:n<1000):Lib.decDigits n=[UInt8.ofNat (48+n / 100),UInt8.ofNat (48+n / 10 % 10),UInt8.ofNat (48+n % 10)]:=by
  rw [dd_big (by omega),dd_big (by omega),Lib.decDigits_one (by omega),show n / 10 / 10=n / 100 by omega];rfl
theorem dd4 {n:Nat}(h1:1000≤n)(h2:n<10000):Lib.decDigits n=[UInt8.ofNat (48+n / 1000),UInt8.ofNat (48+n / 100 % 10),UInt8.ofNat (48+n / 10 % 10),UInt8.ofNat (48+n % 10)]:=by
  rw [dd_big (by omega),dd3 (by omega) (by omega),show n / 10 / 100=n / 1000 by omega,show n / 10 / 10=n / 100 by omega];rfl
theorem dd5 {n:Nat}(h1:10000≤n)(h2:n<100000):Lib.decDigits n=[UInt8.ofNat (48+n / 10000),UInt8.ofNat (48+n / 1000 % 10),UInt8.ofNat (48+n / 100 % 10),UInt8.ofNat (48+n / 10 % 10),UInt8.ofNat (48+n % 10)]:=by
  rw [dd_big (by omega),dd4 (by omega) (by omega),show n / 10 / 1000=n / 10000 by omega,show n / 10 / 100=n / 1000 by omega,show n / 10 / 10=n / 100 by omega];rfl
theorem dd6 {n:Nat}(h1:100000≤n)(h2:n<1000000):Lib.decDigits n=[UInt8.ofNat (48+n / 100000),UInt8.ofNat (48+n / 10000 % 10),UInt8.ofNat (48+n / 1000 % 10),UInt8.ofNat (48+n / 100 % 10),UInt8.ofNat (48+n / 10 % 10),UInt8.ofNat (48+n % 10)]:=by
  rw [dd_big (by omega),dd5 (by omega) (by omega),show n / 10 / 10000=n / 100000 by omega,show n / 10 / 1000=n / 10000 by omega,show n / 10 / 100=n / 1000 by omega,show n / 10 / 10=n / 100 by omega];rfl
theorem bytesOf_n:∀{ds:List Nat},(∀d∈ds,d<256)→bytesOf (ds.map fun d:Nat=>V.int .u8 (d:Int))=some (ds.map UInt8.ofNat)
  | [],_=>rfl
  | d :: ds,h=>by
    have hd:=h d (by simp)
    have ih:=bytesOf_n (ds:=ds) fun x hx=>h x (by simp [hx])
    simp only [List.map_cons,bytesOf,byteOf,ih]
    simp
theorem strB_z {H:Hp}{ds:List Nat}(h:∀d∈ds,d<256)(hl:ds.length≤20):vstrB (H++[.row (splice (List.replicate 24 (.int .u8 0)) 1 (ds.map fun d:Nat=>V.int .u8 (d:Int))) true]) (.sl H.length 1 ds.length 1)=some (.str (bA (ds.map UInt8.ofNat))):=by
  have e:vcells 1 (H++[.row (splice (List.replicate 24 (.int .u8 0)) 1 (ds.map fun d:Nat=>V.int .u8 (d:Int))) true]) (.sl H.length 1 ds.length 1)=some (ds.map fun d:Nat=>V.int .u8 (d:Int)):=by
    simp only [vcells,List.getElem?_concat_length]
    have e1:(splice (List.replicate 24 (V.int .u8 0)) 1 (ds.map fun d:Nat=>V.int .u8 (d:Int)))=(V.int .u8 0) :: ((ds.map fun d:Nat=>V.int .u8 (d:Int))++(List.replicate 24 (V.int .u8 0)).drop (1+ds.length)):=by
      simp [splice]
    rw [e1]
    simp
    omega
  simp only [vstrB,e,bytesOf_n h]
  rfl
theorem slA_z {H:Hp}{R:List V}{d:Nat}(hR:R.length=24)(h1:1≤d)(h2:d≤20):vslA 24 1 (H++[.row R true]) (.ptr H.length 0) (some (.int .i64 1)) (some (.int .i64 (1+(d:Int))))=some (.sl H.length 1 d 1):=by
  have hb:vbounds 24 (some (.int .i64 1)) (some (.int .i64 (1+(d:Int))))=some (1,1+d):=by
    simp only [vbounds,vint]
    rw [if_pos (by omega),if_pos (by omega)]
    congr 2
  have e1:¬(1=1+d):=by omega
  have e2:1+d-1=d:=by omega
  simp only [vslA,List.getElem?_concat_length,hR,hb,e1,e2,if_false]
  simp
theorem splice_len {R cs:List V}{o:Nat}(h:o+cs.length≤R.length):(splice R o cs).length=R.length:=by
  simp [splice];omega
theorem zr:List.replicate 24 (V.int .u8 0)=[V.int .u8 0,V.int .u8 0,V.int .u8 0,V.int .u8 0,V.int .u8 0,V.int .u8 0,V.int .u8 0,V.int .u8 0,V.int .u8 0,V.int .u8 0,V.int .u8 0,V.int .u8 0,V.int .u8 0,V.int .u8 0,V.int .u8 0,V.int .u8 0,V.int .u8 0,V.int .u8 0,V.int .u8 0,V.int .u8 0,V.int .u8 0,V.int .u8 0,V.int .u8 0,V.int .u8 0]:=Eq.trans rfl rfl
def BaseT (H:Hp) (lim n:Nat):Prop:=∃ds:List Nat,nD n=ds.length∧(∀d∈ds,d<256)∧1≤ds.length∧ds.length≤7∧ds.map UInt8.ofNat=Lib.decDigits n ∧
    (∀K':V→Hp→Prop,K' (.tup []) (H++[.row (splice (List.replicate 24 (.int .u8 0)) 1 (ds.map fun d:Nat=>V.int .u8 (d:Int))) true])→VCall tbl lim 85 [.sl H.length 1 ds.length 1,.int .u64 (n:Int)] (H++[.row (List.replicate 24 (.int .u8 0)) true]) K')
theorem base_t {H:Hp}{lim n:Nat}(hlim:lim≤H.length)(h1:100≤n)(h2:n≤1000000):BaseT H lim n:=by
  by_cases c3:n<1000
  · exact ⟨[48+n / 100,48+n / 10 % 10,48+n % 10],by unfold nD;simp [c3],by simp;omega,by simp,by simp,by rw [dd3 h1 c3];rfl,fun K' h=>base3_t hlim h1 c3 h⟩
  by_cases c4:n<10000
  · exact ⟨[48+n / 1000,48+n / 100 % 10,48+n / 10 % 10,48+n % 10],by unfold nD;simp [c3,c4],by simp;omega,by simp,by simp,by rw [dd4 (by omega) c4];rfl,fun K' h=>base4_t hlim (by omega) c4 h⟩
  by_cases c5:n<100000
  · exact ⟨[48+n / 10000,48+n / 1000 % 10,48+n / 100 % 10,48+n / 10 % 10,48+n % 10],by unfold nD;simp [c3,c4,c5],by simp;omega,by simp,by simp,by rw [dd5 (by omega) c5];rfl,fun K' h=>base5_t hlim (by omega) c5 h⟩
  by_cases c6:n<1000000
  · exact ⟨[48+n / 100000,48+n / 10000 % 10,48+n / 1000 % 10,48+n / 100 % 10,48+n / 10 % 10,48+n % 10],by unfold nD;simp [c3,c4,c5,c6],by simp;omega,by simp,by simp,by rw [dd6 (by omega) c6];rfl,fun K' h=>base6_t hlim (by omega) c6 h⟩
  obtain rfl:n=1000000:=by omega
  have e:Lib.decDigits 1000000=[49,48,48,48,48,48,48]:=by
    rw [dd_big (by omega),dd6 (by omega) (by omega)];rfl
  exact ⟨[49,48,48,48,48,48,48],by unfold nD;simp,by simp,by simp,by simp,by rw [e];rfl,fun K' h=>base7_t hlim h⟩
theorem format_c {H:Hp}{lim n:Nat}{K:V→Hp→Prop}(hg:HX glHp H)(hlim:lim≤H.length)(hn:n≤1000000)(hb:100≤n→BaseT H lim n)(hK:∀H',HX H H'→K (.str (bA (Lib.decDigits n))) H'):VCall tbl lim 63 [.int .i64 (n:Int),.int .i64 10] H K:=by
  refine VCall_fn tbl_at63 rfl ?_
  have p0:((0:Int)≤(n:Int))=True:=eq_true (by omega)
  have p1:((n:Int)<0)=False:=eq_false (by omega)
  by_cases h1:n<100
  · have h1':((n:Int)<100)=True:=eq_true (by omega)
    simp [vf63,p0,h1']
    refine small_t h1 ?_
    simp
    exact hK H .refl
  · have h1':((n:Int)<100)=False:=eq_false (by omega)
    have wu:IntKind.wrap .u64 (n:Int)=(n:Int):=by simp [IntKind.wrap,IntKind.bits,IntKind.signed];omega
    simp [vf63,p0,p1,h1',wu]
    refine numDigits_t (hg.trans ⟨_,rfl⟩) (by omega) hn ?_
    simp
    obtain ⟨ds,e1,e2,e3,e4,e5,e6⟩:=hb (show 100≤n by omega)
    have eI:((nD n:Nat):Int)=(ds.length:Int):=by rw [e1]
    have w1:IntKind.wrap .i64 (1+(ds.length:Int))=1+(ds.length:Int):=wrap_i64 (by omega) (by omega)
    have sA:=slA_z (H:=H) (R:=List.replicate 24 (V.int .u8 0)) (d:=ds.length) (by simp) e3 (by omega)
    have hR:(splice (List.replicate 24 (V.int .u8 0)) 1 (ds.map fun d:Nat=>V.int .u8 (d:Int))).length=24:=by rw [splice_len (by simp;omega)];simp
    have sB:=slA_z (H:=H) (d:=ds.length) hR e3 (by omega)
    have sC:=strB_z (H:=H) e2 (by omega)
    rw [e5] at sC
    rw [zr] at sA sB sC e6
    rw [eI]
    simp [w1,sA]
    refine e6 _ ?_
    generalize splice _ 1 (ds.map fun d:Nat=>V.int .u8 (d:Int))=R at *
    simp [w1,p1,sB,sC,eI]
    exact hK _ ⟨_,rfl⟩
theorem itoa_c {H:Hp}{lim n:Nat}{K:V→Hp→Prop}(hg:HX glHp H)(hlim:lim≤H.length)(hn:n≤1000000)(hb:100≤n→BaseT H lim n)(hK:∀H',HX H H'→K (.str (bA (Lib.decDigits n))) H'):VCall tbl lim 21 [.int .i64 (n:Int)] H K:=by
  refine VCall_fn tbl_at21 rfl ?_
  simp [vf21]
  refine VCall_fn tbl_at43 rfl ?_
  simp [vf43]
  refine format_c hg hlim hn hb fun H1 x1 => ?_
  simp
  exact hK H1 x1
theorem itoa_t {H:Hp}{lim n:Nat}{K:V→Hp→Prop}(hg:HX glHp H)(hlim:lim≤H.length)(hn:n≤1000000)(hK:∀H',HX H H'→K (.str (bA (Lib.decDigits n))) H'):VCall tbl lim 21 [.int .i64 (n:Int)] H K:=itoa_c hg hlim hn (fun h=>base_t hlim h hn) hK
end Go.Proofs.YtiilicnmcpjmkaaGreatDoor.Vm
namespace Go.Proofs.YtiilicnmcpjmkaaGreatDoor.Vm
open Go
set_option maxRecDepth 100000
set_option linter.unusedSimpArgs false
set_option linter.unusedVariables false
attribute [-simp] List.getD_eq_getElem?_getD
theorem chkE_of {H:Hp}(h:HX glHp H):chkE H=true:=by
  obtain ⟨X,rfl⟩:=h
  rfl
theorem end3 (l:List UInt8):(∃n,Lib.atoiAll l=.ok n)∨Lib.atoiAll l=.syntax∨Lib.atoiAll l=.range:=by
  cases Lib.atoiAll l<;>simp
theorem atoi_t {H:Hp}{lim:Nat}{s:ByteArray}{K:V→Hp→Prop}(hg:HX glHp H)(hs:s.size≤281474976710656)
    (hok:∀n,Lib.atoiAll s.data.toList=.ok n→K (.tup [.int .i64 n,.inil]) H)
    (hno:(∀n,Lib.atoiAll s.data.toList≠.ok n)→∀x,K (.tup [.int .i64 x,.iface teN (.ptr H.length 0)]) (H++[.dead])):VCall tbl lim 50 [.str s] H K:=by
  have hc:=chkE_of hg
  have hf:([V.str s]:List V).all flatV=true:=rfl
  rcases end3 s.data.toList with ⟨n,hq⟩ | hq | hq
  · refine VCall_prim (g:=pAtoi) (bs:=[]) tbl_at50 rfl rfl (v:=.tup [.int .i64 n,.inil]) ?_ (by simpa using hok n hq)
    have hgg:gAtoi [.str s]=some (.int .i64 n,true):=by simp only [gAtoi,hs,if_true,hq]
    simp only [pAtoi,numP,hc,hf,hgg,Bool.and_self,if_true,flatV]
  · refine VCall_prim (g:=pAtoi) (bs:=[.dead]) tbl_at50 rfl rfl (v:=.tup [.int .i64 0,.iface teN (.ptr H.length 0)]) ?_ (hno (fun n h=>by rw [hq] at h;cases h) 0)
    have hgg:gAtoi [.str s]=some (.int .i64 0,false):=by simp only [gAtoi,hs,if_true,hq]
    simp only [pAtoi,numP,hc,hf,hgg,Bool.and_self,if_true,flatV,Bool.false_eq_true,if_false]
  · refine VCall_prim (g:=pAtoi) (bs:=[.dead]) tbl_at50 rfl rfl (v:=.tup [.int .i64 (Lib.atoiSat s.data.toList),.iface teN (.ptr H.length 0)]) ?_ (hno (fun n h=>by rw [hq] at h;cases h) _)
    have hgg:gAtoi [.str s]=some (.int .i64 (Lib.atoiSat s.data.toList),false):=by simp only [gAtoi,hs,if_true,hq]
    simp only [pAtoi,numP,hc,hf,hgg,Bool.and_self,if_true,flatV,Bool.false_eq_true,if_false]
end Go.Proofs.YtiilicnmcpjmkaaGreatDoor.Vm
namespace Go.Proofs.YtiilicnmcpjmkaaGreatDoor.Vm
open Go
set_option maxRecDepth 100000
set_option linter.unusedSimpArgs false
set_option linter.unusedVariables false
attribute [-simp] List.getD_eq_getElem?_getD
theorem rd3_0 {a b c:V}:rd none [a,b,c] 0=some a:=Eq.trans rfl rfl
theorem rd3_1 {a b c:V}:rd none [a,b,c] 1=some b:=Eq.trans rfl rfl
theorem rd3_2 {a b c:V}:rd none [a,b,c] 2=some c:=Eq.trans rfl rfl
theorem rd3_w {a b c:V}:rd (some 3) [a,b,c] 0=some (.agg [a,b,c]):=Eq.trans rfl rfl
theorem rd6_0 {a b c d e f:V}:rd none [a,b,c,d,e,f] 0=some a:=Eq.trans rfl rfl
theorem rd6_1 {a b c d e f:V}:rd none [a,b,c,d,e,f] 1=some b:=Eq.trans rfl rfl
theorem rd6_2 {a b c d e f:V}:rd none [a,b,c,d,e,f] 2=some c:=Eq.trans rfl rfl
theorem rd6_3 {a b c d e f:V}:rd none [a,b,c,d,e,f] 3=some d:=Eq.trans rfl rfl
theorem rd6_4 {a b c d e f:V}:rd none [a,b,c,d,e,f] 4=some e:=Eq.trans rfl rfl
theorem rd6_5 {a b c d e f:V}:rd none [a,b,c,d,e,f] 5=some f:=Eq.trans rfl rfl
theorem rd6_w {a b c d e f:V}:rd (some 6) [a,b,c,d,e,f] 0=some (.agg [a,b,c,d,e,f]):=Eq.trans rfl rfl
theorem rd6_s {a b c d e f:V}:rd (some 3) [a,b,c,d,e,f] 2=some (.agg [c,d,e]):=Eq.trans rfl rfl
theorem splice33 {a b c x y z:V}:splice [a,b,c] 0 [x,y,z]=[x,y,z]:=by simp [splice]
theorem splice66 {a b c d e f x y z u v w:V}:splice [a,b,c,d,e,f] 0 [x,y,z,u,v,w]=[x,y,z,u,v,w]:=by simp [splice]
theorem iz3:ints (zs 3)=[.int .i64 0,.int .i64 0,.int .i64 0]:=Eq.trans rfl rfl
attribute [simp] rd3_0 rd3_1 rd3_2 rd3_w rd6_0 rd6_1 rd6_2 rd6_3 rd6_4 rd6_5 rd6_w rd6_s splice33 splice66
theorem vwant_dv {b:Bool}{l:List V}:vwant b (.tup l)=false:=Eq.trans rfl rfl
attribute [simp] vwant_dv
theorem vlenT_str {s:ByteArray}:vlenT (.str s)=some (.int .i64 s.size):=Eq.trans rfl rfl
attribute [simp] vlenT_str
theorem lastO {α:Type}{X:List α}{c:α}:(X++[c])[X.length]? = some c:=by simp
theorem lastS {α:Type}{X:List α}{c d:α}:(X++[c]).set X.length d=X++[d]:=by simp
theorem keepL {L:Lo}{q:Nat}{c:List V}(h:L[q]? = some c):∀d,(L++[d])[q]? = some c:=fun d=>by
  rw [List.getElem?_append_left (List.getElem?_eq_some_iff.1 h).1];exact h
def allN (f:Nat→Bool):Nat→Bool
  | 0=>true
  | n+1=>allN f n&&f n
theorem allN_at {f:Nat→Bool}:∀{n:Nat},allN f n=true→∀{i:Nat},i<n→f i=true
  | n+1,h,i,hi=>by
    simp only [allN,Bool.and_eq_true] at h
    by_cases e:i=n
    · subst e;exact h.2
    · exact allN_at h.1 (by omega)
theorem allN_of {f:Nat→Bool}:∀{n:Nat},(∀i,i<n→f i=true)→allN f n=true
  | 0,_=>rfl
  | n+1,h=>by simp only [allN,h n (by omega),Bool.and_true];exact allN_of fun i hi=>h i (by omega)
theorem allN_not {f:Nat→Bool}{n i:Nat}(hi:i<n)(hf:f i=false):allN f n=false:=by
  cases h:allN f n with
  | false=>rfl
  | true=>rw [allN_at h hi] at hf;cases hf
structure En where
  p:Int
  s:Int
  a:Int
  b:Int
  c:Int
  t:ByteArray
def En.zero:En:=⟨0,0,0,0,0,⟨#[]⟩⟩
instance:Inhabited En:=⟨En.zero⟩
def En.cells (e:En):List V:=[.int .i64 e.p,.int .i64 e.s,.int .i64 e.a,.int .i64 e.b,.int .i64 e.c,.str e.t]
def enC:Cod En 6:=⟨En.cells,fun _=>rfl⟩
def En.in64 (e:En):Prop:=I64 e.p∧I64 e.s∧I64 e.a∧I64 e.b∧I64 e.c∧e.t.size≤maxLen
def EnsV (H:Hp)(v:V)(l:List En):Prop:=LstV enC H v l∧∀i,i<l.length→(l.getD i default).in64
theorem EnsV.mono {H H':Hp}{v:V}{l:List En}(hx:HX H H')(h:EnsV H v l):EnsV H' v l:=⟨h.1.mono hx,h.2⟩
def chT (s:ByteArray)(i:Nat):Nat:=(s.data.getD i 0).toNat
def byB (s:ByteArray)(i:Nat):Bool:=decide (32≤chT s i∧chT s i≤126)
def rightB (s:ByteArray):Bool:=decide (1≤s.size∧s.size≤60) && !decide (chT s 0=32) && !decide (chT s (s.size-1)=32)&&allN (byB s) s.size
theorem idxT {s:ByteArray}{i:Nat}(h:i<s.size):vidxT (.str s) (.int .i64 (i:Int))=some (.int .u8 (chT s i:Nat)):=by
  simp only [vidxT,vint];rw [if_pos (by omega)];rfl
def byC:Cod Nat 1:=⟨fun n=>[.int .u8 n],fun _=>rfl⟩
def bytesN (s:ByteArray):List Nat:=s.data.toList.map fun b=>b.toNat
theorem bytesN_len {s:ByteArray}:(bytesN s).length=s.size:=by simp [bytesN]
theorem bytesN_get {s:ByteArray}{i:Nat}(h:i<s.size):(bytesN s).getD i default=chT s i:=by
  have h':i<s.data.size:=h
  have e0:s.data[i]? = some s.data[i]:=Array.getElem?_eq_getElem h'
  simp [bytesN,chT,List.getD_eq_getElem?_getD,e0,Array.getD_eq_getD_getElem?]
theorem bytes_all {s:ByteArray}:vbytesL s=byC.all (bytesN s):=by
  simp only [vbytesL,Cod.all,bytesN,List.map_map]
  induction s.data.toList with
  | nil=>rfl
  | cons x l ih=>simp only [List.map_cons,List.flatten_cons,←ih];rfl
theorem bytesV {H:Hp}{s:ByteArray}:LstV byC (H++[.row (vbytesL s) true]) (.sl H.length 0 s.size 1) (bytesN s):=by
  have h:=LstV.sl (c:=byC) (H:=H++[.row (vbytesL s) true]) (b:=H.length) (off:=0) (cs:=vbytesL s) (own:=true) (l:=bytesN s) List.getElem?_concat_length (by simp [vbytesL,bytesN_len]) (by rw [bytes_all];rw [List.drop_zero,List.take_of_length_le (by rw [Cod.all_len];exact Nat.le_refl _)])
  rwa [bytesN_len] at h
def tri (a b c:Int)(q:Nat):Int:=if q=0 then a else if q=1 then b else c
def En.at (e:En)(q:Nat):Int:=tri e.a e.b e.c q
theorem tri_rd {a b c:Int}{q:Nat}(hq:q<3):rd none [.int .i64 a,.int .i64 b,.int .i64 c] q=some (.int .i64 (tri a b c q)):=by
  match q,hq with
  | 0,_=>rfl
  | 1,_=>rfl
  | 2,_=>rfl
theorem en_rd {p s a b c:Int}{t:ByteArray}{q:Nat}(hq:q<3):rd none [.int .i64 p,.int .i64 s,.int .i64 a,.int .i64 b,.int .i64 c,.str t] (2+q)=some (.int .i64 (tri a b c q)):=by
  match q,hq with
  | 0,_=>rfl
  | 1,_=>rfl
  | 2,_=>rfl
def seesB (e f:En):Bool:=decide (f.s≤e.at f.p.toNat)
def cntE (c:List En)(q:Int):Nat→Nat
  | 0=>0
  | n+1=>cntE c q n+if (c.getD n default).p=q then 1 else 0
theorem cntE_le {c:List En}{q:Int}:∀{n:Nat},cntE c q n≤n
  | 0=>Nat.le_refl _
  | n+1=>by have:=@cntE_le c q n;simp only [cntE];split<;>omega
theorem cntE_mono {c:List En} {q:Int}:∀{n m:Nat},n≤m→cntE c q n≤cntE c q m
  | n, 0, h => by have:n=0:=by omega
                  subst this;exact Nat.le_refl _
  | n,m+1,h=>by
    by_cases e:n=m+1
    · subst e;exact Nat.le_refl _
    · have:=@cntE_mono c q n m (by omega);simp only [cntE];omega
def okE1 (c:List En)(i:Nat):Bool:=decide (0≤(c.getD i default).p∧(c.getD i default).p≤2)&&rightB (c.getD i default).t
def prevP (c:List En)(i:Nat):Int:=if i=0 then 0 else (c.getD (i-1) default).p
def okE2 (c:List En)(i:Nat):Bool:=decide ((c.getD i default).s=cntE c (c.getD i default).p i+1∧prevP c i≤(c.getD i default).p)
def lessB (e f:En):Bool:=decide (e.a<f.a∨e.b<f.b∨e.c<f.c)
def selfB (e:En):Bool:=decide (e.at e.p.toNat=e.s-1)
def rangB (c:List En)(e:En):Bool:=decide (0≤e.a∧e.a≤cntE c 0 c.length)&&decide (0≤e.b∧e.b≤cntE c 1 c.length)&&decide (0≤e.c∧e.c≤cntE c 2 c.length)
def trB (c:List En)(e:En)(j:Nat):Bool := !(seesB e (c.getD j default)&&lessB e (c.getD j default))
def seenR (c:List En)(e:En):Bool:=selfB e&&rangB c e&&allN (trB c e) c.length
def valE (c:List En):Int :=
  if 60<c.length then 4 else if allN (fun i=>okE1 c i&&okE2 c i) c.length=false then 1 else if allN (fun i=>seenR c (c.getD i default)) c.length=false then 11 else 0
theorem valE_small {c:List En}(h:valE c=0):c.length≤60:=by
  unfold valE at h;split at h
  · cases h
  · omega
theorem valE_ok {c:List En}(h:valE c=0){i:Nat}(hi:i<c.length):okE1 c i=true∧okE2 c i=true∧seenR c (c.getD i default)=true:=by
  unfold valE at h
  split at h
  · cases h
  split at h
  · cases h
  rename_i h1
  split at h
  · cases h
  rename_i h2
  simp only [Bool.not_eq_false] at h1 h2
  have a:=allN_at h1 hi
  simp only [Bool.and_eq_true] at a
  exact ⟨a.1,a.2,allN_at h2 hi⟩
def triC (c:List En)(n q:Nat):Int:=tri (cntE c 0 n) (cntE c 1 n) (cntE c 2 n) q
theorem triC_eq {c:List En}{n:Nat}{q:Int}(h:0≤q∧q≤2):tri (cntE c 0 n) (cntE c 1 n) (cntE c 2 n) q.toNat=cntE c q n:=by
  rcases (show q=0∨q=1∨q=2 by omega) with rfl | rfl | rfl<;>rfl
def rq (c:List En)(e:En)(q:Nat):Bool:=decide (0≤e.at q∧e.at q≤triC c c.length q)
theorem rangB_eq {c:List En}{e:En}:rangB c e=allN (rq c e) 3:=by
  simp [rangB,allN,rq,En.at,triC,tri]
def sq (e f:En)(q:Nat):Bool := !(seesB e f&&decide (e.at q<f.at q))
theorem sq_eq {e f:En}:(!(seesB e f&&lessB e f))=allN (sq e f) 3:=by
  simp only [allN,sq,lessB,En.at,tri,Bool.true_and,if_true,Nat.one_ne_zero,if_false,show ¬(2:Nat)=0 by omega,show ¬(2:Nat)=1 by omega]
  cases seesB e f<;>simp [Bool.decide_or]
  cases decide (e.a<f.a)<;>cases decide (e.b<f.b)<;>cases decide (e.c<f.c)<;>rfl
def wq (c:List En)(e:En)(q:Nat):Bool := !((decide ((q:Int)=e.p) && !decide (e.at q=e.s-1)) || !rq c e q)
end Go.Proofs.YtiilicnmcpjmkaaGreatDoor.Vm
namespace Go.Proofs.YtiilicnmcpjmkaaGreatDoor.Vm
open Go
set_option maxRecDepth 100000
set_option linter.unusedSimpArgs false
set_option linter.unusedVariables false
attribute [-simp] List.getD_eq_getElem?_getD
def filE (g:Nat→Bool)(c:List En):Nat→List En
  | 0=>[]
  | n+1=>if g n then filE g c n++[c.getD n default] else filE g c n
theorem filE_len {g:Nat→Bool}{c:List En}:∀{n:Nat},(filE g c n).length≤n
  | 0=>Nat.le_refl _
  | n+1=>by have:=@filE_len g c n;simp only [filE];split<;>simp<;>omega
theorem getD_app {l:List En}{x:En}{i:Nat}(h:i<l.length):(l++[x]).getD i default=l.getD i default:=by
  simp only [List.getD_eq_getElem?_getD,List.getElem?_append_left h]
theorem getD_end {l:List En}{x:En}:(l++[x]).getD l.length default=x:=by
  simp [List.getD_eq_getElem?_getD]
theorem filE_mem {g:Nat→Bool} {c:List En}:∀{n i:Nat},i<(filE g c n).length→∃j,j<n∧g j=true∧(filE g c n).getD i default=c.getD j default
  | n + 1,i,hi=>by
    simp only [filE] at hi ⊢
    split
    · rename_i hg
      rw [if_pos hg] at hi
      by_cases h:i<(filE g c n).length
      · obtain ⟨j,h1,h2,h3⟩:=filE_mem h
        exact ⟨j,by omega,h2,by rw [getD_app h];exact h3⟩
      · have:i=(filE g c n).length:=by simp at hi;omega
        subst this
        exact ⟨n,by omega,hg,getD_end⟩
    · rename_i hg
      rw [if_neg hg] at hi
      obtain ⟨j,h1,h2,h3⟩:=filE_mem hi
      exact ⟨j,by omega,h2,h3⟩
theorem filE_in {g:Nat→Bool} {c:List En}:∀{n j:Nat},j<n→g j=true→∃i,i<(filE g c n).length∧(filE g c n).getD i default=c.getD j default
  | n + 1,j,hj,hg=>by
    by_cases e:j=n
    · subst e
      refine ⟨(filE g c j).length,?_,?_⟩
      · simp only [filE,hg,if_true];simp
      · simp only [filE,hg,if_true];exact getD_end
    · obtain ⟨i,h1,h2⟩:=filE_in (c:=c) (show j<n by omega) hg
      refine ⟨i,?_,?_⟩
      · simp only [filE];split
        · simp;omega
        · exact h1
      · simp only [filE];split
        · rw [getD_app h1];exact h2
        · exact h2
theorem cntE_app {l:List En}{x:En}{q:Int}:∀{i:Nat},i≤l.length→cntE (l++[x]) q i=cntE l q i
  | 0,_=>rfl
  | i+1,h=>by simp only [cntE,cntE_app (show i≤l.length by omega),getD_app (show i<l.length by omega)]
theorem cntE_app1 {l:List En}{x:En}{q:Int}:cntE (l++[x]) q (l++[x]).length=cntE l q l.length+if x.p=q then 1 else 0:=by
  have e:(l++[x]).length=l.length+1:=by simp
  rw [e,cntE,cntE_app (Nat.le_refl _),getD_end]
theorem val_num {c:List En}(h:valE c=0){i:Nat}(hi:i<c.length):(c.getD i default).s=cntE c (c.getD i default).p i+1:=by
  have:=(valE_ok h hi).2.1
  simp only [okE2,decide_eq_true_eq] at this
  exact this.1
theorem val_pl {c:List En}(h:valE c=0){i:Nat}(hi:i<c.length):0≤(c.getD i default).p∧(c.getD i default).p≤2:=by
  have:=(valE_ok h hi).1
  simp only [okE1,Bool.and_eq_true,decide_eq_true_eq] at this
  exact this.1
theorem val_ord {c:List En}(h:valE c=0):∀{j i:Nat},j<c.length→i≤j→(c.getD i default).p≤(c.getD j default).p
  | 0,i,hj,hi=>by
    have:i=0:=by omega
    subst this;exact Int.le_refl _
  | j + 1,i,hj,hi=>by
    by_cases e:i=j+1
    · subst e;exact Int.le_refl _
    · have h1:=val_ord h (show j<c.length by omega) (show i≤j by omega)
      have h2:=(valE_ok h hj).2.1
      simp only [okE2,decide_eq_true_eq] at h2
      have h3:=h2.2
      unfold prevP at h3
      rw [if_neg (by omega),Nat.add_sub_cancel] at h3
      omega
theorem val_lt {c:List En}(h:valE c=0){i j:Nat}(hij:i<j)(hj:j<c.length)(hp:(c.getD i default).p=(c.getD j default).p):(c.getD i default).s<(c.getD j default).s:=by
  rw [val_num h hj,val_num h (show i<c.length by omega),hp]
  have:=@cntE_mono c (c.getD j default).p (i+1) j hij
  simp only [cntE,hp,if_true] at this
  omega
theorem val_uniq {c:List En}(h:valE c=0){i j:Nat}(hi:i<c.length)(hj:j<c.length)(hp:(c.getD i default).p=(c.getD j default).p)(hs:(c.getD i default).s=(c.getD j default).s):i=j:=by
  rcases Nat.lt_trichotomy i j with h1 | h1 | h1
  · have:=val_lt h h1 hj hp;omega
  · exact h1
  · have:=val_lt h h1 hi hp.symm;omega
theorem val_top {c:List En}(h:valE c=0){i:Nat}(hi:i<c.length):(c.getD i default).s≤cntE c (c.getD i default).p c.length:=by
  rw [val_num h hi]
  have:=@cntE_mono c (c.getD i default).p (i+1) c.length hi
  simp only [cntE,if_true] at this
  omega
def upto (k:Int→Int)(c:List En)(i:Nat):Bool:=decide ((c.getD i default).s≤k (c.getD i default).p)
theorem at3 {e f:En}{q:Nat}(h:lessB e f=false):f.at q≤e.at q:=by
  simp only [lessB,decide_eq_false_iff_not] at h
  unfold En.at tri
  split
  · omega
  · split<;>omega
end Go.Proofs.YtiilicnmcpjmkaaGreatDoor.Vm
namespace Go.Proofs.YtiilicnmcpjmkaaGreatDoor.Vm
open Go
set_option maxRecDepth 100000
set_option linter.unusedSimpArgs false
set_option linter.unusedVariables false
attribute [-simp] List.getD_eq_getElem?_getD
section
variable {lim:Nat}{H:Hp}{K:V→Hp→Prop}{v:V}{c:List En}{e f:En}{s:ByteArray}{n:Int}
theorem card_isPlace (hK:K (.bool (decide (0≤n∧n≤2))) H):VCall tbl lim 32 [.int .i64 n] H K:=by
  refine VCall_fn tbl_at32 rfl ?_
  have e:decide (0≤n∧n≤2)=(decide (0≤n)&&decide (n<3)):=by rw [Bool.decide_and];congr 1;simp only [decide_eq_decide];omega
  rw [e] at hK
  simp [vf32]
  simpa using hK
theorem card_hasSeen (hf:0≤f.p∧f.p≤2)(hK:K (.bool (seesB e f)) H):VCall tbl lim 37 [.agg e.cells,.agg f.cells] H K:=by
  refine VCall_fn tbl_at37 rfl ?_
  have a1:=en_rd (p:=e.p) (s:=e.s) (a:=e.a) (b:=e.b) (c:=e.c) (t:=e.t) (q:=f.p.toNat) (by omega)
  simp (disch:=omega) [vf37,En.cells,a1]
  exact hK
theorem card_isRight (hs:s.size≤10000)(hK:∀H',HX H H'→K (.bool (rightB s)) H'):VCall tbl lim 33 [.str s] H K:=by
  refine VCall_fn tbl_at33 rfl ?_
  by_cases h1:s.size=0
  · have e:rightB s=false:=by simp [rightB,h1]
    rw [e] at hK
    simp [vf33,h1]
    exact hK _ (HX.refl)
  by_cases h2:60<s.size
  · have e:rightB s=false:=by simp [rightB];omega
    rw [e] at hK
    simp [vf33,h1,show ¬(s.size:Int)<1 by omega,show (60:Int)<s.size by omega]
    exact hK _ (HX.refl)
  have i0:=idxT (s:=s) (i:=0) (by omega)
  have i1:=idxT (s:=s) (i:=s.size-1) (by omega)
  have e1:((s.size-1:Nat):Int)=(s.size:Int)-1:=by omega
  rw [e1] at i1
  simp only [Int.natCast_zero] at i0
  by_cases h3:chT s 0=32
  · have e:rightB s=false:=by simp [rightB,h3]
    rw [e] at hK
    simp [vf33,h1,show ¬(s.size:Int)<1 by omega,show ¬(60:Int)<s.size by omega,i0,h3]
    exact hK _ (HX.refl)
  have h3':¬(chT s 0:Int)=32:=by omega
  by_cases h4:chT s (s.size-1)=32
  · have e:rightB s=false:=by simp [rightB,h4]
    rw [e] at hK
    simp (disch:=omega) [vf33,h1,show ¬(s.size:Int)<1 by omega,show ¬(60:Int)<s.size by omega,i0,h3',wrap_i64,i1,h4]
    exact hK _ (HX.refl)
  have h4':¬(chT s (s.size-1):Int)=32:=by omega
  simp (disch:=omega) [vf33,h1,show ¬(s.size:Int)<1 by omega,show ¬(60:Int)<s.size by omega,i0,h3',wrap_i64,i1,h4']
  have hr:rightB s=allN (byB s) s.size:=by
    simp only [rightB,h3,h4]
    rw [decide_eq_true (by omega)];rfl
  rw [hr] at hK
  have hb:=bytesV (H:=H) (s:=s)
  have hx:HX H (H++[.row (vbytesL s) true]):=HX.push
  generalize V.sl H.length 0 s.size 1=bv at hb
  generalize H++[Blk.row (vbytesL s) true]=H1 at hb hx
  refine wLoop_up s.size (fun i fr L H'=>(fr 27=bv∧fr 28=.int .i64 s.size∧fr 29=.int .i64 i)∧H'=H1∧allN (byB s) i=true) ⟨by simp,rfl,rfl⟩ ?_
  rintro i hi fr L H' ⟨⟨f27,f28,f29⟩,e0,hz⟩
  have e0:=e0.symm
  subst e0
  simp [f27,f28,f29]
  refine cond_dec (fun ht => ?_) fun hfl => ?_
  · have ht:i<s.size:=by omega
    have hl:i<(bytesN s).length:=by rw [bytesN_len];exact ht
    have hg:vload none L H1 (ept 1 bv i)=some (.int .u8 (chT s i:Nat)):=by rw [hb.load1 hl];simp only [byC,bytesN_get ht];rfl
    simp (disch:=omega) [f27,f28,f29,hb.at hl,hg]
    refine cond_bool (fun hc => ?_) fun hc => ?_
    · have e:byB s i=false:=by simp only [byB,decide_eq_false_iff_not];simp at hc;omega
      rw [allN_not ht e] at hK
      simp;exact hK _ hx
    · have e:byB s i=true:=by simp only [byB,decide_eq_true_eq];simp at hc;omega
      simp (disch:=omega) [f27,f28,f29,wrap_i64,allN,e,hz]
      omega
  have:i=s.size:=by omega
  subst this
  rw [hz] at hK
  simp
  exact hK _ hx
end
end Go.Proofs.YtiilicnmcpjmkaaGreatDoor.Vm
namespace Go.Proofs.YtiilicnmcpjmkaaGreatDoor.Vm
open Go
set_option maxRecDepth 100000
set_option linter.unusedSimpArgs false
set_option linter.unusedVariables false
attribute [-simp] List.getD_eq_getElem?_getD
def cntsL (c:List En)(n:Nat):List V:=[.int .i64 (cntE c 0 n),.int .i64 (cntE c 1 n),.int .i64 (cntE c 2 n)]
section
variable {lim:Nat}{H:Hp}{K:V→Hp→Prop}{v:V}{c:List En}{e f:En}{s:ByteArray}{n:Int}
theorem en_load (h:LstV enC H v c){i:Nat}(hi:i<c.length){L:Lo}:vload (some 6) L H (ept 6 v i)=some (.agg [.int .i64 (c.getD i default).p,.int .i64 (c.getD i default).s,.int .i64 (c.getD i default).a,.int .i64 (c.getD i default).b,.int .i64 (c.getD i default).c,.str (c.getD i default).t]):=h.load hi
theorem en_get (h:LstV enC H v c){i j:Nat}(hi:i<c.length)(hj:j<6){L:Lo}:vload none L H (eptf 6 v i j)=rd none [.int .i64 (c.getD i default).p,.int .i64 (c.getD i default).s,.int .i64 (c.getD i default).a,.int .i64 (c.getD i default).b,.int .i64 (c.getD i default).c,.str (c.getD i default).t] j:=h.rd1 hi hj
theorem cnt_st {c:List En}{i:Nat}(h:0≤(c.getD i default).p∧(c.getD i default).p≤2):splice (cntsL c i) (c.getD i default).p.toNat [.int .i64 (cntE c (c.getD i default).p i+1)]=cntsL c (i+1):=by
  rcases (show (c.getD i default).p=0∨(c.getD i default).p=1∨(c.getD i default).p=2 by omega) with hp | hp | hp<;>simp [cntsL,cntE,hp,splice]
theorem cnt_rd {c:List En}{i:Nat}{q:Int}(h:0≤q∧q≤2):rd none (cntsL c i) q.toNat=some (.int .i64 (cntE c q i)):=by
  rcases (show q=0∨q=1∨q=2 by omega) with hp | hp | hp<;>subst hp<;>rfl
theorem cnt_rdN {c:List En}{i q:Nat}(h:q<3):rd none (cntsL c i) q=some (.int .i64 (triC c i q)):=tri_rd h
theorem cnt_len {c:List En}{i:Nat}:(cntsL c i).length=3:=rfl
theorem cnt_w {c:List En}{i:Nat}:rd (some 3) (cntsL c i) 0=some (.agg (cntsL c i)):=Eq.trans rfl rfl
theorem cnt_sp {c:List En}{i:Nat}{x y z:V}:splice [x,y,z] 0 (cntsL c i)=cntsL c i:=splice33
theorem card_clock (hc:LstV enC H v c)(hl:c.length≤60)(hp:∀i,i<c.length→0≤(c.getD i default).p∧(c.getD i default).p≤2)(hK:K (.agg (cntsL c c.length)) H):VCall tbl lim 34 [v] H K:=by
  refine VCall_fn tbl_at34 rfl ?_
  simp [vf34,hc.len]
  refine wLoop_up c.length (fun i fr L H'=>(fr 6=v∧fr 7=.int .i64 c.length∧fr 8=.int .i64 i∧fr 2=.lp 0 0∧fr 3=.lp 1 0)∧(∃X,L=[.int .i64 0,.int .i64 0,.int .i64 0] :: cntsL c i :: X)∧H'=H) ⟨by simp [hc.len],⟨[],rfl⟩,rfl⟩ ?_
  rintro i hi fr L H' ⟨⟨f6,f7,f8,f2,f3⟩,⟨X,rfl⟩,e0⟩
  have e0:=e0.symm
  subst e0
  simp [f6,f7,f8,f2,f3]
  refine cond_dec (fun ht => ?_) fun hfl => ?_
  · have ht:i<c.length:=by omega
    have hpi:=hp i ht
    have hle:=@cntE_le c (c.getD i default).p i
    simp (disch:=omega) [f6,f7,f8,f2,f3,hc.at ht,en_load hc,lastO,lastS,cnt_rd hpi,wrap_i64,cnt_len,show (c.getD i default).p.toNat≤2 by omega,cnt_st hpi]
    omega
  have:i=c.length:=by omega
  subst this
  simp [f2,f3,cnt_w,cnt_sp,cnt_len]
  exact hK
theorem card_seesRightly (hc:LstV enC H v c) (hl:c.length≤60) (hp:∀i,i<c.length→0≤(c.getD i default).p∧(c.getD i default).p≤2) (he:0≤e.p∧e.p≤2) (hs:1≤e.s∧e.s≤100)
    (hK:K (.bool (seenR c e)) H):VCall tbl lim 35 [v,.agg (cntsL c c.length),.agg e.cells] H K:=by
  refine VCall_fn tbl_at35 rfl ?_
  have a1:=en_rd (p:=e.p) (s:=e.s) (a:=e.a) (b:=e.b) (c:=e.c) (t:=e.t) (q:=e.p.toNat) (by omega)
  simp (disch:=omega) [vf35,En.cells,a1,wrap_i64]
  refine cond_bool (fun h => ?_) fun h => ?_
  · have h:selfB e=false:=by
      simp only [selfB,En.at];simp at h;exact decide_eq_false h
    simp only [seenR,h,Bool.false_and] at hK
    simp;exact hK
  have h:selfB e=true:=by
    simp only [selfB,En.at];simp at h;exact decide_eq_true h
  simp only [seenR,h,Bool.true_and,rangB_eq] at hK
  simp
  generalize hL0:([cntsL c c.length,[.int .i64 e.p,.int .i64 e.s,.int .i64 e.a,.int .i64 e.b,.int .i64 e.c,.str e.t]]:Lo)=L0
  have l0:L0[0]? = some (cntsL c c.length):=by rw [←hL0];rfl
  have l1:L0[1]? = some [.int .i64 e.p,.int .i64 e.s,.int .i64 e.a,.int .i64 e.b,.int .i64 e.c,.str e.t]:=by rw [←hL0];rfl
  clear hL0
  refine wLoop_up 3 (fun i fr L H'=>(fr 0=v∧fr 4=.lp 0 0∧fr 5=.lp 1 0∧fr 22=.agg [.int .i64 e.a,.int .i64 e.b,.int .i64 e.c]∧fr 23=.int .i64 i)∧L=L0∧H'=H∧allN (rq c e) i=true) ⟨by simp,rfl,rfl,rfl⟩ ?_
  rintro i hi fr L H' ⟨⟨f0,f4,f5,f22,f23⟩,rfl,e0,hz⟩
  have e0:=e0.symm
  subst e0
  simp [f0,f4,f5,f22,f23]
  refine cond_dec (fun ht => ?_) fun hfl => ?_
  · have ht:i<3:=by omega
    have b1:=tri_rd (a:=e.a) (b:=e.b) (c:=e.c) ht
    have b2:=cnt_rdN (c:=c) (i:=c.length) ht
    simp (disch:=omega) [f0,f4,f5,f22,f23,b1,l0,b2]
    refine cond_bool (fun h => ?_) fun h => ?_
    · have h:rq c e i=false:=by
        have hh:¬(0≤e.at i∧e.at i≤triC c c.length i):=by
          show ¬(0≤tri e.a e.b e.c i∧tri e.a e.b e.c i≤triC c c.length i)
          simp only [Bool.or_eq_true,decide_eq_true_eq] at h;omega
        exact decide_eq_false hh
      rw [allN_not ht h] at hK
      simp;exact hK
    · have h:rq c e i=true:=by
        have hh:0≤e.at i∧e.at i≤triC c c.length i:=by
          show 0≤tri e.a e.b e.c i∧tri e.a e.b e.c i≤triC c c.length i
          simp only [Bool.or_eq_false_iff,decide_eq_false_iff_not] at h;omega
        exact decide_eq_true hh
      simp (disch:=omega) [f0,f4,f5,f22,f23,wrap_i64,allN,h,hz]
      omega
  have:i=3:=by omega
  subst this
  simp only [hz,Bool.true_and] at hK
  simp [f0,hc.len]
  refine wLoop_up c.length (fun i fr L H'=>(fr 37=v∧fr 38=.int .i64 c.length∧fr 39=.int .i64 i∧fr 5=.lp 1 0)∧L[1]? = some [.int .i64 e.p,.int .i64 e.s,.int .i64 e.a,.int .i64 e.b,.int .i64 e.c,.str e.t]∧H'=H∧allN (trB c e) i=true) ⟨by simp [f0,f5,hc.len],l1,rfl,rfl⟩ ?_
  clear f0 f4 f5 f22 f23 l0 l1
  rintro i hi fr L H' ⟨⟨f37,f38,f39,f5⟩,l1,e0,hz2⟩
  have e0:=e0.symm
  subst e0
  simp [f37,f38,f39,f5]
  refine cond_dec (fun ht => ?_) fun hfl => ?_
  · have ht:i<c.length:=by omega
    have k1:=keepL l1
    simp (disch:=omega) [f37,f38,f39,f5,hc.at ht,en_load hc,lastO,lastS]
    generalize hf:c.getD i default=g
    have hg:=hp i ht
    rw [hf] at hg
    generalize hL1:L++[[.int .i64 g.p,.int .i64 g.s,.int .i64 g.a,.int .i64 g.b,.int .i64 g.c,.str g.t]]=L1
    have l2:L1[L.length]? = some [.int .i64 g.p,.int .i64 g.s,.int .i64 g.a,.int .i64 g.b,.int .i64 g.c,.str g.t]:=by rw [←hL1];exact lastO
    have l3:L1[1]? = some [.int .i64 e.p,.int .i64 e.s,.int .i64 e.a,.int .i64 e.b,.int .i64 e.c,.str e.t]:=by rw [←hL1];exact k1 _
    clear hL1
    refine wLoop_up 3 (fun j fr L' H'=>(fr 37=v∧fr 38=.int .i64 c.length∧fr 39=.int .i64 i∧fr 5=.lp 1 0∧fr 10=.lp L.length 0∧fr 43=.int .i64 j)∧L'=L1∧H'=H∧allN (sq e g) j=true) ⟨by simp [f37,f38,f39,f5],rfl,rfl,rfl⟩ ?_
    clear f37 f38 f39 f5 l1 k1
    rintro j hj fr L' H' ⟨⟨f37,f38,f39,f5,f10,f43⟩,rfl,e0,hz3⟩
    have e0:=e0.symm
    subst e0
    simp [f37,f38,f39,f5,f10,f43]
    refine cond_dec (fun ht2 => ?_) fun hfl => ?_
    · have ht2:j<3:=by omega
      have b1:=en_rd (p:=e.p) (s:=e.s) (a:=e.a) (b:=e.b) (c:=e.c) (t:=e.t) ht2
      have b2:=en_rd (p:=g.p) (s:=g.s) (a:=g.a) (b:=g.b) (c:=g.c) (t:=g.t) ht2
      simp (disch:=omega) [f37,f38,f39,f5,f10,f43,l2,l3]
      refine card_hasSeen (e:=e) (f:=g) hg ?_
      cases hsb:seesB e g
      · have h:sq e g j=true:=by simp [sq,hsb]
        simp (disch:=omega) [f37,f38,f39,f5,f10,f43,l2,l3,wrap_i64,allN,h,hz3]
        omega
      simp (disch:=omega) [f37,f38,f39,f5,f10,f43,l2,l3,b1,b2]
      refine cond_dec (fun h => ?_) fun h => ?_
      · have h:sq e g j=false:=by
          have h':e.at j<g.at j:=h
          simp [sq,hsb,h']
        have h2:trB c e i=false:=by
          unfold trB;rw [hf,sq_eq];exact allN_not ht2 h
        rw [allN_not ht h2] at hK
        simp;exact hK
      · have h:sq e g j=true:=by
          have h':¬e.at j<g.at j:=h
          simp [sq,hsb,h']
        simp (disch:=omega) [f37,f38,f39,f5,f10,f43,l2,l3,wrap_i64,allN,h,hz3]
        omega
    have:j=3:=by omega
    subst this
    have h2:trB c e i=true:=by unfold trB;rw [hf,sq_eq];exact hz3
    simp (disch:=omega) [f37,f38,f39,f5,wrap_i64,allN,hz2,h2,l3]
    omega
  have:i=c.length:=by omega
  subst this
  rw [hz2] at hK
  simp
  exact hK
end
end Go.Proofs.YtiilicnmcpjmkaaGreatDoor.Vm
namespace Go.Proofs.YtiilicnmcpjmkaaGreatDoor.Vm
open Go
set_option maxRecDepth 100000
set_option linter.unusedSimpArgs false
set_option linter.unusedVariables false
attribute [-simp] List.getD_eq_getElem?_getD
def shortC (c:List En):Prop:=c.length≤100∧∀i,i<c.length→(c.getD i default).t.size≤6000
def okB (c:List En)(i:Nat):Bool:=okE1 c i&&okE2 c i
def seB (c:List En)(i:Nat):Bool:=seenR c (c.getD i default)
theorem valE_def {c:List En}:valE c=if 60<c.length then 4 else if allN (okB c) c.length=false then 1 else if allN (seB c) c.length=false then 11 else 0:=Eq.trans rfl rfl
theorem okB_at {c:List En}{i:Nat}(h:okB c i=true):(0≤(c.getD i default).p∧(c.getD i default).p≤2)∧(c.getD i default).s=cntE c (c.getD i default).p i+1:=by
  simp only [okB,okE1,okE2,Bool.and_eq_true,decide_eq_true_eq] at h
  exact ⟨h.1.1,h.2.1⟩
section
variable {lim:Nat}{H:Hp}{K:V→Hp→Prop}{v:V}{c:List En}{e f:En}{s:ByteArray}{n:Int}
theorem card_Validate (hc:LstV enC H v c) (hsh:shortC c) (hK:∀H',HX H H'→K (.int .i64 (valE c)) H'):VCall tbl lim 17 [v] H K:=by
  refine VCall_fn tbl_at17 rfl ?_
  rw [valE_def] at hK
  by_cases h60:60<c.length
  · simp only [h60,if_true] at hK
    simp [vf17,hc.len,show (60:Int)<c.length by omega]
    exact hK _ HX.refl
  simp only [h60,if_false] at hK
  simp [vf17,hc.len,show ¬(60:Int)<c.length by omega]
  refine wLoop_up c.length (fun i fr L H'=>(fr 0=v∧fr 12=v∧fr 13=.int .i64 c.length∧fr 14=.int .i64 i∧fr 3=.int .i64 (prevP c i)∧fr 4=.lp 0 0)∧(∃X,L=cntsL c i :: X)∧HX H H'∧allN (okB c) i=true) ⟨by simp [hc.len,prevP],⟨[],rfl⟩,HX.refl,rfl⟩ ?_
  rintro i hi fr L H' ⟨⟨f0,f12,f13,f14,f3,f4⟩,⟨X,rfl⟩,hx,hz⟩
  simp [f0,f12,f13,f14,f3,f4]
  refine cond_dec (fun ht => ?_) fun hfl => ?_
  · have ht:i<c.length:=by omega
    have hc':=hc.mono hx
    have hno:okB c i=false→∀H1,HX H' H1→K (.int .i64 1) H1:=fun e H1 x1=>by
      have hK:=hK H1 (hx.trans x1)
      rw [allN_not ht e] at hK
      exact hK
    have hsz:=hsh.2 i ht
    have hle:=@cntE_le c (c.getD i default).p i
    have hnx:prevP c (i+1)=(c.getD i default).p:=by simp [prevP]
    generalize hg:c.getD i default=g at hsz hle hnx
    by_cases h1:g.p<prevP c i
    · have e:okB c i=false:=by
        simp only [okB,okE2,hg,Bool.and_eq_false_iff,decide_eq_false_iff_not];right;omega
      simp (disch:=omega) [f0,f12,f13,f14,f3,f4,hc'.at ht,en_load hc',lastO,lastS,hg,h1]
      exact hno e _ HX.refl
    simp (disch:=omega) [f0,f12,f13,f14,f3,f4,hc'.at ht,en_load hc',lastO,lastS,hg,h1]
    refine card_isPlace ?_
    by_cases h2:0≤g.p∧g.p≤2
    · simp (disch:=omega) [f0,f12,f13,f14,f3,f4,hg,h1,h2,lastO,lastS]
      refine card_isRight (by omega) fun H1 x1 => ?_
      cases h3:rightB g.t
      · have e:okB c i=false:=by
          simp [okB,okE1,hg,h3]
        simp (disch:=omega) [f0,f12,f13,f14,f3,f4,hg,h1,h2,lastO,lastS]
        exact hno e _ x1
      by_cases h4:g.s=cntE c g.p i+1
      · have e:okB c i=true:=by
          simp only [okB,okE1,okE2,hg,h3,Bool.and_true,Bool.and_eq_true,decide_eq_true_eq];exact ⟨h2,h4,by omega⟩
        have r1:=cnt_rd (c:=c) (i:=i) h2
        have s1:=cnt_st (c:=c) (i:=i) (by rw [hg];exact h2)
        rw [hg] at s1
        simp (disch:=omega) [f0,f12,f13,f14,f3,f4,hg,h1,h2,lastO,lastS,r1,wrap_i64,h4,cnt_len,show g.p.toNat≤2 by omega,s1,allN,e,hz,hnx]
        exact ⟨by omega,hx.trans x1⟩
      · have e:okB c i=false:=by
          simp only [okB,okE2,hg,Bool.and_eq_false_iff,decide_eq_false_iff_not];right;omega
        have r1:=cnt_rd (c:=c) (i:=i) h2
        simp (disch:=omega) [f0,f12,f13,f14,f3,f4,hg,h1,h2,lastO,lastS,r1,wrap_i64,h4]
        exact hno e _ x1
    · have e:okB c i=false:=by
        simp only [okB,okE1,hg,Bool.and_eq_false_iff,decide_eq_false_iff_not];left;left;exact h2
      simp (disch:=omega) [f0,f12,f13,f14,f3,f4,hg,h1,eq_false h2,lastO,lastS]
      exact hno e _ HX.refl
  have:i=c.length:=by omega
  subst this
  simp only [hz,Bool.true_eq_false,if_false] at hK
  simp [f0,(hc.mono hx).len]
  have hok:∀i,i<c.length→okB c i=true:=fun i hi=>allN_at hz hi
  refine wLoop_up c.length (fun i fr L H1=>(fr 0=v∧fr 52=v∧fr 53=.int .i64 c.length∧fr 54=.int .i64 i∧fr 4=.lp 0 0)∧L[0]? = some (cntsL c c.length)∧HX H H1∧allN (seB c) i=true) ⟨by simp [f0,f4,hc.len],rfl,hx,rfl⟩ ?_
  clear f0 f12 f13 f14 f3 f4 hx
  rintro i hi fr L H' ⟨⟨f0,f52,f53,f54,f4⟩,l0,hx,hz2⟩
  have k0:=keepL l0
  simp [f0,f52,f53,f54,f4]
  refine cond_dec (fun ht => ?_) fun hfl => ?_
  · have ht:i<c.length:=by omega
    have hc':=hc.mono hx
    have ho:=okB_at (hok i ht)
    have hle:=@cntE_le c (c.getD i default).p i
    simp (disch:=omega) [f0,f52,f53,f54,f4,hc'.at ht,en_load hc',lastO,lastS,k0,cnt_w,hc'.stor]
    refine card_seesRightly (e:=c.getD i default) hc' (by omega) (fun j hj=>(okB_at (hok j hj)).1) ho.1 (by omega) ?_
    cases h:seenR c (c.getD i default)
    · simp
      have hK:=hK _ hx
      rw [allN_not (f:=seB c) ht h] at hK
      exact hK
    · have h:seB c i=true:=h
      simp (disch:=omega) [f0,f52,f53,f54,f4,wrap_i64,allN,h,hz2,k0]
      exact ⟨by omega,hx⟩
  have:i=c.length:=by omega
  subst this
  have hK:=hK _ hx
  rw [hz2] at hK
  simp
  exact hK
end
end Go.Proofs.YtiilicnmcpjmkaaGreatDoor.Vm
namespace Go.Proofs.YtiilicnmcpjmkaaGreatDoor.Vm
open Go
set_option maxRecDepth 100000
set_option linter.unusedSimpArgs false
set_option linter.unusedVariables false
attribute [-simp] List.getD_eq_getElem?_getD
section
variable {lim:Nat}{H:Hp}{K:V→Hp→Prop}{v:V}{c:List En}{e f:En}{s:ByteArray}{n:Int}
end
end Go.Proofs.YtiilicnmcpjmkaaGreatDoor.Vm
namespace Go.Proofs.YtiilicnmcpjmkaaGreatDoor.Vm
open Go
set_option maxRecDepth 100000
set_option linter.unusedSimpArgs false
set_option linter.unusedVariables false
attribute [-simp] List.getD_eq_getElem?_getD
def clkN (c:List En)(q:Int):Int:=if valE c=0 then (cntE c q c.length:Int) else 0
def clkL (c:List En):List V:=[.int .i64 (clkN c 0),.int .i64 (clkN c 1),.int .i64 (clkN c 2)]
def longE (c:List En)(i:Nat):Bool := !decide (200<(c.getD i default).t.size)
def longC (c:List En):Bool:=decide (100<c.length) || !allN (longE c) c.length
def nN (f:Nat→Bool):Nat→Nat
  | 0=>0
  | n+1=>nN f n+if f n then 1 else 0
def sN (g:Nat→Nat):Nat→Nat
  | 0=>0
  | n+1=>sN g n+g n
def inB (c:List En)(i k:Nat):Bool := !seesB (c.getD i default) (c.getD k default) && !seesB (c.getD k default) (c.getD i default)
def indG (c:List En)(i:Nat):Nat:=nN (inB c i) i
def indP (c:List En):Int:=if valE c=0 then (sN (indG c) c.length:Int) else 0
def inR (c:List En)(i:Int):Bool:=decide (0≤i∧i<c.length)
def hasE (c:List En)(i k:Int):Int:=if valE c≠0 then valE c else if inR c i&&inR c k then 0 else 5
def hasP (c:List En)(i k:Int):Bool:=if valE c≠0 then false else if inR c i&&inR c k then seesB (c.getD i.toNat default) (c.getD k.toNat default) else false
section
variable {lim:Nat}{H:Hp}{K:V→Hp→Prop}{v:V}{c:List En}{e f:En}{s:ByteArray}{n x y:Int}
end
end Go.Proofs.YtiilicnmcpjmkaaGreatDoor.Vm
namespace Go.Proofs.YtiilicnmcpjmkaaGreatDoor.Vm
open Go
set_option maxRecDepth 100000
set_option linter.unusedSimpArgs false
set_option linter.unusedVariables false
attribute [-simp] List.getD_eq_getElem?_getD
section
variable {lim:Nat}{H:Hp}{K:V→Hp→Prop}{v:V}{c:List En}{e f:En}{s:ByteArray}{n x y:Int}
end
end Go.Proofs.YtiilicnmcpjmkaaGreatDoor.Vm
namespace Go.Proofs.YtiilicnmcpjmkaaGreatDoor.Vm
open Go
set_option maxRecDepth 100000
set_option linter.unusedSimpArgs false
set_option linter.unusedVariables false
attribute [-simp] List.getD_eq_getElem?_getD
section
variable {α:Type}[Inhabited α]
structure PermR (a b:Nat)(l l':List α):Prop where
  perm:l'.Perm l
  out:∀i,(i<a∨b≤i)→l'.getD i default=l.getD i default
theorem PermR.refl {a b:Nat}{l:List α}:PermR a b l l:=⟨.refl _,fun _ _=>rfl⟩
theorem PermR.trans {a b:Nat}{l l' l'':List α}(h:PermR a b l l')(k:PermR a b l' l''):PermR a b l l'':=⟨k.perm.trans h.perm,fun i hi=>(k.out i hi).trans (h.out i hi)⟩
theorem PermR.len {a b:Nat}{l l':List α}(h:PermR a b l l'):l'.length=l.length:=h.perm.length_eq
def swp (l:List α)(i j:Nat):List α:=(l.set i (l.getD j default)).set j (l.getD i default)
theorem swp_len {l:List α}{i j:Nat}:(swp l i j).length=l.length:=by simp [swp]
theorem getD_of {l:List α}{i:Nat}(h:i<l.length):l.getD i default=l[i]:=by simp [List.getD_eq_getElem?_getD,h]
theorem setD_get {l:List α}{i k:Nat}{x:α}(h:i<l.length):(l.set i x).getD k default=if k=i then x else l.getD k default:=by
  simp only [List.getD_eq_getElem?_getD,List.getElem?_set]
  by_cases e:k=i
  · subst e;simp [h]
  · rw [if_neg (fun e'=>e e'.symm),if_neg e]
theorem swp_get {l:List α}{i j k:Nat}(hi:i<l.length)(hj:j<l.length):(swp l i j).getD k default=if k=j then l.getD i default else if k=i then l.getD j default else l.getD k default:=by
  rw [swp,setD_get (by simpa using hj),setD_get hi]
theorem swp_perm {a b:Nat}{l:List α}{i j:Nat}(hi:a≤i∧i<b)(hj:a≤j∧j<b)(hb:b≤l.length):PermR a b l (swp l i j):=by
  refine ⟨?_,fun k hk=>by rw [swp_get (by omega) (by omega),if_neg (by omega),if_neg (by omega)]⟩
  have h1:i<l.length:=by omega
  have h2:j<l.length:=by omega
  rw [swp,getD_of h1,getD_of h2]
  exact List.set_set_perm h1 h2
end
section
variable {α:Type}[Inhabited α]{cf:α→α→Int}
def leC (cf:α→α→Int)(x y:α):Prop:=¬cf y x<0
structure Ordr (cf:α→α→Int):Prop where
  tr:∀x y z,leC cf x y→leC cf y z→leC cf x z
  tot:∀x y,leC cf x y∨leC cf y x
omit [Inhabited α] in
theorem Ordr.rf (h:Ordr cf)(x:α):leC cf x x:=(h.tot x x).elim id id
def SortR (cf:α→α→Int)(a b:Nat)(l:List α):Prop:=∀p q,a≤p→p<q→q<b→leC cf (l.getD p default) (l.getD q default)
def InsR (cf:α→α→Int)(a i j:Nat)(l:List α):Prop :=
  (∀p q,a≤p→p<q→q≤i→p≠j→q≠j→leC cf (l.getD p default) (l.getD q default))∧∀q,j<q→q≤i→leC cf (l.getD j default) (l.getD q default)
theorem InsR.start {a i:Nat}{l:List α}(h:SortR cf a i l):InsR cf a i i l :=
  ⟨fun p q h1 h2 h3 _ h5=>h p q h1 h2 (by omega),fun q h1 h2=>absurd h1 (by omega)⟩
theorem InsR.swap (ho:Ordr cf) {a i j:Nat} {l:List α} (h:InsR cf a i j l) (ha:a<j) (hj:j≤i) (hi:i<l.length) (hlt:cf (l.getD j default) (l.getD (j-1) default)<0):InsR cf a i (j-1) (swp l j (j-1)):=by
  have hle:leC cf (l.getD j default) (l.getD (j-1) default):=by
    rcases ho.tot (l.getD j default) (l.getD (j-1) default) with h1 | h1
    · exact h1
    · exact absurd hlt h1
  have g:∀k,(swp l j (j-1)).getD k default=if k=j-1 then l.getD j default else if k=j then l.getD (j-1) default else l.getD k default:=fun k=>swp_get (by omega) (by omega)
  refine ⟨fun p q h1 h2 h3 h4 h5 => ?_,fun q h1 h2 => ?_⟩
  · rw [g p,g q,if_neg h4,if_neg h5]
    by_cases e1:p=j
    · rw [if_pos e1,if_neg (by omega)]
      exact h.1 (j-1) q (by omega) (by omega) h3 (by omega) (by omega)
    · rw [if_neg e1]
      by_cases e2:q=j
      · rw [if_pos e2]
        exact h.1 p (j-1) h1 (by omega) (by omega) (by omega) (by omega)
      · rw [if_neg e2];exact h.1 p q h1 h2 h3 e1 e2
  · rw [g (j-1),g q,if_pos rfl,if_neg (by omega)]
    by_cases e:q=j
    · rw [if_pos e];exact hle
    · rw [if_neg e];exact h.2 q (by omega) h2
theorem InsR.done (ho:Ordr cf) {a i j:Nat} {l:List α} (h:InsR cf a i j l) (ha:a≤j) (hj:j≤i) (hx:j=a∨¬cf (l.getD j default) (l.getD (j-1) default)<0):SortR cf a (i+1) l:=by
  intro p q h1 h2 h3
  by_cases e1:p=j
  · subst e1;exact h.2 q h2 (by omega)
  · by_cases e2:q=j
    · subst e2
      rcases hx with hx | hx
      · omega
      · by_cases e3:p=q-1
        · subst e3;exact hx
        · exact ho.tr _ _ _ (h.1 p (q-1) h1 (by omega) (by omega) e1 (by omega)) hx
    · exact h.1 p q h1 h2 (by omega) e1 e2
end
theorem setGet {H:Hp}{b:Nat}{x:Blk}(h:b<H.length):(H.set b x)[b]? = some x:=by simp [h]
section
variable {α:Type}[Inhabited α]
def swr (l:List α)(a b:Nat):Nat→List α
  | 0=>l
  | n+1=>swp (swr l a b n) (a+n) (b+n)
theorem swr_len {l:List α}{a b:Nat}:∀{n:Nat},(swr l a b n).length=l.length
  | 0=>rfl
  | n+1=>by rw [swr,swp_len,swr_len]
theorem swr_get {l:List α}{a b N:Nat}(hab:a+N≤b)(hb:b+N≤l.length):∀{n:Nat},n≤N→∀k,(swr l a b n).getD k default=if a≤k∧k<a+n then l.getD (k-a+b) default else if b≤k∧k<b+n then l.getD (k-b+a) default else l.getD k default
  | 0,_,k=>by rw [swr,if_neg (by omega),if_neg (by omega)]
  | n+1,hn,k=>by
    have ih:=swr_get hab hb (n:=n) (by omega)
    rw [swr,swp_get (by rw [swr_len];omega) (by rw [swr_len];omega),ih (a+n),ih (b+n),ih k]
    repeat' split
    all_goals first | rfl | (exfalso;omega) | (exact congrArg (fun z=>List.getD _ z default) (by omega))
theorem swr_perm {l:List α}{a b x y:Nat}(hx:x≤a):∀{n:Nat},a+n≤y→b+n≤y→x≤b→y≤l.length→PermR x y l (swr l a b n)
  | 0,_,_,_,_=>PermR.refl
  | n+1,h1,h2,h3,h4=>by
    have ih:=swr_perm (l:=l) (b:=b) hx (n:=n) (y:=y) (by omega) (by omega) h3 h4
    exact ih.trans (swp_perm ⟨by omega,by omega⟩ ⟨by omega,by omega⟩ (by rw [swr_len];omega))
def RotR (a m b:Nat)(l l':List α):Prop:=∀k,l'.getD k default=if a≤k∧k<b then (if k<a+(b-m) then l.getD (k+(m-a)) default else l.getD (k-(b-m)) default) else l.getD k default
def RotI (a m b i j:Nat)(l l':List α):Prop:=∀k,(if a≤k∧k<b then (if k<a+(b-m) then l.getD (k+(m-a)) default else l.getD (k-(b-m)) default) else l.getD k default) =
  if m-i≤k∧k<m+j then (if k<m-i+j then l'.getD (k+i) default else l'.getD (k-j) default) else l'.getD k default
theorem RotI.start {a m b:Nat}{l:List α}(h:a≤m∧m≤b):RotI a m b (m-a) (b-m) l l:=fun k=>by
  repeat' split
  all_goals first | rfl | (exfalso;omega) | (exact congrArg (fun z=>List.getD _ z default) (by omega))
theorem RotI.more {a m b i j:Nat}{l l':List α}(h:RotI a m b i j l l')(hi:i≤m)(hj:j<i)(hl:m+j≤l'.length):RotI a m b (i-j) j l (swr l' (m-i) m j):=fun k=>by
  have g:=swr_get (l:=l') (a:=m-i) (b:=m) (N:=j) (by omega) hl (Nat.le_refl _)
  rw [h k]
  simp only [g]
  repeat' split
  all_goals first | rfl | (exfalso;omega) | (exact congrArg (fun z=>List.getD _ z default) (by omega))
theorem RotI.less {a m b i j:Nat}{l l':List α}(h:RotI a m b i j l l')(hi:i≤m)(hj:i<j)(hl:m+j≤l'.length):RotI a m b i (j-i) l (swr l' (m-i) (m+j-i) i):=fun k=>by
  have g:=swr_get (l:=l') (a:=m-i) (b:=m+j-i) (N:=i) (by omega) (by omega) (Nat.le_refl _)
  rw [h k]
  simp only [g]
  repeat' split
  all_goals first | rfl | (exfalso;omega) | (exact congrArg (fun z=>List.getD _ z default) (by omega))
theorem RotI.done {a m b i:Nat}{l l':List α}(h:RotI a m b i i l l')(hi:i≤m)(hl:m+i≤l'.length):RotR a m b l (swr l' (m-i) m i):=fun k=>by
  have g:=swr_get (l:=l') (a:=m-i) (b:=m) (N:=i) (by omega) hl (Nat.le_refl _)
  rw [h k,g k]
  repeat' split
  all_goals first | rfl | (exfalso;omega) | (exact congrArg (fun z=>List.getD _ z default) (by omega))
theorem RotR.same {a m b:Nat}{l:List α}(h:(a=m∧m≤b)∨(m=b∧a≤m)):RotR a m b l l:=fun k=>by
  rcases h with ⟨rfl,h⟩ | ⟨rfl,h⟩
  · repeat' split
    all_goals first | rfl | (exfalso;omega) | (exact congrArg (fun z=>List.getD _ z default) (by omega))
  · repeat' split
    all_goals first | rfl | (exfalso;omega) | (exact congrArg (fun z=>List.getD _ z default) (by omega))
theorem PermR.mem {a b:Nat}{l l':List α}(h:PermR a b l l')(hb:b≤l.length){k:Nat}(hk:a≤k∧k<b):∃k',(a≤k'∧k'<b)∧l'.getD k default=l.getD k' default:=by
  have hlen:=h.len
  have e1:l'.take a=l.take a:=by
    apply List.ext_getElem?
    intro i
    by_cases hi:i<a
    · rw [List.getElem?_take_of_lt hi,List.getElem?_take_of_lt hi]
      have:=h.out i (Or.inl hi)
      rw [getD_of (by omega),getD_of (by omega)] at this
      rw [List.getElem?_eq_getElem (by omega),List.getElem?_eq_getElem (by omega),this]
    · rw [List.getElem?_eq_none (by simp;omega),List.getElem?_eq_none (by simp;omega)]
  have e2:l'.drop b=l.drop b:=by
    apply List.ext_getElem?
    intro i
    rw [List.getElem?_drop,List.getElem?_drop]
    by_cases hi:b+i<l.length
    · have:=h.out (b+i) (Or.inr (by omega))
      rw [getD_of (by omega),getD_of (by omega)] at this
      rw [List.getElem?_eq_getElem (by omega),List.getElem?_eq_getElem (by omega),this]
    · rw [List.getElem?_eq_none (by omega),List.getElem?_eq_none (by omega)]
  have sp:∀q:List α,q=q.take a++((q.drop a).take (b-a)++q.drop b):=fun q=>by
    have:=(List.take_append_drop a q).symm
    have h2:=(List.take_append_drop (b-a) (q.drop a)).symm
    rw [List.drop_drop,show a+(b-a)=b by omega] at h2
    rw [←h2];exact this
  have hp:=h.perm
  rw [sp l',sp l,e1,e2] at hp
  have hp2:=(List.perm_append_right_iff _).1 ((List.perm_append_left_iff _).1 hp)
  have hm:l'.getD k default∈(l'.drop a).take (b-a):=by
    rw [List.mem_iff_getElem?]
    refine ⟨k-a,?_⟩
    rw [List.getElem?_take_of_lt (by omega),List.getElem?_drop,show a+(k-a)=k by omega,getD_of (by omega),List.getElem?_eq_getElem (by omega)]
  have hm2:=hp2.mem_iff.1 hm
  obtain ⟨i,hi⟩:=List.mem_iff_getElem?.1 hm2
  have hil:i<b-a:=by
    have:=(List.getElem?_eq_some_iff.1 hi).1
    simp at this;omega
  rw [List.getElem?_take_of_lt hil,List.getElem?_drop] at hi
  refine ⟨a+i,by omega,?_⟩
  rw [getD_of (show a+i<l.length by omega)]
  rw [List.getElem?_eq_getElem (by omega)] at hi
  exact (Option.some.inj hi).symm
theorem PermR.wide {a b x y:Nat}{l l':List α}(h:PermR a b l l')(hx:x≤a)(hy:b≤y):PermR x y l l':=⟨h.perm,fun i hi=>h.out i (by omega)⟩
variable {cf:α→α→Int}
theorem SortR.keep {a b:Nat}{l l':List α}(h:SortR cf a b l)(e:∀k,a≤k∧k<b→l'.getD k default=l.getD k default):SortR cf a b l':=fun p q h1 h2 h3=>by
  rw [e p (by omega),e q (by omega)];exact h p q h1 h2 h3
theorem SortR.join {a m b:Nat}{l l':List α}(hl:b≤l.length)(hm:a≤m∧m≤b)(cross:∀x y,a≤x→x<m→m≤y→y<b→leC cf (l.getD x default) (l.getD y default))
    (p1:∀k,a≤k∧k<m→∃k',(a≤k'∧k'<m)∧l'.getD k default=l.getD k' default) (p2:∀k,m≤k∧k<b→∃k',(m≤k'∧k'<b)∧l'.getD k default=l.getD k' default)
    (s1:SortR cf a m l') (s2:SortR cf m b l'):SortR cf a b l':=fun p q h1 h2 h3=>by
  by_cases hq:q<m
  · exact s1 p q h1 h2 hq
  · by_cases hp:p<m
    · obtain ⟨p',hp',e1⟩:=p1 p ⟨h1,hp⟩
      obtain ⟨q',hq',e2⟩:=p2 q ⟨by omega,h3⟩
      rw [e1,e2];exact cross p' q' hp'.1 hp'.2 hq'.1 hq'.2
    · exact s2 p q (by omega) h2 h3
structure SymS (cf:α→α→Int)(l:List α)(n lo hi s:Nat):Prop where
  rng:lo≤s∧s≤hi
  yes:lo<s→leC cf (l.getD (s-1) default) (l.getD (n-s) default)
  no:s<hi→cf (l.getD (n-1-s) default) (l.getD s default)<0
theorem sym_turn (ho:Ordr cf){a m b s:Nat}{l l':List α}(hab:a<m∧m<b)(h1:SortR cf a m l)(h2:SortR cf m b l)
    (hs:SymS cf l ((a+b) / 2+m) (if (a+b) / 2<m then (a+b) / 2+m-b else a) (if (a+b) / 2<m then (a+b) / 2 else m) s) (hr:RotR s m ((a+b) / 2+m-s) l l') :
    (a≤s∧s≤m∧s≤(a+b) / 2∧m≤(a+b) / 2+m-s∧(a+b) / 2≤(a+b) / 2+m-s∧(a+b) / 2+m-s≤b)∧SortR cf a s l'∧SortR cf s ((a+b) / 2) l'∧SortR cf ((a+b) / 2) ((a+b) / 2+m-s) l'∧SortR cf ((a+b) / 2+m-s) b l' ∧
    ∀x y,a≤x→x<(a+b) / 2→(a+b) / 2≤y→y<b→leC cf (l'.getD x default) (l'.getD y default):=by
  obtain ⟨rng,yes,no⟩:=hs
  have hd:2*((a+b) / 2)≤a+b∧a+b≤2*((a+b) / 2)+1:=by omega
  generalize hmid:(a+b) / 2=mid at *
  have B:a≤s∧s≤m∧s≤mid∧m≤mid+m-s∧mid≤mid+m-s∧mid+m-s≤b:=by
    by_cases h:mid<m
    · rw [if_pos h,if_pos h] at rng;omega
    · rw [if_neg h,if_neg h] at rng;omega
  have lt_le:∀{x y:α},cf x y<0→leC cf x y:=fun {x y} h=>by
    rcases ho.tot x y with h1 | h1
    · exact h1
    · exact absurd h h1
  have c1:∀x y,a≤x→x<s→s≤y→y<m→leC cf (l.getD x default) (l.getD y default):=fun x y _ _ _ _=>h1 x y (by omega) (by omega) (by omega)
  have c2:∀x y,a≤x→x<s→mid+m-s≤y→y<b→leC cf (l.getD x default) (l.getD y default):=fun x y x1 x2 y1 y2=>by
    have hlo:(if mid<m then mid+m-b else a)<s:=by split<;>omega
    have e1:=yes hlo
    have t1:leC cf (l.getD x default) (l.getD (s-1) default):=by
      by_cases e:x=s-1
      · rw [e];exact ho.rf _
      · exact h1 x (s-1) (by omega) (by omega) (by omega)
    have t2:leC cf (l.getD (mid+m-s) default) (l.getD y default):=by
      by_cases e:mid+m-s=y
      · rw [e];exact ho.rf _
      · exact h2 _ y (by omega) (by omega) (by omega)
    exact ho.tr _ _ _ t1 (ho.tr _ _ _ e1 t2)
  have c3:∀x y,m≤x→x<mid+m-s→s≤y→y<m→leC cf (l.getD x default) (l.getD y default):=fun x y x1 x2 y1 y2=>by
    have hhi:s<(if mid<m then mid else m):=by split<;>omega
    have e1:=lt_le (no hhi)
    have t1:leC cf (l.getD x default) (l.getD (mid+m-1-s) default):=by
      by_cases e:x=mid+m-1-s
      · rw [e];exact ho.rf _
      · exact h2 x _ (by omega) (by omega) (by omega)
    have t2:leC cf (l.getD s default) (l.getD y default):=by
      by_cases e:s=y
      · rw [e];exact ho.rf _
      · exact h1 s y (by omega) (by omega) (by omega)
    exact ho.tr _ _ _ t1 (ho.tr _ _ _ e1 t2)
  have c4:∀x y,m≤x→x<mid+m-s→mid+m-s≤y→y<b→leC cf (l.getD x default) (l.getD y default):=fun x y _ _ _ _=>h2 x y (by omega) (by omega) (by omega)
  have g1:∀k,k<s→l'.getD k default=l.getD k default:=fun k hk=>by rw [hr k,if_neg (by omega)]
  have g2:∀k,s≤k→k<mid→l'.getD k default=l.getD (k+(m-s)) default:=fun k _ _=>by rw [hr k,if_pos (by omega),if_pos (by omega)]
  have g3:∀k,mid≤k→k<mid+m-s→l'.getD k default=l.getD (k-(mid+m-s-m)) default:=fun k _ _=>by rw [hr k,if_pos (by omega),if_neg (by omega)]
  have g4:∀k,mid+m-s≤k→l'.getD k default=l.getD k default:=fun k hk=>by rw [hr k,if_neg (by omega)]
  refine ⟨B,fun p q p1 p2 p3 => ?_,fun p q p1 p2 p3 => ?_,fun p q p1 p2 p3 => ?_,fun p q p1 p2 p3 => ?_,fun x y x1 x2 y1 y2 => ?_⟩
  · rw [g1 p (by omega),g1 q (by omega)];exact h1 p q (by omega) p2 (by omega)
  · rw [g2 p (by omega) (by omega),g2 q (by omega) (by omega)];exact h2 _ _ (by omega) (by omega) (by omega)
  · rw [g3 p (by omega) (by omega),g3 q (by omega) (by omega)];exact h1 _ _ (by omega) (by omega) (by omega)
  · rw [g4 p (by omega),g4 q (by omega)];exact h2 p q (by omega) p2 (by omega)
  · by_cases hx:x<s
    · rw [g1 x hx]
      by_cases hy:y<mid+m-s
      · rw [g3 y (by omega) hy];exact c1 _ _ (by omega) hx (by omega) (by omega)
      · rw [g4 y (by omega)];exact c2 _ _ (by omega) hx (by omega) y2
    · rw [g2 x (by omega) x2]
      by_cases hy:y<mid+m-s
      · rw [g3 y (by omega) hy];exact c3 _ _ (by omega) (by omega) (by omega) (by omega)
      · rw [g4 y (by omega)];exact c4 _ _ (by omega) (by omega) (by omega) y2
theorem SymS.box {a m b s:Nat}{l:List α}(hab:a<m∧m<b)(h:SymS cf l ((a+b) / 2+m) (if (a+b) / 2<m then (a+b) / 2+m-b else a) (if (a+b) / 2<m then (a+b) / 2 else m) s) :
    a≤s∧s≤m∧s≤(a+b) / 2∧m≤(a+b) / 2+m-s∧(a+b) / 2≤(a+b) / 2+m-s∧(a+b) / 2+m-s≤b:=by
  obtain ⟨rng,_,_⟩:=h
  have hd:2*((a+b) / 2)≤a+b∧a+b≤2*((a+b) / 2)+1:=by omega
  generalize (a+b) / 2=mid at *
  by_cases h:mid<m
  · rw [if_pos h,if_pos h] at rng;omega
  · rw [if_neg h,if_neg h] at rng;omega
theorem sort_front (ho:Ordr cf){a b i:Nat}{l l':List α}(h2:SortR cf (a+1) b l)(hi:a+1≤i∧i≤b)(hl:a+1<i→cf (l.getD (i-1) default) (l.getD a default)<0)(hg:i<b→leC cf (l.getD a default) (l.getD i default))(hr:RotR a (a+1) i l l'):SortR cf a b l':=by
  have lt_le:∀{x y:α},cf x y<0→leC cf x y:=fun {x y} h=>by
    rcases ho.tot x y with h1 | h1
    · exact h1
    · exact absurd h h1
  have g1:∀k,a≤k→k<i-1→l'.getD k default=l.getD (k+1) default:=fun k _ _=>by
    rw [hr k,if_pos (by omega),if_pos (by omega)];congr 1;omega
  have g2:l'.getD (i-1) default=l.getD a default:=by
    rw [hr,if_pos (by omega),if_neg (by omega)];congr 1;omega
  have g3:∀k,i≤k→l'.getD k default=l.getD k default:=fun k _=>by rw [hr k,if_neg (by omega)]
  have lo:∀k,a+1≤k→k<i→leC cf (l.getD k default) (l.getD a default):=fun k k1 k2=>by
    have e:=lt_le (hl (by omega))
    by_cases h:k=i-1
    · rw [h];exact e
    · exact ho.tr _ _ _ (h2 k (i-1) k1 (by omega) (by omega)) e
  have hi2:∀k,i≤k→k<b→leC cf (l.getD a default) (l.getD k default):=fun k k1 k2=>by
    have e:=hg (by omega)
    by_cases h:k=i
    · rw [h];exact e
    · exact ho.tr _ _ _ e (h2 i k (by omega) (by omega) k2)
  intro p q p1 p2 p3
  by_cases hp:p<i-1
  · rw [g1 p p1 hp]
    by_cases hq:q<i-1
    · rw [g1 q (by omega) hq];exact h2 _ _ (by omega) (by omega) (by omega)
    · by_cases hq2:q=i-1
      · rw [hq2,g2];exact lo _ (by omega) (by omega)
      · rw [g3 q (by omega)];exact h2 _ _ (by omega) (by omega) p3
  · by_cases hp2:p=i-1
    · rw [hp2,g2,g3 q (by omega)];exact hi2 q (by omega) p3
    · rw [g3 p (by omega),g3 q (by omega)];exact h2 p q (by omega) p2 p3
theorem sort_back (ho:Ordr cf){a m i:Nat}{l l':List α}(h1:SortR cf a m l)(hi:a≤i∧i≤m)(hl:a<i→leC cf (l.getD (i-1) default) (l.getD m default))(hg:i<m→cf (l.getD m default) (l.getD i default)<0)(hr:RotR i m (m+1) l l'):SortR cf a (m+1) l':=by
  have lt_le:∀{x y:α},cf x y<0→leC cf x y:=fun {x y} h=>by
    rcases ho.tot x y with h1 | h1
    · exact h1
    · exact absurd h h1
  have g1:∀k,k<i→l'.getD k default=l.getD k default:=fun k _=>by rw [hr k,if_neg (by omega)]
  have g2:l'.getD i default=l.getD m default:=by
    rw [hr,if_pos (by omega),if_pos (by omega)];congr 1;omega
  have g3:∀k,i<k→k≤m→l'.getD k default=l.getD (k-1) default:=fun k _ _=>by
    rw [hr k,if_pos (by omega),if_neg (by omega)];congr 1;omega
  have lo:∀k,a≤k→k<i→leC cf (l.getD k default) (l.getD m default):=fun k k1 k2=>by
    have e:=hl (by omega)
    by_cases h:k=i-1
    · rw [h];exact e
    · exact ho.tr _ _ _ (h1 k (i-1) k1 (by omega) (by omega)) e
  have hi2:∀k,i≤k→k<m→leC cf (l.getD m default) (l.getD k default):=fun k k1 k2=>by
    have e:=lt_le (hg (by omega))
    by_cases h:k=i
    · rw [h];exact e
    · exact ho.tr _ _ _ e (h1 i k (by omega) (by omega) k2)
  intro p q p1 p2 p3
  by_cases hp:p<i
  · rw [g1 p hp]
    by_cases hq:q<i
    · rw [g1 q hq];exact h1 p q p1 p2 (by omega)
    · by_cases hq2:q=i
      · rw [hq2,g2];exact lo p p1 hp
      · rw [g3 q (by omega) (by omega)];exact h1 _ _ p1 (by omega) (by omega)
  · by_cases hp2:p=i
    · rw [hp2,g2,g3 q (by omega) (by omega)];exact hi2 _ (by omega) (by omega)
    · rw [g3 p (by omega) (by omega),g3 q (by omega) (by omega)];exact h1 _ _ (by omega) (by omega) (by omega)
def shU (l:List α)(a:Nat):Nat→List α
  | 0=>l
  | n+1=>swp (shU l a n) (a+n) (a+n+1)
theorem shU_len {l:List α}{a:Nat}:∀{n:Nat},(shU l a n).length=l.length
  | 0=>rfl
  | n+1=>by rw [shU,swp_len,shU_len]
theorem shU_get {l:List α}{a:Nat}:∀{n:Nat},a+n<l.length→∀k,(shU l a n).getD k default=if a≤k∧k<a+n then l.getD (k+1) default else if k=a+n then l.getD a default else l.getD k default
  | 0,_,k=>by
    simp only [shU]
    repeat' split
    all_goals first | rfl | (exfalso;omega) | (exact congrArg (fun z=>List.getD _ z default) (by omega))
  | n+1,h,k=>by
    have ih:=shU_get (l:=l) (a:=a) (n:=n) (by omega)
    rw [shU,swp_get (by rw [shU_len];omega) (by rw [shU_len];omega)]
    have i1:(shU l a n).getD (a+n) default=l.getD a default:=by rw [ih,if_neg (by omega),if_pos rfl]
    have i2:(shU l a n).getD (a+n+1) default=l.getD (a+n+1) default:=by rw [ih,if_neg (by omega),if_neg (by omega)]
    rw [i1,i2,ih k]
    repeat' split
    all_goals first | rfl | (exfalso;omega) | (exact congrArg (fun z=>List.getD _ z default) (by omega))
theorem shU_perm {l:List α}{a x y:Nat}(hx:x≤a):∀{n:Nat},a+n<y→y≤l.length→PermR x y l (shU l a n)
  | 0,_,_=>PermR.refl
  | n+1,h1,h2=>(shU_perm hx (by omega) h2).trans (swp_perm ⟨by omega,by omega⟩ ⟨by omega,by omega⟩ (by rw [shU_len];exact h2))
theorem shU_rot {l:List α}{a i:Nat}(hi:a+1≤i)(hl:i≤l.length):RotR a (a+1) i l (shU l a (i-(a+1))):=fun k=>by
  rw [shU_get (by omega)]
  repeat' split
  all_goals first | rfl | (exfalso;omega) | (exact congrArg (fun z=>List.getD _ z default) (by omega))
def shD (l:List α)(m:Nat):Nat→List α
  | 0=>l
  | n+1=>swp (shD l m n) (m-n) (m-n-1)
theorem shD_len {l:List α}{m:Nat}:∀{n:Nat},(shD l m n).length=l.length
  | 0=>rfl
  | n+1=>by rw [shD,swp_len,shD_len]
theorem shD_get {l:List α}{m:Nat}(hm:m<l.length):∀{n:Nat},n≤m→∀k,(shD l m n).getD k default=if m-n<k∧k≤m then l.getD (k-1) default else if k=m-n then l.getD m default else l.getD k default
  | 0,_,k=>by
    simp only [shD]
    repeat' split
    all_goals first | rfl | (exfalso;omega) | (exact congrArg (fun z=>List.getD _ z default) (by omega))
  | n+1,h,k=>by
    have ih:=shD_get hm (n:=n) (by omega)
    rw [shD,swp_get (by rw [shD_len];omega) (by rw [shD_len];omega)]
    have i1:(shD l m n).getD (m-n) default=l.getD m default:=by rw [ih,if_neg (by omega),if_pos rfl]
    have i2:(shD l m n).getD (m-n-1) default=l.getD (m-n-1) default:=by rw [ih,if_neg (by omega),if_neg (by omega)]
    rw [i1,i2,ih k]
    repeat' split
    all_goals first | rfl | (exfalso;omega) | (exact congrArg (fun z=>List.getD _ z default) (by omega))
theorem shD_perm {l:List α}{m x y:Nat}(hm:m<y)(hy:y≤l.length):∀{n:Nat},x+n≤m→PermR x y l (shD l m n)
  | 0,_=>PermR.refl
  | n+1,h1=>(shD_perm hm hy (by omega)).trans (swp_perm ⟨by omega,by omega⟩ ⟨by omega,by omega⟩ (by rw [shD_len];exact hy))
theorem shD_rot {l:List α}{m i:Nat}(hi:i≤m)(hm:m<l.length):RotR i m (m+1) l (shD l m (m-i)):=fun k=>by
  rw [shD_get hm (by omega)]
  repeat' split
  all_goals first | rfl | (exfalso;omega) | (exact congrArg (fun z=>List.getD _ z default) (by omega))
inductive Pr (cf:α→α→Int)(l:List α)(w:Nat):Nat→Nat→Prop
  | nil {a:Nat}:Pr cf l w a a
  | snoc {a b:Nat}:Pr cf l w a b→SortR cf b (b+w) l→Pr cf l w a (b+w)
inductive Rn (cf:α→α→Int)(l:List α)(w n:Nat):Nat→Prop
  | last {a:Nat}:n≤a+w→SortR cf a n l→Rn cf l w n a
  | more {a:Nat}:a+w≤n→SortR cf a (a+w) l→Rn cf l w n (a+w)→Rn cf l w n a
theorem Pr.le {l:List α}{w a b:Nat}(h:Pr cf l w a b):a≤b:=by
  induction h with
  | nil=>exact Nat.le_refl _
  | snoc _ _ ih=>omega
theorem Pr.keep {l l':List α}{w a b:Nat}(h:Pr cf l w a b)(e:∀k,k<b→l'.getD k default=l.getD k default):Pr cf l' w a b:=by
  induction h with
  | nil=>exact .nil
  | snoc h1 h2 ih=>exact .snoc (ih fun k hk=>e k (by omega)) (h2.keep fun k hk=>e k (by omega))
theorem Rn.keep {l l':List α}{w n a:Nat}(h:Rn cf l w n a)(e:∀k,a≤k→l'.getD k default=l.getD k default):Rn cf l' w n a:=by
  induction h with
  | last h1 h2=>exact .last h1 (h2.keep fun k hk=>e k hk.1)
  | more h1 h2 h3 ih=>exact .more h1 (h2.keep fun k hk=>e k hk.1) (ih fun k hk=>e k (by omega))
theorem Pr.glue {l:List α}{w n a b:Nat}(h:Pr cf l w a b)(k:Rn cf l w n b)(hb:b≤n):Rn cf l w n a:=by
  induction h with
  | nil=>exact k
  | snoc h1 h2 ih=>exact ih (.more hb h2 k) (by omega)
theorem sort_one {l:List α}{n a:Nat}(h:n≤a+1):SortR cf a n l:=fun p q h1 h2 h3=>by omega
theorem Rn.two {l:List α}{w n a:Nat}(h:Rn cf l w n a)(hw:0<w)(hn:a+2*w≤n):SortR cf a (a+w) l∧SortR cf (a+w) (a+2*w) l∧Rn cf l w n (a+2*w):=by
  have e:a+w+w=a+2*w:=by omega
  cases h with
  | last h1 h2=>omega
  | more h1 h2 h3 =>
    cases h3 with
    | last k1 k2 =>
      have:n=a+2*w:=by omega
      subst this
      exact ⟨h2,k2,.last (by omega) (sort_one (by omega))⟩
    | more k1 k2 k3=>rw [e] at k2 k3;exact ⟨h2,k2,k3⟩
theorem Rn.end2 {l:List α}{w n a:Nat}(h:Rn cf l w n a)(hn:n<a+2*w)(hm:a+w<n):SortR cf a (a+w) l∧SortR cf (a+w) n l:=by
  cases h with
  | last h1 h2=>omega
  | more h1 h2 h3 =>
    cases h3 with
    | last k1 k2=>exact ⟨h2,k2⟩
    | more k1 k2 k3=>omega
theorem Rn.end1 {l : List α} {w n a:Nat} (h:Rn cf l w n a) (hm:n≤a+w):SortR cf a n l:=by
  cases h with
  | last h1 h2=>exact h2
  | more h1 h2 h3 => have:n=a+w:=by omega
                     subst this;exact h2
end
end Go.Proofs.YtiilicnmcpjmkaaGreatDoor.Vm
namespace Go.Proofs.YtiilicnmcpjmkaaGreatDoor.Vm
open Go
set_option maxRecDepth 100000
set_option linter.unusedSimpArgs false
set_option linter.unusedVariables false
attribute [-simp] List.getD_eq_getElem?_getD
section
variable {α:Type}[Inhabited α]{cf:α→α→Int}
omit [Inhabited α] in
theorem Ordr.lt (ho:Ordr cf){x y:α}(h:cf x y<0):leC cf x y:=by
  rcases ho.tot x y with h1 | h1
  · exact h1
  · exact absurd h h1
structure OutR (cf:α→α→Int)(a0 b0 a b:Nat)(l:List α):Prop where
  rng:a0≤a∧a≤b∧b≤b0
  le:∀p q,a0≤p→p<q→q<b0→(p<a∨b≤q)→leC cf (l.getD p default) (l.getD q default)
theorem OutR.start {a b:Nat}{l:List α}(h:a≤b):OutR cf a b a b l:=⟨by omega,fun p q h1 h2 h3 h4=>by omega⟩
theorem OutR.sort {a0 b0 a b:Nat}{l:List α}(h:OutR cf a0 b0 a b l)(hs:SortR cf a b l):SortR cf a0 b0 l:=fun p q h1 h2 h3=>by
  by_cases e:p<a∨b≤q
  · exact h.le p q h1 h2 h3 e
  · exact hs p q (by omega) h2 (by omega)
theorem OutR.perm {a0 b0 a b:Nat}{l l':List α}(h:OutR cf a0 b0 a b l)(hp:PermR a b l l')(hb:b0≤l.length):OutR cf a0 b0 a b l':=by
  have hr:=h.rng
  refine ⟨hr,fun p q h1 h2 h3 h4 => ?_⟩
  by_cases e1:a≤p∧p<b
  · obtain ⟨p',hp',ep⟩:=hp.mem (by omega) e1
    rw [ep,hp.out q (by omega)]
    exact h.le p' q (by omega) (by omega) h3 (by omega)
  · rw [hp.out p (by omega)]
    by_cases e2:a≤q∧q<b
    · obtain ⟨q',hq',eq⟩:=hp.mem (by omega) e2
      rw [eq]
      exact h.le p q' h1 (by omega) (by omega) (by omega)
    · rw [hp.out q (by omega)]
      exact h.le p q h1 h2 h3 h4
def GdR (cf:α→α→Int)(a b:Nat)(l:List α):Prop:=0<a→∀k,a≤k→k<b→leC cf (l.getD (a-1) default) (l.getD k default)
theorem GdR.perm {a b x y:Nat}{l l':List α}(h:GdR cf a b l)(hp:PermR x y l l')(hx:a≤x)(hy:y≤b)(hb:b≤l.length):GdR cf a b l':=fun h0 k h1 h2=>by
  rw [hp.out (a-1) (by omega)]
  by_cases e:x≤k∧k<y
  · obtain ⟨k',hk',ek⟩:=hp.mem (by omega) e
    rw [ek];exact h h0 k' (by omega) (by omega)
  · rw [hp.out k (by omega)];exact h h0 k h1 h2
theorem GdR.less {a b b':Nat}{l:List α}(h:GdR cf a b l)(hb:b'≤b):GdR cf a b' l:=fun h0 k h1 h2=>h h0 k h1 (by omega)
theorem OutR.guard {a0 b0 a b:Nat}{l:List α}(h:OutR cf a0 b0 a b l)(ha:a0<a):GdR cf a b l:=fun h0 k h1 h2=>h.le (a-1) k (by omega) (by omega) (by have:=h.rng;omega) (by omega)
structure PartR (cf:α→α→Int)(a b m:Nat)(l:List α):Prop where
  rng:a≤m∧m<b
  lo:∀k,a≤k→k<m→leC cf (l.getD k default) (l.getD m default)
  hi:∀k,m<k→k<b→leC cf (l.getD m default) (l.getD k default)
theorem PartR.permL {a b m:Nat}{l l':List α}(h:PartR cf a b m l)(hp:PermR a m l l')(hb:b≤l.length):PartR cf a b m l':=by
  have hr:=h.rng
  refine ⟨hr,fun k h1 h2 => ?_,fun k h1 h2 => ?_⟩
  · obtain ⟨k',hk',ek⟩:=hp.mem (by omega) ⟨h1,h2⟩
    rw [ek,hp.out m (by omega)];exact h.lo k' (by omega) (by omega)
  · rw [hp.out m (by omega),hp.out k (by omega)];exact h.hi k h1 h2
theorem PartR.permH {a b m:Nat}{l l':List α}(h:PartR cf a b m l)(hp:PermR (m+1) b l l')(hb:b≤l.length):PartR cf a b m l':=by
  have hr:=h.rng
  refine ⟨hr,fun k h1 h2 => ?_,fun k h1 h2 => ?_⟩
  · rw [hp.out m (by omega),hp.out k (by omega)];exact h.lo k h1 h2
  · obtain ⟨k',hk',ek⟩:=hp.mem (by omega) ⟨h1,h2⟩
    rw [ek,hp.out m (by omega)];exact h.hi k' (by omega) (by omega)
theorem OutR.left (ho:Ordr cf) {a0 b0 a b m:Nat} {l l':List α} (h:OutR cf a0 b0 a b l) (hm:PartR cf a b m l) (hp:PermR a m l l') (hs:SortR cf a m l') (hb:b0≤l.length):OutR cf a0 b0 (m+1) b l':=by
  have hr:=h.rng
  have hr2:=hm.rng
  have h':=h.perm (hp.wide (Nat.le_refl _) (by omega)) hb
  have hm':=hm.permL hp (by omega)
  refine ⟨by omega,fun p q h1 h2 h3 h4 => ?_⟩
  by_cases e:p<a∨b≤q
  · exact h'.le p q h1 h2 h3 e
  · by_cases e1:q<m
    · exact hs p q (by omega) h2 e1
    · by_cases e2:q=m
      · subst e2;exact hm'.lo p (by omega) h2
      · by_cases e3:p=m
        · subst e3;exact hm'.hi q h2 (by omega)
        · exact ho.tr _ _ _ (hm'.lo p (by omega) (by omega)) (hm'.hi q (by omega) (by omega))
theorem OutR.right (ho:Ordr cf) {a0 b0 a b m:Nat} {l l':List α} (h:OutR cf a0 b0 a b l) (hm:PartR cf a b m l) (hp:PermR (m+1) b l l') (hs:SortR cf (m+1) b l') (hb:b0≤l.length):OutR cf a0 b0 a m l':=by
  have hr:=h.rng
  have hr2:=hm.rng
  have h':=h.perm (hp.wide (by omega) (Nat.le_refl _)) hb
  have hm':=hm.permH hp (by omega)
  refine ⟨by omega,fun p q h1 h2 h3 h4 => ?_⟩
  by_cases e:p<a∨b≤q
  · exact h'.le p q h1 h2 h3 e
  · by_cases e1:m<p
    · exact hs p q (by omega) h2 (by omega)
    · by_cases e2:q=m
      · subst e2;exact hm'.lo p (by omega) h2
      · by_cases e3:p=m
        · subst e3;exact hm'.hi q h2 (by omega)
        · exact ho.tr _ _ _ (hm'.lo p (by omega) (by omega)) (hm'.hi q (by omega) (by omega))
theorem OutR.equal {a0 b0 a b m:Nat}{l:List α}(h:OutR cf a0 b0 a b l)(hm:a≤m∧m≤b)(he:∀p q,a≤p→p<m→p<q→q<b→leC cf (l.getD p default) (l.getD q default)):OutR cf a0 b0 m b l:=by
  have hr:=h.rng
  refine ⟨by omega,fun p q h1 h2 h3 h4 => ?_⟩
  by_cases e:p<a∨b≤q
  · exact h.le p q h1 h2 h3 e
  · exact he p q (by omega) (by omega) h2 (by omega)
structure PtI (cf:α→α→Int)(a b i j:Nat)(l:List α):Prop where
  rng:a+1≤i∧i≤j+1∧j<b
  lo:∀k,a+1≤k→k<i→cf (l.getD k default) (l.getD a default)<0
  hi:∀k,j<k→k<b→leC cf (l.getD a default) (l.getD k default)
theorem PtI.start {a b:Nat}{l:List α}(h:a+1≤b):PtI cf a b (a+1) (b-1) l:=⟨by omega,fun k h1 h2=>by omega,fun k h1 h2=>by omega⟩
theorem PtI.up {a b i j:Nat}{l:List α}(h:PtI cf a b i j l)(hi:i≤j)(hc:cf (l.getD i default) (l.getD a default)<0):PtI cf a b (i+1) j l:=by
  have hr:=h.rng
  refine ⟨by omega,fun k h1 h2 => ?_,h.hi⟩
  by_cases e:k=i
  · subst e;exact hc
  · exact h.lo k h1 (by omega)
theorem PtI.down {a b i j:Nat}{l:List α}(h:PtI cf a b i j l)(hi:i≤j)(hc:¬cf (l.getD j default) (l.getD a default)<0):PtI cf a b i (j-1) l:=by
  have hr:=h.rng
  refine ⟨by omega,h.lo,fun k h1 h2 => ?_⟩
  by_cases e:k=j
  · subst e;exact hc
  · exact h.hi k (by omega) h2
theorem PtI.swap (ho:Ordr cf){a b i j:Nat}{l:List α}(h:PtI cf a b i j l)(hi:i≤j)(hl:b≤l.length)(h1:¬cf (l.getD i default) (l.getD a default)<0)(h2:cf (l.getD j default) (l.getD a default)<0):PtI cf a b (i+1) (j-1) (swp l i j):=by
  have hr:=h.rng
  have hne:i≠j:=fun e=>by subst e;exact h1 h2
  have g:∀k,(swp l i j).getD k default=if k=j then l.getD i default else if k=i then l.getD j default else l.getD k default:=fun k=>swp_get (by omega) (by omega)
  have ga:(swp l i j).getD a default=l.getD a default:=by rw [g,if_neg (by omega),if_neg (by omega)]
  refine ⟨by omega,fun k k1 k2 => ?_,fun k k1 k2 => ?_⟩
  · rw [ga,g,if_neg (by omega)]
    by_cases e:k=i
    · rw [if_pos e];exact h2
    · rw [if_neg e];exact h.lo k k1 (by omega)
  · rw [ga,g]
    by_cases e:k=j
    · rw [if_pos e];exact h1
    · rw [if_neg e,if_neg (by omega)];exact h.hi k (by omega) k2
theorem PtI.done (ho:Ordr cf){a b i j:Nat}{l:List α}(h:PtI cf a b i j l)(hi:¬i≤j)(hl:b≤l.length):PartR cf a b j (swp l j a):=by
  have hr:=h.rng
  have g:∀k,(swp l j a).getD k default=if k=a then l.getD j default else if k=j then l.getD a default else l.getD k default:=fun k=>swp_get (by omega) (by omega)
  have gj:(swp l j a).getD j default=l.getD a default:=by
    rw [g]
    by_cases e:j=a
    · rw [if_pos e,e]
    · rw [if_neg e,if_pos rfl]
  refine ⟨by omega,fun k k1 k2 => ?_,fun k k1 k2 => ?_⟩
  · rw [gj,g]
    by_cases e:k=a
    · rw [if_pos e];exact ho.lt (h.lo j (by omega) (by omega))
    · rw [if_neg e,if_neg (by omega)];exact ho.lt (h.lo k (by omega) (by omega))
  · rw [gj,g,if_neg (by omega),if_neg (by omega)];exact h.hi k (by omega) k2
structure PeI (cf:α→α→Int)(a b i j:Nat)(l:List α):Prop where
  rng:a+1≤i∧i≤j+1∧j<b
  lo:∀k,a+1≤k→k<i→leC cf (l.getD k default) (l.getD a default)
  mn:∀k,a≤k→k<b→leC cf (l.getD a default) (l.getD k default)
theorem PeI.start {a b:Nat}{l:List α}(h:a+1≤b)(mn:∀k,a≤k→k<b→leC cf (l.getD a default) (l.getD k default)):PeI cf a b (a+1) (b-1) l:=⟨by omega,fun k h1 h2=>by omega,mn⟩
theorem PeI.up {a b i j:Nat}{l:List α}(h:PeI cf a b i j l)(hi:i≤j)(hc:¬cf (l.getD a default) (l.getD i default)<0):PeI cf a b (i+1) j l:=by
  have hr:=h.rng
  refine ⟨by omega,fun k h1 h2 => ?_,h.mn⟩
  by_cases e:k=i
  · subst e;exact hc
  · exact h.lo k h1 (by omega)
theorem PeI.down {a b i j:Nat}{l:List α}(h:PeI cf a b i j l)(hi:i≤j):PeI cf a b i (j-1) l:=by
  have hr:=h.rng
  exact ⟨by omega,h.lo,h.mn⟩
theorem PeI.swap (ho:Ordr cf){a b i j:Nat}{l:List α}(h:PeI cf a b i j l)(hi:i≤j)(hl:b≤l.length)(h1:cf (l.getD a default) (l.getD i default)<0)(h2:¬cf (l.getD a default) (l.getD j default)<0):PeI cf a b (i+1) (j-1) (swp l i j):=by
  have hr:=h.rng
  have hne:i≠j:=fun e=>by subst e;exact h2 h1
  have g:∀k,(swp l i j).getD k default=if k=j then l.getD i default else if k=i then l.getD j default else l.getD k default:=fun k=>swp_get (by omega) (by omega)
  have ga:(swp l i j).getD a default=l.getD a default:=by rw [g,if_neg (by omega),if_neg (by omega)]
  refine ⟨by omega,fun k k1 k2 => ?_,fun k k1 k2 => ?_⟩
  · rw [ga,g,if_neg (by omega)]
    by_cases e:k=i
    · rw [if_pos e];exact h2
    · rw [if_neg e];exact h.lo k k1 (by omega)
  · rw [ga,g]
    by_cases e:k=j
    · rw [if_pos e];exact h.mn i (by omega) (by omega)
    · rw [if_neg e]
      by_cases e2:k=i
      · rw [if_pos e2];exact h.mn j (by omega) (by omega)
      · rw [if_neg e2];exact h.mn k k1 k2
theorem PeI.done (ho:Ordr cf){a b i j:Nat}{l:List α}(h:PeI cf a b i j l):∀p q,a≤p→p<i→p<q→q<b→leC cf (l.getD p default) (l.getD q default):=fun p q h1 h2 h3 h4=>by
  by_cases e:p=a
  · subst e;exact h.mn q (by omega) h4
  · exact ho.tr _ _ _ (h.lo p (by omega) h2) (h.mn q (by omega) h4)
def HpR (cf:α→α→Int)(f lo hi:Nat)(l:List α):Prop:=∀c,0<c→c<hi→lo≤(c-1) / 2→leC cf (l.getD (f+c) default) (l.getD (f+(c-1) / 2) default)
structure SfI (cf:α→α→Int)(f lo hi r:Nat)(l:List α):Prop where
  rng:lo≤r
  up:∀c,0<c→c<hi→lo≤(c-1) / 2→(c-1) / 2≠r→leC cf (l.getD (f+c) default) (l.getD (f+(c-1) / 2) default)
  thru:∀c,0<c→c<hi→(c-1) / 2=r→0<r→lo≤(r-1) / 2→leC cf (l.getD (f+c) default) (l.getD (f+(r-1) / 2) default)
theorem SfI.start {f lo hi:Nat}{l:List α}(h:HpR cf f (lo+1) hi l):SfI cf f lo hi lo l :=
  ⟨Nat.le_refl _,fun c h1 h2 h3 h4=>h c h1 h2 (by omega),fun c h1 h2 h3 h4 h5=>by omega⟩
theorem SfI.end1 {f lo hi r:Nat}{l:List α}(h:SfI cf f lo hi r l)(hc:hi≤2*r+1):HpR cf f lo hi l:=fun c h1 h2 h3=>h.up c h1 h2 h3 (by omega)
structure ChR (cf:α→α→Int)(f hi r c:Nat)(l:List α):Prop where
  rng:c<hi∧0<c∧(c-1) / 2=r
  mx:∀d,0<d→d<hi→(d-1) / 2=r→leC cf (l.getD (f+d) default) (l.getD (f+c) default)
theorem ChR.one (ho:Ordr cf){f hi r:Nat}{l:List α}(h:2*r+1<hi)(hc:¬(2*r+1+1<hi∧cf (l.getD (f+(2*r+1)) default) (l.getD (f+(2*r+1+1)) default)<0)):ChR cf f hi r (2*r+1) l:=by
  refine ⟨by omega,fun d h1 h2 h3 => ?_⟩
  have:d=2*r+1∨d=2*r+2:=by omega
  rcases this with e | e
  · rw [e];exact ho.rf _
  · subst e
    intro hx
    exact hc ⟨h2,hx⟩
theorem ChR.two (ho:Ordr cf){f hi r:Nat}{l:List α}(h:2*r+1+1<hi)(hc:cf (l.getD (f+(2*r+1)) default) (l.getD (f+(2*r+1+1)) default)<0):ChR cf f hi r (2*r+1+1) l:=by
  refine ⟨by omega,fun d h1 h2 h3 => ?_⟩
  have:d=2*r+1∨d=2*r+1+1:=by omega
  rcases this with e | e
  · rw [e];exact ho.lt hc
  · rw [e];exact ho.rf _
theorem SfI.end2 (ho:Ordr cf){f lo hi r c:Nat}{l:List α}(h:SfI cf f lo hi r l)(hc:ChR cf f hi r c l)(hn:¬cf (l.getD (f+r) default) (l.getD (f+c) default)<0):HpR cf f lo hi l:=fun d h1 h2 h3=>by
  by_cases e:(d-1) / 2=r
  · rw [e];exact ho.tr _ _ _ (hc.mx d h1 h2 e) hn
  · exact h.up d h1 h2 h3 e
theorem SfI.step (ho:Ordr cf) {f lo hi r c:Nat} {l:List α} (h:SfI cf f lo hi r l) (hc:ChR cf f hi r c l) (hl:f+hi≤l.length) (hn:cf (l.getD (f+r) default) (l.getD (f+c) default)<0):SfI cf f lo hi c (swp l (f+r) (f+c)):=by
  have hr:=h.rng
  have hcr:=hc.rng
  have hrc:r<c:=by omega
  have g:∀k,(swp l (f+r) (f+c)).getD (f+k) default=if k=c then l.getD (f+r) default else if k=r then l.getD (f+c) default else l.getD (f+k) default:=fun k=>by
    rw [swp_get (by omega) (by omega)]
    by_cases e1:k=c
    · rw [if_pos (by omega),if_pos e1]
    · rw [if_neg (by omega),if_neg e1]
      by_cases e2:k=r
      · rw [if_pos (by omega),if_pos e2]
      · rw [if_neg (by omega),if_neg e2]
  refine ⟨by omega,fun d h1 h2 h3 h4 => ?_,fun d h1 h2 h3 h4 h5 => ?_⟩
  · rw [g,g ((d-1) / 2),if_neg h4]
    by_cases e:(d-1) / 2=r
    · rw [if_pos e]
      by_cases e1:d=c
      · rw [if_pos e1];exact ho.lt hn
      · rw [if_neg e1,if_neg (by omega)];exact hc.mx d h1 h2 e
    · rw [if_neg e,if_neg (show ¬d=c from fun e'=>e (by rw [e'];exact hcr.2.2))]
      by_cases e1:d=r
      · rw [if_pos e1]
        have:=h.thru c hcr.2.1 hcr.1 hcr.2.2 (by omega) (by rw [←e1];exact h3)
        rw [e1];exact this
      · rw [if_neg e1];exact h.up d h1 h2 h3 e
  · rw [g,g ((c-1) / 2),if_neg (by omega),if_neg (by omega),if_neg (by omega),if_pos hcr.2.2]
    have:=h.up d h1 h2 (by omega) (by omega)
    rw [h3] at this;exact this
theorem HpR.top (ho:Ordr cf){f n:Nat}{l:List α}(h:HpR cf f 0 n l):∀k,k<n→leC cf (l.getD (f+k) default) (l.getD f default):=by
  intro k
  induction k using Nat.strongRecOn with
  | ind k ih =>
    intro hk
    by_cases e:k=0
    · subst e;exact ho.rf _
    · exact ho.tr _ _ _ (h k (by omega) hk (Nat.zero_le _)) (ih ((k-1) / 2) (by omega) (by omega))
theorem HpR.none {f n:Nat}{l:List α}:HpR cf f ((n-1) / 2+1) n l:=fun c h1 h2 h3=>by omega
theorem HpR.pop (ho:Ordr cf){f n b:Nat}{l:List α}(h:HpR cf f 0 (n+1) l)(hO:OutR cf f b f (f+(n+1)) l)(hl:b≤l.length):HpR cf f 1 n (swp l f (f+n))∧OutR cf f b f (f+n) (swp l f (f+n)):=by
  have hr:=hO.rng
  have g:∀k,(swp l f (f+n)).getD k default=if k=f+n then l.getD f default else if k=f then l.getD (f+n) default else l.getD k default:=fun k=>swp_get (by omega) (by omega)
  have hp:PermR f (f+(n+1)) l (swp l f (f+n)):=swp_perm ⟨by omega,by omega⟩ ⟨by omega,by omega⟩ (by omega)
  have hO':=hO.perm hp hl
  refine ⟨fun c h1 h2 h3 => ?_,by omega,fun p q h1 h2 h3 h4 => ?_⟩
  · rw [g,g,if_neg (by omega),if_neg (by omega),if_neg (by omega),if_neg (by omega)]
    exact h c h1 (by omega) (by omega)
  · by_cases e:q=f+n
    · subst e
      have:(swp l f (f+n)).getD (f+n) default=l.getD f default:=by rw [g,if_pos rfl]
      rw [this]
      obtain ⟨p',hp',ep⟩:=hp.mem (by omega) (k:=p) ⟨h1,by omega⟩
      rw [ep]
      have:=h.top ho (p'-f) (by omega)
      rw [show f+(p'-f)=p' by omega] at this
      exact this
    · exact hO'.le p q h1 h2 h3 (by omega)
theorem GdR.least (ho:Ordr cf){a b v:Nat}{l:List α}(h:GdR cf a b l)(ha:0<a)(hv:¬cf (l.getD (a-1) default) (l.getD v default)<0):∀k,a≤k→k<b→leC cf (l.getD v default) (l.getD k default):=fun k h1 h2=>ho.tr _ _ _ hv (h ha k h1 h2)
theorem least_swp {a b v:Nat}{l:List α}(ha:a≤v∧v<b)(hb:b≤l.length)(h:∀k,a≤k→k<b→leC cf (l.getD v default) (l.getD k default)):∀k,a≤k→k<b→leC cf ((swp l a v).getD a default) ((swp l a v).getD k default):=fun k h1 h2=>by
  have g:∀k,(swp l a v).getD k default=if k=v then l.getD a default else if k=a then l.getD v default else l.getD k default:=fun k=>swp_get (by omega) (by omega)
  have ga:(swp l a v).getD a default=l.getD v default:=by
    rw [g]
    by_cases e:a=v
    · rw [if_pos e,e]
    · rw [if_neg e,if_pos rfl]
  rw [ga,g]
  repeat' split
  · exact h a (by omega) (by omega)
  · exact h v (by omega) (by omega)
  · exact h k h1 h2
theorem SortR.one {a i:Nat}{l:List α}(h:i≤a+1):SortR cf a i l:=fun p q h1 h2 h3=>by omega
theorem SortR.next (ho:Ordr cf){a i:Nat}{l:List α}(h:SortR cf a i l)(hi:a<i)(hc:¬cf (l.getD i default) (l.getD (i-1) default)<0):SortR cf a (i+1) l:=fun p q h1 h2 h3=>by
  by_cases e:q=i
  · subst e
    by_cases e2:p=q-1
    · subst e2;exact hc
    · exact ho.tr _ _ _ (h p (q-1) h1 (by omega) (by omega)) hc
  · exact h p q h1 h2 (by omega)
theorem InsR.last {a i:Nat}{l l':List α}(h:SortR cf a (i-1) l'):InsR cf a (i-1) (i-1) l':=InsR.start h
end
end Go.Proofs.YtiilicnmcpjmkaaGreatDoor.Vm
namespace Go.Proofs.YtiilicnmcpjmkaaGreatDoor.Vm
open Go
set_option maxRecDepth 100000
set_option linter.unusedSimpArgs false
set_option linter.unusedVariables false
attribute [-simp] List.getD_eq_getElem?_getD
theorem wLoop_post {T:Tbl}{lim:Nat}{body:VCode}{Q:VExit→St→Prop}{s:St}(id:Nat)(P:Fr→Lo→Hp→Prop)(h:wCode T lim (.loop body) (fun e s=>e=.exit id∧P s.fr s.L s.H) s)(hQ:∀fr L H,P fr L H→Q (.exit id) ⟨fr,L,H⟩):wCode T lim (.loop body) Q s:=by
  obtain ⟨n,e,s',h1,he,h2⟩:=h
  subst he
  exact ⟨n,_,s',h1,hQ _ _ _ h2⟩
abbrev EQ:=Int
def gE (l:List EQ)(i:Nat):EQ:=l.getD i default
def eV (x:EQ):V:=.int .i64 x
def rowB (l:List EQ):Blk:=.row (ints l) true
theorem stor_eV {x:EQ}:stor (eV x)=true:=Eq.trans rfl rfl
attribute [simp] stor_eV
theorem sq_addr {b n:Nat}{i:Int}(h:0≤i∧i<n):viaddrS 1 (.sl b 0 n 1) (.int .i64 i)=some (V.ptr b i.toNat):=by
  rw [viaddrS_in (by omega)];simp
theorem sq_ld {H:Hp}{b:Nat}{l:List EQ}(h:H[b]? = some (rowB l)){i:Nat}(hi:i<l.length){L:Lo}:vload none L H (V.ptr b i)=some (eV (gE l i)):=by
  rw [vload_ptr h,rd_ints hi];rfl
theorem sq_st {lim:Nat}{H:Hp}{b:Nat}{l:List EQ}(h:H[b]? = some (rowB l))(hlim:lim≤b){i:Nat}(hi:i<l.length){L:Lo}(x:EQ):vstore lim L H (V.ptr b i) (eV x) 1=some (L,H.set b (rowB (l.set i x))):=by
  have:i+1≤l.length:=hi
  have h:H[b]? = some (.row (ints l) true):=h
  simp [eV,rowB,vstore,vstoreH,h,hlim,this,splice_ints_one hi]
structure SqS (b:Nat)(H0:Hp)(l0 l:List EQ)(H:Hp):Prop where
  row:H[b]? = some (rowB l)
  len:H0.length≤H.length
  oth:∀b',b'<H0.length→b'≠b→H[b']? = H0[b']?
  perm:l.Perm l0
  blt:b<H0.length
def CmpQ (b g:Nat)(fs cs:List V)(H0:Hp)(l0:List EQ)(cf:EQ→EQ→Int):Prop :=
  ∀(H:Hp) (lim:Nat) (x y:EQ) (K:V→Hp→Prop),x∈l0→y∈l0→H0.length≤H.length→(∀b',b'<H0.length→b'≠b→H[b']? = H0[b']?)→(∀H',HX H H'→K (.int .i64 (cf x y)) H')→VCall tbl lim g (fs++eV x :: eV y :: cs) H K
section
variable {lim:Nat}{H H0:Hp}{K:V→Hp→Prop}{b g:Nat}{l l0:List EQ}{cf:EQ→EQ→Int}{fs cs:List V}
theorem SqS.n (h:SqS b H0 l0 l H):l.length=l0.length:=h.perm.length_eq
theorem SqS.start (hb:H[b]? = some (rowB l)):SqS b H l l H:=⟨hb,Nat.le_refl _,fun _ _ _=>rfl,.refl _,(List.getElem?_eq_some_iff.1 hb).1⟩
theorem SqS.lt (h:SqS b H0 l0 l H):b<H.length:=(List.getElem?_eq_some_iff.1 h.row).1
theorem SqS.grow {H':Hp}(h:SqS b H0 l0 l H)(x:HX H H'):SqS b H0 l0 l H' :=
  ⟨x.get h.row,Nat.le_trans h.len x.len,fun b' h1 h2=>(x.same (Nat.lt_of_lt_of_le h1 h.len)).trans (h.oth b' h1 h2),h.perm,h.blt⟩
theorem SqS.set {l':List EQ}(h:SqS b H0 l0 l H)(hp:l'.Perm l0):SqS b H0 l0 l' (H.set b (rowB l')) :=
  ⟨by simp [h.lt],by simpa using h.len,fun b' h1 h2=>by rw [List.getElem?_set_ne (fun e=>h2 e.symm)];exact h.oth b' h1 h2,hp,h.blt⟩
theorem SqS.swap (h:SqS b H0 l0 l H){i j:Nat}(hi:i<l.length)(hj:j<l.length):SqS b H0 l0 (swp l i j) (H.set b (rowB (swp l i j))) :=
  h.set ((swp_perm (a:=0) (b:=l.length) ⟨Nat.zero_le _,hi⟩ ⟨Nat.zero_le _,hj⟩ (Nat.le_refl _)).perm.trans h.perm)
theorem SqS.aside (h:SqS b H0 l0 l H){s:Nat}{r:Blk}(hs:H0.length≤s):SqS b H0 l0 l (H.set s r):=by
  have:=h.blt
  exact ⟨by rw [List.getElem?_set_ne (by omega)];exact h.row,by simpa using h.len,fun b' h1 h2=>by rw [List.getElem?_set_ne (by omega)];exact h.oth b' h1 h2,h.perm,h.blt⟩
theorem SqS.mem (h:SqS b H0 l0 l H){i:Nat}(hi:i<l.length):gE l i∈l0:=by
  rw [gE,←h.perm.mem_iff,getD_of hi];exact List.getElem_mem hi
theorem CmpQ.at (hc:CmpQ b g fs cs H0 l0 cf)(hs:SqS b H0 l0 l H){i j:Nat}(hi:i<l.length)(hj:j<l.length){lim:Nat}{K:V→Hp→Prop}(hK:∀H',HX H H'→SqS b H0 l0 l H'→K (.int .i64 (cf (gE l i) (gE l j))) H') :
    VCall tbl lim g (fs++eV (gE l i) :: eV (gE l j) :: cs) H K :=
  hc H lim _ _ K (hs.mem hi) (hs.mem hj) hs.len hs.oth fun H' x=>hK H' x (hs.grow x)
theorem sq_w1 (h:SqS b H0 l0 l H)(hlim:lim≤b){i:Nat}(hi:i<l.length){L:Lo}(x:EQ):vstore lim L H (V.ptr b i) (eV x) 1=some (L,H.set b (rowB (l.set i x))):=sq_st h.row hlim hi x
theorem sq_w2 (h:SqS b H0 l0 l H)(hlim:lim≤b){i j:Nat}(hj:j<l.length){L:Lo}:vstore lim L (H.set b (rowB (l.set i (gE l j)))) (V.ptr b j) (eV (gE l i)) 1=some (L,H.set b (rowB (swp l i j))):=by
  rw [sq_st (l:=l.set i (gE l j)) (by simp [h.lt]) hlim (by simpa using hj),List.set_set];rfl
theorem sq_isort (hs:SqS b H0 l0 l H) (hlim:lim≤b) (hst:allStor fs=true∧allStor cs=true∧g≠3999999) (hc:CmpQ b g fs cs H0 l0 cf) (ho:Ordr cf) {a e:Nat} (hae:a≤e∧e≤l0.length) (hl:l0.length≤100000)
    (hK:∀H' l',SqS b H0 l0 l' H'→PermR a e l l'→SortR cf a e l'→K (.tup []) H'):VCall tbl lim 73 [.sl b 0 l0.length 1,.int .i64 a,.int .i64 e,.func (.func g) fs cs] H K:=by
  refine VCall_fn tbl_at73 rfl ?_
  have hn:=hs.n
  simp (disch:=omega) [vf73,wrap_i64]
  refine wLoop_up (e-(a+1)) (fun i fr L H'=>∃l',(fr 0=.sl b 0 l0.length 1∧fr 1=.int .i64 a∧fr 2=.int .i64 e∧fr 3=.func (.func g) fs cs∧fr 8=.int .i64 ((a+1+i:Nat):Int))∧L=[]∧SqS b H0 l0 l' H'∧PermR a e l l'∧SortR cf a (min e (a+1+i)) l') ⟨l,by simp,rfl,hs,PermR.refl,fun p q h1 h2 h3=>by omega⟩ ?_
  rintro i hi fr L H' ⟨l',⟨f0,f1,f2,f3,f8⟩,rfl,hr,hp,hs'⟩
  simp [f0,f1,f2,f3,f8]
  refine cond_dec (fun ht => ?_) fun hfl => ?_
  · have ht:i<e-(a+1):=by omega
    rw [Nat.min_eq_right (by omega)] at hs'
    simp [f8]
    refine wLoop_m (n:=i+1) (fun m fr L H'=>∃l',(fr 0=.sl b 0 l0.length 1∧fr 1=.int .i64 a∧fr 2=.int .i64 e∧fr 3=.func (.func g) fs cs∧fr 8=.int .i64 ((a+1+i:Nat):Int)∧fr 9=.int .i64 ((a+m:Nat):Int))∧L=[]∧SqS b H0 l0 l' H'∧PermR a e l l'∧m≤i+1∧InsR cf a (a+1+i) (a+m) l') ⟨l',by simp [f0,f1,f2,f3,f8];omega,rfl,hr,hp,Nat.le_refl _,by rw [show a+(i+1)=a+1+i by omega];exact InsR.start hs'⟩ ?_
    clear f0 f1 f2 f3 f8 hr hp hs' l'
    rintro m fr L H' ⟨l',⟨f0,f1,f2,f3,f8,f9⟩,rfl,hr,hp,hm,hI⟩
    have hlen:=hp.len
    by_cases hm0:m=0
    · subst hm0
      have hs2:=hI.done ho (by omega) (by omega) (Or.inl rfl)
      simp (disch:=omega) [f0,f1,f2,f3,f8,f9,wrap_i64]
      refine ⟨by omega,by omega,l',hr,hp,?_⟩
      rw [show a+1+(i+1)=a+1+i+1 by omega];exact hs2
    · have e1:((a:Int)+(m:Int)).toNat=a+m:=by omega
      have e2:((a:Int)+(m:Int)-1).toNat=a+m-1:=by omega
      have g1:=fun L=>sq_ld hr.row (i:=a+m) (by omega) (L:=L)
      have g2:=fun L=>sq_ld hr.row (i:=a+m-1) (by omega) (L:=L)
      have hgt:((a:Int)<(a:Int)+(m:Int))=True:=eq_true (by omega)
      simp (disch:=omega) [f0,f1,f2,f3,f8,f9,hgt,wrap_i64,e1,e2,g1,g2,hst,sq_addr,-viaddrS_in,-vload_ptrO]
      refine hc.at hr (i:=a+m) (j:=a+m-1) (by omega) (by omega) fun H2 x2 hr2 => ?_
      have g1:=fun L=>sq_ld hr2.row (i:=a+m) (by omega) (L:=L)
      have g2:=fun L=>sq_ld hr2.row (i:=a+m-1) (by omega) (L:=L)
      simp
      refine cond_dec (fun hlt => ?_) fun hlt => ?_
      · have w1:=fun L=>sq_w1 hr2 hlim (i:=a+m) (by omega) (L:=L) (gE l' (a+m-1))
        have w2:=fun L=>sq_w2 hr2 hlim (i:=a+m) (j:=a+m-1) (by omega) (L:=L)
        have hr4:=hr2.swap (i:=a+m) (j:=a+m-1) (by omega) (by omega)
        have hsw:=InsR.swap ho hI (by omega) (by omega) (by omega) hlt
        have hsw:InsR cf a (a+1+i) (a+(m-1)) (swp l' (a+m) (a+m-1)):=by
          have e3:a+(m-1)=a+m-1:=by omega
          rw [e3];exact hsw
        have hps:=hp.trans (swp_perm (l:=l') (i:=a+m) (j:=a+m-1) (a:=a) (b:=e) ⟨by omega,by omega⟩ ⟨by omega,by omega⟩ (by omega))
        simp (disch:=omega) [f0,f1,f2,f3,f8,f9,wrap_i64,e1,e2,g1,g2,w1,w2,sq_addr,-viaddrS_in,-vstore,-vload_ptrO]
        exact ⟨m-1,by omega,by omega,_,hr4,hps,by omega,hsw⟩
      · have hs2:=hI.done ho (by omega) (by omega) (Or.inr hlt)
        simp (disch:=omega) [f0,f1,f2,f3,f8,f9,wrap_i64]
        refine ⟨by omega,by omega,l',hr2,hp,?_⟩
        rw [show a+1+(i+1)=a+1+i+1 by omega];exact hs2
  · have:e≤a+1+i:=by omega
    rw [Nat.min_eq_left this] at hs'
    simp
    exact hK _ _ hr hp hs'
theorem sw_ld {s:Nat}{w:Int}(h:H[s]? = some (.row [.int .i64 w] true)){L:Lo}:vload none L H (.ptr s 0)=some (.int .i64 w):=by
  rw [vload_ptr h];rfl
theorem sw_st {s:Nat}{w z:Int}(h:H[s]? = some (.row [.int .i64 w] true))(hl:lim≤s){L:Lo}:vstore lim L H (.ptr s 0) (.int .i64 z) 1=some (L,H.set s (.row [.int .i64 z] true)):=by
  simp [vstore,vstoreH,h,hl,splice]
theorem sq_order2 {s x y:Nat}{w:Int}(hs:SqS b H0 l0 l H)(hlim:lim≤b)(hst:allStor fs=true∧allStor cs=true∧g≠3999999)(hc:CmpQ b g fs cs H0 l0 cf)(hsw:H[s]? = some (.row [.int .i64 w] true))(hs0:H0.length≤s)(hx:x<l0.length)(hy:y<l0.length)
    (hK:∀H' w' x' y',SqS b H0 l0 l H'→H'[s]? = some (.row [.int .i64 w'] true)→((x'=x∧y'=y)∨(x'=y∧y'=x))→K (.tup [.int .i64 (x':Nat),.int .i64 (y':Nat)]) H') :
    VCall tbl lim 118 [.sl b 0 l0.length 1,.int .i64 x,.int .i64 y,.ptr s 0,.func (.func g) fs cs] H K:=by
  refine VCall_fn tbl_at118 rfl ?_
  have hn:=hs.n
  have g1:=fun L=>sq_ld hs.row (i:=x) (by omega) (L:=L)
  have g2:=fun L=>sq_ld hs.row (i:=y) (by omega) (L:=L)
  simp (disch:=omega) [vf118,g1,g2,hst,sq_addr,-viaddrS_in,-vload_ptrO]
  refine hc.at hs (i:=y) (j:=x) (by omega) (by omega) fun H2 x2 hs2 => ?_
  have hsw2:=x2.get hsw
  have hbl:=hs.blt
  simp
  refine cond_dec (fun hlt => ?_) fun hlt => ?_
  · have ld:=fun L=>sw_ld (L:=L) hsw2
    have st:=fun L z=>sw_st (lim:=lim) (L:=L) (z:=z) hsw2 (by omega)
    simp [ld,st,-vstore,-vload_ptrO]
    exact hK _ _ y x (hs2.aside hs0) (by rw [List.getElem?_set_self (List.getElem?_eq_some_iff.1 hsw2).1]) (Or.inr ⟨rfl,rfl⟩)
  · simp
    exact hK _ _ x y hs2 hsw2 (Or.inl ⟨rfl,rfl⟩)
theorem sq_median {s x y z:Nat}{w:Int}(hs:SqS b H0 l0 l H)(hlim:lim≤b)(hst:allStor fs=true∧allStor cs=true∧g≠3999999)(hc:CmpQ b g fs cs H0 l0 cf)(hsw:H[s]? = some (.row [.int .i64 w] true))(hs0:H0.length≤s)(hx:x<l0.length)(hy:y<l0.length)(hz:z<l0.length)
    (hK:∀H' w' r,SqS b H0 l0 l H'→H'[s]? = some (.row [.int .i64 w'] true)→(r=x∨r=y∨r=z)→K (.int .i64 (r:Nat)) H') :
    VCall tbl lim 102 [.sl b 0 l0.length 1,.int .i64 x,.int .i64 y,.int .i64 z,.ptr s 0,.func (.func g) fs cs] H K:=by
  refine VCall_fn tbl_at102 rfl ?_
  simp [vf102,hst]
  refine sq_order2 hs hlim hst hc hsw hs0 hx hy fun H1 w1 x1 y1 hs1 hsw1 h1 => ?_
  simp [hst]
  refine sq_order2 hs1 hlim hst hc hsw1 hs0 (x:=y1) (y:=z) (by omega) hz fun H2 w2 x2 y2 hs2 hsw2 h2 => ?_
  simp [hst]
  refine sq_order2 hs2 hlim hst hc hsw2 hs0 (x:=x1) (y:=x2) (by omega) (by omega) fun H3 w3 x3 y3 hs3 hsw3 h3 => ?_
  simp
  exact hK _ _ _ hs3 hsw3 (by omega)
theorem sq_medianAdj {s x:Nat}{w:Int}(hs:SqS b H0 l0 l H)(hlim:lim≤b)(hst:allStor fs=true∧allStor cs=true∧g≠3999999)(hc:CmpQ b g fs cs H0 l0 cf)(hsw:H[s]? = some (.row [.int .i64 w] true))(hs0:H0.length≤s)(hx:0<x∧x+1<l0.length)(hl:l0.length≤100000)
    (hK:∀H' w' r,SqS b H0 l0 l H'→H'[s]? = some (.row [.int .i64 w'] true)→(x-1≤r∧r≤x+1)→K (.int .i64 (r:Nat)) H') :
    VCall tbl lim 101 [.sl b 0 l0.length 1,.int .i64 x,.ptr s 0,.func (.func g) fs cs] H K:=by
  refine VCall_fn tbl_at101 rfl ?_
  have e1:(x:Int)-1=((x-1:Nat):Int):=by omega
  have e2:(x:Int)+1=((x+1:Nat):Int):=by omega
  simp (disch:=omega) [vf101,hst,wrap_i64]
  rw [e1,e2]
  refine sq_median hs hlim hst hc hsw hs0 (x:=x-1) (y:=x) (z:=x+1) (by omega) (by omega) (by omega) fun H1 w1 r hs1 hsw1 h1 => ?_
  simp
  exact hK _ _ _ hs1 hsw1 (by omega)
theorem sq_reverse (hs:SqS b H0 l0 l H)(hlim:lim≤b){a e:Nat}{f:V}(hae:a<e∧e≤l0.length)(hl:l0.length≤100000)
    (hK:∀H' l',SqS b H0 l0 l' H'→PermR a e l l'→K (.tup []) H'):VCall tbl lim 77 [.sl b 0 l0.length 1,.int .i64 a,.int .i64 e,f] H K:=by
  refine VCall_fn tbl_at77 rfl ?_
  have hn:=hs.n
  simp (disch:=omega) [vf77,wrap_i64]
  refine wLoop_up (e-a) (fun i fr L H'=>∃l',(fr 0=.sl b 0 l0.length 1∧fr 8=.int .i64 ((a+i:Nat):Int)∧fr 9=.int .i64 ((e-1:Nat)-(i:Nat):Int))∧L=[]∧SqS b H0 l0 l' H'∧PermR a e l l') ⟨l,by simp;omega,rfl,hs,PermR.refl⟩ ?_
  rintro i hi fr L H' ⟨l',⟨f0,f8,f9⟩,rfl,hr,hp⟩
  have hlen:=hp.len
  simp [f0,f8,f9]
  refine cond_dec (fun ht => ?_) fun hfl => ?_
  · have e1:((a:Int)+(i:Int)).toNat=a+i:=by omega
    have e2:(((e-1:Nat):Int)-(i:Int)).toNat=e-1-i:=by omega
    have g1:=fun L=>sq_ld hr.row (i:=a+i) (by omega) (L:=L)
    have g2:=fun L=>sq_ld hr.row (i:=e-1-i) (by omega) (L:=L)
    have w1:=fun L=>sq_w1 hr hlim (i:=a+i) (by omega) (L:=L) (gE l' (e-1-i))
    have w2:=fun L=>sq_w2 hr hlim (i:=a+i) (j:=e-1-i) (by omega) (L:=L)
    have hr4:=hr.swap (i:=a+i) (j:=e-1-i) (by omega) (by omega)
    have hps:=hp.trans (swp_perm (l:=l') (i:=a+i) (j:=e-1-i) (a:=a) (b:=e) ⟨by omega,by omega⟩ ⟨by omega,by omega⟩ (by omega))
    simp (disch:=omega) [f0,f8,f9,wrap_i64,e1,e2,g1,g2,w1,w2,sq_addr,-viaddrS_in,-vstore,-vload_ptrO]
    exact ⟨by omega,by omega,_,hr4,hps⟩
  · simp
    exact hK _ _ hr hp
end
end Go.Proofs.YtiilicnmcpjmkaaGreatDoor.Vm
