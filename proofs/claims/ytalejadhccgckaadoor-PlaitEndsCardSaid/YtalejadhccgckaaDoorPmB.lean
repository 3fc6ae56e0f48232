/- Strands, crossings, rings, of both. -/
import Derived.Test.YtalejadhccgckaaDoorPmA
namespace Go.Proofs.YtalejadhccgckaaDoor.Vm
open Go
set_option maxRecDepth 100000
set_option linter.unusedSimpArgs false
set_option linter.unusedVariables false
attribute [-simp] List.getD_eq_getElem?_getD
structure F9 where
  a:Int
  b:Int
  c:Int
  x:Int
  y:Int
  z:Int
  p:Int
  q:Int
  r:Int
def F9.start:F9:=⟨0,1,2,0,0,0,0,0,0⟩
def on (k n:Int):Int:=if k=n then 1 else 0
def F9.put (f:F9)(up dn:Int):F9:={ f with x:=f.x+on up 0,y:=f.y+on up 1,z:=f.z+on up 2,p:=f.p+on dn 0,q:=f.q+on dn 1,r:=f.r+on dn 2 }
def F9.step (l:Nat)(f:F9):F9 :=
  if l=97 then { f.put f.a f.b with a:=f.b,b:=f.a } else if l=65 then { f.put f.b f.a with a:=f.b,b:=f.a }
  else if l=98 then { f.put f.b f.c with b:=f.c,c:=f.b } else { f.put f.c f.b with b:=f.c,c:=f.b }
def fol (g:Nat→Nat):Nat→F9
  | 0=>.start
  | n+1=>(fol g n).step (g n)
def P6 (f:F9):Prop:=(f.a=0∧f.b=1∧f.c=2)∨(f.a=0∧f.b=2∧f.c=1)∨(f.a=1∧f.b=0∧f.c=2)∨(f.a=1∧f.b=2∧f.c=0)∨(f.a=2∧f.b=0∧f.c=1)∨(f.a=2∧f.b=1∧f.c=0)
def Sum (n:Int)(f:F9):Prop:=f.x+f.y+f.z=n∧f.p+f.q+f.r=n∧0≤f.x∧0≤f.y∧0≤f.z∧0≤f.p∧0≤f.q∧0≤f.r
theorem step_ok {f:F9}{n:Int}(l:Nat)(h:P6 f)(hs:Sum n f):P6 (f.step l)∧Sum (n+1) (f.step l):=by
  obtain ⟨a,b,c,x,y,z,p,q,r⟩:=f
  simp only [P6,Sum] at h hs
  unfold F9.step
  rcases h with ⟨rfl,rfl,rfl⟩ | ⟨rfl,rfl,rfl⟩ | ⟨rfl,rfl,rfl⟩ | ⟨rfl,rfl,rfl⟩ | ⟨rfl,rfl,rfl⟩ | ⟨rfl,rfl,rfl⟩<;>repeat' split
  all_goals simp only [P6,Sum,F9.put,on]
  all_goals simp
  all_goals omega
theorem fol_ok {g:Nat→Nat}:∀n:Nat,P6 (fol g n)∧Sum n (fol g n)
  | 0=>⟨Or.inl ⟨rfl,rfl,rfl⟩,by simp [fol,F9.start,Sum]⟩
  | n+1=>by
    obtain ⟨h1,h2⟩:=fol_ok (g:=g) n
    have:=step_ok (g n) h1 h2
    simp only [fol,Int.natCast_add,Int.cast_ofNat_Int]
    exact this
def F9.S (f:F9):List V:=[.int .i64 f.a,.int .i64 f.b,.int .i64 f.c]
def F9.O (f:F9):List V:=[.int .i64 f.x,.int .i64 f.y,.int .i64 f.z]
def F9.U (f:F9):List V:=[.int .i64 f.p,.int .i64 f.q,.int .i64 f.r]
abbrev z3V:List V:=[.int .i64 0,.int .i64 0,.int .i64 0]
def en (f:F9)(i:Nat)(k:Int):Int:=if 3≤i∧f.c=k then 2 else if 2≤i∧f.b=k then 1 else 0
def F9.E (f:F9)(i:Nat):List V:=[.int .i64 (en f i 0),.int .i64 (en f i 1),.int .i64 (en f i 2)]
theorem crossing_t {H:Hp}{lim:Nat}{l:Nat}{K:V→Hp→Prop}(hl:l=97∨l=65∨l=98∨l=66)(hK:K (.tup [.int .i64 (if l=97∨l=65 then 0 else 1),.bool (decide (l=97∨l=98))]) H):VCall tbl lim 70 [.int .i32 l] H K:=by
  refine VCall_fn tbl_at70 rfl ?_
  rcases hl with rfl | rfl | rfl | rfl<;>simp [vf70] at hK ⊢<;>exact hK
theorem rd3a {a b c:V}:rd none [a,b,c] 0=some a:=rfl
theorem rd3b {a b c:V}:rd none [a,b,c] 1=some b:=rfl
theorem rd3c {a b c:V}:rd none [a,b,c] 2=some c:=rfl
theorem rd3w {a b c:V}:rd (some 3) [a,b,c] 0=some (.agg [a,b,c]):=rfl
theorem dz3:List.drop 3 (ints (zs 3))=[]:=rfl
theorem iz3:ints (zs 3)=z3V:=rfl
theorem follow_t {H:Hp} {lim:Nat} {s:ByteArray} {K:V→Hp→Prop} (hv:vld s=true) (hlim:lim≤H.length) (hK:∀X,K (.tup [.agg ((fol (chT s) s.size).E 3),.agg (fol (chT s) s.size).O,.agg (fol (chT s) s.size).U]) (H++X)):VCall tbl lim 68 [.str s] H K:=by
  refine VCall_fn tbl_at68 rfl ?_
  have hb:=vld_len hv
  simp [vf68,splice,iz3]
  refine wLoop_up s.size (fun i fr L H'=>(fr 0=.str s∧fr 2=.lp 0 0∧fr 3=.lp 1 0∧fr 4=.lp 2 0∧fr 5=.lp 3 0∧fr 16=.it H.length)∧L=[z3V,(fol (chT s) i).O,(fol (chT s) i).U,(fol (chT s) i).S]∧H'=H++[.sit s i]∧i≤s.size) ⟨by simp,rfl,rfl,by omega⟩ ?_
  rintro i hi fr L H' ⟨⟨f0,f2,f3,f4,f5,f16⟩,rfl,rfl,hle⟩
  by_cases hp:i<s.size
  · have hn:=vnext_some (H:=H) (lim:=lim) hlim hp
    have hl:=vld_at hv hp
    have hd:Utf8.decode s i=(chT s i,1):=dec_lt (by omega)
    rw [hd] at hn
    simp only at hn
    obtain ⟨hP,hS⟩:=fol_ok (g:=chT s) i
    have hs1:fol (chT s) (i+1)=(fol (chT s) i).step (chT s i):=rfl
    rw [hs1]
    generalize fol (chT s) i=f at hP hS
    obtain ⟨a,b,c,x,y,z,p,q,r⟩:=f
    simp only [P6,Sum] at hP hS
    simp [f0,f16,hn]
    refine crossing_t hl ?_
    rcases hl with e | e | e | e<;>rw [e]<;>rcases hP with ⟨rfl,rfl,rfl⟩ | ⟨rfl,rfl,rfl⟩ | ⟨rfl,rfl,rfl⟩ | ⟨rfl,rfl,rfl⟩ | ⟨rfl,rfl,rfl⟩ | ⟨rfl,rfl,rfl⟩ <;>
      simp (disch:=omega) [f0,f2,f3,f4,f5,f16,wrap_i64,F9.step,F9.put,on,F9.S,F9.O,F9.U,rd3a,rd3b,rd3c,splice]<;>exact ⟨hp,by omega⟩
  · have hn:=vnext_end (H:=H) (lim:=lim) hlim hp
    have hi:i=s.size:=by omega
    subst hi
    obtain ⟨hP,hS⟩:=fol_ok (g:=chT s) s.size
    generalize fol (chT s) s.size=f at hP hS hK
    obtain ⟨a,b,c,x,y,z,p,q,r⟩:=f
    simp only [P6,Sum] at hP hS
    have hg0:∀a b c:Int,vidxA 3 1 none (.agg [.int .i64 a,.int .i64 b,.int .i64 c]) (.int .i64 0)=some (.int .i64 a):=fun _ _ _=>rfl
    have hg1:∀a b c:Int,vidxA 3 1 none (.agg [.int .i64 a,.int .i64 b,.int .i64 c]) (.int .i64 1)=some (.int .i64 b):=fun _ _ _=>rfl
    have hg2:∀a b c:Int,vidxA 3 1 none (.agg [.int .i64 a,.int .i64 b,.int .i64 c]) (.int .i64 2)=some (.int .i64 c):=fun _ _ _=>rfl
    simp [f0,f2,f3,f4,f5,f16,hn,F9.S,rd3w]
    refine wLoop_up 3 (fun i fr L H'=>(fr 2=.lp 0 0∧fr 3=.lp 1 0∧fr 4=.lp 2 0∧fr 53=.agg [.int .i64 a,.int .i64 b,.int .i64 c]∧fr 54=.int .i64 i)∧L=[F9.E ⟨a,b,c,x,y,z,p,q,r⟩ i,[.int .i64 x,.int .i64 y,.int .i64 z],[.int .i64 p,.int .i64 q,.int .i64 r],[.int .i64 a,.int .i64 b,.int .i64 c]]∧H'=H++[.sit s s.size]∧i≤3) ⟨by simp [f2,f3,f4],by simp [F9.E,en,F9.O,F9.U],rfl,by omega⟩ ?_
    rintro i hi fr L H' ⟨⟨g2,g3,g4,g53,g54⟩,rfl,rfl,hle⟩
    by_cases h3:i<3
    · have e3:((i:Int)<3)=True:=eq_true (by omega)
      match i,h3 with
      | 0,_ =>
        rcases hP with ⟨rfl,rfl,rfl⟩ | ⟨rfl,rfl,rfl⟩ | ⟨rfl,rfl,rfl⟩ | ⟨rfl,rfl,rfl⟩ | ⟨rfl,rfl,rfl⟩ | ⟨rfl,rfl,rfl⟩ <;>
          simp at g54<;>simp (disch:=omega) [g2,g3,g4,g53,g54,hg0,hg1,hg2,wrap_i64,F9.E,en,splice]
      | 1,_ =>
        rcases hP with ⟨rfl,rfl,rfl⟩ | ⟨rfl,rfl,rfl⟩ | ⟨rfl,rfl,rfl⟩ | ⟨rfl,rfl,rfl⟩ | ⟨rfl,rfl,rfl⟩ | ⟨rfl,rfl,rfl⟩ <;>
          simp at g54<;>simp (disch:=omega) [g2,g3,g4,g53,g54,hg0,hg1,hg2,wrap_i64,F9.E,en,splice]
      | 2,_ =>
        rcases hP with ⟨rfl,rfl,rfl⟩ | ⟨rfl,rfl,rfl⟩ | ⟨rfl,rfl,rfl⟩ | ⟨rfl,rfl,rfl⟩ | ⟨rfl,rfl,rfl⟩ | ⟨rfl,rfl,rfl⟩ <;>
          simp at g54<;>simp (disch:=omega) [g2,g3,g4,g53,g54,hg0,hg1,hg2,wrap_i64,F9.E,en,splice]
    · have hi3:i=3:=by omega
      subst hi3
      have hk:=hK [.sit s s.size]
      simp only [F9.E,F9.O,F9.U] at hk
      simp at g54
      simp [g2,g3,g4,g53,g54,F9.E,rd3w,splice]
      exact hk
end Go.Proofs.YtalejadhccgckaaDoor.Vm
namespace Go.Proofs.YtalejadhccgckaaDoor.Vm
open Go
set_option maxRecDepth 100000
set_option linter.unusedSimpArgs false
set_option linter.unusedVariables false
attribute [-simp] List.getD_eq_getElem?_getD
theorem run_r {H:Hp}{lim:Nat}{s:ByteArray}{K:V→Hp→Prop}(hv:vld s=true)(hK:K (.tup [.agg (fol (chT s) s.size).S,.agg (fol (chT s) s.size).O,.agg (fol (chT s) s.size).U]) H):VCall tbl lim 69 [.str s] H K:=by
  refine VCall_fn tbl_at69 rfl ?_
  have hb:=vld_len hv
  simp [vf69,splice,iz3]
  refine wLoop_up s.size (fun i fr L H'=>(fr 0=.str s∧fr 2=.lp 0 0∧fr 3=.lp 1 0∧fr 4=.lp 2 0∧fr 5=.lp 3 0∧fr 6=.lp 4 0∧fr 7=.lp 5 0∧fr 8=.int .i64 i)∧L=[z3V,z3V,z3V,(fol (chT s) i).S,(fol (chT s) i).O,(fol (chT s) i).U]∧H'=H∧i≤s.size) ⟨by simp,rfl,rfl,by omega⟩ ?_
  rintro i hi fr L H' ⟨⟨f0,f2,f3,f4,f5,f6,f7,f8⟩,rfl,rfl,hle⟩
  by_cases hp:i<s.size
  · have hp':((i:Int)<(s.size:Int))=True:=eq_true (by omega)
    have hl:=vld_at hv hp
    obtain ⟨hP,hS⟩:=fol_ok (g:=chT s) i
    have hs1:fol (chT s) (i+1)=(fol (chT s) i).step (chT s i):=rfl
    have hx:=idxT hp
    rw [hs1]
    generalize fol (chT s) i=f at hP hS
    obtain ⟨a,b,c,x,y,z,p,q,r⟩:=f
    simp only [P6,Sum] at hP hS
    rcases hl with e | e | e | e<;>rw [e] at hx ⊢<;>rcases hP with ⟨rfl,rfl,rfl⟩ | ⟨rfl,rfl,rfl⟩ | ⟨rfl,rfl,rfl⟩ | ⟨rfl,rfl,rfl⟩ | ⟨rfl,rfl,rfl⟩ | ⟨rfl,rfl,rfl⟩ <;>
      simp (disch:=omega) [f0,f2,f3,f4,f5,f6,f7,f8,hp',hx,wrap_i64,F9.step,F9.put,on,F9.S,F9.O,F9.U,rd3a,rd3b,rd3c,splice]<;>exact ⟨hp,by omega⟩
  · have hp':((i:Int)<(s.size:Int))=False:=eq_false (by omega)
    have hi:i=s.size:=by omega
    subst hi
    simp [f0,f2,f3,f4,f5,f6,f7,f8,hp',F9.S,F9.O,F9.U,rd3w,splice]
    exact hK
def endV (s:ByteArray):V:=if vld s then .tup [.agg ((fol (chT s) s.size).E 3),.int .i64 0] else .tup [.agg z3V,.int .i64 1]
theorem ends_t {H:Hp}{lim:Nat}{s:ByteArray}{K:V→Hp→Prop}(hlim:lim≤H.length)(hK:∀X,K (endV s) (H++X)):VCall tbl lim 34 [.str s] H K:=by
  refine VCall_fn tbl_at34 rfl ?_
  simp [vf34,iz3]
  refine valid_t hlim fun X => ?_
  unfold endV at hK
  cases hv:vld s with
  | false =>
    simp [hv] at hK ⊢
    simp [splice]
    exact hK X
  | true =>
    simp [hv] at hK ⊢
    refine follow_t hv (by simp;omega) fun Y => ?_
    simp [splice,F9.E,F9.O,F9.U,rd3w] at hK ⊢
    exact hK _
theorem ends_r {H:Hp} {lim:Nat} {s:ByteArray} {K:V→Hp→Prop} (hs:s.size≤1000000) (hK:K (endV s) H):VCall tbl lim 35 [.str s] H K:=by
  refine VCall_fn tbl_at35 rfl ?_
  simp [vf35,iz3]
  refine valid_r hs ?_
  unfold endV at hK
  cases hv:vld s with
  | false =>
    simp [hv] at hK ⊢
    simp [splice,rd3w]
    exact hK
  | true =>
    simp [hv] at hK ⊢
    refine run_r hv ?_
    obtain ⟨hP,hS⟩:=fol_ok (g:=chT s) s.size
    generalize fol (chT s) s.size=f at hP hS hK
    obtain ⟨a,b,c,x,y,z,p,q,r⟩:=f
    simp only [P6,Sum] at hP hS
    simp [splice,F9.S,F9.O,F9.U]
    refine wLoop_up 3 (fun i fr L H'=>(fr 2=.lp 0 0∧fr 3=.int .i64 0∧fr 4=.lp 1 0∧fr 5=.lp 2 0∧fr 8=.int .i64 i)∧L=[z3V,F9.E ⟨a,b,c,x,y,z,p,q,r⟩ i,[.int .i64 a,.int .i64 b,.int .i64 c],[.int .i64 x,.int .i64 y,.int .i64 z],[.int .i64 p,.int .i64 q,.int .i64 r]]∧H'=H∧i≤3) ⟨by simp,by simp [F9.E,en],rfl,by omega⟩ ?_
    rintro i hi fr L H' ⟨⟨g2,g3,g4,g5,g8⟩,rfl,rfl,hle⟩
    by_cases h3:i<3
    · match i,h3 with
      | 0,_ =>
        rcases hP with ⟨rfl,rfl,rfl⟩ | ⟨rfl,rfl,rfl⟩ | ⟨rfl,rfl,rfl⟩ | ⟨rfl,rfl,rfl⟩ | ⟨rfl,rfl,rfl⟩ | ⟨rfl,rfl,rfl⟩ <;>
          simp at g8<;>simp (disch:=omega) [g2,g3,g4,g5,g8,wrap_i64,F9.E,en,splice,rd3a,rd3b,rd3c]
      | 1,_ =>
        rcases hP with ⟨rfl,rfl,rfl⟩ | ⟨rfl,rfl,rfl⟩ | ⟨rfl,rfl,rfl⟩ | ⟨rfl,rfl,rfl⟩ | ⟨rfl,rfl,rfl⟩ | ⟨rfl,rfl,rfl⟩ <;>
          simp at g8<;>simp (disch:=omega) [g2,g3,g4,g5,g8,wrap_i64,F9.E,en,splice,rd3a,rd3b,rd3c]
      | 2,_ =>
        rcases hP with ⟨rfl,rfl,rfl⟩ | ⟨rfl,rfl,rfl⟩ | ⟨rfl,rfl,rfl⟩ | ⟨rfl,rfl,rfl⟩ | ⟨rfl,rfl,rfl⟩ | ⟨rfl,rfl,rfl⟩ <;>
          simp at g8<;>simp (disch:=omega) [g2,g3,g4,g5,g8,wrap_i64,F9.E,en,splice,rd3a,rd3b,rd3c]
    · have hi3:i=3:=by omega
      subst hi3
      simp at g8
      simp [g2,g3,g4,g5,g8,F9.E,rd3w,splice] at hK ⊢
      exact hK
def shaV (s:ByteArray):V:=if vld s then .tup [.agg (fol (chT s) s.size).O,.agg (fol (chT s) s.size).U,.int .i64 0] else .tup [.agg z3V,.agg z3V,.int .i64 1]
theorem shadow_t {H:Hp}{lim:Nat}{s:ByteArray}{K:V→Hp→Prop}(hlim:lim≤H.length)(hK:∀X,K (shaV s) (H++X)):VCall tbl lim 40 [.str s] H K:=by
  refine VCall_fn tbl_at40 rfl ?_
  simp [vf40,iz3]
  refine valid_t hlim fun X => ?_
  unfold shaV at hK
  cases hv:vld s with
  | false =>
    simp [hv] at hK ⊢
    simp [splice,rd3w]
    exact hK X
  | true =>
    simp [hv] at hK ⊢
    refine follow_t hv (by simp;omega) fun Y => ?_
    simp [splice,F9.E,F9.O,F9.U,rd3w] at hK ⊢
    exact hK _
theorem shadow_r {H:Hp}{lim:Nat}{s:ByteArray}{K:V→Hp→Prop}(hs:s.size≤1000000)(hK:K (shaV s) H):VCall tbl lim 41 [.str s] H K:=by
  refine VCall_fn tbl_at41 rfl ?_
  simp [vf41,iz3]
  refine valid_r hs ?_
  unfold shaV at hK
  cases hv:vld s with
  | false =>
    simp [hv] at hK ⊢
    simp [splice,rd3w]
    exact hK
  | true =>
    simp [hv] at hK ⊢
    refine run_r hv ?_
    simp [splice,F9.S,F9.O,F9.U,rd3w] at hK ⊢
    exact hK
end Go.Proofs.YtalejadhccgckaaDoor.Vm
namespace Go.Proofs.YtalejadhccgckaaDoor.Vm
open Go
set_option maxRecDepth 100000
set_option linter.unusedSimpArgs false
set_option linter.unusedVariables false
attribute [-simp] List.getD_eq_getElem?_getD
theorem wLoop_once {T:Tbl}{lim:Nat}{body:VCode}{Q:VExit→St→Prop}{s:St}(h:wCode T lim body (seqQ (wCode T lim (.loop body) Q) Q) s):wCode T lim (.loop body) Q s:=by
  obtain ⟨k',e,s',h1,h2⟩:=wCode_sound h
  show wSem T lim (.loop body) Q s
  cases e with
  | normal =>
    obtain ⟨j,e',s'',h3,h4⟩:=h2
    refine ⟨max k' j+1,e',s'',?_,h4⟩
    simp only [evCode,evCode_le (evFn_le T (show k'≤max k' j+1 by omega)) (show k'≤max k' j by omega) h1]
    exact evCode_le (evFn_le T (show j≤max k' j+1 by omega)) (show j≤max k' j by omega) h3
  | exit id=>exact ⟨k'+1,.exit id,s',by simp only [evCode,evCode_le (evFn_le T (Nat.le_succ k')) (Nat.le_refl k') h1],h2⟩
  | ret=>exact ⟨k'+1,.ret,s',by simp only [evCode,evCode_le (evFn_le T (Nat.le_succ k')) (Nat.le_refl k') h1],h2⟩
def cntL (g:Nat→Nat):Nat→Int
  | 0=>0
  | n+1=>if g n=97∨g n=98 then cntL g n+1 else cntL g n-1
theorem cntL_bd {g:Nat→Nat}:∀n:Nat,-(n:Int)≤cntL g n∧cntL g n≤n
  | 0=>by simp [cntL]
  | n+1=>by
    have:=cntL_bd (g:=g) n
    unfold cntL
    split<;>omega
def croV (s:ByteArray):V:=if vld s then .tup [.int .i64 (cntL (chT s) s.size),.int .i64 0] else .tup [.int .i64 0,.int .i64 1]
theorem cross_t {H:Hp}{lim:Nat}{s:ByteArray}{K:V→Hp→Prop}(hlim:lim≤H.length)(hK:∀X,K (croV s) (H++X)):VCall tbl lim 38 [.str s] H K:=by
  refine VCall_fn tbl_at38 rfl ?_
  simp [vf38]
  refine valid_t hlim fun X => ?_
  replace hK:∀Y,K (croV s) ((H++X)++Y):=fun Y=>by rw [List.append_assoc];exact hK _
  have hlim:lim≤(H++X).length:=by simp;omega
  generalize H++X=H1 at hK hlim
  unfold croV at hK
  cases hv:vld s with
  | false =>
    simp [hv] at hK ⊢
    have:=hK []
    simpa using this
  | true =>
    have hb:=vld_len hv
    simp [hv] at hK ⊢
    refine wLoop_up s.size (fun i fr L H'=>(fr 0=.str s∧fr 3=.int .i64 0∧fr 4=.int .i64 (cntL (chT s) i)∧fr 13=.it H1.length)∧L=[]∧H'=H1++[.sit s i]∧i≤s.size) ⟨by simp [cntL],rfl,rfl,by omega⟩ ?_
    rintro i hi fr L H' ⟨⟨f0,f3,f4,f13⟩,rfl,rfl,hle⟩
    by_cases hp:i<s.size
    · have hn:=vnext_some (H:=H1) (lim:=lim) hlim hp
      have hl:=vld_at hv hp
      have hd:Utf8.decode s i=(chT s i,1):=dec_lt (by omega)
      rw [hd] at hn
      simp only at hn
      have hc:=cntL_bd (g:=chT s) i
      have hs1:cntL (chT s) (i+1)=if chT s i=97∨chT s i=98 then cntL (chT s) i+1 else cntL (chT s) i-1:=rfl
      rw [hs1]
      generalize cntL (chT s) i=n at f4 hc
      simp [f0,f13,hn]
      refine crossing_t hl ?_
      rcases hl with e | e | e | e<;>rw [e]<;>simp (disch:=omega) [f0,f3,f4,f13,wrap_i64]<;>exact ⟨hp,by omega⟩
    · have hn:=vnext_end (H:=H1) (lim:=lim) hlim hp
      have hi:i=s.size:=by omega
      subst hi
      simp [f0,f3,f4,f13,hn]
      exact hK _
theorem cross_r {H:Hp}{lim:Nat}{s:ByteArray}{K:V→Hp→Prop}(hs:s.size≤1000000)(hK:K (croV s) H):VCall tbl lim 39 [.str s] H K:=by
  refine VCall_fn tbl_at39 rfl ?_
  simp [vf39]
  refine valid_r hs ?_
  unfold croV at hK
  cases hv:vld s with
  | false =>
    simp [hv] at hK ⊢
    exact hK
  | true =>
    have hb:=vld_len hv
    simp [hv] at hK ⊢
    refine VCall_fn tbl_at71 rfl ?_
    simp [vf71]
    refine wLoop_up s.size (fun i fr L H'=>(fr 0=.str s∧fr 3=.int .i64 (cntL (chT s) i)∧fr 4=.int .i64 i)∧L=[]∧H'=H∧i≤s.size) ⟨by simp [cntL],rfl,rfl,by omega⟩ ?_
    rintro i hi fr L H' ⟨⟨f0,f3,f4⟩,rfl,rfl,hle⟩
    by_cases hp:i<s.size
    · have hp':((i:Int)<(s.size:Int))=True:=eq_true (by omega)
      have hl:=vld_at hv hp
      have hx:=idxT hp
      have hc:=cntL_bd (g:=chT s) i
      have hs1:cntL (chT s) (i+1)=if chT s i=97∨chT s i=98 then cntL (chT s) i+1 else cntL (chT s) i-1:=rfl
      rw [hs1]
      generalize cntL (chT s) i=n at f3 hc
      rcases hl with e | e | e | e<;>rw [e] at hx ⊢<;>simp (disch:=omega) [f0,f3,f4,hp',hx,wrap_i64]<;>exact ⟨hp,by omega⟩
    · have hp':((i:Int)<(s.size:Int))=False:=eq_false (by omega)
      have hi:i=s.size:=by omega
      subst hi
      simp [f0,f3,f4,hp']
      exact hK
def ringN (f:F9):Int:=if on f.a 0+on f.b 1+on f.c 2=3 then 3 else if on f.a 0+on f.b 1+on f.c 2=1 then 2 else 1
def rinV (s:ByteArray):V:=if vld s then .tup [.int .i64 (ringN (fol (chT s) s.size)),.int .i64 0] else .tup [.int .i64 0,.int .i64 1]
theorem rings_t {H:Hp}{lim:Nat}{s:ByteArray}{K:V→Hp→Prop}(hlim:lim≤H.length)(hK:∀X,K (rinV s) (H++X)):VCall tbl lim 36 [.str s] H K:=by
  refine VCall_fn tbl_at36 rfl ?_
  simp [vf36,iz3]
  refine ends_t hlim fun X => ?_
  unfold rinV at hK
  unfold endV
  cases hv:vld s with
  | false =>
    simp [hv] at hK ⊢
    try simp [splice]
    exact hK X
  | true =>
    simp [hv] at hK ⊢
    obtain ⟨hP,hS⟩:=fol_ok (g:=chT s) s.size
    generalize fol (chT s) s.size=f at hP hS hK
    obtain ⟨a,b,c,x,y,z,p,q,r⟩:=f
    simp only [P6,Sum] at hP hS
    clear hS
    rcases hP with ⟨rfl,rfl,rfl⟩ | ⟨rfl,rfl,rfl⟩ | ⟨rfl,rfl,rfl⟩ | ⟨rfl,rfl,rfl⟩ | ⟨rfl,rfl,rfl⟩ | ⟨rfl,rfl,rfl⟩ <;>
      simp [ringN,on] at hK<;>simp [F9.E,en,splice] <;>
      (repeat (refine wLoop_once ?_;simp (disch:=omega) [rd3a,rd3b,rd3c,splice,wrap_i64]))<;>exact hK _
theorem rings_r {H:Hp}{lim:Nat}{s:ByteArray}{K:V→Hp→Prop}(hs:s.size≤1000000)(hK:K (rinV s) H):VCall tbl lim 37 [.str s] H K:=by
  refine VCall_fn tbl_at37 rfl ?_
  simp [vf37,iz3]
  refine ends_r hs ?_
  unfold rinV at hK
  unfold endV
  cases hv:vld s with
  | false =>
    simp [hv] at hK ⊢
    try simp [splice]
    exact hK
  | true =>
    simp [hv] at hK ⊢
    obtain ⟨hP,hS⟩:=fol_ok (g:=chT s) s.size
    generalize fol (chT s) s.size=f at hP hS hK
    obtain ⟨a,b,c,x,y,z,p,q,r⟩:=f
    simp only [P6,Sum] at hP hS
    clear hS
    rcases hP with ⟨rfl,rfl,rfl⟩ | ⟨rfl,rfl,rfl⟩ | ⟨rfl,rfl,rfl⟩ | ⟨rfl,rfl,rfl⟩ | ⟨rfl,rfl,rfl⟩ | ⟨rfl,rfl,rfl⟩ <;>
      simp [ringN,on] at hK<;>simp [F9.E,en,splice] <;>
      (repeat (refine wLoop_once ?_;simp (disch:=omega) [rd3a,rd3b,rd3c,splice,wrap_i64]))<;>exact hK
end Go.Proofs.YtalejadhccgckaaDoor.Vm
namespace Go.Proofs.YtalejadhccgckaaDoor.Vm
open Go
set_option maxRecDepth 100000
set_option linter.unusedSimpArgs false
set_option linter.unusedVariables false
attribute [-simp] List.getD_eq_getElem?_getD
theorem veq3 {neg:Bool}{a b c:Int}:veqA neg [.int .i64,.int .i64,.int .i64] (.agg [.int .i64 a,.int .i64 b,.int .i64 c]) (.agg [.int .i64 a,.int .i64 b,.int .i64 c])=some (.bool (!neg)):=by
  have:eqCells [.int .i64,.int .i64,.int .i64] [.int .i64 a,.int .i64 b,.int .i64 c] [.int .i64 a,.int .i64 b,.int .i64 c]=some true:=by simp [eqCells,eqCell]
  simp only [veqA,this];cases neg<;>rfl
theorem en_sum {f:F9}(h:P6 f):en f 3 0+en f 3 1+en f 3 2=3:=by
  obtain ⟨a,b,c,x,y,z,p,q,r⟩:=f
  simp only [P6] at h
  rcases h with ⟨rfl,rfl,rfl⟩ | ⟨rfl,rfl,rfl⟩ | ⟨rfl,rfl,rfl⟩ | ⟨rfl,rfl,rfl⟩ | ⟨rfl,rfl,rfl⟩ | ⟨rfl,rfl,rfl⟩<;>simp [en]
theorem en_bd {f:F9}{i:Nat}{k:Int}:0≤en f i k∧en f i k≤2:=by
  unfold en;repeat' split
  all_goals omega
theorem law_PlaitEnds {H:Hp}{lim:Nat}{s:ByteArray}{K:V→Hp→Prop}(hH:HX glHp H)(hlim:lim≤H.length)(h1:s.size≤maxLen)(hK:∀X,K (.bool true) (H++X)):VCall tbl lim 6 [.str s] H K:=by
  have hc:=chk_of hH
  refine VCall_fn tbl_at6 rfl ?_
  simp [vf6,iz3]
  refine long_t ?_
  by_cases hu:200<s.size
  · simp [hu]
    exact known_t hc hlim fun X=>by simp;exact hK X
  simp [hu]
  refine ends_t hlim fun X1 => ?_
  cases hv:vld s with
  | false =>
    have e1:endV s=.tup [.agg z3V,.int .i64 1]:=by simp [endV,hv]
    have e2:rinV s=.tup [.int .i64 0,.int .i64 1]:=by simp [rinV,hv]
    have e3:croV s=.tup [.int .i64 0,.int .i64 1]:=by simp [croV,hv]
    have e4:shaV s=.tup [.agg z3V,.agg z3V,.int .i64 1]:=by simp [shaV,hv]
    simp [e1,splice]
    refine ends_r (by omega) ?_
    simp [e1,splice]
    refine rings_t (by simp;omega) fun X2 => ?_
    simp [e2]
    refine rings_r (by omega) ?_
    simp [e2]
    refine cross_t (by simp;omega) fun X3 => ?_
    simp [e3]
    refine cross_r (by omega) ?_
    simp [e3]
    refine shadow_t (by simp;omega) fun X4 => ?_
    simp [e4,splice]
    refine shadow_r (by omega) ?_
    simp [e4,splice,rd3w,veq3]
    exact known_t (chk_app hc) (by simp;omega) fun W=>by simp;exact hK _
  | true =>
    have hb:=vld_len hv
    obtain ⟨hP,hS⟩:=fol_ok (g:=chT s) s.size
    have e1:endV s=.tup [.agg ((fol (chT s) s.size).E 3),.int .i64 0]:=by simp [endV,hv]
    have e2:rinV s=.tup [.int .i64 (ringN (fol (chT s) s.size)),.int .i64 0]:=by simp [rinV,hv]
    have e3:croV s=.tup [.int .i64 (cntL (chT s) s.size),.int .i64 0]:=by simp [croV,hv]
    have e4:shaV s=.tup [.agg (fol (chT s) s.size).O,.agg (fol (chT s) s.size).U,.int .i64 0]:=by simp [shaV,hv]
    have hen:=en_sum hP
    have b0:=en_bd (f:=fol (chT s) s.size) (i:=3) (k:=0)
    have b1:=en_bd (f:=fol (chT s) s.size) (i:=3) (k:=1)
    have b2:=en_bd (f:=fol (chT s) s.size) (i:=3) (k:=2)
    generalize fol (chT s) s.size=f at hP hS e1 e2 e4 hen b0 b1 b2
    generalize ringN f=rn at e2
    generalize cntL (chT s) s.size=cn at e3
    simp only [F9.E] at e1
    simp only [Sum] at hS
    generalize en f 3 0=n0 at e1 hen b0
    generalize en f 3 1=n1 at e1 hen b1
    generalize en f 3 2=n2 at e1 hen b2
    obtain ⟨a,b,c,x,y,z,p,q,r⟩:=f
    simp only [F9.O,F9.U] at e4
    simp only [Sum] at hS
    have q1:IntKind.wrap .i64 (IntKind.wrap .i64 (x+y)+z)=s.size:=by rw [wrap_i64 (n:=x+y) (by omega) (by omega),wrap_i64 (by omega) (by omega)];omega
    have q2:IntKind.wrap .i64 (IntKind.wrap .i64 (p+q)+r)=s.size:=by rw [wrap_i64 (n:=p+q) (by omega) (by omega),wrap_i64 (by omega) (by omega)];omega
    have q3:IntKind.wrap .i64 (IntKind.wrap .i64 (n0+n1)+n2)=3:=by rw [wrap_i64 (n:=n0+n1) (by omega) (by omega),wrap_i64 (by omega) (by omega)];omega
    have ls:vlenT (.str s)=some (.int .i64 s.size):=rfl
    simp [e1,splice]
    refine ends_r (by omega) ?_
    simp [e1,splice]
    refine rings_t (by simp;omega) fun X2 => ?_
    simp [e2]
    refine rings_r (by omega) ?_
    simp [e2]
    refine cross_t (by simp;omega) fun X3 => ?_
    simp [e3]
    refine cross_r (by omega) ?_
    simp [e3]
    refine shadow_t (by simp;omega) fun X4 => ?_
    simp [e4,splice]
    refine shadow_r (by omega) ?_
    simp [e4,splice,rd3w,rd3a,rd3b,rd3c,veq3,q1,q2,q3]
    exact known_t (chk_app hc) (by simp;omega) fun W=>by simp;exact hK _
end Go.Proofs.YtalejadhccgckaaDoor.Vm
