/- Package dye over the machine: shades. -/
import Derived.Test.YtkmcdiajcnejiaaVmTab
import Derived.Test.YtkmcdiajcnejiaaVmRec
namespace Go.Proofs.Ytkmcdiajcnejiaa.Vm
open Go
set_option maxRecDepth 100000
set_option linter.unusedSimpArgs false
set_option linter.unusedVariables false
attribute [-simp] List.getD_eq_getElem?_getD
theorem rd3_0 {a b c:V}:rd none [a,b,c] 0=some a:=Eq.trans rfl rfl
theorem rd3_1 {a b c:V}:rd none [a,b,c] 1=some b:=Eq.trans rfl rfl
theorem rd3_2 {a b c:V}:rd none [a,b,c] 2=some c:=Eq.trans rfl rfl
theorem rd3_w {a b c:V}:rd (some 3) [a,b,c] 0=some (.agg [a,b,c]):=Eq.trans rfl rfl
theorem rd4_0 {a b c d:V}:rd none [a,b,c,d] 0=some a:=Eq.trans rfl rfl
theorem rd4_1 {a b c d:V}:rd (some 3) [a,b,c,d] 1=some (.agg [b,c,d]):=Eq.trans rfl rfl
theorem rd5_0 {a b c d e:V}:rd none [a,b,c,d,e] 0=some a:=Eq.trans rfl rfl
theorem rd5_1 {a b c d e:V}:rd (some 3) [a,b,c,d,e] 1=some (.agg [b,c,d]):=Eq.trans rfl rfl
theorem rd5_4 {a b c d e:V}:rd none [a,b,c,d,e] 4=some e:=Eq.trans rfl rfl
theorem rd4_w {a b c d:V}:rd (some 4) [a,b,c,d] 0=some (.agg [a,b,c,d]):=Eq.trans rfl rfl
theorem rd5_w {a b c d e:V}:rd (some 5) [a,b,c,d,e] 0=some (.agg [a,b,c,d,e]):=Eq.trans rfl rfl
theorem splice33 {a b c x y z:V}:splice [a,b,c] 0 [x,y,z]=[x,y,z]:=by simp [splice]
theorem splice30 {a b c x:V}:splice [a,b,c] 0 [x]=[x,b,c]:=by simp [splice]
theorem splice31 {a b c x:V}:splice [a,b,c] 1 [x]=[a,x,c]:=by simp [splice]
theorem splice32 {a b c x:V}:splice [a,b,c] 2 [x]=[a,b,x]:=by simp [splice]
attribute [simp] rd3_0 rd3_1 rd3_2 rd3_w rd4_0 rd4_1 rd5_0 rd5_1 rd5_4 rd4_w rd5_w splice33 splice30 splice31 splice32
theorem lastO {α:Type}{X:List α}{c:α}:(X++[c])[X.length]? = some c:=by simp
theorem lastS {α:Type}{X:List α}{c d:α}:(X++[c]).set X.length d=X++[d]:=by simp
def shV (l t b:Int):V:=.agg [.int .i64 l,.int .i64 t,.int .i64 b]
def colB (l t:Int):Bool:=decide (1≤l∧l≤10∧0≤t∧t≤5)
def shdB (l t b:Int):Bool:=decide (1≤l∧l≤10∧0≤t∧t≤5∧0≤b∧b≤3)
def bleachP (l t b:Int):(Int×Int×Int)×Int:=if shdB l t b=true then (if b=3 then ((0,0,0),14) else ((min (l+2) 10,0,b+1),0)) else ((0,0,0),1)
def dyeP (l t b lv tn:Int):(Int×Int×Int)×Int:=if shdB l t b=true∧colB lv tn=true then (if l<lv then ((0,0,0),14) else ((lv,tn,b),0)) else ((0,0,0),1)
def absP (n:Int):Int:=max n (-n)
def difP (l t l' t':Int):Int:=3*absP (l-l')+min (absP (t-t')) (6-absP (t-t'))
def differP (l t b l' t' b':Int):Int×Int:=if shdB l t b=true∧shdB l' t' b'=true then (difP l t l' t',0) else (0,1)
section
variable {lim:Nat}{H:Hp}{K:V→Hp→Prop}{l t b l' t' b' lv tn n x y:Int}
theorem dye_isColor (hK:K (.bool (colB l t)) H):VCall tbl lim 77 [.int .i64 l,.int .i64 t] H K:=by
  refine VCall_fn tbl_at77 rfl ?_
  simp [vf77]
  simpa [colB,Bool.and_assoc] using hK
theorem dye_ValidShade (hK:K (.bool (shdB l t b)) H):VCall tbl lim 45 [.agg [.int .i64 l,.int .i64 t,.int .i64 b]] H K:=by
  refine VCall_fn tbl_at45 rfl ?_
  simp [vf45]
  refine dye_isColor ?_
  simp
  simpa [shdB,colB,Bool.and_assoc] using hK
theorem dye_Bleach (hK:K (.tup [.agg [.int .i64 (bleachP l t b).1.1,.int .i64 (bleachP l t b).1.2.1,.int .i64 (bleachP l t b).1.2.2],.int .i64 (bleachP l t b).2]) H):VCall tbl lim 90 [.agg [.int .i64 l,.int .i64 t,.int .i64 b]] H K:=by
  refine VCall_fn tbl_at90 rfl ?_
  simp [vf90]
  refine dye_ValidShade ?_
  by_cases h:shdB l t b=true
  · have hb:=h
    simp only [shdB,decide_eq_true_eq] at hb
    simp [h]
    refine cond_dec (fun h3 => ?_) fun h3 => ?_
    · subst h3;simp;simpa [bleachP,h] using hK
    · simp (disch:=omega) [wrap_i64];simpa [bleachP,h,h3] using hK
  · simp [h];simpa [bleachP,h] using hK
theorem dye_Dye (hK:K (.tup [.agg [.int .i64 (dyeP l t b lv tn).1.1,.int .i64 (dyeP l t b lv tn).1.2.1,.int .i64 (dyeP l t b lv tn).1.2.2],.int .i64 (dyeP l t b lv tn).2]) H):VCall tbl lim 89 [.agg [.int .i64 l,.int .i64 t,.int .i64 b],.int .i64 lv,.int .i64 tn] H K:=by
  refine VCall_fn tbl_at89 rfl ?_
  simp [vf89]
  refine dye_ValidShade ?_
  by_cases h:shdB l t b=true
  · simp [h]
    refine dye_isColor ?_
    by_cases h2:colB lv tn=true
    · simp [h2]
      refine cond_dec (fun h3 => ?_) fun h3 => ?_
      · simp;simpa [dyeP,h,h2,h3] using hK
      · simp;simpa [dyeP,h,h2,h3] using hK
    · simp [h2];simpa [dyeP,h,h2] using hK
  · simp [h];simpa [dyeP,h] using hK
theorem dye_abs (hn : -100≤n∧n≤100)(hK:K (.int .i64 (absP n)) H):VCall tbl lim 54 [.int .i64 n] H K:=by
  refine VCall_fn tbl_at54 rfl ?_
  simp (disch:=omega) [vf54,wrap_i64,vun_neg]
  simpa [absP] using hK
theorem dye_Differ (hK:K (.tup [.int .i64 (differP l t b l' t' b').1,.int .i64 (differP l t b l' t' b').2]) H):VCall tbl lim 97 [.agg [.int .i64 l,.int .i64 t,.int .i64 b],.agg [.int .i64 l',.int .i64 t',.int .i64 b']] H K:=by
  refine VCall_fn tbl_at97 rfl ?_
  simp [vf97]
  refine dye_ValidShade ?_
  by_cases h:shdB l t b=true
  · simp [h]
    refine dye_ValidShade ?_
    by_cases h2:shdB l' t' b'=true
    · have hb:=h
      have hb2:=h2
      simp only [shdB,decide_eq_true_eq] at hb hb2
      simp (disch:=omega) [h2,wrap_i64]
      refine dye_abs (by omega) ?_
      simp (disch:=omega) [wrap_i64]
      refine dye_abs (by omega) ?_
      have a1:0≤absP (l-l')∧absP (l-l')≤9:=by unfold absP;omega
      have a2:0≤absP (t-t')∧absP (t-t')≤5:=by unfold absP;omega
      simp (disch:=omega) [wrap_i64]
      simpa [differP,difP,h,h2] using hK
    · simp [h2];simpa [differP,h,h2] using hK
  · simp [h];simpa [differP,h] using hK
def nearB (l t b l' t' b' n:Int):Bool:=shdB l t b&&(shdB l' t' b'&&decide (difP l t l' t'≤n))
theorem dye_Near (hK:K (.bool (nearB l t b l' t' b' n)) H):VCall tbl lim 80 [.agg [.int .i64 x,.int .i64 l,.int .i64 t,.int .i64 b],.agg [.int .i64 y,.int .i64 l',.int .i64 t',.int .i64 b',.int .i64 n]] H K:=by
  refine VCall_fn tbl_at80 rfl ?_
  simp [vf80]
  refine dye_Differ ?_
  by_cases h:shdB l t b=true∧shdB l' t' b'=true
  · simp [differP,h]
    simpa [nearB,h] using hK
  · simp [differP,h]
    have e:nearB l t b l' t' b' n=false:=by
      cases h1:shdB l t b<;>cases h2:shdB l' t' b'<;>simp_all [nearB]
    rw [e] at hK
    simpa using hK
end
end Go.Proofs.Ytkmcdiajcnejiaa.Vm
namespace Go.Proofs.Ytkmcdiajcnejiaa.Vm
open Go
set_option maxRecDepth 100000
set_option linter.unusedSimpArgs false
set_option linter.unusedVariables false
attribute [-simp] List.getD_eq_getElem?_getD
structure Sh where
  l:Int
  t:Int
  b:Int
  deriving Inhabited,DecidableEq
def Sh.cells (e:Sh):List V:=[.int .i64 e.l,.int .i64 e.t,.int .i64 e.b]
def shC:Cod Sh 3:=⟨Sh.cells,fun _=>rfl⟩
structure Lot where
  w:Int
  l:Int
  t:Int
  b:Int
  deriving Inhabited
def Lot.cells (e:Lot):List V:=[.int .i64 e.w,.int .i64 e.l,.int .i64 e.t,.int .i64 e.b]
def lotC:Cod Lot 4:=⟨Lot.cells,fun _=>rfl⟩
structure Wnt where
  w:Int
  l:Int
  t:Int
  b:Int
  n:Int
  deriving Inhabited
def Wnt.cells (e:Wnt):List V:=[.int .i64 e.w,.int .i64 e.l,.int .i64 e.t,.int .i64 e.b,.int .i64 e.n]
def wntC:Cod Wnt 5:=⟨Wnt.cells,fun _=>rfl⟩
def pathF (lv tn:Int):Nat→Int→Int→Int→Option (List Sh)
  | 0,_,_,_=>none
  | f+1,l,t,b=>if l=lv∧t=tn then some [] else if lv≤l then some [⟨lv,tn,b⟩] else if b=3 then none else (pathF lv tn f (min (l+2) 10) 0 (b+1)).map fun p=>⟨min (l+2) 10,0,b+1⟩ :: p
def pathO (l t b lv tn:Int):Option (List Sh):=if shdB l t b=true∧colB lv tn=true then pathF lv tn (4-b).toNat l t b else none
def pathE (l t b lv tn:Int):Int:=if shdB l t b=true∧colB lv tn=true then 0 else 1
def pathL (l t b lv tn:Int):List Sh:=(pathO l t b lv tn).getD []
section
variable {lim:Nat}{H:Hp}{K:V→Hp→Prop}{l t b lv tn:Int}
theorem dye_Path (hlim:lim≤H.length) (hK:∀H' v,HX H H'→OwnT H.length shC H' v (pathL l t b lv tn)→K (.tup [v,.bool (pathO l t b lv tn).isSome,.int .i64 (pathE l t b lv tn)]) H'):VCall tbl lim 68 [.agg [.int .i64 l,.int .i64 t,.int .i64 b],.int .i64 lv,.int .i64 tn] H K:=by
  refine VCall_fn tbl_at68 rfl ?_
  simp [vf68]
  refine dye_ValidShade ?_
  by_cases h:shdB l t b=true
  case neg =>
    simp [h]
    have:=hK _ .snil .refl (by rw [show pathL l t b lv tn=[] by simp [pathL,pathO,h]];exact .nil)
    simpa [pathL,pathO,pathE,h] using this
  simp [h]
  refine dye_isColor ?_
  by_cases h2:colB lv tn=true
  case neg =>
    simp [h2]
    have:=hK _ .snil .refl (by rw [show pathL l t b lv tn=[] by simp [pathL,pathO,h2]];exact .nil)
    simpa [pathL,pathO,pathE,h2] using this
  simp [h2]
  have hfin:pathE l t b lv tn=0:=by simp [pathE,h,h2]
  have hO:pathO l t b lv tn=pathF lv tn (4-b).toNat l t b:=by simp [pathO,h,h2]
  rw [hfin] at hK
  have hb:=h
  simp only [shdB,decide_eq_true_eq] at hb
  refine wLoop_up (4-b).toNat (fun i fr L H'=>∃v X acc l' t',(fr 1=.int .i64 lv∧fr 2=.int .i64 tn∧fr 3=.lp 0 0∧fr 9=v)∧L=[.int .i64 l',.int .i64 t',.int .i64 (b+i)] :: X∧HX H H'∧OwnT H.length shC H' v acc∧acc.length=i∧shdB l' t' (b+i)=true ∧
      pathO l t b lv tn=(pathF lv tn ((4-b).toNat-i) l' t' (b+i)).map (acc++·)) ⟨.snil,[],[],l,t,by simp,by simp,.refl,.nil,rfl,by simpa using h,by rw [hO];simp⟩ ?_
  rintro i hi fr L H' ⟨v,X,acc,l',t',⟨f1,f2,f3,f9⟩,rfl,hx,hv,hal,hs,hp⟩
  have hs2:=hs
  simp only [shdB,decide_eq_true_eq] at hs2
  have hc2:=h2
  simp only [colB,decide_eq_true_eq] at hc2
  have hxl:=hx.len
  obtain ⟨f,hf⟩:∃f,(4-b).toNat-i=f+1:=⟨(4-b).toNat-i-1,by omega⟩
  rw [hf] at hp
  simp only [pathF] at hp
  by_cases ht:l'=lv∧t'=tn
  · obtain ⟨rfl,rfl⟩:=ht
    simp only [and_self,if_true,Option.map_some,List.append_nil] at hp
    simp [f1,f2,f3,f9,hv.lst.stor]
    have:=hK _ _ hx (by simp only [pathL,hp,Option.getD_some];exact hv)
    rw [hp] at this
    exact this
  · rw [if_neg ht] at hp
    have hne:(!decide (l'=lv) || !decide (t'=tn))=true:=by
      by_cases h1:l'=lv
      · have:¬t'=tn:=fun e=>ht ⟨h1,e⟩
        simp [h1,this]
      · simp [h1]
    simp [f1,f2,f3,f9,hne]
    refine dye_Dye ?_
    by_cases hle:lv≤l'
    · rw [if_pos hle] at hp
      simp only [Option.map_some] at hp
      have hd:dyeP l' t' (b+i) lv tn=((lv,tn,b+i),0):=by simp only [dyeP,hs,h2,and_self,if_true];rw [if_neg (by omega)]
      obtain ⟨v',H3,a1,a2,a3,a4,a5,a6⟩:=hv.append (lim:=lim) (bytes:=24) (x:=⟨lv,tn,b+i⟩) (cs:=[.int .i64 lv,.int .i64 tn,.int .i64 (b+i)]) rfl ⟨hlim,hx.len⟩ (by omega) (by omega)
      simp [f1,f2,f3,f9,hd,lastO,lastS,a1,a2.lst.stor]
      have:=hK _ _ (a3 _ hx (Nat.le_refl _)) (by simp only [pathL,hp,Option.getD_some];exact a2)
      rw [hp] at this
      exact this
    · rw [if_neg hle] at hp
      have hd:dyeP l' t' (b+i) lv tn=((0,0,0),14):=by simp only [dyeP,hs,h2,and_self,if_true];rw [if_pos (by omega)]
      simp [f1,f2,f3,f9,hd,lastO,lastS]
      refine dye_Bleach ?_
      by_cases h3:b+i=3
      · rw [if_pos h3] at hp
        have hbl:bleachP l' t' (b+i)=((0,0,0),14):=by simp only [bleachP,hs,if_true];rw [if_pos h3]
        simp [f1,f2,f3,f9,hbl]
        have:=hK _ _ hx (by simp only [pathL,hp];exact .nil)
        rw [hp] at this
        exact this
      · rw [if_neg h3] at hp
        have hbl:bleachP l' t' (b+i)=((min (l'+2) 10,0,b+i+1),0):=by simp only [bleachP,hs,if_true];rw [if_neg h3]
        obtain ⟨v',H3,a1,a2,a3,a4,a5,a6⟩:=hv.append (lim:=lim) (bytes:=24) (x:=⟨min (l'+2) 10,0,b+i+1⟩) (cs:=[.int .i64 (min (l'+2) 10),.int .i64 0,.int .i64 (b+i+1)]) rfl ⟨hlim,hx.len⟩ (by omega) (by omega)
        simp [f1,f2,f3,f9,hbl,lastO,lastS,a1]
        refine ⟨by omega,_,_,_,_,⟨⟨rfl,rfl,by omega⟩,rfl⟩,a3 _ hx (Nat.le_refl _),a2,by simp [hal],?_,?_⟩
        · simp only [shdB,decide_eq_true_eq];omega
        · rw [hp,show (4-b).toNat-(i+1)=f by omega,show b+((i:Int)+1)=b+i+1 by omega]
          cases pathF lv tn f (min (l'+2) 10) 0 (b+i+1)<;>simp
theorem dye_Baths (hlim:lim≤H.length)(hK:∀H',HX H H'→K (.tup [.int .i64 (pathL l t b lv tn).length,.bool (pathO l t b lv tn).isSome,.int .i64 (pathE l t b lv tn)]) H'):VCall tbl lim 41 [.agg [.int .i64 l,.int .i64 t,.int .i64 b],.int .i64 lv,.int .i64 tn] H K:=by
  refine VCall_fn tbl_at41 rfl ?_
  simp [vf41]
  refine dye_Path hlim fun H1 v x1 o1 => ?_
  simp [o1.lst.len,o1.lst.stor]
  exact hK _ x1
def allN (f:Nat→Bool):Nat→Bool
  | 0=>true
  | n+1=>allN f n&&f n
theorem allN_at {f:Nat→Bool}:∀{n:Nat},allN f n=true→∀{i:Nat},i<n→f i=true
  | 0,_,i,hi=>by omega
  | n+1,h,i,hi=>by
    simp only [allN,Bool.and_eq_true] at h
    by_cases e:i=n
    · subst e;exact h.2
    · exact allN_at h.1 (by omega)
theorem allN_not {f:Nat→Bool}{n i:Nat}(hi:i<n)(hf:f i=false):allN f n=false:=by
  cases h:allN f n with
  | false=>rfl
  | true=>rw [allN_at h hi] at hf;cases hf
def lotB (e:Lot):Bool:=shdB e.l e.t e.b&&decide (0≤e.w∧e.w≤1000)
def wntB (e:Wnt):Bool:=shdB e.l e.t e.b&&(decide (0≤e.w∧e.w≤1000)&&decide (0≤e.n∧e.n≤100))
def valP (A:List Lot)(B:List Wnt):Int:=if 6<A.length∨6<B.length then 4 else if allN (fun i=>lotB (A.getD i default)) A.length=false then 1 else if allN (fun i=>wntB (B.getD i default)) B.length=false then 1 else 0
variable {av bv:V}{A:List Lot}{B:List Wnt}
theorem lot_load (h:LstV lotC H av A){i:Nat}(hi:i<A.length){L:Lo}:vload (some 4) L H (ept 4 av i)=some (.agg [.int .i64 (A.getD i default).w,.int .i64 (A.getD i default).l,.int .i64 (A.getD i default).t,.int .i64 (A.getD i default).b]):=h.load hi
theorem wnt_load (h:LstV wntC H bv B){i:Nat}(hi:i<B.length){L:Lo}:vload (some 5) L H (ept 5 bv i)=some (.agg [.int .i64 (B.getD i default).w,.int .i64 (B.getD i default).l,.int .i64 (B.getD i default).t,.int .i64 (B.getD i default).b,.int .i64 (B.getD i default).n]):=h.load hi
theorem splice44 {a b c d x y z w:V}:splice [a,b,c,d] 0 [x,y,z,w]=[x,y,z,w]:=by simp [splice]
theorem splice55 {a b c d e x y z w u:V}:splice [a,b,c,d,e] 0 [x,y,z,w,u]=[x,y,z,w,u]:=by simp [splice]
theorem iz4:ints (zs 4)=[.int .i64 0,.int .i64 0,.int .i64 0,.int .i64 0]:=Eq.trans rfl rfl
theorem iz5:ints (zs 5)=[.int .i64 0,.int .i64 0,.int .i64 0,.int .i64 0,.int .i64 0]:=Eq.trans rfl rfl
theorem dye_isWeight {n:Int}(hK:K (.bool (decide (0≤n∧n≤1000))) H):VCall tbl lim 49 [.int .i64 n] H K:=by
  refine VCall_fn tbl_at49 rfl ?_
  simp [vf49]
  simpa using hK
theorem dye_Validate (ha:LstV lotC H av A) (hb:LstV wntC H bv B) (hK:K (.int .i64 (valP A B)) H):VCall tbl lim 58 [av,bv] H K:=by
  refine VCall_fn tbl_at58 rfl ?_
  have e1:decide (6<(A.length:Int))=decide (6<A.length):=by simp only [decide_eq_decide];omega
  have e2:decide (6<(B.length:Int))=decide (6<B.length):=by simp only [decide_eq_decide];omega
  simp [vf58,ha.len,hb.len,e1,e2]
  refine cond_bool (fun h => ?_) fun h => ?_
  · have h:6<A.length∨6<B.length:=by simpa using h
    simp;simpa [valP,h] using hK
  have h:¬(6<A.length∨6<B.length):=by simp at h;omega
  simp only [valP,h,if_false] at hK
  simp [ha.len]
  refine wLoop_up A.length (fun i fr L H'=>∃X,(fr 1=bv∧fr 17=av∧fr 18=.int .i64 A.length∧fr 19=.int .i64 i)∧L=X∧H'=H∧allN (fun i=>lotB (A.getD i default)) i=true) ⟨[],by simp [ha.len],rfl,rfl,rfl⟩ ?_
  rintro i hi fr L H' ⟨X,⟨f1,f17,f18,f19⟩,rfl,e0,hz⟩
  have e0:=e0.symm
  subst e0
  simp [f1,f17,f18,f19]
  refine cond_dec (fun ht => ?_) fun hfl => ?_
  · have ht:i<A.length:=by omega
    simp (disch:=omega) [f1,f17,f18,f19,ha.addr,lot_load ha,lastO,lastS,splice44,iz4]
    refine dye_ValidShade ?_
    by_cases hs:shdB (A.getD i default).l (A.getD i default).t (A.getD i default).b=true
    · simp [f1,f17,f18,f19,hs]
      refine dye_isWeight ?_
      by_cases hw:0≤(A.getD i default).w∧(A.getD i default).w≤1000
      · have e:lotB (A.getD i default)=true:=by simp [lotB,hs,hw]
        simp (disch:=omega) [f1,f17,f18,f19,hw,wrap_i64,allN,e,hz]
        omega
      · have:=allN_not (f:=fun i=>lotB (A.getD i default)) ht (by simp [lotB,hw])
        simp only [this,if_true] at hK
        simp [hw]
        exact hK
    · have:=allN_not (f:=fun i=>lotB (A.getD i default)) ht (by simp [lotB,hs])
      simp only [this,if_true] at hK
      simp [hs]
      exact hK
  have:i=A.length:=by omega
  subst this
  simp only [hz,Bool.true_eq_false,if_false] at hK
  simp [f1,hb.len]
  refine wLoop_up B.length (fun i fr L H'=>∃X,(fr 34=bv∧fr 35=.int .i64 B.length∧fr 36=.int .i64 i)∧L=X∧H'=H∧allN (fun i=>wntB (B.getD i default)) i=true) ⟨L,by simp [hb.len],rfl,rfl,rfl⟩ ?_
  clear f1 f17 f18 f19
  rintro i hi fr L H' ⟨X,⟨f34,f35,f36⟩,rfl,e0,hz2⟩
  have e0:=e0.symm
  subst e0
  simp [f34,f35,f36]
  refine cond_dec (fun ht => ?_) fun hfl => ?_
  · have ht:i<B.length:=by omega
    simp (disch:=omega) [f34,f35,f36,hb.addr,wnt_load hb,lastO,lastS,splice55,iz5]
    refine dye_ValidShade ?_
    by_cases hs:shdB (B.getD i default).l (B.getD i default).t (B.getD i default).b=true
    · simp [f34,f35,f36,hs]
      refine dye_isWeight ?_
      by_cases hw:0≤(B.getD i default).w∧(B.getD i default).w≤1000
      · simp [f34,f35,f36,hw]
        refine cond_bool (fun hn => ?_) fun hn => ?_
        · have hn:¬(0≤(B.getD i default).n∧(B.getD i default).n≤100):=by simp at hn;omega
          have:=allN_not (f:=fun i=>wntB (B.getD i default)) ht (by simp only [wntB,hn,decide_false,Bool.and_false])
          simp only [this,if_true] at hK
          simp
          exact hK
        · have hn:0≤(B.getD i default).n∧(B.getD i default).n≤100:=by simp at hn;omega
          have e:wntB (B.getD i default)=true:=by simp [wntB,hs,hw,hn]
          simp (disch:=omega) [f34,f35,f36,wrap_i64,allN,e,hz2]
          omega
      · have:=allN_not (f:=fun i=>wntB (B.getD i default)) ht (by simp only [wntB,hw,decide_false,Bool.and_false,Bool.false_and])
        simp only [this,if_true] at hK
        simp [hw]
        exact hK
    · have:=allN_not (f:=fun i=>wntB (B.getD i default)) ht (by simp [wntB,hs])
      simp only [this,if_true] at hK
      simp [hs]
      exact hK
  have:i=B.length:=by omega
  subst this
  simp only [hz2,Bool.true_eq_false,if_false] at hK
  simp
  exact hK
end
end Go.Proofs.Ytkmcdiajcnejiaa.Vm
namespace Go.Proofs.Ytkmcdiajcnejiaa.Vm
open Go
set_option maxRecDepth 100000
set_option linter.unusedSimpArgs false
set_option linter.unusedVariables false
attribute [-simp] List.getD_eq_getElem?_getD
theorem fr0_5 {a b c d e f:V}{l:List V}:fr0 (a :: b :: c :: d :: e :: f :: l) 5=f:=Eq.trans rfl rfl
theorem fr0_6 {a b c d e f g:V}{l:List V}:fr0 (a :: b :: c :: d :: e :: f :: g :: l) 6=g:=Eq.trans rfl rfl
attribute [simp] fr0_5 fr0_6
theorem setAt {α:Type}{X l:List α}{k:Nat}{x:α}:(X++l).set (X.length+k) x=X++l.set k x:=by rw [List.set_append_right _ _ (by omega)];congr 2;omega
def gl (g0 g1:Int):List Int:=[g0,0,0,0,0,0,g1,0,0,0,0,0,0,0,0,0,0,0,0,0,0,0,0,0,0,0,0,0,0,0,0,0,0,0,0,0]
theorem gl_len {g0 g1:Int}:(gl g0 g1).length=36:=Eq.trans rfl rfl
theorem gl_set0 {g0 g1 y:Int}:splice (ints (gl g0 g1)) 0 [.int .i64 y]=ints (gl y g1):=Eq.trans rfl rfl
theorem gl_set6 {g0 g1 y:Int}:splice (ints (gl g0 g1)) 6 [.int .i64 y]=ints (gl g0 y):=Eq.trans rfl rfl
theorem gl_get0 {g0 g1:Int}:rd none (ints (gl g0 g1)) 0=some (.int .i64 g0):=Eq.trans rfl rfl
theorem gl_get6 {g0 g1:Int}:rd none (ints (gl g0 g1)) 6=some (.int .i64 g1):=Eq.trans rfl rfl
def trL (tr:Bool):List V:=[.bool tr,.bool false,.bool false,.bool false,.bool false,.bool false]
theorem trL_get {tr:Bool}:rd none (trL tr) 0=some (.bool tr):=Eq.trans rfl rfl
theorem trL_set {tr b:Bool}:splice (trL tr) 0 [.bool b]=trL b:=Eq.trans rfl rfl
def lfL (x:Int):List V:=[.int .i64 x,.int .i64 3,.int .i64 0,.int .i64 0]
theorem lfL_get {x:Int}:rd none (lfL x) 0=some (.int .i64 x):=Eq.trans rfl rfl
theorem lfL_all {x:Int}:rd (some 4) (lfL x) 0=some (.agg [.int .i64 x,.int .i64 3,.int .i64 0,.int .i64 0]):=Eq.trans rfl rfl
theorem lfL_set {x y:Int}:splice (lfL x) 0 [.int .i64 y]=lfL y:=Eq.trans rfl rfl
def lfL0:List V:=[.int .i64 0,.int .i64 0,.int .i64 0,.int .i64 0]
def wnL:List V:=[.int .i64 50,.int .i64 3,.int .i64 0,.int .i64 0,.int .i64 0,.int .i64 40,.int .i64 3,.int .i64 0,.int .i64 0,.int .i64 0]
theorem wnL_0:rd (some 5) wnL 0=some (.agg [.int .i64 50,.int .i64 3,.int .i64 0,.int .i64 0,.int .i64 0]):=Eq.trans rfl rfl
theorem wnL_1:rd (some 5) wnL 5=some (.agg [.int .i64 40,.int .i64 3,.int .i64 0,.int .i64 0,.int .i64 0]):=Eq.trans rfl rfl
def getV (n:Nat):V:=.func (.func 79) [] [.ptr (n+4) 0,.ptr (n+6) 0,.ptr (n+2) 0,.ptr (n+5) 0,.ptr (n+7) 0]
theorem rd1 {a:V}:rd none [a] 0=some a:=Eq.trans rfl rfl
def exR (n:Nat)(x g0 g1:Int)(tr:Bool):Hp:=[.row (lfL 60) true,.row wnL true,.row [.sl (n+1) 0 2 5] true,.row (lfL x) true,.row [.sl (n+3) 0 1 4] true,
  .row (ints (gl g0 g1)) true,.row (trL tr) true,.row [getV n] true]
def exH (H:Hp)(x g0 g1:Int)(tr:Bool):Hp:=H++exR H.length x g0 g1 tr
section
variable {lim:Nat}{H:Hp}{K:V→Hp→Prop}{x y g0 g1 w m:Int}{tr b:Bool}
theorem ex1:(exH H x g0 g1 tr)[H.length+1]? = some (.row wnL true):=by rw [exH,loAt];rfl
theorem ex2:(exH H x g0 g1 tr)[H.length+2]? = some (.row [.sl (H.length+1) 0 2 5] true):=by rw [exH,loAt];rfl
theorem ex3:(exH H x g0 g1 tr)[H.length+3]? = some (.row (lfL x) true):=by rw [exH,loAt];rfl
theorem ex4:(exH H x g0 g1 tr)[H.length+4]? = some (.row [.sl (H.length+3) 0 1 4] true):=by rw [exH,loAt];rfl
theorem ex5:(exH H x g0 g1 tr)[H.length+5]? = some (.row (ints (gl g0 g1)) true):=by rw [exH,loAt];rfl
theorem ex6:(exH H x g0 g1 tr)[H.length+6]? = some (.row (trL tr) true):=by rw [exH,loAt];rfl
theorem ex7:(exH H x g0 g1 tr)[H.length+7]? = some (.row [getV H.length] true):=by rw [exH,loAt];rfl
theorem sx3:(exH H x g0 g1 tr).set (H.length+3) (.row (lfL y) true)=exH H y g0 g1 tr:=by rw [exH,setAt];rfl
theorem sx5a:(exH H x g0 g1 tr).set (H.length+5) (.row (ints (gl y w)) true)=exH H x y w tr:=by rw [exH,setAt];rfl
theorem sx6:(exH H x g0 g1 tr).set (H.length+6) (.row (trL b) true)=exH H x g0 g1 b:=by rw [exH,setAt];rfl
theorem get_tried (hlim:lim≤H.length)(hK:K (.int .i64 0) (exH H x g0 g1 true)):VCall tbl lim 79 [.int .i64 w,.int .i64 m,.ptr (H.length+4) 0,.ptr (H.length+6) 0,.ptr (H.length+2) 0,.ptr (H.length+5) 0,.ptr (H.length+7) 0] (exH H x g0 g1 true) K:=by
  refine VCall_fn tbl_at79 rfl ?_
  simp [vf79,ex4,rd1,vlenS_sl]
  refine wLoop_round ?_
  simp [ex6,trL_get]
  refine wLoop_round ?_
  simp
  exact hK
theorem mn1:min (50:Int) 60=50:=by decide
theorem mn2:min (40:Int) 10=10:=by decide
theorem mn3:min (30:Int) 0=0:=by decide
theorem mn4:min (30:Int) 50=30:=by decide
theorem mn5:min (30:Int) 10=10:=by decide
theorem tgV {n:Nat}{a b:V}:vtarget (getV n) [a,b]=some (79,[a,b,.ptr (n+4) 0,.ptr (n+6) 0,.ptr (n+2) 0,.ptr (n+5) 0,.ptr (n+7) 0]):=Eq.trans rfl rfl
attribute [simp] mn1 mn2 mn3 mn4 mn5 tgV
theorem near0:nearB 3 0 0 3 0 0 0=true:=by decide
theorem trL_len {tr:Bool}:(trL tr).length=6:=Eq.trans rfl rfl
theorem lfL_len {x:Int}:(lfL x).length=4:=Eq.trans rfl rfl
theorem exg_1 (hlim:lim≤H.length)(hK:K (.int .i64 50) (exH H 10 50 0 true)):VCall tbl lim 79 [.int .i64 0,.int .i64 50,.ptr (H.length+4) 0,.ptr (H.length+6) 0,.ptr (H.length+2) 0,.ptr (H.length+5) 0,.ptr (H.length+7) 0] (exH H 60 0 0 false) K:=by
  refine VCall_fn tbl_at79 rfl ?_
  have l3:lim≤H.length+3:=by omega
  have l5:lim≤H.length+5:=by omega
  have l6:lim≤H.length+6:=by omega
  simp [vf79,ex1,ex2,ex3,ex4,ex5,ex6,ex7,sx3,sx5a,sx6,rd1,vlenS_sl,trL_get,trL_set,lfL_get,lfL_all,lfL_set,wnL_0,wnL_1,gl_set0,gl_set6,gl_get0,gl_get6,gl_len,vstoreH,trL_len,lfL_len,l3,l5,l6]
  refine wLoop_round ?_
  simp [ex1,ex2,ex3,ex4,ex5,ex6,ex7,sx3,sx5a,sx6,rd1,vlenS_sl,trL_get,trL_set,lfL_get,lfL_all,lfL_set,wnL_0,wnL_1,gl_set0,gl_set6,gl_get0,gl_get6,gl_len,vstoreH,trL_len,lfL_len,l3,l5,l6]
  refine dye_Near ?_
  simp (disch:=omega) [ex1,ex2,ex3,ex4,ex5,ex6,ex7,sx3,sx5a,sx6,rd1,vlenS_sl,trL_get,trL_set,lfL_get,lfL_all,lfL_set,wnL_0,wnL_1,gl_set0,gl_set6,gl_get0,gl_get6,gl_len,vstoreH,trL_len,lfL_len,l3,l5,l6,near0,wrap_i64]
  refine wLoop_round ?_
  simp (disch:=omega) [ex1,ex2,ex3,ex4,ex5,ex6,ex7,sx3,sx5a,sx6,rd1,vlenS_sl,trL_get,trL_set,lfL_get,lfL_all,lfL_set,wnL_0,wnL_1,gl_set0,gl_set6,gl_get0,gl_get6,gl_len,vstoreH,trL_len,lfL_len,l3,l5,l6,near0,wrap_i64]
  exact hK
theorem exg_2 (hlim:lim≤H.length)(hK:K (.int .i64 10) (exH H 0 50 10 true)):VCall tbl lim 79 [.int .i64 1,.int .i64 40,.ptr (H.length+4) 0,.ptr (H.length+6) 0,.ptr (H.length+2) 0,.ptr (H.length+5) 0,.ptr (H.length+7) 0] (exH H 10 50 0 false) K:=by
  refine VCall_fn tbl_at79 rfl ?_
  have l3:lim≤H.length+3:=by omega
  have l5:lim≤H.length+5:=by omega
  have l6:lim≤H.length+6:=by omega
  simp [vf79,ex1,ex2,ex3,ex4,ex5,ex6,ex7,sx3,sx5a,sx6,rd1,vlenS_sl,trL_get,trL_set,lfL_get,lfL_all,lfL_set,wnL_0,wnL_1,gl_set0,gl_set6,gl_get0,gl_get6,gl_len,vstoreH,trL_len,lfL_len,l3,l5,l6]
  refine wLoop_round ?_
  simp [ex1,ex2,ex3,ex4,ex5,ex6,ex7,sx3,sx5a,sx6,rd1,vlenS_sl,trL_get,trL_set,lfL_get,lfL_all,lfL_set,wnL_0,wnL_1,gl_set0,gl_set6,gl_get0,gl_get6,gl_len,vstoreH,trL_len,lfL_len,l3,l5,l6]
  refine dye_Near ?_
  simp (disch:=omega) [ex1,ex2,ex3,ex4,ex5,ex6,ex7,sx3,sx5a,sx6,rd1,vlenS_sl,trL_get,trL_set,lfL_get,lfL_all,lfL_set,wnL_0,wnL_1,gl_set0,gl_set6,gl_get0,gl_get6,gl_len,vstoreH,trL_len,lfL_len,l3,l5,l6,near0,wrap_i64]
  refine wLoop_round ?_
  simp (disch:=omega) [ex1,ex2,ex3,ex4,ex5,ex6,ex7,sx3,sx5a,sx6,rd1,vlenS_sl,trL_get,trL_set,lfL_get,lfL_all,lfL_set,wnL_0,wnL_1,gl_set0,gl_set6,gl_get0,gl_get6,gl_len,vstoreH,trL_len,lfL_len,l3,l5,l6,near0,wrap_i64]
  exact hK
theorem exg_3 (hlim:lim≤H.length)(hK:K (.int .i64 0) (exH H 0 50 10 true)):VCall tbl lim 79 [.int .i64 1,.int .i64 30,.ptr (H.length+4) 0,.ptr (H.length+6) 0,.ptr (H.length+2) 0,.ptr (H.length+5) 0,.ptr (H.length+7) 0] (exH H 0 50 10 false) K:=by
  refine VCall_fn tbl_at79 rfl ?_
  have l3:lim≤H.length+3:=by omega
  have l5:lim≤H.length+5:=by omega
  have l6:lim≤H.length+6:=by omega
  simp [vf79,ex1,ex2,ex3,ex4,ex5,ex6,ex7,sx3,sx5a,sx6,rd1,vlenS_sl,trL_get,trL_set,lfL_get,lfL_all,lfL_set,wnL_0,wnL_1,gl_set0,gl_set6,gl_get0,gl_get6,gl_len,vstoreH,trL_len,lfL_len,l3,l5,l6]
  refine wLoop_round ?_
  simp [ex1,ex2,ex3,ex4,ex5,ex6,ex7,sx3,sx5a,sx6,rd1,vlenS_sl,trL_get,trL_set,lfL_get,lfL_all,lfL_set,wnL_0,wnL_1,gl_set0,gl_set6,gl_get0,gl_get6,gl_len,vstoreH,trL_len,lfL_len,l3,l5,l6]
  refine dye_Near ?_
  simp (disch:=omega) [ex1,ex2,ex3,ex4,ex5,ex6,ex7,sx3,sx5a,sx6,rd1,vlenS_sl,trL_get,trL_set,lfL_get,lfL_all,lfL_set,wnL_0,wnL_1,gl_set0,gl_set6,gl_get0,gl_get6,gl_len,vstoreH,trL_len,lfL_len,l3,l5,l6,near0,wrap_i64]
  refine wLoop_round ?_
  simp (disch:=omega) [ex1,ex2,ex3,ex4,ex5,ex6,ex7,sx3,sx5a,sx6,rd1,vlenS_sl,trL_get,trL_set,lfL_get,lfL_all,lfL_set,wnL_0,wnL_1,gl_set0,gl_set6,gl_get0,gl_get6,gl_len,vstoreH,trL_len,lfL_len,l3,l5,l6,near0,wrap_i64]
  refine get_tried hlim ?_
  simp (disch:=omega) [ex1,ex2,ex3,ex4,ex5,ex6,ex7,sx3,sx5a,sx6,rd1,vlenS_sl,trL_get,trL_set,lfL_get,lfL_all,lfL_set,wnL_0,wnL_1,gl_set0,gl_set6,gl_get0,gl_get6,gl_len,vstoreH,trL_len,lfL_len,l3,l5,l6,near0,wrap_i64]
  refine wLoop_round ?_
  simp (disch:=omega) [ex1,ex2,ex3,ex4,ex5,ex6,ex7,sx3,sx5a,sx6,rd1,vlenS_sl,trL_get,trL_set,lfL_get,lfL_all,lfL_set,wnL_0,wnL_1,gl_set0,gl_set6,gl_get0,gl_get6,gl_len,vstoreH,trL_len,lfL_len,l3,l5,l6,near0,wrap_i64]
  refine get_tried hlim ?_
  simp (disch:=omega) [ex1,ex2,ex3,ex4,ex5,ex6,ex7,sx3,sx5a,sx6,rd1,vlenS_sl,trL_get,trL_set,lfL_get,lfL_all,lfL_set,wnL_0,wnL_1,gl_set0,gl_set6,gl_get0,gl_get6,gl_len,vstoreH,trL_len,lfL_len,l3,l5,l6,near0,wrap_i64]
  refine wLoop_round ?_
  simp (disch:=omega) [ex1,ex2,ex3,ex4,ex5,ex6,ex7,sx3,sx5a,sx6,rd1,vlenS_sl,trL_get,trL_set,lfL_get,lfL_all,lfL_set,wnL_0,wnL_1,gl_set0,gl_set6,gl_get0,gl_get6,gl_len,vstoreH,trL_len,lfL_len,l3,l5,l6,near0,wrap_i64]
  refine wLoop_round ?_
  simp (disch:=omega) [ex1,ex2,ex3,ex4,ex5,ex6,ex7,sx3,sx5a,sx6,rd1,vlenS_sl,trL_get,trL_set,lfL_get,lfL_all,lfL_set,wnL_0,wnL_1,gl_set0,gl_set6,gl_get0,gl_get6,gl_len,vstoreH,trL_len,lfL_len,l3,l5,l6,near0,wrap_i64]
  exact hK
def ex0 (H:Hp):Hp:=H++[.row (lfL 60) true,.row wnL true]
theorem lot0:LstV lotC (ex0 H) (.sl H.length 0 1 4) [⟨60,3,0,0⟩]:=by
  have:=LstV.sl (c:=lotC) (H:=ex0 H) (b:=H.length) (off:=0) (cs:=lfL 60) (own:=true) (l:=[⟨60,3,0,0⟩]) (by rw [ex0,loAt0];rfl) (by decide) (by rfl)
  simpa using this
theorem wnt0:LstV wntC (ex0 H) (.sl (H.length+1) 0 2 5) [⟨50,3,0,0,0⟩,⟨40,3,0,0,0⟩]:=by
  have:=LstV.sl (c:=wntC) (H:=ex0 H) (b:=H.length+1) (off:=0) (cs:=wnL) (own:=true) (l:=[⟨50,3,0,0,0⟩,⟨40,3,0,0,0⟩]) (by rw [ex0,loAt];rfl) (by decide) (by rfl)
  simpa using this
theorem ex_mks {L:Lo}{H:Hp}:vmks 4 32 (ints (zs 4)) L H (.int .i64 1) (.int .i64 1)=some (.val (.sl H.length 0 1 4) L (H++[.row (lfL0) true])):=Eq.trans rfl rfl
theorem spl1 {a b:V}:splice [a] 0 [b]=[b]:=Eq.trans rfl rfl
theorem ex_copy (hlim:lim≤H.length){a b:Blk}:vcopy lim 4 (H++[.row (lfL 60) true,a,b,.row lfL0 true,.row [.sl (H.length+3) 0 1 4] true]) (.sl (H.length+3) 0 1 4) (.sl H.length 0 1 4) =
    some (.int .i64 1,H++[.row (lfL 60) true,a,b,.row (lfL 60) true,.row [.sl (H.length+3) 0 1 4] true]):=by
  have l3:lim≤H.length+3:=by omega
  simp [vcopy,vcells,loAt,loAt0,vlenS_sl,vstoreH,l3,setAt,lfL,lfL0,splice]
theorem ex_slA:vslA 6 1 (exH H x g0 g1 tr) (.ptr (H.length+6) 0) none none=some (.sl (H.length+6) 0 6 1):=vslA_all ex6 (by rw [trL_len];exact Nat.le_refl _)
theorem ex_clr (hlim:lim≤H.length):vclr lim 1 [.bool false] (exH H x g0 g1 tr) (.sl (H.length+6) 0 6 1)=some (exH H x g0 g1 false):=by
  have l6:lim≤H.length+6:=by omega
  have e:splice (trL tr) 0 [.bool false,.bool false,.bool false,.bool false,.bool false,.bool false]=trL false:=Eq.trans rfl rfl
  simp [vclr,vstoreH,l6,ex6,e,sx6,trL_len,rowOf]
theorem ex_share (hlim:lim≤H.length)(hK:K (.agg (ints (gl 50 10))) (exH H 0 50 10 true)):VCall tbl lim 59 [.sl H.length 0 1 4,.sl (H.length+1) 0 2 5] (ex0 H) K:=by
  refine VCall_fn tbl_at59 rfl ?_
  have l3:lim≤H.length+3:=by omega
  have l5:lim≤H.length+5:=by omega
  have l6:lim≤H.length+6:=by omega
  have l4:lim≤H.length+4:=by omega
  have l7:lim≤H.length+7:=by omega
  simp (disch:=omega) [vf59,ex_mks,ex0,List.append_assoc,loAt,loAt0,setAt,l4,vstoreH,spl1,rd1,ex_copy hlim,l7,Nat.add_assoc]
  have hE:H++[.row (lfL 60) true,.row wnL true,.row [.sl (H.length+1) 0 2 5] true,.row (lfL 60) true,.row [.sl (H.length+3) 0 1 4] true,.row (ints (zs 36)) true,.row [.bool false,.bool false,.bool false,.bool false,.bool false,.bool false] true,.row [.func (.func 79) [] [.ptr (H.length+4) 0,.ptr (H.length+6) 0,.ptr (H.length+2) 0,.ptr (H.length+5) 0,.ptr (H.length+7) 0]] true]=exH H 60 0 0 false:=Eq.trans rfl rfl
  rw [hE]
  refine wLoop_round ?_
  simp (disch:=omega) [ex1,ex2,ex3,ex4,ex5,ex6,ex7,sx3,sx5a,sx6,rd1,vlenS_sl,trL_get,trL_set,lfL_get,lfL_all,lfL_set,wnL_0,wnL_1,gl_set0,gl_set6,gl_get0,gl_get6,gl_len,vstoreH,trL_len,lfL_len,l3,l5,l6,near0,wrap_i64,ex_slA,ex_clr hlim,iz5,splice55,lastO,lastS]
  refine wLoop_round ?_
  simp (disch:=omega) [ex1,ex2,ex3,ex4,ex5,ex6,ex7,sx3,sx5a,sx6,rd1,vlenS_sl,trL_get,trL_set,lfL_get,lfL_all,lfL_set,wnL_0,wnL_1,gl_set0,gl_set6,gl_get0,gl_get6,gl_len,vstoreH,trL_len,lfL_len,l3,l5,l6,near0,wrap_i64,ex_slA,ex_clr hlim,iz5,splice55,lastO,lastS]
  refine exg_1 hlim ?_
  simp (disch:=omega) [ex1,ex2,ex3,ex4,ex5,ex6,ex7,sx3,sx5a,sx6,rd1,vlenS_sl,trL_get,trL_set,lfL_get,lfL_all,lfL_set,wnL_0,wnL_1,gl_set0,gl_set6,gl_get0,gl_get6,gl_len,vstoreH,trL_len,lfL_len,l3,l5,l6,near0,wrap_i64,ex_slA,ex_clr hlim,iz5,splice55,lastO,lastS]
  refine wLoop_round ?_
  simp (disch:=omega) [ex1,ex2,ex3,ex4,ex5,ex6,ex7,sx3,sx5a,sx6,rd1,vlenS_sl,trL_get,trL_set,lfL_get,lfL_all,lfL_set,wnL_0,wnL_1,gl_set0,gl_set6,gl_get0,gl_get6,gl_len,vstoreH,trL_len,lfL_len,l3,l5,l6,near0,wrap_i64,ex_slA,ex_clr hlim,iz5,splice55,lastO,lastS]
  refine wLoop_round ?_
  simp (disch:=omega) [ex1,ex2,ex3,ex4,ex5,ex6,ex7,sx3,sx5a,sx6,rd1,vlenS_sl,trL_get,trL_set,lfL_get,lfL_all,lfL_set,wnL_0,wnL_1,gl_set0,gl_set6,gl_get0,gl_get6,gl_len,vstoreH,trL_len,lfL_len,l3,l5,l6,near0,wrap_i64,ex_slA,ex_clr hlim,iz5,splice55,lastO,lastS]
  refine wLoop_round ?_
  simp (disch:=omega) [ex1,ex2,ex3,ex4,ex5,ex6,ex7,sx3,sx5a,sx6,rd1,vlenS_sl,trL_get,trL_set,lfL_get,lfL_all,lfL_set,wnL_0,wnL_1,gl_set0,gl_set6,gl_get0,gl_get6,gl_len,vstoreH,trL_len,lfL_len,l3,l5,l6,near0,wrap_i64,ex_slA,ex_clr hlim,iz5,splice55,lastO,lastS]
  refine exg_2 hlim ?_
  simp (disch:=omega) [ex1,ex2,ex3,ex4,ex5,ex6,ex7,sx3,sx5a,sx6,rd1,vlenS_sl,trL_get,trL_set,lfL_get,lfL_all,lfL_set,wnL_0,wnL_1,gl_set0,gl_set6,gl_get0,gl_get6,gl_len,vstoreH,trL_len,lfL_len,l3,l5,l6,near0,wrap_i64,ex_slA,ex_clr hlim,iz5,splice55,lastO,lastS]
  refine wLoop_round ?_
  simp (disch:=omega) [ex1,ex2,ex3,ex4,ex5,ex6,ex7,sx3,sx5a,sx6,rd1,vlenS_sl,trL_get,trL_set,lfL_get,lfL_all,lfL_set,wnL_0,wnL_1,gl_set0,gl_set6,gl_get0,gl_get6,gl_len,vstoreH,trL_len,lfL_len,l3,l5,l6,near0,wrap_i64,ex_slA,ex_clr hlim,iz5,splice55,lastO,lastS]
  refine exg_3 hlim ?_
  simp (disch:=omega) [ex1,ex2,ex3,ex4,ex5,ex6,ex7,sx3,sx5a,sx6,rd1,vlenS_sl,trL_get,trL_set,lfL_get,lfL_all,lfL_set,wnL_0,wnL_1,gl_set0,gl_set6,gl_get0,gl_get6,gl_len,vstoreH,trL_len,lfL_len,l3,l5,l6,near0,wrap_i64,ex_slA,ex_clr hlim,iz5,splice55,lastO,lastS]
  refine wLoop_round ?_
  simp (disch:=omega) [ex1,ex2,ex3,ex4,ex5,ex6,ex7,sx3,sx5a,sx6,rd1,vlenS_sl,trL_get,trL_set,lfL_get,lfL_all,lfL_set,wnL_0,wnL_1,gl_set0,gl_set6,gl_get0,gl_get6,gl_len,vstoreH,trL_len,lfL_len,l3,l5,l6,near0,wrap_i64,ex_slA,ex_clr hlim,iz5,splice55,lastO,lastS]
  exact hK
end
end Go.Proofs.Ytkmcdiajcnejiaa.Vm
namespace Go.Proofs.Ytkmcdiajcnejiaa.Vm
open Go
set_option maxRecDepth 100000
set_option linter.unusedSimpArgs false
set_option linter.unusedVariables false
attribute [-simp] List.getD_eq_getElem?_getD
structure Gft where
  w:Int
  l:Int
  n:Int
  deriving Inhabited
def Gft.cells (e:Gft):List V:=[.int .i64 e.w,.int .i64 e.l,.int .i64 e.n]
def gftC:Cod Gft 3:=⟨Gft.cells,fun _=>rfl⟩
def gfR (g:List Int)(w:Nat):Nat→List Gft
  | 0=>[]
  | j+1=>gfR g w j++if 0<g.getD (6*w+j) 0 then [⟨w,j,g.getD (6*w+j) 0⟩] else []
def gfA (g:List Int):Nat→List Gft
  | 0=>[]
  | w+1=>gfA g w++gfR g w 6
def smR (g:List Int)(w:Nat):Nat→Int
  | 0=>0
  | j+1=>smR g w j+if 0<g.getD (6*w+j) 0 then g.getD (6*w+j) 0 else 0
def smA (g:List Int):Nat→Int
  | 0=>0
  | w+1=>smA g w+smR g w 6
theorem gfR_len {g:List Int}{w:Nat}:∀j,(gfR g w j).length≤j
  | 0=>by simp [gfR]
  | j+1=>by
    have:=gfR_len (g:=g) (w:=w) j
    simp only [gfR,List.length_append];split<;>simp<;>omega
theorem gfA_len {g:List Int}:∀w,(gfA g w).length≤6*w
  | 0=>by simp [gfA]
  | w+1=>by
    have:=gfA_len (g:=g) w
    have:=gfR_len (g:=g) (w:=w) 6
    simp only [gfA,List.length_append];omega
theorem smR_bd {g:List Int}(hg:∀i,0≤g.getD i 0∧g.getD i 0≤1000000){w:Nat}:∀j:Nat,0≤smR g w j∧smR g w j≤1000000*(j:Int)
  | 0=>by simp [smR]
  | j+1=>by
    have:=smR_bd hg (w:=w) j
    have:=hg (6*w+j)
    simp only [smR];split<;>omega
theorem smA_bd {g:List Int}(hg:∀i,0≤g.getD i 0∧g.getD i 0≤1000000):∀w:Nat,0≤smA g w∧smA g w≤6000000*(w:Int)
  | 0=>by simp [smA]
  | w+1=>by
    have:=smA_bd hg w
    have:=smR_bd hg (w:=w) 6
    simp only [smA];omega
theorem gRow {g:List Int}(hl:g.length=36){w:Nat}(hw:w<6):vidxA 6 6 (some 6) (.agg (ints g)) (.int .i64 (w:Int))=some (.agg (ints ((g.drop (6*w)).take 6))):=by
  rw [vidxA_in (by omega)]
  simp only [vfield,rd,ints_length,Int.toNat_natCast]
  rw [if_pos (by omega)]
  simp [ints,List.map_take,List.map_drop,Nat.mul_comm]
theorem gEl {g:List Int}(hl:g.length=36){w j:Nat}(hw:w<6)(hj:j<6):vidxA 6 1 none (.agg (ints ((g.drop (6*w)).take 6))) (.int .i64 (j:Int))=some (.int .i64 (g.getD (6*w+j) 0)):=by
  rw [vidxA_in (by omega)]
  have hlen:((g.drop (6*w)).take 6).length=6:=by simp;omega
  simp only [vfield,Int.toNat_natCast,Nat.mul_one]
  rw [rd_ints (by omega)]
  congr 2
  simp only [List.getD_eq_getElem?_getD]
  rw [List.getElem?_take_of_lt hj,List.getElem?_drop]
section
variable {lim:Nat}{H:Hp}{K:V→Hp→Prop}{av bv:V}{A:List Lot}{B:List Wnt}
theorem dye_BestOf (ha:LstV lotC H av A) (hb:LstV wntC H bv B) (hlim:lim≤H.length) (hv:valP A B=0) {G:List Int→Prop}
    (hsh:∀K':V→Hp→Prop,(∀H' g,HX H H'→g.length=36→(∀i,0≤g.getD i 0∧g.getD i 0≤1000000)→G g→K' (.agg (ints g)) H')→VCall tbl lim 59 [av,bv] H K')
    (hK:∀H' v g,HX H H'→OwnT H.length gftC H' v (gfA g 6)→G g→K (.tup [v,.int .i64 (smA g 6),.int .i64 0]) H'):VCall tbl lim 28 [av,bv] H K:=by
  refine VCall_fn tbl_at28 rfl ?_
  simp [vf28,ha.stor,hb.stor]
  refine dye_Validate ha hb ?_
  simp [hv,ha.stor,hb.stor]
  refine hsh _ fun H1 g x1 hl hg hG => ?_
  replace x1:HX H H1:=x1
  have l1:=x1.len
  simp
  refine wLoop_up 6 (fun w fr L H'=>∃v X,(fr 8=v∧fr 9=.int .i64 (smA g w)∧fr 22=.agg (ints g)∧fr 23=.int .i64 w)∧L=X∧HX H H'∧OwnT H.length gftC H' v (gfA g w)) ⟨.snil,_,by simp [smA],rfl,x1,.nil⟩ ?_
  rintro w hw fr L H2 ⟨v,X,⟨f8,f9,f22,f23⟩,rfl,hx,hv2⟩
  simp [f8,f9,f22,f23]
  refine cond_dec (fun ht => ?_) fun hfl => ?_
  · have ht:w<6:=by omega
    have hrl:((g.drop (6*w)).take 6).length=6:=by simp;omega
    have e1:splice (ints (zs 6)) 0 (ints ((g.drop (6*w)).take 6))=ints ((g.drop (6*w)).take 6):=splice_ints_all (by rw [hrl];simp)
    have e2:rd (some 6) (ints ((g.drop (6*w)).take 6)) 0=some (.agg (ints ((g.drop (6*w)).take 6))):=rd_ints_all hrl.symm
    have e3:=gRow hl ht
    simp [f8,f9,f22,f23,e3,lastO,lastS,e1,e2,hrl]
    refine wLoop_up 6 (fun j fr L H'=>∃v X,(fr 8=v∧fr 9=.int .i64 (smA g w+smR g w j)∧fr 10=.int .i64 w∧fr 22=.agg (ints g)∧fr 23=.int .i64 w∧fr 27=.agg (ints ((g.drop (6*w)).take 6))∧fr 28=.int .i64 j)∧L=X∧HX H H'∧OwnT H.length gftC H' v (gfA g w++gfR g w j)) ⟨v,_,by simp [f8,f9,f22,f23,smR],rfl,hx,by simpa [gfR] using hv2⟩ ?_
    clear f8 f9 f22 f23 hx hv2
    rintro j hj fr L H2 ⟨v,X,⟨f8,f9,f10,f22,f23,f27,f28⟩,rfl,hx,hv2⟩
    simp [f8,f9,f10,f22,f23,f27,f28]
    have b1:=smA_bd hg w
    have b2:=smR_bd hg (w:=w) j
    refine cond_dec (fun ht2 => ?_) fun hfl2 => ?_
    · have ht2:j<6:=by omega
      have e4:=gEl hl ht ht2
      have b3:=hg (6*w+j)
      simp [f8,f9,f10,f22,f23,f27,f28,e4]
      refine cond_dec (fun hp => ?_) fun hp => ?_
      · have hll:(gfA g w++gfR g w j).length≤1000:=by
          have:=gfA_len (g:=g) w
          have:=gfR_len (g:=g) (w:=w) j
          simp only [List.length_append];omega
        obtain ⟨v',H3,a1,a2,a3,a4,a5,a6⟩:=hv2.append (lim:=lim) (bytes:=24) (x:=⟨w,j,g.getD (6*w+j) 0⟩) (cs:=[.int .i64 w,.int .i64 j,.int .i64 (g.getD (6*w+j) 0)]) rfl ⟨hlim,hx.len⟩ (by omega) (by omega)
        simp (disch:=omega) [f8,f9,f10,f22,f23,f27,f28,a1,wrap_i64]
        refine ⟨by omega,_,⟨rfl,?_⟩,a3 _ hx (Nat.le_refl _),?_⟩
        · simp only [smR,hp,if_true];omega
        · simp only [gfR,hp,if_true]
          rw [←List.append_assoc];exact a2
      · simp (disch:=omega) [f8,f9,f10,f22,f23,f27,f28,wrap_i64]
        refine ⟨by omega,_,⟨rfl,?_⟩,hx,?_⟩
        · simp only [smR,hp,if_false];omega
        · simp only [gfR,hp,if_false,List.append_nil];exact hv2
    · have:j=6:=by omega
      subst this
      simp (disch:=omega) [f8,f9,f10,f22,f23,f27,f28,wrap_i64]
      refine ⟨by omega,_,⟨rfl,?_⟩,hx,?_⟩
      · simp only [smA]
      · simpa [gfA] using hv2
  · have:w=6:=by omega
    subst this
    simp [f8,f9,f22,f23,hv2.lst.stor]
    exact hK _ _ _ hx hv2 hG
theorem HX.app {X:Hp}:HX H (H++X):=⟨X,rfl⟩
theorem ex_hx {x g0 g1:Int}{tr:Bool}:HX (ex0 H) (exH H x g0 g1 tr):=⟨(exR H.length x g0 g1 tr).drop 2,by simp [ex0,exH,exR]⟩
theorem law_known (hlim:lim≤H.length)(hK:∀H',K (.bool true) H'):VCall tbl lim 13 [] H K:=by
  refine VCall_fn tbl_at13 rfl ?_
  simp [vf13]
  refine dye_Baths hlim fun H1 x1 => ?_
  replace x1:HX H H1:=x1
  have l1:=x1.len
  have e1:pathO 2 0 0 5 3=some [⟨4,0,1⟩,⟨6,0,2⟩,⟨5,3,2⟩]:=by decide
  have e2:pathL 2 0 0 5 3=[⟨4,0,1⟩,⟨6,0,2⟩,⟨5,3,2⟩]:=by decide
  have e3:pathE 2 0 0 5 3=0:=by decide
  have lf:splice (ints (zs 4)) 0 [.int .i64 60,.int .i64 3,.int .i64 0,.int .i64 0]=lfL 60:=Eq.trans rfl rfl
  simp (disch:=omega) [e1,e2,e3,splice,iz4,iz5,zs]
  show VCall tbl lim _ [_,_] (ex0 H1) _
  have e4:(ex0 H1).length=H1.length+2:=by simp [ex0]
  refine dye_BestOf lot0 wnt0 (G:=fun g=>g=gl 50 10) (by omega) (by decide) (fun K' hk => ?_) fun H2 v g x2 o2 hg => ?_
  · refine ex_share (by omega) (hk _ _ ex_hx (by decide) (fun i => ?_) rfl)
    have h36:∀i,i<36→0≤(gl 50 10).getD i 0∧(gl 50 10).getD i 0≤1000000:=by decide
    by_cases h:i<36
    · exact h36 i h
    · rw [getD_big (by rw [gl_len];omega)];omega
  · subst hg
    have e5:smA (gl 50 10) 6=60:=by decide
    simp [e5,o2.lst.stor]
    exact hK _
end
end Go.Proofs.Ytkmcdiajcnejiaa.Vm
namespace Go.Proofs.Ytkmcdiajcnejiaa.Vm
open Go
set_option maxRecDepth 100000
set_option linter.unusedSimpArgs false
set_option linter.unusedVariables false
attribute [-simp] List.getD_eq_getElem?_getD
structure Trd where
  A:List Lot
  B:List Wnt
def Lot.in64 (e:Lot):Prop:=I64 e.w∧I64 e.l∧I64 e.t∧I64 e.b
def Wnt.in64 (e:Wnt):Prop:=I64 e.w∧I64 e.l∧I64 e.t∧I64 e.b∧I64 e.n
inductive TrdV (H:Hp):List V→Trd→Prop
  | mk {av bv:V} {A:List Lot} {B:List Wnt}:LstV lotC H av A→LstV wntC H bv B→TrdV H [av,bv] ⟨A,B⟩
theorem trd_of {H:Hp}{ws:List V}{ds:List CD}(h:RepTs H [.sl [cInt,cInt,cInt,cInt],.sl [cInt,cInt,cInt,cInt,cInt]] ws ds):∃f,TrdV H ws f:=by
  obtain ⟨v0,u0,_,_,rfl,_,p0,q0⟩:=reps_cons h
  obtain ⟨v1,u1,_,_,rfl,_,p1,q1⟩:=reps_cons q0
  have e:=reps_nil q1
  subst e
  obtain ⟨l1,h1,_,_⟩:=lst_of (c:=lotC) rfl (fun z=>True) (fun vs ds h=>by
    obtain ⟨v0,u0,_,_,rfl,_,p0,q0⟩:=reps_cons h
    obtain ⟨v1,u1,_,_,rfl,_,p1,q1⟩:=reps_cons q0
    obtain ⟨v2,u2,_,_,rfl,_,p2,q2⟩:=reps_cons q1
    obtain ⟨v3,u3,_,_,rfl,_,p3,q3⟩:=reps_cons q2
    have e:=reps_nil q3
    subst e
    obtain ⟨n0,rfl,c0⟩:=int_of p0
    obtain ⟨n1,rfl,c1⟩:=int_of p1
    obtain ⟨n2,rfl,c2⟩:=int_of p2
    obtain ⟨n3,rfl,c3⟩:=int_of p3
    exact ⟨⟨n0,n1,n2,n3⟩,rfl,trivial⟩) p0
  obtain ⟨l2,h2,_,_⟩:=lst_of (c:=wntC) rfl (fun z=>True) (fun vs ds h=>by
    obtain ⟨v0,u0,_,_,rfl,_,p0,q0⟩:=reps_cons h
    obtain ⟨v1,u1,_,_,rfl,_,p1,q1⟩:=reps_cons q0
    obtain ⟨v2,u2,_,_,rfl,_,p2,q2⟩:=reps_cons q1
    obtain ⟨v3,u3,_,_,rfl,_,p3,q3⟩:=reps_cons q2
    obtain ⟨v4,u4,_,_,rfl,_,p4,q4⟩:=reps_cons q3
    have e:=reps_nil q4
    subst e
    obtain ⟨n0,rfl,c0⟩:=int_of p0
    obtain ⟨n1,rfl,c1⟩:=int_of p1
    obtain ⟨n2,rfl,c2⟩:=int_of p2
    obtain ⟨n3,rfl,c3⟩:=int_of p3
    obtain ⟨n4,rfl,c4⟩:=int_of p4
    exact ⟨⟨n0,n1,n2,n3,n4⟩,rfl,trivial⟩) p1
  exact ⟨⟨l1,l2⟩,.mk h1 h2⟩
section
variable {lim:Nat}{H:Hp}{K:V→Hp→Prop}{av bv:V}{A:List Lot}{B:List Wnt}
theorem law_wide (ha:LstV lotC H av A)(hb:LstV wntC H bv B)(hK:K (.bool (decide (30<A.length)||decide (30<B.length))) H):VCall tbl lim 27 [.agg [av,bv]] H K:=by
  refine VCall_fn tbl_at27 rfl ?_
  have e1:decide (30<(A.length:Int))=decide (30<A.length):=by simp only [decide_eq_decide];omega
  have e2:decide (30<(B.length:Int))=decide (30<B.length):=by simp only [decide_eq_decide];omega
  simp [vf27,ha.stor,hb.stor,ha.len,hb.len,e1,e2]
  simpa using hK
end
end Go.Proofs.Ytkmcdiajcnejiaa.Vm
namespace Go.Proofs.Ytkmcdiajcnejiaa.Vm
open Go
set_option maxRecDepth 100000
set_option linter.unusedSimpArgs false
set_option linter.unusedVariables false
attribute [-simp] List.getD_eq_getElem?_getD
def giftE (A:List Lot)(B:List Wnt)(g:Gft):Int :=
  if g.w<0∨(B.length:Int)≤g.w∨g.l<0∨(A.length:Int)≤g.l then 5 else if g.n<1∨1000<g.n then 1
  else if nearB (A.getD g.l.toNat default).l (A.getD g.l.toNat default).t (A.getD g.l.toNat default).b (B.getD g.w.toNat default).l (B.getD g.w.toNat default).t (B.getD g.w.toNat default).b (B.getD g.w.toNat default).n=true then 0 else 8
def firstE (A:List Lot)(B:List Wnt)(G:List Gft):Nat→Int
  | 0=>0
  | i+1=>if firstE A B G i=0 then giftE A B (G.getD i default) else firstE A B G i
def cL (G:List Gft)(k:Nat):Nat→Int
  | 0=>0
  | i+1=>cL G k i+if (G.getD i default).l=(k:Int) then (G.getD i default).n else 0
def cW (G:List Gft)(k:Nat):Nat→Int
  | 0=>0
  | i+1=>cW G k i+if (G.getD i default).w=(k:Int) then (G.getD i default).n else 0
def sG (G:List Gft):Nat→Int
  | 0=>0
  | i+1=>sG G i+(G.getD i default).n
def lotsOk (A:List Lot)(G:List Gft)(k:Nat):Bool := !decide ((A.getD k default).w<cL G k G.length)
def wntsOk (B:List Wnt)(G:List Gft)(k:Nat):Bool := !decide ((B.getD k default).w<cW G k G.length)
def checkP (A:List Lot)(B:List Wnt)(G:List Gft):Int×Int :=
  if valP A B=0 then (if firstE A B G G.length=0 then (if allN (lotsOk A G) A.length=true∧allN (wntsOk B G) B.length=true then (sG G G.length,0) else (0,6)) else (0,firstE A B G G.length)) else (0,valP A B)
section
variable {lim:Nat}{H:Hp}{K:V→Hp→Prop}{av bv gv:V}{A:List Lot}{B:List Wnt}{G:List Gft}
theorem OwnV.keepB {n:Nat}{H H':Hp}{v:V}{l:List Int}(h:OwnV n H v l)(hk:∀b o k z,v=.sl b o k z→H'[b]? = H[b]?):OwnV n H' v l:=by
  cases h with
  | nil=>exact .nil
  | row h1 h2=>exact .row h1 (by rw [hk _ _ _ _ rfl];exact h2)
end
end Go.Proofs.Ytkmcdiajcnejiaa.Vm
namespace Go.Proofs.Ytkmcdiajcnejiaa.Vm
open Go
set_option maxRecDepth 100000
set_option linter.unusedSimpArgs false
set_option linter.unusedVariables false
attribute [-simp] List.getD_eq_getElem?_getD
def su (f:Nat→Int):Nat→Int
  | 0=>0
  | n+1=>su f n+f n
theorem su_congr {f g:Nat→Int}:∀{n:Nat},(∀i,i<n→f i=g i)→su f n=su g n
  | 0,_=>rfl
  | n+1,h=>by simp only [su,su_congr (n:=n) fun i hi=>h i (by omega),h n (by omega)]
theorem su_le {f g:Nat→Int}:∀{n:Nat},(∀i,i<n→f i≤g i)→su f n≤su g n
  | 0,_=>Int.le_refl _
  | n+1,h=>by
    have:=su_le (n:=n) fun i hi=>h i (by omega)
    have:=h n (by omega)
    simp only [su];omega
theorem su_zero {f:Nat→Int}:∀{n:Nat},(∀i,i<n→f i=0)→su f n=0
  | 0,_=>rfl
  | n+1,h=>by simp only [su,su_zero (n:=n) fun i hi=>h i (by omega),h n (by omega)];rfl
theorem su_nn {f:Nat→Int}{n:Nat}(h:∀i,i<n→0≤f i):0≤su f n:=by
  have:=su_le (f:=fun _=>0) (g:=f) h
  rw [su_zero fun _ _=>rfl] at this;exact this
theorem su_add {f g:Nat→Int}:∀{n:Nat},su (fun i=>f i+g i) n=su f n+su g n
  | 0=>rfl
  | n+1=>by simp only [su,su_add (n:=n)];omega
theorem su_swap {h:Nat→Nat→Int}{m:Nat}:∀{n:Nat},su (fun w=>su (fun l=>h w l) m) n=su (fun l=>su (fun w=>h w l) n) m
  | 0=>(su_zero fun _ _=>rfl).symm
  | n+1=>by
    simp only [su,su_swap (n:=n)]
    rw [←su_add]
theorem su_upd {f:Nat→Int}{k:Nat}{x:Int}:∀{n:Nat},su (fun i=>if i=k then x else f i) n=su f n+if k<n then x-f k else 0
  | 0=>by simp [su]
  | n + 1=>by
    have ih:=su_upd (f:=f) (k:=k) (x:=x) (n:=n)
    simp only [su,ih]
    by_cases e:n=k
    · subst e;rw [if_pos rfl,if_neg (by omega),if_pos (by omega)];omega
    · rw [if_neg e]
      by_cases e2:k<n
      · rw [if_pos e2,if_pos (by omega)];omega
      · rw [if_neg e2,if_neg (by omega)];omega
theorem su_one {f:Nat→Int}:∀{n k:Nat},(∀i,i<n→0≤f i)→k<n→f k≤su f n
  | n + 1,k,h,hk=>by
    have nn:=su_nn (f:=f) (n:=n) fun i hi=>h i (by omega)
    have:=h n (by omega)
    simp only [su]
    by_cases e:k=n
    · subst e;omega
    · have:=su_one (n:=n) (k:=k) (fun i hi=>h i (by omega)) (by omega)
      omega
end Go.Proofs.Ytkmcdiajcnejiaa.Vm
namespace Go.Proofs.Ytkmcdiajcnejiaa.Vm
open Go
set_option maxRecDepth 100000
set_option linter.unusedSimpArgs false
set_option linter.unusedVariables false
attribute [-simp] List.getD_eq_getElem?_getD
structure Net where
  nl:Nat
  nw:Nat
  c:Nat→Int
  d:Nat→Int
  N:Nat→Nat→Bool
structure Fl where
  left:Nat→Int
  g:Nat→Nat→Int
structure FlOk (p:Net)(s:Fl):Prop where
  lot:∀l,l<p.nl→0≤s.left l∧s.left l+su (fun w=>s.g w l) p.nw=p.c l
  giv:∀w,w<p.nw→∀l,l<p.nl→0≤s.g w l∧(0<s.g w l→p.N l w=true)
  out:∀w l,(p.nw≤w∨p.nl≤l)→s.g w l=0
def gotF (p:Net)(s:Fl)(w:Nat):Int:=su (s.g w) p.nl
structure ClsF (p:Net)(s:Fl)(S T:Nat→Prop):Prop where
  near:∀w,w<p.nw→S w→∀l,l<p.nl→p.N l w=true→T l
  full:∀l,l<p.nl→T l→s.left l=0∧∀w,w<p.nw→0<s.g w l→S w
structure SameF (p:Net)(s s':Fl):Prop where
  left:∀l,l<p.nl→s'.left l=s.left l
  g:∀w l,s'.g w l=s.g w l
structure GetR (p:Net)(s:Fl)(tr:Nat→Bool)(w0:Nat)(m:Int)(s':Fl)(tr':Nat→Bool)(n:Int):Prop where
  ok:FlOk p s'
  rng:0≤n∧n≤m
  mono:∀l,tr l=true→tr' l=true
  keep:∀l,l<p.nl→tr l=true→s'.left l=s.left l∧∀w,w<p.nw→s'.g w l=s.g w l
  same:n=0→SameF p s s'
  near:n=0→∀l,l<p.nl→p.N l w0=true→tr' l=true
  full:n=0→∀l,l<p.nl→tr' l=true→tr l=false→s.left l=0∧∀w,w<p.nw→0<s.g w l→∀l',l'<p.nl→p.N l' w=true→tr' l'=true
  got:∀w,w<p.nw→gotF p s' w=gotF p s w+if w=w0 then n else 0
  cls:∀S T:Nat→Prop,ClsF p s S T→(S w0→n=0)∧∀l,l<p.nl→T l→s'.left l=s.left l∧∀w,w<p.nw→s'.g w l=s.g w l
structure LopI (p:Net)(s:Fl)(tr:Nat→Bool)(w0 k:Nat)(t:Nat→Bool):Prop where
  mono:∀l,tr l=true→t l=true
  near:∀l,l<k→l<p.nl→p.N l w0=true→t l=true
  full:∀l,l<p.nl→t l=true→tr l=false→s.left l=0∧∀w,w<p.nw→0<s.g w l→∀l',l'<p.nl→p.N l' w=true→t l'=true
structure InnI (p:Net)(s:Fl)(tr:Nat→Bool)(w0 k o:Nat)(t:Nat→Bool):Prop where
  mono:∀l,tr l=true→t l=true
  near:∀l,l<k→l<p.nl→p.N l w0=true→t l=true
  here:t k=true
  full:∀l,l<p.nl→l≠k→t l=true→tr l=false→s.left l=0∧∀w,w<p.nw→0<s.g w l→∀l',l'<p.nl→p.N l' w=true→t l'=true
  back:∀w,w<o→w<p.nw→0<s.g w k→∀l',l'<p.nl→p.N l' w=true→t l'=true
section
variable {p:Net}{s s':Fl}{tr tr' t t':Nat→Bool}{w0 k o:Nat}{m n:Int}
theorem SameF.refl:SameF p s s:=⟨fun _ _=>rfl,fun _ _=>rfl⟩
theorem FlOk.same (h:FlOk p s)(e:SameF p s s'):FlOk p s' :=
  ⟨fun l hl=>by
    rw [e.left l hl,su_congr fun w hw=>e.g w l];exact h.lot l hl,fun w hw l hl=>by rw [e.g w l];exact h.giv w hw l hl,fun w l hl=>by rw [e.g w l];exact h.out w l hl⟩
theorem LopI.start:LopI p s tr w0 0 tr:=⟨fun _ h=>h,fun l h=>by omega,fun l _ h1 h2=>by rw [h1] at h2;cases h2⟩
theorem LopI.skip (h:LopI p s tr w0 k t)(hk:t k=true∨p.N k w0=false):LopI p s tr w0 (k+1) t :=
  ⟨h.mono,fun l h1 h2 h3=>by
    by_cases e:l=k
    · subst e
      rcases hk with hk | hk
      · exact hk
      · rw [hk] at h3;cases h3
    · exact h.near l (by omega) h2 h3,h.full⟩
theorem LopI.enter (h:LopI p s tr w0 k t)(ht:∀l,t' l=true↔(l=k∨t l=true)):InnI p s tr w0 k 0 t' :=
  ⟨fun l hl=>(ht l).2 (Or.inr (h.mono l hl)),fun l h1 h2 h3=>(ht l).2 (Or.inr (h.near l h1 h2 h3)),(ht k).2 (Or.inl rfl),fun l h1 h2 h3 h4=>by
    have h5:t l=true:=by
      rcases (ht l).1 h3 with e | e
      · exact absurd e h2
      · exact e
    obtain ⟨q1,q2⟩:=h.full l h1 h5 h4
    exact ⟨q1,fun w hw hg l' hl' hn=>(ht l').2 (Or.inr (q2 w hw hg l' hl' hn))⟩,fun w hw=>by omega⟩
theorem InnI.skip (h:InnI p s tr w0 k o t)(hg:¬0<s.g o k):InnI p s tr w0 k (o+1) t :=
  ⟨h.mono,h.near,h.here,h.full,fun w h1 h2 h3=>by
    by_cases e:w=o
    · subst e;exact absurd h3 hg
    · exact h.back w (by omega) h2 h3⟩
theorem InnI.step (h:InnI p s tr w0 k o t)(hr:GetR p s t o m s' t' 0):InnI p s tr w0 k (o+1) t':=by
  refine ⟨fun l hl=>hr.mono l (h.mono l hl),fun l h1 h2 h3=>hr.mono l (h.near l h1 h2 h3),hr.mono k h.here,fun l h1 h2 h3 h4 => ?_,fun w h1 h2 h3 l' hl' hn => ?_⟩
  · by_cases e:t l=true
    · obtain ⟨q1,q2⟩:=h.full l h1 h2 e h4
      exact ⟨q1,fun w hw hg l' hl' hn=>hr.mono l' (q2 w hw hg l' hl' hn)⟩
    · exact hr.full rfl l h1 h3 (by simpa using e)
  · by_cases e:w=o
    · subst e;exact hr.near rfl l' hl' hn
    · exact hr.mono l' (h.back w (by omega) h2 h3 l' hl' hn)
theorem InnI.leave (h:InnI p s tr w0 k p.nw t)(hl:s.left k=0)(hk:p.N k w0=true→True):LopI p s tr w0 (k+1) t :=
  ⟨h.mono,fun l h1 h2 h3=>by
    by_cases e:l=k
    · subst e;exact h.here
    · exact h.near l (by omega) h2 h3,fun l h1 h2 h3=>by
    by_cases e:l=k
    · subst e;exact ⟨hl,fun w hw hg=>h.back w hw hw hg⟩
    · exact h.full l h1 e h2 h3⟩
theorem LopI.none (h:LopI p s tr w0 p.nl t)(hok:FlOk p s)(hm:0≤m):GetR p s tr w0 m s t 0 :=
  ⟨hok,by omega,h.mono,fun l _ _=>⟨rfl,fun _ _=>rfl⟩,fun _=>SameF.refl,fun _ l hl hn=>h.near l hl hl hn,fun _=>h.full,fun w _=>by split<;>omega,fun S T hc=>⟨fun _=>rfl,fun l _ _=>⟨rfl,fun _ _=>rfl⟩⟩⟩
theorem LopI.free (h:LopI p s tr w0 k t) (hok:FlOk p s) (hw:w0<p.nw) (hk:k<p.nl) (hN:p.N k w0=true) (htk:t k=false) (hn:0<n∧n≤m∧n≤s.left k) (ht:∀l,t' l=true↔(l=k∨t l=true))
    (hl':∀l,l<p.nl→s'.left l=if l=k then s.left l-n else s.left l) (hg':∀w l,s'.g w l=if w=w0∧l=k then s.g w l+n else s.g w l):GetR p s tr w0 m s' t' n:=by
  have trk:tr k=false:=by
    cases e:tr k with
    | false=>rfl
    | true=>rw [h.mono k e] at htk;cases htk
  have hcol:∀l,l<p.nl→l≠k→s'.left l=s.left l∧∀w,w<p.nw→s'.g w l=s.g w l:=fun l hl hne=>⟨by rw [hl' l hl,if_neg hne],fun w _=>by rw [hg',if_neg (fun e=>hne e.2)]⟩
  refine ⟨⟨fun l hl => ?_,fun w hw2 l hl => ?_,fun w l ho => ?_⟩,by omega,fun l hl=>(ht l).2 (Or.inr (h.mono l hl)),fun l hl htr=>hcol l hl (fun e=>by rw [e,trk] at htr;cases htr),fun e=>by omega,fun e=>by omega,fun e=>by omega,fun w hw2 => ?_,fun S T hc => ?_⟩
  · obtain ⟨q1,q2⟩:=hok.lot l hl
    by_cases e:l=k
    · subst e
      have:su (fun w=>s'.g w l) p.nw=su (fun w=>s.g w l) p.nw+n:=by
        rw [su_congr (g:=fun w=>if w=w0 then s.g w0 l+n else s.g w l) fun w _=>by
          rw [hg']
          by_cases e:w=w0
          · subst e;rw [if_pos ⟨rfl,rfl⟩,if_pos rfl]
          · rw [if_neg (fun q=>e q.1),if_neg e],su_upd,if_pos hw];omega
      rw [hl' l hl,if_pos rfl,this];omega
    · rw [(hcol l hl e).1,su_congr fun w hw3=>(hcol l hl e).2 w hw3];exact ⟨q1,q2⟩
  · obtain ⟨q1,q2⟩:=hok.giv w hw2 l hl
    rw [hg']
    split
    · rename_i e;obtain ⟨rfl,rfl⟩:=e;exact ⟨by omega,fun _=>hN⟩
    · exact ⟨q1,q2⟩
  · rw [hg',if_neg (by omega)];exact hok.out w l ho
  · unfold gotF
    by_cases e:w=w0
    · subst e
      rw [if_pos rfl,su_congr (g:=fun l=>if l=k then s.g w k+n else s.g w l) fun l _=>by
        rw [hg']
        by_cases e:l=k
        · subst e;rw [if_pos ⟨rfl,rfl⟩,if_pos rfl]
        · rw [if_neg (fun q=>e q.2),if_neg e],su_upd,if_pos hk];omega
    · rw [if_neg e,su_congr (g:=s.g w) fun l _=>by rw [hg',if_neg (fun q=>e q.1)]];omega
  · have hTk:¬T k:=fun hT=>by
      have:=(hc.full k hk hT).1
      omega
    exact ⟨fun hS=>absurd (hc.near w0 hw hS k hk hN) hTk,fun l hl hT=>hcol l hl fun e=>hTk (e ▸ hT)⟩
theorem InnI.push (h:InnI p s tr w0 k o t) (hok:FlOk p s) (hw:w0<p.nw) (ho:o<p.nw) (hk:k<p.nl) (hN:p.N k w0=true) (htr:tr k=false) {b:Int} (hb:b≤m∧b≤s.g o k) (hr:GetR p s t o b s' t' n) (hn:0<n) {s2:Fl}
    (hl2:∀l,l<p.nl→s2.left l=s'.left l) (hg2:∀w l,s2.g w l=s'.g w l+(if w=w0∧l=k then n else 0)-(if w=o∧l=k then n else 0)):GetR p s tr w0 m s2 t' n:=by
  obtain ⟨kl,kg⟩:=hr.keep k hk h.here
  have hrn:=hr.rng
  have hcol:∀l,l≠k→∀w,s2.g w l=s'.g w l:=fun l hne w=>by rw [hg2,if_neg (fun e=>hne e.2),if_neg (fun e=>hne e.2)];omega
  refine ⟨⟨fun l hl => ?_,fun w hw2 l hl => ?_,fun w l hout => ?_⟩,by omega,fun l hl=>hr.mono l (h.mono l hl),fun l hl ht => ?_,fun e=>by omega,fun e=>by omega,fun e=>by omega,fun w hw2 => ?_,fun S T hc => ?_⟩
  · obtain ⟨q1,q2⟩:=hr.ok.lot l hl
    rw [hl2 l hl]
    refine ⟨q1,?_⟩
    by_cases e:l=k
    · subst e
      have e1:su (fun w=>s2.g w l) p.nw=su (fun w=>s'.g w l) p.nw:=by
        have:∀w,s2.g w l=s'.g w l+((if w=w0 then n else 0)+(if w=o then -n else 0)):=fun w=>by
          rw [hg2]
          by_cases a1:w=w0<;>by_cases a2:w=o<;>simp [a1,a2]<;>omega
        rw [su_congr fun w _=>this w,su_add,su_add]
        have z:∀(x:Int) (j:Nat),j<p.nw→su (fun w=>if w=j then x else 0) p.nw=x:=fun x j hj=>by
          have:=su_upd (f:=fun _=>0) (k:=j) (x:=x) (n:=p.nw)
          rw [this,if_pos hj,su_zero fun _ _=>rfl];omega
        rw [z n w0 hw,z (-n) o ho];omega
      rw [e1];exact q2
    · rw [su_congr fun w _=>hcol l e w];exact q2
  · obtain ⟨q1,q2⟩:=hr.ok.giv w hw2 l hl
    by_cases e:l=k
    · subst e
      rw [hg2]
      have kw:=kg w hw2
      have ko:=kg o ho
      by_cases a1:w=w0<;>by_cases a2:w=o<;>simp only [a1,a2,and_self,and_true,true_and,if_true,if_false,eq_self]
      · subst a1;subst a2
        rw [if_pos rfl]
        exact ⟨by omega,fun _=>hN⟩
      · subst a1
        rw [if_neg a2]
        exact ⟨by omega,fun _=>hN⟩
      · subst a2
        rw [if_neg a1]
        exact ⟨by omega,fun hp=>q2 (by omega)⟩
      · exact ⟨by omega,fun hp=>q2 (by omega)⟩
    · rw [hcol l e w];exact ⟨q1,q2⟩
  · rw [hg2,hr.ok.out w l hout,if_neg (by omega),if_neg (by omega)];omega
  · have hne:l≠k:=fun e=>by rw [e,htr] at ht;cases ht
    obtain ⟨q1,q2⟩:=hr.keep l hl (h.mono l ht)
    exact ⟨by rw [hl2 l hl,q1],fun w hw3=>by rw [hcol l hne w];exact q2 w hw3⟩
  · have hgo:=hr.got w hw2
    unfold gotF at hgo ⊢
    have:∀l,s2.g w l=s'.g w l+(if l=k then ((if w=w0 then n else 0)-(if w=o then n else 0)) else 0):=fun l=>by
      rw [hg2]
      by_cases a0:l=k<;>by_cases a1:w=w0<;>by_cases a2:w=o<;>simp [a0,a1,a2]<;>omega
    rw [su_congr fun l _=>this l,su_add]
    have z:∀(x:Int) (j:Nat),j<p.nl→su (fun w=>if w=j then x else 0) p.nl=x:=fun x j hj=>by
      have:=su_upd (f:=fun _=>0) (k:=j) (x:=x) (n:=p.nl)
      rw [this,if_pos hj,su_zero fun _ _=>rfl];omega
    rw [z _ k hk,hgo]
    omega
  · obtain ⟨c1,c2⟩:=hr.cls S T hc
    have hTk:¬T k:=fun hT=>by
      have:=c1 ((hc.full k hk hT).2 o ho (by omega))
      omega
    exact ⟨fun hS=>absurd (hc.near w0 hw hS k hk hN) hTk,fun l hl hT=>by
      obtain ⟨q1,q2⟩:=c2 l hl hT
      exact ⟨by rw [hl2 l hl,q1],fun w hw3=>by rw [hcol l (fun e=>hTk (e ▸ hT)) w];exact q2 w hw3⟩⟩
theorem ClsF.keep {S T:Nat→Prop}(h:ClsF p s S T)(hk:∀l,l<p.nl→T l→s'.left l=s.left l∧∀w,w<p.nw→s'.g w l=s.g w l):ClsF p s' S T :=
  ⟨h.near,fun l hl hT=>by
    obtain ⟨q1,q2⟩:=hk l hl hT
    obtain ⟨f1,f2⟩:=h.full l hl hT
    exact ⟨by rw [q1,f1],fun w hw hg=>f2 w hw (by rw [←q2 w hw];exact hg)⟩⟩
theorem ClsF.more {S T:Nat→Prop}(h:ClsF p s S T)(hr:GetR p s (fun _=>false) w0 m s' t' 0):∃S' T':Nat→Prop,ClsF p s' S' T'∧(∀w,S w→S' w)∧S' w0:=by
  have hs:=hr.same rfl
  refine ⟨fun w=>S w∨w=w0∨∃l,l<p.nl∧t' l=true∧0<s.g w l,fun l=>T l∨t' l=true,⟨fun w hw hS l hl hN => ?_,fun l hl hT => ?_⟩,fun w hw=>Or.inl hw,Or.inr (Or.inl rfl)⟩
  · rcases hS with hS | hS | ⟨l2,a1,a2,a3⟩
    · exact Or.inl (h.near w hw hS l hl hN)
    · subst hS;exact Or.inr (hr.near rfl l hl hN)
    · exact Or.inr ((hr.full rfl l2 a1 a2 rfl).2 w hw a3 l hl hN)
  · rw [hs.left l hl]
    rcases hT with hT | hT
    · obtain ⟨f1,f2⟩:=h.full l hl hT
      exact ⟨f1,fun w hw hg=>Or.inl (f2 w hw (by rw [←hs.g w l];exact hg))⟩
    · exact ⟨(hr.full rfl l hl hT rfl).1,fun w hw hg=>Or.inr (Or.inr ⟨l,hl,hT,by rw [←hs.g w l];exact hg⟩)⟩
def anyN (f:Nat→Bool):Nat→Bool
  | 0=>false
  | n+1=>anyN f n||f n
theorem anyN_iff {f:Nat→Bool}:∀{n:Nat},anyN f n=true↔∃i,i<n∧f i=true
  | 0=>by simp [anyN]
  | n + 1=>by
    rw [anyN,Bool.or_eq_true,anyN_iff]
    constructor
    · rintro (⟨i,h1,h2⟩ | h)
      · exact ⟨i,by omega,h2⟩
      · exact ⟨n,by omega,h⟩
    · rintro ⟨i,h1,h2⟩
      by_cases e:i=n
      · subst e;exact Or.inr h2
      · exact Or.inl ⟨i,by omega,h2⟩
def nearA (p:Net)(f:Nat→Bool)(l:Nat):Bool:=anyN (fun w=>f w&&p.N l w) p.nw
def bndF (p:Net)(f:Nat→Bool):Int:=su (fun w=>if f w=true then 0 else p.d w) p.nw+su (fun l=>if nearA p f l=true then p.c l else 0) p.nl
def totF (p:Net)(s:Fl):Int:=su (gotF p s) p.nw
theorem tot_parts (f:Nat→Bool):totF p s=su (fun w=>if f w=true then 0 else gotF p s w) p.nw+su (fun l=>su (fun w=>if f w=true then s.g w l else 0) p.nw) p.nl:=by
  rw [←su_swap (h:=fun w l=>if f w=true then s.g w l else 0),←su_add]
  refine su_congr fun w hw => ?_
  unfold gotF
  by_cases e:f w=true
  · simp only [e,if_true]
    show su (s.g w) p.nl=0+su (s.g w) p.nl
    omega
  · simp only [e,if_false,Bool.false_eq_true];rw [su_zero (f:=fun _=>(0:Int)) fun _ _=>rfl];omega
theorem tot_le (hok:FlOk p s) (hd:∀w,w<p.nw→gotF p s w≤p.d w) (f:Nat→Bool):totF p s≤bndF p f:=by
  rw [tot_parts f]
  unfold bndF
  have h1:su (fun w=>if f w=true then 0 else gotF p s w) p.nw≤su (fun w=>if f w=true then 0 else p.d w) p.nw:=su_le fun w hw=>by
    split
    · exact Int.le_refl _
    · exact hd w hw
  have h2 : su (fun l=>su (fun w=>if f w=true then s.g w l else 0) p.nw) p.nl≤su (fun l=>if nearA p f l=true then p.c l else 0) p.nl:=su_le fun l hl=>by
    by_cases e:nearA p f l=true
    · simp only [e,if_true]
      obtain ⟨q1,q2⟩:=hok.lot l hl
      have:su (fun w=>if f w=true then s.g w l else 0) p.nw≤su (fun w=>s.g w l) p.nw:=su_le fun w hw=>by
        have:=(hok.giv w hw l hl).1
        split<;>omega
      omega
    · simp only [e,Bool.false_eq_true,if_false]
      rw [su_zero fun w hw => ?_]
      · exact Int.le_refl _
      · split
        · rename_i hf
          have g0:=hok.giv w hw l hl
          apply Classical.byContradiction
          intro hne
          exact e (anyN_iff.2 ⟨w,hw,by simp only [hf,Bool.true_and];exact g0.2 (by omega)⟩)
        · rfl
  omega
theorem tot_eq (hok:FlOk p s) {S T:Nat→Prop} (hc:ClsF p s S T) (hd:∀w,w<p.nw→gotF p s w=p.d w∨S w) {f:Nat→Bool} (hf:∀w,w<p.nw→(f w=true↔S w)):totF p s=bndF p f:=by
  rw [tot_parts f]
  unfold bndF
  congr 1
  · refine su_congr fun w hw => ?_
    split
    · rfl
    · rename_i e
      rcases hd w hw with h | h
      · exact h
      · exact absurd ((hf w hw).2 h) e
  · refine su_congr fun l hl => ?_
    by_cases e:nearA p f l=true
    · simp only [e,if_true]
      obtain ⟨w,hw,hfw⟩:=anyN_iff.1 e
      simp only [Bool.and_eq_true] at hfw
      have hT:=hc.near w hw ((hf w hw).1 hfw.1) l hl hfw.2
      obtain ⟨f1,f2⟩:=hc.full l hl hT
      obtain ⟨q1,q2⟩:=hok.lot l hl
      rw [←q2,f1,Int.zero_add]
      refine su_congr fun w hw => ?_
      by_cases ef:f w=true
      · simp only [ef,if_true]
      · simp only [ef,Bool.false_eq_true,if_false]
        have g0:=(hok.giv w hw l hl).1
        apply Classical.byContradiction
        intro hne
        exact ef ((hf w hw).2 (f2 w hw (by omega)))
    · simp only [e,Bool.false_eq_true,if_false]
      refine su_zero fun w hw => ?_
      split
      · rename_i hfw
        have g0:=hok.giv w hw l hl
        apply Classical.byContradiction
        intro hne
        exact e (anyN_iff.2 ⟨w,hw,by simp only [hfw,Bool.true_and];exact g0.2 (by omega)⟩)
      · rfl
theorem mask_of (S:Nat→Prop):∀n:Nat,∃m,m<2 ^ n∧∀w,w<n→(m.testBit w=true↔S w)
  | 0=>⟨0,by simp,fun w hw=>by omega⟩
  | n + 1=>by
    obtain ⟨m,h1,h2⟩:=mask_of S n
    have hp:2 ^ (n+1)=2 ^ n+2 ^ n:=by rw [Nat.pow_succ];omega
    by_cases hS:S n
    · refine ⟨2 ^ n+m,by omega,fun w hw => ?_⟩
      by_cases e:w=n
      · subst e
        rw [Nat.testBit_two_pow_add_eq,Nat.testBit_lt_two_pow h1]
        simp [hS]
      · rw [Nat.testBit_two_pow_add_gt (by omega)]
        exact h2 w (by omega)
    · refine ⟨m,by omega,fun w hw => ?_⟩
      by_cases e:w=n
      · subst e
        rw [Nat.testBit_lt_two_pow h1]
        simp [hS]
      · exact h2 w (by omega)
def minM (p:Net):Nat→Int
  | 0=>bndF p (fun w=>(0:Nat).testBit w)
  | n+1=>min (minM p n) (bndF p (fun w=>(n+1).testBit w))
theorem minM_le : ∀{n m:Nat},m≤n→minM p n≤bndF p (fun w=>m.testBit w)
  | 0, m, h => by have:m=0:=by omega
                  subst this;exact Int.le_refl _
  | n+1,m,h=>by
    simp only [minM]
    by_cases e:m=n+1
    · subst e;omega
    · have:=minM_le (n:=n) (m:=m) (by omega);omega
theorem minM_ex:∀{n:Nat},∃m,m≤n∧minM p n=bndF p (fun w=>m.testBit w)
  | 0=>⟨0,Nat.le_refl _,rfl⟩
  | n+1=>by
    obtain ⟨m,h1,h2⟩:=minM_ex (n:=n)
    simp only [minM]
    by_cases e:minM p n≤bndF p (fun w=>(n+1).testBit w)
    · exact ⟨m,by omega,by rw [←h2];omega⟩
    · exact ⟨n+1,Nat.le_refl _,by omega⟩
def mostF (p:Net):Int:=minM p (2 ^ p.nw-1)
theorem bnd_congr {f g:Nat→Bool}(h:∀w,w<p.nw→f w=g w):bndF p f=bndF p g:=by
  unfold bndF
  congr 1
  · exact su_congr fun w hw=>by rw [h w hw]
  · refine su_congr fun l _ => ?_
    have:nearA p f l=nearA p g l:=by
      rw [Bool.eq_iff_iff,nearA,nearA,anyN_iff,anyN_iff]
      constructor
      · rintro ⟨w,a,b⟩;exact ⟨w,a,by rw [←h w a];exact b⟩
      · rintro ⟨w,a,b⟩;exact ⟨w,a,by rw [h w a];exact b⟩
    rw [this]
theorem most_le (f:Nat→Bool):mostF p≤bndF p f:=by
  obtain ⟨m,h1,h2⟩:=mask_of (fun w=>f w=true) p.nw
  have:=minM_le (p:=p) (n:=2 ^ p.nw-1) (m:=m) (by omega)
  rw [bnd_congr (f:=fun w=>m.testBit w) (g:=f) fun w hw=>by rw [Bool.eq_iff_iff];exact h2 w hw] at this
  exact this
theorem most_ex:∃m,m<2 ^ p.nw∧mostF p=bndF p (fun w=>m.testBit w):=by
  obtain ⟨m,h1,h2⟩:=minM_ex (p:=p) (n:=2 ^ p.nw-1)
  have:0<2 ^ p.nw:=Nat.pos_of_ne_zero (by simp)
  exact ⟨m,by omega,h2⟩
theorem tot_most (hok:FlOk p s)(hd:∀w,w<p.nw→gotF p s w≤p.d w){S T:Nat→Prop}(hc:ClsF p s S T)(hs:∀w,w<p.nw→gotF p s w=p.d w∨S w):totF p s=mostF p:=by
  refine Int.le_antisymm ?_ ?_
  · obtain ⟨m,h1,h2⟩:=most_ex (p:=p)
    rw [h2];exact tot_le hok hd _
  · obtain ⟨m,h1,h2⟩:=mask_of S p.nw
    rw [tot_eq hok hc hs (f:=fun w=>m.testBit w) h2];exact most_le _
end
end Go.Proofs.Ytkmcdiajcnejiaa.Vm
namespace Go.Proofs.Ytkmcdiajcnejiaa.Vm
open Go
set_option maxRecDepth 100000
set_option maxHeartbeats 1000000
set_option linter.unusedSimpArgs false
set_option linter.unusedVariables false
attribute [-simp] List.getD_eq_getElem?_getD
def nearL (a:Lot)(b:Wnt):Bool:=nearB a.l a.t a.b b.l b.t b.b b.n
def netOf (A:List Lot)(B:List Wnt):Net:=⟨A.length,B.length,fun l=>(A.getD l default).w,fun w=>(B.getD w default).w,fun l w=>nearL (A.getD l default) (B.getD w default)⟩
def flOf (l:List Lot)(g:List Int):Fl:=⟨fun k=>(l.getD k default).w,fun w k=>if w<6∧k<6 then g.getD (w*6+k) 0 else 0⟩
def trF (tr:List Bool)(k:Nat):Bool:=tr.getD k false
def bools (tr:List Bool):List V:=tr.map V.bool
def getW (N:Nat):V:=.func (.func 79) [] [.ptr (N+2) 0,.ptr (N+4) 0,.ptr N 0,.ptr (N+3) 0,.ptr (N+5) 0]
theorem tgW {n:Nat}{a b:V}:vtarget (getW n) [a,b]=some (79,[a,b,.ptr (n+2) 0,.ptr (n+4) 0,.ptr n 0,.ptr (n+3) 0,.ptr (n+5) 0]):=Eq.trans rfl rfl
structure ShS (N:Nat)(H0:Hp)(bv lv:V)(A:List Lot)(l:List Lot)(g:List Int)(tr:List Bool)(H:Hp):Prop where
  len:H0.length=N∧H.length=N+6
  base:∀b,b<N→H[b]? = H0[b]?
  lvE:lv=.sl (N+1) 0 A.length 4
  rW:H[N]? = some (.row [bv] true)
  own:OwnT N lotC H lv l
  rB:H[N+2]? = some (.row [lv] true)
  rG:H[N+3]? = some (.row (ints g) true)
  rT:H[N+4]? = some (.row (bools tr) true)
  rF:H[N+5]? = some (.row [getW N] true)
  gl:g.length=36
  tl:tr.length=6
  ll:l.length=A.length
  shd:∀i,i<A.length→(l.getD i default).l=(A.getD i default).l∧(l.getD i default).t=(A.getD i default).t∧(l.getD i default).b=(A.getD i default).b
section
variable {lim N:Nat}{H H0:Hp}{K:V→Hp→Prop}{av bv lv gv:V}{A l l':List Lot}{B:List Wnt}{g g':List Int}{tr:List Bool}
theorem lo_get (h:LstV lotC H av A){i j:Nat}(hi:i<A.length)(hj:j<4){L:Lo}:vload none L H (eptf 4 av i j)=rd none [.int .i64 (A.getD i default).w,.int .i64 (A.getD i default).l,.int .i64 (A.getD i default).t,.int .i64 (A.getD i default).b] j:=h.rd1 hi hj
theorem lo_load (h:LstV lotC H av A){i:Nat}(hi:i<A.length){L:Lo}:vload (some 4) L H (ept 4 av i)=some (.agg [.int .i64 (A.getD i default).w,.int .i64 (A.getD i default).l,.int .i64 (A.getD i default).t,.int .i64 (A.getD i default).b]):=h.load hi
theorem wa_load (h:LstV wntC H bv B){i:Nat}(hi:i<B.length){L:Lo}:vload (some 5) L H (ept 5 bv i)=some (.agg [.int .i64 (B.getD i default).w,.int .i64 (B.getD i default).l,.int .i64 (B.getD i default).t,.int .i64 (B.getD i default).b,.int .i64 (B.getD i default).n]):=h.load hi
theorem LstV.keepB {α:Type}{k:Nat}{c:Cod α k}{H H':Hp}{v:V}{l:List α}(h:LstV c H v l)(hk:∀b o n z,v=.sl b o n z→H'[b]? = H[b]?):LstV c H' v l:=by
  cases h with
  | nil=>exact .nil
  | empty=>exact .empty
  | sl h1 h2 h3=>exact .sl (by rw [hk _ _ _ _ rfl];exact h1) h2 h3
theorem LstV.below {α:Type}{k:Nat}{c:Cod α k}{H:Hp}{v:V}{l:List α}(h:LstV c H v l):∀b o n z,v=.sl b o n z→b<H.length:=by
  rintro b o n z rfl
  cases h with
  | sl h1 _ _=>exact (List.getElem?_eq_some_iff.1 h1).1
theorem OwnT.keepB {α:Type}{k:Nat}{c:Cod α k}{n:Nat}{H H':Hp}{v:V}{l:List α}(h:OwnT n c H v l)(hk:∀b o m z,v=.sl b o m z→H'[b]? = H[b]?):OwnT n c H' v l:=by
  cases h with
  | nil=>exact .nil
  | row h1 h3=>exact .row h1 (by rw [hk _ _ _ _ rfl];exact h3)
theorem ShS.wants (h:ShS N H0 bv lv A l g tr H)(hb:LstV wntC H0 bv B):LstV wntC H bv B:=hb.keepB fun b o n z e=>h.base b (by have:=hb.below b o n z e;have:=h.len;omega)
theorem bools_ld (h:H[N]? = some (.row (bools tr) true)){k:Nat}(hk:k<tr.length){L:Lo}:vload none L H (.ptr N k)=some (.bool (trF tr k)):=by
  rw [vload_ptr h]
  have e:(bools tr)[k]? = some (.bool (trF tr k)):=by
    simp only [bools,trF,List.getD_eq_getElem?_getD]
    rw [List.getElem?_map,List.getElem?_eq_getElem hk];rfl
  simp only [rd]
  rw [if_pos (by simpa [bools] using hk),List.getD_eq_getElem?_getD,e];rfl
theorem bools_st (h:H[N]? = some (.row (bools tr) true))(hl:lim≤N){k:Nat}(hk:k<tr.length){L:Lo}{x:Bool}:vstore lim L H (.ptr N k) (.bool x) 1=some (L,H.set N (.row (bools (tr.set k x)) true)):=by
  have h1:k+1≤(bools tr).length:=by simp [bools];omega
  have e:splice (bools tr) k [.bool x]=bools (tr.set k x):=by
    simp only [splice,bools,List.length_singleton]
    rw [List.set_eq_take_append_cons_drop,if_pos hk]
    simp [List.map_take,List.map_drop]
  simp [vstore,vstoreH,h,hl,h1,e]
theorem row_store {b i:Nat}{x:Int}{l:List Int}{L:Lo}(hb:H[b]? = some (.row (ints l) true))(hl:lim≤b)(hi:i<l.length):vstore lim L H (.ptr b i) (.int .i64 x) 1=some (L,H.set b (.row (ints (l.set i x)) true)):=by
  have:i+1≤l.length:=hi
  simp [vstore,vstoreH,hb,hl,this,splice_ints_one hi]
theorem row_load {b i:Nat}{l:List Int}{own:Bool}{L:Lo}(hb:H[b]? = some (.row (ints l) own))(hi:i<l.length):vload none L H (.ptr b i)=some (.int .i64 (l.getD i 0)):=by
  rw [vload_ptr hb,rd_ints hi]
theorem ShS.setT (h:ShS N H0 bv lv A l g tr H)(k:Nat)(x:Bool):ShS N H0 bv lv A l g (tr.set k x) (H.set (N+4) (.row (bools (tr.set k x)) true)):=by
  obtain ⟨⟨n1,n2⟩,h2,h3,h4,h5,h6,h7,h8,h9,h10,h11,h12,h13⟩:=h
  exact ⟨⟨n1,by simpa using n2⟩,fun b hb=>by rw [List.getElem?_set_ne (by omega)];exact h2 b hb,h3,by rw [List.getElem?_set_ne (by omega)];exact h4,h5.keepB fun b o m z e=>by
    rw [h3] at e;cases e;rw [List.getElem?_set_ne (by omega)],by rw [List.getElem?_set_ne (by omega)];exact h6,by rw [List.getElem?_set_ne (by omega)];exact h7,by rw [List.getElem?_set_self (by omega)],by rw [List.getElem?_set_ne (by omega)];exact h9,h10,by simpa using h11,h12,h13⟩
theorem ShS.setG (h:ShS N H0 bv lv A l g tr H)(k:Nat)(x:Int):ShS N H0 bv lv A l (g.set k x) tr (H.set (N+3) (.row (ints (g.set k x)) true)):=by
  obtain ⟨⟨n1,n2⟩,h2,h3,h4,h5,h6,h7,h8,h9,h10,h11,h12,h13⟩:=h
  exact ⟨⟨n1,by simpa using n2⟩,fun b hb=>by rw [List.getElem?_set_ne (by omega)];exact h2 b hb,h3,by rw [List.getElem?_set_ne (by omega)];exact h4,h5.keepB fun b o m z e=>by
    rw [h3] at e;cases e;rw [List.getElem?_set_ne (by omega)],by rw [List.getElem?_set_ne (by omega)];exact h6,by rw [List.getElem?_set_self (by omega)],by rw [List.getElem?_set_ne (by omega)];exact h8,by rw [List.getElem?_set_ne (by omega)];exact h9,by simpa using h10,h11,h12,h13⟩
theorem lset_get {l:List Lot}{i k:Nat}{x:Lot}(h:i<l.length):(l.set i x).getD k default=if k=i then x else l.getD k default:=by
  simp only [List.getD_eq_getElem?_getD,List.getElem?_set]
  by_cases e:k=i
  · subst e;simp [h]
  · rw [if_neg (fun e'=>e e'.symm),if_neg e]
theorem ShS.setL (h:ShS N H0 bv lv A l g tr H)(hlim:lim≤N){k:Nat}(hk:k<A.length)(x:Int):∃H',(∀L,vstore lim L H (eptf 4 lv k 0) (.int .i64 x) 1=some (L,H'))∧ShS N H0 bv lv A (l.set k ⟨x,(l.getD k default).l,(l.getD k default).t,(l.getD k default).b⟩) g tr H':=by
  obtain ⟨⟨n1,n2⟩,h2,h3,h4,h5,h6,h7,h8,h9,h10,h11,h12,h13⟩:=h
  refine ⟨_,fun L=>h5.store (i:=k) (j:=0) (y:=⟨x,(l.getD k default).l,(l.getD k default).t,(l.getD k default).b⟩) hlim (by omega) rfl rfl (by omega) (by simp [lotC,Lot.cells,splice,cellsV]),?_⟩
  have e:setH H lv (lotC.all (l.set k ⟨x,(l.getD k default).l,(l.getD k default).t,(l.getD k default).b⟩))=H.set (N+1) (.row (lotC.all (l.set k ⟨x,(l.getD k default).l,(l.getD k default).t,(l.getD k default).b⟩)) true):=by rw [h3];rfl
  have p:=h5.put (l':=l.set k ⟨x,(l.getD k default).l,(l.getD k default).t,(l.getD k default).b⟩) (by simp)
  rw [e] at p ⊢
  refine ⟨⟨n1,by simpa using n2⟩,fun b hb=>by rw [List.getElem?_set_ne (by omega)];exact h2 b hb,h3,by rw [List.getElem?_set_ne (by omega)];exact h4,p,by rw [List.getElem?_set_ne (by omega)];exact h6,by rw [List.getElem?_set_ne (by omega)];exact h7,by rw [List.getElem?_set_ne (by omega)];exact h8,by rw [List.getElem?_set_ne (by omega)];exact h9,h10,h11,by simpa using h12,fun i hi => ?_⟩
  rw [lset_get (by omega)]
  split
  · rename_i e;subst e;exact h13 i hi
  · exact h13 i hi
theorem fl_setL {k:Nat}{x a b c:Int}(hk:k<l.length):∀i,(flOf (l.set k ⟨x,a,b,c⟩) g).left i=if i=k then x else (flOf l g).left i:=fun i=>by
  show ((l.set k ⟨x,a,b,c⟩).getD i default).w=_
  rw [lset_get hk]
  split<;>rfl
theorem fl_setG {w k:Nat}{x:Int}(hg:g.length=36)(hw:w<6)(hk:k<6):∀v i,(flOf l (g.set (w*6+k) x)).g v i=if v=w∧i=k then x else (flOf l g).g v i:=fun v i=>by
  show (if v<6∧i<6 then (g.set (w*6+k) x).getD (v*6+i) 0 else 0)=_
  by_cases e:v<6∧i<6
  · rw [if_pos e,getD_set (by omega)]
    by_cases e2:v=w∧i=k
    · rw [if_pos e2,if_pos (by rw [e2.1,e2.2])]
    · rw [if_neg e2,if_neg (by omega)]
      show _=(if v<6∧i<6 then g.getD (v*6+i) 0 else 0)
      rw [if_pos e]
  · rw [if_neg e,if_neg (by omega)]
    show _=(if v<6∧i<6 then g.getD (v*6+i) 0 else 0)
    rw [if_neg e]
theorem fl_ext {p:Net}(h1:l.length=p.nl)(h2:l'.length=p.nl)(h:SameF p (flOf l g) (flOf l' g')):flOf l' g'=flOf l g:=by
  have e1:(flOf l' g').left=(flOf l g).left:=by
    funext i
    by_cases hi:i<p.nl
    · exact h.left i hi
    · show (l'.getD i default).w=(l.getD i default).w
      rw [List.getD_eq_getElem?_getD,List.getD_eq_getElem?_getD,List.getElem?_eq_none (by omega),List.getElem?_eq_none (by omega)]
  have e2:(flOf l' g').g=(flOf l g).g:=by
    funext w k;exact h.g w k
  cases hx:flOf l' g'
  cases hy:flOf l g
  rw [hx] at e1 e2
  rw [hy] at e1 e2
  simp only at e1 e2
  rw [e1,e2]
def untN (tr:List Bool):Nat→Nat
  | 0=>0
  | n+1=>untN tr n+if trF tr n=true then 0 else 1
theorem unt_set {k:Nat}(hk:k<tr.length)(ht:trF tr k=false):∀{n:Nat},untN (tr.set k true) n+(if k<n then 1 else 0)=untN tr n
  | 0=>by simp [untN]
  | n + 1=>by
    have ih:=unt_set hk ht (n:=n)
    have e:trF (tr.set k true) n=if n=k then true else trF tr n:=by
      simp only [trF,List.getD_eq_getElem?_getD,List.getElem?_set]
      by_cases e:k=n
      · subst e;simp [hk]
      · rw [if_neg e,if_neg (fun e'=>e e'.symm)]
    simp only [untN,e]
    by_cases e2:n=k
    · subst e2
      rw [if_neg (by omega)] at ih
      simp only [if_true,ht,Bool.false_eq_true,if_false]
      rw [if_pos (by omega)];omega
    · rw [if_neg e2]
      have h3:(k<n+1)↔(k<n):=by omega
      simp only [h3];omega
theorem unt_mono {tr':List Bool}(h:∀k,trF tr k=true→trF tr' k=true):∀{n:Nat},untN tr' n≤untN tr n
  | 0=>Nat.le_refl _
  | n+1=>by
    have ih:=unt_mono h (n:=n)
    simp only [untN]
    by_cases e:trF tr n=true
    · rw [if_pos e,if_pos (h n e)];omega
    · rw [if_neg e];split<;>omega
theorem trF_set {k:Nat}(hk:k<tr.length):∀i,trF (tr.set k true) i=true↔(i=k∨trF tr i=true):=fun i=>by
  simp only [trF,List.getD_eq_getElem?_getD,List.getElem?_set]
  by_cases e:k=i
  · subst e;simp [hk]
  · rw [if_neg e]
    constructor
    · exact Or.inr
    · rintro (h | h)
      · exact absurd h.symm e
      · exact h
end
end Go.Proofs.Ytkmcdiajcnejiaa.Vm
namespace Go.Proofs.Ytkmcdiajcnejiaa.Vm
open Go
set_option maxRecDepth 100000
set_option maxHeartbeats 2000000
set_option linter.unusedSimpArgs false
set_option linter.unusedVariables false
attribute [-simp] List.getD_eq_getElem?_getD
attribute [local simp] tgW
theorem wLoop_post {T:Tbl}{lim:Nat}{body:VCode}{Q:VExit→St→Prop}{s:St}(id:Nat)(P:Fr→Lo→Hp→Prop)(h:wCode T lim (.loop body) (fun e s=>e=.exit id∧P s.fr s.L s.H) s)(hQ:∀fr L H,P fr L H→Q (.exit id) ⟨fr,L,H⟩):wCode T lim (.loop body) Q s:=by
  obtain ⟨n,e,s',h1,he,h2⟩:=h
  subst he
  exact ⟨n,_,s',h1,hQ _ _ _ h2⟩
def PendI (p:Net)(s:Fl)(tr:Nat→Bool)(w0 k:Nat)(m:Int)(cur:Fl)(t:Nat→Bool)(n:Int):Prop :=
  0<n∧n≤m∧∀s2:Fl,(∀l,l<p.nl→s2.left l=cur.left l)→(∀w l,s2.g w l=cur.g w l+if w=w0∧l=k then n else 0)→GetR p s tr w0 m s2 t n
section
variable {lim N:Nat}{H0:Hp}{bv lv:V}{A:List Lot}{B:List Wnt}
theorem net_bd (hv:valP A B=0):A.length≤6∧B.length≤6∧(∀i,i<A.length→0≤(A.getD i default).w∧(A.getD i default).w≤1000)∧∀i,i<B.length→0≤(B.getD i default).w∧(B.getD i default).w≤1000:=by
  unfold valP at hv
  split at hv
  · cases hv
  split at hv
  · cases hv
  split at hv
  · cases hv
  rename_i h1 h2 h3
  simp only [Bool.not_eq_false] at h2 h3
  refine ⟨by omega,by omega,fun i hi => ?_,fun i hi => ?_⟩
  · have:=allN_at h2 hi
    simp only [lotB,Bool.and_eq_true,decide_eq_true_eq] at this
    exact this.2
  · have:=allN_at h3 hi
    simp only [wntB,Bool.and_eq_true,decide_eq_true_eq] at this
    exact this.2.1
theorem flow_bd (hv:valP A B=0){s:Fl}(h:FlOk (netOf A B) s):(∀l,l<A.length→0≤s.left l∧s.left l≤1000)∧∀w l,0≤s.g w l∧s.g w l≤1000:=by
  obtain ⟨b1,b2,b3,b4⟩:=net_bd hv
  have nn:∀l,l<A.length→0≤su (fun w=>s.g w l) B.length:=fun l hl=>su_nn fun w hw=>(h.giv w hw l hl).1
  refine ⟨fun l hl => ?_,fun w l => ?_⟩
  · have h1:=h.lot l hl
    have h2:=b3 l hl
    have h3:=nn l hl
    simp only [netOf] at h1
    omega
  · by_cases e:B.length≤w∨A.length≤l
    · rw [h.out w l e];omega
    · have hl:l<A.length:=by omega
      have hw:w<B.length:=by omega
      have h1:=h.lot l hl
      have h2:=b3 l hl
      have h3:=su_one (f:=fun w=>s.g w l) (n:=B.length) (k:=w) (fun i hi=>(h.giv i hi l hl).1) hw
      have h4:=(h.giv w hw l hl).1
      simp only [netOf] at h1
      omega
theorem dye_get (hb0:LstV wntC H0 bv B) (hv:valP A B=0) (hlim:lim≤N):∀(u:Nat) {H:Hp} {K:V→Hp→Prop} {l:List Lot} {g:List Int} {tr:List Bool} {w0:Nat} {m:Int} {lim':Nat},lim'=lim→untN tr A.length≤u→ShS N H0 bv lv A l g tr H→w0<B.length→0<m∧m≤1000→FlOk (netOf A B) (flOf l g) →
    (∀H' l' g' tr' n,ShS N H0 bv lv A l' g' tr' H'→GetR (netOf A B) (flOf l g) (trF tr) w0 m (flOf l' g') (trF tr') n→K (.int .i64 n) H') →
    VCall tbl lim' 79 [.int .i64 w0,.int .i64 m,.ptr (N+2) 0,.ptr (N+4) 0,.ptr N 0,.ptr (N+3) 0,.ptr (N+5) 0] H K:=by
  intro u
  induction u using Nat.strongRecOn with
  | ind u ih =>
    intro H K l0 g0 tr0 w0 m lim' hlim' hu hS hw hm hok hK
    subst hlim'
    obtain ⟨b1,b2,b3,b4⟩:=net_bd hv
    refine VCall_fn tbl_at79 rfl ?_
    have rd1:∀x:V,rd none [x] 0=some x:=fun x=>Eq.trans rfl rfl
    have ldB:∀L,vload none L H (.ptr (N+2) 0)=some lv:=fun L=>by rw [vload_ptr hS.rB];rfl
    have hll:=hS.ll
    have hlen0:vlenS lv=some (.int .i64 A.length):=by have:=hS.own.lst.len;rwa [hll] at this
    simp [vf79,ldB,hlen0,-vload_ptrO]
    refine wLoop_up A.length (fun k fr L H'=>∃l g tr,(fr 0=.int .i64 w0∧fr 1=.int .i64 m∧fr 2=.ptr (N+2) 0∧fr 3=.ptr (N+4) 0∧fr 4=.ptr N 0∧fr 5=.ptr (N+3) 0∧fr 6=.ptr (N+5) 0∧fr 15=.int .i64 A.length∧fr 16=.int .i64 k)∧L=[]∧ShS N H0 bv lv A l g tr H'∧flOf l g=flOf l0 g0∧LopI (netOf A B) (flOf l0 g0) (trF tr0) w0 k (trF tr)) ⟨l0,g0,tr0,by simp,rfl,hS,rfl,LopI.start⟩ ?_
    rintro k hk fr L H1 ⟨l,g,tr,⟨f0,f1,f2,f3,f4,f5,f6,f15,f16⟩,rfl,hS1,hfl,hI⟩
    have hbd:=flow_bd hv hok
    simp [f0,f1,f2,f3,f4,f5,f6,f15,f16]
    refine cond_dec (fun ht => ?_) fun hfl2 => ?_
    case refine_2 =>
      have:k=A.length:=by omega
      subst this
      simp
      exact hK _ _ _ _ 0 hS1 (by rw [hfl];exact hI.none hok (by omega))
    have ht:k<A.length:=by omega
    have ldT:∀L,vload none L H1 (.ptr (N+4) k)=some (.bool (trF tr k)):=fun L=>bools_ld hS1.rT (by rw [hS1.tl];omega)
    have hll1:=hS1.ll
    have htl1:=hS1.tl
    have hkl:k<l.length:=by omega
    have hkt:k<tr.length:=by omega
    have k6:k<6:=by omega
    cases htk:trF tr k with
    | true =>
      simp (disch:=omega) [f0,f1,f2,f3,f4,f5,f6,f15,f16,ldT,htk,wrap_i64,-vload_ptrO]
      exact ⟨by omega,l,g,tr,hS1,hfl,hI.skip (Or.inl htk)⟩
    | false =>
    have ldB1:∀L,vload none L H1 (.ptr (N+2) 0)=some lv:=fun L=>by rw [vload_ptr hS1.rB];rfl
    have ldW1:∀L,vload none L H1 (.ptr N 0)=some bv:=fun L=>by rw [vload_ptr hS1.rW];rfl
    have hB1:=hS1.wants hb0
    have hL1:=hS1.own.lst
    have al:=hL1.at hkl
    have aw:=hB1.at hw
    have shd:=hS1.shd k ht
    have hN1:nearB (l.getD k default).l (l.getD k default).t (l.getD k default).b (B.getD w0 default).l (B.getD w0 default).t (B.getD w0 default).b (B.getD w0 default).n=(netOf A B).N k w0:=by
      rw [shd.1,shd.2.1,shd.2.2];rfl
    simp (disch:=omega) [f0,f1,f2,f3,f4,f5,f6,f15,f16,ldT,htk,ldB1,ldW1,al,aw,lo_load hL1,wa_load hB1,lpId_ept,-vload_ptrO]
    refine dye_Near ?_
    rw [hN1]
    cases hnr:(netOf A B).N k w0 with
    | false =>
      simp (disch:=omega) [f0,f1,f2,f3,f4,f5,f6,f15,f16,wrap_i64]
      exact ⟨by omega,l,g,tr,hS1,hfl,hI.skip (Or.inr hnr)⟩
    | true =>
    have hx0:∀i,(flOf l g).left i=(flOf l0 g0).left i:=fun i=>by rw [hfl]
    have hg0:∀v i,(flOf l g).g v i=(flOf l0 g0).g v i:=fun v i=>by rw [hfl]
    have hlw:0≤(l.getD k default).w∧(l.getD k default).w≤1000:=by
      have:=hbd.1 k ht
      rw [←hx0 k] at this
      exact this
    have stT:=fun L=>bools_st (L:=L) (x:=true) hS1.rT (by omega:lim'≤N+4) hkt
    have hS2:=hS1.setT k true
    generalize H1.set (N+4) (.row (bools (tr.set k true)) true)=H2 at *
    have ldB2:∀L,vload none L H2 (.ptr (N+2) 0)=some lv:=fun L=>by rw [vload_ptr hS2.rB];rfl
    have hL2:=hS2.own.lst
    have fl:=hL2.faddr (i:=k) (j:=0) hkl
    have gl2:=fun L=>lo_get hL2 (i:=k) (j:=0) hkl (by omega) (L:=L)
    obtain ⟨H3,st3,hS3⟩:=hS2.setL hlim ht ((l.getD k default).w-min m (l.getD k default).w)
    simp (disch:=omega) [f0,f1,f2,f3,f4,f5,f6,f15,f16,stT,ldB2,al,fl,gl2,st3,wrap_i64,lpId_ept,lpId_eptf,-vload_ptrO,-vstore]
    refine wLoop_post 2 (fun fr L H'=>∃l g tr n,(fr 0=.int .i64 w0∧fr 1=.int .i64 m∧fr 2=.ptr (N+2) 0∧fr 3=.ptr (N+4) 0∧fr 4=.ptr N 0∧fr 5=.ptr (N+3) 0∧fr 6=.ptr (N+5) 0∧fr 15=.int .i64 A.length∧fr 16=.int .i64 k∧fr 10=.int .i64 k∧fr 11=.int .i64 n)∧L=[]∧ShS N H0 bv lv A l g tr H' ∧
      ((n=0∧flOf l g=flOf l0 g0∧InnI (netOf A B) (flOf l0 g0) (trF tr0) w0 k B.length (trF tr)∧(flOf l0 g0).left k=0)∨PendI (netOf A B) (flOf l0 g0) (trF tr0) w0 k m (flOf l g) (trF tr) n)) ?_ ?_
    · refine wLoop_m (n:=B.length+1) (fun M fr L H'=>∃l g tr n o,(fr 0=.int .i64 w0∧fr 1=.int .i64 m∧fr 2=.ptr (N+2) 0∧fr 3=.ptr (N+4) 0∧fr 4=.ptr N 0∧fr 5=.ptr (N+3) 0∧fr 6=.ptr (N+5) 0∧fr 15=.int .i64 A.length∧fr 16=.int .i64 k∧fr 10=.int .i64 k∧fr 11=.int .i64 n∧fr 12=.int .i64 (o:Nat))∧L=[]∧ShS N H0 bv lv A l g tr H' ∧
        ((n=0∧flOf l g=flOf l0 g0∧InnI (netOf A B) (flOf l0 g0) (trF tr0) w0 k o (trF tr)∧(flOf l0 g0).left k=0∧o≤B.length)∨PendI (netOf A B) (flOf l0 g0) (trF tr0) w0 k m (flOf l g) (trF tr) n)∧B.length+1-o≤M) ⟨_,g,tr.set k true,min m (l.getD k default).w,0,by simp [f0,f1,f2,f3,f4,f5,f6,f15,f16],rfl,hS3,?_,by omega⟩ ?_
      · by_cases hn0:min m (l.getD k default).w=0
        · have hw0:(l.getD k default).w=0:=by omega
          refine Or.inl ⟨hn0,?_,hI.enter (trF_set hkt),?_,Nat.zero_le _⟩
          · rw [←hfl]
            refine fl_ext (p:=netOf A B) hll1 (by simpa [netOf] using hll1) ⟨fun i hi => ?_,fun v i=>rfl⟩
            rw [fl_setL hkl]
            split
            · rename_i e;subst e;show _=(l.getD i default).w;omega
            · rfl
          · rw [←hx0 k];exact hw0
        · refine Or.inr ⟨by omega,by omega,fun s2 q1 q2 => ?_⟩
          refine hI.free hok hw ht hnr htk (n:=min m (l.getD k default).w) ⟨by omega,by omega,?_⟩ (trF_set hkt) (fun i hi => ?_) (fun v i => ?_)
          · rw [←hx0 k];show _≤(l.getD k default).w;omega
          · rw [q1 i hi,fl_setL hkl,←hx0 i]
            split
            · rename_i e;subst e;rfl
            · rfl
          · rw [q2,←hg0 v i]
            show (flOf l g).g v i+_=_
            split<;>omega
      clear f0 f1 f2 f3 f4 f5 f6 f15 f16
      rintro M fr L H4 ⟨l4,g4,tr4,n4,o,⟨f0,f1,f2,f3,f4,f5,f6,f15,f16,f10,f11,f12⟩,rfl,hS4,hJ,hM⟩
      rcases hJ with ⟨rfl,hfl4,hI4,hlk,hoB⟩ | hP
      case inr =>
        have hn4:(n4=0)=False:=eq_false (by have:=hP.1;omega)
        simp [f0,f1,f2,f3,f4,f5,f6,f15,f16,f10,f11,f12,hn4]
        exact ⟨l4,g4,tr4,hS4,hP⟩
      have hB4:=hS4.wants hb0
      have ldW4:∀L,vload none L H4 (.ptr N 0)=some bv:=fun L=>by rw [vload_ptr hS4.rW];rfl
      by_cases hob:o<B.length
      case neg =>
        have:o=B.length:=by omega
        subst this
        simp [f0,f1,f2,f3,f4,f5,f6,f15,f16,f10,f11,f12,ldW4,hB4.len,-vload_ptrO]
        exact ⟨l4,g4,tr4,hS4,Or.inl ⟨hfl4,hI4,hlk⟩⟩
      have hgl4:=hS4.gl
      have o6:o<6:=by omega
      have ldG4:∀L,vload none L H4 (.ptr (N+3) (o*6+k))=some (.int .i64 (g4.getD (o*6+k) 0)):=fun L=>row_load hS4.rG (by omega)
      have hgo:(flOf l4 g4).g o k=g4.getD (o*6+k) 0:=by
        show (if o<6∧k<6 then g4.getD (o*6+k) 0 else 0)=_
        rw [if_pos ⟨o6,k6⟩]
      have hgb:0≤g4.getD (o*6+k) 0∧g4.getD (o*6+k) 0≤1000:=by
        have:=hbd.2 o k
        rw [←hfl4,hgo] at this
        exact this
      simp (disch:=omega) [f0,f1,f2,f3,f4,f5,f6,f15,f16,f10,f11,f12,ldW4,hB4.len,hob,ldG4,wrap_i64,-vload_ptrO]
      refine cond_dec (fun hbk => ?_) fun hbk => ?_
      · have ldF4:∀L,vload none L H4 (.ptr (N+5) 0)=some (getW N):=fun L=>by rw [vload_ptr hS4.rF];rfl
        have stW:stor (getW N)=true:=Eq.trans rfl rfl
        have trk0:trF tr0 k=false:=by
          cases e:trF tr0 k with
          | false=>rfl
          | true=>rw [hI.mono k e] at htk;cases htk
        have htl0:=hS.tl
        have hu4:untN tr4 A.length<u:=by
          have h1:=unt_set (tr:=tr0) (k:=k) (by omega) trk0 (n:=A.length)
          rw [if_pos ht] at h1
          have h2:untN tr4 A.length≤untN (tr0.set k true) A.length:=unt_mono fun i hi=>by
            rcases (trF_set (tr:=tr0) (k:=k) (by omega) i).1 hi with e | e
            · rw [e];exact hI4.here
            · exact hI4.mono i e
          omega
        simp (disch:=omega) [f0,f1,f2,f3,f4,f5,f6,f15,f16,f10,f11,f12,ldF4,stW,-vload_ptrO]
        refine ih (untN tr4 A.length) hu4 rfl (Nat.le_refl _) hS4 hob ⟨by omega,by omega⟩ (by rw [hfl4];exact hok) fun H5 l5 g5 tr5 n5 hS5 hR => ?_
        rw [hfl4] at hR
        have hgl5:=hS5.gl
        have ldG5:∀L,vload none L H5 (.ptr (N+3) (o*6+k))=some (.int .i64 (g5.getD (o*6+k) 0)):=fun L=>row_load hS5.rG (by omega)
        have hgo5:(flOf l5 g5).g o k=g5.getD (o*6+k) 0:=by
          show (if o<6∧k<6 then g5.getD (o*6+k) 0 else 0)=_
          rw [if_pos ⟨o6,k6⟩]
        have hgb5:=(flow_bd hv hR.ok).2 o k
        rw [hgo5] at hgb5
        have hrn:=hR.rng
        have stG5:=fun L=>row_store (L:=L) (x:=g5.getD (o*6+k) 0-n5) hS5.rG (by omega:lim'≤N+3) (by omega:o*6+k<g5.length)
        have hS6:=hS5.setG (o*6+k) (g5.getD (o*6+k) 0-n5)
        have hg6:=fl_setG (l:=l5) (x:=g5.getD (o*6+k) 0-n5) hgl5 o6 k6
        simp (disch:=omega) [f0,f1,f2,f3,f4,f5,f6,f15,f16,f10,f11,f12,ldG5,stG5,wrap_i64,-vload_ptrO,-vstore]
        refine ⟨M-1,by omega,l5,g5.set (o*6+k) (g5.getD (o*6+k) 0-n5),tr5,n5,o+1,⟨rfl,by omega⟩,hS6,?_,by omega⟩
        by_cases h50:n5=0
        · subst h50
          refine Or.inl ⟨rfl,?_,hI4.step hR,hlk,by omega⟩
          have e1:flOf l5 g5=flOf l0 g0:=by
            have:=fl_ext (p:=netOf A B) (l:=l4) (g:=g4) (l':=l5) (g':=g5) hS4.ll hS5.ll (by rw [hfl4];exact hR.same rfl)
            rw [this,hfl4]
          rw [←e1]
          refine fl_ext (p:=netOf A B) hS5.ll hS5.ll ⟨fun i hi=>rfl,fun v i => ?_⟩
          rw [hg6 v i]
          split
          · rename_i e;rw [e.1,e.2,hgo5];omega
          · rfl
        · refine Or.inr ⟨by omega,by omega,fun s2 q1 q2 => ?_⟩
          refine hI4.push hok hw hob ht hnr trk0 (b:=min m (g4.getD (o*6+k) 0)) ⟨by omega,?_⟩ hR (by omega) (fun i hi=>by rw [q1 i hi];rfl) fun v i => ?_
          · rw [←hfl4,hgo];omega
          · rw [q2,hg6 v i]
            by_cases e1:v=o∧i=k
            · rw [if_pos e1,if_pos e1,e1.1,e1.2,hgo5];omega
            · rw [if_neg e1,if_neg e1];omega
      · simp (disch:=omega) [f0,f1,f2,f3,f4,f5,f6,f15,f16,f10,f11,f12,wrap_i64]
        exact ⟨M-1,by omega,l4,g4,tr4,0,o+1,⟨rfl,by omega⟩,hS4,Or.inl ⟨rfl,hfl4,hI4.skip (by rw [←hfl4,hgo];omega),hlk,by omega⟩,by omega⟩
    clear f0 f1 f2 f3 f4 f5 f6 f15 f16
    rintro fr L H4 ⟨l4,g4,tr4,n4,⟨f0,f1,f2,f3,f4,f5,f6,f15,f16,f10,f11⟩,rfl,hS4,hJ⟩
    rcases hJ with ⟨rfl,hfl4,hI4,hlk⟩ | hP
    · simp (disch:=omega) [f0,f1,f2,f3,f4,f5,f6,f15,f16,f10,f11,wrap_i64]
      exact ⟨by omega,l4,g4,tr4,hS4,hfl4,hI4.leave hlk fun _=>trivial⟩
    · obtain ⟨hn1,hn2,hP⟩:=hP
      have hw6:w0<6:=by omega
      have hgl4:=hS4.gl
      have hR:=hP (flOf l4 (g4.set (w0*6+k) (g4.getD (w0*6+k) 0+n4))) (fun i hi=>rfl) (fun v i=>by
        rw [fl_setG hgl4 hw6 k6 v i]
        by_cases e:v=w0∧i=k
        · rw [if_pos e,if_pos e,e.1,e.2]
          show _=(if w0<6∧k<6 then g4.getD (w0*6+k) 0 else 0)+n4
          rw [if_pos ⟨hw6,k6⟩]
        · rw [if_neg e,if_neg e];omega)
      have hgb:=(flow_bd hv hR.ok).2 w0 k
      rw [fl_setG hgl4 hw6 k6,if_pos ⟨rfl,rfl⟩] at hgb
      have ldG4:∀L,vload none L H4 (.ptr (N+3) (w0*6+k))=some (.int .i64 (g4.getD (w0*6+k) 0)):=fun L=>row_load hS4.rG (by omega)
      have stG4:=fun L=>row_store (L:=L) (x:=g4.getD (w0*6+k) 0+n4) hS4.rG (by omega:lim'≤N+3) (by omega:w0*6+k<g4.length)
      have hgt:(0<n4)=True:=eq_true hn1
      simp (disch:=omega) [f0,f1,f2,f3,f4,f5,f6,f15,f16,f10,f11,ldG4,stG4,hgt,wrap_i64,-vload_ptrO,-vstore]
      exact hK _ _ _ _ _ (hS4.setG _ _) hR
end
end Go.Proofs.Ytkmcdiajcnejiaa.Vm
namespace Go.Proofs.Ytkmcdiajcnejiaa.Vm
open Go
set_option maxRecDepth 100000
set_option maxHeartbeats 2000000
set_option linter.unusedSimpArgs false
set_option linter.unusedVariables false
attribute [-simp] List.getD_eq_getElem?_getD
attribute [local simp] tgW
theorem keepL {L:Lo}{q:Nat}{c:List V}(h:L[q]? = some c):∀d,(L++[d])[q]? = some c:=fun d=>by
  rw [List.getElem?_append_left (List.getElem?_eq_some_iff.1 h).1];exact h
theorem setLq2 {X:Lo}{q:Nat}{d:List V}(h:X[q]? = some d):∀c,(X.set q c)[q]? = some c:=fun c=>by rw [List.getElem?_set_self (List.getElem?_eq_some_iff.1 h).1]
def fal6:List Bool:=[false,false,false,false,false,false]
theorem trF_fal:trF fal6=fun _=>false:=by
  funext i
  match i with
  | 0 | 1 | 2 | 3 | 4 | 5=>rfl
  | n+6=>simp [trF,fal6,List.getD_eq_getElem?_getD]
def BestG (A:List Lot)(B:List Wnt)(g:List Int):Prop:=∃l,FlOk (netOf A B) (flOf l g)∧(∀w,w<B.length→gotF (netOf A B) (flOf l g) w≤(B.getD w default).w)∧totF (netOf A B) (flOf l g)=mostF (netOf A B)
section
variable {lim:Nat}{H:Hp}{K:V→Hp→Prop}{av bv:V}{A:List Lot}{B:List Wnt}
theorem rowOf_len4:∀n:Nat,(rowOf n (ints (zs 4))).length=n*4
  | 0=>by simp [rowOf]
  | n+1=>by
    have ih:=rowOf_len4 n
    simp only [rowOf,List.replicate_succ,List.flatten_cons,List.length_append] at ih ⊢
    rw [ih];simp;omega
theorem fl_start (hv:valP A B=0):FlOk (netOf A B) (flOf A (zs 36)):=by
  have hz:∀w k,(flOf A (zs 36)).g w k=0:=fun w k=>by
    show (if w<6∧k<6 then (zs 36).getD (w*6+k) 0 else 0)=0
    rw [zs_getD];split<;>rfl
  refine ⟨fun l hl => ?_,fun w hw l hl=>by rw [hz];exact ⟨Int.le_refl _,fun h=>by omega⟩,fun w l _=>hz w l⟩
  rw [su_zero fun w _=>hz w l]
  have:=(net_bd hv).2.2.1 l hl
  exact ⟨this.1,Int.add_zero _⟩
theorem dye_share (ha:LstV lotC H av A) (hb:LstV wntC H bv B) (hv:valP A B=0) (hlim:lim≤H.length)
    (hK:∀H' g,HX H H'→g.length=36→(∀i,0≤g.getD i 0∧g.getD i 0≤1000000)→BestG A B g→K (.agg (ints g)) H'):VCall tbl lim 59 [av,bv] H K:=by
  refine VCall_fn tbl_at59 rfl ?_
  obtain ⟨b1,b2,b3,b4⟩:=net_bd hv
  have hmk:∀(L:Lo) (H':Hp),vmks 4 32 (ints (zs 4)) L H' (.int .i64 A.length) (.int .i64 A.length)=some (.val (.sl H'.length 0 A.length 4) L (H'++[.row (rowOf A.length (ints (zs 4))) true])):=fun L H'=>by
    have h2:(A.length:Int)≤16777216:=by omega
    have h3:A.length*32≤16777216:=by omega
    simp [vmks,h2,h3]
  have hcp:∀r0 r2:Blk,vcopy lim 4 (H++[r0,.row (rowOf A.length (ints (zs 4))) true,r2]) (.sl (H.length+1) 0 A.length 4) av=some (.int .i64 A.length,H++[r0,.row (lotC.all A) true,r2]):=fun r0 r2=>by
    have hx:HX H (H++[r0,.row (rowOf A.length (ints (zs 4))) true,r2]):=⟨_,rfl⟩
    have hc:=(ha.mono hx).cells
    have hal:(lotC.all A).length=A.length*4:=Cod.all_len
    by_cases h0:A.length=0
    · have:A=[]:=List.eq_nil_of_length_eq_zero h0
      subst this
      have hc0:vcells 4 (H++[r0,.row [] true,r2]) av=some []:=(ha.mono ⟨_,rfl⟩).cells
      simp [vcopy,hc0,ha.len,vlenS_sl,rowOf,Cod.all]
    · have et:(lotC.all A).take (A.length*4)=lotC.all A:=List.take_of_length_le (by omega)
      have es:splice (rowOf A.length (ints (zs 4))) 0 (lotC.all A)=lotC.all A:=by
        simp only [splice,List.take_zero,List.nil_append,Nat.zero_add]
        rw [List.drop_of_length_le (by rw [rowOf_len4,hal];exact Nat.le_refl _),List.append_nil]
      have l1:lim≤H.length+1:=by omega
      have h00:¬A=[]:=fun e=>h0 (by rw [e];rfl)
      simp [vcopy,hc,ha.len,vlenS_sl,h0,h00,et,vstoreH,l1,loAt,rowOf_len4,hal,es,setAt]
  have rd1:∀x:V,rd none [x] 0=some x:=fun x=>Eq.trans rfl rfl
  have spl1:∀x y:V,splice [x] 0 [y]=[y]:=fun x y=>Eq.trans rfl rfl
  have l1:lim≤H.length+1:=by omega
  have l2:lim≤H.length+2:=by omega
  have l5:lim≤H.length+5:=by omega
  simp (disch:=omega) [vf59,ha.len,ha.stor,hb.stor,hb.one,hb.len,hmk,List.append_assoc,loAt,loAt0,setAt,vstoreH,rd1,spl1,hcp,l1,l2,l5,Nat.add_assoc]
  have hS:ShS H.length H bv (.sl (H.length+1) 0 A.length 4) A A (zs 36) fal6 (H++[Blk.row [bv] true,Blk.row (lotC.all A) true,Blk.row [V.sl (H.length+1) 0 A.length 4] true,Blk.row (ints (zs 36)) true,Blk.row [V.bool false,V.bool false,V.bool false,V.bool false,V.bool false,V.bool false] true,Blk.row [getW H.length] true]) :=
    ⟨⟨rfl,by simp⟩,fun b hb=>List.getElem?_append_left hb,rfl,by rw [loAt0];rfl,.row (by omega) (by rw [loAt];rfl),by rw [loAt];rfl,by rw [loAt];rfl,by rw [loAt];rfl,by rw [loAt];rfl,zs_length _,rfl,rfl,fun i _=>⟨rfl,rfl,rfl⟩⟩
  generalize hHH:H++[Blk.row [bv] true,Blk.row (lotC.all A) true,Blk.row [V.sl (H.length+1) 0 A.length 4] true,Blk.row (ints (zs 36)) true,Blk.row [V.bool false,V.bool false,V.bool false,V.bool false,V.bool false,V.bool false] true,Blk.row [getW H.length] true]=HS at *
  have hHH2:H++[Blk.row [bv] true,Blk.row (lotC.all A) true,Blk.row [V.sl (H.length+1) 0 A.length 4] true,Blk.row (ints (zs 36)) true,Blk.row [V.bool false,V.bool false,V.bool false,V.bool false,V.bool false,V.bool false] true,Blk.row [V.func (Fn.func 79) [] [V.ptr (H.length+2) 0,V.ptr (H.length+4) 0,V.ptr H.length 0,V.ptr (H.length+3) 0,V.ptr (H.length+5) 0]] true]=HS:=hHH
  rw [hHH2]
  have z0:∀w,gotF (netOf A B) (flOf A (zs 36)) w=0:=fun w=>su_zero fun k _=>by
    show (if w<6∧k<6 then (zs 36).getD (w*6+k) 0 else 0)=0
    rw [zs_getD];split<;>rfl
  refine wLoop_up B.length (fun i fr L H'=>∃l g tr,(fr 4=.lp 0 0∧fr 6=.ptr (H.length+3) 0∧fr 7=.ptr (H.length+4) 0∧fr 8=.ptr (H.length+5) 0∧fr 20=bv∧fr 21=.int .i64 B.length∧fr 22=.int .i64 i)∧L[0]? = some (ints (zs 36))∧ShS H.length H bv (.sl (H.length+1) 0 A.length 4) A l g tr H' ∧
    FlOk (netOf A B) (flOf l g)∧(∀w,w<B.length→gotF (netOf A B) (flOf l g) w≤(B.getD w default).w)∧(∀w,i≤w→w<B.length→gotF (netOf A B) (flOf l g) w=0)∧∃S T:Nat→Prop,ClsF (netOf A B) (flOf l g) S T∧∀w,w<i→w<B.length→gotF (netOf A B) (flOf l g) w=(B.getD w default).w∨S w)
    ⟨A,zs 36,fal6,by simp,rfl,hS,fl_start hv,fun w hw=>by rw [z0];exact (b4 w hw).1,fun w _ _=>z0 w,fun _=>False,fun _=>False,⟨fun w _ h=>h.elim,fun l _ h=>h.elim⟩,fun w hw=>by omega⟩ ?_
  rintro i hi fr L H1 ⟨l,g,tr,⟨f4,f6,f7,f8,f20,f21,f22⟩,l0,hS1,hok,hle,hz,S,T,hc,hsat⟩
  simp [f4,f6,f7,f8,f20,f21,f22]
  refine cond_dec (fun ht => ?_) fun hfl => ?_
  · have ht : i<B.length:=by omega
    have hB1:=hS1.wants hb
    simp (disch:=omega) [f4,f6,f7,f8,f20,f21,f22,hB1.at ht,wa_load hB1,lastO,lastS,splice55,iz5,lpId_ept]
    refine wLoop_post 2 (fun fr L' H'=>∃l g tr,(fr 4=.lp 0 0∧fr 6=.ptr (H.length+3) 0∧fr 7=.ptr (H.length+4) 0∧fr 8=.ptr (H.length+5) 0∧fr 20=bv∧fr 21=.int .i64 B.length∧fr 22=.int .i64 i)∧L'[0]? = some (ints (zs 36))∧ShS H.length H bv (.sl (H.length+1) 0 A.length 4) A l g tr H' ∧
      FlOk (netOf A B) (flOf l g)∧(∀w,w<B.length→gotF (netOf A B) (flOf l g) w≤(B.getD w default).w)∧(∀w,i+1≤w→w<B.length→gotF (netOf A B) (flOf l g) w=0)∧∃S T:Nat→Prop,ClsF (netOf A B) (flOf l g) S T∧∀w,w<i+1→w<B.length→gotF (netOf A B) (flOf l g) w=(B.getD w default).w∨S w) ?_ ?_
    · refine wLoop_m (n:=(B.getD i default).w.toNat) (fun M fr L' H'=>∃l g tr more,(fr 4=.lp 0 0∧fr 6=.ptr (H.length+3) 0∧fr 7=.ptr (H.length+4) 0∧fr 8=.ptr (H.length+5) 0∧fr 20=bv∧fr 21=.int .i64 B.length∧fr 22=.int .i64 i∧fr 9=.int .i64 i∧fr 11=.int .i64 more)∧L'[0]? = some (ints (zs 36))∧ShS H.length H bv (.sl (H.length+1) 0 A.length 4) A l g tr H' ∧
        FlOk (netOf A B) (flOf l g)∧(∀w,w<B.length→gotF (netOf A B) (flOf l g) w≤(B.getD w default).w)∧(∀w,i+1≤w→w<B.length→gotF (netOf A B) (flOf l g) w=0)∧(∃S T:Nat→Prop,ClsF (netOf A B) (flOf l g) S T∧∀w,w<i→w<B.length→gotF (netOf A B) (flOf l g) w=(B.getD w default).w∨S w) ∧
        0≤more∧gotF (netOf A B) (flOf l g) i+more=(B.getD i default).w∧more.toNat≤M) ⟨l,g,tr,(B.getD i default).w,by simp [f4,f6,f7,f8,f20,f21,f22],keepL l0 _,hS1,hok,hle,fun w h1 h2=>hz w (by omega) h2,⟨S,T,hc,hsat⟩,(b4 i ht).1,by rw [hz i (Nat.le_refl _) ht];omega,by omega⟩ ?_
      clear f4 f6 f7 f8 f20 f21 f22 l0 hS1 hok hle hz hc hsat hB1
      rintro M fr L' H2 ⟨l,g,tr,more,⟨f4,f6,f7,f8,f20,f21,f22,f9,f11⟩,l0,hS2,hok,hle,hz,⟨S,T,hc,hsat⟩,hm0,hmo,hM⟩
      simp [f4,f6,f7,f8,f20,f21,f22,f9,f11]
      refine cond_dec (fun hgt => ?_) fun hgt => ?_
      · have hsl:vslA 6 1 H2 (.ptr (H.length+4) 0) none none=some (.sl (H.length+4) 0 6 1):=vslA_all hS2.rT (by simp [bools,hS2.tl])
        have hS3:ShS H.length H bv (.sl (H.length+1) 0 A.length 4) A l g fal6 (H2.set (H.length+4) (.row (bools fal6) true)):=by
          obtain ⟨⟨n1,n2⟩,h2,h3,h4,h5,h6,h7,h8,h9,h10,h11,h12,h13⟩:=hS2
          exact ⟨⟨n1,by simpa using n2⟩,fun b hb=>by rw [List.getElem?_set_ne (by omega)];exact h2 b hb,h3,by rw [List.getElem?_set_ne (by omega)];exact h4,h5.keepB fun b o m z e=>by
            cases e;rw [List.getElem?_set_ne (by omega)],by rw [List.getElem?_set_ne (by omega)];exact h6,by rw [List.getElem?_set_ne (by omega)];exact h7,by rw [List.getElem?_set_self (by omega)],by rw [List.getElem?_set_ne (by omega)];exact h9,h10,rfl,h12,h13⟩
        have hclr:vclr lim 1 [.bool false] H2 (.sl (H.length+4) 0 6 1)=some (H2.set (H.length+4) (.row (bools fal6) true)):=by
          have l4:lim≤H.length+4:=by omega
          have e1:(bools tr).length=6:=by simp [bools,hS2.tl]
          have e2:splice (bools tr) 0 [.bool false,.bool false,.bool false,.bool false,.bool false,.bool false]=bools fal6:=by
            simp only [splice,List.take_zero,List.nil_append,Nat.zero_add]
            rw [List.drop_of_length_le (by rw [e1];exact Nat.le_refl _)];rfl
          simp [vclr,vstoreH,l4,hS2.rT,e2,e1,rowOf]
        generalize H2.set (H.length+4) (.row (bools fal6) true)=H3 at *
        have ldF:∀L,vload none L H3 (.ptr (H.length+5) 0)=some (getW H.length):=fun L=>by rw [vload_ptr hS3.rF];rfl
        have stW:stor (getW H.length)=true:=Eq.trans rfl rfl
        simp [f4,f6,f7,f8,f20,f21,f22,f9,f11,hsl,hclr,ldF,stW,-vload_ptrO]
        have hb4:=b4 i ht
        have hgi:0≤gotF (netOf A B) (flOf l g) i:=su_nn fun k hk=>(hok.giv i ht k hk).1
        refine dye_get hb hv hlim (untN fal6 A.length) rfl (Nat.le_refl _) hS3 ht ⟨hgt,by omega⟩ hok fun H4 l4 g4 tr4 n hS4 hR => ?_
        rw [trF_fal] at hR
        have hrn:=hR.rng
        by_cases hn0:n=0
        · subst hn0
          obtain ⟨S',T',c1,c2,c3⟩:=hc.more hR
          simp [f4,f6,f7,f8,f20,f21,f22,f9,f11]
          have hgot:∀w,w<B.length→gotF (netOf A B) (flOf l4 g4) w=gotF (netOf A B) (flOf l g) w:=fun w hw=>by rw [hR.got w hw];split<;>omega
          exact ⟨l0,l4,g4,⟨tr4,hS4⟩,hR.ok,fun w hw=>by rw [hgot w hw];exact hle w hw,fun w h1 h2=>by rw [hgot w h2];exact hz w (by omega) h2,S',⟨T',c1⟩,fun w h1 h2=>by
            by_cases e:w=i
            · subst e;exact Or.inr c3
            · rw [hgot w h2]
              rcases hsat w (by omega) h2 with q | q
              · exact Or.inl q
              · exact Or.inr (c2 w q)⟩
        · simp (disch:=omega) [f4,f6,f7,f8,f20,f21,f22,f9,f11,hn0,wrap_i64]
          have hgot:∀w,w<B.length→w≠i→gotF (netOf A B) (flOf l4 g4) w=gotF (netOf A B) (flOf l g) w:=fun w hw hne=>by rw [hR.got w hw,if_neg hne];omega
          have hgi2:gotF (netOf A B) (flOf l4 g4) i=gotF (netOf A B) (flOf l g) i+n:=by rw [hR.got i ht,if_pos rfl]
          exact ⟨(more-n).toNat,by omega,l0,l4,g4,⟨tr4,hS4⟩,hR.ok,fun w hw=>by
            by_cases e:w=i
            · subst e;rw [hgi2];omega
            · rw [hgot w hw e];exact hle w hw,fun w h1 h2=>by rw [hgot w h2 (by omega)];exact hz w h1 h2,⟨S,⟨T,hc.keep (hR.cls S T hc).2⟩,fun w h1 h2=>by rw [hgot w h2 (by omega)];exact hsat w h1 h2⟩,by omega,by rw [hgi2];omega,by omega⟩
      · simp [f4,f6,f7,f8,f20,f21,f22]
        exact ⟨l0,l,g,⟨tr,hS2⟩,hok,hle,hz,S,⟨T,hc⟩,fun w h1 h2=>by
          by_cases e:w=i
          · subst e;exact Or.inl (by omega)
          · exact hsat w (by omega) h2⟩
    clear f4 f6 f7 f8 f20 f21 f22 l0 hS1 hok hle hz hc hsat hB1
    rintro fr L2 H2 ⟨l,g,tr,⟨f4,f6,f7,f8,f20,f21,f22⟩,l0,hS2,hok,hle,hz,S,T,hc,hsat⟩
    simp (disch:=omega) [f4,f6,f7,f8,f20,f21,f22,wrap_i64]
    exact ⟨by omega,l0,l,g,⟨tr,hS2⟩,hok,hle,hz,S,⟨T,hc⟩,hsat⟩
  · have:i=B.length:=by omega
    subst this
    have ld36:∀L,vload (some 36) L H1 (.ptr (H.length+3) 0)=some (.agg (ints g)):=fun L=>by rw [vload_ptr hS1.rG,rd_ints_all hS1.gl.symm]
    have e36:splice (ints (zs 36)) 0 (ints g)=ints g:=splice_ints_all (by rw [hS1.gl,zs_length])
    have hx:HX H H1:=HX.of (by have:=hS1.len;omega) fun b hb=>hS1.base b hb
    have hgb:=(flow_bd hv hok).2
    have e37:rd (some 36) (ints g) 0=some (.agg (ints g)):=rd_ints_all hS1.gl.symm
    simp [f4,f6,ld36,l0,e36,hS1.gl,setLq2 l0,e37,-vload_ptrO]
    refine hK H1 g hx hS1.gl (fun i => ?_) ⟨l,hok,hle,tot_most hok hle hc fun w hw=>hsat w hw hw⟩
    by_cases hi2:i<36
    · have:=hgb (i / 6) (i % 6)
      have e:(flOf l g).g (i / 6) (i % 6)=g.getD i 0:=by
        show (if i / 6<6∧i % 6<6 then g.getD (i / 6*6+i % 6) 0 else 0)=_
        rw [if_pos ⟨by omega,by omega⟩]
        congr 1;omega
      rw [e] at this
      omega
    · rw [getD_big (by rw [hS1.gl];omega)];omega
end
end Go.Proofs.Ytkmcdiajcnejiaa.Vm
namespace Go.Proofs.Ytkmcdiajcnejiaa.Vm
open Go
set_option maxRecDepth 100000
set_option maxHeartbeats 2000000
set_option linter.unusedSimpArgs false
set_option linter.unusedVariables false
attribute [-simp] List.getD_eq_getElem?_getD
theorem allN_of {f:Nat→Bool}:∀{n:Nat},(∀i,i<n→f i=true)→allN f n=true
  | 0,_=>rfl
  | n+1,h=>by simp only [allN,h n (by omega),Bool.and_true];exact allN_of fun i hi=>h i (by omega)
section
variable {A l:List Lot}{B:List Wnt}{g:List Int}
theorem su_ext {f : Nat→Int} {n:Nat}:∀{m:Nat},n≤m→(∀i,n≤i→i<m→f i=0)→su f m=su f n
  | 0, h, _ => by have:n=0:=by omega
                  subst this;rfl
  | m+1,h,hz=>by
    by_cases e:n=m+1
    · subst e;rfl
    · rw [su,su_ext (m:=m) (by omega) fun i h1 h2=>hz i h1 (by omega),hz m (by omega) (by omega)];omega
theorem fl_g {w k:Nat}(hw:w<6)(hk:k<6):(flOf l g).g w k=g.getD (6*w+k) 0:=by
  show (if w<6∧k<6 then g.getD (w*6+k) 0 else 0)=_
  rw [if_pos ⟨hw,hk⟩];congr 1;omega
theorem smR_su (h0:∀i,0≤g.getD i 0){w:Nat}(hw:w<6):∀{j:Nat},j≤6→smR g w j=su ((flOf l g).g w) j
  | 0,_=>rfl
  | j+1,hj=>by
    rw [smR,su,smR_su h0 hw (j:=j) (by omega),fl_g hw (by omega)]
    split
    · rfl
    · have:=h0 (6*w+j);omega
theorem smA_su (h0:∀i,0≤g.getD i 0)(hok:FlOk (netOf A B) (flOf l g))(hA:A.length≤6):∀{n:Nat},n≤6→smA g n=su (gotF (netOf A B) (flOf l g)) n
  | 0,_=>rfl
  | n+1,hn=>by
    rw [smA,su,smA_su h0 hok hA (n:=n) (by omega),smR_su (l:=l) h0 (by omega) (Nat.le_refl 6)]
    congr 1
    exact su_ext hA fun i h1 h2=>hok.out n i (Or.inr h1)
theorem sum_tot (h0:∀i,0≤g.getD i 0)(hok:FlOk (netOf A B) (flOf l g))(hA:A.length≤6)(hB:B.length≤6):smA g 6=totF (netOf A B) (flOf l g):=by
  rw [smA_su h0 hok hA (Nat.le_refl 6)]
  exact su_ext hB fun i h1 h2=>su_zero fun k _=>hok.out i k (Or.inl h1)
def sumG (f:Gft→Int)(G:List Gft):Int:=(G.map f).sum
theorem sumG_app {f:Gft→Int}{G G':List Gft}:sumG f (G++G')=sumG f G+sumG f G':=by simp [sumG]
theorem take_g {G:List Gft}{n:Nat}(h:n<G.length):G.take (n+1)=G.take n++[G.getD n default]:=by
  rw [List.take_add_one,List.getElem?_eq_getElem h,List.getD_eq_getElem?_getD,List.getElem?_eq_getElem h];rfl
theorem cL_sum {G:List Gft}{k:Nat}:∀{n:Nat},n≤G.length→cL G k n=sumG (fun e=>if e.l=(k:Int) then e.n else 0) (G.take n)
  | 0,_=>by simp [cL,sumG]
  | n+1,h=>by rw [cL,cL_sum (n:=n) (by omega),take_g (by omega),sumG_app];simp [sumG]
theorem cW_sum {G:List Gft}{k:Nat}:∀{n:Nat},n≤G.length→cW G k n=sumG (fun e=>if e.w=(k:Int) then e.n else 0) (G.take n)
  | 0,_=>by simp [cW,sumG]
  | n+1,h=>by rw [cW,cW_sum (n:=n) (by omega),take_g (by omega),sumG_app];simp [sumG]
theorem sG_sum {G:List Gft}:∀{n:Nat},n≤G.length→sG G n=sumG (fun e=>e.n) (G.take n)
  | 0,_=>by simp [sG,sumG]
  | n+1,h=>by rw [sG,sG_sum (n:=n) (by omega),take_g (by omega),sumG_app];simp [sumG]
theorem gfR_L (h0:∀i,0≤g.getD i 0) {w k:Nat}:∀{j:Nat},sumG (fun e=>if e.l=(k:Int) then e.n else 0) (gfR g w j)=if k<j then g.getD (6*w+k) 0 else 0
  | 0=>by simp [gfR,sumG]
  | j + 1=>by
    have ih:=gfR_L h0 (w:=w) (k:=k) (j:=j)
    rw [gfR,sumG_app,ih]
    have hj:=h0 (6*w+j)
    by_cases e:k=j
    · subst e
      simp only [Nat.lt_irrefl,if_false,Nat.lt_succ_self,if_true]
      split
      · simp [sumG]
      · simp [sumG];omega
    · have e2:(if 0<g.getD (6*w+j) 0 then [(⟨w,j,g.getD (6*w+j) 0⟩:Gft)] else [])=[]∨(if 0<g.getD (6*w+j) 0 then [(⟨w,j,g.getD (6*w+j) 0⟩:Gft)] else [])=[⟨w,j,g.getD (6*w+j) 0⟩]:=by
        split
        · exact Or.inr rfl
        · exact Or.inl rfl
      have e3:(k<j+1)↔(k<j):=by omega
      have e4:¬((j:Int)=(k:Int)):=by omega
      simp only [e3]
      rcases e2 with e2 | e2<;>rw [e2]<;>simp [sumG,e4]
theorem gfA_L (h0:∀i,0≤g.getD i 0){k:Nat}(hk:k<6):∀{n:Nat},n≤6→sumG (fun e=>if e.l=(k:Int) then e.n else 0) (gfA g n)=su (fun w=>(flOf l g).g w k) n
  | 0,_=>by simp [gfA,sumG,su]
  | n+1,hn=>by
    rw [gfA,sumG_app,gfA_L h0 hk (n:=n) (by omega),gfR_L h0,if_pos hk,su,fl_g (by omega) hk]
theorem gfR_W (h0:∀i,0≤g.getD i 0){w v:Nat}:∀{j:Nat},sumG (fun e=>if e.w=(v:Int) then e.n else 0) (gfR g w j)=if w=v then smR g w j else 0
  | 0=>by simp [gfR,sumG,smR]
  | j + 1=>by
    have ih:=gfR_W h0 (w:=w) (v:=v) (j:=j)
    rw [gfR,sumG_app,ih,smR]
    by_cases e:w=v
    · subst e
      simp only [if_true]
      split<;>simp [sumG]
    · have e4:¬((w:Int)=(v:Int)):=by omega
      simp only [if_neg e]
      split<;>simp [sumG,e4]
theorem gfA_W (h0:∀i,0≤g.getD i 0){v:Nat}:∀{n:Nat},sumG (fun e=>if e.w=(v:Int) then e.n else 0) (gfA g n)=if v<n then smR g v 6 else 0
  | 0=>by simp [gfA,sumG]
  | n + 1=>by
    rw [gfA,sumG_app,gfA_W h0 (n:=n),gfR_W h0]
    by_cases e:n=v
    · subst e;rw [if_neg (by omega),if_pos rfl,if_pos (by omega)];omega
    · have e3:(v<n+1)↔(v<n):=by omega
      rw [if_neg e];simp only [e3];omega
theorem gfR_N:∀{w j:Nat},sumG (fun e=>e.n) (gfR g w j)=smR g w j
  | w,0=>by simp [gfR,sumG,smR]
  | w,j+1=>by
    rw [gfR,sumG_app,gfR_N,smR]
    split<;>simp [sumG]
theorem gfA_N:∀{n:Nat},sumG (fun e=>e.n) (gfA g n)=smA g n
  | 0=>by simp [gfA,sumG,smA]
  | n+1=>by rw [gfA,sumG_app,gfA_N,gfR_N,smA]
theorem gfR_mem {e:Gft} {w:Nat}:∀{j:Nat},e∈gfR g w j→∃k,k<j∧0<g.getD (6*w+k) 0∧e=⟨w,k,g.getD (6*w+k) 0⟩
  | 0,h=>by simp [gfR] at h
  | j + 1,h=>by
    rw [gfR,List.mem_append] at h
    rcases h with h | h
    · obtain ⟨k,h1,h2⟩:=gfR_mem h
      exact ⟨k,by omega,h2⟩
    · split at h
      · rename_i hp
        exact ⟨j,by omega,hp,by simpa using h⟩
      · simp at h
theorem gfA_mem {e:Gft}:∀{n:Nat},e∈gfA g n→∃w k,w<n∧k<6∧0<g.getD (6*w+k) 0∧e=⟨w,k,g.getD (6*w+k) 0⟩
  | 0,h=>by simp [gfA] at h
  | n + 1,h=>by
    rw [gfA,List.mem_append] at h
    rcases h with h | h
    · obtain ⟨w,k,h1,h2⟩:=gfA_mem h
      exact ⟨w,k,by omega,h2⟩
    · obtain ⟨k,h1,h2,h3⟩:=gfR_mem h
      exact ⟨n,k,by omega,h1,h2,h3⟩
theorem firstE_zero {G:List Gft}:∀{n:Nat},(∀j,j<n→giftE A B (G.getD j default)=0)→firstE A B G n=0
  | 0,_=>rfl
  | n+1,h=>by rw [firstE,if_pos (firstE_zero fun j hj=>h j (by omega)),h n (by omega)]
theorem best_check (hv:valP A B=0)(hg:g.length=36)(h0:∀i,0≤g.getD i 0∧g.getD i 0≤1000000)(hb:BestG A B g):checkP A B (gfA g 6)=(mostF (netOf A B),0)∧smA g 6=mostF (netOf A B):=by
  obtain ⟨l,hok,hle,htot⟩:=hb
  obtain ⟨b1,b2,b3,b4⟩:=net_bd hv
  have h0':∀i,0≤g.getD i 0:=fun i=>(h0 i).1
  have hsum:=sum_tot h0' hok b1 b2
  have hfb:=(flow_bd hv hok).2
  refine ⟨?_,by rw [hsum,htot]⟩
  have hf:firstE A B (gfA g 6) (gfA g 6).length=0:=firstE_zero fun j hj=>by
    have hm:(gfA g 6).getD j default∈gfA g 6:=by
      rw [List.getD_eq_getElem?_getD,List.getElem?_eq_getElem hj];exact List.getElem_mem hj
    obtain ⟨w,k,hw,hk,hp,e⟩:=gfA_mem hm
    rw [e]
    have e1:=fl_g (l:=l) (g:=g) hw hk
    have hwB:w<B.length:=by
      apply Classical.byContradiction
      intro hn
      have:=hok.out w k (Or.inl (by simpa [netOf] using hn))
      rw [e1] at this;omega
    have hkA:k<A.length:=by
      apply Classical.byContradiction
      intro hn
      have:=hok.out w k (Or.inr (by simpa [netOf] using hn))
      rw [e1] at this;omega
    have hgv:=hok.giv w hwB k hkA
    rw [e1] at hgv
    have hnr:=hgv.2 hp
    have hbd:=hfb w k
    rw [e1] at hbd
    unfold giftE
    rw [if_neg (by simp only;omega),if_neg (by simp only;omega)]
    simp only [Int.toNat_natCast]
    exact if_pos hnr
  have hL:allN (lotsOk A (gfA g 6)) A.length=true:=allN_of fun k hk=>by
    have e:cL (gfA g 6) k (gfA g 6).length=su (fun w=>(flOf l g).g w k) B.length:=by
      rw [cL_sum (Nat.le_refl _),List.take_length,gfA_L (l:=l) h0' (by omega) (Nat.le_refl 6)]
      exact su_ext b2 fun i h1 h2=>hok.out i k (Or.inl h1)
    have hlot:=hok.lot k hk
    simp only [netOf] at hlot
    unfold lotsOk
    rw [e]
    simp only [Bool.not_eq_true',decide_eq_false_iff_not]
    omega
  have hW:allN (wntsOk B (gfA g 6)) B.length=true:=allN_of fun w hw=>by
    have e:cW (gfA g 6) w (gfA g 6).length=gotF (netOf A B) (flOf l g) w:=by
      rw [cW_sum (Nat.le_refl _),List.take_length,gfA_W h0',if_pos (by omega),smR_su (l:=l) h0' (by omega) (Nat.le_refl 6)]
      exact su_ext b1 fun i h1 h2=>hok.out w i (Or.inr h1)
    have:=hle w hw
    unfold wntsOk
    rw [e]
    simp only [Bool.not_eq_true',decide_eq_false_iff_not]
    omega
  have hS:sG (gfA g 6) (gfA g 6).length=mostF (netOf A B):=by
    rw [sG_sum (Nat.le_refl _),List.take_length,gfA_N,hsum,htot]
  unfold checkP
  rw [if_pos hv,if_pos hf,if_pos ⟨hL,hW⟩,hS]
end
end Go.Proofs.Ytkmcdiajcnejiaa.Vm
namespace Go.Proofs.Ytkmcdiajcnejiaa.Vm
open Go
set_option maxRecDepth 100000
set_option maxHeartbeats 2000000
set_option linter.unusedSimpArgs false
set_option linter.unusedVariables false
attribute [-simp] List.getD_eq_getElem?_getD
theorem vwant_dv0 {b:Bool}:vwant b dv=false:=Eq.trans rfl rfl
attribute [local simp] vwant_dv0
def mostP (A:List Lot)(B:List Wnt):Int:=if valP A B=0 then mostF (netOf A B) else 0
section
variable {lim:Nat}{H:Hp}{K:V→Hp→Prop}{av bv gv:V}{A:List Lot}{B:List Wnt}{G:List Gft}
theorem dye_Best (ha:LstV lotC H av A)(hb:LstV wntC H bv B)(hlim:lim≤H.length)(hK:∀H' v G,HX H H'→LstV gftC H' v G→(valP A B=0→checkP A B G=(mostF (netOf A B),0)∧G.length≤36)→(valP A B≠0→G=[])→K (.tup [v,.int .i64 (mostP A B),.int .i64 (valP A B)]) H'):VCall tbl lim 28 [av,bv] H K:=by
  by_cases hv:valP A B=0
  · refine dye_BestOf ha hb hlim hv (G:=fun g=>BestG A B g∧g.length=36∧∀i,0≤g.getD i 0∧g.getD i 0≤1000000) (fun K' hk=>dye_share ha hb hv hlim fun H' g hx hl h0 hB=>hk H' g hx hl h0 ⟨hB,hl,h0⟩) ?_
    rintro H' v g hx ho ⟨hB,hl,h0⟩
    obtain ⟨q1,q2⟩:=best_check hv hl h0 hB
    have:=hK H' v (gfA g 6) hx ho.lst (fun _=>⟨q1,gfA_len 6⟩) (fun h=>absurd hv h)
    simp only [mostP,hv,if_true] at this
    rw [q2]
    exact this
  · refine VCall_fn tbl_at28 rfl ?_
    simp [vf28,ha.stor,hb.stor]
    refine dye_Validate ha hb ?_
    have:=hK H .snil [] HX.refl .nil (fun h=>absurd h hv) (fun _=>rfl)
    simp only [mostP,hv,if_false] at this
    simp [hv]
    exact this
theorem su_bd {f:Nat→Int}:∀{n:Nat},(∀i,i<n→0≤f i∧f i≤1000)→0≤su f n∧su f n≤1000*(n:Int)
  | 0,_=>by simp [su]
  | n+1,h=>by
    have:=su_bd (n:=n) fun i hi=>h i (by omega)
    have:=h n (by omega)
    simp only [su];omega
theorem bnd_bd (hv:valP A B=0){f:Nat→Bool}:0≤bndF (netOf A B) f∧bndF (netOf A B) f≤20000:=by
  obtain ⟨b1,b2,b3,b4⟩:=net_bd hv
  have s1:=su_bd (f:=fun w=>if f w=true then 0 else (B.getD w default).w) (n:=B.length) fun w hw=>by
    have:=b4 w hw
    split<;>omega
  have s2:=su_bd (f:=fun l=>if nearA (netOf A B) f l=true then (A.getD l default).w else 0) (n:=A.length) fun l hl=>by
    have:=b3 l hl
    split<;>omega
  show 0≤su (fun w=>if f w=true then 0 else (B.getD w default).w) B.length+su (fun l=>if nearA (netOf A B) f l=true then (A.getD l default).w else 0) A.length∧_≤_
  have e:bndF (netOf A B) f=su (fun w=>if f w=true then 0 else (B.getD w default).w) B.length+su (fun l=>if nearA (netOf A B) f l=true then (A.getD l default).w else 0) A.length:=rfl
  rw [e]
  omega
end
end Go.Proofs.Ytkmcdiajcnejiaa.Vm
namespace Go.Proofs.Ytkmcdiajcnejiaa.Vm
open Go
set_option maxRecDepth 100000
set_option maxHeartbeats 1000000
set_option linter.unusedSimpArgs false
set_option linter.unusedVariables false
section
variable {H H':Hp}{lim:Nat}{K:V→Hp→Prop}{av bv v:V}{A:List Lot}{B:List Wnt}{x:Lot}
theorem lots_old {i:Nat}(h:i<A.length):(A++[x]).getD i default=A.getD i default:=by
  simp [List.getD_eq_getElem?_getD,List.getElem?_append_left h]
theorem lots_new:(A++[x]).getD A.length default=x:=by
  simp [List.getD_eq_getElem?_getD]
theorem near_more {f:Nat→Bool}{l:Nat}(h:l<A.length):nearA (netOf (A++[x]) B) f l=nearA (netOf A B) f l:=by
  unfold nearA
  have e:(fun w=>f w&&(netOf (A++[x]) B).N l w)=fun w=>f w&&(netOf A B).N l w:=by
    funext w
    show (f w&&nearL ((A++[x]).getD l default) _)=(f w&&nearL (A.getD l default) _)
    rw [lots_old h]
  rw [e];rfl
theorem bnd_more {f:Nat→Bool}:bndF (netOf (A++[x]) B) f=bndF (netOf A B) f+if nearA (netOf (A++[x]) B) f A.length=true then x.w else 0:=by
  have hl:(netOf (A++[x]) B).nl=A.length+1:=by show (A++[x]).length=_;simp
  have h1:su (fun l=>if nearA (netOf (A++[x]) B) f l=true then (netOf (A++[x]) B).c l else 0) A.length=su (fun l=>if nearA (netOf A B) f l=true then (netOf A B).c l else 0) A.length:=su_congr fun l hl=>by
    have ec:(netOf (A++[x]) B).c l=(netOf A B).c l:=by
      show ((A++[x]).getD l default).w=(A.getD l default).w
      rw [lots_old hl]
    simp only [near_more hl,ec]
  have e2:(netOf (A++[x]) B).c A.length=x.w:=by
    show ((A++[x]).getD A.length default).w=_
    rw [lots_new]
  unfold bndF
  rw [hl]
  simp only [su]
  rw [h1,e2]
  show _+(su _ A.length+_)=(_+su _ A.length)+_
  have e3:su (fun w=>if f w=true then 0 else (netOf (A++[x]) B).d w) (netOf (A++[x]) B).nw=su (fun w=>if f w=true then 0 else (netOf A B).d w) (netOf A B).nw:=rfl
  rw [e3];omega
theorem most_more (hx:0≤x.w):mostF (netOf A B)≤mostF (netOf (A++[x]) B)∧mostF (netOf (A++[x]) B)≤mostF (netOf A B)+x.w:=by
  constructor
  · obtain ⟨m,_,hm⟩:=most_ex (p:=netOf (A++[x]) B)
    have h1:=most_le (p:=netOf A B) fun w=>m.testBit w
    rw [hm,bnd_more]
    split<;>omega
  · obtain ⟨m,_,hm⟩:=most_ex (p:=netOf A B)
    have h1:=most_le (p:=netOf (A++[x]) B) fun w=>m.testBit w
    rw [bnd_more] at h1
    split at h1<;>omega
theorem val_more (h:valP (A++[x]) B=0):0≤x.w∧x.w≤1000:=by
  have:=(net_bd h).2.2.1 A.length (by simp)
  rw [lots_new] at this;exact this
theorem most_bd (h:valP A B=0):0≤mostF (netOf A B)∧mostF (netOf A B)≤20000:=by
  obtain ⟨m,_,hm⟩:=most_ex (p:=netOf A B)
  rw [hm];exact bnd_bd h
theorem app_two (ha:LstV lotC H av A) {lim:Nat} (hlim:lim≤H.length) (hl:A.length≤1000):∃u H1,vappend lim 4 32 H .szero av=some (u,H1)∧HX H H1 ∧
    ∃w H2,vappend lim 4 32 (H1++[.row [.int .i64 x.w,.int .i64 x.l,.int .i64 x.t,.int .i64 x.b] true]) u (.sl H1.length 0 1 4)=some (w,H2)∧HX H H2∧LstV lotC H2 w (A++[x]):=by
  have hcx:lotC.cells x=[.int .i64 x.w,.int .i64 x.l,.int .i64 x.t,.int .i64 x.b]:=rfl
  by_cases hA:A.length=0
  · have:A=[]:=List.length_eq_zero_iff.1 hA
    subst this
    have hy:LstV lotC (H++[.row (lotC.cells x) true]) (.sl H.length 0 1 4) [x]:=by
      have:=LstV.sl (c:=lotC) (l:=[x]) (off:=0) (H:=H++[.row (lotC.cells x) true]) (b:=H.length) (own:=true) (cs:=lotC.cells x) List.getElem?_concat_length (by simp [lotC.len]) (by simp [Cod.all_one];rw [List.take_of_length_le (by rw [lotC.len];omega)])
      simpa using this
    refine ⟨.szero,H,by simp [vappend,ha.cells,ha.len],.refl,.sl (H.length+1) 0 1 4,(H++[.row (lotC.cells x) true])++[.row (lotC.cells x) true],?_,HX.push.trans HX.push,?_⟩
    · rw [←hcx]
      simp [vappend,hy.cells,hy.len,Cod.all_one]
    · have:=LstV.sl (c:=lotC) (l:=[x]) (off:=0) (H:=(H++[.row (lotC.cells x) true])++[.row (lotC.cells x) true]) (b:=H.length+1) (own:=true) (cs:=lotC.cells x) (by
        have:(H++[Blk.row (lotC.cells x) true]).length=H.length+1:=by simp
        rw [←this];exact List.getElem?_concat_length) (by simp [lotC.len]) (by simp [Cod.all_one];rw [List.take_of_length_le (by rw [lotC.len];omega)])
      simpa using this
  · have hne:A≠[]:=by intro e;rw [e] at hA;exact hA rfl
    have hb2:A.length*32≤140737488355328:=by omega
    have ho:OwnT H.length lotC (H++[.row (lotC.all A) true]) (.sl H.length 0 A.length 4) A:=.row (Nat.le_refl _) List.getElem?_concat_length
    obtain ⟨w,H2,a1,a2,a3,_⟩:=ho.append (lim:=lim) (bytes:=32) (x:=x) hcx ⟨hlim,by simp⟩ (by omega) (by omega)
    refine ⟨.sl H.length 0 A.length 4,H++[.row (lotC.all A) true],?_,HX.push,w,H2,a1,a3 _ HX.push (Nat.le_refl _),a2.lst⟩
    simp [vappend,ha.cells,ha.len,hA,hne,hb2,show A.length<4611686018427387904 by omega]
theorem law_DyeMore {ws:List V}{f:Trd}{n0 n1 n2 n3:Int}(hv:TrdV H ws f)(hlim:lim≤H.length)(i0:I64 n0)(i1:I64 n1)(i2:I64 n2)(i3:I64 n3)(hK:∀H',K (.bool true) H'):VCall tbl lim 8 [.agg ws,.agg [.int .i64 n0,.int .i64 n1,.int .i64 n2,.int .i64 n3]] H K:=by
  cases hv with
  | mk ha hb =>
    rename_i av bv A B
    refine VCall_fn tbl_at8 rfl ?_
    simp [vf8,ha.stor,hb.stor,ha.one,hb.one]
    refine law_wide ha hb ?_
    by_cases hw:30<A.length∨30<B.length
    · have e:(decide (30<A.length)||decide (30<B.length))=true:=by simp;exact hw
      rw [e]
      simp
      refine law_known hlim fun H1 => ?_
      simp;exact hK _
    have e:(decide (30<A.length)||decide (30<B.length))=false:=by simp;omega
    rw [e]
    simp [ha.stor,hb.stor]
    refine dye_Best ha hb hlim fun H1 v G x1 hG ok no => ?_
    replace x1:HX H H1:=x1
    have l1:=x1.len
    have ha1:=ha.mono x1
    have hb1:=hb.mono x1
    obtain ⟨x,hx⟩:∃x:Lot,x=⟨n0,n1,n2,n3⟩:=⟨_,rfl⟩
    obtain ⟨u,H2,a1,x2,w,H3,a2,x3,hw3⟩:=app_two (x:=x) ha1 (lim:=lim) (by omega) (by omega)
    rw [hx] at a2
    simp only at a2
    have hb3:=hb1.mono x3
    have l3:=x3.len
    have r4:∀{x y z u:V},rd none [x,y,z,u] 0=some x:=fun {x y z u}=>Eq.trans rfl rfl
    simp [hG.stor,ha.stor,hb.stor,a1,a2,iz4,splice44,hw3.stor]
    refine dye_Best hw3 hb3 (by omega) fun H4 v' G' x4 hG' ok' no' => ?_
    replace x4:HX H3 H4:=x4
    have l4:=x4.len
    by_cases hv1:valP A B=0
    case neg =>
      simp [hv1,hG'.stor]
      refine law_known (by omega) fun H5 => ?_
      simp;exact hK _
    by_cases hv2:valP (A++[x]) B=0
    case neg =>
      simp [hv1,hv2,hG'.stor]
      refine law_known (by omega) fun H5 => ?_
      simp;exact hK _
    have hm1:mostP A B=mostF (netOf A B):=by simp [mostP,hv1]
    have hm2:mostP (A++[x]) B=mostF (netOf (A++[x]) B):=by simp [mostP,hv2]
    have hxw:=val_more hv2
    obtain ⟨q1,q2⟩:=most_more (A:=A) (B:=B) hxw.1
    have hb1:=most_bd hv1
    have hb2:=most_bd hv2
    have hxn:x.w=n0:=by rw [hx]
    rw [hxn] at q2 hxw
    rw [hm1,hm2]
    generalize mostF (netOf A B)=m1 at *
    generalize mostF (netOf (A++[x]) B)=m2 at *
    have d1:(m1≤m2)=True:=eq_true q1
    have d2:(m2≤m1+n0)=True:=eq_true q2
    have w1:IntKind.wrap .i64 (m1+n0)=m1+n0:=wrap_i64 (by omega) (by omega)
    simp [hv1,hv2,hG'.stor,d1,d2,w1,r4]
    refine law_known (by omega) fun H5 => ?_
    simp;exact hK _
end
end Go.Proofs.Ytkmcdiajcnejiaa.Vm
