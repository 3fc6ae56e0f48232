/- Styles: the pure reader of a style, and what it knows of letters and texts. -/
import Derived.Test.YtalejadhccgckaaDoorVmPrim
import Derived.Test.YtalejadhccgckaaDoorVmRec
namespace Go.Proofs.YtalejadhccgckaaDoor.Vm
open Go
set_option maxRecDepth 100000
set_option linter.unusedSimpArgs false
set_option linter.unusedVariables false
attribute [-simp] List.getD_eq_getElem?_getD
theorem vlenT_str {s:ByteArray}:vlenT (.str s)=some (.int .i64 s.size):=Eq.trans rfl rfl
attribute [simp] vlenT_str
theorem lastO {α:Type}{X:List α}{c:α}:(X++[c])[X.length]? = some c:=by simp
theorem lastS {α:Type}{X:List α}{c d:α}:(X++[c]).set X.length d=X++[d]:=by simp
def chT (s:ByteArray)(i:Nat):Nat:=(s.data.getD i 0).toNat
theorem chT_lt {s:ByteArray}{i:Nat}:chT s i<256:=UInt8.toNat_lt _
theorem idxT {s:ByteArray}{i:Nat}(h:i<s.size):vidxT (.str s) (.int .i64 (i:Int))=some (.int .u8 (chT s i:Nat)):=by
  simp only [vidxT,vint];rw [if_pos (by omega)];rfl
theorem get_chT {s:ByteArray}{i:Nat}:(s.get! i).toNat=chT s i:=by
  unfold chT
  show (s.data[i]!).toNat=_
  rw [Array.getElem!_eq_getD,Array.getD_eq_getD_getElem?,Array.getD_eq_getD_getElem?]
  rfl
theorem dec_lt {s:ByteArray}{i:Nat}(h:chT s i<128):Utf8.decode s i=(chT s i,1):=by
  unfold Utf8.decode
  simp only [Nat.add_zero,get_chT]
  rw [if_pos h]
def isL (n:Nat):Bool:=decide (n=97)||decide (n=65)||decide (n=98)||decide (n=66)
theorem size_app {u v:ByteArray}:(u++v).size=u.size+v.size:=by simp
theorem chT_app {u v:ByteArray}{i:Nat}:chT (u++v) i=if i<u.size then chT u i else chT v (i-u.size):=by
  have e:(u++v).data=u.data++v.data:=by simp
  unfold chT
  rw [e]
  simp only [Array.getD_eq_getD_getElem?]
  have e2:u.size=u.data.size:=rfl
  split
  · rename_i h;rw [Array.getElem?_append_left (by omega)]
  · rename_i h;rw [Array.getElem?_append_right (by omega),e2]
theorem vadd_str {a b:ByteArray}(h:a.size+b.size≤1000000):vbin .add (.str a) (.str b)=some (.str (a++b)):=by
  simp only [vbin];rw [if_pos (by omega)]
theorem ba_ext {s t:ByteArray}(h:s.size=t.size)(hc:∀i,i<s.size→chT s i=chT t i):s=t:=by
  obtain ⟨a⟩:=s
  obtain ⟨b⟩:=t
  congr 1
  refine Array.ext h fun i h1 h2 => ?_
  have:=hc i h1
  simp only [chT,Array.getD_eq_getD_getElem?,Array.getElem?_eq_getElem h1,Array.getElem?_eq_getElem h2,Option.getD_some] at this
  exact UInt8.toNat_inj.1 this
def mp (F:Int→Int)(s:ByteArray):ByteArray:=⟨(s.data.toList.map fun b=>(F (b.toNat:Nat)).toNat.toUInt8).toArray⟩
theorem mp_size {F:Int→Int}{s:ByteArray}:(mp F s).size=s.size:=by
  show ((s.data.toList.map _).toArray).size=s.data.size
  simp
theorem chT_mp {F:Int→Int}{s:ByteArray}{i:Nat}(h:i<s.size)(hF:(F (chT s i:Nat)).toNat<256):chT (mp F s) i=(F (chT s i:Nat)).toNat:=by
  have h':i<s.data.size:=h
  have e:chT s i=(s.data[i]).toNat:=by simp [chT,Array.getD_eq_getD_getElem?,Array.getElem?_eq_getElem h']
  have h2:i<(mp F s).data.size:=by
    have:=mp_size (F:=F) (s:=s)
    have e2:(mp F s).size=(mp F s).data.size:=rfl
    omega
  have e3:(mp F s).data[i]=(F (s.data[i].toNat:Nat)).toNat.toUInt8:=by simp [mp]
  have e4:chT (mp F s) i=((mp F s).data[i]).toNat:=by simp [chT,Array.getD_eq_getD_getElem?,Array.getElem?_eq_getElem h2]
  rw [e4,e3,e]
  rw [e] at hF
  simp;omega
theorem mapD_let {F:Int→Int}(hF:∀n:Nat,isL n=true→0≤F n∧F n≤127):∀l:List UInt8,(∀b∈l,isL b.toNat=true)→Lib.mapD F l=l.map fun b=>(F (b.toNat:Nat)).toNat.toUInt8
  | [],_=>by simp [Lib.mapD,Lib.mapGoD]
  | b :: l,h=>by
    have ih:=mapD_let hF l fun c hc=>h c (by simp [hc])
    have hb:=h b (by simp)
    have hlt:b.toNat<128:=by
      simp only [isL,Bool.or_eq_true,decide_eq_true_eq] at hb;omega
    have hd:Lib.decodeL (b :: l)=(b.toNat,1):=by
      unfold Lib.decodeL
      have e:chT ⟨(b :: l).toArray⟩ 0=b.toNat:=by simp [chT,Array.getD_eq_getD_getElem?]
      rw [dec_lt (by rw [e];exact hlt),e]
    have hr:=hF _ hb
    have he:Lib.encodeRune (F (b.toNat:Nat))=[(F (b.toNat:Nat)).toNat.toUInt8]:=by
      unfold Lib.encodeRune
      rw [Lib.encodeRuneZ_one hr.1 hr.2];rfl
    unfold Lib.mapD at ih ⊢
    simp only [List.length_cons,Lib.mapGoD,hd,List.drop_one,List.tail_cons,List.map_cons]
    rw [if_neg (by simp),if_pos hr.1,he,ih]
    rfl
theorem oppF_let {n:Nat}(h:isL n=true):0≤oppF n∧oppF n≤127∧isL (oppF n).toNat=true:=by
  simp only [isL,Bool.or_eq_true,decide_eq_true_eq] at h
  rcases h with ((rfl | rfl) | rfl) | rfl<;>decide
theorem neiF_let {n:Nat}(h:isL n=true):0≤neiF n∧neiF n≤127∧isL (neiF n).toNat=true:=by
  simp only [isL,Bool.or_eq_true,decide_eq_true_eq] at h
  rcases h with ((rfl | rfl) | rfl) | rfl<;>decide
def rvB (s:ByteArray):ByteArray:=⟨(s.data.toList.reverse).toArray⟩
theorem rvB_size {s:ByteArray}:(rvB s).size=s.size:=by
  show ((s.data.toList.reverse).toArray).size=s.data.size
  simp
theorem chT_rvB {s:ByteArray}{k:Nat}(h:k<s.size):chT (rvB s) k=chT s (s.size-1-k):=by
  have h':k<s.data.size:=h
  have e:s.size=s.data.size:=rfl
  simp only [chT,rvB,Array.getD_eq_getD_getElem?,List.getElem?_toArray]
  rw [List.getElem?_reverse (by simpa using h'),Array.length_toList,Array.getElem?_toList,e]
theorem rvB_of {s t:ByteArray}(h:t.size=s.size)(hc:∀k,k<s.size→chT t k=chT s (s.size-1-k)):t=rvB s :=
  ba_ext (by rw [rvB_size,h]) fun k hk=>by rw [hc k (by omega),chT_rvB (by omega)]
theorem chT_cut {s:ByteArray}{i:Nat}(h:i<s.size):(s.extract i (i+1)).size=1∧chT (s.extract i (i+1)) 0=chT s i:=by
  have h':i<s.data.size:=h
  refine ⟨by rw [ByteArray.size_extract];omega,?_⟩
  simp only [chT,ByteArray.data_extract,Array.getD_eq_getD_getElem?,Array.getElem?_extract]
  rw [if_pos (by omega)];rfl
def rowF (n:Nat)(g:Nat→Int):List V:=(List.range n).map fun j=>.int .u8 (g j)
theorem rowF_len {n:Nat}{g:Nat→Int}:(rowF n g).length=n:=by simp [rowF]
theorem rowF_get {n:Nat}{g:Nat→Int}{j:Nat}(h:j<n):(rowF n g)[j]? = some (.int .u8 (g j)):=by simp [rowF,h]
def upf (g:Nat→Int)(j:Nat)(x:Int):Nat→Int:=fun k=>if k=j then x else g k
theorem rowF_set {n:Nat} {g:Nat→Int} {j:Nat} {x:Int} (h:j<n):splice (rowF n g) j [.int .u8 x]=rowF n (upf g j x):=by
  apply List.ext_getElem?
  intro k
  have hl:(rowF n g).length=n:=rowF_len
  unfold splice
  by_cases h1:k<j
  · rw [List.append_assoc,List.getElem?_append_left (by simp [hl];omega),List.getElem?_take_of_lt h1,rowF_get (by omega),rowF_get (by omega)]
    simp [upf,show ¬k=j by omega]
  · by_cases h2:k=j
    · subst h2
      rw [List.append_assoc,List.getElem?_append_right (by simp [hl];omega)]
      simp [hl,show min k n=k by omega,rowF_get h,upf]
    · by_cases h3:k<n
      · rw [List.getElem?_append_right (by simp [hl];omega),List.getElem?_drop,rowF_get h3]
        simp only [List.length_append,List.length_take,hl,List.length_cons,List.length_nil]
        rw [show j+(0+1)+(k-(min j n+(0+1)))=k by omega,rowF_get h3]
        simp [upf,h2]
      · rw [List.getElem?_eq_none (by simp [hl];omega),List.getElem?_eq_none (by simp [rowF_len];omega)]
theorem rowF_ext {n:Nat}{f g:Nat→Int}(h:∀j,j<n→f j=g j):rowF n f=rowF n g:=by
  unfold rowF
  exact List.map_congr_left fun j hj=>by rw [h j (by simpa using hj)]
def rvF (n i:Nat)(f:Nat→Int):Nat→Int:=fun j=>if j<i∨n-1-i<j then f (n-1-j) else f j
theorem vbytes_row {m:ByteArray}:vbytesL m=rowF m.size fun j=>(chT m j:Int):=by
  apply List.ext_getElem?
  intro k
  by_cases h:k<m.size
  · have h':k<m.data.size:=h
    rw [rowF_get h]
    simp [vbytesL,chT,Array.getElem?_eq_getElem h',Array.getD_eq_getD_getElem?]
  · rw [List.getElem?_eq_none (by simp [vbytesL];omega),List.getElem?_eq_none (by rw [rowF_len];omega)]
theorem bytesOf_row {n:Nat}{g:Nat→Nat}(hg:∀j,j<n→g j<256):bytesOf (rowF n fun j=>(g j:Int))=some ((List.range n).map fun j=>UInt8.ofNat (g j)):=by
  have key:∀l:List Nat,bytesOf (l.map fun j=>V.int .u8 (g j:Int))=some (l.map fun j=>UInt8.ofNat (g j)):=by
    intro l
    induction l with
    | nil=>rfl
    | cons a l ih=>simp only [List.map_cons,bytesOf,byteOf,ih,Int.toNat_natCast]
  exact key _
theorem text_row {n:Nat}{g:Nat→Nat}{s:ByteArray}(hs:s.size=n)(hg:∀j,j<n→g j=chT s j):(⟨((List.range n).map fun j=>UInt8.ofNat (g j)).toArray⟩:ByteArray)=s:=by
  refine ba_ext ?_ fun k hk => ?_
  · rw [hs];show (((List.range n).map _).toArray).size=n;simp
  · have hk':k<n:=by
      have:(⟨((List.range n).map fun j=>UInt8.ofNat (g j)).toArray⟩:ByteArray).size=n:=by show (((List.range n).map _).toArray).size=n;simp
      omega
    have hlt:=chT_lt (s:=s) (i:=k)
    have e:=hg k hk'
    simp [chT,Array.getD_eq_getD_getElem?,hk']
    simp only [chT,Array.getD_eq_getD_getElem?] at e hlt
    omega
def rep (s:ByteArray)(c:Nat):ByteArray:=⟨(Lib.repeatL s.data.toList c).toArray⟩
theorem rep_size {s:ByteArray}{c:Nat}:(rep s c).size=c*s.size:=by
  show ((Lib.repeatL s.data.toList c).toArray).size=c*s.data.size
  simp [Lib.repeatL_length]
theorem rep_zero {s:ByteArray}:rep s 0=⟨#[]⟩:=by simp [rep,Lib.repeatL]
theorem rep_succ {s:ByteArray}{c:Nat}:rep s c++s=rep s (c+1):=by
  have e:Lib.repeatL s.data.toList (c+1)=Lib.repeatL s.data.toList c++s.data.toList:=by
    rw [Lib.repeatL_add];simp [Lib.repeatL]
  have h:(rep s c++s).data=(rep s (c+1)).data:=by
    simp [rep,e]
  generalize rep s c++s=a at h
  generalize rep s (c+1)=b at h
  cases a;cases b;simp at h;subst h;rfl
def ltr (s:ByteArray):Prop:=∀i,i<s.size→isL (chT s i)=true
theorem ltr_all {s:ByteArray}(h:ltr s):∀b∈s.data.toList,isL b.toNat=true:=by
  intro b hb
  obtain ⟨i,hi,rfl⟩:=List.getElem_of_mem hb
  have hi':i<s.data.size:=by simpa using hi
  have:=h i hi'
  simpa [chT,Array.getD_eq_getD_getElem?,Array.getElem?_eq_getElem hi'] using this
theorem get_cut {w:ByteArray}{k n:Nat}(h:k<n):chT (w.extract 0 n) k=chT w k:=by
  simp only [chT,ByteArray.data_extract,Array.getD_eq_getD_getElem?,Array.getElem?_extract]
  by_cases h2:k<min n w.data.size-0
  · rw [if_pos h2,Nat.zero_add]
  · rw [if_neg h2,Array.getElem?_eq_none (by omega)]
def cutW (w:ByteArray):ByteArray:=if w.size≤61 then w else w.extract 0 61
theorem cutW_size {w:ByteArray}:(cutW w).size=min w.size 61:=by
  unfold cutW
  split
  · omega
  · rw [ByteArray.size_extract];omega
theorem cutW_ltr {w:ByteArray}(h:ltr w):ltr (cutW w):=by
  intro i hi
  rw [cutW_size] at hi
  unfold cutW
  split
  · exact h i (by omega)
  · rw [get_cut (by omega)];exact h i (by omega)
theorem ltr_nil:ltr ⟨#[]⟩:=fun i hi=>absurd (show i<0 from hi) (by omega)
theorem ltr_app {u v:ByteArray}(hu:ltr u)(hv:ltr v):ltr (u++v):=fun i hi=>by
  rw [size_app] at hi
  rw [chT_app]
  split
  · rename_i h;exact hu i h
  · rename_i h;exact hv _ (by omega)
theorem ltr_opp {s:ByteArray}(h:ltr s):ltr (mp oppF s):=fun i hi=>by
  rw [mp_size] at hi
  have h2:=oppF_let (h i hi)
  rw [chT_mp hi (by omega)];exact h2.2.2
theorem ltr_nei {s:ByteArray}(h:ltr s):ltr (mp neiF s):=fun i hi=>by
  rw [mp_size] at hi
  have h2:=neiF_let (h i hi)
  rw [chT_mp hi (by omega)];exact h2.2.2
theorem ltr_rv {s:ByteArray}(h:ltr s):ltr (rvB s):=fun i hi=>by
  rw [rvB_size] at hi
  rw [chT_rvB hi];exact h _ (by omega)
theorem ltr_rep {s:ByteArray}(h:ltr s):∀n,ltr (rep s n)
  | 0=>by rw [rep_zero];exact ltr_nil
  | n+1=>by rw [←rep_succ];exact ltr_app (ltr_rep h n) h
def oneC (c:Nat):ByteArray:=⟨#[c.toUInt8]⟩
theorem oneC_size {c:Nat}:(oneC c).size=1:=rfl
theorem chT_oneC {c:Nat}(h:c<256):chT (oneC c) 0=c:=by
  simp [chT,oneC,Array.getD_eq_getD_getElem?];omega
theorem ltr_one {c:Nat}(h:isL c=true):ltr (oneC c):=fun i hi=>by
  have:i=0:=by rw [oneC_size] at hi;omega
  subst this
  have hc:c<256:=by simp only [isL,Bool.or_eq_true,decide_eq_true_eq] at h;omega
  rw [chT_oneC hc];exact h
structure Rd where
  w:ByteArray
  j:Nat
  n:Nat
def Rd.map (f:ByteArray→ByteArray):Option (Option Rd)→Option (Option Rd)
  | some (some r)=>some (some ⟨f r.w,r.j,r.n⟩)
  | r=>r
def inW (w:ByteArray):ByteArray:=rvB (mp oppF w)
def moW (w:ByteArray):ByteArray:=mp oppF w
def flW (w:ByteArray):ByteArray:=mp neiF w
def grpF (s:ByteArray):Option (Option Rd)→Option (Option Rd)
  | some (some r)=>if r.j<s.size then
      if r.j+1<s.size∧48≤chT s (r.j+1)∧chT s (r.j+1)≤57 then some (some ⟨cutW (rep r.w (chT s (r.j+1)-48)),r.j+2,(chT s (r.j+1)-48)*r.n⟩)
      else some (some ⟨cutW (rep r.w 1),r.j+1,r.n⟩)
    else some none
  | r=>r
mutual
def itemsF:Nat→ByteArray→Nat→Nat→ByteArray→Nat→Option (Option Rd)
  | 0,_,_,_,_,_=>none
  | m + 1,s,i,d,w,n=>if i<s.size∧chT s i≠41 then
      match itemF m s i d with
      | some (some r)=>itemsF m s r.j d (cutW (w++r.w)) (n+r.n)
      | r=>r
    else some (some ⟨w,i,n⟩)
def itemF:Nat→ByteArray→Nat→Nat→Option (Option Rd)
  | 0,_,_,_=>none
  | m + 1,s,i,d=>if i<s.size then
      if isL (chT s i)=true then some (some ⟨oneC (chT s i),i+1,1⟩)
      else if chT s i=33 then Rd.map inW (itemF m s (i+1) d)
      else if chT s i=126 then Rd.map moW (itemF m s (i+1) d)
      else if chT s i=37 then Rd.map flW (itemF m s (i+1) d)
      else if chT s i=40 then groupF m s (i+1) d
      else some none
    else some none
def groupF:Nat→ByteArray→Nat→Nat→Option (Option Rd)
  | 0,_,_,_=>none
  | m+1,s,i,d=>if 8<d+1 then some none else grpF s (itemsF m s i (d+1) ⟨#[]⟩ 0)
end
def Okr (s:ByteArray)(lo d n0:Nat)(r:Rd):Prop:=lo≤r.j∧r.j≤s.size∧ltr r.w∧r.w.size=min r.n 61∧r.n≤n0+(r.j-lo)*9 ^ (8-d)
theorem pow9 (d:Nat):0<9 ^ d:=Nat.pow_pos (by omega)
theorem read_ok : ∀m:Nat,(∀(s:ByteArray) (i d:Nat) (w:ByteArray) (n:Nat) (r:Rd),itemsF m s i d w n=some (some r)→i≤s.size→d≤8→ltr w→w.size=min n 61→Okr s i d n r) ∧
    (∀(s:ByteArray) (i d:Nat) (r:Rd),itemF m s i d=some (some r)→i≤s.size→d≤8→Okr s i d 0 r∧i<r.j) ∧
    (∀(s:ByteArray) (i d:Nat) (r:Rd),groupF m s i d=some (some r)→i≤s.size→d≤8→Okr s i d 0 r∧i<r.j)
  | 0=>⟨fun s i d w n r h=>by simp [itemsF] at h,fun s i d r h=>by simp [itemF] at h,fun s i d r h=>by simp [groupF] at h⟩
  | m + 1 => by
    obtain ⟨hA,hB,hC⟩:=read_ok m
    refine ⟨fun s i d w n r h hi hd hw hn => ?_,fun s i d r h hi hd => ?_,fun s i d r h hi hd => ?_⟩
    · simp only [itemsF] at h
      split at h
      · split at h
        · rename_i r1 h1
          obtain ⟨⟨a1,a2,a3,a4,a5⟩,a6⟩:=hB s i d r1 h1 hi hd
          have hc:=hA s r1.j d _ _ r h a2 hd (cutW_ltr (ltr_app hw a3)) (by rw [cutW_size,size_app];omega)
          obtain ⟨b1,b2,b3,b4,b5⟩:=hc
          refine ⟨by omega,b2,b3,b4,?_⟩
          have e:(r.j-i)*9 ^ (8-d)=(r.j-r1.j)*9 ^ (8-d)+(r1.j-i)*9 ^ (8-d):=by rw [←Nat.add_mul];congr 1;omega
          omega
        · rename_i hne
          rw [h] at hne;exact absurd rfl (hne r)
      · cases h
        exact ⟨Nat.le_refl _,hi,hw,hn,by simp⟩
    · have p9 := pow9 (8-d)
      have key:∀(f:ByteArray→ByteArray),(∀w,(f w).size=w.size)→(∀w,ltr w→ltr (f w))→Rd.map f (itemF m s (i+1) d)=some (some r)→i<s.size→Okr s i d 0 r∧i<r.j:=by
        intro f f1 f2 h hlt
        unfold Rd.map at h
        split at h
        · rename_i r1 h1
          cases h
          obtain ⟨⟨a1,a2,a3,a4,a5⟩,a6⟩:=hB s (i+1) d r1 h1 hlt hd
          have e:(r1.j-i)*9 ^ (8-d)=(r1.j-(i+1))*9 ^ (8-d)+9 ^ (8-d):=by rw [show r1.j-i=(r1.j-(i+1))+1 by omega,Nat.add_mul];omega
          exact ⟨⟨by simp only;omega,a2,f2 _ a3,by simp only [f1];exact a4,by simp only;omega⟩,by simp only;omega⟩
        · rename_i hne
          exact absurd h (hne r)
      simp only [itemF] at h
      split at h
      · rename_i hlt
        split at h
        · rename_i hl
          cases h
          have e:(i+1-i)*9 ^ (8-d)=9 ^ (8-d):=by rw [show i+1-i=1 by omega,Nat.one_mul]
          exact ⟨⟨by simp only;omega,hlt,ltr_one hl,by simp only [oneC_size];omega,by simp only;omega⟩,by simp only;omega⟩
        · split at h
          · exact key inW (fun w=>by rw [inW,rvB_size,mp_size]) (fun w hw=>ltr_rv (ltr_opp hw)) h hlt
          · split at h
            · exact key moW (fun w=>mp_size) (fun w hw=>ltr_opp hw) h hlt
            · split at h
              · exact key flW (fun w=>mp_size) (fun w hw=>ltr_nei hw) h hlt
              · split at h
                · obtain ⟨⟨a1,a2,a3,a4,a5⟩,a6⟩:=hC s (i+1) d r h hlt hd
                  have e:(r.j-i)*9 ^ (8-d)=(r.j-(i+1))*9 ^ (8-d)+9 ^ (8-d):=by rw [show r.j-i=(r.j-(i+1))+1 by omega,Nat.add_mul];omega
                  exact ⟨⟨by omega,a2,a3,a4,by omega⟩,by omega⟩
                · cases h
      · cases h
    · simp only [groupF] at h
      split at h
      · cases h
      rename_i hd8
      unfold grpF at h
      split at h
      · rename_i r1 h1
        obtain ⟨a1,a2,a3,a4,a5⟩:=hA s i (d+1) _ 0 r1 h1 hi (by omega) ltr_nil rfl
        have p9:=pow9 (8-(d+1))
        have e9:9 ^ (8-d)=9*9 ^ (8-(d+1)):=by
          rw [show 8-d=(8-(d+1))+1 by omega,Nat.pow_succ,Nat.mul_comm]
        have base:r1.n≤(r1.j-i)*9 ^ (8-(d+1)):=by omega
        have up:∀k q:Nat,k≤9→k*r1.n≤(r1.j+q-i)*9 ^ (8-d):=by
          intro k q hk
          have h1:k*r1.n≤9*((r1.j-i)*9 ^ (8-(d+1))):=Nat.mul_le_mul hk base
          have h2:9*((r1.j-i)*9 ^ (8-(d+1)))=(r1.j-i)*9 ^ (8-d):=by rw [e9];simp only [Nat.mul_left_comm]
          have h3:(r1.j-i)*9 ^ (8-d)≤(r1.j+q-i)*9 ^ (8-d):=Nat.mul_le_mul_right _ (by omega)
          omega
        have sz:∀k:Nat,(cutW (rep r1.w k)).size=min (k*r1.n) 61:=by
          intro k
          rw [cutW_size,rep_size,a4]
          match k with
          | 0=>simp
          | k + 1 =>
            by_cases hq:r1.n≤61
            · rw [Nat.min_eq_left hq]
            · rw [Nat.min_eq_right (a:=r1.n) (b:=61) (by omega)]
              have h1:61≤(k+1)*61:=by omega
              have h2:(k+1)*61≤(k+1)*r1.n:=Nat.mul_le_mul_left _ (by omega)
              omega
        split at h
        · split at h
          · rename_i hj hdg
            cases h
            have hk:chT s (r1.j+1)-48≤9:=by omega
            have:=up _ 2 hk
            exact ⟨⟨by simp only;omega,by simp only;omega,cutW_ltr (ltr_rep a3 _),sz _,by simp only;omega⟩,by simp only;omega⟩
          · rename_i hj hdg
            cases h
            have:=up 1 1 (by omega)
            have e1:=sz 1
            rw [Nat.one_mul] at e1 this
            exact ⟨⟨by simp only;omega,by simp only;omega,cutW_ltr (ltr_rep a3 _),e1,by simp only;omega⟩,by simp only;omega⟩
        · cases h
      · rename_i hne
        exact absurd h (hne r)
end Go.Proofs.YtalejadhccgckaaDoor.Vm
