/- What simp knows of the machine. -/
import Derived.Test.YtgjlhdggllakbaaGreatDoorVmWp
set_option linter.unusedVariables false
set_option linter.unusedSimpArgs false
set_option linter.unusedSectionVars false
namespace Go.Proofs.YtgjlhdggllakbaaGreatDoor.Vm
open Go
def bH (l:List Int):List V:=l.map (V.int .i64)
theorem im (l:List Int):(bH l).length=l.length:=by simp [bH]
theorem FB {l:List Int}{i:Nat}(h:i<l.length):(bH l).getD i dv=.int .i64 (l.getD i 0):=by
 simp [bH,List.getD_eq_getElem?_getD,h]
theorem tL (l:List Int)(i:Nat):(bH l)[i]? = (l[i]?).map (V.int .i64):=by simp [bH]
theorem Ou {l:List Int}{i:Nat}(h:i<l.length):rd none (bH l) i=some (.int .i64 (l.getD i 0)):=by
 simp only [rd,im,h,if_true,FB h]
theorem ki {l:List Int}{n:Nat}(h:n=l.length):rd (some n) (bH l) 0=some (.agg (bH l)):=by
 subst h
 simp [rd,im]
 rw [List.take_of_length_le (by simp [im])]
theorem jJ {l:List Int}{i:Nat}{x:Int}(h:i<l.length):al (bH l) i [.int .i64 x]=bH (l.set i x):=by
 simp [al,bH,List.set_eq_take_append_cons_drop,h]
def zs (n:Nat):List Int:=List.replicate n 0
def zsV (n:Nat):List V:=List.replicate n (.int .i64 0)
theorem s9 (n:Nat):(zs n).length=n:=by simp [zs]
theorem Ml (n:Nat):zsV n=bH (zs n):=by simp [zs,zsV,bH]
theorem dF {l m:List Int}(h:m.length=l.length):al (bH l) 0 (bH m)=bH m:=by
 simp [al,bH,h]
attribute [simp] s9 Ml im dF ki
def rdO (g:Option Nat):Option (List V)->Nat->Option V
 | some cs,o=>rd g cs o
 | none,_=>none
def rdB (g:Option Nat):Option Blk->Nat->Option V
 | some (.row cs _),o=>rd g cs o
 | _,_=>none
theorem ae {n:Int}(h1 : -9223372036854775808<=n)(h2:n<=9223372036854775807):IntKind.wrap .i64 n=n:=by
 simp [IntKind.wrap,IntKind.bits,IntKind.signed];omega
theorem Qw (fr:Fr)(t s:Nat)(v:V):upd fr t v s=if s=t then v else fr s:=Eq.trans rfl rfl
def FL (T:Tbl)(lim:Nat)(d:Option Nat)(rest:List VOper)(K:St->Prop)(fr:Fr):V->Lo->Hp->Prop:=fun v L H=>jp T lim rest K ⟨dm fr d v,L,H⟩
def zZ (T:Tbl)(k:Nat)(d:Option Nat)(rest:List VOper)(acc:List (Nat×Nat))(K:St->Prop)(fr:Fr):V->Lo->Hp->Prop:=fun v L H=>fO T (k+1) rest acc K ⟨dm fr d v,L,H⟩
def Ms (K:V->Lo->Hp->Prop)(L:Lo):V->Hp->Prop:=fun v H=>K v L H
def ic (T:Tbl)(lim:Nat)(L:Lo)(H:Hp)(r:Option VNext)(K:V->Lo->Hp->Prop):Prop:=match r with
 | some (.val v L H)=>K v L H
 | some (.call f args)=>aF T lim f args H (Ms K L)
 | none=>False
def Er (T:Tbl)(lim:Nat)(b:Bool)(d:Option Nat)(op:VOp)(rest:List VOper)(K:St->Prop)(fr:Fr)(L:Lo)(H:Hp):Prop :=
 if b then ic T lim L H (ax lim fr L H op) (FL T lim d rest K fr) else jp T lim rest K ⟨dm fr d dv,L,H⟩
def nB (T:Tbl)(k:Nat)(b:Bool)(d:Option Nat)(op:VOp)(rest:List VOper)(acc:List (Nat×Nat))(K:St->Prop)(fr:Fr)(L:Lo)(H:Hp):Prop :=
 if b then ic T H.length L H (ax H.length fr L H op) (zZ T k d rest acc K fr) else fO T (k+1) rest acc K ⟨dm fr d dv,L,H⟩
def Qt (T:Tbl)(k:Nat)(r:Option (List (Nat×Nat)))(d:Option Nat)(op:VOp)(g:Option (Nat×Bool))(rest:List VOper)(K:St->Prop)(fr:Fr)(L:Lo)(H:Hp):Prop:=match r with
 | none=>False
 | some acc=>nB T k (wanted fr g) d op rest acc K fr L H
def vif (b:Bool)(v:V):V:=if b then v else dv
def Jb (b:Bool):Bool := !b
def au (T:Tbl)(lim:Nat)(b:Bool)(d:Option Nat)(r:Option VNext)(rest:List VOper)(K:St->Prop)(fr:Fr)(L:Lo)(H:Hp):Prop :=
 if b then ic T lim L H r (FL T lim d rest K fr) else jp T lim rest K ⟨dm fr d dv,L,H⟩
def ak (T:Tbl)(k:Nat)(b:Bool)(d:Option Nat)(r:Option VNext)(rest:List VOper)(acc:List (Nat×Nat))(K:St->Prop)(fr:Fr)(L:Lo)(H:Hp):Prop :=
 if b then ic T H.length L H r (zZ T k d rest acc K fr) else fO T (k+1) rest acc K ⟨dm fr d dv,L,H⟩
def tT (T:Tbl)(lim:Nat)(v:V)(a b:VCode)(Q:VExit->St->Prop)(s:St):Prop:=match v with
 | .bool true=>bx T lim a Q s
 | .bool false=>bx T lim b Q s
 | _=>False
def Ru (r:Option V)(K:V->Hp->Prop)(H:Hp):Prop:=match r with
 | some v=>K v H
 | none=>False
section
variable {T:Tbl}{lim:Nat}{Q:VExit->St->Prop}{s:St}{K:St->Prop}{fr:Fr}{L:Lo}{H:Hp}{d:Option Nat}{op:VOp}{g:Option (Nat×Bool)}{l:List Nat}{rest:List VOper}{k:Nat}{acc:List (Nat×Nat)}
theorem Oj {v:V}:FL T lim d rest K fr v L H=jp T lim rest K ⟨dm fr d v,L,H⟩:=Eq.trans rfl rfl
theorem KH {v:V}:zZ T k d rest acc K fr v L H=fO T (k+1) rest acc K ⟨dm fr d v,L,H⟩:=Eq.trans rfl rfl
theorem Iz {K:V->Lo->Hp->Prop}{v:V}:Ms K L v H=K v L H:=Eq.trans rfl rfl
theorem G9 {L':Lo}{H':Hp}{v:V}{K:V->Lo->Hp->Prop}:ic T lim L H (some (.val v L' H')) K=K v L' H':=Eq.trans rfl rfl
theorem CW {f:FuncId}{args:List V}{K:V->Lo->Hp->Prop}:ic T lim L H (some (.call f args)) K=aF T lim f args H (Ms K L):=Eq.trans rfl rfl
theorem Bc:Er T lim true d op rest K fr L H=ic T lim L H (ax lim fr L H op) (FL T lim d rest K fr):=Eq.trans rfl rfl
theorem wK:Er T lim false d op rest K fr L H=jp T lim rest K ⟨dm fr d dv,L,H⟩:=Eq.trans rfl rfl
theorem zT:nB T k true d op rest acc K fr L H=ic T H.length L H (ax H.length fr L H op) (zZ T k d rest acc K fr):=Eq.trans rfl rfl
theorem uz:nB T k false d op rest acc K fr L H=fO T (k+1) rest acc K ⟨dm fr d dv,L,H⟩:=Eq.trans rfl rfl
theorem xb {b:Bool}:Er T lim b d op rest K fr L H=au T lim b d (ax lim fr L H op) rest K fr L H:=Eq.trans rfl rfl
theorem yY {r:Option VNext}:au T lim true d r rest K fr L H=ic T lim L H r (FL T lim d rest K fr):=Eq.trans rfl rfl
theorem wi {r:Option VNext}:au T lim false d r rest K fr L H=jp T lim rest K ⟨dm fr d dv,L,H⟩:=Eq.trans rfl rfl
theorem Av {b:Bool}{v:V}:au T lim b d (some (.val v L H)) rest K fr L H=jp T lim rest K ⟨dm fr d (vif b v),L,H⟩:=by cases b<;>rfl
theorem wH {b:Bool}:nB T k b d op rest acc K fr L H=ak T k b d (ax H.length fr L H op) rest acc K fr L H:=Eq.trans rfl rfl
theorem uE {r:Option VNext}:ak T k true d r rest acc K fr L H=ic T H.length L H r (zZ T k d rest acc K fr):=Eq.trans rfl rfl
theorem sJ {r:Option VNext}:ak T k false d r rest acc K fr L H=fO T (k+1) rest acc K ⟨dm fr d dv,L,H⟩:=Eq.trans rfl rfl
theorem xF {b:Bool}{v:V}:ak T k b d (some (.val v L H)) rest acc K fr L H=fO T (k+1) rest acc K ⟨dm fr d (vif b v),L,H⟩:=by cases b<;>rfl
theorem FQ:Qt T k (some acc) d op g rest K fr L H=nB T k (wanted fr g) d op rest acc K fr L H:=Eq.trans rfl rfl
theorem AC {a b:VCode}:tT T lim (.bool true) a b Q s=bx T lim a Q s:=Eq.trans rfl rfl
theorem zx {a b:VCode}:tT T lim (.bool false) a b Q s=bx T lim b Q s:=Eq.trans rfl rfl
theorem ER {v:V}{K:V->Hp->Prop}:Ru (some v) K H=K v H:=Eq.trans rfl rfl
theorem IJ:jp T lim [] K s=K s:=Eq.trans rfl rfl
theorem HO:jp T lim (⟨d,op,g,l⟩ :: rest) K ⟨fr,L,H⟩=Er T lim (wanted fr g) d op rest K fr L H:=Eq.trans rfl rfl
theorem E5:fO T k [] acc K s=K s:=Eq.trans rfl rfl
theorem A3:fO T k (⟨d,op,g,l⟩ :: rest) acc K ⟨fr,L,H⟩=Qt T k (mY ⟨d,op,g,l⟩ k ⟨fr,L,H⟩ acc) d op g rest K fr L H:=by
 simp only [fO,Qt,nB,ic,si]
 rfl
theorem BB:bx T lim .skip Q s=Q .normal s:=Eq.trans rfl rfl
theorem EJ {ops:List VOper}:bx T lim (.reg ops) Q s=jp T lim ops (Q .normal) s:=Eq.trans rfl rfl
theorem Au {h t:List VOper}:bx T lim (.draw h t) Q s=fO T 0 h [] (jp T lim t (Q .normal)) s:=Eq.trans rfl rfl
theorem Hk {a b:VCode}:bx T lim (.seq a b) Q s=bx T lim a (kV (bx T lim b Q) Q) s:=Eq.trans rfl rfl
theorem yZ {id:Nat}{b:VCode}:bx T lim (.block id b) Q s=bx T lim b (iC id Q) s:=Eq.trans rfl rfl
theorem wR {b:VCode}:bx T lim (.scope b) Q s=bx T lim b Q s:=Eq.trans rfl rfl
theorem CF {id:Nat}:bx T lim (.exit id) Q s=Q (.exit id) s:=Eq.trans rfl rfl
theorem FC:bx T lim .ret Q s=Q .ret s:=Eq.trans rfl rfl
theorem AR {c:Opd}{a b:VCode}:bx T lim (.cond c a b) Q ⟨fr,L,H⟩=tT T lim (opd fr c) a b Q ⟨fr,L,H⟩:=Eq.trans rfl rfl
theorem km {Q:VExit->St->Prop}:kV K Q .normal s=K s:=Eq.trans rfl rfl
theorem EK {Q:VExit->St->Prop}{id:Nat}:kV K Q (.exit id) s=Q (.exit id) s:=Eq.trans rfl rfl
theorem K1 {Q:VExit->St->Prop}:kV K Q .ret s=Q .ret s:=Eq.trans rfl rfl
theorem sj {id:Nat}:iC id Q .normal s=Q .normal s:=Eq.trans rfl rfl
theorem BM {id:Nat}:iC id Q .ret s=Q .ret s:=Eq.trans rfl rfl
theorem HI {id:Nat}:iC id Q (.exit id) s=Q .normal s:=by simp [iC]
theorem Hs {id id':Nat}(h:id'≠id):iC id Q (.exit id') s=Q (.exit id') s:=by simp [iC,h]
theorem BT {rs:List VRes}{K:V->Hp->Prop}:fnQ rs K .normal ⟨fr,L,H⟩=Ru (wd rs fr L H) K H:=Eq.trans rfl rfl
theorem MD {rs:List VRes}{K:V->Hp->Prop}:fnQ rs K .ret ⟨fr,L,H⟩=Ru (wd rs fr L H) K H:=Eq.trans rfl rfl
end
theorem FP (fr:Fr)(v:V):dm fr none v=fr:=Eq.trans rfl rfl
theorem HH (fr:Fr)(t:Nat)(v:V):dm fr (some t) v=upd fr t v:=Eq.trans rfl rfl
theorem Cs {L:Lo}{H:Hp}{v:V}:af L H (some v)=some (.val v L H):=Eq.trans rfl rfl
section
variable {k:IntKind}{a b:Int}{x y:ByteArray}
theorem Iw:bU .add (.int k a) (.int k b)=some (.int k (k.wrap (a+b))):=by simp [dL,bU]
theorem Me:bU .sub (.int k a) (.int k b)=some (.int k (k.wrap (a-b))):=by simp [dL,bU]
theorem Ju:bU .mul (.int k a) (.int k b)=some (.int k (k.wrap (a*b))):=by simp [dL,bU]
theorem KI (h:b≠0):bU .quo (.int k a) (.int k b)=some (.int k (k.wrap (a.tdiv b))):=by simp [dL,bU,h]
theorem gx (h:b≠0):bU .rem (.int k a) (.int k b)=some (.int k (a.tmod b)):=by simp [dL,bU,h]
theorem Ku:bU .eql (.int k a) (.int k b)=some (.bool (decide (a=b))):=by simp [dL,bU];rfl
theorem Jm:bU .neq (.int k a) (.int k b)=some (.bool (!decide (a=b))):=by simp [dL,bU];rfl
theorem L7:bU .lss (.int k a) (.int k b)=some (.bool (decide (a<b))):=by simp [dL,bU]
theorem JP:bU .leq (.int k a) (.int k b)=some (.bool (decide (a<=b))):=by simp [dL,bU]
theorem IL:bU .gtr (.int k a) (.int k b)=some (.bool (decide (b<a))):=by simp [dL,bU]
theorem IR:bU .geq (.int k a) (.int k b)=some (.bool (decide (b<=a))):=by simp [dL,bU]
theorem Lz {k:IntKind}{a b:Int}:bU .and (.int k a) (.int k b)=some (.int k (k.wrap (BitVec.ofInt k.bits a &&& BitVec.ofInt k.bits b).toNat)):=by simp [dL,bU]
theorem xg {k:IntKind}{a b:Int}:bU .xor (.int k a) (.int k b)=some (.int k (k.wrap (BitVec.ofInt k.bits a ^^^ BitVec.ofInt k.bits b).toNat)):=by simp [dL,bU]
theorem IU:eK (.int k a)=some a:=Eq.trans rfl rfl
theorem F2 {o i p:Nat}:ct o (.lp i p)=some (.lp i (p+o)):=Eq.trans rfl rfl
theorem Ct {o i p:Nat}:ct o (.ptr i p)=some (.ptr i (p+o)):=Eq.trans rfl rfl
theorem Aw {len sz:Nat}{v:V}(h:0<=a/\a<len):bV len sz v (.int k a)=ct (a.toNat*sz) v:=by simp [bV,eK,h]
theorem ah {o i n sz:Nat}(h:0<=a/\a<n):aQ sz (.sl i o n sz) (.int k a)=some (.ptr i (o+a.toNat*sz)):=by simp [aQ,eK,h]
theorem Fa {g:Option Nat}{L:Lo}{H:Hp}{i o:Nat}:aW g L H (.lp i o)=rdO g L[i]? o:=by
 simp only [aW];cases L[i]? <;> rfl
theorem ag {g:Option Nat}{L:Lo}{H:Hp}{i o:Nat}:aW g L H (.ptr i o)=rdB g H[i]? o:=by
 simp only [aW];rcases H[i]? with _ | (_ | _)<;>rfl
theorem LI {g:Option Nat}{o:Nat}{cs:List V}:rdO g (some cs) o=rd g cs o:=Eq.trans rfl rfl
theorem Oc {g:Option Nat}{o:Nat}{cs:List V}{own:Bool}:rdB g (some (.row cs own)) o=rd g cs o:=Eq.trans rfl rfl
theorem bX {g:Option Nat}{L:Lo}{H:Hp}{i o:Nat}{cs:List V}{own:Bool}(h:H[i]? = some (.row cs own)):aW g L H (.ptr i o)=rd g cs o:=by simp [aW,h]
end
def jz:V->V->Option V
 | .int k a,.int _ b=>some (.int k (if b>a then b else a))
 | _,_=>none
def jf:V->V->Option V
 | .int k a,.int _ b=>some (.int k (if b<a then b else a))
 | _,_=>none
def cV:V->V->V->Option V
 | .bool t,a,b=>some (if t then a else b)
 | _,_,_=>none
def jE (neg:Bool):V->V->Option V
 | .bool a,.bool b=>some (.bool (if neg then !(a==b) else a==b))
 | _,_=>none
def ig (neg:Bool) (ks:List CK):V→V→Option V
 | .agg xs,.agg ys=>match aN ks xs ys with
   | some b=>some (.bool (if neg then !b else b))
   | none=>none
 | _,_=>none
def N9 (b:Bool)(cs:List V)(L:Lo)(H:Hp):Option VNext :=
 if b then some (.val (.lp L.length 0) (L++[cs]) H) else some (.val (.ptr H.length 0) L (H++[.row cs true]))
def IX (L:Lo)(H:Hp):Option (List V)->Option VNext
 | some cs=>some (.val (.agg cs) L H)
 | none=>none
def DR (sz len:Nat)(L:Lo)(H:Hp):Option (List V)->Option VNext
 | some cs=>some (.val (.sl H.length 0 len sz) L (H++[.row cs true]))
 | none=>none
def Nj (sz bytes:Nat)(z:List V)(L:Lo)(H:Hp):V->V->Option VNext
 | .int _ n,.int _ m=>if n=m/\0<=n/\n.toNat*bytes<=16777216/\n<=16777216 then some (.val (.sl H.length 0 n.toNat sz) L (H++[.row (cE n.toNat z) true])) else none
 | _,_=>none
def vst:Option (Lo×Hp)->Option VNext
 | some (L,H)=>some (.val dv L H)
 | none=>none
def vvh (L:Lo):Option (V×Hp)->Option VNext
 | some (v,H)=>some (.val v L H)
 | none=>none
def vgo (b:Bool)(f:FuncId)(vs:List V):Option VNext:=if b then some (.call f vs) else none
section
variable {lim:Nat}{fr:Fr}{L:Lo}{H:Hp}
theorem EI {x:Opd}:ax lim fr L H (.move x)=some (.val (opd fr x) L H):=Eq.trans rfl rfl
theorem FM {c a b:Opd}:ax lim fr L H (.pick c a b)=af L H (cV (opd fr c) (opd fr a) (opd fr b)):=by
 simp only [ax];cases opd fr c<;>rfl
theorem Ih {b:Bool}{z:List V}:ax lim fr L H (.new b z)=N9 b z L H:=Eq.trans rfl rfl
theorem JS {b:Bool}{x:Opd}:ax lim fr L H (.box b x)=if stor (opd fr x) then N9 b (aJ (opd fr x)) L H else none:=Eq.trans rfl rfl
theorem AQ {z:List V}{ps:List (Nat×Nat×Opd)}:ax lim fr L H (.build z ps)=IX L H (j6 z (lZ fr ps)):=by
 simp only [ax];cases j6 z (lZ fr ps)<;>rfl
theorem xm {sz n:Nat}{z:List V}{ps:List (Nat×Nat×Opd)}:ax lim fr L H (.bslice sz n z ps)=DR sz n L H (j6 z (lZ fr ps)):=by
 simp only [ax];cases j6 z (lZ fr ps)<;>rfl
theorem KL {sz b:Nat}{z:List V}{x y:Opd}:ax lim fr L H (.mks sz b z x y)=Nj sz b z L H (opd fr x) (opd fr y):=by
 simp only [ax];cases opd fr x<;>cases opd fr y<;>rfl
theorem yP {b:Nat}{n:Nat}(h:n*b<=16777216/\n<=16777216):Nj 1 b [.int .i64 0] L H (.int .i64 n) (.int .i64 n)=some (.val (.sl H.length 0 n 1) L (H++[.row (bH (zs n)) true])):=by
 have e:cE n [V.int .i64 0]=bH (zs n):=by simp [cE,zs,bH]
 have h2:(n:Int)<=16777216:=by omega
 simp [Nj,h.1,h2,e]
theorem GB {g:Option Nat}{a:Opd}:ax lim fr L H (.load g a)=af L H (aW g L H (opd fr a)):=Eq.trans rfl rfl
theorem Bd {n:Nat}{a x:Opd}:ax lim fr L H (.store n a x)=vst (aD lim L H (opd fr a) (opd fr x) n):=by
 simp only [ax];cases aD lim L H (opd fr a) (opd fr x) n<;>rfl
theorem Ko {op:BinOp}{x y:Opd}:ax lim fr L H (.bin op x y)=af L H (bU op (opd fr x) (opd fr y)):=Eq.trans rfl rfl
theorem Kb {n:Bool}{x y:Opd}:ax lim fr L H (.eqB n x y)=af L H (jE n (opd fr x) (opd fr y)):=by
 simp only [ax];cases opd fr x<;>cases opd fr y<;>rfl
theorem Mq {n:Bool}{ks:List CK}{x y:Opd}:ax lim fr L H (.eqA n ks x y)=af L H (ig n ks (opd fr x) (opd fr y)):=by
 simp only [ax]
 cases opd fr x<;>cases opd fr y<;>first | rfl | (rename_i xs ys;simp only [ig];cases aN ks xs ys<;>rfl)
theorem M1 {op:UnOp}{x:Opd}:ax lim fr L H (.un op x)=af L H (vun op (opd fr x)):=Eq.trans rfl rfl
theorem B7 {o:Nat}{x:Opd}:ax lim fr L H (.faddr o x)=af L H (ct o (opd fr x)):=Eq.trans rfl rfl
theorem zP {n z:Nat}{x i:Opd}:ax lim fr L H (.iaddrA n z x i)=af L H (bV n z (opd fr x) (opd fr i)):=Eq.trans rfl rfl
theorem xp {z:Nat}{x i:Opd}:ax lim fr L H (.iaddrS z x i)=af L H (aQ z (opd fr x) (opd fr i)):=Eq.trans rfl rfl
theorem EU {n z:Nat}{g:Option Nat}{x i:Opd}:ax lim fr L H (.idxA n z g x i)=af L H (eG n z g (opd fr x) (opd fr i)):=Eq.trans rfl rfl
theorem F9 {x i:Opd}:ax lim fr L H (.idxT x i)=af L H (dV (opd fr x) (opd fr i)):=Eq.trans rfl rfl
theorem Ar {n:Nat}{g:Option Nat}{x:Opd}:ax lim fr L H (.field n g x)=af L H (fj n g (opd fr x)):=Eq.trans rfl rfl
theorem EV {n:Nat}{x:Opd}:ax lim fr L H (.ext x n)=af L H (pu n (opd fr x)):=Eq.trans rfl rfl
theorem Eu {k:IntKind}{x:Opd}:ax lim fr L H (.conv k x)=af L H (jG k (opd fr x)):=Eq.trans rfl rfl
theorem Jn {n z:Nat}{x:Opd}{lo hi:Option Opd}:ax lim fr L H (.slA n z x lo hi)=af L H (HW n z H (opd fr x) (dc fr lo) (dc fr hi)):=Eq.trans rfl rfl
theorem L9 {z:Nat}{x:Opd}{lo hi:Option Opd}:ax lim fr L H (.slS z x lo hi)=af L H (zV z (opd fr x) (dc fr lo) (dc fr hi)):=Eq.trans rfl rfl
theorem JO {x:Opd}{lo hi:Option Opd}:ax lim fr L H (.slT x lo hi)=af L H (AX (opd fr x) (dc fr lo) (dc fr hi)):=Eq.trans rfl rfl
theorem E6 {f:FuncId}{xs:List Opd}:ax lim fr L H (.call f xs)=vgo (bg (cw fr xs)) f (cw fr xs):=Eq.trans rfl rfl
theorem GG {x:Opd}:ax lim fr L H (.lenS x)=af L H (bD (opd fr x)):=Eq.trans rfl rfl
theorem HN {x:Opd}:ax lim fr L H (.lenT x)=af L H (jH (opd fr x)):=Eq.trans rfl rfl
theorem E8 {n:Nat}:ax lim fr L H (.lenA n)=some (.val (.int .i64 n) L H):=Eq.trans rfl rfl
theorem zf {z b:Nat}{x y:Opd}:ax lim fr L H (.append z b x y)=vvh L (aP lim z b H (opd fr x) (opd fr y)):=by
 simp only [ax];cases aP lim z b H (opd fr x) (opd fr y)<;>rfl
theorem Gc {z:Nat}{x y:Opd}:ax lim fr L H (.copy z x y)=vvh L (sU lim z H (opd fr x) (opd fr y)):=by
 simp only [ax];cases sU lim z H (opd fr x) (opd fr y)<;>rfl
theorem F5 {x y:Opd}:ax lim fr L H (.max2 x y)=af L H (jz (opd fr x) (opd fr y)):=by
 simp only [ax];cases opd fr x<;>cases opd fr y<;>rfl
theorem Hg {x y:Opd}:ax lim fr L H (.min2 x y)=af L H (jf (opd fr x) (opd fr y)):=by
 simp only [ax];cases opd fr x<;>cases opd fr y<;>rfl
def Rg (b:Bool):Option (FuncId×List V)->Option VNext
 | some (f,vs)=>if b then some (.call f vs) else none
 | none=>none
def R3 (b:Bool)(f:FuncId)(fs cs:List V)(L:Lo)(H:Hp):Option VNext:=if b then some (.val (.func (.func f) fs cs) L H) else none
def PZ (L:Lo):Option Hp->Option VNext
 | some H=>some (.val dv L H)
 | none=>none
theorem E7 {x y z:Opd}:ax lim fr L H (.max3 x y z)=af L H (Ek (opd fr x) (opd fr y) (opd fr z)):=Eq.trans rfl rfl
theorem G2 {x y z:Opd}:ax lim fr L H (.min3 x y z)=af L H (DL (opd fr x) (opd fr y) (opd fr z)):=Eq.trans rfl rfl
def Ks (L:Lo)(H:Hp):V->Option VNext
 | .str s=>some (.val (.sl H.length 0 s.size 1) L (H++[.row (jd s) true]))
 | _=>none
theorem A5 {x:Opd}:ax lim fr L H (.bytes x)=Ks L H (opd fr x):=Eq.trans rfl rfl
theorem Cv {s:ByteArray}:Ks L H (.str s)=some (.val (.sl H.length 0 s.size 1) L (H++[.row (jd s) true])):=Eq.trans rfl rfl
theorem QG {k:XOp}{xs:List Opd}:ax lim fr L H (.x k xs)=vvh L (evX lim H k (cw fr xs)):=by
 simp only [ax];cases evX lim H k (cw fr xs)<;>rfl
theorem NZ:evX lim H .mkm []=some (.mp H.length,H++[.map []]):=Eq.trans rfl rfl
theorem Js {g ok:Bool}{ks:List CK}{z x k:V}:evX lim H (.mget g ks ok z) [x,k]=da H (fm g ks ok z H x k):=Eq.trans rfl rfl
theorem Mh {g:Bool}{ks:List CK}{x k u:V}:evX lim H (.mput g ks) [x,k,u]=nd (gF lim g ks H x k u):=Eq.trans rfl rfl
theorem KV {g:Bool}{ks:List CK}{z x k:V}:evX lim H (.ment g ks z) [x,k]=jI lim g ks z H x k:=Eq.trans rfl rfl
theorem Og {x:V}:evX lim H .rgS [x]=lC H x:=Eq.trans rfl rfl
theorem CE {s:ByteArray}:lC H (.str s)=some (.it H.length,H++[.sit s 0]):=Eq.trans rfl rfl
theorem Nb {x:V}:evX lim H .nxS [x]=sW lim H x:=Eq.trans rfl rfl
theorem HV {x:V}:evX lim H .strB [x]=da H (sY H x):=Eq.trans rfl rfl
theorem HE {n:Bool}{x:V}:evX lim H (.inilT n) [x]=da H (pS n x):=Eq.trans rfl rfl
theorem A4 {n:Bool}:pS n .inil=some (.bool (!n)):=Eq.trans rfl rfl
theorem Gb {n:Bool}{t:TypeId}{v:V}:pS n (.iface t v)=some (.bool n):=Eq.trans rfl rfl
theorem Jy {x:V}:evX lim H .strR [x]=da H (D1 x):=Eq.trans rfl rfl
theorem Gn {k:IntKind}{n:Int}:D1 (.int k n)=some (.str (Utf8.encode n)):=Eq.trans rfl rfl
theorem Qf {x:V}:evX lim H .wk [x]=da H (vwk x):=Eq.trans rfl rfl
theorem HB {x:V}:evX lim H .strRs [x]=da H (vp H x):=Eq.trans rfl rfl
theorem Jh {x n u:V}:evX lim H .mest [x,n,u]=nd (pi lim H x n u):=Eq.trans rfl rfl
theorem LS {x:V}:evX lim H .lenM [x]=da H (KU H x):=Eq.trans rfl rfl
theorem LP {z:Nat}{x:V}:evX lim H (.slC z false false) [x]=da H (iE z x none none):=Eq.trans rfl rfl
theorem Mu {z:Nat}{x l:V}:evX lim H (.slC z true false) [x,l]=da H (iE z x (some l) none):=Eq.trans rfl rfl
theorem Jd {z:Nat}{x h:V}:evX lim H (.slC z false true) [x,h]=da H (iE z x none (some h)):=Eq.trans rfl rfl
theorem Jx {z:Nat}{x l h:V}:evX lim H (.slC z true true) [x,l,h]=da H (iE z x (some l) (some h)):=Eq.trans rfl rfl
theorem NJ {wk:Bool}{z b:Nat}{x y:V}:evX lim H (.apc wk z b) [x,y]=mH wk lim z b H x y:=Eq.trans rfl rfl
theorem Nl:evX lim H .bs0 []=some (.szero,H):=Eq.trans rfl rfl
theorem Ps {z b:Nat}{x y:V}:evX lim H (.ap0 z b) [x,y]=uc z b H x y:=Eq.trans rfl rfl
theorem Im {x:V}:evX lim H .capN [x]=da H (DV x):=Eq.trans rfl rfl
theorem N7 {z b:Nat}{zs:List V}{x n:V}:evX lim H (.apz z b zs) [x,n]=tE z b zs H x n:=Eq.trans rfl rfl
theorem JK {vs:List V}:evX lim H .maxL vs=da H (xM vs):=Eq.trans rfl rfl
theorem GD {k:IntKind}{a b c d:Int}:xM [.int k a,.int k b,.int k c,.int k d]=some (.int k (max (max (max a b) c) d)):=Eq.trans rfl rfl
theorem GR:DV .snil=some (.int .i64 0):=Eq.trans rfl rfl
attribute [simp] JK GD Nl Ps Im N7 GR
theorem GY {v:V}:da H (some v)=some (v,H):=Eq.trans rfl rfl
theorem Fd:nd (some H)=some (dv,H):=Eq.trans rfl rfl
theorem Ez {x:Opd}:ax lim fr L H (.nilc x)=af L H (sZ (opd fr x)):=Eq.trans rfl rfl
theorem Mb {f:FuncId}{fs cs:List Opd}:ax lim fr L H (.mkf f fs cs)=R3 (bg (cw fr fs)&&bg (cw fr cs)) f (cw fr fs) (cw fr cs) L H:=Eq.trans rfl rfl
theorem B8 {x:Opd}{xs:List Opd}:ax lim fr L H (.callV x xs)=Rg (bg (cw fr xs)) (jD (opd fr x) (cw fr xs)):=by
 simp only [ax,Rg]
 cases jD (opd fr x) (cw fr xs)<;>cases bg (cw fr xs)<;>rfl
theorem Jt {z:Nat}{zs:List V}{x:Opd}:ax lim fr L H (.clr z zs x)=PZ L (wj lim z zs H (opd fr x)):=by
 simp only [ax];cases wj lim z zs H (opd fr x)<;>rfl
theorem G5 {z:Nat}{x m:Opd}{lo hi:Option Opd}:ax lim fr L H (.slS3 z x lo hi m)=af L H (sT z (opd fr x) (dc fr lo) (dc fr hi) (opd fr m)):=Eq.trans rfl rfl
theorem Ij {n:Bool}{x:Opd}:ax lim fr L H (.eqN n x)=af L H (Fh n (opd fr x)):=Eq.trans rfl rfl
theorem Hu {k:IntKind}{a b c:Int}:Ek (.int k a) (.int k b) (.int k c)=some (.int k (max (max a b) c)):=Eq.trans rfl rfl
theorem Gk {k:IntKind}{a b c:Int}:DL (.int k a) (.int k b) (.int k c)=some (.int k (min (min a b) c)):=Eq.trans rfl rfl
theorem F7 {b o:Nat}:sZ (.ptr b o)=some (.ptr b o):=Eq.trans rfl rfl
theorem Mm {b o:Nat}:sZ (.lp b o)=some (.lp b o):=Eq.trans rfl rfl
theorem De {f:FuncId}{fs cs:List V}:sZ (.func (.func f) fs cs)=some (.func (.func f) fs cs):=Eq.trans rfl rfl
theorem FZ {f:FuncId}{vs:List V}:Rg true (some (f,vs))=some (.call f vs):=Eq.trans rfl rfl
theorem Hv {f:FuncId}{fs cs:List V}:R3 true f fs cs L H=some (.val (.func (.func f) fs cs) L H):=Eq.trans rfl rfl
theorem CX:PZ L (some H)=some (.val dv L H):=Eq.trans rfl rfl
theorem ug {f:FuncId}{fs cs xs:List V}:jD (.func (.func f) fs cs) xs=if f=3999999 then none else some (f,fs++xs++cs):=Eq.trans rfl rfl
theorem C5 {b:Nat}{xs:List V}:jD (.yl b) xs=some (3999999,.yl b :: xs):=Eq.trans rfl rfl
theorem JX {n:Bool}:Fh n .snil=some (.bool (if n then false else true)):=by cases n<;>rfl
theorem NG {n:Bool}{b o l z:Nat}:Fh n (.sl b o l z)=some (.bool n):=by cases n<;>rfl
theorem Dc {n:Bool}:Fh n .sempty=some (.bool n):=by cases n<;>rfl
theorem JC {cs:List V}:N9 true cs L H=some (.val (.lp L.length 0) (L++[cs]) H):=Eq.trans rfl rfl
theorem He {cs:List V}:N9 false cs L H=some (.val (.ptr H.length 0) L (H++[.row cs true])):=Eq.trans rfl rfl
theorem xG {cs:List V}:IX L H (some cs)=some (.val (.agg cs) L H):=Eq.trans rfl rfl
theorem uB {sz n:Nat}{cs:List V}:DR sz n L H (some cs)=some (.val (.sl H.length 0 n sz) L (H++[.row cs true])):=Eq.trans rfl rfl
theorem I1 {L:Lo}{H:Hp}:vst (some (L,H))=some (.val dv L H):=Eq.trans rfl rfl
theorem Ia {L:Lo}{H:Hp}{v:V}:vvh L (some (v,H))=some (.val v L H):=Eq.trans rfl rfl
theorem Je {f:FuncId}{vs:List V}:vgo true f vs=some (.call f vs):=Eq.trans rfl rfl
theorem Cd {a b:V}:cV (.bool true) a b=some a:=Eq.trans rfl rfl
theorem xU {a b:V}:cV (.bool false) a b=some b:=Eq.trans rfl rfl
theorem Jz {v:V}:vif true v=v:=Eq.trans rfl rfl
theorem E3 {v:V}:vif false v=dv:=Eq.trans rfl rfl
theorem Fg:Jb true=false:=Eq.trans rfl rfl
theorem BV:Jb false=true:=Eq.trans rfl rfl
theorem Ff {t b:Bool}:cV (.bool t) (.bool true) (vif (Jb t) (.bool b))=some (.bool (t||b)):=by cases t<;>rfl
theorem CU {t b:Bool}:cV (.bool t) (vif t (.bool b)) (.bool false)=some (.bool (t&&b)):=by cases t<;>rfl
theorem Jg {t:Bool}{b:Bool}:cV (.bool t) (.bool true) (.bool b)=some (.bool (t||b)):=by cases t<;>rfl
theorem F1 {t:Bool}{b:Bool}:cV (.bool t) (.bool b) (.bool false)=some (.bool (t&&b)):=by cases t<;>rfl
theorem EW {a b:Bool}:jE false (.bool a) (.bool b)=some (.bool (a==b)):=Eq.trans rfl rfl
theorem Bv {a b:Bool}:jE true (.bool a) (.bool b)=some (.bool (!(a==b))):=Eq.trans rfl rfl
theorem I2 {k:IntKind}{a b:Int}:jz (.int k a) (.int k b)=some (.int k (max a b)):=by
 simp only [jz];congr 2;split<;>omega
theorem IQ {k:IntKind}{a b:Int}:jf (.int k a) (.int k b)=some (.int k (min a b)):=by
 simp only [jf];congr 2;split<;>omega
theorem Ii {n:Nat}{vs:List V}:pu n (.tup vs)=vs[n]? := Eq.trans rfl rfl
theorem NF {k:IntKind}{n:Int}:vun .neg (.int k n)=some (.int k (k.wrap (0-n))):=Eq.trans rfl rfl
theorem Po {b:Bool}:vun .not (.bool b)=some (.bool !b):=Eq.trans rfl rfl
theorem EF:bD .snil=some (.int .i64 0):=Eq.trans rfl rfl
theorem xP:bD .sempty=some (.int .i64 0):=Eq.trans rfl rfl
theorem Ky {b o n z:Nat}:bD (.sl b o n z)=some (.int .i64 n):=Eq.trans rfl rfl
theorem E1 {b o n z c:Nat}:bD (.slc b o n z c)=some (.int .i64 n):=Eq.trans rfl rfl
attribute [simp] E1
theorem Ap {n:Nat}{g:Option Nat}{cs:List V}:fj n g (.agg cs)=rd g cs n:=Eq.trans rfl rfl
theorem KN {n z:Nat}{g:Option Nat}{v:V}{k:IntKind}{i:Int}(h:0<=i/\i<n):eG n z g v (.int k i)=fj (i.toNat*z) g v:=by simp [eG,eK,h]
theorem FK {k k':IntKind}{i:Int}:jG k (.int k' i)=some (.int k (k.wrap i)):=Eq.trans rfl rfl
end
attribute [simp ↓] IJ HO E5 A3 BB EJ Au Hk yZ wR CF FC AR
 km EK K1 sj BM HI Hs BT MD Oj KH Iz Bc wK zT uz yY wi uE sJ
attribute [simp] xb wH Av xF Jz E3 Fg BV Ff CU
attribute [simp] G9 CW FQ AC zx ER FP HH Cs
 Iw Me Ju KI gx Ku Jm L7 JP IL IR IU F2 Ct Aw ah Fa ag LI Oc
attribute [simp] EI FM Ih JS AQ xm KL yP GB Bd Ko Kb Mq M1 B7 zP xp EU F9 Ar EV Eu Jn L9 JO E6 GG HN E8 zf Gc F5 Hg JC He xG uB I1 Ia Je Cd xU Jg F1 EW Bv I2 IQ Ii NF Po EF xP Ky Ap KN FK
theorem RA {fr:Fr}{n:Nat}:opd fr (.t n)=fr n:=Eq.trans rfl rfl
theorem R6 {fr:Fr}{v:V}:opd fr (.c v)=v:=Eq.trans rfl rfl
theorem yW {fr:Fr}:wanted fr none=true:=Eq.trans rfl rfl
def y7 (want:Bool):V->Bool
 | .bool b=>b==want
 | _=>false
theorem xi {fr:Fr}{s:Nat}{b:Bool}:wanted fr (some (s,b))=y7 b (fr s):=Eq.trans rfl rfl
theorem BL {b:Bool}:y7 true (.bool b)=b:=by cases b<;>rfl
theorem yR {b:Bool}:y7 false (.bool b)=Jb b:=by cases b<;>rfl
attribute [simp] RA R6 yW xi BL yR
attribute [simp] cw lZ dc Qw mY nT nY bg wd tA GS aD j6
theorem F0 {b:Bool}:stor (.bool b)=true:=Eq.trans rfl rfl
theorem ze {b:Bool}:aJ (.bool b)=[.bool b]:=Eq.trans rfl rfl
theorem Mg {k:IntKind}{n:Int}:stor (.int k n)=true:=Eq.trans rfl rfl
theorem Bj {k:IntKind}{n:Int}:aJ (.int k n)=[.int k n]:=Eq.trans rfl rfl
theorem KS {x:ByteArray}:stor (.str x)=true:=Eq.trans rfl rfl
theorem Bh {x:ByteArray}:aJ (.str x)=[.str x]:=Eq.trans rfl rfl
theorem Hl  : stor (.pnil)=true:=Eq.trans rfl rfl
theorem wL  : aJ (.pnil)=[.pnil]:=Eq.trans rfl rfl
theorem Ib {b o:Nat}:stor (.ptr b o)=true:=Eq.trans rfl rfl
theorem BC {b o:Nat}:aJ (.ptr b o)=[.ptr b o]:=Eq.trans rfl rfl
theorem Gz  : stor (.snil)=true:=Eq.trans rfl rfl
theorem zl  : aJ (.snil)=[.snil]:=Eq.trans rfl rfl
theorem ON {b o n z:Nat}:stor (.sl b o n z)=true:=Eq.trans rfl rfl
theorem Fc {b o n z:Nat}:aJ (.sl b o n z)=[.sl b o n z]:=Eq.trans rfl rfl
theorem yO  : stor (.sempty)=true:=Eq.trans rfl rfl
theorem sc  : aJ (.sempty)=[.sempty]:=Eq.trans rfl rfl
theorem Fu {f:Fn}{x y:List V}:stor (.func f x y)=true:=Eq.trans rfl rfl
theorem xL {f:Fn}{x y:List V}:aJ (.func f x y)=[.func f x y]:=Eq.trans rfl rfl
theorem Gp  : stor (.fnil)=true:=Eq.trans rfl rfl
theorem ye  : aJ (.fnil)=[.fnil]:=Eq.trans rfl rfl
theorem Cg {t:TypeId}{v:V}:stor (.iface t v)=true:=Eq.trans rfl rfl
theorem vt {t:TypeId}{v:V}:aJ (.iface t v)=[.iface t v]:=Eq.trans rfl rfl
theorem Fv  : stor (.inil)=true:=Eq.trans rfl rfl
theorem xf  : aJ (.inil)=[.inil]:=Eq.trans rfl rfl
theorem I0 {cs:List V}:stor (.agg cs)=true:=Eq.trans rfl rfl
theorem AB {cs:List V}:aJ (.agg cs)=cs:=Eq.trans rfl rfl
theorem Pq {b:Nat}:stor (.mp b)=true:=Eq.trans rfl rfl
theorem OY {b:Nat}:stor (.yl b)=true:=Eq.trans rfl rfl
theorem Ey {b:Nat}:aJ (.yl b)=[.yl b]:=Eq.trans rfl rfl
theorem Fm {b:Nat}:aJ (.mp b)=[.mp b]:=Eq.trans rfl rfl
theorem IC {b o n z c:Nat}:stor (.slc b o n z c)=true:=Eq.trans rfl rfl
theorem Br {b o n z c:Nat}:aJ (.slc b o n z c)=[.slc b o n z c]:=Eq.trans rfl rfl
theorem E2 {b o n z c:Nat}:iP (.slc b o n z c)=.sl b o n z:=Eq.trans rfl rfl
theorem Ix {b o n z:Nat}:iP (.sl b o n z)=.sl b o n z:=Eq.trans rfl rfl
theorem Bo:stor .szero=true:=Eq.trans rfl rfl
theorem uY:aJ .szero=[.szero]:=Eq.trans rfl rfl
attribute [simp] Bo uY
theorem GK:iP .snil=.snil:=Eq.trans rfl rfl
theorem yj:iP .sempty=.sempty:=Eq.trans rfl rfl
theorem Gs {k:IntKind}{n:Int}:iP (.int k n)=.int k n:=Eq.trans rfl rfl
theorem CQ {b:Bool}:iP (.bool b)=.bool b:=Eq.trans rfl rfl
attribute [simp] Pq Fm IC Br E2 Ix GK yj Gs CQ
theorem Fw:stor .mnil=true:=Eq.trans rfl rfl
theorem yS:aJ .mnil=[.mnil]:=Eq.trans rfl rfl
attribute [simp] OY Ey Fw yS
attribute [simp] F0 ze Mg Bj KS Bh Hl wL Ib BC Gz zl ON Fc yO sc Fu xL Gp ye Cg vt Fv xf I0 AB
theorem RI {a:V}{l:List V}:fr0 (a :: l) 0=a:=Eq.trans rfl rfl
theorem RF {a b:V}{l:List V}:fr0 (a :: b :: l) 1=b:=Eq.trans rfl rfl
theorem RD {a b c:V}{l:List V}:fr0 (a :: b :: c :: l) 2=c:=Eq.trans rfl rfl
theorem RY {a b c d:V}{l:List V}:fr0 (a :: b :: c :: d :: l) 3=d:=Eq.trans rfl rfl
theorem RM {a b c d e:V}{l:List V}:fr0 (a :: b :: c :: d :: e :: l) 4=e:=Eq.trans rfl rfl
attribute [simp] RI RF RD RY RM
def EG:V->Option Nat
 | .lp id _=>some id
 | _=>none
section
variable {fr:Fr}{b:Bool}{n m:Nat}{zs:List V}{ps:List (Nat×Nat×Opd)}{x y z a:Opd}{op:BinOp}{uop:UnOp}{ks:List CK}{g:Option Nat}{k:IntKind}{lo hi:Option Opd}{f:FuncId}{xs:List Opd}
theorem Bz:aG fr (.load g a)=EG (opd fr a):=by
 simp only [aG];cases opd fr a<;>rfl
theorem yC:aG fr (.store n a x)=EG (opd fr a):=by
 simp only [aG];cases opd fr a<;>rfl
theorem MR {i o:Nat}:EG (.lp i o)=some i:=Eq.trans rfl rfl
theorem IY {i o:Nat}:EG (.ptr i o)=none:=Eq.trans rfl rfl
theorem AK:aG fr (.move x)=none:=Eq.trans rfl rfl
theorem Ch:aG fr (.pick x y z)=none:=Eq.trans rfl rfl
theorem Hb:aG fr (.new b zs)=none:=Eq.trans rfl rfl
theorem Fx:aG fr (.box b x)=none:=Eq.trans rfl rfl
theorem yA:aG fr (.build zs ps)=none:=Eq.trans rfl rfl
theorem vw:aG fr (.bslice n m zs ps)=none:=Eq.trans rfl rfl
theorem G1:aG fr (.mks n m zs x y)=none:=Eq.trans rfl rfl
theorem Gw:aG fr (.bin op x y)=none:=Eq.trans rfl rfl
theorem FR:aG fr (.eqB b x y)=none:=Eq.trans rfl rfl
theorem F8:aG fr (.eqA b ks x y)=none:=Eq.trans rfl rfl
theorem L8:aG fr (.un uop x)=none:=Eq.trans rfl rfl
theorem xC:aG fr (.faddr n x)=none:=Eq.trans rfl rfl
theorem uj:aG fr (.iaddrA n m x y)=none:=Eq.trans rfl rfl
theorem vW:aG fr (.iaddrS n x y)=none:=Eq.trans rfl rfl
theorem AH:aG fr (.idxA n m g x y)=none:=Eq.trans rfl rfl
theorem AY:aG fr (.idxT x y)=none:=Eq.trans rfl rfl
theorem wW:aG fr (.field n g x)=none:=Eq.trans rfl rfl
theorem EH:aG fr (.ext x n)=none:=Eq.trans rfl rfl
theorem Ae:aG fr (.conv k x)=none:=Eq.trans rfl rfl
theorem G7:aG fr (.slA n m x lo hi)=none:=Eq.trans rfl rfl
theorem Hw:aG fr (.slS n x lo hi)=none:=Eq.trans rfl rfl
theorem HC:aG fr (.slT x lo hi)=none:=Eq.trans rfl rfl
theorem Df:aG fr (.call f xs)=none:=Eq.trans rfl rfl
theorem C7:aG fr (.lenS x)=none:=Eq.trans rfl rfl
theorem Bx:aG fr (.lenT x)=none:=Eq.trans rfl rfl
theorem B9:aG fr (.lenA n)=none:=Eq.trans rfl rfl
theorem uN:aG fr (.append n m x y)=none:=Eq.trans rfl rfl
theorem Bs:aG fr (.copy n x y)=none:=Eq.trans rfl rfl
theorem CC:aG fr (.max3 x y z)=none:=Eq.trans rfl rfl
theorem CB:aG fr (.min3 x y z)=none:=Eq.trans rfl rfl
theorem CJ:aG fr (.nilc x)=none:=Eq.trans rfl rfl
theorem FW {ys:List Opd}:aG fr (.mkf f xs ys)=none:=Eq.trans rfl rfl
theorem yx:aG fr (.callV x xs)=none:=Eq.trans rfl rfl
theorem FI:aG fr (.clr n zs x)=none:=Eq.trans rfl rfl
theorem BI:aG fr (.slS3 n x lo hi y)=none:=Eq.trans rfl rfl
theorem FF:aG fr (.eqN b x)=none:=Eq.trans rfl rfl
theorem yd:aG fr (.bytes x)=none:=Eq.trans rfl rfl
theorem NL {kx:XOp}:aG fr (.x kx xs)=none:=Eq.trans rfl rfl
attribute [simp] NL
theorem B3:aG fr (.max2 x y)=none:=Eq.trans rfl rfl
theorem BO:aG fr (.min2 x y)=none:=Eq.trans rfl rfl
end
attribute [simp] HE A4 Gb Qf Og CE Nb HV Jy Gn HB KV Jh QG NZ Js Mh LS LP Mu Jd Jx NJ GY Fd qQ tD
attribute [simp] C5
attribute [simp] A5 Cv E7 G2 Ez Mb B8 Jt G5 Ij Hu Gk F7 Mm De FZ Hv CX ug JX NG Dc CC CB CJ FW yx FI BI FF yd
attribute [simp] Bz yC MR IY AK Ch Hb Fx yA vw G1 Gw FR F8 L8 xC uj vW AH AY wW EH Ae G7 Hw HC Df C7 Bx B9 uN Bs B3 BO
theorem R9 {α:Type}{a:α}{l:List α}:(a :: l)[0]? = some a:=Eq.trans rfl rfl
theorem RS {α:Type}{a b:α}{l:List α}:(a :: b :: l)[1]? = some b:=Eq.trans rfl rfl
theorem RC {α:Type}{a b c:α}{l:List α}:(a :: b :: c :: l)[2]? = some c:=Eq.trans rfl rfl
theorem RN {α:Type}{a b c d:α}{l:List α}:(a :: b :: c :: d :: l)[3]? = some d:=Eq.trans rfl rfl
theorem R8 {α:Type}{a b c d e:α}{l:List α}:(a :: b :: c :: d :: e :: l)[4]? = some e:=Eq.trans rfl rfl
theorem Rw {α:Type}{a b c d e f:α}{l:List α}:(a :: b :: c :: d :: e :: f :: l)[5]? = some f:=Eq.trans rfl rfl
theorem RV {α:Type}{a b c d e f g:α}{l:List α}:(a :: b :: c :: d :: e :: f :: g :: l)[6]? = some g:=Eq.trans rfl rfl
attribute [simp ↓] R9 RS RC RN R8 Rw RV
section
variable {T:Tbl}{lim:Nat}{b c neg:Bool}{d:Option Nat}{rest:List VOper}{K:St->Prop}{fr:Fr}{L:Lo}{H:Hp}{x y v:V}{op:BinOp}{uop:UnOp}{o n z kk:Nat}{g:Option Nat}{k:IntKind}{ks:List CK}{acc:List (Nat×Nat)}
theorem PB:vif b (vif b v)=vif b v:=by cases b<;>rfl
theorem M6:vif (b&&c) (vif b v)=vif (b&&c) v:=by cases b<;>rfl
theorem BU:y7 true (vif b (.bool c))=(b&&c):=by cases b<;>cases c<;>rfl
theorem Dd:y7 false (vif b (.bool c))=(b&&Jb c):=by cases b<;>cases c<;>rfl
theorem Rd:au T lim b d (af L H (bU op (vif b v) y)) rest K fr L H=au T lim b d (af L H (bU op v y)) rest K fr L H:=by cases b<;>rfl
theorem MK:ak T kk b d (af L H (bU op (vif b v) y)) rest acc K fr L H=ak T kk b d (af L H (bU op v y)) rest acc K fr L H:=by cases b<;>rfl
theorem Qu:au T lim (b&&c) d (af L H (bU op (vif b v) y)) rest K fr L H=au T lim (b&&c) d (af L H (bU op v y)) rest K fr L H:=by cases b<;>rfl
theorem O4:ak T kk (b&&c) d (af L H (bU op (vif b v) y)) rest acc K fr L H=ak T kk (b&&c) d (af L H (bU op v y)) rest acc K fr L H:=by cases b<;>rfl
theorem Rl:au T lim b d (af L H (bU op x (vif b v))) rest K fr L H=au T lim b d (af L H (bU op x v)) rest K fr L H:=by cases b<;>rfl
theorem NX:ak T kk b d (af L H (bU op x (vif b v))) rest acc K fr L H=ak T kk b d (af L H (bU op x v)) rest acc K fr L H:=by cases b<;>rfl
theorem Rs:au T lim (b&&c) d (af L H (bU op x (vif b v))) rest K fr L H=au T lim (b&&c) d (af L H (bU op x v)) rest K fr L H:=by cases b<;>rfl
theorem N6:ak T kk (b&&c) d (af L H (bU op x (vif b v))) rest acc K fr L H=ak T kk (b&&c) d (af L H (bU op x v)) rest acc K fr L H:=by cases b<;>rfl
theorem Q1:au T lim b d (af L H (vun uop (vif b v))) rest K fr L H=au T lim b d (af L H (vun uop v)) rest K fr L H:=by cases b<;>rfl
theorem MZ:ak T kk b d (af L H (vun uop (vif b v))) rest acc K fr L H=ak T kk b d (af L H (vun uop v)) rest acc K fr L H:=by cases b<;>rfl
theorem Q9:au T lim (b&&c) d (af L H (vun uop (vif b v))) rest K fr L H=au T lim (b&&c) d (af L H (vun uop v)) rest K fr L H:=by cases b<;>rfl
theorem Pa:ak T kk (b&&c) d (af L H (vun uop (vif b v))) rest acc K fr L H=ak T kk (b&&c) d (af L H (vun uop v)) rest acc K fr L H:=by cases b<;>rfl
theorem Ql:au T lim b d (af L H (ct o (vif b v))) rest K fr L H=au T lim b d (af L H (ct o v)) rest K fr L H:=by cases b<;>rfl
theorem OQ:ak T kk b d (af L H (ct o (vif b v))) rest acc K fr L H=ak T kk b d (af L H (ct o v)) rest acc K fr L H:=by cases b<;>rfl
theorem Qp:au T lim (b&&c) d (af L H (ct o (vif b v))) rest K fr L H=au T lim (b&&c) d (af L H (ct o v)) rest K fr L H:=by cases b<;>rfl
theorem Nh:ak T kk (b&&c) d (af L H (ct o (vif b v))) rest acc K fr L H=ak T kk (b&&c) d (af L H (ct o v)) rest acc K fr L H:=by cases b<;>rfl
theorem Qj:au T lim b d (af L H (bV n z (vif b v) y)) rest K fr L H=au T lim b d (af L H (bV n z v y)) rest K fr L H:=by cases b<;>rfl
theorem O9:ak T kk b d (af L H (bV n z (vif b v) y)) rest acc K fr L H=ak T kk b d (af L H (bV n z v y)) rest acc K fr L H:=by cases b<;>rfl
theorem QZ:au T lim (b&&c) d (af L H (bV n z (vif b v) y)) rest K fr L H=au T lim (b&&c) d (af L H (bV n z v y)) rest K fr L H:=by cases b<;>rfl
theorem MU:ak T kk (b&&c) d (af L H (bV n z (vif b v) y)) rest acc K fr L H=ak T kk (b&&c) d (af L H (bV n z v y)) rest acc K fr L H:=by cases b<;>rfl
theorem Qv:au T lim b d (af L H (bV n z x (vif b v))) rest K fr L H=au T lim b d (af L H (bV n z x v)) rest K fr L H:=by cases b<;>rfl
theorem OE:ak T kk b d (af L H (bV n z x (vif b v))) rest acc K fr L H=ak T kk b d (af L H (bV n z x v)) rest acc K fr L H:=by cases b<;>rfl
theorem Qn:au T lim (b&&c) d (af L H (bV n z x (vif b v))) rest K fr L H=au T lim (b&&c) d (af L H (bV n z x v)) rest K fr L H:=by cases b<;>rfl
theorem OT:ak T kk (b&&c) d (af L H (bV n z x (vif b v))) rest acc K fr L H=ak T kk (b&&c) d (af L H (bV n z x v)) rest acc K fr L H:=by cases b<;>rfl
theorem Rk:au T lim b d (af L H (aQ z (vif b v) y)) rest K fr L H=au T lim b d (af L H (aQ z v y)) rest K fr L H:=by cases b<;>rfl
theorem Oh:ak T kk b d (af L H (aQ z (vif b v) y)) rest acc K fr L H=ak T kk b d (af L H (aQ z v y)) rest acc K fr L H:=by cases b<;>rfl
theorem Qo:au T lim (b&&c) d (af L H (aQ z (vif b v) y)) rest K fr L H=au T lim (b&&c) d (af L H (aQ z v y)) rest K fr L H:=by cases b<;>rfl
theorem Ot:ak T kk (b&&c) d (af L H (aQ z (vif b v) y)) rest acc K fr L H=ak T kk (b&&c) d (af L H (aQ z v y)) rest acc K fr L H:=by cases b<;>rfl
theorem P9:au T lim b d (af L H (aQ z x (vif b v))) rest K fr L H=au T lim b d (af L H (aQ z x v)) rest K fr L H:=by cases b<;>rfl
theorem M8:ak T kk b d (af L H (aQ z x (vif b v))) rest acc K fr L H=ak T kk b d (af L H (aQ z x v)) rest acc K fr L H:=by cases b<;>rfl
theorem QB:au T lim (b&&c) d (af L H (aQ z x (vif b v))) rest K fr L H=au T lim (b&&c) d (af L H (aQ z x v)) rest K fr L H:=by cases b<;>rfl
theorem NY:ak T kk (b&&c) d (af L H (aQ z x (vif b v))) rest acc K fr L H=ak T kk (b&&c) d (af L H (aQ z x v)) rest acc K fr L H:=by cases b<;>rfl
theorem Q0:au T lim b d (af L H (aW g L H (vif b v))) rest K fr L H=au T lim b d (af L H (aW g L H v)) rest K fr L H:=by cases b<;>rfl
theorem M5:ak T kk b d (af L H (aW g L H (vif b v))) rest acc K fr L H=ak T kk b d (af L H (aW g L H v)) rest acc K fr L H:=by cases b<;>rfl
theorem QX:au T lim (b&&c) d (af L H (aW g L H (vif b v))) rest K fr L H=au T lim (b&&c) d (af L H (aW g L H v)) rest K fr L H:=by cases b<;>rfl
theorem MJ:ak T kk (b&&c) d (af L H (aW g L H (vif b v))) rest acc K fr L H=ak T kk (b&&c) d (af L H (aW g L H v)) rest acc K fr L H:=by cases b<;>rfl
theorem QU:au T lim b d (af L H (eG n z g (vif b v) y)) rest K fr L H=au T lim b d (af L H (eG n z g v y)) rest K fr L H:=by cases b<;>rfl
theorem MF:ak T kk b d (af L H (eG n z g (vif b v) y)) rest acc K fr L H=ak T kk b d (af L H (eG n z g v y)) rest acc K fr L H:=by cases b<;>rfl
theorem Ra:au T lim (b&&c) d (af L H (eG n z g (vif b v) y)) rest K fr L H=au T lim (b&&c) d (af L H (eG n z g v y)) rest K fr L H:=by cases b<;>rfl
theorem NW:ak T kk (b&&c) d (af L H (eG n z g (vif b v) y)) rest acc K fr L H=ak T kk (b&&c) d (af L H (eG n z g v y)) rest acc K fr L H:=by cases b<;>rfl
theorem Pf:au T lim b d (af L H (eG n z g x (vif b v))) rest K fr L H=au T lim b d (af L H (eG n z g x v)) rest K fr L H:=by cases b<;>rfl
theorem LJ:ak T kk b d (af L H (eG n z g x (vif b v))) rest acc K fr L H=ak T kk b d (af L H (eG n z g x v)) rest acc K fr L H:=by cases b<;>rfl
theorem MQ:au T lim (b&&c) d (af L H (eG n z g x (vif b v))) rest K fr L H=au T lim (b&&c) d (af L H (eG n z g x v)) rest K fr L H:=by cases b<;>rfl
theorem JW:ak T kk (b&&c) d (af L H (eG n z g x (vif b v))) rest acc K fr L H=ak T kk (b&&c) d (af L H (eG n z g x v)) rest acc K fr L H:=by cases b<;>rfl
theorem OJ:au T lim b d (af L H (dV (vif b v) y)) rest K fr L H=au T lim b d (af L H (dV v y)) rest K fr L H:=by cases b<;>rfl
theorem KM:ak T kk b d (af L H (dV (vif b v) y)) rest acc K fr L H=ak T kk b d (af L H (dV v y)) rest acc K fr L H:=by cases b<;>rfl
theorem Oi:au T lim (b&&c) d (af L H (dV (vif b v) y)) rest K fr L H=au T lim (b&&c) d (af L H (dV v y)) rest K fr L H:=by cases b<;>rfl
theorem LB:ak T kk (b&&c) d (af L H (dV (vif b v) y)) rest acc K fr L H=ak T kk (b&&c) d (af L H (dV v y)) rest acc K fr L H:=by cases b<;>rfl
theorem Pw:au T lim b d (af L H (dV x (vif b v))) rest K fr L H=au T lim b d (af L H (dV x v)) rest K fr L H:=by cases b<;>rfl
theorem I5:ak T kk b d (af L H (dV x (vif b v))) rest acc K fr L H=ak T kk b d (af L H (dV x v)) rest acc K fr L H:=by cases b<;>rfl
theorem Oa:au T lim (b&&c) d (af L H (dV x (vif b v))) rest K fr L H=au T lim (b&&c) d (af L H (dV x v)) rest K fr L H:=by cases b<;>rfl
theorem JY:ak T kk (b&&c) d (af L H (dV x (vif b v))) rest acc K fr L H=ak T kk (b&&c) d (af L H (dV x v)) rest acc K fr L H:=by cases b<;>rfl
theorem Nd:au T lim b d (af L H (fj n g (vif b v))) rest K fr L H=au T lim b d (af L H (fj n g v)) rest K fr L H:=by cases b<;>rfl
theorem KT:ak T kk b d (af L H (fj n g (vif b v))) rest acc K fr L H=ak T kk b d (af L H (fj n g v)) rest acc K fr L H:=by cases b<;>rfl
theorem N2:au T lim (b&&c) d (af L H (fj n g (vif b v))) rest K fr L H=au T lim (b&&c) d (af L H (fj n g v)) rest K fr L H:=by cases b<;>rfl
theorem J0:ak T kk (b&&c) d (af L H (fj n g (vif b v))) rest acc K fr L H=ak T kk (b&&c) d (af L H (fj n g v)) rest acc K fr L H:=by cases b<;>rfl
theorem N8:au T lim b d (af L H (pu n (vif b v))) rest K fr L H=au T lim b d (af L H (pu n v)) rest K fr L H:=by cases b<;>rfl
theorem Kd:ak T kk b d (af L H (pu n (vif b v))) rest acc K fr L H=ak T kk b d (af L H (pu n v)) rest acc K fr L H:=by cases b<;>rfl
theorem Pz:au T lim (b&&c) d (af L H (pu n (vif b v))) rest K fr L H=au T lim (b&&c) d (af L H (pu n v)) rest K fr L H:=by cases b<;>rfl
theorem Mw:ak T kk (b&&c) d (af L H (pu n (vif b v))) rest acc K fr L H=ak T kk (b&&c) d (af L H (pu n v)) rest acc K fr L H:=by cases b<;>rfl
theorem OV:au T lim b d (af L H (jG k (vif b v))) rest K fr L H=au T lim b d (af L H (jG k v)) rest K fr L H:=by cases b<;>rfl
theorem Kz:ak T kk b d (af L H (jG k (vif b v))) rest acc K fr L H=ak T kk b d (af L H (jG k v)) rest acc K fr L H:=by cases b<;>rfl
theorem Np:au T lim (b&&c) d (af L H (jG k (vif b v))) rest K fr L H=au T lim (b&&c) d (af L H (jG k v)) rest K fr L H:=by cases b<;>rfl
theorem IP:ak T kk (b&&c) d (af L H (jG k (vif b v))) rest acc K fr L H=ak T kk (b&&c) d (af L H (jG k v)) rest acc K fr L H:=by cases b<;>rfl
theorem MH:au T lim b d (af L H (bD (vif b v))) rest K fr L H=au T lim b d (af L H (bD v)) rest K fr L H:=by cases b<;>rfl
theorem LY:ak T kk b d (af L H (bD (vif b v))) rest acc K fr L H=ak T kk b d (af L H (bD v)) rest acc K fr L H:=by cases b<;>rfl
theorem Py:au T lim (b&&c) d (af L H (bD (vif b v))) rest K fr L H=au T lim (b&&c) d (af L H (bD v)) rest K fr L H:=by cases b<;>rfl
theorem JT:ak T kk (b&&c) d (af L H (bD (vif b v))) rest acc K fr L H=ak T kk (b&&c) d (af L H (bD v)) rest acc K fr L H:=by cases b<;>rfl
theorem Nt:au T lim b d (af L H (jH (vif b v))) rest K fr L H=au T lim b d (af L H (jH v)) rest K fr L H:=by cases b<;>rfl
theorem Kn:ak T kk b d (af L H (jH (vif b v))) rest acc K fr L H=ak T kk b d (af L H (jH v)) rest acc K fr L H:=by cases b<;>rfl
theorem NI:au T lim (b&&c) d (af L H (jH (vif b v))) rest K fr L H=au T lim (b&&c) d (af L H (jH v)) rest K fr L H:=by cases b<;>rfl
theorem Lw:ak T kk (b&&c) d (af L H (jH (vif b v))) rest acc K fr L H=ak T kk (b&&c) d (af L H (jH v)) rest acc K fr L H:=by cases b<;>rfl
theorem OI:au T lim b d (af L H (jz (vif b v) y)) rest K fr L H=au T lim b d (af L H (jz v y)) rest K fr L H:=by cases b<;>rfl
theorem JV:ak T kk b d (af L H (jz (vif b v) y)) rest acc K fr L H=ak T kk b d (af L H (jz v y)) rest acc K fr L H:=by cases b<;>rfl
theorem NK:au T lim (b&&c) d (af L H (jz (vif b v) y)) rest K fr L H=au T lim (b&&c) d (af L H (jz v y)) rest K fr L H:=by cases b<;>rfl
theorem LC:ak T kk (b&&c) d (af L H (jz (vif b v) y)) rest acc K fr L H=ak T kk (b&&c) d (af L H (jz v y)) rest acc K fr L H:=by cases b<;>rfl
theorem Nn:au T lim b d (af L H (jz x (vif b v))) rest K fr L H=au T lim b d (af L H (jz x v)) rest K fr L H:=by cases b<;>rfl
theorem LU:ak T kk b d (af L H (jz x (vif b v))) rest acc K fr L H=ak T kk b d (af L H (jz x v)) rest acc K fr L H:=by cases b<;>rfl
theorem ND:au T lim (b&&c) d (af L H (jz x (vif b v))) rest K fr L H=au T lim (b&&c) d (af L H (jz x v)) rest K fr L H:=by cases b<;>rfl
theorem K4:ak T kk (b&&c) d (af L H (jz x (vif b v))) rest acc K fr L H=ak T kk (b&&c) d (af L H (jz x v)) rest acc K fr L H:=by cases b<;>rfl
theorem MM:au T lim b d (af L H (jf (vif b v) y)) rest K fr L H=au T lim b d (af L H (jf v y)) rest K fr L H:=by cases b<;>rfl
theorem LL:ak T kk b d (af L H (jf (vif b v) y)) rest acc K fr L H=ak T kk b d (af L H (jf v y)) rest acc K fr L H:=by cases b<;>rfl
theorem M7:au T lim (b&&c) d (af L H (jf (vif b v) y)) rest K fr L H=au T lim (b&&c) d (af L H (jf v y)) rest K fr L H:=by cases b<;>rfl
theorem Jc:ak T kk (b&&c) d (af L H (jf (vif b v) y)) rest acc K fr L H=ak T kk (b&&c) d (af L H (jf v y)) rest acc K fr L H:=by cases b<;>rfl
theorem Ns:au T lim b d (af L H (jf x (vif b v))) rest K fr L H=au T lim b d (af L H (jf x v)) rest K fr L H:=by cases b<;>rfl
theorem Md:ak T kk b d (af L H (jf x (vif b v))) rest acc K fr L H=ak T kk b d (af L H (jf x v)) rest acc K fr L H:=by cases b<;>rfl
theorem Pm:au T lim (b&&c) d (af L H (jf x (vif b v))) rest K fr L H=au T lim (b&&c) d (af L H (jf x v)) rest K fr L H:=by cases b<;>rfl
theorem J2:ak T kk (b&&c) d (af L H (jf x (vif b v))) rest acc K fr L H=ak T kk (b&&c) d (af L H (jf x v)) rest acc K fr L H:=by cases b<;>rfl
theorem OM:au T lim b d (af L H (jE neg (vif b v) y)) rest K fr L H=au T lim b d (af L H (jE neg v y)) rest K fr L H:=by cases b<;>rfl
theorem Ig:ak T kk b d (af L H (jE neg (vif b v) y)) rest acc K fr L H=ak T kk b d (af L H (jE neg v y)) rest acc K fr L H:=by cases b<;>rfl
theorem Nz:au T lim (b&&c) d (af L H (jE neg (vif b v) y)) rest K fr L H=au T lim (b&&c) d (af L H (jE neg v y)) rest K fr L H:=by cases b<;>rfl
theorem J9:ak T kk (b&&c) d (af L H (jE neg (vif b v) y)) rest acc K fr L H=ak T kk (b&&c) d (af L H (jE neg v y)) rest acc K fr L H:=by cases b<;>rfl
theorem MX:au T lim b d (af L H (jE neg x (vif b v))) rest K fr L H=au T lim b d (af L H (jE neg x v)) rest K fr L H:=by cases b<;>rfl
theorem KA:ak T kk b d (af L H (jE neg x (vif b v))) rest acc K fr L H=ak T kk b d (af L H (jE neg x v)) rest acc K fr L H:=by cases b<;>rfl
theorem Pl:au T lim (b&&c) d (af L H (jE neg x (vif b v))) rest K fr L H=au T lim (b&&c) d (af L H (jE neg x v)) rest K fr L H:=by cases b<;>rfl
theorem JR:ak T kk (b&&c) d (af L H (jE neg x (vif b v))) rest acc K fr L H=ak T kk (b&&c) d (af L H (jE neg x v)) rest acc K fr L H:=by cases b<;>rfl
theorem M4:au T lim b d (af L H (ig neg ks (vif b v) y)) rest K fr L H=au T lim b d (af L H (ig neg ks v y)) rest K fr L H:=by cases b<;>rfl
theorem LN:ak T kk b d (af L H (ig neg ks (vif b v) y)) rest acc K fr L H=ak T kk b d (af L H (ig neg ks v y)) rest acc K fr L H:=by cases b<;>rfl
theorem Nv:au T lim (b&&c) d (af L H (ig neg ks (vif b v) y)) rest K fr L H=au T lim (b&&c) d (af L H (ig neg ks v y)) rest K fr L H:=by cases b<;>rfl
theorem Lq:ak T kk (b&&c) d (af L H (ig neg ks (vif b v) y)) rest acc K fr L H=ak T kk (b&&c) d (af L H (ig neg ks v y)) rest acc K fr L H:=by cases b<;>rfl
theorem NV:au T lim b d (af L H (ig neg ks x (vif b v))) rest K fr L H=au T lim b d (af L H (ig neg ks x v)) rest K fr L H:=by cases b<;>rfl
theorem J5:ak T kk b d (af L H (ig neg ks x (vif b v))) rest acc K fr L H=ak T kk b d (af L H (ig neg ks x v)) rest acc K fr L H:=by cases b<;>rfl
theorem N4:au T lim (b&&c) d (af L H (ig neg ks x (vif b v))) rest K fr L H=au T lim (b&&c) d (af L H (ig neg ks x v)) rest K fr L H:=by cases b<;>rfl
theorem IW:ak T kk (b&&c) d (af L H (ig neg ks x (vif b v))) rest acc K fr L H=ak T kk (b&&c) d (af L H (ig neg ks x v)) rest acc K fr L H:=by cases b<;>rfl
theorem Na:au T lim b d (af L H (cV (vif b v) x y)) rest K fr L H=au T lim b d (af L H (cV v x y)) rest K fr L H:=by cases b<;>rfl
theorem HT:ak T kk b d (af L H (cV (vif b v) x y)) rest acc K fr L H=ak T kk b d (af L H (cV v x y)) rest acc K fr L H:=by cases b<;>rfl
theorem NB:au T lim (b&&c) d (af L H (cV (vif b v) x y)) rest K fr L H=au T lim (b&&c) d (af L H (cV v x y)) rest K fr L H:=by cases b<;>rfl
theorem Kr:ak T kk (b&&c) d (af L H (cV (vif b v) x y)) rest acc K fr L H=ak T kk (b&&c) d (af L H (cV v x y)) rest acc K fr L H:=by cases b<;>rfl
theorem Oo:au T lim b d (af L H (cV x (vif b v) y)) rest K fr L H=au T lim b d (af L H (cV x v y)) rest K fr L H:=by cases b<;>rfl
theorem Ki:ak T kk b d (af L H (cV x (vif b v) y)) rest acc K fr L H=ak T kk b d (af L H (cV x v y)) rest acc K fr L H:=by cases b<;>rfl
theorem O1:au T lim (b&&c) d (af L H (cV x (vif b v) y)) rest K fr L H=au T lim (b&&c) d (af L H (cV x v y)) rest K fr L H:=by cases b<;>rfl
theorem LG:ak T kk (b&&c) d (af L H (cV x (vif b v) y)) rest acc K fr L H=ak T kk (b&&c) d (af L H (cV x v y)) rest acc K fr L H:=by cases b<;>rfl
theorem MP:au T lim b d (af L H (cV x y (vif b v))) rest K fr L H=au T lim b d (af L H (cV x y v)) rest K fr L H:=by cases b<;>rfl
theorem LR:ak T kk b d (af L H (cV x y (vif b v))) rest acc K fr L H=ak T kk b d (af L H (cV x y v)) rest acc K fr L H:=by cases b<;>rfl
theorem MC:au T lim (b&&c) d (af L H (cV x y (vif b v))) rest K fr L H=au T lim (b&&c) d (af L H (cV x y v)) rest K fr L H:=by cases b<;>rfl
theorem I9:ak T kk (b&&c) d (af L H (cV x y (vif b v))) rest acc K fr L H=ak T kk (b&&c) d (af L H (cV x y v)) rest acc K fr L H:=by cases b<;>rfl
end
attribute [simp] PB M6 BU Dd Rd MK Qu O4 Rl NX Rs N6 Q1 MZ Q9 Pa Ql OQ Qp Nh Qj O9 QZ MU Qv OE Qn OT Rk Oh Qo Ot P9 M8 QB NY Q0 M5 QX MJ QU MF Ra NW Pf LJ MQ JW OJ KM Oi LB Pw I5 Oa JY Nd KT N2 J0 N8 Kd Pz Mw OV Kz Np IP MH LY Py JT Nt Kn NI Lw OI JV NK LC Nn LU ND K4 MM LL M7 Jc Ns Md Pm J2 OM Ig Nz J9 MX KA Pl JR M4 LN Nv Lq NV J5 N4 IW Na HT NB Kr Oo Ki O1 LG MP LR MC I9
theorem Lj {a b:V}:rd (some 2) [a,b] 0=some (.agg [a,b]):=Eq.trans rfl rfl
theorem O5 {a b:V}:rd none [a,b] 0=some a:=Eq.trans rfl rfl
theorem Nf {a b:V}:rd none [a,b] 1=some b:=Eq.trans rfl rfl
attribute [simp] Lj O5 Nf
def JD:V->Bool
 | .lp _ _=>true
 | _=>false
def Dv:V->Bool
 | .ptr _ _=>true
 | _=>false
section
variable {fr:Fr}{b:Bool}{n m:Nat}{zs:List V}{ps:List (Nat×Nat×Opd)}{x y z a:Opd}{op:BinOp}{uop:UnOp}{ks:List CK}{g:Option Nat}{k:IntKind}{lo hi:Option Opd}{f:FuncId}{xs ys:List Opd}
theorem On {i o:Nat}:JD (.lp i o)=true:=Eq.trans rfl rfl
theorem HQ {i o:Nat}:JD (.ptr i o)=false:=Eq.trans rfl rfl
theorem JH {i o:Nat}:Dv (.lp i o)=false:=Eq.trans rfl rfl
theorem GW {i o:Nat}:Dv (.ptr i o)=true:=Eq.trans rfl rfl
theorem CA:aH fr (.load g a)=JD (opd fr a):=by
 simp only [aH];cases opd fr a<;>rfl
theorem zG:aH fr (.store n a x)=JD (opd fr a):=by
 simp only [aH];cases opd fr a<;>rfl
theorem wg:aM fr (.store n a x)=Dv (opd fr a):=by
 simp only [aM];cases opd fr a<;>rfl
theorem CG:aH fr (.move x)=true:=Eq.trans rfl rfl
theorem zY:aM fr (.move x)=false:=Eq.trans rfl rfl
theorem vL:aX (.move x)=true:=Eq.trans rfl rfl
theorem HG:aL (.move x)=false:=Eq.trans rfl rfl
theorem Be:aH fr (.pick x y z)=true:=Eq.trans rfl rfl
theorem xA:aM fr (.pick x y z)=false:=Eq.trans rfl rfl
theorem wD:aX (.pick x y z)=true:=Eq.trans rfl rfl
theorem Fs:aL (.pick x y z)=false:=Eq.trans rfl rfl
theorem HD:aH fr (.new b zs)=b:=Eq.trans rfl rfl
theorem Cu:aM fr (.new b zs)=false:=Eq.trans rfl rfl
theorem zp:aX (.new b zs)=true:=Eq.trans rfl rfl
theorem Mv:aL (.new b zs)=false:=Eq.trans rfl rfl
theorem FH:aH fr (.box b x)=b:=Eq.trans rfl rfl
theorem AD:aM fr (.box b x)=false:=Eq.trans rfl rfl
theorem xY:aX (.box b x)=true:=Eq.trans rfl rfl
theorem K8:aL (.box b x)=false:=Eq.trans rfl rfl
theorem zJ:aH fr (.build zs ps)=true:=Eq.trans rfl rfl
theorem vN:aM fr (.build zs ps)=false:=Eq.trans rfl rfl
theorem sH:aX (.build zs ps)=true:=Eq.trans rfl rfl
theorem Ak:aL (.build zs ps)=false:=Eq.trans rfl rfl
theorem uR:aH fr (.bslice n m zs ps)=false:=Eq.trans rfl rfl
theorem sh:aM fr (.bslice n m zs ps)=false:=Eq.trans rfl rfl
theorem qC:aX (.bslice n m zs ps)=true:=Eq.trans rfl rfl
theorem zi:aL (.bslice n m zs ps)=false:=Eq.trans rfl rfl
theorem EM:aH fr (.mks n m zs x y)=false:=Eq.trans rfl rfl
theorem Bt:aM fr (.mks n m zs x y)=false:=Eq.trans rfl rfl
theorem yv:aX (.mks n m zs x y)=true:=Eq.trans rfl rfl
theorem Ie:aL (.mks n m zs x y)=false:=Eq.trans rfl rfl
theorem FX:aH fr (.bin op x y)=true:=Eq.trans rfl rfl
theorem AA:aM fr (.bin op x y)=false:=Eq.trans rfl rfl
theorem xo:aX (.bin op x y)=true:=Eq.trans rfl rfl
theorem IE:aL (.bin op x y)=false:=Eq.trans rfl rfl
theorem Hf:aH fr (.eqB b x y)=true:=Eq.trans rfl rfl
theorem Cq:aM fr (.eqB b x y)=false:=Eq.trans rfl rfl
theorem yJ:aX (.eqB b x y)=true:=Eq.trans rfl rfl
theorem Kq:aL (.eqB b x y)=false:=Eq.trans rfl rfl
theorem E9:aH fr (.eqA b ks x y)=true:=Eq.trans rfl rfl
theorem Az:aM fr (.eqA b ks x y)=false:=Eq.trans rfl rfl
theorem zm:aX (.eqA b ks x y)=true:=Eq.trans rfl rfl
theorem Lb:aL (.eqA b ks x y)=false:=Eq.trans rfl rfl
theorem KE:aH fr (.un uop x)=true:=Eq.trans rfl rfl
theorem Fp:aM fr (.un uop x)=false:=Eq.trans rfl rfl
theorem AF:aX (.un uop x)=true:=Eq.trans rfl rfl
theorem NR:aL (.un uop x)=false:=Eq.trans rfl rfl
theorem wX:aH fr (.faddr n x)=true:=Eq.trans rfl rfl
theorem vK:aM fr (.faddr n x)=false:=Eq.trans rfl rfl
theorem sI:aX (.faddr n x)=true:=Eq.trans rfl rfl
theorem Aj:aL (.faddr n x)=false:=Eq.trans rfl rfl
theorem ui:aH fr (.iaddrA n m x y)=true:=Eq.trans rfl rfl
theorem sL:aM fr (.iaddrA n m x y)=false:=Eq.trans rfl rfl
theorem qL:aX (.iaddrA n m x y)=true:=Eq.trans rfl rfl
theorem yq:aL (.iaddrA n m x y)=false:=Eq.trans rfl rfl
theorem uC:aH fr (.iaddrS n x y)=true:=Eq.trans rfl rfl
theorem sD:aM fr (.iaddrS n x y)=false:=Eq.trans rfl rfl
theorem qT:aX (.iaddrS n x y)=true:=Eq.trans rfl rfl
theorem xz:aL (.iaddrS n x y)=false:=Eq.trans rfl rfl
theorem Ci:aH fr (.idxA n m g x y)=true:=Eq.trans rfl rfl
theorem yz:aM fr (.idxA n m g x y)=false:=Eq.trans rfl rfl
theorem uv:aX (.idxA n m g x y)=true:=Eq.trans rfl rfl
theorem GA:aL (.idxA n m g x y)=false:=Eq.trans rfl rfl
theorem A1:aH fr (.idxT x y)=true:=Eq.trans rfl rfl
theorem wJ:aM fr (.idxT x y)=false:=Eq.trans rfl rfl
theorem vA:aX (.idxT x y)=true:=Eq.trans rfl rfl
theorem HJ:aL (.idxT x y)=false:=Eq.trans rfl rfl
theorem xB:aH fr (.field n g x)=true:=Eq.trans rfl rfl
theorem uQ:aM fr (.field n g x)=false:=Eq.trans rfl rfl
theorem so:aX (.field n g x)=true:=Eq.trans rfl rfl
theorem A7:aL (.field n g x)=false:=Eq.trans rfl rfl
theorem Hy:aH fr (.ext x n)=true:=Eq.trans rfl rfl
theorem BD:aM fr (.ext x n)=false:=Eq.trans rfl rfl
theorem xw:aX (.ext x n)=true:=Eq.trans rfl rfl
theorem LD:aL (.ext x n)=false:=Eq.trans rfl rfl
theorem Cw:aH fr (.conv k x)=true:=Eq.trans rfl rfl
theorem yr:aM fr (.conv k x)=false:=Eq.trans rfl rfl
theorem uh:aX (.conv k x)=true:=Eq.trans rfl rfl
theorem GL:aL (.conv k x)=false:=Eq.trans rfl rfl
theorem Gy:aH fr (.slA n m x lo hi)=false:=Eq.trans rfl rfl
theorem Ck:aM fr (.slA n m x lo hi)=false:=Eq.trans rfl rfl
theorem xh:aX (.slA n m x lo hi)=true:=Eq.trans rfl rfl
theorem I3:aL (.slA n m x lo hi)=false:=Eq.trans rfl rfl
theorem EL:aH fr (.slS n x lo hi)=true:=Eq.trans rfl rfl
theorem BH:aM fr (.slS n x lo hi)=false:=Eq.trans rfl rfl
theorem yD:aX (.slS n x lo hi)=true:=Eq.trans rfl rfl
theorem Mo:aL (.slS n x lo hi)=false:=Eq.trans rfl rfl
theorem FT:aH fr (.slT x lo hi)=true:=Eq.trans rfl rfl
theorem Aa:aM fr (.slT x lo hi)=false:=Eq.trans rfl rfl
theorem yX:aX (.slT x lo hi)=true:=Eq.trans rfl rfl
theorem JB:aL (.slT x lo hi)=false:=Eq.trans rfl rfl
theorem Ce:aH fr (.call f xs)=false:=Eq.trans rfl rfl
theorem zq:aM fr (.call f xs)=false:=Eq.trans rfl rfl
theorem vM:aX (.call f xs)=true:=Eq.trans rfl rfl
theorem FA:aL (.call f xs)=false:=Eq.trans rfl rfl
theorem Cn:aH fr (.lenS x)=true:=Eq.trans rfl rfl
theorem yg:aM fr (.lenS x)=false:=Eq.trans rfl rfl
theorem uf:aX (.lenS x)=true:=Eq.trans rfl rfl
theorem FO:aL (.lenS x)=false:=Eq.trans rfl rfl
theorem BZ:aH fr (.lenT x)=true:=Eq.trans rfl rfl
theorem xq:aM fr (.lenT x)=false:=Eq.trans rfl rfl
theorem wq:aX (.lenT x)=true:=Eq.trans rfl rfl
theorem Gg:aL (.lenT x)=false:=Eq.trans rfl rfl
theorem Bb:aH fr (.lenA n)=true:=Eq.trans rfl rfl
theorem xx:aM fr (.lenA n)=false:=Eq.trans rfl rfl
theorem vd:aX (.lenA n)=true:=Eq.trans rfl rfl
theorem Hj:aL (.lenA n)=false:=Eq.trans rfl rfl
theorem vG:aH fr (.append n m x y)=false:=Eq.trans rfl rfl
theorem sq:aM fr (.append n m x y)=false:=Eq.trans rfl rfl
theorem qJ:aX (.append n m x y)=true:=Eq.trans rfl rfl
theorem wQ:aL (.append n m x y)=true:=Eq.trans rfl rfl
theorem AP:aH fr (.copy n x y)=false:=Eq.trans rfl rfl
theorem xI:aM fr (.copy n x y)=false:=Eq.trans rfl rfl
theorem vX:aX (.copy n x y)=false:=Eq.trans rfl rfl
theorem Ht:aL (.copy n x y)=false:=Eq.trans rfl rfl
theorem AJ:aH fr (.max3 x y z)=true:=Eq.trans rfl rfl
theorem xZ:aM fr (.max3 x y z)=false:=Eq.trans rfl rfl
theorem ud:aX (.max3 x y z)=true:=Eq.trans rfl rfl
theorem GJ:aL (.max3 x y z)=false:=Eq.trans rfl rfl
theorem Bp:aH fr (.min3 x y z)=true:=Eq.trans rfl rfl
theorem zh:aM fr (.min3 x y z)=false:=Eq.trans rfl rfl
theorem uy:aX (.min3 x y z)=true:=Eq.trans rfl rfl
theorem GP:aL (.min3 x y z)=false:=Eq.trans rfl rfl
theorem BE:aH fr (.nilc x)=true:=Eq.trans rfl rfl
theorem yV:aM fr (.nilc x)=false:=Eq.trans rfl rfl
theorem vF:aX (.nilc x)=true:=Eq.trans rfl rfl
theorem Gh:aL (.nilc x)=false:=Eq.trans rfl rfl
theorem Gr:aH fr (.mkf f xs ys)=true:=Eq.trans rfl rfl
theorem An:aM fr (.mkf f xs ys)=false:=Eq.trans rfl rfl
theorem yU:aX (.mkf f xs ys)=true:=Eq.trans rfl rfl
theorem Km:aL (.mkf f xs ys)=false:=Eq.trans rfl rfl
theorem xr:aH fr (.callV x xs)=false:=Eq.trans rfl rfl
theorem ur:aM fr (.callV x xs)=false:=Eq.trans rfl rfl
theorem sx:aX (.callV x xs)=true:=Eq.trans rfl rfl
theorem A2:aL (.callV x xs)=false:=Eq.trans rfl rfl
theorem EN:aH fr (.clr n zs x)=false:=Eq.trans rfl rfl
theorem BF:aM fr (.clr n zs x)=false:=Eq.trans rfl rfl
theorem zE:aX (.clr n zs x)=false:=Eq.trans rfl rfl
theorem JA:aL (.clr n zs x)=false:=Eq.trans rfl rfl
theorem Bq:aH fr (.slS3 n x lo hi y)=true:=Eq.trans rfl rfl
theorem xu:aM fr (.slS3 n x lo hi y)=false:=Eq.trans rfl rfl
theorem wI:aX (.slS3 n x lo hi y)=true:=Eq.trans rfl rfl
theorem EE:aL (.slS3 n x lo hi y)=false:=Eq.trans rfl rfl
theorem zn:aH fr (.bytes x)=false:=Eq.trans rfl rfl
theorem we:aM fr (.bytes x)=false:=Eq.trans rfl rfl
theorem sG:aX (.bytes x)=true:=Eq.trans rfl rfl
theorem Cl:aL (.bytes x)=false:=Eq.trans rfl rfl
theorem Pb {kx:XOp}:aH fr (.x kx xs)=tD kx:=Eq.trans rfl rfl
def BQ:XOp->Bool
 | .mput _ _=>true
 | _=>false
theorem Ke {kx:XOp}:aM fr (.x kx xs)=BQ kx:=by cases kx<;>rfl
theorem HA {kx:XOp}:aX (.x kx xs)=(BQ kx || !qQ kx):=by cases kx<;>rfl
theorem Qk {kx:XOp}:aL (.x kx xs)=false:=Eq.trans rfl rfl
attribute [simp] BQ
attribute [simp] Pb Ke HA
theorem EC:aH fr (.eqN b x)=true:=Eq.trans rfl rfl
theorem B4:aM fr (.eqN b x)=false:=Eq.trans rfl rfl
theorem xQ:aX (.eqN b x)=true:=Eq.trans rfl rfl
theorem Ja:aL (.eqN b x)=false:=Eq.trans rfl rfl
theorem C4:aH fr (.max2 x y)=true:=Eq.trans rfl rfl
theorem zX:aM fr (.max2 x y)=false:=Eq.trans rfl rfl
theorem uI:aX (.max2 x y)=true:=Eq.trans rfl rfl
theorem FJ:aL (.max2 x y)=false:=Eq.trans rfl rfl
theorem AI:aH fr (.min2 x y)=true:=Eq.trans rfl rfl
theorem zW:aM fr (.min2 x y)=false:=Eq.trans rfl rfl
theorem um:aX (.min2 x y)=true:=Eq.trans rfl rfl
theorem Gq:aL (.min2 x y)=false:=Eq.trans rfl rfl
theorem zM:aM fr (.load g a)=false:=Eq.trans rfl rfl
theorem wc:aX (.load g a)=true:=Eq.trans rfl rfl
theorem Fe:aL (.load g a)=false:=Eq.trans rfl rfl
theorem sf:aX (.store n a x)=true:=Eq.trans rfl rfl
theorem CI:aL (.store n a x)=false:=Eq.trans rfl rfl
end
attribute [simp] HG Fs Mv K8 Ak zi Ie IE Kq Lb NR Aj yq xz GA HJ A7 LD GL I3 Mo JB FA FO Gg Hj wQ Ht GJ GP Gh Km A2 JA EE Cl Ja FJ Gq Fe CI Qk
attribute [simp] zn we sG On HQ JH GW CA zG wg CG zY vL Be xA wD HD Cu zp FH AD xY zJ vN sH uR sh qC EM Bt yv FX AA xo Hf Cq yJ E9 Az zm KE Fp AF wX vK sI ui sL qL uC sD qT Ci yz uv A1 wJ vA xB uQ so Hy BD xw Cw yr uh Gy Ck xh EL BH yD FT Aa yX Ce zq vM Cn yg uf BZ xq wq Bb xx vd vG sq qJ AP xI vX AJ xZ ud Bp zh uy BE yV vF Gr An yU xr ur sx EN BF zE Bq xu wI EC B4 xQ C4 zX uI AI zW um zM wc sf
def Cy (T:Tbl)(lim k:Nat)(d:Option Nat)(rest:List VOper)(acc:List (Nat×Nat))(hp:eB)(K:St->Prop)(fr:Fr):V->Lo->Hp->Prop:=fun v L H=>fg T lim (k+1) rest acc hp K ⟨dm fr d v,L,H⟩
def mC (T:Tbl)(lim k l:Nat)(b:Bool)(d:Option Nat)(op:VOp)(rest:List VOper)(acc:List (Nat×Nat))(hp:eB)(K:St->Prop)(fr:Fr)(L:Lo)(H:Hp):Prop :=
 if b then ic T l L H (ax l fr L H op) (Cy T lim k d rest acc hp K fr) else fg T lim (k+1) rest acc hp K ⟨dm fr d dv,L,H⟩
def Ld (T:Tbl)(lim k l:Nat)(r:Option (List (Nat×Nat)×eB))(d:Option Nat)(op:VOp)(g:Option (Nat×Bool))(rest:List VOper)(K:St->Prop)(fr:Fr)(L:Lo)(H:Hp):Prop:=match r with
 | none=>False
 | some (acc,hp)=>mC T lim k l (wanted fr g) d op rest acc hp K fr L H
section
variable {T:Tbl}{lim:Nat}{Q:VExit->St->Prop}{s:St}{K:St->Prop}{fr:Fr}{L:Lo}{H:Hp}{d:Option Nat}{op:VOp}{g:Option (Nat×Bool)}{l:List Nat}{rest:List VOper}{k ll:Nat}{acc:List (Nat×Nat)}{hp:eB}
theorem FE {v:V}:Cy T lim k d rest acc hp K fr v L H=fg T lim (k+1) rest acc hp K ⟨dm fr d v,L,H⟩:=Eq.trans rfl rfl
theorem uV:mC T lim k ll true d op rest acc hp K fr L H=ic T ll L H (ax ll fr L H op) (Cy T lim k d rest acc hp K fr):=Eq.trans rfl rfl
theorem su:mC T lim k ll false d op rest acc hp K fr L H=fg T lim (k+1) rest acc hp K ⟨dm fr d dv,L,H⟩:=Eq.trans rfl rfl
theorem Cz:Ld T lim k ll (some (acc,hp)) d op g rest K fr L H=mC T lim k ll (wanted fr g) d op rest acc hp K fr L H:=Eq.trans rfl rfl
theorem Db:fg T lim k [] acc hp K s=K s:=Eq.trans rfl rfl
theorem wZ:fg T lim k (⟨d,op,g,l⟩ :: rest) acc hp K ⟨fr,L,H⟩=Ld T lim k (dP lim op ⟨fr,L,H⟩) (du ⟨d,op,g,l⟩ k ⟨fr,L,H⟩ acc hp) d op g rest K fr L H:=by
 simp only [fg,Ld,mC,ic,si]
 rfl
theorem zL {h t:List VOper}:bx T lim (.drawS h t) Q s=fg T lim 0 h [] ([],false) (jp T lim t (Q .normal)) s:=Eq.trans rfl rfl
end
attribute [simp ↓] Db wZ zL FE uV su
attribute [simp] Cz du jl dP fC
section
variable {T:Tbl}{lim:Nat}
def Cm (T:Tbl)(lim:Nat)(f:FuncId)(ps:List Nat)(nt:Nat)(Q:VExit->St->Prop)(fr:Fr)(L:Lo)(H:Hp):V->Prop
 | .func (.func h) fs cs=>h≠3999999/\aF T lim h (fs++[.yl H.length]++cs) (H++[.loop f ps (eD fr nt)]) fun _ H2=>∃f2 ps2 fr2,H2[H.length]? = some (.loop f2 ps2 fr2)/\Q .normal ⟨fr,L,H2.set H.length .dead⟩
 | _=>False
theorem zH {g:Opd}{f:FuncId}{ps:List Nat}{nt:Nat}{Q:VExit->St->Prop}{fr:Fr}{L:Lo}{H:Hp}:bx T lim (.rangeF g f ps nt) Q ⟨fr,L,H⟩=Cm T lim f ps nt Q fr L H (opd fr g):=by
 simp only [bx,Cm]
 rfl
theorem y8 {h:FuncId}{fs cs:List V}{f:FuncId}{ps:List Nat}{nt:Nat}{Q:VExit->St->Prop}{fr:Fr}{L:Lo}{H:Hp}:Cm T lim f ps nt Q fr L H (.func (.func h) fs cs) =
 (h≠3999999/\aF T lim h (fs++[.yl H.length]++cs) (H++[.loop f ps (eD fr nt)]) fun _ H2=>∃f2 ps2 fr2,H2[H.length]? = some (.loop f2 ps2 fr2)/\Q .normal ⟨fr,L,H2.set H.length .dead⟩):=Eq.trans rfl rfl
attribute [simp] zH y8
end
theorem aI.none {P:Program}:aI P (fun _=>none):=fun _ _ h=>by cases h
def aB (i:Nat)(vf:VFn)(T:Tbl):Tbl:=fun f=>if f=i then some vf else T f
theorem aI.add {P:Program}{T:Tbl}(h:aI P T){i:Nat}{vf:VFn}{fn:Func}(glob:List Nat)(hf:P.funcs[i]? = some fn)(hs:aE P glob fn=some vf)(hi:i<rB)(hn:M3 fn=true\/(P=rX/\rK glob=some (rB+i)/\(sn P (rB+i)).isSome=true)):aI P (aB i vf T):=by
 intro f vf' hv
 unfold aB at hv
 split at hv
 ·rename_i e;subst e;cases hv;exact Or.inl ⟨hi,fn,glob,hf,hs,hn⟩
 ·exact h f vf' hv
theorem aI.addR {P:Program}{T:Tbl}(h:aI P T){i:Nat}{vf:VFn}(fn:Func)(glob:List Nat)(hi:rB<=i)(hP:P=rX)(hs:qc P glob i fn=some vf):aI P (aB i vf T):=by
 intro f vf' hv
 unfold aB at hv
 split at hv
 ·rename_i e;subst e;cases hv;exact Or.inr (Or.inl ⟨hi,hP,fn,glob,hs⟩)
 ·exact h f vf' hv
theorem aI.addP {P:Program}{T:Tbl}(h:aI P T){i n:Nat}{rs:List VRes}{g:oA}(hi:i<rB)(hs:kj P i g):aI P (aB i ⟨n,rs,.prim g⟩ T):=by
 intro f vf' hv
 unfold aB at hv
 split at hv
 ·rename_i e;subst e;cases hv;exact Or.inr (Or.inr ⟨hi,g,rfl,hs⟩)
 ·exact h f vf' hv
end Go.Proofs.YtgjlhdggllakbaaGreatDoor.Vm
