import PyProof.Rows.All
import Wide.All
import OpenK.AllK
import Wide.FinOn
import Lean
import PyProof.EqAt
import PyProof.EqKinds
import PyProof.TupleCall
import PySem.Challenge.RW_lots_k32_runs_of_a_tree
set_option Elab.async false
set_option linter.all false
set_option maxRecDepth 100000
namespace PySem.W.Fast
theorem tw10210865269270275531:True:=trivial
theorem tw10222624812058674895:True:=trivial
theorem tw10521672056233424921:True:=trivial
theorem tw10589569626649181830:True:=trivial
theorem tw10675823207438275956:True:=trivial
theorem tw10832130494182283605:True:=trivial
theorem tw10950363146948515720:True:=trivial
theorem tw11082817955359747835:True:=trivial
theorem tw11394896207832298238:True:=trivial
theorem tw11847073349015184135:True:=trivial
theorem tw11906766369967402053:True:=trivial
theorem tw11965724426009693172:True:=trivial
theorem tw1215223419337772501:True:=trivial
theorem tw123425780430190694:True:=trivial
theorem tw12370602396284112838:True:=trivial
theorem tw12387740546357882320:True:=trivial
theorem tw12550179491211848435:True:=trivial
theorem tw12553372194202095479:True:=trivial
theorem tw12607833299252280851:True:=trivial
theorem tw13325477612454252437:True:=trivial
theorem tw13377247961221598857:True:=trivial
theorem tw13446737427693777912:True:=trivial
theorem tw13567933991173649259:True:=trivial
theorem tw13817533783244133982:True:=trivial
theorem tw13864864550496955908:True:=trivial
theorem tw14259272104287433220:True:=trivial
theorem tw14421836519634367210:True:=trivial
theorem tw15164492891137869459:True:=trivial
theorem tw15867277661002890038:True:=trivial
theorem tw15935237327846314835:True:=trivial
theorem tw15976594363244082938:True:=trivial
theorem tw16034436196503609587:True:=trivial
theorem tw16560360229908917365:True:=trivial
theorem tw16681631199473906502:True:=trivial
theorem tw16748448347346592504:True:=trivial
theorem tw16829909736116352611:True:=trivial
theorem tw16858892555175841342:True:=trivial
theorem tw1694763857300427327:True:=trivial
theorem tw17178933015756587883:True:=trivial
theorem tw17316187694319369656:True:=trivial
theorem tw17365374703706306205:True:=trivial
theorem tw17530364558714885693:True:=trivial
theorem tw17631863932448665215:True:=trivial
theorem tw17804700111788965827:True:=trivial
theorem tw17999203336125442847:True:=trivial
theorem tw17999500235689524243:True:=trivial
theorem tw18042605593051338047:True:=trivial
theorem tw18043102170233512369:True:=trivial
theorem tw184124907451677668:True:=trivial
theorem tw1988694263114903620:True:=trivial
theorem tw2044859552665668972:True:=trivial
theorem tw2382335370316993707:True:=trivial
theorem tw3371398480922110185:True:=trivial
theorem tw3506465055740124765:True:=trivial
theorem tw3512800132095227707:True:=trivial
theorem tw3632256719201859342:True:=trivial
theorem tw3635239473591577106:True:=trivial
theorem tw3660501837762461337:True:=trivial
theorem tw3684882547610910179:True:=trivial
theorem tw3695706161793224354:True:=trivial
theorem tw3821959069739403064:True:=trivial
theorem tw4003389614770520246:True:=trivial
theorem tw46942682893204603:True:=trivial
theorem tw4706865215961715248:True:=trivial
theorem tw4776710644572314895:True:=trivial
theorem tw4808683360384555384:True:=trivial
theorem tw4888867486000851908:True:=trivial
theorem tw5151382552514612873:True:=trivial
theorem tw5159795919723303510:True:=trivial
theorem tw5297874248908974790:True:=trivial
theorem tw5368309318354547373:True:=trivial
theorem tw5504051887964936290:True:=trivial
theorem tw5683538949707999096:True:=trivial
theorem tw5958466806508851809:True:=trivial
theorem tw6151392841833689422:True:=trivial
theorem tw6155276577494336254:True:=trivial
theorem tw6265372687795316216:True:=trivial
theorem tw6275383530400581549:True:=trivial
theorem tw6332184664211088535:True:=trivial
theorem tw6403803274442909863:True:=trivial
theorem tw6700047395920250014:True:=trivial
theorem tw6709777869241207750:True:=trivial
theorem tw7064945894861251779:True:=trivial
theorem tw7610207279606916450:True:=trivial
theorem tw7779360840759231197:True:=trivial
theorem tw8111220564917803214:True:=trivial
theorem tw8151150869945585238:True:=trivial
theorem tw8186582765028201478:True:=trivial
theorem tw8280016961773952831:True:=trivial
theorem tw8619252136929501435:True:=trivial
theorem tw8917019292937342439:True:=trivial
theorem tw8992098201444904841:True:=trivial
theorem tw9040070565948741603:True:=trivial
theorem tw9085450808531550539:True:=trivial
theorem tw9177777481649061448:True:=trivial
theorem tw9182280163708215269:True:=trivial
theorem tw9415746035713516688:True:=trivial
theorem tw9690631904543330795:True:=trivial
theorem tw9697725240393463854:True:=trivial
theorem tw9702802047480178583:True:=trivial
theorem tw9720423040589845688:True:=trivial
theorem tw9763444667085768059:True:=trivial
end PySem.W.Fast
namespace L2
open PySem PySem.Spec PyProof.Rows

noncomputable abbrev Key:=Sum Int Str
noncomputable def zbH:Key→Value→Bool
 | .inl k,v=>Value.isInt k v
 | .inr x,v=>Value.isStrOf x v
noncomputable def zb3 (w:World):Key→Int
 | .inl k=>hashInt k
 | .inr x=>hashStr w x
theorem yq:∀{k:Key} {v:Value},zbH k v=true→(∃i t,k=Sum.inl i∧v=Value.int i t)∨(∃x t,k=Sum.inr x∧v=Value.str x t)
 | .inl i,v,h=>by
  obtain ⟨t,e⟩:=Value.isInt_shape (k:=i) (v:=v) h
  exact .inl ⟨i,t,rfl,e⟩
 | .inr x,v,h=>by
  obtain ⟨t,e⟩:=Value.isStrOf_shape (x:=x) (v:=v) h
  exact .inr ⟨x,t,rfl,e⟩
theorem zb4 (a b:Int):decide ((Sum.inl a:Key)=Sum.inl b)=(a==b):=by
 by_cases e:a=b
 ·subst e;simp
 ·have h:¬(Sum.inl a:Key)=Sum.inl b:=fun q=>e (Sum.inl.inj q)
  rw [decide_eq_false h]
  exact (beq_eq_false_iff_ne.mpr e).symm
theorem zb5 (a b:Str):decide ((Sum.inr a:Key)=Sum.inr b)=decide (a=b):=by
 by_cases e:a=b
 ·subst e;simp
 ·have h:¬(Sum.inr a:Key)=Sum.inr b:=fun q=>e (Sum.inr.inj q)
  rw [decide_eq_false h,decide_eq_false e]
theorem zb6 (a:Int) (b:Str):decide ((Sum.inl a:Key)=Sum.inr b)=false:=decide_eq_false (fun q=>nomatch q)
theorem zb7 (a:Str) (b:Int):decide ((Sum.inr a:Key)=Sum.inl b)=false:=decide_eq_false (fun q=>nomatch q)

noncomputable def VW (prog:Program) (w:World):PySem.KeyKind prog w Key where
 is:=zbH
 hash:=zb3 w
 inj:=fun v a b ha hb=>by
  rcases yq ha with ⟨i,t,rfl,rfl⟩|⟨x,t,rfl,rfl⟩
  ·rcases yq hb with ⟨j,u,rfl,e⟩|⟨y,u,rfl,e⟩
   ·injection e with e1 _;rw [e1]
   ·exact nomatch e
  ·rcases yq hb with ⟨j,u,rfl,e⟩|⟨y,u,rfl,e⟩
   ·exact nomatch e
   ·injection e with e1 _;rw [e1]
 byValue:=fun k v h=>by
  rcases yq h with ⟨i,t,rfl,rfl⟩|⟨x,t,rfl,rfl⟩<;>rfl
 pyHash:=fun hv h=>by
  rcases yq hv with ⟨i,t,rfl,rfl⟩|⟨x,t,rfl,rfl⟩
  ·exact wpAny_pyHash_int h
  ·exact wpAny_pyHash_str h
 eqBool:=fun hu hv h=>by
  rcases yq hu with ⟨i,t,rfl,rfl⟩|⟨x,t,rfl,rfl⟩
  ·rcases yq hv with ⟨j,u,rfl,rfl⟩|⟨y,u,rfl,rfl⟩
   ·rw [zb4] at h;exact wpAny_eqBool_int h
   ·rw [zb6] at h;exact SeqAt.EqAt.int_str i t y u _ _ _ _ h
  ·rcases yq hv with ⟨j,u,rfl,rfl⟩|⟨y,u,rfl,rfl⟩
   ·rw [zb7] at h;exact SeqAt.EqAt.str_int x t j u _ _ _ _ h
   ·rw [zb5] at h;exact wpAny_eqBool_str h
 «strs» :=fun k x t v h=>by
  rcases yq h with ⟨i,u,rfl,e⟩|⟨y,u,rfl,e⟩
  ·exact nomatch e
  ·injection e with e1 _
   subst e1
   cases v<;>rfl

end L2

namespace L2
open PySem PySem.Spec PyProof.Rows

inductive V where
 |non|bl (b:Bool)|int (i:Int)|str (x:Str)|byt (b:Array UInt8)|flt (b:UInt64)|ref (a:Addr)|ty (n:String)
 deriving DecidableEq

noncomputable def ye:V→Value→Prop
 | .non,u=>u=Value.none
 | .bl b,u=>u=Value.bool b
 | .int i,u=>∃t,u=Value.int i t
 | .str x,u=>∃t,u=Value.str x t
 | .byt b,u=>∃t,u=Value.bytes b t
 | .flt b,u=>∃t,u=Value.float b t
 | .ref a,u=>u=Value.ref a
 | .ty n,u=>u=Value.type n

noncomputable abbrev zK:List V→List Value→Prop:=Paired ye
theorem zK.length {xs:List V} {us:List Value} (r:zK xs us):xs.length=us.length:=Paired.length r
theorem zK.get:∀{xs:List V} {us:List Value} {i:Nat} {x:V},zK xs us→xs[i]? =some x→∃u,us[i]? =some u∧ye x u
 |_,_,_,_,.nil,e=>by simp at e
 |_,_,0,_,.cons r _,e=>by simp at e;subst e;exact ⟨_,rfl,r⟩
 |_,_,i+1,x,.cons _ t,e=>by
  obtain ⟨u,h1,h2⟩:=zK.get (i:=i) (x:=x) t (by simpa using e)
  exact ⟨u,by simpa using h1,h2⟩
theorem zK.append:∀{xs ys:List V} {us ws:List Value},zK xs us→zK ys ws→zK (xs++ys) (us++ws)
 |_,_,_,_,.nil,s=>s
 |_,_,_,_,.cons r t,s=> .cons r (zK.append t s)
theorem zK.take:∀{xs:List V} {us:List Value} (n:Nat),zK xs us→zK (xs.take n) (us.take n)
 |_,_,0,_=> .nil
 |_,_,_+1,.nil=> .nil
 |_,_,n+1,.cons r t=> .cons r (zK.take n t)
theorem zK.drop:∀{xs:List V} {us:List Value} (n:Nat),zK xs us→zK (xs.drop n) (us.drop n)
 |_,_,0,r=>r
 |_,_,_+1,.nil=> .nil
 |_,_,n+1,.cons _ t=>zK.drop n t

noncomputable def zb8:Option V→Option Value→Prop
 |some v,some u=>ye v u
 |none,none=>True
 |_,_=>False
noncomputable def KV {κ:Type}:List (κ×V)→List (κ×Value)→Prop:=Paired fun (p:κ×V) (q:κ×Value)=>p.1=q.1∧ye p.2 q.2

noncomputable def kV:Key→V
 | .inl i=> .int i
 | .inr x=> .str x

inductive NK where
 |int (i:Int)|str (x:Str)|tup (l:List NK)
noncomputable instance:DecidableEq NK:=fun a b=>Classical.propDecidable (a=b)
mutual
noncomputable def zbI (w:World):NK→Int
 | .int i=>zb3 w (.inl i)
 | .str x=>zb3 w (.inr x)
 | .tup l=>reduceHash (Builtin.Tuple.tupleHashOf (Td w l))
noncomputable def Td (w:World):List NK→List Int
 |[]=>[]
 |k::r=>zbI w k::Td w r
end
mutual
noncomputable def zc0:NK→Nat
 | .int _=>0
 | .str _=>0
 | .tup l=>zbJ l+1
noncomputable def zbJ:List NK→Nat
 |[]=>0
 |k::r=>max (zc0 k) (zbJ r)
end
noncomputable def zb9 (w:World) (x:NK×Addr×Value):DictEntry:={hash:=zbI w x.1,key:= .ref x.2.1,val:=x.2.2}
inductive HO where
 /-- a list -/
 |lst (xs:List V)
 /-- a tuple (never changes) -/
 |tup (xs:List V)
 /-- a dict whose keys are ints and texts; one whose keys are tuples of ints and texts (the empty one is both) -/
 |dK (kvs:List (Key×V))|dT (kvs:List (List Key×V))
 /-- a dict whose keys are tuples of any depth: key, where it stands, value -/
 |dN (ks:List (NK×Addr×V))
 /-- a set of ints: its members, its size -/
 |set (S:Int→Bool) (n:Nat)
 /-- an instance of the class at C, its dict at dx, its attributes -/
 |ins (C dx:Addr) (fs:List (Str×V))
 /-- the dict of the instance at x -/
 |own (x:Addr)
 /-- the dict of an exception -/
 |xd (fs:List (Str×V))
 /-- a bound method, f of x -/
 |met (f x:Addr)
 /-- a range object lo, lo + 1, .. below hi -/
 |rng (lo hi:Int)
 /-- a thing that is known to the object (the script; a dict while a loop walks it): read, never written while it is so -/
 |frz (o:Obj) (u:HO)
 /-- a code object's table -/
 |tbl (ps:Array Value)
 /-- any other thing, by what is true of its one object (a def of one's own: SetO a S n := HO.ext fun h => ..) -/
 |ext (φ:Heap→Prop)

noncomputable abbrev Hp:=Addr→Option HO
noncomputable def upd (H:Hp) (a:Addr) (o:HO):Hp:=fun b=>if b=a then some o else H b
theorem yr {H:Hp} {a:Addr} {o:HO}:upd H a o a=some o:=by unfold upd;rw [if_pos rfl]
theorem zH {H:Hp} {a b:Addr} {o:HO} (h:b≠a):upd H a o b=H b:=by unfold upd;rw [if_neg h]
theorem xE {H:Hp} {a b:Addr} {o:HO} (h:H a=some o) (h':H b=none):a≠b:=by
 intro e;subst e;rw [h] at h';cases h'

section
variable (P:Program) (w:World)
noncomputable def yM (H:Hp) (h:Heap) (a:Addr):HO→Prop
 | .lst xs=>xs.length≤sizeLine∧∃(its:List Value) (n:Nat),zK xs its∧h.get? a=some {cls:= .type "list",data:= .seq its.toArray n}
 | .tup xs=>xs.length≤sizeLine∧∃its:List Value,zK xs its∧IsTup h a its.toArray
 | .dK kvs=>kvs.length≤sizeLine∧(a==sysModules)=false∧∃vs,KV kvs vs∧h.DictOf (VW P w) a vs
 | .dT kvs=>kvs.length≤sizeLine∧(a==sysModules)=false∧∃xs:List (List Key×Addr×Value),
   Paired (fun (p:List Key×V) (q:List Key×Addr×Value)=>p.1=q.1∧H q.2.1=some (.tup (p.1.map kV))∧ye p.2 q.2.2) kvs xs∧
   ∃o es ep,h.get? a=some o∧o.ExactDict∧o.data= .dict es ep∧es.toList=xs.map (entryOfKey (tupleKind (VW P w)))∧(xs.map (·.1)).Nodup
 | .dN ks=>ks.length≤sizeLine∧(a==sysModules)=false∧∃xs:List (NK×Addr×Value),Paired (fun (p:NK×Addr×V) (q:NK×Addr×Value)=>p.1=q.1∧p.2.1=q.2.1∧ye p.2.2 q.2.2) ks xs∧
   ∃o es ep,h.get? a=some o∧o.ExactDict∧o.data= .dict es ep∧es.toList=xs.map (zb9 w)∧(xs.map (·.1)).Nodup
 | .set S n=>h.SetOf (intKind P w) a S n
 | .ins C dx fs=>H dx=some (.own a)∧fs.length≤1000∧dx≠a∧h.get? a=some (PySem.W.instObj C dx)∧
   ∃mA,h.Ns1 dx mA∧(∀f,zb8 (fs.lookup f) (mA f))∧PySem.Within mA (fs.map (·.1))
 | .own _=>∃o,h.get? a=some o
 | .xd fs=>∃mA,h.Ns1 a mA∧∀f,zb8 (fs.lookup f) (mA f)
 | .rng lo hi=>∃t u v,h.get? a=some {cls:= .type "range",data:= .fields #[.int lo t,.int hi u,.int 1 v]}
 | .frz o u=>h.get? a=some o∧yM H h a u
 | .tbl ps=>h.get? a=some {cls:= .none,data:= .fields ps}
 | .met f x=>h.get? a=some (PySem.W.methodObj (.ref f) (.ref x))
 | .ext φ=>φ h∧(∃o,h.get? a=some o)∧∀h1 h2:Heap,φ h1→(∀o,h1.get? a=some o→h2.get? a=some o)→φ h2
noncomputable def HOk (H:Hp) (h:Heap):Prop:=∀a o,H a=some o→yM P w H h a o
end

section
variable {P:Program} {w:World} {H H':Hp} {h h':Heap} {a:Addr} {o:HO}
theorem yM.lt (x:yM P w H h a o):a<h.objs.size:=by
 cases o with
 |lst xs=>obtain ⟨_,_,_,_,e⟩:=x;exact Heap.lt_size e
 |tup xs=>obtain ⟨_,_,_,p⟩:=x;exact p.lt
 |dK kvs=>obtain ⟨_,_,_,_,o,_,_,e,_⟩:=x;exact Heap.lt_size e
 |dT kvs=>obtain ⟨_,_,_,_,o,_,_,e,_⟩:=x;exact Heap.lt_size e
 |dN ks=>obtain ⟨_,_,_,_,o,_,_,e,_⟩:=x;exact Heap.lt_size e
 |set S n=>obtain ⟨o,_,_,_,e,_⟩:=x;exact Heap.lt_size e
 |ins C dx fs=>obtain ⟨_,_,_,e,_⟩:=x;exact Heap.lt_size e
 |own y=>obtain ⟨_,e⟩:=x;exact Heap.lt_size e
 |xd fs=>obtain ⟨_,⟨_,_,_,e,_⟩,_⟩:=x;exact Heap.lt_size e
 |rng lo hi=>obtain ⟨_,_,_,e⟩:=x;exact Heap.lt_size e
 |frz ob u=>obtain ⟨e,_⟩:=x;exact Heap.lt_size e
 |tbl ps=>exact Heap.lt_size (show h.get? a=some _ from x)
 |met f y=>exact Heap.lt_size (show h.get? a=some _ from x)
 |ext φ=>obtain ⟨_,⟨_,e⟩,_⟩:=x;exact Heap.lt_size e
theorem Paired.mapP {α β:Type} {F G:α→β→Prop}:∀{l₁:List α} {l₂:List β},Paired F l₁ l₂→(∀a b,F a b→G a b)→Paired G l₁ l₂
 |_,_,.nil,_=> .nil
 |_,_,.cons r t,f=> .cons (f _ _ r) (Paired.mapP t f)
theorem yM.stay (x:yM P w H h a o) (k:∀b u,(b=a∨H b=some (.own a))→h.get? b=some u→h'.get? b=some u)
  (ho:∀b,H b=some (.own a)→H' b=some (.own a)) (ht:∀b xs,H b=some (.tup xs)→H' b=some (.tup xs)):yM P w H' h' a o:=by
 induction o with
 |lst xs=>obtain ⟨z,its,n,r,e⟩:=x;exact ⟨z,its,n,r,k _ _ (.inl rfl) e⟩
 |tup xs=>obtain ⟨z,its,r,ob,e,c⟩:=x;exact ⟨z,its,r,ob,k _ _ (.inl rfl) e,c⟩
 |dK kvs=>obtain ⟨z,y,vs,r,ob,es,ep,e,c⟩:=x;exact ⟨z,y,vs,r,ob,es,ep,k _ _ (.inl rfl) e,c⟩
 |dT kvs=>
  obtain ⟨z,y,xs,r,ob,es,ep,e,c⟩:=x
  exact ⟨z,y,xs,Paired.mapP r fun p q z=>⟨z.1,ht _ _ z.2.1,z.2.2⟩,ob,es,ep,k _ _ (.inl rfl) e,c⟩
 |dN ks=>obtain ⟨z,y,xs,r,ob,es,ep,e,c⟩:=x;exact ⟨z,y,xs,r,ob,es,ep,k _ _ (.inl rfl) e,c⟩
 |set S n=>obtain ⟨ob,es,ep,t,e,c⟩:=x;exact ⟨ob,es,ep,t,k _ _ (.inl rfl) e,c⟩
 |ins C dx fs=>
  obtain ⟨d,z,ne,e,mA,⟨od,es,ep,e2,c⟩,r⟩:=x
  exact ⟨ho _ d,z,ne,k _ _ (.inl rfl) e,mA,⟨od,es,ep,k _ _ (.inr d) e2,c⟩,r⟩
 |own y=>obtain ⟨ob,e⟩:=x;exact ⟨ob,k _ _ (.inl rfl) e⟩
 |xd fs=>obtain ⟨mA,⟨od,es,ep,e,c⟩,r⟩:=x;exact ⟨mA,⟨od,es,ep,k _ _ (.inl rfl) e,c⟩,r⟩
 |rng lo hi=>obtain ⟨t,u,v,e⟩:=x;exact ⟨t,u,v,k _ _ (.inl rfl) e⟩
 |frz ob u ih=>obtain ⟨e,q⟩:=x;exact ⟨k _ _ (.inl rfl) e,ih q⟩
 |tbl ps=>
  have e:h.get? a=some {cls:= .none,data:= .fields ps}:=x
  show h'.get? a=some {cls:= .none,data:= .fields ps}
  exact k a _ (.inl rfl) e
 |met f y=>
  have e:h.get? a=some (PySem.W.methodObj (.ref f) (.ref y)):=x
  show h'.get? a=some (PySem.W.methodObj (.ref f) (.ref y))
  exact k a _ (.inl rfl) e
 |ext φ=>obtain ⟨p,⟨o,e⟩,st⟩:=x;exact ⟨st _ _ p fun o q=>k _ _ (.inl rfl) q,⟨o,k _ _ (.inl rfl) e⟩,st⟩
theorem HOk.lt (x:HOk P w H h) (e:H a=some o):a<h.objs.size:=(x a o e).lt
theorem HOk.fresh (x:HOk P w H h) (e:h.objs.size≤a):H a=none:=by
 cases q:H a with
 |none=>rfl
 |some u=>exact absurd (Nat.lt_of_lt_of_le (x.lt q) e) (Nat.lt_irrefl _)
theorem HOk.kept (x:HOk P w H h) (k:∀b u,h.get? b=some u→h'.get? b=some u):HOk P w H h':=fun a o e=>
 (x a o e).stay (fun b u _ q=>k b u q) (fun _ q=>q) fun _ _ q=>q
theorem HOk.laid (x:HOk P w H h) (k:∀b u,h.get? b=some u→h'.get? b=some u) (hp:h.objs.size≤a) (new:yM P w (upd H a o) h' a o):HOk P w (upd H a o) h':=fun b u e=>by
 have hn:=x.fresh hp
 by_cases hb:b=a
 ·subst hb;rw [yr] at e;cases e;exact new
 ·rw [zH hb] at e
  exact (x b u e).stay (fun c v _ q=>k c v q) (fun c q=>by rw [zH (xE q hn)];exact q) fun c xs q=>by rw [zH (xE q hn)];exact q
end

noncomputable def Rd (H:Hp) (a:Addr) (u:HO):Prop:=H a=some u∨∃o,H a=some (.frz o u)
theorem Rd.ok {P:Program} {w:World} {H:Hp} {h:Heap} {a:Addr} {u:HO} (r:Rd H a u) (x:HOk P w H h):yM P w H h a u:=by
 rcases r with r|⟨o,r⟩
 ·exact x a u r
 ·obtain ⟨_,q⟩:=x a _ r
  exact q
noncomputable def Mut:Option HO→Prop
 |some (.lst _)=>True
 |some (.dK _)=>True
 |some (.dT _)=>True
 |some (.dN _)=>True
 |some (.set _ _)=>True
 |some (.ins _ _ _)=>True
 |some (.ext _)=>True
 |_=>False
section
variable {P:Program} {w:World} {H:Hp} {h h':Heap} {x e:Addr} {o':HO}
theorem HOk.write (ok:HOk P w H h) (mu:Mut (H x)) (he:e=x∨H e=some (.own x)) (k:∀b u,b≠e→h.get? b=some u→h'.get? b=some u) (heo:∃u,h'.get? e=some u)
  (new:yM P w (upd H x o') h' x o'):HOk P w (upd H x o') h':=fun b u q=>by
 have nown:∀c y,H c=some (.own y)→c≠x:=fun c y r z=>by subst z;rw [r] at mu;exact mu
 have ntup:∀c xs,H c=some (.tup xs)→c≠x:=fun c xs r z=>by subst z;rw [r] at mu;exact mu
 by_cases hb:b=x
 ·subst hb;rw [yr] at q;cases q;exact new
 ·rw [zH hb] at q
  by_cases hbe:b=e
  ·have q':H b=some (.own x):=by
    rcases he with z|z
    ·exact absurd (hbe.trans z) hb
    ·rw [hbe];exact z
   rw [q] at q';cases q'
   obtain ⟨v,hv⟩:=heo
   exact ⟨v,by rw [hbe];exact hv⟩
  ·refine (ok b u q).stay (fun c v hc r=>k c v ?_ r) (fun c r=>by rw [zH (nown c b r)];exact r) fun c xs r=>by rw [zH (ntup c xs r)];exact r
   rcases hc with rfl|hc
   ·exact hbe
   ·rintro rfl
    rcases he with z|z
    ·exact nown c b hc z
    ·rw [hc] at z;cases z;exact hb rfl
end

structure Un (fs ex:List Addr) (H H':Hp) (h h':Heap):Prop where
 keep:∀b o,h.get? b=some o→H b=none→b∉fs→b∉ex→h'.get? b=some o
 slot:∀b o,h.get? b=some o→H b=none→b∈fs→b∉ex→∃sl,h'.get? b=some {o with slots:=sl}
 free:∀b o,h.get? b=some o→H b=none→b∉ex→H' b=none
 there:∀b o,h.get? b=some o→b∉ex→∃o',h'.get? b=some o'
 tups:∀b xs,H b=some (.tup xs)→H' b=some (.tup xs)
 frzs:∀b o u,H b=some (.frz o u)→H' b=some (.frz o u)
 tbls:∀b ps,H b=some (.tbl ps)→∃more,H' b=some (.tbl (ps++more))
section
variable {fs fs' ex ex':List Addr} {H H1 H2:Hp} {h h1 h2 h':Heap} {a x e:Addr} {o:HO}
theorem Un.any (u:Un fs ex H H1 h h1) {b:Addr} {ob:Obj} (q:h.get? b=some ob) (n:H b=none) (hx:b∉ex):∃sl,h1.get? b=some {ob with slots:=sl}:=by
 by_cases hb:b∈fs
 ·exact u.slot b ob q n hb hx
 ·exact ⟨ob.slots,u.keep b ob q n hb hx⟩
theorem Un.trans (a:Un fs ex H H1 h h1) (b:Un fs ex H1 H2 h1 h2):Un fs ex H H2 h h2 where
 keep:=fun c ob q n hc hx=>b.keep c ob (a.keep c ob q n hc hx) (a.free c ob q n hx) hc hx
 slot:=fun c ob q n hc hx=>by
  obtain ⟨sl,e1⟩:=a.slot c ob q n hc hx
  obtain ⟨sl',e2⟩:=b.slot c _ e1 (a.free c ob q n hx) hc hx
  exact ⟨sl',e2⟩
 free:=fun c ob q n hx=>by
  obtain ⟨o',e1⟩:=a.there c ob q hx
  exact b.free c o' e1 (a.free c ob q n hx) hx
 there:=fun c ob q hx=>by
  obtain ⟨o',e1⟩:=a.there c ob q hx
  exact b.there c o' e1 hx
 tups:=fun c xs q=>b.tups c xs (a.tups c xs q)
 frzs:=fun c ob xs q=>b.frzs c ob xs (a.frzs c ob xs q)
 tbls:=fun c ps q=>by
  obtain ⟨m1,e1⟩:=a.tbls c ps q
  obtain ⟨m2,e2⟩:=b.tbls c _ e1
  exact ⟨m1++m2,by rw [e2,Array.append_assoc]⟩
theorem Un.kept (k:∀b u,h.get? b=some u→h'.get? b=some u):Un fs ex H H h h':=
 ⟨fun b ob q _ _ _=>k b ob q,fun b ob q _ _ _=>⟨ob.slots,k b ob q⟩,fun _ _ _ n _=>n,fun b ob q _=>⟨ob,k b ob q⟩,fun _ _ q=>q,fun _ _ _ q=>q,fun _ ps q=>⟨#[],by rw [q];simp⟩⟩
theorem Un.refl:Un fs ex H H h h:=Un.kept fun _ _ q=>q
theorem Un.laid (k:∀b u,h.get? b=some u→h'.get? b=some u) (hp:h.objs.size≤a) (hn:H a=none):Un fs ex H (upd H a o) h h' where
 keep:=fun b u q _ _ _=>k b u q
 slot:=fun b u q _ _ _=>⟨u.slots,k b u q⟩
 free:=fun b u q n _=>by rw [zH (Nat.ne_of_lt (Nat.lt_of_lt_of_le (Heap.lt_size q) hp))];exact n
 there:=fun b u q _=>⟨u,k b u q⟩
 tups:=fun b xs q=>by rw [zH (xE q hn)];exact q
 frzs:=fun b u xs q=>by rw [zH (xE q hn)];exact q
 tbls:=fun b ps q=>⟨#[],by rw [zH (xE q hn),q];simp⟩
theorem Un.write (mu:Mut (H x)) (he:e=x∨H e=some (.own x)) (k:∀b u,b≠e→h.get? b=some u→h'.get? b=some u) (heo:∃u,h'.get? e=some u):Un fs ex H (upd H x o) h h':=by
 have hx:∀b,H b=none→b≠x:=fun b n z=>by subst z;rw [n] at mu;exact mu
 have hb:∀b,H b=none→b≠e:=fun b n z=>by
  subst z
  rcases he with r|r
  ·exact hx b n r
  ·rw [n] at r;cases r
 have hm:∀b u,H b=some u→¬Mut (some u)→b≠x:=fun b u q nm z=>by subst z;rw [q] at mu;exact nm mu
 refine ⟨fun b u q n _ _=>k b u (hb b n) q,fun b u q n _ _=>⟨u.slots,k b u (hb b n) q⟩,fun b u q n _=>by rw [zH (hx b n)];exact n,fun b u q _=> ?_,
  fun b xs q=>by rw [zH (hm b _ q fun z=>z)];exact q,fun b u xs q=>by rw [zH (hm b _ q fun z=>z)];exact q,fun b ps q=>⟨#[],by rw [zH (hm b _ q fun z=>z),q];simp⟩⟩
 by_cases hbe:b=e
 ·subst hbe;exact heo
 ·exact ⟨u,k b u hbe q⟩
end

noncomputable def trk (h:Heap) (H:Hp):List Addr:=(List.range h.objs.size).filter fun a=>(H a).isSome
noncomputable def XA (h:Heap) (H:Hp):Heap:=PySem.W.hideAll h (trk h H)
theorem Uw (h:Heap) (H:Hp):(XA h H).objs.size=h.objs.size:=PySem.W.hideAll_size _ _
theorem Te {h:Heap} {H:Hp} {b:Addr} {o:Obj} (e:h.get? b=some o) (n:H b=none):(XA h H).get? b=some o:=
 PySem.W.hideAll_get _ e fun hm=>by
  have q:(H b).isSome=true:=(List.mem_filter.mp hm).2
  rw [n] at q;simp at q
theorem za1 {h:Heap} {H:Hp} {b:Addr} {o:Obj} (e:(XA h H).get? b=some o):h.get? b=some o∧H b=none:=by
 have e':h.get? b=some o:=PySem.W.of_hideAll (trk h H) e
 refine ⟨e',?_⟩
 cases q:H b with
 |none=>rfl
 |some x=>
  have hm:b∈trk h H:=List.mem_filter.mpr ⟨List.mem_range.mpr (Heap.lt_size e'),by simp [q]⟩
  have z:(XA h H).get? b=none:=PySem.W.hideAll_none (trk h H) hm
  rw [z] at e;cases e

end L2

namespace L2
open PySem PySem.Spec PyProof.Rows

structure Mod (K:PySem.W.Frag) (mg:Str→Option Value) (base:Heap):Prop where
 kin:K.In base
 glob:base.Ns mainGlobals mg
 blt:∃mb,base.Ns builtinsNs mb∧∀x:Str,x≠"__name__"→mb x=bootBuiltins x
 nolimit:base.NoLimit

/-- the context: a def's body (or a comprehension's block) running. base: fixed through the whole law; s₀, H₀: the entry; outer: the frames whose slots others may change (a def's callers); stack: all frames that run;
   ex: iterators that were made ahead of the entry and are walked here (a comprehension's); fn: the names whose cells were made at the entry (a def: all; a comprehension's block: its own); calm: not within an except suite; pn: pins that every state bears; xe: what is wanted of an exception that leaves the code -/
structure Cx where
 prog:Program
 w:World
 K:PySem.W.Frag
 mg:Str→Option Value
 base:Heap
 A:Around
 N:List Str
 s₀:Shared
 H₀:Hp
 env:Env
 outer:List Env
 stack:List Env
 ex:List Addr
 fn:Str→Bool
 calm:Bool
 pn:List (Addr×Obj)
 xe:Value→Shared→Prop
noncomputable def frs (l:List Env):List Addr:=l.filterMap (·.frame)
noncomputable abbrev Cx.fs (X:Cx):List Addr:=frs X.outer

noncomputable def Vis (sc:Scope) (x:Str):Prop:=sc.names.lookup x=some .local∨sc.names.lookup x=some .cell∨sc.names.lookup x=some .free
noncomputable def Loc (sc:Scope) (x:Str):Prop:=sc.names.lookup x=some .local∨sc.names.lookup x=some .cell
noncomputable def zdS (env:Env) (h:Heap) (m:Str→Option Value) (x:Str) (u:Value):Prop:=
 (env.kindOf x=some .local∧m x=some u)∨((env.kindOf x=some .cell∨env.kindOf x=some .free)∧∃c,env.cells.lookup x=some c∧h.IsCell c (some u))

structure Cx.Ok (X:Cx):Prop where
 mod:Mod X.K X.mg X.base
 kind:X.env.scope.kind= .function
 glob:X.env.globals=mainGlobals
 blt:X.env.builtins=builtinsNs
 above:X.s₀.heap.objs.size≤X.env.locals
 inj:∀x y c,X.env.cells.lookup x=some c→X.env.cells.lookup y=some c→x=y
 has:∀x,(X.env.kindOf x=some .cell∨X.env.kindOf x=some .free)→∃c,X.env.cells.lookup x=some c
 cab:∀x c,X.fn x=true→X.env.cells.lookup x=some c→X.s₀.heap.objs.size≤c
 hd:X.calm=true→X.A.handled=none
 frames:X.A.frames=some X.stack
 stk:X.stack=X.outer∨(X.stack=X.env::X.outer∧X.env.frame=some X.env.locals)
 exf:∀b∈X.ex,b≠X.env.locals∧∀x c,X.env.cells.lookup x=some c→c≠b
 bs:∀b o,X.base.get? b=some o→X.s₀.heap.get? b=some o∧X.H₀ b=none
 bsz:X.base.objs.size≤X.s₀.heap.objs.size
 noex:∀b o,X.base.get? b=some o→b∉X.ex
 exfs:∀b∈X.ex,b∉X.fs
 funs:X.s₀.heap.FunFrames X.base X.outer
 frf:∀b∈X.fs,X.H₀ b=none

structure Inv (X:Cx) (pins:List (Addr×Obj)) (σ:List (Option V)) (H:Hp) (s:Shared):Prop where
 ok:X.Ok
 os:s.os=X.s₀.os
 bare:AllBare s.gens
 base:Un X.fs X.ex X.H₀ H X.s₀.heap s.heap
 loc:∃m,s.heap.Ns X.env.locals m∧∀(i:Nat) (x:Str) (v:V),X.N[i]? =some x→σ[i]? =some (some v)→Vis X.env.scope x→∃u,ye v u∧zdS X.env s.heap m x u
 cell:∀x c,X.env.cells.lookup x=some c→∃v,s.heap.IsCell c v
 free:H X.env.locals=none
 freeC:∀x c,X.env.cells.lookup x=some c→H c=none
 pin:∀p∈X.pn++pins,s.heap.get? p.1=some p.2∧H p.1=none∧p.1≠X.env.locals∧p.1∉X.fs∧∀v,p.2.data≠ .cell v
 hok:HOk X.prog X.w H s.heap
 len:σ.length=X.N.length

section
variable {X:Cx} {pins:List (Addr×Obj)} {σ:List (Option V)} {H H':Hp} {s:Shared} {h':Heap}

theorem Cx.Ok.nofr (ok:X.Ok) {b:Addr} {o:Obj} (e:X.base.get? b=some o):b∉X.fs:=fun hb=>by
 have:=(ok.funs.mem hb).1
 rw [e] at this;cases this
theorem Inv.bs (I:Inv X pins σ H s):∀b o,X.base.get? b=some o→s.heap.get? b=some o∧H b=none:=fun b o e=>
 ⟨I.base.keep b o (I.ok.bs b o e).1 (I.ok.bs b o e).2 (I.ok.nofr e) (I.ok.noex b o e),I.base.free b o (I.ok.bs b o e).1 (I.ok.bs b o e).2 (I.ok.noex b o e)⟩
theorem Inv.bk (I:Inv X pins σ H s):∀b o,X.base.get? b=some o→s.heap.get? b=some o:=fun b o e=>(I.bs b o e).1
theorem Inv.mod (I:Inv X pins σ H s):Mod X.K X.mg X.base:=I.ok.mod
theorem Inv.kIn (I:Inv X pins σ H s):X.K.In s.heap:=I.ok.mod.kin.keeps I.bk
theorem Inv.lt (I:Inv X pins σ H s):X.env.locals<s.heap.objs.size:=let ⟨_,hn,_⟩:=I.loc;hn.lt
theorem Inv.sz (I:Inv X pins σ H s):X.s₀.heap.objs.size≤s.heap.objs.size:=Nat.le_trans I.ok.above (Nat.le_of_lt I.lt)
theorem Inv.nofs (I:Inv X pins σ H s) {a:Addr} (h:s.heap.objs.size≤a):a∉X.fs:=fun hb=>by
 obtain ⟨_,o,ho,_⟩:=I.ok.funs.mem hb
 exact absurd (Nat.lt_of_lt_of_le (Heap.lt_size ho) (Nat.le_trans I.sz h)) (Nat.lt_irrefl _)
theorem Inv.cne (I:Inv X pins σ H s):∀x c,X.env.cells.lookup x=some c→c≠X.env.locals:=fun x c e z=>by
 obtain ⟨v,o,ho,hd⟩:=I.cell x c e
 obtain ⟨m,⟨o',es,ep,ho',hd',_⟩,_⟩:=I.loc
 rw [z,ho'] at ho;cases ho;rw [hd'] at hd;cases hd
theorem Inv.funs (I:Inv X pins σ H s):s.heap.FunFrames X.base X.outer:=by
 have all:∀(l:List Env),(∀b∈frs l,b∈X.fs)→X.s₀.heap.FunFrames X.base l→s.heap.FunFrames X.base l:=by
  intro l
  induction l with
  |nil=>intro _ _;trivial
  |cons env r ih=>
   intro hs hl
   obtain ⟨hk,⟨L,o,hf,hn,ho,hd⟩,hr⟩:=hl
   have hL:L∈X.fs:=hs L (by unfold frs;rw [List.filterMap_cons,hf];exact List.mem_cons_self)
   obtain ⟨sl,e⟩:=I.base.slot L o ho (I.ok.frf L hL) hL fun z=>I.ok.exfs L z hL
   exact ⟨hk,⟨L,_,hf,hn,e,hd⟩,ih (fun b hb=>hs b (by unfold frs;rw [List.filterMap_cons,hf];exact List.mem_cons_of_mem _ hb)) hr⟩
 exact all X.outer (fun _ hb=>hb) I.ok.funs

theorem Inv.stack (I:Inv X pins σ H s):s.heap.FunFrames X.base X.stack:=by
 rcases I.ok.stk with e|⟨e,hf⟩
 ·rw [e];exact I.funs
 ·rw [e]
  obtain ⟨m,hn,_⟩:=I.loc
  refine .cons (by rw [I.ok.kind];decide) hf hn ?_ I.funs
  exact Heap.get?_none_of_le (Nat.le_trans I.ok.bsz I.ok.above)
theorem Inv.stkSub (I:Inv X pins σ H s):∀b∈frs X.stack,b∈X.env.locals::X.fs:=fun b hb=>by
 rcases I.ok.stk with e|⟨e,hf⟩
 ·rw [e] at hb;exact List.mem_cons_of_mem _ hb
 ·rw [e] at hb
  unfold frs at hb
  rw [List.filterMap_cons,hf] at hb
  exact hb
theorem Inv.stkFree (I:Inv X pins σ H s):∀b∈frs X.stack,H b=none:=fun b hb=>by
 rcases List.mem_cons.mp (I.stkSub b hb) with e|hb
 ·rw [e];exact I.free
 ·obtain ⟨_,o,ho,_⟩:=I.ok.funs.mem hb
  exact I.base.free b o ho (I.ok.frf b hb) fun z=>I.ok.exfs b z hb

theorem Inv.step {g':Array GenState} {t':Nat} {d':Drawn} {ch:List Addr} (I:Inv X pins σ H s)
  (hch:∀b∈ch,(b∈X.ex∨X.s₀.heap.objs.size≤b)∧b≠X.env.locals∧(∀x c,X.env.cells.lookup x=some c→c≠b)∧∀p∈X.pn++pins,p.1≠b)
  (keep:∀b o,b≠X.env.locals→b∉X.fs→b∉ch→s.heap.get? b=some o→H b=none→h'.get? b=some o)
  (slot:∀b o,b≠X.env.locals→b∈X.fs→b∉ch→s.heap.get? b=some o→H b=none→∃sl,h'.get? b=some {o with slots:=sl}) (free:∀b o,b∉ch→s.heap.get? b=some o→H b=none→H' b=none)
  (there:∀b o,b∉ch→s.heap.get? b=some o→∃o',h'.get? b=some o')
  (tups:∀b xs,H b=some (.tup xs)→H' b=some (.tup xs)) (frzs:∀b o u,H b=some (.frz o u)→H' b=some (.frz o u)) (tbls:∀b ps,H b=some (.tbl ps)→∃more,H' b=some (.tbl (ps++more)))
  (ns:∀m,s.heap.Ns X.env.locals m→h'.Ns X.env.locals m) (hok:HOk X.prog X.w H' h') (hg:AllBare g'):
  Inv X pins σ H' {s with heap:=h',gens:=g',drawn:=d',toks:=t'}:=by
 have neL:∀b o,X.s₀.heap.get? b=some o→b≠X.env.locals:=fun b o e=>Nat.ne_of_lt (Nat.lt_of_lt_of_le (Heap.lt_size e) I.ok.above)
 have neC:∀b o,X.s₀.heap.get? b=some o→b∉X.ex→b∉ch:=fun b o e hx hb=>by
  rcases (hch b hb).1 with z|z
  ·exact hx z
  ·exact absurd (Nat.lt_of_lt_of_le (Heap.lt_size e) z) (Nat.lt_irrefl _)
 have cellK:∀x c,X.env.cells.lookup x=some c→∀v,s.heap.IsCell c v→h'.IsCell c v:=fun x c e v ⟨o,ho,hd⟩=>by
  have nch:c∉ch:=fun z=>(hch c z).2.2.1 x c e rfl
  by_cases hc:c∈X.fs
  ·obtain ⟨sl,q⟩:=slot c o (I.cne x c e) hc nch ho (I.freeC x c e)
   exact ⟨_,q,hd⟩
  ·exact ⟨o,keep c o (I.cne x c e) hc nch ho (I.freeC x c e),hd⟩
 refine ⟨I.ok,I.os,hg,⟨fun b o e n hb hx=> ?_,fun b o e n hb hx=> ?_,fun b o e n hx=> ?_,fun b o e hx=> ?_,fun b xs e=>tups b xs (I.base.tups b xs e),fun b o xs e=>frzs b o xs (I.base.frzs b o xs e),fun b ps e=> ?_⟩,?_,fun x c e=> ?_,?_,fun x c e=> ?_,fun p hp=> ?_,hok,I.len⟩
 ·exact keep b o (neL b o e) hb (neC b o e hx) (I.base.keep b o e n hb hx) (I.base.free b o e n hx)
 ·obtain ⟨sl,e1⟩:=I.base.slot b o e n hb hx
  obtain ⟨sl',e2⟩:=slot b _ (neL b o e) hb (neC b o e hx) e1 (I.base.free b o e n hx)
  exact ⟨sl',e2⟩
 ·obtain ⟨o',e1⟩:=I.base.there b o e hx
  exact free b o' (neC b o e hx) e1 (I.base.free b o e n hx)
 ·obtain ⟨o',e1⟩:=I.base.there b o e hx
  exact there b o' (neC b o e hx) e1
 ·obtain ⟨m1,e1⟩:=I.base.tbls b ps e
  obtain ⟨m2,e2⟩:=tbls b _ e1
  exact ⟨m1++m2,by rw [e2,Array.append_assoc]⟩
 ·obtain ⟨m,hn,hl⟩:=I.loc
  refine ⟨m,ns m hn,fun i x v e1 e2 e3=> ?_⟩
  obtain ⟨u,r,l⟩:=hl i x v e1 e2 e3
  refine ⟨u,r,?_⟩
  rcases l with l|⟨k,c,e,z⟩
  ·exact .inl l
  ·exact .inr ⟨k,c,e,cellK x c e _ z⟩
 ·obtain ⟨v,z⟩:=I.cell x c e
  exact ⟨v,cellK x c e v z⟩
 ·obtain ⟨m,⟨o,_,_,ho,_⟩,_⟩:=I.loc
  exact free _ o (fun z=>(hch _ z).2.1 rfl) ho I.free
 ·obtain ⟨v,o,ho,hd⟩:=I.cell x c e
  exact free c o (fun z=>(hch c z).2.2.1 x c e rfl) ho (I.freeC x c e)
 ·obtain ⟨e,n,ne,nf,d⟩:=I.pin p hp
  have nch:p.1∉ch:=fun z=>(hch p.1 z).2.2.2 p hp rfl
  exact ⟨keep p.1 p.2 ne nf nch e n,free p.1 p.2 nch e n,ne,nf,d⟩
theorem Inv.un {t':Nat} (I:Inv X pins σ H s) (u:Un X.fs [] H H' s.heap h') (hok:HOk X.prog X.w H' h'):Inv X pins σ H' {s with heap:=h',toks:=t'}:=by
 obtain ⟨m,⟨o,es,ep,ho,r⟩,_⟩:=id I.loc
 obtain ⟨sl,hL⟩:=u.any ho I.free (by simp)
 exact I.step (g':=s.gens) (d':=s.drawn) (ch:=[]) (fun _ z=>nomatch z) (fun b o _ hb _ e n=>u.keep b o e n hb (by simp)) (fun b o _ hb _ e n=>u.slot b o e n hb (by simp)) (fun b o _ e n=>u.free b o e n (by simp)) (fun b o _ e=>u.there b o e (by simp)) u.tups u.frzs u.tbls (fun m' hm=>by
  obtain ⟨o',es',ep',ho',r'⟩:=hm
  rw [ho] at ho';cases ho'
  exact ⟨_,es',ep',hL,r'⟩) hok I.bare
theorem Inv.call {g':Array GenState} {t':Nat} {d':Drawn} {ch:List Addr} (I:Inv X pins σ H s) (u:Un (frs X.stack) ch H H' s.heap h') (hok:HOk X.prog X.w H' h') (hg:AllBare g')
  (hch:∀b∈ch,(b∈X.ex∨X.s₀.heap.objs.size≤b)∧b≠X.env.locals∧(∀x c,X.env.cells.lookup x=some c→c≠b)∧∀p∈X.pn++pins,p.1≠b):
  Inv X pins σ H' {s with heap:=h',gens:=g',drawn:=d',toks:=t'}:=by
 obtain ⟨m,⟨o,es,ep,ho,r⟩,_⟩:=id I.loc
 obtain ⟨sl,hL⟩:=u.any ho I.free fun z=>(hch _ z).2.1 rfl
 exact I.step (ch:=ch) hch (fun b o hL hb hc e n=>u.keep b o e n (fun z=>(List.mem_cons.mp (I.stkSub b z)).elim hL hb) hc) (fun b o _ _ hc e n=>u.any e n hc) (fun b o hc e n=>u.free b o e n hc) (fun b o hc e=>u.there b o e hc) u.tups u.frzs u.tbls (fun m' hm=>by
  obtain ⟨o',es',ep',ho',r'⟩:=hm
  rw [ho] at ho';cases ho'
  exact ⟨_,es',ep',hL,r'⟩) hok hg
theorem Inv.turned {t':Nat} {it:Addr} (I:Inv X pins σ H s) (k:∀b o,b≠it→s.heap.get? b=some o→h'.get? b=some o) (hn:H it=none) (hL:it≠X.env.locals)
  (h1:it∈X.ex∨X.s₀.heap.objs.size≤it) (h2:∀x c,X.env.cells.lookup x=some c→c≠it) (h3:∀p∈X.pn++pins,p.1≠it):Inv X pins σ H {s with heap:=h',toks:=t'}:=by
 have nit:∀b u,H b=some u→b≠it:=fun b u e z=>by rw [z,hn] at e;cases e
 refine I.step (g':=s.gens) (d':=s.drawn) (ch:=[it]) (fun b hb=> ?_) (fun b o _ _ hc e _=>k b o (fun z=>hc (by simp [z])) e) (fun b o _ _ hc e _=>⟨o.slots,k b o (fun z=>hc (by simp [z])) e⟩) (fun _ _ _ _ n=>n)
  (fun b o hc e=>⟨o,k b o (fun z=>hc (by simp [z])) e⟩) (fun _ _ e=>e) (fun _ _ _ e=>e) (fun b ps e=>⟨#[],by rw [e];simp⟩) (fun m hm=> ?_) (fun b u e=> ?_) I.bare
 ·have e:b=it:=by simpa using hb
  subst e
  exact ⟨h1,hL,h2,h3⟩
 ·obtain ⟨o,es,ep,ho,r⟩:=hm
  exact ⟨o,es,ep,k _ o (Ne.symm hL) ho,r⟩
 ·refine (I.hok b u e).stay (fun c v hc q=>k c v ?_ q) (fun _ q=>q) fun _ _ q=>q
  rcases hc with z|z
  ·rw [z];exact nit b u e
  ·exact nit c _ z
theorem Inv.tok (I:Inv X pins σ H s) (t:Nat):Inv X pins σ H {s with toks:=t}:=I.un (h':=s.heap) (t':=t) Un.refl I.hok
theorem Inv.kept {t':Nat} (I:Inv X pins σ H s) (k:∀b u,s.heap.get? b=some u→h'.get? b=some u):Inv X pins σ H {s with heap:=h',toks:=t'}:=I.un (Un.kept k) (I.hok.kept k)
theorem Inv.laid {a:Addr} {o:HO} {t':Nat} (I:Inv X pins σ H s) (k:∀b u,s.heap.get? b=some u→h'.get? b=some u) (hp:s.heap.objs.size≤a) (new:yM X.prog X.w (upd H a o) h' a o):
  Inv X pins σ (upd H a o) {s with heap:=h',toks:=t'}:=I.un (Un.laid k hp (I.hok.fresh hp)) (I.hok.laid k hp new)
theorem Inv.write {x e:Addr} {o:HO} {t':Nat} (I:Inv X pins σ H s) (mu:Mut (H x)) (he:e=x∨H e=some (.own x)) (k:∀b u,b≠e→s.heap.get? b=some u→h'.get? b=some u) (heo:∃u,h'.get? e=some u)
  (new:yM X.prog X.w (upd H x o) h' x o):Inv X pins σ (upd H x o) {s with heap:=h',toks:=t'}:=I.un (Un.write mu he k heo) (I.hok.write mu he k heo new)
theorem Inv.weak {σ':List (Option V)} (I:Inv X pins σ H s) (hl:σ'.length=σ.length) (w:∀(i:Nat) v,σ'[i]? =some (some v)→σ[i]? =some (some v)):Inv X pins σ' H s:=
 ⟨I.ok,I.os,I.bare,I.base,let ⟨m,hn,hl'⟩:=I.loc;⟨m,hn,fun i x v e1 e2 e3=>hl' i x v e1 (w i v e2) e3⟩,I.cell,I.free,I.freeC,I.pin,I.hok,hl.trans I.len⟩
theorem Inv.pins_of {pins':List (Addr×Obj)} (I:Inv X pins σ H s) (h:∀p∈pins',s.heap.get? p.1=some p.2∧H p.1=none∧p.1≠X.env.locals∧p.1∉X.fs∧∀v,p.2.data≠ .cell v):Inv X pins' σ H s:=
 ⟨I.ok,I.os,I.bare,I.base,I.loc,I.cell,I.free,I.freeC,fun p hp=>(List.mem_append.mp hp).elim (fun z=>I.pin p (List.mem_append_left _ z)) (h p),I.hok,I.len⟩

theorem Wq {N:List Str} (hN:N.Nodup) {i j:Nat} {x:Str} (a:N[i]? =some x) (b:N[j]? =some x):i=j:=by
 obtain ⟨h1,e1⟩:=List.getElem?_eq_some_iff.mp a
 obtain ⟨h2,e2⟩:=List.getElem?_eq_some_iff.mp b
 exact (List.getElem_inj hN).mp (e1.trans e2.symm)

theorem Ux {M:Model} {A:Around} {E:Value→Shared→Prop} {i:Nat} {x:Str} {v:V} {u:Value} {Q:Unit→Shared→Prop} (I:Inv X pins σ H s) (hN:X.N.Nodup) (hi:X.N[i]? =some x) (hx:Loc X.env.scope x) (r:ye v u)
  (h:∀s',Inv X pins (σ.set i (some v)) H s'→(∃a,Heap.SameBut a s.heap s'.heap∧(a=X.env.locals∨X.env.cells.lookup x=some a))→Q () s') (hf:X.fn x=true∨X.env.scope.names.lookup x=some .local:=by first|exact .inl rfl|exact .inr rfl|assumption):wpAny M A (storeName X.env x u) Q E s:=by
 obtain ⟨m,hn,hl⟩:=id I.loc
 have hcls:(X.env.scope.kind== .class||(X.env.scope.kind== .module&&X.env.locals !=X.env.globals))=false:=by rw [I.ok.kind];rfl
 have hiσ:i<σ.length:=by rw [I.len];exact (List.getElem?_eq_some_iff.mp hi).1
 have cne:=I.cne
 have tracked:∀{a:Addr} {h':Heap},(∃o,s.heap.get? a=some o∧H a=none)→Heap.SameBut a s.heap h'→HOk X.prog X.w H h':=fun {a h'} ha hs b ob e=>by
  obtain ⟨_,_,hfree⟩:=ha
  refine (I.hok b ob e).stay (fun c w' hc q=>(hs.2 c ?_).trans q) (fun _ q=>q) fun _ _ q=>q
  rintro rfl
  rcases hc with rfl|hc
  ·rw [hfree] at e;cases e
  ·rw [hfree] at hc;cases hc
 rcases hx with hk|hk
 ·refine wpAny_storeName_local hk hn (fun h' hn' hs=> ?_) hcls
  obtain ⟨oL,_,_,hoL,_⟩:=id hn
  refine h _ ⟨I.ok,I.os,I.bare,⟨fun b o e n hb hx=> ?_,fun b o e n hb hx=> ?_,I.base.free,fun b o e hx=> ?_,I.base.tups,I.base.frzs,I.base.tbls⟩,⟨_,hn',fun j y v' e1 e2 e3=> ?_⟩,fun y c e=> ?_,I.free,I.freeC,fun p hp=> ?_,tracked ⟨oL,hoL,I.free⟩ hs,by simpa using I.len⟩ ⟨_,hs,.inl rfl⟩
  ·exact (hs.2 b (Nat.ne_of_lt (Nat.lt_of_lt_of_le (Heap.lt_size e) I.ok.above))).trans (I.base.keep b o e n hb hx)
  ·obtain ⟨sl,e1⟩:=I.base.slot b o e n hb hx
   exact ⟨sl,(hs.2 b (Nat.ne_of_lt (Nat.lt_of_lt_of_le (Heap.lt_size e) I.ok.above))).trans e1⟩
  ·obtain ⟨o',e1⟩:=I.base.there b o e hx
   exact ⟨o',(hs.2 b (Nat.ne_of_lt (Nat.lt_of_lt_of_le (Heap.lt_size e) I.ok.above))).trans e1⟩
  ·by_cases hj:j=i
   ·subst hj
    rw [hi] at e1;cases e1
    rw [List.getElem?_set_self hiσ] at e2
    cases e2
    exact ⟨u,r,.inl ⟨hk,by simp⟩⟩
   ·rw [List.getElem?_set_ne (Ne.symm hj)] at e2
    obtain ⟨u',r',q⟩:=hl j y v' e1 e2 e3
    refine ⟨u',r',?_⟩
    rcases q with ⟨k,e⟩|⟨k,c,e,z⟩
    ·refine .inl ⟨k,?_⟩
     have:y≠x:=fun e=>hj (Wq hN e1 (e ▸ hi))
     simp [this,e]
    ·exact .inr ⟨k,c,e,z.sameBut hs (cne y c e)⟩
  ·obtain ⟨w',z⟩:=I.cell y c e
   exact ⟨w',z.sameBut hs (cne y c e)⟩
  ·obtain ⟨e,n,ne,nf,d⟩:=I.pin p hp
   exact ⟨(hs.2 p.1 ne).trans e,n,ne,nf,d⟩
 ·have hfn:X.fn x=true:=by
   rcases hf with z|z
   ·exact z
   ·rw [z] at hk;cases hk
  obtain ⟨c,hc⟩:=I.ok.has x (.inl hk)
  obtain ⟨w',z⟩:=I.cell x c hc
  refine wpAny_storeName_cell I.ok.kind hk hc z (fun h' hc' hs=> ?_)
  obtain ⟨oc,hoc,hocd⟩:=id z
  refine h {s with heap:=h'} ⟨I.ok,I.os,I.bare,⟨fun b o e n hb hx=> ?_,fun b o e n hb hx=> ?_,I.base.free,fun b o e hx=> ?_,I.base.tups,I.base.frzs,I.base.tbls⟩,⟨m,hn.sameBut hs (Ne.symm (cne x c hc)),fun j y v' e1 e2 e3=> ?_⟩,fun y c' e=> ?_,I.free,I.freeC,fun p hp=> ?_,tracked ⟨oc,hoc,I.freeC x c hc⟩ hs,by simpa using I.len⟩ ⟨c,hs,.inr hc⟩
  ·exact (hs.2 b (Nat.ne_of_lt (Nat.lt_of_lt_of_le (Heap.lt_size e) (I.ok.cab x c hfn hc)))).trans (I.base.keep b o e n hb hx)
  ·obtain ⟨sl,e1⟩:=I.base.slot b o e n hb hx
   exact ⟨sl,(hs.2 b (Nat.ne_of_lt (Nat.lt_of_lt_of_le (Heap.lt_size e) (I.ok.cab x c hfn hc)))).trans e1⟩
  ·obtain ⟨o',e1⟩:=I.base.there b o e hx
   exact ⟨o',(hs.2 b (Nat.ne_of_lt (Nat.lt_of_lt_of_le (Heap.lt_size e) (I.ok.cab x c hfn hc)))).trans e1⟩
  ·by_cases hj:j=i
   ·subst hj
    rw [hi] at e1;cases e1
    rw [List.getElem?_set_self hiσ] at e2
    cases e2
    exact ⟨u,r,.inr ⟨.inl hk,c,hc,hc'⟩⟩
   ·rw [List.getElem?_set_ne (Ne.symm hj)] at e2
    obtain ⟨u',r',q⟩:=hl j y v' e1 e2 e3
    refine ⟨u',r',?_⟩
    rcases q with q|⟨k,c',e,z'⟩
    ·exact .inl q
    ·refine .inr ⟨k,c',e,z'.sameBut hs ?_⟩
     rintro rfl
     exact hj (Wq hN e1 (I.ok.inj _ _ _ e hc ▸ hi))
  ·by_cases hcc:c'=c
   ·subst hcc;exact ⟨_,hc'⟩
   ·obtain ⟨w2,z2⟩:=I.cell y c' e
    exact ⟨w2,z2.sameBut hs hcc⟩
  ·obtain ⟨e,n,ne,nf,d⟩:=I.pin p hp
   refine ⟨(hs.2 p.1 ?_).trans e,n,ne,nf,d⟩
   intro q
   rw [q,hoc] at e
   have q':oc=p.2:=Option.some.inj e
   exact d w' (by rw [←q'];exact hocd)
theorem Wr {M:Model} {A:Around} {E:Value→Shared→Prop} {i:Nat} {x:Str} {v:V} {u:Value} {Q:Unit→Shared→Prop} (I:Inv X pins σ H s) (hN:X.N.Nodup) (hi:X.N[i]? =some x) (hx:Loc X.env.scope x) (r:ye v u)
  (h:∀s',Inv X pins (σ.set i (some v)) H s'→Q () s') (hf:X.fn x=true∨X.env.scope.names.lookup x=some .local:=by first|exact .inl rfl|exact .inr rfl|assumption):wpAny M A (storeName X.env x u) Q E s:=
 Ux I hN hi hx r (fun s' I' _=>h s' I') hf
theorem Inv.call' {s':Shared} {ch:List Addr} (I:Inv X pins σ H s) (ho:s'.os=s.os) (u:Un (frs X.stack) ch H H' s.heap s'.heap) (hok:HOk X.prog X.w H' s'.heap) (hg:AllBare s'.gens)
  (hch:∀b∈ch,(b∈X.ex∨X.s₀.heap.objs.size≤b)∧b≠X.env.locals∧(∀x c,X.env.cells.lookup x=some c→c≠b)∧∀p∈X.pn++pins,p.1≠b):Inv X pins σ H' s':=by
 obtain ⟨h',g',d',t',o'⟩:=s'
 have e:o'=s.os:=ho
 subst e
 exact I.call (g':=g') (t':=t') (d':=d') u hok hg hch
end

noncomputable abbrev XK:=Value→Option Addr→Hp→Prop
noncomputable abbrev St:=List (Option V)
noncomputable abbrev VK:=V→Hp→Prop
noncomputable abbrev TE:=St→Hp→VK→Prop
noncomputable abbrev TT:=St→Hp→(Bool→Hp→Prop)→Prop
noncomputable abbrev TA:=St→Hp→(List V→Hp→Prop)→Prop
structure Zu where
 nx:St→Hp→Prop
 rt:VK
 bk:St→Hp→Prop:=fun _ _=>False
 ct:St→Hp→Prop:=fun _ _=>False
noncomputable abbrev TS:=Zu→St→Hp→Prop

noncomputable def EP (X:Cx) (pins:List (Addr×Obj)) (σ:St) (Q:VK) (u:Value) (s':Shared):Prop:=∃v H',Inv X pins σ H' s'∧ye v u∧Q v H'
noncomputable def TP (X:Cx) (pins:List (Addr×Obj)) (σ:St) (Q:Bool→Hp→Prop) (b:Bool) (s':Shared):Prop:=∃H',Inv X pins σ H' s'∧Q b H'
noncomputable def AP (X:Cx) (pins:List (Addr×Obj)) (σ:St) (Q:List V→Hp→Prop) (us:List Value) (s':Shared):Prop:=∃vs H',Inv X pins σ H' s'∧zK vs us∧Q vs H'
noncomputable def SP (X:Cx) (pins:List (Addr×Obj)) (D:Zu) (f:Flow) (s':Shared):Prop:=
 match f with
 | .next=>∃σ' H',Inv X pins σ' H' s'∧D.nx σ' H'
 | .brk=>∃σ' H',Inv X pins σ' H' s'∧D.bk σ' H'
 | .cont=>∃σ' H',Inv X pins σ' H' s'∧D.ct σ' H'
 | .ret u=>∃v σ' H',Inv X pins σ' H' s'∧ye v u∧D.rt v H'

noncomputable def PE (X:Cx) (e:Expr) (t:TE):Prop:=
 ∀(pins:List (Addr×Obj)) (s:Shared) (σ:St) (H:Hp) (Q:VK),Inv X pins σ H s→t σ H Q→wpAny (model X.prog X.w) X.A (eval e X.env) (EP X pins σ Q) X.xe s
noncomputable def PT (X:Cx) (e:Expr) (t:TT):Prop:=
 ∀(pins:List (Addr×Obj)) (s:Shared) (σ:St) (H:Hp) (Q:Bool→Hp→Prop),Inv X pins σ H s→t σ H Q→wpAny (model X.prog X.w) X.A (isTrue e X.env (eval e X.env)) (TP X pins σ Q) X.xe s
noncomputable def PW (X:Cx) (e:Expr) (t:TT):Prop:=
 ∀(whole:Sem Value) (pins:List (Addr×Obj)) (s:Shared) (σ:St) (H:Hp) (Q:Bool→Hp→Prop),Inv X pins σ H s→t σ H Q→wpAny (model X.prog X.w) X.A (isTrue e X.env whole) (TP X pins σ Q) X.xe s
theorem PW.pt {X:Cx} {e:Expr} {t:TT} (h:PW X e t):PT X e t:=h _
noncomputable def PA (X:Cx) (es:List Expr) (t:TA):Prop:=
 ∀(pos:Pos) (pins:List (Addr×Obj)) (s:Shared) (σ:St) (H:Hp) (Q:List V→Hp→Prop),Inv X pins σ H s→t σ H Q→wpAny (model X.prog X.w) X.A (spliced (backTo pos (starEach es X.env))) (AP X pins σ Q) X.xe s
noncomputable def PS (X:Cx) (st:Stmt) (t:TS):Prop:=
 ∀(pins:List (Addr×Obj)) (s:Shared) (σ:St) (H:Hp) (D:Zu),Inv X pins σ H s→t D σ H→wpAny (model X.prog X.w) X.A (exec st X.env) (SP X pins D) X.xe s
noncomputable def PSs (X:Cx) (st:List Stmt) (t:TS):Prop:=
 ∀(pins:List (Addr×Obj)) (s:Shared) (σ:St) (H:Hp) (D:Zu),Inv X pins σ H s→t D σ H→wpAny (model X.prog X.w) X.A (execs st X.env) (SP X pins D) X.xe s
theorem thn {α:Type} {t:Sem α} {Q Q':α→Shared→Prop} {M:Model} {A:Around} {E:Value→Shared→Prop} {s:Shared} (h:wpAny M A t Q E s) (hQ:∀a s,Q a s→Q' a s):wpAny M A t Q' E s:=wpAny_mono h hQ fun _ _ x=>x
end L2

namespace L2
open PySem PySem.Spec PyProof.Rows
section
variable {X:Cx}

theorem bin {a b:Expr} {ta tb:TE} (ha:PE X a ta) (hb:PE X b tb) {pins:List (Addr×Obj)} {s:Shared} {σ:St} {H:Hp} {R:V→V→Hp→Prop} (I:Inv X pins σ H s) (h:ta σ H fun x H1=>tb σ H1 fun y H2=>R x y H2)
  {α:Type} {Q:α→Shared→Prop} {f:Value→Value→Sem α}
  (hf:∀v u s2 x y H2,Inv X pins σ H2 s2→ye x v→ye y u→R x y H2→wpAny (model X.prog X.w) X.A (f v u) Q X.xe s2):
  wpAny (model X.prog X.w) X.A (eval a X.env) (fun v s₁=>wpAny (model X.prog X.w) X.A (eval b X.env) (fun u s₂=>wpAny (model X.prog X.w) X.A (f v u) Q X.xe s₂) X.xe s₁) X.xe s:=by
 refine thn (ha pins s σ H _ I h) fun v s1 ⟨x,H1,I1,r1,q1⟩=> ?_
 refine thn (hb pins s1 σ H1 _ I1 q1) fun u s2 ⟨y,H2,I2,r2,q2⟩=> ?_
 exact hf v u s2 x y H2 I2 r1 r2 q2

noncomputable def zca (i:Nat):TE:=fun σ H Q=>∃v,σ[i]? =some (some v)∧Q v H
noncomputable def tC (v:V):TE:=fun _ H Q=>Q v H
theorem zcb {i:Nat} {x:Str} {pos:Pos} (hN:X.N[i]? =some x) (hv:Vis X.env.scope x) (hd:(x==("__debug__":Str))=false:=by decide) (hcd:(x==("__classdict__":Str))=false:=by decide):PE X (.Name x pos) (zca i):=by
 intro pins s σ H Q I h
 obtain ⟨v,e,h⟩:=h
 obtain ⟨m,hn,hl⟩:=I.loc
 obtain ⟨u,r,l⟩:=hl i x v hN e hv
 have fin:EP X pins σ Q u s:=⟨v,H,I,r,h⟩
 rcases l with ⟨hk,hm⟩|⟨hk,c,hc,hcell⟩
 ·exact wpAny_Name (wpAny_loadName_local I.ok.kind hk hn hm fin) hd
 ·rcases hk with hk|hk
  ·exact wpAny_Name (wpAny_loadName_cell I.ok.kind hk hc hcell fin) hd
  ·exact wpAny_Name (wpAny_loadName_free I.ok.kind hk hc hcell fin hcd) hd
theorem zi {i j pos}:PE X (.Constant (.int i) j pos) (tC (.int i)):=fun _ _ _ H _ I h=>wpAny_Constant_int ⟨.int i,H,I.tok _,⟨_,rfl⟩,h⟩
theorem YZ {b j pos}:PE X (.Constant (.bool b) j pos) (tC (.bl b)):=fun _ _ _ H _ I h=>Constant_bool ⟨.bl b,H,I,rfl,h⟩
theorem Tf {j pos}:PE X (.Constant .none j pos) (tC .non):=fun _ _ _ H _ I h=>Constant_none ⟨.non,H,I,rfl,h⟩
theorem xg {x j pos}:PE X (.Constant (.str x) j pos) (tC (.str x)):=fun _ _ _ H _ I h=>Calls.Constant_str ⟨.str x,H,I.tok _,⟨_,rfl⟩,h⟩

noncomputable def Gl (X:Cx) (x:Str):Prop:=X.env.kindOf x=some .globalImplicit
theorem XB {E:Value→Shared→Prop} {pins:List (Addr×Obj)} {s:Shared} {σ:St} {H:Hp} {x:Str} {u:Value} {pos:Pos} {Q:Value→Shared→Prop} (I:Inv X pins σ H s) (hg:Gl X x) (hm:X.mg x=some u) (h:Q u s)
  (hd:(x==("__debug__":Str))=false:=by decide):wpAny (model X.prog X.w) X.A (eval (.Name x pos) X.env) Q E s:=
 Calls.Name_function_global I.ok.kind hg (Calls.loadGlobal_global (by rw [I.ok.glob];exact I.mod.glob.keeps I.bk) hm h) hd
theorem vd {E:Value→Shared→Prop} {pins:List (Addr×Obj)} {s:Shared} {σ:St} {H:Hp} {x:Str} {u:Value} {pos:Pos} {Q:Value→Shared→Prop} (I:Inv X pins σ H s) (hg:Gl X x) (hm:X.mg x=none) (hv:bootBuiltins x=some u) (h:Q u s)
  (hn:x≠"__name__":=by decide) (hd:(x==("__debug__":Str))=false:=by decide):wpAny (model X.prog X.w) X.A (eval (.Name x pos) X.env) Q E s:=by
 obtain ⟨mb,h1,h2⟩:=I.mod.blt
 exact Calls.Name_function_global I.ok.kind hg (Calls.loadGlobal_builtin (by rw [I.ok.glob];exact I.mod.glob.keeps I.bk) hm (by rw [I.ok.blt];exact h1.keeps I.bk) ((h2 x hn).trans hv) h) hd
theorem VX {x:Str} {v:V} {u:Value} {pos:Pos} (hg:Gl X x) (hm:X.mg x=some u) (r:ye v u) (hd:(x==("__debug__":Str))=false:=by decide):PE X (.Name x pos) (tC v):=
 fun _ _ _ H _ I h=>XB I hg hm ⟨v,H,I,r,h⟩ hd
theorem wo {x:Str} {v:V} {u:Value} {pos:Pos} (hg:Gl X x) (hm:X.mg x=none) (hv:bootBuiltins x=some u) (r:ye v u) (hn:x≠"__name__":=by decide) (hd:(x==("__debug__":Str))=false:=by decide):PE X (.Name x pos) (tC v):=
 fun _ _ _ H _ I h=>vd I hg hm hv ⟨v,H,I,r,h⟩ hn hd

noncomputable def t2I (ta tb:TE) (k:Int→Int→Hp→Prop):St→Hp→Prop:=fun σ H=>ta σ H fun x H1=>tb σ H1 fun y H2=>∃i j,x= .int i∧y= .int j∧k i j H2
variable {a b:Expr} {ta tb:TE} {pos:Pos}

noncomputable def PC (X:Cx) (op:CmpOp) (a b:Expr) (t:TE):Prop:=
 ∀(pins:List (Addr×Obj)) (s:Shared) (σ:St) (H:Hp) (Q:VK),Inv X pins σ H s→t σ H Q→
  wpAny (model X.prog X.w) X.A (eval a X.env) (fun v s₁=>wpAny (model X.prog X.w) X.A (eval b X.env) (fun u s₂=>wpAny (model X.prog X.w) X.A (compareOp op v u) (EP X pins σ Q) X.xe s₂) X.xe s₁) X.xe s
theorem Ws (b:Expr) {op:CmpOp} (h:op≠ .In) (h2:op≠ .NotIn):behindInMarks op b=false:=by
 have e1:(op==CmpOp.In)=false:=by cases op<;>first|rfl|exact absurd rfl h
 have e2:(op==CmpOp.NotIn)=false:=by cases op<;>first|rfl|exact absurd rfl h2
 cases b<;>simp [behindInMarks,e1,e2]
noncomputable def Wt (p:Int→Int→Bool) (ta tb:TE):TE:=fun σ H Q=>t2I ta tb (fun i j H2=>Q (.bl (p i j)) H2) σ H
noncomputable abbrev tLt:TE→TE→TE:=Wt fun i j=>decide (i<j)
noncomputable abbrev tLe:TE→TE→TE:=Wt fun i j=>decide (i≤j)
noncomputable abbrev tGt:TE→TE→TE:=Wt fun i j=>decide (j<i)
noncomputable abbrev tGe:TE→TE→TE:=Wt fun i j=>decide (j≤i)
noncomputable abbrev zc1:TE→TE→TE:=Wt fun i j=>decide (i=j)
noncomputable abbrev zc2:TE→TE→TE:=Wt fun i j=> !decide (i=j)
theorem XC {op:CmpOp} {p:Int→Int→Bool} (ha:PE X a ta) (hb:PE X b tb)
  (rule:∀(i j:Int) (t u:Tok) (Q:Value→Shared→Prop) (s:Shared),Q (.bool (p i j)) s→wpAny (model X.prog X.w) X.A (compareOp op (.int i t) (.int j u)) Q X.xe s):PC X op a b (Wt p ta tb):=by
 intro pins s σ H Q I h
 refine bin ha hb I h fun v u s2 x y H2 I2 rx ry q=> ?_
 obtain ⟨i,j,rfl,rfl,q⟩:=q
 obtain ⟨t,rfl⟩:=rx
 obtain ⟨t',rfl⟩:=ry
 exact rule i j t t' _ s2 ⟨.bl _,H2,I2,rfl,q⟩
theorem zc3 (ha:PE X a ta) (hb:PE X b tb):PC X .Lt a b (tLt ta tb):=XC ha hb fun _ _ _ _ _ _ h=>lt_int h
theorem Xb (ha:PE X a ta) (hb:PE X b tb):PC X .Gt a b (tGt ta tb):=XC ha hb fun _ _ _ _ _ _ h=>gt_int h
theorem ve (ha:PE X a ta) (hb:PE X b tb):PC X .Eq a b (zc1 ta tb):=XC ha hb fun _ _ _ _ _ _ h=>eq_int (by rw [Bool.beq_eq_decide_eq];exact h)
theorem Vh (ha:PE X a ta) (hb:PE X b tb):PC X .NotEq a b (zc2 ta tb):=XC ha hb fun _ _ _ _ _ _ h=>ne_int (by rw [bne,Bool.beq_eq_decide_eq];exact h)
noncomputable def zc4 (ta:TE):TE:=fun σ H Q=>ta σ H fun x H1=>Q (.bl (decide (x= .non))) H1
theorem ye.none_iff {x:V} {v:Value} (r:ye x v):(v==Value.none)=decide (x= .non):=by
 cases x with
 |non=>cases r;rfl
 |bl _=>cases r;rfl
 |int _=>obtain ⟨t,rfl⟩:=r;rfl
 |str _=>obtain ⟨t,rfl⟩:=r;rfl
 |byt _=>obtain ⟨t,rfl⟩:=r;rfl
 |flt _=>obtain ⟨t,rfl⟩:=r;rfl
 |ref _=>cases r;rfl
 |ty _=>cases r;rfl
theorem Tg {j pos'} (ha:PE X a ta):PC X .Is a (.Constant .none j pos') (zc4 ta):=by
 intro pins s σ H Q I h
 refine thn (ha pins s σ H _ I h) fun v s1 ⟨x,H1,I1,r1,q1⟩=> ?_
 exact Constant_none (is_none_gen ⟨.bl _,H1,I1,by rw [r1.none_iff];rfl,q1⟩)
noncomputable def tB (t:TE):TT:=fun σ H Q=>t σ H fun x H1=>∃c,x= .bl c∧Q c H1
theorem Th {op:CmpOp} {t:TE} (h:PC X op a b t) (h1:behindInMarks op b=false:=by first|exact Ws _ (by decide) (by decide)|rfl):PE X (.Compare a [op] [b] pos) t:=fun pins s σ H Q I hw=>wpAny_Compare1 (h pins s σ H Q I hw) h1
theorem yI {op:CmpOp} {t:TE} (h:PC X op a b t) (h1:behindInMarks op b=false:=by first|exact Ws _ (by decide) (by decide)|rfl):PT X (.Compare a [op] [b] pos) (tB t):=by
 intro pins s σ H Q I hw
 refine wpAny_isTrue_Compare1 (thn (h pins s σ H _ I hw) fun v s1 h1=>thn h1 fun u s2 h2=>thn h2 fun c s3 ⟨x,H1,I1,r1,q1⟩=> ?_) h1
 obtain ⟨d,rfl,q⟩:=q1
 cases r1
 exact wpAny_truthy_bool ⟨H1,I1,q⟩
theorem xF {e:Expr} {t:TE} (h:PE X e t) (he:∀whole,isTrue e X.env whole=(do let v ←whole;standAt e.pos;holding [v] (truthy v)):=by intro _;rfl):PT X e (tB t):=by
 intro pins s σ H Q I hw
 refine isTrue_plain (thn (h pins s σ H _ I hw) fun v s1 ⟨x,H1,I1,r1,q1⟩=> ?_) (he _)
 obtain ⟨d,rfl,q⟩:=q1
 cases r1
 exact wpAny_truthy_bool ⟨H1,I1,q⟩

variable {tA tB':TT} {rest:List Expr}
noncomputable def zc5 (t u:TT):TT:=fun σ H Q=>t σ H fun c H1=>if c=true then u σ H1 Q else Q false H1
noncomputable def tOr (t u:TT):TT:=fun σ H Q=>t σ H fun c H1=>if c=true then Q true H1 else u σ H1 Q
noncomputable def zc6 (t:TT):TT:=fun σ H Q=>t σ H fun c H1=>Q (!c) H1
theorem VY (ha:PT X a tA):PW X (.BoolOp .And [a] pos) tA:=by
 intro wh pins s σ H Q I h
 refine isTrue_and (thn (ha pins s σ H Q I h) fun c s1 e=> ?_)
 cases c with
 |true=>exact isTrue_and_nil e
 |false=>exact e
theorem Yb (ha:PT X a tA):PW X (.BoolOp .Or [a] pos) tA:=by
 intro wh pins s σ H Q I h
 refine isTrue_or (thn (ha pins s σ H Q I h) fun c s1 e=> ?_)
 cases c with
 |false=>exact isTrue_or_nil e
 |true=>exact e
theorem Ti (ha:PT X a tA) (hb:PW X (.BoolOp .And (b::rest) pos) tB'):PW X (.BoolOp .And (a::b::rest) pos) (zc5 tA tB'):=by
 intro wh pins s σ H Q I h
 refine isTrue_and (thn (ha pins s σ H _ I h) fun c s1 ⟨H1,I1,q1⟩=> ?_)
 cases c with
 |true=>exact hb wh pins s1 σ H1 Q I1 q1
 |false=>exact ⟨H1,I1,q1⟩
theorem Wu (ha:PT X a tA) (hb:PW X (.BoolOp .Or (b::rest) pos) tB'):PW X (.BoolOp .Or (a::b::rest) pos) (tOr tA tB'):=by
 intro wh pins s σ H Q I h
 refine isTrue_or (thn (ha pins s σ H _ I h) fun c s1 ⟨H1,I1,q1⟩=> ?_)
 cases c with
 |true=>exact ⟨H1,I1,q1⟩
 |false=>exact hb wh pins s1 σ H1 Q I1 q1
theorem Zv (ha:PT X a tA):PT X (.UnaryOp .Not a pos) (zc6 tA):=by
 intro pins s σ H Q I h
 exact isTrue_not (ha pins s σ H (fun c H1=>Q (!c) H1) I h)
noncomputable def zbK (ta tb:TE):TE:=fun σ H Q=>ta σ H fun x H1=>∃c,x= .bl c∧if c=true then tb σ H1 Q else Q (.bl false) H1
noncomputable def zbL (ta:TE):TE:=fun σ H Q=>ta σ H fun x H1=>∃c,x= .bl c∧Q (.bl (!c)) H1
theorem Tj {op} {t:TE} (h:PE X a t):PE X (.BoolOp op [a] pos) t:=fun pins s σ H Q I hw=>BoolOp_one (h pins s σ H Q I hw)
theorem Vi (ha:PE X a ta) (hb:PE X (.BoolOp .And (b::rest) pos) tb):PE X (.BoolOp .And (a::b::rest) pos) (zbK ta tb):=by
 intro pins s σ H Q I h
 refine BoolOp_and (thn (ha pins s σ H _ I h) fun v s1 ⟨x,H1,I1,r1,q1⟩=> ?_)
 obtain ⟨c,rfl,q1⟩:=q1
 cases r1
 refine wpAny_truthy_bool ?_
 cases c with
 |true=>exact hb pins s1 σ H1 Q I1 q1
 |false=>exact ⟨.bl false,H1,I1,rfl,q1⟩
theorem zcc (ha:PE X a ta):PE X (.UnaryOp .Not a pos) (zbL ta):=by
 intro pins s σ H Q I h
 refine UnaryOp_ (thn (ha pins s σ H _ I h) fun v s1 ⟨x,H1,I1,r1,q1⟩=> ?_)
 obtain ⟨c,rfl,q1⟩:=q1
 cases r1
 exact not_of (wpAny_truthy_bool ⟨.bl (!c),H1,I1,rfl,q1⟩)
noncomputable def tIf (t:TT) (ta tb:TE):TE:=fun σ H Q=>t σ H fun c H1=>if c=true then ta σ H1 Q else tb σ H1 Q
theorem Tk {c:Expr} (hc:PT X c tA) (ha:PE X a ta) (hb:PE X b tb):PE X (.IfExp c a b pos) (tIf tA ta tb):=by
 intro pins s σ H Q I h
 refine wpAny_IfExp (thn (hc pins s σ H _ I h) fun d s1 ⟨H1,I1,q1⟩=> ?_)
 cases d with
 |true=>exact ha pins s1 σ H1 Q I1 q1
 |false=>exact hb pins s1 σ H1 Q I1 q1
end
end L2

namespace L2
open PySem PySem.Spec PyProof.Rows

noncomputable def SqL (K:PySem.W.Frag) (H:Hp) (a:Addr) (xs:List V):Prop:=
 Rd H a (.lst xs)∨
  ∃(o:Obj) (its:Array Value) (n:Nat),K.lookup a=some o∧o.cls= .type "list"∧o.dict=none∧o.data= .seq its n∧its.size≤sizeLine∧zK xs its.toList
noncomputable def SqT (K:PySem.W.Frag) (H:Hp) (a:Addr) (xs:List V):Prop:=
 Rd H a (.tup xs)∨
  ∃(o:Obj) (its:Array Value) (n:Nat),K.lookup a=some o∧o.cls= .type "tuple"∧o.data= .seq its n∧its.size≤sizeLine∧zK xs its.toList
noncomputable def SqX (K:PySem.W.Frag) (H:Hp) (a:Addr) (xs:List V):Prop:=
 Rd H a (.lst xs)∨∃(its:Array Value) (n:Nat),K.lookup a=some {cls:= .type "list",data:= .seq its n}∧its.size≤sizeLine∧zK xs its.toList
theorem SqX.sql {K:PySem.W.Frag} {H:Hp} {a:Addr} {xs:List V} (h:SqX K H a xs):SqL K H a xs:=by
 rcases h with h|⟨its,n,hk,hz,r⟩
 ·exact .inl h
 ·exact .inr ⟨_,its,n,hk,rfl,rfl,rfl,hz,r⟩
theorem SqX.of {K:PySem.W.Frag} {H:Hp} {a:Addr} {xs:List V} (h:H a=some (.lst xs)):SqX K H a xs:= .inl (.inl h)
noncomputable def zdT:Value→Option V
 | .none=>some .non
 | .bool b=>some (.bl b)
 | .int i _=>some (.int i)
 | .str x _=>some (.str x)
 | .bytes b _=>some (.byt b)
 | .float b _=>some (.flt b)
 | .ref a=>some (.ref a)
 | .type n=>some (.ty n)
 |_=>none
theorem ye.abs {x:V} {u:Value} (r:ye x u):zdT u=some x:=by
 cases x with
 |non=>cases r;rfl
 |bl _=>cases r;rfl
 |int _=>obtain ⟨t,rfl⟩:=r;rfl
 |str _=>obtain ⟨t,rfl⟩:=r;rfl
 |byt _=>obtain ⟨t,rfl⟩:=r;rfl
 |flt _=>obtain ⟨t,rfl⟩:=r;rfl
 |ref _=>cases r;rfl
 |ty _=>cases r;rfl
theorem ye.inj {x y:V} {u:Value} (r:ye x u) (q:ye y u):x=y:=Option.some.inj (r.abs.symm.trans q.abs)
theorem zK.inj:∀{xs ys:List V} {us:List Value},zK xs us→zK ys us→xs=ys
 |_,_,_,.nil,.nil=>rfl
 |_,_,_,.cons r t,.cons r' t'=>by rw [r.inj r',zK.inj t t']
section
variable {X:Cx} {pins:List (Addr×Obj)} {σ:St} {H:Hp} {s:Shared} {a:Addr} {xs ys:List V}
theorem SqT.of {K:PySem.W.Frag} (h:H a=some (.tup xs)):SqT K H a xs:= .inl (.inl h)
theorem Inv.list (I:Inv X pins σ H s) (h:SqL X.K H a xs):∃its:List Value,zK xs its∧PlainL s.heap a its.toArray∧xs.length≤sizeLine:=by
 rcases h with h|⟨o,its,n,hk,hc,hd,hs,hz,r⟩
 ·obtain ⟨z,its,n,r,e⟩:=h.ok I.hok
  exact ⟨its,r,⟨_,n,e,rfl,rfl,rfl⟩,z⟩
 ·refine ⟨its.toList,r,⟨o,n,I.kIn a o hk,hc,hd,by simpa using hs⟩,?_⟩
  have e:=r.length
  simp only [Array.length_toList] at e
  omega
theorem Inv.tuple (I:Inv X pins σ H s) (h:SqT X.K H a xs):∃its:List Value,zK xs its∧IsTup s.heap a its.toArray∧xs.length≤sizeLine:=by
 rcases h with h|⟨o,its,n,hk,hc,hs,hz,r⟩
 ·obtain ⟨z,its,r,p⟩:=h.ok I.hok
  exact ⟨its,r,p,z⟩
 ·refine ⟨its.toList,r,⟨o,I.kIn a o hk,hc,n,by simpa using hs⟩,?_⟩
  have e:=r.length
  simp only [Array.length_toList] at e
  omega
theorem Inv.list_inj (I:Inv X pins σ H s) (h:SqL X.K H a xs) (h':SqL X.K H a ys):xs=ys:=by
 obtain ⟨its,r,⟨o,n,e,_,_,d⟩,_⟩:=I.list h
 obtain ⟨its',r',⟨o',n',e',_,_,d'⟩,_⟩:=I.list h'
 rw [e] at e';cases e'
 rw [d] at d'
 injection d' with d1 _
 have:its=its':=by simpa using congrArg Array.toList d1
 subst this
 exact r.inj r'
theorem Inv.tuple_inj (I:Inv X pins σ H s) (h:SqT X.K H a xs) (h':SqT X.K H a ys):xs=ys:=by
 obtain ⟨its,r,⟨o,e,_,n,d⟩,_⟩:=I.tuple h
 obtain ⟨its',r',⟨o',e',_,n',d'⟩,_⟩:=I.tuple h'
 rw [e] at e';cases e'
 rw [d] at d'
 injection d' with d1 _
 have:its=its':=by simpa using congrArg Array.toList d1
 subst this
 exact r.inj r'
end

noncomputable abbrev Cx.wish (X:Cx) (E:Value→Shared→Prop):Cx:={X with xe:=E}
noncomputable abbrev Cx.nox (X:Cx):Cx:=X.wish fun _ _=>False
section
variable {X:Cx} {pins:List (Addr×Obj)} {σ:St} {H:Hp} {s:Shared} {E:Value→Shared→Prop}
end

section
variable {X:Cx} {st:Stmt} {rest:List Stmt} {t u:TS} {e:Expr} {te:TE} {pos:Pos}
noncomputable def zbM:TS:=fun D σ H=>D.nx σ H
noncomputable def zc7 (t u:TS):TS:=fun D σ H=>t {D with nx:=u D} σ H
theorem yg:PSs X [] zbM:=fun _ _ σ H _ I h=>wpAny_execs_nil ⟨σ,H,I,h⟩
theorem zl (h1:PS X st t) (h2:PSs X rest u):PSs X (st::rest) (zc7 t u):=by
 intro pins s σ H D I h
 refine wpAny_execs_cons (thn (h1 pins s σ H {D with nx:=u D} I h) fun f s1 q=> ?_)
 cases f with
 |next=>
  obtain ⟨σ',H',I',q⟩:=q
  exact h2 pins s1 σ' H' D I' q
 |ret v=>exact q
 |brk=>exact q
 |cont=>exact q
theorem zn (h1:PS X st t):PSs X [st] t:=by
 intro pins s σ H D I h
 refine wpAny_execs_cons (thn (h1 pins s σ H D I h) fun f s1 q=> ?_)
 cases f with
 |next=>exact wpAny_execs_nil q
 |ret v=>exact q
 |brk=>exact q
 |cont=>exact q
theorem Inv.quiet {pins:List (Addr×Obj)} {σ:St} {H:Hp} {s:Shared} (I:Inv X pins σ H s):interactive X.env=false:=by simp [interactive,I.ok.kind]
noncomputable def zbN (te:TE):TS:=fun D σ H=>te σ H fun _ H1=>D.nx σ H1
theorem xN (he:PE X e te) (hs:swapsWith e none pos.line X.env=pure false:=by rfl):PS X (.Expr e pos) (zbN te):=by
 intro pins s σ H D I h
 exact wpAny_Expr_any (thn (he pins s σ H _ I h) fun v s1 ⟨x,H1,I1,r1,q1⟩=>⟨σ,H1,I1,q1⟩) I.quiet hs
noncomputable def zc8 (te:TE):TS:=fun D σ H=>te σ H D.rt
theorem zV (he:PE X e te):PS X (.Return (some e) pos) (zc8 te):=by
 intro pins s σ H D I h
 exact wpAny_Return_some (thn (he pins s σ H _ I h) fun v s1 ⟨x,H1,I1,r1,q1⟩=>⟨x,σ,H1,I1,r1,q1⟩)
noncomputable def zc9 (c:TT) (t u:TS):TS:=fun D σ H=>c σ H fun b H1=>if b=true then t D σ H1 else u D σ H1
theorem yB {c:Expr} {a b:List Stmt} {tc:TT} (hc:PT X c tc) (ha:PSs X a t) (hb:PSs X b u):PS X (.If c a b pos) (zc9 tc t u):=by
 intro pins s σ H D I h
 refine wpAny_If (thn (hc pins s σ H _ I h) fun d s1 ⟨H1,I1,q1⟩=> ?_)
 cases d with
 |true=>exact ha pins s1 σ H1 D I1 q1
 |false=>exact hb pins s1 σ H1 D I1 q1
end

noncomputable abbrev TG:=V→St→Hp→(St→Hp→Prop)→Prop
noncomputable abbrev TGs:=List V→St→Hp→(St→Hp→Prop)→Prop
noncomputable def PG (X:Cx) (target:Expr) (t:TG):Prop:=
 ∀(pins:List (Addr×Obj)) (s:Shared) (σ:St) (H:Hp) (v:V) (u:Value) (Q:St→Hp→Prop),Inv X pins σ H s→ye v u→t v σ H Q→
  wpAny (model X.prog X.w) X.A (assign target X.env u) (fun _ s'=>∃σ' H',Inv X pins σ' H' s'∧Q σ' H') X.xe s
noncomputable def PGs (X:Cx) (ts:List Expr) (t:TGs):Prop:=
 ∀(pins:List (Addr×Obj)) (s:Shared) (σ:St) (H:Hp) (vs:List V) (us:List Value) (Q:St→Hp→Prop),Inv X pins σ H s→zK vs us→t vs σ H Q→
  wpAny (model X.prog X.w) X.A (assignInOrder ((assignEach ts X.env).map (·.2)) us) (fun _ s'=>∃σ' H',Inv X pins σ' H' s'∧Q σ' H') X.xe s
noncomputable abbrev zd2:=V→V→V→Hp→(Hp→Prop)→Prop
noncomputable abbrev TIp:=V→V→Hp→VK→Prop
section
variable {X:Cx} {pos:Pos}
noncomputable def VZ (i:Nat):TG:=fun v σ H Q=>Q (σ.set i (some v)) H
theorem yy {i:Nat} {x:Str} (hN:X.N.Nodup) (hi:X.N[i]? =some x) (hx:Loc X.env.scope x) (hf:X.fn x=true∨X.env.scope.names.lookup x=some .local:=by first|exact .inl rfl|exact .inr rfl|assumption):PG X (.Name x pos) (VZ i):=by
 intro pins s σ H v u Q I r h
 exact wpAny_assign_Name (Wr I hN hi hx r (fun s' I'=>⟨_,H,I',h⟩) hf)
noncomputable def zda:TGs:=fun vs σ H Q=>vs=[]∧Q σ H
noncomputable def zbO (t:TG) (u:TGs):TGs:=fun vs σ H Q=>∃v r,vs=v::r∧t v σ H fun σ' H'=>u r σ' H' Q
theorem Ua:PGs X [] zda:=by
 intro pins s σ H vs us Q I r h
 obtain ⟨e,h⟩:=h
 subst e
 cases r
 exact assignInOrder_nil ⟨σ,H,I,h⟩
theorem vf {e:Expr} {es:List Expr} {t:TG} {u:TGs} (h1:PG X e t) (h2:PGs X es u)
  (hs:(assignEach (e::es) X.env).map (·.2)=assign e X.env::(assignEach es X.env).map (·.2):=by rfl):PGs X (e::es) (zbO t u):=by
 intro pins s σ H vs us Q I r h
 obtain ⟨v,vr,e1,h⟩:=h
 subst e1
 cases r with
 |cons r rr=>
  rw [hs]
  refine assignInOrder_cons (thn (h1 pins s σ H _ _ _ I r h) fun _ s1 ⟨σ1,H1,I1,q1⟩=> ?_)
  exact h2 pins s1 σ1 H1 _ _ Q I1 rr q1
noncomputable def zcd (K:PySem.W.Frag) (n:Nat) (t:TGs):TG:=fun v σ H Q=>∃a xs,v= .ref a∧SqT K H a xs∧xs.length=n∧t xs σ H Q
theorem zce {es:List Expr} {k:Nat} {t:TGs} {n:Nat} (hc:X.calm=true) (h:PGs X es t)
  (hn:(assignEach es X.env).length=n:=by rfl) (hst:(assignEach es X.env).findIdx? (·.1)=none:=by rfl):PG X (.Tuple es k pos) (zcd X.K n t):=by
 intro pins s σ H v u Q I r hw
 obtain ⟨a,xs,e1,hq,hl,hw⟩:=hw
 subst e1
 cases r
 obtain ⟨its,rv,ht,hz⟩:=I.tuple hq
 refine assign_Tuple_tuple (I.ok.hd hc) ht (by simp [hn,←hl,rv.length]) hst fun h' hx=> ?_
 have I1:Inv X pins σ H {s with heap:=h'}:=I.kept (t':=s.toks) fun b o e=>hx b o (Nat.ne_of_lt (Heap.lt_size e)) e
 exact h pins _ σ H xs _ Q I1 (by simpa using rv) hw
noncomputable def zcf (te:TE) (g:TG):TS:=fun D σ H=>te σ H fun x H1=>g x σ H1 D.nx
theorem zcg {tg e:Expr} {te:TE} {g:TG} (he:PE X e te) (hg:PG X tg g) (hs:swapsWithSole [tg] e pos.line X.env=pure false:=by rfl) (hw:swappedStores [tg] e X.env=pure none:=by rfl)
  (h1:(assignEach [tg] X.env).map (·.2)=[assign tg X.env]:=by rfl):PS X (.Assign [tg] e pos) (zcf te g):=by
 intro pins s σ H D I h
 refine wpAny_Assign_stores (thn (he pins s σ H _ I h) fun v s1 ⟨x,H1,I1,r1,q1⟩=> ?_) hs hw
 rw [h1]
 exact thn (hg pins s1 σ H1 x v _ I1 r1 q1) fun _ s2 q=>q
theorem zB {i:Nat} {x:Str} {e:Expr} {te:TE} {pos':Pos} (hN:X.N.Nodup) (hi:X.N[i]? =some x) (hx:Loc X.env.scope x) (he:PE X e te) (hs:swapsWith e (some (.Name x pos')) pos.line X.env=pure false:=by rfl) (hf:X.fn x=true∨X.env.scope.names.lookup x=some .local:=by first|exact .inl rfl|exact .inr rfl|assumption):
  PS X (.Assign [.Name x pos'] e pos) (zcf te (VZ i)):=by
 intro pins s σ H D I h
 refine wpAny_Assign_Name (thn (he pins s σ H _ I h) fun v s1 ⟨y,H1,I1,r1,q1⟩=> ?_) hs
 exact Wr I1 hN hi hx r1 (fun s2 I2=>⟨_,H1,I2,q1⟩) hf
end

section
variable {X:Cx} {pos:Pos}
noncomputable def Tl (c:TT) (tb:TS):TS:=fun D σ H=>∃W:Nat→St→Hp→Prop,(∃m,W m σ H)∧∀m σ H,W m σ H→
 c σ H fun b H1=>if b=true then ∃N:St→Hp→Prop,(∀σ' H',N σ' H'→∃m',m'<m∧W m' σ' H')∧tb {D with nx:=N,ct:=N,bk:=D.nx} σ H1 else D.nx σ H1
theorem Yc {c:Expr} {body:List Stmt} {tc:TT} {tb:TS} (hp:PassesOwn (model X.prog X.w) X.A X.env X.xe) (hc:PT X c tc) (hb:PSs X body tb):PS X (.While c body [] pos) (Tl tc tb):=by
 intro pins s σ H D I h
 obtain ⟨W,⟨m0,w0⟩,turn⟩:=h
 refine wpAny_While (codeAny_whileLoop (fun n s'=>∃σ' H',Inv X pins σ' H' s'∧W n σ' H') ?_ m0 ⟨σ,H,I,w0⟩)
 rintro n s1 ⟨σ1,H1,I1,w1⟩
 refine wpAny_passesOwn hp (thn (hc pins s1 σ1 H1 _ I1 (turn n σ1 H1 w1)) fun b s2 ⟨H2,I2,q2⟩=> ?_)
 cases b with
 |true=>
  obtain ⟨N,hN,q2⟩:=q2
  rw [if_pos rfl]
  refine wpAny_passesOwn hp (thn (hb pins s2 σ1 H2 _ I2 q2) fun f s3 q3=> ?_)
  cases f with
  |next=>
   obtain ⟨σ3,H3,I3,n3⟩:=q3
   obtain ⟨m',hm,w3⟩:=hN σ3 H3 n3
   exact ⟨m',hm,σ3,H3,I3,w3⟩
  |cont=>
   obtain ⟨σ3,H3,I3,n3⟩:=q3
   obtain ⟨m',hm,w3⟩:=hN σ3 H3 n3
   exact ⟨m',hm,σ3,H3,I3,w3⟩
  |brk=>exact q3
  |ret v=>exact q3
 |false=>
  rw [if_neg Bool.false_ne_true]
  exact wpAny_execs_nil ⟨σ1,H2,I2,q2⟩
end

structure It where
 go:Nat→Hp→Prop
 yld:Nat→Hp→V→Hp→Prop
 stop:Nat→Hp→Prop
noncomputable def Yd (X:Cx) (pins:List (Addr×Obj)) (H:Hp) (b:Addr):Prop:=
 H b=none∧b≠X.env.locals∧b∉X.fs∧(b∈X.ex∨X.s₀.heap.objs.size≤b)∧(∀x c,X.env.cells.lookup x=some c→c≠b)∧∀p∈X.pn++pins,p.1≠b
theorem Inv.fpOk {X:Cx} {pins:List (Addr×Obj)} {σ:St} {H H':Hp} {s:Shared} {b:Addr} (I:Inv X pins σ H s) (hb:s.heap.objs.size≤b) (hn:H' b=none):Yd X pins H' b:=by
 refine ⟨hn,Nat.ne_of_gt (Nat.lt_of_lt_of_le I.lt hb),I.nofs hb,.inr (Nat.le_trans I.sz hb),fun x c e z=> ?_,fun p hp z=> ?_⟩
 ·obtain ⟨v,q⟩:=I.cell x c e
  exact absurd (Nat.lt_of_lt_of_le q.lt (by rw [z];exact hb)) (Nat.lt_irrefl _)
 ·exact absurd (Nat.lt_of_lt_of_le (Heap.lt_size (I.pin p hp).1) (by rw [z];exact hb)) (Nat.lt_irrefl _)
structure Uy (P:Program) (w:World) (K:PySem.W.Frag) (tg:Expr) (J:It) (fp:List Addr) (it:Addr) (tn:Nat→Heap→Prop):Prop where
 mem:it∈fp
 obj:∀i h,tn i h→∀b∈fp,∃o,h.get? b=some o∧∀v,o.data≠ .cell v
 keep:∀i h h',tn i h→(∀b∈fp,∀o,h.get? b=some o→h'.get? b=some o)→tn i h'
 item:∀(X:Cx),X.prog=P→X.w=w→X.K=K→X.calm=true→∀(i:Nat) (pins:List (Addr×Obj)) (s:Shared) (σ:St) (H:Hp) (E:Value→Shared→Prop),Inv X pins σ H s→(∀b∈fp,Yd X pins H b)→tn i s.heap→J.go i H→
  wpAny (model P w) X.A (pyNext (.ref it)) (fun r s1=>∃u,r=some u∧
   wpAny (model P w) X.A (letOwnedTupleGo tg (.ref it) u) (fun _ s2=>∃x H',Inv X pins σ H' s2∧ye x u∧J.yld i H x H'∧tn (i+1) s2.heap∧∀b∈fp,H' b=none) E s1) E s
 done:∀(X:Cx),X.prog=P→X.w=w→X.K=K→X.calm=true→∀(i:Nat) (pins:List (Addr×Obj)) (s:Shared) (σ:St) (H:Hp) (E:Value→Shared→Prop),Inv X pins σ H s→(∀b∈fp,Yd X pins H b)→tn i s.heap→J.stop i H→
  wpAny (model P w) X.A (pyNext (.ref it)) (fun r s1=>r=none∧Inv X pins σ H s1) E s
 self:∀(A:Around) (i:Nat) (s:Shared) (Q:Value→Shared→Prop) (E:Value→Shared→Prop),tn i s.heap→Q (.ref it) s→wpAny (model P w) A (pyIter (.ref it)) Q E s
noncomputable abbrev TI:=St→Hp→(It→Hp→Prop)→Prop
noncomputable def PIE (X:Cx) (pins:List (Addr×Obj)) (σ:St) (tg:Expr) (R:It→Hp→Prop) (itv:Value) (s2:Shared):Prop:=
 ∃(it:Addr) (fp:List Addr) (tn:Nat→Heap→Prop) (J:It) (H':Hp),itv= .ref it∧Inv X pins σ H' s2∧Uy X.prog X.w X.K tg J fp it tn∧tn 0 s2.heap∧(∀b∈fp,Yd X pins H' b)∧R J H'
noncomputable def PI (X:Cx) (tg iter:Expr) (wi:TI):Prop:=
 ∀(pins:List (Addr×Obj)) (s:Shared) (σ:St) (H:Hp) (R:It→Hp→Prop),Inv X pins σ H s→wi σ H R→
  wpAny (model X.prog X.w) X.A (eval iter X.env) (fun v s1=>wpAny (model X.prog X.w) X.A (pyIter v) (PIE X pins σ tg R) X.xe s1) X.xe s

theorem Tm {M:Model} {A:Around} {E:Value→Shared→Prop} {s:Shared} {tg:Expr} {it:Addr} {u:Value} {o:Obj} {n:String} {vs:Array Value} {Q:Unit→Shared→Prop} (ho:s.heap.get? it=some o) (hc:o.cls= .type n) (hd:o.data= .fields vs)
    (hn:["enumerate","zip","dict_itemiterator","dict_reverseitemiterator","odict_iterator","itertools.zip_longest","itertools.pairwise"].contains n=false) (hQ:Q () s):wpAny M A (letOwnedTupleGo tg (.ref it) u) Q E s:=by
  unfold letOwnedTupleGo
  cases tg<;>first
    |exact wpAny_pure hQ
    | (cases u <;> first
        |exact wpAny_pure hQ
        | (refine wpAny_bind (wpAny_load ho ?_)
           rw [hc,hd]
           show wpAny M A (if (["enumerate","zip","dict_itemiterator","dict_reverseitemiterator","odict_iterator","itertools.zip_longest","itertools.pairwise"].contains n&&vs[0]? ==some (rawInt _))=true then _ else _) Q E s
           rw [if_neg (by intro h;rw [hn,Bool.false_and] at h;cases h)]
           exact wpAny_pure hQ))

noncomputable def Itl (K:PySem.W.Frag) (a:Addr):It:=
 ⟨fun i H=>∃xs x,SqL K H a xs∧xs[i]? =some x,fun i H x H'=>H'=H∧∀xs,SqL K H a xs→xs[i]? =some x,fun i H=>∃xs,SqL K H a xs∧xs.length≤i⟩
noncomputable def Itt (K:PySem.W.Frag) (a:Addr):It:=
 ⟨fun i H=>∃xs x,SqT K H a xs∧xs[i]? =some x,fun i H x H'=>H'=H∧∀xs,SqT K H a xs→xs[i]? =some x,fun i H=>∃xs,SqT K H a xs∧xs.length≤i⟩
noncomputable def Itr (lo:Int) (n:Nat):It:=⟨fun i _=>i<n,fun i H x H'=>H'=H∧x= .int (lo+i),fun i _=>n≤i⟩
theorem Uz {P:Program} {w:World} {K:PySem.W.Frag} {tg:Expr} (a it:Addr):Uy P w K tg (Itl K a) [it] it (fun i h=>h.IsListIter it a i) where
 mem:=by simp
 obj:=fun i h st b hb=>by
  have e:b=it:=by simpa using hb
  subst e
  obtain ⟨o,e,c,d⟩:=st
  exact ⟨o,e,fun v z=>by rw [d] at z;cases z⟩
 keep:=fun i h h' st k=>st.at fun o e=>k it (by simp) o e
 item:=by
  intro X hP hw hK hc i pins s σ H E I hf st hg
  subst hP hw hK
  obtain ⟨xs,x,hq,hx⟩:=hg
  obtain ⟨its,rv,p,hz⟩:=I.list hq
  obtain ⟨u,hu,ru⟩:=rv.get hx
  obtain ⟨f0,f1,f2,f3,f4,f5⟩:=hf it (by simp)
  refine wpAny_pyNext_list_item st p.isList (x:=u) (by simpa using hu) fun h' st' sb=> ?_
  have I1:Inv X pins σ H {s with heap:=h'}:=I.turned (t':=s.toks) (fun b o hb e=>(sb.2 b hb).trans e) f0 f1 f3 f4 f5
  obtain ⟨o,e,c,d⟩:=id st'
  exact ⟨u,rfl,Tm (s:={s with heap:=h'}) e c d (by decide) ⟨x,H,I1,ru,⟨rfl,fun ys hy=>by rw [I.list_inj hy hq];exact hx⟩,st',fun b hb=>(hf b hb).1⟩⟩
 done:=by
  intro X hP hw hK hc i pins s σ H E I hf st hg
  subst hP hw hK
  obtain ⟨xs,hq,hx⟩:=hg
  obtain ⟨its,rv,p,hz⟩:=I.list hq
  obtain ⟨f0,f1,f2,f3,f4,f5⟩:=hf it (by simp)
  have hl:=rv.length
  exact wpAny_pyNext_list_end (I.ok.hd hc) st p.isList (by simp;omega) fun h' eb=>⟨rfl,I.turned (t':=s.toks) (fun b o hb e=>eb b o hb e) f0 f1 f3 f4 f5⟩
 self:=fun _ _ _ _ _ st h=>wpAny_pyIter_listiter st h
theorem Vj {P:Program} {w:World} {K:PySem.W.Frag} {tg:Expr} (a it:Addr):Uy P w K tg (Itt K a) [it] it (fun i h=>h.IsTupleIter it a i) where
 mem:=by simp
 obj:=fun i h st b hb=>by
  have e:b=it:=by simpa using hb
  subst e
  obtain ⟨o,e,c,d⟩:=st
  exact ⟨o,e,fun v z=>by rw [d] at z;cases z⟩
 keep:=fun i h h' st k=>st.at fun o e=>k it (by simp) o e
 item:=by
  intro X hP hw hK hc i pins s σ H E I hf st hg
  subst hP hw hK
  obtain ⟨xs,x,hq,hx⟩:=hg
  obtain ⟨its,rv,p,hz⟩:=I.tuple hq
  obtain ⟨u,hu,ru⟩:=rv.get hx
  obtain ⟨f0,f1,f2,f3,f4,f5⟩:=hf it (by simp)
  refine wpAny_pyNext_tuple_item st (show s.heap.IsTuple a its.toArray from p) (x:=u) (by simpa using hu) fun h' st' sb=> ?_
  have I1:Inv X pins σ H {s with heap:=h'}:=I.turned (t':=s.toks) (fun b o hb e=>(sb.2 b hb).trans e) f0 f1 f3 f4 f5
  obtain ⟨o,e,c,d⟩:=id st'
  exact ⟨u,rfl,Tm (s:={s with heap:=h'}) e c d (by decide) ⟨x,H,I1,ru,⟨rfl,fun ys hy=>by rw [I.tuple_inj hy hq];exact hx⟩,st',fun b hb=>(hf b hb).1⟩⟩
 done:=by
  intro X hP hw hK hc i pins s σ H E I hf st hg
  subst hP hw hK
  obtain ⟨xs,hq,hx⟩:=hg
  obtain ⟨its,rv,p,hz⟩:=I.tuple hq
  obtain ⟨f0,f1,f2,f3,f4,f5⟩:=hf it (by simp)
  have hl:=rv.length
  exact wpAny_pyNext_tuple_end (I.ok.hd hc) st (show s.heap.IsTuple a its.toArray from p) (by simp;omega) fun h' eb=>⟨rfl,I.turned (t':=s.toks) (fun b o hb e=>eb b o hb e) f0 f1 f3 f4 f5⟩
 self:=fun _ _ _ _ _ st h=>wpAny_pyIter_tupleiter st h
theorem Vk {P:Program} {w:World} {K:PySem.W.Frag} {tg:Expr} (it:Addr) (lo:Int) (n:Nat):Uy P w K tg (Itr lo n) [it] it (fun i h=>IsRangeIter h it (lo+(i:Nat)*1) ((n:Int)-(i:Nat)) 1) where
 mem:=by simp
 obj:=fun i h st b hb=>by
  have e:b=it:=by simpa using hb
  subst e
  exact ⟨_,st,fun v z=>by
   have z':Data.fields _=Data.cell v:=z
   cases z'⟩
 keep:=fun i h h' st k=>k it (by simp) _ st
 item:=by
  intro X hP hw hK hc i pins s σ H E I hf st hg
  subst hP hw hK
  obtain ⟨f0,f1,f2,f3,f4,f5⟩:=hf it (by simp)
  have W:=Walks.range (prog:=X.prog) (w:=X.w) (I.ok.hd hc) it lo 1 n
  refine W.item i s _ _ hg st fun v h' tk hv st' kk=> ?_
  obtain ⟨t,rfl⟩:=hv
  have I1:Inv X pins σ H {s with heap:=h',toks:=tk}:=I.turned (fun b o hb e=>kk b o (by simpa using hb) e) f0 f1 f3 f4 f5
  refine ⟨_,rfl,Tm (s:={s with heap:=h',toks:=tk}) (n:="range_iterator") st' rfl rfl (by decide) ⟨.int (lo+i),H,I1,⟨t,?_⟩,⟨rfl,rfl⟩,st',fun b hb=>(hf b hb).1⟩⟩
  rw [Int.mul_one]
 done:=by
  intro X hP hw hK hc i pins s σ H E I hf st hg
  subst hP hw hK
  obtain ⟨f0,f1,f2,f3,f4,f5⟩:=hf it (by simp)
  exact wpAny_pyNext_range_end (I.ok.hd hc) st (by have:n≤i:=hg;omega) fun h' eb=>⟨rfl,I.turned (t':=s.toks) (fun b o hb e=>eb b o hb e) f0 f1 f3 f4 f5⟩
 self:=fun _ _ _ _ _ st h=>wpAny_pyIter_rangeiter st h
end L2

namespace L2
open PySem PySem.Spec PyProof.Rows
section
variable {X:Cx} {tg:Expr}
noncomputable def Tn (K:PySem.W.Frag) (tl:TE):TI:=fun σ H R=>tl σ H fun x H1=>∃a,x= .ref a∧(∃xs,SqL K H1 a xs)∧R (Itl K a) H1
noncomputable def zch (K:PySem.W.Frag) (tl:TE):TI:=fun σ H R=>tl σ H fun x H1=>∃a,x= .ref a∧(∃xs,SqT K H1 a xs)∧R (Itt K a) H1
theorem za2 {l:Expr} {tl:TE} (hl:PE X l tl):PI X tg l (Tn X.K tl):=by
 intro pins s σ H R I h
 refine thn (hl pins s σ H _ I h) fun v s1 ⟨x,H1,I1,r1,q1⟩=> ?_
 obtain ⟨a,e,⟨xs,hq⟩,q⟩:=q1
 subst e
 cases r1
 obtain ⟨its,rv,p,hz⟩:=I1.list hq
 refine wpAny_pyIter_list p.isList ?_
 refine ⟨s1.heap.objs.size,[s1.heap.objs.size],_,_,H1,rfl,I1.kept (t':=s1.toks) fun b o e=>Heap.get?_push_of_some _ e,Uz a _,⟨_,Heap.get?_push_size _ rfl,rfl,rfl⟩,fun b hb=> ?_,q⟩
 have e:b=s1.heap.objs.size:=by simpa using hb
 subst e
 exact I1.fpOk (Nat.le_refl _) (I1.hok.fresh (Nat.le_refl _))
theorem zci {l:Expr} {tl:TE} (hl:PE X l tl):PI X tg l (zch X.K tl):=by
 intro pins s σ H R I h
 refine thn (hl pins s σ H _ I h) fun v s1 ⟨x,H1,I1,r1,q1⟩=> ?_
 obtain ⟨a,e,⟨xs,hq⟩,q⟩:=q1
 subst e
 cases r1
 obtain ⟨its,rv,p,hz⟩:=I1.tuple hq
 refine wpAny_pyIter_tuple (show s1.heap.IsTuple a its.toArray from p) ?_
 refine ⟨s1.heap.objs.size,[s1.heap.objs.size],_,_,H1,rfl,I1.kept (t':=s1.toks) fun b o e=>Heap.get?_push_of_some _ e,Vj a _,⟨_,Heap.get?_push_size _ rfl,rfl,rfl⟩,fun b hb=> ?_,q⟩
 have e:b=s1.heap.objs.size:=by simpa using hb
 subst e
 exact I1.fpOk (Nat.le_refl _) (I1.hok.fresh (Nat.le_refl _))
theorem To {pins:List (Addr×Obj)} {σ:St} {H:Hp} {s:Shared} {R:It→Hp→Prop} {E:Value→Shared→Prop} {lo hi:Int} {t u v:Tok} {tk:Nat} (I:Inv X pins σ H s) (h1: -(2^62)≤lo) (h2:lo<2^62) (h3: -(2^62)≤hi) (h4:hi<2^62)
  (q:R (Itr lo (hi-lo).toNat) H):wpAny (model X.prog X.w) X.A (pyIter (.ref s.heap.objs.size)) (PIE X pins σ tg R) E {s with heap:=s.heap.push {cls:= .type "range",data:= .fields #[.int lo t,.int hi u,.int 1 v]},toks:=tk}:=by
 refine wpAny_pyIter_range (IsRange.new ..) (small_one h1 h2 h3 h4) ?_
 have I1:Inv X pins σ H {s with heap:=s.heap.push {cls:= .type "range",data:= .fields #[.int lo t,.int hi u,.int 1 v]},toks:=tk}:=I.kept fun b o e=>Heap.get?_push_of_some _ e
 refine ⟨(s.heap.push {cls:= .type "range",data:= .fields #[.int lo t,.int hi u,.int 1 v]}).objs.size,[(s.heap.push {cls:= .type "range",data:= .fields #[.int lo t,.int hi u,.int 1 v]}).objs.size],_,_,H,rfl,
  I1.kept (t':=tk) fun b o e=>Heap.get?_push_of_some _ e,Vk _ lo (hi-lo).toNat,?_,fun b hb=> ?_,q⟩
 ·have e1:lo+((0:Nat):Int)*1=lo:=by simp
  have e2:(((hi-lo).toNat:Nat):Int)-((0:Nat):Int)=Builtin.Range.rangeSize lo hi 1:=by rw [rangeSize_one];split<;>omega
  show IsRangeIter _ _ (lo+((0:Nat):Int)*1) ((((hi-lo).toNat:Nat):Int)-((0:Nat):Int)) 1
  rw [e1,e2]
  exact Heap.get?_push_size _ rfl
 ·have e:b=(s.heap.push {cls:= .type "range",data:= .fields #[.int lo t,.int hi u,.int 1 v]}).objs.size:=by simpa using hb
  subst e
  exact I1.fpOk (Nat.le_refl _) (I1.hok.fresh (Nat.le_refl _))
noncomputable def zbP (ta:TA):TI:=fun σ H R=>ta σ H fun vs H1=>∃j:Int,vs=[.int j]∧ -(2^62)≤j∧j<2^62∧R (Itr 0 j.toNat) H1
theorem xo {a:Expr} {ta:TA} {p pos:Pos} (hg:Gl X "range") (hm:X.mg "range"=none) (ha:PA X [a] ta) (hs:starEach [a] X.env=[(false,eval a X.env)]:=by rfl):PI X tg (.Call (.Name "range" p) [a] [] pos) (zbP ta):=by
 intro pins s σ H R I h
 refine Call_ (vd I hg hm boot_range (PyProof.Rows.callWith_type1 (thn (ha pos pins s σ H _ I h) fun us s1 ⟨vs,H1,I1,r1,q1⟩=> ?_) hs rfl))
 obtain ⟨j,e,q1,q2,q⟩:=q1
 subst e
 cases r1 with
 |cons r rr=>
  cases rr
  obtain ⟨t,rfl⟩:=r
  exact call_range_1 (To I1 (by omega) (by omega) q1 q2 (by simpa using q))

noncomputable def zdb (wi:TI) (g:TG) (tb:TS):TS:=fun D σ H=>wi σ H fun J H1=>∃W:Nat→Nat→St→Hp→Prop,(∃m,W 0 m σ H1)∧∀i m σ H,W i m σ H→
 (J.stop i H∧D.nx σ H)∨(J.go i H∧∃N:St→Hp→Prop,(∀σ' H',N σ' H'→∃m',m'<m∧W (i+1) m' σ' H')∧∀x H',J.yld i H x H'→g x σ H' fun σ2 H2=>tb {D with nx:=N,ct:=N,bk:=D.nx} σ2 H2)
noncomputable def Ye (fp:List Addr) (h:Heap):List (Addr×Obj):=fp.filterMap fun b=>(h.get? b).map fun o=>(b,o)
theorem wM {fp:List Addr} {h:Heap} {b:Addr} {o:Obj} (hb:b∈fp) (e:h.get? b=some o):(b,o)∈Ye fp h:=List.mem_filterMap.mpr ⟨b,hb,by rw [e];rfl⟩
theorem UA {fp:List Addr} {h:Heap} {p:Addr×Obj} (hp:p∈Ye fp h):p.1∈fp∧h.get? p.1=some p.2:=by
 obtain ⟨b,hb,e⟩:=List.mem_filterMap.mp hp
 cases q:h.get? b with
 |none=>rw [q] at e;cases e
 |some o=>
  rw [q] at e
  have e':(b,o)=p:=Option.some.inj e
  subst e'
  exact ⟨hb,q⟩
theorem Inv.pinned {pins:List (Addr×Obj)} {σ:St} {H:Hp} {s:Shared} {fp:List Addr} (I:Inv X pins σ H s) (hf:∀b∈fp,Yd X pins H b) (ho:∀b∈fp,∃o,s.heap.get? b=some o∧∀v,o.data≠ .cell v):Inv X (pins++Ye fp s.heap) σ H s:=
 I.pins_of fun p hp=>(List.mem_append.mp hp).elim (fun z=>I.pin p (List.mem_append_right _ z)) fun z=>by
  obtain ⟨hb,e⟩:=UA z
  obtain ⟨f0,f1,f2,_⟩:=hf p.1 hb
  obtain ⟨o,e',d⟩:=ho p.1 hb
  rw [e] at e';cases e'
  exact ⟨e,f0,f1,f2,d⟩
theorem Inv.unpinned {pins pl:List (Addr×Obj)} {σ:St} {H:Hp} {s:Shared} (I:Inv X (pins++pl) σ H s):Inv X pins σ H s:=I.pins_of fun p hp=>I.pin p (List.mem_append_right _ (List.mem_append_left _ hp))
theorem XD {iter:Expr} {body:List Stmt} {wi:TI} {g:TG} {tb:TS} {pos:Pos} (hp:PassesOwn (model X.prog X.w) X.A X.env X.xe) (hc:X.calm=true) (hi:PI X tg iter wi) (hg:PG X tg g) (hb:PSs X body tb)
  (hs:∀x,foldedSetIterable iter X.env x=pure x:=by intro _;rfl):PS X (.For tg iter body [] pos) (zdb wi g tb):=by
 intro pins s σ H D I h
 refine wpAny_For (thn (hi pins s σ H _ I h) fun v s1 h1=>thn h1 fun itv s2 h2=> ?_) hs
 obtain ⟨it,fp,tn,J,H2,e,I2,T,st2,f2,W,⟨m0,w0⟩,turn⟩:=h2
 subst e
 have stat:∀{H':Hp},(∀b∈fp,H' b=none)→∀b∈fp,Yd X pins H' b:=fun hn b hb=>⟨hn b hb,(f2 b hb).2⟩
 refine codeAny_forLoop_any (fun n s'=>∃i σ' H',Inv X pins σ' H' s'∧tn i s'.heap∧(∀b∈fp,H' b=none)∧W i n σ' H') ?_ m0 ⟨0,σ,H2,I2,st2,fun b hb=>(f2 b hb).1,w0⟩
 rintro n s3 ⟨i,σ3,H3,I3,st3,fr3,w3⟩
 rcases turn i n σ3 H3 w3 with ⟨stop,qn⟩|⟨go,N,hN,step⟩
 ·refine wpAny_passesOwn hp (thn (T.done X rfl rfl rfl hc i pins s3 σ3 H3 X.xe I3 (stat fr3) st3 stop) fun r s4 ⟨hr,I4⟩=> ?_)
  subst hr
  exact wpAny_execs_nil ⟨σ3,H3,I4,qn⟩
 ·refine wpAny_passesOwn hp (thn (T.item X rfl rfl rfl hc i pins s3 σ3 H3 X.xe I3 (stat fr3) st3 go) fun r s4 ⟨u,hr,h4⟩=> ?_)
  subst hr
  refine wpAny_passesOwn hp (thn h4 fun _ s5 ⟨x,H5,I5,r5,y5,st5,fr5⟩=> ?_)
  have I5':=I5.pinned (stat fr5) (T.obj _ _ st5)
  refine wpAny_passesOwn hp (thn (hg _ s5 σ3 H5 x u _ I5' r5 (step x H5 y5)) fun _ s6 ⟨σ6,H6,I6,q6⟩=> ?_)
  refine wpAny_passesOwn hp (thn (hb _ s6 σ6 H6 _ I6 q6) fun f s7 q7=> ?_)
  have again:∀{σ7:St} {H7:Hp},Inv X (pins++Ye fp s5.heap) σ7 H7 s7→N σ7 H7→∃m,m<n∧∃i σ' H',Inv X pins σ' H' s7∧tn i s7.heap∧(∀b∈fp,H' b=none)∧W i m σ' H':=fun {σ7 H7} I7 n7=>by
   obtain ⟨m',hm,w7⟩:=hN σ7 H7 n7
   refine ⟨m',hm,i+1,σ7,H7,I7.unpinned,T.keep _ _ _ st5 fun b hb o e=>(I7.pin (b,o) (List.mem_append_right _ (List.mem_append_right _ (wM hb e)))).1,fun b hb=> ?_,w7⟩
   obtain ⟨o,e,d⟩:=T.obj _ _ st5 b hb
   exact (I7.pin (b,o) (List.mem_append_right _ (List.mem_append_right _ (wM hb e)))).2.1
  cases f with
  |next=>obtain ⟨σ7,H7,I7,n7⟩:=q7;exact again I7 n7
  |cont=>obtain ⟨σ7,H7,I7,n7⟩:=q7;exact again I7 n7
  |brk=>obtain ⟨σ7,H7,I7,q7⟩:=q7;exact ⟨σ7,H7,I7.unpinned,q7⟩
  |ret v=>obtain ⟨x7,σ7,H7,I7,r7,q7⟩:=q7;exact ⟨x7,σ7,H7,I7.unpinned,r7,q7⟩
end

end L2

namespace L2
open PySem PySem.Spec PyProof.Rows

noncomputable abbrev R2:=V→V→Hp→VK→Prop
noncomputable def OpR (X:Cx) (f:Value→Value→Sem Value) (r:R2):Prop:=
 ∀(pins:List (Addr×Obj)) (s:Shared) (σ:St) (H:Hp) (x y:V) (v u:Value) (Q:VK),Inv X pins σ H s→ye x v→ye y u→r x y H Q→
  wpAny (model X.prog X.w) X.A (f v u) (EP X pins σ Q) X.xe s
noncomputable def UnR (X:Cx) (f:Value→Sem Value) (r:V→Hp→VK→Prop):Prop:=
 ∀(pins:List (Addr×Obj)) (s:Shared) (σ:St) (H:Hp) (x:V) (v:Value) (Q:VK),Inv X pins σ H s→ye x v→r x H Q→
  wpAny (model X.prog X.w) X.A (f v) (EP X pins σ Q) X.xe s
noncomputable def vg (X:Cx) (f:Value) (r:List V→Hp→VK→Prop):Prop:=
 ∀(pins:List (Addr×Obj)) (s:Shared) (σ:St) (H:Hp) (xs:List V) (us:List Value) (Q:VK),Inv X pins σ H s→zK xs us→r xs H Q→
  wpAny (model X.prog X.w) X.A (call f us) (EP X pins σ Q) X.xe s

noncomputable def tOp (r:R2) (ta tb:TE):TE:=fun σ H Q=>ta σ H fun x H1=>tb σ H1 fun y H2=>r x y H2 Q
noncomputable def tUn (r:V→Hp→VK→Prop) (ta:TE):TE:=fun σ H Q=>ta σ H fun x H1=>r x H1 Q
noncomputable def rI (C:Int→Int→Prop) (g:Int→Int→V):R2:=fun x y H Q=>∃i j,x= .int i∧y= .int j∧C i j∧Q (g i j) H
noncomputable def rI0 (g:Int→Int→V):R2:=fun x y H Q=>∃i j,x= .int i∧y= .int j∧Q (g i j) H
noncomputable def rU (g:Int→V):V→Hp→VK→Prop:=fun x H Q=>∃i,x= .int i∧Q (g i) H

section
variable {X:Cx} {a b c:Expr} {ta tb tc:TE} {pos:Pos}

theorem zcj (ha:PE X a ta) (hb:PE X b tb) {pins:List (Addr×Obj)} {s:Shared} {σ:St} {H:Hp} {R:V→V→Hp→Prop} (I:Inv X pins σ H s)
  (h:ta σ H fun x H1=>tb σ H1 fun y H2=>R x y H2) {Q:Value→Shared→Prop} {f:Value→Value→Sem Value}
  (hf:∀v u s2 x y H2,Inv X pins σ H2 s2→ye x v→ye y u→R x y H2→wpAny (model X.prog X.w) X.A (f v u) Q X.xe s2):
  wpAny (model X.prog X.w) X.A (eval a X.env) (fun v s₁=>wpAny (model X.prog X.w) X.A (eval b X.env) (fun u s₂=>wpAny (model X.prog X.w) X.A (f v u) Q X.xe s₂) X.xe s₁) X.xe s:=by
 refine thn (ha pins s σ H _ I h) fun v s1 ⟨x,H1,I1,r1,q1⟩=> ?_
 refine thn (hb pins s1 σ H1 _ I1 q1) fun u s2 ⟨y,H2,I2,r2,q2⟩=> ?_
 exact hf v u s2 x y H2 I2 r1 r2 q2

theorem ym {op:Operator} {r:R2} (ho:OpR X (binaryOp op) r) (ha:PE X a ta) (hb:PE X b tb):PE X (.BinOp a op b pos) (tOp r ta tb):=by
 intro pins s σ H Q I h
 exact wpAny_BinOp (zcj ha hb I h fun v u s2 x y H2 I2 rx ry q=>ho pins s2 σ H2 x y v u Q I2 rx ry q)
theorem zdc {op:UnaryOp} {r:V→Hp→VK→Prop} (ho:UnR X (unaryOp op) r) (ha:PE X a ta):PE X (.UnaryOp op a pos) (tUn r ta):=by
 intro pins s σ H Q I h
 exact UnaryOp_ (thn (ha pins s σ H _ I h) fun v s1 ⟨x,H1,I1,r1,q1⟩=>ho pins s1 σ H1 x v Q I1 r1 q1)

theorem opI {f:Value→Value→Sem Value} {C:Int→Int→Prop} {g:Int→Int→Int}
  (rule:∀(i j:Int) (t u:Tok) (s:Shared) (Q:Value→Shared→Prop) (E:Value→Shared→Prop),C i j→Q (.int (g i j) s.toks) {s with toks:=s.toks+1}→wpAny (model X.prog X.w) X.A (f (.int i t) (.int j u)) Q E s):
  OpR X f (rI C fun i j=> .int (g i j)):=by
 intro pins s σ H x y v u Q I rx ry h
 obtain ⟨i,j,rfl,rfl,hc,q⟩:=h
 obtain ⟨t,rfl⟩:=rx
 obtain ⟨t',rfl⟩:=ry
 exact rule i j t t' s _ _ hc ⟨.int (g i j),H,I.tok _,⟨_,rfl⟩,q⟩
theorem zdd {f:Value→Value→Sem Value} {g:Int→Int→Int}
  (rule:∀(i j:Int) (t u:Tok) (s:Shared) (Q:Value→Shared→Prop) (E:Value→Shared→Prop),Q (.int (g i j) s.toks) {s with toks:=s.toks+1}→wpAny (model X.prog X.w) X.A (f (.int i t) (.int j u)) Q E s):
  OpR X f (rI0 fun i j=> .int (g i j)):=by
 intro pins s σ H x y v u Q I rx ry h
 obtain ⟨i,j,rfl,rfl,q⟩:=h
 obtain ⟨t,rfl⟩:=rx
 obtain ⟨t',rfl⟩:=ry
 exact rule i j t t' s _ _ ⟨.int (g i j),H,I.tok _,⟨_,rfl⟩,q⟩

noncomputable def zck (i j:Int):Prop:=0≤j∧j≤1000000∧i.natAbs<2^64

theorem Zw:OpR X (binaryOp .Add) (rI0 fun i j=> .int (i+j)):=zdd fun _ _ _ _ _ _ _ q=>add_int q
theorem Vl:OpR X (binaryOp .Sub) (rI0 fun i j=> .int (i-j)):=zdd fun _ _ _ _ _ _ _ q=>sub_int q
theorem vh:OpR X (binaryOp .Mod) (rI (fun _ j=>0<j) fun i j=> .int (i % j)):=opI fun i j _ _ _ _ _ hc q=>by
 have h1:(0:Int)<j:=hc
 exact mod_int' (by omega) (by rw [Int.fmod_eq_emod_of_nonneg i (by omega)];exact q)
theorem Tp:OpR X (binaryOp .Pow) (rI zck fun i j=> .int (i^j.toNat)):=opI fun _ _ _ _ _ _ _ hc q=>pow_int_small hc.1 hc.2.1 hc.2.2 q


theorem unI {f:Value→Sem Value} {g:Int→Int}
  (rule:∀(i:Int) (t:Tok) (s:Shared) (Q:Value→Shared→Prop) (E:Value→Shared→Prop),Q (.int (g i) s.toks) {s with toks:=s.toks+1}→wpAny (model X.prog X.w) X.A (f (.int i t)) Q E s):
  UnR X f (rU fun i=> .int (g i)):=by
 intro pins s σ H x v Q I rx h
 obtain ⟨i,rfl,q⟩:=h
 obtain ⟨t,rfl⟩:=rx
 exact rule i t s _ _ ⟨.int (g i),H,I.tok _,⟨_,rfl⟩,q⟩
theorem zcl:UnR X (unaryOp .USub) (rU fun i=> .int (-i)):=unI fun _ _ _ _ _ q=>neg_int q

end

noncomputable def zdU:V→V→Bool
 | .non,.non=>true| .non,.int _=>true| .int _,.non=>true| .non,.bl _=>true| .bl _,.non=>true| .non,.str _=>true| .str _,.non=>true
 | .int _,.int _=>true| .bl _,.bl _=>true| .str _,.str _=>true| .byt _,.byt _=>true
 | .int _,.str _=>true| .str _,.int _=>true| .bl _,.str _=>true| .str _,.bl _=>true
 |_,_=>false
noncomputable def rEq:R2:=fun x y H Q=>zdU x y=true∧Q (.bl (decide (x=y))) H

theorem za3 {i j:Int}:decide (V.int i=V.int j)=(i==j):=by
 rw [Bool.eq_iff_iff]
 simp
theorem zcm {i j:Bool}:decide (V.bl i=V.bl j)=(i==j):=by
 rw [Bool.eq_iff_iff]
 simp
theorem za4 {i j:Str}:decide (V.str i=V.str j)=(i==j):=by
 rw [Bool.eq_iff_iff]
 simp
theorem za5 {i j:Array UInt8}:decide (V.byt i=V.byt j)=(i.toList==j.toList):=by
 rw [Bool.eq_iff_iff]
 cases i
 cases j
 simp

section
variable {X:Cx} {a b c:Expr} {ta tb tc:TE} {pos:Pos}
theorem xh {pins:List (Addr×Obj)} {σ:St} {H:Hp} {s:Shared} {Q:VK} {k k':Bool} (I:Inv X pins σ H s) (q:Q (.bl k) H) (e:k=k'):EP X pins σ Q (.bool k') s:=by
 subst e
 exact ⟨.bl k,H,I,rfl,q⟩
theorem ZH:OpR X (compareOp .Eq) rEq:=by
 intro pins s σ H x y v u Q I rx ry h
 obtain ⟨hs,q⟩:=h
 cases x with
 |non=>
  cases rx
  cases y with
  |non=>cases ry;exact PySem.EqNone.eq_none_none (xh I q (by simp))
  |bl j=>cases ry;exact PySem.EqNone.eq_none_bool (xh I q (by simp))
  |int j=>obtain ⟨t',rfl⟩:=ry;exact PySem.EqNone.eq_none_int (xh I q (by simp))
  |str j=>obtain ⟨t',rfl⟩:=ry;exact PySem.EqNone.eq_none_str (xh I q (by simp))
  |_=>exact absurd (show false=true from hs) Bool.false_ne_true
 |bl i=>
  cases rx
  cases y with
  |non=>cases ry;exact PySem.EqNone.eq_bool_none (xh I q (by simp))
  |bl j=>cases ry;exact eq_bool (xh I q zcm)
  |str j=>obtain ⟨t',rfl⟩:=ry;exact PySem.EqMixed.eq_bool_str (xh I q (by simp))
  |_=>exact absurd (show false=true from hs) Bool.false_ne_true
 |int i=>
  obtain ⟨t,rfl⟩:=rx
  cases y with
  |non=>cases ry;exact PySem.EqNone.eq_int_none (xh I q (by simp))
  |int j=>obtain ⟨t',rfl⟩:=ry;exact eq_int (xh I q za3)
  |str j=>obtain ⟨t',rfl⟩:=ry;exact PySem.EqMixed.eq_int_str (xh I q (by simp))
  |_=>exact absurd (show false=true from hs) Bool.false_ne_true
 |str i=>
  obtain ⟨t,rfl⟩:=rx
  cases y with
  |non=>cases ry;exact PySem.EqNone.eq_str_none (xh I q (by simp))
  |bl j=>cases ry;exact PySem.EqMixed.eq_str_bool (xh I q (by simp))
  |int j=>obtain ⟨t',rfl⟩:=ry;exact PySem.EqMixed.eq_str_int (xh I q (by simp))
  |str j=>obtain ⟨t',rfl⟩:=ry;exact eq_str (xh I q za4)
  |_=>exact absurd (show false=true from hs) Bool.false_ne_true
 |byt i=>
  obtain ⟨t,rfl⟩:=rx
  cases y with
  |byt j=>obtain ⟨t',rfl⟩:=ry;exact PySem.W.eq_bytes (xh I q za5)
  |_=>exact absurd (show false=true from hs) Bool.false_ne_true
 |_=>cases y<;>exact absurd (show false=true from hs) Bool.false_ne_true





theorem Ub {op:CmpOp} {r:R2} (ho:OpR X (compareOp op) r) (ha:PE X a ta) (hb:PE X b tb) (hm:behindInMarks op b=false):PE X (.Compare a [op] [b] pos) (tOp r ta tb):=by
 intro pins s σ H Q I h
 exact wpAny_Compare1 (zcj ha hb I h fun v u s2 x y H2 I2 rx ry q=>ho pins s2 σ H2 x y v u Q I2 rx ry q) hm
noncomputable def zbQ (t:TE):TT:=fun σ H Q=>t σ H fun x H'=>∃k,x= .bl k∧Q k H'
theorem vE {op:CmpOp} {r:R2} (ho:OpR X (compareOp op) r) (ha:PE X a ta) (hb:PE X b tb) (hm:behindInMarks op b=false):PT X (.Compare a [op] [b] pos) (zbQ (tOp r ta tb)):=by
 intro pins s σ H Q I h
 refine wpAny_isTrue_Compare1 (thn (ha pins s σ H _ I h) fun v s1 ⟨x,H1,I1,r1,q1⟩=>thn (hb pins s1 σ H1 _ I1 q1) fun u s2 ⟨y,H2,I2,r2,q2⟩=>
  thn (ho pins s2 σ H2 x y v u _ I2 r1 r2 q2) fun c s3 ⟨z,H3,I3,r3,k,e,q3⟩=> ?_) hm
 subst e
 cases r3
 exact wpAny_truthy_bool ⟨H3,I3,q3⟩

theorem XE:(sizeLine:Nat)<2^63:=by rw [sizeLine_eq];decide



theorem Yf {x:V} {us:List Value} (r:zK [x] us):∃u,us=[u]∧ye x u:=by
 cases r with
 |cons r1 r2=>cases r2;exact ⟨_,rfl,r1⟩
theorem zde {x y:V} {us:List Value} (r:zK [x,y] us):∃u w',us=[u,w']∧ye x u∧ye y w':=by
 cases r with
 |cons r1 r2=>
  cases r2 with
  |cons r3 r4=>cases r4;exact ⟨_,_,rfl,r1,r3⟩
theorem Yg:vg X (.builtin "abs") (fun xs H Q=>∃i,xs=[.int i]∧Q (.int (if i<0 then -i else i)) H):=by
 intro pins s σ H xs us Q I r h
 obtain ⟨i,rfl,q⟩:=h
 obtain ⟨u,rfl,t,rfl⟩:=Yf r
 exact call_abs_int fun u tk=>⟨.int (if i<0 then -i else i),H,I.tok _,⟨_,rfl⟩,q⟩
end
end L2

namespace L2
open PySem PySem.Spec PyProof.Rows

structure zcn (h:Heap) (x dx C:Addr) (mA:Str→Option Value):Prop where
 obj:h.get? x=some (PySem.W.instObj C dx)
 ns:h.Ns1 dx mA
 ne:dx≠x

theorem UB {h:Heap} {dx:Addr} {mA:Str→Option Value} (n:h.Ns1 dx mA):∃od,h.get? dx=some od∧∀name,PySem.W.lookIn name od=some (mA name):=by
 obtain ⟨o,es,ep,ho,hd,hk,_,hm⟩:=n
 refine ⟨o,ho,fun name=> ?_⟩
 have e:=hm name
 unfold nsFind findBy at e
 rw [←Array.find?_toList] at e
 unfold PySem.W.lookIn
 rw [hd]
 dsimp only
 split
 ·rename_i y q
  rw [q] at e
  exact congrArg some e
 ·rename_i q
  rw [q] at e
  have a:es.toList.any (·.refKey)=false:=by
   rw [List.any_eq_false]
   intro y hy
   obtain ⟨z,t,hkey⟩:=hk y (Array.mem_toList_iff.mp hy)
   simp [DictEntry.refKey,hkey]
  have a':¬es.toList.any (·.refKey)=true:=by rw [a];exact Bool.false_ne_true
  rw [if_neg a']
  exact congrArg some e

theorem zcn.look {h:Heap} {x dx C:Addr} {mA:Str→Option Value} (I:zcn h x dx C mA):∃od,PySem.W.InstAt h x (PySem.W.instObj C dx) C (some od)∧∀name,PySem.W.lookIn name od=some (mA name):=
 let ⟨od,ho,hl⟩:=UB I.ns
 ⟨od,⟨I.obj,rfl,rfl,ho⟩,hl⟩

section
variable {prog:Program} {w:World} {A:Around} {E:Value→Shared→Prop} {s:Shared} {K:PySem.W.Frag} {x dx C f:Addr} {mA:Str→Option Value} {name:Str} {v:Value}





end



section
variable {P:Program} {w:World} {H H':Hp} {h h':Heap} {a C dx:Addr} {fs fs':List (Str×V)}
theorem za6 (hok:HOk P w H h) (e:H a=some (.ins C dx fs)):∃mA,zcn h a dx C mA∧(∀f,zb8 (fs.lookup f) (mA f))∧PySem.Within mA (fs.map (·.1))∧fs.length≤1000∧H dx=some (.own a):=by
 obtain ⟨d,z,ne,ob,mA,n,r,q⟩:=(show yM P w H h a (.ins C dx fs) from hok a _ e)
 exact ⟨mA,⟨ob,n,ne⟩,r,q,z,d⟩
end

structure Cls (K:PySem.W.Frag) (C:Addr):Prop where
 pg:PySem.W.plainGet K C Str.empty=true
 hd:PySem.W.hasDictIn K C=true
 po:PySem.W.plainOver K C=true
 sa:PySem.W.findIn K (.ref C) "__setattr__"=some (some (.builtin "object.__setattr__"))
theorem Cls.get {K:PySem.W.Frag} {C:Addr} (c:Cls K C) (f:Str):PySem.W.plainGet K C f=true:=c.pg
structure Con (K:PySem.W.Frag) (C:Addr) (f:Str) (v:V) (u:Value):Prop where
 at_:PySem.W.findIn K (.ref C) f=some (some u)
 rel:ye v u
 get:PySem.W.specialIn K u "__get__"=some none
 cp:PySem.W.copiedNames.contains f=false
structure zd3 (K:PySem.W.Frag) (C:Addr) (m:Str) (f:Addr):Prop where
 at_:PySem.W.findIn K (.ref C) m=some (some (.ref f))
 fn:PySem.W.isFn K (.ref f)=true
 kp:PySem.W.keepIn K (.ref f)=true

section
variable {X:Cx} {pins:List (Addr×Obj)} {σ:St} {H:Hp} {s:Shared} {a C dx:Addr} {fs:List (Str×V)} {f:Str} {v:V} {A:Around} {E:Value→Shared→Prop}






end


section
variable {X:Cx} {o e value:Expr} {f:Str} {pos pos' tpos:Pos} {ta tv:TE}

end

section
variable {X:Cx} {pins:List (Addr×Obj)} {σ:St} {H:Hp} {s:Shared} {A:Around} {E:Value→Shared→Prop} {Q:Value→Shared→Prop} {c:Value} {b:Bool}
inductive ZQ (K:PySem.W.Frag) (H:Hp):V→Value→Prop where
 |non:ZQ K H .non (.type "NoneType")
 |bl (x:Bool):ZQ K H (.bl x) (.type "bool")
 |int (i:Int):ZQ K H (.int i) (.type "int")
 |str (x:Str):ZQ K H (.str x) (.type "str")
 |flt (x:UInt64):ZQ K H (.flt x) (.type "float")
 |lst {a:Addr} {xs:List V} (e:H a=some (.lst xs)):ZQ K H (.ref a) (.type "list")
 |frz {a:Addr} {o:Obj} {xs:List V} (e:H a=some (.frz o (.lst xs))):ZQ K H (.ref a) (.type "list")
 |tup {a:Addr} {xs:List V} (e:H a=some (.tup xs)):ZQ K H (.ref a) (.type "tuple")
 |dK {a:Addr} {kvs:List (Key×V)} (e:H a=some (.dK kvs)):ZQ K H (.ref a) (.type "dict")
 |dT {a:Addr} {kvs:List (List Key×V)} (e:H a=some (.dT kvs)):ZQ K H (.ref a) (.type "dict")
 |ins {a C dx:Addr} {fs:List (Str×V)} (e:H a=some (.ins C dx fs)) (cl:Cls K C) (ha:PySem.W.findIn K (.ref C) "__class__"=some (some (.builtin "object.__class__")))
   (hn:PySem.W.specialIn K (.builtin "object.__class__") "__get__"=some (some (.builtin "getset_descriptor.__get__"))) (htk:PySem.W.takesIn K (.builtin "object.__class__")=some true)
   (hm:PySem.W.mroIn K C (.type "object")=some true):ZQ K H (.ref a) (.ref C)
end
end L2

namespace L2
open PySem PySem.Spec PyProof.Rows

structure vb (k:Nat) (A:Around):Prop where
 hd:A.handled=none
 dp:A.depth+3*k+5<recursionLimit
 un:A.units+16*k+200<cLine
 gd:A.guards=some []
theorem vb.mono {j k:Nat} {A:Around} (r:vb k A) (h:j≤k):vb j A:=⟨r.hd,by have:=r.dp;omega,by have:=r.un;omega,r.gd⟩
theorem vb.deeper {k:Nat} {A:Around} (r:vb (k+1) A) (env:Env):vb k (A.deeper env):=
 ⟨r.hd,by have:=r.dp;show A.depth+1+3*k+5<_;omega,by have:=r.un;show A.units+3+16*k+200<_;omega,r.gd⟩
theorem vb.depth {k:Nat} {A:Around} (r:vb k A):A.depth<recursionLimit:=by have:=r.dp;omega

noncomputable def Tq:TA:=fun _ H Q=>Q [] H
noncomputable def Xc (ta:TE) (tr:TA):TA:=fun σ H Q=>ta σ H fun x H1=>tr σ H1 fun xs H2=>Q (x::xs) H2
section
variable {X:Cx} {e:Expr} {es:List Expr} {te:TE} {t:TA} {pos:Pos}
theorem zf:PA X [] Tq:=fun _ _ _ _ H Q I h=>Calls.spliced_nil ⟨[],H,I,.nil,h⟩
theorem za (ha:PE X e te) (hr:PA X es t) (hs:starEach (e::es) X.env=(false,eval e X.env)::starEach es X.env:=by rfl):PA X (e::es) (Xc te t):=by
 intro pos pins s σ H Q I h
 rw [hs]
 show wpAny _ _ (spliced ((false,eval e X.env)::backTo pos (starEach es X.env))) _ _ s
 refine Calls.spliced_cons (thn (ha pins s σ H _ I h) fun u s1 ⟨x,H1,I1,r1,q1⟩=> ?_)
 exact thn (hr pos pins s1 σ H1 _ I1 q1) fun us s2 ⟨xs,H2,I2,r2,q2⟩=>⟨x::xs,H2,I2,.cons r1 r2,q2⟩

noncomputable def zdf (t:TA):TE:=fun σ H Q=>t σ H fun xs H1=>xs.length≤sizeLine∧∀p,H1 p=none→Q (.ref p) (upd H1 p (.tup xs))
noncomputable def zdg (t:TA):TE:=fun σ H Q=>t σ H fun xs H1=>xs.length≤sizeLine∧∀p,H1 p=none→Q (.ref p) (upd H1 p (.lst xs))
theorem zy {x1} (h:PA X es t):PE X (.Tuple es x1 pos) (zdf t):=by
 intro pins s σ H Q I hq
 refine wpAny_Tuple_spliced (thn (h pos pins s σ H _ I hq) fun us s1 ⟨xs,H1,I1,r,z,q⟩=>⟨by rw [←r.length];exact z,?_⟩)
 have hf:H1 s1.heap.objs.size=none:=I1.hok.fresh (Nat.le_refl _)
 refine ⟨.ref s1.heap.objs.size,upd H1 s1.heap.objs.size (.tup xs),I1.laid (t':=s1.toks) (fun b u e=>Heap.get?_push_of_some _ e) (Nat.le_refl _) ?_,rfl,q _ hf⟩
 exact ⟨z,us,r,⟨_,Heap.get?_push_size _ rfl,rfl,_,rfl⟩⟩
theorem vR (h:PA X es t):PE X (.List es pos) (zdg t):=by
 intro pins s σ H Q I hq
 refine wpAny_List_spliced (thn (h pos pins s σ H _ I hq) fun us s1 ⟨xs,H1,I1,r,z,q⟩=>⟨by rw [←r.length];exact z,?_⟩)
 have hf:H1 s1.heap.objs.size=none:=I1.hok.fresh (Nat.le_refl _)
 refine ⟨.ref s1.heap.objs.size,upd H1 s1.heap.objs.size (.lst xs),I1.laid (t':=s1.toks) (fun b u e=>Heap.get?_push_of_some _ e) (Nat.le_refl _) ?_,rfl,q _ hf⟩
 exact ⟨z,us,0,r,Heap.get?_push_size _ rfl⟩
end

noncomputable abbrev Sp:=List V→Hp→VK→XK→Prop
noncomputable abbrev CXT:=List Env→Hp→Shared→XK→Value→Shared→Prop

structure Vm (P:Program) (w:World) (K:PySem.W.Frag) (mg:Str→Option Value) (base:Heap) (A:Around) (outer:List Env) (s:Shared) (H:Hp):Prop where
 frames:A.frames=some outer
 mod:Mod K mg base
 bs:∀b o,base.get? b=some o→s.heap.get? b=some o∧H b=none
 bsz:base.objs.size≤s.heap.objs.size
 funs:s.heap.FunFrames base outer
 frf:∀b∈frs outer,H b=none
 hok:HOk P w H s.heap
 bare:AllBare s.gens
noncomputable def CE (outer:List Env) (P:Program) (w:World) (H:Hp) (s:Shared) (Q:VK) (u:Value) (s':Shared):Prop:=
 ∃v H',s'.os=s.os∧AllBare s'.gens∧Un (frs outer) [] H H' s.heap s'.heap∧HOk P w H' s'.heap∧ye v u∧Q v H'
noncomputable def CR (CX:CXT) (outer:List Env) (P:Program) (w:World) (H:Hp) (s:Shared) (Q:VK) (E:XK) (r:Result) (s':Shared):Prop:=
 match r with
 | .ok (.ret u)=>CE outer P w H s Q u s'
 | .ok _=>False
 | .error e=>CX outer H s E e s'
structure yL (P:Program) (w:World) (K:PySem.W.Frag) (mg:Str→Option Value) (base:Heap) (CX:CXT) (k:Nat) (f:Addr) (fd:FuncData) (ps:List Str) (sp:Sp):Prop where
 len:∀vs H Q E,sp vs H Q E→vs.length=ps.length
 run:∀(A:Around) (outer:List Env) (s:Shared) (H:Hp) (args:Args) (us:List Value) (vs:List V) (Q:VK) (E:XK),vb k A→Vm P w K mg base A outer s H→BindsTo s fd args (ps.zip us)→zK vs us→sp vs H Q E→
  codeAny (model P w) A (.call (.ref f) args) (CR CX outer P w H s Q E) s
theorem yL.imp {P:Program} {w:World} {K:PySem.W.Frag} {mg:Str→Option Value} {base:Heap} {CX:CXT} {k:Nat} {f:Addr} {fd:FuncData} {ps:List Str} {sp sp':Sp} (F:yL P w K mg base CX k f fd ps sp)
  (h:∀vs H Q E,sp' vs H Q E→sp vs H Q E):yL P w K mg base CX k f fd ps sp':=
 ⟨fun vs H Q E q=>F.len vs H Q E (h _ _ _ _ q),fun A outer s H args us vs Q E hr he hb hv hs=>F.run A outer s H args us vs Q E hr he hb hv (h _ _ _ _ hs)⟩

theorem Vm.in1 {P:Program} {w:World} {K:PySem.W.Frag} {mg:Str→Option Value} {base:Heap} {A:Around} {outer:List Env} {s:Shared} {H:Hp} (e:Vm P w K mg base A outer s H):
  Vm P w K mg base A.in1 outer s H:=⟨e.frames,e.mod,e.bs,e.bsz,e.funs,e.frf,e.hok,e.bare⟩

section
variable {X:Cx} {pins:List (Addr×Obj)} {σ:St} {H:Hp} {s s':Shared}
theorem Inv.env0 (I:Inv X pins σ H s):Vm X.prog X.w X.K X.mg X.base X.A X.stack s H:=
 ⟨I.ok.frames,I.ok.mod,I.bs,Nat.le_trans I.ok.bsz I.sz,I.stack,I.stkFree,I.hok,I.bare⟩
theorem Inv.after {Q:VK} {u:Value} (I:Inv X pins σ H s) (h:CE X.stack X.prog X.w H s Q u s'):EP X pins σ Q u s':=by
 obtain ⟨v,H',os,bare,un,hok,r,q⟩:=h
 obtain ⟨hh,g,d,t,os'⟩:=s'
 obtain rfl:os'=s.os:=os
 exact ⟨v,H',I.call (h':=hh) (g':=g) (d':=d) (t':=t) (ch:=[]) un hok bare (fun b z=>absurd z (by simp)),r,q⟩
end

noncomputable def zbR (sp:Sp) (dvs:List V) (E:XK) (t:TA):TE:=fun σ H Q=>t σ H fun vs H1=>sp (vs++dvs) H1 Q E

noncomputable def yN (K:PySem.W.Frag) (fd:FuncData) (ps:List Str) (ds:List Value):Prop:=
 ∀(s:Shared) (us:List Value),K.In s.heap→(us++ds).length=ps.length→BindsTo s fd ⟨us,[]⟩ (ps.zip (us++ds))
theorem yN.all {K:PySem.W.Frag} {fd:FuncData} {ps:List Str} (h:∀us:List Value,us.length=ps.length→bindArgs fd ⟨us,[]⟩=pure (ps.zip us)):yN K fd ps []:=fun s us _ hl=>by
 rw [List.append_nil] at hl ⊢
 exact .of_eq (h us hl)

noncomputable def XF (CX:CXT) (X:Cx) (E:XK):Prop:=∀(pins:List (Addr×Obj)) (σ:St) (H:Hp) (s:Shared) (e:Value) (s':Shared),Inv X pins σ H s→CX X.stack H s E e s'→X.xe e s'

section
variable {X:Cx} {CX:CXT} {k:Nat} {f C:Addr} {fd:FuncData} {ps:List Str} {sp:Sp} {dvs:List V} {ds:List Value} {E:XK} {x m:Str} {p pos apos:Pos} {e o:Expr} {es:List Expr} {ta:TE} {t:TA}

theorem zco {pins:List (Addr×Obj)} {σ:St} {H:Hp} {s:Shared} {Q:VK} {us:List Value} {vs:List V} (F:yL X.prog X.w X.K X.mg X.base CX k f fd ps sp) (hr:vb k X.A) (hb:yN X.K fd ps ds) (hd:zK dvs ds) (hx:XF CX X E)
  (I:Inv X pins σ H s) (r:zK vs us) (h:sp (vs++dvs) H Q E):wpAny (model X.prog X.w) X.A (call (.ref f) us) (EP X pins σ Q) X.xe s:=by
 have r2:zK (vs++dvs) (us++ds):=r.append hd
 have hl:(us++ds).length=ps.length:=by rw [←r2.length];exact F.len _ _ _ _ h
 refine wpAny_call (codeAny_mono (F.run X.A X.stack s H ⟨us,[]⟩ (us++ds) (vs++dvs) Q E hr I.env0 (hb s us I.kIn hl) r2 h) fun r s' hq=> ?_)
 cases r with
 |error e=>exact hx pins σ H s e s' I hq
 |ok fl=>
  cases fl with
  |ret u=>exact I.after hq
  |next=>exact False.elim hq
  |brk=>exact False.elim hq
  |cont=>exact False.elim hq

theorem zr (F:yL X.prog X.w X.K X.mg X.base CX k f fd ps sp) (hr:vb k X.A) (hg:Gl X x) (hm:X.mg x=some (.ref f)) (hk:PySem.W.keepIn X.K (.ref f)=true) (hb:yN X.K fd ps ds) (hd:zK dvs ds) (hx:XF CX X E)
  (ha:PA X (e::es) t) (hdb:(x==("__debug__":Str))=false:=by decide) (he:starEach (e::es) X.env=(false,eval e X.env)::starEach es X.env:=by rfl) (hpl:(backTo pos (starEach es X.env)).any (·.1)=false:=by rfl):
  PE X (.Call (.Name x p) (e::es) [] pos) (zbR sp dvs E t):=by
 intro pins s σ H Q I h
 refine wpAny_Call_Name_kw (XB I hg hm ?_ hdb)
 refine PySem.W.callWith_K (h₀:=X.base) I.ok.mod.kin hk (thn (ha pos pins s σ H _ I h) fun us s1 ⟨vs,H1,I1,r,q⟩=>⟨I1.kIn,?_⟩) he hpl
 exact zco F hr hb hd hx I1 r q


structure Mk (K:PySem.W.Frag) (C f:Addr):Prop where
 makes:PySem.W.makesIn K C=true
 init:PySem.W.findIn K (.ref C) "__init__"=some (some (.ref f))
 fn:PySem.W.isFn K (.ref f)=true
 kp:PySem.W.keepIn K (.ref C)=true

end

section
variable {X:Cx} {CX:CXT} {k:Nat} {f C:Addr} {fd:FuncData} {ps ks:List Str} {sp:Sp} {E:XK} {x m:Str} {p pos apos kpos:Pos} {e o:Expr} {es:List Expr} {kws:List Keyword} {te ta:TE} {t tk:TA} {nm:Option Str}

structure zdV (K:PySem.W.Frag) (fd:FuncData) (ps ks:List Str) (g:List Value→List Value→List Value) (gV:List V→List V→List V):Prop where
 to:∀(s:Shared) (us ws:List Value),K.In s.heap→(g us ws).length=ps.length→BindsTo s fd ⟨us,ks.zip ws⟩ (ps.zip (g us ws))
 rel:∀{vs:List V} {us:List Value} {zs:List V} {ws:List Value},zK vs us→zK zs ws→zK (gV vs zs) (g us ws)
variable {g:List Value→List Value→List Value} {gV:List V→List V→List V}
end

structure yh (N P:List Str) (sc:Scope):Prop where
 kind:sc.kind= .function
 co:sc.isCoroutine=false
 gen:sc.isGenerator=false
 nd:N.Nodup
 pre:N.take P.length=P
 par:∀x∈P,sc.names.lookup x=some .local∨sc.names.lookup x=some .cell
 nofree:∀y∈sc.names,y.2≠ .free

theorem Xd {kindOf:Str→Option NameKind} {x:Str}:∀{binds:List (Str×Value)} {m:Str→Option Value},(∀v,(x,v)∉binds)→bindL kindOf binds m x=m x
 |[],_,_=>rfl
 |(n,v)::r,m,h=>by
  unfold bindL
  rw [Xd fun w hw=>h w (List.mem_cons_of_mem _ hw)]
  split
  ·have:x≠n:=by rintro rfl;exact h v List.mem_cons_self
   simp [this]
  ·rfl
theorem Xe {kindOf:Str→Option NameKind} {x:Str}:∀{binds:List (Str×Value)} {m:Str→Option Value},(∀v,(x,v)∉binds)→bindC kindOf binds m x=m x
 |[],_,_=>rfl
 |(n,v)::r,m,h=>by
  unfold bindC
  rw [Xe fun w hw=>h w (List.mem_cons_of_mem _ hw)]
  split
  ·rfl
  ·have:x≠n:=by rintro rfl;exact h v List.mem_cons_self
   simp [this]
theorem Xf {kindOf:Str→Option NameKind} {x:Str} {v:Value}:∀{P:List Str} {vs:List Value} {i:Nat} {m:Str→Option Value},P.Nodup→P[i]? =some x→vs[i]? =some v→kindOf x=some .local→
  bindL kindOf (P.zip vs) m x=some v
 |[],_,_,_,_,h,_,_=>by simp at h
 |_::_,[],_,_,_,_,h,_=>by simp at h
 |p::P,w::vs,0,m,nd,h1,h2,hk=>by
  simp at h1 h2;subst h1;subst h2
  show bindL kindOf ((p,w)::P.zip vs) m p=_
  unfold bindL
  rw [Xd fun v hv=>(List.nodup_cons.mp nd).1 (List.of_mem_zip hv).1,if_pos hk]
  simp
 |p::P,w::vs,i+1,m,nd,h1,h2,hk=>by
  show bindL kindOf ((p,w)::P.zip vs) m x=_
  unfold bindL
  exact Xf (i:=i) (List.nodup_cons.mp nd).2 (by simpa using h1) (by simpa using h2) hk
theorem Xg {kindOf:Str→Option NameKind} {x:Str} {v:Value}:∀{P:List Str} {vs:List Value} {i:Nat} {m:Str→Option Value},P.Nodup→P[i]? =some x→vs[i]? =some v→kindOf x≠some .local→
  bindC kindOf (P.zip vs) m x=some v
 |[],_,_,_,_,h,_,_=>by simp at h
 |_::_,[],_,_,_,_,h,_=>by simp at h
 |p::P,w::vs,0,m,nd,h1,h2,hk=>by
  simp at h1 h2;subst h1;subst h2
  show bindC kindOf ((p,w)::P.zip vs) m p=_
  unfold bindC
  rw [Xe fun v hv=>(List.nodup_cons.mp nd).1 (List.of_mem_zip hv).1,if_neg hk]
  simp
 |p::P,w::vs,i+1,m,nd,h1,h2,hk=>by
  show bindC kindOf ((p,w)::P.zip vs) m x=_
  unfold bindC
  exact Xg (i:=i) (List.nodup_cons.mp nd).2 (by simpa using h1) (by simpa using h2) hk

noncomputable def vi (N:List Str) (vs:List V):St:=vs.map some++List.replicate (N.length-vs.length) none

noncomputable def Wv (CX:CXT) (P:Program) (w:World) (K:PySem.W.Frag) (mg:Str→Option Value) (base:Heap) (N:List Str) (qual:Str) (scope:Scope) (f:Addr) (cd:Value) (A:Around) (outer:List Env) (s:Shared) (H:Hp) (E:XK):Cx where
 prog:=P
 w:=w
 K:=K
 mg:=mg
 base:=base
 A:=A.deeper (envOfC qual scope s.heap.objs.size f cd)
 N:=N
 s₀:=s
 H₀:=H
 env:=envOfC qual scope s.heap.objs.size f cd
 outer:=outer
 stack:=envOfC qual scope s.heap.objs.size f cd::outer
 ex:=[]
 calm:=true
 fn:=fun _=>true
 pn:=[]
 xe:=fun e s'=>wpAny (model P w) (A.deeper (envOfC qual scope s.heap.objs.size f cd)) (leaving (envOfC qual scope s.heap.objs.size f cd) e) (fun _ s''=>CX outer H s E e s'') (fun e' s''=>CX outer H s E e' s'') s'

theorem Ww {sc:Scope} {n:Nat} {x:Str} (h:sc.names.lookup x=some .cell):∃c,(cellsFrom n sc.names []).lookup x=some c:=by
 have q:=PySem.W.cellsFrom_some sc.names n [] (.inl h)
 exact Option.isSome_iff_exists.mp q

theorem UC {CX:CXT} {P:Program} {w:World} {K:PySem.W.Frag} {mg:Str→Option Value} {base:Heap} {N ps:List Str} {qual:Str} {scope:Scope} {f:Addr} {cd:Value} {A:Around} {outer:List Env} {s s1:Shared} {H:Hp} {E:XK} {us:List Value} {vs:List V}
  (S:yh N ps scope) (hd:A.handled=none) (e0:Vm P w K mg base A outer s H) (hl:vs.length=ps.length) (r:zK vs us)
  (x:InCallC s s.heap.objs.size (bindL (envOfC qual scope s.heap.objs.size f cd).kindOf (ps.zip us) fun _=>none) (cellsFrom (s.heap.objs.size+1) scope.names []) (bindC (envOfC qual scope s.heap.objs.size f cd).kindOf (ps.zip us) fun _=>none) s1):
  Inv (Wv CX P w K mg base N qual scope f cd A outer s H E) [] (vi N vs) H s1:=by
 have hpl:ps.length≤N.length:=by have:=congrArg List.length S.pre;rw [List.length_take] at this;omega
 obtain ⟨h1,tk,rfl,hk⟩:=x.done
 have noA:∀b:Addr,b∉(Wv CX P w K mg base N qual scope f cd A outer s H E).ex:=fun b z=>absurd (show b∈([]:List Addr) from z) (by simp)
 refine ⟨⟨e0.mod,S.kind,rfl,rfl,Nat.le_refl _,fun y z c h1 h2=> ?_,fun y hy=> ?_,fun y c _ h=> ?_,fun _=>hd,Around.frames_deeper e0.frames,.inr ⟨rfl,rfl⟩,fun b z=>absurd z (noA b),e0.bs,e0.bsz,fun b _ _=>noA b,fun b z=>absurd z (noA b),e0.funs,e0.frf⟩,
  rfl,e0.bare,Un.kept hk,⟨_,x.toInCall.ns,fun i y v h1 h2 h3=> ?_⟩,fun y c h=>⟨_,x.cell y c h⟩,e0.hok.fresh (Nat.le_refl _),fun y c h=> ?_,fun p hp=>absurd (show p∈([]:List (Addr×Obj)) from hp) (by simp),e0.hok.kept hk,?_⟩
 ·exact name_of_addr x.apart (PySem.mem_of_lookup h1) (PySem.mem_of_lookup h2)
 ·have hy:scope.names.lookup y=some .cell∨scope.names.lookup y=some .free:=hy
  rcases hy with hy|hy
  ·exact Ww hy
  ·exact absurd rfl (S.nofree _ (PySem.mem_of_lookup hy))
 ·exact Nat.le_of_lt (x.above y c (PySem.mem_of_lookup h))
 ·have hi:i<vs.length:=by
   unfold vi at h2
   by_cases hi:i<vs.length
   ·exact hi
   ·rw [List.getElem?_append_right (by simpa using hi)] at h2
    rw [List.getElem?_replicate] at h2
    split at h2<;>cases h2
  have ha:vs[i]? =some v:=by
   unfold vi at h2
   rw [List.getElem?_append_left (by simpa using hi),List.getElem?_map] at h2
   cases e:vs[i]? with
   |none=>rw [e] at h2;cases h2
   |some a=>rw [e] at h2;cases h2;rfl
  obtain ⟨u,hu,rv⟩:=r.get ha
  have hp:ps[i]? =some y:=by
   rw [←S.pre,List.getElem?_take_of_lt (by omega)];exact h1
  have ndP:ps.Nodup:=by rw [←S.pre];exact S.nd.sublist (List.take_sublist _ _)
  refine ⟨u,rv,?_⟩
  rcases S.par y (List.mem_of_getElem? hp) with k|k
  ·exact .inl ⟨k,Xf ndP hp hu k⟩
  ·obtain ⟨c,e⟩:=Ww (n:=s.heap.objs.size+1) k
   refine .inr ⟨.inl k,c,e,?_⟩
   have q:=x.cell y c e
   rw [Xg ndP hp hu (by show scope.names.lookup y≠_;rw [k];decide)] at q
   exact q
 ·exact e0.hok.fresh (Nat.le_of_lt (x.above y c (PySem.mem_of_lookup h)))
 ·unfold vi
  show _=N.length
  rw [List.length_append,List.length_map,List.length_replicate]
  omega

theorem zdh {CX:CXT} {P:Program} {w:World} {K:PySem.W.Frag} {mg:Str→Option Value} {base:Heap} {k:Nat} {f:Addr} {name qual:Str} {params:Arguments} {body:List Stmt} {scope:Scope} {dV kV doc pm cdv ct oc:Value} {an od:Option Addr}
  {osl:Array (Option Value)} {N ps:List Str} {sp:Sp} (lk:K.lookup f=some ⟨oc,od,.func (PySem.W.fnOf name qual params body scope dV kV doc pm an cdv ct),osl⟩) (hcd:PySem.W.codeIn K cdv qual=true) (S:yh N ps scope)
  (len:∀vs H Q E,sp vs H Q E→vs.length=ps.length)
  (hbody:∀(A:Around) (outer:List Env) (s:Shared) (H:Hp) (vs:List V) (Q:VK) (E:XK),vb k (A.deeper (envOfC qual scope s.heap.objs.size f cdv))→sp vs H Q E→
   ∃t,PSs (Wv CX P w K mg base N qual scope f cdv A outer s H E) body t∧t {nx:=fun _ H'=>Q .non H',rt:=Q} (vi N vs) H):
  yL P w K mg base CX (k+1) f (PySem.W.fnOf name qual params body scope dV kV doc pm an cdv ct) ps sp:=by
 refine ⟨len,fun A outer s H args us vs Q E hr e0 hb r hsp=> ?_⟩
 have hl:=len _ _ _ _ hsp
 have KX:K.In s.heap:=e0.mod.kin.keeps fun b o e=>(e0.bs b o e).1
 have lim:s.heap.NoLimit:=e0.mod.nolimit.keeps fun b o e=>(e0.bs b o e).1
 have hkind:∀y∈ps.zip us,scope.names.lookup y.1=some .local∨(scope.names.lookup y.1=some .cell∧((cellsFrom (s.heap.objs.size+1) scope.names []).lookup y.1).isSome=true):=fun ⟨n,v⟩ hy=>by
  rcases S.par n (List.of_mem_zip hy).1 with q|q
  ·exact .inl q
  ·exact .inr ⟨q,PySem.W.cellsFrom_some _ _ _ (.inl q)⟩
 refine codeAny_call_function hr.depth (KX _ _ lk) rfl S.co S.gen rfl (PySem.W.codeRec_of KX hcd) (hb _ _ _ _ ?_)
 refine wpAny_newFunctionEnv_cells S.kind hkind fun env he s1 x=> ?_
 subst he
 refine ⟨lim.keeps x.toInCall.keep,codeAny_func ?_⟩
 obtain ⟨t,ht,hq⟩:=hbody A outer s H vs Q E (hr.deeper _) hsp
 have I:Inv (Wv CX P w K mg base N qual scope f cdv A outer s H E) [] (vi N vs) H s1:=UC S hr.hd e0 hl r x
 refine wpAny_mono (ht [] s1 (vi N vs) H _ I hq) (fun fl s' hs=> ?_) fun e s' hs=>hs
 have fin:∀{σ':St} {H':Hp} {v:V} {u:Value},Inv (Wv CX P w K mg base N qual scope f cdv A outer s H E) [] σ' H' s'→ye v u→Q v H'→CE outer P w H s Q u s':=
  fun {σ' H' v u} J rv q=>⟨v,H',J.os,J.bare,J.base,J.hok,rv,q⟩
 cases fl with
 |ret u=>
  obtain ⟨v,σ',H',J,rv,q⟩:=hs
  exact fin J rv q
 |next=>
  obtain ⟨σ',H',J,q⟩:=hs
  exact fin (v:=V.non) (u:=Value.none) J rfl q
 |brk=>
  obtain ⟨_,_,_,q⟩:=hs
  exact False.elim q
 |cont=>
  obtain ⟨_,_,_,q⟩:=hs
  exact False.elim q
end L2

namespace L2
open PySem PySem.Spec PyProof.Rows
section
variable {X:Cx} {x:Str} {p pos:Pos} {e:Expr} {es:List Expr} {t:TA} {id T:String} {r:List V→Hp→VK→Prop}

noncomputable def tCB (r:List V→Hp→VK→Prop) (t:TA):TE:=fun σ H Q=>t σ H fun vs H1=>r vs H1 Q
theorem zI (hc:vg X (.builtin id) r) (hg:Gl X x) (hm:X.mg x=none) (hv:bootBuiltins x=some (.builtin id)) (ha:PA X (e::es) t) (hn:x≠"__name__":=by decide) (hdb:(x==("__debug__":Str))=false:=by decide)
  (he:starEach (e::es) X.env=(false,eval e X.env)::starEach es X.env:=by rfl) (hpl:(backTo pos (starEach es X.env)).any (·.1)=false:=by rfl):PE X (.Call (.Name x p) (e::es) [] pos) (tCB r t):=by
 intro pins s σ H Q I h
 refine wpAny_Call_Name_kw (vd I hg hm hv ?_ hn hdb)
 exact PyProof.Rows.callWith_builtin1 (thn (ha pos pins s σ H _ I h) fun us s1 ⟨vs,H1,I1,r1,q1⟩=>hc pins s1 σ H1 vs us Q I1 r1 q1) he hpl
theorem vF (hc:vg X (.type T) r) (hg:Gl X x) (hm:X.mg x=none) (hv:bootBuiltins x=some (.type T)) (ha:PA X (e::es) t) (hn:x≠"__name__":=by decide) (hdb:(x==("__debug__":Str))=false:=by decide)
  (he:starEach (e::es) X.env=(false,eval e X.env)::starEach es X.env:=by rfl) (hpl:(backTo pos (starEach es X.env)).any (·.1)=false:=by rfl):PE X (.Call (.Name x p) (e::es) [] pos) (tCB r t):=by
 intro pins s σ H Q I h
 refine wpAny_Call_Name_kw (vd I hg hm hv ?_ hn hdb)
 exact PyProof.Rows.callWith_type1 (thn (ha pos pins s σ H _ I h) fun us s1 ⟨vs,H1,I1,r1,q1⟩=>hc pins s1 σ H1 vs us Q I1 r1 q1) he hpl
end
end L2
namespace HT
open PySem PyProof.Rows



section
open PySem.SeqAt
open PySem.AutoSeq1 (wpAny_loadPart')
open PySem.MeetsSeq PySem.MeetsSeq2 PySem.MeetsSeq3

end

section
variable {prog:Program} {w:World} {A:Around} {E:Value→Shared→Prop} {s:Shared}


theorem za7 {t b:Addr} {vs ws:List Value} {Q:Value→Shared→Prop} (ht:IsTup s.heap t vs.toArray) (hb:IsTup s.heap b ws.toArray) (hv:vs≠[])
  (h1:ws=[]→Q (.ref t) s) (h2:ws≠[]→Q (.ref s.heap.objs.size) {s with heap:=s.heap.push {cls:= .type "tuple",data:= .seq (vs++ws).toArray}})
  (hsz:vs.length+ws.length≤sizeLine):wpAny (model prog w) A (binaryOp .Add (.ref t) (.ref b)) Q E s:=by
 obtain ⟨⟨cls,dd,data,sl⟩,ho,hc,n,hd⟩:=id ht
 obtain ⟨⟨cls2,dd2,data2,sl2⟩,ho2,hc2,n2,hd2⟩:=id hb
 simp only at hc hd hc2 hd2
 subst hc hd hc2 hd2
 have e:vs.toArray++ws.toArray=(vs++ws).toArray:=by simp
 by_cases hw:ws=[]
 ·exact concat_meets ⟨_,ho,rfl⟩ ⟨_,ho2,rfl⟩ noFill_tuple_add seq_tuple_add PySem.F.slot_tuple_add PySem.F.entry_tuple_add (PySem.F.args_tuple_add_2 _ _)
   (tuple_addW1 t b vs.toArray ws.toArray n n2 dd dd2 sl sl2 (by simpa using hv) (by simp [hw])) ⟨ho,ho2,h1 hw⟩
 ·refine concat_meets ⟨_,ho,rfl⟩ ⟨_,ho2,rfl⟩ noFill_tuple_add seq_tuple_add PySem.F.slot_tuple_add PySem.F.entry_tuple_add (PySem.F.args_tuple_add_2 _ _)
   (tuple_addW2 t b vs.toArray ws.toArray n n2 dd dd2 sl sl2 (by simpa using hv) (by simpa using hw) (by rw [List.size_toArray,List.size_toArray];exact hsz)) ⟨ho,ho2,?_⟩
  rw [e]
  exact h2 hw

noncomputable def sIx (n d:Nat):Option Int→Nat
 |none=>d
 |some v=>if v<0 then (v+(n:Int)).toNat else min v.toNat n

end
end HT

namespace L2
open PySem PySem.Spec PyProof.Rows

noncomputable abbrev TO:=St→Hp→(Option Int→Hp→Prop)→Prop
noncomputable def PO (X:Cx) (e:Option Expr) (t:TO):Prop:=
 ∀(pins:List (Addr×Obj)) (s:Shared) (σ:St) (H:Hp) (Q:Option Int→Hp→Prop),Inv X pins σ H s→t σ H Q→
  wpAny (model X.prog X.w) X.A (evalPart e X.env) (fun u s'=>∃o H',Inv X pins σ H' s'∧IsPart u o∧Q o H') X.xe s
noncomputable def Uc:TO:=fun _ H Q=>Q none H
noncomputable def zbS (t:TE):TO:=fun σ H Q=>t σ H fun x H1=>∃i,x= .int i∧Q (some i) H1

theorem Vn {ns:List Int}:∀{us:List Value},zK (ns.map V.int) us→IntsAre us ns:=by
 induction ns with
 |nil=>intro us r;rw [List.map_nil] at r;cases r;exact .nil
 |cons n ns ih=>
  intro us r
  rw [List.map_cons] at r
  cases r with
  |cons r1 r2=>
   obtain ⟨t,e⟩:=r1
   subst e
   exact .cons n t (ih r2)

section
variable {X:Cx} {e:Expr} {te:TE} {lo hi:Option Expr} {tl th:TO} {pos p2:Pos}

theorem za8:PO X none Uc:=by
 intro pins s σ H Q I h
 rw [evalPart_none]
 exact wpAny_pure ⟨none,H,I,.none,h⟩
theorem za9 (h:PE X e te):PO X (some e) (zbS te):=by
 intro pins s σ H Q I hw
 rw [evalPart_some]
 refine thn (h pins s σ H _ I hw) fun u s1 ⟨x,H1,I1,r1,q1⟩=> ?_
 obtain ⟨i,rfl,q⟩:=q1
 obtain ⟨t,rfl⟩:=r1
 exact ⟨some i,H1,I1,.int i t,q⟩

noncomputable def SlR (X:Cx) (r:V→Option Int→Option Int→Hp→VK→Prop):Prop:=
 ∀(pins:List (Addr×Obj)) (s:Shared) (σ:St) (H:Hp) (x:V) (v vl vu:Value) (lo hi:Option Int) (sl:Addr) (Q:VK),Inv X pins σ H s→ye x v→s.heap.IsSliceOf sl vl vu .none→IsPart vl lo→IsPart vu hi→r x lo hi H Q→
  ∃T id,typeLookup (.type T) "__getitem__"=pure (some (.builtin id))∧s.TypeIs v T∧wpAny (model X.prog X.w) X.A (getItem v (.ref sl)) (EP X pins σ Q) X.xe s
noncomputable def tSl (r:V→Option Int→Option Int→Hp→VK→Prop) (te:TE) (tl th:TO):TE:=fun σ H Q=>te σ H fun x H1=>tl σ H1 fun l H2=>th σ H2 fun u H3=>r x l u H3 Q
theorem Tr {r:V→Option Int→Option Int→Hp→VK→Prop} (hr:SlR X r) (he:PE X e te) (hl:PO X lo tl) (hu:PO X hi th):PE X (.Subscript e (.Slice lo hi none p2) pos) (tSl r te tl th):=by
 intro pins s σ H Q I h
 refine Subscript_ (thn (he pins s σ H _ I h) fun v s1 ⟨x,H1,I1,r1,q1⟩=> ?_)
 refine wpAny_Slice (thn (hl pins s1 σ H1 _ I1 q1) fun vl s2 ⟨l,H2,I2,pl,q2⟩=>thn (hu pins s2 σ H2 _ I2 q2) fun vu s3 ⟨u,H3,I3,pu,q3⟩=> ?_)
 rw [evalPart_none]
 refine wpAny_pure ?_
 have I4:Inv X pins σ H3 {s3 with heap:=s3.heap.push {cls:= .type "slice",data:= .fields #[vl,vu,.none]}}:=I3.kept (t':=s3.toks) fun b ob q=>Heap.get?_push_of_some _ q
 obtain ⟨T,id,hT,ht,hg⟩:=hr pins {s3 with heap:=s3.heap.push {cls:= .type "slice",data:= .fields #[vl,vu,.none]}} σ H3 x v vl vu l u s3.heap.objs.size Q I4 r1 (Heap.IsSliceOf.new ..) pl pu q3
 show wpAny (model X.prog X.w) X.A (subscriptTail e (.Slice lo hi none p2) v (.ref s3.heap.objs.size)) (EP X pins σ Q) X.xe {s3 with heap:=s3.heap.push {cls:= .type "slice",data:= .fields #[vl,vu,.none]}}
 exact tail_any (ops:=[.ref s3.heap.objs.size,v]) ht hT hg (by with_unfolding_all rfl)

noncomputable def UD (xs:List V) (lo hi:Option Int):List V:=(xs.drop (HT.sIx xs.length 0 lo)).take (HT.sIx xs.length xs.length hi-HT.sIx xs.length 0 lo)
theorem Wx (xs:List V) (lo hi:Option Int):(UD xs lo hi).length≤xs.length:=by
 unfold UD
 rw [List.length_take,List.length_drop]
 omega

noncomputable def zdi (K:PySem.W.Frag):R2:=fun x y H Q=>∃a b xs ys,x= .ref a∧y= .ref b∧SqT K H a xs∧SqT K H b ys∧xs≠[]∧xs.length+ys.length≤sizeLine∧
 (ys=[]→Q (.ref a) H)∧(ys≠[]→∀p,H p=none→Q (.ref p) (upd H p (.tup (xs++ys))))
theorem zK.nil_iff {xs:List V} {us:List Value} (r:zK xs us):us=[]↔xs=[]:=by
 cases r with
 |nil=>simp
 |cons _ _=>simp
theorem zba:OpR X (binaryOp .Add) (zdi X.K):=by
 intro pins s σ H x y v u Q I rx ry h
 obtain ⟨a,b,xs,ys,rfl,rfl,ha,hb,hx,hz,q1,q2⟩:=h
 cases rx
 cases ry
 obtain ⟨its,r1,p1,_⟩:=I.tuple ha
 obtain ⟨its2,r2,p2,_⟩:=I.tuple hb
 refine HT.za7 p1 p2 (fun z=>hx (r1.nil_iff.mp z)) (fun z=>⟨.ref a,H,I,rfl,q1 (r2.nil_iff.mp z)⟩) (fun z=> ?_) (by rw [←r1.length,←r2.length];exact hz)
 refine ⟨.ref s.heap.objs.size,_,I.laid (t':=s.toks) (o:= .tup (xs++ys)) (fun b ob q=>Heap.get?_push_of_some _ q) (Nat.le_refl _) ?_,rfl,q2 (fun w=>z (r2.nil_iff.mpr w)) _ (I.hok.fresh (Nat.le_refl _))⟩
 exact ⟨by rw [List.length_append];exact hz,_,r1.append r2,IsTup.new _ _⟩
end
end L2

namespace L2
open PySem PySem.Spec PyProof.Rows

noncomputable def ixN (n:Nat) (i:Int):Option Nat:=if 0≤i then (if i<n then some i.toNat else none) else if -(n:Int)≤i then some (i+n).toNat else none
noncomputable def atI {α:Type} (xs:List α) (i:Int):Option α:=(ixN xs.length i).bind fun j=>xs[j]?
theorem zbb {n:Nat} {i:Int} {j:Nat} (h:ixN n i=some j):seqIndex? i n=some j∧j<n∧ -(n:Int)≤i∧i<n:=by
 unfold ixN at h
 by_cases h0:0≤i
 ·rw [if_pos h0] at h
  by_cases h1:i<n
  ·rw [if_pos h1] at h
   have e:i.toNat=j:=Option.some.inj h
   exact ⟨by rw [seqIndex_of h0 h1,e],by omega,by omega,h1⟩
  ·rw [if_neg h1] at h;cases h
 ·rw [if_neg h0] at h
  by_cases h1: -(n:Int)≤i
  ·rw [if_pos h1] at h
   have e:(i+n).toNat=j:=Option.some.inj h
   exact ⟨by rw [seqIndex_neg (by omega) h1,e],by omega,h1,by omega⟩
  ·rw [if_neg h1] at h;cases h
theorem XG {α:Type} {xs:List α} {i:Int} {v:α} (h:atI xs i=some v):∃j,seqIndex? i xs.length=some j∧xs[j]? =some v∧j<xs.length∧ -(xs.length:Int)≤i∧i<xs.length:=by
 unfold atI at h
 cases e:ixN xs.length i with
 |none=>rw [e] at h;cases h
 |some j=>
  rw [e] at h
  obtain ⟨h1,h2,h3,h4⟩:=zbb e
  exact ⟨j,h1,h,h2,h3,h4⟩

noncomputable def zbc (b:Expr):Prop:=∀o i,subscripted b false o i=operate [o,i] (getItem o i)
noncomputable def IxR (X:Cx) (r:R2):Prop:=
 ∀(value slice:Expr) (pins:List (Addr×Obj)) (s:Shared) (σ:St) (H:Hp) (x y:V) (v u:Value) (Q:VK),Inv X pins σ H s→ye x v→ye y u→r x y H Q→
  subscripted slice false v u=operate [v,u] (getItem v u)→wpAny (model X.prog X.w) X.A (subscriptTail value slice v u) (EP X pins σ Q) X.xe s
noncomputable def MtR (X:Cx) (id:String) (r:V→List V→Hp→VK→Prop):Prop:=
 ∀(pins:List (Addr×Obj)) (s:Shared) (σ:St) (H:Hp) (x:V) (xs:List V) (v:Value) (us:List Value) (Q:VK),Inv X pins σ H s→ye x v→zK xs us→r x xs H Q→
  wpAny (model X.prog X.w) X.A (call (.builtin id) (v::us)) (EP X pins σ Q) X.xe s
section
variable {X:Cx} {a b:Expr} {ta tb:TE} {pos:Pos}
theorem IxR.or {r r':R2} (h:IxR X r) (h':IxR X r'):IxR X (fun x y H Q=>r x y H Q∨r' x y H Q):=by
 intro value slice pins s σ H x y v u Q I rx ry q hs
 rcases q with q|q
 ·exact h value slice pins s σ H x y v u Q I rx ry q hs
 ·exact h' value slice pins s σ H x y v u Q I rx ry q hs
theorem zU {r:R2} (hr:IxR X r) (ha:PE X a ta) (hb:PE X b tb) (hs:zbc b):PE X (.Subscript a b pos) (tOp r ta tb):=by
 intro pins s σ H Q I h
 exact Subscript_ (zcj ha hb I h fun v u s2 x y H2 I2 rx ry q=>hr a b pins s2 σ H2 x y v u Q I2 rx ry q (hs _ _))

noncomputable def zbd (K:PySem.W.Frag):R2:=fun x y H Q=>∃p xs i v,x= .ref p∧y= .int i∧SqL K H p xs∧atI xs i=some v∧Q v H
noncomputable def zbe (K:PySem.W.Frag):R2:=fun x y H Q=>∃p xs i v,x= .ref p∧y= .int i∧SqT K H p xs∧atI xs i=some v∧Q v H
noncomputable def zdj:R2:=fun x y H Q=>∃z i c,x= .str z∧y= .int i∧z.length≤sizeLine∧atI z.cps.toList i=some c∧Q (.str ⟨#[c]⟩) H
theorem Ud:IxR X (zbd X.K):=by
 intro value slice pins s σ H x y v u Q I rx ry h hs
 obtain ⟨p,xs,i,z,rfl,rfl,hq,he,q⟩:=h
 cases rx
 obtain ⟨t,rfl⟩:=ry
 obtain ⟨its,r,pl,hz⟩:=I.list hq
 obtain ⟨j,h1,h2,h3,h4,h5⟩:=XG he
 obtain ⟨w,ew,rw'⟩:=r.get h2
 have hl:=r.length
 have hn:=XE
 have fin:EP X pins σ Q w s:=⟨z,H,I,rw',q⟩
 by_cases h0:0≤i
 ·have hj:i.toNat=j:=by
   rw [seqIndex_of h0 h5] at h1
   exact Option.some.inj h1
  exact item_listR pl.isList h0 (by omega) (by rw [hj];simpa using ew) fin hs
 ·have hj:(i+(its.toArray.size:Int)).toNat=j:=by
   rw [seqIndex_neg (by omega) h4] at h1
   rw [List.size_toArray,←hl]
   exact Option.some.inj h1
  exact subscriptTail_builtinR (x:=w) pl.isList.typeIs slot_list_getitem.lookup
   (wpAny_getItem_list_neg (Q:=fun r s'=>r=w∧EP X pins σ Q r s') pl.isList (by omega) (by rw [List.size_toArray]<;>omega) (by omega) (by rw [hj];simpa using ew) ⟨rfl,fin⟩) hs
theorem Ts:IxR X (zbe X.K):=by
 intro value slice pins s σ H x y v u Q I rx ry h hs
 obtain ⟨p,xs,i,z,rfl,rfl,hq,he,q⟩:=h
 cases rx
 obtain ⟨t,rfl⟩:=ry
 obtain ⟨its,r,pl,hz⟩:=I.tuple hq
 obtain ⟨j,h1,h2,h3,h4,h5⟩:=XG he
 obtain ⟨w,ew,rw'⟩:=r.get h2
 have hl:=r.length
 have hn:=XE
 have fin:EP X pins σ Q w s:=⟨z,H,I,rw',q⟩
 exact subscriptTail_builtinR (x:=w) pl.typeIs slot_tuple_getitem.lookup
  (getItem_tuple (j:=j) (Q:=fun r s'=>r=w∧EP X pins σ Q r s') pl (by omega) (by omega) (by rw [List.size_toArray,←hl];exact h1) (by simpa using ew) ⟨rfl,fin⟩) hs
theorem zcp:IxR X zdj:=by
 intro value slice pins s σ H x y v u Q I rx ry h hs
 obtain ⟨z,i,c,rfl,rfl,hz,he,q⟩:=h
 obtain ⟨t,rfl⟩:=rx
 obtain ⟨t',rfl⟩:=ry
 obtain ⟨j,h1,h2,h3,h4,h5⟩:=XG he
 have hl:z.cps.toList.length=z.length:=by simp [Str.length]
 rw [hl] at h1 h4 h5
 have hn:=XE
 exact tail_any (typeIs_str s z t) slot_str_getitem.lookup (getItem_str (c:=c) (by
  have e1:decide (i< -(2^63:Int))=false:=decide_eq_false (by omega)
  have e2:decide (i≥2^63)=false:=decide_eq_false (by omega)
  rw [e1,e2,Bool.or_false]) (by rw [h1];simpa using h2) ⟨.str ⟨#[c]⟩,H,I.tok _,⟨_,rfl⟩,q⟩) hs
noncomputable def rIx (K:PySem.W.Frag):R2:=fun x y H Q=>zbd K x y H Q∨zbe K x y H Q∨zdj x y H Q
theorem zcq:IxR X (rIx X.K):=Ud.or (Ts.or zcp)


theorem XH (lo hi:Option Int) (n:Nat):(sliceBounds lo hi none n).1=((HT.sIx n 0 lo:Nat):Int)∧(sliceBounds lo hi none n).2.1=((HT.sIx n n hi:Nat):Int)∧(sliceBounds lo hi none n).2.2=1:=by
 refine ⟨?_,?_,rfl⟩
 ·cases lo with
  |none=>simp [sliceBounds,HT.sIx]
  |some i=>
   simp only [sliceBounds,HT.sIx,Option.getD_none,show (1:Int)>0 by decide,if_true]
   by_cases h:i<0
   ·simp only [h,if_true]<;>omega
   ·simp only [h,if_false]<;>omega
 ·cases hi with
  |none=>simp [sliceBounds,HT.sIx]
  |some i=>
   simp only [sliceBounds,HT.sIx,Option.getD_none,show (1:Int)>0 by decide,if_true]
   by_cases h:i<0
   ·simp only [h,if_true]<;>omega
   ·simp only [h,if_false]<;>omega
theorem YI (its:List Value) (lo hi:Option Int):slicePick its.toArray lo hi none=((its.drop (HT.sIx its.length 0 lo)).take (HT.sIx its.length its.length hi-HT.sIx its.length 0 lo)).toArray:=by
 obtain ⟨h1,h2,h3⟩:=XH lo hi its.toArray.size
 unfold slicePick
 rw [h1,h2,h3]
 simp only [sliceRange_one,pick_run,List.size_toArray]<;>rfl
noncomputable def Tt (K:PySem.W.Frag):V→Option Int→Option Int→Hp→VK→Prop:=fun x lo hi H Q=>∃a xs,x= .ref a∧SqL K H a xs∧∀p,H p=none→Q (.ref p) (upd H p (.lst (UD xs lo hi)))
theorem zbf:SlR X (Tt X.K):=by
 intro pins s σ H x v vl vu lo hi sl Q I rx hs pl pu h
 obtain ⟨a,xs,rfl,hx,q⟩:=h
 cases rx
 obtain ⟨its,r,ht,hz⟩:=I.list hx
 have hlen:=r.length
 refine ⟨"list",_,slot_list_getitem.lookup,ht.isList.typeIs,?_⟩
 refine wpAny_getItem_list_slice ht.isList hs pl pu .none (by simp) ?_ (by rw [List.size_toArray]<;>omega)
 rw [YI,←hlen]
 refine ⟨.ref s.heap.objs.size,_,I.laid (t':=s.toks) (o:= .lst (UD xs lo hi)) (fun b ob q=>Heap.get?_push_of_some _ q) (Nat.le_refl _) ?_,rfl,q _ (I.hok.fresh (Nat.le_refl _))⟩
 exact ⟨Nat.le_trans (Wx xs lo hi) hz,_,0,(r.drop (HT.sIx xs.length 0 lo)).take (HT.sIx xs.length xs.length hi-HT.sIx xs.length 0 lo),Heap.get?_push_size _ rfl⟩


theorem XI:vg X (.builtin "len") (fun xs H Q=>∃p ys,xs=[.ref p]∧(SqL X.K H p ys∨SqT X.K H p ys)∧Q (.int ys.length) H):=by
 intro pins s σ H xs us Q I r h
 obtain ⟨p,ys,rfl,hq,q⟩:=h
 obtain ⟨u,rfl,rx⟩:=Yf r
 cases rx
 have hn:=XE
 rcases hq with hq|hq
 ·obtain ⟨its,r',pl,hz⟩:=I.list hq
  have hlen:=r'.length
  exact Calls.call_len_list pl.isList (by simp only [List.size_toArray]<;>omega) ⟨.int ys.length,H,I.tok _,⟨s.toks+1,by rw [List.size_toArray,hlen]⟩,q⟩
 ·obtain ⟨its,r',pl,hz⟩:=I.tuple hq
  have hlen:=r'.length
  exact len_tuple pl (by simp only [List.size_toArray]<;>omega) ⟨.int ys.length,H,I.tok _,⟨s.toks+1,by rw [List.size_toArray,hlen]⟩,q⟩
theorem YJ:vg X (.type "tuple") (fun xs H Q=>∃p ys,xs=[.ref p]∧((SqL X.K H p ys∧∀l,H l=none→Q (.ref l) (upd H l (.tup ys)))∨(SqT X.K H p ys∧Q (.ref p) H))):=by
 intro pins s σ H xs us Q I r h
 obtain ⟨p,ys,rfl,h⟩:=h
 obtain ⟨u,rfl,rx⟩:=Yf r
 cases rx
 rcases h with ⟨hq,q⟩|⟨hq,q⟩
 ·obtain ⟨its,r',pl,hz⟩:=I.list hq
  have hlen:=r'.length
  refine call_tuple_list pl.isList (fun h' kp=> ?_) (by simp only [List.size_toArray]<;>omega)
  have I1:Inv X pins σ H {s with heap:=h'}:=I.kept (t':=s.toks) kp
  have I2:Inv X pins σ (upd H h'.objs.size (.tup ys)) {s with heap:=h'.push {cls:= .type "tuple",data:= .seq its.toArray}}:=
   I1.laid (t':=s.toks) (fun b o e=>Heap.get?_push_of_some _ e) (Nat.le_refl _) (show yM X.prog X.w _ _ _ (.tup ys) from ⟨hz,its,r',IsTup.new _ _⟩)
  exact ⟨.ref h'.objs.size,_,I2,rfl,q _ (I1.hok.fresh (Nat.le_refl _))⟩
 ·obtain ⟨its,r',pl,hz⟩:=I.tuple hq
  exact call_tuple_same pl ⟨.ref p,H,I,rfl,q⟩

noncomputable def tyV (K:PySem.W.Frag) (T:String) (x:V) (H:Hp):Prop:=match x with
 | .str _=>T="str"
 | .int _=>T="int"
 | .ref p=>(T="list"∧∃xs,SqL K H p xs)∨(T="tuple"∧∃o,K.lookup p=some o∧o.cls= .type "tuple"∧o.dict=none)∨
   (T="dict"∧((∃kvs,H p=some (.dK kvs))∨∃kvs,H p=some (.dT kvs)))∨(T="set"∧∃S n,H p=some (.set S n))
 |_=>False
theorem Tu {pins:List (Addr×Obj)} {σ:St} {H:Hp} {s:Shared} {T:String} {x:V} {v:Value} (I:Inv X pins σ H s) (r:ye x v) (ty:tyV X.K T x H):
  s.TypeIs v T∧∀a,v= .ref a→∃ob,s.heap.get? a=some ob∧ob.dict=none:=by
 cases x with
 |str z=>
  obtain ⟨t,rfl⟩:=r
  cases (show T="str" from ty)
  exact ⟨typeIs_str s z t,fun _ e=>nomatch e⟩
 |int i=>
  obtain ⟨t,rfl⟩:=r
  cases (show T="int" from ty)
  exact ⟨typeIs_int s i t,fun _ e=>nomatch e⟩
 |ref p=>
  cases r
  rcases ty with ⟨rfl,xs,hq⟩|⟨rfl,o,hk,hc,hd⟩|⟨rfl,hk⟩|⟨rfl,S,n,hk⟩
  ·obtain ⟨its,_,pl,_⟩:=I.list hq
   refine ⟨pl.isList.typeIs,fun a e=> ?_⟩
   cases e
   obtain ⟨o,n,e,c,hd,_⟩:=pl
   exact ⟨o,e,hd⟩
  ·refine ⟨⟨o,I.kIn p o hk,hc⟩,fun a e=> ?_⟩
   cases e
   exact ⟨o,I.kIn _ o hk,hd⟩
  ·have z:∃o,s.heap.get? p=some o∧o.ExactDict:=by
    rcases hk with ⟨kvs,hk⟩|⟨kvs,hk⟩
    ·obtain ⟨_,_,_,_,o,_,_,e,ex,_⟩:=I.hok p _ hk
     exact ⟨o,e,ex⟩
    ·obtain ⟨_,_,_,_,o,_,_,e,ex,_⟩:=I.hok p _ hk
     exact ⟨o,e,ex⟩
   obtain ⟨o,e,ex⟩:=z
   refine ⟨⟨o,e,ex.1⟩,fun a e2=> ?_⟩
   cases e2
   exact ⟨o,e,ex.2.1⟩
  ·obtain ⟨o,_,_,_,e,ex,_⟩:=I.hok p _ hk
   refine ⟨⟨o,e,ex.1⟩,fun a e2=> ?_⟩
   cases e2
   exact ⟨o,e,ex.2.1⟩
 |_=>exact False.elim ty
noncomputable def zdk (K:PySem.W.Frag) (T:String) (r:V→List V→Hp→VK→Prop) (to:TE):TE:=fun σ H Q=>to σ H fun x H1=>tyV K T x H1∧r x [] H1 Q
noncomputable def tBM (K:PySem.W.Frag) (T:String) (r:V→List V→Hp→VK→Prop) (to:TE) (t:TA):TE:=fun σ H Q=>to σ H fun x H1=>tyV K T x H1∧t σ H1 fun xs H2=>r x xs H2 Q
variable {o e:Expr} {es:List Expr} {to:TE} {t:TA} {name:Str} {apos cpos:Pos} {T id:String} {r:V→List V→Hp→VK→Prop}
theorem Vo (pa:PlainAttrs T) (slot:Slot T name id) (hty:typeOf (.builtin id)=pure (.type "method_descriptor")) (hm:MtR X id r) (ho:PE X o to)
  (hbase:attributeBase o name X.env (eval o X.env)=eval o X.env:=by rfl) (hline:(apos.endLine==cpos.line)=true:=by rfl):PE X (.Call (.Attribute o name apos) [] [] cpos) (zdk X.K T r to):=by
 intro pins s σ H Q I h
 refine wpAny_Call_method0_late hbase hline (thn (ho pins s σ H _ I h) fun v s1 ⟨x,H1,I1,r1,ty,q1⟩=> ?_)
 obtain ⟨h1,h2⟩:=Tu I1 r1 ty
 exact ⟨T,id,pa,slot,hty,h1,h2,Calls.callWith_builtin rfl (PySem.evalArgs_none (hm pins s1 σ H1 x [] v [] Q I1 r1 .nil q1))⟩
theorem Yh (pa:PlainAttrs T) (slot:Slot T name id) (hty:typeOf (.builtin id)=pure (.type "method_descriptor")) (hm:MtR X id r) (ho:PE X o to) (ha:PA X (e::es) t)
  (hbase:attributeBase o name X.env (eval o X.env)=eval o X.env:=by rfl)
  (hfew:((backTo cpos (starEach (e::es) X.env)).all (fun x=> !x.1)&&(backToKw cpos (keywordEach [] X.env)).all (fun x=>x.1.isSome)
   &&decide ((e::es).length+([]:List Keyword).length+(if ([]:List Keyword).isEmpty then 0 else 1)<30))=true:=by rfl)
  (hline:(apos.endLine==cpos.line)=true:=by rfl) (hs:starEach (e::es) X.env=(false,eval e X.env)::starEach es X.env:=by rfl) (hplain:(backTo cpos (starEach es X.env)).any (·.1)=false:=by rfl):
  PE X (.Call (.Attribute o name apos) (e::es) [] cpos) (tBM X.K T r to t):=by
 intro pins s σ H Q I h
 refine wpAny_Call_method_late hbase hfew hline rfl (thn (ho pins s σ H _ I h) fun v s1 ⟨x,H1,I1,r1,ty,q1⟩=> ?_)
 obtain ⟨h1,h2⟩:=Tu I1 r1 ty
 refine ⟨T,id,pa,slot,hty,h1,h2,?_⟩
 have hA:=ha cpos pins s1 σ H1 _ I1 q1
 rw [hs] at hA ⊢
 refine Calls.callWith_builtin (by show (false||(backTo cpos (starEach es X.env)).any (·.1))=false;rw [hplain]<;>rfl) (Calls.evalArgs_plain ?_)
 exact thn hA fun us s2 ⟨vs,H2,I2,r2,q2⟩=>hm pins s2 σ H2 x vs v us Q I2 r1 r2 q2
/- xs.append(e), list.index on a module's tuple .. are MtR facts of 06m -/
end
end L2

namespace L2
open PySem PySem.Spec PyProof.Rows

noncomputable def MtM (X:Cx) (id:String) (r:V→List V→Hp→VK→Prop):Prop:=
 ∀(pins:List (Addr×Obj)) (s:Shared) (σ:St) (H:Hp) (x:V) (xs:List V) (v:Value) (us:List Value) (Q:VK),Inv X pins σ H s→ye x v→zK xs us→r x xs H Q→
  wpAny (model X.prog X.w) X.A (call (.builtin id) (v::us)) (EP X pins σ Q) X.xe s

theorem zK.one:∀{x:V} {us:List Value},zK [x] us→∃u,us=[u]∧ye x u
 |_,_,.cons r .nil=>⟨_,rfl,r⟩
theorem zK.zero:∀{us:List Value},zK [] us→us=[]
 |_,.nil=>rfl
theorem zK.dropLast {xs:List V} {us:List Value} (h:zK xs us):zK xs.dropLast us.dropLast:=by
 induction h with
 |nil=>exact .nil
 |cons r t ih=>
  cases t with
  |nil=>exact .nil
  |cons q t'=>exact .cons r ih
theorem zK.reverse {xs:List V} {us:List Value} (h:zK xs us):zK xs.reverse us.reverse:=by
 induction h with
 |nil=>exact .nil
 |cons r t ih=>rw [List.reverse_cons,List.reverse_cons];exact zK.append ih (.cons r .nil)
theorem Vp {α:Type} (l:List α):l.eraseIdx (l.length-1)=l.dropLast:=by
 induction l with
 |nil=>rfl
 |cons a r ih=>
  cases r with
  |nil=>rfl
  |cons b r=>
   have e:(a::b::r).length-1=((b::r).length-1)+1:=by
    have h1:(a::b::r).length=r.length+2:=rfl
    have h2:(b::r).length=r.length+1:=rfl
    omega
   rw [e,List.eraseIdx_cons_succ,ih]
   all_goals rfl

section
variable {X:Cx} {pins:List (Addr×Obj)} {σ:St} {H:Hp} {s:Shared} {l b:Addr} {xs ys zs:List V}

theorem Inv.lset {its its':List Value} {n:Nat} {f:Array Value→Array Value} {t':Nat} (I:Inv X pins σ H s) (hH:H l=some (.lst xs))
  (e:s.heap.get? l=some {cls:= .type "list",data:= .seq its.toArray n}) (hf:f its.toArray=its'.toArray) (hv:zK ys its') (hz:ys.length≤sizeLine):
  Inv X pins σ (upd H l (.lst ys)) {s with heap:=s.heap.update l (Obj.mapSeq f),toks:=t'}:=by
 have q:=PySem.IsL.update e f
 rw [hf] at q
 refine I.write (x:=l) (e:=l) (by rw [hH];exact trivial) (.inl rfl) (fun b' u hb hu=>(Heap.get?_update_other s.heap (Obj.mapSeq f) (Ne.symm hb)).trans hu) ⟨_,q⟩ ?_
 exact ⟨hz,its',_,hv,q⟩
theorem Inv.lstM (I:Inv X pins σ H s) (hH:H l=some (.lst xs)):xs.length≤sizeLine∧∃(its:List Value) (n:Nat),zK xs its∧xs.length=its.length∧s.heap.get? l=some {cls:= .type "list",data:= .seq its.toArray n}:=by
 obtain ⟨z,its,n,r,e⟩:=I.hok l _ hH
 exact ⟨z,its,n,r,r.length,e⟩

end

section
variable {X:Cx}

noncomputable def Ue:V→List V→Hp→VK→Prop:=fun x vs H Q=>∃l xs y,x= .ref l∧vs=[y]∧H l=some (.lst xs)∧xs.length<sizeLine∧Q .non (upd H l (.lst (xs++[y])))
theorem xp:MtM X "list.append" Ue:=by
 intro pins s σ H x vs v us Q I rx rv h
 obtain ⟨l,xs,y,rfl,rfl,hH,hz,q⟩:=h
 cases rx
 obtain ⟨u,rfl,ru⟩:=rv.one
 obtain ⟨z,its,n,r,hl,e⟩:=I.lstM hH
 refine call_meets F.slot_list_append ⟨_,e,rfl⟩ F.entry_list_append (F.args_list_append_2 _ _) (PySem.list_append l its.toArray n u (by rw [List.size_toArray];omega)) ⟨e,?_⟩
 refine ⟨.non,_,I.lset (its':=its++[u]) hH e (by simp) (r.append (.cons ru .nil)) ?_,rfl,q⟩
 rw [List.length_append,List.length_singleton]
 omega


noncomputable def zdl:V→List V→Hp→VK→Prop:=fun x vs H Q=>∃l xs y,x= .ref l∧vs=[]∧H l=some (.lst xs)∧xs[xs.length-1]? =some y∧Q y (upd H l (.lst xs.dropLast))
theorem Tv:MtM X "list.pop" zdl:=by
 intro pins s σ H x vs v us Q I rx rv h
 obtain ⟨l,xs,y,rfl,rfl,hH,hy,q⟩:=h
 cases rx
 have hus:=rv.zero
 subst hus
 obtain ⟨z,its,n,r,hl,e⟩:=I.lstM hH
 obtain ⟨u,hu,ru⟩:=r.get hy
 have hy':its.toArray[its.toArray.size-1]? =some u:=by
  show its.toArray[its.length-1]? =some u
  rw [←Array.getElem?_toList,←hl]
  exact hu
 refine call_meets F.slot_list_pop ⟨_,e,rfl⟩ F.entry_list_pop (F.args_list_pop_1 _) (MeetsSeq.list_pop_last l its.toArray n u hy' (by rw [List.size_toArray];omega)) ⟨e,?_⟩
 refine ⟨y,_,I.lset (its':=its.dropLast) hH e ?_ r.dropLast ?_,ru,q⟩
 ·show its.toArray.eraseIdxIfInBounds (its.toArray.size-1)=its.dropLast.toArray
  rw [List.size_toArray,List.eraseIdxIfInBounds_toArray,Vp]
 ·rw [List.length_dropLast]
  omega



noncomputable def Tw:V→List V→Hp→VK→Prop:=fun x vs H Q=>∃l xs,x= .ref l∧vs=[]∧H l=some (.lst xs)∧Q .non (upd H l (.lst []))
theorem Tz:MtM X "list.clear" Tw:=by
 intro pins s σ H x vs v us Q I rx rv h
 obtain ⟨l,xs,rfl,rfl,hH,q⟩:=h
 cases rx
 have hus:=rv.zero
 subst hus
 obtain ⟨z,its,n,r,hl,e⟩:=I.lstM hH
 refine call_meets F.slot_list_clear ⟨_,e,rfl⟩ F.entry_list_clear (F.args_list_clear_1 _) (AutoSeq1.list_clear_list_0 l its.toArray n (by rw [List.size_toArray];omega)) ⟨e,?_⟩
 exact ⟨.non,_,I.lset (its':=[]) (ys:=[]) hH e rfl .nil (Nat.zero_le _),rfl,q⟩


end

section
variable {prog:Program} {w:World} {A:Around} {E:Value→Shared→Prop} {s:Shared}
end

section
variable {X:Cx}
end
end L2
namespace L2
open PySem PySem.Spec PyProof.Rows

section
variable {κ:Type} [DecidableEq κ]



end



noncomputable abbrev KT (H:Hp):List (List Key×V)→List (List Key×Addr×Value)→Prop:=Paired fun p q=>p.1=q.1∧H q.2.1=some (.tup (p.1.map kV))∧ye p.2 q.2.2

section
variable {P:Program} {w:World} {H:Hp} {h:Heap} {a:Addr}
end



section
variable {X:Cx} {pins:List (Addr×Obj)} {σ:St} {H:Hp} {s:Shared} {a:Addr} {y v:V} {u r:Value} {o:Option V} {A:Around} {E:Value→Shared→Prop}


end

section
variable {X:Cx} {pins:List (Addr×Obj)} {σ:St} {H:Hp} {s:Shared} {a:Addr} {kvs:List (Key×V)} {k:Key} {u:Value} {A:Around} {E:Value→Shared→Prop}
end





section
variable {X:Cx} {o i e value:Expr} {pos pos' tpos:Pos} {td ty tv:TE}
end


section
variable {X:Cx} {pos:Pos}
end

noncomputable abbrev VV:List (V×V)→List (Value×Value)→Prop:=Paired fun p q=>ye p.1 q.1∧ye p.2 q.2



structure M1 (X:Cx) (o:Expr) (m:Str) (apos:Pos) (e:Expr) (cpos:Pos):Prop where
 base:attributeBase o m X.env (eval o X.env)=eval o X.env
 few:((backTo cpos (starEach [e] X.env)).all (fun x=> !x.1)&&(backToKw cpos (keywordEach [] X.env)).all (fun x=>x.1.isSome)
  &&decide (([e]:List Expr).length+([]:List Keyword).length+(if ([]:List Keyword).isEmpty then 0 else 1)<30))=true
 line:(apos.endLine==cpos.line)=true
 trees:backTo cpos (starEach [e] X.env)=[(false,eval e X.env)]
structure M2 (X:Cx) (o:Expr) (m:Str) (apos:Pos) (e f:Expr) (cpos:Pos):Prop where
 base:attributeBase o m X.env (eval o X.env)=eval o X.env
 few:((backTo cpos (starEach [e,f] X.env)).all (fun x=> !x.1)&&(backToKw cpos (keywordEach [] X.env)).all (fun x=>x.1.isSome)
  &&decide (([e,f]:List Expr).length+([]:List Keyword).length+(if ([]:List Keyword).isEmpty then 0 else 1)<30))=true
 line:(apos.endLine==cpos.line)=true
 trees:backTo cpos (starEach [e,f] X.env)=[(false,eval e X.env),(false,eval f X.env)]


section
variable {X:Cx} {pins:List (Addr×Obj)} {σ:St} {H:Hp} {s:Shared} {a:Addr} {y d:V} {u r:Value} {o:Option V} {A:Around} {E:Value→Shared→Prop}
end

section
variable {X:Cx} {o e f:Expr} {apos cpos:Pos} {td ty tx:TE}
end

section
variable {X:Cx} {pins:List (Addr×Obj)} {σ:St} {H:Hp} {s:Shared} {a:Addr} {kvs:List (Key×V)} {A:Around} {E:Value→Shared→Prop}
end


section
variable {X:Cx} {pins:List (Addr×Obj)} {σ:St} {H:Hp} {s:Shared} {a:Addr} {y:V} {u:Value} {A:Around} {E:Value→Shared→Prop}
end
end L2
namespace Att
open PySem PySem.W PySem.Calls PyProof.Rows

theorem ZR {P:Params} {h:Heap}:∀(ns:List Int) (vs:List Value),WellAll P h vs (ns.map WData.int)→IntsAre vs ns:=by
 intro ns
 induction ns with
 |nil=>
  intro vs w
  rw [List.map_nil] at w
  cases w
  exact .nil
 |cons n ns ih=>
  intro vs w
  rw [List.map_cons] at w
  cases w with
  |cons a b=>
   cases a
   exact .cons _ _ (ih _ b)

theorem UE {l:OpenLaw} {n:Nat} (hn:l.most=some n) {P:Params} {h:Heap} {args:List WData} {vals:List Value}
  (hpre:l.row.toRowW.claim.pre args=true) (hwl:WellAll P h vals args):
  ∃a vs ns,vals=[Value.ref a]∧args=[WData.list (ns.map WData.int)]∧h.get? a=some {cls:= .type "list",data:= .seq vs.toArray}∧IntsAre vs ns∧ns.length≤n:=by
 have hsh:WShape.hasAll [] args [.list .int]=true:=(pre_splitW hpre).1
 have hc:l.pre.holds [] {args:=args}=true:=(pre_splitW hpre).2
 obtain ⟨d,r,rfl,h1,h2⟩:=hasAllW_cons hsh
 obtain rfl:=hasAllW_nil h2
 obtain ⟨xs,rfl,h3⟩:=hasW_list h1
 obtain ⟨ns,rfl⟩:=items_int h3
 have hlen:ns.length≤n:=by
  unfold OpenLaw.pre at hc
  have h4:(WTm.not (.lt (.lit (.int (n:Int))) (.len (.arg 0)))).holds [] {args:=[.list (ns.map .int)]}=true:=by
   have h4:=(holds_andW hc).1
   rw [hn] at h4
   exact h4
  have h5:=condW_of h4 (w_not (w_lt w_lit (w_len_list (w_arg rfl))))
  rw [List.length_map] at h5
  refine Nat.le_of_not_lt fun q=> ?_
  have q':(n:Int)<((ns.length:Nat):Int):=by omega
  first
   |(rw [decide_eq_true q'] at h5;exact absurd h5 (by decide))
   |(simp at h5;omega)
 cases hwl with
 |cons w1 w2=>
  cases w2
  cases w1 with
  |list ho hall=>exact ⟨_,_,ns,rfl,rfl,ho,ZR ns _ hall,hlen⟩

theorem UF (l:OpenLaw) (args:List WData):l.row.toRowW.claim.post args (.bool true) args=true:=
 postW_of (r:=l.row.toRowW) (X:=(true==true))
  (show WShape.has [] (.bool true) .bool=true by first|rfl|decide|simp [WShape.has,WShape.arms,WShape.armsAll])
  (show (WTm.eq .res (.lit (.bool true))).value [] {args:=args,res:=some (.bool true),after:=args}=some (.bool (true==true)) from w_eq_bool (w_res rfl) w_lit) rfl


theorem Wy {l:OpenLaw} {n:Nat} {q:Program} {loose:List Str} {XP:(Str→Option Value)→Heap→Prop} {YP:World→Heap→Prop} {d:DefRec}
  (hn:l.most=some n) (hdf:d.params.defaults=[])
  (call:∀(w:World) (s₀ s₁:Shared) (mg mb:Str→Option Value) (fa:Addr) (o:Obj) (pm cd doc:Value) (a:Addr) (vs:List Value) (ns:List Int),
   Ground q loose [] XP w s₀ mg mb s₁.heap→YP w s₁.heap→
   s₁.heap.get? fa=some o→o.data= .func (docDef d.name d.params d.body d.scope pm cd doc)→s₁.heap.CodeRec cd d.name→mg d.name=some (.ref fa)→
   s₁.heap.get? a=some {cls:= .type "list",data:= .seq vs.toArray}→IntsAre vs ns→ns.length≤n→s₁.gens= #[]→
   codeAny (model l.prog w) callerA (.call (.ref fa) ⟨[.ref a],[]⟩) (fun r s'=>r= .ok (.ret (.bool true))∧OldK s₁.heap s'.heap∧s'.os=s₁.os∧AllBare s'.gens) s₁):
  WalkO q loose XP YP l.row.toRowW d [] (fun f vs=>PySem.call f vs):=by
 intro w s₀ s₁ mg mb G Y fa o pm cd doc dV kV ho hd hcd hD hmg hg args vals as hpre hlay hrd hwl hlo
 obtain rfl:dV= .none:=Dflts.none hD hdf
 obtain rfl:kV= .none:=Dflts.noKw hD
 obtain ⟨a,vs,ns,rfl,rfl,hobj,hints,hlen⟩:=UE hn hpre hwl
 refine enter_call (codeAny_mono (call w s₀ s₁ mg mb fa o pm cd doc a vs ns G Y ho (fd_plain hd) hcd hmg hobj hints hlen hg) fun r s' hq=> ?_)
 obtain ⟨rfl,h2,h3,h4⟩:=hq
 exact ⟨.inl ⟨.bool true,.bool true,[],rfl,fun _=>rfl,.bool true,UF l _,fun _=>⟨List.Pairwise.nil,fun _ hm=>(nomatch hm)⟩⟩,h2,h3,h4⟩


section
variable {prog:Program} {w:World} {A:Around} {E:Value→Shared→Prop} {s:Shared} {K:Frag}






end
end Att

namespace L2
open PySem PySem.Spec PyProof.Rows

theorem Xh:∀{vs:List Value} {ns:List Int},IntsAre vs ns→zK (ns.map V.int) vs
 |_,_,.nil=> .nil
 |_,_,.cons n t h=> .cons ⟨t,rfl⟩ (Xh h)

noncomputable def zbg (H:Hp):Prop:=∀b,H b=none∨∃o xs,H b=some (.frz o (.lst xs))

theorem TB {P:Program} {w:World} {K:PySem.W.Frag} {mg mb:Str→Option Value} {CX:CXT} {k:Nat} {fa a:Addr} {fd:FuncData} {x:Str} {sp:Sp} {s₁:Shared} {vs:List Value} {ns:List Int}
  (KX:K.In s₁.heap) (hns:s₁.heap.Ns mainGlobals mg) (hb:s₁.heap.Ns builtinsNs mb) (hbb:∀x:Str,x≠"__name__"→mb x=bootBuiltins x) (hlim:s₁.heap.NoLimit) (hg:s₁.gens= #[])
  (ha:s₁.heap.get? a=some {cls:= .type "list",data:= .seq vs.toArray}) (hi:IntsAre vs ns) (hl:ns.length≤sizeLine) (hr:vb k callerA)
  (F:∀base:Heap,K.In base→base.Ns mainGlobals mg→yL P w K mg base CX k fa fd [x] sp) (hbind:∀(s:Shared) (u:Value),BindsTo s fd ⟨[u],[]⟩ [(x,u)])
  (hsp:∀H:Hp,zbg H→SqX K H a (ns.map V.int)→sp [.ref a] H (fun v _=>v= .bl true) fun _ _ _=>False)
  (hCX:∀H e s',CX [] H s₁ (fun _ _ _=>False) e s'→False):
  codeAny (model P w) callerA (.call (.ref fa) ⟨[.ref a],[]⟩) (fun r s'=>r= .ok (.ret (.bool true))∧OldK s₁.heap s'.heap∧s'.os=s₁.os∧AllBare s'.gens) s₁:=by
 have rv:=Xh hi
 have lenV:=hi.length
 have core:∀H:Hp,zbg H→SqX K H a (ns.map V.int)→HOk P w H s₁.heap→(∀b,H b≠none→b=a)→(H a≠none→K.lookup a=none)→
   codeAny (model P w) callerA (.call (.ref fa) ⟨[.ref a],[]⟩) (fun r s'=>r= .ok (.ret (.bool true))∧OldK s₁.heap s'.heap∧s'.os=s₁.os∧AllBare s'.gens) s₁:=by
  intro H hO hS hok hA hK
  have base_of:∀{b:Addr} {o:Obj},s₁.heap.get? b=some o→H b=none→(XA s₁.heap H).get? b=some o:=fun e n=>Te e n
  have noA:∀{b:Addr} {o:Obj} {es:Array DictEntry} {ep:Nat},s₁.heap.get? b=some o→o.data= .dict es ep→H b=none:=fun {b o es ep} e d=>by
   cases q:H b with
   |none=>rfl
   |some u=>
    have e':b=a:=hA b (by rw [q];simp)
    subst e'
    rw [ha] at e;cases e
    have d':Data.seq vs.toArray _=Data.dict es ep:=d
    cases d'
  have nsK:∀{b:Addr} {m:Str→Option Value},s₁.heap.Ns b m→(XA s₁.heap H).Ns b m:=fun {b m} ⟨o,es,ep,e,d,r⟩=>⟨o,es,ep,base_of e (noA e d),d,r⟩
  have hKb:K.In (XA s₁.heap H):=fun b o e=>base_of (KX b o e) (by
   cases q:H b with
   |none=>rfl
   |some u=>
    have e':b=a:=hA b (by rw [q];simp)
    subst e'
    rw [hK (by rw [q];simp)] at e;cases e)
  have hM:Mod K mg (XA s₁.heap H):=⟨hKb,nsK hns,⟨mb,nsK hb,hbb⟩,let ⟨mc,h1,h2⟩:=hlim;⟨mc,nsK h1,h2⟩⟩
  have e0:Vm P w K mg (XA s₁.heap H) callerA [] s₁ H:=⟨rfl,hM,fun b o e=>za1 e,Nat.le_of_eq (Uw _ _),trivial,fun b hb=>absurd (show b∈([]:List Addr) from hb) (by simp),hok,.of_eq hg⟩
  refine codeAny_mono ((F _ hKb (nsK hns)).run callerA [] s₁ H ⟨[.ref a],[]⟩ [.ref a] [.ref a] _ _ hr e0 (hbind s₁ (.ref a)) (.cons rfl .nil) (hsp H hO hS)) fun r s' h=> ?_
  cases r with
  |error e=>exact (hCX H e s' h).elim
  |ok fl=>
   cases fl with
   |next=>exact False.elim h
   |brk=>exact False.elim h
   |cont=>exact False.elim h
   |ret u=>
    obtain ⟨v,H',os,bare,un,hok',r',q⟩:=h
    have q':v= .bl true:=q
    subst q'
    obtain rfl:u=Value.bool true:=r'
    refine ⟨rfl,OldK.of_keep fun b o e=> ?_,os,bare⟩
    cases q:H b with
    |none=>exact un.keep b o e q (by intro z;exact absurd (show b∈([]:List Addr) from z) (by simp)) (by simp)
    |some u=>
     rcases hO b with z|⟨ob,xs,z⟩
     ·rw [q] at z;cases z
     ·have z2:=un.frzs b ob _ z
      obtain ⟨e1,_⟩:=hok b _ z
      obtain ⟨e2,_⟩:=hok' b _ z2
      rw [e] at e1;cases e1
      exact e2
 cases hk:K.lookup a with
 |some o=>
  have e:=KX a o hk
  rw [ha] at e
  cases e
  refine core (fun _=>none) (fun _=> .inl rfl) (.inr ⟨vs.toArray,_,hk,by rw [List.size_toArray,lenV];exact hl,by simpa using rv⟩) (fun b u z=>by have z':(none:Option HO)=some u:=z;cases z') (fun b z=>absurd rfl z) fun z=>absurd rfl z
 |none=>
  refine core (fun b=>if b=a then some (.frz {cls:= .type "list",data:= .seq vs.toArray} (.lst (ns.map V.int))) else none) (fun b=> ?_) (.inl (.inr ⟨{cls:= .type "list",data:= .seq vs.toArray},if_pos rfl⟩)) (fun b u z=> ?_) (fun b z=> ?_) fun _=>hk
  ·by_cases hb:b=a
   ·exact .inr ⟨_,_,if_pos hb⟩
   ·exact .inl (if_neg hb)
  ·by_cases hb:b=a
   ·have z':=(if_pos hb).symm.trans z
    cases z'
    subst hb
    exact ⟨ha,by rw [List.length_map];exact hl,vs,_,rv,ha⟩
   ·have z':=(if_neg hb).symm.trans z
    cases z'
  ·by_cases hb:b=a
   ·exact hb
   ·exact absurd (if_neg hb) z
end L2

namespace L2
open PySem PySem.Spec PyProof.Rows

noncomputable abbrev KOf {K:PySem.W.Frag} {h:Heap} (_:K.In h):PySem.W.Frag:=K

theorem zbh {l:PySem.W.OpenLaw} {n k:Nat} {q:Program} {loose:List Str} {XP:(Str→Option Value)→Heap→Prop} {YP:World→Heap→Prop} {d:DefRec} {K:Params→PySem.W.Frag} {CX:World→CXT} {sp:World→Sp} {x:Str}
  (hn:l.most=some n) (hn2:n≤sizeLine) (hdf:d.params.defaults=[]) (hr:vb k callerA)
  (hY:∀(w:World) (h:Heap),YP w h→(K w.params).In h)
  (F:∀(w:World) (mg:Str→Option Value) (fa:Addr) (h:Heap),(K w.params).In h→h.Ns mainGlobals mg→mg d.name=some (.ref fa)→
   ∃fd:FuncData,(∀(s:Shared) (u:Value),BindsTo s fd ⟨[u],[]⟩ [(x,u)])∧
    ∀base:Heap,(K w.params).In base→base.Ns mainGlobals mg→yL l.prog w (K w.params) mg base (CX w) k fa fd [x] (sp w))
  (hsp:∀(w:World) (H:Hp) (a:Addr) (ns:List Int),ns.length≤n→zbg H→SqX (K w.params) H a (ns.map V.int)→sp w [.ref a] H (fun v _=>v= .bl true) fun _ _ _=>False)
  (hCX:∀(w:World) (H:Hp) (s:Shared) (e:Value) (s':Shared),CX w [] H s (fun _ _ _=>False) e s'→False):
  PySem.W.WalkO q loose XP YP l.row.toRowW d [] (fun f vs=>PySem.call f vs):=by
 refine Att.Wy hn hdf fun w s₀ s₁ mg mb fa o pm cd doc a vs ns G Y ho hd hcd hmg hobj hints hlen hg=> ?_
 have KX:=hY w _ Y
 obtain ⟨fd,hb,hF⟩:=F w mg fa _ KX G.T.g hmg
 exact TB KX G.T.g G.T.b G.T.builtins G.T.nolimit hg hobj hints (Nat.le_trans hlen hn2) hr hF hb (fun H hO hS=>hsp w H a ns hlen hO hS) fun H e s'=>hCX w H s₁ e s'
end L2

/- THE LAST THEOREM (shape; LID, My.* are yours):
   My.Adr: a structure of the addresses that your layer names (classes, functions); My.Txt K t: a structure (Prop) of the equations over K;
   My.txt_mk : {K} {implicit addresses ..} (e1 : nsIn K mainGlobals "law" = some (some (.ref f))) (e2 : K.lookup f = some ⟨oc, od, .func (fnOf "law" "law" params body scope dV kV doc pm an cdv ct), sl⟩) (e3 : codeIn K cdv "law" = true) .. : ∃ t, My.Txt K t

set_option maxHeartbeats 0 in
theorem PySem.Challenge.cw_LID_holds : PySem.Challenge.rw_LID.Holds := by
 w_on; o_law; k_head; (case hw => w_witness2)
 k_fill
 refine L2.walk_of (l := PySem.Challenge.rw_LID) (n := 63) (k := 40) (x := "script") (CX := fun w => ..) (sp := fun _ => My.sp_law) rfl (by decide) rfl ⟨rfl, by decide, by decide⟩ (fun w h Y => PySem.W.kIn_of Y) ?F ?S ?C
 case F =>
  intro w mg fa h KX G hmg
  have T : ∃ t, My.Txt (L2.KOf KX) t := by
   dsimp only [L2.KOf]                          -- K must stand as «<heap const> w.params» for k_is
   refine' My.txt_mk ?e1 ?e2 ?e3 ..
   (case e1 => PySem.W.k_is)                    -- in the order: a name -> its address -> its object -> its parts
   (case e2 => PySem.W.k_is)
   ..
  obtain ⟨t, T⟩ := T
  have e0 := hmg.symm.trans (PySem.W.mg_of KX G T.law)
  cases e0                                       -- fa is the law's own address
  exact ⟨_, fun s u => .of_eq rfl, fun base kb nb => My.law_fn T kb nb⟩     -- if «.of_eq rfl» comes too early: refine' ⟨_, ?b, fun base kb nb => My.law_fn T kb nb⟩; exact fun s u => .of_eq rfl
 case S => exact fun w H a ns hl hO hS => ..
 case C => exact ..
(the tactic k_is has no namespace: write k_is) -/

namespace L2
open PySem PySem.Spec PyProof.Rows

noncomputable def yd (s:Stmt):Arguments:=match s with
 | .FunctionDef _ a _ _ _ _ _ _ _ _=>a
 |_=>{posonlyargs:=[],args:=[],vararg:=none,kwonlyargs:=[],kw_defaults:=[],kwarg:=none,defaults:=[]}
noncomputable def zY (s:Stmt):List Stmt:=match s with
 | .FunctionDef _ _ b _ _ _ _ _ _ _=>b
 |_=>[]
noncomputable def zm (s:Stmt):Scope:=match s with
 | .FunctionDef _ _ _ _ _ _ sc _ _ _=>sc
 |_=>{kind:= .function,names:=[],isGenerator:=false,isCoroutine:=false}

noncomputable abbrev CX0:CXT:=fun _ _ _ _ _ _=>False
noncomputable abbrev E0:XK:=fun _ _ _=>False

structure Fun (K:PySem.W.Frag) (x qual:Str) (st:Stmt) (f:Addr) (fd:FuncData):Prop where
 ex:∃(oc:Value) (od:Option Addr) (kV doc pm:Value) (an:Option Addr) (cdv ct:Value) (osl:Array (Option Value)),
  fd=PySem.W.fnOf x qual (yd st) (zY st) (zm st) .none kV doc pm an cdv ct∧K.lookup f=some ⟨oc,od,.func fd,osl⟩∧PySem.W.codeIn K cdv qual=true
 kp:PySem.W.keepIn K (.ref f)=true
section
variable {P:Program} {w:World} {K:PySem.W.Frag} {mg:Str→Option Value} {base:Heap}
theorem Fun.binds {x qual:Str} {st:Stmt} {f:Addr} {fd:FuncData} {ps:List Str} (F:Fun K x qual st f fd)
  (h:∀(kV doc pm:Value) (an:Option Addr) (cdv ct:Value) (us:List Value),us.length=ps.length→bindArgs (PySem.W.fnOf x qual (yd st) (zY st) (zm st) .none kV doc pm an cdv ct) ⟨us,[]⟩=pure (ps.zip us)):yN K fd ps []:=by
 obtain ⟨oc,od,kV,doc,pm,an,cdv,ct,osl,rfl,lk,hcd⟩:=F.ex
 exact .all (h kV doc pm an cdv ct)
theorem zN {x qual:Str} {st:Stmt} {f:Addr} {oc:Value} {od an:Option Addr} {osl:Array (Option Value)} {kV doc pm cdv ct:Value} (l:K.lookup f=some ⟨oc,od,.func (PySem.W.fnOf x qual (yd st) (zY st) (zm st) .none kV doc pm an cdv ct),osl⟩)
  (c:PySem.W.codeIn K cdv qual=true) (k:PySem.W.keepIn K (.ref f)=true):Fun K x qual st f (PySem.W.fnOf x qual (yd st) (zY st) (zm st) .none kV doc pm an cdv ct):=⟨⟨oc,od,kV,doc,pm,an,cdv,ct,osl,rfl,l,c⟩,k⟩
end

section
variable {X:Cx}
theorem pv (i:Nat) {x:Str} {pos:Pos} (hN:X.N[i]? =some x:=by rfl) (hv:Vis X.env.scope x:=by first|exact Or.inl rfl|exact Or.inr (Or.inl rfl)|exact Or.inr (Or.inr rfl)) (hd:(x==("__debug__":Str))=false:=by decide)
  (hcd:(x==("__classdict__":Str))=false:=by decide):PE X (.Name x pos) (zca i):=zcb hN hv hd hcd
end


noncomputable def ZS (H H':Hp):Prop:=∀b o,H b=some o→H' b=some o
theorem ZS.refl (H:Hp):ZS H H:=fun _ _ h=>h

section
variable {κ:Type} [DecidableEq κ]
end
end L2
namespace L2
open PySem PySem.Spec PyProof.Rows

theorem vj {prog:Program} {w:World} {A:Around} {elt iter tg:Expr} {ifs:List Expr} {scope:Scope} {pos:Pos} {it acc:Value} {env:Env} {s:Shared} {R:Result→Shared→Prop} (I:Nat→Shared→Prop)
  (turn:∀n s,I n s→wpAny (model prog w) A (pyNext it) (fun r s₁=>match r with
   |none=>R (.ok .next) s₁
   |some v=>wpAny (model prog w) A (letOwnedTupleGo tg it v) (fun _ s₁'=>wpAny (model prog w) A (assign tg env v) (fun _ s₂=>
     wpAny (model prog w) A (forIn ifs true fun c r=>if r=true then do let ok ←isTrue c env (eval c env);pure (ForInStep.yield ok) else pure (ForInStep.yield r)) (fun ok s₃=>
      if ok=true then wpAny (model prog w) A (eval elt env) (fun x s₄=>
       wpAny (model prog w) A (call (.builtin "list.append") [acc,x]) (fun _ s₅=>∃m,m<n∧I m s₅) (fun _ _=>False) s₄) (fun _ _=>False) s₃
      else ∃m,m<n∧I m s₃) (fun _ _=>False) s₂)
     (fun _ _=>False) s₁') (fun _ _=>False) s₁) (fun _ _=>False) s)
  (n:Nat) (h:I n s):codeAny (model prog w) A (.compLoop (.ListComp elt [⟨tg,iter,ifs,0⟩] scope pos) 0 it acc env) R s:=by
 refine codeAny_loop rfl I (fun n s hI=> ?_) n h
 show wpAny _ A ((compTurn (.ListComp elt [⟨tg,iter,ifs,0⟩] scope pos) 0 it acc env).onRaise (fun x=>do noteFrame x env;theTreesLotGoes x)) _ _ s
 refine wpAny_noted ?_
 rw [compTurn_list]
 refine wpAny_bind (wpAny_standAt (wpAny_bind (wpAny_mono (turn n s hI) (fun r s₁ h₁=> ?_) fun _ _ h'=>h'.elim)))
 cases r with
 |none=>exact wpAny_pure h₁
 |some v=>
  refine wpAny_bind (wpAny_mono h₁ (fun _ s₁' h₁'=> ?_) fun _ _ h'=>h'.elim)
  refine wpAny_bind (wpAny_mono h₁' (fun _ s₂ h₂=>wpAny_bind (wpAny_mono h₂ (fun ok s₃ h₃=> ?_) fun _ _ h'=>h'.elim)) fun _ _ h'=>h'.elim)
  cases ok with
  |false=>exact wpAny_pure ⟨rfl,h₃⟩
  |true=>
   exact wpAny_bind (wpAny_bind (wpAny_mono h₃ (fun x s₄ h₄=>wpAny_bind (wpAny_mono h₄ (fun _ s₅ h₅=>wpAny_pure (wpAny_pure ⟨rfl,h₅⟩)) fun _ _ h'=>h'.elim)) fun _ _ h'=>h'.elim))

noncomputable def YK (env:Env):List (Str×NameKind)→List (Str×Addr)→List (Str×Addr)
 |[],cs=>cs
 |(n,k)::r,cs=>YK env r (if k== .free then (match env.cells.lookup n with|some c=>(n,c)::cs|none=>cs) else cs)
noncomputable def Wz (sc:Scope) (env:Env):List (Str×Addr):=YK env sc.names []
theorem WA {env:Env}:∀{ns:List (Str×NameKind)} {cs:List (Str×Addr)},(∀p∈cs,env.cells.lookup p.1=some p.2)→∀p∈YK env ns cs,env.cells.lookup p.1=some p.2
 |[],_,h=>h
 |(n,k)::r,cs,h=>by
  unfold YK
  refine WA ?_
  by_cases hk:(k== .free)=true
  ·rw [if_pos hk]
   cases e:env.cells.lookup n with
   |none=>exact h
   |some c=>
    intro p hp
    rcases List.mem_cons.mp hp with rfl|hp
    ·exact e
    ·exact h p hp
  ·rw [if_neg hk];exact h
theorem WB {env:Env}:∀{ns:List (Str×NameKind)} {cs:List (Str×Addr)} {p:Str×Addr},p∈cs→p∈YK env ns cs
 |[],_,_,h=>h
 |(n,k)::r,cs,p,h=>by
  unfold YK
  refine WB ?_
  by_cases hk:(k== .free)=true
  ·rw [if_pos hk]
   cases env.cells.lookup n with
   |none=>exact h
   |some c=>exact List.mem_cons_of_mem _ h
  ·rw [if_neg hk];exact h
theorem WC {env:Env} {x:Str} {c:Addr} (e:env.cells.lookup x=some c):∀{ns:List (Str×NameKind)} {cs:List (Str×Addr)},(x,NameKind.free)∈ns→(x,c)∈YK env ns cs
 |[],_,h=>by cases h
 |(n,k)::r,cs,h=>by
  unfold YK
  rcases List.mem_cons.mp h with h|h
  ·injection h with h1 h2
   subst h1 h2
   refine WB ?_
   rw [if_pos (by rfl),e]
   exact List.mem_cons_self
  ·exact WC e h
theorem vM:∀{l:List (Str×Addr)} {x:Str} {c:Addr},(x,c)∈l→∃d,l.lookup x=some d
 |[],_,_,h=>by cases h
 |(n,d)::r,x,c,h=>by
  rw [List.lookup_cons]
  cases e:x==n with
  |true=>exact ⟨d,rfl⟩
  |false=>
   rcases List.mem_cons.mp h with h|h
   ·injection h with h1 h2
    subst h1
    simp at e
   ·exact vM h
theorem xG {sc:Scope} {env:Env} {x:Str} {c:Addr} (e:(Wz sc env).lookup x=some c):env.cells.lookup x=some c:=
 WA (cs:=[]) (fun p hp=>by cases hp) (x,c) (PySem.mem_of_lookup e)
theorem WD {sc:Scope} {env:Env} {x:Str} {c:Addr} (h:(x,NameKind.free)∈sc.names) (e:env.cells.lookup x=some c):(Wz sc env).lookup x=some c:=by
 obtain ⟨d,hd⟩:=vM (WC (cs:=[]) e h)
 have:=xG (sc:=sc) hd
 rw [e] at this
 cases this
 exact hd
theorem YL {sc:Scope} {env:Env} (h:∀y∈sc.names,y.2= .free→∃c,env.cells.lookup y.1=some c):closureFor sc env=pure (Wz sc env):=by
 unfold Wz closureFor
 generalize sc.names=ns at h
 suffices hh:∀cs:List (Str×Addr),(forIn ns cs (fun (x:Str×NameKind) (r:List (Str×Addr))=>
    (match x with
     |(name,kind)=>if (kind==NameKind.free)=true then (cellOf env name>>=fun c=>pure (ForInStep.yield ((name,c)::r))) else pure (ForInStep.yield r):Sem (ForInStep (List (Str×Addr)))))>>=fun r=>pure r:Sem (List (Str×Addr)))=pure (YK env ns cs) from hh []
 induction ns with
 |nil=>intro cs;rfl
 |cons p r ih=>
  intro cs
  obtain ⟨n,k⟩:=p
  rw [List.forIn_cons]
  unfold YK
  have ih':=ih fun y hy=>h y (List.mem_cons_of_mem _ hy)
  by_cases hk:(k== .free)=true
  ·obtain ⟨c,hc⟩:=h (n,k) List.mem_cons_self (by simpa using hk)
   have hc:env.cells.lookup n=some c:=hc
   have h1:cellOf env n=pure c:=by unfold cellOf;rw [hc]
   simp only [hk,if_true,h1,hc,pure_bind]
   exact ih' _
  ·simp only [hk,if_false,pure_bind]
   exact ih' _

noncomputable def xy (X:Cx) (N':List Str) (sc:Scope) (C:Addr) (s₀:Shared) (H₀:Hp) (fp:List Addr):Cx where
 prog:=X.prog
 w:=X.w
 K:=X.K
 mg:=X.mg
 base:=X.base
 A:=X.A
 N:=N'
 s₀:=s₀
 H₀:=H₀
 env:=compEnvC sc (Wz sc X.env) C X.env
 outer:=X.stack
 stack:=X.stack
 ex:=fp
 fn:=fun _=>false
 calm:=X.calm
 pn:=[]
 xe:=fun _ _=>False

theorem xV {env:Env}:∀{names:List (Str×NameKind)} {x:Str},names.lookup x=some .free→
  (names.map fun (n,k)=>if (k==NameKind.free&&env.scope.kind== .function&&env.kindOf n==some .cell) then (n,NameKind.cell) else (n,k)).lookup x=some .cell∨
  (names.map fun (n,k)=>if (k==NameKind.free&&env.scope.kind== .function&&env.kindOf n==some .cell) then (n,NameKind.cell) else (n,k)).lookup x=some .free
 |[],_,h=>by simp at h
 |(n,k)::r,x,h=>by
  have ih:= @xV env r x
  show List.lookup x ((if (k==NameKind.free&&env.scope.kind== .function&&env.kindOf n==some .cell)=true then (n,NameKind.cell) else (n,k))::_)=_∨List.lookup x ((if (k==NameKind.free&&env.scope.kind== .function&&env.kindOf n==some .cell)=true then (n,NameKind.cell) else (n,k))::_)=_
  cases hx:x==n with
  |true=>
   simp only [List.lookup_cons,hx] at h
   cases h
   by_cases hc:(NameKind.free==NameKind.free&&env.scope.kind== .function&&env.kindOf n==some .cell)=true
   ·rw [if_pos hc];left;simp [List.lookup_cons,hx]
   ·rw [if_neg hc];right;simp [List.lookup_cons,hx]
  |false=>
   simp only [List.lookup_cons,hx] at h
   by_cases hc:(k==NameKind.free&&env.scope.kind== .function&&env.kindOf n==some .cell)=true
   ·rw [if_pos hc];simp only [List.lookup_cons,hx];exact ih h
   ·rw [if_neg hc];simp only [List.lookup_cons,hx];exact ih h
theorem wq {env:Env} {x:Str} {k:NameKind} (hk:k= .cell∨k= .free):∀{names:List (Str×NameKind)},(∀y∈names,y.2≠ .cell)→
  (names.map fun (n,k)=>if (k==NameKind.free&&env.scope.kind== .function&&env.kindOf n==some .cell) then (n,NameKind.cell) else (n,k)).lookup x=some k→(x,NameKind.free)∈names
 |[],_,h=>by simp at h
 |(n,j)::r,hc,h=>by
  have hr:∀y∈r,y.2≠ .cell:=fun y hy=>hc y (List.mem_cons_of_mem _ hy)
  have h:List.lookup x ((if (j==NameKind.free&&env.scope.kind== .function&&env.kindOf n==some .cell)=true then (n,NameKind.cell) else (n,j))::_)=_:=h
  by_cases hj:(j==NameKind.free&&env.scope.kind== .function&&env.kindOf n==some .cell)=true
  ·rw [if_pos hj,List.lookup_cons] at h
   have hj':j= .free:=by
    simp only [Bool.and_eq_true,beq_iff_eq] at hj
    exact hj.1.1
   cases hx:x==n with
   |true=>
    rw [eq_of_beq hx,←hj']
    exact List.mem_cons_self
   |false=>
    rw [hx] at h
    exact List.mem_cons_of_mem _ (wq hk hr h)
  ·rw [if_neg hj,List.lookup_cons] at h
   cases hx:x==n with
   |true=>
    rw [hx] at h
    have h':j=k:=Option.some.inj h
    have hjc:j≠ .cell:=hc (n,j) List.mem_cons_self
    rcases hk with e|e
    ·exact absurd (h'.trans e) hjc
    ·rw [eq_of_beq hx]
     have:j= .free:=h'.trans e
     rw [this]
     exact List.mem_cons_self
   |false=>
    rw [hx] at h
    exact List.mem_cons_of_mem _ (wq hk hr h)

noncomputable def xD (X:Cx) (sc:Scope):List (Option Nat)→List Str→Prop
 |[],[]=>True
 |none::r,_::n=>xD X sc r n
 |some i::r,x::n=>(X.N[i]? =some x∧sc.names.lookup x=some .free)∧xD X sc r n
 |_,_=>False
noncomputable def xY (cap:List (Option Nat)) (σ:St):St:=cap.map fun o=>o.bind fun i=>(σ[i]?).join
theorem xD.at {X:Cx} {sc:Scope}:∀{cap:List (Option Nat)} {N':List Str},xD X sc cap N'→∀(j i:Nat) (x:Str),cap[j]? =some (some i)→N'[j]? =some x→X.N[i]? =some x∧sc.names.lookup x=some .free
 |[],[],_,j,i,x,h,_=>by simp at h
 |none::r,y::n,c,0,i,x,h,_=>by simp at h
 |none::r,y::n,c,j+1,i,x,h,h2=>xD.at (cap:=r) c j i x (by simpa using h) (by simpa using h2)
 |some k::r,y::n,c,0,i,x,h,h2=>by
  simp at h h2
  subst h h2
  exact c.1
 |some k::r,y::n,c,j+1,i,x,h,h2=>xD.at (cap:=r) c.2 j i x (by simpa using h) (by simpa using h2)
theorem xD.len {X:Cx} {sc:Scope}:∀{cap:List (Option Nat)} {N':List Str},xD X sc cap N'→cap.length=N'.length
 |[],[],_=>rfl
 |none::r,y::n,c=>by simpa using xD.len (cap:=r) (N':=n) c
 |some k::r,y::n,c=>by simpa using xD.len (cap:=r) (N':=n) c.2
theorem Xi {cap:List (Option Nat)} {σ:St} {j:Nat} {v:V} (h:(xY cap σ)[j]? =some (some v)):∃i,cap[j]? =some (some i)∧σ[i]? =some (some v):=by
 unfold xY at h
 rw [List.getElem?_map] at h
 cases e:cap[j]? with
 |none=>rw [e] at h;cases h
 |some o=>
  rw [e] at h
  cases o with
  |none=>simp at h
  |some i=>
   refine ⟨i,rfl,?_⟩
   simp only [Option.map_some,Option.bind_some,Option.some.injEq] at h
   cases q:σ[i]? with
   |none=>rw [q] at h;simp at h
   |some z=>rw [q] at h;simp at h;rw [h]

noncomputable def PTs (X:Cx) (ifs:List Expr) (t:TT):Prop:=
 ∀(pins:List (Addr×Obj)) (s:Shared) (σ:St) (H:Hp) (Q:Bool→Hp→Prop),Inv X pins σ H s→t σ H Q→
  wpAny (model X.prog X.w) X.A (forIn ifs true fun c r=>if r=true then do let ok ←isTrue c X.env (eval c X.env);pure (ForInStep.yield ok) else pure (ForInStep.yield r)) (TP X pins σ Q) X.xe s
theorem wu {X:Cx}:PTs X [] (fun _ H Q=>Q true H):=fun _ _ _ H _ I h=>wpAny_tests_nil ⟨H,I,h⟩

noncomputable def zbT (cap:List (Option Nat)) (g:TG) (tt:TT) (te:TE) (J:It) (σ:St) (acc:Addr) (H0:Hp) (Q:Hp→Prop):Prop:=
 ∃W:Nat→Nat→List V→Hp→Prop,(∃m,W 0 m [] (upd H0 acc (.lst [])))∧∀i m ys H,W i m ys H→
  (J.stop i H∧Q H)∨(J.go i H∧∀x H',J.yld i H x H'→g x (xY cap σ) H' fun σ2 H2=>tt σ2 H2 fun b H3=>
   if b=true then te σ2 H3 fun v H4=>H4 acc=some (.lst ys)∧ys.length<sizeLine∧∃m',m'<m∧W (i+1) m' (ys++[v]) (upd H4 acc (.lst (ys++[v])))
   else ∃m',m'<m∧W (i+1) m' ys H3)
noncomputable def zbU (cap:List (Option Nat)) (wi:TI) (g:TG) (tt:TT) (te:TE):TE:=fun σ H Q=>wi σ H fun J H1=>∀acc,H1 acc=none→zbT cap g tt te J σ acc H1 fun H2=>Q (.ref acc) H2

structure vZ (X:Cx) (sc:Scope):Prop where
 cell:∀y∈sc.names,y.2≠ .cell
 kind:sc.kind= .function
 names:∀y∈sc.names,y.2= .local→sc.names.lookup y.1=some .local
 free:∀y∈sc.names,y.2= .free→X.env.kindOf y.1=some .cell∨X.env.kindOf y.1=some .free

section
variable {X:Cx} {elt tg iter:Expr} {ifs:List Expr} {sc:Scope} {pos:Pos} {wi:TI} {g:TG} {tt:TT} {te:TE} {N':List Str} {cap:List (Option Nat)}

theorem Inv.closure {pins:List (Addr×Obj)} {σ:St} {H:Hp} {s:Shared} (I:Inv X pins σ H s) (B:vZ X sc):closureFor sc X.env=pure (Wz sc X.env):=
 YL fun y hy e=>I.ok.has y.1 (B.free y hy e)

theorem UG {pins:List (Addr×Obj)} {σ:St} {H:Hp} {s:Shared} {h₁:Heap} {t':Nat} {fp:List Addr} {acc C:Addr} {s₀:Shared} {m:Str→Option Value}
  (I:Inv X pins σ H s) (B:vZ X sc) (cp:xD X sc cap N') (hf:∀b∈fp,Yd X pins H b) (hfo:∀b∈fp,b<s.heap.objs.size) (hacc:acc=s.heap.objs.size) (ho:s₀.os=s.os) (hgen:s₀.gens=s.gens)
  (h0:s₀.heap=s.heap.push {cls:= .type "list",data:= .seq #[]}) (hC:C=s₀.heap.objs.size)
  (hns:h₁.Ns C m) (hsb:∀b o,s₀.heap.get? b=some o→h₁.get? b=some o):
  Inv (xy X N' sc C s₀ (upd H acc (.lst [])) fp) [] (xY cap σ) (upd H acc (.lst [])) {s₀ with heap:=h₁,toks:=t'}:=by
 have hfr:H acc=none:=I.hok.fresh (Nat.le_of_eq hacc.symm)
 have up0:∀b o,s.heap.get? b=some o→s₀.heap.get? b=some o:=fun b o e=>by rw [h0];exact Heap.get?_push_of_some _ e
 have sz0:s₀.heap.objs.size=s.heap.objs.size+1:=by rw [h0,Heap.size_push]
 have I0:Inv X pins σ (upd H acc (.lst [])) {s with heap:=s₀.heap,toks:=s.toks}:=I.laid up0 (Nat.le_of_eq hacc.symm) ⟨Nat.zero_le _,[],0,.nil,by rw [h0,hacc];exact Heap.get?_push_size _ rfl⟩
 have CX':∀b,b<s.heap.objs.size→b≠C:=fun b hb=>Nat.ne_of_lt (by rw [hC,sz0];exact Nat.lt_succ_of_lt hb)
 have CA:∀b,b<s.heap.objs.size→b≠acc:=fun b hb=>Nat.ne_of_lt (by rw [hacc];exact hb)
 have cellLt:∀x c,X.env.cells.lookup x=some c→c<s.heap.objs.size:=fun x c e=>by
  obtain ⟨v,o,q,_⟩:=I.cell x c e
  exact Heap.lt_size q
 refine ⟨⟨I.ok.mod,B.kind,I.ok.glob,I.ok.blt,Nat.le_of_eq hC.symm,fun x y c h1 h2=>I.ok.inj x y c (xG h1) (xG h2),fun x hx=> ?_,fun x c h=>Bool.noConfusion h,I.ok.hd,I.ok.frames,.inl rfl,fun b hb=>⟨CX' b (hfo b hb),fun x c e=>(hf b hb).2.2.2.2.1 x c (xG e)⟩,
   fun b o e=> ?_,?_,fun b o e hb=> ?_,fun b hb hz=> ?_,I0.stack,I0.stkFree⟩,
  rfl,?_,Un.kept hsb,⟨m,hns,fun j x v h1 h2 h3=> ?_⟩,fun x c e=> ?_,?_,fun x c e=> ?_,fun p hp=>absurd (show p∈([]:List (Addr×Obj)) from hp) (by simp),I0.hok.kept hsb,?_⟩
 ·have hm:(x,NameKind.free)∈sc.names:=by
   rcases hx with hx|hx
   ·exact wq (env:=X.env) (.inl rfl) B.cell hx
   ·exact wq (env:=X.env) (.inr rfl) B.cell hx
  obtain ⟨c,hc⟩:=I.ok.has x (B.free _ hm rfl)
  exact ⟨c,WD hm hc⟩
 ·obtain ⟨e1,e2⟩:=I.bs b o e
  exact ⟨up0 b o e1,by show upd H acc (.lst []) b=none;rw [zH (CA b (Heap.lt_size e1))];exact e2⟩
 ·exact Nat.le_trans I.ok.bsz (Nat.le_trans I.sz (by show _≤s₀.heap.objs.size;omega))
 ·rcases (hf b hb).2.2.2.1 with z|z
  ·exact I.ok.noex b o e z
  ·exact absurd (Nat.lt_of_lt_of_le (Heap.lt_size e) (Nat.le_trans I.ok.bsz z)) (Nat.lt_irrefl _)
 ·rcases List.mem_cons.mp (I.stkSub b hz) with e|e
  ·exact (hf b hb).2.1 e
  ·exact (hf b hb).2.2.1 e
 ·show AllBare s₀.gens
  rw [hgen];exact I.bare
 ·obtain ⟨i,e1,e2⟩:=Xi h2
  obtain ⟨e3,e4⟩:=cp.at j i x e1 h1
  have hm:(x,NameKind.free)∈sc.names:=PySem.mem_of_lookup e4
  have hk:=B.free _ hm rfl
  obtain ⟨m0,hn0,hl⟩:=I.loc
  obtain ⟨u,r,l⟩:=hl i x v e3 e2 (by rcases hk with k|k;exact .inr (.inl k);exact .inr (.inr k))
  refine ⟨u,r,.inr ?_⟩
  rcases l with ⟨k,_⟩|⟨_,c,hc,o,q,d⟩
  ·rcases hk with k'|k'
   ·rw [k] at k';cases k'
   ·rw [k] at k';cases k'
  ·exact ⟨xV (env:=X.env) e4,c,WD hm hc,o,hsb c o (up0 c o q),d⟩
 ·obtain ⟨v,o,q,d⟩:=I.cell x c (xG e)
  exact ⟨v,o,hsb c o (up0 c o q),d⟩
 ·show upd H acc (.lst []) C=none
  rw [zH (by rw [hC,hacc,sz0];exact Nat.succ_ne_self _)]
  exact I.hok.fresh (by rw [hC,sz0];exact Nat.le_succ _)
 ·show upd H acc (.lst []) c=none
  rw [zH (CA c (cellLt x c (xG e)))]
  exact I.freeC x c (xG e)
 ·show (xY cap σ).length=N'.length
  unfold xY
  rw [List.length_map]
  exact cp.len

noncomputable def Kp (σ0 σ:St):Prop:=σ.length=σ0.length∧∀(j:Nat) v,σ0[j]? =some (some v)→σ[j]? =some (some v)
noncomputable def zcr (cap:List (Option Nat)) (g:TG):Prop:=∀σ0 σ x H Q,Kp (xY cap σ0) σ→g x σ H Q→g x σ H fun σ2 H2=>Q σ2 H2∧Kp (xY cap σ0) σ2
theorem xr {i:Nat} (h:cap[i]? =some none):zcr cap (VZ i):=fun σ0 σ x H Q k q=>by
 refine ⟨q,by rw [List.length_set];exact k.1,fun j v e=> ?_⟩
 have:j≠i:=by
  rintro rfl
  obtain ⟨i',e1,_⟩:=Xi e
  rw [h] at e1;cases e1
 rw [List.getElem?_set_ne (Ne.symm this)]
 exact k.2 j v e

theorem UH {pins:List (Addr×Obj)} {σ:St} {H:Hp} {s:Shared} {use:Option (Value→Sem Unit)} {Q:Value→Shared→Prop} {R:Addr→Hp→Prop} {p:Pos}
  (hc:X.calm=true) (B:vZ X sc) (cp:xD X sc cap N') (hi:PI X tg iter wi) (ow:zcr cap g)
  (hg:∀C s₀ H₀ fp,PG (xy X N' sc C s₀ H₀ fp) tg g) (ht:∀C s₀ H₀ fp,PTs (xy X N' sc C s₀ H₀ fp) ifs tt) (he:∀C s₀ H₀ fp,PE (xy X N' sc C s₀ H₀ fp) elt te)
  (hs:∀x,foldedSetIterable iter X.env x=pure x)
  (I:Inv X pins σ H s) (h:wi σ H fun J H1=>∀acc,H1 acc=none→zbT cap g tt te J σ acc H1 (R acc))
  (fin:∀(acc C:Addr) (H':Hp) (s':Shared) (m:Str→Option Value),Inv X pins σ H' s'→s'.heap.Ns C m→C≠X.env.locals→
   (∀{σ':St} {s'':Shared},Inv X pins σ' H' s''→∀h',Heap.SameBut C s''.heap h'→Inv X pins σ' H' {s'' with heap:=h'})→
   R acc H'→compPost (model X.prog X.w) X.A X.xe use Q (.ref acc) C (.ok .next) s'):
  wpAny (model X.prog X.w) X.A (comprehension (.ListComp elt [⟨tg,iter,ifs,0⟩] sc pos) sc X.env p (newList []) false (eval iter X.env) use) Q X.xe s:=by
 refine wpAny_comprehension_free rfl hs (I.closure B) B.kind B.names (thn (hi pins s σ H _ I h) fun xv s1 h1=>thn h1 fun itv s2 h2=> ?_)
 obtain ⟨it,fp,tn,J,H2,e,I2,T,st2,f2,r2⟩:=h2
 subst e
 have fpo:∀b∈fp,b<s2.heap.objs.size:=fun b hb=>by
  obtain ⟨o,e,_⟩:=T.obj _ _ st2 b hb
  exact Heap.lt_size e
 refine wpAny_newObj_type (wpAny_newFunctionEnv B.cell (by intro y hy;simp at hy) (fun h₁ hns₁ hsb₁=> ?_) B.kind)
 dsimp only at hns₁ hsb₁ ⊢
 obtain ⟨s₀,es0⟩:∃s₀:Shared,s₀={s2 with heap:=s2.heap.push {cls:= .type "list",dict:=none,data:= .seq ([]:List Value).toArray}}:=⟨_,rfl⟩
 have e0h:s₀.heap=s2.heap.push {cls:= .type "list",data:= .seq #[]}:=by rw [es0]
 obtain ⟨C,eC⟩:∃C:Addr,C=s₀.heap.objs.size:=⟨_,rfl⟩
 obtain ⟨acc,eA⟩:∃a:Addr,a=s2.heap.objs.size:=⟨_,rfl⟩
 rw [show (s2.heap.push {cls:= .type "list",dict:=none,data:= .seq ([]:List Value).toArray}).objs.size=C by rw [eC,e0h]] at hns₁ hsb₁ ⊢
 have keep₁:∀b o,s₀.heap.get? b=some o→h₁.get? b=some o:=fun b o e=>by
  refine hsb₁.extBut b o ?_ ?_
  ·rw [eC];exact Nat.ne_of_lt (Heap.lt_size e)
  ·rw [e0h] at e;exact Heap.get?_push_of_some _ e
 have szC:C=s2.heap.objs.size+1:=by rw [eC,e0h,Heap.size_push]
 have up0:∀b o,s2.heap.get? b=some o→s₀.heap.get? b=some o:=fun b o e=>by rw [e0h];exact Heap.get?_push_of_some _ e
 have fr0:H2 acc=none:=I2.hok.fresh (Nat.le_of_eq eA.symm)
 show codeAny (model X.prog X.w) X.A (.compStart (.ListComp elt [⟨tg,iter,ifs,0⟩] sc pos) 0 (.ref it) (.ref s2.heap.objs.size) (compEnvC sc (Wz sc X.env) C X.env))
  (compPost (model X.prog X.w) X.A X.xe use Q (.ref s2.heap.objs.size) C) {s2 with heap:=h₁,toks:=s2.toks+([]:List (Str×Value)).length}
 rw [←eA]
 have es1:({s2 with heap:=h₁,toks:=s2.toks+([]:List (Str×Value)).length}:Shared)={s₀ with heap:=h₁,toks:=s2.toks+([]:List (Str×Value)).length}:=by rw [es0]
 rw [es1]
 obtain ⟨W,⟨m0,w0⟩,turn⟩:=r2 acc fr0
 have Ib:Inv (xy X N' sc C s₀ (upd H2 acc (.lst [])) fp) [] (xY cap σ) (upd H2 acc (.lst [])) {s₀ with heap:=h₁,toks:=s2.toks+([]:List (Str×Value)).length}:=
  UG I2 B cp f2 fpo eA (by rw [es0]) (by rw [es0]) e0h eC hns₁ keep₁
 have stat:∀{H':Hp},(∀b∈fp,H' b=none)→∀b∈fp,Yd (xy X N' sc C s₀ (upd H2 acc (.lst [])) fp) [] H' b:=fun hn b hb=>
  ⟨hn b hb,(Ib.ok.exf b hb).1,Ib.ok.exfs b hb,.inl hb,fun x c e=>(Ib.ok.exf b hb).2 x c e,fun p hp=>absurd (show p∈([]:List (Addr×Obj)) from hp) (by simp)⟩
 have fp0:∀b∈fp,upd H2 acc (.lst []) b=none:=fun b hb=>by
  rw [zH (by rw [eA];exact Nat.ne_of_lt (fpo b hb))]
  exact (f2 b hb).1
 have loop:codeAny (model X.prog X.w) X.A (.compLoop (.ListComp elt [⟨tg,iter,ifs,0⟩] sc pos) 0 (.ref it) (.ref acc) (compEnvC sc (Wz sc X.env) C X.env))
   (compPost (model X.prog X.w) X.A X.xe use Q (.ref acc) C) {s₀ with heap:=h₁,toks:=s2.toks+([]:List (Str×Value)).length}:=by
  refine vj (fun n s'=>∃i ys H',Inv (xy X N' sc C s₀ (upd H2 acc (.lst [])) fp) [] (xY cap σ) H' s'∧tn i s'.heap∧(∀b∈fp,H' b=none)∧W i n ys H') ?_ m0
   ⟨0,[],_,Ib,T.keep _ _ _ st2 fun b hb o e=>keep₁ b o (up0 b o e),fp0,w0⟩
  rintro n s3 ⟨i,ys,H3,I3,st3,fr3,w3⟩
  rcases turn i n ys H3 w3 with ⟨stop,qn⟩|⟨go,step⟩
  ·refine thn (T.done (xy X N' sc C s₀ (upd H2 acc (.lst [])) fp) rfl rfl rfl hc i [] s3 _ H3 (fun _ _=>False) I3 (stat fr3) st3 stop) fun r s4 ⟨hr,I4⟩=> ?_
   subst hr
   have u0:Un (frs X.stack) fp H2 (upd H2 acc (.lst [])) s2.heap s₀.heap:=Un.laid up0 (Nat.le_of_eq eA.symm) fr0
   have un:Un (frs X.stack) fp H2 H3 s2.heap s4.heap:=u0.trans I4.base
   have I5:Inv X pins σ H3 s4:=I2.call' (by rw [I4.os];show s₀.os=_;rw [es0]) un I4.hok I4.bare fun b hb=>⟨(f2 b hb).2.2.2.1,(f2 b hb).2.1,(f2 b hb).2.2.2.2.1,(f2 b hb).2.2.2.2.2⟩
   obtain ⟨m4,hn4,_⟩:=I4.loc
   have CL:C≠X.env.locals:=fun z=>by
    have:=I2.lt
    rw [←z,szC] at this
    exact absurd this (Nat.not_lt.mpr (Nat.le_succ _))
   refine fin acc C H3 s4 m4 I5 hn4 CL (fun {σ' s''} I6 h' sb=> ?_) qn
   refine I6.turned (t':=s''.toks) (fun b o hb e=>(sb.2 b hb).trans e) I4.free CL (.inr ?_) (fun x c e z=> ?_) fun p hp z=> ?_
   ·have:=I2.sz
    rw [szC]
    omega
   ·obtain ⟨v,o,q,_⟩:=I2.cell x c e
    have:=Heap.lt_size q
    rw [z,szC] at this
    exact absurd this (Nat.not_lt.mpr (Nat.le_succ _))
   ·obtain ⟨q,_⟩:=I2.pin p hp
    have:=Heap.lt_size q
    rw [z,szC] at this
    exact absurd this (Nat.not_lt.mpr (Nat.le_succ _))
  ·refine thn (T.item (xy X N' sc C s₀ (upd H2 acc (.lst [])) fp) rfl rfl rfl hc i [] s3 _ H3 (fun _ _=>False) I3 (stat fr3) st3 go) fun r s4 ⟨u,hr,h4⟩=> ?_
   subst hr
   refine thn h4 fun _ s5 ⟨x,H5,I5,r5,y5,st5,fr5⟩=> ?_
   have I5':=I5.pinned (stat fr5) (T.obj _ _ st5)
   refine thn (hg C s₀ _ fp _ s5 _ H5 x u _ I5' r5 (ow σ _ x H5 _ ⟨rfl,fun _ _ e=>e⟩ (step x H5 y5))) fun _ s6 ⟨σ6,H6,I6,q6,kp6⟩=> ?_
   have again:∀{H7:Hp} {s7:Shared} {zs:List V},Inv (xy X N' sc C s₀ (upd H2 acc (.lst [])) fp) ([]++Ye fp s5.heap) σ6 H7 s7→(∃m',m'<n∧W (i+1) m' zs H7)→
     ∃m,m<n∧∃i ys H',Inv (xy X N' sc C s₀ (upd H2 acc (.lst [])) fp) [] (xY cap σ) H' s7∧tn i s7.heap∧(∀b∈fp,H' b=none)∧W i m ys H':=fun {H7 s7 zs} I7 w7=>by
    obtain ⟨m',hm,w7⟩:=w7
    refine ⟨m',hm,i+1,zs,H7,(I7.unpinned).weak kp6.1.symm kp6.2,T.keep _ _ _ st5 fun b hb o e=>(I7.pin (b,o) (List.mem_append_right _ (List.mem_append_right _ (wM hb e)))).1,fun b hb=> ?_,w7⟩
    obtain ⟨o,e,d⟩:=T.obj _ _ st5 b hb
    exact (I7.pin (b,o) (List.mem_append_right _ (List.mem_append_right _ (wM hb e)))).2.1
   refine thn (ht C s₀ _ fp _ s6 σ6 H6 _ I6 q6) fun ok s7 ⟨H7,I7,q7⟩=> ?_
   cases ok with
   |false=>
    rw [if_neg Bool.false_ne_true] at q7 ⊢
    exact again I7 q7
   |true=>
    rw [if_pos rfl] at q7 ⊢
    refine thn (he C s₀ _ fp _ s7 σ6 H7 _ I7 q7) fun xv s8 ⟨v,H8,I8,r8,hacc8,hl8,w8⟩=> ?_
    refine thn (xp _ s8 σ6 H8 (.ref acc) [v] (.ref acc) [xv] (fun _ H9=>H9=upd H8 acc (.lst (ys++[v]))) I8 rfl (.cons r8 .nil) ⟨acc,ys,v,rfl,rfl,hacc8,hl8,rfl⟩) fun _ s9 ⟨_,H9,I9,_,e9⟩=> ?_
    subst e9
    exact again I9 w8
 exact codeAny_compStart_list loop (T.self _ 0 _ _ _ (T.keep _ _ _ st2 fun b hb o e=>keep₁ b o (up0 b o e)) loop)

theorem wv (hc:X.calm=true) (B:vZ X sc) (cp:xD X sc cap N') (hi:PI X tg iter wi) (ow:zcr cap g)
  (hg:∀C s₀ H₀ fp,PG (xy X N' sc C s₀ H₀ fp) tg g) (ht:∀C s₀ H₀ fp,PTs (xy X N' sc C s₀ H₀ fp) ifs tt) (he:∀C s₀ H₀ fp,PE (xy X N' sc C s₀ H₀ fp) elt te)
  (hs:∀x,foldedSetIterable iter X.env x=pure x:=by intro _;rfl):PE X (.ListComp elt [⟨tg,iter,ifs,0⟩] sc pos) (zbU cap wi g tt te):=by
 intro pins s σ H Q I h
 rw [eval_ListComp]
 refine UH (use:=none) (R:=fun acc H2=>Q (.ref acc) H2) hc B cp hi ow hg ht he hs I h fun acc C H' s' m I' hn CL mk r=> ?_
 exact ⟨m,hn,fun h' sb=>⟨.ref acc,H',mk I' h' sb,rfl,r⟩⟩
end
end L2
namespace L2
open PySem PySem.Spec PyProof.Rows

noncomputable def yY {α:Type}:Sem α→Prop
 | .pure _=>True
 | .raise _=>True
 | .unsupported _=>True
 | .finish _=>True
 | .rule _ k=>∀u,yY (k u)
 | .at _ k=>∀u,yY (k u)
 | .load _ _ k=>∀o,yY (k o)
 | .update _ _ f k=>(∀o,(f o).dict=o.dict∧(f o).cls=o.cls)∧∀u,yY (k u)
 | .alloc _ k=>∀a,yY (k a)
 | .loadIfAlive _ k=>∀o,yY (k o)
 | .point _ k=>∀u,yY (k u)
 | .stack k=>∀x,yY (k x)
 | .ask k=>∀x,yY (k x)
 |_=>False
noncomputable def KD (h h':Heap):Prop:=∀(b:Nat) o,h.objs[b]? =some o→∃o',h'.objs[b]? =some o'∧o'.dict=o.dict∧o'.cls=o.cls
theorem KD.refl (h:Heap):KD h h:=fun _ o e=>⟨o,e,rfl,rfl⟩
theorem KD.trans {h h1 h2:Heap} (x:KD h h1) (y:KD h1 h2):KD h h2:=fun b o e=>by
 obtain ⟨o1,e1,d1,c1⟩:=x b o e
 obtain ⟨o2,e2,d2,c2⟩:=y b o1 e1
 exact ⟨o2,e2,d2.trans d1,c2.trans c1⟩
theorem KD.push (h:Heap) (o:Obj):KD h (h.push o):=fun b o' e=>by
 refine ⟨o',?_,rfl,rfl⟩
 obtain ⟨objs,l⟩:=h
 show (objs.push o)[b]? =some o'
 have e:objs[b]? =some o':=e
 rw [Array.getElem?_push]
 have hb:b<objs.size:=(Array.getElem?_eq_some_iff.mp e).1
 rw [if_neg (Nat.ne_of_lt hb)]
 exact e
theorem KD.update (h:Heap) (a:Addr) {f:Obj→Obj} (hf:∀o,(f o).dict=o.dict∧(f o).cls=o.cls):KD h (h.update a f):=fun b o e=>by
 obtain ⟨objs,l⟩:=h
 show ∃o',(objs.modify a f)[b]? =some o'∧_
 rw [Array.getElem?_modify]
 have e:objs[b]? =some o:=e
 by_cases hab:a=b
 ·rw [if_pos hab,e]
  exact ⟨f o,rfl,hf o⟩
 ·rw [if_neg hab,e]
  exact ⟨o,rfl,rfl,rfl⟩
theorem WE {h:Heap} {a:Addr} {o:Obj} (e:h.get? a=some o):h.objs[a]? =some o:=by
 unfold Heap.get? at e
 split at e
 ·cases e
 ·exact e
theorem KD.at {h h':Heap} {a:Addr} {o o':Obj} (k:KD h h') (e:h.get? a=some o) (e':h'.get? a=some o'):o'.dict=o.dict∧o'.cls=o.cls:=by
 obtain ⟨o1,e1,d⟩:=k a o (WE e)
 rw [WE e'] at e1
 cases e1
 exact d
theorem zbi {α:Type} {M:Model} {Γ:PySem.Ctx} {t:Sem α}:∀{Q:α→Pos→Shared→Prop} {E:Value→Pos→Shared→Prop} {p:Pos} {s:Shared} {h₀:Heap},yY t→KD h₀ s.heap→Sem.wp M Γ t Q E p s→
  Sem.wp M Γ t (fun a p' s'=>Q a p' s'∧KD h₀ s'.heap) (fun e p' s'=>E e p' s'∧KD h₀ s'.heap) p s:=by
 induction t with
 |pure a=>exact fun _ k h=>⟨h,k⟩
 |raise e=>exact fun _ k h=>⟨h,k⟩
 |unsupported w=>exact fun _ _ h=>h.elim
 |finish e=>exact fun _ _ h=>h.elim
 |rule _ k ih=>exact fun t z h=>ih () (t ()) z h
 | «at» _ k ih=>exact fun t z h=>ih () (t ()) z h
 |load a _ k ih=>
  intro Q E p s h₀ t z h
  obtain ⟨o,e,h⟩:=h
  exact ⟨o,e,ih o (t o) z h⟩
 |update a _ f k ih=>
  intro Q E p s h₀ t z h
  obtain ⟨e,h⟩:=h
  exact ⟨e,ih () (t.2 ()) (z.trans (KD.update _ _ t.1)) h⟩
 |alloc o k ih=>exact fun t z h=>ih _ (t _) (z.trans (KD.push _ _)) h
 |loadIfAlive a k ih=>exact fun t z h=>ih _ (t _) z h
 |point _ k ih=>exact fun t z h=>ih () (t ()) z h
 |stack k ih=>exact fun t z h=>ih _ (t _) z h
 |ask k ih=>exact fun t z h=>ih _ (t _) z h
 |register _ _ _=>exact fun t=>t.elim
 |fresh _ _=>exact fun t=>t.elim
 |choose _ _ _ _=>exact fun t=>t.elim
 |os _ _ _ _=>exact fun t=>t.elim
 |call _ _ _ _ _ _=>exact fun t=>t.elim
 |handled _ _ _=>exact fun t=>t.elim
 |newGen _ _ _=>exact fun t=>t.elim
 |genState _ _ _=>exact fun t=>t.elim
 |resume _ _ _ _ _=>exact fun t=>t.elim
 |yield _ _ _ _ _=>exact fun t=>t.elim
 |fork _ _ _=>exact fun t=>t.elim
 |thread _ _=>exact fun t=>t.elim
 |await _ _ _ _ _ _=>exact fun t=>t.elim
theorem TC {α:Type} {M:Model} {A:Around} {t:Sem α} {Q:α→Shared→Prop} {E:Value→Shared→Prop} {s:Shared} (T:yY t) (h:wpAny M A t Q E s):wpAny M A t (fun a s'=>Q a s'∧KD s.heap s'.heap) (fun e s'=>E e s'∧KD s.heap s'.heap) s:=
 fun Γ p hΓ=>zbi T (KD.refl _) (h Γ p hΓ)
theorem UI {α β:Type} {f:α→Sem β} (hf:∀a,yY (f a)):∀{t:Sem α},yY t→yY (t.bind f):=by
 intro t
 induction t with
 |pure a=>exact fun _=>hf a
 |raise e=>exact fun _=>trivial
 |unsupported w=>exact fun _=>trivial
 |finish e=>exact fun _=>trivial
 |rule _ k ih=>exact fun t u=>ih u (t u)
 | «at» _ k ih=>exact fun t u=>ih u (t u)
 |load a _ k ih=>exact fun t u=>ih u (t u)
 |update a _ f k ih=>exact fun t=>⟨t.1,fun u=>ih u (t.2 u)⟩
 |alloc o k ih=>exact fun t u=>ih u (t u)
 |loadIfAlive a k ih=>exact fun t u=>ih u (t u)
 |point _ k ih=>exact fun t u=>ih u (t u)
 |stack k ih=>exact fun t u=>ih u (t u)
 |ask k ih=>exact fun t u=>ih u (t u)
 |register _ _ _=>exact fun t=>t.elim
 |fresh _ _=>exact fun t=>t.elim
 |choose _ _ _ _=>exact fun t=>t.elim
 |os _ _ _ _=>exact fun t=>t.elim
 |call _ _ _ _ _ _=>exact fun t=>t.elim
 |handled _ _ _=>exact fun t=>t.elim
 |newGen _ _ _=>exact fun t=>t.elim
 |genState _ _ _=>exact fun t=>t.elim
 |resume _ _ _ _ _=>exact fun t=>t.elim
 |yield _ _ _ _ _=>exact fun t=>t.elim
 |fork _ _ _=>exact fun t=>t.elim
 |thread _ _=>exact fun t=>t.elim
 |await _ _ _ _ _ _=>exact fun t=>t.elim
theorem tb {α β:Type} {t:Sem α} {f:α→Sem β} (h:yY t) (hf:∀a,yY (f a)):yY (t>>=f):=UI hf h
theorem YM (v:Value):yY (fieldsOf v):=by
 unfold fieldsOf
 split
 ·refine tb (fun o=>trivial) fun o=> ?_
  split<;>trivial
 ·trivial
theorem wN (v:Value) (i:Nat):yY (field v i):=by
 unfold field
 refine tb (YM v) fun a=> ?_
 split<;>trivial
theorem Yi (g:Array Value→Array Value) (o:Obj):(Obj.mapFields g o).dict=o.dict∧(Obj.mapFields g o).cls=o.cls:=by
 obtain ⟨c,d,dt,sl⟩:=o
 cases dt<;>exact ⟨rfl,rfl⟩
theorem wG (v:Value) (i:Nat) (x:Value):yY (setField v i x):=by
 unfold setField
 split
 ·unfold updateField
  refine tb (fun o=>trivial) fun o=> ?_
  split
  ·split
   ·exact ⟨fun o=>Yi _ o,fun _=>trivial⟩
   ·trivial
  ·trivial
 ·trivial
theorem Yj (e:Value) (f:Option Addr):yY (setFlight e f):=by
 unfold setFlight
 refine tb (wN _ _) fun tb'=> ?_
 split
 ·exact wG _ _ _
 ·trivial
theorem Yk (ty:String) (vs:List Value):yY (newFields ty vs):=by
 have h:yY (newObjAsIs (Value.type ty) (Data.fields vs.toArray)):=by
  unfold newObjAsIs
  exact tb (fun a=>trivial) fun a=>trivial
 unfold newFields newObj
 show yY (if vs.toArray.size>sizeLine+2 then (unsupported "record:memory">>=fun _=>newObjAsIs (Value.type ty) (Data.fields vs.toArray)) else newObjAsIs (Value.type ty) (Data.fields vs.toArray))
 split
 ·trivial
 ·exact h
theorem WF (env:Env) (outer:List Env):yY (behindIsImport env outer):=by
 unfold behindIsImport
 split
 ·trivial
 ·split
  ·trivial
  ·exact tb (wN _ _) fun _=>trivial
theorem Vq:yY underTheClaimsCaller:=tb (fun _=>trivial) fun _=>trivial
theorem YN (env:Env) (i:Bool) (outer:List Env):yY (keptBack env i outer):=by
 cases outer with
 |nil=>
  unfold keptBack
  by_cases h:(env.scope.isGenerator||env.scope.isCoroutine)=true
  ·rw [if_pos h];trivial
  ·rw [if_neg h]
   refine tb Vq fun x=> ?_
   trivial
 |cons c r=>
  unfold keptBack
  trivial
theorem Yl:∀l:List Env,yY (readyFrames l)
 |[]=>trivial
 |env::outer=>by
  unfold readyFrames
  split
  ·refine tb (fun o=>trivial) fun o=> ?_
   split
   ·trivial
   ·exact tb (WF _ _) fun i=>tb (YN _ _ _) fun b=>tb ⟨fun o=>⟨rfl,rfl⟩,fun _=>trivial⟩ fun _=>Yl outer
  ·trivial
theorem XJ (env:Env):yY (PySem.frameOf env):=by
 unfold PySem.frameOf
 refine tb (fun x=>trivial) fun l=>tb ?_ fun o=> ?_
 ·generalize List.dropWhile _ l=l'
  unfold frameObject
  cases l' with
  |nil=>trivial
  |cons a r=>exact tb (Yl _) fun _=>trivial
 ·split<;>trivial
theorem ZT (f:Addr) (b:Bool):yY (entryPlaceOf f b):=by
 unfold entryPlaceOf
 refine tb (fun x=>trivial) fun l=> ?_
 split<;>trivial
theorem Ym (e:Value) (env:Env):yY (noteFrame e env):=by
 unfold noteFrame
 split
 ·rename_i f _
  have last:∀head:Value,yY (do setField e 1 (←EntryCells.newEntry head (←PySem.frameOf env) .none (rawInt f) .none (←entryPlaceOf f (head != .none)))):=fun head=>
   tb (XJ env) fun a=>tb (ZT _ _) fun pl=>tb (Yk _ _) fun b=>wG _ _ _
  refine tb (wN _ _) fun head=> ?_
  split
  ·refine tb (wN _ _) fun x=> ?_
   split
   ·trivial
   ·exact tb (wG _ _ _) fun _=>last head
  ·exact last head
 ·trivial
theorem XL (env:Env) (e:Value):yY (leaving env e):=tb (Ym e env) fun _=>Yj _ _
end L2
namespace L2
open PySem PySem.Spec PyProof.Rows

theorem yM.there {P:Program} {w:World} {H:Hp} {h:Heap} {a:Addr} {o:HO} (x:yM P w H h a o):∃ob,h.get? a=some ob:=by
 cases o with
 |lst xs=>obtain ⟨_,_,_,_,e⟩:=x;exact ⟨_,e⟩
 |tup xs=>obtain ⟨_,_,_,ob,e,_⟩:=x;exact ⟨_,e⟩
 |dK kvs=>obtain ⟨_,_,_,_,o,_,_,e,_⟩:=x;exact ⟨_,e⟩
 |dT kvs=>obtain ⟨_,_,_,_,o,_,_,e,_⟩:=x;exact ⟨_,e⟩
 |dN kvs=>obtain ⟨_,_,_,_,o,_,_,e,_⟩:=x;exact ⟨_,e⟩
 |set S n=>obtain ⟨o,_,_,_,e,_⟩:=x;exact ⟨_,e⟩
 |ins C dx fs=>obtain ⟨_,_,_,e,_⟩:=x;exact ⟨_,e⟩
 |own y=>obtain ⟨_,e⟩:=x;exact ⟨_,e⟩
 |xd fs=>obtain ⟨_,⟨_,_,_,e,_⟩,_⟩:=x;exact ⟨_,e⟩
 |rng lo hi=>obtain ⟨_,_,_,e⟩:=x;exact ⟨_,e⟩
 |frz ob u=>obtain ⟨e,_⟩:=x;exact ⟨_,e⟩
 |tbl ps=>exact ⟨_,(show h.get? a=some _ from x)⟩
 |met f y=>exact ⟨_,(show h.get? a=some _ from x)⟩
 |ext φ=>obtain ⟨_,⟨_,e⟩,_⟩:=x;exact ⟨_,e⟩

noncomputable def Cov (outer:List Env) (H':Hp) (old h' B:Heap):Prop:=
 (∀b o,(∃o0,old.get? b=some o0)→b∉frs outer→h'.get? b=some o→B.get? b=some o)∧∀b u o,H' b=some u→h'.get? b=some o→B.get? b=some o
structure Fly (P:Program) (w:World) (outer:List Env) (H:Hp) (s:Shared) (e:Addr) (cls:Value) (H':Hp) (s':Shared):Prop where
 os:s'.os=s.os
 bare:AllBare s'.gens
 un:Un (frs outer) [] H H' s.heap s'.heap
 hok:HOk P w H' s'.heap
 fly:∃B t,Heap.FlyingW B outer e cls (.ref t) s'.heap∧Cov outer H' s.heap s'.heap B
 new:s.heap.get? e=none
 free:H' e=none
 nd:∀o,s'.heap.get? e=some o→o.dict=none
noncomputable def CXE (P:Program) (w:World):CXT:=fun outer H s E ev s'=>∃e cls H',ev= .ref e∧Fly P w outer H s e cls H' s'∧E cls none H'

theorem Fly.moved {P:Program} {w:World} {outer:List Env} {H H':Hp} {s s':Shared} {e:Addr} {cls a0:Value} {B h2:Heap} (F:Fly P w outer H s e cls H' s') (fl:Heap.FlyingW B outer e cls a0 s'.heap) (cov:Cov outer H' s.heap s'.heap B)
  (st:B.StaysIn h2) (sm:s'.heap.UpToSlots h2):Un (frs outer) [] H H' s.heap h2∧HOk P w H' h2∧Cov outer H' s.heap h2 B:=by
 have nofs:∀b u,H' b=some u→∃o,s'.heap.get? b=some o∧B.get? b=some o∧h2.get? b=some o:=fun b u q=>by
  obtain ⟨o,e1⟩:=(F.hok b u q).there
  have e2:=cov.2 b u o q e1
  exact ⟨o,e1,e2,st b o e2⟩
 have old:∀b o0,s.heap.get? b=some o0→b∉frs outer→∃o,s'.heap.get? b=some o∧B.get? b=some o∧h2.get? b=some o:=fun b o0 q hb=>by
  obtain ⟨o,e1⟩:=F.un.there b o0 q (by simp)
  have e2:=cov.1 b o ⟨o0,q⟩ hb e1
  exact ⟨o,e1,e2,st b o e2⟩
 have fr:∀b∈frs outer,∃o sl,s'.heap.get? b=some o∧h2.get? b=some {o with slots:=sl}:=fun b hb=>by
  obtain ⟨_,o,e1,d⟩:=fl.2.2.1.mem hb
  obtain ⟨sl,e2⟩:=sm b o e1 d
  exact ⟨o,sl,e1,e2⟩
 refine ⟨⟨fun b o q n hb _=> ?_,fun b o q n hb _=> ?_,fun b o q n hx=>F.un.free b o q n hx,fun b o q _=> ?_,F.un.tups,F.un.frzs,F.un.tbls⟩,fun a u q=> ?_,fun b o q hb e1=> ?_,fun b u o q e1=> ?_⟩
 ·obtain ⟨o1,e1,_,e3⟩:=old b o q hb
  have e4:=F.un.keep b o q n hb (by simp)
  rw [e1] at e4;cases e4
  exact e3
 ·obtain ⟨o1,sl1,e1,e2⟩:=fr b hb
  obtain ⟨sl,e4⟩:=F.un.slot b o q n hb (by simp)
  rw [e1] at e4;cases e4
  exact ⟨sl1,e2⟩
 ·by_cases hb:b∈frs outer
  ·obtain ⟨o1,sl1,e1,e2⟩:=fr b hb
   exact ⟨_,e2⟩
  ·obtain ⟨o1,_,_,e3⟩:=old b o q hb
   exact ⟨_,e3⟩
 ·refine (F.hok a u q).stay (fun b ob hb eb=> ?_) (fun _ z=>z) fun _ _ z=>z
  have:∃u',H' b=some u':=by
   rcases hb with z|z
   ·exact ⟨u,z ▸ q⟩
   ·exact ⟨_,z⟩
  obtain ⟨u',hu⟩:=this
  obtain ⟨o1,e1,_,e3⟩:=nofs b u' hu
  rw [eb] at e1;cases e1
  exact e3
 ·obtain ⟨o0,q⟩:=q
  obtain ⟨o1,_,e2,e3⟩:=old b o0 q hb
  rw [e1] at e3;cases e3
  exact e2
 ·obtain ⟨o1,_,e2,e3⟩:=nofs b u q
  rw [e1] at e3;cases e3
  exact e2

section
variable {P:Program} {w:World} {K:PySem.W.Frag} {mg:Str→Option Value} {base:Heap} {N:List Str} {qual:Str} {scope:Scope} {f:Addr} {cdv:Value} {A:Around} {outer:List Env} {s:Shared} {H:Hp} {E:XK}


theorem ya:XF (CXE P w) (Wv (CXE P w) P w K mg base N qual scope f cdv A outer s H E) E:=by
 rintro pins σ H1 s1 ev s' I ⟨e,cls,H',rfl,F,hE⟩
 obtain ⟨B,t,fl,cov⟩:=F.fly
 have hfs:∀b∈frs (envOfC qual scope s.heap.objs.size f cdv::outer),b∈s.heap.objs.size::frs outer:=I.stkSub
 refine wpAny_mono (TC (XL _ _) (wpAny_leaves_onW (E:=fun _ _=>False) (Q:=fun _ s''=>∃h',s''={s' with heap:=h'}∧Heap.FlyingW B outer e cls (.ref t) h'∧s'.heap.UpToSlots h') (L:=s.heap.objs.size) I.ok.frames rfl fl fun h' x1 x2=>⟨h',rfl,x1,x2⟩)) (fun _ s3 h3=> ?_) fun _ _ h3=>h3.1.elim
 obtain ⟨⟨h',rfl,x1,x2⟩,kd⟩:=h3
 obtain ⟨un,hok,cov'⟩:=F.moved fl cov x1.1 x2
 have exn:∀b:Addr,b∉(Wv (CXE P w) P w K mg base N qual scope f cdv A outer s H E).ex:=fun b z=>absurd (show b∈([]:List Addr) from z) (by simp)
 have nfs:∀b o,s.heap.get? b=some o→b∉frs outer→b∉frs (envOfC qual scope s.heap.objs.size f cdv::outer):=fun b o q hb hz=>by
  rcases List.mem_cons.mp (hfs b hz) with z|z
  ·exact Nat.ne_of_lt (Heap.lt_size q) z
  ·exact hb z
 have sub:∀b∈frs outer,b∈frs (envOfC qual scope s.heap.objs.size f cdv::outer):=fun b hb=>by
  unfold frs at hb ⊢
  rw [List.filterMap_cons]
  exact List.mem_cons_of_mem _ hb
 refine ⟨e,cls,H',rfl,⟨F.os.trans I.os,F.bare,⟨fun b o q n hb _=> ?_,fun b o q n hb _=> ?_,fun b o q n _=> ?_,fun b o q _=> ?_,fun b xs q=>un.tups b xs (I.base.tups b xs q),fun b o xs q=>un.frzs b o xs (I.base.frzs b o xs q),fun b ps q=> ?_⟩,hok,
  ⟨B,t,x1,fun b o q hb e1=> ?_,cov'.2⟩,?_,F.free,fun o q=> ?_⟩,hE⟩
 ·exact un.keep b o (I.base.keep b o q n hb (exn b)) (I.base.free b o q n (exn b)) (nfs b o q hb) (by simp)
 ·obtain ⟨sl,e1⟩:=I.base.slot b o q n hb (exn b)
  obtain ⟨sl2,e2⟩:=un.slot b _ e1 (I.base.free b o q n (exn b)) (sub b hb) (by simp)
  exact ⟨sl2,e2⟩
 ·obtain ⟨o1,e1⟩:=I.base.there b o q (exn b)
  exact un.free b o1 e1 (I.base.free b o q n (exn b)) (by simp)
 ·obtain ⟨o1,e1⟩:=I.base.there b o q (exn b)
  exact un.there b o1 e1 (by simp)
 ·obtain ⟨m1,e1⟩:=I.base.tbls b ps q
  obtain ⟨m2,e2⟩:=un.tbls b _ e1
  exact ⟨m1++m2,by rw [e2,Array.append_assoc]⟩
 ·obtain ⟨o0,q⟩:=q
  obtain ⟨o1,q1⟩:=I.base.there b o0 q (exn b)
  exact cov'.1 b o ⟨o1,q1⟩ (nfs b o0 q hb) e1
 ·cases q:s.heap.get? e with
  |none=>rfl
  |some o=>
   obtain ⟨o',q'⟩:=I.base.there e o q (exn e)
   have:=F.new
   rw [q'] at this;cases this
 ·obtain ⟨ob,hob,_⟩:=fl.there
  exact (kd.at hob q).1.trans (F.nd ob hob)
end

structure zdW (K:PySem.W.Frag) (mg:Str→Option Value) (x:Str) (C:Addr) (bmB:List Value) (newId:String):Prop where
 mg:mg x=some (.ref C)
 inK:PySem.W.excIn K C bmB newId=true

end L2
namespace L2
open PySem PySem.Spec PyProof.Rows

theorem Xj {P:Program} {w:World} {X:Cx}:XF (CXE P w) X E0:=fun _ _ _ _ _ _ _ ⟨_,_,_,_,_,h⟩=>h.elim

noncomputable abbrev TEx:=St→Hp→VK→(Value→Hp→Prop)→Prop
noncomputable abbrev TAx:=St→Hp→(List V→Hp→Prop)→(Value→Hp→Prop)→Prop
noncomputable abbrev TSx:=Zu→(Value→Hp→Prop)→St→Hp→Prop
section
variable {X:Cx} {e:Expr} {es:List Expr} {te:TE}
end

noncomputable def zcs (e:Addr) (cls:Value):HO:= .ext fun h=>∃ob,h.get? e=some ob∧ob.cls=cls∧ob.dict=none∧∃vs,ob.data= .fields vs
noncomputable abbrev Cx.hand (X:Cx) (e:Addr):Cx:={X with A:=X.A.mark (some (.ref e)),calm:=false,xe:=fun _ _=>False}
section
variable {X:Cx} {pins:List (Addr×Obj)} {σ:St} {H:Hp} {s:Shared}
end


end L2
namespace L2
open PySem PySem.Spec PyProof.Rows
open PySem.Builtin.Int (intBits)

noncomputable def zbV (i j:Int):Prop:=∃m n:Nat,intBits i≤m∧intBits j≤n∧m+n≤134217728
noncomputable def TD (i j:Int):Prop:=j≠0∧intBits j≤9000
section
variable {X:Cx}
theorem Za:OpR X (binaryOp .Mult) (rI zbV fun i j=> .int (i*j)):=opI fun _ _ _ _ _ _ _ hc q=>by
 obtain ⟨m,n,h1,h2,h3⟩:=hc
 exact mul_int q (IntMulOk.of_le h1 h2 h3)
theorem Zb:OpR X (binaryOp .FloorDiv) (rI TD fun i j=> .int (i.fdiv j)):=opI fun i j _ _ _ _ _ hc q=>floordiv_int hc.1 q (.inl (PyProof.noPylong_of_log2 (by
 have h:=PySem.intBits_le_iff.mp hc.2
 by_cases z:j.natAbs=0
 ·rw [z];decide
 ·exact (Nat.log2_lt z).mpr h)))


end
section
variable {prog:Program} {w:World} {A:Around} {E:Value→Shared→Prop} {s:Shared} {K:PySem.W.Frag} {x D:Addr} {ox:Obj}
theorem XM {M:Model} {nameV:Value} {Q:Unit→Shared→Prop} (X:K.In s.heap) (I:PySem.W.InstAt s.heap x ox D none) (be:PySem.W.mroIn K D (.type "BaseException")=some true) (hq:Q () s):
  wpAny M A (checkBuiltinCall "BaseException.__getattribute__" ⟨[.ref x,nameV],[]⟩) Q E s:=by
 obtain ⟨hh,g,d,t,os⟩:=s
 have hk:builtinKind "BaseException.__getattribute__"=some .slot:=by decide+kernel
 have hsplit:splitId "BaseException.__getattribute__"=some ("BaseException","__getattribute__"):=by decide+kernel
 have L0:=I.type (M:=M)
 have L1:=PySem.W.looks_mroIn (M:=M) X be
 have ha:=F.args_bexc_ga (.ref x) nameV
 simp only [checkBuiltinCall,hk,hsplit]
 refine wpAny_bind ?_
 unfold isInstance
 refine wpAny_bind (L0.at (L1.at ?_))
 repeat (first|wp_step)
 exact hq
theorem UJ {Q:Option Value→Shared→Prop} (X:K.In s.heap) (I:PySem.W.InstAt s.heap x ox D none) (ga:PySem.W.findIn K (.ref D) "__getattribute__"=some (some (.builtin "BaseException.__getattribute__"))) (noga:PySem.W.findIn K (.ref D) "__getattr__"=some none)
  (be:PySem.W.mroIn K D (.type "BaseException")=some true) (hf:PySem.W.findObj K D none "__class__"=some (.bind (.builtin "getset_descriptor.__get__") (.builtin "object.__class__"))) (hm:PySem.W.mroIn K D (.type "object")=some true)
  (h:Q (some (.ref D)) {s with toks:=s.toks+1}):wpAny (model prog w) A (getAttr? (.ref x) "__class__") Q E s:=by
 obtain ⟨hh,g,d,t,os⟩:=s
 have L0:=I.type (M:=model prog w)
 have L1:=PySem.W.looks_findIn (M:=model prog w) X ga
 have L2:=PySem.W.looks_findIn (M:=model prog w) X noga
 have L3:=PySem.W.looks_find (M:=model prog w) X I hf
 have hb:=F.attrBase_ValueError.ga.bind (.ref x)
 unfold getAttr? getAttrBy? getAttrBy
 refine wpAny_bind (wpAny_mkText (wpAny_bind (wpAny_attempt (wpAny_holding (wpAny_bind (L0.at (wpAny_bind (L1.at ?_))))))))
 dsimp only
 rw [if_neg (show ¬(onTheHeap (Value.ref D)&&(Value.builtin "BaseException.__getattribute__"==Value.builtin "object.__getattribute__"))=true by rw [show (Value.builtin "BaseException.__getattribute__"==Value.builtin "object.__getattribute__")=false by decide+kernel];simp)]
 unfold getAttrByItsOwn hookBefore
 refine wpAny_bind ?_
 show wpAny _ _ (typeLookup (.ref D) "__getattr__") _ _ _
 refine L2.at ?_
 refine wpAny_bind (wpAny_attempt (wpAny_holding ?_))
 unfold callGetattribute boundAndCalled
 rw [if_neg (by decide),hb]
 refine wpAny_bind (wpAny_pure ?_)
 dsimp only
 refine wpAny_call (codeAny_call_builtin F.attrBase_ValueError.ga.plain F.entry_bexc_ga (XM (ox:=ox) X I be ?_))
 unfold Builtin.«object.__getattribute__»
 refine wpAny_bind (wpAny_of_eq (show slotArgs "__getattribute__" 1 {pos:=[Value.ref x]++[Value.str (Str.ofString "__class__") t]}=pure (.ref x,[Value.str (Str.ofString "__class__") t]) from rfl) ?_)
 dsimp only
 refine wpAny_bind (wpAny_of_eq (show Builtin.ObjectAttr.attrName (Value.str (Str.ofString "__class__") t)=pure (Str.ofString "__class__") from rfl) ?_)
 refine wpAny_bind (L0.at (wpAny_bind (L3.at ?_)))
 dsimp only
 show wpAny _ _ (do ret (←holding [Value.builtin "object.__class__"] (call (.builtin "getset_descriptor.__get__") [.builtin "object.__class__",.ref x,.ref D]))) _ _ _
 refine wpAny_bind (wpAny_holding (wpAny_call (PySem.W.class_get (ox:=ox) (od:=none) X I hm ?_)))
 exact wpAny_pure (PySem.W.handed_on rfl (wpAny_pure h))
end
section
variable {X:Cx}
structure zbW (K:PySem.W.Frag) (D:Addr):Prop where
 ga:PySem.W.findIn K (.ref D) "__getattribute__"=some (some (.builtin "BaseException.__getattribute__"))
 noga:PySem.W.findIn K (.ref D) "__getattr__"=some none
 be:PySem.W.mroIn K D (.type "BaseException")=some true
 hc:(PySem.W.clsIn K D).isSome=true
 ha:PySem.W.findIn K (.ref D) "__class__"=some (some (.builtin "object.__class__"))
 hn:PySem.W.specialIn K (.builtin "object.__class__") "__get__"=some (some (.builtin "getset_descriptor.__get__"))
 htk:PySem.W.takesIn K (.builtin "object.__class__")=some true
 hm:PySem.W.mroIn K D (.type "object")=some true
theorem TF {K:PySem.W.Frag} {x D:Addr} (e:zbW K D):PySem.W.KitX K (.ref x) (.ref D) (fun h=>∃ox,PySem.W.InstAt h x ox D none) where
 ty:=fun _ _ _ ⟨_,I⟩=>I.type
 it:=fun _ _ X _=>by
  obtain ⟨cd,hcd⟩:=Option.isSome_iff_exists.mp e.hc
  unfold PySem.W.clsIn at hcd
  split at hcd
  ·rename_i ho
   intro A' Q' E' s' k q
   unfold isType loadHead
   exact wpAny_bind (wpAny_loadPart (k _ _ (X _ _ ho)) (wpAny_pure q))
  ·cases hcd
 ne:=fun h tp dd its n sl X htp=>by
  obtain ⟨cd,hcd⟩:=Option.isSome_iff_exists.mp e.hc
  refine Bool.eq_false_iff.mpr fun q=> ?_
  have z:D=tp:=Value.ref.inj (beq_iff_eq.mp q)
  subst z
  unfold PySem.W.clsIn at hcd
  split at hcd
  ·rename_i ho
   have y:=(X _ _ ho).symm.trans htp
   cases y
  ·cases hcd
 ca:=fun {_ _ _ _ _ s} X I k=>by
  obtain ⟨ox,I⟩:=I
  obtain ⟨cd,hcd⟩:=Option.isSome_iff_exists.mp e.hc
  have hf:PySem.W.findObj K D none "__class__"=some (.bind (.builtin "getset_descriptor.__get__") (.builtin "object.__class__")):=by
   unfold PySem.W.findObj
   rw [hcd,Option.bind_some,e.ha,Option.bind_some]
   simp [e.hn,e.htk]
  exact UJ X I e.ga e.noga e.be hf e.hm k

inductive TyX (K:PySem.W.Frag) (H:Hp):V→Value→Prop where
 |of {x:V} {t:Value} (h:ZQ K H x t):TyX K H x t
 |exc {e D:Addr} (h:H e=some (zcs e (.ref D))) (k:zbW K D):TyX K H (.ref e) (.ref D)
 |sqt {a:Addr} {xs:List V} (h:SqT K H a xs):TyX K H (.ref a) (.type "tuple")
 |sql {a:Addr} {xs:List V} (h:SqL K H a xs):TyX K H (.ref a) (.type "list")
theorem TyX.kit {pins:List (Addr×Obj)} {σ:St} {H:Hp} {s:Shared} {x:V} {u t:Value} (I:Inv X pins σ H s) (rx:ye x u) (ty:TyX X.K H x t):∃Hh,PySem.W.KitX X.K u t Hh∧Hh s.heap:=by
 cases ty with
 |of ty=>
  cases ty with
  |non=>cases (show u=Value.none from rx);exact ⟨_,PySem.W.kitx_none,True.intro⟩
  |bl y=>cases (show u=Value.bool y from rx);exact ⟨_,PySem.W.kitx_bool,True.intro⟩
  |int i=>obtain ⟨t,q⟩:=(show ∃t,u=Value.int i t from rx);cases q;exact ⟨_,PySem.W.kitx_int,True.intro⟩
  |str y=>obtain ⟨t,q⟩:=(show ∃t,u=Value.str y t from rx);cases q;exact ⟨_,PySem.W.kitx_str,True.intro⟩
  |flt y=>obtain ⟨t,q⟩:=(show ∃t,u=Value.float y t from rx);cases q;exact ⟨_,PySem.W.kitx_float,True.intro⟩
  | @lst a xs ea=>
   cases (show u=Value.ref a from rx)
   obtain ⟨_,_,n,_,h1⟩:=(show yM X.prog X.w H s.heap a (.lst xs) from I.hok a _ ea)
   exact ⟨_,PySem.W.kitx_list,⟨_,h1,rfl⟩⟩
  | @frz a ob xs ea=>
   cases (show u=Value.ref a from rx)
   obtain ⟨_,_,_,n,_,h1⟩:=(show yM X.prog X.w H s.heap a (.frz ob (.lst xs)) from I.hok a _ ea)
   exact ⟨_,PySem.W.kitx_list,⟨_,h1,rfl⟩⟩
  | @tup a xs ea=>
   cases (show u=Value.ref a from rx)
   obtain ⟨_,_,_,p⟩:=(show yM X.prog X.w H s.heap a (.tup xs) from I.hok a _ ea)
   obtain ⟨o,h1,h2,_⟩:=p
   exact ⟨_,PySem.W.kitx_tuple,⟨o,h1,h2⟩⟩
  | @dK a kvs ea=>
   cases (show u=Value.ref a from rx)
   obtain ⟨_,_,vs,_,p⟩:=(show yM X.prog X.w H s.heap a (.dK kvs) from I.hok a _ ea)
   obtain ⟨o,es,ep,h1,h2,_⟩:=p
   exact ⟨_,PySem.W.kitx_dict,⟨o,h1,h2.1⟩⟩
  | @dT a kvs ea=>
   cases (show u=Value.ref a from rx)
   obtain ⟨_,_,xs,_,o,es,ep,h1,h2,_⟩:=(show yM X.prog X.w H s.heap a (.dT kvs) from I.hok a _ ea)
   exact ⟨_,PySem.W.kitx_dict,⟨o,h1,h2.1⟩⟩
  | @ins a C dx fs ea cl ha hn htk hm=>
   cases (show u=Value.ref a from rx)
   obtain ⟨mA,O,_⟩:=za6 I.hok ea
   obtain ⟨od,J,_⟩:=O.look
   exact ⟨_,PySem.W.kitx_own (cl.get _) cl.hd ha hn htk hm,J⟩
 | @sqt a xs h=>
  cases (show u=Value.ref a from rx)
  obtain ⟨its,_,⟨o,h1,h2,_⟩,_⟩:=I.tuple h
  exact ⟨_,PySem.W.kitx_tuple,⟨o,h1,h2⟩⟩
 | @sql a xs h=>
  cases (show u=Value.ref a from rx)
  obtain ⟨its,_,⟨o,n,h1,h2,_⟩,_⟩:=I.list h
  exact ⟨_,PySem.W.kitx_list,⟨o,h1,h2⟩⟩
 | @exc e D h k=>
  cases (show u=Value.ref e from rx)
  obtain ⟨⟨ob,h1,h2,h3,vs,h4⟩,_⟩:=(show yM X.prog X.w H s.heap e (zcs e (.ref D)) from I.hok e _ h)
  refine ⟨_,TF k,ob,h1,h2,?_,?_⟩
  ·unfold PySem.W.notCls
   rw [h4]
  ·rw [h3];trivial
noncomputable def zdm:V→Option Value
 | .ref a=>some (.ref a)
 | .ty n=>some (.type n)
 |_=>none
theorem TH {c:V} {cv u:Value} (h:zdm c=some cv) (r:ye c u):u=cv:=by
 cases c with
 |ref a=>cases h;exact r
 |ty n=>cases h;exact r
 |_=>cases h
theorem ye.nb {x:V} {u:Value} (r:ye x u):u≠ .builtin "__main__.__loader__#opaque":=by
 cases x with
 |non=>rintro rfl;cases r
 |bl b=>rintro rfl;cases r
 |int i=>rintro rfl;obtain ⟨_,q⟩:=r;cases q
 |str i=>rintro rfl;obtain ⟨_,q⟩:=r;cases q
 |byt i=>rintro rfl;obtain ⟨_,q⟩:=r;cases q
 |flt i=>rintro rfl;obtain ⟨_,q⟩:=r;cases q
 |ref a=>rintro rfl;cases r
 |ty a=>rintro rfl;cases r
noncomputable def zbj (K:PySem.W.Frag):List V→Hp→VK→Prop:=fun xs H Q=>∃x c cv t b,xs=[x,c]∧zdm c=some cv∧TyX K H x t∧PySem.W.kitOne K t cv=some b∧Q (.bl b) H
theorem TJ:vg X (.builtin "isinstance") (zbj X.K):=by
 intro pins s σ H xs us Q I r h
 obtain ⟨x,c,cv,t,b,rfl,hc,ty,e,q⟩:=h
 obtain ⟨u,w',rfl,ru,rw'⟩:=zde r
 obtain rfl:=TH hc rw'
 obtain ⟨Hh,Z,p⟩:=ty.kit I ru
 exact PySem.W.kia_one Z I.kIn p e ru.nb fun tk=>⟨.bl b,H,I.tok tk,rfl,q⟩
end
theorem vk {K:PySem.W.Frag} {t:Value}:PySem.W.kitOne K t t=some true:=by unfold PySem.W.kitOne;rw [if_pos (by simp)]
theorem XN {K:PySem.W.Frag}:PySem.W.kitOne K (.type "bool") (.type "int")=some true:=by
 have h:(fastBuiltinMro "bool").map (·.contains (.type "int"))=some true:=by decide+kernel
 have hm:PySem.W.kitMeta "int"=true:=by decide+kernel
 unfold PySem.W.kitOne PySem.W.kitCls
 rw [if_neg (by decide)]
 show (if PySem.W.kitMeta "int"=true then PySem.W.subIn K (.type "bool") (.type "int") else none)=_
 rw [if_pos hm]
 exact h
theorem XO {K:PySem.W.Frag}:PySem.W.kitOne K (.type "int") (.type "bool")=some false:=by
 have h:(fastBuiltinMro "int").map (·.contains (.type "bool"))=some false:=by decide+kernel
 have hm:PySem.W.kitMeta "bool"=true:=by decide+kernel
 unfold PySem.W.kitOne PySem.W.kitCls
 rw [if_neg (by decide)]
 show (if PySem.W.kitMeta "bool"=true then PySem.W.subIn K (.type "int") (.type "bool") else none)=_
 rw [if_pos hm]
 exact h
end L2
namespace L2
open PySem PySem.Spec PyProof.Rows

inductive D where
 |non|bl (b:Bool)|int (i:Int)|str (x:Str)|tup (l:List D)|lst (l:List D)|ins (C:Addr) (ns:List Str) (l:List D)
mutual
inductive Is (K:PySem.W.Frag) (H:Hp):V→D→Prop where
 |non:Is K H .non .non
 |bl (b:Bool):Is K H (.bl b) (.bl b)
 |int (i:Int):Is K H (.int i) (.int i)
 |str (x:Str):Is K H (.str x) (.str x)
 |tup {a:Addr} {xs:List V} {ds:List D}:SqT K H a xs→IsL K H xs ds→Is K H (.ref a) (.tup ds)
 |lst {a:Addr} {xs:List V} {ds:List D}:SqL K H a xs→IsL K H xs ds→Is K H (.ref a) (.lst ds)
 |ins {a C dx:Addr} {ns:List Str} {xs:List V} {ds:List D}:H a=some (.ins C dx (ns.zip xs))→ns.length=xs.length→IsL K H xs ds→Is K H (.ref a) (.ins C ns ds)
inductive IsL (K:PySem.W.Frag) (H:Hp):List V→List D→Prop where
 |nil:IsL K H [] []
 |cons {v:V} {d:D} {vs:List V} {ds:List D}:Is K H v d→IsL K H vs ds→IsL K H (v::vs) (d::ds)
end
theorem yZ {H:Hp} {p:Addr} {o:HO} (h:H p=none):ZS H (upd H p o):=fun b u e=>by rw [zH (xE e h)];exact e

noncomputable abbrev dQ (a b:Int):D:= .tup [.int a,.int b]


section
variable {σ:St} {H:Hp} {Q:VK} {ta tb tc:TE} {D':Zu} {v:V} {i:Nat}
end
local macro_rules | `(tactic| walk_at "rd") => `(tactic| repeat (first | refine i_seq ?_ | refine i_asg ?_ | refine i_gName ?_ | refine i_var rfl ?_ | refine i_c ?_ | refine i_op ?_ | refine i_I0 ?_ | refine i_U ?_ | refine i_un ?_ | refine i_cmp ?_ | refine i_2 ?_ | refine i_B ?_ | refine i_bl ?_ | refine i_not ?_ | refine i_and ?_ | refine i_or ?_ | refine i_andV ?_ | refine i_orV ?_ | refine i_notV ?_ | refine i_ifE ?_ | refine i_next ?_ | refine i_drop ?_ | refine i_ret ?_ | refine i_retN ?_ | refine i_ifS ?_ | refine i_nil ?_ | refine i_cons ?_ | refine i_call ?_ | refine i_CB ?_ | refine i_tup ?_ | refine i_lst ?_ | refine i_par ?_ | refine i_par2 ?_ | refine i_raise ?_))
end L2
namespace L2
open PySem PySem.Spec PyProof.Rows
section
variable {σ:St} {H:Hp} {Q:VK} {D':Zu} {E:XK}
end
theorem Fun.okE {P:Program} {w:World} {K:PySem.W.Frag} {mg:Str→Option Value} {base:Heap} {x qual:Str} {st:Stmt} {f:Addr} {fd:FuncData} {N ps:List Str} {k:Nat} {sp:Sp} (F:Fun K x qual st f fd) (S:yh N ps (zm st)) (len:∀vs H Q E,sp vs H Q E→vs.length=ps.length)
  (hbody:∀(cdv:Value) (A:Around) (outer:List Env) (s:Shared) (H:Hp) (vs:List V) (Q:VK) (E:XK),vb k (A.deeper (envOfC qual (zm st) s.heap.objs.size f cdv))→sp vs H Q E→
   ∃t,PSs (Wv (CXE P w) P w K mg base N qual (zm st) f cdv A outer s H E) (zY st) t∧t {nx:=fun _ H'=>Q .non H',rt:=Q} (vi N vs) H):yL P w K mg base (CXE P w) (k+1) f fd ps sp:=by
 obtain ⟨oc,od,kV,doc,pm,an,cdv,ct,osl,rfl,lk,hcd⟩:=F.ex
 exact zdh lk hcd S len fun A outer s H vs Q E hr hsp=>hbody cdv A outer s H vs Q E hr hsp
end L2
namespace L2
open PySem PySem.Spec PyProof.Rows
section
variable {σ:St} {H:Hp} {Q:VK} {D':Zu} {E:XK} {EX:Value→Hp→Prop}
end
end L2
namespace L2
open PySem PySem.Spec PyProof.Rows
section
variable {X:Cx} {K:PySem.W.Frag}
theorem zE (h:X.K=K:=by rfl):IxR X (zbe K):=h ▸ Ts
theorem Yn (h:X.K=K:=by rfl):IxR X (zbd K):=h ▸ Ud
theorem xt (h:X.K=K:=by rfl):vg X (.builtin "isinstance") (zbj K):=h ▸ TJ
theorem yV (h:X.K=K:=by rfl):vg X (.builtin "len") (fun xs H Q=>∃p ys,xs=[.ref p]∧(SqL K H p ys∨SqT K H p ys)∧Q (.int ys.length) H):=h ▸ XI
theorem ww (h:X.K=K:=by rfl):vg X (.type "tuple") (fun xs H Q=>∃p ys,xs=[.ref p]∧((SqL K H p ys∧∀l,H l=none→Q (.ref l) (upd H l (.tup ys)))∨(SqT K H p ys∧Q (.ref p) H))):=h ▸ YJ
theorem TK (h:X.K=K:=by rfl):SlR X (Tt K):=h ▸ zbf
variable {tg l:Expr} {tl:TE}
theorem WG (hl:PE X l tl) (h:X.K=K:=by rfl):PI X tg l (Tn K tl):=h ▸ za2 hl
theorem zbk (hl:PE X l tl) (h:X.K=K:=by rfl):PI X tg l (zch K tl):=h ▸ zci hl
theorem Uf {es:List Expr} {k:Nat} {t:TGs} {n:Nat} {pos:Pos} (hc:X.calm=true) (h:PGs X es t) (hK:X.K=K:=by rfl)
  (hn:(assignEach es X.env).length=n:=by rfl) (hst:(assignEach es X.env).findIdx? (·.1)=none:=by rfl):PG X (.Tuple es k pos) (zcd K n t):=hK ▸ zce hc h hn hst
theorem wx {sc:Scope}:xD X sc [] []:=trivial
theorem wy {sc:Scope} {r:List (Option Nat)} {n:List Str} {x:Str} (h:xD X sc r n):xD X sc (none::r) (x::n):=h
theorem yW {sc:Scope} {r:List (Option Nat)} {n:List Str} {x:Str} {i:Nat} (h1:X.N[i]? =some x) (h2:sc.names.lookup x=some .free) (h:xD X sc r n):xD X sc (some i::r) (x::n):=⟨⟨h1,h2⟩,h⟩
end
noncomputable def zbX (osc sc:Scope):Bool:=sc.names.all (fun y=>y.2 != .cell)&&sc.kind== .function&&sc.names.all (fun y=>y.2 != .local||sc.names.lookup y.1==some .local)&&
 sc.names.all (fun y=>y.2 != .free||(osc.names.lookup y.1==some .cell||osc.names.lookup y.1==some .free))
theorem blk {X:Cx} {osc sc:Scope} (hs:X.env.scope=osc) (h:zbX osc sc=true):vZ X sc:=by
 unfold zbX at h
 simp only [Bool.and_eq_true,List.all_eq_true,bne_iff_ne,ne_eq,beq_iff_eq,Bool.or_eq_true] at h
 obtain ⟨⟨⟨h1,h2⟩,h3⟩,h4⟩:=h
 refine ⟨h1,h2,fun y hy e=>(h3 y hy).resolve_left fun z=>z e,fun y hy e=> ?_⟩
 show X.env.scope.names.lookup y.1=_∨X.env.scope.names.lookup y.1=_
 rw [hs]
 exact (h4 y hy).resolve_left fun z=>z e
end L2
namespace L2
open PySem PySem.Spec PyProof.Rows
section
variable {g:TG} {tb:TS} {σ:St} {H:Hp} {nx:St→Hp→Prop} {rt:VK}
end
end L2
namespace L2
open PySem PySem.Spec PyProof.Rows

mutual
noncomputable def D.depth:D→Nat
 | .tup l=>D.depths l+1
 | .lst l=>D.depths l+1
 | .ins _ _ _=>1000
 |_=>0
noncomputable def D.depths:List D→Nat
 |[]=>0
 |d::r=>max (D.depth d) (D.depths r)
end
section
variable {X:Cx} {pins:List (Addr×Obj)} {σ:St} {H:Hp} {s:Shared}
end
end L2
namespace L2
open PySem PySem.Spec PyProof.Rows
section
variable {σ:St} {H:Hp} {Q:VK} {D':Zu} {cap:List (Option Nat)} {wi:TI} {g:TG} {tt:TT} {te:TE}
variable {acc:Addr} {H0:Hp} {Qh:Hp→Prop}
end
end L2
namespace L2
open PySem PySem.Spec PyProof.Rows
section
variable {X:Cx}
end
end L2
namespace L2
open PySem PySem.Spec PyProof.Rows
section
variable {X:Cx} {pins:List (Addr×Obj)} {σ:List (Option V)} {H H':Hp} {s:Shared} {h':Heap}
theorem Inv.turnedL {t':Nat} {fp:List Addr} (I:Inv X pins σ H s) (k:∀b o,b∉fp→s.heap.get? b=some o→h'.get? b=some o) (hf:∀b∈fp,Yd X pins H b):Inv X pins σ H {s with heap:=h',toks:=t'}:=by
 have nit:∀b u,H b=some u→b∉fp:=fun b u e z=>by rw [(hf b z).1] at e;cases e
 refine I.step (g':=s.gens) (d':=s.drawn) (ch:=fp) (fun b hb=> ?_) (fun b o _ _ hc e _=>k b o hc e) (fun b o _ _ hc e _=>⟨o.slots,k b o hc e⟩) (fun _ _ _ _ n=>n)
  (fun b o hc e=>⟨o,k b o hc e⟩) (fun _ _ e=>e) (fun _ _ _ e=>e) (fun b ps e=>⟨#[],by rw [e];simp⟩) (fun m hm=> ?_) (fun b u e=> ?_) I.bare
 ·obtain ⟨f0,f1,f2,f3,f4,f5⟩:=hf b hb
  exact ⟨f3,f1,f4,f5⟩
 ·obtain ⟨o,es,ep,ho,r⟩:=hm
  exact ⟨o,es,ep,k _ o (fun z=>(hf _ z).2.1 rfl) ho,r⟩
 ·refine (I.hok b u e).stay (fun c v hc q=>k c v ?_ q) (fun _ q=>q) fun _ _ q=>q
  rcases hc with z|z
  ·rw [z];exact nit b u e
  ·exact nit c _ z
theorem Inv.turnedT {t':Nat} {fp:List Addr} {ys:List V} {us:List Value} (I:Inv X pins σ H s) (hv:zK ys us) (hl:ys.length≤sizeLine) (k:∀b o,b∉fp→s.heap.get? b=some o→h'.get? b=some o)
  (hp:h'.get? s.heap.objs.size=some {cls:= .type "tuple",data:= .seq us.toArray}) (hf:∀b∈fp,Yd X pins H b) (hx:∀b∈fp,∃o,s.heap.get? b=some o):
  Inv X pins σ (upd H s.heap.objs.size (.tup ys)) {s with heap:=h',toks:=t'}∧H s.heap.objs.size=none∧∀b∈fp,upd H s.heap.objs.size (.tup ys) b=none:=by
 have fr:H s.heap.objs.size=none:=I.hok.fresh (Nat.le_refl _)
 have nb:∀b∈fp,b≠s.heap.objs.size:=fun b hb z=>by
  obtain ⟨o,e⟩:=hx b hb
  exact absurd (Heap.lt_size e) (by rw [z];exact Nat.lt_irrefl _)
 have fb:∀b∈fp,upd H s.heap.objs.size (.tup ys) b=none:=fun b hb=>by rw [zH (nb b hb)];exact (hf b hb).1
 have I0:Inv X pins σ (upd H s.heap.objs.size (.tup ys)) {s with heap:=s.heap.push {cls:= .type "tuple",data:= .seq us.toArray}}:=
  I.laid (t':=s.toks) (fun b o e=>Heap.get?_push_of_some _ e) (Nat.le_refl _) ⟨hl,us,hv,IsTup.new _ _⟩
 refine ⟨Inv.turnedL (s:={s with heap:=s.heap.push {cls:= .type "tuple",data:= .seq us.toArray}}) (t':=t') (fp:=fp) I0 (fun b o hb e=> ?_) (fun b hb=> ?_),fr,fb⟩
 ·by_cases z:b=s.heap.objs.size
  ·subst z
   rw [Heap.get?_push_size _ rfl] at e
   cases e
   exact hp
  ·refine k b o hb ?_
   rwa [Heap.get?_push_ne _ _ _ z] at e
 ·obtain ⟨f0,f1,f2,f3,f4,f5⟩:=hf b hb
  exact ⟨fb b hb,f1,f2,f3,f4,f5⟩
end
end L2
namespace L2
open PySem PySem.Spec PyProof.Rows
noncomputable def Ite (K:PySem.W.Frag) (a:Addr):It:=
 ⟨fun i H=>∃xs x,SqL K H a xs∧xs[i]? =some x,fun i H x H'=>∃p y,x= .ref p∧H p=none∧H'=upd H p (.tup [.int i,y])∧∀xs,SqL K H a xs→xs[i]? =some y,fun i H=>∃xs,SqL K H a xs∧xs.length≤i⟩
theorem UK {P:Program} {w:World} {K:PySem.W.Frag} {elts:List Expr} {k:Nat} {tp:Pos} (a e it:Addr) (hne:e≠it):
  Uy P w K (.Tuple elts k tp) (Ite K a) [e,it] e (fun i h=>(∃old,IsEnum h e it i old)∧h.IsListIter it a i) where
 mem:=by simp
 obj:=fun i h st b hb=>by
  obtain ⟨⟨old,he⟩,o,e',c,d⟩:=st
  rcases (by simpa using hb:b=e∨b=it) with rfl|rfl
  ·exact ⟨_,he,fun v z=>by cases z⟩
  ·exact ⟨o,e',fun v z=>by rw [d] at z;cases z⟩
 keep:=fun i h h' st k=>⟨let ⟨old,he⟩:=st.1;⟨old,k e (by simp) _ he⟩,st.2.at fun o e=>k it (by simp) o e⟩
 item:=by
  intro X hP hw hK hc i pins s σ H E I hf st hg
  subst hP hw hK
  obtain ⟨xs,x,hq,hx⟩:=hg
  obtain ⟨its,rv,p,hz⟩:=I.list hq
  obtain ⟨u,hu,ru⟩:=rv.get hx
  obtain ⟨⟨old,he⟩,hit⟩:=st
  refine wpAny_pyNext_enum_item he hit p.isList (x:=u) (by simpa using hu) hne fun h1 heo hit1 ht1 hz1 hk1=> ?_
  refine ⟨_,rfl,?_⟩
  refine wpAny_letOwnedTupleGo_enum (s:={s with heap:=h1,toks:=s.toks+1}) heo fun h2 he2 hs2=> ?_
  have hs2:Heap.SameBut e h1 h2:=hs2
  have ltE:e<s.heap.objs.size:=Heap.lt_size he
  have vv:zK [V.int i,x] [.int i s.toks,u]:= .cons ⟨_,rfl⟩ (.cons ru .nil)
  have T:=Inv.turnedT (h':=h2) (t':=s.toks+1) (fp:=[e,it]) I vv (by show 2≤sizeLine;decide) (fun b o hb eb=> ?_) ((hs2.2 _ (Nat.ne_of_gt ltE)).trans ht1) hf (fun b hb=> ?_)
  ·obtain ⟨I2,fr,fb⟩:=T
   exact ⟨.ref s.heap.objs.size,_,I2,rfl,⟨_,x,rfl,fr,rfl,fun ys hy=>by rw [I.list_inj hy hq];exact hx⟩,⟨⟨_,he2⟩,hit1.at fun o eo=>(hs2.2 it hne.symm).trans eo⟩,fb⟩
  ·have hb:b≠e∧b≠it:=by simpa using hb
   exact (hs2.2 b hb.1).trans (hk1 b o hb.1 hb.2 eb)
  ·obtain ⟨o,eo,_⟩:=hit
   rcases (by simpa using hb:b=e∨b=it) with rfl|rfl
   ·exact ⟨_,he⟩
   ·exact ⟨o,eo⟩
 done:=by
  intro X hP hw hK hc i pins s σ H E I hf st hg
  subst hP hw hK
  obtain ⟨xs,hq,hx⟩:=hg
  obtain ⟨its,rv,p,hz⟩:=I.list hq
  have hl:=rv.length
  obtain ⟨⟨old,he⟩,hit⟩:=st
  exact wpAny_pyNext_enum_end (I.ok.hd hc) he hit p.isList (by simp;omega) fun h' eb=>⟨rfl,Inv.turnedL (t':=s.toks) (fp:=[e,it]) I (fun b o hb eo=>eb b o (fun z=>hb (by simp [z])) eo) hf⟩
 self:=fun _ _ _ _ _ st h=>let ⟨⟨_,he⟩,_⟩:=st;wpAny_pyIter_enum he h
section
variable {X:Cx}
end
structure ZA (z TI TO i1 i2:Addr):Prop where
 TIz:TI≠z
 TOz:TO≠z
 i1z:i1≠z
 i2z:i2≠z
 TITO:TI≠TO
 TIi1:TI≠i1
 TIi2:TI≠i2
 TOi1:TO≠i1
 TOi2:TO≠i2
 i12:i1≠i2
section
variable {X:Cx}
end
section
variable {σ:St} {H:Hp} {cap:List (Option Nat)} {g:TG} {tt:TT} {te:TE} {acc:Addr} {H0:Hp} {Qh:Hp→Prop}
structure zd1 (J:It) (n:Nat) (f:Nat→Option (V×V)) (ok:Hp→Prop):Prop where
 go:∀i H,ok H→i<n→J.go i H
 stop:∀H,ok H→J.stop n H
 yld:∀i H x H',ok H→i<n→J.yld i H x H'→∃p u v,x= .ref p∧H p=none∧H'=upd H p (.tup [u,v])∧f i=some (u,v)
end
end L2
namespace L2
open PySem PySem.Spec PyProof.Rows
section
variable {σ:St} {H:Hp} {Q:VK} {D':Zu}
end
section
variable {σ:St} {H:Hp} {Q:VK}
end
end L2
namespace L2
open PySem PySem.Spec PyProof.Rows
open Classical in
noncomputable def frG (H H':Hp):Hp:=fun b=>match H' b with
 |some (.lst xs)=>if H b=none then some (.lst xs) else none
 |o=>o
noncomputable def Dom (H H':Hp):Prop:=∀b,H' b=none→H b=none
structure Acc (K:PySem.W.Frag) (H0:Hp) (acc:Addr) (ys:List V) (ds:List D) (H:Hp):Prop where
 at_:H acc=some (.lst ys)
 new:IsL K (frG (upd H0 acc (.lst [])) H) ys ds
 same:ZS H0 H
 dom:Dom (upd H0 acc (.lst [])) H
end L2
namespace L2
open PySem PySem.Spec PyProof.Rows
section
variable {X:Cx}
theorem Xk (ns:List Int):∀k,preSum (fun i=>ns.getD i 0) k=(ns.take k).sum
 |0=>by simp [preSum]
 |k+1=>by
  unfold preSum
  rw [Xk ns k,List.take_add_one,List.sum_append]
  cases h:ns[k]? <;>simp [List.getD_eq_getElem?_getD,h]
noncomputable def zdn (K:PySem.W.Frag):List V→Hp→VK→Prop:=fun xs H Q=>∃(p:Addr) (ns:List Int),xs=[.ref p]∧SqL K H p (ns.map V.int)∧Q (.int ns.sum) H
theorem UL {K:PySem.W.Frag} (hc:X.calm=true) (hK:X.K=K:=by rfl):vg X (.builtin "sum") (zdn K):=by
 subst hK
 intro pins s σ H xs us Q I r h
 obtain ⟨p,ns,rfl,hq,q⟩:=h
 obtain ⟨u,rfl,ru⟩:=Yf r
 cases ru
 obtain ⟨its,rv,pl,hz⟩:=I.list hq
 have lt:p<s.heap.objs.size:=by
  obtain ⟨o,n,e,_⟩:=id pl
  exact Heap.lt_size e
 have hl:=rv.length
 rw [List.length_map] at hl
 refine call_sum_walkAnyS (wpAny_pyIter_list pl.isList ?_)
 have W:=(Walks.list (prog:=X.prog) (w:=X.w) (A:=X.A.in1) (I.ok.hd hc) s.heap.objs.size p (Nat.ne_of_lt lt) its.toArray).toS
 refine ⟨s.heap.objs.size,_,_,_,_,_,_,fun i=>ns.getD i 0,rfl,W,?_,?_,?_,?_⟩
 ·exact ⟨⟨_,Heap.get?_push_size _ rfl,rfl,rfl⟩,Heap.IsList.push pl.isList _⟩
 ·intro b hb
  rw [Heap.size_push]
  rcases (by simpa using hb:b=s.heap.objs.size∨b=p) with rfl|rfl
  ·exact Nat.lt_succ_self _
  ·exact Nat.lt_succ_of_lt lt
 ·intro i v hv
  have hv:its[i]? =some v:=by simpa using hv
  have hi:i<ns.length:=by rw [hl];exact (List.getElem?_eq_some_iff.1 hv).1
  obtain ⟨u,hu,t,ru⟩:=rv.get (i:=i) (x:=V.int ns[i]) (by rw [List.getElem?_map,List.getElem?_eq_getElem hi];rfl)
  rw [hu] at hv
  cases hv
  refine ⟨t,?_⟩
  rw [ru]
  show Value.int ns[i] t=Value.int (ns.getD i 0) t
  rw [List.getD_eq_getElem?_getD,List.getElem?_eq_getElem hi,Option.getD_some]
 ·intro s' t' m
  have I1:Inv X pins σ H {s with heap:=s'.heap,toks:=s'.toks}:=I.kept fun b o e=>m.heap b o (fun z=>by
   have z:b=s.heap.objs.size:=by simpa using z
   exact absurd (Heap.lt_size e) (by rw [z];exact Nat.lt_irrefl _)) (Heap.get?_push_of_some _ e)
  have e:({s with heap:=s'.heap,toks:=s'.toks}:Shared)=s':=by
   have h1:=m.gens
   have h2:=m.drawn
   have h3:=m.os
   cases s'
   simp only at h1 h2 h3
   subst h1 h2 h3
   rfl
  rw [e] at I1
  refine ⟨.int ns.sum,H,I1,⟨t',?_⟩,q⟩
  rw [Xk]
  have:its.toArray.size=ns.length:=by rw [List.size_toArray,←hl]
  rw [this,List.take_length]
end
section
variable {σ:St} {H:Hp} {Q:VK}
end
end L2
namespace L2
open PySem PySem.Spec PyProof.Rows
section
variable {σ:St} {H:Hp} {v:V}
end
end L2
namespace L2
open PySem PySem.Spec PyProof.Rows PyProof
section
variable {X:Cx}
theorem zct {K:PySem.W.Frag} {a b:String} (h1:(Value.type a==Value.type b)=false) (h:(fastBuiltinMro a).map (·.contains (.type b))=some false) (hm:PySem.W.kitMeta b=true) (hs:PySem.W.subIn K (.type a) (.type b)=(fastBuiltinMro a).map (·.contains (.type b))):PySem.W.kitOne K (.type a) (.type b)=some false:=by
 unfold PySem.W.kitOne PySem.W.kitCls
 rw [if_neg (by rw [h1];decide)]
 show (if PySem.W.kitMeta b=true then PySem.W.subIn K (.type a) (.type b) else none)=_
 rw [if_pos hm,hs,h]
end
end L2
namespace L2
open PySem PySem.Spec PyProof.Rows
open AutoSeq1 (wpAny_loadPart')
section
variable {prog:Program} {w:World} {A:Around} {E:Value→Shared→Prop} {s:Shared}
theorem Vr {h h':Heap} {a t:Addr} {i:Nat} (x:IsTupIter h a t i) (e:∀o,h.get? a=some o→h'.get? a=some o):IsTupIter h' a t i:=let ⟨o,ho,r⟩:=x;⟨o,e o ho,r⟩
theorem zdo {it t:Addr} {i:Nat} {its:Array Value} {x:Value} {Q:Value→Shared→Prop} (hit:IsTupIter s.heap it t i) (ht:IsTup s.heap t its) (hx:its[i]? =some x)
  (q:∀h',IsTupIter h' it t (i+1)→Heap.SameBut it s.heap h'→Q x {s with heap:=h'}):wpAny (model prog w) A (Builtin.SmallTypes.nextOf (.ref it)) Q E s:=by
 obtain ⟨io,hio,ic,ida⟩:=id hit
 obtain ⟨tob,hto,_,tn,tda⟩:=ht
 unfold Builtin.SmallTypes.nextOf
 refine wpAny_bind (wpAny_callSpecial?_slot (name:=Str.ofString "__next__") hit.typeIs slot_tupleiter_next (wpAny_call_entry slot_tupleiter_next hit.typeIs entry_tupleiter_next ?_ (args_tupleiter_next _)))
 refine wpAny_bind (m:=field (.ref it) 0) (wpAny_field hio ida (x:= .ref t) rfl ?_)
 show wpAny _ _ (if (Value.ref t==Value.none)=true then _ else _) _ _ s;rw [if_neg (show ¬((Value.ref t==Value.none)=true) from Bool.false_ne_true)]
 refine wpAny_bind (m:=field (.ref it) 1) (wpAny_field hio ida (x:= .int i 0) rfl ?_)
 refine wpAny_bind (m:=seqItems? (.ref t)) (wpAny_seqItems hto tda ?_)
 simp only [Int.toNat_natCast,hx]
 refine wpAny_bind (wpAny_setField hio ida (by simp) (wpAny_pure ⟨x,rfl,wpAny_pure (q _ ⟨_,Heap.get?_update_self _ hio (Obj.isFreed_of_fields (Obj.data_mapFields ida _)),(Obj.cls_mapFields ..).trans ic,?_⟩ (Heap.SameBut.update ..))⟩))
 rw [Obj.data_mapFields ida]
 simp [rawInt]
theorem Xl {it t:Addr} {i:Nat} {its:Array Value} {Q:Value→Shared→Prop} (hh:A.handled=none) (hit:IsTupIter s.heap it t i) (ht:IsTup s.heap t its) (hx:its[i]? =none)
  (q:∀h' e,Heap.ExtBut it s.heap h'→(∃o,h'.get? e=some o∧o.cls= .type "StopIteration")→E (.ref e) {s with heap:=h'}):wpAny (model prog w) A (Builtin.SmallTypes.nextOf (.ref it)) Q E s:=by
 obtain ⟨io,hio,ic,ida⟩:=id hit
 obtain ⟨tob,hto,_,tn,tda⟩:=ht
 unfold Builtin.SmallTypes.nextOf
 refine wpAny_bind (wpAny_callSpecial?_slot (name:=Str.ofString "__next__") hit.typeIs slot_tupleiter_next (wpAny_call_entry slot_tupleiter_next hit.typeIs entry_tupleiter_next ?_ (args_tupleiter_next _)))
 refine wpAny_bind (m:=field (.ref it) 0) (wpAny_field hio ida (x:= .ref t) rfl ?_)
 show wpAny _ _ (if (Value.ref t==Value.none)=true then _ else _) _ _ s;rw [if_neg (show ¬((Value.ref t==Value.none)=true) from Bool.false_ne_true)]
 refine wpAny_bind (m:=field (.ref it) 1) (wpAny_field hio ida (x:= .int i 0) rfl ?_)
 refine wpAny_bind (m:=seqItems? (.ref t)) (wpAny_seqItems hto tda ?_)
 simp only [Int.toNat_natCast,hx]
 refine wpAny_bind (wpAny_rule (wpAny_bind (wpAny_setField hio ida (by simp) ?_)))
 refine wpAny_bind (m:=newExc (.type "StopIteration") []) ?_
 simp only [newExc,newTuple]
 refine wpAny_bind (wpAny_newObj_type ?_ (by size_fits));refine wpAny_bind (m:=firstArgMember _ _) (wpAny_of_eq (a:=Value.none) (by first|rfl|(simp only [firstArgMember];rfl)) ?_);refine wpAny_newObj_type ?_ (by size_fits)
 simp only [raiseNew]
 refine wpAny_bind (wpAny_handled ?_);(first|rw [show A.in1.handled=none from hh]|rw [hh])
 exact wpAny_bind (wpAny_pure (wpAny_throw (q _ _ (((Heap.SameBut.update ..).extBut.push _).push _) ⟨_,Heap.get?_push_size _ rfl,rfl⟩)))
theorem zcu (hh:A.handled=none) (it t:Addr) (hne:t≠it) (its:Array Value):Draws prog w A it [it,t] its.size (fun i v=>its[i]? =some v) (fun i h=>IsTupIter h it t i∧IsTup h t its) where
 live:=fun _ _ st=>let ⟨o,ho,_⟩:=st.1;⟨o,ho⟩
 frame:=fun _ _ _ st hk=>⟨Vr st.1 fun o e=>hk it (by simp) o e,let ⟨o,ho,r⟩:=st.2;⟨o,hk t (by simp) o ho,r⟩⟩
 item:=fun i s Q E hi st hQ=>zdo st.1 st.2 (x:=its[i]) (by simp [hi]) fun h' hit' hs'=>hQ _ h' s.toks (by simp [hi]) ⟨hit',st.2.extBut hs'.extBut hne⟩ hs'
 done:=fun s Q E st hE=>Xl hh st.1 st.2 (by simp) hE
theorem WH (t:Addr) (its:Array Value) (n:Nat) (dct:Option Addr) (sl:Array (Option Value)):
  Meets (Builtin.«enumerate.__new__» ⟨[.type "enumerate",.ref t],[]⟩) (fun _ R s=>s.heap.get? t=some {cls:= .type "tuple",dict:=dct,data:= .seq its n,slots:=sl}∧
   R (.ok (.ret (.ref (s.heap.push {cls:= .type "tuple_iterator",data:= .fields #[.ref t,.int 0 0]}).objs.size)))
    {s with heap:=(s.heap.push {cls:= .type "tuple_iterator",data:= .fields #[.ref t,.int 0 0]}).push {cls:= .type "enumerate",data:= .fields #[.none,.bool false,.ref s.heap.objs.size,rawInt 0,.none,.none]}}):=
 .of_wp fun prog w A R s h=>by
  obtain ⟨hp,g,d,tk,os⟩:=s
  obtain ⟨ht,h⟩:=h
  have hsub:=sub_enumerate
  have hT:IsTup (Shared.heap ⟨hp,g,d,tk,os⟩) t its:=⟨_,ht,rfl,n,rfl⟩
  wp_walk using wpAny_loadPart' ht
  refine wpAny_stack_any fun st=>wpAny_pure ?_
  split
  ·rename_i c _ _ _ _ _
   cases (c==Value.type "enumerate")<;>(wp_walk using wpAny_loadPart' ht,iter_tuple hT;exact ⟨_,rfl,h⟩)
  ·wp_walk using wpAny_loadPart' ht,iter_tuple hT
   exact ⟨_,rfl,h⟩
theorem Vs {t:Addr} {its:Array Value} {Q:Value→Shared→Prop} (hT:IsTup s.heap t its)
  (h:∀h',IsEnum h' (s.heap.objs.size+1) s.heap.objs.size 0 .none→IsTupIter h' s.heap.objs.size t 0→h'.objs.size=s.heap.objs.size+2→(∀b o,s.heap.get? b=some o→h'.get? b=some o)→Q (.ref (s.heap.objs.size+1)) {s with heap:=h'}):
  wpAny (model prog w) A (call (.type "enumerate") [.ref t]) Q E s:=by
 obtain ⟨⟨c,dct,dt,sl⟩,ht,hc,n,hd⟩:=hT
 replace hc:c= .type "tuple":=hc
 replace hd:dt= .seq its n:=hd
 subst hc hd
 refine callType_new F.called_enumerate (by decide) (F.typeCall_enumerate_1 _) (F.newCall_enumerate_1 _) (fun obj=>F.args_object_init_2 obj _) F.entry_enumerate_new (WH t its n dct sl) ⟨ht,?_⟩
 have hz:(s.heap.push {cls:= .type "tuple_iterator",data:= .fields #[.ref t,.int 0 0]}).objs.size=s.heap.objs.size+1:=Heap.size_push ..
 have he:=Heap.get?_push_size (s.heap.push {cls:= .type "tuple_iterator",data:= .fields #[.ref t,.int 0 0]}) (o:={cls:= .type "enumerate",data:= .fields #[.none,.bool false,.ref s.heap.objs.size,rawInt 0,.none,.none]}) rfl
 show _∧_
 rw [hz] at he ⊢
 exact ⟨⟨_,he,rfl⟩,h _ he ⟨_,Heap.get?_push_of_some _ (Heap.get?_push_size _ rfl),rfl,rfl⟩ (by rw [Heap.size_push,hz]) fun b o x=>Heap.get?_push_of_some _ (Heap.get?_push_of_some _ x)⟩
end
noncomputable def zdp (K:PySem.W.Frag) (a:Addr):It:=
 ⟨fun i H=>∃xs x,SqT K H a xs∧xs[i]? =some x,fun i H x H'=>∃p y,x= .ref p∧H p=none∧H'=upd H p (.tup [.int i,y])∧∀xs,SqT K H a xs→xs[i]? =some y,fun i H=>∃xs,SqT K H a xs∧xs.length≤i⟩
theorem zbl {X:Cx} {pins:List (Addr×Obj)} {σ:St} {H:Hp} {s:Shared} {a:Addr} {xs ys:List V} (I:Inv X pins σ H s) (h1:SqT X.K H a xs) (h2:SqT X.K H a ys):xs=ys:=I.tuple_inj h1 h2
theorem Vt {P:Program} {w:World} {K:PySem.W.Frag} {elts:List Expr} {k:Nat} {tp:Pos} (a e it:Addr) (hne:e≠it):
  Uy P w K (.Tuple elts k tp) (zdp K a) [e,it] e (fun i h=>(∃old,IsEnum h e it i old)∧IsTupIter h it a i) where
 mem:=by simp
 obj:=fun i h st b hb=>by
  obtain ⟨⟨old,he⟩,o,e',c,d⟩:=st
  rcases (by simpa using hb:b=e∨b=it) with rfl|rfl
  ·exact ⟨_,he,fun v z=>by cases z⟩
  ·exact ⟨o,e',fun v z=>by rw [d] at z;cases z⟩
 keep:=fun i h h' st k=>⟨let ⟨old,he⟩:=st.1;⟨old,k e (by simp) _ he⟩,Vr st.2 fun o e=>k it (by simp) o e⟩
 item:=by
  intro X hP hw hK hc i pins s σ H E I hf st hg
  subst hP hw hK
  obtain ⟨xs,x,hq,hx⟩:=hg
  obtain ⟨its,rv,p,hz⟩:=I.tuple hq
  obtain ⟨u,hu,ru⟩:=rv.get hx
  obtain ⟨⟨old,he⟩,hit⟩:=st
  obtain ⟨oi,hoi,ci,_⟩:=id hit
  obtain ⟨ot,hot,ct,_⟩:=id p
  have nai:a≠it:=fun z=>by subst z;rw [hoi] at hot;cases hot;rw [ci] at ct;exact absurd ct (by decide)
  have nae:e≠a:=fun z=>by subst z;rw [he] at hot;cases hot;exact absurd (show Value.type "enumerate"= .type "tuple" from ct) (by decide)
  have hi:i<its.toArray.size:=by have:=(List.getElem?_eq_some_iff.1 hu).1;simpa using this
  refine wpAny_pyNext_enum_itemD (zcu (prog:=X.prog) (w:=X.w) (A:=X.A.in1) (I.ok.hd hc) it a nai its.toArray) he ⟨hit,p⟩ hi hne (by simp [hne,nae]) fun y h1 tk hP heo hst1 ht1 hz1 hk1=> ?_
  have hy:y=u:=by
   have:its.toArray[i]? =some u:=by simpa using hu
   rw [this] at hP
   exact (Option.some.inj hP).symm
  subst hy
  refine ⟨_,rfl,?_⟩
  refine wpAny_letOwnedTupleGo_enum (s:={s with heap:=h1,toks:=tk+1}) heo fun h2 he2 hs2=> ?_
  have hs2:Heap.SameBut e h1 h2:=hs2
  have ltE:e<s.heap.objs.size:=Heap.lt_size he
  have vv:zK [V.int i,x] [.int i tk,y]:= .cons ⟨_,rfl⟩ (.cons ru .nil)
  have T:=Inv.turnedT (h':=h2) (t':=tk+1) (fp:=[e,it]) I vv (by show 2≤sizeLine;decide) (fun b o hb eb=> ?_) ((hs2.2 _ (Nat.ne_of_gt ltE)).trans ht1) hf (fun b hb=> ?_)
  ·obtain ⟨I2,fr,fb⟩:=T
   exact ⟨.ref s.heap.objs.size,_,I2,rfl,⟨_,x,rfl,fr,rfl,fun ys hy=>by rw [zbl I hy hq];exact hx⟩,⟨⟨_,he2⟩,Vr hst1.1 fun o eo=>(hs2.2 it hne.symm).trans eo⟩,fb⟩
  ·have hb:b≠e∧b≠it:=by simpa using hb
   exact (hs2.2 b hb.1).trans (hk1 b o hb.1 hb.2 eb)
  ·rcases (by simpa using hb:b=e∨b=it) with rfl|rfl
   ·exact ⟨_,he⟩
   ·exact ⟨oi,hoi⟩
 done:=by
  intro X hP hw hK hc i pins s σ H E I hf st hg
  subst hP hw hK
  obtain ⟨xs,hq,hx⟩:=hg
  obtain ⟨its,rv,p,hz⟩:=I.tuple hq
  have hl:=rv.length
  obtain ⟨⟨old,he⟩,hit⟩:=st
  have hT:s.TypeIs (.ref e) "enumerate":=⟨_,he,rfl⟩
  unfold pyNext
  refine wpAny_bind (wpAny_attempt (wpAny_callSpecial?_slot (name:=Str.ofString "__next__") hT F.slot_enumerate_next (wpAny_call_entry F.slot_enumerate_next hT F.entry_enumerate_next ?_ (F.args_enumerate_next_1 _))))
  refine wpAny_bind (m:=field (.ref e) 2) (wpAny_field he rfl (x:= .ref it) rfl ?_)
  refine wpAny_bind (Xl (I.ok.hd hc) hit p (by simp;omega) fun h' ex he' hx'=> ?_)
  obtain ⟨oe,hoe,hce⟩:=hx'
  refine wpAny_bind (wpAny_isInstance (T:="StopIteration") (b:=true) ⟨oe,hoe,hce⟩ isSubtype_stop (wpAny_pure ?_))
  exact ⟨rfl,Inv.turnedL (t':=s.toks) (fp:=[e,it]) I (fun b o hb eo=>he' b o (fun z=>hb (by simp [z])) eo) hf⟩
 self:=fun _ _ _ _ _ st h=>let ⟨⟨_,he⟩,_⟩:=st;wpAny_pyIter_enum he h
section
variable {X:Cx}
end
end L2
namespace L2
open PySem PySem.Spec PyProof.Rows
section
variable {prog:Program} {w:World} {A:Around} {E:Value→Shared→Prop} {s:Shared}
noncomputable abbrev zT1 (h:Heap) (l1:Addr):Heap:=h.push {cls:= .type "tuple_iterator",data:= .fields #[.ref l1,.int 0 0]}
noncomputable abbrev zT2 (h:Heap) (l1 l2:Addr):Heap:=(zT1 h l1).push {cls:= .type "tuple_iterator",data:= .fields #[.ref l2,.int 0 0]}
noncomputable abbrev zT3 (h:Heap) (l1 l2:Addr):Heap:=(zT2 h l1 l2).push {cls:= .type "tuple",data:= .seq #[.ref h.objs.size,.ref (zT1 h l1).objs.size]}
noncomputable abbrev zT4 (h:Heap) (l1 l2:Addr):Heap:=(zT3 h l1 l2).push {cls:= .type "tuple",data:= .seq #[.none,.none]}
noncomputable abbrev zT5 (h:Heap) (l1 l2:Addr):Heap:=(zT4 h l1 l2).push {cls:= .type "zip",data:= .fields #[.none,.bool false,.bool false,.ref (zT2 h l1 l2).objs.size,.ref (zT3 h l1 l2).objs.size]}
end
section
variable {X:Cx}
end
end L2
namespace L2
open PySem PySem.Spec PyProof.Rows
mutual
noncomputable def D.small (n:Nat):D→Prop
 | .int i=>i.natAbs<2^n
 | .tup l=>D.smalls n l
 | .lst l=>D.smalls n l
 | .non=>True
 | .bl _=>True
 | .str _=>False
 | .ins _ _ _=>False
noncomputable def D.smalls (n:Nat):List D→Prop
 |[]=>True
 |d::r=>D.small n d∧D.smalls n r
end
mutual
noncomputable def D.wt (n:Nat):D→Nat
 | .tup l=>D.wts n l
 | .lst l=>D.wts n l
 | .int _=>n
 |_=>0
noncomputable def D.wts (n:Nat):List D→Nat
 |[]=>0
 |d::r=>D.wt n d+1+D.wts n r
end
section
variable {X:Cx} {pins:List (Addr×Obj)} {σ:St} {H:Hp} {s:Shared}
end
structure zdX (n:Nat) (d:D):Prop where
 seq:∃l,d= .tup l∨d= .lst l
 small:D.small n d
 n0:8≤n
 n1:n≤1900
 deep:D.depth d≤40
 size:(n+3)*D.wt n d+n+1≤16777216
section
variable {X:Cx}
end
end L2
namespace L2
open PySem PySem.Spec PyProof.Rows
noncomputable abbrev zdq (t:Addr) (i:Int):Obj:={cls:= .type "reversed",data:= .fields #[.ref t,rawInt i]}
noncomputable abbrev zd4 (h:Heap) (a t:Addr) (i:Int):Prop:=h.get? a=some (zdq t i)
section
variable {prog:Program} {w:World} {A:Around} {E:Value→Shared→Prop} {s:Shared}
end
section
variable {X:Cx} {tg:Expr}
noncomputable def zbY (K:PySem.W.Frag):R2:=fun x y H Q=>∃a b xs ys,x= .ref a∧y= .ref b∧SqT K H a xs∧SqT K H b ys∧xs.length+ys.length≤sizeLine∧(xs=[]→Q (.ref b) H)∧(xs≠[]→ys=[]→Q (.ref a) H)∧(xs≠[]→ys≠[]→∀p,H p=none→Q (.ref p) (upd H p (.tup (xs++ys))))
theorem XQ {K:PySem.W.Frag} (hK:X.K=K:=by rfl):OpR X (binaryOp .Add) (zbY K):=by
 subst hK
 intro pins s σ H x y v u Q I rx ry h
 obtain ⟨a,b,xs,ys,e1,e2,ha,hb,hz,q1,q2,q3⟩:=h
 by_cases hx:xs=[]
 ·subst e1 e2
  cases rx
  cases ry
  obtain ⟨its,r1,p1,_⟩:=I.tuple ha
  obtain ⟨its2,r2,p2,_⟩:=I.tuple hb
  obtain ⟨⟨cls,dd,data,sl⟩,ho,hc,n,hd⟩:=id p1
  obtain ⟨⟨cls2,dd2,data2,sl2⟩,ho2,hc2,n2,hd2⟩:=id p2
  simp only at hc hd hc2 hd2
  subst hc hd hc2 hd2
  exact concat_meets ⟨_,ho,rfl⟩ ⟨_,ho2,rfl⟩ noFill_tuple_add seq_tuple_add PySem.F.slot_tuple_add PySem.F.entry_tuple_add (PySem.F.args_tuple_add_2 _ _) (tuple_addW0 a b its.toArray its2.toArray n n2 dd dd2 sl sl2 (by have:=r1.nil_iff.mpr hx;simp [this])) ⟨ho,ho2,⟨.ref b,H,I,rfl,q1 hx⟩⟩
 ·exact zba pins s σ H x y v u Q I rx ry ⟨a,b,xs,ys,e1,e2,ha,hb,hx,hz,q2 hx,q3 hx⟩
end
end L2
namespace L2
open PySem PySem.Spec PyProof.Rows PyProof
section
variable {X:Cx}
end
end L2
namespace L2
open PySem PySem.Spec PyProof.Rows
section
variable {X:Cx}
noncomputable def zdr (K:PySem.W.Frag):List V→Hp→VK→Prop:=fun xs H Q=>∃(p:Addr) (bs:List Bool),xs=[.ref p]∧SqL K H p (bs.map V.bl)∧Q (.bl (bs.all id)) H
theorem UM:∀(bs:List Bool),(List.range bs.length).all (fun i=>bs.getD i false)=bs.all id:=fun bs=>by
 rw [Bool.eq_iff_iff,List.all_eq_true,List.all_eq_true]
 constructor
 ·intro h b hb
  obtain ⟨i,hi,e⟩:=List.mem_iff_getElem.1 hb
  have:=h i (List.mem_range.2 hi)
  rw [List.getD_eq_getElem?_getD,List.getElem?_eq_getElem hi,Option.getD_some,e] at this
  exact this
 ·intro h i hi
  have hi:=List.mem_range.1 hi
  rw [List.getD_eq_getElem?_getD,List.getElem?_eq_getElem hi,Option.getD_some]
  exact h _ (List.getElem_mem hi)
theorem Vu {pins:List (Addr×Obj)} {σ:St} {H:Hp} {s:Shared} {p:Addr} {bs:List Bool} (hc:X.calm=true) (I:Inv X pins σ H s) (hq:SqL X.K H p (bs.map V.bl)) {R:Value→Shared→Prop}
  (k:∀Ia fp wr G n P St tr (s₂:Shared),WalksS X.prog X.w X.A.in1 Ia fp wr G n P St→St 0 s₂→TruthOf X.prog X.w X.A.in1 P tr→n=bs.length→(tr=fun i=>bs.getD i false)→(∀s',Moved wr G s₂ s'→Inv X pins σ H s')→R (.ref Ia) s₂):
  wpAny (model X.prog X.w) X.A.in1 (pyIter (.ref p)) R X.xe s:=by
 obtain ⟨its,rv,pl,hz⟩:=I.list hq
 have lt:p<s.heap.objs.size:=by
  obtain ⟨o,n,e,_⟩:=id pl
  exact Heap.lt_size e
 have hl:=rv.length
 rw [List.length_map] at hl
 refine wpAny_pyIter_list pl.isList ?_
 have W:=(Walks.list (prog:=X.prog) (w:=X.w) (A:=X.A.in1) (I.ok.hd hc) s.heap.objs.size p (Nat.ne_of_lt lt) its.toArray).toS
 refine k s.heap.objs.size _ _ _ _ _ _ (fun i=>bs.getD i false) _ W ?_ ?_ ?_ rfl ?_
 ·exact ⟨⟨_,Heap.get?_push_size _ rfl,rfl,rfl⟩,Heap.IsList.push pl.isList _⟩
 ·intro i v s Q E hv hQ
  have hv:its[i]? =some v:=by simpa using hv
  have hi:i<bs.length:=by rw [hl];exact (List.getElem?_eq_some_iff.1 hv).1
  obtain ⟨u,hu,ru⟩:=rv.get (i:=i) (x:=V.bl bs[i]) (by rw [List.getElem?_map,List.getElem?_eq_getElem hi];rfl)
  have e0:u=v:=by
   rw [hu] at hv
   exact Option.some.inj hv
  have ru:u=Value.bool bs[i]:=ru
  rw [←e0,ru]
  refine wpAny_truthy_bool ?_
  have e:bs.getD i false=bs[i]:=by rw [List.getD_eq_getElem?_getD,List.getElem?_eq_getElem hi,Option.getD_some]
  rw [←e]
  exact hQ
 ·rw [List.size_toArray,←hl]
 ·intro s' m
  have I1:Inv X pins σ H {s with heap:=s'.heap,toks:=s'.toks}:=I.kept fun b o e=>m.heap b o (fun z=>by
   have z:b=s.heap.objs.size:=by simpa using z
   exact absurd (Heap.lt_size e) (by rw [z];exact Nat.lt_irrefl _)) (Heap.get?_push_of_some _ e)
  have e:({s with heap:=s'.heap,toks:=s'.toks}:Shared)=s':=by
   have h1:=m.gens
   have h2:=m.drawn
   have h3:=m.os
   cases s'
   simp only at h1 h2 h3
   subst h1 h2 h3
   rfl
  rw [e] at I1
  exact I1
theorem Xm {K:PySem.W.Frag} (hc:X.calm=true) (hK:X.K=K:=by rfl):vg X (.builtin "all") (zdr K):=by
 subst hK
 intro pins s σ H xs us Q I r h
 obtain ⟨p,bs,rfl,hq,q⟩:=h
 obtain ⟨u,rfl,ru⟩:=Yf r
 cases ru
 refine call_all_walkS (Vu hc I hq fun Ia fp wr G n P St tr s₂ W h0 ht hn htr hm=>⟨Ia,fp,wr,G,n,P,St,tr,rfl,W,h0,ht,fun s' m=>⟨.bl _,H,hm s' m,rfl,?_⟩⟩)
 rw [hn,htr,UM]
 exact q
theorem Inv.lstR {pins:List (Addr×Obj)} {σ:St} {H:Hp} {s:Shared} {l:Addr} {xs:List V} (I:Inv X pins σ H s) (hH:SqX X.K H l xs):xs.length≤sizeLine∧∃(its:List Value) (n:Nat),zK xs its∧xs.length=its.length∧s.heap.get? l=some {cls:= .type "list",data:= .seq its.toArray n}:=by
 rcases hH with hH|⟨its,n,hk,hz,r⟩
 ·obtain ⟨z,its,n,r,e⟩:=hH.ok I.hok
  exact ⟨z,its,n,r,r.length,e⟩
 ·have hl:=r.length
  have hl2:its.toList.length=its.size:=Array.length_toList
  exact ⟨by omega,its.toList,n,r,r.length,I.kIn l _ hk⟩
end
end L2
namespace L2
open PySem PySem.Spec PyProof.Rows
theorem UN:typeLookup (.type "list_reverseiterator") "__len__"=pure none:=by rw [typeLookup_type,builtinLookup_eq_fast];kernel_rfl
theorem TL:typeLookup (.type "list_reverseiterator") "__length_hint__"=pure (some (.builtin "list_reverseiterator.__length_hint__")):=by rw [typeLookup_type,builtinLookup_eq_fast];kernel_rfl
section
variable {prog:Program} {w:World} {A:Around} {E:Value→Shared→Prop} {s:Shared}
theorem Vv {R:Result→Shared→Prop} (hh:A.handled=none) {it l:Addr} {items:Array Value} (hn:items.size≤sizeLine) (S:Addr) (res:Value) (c₀:Nat) (hS:s.heap.get? S=some {cls:= .type "list",data:= .seq #[] c₀})
  (hit:s.heap.IsRevIter it l ((items.size:Int)-1)) (hl:s.heap.IsList l items) (hil:l≠it) (hSI:S≠it) (hSl:S≠l)
  (hR:∀h' tk acc' c',(∀b o,b≠S→b≠it→s.heap.get? b=some o→h'.get? b=some o)→h'.get? S=some {cls:= .type "list",dict:=none,data:= .seq acc' c',slots:= #[]}→
   ItemsOf (fun i v=>items[items.size-1-i]? =some v) acc' items.size→R (.ok (.ret res)) {s with heap:=h',toks:=tk}):
  wpAny (model prog w) A.in1 (Builtin.List.listExtendWith (.ref S) (.ref it) res)
   (fun fin s'=>match fin with| .done f=>R (.ok f) s'| .again c'=>c'.quiet=true∧codeAny (model prog w) A c' R s') (fun e s'=>R (.error e) s') s:=by
 have hSf:S∉[it,l]:=fun hm=>by
  rcases List.mem_cons.mp hm with e|hm
  ·exact hSI e
  ·exact hSl (List.mem_singleton.mp hm)
 have W:=(Walks.listRev (prog:=prog) (w:=w) (A:=A.in1) hh it l hil items).toS
 have hst:0≤items.size∧s.heap.IsRevIter it l ((items.size:Int)-1-((0:Nat):Int))∧s.heap.IsList l items:=⟨Nat.zero_le _,by simpa using hit,hl⟩
 unfold Builtin.List.listExtendWith
 refine wpAny_bind (wpAny_typeOf (T:="list_reverseiterator") hit.typeIs ?_)
 have h1:Builtin.List.listSameRef (.ref S) (.ref it)=false:=by simp [Builtin.List.listSameRef,hSI]
 rw [if_neg (by rw [h1];decide)]
 refine wpAny_bind (wpAny_pyIter_revIter hit ?_)
 refine wpAny_bind (wpAny_holding ?_)
 unfold Builtin.List.listLengthHint
 refine wpAny_bind (wpAny_specialOf hit.typeIs UN ?_)
 show wpAny _ A.in1 (specialOf (Value.ref it) (Str.ofString "__length_hint__")>>=_) _ _ _
 refine wpAny_bind (wpAny_specialOf hit.typeIs TL ?_)
 (generalize hid:("list_reverseiterator.__length_hint__":String)=id0;(fail_if_success (clear hid id0));wp_delta;rw [show splitId id0=some ("list_reverseiterator","__length_hint__") from by subst hid;decide+kernel];subst hid)
 refine wpAny_bind (wpAny_isInstance (b:=true) hit.typeIs (by rw [isSubtype_type];kernel_rfl) ?_)
 refine wpAny_pure ?_
 rw [if_neg (by decide)]
 refine wpAny_pure ⟨plainId_quiet F.plain_extend_loop _,codeAny_extend_loopS W hn _ hSf _ items.size 0 _ _ _ rfl (Nat.zero_le _) hst hS (ItemsOf.nil _) fun s' acc' c' hm hS' hacc=> ?_⟩
 rw [Moved.eq_with hm]
 refine hR s'.heap s'.toks acc' c' (fun b ob hb hb2 e=>hm.heap b ob (fun hmem=> ?_) e) hS' hacc
 rcases List.mem_cons.mp hmem with e'|hmem
 ·exact hb e'
 ·exact hb2 (List.mem_singleton.mp hmem)
theorem YO {Q:Value→Shared→Prop} (hh:A.handled=none) {it l:Addr} {items:Array Value} (hn:items.size≤sizeLine) (hit:s.heap.IsRevIter it l ((items.size:Int)-1)) (hl:s.heap.IsList l items) (hil:l≠it)
  (hQ:∀h' tk acc' c',(∀b o,b≠it→s.heap.get? b=some o→h'.get? b=some o)→
   h'.get? s.heap.objs.size=some {cls:= .type "list",dict:=none,data:= .seq acc' c',slots:= #[]}→ItemsOf (fun i v=>items[items.size-1-i]? =some v) acc' items.size→Q (.ref s.heap.objs.size) {s with heap:=h',toks:=tk}):
  wpAny (model prog w) A (call (.type "list") [.ref it]) Q E s:=by
 refine callType_codes (Q₁:=fun obj s₁=>obj= .ref s.heap.objs.size∧s₁={s with heap:=s.heap.push {cls:= .type "list",data:= .seq #[]}}) F.called_list (F.typeCall_list_1 _) F.entry_list_init
  (code_list_new _ ⟨rfl,rfl⟩) fun obj s₁ h₁=> ?_
 obtain ⟨rfl,rfl⟩:=h₁
 have hS:(s.heap.push {cls:= .type "list",data:= .seq #[]}).get? s.heap.objs.size=some {cls:= .type "list",data:= .seq #[]}:=Heap.get?_push_size _ rfl
 refine ⟨⟨_,hS,rfl⟩,F.args_list_init_2 _ _,?_⟩
 show wpAny _ _ (do let old ←Builtin.List.listItems (.ref s.heap.objs.size);Builtin.List.listUpdate (.ref s.heap.objs.size) (fun _=> #[]);letGo old.toList.reverse;Builtin.List.listExtendWith (.ref s.heap.objs.size) (.ref it) .none) _ _ _
 refine wpAny_bind ?_
 unfold Builtin.List.listItems
 refine wpAny_bind (wpAny_seqItems hS rfl (wpAny_pure ?_))
 show wpAny _ _ (updateSeq s.heap.objs.size (fun _=> #[])>>=fun _=>letGo (#[]:Array Value).toList.reverse>>=fun _=>Builtin.List.listExtendWith (.ref s.heap.objs.size) (.ref it) .none) _ _ _
 refine wpAny_bind (wpAny_updateSeq hS rfl ?_)
 have hS₂:=Heap.get?_update_self (Obj.mapSeq (fun _=>(#[]:Array Value))) hS rfl
 have ltI:it<s.heap.objs.size:=let ⟨_,ho,_⟩:=hit;Heap.lt_size ho
 have ltl:l<s.heap.objs.size:=let ⟨_,ho,_⟩:=hl;Heap.lt_size ho
 have oth:∀b o,b≠s.heap.objs.size→(s.heap.push {cls:= .type "list",data:= .seq #[]}).get? b=some o→((s.heap.push {cls:= .type "list",data:= .seq #[]}).update s.heap.objs.size (Obj.mapSeq (fun _=>(#[]:Array Value)))).get? b=some o:=
  fun b o hb e=>(Heap.get?_update_other _ _ (Ne.symm hb)).trans e
 have old:∀b o,s.heap.get? b=some o→((s.heap.push {cls:= .type "list",data:= .seq #[]}).update s.heap.objs.size (Obj.mapSeq (fun _=>(#[]:Array Value)))).get? b=some o:=
  fun b o e=>oth b o (Nat.ne_of_lt (Heap.lt_size e)) (Heap.get?_push_of_some _ e)
 refine wpAny_bind (wpAny_letGo ?_)
 refine Vv (A:=A.in1) (items:=items) hh hn s.heap.objs.size .none _ hS₂ (hit.at fun o e=>old _ o e) (hl.at fun o e=>old _ o e) hil (Ne.symm (Nat.ne_of_lt ltI)) (Ne.symm (Nat.ne_of_lt ltl)) fun h' tk acc' c' hk hS' hacc=> ?_
 exact ⟨rfl,hQ h' tk acc' c' (fun b o hb e=>hk b o (Nat.ne_of_lt (Heap.lt_size e)) hb (old b o e)) hS' hacc⟩
end
section
variable {X:Cx}
noncomputable def WI (K:PySem.W.Frag) (te:TE):TE:=fun σ H Q=>te σ H fun x H1=>∃p ys,x= .ref p∧SqX K H1 p ys∧∀l,H1 l=none→Q (.ref l) (upd H1 l (.lst ys.reverse))
theorem Vw {K:PySem.W.Frag} {e:Expr} {te:TE} {p p2 pos pos2:Pos} (hc:X.calm=true) (hg:Gl X "list") (hm:X.mg "list"=none) (hg2:Gl X "reversed") (hm2:X.mg "reversed"=none) (ha:PE X e te) (hK:X.K=K:=by rfl)
  (he2:starEach [e] X.env=[(false,eval e X.env)]:=by rfl) (he:starEach [.Call (.Name "reversed" p2) [e] [] pos2] X.env=[(false,eval (.Call (.Name "reversed" p2) [e] [] pos2) X.env)]:=by rfl):
  PE X (.Call (.Name "list" p) [.Call (.Name "reversed" p2) [e] [] pos2] [] pos) (WI K te):=by
 subst hK
 intro pins s σ H Q I h
 refine wpAny_Call_Name_kw (vd I hg hm boot_list ?_ (by decide) (by decide))
 refine PyProof.Rows.callWith_type1 ?_ he rfl
 rw [he]
 show wpAny _ _ (spliced ((false,eval (.Call (.Name "reversed" p2) [e] [] pos2) X.env)::backTo pos [])) _ _ s
 refine Calls.spliced_cons ?_
 refine wpAny_Call_Name_kw (vd I hg2 hm2 Boot.«reversed» ?_ (by decide) (by decide))
 refine PyProof.Rows.callWith_type1 ?_ he2 rfl
 refine thn (za ha zf he2 pos2 pins s σ H (fun vs H1=>∃p ys,vs=[.ref p]∧SqX X.K H1 p ys∧∀l,H1 l=none→Q (.ref l) (upd H1 l (.lst ys.reverse))) I ?_) fun us s1 ⟨vs,H1,I1,r1,q1⟩=> ?_
 ·have h:te σ H fun x H1=>∃p ys,x= .ref p∧SqX X.K H1 p ys∧∀l,H1 l=none→Q (.ref l) (upd H1 l (.lst ys.reverse)):=h
  show te σ H fun x H1=>∃p ys,[x]=[V.ref p]∧SqX X.K H1 p ys∧∀l,H1 l=none→Q (.ref l) (upd H1 l (.lst ys.reverse))
  have e:(fun (x:V) (H1:Hp)=>∃p ys,[x]=[V.ref p]∧SqX X.K H1 p ys∧∀l,H1 l=none→Q (.ref l) (upd H1 l (.lst ys.reverse)))=fun x H1=>∃p ys,x= .ref p∧SqX X.K H1 p ys∧∀l,H1 l=none→Q (.ref l) (upd H1 l (.lst ys.reverse)):=by
   funext x H1
   simp
  rw [e]
  exact h
 obtain ⟨p,ys,rfl,hq,q⟩:=q1
 obtain ⟨u,rfl,ru⟩:=Yf r1
 cases ru
 obtain ⟨z,its,n,r,hl,e1⟩:=I1.lstR hq
 have hL:s1.heap.IsList p its.toArray:=⟨_,e1,rfl,n,rfl⟩
 have ltp:p<s1.heap.objs.size:=Heap.lt_size e1
 refine call_reversed_list hL ?_
 refine Calls.spliced_nil ?_
 refine YO (items:=its.toArray) (I1.ok.hd hc) (by rw [List.size_toArray];omega) ⟨_,Heap.get?_push_size _ rfl,rfl,rfl⟩ (hL.push _) (Nat.ne_of_lt ltp) fun h' tk acc' c' hk hS' hacc=> ?_
 have kept:∀b o,s1.heap.get? b=some o→h'.get? b=some o:=fun b o e=>hk b o (Nat.ne_of_lt (Heap.lt_size e)) (Heap.get?_push_of_some _ e)
 have hsz:s1.heap.objs.size≤(s1.heap.push (revObj p ((its.toArray.size:Int)-1))).objs.size:=by rw [Heap.size_push];exact Nat.le_succ _
 have ha:acc'.toList=its.reverse:=by
  obtain ⟨a1,a2⟩:=hacc
  refine List.ext_getElem? fun i=> ?_
  by_cases hi:i<its.length
  ·have hi':i<acc'.size:=by rw [a1,List.size_toArray];exact hi
   have e3:acc'.toList[i]? =some acc'[i]:=by simp [hi']
   have e4:=a2 i acc'[i] (by simp [hi'])
   rw [e3,List.getElem?_reverse hi,←e4]
   simp
  ·rw [List.getElem?_eq_none (by simp [a1];omega),List.getElem?_eq_none (by simp;omega)]
 have hv:zK ys.reverse its.reverse:=r.reverse
 refine ⟨.ref _,_,I1.laid (o:= .lst ys.reverse) (t':=tk) kept hsz ⟨by rw [List.length_reverse];exact z,its.reverse,c',hv,?_⟩,rfl,q _ (I1.hok.fresh hsz)⟩
 rw [hS',←ha]
end
end L2
namespace HT
open PySem PyProof.Rows
section
variable {prog:Program} {w:World} {A:Around} {E:Value→Shared→Prop} {s:Shared}
end
end HT
namespace L2
open PySem PySem.Spec PyProof.Rows
section
variable {X:Cx}
section
variable {X:Cx} {tg:Expr}
end
end
end L2
namespace L2
open PySem PySem.Spec PyProof.Rows
section
variable {env:Env} {r:List Expr}
theorem zC {a b c}:starEach (.Tuple a b c::r) env=(false,eval (.Tuple a b c) env)::starEach r env:=by rw [starEach];simp
theorem zk {a b c}:starEach (.Constant a b c::r) env=(false,eval (.Constant a b c) env)::starEach r env:=by rw [starEach];simp
theorem zg {a b}:starEach (.Name a b::r) env=(false,eval (.Name a b) env)::starEach r env:=by rw [starEach];simp
theorem zx {a b c}:starEach (.Subscript a b c::r) env=(false,eval (.Subscript a b c) env)::starEach r env:=by rw [starEach];simp
theorem yn {a b c d}:starEach (.BinOp a b c d::r) env=(false,eval (.BinOp a b c d) env)::starEach r env:=by rw [starEach];simp
theorem yt {a b c d}:starEach (.Call a b c d::r) env=(false,eval (.Call a b c d) env)::starEach r env:=by rw [starEach];simp
theorem TM {a b c d}:starEach (.IfExp a b c d::r) env=(false,eval (.IfExp a b c d) env)::starEach r env:=by rw [starEach];simp
end
end L2
namespace L2
open PySem PySem.Spec PyProof.Rows PySem.Builtin
section
variable {X:Cx}
end
end L2
namespace L2
open PySem PySem.Spec PyProof.Rows PySem.Calls
section
variable {X:Cx}
end
section
variable {prog:Program} {w:World} {A:Around} {E:Value→Shared→Prop} {s:Shared} {T:String} {r d:Addr} {n:Nat} {P:Nat→Value→Prop} {OK:Heap→Prop} {Q:Value→Shared→Prop}
end
section
variable {X:Cx}
end
section
variable {prog:Program} {w:World} {A:Around} {E:Value→Shared→Prop} {s:Shared} {T:String} {r d:Addr} {n:Nat} {P:Nat→Value→Prop} {OK:Heap→Prop} {Q:Value→Shared→Prop}
end
section
variable {X:Cx}
end
end L2
namespace L2
open PySem
inductive Xv where
 |non|bl (b:Bool)|int (i:Int)|str (x:Str)|tup (xs:List Xv)|ct (xs:List Xv)|ref (n:Nat)
inductive Ce where
 |lst (xs:List Xv)
 |frz (xs:List Xv)
 |dk (kvs:List (Key×Xv))
 |dt (kvs:List (List Key×Xv))
 |ins (nm:Str) (fs:List (Str×Xv))
 |fdk (kvs:List (Key×Xv))
 |dn (kvs:List (NK×Xv×Xv))
 |exc (nm:Str)
noncomputable abbrev Sto:=List Ce
noncomputable abbrev Rho:=List (Option Xv)
noncomputable def Ce.fz:Ce→Bool
 | .frz _=>true
 | .fdk _=>true
 | .exc _=>true
 |_=>false
noncomputable def HO.mu:HO→Bool
 | .lst _=>true
 | .dK _=>true
 | .dT _=>true
 | .dN _=>true
 | .ins _ _ _=>true
 | .set _ _=>true
 |_=>false
noncomputable def xZ (H H':Hp):Prop:=∀b u,H b=some u→u.mu=false→H' b=some u
theorem xZ.refl (H:Hp):xZ H H:=fun _ _ e _=>e
theorem xZ.trans {H H1 H2:Hp} (a:xZ H H1) (b:xZ H1 H2):xZ H H2:=fun x u e m=>b x u (a x u e m) m
theorem xZ.same {H H':Hp} (S:ZS H H'):xZ H H':=fun b u e _=>S b u e
structure Ext (j:List Addr) (H:Hp) (j':List Addr) (H':Hp):Prop where
 pre:∀(n:Nat) a,j[n]? =some a→j'[n]? =some a
 imm:xZ H H'
theorem Ext.refl {j:List Addr} {H:Hp}:Ext j H j H:=⟨fun _ _ e=>e,xZ.refl _⟩
theorem Ext.trans {j j1 j2:List Addr} {H H1 H2:Hp} (a:Ext j H j1 H1) (b:Ext j1 H1 j2 H2):Ext j H j2 H2:=⟨fun n x e=>b.pre n x (a.pre n x e),a.imm.trans b.imm⟩
theorem Ext.same {j:List Addr} {H H':Hp} (S:ZS H H'):Ext j H j H':=⟨fun _ _ e=>e,xZ.same S⟩
mutual
inductive Xis (K:PySem.W.Frag) (j:List Addr) (H:Hp):Xv→V→Prop where
 |non:Xis K j H .non .non
 |bl (b:Bool):Xis K j H (.bl b) (.bl b)
 |int (i:Int):Xis K j H (.int i) (.int i)
 |str (x:Str):Xis K j H (.str x) (.str x)
 |tup {a:Addr} {vs:List V} {xs:List Xv}:H a=some (.tup vs)→zJ K j H xs vs→Xis K j H (.tup xs) (.ref a)
 |ct {a:Addr} {vs:List V} {xs:List Xv}:(∀H,SqT K H a vs)→zJ K j H xs vs→Xis K j H (.ct xs) (.ref a)
 |ref {n:Nat} {a:Addr}:j[n]? =some a→Xis K j H (.ref n) (.ref a)
inductive zJ (K:PySem.W.Frag) (j:List Addr) (H:Hp):List Xv→List V→Prop where
 |nil:zJ K j H [] []
 |cons {x:Xv} {v:V} {xs:List Xv} {vs:List V}:Xis K j H x v→zJ K j H xs vs→zJ K j H (x::xs) (v::vs)
end
mutual
theorem Xis.mono {K:PySem.W.Frag} {j j':List Addr} {H H':Hp} (S:Ext j H j' H'):∀{x:Xv} {v:V},Xis K j H x v→Xis K j' H' x v
 |_,_,.non=> .non
 |_,_,.bl b=> .bl b
 |_,_,.int i=> .int i
 |_,_,.str x=> .str x
 |_,_,.tup h l=> .tup (S.imm _ _ h rfl) (zJ.mono S l)
 |_,_,.ct h l=> .ct h (zJ.mono S l)
 |_,_,.ref h=> .ref (S.pre _ _ h)
theorem zJ.mono {K:PySem.W.Frag} {j j':List Addr} {H H':Hp} (S:Ext j H j' H'):∀{xs:List Xv} {vs:List V},zJ K j H xs vs→zJ K j' H' xs vs
 |_,_,.nil=> .nil
 |_,_,.cons h l=> .cons (Xis.mono S h) (zJ.mono S l)
end
section
variable {K:PySem.W.Frag} {j:List Addr} {H:Hp}
theorem zJ.len:∀{xs:List Xv} {vs:List V},zJ K j H xs vs→vs.length=xs.length
 |_,_,.nil=>rfl
 |_,_,.cons _ l=>by rw [List.length_cons,List.length_cons,l.len]
theorem zJ.get:∀{xs:List Xv} {vs:List V} {i:Nat} {x:Xv},zJ K j H xs vs→xs[i]? =some x→∃v,vs[i]? =some v∧Xis K j H x v
 |_,_,_,_,.nil,e=>by simp at e
 |_,_,0,_,.cons h _,e=>by simp at e;subst e;exact ⟨_,rfl,h⟩
 |_,_,i+1,x,.cons _ l,e=>by
  obtain ⟨v,e1,e2⟩:=l.get (i:=i) (x:=x) (by simpa using e)
  exact ⟨v,by simpa using e1,e2⟩
theorem zJ.getV:∀{xs:List Xv} {vs:List V} {i:Nat} {v:V},zJ K j H xs vs→vs[i]? =some v→∃x,xs[i]? =some x∧Xis K j H x v
 |_,_,_,_,.nil,e=>by simp at e
 |_,_,0,_,.cons h _,e=>by simp at e;subst e;exact ⟨_,rfl,h⟩
 |_,_,i+1,v,.cons _ l,e=>by
  obtain ⟨x,e1,e2⟩:=l.getV (i:=i) (v:=v) (by simpa using e)
  exact ⟨x,by simpa using e1,e2⟩
theorem zJ.append:∀{xs ys:List Xv} {vs ws:List V},zJ K j H xs vs→zJ K j H ys ws→zJ K j H (xs++ys) (vs++ws)
 |_,_,_,_,.nil,h=>h
 |_,_,_,_,.cons h l,k=> .cons h (l.append k)
theorem zJ.one {v:V} {x:Xv} (h:Xis K j H x v):zJ K j H [x] [v]:= .cons h .nil
theorem zJ.take:∀{xs:List Xv} {vs:List V} (n:Nat),zJ K j H xs vs→zJ K j H (xs.take n) (vs.take n)
 |_,_,0,_=> .nil
 |_,_,_+1,.nil=> .nil
 |_,_,n+1,.cons h l=> .cons h (l.take n)
theorem zJ.drop:∀{xs:List Xv} {vs:List V} (n:Nat),zJ K j H xs vs→zJ K j H (xs.drop n) (vs.drop n)
 |_,_,0,h=>h
 |_,_,_+1,.nil=> .nil
 |_,_,n+1,.cons h l=>l.drop n
theorem zJ.ints:∀ns:List Int,zJ K j H (ns.map Xv.int) (ns.map V.int)
 |[]=> .nil
 |n::r=> .cons (.int n) (zJ.ints r)
theorem zJ.reverse:∀{xs:List Xv} {vs:List V},zJ K j H xs vs→zJ K j H xs.reverse vs.reverse
 |_,_,.nil=> .nil
 |_,_,.cons h l=>by
  rw [List.reverse_cons,List.reverse_cons]
  exact l.reverse.append (.one h)
theorem zJ.dropLast {xs:List Xv} {vs:List V} (h:zJ K j H xs vs):zJ K j H xs.dropLast vs.dropLast:=by
 rw [List.dropLast_eq_take,List.dropLast_eq_take,h.len]
 exact h.take _
theorem zJ.at_ {xs:List Xv} {vs:List V} {i:Int} {x:Xv} (h:zJ K j H xs vs) (e:atI xs i=some x):∃v,atI vs i=some v∧Xis K j H x v:=by
 unfold atI at e ⊢
 rw [h.len]
 cases e1:ixN xs.length i with
 |none=>rw [e1] at e;cases e
 |some m=>
  rw [e1] at e
  obtain ⟨v,e3,e4⟩:=h.get (i:=m) e
  exact ⟨v,e3,e4⟩
theorem Xis.int_inv {v:V} {i:Int} (h:Xis K j H (.int i) v):v= .int i:=by cases h;rfl
theorem Xis.bl_inv {v:V} {b:Bool} (h:Xis K j H (.bl b) v):v= .bl b:=by cases h;rfl
theorem Xis.ref_inv {v:V} {n:Nat} (h:Xis K j H (.ref n) v):∃a,v= .ref a∧j[n]? =some a:=by cases h with|ref e=>exact ⟨_,rfl,e⟩
theorem Xis.tup_inv {v:V} {xs:List Xv} (h:Xis K j H (.tup xs) v):∃a vs,v= .ref a∧H a=some (.tup vs)∧zJ K j H xs vs:=by cases h with|tup a b=>exact ⟨_,_,rfl,a,b⟩
theorem zJ.cons_inv {vs:List V} {x:Xv} {xs:List Xv} (h:zJ K j H (x::xs) vs):∃v r,vs=v::r∧Xis K j H x v∧zJ K j H xs r:=by cases h with|cons a b=>exact ⟨_,_,rfl,a,b⟩
theorem zJ.nil_inv {vs:List V} (h:zJ K j H [] vs):vs=[]:=by cases h;rfl
theorem zJ.d1 {vs:List V} {a:Xv} (h:zJ K j H [a] vs):∃x,vs=[x]∧Xis K j H a x:=by
 obtain ⟨x,r,rfl,hx,h⟩:=h.cons_inv
 obtain rfl:=h.nil_inv
 exact ⟨x,rfl,hx⟩
noncomputable def Xv.tupOf:Xv→Option (List Xv)
 | .tup xs=>some xs
 | .ct xs=>some xs
 |_=>none
theorem Xis.tupO {v:V} {x:Xv} {xs:List Xv} (h:Xis K j H x v) (e:x.tupOf=some xs):∃a vs,v= .ref a∧SqT K H a vs∧zJ K j H xs vs:=by
 cases h with
 |tup h l=>simp [Xv.tupOf] at e;subst e;exact ⟨_,_,rfl,SqT.of h,l⟩
 |ct h l=>simp [Xv.tupOf] at e;subst e;exact ⟨_,_,rfl,h H,l⟩
 |_=>simp [Xv.tupOf] at e
end
inductive KX {κ:Type} (K:PySem.W.Frag) (j:List Addr) (H:Hp):List (κ×Xv)→List (κ×V)→Prop where
 |nil:KX K j H [] []
 |cons {k:κ} {x:Xv} {v:V} {r:List (κ×Xv)} {rs:List (κ×V)}:Xis K j H x v→KX K j H r rs→KX K j H ((k,x)::r) ((k,v)::rs)
theorem KX.mono {κ:Type} {K:PySem.W.Frag} {j j':List Addr} {H H':Hp} (S:Ext j H j' H'):∀{xs:List (κ×Xv)} {vs:List (κ×V)},KX K j H xs vs→KX K j' H' xs vs
 |_,_,.nil=> .nil
 |_,_,.cons h l=> .cons (h.mono S) (l.mono S)
mutual
noncomputable def zds:Xv→Option NK
 | .int i=>some (.int i)
 | .str x=>some (.str x)
 | .tup l=>(TN l).map .tup
 | .ct l=>(TN l).map .tup
 | .non=>none
 | .bl _=>none
 | .ref _=>none
noncomputable def TN:List Xv→Option (List NK)
 |[]=>some []
 |x::r=>(zds x).bind fun k=>(TN r).map (k:: ·)
end
inductive NX (K:PySem.W.Frag) (j:List Addr) (H:Hp):List (NK×Xv×Xv)→List (NK×Addr×V)→Prop where
 |nil:NX K j H [] []
 |cons {k:NK} {x y:Xv} {b:Addr} {v:V} {r:List (NK×Xv×Xv)} {rs:List (NK×Addr×V)}:zds x=some k∧zc0 k≤8→Xis K j H x (.ref b)→Xis K j H y v→NX K j H r rs→NX K j H ((k,x,y)::r) ((k,b,v)::rs)
theorem NX.mono {K:PySem.W.Frag} {j j':List Addr} {H H':Hp} (S:Ext j H j' H'):∀{xs:List (NK×Xv×Xv)} {vs:List (NK×Addr×V)},NX K j H xs vs→NX K j' H' xs vs
 |_,_,.nil=> .nil
 |_,_,.cons e h1 h2 l=> .cons e (h1.mono S) (h2.mono S) (l.mono S)
noncomputable def YQ (K:PySem.W.Frag) (j:List Addr) (H:Hp) (a:Addr):Ce→Prop
 | .lst xs=>∃vs,H a=some (.lst vs)∧zJ K j H xs vs
 | .frz xs=>∃vs,((∃o,H a=some (.frz o (.lst vs)))∨∀H,SqX K H a vs)∧zJ K j H xs vs
 | .dk kvs=>∃ks:List (Key×V),H a=some (.dK ks)∧KX K j H kvs ks
 | .dt kvs=>∃ks:List (List Key×V),H a=some (.dT ks)∧KX K j H kvs ks
 | .ins nm fs=>∃(C dx:Addr) (vs:List (Str×V)),PySem.W.nsIn K mainGlobals nm=some (some (.ref C))∧H a=some (.ins C dx vs)∧KX K j H fs vs
 | .fdk kvs=>∃(o:Obj) (ks:List (Key×V)),H a=some (.frz o (.dK ks))∧KX K j H kvs ks
 | .dn kvs=>∃ks:List (NK×Addr×V),H a=some (.dN ks)∧NX K j H kvs ks
 | .exc nm=>∃C:Addr,PySem.W.nsIn K mainGlobals nm=some (some (.ref C))∧H a=some (zcs a (.ref C))
theorem YQ.mu {K:PySem.W.Frag} {j:List Addr} {H:Hp} {a:Addr}:∀{c:Ce},YQ K j H a c→c.fz=false→∃o,H a=some o∧o.mu=true
 | .lst _,⟨_,e,_⟩,_=>⟨_,e,rfl⟩
 | .frz _,_,z=>by cases z
 | .dk _,⟨_,e,_⟩,_=>⟨_,e,rfl⟩
 | .dt _,⟨_,e,_⟩,_=>⟨_,e,rfl⟩
 | .ins _ _,⟨_,_,_,_,e,_⟩,_=>⟨_,e,rfl⟩
 | .fdk _,_,z=>by cases z
 | .dn _,⟨_,e,_⟩,_=>⟨_,e,rfl⟩
 | .exc _,_,z=>by cases z
theorem YQ.mono {K:PySem.W.Frag} {j j':List Addr} {H H':Hp} {a:Addr} (S:Ext j H j' H'):∀{c:Ce},(c.fz=false→H' a=H a)→YQ K j H a c→YQ K j' H' a c
 | .lst _,h,⟨_,e,l⟩=>⟨_,(h rfl).trans e,l.mono S⟩
 | .frz _,_,⟨_,.inl ⟨o,e⟩,l⟩=>⟨_,.inl ⟨o,S.imm _ _ e rfl⟩,l.mono S⟩
 | .frz _,_,⟨_,.inr e,l⟩=>⟨_,.inr e,l.mono S⟩
 | .dk _,h,⟨_,e,l⟩=>⟨_,(h rfl).trans e,l.mono S⟩
 | .dt _,h,⟨_,e,l⟩=>⟨_,(h rfl).trans e,l.mono S⟩
 | .ins _ _,h,⟨_,_,_,n,e,l⟩=>⟨_,_,_,n,(h rfl).trans e,l.mono S⟩
 | .fdk _,_,⟨_,_,e,l⟩=>⟨_,_,S.imm _ _ e rfl,l.mono S⟩
 | .dn _,h,⟨_,e,l⟩=>⟨_,(h rfl).trans e,l.mono S⟩
 | .exc _,_,⟨C,n,e⟩=>⟨C,n,S.imm _ _ e rfl⟩
structure Fm where
 H0:Hp
 j0:List Addr
 S0:Sto
structure En (K:PySem.W.Frag) (F:Fm) (j:List Addr) (H:Hp) (σ:St) (ρ:Rho) (S:Sto):Prop where
 len:σ.length=ρ.length
 slot:∀(i:Nat) x,ρ[i]? =some (some x)→∃v,σ[i]? =some (some v)∧Xis K j H x v
 jl:j.length=S.length
 inj:∀(n m:Nat) a c d,j[n]? =some a→j[m]? =some a→S[n]? =some c→S[m]? =some d→c.fz=false→d.fz=false→n=m
 cel:∀(n:Nat) c a,S[n]? =some c→j[n]? =some a→YQ K j H a c
 ext:Ext F.j0 F.H0 j H
 old:∀(n:Nat) c,F.S0[n]? =some c→∃c',S[n]? =some c'∧(c'.fz=false→c.fz=false)∧(c.fz=true→c'=c)
 l0:F.j0.length=F.S0.length
 keep:∀b u,F.H0 b=some u→H b=some u∨∃(n:Nat) (c:Ce),F.j0[n]? =some b∧F.S0[n]? =some c∧c.fz=false
 fresh:∀(n:Nat) a,F.j0.length≤n→j[n]? =some a→F.H0 a=none
 dom:∀b,H b=none→F.H0 b=none
section
variable {K:PySem.W.Frag} {F:Fm} {j j':List Addr} {H H':Hp} {σ σ':St} {ρ ρ':Rho} {S S':Sto} {v:V} {x:Xv} {a p:Addr} {o:HO} {i n:Nat} {c c':Ce}
theorem En.heap (E:En K F j H σ ρ S) (Sm:ZS H H'):En K F j H' σ ρ S:=by
 have X:Ext j H j H':=Ext.same Sm
 refine ⟨E.len,fun i x e=> ?_,E.jl,E.inj,fun n c a e1 e2=> ?_,E.ext.trans X,E.old,E.l0,fun b u e=> ?_,E.fresh,fun b e=>E.dom b ?_⟩
 ·obtain ⟨v,e1,e2⟩:=E.slot i x e
  exact ⟨v,e1,e2.mono X⟩
 ·have h:=E.cel n c a e1 e2
  refine h.mono X fun z=> ?_
  obtain ⟨o,e,_⟩:=h.mu z
  exact (Sm _ _ e).trans e.symm
 ·rcases E.keep b u e with h|h
  ·exact .inl (Sm _ _ h)
  ·exact .inr h
 ·cases e':H b with
  |none=>rfl
  |some u=>rw [Sm b u e'] at e;cases e
theorem En.new (E:En K F j H σ ρ S) (h:H p=none):En K F j (upd H p o) σ ρ S∧Ext j H j (upd H p o):=⟨E.heap (yZ h),Ext.same (yZ h)⟩
theorem En.cell (E:En K F j H σ ρ S) (h:H p=none) (hc:YQ K (j++[p]) (upd H p o) p c):En K F (j++[p]) (upd H p o) σ ρ (S++[c])∧Ext j H (j++[p]) (upd H p o):=by
 have X:Ext j H (j++[p]) (upd H p o):=⟨fun n a e=>by rw [List.getElem?_append_left (List.getElem?_eq_some_iff.1 e).1];exact e,xZ.same (yZ h)⟩
 have jat:∀{n:Nat} {a:Addr},(j++[p])[n]? =some a→j[n]? =some a∨(n=j.length∧a=p):=fun {n a} e=>by
  by_cases hn:n<j.length
  ·rw [List.getElem?_append_left hn] at e;exact .inl e
  ·rw [List.getElem?_append_right (by omega)] at e
   cases hm:n-j.length with
   |zero=>rw [hm] at e;simp at e;exact .inr ⟨by omega,e.symm⟩
   |succ m=>rw [hm] at e;simp at e
 have sat:∀{n:Nat} {d:Ce},(S++[c])[n]? =some d→S[n]? =some d∨(n=S.length∧d=c):=fun {n d} e=>by
  by_cases hn:n<S.length
  ·rw [List.getElem?_append_left hn] at e;exact .inl e
  ·rw [List.getElem?_append_right (by omega)] at e
   cases hm:n-S.length with
   |zero=>rw [hm] at e;simp at e;exact .inr ⟨by omega,e.symm⟩
   |succ m=>rw [hm] at e;simp at e
 have lt:∀{n:Nat} {d:Ce},S[n]? =some d→n<S.length:=fun e=>(List.getElem?_eq_some_iff.1 e).1
 have mine:∀{n:Nat} {a:Addr} {d:Ce},j[n]? =some a→S[n]? =some d→d.fz=false→a≠p:=fun {n a d} e1 e2 z q=>by
  subst q
  obtain ⟨o',e,_⟩:=(E.cel n d a e2 e1).mu z
  rw [h] at e;cases e
 refine ⟨⟨E.len,fun i x e=> ?_,by simp [E.jl],fun n m a c1 c2 e1 e2 e3 e4 z1 z2=> ?_,fun n d a e1 e2=> ?_,E.ext.trans X,fun n d e=> ?_,E.l0,fun b u e=> ?_,fun n a hn e=> ?_,fun b e=> ?_⟩,X⟩
 ·obtain ⟨v,e1,e2⟩:=E.slot i x e
  exact ⟨v,e1,e2.mono X⟩
 ·rcases sat e3 with e3|⟨e3,_⟩
  ·have h1:j[n]? =some a:=by
    rcases jat e1 with h1|⟨h1,_⟩
    ·exact h1
    ·have:=lt e3;rw [E.jl] at h1;omega
   rcases sat e4 with e4|⟨e4,_⟩
   ·have h2:j[m]? =some a:=by
     rcases jat e2 with h2|⟨h2,_⟩
     ·exact h2
     ·have:=lt e4;rw [E.jl] at h2;omega
    exact E.inj n m a c1 c2 h1 h2 e3 e4 z1 z2
   ·have:a=p:=by
     rcases jat e2 with h2|⟨_,h2⟩
     ·have:=(List.getElem?_eq_some_iff.1 h2).1;rw [E.jl] at this;omega
     ·exact h2
    exact absurd this (mine h1 e3 z1)
  ·have:a=p:=by
    rcases jat e1 with h2|⟨_,h2⟩
    ·have:=(List.getElem?_eq_some_iff.1 h2).1;rw [E.jl] at this;omega
    ·exact h2
   rcases sat e4 with e4|⟨e4,_⟩
   ·have h2:j[m]? =some a:=by
     rcases jat e2 with h2|⟨h2,_⟩
     ·exact h2
     ·have:=lt e4;rw [E.jl] at h2;omega
    exact absurd this (mine h2 e4 z2)
   ·rw [e3,e4]
 ·rcases sat e1 with e1|⟨e1,rfl⟩
  ·have h2:j[n]? =some a:=by
    rcases jat e2 with h2|⟨h2,_⟩
    ·exact h2
    ·have:=lt e1;rw [E.jl] at h2;omega
   have hh:=E.cel n d a e1 h2
   exact hh.mono X fun z=>zH (mine h2 e1 z)
  ·have:a=p:=by
    rcases jat e2 with h2|⟨_,h2⟩
    ·have:=(List.getElem?_eq_some_iff.1 h2).1;rw [E.jl] at this;omega
    ·exact h2
   subst this
   exact hc
 ·obtain ⟨d',e1,e2⟩:=E.old n d e
  exact ⟨d',by rw [List.getElem?_append_left (lt e1)];exact e1,e2⟩
 ·rcases E.keep b u e with h'|h'
  ·exact .inl (yZ h _ _ h')
  ·exact .inr h'
 ·rcases jat e with e|⟨_,rfl⟩
  ·exact E.fresh n a hn e
  ·exact E.dom _ h
 ·refine E.dom b ?_
  cases e':H b with
  |none=>rfl
  |some u=>rw [yZ h b u e'] at e;cases e
theorem En.writeF (E:En K F j H σ ρ S) (hs:S[n]? =some c) (z:c.fz=false) (hj:j[n]? =some a) (hc:∀X:Ext j H j (upd H a o),YQ K j (upd H a o) a c'):En K F j (upd H a o) σ ρ (S.set n c')∧Ext j H j (upd H a o):=by
 obtain ⟨o0,h0,m0⟩:=(E.cel n c a hs hj).mu z
 have X:Ext j H j (upd H a o):=⟨fun _ _ e=>e,fun b u e m=>by
  have:b≠a:=fun q=>by subst q;rw [h0] at e;cases e;rw [m] at m0;cases m0
  rw [zH this];exact e⟩
 have sat:∀{m:Nat} {d:Ce},(S.set n c')[m]? =some d→(m=n∧d=c')∨(m≠n∧S[m]? =some d):=fun {m d} e=>by
  rw [List.getElem?_set] at e
  split at e
  ·rename_i q
   split at e
   ·cases e;exact .inl ⟨q.symm,rfl⟩
   ·cases e
  ·rename_i q
   exact .inr ⟨fun r=>q r.symm,e⟩
 have fzq:∀{m:Nat} {d:Ce},(S.set n c')[m]? =some d→∃d',S[m]? =some d'∧(d.fz=false→d'.fz=false):=fun {m d} e=>by
  rcases sat e with ⟨rfl,rfl⟩|⟨_,e⟩
  ·exact ⟨c,hs,fun _=>z⟩
  ·exact ⟨d,e,fun y=>y⟩
 refine ⟨⟨E.len,fun i x e=> ?_,by simp [E.jl],fun k m b c1 c2 e1 e2 e3 e4 z1 z2=> ?_,fun m d b e1 e2=> ?_,E.ext.trans X,fun m d e=> ?_,E.l0,fun b u e=> ?_,E.fresh,fun b e=> ?_⟩,X⟩
 ·obtain ⟨v,e1,e2⟩:=E.slot i x e
  exact ⟨v,e1,e2.mono X⟩
 ·obtain ⟨d1,f1,g1⟩:=fzq e3
  obtain ⟨d2,f2,g2⟩:=fzq e4
  exact E.inj k m b d1 d2 e1 e2 f1 f2 (g1 z1) (g2 z2)
 ·rcases sat e1 with ⟨rfl,rfl⟩|⟨q,e1⟩
  ·rw [hj] at e2
   cases e2
   exact hc X
  ·refine (E.cel m d b e1 e2).mono X fun zd=>zH fun r=> ?_
   subst r
   exact q (E.inj m n b d c e2 hj e1 hs zd z)
 ·obtain ⟨d',e1,e2,e3⟩:=E.old m d e
  by_cases q:m=n
  ·subst q
   rw [hs] at e1
   cases e1
   refine ⟨c',by rw [List.getElem?_set,if_pos rfl,if_pos (List.getElem?_eq_some_iff.1 hs).1],fun _=>e2 z,fun y=> ?_⟩
   rw [e2 z] at y
   cases y
  ·exact ⟨d',by rw [List.getElem?_set,if_neg (fun r=>q r.symm)];exact e1,e2,e3⟩
 ·by_cases q:b=a
  ·subst q
   by_cases hn:n<F.j0.length
   ·have hj0:F.j0[n]? =some b:=by
     have e1:F.j0[n]? =some F.j0[n]:=List.getElem?_eq_getElem hn
     have e2:=E.ext.pre n _ e1
     rw [hj] at e2
     cases e2
     exact e1
    have hn2:n<F.S0.length:=by rw [←E.l0];exact hn
    obtain ⟨d',f1,f2,_⟩:=E.old n _ (List.getElem?_eq_getElem hn2)
    rw [hs] at f1
    cases f1
    exact .inr ⟨n,_,hj0,List.getElem?_eq_getElem hn2,f2 z⟩
   ·rw [E.fresh n b (by omega) hj] at e
    cases e
  ·rcases E.keep b u e with h|h
   ·exact .inl (by rw [zH q];exact h)
   ·exact .inr h
 ·by_cases q:b=a
  ·subst q;rw [yr] at e;cases e
  ·rw [zH q] at e;exact E.dom b e
theorem En.write (E:En K F j H σ ρ S) (hs:S[n]? =some c) (z:c.fz=false) (hj:j[n]? =some a) (_:c'.fz=false) (hc:∀X:Ext j H j (upd H a o),YQ K j (upd H a o) a c'):En K F j (upd H a o) σ ρ (S.set n c')∧Ext j H j (upd H a o):=E.writeF hs z hj hc
theorem En.slots (E:En K F j H σ ρ S) (hl:σ'.length=ρ'.length) (h:∀(i:Nat) x,ρ'[i]? =some (some x)→∃v,σ'[i]? =some (some v)∧Xis K j H x v):En K F j H σ' ρ' S:=
 ⟨hl,h,E.jl,E.inj,E.cel,E.ext,E.old,E.l0,E.keep,E.fresh,E.dom⟩
theorem En.set (E:En K F j H σ ρ S) (h:Xis K j H x v):En K F j H (σ.set i (some v)) (ρ.set i (some x)) S:=E.slots (by simp [E.len]) fun k y e=>by
 rw [List.getElem?_set] at e ⊢
 split at e
 ·rename_i q
  subst q
  split at e
  ·rename_i hl
   cases e
   rw [if_pos rfl,if_pos (by rw [E.len];exact hl)]
   exact ⟨v,rfl,h⟩
  ·cases e
 ·rename_i q
  rw [if_neg q]
  exact E.slot k y e
theorem En.enter (E:En K F j H σ ρ S) (hl:σ'.length=ρ'.length) (h:∀(i:Nat) x,ρ'[i]? =some (some x)→∃v,σ'[i]? =some (some v)∧Xis K j H x v):En K ⟨H,j,S⟩ j H σ' ρ' S:=
 ⟨hl,h,E.jl,E.inj,E.cel,Ext.refl,fun n c e=>⟨c,e,fun z=>z,fun _=>rfl⟩,E.jl,fun b u e=> .inl e,fun n a hn e=>by have:=(List.getElem?_eq_some_iff.1 e).1;dsimp only at hn;omega,fun b e=>e⟩
theorem En.leave (E:En K F j H σ ρ S) (X:En K ⟨H,j,S⟩ j' H' σ' ρ' S'):En K F j' H' σ ρ S'∧Ext j H j' H':=by
 have e:Ext j H j' H':=X.ext
 refine ⟨⟨E.len,fun i x h=> ?_,X.jl,X.inj,X.cel,E.ext.trans e,fun n c h=> ?_,E.l0,fun b u h=> ?_,fun n a hn h=> ?_,fun b h=>E.dom b (X.dom b h)⟩,e⟩
 ·obtain ⟨v,e1,e2⟩:=E.slot i x h
  exact ⟨v,e1,e2.mono e⟩
 ·obtain ⟨c1,e1,e2,e3⟩:=E.old n c h
  obtain ⟨c2,f1,f2,f3⟩:=X.old n c1 e1
  refine ⟨c2,f1,fun z=>e2 (f2 z),fun z=> ?_⟩
  obtain rfl:=e3 z
  exact f3 z
 ·rcases E.keep b u h with h1|h1
  ·rcases X.keep b u h1 with h2|⟨n,c,h2,h3,h4⟩
   ·exact .inl h2
   ·by_cases hn:n<F.j0.length
    ·have e1:F.j0[n]? =some F.j0[n]:=List.getElem?_eq_getElem hn
     have e2:=E.ext.pre n _ e1
     have h2':j[n]? =some b:=h2
     rw [h2'] at e2
     cases e2
     have hn2:n<F.S0.length:=by rw [←E.l0];exact hn
     obtain ⟨c1,f1,f2,_⟩:=E.old n _ (List.getElem?_eq_getElem hn2)
     have h3':S[n]? =some c:=h3
     rw [h3'] at f1
     cases f1
     exact .inr ⟨n,_,e1,List.getElem?_eq_getElem hn2,f2 h4⟩
    ·have:=E.fresh n b (by omega) h2
     rw [this] at h;cases h
  ·exact .inr h1
 ·by_cases hm:n<j.length
  ·have e1:j[n]? =some j[n]:=List.getElem?_eq_getElem hm
   have e2:=e.pre n _ e1
   rw [h] at e2
   cases e2
   exact E.fresh n _ hn e1
  ·exact E.dom a (X.fresh n a (by dsimp only;omega) h)
theorem En.grow {k:Nat} (E:En K F j H σ ρ S):En K F j H (σ++List.replicate k none) (ρ++List.replicate k none) S:=E.slots (by simp [E.len]) fun i x e=>by
 by_cases hi:i<ρ.length
 ·rw [List.getElem?_append_left hi] at e
  rw [List.getElem?_append_left (by rw [E.len];exact hi)]
  exact E.slot i x e
 ·rw [List.getElem?_append_right (by omega),List.getElem?_replicate] at e
  split at e
  ·cases e
  ·cases e
end
end L2
namespace L2
open PySem
inductive Rs (α:Type) where
 |ok (a:α) (S:Sto)
 |ex (c:Str) (S:Sto)
noncomputable abbrev TwE:=Rho→Sto→Option (Rs Xv)
noncomputable abbrev TwT:=Rho→Sto→Option (Rs Bool)
noncomputable abbrev TwL:=Rho→Sto→Option (Rs (List Xv))
noncomputable abbrev TwO:=Rho→Sto→Option (Rs (Option Int))
noncomputable abbrev TwG:=Xv→Rho→Sto→Option (Rs Rho)
noncomputable abbrev Vx:=List Xv→Rho→Sto→Option (Rs Rho)
noncomputable abbrev TwI:=Rho→Sto→Option (Rs (Sto→Option (List Xv)))
inductive Fl where
 |nx (ρ:Rho) (S:Sto)
 |bk (ρ:Rho) (S:Sto)
 |ct (ρ:Rho) (S:Sto)
 |rt (x:Xv) (S:Sto)
 |ex (c:Str) (S:Sto)
noncomputable abbrev TwS:=Rho→Sto→Option Fl
noncomputable def rb {α β:Type} (m:Option (Rs α)) (f:α→Sto→Option (Rs β)):Option (Rs β):=match m with
 |some (.ok a S)=>f a S
 |some (.ex c S)=>some (.ex c S)
 |none=>none
noncomputable def sb {α:Type} (m:Option (Rs α)) (f:α→Sto→Option Fl):Option Fl:=match m with
 |some (.ok a S)=>f a S
 |some (.ex c S)=>some (.ex c S)
 |none=>none
theorem zu {α β:Type} {m:Option (Rs α)} {f:α→Sto→Option (Rs β)} {r:Rs β} (h:rb m f=some r):(∃a S,m=some (.ok a S)∧f a S=some r)∨∃c S,m=some (.ex c S)∧r= .ex c S:=by
 unfold rb at h
 split at h
 ·exact .inl ⟨_,_,rfl,h⟩
 ·cases h;exact .inr ⟨_,_,rfl,rfl⟩
 ·cases h
theorem wz {α:Type} {m:Option (Rs α)} {f:α→Sto→Option Fl} {r:Fl} (h:sb m f=some r):(∃a S,m=some (.ok a S)∧f a S=some r)∨∃c S,m=some (.ex c S)∧r= .ex c S:=by
 unfold sb at h
 split at h
 ·exact .inl ⟨_,_,rfl,h⟩
 ·cases h;exact .inr ⟨_,_,rfl,rfl⟩
 ·cases h
noncomputable def PX (K:PySem.W.Frag) (F:Fm) (j:List Addr) (H:Hp) (E:XK) (c:Str) (S':Sto):Prop:=
 ∀j' H' σ' ρ' C,Ext j H j' H'→En K F j' H' σ' ρ' S'→PySem.W.nsIn K mainGlobals c=some (some (.ref C))→E (.ref C) none H'
theorem PX.mono {K:PySem.W.Frag} {F:Fm} {j j1:List Addr} {H H1:Hp} {E:XK} {c:Str} {S':Sto} (h:PX K F j H E c S') (e:Ext j H j1 H1):PX K F j1 H1 E c S':=fun j' H' σ' ρ' C x y z=>h j' H' σ' ρ' C (e.trans x) y z
noncomputable def Po {α:Type} (K:PySem.W.Frag) (F:Fm) (j:List Addr) (H:Hp) (σ:St) (ρ:Rho) (E:XK) (P:α→List Addr→Hp→Prop):Rs α→Prop
 | .ok a S'=>∀j' H',Ext j H j' H'→En K F j' H' σ ρ S'→P a j' H'
 | .ex c S'=>PX K F j H E c S'
theorem Po.step {α:Type} {K:PySem.W.Frag} {F:Fm} {j j1:List Addr} {H H1:Hp} {σ:St} {ρ:Rho} {E:XK} {P:α→List Addr→Hp→Prop}:∀{r:Rs α},Po K F j H σ ρ E P r→Ext j H j1 H1→Po K F j1 H1 σ ρ E P r
 | .ok a S',h,e=>fun j' H' x y=>h j' H' (e.trans x) y
 | .ex c S',h,e=>PX.mono h e
noncomputable abbrev PoV (K:PySem.W.Frag) (Q:VK):Xv→List Addr→Hp→Prop:=fun x j' H'=>∀v,Xis K j' H' x v→Q v H'
noncomputable def RE (K:PySem.W.Frag) (E:XK) (t:TE) (m:TwE):Prop:=∀{F:Fm} {j:List Addr} {σ:St} {H:Hp} {ρ:Rho} {S:Sto} {r:Rs Xv} {Q:VK},En K F j H σ ρ S→m ρ S=some r→Po K F j H σ ρ E (PoV K Q) r→t σ H Q
noncomputable def RT (K:PySem.W.Frag) (E:XK) (t:TT) (m:TwT):Prop:=∀{F:Fm} {j:List Addr} {σ:St} {H:Hp} {ρ:Rho} {S:Sto} {r:Rs Bool} {Q:Bool→Hp→Prop},En K F j H σ ρ S→m ρ S=some r→Po K F j H σ ρ E (fun b _ H'=>Q b H') r→t σ H Q
noncomputable def RL (K:PySem.W.Frag) (E:XK) (t:TA) (m:TwL):Prop:=∀{F:Fm} {j:List Addr} {σ:St} {H:Hp} {ρ:Rho} {S:Sto} {r:Rs (List Xv)} {Q:List V→Hp→Prop},En K F j H σ ρ S→m ρ S=some r→Po K F j H σ ρ E (fun xs j' H'=>∀vs,zJ K j' H' xs vs→Q vs H') r→t σ H Q
noncomputable def RO (K:PySem.W.Frag) (E:XK) (t:TO) (m:TwO):Prop:=∀{F:Fm} {j:List Addr} {σ:St} {H:Hp} {ρ:Rho} {S:Sto} {r:Rs (Option Int)} {Q:Option Int→Hp→Prop},En K F j H σ ρ S→m ρ S=some r→Po K F j H σ ρ E (fun o _ H'=>Q o H') r→t σ H Q
noncomputable def PoG (K:PySem.W.Frag) (F:Fm) (j:List Addr) (H:Hp) (E:XK) (R:St→Hp→Prop):Rs Rho→Prop
 | .ok ρ' S'=>∀σ' j' H',Ext j H j' H'→En K F j' H' σ' ρ' S'→R σ' H'
 | .ex c S'=>PX K F j H E c S'
theorem PoG.step {K:PySem.W.Frag} {F:Fm} {j j1:List Addr} {H H1:Hp} {E:XK} {R:St→Hp→Prop}:∀{r:Rs Rho},PoG K F j H E R r→Ext j H j1 H1→PoG K F j1 H1 E R r
 | .ok a S',h,e=>fun σ' j' H' x y=>h σ' j' H' (e.trans x) y
 | .ex c S',h,e=>PX.mono h e
noncomputable def RG (K:PySem.W.Frag) (E:XK) (t:TG) (g:TwG):Prop:=∀{F:Fm} {j:List Addr} {σ:St} {H:Hp} {ρ:Rho} {S:Sto} {r:Rs Rho} {x:Xv} {v:V} {R:St→Hp→Prop},En K F j H σ ρ S→Xis K j H x v→g x ρ S=some r→PoG K F j H E R r→t v σ H R
noncomputable def RGs (K:PySem.W.Frag) (E:XK) (t:TGs) (g:Vx):Prop:=∀{F:Fm} {j:List Addr} {σ:St} {H:Hp} {ρ:Rho} {S:Sto} {r:Rs Rho} {xs:List Xv} {vs:List V} {R:St→Hp→Prop},En K F j H σ ρ S→zJ K j H xs vs→g xs ρ S=some r→PoG K F j H E R r→t vs σ H R
noncomputable def zbm (K:PySem.W.Frag) (F:Fm) (j:List Addr) (H:Hp) (E:XK) (D':Zu):Fl→Prop
 | .nx ρ S=>∀σ j' H',Ext j H j' H'→En K F j' H' σ ρ S→D'.nx σ H'
 | .bk ρ S=>∀σ j' H',Ext j H j' H'→En K F j' H' σ ρ S→D'.bk σ H'
 | .ct ρ S=>∀σ j' H',Ext j H j' H'→En K F j' H' σ ρ S→D'.ct σ H'
 | .rt x S=>∀v σ ρ j' H',Ext j H j' H'→En K F j' H' σ ρ S→Xis K j' H' x v→D'.rt v H'
 | .ex c S=>PX K F j H E c S
theorem zbm.step {K:PySem.W.Frag} {F:Fm} {j j1:List Addr} {H H1:Hp} {E:XK} {D':Zu}:∀{fl:Fl},zbm K F j H E D' fl→Ext j H j1 H1→zbm K F j1 H1 E D' fl
 | .nx _ _,h,e=>fun σ j' H' x y=>h σ j' H' (e.trans x) y
 | .bk _ _,h,e=>fun σ j' H' x y=>h σ j' H' (e.trans x) y
 | .ct _ _,h,e=>fun σ j' H' x y=>h σ j' H' (e.trans x) y
 | .rt _ _,h,e=>fun v σ ρ j' H' x y z=>h v σ ρ j' H' (e.trans x) y z
 | .ex _ _,h,e=>PX.mono h e
noncomputable def RS (K:PySem.W.Frag) (E:XK) (t:TS) (m:TwS):Prop:=∀{F:Fm} {j:List Addr} {D':Zu} {σ:St} {H:Hp} {ρ:Rho} {S:Sto} {fl:Fl},En K F j H σ ρ S→m ρ S=some fl→zbm K F j H E D' fl→t D' σ H
noncomputable def zdt (K:PySem.W.Frag) (j:List Addr) (H:Hp) (J:It) (get:Sto→Option (List Xv)):Prop:=∀{F:Fm} {j':List Addr} {H':Hp} {σ:St} {ρ:Rho} {S:Sto} {xs:List Xv} (i:Nat),Ext j H j' H'→En K F j' H' σ ρ S→get S=some xs→
 (∀x,xs[i]? =some x→J.go i H'∧∀v H'',J.yld i H' v H''→ZS H' H''∧Xis K j' H'' x v)∧(i=xs.length→J.stop i H')
noncomputable def RI (K:PySem.W.Frag) (E:XK) (t:TI) (m:TwI):Prop:=∀{F:Fm} {j:List Addr} {σ:St} {H:Hp} {ρ:Rho} {S:Sto} {r:Rs (Sto→Option (List Xv))} {R:It→Hp→Prop},En K F j H σ ρ S→m ρ S=some r→Po K F j H σ ρ E (fun get j' H'=>∀J,zdt K j' H' J get→R J H') r→t σ H R
noncomputable abbrev Op2:=Xv→Xv→Sto→Option (Xv×Sto)
noncomputable abbrev Opn:=List Xv→Sto→Option (Xv×Sto)
noncomputable def Zc (K:PySem.W.Frag) (r:R2) (f:Op2):Prop:=∀{F:Fm} {j:List Addr} {σ:St} {H:Hp} {ρ:Rho} {S S':Sto} {x y z:Xv} {u v:V} {Q:VK},En K F j H σ ρ S→Xis K j H x u→Xis K j H y v→f x y S=some (z,S')→(∀w j' H',Ext j H j' H'→En K F j' H' σ ρ S'→Xis K j' H' z w→Q w H')→r u v H Q
noncomputable def zdu (K:PySem.W.Frag) (r:V→Hp→VK→Prop) (f:Xv→Sto→Option (Xv×Sto)):Prop:=∀{F:Fm} {j:List Addr} {σ:St} {H:Hp} {ρ:Rho} {S S':Sto} {x z:Xv} {u:V} {Q:VK},En K F j H σ ρ S→Xis K j H x u→f x S=some (z,S')→(∀w j' H',Ext j H j' H'→En K F j' H' σ ρ S'→Xis K j' H' z w→Q w H')→r u H Q
noncomputable def Vy (K:PySem.W.Frag) (r:List V→Hp→VK→Prop) (f:Opn):Prop:=∀{F:Fm} {j:List Addr} {σ:St} {H:Hp} {ρ:Rho} {S S':Sto} {xs:List Xv} {z:Xv} {vs:List V} {Q:VK},En K F j H σ ρ S→zJ K j H xs vs→f xs S=some (z,S')→(∀w j' H',Ext j H j' H'→En K F j' H' σ ρ S'→Xis K j' H' z w→Q w H')→r vs H Q
noncomputable def ze (i:Nat):TwE:=fun ρ S=>match ρ[i]? with
 |some (some x)=>some (.ok x S)
 |_=>none
noncomputable def eC (x:Xv):TwE:=fun _ S=>some (.ok x S)
noncomputable def okP (o:Option (Xv×Sto)):Option (Rs Xv):=o.map fun p=> .ok p.1 p.2
theorem wa {o:Option (Xv×Sto)} {r:Rs Xv} (h:okP o=some r):∃z S,o=some (z,S)∧r= .ok z S:=by
 cases o with
 |none=>cases h
 |some p=>cases h;exact ⟨_,_,rfl,rfl⟩
noncomputable def eOp (f:Op2) (a b:TwE):TwE:=fun ρ S=>rb (a ρ S) fun x S1=>rb (b ρ S1) fun y S2=>okP (f x y S2)
noncomputable def eUn (f:Xv→Sto→Option (Xv×Sto)) (a:TwE):TwE:=fun ρ S=>rb (a ρ S) fun x S1=>okP (f x S1)
noncomputable def bE (m:TwE):TwT:=fun ρ S=>rb (m ρ S) fun x S1=>match x with
 | .bl b=>some (.ok b S1)
 |_=>none
noncomputable def eB (m:TwT):TwE:=fun ρ S=>rb (m ρ S) fun b S1=>some (.ok (.bl b) S1)
noncomputable def zbn (a b:TwT):TwT:=fun ρ S=>rb (a ρ S) fun x S1=>if x then b ρ S1 else some (.ok false S1)
noncomputable def bOr (a b:TwT):TwT:=fun ρ S=>rb (a ρ S) fun x S1=>if x then some (.ok true S1) else b ρ S1
noncomputable def YR (a:TwT):TwT:=fun ρ S=>rb (a ρ S) fun x S1=>some (.ok (!x) S1)
noncomputable def TQ (a b:TwE):TwE:=fun ρ S=>rb (bE a ρ S) fun x S1=>if x then b ρ S1 else some (.ok (.bl false) S1)
noncomputable def eIf (c:TwT) (a b:TwE):TwE:=fun ρ S=>rb (c ρ S) fun x S1=>if x then a ρ S1 else b ρ S1
noncomputable def evL:List TwE→TwL
 |[]=>fun _ S=>some (.ok [] S)
 |m::r=>fun ρ S=>rb (m ρ S) fun x S1=>rb (evL r ρ S1) fun xs S2=>some (.ok (x::xs) S2)
noncomputable def zT (ms:List TwE):TwE:=fun ρ S=>rb (evL ms ρ S) fun xs S1=>some (.ok (.tup xs) S1)
noncomputable def Yo (ms:List TwE):TwE:=fun ρ S=>rb (evL ms ρ S) fun xs S1=>some (.ok (.ref S1.length) (S1++[.lst xs]))
noncomputable def eFn (f:Opn) (ms:List TwE):TwE:=fun ρ S=>rb (evL ms ρ S) fun xs S1=>okP (f xs S1)
noncomputable def zdY (f:Xv→Option Xv):Xv→Sto→Option (Xv×Sto):=fun x S=>(f x).map fun z=>(z,S)
section
variable {K:PySem.W.Frag} {E:XK} {F:Fm} {j:List Addr} {H:Hp} {σ:St} {ρ:Rho} {S:Sto}
theorem Po.val {Q:VK} {x:Xv} {v:V} (k:Po K F j H σ ρ E (PoV K Q) (.ok x S)) (En0:En K F j H σ ρ S) (h:Xis K j H x v):Q v H:=k j H Ext.refl En0 v h
theorem zc (i:Nat):RE K E (zca i) (ze i):=by
 intro F j σ H ρ S r Q En0 e k
 unfold ze at e
 split at e
 ·rename_i x ex
  cases e
  obtain ⟨v,e1,e2⟩:=En0.slot i _ ex
  exact ⟨v,e1,k.val En0 e2⟩
 ·cases e
theorem UO {v:V} {x:Xv} (h:∀j H,Xis K j H x v):RE K E (tC v) (eC x):=fun En0 e k=>by
 cases e
 exact k.val En0 (h _ _)
theorem zj (i:Int):RE K E (tC (.int i)) (eC (.int i)):=UO fun _ _=> .int i
theorem xi (x:Str):RE K E (tC (.str x)) (eC (.str x)):=UO fun _ _=> .str x
theorem Xn (b:Bool):RE K E (tC (.bl b)) (eC (.bl b)):=UO fun _ _=> .bl b
theorem TR:RE K E (tC .non) (eC .non):=UO fun _ _=> .non
theorem zp {r:R2} {f:Op2} {ta tb:TE} {a b:TwE} (ho:Zc K r f) (ha:RE K E ta a) (hb:RE K E tb b):RE K E (tOp r ta tb) (eOp f a b):=by
 intro F j σ H ρ S r Q En0 e k
 rcases zu e with ⟨x,S1,e1,e⟩|⟨c,S1,e1,rfl⟩
 ·refine ha En0 e1 fun j1 H1 X1 E1 u hu=> ?_
  rcases zu e with ⟨y,S2,e2,e⟩|⟨c,S2,e2,rfl⟩
  ·obtain ⟨z,S3,e3,rfl⟩:=wa e
   exact hb E1 e2 fun j2 H2 X2 E2 v hv=>ho E2 (hu.mono X2) hv e3 fun w j3 H3 X3 E3 hw=>k _ _ (X1.trans (X2.trans X3)) E3 _ hw
  ·exact hb E1 e2 (PX.mono k X1)
 ·exact ha En0 e1 k
theorem zdv {r:V→Hp→VK→Prop} {f:Xv→Sto→Option (Xv×Sto)} {ta:TE} {a:TwE} (ho:zdu K r f) (ha:RE K E ta a):RE K E (tUn r ta) (eUn f a):=by
 intro F j σ H ρ S r Q En0 e k
 rcases zu e with ⟨x,S1,e1,e⟩|⟨c,S1,e1,rfl⟩
 ·obtain ⟨z,S3,e3,rfl⟩:=wa e
  exact ha En0 e1 fun j1 H1 X1 E1 u hu=>ho E1 hu e3 fun w j3 H3 X3 E3 hw=>k _ _ (X1.trans X3) E3 _ hw
 ·exact ha En0 e1 k
theorem xa {t:TE} {m:TwE} (h:RE K E t m):RT K E (tB t) (bE m):=by
 intro F j σ H ρ S r Q En0 e k
 rcases zu e with ⟨x,S1,e1,e⟩|⟨c,S1,e1,rfl⟩
 ·split at e
  ·cases e
   exact h En0 e1 fun j1 H1 X1 E1 u hu=>⟨_,hu.bl_inv,k _ _ X1 E1⟩
  ·cases e
 ·exact h En0 e1 k
theorem vG {t:TE} {m:TwE} (h:RE K E t m):RT K E (zbQ t) (bE m):=xa h
theorem TU {t u:TT} {a b:TwT} (ha:RT K E t a) (hb:RT K E u b):RT K E (zc5 t u) (zbn a b):=by
 intro F j σ H ρ S r Q En0 e k
 rcases zu e with ⟨x,S1,e1,e⟩|⟨c,S1,e1,rfl⟩
 ·refine ha En0 e1 fun j1 H1 X1 E1=> ?_
  cases x with
  |true=>exact hb E1 e (k.step X1)
  |false=>cases e;exact k _ _ X1 E1
 ·exact ha En0 e1 k
theorem WJ {t u:TT} {a b:TwT} (ha:RT K E t a) (hb:RT K E u b):RT K E (tOr t u) (bOr a b):=by
 intro F j σ H ρ S r Q En0 e k
 rcases zu e with ⟨x,S1,e1,e⟩|⟨c,S1,e1,rfl⟩
 ·refine ha En0 e1 fun j1 H1 X1 E1=> ?_
  cases x with
  |true=>cases e;exact k _ _ X1 E1
  |false=>exact hb E1 e (k.step X1)
 ·exact ha En0 e1 k
theorem Zx {t:TT} {a:TwT} (ha:RT K E t a):RT K E (zc6 t) (YR a):=by
 intro F j σ H ρ S r Q En0 e k
 rcases zu e with ⟨x,S1,e1,e⟩|⟨c,S1,e1,rfl⟩
 ·cases e
  exact ha En0 e1 fun j1 H1 X1 E1=>k _ _ X1 E1
 ·exact ha En0 e1 k
theorem Vz {ta tb:TE} {a b:TwE} (ha:RE K E ta a) (hb:RE K E tb b):RE K E (zbK ta tb) (TQ a b):=by
 intro F j σ H ρ S r Q En0 e k
 rcases zu e with ⟨x,S1,e1,e⟩|⟨c,S1,e1,rfl⟩
 ·rcases zu e1 with ⟨y,S2,e2,e1⟩|⟨c,S2,e2,z⟩
  ·split at e1
   ·cases e1
    refine ha En0 e2 fun j1 H1 X1 E1 u hu=>⟨_,hu.bl_inv,?_⟩
    cases x with
    |true=>exact hb E1 e (k.step X1)
    |false=>cases e;exact k _ _ X1 E1 _ (.bl false)
   ·cases e1
  ·cases z
 ·rcases zu e1 with ⟨y,S2,e2,e1⟩|⟨c,S2,e2,z⟩
  ·split at e1<;>cases e1
  ·cases z;exact ha En0 e2 k
theorem zcv {ta:TE} {a:TwE} (ha:RE K E ta a):RE K E (zbL ta) (eB (YR (bE a))):=by
 intro F j σ H ρ S r Q En0 e k
 rcases zu e with ⟨x,S1,e1,e⟩|⟨c,S1,e1,rfl⟩
 ·rcases zu e1 with ⟨y,S2,e2,e1⟩|⟨c,S2,e2,z⟩
  ·rcases zu e2 with ⟨z,S3,e3,e2⟩|⟨c,S3,e3,z⟩
   ·split at e2
    ·cases e2;cases e1;cases e
     exact ha En0 e3 fun j1 H1 X1 E1 u hu=>⟨_,hu.bl_inv,k _ _ X1 E1 _ (.bl _)⟩
    ·cases e2
   ·cases z
  ·cases z
 ·rcases zu e1 with ⟨y,S2,e2,e1⟩|⟨c,S2,e2,z⟩
  ·cases e1
  ·cases z
   rcases zu e2 with ⟨z,S3,e3,e2⟩|⟨c,S3,e3,z⟩
   ·split at e2<;>cases e2
   ·cases z;exact ha En0 e3 k
theorem zdw {t:TT} {c:TwT} {ta tb:TE} {a b:TwE} (hc:RT K E t c) (ha:RE K E ta a) (hb:RE K E tb b):RE K E (tIf t ta tb) (eIf c a b):=by
 intro F j σ H ρ S r Q En0 e k
 rcases zu e with ⟨x,S1,e1,e⟩|⟨c,S1,e1,rfl⟩
 ·refine hc En0 e1 fun j1 H1 X1 E1=> ?_
  cases x with
  |true=>exact ha E1 e (k.step X1)
  |false=>exact hb E1 e (k.step X1)
 ·exact hc En0 e1 k
noncomputable def Xv.isNon:Xv→Bool
 | .non=>true
 |_=>false
noncomputable def UP:Xv→Sto→Option (Xv×Sto):=zdY fun x=>some (.bl x.isNon)
theorem zbo {x:Xv} {v:V} (h:Xis K j H x v):decide (v= .non)=x.isNon:=by cases h<;>simp [Xv.isNon]
theorem TV {ta:TE} {a:TwE} (ha:RE K E ta a):RE K E (zc4 ta) (eUn UP a):=by
 intro F j σ H ρ S r Q En0 e k
 rcases zu e with ⟨x,S1,e1,e⟩|⟨c,S1,e1,rfl⟩
 ·cases e
  exact ha En0 e1 fun j1 H1 X1 E1 u hu=>k _ _ X1 E1 _ (by rw [zbo hu];exact .bl _)
 ·exact ha En0 e1 k
theorem zh:RL K E Tq (evL []):=fun En0 e k=>by
 cases e
 exact k _ _ Ext.refl En0 [] .nil
theorem zb {ta:TE} {tr:TA} {m:TwE} {ms:List TwE} (ha:RE K E ta m) (hr:RL K E tr (evL ms)):RL K E (Xc ta tr) (evL (m::ms)):=by
 intro F j σ H ρ S r Q En0 e k
 rcases zu e with ⟨x,S1,e1,e⟩|⟨c,S1,e1,rfl⟩
 ·refine ha En0 e1 fun j1 H1 X1 E1 u hu=> ?_
  rcases zu e with ⟨xs,S2,e2,e⟩|⟨c,S2,e2,rfl⟩
  ·cases e
   exact hr E1 e2 fun j2 H2 X2 E2 vs hv=>k _ _ (X1.trans X2) E2 (u::vs) (.cons (hu.mono X2) hv)
  ·exact hr E1 e2 (PX.mono k X1)
 ·exact ha En0 e1 k
theorem ZY:∀{ms:List TwE} {ρ:Rho} {S S':Sto} {xs:List Xv},evL ms ρ S=some (.ok xs S')→xs.length=ms.length
 |[],_,_,_,_,h=>by cases h;rfl
 |m::ms,ρ,S,S',xs,h=>by
  rcases zu h with ⟨x,S1,e1,h⟩|⟨c,S1,e1,z⟩
  ·rcases zu h with ⟨ys,S2,e2,h⟩|⟨c,S2,e2,z⟩
   ·cases h
    simp [ZY e2]
   ·cases z
  ·cases z
theorem zz {t:TA} {ms:List TwE} (h:RL K E t (evL ms)) (hl:ms.length≤1000:=by simp):RE K E (zdf t) (zT ms):=by
 intro F j σ H ρ S r Q En0 e k
 rcases zu e with ⟨xs,S1,e1,e⟩|⟨c,S1,e1,rfl⟩
 ·cases e
  refine h En0 e1 fun j1 H1 X1 E1 vs hv=>⟨?_,fun p hp=> ?_⟩
  ·rw [hv.len,ZY e1]
   exact Nat.le_trans hl (by decide)
  ·obtain ⟨E2,X2⟩:=E1.new (o:= .tup vs) hp
   exact k _ _ (X1.trans X2) E2 _ (.tup yr (hv.mono X2))
 ·exact h En0 e1 k
theorem En.lst {xs:List Xv} {vs:List V} {p:Addr} (En0:En K F j H σ ρ S) (hv:zJ K j H xs vs) (hp:H p=none):En K F (j++[p]) (upd H p (.lst vs)) σ ρ (S++[.lst xs])∧Ext j H (j++[p]) (upd H p (.lst vs))∧Xis K (j++[p]) (upd H p (.lst vs)) (.ref S.length) (.ref p):=by
 have X:Ext j H (j++[p]) (upd H p (.lst vs)):=⟨fun n a e=>by rw [List.getElem?_append_left (List.getElem?_eq_some_iff.1 e).1];exact e,xZ.same (yZ hp)⟩
 obtain ⟨E1,_⟩:=En0.cell (o:= .lst vs) (c:= .lst xs) hp ⟨vs,yr,hv.mono X⟩
 exact ⟨E1,X,.ref (by rw [←En0.jl];simp)⟩
theorem vS {t:TA} {ms:List TwE} (h:RL K E t (evL ms)) (hl:ms.length≤1000:=by simp):RE K E (zdg t) (Yo ms):=by
 intro F j σ H ρ S r Q En0 e k
 rcases zu e with ⟨xs,S1,e1,e⟩|⟨c,S1,e1,rfl⟩
 ·cases e
  refine h En0 e1 fun j1 H1 X1 E1 vs hv=>⟨?_,fun p hp=> ?_⟩
  ·rw [hv.len,ZY e1]
   exact Nat.le_trans hl (by decide)
  ·obtain ⟨E2,X2,h2⟩:=E1.lst hv hp
   exact k _ _ (X1.trans X2) E2 _ h2
 ·exact h En0 e1 k
theorem xz {t:TA} {ms:List TwE} {r:List V→Hp→VK→Prop} {f:Opn} (hr:Vy K r f) (h:RL K E t (evL ms)):RE K E (tCB r t) (eFn f ms):=by
 intro F j σ H ρ S r Q En0 e k
 rcases zu e with ⟨xs,S1,e1,e⟩|⟨c,S1,e1,rfl⟩
 ·obtain ⟨z,S3,e3,rfl⟩:=wa e
  exact h En0 e1 fun j1 H1 X1 E1 vs hv=>hr E1 hv e3 fun w j3 H3 X3 E3 hw=>k _ _ (X1.trans X3) E3 _ hw
 ·exact h En0 e1 k
end
end L2
namespace L2
open PySem
noncomputable def zP (S:Sto):Xv→Option (List Xv)
 | .ref n=>match S[n]? with
  |some (.lst xs)=>some xs
  |some (.frz xs)=>some xs
  |_=>none
 |_=>none
noncomputable def wX (S:Sto) (x:Xv):Option (List Xv):=match x.tupOf with
 |some xs=>some xs
 |none=>zP S x
noncomputable def YS (S:Sto):Xv→Option (Nat×List Xv)
 | .ref n=>match S[n]? with
  |some (.lst xs)=>some (n,xs)
  |_=>none
 |_=>none
section
variable {K:PySem.W.Frag} {E:XK} {F:Fm} {j:List Addr} {H:Hp} {σ:St} {ρ:Rho} {S:Sto} {x:Xv} {v:V}
theorem En.lstAt {xs:List Xv} (E0:En K F j H σ ρ S) (hx:Xis K j H x v) (h:L2.zP S x=some xs):∃a vs,v= .ref a∧SqX K H a vs∧zJ K j H xs vs:=by
 cases x<;>simp only [L2.zP,reduceCtorEq] at h
 obtain ⟨a,rfl,hj⟩:=hx.ref_inv
 split at h
 ·cases h
  obtain ⟨vs,e1,e2⟩:=E0.cel _ _ _ (by assumption) hj
  exact ⟨a,vs,rfl,SqX.of e1,e2⟩
 ·cases h
  obtain ⟨vs,e1,e2⟩:=E0.cel _ _ _ (by assumption) hj
  refine ⟨a,vs,rfl,?_,e2⟩
  rcases e1 with ⟨o,e1⟩|e1
  ·exact .inl (.inr ⟨o,e1⟩)
  ·exact e1 H
 ·cases h
theorem En.seqAt {xs:List Xv} (E0:En K F j H σ ρ S) (hx:Xis K j H x v) (h:L2.wX S x=some xs):∃a vs,v= .ref a∧(SqX K H a vs∨SqT K H a vs)∧zJ K j H xs vs:=by
 unfold L2.wX at h
 split at h
 ·cases h
  obtain ⟨a,vs,e1,e2,e3⟩:=hx.tupO (by assumption)
  exact ⟨a,vs,e1,.inr e2,e3⟩
 ·obtain ⟨a,vs,e1,e2,e3⟩:=E0.lstAt hx h
  exact ⟨a,vs,e1,.inl e2,e3⟩
theorem Xo {n:Nat} {xs:List Xv} (h:YS S x=some (n,xs)):x= .ref n∧S[n]? =some (.lst xs):=by
 cases x<;>simp only [YS,reduceCtorEq] at h
 split at h
 ·cases h;exact ⟨rfl,by assumption⟩
 ·cases h
theorem En.wl {n:Nat} {xs:List Xv} (E0:En K F j H σ ρ S) (hx:Xis K j H x v) (h:YS S x=some (n,xs)):∃a vs,v= .ref a∧j[n]? =some a∧H a=some (.lst vs)∧zJ K j H xs vs:=by
 obtain ⟨rfl,hs⟩:=Xo h
 obtain ⟨a,rfl,hj⟩:=hx.ref_inv
 obtain ⟨vs,e1,e2⟩:=E0.cel _ _ _ hs hj
 exact ⟨a,vs,rfl,hj,e1,e2⟩
theorem En.wr {n:Nat} {xs ys:List Xv} {ws:List V} {a:Addr} (E0:En K F j H σ ρ S) (h:YS S x=some (n,xs)) (hj:j[n]? =some a) (hw:zJ K j H ys ws):En K F j (upd H a (.lst ws)) σ ρ (S.set n (.lst ys))∧Ext j H j (upd H a (.lst ws)):=
 E0.write (Xo h).2 rfl hj rfl fun X=>⟨ws,yr,hw.mono X⟩
theorem tyL {a:Addr} {vs:List V} (h:SqL K H a vs):tyV K "list" (.ref a) H:= .inl ⟨rfl,vs,h⟩
noncomputable def zM:Op2:=fun x y S=>match x.tupOf,y with
 |some xs,.int i=>(atI xs i).map fun z=>(z,S)
 |_,_=>none
noncomputable def VA:Op2:=fun x y S=>match zP S x,y with
 |some xs,.int i=>(atI xs i).map fun z=>(z,S)
 |_,_=>none
theorem zQ:Zc K (zbe K) zM:=by
 intro F j σ H ρ S S' x y z u v Q E0 hx hy h k
 unfold zM at h
 split at h
 ·rename_i xs i ex
  cases e:atI xs i with
  |none=>rw [e] at h;cases h
  |some z'=>
   rw [e] at h
   cases h
   obtain ⟨a,vs,rfl,h1,h2⟩:=hx.tupO ex
   obtain ⟨w,e1,e2⟩:=h2.at_ e
   exact ⟨a,vs,_,w,rfl,hy.int_inv,h1,e1,k _ _ _ Ext.refl E0 e2⟩
 ·cases h
theorem VB:Zc K (zbd K) VA:=by
 intro F j σ H ρ S S' x y z u v Q E0 hx hy h k
 unfold VA at h
 split at h
 ·rename_i xs i ex
  cases e:atI xs i with
  |none=>rw [e] at h;cases h
  |some z'=>
   rw [e] at h
   cases h
   obtain ⟨a,vs,rfl,h1,h2⟩:=E0.lstAt hx ex
   obtain ⟨w,e1,e2⟩:=h2.at_ e
   exact ⟨a,vs,_,w,rfl,hy.int_inv,h1.sql,e1,k _ _ _ Ext.refl E0 e2⟩
 ·cases h
noncomputable def WK:Op2:=fun x y S=>match wX S x,y with
 |some xs,.int i=>(atI xs i).map fun z=>(z,S)
 |_,_=>none
theorem XR:Zc K (rIx K) WK:=by
 intro F j σ H ρ S S' x y z u v Q E0 hx hy h k
 unfold WK at h
 split at h
 ·rename_i xs i ex
  cases e:atI xs i with
  |none=>rw [e] at h;cases h
  |some z'=>
   rw [e] at h
   cases h
   obtain ⟨a,vs,rfl,h1,h2⟩:=E0.seqAt hx ex
   obtain ⟨w,e1,e2⟩:=h2.at_ e
   rcases h1 with h1|h1
   ·exact .inl ⟨a,vs,_,w,rfl,hy.int_inv,h1.sql,e1,k _ _ _ Ext.refl E0 e2⟩
   ·exact .inr (.inl ⟨a,vs,_,w,rfl,hy.int_inv,h1,e1,k _ _ _ Ext.refl E0 e2⟩)
 ·cases h
noncomputable def oNo:TwO:=fun _ S=>some (.ok none S)
noncomputable def TW (m:TwE):TwO:=fun ρ S=>rb (m ρ S) fun x S1=>match x with
 | .int i=>some (.ok (some i) S1)
 |_=>none
theorem zdx:RO K E Uc oNo:=fun E0 e k=>by
 cases e
 exact k _ _ Ext.refl E0
theorem zbp {t:TE} {m:TwE} (h:RE K E t m):RO K E (zbS t) (TW m):=by
 intro F j σ H ρ S r Q En0 e k
 rcases zu e with ⟨x,S1,e1,e⟩|⟨c,S1,e1,rfl⟩
 ·split at e
  ·cases e
   exact h En0 e1 fun j1 H1 X1 E1 u hu=>⟨_,hu.int_inv,k _ _ X1 E1⟩
  ·cases e
 ·exact h En0 e1 k
noncomputable def UQ {α:Type} (xs:List α) (lo hi:Option Int):List α:=(xs.drop (HT.sIx xs.length 0 lo)).take (HT.sIx xs.length xs.length hi-HT.sIx xs.length 0 lo)
theorem zJ.cut {xs:List Xv} {vs:List V} (h:zJ K j H xs vs) (lo hi:Option Int):zJ K j H (UQ xs lo hi) (UD vs lo hi):=by
 unfold UD UQ
 rw [h.len]
 exact (h.drop _).take _
noncomputable def eSl (f:Xv→Option Int→Option Int→Sto→Option (Xv×Sto)) (m:TwE) (lo hi:TwO):TwE:=fun ρ S=>rb (m ρ S) fun x S1=>rb (lo ρ S1) fun y S2=>rb (hi ρ S2) fun z S3=>okP (f x y z S3)
noncomputable def zbZ (K:PySem.W.Frag) (r:V→Option Int→Option Int→Hp→VK→Prop) (f:Xv→Option Int→Option Int→Sto→Option (Xv×Sto)):Prop:=∀{F:Fm} {j:List Addr} {σ:St} {H:Hp} {ρ:Rho} {S S':Sto} {x z:Xv} {lo hi:Option Int} {u:V} {Q:VK},En K F j H σ ρ S→Xis K j H x u→f x lo hi S=some (z,S')→(∀w j' H',Ext j H j' H'→En K F j' H' σ ρ S'→Xis K j' H' z w→Q w H')→r u lo hi H Q
theorem zdy {r:V→Option Int→Option Int→Hp→VK→Prop} {f:Xv→Option Int→Option Int→Sto→Option (Xv×Sto)} {te:TE} {tl th:TO} {m:TwE} {lo hi:TwO} (ho:zbZ K r f) (hm:RE K E te m) (hl:RO K E tl lo) (hh:RO K E th hi):RE K E (tSl r te tl th) (eSl f m lo hi):=by
 intro F j σ H ρ S r Q En0 e k
 rcases zu e with ⟨x,S1,e1,e⟩|⟨c,S1,e1,rfl⟩
 ·refine hm En0 e1 fun j1 H1 X1 E1 u hu=> ?_
  rcases zu e with ⟨y,S2,e2,e⟩|⟨c,S2,e2,rfl⟩
  ·refine hl E1 e2 fun j2 H2 X2 E2=> ?_
   rcases zu e with ⟨z,S3,e3,e⟩|⟨c,S3,e3,rfl⟩
   ·obtain ⟨w,S4,e4,rfl⟩:=wa e
    exact hh E2 e3 fun j3 H3 X3 E3=>ho E3 (hu.mono (X2.trans X3)) e4 fun w j4 H4 X4 E4 hw=>k _ _ (X1.trans (X2.trans (X3.trans X4))) E4 _ hw
   ·exact hh E2 e3 (PX.mono k (X1.trans X2))
  ·exact hl E1 e2 (PX.mono k X1)
 ·exact hm En0 e1 k
noncomputable def VC:Xv→Option Int→Option Int→Sto→Option (Xv×Sto):=fun x lo hi S=>(zP S x).map fun xs=>(.ref S.length,S++[.lst (UQ xs lo hi)])
theorem zdz:zbZ K (Tt K) VC:=by
 intro F j σ H ρ S S' x z lo hi u Q E0 hx h k
 unfold VC at h
 cases e:zP S x with
 |none=>rw [e] at h;cases h
 |some xs=>
  rw [e] at h
  cases h
  obtain ⟨a,vs,rfl,h1,h2⟩:=E0.lstAt hx e
  refine ⟨a,vs,rfl,h1.sql,fun p hp=> ?_⟩
  obtain ⟨E1,X1,h3⟩:=E0.lst (h2.cut lo hi) hp
  exact k _ _ _ X1 E1 h3
theorem zcw {te:TE} {tl th:TO} {m:TwE} {lo hi:TwO} (hm:RE K E te m) (hl:RO K E tl lo) (hh:RO K E th hi):RE K E (tSl (Tt K) te tl th) (eSl VC m lo hi):= @zdy K E (Tt K) VC te tl th m lo hi (@zdz K) hm hl hh
noncomputable abbrev OpM:=Xv→List Xv→Sto→Option (Xv×Sto)
noncomputable def TX (K:PySem.W.Frag) (r:V→List V→Hp→VK→Prop) (f:OpM):Prop:=∀{F:Fm} {j:List Addr} {σ:St} {H:Hp} {ρ:Rho} {S S':Sto} {x z:Xv} {ys:List Xv} {u:V} {vs:List V} {Q:VK},En K F j H σ ρ S→Xis K j H x u→zJ K j H ys vs→f x ys S=some (z,S')→(∀w j' H',Ext j H j' H'→En K F j' H' σ ρ S'→Xis K j' H' z w→Q w H')→r u vs H Q
noncomputable def eMt (f:OpM) (o:TwE) (ms:List TwE):TwE:=fun ρ S=>rb (o ρ S) fun x S1=>(zP S1 x).bind fun _=>rb (evL ms ρ S1) fun ys S2=>okP (f x ys S2)
theorem ZI {r:V→List V→Hp→VK→Prop} {f:OpM} {to:TE} {t:TA} {o:TwE} {ms:List TwE} (hr:TX K r f) (ho:RE K E to o) (ht:RL K E t (evL ms)):RE K E (tBM K "list" r to t) (eMt f o ms):=by
 intro F j σ H ρ S r Q En0 e k
 rcases zu e with ⟨x,S1,e1,e⟩|⟨c,S1,e1,rfl⟩
 ·refine ho En0 e1 fun j1 H1 X1 E1 u hu=> ?_
  cases el:L2.zP S1 x with
  |none=>rw [el] at e;cases e
  |some l=>
   rw [el] at e
   obtain ⟨a,vs,rfl,h1,_⟩:=E1.lstAt hu el
   refine ⟨tyL h1.sql,?_⟩
   rcases zu e with ⟨ys,S2,e2,e⟩|⟨c,S2,e2,rfl⟩
   ·obtain ⟨z,S3,e3,rfl⟩:=wa e
    exact ht E1 e2 fun j2 H2 X2 E2 ws hw=>hr E2 (hu.mono X2) hw e3 fun w j3 H3 X3 E3 hz=>k _ _ (X1.trans (X2.trans X3)) E3 _ hz
   ·exact ht E1 e2 (PX.mono k X1)
 ·exact ho En0 e1 k
theorem VD {r:V→List V→Hp→VK→Prop} {f:OpM} {to:TE} {o:TwE} (hr:TX K r f) (ho:RE K E to o):RE K E (zdk K "list" r to) (eMt f o []):=by
 intro F j σ H ρ S r Q En0 e k
 exact ZI hr ho zh En0 e k
noncomputable def yi:OpM:=fun x ys S=>match YS S x,ys with
 |some (n,xs),[y]=>if xs.length<sizeLine then some (.non,S.set n (.lst (xs++[y]))) else none
 |_,_=>none
theorem xH:TX K Ue yi:=by
 intro F j σ H ρ S S' x z ys u vs Q E0 hx hy h k
 unfold yi at h
 split at h
 ·rename_i n xs y e
  split at h
  ·rename_i hl
   cases h
   obtain ⟨a,ws,rfl,hj,h1,h2⟩:=E0.wl hx e
   obtain ⟨w,rfl,hw⟩:=hy.d1
   obtain ⟨E1,X1⟩:=E0.wr e hj (h2.append (.one hw))
   exact ⟨a,ws,w,rfl,rfl,h1,by rw [h2.len];exact hl,k _ _ _ X1 E1 .non⟩
  ·cases h
 ·cases h
noncomputable def XS:OpM:=fun x ys S=>match YS S x,ys with
 |some (n,xs),[]=>(xs[xs.length-1]?).map fun y=>(y,S.set n (.lst xs.dropLast))
 |_,_=>none
theorem TY:TX K zdl XS:=by
 intro F j σ H ρ S S' x z ys u vs Q E0 hx hy h k
 unfold XS at h
 split at h
 ·rename_i n xs e
  cases e1:xs[xs.length-1]? with
  |none=>rw [e1] at h;cases h
  |some y=>
   rw [e1] at h
   cases h
   obtain ⟨a,ws,rfl,hj,h1,h2⟩:=E0.wl hx e
   obtain rfl:=hy.nil_inv
   obtain ⟨w,f1,f2⟩:=h2.get e1
   obtain ⟨E1,X1⟩:=E0.wr e hj h2.dropLast
   exact ⟨a,ws,w,rfl,rfl,h1,by rw [h2.len];exact f1,k _ _ _ X1 E1 (f2.mono X1)⟩
 ·cases h
noncomputable def Yp:OpM:=fun x ys S=>match YS S x,ys with
 |some (n,_),[]=>some (.non,S.set n (.lst []))
 |_,_=>none
theorem TZ:TX K Tw Yp:=by
 intro F j σ H ρ S S' x z ys u vs Q E0 hx hy h k
 unfold Yp at h
 split at h
 ·rename_i n xs e
  cases h
  obtain ⟨a,ws,rfl,hj,h1,h2⟩:=E0.wl hx e
  obtain rfl:=hy.nil_inv
  obtain ⟨E1,X1⟩:=E0.wr e hj (ys:=[]) .nil
  exact ⟨a,ws,rfl,rfl,h1,k _ _ _ X1 E1 .non⟩
 ·cases h
noncomputable def zF (a b:TwS):TwS:=fun ρ S=>match a ρ S with
 |some (.nx ρ1 S1)=>b ρ1 S1
 |r=>r
noncomputable def yO:TwS:=fun ρ S=>some (.nx ρ S)
noncomputable def zS (m:TwE) (g:TwG):TwS:=fun ρ S=>sb (m ρ S) fun x S1=>sb (g x ρ S1) fun ρ1 S2=>some (.nx ρ1 S2)
noncomputable def xb (m:TwE):TwS:=fun ρ S=>sb (m ρ S) fun _ S1=>some (.nx ρ S1)
noncomputable def xc (m:TwE):TwS:=fun ρ S=>sb (m ρ S) fun x S1=>some (.rt x S1)
noncomputable def sIf (c:TwT) (a b:TwS):TwS:=fun ρ S=>sb (c ρ S) fun x S1=>if x then a ρ S1 else b ρ S1
noncomputable def vL (r:Option Fl) (go:Rho→Sto→Option Fl):Option Fl:=match r with
 |some (.nx ρ S)=>go ρ S
 |some (.ct ρ S)=>go ρ S
 |some (.bk ρ S)=>some (.nx ρ S)
 |r=>r
noncomputable def vN (get:Sto→Option (List Xv)) (g:TwG) (b:TwS):Nat→Nat→Rho→Sto→Option Fl
 |0,_,_,_=>none
 |f+1,i,ρ,S=>(get S).bind fun xs=>match xs[i]? with
  |none=>if i=xs.length then some (.nx ρ S) else none
  |some x=>sb (g x ρ S) fun ρ1 S1=>vL (b ρ1 S1) fun ρ2 S2=>vN get g b f (i+1) ρ2 S2
noncomputable def YT (m:TwI) (g:TwG) (b:TwS):TwS:=fun ρ S=>sb (m ρ S) fun get S1=>(get S1).bind fun xs=>vN get g b (xs.length+1) 0 ρ S1
noncomputable def ZU (c:TwT) (b:TwS):Nat→Rho→Sto→Option Fl
 |0,_,_=>none
 |n+1,ρ,S=>sb (c ρ S) fun x S1=>if x then vL (b ρ S1) fun ρ2 S2=>ZU c b n ρ2 S2 else some (.nx ρ S1)
noncomputable def sWh (n:Nat) (c:TwT) (b:TwS):TwS:=fun ρ S=>ZU c b n ρ S
noncomputable def gN (i:Nat):TwG:=fun x ρ S=>some (.ok (ρ.set i (some x)) S)
noncomputable def WL:Vx:=fun xs ρ S=>match xs with
 |[]=>some (.ok ρ S)
 |_=>none
noncomputable def wH (g:TwG) (gs:Vx):Vx:=fun xs ρ S=>match xs with
 |x::r=>rb (g x ρ S) fun ρ1 S1=>gs r ρ1 S1
 |_=>none
noncomputable def gT (n:Nat) (gs:Vx):TwG:=fun x ρ S=>x.tupOf.bind fun l=>if l.length=n then gs l ρ S else none
theorem zo {i:Nat}:RG K E (VZ i) (gN i):=fun E0 hx e k=>by
 cases e
 exact k _ _ _ Ext.refl (E0.set hx)
theorem Ug:RGs K E zda WL:=by
 intro F j σ H ρ S r xs vs R E0 hv e k
 unfold WL at e
 split at e
 ·cases e
  obtain rfl:=hv.nil_inv
  exact ⟨rfl,k _ _ _ Ext.refl E0⟩
 ·cases e
theorem vm {t:TG} {u:TGs} {g:TwG} {gs:Vx} (h1:RG K E t g) (h2:RGs K E u gs):RGs K E (zbO t u) (wH g gs):=by
 intro F j σ H ρ S r xs vs R E0 hv e k
 unfold wH at e
 split at e
 ·obtain ⟨w,ws,rfl,hw,hws⟩:=hv.cons_inv
  rcases zu e with ⟨ρ1,S1,e1,e⟩|⟨c,S1,e1,rfl⟩
  ·exact ⟨w,ws,rfl,h1 E0 hw e1 fun σ1 j1 H1 X1 E1=>h2 E1 (hws.mono X1) e (k.step X1)⟩
  ·exact ⟨w,ws,rfl,h1 E0 hw e1 k⟩
 ·cases e
theorem zaa {n:Nat} {t:TGs} {gs:Vx} (h:RGs K E t gs):RG K E (zcd K n t) (gT n gs):=by
 intro F j σ H ρ S r x v R E0 hx e k
 unfold gT at e
 cases ex:x.tupOf with
 |none=>rw [ex] at e;cases e
 |some l=>
  rw [ex] at e
  dsimp only [Option.bind] at e
  split at e
  ·rename_i hn
   obtain ⟨a,vs,rfl,h1,h2⟩:=hx.tupO ex
   exact ⟨a,vs,rfl,h1,by rw [h2.len];exact hn,h E0 h2 e k⟩
  ·cases e
theorem yj:RS K E zbM yO:=fun E0 e k=>by
 cases e
 exact k _ _ _ Ext.refl E0
theorem zq {t u:TS} {a b:TwS} (ha:RS K E t a) (hb:RS K E u b):RS K E (zc7 t u) (zF a b):=by
 intro F j D' σ H ρ S fl E0 e k
 unfold zF at e
 split at e
 ·rename_i ρ1 S1 e1
  exact ha (D':={D' with nx:=u D'}) E0 e1 fun σ1 j1 H1 X1 E1=>hb E1 e (k.step X1)
 ·rename_i hn
  refine ha (D':={D' with nx:=u D'}) E0 e ?_
  cases fl with
  |nx ρ1 S1=>exact absurd e (hn ρ1 S1)
  |bk ρ1 S1=>exact k
  |ct ρ1 S1=>exact k
  |rt x S1=>exact k
  |ex c S1=>exact k
theorem zA {te:TE} {g:TG} {m:TwE} {g':TwG} (h:RE K E te m) (hg:RG K E g g'):RS K E (zcf te g) (zS m g'):=by
 intro F j D' σ H ρ S fl E0 e k
 rcases wz e with ⟨x,S1,e1,e⟩|⟨c,S1,e1,rfl⟩
 ·refine h E0 e1 fun j1 H1 X1 E1 u hu=> ?_
  rcases wz e with ⟨ρ1,S2,e2,e⟩|⟨c,S2,e2,rfl⟩
  ·cases e
   exact hg E1 hu e2 fun σ2 j2 H2 X2 E2=>k _ _ _ (X1.trans X2) E2
  ·exact hg E1 hu e2 (PX.mono k X1)
 ·exact h E0 e1 k
theorem xO {te:TE} {m:TwE} (h:RE K E te m):RS K E (zbN te) (xb m):=by
 intro F j D' σ H ρ S fl E0 e k
 rcases wz e with ⟨x,S1,e1,e⟩|⟨c,S1,e1,rfl⟩
 ·cases e
  exact h E0 e1 fun j1 H1 X1 E1 u hu=>k _ _ _ X1 E1
 ·exact h E0 e1 k
theorem zW {te:TE} {m:TwE} (h:RE K E te m):RS K E (zc8 te) (xc m):=by
 intro F j D' σ H ρ S fl E0 e k
 rcases wz e with ⟨x,S1,e1,e⟩|⟨c,S1,e1,rfl⟩
 ·cases e
  exact h E0 e1 fun j1 H1 X1 E1 u hu=>k _ _ _ _ _ X1 E1 hu
 ·exact h E0 e1 k
theorem yC {c:TT} {t u:TS} {m:TwT} {a b:TwS} (hc:RT K E c m) (ha:RS K E t a) (hb:RS K E u b):RS K E (zc9 c t u) (sIf m a b):=by
 intro F j D' σ H ρ S fl E0 e k
 rcases wz e with ⟨x,S1,e1,e⟩|⟨c,S1,e1,rfl⟩
 ·refine hc E0 e1 fun j1 H1 X1 E1=> ?_
  cases x with
  |true=>exact ha E1 e (k.step X1)
  |false=>exact hb E1 e (k.step X1)
 ·exact hc E0 e1 k
theorem Xp {r:Option Fl} {go:Rho→Sto→Option Fl} {fl:Fl} (h:vL r go=some fl):∃f,r=some f∧((∃ρ S,(f= .nx ρ S∨f= .ct ρ S)∧go ρ S=some fl)∨(∃ρ S,f= .bk ρ S∧fl= .nx ρ S)∨(f=fl∧((∃x S,fl= .rt x S)∨∃c S,fl= .ex c S))):=by
 unfold vL at h
 split at h
 ·exact ⟨_,rfl,.inl ⟨_,_,.inl rfl,h⟩⟩
 ·exact ⟨_,rfl,.inl ⟨_,_,.inr rfl,h⟩⟩
 ·cases h;exact ⟨_,rfl,.inr (.inl ⟨_,_,rfl,rfl⟩)⟩
 ·rename_i n1 n2 n3
  refine ⟨fl,h,.inr (.inr ⟨rfl,?_⟩)⟩
  cases fl with
  |nx ρ S=>exact absurd h (n1 ρ S)
  |ct ρ S=>exact absurd h (n2 ρ S)
  |bk ρ S=>exact absurd h (n3 ρ S)
  |rt x S=>exact .inl ⟨x,S,rfl⟩
  |ex c S=>exact .inr ⟨c,S,rfl⟩
theorem XT {wi:TI} {g:TG} {tb:TS} {m:TwI} {g':TwG} {b:TwS} (hi:RI K E wi m) (hg:RG K E g g') (hb:RS K E tb b):RS K E (zdb wi g tb) (YT m g' b):=by
 intro F j D' σ H ρ S fl E0 e k
 rcases wz e with ⟨get,S1,e1,e⟩|⟨c,S1,e1,rfl⟩
 ·refine hi E0 e1 fun j1 H1 X1 E1 J ok=> ?_
  cases eg:get S1 with
  |none=>rw [eg] at e;cases e
  |some xs=>
   rw [eg] at e
   refine ⟨fun i n σ H=>∃j2 ρ2 S2,Ext j1 H1 j2 H∧En K F j2 H σ ρ2 S2∧vN get g' b n i ρ2 S2=some fl,⟨xs.length+1,j1,ρ,S1,Ext.refl,E1,e⟩,?_⟩
   rintro i n σ2 H2 ⟨j2,ρ2,S2,X2,E2,e2⟩
   cases n with
   |zero=>cases e2
   |succ n=>
    unfold vN at e2
    cases eg2:get S2 with
    |none=>rw [eg2] at e2;cases e2
    |some ys=>
     rw [eg2] at e2
     dsimp only [Option.bind] at e2
     obtain ⟨go,stop⟩:=ok i X2 E2 eg2
     split at e2
     ·split at e2
      ·rename_i hl
       cases e2
       exact .inl ⟨stop hl,k _ _ _ (X1.trans X2) E2⟩
      ·cases e2
     ·rename_i x ex
      obtain ⟨g1,g2⟩:=go x ex
      refine .inr ⟨g1,fun σ' H'=>∃j3 ρ3 S3,Ext j1 H1 j3 H'∧En K F j3 H' σ' ρ3 S3∧vN get g' b n (i+1) ρ3 S3=some fl,fun _ _ z=>⟨n,Nat.lt_succ_self _,z⟩,fun v H3 hy=> ?_⟩
      obtain ⟨Sm,hv⟩:=g2 v H3 hy
      have E3:=E2.heap Sm
      have X3:Ext j2 H2 j2 H3:=Ext.same Sm
      rcases wz e2 with ⟨ρ4,S4,e4,e2⟩|⟨c,S4,e4,rfl⟩
      ·refine hg E3 hv e4 fun σ4 j4 H4 X4 E4=> ?_
       obtain ⟨f5,e5,h5⟩:=Xp e2
       refine hb E4 e5 ?_
       have X14:=X2.trans (X3.trans X4)
       rcases h5 with ⟨ρ6,S6,h6,e6⟩|⟨ρ6,S6,rfl,rfl⟩|⟨rfl,h6⟩
       ·rcases h6 with rfl|rfl
        ·exact fun σ5 j5 H5 X5 E5=>⟨j5,ρ6,S6,X14.trans X5,E5,e6⟩
        ·exact fun σ5 j5 H5 X5 E5=>⟨j5,ρ6,S6,X14.trans X5,E5,e6⟩
       ·exact fun σ5 j5 H5 X5 E5=>k _ _ _ (X1.trans (X14.trans X5)) E5
       ·rcases h6 with ⟨x6,S6,rfl⟩|⟨c6,S6,rfl⟩
        ·exact fun v σ5 ρ5 j5 H5 X5 E5 hv=>k v σ5 ρ5 _ _ (X1.trans (X14.trans X5)) E5 hv
        ·exact PX.mono k (X1.trans X14)
      ·exact hg E3 hv e4 (PX.mono k (X1.trans (X2.trans X3)))
 ·exact hi E0 e1 k
theorem Yq {c:TT} {tb:TS} {m:TwT} {b:TwS} {n:Nat} (hc:RT K E c m) (hb:RS K E tb b):RS K E (Tl c tb) (sWh n m b):=by
 intro F j D' σ H ρ S fl E0 e k
 refine ⟨fun n σ2 H2=>∃j2 ρ2 S2,Ext j H j2 H2∧En K F j2 H2 σ2 ρ2 S2∧ZU m b n ρ2 S2=some fl,⟨n,j,ρ,S,Ext.refl,E0,e⟩,?_⟩
 rintro n σ2 H2 ⟨j2,ρ2,S2,X2,E2,e2⟩
 cases n with
 |zero=>cases e2
 |succ n=>
  unfold ZU at e2
  rcases wz e2 with ⟨x,S3,e3,e2⟩|⟨c,S3,e3,rfl⟩
  ·refine hc E2 e3 fun j3 H3 X3 E3=> ?_
   have X13:=X2.trans X3
   cases x with
   |false=>cases e2;exact k _ _ _ X13 E3
   |true=>
    obtain ⟨f5,e5,h5⟩:=Xp e2
    refine ⟨fun σ' H'=>∃j3 ρ3 S3,Ext j H j3 H'∧En K F j3 H' σ' ρ3 S3∧ZU m b n ρ3 S3=some fl,fun σ' H' z=>⟨n,Nat.lt_succ_self _,z⟩,hb E3 e5 ?_⟩
    rcases h5 with ⟨ρ6,S6,h6,e6⟩|⟨ρ6,S6,rfl,rfl⟩|⟨rfl,h6⟩
    ·rcases h6 with rfl|rfl
     ·exact fun σ5 j5 H5 X5 E5=>⟨j5,ρ6,S6,X13.trans X5,E5,e6⟩
     ·exact fun σ5 j5 H5 X5 E5=>⟨j5,ρ6,S6,X13.trans X5,E5,e6⟩
    ·exact fun σ5 j5 H5 X5 E5=>k _ _ _ (X13.trans X5) E5
    ·rcases h6 with ⟨x6,S6,rfl⟩|⟨c6,S6,rfl⟩
     ·exact fun v σ5 ρ5 j5 H5 X5 E5 hv=>k v σ5 ρ5 _ _ (X13.trans X5) E5 hv
     ·exact PX.mono k X13
  ·exact hc E2 e3 (PX.mono k X2)
noncomputable def iL (m:TwE):TwI:=fun ρ S=>rb (m ρ S) fun x S1=>(zP S1 x).map fun _=> .ok (fun S=>zP S x) S1
noncomputable def iT (m:TwE):TwI:=fun ρ S=>rb (m ρ S) fun x S1=>x.tupOf.map fun l=> .ok (fun _=>some l) S1
theorem Uh {t:TE} {m:TwE} (h:RE K E t m):RI K E (Tn K t) (iL m):=by
 intro F j σ H ρ S r R En0 e k
 rcases zu e with ⟨x,S1,e1,e⟩|⟨c,S1,e1,rfl⟩
 ·cases el:zP S1 x with
  |none=>rw [el] at e;cases e
  |some l=>
   rw [el] at e
   cases e
   refine h En0 e1 fun j1 H1 X1 E1 u hu=> ?_
   obtain ⟨a,vs,rfl,h1,_⟩:=E1.lstAt hu el
   refine ⟨a,rfl,⟨vs,h1.sql⟩,k _ _ X1 E1 _ ?_⟩
   intro F2 j2 H2 σ2 ρ2 S2 xs i X2 E2 e2
   obtain ⟨a',ws,ea,g1,g2⟩:=E2.lstAt (hu.mono X2) e2
   cases ea
   refine ⟨fun y ey=> ?_,fun hle=>⟨ws,g1.sql,by rw [g2.len];omega⟩⟩
   obtain ⟨w,f1,f2⟩:=g2.get ey
   refine ⟨⟨ws,w,g1.sql,f1⟩,?_⟩
   rintro v' H' ⟨rfl,hx⟩
   have:=hx ws g1.sql
   rw [f1] at this
   cases this
   exact ⟨ZS.refl _,f2⟩
 ·exact h En0 e1 k
theorem zcx {t:TE} {m:TwE} (h:RE K E t m):RI K E (zch K t) (iT m):=by
 intro F j σ H ρ S r R En0 e k
 rcases zu e with ⟨x,S1,e1,e⟩|⟨c,S1,e1,rfl⟩
 ·cases el:x.tupOf with
  |none=>rw [el] at e;cases e
  |some l=>
   rw [el] at e
   cases e
   refine h En0 e1 fun j1 H1 X1 E1 u hu=> ?_
   obtain ⟨a,vs,rfl,h1,_⟩:=hu.tupO el
   refine ⟨a,rfl,⟨vs,h1⟩,k _ _ X1 E1 _ ?_⟩
   intro F2 j2 H2 σ2 ρ2 S2 xs i X2 E2 e2
   cases e2
   obtain ⟨a',ws,ea,g1,g2⟩:=(hu.mono X2).tupO el
   cases ea
   refine ⟨fun y ey=> ?_,fun hle=>⟨ws,g1,by rw [g2.len];omega⟩⟩
   obtain ⟨w,f1,f2⟩:=g2.get ey
   refine ⟨⟨ws,w,g1,f1⟩,?_⟩
   rintro v' H' ⟨rfl,hx⟩
   have:=hx ws g1
   rw [f1] at this
   cases this
   exact ⟨ZS.refl _,f2⟩
 ·exact h En0 e1 k
noncomputable def xT (lo:Int) (n:Nat):List Xv:=(List.range n).map fun (k:Nat)=>Xv.int (lo+(k:Int))
noncomputable def iR1 (m:TwE):TwI:=fun ρ S=>rb (m ρ S) fun x S1=>match x with
 | .int j=>if -(2^62)≤j∧j<2^62 then some (.ok (fun _=>some (xT 0 j.toNat)) S1) else none
 |_=>none
theorem zab {lo:Int} {n:Nat}:zdt K j H (Itr lo n) (fun _=>some (xT lo n)):=by
 intro F2 j2 H2 σ2 ρ2 S2 xs i X2 E2 e2
 cases e2
 refine ⟨fun d hd=> ?_,fun hle=> ?_⟩
 ·unfold xT at hd
  rw [List.getElem?_map] at hd
  have hi:i<n:=by
   apply Classical.byContradiction
   intro hn
   rw [List.getElem?_eq_none (by simp;omega)] at hd
   cases hd
  rw [List.getElem?_range hi] at hd
  cases hd
  refine ⟨hi,?_⟩
  rintro x H' ⟨rfl,rfl⟩
  exact ⟨ZS.refl _,.int _⟩
 ·unfold xT at hle
  simp at hle
  show n≤i
  omega
theorem xu {t:TE} {m:TwE} (h:RE K E t m):RI K E (zbP (Xc t Tq)) (iR1 m):=by
 intro F j σ H ρ S r R En0 e k
 rcases zu e with ⟨x,S1,e1,e⟩|⟨c,S1,e1,rfl⟩
 ·split at e
  ·split at e
   ·rename_i hb
    cases e
    exact h En0 e1 fun j1 H1 X1 E1 u hu=>⟨_,by rw [hu.int_inv],hb.1,hb.2,k _ _ X1 E1 _ zab⟩
   ·cases e
  ·cases e
 ·exact h En0 e1 k
end
end L2
namespace L2
open PySem
noncomputable def rn {α β:Type} (m:Option (Rs α)) (f:α→Sto→Option β):Option β:=match m with
 |some (.ok a S)=>f a S
 |_=>none
theorem XU {α β:Type} {m:Option (Rs α)} {f:α→Sto→Option β} {r:β} (h:rn m f=some r):∃a S,m=some (.ok a S)∧f a S=some r:=by
 unfold rn at h
 split at h
 ·exact ⟨_,_,rfl,h⟩
 ·cases h
noncomputable def vT (cap:List (Option Nat)) (ρ:Rho):Rho:=cap.map fun o=>o.bind fun i=>(ρ[i]?).join
noncomputable def wI (get:Sto→Option (List Xv)) (g:TwG) (c:TwT) (e:TwE) (ρc:Rho):Nat→Nat→List Xv→Sto→Option (Rs Xv)
 |0,_,_,_=>none
 |f+1,i,es,S=>(get S).bind fun xs=>match xs[i]? with
  |none=>if i=xs.length then some (.ok (.ref S.length) (S++[.lst es])) else none
  |some x=>rn (g x ρc S) fun ρ1 S1=>rn (c ρ1 S1) fun b S2=>if b then rn (e ρ1 S2) fun y S3=>if es.length<sizeLine then wI get g c e ρc f (i+1) (es++[y]) S3 else none
    else wI get g c e ρc f (i+1) es S2
noncomputable def vO (cap:List (Option Nat)) (m:TwI) (g:TwG) (c:TwT) (e:TwE):TwE:=fun ρ S=>rb (m ρ S) fun get S1=>(get S1).bind fun xs=>wI get g c e (vT cap ρ) (xs.length+1) 0 [] S1
noncomputable def vP:TwT:=fun _ S=>some (.ok true S)
section
variable {K:PySem.W.Frag} {E:XK} {F:Fm} {j j':List Addr} {H H':Hp} {σ σ':St} {ρ ρ':Rho} {S S':Sto} {x:Xv} {v:V} {a:Addr} {o:HO}
theorem wA:RT K E (fun _ H Q=>Q true H) vP:=fun E1 e k=>by
 cases e
 exact k _ _ Ext.refl E1
noncomputable def Xq (j:List Addr) (S:Sto) (a:Addr):Prop:=∀(n:Nat) c,j[n]? =some a→S[n]? =some c→c.fz=true
theorem En.notIn (E1:En K F j H σ ρ S) (h:H a=none):Xq j S a:=fun n c e1 e2=>by
 cases z:c.fz with
 |true=>rfl
 |false=>
  obtain ⟨o,e,_⟩:=(E1.cel n c a e2 e1).mu z
  rw [h] at e;cases e
theorem En.outside (E1:En K F j H σ ρ S) (h:Xq j S a) {o0:HO} (h0:H a=some o0) (m0:o0.mu=true) (hf:F.H0 a=none):En K F j (upd H a o) σ ρ S∧Ext j H j (upd H a o):=by
 have X:Ext j H j (upd H a o):=⟨fun _ _ e=>e,fun b u e m=>by
  have:b≠a:=fun q=>by subst q;rw [h0] at e;cases e;rw [m] at m0;cases m0
  rw [zH this];exact e⟩
 refine ⟨⟨E1.len,fun i x e=> ?_,E1.jl,E1.inj,fun n c b e1 e2=> ?_,E1.ext.trans X,E1.old,E1.l0,fun b u e=> ?_,E1.fresh,fun b e=> ?_⟩,X⟩
 ·obtain ⟨v,e1,e2⟩:=E1.slot i x e
  exact ⟨v,e1,e2.mono X⟩
 ·refine (E1.cel n c b e1 e2).mono X fun z=>zH fun q=> ?_
  subst q
  rw [h n c e2 e1] at z;cases z
 ·have hb:b≠a:=fun q=>by subst q;rw [hf] at e;cases e
  rcases E1.keep b u e with h|h
  ·exact .inl (by rw [zH hb];exact h)
  ·exact .inr h
 ·have hb:b≠a:=fun q=>by subst q;rw [yr] at e;cases e
  rw [zH hb] at e
  exact E1.dom b e
theorem En.adopt {c:Ce} (E1:En K F j H σ ρ S) (h:Xq j S a) (hf:F.H0 a=none) (hc:YQ K (j++[a]) H a c):En K F (j++[a]) H σ ρ (S++[c])∧Ext j H (j++[a]) H:=by
 have X:Ext j H (j++[a]) H:=⟨fun n b e=>by rw [List.getElem?_append_left (List.getElem?_eq_some_iff.1 e).1];exact e,xZ.refl _⟩
 have lt:∀{n:Nat} {d:Ce},S[n]? =some d→n<S.length:=fun e=>(List.getElem?_eq_some_iff.1 e).1
 have at_:∀{n:Nat} {b:Addr} {d:Ce},(j++[a])[n]? =some b→(S++[c])[n]? =some d→(j[n]? =some b∧S[n]? =some d)∨(n=S.length∧b=a∧d=c):=fun {n b d} e1 e2=>by
  by_cases hn:n<S.length
  ·rw [List.getElem?_append_left hn] at e2
   rw [List.getElem?_append_left (by rw [E1.jl];exact hn)] at e1
   exact .inl ⟨e1,e2⟩
  ·rw [List.getElem?_append_right (by omega)] at e2
   rw [List.getElem?_append_right (by rw [E1.jl];omega),E1.jl] at e1
   cases hm:n-S.length with
   |zero=>rw [hm] at e1 e2;simp at e1 e2;exact .inr ⟨by omega,e1.symm,e2.symm⟩
   |succ m=>rw [hm] at e1;simp at e1
 refine ⟨⟨E1.len,fun i x e=> ?_,by simp [E1.jl],fun n m b c1 c2 e1 e2 e3 e4 z1 z2=> ?_,fun n d b e1 e2=> ?_,E1.ext.trans X,fun n d e=> ?_,E1.l0,E1.keep,fun n b hn e=> ?_,E1.dom⟩,X⟩
 ·obtain ⟨v,e1,e2⟩:=E1.slot i x e
  exact ⟨v,e1,e2.mono X⟩
 ·rcases at_ e1 e3 with ⟨f1,f2⟩|⟨f1,f2,f3⟩
  ·rcases at_ e2 e4 with ⟨g1,g2⟩|⟨g1,g2,g3⟩
   ·exact E1.inj n m b c1 c2 f1 g1 f2 g2 z1 z2
   ·subst g2
    rw [h n c1 f1 f2] at z1;cases z1
  ·rcases at_ e2 e4 with ⟨g1,g2⟩|⟨g1,g2,g3⟩
   ·subst f2
    rw [h m c2 g1 g2] at z2;cases z2
   ·rw [f1,g1]
 ·rcases at_ e2 e1 with ⟨f1,f2⟩|⟨f1,rfl,rfl⟩
  ·exact (E1.cel n d b f2 f1).mono X fun _=>rfl
  ·exact hc
 ·obtain ⟨d',e1,e2⟩:=E1.old n d e
  exact ⟨d',by rw [List.getElem?_append_left (lt e1)];exact e1,e2⟩
 ·by_cases hm:n<j.length
  ·rw [List.getElem?_append_left hm] at e
   exact E1.fresh n b hn e
  ·rw [List.getElem?_append_right (by omega)] at e
   cases hk:n-j.length with
   |zero=>rw [hk] at e;simp at e;subst e;exact hf
   |succ m=>rw [hk] at e;simp at e
theorem UR {cap:List (Option Nat)} (E1:En K F j H σ ρ S):(xY cap σ).length=(vT cap ρ).length∧∀(i:Nat) x,(vT cap ρ)[i]? =some (some x)→∃v,(xY cap σ)[i]? =some (some v)∧Xis K j H x v:=by
 refine ⟨by simp [xY,vT],fun i x h=> ?_⟩
 unfold vT at h
 unfold xY
 rw [List.getElem?_map] at h ⊢
 cases e:cap[i]? with
 |none=>rw [e] at h;cases h
 |some o=>
  rw [e] at h
  cases o with
  |none=>simp at h
  |some k=>
   simp only [Option.map_some,Option.bind_some,Option.some.injEq] at h ⊢
   cases q:ρ[k]? with
   |none=>rw [q] at h;simp at h
   |some z=>
    rw [q] at h
    simp at h
    subst h
    obtain ⟨v,e1,e2⟩:=E1.slot k x q
    exact ⟨v,by rw [e1];rfl,e2⟩
theorem wB {cap:List (Option Nat)} {wi:TI} {g:TG} {tt:TT} {te:TE} {m:TwI} {g':TwG} {c:TwT} {e:TwE} (hi:RI K E wi m) (hg:RG K E0 g g') (hc:RT K E0 tt c) (he:RE K E0 te e):RE K E (zbU cap wi g tt te) (vO cap m g' c e):=by
 intro F j σ H ρ S r Q En0 h k
 rcases zu h with ⟨get,S1,e1,h⟩|⟨c1,S1,e1,rfl⟩
 ·refine hi En0 e1 fun j1 H1 X1 E1 J ok acc hacc=> ?_
  cases eg:get S1 with
  |none=>rw [eg] at h;cases h
  |some xs=>
   rw [eg] at h
   have hf:F.H0 acc=none:=E1.dom acc hacc
   obtain ⟨Ea,Xa⟩:=E1.new (o:= .lst []) hacc
   refine ⟨fun i n ys H2=>∃j2 S2 es,Ext j1 H1 j2 H2∧En K F j2 H2 σ ρ S2∧H2 acc=some (.lst ys)∧zJ K j2 H2 es ys∧Xq j2 S2 acc∧wI get g' c e (vT cap ρ) n i es S2=some r,
    ⟨xs.length+1,j1,S1,[],Xa,Ea,yr,.nil,E1.notIn hacc,h⟩,?_⟩
   rintro i n ys H2 ⟨j2,S2,es,X2,E2,h2,hes,nin,e2⟩
   cases n with
   |zero=>cases e2
   |succ n=>
    unfold wI at e2
    cases eg2:get S2 with
    |none=>rw [eg2] at e2;cases e2
    |some zs=>
     rw [eg2] at e2
     dsimp only [Option.bind] at e2
     obtain ⟨go,stop⟩:=ok i X2 E2 eg2
     split at e2
     ·split at e2
      ·rename_i hl
       cases e2
       obtain ⟨E3,X3⟩:=E2.adopt (c:= .lst es) nin hf ⟨ys,h2,hes.mono ⟨fun n b e=>by rw [List.getElem?_append_left (List.getElem?_eq_some_iff.1 e).1];exact e,xZ.refl _⟩⟩
       exact .inl ⟨stop hl,k _ _ (X1.trans (X2.trans X3)) E3 _ (.ref (by rw [←E2.jl];simp))⟩
      ·cases e2
     ·rename_i x ex
      obtain ⟨g1,g2⟩:=go x ex
      refine .inr ⟨g1,fun v H3 hy=> ?_⟩
      obtain ⟨Sm,hv⟩:=g2 v H3 hy
      have E3:=E2.heap Sm
      have X3:Ext j2 H2 j2 H3:=Ext.same Sm
      have h3:H3 acc=some (.lst ys):=Sm _ _ h2
      obtain ⟨cl,cs⟩:=UR (cap:=cap) E3
      have I0:=E3.enter cl cs
      obtain ⟨ρ4,S4,e4,e2⟩:=XU e2
      obtain ⟨b,S5,e5,e2⟩:=XU e2
      have behind:∀{j6:List Addr} {H6:Hp} {σ6:St} {ρ6:Rho} {S6:Sto},En K ⟨H3,j2,S2⟩ j6 H6 σ6 ρ6 S6→En K F j6 H6 σ ρ S6∧Ext j2 H2 j6 H6∧H6 acc=some (.lst ys)∧Xq j6 S6 acc:=fun {j6 H6 σ6 ρ6 S6} X=>by
       obtain ⟨E6,X6⟩:=E3.leave X
       refine ⟨E6,X3.trans X6,?_,fun n d q1 q2=> ?_⟩
       ·rcases X.keep acc _ h3 with q|⟨n,d,q1,q2,q3⟩
        ·exact q
        ·rw [nin n d q1 q2] at q3;cases q3
       ·by_cases hn:n<j2.length
        ·have p1:j2[n]? =some j2[n]:=List.getElem?_eq_getElem hn
         have p2:=X6.pre n _ p1
         rw [q1] at p2
         cases p2
         have hn2:n<S2.length:=by rw [←E2.jl];exact hn
         obtain ⟨d',f1,_,f3⟩:=X.old n _ (List.getElem?_eq_getElem hn2)
         rw [q2] at f1
         cases f1
         have hz:=nin n _ p1 (List.getElem?_eq_getElem hn2)
         rw [f3 hz]
         exact hz
        ·have q:=X.fresh n acc (by dsimp only;omega) q1
         have q:H3 acc=none:=q
         rw [h3] at q;cases q
      refine hg I0 hv e4 fun σ4 j4 H4 X4 I4=>hc I4 e5 fun j5 H5 X5 I5=> ?_
      cases b with
      |true=>
       rw [if_pos rfl]
       rw [if_pos rfl] at e2
       obtain ⟨y,S6,e6,e2⟩:=XU e2
       split at e2
       ·rename_i hsz
        refine he I5 e6 fun j6 H6 X6 I6 w hw=> ?_
        obtain ⟨E6,X26,h6,nin6⟩:=behind I6
        obtain ⟨E7,X7⟩:=E6.outside (o:= .lst (ys++[w])) nin6 h6 rfl hf
        refine ⟨h6,by rw [hes.len];exact hsz,n,Nat.lt_succ_self _,j6,S6,es++[y],X2.trans (X26.trans X7),E7,yr,((hes.mono X26).append (.one hw)).mono X7,nin6,e2⟩
       ·cases e2
      |false=>
       rw [if_neg (by simp)]
       rw [if_neg (by simp)] at e2
       obtain ⟨E6,X26,h6,nin6⟩:=behind I5
       exact ⟨n,Nat.lt_succ_self _,j5,S5,es,X2.trans X26,E6,h6,hes.mono X26,nin6,e2⟩
 ·exact hi En0 e1 k
noncomputable abbrev TwF:=List Xv→Sto→Option (Rs Xv)
noncomputable def yP (n k:Nat) (b:TwS):TwF:=fun xs S=>if xs.length=n then match b (xs.map some++List.replicate k none) S with
  |some (.rt x S')=>some (.ok x S')
  |some (.nx _ S')=>some (.ok .non S')
  |some (.ex c S')=>some (.ex c S')
  |_=>none
 else none
noncomputable def zdA (K:PySem.W.Frag) (F:Fm) (Q:VK) (E:XK):Rs Xv→Prop
 | .ok x S'=>∀v j' H' σ ρ,En K F j' H' σ ρ S'→Xis K j' H' x v→Q v H'
 | .ex c S'=>∀j' H' σ ρ C,En K F j' H' σ ρ S'→PySem.W.nsIn K mainGlobals c=some (some (.ref C))→E (.ref C) none H'
noncomputable def sTw (K:PySem.W.Frag) (n:Nat) (tw:TwF):Sp:=fun vs H Q E=>vs.length=n∧∃(j:List Addr) (S:Sto) (xs:List Xv) (r:Rs Xv),En K ⟨H,j,S⟩ j H (vs.map some) (xs.map some) S∧tw xs S=some r∧zdA K ⟨H,j,S⟩ Q E r
theorem xW {n k:Nat} {N:List Str} {t:TS} {b:TwS} {vs:List V} {Q:VK} (hN:N.length=n+k) (h:RS K E t b) (hs:sTw K n (yP n k b) vs H Q E):t {nx:=fun _ H'=>Q .non H',rt:=Q} (vi N vs) H:=by
 obtain ⟨hn,j,S,xs,r,E1,e,ret⟩:=hs
 have es:vi N vs=vs.map some++List.replicate k none:=by
  unfold vi
  rw [hN,hn,Nat.add_sub_cancel_left]
 rw [es]
 unfold yP at e
 split at e
 ·split at e
  ·rename_i x S' e1
   cases e
   exact h E1.grow e1 fun v σ ρ j' H' X E' hv=>ret _ _ _ _ _ E' hv
  ·rename_i ρ' S' e1
   cases e
   exact h E1.grow e1 fun σ j' H' X E'=>ret _ _ _ _ _ E' .non
  ·rename_i c S' e1
   cases e
   exact h E1.grow e1 fun j' H' σ' ρ' C X E' hC=>ret _ _ _ _ _ E' hC
  ·cases e
 ·cases e
theorem XV {P:Program} {w:World} {mg:Str→Option Value} {base:Heap} {CX:CXT} {k n:Nat} {f:Addr} {fd:FuncData} {ps:List Str} (hl:ps.length=n:=by rfl):yL P w K mg base CX k f fd ps (sTw K n fun _ _=>none):=
 ⟨fun vs H Q E h=>h.1.trans hl.symm,fun A outer s H args us vs Q E hr he hb hv hs=>by
  obtain ⟨_,_,_,_,_,_,z,_⟩:=hs
  cases z⟩
noncomputable def zD (tw:TwF) (ms:List TwE):TwE:=fun ρ S=>rb (evL ms ρ S) fun xs S1=>tw xs S1
theorem VE {xs:List Xv} {vs:List V} (hv:zJ K j H xs vs):(vs.map some).length=(xs.map some).length∧∀(i:Nat) x,(xs.map some)[i]? =some (some x)→∃v,(vs.map some)[i]? =some (some v)∧Xis K j H x v:=by
 refine ⟨by simp [hv.len],fun i x h=> ?_⟩
 rw [List.getElem?_map] at h ⊢
 cases e:xs[i]? with
 |none=>rw [e] at h;cases h
 |some y=>
  rw [e] at h
  simp at h
  subst h
  obtain ⟨v,e1,e2⟩:=hv.get e
  exact ⟨v,by rw [e1];rfl,e2⟩
theorem Xr {n:Nat} {tw:TwF} {xs:List Xv} {vs:List V} {r:Rs Xv} {Q:VK} {E':XK} (E1:En K F j H σ ρ S) (hv:zJ K j H xs vs) (hn:vs.length=n) (et:tw xs S=some r) (k:Po K F j H σ ρ E' (PoV K Q) r):sTw K n tw vs H Q E':=by
 obtain ⟨l,s⟩:=VE hv
 refine ⟨hn,j,S,xs,r,E1.enter l s,et,?_⟩
 cases r with
 |ok x S'=>
  intro v j' H' σ' ρ' X hx
  obtain ⟨E2,X2⟩:=E1.leave X
  exact k j' H' X2 E2 v hx
 |ex c S'=>
  intro j' H' σ' ρ' C X hC
  obtain ⟨E2,X2⟩:=E1.leave X
  exact k j' H' σ ρ C X2 E2 hC
theorem zt {n:Nat} {tw:TwF} {ms:List TwE} {t:TA} (h:RL K E t (evL ms)) (hn:ms.length=n:=by rfl):RE K E (zbR (sTw K n tw) [] E t) (zD tw ms):=by
 intro F j σ H ρ S r Q En0 e k
 rcases zu e with ⟨xs,S1,e1,e⟩|⟨c,S1,e1,rfl⟩
 ·refine h En0 e1 fun j1 H1 X1 E1 vs hv=> ?_
  rw [List.append_nil]
  exact Xr E1 hv (by rw [hv.len,ZY e1,hn]) e (k.step X1)
 ·exact h En0 e1 k
end
noncomputable def Yr (K:PySem.W.Frag):Sp:=fun vs H Q _=>∃(a:Addr) (ns:List Int),vs=[V.ref a]∧zbg H∧SqX K H a (ns.map V.int)∧ns.length≤63∧∀H',Q (.bl true) H'
theorem zcy {P:Program} {w:World} {K:PySem.W.Frag} {mg:Str→Option Value} {base:Heap} {CX:CXT} {k:Nat} {f:Addr} {fd:FuncData} {ps:List Str} {tw:TwF} (Fn:yL P w K mg base CX k f fd ps (sTw K 1 tw))
  (h:∀ns:List Int,ns.length≤63→∃S,tw [.ref 0] [.frz (ns.map Xv.int)]=some (.ok (.bl true) S)):yL P w K mg base CX k f fd ps (Yr K):=by
 refine Fn.imp ?_
 rintro vs H Q E ⟨a,ns,rfl,hO,hS,hl,q⟩
 obtain ⟨S',e⟩:=h ns hl
 refine ⟨rfl,[a],[.frz (ns.map Xv.int)],[.ref 0],_,?_,e,fun v j' H' σ ρ E' hv=> ?_⟩
 ·refine ⟨rfl,fun i x e=> ?_,rfl,fun n m b c d _ _ e3 _ z _=> ?_,fun n c b e1 e2=> ?_,Ext.refl,fun n c e=>⟨c,e,fun z=>z,fun _=>rfl⟩,rfl,fun b u e=> .inl e,fun n b hn e=> ?_,fun b e=>e⟩
  ·cases i with
   |zero=>simp at e;subst e;exact ⟨_,rfl,.ref rfl⟩
   |succ i=>simp at e
  ·cases n with
   |zero=>simp at e3;subst e3;cases z
   |succ n=>simp at e3
  ·cases n with
   |zero=>
    simp at e1 e2
    subst e1 e2
    refine ⟨ns.map V.int,?_,zJ.ints ns⟩
    rcases hS with (hS|⟨o,hS⟩)|hS
    ·rcases hO a with z|⟨o,xs,z⟩
     ·rw [z] at hS;cases hS
     ·rw [z] at hS;cases hS
    ·exact .inl ⟨o,hS⟩
    ·exact .inr fun H=> .inr hS
   |succ n=>simp at e1
  ·dsimp only at hn
   have:=(List.getElem?_eq_some_iff.1 e).1
   omega
 ·rw [hv.bl_inv]
  exact q H'
end L2
namespace L2
open PySem PySem.Spec PyProof.Rows
open PySem.Builtin.Int (intBits)
noncomputable def xI (g:Int→Int→Xv):Op2:=fun x y S=>match x,y with
 | .int a,.int b=>some (g a b,S)
 |_,_=>none
noncomputable def xIC (c:Int→Int→Bool) (g:Int→Int→Xv):Op2:=fun x y S=>match x,y with
 | .int a,.int b=>if c a b then some (g a b,S) else none
 |_,_=>none
noncomputable def ZV:Op2:=xI fun i j=> .int (i+j)
noncomputable def VF:Op2:=xI fun i j=> .int (i-j)
noncomputable def wY:Op2:=xIC (fun i j=>decide (intBits i+intBits j≤134217728)) fun i j=> .int (i*j)
noncomputable def vU:Op2:=xIC (fun _ j=>decide (0<j)) fun i j=> .int (i % j)
noncomputable def vV:Op2:=xIC (fun _ j=>decide (j≠0∧intBits j≤9000)) fun i j=> .int (i.fdiv j)
noncomputable def zac:Op2:=xIC (fun i j=>decide (0≤j∧j≤1000000∧i.natAbs<2^64)) fun i j=> .int (i^j.toNat)
noncomputable def dLt:Op2:=xI fun i j=> .bl (decide (i<j))
noncomputable def dGt:Op2:=xI fun i j=> .bl (decide (j<i))
noncomputable def YU:Op2:=xI fun i j=> .bl (decide (i=j))
noncomputable def US:Op2:=xI fun i j=> .bl (!decide (i=j))
noncomputable def zcz:Xv→Sto→Option (Xv×Sto):=fun x S=>match x with
 | .int i=>some (.int (-i),S)
 |_=>none
section
variable {K:PySem.W.Frag} {E:XK} {F:Fm} {j j':List Addr} {H H':Hp} {σ σ':St} {ρ ρ':Rho} {S S':Sto} {x:Xv} {v:V} {ta tb:TE} {a b:TwE}
theorem zad {g:Int→Int→V} {g':Int→Int→Xv} (hg:∀i k j H,Xis K j H (g' i k) (g i k)):Zc K (rI0 g) (xI g'):=by
 intro F j σ H ρ S S' x y z u v Q E1 hx hy h k
 unfold xI at h
 split at h
 ·cases h
  exact ⟨_,_,hx.int_inv,hy.int_inv,k _ _ _ Ext.refl E1 (hg _ _ _ _)⟩
 ·cases h
theorem zbq {C:Int→Int→Prop} {c:Int→Int→Bool} {g:Int→Int→V} {g':Int→Int→Xv} (hc:∀i j,c i j=true→C i j) (hg:∀i k j H,Xis K j H (g' i k) (g i k)):Zc K (rI C g) (xIC c g'):=by
 intro F j σ H ρ S S' x y z u v Q E1 hx hy h k
 unfold xIC at h
 split at h
 ·split at h
  ·cases h
   exact ⟨_,_,hx.int_inv,hy.int_inv,hc _ _ (by assumption),k _ _ _ Ext.refl E1 (hg _ _ _ _)⟩
  ·cases h
 ·cases h
theorem XW {p:Int→Int→Bool} (ha:RE K E ta a) (hb:RE K E tb b):RE K E (Wt p ta tb) (eOp (xI fun i j=> .bl (p i j)) a b):=
 zp (r:=rI0 fun i j=> .bl (p i j)) (zad fun i k _ _=> .bl _) ha hb
theorem Zy:Zc K (rI0 fun i j=> .int (i+j)) ZV:=zad fun _ _ _ _=> .int _
theorem VG:Zc K (rI0 fun i j=> .int (i-j)) VF:=zad fun _ _ _ _=> .int _
theorem Zd:Zc K (rI zbV fun i j=> .int (i*j)) wY:=zbq (fun i j h=>⟨intBits i,intBits j,Nat.le_refl _,Nat.le_refl _,by simpa using h⟩) fun _ _ _ _=> .int _
theorem vn:Zc K (rI (fun _ j=>0<j) fun i j=> .int (i % j)) vU:=zbq (fun i j h=>by simpa using h) fun _ _ _ _=> .int _
theorem Ze:Zc K (rI TD fun i j=> .int (i.fdiv j)) vV:=zbq (fun i j h=>by simpa [TD] using h) fun _ _ _ _=> .int _
theorem zae:Zc K (rI zck fun i j=> .int (i^j.toNat)) zac:=zbq (fun i j h=>by simpa [zck] using h) fun _ _ _ _=> .int _
theorem zdB (ha:RE K E ta a) (hb:RE K E tb b):RE K E (tLt ta tb) (eOp dLt a b):=XW ha hb
theorem Xs (ha:RE K E ta a) (hb:RE K E tb b):RE K E (tGt ta tb) (eOp dGt a b):=XW ha hb
theorem vo (ha:RE K E ta a) (hb:RE K E tb b):RE K E (zc1 ta tb) (eOp YU a b):=XW ha hb
theorem VH (ha:RE K E ta a) (hb:RE K E tb b):RE K E (zc2 ta tb) (eOp US a b):=XW ha hb
theorem zcA:zdu K (rU fun i=> .int (-i)) zcz:=by
 intro F j σ H ρ S S' x z u Q E1 hx h k
 unfold zcz at h
 split at h
 ·cases h
  exact ⟨_,hx.int_inv,k _ _ _ Ext.refl E1 (.int _)⟩
 ·cases h
noncomputable def wC:Op2:=fun x y S=>match x,y with
 | .tup a,.tup b=>if a.length+b.length≤sizeLine then some (.tup (a++b),S) else none
 |_,_=>none
theorem XX:Zc K (zbY K) wC:=by
 intro F j σ H ρ S S' x y z u v Q E1 hx hy h k
 unfold wC at h
 split at h
 ·split at h
  ·rename_i hz
   cases h
   obtain ⟨p,xs,rfl,h1,h2⟩:=hx.tup_inv
   obtain ⟨q,ys,rfl,g1,g2⟩:=hy.tup_inv
   refine ⟨p,q,xs,ys,rfl,rfl,SqT.of h1,SqT.of g1,by rw [h2.len,g2.len];exact hz,fun e=> ?_,fun _ e=> ?_,fun _ _ l hl=> ?_⟩
   ·subst e
    obtain rfl:=List.length_eq_zero_iff.1 h2.len.symm
    exact k _ _ _ Ext.refl E1 hy
   ·subst e
    obtain rfl:=List.length_eq_zero_iff.1 g2.len.symm
    refine k _ _ _ Ext.refl E1 ?_
    rw [List.append_nil]
    exact hx
   ·obtain ⟨E2,X2⟩:=E1.new (o:= .tup (xs++ys)) hl
    exact k _ _ _ X2 E2 (.tup yr ((h2.append g2).mono X2))
  ·cases h
 ·cases h
noncomputable def zaf (g:Int→Xv):Opn:=fun xs S=>match xs with
 |[.int i]=>some (g i,S)
 |_=>none
theorem zbr {g:Int→V} {g':Int→Xv} (hg:∀i j H,Xis K j H (g' i) (g i)):Vy K (fun xs H Q=>∃i,xs=[V.int i]∧Q (g i) H) (zaf g'):=by
 intro F j σ H ρ S S' xs z vs Q E1 hv h k
 unfold zaf at h
 split at h
 ·cases h
  obtain ⟨x,rfl,hx⟩:=hv.d1
  exact ⟨_,by rw [hx.int_inv],k _ _ _ Ext.refl E1 (hg _ _ _)⟩
 ·cases h
noncomputable def UT:Opn:=zaf fun i=> .int (if i<0 then -i else i)
theorem VI:Vy K (fun xs H Q=>∃i,xs=[V.int i]∧Q (.int (if i<0 then -i else i)) H) UT:=zbr fun _ _ _=> .int _
noncomputable def wO:Opn:=fun xs S=>match xs with
 |[x]=>(wX S x).map fun l=>(.int l.length,S)
 |_=>none
theorem wP:Vy K (fun xs H Q=>∃p ys,xs=[V.ref p]∧(SqL K H p ys∨SqT K H p ys)∧Q (.int ys.length) H) wO:=by
 intro F j σ H ρ S S' xs z vs Q E1 hv h k
 unfold wO at h
 split at h
 ·rename_i x
  cases e:wX S x with
  |none=>rw [e] at h;cases h
  |some l=>
   rw [e] at h
   cases h
   obtain ⟨w,rfl,hx⟩:=hv.d1
   obtain ⟨a,ws,rfl,h1,h2⟩:=E1.seqAt hx e
   refine ⟨a,ws,rfl,?_,k _ _ _ Ext.refl E1 (by rw [h2.len];exact .int _)⟩
   rcases h1 with h1|h1
   ·exact .inl h1.sql
   ·exact .inr h1
 ·cases h
noncomputable def wJ:Opn:=fun xs S=>match xs with
 |[.tup l]=>some (.tup l,S)
 |[x]=>(zP S x).map fun l=>(.tup l,S)
 |_=>none
theorem Zf:Vy K (fun xs H Q=>∃p ys,xs=[V.ref p]∧((SqL K H p ys∧∀l,H l=none→Q (.ref l) (upd H l (.tup ys)))∨(SqT K H p ys∧Q (.ref p) H))) wJ:=by
 intro F j σ H ρ S S' xs z vs Q E1 hv h k
 unfold wJ at h
 split at h
 ·cases h
  obtain ⟨w,rfl,hx⟩:=hv.d1
  obtain ⟨a,ws,rfl,h1,h2⟩:=hx.tup_inv
  exact ⟨a,ws,rfl,.inr ⟨SqT.of h1,k _ _ _ Ext.refl E1 hx⟩⟩
 ·rename_i x _
  cases e:zP S x with
  |none=>rw [e] at h;cases h
  |some l=>
   rw [e] at h
   cases h
   obtain ⟨w,rfl,hx⟩:=hv.d1
   obtain ⟨a,ws,rfl,h1,h2⟩:=E1.lstAt hx e
   refine ⟨a,ws,rfl,.inl ⟨h1.sql,fun p hp=> ?_⟩⟩
   obtain ⟨E2,X2⟩:=E1.new (o:= .tup ws) hp
   exact k _ _ _ X2 E2 (.tup yr (h2.mono X2))
 ·cases h
noncomputable def ZJ:List Xv→Option (List Int)
 |[]=>some []
 | .int i::r=>(ZJ r).map (i:: ·)
 |_::_=>none
theorem WM:∀{xs:List Xv} {ns:List Int} {vs:List V},ZJ xs=some ns→zJ K j H xs vs→vs=ns.map V.int
 |[],ns,vs,e,h=>by cases e;exact h.nil_inv
 |x::r,ns,vs,e,h=>by
  obtain ⟨v,ws,rfl,h1,h2⟩:=h.cons_inv
  cases x<;>simp only [ZJ,reduceCtorEq] at e
  cases e2:ZJ r with
  |none=>rw [e2] at e;cases e
  |some ms=>
   rw [e2] at e
   cases e
   rw [h1.int_inv,WM e2 h2]
   rfl
theorem UU (ns:List Int):ZJ (ns.map Xv.int)=some ns:=by
 induction ns with
 |nil=>rfl
 |cons n r ih=>simp [ZJ,ih]
noncomputable def Zg:List Xv→Option (List Bool)
 |[]=>some []
 | .bl i::r=>(Zg r).map (i:: ·)
 |_::_=>none
theorem WN:∀{xs:List Xv} {ns:List Bool} {vs:List V},Zg xs=some ns→zJ K j H xs vs→vs=ns.map V.bl
 |[],ns,vs,e,h=>by cases e;exact h.nil_inv
 |x::r,ns,vs,e,h=>by
  obtain ⟨v,ws,rfl,h1,h2⟩:=h.cons_inv
  cases x<;>simp only [Zg,reduceCtorEq] at e
  cases e2:Zg r with
  |none=>rw [e2] at e;cases e
  |some ms=>
   rw [e2] at e
   cases e
   rw [h1.bl_inv,WN e2 h2]
   rfl
noncomputable def zag:Opn:=fun xs S=>match xs with
 |[x]=>((zP S x).bind ZJ).map fun ns=>(.int ns.sum,S)
 |_=>none
theorem zcB:Vy K (zdn K) zag:=by
 intro F j σ H ρ S S' xs z vs Q E1 hv h k
 unfold zag at h
 split at h
 ·rename_i x
  cases e:zP S x with
  |none=>rw [e] at h;cases h
  |some l=>
   rw [e] at h
   cases e2:ZJ l with
   |none=>simp [e2] at h
   |some ns=>
    simp [e2] at h
    obtain ⟨rfl,rfl⟩:=h
    obtain ⟨w,rfl,hx⟩:=hv.d1
    obtain ⟨p,ws,rfl,h1,h2⟩:=E1.lstAt hx e
    refine ⟨p,ns,rfl,?_,k _ _ _ Ext.refl E1 (.int _)⟩
    rw [←WM e2 h2]
    exact h1.sql
 ·cases h
noncomputable def UV:Opn:=fun xs S=>match xs with
 |[x]=>((zP S x).bind Zg).map fun ns=>(.bl (ns.all id),S)
 |_=>none
theorem zah:Vy K (zdr K) UV:=by
 intro F j σ H ρ S S' xs z vs Q E1 hv h k
 unfold UV at h
 split at h
 ·rename_i x
  cases e:zP S x with
  |none=>rw [e] at h;cases h
  |some l=>
   rw [e] at h
   cases e2:Zg l with
   |none=>simp [e2] at h
   |some ns=>
    simp only [Option.bind_some,e2,Option.map_some,Option.some.injEq,Prod.mk.injEq] at h
    obtain ⟨rfl,rfl⟩:=h
    obtain ⟨w,rfl,hx⟩:=hv.d1
    obtain ⟨p,ws,rfl,h1,h2⟩:=E1.lstAt hx e
    refine ⟨p,ns,rfl,?_,k _ _ _ Ext.refl E1 (.bl _)⟩
    rw [←WN e2 h2]
    exact h1.sql
 ·cases h
noncomputable def vc (neg:Bool):Op2:=fun x y S=>match x,y with
 | .int a,.int b=>some (.bl (neg !=decide (a=b)),S)
 | .str a,.str b=>some (.bl (neg !=decide (a=b)),S)
 | .bl a,.bl b=>some (.bl (neg !=decide (a=b)),S)
 | .non,.non=>some (.bl (neg !=true),S)
 | .int _,.str _=>some (.bl (neg !=false),S)
 | .str _,.int _=>some (.bl (neg !=false),S)
 |_,_=>none
theorem vq:Zc K rEq (vc false):=by
 intro F j σ H ρ S S' x y z u v Q E1 hx hy h k
 cases hx<;>cases hy<;>simp only [vc,reduceCtorEq,Option.some.injEq,Prod.mk.injEq,Bool.false_bne] at h<;>obtain ⟨rfl,rfl⟩:=h<;>refine ⟨rfl,k _ _ _ Ext.refl E1 ?_⟩<;>simp<;>exact .bl _
noncomputable def D.many:D→Bool
 | .tup _=>true
 | .lst _=>true
 |_=>false
noncomputable def XY (c:String) (S:Sto):Xv→Option Bool
 | .non=>some false
 | .int _=>some (c=="int")
 | .bl _=>some (c=="bool"||c=="int")
 | .str _=>some (c=="str")
 | .tup _=>some (c=="tuple")
 | .ct _=>some (c=="tuple")
 | .ref n=>(zP S (.ref n)).map fun _=>c=="list"
structure Ys (c:String):Prop where
 non:∀K,PySem.W.kitOne K (.type "NoneType") (.type c)=some false
 bl:∀K,PySem.W.kitOne K (.type "bool") (.type c)=some (c=="bool"||c=="int")
 int:∀K,PySem.W.kitOne K (.type "int") (.type c)=some (c=="int")
 str:∀K,PySem.W.kitOne K (.type "str") (.type c)=some (c=="str")
 tup:∀K,PySem.W.kitOne K (.type "tuple") (.type c)=some (c=="tuple")
 lst:∀K,PySem.W.kitOne K (.type "list") (.type c)=some (c=="list")
theorem wb (a b:String) (K:PySem.W.Frag) (h1:(Value.type a==Value.type b)=false) (h:(fastBuiltinMro a).map (·.contains (.type b))=some false) (hm:PySem.W.kitMeta b=true):PySem.W.kitOne K (.type a) (.type b)=some false:=zct h1 h hm rfl
theorem zbs:Ys "int":=⟨fun K=>wb _ _ K (by decide) (by decide+kernel) (by decide+kernel),fun K=>XN,fun K=>vk,fun K=>wb _ _ K (by decide) (by decide+kernel) (by decide+kernel),fun K=>wb _ _ K (by decide) (by decide+kernel) (by decide+kernel),fun K=>wb _ _ K (by decide) (by decide+kernel) (by decide+kernel)⟩
theorem zai:Ys "bool":=⟨fun K=>wb _ _ K (by decide) (by decide+kernel) (by decide+kernel),fun K=>vk,fun K=>XO,fun K=>wb _ _ K (by decide) (by decide+kernel) (by decide+kernel),fun K=>wb _ _ K (by decide) (by decide+kernel) (by decide+kernel),fun K=>wb _ _ K (by decide) (by decide+kernel) (by decide+kernel)⟩
theorem Ui:Ys "str":=⟨fun K=>wb _ _ K (by decide) (by decide+kernel) (by decide+kernel),fun K=>wb _ _ K (by decide) (by decide+kernel) (by decide+kernel),fun K=>wb _ _ K (by decide) (by decide+kernel) (by decide+kernel),fun K=>vk,fun K=>wb _ _ K (by decide) (by decide+kernel) (by decide+kernel),fun K=>wb _ _ K (by decide) (by decide+kernel) (by decide+kernel)⟩
theorem Xt:Ys "tuple":=⟨fun K=>wb _ _ K (by decide) (by decide+kernel) (by decide+kernel),fun K=>wb _ _ K (by decide) (by decide+kernel) (by decide+kernel),fun K=>wb _ _ K (by decide) (by decide+kernel) (by decide+kernel),fun K=>wb _ _ K (by decide) (by decide+kernel) (by decide+kernel),fun K=>vk,fun K=>wb _ _ K (by decide) (by decide+kernel) (by decide+kernel)⟩
theorem WP:Ys "list":=⟨fun K=>wb _ _ K (by decide) (by decide+kernel) (by decide+kernel),fun K=>wb _ _ K (by decide) (by decide+kernel) (by decide+kernel),fun K=>wb _ _ K (by decide) (by decide+kernel) (by decide+kernel),fun K=>wb _ _ K (by decide) (by decide+kernel) (by decide+kernel),fun K=>wb _ _ K (by decide) (by decide+kernel) (by decide+kernel),fun K=>vk⟩
noncomputable def ZW (c:String):Xv→Sto→Option (Xv×Sto):=fun x S=>(XY c S x).map fun b=>(.bl b,S)
theorem zbt {c:String} (ok:Ys c) (E1:En K F j H σ ρ S) {b:Bool} {Q:VK} (h:Xis K j H x v) (e:XY c S x=some b) (k:Q (.bl b) H):zbj K [v,.ty c] H Q:=by
 cases h with
 |non=>cases e;exact ⟨_,_,_,_,_,rfl,rfl,.of .non,ok.non K,k⟩
 |bl b=>cases e;exact ⟨_,_,_,_,_,rfl,rfl,.of (.bl b),ok.bl K,k⟩
 |int i=>cases e;exact ⟨_,_,_,_,_,rfl,rfl,.of (.int i),ok.int K,k⟩
 |str z=>cases e;exact ⟨_,_,_,_,_,rfl,rfl,.of (.str z),ok.str K,k⟩
 |tup h l=>cases e;exact ⟨_,_,_,_,_,rfl,rfl,.sqt (SqT.of h),ok.tup K,k⟩
 |ct h l=>cases e;exact ⟨_,_,_,_,_,rfl,rfl,.sqt (h H),ok.tup K,k⟩
 | @ref n a h=>
  simp only [XY] at e
  cases e1:zP S (.ref n) with
  |none=>rw [e1] at e;cases e
  |some l=>
   rw [e1] at e
   cases e
   obtain ⟨a',vs,ea,g1,g2⟩:=E1.lstAt (.ref h) e1
   cases ea
   exact ⟨_,_,_,_,_,rfl,rfl,.sql g1.sql,ok.lst K,k⟩
theorem vt {c:String} {t:TE} {m:TwE} (ok:Ys c) (h:RE K E t m):RE K E (tCB (zbj K) (Xc t (Xc (tC (.ty c)) Tq))) (eUn (ZW c) m):=by
 intro F j σ H ρ S r Q En0 e k
 rcases zu e with ⟨x,S1,e1,e⟩|⟨c,S1,e1,rfl⟩
 ·obtain ⟨z,S3,e3,rfl⟩:=wa e
  unfold ZW at e3
  cases e4:XY c S1 x with
  |none=>rw [e4] at e3;cases e3
  |some b=>
   rw [e4] at e3
   cases e3
   exact h En0 e1 fun j1 H1 X1 E1 u hu=>zbt ok E1 hu e4 (k _ _ X1 E1 _ (.bl _))
 ·exact h En0 e1 k
noncomputable def vw:Xv→Sto→Option (Xv×Sto):=fun x S=>(zP S x).map fun l=>(.ref S.length,S++[.lst l.reverse])
theorem VJ {t:TE} {m:TwE} (h:RE K E t m):RE K E (WI K t) (eUn vw m):=by
 intro F j σ H ρ S r Q En0 e k
 rcases zu e with ⟨x,S1,e1,e⟩|⟨c,S1,e1,rfl⟩
 ·obtain ⟨z,S3,e3,rfl⟩:=wa e
  unfold vw at e3
  cases e4:zP S1 x with
  |none=>rw [e4] at e3;cases e3
  |some l=>
   rw [e4] at e3
   cases e3
   refine h En0 e1 fun j1 H1 X1 E1 u hu=> ?_
   obtain ⟨p,ys,rfl,h1,h2⟩:=E1.lstAt hu e4
   refine ⟨p,ys,rfl,h1,fun l hl=> ?_⟩
   obtain ⟨E2,X2,h3⟩:=E1.lst h2.reverse hl
   exact k _ _ (X1.trans X2) E2 _ h3
 ·exact h En0 e1 k
noncomputable def ZK (xs:List Xv):List Xv:=xs.zipIdx.map fun p=> .tup [.int (p.2:Int),p.1]
theorem Zh {xs:List Xv} {i:Nat} {y:Xv} (h:(ZK xs)[i]? =some y):∃x,xs[i]? =some x∧y= .tup [.int (i:Int),x]:=by
 unfold ZK at h
 rw [List.getElem?_map,List.getElem?_zipIdx] at h
 cases e:xs[i]? with
 |none=>rw [e] at h;cases h
 |some x=>
  rw [e] at h
  simp at h
  exact ⟨x,rfl,h.symm⟩
theorem vH (xs:List Xv):(ZK xs).length=xs.length:=by simp [ZK]
theorem zdC {p:Addr} {H':Hp} {i:Int} {y:Xv} {w:V} (Sm:ZS H H') (hp:H' p=some (.tup [.int i,w])) (h:Xis K j H y w):Xis K j H' (.tup [.int i,y]) (.ref p):=
 .tup hp (.cons (.int i) (.one (h.mono (Ext.same Sm))))
end
end L2
namespace L2
open PySem PySem.Spec PyProof.Rows
section
variable {K:PySem.W.Frag} {E:XK} {F:Fm} {j:List Addr} {H:Hp} {σ:St} {ρ:Rho} {S:Sto} {x:Xv} {v:V} {κ:Type}
end
end L2
namespace L2
open PySem PySem.Spec PyProof.Rows
open PySem.Builtin.Int (intBits)
noncomputable def W {α:Type} (r:Option (Rs α)) (P:α→Sto→Prop):Prop:=∃a S,r=some (.ok a S)∧P a S
noncomputable def WO (r:Option (Xv×Sto)) (P:Xv→Sto→Prop):Prop:=∃a S,r=some (a,S)∧P a S
noncomputable def WS (r:Option Fl) (N:Rho→Sto→Prop) (R:Xv→Sto→Prop):Prop:=(∃ρ S,r=some (.nx ρ S)∧N ρ S)∨∃x S,r=some (.rt x S)∧R x S
section
variable {ρ:Rho} {S S':Sto} {d x y:Xv} {a b m o:TwE} {c:TwT} {s t:TwS} {i k:Nat} {P:Xv→Sto→Prop} {PB:Bool→Sto→Prop} {PL:List Xv→Sto→Prop} {PO:Option Int→Sto→Prop} {N:Rho→Sto→Prop} {R:Xv→Sto→Prop}
theorem W.of {α:Type} {r:Option (Rs α)} {a:α} {P:α→Sto→Prop} (e:r=some (.ok a S)) (h:P a S):W r P:=⟨a,S,e,h⟩
theorem WO.of {r:Option (Xv×Sto)} (e:r=some (x,S)) (h:P x S):WO r P:=⟨x,S,e,h⟩
theorem W.imp {α:Type} {r:Option (Rs α)} {P Q:α→Sto→Prop} (h:W r P) (k:∀a S,P a S→Q a S):W r Q:=by
 obtain ⟨a,S,e,h⟩:=h
 exact ⟨a,S,e,k _ _ h⟩
theorem WS.nx {r:Option Fl} (e:r=some (.nx ρ S)) (h:N ρ S):WS r N R:= .inl ⟨ρ,S,e,h⟩
theorem WS.rt {r:Option Fl} (e:r=some (.rt x S)) (h:R x S):WS r N R:= .inr ⟨x,S,e,h⟩
theorem W.bind {α β:Type} {r:Option (Rs α)} {f:α→Sto→Option (Rs β)} {P:β→Sto→Prop} (h:W r fun a S=>W (f a S) P):W (rb r f) P:=by
 obtain ⟨a,S,rfl,h⟩:=h
 exact h
theorem WS.bind {α:Type} {r:Option (Rs α)} {f:α→Sto→Option Fl} (h:W r fun a S=>WS (f a S) N R):WS (sb r f) N R:=by
 obtain ⟨a,S,rfl,h⟩:=h
 exact h
theorem W.okP {r:Option (Xv×Sto)} (h:WO r P):W (okP r) P:=by
 obtain ⟨a,S,rfl,h⟩:=h
 exact ⟨a,S,rfl,h⟩
theorem zcC (h:ρ[i]? =some (some d)) (k:P d S):W (ze i ρ S) P:= .of (by unfold ze;rw [h]) k
theorem zdZ (k:P d S):W (eC d ρ S) P:= .of rfl k
theorem zdD {f:Op2} (h:W (a ρ S) fun x S1=>W (b ρ S1) fun y S2=>WO (f x y S2) P):W (eOp f a b ρ S) P:=W.bind (h.imp fun _ _ h=>W.bind (h.imp fun _ _ h=>W.okP h))
theorem zdE {f:Xv→Sto→Option (Xv×Sto)} (h:W (a ρ S) fun x S1=>WO (f x S1) P):W (eUn f a ρ S) P:=W.bind (h.imp fun _ _ h=>W.okP h)
theorem zb0 (h:W (a ρ S) fun x S1=>∃v,x= .bl v∧PB v S1):W (bE a ρ S) PB:=W.bind (h.imp fun x S1 h=>by obtain ⟨v,rfl,k⟩:=h;exact .of rfl k)
theorem zdF (h:W (c ρ S) fun v S1=>P (.bl v) S1):W (eB c ρ S) P:=W.bind (h.imp fun _ _ k=> .of rfl k)
theorem zcD (h:W (c ρ S) fun v S1=>PB (!v) S1):W (YR c ρ S) PB:=W.bind (h.imp fun _ _ k=> .of rfl k)
theorem zaj {c2:TwT} (h:W (c ρ S) fun v S1=>(v=true→W (c2 ρ S1) PB)∧(v=false→PB false S1)):W (zbn c c2 ρ S) PB:=W.bind (h.imp fun v S1 k=>by
 cases v with
 |true=>rw [if_pos rfl];exact k.1 rfl
 |false=>exact .of rfl (k.2 rfl))
theorem Xu {c2:TwT} (h:W (c ρ S) fun v S1=>(v=true→PB true S1)∧(v=false→W (c2 ρ S1) PB)):W (bOr c c2 ρ S) PB:=W.bind (h.imp fun v S1 k=>by
 cases v with
 |true=>exact .of rfl (k.1 rfl)
 |false=>rw [if_neg (by simp)];exact k.2 rfl)
theorem Uj (h:W (a ρ S) fun x S1=>∃v,x= .bl v∧(v=true→W (b ρ S1) P)∧(v=false→P (.bl false) S1)):W (TQ a b ρ S) P:=W.bind ((zb0 h).imp fun v S1 k=>by
 cases v with
 |true=>rw [if_pos rfl];exact k.1 rfl
 |false=>exact .of rfl (k.2 rfl))
theorem zak (h:W (c ρ S) fun v S1=>(v=true→W (a ρ S1) P)∧(v=false→W (b ρ S1) P)):W (eIf c a b ρ S) P:=W.bind (h.imp fun v S1 k=>by
 cases v with
 |true=>rw [if_pos rfl];exact k.1 rfl
 |false=>rw [if_neg (by simp)];exact k.2 rfl)
theorem zcE (k:PL [] S):W (evL [] ρ S) PL:= .of rfl k
theorem XZ {ms:List TwE} (h:W (m ρ S) fun d S1=>W (evL ms ρ S1) fun ds S2=>PL (d::ds) S2):W (evL (m::ms) ρ S) PL:=W.bind (h.imp fun _ _ h=>W.bind (h.imp fun _ _ k=> .of rfl k))
theorem zcF {ms:List TwE} (h:W (evL ms ρ S) fun ds S1=>P (.tup ds) S1):W (zT ms ρ S) P:=W.bind (h.imp fun _ _ k=> .of rfl k)
theorem zcG {ms:List TwE} (h:W (evL ms ρ S) fun ds S1=>P (.ref S1.length) (S1++[.lst ds])):W (Yo ms ρ S) P:=W.bind (h.imp fun _ _ k=> .of rfl k)
theorem zal {f:Opn} {ms:List TwE} (h:W (evL ms ρ S) fun ds S1=>WO (f ds S1) P):W (eFn f ms ρ S) P:=W.bind (h.imp fun _ _ h=>W.okP h)
theorem Wa {tw:TwF} {ms:List TwE} (h:W (evL ms ρ S) fun ds S1=>W (tw ds S1) P):W (zD tw ms ρ S) P:=W.bind h
theorem zcH (k:PO none S):W (oNo ρ S) PO:= .of rfl k
theorem zam (h:W (m ρ S) fun x S1=>∃k,x= .int k∧PO (some k) S1):W (TW m ρ S) PO:=W.bind (h.imp fun x S1 h=>by obtain ⟨v,rfl,k⟩:=h;exact .of rfl k)
theorem zdG {f:Xv→Option Int→Option Int→Sto→Option (Xv×Sto)} {lo hi:TwO} (h:W (m ρ S) fun x S1=>W (lo ρ S1) fun u S2=>W (hi ρ S2) fun v S3=>WO (f x u v S3) P):W (eSl f m lo hi ρ S) P:=
 W.bind (h.imp fun _ _ h=>W.bind (h.imp fun _ _ h=>W.bind (h.imp fun _ _ h=>W.okP h)))
theorem vQ {f:OpM} {ms:List TwE} (h:W (o ρ S) fun x S1=>(∃l,zP S1 x=some l)∧W (evL ms ρ S1) fun ys S2=>WO (f x ys S2) P):W (eMt f o ms ρ S) P:=W.bind (h.imp fun x S1 h=>by
 obtain ⟨⟨l,e⟩,h⟩:=h
 rw [e,Option.bind_some]
 exact W.bind (h.imp fun _ _ h=>W.okP h))
theorem yo (h:WS (s ρ S) (fun ρ1 S1=>WS (t ρ1 S1) N R) R):WS (zF s t ρ S) N R:=by
 unfold zF
 rcases h with ⟨ρ1,S1,e,h⟩|⟨x,S1,e,h⟩
 ·rw [e];exact h
 ·rw [e];exact .rt rfl h
theorem zX (h:N ρ S):WS (yO ρ S) N R:= .nx rfl h
theorem zcI {g:TwG} (h:W (m ρ S) fun d S1=>W (g d ρ S1) N):WS (zS m g ρ S) N R:=WS.bind (h.imp fun _ _ h=>WS.bind (h.imp fun _ _ k=> .nx rfl k))
theorem zan (h:W (m ρ S) fun d S1=>N (ρ.set i (some d)) S1):WS (zS m (gN i) ρ S) N R:=WS.bind (h.imp fun _ _ k=> .nx rfl k)
theorem Uk (h:W (m ρ S) fun _ S1=>N ρ S1):WS (xb m ρ S) N R:=WS.bind (h.imp fun _ _ k=> .nx rfl k)
theorem vW (h:W (m ρ S) fun d S1=>R d S1):WS (xc m ρ S) N R:=WS.bind (h.imp fun _ _ k=> .rt rfl k)
theorem zR (h:W (c ρ S) fun v S1=>(v=true→WS (s ρ S1) N R)∧(v=false→WS (t ρ S1) N R)):WS (sIf c s t ρ S) N R:=WS.bind (h.imp fun v S1 k=>by
 cases v with
 |true=>rw [if_pos rfl];exact k.1 rfl
 |false=>rw [if_neg (by simp)];exact k.2 rfl)
theorem Zz {r:Option Fl} (I:Rho→Sto→Prop) (h:WS r I R) (k:∀ρ S,I ρ S→N ρ S):WS r N R:=by
 rcases h with ⟨ρ,S,e,h⟩|h
 ·exact .inl ⟨ρ,S,e,k ρ S h⟩
 ·exact .inr h
theorem zao {n:Nat} (h:WS (ZU c s n ρ S) N R):WS (sWh n c s ρ S) N R:=h
theorem Wb {n:Nat} (h:W (c ρ S) fun v S1=>(v=true→WS (s ρ S1) (fun ρ2 S2=>WS (ZU c s n ρ2 S2) N R) R)∧(v=false→N ρ S1)):WS (ZU c s (n+1) ρ S) N R:=by
 unfold ZU
 refine WS.bind (h.imp fun v S1 k=> ?_)
 cases v with
 |true=>
  rw [if_pos rfl]
  rcases k.1 rfl with ⟨ρ2,S2,e2,h⟩|⟨x,S2,e2,h⟩
  ·rw [e2];exact h
  ·rw [e2];exact .rt rfl h
 |false=>exact .nx rfl (k.2 rfl)
theorem Yt {n:TwI} {g:TwG} (h:W (n ρ S) fun get S1=>∃xs,get S1=some xs∧WS (vN get g s (xs.length+1) 0 ρ S1) N R):WS (YT n g s ρ S) N R:=WS.bind (h.imp fun get S1 h=>by
 obtain ⟨xs,e,h⟩:=h
 rw [e,Option.bind_some]
 exact h)
theorem Zi {get:Sto→Option (List Xv)} {g:TwG} {xs:List Xv} (J:Nat→Rho→Sto→Prop) (hg:∀i ρ S,i≤xs.length→J i ρ S→get S=some xs)
  (h:∀(i:Nat) (x:Xv) ρ S,xs[i]? =some x→J i ρ S→W (g x ρ S) fun ρ1 S1=>WS (s ρ1 S1) (fun ρ2 S2=>J (i+1) ρ2 S2) R) (h0:J 0 ρ S) (k:∀ρ S,J xs.length ρ S→N ρ S):WS (vN get g s (xs.length+1) 0 ρ S) N R:=by
 have aux:∀(n i:Nat) (ρ:Rho) (S:Sto),i+n=xs.length→J i ρ S→WS (vN get g s (n+1) i ρ S) N R:=by
  intro n
  induction n with
  |zero=>
   intro i ρ S e hj
   unfold vN
   rw [hg i ρ S (by omega) hj,Option.bind_some,List.getElem?_eq_none (by omega)]
   dsimp only
   rw [if_pos (by omega)]
   exact .nx rfl (k ρ S (by rw [show xs.length=i by omega];exact hj))
  |succ n ih=>
   intro i ρ S e hj
   unfold vN
   have hi:i<xs.length:=by omega
   rw [hg i ρ S (by omega) hj,Option.bind_some,List.getElem?_eq_getElem hi]
   refine WS.bind ((h i _ ρ S (List.getElem?_eq_getElem hi) hj).imp fun ρ1 S1 h1=> ?_)
   rcases h1 with ⟨ρ2,S2,e2,h2⟩|⟨x,S2,e2,h2⟩
   ·rw [e2];exact ih (i+1) ρ2 S2 (by omega) h2
   ·rw [e2];exact .rt rfl h2
 exact aux xs.length 0 ρ S (by omega) h0
theorem zb1 (h:W (m ρ S) fun x S1=>∃l,zP S1 x=some l∧Q' (fun S=>zP S x) S1):W (iL m ρ S) Q':=W.bind (h.imp fun x S1 h=>by
 obtain ⟨l,e,k⟩:=h
 rw [e]
 exact .of rfl k)
theorem zdH {Q':(Sto→Option (List Xv))→Sto→Prop} (h:W (m ρ S) fun x S1=>∃l,x.tupOf=some l∧Q' (fun _=>some l) S1):W (iT m ρ S) Q':=W.bind (h.imp fun x S1 h=>by
 obtain ⟨l,e,k⟩:=h
 rw [e]
 exact .of rfl k)
theorem vx {Q':(Sto→Option (List Xv))→Sto→Prop} (h:W (m ρ S) fun x S1=>∃k:Int,x= .int k∧(-(2^62)≤k∧k<2^62)∧Q' (fun _=>some (xT 0 k.toNat)) S1):W (iR1 m ρ S) Q':=W.bind (h.imp fun x S1 h=>by
 obtain ⟨k,rfl,hk,q⟩:=h
 dsimp only
 rw [if_pos hk]
 exact .of rfl q)
theorem vI {lo:Int} {n i:Nat} {x:Xv} (h:(xT lo n)[i]? =some x):i<n∧x= .int (lo+i):=by
 unfold xT at h
 rw [List.getElem?_map] at h
 have hi:i<n:=by
  apply Classical.byContradiction
  intro hn
  rw [List.getElem?_eq_none (by simp;omega)] at h
  cases h
 rw [List.getElem?_range hi] at h
 cases h
 exact ⟨hi,rfl⟩
theorem yf {lo:Int} {n:Nat}:(xT lo n).length=n:=by simp [xT]
theorem wD {cap:List (Option Nat)} {n:TwI} {g:TwG} (h:W (n ρ S) fun get S1=>∃xs,get S1=some xs∧W (wI get g c m (vT cap ρ) (xs.length+1) 0 [] S1) P):W (vO cap n g c m ρ S) P:=W.bind (h.imp fun get S1 h=>by
 obtain ⟨xs,e,h⟩:=h
 rw [e,Option.bind_some]
 exact h)
theorem xR {get:Sto→Option (List Xv)} {g:TwG} {ρc:Rho} {xs:List Xv} (hl:xs.length≤sizeLine) (J:Nat→List Xv→Sto→Prop) (hg:∀i es S,i≤xs.length→J i es S→get S=some xs)
  (h:∀(i:Nat) (x:Xv) es S,xs[i]? =some x→es.length=i→J i es S→W (g x ρc S) fun ρ1 S1=>W (c ρ1 S1) fun b S2=>b=true∧W (m ρ1 S2) fun y S3=>J (i+1) (es++[y]) S3) (h0:J 0 [] S)
  (k:∀es S,es.length=xs.length→J xs.length es S→P (.ref S.length) (S++[.lst es])):W (wI get g c m ρc (xs.length+1) 0 [] S) P:=by
 have aux:∀(n i:Nat) (es:List Xv) (S:Sto),i+n=xs.length→es.length=i→J i es S→W (wI get g c m ρc (n+1) i es S) P:=by
  intro n
  induction n with
  |zero=>
   intro i es S e el hj
   unfold wI
   rw [hg i es S (by omega) hj,Option.bind_some,List.getElem?_eq_none (by omega)]
   dsimp only
   rw [if_pos (by omega)]
   exact .of rfl (k es S (by omega) (by rw [show xs.length=i by omega];exact hj))
  |succ n ih=>
   intro i es S e el hj
   unfold wI
   have hi:i<xs.length:=by omega
   rw [hg i es S (by omega) hj,Option.bind_some,List.getElem?_eq_getElem hi]
   obtain ⟨ρ1,S1,e1,b,S2,e2,rfl,y,S3,e3,q⟩:=h i _ es S (List.getElem?_eq_getElem hi) el hj
   dsimp only [rn]
   rw [e1]
   dsimp only [rn]
   rw [e2]
   dsimp only [rn]
   rw [if_pos rfl,e3]
   dsimp only [rn]
   rw [if_pos (by omega)]
   exact ih (i+1) (es++[y]) S3 (by omega) (by simp [el]) q
 exact aux xs.length 0 [] S (by omega) rfl h0
theorem zbu (k:PB true S):W (vP ρ S) PB:= .of rfl k
theorem zcJ {n k:Nat} {xs:List Xv} {ρ0:Rho} (hn:xs.length=n) (h0:xs.map some++List.replicate k none=ρ0) (h:WS (s ρ0 S) (fun _ S1=>P .non S1) P):W (yP n k s xs S) P:=by
 unfold yP
 rw [if_pos hn,h0]
 rcases h with ⟨ρ,S1,e,h⟩|⟨x,S1,e,h⟩
 ·rw [e];exact .of rfl h
 ·rw [e];exact .of rfl h
variable {p q:Int}
theorem zcK (k:P (.int (p+q)) S):WO (ZV (.int p) (.int q) S) P:= .of rfl k
theorem zcL (k:P (.int (p-q)) S):WO (VF (.int p) (.int q) S) P:= .of rfl k
theorem zdI (k:P (.bl (decide (p<q))) S):WO (dLt (.int p) (.int q) S) P:= .of rfl k
theorem zdJ (k:P (.bl (decide (q<p))) S):WO (dGt (.int p) (.int q) S) P:= .of rfl k
theorem zcM (k:P (.bl (decide (p=q))) S):WO (YU (.int p) (.int q) S) P:= .of rfl k
theorem zcN (k:P (.bl (!decide (p=q))) S):WO (US (.int p) (.int q) S) P:= .of rfl k
theorem vy (h:0<q) (k:P (.int (p % q)) S):WO (vU (.int p) (.int q) S) P:= .of (by unfold vU xIC;exact if_pos (by simpa using h)) k
theorem Zj (h:intBits p+intBits q≤134217728) (k:P (.int (p*q)) S):WO (wY (.int p) (.int q) S) P:= .of (by unfold wY xIC;exact if_pos (by simpa using h)) k
theorem zcO (h:0≤q∧q≤1000000∧p.natAbs<2^64) (k:P (.int (p^q.toNat)) S):WO (zac (.int p) (.int q) S) P:= .of (by unfold zac xIC;exact if_pos (decide_eq_true h)) k
theorem Zk (h:q≠0∧intBits q≤9000) (k:P (.int (p.fdiv q)) S):WO (vV (.int p) (.int q) S) P:= .of (by unfold vV xIC;exact if_pos (decide_eq_true h)) k
theorem zap {l:List Xv} (h:zP S x=some l) (k:P (.int l.length) S):WO (wO [x] S) P:= .of (by
 unfold wO wX
 dsimp only
 have:x.tupOf=none:=by cases x<;>first|rfl|cases h
 rw [this]
 dsimp only
 rw [h]
 rfl) k
theorem Yu {l:List Xv} {z:Xv} (h:zP S x=some l) (e:atI l p=some z) (k:P z S):WO (VA x (.int p) S) P:= .of (by unfold VA;rw [h];dsimp only;rw [e];rfl) k
theorem yQ {l:List Xv} {z:Xv} (h:x.tupOf=some l) (e:atI l p=some z) (k:P z S):WO (zM x (.int p) S) P:= .of (by unfold zM;rw [h];dsimp only;rw [e];rfl) k
theorem Yv {β:Type} {x:β} {l:List β}:atI (x::l) 0=some x:=by
 unfold atI ixN
 rw [if_pos (show (0:Int)≤0 by decide),if_pos (by simp only [List.length_cons];omega)]
 rfl
theorem Yw {β:Type} {x y:β} {l:List β}:atI (x::y::l) 1=some y:=by
 unfold atI ixN
 rw [if_pos (show (0:Int)≤1 by decide),if_pos (by simp only [List.length_cons];omega)]
 rfl
theorem zcP {l:List Xv} (k:P x S):WO (zM (.tup (x::l)) (.int 0) S) P:=yQ rfl Yv k
theorem zcQ {l:List Xv} (k:P y S):WO (zM (.tup (x::y::l)) (.int 1) S) P:=yQ rfl Yw k
theorem zaq {β:Type} {l:List β} {k:Int} {z:β} (h0:0≤k) (h:l[k.toNat]? =some z):atI l k=some z:=by
 have hk:=(List.getElem?_eq_some_iff.1 h).1
 unfold atI ixN
 rw [if_pos h0,if_pos (by omega)]
 exact h
theorem xJ {n:Nat} {l:List Xv} (h:YS S x=some (n,l)) (hz:l.length<sizeLine) (k:P .non (S.set n (.lst (l++[y])))):WO (yi x [y] S) P:= .of (by unfold yi;rw [h];dsimp only;rw [if_pos hz]) k
theorem zcR {l:List Xv} {lo hi:Option Int} (h:zP S x=some l) (k:P (.ref S.length) (S++[.lst (UQ l lo hi)])):WO (VC x lo hi S) P:= .of (by unfold VC;rw [h];rfl) k
theorem xU {c:String} {v:Bool} (h:XY c S x=some v) (k:P (.bl v) S):WO (ZW c x S) P:= .of (by unfold ZW;rw [h];rfl) k
end
theorem xK {S:Sto} {l:List Xv}:zP (S++[.lst l]) (.ref S.length)=some l:=by simp [zP]
theorem xP {S:Sto} {n:Nat} {l:List Xv} (h:S[n]? =some (.lst l)):YS S (.ref n)=some (n,l):=by simp [YS,h]
theorem zw {S:Sto} {n:Nat} {l:List Xv} (h:S[n]? =some (.lst l)):zP S (.ref n)=some l:=by simp [zP,h]
end L2
namespace L2
open PySem PySem.Spec PyProof.Rows PySem.Calls
section
variable {X:Cx}
end
section
variable {K:PySem.W.Frag} {E:XK}
end
end L2
namespace L2
open PySem PySem.Spec PyProof.Rows PySem.Calls
section
variable {K:PySem.W.Frag} {E:XK}
end
end L2
namespace L2
open PySem PySem.Spec PyProof.Rows PySem.Calls
section
variable {X:Cx} {pins:List (Addr×Obj)} {σ:St} {H:Hp} {s:Shared}
end
end L2
namespace L2
open PySem PySem.Spec PyProof.Rows PySem.Calls PySem.W
section
variable {cmp:Nat→Nat→(Bool→Shared→Prop)→Shared→Prop} {r:Nat→Int} {n:Nat} {s:Shared}
noncomputable def Kr (r:Nat→Int) (p:Array Nat) (i:Nat):Int:=r (p.getD i 0)
noncomputable def PmN (n:Nat) (p:Array Nat):Prop:=p.Perm (List.toArray (List.range n))
theorem PmN.size {p:Array Nat} (h:PmN n p):p.size=n:=by
 have:=Array.Perm.size_eq h
 simpa using this
theorem PmN.lt {p:Array Nat} (h:PmN n p) {i:Nat} (hi:i<n):p.getD i 0<n:=by
 have hs:=h.size
 have hi':i<p.size:=by omega
 have e:p.getD i 0=p[i]:=by simp [Array.getD,hi']
 rw [e]
 have:=(Array.Perm.mem_iff h).1 (Array.getElem_mem hi')
 simpa using this
theorem PmN.ne {p:Array Nat} (h:PmN n p) {i j:Nat} (hi:i<n) (hj:j<n) (hij:i≠j):p.getD i 0≠p.getD j 0:=by
 have hs:=h.size
 have hi':i<p.size:=by omega
 have hj':j<p.size:=by omega
 have nd:p.toList.Nodup:=by
  have:=Array.Perm.toList h
  exact (this.nodup_iff).2 (by simpa using List.nodup_range)
 rw [show p.getD i 0=p.toList[i]'(by simpa using hi') by simp [Array.getD,hi'],show p.getD j 0=p.toList[j]'(by simpa using hj') by simp [Array.getD,hj']]
 intro z
 have nd:=List.pairwise_iff_getElem.1 nd
 rcases Nat.lt_or_gt_of_ne hij with h1|h1
 ·exact nd i j (by simpa using hi') (by simpa using hj') h1 z
 ·exact nd j i (by simpa using hj') (by simpa using hi') h1 z.symm
end
end L2
namespace L2
open PySem PySem.Spec PyProof.Rows PySem.Calls PySem.W
section
variable {prog:Program} {w:World} {A:Around} {E:Value→Shared→Prop} {s:Shared}
noncomputable def zdK (prog:Program) (w:World) (A:Around) (r:Nat→Int) (vs:List Value) (s:Shared):Prop:=
 ∃κ,(∀Q:SortKind→Shared→Prop,Q κ s→wpAny (model prog w) A (keyKind' vs.toArray) Q (fun _ _=>False) s)∧∀i j C,i<vs.length→j<vs.length→i≠j→C (decide (r i<r j)) s→kas_ask prog w A κ vs i j C s
end
end L2
namespace L2
open PySem PySem.Spec PyProof.Rows PySem.Calls PySem.W
open PySem.AutoSeq1 (wpAny_loadPart')
open PySem.MeetsSeq PySem.MeetsSeq2 PySem.MeetsSeq3
section
variable {prog:Program} {w:World} {A:Around} {E:Value→Shared→Prop} {s:Shared}
end
section
variable {X:Cx}
end
end L2
namespace L2
open PySem PySem.Spec PyProof.Rows PySem.Calls PySem.W
section
variable {X:Cx} {pins:List (Addr×Obj)} {σ:St} {H:Hp} {s:Shared} {a:Addr} {d:V} {u r:Value} {A:Around} {E:Value→Shared→Prop} {kvs:List (Key×V)} {k:Key}
end
section
variable {X:Cx} {o e f:Expr} {apos cpos:Pos} {td ty tx:TE}
end
end L2
namespace L2
open PySem PySem.Spec PyProof.Rows PySem.Calls PySem.W
open PySem.AutoSeq1 (wpAny_loadPart')
section
variable {prog:Program} {w:World} {A:Around} {E:Value→Shared→Prop} {s:Shared}
end
section
variable {X:Cx}
end
end L2
namespace L2
open PySem PySem.Spec PyProof.Rows PySem.Calls PySem.W
section
variable {prog:Program} {w:World} {A:Around} {E:Value→Shared→Prop} {s:Shared}
end
section
variable {X:Cx}
end
end L2
namespace L2
open PySem PySem.Spec PyProof.Rows PySem.Calls PySem.W
open PySem.AutoSeq1 (wpAny_loadPart')
section
variable {prog:Program} {w:World} {A:Around} {E:Value→Shared→Prop} {s:Shared}
end
section
variable {X:Cx}
end
end L2
namespace L2
open PySem PySem.Spec PyProof.Rows PySem.Calls
mutual
inductive zbv (h:Heap):NK→Value→Prop where
 |int (i:Int) (t:Tok):zbv h (.int i) (.int i t)
 |str (x:Str) (t:Tok):zbv h (.str x) (.str x t)
 |tup {a:Addr} {o:Obj} {items:Array Value} {n:Nat} {l:List NK}:h.get? a=some o→o.cls= .type "tuple"→o.data= .seq items n→Ul h l items.toList→zbv h (.tup l) (.ref a)
inductive Ul (h:Heap):List NK→List Value→Prop where
 |nil:Ul h [] []
 |cons {k:NK} {v:Value} {ks:List NK} {vs:List Value}:zbv h k v→Ul h ks vs→Ul h (k::ks) (v::vs)
end
section
variable {h h':Heap}
end
section
variable {prog:Program} {w:World} {E:Value→Shared→Prop}
end
end L2
namespace L2
open PySem PySem.Spec PyProof.Rows PySem.Calls
mutual
inductive NIs (K:PySem.W.Frag) (H:Hp):V→NK→Prop where
 |int (i:Int):NIs K H (.int i) (.int i)
 |str (x:Str):NIs K H (.str x) (.str x)
 |tup {a:Addr} {vs:List V} {l:List NK}:SqT K H a vs→zbw K H vs l→NIs K H (.ref a) (.tup l)
inductive zbw (K:PySem.W.Frag) (H:Hp):List V→List NK→Prop where
 |nil:zbw K H [] []
 |cons {v:V} {k:NK} {vs:List V} {ks:List NK}:NIs K H v k→zbw K H vs ks→zbw K H (v::vs) (k::ks)
end
section
variable {X:Cx} {pins:List (Addr×Obj)} {σ:St} {H:Hp} {s:Shared}
end
noncomputable abbrev PN:List (NK×Addr×V)→List (NK×Addr×Value)→Prop:=Paired fun (p:NK×Addr×V) (q:NK×Addr×Value)=>p.1=q.1∧p.2.1=q.2.1∧ye p.2.2 q.2.2
section
variable {X:Cx} {pins:List (Addr×Obj)} {σ:St} {H:Hp} {s:Shared} {a:Addr}
end
section
variable {X:Cx} {pins:List (Addr×Obj)} {σ:St} {H:Hp} {s:Shared} {a:Addr} {y v d:V} {u r:Value} {o:Option V} {A:Around} {E:Value→Shared→Prop}
end
section
variable {X:Cx} {o i e f value:Expr} {pos pos' tpos apos cpos:Pos} {td ty tv tx:TE} {K:PySem.W.Frag} {r:Nat}
end
end L2
namespace L2
open PySem PySem.Spec PyProof.Rows PySem.Calls PySem.W
section
variable {prog:Program} {w:World} {A:Around} {E:Value→Shared→Prop} {s:Shared} {d it:Addr} {es:Array DictEntry} {ep i:Nat}
end
end L2
namespace L2
open PySem PySem.Spec PyProof.Rows PySem.Calls PySem.W
noncomputable def ltL:List Int→List Int→Bool
 |[],[]=>false
 |[],_::_=>true
 |_::_,[]=>false
 |a::x,b::y=>if a=b then ltL x y else decide (a<b)
theorem Wc:∀x,ltL x x=false
 |[]=>rfl
 |a::x=>by unfold ltL;rw [if_pos rfl];exact Wc x
theorem Um:∀x y,x≠y→ltL x y= !ltL y x
 |[],[],h=>(h rfl).elim
 |[],_::_,_=>rfl
 |_::_,[],_=>rfl
 |a::x,b::y,h=>by
  unfold ltL
  by_cases e:a=b
  ·subst e
   rw [if_pos rfl,if_pos rfl]
   exact Um x y fun z=>h (by rw [z])
  ·rw [if_neg e,if_neg (fun z=>e z.symm)]
   by_cases l:a<b
   ·rw [decide_eq_true l,decide_eq_false (by omega)];rfl
   ·rw [decide_eq_false l,decide_eq_true (by omega)];rfl
theorem zar:∀x y z,ltL x y=true→ltL y z=true→ltL x z=true
 |[],[],z,h,_=>by cases h
 |[],_::_,[],_,h=>by cases h
 |[],_::_,_::_,_,_=>rfl
 |_::_,[],z,h,_=>by cases h
 |_::_,_::_,[],_,h=>by cases h
 |a::x,b::y,c::z,h,g=>by
  unfold ltL at h g ⊢
  by_cases e:a=b
  ·subst e
   rw [if_pos rfl] at h
   by_cases e2:a=c
   ·subst e2
    rw [if_pos rfl] at g ⊢
    exact zar x y z h g
   ·rw [if_neg e2] at g ⊢;exact g
  ·rw [if_neg e] at h
   have h:=of_decide_eq_true h
   by_cases e2:b=c
   ·subst e2;rw [if_neg e];exact decide_eq_true h
   ·rw [if_neg e2] at g
    have g:=of_decide_eq_true g
    rw [if_neg (by omega)];exact decide_eq_true (by omega)
theorem ZL {α:Type} {P Q:α→Bool}:∀(l:List α),(∀a∈l,P a=true→Q a=true)→(∃a∈l,Q a=true∧P a=false)→l.countP P<l.countP Q
 |[],_,⟨_,h,_⟩=>by cases h
 |b::l,h,⟨a,ha,q,p⟩=>by
  have le:l.countP P≤l.countP Q:=List.countP_mono_left fun x hx hp=>h x (by simp [hx]) hp
  rw [List.countP_cons,List.countP_cons]
  rcases List.mem_cons.1 ha with rfl|ha
  ·rw [p,q];simp;omega
  ·have:=ZL l (fun x hx=>h x (by simp [hx])) ⟨a,ha,q,p⟩
   by_cases hb:P b=true
   ·rw [hb,h b (by simp) hb];simp;omega
   ·rw [show P b=false by simpa using hb];simp;omega
noncomputable def wZ (is:List (List Int)) (i:Nat):Int:=(is.countP fun l=>ltL l (is.getD i []):Nat)
theorem Uo {is:List (List Int)} (nd:is.Nodup) {i j:Nat} (hi:i<is.length) (hj:j<is.length) (hij:i≠j):ltL (is.getD i []) (is.getD j [])=decide (wZ is i<wZ is j):=by
 have ei:is.getD i []=is[i]:=by simp [List.getD_eq_getElem?_getD,hi]
 have ej:is.getD j []=is[j]:=by simp [List.getD_eq_getElem?_getD,hj]
 have ne:is[i]≠is[j]:=fun z=>hij ((List.getElem_inj nd).1 z)
 have key:∀{x y:List Int},x∈is→ltL x y=true→is.countP (fun l=>ltL l x)<is.countP fun l=>ltL l y:=fun {x y} hx h=>ZL is (fun a _ ha=>zar a x y ha h) ⟨x,hx,h,Wc x⟩
 unfold wZ
 rw [ei,ej]
 cases h:ltL is[i] is[j] with
 |true=>
  have:=key (List.getElem_mem hi) h
  exact (decide_eq_true (by omega)).symm
 |false=>
  have h2:ltL is[j] is[i]=true:=by have:=Um is[i] is[j] ne;rw [h] at this;simpa using this
  have:=key (List.getElem_mem hj) h2
  exact (decide_eq_false (by omega)).symm
section
variable {prog:Program} {w:World} {A:Around} {E:Value→Shared→Prop} {s:Shared}
theorem WQ {C:Bool→Shared→Prop}:∀(x y:List Int) (xs ys:List Value) (i:Nat) (fin:Bool),IntsAre xs x→IntsAre ys y→fin=decide (x.length<y.length)→C (ltL x y) s→KatLex prog w A true fin C (xs.zip ys) i s
 |[],y,_,ys,i,fin,.nil,hy,hf,h=>by
  rw [List.zip_nil_left]
  refine kat_nil ?_
  cases y with
  |nil=>rw [hf];exact h
  |cons b y=>rw [hf];simpa [ltL] using h
 |a::x,[],_,_,i,fin,hx,.nil,hf,h=>by
  rw [List.zip_nil_right]
  refine kat_nil ?_
  rw [hf]
  simpa [ltL] using h
 |a::x,b::y,_,_,i,fin,.cons _ _ hx,.cons _ _ hy,hf,h=>by
  rw [List.zip_cons_cons]
  refine kat_cons (wpAny_eqBool_int ?_)
  unfold ltL at h
  refine kat_go (fun e=> ?_) fun e=> ?_
  ·have e:a=b:=by simpa using e
   rw [if_pos e] at h
   exact kat_yes (WQ x y _ _ (i+1) fin hx hy (by rw [hf];simp) h)
  ·have e:¬a=b:=by simpa using e
   rw [if_neg e] at h
   refine kat_no ?_
   cases hz:(true&&i==0) with
   |true=>exact kat_lt_int h
   |false=>exact kat_one _ _ (lt_int h)
theorem UW {vs:List Value} {is:List (List Int)} (hl:is.length=vs.length) (nd:is.Nodup) (ne:∀l∈is,l≠[])
  (h:∀i,i<vs.length→∃(a:Addr) (o:Obj) (its:Array Value) (n:Nat),vs.getD i Value.none= .ref a∧s.heap.get? a=some o∧o.cls= .type "tuple"∧o.data= .seq its n∧IntsAre its.toList (is.getD i [])) (h2:2≤vs.length):zdK prog w A (wZ is) vs s:=by
 have firsts:∃fs:List Value,KatTups s.heap vs fs∧fs.length=vs.length∧∀v∈fs,∃i t,v=Value.int i t:=by
  have key:∀(vs:List Value) (is:List (List Int)),is.length=vs.length→(∀l∈is,l≠[])→(∀i,i<vs.length→∃(a:Addr) (o:Obj) (its:Array Value) (n:Nat),vs.getD i Value.none= .ref a∧s.heap.get? a=some o∧o.cls= .type "tuple"∧o.data= .seq its n∧IntsAre its.toList (is.getD i []))→∃fs:List Value,KatTups s.heap vs fs∧fs.length=vs.length∧∀v∈fs,∃i t,v=Value.int i t:=by
   intro vs
   induction vs with
   |nil=>intro is _ _ _;exact ⟨[],KatTups.nil,rfl,by simp⟩
   |cons v vs ih=>
    intro is hl ne h
    cases is with
    |nil=>simp at hl
    |cons l is=>
     obtain ⟨fs,k1,k2,k3⟩:=ih is (by simpa using hl) (fun l hl=>ne l (by simp [hl])) fun i hi=>by
      have:=h (i+1) (by simpa using hi)
      simpa using this
     obtain ⟨a,o,its,n,e1,e2,e3,e4,e5⟩:=h 0 (by simp)
     have e1:v= .ref a:=by simpa using e1
     have e5:IntsAre its.toList l:=by simpa using e5
     subst e1
     have hne:=ne l (by simp)
     generalize hL:its.toList=L at e5
     cases e5 with
     |nil=>exact (hne rfl).elim
     |cons i t r=>
      refine ⟨_::fs,KatTups.cons e2 e3 e4 (f:=Value.int i t) (by rw [←Array.getElem?_toList,hL];rfl) k1,by simp [k2],fun v hv=> ?_⟩
      rcases List.mem_cons.1 hv with rfl|hv
      ·exact ⟨_,_,rfl⟩
      ·exact k3 v hv
  exact key vs is hl ne h
 obtain ⟨fs,k1,k2,k3⟩:=firsts
 refine ⟨tuples' (Value.type "int" !=Value.type "tuple"),fun Q q=>kat_kind k1 (by omega) (T:= .type "int") (fun v hv=> ?_) (by decide) q,fun i j C hi1 hj1 hij hc=> ?_⟩
 ·obtain ⟨i,t,rfl⟩:=k3 v hv
  exact .now
 ·obtain ⟨a,o,its,n,e1,e2,e3,e4,e5⟩:=h i hi1
  obtain ⟨a',o',its',n',g1,g2,g3,g4,g5⟩:=h j hj1
  unfold kas_ask
  rw [e1,g1]
  rw [show (Value.type "int" !=Value.type "tuple")=true by decide]
  refine kat_lt e2 e4 g2 g4 (WQ _ _ _ _ 0 _ e5 g5 ?_ ?_)
  ·have l1:=e5.length
   have l2:=g5.length
   simp only [Array.length_toList] at l1 l2
   rw [l1,l2]
  ·rw [Uo nd (by omega) (by omega) hij]
   exact hc
end
end L2
namespace L2
open PySem PySem.Spec PyProof.Rows PySem.Calls PySem.W
section
variable {prog:Program} {w:World} {A:Around} {E:Value→Shared→Prop} {s:Shared} {T:String} {r d:Addr} {n:Nat} {P:Nat→Value→Prop} {OK:Heap→Prop} {Q:Value→Shared→Prop}
end
section
variable {X:Cx}
end
end L2
namespace L2
open PySem PySem.Spec PyProof.Rows PySem.Calls
open AutoSeq1 (wpAny_loadPart')
section
variable {prog:Program} {w:World} {A:Around} {E:Value→Shared→Prop} {s:Shared} {it t:Addr} {its:Array Value}
end
section
variable {X:Cx}
end
end L2
namespace L2
open PySem PySem.Spec PyProof.Rows
section
variable {X:Cx}
end
end L2
namespace L2
open PySem PySem.Spec PyProof.Rows PySem.Calls PySem.W
section
variable {cmp:Nat→Nat→(Bool→Shared→Prop)→Shared→Prop} {r:Nat→Int} {n:Nat} {s:Shared}
theorem Xw (hc:∀i j C,i<n→j<n→i≠j→C (decide (r i<r j)) s→cmp i j C s) {p:Array Nat} (hp:PmN n p) (hf:∀i,1≤i→i<n→Kr r p i<Kr r p (i-1)) {Q:Array Nat×Nat×Nat→Shared→Prop} (h:Q (p,n,0) s):∀(f k:Nat),1≤k→k+f=n→(kas_desc f p k 0).kasWp cmp Q s
 |0,k,h1,hk=>by
  obtain rfl:k=n:=by omega
  exact h
 |f+1,k,h1,hk=>by
  unfold kas_desc
  refine hc _ _ _ (hp.lt (by omega)) (hp.lt (by omega)) (hp.ne (by omega) (by omega) (by omega)) ?_
  rw [show decide (r (p.getD k 0)<r (p.getD (k-1) 0))=true from decide_eq_true (hf k h1 (by omega))];dsimp only;rw [if_pos rfl,if_neg (by omega)]
  exact Xw hc hp hf h f (k+1) (by omega) (by omega)
theorem VL (hc:∀i j C,i<n→j<n→i≠j→C (decide (r i<r j)) s→cmp i j C s) {p:Array Nat} (hp:PmN n p) (h2:2≤n) (hf:∀i,1≤i→i<n→Kr r p i<Kr r p (i-1)) {Q:Nat×Array Nat→Shared→Prop} (h:Q (n,kas_rev p 0 n) s):(kas_count n p).kasWp cmp Q s:=by
 unfold kas_count
 rw [KasT.kasWp_bind]
 obtain ⟨f,hfn⟩:∃f,n-1=f+1:=⟨n-2,by omega⟩
 rw [hfn]
 unfold kas_asc
 refine hc _ _ _ (hp.lt (by omega)) (hp.lt (by omega)) (hp.ne (by omega) (by omega) (by omega)) ?_
 rw [show decide (r (p.getD 1 0)<r (p.getD (1-1) 0))=true from decide_eq_true (hf 1 (by omega) (by omega))];dsimp only;rw [if_pos rfl]
 show (if (1==n)=true then _ else _:KasT (Nat×Array Nat)).kasWp cmp Q s
 rw [if_neg (by simp;omega),if_neg (by omega)]
 unfold kas_descPart
 rw [KasT.kasWp_bind]
 refine Xw hc hp hf ?_ _ _ (by omega) (by omega)
 dsimp only
 rw [if_neg (by omega)]
 unfold kas_tail3
 rw [KasT.kasWp_bind,Nat.sub_self]
 exact h
end
theorem Xx:∀(fuel n r:Nat),n≤fuel→r≤1→minRun' fuel n r≤max n 64
 |0,n,r,h,hr=>by
  obtain rfl:n=0:=by omega
  show 0+r≤_
  omega
 |fuel+1,n,r,h,hr=>by
  rw [minRun'_succ]
  split
  ·omega
  ·have:=Xx fuel (n / 2) (max r (n % 2)) (by omega) (by omega)
   omega
section
variable {prog:Program} {w:World} {A:Around} {E:Value→Shared→Prop} {κ:SortKind} {it:Array Keyed} {s:Shared}
theorem UX {n:Nat} {Q:Unit→SortSt→Shared→Prop} {p1:Array Nat} (h2:2≤n)
  (hG:∀st' s',arrOf st'=p1.map (kas_item it)→failedOf st'=none→s'=s→Q () st' s') (hps:p1.size=n) (h:(kas_count n (List.toArray (List.range n))).kasWp (kas_cmp prog w A κ it) (fun r s'=>r=(n,p1)∧s'=s) s):
  kasC (model prog w) A E sortRuns' Q (kas_st κ it (List.toArray (List.range n))) s:=by
 by_cases h64:n<64
 ·refine kas_runs (G:=fun p' s'=>p'=p1∧s'=s) h2 h64 (fun p' st' s' _ a b c=> ?_) ?_
  ·obtain ⟨rfl,rfl⟩:=c
   exact hG st' _ a b rfl
  ·unfold kas_sort
   rw [KasT.kasWp_bind]
   refine kas_wp_mono h ?_
   rintro ⟨m,p⟩ s' ⟨e,rfl⟩
   cases e
   dsimp only
   rw [if_neg (by omega)]
   exact ⟨rfl,rfl⟩
 obtain ⟨r,rfl⟩:∃r,n=r+2:=⟨n-2,by omega⟩
 have hrs:(List.toArray (List.range (r+2))).size=r+2:=by simp
 rw [sortRuns'_eq]
 refine kasC_bind (kasC_get ?_)
 dsimp only
 have hsz:(arrOf (kas_st κ it (List.toArray (List.range (r+2))))).size=r+2:=by
  show ((List.toArray (List.range (r+2))).map (kas_item it)).size=_
  rw [Array.size_map,hrs]
 have hmr:=Xx (r+2) (r+2) 0 (Nat.le_refl _) (by omega)
 simp only [hsz]
 generalize minRun' (r+2) (r+2) 0=mr at hmr ⊢
 refine kasC_bind (kasC_range ?_)
 show kasC _ _ _ (forIn (0::1::List.range' 2 r) _ _) _ _ _
 refine kasC_cons ?_
 dsimp only
 rw [if_neg (by omega)]
 simp only [Nat.sub_zero,Nat.zero_add]
 refine kasC_bind (kas_count_ (by omega) (by rw [hrs];exact Nat.le_refl _) (fun m p' s' hm1 hm2 hp hg=> ?_) h)
 obtain ⟨hg,rfl⟩:=hg
 cases hg
 dsimp only
 rw [if_neg (by omega)]
 refine kasC_bind (kasC_get ?_)
 rw [show (pendingOf (kas_st κ it p1)).back? =none from rfl]
 dsimp only
 refine kasC_bind (kasC_modify (kasC_pure ?_))
 show kasC _ _ _ (forIn (1::List.range' 2 r) _ _) _ _ _
 refine kasC_cons ?_
 dsimp only
 rw [if_pos (Nat.le_refl _)]
 refine kasC_pure ?_
 dsimp only
 refine kasC_bind (kasC_range ?_)
 show kasC _ _ _ (forIn (0::1::List.range' 2 r) _ _) _ _ _
 refine kasC_cons ?_
 refine kasC_bind (kasC_get ?_)
 rw [if_pos (show (pendingOf (setPending (kas_st κ it p1) ((pendingOf (kas_st κ it p1)).push (0,r+2,0)))).size≤1 from Nat.le_refl 1)]
 refine kasC_pure ?_
 dsimp only
 exact kasC_pure (hG _ _ rfl rfl rfl)
theorem UY (n:Nat):(kas_rev (List.toArray (List.range n)) 0 n).toList=(List.range n).reverse:=by
 have hs:(kas_rev (List.toArray (List.range n)) 0 n).size=n:=by rw [kas_rev_size];simp
 refine List.ext_getElem? fun k=> ?_
 have e:=getElem?_mirror_all (xs:=List.toArray (List.range n)) (i:=0) (j:=n) (by simp) k
 rw [Array.getElem?_toList]
 show (mirror _ _ _ _)[k]? =_
 rw [e]
 by_cases hk:k<n
 ·rw [if_pos ⟨Nat.zero_le _,hk⟩,List.getElem?_reverse (by simpa using hk),List.getElem?_toArray,Nat.zero_add,List.length_range]
 ·rw [if_neg (by omega),List.getElem?_eq_none (by simpa using Nat.le_of_not_lt hk)]
  simp [Nat.le_of_not_lt hk]
theorem zas {vs:List Value}:List.toArray ((kas_rev (List.toArray (List.range vs.length)) 0 vs.length).toList.map fun i=>vs.getD i Value.none)=vs.reverse.toArray:=by
 rw [UY,List.map_reverse]
 congr 2
 refine List.ext_getElem (by simp) fun i h1 h2=> ?_
 have:i<vs.length:=by simpa using h2
 simp [List.getD_eq_getElem?_getD,this]
theorem zat {ks vs:List Value} {is:List (List Int)} {Q:SortSt→Shared→Prop} (hl:ks.length=vs.length) (h2:2≤vs.length) (hi:is.length=ks.length) (hask:∀i j C,i<ks.length→j<ks.length→i≠j→C (decide (wZ is i<wZ is j)) s→kas_ask prog w A κ ks i j C s)
  (hf:∀i j,i<j→j<is.length→wZ is j<wZ is i)
  (hG:∀st' s',(arrOf st').map (·.2)=vs.reverse.toArray→(arrOf st').size=vs.length→failedOf st'=none→s'=s→Q st' s'):
  wpAny (model prog w) A ((sortRuns').run (SortSt.mk' κ (ks.toArray.zip vs.toArray) #[] 7 none)) (fun r s'=>Q r.2 s') E s:=by
 have hp:PmN vs.length (List.toArray (List.range vs.length)):=Array.Perm.refl _
 have h:=VL (cmp:=kas_ask prog w A κ ks) (r:=wZ is) (n:=vs.length) (s:=s) (Q:=fun r s'=>r=(vs.length,kas_rev (List.toArray (List.range vs.length)) 0 vs.length)∧s'=s) (fun i j C a b c d=>hask i j C (by omega) (by omega) c d) hp h2 (fun i a b=>by
  unfold Kr
  have e:∀j,j<vs.length→(List.toArray (List.range vs.length)).getD j 0=j:=fun j hj=>by simp [Array.getD,hj]
  rw [e i b,e (i-1) (by omega)]
  exact hf (i-1) i (by omega) (by omega)) ⟨rfl,rfl⟩
 rw [kat_ask_eq hl] at h
 have run:=UX (E:=E) (Q:=fun _ st' s'=>Q st' s') h2 (fun st' s' a b c=>hG st' s' ((kat_snds hl a).trans zas) (by rw [a,Array.size_map,kas_rev_size];simp) b c) (by rw [kas_rev_size];simp) h
 have est:SortSt.mk' κ (ks.toArray.zip vs.toArray) #[] 7 none=kas_st κ (ks.toArray.zip vs.toArray) (List.toArray (List.range vs.length)):=by
  have e:=kas_range (ks.toArray.zip vs.toArray)
  rw [show (ks.toArray.zip vs.toArray).size=vs.length by simp [hl]] at e
  show SortSt.mk' κ (ks.toArray.zip vs.toArray) #[] 7 none=SortSt.mk' κ ((List.toArray (List.range vs.length)).map (kas_item (ks.toArray.zip vs.toArray))) #[] 7 none
  rw [e]
 rw [est]
 exact run
end
end L2
namespace L2
open PySem PySem.Spec PyProof.Rows PySem.Calls PySem.W
section
variable {X:Cx} {pins:List (Addr×Obj)} {σ:St} {H:Hp} {s:Shared} {h':Heap}
theorem Inv.adoptW {t':Nat} {D:Addr} {o:HO} (I:Inv X pins σ H s) (k:∀b u,b≠D→s.heap.get? b=some u→h'.get? b=some u) (hn:H D=none) (hL:D≠X.env.locals)
  (h1:X.s₀.heap.objs.size≤D) (h2:∀x c,X.env.cells.lookup x=some c→c≠D) (h3:∀p∈X.pn++pins,p.1≠D) (new:yM X.prog X.w (upd H D o) h' D o):Inv X pins σ (upd H D o) {s with heap:=h',toks:=t'}:=by
 have nit:∀b u,H b=some u→b≠D:=fun b u e z=>by rw [z,hn] at e;cases e
 refine I.step (g':=s.gens) (d':=s.drawn) (ch:=[D]) (fun b hb=> ?_) (fun b o _ _ hc e _=>k b o (fun z=>hc (by simp [z])) e) (fun b o _ _ hc e _=>⟨o.slots,k b o (fun z=>hc (by simp [z])) e⟩) (fun b _ hc _ n=>by rw [zH (fun z=>hc (by simp [z]))];exact n)
  (fun b o hc e=>⟨o,k b o (fun z=>hc (by simp [z])) e⟩) (fun b _ e=>by rw [zH (nit b _ e)];exact e) (fun b _ _ e=>by rw [zH (nit b _ e)];exact e) (fun b ps e=>⟨#[],by rw [zH (nit b _ e),e];simp⟩) (fun m hm=> ?_) (fun b u e=> ?_) I.bare
 ·have e:b=D:=by simpa using hb
  subst e
  exact ⟨.inr h1,hL,h2,h3⟩
 ·obtain ⟨o,es,ep,ho,r⟩:=hm
  exact ⟨o,es,ep,k _ o (Ne.symm hL) ho,r⟩
 ·by_cases hb:b=D
  ·subst hb;rw [yr] at e;cases e;exact new
  ·rw [zH hb] at e
   refine (I.hok b u e).stay (fun c v hc q=>k c v ?_ q) (fun c q=>by rw [zH (nit c _ q)];exact q) fun c xs q=>by rw [zH (nit c _ q)];exact q
   rcases hc with z|z
   ·rw [z];exact hb
   ·exact nit c _ z
theorem VM:∀{xs:List V} {us:List Value} {i:Nat} {u:Value},zK xs us→us[i]? =some u→∃x,xs[i]? =some x∧ye x u
 |_,_,i,_,.nil,e=>by simp at e
 |_,_,0,_,.cons r _,e=>by cases e;exact ⟨_,rfl,r⟩
 |_,_,i+1,_,.cons _ l,e=>VM (i:=i) l e
end
noncomputable def ZM (is:List (List Int)):Prop:=(2≤is.length→∀l∈is,l≠[])∧∀i j,i<j→j<is.length→ltL (is.getD j []) (is.getD i [])=true
theorem ZM.nodup {is:List (List Int)} (h:ZM is):is.Nodup:=by
 rw [List.Nodup,List.pairwise_iff_getElem]
 intro i j hi hj hij e
 have:=h.2 i j hij hj
 rw [show is.getD j []=is[j] by simp [List.getD_eq_getElem?_getD,hj],show is.getD i []=is[i] by simp [List.getD_eq_getElem?_getD,hi],e,Wc] at this
 cases this
theorem ZM.rank {is:List (List Int)} (h:ZM is):∀i j,i<j→j<is.length→wZ is j<wZ is i:=fun i j hij hj=>by
 have h1:=h.2 i j hij hj
 rw [Uo h.nodup hj (by omega) (by omega)] at h1
 exact of_decide_eq_true h1
section
variable {X:Cx} {k:Nat} {f:Addr} {fd:FuncData} {ps:List Str} {sp:Sp} {pins:List (Addr×Obj)} {σ:St} {H:Hp} {s:Shared}
theorem VN (F:yL X.prog X.w X.K X.mg X.base (CXE X.prog X.w) k f fd ps sp) (hr:vb (k+1) X.A) (hb:yN X.K fd ps []) (I:Inv X pins σ H s) {l:Addr} {xs:List V} {its:List Value} {Q:VK} (hv:zK xs its) (hl:s.heap.IsList l its.toArray) (hz:xs.length≤sizeLine)
  (J:Nat→List V→Hp→Prop) (j0:J 0 [] H) (vL:∀i x ks H2,xs[i]? =some x→ks.length=i→J i ks H2→sp [x] H2 (fun v H3=>J (i+1) (ks++[v]) H3) E0)
  (fin:∀ks H2,ks.length=xs.length→J xs.length ks H2→(∃is:List (List Int),is.length=xs.length∧ZM is∧∀(i:Nat) v,ks[i]? =some v→∃a,v= .ref a∧SqT X.K H2 a ((is.getD i []).map V.int))∧∀p,H2 p=none→Q (.ref p) (upd H2 p (.lst xs.reverse))):
  wpAny (model X.prog X.w) X.A (call (.builtin "sorted") [.ref l] [(Str.ofString "key",.ref f)]) (EP X pins σ Q) X.xe s:=by
 have hlen:xs.length=its.length:=hv.length
 have hzi:its.length≤sizeLine:=by omega
 refine call_function_entry_kw kind_sorted plain_sorted entry_sorted (ksk_s1 _ _) ?_
 unfold Builtin.«sorted»
 refine wpAny_bind (m:=checkCount "sorted" 1 1 _) (wpAny_pure ?_)
 refine wpAny_bind (collect_list hl ?_ hzi)
 refine wpAny_bind (wpAny_newList ?_ hzi)
 have hsz:((s.heap.push (seqObj "list" #[] 0)).update s.heap.objs.size (Obj.mapSeq (· ++its.toArray))).objs.size=s.heap.objs.size+1:=by
  rw [Heap.size_update,size_push']
 have hoL:(((s.heap.push (seqObj "list" #[] 0)).update s.heap.objs.size (Obj.mapSeq (· ++its.toArray))).push (seqObj "list" its.toArray 0)).get? (s.heap.objs.size+1)=some (seqObj "list" its.toArray 0):=by
  rw [←hsz];exact Heap.get?_push_size _ rfl
 have keep:∀b o,s.heap.get? b=some o→(((s.heap.push (seqObj "list" #[] 0)).update s.heap.objs.size (Obj.mapSeq (· ++its.toArray))).push (seqObj "list" its.toArray 0)).get? b=some o:=fun b o q=>by
  have hlt:b<s.heap.objs.size:=Heap.lt_size q
  rw [Heap.get?_push_ne _ _ _ (by rw [hsz];exact Nat.ne_of_lt (Nat.lt_succ_of_lt hlt)),Heap.get?_update_ne _ _ _ _ (Nat.ne_of_lt hlt),Heap.get?_push_ne _ _ _ (Nat.ne_of_lt hlt)]
  exact q
 show wpAny _ _ _ _ _ {s with heap:=((s.heap.push (seqObj "list" #[] 0)).update s.heap.objs.size (Obj.mapSeq (· ++its.toArray))).push (seqObj "list" its.toArray 0)}
 rw [hsz]
 have hgz:(((s.heap.push (seqObj "list" #[] 0)).update s.heap.objs.size (Obj.mapSeq (· ++its.toArray))).push (seqObj "list" its.toArray 0)).objs.size=s.heap.objs.size+2:=by rw [size_push',hsz]
 generalize (((s.heap.push (seqObj "list" #[] 0)).update s.heap.objs.size (Obj.mapSeq (· ++its.toArray))).push (seqObj "list" its.toArray 0))=G at hoL keep hgz ⊢
 refine wpAny_bind (wpAny_holding (wpAny_call_entry_kw slot_list_sort ⟨_,hoL,rfl⟩ entry_list_sort ?body (ksk_l1 _ _)))
 show wpAny (model X.prog X.w) X.A.in1.in1 (Builtin.«list.sort» ⟨[.ref (s.heap.objs.size+1)],[(Str.ofString "key",.ref f)]⟩) _ _ _
 rw [ksk_t1]
 generalize hD:s.heap.objs.size+1=D at hoL ⊢
 obtain ⟨e1,ho1⟩:∃e1,(G.update D (Obj.mapSeq fun _=>(#[]:Array Value))).get? D=some (seqObj "list" #[] e1):=⟨_,get?_update_seq hoL fun _=> #[]⟩
 have hkS:((G.update D (Obj.mapSeq fun _=>(#[]:Array Value))).push (seqObj "tuple" its.toArray 0)).objs.size=s.heap.objs.size+3:=by rw [size_push',Heap.size_update,hgz]
 unfold ksk_tree
 refine wpAny_bind (listItems_at hoL rfl ?_)
 refine wpAny_bind (listUpdate_at hoL rfl ?_ (by rw [List.size_toArray];exact hzi) (Nat.zero_le _))
 refine wpAny_bind (seqEpoch_at ho1 rfl ?_)
 refine wpAny_bind (wpAny_newTuple ?_ hzi)
 refine wpAny_bind (wpAny_newList ?_ (Nat.zero_le _))
 refine wpAny_holding ?_
 have keep3:∀b o,s.heap.get? b=some o→(((G.update D (Obj.mapSeq fun _=>(#[]:Array Value))).push (seqObj "tuple" its.toArray 0)).push (seqObj "list" #[] 0)).get? b=some o:=fun b o q=>by
  have hlt: @LT.lt Nat _ b s.heap.objs.size:=Heap.lt_size q
  refine Heap.get?_push_of_some _ (Heap.get?_push_of_some _ ?_)
  rw [Heap.get?_update_ne _ _ _ _ (Nat.ne_of_lt (by omega))]
  exact keep b o q
 have atD:(((G.update D (Obj.mapSeq fun _=>(#[]:Array Value))).push (seqObj "tuple" its.toArray 0)).push (seqObj "list" #[] 0)).get? D=some (seqObj "list" #[] e1):=Heap.get?_push_of_some _ (Heap.get?_push_of_some _ ho1)
 have atK:(((G.update D (Obj.mapSeq fun _=>(#[]:Array Value))).push (seqObj "tuple" its.toArray 0)).push (seqObj "list" #[] 0)).get? (s.heap.objs.size+3)=some (seqObj "list" #[] 0):=by rw [←hkS];exact Heap.get?_push_size _ rfl
 show wpAny (model X.prog X.w) X.A.in1.in1 (ksk_rest D (.ref f) false its.toArray e1 (.ref _)) _ _ {s with heap:=(((G.update D (Obj.mapSeq fun _=>(#[]:Array Value))).push (seqObj "tuple" its.toArray 0)).push (seqObj "list" #[] 0))}
 rw [hkS]
 generalize (((G.update D (Obj.mapSeq fun _=>(#[]:Array Value))).push (seqObj "tuple" its.toArray 0)).push (seqObj "list" #[] 0))=G3 at keep3 atD atK ⊢
 have I3:Inv X pins σ H {s with heap:=G3}:=I.kept (t':=s.toks) keep3
 clear keep hgz hsz hkS ho1 hoL
 have ours:∀b:Nat,s.heap.objs.size≤b→b≠X.env.locals∧b∉X.fs∧X.s₀.heap.objs.size≤b∧(∀x c,X.env.cells.lookup x=some c→c≠b)∧∀p∈X.pn++pins,p.1≠b:=fun b hb=>by
  refine ⟨fun z=> ?_,I.nofs hb,Nat.le_trans I.sz hb,fun x c e z=> ?_,fun p hp z=> ?_⟩
  ·have: @LT.lt Nat _ X.env.locals s.heap.objs.size:=I.lt
   rw [←z] at this
   omega
  ·obtain ⟨v,o,ho,_⟩:=I.cell x c e
   have: @LT.lt Nat _ c s.heap.objs.size:=Heap.lt_size ho
   rw [z] at this
   omega
  ·have: @LT.lt Nat _ p.1 s.heap.objs.size:=Heap.lt_size (I.pin p hp).1
   rw [z] at this
   omega
 have oD:=ours D (by omega)
 have oK:=ours (s.heap.objs.size+3) (by omega)
 generalize hK:s.heap.objs.size+3=kS at atK oK ⊢
 have hDK:D≠kS:=by omega
 have nD:H D=none:=I.hok.fresh (by omega)
 have nK:H kS=none:=I.hok.fresh (by omega)
 unfold ksk_rest
 refine wpAny_bind (wpAny_rule ?_)
 first
  |rw [List.forIn_toArray]
  |(rw [←Array.forIn_toList];simp only [List.toList_toArray])
  |rw [←Array.forIn_toList]
 refine wpAny_bind (ksk_fold (fun i s'=>∃(H':Hp) (kA:Array Value) (e:Nat) (ks:List V),Inv X (pins++[(D,seqObj "list" #[] e1),(kS,seqObj "list" kA e)]) σ H' s'∧zK ks kA.toList∧ks.length=i∧J i ks H') its 0 _ ?init ?step ?done)
 case init=>
  refine ⟨H,#[],0,[],I3.pins_of fun p hp=> ?_,.nil,rfl,j0⟩
  rcases List.mem_append.1 hp with hp|hp
  ·exact I3.pin p (List.mem_append_right _ hp)
  rcases List.mem_cons.1 hp with rfl|hp
  ·exact ⟨atD,nD,oD.1,oD.2.1,fun v z=>by cases z⟩
  ·rw [List.mem_singleton.1 hp]
   exact ⟨atK,nK,oK.1,oK.2.1,fun v z=>by cases z⟩
 case step=>
  rintro j u s' hu ⟨H',kA,e,ks,I',hk,hkl,hj⟩
  rw [Nat.zero_add] at hkl hj ⊢
  obtain ⟨x,hx,rx⟩:=VM hv hu
  have hjl:j<its.length:=(List.getElem?_eq_some_iff.1 hu).1
  have hsp:=vL j x ks H' hx hkl hj
  have hbl:([u]++([]:List Value)).length=ps.length:=F.len _ _ _ _ hsp
  refine wpAny_bind (wpAny_attempt (wpAny_mono (Q:=EP X (pins++[(D,seqObj "list" #[] e1),(kS,seqObj "list" kA e)]) σ (fun v H3=>J (j+1) (ks++[v]) H3)) (E:=fun _ _=>False) (wpAny_call (codeAny_mono (F.run X.A.in1.in1 X.stack s' H' ⟨[u],[]⟩ [u] [x] _ E0 (⟨hr.hd,by have:=hr.dp;show X.A.depth+3*k+5<_;omega,by have:=hr.un;show X.A.units+1+1+16*k+200<_;omega,hr.gd⟩:vb k X.A.in1.in1) I'.env0.in1.in1 (hb s' [u] I'.kIn hbl) (.cons rx .nil) hsp) fun r s2 hq=> ?_)) (fun v s2 he=> ?_) fun _ _ z=>z.elim))
  ·cases r with
   |error e=>
    obtain ⟨_,_,_,_,_,z⟩:=hq
    exact z
   |ok fl=>
    cases fl with
    |ret u=>exact I'.after hq
    |next=>exact False.elim hq
    |brk=>exact False.elim hq
    |cont=>exact False.elim hq
  obtain ⟨kv,H3,I4,r4,q4⟩:=he
  dsimp only
  have pK:=I4.pin (kS,seqObj "list" kA e) (by simp)
  have pD:=I4.pin (D,seqObj "list" #[] e1) (by simp)
  have hkz:ks.length=kA.size:=by
   have:=hk.length
   rwa [Array.length_toList] at this
  refine wpAny_bind (listUpdate_at pK.1 rfl ?_ (by omega) (Nat.le_trans (Nat.le_of_eq (Array.size_push ..)) (by omega)))
  have s1:=Heap.SameBut.update s2.heap kS (Obj.mapSeq (·.push v))
  obtain ⟨c2,hc2⟩:∃c2,(s2.heap.update kS (Obj.mapSeq (·.push v))).get? kS=some (seqObj "list" (kA.push v) c2):=⟨_,get?_update_seq pK.1 (·.push v)⟩
  have I5:Inv X pins σ H3 s2:=I4.pins_of fun p hp=>I4.pin p (by simp [hp])
  have I6:Inv X pins σ H3 {s2 with heap:=s2.heap.update kS (Obj.mapSeq (·.push v))}:=I5.turned (t':=s2.toks) (fun b o hb q=>(s1.2 b hb).trans q) pK.2.1 oK.1 (.inr oK.2.2.1) oK.2.2.2.1 oK.2.2.2.2
  refine wpAny_pure ⟨rfl,H3,kA.push v,c2,ks++[kv],I6.pins_of fun p hp=> ?_,by
   rw [Array.toList_push]
   exact hk.append (.cons r4 .nil),by simp [hkl],q4⟩
  rcases List.mem_append.1 hp with hp|hp
  ·exact I6.pin p (List.mem_append_right _ hp)
  rcases List.mem_cons.1 hp with rfl|hp
  ·exact ⟨(s1.2 D hDK).trans pD.1,pD.2.1,oD.1,oD.2.1,fun v z=>by cases z⟩
  ·rw [List.mem_singleton.1 hp]
   exact ⟨hc2,pK.2.1,oK.1,oK.2.1,fun v z=>by cases z⟩
 case done=>
  rintro s' ⟨H',kA,e,ks,I',hk,hkl,hj⟩
  rw [Nat.zero_add] at hkl hj
  have pK:=I'.pin (kS,seqObj "list" kA e) (by simp)
  have pD:=I'.pin (D,seqObj "list" #[] e1) (by simp)
  have I5:Inv X pins σ H' s':=I'.pins_of fun p hp=>I'.pin p (by simp [hp])
  have hkz:kA.toList.length=its.length:=by rw [←hk.length];omega
  rw [←hlen] at hj
  obtain ⟨⟨is,his,hfall,hkeys⟩,q⟩:=fin ks H' (by omega) hj
  refine wpAny_bind (listItems_at pK.1 rfl ?_)
  have tail:∀(st:SortSt),(arrOf st).map (·.2)=its.reverse.toArray→(arrOf st).size=its.length→failedOf st=none→wpAny (model X.prog X.w) X.A.in1.in1 (ksk_tail D false e1 (.ref kS) st) (fun fin s2=>∃v,fin= .done (.ret v)∧wpAny (model X.prog X.w) X.A.in1 (ret (.ref D)) (fun fin s3=>∃v,fin= .done (.ret v)∧EP X pins σ Q v s3) X.xe s2) X.xe s':=by
   intro st hout hos hfl
   have s1:=Heap.SameBut.update s'.heap kS (Obj.mapSeq fun _=>(#[]:Array Value))
   have na1:(s'.heap.update kS (Obj.mapSeq fun _=>(#[]:Array Value))).get? D=some (seqObj "list" #[] e1):=(s1.2 D hDK).trans pD.1
   have s2:=Heap.SameBut.update (s'.heap.update kS (Obj.mapSeq fun _=>(#[]:Array Value))) D (Obj.mapSeq fun _=>its.reverse.toArray)
   obtain ⟨c2,hc2⟩:∃c2,((s'.heap.update kS (Obj.mapSeq fun _=>(#[]:Array Value))).update D (Obj.mapSeq fun _=>its.reverse.toArray)).get? D=some (seqObj "list" its.reverse.toArray c2):=⟨_,get?_update_seq na1 fun _=>its.reverse.toArray⟩
   unfold ksk_tail
   dsimp only
   refine wpAny_bind (listUpdate_at pK.1 rfl ?_ (by rw [Array.length_toList] at hkz;omega) (Nat.zero_le _))
   refine wpAny_bind (wpAny_letGo ?_)
   refine wpAny_bind (seqEpoch_at na1 rfl ?_)
   rw [hout,hfl]
   simp only [Bool.false_eq_true,if_false]
   refine wpAny_bind (listUpdate_at na1 rfl ?_ (Nat.zero_le _) (by rw [List.size_toArray,List.length_reverse];omega))
   simp only [bne_self_eq_false,Bool.false_eq_true,if_false]
   refine wpAny_pure ⟨_,rfl,wpAny_pure ⟨_,rfl,?_⟩⟩
   have I6:Inv X pins σ H' {s' with heap:=s'.heap.update kS (Obj.mapSeq fun _=>(#[]:Array Value))}:=I5.turned (t':=s'.toks) (fun b o hb q=>(s1.2 b hb).trans q) pK.2.1 oK.1 (.inr oK.2.2.1) oK.2.2.2.1 oK.2.2.2.2
   refine ⟨.ref D,_,I6.adoptW (t':=s'.toks) (o:= .lst xs.reverse) (fun b o hb q=>(s2.2 b hb).trans q) pD.2.1 oD.1 oD.2.2.1 oD.2.2.2.1 oD.2.2.2.2 ⟨by rw [List.length_reverse];exact hz,its.reverse,c2,hv.reverse,hc2⟩,rfl,q D pD.2.1⟩
  unfold ksk_end
  simp only [Bool.false_eq_true,if_false]
  by_cases h2:its.toArray.size<2
  ·rw [if_pos h2,if_pos h2]
   refine wpAny_bind (wpAny_pure ?_)
   rw [StateT.run_pure]
   refine wpAny_bind (wpAny_pure ?_)
   dsimp only
   rw [List.size_toArray] at h2
   refine tail (SortSt.mk' general' (kA.zip its.toArray) #[] 7 none) ?_ ?_ rfl
   ·show (kA.zip its.toArray).map (·.2)=_
    apply Array.toList_inj.1
    rw [Array.toList_map,ksk_zip,List.map_snd_zip (by omega)]
    match its,h2 with
    |[],_=>rfl
    |[_],_=>rfl
    |_::_::_,h2=>simp at h2;omega
   ·show (kA.zip its.toArray).size=_
    rw [Array.size_zip,List.size_toArray,←Array.length_toList,hkz,Nat.min_self]
  ·rw [if_neg h2,if_neg h2]
   rw [List.size_toArray] at h2
   have ask:zdK X.prog X.w X.A.in1.in1 (wZ is) kA.toList s':=UW (by omega) hfall.nodup (hfall.1 (by omega)) (fun i hi=>by
    obtain ⟨v,hv1,hv2⟩:=VM hk (List.getElem?_eq_getElem hi)
    obtain ⟨a,rfl,hq⟩:=hkeys i v hv1
    obtain ⟨its2,rv2,⟨o,e2,c2,m2,d2⟩,_⟩:=I5.tuple hq
    refine ⟨a,o,its2.toArray,m2,?_,e2,c2,d2,Vn rv2⟩
    have:kA.toList.getD i Value.none=kA.toList[i]:=by rw [List.getD_eq_getElem?_getD,List.getElem?_eq_getElem hi];rfl
    rw [this]
    exact hv2) (by omega)
   obtain ⟨κ,kd,ask⟩:=ask
   refine wpAny_bind (wpAny_mono (kd (fun k s2=>κ=k∧s'=s2) ⟨rfl,rfl⟩) ?_ fun _ _ z=>z.elim)
   rintro _ _ ⟨rfl,rfl⟩
   refine wpAny_bind (wpAny_mono (zat (Q:=fun st' s2=>(arrOf st').map (·.2)=its.reverse.toArray∧(arrOf st').size=its.length∧failedOf st'=none∧s'=s2) (ks:=kA.toList) (vs:=its) (is:=is) hkz (by omega) (by omega) ask hfall.rank fun st' s2 a b c d=>⟨a,b,c,d.symm⟩) ?_ fun _ _ z=>z)
   rintro ⟨⟨⟩,st'⟩ _ ⟨a,b,c,rfl⟩
   exact tail st' a b c
noncomputable def zau (K:PySem.W.Frag) (sp:Sp) (t:TA):TE:=fun σ H Q=>t σ H fun vs H1=>∃p xs,vs=[.ref p]∧SqL K H1 p xs∧∃J:Nat→List V→Hp→Prop,J 0 [] H1∧(∀i x ks H2,xs[i]? =some x→ks.length=i→J i ks H2→sp [x] H2 (fun v H3=>J (i+1) (ks++[v]) H3) E0)∧
 ∀ks H2,ks.length=xs.length→J xs.length ks H2→(∃is:List (List Int),is.length=xs.length∧ZM is∧∀(i:Nat) v,ks[i]? =some v→∃a,v= .ref a∧SqT K H2 a ((is.getD i []).map V.int))∧∀p,H2 p=none→Q (.ref p) (upd H2 p (.lst xs.reverse))
theorem zav {y:Str} {pp p2 kp pos:Pos} {e:Expr} {t:TA} (F:yL X.prog X.w X.K X.mg X.base (CXE X.prog X.w) k f fd ps sp) (hr:vb (k+1) X.A) (hb:yN X.K fd ps []) (hg:Gl X "sorted") (hm:X.mg "sorted"=none) (hgf:Gl X y) (hmf:X.mg y=some (.ref f)) (ha:PA X [e] t)
  (hdb:(y==("__debug__":Str))=false:=by decide) (he:backTo pos (starEach [e] X.env)=(false,eval e X.env)::backTo pos (starEach [] X.env):=by rfl) (hpl:(backTo pos (starEach [e] X.env)).any (·.1)=false:=by rfl):PE X (.Call (.Name "sorted" pp) [e] [⟨some "key",.Name y p2,kp⟩] pos) (zau X.K sp t):=by
 intro pins s σ H Q I h
 refine wpAny_Call_Name_kw (vd I hg hm boot_sorted ?_ (by decide) (by decide))
 refine callWith_kw (thn (ha pos pins s σ H _ I h) fun us s1 ⟨vs,H1,I1,r,q⟩=> ?_) he hpl rfl rfl
 obtain ⟨p,xs,rfl,hq,J,j0,vL,fin⟩:=q
 obtain ⟨u,rfl,ru⟩:=r.one
 cases ru
 show wpAny _ _ (evalAll [(do let v ←eval (.Name y p2) X.env;standAt pos;pure v)]) _ _ s1
 refine wpAny_evalAll_cons (wpAny_bind (XB I1 hgf hmf (wpAny_bind (wpAny_standAt (wpAny_pure ?_))) hdb))
 refine wpAny_evalAll_nil ?_
 obtain ⟨its,rv,pl,hz⟩:=I1.list hq
 exact VN F hr hb I1 rv pl.isList hz J j0 vL fin
end
section
variable {X:Cx}
noncomputable def zaw (K:PySem.W.Frag) (ta:TA):TI:=fun σ H R=>ta σ H fun vs H1=>∃a,vs=[.ref a]∧((∃xs,SqL K H1 a xs)∧R (Ite K a) H1∨(∃xs,SqT K H1 a xs)∧R (zdp K a) H1)
theorem zax {K:PySem.W.Frag} {elts:List Expr} {k:Nat} {tp:Pos} {l:Expr} {ta:TA} {p pos:Pos} (hg:Gl X "enumerate") (hm:X.mg "enumerate"=none) (ha:PA X [l] ta) (hK:X.K=K:=by rfl) (hs:starEach [l] X.env=[(false,eval l X.env)]:=by rfl):
  PI X (.Tuple elts k tp) (.Call (.Name "enumerate" p) [l] [] pos) (zaw K ta):=by
 subst hK
 intro pins s σ H R I h
 refine Call_ (vd I hg hm Boot.«enumerate» (PyProof.Rows.callWith_type1 (thn (ha pos pins s σ H _ I h) fun us s1 ⟨vs,H1,I1,r1,q1⟩=> ?_) hs rfl))
 obtain ⟨a,e,q1⟩:=q1
 subst e
 obtain ⟨u,rfl,ru⟩:=Yf r1
 cases ru
 have fpk:∀b∈[s1.heap.objs.size+1,s1.heap.objs.size],Yd X pins H1 b:=fun b hb=>by
  have hb:s1.heap.objs.size≤b:=by
   rcases (by simpa using hb:b=s1.heap.objs.size+1∨b=s1.heap.objs.size) with rfl|rfl
   ·exact Nat.le_succ _
   ·exact Nat.le_refl _
  exact Inv.fpOk I1 hb (I1.hok.fresh hb)|>fun ⟨f0,f1,f2,f3,f4,f5⟩=>⟨f0,f1,f2,f3,f4,f5⟩
 rcases q1 with ⟨⟨xs,hq⟩,q⟩|⟨⟨xs,hq⟩,q⟩
 ·obtain ⟨its,rv,p,hz⟩:=I1.list hq
  refine call_enumerate_list p.isList fun h' he hit hsz hk=> ?_
  have I2:Inv X pins σ H1 {s1 with heap:=h'}:=I1.kept (t':=s1.toks) hk
  refine wpAny_pyIter_enum (s:={s1 with heap:=h'}) he ?_
  exact ⟨s1.heap.objs.size+1,[s1.heap.objs.size+1,s1.heap.objs.size],_,_,H1,rfl,I2,UK a (s1.heap.objs.size+1) s1.heap.objs.size (Nat.succ_ne_self _),⟨⟨_,he⟩,hit⟩,fpk,q⟩
 ·obtain ⟨its,rv,p,hz⟩:=I1.tuple hq
  refine Vs p fun h' he hit hsz hk=> ?_
  have I2:Inv X pins σ H1 {s1 with heap:=h'}:=I1.kept (t':=s1.toks) hk
  refine wpAny_pyIter_enum (s:={s1 with heap:=h'}) he ?_
  exact ⟨s1.heap.objs.size+1,[s1.heap.objs.size+1,s1.heap.objs.size],_,_,H1,rfl,I2,Vt a (s1.heap.objs.size+1) s1.heap.objs.size (Nat.succ_ne_self _),⟨⟨_,he⟩,hit⟩,fpk,q⟩
end
end L2
namespace L2
open PySem PySem.Spec PyProof.Rows PySem.Calls
section
variable {K:PySem.W.Frag} {E:XK}
end
section
variable {S:Sto} {x y:Xv} {P:Xv→Sto→Prop} {p q:Int}
end
end L2
namespace L2
open PySem PySem.Spec PyProof.Rows PySem.Calls
section
variable {K:PySem.W.Frag} {E:XK}
end
end L2
namespace L2
open PySem PySem.Spec PyProof.Rows PySem.Calls
section
variable {K:PySem.W.Frag} {E:XK}
end
end L2
namespace L2
open PySem PySem.Spec PyProof.Rows PySem.Calls
section
variable {K:PySem.W.Frag} {E:XK}
end
end L2
namespace L2
open PySem PySem.Spec PyProof.Rows PySem.Calls
end L2
namespace L2
open PySem PySem.Spec PyProof.Rows PySem.Calls
section
variable {K:PySem.W.Frag} {E:XK} {F:Fm} {j:List Addr} {H:Hp} {σ:St} {ρ:Rho} {S:Sto} {x y z:Xv} {u v w:V}
end
end L2
namespace L2
open PySem PySem.Spec PyProof.Rows PySem.Calls
section
variable {K:PySem.W.Frag} {j:List Addr} {H:Hp}
end
section
variable {ρ:Rho} {S:Sto} {P:Xv→Sto→Prop} {N:Rho→Sto→Prop} {R:Xv→Sto→Prop} {a b m z:TwE} {x y:Xv}
end
end L2
namespace L2
open PySem PySem.Spec PyProof.Rows PySem.Calls
section
variable {K:PySem.W.Frag} {E:XK} {F:Fm} {j:List Addr} {H:Hp} {σ:St} {ρ:Rho} {S:Sto} {x:Xv} {v:V} {nm f m:Str} {C:Addr}
end
section
variable {ρ:Rho} {S:Sto} {P:Xv→Sto→Prop} {N:Rho→Sto→Prop} {R:Xv→Sto→Prop} {o m:TwE} {ms:List TwE} {nm f:Str}
end
end L2
namespace L2
open PySem PySem.Spec PyProof.Rows PySem.Calls
theorem ZZ {K:PySem.W.Frag} {X:Cx} (h:X.K=K:=by rfl):IxR X (rIx K):=h ▸ zcq
section
variable {K:PySem.W.Frag} {E:XK} {j:List Addr} {H:Hp}
end
end L2
namespace L2
open PySem PySem.Spec PyProof.Rows PySem.Calls
section
variable {K:PySem.W.Frag} {E:XK} {F:Fm} {j:List Addr} {H:Hp} {σ:St} {ρ:Rho} {S:Sto} {x:Xv} {v:V} {c:Str} {C:Addr}
end
end L2
namespace L2
open PySem
section
variable {ρ:Rho} {S S':Sto} {x y:Xv} {a b m o:TwE} {c:TwT} {s t:TwS} {i k:Nat} {P:Xv→Sto→Prop} {PL:List Xv→Sto→Prop} {N:Rho→Sto→Prop} {R:Xv→Sto→Prop} {X:Str→Sto→Prop}
end
end L2
namespace L2
open PySem PySem.Spec PyProof.Rows PySem.Calls
section
variable {K:PySem.W.Frag} {E:XK} {F:Fm} {j:List Addr} {H:Hp} {σ:St} {ρ:Rho} {S:Sto} {x:Xv} {v:V} {nm f:Str} {C:Addr}
end
end L2
namespace L2
open PySem PySem.Spec PyProof.Rows PySem.Calls
structure zb2 (tw:TwF) (S:Sto) (l:List Xv) (is:List (List Int)):Prop where
 len:is.length=l.length
 key:∀(i:Nat) x,l[i]? =some x→∃k,tw [x] S=some (.ok k S)∧k.tupOf=some ((is.getD i []).map Xv.int)
 fall:ZM is
open Classical in
noncomputable def VO (tw:TwF) (ms:List TwE):TwE:=fun ρ S=>rb (evL ms ρ S) fun xs S1=>match xs with
 |[x]=>(zP S1 x).bind fun l=>if ∃is,zb2 tw S1 l is then some (.ok (.ref S1.length) (S1++[.lst l.reverse])) else none
 |_=>none
section
variable {K:PySem.W.Frag} {E:XK} {j:List Addr} {H:Hp}
theorem zJ.v_of {xs:List Xv} {vs:List V} (h:zJ K j H xs vs) (ns:List Int) (e:xs=ns.map Xv.int):vs=ns.map V.int:=by
 subst e
 induction ns generalizing vs with
 |nil=>exact h.nil_inv
 |cons n r ih=>
  obtain ⟨v,ws,rfl,h1,h2⟩:=h.cons_inv
  rw [h1.int_inv,ih h2]
  rfl
theorem UZ {tw:TwF} {ms:List TwE} {t:TA} (h:RL K E t (evL ms)):RE K E (zau K (sTw K 1 tw) t) (VO tw ms):=by
 intro F j σ H ρ S r Q En0 e k
 rcases zu e with ⟨xs,S1,e1,e⟩|⟨c,S1,e1,rfl⟩
 ·refine h En0 e1 fun j1 H1 X1 E1 vs hv=> ?_
  split at e
  ·rename_i x
   cases el:zP S1 x with
   |none=>rw [el] at e;cases e
   |some l=>
    rw [el,Option.bind_some] at e
    split at e
    ·rename_i hk
     obtain ⟨is,hk⟩:=hk
     cases e
     obtain ⟨w,rfl,hx⟩:=hv.d1
     obtain ⟨p,ws,rfl,h1,h2⟩:=E1.lstAt hx el
     have lw:=h2.len
     refine ⟨p,ws,rfl,h1.sql,fun i ks H2=>∃j2,Ext j1 H1 j2 H2∧En K F j2 H2 σ ρ S1∧∀(n:Nat) v,ks[n]? =some v→∃a,v= .ref a∧∃x,Xis K j2 H2 x v∧x.tupOf=some ((is.getD n []).map Xv.int),⟨j1,Ext.refl,E1,fun n v z=>by simp at z⟩,?_,?_⟩
     ·rintro i v ks H2 hi hkl ⟨j2,X2,E2,hks⟩
      obtain ⟨x',hx',hv'⟩:=h2.getV hi
      obtain ⟨kx,et,ek⟩:=hk.key i x' hx'
      refine Xr E2 (.one (hv'.mono X2)) rfl et ?_
      intro j' H' X E3 v hkv
      refine ⟨j',X2.trans X,E3,fun n u hu=> ?_⟩
      by_cases hn:n<ks.length
      ·rw [List.getElem?_append_left hn] at hu
       obtain ⟨a,rfl,y,hy,ey⟩:=hks n u hu
       exact ⟨a,rfl,y,hy.mono X,ey⟩
      ·rw [List.getElem?_append_right (by omega)] at hu
       cases hm:n-ks.length with
       |zero=>
        rw [hm] at hu
        cases hu
        obtain ⟨a,vs',rfl,_,_⟩:=hkv.tupO ek
        have:n=i:=by omega
        subst this
        exact ⟨a,rfl,kx,hkv,ek⟩
       |succ m=>rw [hm] at hu;simp at hu
     ·rintro ks H2 hkl ⟨j2,X2,E2,hks⟩
      refine ⟨⟨is,by rw [hk.len,lw],hk.fall,fun i v hv=> ?_⟩,fun q hq=> ?_⟩
      ·obtain ⟨a,rfl,x',hx',ex⟩:=hks i v hv
       obtain ⟨a',vs',e',hs,hl⟩:=hx'.tupO ex
       cases e'
       rw [hl.v_of _ rfl] at hs
       exact ⟨a,rfl,hs⟩
      ·obtain ⟨E3,X3,h3⟩:=E2.lst (h2.mono X2).reverse hq
       exact k _ _ (X1.trans (X2.trans X3)) E3 _ h3
    ·cases e
  ·cases e
 ·exact h En0 e1 k
noncomputable def zcS (m:TwE):TwI:=fun ρ S=>rb (m ρ S) fun x S1=>match x.tupOf with
 |some l=>some (.ok (fun _=>some (ZK l)) S1)
 |none=>(zP S1 x).map fun _=> .ok (fun S=>(zP S x).map ZK) S1
theorem zay {t:TE} {m:TwE} (h:RE K E t m):RI K E (zaw K (Xc t Tq)) (zcS m):=by
 intro F j σ H ρ S r R En0 e k
 rcases zu e with ⟨x,S1,e1,e⟩|⟨c,S1,e1,rfl⟩
 ·split at e
  ·rename_i l el
   cases e
   refine h En0 e1 fun j1 H1 X1 E1 u hu=> ?_
   obtain ⟨a,vs,rfl,h1,_⟩:=hu.tupO el
   refine ⟨a,rfl,.inr ⟨⟨vs,h1⟩,k _ _ X1 E1 _ ?_⟩⟩
   intro F2 j2 H2 σ2 ρ2 S2 xs i X2 E2 e2
   cases e2
   obtain ⟨a',ws,ea,g1,g2⟩:=(hu.mono X2).tupO el
   cases ea
   refine ⟨fun y ey=> ?_,fun hle=>⟨ws,g1,by rw [g2.len];rw [vH] at hle;omega⟩⟩
   obtain ⟨y',ey',rfl⟩:=Zh ey
   obtain ⟨w,f1,f2⟩:=g2.get ey'
   refine ⟨⟨ws,w,g1,f1⟩,?_⟩
   rintro v' H' ⟨p,w',rfl,hp,rfl,hx⟩
   have:=hx ws g1
   rw [f1] at this
   cases this
   exact ⟨yZ hp,zdC (yZ hp) yr f2⟩
  ·cases el:zP S1 x with
   |none=>rw [el] at e;cases e
   |some l=>
    rw [el] at e
    cases e
    refine h En0 e1 fun j1 H1 X1 E1 u hu=> ?_
    obtain ⟨a,vs,rfl,h1,_⟩:=E1.lstAt hu el
    refine ⟨a,rfl,.inl ⟨⟨vs,h1.sql⟩,k _ _ X1 E1 _ ?_⟩⟩
    intro F2 j2 H2 σ2 ρ2 S2 xs i X2 E2 e2
    dsimp only at e2
    cases el2:zP S2 x with
    |none=>rw [el2] at e2;cases e2
    |some l2=>
     rw [el2] at e2
     cases e2
     obtain ⟨a',ws,ea,g1,g2⟩:=E2.lstAt (hu.mono X2) el2
     cases ea
     refine ⟨fun y ey=> ?_,fun hle=>⟨ws,g1.sql,by rw [g2.len];rw [vH] at hle;omega⟩⟩
     obtain ⟨y',ey',rfl⟩:=Zh ey
     obtain ⟨w,f1,f2⟩:=g2.get ey'
     refine ⟨⟨ws,w,g1.sql,f1⟩,?_⟩
     rintro v' H' ⟨p,w',rfl,hp,rfl,hx⟩
     have:=hx ws g1.sql
     rw [f1] at this
     cases this
     exact ⟨yZ hp,zdC (yZ hp) yr f2⟩
 ·exact h En0 e1 k
theorem Up {m:TwE} {ρ:Rho} {S:Sto} {Q':(Sto→Option (List Xv))→Sto→Prop} (h:W (m ρ S) fun x S1=>(∃l,x.tupOf=some l∧Q' (fun _=>some (ZK l)) S1)∨∃l,x.tupOf=none∧zP S1 x=some l∧Q' (fun S=>(zP S x).map ZK) S1):W (zcS m ρ S) Q':=W.bind (h.imp fun x S1 h=>by
 rcases h with ⟨l,e,k⟩|⟨l,e,e2,k⟩
 ·rw [e]
  exact .of rfl k
 ·rw [e,e2]
  exact .of rfl k)
end
theorem zaz {tw:TwF} {ms:List TwE} {ρ:Rho} {S:Sto} {P:Xv→Sto→Prop} (h:W (evL ms ρ S) fun xs S1=>∃x l is,xs=[x]∧zP S1 x=some l∧zb2 tw S1 l is∧P (.ref S1.length) (S1++[.lst l.reverse])):W (VO tw ms ρ S) P:=W.bind (h.imp fun xs S1 h=>by
 obtain ⟨x,l,is,rfl,e,hk,p⟩:=h
 dsimp only
 rw [e,Option.bind_some,if_pos ⟨is,hk⟩]
 exact .of rfl p)
end L2
namespace Mth
open PySem.Builtin.Int (intBits)
end Mth
namespace Prf
open PySem PySem.Spec PyProof.Rows L2
open PySem.Builtin.Int (intBits)
set_option maxHeartbeats 4000000
section
variable {P:Program} {w:World} {K:PySem.W.Frag} {mg:Str→Option Value} {base:Heap} {fu:Nat}
noncomputable def top (i:Nat):Stmt:=PySem.Challenge.pw_lots_k32_runs_of_a_tree.main.body.getD i (.Pass ⟨0,0,0,0⟩)
noncomputable abbrev yx:Stmt:=top 2
noncomputable abbrev wc:Stmt:=top 3
noncomputable abbrev wQ:Stmt:=top 4
noncomputable abbrev xL:Stmt:=top 6
noncomputable abbrev xj:Stmt:=top 7
noncomputable abbrev yR:Stmt:=top 8
noncomputable abbrev yS:Stmt:=top 10
noncomputable abbrev xk:Stmt:=top 11
noncomputable abbrev yu:Stmt:=top 12
noncomputable abbrev yD:Stmt:=top 13
noncomputable abbrev zZ:Stmt:=top 14
noncomputable abbrev yE:Stmt:=top 15
noncomputable abbrev yk:Stmt:=top 16
noncomputable abbrev xl:Stmt:=top 17
noncomputable abbrev yG:Stmt:=top 18
noncomputable abbrev Yx:Stmt:=top 19
theorem yz:yh ["one","other","rest"] ["one","other"] (zm yx):=⟨rfl,rfl,rfl,by decide+kernel,rfl,by decide+kernel,by decide+kernel⟩
theorem ZB:yh ["top","bottom","part"] ["top","bottom"] (zm wc):=⟨rfl,rfl,rfl,by decide+kernel,rfl,by decide+kernel,by decide+kernel⟩
theorem zaA:yh ["one","other"] ["one","other"] (zm wQ):=⟨rfl,rfl,rfl,by decide+kernel,rfl,by decide+kernel,by decide+kernel⟩
theorem Yy:yh ["tree","runs"] ["tree"] (zm xL):=⟨rfl,rfl,rfl,by decide+kernel,rfl,by decide+kernel,by decide+kernel⟩
theorem vz:yh ["runs","marks","share","tree","place","part"] ["runs","marks","share","tree"] (zm xj):=⟨rfl,rfl,rfl,by decide+kernel,rfl,by decide+kernel,by decide+kernel⟩
theorem WR:yh ["tree"] ["tree"] (zm yR):=⟨rfl,rfl,rfl,by decide+kernel,rfl,by decide+kernel,by decide+kernel⟩
theorem Wd:yh ["_law_left","_law_many"] ["_law_left","_law_many"] (zm yS):=⟨rfl,rfl,rfl,by decide+kernel,rfl,by decide+kernel,by decide+kernel⟩
theorem xw:yh ["_law_top","_law_bottom","_law_one","_law_other","_law_kept"] ["_law_top","_law_bottom"] (zm xk):=⟨rfl,rfl,rfl,by decide+kernel,rfl,by decide+kernel,by decide+kernel⟩
theorem We:yh ["_law_found","_law_due_here"] ["_law_found","_law_due_here"] (zm yu):=⟨rfl,rfl,rfl,by decide+kernel,rfl,by decide+kernel,by decide+kernel⟩
theorem wR:yh ["_law_left","_law_many","_law_gain"] ["_law_left","_law_many"] (zm yD):=⟨rfl,rfl,rfl,by decide+kernel,rfl,by decide+kernel,by decide+kernel⟩
theorem we:yh ["_law_left","_law_many","_law_most","_law_some"] ["_law_left","_law_many"] (zm zZ):=⟨rfl,rfl,rfl,by decide+kernel,rfl,by decide+kernel,by decide+kernel⟩
theorem yv:yh ["_law_left","_law_many","_law_depth","_law_hands","_law_way","_law_size","_law_parts","_law_share"] ["_law_left","_law_many","_law_depth","_law_hands"] (zm yE):=⟨rfl,rfl,rfl,by decide+kernel,rfl,by decide+kernel,by decide+kernel⟩
theorem yb:yh ["_law_left","_law_tree_here","_law_many","_law_hands","_law_k","_law_way","_law_beside"] ["_law_left","_law_tree_here","_law_many","_law_hands"] (zm yk):=⟨rfl,rfl,rfl,by decide+kernel,rfl,by decide+kernel,by decide+kernel⟩
theorem yF:yh ["_law_tree_here","_law_due_here","_law_some","_law_marks_here","_law_share","_law_below","_law_k","_law_part"] ["_law_tree_here"] (zm xl):=⟨rfl,rfl,rfl,by decide+kernel,rfl,by decide+kernel,by decide+kernel⟩
theorem YV:yh ["_law_run"] ["_law_run"] (zm yG):=⟨rfl,rfl,rfl,by decide+kernel,rfl,by decide+kernel,by decide+kernel⟩
theorem wS:yh ["_law_script","_law_left","_law_deep","_law_many","_law_tree_here","_law_other","_law_due_here","_law_found"] ["_law_script"] (zm Yx):=⟨rfl,rfl,rfl,by decide+kernel,rfl,by decide+kernel,by decide+kernel⟩
set_option genInjectivity false in
set_option genSizeOf false in
structure Tx (K:PySem.W.Frag) (mg:Str→Option Value) where
 a_common_part:Addr
 fd_common_part:FuncData
 F_common_part:Fun K "common_part" "common_part" yx a_common_part fd_common_part
 m_common_part:mg "common_part"=some (.ref a_common_part)
 b_common_part:yN K fd_common_part ["one","other"] []
 a_lowest:Addr
 fd_lowest:FuncData
 F_lowest:Fun K "lowest" "lowest" wc a_lowest fd_lowest
 m_lowest:mg "lowest"=some (.ref a_lowest)
 b_lowest:yN K fd_lowest ["top","bottom"] []
 a_times:Addr
 fd_times:FuncData
 F_times:Fun K "times" "times" wQ a_times fd_times
 m_times:mg "times"=some (.ref a_times)
 b_times:yN K fd_times ["one","other"] []
 a_runs_of:Addr
 fd_runs_of:FuncData
 F_runs_of:Fun K "runs_of" "runs_of" xL a_runs_of fd_runs_of
 m_runs_of:mg "runs_of"=some (.ref a_runs_of)
 b_runs_of:yN K fd_runs_of ["tree"] []
 a_add_runs:Addr
 fd_add_runs:FuncData
 F_add_runs:Fun K "add_runs" "add_runs" xj a_add_runs fd_add_runs
 m_add_runs:mg "add_runs"=some (.ref a_add_runs)
 b_add_runs:yN K fd_add_runs ["runs","marks","share","tree"] []
 a_parts_of:Addr
 fd_parts_of:FuncData
 F_parts_of:Fun K "parts_of" "parts_of" yR a_parts_of fd_parts_of
 m_parts_of:mg "parts_of"=some (.ref a_parts_of)
 b_parts_of:yN K fd_parts_of ["tree"] []
 a__law_take:Addr
 fd__law_take:FuncData
 F__law_take:Fun K "_law_take" "_law_take" yS a__law_take fd__law_take
 m__law_take:mg "_law_take"=some (.ref a__law_take)
 b__law_take:yN K fd__law_take ["_law_left","_law_many"] []
 a__law_low:Addr
 fd__law_low:FuncData
 F__law_low:Fun K "_law_low" "_law_low" xk a__law_low fd__law_low
 m__law_low:mg "_law_low"=some (.ref a__law_low)
 b__law_low:yN K fd__law_low ["_law_top","_law_bottom"] []
 a__law_same:Addr
 fd__law_same:FuncData
 F__law_same:Fun K "_law_same" "_law_same" yu a__law_same fd__law_same
 m__law_same:mg "_law_same"=some (.ref a__law_same)
 b__law_same:yN K fd__law_same ["_law_found","_law_due_here"] []
 a__law_leaf:Addr
 fd__law_leaf:FuncData
 F__law_leaf:Fun K "_law_leaf" "_law_leaf" yD a__law_leaf fd__law_leaf
 m__law_leaf:mg "_law_leaf"=some (.ref a__law_leaf)
 b__law_leaf:yN K fd__law_leaf ["_law_left","_law_many"] []
 a__law_shares:Addr
 fd__law_shares:FuncData
 F__law_shares:Fun K "_law_shares" "_law_shares" zZ a__law_shares fd__law_shares
 m__law_shares:mg "_law_shares"=some (.ref a__law_shares)
 b__law_shares:yN K fd__law_shares ["_law_left","_law_many"] []
 a__law_tree:Addr
 fd__law_tree:FuncData
 F__law_tree:Fun K "_law_tree" "_law_tree" yE a__law_tree fd__law_tree
 m__law_tree:mg "_law_tree"=some (.ref a__law_tree)
 b__law_tree:yN K fd__law_tree ["_law_left","_law_many","_law_depth","_law_hands"] []
 a__law_deeper:Addr
 fd__law_deeper:FuncData
 F__law_deeper:Fun K "_law_deeper" "_law_deeper" yk a__law_deeper fd__law_deeper
 m__law_deeper:mg "_law_deeper"=some (.ref a__law_deeper)
 b__law_deeper:yN K fd__law_deeper ["_law_left","_law_tree_here","_law_many","_law_hands"] []
 a__law_due:Addr
 fd__law_due:FuncData
 F__law_due:Fun K "_law_due" "_law_due" xl a__law_due fd__law_due
 m__law_due:mg "_law_due"=some (.ref a__law_due)
 b__law_due:yN K fd__law_due ["_law_tree_here"] []
 a__law_marks:Addr
 fd__law_marks:FuncData
 F__law_marks:Fun K "_law_marks" "_law_marks" yG a__law_marks fd__law_marks
 m__law_marks:mg "_law_marks"=some (.ref a__law_marks)
 b__law_marks:yN K fd__law_marks ["_law_run"] []
 a_law:Addr
 fd_law:FuncData
 F_law:Fun K "law" "law" Yx a_law fd_law
 m_law:mg "law"=some (.ref a_law)
 b_law:yN K fd_law ["_law_script"] []
 n_abs:mg "abs"=none
 n_all:mg "all"=none
 n_bool:mg "bool"=none
 n_enumerate:mg "enumerate"=none
 n_int:mg "int"=none
 n_isinstance:mg "isinstance"=none
 n_len:mg "len"=none
 n_list:mg "list"=none
 n_range:mg "range"=none
 n_reversed:mg "reversed"=none
 n_sorted:mg "sorted"=none
 n_str:mg "str"=none
 n_sum:mg "sum"=none
 n_tuple:mg "tuple"=none
 a_ONE:Addr
 m_ONE:mg "ONE"=some (.ref a_ONE)
 c_ONE:∀H,SqT K H a_ONE [.int 1,.int 1]
local macro_rules | `(tactic| walk_at "q1") => `(tactic| first | exact .inl rfl | exact .inr rfl | assumption)
noncomputable def wf (fu:Nat):TwS:=(zF (zS (eFn UT [(ze 0)]) (gN 0)) (zF (zS (eFn UT [(ze 1)]) (gN 1)) (zF (sWh fu (bE (eOp US (ze 1) (eC (.int 0)))) (zF (zS (eOp vU (ze 0) (ze 1)) (gN 2)) (zF (zS (ze 1) (gN 0)) (zS (ze 2) (gN 1))))) (xc (ze 0)))))
noncomputable def vA (fu:Nat):TwF:=yP 2 1 (wf fu)
theorem Yz (T:Tx K mg):yL P w K mg base (CXE P w) 1 T.a_common_part T.fd_common_part ["one","other"] (sTw K 2 (vA fu)):=
 T.F_common_part.okE yz (fun vs H Q E h=>h.1) (fun cdv A outer s H vs Q E hr h=>⟨_,(@zl _ _ _ _ _ (@zB _ _ 0 _ _ _ _ yz.nd rfl (Or.inl rfl) (zI Yg rfl T.n_abs boot_abs (@za _ _ _ _ _ (pv 0) zf zg)) (by rfl) (by walk_at "q1")) (@zl _ _ _ _ _ (@zB _ _ 1 _ _ _ _ yz.nd rfl (Or.inl rfl) (zI Yg rfl T.n_abs boot_abs (@za _ _ _ _ _ (pv 1) zf zg)) (by rfl) (by walk_at "q1")) (@zl _ _ _ _ _ (Yc PassesOwn.leaving (yI (Vh (pv 1) zi)) (@zl _ _ _ _ _ (@zB _ _ 2 _ _ _ _ yz.nd rfl (Or.inl rfl) (ym vh (pv 0) (pv 1)) (by rfl) (by walk_at "q1")) (@zl _ _ _ _ _ (@zB _ _ 0 _ _ _ _ yz.nd rfl (Or.inl rfl) (pv 1) (by rfl) (by walk_at "q1")) (@zn _ _ _ (@zB _ _ 1 _ _ _ _ yz.nd rfl (Or.inl rfl) (pv 2) (by rfl) (by walk_at "q1")))))) (@zn _ _ _ (@zV _ _ _ _ (pv 0)))))),xW (n:=2) (k:=1) (b:=wf fu) rfl (zq (zA (xz VI (zb (zc 0) zh)) zo) (zq (zA (xz VI (zb (zc 1) zh)) zo) (zq (Yq (xa (VH (zc 1) (zj _))) (zq (zA (zp vn (zc 0) (zc 1)) zo) (zq (zA (zc 1) zo) (zA (zc 2) zo)))) (zW (zc 0))))) h⟩)
noncomputable def ZC (fu:Nat):TwS:=(zF (zS (zD (vA fu) [(ze 0),(ze 1)]) (gN 2)) (zF (sIf (bE (eOp dLt (ze 1) (eC (.int 0)))) (zS (eUn zcz (ze 2)) (gN 2)) yO) (xc (zT [(eOp vV (ze 0) (ze 2)),(eOp vV (ze 1) (ze 2))]))))
noncomputable def ZD (fu:Nat):TwF:=yP 2 1 (ZC fu)
theorem Ta (T:Tx K mg):yL P w K mg base (CXE P w) 2 T.a_lowest T.fd_lowest ["top","bottom"] (sTw K 2 (ZD fu)):=
 T.F_lowest.okE ZB (fun vs H Q E h=>h.1) (fun cdv A outer s H vs Q E hr h=>⟨_,(@zl _ _ _ _ _ (@zB _ _ 2 _ _ _ _ ZB.nd rfl (Or.inl rfl) (zr (Yz (fu:=fu) T) (hr.mono (by decide)) rfl T.m_common_part T.F_common_part.kp T.b_common_part .nil ya (@za _ _ _ _ _ (pv 0) (@za _ _ _ _ _ (pv 1) zf zg) zg)) (by rfl) (by walk_at "q1")) (@zl _ _ _ _ _ (yB (yI (zc3 (pv 1) zi)) (@zn _ _ _ (@zB _ _ 2 _ _ _ _ ZB.nd rfl (Or.inl rfl) (zdc zcl (pv 2)) (by rfl) (by walk_at "q1"))) yg) (@zn _ _ _ (@zV _ _ _ _ (@zy _ _ _ _ _ (@za _ _ _ _ _ (ym Zb (pv 0) (pv 2)) (@za _ _ _ _ _ (ym Zb (pv 1) (pv 2)) zf yn) yn)))))),xW (n:=2) (k:=1) (b:=ZC fu) rfl (zq (zA (zt (zb (zc 0) (zb (zc 1) zh))) zo) (zq (yC (xa (zdB (zc 1) (zj _))) (zA (zdv zcA (zc 2)) zo) yj) (zW (zz (zb (zp Ze (zc 0) (zc 2)) (zb (zp Ze (zc 1) (zc 2)) zh)))))) h⟩)
noncomputable def YA (fu:Nat):TwS:=(xc (zD (ZD fu) [(eOp wY (eOp zM (ze 0) (eC (.int 0))) (eOp zM (ze 1) (eC (.int 0)))),(eOp wY (eOp zM (ze 0) (eC (.int 1))) (eOp zM (ze 1) (eC (.int 1))))]))
noncomputable def Zl (fu:Nat):TwF:=yP 2 0 (YA fu)
theorem zaB (T:Tx K mg):yL P w K mg base (CXE P w) 3 T.a_times T.fd_times ["one","other"] (sTw K 2 (Zl fu)):=
 T.F_times.okE zaA (fun vs H Q E h=>h.1) (fun cdv A outer s H vs Q E hr h=>⟨_,(@zn _ _ _ (@zV _ _ _ _ (zr (Ta (fu:=fu) T) (hr.mono (by decide)) rfl T.m_lowest T.F_lowest.kp T.b_lowest .nil ya (@za _ _ _ _ _ (ym Za (@zU _ _ _ _ _ _ _ (zE (K:=K)) (pv 0) zi (fun _ _=>rfl)) (@zU _ _ _ _ _ _ _ (zE (K:=K)) (pv 1) zi (fun _ _=>rfl))) (@za _ _ _ _ _ (ym Za (@zU _ _ _ _ _ _ _ (zE (K:=K)) (pv 0) zi (fun _ _=>rfl)) (@zU _ _ _ _ _ _ _ (zE (K:=K)) (pv 1) zi (fun _ _=>rfl))) zf yn) yn)))),xW (n:=2) (k:=0) (b:=YA fu) rfl (zW (zt (zb (zp Zd (zp zQ (zc 0) (zj _)) (zp zQ (zc 1) (zj _))) (zb (zp Zd (zp zQ (zc 0) (zj _)) (zp zQ (zc 1) (zj _))) zh)))) h⟩)
noncomputable def wE (fu:Nat):TwS:=(zF (sIf (bE (eOp (vc false) (eOp zM (ze 0) (eC (.int 0))) (eC (.str "hand")))) (xc (vO [none] (iT (eOp zM (ze 0) (eC (.int 1)))) (gN 0) vP (zT [(eC (.ct [.int 1,.int 1])),(ze 0)]))) yO) (xc (eOp zM (ze 0) (eC (.int 1)))))
noncomputable def wF (fu:Nat):TwF:=yP 1 0 (wE fu)
theorem WT (T:Tx K mg):yL P w K mg base (CXE P w) 1 T.a_parts_of T.fd_parts_of ["tree"] (sTw K 1 (wF fu)):=
 T.F_parts_of.okE WR (fun vs H Q E h=>h.1) (fun cdv A outer s H vs Q E hr h=>⟨_,(@zl _ _ _ _ _ (yB (vE ZH (@zU _ _ _ _ _ _ _ (zE (K:=K)) (pv 0) zi (fun _ _=>rfl)) xg (by rfl)) (@zn _ _ _ (@zV _ _ _ _ (wv (N':=["part"]) rfl (blk (osc:=zm yR) rfl (by decide+kernel)) (wy wx) (zbk (K:=K) (@zU _ _ _ _ _ _ _ (zE (K:=K)) (pv 0) zi (fun _ _=>rfl))) (xr rfl) (fun C s₀ H₀ fp=>yy (i:=0) (show (["part"]:List Str).Nodup from by decide+kernel) rfl (Or.inl rfl)) (fun C s₀ H₀ fp=>wu) (fun C s₀ H₀ fp=>(@zy _ _ _ _ _ (@za _ _ _ _ _ (VX (v:= .ref T.a_ONE) rfl T.m_ONE rfl) (@za _ _ _ _ _ (pv 0) zf zg) zg)))))) yg) (@zn _ _ _ (@zV _ _ _ _ (@zU _ _ _ _ _ _ _ (zE (K:=K)) (pv 0) zi (fun _ _=>rfl))))),xW (n:=1) (k:=0) (b:=wE fu) rfl (zq (yC (vG (zp vq (zp zQ (zc 0) (zj _)) (xi _))) (zW (wB (cap:=[none]) (zcx (zp zQ (zc 0) (zj _))) zo wA (zz (zb (UO fun j H=> .ct (fun H=>T.c_ONE H) (.cons (.int _) (.cons (.int _) (.nil)))) (zb (zc 0) zh))))) yj) (zW (zp zQ (zc 0) (zj _)))) h⟩)
noncomputable def yT (fu:Nat) (r_add_runs:TwF):TwS:=(sIf (bE (eOp (vc false) (eOp zM (ze 3) (eC (.int 0))) (eC (.str "end")))) (xb (eMt yi (ze 0) [(zT [(ze 1),(ze 2),(eOp zM (ze 3) (eC (.int 1))),(eOp zM (ze 3) (eC (.int 2)))])])) (sIf (bE (eOp (vc false) (eOp zM (ze 3) (eC (.int 0))) (eC (.str "lost")))) (xb (eMt yi (ze 0) [(zT [(ze 1),(ze 2),(eC .non),(eOp zM (ze 3) (eC (.int 1)))])])) (YT (zcS (zD (wF fu) [(ze 3)])) (gT 2 (wH (gN 4) (wH (gN 5) WL))) (xb (zD r_add_runs [(ze 0),(eOp wC (ze 1) (zT [(ze 4)])),(zD (Zl fu) [(ze 2),(eOp zM (ze 5) (eC (.int 0)))]),(eOp zM (ze 5) (eC (.int 1)))])))))
noncomputable def yc (fu:Nat):Nat→TwF
 |0=>fun _ _=>none
 |n+1=>yP 4 2 (yT fu (yc fu n))
theorem yA (fu n:Nat):yc fu (n+1)=yP 4 2 (yT fu (yc fu n)):=by rfl
theorem ZE (fu:Nat):yc fu 0=fun _ _=>none:=by rfl
theorem Wf (T:Tx K mg):∀n:Nat,yL P w K mg base (CXE P w) (3+n) T.a_add_runs T.fd_add_runs ["runs","marks","share","tree"] (sTw K 4 (yc fu n)):=by
 intro n
 induction n with
 |zero=>
  skip
  ·rw [ZE]
   exact XV
 |succ n ih=>
  ·rw [yA]
   exact T.F_add_runs.okE vz (fun vs H Q E h=>h.1) (fun cdv A outer s H vs Q E hr h=>⟨_,(@zn _ _ _ (yB (vE ZH (@zU _ _ _ _ _ _ _ (zE (K:=K)) (pv 3) zi (fun _ _=>rfl)) xg (by rfl)) (@zn _ _ _ (xN (Yh PySem.F.plainAttrs_list PySem.F.slot_list_append PySem.F.type_list_append xp (pv 0) (@za _ _ _ _ _ (@zy _ _ _ _ _ (@za _ _ _ _ _ (pv 1) (@za _ _ _ _ _ (pv 2) (@za _ _ _ _ _ (@zU _ _ _ _ _ _ _ (zE (K:=K)) (pv 3) zi (fun _ _=>rfl)) (@za _ _ _ _ _ (@zU _ _ _ _ _ _ _ (zE (K:=K)) (pv 3) zi (fun _ _=>rfl)) zf zx) zx) zg) zg)) zf zC)))) (@zn _ _ _ (yB (vE ZH (@zU _ _ _ _ _ _ _ (zE (K:=K)) (pv 3) zi (fun _ _=>rfl)) xg (by rfl)) (@zn _ _ _ (xN (Yh PySem.F.plainAttrs_list PySem.F.slot_list_append PySem.F.type_list_append xp (pv 0) (@za _ _ _ _ _ (@zy _ _ _ _ _ (@za _ _ _ _ _ (pv 1) (@za _ _ _ _ _ (pv 2) (@za _ _ _ _ _ Tf (@za _ _ _ _ _ (@zU _ _ _ _ _ _ _ (zE (K:=K)) (pv 3) zi (fun _ _=>rfl)) zf zx) zk) zg) zg)) zf zC)))) (@zn _ _ _ (XD PassesOwn.leaving rfl (zax (K:=K) rfl T.n_enumerate (@za _ _ _ _ _ (zr (WT (fu:=fu) T) (hr.mono (by (try simp only [Nat.add_eq]);omega)) rfl T.m_parts_of T.F_parts_of.kp T.b_parts_of .nil ya (@za _ _ _ _ _ (pv 3) zf zg)) zf yt)) (Uf (K:=K) (n:=2) rfl (vf (yy (i:=4) vz.nd rfl (Or.inl rfl)) (vf (yy (i:=5) vz.nd rfl (Or.inl rfl)) Ua))) (@zn _ _ _ (xN (zr ih (hr.mono (by (try simp only [Nat.add_eq]);omega)) rfl T.m_add_runs T.F_add_runs.kp T.b_add_runs .nil ya (@za _ _ _ _ _ (pv 0) (@za _ _ _ _ _ (ym (XQ (K:=K)) (pv 1) (@zy _ _ _ _ _ (@za _ _ _ _ _ (pv 4) zf zg))) (@za _ _ _ _ _ (zr (zaB (fu:=fu) T) (hr.mono (by (try simp only [Nat.add_eq]);omega)) rfl T.m_times T.F_times.kp T.b_times .nil ya (@za _ _ _ _ _ (pv 2) (@za _ _ _ _ _ (@zU _ _ _ _ _ _ _ (zE (K:=K)) (pv 5) zi (fun _ _=>rfl)) zf zx) zg)) (@za _ _ _ _ _ (@zU _ _ _ _ _ _ _ (zE (K:=K)) (pv 5) zi (fun _ _=>rfl)) zf zx) yt) yn) zg)))))))))),xW (n:=4) (k:=2) (b:=yT fu (yc fu n)) rfl (yC (vG (zp vq (zp zQ (zc 3) (zj _)) (xi _))) (xO (ZI xH (zc 0) (zb (zz (zb (zc 1) (zb (zc 2) (zb (zp zQ (zc 3) (zj _)) (zb (zp zQ (zc 3) (zj _)) zh))))) zh))) (yC (vG (zp vq (zp zQ (zc 3) (zj _)) (xi _))) (xO (ZI xH (zc 0) (zb (zz (zb (zc 1) (zb (zc 2) (zb TR (zb (zp zQ (zc 3) (zj _)) zh))))) zh))) (XT (zay (zt (zb (zc 3) zh))) (zaa (vm zo (vm zo Ug))) (xO (zt (zb (zc 0) (zb (zp XX (zc 1) (zz (zb (zc 4) zh))) (zb (zt (zb (zc 2) (zb (zp zQ (zc 5) (zj _)) zh))) (zb (zp zQ (zc 5) (zj _)) zh))))))))) h⟩)
theorem WU (T:Tx K mg) (n:Nat):yL P w K mg base (CXE P w) (3+n) T.a_add_runs T.fd_add_runs ["runs","marks","share","tree"] (sTw K 4 (yc fu n)):=(Wf T n)
noncomputable def vX (fu:Nat):TwS:=(zF (zS (Yo []) (gN 1)) (zF (xb (zD (yc fu 110) [(ze 1),(zT []),(eC (.ct [.int 1,.int 1])),(ze 0)])) (xc (ze 1))))
noncomputable def xm (fu:Nat):TwF:=yP 1 1 (vX fu)
theorem wT (T:Tx K mg):yL P w K mg base (CXE P w) 114 T.a_runs_of T.fd_runs_of ["tree"] (sTw K 1 (xm fu)):=
 T.F_runs_of.okE Yy (fun vs H Q E h=>h.1) (fun cdv A outer s H vs Q E hr h=>⟨_,(@zl _ _ _ _ _ (@zB _ _ 1 _ _ _ _ Yy.nd rfl (Or.inl rfl) (@vR _ _ _ _ zf) (by rfl) (by walk_at "q1")) (@zl _ _ _ _ _ (xN (zr (WU (fu:=fu) T 110) (hr.mono (by decide)) rfl T.m_add_runs T.F_add_runs.kp T.b_add_runs .nil ya (@za _ _ _ _ _ (pv 1) (@za _ _ _ _ _ (@zy _ _ _ _ _ zf) (@za _ _ _ _ _ (VX (v:= .ref T.a_ONE) rfl T.m_ONE rfl) (@za _ _ _ _ _ (pv 0) zf zg) zg) zC) zg))) (@zn _ _ _ (@zV _ _ _ _ (pv 1))))),xW (n:=1) (k:=1) (b:=vX fu) rfl (zq (zA (vS zh) zo) (zq (xO (zt (zb (zc 1) (zb (zz zh) (zb (UO fun j H=> .ct (fun H=>T.c_ONE H) (.cons (.int _) (.cons (.int _) (.nil)))) (zb (zc 0) zh)))))) (zW (zc 1)))) h⟩)
noncomputable def wU (fu:Nat):TwS:=(zF (sIf (bE (eOp YU (eFn wO [(ze 0)]) (eC (.int 0)))) (xc (eC (.int 0))) yO) (xc (eOp vU (eMt XS (ze 0) []) (ze 1))))
noncomputable def zv (fu:Nat):TwF:=yP 2 0 (wU fu)
theorem zL (T:Tx K mg):yL P w K mg base (CXE P w) 1 T.a__law_take T.fd__law_take ["_law_left","_law_many"] (sTw K 2 (zv fu)):=
 T.F__law_take.okE Wd (fun vs H Q E h=>h.1) (fun cdv A outer s H vs Q E hr h=>⟨_,(@zl _ _ _ _ _ (yB (yI (ve (zI (yV (K:=K)) rfl T.n_len boot_len (@za _ _ _ _ _ (pv 0) zf zg)) zi)) (@zn _ _ _ (@zV _ _ _ _ zi)) yg) (@zn _ _ _ (@zV _ _ _ _ (ym vh (Vo PySem.F.plainAttrs_list PySem.F.slot_list_pop PySem.F.type_list_pop Tv (pv 0)) (pv 1))))),xW (n:=2) (k:=0) (b:=wU fu) rfl (zq (yC (xa (vo (xz wP (zb (zc 0) zh)) (zj _))) (zW (zj _)) yj) (zW (zp vn (VD TY (zc 0)) (zc 1)))) h⟩)
noncomputable def vB (fu:Nat):TwS:=(zF (zS (eFn UT [(ze 0)]) (gN 2)) (zF (zS (ze 1) (gN 3)) (zF (sWh fu (bE (eOp dGt (ze 3) (eC (.int 0)))) (zF (zS (eOp vU (ze 2) (ze 3)) (gN 4)) (zF (zS (ze 3) (gN 2)) (zS (ze 4) (gN 3))))) (xc (zT [(eOp vV (ze 0) (ze 2)),(eOp vV (ze 1) (ze 2))])))))
noncomputable def xx (fu:Nat):TwF:=yP 2 3 (vB fu)
theorem ZN (T:Tx K mg):yL P w K mg base (CXE P w) 1 T.a__law_low T.fd__law_low ["_law_top","_law_bottom"] (sTw K 2 (xx fu)):=
 T.F__law_low.okE xw (fun vs H Q E h=>h.1) (fun cdv A outer s H vs Q E hr h=>⟨_,(@zl _ _ _ _ _ (@zB _ _ 2 _ _ _ _ xw.nd rfl (Or.inl rfl) (zI Yg rfl T.n_abs boot_abs (@za _ _ _ _ _ (pv 0) zf zg)) (by rfl) (by walk_at "q1")) (@zl _ _ _ _ _ (@zB _ _ 3 _ _ _ _ xw.nd rfl (Or.inl rfl) (pv 1) (by rfl) (by walk_at "q1")) (@zl _ _ _ _ _ (Yc PassesOwn.leaving (yI (Xb (pv 3) zi)) (@zl _ _ _ _ _ (@zB _ _ 4 _ _ _ _ xw.nd rfl (Or.inl rfl) (ym vh (pv 2) (pv 3)) (by rfl) (by walk_at "q1")) (@zl _ _ _ _ _ (@zB _ _ 2 _ _ _ _ xw.nd rfl (Or.inl rfl) (pv 3) (by rfl) (by walk_at "q1")) (@zn _ _ _ (@zB _ _ 3 _ _ _ _ xw.nd rfl (Or.inl rfl) (pv 4) (by rfl) (by walk_at "q1")))))) (@zn _ _ _ (@zV _ _ _ _ (@zy _ _ _ _ _ (@za _ _ _ _ _ (ym Zb (pv 0) (pv 2)) (@za _ _ _ _ _ (ym Zb (pv 1) (pv 2)) zf yn) yn))))))),xW (n:=2) (k:=3) (b:=vB fu) rfl (zq (zA (xz VI (zb (zc 0) zh)) zo) (zq (zA (zc 1) zo) (zq (Yq (xa (Xs (zc 3) (zj _))) (zq (zA (zp vn (zc 2) (zc 3)) zo) (zq (zA (zc 3) zo) (zA (zc 4) zo)))) (zW (zz (zb (zp Ze (zc 0) (zc 2)) (zb (zp Ze (zc 1) (zc 2)) zh))))))) h⟩)
noncomputable def yH (fu:Nat) (r__law_same:TwF):TwS:=(zF (sIf (bE (eUn (ZW "tuple") (ze 1))) (zF (sIf (bOr (YR (bE (eUn (ZW "tuple") (ze 0)))) (bE (eOp US (eFn wO [(ze 0)]) (eFn wO [(ze 1)])))) (xc (eC (.bl false))) yO) (xc (eFn UV [(vO [none,some 0,some 1] (iR1 (eFn wO [(ze 1)])) (gN 0) vP (zD r__law_same [(eOp WK (ze 1) (ze 0)),(eOp WK (ze 2) (ze 0))]))]))) yO) (zF (sIf (bE (eUn (ZW "list") (ze 1))) (zF (sIf (bOr (YR (bE (eUn (ZW "list") (ze 0)))) (bE (eOp US (eFn wO [(ze 0)]) (eFn wO [(ze 1)])))) (xc (eC (.bl false))) yO) (xc (eFn UV [(vO [none,some 0,some 1] (iR1 (eFn wO [(ze 1)])) (gN 0) vP (zD r__law_same [(eOp WK (ze 1) (ze 0)),(eOp WK (ze 2) (ze 0))]))]))) yO) (zF (sIf (bE (eUn UP (ze 1))) (xc (eUn UP (ze 0))) yO) (zF (sIf (bE (eUn (ZW "str") (ze 1))) (xc (TQ (eUn (ZW "str") (ze 0)) (eOp (vc false) (ze 0) (ze 1)))) yO) (xc (TQ (eUn (ZW "int") (ze 0)) (TQ (eB (YR (bE (eUn (ZW "bool") (ze 0))))) (eOp (vc false) (ze 0) (ze 1)))))))))
noncomputable def zG (fu:Nat):Nat→TwF
 |0=>fun _ _=>none
 |n+1=>yP 2 0 (yH fu (zG fu n))
theorem yw (fu n:Nat):zG fu (n+1)=yP 2 0 (yH fu (zG fu n)):=by rfl
theorem Zm (fu:Nat):zG fu 0=fun _ _=>none:=by rfl
theorem YW (T:Tx K mg):∀n:Nat,yL P w K mg base (CXE P w) (0+n) T.a__law_same T.fd__law_same ["_law_found","_law_due_here"] (sTw K 2 (zG fu n)):=by
 intro n
 induction n with
 |zero=>
  skip
  ·rw [Zm]
   exact XV
 |succ n ih=>
  ·rw [yw]
   exact T.F__law_same.okE We (fun vs H Q E h=>h.1) (fun cdv A outer s H vs Q E hr h=>⟨_,(@zl _ _ _ _ _ (yB (xF (zI (xt (K:=K)) rfl T.n_isinstance boot_isinstance (za (pv 1) (za (wo (v:= .ty "tuple") rfl T.n_tuple boot_tuple rfl) zf)))) (@zl _ _ _ _ _ (yB (PW.pt (Wu (Zv (xF (zI (xt (K:=K)) rfl T.n_isinstance boot_isinstance (za (pv 0) (za (wo (v:= .ty "tuple") rfl T.n_tuple boot_tuple rfl) zf))))) (Yb (yI (Vh (zI (yV (K:=K)) rfl T.n_len boot_len (@za _ _ _ _ _ (pv 0) zf zg)) (zI (yV (K:=K)) rfl T.n_len boot_len (@za _ _ _ _ _ (pv 1) zf zg))))))) (@zn _ _ _ (@zV _ _ _ _ YZ)) yg) (@zn _ _ _ (@zV _ _ _ _ (zI (Xm (K:=K) rfl) rfl T.n_all PyProof.Rows.Boot.«all» (za (wv (N':=["_law_k","_law_found","_law_due_here"]) rfl (blk (osc:=zm yu) rfl (by decide+kernel)) (wy (yW (i:=0) rfl rfl (yW (i:=1) rfl rfl wx))) (xo rfl T.n_range (@za _ _ _ _ _ (zI (yV (K:=K)) rfl T.n_len boot_len (@za _ _ _ _ _ (pv 1) zf zg)) zf yt)) (xr rfl) (fun C s₀ H₀ fp=>yy (i:=0) (show (["_law_k","_law_found","_law_due_here"]:List Str).Nodup from by decide+kernel) rfl (Or.inl rfl)) (fun C s₀ H₀ fp=>wu) (fun C s₀ H₀ fp=>(zr ih (hr.mono (by (try simp only [Nat.add_eq]);omega)) rfl T.m__law_same T.F__law_same.kp T.b__law_same .nil Xj (@za _ _ _ _ _ (@zU _ _ _ _ _ _ _ (ZZ (K:=K)) (pv 1) (pv 0) (fun _ _=>rfl)) (@za _ _ _ _ _ (@zU _ _ _ _ _ _ _ (ZZ (K:=K)) (pv 2) (pv 0) (fun _ _=>rfl)) zf zx) zx)))) zf))))) yg) (@zl _ _ _ _ _ (yB (xF (zI (xt (K:=K)) rfl T.n_isinstance boot_isinstance (za (pv 1) (za (wo (v:= .ty "list") rfl T.n_list boot_list rfl) zf)))) (@zl _ _ _ _ _ (yB (PW.pt (Wu (Zv (xF (zI (xt (K:=K)) rfl T.n_isinstance boot_isinstance (za (pv 0) (za (wo (v:= .ty "list") rfl T.n_list boot_list rfl) zf))))) (Yb (yI (Vh (zI (yV (K:=K)) rfl T.n_len boot_len (@za _ _ _ _ _ (pv 0) zf zg)) (zI (yV (K:=K)) rfl T.n_len boot_len (@za _ _ _ _ _ (pv 1) zf zg))))))) (@zn _ _ _ (@zV _ _ _ _ YZ)) yg) (@zn _ _ _ (@zV _ _ _ _ (zI (Xm (K:=K) rfl) rfl T.n_all PyProof.Rows.Boot.«all» (za (wv (N':=["_law_k","_law_found","_law_due_here"]) rfl (blk (osc:=zm yu) rfl (by decide+kernel)) (wy (yW (i:=0) rfl rfl (yW (i:=1) rfl rfl wx))) (xo rfl T.n_range (@za _ _ _ _ _ (zI (yV (K:=K)) rfl T.n_len boot_len (@za _ _ _ _ _ (pv 1) zf zg)) zf yt)) (xr rfl) (fun C s₀ H₀ fp=>yy (i:=0) (show (["_law_k","_law_found","_law_due_here"]:List Str).Nodup from by decide+kernel) rfl (Or.inl rfl)) (fun C s₀ H₀ fp=>wu) (fun C s₀ H₀ fp=>(zr ih (hr.mono (by (try simp only [Nat.add_eq]);omega)) rfl T.m__law_same T.F__law_same.kp T.b__law_same .nil Xj (@za _ _ _ _ _ (@zU _ _ _ _ _ _ _ (ZZ (K:=K)) (pv 1) (pv 0) (fun _ _=>rfl)) (@za _ _ _ _ _ (@zU _ _ _ _ _ _ _ (ZZ (K:=K)) (pv 2) (pv 0) (fun _ _=>rfl)) zf zx) zx)))) zf))))) yg) (@zl _ _ _ _ _ (yB (yI (Tg (pv 1))) (@zn _ _ _ (@zV _ _ _ _ (Th (Tg (pv 0))))) yg) (@zl _ _ _ _ _ (yB (xF (zI (xt (K:=K)) rfl T.n_isinstance boot_isinstance (za (pv 1) (za (wo (v:= .ty "str") rfl T.n_str boot_str rfl) zf)))) (@zn _ _ _ (@zV _ _ _ _ (Vi (zI (xt (K:=K)) rfl T.n_isinstance boot_isinstance (za (pv 0) (za (wo (v:= .ty "str") rfl T.n_str boot_str rfl) zf))) (Tj (Ub ZH (pv 0) (pv 1) (by rfl)))))) yg) (@zn _ _ _ (@zV _ _ _ _ (Vi (zI (xt (K:=K)) rfl T.n_isinstance boot_isinstance (za (pv 0) (za (wo (v:= .ty "int") rfl T.n_int boot_int rfl) zf))) (Vi (zcc (zI (xt (K:=K)) rfl T.n_isinstance boot_isinstance (za (pv 0) (za (wo (v:= .ty "bool") rfl T.n_bool boot_bool rfl) zf)))) (Tj (Ub ZH (pv 0) (pv 1) (by rfl))))))))))),xW (n:=2) (k:=0) (b:=yH fu (zG fu n)) rfl (zq (yC (xa (vt Xt (zc 1))) (zq (yC (WJ (Zx (xa (vt Xt (zc 0)))) (xa (VH (xz wP (zb (zc 0) zh)) (xz wP (zb (zc 1) zh))))) (zW (Xn _)) yj) (zW (xz zah (zb (wB (cap:=[none,some 0,some 1]) (xu (xz wP (zb (zc 1) zh))) zo wA (zt (zb (zp XR (zc 1) (zc 0)) (zb (zp XR (zc 2) (zc 0)) zh)))) zh)))) yj) (zq (yC (xa (vt WP (zc 1))) (zq (yC (WJ (Zx (xa (vt WP (zc 0)))) (xa (VH (xz wP (zb (zc 0) zh)) (xz wP (zb (zc 1) zh))))) (zW (Xn _)) yj) (zW (xz zah (zb (wB (cap:=[none,some 0,some 1]) (xu (xz wP (zb (zc 1) zh))) zo wA (zt (zb (zp XR (zc 1) (zc 0)) (zb (zp XR (zc 2) (zc 0)) zh)))) zh)))) yj) (zq (yC (xa (TV (zc 1))) (zW (TV (zc 0))) yj) (zq (yC (xa (vt Ui (zc 1))) (zW (Vz (vt Ui (zc 0)) (zp vq (zc 0) (zc 1)))) yj) (zW (Vz (vt zbs (zc 0)) (Vz (zcv (vt zai (zc 0))) (zp vq (zc 0) (zc 1))))))))) h⟩)
theorem xA (T:Tx K mg) (n:Nat):yL P w K mg base (CXE P w) (0+n) T.a__law_same T.fd__law_same ["_law_found","_law_due_here"] (sTw K 2 (zG fu n)):=(YW T n)
noncomputable def wV (fu:Nat):TwS:=(zF (zS (zD (zv fu) [(ze 0),(eC (.int 10))]) (gN 2)) (zF (sIf (bE (eOp YU (ze 2) (eC (.int 9)))) (zS (zD (zv fu) [(ze 0),(eOp zac (eC (.int 10)) (eC (.int 60)))]) (gN 2)) yO) (zF (sIf (bE (eOp YU (zD (zv fu) [(ze 0),(eC (.int 4))]) (eC (.int 0)))) (xc (zT [(eC (.str "lost")),(ze 2)])) yO) (xc (zT [(eC (.str "end")),(eFn wJ [(vO [none,some 0] (iR1 (ze 1)) (gN 0) vP (zD (zv fu) [(ze 1),(eC (.int 3))]))]),(ze 2)])))))
noncomputable def xX (fu:Nat):TwF:=yP 2 1 (wV fu)
theorem Zn (T:Tx K mg):yL P w K mg base (CXE P w) 2 T.a__law_leaf T.fd__law_leaf ["_law_left","_law_many"] (sTw K 2 (xX fu)):=
 T.F__law_leaf.okE wR (fun vs H Q E h=>h.1) (fun cdv A outer s H vs Q E hr h=>⟨_,(@zl _ _ _ _ _ (@zB _ _ 2 _ _ _ _ wR.nd rfl (Or.inl rfl) (zr (zL (fu:=fu) T) (hr.mono (by decide)) rfl T.m__law_take T.F__law_take.kp T.b__law_take .nil ya (@za _ _ _ _ _ (pv 0) (@za _ _ _ _ _ zi zf zk) zg)) (by rfl) (by walk_at "q1")) (@zl _ _ _ _ _ (yB (yI (ve (pv 2) zi)) (@zn _ _ _ (@zB _ _ 2 _ _ _ _ wR.nd rfl (Or.inl rfl) (zr (zL (fu:=fu) T) (hr.mono (by decide)) rfl T.m__law_take T.F__law_take.kp T.b__law_take .nil ya (@za _ _ _ _ _ (pv 0) (@za _ _ _ _ _ (ym Tp zi zi) zf yn) zg)) (by rfl) (by walk_at "q1"))) yg) (@zl _ _ _ _ _ (yB (yI (ve (zr (zL (fu:=fu) T) (hr.mono (by decide)) rfl T.m__law_take T.F__law_take.kp T.b__law_take .nil ya (@za _ _ _ _ _ (pv 0) (@za _ _ _ _ _ zi zf zk) zg)) zi)) (@zn _ _ _ (@zV _ _ _ _ (@zy _ _ _ _ _ (@za _ _ _ _ _ xg (@za _ _ _ _ _ (pv 2) zf zg) zk)))) yg) (@zn _ _ _ (@zV _ _ _ _ (@zy _ _ _ _ _ (@za _ _ _ _ _ xg (@za _ _ _ _ _ (vF (ww (K:=K)) rfl T.n_tuple boot_tuple (za (wv (N':=["_law_k","_law_left"]) rfl (blk (osc:=zm yD) rfl (by decide+kernel)) (wy (yW (i:=0) rfl rfl wx)) (xo rfl T.n_range (@za _ _ _ _ _ (pv 1) zf zg)) (xr rfl) (fun C s₀ H₀ fp=>yy (i:=0) (show (["_law_k","_law_left"]:List Str).Nodup from by decide+kernel) rfl (Or.inl rfl)) (fun C s₀ H₀ fp=>wu) (fun C s₀ H₀ fp=>(zr (zL (fu:=fu) T) (hr.mono (by decide)) rfl T.m__law_take T.F__law_take.kp T.b__law_take .nil Xj (@za _ _ _ _ _ (pv 1) (@za _ _ _ _ _ zi zf zk) zg)))) zf)) (@za _ _ _ _ _ (pv 2) zf zg) yt) zk))))))),xW (n:=2) (k:=1) (b:=wV fu) rfl (zq (zA (zt (zb (zc 0) (zb (zj _) zh))) zo) (zq (yC (xa (vo (zc 2) (zj _))) (zA (zt (zb (zc 0) (zb (zp zae (zj _) (zj _)) zh))) zo) yj) (zq (yC (xa (vo (zt (zb (zc 0) (zb (zj _) zh))) (zj _))) (zW (zz (zb (xi _) (zb (zc 2) zh)))) yj) (zW (zz (zb (xi _) (zb (xz Zf (zb (wB (cap:=[none,some 0]) (xu (zc 1)) zo wA (zt (zb (zc 1) (zb (zj _) zh)))) zh)) (zb (zc 2) zh)))))))) h⟩)
noncomputable def wg (fu:Nat):TwS:=(zF (zS (eOp VA (Yo [(eC (.int 4)),(eC (.int 4)),(eOp zac (eC (.int 10)) (eC (.int 9)))]) (zD (zv fu) [(ze 0),(eC (.int 3))])) (gN 2)) (zF (zS (vO [none,some 0,some 2] (iR1 (ze 1)) (gN 0) vP (eOp ZV (eC (.int 1)) (zD (zv fu) [(ze 1),(ze 2)]))) (gN 3)) (xc (vO [none,some 3] (iL (ze 3)) (gN 0) vP (zD (xx fu) [(ze 0),(eFn zag [(ze 1)])])))))
noncomputable def yU (fu:Nat):TwF:=yP 2 2 (wg fu)
theorem YB (T:Tx K mg):yL P w K mg base (CXE P w) 2 T.a__law_shares T.fd__law_shares ["_law_left","_law_many"] (sTw K 2 (yU fu)):=
 T.F__law_shares.okE we (fun vs H Q E h=>h.1) (fun cdv A outer s H vs Q E hr h=>⟨_,(@zl _ _ _ _ _ (@zB _ _ 2 _ _ _ _ we.nd rfl (Or.inr rfl) (@zU _ _ _ _ _ _ _ (Yn (K:=K)) (@vR _ _ _ _ (@za _ _ _ _ _ zi (@za _ _ _ _ _ zi (@za _ _ _ _ _ (ym Tp zi zi) zf yn) zk) zk)) (zr (zL (fu:=fu) T) (hr.mono (by decide)) rfl T.m__law_take T.F__law_take.kp T.b__law_take .nil ya (@za _ _ _ _ _ (pv 0) (@za _ _ _ _ _ zi zf zk) zg)) (fun _ _=>rfl)) (by rfl) (by walk_at "q1")) (@zl _ _ _ _ _ (@zB _ _ 3 _ _ _ _ we.nd rfl (Or.inr rfl) (wv (N':=["_law_k","_law_left","_law_most"]) rfl (blk (osc:=zm zZ) rfl (by decide+kernel)) (wy (yW (i:=0) rfl rfl (yW (i:=2) rfl rfl wx))) (xo rfl T.n_range (@za _ _ _ _ _ (pv 1) zf zg)) (xr rfl) (fun C s₀ H₀ fp=>yy (i:=0) (show (["_law_k","_law_left","_law_most"]:List Str).Nodup from by decide+kernel) rfl (Or.inl rfl)) (fun C s₀ H₀ fp=>wu) (fun C s₀ H₀ fp=>(ym Zw zi (zr (zL (fu:=fu) T) (hr.mono (by decide)) rfl T.m__law_take T.F__law_take.kp T.b__law_take .nil Xj (@za _ _ _ _ _ (pv 1) (@za _ _ _ _ _ (pv 2) zf zg) zg))))) (by rfl) (by walk_at "q1")) (@zn _ _ _ (@zV _ _ _ _ (wv (N':=["_law_one","_law_some"]) rfl (blk (osc:=zm zZ) rfl (by decide+kernel)) (wy (yW (i:=3) rfl rfl wx)) (WG (K:=K) (pv 3)) (xr rfl) (fun C s₀ H₀ fp=>yy (i:=0) (show (["_law_one","_law_some"]:List Str).Nodup from by decide+kernel) rfl (Or.inl rfl)) (fun C s₀ H₀ fp=>wu) (fun C s₀ H₀ fp=>(zr (ZN (fu:=fu) T) (hr.mono (by decide)) rfl T.m__law_low T.F__law_low.kp T.b__law_low .nil Xj (@za _ _ _ _ _ (pv 0) (@za _ _ _ _ _ (zI (UL (K:=K) rfl) rfl T.n_sum PyProof.Rows.Boot.«sum» (@za _ _ _ _ _ (pv 1) zf zg)) zf yt) zg)))))))),xW (n:=2) (k:=2) (b:=wg fu) rfl (zq (zA (zp VB (vS (zb (zj _) (zb (zj _) (zb (zp zae (zj _) (zj _)) zh)))) (zt (zb (zc 0) (zb (zj _) zh)))) zo) (zq (zA (wB (cap:=[none,some 0,some 2]) (xu (zc 1)) zo wA (zp Zy (zj _) (zt (zb (zc 1) (zb (zc 2) zh))))) zo) (zW (wB (cap:=[none,some 3]) (Uh (zc 3)) zo wA (zt (zb (zc 0) (zb (xz zcB (zb (zc 1) zh)) zh))))))) h⟩)
noncomputable def xB (fu:Nat) (r__law_tree:TwF):TwS:=(zF (zS (zD (zv fu) [(ze 0),(eC (.int 4))]) (gN 4)) (zF (sIf (bOr (bE (eOp YU (ze 2) (eC (.int 0)))) (bE (eOp YU (ze 4) (eC (.int 0))))) (xc (zD (xX fu) [(ze 0),(ze 1)])) yO) (zF (sIf (zbn (bE (eOp YU (ze 4) (eC (.int 1)))) (bE (ze 3))) (zF (zS (eOp ZV (eC (.int 2)) (zD (zv fu) [(ze 0),(eC (.int 7))])) (gN 5)) (zF (sIf (bE (eOp dGt (ze 2) (eC (.int 1)))) (zS (eOp ZV (eC (.int 2)) (eOp vU (ze 5) (eC (.int 3)))) (gN 5)) yO) (xc (zT [(eC (.str "hand")),(eFn wJ [(vO [none,some 0,some 1,some 3,some 2] (iR1 (ze 5)) (gN 0) vP (zD r__law_tree [(ze 1),(ze 2),(eOp VF (ze 4) (eC (.int 1))),(ze 3)]))])])))) yO) (zF (zS (eOp ZV (eC (.int 1)) (zD (zv fu) [(ze 0),(eC (.int 9))])) (gN 5)) (zF (sIf (bE (eOp dGt (ze 2) (eC (.int 1)))) (zS (eOp ZV (eC (.int 1)) (eOp vU (ze 5) (eC (.int 4)))) (gN 5)) yO) (zF (zS (Yo []) (gN 6)) (zF (YT (iL (zD (yU fu) [(ze 0),(ze 5)])) (gN 7) (xb (eMt yi (ze 6) [(zT [(ze 7),(zD r__law_tree [(ze 0),(ze 1),(eOp VF (ze 2) (eC (.int 1))),(ze 3)])])]))) (xc (zT [(eC (.str "draw")),(eFn wJ [(ze 6)])])))))))))
noncomputable def zO (fu:Nat):Nat→TwF
 |0=>fun _ _=>none
 |n+1=>yP 4 4 (xB fu (zO fu n))
theorem xC (fu n:Nat):zO fu (n+1)=yP 4 4 (xB fu (zO fu n)):=by rfl
theorem Zo (fu:Nat):zO fu 0=fun _ _=>none:=by rfl
theorem YX (T:Tx K mg):∀n:Nat,yL P w K mg base (CXE P w) (2+n) T.a__law_tree T.fd__law_tree ["_law_left","_law_many","_law_depth","_law_hands"] (sTw K 4 (zO fu n)):=by
 intro n
 induction n with
 |zero=>
  skip
  ·rw [Zo]
   exact XV
 |succ n ih=>
  ·rw [xC]
   exact T.F__law_tree.okE yv (fun vs H Q E h=>h.1) (fun cdv A outer s H vs Q E hr h=>⟨_,(@zl _ _ _ _ _ (@zB _ _ 4 _ _ _ _ yv.nd rfl (Or.inl rfl) (zr (zL (fu:=fu) T) (hr.mono (by (try simp only [Nat.add_eq]);omega)) rfl T.m__law_take T.F__law_take.kp T.b__law_take .nil ya (@za _ _ _ _ _ (pv 0) (@za _ _ _ _ _ zi zf zk) zg)) (by rfl) (by walk_at "q1")) (@zl _ _ _ _ _ (yB (PW.pt (Wu (yI (ve (pv 2) zi)) (Yb (yI (ve (pv 4) zi))))) (@zn _ _ _ (@zV _ _ _ _ (zr (Zn (fu:=fu) T) (hr.mono (by (try simp only [Nat.add_eq]);omega)) rfl T.m__law_leaf T.F__law_leaf.kp T.b__law_leaf .nil ya (@za _ _ _ _ _ (pv 0) (@za _ _ _ _ _ (pv 1) zf zg) zg)))) yg) (@zl _ _ _ _ _ (yB (PW.pt (Ti (yI (ve (pv 4) zi)) (VY (xF (pv 3))))) (@zl _ _ _ _ _ (@zB _ _ 5 _ _ _ _ yv.nd rfl (Or.inl rfl) (ym Zw zi (zr (zL (fu:=fu) T) (hr.mono (by (try simp only [Nat.add_eq]);omega)) rfl T.m__law_take T.F__law_take.kp T.b__law_take .nil ya (@za _ _ _ _ _ (pv 0) (@za _ _ _ _ _ zi zf zk) zg))) (by rfl) (by walk_at "q1")) (@zl _ _ _ _ _ (yB (yI (Xb (pv 2) zi)) (@zn _ _ _ (@zB _ _ 5 _ _ _ _ yv.nd rfl (Or.inl rfl) (ym Zw zi (ym vh (pv 5) zi)) (by rfl) (by walk_at "q1"))) yg) (@zn _ _ _ (@zV _ _ _ _ (@zy _ _ _ _ _ (@za _ _ _ _ _ xg (@za _ _ _ _ _ (vF (ww (K:=K)) rfl T.n_tuple boot_tuple (za (wv (N':=["_law_k","_law_left","_law_many","_law_hands","_law_depth"]) rfl (blk (osc:=zm yE) rfl (by decide+kernel)) (wy (yW (i:=0) rfl rfl (yW (i:=1) rfl rfl (yW (i:=3) rfl rfl (yW (i:=2) rfl rfl wx))))) (xo rfl T.n_range (@za _ _ _ _ _ (pv 5) zf zg)) (xr rfl) (fun C s₀ H₀ fp=>yy (i:=0) (show (["_law_k","_law_left","_law_many","_law_hands","_law_depth"]:List Str).Nodup from by decide+kernel) rfl (Or.inl rfl)) (fun C s₀ H₀ fp=>wu) (fun C s₀ H₀ fp=>(zr ih (hr.mono (by (try simp only [Nat.add_eq]);omega)) rfl T.m__law_tree T.F__law_tree.kp T.b__law_tree .nil Xj (@za _ _ _ _ _ (pv 1) (@za _ _ _ _ _ (pv 2) (@za _ _ _ _ _ (ym Vl (pv 4) zi) (@za _ _ _ _ _ (pv 3) zf zg) yn) zg) zg)))) zf)) zf yt) zk)))))) yg) (@zl _ _ _ _ _ (@zB _ _ 5 _ _ _ _ yv.nd rfl (Or.inl rfl) (ym Zw zi (zr (zL (fu:=fu) T) (hr.mono (by (try simp only [Nat.add_eq]);omega)) rfl T.m__law_take T.F__law_take.kp T.b__law_take .nil ya (@za _ _ _ _ _ (pv 0) (@za _ _ _ _ _ zi zf zk) zg))) (by rfl) (by walk_at "q1")) (@zl _ _ _ _ _ (yB (yI (Xb (pv 2) zi)) (@zn _ _ _ (@zB _ _ 5 _ _ _ _ yv.nd rfl (Or.inl rfl) (ym Zw zi (ym vh (pv 5) zi)) (by rfl) (by walk_at "q1"))) yg) (@zl _ _ _ _ _ (@zB _ _ 6 _ _ _ _ yv.nd rfl (Or.inl rfl) (@vR _ _ _ _ zf) (by rfl) (by walk_at "q1")) (@zl _ _ _ _ _ (XD PassesOwn.leaving rfl (WG (K:=K) (zr (YB (fu:=fu) T) (hr.mono (by (try simp only [Nat.add_eq]);omega)) rfl T.m__law_shares T.F__law_shares.kp T.b__law_shares .nil ya (@za _ _ _ _ _ (pv 0) (@za _ _ _ _ _ (pv 5) zf zg) zg))) (yy (i:=7) yv.nd rfl (Or.inl rfl)) (@zn _ _ _ (xN (Yh PySem.F.plainAttrs_list PySem.F.slot_list_append PySem.F.type_list_append xp (pv 6) (@za _ _ _ _ _ (@zy _ _ _ _ _ (@za _ _ _ _ _ (pv 7) (@za _ _ _ _ _ (zr ih (hr.mono (by (try simp only [Nat.add_eq]);omega)) rfl T.m__law_tree T.F__law_tree.kp T.b__law_tree .nil ya (@za _ _ _ _ _ (pv 0) (@za _ _ _ _ _ (pv 1) (@za _ _ _ _ _ (ym Vl (pv 2) zi) (@za _ _ _ _ _ (pv 3) zf zg) yn) zg) zg)) zf yt) zg)) zf zC))))) (@zn _ _ _ (@zV _ _ _ _ (@zy _ _ _ _ _ (@za _ _ _ _ _ xg (@za _ _ _ _ _ (vF (ww (K:=K)) rfl T.n_tuple boot_tuple (@za _ _ _ _ _ (pv 6) zf zg)) zf yt) zk))))))))))),xW (n:=4) (k:=4) (b:=xB fu (zO fu n)) rfl (zq (zA (zt (zb (zc 0) (zb (zj _) zh))) zo) (zq (yC (WJ (xa (vo (zc 2) (zj _))) (xa (vo (zc 4) (zj _)))) (zW (zt (zb (zc 0) (zb (zc 1) zh)))) yj) (zq (yC (TU (xa (vo (zc 4) (zj _))) (xa (zc 3))) (zq (zA (zp Zy (zj _) (zt (zb (zc 0) (zb (zj _) zh)))) zo) (zq (yC (xa (Xs (zc 2) (zj _))) (zA (zp Zy (zj _) (zp vn (zc 5) (zj _))) zo) yj) (zW (zz (zb (xi _) (zb (xz Zf (zb (wB (cap:=[none,some 0,some 1,some 3,some 2]) (xu (zc 5)) zo wA (zt (zb (zc 1) (zb (zc 2) (zb (zp VG (zc 4) (zj _)) (zb (zc 3) zh)))))) zh)) zh)))))) yj) (zq (zA (zp Zy (zj _) (zt (zb (zc 0) (zb (zj _) zh)))) zo) (zq (yC (xa (Xs (zc 2) (zj _))) (zA (zp Zy (zj _) (zp vn (zc 5) (zj _))) zo) yj) (zq (zA (vS zh) zo) (zq (XT (Uh (zt (zb (zc 0) (zb (zc 5) zh)))) zo (xO (ZI xH (zc 6) (zb (zz (zb (zc 7) (zb (zt (zb (zc 0) (zb (zc 1) (zb (zp VG (zc 2) (zj _)) (zb (zc 3) zh))))) zh))) zh)))) (zW (zz (zb (xi _) (zb (xz Zf (zb (zc 6) zh)) zh))))))))))) h⟩)
theorem Wg (T:Tx K mg) (n:Nat):yL P w K mg base (CXE P w) (2+n) T.a__law_tree T.fd__law_tree ["_law_left","_law_many","_law_depth","_law_hands"] (sTw K 4 (zO fu n)):=(YX T n)
noncomputable def wj (fu:Nat):TwS:=(zF (YT (iR1 (zD (zv fu) [(ze 0),(eC (.int 91))])) (gN 4) (zF (zS (eOp vU (eOp ZV (eOp wY (ze 4) (ze 4)) (zD (zv fu) [(ze 0),(eC (.int 1009))])) (eC (.int 6))) (gN 5)) (zF (zS (zT [(eC (.str "lost")),(ze 4)]) (gN 6)) (zF (sIf (bE (eOp YU (ze 5) (eC (.int 1)))) (zS (zT [(eC (.str "end")),(eFn wJ [(vO [none,some 4] (iR1 (ze 2)) (gN 0) vP (eOp vU (ze 1) (eC (.int 3))))]),(ze 4)]) (gN 6)) yO) (sIf (bE (eOp dGt (ze 5) (eC (.int 3)))) (zS (zT [(eC (.str "draw")),(zT [(zT [(zT [(eC (.int 1)),(eC (.int 1))]),(ze 1)])])]) (gN 1)) (sIf (zbn (bE (eOp dGt (ze 5) (eC (.int 1)))) (bE (ze 3))) (zS (zT [(eC (.str "hand")),(eOp VA (Yo [(zT [(ze 1),(ze 6)]),(zT [(ze 6),(ze 1)])]) (eOp VF (ze 5) (eC (.int 2))))]) (gN 1)) (zS (zT [(eC (.str "draw")),(eOp VA (Yo [(zT [(zT [(zT [(eC (.int 1)),(eC (.int 3))]),(ze 1)]),(zT [(zT [(eC (.int 2)),(eC (.int 3))]),(ze 6)])]),(zT [(zT [(zT [(eC (.int 2)),(eC (.int 3))]),(ze 6)]),(zT [(zT [(eC (.int 1)),(eC (.int 3))]),(ze 1)])])]) (eOp vU (ze 5) (eC (.int 2))))]) (gN 1)))))))) (xc (ze 1)))
noncomputable def wk (fu:Nat):TwF:=yP 4 3 (wj fu)
theorem YC (T:Tx K mg):yL P w K mg base (CXE P w) 2 T.a__law_deeper T.fd__law_deeper ["_law_left","_law_tree_here","_law_many","_law_hands"] (sTw K 4 (wk fu)):=
 T.F__law_deeper.okE yb (fun vs H Q E h=>h.1) (fun cdv A outer s H vs Q E hr h=>⟨_,(@zl _ _ _ _ _ (XD PassesOwn.leaving rfl (xo rfl T.n_range (@za _ _ _ _ _ (zr (zL (fu:=fu) T) (hr.mono (by decide)) rfl T.m__law_take T.F__law_take.kp T.b__law_take .nil ya (@za _ _ _ _ _ (pv 0) (@za _ _ _ _ _ zi zf zk) zg)) zf yt)) (yy (i:=4) yb.nd rfl (Or.inr rfl)) (@zl _ _ _ _ _ (@zB _ _ 5 _ _ _ _ yb.nd rfl (Or.inl rfl) (ym vh (ym Zw (ym Za (pv 4) (pv 4)) (zr (zL (fu:=fu) T) (hr.mono (by decide)) rfl T.m__law_take T.F__law_take.kp T.b__law_take .nil ya (@za _ _ _ _ _ (pv 0) (@za _ _ _ _ _ zi zf zk) zg))) zi) (by rfl) (by walk_at "q1")) (@zl _ _ _ _ _ (@zB _ _ 6 _ _ _ _ yb.nd rfl (Or.inl rfl) (@zy _ _ _ _ _ (@za _ _ _ _ _ xg (@za _ _ _ _ _ (pv 4) zf zg) zk)) (by rfl) (by walk_at "q1")) (@zl _ _ _ _ _ (yB (yI (ve (pv 5) zi)) (@zn _ _ _ (@zB _ _ 6 _ _ _ _ yb.nd rfl (Or.inl rfl) (@zy _ _ _ _ _ (@za _ _ _ _ _ xg (@za _ _ _ _ _ (vF (ww (K:=K)) rfl T.n_tuple boot_tuple (za (wv (N':=["_law_j","_law_k"]) rfl (blk (osc:=zm yk) rfl (by decide+kernel)) (wy (yW (i:=4) rfl rfl wx)) (xo rfl T.n_range (@za _ _ _ _ _ (pv 2) zf zg)) (xr rfl) (fun C s₀ H₀ fp=>yy (i:=0) (show (["_law_j","_law_k"]:List Str).Nodup from by decide+kernel) rfl (Or.inl rfl)) (fun C s₀ H₀ fp=>wu) (fun C s₀ H₀ fp=>(ym vh (pv 1) zi))) zf)) (@za _ _ _ _ _ (pv 4) zf zg) yt) zk)) (by rfl) (by walk_at "q1"))) yg) (@zn _ _ _ (yB (yI (Xb (pv 5) zi)) (@zn _ _ _ (@zB _ _ 1 _ _ _ _ yb.nd rfl (Or.inl rfl) (@zy _ _ _ _ _ (@za _ _ _ _ _ xg (@za _ _ _ _ _ (@zy _ _ _ _ _ (@za _ _ _ _ _ (@zy _ _ _ _ _ (@za _ _ _ _ _ (@zy _ _ _ _ _ (@za _ _ _ _ _ zi (@za _ _ _ _ _ zi zf zk) zk)) (@za _ _ _ _ _ (pv 1) zf zg) zC)) zf zC)) zf zC) zk)) (by rfl) (by walk_at "q1"))) (@zn _ _ _ (yB (PW.pt (Ti (yI (Xb (pv 5) zi)) (VY (xF (pv 3))))) (@zn _ _ _ (@zB _ _ 1 _ _ _ _ yb.nd rfl (Or.inl rfl) (@zy _ _ _ _ _ (@za _ _ _ _ _ xg (@za _ _ _ _ _ (@zU _ _ _ _ _ _ _ (Yn (K:=K)) (@vR _ _ _ _ (@za _ _ _ _ _ (@zy _ _ _ _ _ (@za _ _ _ _ _ (pv 1) (@za _ _ _ _ _ (pv 6) zf zg) zg)) (@za _ _ _ _ _ (@zy _ _ _ _ _ (@za _ _ _ _ _ (pv 6) (@za _ _ _ _ _ (pv 1) zf zg) zg)) zf zC) zC)) (ym Vl (pv 5) zi) (fun _ _=>rfl)) zf zx) zk)) (by rfl) (by walk_at "q1"))) (@zn _ _ _ (@zB _ _ 1 _ _ _ _ yb.nd rfl (Or.inl rfl) (@zy _ _ _ _ _ (@za _ _ _ _ _ xg (@za _ _ _ _ _ (@zU _ _ _ _ _ _ _ (Yn (K:=K)) (@vR _ _ _ _ (@za _ _ _ _ _ (@zy _ _ _ _ _ (@za _ _ _ _ _ (@zy _ _ _ _ _ (@za _ _ _ _ _ (@zy _ _ _ _ _ (@za _ _ _ _ _ zi (@za _ _ _ _ _ zi zf zk) zk)) (@za _ _ _ _ _ (pv 1) zf zg) zC)) (@za _ _ _ _ _ (@zy _ _ _ _ _ (@za _ _ _ _ _ (@zy _ _ _ _ _ (@za _ _ _ _ _ zi (@za _ _ _ _ _ zi zf zk) zk)) (@za _ _ _ _ _ (pv 6) zf zg) zC)) zf zC) zC)) (@za _ _ _ _ _ (@zy _ _ _ _ _ (@za _ _ _ _ _ (@zy _ _ _ _ _ (@za _ _ _ _ _ (@zy _ _ _ _ _ (@za _ _ _ _ _ zi (@za _ _ _ _ _ zi zf zk) zk)) (@za _ _ _ _ _ (pv 6) zf zg) zC)) (@za _ _ _ _ _ (@zy _ _ _ _ _ (@za _ _ _ _ _ (@zy _ _ _ _ _ (@za _ _ _ _ _ zi (@za _ _ _ _ _ zi zf zk) zk)) (@za _ _ _ _ _ (pv 1) zf zg) zC)) zf zC) zC)) zf zC) zC)) (ym vh (pv 5) zi) (fun _ _=>rfl)) zf zx) zk)) (by rfl) (by walk_at "q1"))))))))))) (@zn _ _ _ (@zV _ _ _ _ (pv 1)))),xW (n:=4) (k:=3) (b:=wj fu) rfl (zq (XT (xu (zt (zb (zc 0) (zb (zj _) zh)))) zo (zq (zA (zp vn (zp Zy (zp Zd (zc 4) (zc 4)) (zt (zb (zc 0) (zb (zj _) zh)))) (zj _)) zo) (zq (zA (zz (zb (xi _) (zb (zc 4) zh))) zo) (zq (yC (xa (vo (zc 5) (zj _))) (zA (zz (zb (xi _) (zb (xz Zf (zb (wB (cap:=[none,some 4]) (xu (zc 2)) zo wA (zp vn (zc 1) (zj _))) zh)) (zb (zc 4) zh)))) zo) yj) (yC (xa (Xs (zc 5) (zj _))) (zA (zz (zb (xi _) (zb (zz (zb (zz (zb (zz (zb (zj _) (zb (zj _) zh))) (zb (zc 1) zh))) zh)) zh))) zo) (yC (TU (xa (Xs (zc 5) (zj _))) (xa (zc 3))) (zA (zz (zb (xi _) (zb (zp VB (vS (zb (zz (zb (zc 1) (zb (zc 6) zh))) (zb (zz (zb (zc 6) (zb (zc 1) zh))) zh))) (zp VG (zc 5) (zj _))) zh))) zo) (zA (zz (zb (xi _) (zb (zp VB (vS (zb (zz (zb (zz (zb (zz (zb (zj _) (zb (zj _) zh))) (zb (zc 1) zh))) (zb (zz (zb (zz (zb (zj _) (zb (zj _) zh))) (zb (zc 6) zh))) zh))) (zb (zz (zb (zz (zb (zz (zb (zj _) (zb (zj _) zh))) (zb (zc 6) zh))) (zb (zz (zb (zz (zb (zj _) (zb (zj _) zh))) (zb (zc 1) zh))) zh))) zh))) (zp vn (zc 5) (zj _))) zh))) zo))))))) (zW (zc 1))) h⟩)
noncomputable def wK (fu:Nat):TwS:=(xc (eOp zM (ze 0) (eC (.int 0))))
noncomputable def xQ (fu:Nat):TwF:=yP 1 0 (wK fu)
theorem YY (T:Tx K mg):yL P w K mg base (CXE P w) 1 T.a__law_marks T.fd__law_marks ["_law_run"] (sTw K 1 (xQ fu)):=
 T.F__law_marks.okE YV (fun vs H Q E h=>h.1) (fun cdv A outer s H vs Q E hr h=>⟨_,(@zn _ _ _ (@zV _ _ _ _ (@zU _ _ _ _ _ _ _ (zE (K:=K)) (pv 0) zi (fun _ _=>rfl)))),xW (n:=1) (k:=0) (b:=wK fu) rfl (zW (zp zQ (zc 0) (zj _))) h⟩)
noncomputable def vC (fu:Nat):TwS:=(zF (zS (Yo []) (gN 1)) (zF (zS (Yo [(zT [(zT []),(zT [(eC (.int 1)),(eC (.int 1))]),(ze 0)])]) (gN 2)) (zF (sWh fu (bE (eOp dGt (eFn wO [(ze 2)]) (eC (.int 0)))) (zF (zS (eMt XS (ze 2) []) (gT 3 (wH (gN 3) (wH (gN 4) (wH (gN 5) WL))))) (sIf (bE (eOp (vc false) (eOp zM (ze 5) (eC (.int 0))) (eC (.str "end")))) (xb (eMt yi (ze 1) [(zT [(ze 3),(ze 4),(eOp zM (ze 5) (eC (.int 1))),(eOp zM (ze 5) (eC (.int 2)))])])) (sIf (bE (eOp (vc false) (eOp zM (ze 5) (eC (.int 0))) (eC (.str "lost")))) (xb (eMt yi (ze 1) [(zT [(ze 3),(ze 4),(eC .non),(eOp zM (ze 5) (eC (.int 1)))])])) (YT (iR1 (eFn wO [(eOp zM (ze 5) (eC (.int 1)))])) (gN 6) (zF (zS (eOp zM (eOp zM (ze 5) (eC (.int 1))) (ze 6)) (gN 7)) (sIf (bE (eOp (vc false) (eOp zM (ze 5) (eC (.int 0))) (eC (.str "draw")))) (xb (eMt yi (ze 2) [(zT [(eOp wC (ze 3) (zT [(ze 6)])),(zD (xx fu) [(eOp wY (eOp zM (ze 4) (eC (.int 0))) (eOp zM (eOp zM (ze 7) (eC (.int 0))) (eC (.int 0)))),(eOp wY (eOp zM (ze 4) (eC (.int 1))) (eOp zM (eOp zM (ze 7) (eC (.int 0))) (eC (.int 1))))]),(eOp zM (ze 7) (eC (.int 1)))])])) (xb (eMt yi (ze 2) [(zT [(eOp wC (ze 3) (zT [(ze 6)])),(ze 4),(ze 7)])]))))))))) (xc (VO (xQ fu) [(ze 1)])))))
noncomputable def xS (fu:Nat):TwF:=yP 1 7 (vC fu)
theorem ZO (T:Tx K mg):yL P w K mg base (CXE P w) 3 T.a__law_due T.fd__law_due ["_law_tree_here"] (sTw K 1 (xS fu)):=
 T.F__law_due.okE yF (fun vs H Q E h=>h.1) (fun cdv A outer s H vs Q E hr h=>⟨_,(@zl _ _ _ _ _ (@zB _ _ 1 _ _ _ _ yF.nd rfl (Or.inl rfl) (@vR _ _ _ _ zf) (by rfl) (by walk_at "q1")) (@zl _ _ _ _ _ (@zB _ _ 2 _ _ _ _ yF.nd rfl (Or.inl rfl) (@vR _ _ _ _ (@za _ _ _ _ _ (@zy _ _ _ _ _ (@za _ _ _ _ _ (@zy _ _ _ _ _ zf) (@za _ _ _ _ _ (@zy _ _ _ _ _ (@za _ _ _ _ _ zi (@za _ _ _ _ _ zi zf zk) zk)) (@za _ _ _ _ _ (pv 0) zf zg) zC) zC)) zf zC)) (by rfl) (by walk_at "q1")) (@zl _ _ _ _ _ (Yc PassesOwn.leaving (yI (Xb (zI (yV (K:=K)) rfl T.n_len boot_len (@za _ _ _ _ _ (pv 2) zf zg)) zi)) (@zl _ _ _ _ _ (zcg (Vo PySem.F.plainAttrs_list PySem.F.slot_list_pop PySem.F.type_list_pop Tv (pv 2)) (Uf (K:=K) (n:=3) rfl (vf (yy (i:=3) yF.nd rfl (Or.inl rfl)) (vf (yy (i:=4) yF.nd rfl (Or.inl rfl)) (vf (yy (i:=5) yF.nd rfl (Or.inl rfl)) Ua))))) (@zn _ _ _ (yB (vE ZH (@zU _ _ _ _ _ _ _ (zE (K:=K)) (pv 5) zi (fun _ _=>rfl)) xg (by rfl)) (@zn _ _ _ (xN (Yh PySem.F.plainAttrs_list PySem.F.slot_list_append PySem.F.type_list_append xp (pv 1) (@za _ _ _ _ _ (@zy _ _ _ _ _ (@za _ _ _ _ _ (pv 3) (@za _ _ _ _ _ (pv 4) (@za _ _ _ _ _ (@zU _ _ _ _ _ _ _ (zE (K:=K)) (pv 5) zi (fun _ _=>rfl)) (@za _ _ _ _ _ (@zU _ _ _ _ _ _ _ (zE (K:=K)) (pv 5) zi (fun _ _=>rfl)) zf zx) zx) zg) zg)) zf zC)))) (@zn _ _ _ (yB (vE ZH (@zU _ _ _ _ _ _ _ (zE (K:=K)) (pv 5) zi (fun _ _=>rfl)) xg (by rfl)) (@zn _ _ _ (xN (Yh PySem.F.plainAttrs_list PySem.F.slot_list_append PySem.F.type_list_append xp (pv 1) (@za _ _ _ _ _ (@zy _ _ _ _ _ (@za _ _ _ _ _ (pv 3) (@za _ _ _ _ _ (pv 4) (@za _ _ _ _ _ Tf (@za _ _ _ _ _ (@zU _ _ _ _ _ _ _ (zE (K:=K)) (pv 5) zi (fun _ _=>rfl)) zf zx) zk) zg) zg)) zf zC)))) (@zn _ _ _ (XD PassesOwn.leaving rfl (xo rfl T.n_range (@za _ _ _ _ _ (zI (yV (K:=K)) rfl T.n_len boot_len (@za _ _ _ _ _ (@zU _ _ _ _ _ _ _ (zE (K:=K)) (pv 5) zi (fun _ _=>rfl)) zf zx)) zf yt)) (yy (i:=6) yF.nd rfl (Or.inl rfl)) (@zl _ _ _ _ _ (@zB _ _ 7 _ _ _ _ yF.nd rfl (Or.inl rfl) (@zU _ _ _ _ _ _ _ (zE (K:=K)) (@zU _ _ _ _ _ _ _ (zE (K:=K)) (pv 5) zi (fun _ _=>rfl)) (pv 6) (fun _ _=>rfl)) (by rfl) (by walk_at "q1")) (@zn _ _ _ (yB (vE ZH (@zU _ _ _ _ _ _ _ (zE (K:=K)) (pv 5) zi (fun _ _=>rfl)) xg (by rfl)) (@zn _ _ _ (xN (Yh PySem.F.plainAttrs_list PySem.F.slot_list_append PySem.F.type_list_append xp (pv 2) (@za _ _ _ _ _ (@zy _ _ _ _ _ (@za _ _ _ _ _ (ym (XQ (K:=K)) (pv 3) (@zy _ _ _ _ _ (@za _ _ _ _ _ (pv 6) zf zg))) (@za _ _ _ _ _ (zr (ZN (fu:=fu) T) (hr.mono (by decide)) rfl T.m__law_low T.F__law_low.kp T.b__law_low .nil ya (@za _ _ _ _ _ (ym Za (@zU _ _ _ _ _ _ _ (zE (K:=K)) (pv 4) zi (fun _ _=>rfl)) (@zU _ _ _ _ _ _ _ (zE (K:=K)) (@zU _ _ _ _ _ _ _ (zE (K:=K)) (pv 7) zi (fun _ _=>rfl)) zi (fun _ _=>rfl))) (@za _ _ _ _ _ (ym Za (@zU _ _ _ _ _ _ _ (zE (K:=K)) (pv 4) zi (fun _ _=>rfl)) (@zU _ _ _ _ _ _ _ (zE (K:=K)) (@zU _ _ _ _ _ _ _ (zE (K:=K)) (pv 7) zi (fun _ _=>rfl)) zi (fun _ _=>rfl))) zf yn) yn)) (@za _ _ _ _ _ (@zU _ _ _ _ _ _ _ (zE (K:=K)) (pv 7) zi (fun _ _=>rfl)) zf zx) yt) yn)) zf zC)))) (@zn _ _ _ (xN (Yh PySem.F.plainAttrs_list PySem.F.slot_list_append PySem.F.type_list_append xp (pv 2) (@za _ _ _ _ _ (@zy _ _ _ _ _ (@za _ _ _ _ _ (ym (XQ (K:=K)) (pv 3) (@zy _ _ _ _ _ (@za _ _ _ _ _ (pv 6) zf zg))) (@za _ _ _ _ _ (pv 4) (@za _ _ _ _ _ (pv 7) zf zg) zg) yn)) zf zC))))))))))))))) (@zn _ _ _ (@zV _ _ _ _ (zav (YY (fu:=fu) T) (hr.mono (by decide)) T.b__law_marks rfl T.n_sorted rfl T.m__law_marks (@za _ _ _ _ _ (pv 1) zf zg))))))),xW (n:=1) (k:=7) (b:=vC fu) rfl (zq (zA (vS zh) zo) (zq (zA (vS (zb (zz (zb (zz zh) (zb (zz (zb (zj _) (zb (zj _) zh))) (zb (zc 0) zh)))) zh)) zo) (zq (Yq (xa (Xs (xz wP (zb (zc 2) zh)) (zj _))) (zq (zA (VD TY (zc 2)) (zaa (vm zo (vm zo (vm zo Ug))))) (yC (vG (zp vq (zp zQ (zc 5) (zj _)) (xi _))) (xO (ZI xH (zc 1) (zb (zz (zb (zc 3) (zb (zc 4) (zb (zp zQ (zc 5) (zj _)) (zb (zp zQ (zc 5) (zj _)) zh))))) zh))) (yC (vG (zp vq (zp zQ (zc 5) (zj _)) (xi _))) (xO (ZI xH (zc 1) (zb (zz (zb (zc 3) (zb (zc 4) (zb TR (zb (zp zQ (zc 5) (zj _)) zh))))) zh))) (XT (xu (xz wP (zb (zp zQ (zc 5) (zj _)) zh))) zo (zq (zA (zp zQ (zp zQ (zc 5) (zj _)) (zc 6)) zo) (yC (vG (zp vq (zp zQ (zc 5) (zj _)) (xi _))) (xO (ZI xH (zc 2) (zb (zz (zb (zp XX (zc 3) (zz (zb (zc 6) zh))) (zb (zt (zb (zp Zd (zp zQ (zc 4) (zj _)) (zp zQ (zp zQ (zc 7) (zj _)) (zj _))) (zb (zp Zd (zp zQ (zc 4) (zj _)) (zp zQ (zp zQ (zc 7) (zj _)) (zj _))) zh))) (zb (zp zQ (zc 7) (zj _)) zh)))) zh))) (xO (ZI xH (zc 2) (zb (zz (zb (zp XX (zc 3) (zz (zb (zc 6) zh))) (zb (zc 4) (zb (zc 7) zh)))) zh)))))))))) (zW (UZ (zb (zc 1) zh)))))) h⟩)
noncomputable def VP (fu:Nat):TwS:=(zF (zS (eUn vw (eSl VC (ze 0) oNo (TW (eC (.int 200))))) (gN 1)) (zF (zS (eOp YU (zD (zv fu) [(ze 1),(eC (.int 3))]) (eC (.int 1))) (gN 2)) (zF (zS (zD (zv fu) [(ze 1),(eC (.int 5))]) (gN 3)) (zF (zS (zD (zO fu 6) [(ze 1),(ze 3),(eIf (bE (ze 2)) (eC (.int 1)) (eC (.int 3))),(eC (.bl true))]) (gN 4)) (zF (zS (zD (xX fu) [(ze 1),(ze 3)]) (gN 5)) (zF (sIf (bE (ze 2)) (zS (zD (wk fu) [(ze 1),(ze 4),(ze 3),(eC (.bl true))]) (gN 4)) yO) (zF (zS (zD (xS fu) [(ze 4)]) (gN 6)) (zF (zS (zD (xm fu) [(ze 4)]) (gN 7)) (zF (sIf (bOr (YR (bE (zD (zG fu 10) [(ze 7),(ze 6)]))) (YR (bE (zD (zG fu 10) [(zD (xm fu) [(ze 5)]),(zD (xS fu) [(ze 5)])])))) (xc (eC (.bl false))) yO) (zF (sIf (bOr (YR (bE (zD (zG fu 10) [(zD (xm fu) [(ze 4)]),(ze 6)]))) (YR (bE (zD (zG fu 10) [(ze 7),(ze 6)])))) (xc (eC (.bl false))) yO) (zF (xb (eMt Yp (ze 7) [])) (xc (zD (zG fu 10) [(zD (xm fu) [(ze 4)]),(ze 6)])))))))))))))
noncomputable def VQ (fu:Nat):TwF:=yP 1 7 (VP fu)
theorem zbx (T:Tx K mg):yL P w K mg base (CXE P w) 115 T.a_law T.fd_law ["_law_script"] (sTw K 1 (VQ fu)):=
 T.F_law.okE wS (fun vs H Q E h=>h.1) (fun cdv A outer s H vs Q E hr h=>⟨_,(@zl _ _ _ _ _ (@zB _ _ 1 _ _ _ _ wS.nd rfl (Or.inl rfl) (Vw (K:=K) rfl rfl T.n_list rfl T.n_reversed (Tr (TK (K:=K)) (pv 0) za8 (za9 zi))) (by rfl) (by walk_at "q1")) (@zl _ _ _ _ _ (@zB _ _ 2 _ _ _ _ wS.nd rfl (Or.inl rfl) (Th (ve (zr (zL (fu:=fu) T) (hr.mono (by decide)) rfl T.m__law_take T.F__law_take.kp T.b__law_take .nil ya (@za _ _ _ _ _ (pv 1) (@za _ _ _ _ _ zi zf zk) zg)) zi)) (by rfl) (by walk_at "q1")) (@zl _ _ _ _ _ (@zB _ _ 3 _ _ _ _ wS.nd rfl (Or.inl rfl) (zr (zL (fu:=fu) T) (hr.mono (by decide)) rfl T.m__law_take T.F__law_take.kp T.b__law_take .nil ya (@za _ _ _ _ _ (pv 1) (@za _ _ _ _ _ zi zf zk) zg)) (by rfl) (by walk_at "q1")) (@zl _ _ _ _ _ (@zB _ _ 4 _ _ _ _ wS.nd rfl (Or.inl rfl) (zr (Wg (fu:=fu) T 6) (hr.mono (by decide)) rfl T.m__law_tree T.F__law_tree.kp T.b__law_tree .nil ya (@za _ _ _ _ _ (pv 1) (@za _ _ _ _ _ (pv 3) (@za _ _ _ _ _ (Tk (xF (pv 2)) zi zi) (@za _ _ _ _ _ YZ zf zk) TM) zg) zg)) (by rfl) (by walk_at "q1")) (@zl _ _ _ _ _ (@zB _ _ 5 _ _ _ _ wS.nd rfl (Or.inl rfl) (zr (Zn (fu:=fu) T) (hr.mono (by decide)) rfl T.m__law_leaf T.F__law_leaf.kp T.b__law_leaf .nil ya (@za _ _ _ _ _ (pv 1) (@za _ _ _ _ _ (pv 3) zf zg) zg)) (by rfl) (by walk_at "q1")) (@zl _ _ _ _ _ (yB (xF (pv 2)) (@zn _ _ _ (@zB _ _ 4 _ _ _ _ wS.nd rfl (Or.inl rfl) (zr (YC (fu:=fu) T) (hr.mono (by decide)) rfl T.m__law_deeper T.F__law_deeper.kp T.b__law_deeper .nil ya (@za _ _ _ _ _ (pv 1) (@za _ _ _ _ _ (pv 4) (@za _ _ _ _ _ (pv 3) (@za _ _ _ _ _ YZ zf zk) zg) zg) zg)) (by rfl) (by walk_at "q1"))) yg) (@zl _ _ _ _ _ (@zB _ _ 6 _ _ _ _ wS.nd rfl (Or.inl rfl) (zr (ZO (fu:=fu) T) (hr.mono (by decide)) rfl T.m__law_due T.F__law_due.kp T.b__law_due .nil ya (@za _ _ _ _ _ (pv 4) zf zg)) (by rfl) (by walk_at "q1")) (@zl _ _ _ _ _ (@zB _ _ 7 _ _ _ _ wS.nd rfl (Or.inl rfl) (zr (wT (fu:=fu) T) (hr.mono (by decide)) rfl T.m_runs_of T.F_runs_of.kp T.b_runs_of .nil ya (@za _ _ _ _ _ (pv 4) zf zg)) (by rfl) (by walk_at "q1")) (@zl _ _ _ _ _ (yB (PW.pt (Wu (Zv (xF (zr (xA (fu:=fu) T 10) (hr.mono (by decide)) rfl T.m__law_same T.F__law_same.kp T.b__law_same .nil ya (@za _ _ _ _ _ (pv 7) (@za _ _ _ _ _ (pv 6) zf zg) zg)))) (Yb (Zv (xF (zr (xA (fu:=fu) T 10) (hr.mono (by decide)) rfl T.m__law_same T.F__law_same.kp T.b__law_same .nil ya (@za _ _ _ _ _ (zr (wT (fu:=fu) T) (hr.mono (by decide)) rfl T.m_runs_of T.F_runs_of.kp T.b_runs_of .nil ya (@za _ _ _ _ _ (pv 5) zf zg)) (@za _ _ _ _ _ (zr (ZO (fu:=fu) T) (hr.mono (by decide)) rfl T.m__law_due T.F__law_due.kp T.b__law_due .nil ya (@za _ _ _ _ _ (pv 5) zf zg)) zf yt) yt))))))) (@zn _ _ _ (@zV _ _ _ _ YZ)) yg) (@zl _ _ _ _ _ (yB (PW.pt (Wu (Zv (xF (zr (xA (fu:=fu) T 10) (hr.mono (by decide)) rfl T.m__law_same T.F__law_same.kp T.b__law_same .nil ya (@za _ _ _ _ _ (zr (wT (fu:=fu) T) (hr.mono (by decide)) rfl T.m_runs_of T.F_runs_of.kp T.b_runs_of .nil ya (@za _ _ _ _ _ (pv 4) zf zg)) (@za _ _ _ _ _ (pv 6) zf zg) yt)))) (Yb (Zv (xF (zr (xA (fu:=fu) T 10) (hr.mono (by decide)) rfl T.m__law_same T.F__law_same.kp T.b__law_same .nil ya (@za _ _ _ _ _ (pv 7) (@za _ _ _ _ _ (pv 6) zf zg) zg))))))) (@zn _ _ _ (@zV _ _ _ _ YZ)) yg) (@zl _ _ _ _ _ (xN (Vo PySem.F.plainAttrs_list PySem.F.slot_list_clear PySem.F.type_list_clear Tz (pv 7))) (@zn _ _ _ (@zV _ _ _ _ (zr (xA (fu:=fu) T 10) (hr.mono (by decide)) rfl T.m__law_same T.F__law_same.kp T.b__law_same .nil ya (@za _ _ _ _ _ (zr (wT (fu:=fu) T) (hr.mono (by decide)) rfl T.m_runs_of T.F_runs_of.kp T.b_runs_of .nil ya (@za _ _ _ _ _ (pv 4) zf zg)) (@za _ _ _ _ _ (pv 6) zf zg) yt))))))))))))))),xW (n:=1) (k:=7) (b:=VP fu) rfl (zq (zA (VJ (zcw (zc 0) zdx (zbp (zj _)))) zo) (zq (zA (vo (zt (zb (zc 1) (zb (zj _) zh))) (zj _)) zo) (zq (zA (zt (zb (zc 1) (zb (zj _) zh))) zo) (zq (zA (zt (zb (zc 1) (zb (zc 3) (zb (zdw (xa (zc 2)) (zj _) (zj _)) (zb (Xn _) zh))))) zo) (zq (zA (zt (zb (zc 1) (zb (zc 3) zh))) zo) (zq (yC (xa (zc 2)) (zA (zt (zb (zc 1) (zb (zc 4) (zb (zc 3) (zb (Xn _) zh))))) zo) yj) (zq (zA (zt (zb (zc 4) zh)) zo) (zq (zA (zt (zb (zc 4) zh)) zo) (zq (yC (WJ (Zx (xa (zt (zb (zc 7) (zb (zc 6) zh))))) (Zx (xa (zt (zb (zt (zb (zc 5) zh)) (zb (zt (zb (zc 5) zh)) zh)))))) (zW (Xn _)) yj) (zq (yC (WJ (Zx (xa (zt (zb (zt (zb (zc 4) zh)) (zb (zc 6) zh))))) (Zx (xa (zt (zb (zc 7) (zb (zc 6) zh)))))) (zW (Xn _)) yj) (zq (xO (VD TZ (zc 7))) (zW (zt (zb (zt (zb (zc 4) zh)) (zb (zc 6) zh))))))))))))))) h⟩)
end

section
open Mth
noncomputable def Big (fu:Nat):Prop:=2^9000≤fu
theorem Big.le {fu:Nat} (h:Big fu):1000000≤fu:=Nat.le_trans (show 1000000≤2^20 by decide) (Nat.le_trans (Nat.pow_le_pow_right (by decide) (by decide)) h)
local macro_rules | `(tactic| walk_at "w1") => `(tactic| first
 | with_reducible apply zdZ | ((with_reducible apply zcC); exact rfl) | with_reducible apply zcE | with_reducible apply zcH | with_reducible apply zX | with_reducible apply zbu
 | with_reducible apply yo | ((with_reducible apply zan); try dsimp only [List.set]) | with_reducible apply Uk | with_reducible apply vW | with_reducible apply wx_par
 | with_reducible apply zdD | with_reducible apply zdE | with_reducible apply zb0 | with_reducible apply zdF | with_reducible apply zcD
 | with_reducible apply XZ | with_reducible apply zcF | with_reducible apply zcG | with_reducible apply zal | with_reducible apply Wa
 | with_reducible apply zam | with_reducible apply zdG | with_reducible apply wx_dict0
 | with_reducible apply zcK | with_reducible apply zcL | with_reducible apply ox_neg | with_reducible apply zdI | with_reducible apply ox_le | with_reducible apply zdJ | with_reducible apply ox_ge | with_reducible apply zcM | with_reducible apply zcN
 | with_reducible apply ox_min | with_reducible apply ox_max | with_reducible apply zcP | with_reducible apply zcQ
 | ((with_reducible apply zcO); exact ⟨by decide, by decide, by decide⟩)
 | ((with_reducible apply ox_mul); first | exact .inl (by decide) | exact .inr (by decide))
 | with_reducible refine Exists.intro _ (And.intro rfl ?_))
local macro_rules | `(tactic| walk_at "w") => `(tactic| repeat walk_at "w1")
local macro_rules | `(tactic| walk_at "wr") => `(tactic| (refine zcJ rfl rfl ?_; dsimp only [List.map, HAppend.hAppend, Append.append, List.append, List.replicate]))
section
variable {fu:Nat} {S S' S2:Sto} {x y:Xv}
theorem xn {c:Prop} [Decidable c] {A B:Prop} (h:c→A) (g:¬c→B):(decide c=true→A)∧(decide c=false→B):=⟨fun e=>h (of_decide_eq_true e),fun e=>g (of_decide_eq_false e)⟩
noncomputable def Kp (w:Nat→Prop) (S S':Sto):Prop:=S.length≤S'.length∧∀(n:Nat) c,S[n]? =some c→¬w n→S'[n]? =some c
theorem Kp.refl (w:Nat→Prop):Kp w S S:=⟨Nat.le_refl _,fun _ _ e _=>e⟩
theorem Kp.trans {w:Nat→Prop} (a:Kp w S S') (b:Kp w S' S2):Kp w S S2:=⟨Nat.le_trans a.1 b.1,fun n c e z=>b.2 n c (a.2 n c e z) z⟩
theorem Kp.pre {w:Nat→Prop} (p:S<+:S'):Kp w S S':=⟨p.length_le,fun n c e _=>by
 obtain ⟨T,rfl⟩:=p
 rw [List.getElem?_append_left (List.getElem?_eq_some_iff.1 e).1]
 exact e⟩
theorem Kp.app {w:Nat→Prop} {T:Sto} (a:Kp w S S'):Kp w S (S'++T):=a.trans (Kp.pre (List.prefix_append _ _))
theorem Kp.set {w:Nat→Prop} {n:Nat} {c:Ce} (a:Kp w S S') (h:w n∨S.length≤n):Kp w S (S'.set n c):=⟨by simpa using a.1,fun m d e z=>by
 rw [List.getElem?_set]
 have hm:=(List.getElem?_eq_some_iff.1 e).1
 rw [if_neg fun q=>by
  subst q
  rcases h with h|h
  ·exact z h
  ·omega]
 exact a.2 m d e z⟩
theorem xM {c:Ce}:(S++[c])[S.length]? =some c:=by simp
theorem wW {n:Nat} {c c':Ce} (h:S[n]? =some c):(S.set n c')[n]? =some c':=by rw [List.getElem?_set,if_pos rfl,if_pos (List.getElem?_eq_some_iff.1 h).1]
theorem vY {n m:Nat} {c c':Ce} (h:S[m]? =some c) (q:n≠m):(S.set n c')[m]? =some c:=by rw [List.getElem?_set,if_neg q];exact h
theorem YD {n:Nat} (h:n≤100):n<sizeLine:=Nat.lt_of_le_of_lt h (by decide)
theorem Uq {n:Nat} (h:n≤999):n<sizeLine:=Nat.lt_of_le_of_lt h (by decide)
theorem YE:∀n:Nat,Zg (List.replicate n (Xv.bl true))=some (List.replicate n true)
 |0=>rfl
 |n+1=>by rw [List.replicate_succ,List.replicate_succ];simp [Zg,YE n]
theorem zaC {P:Xv→Sto→Prop} {l:List Xv} {bs:List Bool} (h:zP S x=some l) (h2:Zg l=some bs) (k:P (.bl (bs.all id)) S):WO (UV [x] S) P:= .of (by unfold UV;dsimp only;rw [h,Option.bind_some,h2];rfl) k
theorem Ur {P:Xv→Sto→Prop} {a b:Str} (k:P (.bl (decide (a=b))) S):WO (vc false (.str a) (.str b) S) P:= .of (by show some (Xv.bl (false !=decide (a=b)),S)=_;rw [Bool.false_bne]) k
theorem zby {P:Xv→Sto→Prop} {a b:Int} (k:P (.bl (decide (a=b))) S):WO (vc false (.int a) (.int b) S) P:= .of (by show some (Xv.bl (false !=decide (a=b)),S)=_;rw [Bool.false_bne]) k
end
section
variable {fu:Nat} {S S':Sto} {xs:Xv} {ns:List Int} {dd:Int}
noncomputable abbrev Q2:=Int×Int
noncomputable def qv (q:Q2):Xv:= .tup [.int q.1,.int q.2]
noncomputable def wL (t b:Int):Q2:=(t / (Int.gcd t b:Int),b / (Int.gcd t b:Int))
structure QOk (dd c:Int) (q:Q2):Prop where
 pos:0<q.2
 dvd:q.2∣dd
 le:(q.1.natAbs:Int)≤c*q.2
 low:Int.gcd q.1 q.2=1
theorem QOk.bD {c:Int} {q:Q2} (hd:0<dd) (h:QOk dd c q):q.2≤dd:=Int.le_of_dvd hd h.dvd
theorem zaD {c t b:Int} (hb:0<b) (hd:b∣dd*t) (hle:(t.natAbs:Int)≤c*b):QOk dd c (wL t b):=by
 have g0:0<Int.gcd t b:=Int.gcd_pos_of_ne_zero_right _ (by omega)
 have gt:(Int.gcd t b:Int)∣t:=Int.gcd_dvd_left ..
 have gb:(Int.gcd t b:Int)∣b:=Int.gcd_dvd_right ..
 obtain ⟨t',et⟩:=gt
 obtain ⟨b',eb⟩:=gb
 have gz:((Int.gcd t b:Int))≠0:=by omega
 have gp:(0:Int)<(Int.gcd t b:Int):=by omega
 unfold wL
 have co:Int.gcd t' b'=1:=by
  have h1:Int.gcd t b=Int.gcd t b*Int.gcd t' b':=by
   have:=Int.gcd_mul_left (Int.gcd t b:Int) t' b'
   rw [←et,←eb] at this
   simpa using this
  exact Nat.eq_of_mul_eq_mul_left g0 (by rw [Nat.mul_one];exact h1.symm)
 have dt:t / (Int.gcd t b:Int)=t':=Int.ediv_eq_of_eq_mul_right gz et
 have db:b / (Int.gcd t b:Int)=b':=Int.ediv_eq_of_eq_mul_right gz eb
 rw [dt,db]
 generalize (Int.gcd t b:Int)=g at*
 have hb':0<b':=by
  rcases Int.lt_trichotomy b' 0 with h|h|h
  ·have:=Int.mul_neg_of_pos_of_neg gp h;omega
  ·subst h;simp at eb;omega
  ·exact h
 refine ⟨hb',?_,?_,co⟩
 ·rw [et,eb] at hd
  have hd:b'∣dd*t':=by
   have:g*b'∣g*(dd*t'):=by rw [show g*(dd*t')=dd*(g*t') by rw [←Int.mul_assoc,←Int.mul_assoc,Int.mul_comm g dd]];exact hd
   exact Int.dvd_of_mul_dvd_mul_left gz this
  have hn:b'.natAbs∣dd.natAbs*t'.natAbs:=by
   have:=Int.natAbs_dvd_natAbs.2 hd
   rwa [Int.natAbs_mul] at this
  have hc:Nat.Coprime b'.natAbs t'.natAbs:=by
   show Nat.gcd _ _=1
   rw [Nat.gcd_comm]
   exact co
  exact Int.natAbs_dvd_natAbs.1 (hc.dvd_of_dvd_mul_right hn)
 ·show (t'.natAbs:Int)≤c*b'
  rw [et,eb,Int.natAbs_mul] at hle
  have hg:((g.natAbs:Nat):Int)=g:=Int.natAbs_of_nonneg (by omega)
  rw [Int.natCast_mul,hg,show c*(g*b')=g*(c*b') by rw [←Int.mul_assoc,Int.mul_comm c g,Int.mul_assoc]] at hle
  exact Int.le_of_mul_le_mul_left hle gp
end
section
variable {fu:Nat} {S S':Sto} {dd:Int}
noncomputable def Zp (a b:Q2):Q2:=wL (a.1*b.1) (a.2*b.2)
noncomputable def val (x:Q2):Rat:=(x.1:Rat) / (x.2:Rat)
theorem Us {b:Int} (h:b≠0):(b:Rat)≠0:=fun z=>h (by exact_mod_cast z)
theorem zbz {t b:Int} (hb:0<b):val (wL t b)=(t:Rat) / (b:Rat):=by
 have g0:0<Int.gcd t b:=Int.gcd_pos_of_ne_zero_right _ (by omega)
 obtain ⟨t',et⟩:(Int.gcd t b:Int)∣t:=Int.gcd_dvd_left ..
 obtain ⟨b',eb⟩:(Int.gcd t b:Int)∣b:=Int.gcd_dvd_right ..
 have gz:((Int.gcd t b:Int))≠0:=by omega
 have dt:t / (Int.gcd t b:Int)=t':=Int.ediv_eq_of_eq_mul_right gz et
 have db:b / (Int.gcd t b:Int)=b':=Int.ediv_eq_of_eq_mul_right gz eb
 unfold val wL
 dsimp only
 rw [dt,db]
 generalize (Int.gcd t b:Int)=g at*
 have hb':b'≠0:=fun z=>by subst z;simp at eb;omega
 rw [et,eb,Rat.intCast_mul,Rat.intCast_mul]
 have h1:=Us gz
 have h2:=Us hb'
 rw [Rat.div_def,Rat.div_def,Rat.inv_mul_rev]
 have:(g:Rat)*(t':Rat)*((b':Rat)⁻¹*(g:Rat)⁻¹)=(t':Rat)*(b':Rat)⁻¹*((g:Rat)*(g:Rat)⁻¹):=by grind
 rw [this,Rat.mul_inv_cancel _ h1,Rat.mul_one]
end
section
variable {fu:Nat} {S S':Sto} {dd:Int} {x y:Xv}
theorem VR {P:Xv→Sto→Prop} {p:Int} (k:P (.int (p.natAbs:Int)) S):WO (UT [.int p] S) P:= .of (show UT [.int p] S=some (.int (if p<0 then -p else p),S) from rfl) (by
 rw [show (if p<0 then -p else p)=(p.natAbs:Int) by split<;>omega]
 exact k)
theorem Tb:∀(n:Nat) (one other:Nat) (a2:Option Xv),other<n→
  WS (ZU (bE (eOp US (ze 1) (eC (.int 0)))) (zF (zS (eOp vU (ze 0) (ze 1)) (gN 2)) (zF (zS (ze 1) (gN 0)) (zS (ze 2) (gN 1)))) n [some (.int one),some (.int other),a2] S) (fun ρ S'=>∃a2,ρ=[some (.int (Nat.gcd one other:Nat)),some (.int 0),a2]∧S=S') (fun _ _=>False):=by
 intro n
 induction n with
 |zero=>intro one other a2 h;omega
 |succ n ih=>
  intro one other a2 h
  refine Wb ?_
  walk_at "w"
  rw [show (!decide ((other:Int)=0))=decide (¬(other:Int)=0) by simp]
  refine xn (fun h=> ?_) (fun h=> ?_)
  ·have h0:0<other:=by omega
   walk_at "w"
   refine vy (by omega) ?_
   walk_at "w"
   have:=ih other (one % other) (some (.int ((one % other:Nat):Int))) (by have:=Nat.mod_lt one h0;omega)
   rw [show Nat.gcd other (one % other)=Nat.gcd one other by rw [Nat.gcd_comm other,←Nat.gcd_rec,Nat.gcd_comm]] at this
   rw [Int.natCast_emod] at this
   exact this
  ·have:other=0:=by omega
   subst this
   exact ⟨a2,by simp,rfl⟩
theorem zaE:∀(n:Nat) (t b:Xv) (one other:Nat) (a4:Option Xv),other<n→
  WS (ZU (bE (eOp dGt (ze 3) (eC (.int 0)))) (zF (zS (eOp vU (ze 2) (ze 3)) (gN 4)) (zF (zS (ze 3) (gN 2)) (zS (ze 4) (gN 3)))) n [some t,some b,some (.int one),some (.int other),a4] S) (fun ρ S'=>∃a4,ρ=[some t,some b,some (.int (Nat.gcd one other:Nat)),some (.int 0),a4]∧S=S') (fun _ _=>False):=by
 intro n
 induction n with
 |zero=>intro t b one other a4 h;omega
 |succ n ih=>
  intro t b one other a4 h
  refine Wb ?_
  walk_at "w"
  refine xn (fun h=> ?_) (fun h=> ?_)
  ·have h0:0<other:=by omega
   walk_at "w"
   refine vy (by omega) ?_
   walk_at "w"
   have:=ih t b other (one % other) (some (.int ((one % other:Nat):Int))) (by have:=Nat.mod_lt one h0;omega)
   rw [show Nat.gcd other (one % other)=Nat.gcd one other by rw [Nat.gcd_comm other,←Nat.gcd_rec,Nat.gcd_comm]] at this
   rw [Int.natCast_emod] at this
   exact this
  ·have:other=0:=by omega
   subst this
   exact ⟨a4,by simp,rfl⟩
noncomputable def yp (n:Nat) (p:Int):Prop:=p.natAbs<2^n
theorem yp.mono {n m:Nat} {p:Int} (h:yp n p) (hn:n≤m):yp m p:=Nat.lt_of_lt_of_le h (Nat.pow_le_pow_right (by decide) hn)
theorem yp.le {n:Nat} {p:Int} (h:yp n p):intBits p≤n:=PySem.intBits_le_iff.mpr h
theorem yp.mul {n m:Nat} {p q:Int} (h:yp n p) (g:yp m q):yp (n+m) (p*q):=by
 unfold yp at*
 rw [Int.natAbs_mul,Nat.pow_add]
 rcases Nat.eq_zero_or_pos q.natAbs with z|z
 ·rw [z,Nat.mul_zero];exact Nat.mul_pos (Nat.pow_pos (by decide)) (Nat.pow_pos (by decide))
 ·exact Nat.mul_lt_mul_of_lt_of_le h (Nat.le_of_lt g) (Nat.pow_pos (by decide))
theorem yp.fuel {n:Nat} {p:Int} (hb:Big fu) (h:yp n p) (hn:n≤9000):p.natAbs<fu:=Nat.lt_of_lt_of_le (h.mono hn) hb
theorem WV {n:Nat} {t b:Int} (h0:0<b) (hb:yp n b) (hn:n≤9000):((Nat.gcd t.natAbs b.natAbs:Nat):Int)≠0∧intBits ((Nat.gcd t.natAbs b.natAbs:Nat):Int)≤9000:=by
 have g0:0<Nat.gcd t.natAbs b.natAbs:=Nat.gcd_pos_of_pos_right _ (by omega)
 have gl:Nat.gcd t.natAbs b.natAbs≤b.natAbs:=Nat.gcd_le_right _ (by omega)
 refine ⟨by omega,Nat.le_trans (yp.le (n:=n) ?_) hn⟩
 unfold yp
 rw [Int.natAbs_natCast]
 exact Nat.lt_of_le_of_lt gl hb
theorem WW {t b:Int}:qv (wL t b)= .tup [.int (t.fdiv ((Nat.gcd t.natAbs b.natAbs:Nat):Int)),.int (b.fdiv ((Nat.gcd t.natAbs b.natAbs:Nat):Int))]:=by
 rw [Int.fdiv_eq_ediv_of_nonneg _ (by omega),Int.fdiv_eq_ediv_of_nonneg _ (by omega)]
 rfl
theorem zaF (hbg:Big fu) {t b:Int} (h0:0<b) (hb:yp 9000 b):W (ZD fu [.int t,.int b] S) fun v S'=>v=qv (wL t b)∧S=S':=by
 have gb:=WV (t:=t) h0 hb (Nat.le_refl _)
 walk_at "wr";unfold ZC
 walk_at "w"
 refine W.imp (P:=fun v S'=>v= .int (Nat.gcd t.natAbs b.natAbs:Nat)∧S=S') ?_ ?_
 ·walk_at "wr";unfold wf;walk_at "w"
  refine VR ?_
  walk_at "w"
  refine VR ?_
  walk_at "w"
  refine zao ?_
  rcases Tb (S:=S) fu t.natAbs b.natAbs none (yp.fuel hbg hb (Nat.le_refl _)) with ⟨ρ,S',e,a2,rfl,rfl⟩|⟨_,_,_,z⟩
  ·refine .nx e ?_
   walk_at "w"
   exact ⟨rfl,rfl⟩
  ·exact z.elim
 rintro _ _ ⟨rfl,rfl⟩
 walk_at "w"
 refine zR ?_
 walk_at "w"
 refine xn (fun h=>absurd h (by omega)) (fun _=>zX ?_)
 walk_at "w"
 refine Zk gb ?_
 walk_at "w"
 refine Zk gb ?_
 walk_at "w"
 exact ⟨WW.symm,rfl⟩
theorem WX (hbg:Big fu) {t b:Int} (h0:0<b) (hb:yp 9000 b):W (xx fu [.int t,.int b] S) fun v S'=>v=qv (wL t b)∧S=S':=by
 have gb:=WV (t:=t) h0 hb (Nat.le_refl _)
 walk_at "wr";unfold vB
 walk_at "w"
 refine VR ?_
 walk_at "w"
 refine zao ?_
 have hbn:Xv.int b=Xv.int ((b.natAbs:Nat):Int):=by rw [Int.natAbs_of_nonneg (by omega)]
 rcases zaE (S:=S) fu (.int t) (.int b) t.natAbs b.natAbs none (yp.fuel hbg hb (Nat.le_refl _)) with ⟨ρ,S',e,a4,rfl,rfl⟩|⟨_,_,_,z⟩
 rotate_left
 ·exact z.elim
 rw [←hbn] at e
 refine .nx e ?_
 walk_at "w"
 refine Zk gb ?_
 walk_at "w"
 refine Zk gb ?_
 walk_at "w"
 exact ⟨WW.symm,rfl⟩
noncomputable def QX (x:Xv) (q:Q2):Prop:=x.tupOf=some [.int q.1,.int q.2]
theorem QX.qv (q:Q2):QX (qv q) q:=rfl
theorem QOk.bits {c:Int} {q:Q2} (h:QOk dd c q) (hd:0<dd) (hdd:yp 4000 dd) (h0:0≤c) (hc:c<1048576):yp 4020 q.1∧yp 4000 q.2:=by
 have h1:=h.bD hd
 have h2:=h.pos
 have hb:yp 4000 q.2:=Nat.lt_of_le_of_lt (show q.2.natAbs≤dd.natAbs by omega) hdd
 refine ⟨?_,hb⟩
 have hcb:yp 20 c:=by
  unfold yp
  have:(2:Nat)^20=1048576:=by decide
  omega
 have:=hcb.mul hb
 refine Nat.lt_of_le_of_lt ?_ (this.mono (by decide))
 have h3:=h.le
 have h4:0≤c*q.2:=Int.mul_nonneg h0 (by omega)
 omega
theorem zbA (hbg:Big fu) {a b:Q2} {c e:Int} (hx:QX x a) (hy:QX y b) (oa:QOk dd c a) (ob:QOk dd e b) (hd:0<dd) (hdd:yp 4000 dd) (c0:0≤c∧c<1048576) (e0:0≤e∧e<1048576):W (Zl fu [x,y] S) fun v S'=>v=qv (Zp a b)∧S=S':=by
 obtain ⟨a1,a2⟩:=oa.bits hd hdd c0.1 c0.2
 obtain ⟨b1,b2⟩:=ob.bits hd hdd e0.1 e0.2
 have l1:=a1.le
 have l2:=a2.le
 have l3:=b1.le
 have l4:=b2.le
 walk_at "wr";unfold YA
 walk_at "w"
 refine yQ hx Yv ?_
 walk_at "w"
 refine yQ hy Yv ?_
 refine Zj (by omega) ?_
 walk_at "w"
 refine yQ hx Yw ?_
 walk_at "w"
 refine yQ hy Yw ?_
 refine Zj (by omega) ?_
 walk_at "w"
 exact zaF hbg (Int.mul_pos oa.pos ob.pos) ((a2.mul b2).mono (by decide))
end
section
variable {fu:Nat} {S S' S2:Sto} {dd:Int} {x y:Xv}
theorem xf {a b:Str} (h:a≠b) {P:Xv→Sto→Prop} (k:P (.bl false) S):WO (vc false (.str a) (.str b) S) P:=Ur (by rw [decide_eq_false h];exact k)
theorem vJ {a:Str} {P:Xv→Sto→Prop} (k:P (.bl true) S):WO (vc false (.str a) (.str a) S) P:=Ur (by rw [decide_eq_true rfl];exact k)
theorem zaG {a b:Q2} (ha:QOk dd 1 a) (hb:0<b.2∧0≤b.1∧b.1≤b.2) (hn:0≤a.1) (hd:a.2*b.2∣dd):QOk dd 1 (Zp a b):=by
 have h1:=ha.pos
 have h2:=ha.le
 refine zaD (Int.mul_pos h1 hb.1) (Int.dvd_trans hd ⟨a.1*b.1,rfl⟩) ?_
 have h3:a.1*b.1≤a.2*b.2:=Int.le_trans (Int.mul_le_mul_of_nonneg_left hb.2.2 hn) (Int.mul_le_mul_of_nonneg_right (by omega) (by omega))
 have h4:0≤a.1*b.1:=Int.mul_nonneg hn hb.2.1
 omega
theorem zaH {a b:Q2} (ha:0<a.2) (hb:0<b.2) (hn:0≤a.1) (hm:0≤b.1):0≤(Zp a b).1:=by
 unfold Zp wL
 exact Int.ediv_nonneg (Int.mul_nonneg hn hm) (by omega)
structure Sh (q:Q2):Prop where
 pos:0<q.2
 nn:0≤q.1
 le:q.1≤q.2
 low:Int.gcd q.1 q.2=1
 vp:0<val q
theorem Wh {t b:Int}:(wL t b).2∣b:=by
 obtain ⟨b',eb⟩:(Int.gcd t b:Int)∣b:=Int.gcd_dvd_right ..
 unfold wL
 dsimp only
 by_cases gz:((Int.gcd t b:Int))=0
 ·rw [gz] at eb ⊢
  rw [Int.zero_mul] at eb
  rw [eb]
  exact Int.dvd_zero _
 ·rw [Int.ediv_eq_of_eq_mul_right gz eb]
  exact ⟨(Int.gcd t b:Int),by rw [Int.mul_comm];exact eb⟩
theorem vK {α:Type} {l:List α} {i:Nat} {a:α} (h:l[i]? =some a):l.take (i+1)=l.take i++[a]:=by
 obtain ⟨hi,e⟩:=List.getElem?_eq_some_iff.1 h
 rw [List.take_succ_eq_append_getElem hi,e]
end
section
variable {fu:Nat} {S S' S2:Sto} {dd:Int} {x y:Xv} {ln:Nat}
noncomputable def yJ (ln k:Nat) (S:Sto):Prop:=∃ns:List Int,ns.length=k∧S[ln]? =some (.lst (ns.map Xv.int))
theorem yJ.keep {w:Nat→Prop} {k:Nat} (h:yJ ln k S) (q:Kp w S S') (z:¬w ln):yJ ln k S':=by
 obtain ⟨ns,l,e⟩:=h
 exact ⟨ns,l,q.2 _ _ e z⟩
theorem yJ.app {k:Nat} {T:Sto} (h:yJ ln k S):yJ ln k (S++T):=h.keep (Kp.pre (w:=fun _=>False) (List.prefix_append _ _)) id
theorem yJ.lt {k:Nat} (h:yJ ln k S):ln<S.length:=by
 obtain ⟨ns,_,en⟩:=h
 exact (List.getElem?_eq_some_iff.1 en).1
theorem yK {k:Nat} {many:Int} (hl:yJ ln k S) (hm:0<many):W (zv fu [.ref ln,.int many] S) fun v S'=>∃c k',v= .int c∧0≤c∧c<many∧yJ ln k' S'∧k'≤k∧(c≠0→k'+1≤k)∧Kp (· =ln) S S':=by
 obtain ⟨ns,hk,e⟩:=id hl
 walk_at "wr";unfold wU;walk_at "w"
 refine zR ?_
 walk_at "w"
 refine zap (zw e) ?_
 walk_at "w"
 rw [List.length_map]
 refine xn (fun h=> ?_) (fun h=> ?_)
 ·walk_at "w"
  exact ⟨0,k,rfl,by omega,hm,hl,Nat.le_refl _,fun z=>absurd rfl z,Kp.refl _⟩
 ·walk_at "w"
  refine vQ ?_
  walk_at "w"
  refine ⟨⟨_,zw e⟩,?_⟩
  walk_at "w"
  have hn:ns.length-1<ns.length:=by omega
  refine WO.of (show XS (.ref ln) [] S = some (.int ns[ns.length - 1], S.set ln (.lst (ns.dropLast.map Xv.int))) by
   unfold XS
   rw [xP e]
   dsimp only
   rw [List.length_map,List.getElem?_map,List.getElem?_eq_getElem hn,←List.map_dropLast]
   rfl) ?_
  walk_at "w"
  refine vy hm ?_
  exact ⟨_,ns.length-1,rfl,Int.emod_nonneg _ (by omega),Int.emod_lt_of_pos _ hm,⟨_,by rw [List.length_dropLast],wW e⟩,by omega,fun _=>by omega,(Kp.refl _).set (.inl rfl)⟩
end
section
variable {fu:Nat} {S S' S2:Sto} {dd:Int} {x y:Xv} {ln:Nat}
theorem Ut {q:Q2} (h:0<q.2) (h1:0<q.1):0<val q:=by
 unfold val
 rw [Rat.div_def]
 refine Rat.mul_pos ?_ ?_
 ·exact_mod_cast h1
 ·rw [Rat.inv_pos]
  exact_mod_cast h
theorem zcT {w s:Int} (h1:1≤w) (h2:w≤s):Sh (wL w s)∧(wL w s).2∣s:=by
 have hs:0<s:=by omega
 have o:=zaD (dd:=s) (c:=1) (t:=w) (b:=s) hs ⟨w,rfl⟩ (by omega)
 have hv:val (wL w s)=(w:Rat) / (s:Rat):=zbz hs
 have n1:0≤(wL w s).1:=by
  unfold wL
  exact Int.ediv_nonneg (by omega) (by omega)
 have hp:0<val (wL w s):=by
  rw [hv]
  exact Ut (q:=(w,s)) hs (by show 0<w;omega)
 have hl:=o.le
 refine ⟨⟨o.pos,n1,by omega,o.low,hp⟩,Wh⟩
theorem zaI:∀{ws:List Int},(∀w∈ws,1≤w∧w≤1000000000)→0≤ws.sum∧ws.sum≤1000000000*ws.length∧∀w∈ws,w≤ws.sum
 |[],_=>⟨by simp,by simp,(fun w h=>by cases h)⟩
 |a::r,h=>by
  obtain ⟨h1,h2,h3⟩:=zaI fun w hw=>h w (List.mem_cons_of_mem _ hw)
  have ha:=h a (List.mem_cons_self ..)
  rw [List.sum_cons,List.length_cons]
  refine ⟨by omega,by omega,fun w hw=> ?_⟩
  rcases List.mem_cons.1 hw with rfl|hw
  ·omega
  ·have:=h3 w hw
   omega
theorem zaJ (hbg:Big fu) {k n:Nat} (hl:yJ ln k S) (hn:n≤9) (h0:1≤n):W (yU fu [.ref ln,.int (n:Int)] S) fun v S'=>∃(m:Nat) (qs:List Q2) (s:Int) (k':Nat),v= .ref m∧S.length≤m∧S'[m]? =some (.lst (qs.map qv))∧qs.length=n∧0<s∧s<10000000000∧(∀q∈qs,Sh q∧q.2∣s)∧yJ ln k' S'∧k'≤k∧Kp (· =ln) S S':=by
 walk_at "wr";unfold wg
 walk_at "w"
 refine (yK hl.app (by decide)).imp ?_
 rintro _ S1 ⟨c,k1,rfl,c0,c1,l1,hk1,_,q1⟩
 have hnl:¬S.length=ln:=by have:=hl.lt;omega
 have e1:=q1.2 _ _ xM hnl
 have kk:Kp (· =ln) S S1:=(Kp.pre (List.prefix_append _ _)).trans q1
 have hmost:∃most:Int,atI [Xv.int 4,.int 4,.int ((10:Int)^(9:Int).toNat)] c=some (.int most)∧1≤most∧most≤1000000000-0:=by
  rcases (show c=0∨c=1∨c=2 by omega) with rfl|rfl|rfl
  ·exact ⟨4,rfl,by decide,by decide⟩
  ·exact ⟨4,rfl,by decide,by decide⟩
  ·exact ⟨(10:Int)^(9:Int).toNat,rfl,by decide,by decide⟩
 obtain ⟨most,em,m1,m2⟩:=hmost
 refine Yu (zw e1) em ?_
 refine yo (zan (wD (vx ?_)))
 walk_at "w"
 refine ⟨⟨by omega,by omega⟩,_,rfl,?_⟩
 refine xR (by rw [yf];exact Nat.le_of_lt (YD (by omega))) (fun i es S4=>∃(ws:List Int) (k4:Nat),es=ws.map Xv.int∧(∀w∈ws,1≤w∧w≤1000000000)∧yJ ln k4 S4∧k4≤k1∧Kp (· =ln) S1 S4) (fun _ _ _ _ _=>rfl) ?_ ⟨[],k1,rfl,(fun w h=>by cases h),l1,Nat.le_refl _,Kp.refl _⟩ ?_
 ·rintro i w es S4 hw hel ⟨ws,k4,rfl,hws,l4,hk4,q4⟩
  refine .of rfl ?_
  dsimp only [vT,List.map,List.set]
  walk_at "w"
  refine ⟨rfl,?_⟩
  walk_at "w"
  refine (yK l4 (by omega)).imp ?_
  rintro _ S5 ⟨c5,k5,rfl,c50,c51,l5,hk5,_,q5⟩
  walk_at "w"
  refine ⟨ws++[1+c5],k5,by simp,fun w hw=> ?_,l5,by omega,q4.trans q5⟩
  rcases List.mem_append.1 hw with hw|hw
  ·exact hws w hw
  ·rw [List.mem_singleton] at hw
   omega
 ·rintro es S4 hlen ⟨ws,k4,rfl,hws,l4,hk4,q4⟩
  rw [List.length_map,yf,Int.toNat_natCast] at hlen
  obtain ⟨g1,g2,g3⟩:=zaI hws
  have e5:=xM (S:=S4) (c:=Ce.lst (ws.map Xv.int))
  have l5:=l4.app (T:=[Ce.lst (ws.map Xv.int)])
  have k5:Kp (· =ln) S (S4++[Ce.lst (ws.map Xv.int)]):=(kk.trans q4).app
  generalize hwn:S4.length=wn at e5 ⊢
  generalize S4++[Ce.lst (ws.map Xv.int)]=S5 at e5 l5 k5 ⊢
  have hpos:0<ws.sum:=by
   cases ws with
   |nil=>simp at hlen;omega
   |cons a r=>
    have h1:=hws a (List.mem_cons_self ..)
    have h2:=g3 a (List.mem_cons_self ..)
    omega
  refine vW (wD (zb1 ?_))
  walk_at "w"
  refine ⟨_,zw e5,_,zw e5,?_⟩
  refine xR (xs:=ws.map Xv.int) (by rw [List.length_map];exact Nat.le_of_lt (YD (by omega))) (fun i es S6=>S6=S5∧es=(((ws.take i).map fun w=>wL w ws.sum)).map qv) ?_ ?_ ⟨rfl,rfl⟩ ?_
  ·rintro i es _ _ ⟨rfl,_⟩
   exact zw e5
  ·rintro i w es S6 hw hel ⟨rfl,rfl⟩
   rw [List.getElem?_map] at hw
   cases hwi:ws[i]? with
   |none=>rw [hwi] at hw;cases hw
   |some w0=>
    rw [hwi] at hw
    cases hw
    refine .of rfl ?_
    dsimp only [vT,List.map,List.set]
    walk_at "w"
    refine ⟨rfl,?_⟩
    walk_at "w"
    refine WO.of (show zag [.ref wn] S6 = some (.int ws.sum, S6) by
     unfold zag;dsimp only;rw [zw e5,Option.bind_some,UU];rfl) ?_
    walk_at "w"
    refine (WX hbg hpos (yp.mono (n:=60) (by unfold yp;omega) (by decide))).imp ?_
    rintro _ _ ⟨rfl,rfl⟩
    refine ⟨rfl,?_⟩
    rw [vK hwi,List.map_append,List.map_append]
    rfl
  ·rintro es S6 _ ⟨rfl,rfl⟩
   rw [List.length_map,List.take_length]
   refine ⟨_,ws.map fun w=>wL w ws.sum,ws.sum,k4,rfl,k5.1,xM,by simpa using hlen,hpos,by omega,fun q hq=> ?_,l5.app,by omega,k5.app⟩
   obtain ⟨w,hw,rfl⟩:=List.mem_map.1 hq
   exact zcT (hws w hw).1 (g3 w hw)
end
section
variable {fu:Nat} {S S' S2:Sto} {dd:Int} {x y:Xv}
inductive SmX (S:Sto):Nat→Xv→Xv→Prop
 |int {n:Nat} (i:Int):SmX S n (.int i) (.int i)
 |non {n:Nat}:SmX S n .non .non
 |tup {n:Nat} {x y:Xv} {l m:List Xv}:x.tupOf=some l→y.tupOf=some m→l.length=m.length→l.length≤999→(∀(i:Nat) a b,l[i]? =some a→m[i]? =some b→SmX S n a b)→SmX S (n+1) x y
 |lst {n a b:Nat} {l m:List Xv}:S[a]? =some (.lst l)→S[b]? =some (.lst m)→l.length=m.length→l.length≤999→(∀(i:Nat) a b,l[i]? =some a→m[i]? =some b→SmX S n a b)→SmX S (n+1) (.ref a) (.ref b)
theorem Wi {l:List Xv} {i:Nat} {z:Xv} (h:wX S x=some l) (e:l[i]? =some z):WK x (.int (i:Int)) S=some (z,S):=by
 unfold WK
 rw [h]
 dsimp only
 rw [zaq (by omega) (by rw [Int.toNat_natCast];exact e)]
 rfl
theorem ZF {l:List Xv} (h:wX S x=some l):wO [x] S=some (.int l.length,S):=by
 unfold wO
 dsimp only
 rw [h]
 rfl
theorem zbB {n:Nat} (h:SmX S n x y):∀{S':Sto},Kp (fun _=>False) S S'→W (zG fu (n+1) [x,y] S') fun v S2=>v= .bl true∧S'<+:S2:=by
 have isT:∀{x:Xv} {l:List Xv} {S:Sto},x.tupOf=some l→XY "tuple" S x=some true∧wX S x=some l:=by
  intro x l S h
  cases x<;>first|(cases h;exact ⟨rfl,rfl⟩)|cases h
 have isL:∀{a:Nat} {l:List Xv} {S:Sto},S[a]? =some (.lst l)→XY "tuple" S (.ref a)=some false∧XY "list" S (.ref a)=some true∧wX S (.ref a)=some l:=by
  intro a l S h
  refine ⟨?_,?_,zw h⟩<;>(unfold XY;first|(rw [zw h];rfl)|(simp [zw h])|rfl)
 induction h with
 | @int n i=>
  intro S' k
  rw [yw]
  walk_at "wr";unfold yH
  refine yo (zR ?_)
  walk_at "w"
  refine xU (v:=false) rfl ?_
  refine ⟨_,rfl,fun z=>(by cases z),fun _=>zX ?_⟩
  refine yo (zR ?_)
  walk_at "w"
  refine xU (v:=false) rfl ?_
  refine ⟨_,rfl,fun z=>(by cases z),fun _=>zX ?_⟩
  refine yo (zR ?_)
  walk_at "w"
  refine WO.of (show UP (.int i) S'=some (.bl false,S') from rfl) ?_
  refine ⟨_,rfl,fun z=>(by cases z),fun _=>zX ?_⟩
  refine yo (zR ?_)
  walk_at "w"
  refine xU (v:=false) rfl ?_
  refine ⟨_,rfl,fun z=>(by cases z),fun _=>zX ?_⟩
  refine vW (Uj ?_)
  walk_at "w"
  refine xU (v:=true) rfl ?_
  refine ⟨_,rfl,fun _=> ?_,fun z=>(by cases z)⟩
  refine Uj ?_
  walk_at "w"
  refine xU (v:=false) rfl ?_
  refine ⟨_,rfl,_,rfl,fun _=> ?_,fun z=>(by cases z)⟩
  walk_at "w"
  refine zby ?_
  exact ⟨by rw [decide_eq_true rfl],List.prefix_refl _⟩
 | @non n=>
  intro S' k
  rw [yw]
  walk_at "wr";unfold yH
  refine yo (zR ?_)
  walk_at "w"
  refine xU (v:=false) rfl ?_
  refine ⟨_,rfl,fun z=>(by cases z),fun _=>zX ?_⟩
  refine yo (zR ?_)
  walk_at "w"
  refine xU (v:=false) rfl ?_
  refine ⟨_,rfl,fun z=>(by cases z),fun _=>zX ?_⟩
  refine yo (zR ?_)
  walk_at "w"
  refine WO.of (show UP .non S'=some (.bl true,S') from rfl) ?_
  refine ⟨_,rfl,fun _=> ?_,fun z=>(by cases z)⟩
  walk_at "w"
  refine WO.of (show UP .non S'=some (.bl true,S') from rfl) ?_
  exact ⟨rfl,List.prefix_refl _⟩
 | @tup n x y l m hx hy hlm hl _ ih=>
  intro S' k
  have cell:∀{S2:Sto},S'<+:S2→wX S2 x=some l∧wX S2 y=some m:=fun _=>⟨(isT hx).2,(isT hy).2⟩
  rw [yw]
  walk_at "wr";unfold yH
  refine yo (zR ?_)
  walk_at "w"
  refine xU (v:=true) (isT hy).1 ?_
  refine ⟨_,rfl,fun _=> ?_,fun z=>(by cases z)⟩
  refine yo (zR (Xu ?_))
  walk_at "w"
  refine xU (v:=true) (isT hx).1 ?_
  refine ⟨_,rfl,fun z=>(by cases z),fun _=> ?_⟩
  walk_at "w"
  refine WO.of (ZF (isT hx).2) ?_
  walk_at "w"
  refine WO.of (ZF (isT hy).2) ?_
  walk_at "w"
  rw [hlm]
  refine ⟨fun z=> ?_,fun _=>zX ?_⟩
  ·simp at z
  refine vW (zal (XZ (wD (vx ?_))))
  walk_at "w"
  refine WO.of (ZF (isT hy).2) ?_
  refine ⟨_,rfl,⟨by omega,by omega⟩,_,rfl,?_⟩
  refine xR (by rw [yf];exact Nat.le_of_lt (Uq (by omega))) (fun i es S2=>S'<+:S2∧es=List.replicate i (.bl true)) (fun _ _ _ _ _=>rfl) ?_ ⟨List.prefix_refl _,rfl⟩ ?_
  ·rintro i w es S2 hw hel ⟨p2,rfl⟩
   obtain ⟨hi,rfl⟩:=vI hw
   rw [Int.zero_add]
   have hil:i<l.length:=by omega
   have him:i<m.length:=by omega
   refine .of rfl ?_
   dsimp only [vT,List.map,List.set]
   walk_at "w"
   refine ⟨rfl,?_⟩
   walk_at "w"
   refine WO.of (Wi (cell p2).1 (List.getElem?_eq_getElem hil)) ?_
   walk_at "w"
   refine WO.of (Wi (cell p2).2 (List.getElem?_eq_getElem him)) ?_
   walk_at "w"
   refine (ih i _ _ (List.getElem?_eq_getElem hil) (List.getElem?_eq_getElem him) (k.trans (Kp.pre p2))).imp ?_
   rintro _ S3 ⟨rfl,p3⟩
   exact ⟨p2.trans p3,by rw [List.replicate_succ']⟩
  ·rintro es S2 _ ⟨p2,rfl⟩
   walk_at "w"
   refine zaC xK (YE _) ?_
   refine ⟨by simp,p2.trans (List.prefix_append _ _)⟩
 | @lst n a b l m ha hb hlm hl _ ih=>
  intro S' k
  have cell:∀{S2:Sto},S'<+:S2→S2[a]? =some (.lst l)∧S2[b]? =some (.lst m):=fun p=>⟨(Kp.pre (w:=fun _=>False) p).2 _ _ (k.2 _ _ ha id) id,(Kp.pre (w:=fun _=>False) p).2 _ _ (k.2 _ _ hb id) id⟩
  have ha':=(cell (List.prefix_refl _)).1
  have hb':=(cell (List.prefix_refl _)).2
  rw [yw]
  walk_at "wr";unfold yH
  refine yo (zR ?_)
  walk_at "w"
  refine xU (v:=false) (isL hb').1 ?_
  refine ⟨_,rfl,fun z=>(by cases z),fun _=>zX ?_⟩
  refine yo (zR ?_)
  walk_at "w"
  refine xU (v:=true) (isL hb').2.1 ?_
  refine ⟨_,rfl,fun _=> ?_,fun z=>(by cases z)⟩
  refine yo (zR (Xu ?_))
  walk_at "w"
  refine xU (v:=true) (isL ha').2.1 ?_
  refine ⟨_,rfl,fun z=>(by cases z),fun _=> ?_⟩
  walk_at "w"
  refine WO.of (ZF (isL ha').2.2) ?_
  walk_at "w"
  refine WO.of (ZF (isL hb').2.2) ?_
  walk_at "w"
  rw [hlm]
  refine ⟨fun z=> ?_,fun _=>zX ?_⟩
  ·simp at z
  refine vW (zal (XZ (wD (vx ?_))))
  walk_at "w"
  refine WO.of (ZF (isL hb').2.2) ?_
  refine ⟨_,rfl,⟨by omega,by omega⟩,_,rfl,?_⟩
  refine xR (by rw [yf];exact Nat.le_of_lt (Uq (by omega))) (fun i es S2=>S'<+:S2∧es=List.replicate i (.bl true)) (fun _ _ _ _ _=>rfl) ?_ ⟨List.prefix_refl _,rfl⟩ ?_
  ·rintro i w es S2 hw hel ⟨p2,rfl⟩
   obtain ⟨hi,rfl⟩:=vI hw
   rw [Int.zero_add]
   have hil:i<l.length:=by omega
   have him:i<m.length:=by omega
   refine .of rfl ?_
   dsimp only [vT,List.map,List.set]
   walk_at "w"
   refine ⟨rfl,?_⟩
   walk_at "w"
   refine WO.of (Wi (isL (cell p2).1).2.2 (List.getElem?_eq_getElem hil)) ?_
   walk_at "w"
   refine WO.of (Wi (isL (cell p2).2).2.2 (List.getElem?_eq_getElem him)) ?_
   walk_at "w"
   refine (ih i _ _ (List.getElem?_eq_getElem hil) (List.getElem?_eq_getElem him) (k.trans (Kp.pre p2))).imp ?_
   rintro _ S3 ⟨rfl,p3⟩
   exact ⟨p2.trans p3,by rw [List.replicate_succ']⟩
  ·rintro es S2 _ ⟨p2,rfl⟩
   walk_at "w"
   refine zaC xK (YE _) ?_
   refine ⟨by simp,p2.trans (List.prefix_append _ _)⟩
end
section
variable {fu:Nat} {S S' S2:Sto} {dd:Int} {x y:Xv}
structure Lf2 where
 ms:List Int
 fs:List Q2
 o:Xv
 g:Xv
noncomputable def ext (k:Nat) (o:Option Q2) (r:Lf2):Lf2:=⟨(k:Int)::r.ms,o.toList++r.fs,r.o,r.g⟩
noncomputable abbrev Pt2:=Option Q2×Xv×List Lf2×Int
noncomputable def yl:Nat→List Pt2→List Lf2
 |_,[]=>[]
 |k,p::r=>p.2.2.1.map (ext k p.1)++yl (k+1) r
noncomputable def ptY (p:Pt2):Xv:=match p.1 with
 |some q=> .tup [qv q,p.2.1]
 |none=>p.2.1
inductive Rt:Nat→Xv→List Lf2→Int→Prop
 |fin {h:Nat} {st:List Int} {g:Int}:st.length≤100→Rt h (.tup [.str "end",.tup (st.map Xv.int),.int g]) [⟨[],[],.tup (st.map Xv.int),.int g⟩] 1
 |lost {h:Nat} {g:Int}:Rt h (.tup [.str "lost",.int g]) [⟨[],[],.non,.int g⟩] 1
 |draw {h:Nat} {s e:Int} (ps:List Pt2):ps≠[]→ps.length≤100→0<s→0<e→(∀p∈ps,Rt h p.2.1 p.2.2.1 p.2.2.2)→(∀p∈ps,∃q,p.1=some q∧Sh q∧q.2∣s∧p.2.2.2∣e)→Rt (h+1) (.tup [.str "draw",.tup (ps.map ptY)]) (yl 0 ps) (s*e)
 |hand {h:Nat} {e:Int} (ps:List Pt2):ps≠[]→ps.length≤100→0<e→(∀p∈ps,Rt h p.2.1 p.2.2.1 p.2.2.2)→(∀p∈ps,p.1=none∧p.2.2.2∣e)→Rt (h+1) (.tup [.str "hand",.tup (ps.map ptY)]) (yl 0 ps) e
theorem Zq:∀(a b:List Pt2) (k:Nat),yl k (a++b)=yl k a++yl (k+a.length) b
 |[],b,k=>rfl
 |p::a,b,k=>by
  show p.2.2.1.map (ext k p.1)++yl (k+1) (a++b)=(p.2.2.1.map (ext k p.1)++yl (k+1) a)++yl (k+(a.length+1)) b
  rw [Zq a b (k+1),List.append_assoc,show k+(a.length+1)=k+1+a.length by omega]
theorem Xy {ps:List Pt2} {i:Nat} {p:Pt2} (h:ps[i]? =some p):yl 0 (ps.take (i+1))=yl 0 (ps.take i)++p.2.2.1.map (ext i p.1)∧(yl 0 (ps.take i)).length+p.2.2.1.length≤(yl 0 ps).length:=by
 have hi:=(List.getElem?_eq_some_iff.1 h).1
 have e:yl 0 (ps.take (i+1))=yl 0 (ps.take i)++p.2.2.1.map (ext i p.1):=by
  rw [vK h,Zq,List.length_take,Nat.min_eq_left (by omega),Nat.zero_add]
  show _++(p.2.2.1.map (ext i p.1)++[])=_
  rw [List.append_nil]
 refine ⟨e,?_⟩
 have:yl 0 ps=yl 0 (ps.take (i+1))++yl (0+(ps.take (i+1)).length) (ps.drop (i+1)):=by rw [←Zq,List.take_append_drop]
 rw [this,e,List.length_append,List.length_append,List.length_map]
 omega
theorem Rt.up {h h':Nat} {l:List Lf2} {d:Int} (r:Rt h x l d) (hh:h≤h'):Rt h' x l d:=by
 induction r generalizing h' with
 |fin a=>exact .fin a
 |lost=>exact .lost
 |draw ps a1 a2 a3 a4 _ a5 ih=>
  obtain ⟨k,rfl⟩:∃k,h'=k+1:=⟨h'-1,by omega⟩
  exact .draw ps a1 a2 a3 a4 (fun p hp=>ih p hp (by omega)) a5
 |hand ps a1 a2 a3 _ a4 ih=>
  obtain ⟨k,rfl⟩:∃k,h'=k+1:=⟨h'-1,by omega⟩
  exact .hand ps a1 a2 a3 (fun p hp=>ih p hp (by omega)) a4
theorem Rt.one {h:Nat} {l:List Lf2} {d:Int} (r:Rt h x l d):1≤l.length:=by
 have key:∀{h:Nat} {ps:List Pt2},ps≠[]→(∀p∈ps,1≤p.2.2.1.length)→1≤(yl 0 ps).length:=by
  intro h ps hne ih
  cases ps with
  |nil=>exact absurd rfl hne
  |cons p r=>
   have:=ih p (List.mem_cons_self ..)
   show 1≤(p.2.2.1.map (ext 0 p.1)++_).length
   rw [List.length_append,List.length_map]
   omega
 induction r with
 |fin _=>exact Nat.le_refl _
 |lost=>exact Nat.le_refl _
 |draw ps hne _ _ _ _ _ ih=>exact key (h:=0) hne ih
 |hand ps hne _ _ _ _ ih=>exact key (h:=0) hne ih
noncomputable def zaK (l:List Lf2):Prop:=l.Pairwise fun a b=>ltL a.ms b.ms=true
theorem zaL {k:Int} {a b:List Int}:ltL (k::a) (k::b)=ltL a b:=by
 rw [ltL]
 exact if_pos rfl
theorem zaM {k j:Int} {a b:List Int} (h:k<j):ltL (k::a) (j::b)=true:=by
 rw [ltL,if_neg (by omega)]
 exact decide_eq_true h
theorem Wj:∀(ps:List Pt2) (k:Nat),∀r∈yl k ps,∃(j:Nat) (m:List Int),r.ms=(j:Int)::m∧k≤j
 |[],_,r,h=>by cases h
 |p::ps,k,r,h=>by
  rcases List.mem_append.1 h with h|h
  ·obtain ⟨r',_,rfl⟩:=List.mem_map.1 h
   exact ⟨k,r'.ms,rfl,Nat.le_refl _⟩
  ·obtain ⟨j,m,e,hj⟩:=Wj ps (k+1) r h
   exact ⟨j,m,e,by omega⟩
theorem YF:∀(ps:List Pt2) (k:Nat),(∀p∈ps,zaK p.2.2.1)→zaK (yl k ps)
 |[],_,_=>List.Pairwise.nil
 |p::ps,k,h=>by
  unfold zaK
  show List.Pairwise _ (p.2.2.1.map (ext k p.1)++yl (k+1) ps)
  rw [List.pairwise_append]
  refine ⟨?_,YF ps (k+1) fun p hp=>h p (List.mem_cons_of_mem _ hp),fun a ha b hb=> ?_⟩
  ·rw [List.pairwise_map]
   exact (h p (List.mem_cons_self ..)).imp fun {a b} hab=>by
    show ltL ((k:Int)::a.ms) ((k:Int)::b.ms)=true
    rw [zaL]
    exact hab
  ·obtain ⟨a',_,rfl⟩:=List.mem_map.1 ha
   obtain ⟨j,m,e,hj⟩:=Wj ps (k+1) b hb
   rw [e]
   exact zaM (by omega)
theorem Rt.ris {h:Nat} {l:List Lf2} {d:Int} (r:Rt h x l d):zaK l∧(2≤l.length→∀p∈l,p.ms≠[]):=by
 have ne:∀(ps:List Pt2),∀p∈yl 0 ps,p.ms≠[]:=fun ps p hp=>by
  obtain ⟨j,m,e,_⟩:=Wj ps 0 p hp
  rw [e]
  simp
 induction r with
 |fin _=>exact ⟨List.pairwise_singleton _ _,fun z=>absurd z (by simp)⟩
 |lost=>exact ⟨List.pairwise_singleton _ _,fun z=>absurd z (by simp)⟩
 |draw ps _ _ _ _ _ _ ih=>exact ⟨YF ps 0 fun p hp=>(ih p hp).1,fun _=>ne ps⟩
 |hand ps _ _ _ _ _ ih=>exact ⟨YF ps 0 fun p hp=>(ih p hp).1,fun _=>ne ps⟩
theorem Rt.ok {h:Nat} {l:List Lf2} {d:Int} (r:Rt h x l d):∀p∈l,p.ms.length≤h∧(∃g,p.g= .int g)∧(p.o= .non∨∃st:List Int,p.o= .tup (st.map Xv.int)∧st.length≤100):=by
 have key:∀{h:Nat} (ps:List Pt2) (k:Nat),(∀p∈ps,∀q∈p.2.2.1,q.ms.length≤h∧(∃g,q.g= .int g)∧(q.o= .non∨∃st:List Int,q.o= .tup (st.map Xv.int)∧st.length≤100))→∀p∈yl k ps,p.ms.length≤h+1∧(∃g,p.g= .int g)∧(p.o= .non∨∃st:List Int,p.o= .tup (st.map Xv.int)∧st.length≤100):=by
  intro h ps
  induction ps with
  |nil=>intro k _ p hp;cases hp
  |cons p ps ih=>
   intro k hh q hq
   rcases List.mem_append.1 hq with hq|hq
   ·obtain ⟨q',hq',rfl⟩:=List.mem_map.1 hq
    have:=hh p (List.mem_cons_self ..) q' hq'
    exact ⟨Nat.succ_le_succ this.1,this.2⟩
   ·exact ih (k+1) (fun p hp=>hh p (List.mem_cons_of_mem _ hp)) q hq
 induction r with
 |fin a=>intro p hp;rw [List.mem_singleton.1 hp];exact ⟨Nat.zero_le _,⟨_,rfl⟩,.inr ⟨_,rfl,a⟩⟩
 |lost=>intro p hp;rw [List.mem_singleton.1 hp];exact ⟨Nat.zero_le _,⟨_,rfl⟩,.inl rfl⟩
 |draw ps _ _ _ _ _ _ ih=>exact key ps 0 ih
 |hand ps _ _ _ _ _ ih=>exact key ps 0 ih
noncomputable def shr (q:Q2) (r:Lf2):Q2:=r.fs.foldl Zp q
noncomputable def vD (ms:List Int) (q:Q2) (r:Lf2):Xv:= .tup [.tup ((ms++r.ms).map Xv.int),qv (shr q r),r.o,r.g]
noncomputable def zcU (ms:List Int) (q:Q2) (r:Lf2) (e:Xv):Prop:=∃sh,e= .tup [.tup ((ms++r.ms).map Xv.int),sh,r.o,r.g]∧QX sh (shr q r)
inductive yX (ms:List Int) (q:Q2):List Lf2→List Xv→Prop
 |nil:yX ms q [] []
 |cons {e:Xv} {r:Lf2} {es:List Xv} {l:List Lf2}:zcU ms q r e→yX ms q l es→yX ms q (r::l) (e::es)
theorem yX.len {ms:List Int} {q:Q2} {es:List Xv} {l:List Lf2} (h:yX ms q l es):es.length=l.length:=by
 induction h with
 |nil=>rfl
 |cons _ _ ih=>simp [ih]
theorem yX.app {ms:List Int} {q:Q2} {es es':List Xv} {l l':List Lf2} (h:yX ms q l es) (h':yX ms q l' es'):yX ms q (l++l') (es++es'):=by
 induction h with
 |nil=>exact h'
 |cons a _ ih=>exact .cons a ih
theorem yX.at {ms:List Int} {q:Q2} {es:List Xv} {l:List Lf2} (h:yX ms q l es):∀{i:Nat} {e:Xv},es[i]? =some e→∃r,l[i]? =some r∧zcU ms q r e:=by
 induction h with
 |nil=>intro i e h;simp at h
 |cons a _ ih=>
  intro i e h
  cases i with
  |zero=>cases h;exact ⟨_,rfl,a⟩
  |succ i=>exact ih h
noncomputable def Wk (q:Q2):Option Q2→Q2
 |some p=>Zp q p
 |none=>q
theorem Uu (q:Q2) (k:Nat) (o:Option Q2) (r:Lf2):shr q (ext k o r)=shr (Wk q o) r:=by
 cases o<;>rfl
theorem yX.ext {ms:List Int} {q:Q2} {k:Nat} {o:Option Q2} {es:List Xv} {l:List Lf2} (h:yX (ms++[(k:Int)]) (Wk q o) l es):yX ms q (l.map (Prf.ext k o)) es:=by
 induction h with
 |nil=>exact .nil
 |cons a _ ih=>
  obtain ⟨sh,e,hx⟩:=a
  refine .cons ⟨sh,?_,by rw [Uu];exact hx⟩ ih
  rw [e,List.append_assoc]
  rfl
theorem zaN {ms:List Int} {q:Q2} {k:Nat} {o:Option Q2} {r:Lf2}:vD ms q (Prf.ext k o r)=vD (ms++[(k:Int)]) (Wk q o) r:=by
 unfold vD
 rw [Uu,List.append_assoc]
 rfl
theorem zaO {q:Q2} (h0:0<q.2) (h1:Int.gcd q.1 q.2=1):Zp q (1,1)=q:=by
 unfold Zp wL
 show ((q.1*1) / (Int.gcd (q.1*1) (q.2*1):Int),(q.2*1) / (Int.gcd (q.1*1) (q.2*1):Int))=q
 rw [Int.mul_one,Int.mul_one,h1]
 simp
end
section
variable {fu:Nat} {S S' S2:Sto} {dd:Int} {x y:Xv}
theorem ZG {n:Nat} (h:n<2000):n<sizeLine:=Nat.lt_of_lt_of_le h (by decide)
theorem zaP {ts:Xv}:W (wF fu [.tup [.str "draw",ts]] S) fun v S'=>v=ts∧S=S':=by
 walk_at "wr";unfold wE
 refine yo (zR ?_)
 walk_at "w"
 refine xf (by decide) ⟨_,rfl,(fun z=>by cases z),fun _=>zX ?_⟩
 walk_at "w"
 exact ⟨rfl,rfl⟩
theorem zaQ {ts:List Xv} (hl:ts.length≤100):W (wF fu [.tup [.str "hand",.tup ts]] S) fun v S'=>v= .ref S.length∧S'=S++[.lst (ts.map fun x=> .tup [.ct [.int 1,.int 1],x])]:=by
 walk_at "wr";unfold wE
 refine yo (zR ?_)
 walk_at "w"
 refine vJ ⟨_,rfl,fun _=> ?_,(fun z=>by cases z)⟩
 refine vW (wD (zdH ?_))
 walk_at "w"
 refine xR (xs:=ts) (Nat.le_of_lt (YD hl)) (fun i es S2=>S2=S∧es=(ts.take i).map fun x=> .tup [.ct [.int 1,.int 1],x]) (fun _ _ _ _ _=>rfl) ?_ ⟨rfl,rfl⟩ ?_
 ·rintro i w es S2 hw hel ⟨rfl,rfl⟩
  refine .of rfl ?_
  dsimp only [vT,List.map,List.set]
  walk_at "w"
  refine ⟨rfl,?_⟩
  walk_at "w"
  refine ⟨rfl,?_⟩
  rw [vK hw,List.map_append]
  rfl
 ·rintro es S2 _ ⟨rfl,rfl⟩
  rw [List.take_length]
  exact ⟨rfl,rfl⟩
theorem VS (hd:0<dd):QOk dd 1 (1,1):=⟨by decide,Int.one_dvd _,by decide,by decide⟩
theorem zaR (hbg:Big fu) (hd:0<dd) (hdd:yp 4000 dd) {h i:Nat} {m:Nat} {S:Sto} {rn:Nat} {old es:List Xv} {ms:List Int} {q:Q2} {xq tr:Xv} {p:Pt2} {sx:Xv} {N:Rho→Sto→Prop} {R:Xv→Sto→Prop}
  (ih:∀(m:Nat) (S:Sto) (rn:Nat) (old:List Xv) (ms:List Int) (q:Q2) (xq:Xv),h<m→QX xq q→QOk dd 1 q→0≤q.1→q.2*p.2.2.2∣dd→S[rn]? =some (.lst old)→old.length+p.2.2.1.length<2000→ms.length+h≤999→W (yc fu m [.ref rn,.tup (ms.map Xv.int),xq,p.2.1] S) fun _ S'=>∃es,S'[rn]? =some (.lst (old++es))∧yX ms q p.2.2.1 es∧Kp (· =rn) S S')
  (hm:h<m) (hx:QX xq q) (hq:QOk dd 1 q) (hn:0≤q.1) {q1:Q2} (hsx:QX sx q1) (h1:QOk dd 1 q1) (hm1:Zp q q1=Wk q p.1) (hok:QOk dd 1 (Zp q q1)) (hnn:0≤(Zp q q1).1) (hdv:(Zp q q1).2*p.2.2.2∣dd) (e:S[rn]? =some (.lst (old++es))) (hl:(old++es).length+p.2.2.1.length<2000) (hms:ms.length+1+h≤999)
  (k:∀S' es',S'[rn]? =some (.lst (old++(es++es')))→yX ms q (p.2.2.1.map (Prf.ext i p.1)) es'→Kp (· =rn) S S'→N [some (.ref rn),some (.tup (ms.map Xv.int)),some xq,some tr,some (.int (i:Int)),some (.tup [sx,p.2.1])] S'):
  WS (xb (zD (yc fu m) [(ze 0),(eOp wC (ze 1) (zT [(ze 4)])),(zD (Zl fu) [(ze 2),(eOp zM (ze 5) (eC (.int 0)))]),(eOp zM (ze 5) (eC (.int 1)))]) [some (.ref rn),some (.tup (ms.map Xv.int)),some xq,some tr,some (.int (i:Int)),some (.tup [sx,p.2.1])] S) N R:=by
 walk_at "w"
 refine WO.of (show wC (.tup (ms.map Xv.int)) (.tup [.int (i : Int)]) S = some (.tup ((ms ++ [(i : Int)]).map Xv.int), S) by
  unfold wC
  rw [List.map_append]
  exact if_pos (Nat.le_of_lt (Uq (by simp;omega)))) ?_
 walk_at "w"
 refine (zbA hbg hx hsx hq h1 hd hdd (by decide) (by decide)).imp ?_
 rintro _ S3 ⟨rfl,rfl⟩
 walk_at "w"
 refine (ih m S rn (old++es) (ms++[(i:Int)]) (Zp q q1) _ hm (QX.qv _) hok hnn hdv e hl (by simp;omega)).imp ?_
 rintro _ S4 ⟨es4,e4,rx4,k4⟩
 refine k S4 es4 (by rw [←List.append_assoc];exact e4) ?_ k4
 rw [hm1] at rx4
 exact rx4.ext
theorem zcV (hbg:Big fu) (hd:0<dd) (hdd:yp 4000 dd) {h:Nat} {l:List Lf2} {d:Int} (r:Rt h x l d):∀(m:Nat) (S:Sto) (rn:Nat) (old:List Xv) (ms:List Int) (q:Q2) (xq:Xv),h<m→QX xq q→QOk dd 1 q→0≤q.1→q.2*d∣dd→S[rn]? =some (.lst old)→old.length+l.length<2000→ms.length+h≤999→
  W (yc fu m [.ref rn,.tup (ms.map Xv.int),xq,x] S) fun _ S'=>∃es,S'[rn]? =some (.lst (old++es))∧yX ms q l es∧Kp (· =rn) S S':=by
 induction r with
 | @fin h st g _=>
  intro m S rn old ms q xq hm hx hq hn hdv e hl hms
  obtain ⟨m,rfl⟩:∃q,m=q+1:=⟨m-1,by omega⟩
  rw [yA]
  walk_at "wr";unfold yT
  refine zR ?_
  walk_at "w"
  refine vJ ⟨_,rfl,fun _=> ?_,(fun z=>by cases z)⟩
  walk_at "w"
  refine vQ ?_
  walk_at "w"
  refine ⟨⟨_,zw e⟩,?_⟩
  walk_at "w"
  refine yQ rfl (show atI [Xv.str "end",.tup (st.map Xv.int),.int g] 2=some (.int g) from rfl) ?_
  walk_at "w"
  refine xJ (xP e) (ZG (by simp at hl;omega)) ?_
  exact ⟨[_],wW e,.cons ⟨_,by rw [List.append_nil],hx⟩ .nil,(Kp.refl _).set (.inl rfl)⟩
 | @lost h g=>
  intro m S rn old ms q xq hm hx hq hn hdv e hl hms
  obtain ⟨m,rfl⟩:∃q,m=q+1:=⟨m-1,by omega⟩
  rw [yA]
  walk_at "wr";unfold yT
  refine zR ?_
  walk_at "w"
  refine xf (by decide) ⟨_,rfl,(fun z=>by cases z),fun _=> ?_⟩
  refine zR ?_
  walk_at "w"
  refine vJ ⟨_,rfl,fun _=> ?_,(fun z=>by cases z)⟩
  walk_at "w"
  refine vQ ?_
  walk_at "w"
  refine ⟨⟨_,zw e⟩,?_⟩
  walk_at "w"
  refine xJ (xP e) (ZG (by simp at hl;omega)) ?_
  exact ⟨[_],wW e,.cons ⟨_,by rw [List.append_nil],hx⟩ .nil,(Kp.refl _).set (.inl rfl)⟩
 | @draw h s ee ps _ hpl hs0 he0 _ hp ih=>
  intro m S rn old ms q xq hm hx hq hn hdv e hl hms
  obtain ⟨m,rfl⟩:∃q,m=q+1:=⟨m-1,by omega⟩
  rw [yA]
  walk_at "wr";unfold yT
  refine zR ?_
  walk_at "w"
  refine xf (by decide) ⟨_,rfl,(fun z=>by cases z),fun _=> ?_⟩
  refine zR ?_
  walk_at "w"
  refine xf (by decide) ⟨_,rfl,(fun z=>by cases z),fun _=> ?_⟩
  refine Yt (Up (Wa ?_))
  walk_at "w"
  refine zaP.imp ?_
  rintro _ S1 ⟨rfl,rfl⟩
  refine .inl ⟨_,rfl,_,rfl,?_⟩
  refine Zi (fun i ρ S2=>∃(a4 a5:Option Xv) (es:List Xv),ρ=[some (.ref rn),some (.tup (ms.map Xv.int)),some xq,some (.tup [.str "draw",.tup (ps.map ptY)]),a4,a5]∧S2[rn]? =some (.lst (old++es))∧yX ms q (yl 0 (ps.take i)) es∧Kp (· =rn) S S2) (fun _ _ _ _ _=>rfl) ?_ ?_ ?_
  ·rintro i w ρ S2 hw ⟨a4,a5,es,rfl,e2,rx,k2⟩
   obtain ⟨x0,ex,rfl⟩:=Zh hw
   rw [List.getElem?_map] at ex
   cases hpi:ps[i]? with
   |none=>rw [hpi] at ex;cases ex
   |some p=>
    rw [hpi] at ex
    cases ex
    have hmem:=List.mem_of_getElem? hpi
    obtain ⟨q1,eq1,hsh,hds,hde⟩:=hp p hmem
    obtain ⟨f1,f2⟩:=Xy hpi
    have rl:=rx.len
    have qp:=hq.pos
    have hps2:q.2*q1.2∣dd:=Int.dvd_trans (Int.mul_dvd_mul_left q.2 (Int.dvd_trans hds ⟨ee,rfl⟩)) hdv
    have op1:QOk dd 1 q1:=⟨hsh.pos,Int.dvd_trans ⟨q.2,by rw [Int.mul_comm]⟩ hps2,by have:=hsh.nn;have:=hsh.le;omega,hsh.low⟩
    have hdv2:(Zp q q1).2*p.2.2.2∣dd:=by
     refine Int.dvd_trans (Int.mul_dvd_mul (Wh (t:=q.1*q1.1) (b:=q.2*q1.2)) hde) (Int.dvd_trans ?_ hdv)
     rw [Int.mul_assoc]
     exact Int.mul_dvd_mul_left _ (Int.mul_dvd_mul hds (Int.dvd_refl _))
    have ep:ptY p= .tup [qv q1,p.2.1]:=by unfold ptY;rw [eq1]
    rw [ep]
    refine .of rfl ?_
    dsimp only [List.set]
    refine zaR hbg hd hdd (h:=h) (p:=p) (ih p hmem) (by omega) hx hq hn (QX.qv q1) op1 (by rw [eq1];rfl) (zaG hq ⟨hsh.pos,hsh.nn,hsh.le⟩ hn hps2) (zaH qp hsh.pos hn hsh.nn) hdv2 e2 (by rw [List.length_append];omega) (by omega) fun S4 es4 e4 rx4 k4=> ?_
    exact ⟨_,_,es++es4,rfl,e4,by rw [f1];exact rx.app rx4,k2.trans k4⟩
  ·exact ⟨none,none,[],rfl,by rw [List.append_nil];exact e,.nil,Kp.refl _⟩
  ·rintro ρ S2 ⟨a4,a5,es,rfl,e2,rx,k2⟩
   rw [vH,List.length_map,List.take_length] at rx
   exact ⟨es,e2,rx,k2⟩
 | @hand h ee ps _ hpl he0 _ hp ih=>
  intro m S rn old ms q xq hm hx hq hn hdv e hl hms
  obtain ⟨m,rfl⟩:∃q,m=q+1:=⟨m-1,by omega⟩
  rw [yA]
  walk_at "wr";unfold yT
  refine zR ?_
  walk_at "w"
  refine xf (by decide) ⟨_,rfl,(fun z=>by cases z),fun _=> ?_⟩
  refine zR ?_
  walk_at "w"
  refine xf (by decide) ⟨_,rfl,(fun z=>by cases z),fun _=> ?_⟩
  refine Yt (Up (Wa ?_))
  walk_at "w"
  refine (zaQ (by rw [List.length_map];exact hpl)).imp ?_
  rintro _ _ ⟨rfl,rfl⟩
  have en:=xM (S:=S) (c:=Ce.lst ((ps.map ptY).map fun x=> .tup [.ct [.int 1,.int 1],x]))
  have er:=(Kp.pre (w:=fun _=>False) (List.prefix_append S [Ce.lst ((ps.map ptY).map fun x=> .tup [.ct [.int 1,.int 1],x])])).2 _ _ e id
  have kn:Kp (· =rn) S (S++[Ce.lst ((ps.map ptY).map fun x=> .tup [.ct [.int 1,.int 1],x])]):=(Kp.refl _).app
  have hrn:¬S.length=rn:=by have:=(List.getElem?_eq_some_iff.1 e).1;omega
  generalize S++[Ce.lst ((ps.map ptY).map fun x=> .tup [.ct [.int 1,.int 1],x])]=S1 at en er kn ⊢
  generalize S.length=nn at en hrn ⊢
  refine .inr ⟨_,rfl,zw en,_,by dsimp only;rw [zw en];rfl,?_⟩
  refine Zi (fun i ρ S2=>∃(a4 a5:Option Xv) (es:List Xv),ρ=[some (.ref rn),some (.tup (ms.map Xv.int)),some xq,some (.tup [.str "hand",.tup (ps.map ptY)]),a4,a5]∧S2[rn]? =some (.lst (old++es))∧S2[nn]? =some (Ce.lst ((ps.map ptY).map fun x=> .tup [.ct [.int 1,.int 1],x]))∧yX ms q (yl 0 (ps.take i)) es∧Kp (· =rn) S S2) ?_ ?_ ?_ ?_
  ·rintro i ρ S2 _ ⟨a4,a5,es,rfl,e2,en2,_⟩
   rw [zw en2]
   rfl
  ·rintro i w ρ S2 hw ⟨a4,a5,es,rfl,e2,en2,rx,k2⟩
   obtain ⟨x0,ex,rfl⟩:=Zh hw
   rw [List.getElem?_map,List.getElem?_map] at ex
   cases hpi:ps[i]? with
   |none=>rw [hpi] at ex;cases ex
   |some p=>
    rw [hpi] at ex
    cases ex
    have hmem:=List.mem_of_getElem? hpi
    obtain ⟨eq1,hde⟩:=hp p hmem
    obtain ⟨f1,f2⟩:=Xy hpi
    have rl:=rx.len
    have m1:=zaO hq.pos hq.low
    have ep:ptY p=p.2.1:=by unfold ptY;rw [eq1]
    rw [ep]
    refine .of rfl ?_
    dsimp only [List.set]
    refine zaR hbg hd hdd (h:=h) (p:=p) (q1:=(1,1)) (ih p hmem) (by omega) hx hq hn rfl (VS hd) (by rw [eq1,m1];rfl) (by rw [m1];exact hq) (by rw [m1];exact hn) (by rw [m1];exact Int.dvd_trans (Int.mul_dvd_mul_left _ hde) hdv) e2 (by rw [List.length_append];omega) (by omega) fun S4 es4 e4 rx4 k4=> ?_
    exact ⟨_,_,es++es4,rfl,e4,k4.2 _ _ en2 hrn,by rw [f1];exact rx.app rx4,k2.trans k4⟩
  ·exact ⟨none,none,[],rfl,by rw [List.append_nil];exact er,en,.nil,kn⟩
  ·rintro ρ S2 ⟨a4,a5,es,rfl,e2,en2,rx,k2⟩
   rw [vH,List.length_map,List.length_map,List.take_length] at rx
   exact ⟨es,e2,rx,k2⟩
theorem zaS (hbg:Big fu) (hd:0<dd) (hdd:yp 4000 dd) {h:Nat} {l:List Lf2} (r:Rt h x l dd) (hh:h<110) (hl:l.length<2000):W (xm fu [x] S) fun v S'=>∃n es,v= .ref n∧S.length≤n∧S'[n]? =some (.lst es)∧yX [] (1,1) l es∧Kp (fun _=>False) S S':=by
 walk_at "wr";unfold vX
 walk_at "w"
 refine (zcV hbg hd hdd r 110 (S++[.lst []]) S.length [] [] (1,1) (.ct [.int 1,.int 1]) hh rfl (VS hd) (by decide) (by rw [Int.one_mul];exact Int.dvd_refl _) xM (by simpa using hl) (by simp;omega)).imp ?_
 rintro _ S2 ⟨es,e2,rx,k2⟩
 walk_at "w"
 rw [List.nil_append] at e2
 refine ⟨_,es,rfl,Nat.le_refl _,e2,rx,⟨Nat.le_trans (by simp) k2.1,fun m c e _=>k2.2 m c ((Kp.pre (w:=fun _=>False) (List.prefix_append _ _)).2 m c e id) (fun q=>by have:=(List.getElem?_eq_some_iff.1 e).1;omega)⟩⟩
end
section
variable {fu:Nat} {S S' S2:Sto} {dd:Int} {x y:Xv}
structure It2 where
 ms:List Int
 q:Q2
 x:Xv
 l:List Lf2
 d:Int
 h:Nat
structure WY (dd:Int) (t:It2):Prop where
 ok:QOk dd 1 t.q
 nn:0≤t.q.1
 rn:Rt t.h t.x t.l t.d
 dv:t.q.2*t.d∣dd
 ml:t.ms.length+t.h≤999
noncomputable def itY (t:It2):Xv:= .tup [.tup (t.ms.map Xv.int),qv t.q,t.x]
noncomputable def itR (ts:List It2):List Xv:=ts.flatMap fun t=>t.l.map (vD t.ms t.q)
noncomputable def ZX (ts:List It2):Nat:=(ts.map fun t=>t.l.length).sum
noncomputable def Wl (ts:List It2):Nat:=(ts.map fun t=>t.l.length*(t.h+1)).sum
theorem Zr (a b:List It2):itR (a++b)=itR a++itR b:=by unfold itR;rw [List.flatMap_append]
theorem zaT (a b:List It2):ZX (a++b)=ZX a+ZX b:=by unfold ZX;rw [List.map_append,List.sum_append]
theorem Zs (a b:List It2):Wl (a++b)=Wl a+Wl b:=by unfold Wl;rw [List.map_append,List.sum_append]
theorem Ya (t:It2):itR [t]=t.l.map (vD t.ms t.q):=by simp [itR]
theorem zaU (t:It2):ZX [t]=t.l.length:=by simp [ZX]
theorem YG (t:It2):Wl [t]=t.l.length*(t.h+1):=by simp [Wl]
noncomputable def wm (ms:List Int) (q:Q2) (h:Nat):Nat→List Pt2→List It2
 |_,[]=>[]
 |k,p::r=>⟨ms++[(k:Int)],Wk q p.1,p.2.1,p.2.2.1,p.2.2.2,h⟩::wm ms q h (k+1) r
theorem WZ (ms:List Int) (q:Q2) (h:Nat):∀(a b:List Pt2) (k:Nat),wm ms q h k (a++b)=wm ms q h k a++wm ms q h (k+a.length) b
 |[],b,k=>rfl
 |p::a,b,k=>by
  show _::wm ms q h (k+1) (a++b)=_::(wm ms q h (k+1) a++wm ms q h (k+(a.length+1)) b)
  rw [WZ ms q h a b (k+1),show k+(a.length+1)=k+1+a.length by omega]
theorem Xz {ms:List Int} {q:Q2} {h:Nat} {ps:List Pt2} {i:Nat} {p:Pt2} (e:ps[i]? =some p):wm ms q h 0 (ps.take (i+1))=wm ms q h 0 (ps.take i)++[⟨ms++[(i:Int)],Wk q p.1,p.2.1,p.2.2.1,p.2.2.2,h⟩]:=by
 have hi:=(List.getElem?_eq_some_iff.1 e).1
 rw [vK e,WZ,List.length_take,Nat.min_eq_left (by omega),Nat.zero_add]
 rfl
theorem VT (ms:List Int) (q:Q2) (h:Nat):∀(ps:List Pt2) (k:Nat),itR (wm ms q h k ps)=(yl k ps).map (vD ms q)
 |[],_=>rfl
 |p::r,k=>by
  have ih:=VT ms q h r (k+1)
  show itR ([_]++wm ms q h (k+1) r)=(p.2.2.1.map (ext k p.1)++yl (k+1) r).map (vD ms q)
  rw [Zr,ih,Ya,List.map_append,List.map_map]
  congr 1
  refine List.map_congr_left fun a _=> ?_
  exact zaN.symm
theorem Wm (ms:List Int) (q:Q2) (h:Nat):∀(ps:List Pt2) (k:Nat),ZX (wm ms q h k ps)=(yl k ps).length∧Wl (wm ms q h k ps)=(yl k ps).length*(h+1)∧(wm ms q h k ps).length=ps.length
 |[],_=>⟨rfl,by show (0:Nat)=0*(h+1);omega,rfl⟩
 |p::r,k=>by
  obtain ⟨i1,i2,i3⟩:=Wm ms q h r (k+1)
  show ZX ([_]++wm ms q h (k+1) r)=(p.2.2.1.map (ext k p.1)++yl (k+1) r).length∧Wl ([_]++wm ms q h (k+1) r)=(p.2.2.1.map (ext k p.1)++yl (k+1) r).length*(h+1)∧_
  rw [zaT,Zs,zaU,YG,i1,i2,List.length_append,List.length_map,Nat.add_mul]
  exact ⟨rfl,rfl,by show (wm ms q h (k+1) r).length+1=r.length+1;rw [i3]⟩
theorem Wn {ms:List Int} {q:Q2} {h:Nat}:∀{ps:List Pt2} (k:Nat),(∀p∈ps,QOk dd 1 (Wk q p.1)∧0≤(Wk q p.1).1∧Rt h p.2.1 p.2.2.1 p.2.2.2∧(Wk q p.1).2*p.2.2.2∣dd)→ms.length+1+h≤999→∀t∈wm ms q h k ps,WY dd t
 |[],_,_,_,t,ht=>by cases ht
 |p::r,k,hp,hm,t,ht=>by
  rcases List.mem_cons.1 ht with rfl|ht
  ·obtain ⟨h1,h2,h3,h4⟩:=hp p (List.mem_cons_self ..)
   exact ⟨h1,h2,h3,h4,by show (ms++[(k:Int)]).length+h≤999;simp;omega⟩
  ·exact Wn (k+1) (fun p hq=>hp p (List.mem_cons_of_mem _ hq)) hm t ht
theorem Va:∀{ts:List It2},(∀t∈ts,WY dd t)→ts.length≤ZX ts
 |[],_=>Nat.zero_le _
 |t::r,h=>by
  have h1:=(h t (List.mem_cons_self ..)).rn.one
  have:=Va fun q hq=>h q (List.mem_cons_of_mem _ hq)
  unfold ZX at this ⊢
  rw [List.map_cons,List.sum_cons,List.length_cons]
  omega
noncomputable def zdL (fu:Nat):TwS:=(zF (zS (eMt XS (ze 2) []) (gT 3 (wH (gN 3) (wH (gN 4) (wH (gN 5) WL))))) (sIf (bE (eOp (vc false) (eOp zM (ze 5) (eC (.int 0))) (eC (.str "end")))) (xb (eMt yi (ze 1) [(zT [(ze 3),(ze 4),(eOp zM (ze 5) (eC (.int 1))),(eOp zM (ze 5) (eC (.int 2)))])])) (sIf (bE (eOp (vc false) (eOp zM (ze 5) (eC (.int 0))) (eC (.str "lost")))) (xb (eMt yi (ze 1) [(zT [(ze 3),(ze 4),(eC .non),(eOp zM (ze 5) (eC (.int 1)))])])) (YT (iR1 (eFn wO [(eOp zM (ze 5) (eC (.int 1)))])) (gN 6) (zF (zS (eOp zM (eOp zM (ze 5) (eC (.int 1))) (ze 6)) (gN 7)) (sIf (bE (eOp (vc false) (eOp zM (ze 5) (eC (.int 0))) (eC (.str "draw")))) (xb (eMt yi (ze 2) [(zT [(eOp wC (ze 3) (zT [(ze 6)])),(zD (xx fu) [(eOp wY (eOp zM (ze 4) (eC (.int 0))) (eOp zM (eOp zM (ze 7) (eC (.int 0))) (eC (.int 0)))),(eOp wY (eOp zM (ze 4) (eC (.int 1))) (eOp zM (eOp zM (ze 7) (eC (.int 0))) (eC (.int 1))))]),(eOp zM (ze 7) (eC (.int 1)))])])) (xb (eMt yi (ze 2) [(zT [(eOp wC (ze 3) (zT [(ze 6)])),(ze 4),(ze 7)])]))))))))
theorem Vb {ms:List Int} {i:Nat} (h:ms.length+1≤999):wC (.tup (ms.map Xv.int)) (.tup [.int (i:Int)]) S=some (.tup ((ms++[(i:Int)]).map Xv.int),S):=by
 unfold wC
 rw [List.map_append]
 exact if_pos (Nat.le_of_lt (Uq (by simp;omega)))
theorem Vc (hbg:Big fu) (hd:0<dd) (hdd:yp 4000 dd) {x0:Xv} {sn dn:Nat} {T0:Sto} (hsd:sn≠dn) (hsT:T0.length≤sn) {r:List It2} {ms:List Int} {q:Q2} {h:Nat} {ps:List Pt2} {wd:Str} {es:List Xv} {a6 a7:Option Xv} {N:Rho→Sto→Prop} {R:Xv→Sto→Prop}
  (oq:QOk dd 1 q) (hpl:ps.length≤100) (hw:(wd="draw"∧∀p∈ps,∃q1,p.1=some q1∧Sh q1∧q.2*q1.2∣dd)∨(wd="hand"∧∀p∈ps,p.1=none)) (hml:ms.length+1+h≤999) (hrl:r.length+ps.length<2000) (e:S[sn]? =some (.lst (r.map itY))) (ed:S[dn]? =some (.lst es)) (kT:Kp (fun _=>False) T0 S)
  (k:∀S' a6 a7,S'[sn]? =some (.lst ((r++wm ms q h 0 ps).map itY))→S'[dn]? =some (.lst es)→Kp (fun _=>False) T0 S'→N [some x0,some (.ref dn),some (.ref sn),some (.tup (ms.map Xv.int)),some (qv q),some (.tup [.str wd,.tup (ps.map ptY)]),a6,a7] S'):
  WS (YT (iR1 (eFn wO [(eOp zM (ze 5) (eC (.int 1)))])) (gN 6) (zF (zS (eOp zM (eOp zM (ze 5) (eC (.int 1))) (ze 6)) (gN 7)) (sIf (bE (eOp (vc false) (eOp zM (ze 5) (eC (.int 0))) (eC (.str "draw")))) (xb (eMt yi (ze 2) [(zT [(eOp wC (ze 3) (zT [(ze 6)])),(zD (xx fu) [(eOp wY (eOp zM (ze 4) (eC (.int 0))) (eOp zM (eOp zM (ze 7) (eC (.int 0))) (eC (.int 0)))),(eOp wY (eOp zM (ze 4) (eC (.int 1))) (eOp zM (eOp zM (ze 7) (eC (.int 0))) (eC (.int 1))))]),(eOp zM (ze 7) (eC (.int 1)))])])) (xb (eMt yi (ze 2) [(zT [(eOp wC (ze 3) (zT [(ze 6)])),(ze 4),(ze 7)])])))) [some x0,some (.ref dn),some (.ref sn),some (.tup (ms.map Xv.int)),some (qv q),some (.tup [.str wd,.tup (ps.map ptY)]),a6,a7] S) N R:=by
 refine Yt (vx ?_)
 walk_at "w"
 refine WO.of (show wO [Xv.tup (ps.map ptY)] S=some (.int (ps.map ptY).length,S) from rfl) ?_
 refine ⟨_,rfl,⟨by rw [List.length_map];omega,by rw [List.length_map];omega⟩,_,rfl,?_⟩
 rw [List.length_map,Int.toNat_natCast]
 refine Zi (xs:=xT 0 ps.length) (fun i ρ S3=>∃a6 a7,ρ=[some x0,some (.ref dn),some (.ref sn),some (.tup (ms.map Xv.int)),some (qv q),some (.tup [.str wd,.tup (ps.map ptY)]),a6,a7]∧S3[sn]? =some (.lst ((r++wm ms q h 0 (ps.take i)).map itY))∧S3[dn]? =some (.lst es)∧Kp (fun _=>False) T0 S3) (fun _ _ _ _ _=>rfl) ?_ ?_ ?_
 ·rintro i w ρ S3 hw' ⟨a6,a7,rfl,e3,ed3,k3⟩
  obtain ⟨hi,rfl⟩:=vI hw'
  rw [Int.zero_add]
  have hpi:ps[i]? =some ps[i]:=List.getElem?_eq_getElem hi
  have hmem:=List.mem_of_getElem? hpi
  generalize ps[i]=p at hpi hmem
  have hix:atI (ps.map ptY) (i:Int)=some (ptY p):=zaq (by omega) (by rw [Int.toNat_natCast,List.getElem?_map,hpi];rfl)
  have hlen:((r++wm ms q h 0 (ps.take i)).map itY).length<2000:=by
   rw [List.length_map,List.length_append,(Wm ms q h (ps.take i) 0).2.2,List.length_take]
   omega
  refine .of rfl ?_
  dsimp only [List.set]
  walk_at "w"
  refine yQ rfl hix ?_
  walk_at "w"
  refine zR ?_
  walk_at "w"
  rcases hw with ⟨rfl,hw⟩|⟨rfl,hw⟩
  ·obtain ⟨q1,eq1,hsh,d1⟩:=hw p hmem
   have op1:QOk dd 1 q1:=⟨hsh.pos,Int.dvd_trans ⟨q.2,by rw [Int.mul_comm]⟩ d1,by have:=hsh.nn;have:=hsh.le;omega,hsh.low⟩
   obtain ⟨a1,a2⟩:=oq.bits hd hdd (by decide) (by decide)
   obtain ⟨b1,b2⟩:=op1.bits hd hdd (by decide) (by decide)
   have l1:=a1.le
   have l2:=a2.le
   have l3:=b1.le
   have l4:=b2.le
   have ep:ptY p= .tup [qv q1,p.2.1]:=by unfold ptY;rw [eq1]
   rw [ep]
   refine vJ ⟨_,rfl,fun _=> ?_,(fun z=>by cases z)⟩
   walk_at "w"
   refine vQ ?_
   walk_at "w"
   refine ⟨⟨_,zw e3⟩,?_⟩
   walk_at "w"
   refine WO.of (Vb (by omega)) ?_
   walk_at "w"
   refine yQ rfl Yv ?_
   walk_at "w"
   refine yQ rfl Yv ?_
   refine Zj (by omega) ?_
   walk_at "w"
   refine yQ rfl Yw ?_
   walk_at "w"
   refine yQ rfl Yw ?_
   refine Zj (by omega) ?_
   walk_at "w"
   refine (WX hbg (Int.mul_pos oq.pos hsh.pos) ((a2.mul b2).mono (by decide))).imp ?_
   rintro _ _ ⟨rfl,rfl⟩
   walk_at "w"
   refine xJ (xP e3) (ZG hlen) ?_
   refine ⟨_,_,rfl,?_,vY ed3 hsd,k3.set (.inr hsT)⟩
   rw [wW e3,Xz hpi,←List.append_assoc,List.map_append (l₁:=r++wm ms q h 0 (ps.take i)),eq1]
   rfl
  ·have eq1:=hw p hmem
   have ep:ptY p=p.2.1:=by unfold ptY;rw [eq1]
   rw [ep]
   refine xf (by decide) ⟨_,rfl,(fun z=>by cases z),fun _=> ?_⟩
   walk_at "w"
   refine vQ ?_
   walk_at "w"
   refine ⟨⟨_,zw e3⟩,?_⟩
   walk_at "w"
   refine WO.of (Vb (by omega)) ?_
   walk_at "w"
   refine xJ (xP e3) (ZG hlen) ?_
   refine ⟨_,_,rfl,?_,vY ed3 hsd,k3.set (.inr hsT)⟩
   rw [wW e3,Xz hpi,←List.append_assoc,List.map_append (l₁:=r++wm ms q h 0 (ps.take i)),eq1]
   rfl
 ·exact ⟨a6,a7,rfl,by rw [List.take_zero];show S[sn]? =some (.lst ((r++[]).map itY));rw [List.append_nil];exact e,ed,kT⟩
 ·rintro ρ S3 ⟨a6,a7,rfl,e3,ed3,k3⟩
  have:(xT 0 ps.length).length=ps.length:=yf
  rw [this,List.take_length] at e3
  exact k S3 a6 a7 e3 ed3 k3
theorem zaV (hbg:Big fu) (hd:0<dd) (hdd:yp 4000 dd) {x0:Xv} {sn dn:Nat} {T0:Sto} {tot:List Xv} (hsd:sn≠dn) (hsT:T0.length≤sn) (hdT:T0.length≤dn) (htot:tot.length<999):∀(k:Nat) (ts:List It2) (es:List Xv) (a3 a4 a5 a6 a7:Option Xv) (S:Sto),Wl ts<k→(∀t∈ts,WY dd t)→S[sn]? =some (.lst (ts.map itY))→S[dn]? =some (.lst es)→es++(itR ts).reverse=tot→Kp (fun _=>False) T0 S→
  WS (ZU (bE (eOp dGt (eFn wO [(ze 2)]) (eC (.int 0)))) (zdL fu) k [some x0,some (.ref dn),some (.ref sn),a3,a4,a5,a6,a7] S) (fun ρ S'=>∃a3 a4 a5 a6 a7,ρ=[some x0,some (.ref dn),some (.ref sn),a3,a4,a5,a6,a7]∧S'[dn]? =some (.lst tot)∧Kp (fun _=>False) T0 S') (fun _ _=>False):=by
 intro k
 induction k with
 |zero=>intro ts es a3 a4 a5 a6 a7 S h;omega
 |succ k ih=>
  intro ts es a3 a4 a5 a6 a7 S hk hts e ed htt kT
  refine Wb ?_
  walk_at "w"
  refine zap (zw e) ?_
  walk_at "w"
  rw [List.length_map]
  refine xn (fun hcc=> ?_) (fun hcc=> ?_)
  ·unfold zdL
   have hne:ts≠[]:=fun q=>by rw [q] at hcc;simp at hcc
   obtain ⟨r,t,rfl⟩:∃r t,ts=r++[t]:=⟨ts.dropLast,ts.getLast hne,(List.dropLast_concat_getLast hne).symm⟩
   have ht:=hts t (List.mem_append_right _ (List.mem_singleton.2 rfl))
   have hr:∀t∈r,WY dd t:=fun t h=>hts t (List.mem_append_left _ h)
   rw [Zs,YG] at hk
   have one:=ht.rn.one
   have hel:es.length+(itR r).length+t.l.length=tot.length:=by
    rw [←htt,Zr,Ya,List.length_append,List.length_reverse,List.length_append,List.length_map]
    omega
   have hrl:r.length≤(itR r).length:=by
    have h1:=Va hr
    have h2:(itR r).length=ZX r:=by
     unfold itR ZX
     rw [List.length_flatMap]
     congr 1
     exact List.map_congr_left fun a _=>by rw [List.length_map]
    omega
   refine yo (zcI (vQ ?_))
   walk_at "w"
   refine ⟨⟨_,zw e⟩,?_⟩
   walk_at "w"
   refine WO.of (show XS (.ref sn) [] S = some (itY t, S.set sn (.lst (r.map itY))) by
    unfold XS
    rw [xP e]
    dsimp only
    rw [List.map_append,List.map_cons,List.map_nil,List.length_append,List.length_singleton,Nat.add_sub_cancel,List.getElem?_append_right (Nat.le_refl _),Nat.sub_self,List.dropLast_concat]
    rfl) ?_
   have e2:=wW (c':= .lst (r.map itY)) e
   have ed2:=vY (c':= .lst (r.map itY)) ed hsd
   have k2:Kp (fun _=>False) T0 (S.set sn (.lst (r.map itY))):=kT.set (.inr hsT)
   generalize S.set sn (.lst (r.map itY))=S2 at e2 ed2 k2 ⊢
   refine .of rfl ?_
   dsimp only [List.set]
   obtain ⟨ms,q,tx0,l,d,h⟩:=t
   obtain ⟨oq,nq,rn,dv,hml⟩:=ht
   dsimp only at oq nq rn dv one hk hel hml
   have htt2:es++(l.map (vD ms q)).reverse++(itR r).reverse=tot:=by
    rw [←htt,Zr,Ya,List.reverse_append,List.append_assoc]
   refine zR ?_
   walk_at "w"
   cases rn with
   | @fin h st g _=>
    refine yQ rfl (show atI [Xv.str "end",.tup (st.map Xv.int),.int g] 0=some (.str "end") from rfl) ?_
    walk_at "w"
    refine vJ ⟨_,rfl,fun _=> ?_,(fun z=>by cases z)⟩
    walk_at "w"
    refine vQ ?_
    walk_at "w"
    refine ⟨⟨_,zw ed2⟩,?_⟩
    walk_at "w"
    refine yQ rfl (show atI [Xv.str "end",.tup (st.map Xv.int),.int g] 2=some (.int g) from rfl) ?_
    walk_at "w"
    refine xJ (xP ed2) (ZG (by omega)) ?_
    refine ih r _ _ _ _ _ _ _ (by simp at hk;omega) hr (vY e2 (Ne.symm hsd)) (wW ed2) ?_ (k2.set (.inr hdT))
    rw [←htt2]
    show _=es++[vD ms q _]++_
    unfold vD
    rw [List.append_nil]
    rfl
   | @lost h g=>
    refine yQ rfl (show atI [Xv.str "lost",.int g] 0=some (.str "lost") from rfl) ?_
    walk_at "w"
    refine xf (by decide) ⟨_,rfl,(fun z=>by cases z),fun _=> ?_⟩
    refine zR ?_
    walk_at "w"
    refine vJ ⟨_,rfl,fun _=> ?_,(fun z=>by cases z)⟩
    walk_at "w"
    refine vQ ?_
    walk_at "w"
    refine ⟨⟨_,zw ed2⟩,?_⟩
    walk_at "w"
    refine xJ (xP ed2) (ZG (by omega)) ?_
    refine ih r _ _ _ _ _ _ _ (by simp at hk;omega) hr (vY e2 (Ne.symm hsd)) (wW ed2) ?_ (k2.set (.inr hdT))
    rw [←htt2]
    show _=es++[vD ms q _]++_
    unfold vD
    rw [List.append_nil]
    rfl
   | @draw h s ee ps hne0 hpl hs0 he0 hrn hp=>
    refine yQ rfl (show atI [Xv.str "draw",.tup (ps.map ptY)] 0=some (.str "draw") from rfl) ?_
    walk_at "w"
    refine xf (by decide) ⟨_,rfl,(fun z=>by cases z),fun _=> ?_⟩
    refine zR ?_
    walk_at "w"
    refine xf (by decide) ⟨_,rfl,(fun z=>by cases z),fun _=> ?_⟩
    have kn:=Wm ms q h ps 0
    have d1:∀p∈ps,∃q1,p.1=some q1∧Sh q1∧q.2*q1.2∣dd:=fun p hm=>by
     obtain ⟨q1,e1,hsh,hds,hde⟩:=hp p hm
     exact ⟨q1,e1,hsh,Int.dvd_trans (Int.mul_dvd_mul_left q.2 (Int.dvd_trans hds ⟨ee,rfl⟩)) dv⟩
    refine Vc (r:=r) (ms:=ms) (q:=q) (h:=h) (ps:=ps) hbg hd hdd hsd hsT oq hpl (.inl ⟨rfl,d1⟩) (by omega) (by omega) e2 ed2 k2 fun S3 a6 a7 e3 ed3 k3=> ?_
    refine ih _ es _ _ _ _ _ S3 (by rw [Zs,kn.2.1];rw [Nat.mul_add,Nat.mul_one] at hk;omega) (fun t ht=> ?_) e3 ed3 (by rw [←htt2,Zr,VT,List.reverse_append,List.append_assoc]) k3
    rcases List.mem_append.1 ht with ht|ht
    ·exact hr t ht
    ·refine Wn 0 (fun p hm=> ?_) (by omega) t ht
     obtain ⟨q1,e1,hsh,hds,hde⟩:=hp p hm
     obtain ⟨_,e1',_,dq⟩:=d1 p hm
     rw [e1] at e1'
     cases e1'
     rw [e1]
     refine ⟨zaG oq ⟨hsh.pos,hsh.nn,hsh.le⟩ nq dq,zaH oq.pos hsh.pos nq hsh.nn,hrn p hm,?_⟩
     refine Int.dvd_trans (Int.mul_dvd_mul (Wh (t:=q.1*q1.1) (b:=q.2*q1.2)) hde) (Int.dvd_trans ?_ dv)
     rw [Int.mul_assoc]
     exact Int.mul_dvd_mul_left _ (Int.mul_dvd_mul hds (Int.dvd_refl _))
   | @hand h ee ps hne0 hpl he0 hrn hp=>
    refine yQ rfl (show atI [Xv.str "hand",.tup (ps.map ptY)] 0=some (.str "hand") from rfl) ?_
    walk_at "w"
    refine xf (by decide) ⟨_,rfl,(fun z=>by cases z),fun _=> ?_⟩
    refine zR ?_
    walk_at "w"
    refine xf (by decide) ⟨_,rfl,(fun z=>by cases z),fun _=> ?_⟩
    have kn:=Wm ms q h ps 0
    refine Vc (r:=r) (ms:=ms) (q:=q) (h:=h) (ps:=ps) hbg hd hdd hsd hsT oq hpl (.inr ⟨rfl,fun p hm=>(hp p hm).1⟩) (by omega) (by omega) e2 ed2 k2 fun S3 a6 a7 e3 ed3 k3=> ?_
    refine ih _ es _ _ _ _ _ S3 (by rw [Zs,kn.2.1];rw [Nat.mul_add,Nat.mul_one] at hk;omega) (fun t ht=> ?_) e3 ed3 (by rw [←htt2,Zr,VT,List.reverse_append,List.append_assoc]) k3
    rcases List.mem_append.1 ht with ht|ht
    ·exact hr t ht
    ·refine Wn 0 (fun p hm=> ?_) (by omega) t ht
     obtain ⟨e1,hde⟩:=hp p hm
     rw [e1]
     exact ⟨oq,nq,hrn p hm,Int.dvd_trans (Int.mul_dvd_mul_left _ hde) dv⟩
  ·have:ts=[]:=List.length_eq_zero_iff.1 (by omega)
   subst this
   have htt:es++[]=tot:=htt
   rw [List.append_nil] at htt
   subst htt
   exact ⟨a3,a4,a5,a6,a7,rfl,ed,kT⟩
end
section
variable {fu:Nat} {S S' S2:Sto} {dd:Int} {x y:Xv}
theorem zbC {m:Xv} {r:List Xv}:xQ fu [.tup (m::r)] S=some (.ok m S):=by
 have h:W (xQ fu [.tup (m::r)] S) fun v S'=>v=m∧S=S':=by
  walk_at "wr";unfold wK
  walk_at "w"
  exact ⟨rfl,rfl⟩
 obtain ⟨_,_,e,rfl,rfl⟩:=h
 exact e
theorem zbD {l:List Lf2} (h:zaK l) (hn:2≤l.length→∀p∈l,p.ms≠[]):ZM (l.map (·.ms)).reverse:=by
 refine ⟨fun h2 m hm=> ?_,fun i j hij hj=> ?_⟩
 ·rw [List.mem_reverse] at hm
  obtain ⟨p,hp,rfl⟩:=List.mem_map.1 hm
  exact hn (by simpa using h2) p hp
 ·rw [List.length_reverse,List.length_map] at hj
  have hp:=List.pairwise_iff_getElem.1 h
  have e:∀i,i<l.length→∃(hi:l.length-1-i<l.length),(l.map (·.ms)).reverse.getD i []=l[l.length-1-i].ms:=fun i hi=>⟨by omega,by
   rw [List.getD_eq_getElem?_getD,List.getElem?_reverse (by simpa using hi),List.getElem?_map,List.length_map,List.getElem?_eq_getElem (by omega)]
   rfl⟩
  obtain ⟨h1,e1⟩:=e i (by omega)
  obtain ⟨h2,e2⟩:=e j hj
  rw [e1,e2]
  exact hp _ _ h2 h1 (by omega)
theorem zdM (hbg:Big fu) (hd:0<dd) (hdd:yp 4000 dd) {h:Nat} {l:List Lf2} (r:Rt h x l dd) (hh:h<110) (hl:l.length<999):W (xS fu [x] S) fun v S'=>∃n,v= .ref n∧S.length≤n∧S'[n]? =some (.lst (l.map (vD [] (1,1))))∧Kp (fun _=>False) S S':=by
 walk_at "wr";unfold vC
 walk_at "w"
 refine zao ?_
 have t0:WY dd ⟨[],(1,1),x,l,dd,h⟩:=⟨VS hd,(show (0:Int)≤1 by decide),r,by show (1:Int)*dd∣dd;rw [Int.one_mul];exact Int.dvd_refl _,by show 0+h≤999;omega⟩
 have e1:((S++[Ce.lst []])++[Ce.lst [.tup [.tup [],.tup [.int 1,.int 1],x]]])[S.length]? =some (.lst []):=(Kp.pre (w:=fun _=>False) (List.prefix_append _ _)).2 _ _ xM id
 have e2:((S++[Ce.lst []])++[Ce.lst [.tup [.tup [],.tup [.int 1,.int 1],x]]])[S.length+1]? =some (.lst ([(⟨[],(1,1),x,l,dd,h⟩:It2)].map itY)):=by
  have:=xM (S:=S++[Ce.lst []]) (c:=Ce.lst [.tup [.tup [],.tup [.int 1,.int 1],x]])
  rw [List.length_append,List.length_singleton] at this
  exact this
 have hb:l.length*(h+1)≤999*110:=Nat.mul_le_mul (by omega) (by omega)
 have hfu:=hbg.le
 have key:=zaV (fu:=fu) (x0:=x) (sn:=S.length+1) (dn:=S.length) (T0:=S) (tot:=(l.map (vD [] (1,1))).reverse) hbg hd hdd (by omega) (by omega) (Nat.le_refl _) (by simpa using hl) fu [⟨[],(1,1),x,l,dd,h⟩] [] none none none none none _ (by rw [YG];show l.length*(h+1)<fu;omega) (fun t ht=>by rw [List.mem_singleton] at ht;subst ht;exact t0) e2 e1 (by rw [Ya];rfl) ((Kp.pre (List.prefix_append _ _)).trans (Kp.pre (List.prefix_append _ _)))
 rw [List.length_append,List.length_singleton]
 rcases key with ⟨ρ,S2,ee,a3,a4,a5,a6,a7,rfl,ed,k2⟩|⟨_,_,_,z⟩
 rotate_left
 ·exact z.elim
 refine .nx ee ?_
 refine vW (zaz ?_)
 walk_at "w"
 have ris:=r.ris
 refine ⟨_,_,(l.map (·.ms)).reverse,rfl,zw ed,⟨by simp,fun i e he=> ?_,zbD ris.1 ris.2⟩,?_⟩
 ·have hi:i<l.length:=by
   have:=(List.getElem?_eq_some_iff.1 he).1
   simpa using this
  rw [List.getElem?_reverse (by simpa using hi),List.getElem?_map,List.length_map,List.getElem?_eq_getElem (by omega)] at he
  cases he
  refine ⟨_,zbC,?_⟩
  rw [List.getD_eq_getElem?_getD,List.getElem?_reverse (by simpa using hi),List.getElem?_map,List.length_map,List.getElem?_eq_getElem (by omega),List.nil_append]
  rfl
 ·rw [List.reverse_reverse]
  exact ⟨_,rfl,k2.1,xM,k2.app⟩
theorem Vd {n:Nat} {l:List Int} (h:l.length≤999):SmX S (n+1) (.tup (l.map Xv.int)) (.tup (l.map Xv.int)):=by
 refine .tup rfl rfl rfl (by simpa using h) fun i a b ha hb=> ?_
 rw [ha] at hb
 cases hb
 rw [List.getElem?_map] at ha
 cases e:l[i]? with
 |none=>rw [e] at ha;cases ha
 |some k=>rw [e] at ha;cases ha;exact .int k
theorem zdN {n:Nat} {q:Q2} (hx:QX x q) (hy:QX y q):SmX S (n+1) x y:=by
 refine .tup hx hy rfl (show (2:Nat)≤999 by decide) fun i a b ha hb=> ?_
 rw [ha] at hb
 cases hb
 match i,ha with
 |0,ha=>cases ha;exact .int _
 |1,ha=>cases ha;exact .int _
 |i+2,ha=>cases ha
theorem zbE {n:Nat} {ms:List Int} {q:Q2} {r:Lf2} (hr:(ms++r.ms).length≤999) (hg:∃g,r.g= .int g) (ho:r.o= .non∨∃st:List Int,r.o= .tup (st.map Xv.int)∧st.length≤100) (hx:zcU ms q r x):SmX S (n+2) x (vD ms q r):=by
 obtain ⟨sh,rfl,hs⟩:=hx
 refine .tup rfl rfl rfl (show (4:Nat)≤999 by decide) fun i a b ha hb=> ?_
 match i,ha,hb with
 |0,ha,hb=>cases ha;cases hb;exact Vd hr
 |1,ha,hb=>cases ha;cases hb;exact zdN hs (QX.qv _)
 |2,ha,hb=>
  cases ha;cases hb
  rcases ho with e|⟨st,e,hl⟩
  ·rw [e];exact .non
  ·rw [e];exact Vd (by omega)
 |3,ha,hb=>
  cases ha;cases hb
  obtain ⟨g,e⟩:=hg
  rw [e]
  exact .int g
 |i+4,ha,_=>cases ha
theorem zaW {n:Nat} {l:List Lf2} {es:List Xv} {a b:Nat} (ha:S[a]? =some (.lst es)) (hb:S[b]? =some (.lst (l.map (vD [] (1,1))))) (rx:yX [] (1,1) l es) (hl:l.length≤999) (hok:∀p∈l,p.ms.length≤110∧(∃g,p.g= .int g)∧(p.o= .non∨∃st:List Int,p.o= .tup (st.map Xv.int)∧st.length≤100)):SmX S (n+3) (.ref a) (.ref b):=by
 have rl:=rx.len
 refine .lst ha hb (by rw [List.length_map,rl]) (by omega) fun i u v hu hv=> ?_
 obtain ⟨r,hr,hp⟩:=rx.at hu
 rw [List.getElem?_map,hr] at hv
 cases hv
 obtain ⟨h1,h2,h3⟩:=hok r (List.mem_of_getElem? hr)
 exact zbE (by rw [List.nil_append];omega) h2 h3 hp
end
section
variable {fu:Nat} {S S' S2:Sto} {dd:Int} {x y:Xv} {ln:Nat}
theorem Zt {P:Xv→Sto→Prop} {n:Nat} {l:List Xv} (h:S[n]? =some (.lst l)) (k:P (.tup l) S):WO (wJ [.ref n] S) P:= .of (by unfold wJ;dsimp only;rw [zw h];rfl) k
structure Gr2 (ln h:Nat) (S:Sto) (v:Xv) (S':Sto) (l:List Lf2) (d:Int) (bt lt:Nat):Prop where
 rt:Rt h v l d
 lf:∃k,yJ ln k S'
 kp:Kp (· =ln) S S'
 d0:0<d
 db:yp bt d
 ll:l.length≤lt
theorem zaX:yp 1 1:=by unfold yp;decide
theorem VU {k many:Nat} (hl:yJ ln k S) (hm:many≤4):W (xX fu [.ref ln,.int (many:Int)] S) fun v S'=>∃l,Gr2 ln 0 S v S' l 1 1 1:=by
 walk_at "wr";unfold wV
 walk_at "w"
 refine (yK hl (by decide)).imp ?_
 rintro _ S1 ⟨c,k1,rfl,_,_,l1,hk1,_,q1⟩
 walk_at "w"
 refine Zz (fun ρ S2=>∃(g:Int) (k2:Nat),ρ=[some (.ref ln),some (.int (many:Int)),some (.int g)]∧yJ ln k2 S2∧Kp (· =ln) S S2) (zR ?_) ?_
 ·walk_at "w"
  refine xn (fun h=> ?_) (fun h=>zX ⟨c,k1,rfl,l1,q1⟩)
  walk_at "w"
  refine (yK l1 (by decide)).imp ?_
  rintro _ S2 ⟨c2,k2,rfl,_,_,l2,hk2,_,q2⟩
  exact ⟨c2,k2,rfl,l2,q1.trans q2⟩
 rintro _ S2 ⟨g,k2,rfl,l2,q2⟩
 refine yo (zR ?_)
 walk_at "w"
 refine (yK l2 (by decide)).imp ?_
 rintro _ S3 ⟨c3,k3,rfl,_,_,l3,hk3,hk3',q3⟩
 walk_at "w"
 refine xn (fun h=> ?_) (fun h=>zX ?_)
 ·walk_at "w"
  exact ⟨_,.lost,⟨k3,l3⟩,q2.trans q3,by decide,zaX,Nat.le_refl _⟩
 ·walk_at "w"
  refine wD (vx ?_)
  walk_at "w"
  refine ⟨⟨by omega,by omega⟩,_,rfl,?_⟩
  refine xR (by rw [yf];exact Nat.le_of_lt (YD (by omega))) (fun i es S4=>∃(st:List Int) (k4:Nat),es=st.map Xv.int∧yJ ln k4 S4∧Kp (· =ln) S3 S4) (fun _ _ _ _ _=>rfl) ?_ ⟨[],k3,rfl,l3,Kp.refl _⟩ ?_
  ·rintro i w es S4 hw hel ⟨st,k4,rfl,l4,q4⟩
   refine .of rfl ?_
   dsimp only [vT,List.map,List.set]
   walk_at "w"
   refine ⟨rfl,?_⟩
   walk_at "w"
   refine (yK l4 (by decide)).imp ?_
   rintro _ S5 ⟨c5,k5,rfl,_,_,l5,hk5,_,q5⟩
   exact ⟨st++[c5],k5,by simp,l5,q4.trans q5⟩
  ·rintro es S4 hlen ⟨st,k4,rfl,l4,q4⟩
   rw [List.length_map,yf,Int.toNat_natCast] at hlen
   walk_at "w"
   refine Zt xM ?_
   walk_at "w"
   exact ⟨_,.fin (by omega),⟨k4,l4.app⟩,((q2.trans q3).trans q4).app,by decide,zaX,Nat.le_refl _⟩
noncomputable def Dn:Nat→Nat
 |0=>1
 |n+1=>35+9*Dn n
noncomputable def Ln:Nat→Nat
 |0=>1
 |n+1=>9*Ln n
theorem zaY:∀n,1≤Ln n
 |0=>Nat.le_refl _
 |n+1=>by have:=zaY n;show 1≤9*Ln n;omega
theorem zcW:∀n,1≤Dn n
 |0=>Nat.le_refl _
 |n+1=>by show 1≤35+9*Dn n;omega
noncomputable def prE:List Pt2→Int
 |[]=>1
 |p::r=>p.2.2.2*prE r
theorem Uv (a:List Pt2) (p:Pt2):prE (a++[p])=prE a*p.2.2.2:=by
 induction a with
 |nil=>show p.2.2.2*1=1*p.2.2.2;rw [Int.mul_one,Int.one_mul]
 |cons q r ih=>
  show q.2.2.2*prE (r++[p])=q.2.2.2*prE r*p.2.2.2
  rw [ih,Int.mul_assoc]
theorem Wo:∀{a:List Pt2} {p:Pt2},p∈a→p.2.2.2∣prE a
 |q::r,p,h=>by
  rcases List.mem_cons.1 h with rfl|h
  ·exact ⟨prE r,rfl⟩
  ·exact Int.dvd_trans (Wo h) ⟨q.2.2.2,by show q.2.2.2*prE r=_;rw [Int.mul_comm]⟩
structure Pts (n:Nat) (ps:List Pt2) (P:Option Q2→Prop):Prop where
 rt:∀p∈ps,Rt n p.2.1 p.2.2.1 p.2.2.2
 pp:∀p∈ps,P p.1
 d0:0<prE ps
 db:yp (1+ps.length*Dn n) (prE ps)
 ll:(yl 0 ps).length≤ps.length*Ln n
theorem Pts.nil {n:Nat} {P:Option Q2→Prop}:Pts n [] P:=⟨(fun p hp=>by cases hp),(fun p hp=>by cases hp),by decide,by show yp (1+0*Dn n) 1;rw [Nat.zero_mul];exact zaX,by simp [yl]⟩
theorem Pts.snoc {n:Nat} {ps:List Pt2} {P:Option Q2→Prop} (h:Pts n ps P) {v:Xv} {l:List Lf2} {d:Int} {o:Option Q2} (g:Gr2 ln n S v S' l d (Dn n) (Ln n)) (ho:P o):Pts n (ps++[(o,v,l,d)]) P:=by
 have hk:yl 0 (ps++[((o,v,l,d):Pt2)])=yl 0 ps++l.map (ext ps.length o):=by
  rw [Zq,Nat.zero_add]
  show _++(l.map (ext ps.length o)++[])=_
  rw [List.append_nil]
 refine ⟨fun p hp=> ?_,fun p hp=> ?_,?_,?_,?_⟩
 ·rcases List.mem_append.1 hp with hp|hp
  ·exact h.rt p hp
  ·rw [List.mem_singleton.1 hp];exact g.rt
 ·rcases List.mem_append.1 hp with hp|hp
  ·exact h.pp p hp
  ·rw [List.mem_singleton.1 hp];exact ho
 ·rw [Uv]
  exact Int.mul_pos h.d0 g.d0
 ·rw [Uv,List.length_append,List.length_singleton]
  refine (h.db.mul g.db).mono ?_
  rw [Nat.add_mul,Nat.one_mul]
  omega
 ·rw [hk,List.length_append,List.length_append,List.length_singleton,List.length_map,Nat.add_mul,Nat.one_mul]
  have:=h.ll
  have:=g.ll
  omega
theorem zbF (ps:List Pt2) (h:∀p∈ps,p.1=none):ps.map ptY=ps.map (·.2.1):=List.map_congr_left fun p hp=>by unfold ptY;rw [h p hp]
theorem zcX (hbg:Big fu) {many:Nat} (hm:many≤4):∀(n m k:Nat) (S:Sto),n<m→n≤3→yJ ln k S→W (zO fu m [.ref ln,.int (many:Int),.int (n:Int),.bl true] S) fun v S'=>∃l d,Gr2 ln n S v S' l d (Dn n) (Ln n):=by
 intro n
 induction n with
 |zero=>
  intro m k S hnm h3 hl
  obtain ⟨m,rfl⟩:∃q,m=q+1:=⟨m-1,by omega⟩
  rw [xC]
  walk_at "wr";unfold xB
  walk_at "w"
  refine (yK hl (by decide)).imp ?_
  rintro _ S1 ⟨c,k1,rfl,c0,c1,l1,hk1,_,q1⟩
  walk_at "w"
  refine zR (Xu ?_)
  walk_at "w"
  refine ⟨fun _=>⟨fun _=> ?_,(fun z=>by cases z)⟩,fun z=>absurd z (by decide)⟩
  walk_at "w"
  refine (VU l1 hm).imp ?_
  rintro v S2 ⟨l,g⟩
  exact ⟨l,1,g.rt,g.lf,q1.trans g.kp,g.d0,g.db,g.ll⟩
 |succ n ih=>
  intro m k S hnm h3 hl
  obtain ⟨m,rfl⟩:∃q,m=q+1:=⟨m-1,by omega⟩
  rw [xC]
  walk_at "wr";unfold xB
  walk_at "w"
  refine (yK hl (by decide)).imp ?_
  rintro _ S1 ⟨way,k1,rfl,c0,c1,l1,hk1,_,q1⟩
  walk_at "w"
  refine zR (Xu ?_)
  walk_at "w"
  refine xn (fun h=>by omega) (fun _=> ?_)
  walk_at "w"
  refine xn (fun hw=> ?_) (fun hw=>zX ?_)
  ·walk_at "w"
   refine (VU l1 hm).imp ?_
   rintro v S2 ⟨l,g⟩
   exact ⟨l,1,g.rt.up (by omega),g.lf,q1.trans g.kp,g.d0,g.db.mono (zcW _),Nat.le_trans g.ll (zaY _)⟩
  have draw:WS ((zF (zS (eOp ZV (eC (.int 1)) (zD (zv fu) [(ze 0),(eC (.int 9))])) (gN 5)) (zF (sIf (bE (eOp dGt (ze 2) (eC (.int 1)))) (zS (eOp ZV (eC (.int 1)) (eOp vU (ze 5) (eC (.int 4)))) (gN 5)) yO) (zF (zS (Yo []) (gN 6)) (zF (YT (iL (zD (yU fu) [(ze 0),(ze 5)])) (gN 7) (xb (eMt yi (ze 6) [(zT [(ze 7),(zD (zO fu m) [(ze 0),(ze 1),(eOp VF (ze 2) (eC (.int 1))),(ze 3)])])]))) (xc (zT [(eC (.str "draw")),(eFn wJ [(ze 6)])]))))))
    [some (.ref ln),some (.int (many:Int)),some (.int ((n+1:Nat):Int)),some (.bl true),some (.int way),none,none,none] S1) (fun _ _=>False) (fun v S'=>∃l d,Gr2 ln (n+1) S v S' l d (Dn (n+1)) (Ln (n+1))):=by
   walk_at "w"
   refine (yK l1 (by decide)).imp ?_
   rintro _ S2 ⟨c2,k2,rfl,c20,c21,l2,hk2,_,q2⟩
   walk_at "w"
   refine Zz (fun ρ S3=>S2=S3∧∃z:Nat,1≤z∧z≤9∧ρ=[some (.ref ln),some (.int (many:Int)),some (.int ((n+1:Nat):Int)),some (.bl true),some (.int way),some (.int (z:Int)),none,none]) (zR ?_) ?_
   ·walk_at "w"
    refine xn (fun h=> ?_) (fun h=>zX ⟨rfl,(1+c2).toNat,by omega,by omega,by rw [Int.toNat_of_nonneg (by omega)]⟩)
    walk_at "w"
    refine vy (by decide) ?_
    walk_at "w"
    have h0:=Int.emod_nonneg (1+c2) (show (4:Int)≠0 by decide)
    have h1:=Int.emod_lt_of_pos (1+c2) (show (0:Int)<4 by decide)
    exact ⟨rfl,(1+(1+c2) % 4).toNat,by omega,by omega,by rw [Int.toNat_of_nonneg (by omega)]⟩
   rintro _ _ ⟨rfl,z,hz1,hz9,rfl⟩
   walk_at "w"
   refine Yt (zb1 ?_)
   walk_at "w"
   refine (zaJ hbg l2.app hz9 hz1).imp ?_
   rintro _ S4 ⟨sm,qs,s,k4,rfl,hsm,e4,hql,hs0,hs1,hqs,l4,hk4,q4⟩
   have hnl:¬S2.length=ln:=by have:=l2.lt;omega
   have hsl:¬sm=ln:=by have:=l2.lt;simp at hsm;omega
   have e5:=q4.2 _ _ xM hnl
   have k24:Kp (· =ln) S S4:=q1.trans (q2.trans ((Kp.pre (List.prefix_append _ _)).trans q4))
   have hS2:=(q1.trans q2).1
   refine ⟨_,zw e4,_,zw e4,?_⟩
   refine Zi (xs:=qs.map qv) (fun i ρ S5=>∃(a7:Option Xv) (ps:List Pt2) (k5:Nat),ρ=[some (.ref ln),some (.int (many:Int)),some (.int ((n+1:Nat):Int)),some (.bl true),some (.int way),some (.int (z:Int)),some (.ref S2.length),a7]∧ps.length=i∧Pts n ps (fun o=>∃q,o=some q∧Sh q∧q.2∣s)∧S5[S2.length]? =some (.lst (ps.map ptY))∧S5[sm]? =some (.lst (qs.map qv))∧yJ ln k5 S5∧Kp (· =ln) S S5) ?_ ?_ ?_ ?_
   ·rintro i ρ S5 _ ⟨a7,ps,k5,rfl,_,_,_,es,_⟩
    exact zw es
   ·rintro i w ρ S5 hw ⟨a7,ps,k5,rfl,hpl,hps,e5',es5,l5,k5'⟩
    rw [List.getElem?_map] at hw
    cases hqi:qs[i]? with
    |none=>rw [hqi] at hw;cases hw
    |some q=>
     rw [hqi] at hw
     cases hw
     have hi:i<qs.length:=(List.getElem?_eq_some_iff.1 hqi).1
     have hq:=hqs q (List.mem_of_getElem? hqi)
     refine .of rfl ?_
     dsimp only [List.set]
     walk_at "w"
     refine vQ ?_
     walk_at "w"
     refine ⟨⟨_,zw e5'⟩,?_⟩
     walk_at "w"
     rw [show (((n+1:Nat):Int)-1)=(n:Int) by omega]
     refine (ih m k5 S5 (by omega) (by omega) l5).imp ?_
     rintro v S6 ⟨l,d,g⟩
     walk_at "w"
     have e6:=g.kp.2 _ _ e5' hnl
     have es6:=g.kp.2 _ _ es5 hsl
     have hne:S2.length≠sm:=by simp at hsm;omega
     refine xJ (xP e6) (YD (by rw [List.length_map];omega)) ?_
     obtain ⟨k6,l6⟩:=g.lf
     refine ⟨_,ps++[(some q,v,l,d)],k6,rfl,by simp [hpl],hps.snoc g ⟨q,rfl,hq.1,hq.2⟩,?_,vY es6 hne,?_,(k5'.trans g.kp).set (.inr hS2)⟩
     ·rw [wW e6,List.map_append];rfl
     ·obtain ⟨ns,h1,h2⟩:=l6
      exact ⟨ns,h1,vY h2 hnl⟩
   ·exact ⟨none,[],k4,rfl,rfl,Pts.nil,e5,e4,l4,k24⟩
   ·rintro ρ S5 ⟨a7,ps,k5,rfl,hpl,hps,e5',es5,l5,k5'⟩
    rw [List.length_map,hql] at hpl
    walk_at "w"
    refine Zt e5' ?_
    walk_at "w"
    have bs:yp 34 s:=by
     unfold yp
     have:(2:Nat)^34=17179869184:=by decide
     omega
    have hzn:z*Dn n≤9*Dn n:=Nat.mul_le_mul_right _ hz9
    have hzl:z*Ln n≤9*Ln n:=Nat.mul_le_mul_right _ hz9
    have b1:=hps.db
    have b2:=hps.ll
    rw [hpl] at b1 b2
    refine ⟨yl 0 ps,s*prE ps,Rt.draw ps (fun e=>by rw [e] at hpl;simp at hpl;omega) (by omega) hs0 hps.d0 hps.rt (fun p hp=> ?_),⟨k5,l5⟩,k5',Int.mul_pos hs0 hps.d0,(bs.mul b1).mono (by show 34+(1+z*Dn n)≤35+9*Dn n;omega),by show _≤9*Ln n;omega⟩
    obtain ⟨q,e,h1,h2⟩:=hps.pp p hp
    exact ⟨q,e,h1,h2,Wo hp⟩
  have draw:∀{N:Rho→Sto→Prop},WS ((zF (zS (eOp ZV (eC (.int 1)) (zD (zv fu) [(ze 0),(eC (.int 9))])) (gN 5)) (zF (sIf (bE (eOp dGt (ze 2) (eC (.int 1)))) (zS (eOp ZV (eC (.int 1)) (eOp vU (ze 5) (eC (.int 4)))) (gN 5)) yO) (zF (zS (Yo []) (gN 6)) (zF (YT (iL (zD (yU fu) [(ze 0),(ze 5)])) (gN 7) (xb (eMt yi (ze 6) [(zT [(ze 7),(zD (zO fu m) [(ze 0),(ze 1),(eOp VF (ze 2) (eC (.int 1))),(ze 3)])])]))) (xc (zT [(eC (.str "draw")),(eFn wJ [(ze 6)])]))))))
    [some (.ref ln),some (.int (many:Int)),some (.int ((n+1:Nat):Int)),some (.bl true),some (.int way),none,none,none] S1) N (fun v S'=>∃l d,Gr2 ln (n+1) S v S' l d (Dn (n+1)) (Ln (n+1))):=by
   intro N
   rcases draw with ⟨_,_,_,z⟩|h
   ·exact z.elim
   ·exact .inr h
  refine yo (zR (zaj ?_))
  walk_at "w"
  refine xn (fun hw1=> ?_) (fun hw1=>⟨(fun z=>by cases z),fun _=>zX draw⟩)
  walk_at "w"
  refine ⟨fun _=> ?_,(fun z=>by cases z)⟩
  walk_at "w"
  refine (yK l1 (by decide)).imp ?_
  rintro _ S2 ⟨c2,k2,rfl,c20,c21,l2,hk2,_,q2⟩
  walk_at "w"
  refine Zz (fun ρ S3=>S2=S3∧∃z:Nat,2≤z∧z≤8∧ρ=[some (.ref ln),some (.int (many:Int)),some (.int ((n+1:Nat):Int)),some (.bl true),some (.int way),some (.int (z:Int)),none,none]) (zR ?_) ?_
  ·walk_at "w"
   refine xn (fun h=> ?_) (fun h=>zX ⟨rfl,(2+c2).toNat,by omega,by omega,by rw [Int.toNat_of_nonneg (by omega)]⟩)
   walk_at "w"
   refine vy (by decide) ?_
   walk_at "w"
   have h0:=Int.emod_nonneg (2+c2) (show (3:Int)≠0 by decide)
   have h1:=Int.emod_lt_of_pos (2+c2) (show (0:Int)<3 by decide)
   exact ⟨rfl,(2+(2+c2) % 3).toNat,by omega,by omega,by rw [Int.toNat_of_nonneg (by omega)]⟩
  rintro _ _ ⟨rfl,z,hz2,hz8,rfl⟩
  walk_at "w"
  refine wD (vx ?_)
  walk_at "w"
  refine ⟨⟨by omega,by omega⟩,_,rfl,?_⟩
  refine xR (by rw [yf];exact Nat.le_of_lt (YD (by omega))) (fun i es S5=>∃(ps:List Pt2) (k5:Nat),es=ps.map (·.2.1)∧ps.length=i∧Pts n ps (fun o=>o=none)∧yJ ln k5 S5∧Kp (· =ln) S S5) (fun _ _ _ _ _=>rfl) ?_ ⟨[],k2,rfl,rfl,Pts.nil,l2,q1.trans q2⟩ ?_
  ·rintro i w es S5 hw hel ⟨ps,k5,rfl,hpl,hps,l5,k5'⟩
   refine .of rfl ?_
   dsimp only [vT,List.map,List.set]
   walk_at "w"
   refine ⟨rfl,?_⟩
   walk_at "w"
   rw [show (((n+1:Nat):Int)-1)=(n:Int) by omega]
   refine (ih m k5 S5 (by omega) (by omega) l5).imp ?_
   rintro v S6 ⟨l,d,g⟩
   obtain ⟨k6,l6⟩:=g.lf
   exact ⟨ps++[(none,v,l,d)],k6,by rw [List.map_append];rfl,by simp [hpl],hps.snoc g rfl,l6,k5'.trans g.kp⟩
  ·rintro es S5 _ ⟨ps,k5,rfl,hpl,hps,l5,k5'⟩
   rw [yf,Int.toNat_natCast] at hpl
   walk_at "w"
   refine Zt xM ?_
   walk_at "w"
   have hzn:z*Dn n≤9*Dn n:=Nat.mul_le_mul_right _ (by omega)
   have hzl:z*Ln n≤9*Ln n:=Nat.mul_le_mul_right _ (by omega)
   have b1:=hps.db
   have b2:=hps.ll
   rw [hpl] at b1 b2
   have rt:=Rt.hand (h:=n) ps (fun e=>by rw [e] at hpl;simp at hpl;omega) (by omega) hps.d0 hps.rt fun p hp=>⟨hps.pp p hp,Wo hp⟩
   rw [zbF ps hps.pp] at rt
   exact ⟨yl 0 ps,prE ps,rt,⟨k5,l5.app⟩,k5'.app,hps.d0,b1.mono (by show 1+z*Dn n≤35+9*Dn n;omega),by show _≤9*Ln n;omega⟩
end
section
variable {fu:Nat} {S S' S2:Sto} {dd:Int} {x y:Xv} {ln:Nat}
noncomputable def va (i:Nat) (t:Xv):Prop:=∃l d,Rt (1+i) t l d∧0<d∧yp (44+2*i) d∧l.length≤9+i
noncomputable def zdO (b:Xv):Prop:=∃r,∀h,Rt h b [r] 1
theorem zaZ {p q:Int} (h:0<q∧0<p∧p≤q∧Int.gcd p q=1):Sh (p,q):=⟨h.1,Int.le_of_lt h.2.1,h.2.2.1,h.2.2.2,Ut h.1 h.2.1⟩
theorem zdP:yp 2 3:=by unfold yp;decide
theorem Ve {P:Pt2→Prop} {a b:Pt2} (ha:P a) (hb:P b):∀p∈[a,b],P p:=fun p hp=>by
 rcases List.mem_cons.1 hp with rfl|hp
 ·exact ha
 ·rw [List.mem_singleton.1 hp];exact hb
theorem va.one {i:Nat} {t:Xv} (a:va i t):va (i+1) (.tup [.str "draw",.tup [.tup [qv (1,1),t]]]):=by
 obtain ⟨l,d,r,d0,db,ll⟩:=a
 refine ⟨yl 0 [(some (1,1),t,l,d)],1*d,Rt.draw (h:=1+i) [(some (1,1),t,l,d)] (by simp) (by simp) (by decide) d0 (fun p hp=> ?_) (fun p hp=> ?_),by omega,?_,?_⟩
 ·rw [List.mem_singleton.1 hp];exact r
 ·rw [List.mem_singleton.1 hp];exact ⟨_,rfl,zaZ (by decide),Int.one_dvd _,Int.dvd_refl _⟩
 ·rw [Int.one_mul];exact db.mono (by omega)
 ·simp [yl];omega
theorem va.two {i:Nat} {t b:Xv} (a:va i t) (hb:zdO b):va (i+1) (.tup [.str "draw",.tup [.tup [qv (1,3),t],.tup [qv (2,3),b]]])∧va (i+1) (.tup [.str "draw",.tup [.tup [qv (2,3),b],.tup [qv (1,3),t]]])∧va (i+1) (.tup [.str "hand",.tup [t,b]])∧va (i+1) (.tup [.str "hand",.tup [b,t]]):=by
 obtain ⟨l,d,r,d0,db,ll⟩:=a
 obtain ⟨lb,rb⟩:=hb
 have rb:=rb (1+i)
 have hbits:yp (44+2*(i+1)) (3*d):=(zdP.mul db).mono (by omega)
 have s1:Sh (1,3):=zaZ (by decide)
 have s2:Sh (2,3):=zaZ (by decide)
 have d3:(3:Int)∣3:=Int.dvd_refl _
 refine ⟨?_,?_,?_,?_⟩
 ·exact ⟨yl 0 [(some (1,3),t,l,d),(some (2,3),b,[lb],1)],3*d,Rt.draw (h:=1+i) [(some (1,3),t,l,d),(some (2,3),b,[lb],1)] (by simp) (by simp) (by decide) d0 (Ve r rb) (Ve ⟨_,rfl,s1,d3,Int.dvd_refl _⟩ ⟨_,rfl,s2,d3,Int.one_dvd _⟩),by omega,hbits,by simp [yl];omega⟩
 ·exact ⟨yl 0 [(some (2,3),b,[lb],1),(some (1,3),t,l,d)],3*d,Rt.draw (h:=1+i) [(some (2,3),b,[lb],1),(some (1,3),t,l,d)] (by simp) (by simp) (by decide) d0 (Ve rb r) (Ve ⟨_,rfl,s2,d3,Int.one_dvd _⟩ ⟨_,rfl,s1,d3,Int.dvd_refl _⟩),by omega,hbits,by simp [yl];omega⟩
 ·exact ⟨yl 0 [(none,t,l,d),(none,b,[lb],1)],d,Rt.hand (h:=1+i) [(none,t,l,d),(none,b,[lb],1)] (by simp) (by simp) d0 (Ve r rb) (Ve ⟨rfl,Int.dvd_refl _⟩ ⟨rfl,Int.one_dvd _⟩),d0,db.mono (by omega),by simp [yl];omega⟩
 ·exact ⟨yl 0 [(none,b,[lb],1),(none,t,l,d)],d,Rt.hand (h:=1+i) [(none,b,[lb],1),(none,t,l,d)] (by simp) (by simp) d0 (Ve rb r) (Ve ⟨rfl,Int.one_dvd _⟩ ⟨rfl,Int.dvd_refl _⟩),d0,db.mono (by omega),by simp [yl];omega⟩
theorem za0 {k many:Nat} (hm:many≤4) (hl:yJ ln k S) (h0:va 0 x):
  W (wk fu [.ref ln,x,.int (many:Int),.bl true] S) fun v S'=>∃i,i≤90∧va i v:=by
 walk_at "wr";unfold wj
 refine yo (Yt (vx ?_))
 walk_at "w"
 refine (yK hl (by decide)).imp ?_
 rintro _ S1 ⟨n,k1,rfl,n0,n1,l1,hk1,_,q1⟩
 refine ⟨_,rfl,⟨by omega,by omega⟩,_,rfl,?_⟩
 refine Zi (xs:=xT 0 n.toNat) (fun i ρ S2=>∃(t:Xv) (a4 a5 a6:Option Xv) (k2:Nat),ρ=[some (.ref ln),some t,some (.int (many:Int)),some (.bl true),a4,a5,a6]∧va i t∧yJ ln k2 S2) (fun _ _ _ _ _=>rfl) ?_ ⟨x,none,none,none,k1,rfl,h0,l1⟩ ?_
 ·rintro i w ρ S2 hw ⟨t,a4,a5,a6,k2,rfl,hi,l2⟩
  obtain ⟨hin,rfl⟩:=vI hw
  have hi90:i<90:=by omega
  refine .of rfl ?_
  dsimp only [List.set]
  walk_at "w"
  have hb : intBits ((0 : Int) + (i : Int)) ≤ 7 := yp.le (show ((0 : Int) + (i : Int)).natAbs < 2 ^ 7 by
   have:(2:Nat)^7=128:=by decide
   omega)
  refine Zj (by omega) ?_
  walk_at "w"
  refine (yK l2 (by decide)).imp ?_
  rintro _ S3 ⟨c,k3,rfl,c0,c1,l3,hk3,_,q3⟩
  walk_at "w"
  refine vy (by decide) ?_
  walk_at "w"
  have w0:=Int.emod_nonneg (((0:Int)+(i:Int))*((0:Int)+(i:Int))+c) (show (6:Int)≠0 by decide)
  have w1:=Int.emod_lt_of_pos (((0:Int)+(i:Int))*((0:Int)+(i:Int))+c) (show (0:Int)<6 by decide)
  generalize (((0:Int)+(i:Int))*((0:Int)+(i:Int))+c) % 6=way at w0 w1 ⊢
  refine Zz (fun ρ S4=>∃(b:Xv),ρ=[some (.ref ln),some t,some (.int (many:Int)),some (.bl true),some (.int ((0:Int)+(i:Int))),some (.int way),some b]∧zdO b∧yJ ln k3 S4) (zR ?_) ?_
  ·walk_at "w"
   refine xn (fun h=> ?_) (fun h=>zX ⟨_,rfl,⟨_,fun _=> .lost⟩,l3⟩)
   walk_at "w"
   refine wD (vx ?_)
   walk_at "w"
   refine ⟨⟨by omega,by omega⟩,_,rfl,?_⟩
   refine xR (by rw [yf];exact Nat.le_of_lt (YD (by omega))) (fun j es S4=>∃st:List Int,es=st.map Xv.int∧S4=S3) (fun _ _ _ _ _=>rfl) ?_ ⟨[],rfl,rfl⟩ ?_
   ·rintro j w es S4 hw hel ⟨st,rfl,rfl⟩
    refine .of rfl ?_
    dsimp only [vT,List.map,List.set]
    walk_at "w"
    refine ⟨rfl,?_⟩
    walk_at "w"
    refine vy (by decide) ?_
    exact ⟨st++[_],by rw [List.map_append];rfl,rfl⟩
   ·rintro es S4 hlen ⟨st,rfl,rfl⟩
    rw [List.length_map,yf,Int.toNat_natCast] at hlen
    walk_at "w"
    refine Zt xM ?_
    walk_at "w"
    exact ⟨⟨_,fun _=> .fin (by omega)⟩,l3.app⟩
  rintro _ S4 ⟨b,rfl,hb,l4⟩
  obtain ⟨t2,t3,t4,t5⟩:=hi.two hb
  refine zR ?_
  walk_at "w"
  refine xn (fun h=> ?_) (fun h=>zR (zaj ?_))
  ·walk_at "w"
   exact ⟨_,_,_,_,k3,rfl,hi.one,l4⟩
  walk_at "w"
  refine xn (fun h2=> ?_) (fun h2=>⟨(fun z=>by cases z),fun _=> ?_⟩)
  ·walk_at "w"
   refine ⟨fun _=> ?_,(fun z=>by cases z)⟩
   walk_at "w"
   rcases (show way-2=0∨way-2=1 by omega) with h3|h3
   ·rw [h3]
    refine Yu xK Yv ?_
    walk_at "w"
    exact ⟨_,_,_,_,k3,rfl,t4,l4.app⟩
   ·rw [h3]
    refine Yu xK Yw ?_
    walk_at "w"
    exact ⟨_,_,_,_,k3,rfl,t5,l4.app⟩
  ·walk_at "w"
   refine vy (by decide) ?_
   rcases (show way % 2=0∨way % 2=1 by omega) with h3|h3
   ·rw [h3]
    refine Yu xK Yv ?_
    walk_at "w"
    exact ⟨_,_,_,_,k3,rfl,t2,l4.app⟩
   ·rw [h3]
    refine Yu xK Yw ?_
    walk_at "w"
    exact ⟨_,_,_,_,k3,rfl,t3,l4.app⟩
 ·rintro ρ S2 ⟨t,a4,a5,a6,k2,rfl,hi,l2⟩
  walk_at "w"
  rw [yf] at hi
  exact ⟨n.toNat,by omega,hi⟩
theorem zbG {P:Xv→Sto→Prop} {l:List Xv} (h:zP S x=some l) (k:P (.ref S.length) (S++[.lst l.reverse])):WO (vw x S) P:= .of (by unfold vw;rw [h];rfl) k
theorem Tc (l:List Int) (lo hi:Option Int):∃m:List Int,L2.UQ (l.map Xv.int) lo hi=m.map Xv.int:=by
 unfold L2.UQ
 rw [←List.map_drop,←List.map_take]
 exact ⟨_,rfl⟩
structure ZP (t:Xv) (h:Nat) (l:List Lf2) (d:Int):Prop where
 rt:Rt h t l d
 hh:h≤100
 d0:0<d
 db:yp 4000 d
 ll:l.length≤900
variable {h:Nat} {l:List Lf2} {d:Int} {t:Xv}
noncomputable def YH (l:List Lf2) (S:Sto) (n:Nat):Prop:=∃es,S[n]? =some (.lst es)∧yX [] (1,1) l es
noncomputable def Vf (l:List Lf2) (S:Sto) (n:Nat):Prop:=S[n]? =some (.lst (l.map (vD [] (1,1))))
theorem ZP.runs (hbg:Big fu) (a:ZP t h l d):W (xm fu [t] S) fun v S'=>∃n,v= .ref n∧S.length≤n∧YH l S' n∧Kp (fun _=>False) S S':=(zaS hbg a.d0 a.db a.rt (by have:=a.hh;omega) (by have:=a.ll;omega)).imp fun _ _ ⟨n,es,h1,h2,h3,h4,h5⟩=>⟨n,h1,h2,⟨es,h3,h4⟩,h5⟩
theorem ZP.due (hbg:Big fu) (a:ZP t h l d):W (xS fu [t] S) fun v S'=>∃n,v= .ref n∧S.length≤n∧Vf l S' n∧Kp (fun _=>False) S S':=zdM hbg a.d0 a.db a.rt (by have:=a.hh;omega) (by have:=a.ll;omega)
theorem ZP.same (a:ZP t h l d) {n m:Nat} (p:YH l S n) (q:Vf l S m):W (zG fu 10 [.ref n,.ref m] S) fun v S2=>v= .bl true∧Kp (fun _=>False) S S2:=by
 obtain ⟨es,e,rx⟩:=p
 have:=a.hh
 have:=a.ll
 exact (zbB (n:=9) (zaW (n:=6) e q rx (by omega) fun p hp=>by
  have:=a.rt.ok p hp
  exact ⟨by omega,this.2⟩) (Kp.refl _)).imp fun _ _ h=>⟨h.1,Kp.pre h.2⟩
theorem YH.keep {n:Nat} (p:YH l S n) (k:Kp (fun _=>False) S S'):YH l S' n:=let ⟨es,e,rx⟩:=p;⟨es,k.2 _ _ e id,rx⟩
theorem Vf.keep {n:Nat} (p:Vf l S n) (k:Kp (fun _=>False) S S'):Vf l S' n:=k.2 _ _ p id
theorem zdQ (hbg:Big fu) (ns:List Int):W (VQ fu [.ref 0] [.frz (ns.map Xv.int)]) fun v _=>v= .bl true:=by
 walk_at "wr";unfold VP;walk_at "w"
 refine zcR (l:=ns.map Xv.int) rfl ?_
 obtain ⟨ms,em⟩:=Tc ns none (some 200)
 rw [em]
 refine zbG xK ?_
 rw [←List.map_reverse]
 have l0:yJ _ _ (([Ce.frz (ns.map Xv.int)]++[Ce.lst (ms.map Xv.int)])++[Ce.lst (ms.reverse.map Xv.int)]):=⟨ms.reverse,rfl,xM⟩
 generalize ([Ce.frz (ns.map Xv.int)]++[Ce.lst (ms.map Xv.int)]).length=ln at l0 ⊢
 generalize (([Ce.frz (ns.map Xv.int)]++[Ce.lst (ms.map Xv.int)])++[Ce.lst (ms.reverse.map Xv.int)])=S0 at l0 ⊢
 walk_at "w"
 refine (yK l0 (by decide)).imp ?_
 rintro _ S1 ⟨c1,k1,rfl,_,_,l1,hk1,_,_⟩
 walk_at "w"
 refine (yK l1 (by decide)).imp ?_
 rintro _ S3 ⟨c3,k3,rfl,c30,c31,l3,hk3,_,_⟩
 obtain ⟨many,rfl⟩:∃m:Nat,c3=(m:Int):=⟨c3.toNat,by omega⟩
 have hm:many≤4:=by omega
 generalize decide (c1=1)=deep
 refine yo (Zz (fun ρ S5=>∃(n:Nat) (t:Xv) (l:List Lf2) (d:Int),(deep=true∧n=1∨deep=false∧n=3)∧ρ=[some (.ref 0),some (.ref ln),some (.bl deep),some (.int (many:Int)),some t,none,none,none]∧Gr2 ln n S3 t S5 l d (Dn n) (Ln n)) ?_ ?_)
 ·have go:∀(n:Nat),n≤3→W (zO fu 6 [.ref ln,.int (many:Int),.int (n:Int),.bl true] S3) fun v S'=>∃l d,Gr2 ln n S3 v S' l d (Dn n) (Ln n):=fun n hn=>zcX hbg hm n 6 k3 S3 (by omega) hn l3
  cases deep with
  |true=>
   walk_at "w"
   refine zak ?_
   walk_at "w"
   refine ⟨fun _=> ?_,(fun z=>by cases z)⟩
   walk_at "w"
   refine (go 1 (by decide)).imp ?_
   rintro v S5 ⟨l,d,h⟩
   exact ⟨1,v,l,d,.inl ⟨rfl,rfl⟩,rfl,h⟩
  |false=>
   walk_at "w"
   refine zak ?_
   walk_at "w"
   refine ⟨(fun z=>by cases z),fun _=> ?_⟩
   walk_at "w"
   refine (go 3 (by decide)).imp ?_
   rintro v S5 ⟨l,d,h⟩
   exact ⟨3,v,l,d,.inr ⟨rfl,rfl⟩,rfl,h⟩
 rintro _ S5 ⟨n,t,l,d,hn,rfl,g⟩
 obtain ⟨k5,l5⟩:=g.lf
 walk_at "w"
 refine (VU l5 hm).imp ?_
 rintro ot S6 ⟨ol,og⟩
 obtain ⟨k6,l6⟩:=og.lf
 have ao:ZP ot 0 ol 1:=⟨og.rt,by decide,og.d0,og.db.mono (by decide),Nat.le_trans og.ll (by decide)⟩
 walk_at "w"
 refine Zz (fun ρ S5=>∃(t:Xv) (h:Nat) (l:List Lf2) (d:Int),ρ=[some (.ref 0),some (.ref ln),some (.bl deep),some (.int (many:Int)),some t,some ot,none,none]∧ZP t h l d) (zR ?_) ?_
 ·rcases hn with ⟨rfl,rfl⟩|⟨rfl,rfl⟩
  ·walk_at "w"
   refine ⟨fun _=> ?_,(fun z=>by cases z)⟩
   walk_at "w"
   refine (za0 (fu:=fu) hm l6 ⟨l,d,g.rt,g.d0,g.db,g.ll⟩).imp ?_
   rintro v S7 ⟨i,hi,l',d',r',d0',db',ll'⟩
   exact ⟨v,1+i,l',d',rfl,r',by omega,d0',db'.mono (by omega),by omega⟩
  ·walk_at "w"
   refine ⟨(fun z=>by cases z),fun _=>zX ?_⟩
   exact ⟨t,3,l,d,rfl,g.rt,by decide,g.d0,g.db.mono (by decide),Nat.le_trans g.ll (by decide)⟩
 clear g hn l6 l5 l3 l1 l0 og
 rintro _ S7 ⟨t,h,l,d,rfl,a⟩
 walk_at "w"
 refine (a.due hbg).imp ?_
 rintro _ S8 ⟨dn,rfl,hdn,e8,_⟩
 walk_at "w"
 refine (a.runs hbg).imp ?_
 rintro _ S9 ⟨fn,rfl,hfn,f9,k9⟩
 walk_at "w"
 refine zR (Xu ?_)
 walk_at "w"
 refine (a.same f9 (e8.keep k9)).imp ?_
 rintro _ S10 ⟨rfl,k10⟩
 refine ⟨_,rfl,(fun z=>by cases z),fun _=> ?_⟩
 walk_at "w"
 refine (ao.runs hbg).imp ?_
 rintro _ S11 ⟨on,rfl,_,f11,k11⟩
 walk_at "w"
 refine (ao.due hbg).imp ?_
 rintro _ S12 ⟨od,rfl,_,e12,k12⟩
 walk_at "w"
 refine (ao.same (f11.keep k12) e12).imp ?_
 rintro _ S13 ⟨rfl,k13⟩
 refine ⟨_,rfl,(fun z=>by cases z),fun _=>zX ?_⟩
 have k9to13:=k10.trans (k11.trans (k12.trans k13))
 refine yo (zR (Xu ?_))
 walk_at "w"
 refine (a.runs hbg).imp ?_
 rintro _ S14 ⟨n14,rfl,_,f14,k14⟩
 walk_at "w"
 have k9to14:=k9to13.trans k14
 refine (a.same f14 (e8.keep (k9.trans k9to14))).imp ?_
 rintro _ S15 ⟨rfl,k15⟩
 refine ⟨_,rfl,(fun z=>by cases z),fun _=> ?_⟩
 walk_at "w"
 have k9to15:=k9to14.trans k15
 refine (a.same (f9.keep k9to15) (e8.keep (k9.trans k9to15))).imp ?_
 rintro _ S16 ⟨rfl,k16⟩
 refine ⟨_,rfl,(fun z=>by cases z),fun _=>zX ?_⟩
 have k9to16:=k9to15.trans k16
 obtain ⟨es,e16,_⟩:=f9.keep k9to16
 refine yo (Uk (vQ ?_))
 walk_at "w"
 refine ⟨⟨_,zw e16⟩,?_⟩
 walk_at "w"
 refine WO.of (show Yp (.ref fn) [] S16 = some (.non, S16.set fn (.lst [])) by
  unfold Yp
  rw [xP e16]) ?_
 have k17:Kp (fun _=>False) S8 (S16.set fn (.lst [])):=(k9.trans k9to16).set (.inr hfn)
 generalize S16.set fn (.lst [])=S17 at k17 ⊢
 walk_at "w"
 refine (a.runs hbg).imp ?_
 rintro _ S18 ⟨n18,rfl,_,f18,k18⟩
 walk_at "w"
 refine (a.same f18 (e8.keep (k17.trans k18))).imp ?_
 rintro _ S19 ⟨rfl,_⟩
 rfl
theorem zdR (hbg:Big fu) (ns:List Int) (hl:ns.length≤63):∃S,VQ fu [.ref 0] [.frz (ns.map Xv.int)]=some (.ok (.bl true) S):=by
 obtain ⟨v,S,e,rfl⟩:=zdQ hbg ns
 exact ⟨S,e⟩
end
end
noncomputable def Wp:Nat:=2^9000
theorem Vg:Big Wp:=by unfold Big Wp;exact Nat.le_refl _
theorem zcY {P:Program} {w:World} {K:PySem.W.Frag} {mg:Str→Option Value} {base:Heap} (T:Tx K mg):yL P w K mg base (CXE P w) 115 T.a_law T.fd_law ["_law_script"] (Yr K):=zcy (zbx (fu:=Wp) T) fun ns hl=>zdR Vg ns hl
theorem zcZ {l:PySem.W.OpenLaw} {w:World} {K:PySem.W.Frag} {h:Heap} {mg:Str→Option Value} {fa:Addr} (X:K.In h) (G:h.Ns mainGlobals mg) (hfa:mg "law"=some (.ref fa))
     {f0:Addr} {od0 an0:Option Addr} {sl0:Array (Option Value)} {oc0 kV0 dc0 pm0 cd0 ct0:Value} {f1:Addr} {od1 an1:Option Addr} {sl1:Array (Option Value)} {oc1 kV1 dc1 pm1 cd1 ct1:Value} {f2:Addr} {od2 an2:Option Addr} {sl2:Array (Option Value)} {oc2 kV2 dc2 pm2 cd2 ct2:Value} {f3:Addr} {od3 an3:Option Addr} {sl3:Array (Option Value)} {oc3 kV3 dc3 pm3 cd3 ct3:Value} {f4:Addr} {od4 an4:Option Addr} {sl4:Array (Option Value)} {oc4 kV4 dc4 pm4 cd4 ct4:Value} {f5:Addr} {od5 an5:Option Addr} {sl5:Array (Option Value)} {oc5 kV5 dc5 pm5 cd5 ct5:Value} {f6:Addr} {od6 an6:Option Addr} {sl6:Array (Option Value)} {oc6 kV6 dc6 pm6 cd6 ct6:Value} {f7:Addr} {od7 an7:Option Addr} {sl7:Array (Option Value)} {oc7 kV7 dc7 pm7 cd7 ct7:Value} {f8:Addr} {od8 an8:Option Addr} {sl8:Array (Option Value)} {oc8 kV8 dc8 pm8 cd8 ct8:Value} {f9:Addr} {od9 an9:Option Addr} {sl9:Array (Option Value)} {oc9 kV9 dc9 pm9 cd9 ct9:Value} {f10:Addr} {od10 an10:Option Addr} {sl10:Array (Option Value)} {oc10 kV10 dc10 pm10 cd10 ct10:Value} {f11:Addr} {od11 an11:Option Addr} {sl11:Array (Option Value)} {oc11 kV11 dc11 pm11 cd11 ct11:Value} {f12:Addr} {od12 an12:Option Addr} {sl12:Array (Option Value)} {oc12 kV12 dc12 pm12 cd12 ct12:Value} {f13:Addr} {od13 an13:Option Addr} {sl13:Array (Option Value)} {oc13 kV13 dc13 pm13 cd13 ct13:Value} {f14:Addr} {od14 an14:Option Addr} {sl14:Array (Option Value)} {oc14 kV14 dc14 pm14 cd14 ct14:Value} {f15:Addr} {od15 an15:Option Addr} {sl15:Array (Option Value)} {oc15 kV15 dc15 pm15 cd15 ct15:Value} {q_ONE:Addr} {qd_ONE:Option Addr} {qn_ONE:Nat} {qs_ONE:Array (Option Value)} {qt_ONE_0:Tok} {qt_ONE_1:Tok}
    (A0:PySem.W.nsIn K mainGlobals "common_part"=some (some (.ref f0))) (L0:K.lookup f0=some ⟨oc0,od0,.func (PySem.W.fnOf "common_part" "common_part" (yd yx) (zY yx) (zm yx) .none kV0 dc0 pm0 an0 cd0 ct0),sl0⟩) (C0:PySem.W.codeIn K cd0 "common_part"=true) (K0:PySem.W.keepIn K (.ref f0)=true)
    (A1:PySem.W.nsIn K mainGlobals "lowest"=some (some (.ref f1))) (L1:K.lookup f1=some ⟨oc1,od1,.func (PySem.W.fnOf "lowest" "lowest" (yd wc) (zY wc) (zm wc) .none kV1 dc1 pm1 an1 cd1 ct1),sl1⟩) (C1:PySem.W.codeIn K cd1 "lowest"=true) (K1:PySem.W.keepIn K (.ref f1)=true)
    (A2:PySem.W.nsIn K mainGlobals "times"=some (some (.ref f2))) (L2:K.lookup f2=some ⟨oc2,od2,.func (PySem.W.fnOf "times" "times" (yd wQ) (zY wQ) (zm wQ) .none kV2 dc2 pm2 an2 cd2 ct2),sl2⟩) (C2:PySem.W.codeIn K cd2 "times"=true) (K2:PySem.W.keepIn K (.ref f2)=true)
    (A3:PySem.W.nsIn K mainGlobals "runs_of"=some (some (.ref f3))) (L3:K.lookup f3=some ⟨oc3,od3,.func (PySem.W.fnOf "runs_of" "runs_of" (yd xL) (zY xL) (zm xL) .none kV3 dc3 pm3 an3 cd3 ct3),sl3⟩) (C3:PySem.W.codeIn K cd3 "runs_of"=true) (K3:PySem.W.keepIn K (.ref f3)=true)
    (A4:PySem.W.nsIn K mainGlobals "add_runs"=some (some (.ref f4))) (L4:K.lookup f4=some ⟨oc4,od4,.func (PySem.W.fnOf "add_runs" "add_runs" (yd xj) (zY xj) (zm xj) .none kV4 dc4 pm4 an4 cd4 ct4),sl4⟩) (C4:PySem.W.codeIn K cd4 "add_runs"=true) (K4:PySem.W.keepIn K (.ref f4)=true)
    (A5:PySem.W.nsIn K mainGlobals "parts_of"=some (some (.ref f5))) (L5:K.lookup f5=some ⟨oc5,od5,.func (PySem.W.fnOf "parts_of" "parts_of" (yd yR) (zY yR) (zm yR) .none kV5 dc5 pm5 an5 cd5 ct5),sl5⟩) (C5:PySem.W.codeIn K cd5 "parts_of"=true) (K5:PySem.W.keepIn K (.ref f5)=true)
    (A6:PySem.W.nsIn K mainGlobals "_law_take"=some (some (.ref f6))) (L6:K.lookup f6=some ⟨oc6,od6,.func (PySem.W.fnOf "_law_take" "_law_take" (yd yS) (zY yS) (zm yS) .none kV6 dc6 pm6 an6 cd6 ct6),sl6⟩) (C6:PySem.W.codeIn K cd6 "_law_take"=true) (K6:PySem.W.keepIn K (.ref f6)=true)
    (A7:PySem.W.nsIn K mainGlobals "_law_low"=some (some (.ref f7))) (L7:K.lookup f7=some ⟨oc7,od7,.func (PySem.W.fnOf "_law_low" "_law_low" (yd xk) (zY xk) (zm xk) .none kV7 dc7 pm7 an7 cd7 ct7),sl7⟩) (C7:PySem.W.codeIn K cd7 "_law_low"=true) (K7:PySem.W.keepIn K (.ref f7)=true)
    (A8:PySem.W.nsIn K mainGlobals "_law_same"=some (some (.ref f8))) (L8:K.lookup f8=some ⟨oc8,od8,.func (PySem.W.fnOf "_law_same" "_law_same" (yd yu) (zY yu) (zm yu) .none kV8 dc8 pm8 an8 cd8 ct8),sl8⟩) (C8:PySem.W.codeIn K cd8 "_law_same"=true) (K8:PySem.W.keepIn K (.ref f8)=true)
    (A9:PySem.W.nsIn K mainGlobals "_law_leaf"=some (some (.ref f9))) (L9:K.lookup f9=some ⟨oc9,od9,.func (PySem.W.fnOf "_law_leaf" "_law_leaf" (yd yD) (zY yD) (zm yD) .none kV9 dc9 pm9 an9 cd9 ct9),sl9⟩) (C9:PySem.W.codeIn K cd9 "_law_leaf"=true) (K9:PySem.W.keepIn K (.ref f9)=true)
    (A10:PySem.W.nsIn K mainGlobals "_law_shares"=some (some (.ref f10))) (L10:K.lookup f10=some ⟨oc10,od10,.func (PySem.W.fnOf "_law_shares" "_law_shares" (yd zZ) (zY zZ) (zm zZ) .none kV10 dc10 pm10 an10 cd10 ct10),sl10⟩) (C10:PySem.W.codeIn K cd10 "_law_shares"=true) (K10:PySem.W.keepIn K (.ref f10)=true)
    (A11:PySem.W.nsIn K mainGlobals "_law_tree"=some (some (.ref f11))) (L11:K.lookup f11=some ⟨oc11,od11,.func (PySem.W.fnOf "_law_tree" "_law_tree" (yd yE) (zY yE) (zm yE) .none kV11 dc11 pm11 an11 cd11 ct11),sl11⟩) (C11:PySem.W.codeIn K cd11 "_law_tree"=true) (K11:PySem.W.keepIn K (.ref f11)=true)
    (A12:PySem.W.nsIn K mainGlobals "_law_deeper"=some (some (.ref f12))) (L12:K.lookup f12=some ⟨oc12,od12,.func (PySem.W.fnOf "_law_deeper" "_law_deeper" (yd yk) (zY yk) (zm yk) .none kV12 dc12 pm12 an12 cd12 ct12),sl12⟩) (C12:PySem.W.codeIn K cd12 "_law_deeper"=true) (K12:PySem.W.keepIn K (.ref f12)=true)
    (A13:PySem.W.nsIn K mainGlobals "_law_due"=some (some (.ref f13))) (L13:K.lookup f13=some ⟨oc13,od13,.func (PySem.W.fnOf "_law_due" "_law_due" (yd xl) (zY xl) (zm xl) .none kV13 dc13 pm13 an13 cd13 ct13),sl13⟩) (C13:PySem.W.codeIn K cd13 "_law_due"=true) (K13:PySem.W.keepIn K (.ref f13)=true)
    (A14:PySem.W.nsIn K mainGlobals "_law_marks"=some (some (.ref f14))) (L14:K.lookup f14=some ⟨oc14,od14,.func (PySem.W.fnOf "_law_marks" "_law_marks" (yd yG) (zY yG) (zm yG) .none kV14 dc14 pm14 an14 cd14 ct14),sl14⟩) (C14:PySem.W.codeIn K cd14 "_law_marks"=true) (K14:PySem.W.keepIn K (.ref f14)=true)
    (A15:PySem.W.nsIn K mainGlobals "law"=some (some (.ref f15))) (L15:K.lookup f15=some ⟨oc15,od15,.func (PySem.W.fnOf "law" "law" (yd Yx) (zY Yx) (zm Yx) .none kV15 dc15 pm15 an15 cd15 ct15),sl15⟩) (C15:PySem.W.codeIn K cd15 "law"=true) (K15:PySem.W.keepIn K (.ref f15)=true)
    (N_abs:PySem.W.nsIn K mainGlobals "abs"=some none)
    (N_all:PySem.W.nsIn K mainGlobals "all"=some none)
    (N_bool:PySem.W.nsIn K mainGlobals "bool"=some none)
    (N_enumerate:PySem.W.nsIn K mainGlobals "enumerate"=some none)
    (N_int:PySem.W.nsIn K mainGlobals "int"=some none)
    (N_isinstance:PySem.W.nsIn K mainGlobals "isinstance"=some none)
    (N_len:PySem.W.nsIn K mainGlobals "len"=some none)
    (N_list:PySem.W.nsIn K mainGlobals "list"=some none)
    (N_range:PySem.W.nsIn K mainGlobals "range"=some none)
    (N_reversed:PySem.W.nsIn K mainGlobals "reversed"=some none)
    (N_sorted:PySem.W.nsIn K mainGlobals "sorted"=some none)
    (N_str:PySem.W.nsIn K mainGlobals "str"=some none)
    (N_sum:PySem.W.nsIn K mainGlobals "sum"=some none)
    (N_tuple:PySem.W.nsIn K mainGlobals "tuple"=some none)
    (a_ONE:PySem.W.nsIn K mainGlobals "ONE"=some (some (.ref q_ONE)))
    (l_ONE:K.lookup q_ONE=some ⟨.type "tuple",qd_ONE,.seq #[.int 1 qt_ONE_0,.int 1 qt_ONE_1] qn_ONE,qs_ONE⟩):
    ∃fd:FuncData,(∀(s:Shared) (v:Value),BindsTo s fd ⟨[v],[]⟩ [("_law_script",v)])∧∀base:Heap,K.In base→base.Ns mainGlobals mg→yL l.prog w K mg base (CXE l.prog w) 115 fa fd ["_law_script"] (Yr K):=by
  have e:=hfa.symm.trans (PySem.W.mg_of X G A15)
  cases e
  let T:Tx K mg:={a_common_part:=f0,fd_common_part:=_,F_common_part:=zN (st:=yx) L0 C0 K0,m_common_part:=PySem.W.mg_of X G A0,b_common_part:=(zN (st:=yx) L0 C0 K0).binds (ps:=["one","other"]) fun _ _ _ _ _ _ us hl=>match us,hl with|[_,_],_=>rfl,a_lowest:=f1,fd_lowest:=_,F_lowest:=zN (st:=wc) L1 C1 K1,m_lowest:=PySem.W.mg_of X G A1,b_lowest:=(zN (st:=wc) L1 C1 K1).binds (ps:=["top","bottom"]) fun _ _ _ _ _ _ us hl=>match us,hl with|[_,_],_=>rfl,a_times:=f2,fd_times:=_,F_times:=zN (st:=wQ) L2 C2 K2,m_times:=PySem.W.mg_of X G A2,b_times:=(zN (st:=wQ) L2 C2 K2).binds (ps:=["one","other"]) fun _ _ _ _ _ _ us hl=>match us,hl with|[_,_],_=>rfl,a_runs_of:=f3,fd_runs_of:=_,F_runs_of:=zN (st:=xL) L3 C3 K3,m_runs_of:=PySem.W.mg_of X G A3,b_runs_of:=(zN (st:=xL) L3 C3 K3).binds (ps:=["tree"]) fun _ _ _ _ _ _ us hl=>match us,hl with|[_],_=>rfl,a_add_runs:=f4,fd_add_runs:=_,F_add_runs:=zN (st:=xj) L4 C4 K4,m_add_runs:=PySem.W.mg_of X G A4,b_add_runs:=(zN (st:=xj) L4 C4 K4).binds (ps:=["runs","marks","share","tree"]) fun _ _ _ _ _ _ us hl=>match us,hl with|[_,_,_,_],_=>rfl,a_parts_of:=f5,fd_parts_of:=_,F_parts_of:=zN (st:=yR) L5 C5 K5,m_parts_of:=PySem.W.mg_of X G A5,b_parts_of:=(zN (st:=yR) L5 C5 K5).binds (ps:=["tree"]) fun _ _ _ _ _ _ us hl=>match us,hl with|[_],_=>rfl,a__law_take:=f6,fd__law_take:=_,F__law_take:=zN (st:=yS) L6 C6 K6,m__law_take:=PySem.W.mg_of X G A6,b__law_take:=(zN (st:=yS) L6 C6 K6).binds (ps:=["_law_left","_law_many"]) fun _ _ _ _ _ _ us hl=>match us,hl with|[_,_],_=>rfl,a__law_low:=f7,fd__law_low:=_,F__law_low:=zN (st:=xk) L7 C7 K7,m__law_low:=PySem.W.mg_of X G A7,b__law_low:=(zN (st:=xk) L7 C7 K7).binds (ps:=["_law_top","_law_bottom"]) fun _ _ _ _ _ _ us hl=>match us,hl with|[_,_],_=>rfl,a__law_same:=f8,fd__law_same:=_,F__law_same:=zN (st:=yu) L8 C8 K8,m__law_same:=PySem.W.mg_of X G A8,b__law_same:=(zN (st:=yu) L8 C8 K8).binds (ps:=["_law_found","_law_due_here"]) fun _ _ _ _ _ _ us hl=>match us,hl with|[_,_],_=>rfl,a__law_leaf:=f9,fd__law_leaf:=_,F__law_leaf:=zN (st:=yD) L9 C9 K9,m__law_leaf:=PySem.W.mg_of X G A9,b__law_leaf:=(zN (st:=yD) L9 C9 K9).binds (ps:=["_law_left","_law_many"]) fun _ _ _ _ _ _ us hl=>match us,hl with|[_,_],_=>rfl,a__law_shares:=f10,fd__law_shares:=_,F__law_shares:=zN (st:=zZ) L10 C10 K10,m__law_shares:=PySem.W.mg_of X G A10,b__law_shares:=(zN (st:=zZ) L10 C10 K10).binds (ps:=["_law_left","_law_many"]) fun _ _ _ _ _ _ us hl=>match us,hl with|[_,_],_=>rfl,a__law_tree:=f11,fd__law_tree:=_,F__law_tree:=zN (st:=yE) L11 C11 K11,m__law_tree:=PySem.W.mg_of X G A11,b__law_tree:=(zN (st:=yE) L11 C11 K11).binds (ps:=["_law_left","_law_many","_law_depth","_law_hands"]) fun _ _ _ _ _ _ us hl=>match us,hl with|[_,_,_,_],_=>rfl,a__law_deeper:=f12,fd__law_deeper:=_,F__law_deeper:=zN (st:=yk) L12 C12 K12,m__law_deeper:=PySem.W.mg_of X G A12,b__law_deeper:=(zN (st:=yk) L12 C12 K12).binds (ps:=["_law_left","_law_tree_here","_law_many","_law_hands"]) fun _ _ _ _ _ _ us hl=>match us,hl with|[_,_,_,_],_=>rfl,a__law_due:=f13,fd__law_due:=_,F__law_due:=zN (st:=xl) L13 C13 K13,m__law_due:=PySem.W.mg_of X G A13,b__law_due:=(zN (st:=xl) L13 C13 K13).binds (ps:=["_law_tree_here"]) fun _ _ _ _ _ _ us hl=>match us,hl with|[_],_=>rfl,a__law_marks:=f14,fd__law_marks:=_,F__law_marks:=zN (st:=yG) L14 C14 K14,m__law_marks:=PySem.W.mg_of X G A14,b__law_marks:=(zN (st:=yG) L14 C14 K14).binds (ps:=["_law_run"]) fun _ _ _ _ _ _ us hl=>match us,hl with|[_],_=>rfl,a_law:=fa,fd_law:=_,F_law:=zN (st:=Yx) L15 C15 K15,m_law:=PySem.W.mg_of X G A15,b_law:=(zN (st:=Yx) L15 C15 K15).binds (ps:=["_law_script"]) fun _ _ _ _ _ _ us hl=>match us,hl with|[_],_=>rfl,n_abs:=PySem.W.mg_none_of X G N_abs,n_all:=PySem.W.mg_none_of X G N_all,n_bool:=PySem.W.mg_none_of X G N_bool,n_enumerate:=PySem.W.mg_none_of X G N_enumerate,n_int:=PySem.W.mg_none_of X G N_int,n_isinstance:=PySem.W.mg_none_of X G N_isinstance,n_len:=PySem.W.mg_none_of X G N_len,n_list:=PySem.W.mg_none_of X G N_list,n_range:=PySem.W.mg_none_of X G N_range,n_reversed:=PySem.W.mg_none_of X G N_reversed,n_sorted:=PySem.W.mg_none_of X G N_sorted,n_str:=PySem.W.mg_none_of X G N_str,n_sum:=PySem.W.mg_none_of X G N_sum,n_tuple:=PySem.W.mg_none_of X G N_tuple,a_ONE:=q_ONE,m_ONE:=PySem.W.mg_of X G a_ONE,c_ONE:=fun H=> .inr ⟨_,_,_,l_ONE,rfl,rfl,by show 2≤sizeLine;decide,(.cons ⟨_,rfl⟩ (.cons ⟨_,rfl⟩ .nil))⟩}
  exact ⟨_,fun s v=> .of_eq rfl,fun base _ _=>zcY T⟩
theorem zd0 {l:PySem.W.OpenLaw} {q:Program} {loose:List Str} {XP:(Str→Option Value)→Heap→Prop} {YP:World→Heap→Prop} {d:DefRec} {K:Params→PySem.W.Frag} (hn:l.most=some 63) (hdf:d.params.defaults=[])
  (hY:∀(w:World) (h:Heap),YP w h→(K w.params).In h)
  (F:∀(w:World) (mg:Str→Option Value) (fa:Addr) (h:Heap),(K w.params).In h→h.Ns mainGlobals mg→mg d.name=some (.ref fa)→
   ∃fd:FuncData,(∀(s:Shared) (u:Value),BindsTo s fd ⟨[u],[]⟩ [("_law_script",u)])∧∀base:Heap,(K w.params).In base→base.Ns mainGlobals mg→yL l.prog w (K w.params) mg base (CXE l.prog w) 115 fa fd ["_law_script"] (Yr (K w.params))):
  PySem.W.WalkO q loose XP YP l.row.toRowW d [] (fun f vs=>PySem.call f vs):=
 L2.zbh (n:=63) (k:=115) (x:="_law_script") (CX:=fun w=>CXE l.prog w) (sp:=fun w=>Yr (K w.params)) hn (by decide) hdf ⟨rfl,by decide,by decide,rfl⟩ hY F (fun _ _ a ns hl hO hS=>⟨a,ns,rfl,hO,hS,hl,fun _=>rfl⟩) fun _ _ _ _ _ ⟨_,_,_,_,_,z⟩=>z
end Prf
open PySem PySem.W PyProof.Rows
set_option maxRecDepth 100000 in
set_option maxHeartbeats 0 in
theorem PySem.Challenge.cw_lots_k32_runs_of_a_tree_holds : PySem.Challenge.rw_lots_k32_runs_of_a_tree.Holds := by
 w_on;o_law;k_head;(case hw=>w_witness2)
 k_fill
 refine Prf.zd0 (l:=PySem.Challenge.rw_lots_k32_runs_of_a_tree) rfl rfl (fun w h Y=>PySem.W.kIn_of Y) ?F
 case F=>
  intro w mg fa h KX G hmg
  refine' Prf.zcZ KX G hmg ?A0 ?L0 ?C0 ?K0 ?A1 ?L1 ?C1 ?K1 ?A2 ?L2 ?C2 ?K2 ?A3 ?L3 ?C3 ?K3 ?A4 ?L4 ?C4 ?K4 ?A5 ?L5 ?C5 ?K5 ?A6 ?L6 ?C6 ?K6 ?A7 ?L7 ?C7 ?K7 ?A8 ?L8 ?C8 ?K8 ?A9 ?L9 ?C9 ?K9 ?A10 ?L10 ?C10 ?K10 ?A11 ?L11 ?C11 ?K11 ?A12 ?L12 ?C12 ?K12 ?A13 ?L13 ?C13 ?K13 ?A14 ?L14 ?C14 ?K14 ?A15 ?L15 ?C15 ?K15 ?N_abs ?N_all ?N_bool ?N_enumerate ?N_int ?N_isinstance ?N_len ?N_list ?N_range ?N_reversed ?N_sorted ?N_str ?N_sum ?N_tuple ?a_ONE ?l_ONE
  (case A0=>k_is);(case L0=>k_is);(case C0=>k_is);(case K0=>k_is);(case A1=>k_is);(case L1=>k_is)
  (case C1=>k_is);(case K1=>k_is);(case A2=>k_is);(case L2=>k_is);(case C2=>k_is);(case K2=>k_is)
  (case A3=>k_is);(case L3=>k_is);(case C3=>k_is);(case K3=>k_is);(case A4=>k_is);(case L4=>k_is)
  (case C4=>k_is);(case K4=>k_is);(case A5=>k_is);(case L5=>k_is);(case C5=>k_is);(case K5=>k_is)
  (case A6=>k_is);(case L6=>k_is);(case C6=>k_is);(case K6=>k_is);(case A7=>k_is);(case L7=>k_is)
  (case C7=>k_is);(case K7=>k_is);(case A8=>k_is);(case L8=>k_is);(case C8=>k_is);(case K8=>k_is)
  (case A9=>k_is);(case L9=>k_is);(case C9=>k_is);(case K9=>k_is);(case A10=>k_is);(case L10=>k_is)
  (case C10=>k_is);(case K10=>k_is);(case A11=>k_is);(case L11=>k_is);(case C11=>k_is);(case K11=>k_is)
  (case A12=>k_is);(case L12=>k_is);(case C12=>k_is);(case K12=>k_is);(case A13=>k_is);(case L13=>k_is)
  (case C13=>k_is);(case K13=>k_is);(case A14=>k_is);(case L14=>k_is);(case C14=>k_is);(case K14=>k_is)
  (case A15=>k_is);(case L15=>k_is);(case C15=>k_is);(case K15=>k_is);(case N_abs=>k_is);(case N_all=>k_is)
  (case N_bool=>k_is);(case N_enumerate=>k_is);(case N_int=>k_is);(case N_isinstance=>k_is);(case N_len=>k_is);(case N_list=>k_is)
  (case N_range=>k_is);(case N_reversed=>k_is);(case N_sorted=>k_is);(case N_str=>k_is);(case N_sum=>k_is);(case N_tuple=>k_is)
  (case a_ONE=>k_is);(case l_ONE=>k_is)
