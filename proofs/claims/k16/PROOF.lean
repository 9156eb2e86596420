import PyProof.Rows.All
import Wide.All
import OpenK.AllK
import Wide.FinOn
import Lean
import PyProof.EqAt
import PyProof.EqKinds
import PyProof.TupleCall
import PySem.Challenge.RW_lots_k16_what_is_a_program
set_option Elab.async false
set_option linter.all false
set_option maxRecDepth 100000
local macro_rules | `(tactic| omega) => `(tactic| first | with_reducible assumption | lia | omega +splitDisjunctions)
namespace PySem.W.Fast
theorem tw10116435521446161519:True:=trivial
theorem tw10229946211733348486:True:=trivial
theorem tw10292513450506238940:True:=trivial
theorem tw10407035716980825848:True:=trivial
theorem tw10452702326238463284:True:=trivial
theorem tw10456275726378876501:True:=trivial
theorem tw10459393511401276669:True:=trivial
theorem tw10586496496031962118:True:=trivial
theorem tw10619558339450916911:True:=trivial
theorem tw10633488724872411447:True:=trivial
theorem tw10656809380617116792:True:=trivial
theorem tw10950879644683179297:True:=trivial
theorem tw10973166545116358976:True:=trivial
theorem tw11022817287606758251:True:=trivial
theorem tw11090002022973769220:True:=trivial
theorem tw11121814430264325248:True:=trivial
theorem tw11192975349545333951:True:=trivial
theorem tw11467984248436747004:True:=trivial
theorem tw11611133305969913786:True:=trivial
theorem tw11650934582398356191:True:=trivial
theorem tw11666941121510299411:True:=trivial
theorem tw11762718560645668268:True:=trivial
theorem tw11800271471905696552:True:=trivial
theorem tw12036286532515004323:True:=trivial
theorem tw12036811209754835499:True:=trivial
theorem tw12057244842535712228:True:=trivial
theorem tw12568104110998317099:True:=trivial
theorem tw12665205533823622952:True:=trivial
theorem tw12674841369676666555:True:=trivial
theorem tw12735809805906441684:True:=trivial
theorem tw12908636473504469412:True:=trivial
theorem tw12955572655377128870:True:=trivial
theorem tw13030405072526555859:True:=trivial
theorem tw13213564043647142473:True:=trivial
theorem tw13313686591665814207:True:=trivial
theorem tw13314682304876137816:True:=trivial
theorem tw13441186064054204866:True:=trivial
theorem tw13546236455753138594:True:=trivial
theorem tw13579832741093576222:True:=trivial
theorem tw13601006400153442321:True:=trivial
theorem tw13659731730705267300:True:=trivial
theorem tw13678351232546865867:True:=trivial
theorem tw13783268823397793658:True:=trivial
theorem tw13939950652302804543:True:=trivial
theorem tw14021093383640710477:True:=trivial
theorem tw14092328159542960428:True:=trivial
theorem tw14153705231143708552:True:=trivial
theorem tw14198864305495420978:True:=trivial
theorem tw14219314514736624769:True:=trivial
theorem tw14280949679890375041:True:=trivial
theorem tw14308281070963393611:True:=trivial
theorem tw1431705303879144165:True:=trivial
theorem tw14345849354723148633:True:=trivial
theorem tw14353399416677761016:True:=trivial
theorem tw14463552854758045752:True:=trivial
theorem tw14521148054783387874:True:=trivial
theorem tw14526615061380014423:True:=trivial
theorem tw14587888766119713412:True:=trivial
theorem tw14630696030393529658:True:=trivial
theorem tw14650692933796307457:True:=trivial
theorem tw14845377065642522081:True:=trivial
theorem tw14885763788563840360:True:=trivial
theorem tw14886562380653777541:True:=trivial
theorem tw15005851625654651303:True:=trivial
theorem tw15090528269608572891:True:=trivial
theorem tw15186364285935176030:True:=trivial
theorem tw15240331294411588248:True:=trivial
theorem tw15246555347635188976:True:=trivial
theorem tw15279635154020102033:True:=trivial
theorem tw15367573583011288804:True:=trivial
theorem tw15430915987446177010:True:=trivial
theorem tw15492506412315611426:True:=trivial
theorem tw15602602932254066664:True:=trivial
theorem tw15907072570296380581:True:=trivial
theorem tw16016582184675678513:True:=trivial
theorem tw16038295785107390922:True:=trivial
theorem tw16046706789185846009:True:=trivial
theorem tw16154075016108247300:True:=trivial
theorem tw16186354288082959182:True:=trivial
theorem tw16387309742333784421:True:=trivial
theorem tw16436506110553906565:True:=trivial
theorem tw16458692822171602030:True:=trivial
theorem tw16465425428054023031:True:=trivial
theorem tw16478224217718439896:True:=trivial
theorem tw1655500773438343728:True:=trivial
theorem tw16589173197729943797:True:=trivial
theorem tw16660923176281951369:True:=trivial
theorem tw16684091896005097493:True:=trivial
theorem tw16732568214357823419:True:=trivial
theorem tw16754835818058290053:True:=trivial
theorem tw16775708420157660477:True:=trivial
theorem tw16832199411203618624:True:=trivial
theorem tw16845928858972917428:True:=trivial
theorem tw16924395151324109105:True:=trivial
theorem tw17159767644438692090:True:=trivial
theorem tw17241620332370136667:True:=trivial
theorem tw1725384376474898804:True:=trivial
theorem tw17260550476978190700:True:=trivial
theorem tw17262748599293161976:True:=trivial
theorem tw17285575291404508732:True:=trivial
theorem tw17318395113847102546:True:=trivial
theorem tw17399689626723054640:True:=trivial
theorem tw17506407604600275379:True:=trivial
theorem tw17561634772938883752:True:=trivial
theorem tw17568125442001230907:True:=trivial
theorem tw17869266358137584218:True:=trivial
theorem tw18147653209304443789:True:=trivial
theorem tw1816754338582004842:True:=trivial
theorem tw18269545455203527739:True:=trivial
theorem tw18292985348032093657:True:=trivial
theorem tw18303732845570111040:True:=trivial
theorem tw18334859260531784361:True:=trivial
theorem tw18410348096197120243:True:=trivial
theorem tw202448300296939391:True:=trivial
theorem tw2026925863478643066:True:=trivial
theorem tw2169892205179462393:True:=trivial
theorem tw2236545622769023089:True:=trivial
theorem tw2275581060528140596:True:=trivial
theorem tw232110792367900888:True:=trivial
theorem tw2413733860429840891:True:=trivial
theorem tw2545716992566528039:True:=trivial
theorem tw2602208950471430662:True:=trivial
theorem tw2760752379062373722:True:=trivial
theorem tw2975688294541880473:True:=trivial
theorem tw2997337809692435331:True:=trivial
theorem tw3073113561710578273:True:=trivial
theorem tw3102979598010059601:True:=trivial
theorem tw3239681162514686856:True:=trivial
theorem tw3246906043128977632:True:=trivial
theorem tw3382653512757029835:True:=trivial
theorem tw3412903889843558390:True:=trivial
theorem tw3633314644661829566:True:=trivial
theorem tw3655224073782796924:True:=trivial
theorem tw3671681587461001712:True:=trivial
theorem tw3711884980676960035:True:=trivial
theorem tw3756712967037567634:True:=trivial
theorem tw3859587814109343087:True:=trivial
theorem tw3949128890989759641:True:=trivial
theorem tw3995324983357843990:True:=trivial
theorem tw4024138397729220502:True:=trivial
theorem tw4031273631688750971:True:=trivial
theorem tw4072065505139083375:True:=trivial
theorem tw4093023151308489029:True:=trivial
theorem tw4237263453837794960:True:=trivial
theorem tw4351367587544028827:True:=trivial
theorem tw4366676124696156479:True:=trivial
theorem tw4451815841251406540:True:=trivial
theorem tw4538188388935116257:True:=trivial
theorem tw4598258986551347121:True:=trivial
theorem tw4648402630940905328:True:=trivial
theorem tw4786851036463833429:True:=trivial
theorem tw4954542942222153543:True:=trivial
theorem tw4990414481172304462:True:=trivial
theorem tw5039705679105331803:True:=trivial
theorem tw5050148425678581657:True:=trivial
theorem tw5100727751821866581:True:=trivial
theorem tw5103295324122822830:True:=trivial
theorem tw5119904273313909841:True:=trivial
theorem tw5126679253985272263:True:=trivial
theorem tw5176014662246879899:True:=trivial
theorem tw532491497950978559:True:=trivial
theorem tw5366453497045952071:True:=trivial
theorem tw5420979159618662213:True:=trivial
theorem tw5451996192083922159:True:=trivial
theorem tw5477327452274567162:True:=trivial
theorem tw5534389949373059887:True:=trivial
theorem tw5715026765224364511:True:=trivial
theorem tw5786053375873273702:True:=trivial
theorem tw5867475003997982150:True:=trivial
theorem tw5975799883232348954:True:=trivial
theorem tw5988388275527516898:True:=trivial
theorem tw6003942999179342401:True:=trivial
theorem tw6116487046283266056:True:=trivial
theorem tw6150809509627532429:True:=trivial
theorem tw6225787272994877764:True:=trivial
theorem tw6229034765718527330:True:=trivial
theorem tw6269247843632890905:True:=trivial
theorem tw6274960699681687871:True:=trivial
theorem tw6394490578839316151:True:=trivial
theorem tw6415878976055108123:True:=trivial
theorem tw6489223575176151864:True:=trivial
theorem tw6710107867120731340:True:=trivial
theorem tw6719547129852786056:True:=trivial
theorem tw6742277565798495071:True:=trivial
theorem tw6910331319110257231:True:=trivial
theorem tw7114845017944411325:True:=trivial
theorem tw7292262076298409060:True:=trivial
theorem tw7300321538699585310:True:=trivial
theorem tw7313981676594412025:True:=trivial
theorem tw7338129139799117385:True:=trivial
theorem tw7353243771619248985:True:=trivial
theorem tw7561435436721755850:True:=trivial
theorem tw7585817286659771097:True:=trivial
theorem tw7587428074712186796:True:=trivial
theorem tw7596181011869475476:True:=trivial
theorem tw759779890605469712:True:=trivial
theorem tw7753111873255880073:True:=trivial
theorem tw7798248283010837881:True:=trivial
theorem tw7817925237234234533:True:=trivial
theorem tw79004839063848510:True:=trivial
theorem tw7962790383001950387:True:=trivial
theorem tw8330350535193334879:True:=trivial
theorem tw8332765813506635616:True:=trivial
theorem tw838399456302461430:True:=trivial
theorem tw838760140917894672:True:=trivial
theorem tw8463271757244329913:True:=trivial
theorem tw8575830322511954297:True:=trivial
theorem tw8588371279597147642:True:=trivial
theorem tw8615511714433555128:True:=trivial
theorem tw8631233850708654510:True:=trivial
theorem tw8729309721202040083:True:=trivial
theorem tw87572626723217046:True:=trivial
theorem tw9010065488226192788:True:=trivial
theorem tw9147082349460750714:True:=trivial
theorem tw9252669245827566119:True:=trivial
theorem tw9281841857603727582:True:=trivial
theorem tw9332392288106168218:True:=trivial
theorem tw9550141964418233982:True:=trivial
theorem tw9587527321471291897:True:=trivial
theorem tw9693960426669706818:True:=trivial
theorem tw9718933849368754126:True:=trivial
theorem tw9915254235868725537:True:=trivial
theorem tw9917006038634905200:True:=trivial
theorem tw993691201596229506:True:=trivial
theorem tw9974558470642784601:True:=trivial
theorem tw9982815607929354841:True:=trivial
theorem tw9992511771188002384:True:=trivial
theorem tw999491369690220556:True:=trivial
end PySem.W.Fast
namespace L2
open PySem PySem.Spec PyProof.Rows

noncomputable abbrev Key:=Sum Int Str
noncomputable def zah:Key→Value→Bool
 | .inl k,v=>Value.isInt k v
 | .inr x,v=>Value.isStrOf x v
noncomputable def zhi (w:World):Key→Int
 | .inl k=>hashInt k
 | .inr x=>hashStr w x
theorem xB:∀{k:Key} {v:Value},zah k v=true→(∃i t,k=Sum.inl i∧v=Value.int i t)∨(∃x t,k=Sum.inr x∧v=Value.str x t)
 | .inl i,v,h=>by
  obtain ⟨t,e⟩:=Value.isInt_shape (k:=i) (v:=v) h
  exact .inl ⟨i,t,rfl,e⟩
 | .inr x,v,h=>by
  obtain ⟨t,e⟩:=Value.isStrOf_shape (x:=x) (v:=v) h
  exact .inr ⟨x,t,rfl,e⟩
theorem zai (i:Int) (t:Tok):zah (.inl i) (.int i t)=true:=by simp [zah,Value.isInt]
theorem zaj (x:Str) (t:Tok):zah (.inr x) (.str x t)=true:=by simp [zah,Value.isStrOf]
theorem zhj (a b:Int):decide ((Sum.inl a:Key)=Sum.inl b)=(a==b):=by
 by_cases e:a=b
 ·subst e;simp
 ·have h:¬(Sum.inl a:Key)=Sum.inl b:=fun q=>e (Sum.inl.inj q)
  rw [decide_eq_false h]
  exact (beq_eq_false_iff_ne.mpr e).symm
theorem zhk (a b:Str):decide ((Sum.inr a:Key)=Sum.inr b)=decide (a=b):=by
 by_cases e:a=b
 ·subst e;simp
 ·have h:¬(Sum.inr a:Key)=Sum.inr b:=fun q=>e (Sum.inr.inj q)
  rw [decide_eq_false h,decide_eq_false e]
theorem zhl (a:Int) (b:Str):decide ((Sum.inl a:Key)=Sum.inr b)=false:=decide_eq_false (fun q=>nomatch q)
theorem zhm (a:Str) (b:Int):decide ((Sum.inr a:Key)=Sum.inl b)=false:=decide_eq_false (fun q=>nomatch q)

noncomputable def wB (prog:Program) (w:World):PySem.KeyKind prog w Key where
 is:=zah
 hash:=zhi w
 inj:=fun v a b ha hb=>by
  rcases xB ha with ⟨i,t,rfl,rfl⟩|⟨x,t,rfl,rfl⟩
  ·rcases xB hb with ⟨j,u,rfl,e⟩|⟨y,u,rfl,e⟩
   ·injection e with e1 _;rw [e1]
   ·exact nomatch e
  ·rcases xB hb with ⟨j,u,rfl,e⟩|⟨y,u,rfl,e⟩
   ·exact nomatch e
   ·injection e with e1 _;rw [e1]
 byValue:=fun k v h=>by
  rcases xB h with ⟨i,t,rfl,rfl⟩|⟨x,t,rfl,rfl⟩<;>rfl
 pyHash:=fun hv h=>by
  rcases xB hv with ⟨i,t,rfl,rfl⟩|⟨x,t,rfl,rfl⟩
  ·exact wpAny_pyHash_int h
  ·exact wpAny_pyHash_str h
 eqBool:=fun hu hv h=>by
  rcases xB hu with ⟨i,t,rfl,rfl⟩|⟨x,t,rfl,rfl⟩
  ·rcases xB hv with ⟨j,u,rfl,rfl⟩|⟨y,u,rfl,rfl⟩
   ·rw [zhj] at h;exact wpAny_eqBool_int h
   ·rw [zhl] at h;exact SeqAt.EqAt.int_str i t y u _ _ _ _ h
  ·rcases xB hv with ⟨j,u,rfl,rfl⟩|⟨y,u,rfl,rfl⟩
   ·rw [zhm] at h;exact SeqAt.EqAt.str_int x t j u _ _ _ _ h
   ·rw [zhk] at h;exact wpAny_eqBool_str h
 «strs» :=fun k x t v h=>by
  rcases xB h with ⟨i,u,rfl,e⟩|⟨y,u,rfl,e⟩
  ·exact nomatch e
  ·injection e with e1 _
   subst e1
   cases v<;>rfl

theorem zbl (prog:Program) (w:World) (i:Int) (t:Tok):(wB prog w).is (.inl i) (.int i t)=true:=zai i t
theorem zbm (prog:Program) (w:World) (x:Str) (t:Tok):(wB prog w).is (.inr x) (.str x t)=true:=zaj x t
end L2

namespace L2
open PySem PySem.Spec PyProof.Rows

inductive V where
 |non|bl (b:Bool)|int (i:Int)|str (x:Str)|byt (b:Array UInt8)|flt (b:UInt64)|ref (a:Addr)|ty (n:String)
 deriving DecidableEq

noncomputable def yQ:V→Value→Prop
 | .non,u=>u=Value.none
 | .bl b,u=>u=Value.bool b
 | .int i,u=>∃t,u=Value.int i t
 | .str x,u=>∃t,u=Value.str x t
 | .byt b,u=>∃t,u=Value.bytes b t
 | .flt b,u=>∃t,u=Value.float b t
 | .ref a,u=>u=Value.ref a
 | .ty n,u=>u=Value.type n

noncomputable abbrev yE:List V→List Value→Prop:=Paired yQ
theorem yE.length {xs:List V} {us:List Value} (r:yE xs us):xs.length=us.length:=Paired.length r
theorem yE.get:∀{xs:List V} {us:List Value} {i:Nat} {x:V},yE xs us→xs[i]? =some x→∃u,us[i]? =some u∧yQ x u
 |_,_,_,_,.nil,e=>by simp at e
 |_,_,0,_,.cons r _,e=>by simp at e;subst e;exact ⟨_,rfl,r⟩
 |_,_,i+1,x,.cons _ t,e=>by
  obtain ⟨u,h1,h2⟩:=yE.get (i:=i) (x:=x) t (by simpa using e)
  exact ⟨u,by simpa using h1,h2⟩
theorem yE.set {x:V} {u:Value} (r:yQ x u):∀{xs:List V} {us:List Value} (i:Nat),yE xs us→yE (xs.set i x) (us.set i u)
 |_,_,_,.nil=> .nil
 |_,_,0,.cons _ t=> .cons r t
 |_,_,i+1,.cons q t=> .cons q (yE.set r i t)
theorem yE.append:∀{xs ys:List V} {us ws:List Value},yE xs us→yE ys ws→yE (xs++ys) (us++ws)
 |_,_,_,_,.nil,s=>s
 |_,_,_,_,.cons r t,s=> .cons r (yE.append t s)
theorem yE.take:∀{xs:List V} {us:List Value} (n:Nat),yE xs us→yE (xs.take n) (us.take n)
 |_,_,0,_=> .nil
 |_,_,_+1,.nil=> .nil
 |_,_,n+1,.cons r t=> .cons r (yE.take n t)
theorem yE.drop:∀{xs:List V} {us:List Value} (n:Nat),yE xs us→yE (xs.drop n) (us.drop n)
 |_,_,0,r=>r
 |_,_,_+1,.nil=> .nil
 |_,_,n+1,.cons _ t=>yE.drop n t

noncomputable def Uw:Option V→Option Value→Prop
 |some v,some u=>yQ v u
 |none,none=>True
 |_,_=>False
noncomputable def KV {κ:Type}:List (κ×V)→List (κ×Value)→Prop:=Paired fun (p:κ×V) (q:κ×Value)=>p.1=q.1∧yQ p.2 q.2

noncomputable def kV:Key→V
 | .inl i=> .int i
 | .inr x=> .str x

inductive NK where
 |int (i:Int)|str (x:Str)|tup (l:List NK)
noncomputable instance:DecidableEq NK:=fun a b=>Classical.propDecidable (a=b)
mutual
noncomputable def zeo (w:World):NK→Int
 | .int i=>zhi w (.inl i)
 | .str x=>zhi w (.inr x)
 | .tup l=>reduceHash (Builtin.Tuple.tupleHashOf (zep w l))
noncomputable def zep (w:World):List NK→List Int
 |[]=>[]
 |k::r=>zeo w k::zep w r
end
mutual
noncomputable def zfL:NK→Nat
 | .int _=>0
 | .str _=>0
 | .tup l=>zgO l+1
noncomputable def zgO:List NK→Nat
 |[]=>0
 |k::r=>max (zfL k) (zgO r)
end
noncomputable def zhn (w:World) (x:NK×Addr×Value):DictEntry:={hash:=zeo w x.1,key:= .ref x.2.1,val:=x.2.2}
inductive HO where
 /-- a list -/
 |lst (xs:List V)
 /-- a tuple (never changes) -/
 |tup (xs:List V)
 /-- a dict whose keys are ints and texts; one whose keys are tuples of ints and texts (the empty one is both) -/
 |dK (kvs:List (Key×V))|dT (kvs:List (List Key×V))
 /-- a dict whose keys are tuples of any depth: key, where it stands, value -/
 |dN (ks:List (NK×Addr×V))
 /-- a set of ints: its members, its size -/
 |set (S:Int→Bool) (n:Nat)
 /-- an instance of the class at C, its dict at dx, its attributes -/
 |ins (C dx:Addr) (fs:List (Str×V))
 /-- the dict of the instance at x -/
 |own (x:Addr)
 /-- the dict of an exception -/
 |xd (fs:List (Str×V))
 /-- a bound method, f of x -/
 |met (f x:Addr)
 /-- a range object lo, lo + 1, .. below hi -/
 |rng (lo hi:Int)
 /-- a thing that is known to the object (the script; a dict while a loop walks it): read, never written while it is so -/
 |frz (o:Obj) (u:HO)
 /-- a code object's table -/
 |tbl (ps:Array Value)
 /-- any other thing, by what is true of its one object (a def of one's own: SetO a S n := HO.ext fun h => ..) -/
 |ext (φ:Heap→Prop)

noncomputable abbrev Hp:=Addr→Option HO
noncomputable def upd (H:Hp) (a:Addr) (o:HO):Hp:=fun b=>if b=a then some o else H b
theorem xC {H:Hp} {a:Addr} {o:HO}:upd H a o a=some o:=by unfold upd;rw [if_pos rfl]
theorem xa {H:Hp} {a b:Addr} {o:HO} (h:b≠a):upd H a o b=H b:=by unfold upd;rw [if_neg h]
theorem vh {H:Hp} {a b:Addr} {o:HO} (h:H a=some o) (h':H b=none):a≠b:=by
 intro e;subst e;rw [h] at h';cases h'

noncomputable def YH (h:Heap) (a:Addr) (items:Array Value):Prop:=∃o,h.get? a=some o∧o.cls= .type "tuple"∧∃n,o.data= .seq items n∧o.dict=none
theorem YH.tup {h:Heap} {a:Addr} {items:Array Value} (x:YH h a items):IsTup h a items:=by
 obtain ⟨o,e,c,n,d,_⟩:=x
 exact ⟨o,e,c,n,d⟩
theorem YH.new (h:Heap) (items:Array Value):YH (h.push {cls:= .type "tuple",data:= .seq items}) h.objs.size items:=⟨_,Heap.get?_push_size _ rfl,rfl,_,rfl,rfl⟩
section
variable (P:Program) (w:World)
noncomputable def xD (H:Hp) (h:Heap) (a:Addr):HO→Prop
 | .lst xs=>xs.length≤sizeLine∧∃(its:List Value) (n:Nat),yE xs its∧h.get? a=some {cls:= .type "list",data:= .seq its.toArray n}
 | .tup xs=>xs.length≤sizeLine∧∃its:List Value,yE xs its∧YH h a its.toArray
 | .dK kvs=>kvs.length≤sizeLine∧(a==sysModules)=false∧∃vs,KV kvs vs∧h.DictOf (wB P w) a vs
 | .dT kvs=>kvs.length≤sizeLine∧(a==sysModules)=false∧∃xs:List (List Key×Addr×Value),
   Paired (fun (p:List Key×V) (q:List Key×Addr×Value)=>p.1=q.1∧H q.2.1=some (.tup (p.1.map kV))∧yQ p.2 q.2.2) kvs xs∧
   ∃o es ep,h.get? a=some o∧o.ExactDict∧o.data= .dict es ep∧es.toList=xs.map (entryOfKey (tupleKind (wB P w)))∧(xs.map (·.1)).Nodup
 | .dN ks=>ks.length≤sizeLine∧(a==sysModules)=false∧∃xs:List (NK×Addr×Value),Paired (fun (p:NK×Addr×V) (q:NK×Addr×Value)=>p.1=q.1∧p.2.1=q.2.1∧yQ p.2.2 q.2.2) ks xs∧
   ∃o es ep,h.get? a=some o∧o.ExactDict∧o.data= .dict es ep∧es.toList=xs.map (zhn w)∧(xs.map (·.1)).Nodup
 | .set S n=>h.SetOf (intKind P w) a S n
 | .ins C dx fs=>H dx=some (.own a)∧fs.length≤1000∧dx≠a∧h.get? a=some (PySem.W.instObj C dx)∧
   ∃mA,h.Ns1 dx mA∧(∀f,Uw (fs.lookup f) (mA f))∧PySem.Within mA (fs.map (·.1))
 | .own _=>∃o,h.get? a=some o
 | .xd fs=>∃mA,h.Ns1 a mA∧∀f,Uw (fs.lookup f) (mA f)
 | .rng lo hi=>∃t u v,h.get? a=some {cls:= .type "range",data:= .fields #[.int lo t,.int hi u,.int 1 v]}
 | .frz o u=>h.get? a=some o∧xD H h a u
 | .tbl ps=>h.get? a=some {cls:= .none,data:= .fields ps}
 | .met f x=>h.get? a=some (PySem.W.methodObj (.ref f) (.ref x))
 | .ext φ=>φ h∧(∃o,h.get? a=some o)∧∀h1 h2:Heap,φ h1→(∀o,h1.get? a=some o→h2.get? a=some o)→φ h2
noncomputable def HOk (H:Hp) (h:Heap):Prop:=∀a o,H a=some o→xD P w H h a o
end

section
variable {P:Program} {w:World} {H H':Hp} {h h':Heap} {a:Addr} {o:HO}
theorem xD.lt (x:xD P w H h a o):a<h.objs.size:=by
 cases o with
 |lst xs=>obtain ⟨_,_,_,_,e⟩:=x;exact Heap.lt_size e
 |tup xs=>obtain ⟨_,_,_,p⟩:=x;exact p.tup.lt
 |dK kvs=>obtain ⟨_,_,_,_,o,_,_,e,_⟩:=x;exact Heap.lt_size e
 |dT kvs=>obtain ⟨_,_,_,_,o,_,_,e,_⟩:=x;exact Heap.lt_size e
 |dN ks=>obtain ⟨_,_,_,_,o,_,_,e,_⟩:=x;exact Heap.lt_size e
 |set S n=>obtain ⟨o,_,_,_,e,_⟩:=x;exact Heap.lt_size e
 |ins C dx fs=>obtain ⟨_,_,_,e,_⟩:=x;exact Heap.lt_size e
 |own y=>obtain ⟨_,e⟩:=x;exact Heap.lt_size e
 |xd fs=>obtain ⟨_,⟨_,_,_,e,_⟩,_⟩:=x;exact Heap.lt_size e
 |rng lo hi=>obtain ⟨_,_,_,e⟩:=x;exact Heap.lt_size e
 |frz ob u=>obtain ⟨e,_⟩:=x;exact Heap.lt_size e
 |tbl ps=>exact Heap.lt_size (show h.get? a=some _ from x)
 |met f y=>exact Heap.lt_size (show h.get? a=some _ from x)
 |ext φ=>obtain ⟨_,⟨_,e⟩,_⟩:=x;exact Heap.lt_size e
theorem Paired.mapP {α β:Type} {F G:α→β→Prop}:∀{l₁:List α} {l₂:List β},Paired F l₁ l₂→(∀a b,F a b→G a b)→Paired G l₁ l₂
 |_,_,.nil,_=> .nil
 |_,_,.cons r t,f=> .cons (f _ _ r) (Paired.mapP t f)
theorem xD.stay (x:xD P w H h a o) (k:∀b u,(b=a∨H b=some (.own a))→h.get? b=some u→h'.get? b=some u)
  (ho:∀b,H b=some (.own a)→H' b=some (.own a)) (ht:∀b xs,H b=some (.tup xs)→H' b=some (.tup xs)):xD P w H' h' a o:=by
 induction o with
 |lst xs=>obtain ⟨z,its,n,r,e⟩:=x;exact ⟨z,its,n,r,k _ _ (.inl rfl) e⟩
 |tup xs=>obtain ⟨z,its,r,ob,e,c⟩:=x;exact ⟨z,its,r,ob,k _ _ (.inl rfl) e,c⟩
 |dK kvs=>obtain ⟨z,y,vs,r,ob,es,ep,e,c⟩:=x;exact ⟨z,y,vs,r,ob,es,ep,k _ _ (.inl rfl) e,c⟩
 |dT kvs=>
  obtain ⟨z,y,xs,r,ob,es,ep,e,c⟩:=x
  exact ⟨z,y,xs,Paired.mapP r fun p q z=>⟨z.1,ht _ _ z.2.1,z.2.2⟩,ob,es,ep,k _ _ (.inl rfl) e,c⟩
 |dN ks=>obtain ⟨z,y,xs,r,ob,es,ep,e,c⟩:=x;exact ⟨z,y,xs,r,ob,es,ep,k _ _ (.inl rfl) e,c⟩
 |set S n=>obtain ⟨ob,es,ep,t,e,c⟩:=x;exact ⟨ob,es,ep,t,k _ _ (.inl rfl) e,c⟩
 |ins C dx fs=>
  obtain ⟨d,z,ne,e,mA,⟨od,es,ep,e2,c⟩,r⟩:=x
  exact ⟨ho _ d,z,ne,k _ _ (.inl rfl) e,mA,⟨od,es,ep,k _ _ (.inr d) e2,c⟩,r⟩
 |own y=>obtain ⟨ob,e⟩:=x;exact ⟨ob,k _ _ (.inl rfl) e⟩
 |xd fs=>obtain ⟨mA,⟨od,es,ep,e,c⟩,r⟩:=x;exact ⟨mA,⟨od,es,ep,k _ _ (.inl rfl) e,c⟩,r⟩
 |rng lo hi=>obtain ⟨t,u,v,e⟩:=x;exact ⟨t,u,v,k _ _ (.inl rfl) e⟩
 |frz ob u ih=>obtain ⟨e,q⟩:=x;exact ⟨k _ _ (.inl rfl) e,ih q⟩
 |tbl ps=>
  have e:h.get? a=some {cls:= .none,data:= .fields ps}:=x
  show h'.get? a=some {cls:= .none,data:= .fields ps}
  exact k a _ (.inl rfl) e
 |met f y=>
  have e:h.get? a=some (PySem.W.methodObj (.ref f) (.ref y)):=x
  show h'.get? a=some (PySem.W.methodObj (.ref f) (.ref y))
  exact k a _ (.inl rfl) e
 |ext φ=>obtain ⟨p,⟨o,e⟩,st⟩:=x;exact ⟨st _ _ p fun o q=>k _ _ (.inl rfl) q,⟨o,k _ _ (.inl rfl) e⟩,st⟩
theorem HOk.lt (x:HOk P w H h) (e:H a=some o):a<h.objs.size:=(x a o e).lt
theorem HOk.fresh (x:HOk P w H h) (e:h.objs.size≤a):H a=none:=by
 cases q:H a with
 |none=>rfl
 |some u=>exact absurd (Nat.lt_of_lt_of_le (x.lt q) e) (Nat.lt_irrefl _)
theorem HOk.kept (x:HOk P w H h) (k:∀b u,h.get? b=some u→h'.get? b=some u):HOk P w H h':=fun a o e=>
 (x a o e).stay (fun b u _ q=>k b u q) (fun _ q=>q) fun _ _ q=>q
theorem HOk.laid (x:HOk P w H h) (k:∀b u,h.get? b=some u→h'.get? b=some u) (hp:h.objs.size≤a) (new:xD P w (upd H a o) h' a o):HOk P w (upd H a o) h':=fun b u e=>by
 have hn:=x.fresh hp
 by_cases hb:b=a
 ·subst hb;rw [xC] at e;cases e;exact new
 ·rw [xa hb] at e
  exact (x b u e).stay (fun c v _ q=>k c v q) (fun c q=>by rw [xa (vh q hn)];exact q) fun c xs q=>by rw [xa (vh q hn)];exact q
end

noncomputable def Rd (H:Hp) (a:Addr) (u:HO):Prop:=H a=some u∨∃o,H a=some (.frz o u)
theorem Rd.ok {P:Program} {w:World} {H:Hp} {h:Heap} {a:Addr} {u:HO} (r:Rd H a u) (x:HOk P w H h):xD P w H h a u:=by
 rcases r with r|⟨o,r⟩
 ·exact x a u r
 ·obtain ⟨_,q⟩:=x a _ r
  exact q
noncomputable def Mut:Option HO→Prop
 |some (.lst _)=>True
 |some (.dK _)=>True
 |some (.dT _)=>True
 |some (.dN _)=>True
 |some (.set _ _)=>True
 |some (.ins _ _ _)=>True
 |some (.ext _)=>True
 |_=>False
section
variable {P:Program} {w:World} {H:Hp} {h h':Heap} {x e:Addr} {o':HO}
theorem HOk.write (ok:HOk P w H h) (mu:Mut (H x)) (he:e=x∨H e=some (.own x)) (k:∀b u,b≠e→h.get? b=some u→h'.get? b=some u) (heo:∃u,h'.get? e=some u)
  (new:xD P w (upd H x o') h' x o'):HOk P w (upd H x o') h':=fun b u q=>by
 have nown:∀c y,H c=some (.own y)→c≠x:=fun c y r z=>by subst z;rw [r] at mu;exact mu
 have ntup:∀c xs,H c=some (.tup xs)→c≠x:=fun c xs r z=>by subst z;rw [r] at mu;exact mu
 by_cases hb:b=x
 ·subst hb;rw [xC] at q;cases q;exact new
 ·rw [xa hb] at q
  by_cases hbe:b=e
  ·have q':H b=some (.own x):=by
    rcases he with z|z
    ·exact absurd (hbe.trans z) hb
    ·rw [hbe];exact z
   rw [q] at q';cases q'
   obtain ⟨v,hv⟩:=heo
   exact ⟨v,by rw [hbe];exact hv⟩
  ·refine (ok b u q).stay (fun c v hc r=>k c v ?_ r) (fun c r=>by rw [xa (nown c b r)];exact r) fun c xs r=>by rw [xa (ntup c xs r)];exact r
   rcases hc with rfl|hc
   ·exact hbe
   ·rintro rfl
    rcases he with z|z
    ·exact nown c b hc z
    ·rw [hc] at z;cases z;exact hb rfl
end

structure Un (fs ex:List Addr) (H H':Hp) (h h':Heap):Prop where
 keep:∀b o,h.get? b=some o→H b=none→b∉fs→b∉ex→h'.get? b=some o
 slot:∀b o,h.get? b=some o→H b=none→b∈fs→b∉ex→∃sl,h'.get? b=some {o with slots:=sl}
 free:∀b o,h.get? b=some o→H b=none→b∉ex→H' b=none
 there:∀b o,h.get? b=some o→b∉ex→∃o',h'.get? b=some o'
 tups:∀b xs,H b=some (.tup xs)→H' b=some (.tup xs)
 frzs:∀b o u,H b=some (.frz o u)→H' b=some (.frz o u)
 tbls:∀b ps,H b=some (.tbl ps)→∃more,H' b=some (.tbl (ps++more))
section
variable {fs fs' ex ex':List Addr} {H H1 H2:Hp} {h h1 h2 h':Heap} {a x e:Addr} {o:HO}
theorem Un.any (u:Un fs ex H H1 h h1) {b:Addr} {ob:Obj} (q:h.get? b=some ob) (n:H b=none) (hx:b∉ex):∃sl,h1.get? b=some {ob with slots:=sl}:=by
 by_cases hb:b∈fs
 ·exact u.slot b ob q n hb hx
 ·exact ⟨ob.slots,u.keep b ob q n hb hx⟩
theorem Un.trans (a:Un fs ex H H1 h h1) (b:Un fs ex H1 H2 h1 h2):Un fs ex H H2 h h2 where
 keep:=fun c ob q n hc hx=>b.keep c ob (a.keep c ob q n hc hx) (a.free c ob q n hx) hc hx
 slot:=fun c ob q n hc hx=>by
  obtain ⟨sl,e1⟩:=a.slot c ob q n hc hx
  obtain ⟨sl',e2⟩:=b.slot c _ e1 (a.free c ob q n hx) hc hx
  exact ⟨sl',e2⟩
 free:=fun c ob q n hx=>by
  obtain ⟨o',e1⟩:=a.there c ob q hx
  exact b.free c o' e1 (a.free c ob q n hx) hx
 there:=fun c ob q hx=>by
  obtain ⟨o',e1⟩:=a.there c ob q hx
  exact b.there c o' e1 hx
 tups:=fun c xs q=>b.tups c xs (a.tups c xs q)
 frzs:=fun c ob xs q=>b.frzs c ob xs (a.frzs c ob xs q)
 tbls:=fun c ps q=>by
  obtain ⟨m1,e1⟩:=a.tbls c ps q
  obtain ⟨m2,e2⟩:=b.tbls c _ e1
  exact ⟨m1++m2,by rw [e2,Array.append_assoc]⟩
theorem Un.kept (k:∀b u,h.get? b=some u→h'.get? b=some u):Un fs ex H H h h':=
 ⟨fun b ob q _ _ _=>k b ob q,fun b ob q _ _ _=>⟨ob.slots,k b ob q⟩,fun _ _ _ n _=>n,fun b ob q _=>⟨ob,k b ob q⟩,fun _ _ q=>q,fun _ _ _ q=>q,fun _ ps q=>⟨#[],by rw [q];simp⟩⟩
theorem Un.refl:Un fs ex H H h h:=Un.kept fun _ _ q=>q
theorem Un.laid (k:∀b u,h.get? b=some u→h'.get? b=some u) (hp:h.objs.size≤a) (hn:H a=none):Un fs ex H (upd H a o) h h' where
 keep:=fun b u q _ _ _=>k b u q
 slot:=fun b u q _ _ _=>⟨u.slots,k b u q⟩
 free:=fun b u q n _=>by rw [xa (Nat.ne_of_lt (Nat.lt_of_lt_of_le (Heap.lt_size q) hp))];exact n
 there:=fun b u q _=>⟨u,k b u q⟩
 tups:=fun b xs q=>by rw [xa (vh q hn)];exact q
 frzs:=fun b u xs q=>by rw [xa (vh q hn)];exact q
 tbls:=fun b ps q=>⟨#[],by rw [xa (vh q hn),q];simp⟩
theorem Un.write (mu:Mut (H x)) (he:e=x∨H e=some (.own x)) (k:∀b u,b≠e→h.get? b=some u→h'.get? b=some u) (heo:∃u,h'.get? e=some u):Un fs ex H (upd H x o) h h':=by
 have hx:∀b,H b=none→b≠x:=fun b n z=>by subst z;rw [n] at mu;exact mu
 have hb:∀b,H b=none→b≠e:=fun b n z=>by
  subst z
  rcases he with r|r
  ·exact hx b n r
  ·rw [n] at r;cases r
 have hm:∀b u,H b=some u→¬Mut (some u)→b≠x:=fun b u q nm z=>by subst z;rw [q] at mu;exact nm mu
 refine ⟨fun b u q n _ _=>k b u (hb b n) q,fun b u q n _ _=>⟨u.slots,k b u (hb b n) q⟩,fun b u q n _=>by rw [xa (hx b n)];exact n,fun b u q _=> ?_,
  fun b xs q=>by rw [xa (hm b _ q fun z=>z)];exact q,fun b u xs q=>by rw [xa (hm b _ q fun z=>z)];exact q,fun b ps q=>⟨#[],by rw [xa (hm b _ q fun z=>z),q];simp⟩⟩
 by_cases hbe:b=e
 ·subst hbe;exact heo
 ·exact ⟨u,k b u hbe q⟩
end

noncomputable def trk (h:Heap) (H:Hp):List Addr:=(List.range h.objs.size).filter fun a=>(H a).isSome
noncomputable def zaJ (h:Heap) (H:Hp):Heap:=PySem.W.hideAll h (trk h H)
theorem zdN (h:Heap) (H:Hp):(zaJ h H).objs.size=h.objs.size:=PySem.W.hideAll_size _ _
theorem zeq {h:Heap} {H:Hp} {b:Addr} {o:Obj} (e:h.get? b=some o) (n:H b=none):(zaJ h H).get? b=some o:=
 PySem.W.hideAll_get _ e fun hm=>by
  have q:(H b).isSome=true:=(List.mem_filter.mp hm).2
  rw [n] at q;simp at q
theorem zfM {h:Heap} {H:Hp} {b:Addr} {o:Obj} (e:(zaJ h H).get? b=some o):h.get? b=some o∧H b=none:=by
 have e':h.get? b=some o:=PySem.W.of_hideAll (trk h H) e
 refine ⟨e',?_⟩
 cases q:H b with
 |none=>rfl
 |some x=>
  have hm:b∈trk h H:=List.mem_filter.mpr ⟨List.mem_range.mpr (Heap.lt_size e'),by simp [q]⟩
  have z:(zaJ h H).get? b=none:=PySem.W.hideAll_none (trk h H) hm
  rw [z] at e;cases e

end L2

namespace L2
open PySem PySem.Spec PyProof.Rows

structure Mod (K:PySem.W.Frag) (mg:Str→Option Value) (base:Heap):Prop where
 kin:K.In base
 glob:base.Ns mainGlobals mg
 blt:∃mb,base.Ns builtinsNs mb∧∀x:Str,x≠"__name__"→mb x=bootBuiltins x
 nolimit:base.NoLimit

/-- the context: a def's body (or a comprehension's block) running. base: fixed through the whole law; s₀, H₀: the entry; outer: the frames whose slots others may change (a def's callers); stack: all frames that run;
   ex: iterators that were made ahead of the entry and are walked here (a comprehension's); fn: the names whose cells were made at the entry (a def: all; a comprehension's block: its own); calm: not within an except suite; pn: pins that every state bears; xe: what is wanted of an exception that leaves the code -/
structure Cx where
 prog:Program
 w:World
 K:PySem.W.Frag
 mg:Str→Option Value
 base:Heap
 A:Around
 N:List Str
 s₀:Shared
 H₀:Hp
 env:Env
 outer:List Env
 stack:List Env
 ex:List Addr
 fn:Str→Bool
 calm:Bool
 pn:List (Addr×Obj)
 xe:Value→Shared→Prop
noncomputable def frs (l:List Env):List Addr:=l.filterMap (·.frame)
noncomputable abbrev Cx.fs (X:Cx):List Addr:=frs X.outer

noncomputable def Vis (sc:Scope) (x:Str):Prop:=sc.names.lookup x=some .local∨sc.names.lookup x=some .cell∨sc.names.lookup x=some .free
noncomputable def Loc (sc:Scope) (x:Str):Prop:=sc.names.lookup x=some .local∨sc.names.lookup x=some .cell
noncomputable def zjG (env:Env) (h:Heap) (m:Str→Option Value) (x:Str) (u:Value):Prop:=
 (env.kindOf x=some .local∧m x=some u)∨((env.kindOf x=some .cell∨env.kindOf x=some .free)∧∃c,env.cells.lookup x=some c∧h.IsCell c (some u))

structure Cx.Ok (X:Cx):Prop where
 mod:Mod X.K X.mg X.base
 kind:X.env.scope.kind= .function
 glob:X.env.globals=mainGlobals
 blt:X.env.builtins=builtinsNs
 above:X.s₀.heap.objs.size≤X.env.locals
 inj:∀x y c,X.env.cells.lookup x=some c→X.env.cells.lookup y=some c→x=y
 has:∀x,(X.env.kindOf x=some .cell∨X.env.kindOf x=some .free)→∃c,X.env.cells.lookup x=some c
 cab:∀x c,X.fn x=true→X.env.cells.lookup x=some c→X.s₀.heap.objs.size≤c
 hd:X.calm=true→X.A.handled=none
 frames:X.A.frames=some X.stack
 stk:X.stack=X.outer∨(X.stack=X.env::X.outer∧X.env.frame=some X.env.locals)
 exf:∀b∈X.ex,b≠X.env.locals∧∀x c,X.env.cells.lookup x=some c→c≠b
 bs:∀b o,X.base.get? b=some o→X.s₀.heap.get? b=some o∧X.H₀ b=none
 bsz:X.base.objs.size≤X.s₀.heap.objs.size
 noex:∀b o,X.base.get? b=some o→b∉X.ex
 exfs:∀b∈X.ex,b∉X.fs
 funs:X.s₀.heap.FunFrames X.base X.outer
 frf:∀b∈X.fs,X.H₀ b=none

structure Inv (X:Cx) (pins:List (Addr×Obj)) (σ:List (Option V)) (H:Hp) (s:Shared):Prop where
 ok:X.Ok
 os:s.os=X.s₀.os
 bare:AllBare s.gens
 base:Un X.fs X.ex X.H₀ H X.s₀.heap s.heap
 loc:∃m,s.heap.Ns X.env.locals m∧∀(i:Nat) (x:Str) (v:V),X.N[i]? =some x→σ[i]? =some (some v)→Vis X.env.scope x→∃u,yQ v u∧zjG X.env s.heap m x u
 cell:∀x c,X.env.cells.lookup x=some c→∃v,s.heap.IsCell c v
 free:H X.env.locals=none
 freeC:∀x c,X.env.cells.lookup x=some c→H c=none
 pin:∀p∈X.pn++pins,s.heap.get? p.1=some p.2∧H p.1=none∧p.1≠X.env.locals∧p.1∉X.fs∧∀v,p.2.data≠ .cell v
 hok:HOk X.prog X.w H s.heap
 len:σ.length=X.N.length

section
variable {X:Cx} {pins:List (Addr×Obj)} {σ:List (Option V)} {H H':Hp} {s:Shared} {h':Heap}

theorem Cx.Ok.nofr (ok:X.Ok) {b:Addr} {o:Obj} (e:X.base.get? b=some o):b∉X.fs:=fun hb=>by
 have:=(ok.funs.mem hb).1
 rw [e] at this;cases this
theorem Inv.bs (I:Inv X pins σ H s):∀b o,X.base.get? b=some o→s.heap.get? b=some o∧H b=none:=fun b o e=>
 ⟨I.base.keep b o (I.ok.bs b o e).1 (I.ok.bs b o e).2 (I.ok.nofr e) (I.ok.noex b o e),I.base.free b o (I.ok.bs b o e).1 (I.ok.bs b o e).2 (I.ok.noex b o e)⟩
theorem Inv.bk (I:Inv X pins σ H s):∀b o,X.base.get? b=some o→s.heap.get? b=some o:=fun b o e=>(I.bs b o e).1
theorem Inv.mod (I:Inv X pins σ H s):Mod X.K X.mg X.base:=I.ok.mod
theorem Inv.kIn (I:Inv X pins σ H s):X.K.In s.heap:=I.ok.mod.kin.keeps I.bk
theorem Inv.lt (I:Inv X pins σ H s):X.env.locals<s.heap.objs.size:=let ⟨_,hn,_⟩:=I.loc;hn.lt
theorem Inv.sz (I:Inv X pins σ H s):X.s₀.heap.objs.size≤s.heap.objs.size:=Nat.le_trans I.ok.above (Nat.le_of_lt I.lt)
theorem Inv.nofs (I:Inv X pins σ H s) {a:Addr} (h:s.heap.objs.size≤a):a∉X.fs:=fun hb=>by
 obtain ⟨_,o,ho,_⟩:=I.ok.funs.mem hb
 exact absurd (Nat.lt_of_lt_of_le (Heap.lt_size ho) (Nat.le_trans I.sz h)) (Nat.lt_irrefl _)
theorem Inv.cne (I:Inv X pins σ H s):∀x c,X.env.cells.lookup x=some c→c≠X.env.locals:=fun x c e z=>by
 obtain ⟨v,o,ho,hd⟩:=I.cell x c e
 obtain ⟨m,⟨o',es,ep,ho',hd',_⟩,_⟩:=I.loc
 rw [z,ho'] at ho;cases ho;rw [hd'] at hd;cases hd
theorem Inv.funs (I:Inv X pins σ H s):s.heap.FunFrames X.base X.outer:=by
 have all:∀(l:List Env),(∀b∈frs l,b∈X.fs)→X.s₀.heap.FunFrames X.base l→s.heap.FunFrames X.base l:=by
  intro l
  induction l with
  |nil=>intro _ _;trivial
  |cons env r ih=>
   intro hs hl
   obtain ⟨hk,⟨L,o,hf,hn,ho,hd⟩,hr⟩:=hl
   have hL:L∈X.fs:=hs L (by unfold frs;rw [List.filterMap_cons,hf];exact List.mem_cons_self)
   obtain ⟨sl,e⟩:=I.base.slot L o ho (I.ok.frf L hL) hL fun z=>I.ok.exfs L z hL
   exact ⟨hk,⟨L,_,hf,hn,e,hd⟩,ih (fun b hb=>hs b (by unfold frs;rw [List.filterMap_cons,hf];exact List.mem_cons_of_mem _ hb)) hr⟩
 exact all X.outer (fun _ hb=>hb) I.ok.funs

theorem Inv.stack (I:Inv X pins σ H s):s.heap.FunFrames X.base X.stack:=by
 rcases I.ok.stk with e|⟨e,hf⟩
 ·rw [e];exact I.funs
 ·rw [e]
  obtain ⟨m,hn,_⟩:=I.loc
  refine .cons (by rw [I.ok.kind];decide) hf hn ?_ I.funs
  exact Heap.get?_none_of_le (Nat.le_trans I.ok.bsz I.ok.above)
theorem Inv.stkSub (I:Inv X pins σ H s):∀b∈frs X.stack,b∈X.env.locals::X.fs:=fun b hb=>by
 rcases I.ok.stk with e|⟨e,hf⟩
 ·rw [e] at hb;exact List.mem_cons_of_mem _ hb
 ·rw [e] at hb
  unfold frs at hb
  rw [List.filterMap_cons,hf] at hb
  exact hb
theorem Inv.stkFree (I:Inv X pins σ H s):∀b∈frs X.stack,H b=none:=fun b hb=>by
 rcases List.mem_cons.mp (I.stkSub b hb) with e|hb
 ·rw [e];exact I.free
 ·obtain ⟨_,o,ho,_⟩:=I.ok.funs.mem hb
  exact I.base.free b o ho (I.ok.frf b hb) fun z=>I.ok.exfs b z hb

theorem Inv.step {g':Array GenState} {t':Nat} {d':Drawn} {ch:List Addr} (I:Inv X pins σ H s)
  (hch:∀b∈ch,(b∈X.ex∨X.s₀.heap.objs.size≤b)∧b≠X.env.locals∧(∀x c,X.env.cells.lookup x=some c→c≠b)∧∀p∈X.pn++pins,p.1≠b)
  (keep:∀b o,b≠X.env.locals→b∉X.fs→b∉ch→s.heap.get? b=some o→H b=none→h'.get? b=some o)
  (slot:∀b o,b≠X.env.locals→b∈X.fs→b∉ch→s.heap.get? b=some o→H b=none→∃sl,h'.get? b=some {o with slots:=sl}) (free:∀b o,b∉ch→s.heap.get? b=some o→H b=none→H' b=none)
  (there:∀b o,b∉ch→s.heap.get? b=some o→∃o',h'.get? b=some o')
  (tups:∀b xs,H b=some (.tup xs)→H' b=some (.tup xs)) (frzs:∀b o u,H b=some (.frz o u)→H' b=some (.frz o u)) (tbls:∀b ps,H b=some (.tbl ps)→∃more,H' b=some (.tbl (ps++more)))
  (ns:∀m,s.heap.Ns X.env.locals m→h'.Ns X.env.locals m) (hok:HOk X.prog X.w H' h') (hg:AllBare g'):
  Inv X pins σ H' {s with heap:=h',gens:=g',drawn:=d',toks:=t'}:=by
 have neL:∀b o,X.s₀.heap.get? b=some o→b≠X.env.locals:=fun b o e=>Nat.ne_of_lt (Nat.lt_of_lt_of_le (Heap.lt_size e) I.ok.above)
 have neC:∀b o,X.s₀.heap.get? b=some o→b∉X.ex→b∉ch:=fun b o e hx hb=>by
  rcases (hch b hb).1 with z|z
  ·exact hx z
  ·exact absurd (Nat.lt_of_lt_of_le (Heap.lt_size e) z) (Nat.lt_irrefl _)
 have cellK:∀x c,X.env.cells.lookup x=some c→∀v,s.heap.IsCell c v→h'.IsCell c v:=fun x c e v ⟨o,ho,hd⟩=>by
  have nch:c∉ch:=fun z=>(hch c z).2.2.1 x c e rfl
  by_cases hc:c∈X.fs
  ·obtain ⟨sl,q⟩:=slot c o (I.cne x c e) hc nch ho (I.freeC x c e)
   exact ⟨_,q,hd⟩
  ·exact ⟨o,keep c o (I.cne x c e) hc nch ho (I.freeC x c e),hd⟩
 refine ⟨I.ok,I.os,hg,⟨fun b o e n hb hx=> ?_,fun b o e n hb hx=> ?_,fun b o e n hx=> ?_,fun b o e hx=> ?_,fun b xs e=>tups b xs (I.base.tups b xs e),fun b o xs e=>frzs b o xs (I.base.frzs b o xs e),fun b ps e=> ?_⟩,?_,fun x c e=> ?_,?_,fun x c e=> ?_,fun p hp=> ?_,hok,I.len⟩
 ·exact keep b o (neL b o e) hb (neC b o e hx) (I.base.keep b o e n hb hx) (I.base.free b o e n hx)
 ·obtain ⟨sl,e1⟩:=I.base.slot b o e n hb hx
  obtain ⟨sl',e2⟩:=slot b _ (neL b o e) hb (neC b o e hx) e1 (I.base.free b o e n hx)
  exact ⟨sl',e2⟩
 ·obtain ⟨o',e1⟩:=I.base.there b o e hx
  exact free b o' (neC b o e hx) e1 (I.base.free b o e n hx)
 ·obtain ⟨o',e1⟩:=I.base.there b o e hx
  exact there b o' (neC b o e hx) e1
 ·obtain ⟨m1,e1⟩:=I.base.tbls b ps e
  obtain ⟨m2,e2⟩:=tbls b _ e1
  exact ⟨m1++m2,by rw [e2,Array.append_assoc]⟩
 ·obtain ⟨m,hn,hl⟩:=I.loc
  refine ⟨m,ns m hn,fun i x v e1 e2 e3=> ?_⟩
  obtain ⟨u,r,l⟩:=hl i x v e1 e2 e3
  refine ⟨u,r,?_⟩
  rcases l with l|⟨k,c,e,z⟩
  ·exact .inl l
  ·exact .inr ⟨k,c,e,cellK x c e _ z⟩
 ·obtain ⟨v,z⟩:=I.cell x c e
  exact ⟨v,cellK x c e v z⟩
 ·obtain ⟨m,⟨o,_,_,ho,_⟩,_⟩:=I.loc
  exact free _ o (fun z=>(hch _ z).2.1 rfl) ho I.free
 ·obtain ⟨v,o,ho,hd⟩:=I.cell x c e
  exact free c o (fun z=>(hch c z).2.2.1 x c e rfl) ho (I.freeC x c e)
 ·obtain ⟨e,n,ne,nf,d⟩:=I.pin p hp
  have nch:p.1∉ch:=fun z=>(hch p.1 z).2.2.2 p hp rfl
  exact ⟨keep p.1 p.2 ne nf nch e n,free p.1 p.2 nch e n,ne,nf,d⟩
theorem Inv.un {t':Nat} (I:Inv X pins σ H s) (u:Un X.fs [] H H' s.heap h') (hok:HOk X.prog X.w H' h'):Inv X pins σ H' {s with heap:=h',toks:=t'}:=by
 obtain ⟨m,⟨o,es,ep,ho,r⟩,_⟩:=id I.loc
 obtain ⟨sl,hL⟩:=u.any ho I.free (by simp)
 exact I.step (g':=s.gens) (d':=s.drawn) (ch:=[]) (fun _ z=>nomatch z) (fun b o _ hb _ e n=>u.keep b o e n hb (by simp)) (fun b o _ hb _ e n=>u.slot b o e n hb (by simp)) (fun b o _ e n=>u.free b o e n (by simp)) (fun b o _ e=>u.there b o e (by simp)) u.tups u.frzs u.tbls (fun m' hm=>by
  obtain ⟨o',es',ep',ho',r'⟩:=hm
  rw [ho] at ho';cases ho'
  exact ⟨_,es',ep',hL,r'⟩) hok I.bare
theorem Inv.call {g':Array GenState} {t':Nat} {d':Drawn} {ch:List Addr} (I:Inv X pins σ H s) (u:Un (frs X.stack) ch H H' s.heap h') (hok:HOk X.prog X.w H' h') (hg:AllBare g')
  (hch:∀b∈ch,(b∈X.ex∨X.s₀.heap.objs.size≤b)∧b≠X.env.locals∧(∀x c,X.env.cells.lookup x=some c→c≠b)∧∀p∈X.pn++pins,p.1≠b):
  Inv X pins σ H' {s with heap:=h',gens:=g',drawn:=d',toks:=t'}:=by
 obtain ⟨m,⟨o,es,ep,ho,r⟩,_⟩:=id I.loc
 obtain ⟨sl,hL⟩:=u.any ho I.free fun z=>(hch _ z).2.1 rfl
 exact I.step (ch:=ch) hch (fun b o hL hb hc e n=>u.keep b o e n (fun z=>(List.mem_cons.mp (I.stkSub b z)).elim hL hb) hc) (fun b o _ _ hc e n=>u.any e n hc) (fun b o hc e n=>u.free b o e n hc) (fun b o hc e=>u.there b o e hc) u.tups u.frzs u.tbls (fun m' hm=>by
  obtain ⟨o',es',ep',ho',r'⟩:=hm
  rw [ho] at ho';cases ho'
  exact ⟨_,es',ep',hL,r'⟩) hok hg
theorem Inv.turned {t':Nat} {it:Addr} (I:Inv X pins σ H s) (k:∀b o,b≠it→s.heap.get? b=some o→h'.get? b=some o) (hn:H it=none) (hL:it≠X.env.locals)
  (h1:it∈X.ex∨X.s₀.heap.objs.size≤it) (h2:∀x c,X.env.cells.lookup x=some c→c≠it) (h3:∀p∈X.pn++pins,p.1≠it):Inv X pins σ H {s with heap:=h',toks:=t'}:=by
 have nit:∀b u,H b=some u→b≠it:=fun b u e z=>by rw [z,hn] at e;cases e
 refine I.step (g':=s.gens) (d':=s.drawn) (ch:=[it]) (fun b hb=> ?_) (fun b o _ _ hc e _=>k b o (fun z=>hc (by simp [z])) e) (fun b o _ _ hc e _=>⟨o.slots,k b o (fun z=>hc (by simp [z])) e⟩) (fun _ _ _ _ n=>n)
  (fun b o hc e=>⟨o,k b o (fun z=>hc (by simp [z])) e⟩) (fun _ _ e=>e) (fun _ _ _ e=>e) (fun b ps e=>⟨#[],by rw [e];simp⟩) (fun m hm=> ?_) (fun b u e=> ?_) I.bare
 ·have e:b=it:=by simpa using hb
  subst e
  exact ⟨h1,hL,h2,h3⟩
 ·obtain ⟨o,es,ep,ho,r⟩:=hm
  exact ⟨o,es,ep,k _ o (Ne.symm hL) ho,r⟩
 ·refine (I.hok b u e).stay (fun c v hc q=>k c v ?_ q) (fun _ q=>q) fun _ _ q=>q
  rcases hc with z|z
  ·rw [z];exact nit b u e
  ·exact nit c _ z
theorem Inv.tok (I:Inv X pins σ H s) (t:Nat):Inv X pins σ H {s with toks:=t}:=I.un (h':=s.heap) (t':=t) Un.refl I.hok
theorem Inv.kept {t':Nat} (I:Inv X pins σ H s) (k:∀b u,s.heap.get? b=some u→h'.get? b=some u):Inv X pins σ H {s with heap:=h',toks:=t'}:=I.un (Un.kept k) (I.hok.kept k)
theorem Inv.laid {a:Addr} {o:HO} {t':Nat} (I:Inv X pins σ H s) (k:∀b u,s.heap.get? b=some u→h'.get? b=some u) (hp:s.heap.objs.size≤a) (new:xD X.prog X.w (upd H a o) h' a o):
  Inv X pins σ (upd H a o) {s with heap:=h',toks:=t'}:=I.un (Un.laid k hp (I.hok.fresh hp)) (I.hok.laid k hp new)
theorem Inv.write {x e:Addr} {o:HO} {t':Nat} (I:Inv X pins σ H s) (mu:Mut (H x)) (he:e=x∨H e=some (.own x)) (k:∀b u,b≠e→s.heap.get? b=some u→h'.get? b=some u) (heo:∃u,h'.get? e=some u)
  (new:xD X.prog X.w (upd H x o) h' x o):Inv X pins σ (upd H x o) {s with heap:=h',toks:=t'}:=I.un (Un.write mu he k heo) (I.hok.write mu he k heo new)
theorem Inv.weak {σ':List (Option V)} (I:Inv X pins σ H s) (hl:σ'.length=σ.length) (w:∀(i:Nat) v,σ'[i]? =some (some v)→σ[i]? =some (some v)):Inv X pins σ' H s:=
 ⟨I.ok,I.os,I.bare,I.base,let ⟨m,hn,hl'⟩:=I.loc;⟨m,hn,fun i x v e1 e2 e3=>hl' i x v e1 (w i v e2) e3⟩,I.cell,I.free,I.freeC,I.pin,I.hok,hl.trans I.len⟩
theorem Inv.pins_of {pins':List (Addr×Obj)} (I:Inv X pins σ H s) (h:∀p∈pins',s.heap.get? p.1=some p.2∧H p.1=none∧p.1≠X.env.locals∧p.1∉X.fs∧∀v,p.2.data≠ .cell v):Inv X pins' σ H s:=
 ⟨I.ok,I.os,I.bare,I.base,I.loc,I.cell,I.free,I.freeC,fun p hp=>(List.mem_append.mp hp).elim (fun z=>I.pin p (List.mem_append_left _ z)) (h p),I.hok,I.len⟩

theorem zbn {N:List Str} (hN:N.Nodup) {i j:Nat} {x:Str} (a:N[i]? =some x) (b:N[j]? =some x):i=j:=by
 obtain ⟨h1,e1⟩:=List.getElem?_eq_some_iff.mp a
 obtain ⟨h2,e2⟩:=List.getElem?_eq_some_iff.mp b
 exact (List.getElem_inj hN).mp (e1.trans e2.symm)

theorem zak {M:Model} {A:Around} {E:Value→Shared→Prop} {i:Nat} {x:Str} {v:V} {u:Value} {Q:Unit→Shared→Prop} (I:Inv X pins σ H s) (hN:X.N.Nodup) (hi:X.N[i]? =some x) (hx:Loc X.env.scope x) (r:yQ v u)
  (h:∀s',Inv X pins (σ.set i (some v)) H s'→(∃a,Heap.SameBut a s.heap s'.heap∧(a=X.env.locals∨X.env.cells.lookup x=some a))→Q () s') (hf:X.fn x=true∨X.env.scope.names.lookup x=some .local:=by first|exact .inl rfl|exact .inr rfl|assumption):wpAny M A (storeName X.env x u) Q E s:=by
 obtain ⟨m,hn,hl⟩:=id I.loc
 have hcls:(X.env.scope.kind== .class||(X.env.scope.kind== .module&&X.env.locals !=X.env.globals))=false:=by rw [I.ok.kind];rfl
 have hiσ:i<σ.length:=by rw [I.len];exact (List.getElem?_eq_some_iff.mp hi).1
 have cne:=I.cne
 have tracked:∀{a:Addr} {h':Heap},(∃o,s.heap.get? a=some o∧H a=none)→Heap.SameBut a s.heap h'→HOk X.prog X.w H h':=fun {a h'} ha hs b ob e=>by
  obtain ⟨_,_,hfree⟩:=ha
  refine (I.hok b ob e).stay (fun c w' hc q=>(hs.2 c ?_).trans q) (fun _ q=>q) fun _ _ q=>q
  rintro rfl
  rcases hc with rfl|hc
  ·rw [hfree] at e;cases e
  ·rw [hfree] at hc;cases hc
 rcases hx with hk|hk
 ·refine wpAny_storeName_local hk hn (fun h' hn' hs=> ?_) hcls
  obtain ⟨oL,_,_,hoL,_⟩:=id hn
  refine h _ ⟨I.ok,I.os,I.bare,⟨fun b o e n hb hx=> ?_,fun b o e n hb hx=> ?_,I.base.free,fun b o e hx=> ?_,I.base.tups,I.base.frzs,I.base.tbls⟩,⟨_,hn',fun j y v' e1 e2 e3=> ?_⟩,fun y c e=> ?_,I.free,I.freeC,fun p hp=> ?_,tracked ⟨oL,hoL,I.free⟩ hs,by simpa using I.len⟩ ⟨_,hs,.inl rfl⟩
  ·exact (hs.2 b (Nat.ne_of_lt (Nat.lt_of_lt_of_le (Heap.lt_size e) I.ok.above))).trans (I.base.keep b o e n hb hx)
  ·obtain ⟨sl,e1⟩:=I.base.slot b o e n hb hx
   exact ⟨sl,(hs.2 b (Nat.ne_of_lt (Nat.lt_of_lt_of_le (Heap.lt_size e) I.ok.above))).trans e1⟩
  ·obtain ⟨o',e1⟩:=I.base.there b o e hx
   exact ⟨o',(hs.2 b (Nat.ne_of_lt (Nat.lt_of_lt_of_le (Heap.lt_size e) I.ok.above))).trans e1⟩
  ·by_cases hj:j=i
   ·subst hj
    rw [hi] at e1;cases e1
    rw [List.getElem?_set_self hiσ] at e2
    cases e2
    exact ⟨u,r,.inl ⟨hk,by simp⟩⟩
   ·rw [List.getElem?_set_ne (Ne.symm hj)] at e2
    obtain ⟨u',r',q⟩:=hl j y v' e1 e2 e3
    refine ⟨u',r',?_⟩
    rcases q with ⟨k,e⟩|⟨k,c,e,z⟩
    ·refine .inl ⟨k,?_⟩
     have:y≠x:=fun e=>hj (zbn hN e1 (e ▸ hi))
     simp [this,e]
    ·exact .inr ⟨k,c,e,z.sameBut hs (cne y c e)⟩
  ·obtain ⟨w',z⟩:=I.cell y c e
   exact ⟨w',z.sameBut hs (cne y c e)⟩
  ·obtain ⟨e,n,ne,nf,d⟩:=I.pin p hp
   exact ⟨(hs.2 p.1 ne).trans e,n,ne,nf,d⟩
 ·have hfn:X.fn x=true:=by
   rcases hf with z|z
   ·exact z
   ·rw [z] at hk;cases hk
  obtain ⟨c,hc⟩:=I.ok.has x (.inl hk)
  obtain ⟨w',z⟩:=I.cell x c hc
  refine wpAny_storeName_cell I.ok.kind hk hc z (fun h' hc' hs=> ?_)
  obtain ⟨oc,hoc,hocd⟩:=id z
  refine h {s with heap:=h'} ⟨I.ok,I.os,I.bare,⟨fun b o e n hb hx=> ?_,fun b o e n hb hx=> ?_,I.base.free,fun b o e hx=> ?_,I.base.tups,I.base.frzs,I.base.tbls⟩,⟨m,hn.sameBut hs (Ne.symm (cne x c hc)),fun j y v' e1 e2 e3=> ?_⟩,fun y c' e=> ?_,I.free,I.freeC,fun p hp=> ?_,tracked ⟨oc,hoc,I.freeC x c hc⟩ hs,by simpa using I.len⟩ ⟨c,hs,.inr hc⟩
  ·exact (hs.2 b (Nat.ne_of_lt (Nat.lt_of_lt_of_le (Heap.lt_size e) (I.ok.cab x c hfn hc)))).trans (I.base.keep b o e n hb hx)
  ·obtain ⟨sl,e1⟩:=I.base.slot b o e n hb hx
   exact ⟨sl,(hs.2 b (Nat.ne_of_lt (Nat.lt_of_lt_of_le (Heap.lt_size e) (I.ok.cab x c hfn hc)))).trans e1⟩
  ·obtain ⟨o',e1⟩:=I.base.there b o e hx
   exact ⟨o',(hs.2 b (Nat.ne_of_lt (Nat.lt_of_lt_of_le (Heap.lt_size e) (I.ok.cab x c hfn hc)))).trans e1⟩
  ·by_cases hj:j=i
   ·subst hj
    rw [hi] at e1;cases e1
    rw [List.getElem?_set_self hiσ] at e2
    cases e2
    exact ⟨u,r,.inr ⟨.inl hk,c,hc,hc'⟩⟩
   ·rw [List.getElem?_set_ne (Ne.symm hj)] at e2
    obtain ⟨u',r',q⟩:=hl j y v' e1 e2 e3
    refine ⟨u',r',?_⟩
    rcases q with q|⟨k,c',e,z'⟩
    ·exact .inl q
    ·refine .inr ⟨k,c',e,z'.sameBut hs ?_⟩
     rintro rfl
     exact hj (zbn hN e1 (I.ok.inj _ _ _ e hc ▸ hi))
  ·by_cases hcc:c'=c
   ·subst hcc;exact ⟨_,hc'⟩
   ·obtain ⟨w2,z2⟩:=I.cell y c' e
    exact ⟨w2,z2.sameBut hs hcc⟩
  ·obtain ⟨e,n,ne,nf,d⟩:=I.pin p hp
   refine ⟨(hs.2 p.1 ?_).trans e,n,ne,nf,d⟩
   intro q
   rw [q,hoc] at e
   have q':oc=p.2:=Option.some.inj e
   exact d w' (by rw [←q'];exact hocd)
theorem zbo {M:Model} {A:Around} {E:Value→Shared→Prop} {i:Nat} {x:Str} {v:V} {u:Value} {Q:Unit→Shared→Prop} (I:Inv X pins σ H s) (hN:X.N.Nodup) (hi:X.N[i]? =some x) (hx:Loc X.env.scope x) (r:yQ v u)
  (h:∀s',Inv X pins (σ.set i (some v)) H s'→Q () s') (hf:X.fn x=true∨X.env.scope.names.lookup x=some .local:=by first|exact .inl rfl|exact .inr rfl|assumption):wpAny M A (storeName X.env x u) Q E s:=
 zak I hN hi hx r (fun s' I' _=>h s' I') hf
theorem Inv.call' {s':Shared} {ch:List Addr} (I:Inv X pins σ H s) (ho:s'.os=s.os) (u:Un (frs X.stack) ch H H' s.heap s'.heap) (hok:HOk X.prog X.w H' s'.heap) (hg:AllBare s'.gens)
  (hch:∀b∈ch,(b∈X.ex∨X.s₀.heap.objs.size≤b)∧b≠X.env.locals∧(∀x c,X.env.cells.lookup x=some c→c≠b)∧∀p∈X.pn++pins,p.1≠b):Inv X pins σ H' s':=by
 obtain ⟨h',g',d',t',o'⟩:=s'
 have e:o'=s.os:=ho
 subst e
 exact I.call (g':=g') (t':=t') (d':=d') u hok hg hch
end

noncomputable abbrev XK:=Value→Option Addr→Hp→Prop
noncomputable abbrev St:=List (Option V)
noncomputable abbrev VK:=V→Hp→Prop
noncomputable abbrev TE:=St→Hp→VK→Prop
noncomputable abbrev TT:=St→Hp→(Bool→Hp→Prop)→Prop
noncomputable abbrev TA:=St→Hp→(List V→Hp→Prop)→Prop
structure VI where
 nx:St→Hp→Prop
 rt:VK
 bk:St→Hp→Prop:=fun _ _=>False
 ct:St→Hp→Prop:=fun _ _=>False
noncomputable abbrev TS:=VI→St→Hp→Prop

noncomputable def EP (X:Cx) (pins:List (Addr×Obj)) (σ:St) (Q:VK) (u:Value) (s':Shared):Prop:=∃v H',Inv X pins σ H' s'∧yQ v u∧Q v H'
noncomputable def TP (X:Cx) (pins:List (Addr×Obj)) (σ:St) (Q:Bool→Hp→Prop) (b:Bool) (s':Shared):Prop:=∃H',Inv X pins σ H' s'∧Q b H'
noncomputable def AP (X:Cx) (pins:List (Addr×Obj)) (σ:St) (Q:List V→Hp→Prop) (us:List Value) (s':Shared):Prop:=∃vs H',Inv X pins σ H' s'∧yE vs us∧Q vs H'
noncomputable def SP (X:Cx) (pins:List (Addr×Obj)) (D:VI) (f:Flow) (s':Shared):Prop:=
 match f with
 | .next=>∃σ' H',Inv X pins σ' H' s'∧D.nx σ' H'
 | .brk=>∃σ' H',Inv X pins σ' H' s'∧D.bk σ' H'
 | .cont=>∃σ' H',Inv X pins σ' H' s'∧D.ct σ' H'
 | .ret u=>∃v σ' H',Inv X pins σ' H' s'∧yQ v u∧D.rt v H'

noncomputable def PE (X:Cx) (e:Expr) (t:TE):Prop:=
 ∀(pins:List (Addr×Obj)) (s:Shared) (σ:St) (H:Hp) (Q:VK),Inv X pins σ H s→t σ H Q→wpAny (model X.prog X.w) X.A (eval e X.env) (EP X pins σ Q) X.xe s
noncomputable def PT (X:Cx) (e:Expr) (t:TT):Prop:=
 ∀(pins:List (Addr×Obj)) (s:Shared) (σ:St) (H:Hp) (Q:Bool→Hp→Prop),Inv X pins σ H s→t σ H Q→wpAny (model X.prog X.w) X.A (isTrue e X.env (eval e X.env)) (TP X pins σ Q) X.xe s
noncomputable def PW (X:Cx) (e:Expr) (t:TT):Prop:=
 ∀(whole:Sem Value) (pins:List (Addr×Obj)) (s:Shared) (σ:St) (H:Hp) (Q:Bool→Hp→Prop),Inv X pins σ H s→t σ H Q→wpAny (model X.prog X.w) X.A (isTrue e X.env whole) (TP X pins σ Q) X.xe s
theorem PW.pt {X:Cx} {e:Expr} {t:TT} (h:PW X e t):PT X e t:=h _
noncomputable def PA (X:Cx) (es:List Expr) (t:TA):Prop:=
 ∀(pos:Pos) (pins:List (Addr×Obj)) (s:Shared) (σ:St) (H:Hp) (Q:List V→Hp→Prop),Inv X pins σ H s→t σ H Q→wpAny (model X.prog X.w) X.A (spliced (backTo pos (starEach es X.env))) (AP X pins σ Q) X.xe s
noncomputable def PS (X:Cx) (st:Stmt) (t:TS):Prop:=
 ∀(pins:List (Addr×Obj)) (s:Shared) (σ:St) (H:Hp) (D:VI),Inv X pins σ H s→t D σ H→wpAny (model X.prog X.w) X.A (exec st X.env) (SP X pins D) X.xe s
noncomputable def PSs (X:Cx) (st:List Stmt) (t:TS):Prop:=
 ∀(pins:List (Addr×Obj)) (s:Shared) (σ:St) (H:Hp) (D:VI),Inv X pins σ H s→t D σ H→wpAny (model X.prog X.w) X.A (execs st X.env) (SP X pins D) X.xe s
theorem thn {α:Type} {t:Sem α} {Q Q':α→Shared→Prop} {M:Model} {A:Around} {E:Value→Shared→Prop} {s:Shared} (h:wpAny M A t Q E s) (hQ:∀a s,Q a s→Q' a s):wpAny M A t Q' E s:=wpAny_mono h hQ fun _ _ x=>x
end L2

namespace L2
open PySem PySem.Spec PyProof.Rows
section
variable {X:Cx}

theorem bin {a b:Expr} {ta tb:TE} (ha:PE X a ta) (hb:PE X b tb) {pins:List (Addr×Obj)} {s:Shared} {σ:St} {H:Hp} {R:V→V→Hp→Prop} (I:Inv X pins σ H s) (h:ta σ H fun x H1=>tb σ H1 fun y H2=>R x y H2)
  {α:Type} {Q:α→Shared→Prop} {f:Value→Value→Sem α}
  (hf:∀v u s2 x y H2,Inv X pins σ H2 s2→yQ x v→yQ y u→R x y H2→wpAny (model X.prog X.w) X.A (f v u) Q X.xe s2):
  wpAny (model X.prog X.w) X.A (eval a X.env) (fun v s₁=>wpAny (model X.prog X.w) X.A (eval b X.env) (fun u s₂=>wpAny (model X.prog X.w) X.A (f v u) Q X.xe s₂) X.xe s₁) X.xe s:=by
 refine thn (ha pins s σ H _ I h) ?_
 rintro v s1 ⟨x,H1,I1,r1,q1⟩
 refine thn (hb pins s1 σ H1 _ I1 q1) ?_
 rintro u s2 ⟨y,H2,I2,r2,q2⟩
 exact hf v u s2 x y H2 I2 r1 r2 q2

noncomputable def zho (i:Nat):TE:=fun σ H Q=>∃v,σ[i]? =some (some v)∧Q v H
noncomputable def tC (v:V):TE:=fun _ H Q=>Q v H
theorem zhp {i:Nat} {x:Str} {pos:Pos} (hN:X.N[i]? =some x) (hv:Vis X.env.scope x) (hd:(x==("__debug__":Str))=false:=by decide) (hcd:(x==("__classdict__":Str))=false:=by decide):PE X (.Name x pos) (zho i):=by
 intro pins s σ H Q I h
 obtain ⟨v,e,h⟩:=h
 obtain ⟨m,hn,hl⟩:=I.loc
 obtain ⟨u,r,l⟩:=hl i x v hN e hv
 have fin:EP X pins σ Q u s:=⟨v,H,I,r,h⟩
 rcases l with ⟨hk,hm⟩|⟨hk,c,hc,hcell⟩
 ·exact wpAny_Name (wpAny_loadName_local I.ok.kind hk hn hm fin) hd
 ·rcases hk with hk|hk
  ·exact wpAny_Name (wpAny_loadName_cell I.ok.kind hk hc hcell fin) hd
  ·exact wpAny_Name (wpAny_loadName_free I.ok.kind hk hc hcell fin hcd) hd
theorem zj {i j pos}:PE X (.Constant (.int i) j pos) (tC (.int i)):=fun _ _ _ H _ I h=>wpAny_Constant_int ⟨.int i,H,I.tok _,⟨_,rfl⟩,h⟩
theorem Zu {b j pos}:PE X (.Constant (.bool b) j pos) (tC (.bl b)):=fun _ _ _ H _ I h=>Constant_bool ⟨.bl b,H,I,rfl,h⟩
theorem zA {x j pos}:PE X (.Constant (.str x) j pos) (tC (.str x)):=fun _ _ _ H _ I h=>Calls.Constant_str ⟨.str x,H,I.tok _,⟨_,rfl⟩,h⟩

noncomputable def Gl (X:Cx) (x:Str):Prop:=X.env.kindOf x=some .globalImplicit
theorem zcX {E:Value→Shared→Prop} {pins:List (Addr×Obj)} {s:Shared} {σ:St} {H:Hp} {x:Str} {u:Value} {pos:Pos} {Q:Value→Shared→Prop} (I:Inv X pins σ H s) (hg:Gl X x) (hm:X.mg x=some u) (h:Q u s)
  (hd:(x==("__debug__":Str))=false:=by decide):wpAny (model X.prog X.w) X.A (eval (.Name x pos) X.env) Q E s:=
 Calls.Name_function_global I.ok.kind hg (Calls.loadGlobal_global (by rw [I.ok.glob];exact I.mod.glob.keeps I.bk) hm h) hd
theorem WN {E:Value→Shared→Prop} {pins:List (Addr×Obj)} {s:Shared} {σ:St} {H:Hp} {x:Str} {u:Value} {pos:Pos} {Q:Value→Shared→Prop} (I:Inv X pins σ H s) (hg:Gl X x) (hm:X.mg x=none) (hv:bootBuiltins x=some u) (h:Q u s)
  (hn:x≠"__name__":=by decide) (hd:(x==("__debug__":Str))=false:=by decide):wpAny (model X.prog X.w) X.A (eval (.Name x pos) X.env) Q E s:=by
 obtain ⟨mb,h1,h2⟩:=I.mod.blt
 exact Calls.Name_function_global I.ok.kind hg (Calls.loadGlobal_builtin (by rw [I.ok.glob];exact I.mod.glob.keeps I.bk) hm (by rw [I.ok.blt];exact h1.keeps I.bk) ((h2 x hn).trans hv) h) hd
theorem wc {x:Str} {v:V} {u:Value} {pos:Pos} (hg:Gl X x) (hm:X.mg x=some u) (r:yQ v u) (hd:(x==("__debug__":Str))=false:=by decide):PE X (.Name x pos) (tC v):=
 fun _ _ _ H _ I h=>zcX I hg hm ⟨v,H,I,r,h⟩ hd
theorem Ut {x:Str} {v:V} {u:Value} {pos:Pos} (hg:Gl X x) (hm:X.mg x=none) (hv:bootBuiltins x=some u) (r:yQ v u) (hn:x≠"__name__":=by decide) (hd:(x==("__debug__":Str))=false:=by decide):PE X (.Name x pos) (tC v):=
 fun _ _ _ H _ I h=>WN I hg hm hv ⟨v,H,I,r,h⟩ hn hd

noncomputable def t2I (ta tb:TE) (k:Int→Int→Hp→Prop):St→Hp→Prop:=fun σ H=>ta σ H fun x H1=>tb σ H1 fun y H2=>∃i j,x= .int i∧y= .int j∧k i j H2
variable {a b:Expr} {ta tb:TE} {pos:Pos}

noncomputable def PC (X:Cx) (op:CmpOp) (a b:Expr) (t:TE):Prop:=
 ∀(pins:List (Addr×Obj)) (s:Shared) (σ:St) (H:Hp) (Q:VK),Inv X pins σ H s→t σ H Q→
  wpAny (model X.prog X.w) X.A (eval a X.env) (fun v s₁=>wpAny (model X.prog X.w) X.A (eval b X.env) (fun u s₂=>wpAny (model X.prog X.w) X.A (compareOp op v u) (EP X pins σ Q) X.xe s₂) X.xe s₁) X.xe s
theorem zbp (b:Expr) {op:CmpOp} (h:op≠ .In) (h2:op≠ .NotIn):behindInMarks op b=false:=by
 have e1:(op==CmpOp.In)=false:=by cases op<;>first|rfl|exact absurd rfl h
 have e2:(op==CmpOp.NotIn)=false:=by cases op<;>first|rfl|exact absurd rfl h2
 cases b<;>simp [behindInMarks,e1,e2]
noncomputable def zbq (p:Int→Int→Bool) (ta tb:TE):TE:=fun σ H Q=>t2I ta tb (fun i j H2=>Q (.bl (p i j)) H2) σ H
noncomputable abbrev tLt:TE→TE→TE:=zbq fun i j=>decide (i<j)
noncomputable abbrev tLe:TE→TE→TE:=zbq fun i j=>decide (i≤j)
noncomputable abbrev tGt:TE→TE→TE:=zbq fun i j=>decide (j<i)
noncomputable abbrev tGe:TE→TE→TE:=zbq fun i j=>decide (j≤i)
noncomputable abbrev ziG:TE→TE→TE:=zbq fun i j=>decide (i=j)
noncomputable abbrev ziH:TE→TE→TE:=zbq fun i j=> !decide (i=j)
theorem Ux {op:CmpOp} {p:Int→Int→Bool} (ha:PE X a ta) (hb:PE X b tb)
  (rule:∀(i j:Int) (t u:Tok) (Q:Value→Shared→Prop) (s:Shared),Q (.bool (p i j)) s→wpAny (model X.prog X.w) X.A (compareOp op (.int i t) (.int j u)) Q X.xe s):PC X op a b (zbq p ta tb):=by
 intro pins s σ H Q I h
 refine bin ha hb I h fun v u s2 x y H2 I2 rx ry q=> ?_
 obtain ⟨i,j,rfl,rfl,q⟩:=q
 obtain ⟨t,rfl⟩:=rx
 obtain ⟨t',rfl⟩:=ry
 exact rule i j t t' _ s2 ⟨.bl _,H2,I2,rfl,q⟩
theorem WE (ha:PE X a ta) (hb:PE X b tb):PC X .Lt a b (tLt ta tb):=Ux ha hb fun _ _ _ _ _ _ h=>lt_int h
theorem zcY (ha:PE X a ta) (hb:PE X b tb):PC X .LtE a b (tLe ta tb):=Ux ha hb fun _ _ _ _ _ _ h=>le_int h
theorem XA (ha:PE X a ta) (hb:PE X b tb):PC X .Gt a b (tGt ta tb):=Ux ha hb fun _ _ _ _ _ _ h=>gt_int h
theorem yK (ha:PE X a ta) (hb:PE X b tb):PC X .Eq a b (ziG ta tb):=Ux ha hb fun _ _ _ _ _ _ h=>eq_int (by rw [Bool.beq_eq_decide_eq];exact h)
theorem zer (ha:PE X a ta) (hb:PE X b tb):PC X .NotEq a b (ziH ta tb):=Ux ha hb fun _ _ _ _ _ _ h=>ne_int (by rw [bne,Bool.beq_eq_decide_eq];exact h)
noncomputable def tB (t:TE):TT:=fun σ H Q=>t σ H fun x H1=>∃c,x= .bl c∧Q c H1
theorem YI {op:CmpOp} {t:TE} (h:PC X op a b t) (h1:behindInMarks op b=false:=by first|exact zbp _ (by decide) (by decide)|rfl):PE X (.Compare a [op] [b] pos) t:=fun pins s σ H Q I hw=>wpAny_Compare1 (h pins s σ H Q I hw) h1
theorem ya {op:CmpOp} {t:TE} (h:PC X op a b t) (h1:behindInMarks op b=false:=by first|exact zbp _ (by decide) (by decide)|rfl):PT X (.Compare a [op] [b] pos) (tB t):=by
 intro pins s σ H Q I hw
 refine wpAny_isTrue_Compare1 (thn (h pins s σ H _ I hw) fun v s1 h1=>thn h1 fun u s2 h2=>thn h2 ?_) h1
 rintro c s3 ⟨x,H1,I1,r1,q1⟩
 obtain ⟨d,rfl,q⟩:=q1
 cases r1
 exact wpAny_truthy_bool ⟨H1,I1,q⟩
theorem YJ {e:Expr} {t:TE} (h:PE X e t) (he:∀whole,isTrue e X.env whole=(do let v ←whole;standAt e.pos;holding [v] (truthy v)):=by intro _;rfl):PT X e (tB t):=by
 intro pins s σ H Q I hw
 refine isTrue_plain (thn (h pins s σ H _ I hw) ?_) (he _)
 rintro v s1 ⟨x,H1,I1,r1,q1⟩
 obtain ⟨d,rfl,q⟩:=q1
 cases r1
 exact wpAny_truthy_bool ⟨H1,I1,q⟩

variable {tA tB':TT} {rest:List Expr}
noncomputable def ziI (t u:TT):TT:=fun σ H Q=>t σ H fun c H1=>if c=true then u σ H1 Q else Q false H1
noncomputable def tOr (t u:TT):TT:=fun σ H Q=>t σ H fun c H1=>if c=true then Q true H1 else u σ H1 Q
noncomputable def ziJ (t:TT):TT:=fun σ H Q=>t σ H fun c H1=>Q (!c) H1
theorem ZV (ha:PT X a tA):PW X (.BoolOp .And [a] pos) tA:=by
 intro wh pins s σ H Q I h
 refine isTrue_and (thn (ha pins s σ H Q I h) fun c s1 e=> ?_)
 cases c with
 |true=>exact isTrue_and_nil e
 |false=>exact e
theorem Uy (ha:PT X a tA):PW X (.BoolOp .Or [a] pos) tA:=by
 intro wh pins s σ H Q I h
 refine isTrue_or (thn (ha pins s σ H Q I h) fun c s1 e=> ?_)
 cases c with
 |false=>exact isTrue_or_nil e
 |true=>exact e
theorem XF (ha:PT X a tA) (hb:PW X (.BoolOp .And (b::rest) pos) tB'):PW X (.BoolOp .And (a::b::rest) pos) (ziI tA tB'):=by
 intro wh pins s σ H Q I h
 refine isTrue_and (thn (ha pins s σ H _ I h) ?_)
 rintro c s1 ⟨H1,I1,q1⟩
 cases c with
 |true=>exact hb wh pins s1 σ H1 Q I1 q1
 |false=>exact ⟨H1,I1,q1⟩
theorem zbr (ha:PT X a tA) (hb:PW X (.BoolOp .Or (b::rest) pos) tB'):PW X (.BoolOp .Or (a::b::rest) pos) (tOr tA tB'):=by
 intro wh pins s σ H Q I h
 refine isTrue_or (thn (ha pins s σ H _ I h) ?_)
 rintro c s1 ⟨H1,I1,q1⟩
 cases c with
 |true=>exact ⟨H1,I1,q1⟩
 |false=>exact hb wh pins s1 σ H1 Q I1 q1
theorem XG (ha:PT X a tA):PT X (.UnaryOp .Not a pos) (ziJ tA):=by
 intro pins s σ H Q I h
 exact isTrue_not (ha pins s σ H (fun c H1=>Q (!c) H1) I h)
noncomputable def zgP (ta tb:TE):TE:=fun σ H Q=>ta σ H fun x H1=>∃c,x= .bl c∧if c=true then tb σ H1 Q else Q (.bl false) H1
noncomputable def zgQ (ta:TE):TE:=fun σ H Q=>ta σ H fun x H1=>∃c,x= .bl c∧Q (.bl (!c)) H1
theorem VJ {op} {t:TE} (h:PE X a t):PE X (.BoolOp op [a] pos) t:=fun pins s σ H Q I hw=>BoolOp_one (h pins s σ H Q I hw)
theorem VL (ha:PE X a ta) (hb:PE X (.BoolOp .And (b::rest) pos) tb):PE X (.BoolOp .And (a::b::rest) pos) (zgP ta tb):=by
 intro pins s σ H Q I h
 refine BoolOp_and (thn (ha pins s σ H _ I h) ?_)
 rintro v s1 ⟨x,H1,I1,r1,q1⟩
 obtain ⟨c,rfl,q1⟩:=q1
 cases r1
 refine wpAny_truthy_bool ?_
 cases c with
 |true=>exact hb pins s1 σ H1 Q I1 q1
 |false=>exact ⟨.bl false,H1,I1,rfl,q1⟩
theorem zhq (ha:PE X a ta):PE X (.UnaryOp .Not a pos) (zgQ ta):=by
 intro pins s σ H Q I h
 refine UnaryOp_ (thn (ha pins s σ H _ I h) ?_)
 rintro v s1 ⟨x,H1,I1,r1,q1⟩
 obtain ⟨c,rfl,q1⟩:=q1
 cases r1
 exact not_of (wpAny_truthy_bool ⟨.bl (!c),H1,I1,rfl,q1⟩)
end
end L2

namespace L2
open PySem PySem.Spec PyProof.Rows

noncomputable def SqL (K:PySem.W.Frag) (H:Hp) (a:Addr) (xs:List V):Prop:=
 Rd H a (.lst xs)∨
  ∃(o:Obj) (its:Array Value) (n:Nat),K.lookup a=some o∧o.cls= .type "list"∧o.dict=none∧o.data= .seq its n∧its.size≤sizeLine∧yE xs its.toList
noncomputable def SqT (K:PySem.W.Frag) (H:Hp) (a:Addr) (xs:List V):Prop:=
 Rd H a (.tup xs)∨
  ∃(o:Obj) (its:Array Value) (n:Nat),K.lookup a=some o∧o.cls= .type "tuple"∧o.data= .seq its n∧its.size≤sizeLine∧yE xs its.toList
noncomputable def SqX (K:PySem.W.Frag) (H:Hp) (a:Addr) (xs:List V):Prop:=
 Rd H a (.lst xs)∨∃(its:Array Value) (n:Nat),K.lookup a=some {cls:= .type "list",data:= .seq its n}∧its.size≤sizeLine∧yE xs its.toList
theorem SqX.sql {K:PySem.W.Frag} {H:Hp} {a:Addr} {xs:List V} (h:SqX K H a xs):SqL K H a xs:=by
 rcases h with h|⟨its,n,hk,hz,r⟩
 ·exact .inl h
 ·exact .inr ⟨_,its,n,hk,rfl,rfl,rfl,hz,r⟩
theorem SqX.of {K:PySem.W.Frag} {H:Hp} {a:Addr} {xs:List V} (h:H a=some (.lst xs)):SqX K H a xs:= .inl (.inl h)
noncomputable def zjH:Value→Option V
 | .none=>some .non
 | .bool b=>some (.bl b)
 | .int i _=>some (.int i)
 | .str x _=>some (.str x)
 | .bytes b _=>some (.byt b)
 | .float b _=>some (.flt b)
 | .ref a=>some (.ref a)
 | .type n=>some (.ty n)
 |_=>none
theorem yQ.abs {x:V} {u:Value} (r:yQ x u):zjH u=some x:=by
 cases x with
 |non=>cases r;rfl
 |bl _=>cases r;rfl
 |int _=>obtain ⟨t,rfl⟩:=r;rfl
 |str _=>obtain ⟨t,rfl⟩:=r;rfl
 |byt _=>obtain ⟨t,rfl⟩:=r;rfl
 |flt _=>obtain ⟨t,rfl⟩:=r;rfl
 |ref _=>cases r;rfl
 |ty _=>cases r;rfl
theorem yQ.inj {x y:V} {u:Value} (r:yQ x u) (q:yQ y u):x=y:=Option.some.inj (r.abs.symm.trans q.abs)
theorem yE.inj:∀{xs ys:List V} {us:List Value},yE xs us→yE ys us→xs=ys
 |_,_,_,.nil,.nil=>rfl
 |_,_,_,.cons r t,.cons r' t'=>by rw [r.inj r',yE.inj t t']
section
variable {X:Cx} {pins:List (Addr×Obj)} {σ:St} {H:Hp} {s:Shared} {a:Addr} {xs ys:List V}
theorem SqT.of {K:PySem.W.Frag} (h:H a=some (.tup xs)):SqT K H a xs:= .inl (.inl h)
theorem Inv.list (I:Inv X pins σ H s) (h:SqL X.K H a xs):∃its:List Value,yE xs its∧PlainL s.heap a its.toArray∧xs.length≤sizeLine:=by
 rcases h with h|⟨o,its,n,hk,hc,hd,hs,hz,r⟩
 ·obtain ⟨z,its,n,r,e⟩:=h.ok I.hok
  exact ⟨its,r,⟨_,n,e,rfl,rfl,rfl⟩,z⟩
 ·refine ⟨its.toList,r,⟨o,n,I.kIn a o hk,hc,hd,by simpa using hs⟩,?_⟩
  have e:=r.length
  simp only [Array.length_toList] at e
  omega
theorem Inv.tuple (I:Inv X pins σ H s) (h:SqT X.K H a xs):∃its:List Value,yE xs its∧IsTup s.heap a its.toArray∧xs.length≤sizeLine:=by
 rcases h with h|⟨o,its,n,hk,hc,hs,hz,r⟩
 ·obtain ⟨z,its,r,p⟩:=h.ok I.hok
  exact ⟨its,r,p.tup,z⟩
 ·refine ⟨its.toList,r,⟨o,I.kIn a o hk,hc,n,by simpa using hs⟩,?_⟩
  have e:=r.length
  simp only [Array.length_toList] at e
  omega
theorem Inv.list_inj (I:Inv X pins σ H s) (h:SqL X.K H a xs) (h':SqL X.K H a ys):xs=ys:=by
 obtain ⟨its,r,⟨o,n,e,_,_,d⟩,_⟩:=I.list h
 obtain ⟨its',r',⟨o',n',e',_,_,d'⟩,_⟩:=I.list h'
 rw [e] at e';cases e'
 rw [d] at d'
 injection d' with d1 _
 have:its=its':=by simpa using congrArg Array.toList d1
 subst this
 exact r.inj r'
theorem Inv.tuple_inj (I:Inv X pins σ H s) (h:SqT X.K H a xs) (h':SqT X.K H a ys):xs=ys:=by
 obtain ⟨its,r,⟨o,e,_,n,d⟩,_⟩:=I.tuple h
 obtain ⟨its',r',⟨o',e',_,n',d'⟩,_⟩:=I.tuple h'
 rw [e] at e';cases e'
 rw [d] at d'
 injection d' with d1 _
 have:its=its':=by simpa using congrArg Array.toList d1
 subst this
 exact r.inj r'
end

noncomputable abbrev Cx.wish (X:Cx) (E:Value→Shared→Prop):Cx:={X with xe:=E}
noncomputable abbrev Cx.nox (X:Cx):Cx:=X.wish fun _ _=>False
section
variable {X:Cx} {pins:List (Addr×Obj)} {σ:St} {H:Hp} {s:Shared} {E:Value→Shared→Prop}
end

section
variable {X:Cx} {st:Stmt} {rest:List Stmt} {t u:TS} {e:Expr} {te:TE} {pos:Pos}
noncomputable def zgR:TS:=fun D σ H=>D.nx σ H
noncomputable def ziK (t u:TS):TS:=fun D σ H=>t {D with nx:=u D} σ H
theorem zM:PSs X [] zgR:=fun _ _ σ H _ I h=>wpAny_execs_nil ⟨σ,H,I,h⟩
theorem zl (h1:PS X st t) (h2:PSs X rest u):PSs X (st::rest) (ziK t u):=by
 intro pins s σ H D I h
 refine wpAny_execs_cons (thn (h1 pins s σ H {D with nx:=u D} I h) fun f s1 q=> ?_)
 cases f with
 |next=>
  obtain ⟨σ',H',I',q⟩:=q
  exact h2 pins s1 σ' H' D I' q
 |ret v=>exact q
 |brk=>exact q
 |cont=>exact q
theorem zr (h1:PS X st t):PSs X [st] t:=by
 intro pins s σ H D I h
 refine wpAny_execs_cons (thn (h1 pins s σ H D I h) fun f s1 q=> ?_)
 cases f with
 |next=>exact wpAny_execs_nil q
 |ret v=>exact q
 |brk=>exact q
 |cont=>exact q
theorem Inv.quiet {pins:List (Addr×Obj)} {σ:St} {H:Hp} {s:Shared} (I:Inv X pins σ H s):interactive X.env=false:=by simp [interactive,I.ok.kind]
noncomputable def zgS (te:TE):TS:=fun D σ H=>te σ H fun _ H1=>D.nx σ H1
theorem YK (he:PE X e te) (hs:swapsWith e none pos.line X.env=pure false:=by rfl):PS X (.Expr e pos) (zgS te):=by
 intro pins s σ H D I h
 refine wpAny_Expr_any (thn (he pins s σ H _ I h) ?_) I.quiet hs
 rintro v s1 ⟨x,H1,I1,r1,q1⟩
 exact ⟨σ,H1,I1,q1⟩
noncomputable def ziL (te:TE):TS:=fun D σ H=>te σ H D.rt
theorem zI (he:PE X e te):PS X (.Return (some e) pos) (ziL te):=by
 intro pins s σ H D I h
 refine wpAny_Return_some (thn (he pins s σ H _ I h) ?_)
 rintro v s1 ⟨x,H1,I1,r1,q1⟩
 exact ⟨x,σ,H1,I1,r1,q1⟩
noncomputable def ziM (c:TT) (t u:TS):TS:=fun D σ H=>c σ H fun b H1=>if b=true then t D σ H1 else u D σ H1
theorem yh {c:Expr} {a b:List Stmt} {tc:TT} (hc:PT X c tc) (ha:PSs X a t) (hb:PSs X b u):PS X (.If c a b pos) (ziM tc t u):=by
 intro pins s σ H D I h
 refine wpAny_If (thn (hc pins s σ H _ I h) ?_)
 rintro d s1 ⟨H1,I1,q1⟩
 cases d with
 |true=>exact ha pins s1 σ H1 D I1 q1
 |false=>exact hb pins s1 σ H1 D I1 q1
end

noncomputable abbrev TG:=V→St→Hp→(St→Hp→Prop)→Prop
noncomputable abbrev TGs:=List V→St→Hp→(St→Hp→Prop)→Prop
noncomputable def PG (X:Cx) (target:Expr) (t:TG):Prop:=
 ∀(pins:List (Addr×Obj)) (s:Shared) (σ:St) (H:Hp) (v:V) (u:Value) (Q:St→Hp→Prop),Inv X pins σ H s→yQ v u→t v σ H Q→
  wpAny (model X.prog X.w) X.A (assign target X.env u) (fun _ s'=>∃σ' H',Inv X pins σ' H' s'∧Q σ' H') X.xe s
noncomputable def PGs (X:Cx) (ts:List Expr) (t:TGs):Prop:=
 ∀(pins:List (Addr×Obj)) (s:Shared) (σ:St) (H:Hp) (vs:List V) (us:List Value) (Q:St→Hp→Prop),Inv X pins σ H s→yE vs us→t vs σ H Q→
  wpAny (model X.prog X.w) X.A (assignInOrder ((assignEach ts X.env).map (·.2)) us) (fun _ s'=>∃σ' H',Inv X pins σ' H' s'∧Q σ' H') X.xe s
noncomputable abbrev zhr:=V→V→V→Hp→(Hp→Prop)→Prop
noncomputable def ziN (X:Cx) (t:zhr):Prop:=
 ∀(pins:List (Addr×Obj)) (s:Shared) (σ:St) (H:Hp) (o i v:V) (ov iv u:Value) (Q:Hp→Prop),Inv X pins σ H s→yQ o ov→yQ i iv→yQ v u→t o i v H Q→
  wpAny (model X.prog X.w) X.A (setItem ov iv u) (fun _ s'=>∃H',Inv X pins σ H' s'∧Q H') X.xe s
noncomputable abbrev TIp:=V→V→Hp→VK→Prop
section
variable {X:Cx} {pos:Pos}
noncomputable def zcZ (i:Nat):TG:=fun v σ H Q=>Q (σ.set i (some v)) H
theorem zO {i:Nat} {x:Str} (hN:X.N.Nodup) (hi:X.N[i]? =some x) (hx:Loc X.env.scope x) (hf:X.fn x=true∨X.env.scope.names.lookup x=some .local:=by first|exact .inl rfl|exact .inr rfl|assumption):PG X (.Name x pos) (zcZ i):=by
 intro pins s σ H v u Q I r h
 exact wpAny_assign_Name (zbo I hN hi hx r (fun s' I'=>⟨_,H,I',h⟩) hf)
noncomputable def ziO:TGs:=fun vs σ H Q=>vs=[]∧Q σ H
noncomputable def zgT (t:TG) (u:TGs):TGs:=fun vs σ H Q=>∃v r,vs=v::r∧t v σ H fun σ' H'=>u r σ' H' Q
theorem wd:PGs X [] ziO:=by
 intro pins s σ H vs us Q I r h
 obtain ⟨e,h⟩:=h
 subst e
 cases r
 exact assignInOrder_nil ⟨σ,H,I,h⟩
theorem yo {e:Expr} {es:List Expr} {t:TG} {u:TGs} (h1:PG X e t) (h2:PGs X es u)
  (hs:(assignEach (e::es) X.env).map (·.2)=assign e X.env::(assignEach es X.env).map (·.2):=by rfl):PGs X (e::es) (zgT t u):=by
 intro pins s σ H vs us Q I r h
 obtain ⟨v,vr,e1,h⟩:=h
 subst e1
 cases r with
 |cons r rr=>
  rw [hs]
  refine assignInOrder_cons (thn (h1 pins s σ H _ _ _ I r h) ?_)
  rintro _ s1 ⟨σ1,H1,I1,q1⟩
  exact h2 pins s1 σ1 H1 _ _ Q I1 rr q1
noncomputable def zhs (K:PySem.W.Frag) (n:Nat) (t:TGs):TG:=fun v σ H Q=>∃a xs,v= .ref a∧SqT K H a xs∧xs.length=n∧t xs σ H Q
theorem zht {es:List Expr} {k:Nat} {t:TGs} {n:Nat} (hc:X.calm=true) (h:PGs X es t)
  (hn:(assignEach es X.env).length=n:=by rfl) (hst:(assignEach es X.env).findIdx? (·.1)=none:=by rfl):PG X (.Tuple es k pos) (zhs X.K n t):=by
 intro pins s σ H v u Q I r hw
 obtain ⟨a,xs,e1,hq,hl,hw⟩:=hw
 subst e1
 cases r
 obtain ⟨its,rv,ht,hz⟩:=I.tuple hq
 refine assign_Tuple_tuple (I.ok.hd hc) ht (by simp [hn,←hl,rv.length]) hst fun h' hx=> ?_
 have I1:Inv X pins σ H {s with heap:=h'}:=I.kept (t':=s.toks) fun b o e=>hx b o (Nat.ne_of_lt (Heap.lt_size e)) e
 exact h pins _ σ H xs _ Q I1 (by simpa using rv) hw
noncomputable def ziP (to ti:TE) (t:zhr):TG:=fun v σ H Q=>to σ H fun o H1=>ti σ H1 fun i H2=>t o i v H2 fun H3=>Q σ H3
theorem zaK {o i:Expr} {to ti:TE} {t:zhr} (ho:PE X o to) (hi:PE X i ti) (hs:ziN X t)
  (ha:∀v,assign (.Subscript o i pos) X.env v=(do
   let ov ←holding [v] (eval o X.env)
   let iv ←holding [v,ov] (eval i X.env)
   standAt pos
   holding [v,ov,iv] (setItem ov iv v)
   release [v,ov,iv] []):=by intro _;rfl):PG X (.Subscript o i pos) (ziP to ti t):=by
 intro pins s σ H v u Q I r h
 rw [ha]
 refine wpAny_bind (wpAny_holding (thn (ho pins s σ H _ I h) ?_))
 rintro ov s1 ⟨x,H1,I1,r1,q1⟩
 refine wpAny_bind (wpAny_holding (thn (hi pins s1 σ H1 _ I1 q1) ?_))
 rintro iv s2 ⟨y,H2,I2,r2,q2⟩
 refine wpAny_bind (wpAny_standAt (wpAny_bind (wpAny_holding (thn (hs pins s2 σ H2 x y v ov iv u _ I2 r1 r2 r q2) ?_))))
 rintro _ s3 ⟨H3,I3,q3⟩
 exact wpAny_release ⟨σ,H3,I3,q3⟩
noncomputable def zhu (te:TE) (g:TG):TS:=fun D σ H=>te σ H fun x H1=>g x σ H1 D.nx
theorem wq {tg e:Expr} {te:TE} {g:TG} (he:PE X e te) (hg:PG X tg g) (hs:swapsWithSole [tg] e pos.line X.env=pure false:=by rfl) (hw:swappedStores [tg] e X.env=pure none:=by rfl)
  (h1:(assignEach [tg] X.env).map (·.2)=[assign tg X.env]:=by rfl):PS X (.Assign [tg] e pos) (zhu te g):=by
 intro pins s σ H D I h
 refine wpAny_Assign_stores (thn (he pins s σ H _ I h) ?_) hs hw
 rintro v s1 ⟨x,H1,I1,r1,q1⟩
 rw [h1]
 exact thn (hg pins s1 σ H1 x v _ I1 r1 q1) fun _ s2 q=>q
theorem zG {i:Nat} {x:Str} {e:Expr} {te:TE} {pos':Pos} (hN:X.N.Nodup) (hi:X.N[i]? =some x) (hx:Loc X.env.scope x) (he:PE X e te) (hs:swapsWith e (some (.Name x pos')) pos.line X.env=pure false:=by rfl) (hf:X.fn x=true∨X.env.scope.names.lookup x=some .local:=by first|exact .inl rfl|exact .inr rfl|assumption):
  PS X (.Assign [.Name x pos'] e pos) (zhu te (zcZ i)):=by
 intro pins s σ H D I h
 refine wpAny_Assign_Name (thn (he pins s σ H _ I h) ?_) hs
 rintro v s1 ⟨y,H1,I1,r1,q1⟩
 exact zbo I1 hN hi hx r1 (fun s2 I2=>⟨_,H1,I2,q1⟩) hf
end

section
variable {X:Cx} {pos:Pos}
noncomputable def zes (c:TT) (tb:TS):TS:=fun D σ H=>∃W:Nat→St→Hp→Prop,(∃m,W m σ H)∧∀m σ H,W m σ H→
 c σ H fun b H1=>if b=true then ∃N:St→Hp→Prop,(∀σ' H',N σ' H'→∃m',m'<m∧W m' σ' H')∧tb {D with nx:=N,ct:=N,bk:=D.nx} σ H1 else D.nx σ H1
theorem XH {c:Expr} {body:List Stmt} {tc:TT} {tb:TS} (hp:PassesOwn (model X.prog X.w) X.A X.env X.xe) (hc:PT X c tc) (hb:PSs X body tb):PS X (.While c body [] pos) (zes tc tb):=by
 intro pins s σ H D I h
 obtain ⟨W,⟨m0,w0⟩,turn⟩:=h
 refine wpAny_While (codeAny_whileLoop (fun n s'=>∃σ' H',Inv X pins σ' H' s'∧W n σ' H') ?_ m0 ⟨σ,H,I,w0⟩)
 rintro n s1 ⟨σ1,H1,I1,w1⟩
 refine wpAny_passesOwn hp (thn (hc pins s1 σ1 H1 _ I1 (turn n σ1 H1 w1)) ?_)
 rintro b s2 ⟨H2,I2,q2⟩
 cases b with
 |true=>
  obtain ⟨N,hN,q2⟩:=q2
  rw [if_pos rfl]
  refine wpAny_passesOwn hp (thn (hb pins s2 σ1 H2 _ I2 q2) fun f s3 q3=> ?_)
  cases f with
  |next=>
   obtain ⟨σ3,H3,I3,n3⟩:=q3
   obtain ⟨m',hm,w3⟩:=hN σ3 H3 n3
   exact ⟨m',hm,σ3,H3,I3,w3⟩
  |cont=>
   obtain ⟨σ3,H3,I3,n3⟩:=q3
   obtain ⟨m',hm,w3⟩:=hN σ3 H3 n3
   exact ⟨m',hm,σ3,H3,I3,w3⟩
  |brk=>exact q3
  |ret v=>exact q3
 |false=>
  rw [if_neg Bool.false_ne_true]
  exact wpAny_execs_nil ⟨σ1,H2,I2,q2⟩
end

structure It where
 go:Nat→Hp→Prop
 yld:Nat→Hp→V→Hp→Prop
 stop:Nat→Hp→Prop
noncomputable def zbs (X:Cx) (pins:List (Addr×Obj)) (H:Hp) (b:Addr):Prop:=
 H b=none∧b≠X.env.locals∧b∉X.fs∧(b∈X.ex∨X.s₀.heap.objs.size≤b)∧(∀x c,X.env.cells.lookup x=some c→c≠b)∧∀p∈X.pn++pins,p.1≠b
theorem Inv.fpOk {X:Cx} {pins:List (Addr×Obj)} {σ:St} {H H':Hp} {s:Shared} {b:Addr} (I:Inv X pins σ H s) (hb:s.heap.objs.size≤b) (hn:H' b=none):zbs X pins H' b:=by
 refine ⟨hn,Nat.ne_of_gt (Nat.lt_of_lt_of_le I.lt hb),I.nofs hb,.inr (Nat.le_trans I.sz hb),fun x c e z=> ?_,fun p hp z=> ?_⟩
 ·obtain ⟨v,q⟩:=I.cell x c e
  exact absurd (Nat.lt_of_lt_of_le q.lt (by rw [z];exact hb)) (Nat.lt_irrefl _)
 ·exact absurd (Nat.lt_of_lt_of_le (Heap.lt_size (I.pin p hp).1) (by rw [z];exact hb)) (Nat.lt_irrefl _)
structure zet (P:Program) (w:World) (K:PySem.W.Frag) (tg:Expr) (J:It) (fp:List Addr) (it:Addr) (tn:Nat→Heap→Prop):Prop where
 mem:it∈fp
 obj:∀i h,tn i h→∀b∈fp,∃o,h.get? b=some o∧∀v,o.data≠ .cell v
 keep:∀i h h',tn i h→(∀b∈fp,∀o,h.get? b=some o→h'.get? b=some o)→tn i h'
 item:∀(X:Cx),X.prog=P→X.w=w→X.K=K→X.calm=true→∀(i:Nat) (pins:List (Addr×Obj)) (s:Shared) (σ:St) (H:Hp) (E:Value→Shared→Prop),Inv X pins σ H s→(∀b∈fp,zbs X pins H b)→tn i s.heap→J.go i H→
  wpAny (model P w) X.A (pyNext (.ref it)) (fun r s1=>∃u,r=some u∧
   wpAny (model P w) X.A (letOwnedTupleGo tg (.ref it) u) (fun _ s2=>∃x H',Inv X pins σ H' s2∧yQ x u∧J.yld i H x H'∧tn (i+1) s2.heap∧∀b∈fp,H' b=none) E s1) E s
 done:∀(X:Cx),X.prog=P→X.w=w→X.K=K→X.calm=true→∀(i:Nat) (pins:List (Addr×Obj)) (s:Shared) (σ:St) (H:Hp) (E:Value→Shared→Prop),Inv X pins σ H s→(∀b∈fp,zbs X pins H b)→tn i s.heap→J.stop i H→
  wpAny (model P w) X.A (pyNext (.ref it)) (fun r s1=>r=none∧Inv X pins σ H s1) E s
 self:∀(A:Around) (i:Nat) (s:Shared) (Q:Value→Shared→Prop) (E:Value→Shared→Prop),tn i s.heap→Q (.ref it) s→wpAny (model P w) A (pyIter (.ref it)) Q E s
noncomputable abbrev TI:=St→Hp→(It→Hp→Prop)→Prop
noncomputable def PIE (X:Cx) (pins:List (Addr×Obj)) (σ:St) (tg:Expr) (R:It→Hp→Prop) (itv:Value) (s2:Shared):Prop:=
 ∃(it:Addr) (fp:List Addr) (tn:Nat→Heap→Prop) (J:It) (H':Hp),itv= .ref it∧Inv X pins σ H' s2∧zet X.prog X.w X.K tg J fp it tn∧tn 0 s2.heap∧(∀b∈fp,zbs X pins H' b)∧R J H'
noncomputable def PI (X:Cx) (tg iter:Expr) (wi:TI):Prop:=
 ∀(pins:List (Addr×Obj)) (s:Shared) (σ:St) (H:Hp) (R:It→Hp→Prop),Inv X pins σ H s→wi σ H R→
  wpAny (model X.prog X.w) X.A (eval iter X.env) (fun v s1=>wpAny (model X.prog X.w) X.A (pyIter v) (PIE X pins σ tg R) X.xe s1) X.xe s

theorem zc0 {M:Model} {A:Around} {E:Value→Shared→Prop} {s:Shared} {tg:Expr} {it:Addr} {u:Value} {o:Obj} {n:String} {vs:Array Value} {Q:Unit→Shared→Prop} (ho:s.heap.get? it=some o) (hc:o.cls= .type n) (hd:o.data= .fields vs)
    (hn:["enumerate","zip","dict_itemiterator","dict_reverseitemiterator","odict_iterator","itertools.zip_longest","itertools.pairwise"].contains n=false) (hQ:Q () s):wpAny M A (letOwnedTupleGo tg (.ref it) u) Q E s:=by
  unfold letOwnedTupleGo
  cases tg<;>first
    |exact wpAny_pure hQ
    | (cases u <;> first
        |exact wpAny_pure hQ
        | (refine wpAny_bind (wpAny_load ho ?_)
           rw [hc,hd]
           show wpAny M A (if (["enumerate","zip","dict_itemiterator","dict_reverseitemiterator","odict_iterator","itertools.zip_longest","itertools.pairwise"].contains n&&vs[0]? ==some (rawInt _))=true then _ else _) Q E s
           rw [if_neg (by intro h;rw [hn,Bool.false_and] at h;cases h)]
           exact wpAny_pure hQ))

noncomputable def Itl (K:PySem.W.Frag) (a:Addr):It:=
 ⟨fun i H=>∃xs x,SqL K H a xs∧xs[i]? =some x,fun i H x H'=>H'=H∧∀xs,SqL K H a xs→xs[i]? =some x,fun i H=>∃xs,SqL K H a xs∧xs.length≤i⟩
noncomputable def Itt (K:PySem.W.Frag) (a:Addr):It:=
 ⟨fun i H=>∃xs x,SqT K H a xs∧xs[i]? =some x,fun i H x H'=>H'=H∧∀xs,SqT K H a xs→xs[i]? =some x,fun i H=>∃xs,SqT K H a xs∧xs.length≤i⟩
noncomputable def Itr (lo:Int) (n:Nat):It:=⟨fun i _=>i<n,fun i H x H'=>H'=H∧x= .int (lo+i),fun i _=>n≤i⟩
theorem zal {P:Program} {w:World} {K:PySem.W.Frag} {tg:Expr} (a it:Addr):zet P w K tg (Itl K a) [it] it (fun i h=>h.IsListIter it a i) where
 mem:=by simp
 obj:=fun i h st b hb=>by
  have e:b=it:=by simpa using hb
  subst e
  obtain ⟨o,e,c,d⟩:=st
  exact ⟨o,e,fun v z=>by rw [d] at z;cases z⟩
 keep:=fun i h h' st k=>st.at fun o e=>k it (by simp) o e
 item:=by
  intro X hP hw hK hc i pins s σ H E I hf st hg
  subst hP hw hK
  obtain ⟨xs,x,hq,hx⟩:=hg
  obtain ⟨its,rv,p,hz⟩:=I.list hq
  obtain ⟨u,hu,ru⟩:=rv.get hx
  obtain ⟨f0,f1,f2,f3,f4,f5⟩:=hf it (by simp)
  refine wpAny_pyNext_list_item st p.isList (x:=u) (by simpa using hu) fun h' st' sb=> ?_
  have I1:Inv X pins σ H {s with heap:=h'}:=I.turned (t':=s.toks) (fun b o hb e=>(sb.2 b hb).trans e) f0 f1 f3 f4 f5
  obtain ⟨o,e,c,d⟩:=id st'
  exact ⟨u,rfl,zc0 (s:={s with heap:=h'}) e c d (by decide) ⟨x,H,I1,ru,⟨rfl,fun ys hy=>by rw [I.list_inj hy hq];exact hx⟩,st',fun b hb=>(hf b hb).1⟩⟩
 done:=by
  intro X hP hw hK hc i pins s σ H E I hf st hg
  subst hP hw hK
  obtain ⟨xs,hq,hx⟩:=hg
  obtain ⟨its,rv,p,hz⟩:=I.list hq
  obtain ⟨f0,f1,f2,f3,f4,f5⟩:=hf it (by simp)
  have hl:=rv.length
  exact wpAny_pyNext_list_end (I.ok.hd hc) st p.isList (by simp;omega) fun h' eb=>⟨rfl,I.turned (t':=s.toks) (fun b o hb e=>eb b o hb e) f0 f1 f3 f4 f5⟩
 self:=fun _ _ _ _ _ st h=>wpAny_pyIter_listiter st h
theorem Uz {P:Program} {w:World} {K:PySem.W.Frag} {tg:Expr} (a it:Addr):zet P w K tg (Itt K a) [it] it (fun i h=>h.IsTupleIter it a i) where
 mem:=by simp
 obj:=fun i h st b hb=>by
  have e:b=it:=by simpa using hb
  subst e
  obtain ⟨o,e,c,d⟩:=st
  exact ⟨o,e,fun v z=>by rw [d] at z;cases z⟩
 keep:=fun i h h' st k=>st.at fun o e=>k it (by simp) o e
 item:=by
  intro X hP hw hK hc i pins s σ H E I hf st hg
  subst hP hw hK
  obtain ⟨xs,x,hq,hx⟩:=hg
  obtain ⟨its,rv,p,hz⟩:=I.tuple hq
  obtain ⟨u,hu,ru⟩:=rv.get hx
  obtain ⟨f0,f1,f2,f3,f4,f5⟩:=hf it (by simp)
  refine wpAny_pyNext_tuple_item st (show s.heap.IsTuple a its.toArray from p) (x:=u) (by simpa using hu) fun h' st' sb=> ?_
  have I1:Inv X pins σ H {s with heap:=h'}:=I.turned (t':=s.toks) (fun b o hb e=>(sb.2 b hb).trans e) f0 f1 f3 f4 f5
  obtain ⟨o,e,c,d⟩:=id st'
  exact ⟨u,rfl,zc0 (s:={s with heap:=h'}) e c d (by decide) ⟨x,H,I1,ru,⟨rfl,fun ys hy=>by rw [I.tuple_inj hy hq];exact hx⟩,st',fun b hb=>(hf b hb).1⟩⟩
 done:=by
  intro X hP hw hK hc i pins s σ H E I hf st hg
  subst hP hw hK
  obtain ⟨xs,hq,hx⟩:=hg
  obtain ⟨its,rv,p,hz⟩:=I.tuple hq
  obtain ⟨f0,f1,f2,f3,f4,f5⟩:=hf it (by simp)
  have hl:=rv.length
  exact wpAny_pyNext_tuple_end (I.ok.hd hc) st (show s.heap.IsTuple a its.toArray from p) (by simp;omega) fun h' eb=>⟨rfl,I.turned (t':=s.toks) (fun b o hb e=>eb b o hb e) f0 f1 f3 f4 f5⟩
 self:=fun _ _ _ _ _ st h=>wpAny_pyIter_tupleiter st h
theorem zcm {P:Program} {w:World} {K:PySem.W.Frag} {tg:Expr} (it:Addr) (lo:Int) (n:Nat):zet P w K tg (Itr lo n) [it] it (fun i h=>IsRangeIter h it (lo+(i:Nat)*1) ((n:Int)-(i:Nat)) 1) where
 mem:=by simp
 obj:=fun i h st b hb=>by
  have e:b=it:=by simpa using hb
  subst e
  exact ⟨_,st,fun v z=>by
   have z':Data.fields _=Data.cell v:=z
   cases z'⟩
 keep:=fun i h h' st k=>k it (by simp) _ st
 item:=by
  intro X hP hw hK hc i pins s σ H E I hf st hg
  subst hP hw hK
  obtain ⟨f0,f1,f2,f3,f4,f5⟩:=hf it (by simp)
  have W:=Walks.range (prog:=X.prog) (w:=X.w) (I.ok.hd hc) it lo 1 n
  refine W.item i s _ _ hg st fun v h' tk hv st' kk=> ?_
  obtain ⟨t,rfl⟩:=hv
  have I1:Inv X pins σ H {s with heap:=h',toks:=tk}:=I.turned (fun b o hb e=>kk b o (by simpa using hb) e) f0 f1 f3 f4 f5
  refine ⟨_,rfl,zc0 (s:={s with heap:=h',toks:=tk}) (n:="range_iterator") st' rfl rfl (by decide) ⟨.int (lo+i),H,I1,⟨t,?_⟩,⟨rfl,rfl⟩,st',fun b hb=>(hf b hb).1⟩⟩
  rw [Int.mul_one]
 done:=by
  intro X hP hw hK hc i pins s σ H E I hf st hg
  subst hP hw hK
  obtain ⟨f0,f1,f2,f3,f4,f5⟩:=hf it (by simp)
  exact wpAny_pyNext_range_end (I.ok.hd hc) st (by have:n≤i:=hg;omega) fun h' eb=>⟨rfl,I.turned (t':=s.toks) (fun b o hb e=>eb b o hb e) f0 f1 f3 f4 f5⟩
 self:=fun _ _ _ _ _ st h=>wpAny_pyIter_rangeiter st h
end L2

namespace L2
open PySem PySem.Spec PyProof.Rows
section
variable {X:Cx} {tg:Expr}
noncomputable def zeu (K:PySem.W.Frag) (tl:TE):TI:=fun σ H R=>tl σ H fun x H1=>∃a,x= .ref a∧(∃xs,SqL K H1 a xs)∧R (Itl K a) H1
noncomputable def zhv (K:PySem.W.Frag) (tl:TE):TI:=fun σ H R=>tl σ H fun x H1=>∃a,x= .ref a∧(∃xs,SqT K H1 a xs)∧R (Itt K a) H1
theorem zfN {l:Expr} {tl:TE} (hl:PE X l tl):PI X tg l (zeu X.K tl):=by
 intro pins s σ H R I h
 refine thn (hl pins s σ H _ I h) ?_
 rintro v s1 ⟨x,H1,I1,r1,q1⟩
 obtain ⟨a,e,⟨xs,hq⟩,q⟩:=q1
 subst e
 cases r1
 obtain ⟨its,rv,p,hz⟩:=I1.list hq
 refine wpAny_pyIter_list p.isList ?_
 refine ⟨s1.heap.objs.size,[s1.heap.objs.size],_,_,H1,rfl,I1.kept (t':=s1.toks) fun b o e=>Heap.get?_push_of_some _ e,zal a _,⟨_,Heap.get?_push_size _ rfl,rfl,rfl⟩,fun b hb=> ?_,q⟩
 have e:b=s1.heap.objs.size:=by simpa using hb
 subst e
 exact I1.fpOk (Nat.le_refl _) (I1.hok.fresh (Nat.le_refl _))
theorem zhw {l:Expr} {tl:TE} (hl:PE X l tl):PI X tg l (zhv X.K tl):=by
 intro pins s σ H R I h
 refine thn (hl pins s σ H _ I h) ?_
 rintro v s1 ⟨x,H1,I1,r1,q1⟩
 obtain ⟨a,e,⟨xs,hq⟩,q⟩:=q1
 subst e
 cases r1
 obtain ⟨its,rv,p,hz⟩:=I1.tuple hq
 refine wpAny_pyIter_tuple (show s1.heap.IsTuple a its.toArray from p) ?_
 refine ⟨s1.heap.objs.size,[s1.heap.objs.size],_,_,H1,rfl,I1.kept (t':=s1.toks) fun b o e=>Heap.get?_push_of_some _ e,Uz a _,⟨_,Heap.get?_push_size _ rfl,rfl,rfl⟩,fun b hb=> ?_,q⟩
 have e:b=s1.heap.objs.size:=by simpa using hb
 subst e
 exact I1.fpOk (Nat.le_refl _) (I1.hok.fresh (Nat.le_refl _))
theorem zev {pins:List (Addr×Obj)} {σ:St} {H:Hp} {s:Shared} {R:It→Hp→Prop} {E:Value→Shared→Prop} {lo hi:Int} {t u v:Tok} {tk:Nat} (I:Inv X pins σ H s) (h1: -(2^62)≤lo) (h2:lo<2^62) (h3: -(2^62)≤hi) (h4:hi<2^62)
  (q:R (Itr lo (hi-lo).toNat) H):wpAny (model X.prog X.w) X.A (pyIter (.ref s.heap.objs.size)) (PIE X pins σ tg R) E {s with heap:=s.heap.push {cls:= .type "range",data:= .fields #[.int lo t,.int hi u,.int 1 v]},toks:=tk}:=by
 refine wpAny_pyIter_range (IsRange.new ..) (small_one h1 h2 h3 h4) ?_
 have I1:Inv X pins σ H {s with heap:=s.heap.push {cls:= .type "range",data:= .fields #[.int lo t,.int hi u,.int 1 v]},toks:=tk}:=I.kept fun b o e=>Heap.get?_push_of_some _ e
 refine ⟨(s.heap.push {cls:= .type "range",data:= .fields #[.int lo t,.int hi u,.int 1 v]}).objs.size,[(s.heap.push {cls:= .type "range",data:= .fields #[.int lo t,.int hi u,.int 1 v]}).objs.size],_,_,H,rfl,
  I1.kept (t':=tk) fun b o e=>Heap.get?_push_of_some _ e,zcm _ lo (hi-lo).toNat,?_,fun b hb=> ?_,q⟩
 ·have e1:lo+((0:Nat):Int)*1=lo:=by simp
  have e2:(((hi-lo).toNat:Nat):Int)-((0:Nat):Int)=Builtin.Range.rangeSize lo hi 1:=by rw [rangeSize_one];split<;>omega
  show IsRangeIter _ _ (lo+((0:Nat):Int)*1) ((((hi-lo).toNat:Nat):Int)-((0:Nat):Int)) 1
  rw [e1,e2]
  exact Heap.get?_push_size _ rfl
 ·have e:b=(s.heap.push {cls:= .type "range",data:= .fields #[.int lo t,.int hi u,.int 1 v]}).objs.size:=by simpa using hb
  subst e
  exact I1.fpOk (Nat.le_refl _) (I1.hok.fresh (Nat.le_refl _))
noncomputable def zgU (ta:TA):TI:=fun σ H R=>ta σ H fun vs H1=>∃j:Int,vs=[.int j]∧ -(2^62)≤j∧j<2^62∧R (Itr 0 j.toNat) H1
theorem xm {a:Expr} {ta:TA} {p pos:Pos} (hg:Gl X "range") (hm:X.mg "range"=none) (ha:PA X [a] ta) (hs:starEach [a] X.env=[(false,eval a X.env)]:=by rfl):PI X tg (.Call (.Name "range" p) [a] [] pos) (zgU ta):=by
 intro pins s σ H R I h
 refine Call_ (WN I hg hm boot_range (PyProof.Rows.callWith_type1 (thn (ha pos pins s σ H _ I h) ?_) hs rfl))
 rintro us s1 ⟨vs,H1,I1,r1,q1⟩
 obtain ⟨j,e,q1,q2,q⟩:=q1
 subst e
 cases r1 with
 |cons r rr=>
  cases rr
  obtain ⟨t,rfl⟩:=r
  exact call_range_1 (zev I1 (by omega) (by omega) q1 q2 (by simpa using q))

noncomputable def ziQ (wi:TI) (g:TG) (tb:TS):TS:=fun D σ H=>wi σ H fun J H1=>∃W:Nat→Nat→St→Hp→Prop,(∃m,W 0 m σ H1)∧∀i m σ H,W i m σ H→
 (J.stop i H∧D.nx σ H)∨(J.go i H∧∃N:St→Hp→Prop,(∀σ' H',N σ' H'→∃m',m'<m∧W (i+1) m' σ' H')∧∀x H',J.yld i H x H'→g x σ H' fun σ2 H2=>tb {D with nx:=N,ct:=N,bk:=D.nx} σ2 H2)
noncomputable def UA (fp:List Addr) (h:Heap):List (Addr×Obj):=fp.filterMap fun b=>(h.get? b).map fun o=>(b,o)
theorem YL {fp:List Addr} {h:Heap} {b:Addr} {o:Obj} (hb:b∈fp) (e:h.get? b=some o):(b,o)∈UA fp h:=List.mem_filterMap.mpr ⟨b,hb,by rw [e];rfl⟩
theorem zdO {fp:List Addr} {h:Heap} {p:Addr×Obj} (hp:p∈UA fp h):p.1∈fp∧h.get? p.1=some p.2:=by
 obtain ⟨b,hb,e⟩:=List.mem_filterMap.mp hp
 cases q:h.get? b with
 |none=>rw [q] at e;cases e
 |some o=>
  rw [q] at e
  have e':(b,o)=p:=Option.some.inj e
  subst e'
  exact ⟨hb,q⟩
theorem Inv.pinned {pins:List (Addr×Obj)} {σ:St} {H:Hp} {s:Shared} {fp:List Addr} (I:Inv X pins σ H s) (hf:∀b∈fp,zbs X pins H b) (ho:∀b∈fp,∃o,s.heap.get? b=some o∧∀v,o.data≠ .cell v):Inv X (pins++UA fp s.heap) σ H s:=
 I.pins_of fun p hp=>(List.mem_append.mp hp).elim (fun z=>I.pin p (List.mem_append_right _ z)) fun z=>by
  obtain ⟨hb,e⟩:=zdO z
  obtain ⟨f0,f1,f2,_⟩:=hf p.1 hb
  obtain ⟨o,e',d⟩:=ho p.1 hb
  rw [e] at e';cases e'
  exact ⟨e,f0,f1,f2,d⟩
theorem Inv.unpinned {pins pl:List (Addr×Obj)} {σ:St} {H:Hp} {s:Shared} (I:Inv X (pins++pl) σ H s):Inv X pins σ H s:=I.pins_of fun p hp=>I.pin p (List.mem_append_right _ (List.mem_append_left _ hp))
theorem YM {iter:Expr} {body:List Stmt} {wi:TI} {g:TG} {tb:TS} {pos:Pos} (hp:PassesOwn (model X.prog X.w) X.A X.env X.xe) (hc:X.calm=true) (hi:PI X tg iter wi) (hg:PG X tg g) (hb:PSs X body tb)
  (hs:∀x,foldedSetIterable iter X.env x=pure x:=by intro _;rfl):PS X (.For tg iter body [] pos) (ziQ wi g tb):=by
 intro pins s σ H D I h
 refine wpAny_For (thn (hi pins s σ H _ I h) fun v s1 h1=>thn h1 fun itv s2 h2=> ?_) hs
 obtain ⟨it,fp,tn,J,H2,e,I2,T,st2,f2,W,⟨m0,w0⟩,turn⟩:=h2
 subst e
 have stat:∀{H':Hp},(∀b∈fp,H' b=none)→∀b∈fp,zbs X pins H' b:=fun hn b hb=>⟨hn b hb,(f2 b hb).2⟩
 refine codeAny_forLoop_any (fun n s'=>∃i σ' H',Inv X pins σ' H' s'∧tn i s'.heap∧(∀b∈fp,H' b=none)∧W i n σ' H') ?_ m0 ⟨0,σ,H2,I2,st2,fun b hb=>(f2 b hb).1,w0⟩
 rintro n s3 ⟨i,σ3,H3,I3,st3,fr3,w3⟩
 rcases turn i n σ3 H3 w3 with ⟨stop,qn⟩|⟨go,N,hN,step⟩
 ·refine wpAny_passesOwn hp (thn (T.done X rfl rfl rfl hc i pins s3 σ3 H3 X.xe I3 (stat fr3) st3 stop) fun r s4 ⟨hr,I4⟩=> ?_)
  subst hr
  exact wpAny_execs_nil ⟨σ3,H3,I4,qn⟩
 ·refine wpAny_passesOwn hp (thn (T.item X rfl rfl rfl hc i pins s3 σ3 H3 X.xe I3 (stat fr3) st3 go) fun r s4 ⟨u,hr,h4⟩=> ?_)
  subst hr
  refine wpAny_passesOwn hp (thn h4 ?_)
  rintro _ s5 ⟨x,H5,I5,r5,y5,st5,fr5⟩
  have I5':=I5.pinned (stat fr5) (T.obj _ _ st5)
  refine wpAny_passesOwn hp (thn (hg _ s5 σ3 H5 x u _ I5' r5 (step x H5 y5)) ?_)
  rintro _ s6 ⟨σ6,H6,I6,q6⟩
  refine wpAny_passesOwn hp (thn (hb _ s6 σ6 H6 _ I6 q6) fun f s7 q7=> ?_)
  have again:∀{σ7:St} {H7:Hp},Inv X (pins++UA fp s5.heap) σ7 H7 s7→N σ7 H7→∃m,m<n∧∃i σ' H',Inv X pins σ' H' s7∧tn i s7.heap∧(∀b∈fp,H' b=none)∧W i m σ' H':=fun {σ7 H7} I7 n7=>by
   obtain ⟨m',hm,w7⟩:=hN σ7 H7 n7
   refine ⟨m',hm,i+1,σ7,H7,I7.unpinned,T.keep _ _ _ st5 fun b hb o e=>(I7.pin (b,o) (List.mem_append_right _ (List.mem_append_right _ (YL hb e)))).1,fun b hb=> ?_,w7⟩
   obtain ⟨o,e,d⟩:=T.obj _ _ st5 b hb
   exact (I7.pin (b,o) (List.mem_append_right _ (List.mem_append_right _ (YL hb e)))).2.1
  cases f with
  |next=>obtain ⟨σ7,H7,I7,n7⟩:=q7;exact again I7 n7
  |cont=>obtain ⟨σ7,H7,I7,n7⟩:=q7;exact again I7 n7
  |brk=>obtain ⟨σ7,H7,I7,q7⟩:=q7;exact ⟨σ7,H7,I7.unpinned,q7⟩
  |ret v=>obtain ⟨x7,σ7,H7,I7,r7,q7⟩:=q7;exact ⟨x7,σ7,H7,I7.unpinned,r7,q7⟩
end

end L2

namespace L2
open PySem PySem.Spec PyProof.Rows

noncomputable abbrev R2:=V→V→Hp→VK→Prop
noncomputable def OpR (X:Cx) (f:Value→Value→Sem Value) (r:R2):Prop:=
 ∀(pins:List (Addr×Obj)) (s:Shared) (σ:St) (H:Hp) (x y:V) (v u:Value) (Q:VK),Inv X pins σ H s→yQ x v→yQ y u→r x y H Q→
  wpAny (model X.prog X.w) X.A (f v u) (EP X pins σ Q) X.xe s
noncomputable def UnR (X:Cx) (f:Value→Sem Value) (r:V→Hp→VK→Prop):Prop:=
 ∀(pins:List (Addr×Obj)) (s:Shared) (σ:St) (H:Hp) (x:V) (v:Value) (Q:VK),Inv X pins σ H s→yQ x v→r x H Q→
  wpAny (model X.prog X.w) X.A (f v) (EP X pins σ Q) X.xe s
noncomputable def vD (X:Cx) (f:Value) (r:List V→Hp→VK→Prop):Prop:=
 ∀(pins:List (Addr×Obj)) (s:Shared) (σ:St) (H:Hp) (xs:List V) (us:List Value) (Q:VK),Inv X pins σ H s→yE xs us→r xs H Q→
  wpAny (model X.prog X.w) X.A (call f us) (EP X pins σ Q) X.xe s

noncomputable def tOp (r:R2) (ta tb:TE):TE:=fun σ H Q=>ta σ H fun x H1=>tb σ H1 fun y H2=>r x y H2 Q
noncomputable def tUn (r:V→Hp→VK→Prop) (ta:TE):TE:=fun σ H Q=>ta σ H fun x H1=>r x H1 Q
noncomputable def rI (C:Int→Int→Prop) (g:Int→Int→V):R2:=fun x y H Q=>∃i j,x= .int i∧y= .int j∧C i j∧Q (g i j) H
noncomputable def rI0 (g:Int→Int→V):R2:=fun x y H Q=>∃i j,x= .int i∧y= .int j∧Q (g i j) H
noncomputable def rU (g:Int→V):V→Hp→VK→Prop:=fun x H Q=>∃i,x= .int i∧Q (g i) H

section
variable {X:Cx} {a b c:Expr} {ta tb tc:TE} {pos:Pos}

theorem zhx (ha:PE X a ta) (hb:PE X b tb) {pins:List (Addr×Obj)} {s:Shared} {σ:St} {H:Hp} {R:V→V→Hp→Prop} (I:Inv X pins σ H s)
  (h:ta σ H fun x H1=>tb σ H1 fun y H2=>R x y H2) {Q:Value→Shared→Prop} {f:Value→Value→Sem Value}
  (hf:∀v u s2 x y H2,Inv X pins σ H2 s2→yQ x v→yQ y u→R x y H2→wpAny (model X.prog X.w) X.A (f v u) Q X.xe s2):
  wpAny (model X.prog X.w) X.A (eval a X.env) (fun v s₁=>wpAny (model X.prog X.w) X.A (eval b X.env) (fun u s₂=>wpAny (model X.prog X.w) X.A (f v u) Q X.xe s₂) X.xe s₁) X.xe s:=by
 refine thn (ha pins s σ H _ I h) ?_
 rintro v s1 ⟨x,H1,I1,r1,q1⟩
 refine thn (hb pins s1 σ H1 _ I1 q1) ?_
 rintro u s2 ⟨y,H2,I2,r2,q2⟩
 exact hf v u s2 x y H2 I2 r1 r2 q2

theorem zL {op:Operator} {r:R2} (ho:OpR X (binaryOp op) r) (ha:PE X a ta) (hb:PE X b tb):PE X (.BinOp a op b pos) (tOp r ta tb):=by
 intro pins s σ H Q I h
 exact wpAny_BinOp (zhx ha hb I h fun v u s2 x y H2 I2 rx ry q=>ho pins s2 σ H2 x y v u Q I2 rx ry q)
theorem zam {op:UnaryOp} {r:V→Hp→VK→Prop} (ho:UnR X (unaryOp op) r) (ha:PE X a ta):PE X (.UnaryOp op a pos) (tUn r ta):=by
 intro pins s σ H Q I h
 refine UnaryOp_ (thn (ha pins s σ H _ I h) ?_)
 rintro v s1 ⟨x,H1,I1,r1,q1⟩
 exact ho pins s1 σ H1 x v Q I1 r1 q1

theorem opI {f:Value→Value→Sem Value} {C:Int→Int→Prop} {g:Int→Int→Int}
  (rule:∀(i j:Int) (t u:Tok) (s:Shared) (Q:Value→Shared→Prop) (E:Value→Shared→Prop),C i j→Q (.int (g i j) s.toks) {s with toks:=s.toks+1}→wpAny (model X.prog X.w) X.A (f (.int i t) (.int j u)) Q E s):
  OpR X f (rI C fun i j=> .int (g i j)):=by
 intro pins s σ H x y v u Q I rx ry h
 obtain ⟨i,j,rfl,rfl,hc,q⟩:=h
 obtain ⟨t,rfl⟩:=rx
 obtain ⟨t',rfl⟩:=ry
 exact rule i j t t' s _ _ hc ⟨.int (g i j),H,I.tok _,⟨_,rfl⟩,q⟩
theorem ziR {f:Value→Value→Sem Value} {g:Int→Int→Int}
  (rule:∀(i j:Int) (t u:Tok) (s:Shared) (Q:Value→Shared→Prop) (E:Value→Shared→Prop),Q (.int (g i j) s.toks) {s with toks:=s.toks+1}→wpAny (model X.prog X.w) X.A (f (.int i t) (.int j u)) Q E s):
  OpR X f (rI0 fun i j=> .int (g i j)):=by
 intro pins s σ H x y v u Q I rx ry h
 obtain ⟨i,j,rfl,rfl,q⟩:=h
 obtain ⟨t,rfl⟩:=rx
 obtain ⟨t',rfl⟩:=ry
 exact rule i j t t' s _ _ ⟨.int (g i j),H,I.tok _,⟨_,rfl⟩,q⟩
theorem zjI {f:Value→Value→Sem Value} {g:Int→Int→Bool}
  (rule:∀(i j:Int) (t u:Tok) (s:Shared) (Q:Value→Shared→Prop) (E:Value→Shared→Prop),Q (.bool (g i j)) s→wpAny (model X.prog X.w) X.A (f (.int i t) (.int j u)) Q E s):
  OpR X f (rI0 fun i j=> .bl (g i j)):=by
 intro pins s σ H x y v u Q I rx ry h
 obtain ⟨i,j,rfl,rfl,q⟩:=h
 obtain ⟨t,rfl⟩:=rx
 obtain ⟨t',rfl⟩:=ry
 exact rule i j t t' s _ _ ⟨.bl (g i j),H,I,rfl,q⟩

noncomputable def zhy (i j:Int):Prop:=0≤j∧j≤1000000∧i.natAbs<2^64
noncomputable def zew (i j:Int):Prop:=(-(2^64)<i∧i<2^64)∨(-(2^64)<j∧j<2^64)
theorem zew.ok {i j:Int} (h:zew i j):IntMulOk i j:=by
 rcases h with ⟨h1,h2⟩|⟨h1,h2⟩
 ·exact .of_left (intBits_le_64 h1 h2)
 ·exact .of_right (intBits_le_64 h1 h2)

theorem yw:OpR X (binaryOp .Add) (rI0 fun i j=> .int (i+j)):=ziR fun _ _ _ _ _ _ _ q=>add_int q
theorem XI:OpR X (binaryOp .Sub) (rI0 fun i j=> .int (i-j)):=ziR fun _ _ _ _ _ _ _ q=>sub_int q
theorem zhz:OpR X (binaryOp .Mult) (rI zew fun i j=> .int (i*j)):=opI fun _ _ _ _ _ _ _ hc q=>mul_int q hc.ok
theorem vN:OpR X (binaryOp .Mod) (rI (fun _ j=>0<j) fun i j=> .int (i % j)):=opI fun i j _ _ _ _ _ hc q=>by
 have h1:(0:Int)<j:=hc
 exact mod_int' (by omega) (by rw [Int.fmod_eq_emod_of_nonneg i (by omega)];exact q)
theorem WP:OpR X (binaryOp .Pow) (rI zhy fun i j=> .int (i^j.toNat)):=opI fun _ _ _ _ _ _ _ hc q=>pow_int_small hc.1 hc.2.1 hc.2.2 q


theorem unI {f:Value→Sem Value} {g:Int→Int}
  (rule:∀(i:Int) (t:Tok) (s:Shared) (Q:Value→Shared→Prop) (E:Value→Shared→Prop),Q (.int (g i) s.toks) {s with toks:=s.toks+1}→wpAny (model X.prog X.w) X.A (f (.int i t)) Q E s):
  UnR X f (rU fun i=> .int (g i)):=by
 intro pins s σ H x v Q I rx h
 obtain ⟨i,rfl,q⟩:=h
 obtain ⟨t,rfl⟩:=rx
 exact rule i t s _ _ ⟨.int (g i),H,I.tok _,⟨_,rfl⟩,q⟩
theorem VM:UnR X (unaryOp .USub) (rU fun i=> .int (-i)):=unI fun _ _ _ _ _ q=>neg_int q

end

noncomputable def ziS:V→V→Bool
 | .non,.non=>true| .non,.int _=>true| .int _,.non=>true| .non,.bl _=>true| .bl _,.non=>true| .non,.str _=>true| .str _,.non=>true
 | .int _,.int _=>true| .bl _,.bl _=>true| .str _,.str _=>true| .byt _,.byt _=>true
 | .int _,.str _=>true| .str _,.int _=>true| .bl _,.str _=>true| .str _,.bl _=>true
 |_,_=>false
noncomputable def rEq:R2:=fun x y H Q=>ziS x y=true∧Q (.bl (decide (x=y))) H
noncomputable def rNe:R2:=fun x y H Q=>ziS x y=true∧Q (.bl (!decide (x=y))) H

theorem zc1 {i j:Int}:decide (V.int i=V.int j)=(i==j):=by
 rw [Bool.eq_iff_iff]
 simp
theorem zex {i j:Bool}:decide (V.bl i=V.bl j)=(i==j):=by
 rw [Bool.eq_iff_iff]
 simp
theorem zc2 {i j:Str}:decide (V.str i=V.str j)=(i==j):=by
 rw [Bool.eq_iff_iff]
 simp
theorem zc3 {i j:Array UInt8}:decide (V.byt i=V.byt j)=(i.toList==j.toList):=by
 rw [Bool.eq_iff_iff]
 cases i
 cases j
 simp

section
variable {X:Cx} {a b c:Expr} {ta tb tc:TE} {pos:Pos}
theorem yR {pins:List (Addr×Obj)} {σ:St} {H:Hp} {s:Shared} {Q:VK} {k k':Bool} (I:Inv X pins σ H s) (q:Q (.bl k) H) (e:k=k'):EP X pins σ Q (.bool k') s:=by
 subst e
 exact ⟨.bl k,H,I,rfl,q⟩
theorem Za:OpR X (compareOp .Eq) rEq:=by
 intro pins s σ H x y v u Q I rx ry h
 obtain ⟨hs,q⟩:=h
 cases x with
 |non=>
  cases rx
  cases y with
  |non=>cases ry;exact PySem.EqNone.eq_none_none (yR I q (by simp))
  |bl j=>cases ry;exact PySem.EqNone.eq_none_bool (yR I q (by simp))
  |int j=>obtain ⟨t',rfl⟩:=ry;exact PySem.EqNone.eq_none_int (yR I q (by simp))
  |str j=>obtain ⟨t',rfl⟩:=ry;exact PySem.EqNone.eq_none_str (yR I q (by simp))
  |_=>exact absurd (show false=true from hs) Bool.false_ne_true
 |bl i=>
  cases rx
  cases y with
  |non=>cases ry;exact PySem.EqNone.eq_bool_none (yR I q (by simp))
  |bl j=>cases ry;exact eq_bool (yR I q zex)
  |str j=>obtain ⟨t',rfl⟩:=ry;exact PySem.EqMixed.eq_bool_str (yR I q (by simp))
  |_=>exact absurd (show false=true from hs) Bool.false_ne_true
 |int i=>
  obtain ⟨t,rfl⟩:=rx
  cases y with
  |non=>cases ry;exact PySem.EqNone.eq_int_none (yR I q (by simp))
  |int j=>obtain ⟨t',rfl⟩:=ry;exact eq_int (yR I q zc1)
  |str j=>obtain ⟨t',rfl⟩:=ry;exact PySem.EqMixed.eq_int_str (yR I q (by simp))
  |_=>exact absurd (show false=true from hs) Bool.false_ne_true
 |str i=>
  obtain ⟨t,rfl⟩:=rx
  cases y with
  |non=>cases ry;exact PySem.EqNone.eq_str_none (yR I q (by simp))
  |bl j=>cases ry;exact PySem.EqMixed.eq_str_bool (yR I q (by simp))
  |int j=>obtain ⟨t',rfl⟩:=ry;exact PySem.EqMixed.eq_str_int (yR I q (by simp))
  |str j=>obtain ⟨t',rfl⟩:=ry;exact eq_str (yR I q zc2)
  |_=>exact absurd (show false=true from hs) Bool.false_ne_true
 |byt i=>
  obtain ⟨t,rfl⟩:=rx
  cases y with
  |byt j=>obtain ⟨t',rfl⟩:=ry;exact PySem.W.eq_bytes (yR I q zc3)
  |_=>exact absurd (show false=true from hs) Bool.false_ne_true
 |_=>cases y<;>exact absurd (show false=true from hs) Bool.false_ne_true
theorem ziT:OpR X (compareOp .NotEq) rNe:=by
 intro pins s σ H x y v u Q I rx ry h
 obtain ⟨hs,q⟩:=h
 cases x with
 |non=>
  cases rx
  cases y with
  |non=>cases ry;exact PySem.EqNone.ne_none_none (yR I q (by simp))
  |bl j=>cases ry;exact PySem.EqNone.ne_none_bool (yR I q (by simp))
  |int j=>obtain ⟨t',rfl⟩:=ry;exact PySem.EqNone.ne_none_int (yR I q (by simp))
  |str j=>obtain ⟨t',rfl⟩:=ry;exact PySem.EqNone.ne_none_str (yR I q (by simp))
  |_=>exact absurd (show false=true from hs) Bool.false_ne_true
 |bl i=>
  cases rx
  cases y with
  |non=>cases ry;exact PySem.EqNone.ne_bool_none (yR I q (by simp))
  |bl j=>cases ry;exact ne_bool (yR I q (congrArg not zex))
  |str j=>obtain ⟨t',rfl⟩:=ry;exact PySem.EqMixed.ne_bool_str (yR I q (by simp))
  |_=>exact absurd (show false=true from hs) Bool.false_ne_true
 |int i=>
  obtain ⟨t,rfl⟩:=rx
  cases y with
  |non=>cases ry;exact PySem.EqNone.ne_int_none (yR I q (by simp))
  |int j=>obtain ⟨t',rfl⟩:=ry;exact ne_int (yR I q (congrArg not zc1))
  |str j=>obtain ⟨t',rfl⟩:=ry;exact PySem.EqMixed.ne_int_str (yR I q (by simp))
  |_=>exact absurd (show false=true from hs) Bool.false_ne_true
 |str i=>
  obtain ⟨t,rfl⟩:=rx
  cases y with
  |non=>cases ry;exact PySem.EqNone.ne_str_none (yR I q (by simp))
  |bl j=>cases ry;exact PySem.EqMixed.ne_str_bool (yR I q (by simp))
  |int j=>obtain ⟨t',rfl⟩:=ry;exact PySem.EqMixed.ne_str_int (yR I q (by simp))
  |str j=>obtain ⟨t',rfl⟩:=ry;exact ne_str (yR I q (congrArg not zc2))
  |_=>exact absurd (show false=true from hs) Bool.false_ne_true
 |byt i=>
  obtain ⟨t,rfl⟩:=rx
  cases y with
  |byt j=>obtain ⟨t',rfl⟩:=ry;exact PySem.W.ne_bytes (yR I q (congrArg not zc3))
  |_=>exact absurd (show false=true from hs) Bool.false_ne_true
 |_=>cases y<;>exact absurd (show false=true from hs) Bool.false_ne_true

theorem zan:OpR X (compareOp .LtE) (rI0 fun i j=> .bl (decide (i≤j))):=zjI fun _ _ _ _ _ _ _ q=>le_int q
theorem zdP:OpR X (compareOp .In) (fun x y H Q=>∃i j,x= .str i∧y= .str j∧Q (.bl (!(Builtin.Str.occurrences j i 0 j.length 1).isEmpty)) H):=by
 intro pins s σ H x y v u Q I rx ry h
 obtain ⟨i,j,rfl,rfl,q⟩:=h
 obtain ⟨t,rfl⟩:=rx
 obtain ⟨t',rfl⟩:=ry
 exact in_str (yR I q rfl)




theorem zc4 {op:CmpOp} {r:R2} (ho:OpR X (compareOp op) r) (ha:PE X a ta) (hb:PE X b tb) (hm:behindInMarks op b=false):PE X (.Compare a [op] [b] pos) (tOp r ta tb):=by
 intro pins s σ H Q I h
 exact wpAny_Compare1 (zhx ha hb I h fun v u s2 x y H2 I2 rx ry q=>ho pins s2 σ H2 x y v u Q I2 rx ry q) hm
noncomputable def zey (t:TE):TT:=fun σ H Q=>t σ H fun x H'=>∃k,x= .bl k∧Q k H'
theorem xn {op:CmpOp} {r:R2} (ho:OpR X (compareOp op) r) (ha:PE X a ta) (hb:PE X b tb) (hm:behindInMarks op b=false):PT X (.Compare a [op] [b] pos) (zey (tOp r ta tb)):=by
 intro pins s σ H Q I h
 refine wpAny_isTrue_Compare1 (thn (ha pins s σ H _ I h) fun v s1 ⟨x,H1,I1,r1,q1⟩=>thn (hb pins s1 σ H1 _ I1 q1) fun u s2 ⟨y,H2,I2,r2,q2⟩=>
  thn (ho pins s2 σ H2 x y v u _ I2 r1 r2 q2) fun c s3 ⟨z,H3,I3,r3,k,e,q3⟩=> ?_) hm
 subst e
 cases r3
 exact wpAny_truthy_bool ⟨H3,I3,q3⟩
noncomputable def zcn (r r':R2) (ta tb tc:TE):TE:=fun σ H Q=>ta σ H fun x H1=>tb σ H1 fun y H2=>r x y H2 fun z H3=>∃k,z= .bl k∧
 (if k=true then tc σ H3 fun w' H4=>r' y w' H4 Q else Q (.bl false) H3)
theorem zbt {op op':CmpOp} {r r':R2} (ho:OpR X (compareOp op) r) (ho':OpR X (compareOp op') r') (ha:PE X a ta) (hb:PE X b tb) (hc:PE X c tc)
  (hm:lastMarks [op,op'] [b,c]=false:=by with_unfolding_all rfl):PE X (.Compare a [op,op'] [b,c] pos) (zcn r r' ta tb tc):=by
 intro pins s σ H Q I h
 refine Compare_chain (thn (ha pins s σ H _ I h) fun v s1 ⟨x,H1,I1,r1,q1⟩=>chain_link (thn (hb pins s1 σ H1 _ I1 q1) fun u s2 ⟨y,H2,I2,r2,q2⟩=>
  thn (ho pins s2 σ H2 x y v u _ I2 r1 r2 q2) fun d s3 ⟨z,H3,I3,r3,k,e,q3⟩=> ?_)) hm
 subst e
 cases r3
 refine wpAny_truthy_bool ?_
 cases k with
 |false=>exact ite_ff ⟨.bl false,H3,I3,rfl,q3⟩
 |true=>exact ite_tt (chain_last (thn (hc pins s3 σ H3 _ I3 q3) fun w' s4 ⟨z',H4,I4,r4,q4⟩=>ho' pins s4 σ H4 y z' u w' Q I4 r2 r4 q4))
theorem zez {op op':CmpOp} {r r':R2} (ho:OpR X (compareOp op) r) (ho':OpR X (compareOp op') r') (ha:PE X a ta) (hb:PE X b tb) (hc:PE X c tc)
  (hm:lastMarks [op,op'] [b,c]=false:=by with_unfolding_all rfl):PT X (.Compare a [op,op'] [b,c] pos) (zey (zcn r r' ta tb tc)):=by
 intro pins s σ H Q I h
 refine isTrue_chain (thn (ha pins s σ H _ I h) fun v s1 ⟨x,H1,I1,r1,q1⟩=>test_link (thn (hb pins s1 σ H1 _ I1 q1) fun u s2 ⟨y,H2,I2,r2,q2⟩=>
  thn (ho pins s2 σ H2 x y v u _ I2 r1 r2 q2) fun d s3 ⟨z,H3,I3,r3,k,e,q3⟩=> ?_)) hm
 subst e
 cases r3
 refine wpAny_truthy_bool ?_
 cases k with
 |false=>
  obtain ⟨k',e',q'⟩:=q3
  cases e'
  exact ite_ff ⟨H3,I3,q'⟩
 |true=>
  refine ite_tt (test_last (thn (hc pins s3 σ H3 _ I3 q3) ?_))
  rintro w' s4 ⟨z',H4,I4,r4,q4⟩
  refine thn (ho' pins s4 σ H4 y z' u w' _ I4 r2 r4 q4) ?_
  rintro d' s5 ⟨z2,H5,I5,r5,k2,e2,q5⟩
  subst e2
  cases r5
  exact wpAny_truthy_bool ⟨H5,I5,q5⟩

theorem VN:(sizeLine:Nat)<2^63:=by rw [sizeLine_eq];decide

theorem vi:OpR X (binaryOp .Add) (fun x y H Q=>∃i j,x= .str i∧y= .str j∧i.length+j.length≤sizeLine∧Q (.str (i++j)) H):=by
 intro pins s σ H x y v u Q I rx ry h
 obtain ⟨i,j,rfl,rfl,hz,q⟩:=h
 obtain ⟨t,rfl⟩:=rx
 obtain ⟨t',rfl⟩:=ry
 exact add_str (fun t' tk=>⟨.str (i++j),H,I.tok _,⟨_,rfl⟩,q⟩) hz


theorem WF {x:V} {us:List Value} (r:yE [x] us):∃u,us=[u]∧yQ x u:=by
 cases r with
 |cons r1 r2=>cases r2;exact ⟨_,rfl,r1⟩
theorem zc5 {x y:V} {us:List Value} (r:yE [x,y] us):∃u w',us=[u,w']∧yQ x u∧yQ y w':=by
 cases r with
 |cons r1 r2=>
  cases r2 with
  |cons r3 r4=>cases r4;exact ⟨_,_,rfl,r1,r3⟩
theorem Yx (hc:X.calm=true):vD X (.builtin "max") (fun xs H Q=>∃i j,xs=[.int i,.int j]∧Q (.int (if j>i then j else i)) H):=by
 intro pins s σ H xs us Q I r h
 obtain ⟨i,j,rfl,q⟩:=h
 obtain ⟨u,w',rfl,⟨t,rfl⟩,⟨t',rfl⟩⟩:=zc5 r
 refine max_two_ints (I.ok.hd hc) fun h' tk k=>⟨_,H,I.kept k,?_,q⟩
 by_cases hj:j>i
 ·rw [if_pos hj,if_pos hj];exact ⟨_,rfl⟩
 ·rw [if_neg hj,if_neg hj];exact ⟨_,rfl⟩
theorem zao (hc:X.calm=true):vD X (.builtin "min") (fun xs H Q=>∃i j,xs=[.int i,.int j]∧Q (.int (if j<i then j else i)) H):=by
 intro pins s σ H xs us Q I r h
 obtain ⟨i,j,rfl,q⟩:=h
 obtain ⟨u,w',rfl,⟨t,rfl⟩,⟨t',rfl⟩⟩:=zc5 r
 refine min_two_ints (I.ok.hd hc) fun h' tk k=>⟨_,H,I.kept k,?_,q⟩
 by_cases hj:j<i
 ·rw [if_pos hj,if_pos hj];exact ⟨_,rfl⟩
 ·rw [if_neg hj,if_neg hj];exact ⟨_,rfl⟩
end
end L2

namespace L2
open PySem PySem.Spec PyProof.Rows

structure zhA (h:Heap) (x dx C:Addr) (mA:Str→Option Value):Prop where
 obj:h.get? x=some (PySem.W.instObj C dx)
 ns:h.Ns1 dx mA
 ne:dx≠x

theorem zdQ {h:Heap} {dx:Addr} {mA:Str→Option Value} (n:h.Ns1 dx mA):∃od,h.get? dx=some od∧∀name,PySem.W.lookIn name od=some (mA name):=by
 obtain ⟨o,es,ep,ho,hd,hk,_,hm⟩:=n
 refine ⟨o,ho,fun name=> ?_⟩
 have e:=hm name
 unfold nsFind findBy at e
 rw [←Array.find?_toList] at e
 unfold PySem.W.lookIn
 rw [hd]
 dsimp only
 split
 ·rename_i y q
  rw [q] at e
  exact congrArg some e
 ·rename_i q
  rw [q] at e
  have a:es.toList.any (·.refKey)=false:=by
   rw [List.any_eq_false]
   intro y hy
   obtain ⟨z,t,hkey⟩:=hk y (Array.mem_toList_iff.mp hy)
   simp [DictEntry.refKey,hkey]
  have a':¬es.toList.any (·.refKey)=true:=by rw [a];exact Bool.false_ne_true
  rw [if_neg a']
  exact congrArg some e

theorem zhA.look {h:Heap} {x dx C:Addr} {mA:Str→Option Value} (I:zhA h x dx C mA):∃od,PySem.W.InstAt h x (PySem.W.instObj C dx) C (some od)∧∀name,PySem.W.lookIn name od=some (mA name):=
 let ⟨od,ho,hl⟩:=zdQ I.ns
 ⟨od,⟨I.obj,rfl,rfl,ho⟩,hl⟩

section
variable {prog:Program} {w:World} {A:Around} {E:Value→Shared→Prop} {s:Shared} {K:PySem.W.Frag} {x dx C f:Addr} {mA:Str→Option Value} {name:Str} {v:Value}





end


theorem Uw.some_of {v:V} {o:Option Value} (r:Uw (some v) o):∃u,o=some u∧yQ v u:=by
 cases o with
 |none=>exact (show False from r).elim
 |some u=>exact ⟨u,rfl,r⟩

section
variable {P:Program} {w:World} {H H':Hp} {h h':Heap} {a C dx:Addr} {fs fs':List (Str×V)}
theorem zfO (hok:HOk P w H h) (e:H a=some (.ins C dx fs)):∃mA,zhA h a dx C mA∧(∀f,Uw (fs.lookup f) (mA f))∧PySem.Within mA (fs.map (·.1))∧fs.length≤1000∧H dx=some (.own a):=by
 obtain ⟨d,z,ne,ob,mA,n,r,q⟩:=(show xD P w H h a (.ins C dx fs) from hok a _ e)
 exact ⟨mA,⟨ob,n,ne⟩,r,q,z,d⟩
end

structure Cls (K:PySem.W.Frag) (C:Addr):Prop where
 pg:PySem.W.plainGet K C Str.empty=true
 hd:PySem.W.hasDictIn K C=true
 po:PySem.W.plainOver K C=true
 sa:PySem.W.findIn K (.ref C) "__setattr__"=some (some (.builtin "object.__setattr__"))
theorem Cls.get {K:PySem.W.Frag} {C:Addr} (c:Cls K C) (f:Str):PySem.W.plainGet K C f=true:=c.pg
structure Con (K:PySem.W.Frag) (C:Addr) (f:Str) (v:V) (u:Value):Prop where
 at_:PySem.W.findIn K (.ref C) f=some (some u)
 rel:yQ v u
 get:PySem.W.specialIn K u "__get__"=some none
 cp:PySem.W.copiedNames.contains f=false
structure zjJ (K:PySem.W.Frag) (C:Addr) (m:Str) (f:Addr):Prop where
 at_:PySem.W.findIn K (.ref C) m=some (some (.ref f))
 fn:PySem.W.isFn K (.ref f)=true
 kp:PySem.W.keepIn K (.ref f)=true

section
variable {X:Cx} {pins:List (Addr×Obj)} {σ:St} {H:Hp} {s:Shared} {a C dx:Addr} {fs:List (Str×V)} {f:Str} {v:V} {A:Around} {E:Value→Shared→Prop}






end


section
variable {X:Cx} {o e value:Expr} {f:Str} {pos pos' tpos:Pos} {ta tv:TE}

end

section
variable {X:Cx} {pins:List (Addr×Obj)} {σ:St} {H:Hp} {s:Shared} {A:Around} {E:Value→Shared→Prop} {Q:Value→Shared→Prop} {c:Value} {b:Bool}
inductive Uj (K:PySem.W.Frag) (H:Hp):V→Value→Prop where
 |non:Uj K H .non (.type "NoneType")
 |bl (x:Bool):Uj K H (.bl x) (.type "bool")
 |int (i:Int):Uj K H (.int i) (.type "int")
 |str (x:Str):Uj K H (.str x) (.type "str")
 |flt (x:UInt64):Uj K H (.flt x) (.type "float")
 |lst {a:Addr} {xs:List V} (e:H a=some (.lst xs)):Uj K H (.ref a) (.type "list")
 |frz {a:Addr} {o:Obj} {xs:List V} (e:H a=some (.frz o (.lst xs))):Uj K H (.ref a) (.type "list")
 |tup {a:Addr} {xs:List V} (e:H a=some (.tup xs)):Uj K H (.ref a) (.type "tuple")
 |dK {a:Addr} {kvs:List (Key×V)} (e:H a=some (.dK kvs)):Uj K H (.ref a) (.type "dict")
 |dT {a:Addr} {kvs:List (List Key×V)} (e:H a=some (.dT kvs)):Uj K H (.ref a) (.type "dict")
 |ins {a C dx:Addr} {fs:List (Str×V)} (e:H a=some (.ins C dx fs)) (cl:Cls K C) (ha:PySem.W.findIn K (.ref C) "__class__"=some (some (.builtin "object.__class__")))
   (hn:PySem.W.specialIn K (.builtin "object.__class__") "__get__"=some (some (.builtin "getset_descriptor.__get__"))) (htk:PySem.W.takesIn K (.builtin "object.__class__")=some true)
   (hm:PySem.W.mroIn K C (.type "object")=some true):Uj K H (.ref a) (.ref C)
end
end L2

namespace L2
open PySem PySem.Spec PyProof.Rows

structure XE (k:Nat) (A:Around):Prop where
 hd:A.handled=none
 dp:A.depth+3*k+5<recursionLimit
 un:A.units+16*k+200<cLine
 gd:A.guards=some []
theorem XE.mono {j k:Nat} {A:Around} (r:XE k A) (h:j≤k):XE j A:=⟨r.hd,by have:=r.dp;omega,by have:=r.un;omega,r.gd⟩
theorem XE.deeper {k:Nat} {A:Around} (r:XE (k+1) A) (env:Env):XE k (A.deeper env):=
 ⟨r.hd,by have:=r.dp;show A.depth+1+3*k+5<_;omega,by have:=r.un;show A.units+3+16*k+200<_;omega,r.gd⟩
theorem XE.depth {k:Nat} {A:Around} (r:XE k A):A.depth<recursionLimit:=by have:=r.dp;omega
theorem XE.units {k:Nat} {A:Around} (r:XE k A):A.units+64<cLine:=by have:=r.un;omega

noncomputable def zfP:TA:=fun _ H Q=>Q [] H
noncomputable def zbu (ta:TE) (tr:TA):TA:=fun σ H Q=>ta σ H fun x H1=>tr σ H1 fun xs H2=>Q (x::xs) H2
section
variable {X:Cx} {e:Expr} {es:List Expr} {te:TE} {t:TA} {pos:Pos}
theorem zg:PA X [] zfP:=fun _ _ _ _ H Q I h=>Calls.spliced_nil ⟨[],H,I,.nil,h⟩
theorem za (ha:PE X e te) (hr:PA X es t) (hs:starEach (e::es) X.env=(false,eval e X.env)::starEach es X.env:=by rfl):PA X (e::es) (zbu te t):=by
 intro pos pins s σ H Q I h
 rw [hs]
 show wpAny _ _ (spliced ((false,eval e X.env)::backTo pos (starEach es X.env))) _ _ s
 refine Calls.spliced_cons (thn (ha pins s σ H _ I h) ?_)
 rintro u s1 ⟨x,H1,I1,r1,q1⟩
 refine thn (hr pos pins s1 σ H1 _ I1 q1) ?_
 rintro us s2 ⟨xs,H2,I2,r2,q2⟩
 exact ⟨x::xs,H2,I2,.cons r1 r2,q2⟩

noncomputable def ziU (t:TA):TE:=fun σ H Q=>t σ H fun xs H1=>xs.length≤sizeLine∧∀p,H1 p=none→Q (.ref p) (upd H1 p (.tup xs))
noncomputable def ziV (t:TA):TE:=fun σ H Q=>t σ H fun xs H1=>xs.length≤sizeLine∧∀p,H1 p=none→Q (.ref p) (upd H1 p (.lst xs))
theorem zp {x1} (h:PA X es t):PE X (.Tuple es x1 pos) (ziU t):=by
 intro pins s σ H Q I hq
 refine wpAny_Tuple_spliced (thn (h pos pins s σ H _ I hq) fun us s1 ⟨xs,H1,I1,r,z,q⟩=>⟨by rw [←r.length];exact z,?_⟩)
 have hf:H1 s1.heap.objs.size=none:=I1.hok.fresh (Nat.le_refl _)
 refine ⟨.ref s1.heap.objs.size,upd H1 s1.heap.objs.size (.tup xs),I1.laid (t':=s1.toks) (fun b u e=>Heap.get?_push_of_some _ e) (Nat.le_refl _) ?_,rfl,q _ hf⟩
 exact ⟨z,us,r,⟨_,Heap.get?_push_size _ rfl,rfl,_,rfl,rfl⟩⟩
theorem xb (h:PA X es t):PE X (.List es pos) (ziV t):=by
 intro pins s σ H Q I hq
 refine wpAny_List_spliced (thn (h pos pins s σ H _ I hq) fun us s1 ⟨xs,H1,I1,r,z,q⟩=>⟨by rw [←r.length];exact z,?_⟩)
 have hf:H1 s1.heap.objs.size=none:=I1.hok.fresh (Nat.le_refl _)
 refine ⟨.ref s1.heap.objs.size,upd H1 s1.heap.objs.size (.lst xs),I1.laid (t':=s1.toks) (fun b u e=>Heap.get?_push_of_some _ e) (Nat.le_refl _) ?_,rfl,q _ hf⟩
 exact ⟨z,us,0,r,Heap.get?_push_size _ rfl⟩
end

noncomputable abbrev Sp:=List V→Hp→VK→XK→Prop
noncomputable abbrev CXT:=List Env→Hp→Shared→XK→Value→Shared→Prop

structure zfQ (P:Program) (w:World) (K:PySem.W.Frag) (mg:Str→Option Value) (base:Heap) (A:Around) (outer:List Env) (s:Shared) (H:Hp):Prop where
 frames:A.frames=some outer
 mod:Mod K mg base
 bs:∀b o,base.get? b=some o→s.heap.get? b=some o∧H b=none
 bsz:base.objs.size≤s.heap.objs.size
 funs:s.heap.FunFrames base outer
 frf:∀b∈frs outer,H b=none
 hok:HOk P w H s.heap
 bare:AllBare s.gens
noncomputable def CE (outer:List Env) (P:Program) (w:World) (H:Hp) (s:Shared) (Q:VK) (u:Value) (s':Shared):Prop:=
 ∃v H',s'.os=s.os∧AllBare s'.gens∧Un (frs outer) [] H H' s.heap s'.heap∧HOk P w H' s'.heap∧yQ v u∧Q v H'
noncomputable def CR (CX:CXT) (outer:List Env) (P:Program) (w:World) (H:Hp) (s:Shared) (Q:VK) (E:XK) (r:Result) (s':Shared):Prop:=
 match r with
 | .ok (.ret u)=>CE outer P w H s Q u s'
 | .ok _=>False
 | .error e=>CX outer H s E e s'
structure yZ (P:Program) (w:World) (K:PySem.W.Frag) (mg:Str→Option Value) (base:Heap) (CX:CXT) (k:Nat) (f:Addr) (fd:FuncData) (ps:List Str) (sp:Sp):Prop where
 len:∀vs H Q E,sp vs H Q E→vs.length=ps.length
 run:∀(A:Around) (outer:List Env) (s:Shared) (H:Hp) (args:Args) (us:List Value) (vs:List V) (Q:VK) (E:XK),XE k A→zfQ P w K mg base A outer s H→BindsTo s fd args (ps.zip us)→yE vs us→sp vs H Q E→
  codeAny (model P w) A (.call (.ref f) args) (CR CX outer P w H s Q E) s
theorem yZ.imp {P:Program} {w:World} {K:PySem.W.Frag} {mg:Str→Option Value} {base:Heap} {CX:CXT} {k:Nat} {f:Addr} {fd:FuncData} {ps:List Str} {sp sp':Sp} (F:yZ P w K mg base CX k f fd ps sp)
  (h:∀vs H Q E,sp' vs H Q E→sp vs H Q E):yZ P w K mg base CX k f fd ps sp':=
 ⟨fun vs H Q E q=>F.len vs H Q E (h _ _ _ _ q),fun A outer s H args us vs Q E hr he hb hv hs=>F.run A outer s H args us vs Q E hr he hb hv (h _ _ _ _ hs)⟩


section
variable {X:Cx} {pins:List (Addr×Obj)} {σ:St} {H:Hp} {s s':Shared}
theorem Inv.env0 (I:Inv X pins σ H s):zfQ X.prog X.w X.K X.mg X.base X.A X.stack s H:=
 ⟨I.ok.frames,I.ok.mod,I.bs,Nat.le_trans I.ok.bsz I.sz,I.stack,I.stkFree,I.hok,I.bare⟩
theorem Inv.after {Q:VK} {u:Value} (I:Inv X pins σ H s) (h:CE X.stack X.prog X.w H s Q u s'):EP X pins σ Q u s':=by
 obtain ⟨v,H',os,bare,un,hok,r,q⟩:=h
 obtain ⟨hh,g,d,t,os'⟩:=s'
 obtain rfl:os'=s.os:=os
 exact ⟨v,H',I.call (h':=hh) (g':=g) (d':=d) (t':=t) (ch:=[]) un hok bare (fun b z=>absurd z (by simp)),r,q⟩
end

noncomputable def zgV (sp:Sp) (dvs:List V) (E:XK) (t:TA):TE:=fun σ H Q=>t σ H fun vs H1=>sp (vs++dvs) H1 Q E

noncomputable def UB (K:PySem.W.Frag) (fd:FuncData) (ps:List Str) (ds:List Value):Prop:=
 ∀(s:Shared) (us:List Value),K.In s.heap→(us++ds).length=ps.length→BindsTo s fd ⟨us,[]⟩ (ps.zip (us++ds))
theorem UB.all {K:PySem.W.Frag} {fd:FuncData} {ps:List Str} (h:∀us:List Value,us.length=ps.length→bindArgs fd ⟨us,[]⟩=pure (ps.zip us)):UB K fd ps []:=fun s us _ hl=>by
 rw [List.append_nil] at hl ⊢
 exact .of_eq (h us hl)

noncomputable def zaL (CX:CXT) (X:Cx) (E:XK):Prop:=∀(pins:List (Addr×Obj)) (σ:St) (H:Hp) (s:Shared) (e:Value) (s':Shared),Inv X pins σ H s→CX X.stack H s E e s'→X.xe e s'

section
variable {X:Cx} {CX:CXT} {k:Nat} {f C:Addr} {fd:FuncData} {ps:List Str} {sp:Sp} {dvs:List V} {ds:List Value} {E:XK} {x m:Str} {p pos apos:Pos} {e o:Expr} {es:List Expr} {ta:TE} {t:TA}

theorem zhB {pins:List (Addr×Obj)} {σ:St} {H:Hp} {s:Shared} {Q:VK} {us:List Value} {vs:List V} (F:yZ X.prog X.w X.K X.mg X.base CX k f fd ps sp) (hr:XE k X.A) (hb:UB X.K fd ps ds) (hd:yE dvs ds) (hx:zaL CX X E)
  (I:Inv X pins σ H s) (r:yE vs us) (h:sp (vs++dvs) H Q E):wpAny (model X.prog X.w) X.A (call (.ref f) us) (EP X pins σ Q) X.xe s:=by
 have r2:yE (vs++dvs) (us++ds):=r.append hd
 have hl:(us++ds).length=ps.length:=by rw [←r2.length];exact F.len _ _ _ _ h
 refine wpAny_call (codeAny_mono (F.run X.A X.stack s H ⟨us,[]⟩ (us++ds) (vs++dvs) Q E hr I.env0 (hb s us I.kIn hl) r2 h) fun r s' hq=> ?_)
 cases r with
 |error e=>exact hx pins σ H s e s' I hq
 |ok fl=>
  cases fl with
  |ret u=>exact I.after hq
  |next=>exact False.elim hq
  |brk=>exact False.elim hq
  |cont=>exact False.elim hq

theorem zv (F:yZ X.prog X.w X.K X.mg X.base CX k f fd ps sp) (hr:XE k X.A) (hg:Gl X x) (hm:X.mg x=some (.ref f)) (hk:PySem.W.keepIn X.K (.ref f)=true) (hb:UB X.K fd ps ds) (hd:yE dvs ds) (hx:zaL CX X E)
  (ha:PA X (e::es) t) (hdb:(x==("__debug__":Str))=false:=by decide) (he:starEach (e::es) X.env=(false,eval e X.env)::starEach es X.env:=by rfl) (hpl:(backTo pos (starEach es X.env)).any (·.1)=false:=by rfl):
  PE X (.Call (.Name x p) (e::es) [] pos) (zgV sp dvs E t):=by
 intro pins s σ H Q I h
 refine wpAny_Call_Name_kw (zcX I hg hm ?_ hdb)
 refine PySem.W.callWith_K (h₀:=X.base) I.ok.mod.kin hk (thn (ha pos pins s σ H _ I h) ?_) he hpl
 rintro us s1 ⟨vs,H1,I1,r,q⟩
 refine ⟨I1.kIn,?_⟩
 exact zhB F hr hb hd hx I1 r q


structure Mk (K:PySem.W.Frag) (C f:Addr):Prop where
 makes:PySem.W.makesIn K C=true
 init:PySem.W.findIn K (.ref C) "__init__"=some (some (.ref f))
 fn:PySem.W.isFn K (.ref f)=true
 kp:PySem.W.keepIn K (.ref C)=true

end

section
variable {X:Cx} {CX:CXT} {k:Nat} {f C:Addr} {fd:FuncData} {ps ks:List Str} {sp:Sp} {E:XK} {x m:Str} {p pos apos kpos:Pos} {e o:Expr} {es:List Expr} {kws:List Keyword} {te ta:TE} {t tk:TA} {nm:Option Str}

structure zjK (K:PySem.W.Frag) (fd:FuncData) (ps ks:List Str) (g:List Value→List Value→List Value) (gV:List V→List V→List V):Prop where
 to:∀(s:Shared) (us ws:List Value),K.In s.heap→(g us ws).length=ps.length→BindsTo s fd ⟨us,ks.zip ws⟩ (ps.zip (g us ws))
 rel:∀{vs:List V} {us:List Value} {zs:List V} {ws:List Value},yE vs us→yE zs ws→yE (gV vs zs) (g us ws)
variable {g:List Value→List Value→List Value} {gV:List V→List V→List V}
end

structure yb (N P:List Str) (sc:Scope):Prop where
 kind:sc.kind= .function
 co:sc.isCoroutine=false
 gen:sc.isGenerator=false
 nd:N.Nodup
 pre:N.take P.length=P
 par:∀x∈P,sc.names.lookup x=some .local∨sc.names.lookup x=some .cell
 nofree:∀y∈sc.names,y.2≠ .free

theorem zap {kindOf:Str→Option NameKind} {x:Str}:∀{binds:List (Str×Value)} {m:Str→Option Value},(∀v,(x,v)∉binds)→bindL kindOf binds m x=m x
 |[],_,_=>rfl
 |(n,v)::r,m,h=>by
  unfold bindL
  rw [zap fun w hw=>h w (List.mem_cons_of_mem _ hw)]
  split
  ·have:x≠n:=by rintro rfl;exact h v List.mem_cons_self
   simp [this]
  ·rfl
theorem zaq {kindOf:Str→Option NameKind} {x:Str}:∀{binds:List (Str×Value)} {m:Str→Option Value},(∀v,(x,v)∉binds)→bindC kindOf binds m x=m x
 |[],_,_=>rfl
 |(n,v)::r,m,h=>by
  unfold bindC
  rw [zaq fun w hw=>h w (List.mem_cons_of_mem _ hw)]
  split
  ·rfl
  ·have:x≠n:=by rintro rfl;exact h v List.mem_cons_self
   simp [this]
theorem zar {kindOf:Str→Option NameKind} {x:Str} {v:Value}:∀{P:List Str} {vs:List Value} {i:Nat} {m:Str→Option Value},P.Nodup→P[i]? =some x→vs[i]? =some v→kindOf x=some .local→
  bindL kindOf (P.zip vs) m x=some v
 |[],_,_,_,_,h,_,_=>by simp at h
 |_::_,[],_,_,_,_,h,_=>by simp at h
 |p::P,w::vs,0,m,nd,h1,h2,hk=>by
  simp at h1 h2;subst h1;subst h2
  show bindL kindOf ((p,w)::P.zip vs) m p=_
  unfold bindL
  rw [zap fun v hv=>(List.nodup_cons.mp nd).1 (List.of_mem_zip hv).1,if_pos hk]
  simp
 |p::P,w::vs,i+1,m,nd,h1,h2,hk=>by
  show bindL kindOf ((p,w)::P.zip vs) m x=_
  unfold bindL
  exact zar (i:=i) (List.nodup_cons.mp nd).2 (by simpa using h1) (by simpa using h2) hk
theorem zas {kindOf:Str→Option NameKind} {x:Str} {v:Value}:∀{P:List Str} {vs:List Value} {i:Nat} {m:Str→Option Value},P.Nodup→P[i]? =some x→vs[i]? =some v→kindOf x≠some .local→
  bindC kindOf (P.zip vs) m x=some v
 |[],_,_,_,_,h,_,_=>by simp at h
 |_::_,[],_,_,_,_,h,_=>by simp at h
 |p::P,w::vs,0,m,nd,h1,h2,hk=>by
  simp at h1 h2;subst h1;subst h2
  show bindC kindOf ((p,w)::P.zip vs) m p=_
  unfold bindC
  rw [zaq fun v hv=>(List.nodup_cons.mp nd).1 (List.of_mem_zip hv).1,if_neg hk]
  simp
 |p::P,w::vs,i+1,m,nd,h1,h2,hk=>by
  show bindC kindOf ((p,w)::P.zip vs) m x=_
  unfold bindC
  exact zas (i:=i) (List.nodup_cons.mp nd).2 (by simpa using h1) (by simpa using h2) hk

noncomputable def XJ (N:List Str) (vs:List V):St:=vs.map some++List.replicate (N.length-vs.length) none

noncomputable def zbv (CX:CXT) (P:Program) (w:World) (K:PySem.W.Frag) (mg:Str→Option Value) (base:Heap) (N:List Str) (qual:Str) (scope:Scope) (f:Addr) (cd:Value) (A:Around) (outer:List Env) (s:Shared) (H:Hp) (E:XK):Cx where
 prog:=P
 w:=w
 K:=K
 mg:=mg
 base:=base
 A:=A.deeper (envOfC qual scope s.heap.objs.size f cd)
 N:=N
 s₀:=s
 H₀:=H
 env:=envOfC qual scope s.heap.objs.size f cd
 outer:=outer
 stack:=envOfC qual scope s.heap.objs.size f cd::outer
 ex:=[]
 calm:=true
 fn:=fun _=>true
 pn:=[]
 xe:=fun e s'=>wpAny (model P w) (A.deeper (envOfC qual scope s.heap.objs.size f cd)) (leaving (envOfC qual scope s.heap.objs.size f cd) e) (fun _ s''=>CX outer H s E e s'') (fun e' s''=>CX outer H s E e' s'') s'

theorem zbw {sc:Scope} {n:Nat} {x:Str} (h:sc.names.lookup x=some .cell):∃c,(cellsFrom n sc.names []).lookup x=some c:=by
 have q:=PySem.W.cellsFrom_some sc.names n [] (.inl h)
 exact Option.isSome_iff_exists.mp q

theorem zdR {CX:CXT} {P:Program} {w:World} {K:PySem.W.Frag} {mg:Str→Option Value} {base:Heap} {N ps:List Str} {qual:Str} {scope:Scope} {f:Addr} {cd:Value} {A:Around} {outer:List Env} {s s1:Shared} {H:Hp} {E:XK} {us:List Value} {vs:List V}
  (S:yb N ps scope) (hd:A.handled=none) (e0:zfQ P w K mg base A outer s H) (hl:vs.length=ps.length) (r:yE vs us)
  (x:InCallC s s.heap.objs.size (bindL (envOfC qual scope s.heap.objs.size f cd).kindOf (ps.zip us) fun _=>none) (cellsFrom (s.heap.objs.size+1) scope.names []) (bindC (envOfC qual scope s.heap.objs.size f cd).kindOf (ps.zip us) fun _=>none) s1):
  Inv (zbv CX P w K mg base N qual scope f cd A outer s H E) [] (XJ N vs) H s1:=by
 have hpl:ps.length≤N.length:=by have:=congrArg List.length S.pre;rw [List.length_take] at this;omega
 obtain ⟨h1,tk,rfl,hk⟩:=x.done
 have noA:∀b:Addr,b∉(zbv CX P w K mg base N qual scope f cd A outer s H E).ex:=fun b z=>absurd (show b∈([]:List Addr) from z) (by simp)
 refine ⟨⟨e0.mod,S.kind,rfl,rfl,Nat.le_refl _,fun y z c h1 h2=> ?_,fun y hy=> ?_,fun y c _ h=> ?_,fun _=>hd,Around.frames_deeper e0.frames,.inr ⟨rfl,rfl⟩,fun b z=>absurd z (noA b),e0.bs,e0.bsz,fun b _ _=>noA b,fun b z=>absurd z (noA b),e0.funs,e0.frf⟩,
  rfl,e0.bare,Un.kept hk,⟨_,x.toInCall.ns,fun i y v h1 h2 h3=> ?_⟩,fun y c h=>⟨_,x.cell y c h⟩,e0.hok.fresh (Nat.le_refl _),fun y c h=> ?_,fun p hp=>absurd (show p∈([]:List (Addr×Obj)) from hp) (by simp),e0.hok.kept hk,?_⟩
 ·exact name_of_addr x.apart (PySem.mem_of_lookup h1) (PySem.mem_of_lookup h2)
 ·have hy:scope.names.lookup y=some .cell∨scope.names.lookup y=some .free:=hy
  rcases hy with hy|hy
  ·exact zbw hy
  ·exact absurd rfl (S.nofree _ (PySem.mem_of_lookup hy))
 ·exact Nat.le_of_lt (x.above y c (PySem.mem_of_lookup h))
 ·have hi:i<vs.length:=by
   unfold XJ at h2
   by_cases hi:i<vs.length
   ·exact hi
   ·rw [List.getElem?_append_right (by simpa using hi)] at h2
    rw [List.getElem?_replicate] at h2
    split at h2<;>cases h2
  have ha:vs[i]? =some v:=by
   unfold XJ at h2
   rw [List.getElem?_append_left (by simpa using hi),List.getElem?_map] at h2
   cases e:vs[i]? with
   |none=>rw [e] at h2;cases h2
   |some a=>rw [e] at h2;cases h2;rfl
  obtain ⟨u,hu,rv⟩:=r.get ha
  have hp:ps[i]? =some y:=by
   rw [←S.pre,List.getElem?_take_of_lt (by omega)];exact h1
  have ndP:ps.Nodup:=by rw [←S.pre];exact S.nd.sublist (List.take_sublist _ _)
  refine ⟨u,rv,?_⟩
  rcases S.par y (List.mem_of_getElem? hp) with k|k
  ·exact .inl ⟨k,zar ndP hp hu k⟩
  ·obtain ⟨c,e⟩:=zbw (n:=s.heap.objs.size+1) k
   refine .inr ⟨.inl k,c,e,?_⟩
   have q:=x.cell y c e
   rw [zas ndP hp hu (by show scope.names.lookup y≠_;rw [k];decide)] at q
   exact q
 ·exact e0.hok.fresh (Nat.le_of_lt (x.above y c (PySem.mem_of_lookup h)))
 ·unfold XJ
  show _=N.length
  rw [List.length_append,List.length_map,List.length_replicate]
  omega

theorem ziW {CX:CXT} {P:Program} {w:World} {K:PySem.W.Frag} {mg:Str→Option Value} {base:Heap} {k:Nat} {f:Addr} {name qual:Str} {params:Arguments} {body:List Stmt} {scope:Scope} {dV kV doc pm cdv ct oc:Value} {an od:Option Addr}
  {osl:Array (Option Value)} {N ps:List Str} {sp:Sp} (lk:K.lookup f=some ⟨oc,od,.func (PySem.W.fnOf name qual params body scope dV kV doc pm an cdv ct),osl⟩) (hcd:PySem.W.codeIn K cdv qual=true) (S:yb N ps scope)
  (len:∀vs H Q E,sp vs H Q E→vs.length=ps.length)
  (hbody:∀(A:Around) (outer:List Env) (s:Shared) (H:Hp) (vs:List V) (Q:VK) (E:XK),XE k (A.deeper (envOfC qual scope s.heap.objs.size f cdv))→sp vs H Q E→
   ∃t,PSs (zbv CX P w K mg base N qual scope f cdv A outer s H E) body t∧t {nx:=fun _ H'=>Q .non H',rt:=Q} (XJ N vs) H):
  yZ P w K mg base CX (k+1) f (PySem.W.fnOf name qual params body scope dV kV doc pm an cdv ct) ps sp:=by
 refine ⟨len,fun A outer s H args us vs Q E hr e0 hb r hsp=> ?_⟩
 have hl:=len _ _ _ _ hsp
 have KX:K.In s.heap:=e0.mod.kin.keeps fun b o e=>(e0.bs b o e).1
 have lim:s.heap.NoLimit:=e0.mod.nolimit.keeps fun b o e=>(e0.bs b o e).1
 have hkind:∀y∈ps.zip us,scope.names.lookup y.1=some .local∨(scope.names.lookup y.1=some .cell∧((cellsFrom (s.heap.objs.size+1) scope.names []).lookup y.1).isSome=true):=fun ⟨n,v⟩ hy=>by
  rcases S.par n (List.of_mem_zip hy).1 with q|q
  ·exact .inl q
  ·exact .inr ⟨q,PySem.W.cellsFrom_some _ _ _ (.inl q)⟩
 refine codeAny_call_function hr.depth (KX _ _ lk) rfl S.co S.gen rfl (PySem.W.codeRec_of KX hcd) (hb _ _ _ _ ?_)
 refine wpAny_newFunctionEnv_cells S.kind hkind fun env he s1 x=> ?_
 subst he
 refine ⟨lim.keeps x.toInCall.keep,codeAny_func ?_⟩
 obtain ⟨t,ht,hq⟩:=hbody A outer s H vs Q E (hr.deeper _) hsp
 have I:Inv (zbv CX P w K mg base N qual scope f cdv A outer s H E) [] (XJ N vs) H s1:=zdR S hr.hd e0 hl r x
 refine wpAny_mono (ht [] s1 (XJ N vs) H _ I hq) (fun fl s' hs=> ?_) fun e s' hs=>hs
 have fin:∀{σ':St} {H':Hp} {v:V} {u:Value},Inv (zbv CX P w K mg base N qual scope f cdv A outer s H E) [] σ' H' s'→yQ v u→Q v H'→CE outer P w H s Q u s':=
  fun {σ' H' v u} J rv q=>⟨v,H',J.os,J.bare,J.base,J.hok,rv,q⟩
 cases fl with
 |ret u=>
  obtain ⟨v,σ',H',J,rv,q⟩:=hs
  exact fin J rv q
 |next=>
  obtain ⟨σ',H',J,q⟩:=hs
  exact fin (v:=V.non) (u:=Value.none) J rfl q
 |brk=>
  obtain ⟨_,_,_,q⟩:=hs
  exact False.elim q
 |cont=>
  obtain ⟨_,_,_,q⟩:=hs
  exact False.elim q
end L2

namespace L2
open PySem PySem.Spec PyProof.Rows
section
variable {X:Cx} {x:Str} {p pos:Pos} {e:Expr} {es:List Expr} {t:TA} {id T:String} {r:List V→Hp→VK→Prop}

noncomputable def tCB (r:List V→Hp→VK→Prop) (t:TA):TE:=fun σ H Q=>t σ H fun vs H1=>r vs H1 Q
theorem zQ (hc:vD X (.builtin id) r) (hg:Gl X x) (hm:X.mg x=none) (hv:bootBuiltins x=some (.builtin id)) (ha:PA X (e::es) t) (hn:x≠"__name__":=by decide) (hdb:(x==("__debug__":Str))=false:=by decide)
  (he:starEach (e::es) X.env=(false,eval e X.env)::starEach es X.env:=by rfl) (hpl:(backTo pos (starEach es X.env)).any (·.1)=false:=by rfl):PE X (.Call (.Name x p) (e::es) [] pos) (tCB r t):=by
 intro pins s σ H Q I h
 refine wpAny_Call_Name_kw (WN I hg hm hv ?_ hn hdb)
 refine PyProof.Rows.callWith_builtin1 (thn (ha pos pins s σ H _ I h) ?_) he hpl
 rintro us s1 ⟨vs,H1,I1,r1,q1⟩
 exact hc pins s1 σ H1 vs us Q I1 r1 q1
theorem yT (hc:vD X (.type T) r) (hg:Gl X x) (hm:X.mg x=none) (hv:bootBuiltins x=some (.type T)) (ha:PA X (e::es) t) (hn:x≠"__name__":=by decide) (hdb:(x==("__debug__":Str))=false:=by decide)
  (he:starEach (e::es) X.env=(false,eval e X.env)::starEach es X.env:=by rfl) (hpl:(backTo pos (starEach es X.env)).any (·.1)=false:=by rfl):PE X (.Call (.Name x p) (e::es) [] pos) (tCB r t):=by
 intro pins s σ H Q I h
 refine wpAny_Call_Name_kw (WN I hg hm hv ?_ hn hdb)
 refine PyProof.Rows.callWith_type1 (thn (ha pos pins s σ H _ I h) ?_) he hpl
 rintro us s1 ⟨vs,H1,I1,r1,q1⟩
 exact hc pins s1 σ H1 vs us Q I1 r1 q1
end
end L2
namespace HT
open PySem PyProof.Rows



section
open PySem.SeqAt
open PySem.AutoSeq1 (wpAny_loadPart')
open PySem.MeetsSeq PySem.MeetsSeq2 PySem.MeetsSeq3

end

section
variable {prog:Program} {w:World} {A:Around} {E:Value→Shared→Prop} {s:Shared}


theorem zfR {t b:Addr} {vs ws:List Value} {Q:Value→Shared→Prop} (ht:IsTup s.heap t vs.toArray) (hb:IsTup s.heap b ws.toArray) (hv:vs≠[])
  (h1:ws=[]→Q (.ref t) s) (h2:ws≠[]→Q (.ref s.heap.objs.size) {s with heap:=s.heap.push {cls:= .type "tuple",data:= .seq (vs++ws).toArray}})
  (hsz:vs.length+ws.length≤sizeLine):wpAny (model prog w) A (binaryOp .Add (.ref t) (.ref b)) Q E s:=by
 obtain ⟨⟨cls,dd,data,sl⟩,ho,hc,n,hd⟩:=id ht
 obtain ⟨⟨cls2,dd2,data2,sl2⟩,ho2,hc2,n2,hd2⟩:=id hb
 simp only at hc hd hc2 hd2
 subst hc hd hc2 hd2
 have e:vs.toArray++ws.toArray=(vs++ws).toArray:=by simp
 by_cases hw:ws=[]
 ·exact concat_meets ⟨_,ho,rfl⟩ ⟨_,ho2,rfl⟩ noFill_tuple_add seq_tuple_add PySem.F.slot_tuple_add PySem.F.entry_tuple_add (PySem.F.args_tuple_add_2 _ _)
   (tuple_addW1 t b vs.toArray ws.toArray n n2 dd dd2 sl sl2 (by simpa using hv) (by simp [hw])) ⟨ho,ho2,h1 hw⟩
 ·refine concat_meets ⟨_,ho,rfl⟩ ⟨_,ho2,rfl⟩ noFill_tuple_add seq_tuple_add PySem.F.slot_tuple_add PySem.F.entry_tuple_add (PySem.F.args_tuple_add_2 _ _)
   (tuple_addW2 t b vs.toArray ws.toArray n n2 dd dd2 sl sl2 (by simpa using hv) (by simpa using hw) (by rw [List.size_toArray,List.size_toArray];exact hsz)) ⟨ho,ho2,?_⟩
  rw [e]
  exact h2 hw

noncomputable def sIx (n d:Nat):Option Int→Nat
 |none=>d
 |some v=>if v<0 then (v+(n:Int)).toNat else min v.toNat n
theorem UC (n d:Nat):sIx n d none=d:=rfl
theorem zc6 (n d k:Nat):sIx n d (some (k:Int))=min k n:=by
 show (if (k:Int)<0 then ((k:Int)+(n:Int)).toNat else min (k:Int).toNat n)=min k n
 rw [if_neg (by omega),Int.toNat_natCast]
theorem zhC (n d:Nat) (hd:d≤n) (o:Option Int):sIx n d o≤n:=by
 cases o with
 |none=>exact hd
 |some v=>
  show (if v<0 then (v+(n:Int)).toNat else min v.toNat n)≤n
  by_cases hv:v<0
  ·rw [if_pos hv];omega
  ·rw [if_neg hv];exact Nat.min_le_right _ _
theorem zc7 (v:Int) (n d:Nat):(if v<0 then max (v+(n:Int)) 0 else min v (n:Int))=((sIx n d (some v):Nat):Int):=by
 show (if v<0 then max (v+(n:Int)) 0 else min v (n:Int))=(((if v<0 then (v+(n:Int)).toNat else min v.toNat n):Nat):Int)
 by_cases hv:v<0
 ·simp only [if_pos hv];omega
 ·simp only [if_neg hv];omega
theorem zco (lo hi:Option Int) (n:Nat):Builtin.Slice.sliceAdjust lo hi 1 (n:Int)=(((sIx n 0 lo:Nat):Int),((sIx n n hi:Nat):Int)):=by
 have h1:¬((1:Int)<0):=by omega
 unfold Builtin.Slice.sliceAdjust
 simp only [h1,if_false]
 refine Prod.ext ?_ ?_
 ·cases lo with
  |none=>rfl
  |some v=>exact zc7 v n 0
 ·cases hi with
  |none=>rfl
  |some v=>exact zc7 v n n
theorem zcp (i j:Nat):Builtin.Slice.slicePlaces (i:Int) (j:Int) 1=j-i:=by
 unfold Builtin.Slice.slicePlaces
 have h1:(1:Int)>0:=by omega
 simp only [h1,if_true,Int.ediv_one]
 split<;>omega
theorem Zv {v:Value} {o:Option Int} {Q:Option Int→Shared→Prop} (p:IsPart v o) (h:Q o s):wpAny (model prog w) A (Builtin.Slice.slicePartIndex v) Q E s:=by
 cases p with
 |none=>exact slicePart_none h
 |int i t=>exact slicePart_int h
theorem Yy {sl:Addr} {vl vu:Value} {lo hi:Option Int} {n:Nat} {Q:Int×Int×Nat→Shared→Prop} (hs:s.heap.IsSliceOf sl vl vu .none) (pl:IsPart vl lo) (pu:IsPart vu hi)
  (h:Q (((sIx n 0 lo:Nat):Int),1,sIx n n hi-sIx n 0 lo) s):wpAny (model prog w) A (Builtin.Slice.sliceApplied (.ref sl) (pure (n:Int))) Q E s:=by
 obtain ⟨os,hos,hcs,hds⟩:=id hs
 unfold Builtin.Slice.sliceApplied Builtin.Slice.sliceFields
 refine wpAny_bind (wpAny_bind (wpAny_field hos hds (x:=vl) rfl (wpAny_bind (wpAny_field hos hds (x:=vu) rfl (wpAny_bind (wpAny_field hos hds (x:= .none) rfl (wpAny_pure ?_)))))))
 refine wpAny_bind (slicePart_none ?_)
 show wpAny _ _ (if ((1:Int)==0)=true then _ else _) _ _ s
 rw [if_neg (by decide)]
 refine wpAny_bind (Zv pl (wpAny_bind (Zv pu (wpAny_bind (wpAny_pure ?_)))))
 show wpAny _ _ (match Builtin.Slice.sliceAdjust lo hi 1 (n:Int) with|(lo,hi)=>pure (lo,(1:Int),Builtin.Slice.slicePlaces lo hi 1)) _ _ s
 rw [zco lo hi n]
 show wpAny _ _ (pure (((sIx n 0 lo:Nat):Int),(1:Int),Builtin.Slice.slicePlaces ((sIx n 0 lo:Nat):Int) ((sIx n n hi:Nat):Int) 1)) _ _ s
 rw [zcp]
 exact wpAny_pure h
theorem zeA (xs:Array Value) (i k:Nat):((List.range k).filterMap fun (m:Nat)=>xs[((i:Int)+(m:Int)*1).toNat]?).toArray=((xs.toList.drop i).take k).toArray:=by
 have e:(fun (m:Nat)=>xs[((i:Int)+(m:Int)*1).toNat]?)=fun m=>xs[i+m]? :=by
  funext m
  have:((i:Int)+(m:Int)*1).toNat=i+m:=by omega
  rw [this]
 rw [e]
 have:=pick_run xs i k
 rw [List.filterMap_map] at this
 have e2:((fun x=>xs[x]?) ∘ fun x=>i+x)=fun m=>xs[i+m]? :=rfl
 rw [e2] at this
 rw [this]

theorem Vb {t sl:Addr} {items:Array Value} {vl vu:Value} {lo hi:Option Int} {Q:Value→Shared→Prop} (ht:IsTup s.heap t items) (hs:s.heap.IsSliceOf sl vl vu .none) (pl:IsPart vl lo) (pu:IsPart vu hi)
  (hw:¬(sIx items.size 0 lo=0∧sIx items.size items.size hi=items.size))
  (h:Q (.ref s.heap.objs.size) {s with heap:=s.heap.push {cls:= .type "tuple",data:= .seq ((items.toList.drop (sIx items.size 0 lo)).take (sIx items.size items.size hi-sIx items.size 0 lo)).toArray}})
  (hsz:items.size≤sizeLine):wpAny (model prog w) A (getItem (.ref t) (.ref sl)) Q E s:=by
 have htake:sizeOk (.seq ((items.toList.drop (sIx items.size 0 lo)).take (sIx items.size items.size hi-sIx items.size 0 lo)).toArray):=by
  show ((items.toList.drop (sIx items.size 0 lo)).take (sIx items.size items.size hi-sIx items.size 0 lo)).toArray.size≤sizeLine
  rw [List.size_toArray,List.length_take,List.length_drop,Array.length_toList]
  omega
 have hj:sIx items.size items.size hi≤items.size:=zhC _ _ (Nat.le_refl _) hi
 obtain ⟨os,hos,hcs,hds⟩:=id hs
 have hTs:s.TypeIs (.ref sl) "slice":=⟨os,hos,hcs⟩
 unfold getItem
 try with_reducible refine wpAny_holding ?_
 first|refine wpAny_bind (wpAny_pure ?_)|skip
 refine wpAny_bind (wpAny_sequenceKey ht.typeIs (by decide) ?_)
 refine wpAny_bind (wpAny_callSpecial?_slot (name:=Str.ofString "__getitem__") ht.typeIs PyProof.Rows.slot_tuple_getitem
  (wpAny_call_entry PyProof.Rows.slot_tuple_getitem ht.typeIs entry_tuple_getitem ?_ (args_tuple_getitem _ _)))
 show wpAny _ _ (Builtin.Tuple.tupleItemsOf (.ref t)>>=_) _ _ s
 refine wpAny_bind (tupleItemsOf_ ht ?_)
 refine wpAny_bind (wpAny_typeOf hTs ?_)
 rw [if_pos (by decide)]
 refine wpAny_bind (Yy hs pl pu ?_)
 have hno:¬((((sIx items.size 0 lo:Nat):Int)==0&&(1:Int)==1&&(sIx items.size items.size hi-sIx items.size 0 lo)==items.size)=true):=by
  intro q
  rw [Bool.and_eq_true,Bool.and_eq_true] at q
  have q1:((sIx items.size 0 lo:Nat):Int)=0:=eq_of_beq q.1.1
  have q2:sIx items.size items.size hi-sIx items.size 0 lo=items.size:=eq_of_beq q.2
  exact hw ⟨by omega,by omega⟩
 show wpAny _ _ (if (((sIx items.size 0 lo:Nat):Int)==0&&(1:Int)==1&&(sIx items.size items.size hi-sIx items.size 0 lo)==items.size)=true then _ else _) _ _ s
 rw [if_neg hno,zeA]
 first
  |exact wpAny_bind (m:=Builtin.Tuple.tupleExact _) (wpAny_newObj_type (wpAny_pure ⟨_,rfl,wpAny_pure h⟩) htake)
  |exact wpAny_bind (m:=Builtin.Tuple.tupleExact _) (wpAny_newObj_type (wpAny_bind (wpAny_pure (wpAny_pure ⟨_,rfl,wpAny_pure h⟩))) htake)
  |exact wpAny_bind (wpAny_bind (m:=Builtin.Tuple.tupleExact _) (wpAny_newObj_type (wpAny_pure (wpAny_pure ⟨_,rfl,wpAny_pure h⟩)) htake))
  |exact wpAny_bind (wpAny_bind (m:=Builtin.Tuple.tupleExact _) (wpAny_newObj_type (wpAny_pure ⟨_,rfl,wpAny_pure h⟩) htake))
end
end HT

namespace L2
open PySem PySem.Spec PyProof.Rows

noncomputable abbrev TO:=St→Hp→(Option Int→Hp→Prop)→Prop
noncomputable def PO (X:Cx) (e:Option Expr) (t:TO):Prop:=
 ∀(pins:List (Addr×Obj)) (s:Shared) (σ:St) (H:Hp) (Q:Option Int→Hp→Prop),Inv X pins σ H s→t σ H Q→
  wpAny (model X.prog X.w) X.A (evalPart e X.env) (fun u s'=>∃o H',Inv X pins σ H' s'∧IsPart u o∧Q o H') X.xe s
noncomputable def zc8:TO:=fun _ H Q=>Q none H
noncomputable def zgW (t:TE):TO:=fun σ H Q=>t σ H fun x H1=>∃i,x= .int i∧Q (some i) H1


section
variable {X:Cx} {e:Expr} {te:TE} {lo hi:Option Expr} {tl th:TO} {pos p2:Pos}

theorem xJ:PO X none zc8:=by
 intro pins s σ H Q I h
 rw [evalPart_none]
 exact wpAny_pure ⟨none,H,I,.none,h⟩
theorem xK (h:PE X e te):PO X (some e) (zgW te):=by
 intro pins s σ H Q I hw
 rw [evalPart_some]
 refine thn (h pins s σ H _ I hw) ?_
 rintro u s1 ⟨x,H1,I1,r1,q1⟩
 obtain ⟨i,rfl,q⟩:=q1
 obtain ⟨t,rfl⟩:=r1
 exact ⟨some i,H1,I1,.int i t,q⟩

noncomputable def SlR (X:Cx) (r:V→Option Int→Option Int→Hp→VK→Prop):Prop:=
 ∀(pins:List (Addr×Obj)) (s:Shared) (σ:St) (H:Hp) (x:V) (v vl vu:Value) (lo hi:Option Int) (sl:Addr) (Q:VK),Inv X pins σ H s→yQ x v→s.heap.IsSliceOf sl vl vu .none→IsPart vl lo→IsPart vu hi→r x lo hi H Q→
  ∃T id,typeLookup (.type T) "__getitem__"=pure (some (.builtin id))∧s.TypeIs v T∧wpAny (model X.prog X.w) X.A (getItem v (.ref sl)) (EP X pins σ Q) X.xe s
noncomputable def tSl (r:V→Option Int→Option Int→Hp→VK→Prop) (te:TE) (tl th:TO):TE:=fun σ H Q=>te σ H fun x H1=>tl σ H1 fun l H2=>th σ H2 fun u H3=>r x l u H3 Q
theorem xp {r:V→Option Int→Option Int→Hp→VK→Prop} (hr:SlR X r) (he:PE X e te) (hl:PO X lo tl) (hu:PO X hi th):PE X (.Subscript e (.Slice lo hi none p2) pos) (tSl r te tl th):=by
 intro pins s σ H Q I h
 refine Subscript_ (thn (he pins s σ H _ I h) ?_)
 rintro v s1 ⟨x,H1,I1,r1,q1⟩
 refine wpAny_Slice (thn (hl pins s1 σ H1 _ I1 q1) ?_)
 rintro vl s2 ⟨l,H2,I2,pl,q2⟩
 refine thn (hu pins s2 σ H2 _ I2 q2) ?_
 rintro vu s3 ⟨u,H3,I3,pu,q3⟩
 rw [evalPart_none]
 refine wpAny_pure ?_
 have I4:Inv X pins σ H3 {s3 with heap:=s3.heap.push {cls:= .type "slice",data:= .fields #[vl,vu,.none]}}:=I3.kept (t':=s3.toks) fun b ob q=>Heap.get?_push_of_some _ q
 obtain ⟨T,id,hT,ht,hg⟩:=hr pins {s3 with heap:=s3.heap.push {cls:= .type "slice",data:= .fields #[vl,vu,.none]}} σ H3 x v vl vu l u s3.heap.objs.size Q I4 r1 (Heap.IsSliceOf.new ..) pl pu q3
 show wpAny (model X.prog X.w) X.A (subscriptTail e (.Slice lo hi none p2) v (.ref s3.heap.objs.size)) (EP X pins σ Q) X.xe {s3 with heap:=s3.heap.push {cls:= .type "slice",data:= .fields #[vl,vu,.none]}}
 exact tail_any (ops:=[.ref s3.heap.objs.size,v]) ht hT hg (by with_unfolding_all rfl)

noncomputable def Tw (xs:List V) (lo hi:Option Int):List V:=(xs.drop (HT.sIx xs.length 0 lo)).take (HT.sIx xs.length xs.length hi-HT.sIx xs.length 0 lo)
theorem Uf (xs:List V) (lo hi:Option Int):(Tw xs lo hi).length≤xs.length:=by
 unfold Tw
 rw [List.length_take,List.length_drop]
 omega
noncomputable def zjL (K:PySem.W.Frag):V→Option Int→Option Int→Hp→VK→Prop:=fun x lo hi H Q=>∃a xs,x= .ref a∧SqT K H a xs∧
 ¬(HT.sIx xs.length 0 lo=0∧HT.sIx xs.length xs.length hi=xs.length)∧∀p,H p=none→Q (.ref p) (upd H p (.tup (Tw xs lo hi)))
theorem zhD:SlR X (zjL X.K):=by
 intro pins s σ H x v vl vu lo hi sl Q I rx hs pl pu h
 obtain ⟨a,xs,rfl,hx,hw,q⟩:=h
 cases rx
 obtain ⟨its,r,ht,hz⟩:=I.tuple hx
 have hlen:its.toArray.size=xs.length:=by rw [List.size_toArray];exact r.length.symm
 refine ⟨"tuple",_,PyProof.Rows.slot_tuple_getitem.lookup,ht.typeIs,?_⟩
 refine HT.Vb ht hs pl pu (by rw [hlen];exact hw) ?_ (by rw [hlen];exact hz)
 rw [hlen]
 refine ⟨.ref s.heap.objs.size,_,I.laid (t':=s.toks) (o:= .tup (Tw xs lo hi)) (fun b ob q=>Heap.get?_push_of_some _ q) (Nat.le_refl _) ?_,rfl,q _ (I.hok.fresh (Nat.le_refl _))⟩
 exact ⟨Nat.le_trans (Uf xs lo hi) hz,_,(r.drop (HT.sIx xs.length 0 lo)).take (HT.sIx xs.length xs.length hi-HT.sIx xs.length 0 lo),YH.new _ _⟩

noncomputable def ziX (K:PySem.W.Frag):R2:=fun x y H Q=>∃a b xs ys,x= .ref a∧y= .ref b∧SqT K H a xs∧SqT K H b ys∧xs≠[]∧xs.length+ys.length≤sizeLine∧
 (ys=[]→Q (.ref a) H)∧(ys≠[]→∀p,H p=none→Q (.ref p) (upd H p (.tup (xs++ys))))
theorem yE.nil_iff {xs:List V} {us:List Value} (r:yE xs us):us=[]↔xs=[]:=by
 cases r with
 |nil=>simp
 |cons _ _=>simp
theorem zfS:OpR X (binaryOp .Add) (ziX X.K):=by
 intro pins s σ H x y v u Q I rx ry h
 obtain ⟨a,b,xs,ys,rfl,rfl,ha,hb,hx,hz,q1,q2⟩:=h
 cases rx
 cases ry
 obtain ⟨its,r1,p1,_⟩:=I.tuple ha
 obtain ⟨its2,r2,p2,_⟩:=I.tuple hb
 refine HT.zfR p1 p2 (fun z=>hx (r1.nil_iff.mp z)) (fun z=>⟨.ref a,H,I,rfl,q1 (r2.nil_iff.mp z)⟩) (fun z=> ?_) (by rw [←r1.length,←r2.length];exact hz)
 refine ⟨.ref s.heap.objs.size,_,I.laid (t':=s.toks) (o:= .tup (xs++ys)) (fun b ob q=>Heap.get?_push_of_some _ q) (Nat.le_refl _) ?_,rfl,q2 (fun w=>z (r2.nil_iff.mpr w)) _ (I.hok.fresh (Nat.le_refl _))⟩
 exact ⟨by rw [List.length_append];exact hz,_,r1.append r2,YH.new _ _⟩
end
end L2

namespace L2
open PySem PySem.Spec PyProof.Rows

noncomputable def ixN (n:Nat) (i:Int):Option Nat:=if 0≤i then (if i<n then some i.toNat else none) else if -(n:Int)≤i then some (i+n).toNat else none
noncomputable def atI {α:Type} (xs:List α) (i:Int):Option α:=(ixN xs.length i).bind fun j=>xs[j]?
theorem zc9 {n:Nat} {i:Int} {j:Nat} (h:ixN n i=some j):seqIndex? i n=some j∧j<n∧ -(n:Int)≤i∧i<n:=by
 unfold ixN at h
 by_cases h0:0≤i
 ·rw [if_pos h0] at h
  by_cases h1:i<n
  ·rw [if_pos h1] at h
   have e:i.toNat=j:=Option.some.inj h
   exact ⟨by rw [seqIndex_of h0 h1,e],by omega,by omega,h1⟩
  ·rw [if_neg h1] at h;cases h
 ·rw [if_neg h0] at h
  by_cases h1: -(n:Int)≤i
  ·rw [if_pos h1] at h
   have e:(i+n).toNat=j:=Option.some.inj h
   exact ⟨by rw [seqIndex_neg (by omega) h1,e],by omega,h1,by omega⟩
  ·rw [if_neg h1] at h;cases h
theorem zaM {α:Type} {xs:List α} {i:Int} {v:α} (h:atI xs i=some v):∃j,seqIndex? i xs.length=some j∧xs[j]? =some v∧j<xs.length∧ -(xs.length:Int)≤i∧i<xs.length:=by
 unfold atI at h
 cases e:ixN xs.length i with
 |none=>rw [e] at h;cases h
 |some j=>
  rw [e] at h
  obtain ⟨h1,h2,h3,h4⟩:=zc9 e
  exact ⟨j,h1,h,h2,h3,h4⟩

noncomputable def zfT (b:Expr):Prop:=∀o i,subscripted b false o i=operate [o,i] (getItem o i)
noncomputable def IxR (X:Cx) (r:R2):Prop:=
 ∀(value slice:Expr) (pins:List (Addr×Obj)) (s:Shared) (σ:St) (H:Hp) (x y:V) (v u:Value) (Q:VK),Inv X pins σ H s→yQ x v→yQ y u→r x y H Q→
  subscripted slice false v u=operate [v,u] (getItem v u)→wpAny (model X.prog X.w) X.A (subscriptTail value slice v u) (EP X pins σ Q) X.xe s
noncomputable def MtR (X:Cx) (id:String) (r:V→List V→Hp→VK→Prop):Prop:=
 ∀(pins:List (Addr×Obj)) (s:Shared) (σ:St) (H:Hp) (x:V) (xs:List V) (v:Value) (us:List Value) (Q:VK),Inv X pins σ H s→yQ x v→yE xs us→r x xs H Q→
  wpAny (model X.prog X.w) X.A (call (.builtin id) (v::us)) (EP X pins σ Q) X.xe s
section
variable {X:Cx} {a b:Expr} {ta tb:TE} {pos:Pos}
theorem yc {r:R2} (hr:IxR X r) (ha:PE X a ta) (hb:PE X b tb) (hs:zfT b):PE X (.Subscript a b pos) (tOp r ta tb):=by
 intro pins s σ H Q I h
 exact Subscript_ (zhx ha hb I h fun v u s2 x y H2 I2 rx ry q=>hr a b pins s2 σ H2 x y v u Q I2 rx ry q (hs _ _))

noncomputable def zhE (K:PySem.W.Frag):R2:=fun x y H Q=>∃p xs i v,x= .ref p∧y= .int i∧SqL K H p xs∧atI xs i=some v∧Q v H
noncomputable def zhF (K:PySem.W.Frag):R2:=fun x y H Q=>∃p xs i v,x= .ref p∧y= .int i∧SqT K H p xs∧atI xs i=some v∧Q v H
noncomputable def ziY:R2:=fun x y H Q=>∃z i c,x= .str z∧y= .int i∧z.length≤sizeLine∧atI z.cps.toList i=some c∧Q (.str ⟨#[c]⟩) H
theorem zfU:IxR X (zhE X.K):=by
 intro value slice pins s σ H x y v u Q I rx ry h hs
 obtain ⟨p,xs,i,z,rfl,rfl,hq,he,q⟩:=h
 cases rx
 obtain ⟨t,rfl⟩:=ry
 obtain ⟨its,r,pl,hz⟩:=I.list hq
 obtain ⟨j,h1,h2,h3,h4,h5⟩:=zaM he
 obtain ⟨w,ew,rw'⟩:=r.get h2
 have hl:=r.length
 have hn:=VN
 have fin:EP X pins σ Q w s:=⟨z,H,I,rw',q⟩
 by_cases h0:0≤i
 ·have hj:i.toNat=j:=by
   rw [seqIndex_of h0 h5] at h1
   exact Option.some.inj h1
  exact item_listR pl.isList h0 (by omega) (by rw [hj];simpa using ew) fin hs
 ·have hj:(i+(its.toArray.size:Int)).toNat=j:=by
   rw [seqIndex_neg (by omega) h4] at h1
   rw [List.size_toArray,←hl]
   exact Option.some.inj h1
  exact subscriptTail_builtinR (x:=w) pl.isList.typeIs slot_list_getitem.lookup
   (wpAny_getItem_list_neg (Q:=fun r s'=>r=w∧EP X pins σ Q r s') pl.isList (by omega) (by rw [List.size_toArray]<;>omega) (by omega) (by rw [hj];simpa using ew) ⟨rfl,fin⟩) hs
theorem zhG:IxR X (zhF X.K):=by
 intro value slice pins s σ H x y v u Q I rx ry h hs
 obtain ⟨p,xs,i,z,rfl,rfl,hq,he,q⟩:=h
 cases rx
 obtain ⟨t,rfl⟩:=ry
 obtain ⟨its,r,pl,hz⟩:=I.tuple hq
 obtain ⟨j,h1,h2,h3,h4,h5⟩:=zaM he
 obtain ⟨w,ew,rw'⟩:=r.get h2
 have hl:=r.length
 have hn:=VN
 have fin:EP X pins σ Q w s:=⟨z,H,I,rw',q⟩
 exact subscriptTail_builtinR (x:=w) pl.typeIs slot_tuple_getitem.lookup
  (getItem_tuple (j:=j) (Q:=fun r s'=>r=w∧EP X pins σ Q r s') pl (by omega) (by omega) (by rw [List.size_toArray,←hl];exact h1) (by simpa using ew) ⟨rfl,fin⟩) hs
theorem UD:IxR X ziY:=by
 intro value slice pins s σ H x y v u Q I rx ry h hs
 obtain ⟨z,i,c,rfl,rfl,hz,he,q⟩:=h
 obtain ⟨t,rfl⟩:=rx
 obtain ⟨t',rfl⟩:=ry
 obtain ⟨j,h1,h2,h3,h4,h5⟩:=zaM he
 have hl:z.cps.toList.length=z.length:=by simp [Str.length]
 rw [hl] at h1 h4 h5
 have hn:=VN
 exact tail_any (typeIs_str s z t) slot_str_getitem.lookup (getItem_str (c:=c) (by
  have e1:decide (i< -(2^63:Int))=false:=decide_eq_false (by omega)
  have e2:decide (i≥2^63)=false:=decide_eq_false (by omega)
  rw [e1,e2,Bool.or_false]) (by rw [h1];simpa using h2) ⟨.str ⟨#[c]⟩,H,I.tok _,⟨_,rfl⟩,q⟩) hs

theorem zcq (its:List Value) (n j:Nat) (u:Value):Obj.mapSeq (·.setIfInBounds j u) {cls:= .type "list",data:= .seq its.toArray n}={cls:= .type "list",data:= .seq (its.set j u).toArray n}:=by
 simp [Obj.mapSeq]
theorem Inv.lst {pins:List (Addr×Obj)} {σ:St} {H:Hp} {s:Shared} {p:Addr} {xs:List V} (I:Inv X pins σ H s) (h:H p=some (.lst xs)):
  ∃(its:List Value) (n:Nat),yE xs its∧s.heap.get? p=some {cls:= .type "list",data:= .seq its.toArray n}∧xs.length≤sizeLine:=by
 obtain ⟨z,its,n,r,e⟩:=I.hok p _ h
 exact ⟨its,n,r,e,z⟩
theorem Inv.lstUpd {pins:List (Addr×Obj)} {σ:St} {H:Hp} {s:Shared} {p:Addr} {xs ys:List V} {its its':List Value} {n n':Nat} {f:Obj→Obj} (I:Inv X pins σ H s) (h:H p=some (.lst xs))
  (ho:s.heap.get? p=some {cls:= .type "list",data:= .seq its.toArray n}) (hf:f {cls:= .type "list",data:= .seq its.toArray n}={cls:= .type "list",data:= .seq its'.toArray n'}) (r:yE ys its') (hz:ys.length≤sizeLine) (t:Nat):
  Inv X pins σ (upd H p (.lst ys)) {s with heap:=s.heap.update p f,toks:=t}:=by
 have e:(s.heap.update p f).get? p=some {cls:= .type "list",data:= .seq its'.toArray n'}:=by
  rw [Heap.get?_update_self f ho (by rw [hf]<;>rfl),hf]
 refine I.write (x:=p) (e:=p) (by rw [h];trivial) (.inl rfl) (fun b u hb q=>(Heap.get?_update_other _ _ (Ne.symm hb)).trans q) ⟨_,e⟩ ?_
 exact ⟨hz,its',n',r,e⟩
noncomputable def zgX:V→V→V→Hp→(Hp→Prop)→Prop:=fun o i v H Q=>∃p xs k j,o= .ref p∧i= .int k∧H p=some (.lst xs)∧ixN xs.length k=some j∧Q (upd H p (.lst (xs.set j v)))
theorem Vc:ziN X zgX:=by
 intro pins s σ H o i v ov iv u Q I ro ri rv h
 obtain ⟨p,xs,k,j,rfl,rfl,hp,hj,q⟩:=h
 cases ro
 obtain ⟨t,rfl⟩:=ri
 obtain ⟨its,n,r,ho,hz⟩:=I.lst hp
 obtain ⟨h1,h2,h3,h4⟩:=zc9 hj
 have hl:=r.length
 have hn:=VN
 have I':Inv X pins σ (upd H p (.lst (xs.set j v))) {s with heap:=s.heap.update p (Obj.mapSeq (·.setIfInBounds j u))}:=
  I.lstUpd hp ho (zcq its n j u) (r.set rv j) (by rw [List.length_set];exact hz) s.toks
 by_cases h0:0≤k
 ·have hk:k.toNat=j:=by
   rw [seqIndex_of h0 h4] at h1
   exact Option.some.inj h1
  exact PySem.W.ki_setAt ho h0 (by omega) (by rw [List.size_toArray,←hl];exact h4) (by rw [hk];exact ⟨_,I',q⟩)
 ·have hk:(k+(its.toArray.size:Int)).toNat=j:=by
   rw [seqIndex_neg (by omega) h3] at h1
   rw [List.size_toArray,←hl]
   exact Option.some.inj h1
  exact PySem.W.ki_setBack ho (by omega) (by rw [List.size_toArray,←hl];exact h3) (by omega) (by rw [hk];exact ⟨_,I',q⟩)

theorem zaN (lo hi:Option Int) (n:Nat):(sliceBounds lo hi none n).1=((HT.sIx n 0 lo:Nat):Int)∧(sliceBounds lo hi none n).2.1=((HT.sIx n n hi:Nat):Int)∧(sliceBounds lo hi none n).2.2=1:=by
 refine ⟨?_,?_,rfl⟩
 ·cases lo with
  |none=>simp [sliceBounds,HT.sIx]
  |some i=>
   simp only [sliceBounds,HT.sIx,Option.getD_none,show (1:Int)>0 by decide,if_true]
   by_cases h:i<0
   ·simp only [h,if_true]<;>omega
   ·simp only [h,if_false]<;>omega
 ·cases hi with
  |none=>simp [sliceBounds,HT.sIx]
  |some i=>
   simp only [sliceBounds,HT.sIx,Option.getD_none,show (1:Int)>0 by decide,if_true]
   by_cases h:i<0
   ·simp only [h,if_true]<;>omega
   ·simp only [h,if_false]<;>omega
theorem Tz (its:List Value) (lo hi:Option Int):slicePick its.toArray lo hi none=((its.drop (HT.sIx its.length 0 lo)).take (HT.sIx its.length its.length hi-HT.sIx its.length 0 lo)).toArray:=by
 obtain ⟨h1,h2,h3⟩:=zaN lo hi its.toArray.size
 unfold slicePick
 rw [h1,h2,h3]
 simp only [sliceRange_one,pick_run,List.size_toArray]<;>rfl
noncomputable def zeB (K:PySem.W.Frag):V→Option Int→Option Int→Hp→VK→Prop:=fun x lo hi H Q=>∃a xs,x= .ref a∧SqL K H a xs∧∀p,H p=none→Q (.ref p) (upd H p (.lst (Tw xs lo hi)))
theorem zfV:SlR X (zeB X.K):=by
 intro pins s σ H x v vl vu lo hi sl Q I rx hs pl pu h
 obtain ⟨a,xs,rfl,hx,q⟩:=h
 cases rx
 obtain ⟨its,r,ht,hz⟩:=I.list hx
 have hlen:=r.length
 refine ⟨"list",_,slot_list_getitem.lookup,ht.isList.typeIs,?_⟩
 refine wpAny_getItem_list_slice ht.isList hs pl pu .none (by simp) ?_ (by rw [List.size_toArray]<;>omega)
 rw [Tz,←hlen]
 refine ⟨.ref s.heap.objs.size,_,I.laid (t':=s.toks) (o:= .lst (Tw xs lo hi)) (fun b ob q=>Heap.get?_push_of_some _ q) (Nat.le_refl _) ?_,rfl,q _ (I.hok.fresh (Nat.le_refl _))⟩
 exact ⟨Nat.le_trans (Uf xs lo hi) hz,_,0,(r.drop (HT.sIx xs.length 0 lo)).take (HT.sIx xs.length xs.length hi-HT.sIx xs.length 0 lo),Heap.get?_push_size _ rfl⟩

noncomputable def WG:V→Bool
 | .non=>true
 | .bl _=>true
 | .int _=>true
 | .str _=>true
 |_=>false
noncomputable def eqV:V→V→Bool
 | .non,.non=>true
 | .bl a,.bl b=>a==b
 | .bl a,.int b=>(if a then 1 else 0)==b
 | .int a,.bl b=>a==(if b then 1 else 0)
 | .int a,.int b=>a==b
 | .str a,.str b=>a==b
 |_,_=>false
theorem zhH {A:Around} {s:Shared} {y x:V} {u v:Value} (ry:yQ y u) (rx:yQ x v) (fy:WG y=true) (fx:WG x=true):SeqAt.EqAt A s u v (eqV y x):=by
 cases y with
 |non=>
  cases ry
  cases x with
  |non=>cases rx;exact SeqAt.EqAt.same _
  |bl b=>cases rx;exact SeqAt.EqAt.none_bool b
  |int b=>obtain ⟨t,rfl⟩:=rx;exact SeqAt.EqAt.none_int b t
  |str b=>obtain ⟨t,rfl⟩:=rx;exact SeqAt.EqAt.none_str b t
  |_=>exact absurd (show false=true from fx) Bool.false_ne_true
 |bl a=>
  cases ry
  cases x with
  |non=>cases rx;exact SeqAt.EqAt.bool_none a
  |bl b=>cases rx;exact SeqAt.EqAt.bool_bool a b
  |int b=>obtain ⟨t,rfl⟩:=rx;exact SeqAt.EqAt.bool_int a b t
  |str b=>obtain ⟨t,rfl⟩:=rx;exact SeqAt.EqAt.bool_str a b t
  |_=>exact absurd (show false=true from fx) Bool.false_ne_true
 |int a=>
  obtain ⟨t',rfl⟩:=ry
  cases x with
  |non=>cases rx;exact SeqAt.EqAt.int_none a t'
  |bl b=>cases rx;exact SeqAt.EqAt.int_bool a t' b
  |int b=>obtain ⟨t,rfl⟩:=rx;exact SeqAt.EqAt.int_int a t' b t
  |str b=>obtain ⟨t,rfl⟩:=rx;exact SeqAt.EqAt.int_str a t' b t
  |_=>exact absurd (show false=true from fx) Bool.false_ne_true
 |str a=>
  obtain ⟨t',rfl⟩:=ry
  cases x with
  |non=>cases rx;exact SeqAt.EqAt.str_none a t'
  |bl b=>cases rx;exact SeqAt.EqAt.str_bool a t' b
  |int b=>obtain ⟨t,rfl⟩:=rx;exact SeqAt.EqAt.str_int a t' b t
  |str b=>obtain ⟨t,rfl⟩:=rx;exact SeqAt.EqAt.str_str a t' b t
  |_=>exact absurd (show false=true from fx) Bool.false_ne_true
 |_=>exact absurd (show false=true from fy) Bool.false_ne_true
noncomputable def eqU (x:V) (u:Value):Bool:=match u with
 | .none=>eqV .non x
 | .bool b=>eqV (.bl b) x
 | .int i _=>eqV (.int i) x
 | .str z _=>eqV (.str z) x
 |_=>false
theorem zeC {x y:V} {u:Value} (r:yQ y u) (f:WG y=true):eqU x u=eqV y x:=by
 cases y with
 |non=>cases r;rfl
 |bl b=>cases r;rfl
 |int i=>obtain ⟨t,rfl⟩:=r;rfl
 |str z=>obtain ⟨t,rfl⟩:=r;rfl
 |_=>exact absurd (show false=true from f) Bool.false_ne_true
theorem Vd {x:V}:∀{xs:List V} {us:List Value},yE xs us→xs.all WG=true→us.any (eqU x)=xs.any fun y=>eqV y x
 |_,_,.nil,_=>rfl
 |y::xs,u::us,.cons r t,f=>by
  rw [List.all_cons,Bool.and_eq_true] at f
  rw [List.any_cons,List.any_cons,zeC r f.1,Vd t f.2]
theorem XL {A:Around} {s:Shared} {x:V} {v:Value} (rx:yQ x v) (fx:WG x=true):∀{xs:List V} {us:List Value},yE xs us→xs.all WG=true→∀u∈us,SeqAt.EqAt A s u v (eqU x u)
 |_,_,.nil,_=>fun u hu=>by cases hu
 |y::xs,u::us,.cons r t,f=>fun u' hu=>by
  rw [List.all_cons,Bool.and_eq_true] at f
  rcases List.mem_cons.mp hu with rfl|hu
  ·rw [zeC r f.1];exact zhH r rx f.1 fx
  ·exact XL rx fx t f.2 u' hu
noncomputable def inV (x:V) (xs:List V):Bool:=xs.any fun y=>eqV y x
noncomputable def rIn (K:PySem.W.Frag) (neg:Bool):R2:=fun x y H Q=>∃p xs,y= .ref p∧(SqL K H p xs∨SqT K H p xs)∧WG x=true∧xs.all WG=true∧Q (.bl (if neg then !inV x xs else inV x xs)) H
theorem zdS:OpR X (compareOp .In) (rIn X.K false):=by
 intro pins s σ H x y v u Q I rx ry h
 obtain ⟨p,xs,rfl,hq,fx,fs,q⟩:=h
 cases ry
 rcases hq with hq|hq
 ·obtain ⟨its,r,pl,hz⟩:=I.list hq
  refine SeqAt.in_listAt (eqU x) pl.isList (fun w hw=>XL rx fx r fs w (by simpa using hw)) ⟨.bl _,H,I,rfl,?_⟩
  rw [show its.toArray.any (eqU x)=its.any (eqU x) by simp,Vd r fs]
  exact q
 ·obtain ⟨its,r,pl,hz⟩:=I.tuple hq
  refine SeqAt.in_tupleAt (eqU x) pl (fun w hw=>XL rx fx r fs w (by simpa using hw)) ⟨.bl _,H,I,rfl,?_⟩
  rw [show its.toArray.any (eqU x)=its.any (eqU x) by simp,Vd r fs]
  exact q
theorem zaO:OpR X (compareOp .NotIn) (rIn X.K true):=by
 intro pins s σ H x y v u Q I rx ry h
 obtain ⟨p,xs,rfl,hq,fx,fs,q⟩:=h
 cases ry
 rcases hq with hq|hq
 ·obtain ⟨its,r,pl,hz⟩:=I.list hq
  refine SeqAt.notIn_listAt (eqU x) pl.isList (fun w hw=>XL rx fx r fs w (by simpa using hw)) ⟨.bl _,H,I,rfl,?_⟩
  rw [show its.toArray.any (eqU x)=its.any (eqU x) by simp,Vd r fs]
  exact q
 ·obtain ⟨its,r,pl,hz⟩:=I.tuple hq
  refine SeqAt.notIn_tupleAt (eqU x) pl (fun w hw=>XL rx fx r fs w (by simpa using hw)) ⟨.bl _,H,I,rfl,?_⟩
  rw [show its.toArray.any (eqU x)=its.any (eqU x) by simp,Vd r fs]
  exact q

theorem zaP:vD X (.builtin "len") (fun xs H Q=>∃p ys,xs=[.ref p]∧(SqL X.K H p ys∨SqT X.K H p ys)∧Q (.int ys.length) H):=by
 intro pins s σ H xs us Q I r h
 obtain ⟨p,ys,rfl,hq,q⟩:=h
 obtain ⟨u,rfl,rx⟩:=WF r
 cases rx
 have hn:=VN
 rcases hq with hq|hq
 ·obtain ⟨its,r',pl,hz⟩:=I.list hq
  have hlen:=r'.length
  exact Calls.call_len_list pl.isList (by simp only [List.size_toArray]<;>omega) ⟨.int ys.length,H,I.tok _,⟨s.toks+1,by rw [List.size_toArray,hlen]⟩,q⟩
 ·obtain ⟨its,r',pl,hz⟩:=I.tuple hq
  have hlen:=r'.length
  exact len_tuple pl (by simp only [List.size_toArray]<;>omega) ⟨.int ys.length,H,I.tok _,⟨s.toks+1,by rw [List.size_toArray,hlen]⟩,q⟩
theorem Ve:vD X (.builtin "len") (fun xs H Q=>∃z,xs=[.str z]∧z.length≤sizeLine∧Q (.int z.length) H):=by
 intro pins s σ H xs us Q I r h
 obtain ⟨z,rfl,hz,q⟩:=h
 obtain ⟨u,rfl,t,rfl⟩:=WF r
 have hn:=VN
 exact len_str (by omega) ⟨.int z.length,H,I.tok _,⟨_,rfl⟩,q⟩
theorem zaQ:vD X (.type "list") (fun xs H Q=>∃p ys,xs=[.ref p]∧(SqL X.K H p ys∨SqT X.K H p ys)∧∀l,H l=none→Q (.ref l) (upd H l (.lst ys))):=by
 intro pins s σ H xs us Q I r h
 obtain ⟨p,ys,rfl,hq,q⟩:=h
 obtain ⟨u,rfl,rx⟩:=WF r
 cases rx
 have fin:∀(its:List Value),yE ys its→ys.length≤sizeLine→∀(h':Heap) (c':Nat),(∀b o',s.heap.get? b=some o'→h'.get? b=some o')→
   h'.get? s.heap.objs.size=some {cls:= .type "list",dict:=none,data:= .seq its.toArray c',slots:= #[]}→EP X pins σ Q (.ref s.heap.objs.size) {s with heap:=h'}:=fun its r' hz h' c' kp e=>
  ⟨.ref s.heap.objs.size,_,I.laid (t':=s.toks) kp (Nat.le_refl _) (show xD X.prog X.w _ h' _ (.lst ys) from ⟨hz,its,c',r',e⟩),rfl,q _ (I.hok.fresh (Nat.le_refl _))⟩
 rcases hq with hq|hq
 ·obtain ⟨its,r',pl,hz⟩:=I.list hq
  have hlen:=r'.length
  obtain ⟨o,ho,hc,n,hd⟩:=pl.isList
  exact call_list_seq p (.inl rfl) ho hc hd (fun h' c' kp e=>fin its r' hz h' c' kp e) (by simp only [List.size_toArray]<;>omega)
 ·obtain ⟨its,r',pl,hz⟩:=I.tuple hq
  have hlen:=r'.length
  obtain ⟨o,ho,hc,n,hd⟩:=pl
  exact call_list_seq p (.inr rfl) ho hc hd (fun h' c' kp e=>fin its r' hz h' c' kp e) (by simp only [List.size_toArray]<;>omega)
theorem TB:vD X (.type "tuple") (fun xs H Q=>∃p ys,xs=[.ref p]∧((SqL X.K H p ys∧∀l,H l=none→Q (.ref l) (upd H l (.tup ys)))∨(SqT X.K H p ys∧Q (.ref p) H))):=by
 intro pins s σ H xs us Q I r h
 obtain ⟨p,ys,rfl,h⟩:=h
 obtain ⟨u,rfl,rx⟩:=WF r
 cases rx
 rcases h with ⟨hq,q⟩|⟨hq,q⟩
 ·obtain ⟨its,r',pl,hz⟩:=I.list hq
  have hlen:=r'.length
  refine call_tuple_list pl.isList (fun h' kp=> ?_) (by simp only [List.size_toArray]<;>omega)
  have I1:Inv X pins σ H {s with heap:=h'}:=I.kept (t':=s.toks) kp
  have I2:Inv X pins σ (upd H h'.objs.size (.tup ys)) {s with heap:=h'.push {cls:= .type "tuple",data:= .seq its.toArray}}:=
   I1.laid (t':=s.toks) (fun b o e=>Heap.get?_push_of_some _ e) (Nat.le_refl _) (show xD X.prog X.w _ _ _ (.tup ys) from ⟨hz,its,r',YH.new _ _⟩)
  exact ⟨.ref h'.objs.size,_,I2,rfl,q _ (I1.hok.fresh (Nat.le_refl _))⟩
 ·obtain ⟨its,r',pl,hz⟩:=I.tuple hq
  exact call_tuple_same pl ⟨.ref p,H,I,rfl,q⟩

noncomputable def tyV (K:PySem.W.Frag) (T:String) (x:V) (H:Hp):Prop:=match x with
 | .str _=>T="str"
 | .int _=>T="int"
 | .ref p=>(T="list"∧∃xs,SqL K H p xs)∨(T="tuple"∧∃o,K.lookup p=some o∧o.cls= .type "tuple"∧o.dict=none)∨
   (T="dict"∧((∃kvs,Rd H p (.dK kvs))∨∃kvs,H p=some (.dT kvs)))∨(T="set"∧∃S n,H p=some (.set S n))
 |_=>False
theorem zeD {pins:List (Addr×Obj)} {σ:St} {H:Hp} {s:Shared} {T:String} {x:V} {v:Value} (I:Inv X pins σ H s) (r:yQ x v) (ty:tyV X.K T x H):
  s.TypeIs v T∧∀a,v= .ref a→∃ob,s.heap.get? a=some ob∧ob.dict=none:=by
 cases x with
 |str z=>
  obtain ⟨t,rfl⟩:=r
  cases (show T="str" from ty)
  exact ⟨typeIs_str s z t,fun _ e=>nomatch e⟩
 |int i=>
  obtain ⟨t,rfl⟩:=r
  cases (show T="int" from ty)
  exact ⟨typeIs_int s i t,fun _ e=>nomatch e⟩
 |ref p=>
  cases r
  rcases ty with ⟨rfl,xs,hq⟩|⟨rfl,o,hk,hc,hd⟩|⟨rfl,hk⟩|⟨rfl,S,n,hk⟩
  ·obtain ⟨its,_,pl,_⟩:=I.list hq
   refine ⟨pl.isList.typeIs,fun a e=> ?_⟩
   cases e
   obtain ⟨o,n,e,c,hd,_⟩:=pl
   exact ⟨o,e,hd⟩
  ·refine ⟨⟨o,I.kIn p o hk,hc⟩,fun a e=> ?_⟩
   cases e
   exact ⟨o,I.kIn _ o hk,hd⟩
  ·have z:∃o,s.heap.get? p=some o∧o.ExactDict:=by
    rcases hk with ⟨kvs,hk⟩|⟨kvs,hk⟩
    ·obtain ⟨_,_,_,_,o,_,_,e,ex,_⟩:=hk.ok I.hok
     exact ⟨o,e,ex⟩
    ·obtain ⟨_,_,_,_,o,_,_,e,ex,_⟩:=I.hok p _ hk
     exact ⟨o,e,ex⟩
   obtain ⟨o,e,ex⟩:=z
   refine ⟨⟨o,e,ex.1⟩,fun a e2=> ?_⟩
   cases e2
   exact ⟨o,e,ex.2.1⟩
  ·obtain ⟨o,_,_,_,e,ex,_⟩:=I.hok p _ hk
   refine ⟨⟨o,e,ex.1⟩,fun a e2=> ?_⟩
   cases e2
   exact ⟨o,e,ex.2.1⟩
 |_=>exact False.elim ty
noncomputable def ziZ (K:PySem.W.Frag) (T:String) (r:V→List V→Hp→VK→Prop) (to:TE):TE:=fun σ H Q=>to σ H fun x H1=>tyV K T x H1∧r x [] H1 Q
noncomputable def tBM (K:PySem.W.Frag) (T:String) (r:V→List V→Hp→VK→Prop) (to:TE) (t:TA):TE:=fun σ H Q=>to σ H fun x H1=>tyV K T x H1∧t σ H1 fun xs H2=>r x xs H2 Q
variable {o e:Expr} {es:List Expr} {to:TE} {t:TA} {name:Str} {apos cpos:Pos} {T id:String} {r:V→List V→Hp→VK→Prop}
theorem zhI (pa:PlainAttrs T) (slot:Slot T name id) (hty:typeOf (.builtin id)=pure (.type "method_descriptor")) (hm:MtR X id r) (ho:PE X o to)
  (hbase:attributeBase o name X.env (eval o X.env)=eval o X.env:=by rfl) (hline:(apos.endLine==cpos.line)=true:=by rfl):PE X (.Call (.Attribute o name apos) [] [] cpos) (ziZ X.K T r to):=by
 intro pins s σ H Q I h
 refine wpAny_Call_method0_late hbase hline (thn (ho pins s σ H _ I h) ?_)
 rintro v s1 ⟨x,H1,I1,r1,ty,q1⟩
 obtain ⟨h1,h2⟩:=zeD I1 r1 ty
 exact ⟨T,id,pa,slot,hty,h1,h2,Calls.callWith_builtin rfl (PySem.evalArgs_none (hm pins s1 σ H1 x [] v [] Q I1 r1 .nil q1))⟩
theorem UE (pa:PlainAttrs T) (slot:Slot T name id) (hty:typeOf (.builtin id)=pure (.type "method_descriptor")) (hm:MtR X id r) (ho:PE X o to) (ha:PA X (e::es) t)
  (hbase:attributeBase o name X.env (eval o X.env)=eval o X.env:=by rfl)
  (hfew:((backTo cpos (starEach (e::es) X.env)).all (fun x=> !x.1)&&(backToKw cpos (keywordEach [] X.env)).all (fun x=>x.1.isSome)
   &&decide ((e::es).length+([]:List Keyword).length+(if ([]:List Keyword).isEmpty then 0 else 1)<30))=true:=by rfl)
  (hline:(apos.endLine==cpos.line)=true:=by rfl) (hs:starEach (e::es) X.env=(false,eval e X.env)::starEach es X.env:=by rfl) (hplain:(backTo cpos (starEach es X.env)).any (·.1)=false:=by rfl):
  PE X (.Call (.Attribute o name apos) (e::es) [] cpos) (tBM X.K T r to t):=by
 intro pins s σ H Q I h
 refine wpAny_Call_method_late hbase hfew hline rfl (thn (ho pins s σ H _ I h) ?_)
 rintro v s1 ⟨x,H1,I1,r1,ty,q1⟩
 obtain ⟨h1,h2⟩:=zeD I1 r1 ty
 refine ⟨T,id,pa,slot,hty,h1,h2,?_⟩
 have hA:=ha cpos pins s1 σ H1 _ I1 q1
 rw [hs] at hA ⊢
 refine Calls.callWith_builtin (by show (false||(backTo cpos (starEach es X.env)).any (·.1))=false;rw [hplain]<;>rfl) (Calls.evalArgs_plain ?_)
 refine thn hA ?_
 rintro us s2 ⟨vs,H2,I2,r2,q2⟩
 exact hm pins s2 σ H2 x vs v us Q I2 r1 r2 q2
/- xs.append(e), list.index on a module's tuple .. are MtR facts of 06m -/
end
end L2

namespace L2
open PySem PySem.Spec PyProof.Rows

noncomputable def MtM (X:Cx) (id:String) (r:V→List V→Hp→VK→Prop):Prop:=
 ∀(pins:List (Addr×Obj)) (s:Shared) (σ:St) (H:Hp) (x:V) (xs:List V) (v:Value) (us:List Value) (Q:VK),Inv X pins σ H s→yQ x v→yE xs us→r x xs H Q→
  wpAny (model X.prog X.w) X.A (call (.builtin id) (v::us)) (EP X pins σ Q) X.xe s

theorem yE.one:∀{x:V} {us:List Value},yE [x] us→∃u,us=[u]∧yQ x u
 |_,_,.cons r .nil=>⟨_,rfl,r⟩
theorem yE.zero:∀{us:List Value},yE [] us→us=[]
 |_,.nil=>rfl
theorem yE.dropLast {xs:List V} {us:List Value} (h:yE xs us):yE xs.dropLast us.dropLast:=by
 induction h with
 |nil=>exact .nil
 |cons r t ih=>
  cases t with
  |nil=>exact .nil
  |cons q t'=>exact .cons r ih
theorem zcr {α:Type} (l:List α):l.eraseIdx (l.length-1)=l.dropLast:=by
 induction l with
 |nil=>rfl
 |cons a r ih=>
  cases r with
  |nil=>rfl
  |cons b r=>
   have e:(a::b::r).length-1=((b::r).length-1)+1:=by
    have h1:(a::b::r).length=r.length+2:=rfl
    have h2:(b::r).length=r.length+1:=rfl
    omega
   rw [e,List.eraseIdx_cons_succ,ih]
   all_goals rfl

section
variable {X:Cx} {pins:List (Addr×Obj)} {σ:St} {H:Hp} {s:Shared} {l b:Addr} {xs ys zs:List V}

theorem Inv.lset {its its':List Value} {n:Nat} {f:Array Value→Array Value} {t':Nat} (I:Inv X pins σ H s) (hH:H l=some (.lst xs))
  (e:s.heap.get? l=some {cls:= .type "list",data:= .seq its.toArray n}) (hf:f its.toArray=its'.toArray) (hv:yE ys its') (hz:ys.length≤sizeLine):
  Inv X pins σ (upd H l (.lst ys)) {s with heap:=s.heap.update l (Obj.mapSeq f),toks:=t'}:=by
 have q:=PySem.IsL.update e f
 rw [hf] at q
 refine I.write (x:=l) (e:=l) (by rw [hH];exact trivial) (.inl rfl) (fun b' u hb hu=>(Heap.get?_update_other s.heap (Obj.mapSeq f) (Ne.symm hb)).trans hu) ⟨_,q⟩ ?_
 exact ⟨hz,its',_,hv,q⟩
theorem Inv.lnew {its:List Value} {t':Nat} (I:Inv X pins σ H s) (hv:yE ys its) (hz:ys.length≤sizeLine):
  Inv X pins σ (upd H s.heap.objs.size (.lst ys)) {s with heap:=s.heap.push {cls:= .type "list",data:= .seq its.toArray},toks:=t'}:=
 I.laid (fun _ _ q=>Heap.get?_push_of_some _ q) (Nat.le_refl _) ⟨hz,its,0,hv,Heap.get?_push_size _ rfl⟩
theorem Inv.fresh (I:Inv X pins σ H s):H s.heap.objs.size=none:=I.hok.fresh (Nat.le_refl _)
theorem Inv.lstM (I:Inv X pins σ H s) (hH:H l=some (.lst xs)):xs.length≤sizeLine∧∃(its:List Value) (n:Nat),yE xs its∧xs.length=its.length∧s.heap.get? l=some {cls:= .type "list",data:= .seq its.toArray n}:=by
 obtain ⟨z,its,n,r,e⟩:=I.hok l _ hH
 exact ⟨z,its,n,r,r.length,e⟩

theorem zeE {n:Nat} (h:n≤sizeLine):Builtin.List.listTooLong n=false:=by
 unfold Builtin.List.listTooLong
 exact decide_eq_false (by omega)
end

section
variable {X:Cx}

noncomputable def zda:V→List V→Hp→VK→Prop:=fun x vs H Q=>∃l xs y,x= .ref l∧vs=[y]∧H l=some (.lst xs)∧xs.length<sizeLine∧Q .non (upd H l (.lst (xs++[y])))
theorem vj:MtM X "list.append" zda:=by
 intro pins s σ H x vs v us Q I rx rv h
 obtain ⟨l,xs,y,rfl,rfl,hH,hz,q⟩:=h
 cases rx
 obtain ⟨u,rfl,ru⟩:=rv.one
 obtain ⟨z,its,n,r,hl,e⟩:=I.lstM hH
 refine call_meets F.slot_list_append ⟨_,e,rfl⟩ F.entry_list_append (F.args_list_append_2 _ _) (PySem.list_append l its.toArray n u (by rw [List.size_toArray];omega)) ⟨e,?_⟩
 refine ⟨.non,_,I.lset (its':=its++[u]) hH e (by simp) (r.append (.cons ru .nil)) ?_,rfl,q⟩
 rw [List.length_append,List.length_singleton]
 omega


noncomputable def zi0:V→List V→Hp→VK→Prop:=fun x vs H Q=>∃l xs y,x= .ref l∧vs=[]∧H l=some (.lst xs)∧xs[xs.length-1]? =some y∧Q y (upd H l (.lst xs.dropLast))
theorem zhJ:MtM X "list.pop" zi0:=by
 intro pins s σ H x vs v us Q I rx rv h
 obtain ⟨l,xs,y,rfl,rfl,hH,hy,q⟩:=h
 cases rx
 have hus:=rv.zero
 subst hus
 obtain ⟨z,its,n,r,hl,e⟩:=I.lstM hH
 obtain ⟨u,hu,ru⟩:=r.get hy
 have hy':its.toArray[its.toArray.size-1]? =some u:=by
  show its.toArray[its.length-1]? =some u
  rw [←Array.getElem?_toList,←hl]
  exact hu
 refine call_meets F.slot_list_pop ⟨_,e,rfl⟩ F.entry_list_pop (F.args_list_pop_1 _) (MeetsSeq.list_pop_last l its.toArray n u hy' (by rw [List.size_toArray];omega)) ⟨e,?_⟩
 refine ⟨y,_,I.lset (its':=its.dropLast) hH e ?_ r.dropLast ?_,ru,q⟩
 ·show its.toArray.eraseIdxIfInBounds (its.toArray.size-1)=its.dropLast.toArray
  rw [List.size_toArray,List.eraseIdxIfInBounds_toArray,zcr]
 ·rw [List.length_dropLast]
  omega





end

section
variable {prog:Program} {w:World} {A:Around} {E:Value→Shared→Prop} {s:Shared}
end

section
variable {X:Cx}
end
end L2
namespace L2
open PySem PySem.Spec PyProof.Rows

section
variable {κ:Type} [DecidableEq κ]
noncomputable def XM (kvs:List (κ×V)) (k:κ):Option V:=(kvs.find? fun kv=>decide (kv.1=k)).map (·.2)

theorem zbx {p:κ×V} {r:List (κ×V)} {k:κ} (e:p.1=k):XM (p::r) k=some p.2:=by simp [XM,List.find?_cons,e]
theorem zby {p:κ×V} {r:List (κ×V)} {k:κ} (e:¬p.1=k):XM (p::r) k=XM r k:=by simp [XM,List.find?_cons,e]

theorem Uw.isSome_eq {o:Option V} {u:Option Value} (r:Uw o u):o.isSome=u.isSome:=by
 cases o with
 |none=>cases u with
  |none=>rfl
  |some _=>exact (show False from r).elim
 |some _=>cases u with
  |none=>exact (show False from r).elim
  |some _=>rfl

theorem KV.val {kvs:List (κ×V)} {vs:List (κ×Value)} (r:KV kvs vs) (k:κ):Uw (XM kvs k) (valueAt vs k):=by
 unfold KV at r
 induction r with
 |nil=>exact True.intro
 | @cons p q ps qs h t ih=>
  obtain ⟨h1,h2⟩:=h
  by_cases e:p.1=k
  ·have e':q.1=k:=h1.symm.trans e
   have b:valueAt (q::qs) k=some q.2:=by simp [valueAt,List.find?_cons,e']
   rw [zbx e,b];exact h2
  ·have e':¬q.1=k:=fun z=>e (h1.trans z)
   have b:valueAt (q::qs) k=valueAt qs k:=by simp [valueAt,List.find?_cons,e']
   rw [zby e,b];exact ih
theorem KV.keys {kvs:List (κ×V)} {vs:List (κ×Value)} (r:KV kvs vs):kvs.map (·.1)=vs.map (·.1):=by
 unfold KV at r
 induction r with
 |nil=>rfl
 |cons h t ih=>rw [List.map_cons,List.map_cons,ih,h.1]
end


theorem zdb {P:Program} {w:World} {k:Key} {u:Value} (r:yQ (kV k) u):(wB P w).is k u=true:=by
 cases k with
 |inl i=>obtain ⟨t,e⟩:=(show ∃t,u=Value.int i t from r);subst e;exact zbl P w i t
 |inr x=>obtain ⟨t,e⟩:=(show ∃t,u=Value.str x t from r);subst e;exact zbm P w x t
theorem zat {P:Program} {w:World}:∀{ks:List Key} {us:List Value},yE (ks.map kV) us→ItemsAre (wB P w) ks us
 |[],_,r=>by rw [List.map_nil] at r;cases r;exact .nil
 |k::ks,_,r=>by
  rw [List.map_cons] at r
  cases r with
  |cons h t=>exact .cons (zdb h) (zat t)

noncomputable abbrev KT (H:Hp):List (List Key×V)→List (List Key×Addr×Value)→Prop:=Paired fun p q=>p.1=q.1∧H q.2.1=some (.tup (p.1.map kV))∧yQ p.2 q.2.2
theorem KT.val {H:Hp} {kvs:List (List Key×V)} {xs:List (List Key×Addr×Value)} (r:KT H kvs xs) (k:List Key):Uw (XM kvs k) ((atKey xs k).map (·.2)):=by
 induction r with
 |nil=>exact True.intro
 | @cons p q ps qs h t ih=>
  obtain ⟨h1,_,h2⟩:=h
  by_cases e:p.1=k
  ·have e':q.1=k:=h1.symm.trans e
   have b:atKey (q::qs) k=some q.2:=by simp [atKey,List.find?_cons,e']
   rw [zbx e,b];exact h2
  ·have e':¬q.1=k:=fun z=>e (h1.trans z)
   have b:atKey (q::qs) k=atKey qs k:=by simp [atKey,List.find?_cons,e']
   rw [zby e,b];exact ih

section
variable {P:Program} {w:World} {H:Hp} {h:Heap} {a:Addr}
theorem zgY {u:HO} (ok:HOk P w H h) (e:Rd H a u):xD P w H h a u:=e.ok ok
theorem zdc {kvs:List (Key×V)} (ok:HOk P w H h) (e:Rd H a (.dK kvs)):kvs.length≤sizeLine∧(a==sysModules)=false∧∃vs,KV kvs vs∧h.DictOf (wB P w) a vs:=
 show xD P w H h a (.dK kvs) from zgY ok e
theorem zaR {ks:List Key} (ok:HOk P w H h) (e:H a=some (.tup (ks.map kV))):(tupleKind (wB P w)).is h ks a:=by
 obtain ⟨_,its,r,o,h1,h2,n,h3⟩:=(show xD P w H h a (.tup (ks.map kV)) from ok a _ e)
 exact ⟨o,its.toArray,n,h1,h2,h3.1,by simpa using zat r⟩
theorem zdd {kvs:List (List Key×V)} (ok:HOk P w H h) (e:Rd H a (.dT kvs)):kvs.length≤sizeLine∧(a==sysModules)=false∧
  ∃xs,KT H kvs xs∧h.DictOfH (tupleKind (wB P w)) a xs:=by
 obtain ⟨z,y,xs,r,o,es,ep,h1,h2,h3,h4,h5⟩:=(show xD P w H h a (.dT kvs) from zgY ok e)
 refine ⟨z,y,xs,r,o,es,ep,h1,h2,h3,h4,fun x hx=> ?_,h5⟩
 have all:∀{l:List (List Key×V)} {m:List (List Key×Addr×Value)},KT H l m→∀x∈m,(tupleKind (wB P w)).is h x.1 x.2.1:=by
  intro l m q
  induction q with
  |nil=>intro x hx;exact nomatch hx
  | @cons p q ps qs hq t ih=>
   intro x hx
   rcases List.mem_cons.mp hx with e|hx
   ·subst e
    exact zaR ok (by rw [←hq.1];exact hq.2.1)
   ·exact ih x hx
 exact all r x hx
end

noncomputable def Vf (H:Hp) (a:Addr) (y:V) (r:Option V):Prop:=
 (∃kvs k,Rd H a (.dK kvs)∧y=kV k∧r=XM kvs k)∨∃kvs k b,Rd H a (.dT kvs)∧y= .ref b∧H b=some (.tup (k.map kV))∧r=XM kvs k
theorem Vf.k {H:Hp} {a:Addr} {kvs:List (Key×V)} {k:Key} (e:H a=some (.dK kvs)):Vf H a (kV k) (XM kvs k):= .inl ⟨kvs,k,.inl e,rfl,rfl⟩


section
variable {X:Cx} {pins:List (Addr×Obj)} {σ:St} {H:Hp} {s:Shared} {a:Addr} {y v:V} {u r:Value} {o:Option V} {A:Around} {E:Value→Shared→Prop}

theorem Inv.big (I:Inv X pins σ H s):sysModules<s.heap.objs.size:=by
 have h:mainGlobals<s.heap.objs.size:=(I.mod.glob.keeps I.bk).lt
 exact Nat.lt_trans (by decide) h

theorem zdT {Q:Value→Shared→Prop} (hu:A.units+1<cLine) (I:Inv X pins σ H s) (g:Vf H a y (some v)) (ry:yQ y u) (h:∀w' s',Inv X pins σ H s'→yQ v w'→Q w' s'):
  wpAny (model X.prog X.w) A (getItem (.ref a) u) Q E s:=by
 rcases g with ⟨kvs,k,e,ey,l⟩|⟨kvs,k,b,e,ey,eb,l⟩
 ·subst ey
  obtain ⟨z,hd,vs,rel,dd⟩:=zdc I.hok e
  obtain ⟨w',hw,rw'⟩:=Uw.some_of (v:=v) (o:=valueAt vs k) (by rw [l];exact rel.val k)
  exact wpAny_getItem_of (zdb ry) dd.mapOf hw (h w' _ (I.tok _) rw')
 ·subst ey
  cases (show u=Value.ref b from ry)
  obtain ⟨z,hd,xs,rel,dd⟩:=zdd I.hok e
  obtain ⟨w',hw,rw'⟩:=Uw.some_of (v:=v) (o:=(atKey xs k).map (·.2)) (by rw [l];exact rel.val k)
  obtain ⟨p,hp,hp2⟩:=Option.map_eq_some_iff.mp hw
  refine wpAny_getItem_heap (tupleKind_room_in1 hu) (zaR I.hok eb) dd hp ?_
  rw [hp2]
  exact h w' _ (I.tok _) rw'
theorem zjM {Q:Value→Shared→Prop} (hu:A.units+1<cLine) (I:Inv X pins σ H s) (g:Vf H a y o) (ry:yQ y u) (h:∀s',Inv X pins σ H s'→Q (.bool o.isSome) s'):
  wpAny (model X.prog X.w) A (compareOp .In u (.ref a)) Q E s:=by
 rcases g with ⟨kvs,k,e,ey,l⟩|⟨kvs,k,b,e,ey,eb,l⟩
 ·subst ey
  obtain ⟨z,hd,vs,rel,dd⟩:=zdc I.hok e
  refine wpAny_in_of (zdb ry) hd dd.mapOf ?_
  rw [←(rel.val k).isSome_eq,←l]
  exact h _ (I.tok _)
 ·subst ey
  cases (show u=Value.ref b from ry)
  obtain ⟨z,hd,xs,rel,dd⟩:=zdd I.hok e
  refine wpAny_in_heap (tupleKind_room_in1 hu) (zaR I.hok eb) hd dd ?_
  have q:=(rel.val k).isSome_eq
  rw [Option.isSome_map] at q
  rw [←q,←l]
  exact h _ (I.tok _)
theorem zfW {Q:Value→Shared→Prop} (hu:A.units+1<cLine) (I:Inv X pins σ H s) (g:Vf H a y o) (ry:yQ y u) (h:∀s',Inv X pins σ H s'→Q (.bool (!o.isSome)) s'):
  wpAny (model X.prog X.w) A (compareOp .NotIn u (.ref a)) Q E s:=by
 rcases g with ⟨kvs,k,e,ey,l⟩|⟨kvs,k,b,e,ey,eb,l⟩
 ·subst ey
  obtain ⟨z,hd,vs,rel,dd⟩:=zdc I.hok e
  refine wpAny_notIn_of (zdb ry) hd dd.mapOf ?_
  rw [←(rel.val k).isSome_eq,←l]
  exact h _ (I.tok _)
 ·subst ey
  cases (show u=Value.ref b from ry)
  obtain ⟨z,hd,xs,rel,dd⟩:=zdd I.hok e
  refine wpAny_notIn_heap (tupleKind_room_in1 hu) (zaR I.hok eb) hd dd ?_
  have q:=(rel.val k).isSome_eq
  rw [Option.isSome_map] at q
  rw [←q,←l]
  exact h _ (I.tok _)
end

section
variable {X:Cx} {pins:List (Addr×Obj)} {σ:St} {H:Hp} {s:Shared} {a:Addr} {kvs:List (Key×V)} {k:Key} {u:Value} {A:Around} {E:Value→Shared→Prop}
end


noncomputable def zi1 (i:Expr):Prop:=∀ov iv,subscripted i false ov iv=operate [ov,iv] (getItem ov iv)
theorem zfX {prog:Program} {w:World} {A:Around} {E:Value→Shared→Prop} {s:Shared} {env:Env} {value slice:Expr} {pos:Pos} {T id:String} {Q:Value→Shared→Prop}
  (hl:typeLookup (.type T) "__getitem__"=pure (some (.builtin id))) (hs:zi1 slice)
  (h:wpAny (model prog w) A (eval value env) (fun o s₁=>wpAny (model prog w) A (eval slice env) (fun i s₂=>s₂.TypeIs o T∧wpAny (model prog w) A (getItem o i) Q E s₂) E s₁) E s):
  wpAny (model prog w) A (eval (.Subscript value slice pos) env) Q E s:=by
 refine Subscript_ (wpAny_mono h (fun o s₁ h₁=>wpAny_mono h₁ (fun i s₂ h₂=> ?_) fun _ _ x=>x) fun _ _ x=>x)
 obtain ⟨hT,h₂⟩:=h₂
 unfold subscriptTail
 refine wpAny_bind ?_
 rw [getitemInPython_of_ne hT.not_modules]
 refine wpAny_bind (wpAny_specialOf hT hl ?_)
 have fin:wpAny (model prog w) A (subscripted slice false o i) (fun r s₃=>wpAny (model prog w) A (letTemporaryGo value o r>>=fun _=>pure r) Q E s₃) E s₂:=by
  rw [hs o i]
  exact wpAny_operating (wpAny_mono h₂ (fun r s₃ h₃=>wpAny_bind (wpAny_letTemporaryGo (wpAny_pure h₃))) fun _ _ x=>x)
 first
  |exact wpAny_pure (wpAny_bind fin)
  |exact wpAny_bind (wpAny_pure (wpAny_bind fin))
  |exact wpAny_bind fin

theorem zbz {X:Cx} {pins:List (Addr×Obj)} {σ:St} {H:Hp} {s:Shared} {a:Addr} {y:V} {o:Option V} (I:Inv X pins σ H s) (g:Vf H a y o):s.TypeIs (.ref a) "dict":=by
 rcases g with ⟨kvs,k,e,_,_⟩|⟨kvs,k,b,e,_,_,_⟩
 ·obtain ⟨_,_,vs,_,dd⟩:=zdc I.hok e
  exact dd.typeIs
 ·obtain ⟨_,_,xs,_,dd⟩:=zdd I.hok e
  exact dd.typeIs

noncomputable def zgZ (td ty:TE):TE:=fun σ H Q=>td σ H fun x H1=>ty σ H1 fun y H2=>∃a v,x= .ref a∧Vf H2 a y (some v)∧Q v H2
noncomputable def zi2 (ty td:TE):TE:=fun σ H Q=>ty σ H fun y H1=>td σ H1 fun x H2=>∃a o,x= .ref a∧Vf H2 a y o∧Q (.bl o.isSome) H2
noncomputable def zde (ty td:TE):TE:=fun σ H Q=>ty σ H fun y H1=>td σ H1 fun x H2=>∃a o,x= .ref a∧Vf H2 a y o∧Q (.bl (!o.isSome)) H2

section
variable {X:Cx} {o i e value:Expr} {pos pos' tpos:Pos} {td ty tv:TE}
theorem zfY (hu:X.A.units+1<cLine) (ho:PE X o td) (hi:PE X i ty) (hs:zi1 i):PE X (.Subscript o i pos) (zgZ td ty):=by
 intro pins s σ H Q I h
 refine zfX PySem.F.slot_dict_getitem.lookup hs (thn (ho pins s σ H _ I h) ?_)
 rintro u s1 ⟨x,H1,I1,rx,q1⟩
 refine thn (hi pins s1 σ H1 _ I1 q1) ?_
 rintro iv s2 ⟨y,H2,I2,ry,a,v,ex,g,q2⟩
 subst ex
 obtain rfl:u=Value.ref a:=rx
 exact ⟨zbz I2 g,zdT hu I2 g ry fun w' s3 I3 rw'=>⟨v,H2,I3,rw',q2⟩⟩
theorem zhK (hu:X.A.units+1<cLine) (hi:PE X i ty) (ho:PE X o td):PC X .In i o (zi2 ty td):=by
 intro pins s σ H Q I h
 refine thn (hi pins s σ H _ I h) ?_
 rintro iv s1 ⟨y,H1,I1,ry,q1⟩
 refine thn (ho pins s1 σ H1 _ I1 q1) ?_
 rintro u s2 ⟨x,H2,I2,rx,a,ov,ex,g,q2⟩
 subst ex
 obtain rfl:u=Value.ref a:=rx
 exact zjM hu I2 g ry fun s3 I3=>⟨.bl ov.isSome,H2,I3,rfl,q2⟩
theorem zdU (hu:X.A.units+1<cLine) (hi:PE X i ty) (ho:PE X o td):PC X .NotIn i o (zde ty td):=by
 intro pins s σ H Q I h
 refine thn (hi pins s σ H _ I h) ?_
 rintro iv s1 ⟨y,H1,I1,ry,q1⟩
 refine thn (ho pins s1 σ H1 _ I1 q1) ?_
 rintro u s2 ⟨x,H2,I2,rx,a,ov,ex,g,q2⟩
 subst ex
 obtain rfl:u=Value.ref a:=rx
 exact zfW hu I2 g ry fun s3 I3=>⟨.bl (!ov.isSome),H2,I3,rfl,q2⟩
end


section
variable {X:Cx} {pos:Pos}
end

noncomputable abbrev VV:List (V×V)→List (Value×Value)→Prop:=Paired fun p q=>yQ p.1 q.1∧yQ p.2 q.2



structure M1 (X:Cx) (o:Expr) (m:Str) (apos:Pos) (e:Expr) (cpos:Pos):Prop where
 base:attributeBase o m X.env (eval o X.env)=eval o X.env
 few:((backTo cpos (starEach [e] X.env)).all (fun x=> !x.1)&&(backToKw cpos (keywordEach [] X.env)).all (fun x=>x.1.isSome)
  &&decide (([e]:List Expr).length+([]:List Keyword).length+(if ([]:List Keyword).isEmpty then 0 else 1)<30))=true
 line:(apos.endLine==cpos.line)=true
 trees:backTo cpos (starEach [e] X.env)=[(false,eval e X.env)]
structure M2 (X:Cx) (o:Expr) (m:Str) (apos:Pos) (e f:Expr) (cpos:Pos):Prop where
 base:attributeBase o m X.env (eval o X.env)=eval o X.env
 few:((backTo cpos (starEach [e,f] X.env)).all (fun x=> !x.1)&&(backToKw cpos (keywordEach [] X.env)).all (fun x=>x.1.isSome)
  &&decide (([e,f]:List Expr).length+([]:List Keyword).length+(if ([]:List Keyword).isEmpty then 0 else 1)<30))=true
 line:(apos.endLine==cpos.line)=true
 trees:backTo cpos (starEach [e,f] X.env)=[(false,eval e X.env),(false,eval f X.env)]


section
variable {X:Cx} {pins:List (Addr×Obj)} {σ:St} {H:Hp} {s:Shared} {a:Addr} {y d:V} {u r:Value} {o:Option V} {A:Around} {E:Value→Shared→Prop}
end

section
variable {X:Cx} {o e f:Expr} {apos cpos:Pos} {td ty tx:TE}
end

section
variable {X:Cx} {pins:List (Addr×Obj)} {σ:St} {H:Hp} {s:Shared} {a:Addr} {kvs:List (Key×V)} {A:Around} {E:Value→Shared→Prop}
end


section
variable {X:Cx} {pins:List (Addr×Obj)} {σ:St} {H:Hp} {s:Shared} {a:Addr} {y:V} {u:Value} {A:Around} {E:Value→Shared→Prop}
end
end L2
namespace Att
open PySem PySem.W PySem.Calls PyProof.Rows

theorem Uk {P:Params} {h:Heap}:∀(ns:List Int) (vs:List Value),WellAll P h vs (ns.map WData.int)→IntsAre vs ns:=by
 intro ns
 induction ns with
 |nil=>
  intro vs w
  rw [List.map_nil] at w
  cases w
  exact .nil
 |cons n ns ih=>
  intro vs w
  rw [List.map_cons] at w
  cases w with
  |cons a b=>
   cases a
   exact .cons _ _ (ih _ b)

theorem zdV {l:OpenLaw} {n:Nat} (hn:l.most=some n) {P:Params} {h:Heap} {args:List WData} {vals:List Value}
  (hpre:l.row.toRowW.claim.pre args=true) (hwl:WellAll P h vals args):
  ∃a vs ns,vals=[Value.ref a]∧args=[WData.list (ns.map WData.int)]∧h.get? a=some {cls:= .type "list",data:= .seq vs.toArray}∧IntsAre vs ns∧ns.length≤n:=by
 have hsh:WShape.hasAll [] args [.list .int]=true:=(pre_splitW hpre).1
 have hc:l.pre.holds [] {args:=args}=true:=(pre_splitW hpre).2
 obtain ⟨d,r,rfl,h1,h2⟩:=hasAllW_cons hsh
 obtain rfl:=hasAllW_nil h2
 obtain ⟨xs,rfl,h3⟩:=hasW_list h1
 obtain ⟨ns,rfl⟩:=items_int h3
 have hlen:ns.length≤n:=by
  unfold OpenLaw.pre at hc
  have h4:(WTm.not (.lt (.lit (.int (n:Int))) (.len (.arg 0)))).holds [] {args:=[.list (ns.map .int)]}=true:=by
   have h4:=(holds_andW hc).1
   rw [hn] at h4
   exact h4
  have h5:=condW_of h4 (w_not (w_lt w_lit (w_len_list (w_arg rfl))))
  rw [List.length_map] at h5
  refine Nat.le_of_not_lt fun q=> ?_
  have q':(n:Int)<((ns.length:Nat):Int):=by omega
  first
   |(rw [decide_eq_true q'] at h5;exact absurd h5 (by decide))
   |(simp at h5;omega)
 cases hwl with
 |cons w1 w2=>
  cases w2
  cases w1 with
  |list ho hall=>exact ⟨_,_,ns,rfl,rfl,ho,Uk ns _ hall,hlen⟩

theorem zdW (l:OpenLaw) (args:List WData):l.row.toRowW.claim.post args (.bool true) args=true:=
 postW_of (r:=l.row.toRowW) (X:=(true==true))
  (show WShape.has [] (.bool true) .bool=true by first|rfl|decide|simp [WShape.has,WShape.arms,WShape.armsAll])
  (show (WTm.eq .res (.lit (.bool true))).value [] {args:=args,res:=some (.bool true),after:=args}=some (.bool (true==true)) from w_eq_bool (w_res rfl) w_lit) rfl


theorem zbA {l:OpenLaw} {n:Nat} {q:Program} {loose:List Str} {XP:(Str→Option Value)→Heap→Prop} {YP:World→Heap→Prop} {d:DefRec}
  (hn:l.most=some n) (hdf:d.params.defaults=[])
  (call:∀(w:World) (s₀ s₁:Shared) (mg mb:Str→Option Value) (fa:Addr) (o:Obj) (pm cd doc:Value) (a:Addr) (vs:List Value) (ns:List Int),
   Ground q loose [] XP w s₀ mg mb s₁.heap→YP w s₁.heap→
   s₁.heap.get? fa=some o→o.data= .func (docDef d.name d.params d.body d.scope pm cd doc)→s₁.heap.CodeRec cd d.name→mg d.name=some (.ref fa)→
   s₁.heap.get? a=some {cls:= .type "list",data:= .seq vs.toArray}→IntsAre vs ns→ns.length≤n→s₁.gens= #[]→
   codeAny (model l.prog w) callerA (.call (.ref fa) ⟨[.ref a],[]⟩) (fun r s'=>r= .ok (.ret (.bool true))∧OldK s₁.heap s'.heap∧s'.os=s₁.os∧AllBare s'.gens) s₁):
  WalkO q loose XP YP l.row.toRowW d [] (fun f vs=>PySem.call f vs):=by
 intro w s₀ s₁ mg mb G Y fa o pm cd doc dV kV ho hd hcd hD hmg hg args vals as hpre hlay hrd hwl hlo
 obtain rfl:dV= .none:=Dflts.none hD hdf
 obtain rfl:kV= .none:=Dflts.noKw hD
 obtain ⟨a,vs,ns,rfl,rfl,hobj,hints,hlen⟩:=zdV hn hpre hwl
 refine enter_call (codeAny_mono (call w s₀ s₁ mg mb fa o pm cd doc a vs ns G Y ho (fd_plain hd) hcd hmg hobj hints hlen hg) fun r s' hq=> ?_)
 obtain ⟨rfl,h2,h3,h4⟩:=hq
 exact ⟨.inl ⟨.bool true,.bool true,[],rfl,fun _=>rfl,.bool true,zdW l _,fun _=>⟨List.Pairwise.nil,fun _ hm=>(nomatch hm)⟩⟩,h2,h3,h4⟩


section
variable {prog:Program} {w:World} {A:Around} {E:Value→Shared→Prop} {s:Shared} {K:Frag}






end
end Att

namespace L2
open PySem PySem.Spec PyProof.Rows

theorem zau:∀{vs:List Value} {ns:List Int},IntsAre vs ns→yE (ns.map V.int) vs
 |_,_,.nil=> .nil
 |_,_,.cons n t h=> .cons ⟨t,rfl⟩ (zau h)

noncomputable def zfZ (H:Hp):Prop:=∀b,H b=none∨∃o xs,H b=some (.frz o (.lst xs))

theorem zeF {P:Program} {w:World} {K:PySem.W.Frag} {mg mb:Str→Option Value} {CX:CXT} {k:Nat} {fa a:Addr} {fd:FuncData} {x:Str} {sp:Sp} {s₁:Shared} {vs:List Value} {ns:List Int}
  (KX:K.In s₁.heap) (hns:s₁.heap.Ns mainGlobals mg) (hb:s₁.heap.Ns builtinsNs mb) (hbb:∀x:Str,x≠"__name__"→mb x=bootBuiltins x) (hlim:s₁.heap.NoLimit) (hg:s₁.gens= #[])
  (ha:s₁.heap.get? a=some {cls:= .type "list",data:= .seq vs.toArray}) (hi:IntsAre vs ns) (hl:ns.length≤sizeLine) (hr:XE k callerA)
  (F:∀base:Heap,K.In base→base.Ns mainGlobals mg→yZ P w K mg base CX k fa fd [x] sp) (hbind:∀(s:Shared) (u:Value),BindsTo s fd ⟨[u],[]⟩ [(x,u)])
  (hsp:∀H:Hp,zfZ H→SqX K H a (ns.map V.int)→sp [.ref a] H (fun v _=>v= .bl true) fun _ _ _=>False)
  (hCX:∀H e s',CX [] H s₁ (fun _ _ _=>False) e s'→False):
  codeAny (model P w) callerA (.call (.ref fa) ⟨[.ref a],[]⟩) (fun r s'=>r= .ok (.ret (.bool true))∧OldK s₁.heap s'.heap∧s'.os=s₁.os∧AllBare s'.gens) s₁:=by
 have rv:=zau hi
 have lenV:=hi.length
 have core:∀H:Hp,zfZ H→SqX K H a (ns.map V.int)→HOk P w H s₁.heap→(∀b,H b≠none→b=a)→(H a≠none→K.lookup a=none)→
   codeAny (model P w) callerA (.call (.ref fa) ⟨[.ref a],[]⟩) (fun r s'=>r= .ok (.ret (.bool true))∧OldK s₁.heap s'.heap∧s'.os=s₁.os∧AllBare s'.gens) s₁:=by
  intro H hO hS hok hA hK
  have base_of:∀{b:Addr} {o:Obj},s₁.heap.get? b=some o→H b=none→(zaJ s₁.heap H).get? b=some o:=fun e n=>zeq e n
  have noA:∀{b:Addr} {o:Obj} {es:Array DictEntry} {ep:Nat},s₁.heap.get? b=some o→o.data= .dict es ep→H b=none:=fun {b o es ep} e d=>by
   cases q:H b with
   |none=>rfl
   |some u=>
    have e':b=a:=hA b (by rw [q];simp)
    subst e'
    rw [ha] at e;cases e
    have d':Data.seq vs.toArray _=Data.dict es ep:=d
    cases d'
  have nsK:∀{b:Addr} {m:Str→Option Value},s₁.heap.Ns b m→(zaJ s₁.heap H).Ns b m:=fun {b m} ⟨o,es,ep,e,d,r⟩=>⟨o,es,ep,base_of e (noA e d),d,r⟩
  have hKb:K.In (zaJ s₁.heap H):=fun b o e=>base_of (KX b o e) (by
   cases q:H b with
   |none=>rfl
   |some u=>
    have e':b=a:=hA b (by rw [q];simp)
    subst e'
    rw [hK (by rw [q];simp)] at e;cases e)
  have hM:Mod K mg (zaJ s₁.heap H):=⟨hKb,nsK hns,⟨mb,nsK hb,hbb⟩,let ⟨mc,h1,h2⟩:=hlim;⟨mc,nsK h1,h2⟩⟩
  have e0:zfQ P w K mg (zaJ s₁.heap H) callerA [] s₁ H:=⟨rfl,hM,fun b o e=>zfM e,Nat.le_of_eq (zdN _ _),trivial,fun b hb=>absurd (show b∈([]:List Addr) from hb) (by simp),hok,.of_eq hg⟩
  refine codeAny_mono ((F _ hKb (nsK hns)).run callerA [] s₁ H ⟨[.ref a],[]⟩ [.ref a] [.ref a] _ _ hr e0 (hbind s₁ (.ref a)) (.cons rfl .nil) (hsp H hO hS)) fun r s' h=> ?_
  cases r with
  |error e=>exact (hCX H e s' h).elim
  |ok fl=>
   cases fl with
   |next=>exact False.elim h
   |brk=>exact False.elim h
   |cont=>exact False.elim h
   |ret u=>
    obtain ⟨v,H',os,bare,un,hok',r',q⟩:=h
    have q':v= .bl true:=q
    subst q'
    obtain rfl:u=Value.bool true:=r'
    refine ⟨rfl,OldK.of_keep fun b o e=> ?_,os,bare⟩
    cases q:H b with
    |none=>exact un.keep b o e q (by intro z;exact absurd (show b∈([]:List Addr) from z) (by simp)) (by simp)
    |some u=>
     rcases hO b with z|⟨ob,xs,z⟩
     ·rw [q] at z;cases z
     ·have z2:=un.frzs b ob _ z
      obtain ⟨e1,_⟩:=hok b _ z
      obtain ⟨e2,_⟩:=hok' b _ z2
      rw [e] at e1;cases e1
      exact e2
 cases hk:K.lookup a with
 |some o=>
  have e:=KX a o hk
  rw [ha] at e
  cases e
  refine core (fun _=>none) (fun _=> .inl rfl) (.inr ⟨vs.toArray,_,hk,by rw [List.size_toArray,lenV];exact hl,by simpa using rv⟩) (fun b u z=>by have z':(none:Option HO)=some u:=z;cases z') (fun b z=>absurd rfl z) fun z=>absurd rfl z
 |none=>
  refine core (fun b=>if b=a then some (.frz {cls:= .type "list",data:= .seq vs.toArray} (.lst (ns.map V.int))) else none) (fun b=> ?_) (.inl (.inr ⟨{cls:= .type "list",data:= .seq vs.toArray},if_pos rfl⟩)) (fun b u z=> ?_) (fun b z=> ?_) fun _=>hk
  ·by_cases hb:b=a
   ·exact .inr ⟨_,_,if_pos hb⟩
   ·exact .inl (if_neg hb)
  ·by_cases hb:b=a
   ·have z':=(if_pos hb).symm.trans z
    cases z'
    subst hb
    exact ⟨ha,by rw [List.length_map];exact hl,vs,_,rv,ha⟩
   ·have z':=(if_neg hb).symm.trans z
    cases z'
  ·by_cases hb:b=a
   ·exact hb
   ·exact absurd (if_neg hb) z
end L2

namespace L2
open PySem PySem.Spec PyProof.Rows

noncomputable abbrev KOf {K:PySem.W.Frag} {h:Heap} (_:K.In h):PySem.W.Frag:=K

theorem zf0 {l:PySem.W.OpenLaw} {n k:Nat} {q:Program} {loose:List Str} {XP:(Str→Option Value)→Heap→Prop} {YP:World→Heap→Prop} {d:DefRec} {K:Params→PySem.W.Frag} {CX:World→CXT} {sp:World→Sp} {x:Str}
  (hn:l.most=some n) (hn2:n≤sizeLine) (hdf:d.params.defaults=[]) (hr:XE k callerA)
  (hY:∀(w:World) (h:Heap),YP w h→(K w.params).In h)
  (F:∀(w:World) (mg:Str→Option Value) (fa:Addr) (h:Heap),(K w.params).In h→h.Ns mainGlobals mg→mg d.name=some (.ref fa)→
   ∃fd:FuncData,(∀(s:Shared) (u:Value),BindsTo s fd ⟨[u],[]⟩ [(x,u)])∧
    ∀base:Heap,(K w.params).In base→base.Ns mainGlobals mg→yZ l.prog w (K w.params) mg base (CX w) k fa fd [x] (sp w))
  (hsp:∀(w:World) (H:Hp) (a:Addr) (ns:List Int),ns.length≤n→zfZ H→SqX (K w.params) H a (ns.map V.int)→sp w [.ref a] H (fun v _=>v= .bl true) fun _ _ _=>False)
  (hCX:∀(w:World) (H:Hp) (s:Shared) (e:Value) (s':Shared),CX w [] H s (fun _ _ _=>False) e s'→False):
  PySem.W.WalkO q loose XP YP l.row.toRowW d [] (fun f vs=>PySem.call f vs):=by
 refine Att.zbA hn hdf fun w s₀ s₁ mg mb fa o pm cd doc a vs ns G Y ho hd hcd hmg hobj hints hlen hg=> ?_
 have KX:=hY w _ Y
 obtain ⟨fd,hb,hF⟩:=F w mg fa _ KX G.T.g hmg
 exact zeF KX G.T.g G.T.b G.T.builtins G.T.nolimit hg hobj hints (Nat.le_trans hlen hn2) hr hF hb (fun H hO hS=>hsp w H a ns hlen hO hS) fun H e s'=>hCX w H s₁ e s'
end L2

/- THE LAST THEOREM (shape; LID, My.* are yours):
   My.Adr: a structure of the addresses that your layer names (classes, functions); My.Txt K t: a structure (Prop) of the equations over K;
   My.txt_mk : {K} {implicit addresses ..} (e1 : nsIn K mainGlobals "law" = some (some (.ref f))) (e2 : K.lookup f = some ⟨oc, od, .func (fnOf "law" "law" params body scope dV kV doc pm an cdv ct), sl⟩) (e3 : codeIn K cdv "law" = true) .. : ∃ t, My.Txt K t

set_option maxHeartbeats 0 in
theorem PySem.Challenge.cw_LID_holds : PySem.Challenge.rw_LID.Holds := by
 w_on; o_law; k_head; (case hw => w_witness2)
 k_fill
 refine L2.walk_of (l := PySem.Challenge.rw_LID) (n := 63) (k := 40) (x := "script") (CX := fun w => ..) (sp := fun _ => My.sp_law) rfl (by decide) rfl ⟨rfl, by decide, by decide⟩ (fun w h Y => PySem.W.kIn_of Y) ?F ?S ?C
 case F =>
  intro w mg fa h KX G hmg
  have T : ∃ t, My.Txt (L2.KOf KX) t := by
   dsimp only [L2.KOf]                          -- K must stand as «<heap const> w.params» for k_is
   refine' My.txt_mk ?e1 ?e2 ?e3 ..
   (case e1 => PySem.W.k_is)                    -- in the order: a name -> its address -> its object -> its parts
   (case e2 => PySem.W.k_is)
   ..
  obtain ⟨t, T⟩ := T
  have e0 := hmg.symm.trans (PySem.W.mg_of KX G T.law)
  cases e0                                       -- fa is the law's own address
  exact ⟨_, fun s u => .of_eq rfl, fun base kb nb => My.law_fn T kb nb⟩     -- if «.of_eq rfl» comes too early: refine' ⟨_, ?b, fun base kb nb => My.law_fn T kb nb⟩; exact fun s u => .of_eq rfl
 case S => exact fun w H a ns hl hO hS => ..
 case C => exact ..
(the tactic k_is has no namespace: write k_is) -/

namespace L2
open PySem PySem.Spec PyProof.Rows

noncomputable def Ws (s:Stmt):Arguments:=match s with
 | .FunctionDef _ a _ _ _ _ _ _ _ _=>a
 |_=>{posonlyargs:=[],args:=[],vararg:=none,kwonlyargs:=[],kw_defaults:=[],kwarg:=none,defaults:=[]}
noncomputable def YN (s:Stmt):List Stmt:=match s with
 | .FunctionDef _ _ b _ _ _ _ _ _ _=>b
 |_=>[]
noncomputable def zB (s:Stmt):Scope:=match s with
 | .FunctionDef _ _ _ _ _ _ sc _ _ _=>sc
 |_=>{kind:= .function,names:=[],isGenerator:=false,isCoroutine:=false}

noncomputable abbrev CX0:CXT:=fun _ _ _ _ _ _=>False
noncomputable abbrev E0:XK:=fun _ _ _=>False

structure Fun (K:PySem.W.Frag) (x qual:Str) (st:Stmt) (f:Addr) (fd:FuncData):Prop where
 ex:∃(oc:Value) (od:Option Addr) (kV doc pm:Value) (an:Option Addr) (cdv ct:Value) (osl:Array (Option Value)),
  fd=PySem.W.fnOf x qual (Ws st) (YN st) (zB st) .none kV doc pm an cdv ct∧K.lookup f=some ⟨oc,od,.func fd,osl⟩∧PySem.W.codeIn K cdv qual=true
 kp:PySem.W.keepIn K (.ref f)=true
section
variable {P:Program} {w:World} {K:PySem.W.Frag} {mg:Str→Option Value} {base:Heap}
theorem Fun.binds {x qual:Str} {st:Stmt} {f:Addr} {fd:FuncData} {ps:List Str} (F:Fun K x qual st f fd)
  (h:∀(kV doc pm:Value) (an:Option Addr) (cdv ct:Value) (us:List Value),us.length=ps.length→bindArgs (PySem.W.fnOf x qual (Ws st) (YN st) (zB st) .none kV doc pm an cdv ct) ⟨us,[]⟩=pure (ps.zip us)):UB K fd ps []:=by
 obtain ⟨oc,od,kV,doc,pm,an,cdv,ct,osl,rfl,lk,hcd⟩:=F.ex
 exact .all (h kV doc pm an cdv ct)
theorem zhL {x qual:Str} {st:Stmt} {f:Addr} {oc:Value} {od an:Option Addr} {osl:Array (Option Value)} {kV doc pm cdv ct:Value} (l:K.lookup f=some ⟨oc,od,.func (PySem.W.fnOf x qual (Ws st) (YN st) (zB st) .none kV doc pm an cdv ct),osl⟩)
  (c:PySem.W.codeIn K cdv qual=true) (k:PySem.W.keepIn K (.ref f)=true):Fun K x qual st f (PySem.W.fnOf x qual (Ws st) (YN st) (zB st) .none kV doc pm an cdv ct):=⟨⟨oc,od,kV,doc,pm,an,cdv,ct,osl,rfl,l,c⟩,k⟩
end
theorem zeG {A:Around} {k:Nat} (hr:XE k A):A.units+1<cLine:=Nat.lt_of_le_of_lt (Nat.add_le_add_left (by decide:1≤64) _) hr.units

section
variable {X:Cx}
theorem pv (i:Nat) {x:Str} {pos:Pos} (hN:X.N[i]? =some x:=by rfl) (hv:Vis X.env.scope x:=by first|exact Or.inl rfl|exact Or.inr (Or.inl rfl)|exact Or.inr (Or.inr rfl)) (hd:(x==("__debug__":Str))=false:=by decide)
  (hcd:(x==("__classdict__":Str))=false:=by decide):PE X (.Name x pos) (zho i):=zhp hN hv hd hcd
end


noncomputable def Vg (H H':Hp):Prop:=∀b o,H b=some o→H' b=some o
theorem Vg.refl (H:Hp):Vg H H:=fun _ _ h=>h

section
variable {κ:Type} [DecidableEq κ]
end
end L2
namespace L2
open PySem PySem.Spec PyProof.Rows

theorem XN {prog:Program} {w:World} {A:Around} {elt iter tg:Expr} {ifs:List Expr} {scope:Scope} {pos:Pos} {it acc:Value} {env:Env} {s:Shared} {R:Result→Shared→Prop} (I:Nat→Shared→Prop)
  (turn:∀n s,I n s→wpAny (model prog w) A (pyNext it) (fun r s₁=>match r with
   |none=>R (.ok .next) s₁
   |some v=>wpAny (model prog w) A (letOwnedTupleGo tg it v) (fun _ s₁'=>wpAny (model prog w) A (assign tg env v) (fun _ s₂=>
     wpAny (model prog w) A (forIn ifs true fun c r=>if r=true then do let ok ←isTrue c env (eval c env);pure (ForInStep.yield ok) else pure (ForInStep.yield r)) (fun ok s₃=>
      if ok=true then wpAny (model prog w) A (eval elt env) (fun x s₄=>
       wpAny (model prog w) A (call (.builtin "list.append") [acc,x]) (fun _ s₅=>∃m,m<n∧I m s₅) (fun _ _=>False) s₄) (fun _ _=>False) s₃
      else ∃m,m<n∧I m s₃) (fun _ _=>False) s₂)
     (fun _ _=>False) s₁') (fun _ _=>False) s₁) (fun _ _=>False) s)
  (n:Nat) (h:I n s):codeAny (model prog w) A (.compLoop (.ListComp elt [⟨tg,iter,ifs,0⟩] scope pos) 0 it acc env) R s:=by
 refine codeAny_loop rfl I (fun n s hI=> ?_) n h
 show wpAny _ A ((compTurn (.ListComp elt [⟨tg,iter,ifs,0⟩] scope pos) 0 it acc env).onRaise (fun x=>do noteFrame x env;theTreesLotGoes x)) _ _ s
 refine wpAny_noted ?_
 rw [compTurn_list]
 refine wpAny_bind (wpAny_standAt (wpAny_bind (wpAny_mono (turn n s hI) (fun r s₁ h₁=> ?_) fun _ _ h'=>h'.elim)))
 cases r with
 |none=>exact wpAny_pure h₁
 |some v=>
  refine wpAny_bind (wpAny_mono h₁ (fun _ s₁' h₁'=> ?_) fun _ _ h'=>h'.elim)
  refine wpAny_bind (wpAny_mono h₁' (fun _ s₂ h₂=>wpAny_bind (wpAny_mono h₂ (fun ok s₃ h₃=> ?_) fun _ _ h'=>h'.elim)) fun _ _ h'=>h'.elim)
  cases ok with
  |false=>exact wpAny_pure ⟨rfl,h₃⟩
  |true=>
   exact wpAny_bind (wpAny_bind (wpAny_mono h₃ (fun x s₄ h₄=>wpAny_bind (wpAny_mono h₄ (fun _ s₅ h₅=>wpAny_pure (wpAny_pure ⟨rfl,h₅⟩)) fun _ _ h'=>h'.elim)) fun _ _ h'=>h'.elim))

noncomputable def TC (env:Env):List (Str×NameKind)→List (Str×Addr)→List (Str×Addr)
 |[],cs=>cs
 |(n,k)::r,cs=>TC env r (if k== .free then (match env.cells.lookup n with|some c=>(n,c)::cs|none=>cs) else cs)
noncomputable def zbB (sc:Scope) (env:Env):List (Str×Addr):=TC env sc.names []
theorem zbC {env:Env}:∀{ns:List (Str×NameKind)} {cs:List (Str×Addr)},(∀p∈cs,env.cells.lookup p.1=some p.2)→∀p∈TC env ns cs,env.cells.lookup p.1=some p.2
 |[],_,h=>h
 |(n,k)::r,cs,h=>by
  unfold TC
  refine zbC ?_
  by_cases hk:(k== .free)=true
  ·rw [if_pos hk]
   cases e:env.cells.lookup n with
   |none=>exact h
   |some c=>
    intro p hp
    rcases List.mem_cons.mp hp with rfl|hp
    ·exact e
    ·exact h p hp
  ·rw [if_neg hk];exact h
theorem zbD {env:Env}:∀{ns:List (Str×NameKind)} {cs:List (Str×Addr)} {p:Str×Addr},p∈cs→p∈TC env ns cs
 |[],_,_,h=>h
 |(n,k)::r,cs,p,h=>by
  unfold TC
  refine zbD ?_
  by_cases hk:(k== .free)=true
  ·rw [if_pos hk]
   cases env.cells.lookup n with
   |none=>exact h
   |some c=>exact List.mem_cons_of_mem _ h
  ·rw [if_neg hk];exact h
theorem zbE {env:Env} {x:Str} {c:Addr} (e:env.cells.lookup x=some c):∀{ns:List (Str×NameKind)} {cs:List (Str×Addr)},(x,NameKind.free)∈ns→(x,c)∈TC env ns cs
 |[],_,h=>by cases h
 |(n,k)::r,cs,h=>by
  unfold TC
  rcases List.mem_cons.mp h with h|h
  ·injection h with h1 h2
   subst h1 h2
   refine zbD ?_
   rw [if_pos (by rfl),e]
   exact List.mem_cons_self
  ·exact zbE e h
theorem WH:∀{l:List (Str×Addr)} {x:Str} {c:Addr},(x,c)∈l→∃d,l.lookup x=some d
 |[],_,_,h=>by cases h
 |(n,d)::r,x,c,h=>by
  rw [List.lookup_cons]
  cases e:x==n with
  |true=>exact ⟨d,rfl⟩
  |false=>
   rcases List.mem_cons.mp h with h|h
   ·injection h with h1 h2
    subst h1
    simp at e
   ·exact WH h
theorem vk {sc:Scope} {env:Env} {x:Str} {c:Addr} (e:(zbB sc env).lookup x=some c):env.cells.lookup x=some c:=
 zbC (cs:=[]) (fun p hp=>by cases hp) (x,c) (PySem.mem_of_lookup e)
theorem zbF {sc:Scope} {env:Env} {x:Str} {c:Addr} (h:(x,NameKind.free)∈sc.names) (e:env.cells.lookup x=some c):(zbB sc env).lookup x=some c:=by
 obtain ⟨d,hd⟩:=WH (zbE (cs:=[]) e h)
 have:=vk (sc:=sc) hd
 rw [e] at this
 cases this
 exact hd
theorem TD {sc:Scope} {env:Env} (h:∀y∈sc.names,y.2= .free→∃c,env.cells.lookup y.1=some c):closureFor sc env=pure (zbB sc env):=by
 unfold zbB closureFor
 generalize sc.names=ns at h
 suffices hh:∀cs:List (Str×Addr),(forIn ns cs (fun (x:Str×NameKind) (r:List (Str×Addr))=>
    (match x with
     |(name,kind)=>if (kind==NameKind.free)=true then (cellOf env name>>=fun c=>pure (ForInStep.yield ((name,c)::r))) else pure (ForInStep.yield r):Sem (ForInStep (List (Str×Addr)))))>>=fun r=>pure r:Sem (List (Str×Addr)))=pure (TC env ns cs) from hh []
 induction ns with
 |nil=>intro cs;rfl
 |cons p r ih=>
  intro cs
  obtain ⟨n,k⟩:=p
  rw [List.forIn_cons]
  unfold TC
  have ih':=ih fun y hy=>h y (List.mem_cons_of_mem _ hy)
  by_cases hk:(k== .free)=true
  ·obtain ⟨c,hc⟩:=h (n,k) List.mem_cons_self (by simpa using hk)
   have hc:env.cells.lookup n=some c:=hc
   have h1:cellOf env n=pure c:=by unfold cellOf;rw [hc]
   simp only [hk,if_true,h1,hc,pure_bind]
   exact ih' _
  ·simp only [hk,if_false,pure_bind]
   exact ih' _

noncomputable def wb (X:Cx) (N':List Str) (sc:Scope) (C:Addr) (s₀:Shared) (H₀:Hp) (fp:List Addr):Cx where
 prog:=X.prog
 w:=X.w
 K:=X.K
 mg:=X.mg
 base:=X.base
 A:=X.A
 N:=N'
 s₀:=s₀
 H₀:=H₀
 env:=compEnvC sc (zbB sc X.env) C X.env
 outer:=X.stack
 stack:=X.stack
 ex:=fp
 fn:=fun _=>false
 calm:=X.calm
 pn:=[]
 xe:=fun _ _=>False

theorem Zb {env:Env}:∀{names:List (Str×NameKind)} {x:Str},names.lookup x=some .free→
  (names.map fun (n,k)=>if (k==NameKind.free&&env.scope.kind== .function&&env.kindOf n==some .cell) then (n,NameKind.cell) else (n,k)).lookup x=some .cell∨
  (names.map fun (n,k)=>if (k==NameKind.free&&env.scope.kind== .function&&env.kindOf n==some .cell) then (n,NameKind.cell) else (n,k)).lookup x=some .free
 |[],_,h=>by simp at h
 |(n,k)::r,x,h=>by
  have ih:= @Zb env r x
  show List.lookup x ((if (k==NameKind.free&&env.scope.kind== .function&&env.kindOf n==some .cell)=true then (n,NameKind.cell) else (n,k))::_)=_∨List.lookup x ((if (k==NameKind.free&&env.scope.kind== .function&&env.kindOf n==some .cell)=true then (n,NameKind.cell) else (n,k))::_)=_
  cases hx:x==n with
  |true=>
   simp only [List.lookup_cons,hx] at h
   cases h
   by_cases hc:(NameKind.free==NameKind.free&&env.scope.kind== .function&&env.kindOf n==some .cell)=true
   ·rw [if_pos hc];left;simp [List.lookup_cons,hx]
   ·rw [if_neg hc];right;simp [List.lookup_cons,hx]
  |false=>
   simp only [List.lookup_cons,hx] at h
   by_cases hc:(k==NameKind.free&&env.scope.kind== .function&&env.kindOf n==some .cell)=true
   ·rw [if_pos hc];simp only [List.lookup_cons,hx];exact ih h
   ·rw [if_neg hc];simp only [List.lookup_cons,hx];exact ih h
theorem ZW {env:Env} {x:Str} {k:NameKind} (hk:k= .cell∨k= .free):∀{names:List (Str×NameKind)},(∀y∈names,y.2≠ .cell)→
  (names.map fun (n,k)=>if (k==NameKind.free&&env.scope.kind== .function&&env.kindOf n==some .cell) then (n,NameKind.cell) else (n,k)).lookup x=some k→(x,NameKind.free)∈names
 |[],_,h=>by simp at h
 |(n,j)::r,hc,h=>by
  have hr:∀y∈r,y.2≠ .cell:=fun y hy=>hc y (List.mem_cons_of_mem _ hy)
  have h:List.lookup x ((if (j==NameKind.free&&env.scope.kind== .function&&env.kindOf n==some .cell)=true then (n,NameKind.cell) else (n,j))::_)=_:=h
  by_cases hj:(j==NameKind.free&&env.scope.kind== .function&&env.kindOf n==some .cell)=true
  ·rw [if_pos hj,List.lookup_cons] at h
   have hj':j= .free:=by
    simp only [Bool.and_eq_true,beq_iff_eq] at hj
    exact hj.1.1
   cases hx:x==n with
   |true=>
    rw [eq_of_beq hx,←hj']
    exact List.mem_cons_self
   |false=>
    rw [hx] at h
    exact List.mem_cons_of_mem _ (ZW hk hr h)
  ·rw [if_neg hj,List.lookup_cons] at h
   cases hx:x==n with
   |true=>
    rw [hx] at h
    have h':j=k:=Option.some.inj h
    have hjc:j≠ .cell:=hc (n,j) List.mem_cons_self
    rcases hk with e|e
    ·exact absurd (h'.trans e) hjc
    ·rw [eq_of_beq hx]
     have:j= .free:=h'.trans e
     rw [this]
     exact List.mem_cons_self
   |false=>
    rw [hx] at h
    exact List.mem_cons_of_mem _ (ZW hk hr h)

noncomputable def wM (X:Cx) (sc:Scope):List (Option Nat)→List Str→Prop
 |[],[]=>True
 |none::r,_::n=>wM X sc r n
 |some i::r,x::n=>(X.N[i]? =some x∧sc.names.lookup x=some .free)∧wM X sc r n
 |_,_=>False
noncomputable def Zw (cap:List (Option Nat)) (σ:St):St:=cap.map fun o=>o.bind fun i=>(σ[i]?).join
theorem wM.at {X:Cx} {sc:Scope}:∀{cap:List (Option Nat)} {N':List Str},wM X sc cap N'→∀(j i:Nat) (x:Str),cap[j]? =some (some i)→N'[j]? =some x→X.N[i]? =some x∧sc.names.lookup x=some .free
 |[],[],_,j,i,x,h,_=>by simp at h
 |none::r,y::n,c,0,i,x,h,_=>by simp at h
 |none::r,y::n,c,j+1,i,x,h,h2=>wM.at (cap:=r) c j i x (by simpa using h) (by simpa using h2)
 |some k::r,y::n,c,0,i,x,h,h2=>by
  simp at h h2
  subst h h2
  exact c.1
 |some k::r,y::n,c,j+1,i,x,h,h2=>wM.at (cap:=r) c.2 j i x (by simpa using h) (by simpa using h2)
theorem wM.len {X:Cx} {sc:Scope}:∀{cap:List (Option Nat)} {N':List Str},wM X sc cap N'→cap.length=N'.length
 |[],[],_=>rfl
 |none::r,y::n,c=>by simpa using wM.len (cap:=r) (N':=n) c
 |some k::r,y::n,c=>by simpa using wM.len (cap:=r) (N':=n) c.2
theorem zav {cap:List (Option Nat)} {σ:St} {j:Nat} {v:V} (h:(Zw cap σ)[j]? =some (some v)):∃i,cap[j]? =some (some i)∧σ[i]? =some (some v):=by
 unfold Zw at h
 rw [List.getElem?_map] at h
 cases e:cap[j]? with
 |none=>rw [e] at h;cases h
 |some o=>
  rw [e] at h
  cases o with
  |none=>simp at h
  |some i=>
   refine ⟨i,rfl,?_⟩
   simp only [Option.map_some,Option.bind_some,Option.some.injEq] at h
   cases q:σ[i]? with
   |none=>rw [q] at h;simp at h
   |some z=>rw [q] at h;simp at h;rw [h]

noncomputable def PTs (X:Cx) (ifs:List Expr) (t:TT):Prop:=
 ∀(pins:List (Addr×Obj)) (s:Shared) (σ:St) (H:Hp) (Q:Bool→Hp→Prop),Inv X pins σ H s→t σ H Q→
  wpAny (model X.prog X.w) X.A (forIn ifs true fun c r=>if r=true then do let ok ←isTrue c X.env (eval c X.env);pure (ForInStep.yield ok) else pure (ForInStep.yield r)) (TP X pins σ Q) X.xe s
theorem xf {X:Cx}:PTs X [] (fun _ H Q=>Q true H):=fun _ _ _ H _ I h=>wpAny_tests_nil ⟨H,I,h⟩
theorem zf1 {X:Cx} {c:Expr} {t:TT} (h:PT X c t):PTs X [c] t:=fun pins s σ H Q I hw=>wpAny_tests_one (h pins s σ H Q I hw)

noncomputable def zeH (cap:List (Option Nat)) (g:TG) (tt:TT) (te:TE) (J:It) (σ:St) (acc:Addr) (H0:Hp) (Q:Hp→Prop):Prop:=
 ∃W:Nat→Nat→List V→Hp→Prop,(∃m,W 0 m [] (upd H0 acc (.lst [])))∧∀i m ys H,W i m ys H→
  (J.stop i H∧Q H)∨(J.go i H∧∀x H',J.yld i H x H'→g x (Zw cap σ) H' fun σ2 H2=>tt σ2 H2 fun b H3=>
   if b=true then te σ2 H3 fun v H4=>H4 acc=some (.lst ys)∧ys.length<sizeLine∧∃m',m'<m∧W (i+1) m' (ys++[v]) (upd H4 acc (.lst (ys++[v])))
   else ∃m',m'<m∧W (i+1) m' ys H3)
noncomputable def zeI (cap:List (Option Nat)) (wi:TI) (g:TG) (tt:TT) (te:TE):TE:=fun σ H Q=>wi σ H fun J H1=>∀acc,H1 acc=none→zeH cap g tt te J σ acc H1 fun H2=>Q (.ref acc) H2
noncomputable def zbG (i:Nat) (cap:List (Option Nat)) (wi:TI) (g:TG) (tt:TT) (te:TE):TS:=fun D σ H=>wi σ H fun J H1=>∀acc,H1 acc=none→zeH cap g tt te J σ acc H1 fun H2=>D.nx (σ.set i (some (.ref acc))) H2

structure Wt (X:Cx) (sc:Scope):Prop where
 cell:∀y∈sc.names,y.2≠ .cell
 kind:sc.kind= .function
 names:∀y∈sc.names,y.2= .local→sc.names.lookup y.1=some .local
 free:∀y∈sc.names,y.2= .free→X.env.kindOf y.1=some .cell∨X.env.kindOf y.1=some .free

section
variable {X:Cx} {elt tg iter:Expr} {ifs:List Expr} {sc:Scope} {pos:Pos} {wi:TI} {g:TG} {tt:TT} {te:TE} {N':List Str} {cap:List (Option Nat)}

theorem Inv.closure {pins:List (Addr×Obj)} {σ:St} {H:Hp} {s:Shared} (I:Inv X pins σ H s) (B:Wt X sc):closureFor sc X.env=pure (zbB sc X.env):=
 TD fun y hy e=>I.ok.has y.1 (B.free y hy e)

theorem zdX {pins:List (Addr×Obj)} {σ:St} {H:Hp} {s:Shared} {h₁:Heap} {t':Nat} {fp:List Addr} {acc C:Addr} {s₀:Shared} {m:Str→Option Value}
  (I:Inv X pins σ H s) (B:Wt X sc) (cp:wM X sc cap N') (hf:∀b∈fp,zbs X pins H b) (hfo:∀b∈fp,b<s.heap.objs.size) (hacc:acc=s.heap.objs.size) (ho:s₀.os=s.os) (hgen:s₀.gens=s.gens)
  (h0:s₀.heap=s.heap.push {cls:= .type "list",data:= .seq #[]}) (hC:C=s₀.heap.objs.size)
  (hns:h₁.Ns C m) (hsb:∀b o,s₀.heap.get? b=some o→h₁.get? b=some o):
  Inv (wb X N' sc C s₀ (upd H acc (.lst [])) fp) [] (Zw cap σ) (upd H acc (.lst [])) {s₀ with heap:=h₁,toks:=t'}:=by
 have hfr:H acc=none:=I.hok.fresh (Nat.le_of_eq hacc.symm)
 have up0:∀b o,s.heap.get? b=some o→s₀.heap.get? b=some o:=fun b o e=>by rw [h0];exact Heap.get?_push_of_some _ e
 have sz0:s₀.heap.objs.size=s.heap.objs.size+1:=by rw [h0,Heap.size_push]
 have I0:Inv X pins σ (upd H acc (.lst [])) {s with heap:=s₀.heap,toks:=s.toks}:=I.laid up0 (Nat.le_of_eq hacc.symm) ⟨Nat.zero_le _,[],0,.nil,by rw [h0,hacc];exact Heap.get?_push_size _ rfl⟩
 have CX':∀b,b<s.heap.objs.size→b≠C:=fun b hb=>Nat.ne_of_lt (by rw [hC,sz0];exact Nat.lt_succ_of_lt hb)
 have CA:∀b,b<s.heap.objs.size→b≠acc:=fun b hb=>Nat.ne_of_lt (by rw [hacc];exact hb)
 have cellLt:∀x c,X.env.cells.lookup x=some c→c<s.heap.objs.size:=fun x c e=>by
  obtain ⟨v,o,q,_⟩:=I.cell x c e
  exact Heap.lt_size q
 refine ⟨⟨I.ok.mod,B.kind,I.ok.glob,I.ok.blt,Nat.le_of_eq hC.symm,fun x y c h1 h2=>I.ok.inj x y c (vk h1) (vk h2),fun x hx=> ?_,fun x c h=>Bool.noConfusion h,I.ok.hd,I.ok.frames,.inl rfl,fun b hb=>⟨CX' b (hfo b hb),fun x c e=>(hf b hb).2.2.2.2.1 x c (vk e)⟩,
   fun b o e=> ?_,?_,fun b o e hb=> ?_,fun b hb hz=> ?_,I0.stack,I0.stkFree⟩,
  rfl,?_,Un.kept hsb,⟨m,hns,fun j x v h1 h2 h3=> ?_⟩,fun x c e=> ?_,?_,fun x c e=> ?_,fun p hp=>absurd (show p∈([]:List (Addr×Obj)) from hp) (by simp),I0.hok.kept hsb,?_⟩
 ·have hm:(x,NameKind.free)∈sc.names:=by
   rcases hx with hx|hx
   ·exact ZW (env:=X.env) (.inl rfl) B.cell hx
   ·exact ZW (env:=X.env) (.inr rfl) B.cell hx
  obtain ⟨c,hc⟩:=I.ok.has x (B.free _ hm rfl)
  exact ⟨c,zbF hm hc⟩
 ·obtain ⟨e1,e2⟩:=I.bs b o e
  exact ⟨up0 b o e1,by show upd H acc (.lst []) b=none;rw [xa (CA b (Heap.lt_size e1))];exact e2⟩
 ·exact Nat.le_trans I.ok.bsz (Nat.le_trans I.sz (by show _≤s₀.heap.objs.size;omega))
 ·rcases (hf b hb).2.2.2.1 with z|z
  ·exact I.ok.noex b o e z
  ·exact absurd (Nat.lt_of_lt_of_le (Heap.lt_size e) (Nat.le_trans I.ok.bsz z)) (Nat.lt_irrefl _)
 ·rcases List.mem_cons.mp (I.stkSub b hz) with e|e
  ·exact (hf b hb).2.1 e
  ·exact (hf b hb).2.2.1 e
 ·show AllBare s₀.gens
  rw [hgen];exact I.bare
 ·obtain ⟨i,e1,e2⟩:=zav h2
  obtain ⟨e3,e4⟩:=cp.at j i x e1 h1
  have hm:(x,NameKind.free)∈sc.names:=PySem.mem_of_lookup e4
  have hk:=B.free _ hm rfl
  obtain ⟨m0,hn0,hl⟩:=I.loc
  obtain ⟨u,r,l⟩:=hl i x v e3 e2 (by rcases hk with k|k;exact .inr (.inl k);exact .inr (.inr k))
  refine ⟨u,r,.inr ?_⟩
  rcases l with ⟨k,_⟩|⟨_,c,hc,o,q,d⟩
  ·rcases hk with k'|k'
   ·rw [k] at k';cases k'
   ·rw [k] at k';cases k'
  ·exact ⟨Zb (env:=X.env) e4,c,zbF hm hc,o,hsb c o (up0 c o q),d⟩
 ·obtain ⟨v,o,q,d⟩:=I.cell x c (vk e)
  exact ⟨v,o,hsb c o (up0 c o q),d⟩
 ·show upd H acc (.lst []) C=none
  rw [xa (by rw [hC,hacc,sz0];exact Nat.succ_ne_self _)]
  exact I.hok.fresh (by rw [hC,sz0];exact Nat.le_succ _)
 ·show upd H acc (.lst []) c=none
  rw [xa (CA c (cellLt x c (vk e)))]
  exact I.freeC x c (vk e)
 ·show (Zw cap σ).length=N'.length
  unfold Zw
  rw [List.length_map]
  exact cp.len

noncomputable def Kp (σ0 σ:St):Prop:=σ.length=σ0.length∧∀(j:Nat) v,σ0[j]? =some (some v)→σ[j]? =some (some v)
noncomputable def zf2 (cap:List (Option Nat)) (g:TG):Prop:=∀σ0 σ x H Q,Kp (Zw cap σ0) σ→g x σ H Q→g x σ H fun σ2 H2=>Q σ2 H2∧Kp (Zw cap σ0) σ2
theorem yp {i:Nat} (h:cap[i]? =some none):zf2 cap (zcZ i):=fun σ0 σ x H Q k q=>by
 refine ⟨q,by rw [List.length_set];exact k.1,fun j v e=> ?_⟩
 have:j≠i:=by
  rintro rfl
  obtain ⟨i',e1,_⟩:=zav e
  rw [h] at e1;cases e1
 rw [List.getElem?_set_ne (Ne.symm this)]
 exact k.2 j v e

theorem zaw {pins:List (Addr×Obj)} {σ:St} {H:Hp} {s:Shared} {use:Option (Value→Sem Unit)} {Q:Value→Shared→Prop} {R:Addr→Hp→Prop} {p:Pos}
  (hc:X.calm=true) (B:Wt X sc) (cp:wM X sc cap N') (hi:PI X tg iter wi) (ow:zf2 cap g)
  (hg:∀C s₀ H₀ fp,PG (wb X N' sc C s₀ H₀ fp) tg g) (ht:∀C s₀ H₀ fp,PTs (wb X N' sc C s₀ H₀ fp) ifs tt) (he:∀C s₀ H₀ fp,PE (wb X N' sc C s₀ H₀ fp) elt te)
  (hs:∀x,foldedSetIterable iter X.env x=pure x)
  (I:Inv X pins σ H s) (h:wi σ H fun J H1=>∀acc,H1 acc=none→zeH cap g tt te J σ acc H1 (R acc))
  (fin:∀(acc C:Addr) (H':Hp) (s':Shared) (m:Str→Option Value),Inv X pins σ H' s'→s'.heap.Ns C m→C≠X.env.locals→
   (∀{σ':St} {s'':Shared},Inv X pins σ' H' s''→∀h',Heap.SameBut C s''.heap h'→Inv X pins σ' H' {s'' with heap:=h'})→
   R acc H'→compPost (model X.prog X.w) X.A X.xe use Q (.ref acc) C (.ok .next) s'):
  wpAny (model X.prog X.w) X.A (comprehension (.ListComp elt [⟨tg,iter,ifs,0⟩] sc pos) sc X.env p (newList []) false (eval iter X.env) use) Q X.xe s:=by
 refine wpAny_comprehension_free rfl hs (I.closure B) B.kind B.names (thn (hi pins s σ H _ I h) fun xv s1 h1=>thn h1 fun itv s2 h2=> ?_)
 obtain ⟨it,fp,tn,J,H2,e,I2,T,st2,f2,r2⟩:=h2
 subst e
 have fpo:∀b∈fp,b<s2.heap.objs.size:=fun b hb=>by
  obtain ⟨o,e,_⟩:=T.obj _ _ st2 b hb
  exact Heap.lt_size e
 refine wpAny_newObj_type (wpAny_newFunctionEnv B.cell (by intro y hy;simp at hy) (fun h₁ hns₁ hsb₁=> ?_) B.kind)
 dsimp only at hns₁ hsb₁ ⊢
 obtain ⟨s₀,es0⟩:∃s₀:Shared,s₀={s2 with heap:=s2.heap.push {cls:= .type "list",dict:=none,data:= .seq ([]:List Value).toArray}}:=⟨_,rfl⟩
 have e0h:s₀.heap=s2.heap.push {cls:= .type "list",data:= .seq #[]}:=by rw [es0]
 obtain ⟨C,eC⟩:∃C:Addr,C=s₀.heap.objs.size:=⟨_,rfl⟩
 obtain ⟨acc,eA⟩:∃a:Addr,a=s2.heap.objs.size:=⟨_,rfl⟩
 rw [show (s2.heap.push {cls:= .type "list",dict:=none,data:= .seq ([]:List Value).toArray}).objs.size=C by rw [eC,e0h]] at hns₁ hsb₁ ⊢
 have keep₁:∀b o,s₀.heap.get? b=some o→h₁.get? b=some o:=fun b o e=>by
  refine hsb₁.extBut b o ?_ ?_
  ·rw [eC];exact Nat.ne_of_lt (Heap.lt_size e)
  ·rw [e0h] at e;exact Heap.get?_push_of_some _ e
 have szC:C=s2.heap.objs.size+1:=by rw [eC,e0h,Heap.size_push]
 have up0:∀b o,s2.heap.get? b=some o→s₀.heap.get? b=some o:=fun b o e=>by rw [e0h];exact Heap.get?_push_of_some _ e
 have fr0:H2 acc=none:=I2.hok.fresh (Nat.le_of_eq eA.symm)
 show codeAny (model X.prog X.w) X.A (.compStart (.ListComp elt [⟨tg,iter,ifs,0⟩] sc pos) 0 (.ref it) (.ref s2.heap.objs.size) (compEnvC sc (zbB sc X.env) C X.env))
  (compPost (model X.prog X.w) X.A X.xe use Q (.ref s2.heap.objs.size) C) {s2 with heap:=h₁,toks:=s2.toks+([]:List (Str×Value)).length}
 rw [←eA]
 have es1:({s2 with heap:=h₁,toks:=s2.toks+([]:List (Str×Value)).length}:Shared)={s₀ with heap:=h₁,toks:=s2.toks+([]:List (Str×Value)).length}:=by rw [es0]
 rw [es1]
 obtain ⟨W,⟨m0,w0⟩,turn⟩:=r2 acc fr0
 have Ib:Inv (wb X N' sc C s₀ (upd H2 acc (.lst [])) fp) [] (Zw cap σ) (upd H2 acc (.lst [])) {s₀ with heap:=h₁,toks:=s2.toks+([]:List (Str×Value)).length}:=
  zdX I2 B cp f2 fpo eA (by rw [es0]) (by rw [es0]) e0h eC hns₁ keep₁
 have stat:∀{H':Hp},(∀b∈fp,H' b=none)→∀b∈fp,zbs (wb X N' sc C s₀ (upd H2 acc (.lst [])) fp) [] H' b:=fun hn b hb=>
  ⟨hn b hb,(Ib.ok.exf b hb).1,Ib.ok.exfs b hb,.inl hb,fun x c e=>(Ib.ok.exf b hb).2 x c e,fun p hp=>absurd (show p∈([]:List (Addr×Obj)) from hp) (by simp)⟩
 have fp0:∀b∈fp,upd H2 acc (.lst []) b=none:=fun b hb=>by
  rw [xa (by rw [eA];exact Nat.ne_of_lt (fpo b hb))]
  exact (f2 b hb).1
 have loop:codeAny (model X.prog X.w) X.A (.compLoop (.ListComp elt [⟨tg,iter,ifs,0⟩] sc pos) 0 (.ref it) (.ref acc) (compEnvC sc (zbB sc X.env) C X.env))
   (compPost (model X.prog X.w) X.A X.xe use Q (.ref acc) C) {s₀ with heap:=h₁,toks:=s2.toks+([]:List (Str×Value)).length}:=by
  refine XN (fun n s'=>∃i ys H',Inv (wb X N' sc C s₀ (upd H2 acc (.lst [])) fp) [] (Zw cap σ) H' s'∧tn i s'.heap∧(∀b∈fp,H' b=none)∧W i n ys H') ?_ m0
   ⟨0,[],_,Ib,T.keep _ _ _ st2 fun b hb o e=>keep₁ b o (up0 b o e),fp0,w0⟩
  rintro n s3 ⟨i,ys,H3,I3,st3,fr3,w3⟩
  rcases turn i n ys H3 w3 with ⟨stop,qn⟩|⟨go,step⟩
  ·refine thn (T.done (wb X N' sc C s₀ (upd H2 acc (.lst [])) fp) rfl rfl rfl hc i [] s3 _ H3 (fun _ _=>False) I3 (stat fr3) st3 stop) fun r s4 ⟨hr,I4⟩=> ?_
   subst hr
   have u0:Un (frs X.stack) fp H2 (upd H2 acc (.lst [])) s2.heap s₀.heap:=Un.laid up0 (Nat.le_of_eq eA.symm) fr0
   have un:Un (frs X.stack) fp H2 H3 s2.heap s4.heap:=u0.trans I4.base
   have I5:Inv X pins σ H3 s4:=I2.call' (by rw [I4.os];show s₀.os=_;rw [es0]) un I4.hok I4.bare fun b hb=>⟨(f2 b hb).2.2.2.1,(f2 b hb).2.1,(f2 b hb).2.2.2.2.1,(f2 b hb).2.2.2.2.2⟩
   obtain ⟨m4,hn4,_⟩:=I4.loc
   have CL:C≠X.env.locals:=fun z=>by
    have:=I2.lt
    rw [←z,szC] at this
    exact absurd this (Nat.not_lt.mpr (Nat.le_succ _))
   refine fin acc C H3 s4 m4 I5 hn4 CL (fun {σ' s''} I6 h' sb=> ?_) qn
   refine I6.turned (t':=s''.toks) (fun b o hb e=>(sb.2 b hb).trans e) I4.free CL (.inr ?_) (fun x c e z=> ?_) fun p hp z=> ?_
   ·have:=I2.sz
    rw [szC]
    omega
   ·obtain ⟨v,o,q,_⟩:=I2.cell x c e
    have:=Heap.lt_size q
    rw [z,szC] at this
    exact absurd this (Nat.not_lt.mpr (Nat.le_succ _))
   ·obtain ⟨q,_⟩:=I2.pin p hp
    have:=Heap.lt_size q
    rw [z,szC] at this
    exact absurd this (Nat.not_lt.mpr (Nat.le_succ _))
  ·refine thn (T.item (wb X N' sc C s₀ (upd H2 acc (.lst [])) fp) rfl rfl rfl hc i [] s3 _ H3 (fun _ _=>False) I3 (stat fr3) st3 go) fun r s4 ⟨u,hr,h4⟩=> ?_
   subst hr
   refine thn h4 ?_
   rintro _ s5 ⟨x,H5,I5,r5,y5,st5,fr5⟩
   have I5':=I5.pinned (stat fr5) (T.obj _ _ st5)
   refine thn (hg C s₀ _ fp _ s5 _ H5 x u _ I5' r5 (ow σ _ x H5 _ ⟨rfl,fun _ _ e=>e⟩ (step x H5 y5))) ?_
   rintro _ s6 ⟨σ6,H6,I6,q6,kp6⟩
   have again:∀{H7:Hp} {s7:Shared} {zs:List V},Inv (wb X N' sc C s₀ (upd H2 acc (.lst [])) fp) ([]++UA fp s5.heap) σ6 H7 s7→(∃m',m'<n∧W (i+1) m' zs H7)→
     ∃m,m<n∧∃i ys H',Inv (wb X N' sc C s₀ (upd H2 acc (.lst [])) fp) [] (Zw cap σ) H' s7∧tn i s7.heap∧(∀b∈fp,H' b=none)∧W i m ys H':=fun {H7 s7 zs} I7 w7=>by
    obtain ⟨m',hm,w7⟩:=w7
    refine ⟨m',hm,i+1,zs,H7,(I7.unpinned).weak kp6.1.symm kp6.2,T.keep _ _ _ st5 fun b hb o e=>(I7.pin (b,o) (List.mem_append_right _ (List.mem_append_right _ (YL hb e)))).1,fun b hb=> ?_,w7⟩
    obtain ⟨o,e,d⟩:=T.obj _ _ st5 b hb
    exact (I7.pin (b,o) (List.mem_append_right _ (List.mem_append_right _ (YL hb e)))).2.1
   refine thn (ht C s₀ _ fp _ s6 σ6 H6 _ I6 q6) ?_
   rintro ok s7 ⟨H7,I7,q7⟩
   cases ok with
   |false=>
    rw [if_neg Bool.false_ne_true] at q7 ⊢
    exact again I7 q7
   |true=>
    rw [if_pos rfl] at q7 ⊢
    refine thn (he C s₀ _ fp _ s7 σ6 H7 _ I7 q7) ?_
    rintro xv s8 ⟨v,H8,I8,r8,hacc8,hl8,w8⟩
    refine thn (vj _ s8 σ6 H8 (.ref acc) [v] (.ref acc) [xv] (fun _ H9=>H9=upd H8 acc (.lst (ys++[v]))) I8 rfl (.cons r8 .nil) ⟨acc,ys,v,rfl,rfl,hacc8,hl8,rfl⟩) ?_
    rintro _ s9 ⟨_,H9,I9,_,e9⟩
    subst e9
    exact again I9 w8
 exact codeAny_compStart_list loop (T.self _ 0 _ _ _ (T.keep _ _ _ st2 fun b hb o e=>keep₁ b o (up0 b o e)) loop)

theorem xr (hc:X.calm=true) (B:Wt X sc) (cp:wM X sc cap N') (hi:PI X tg iter wi) (ow:zf2 cap g)
  (hg:∀C s₀ H₀ fp,PG (wb X N' sc C s₀ H₀ fp) tg g) (ht:∀C s₀ H₀ fp,PTs (wb X N' sc C s₀ H₀ fp) ifs tt) (he:∀C s₀ H₀ fp,PE (wb X N' sc C s₀ H₀ fp) elt te)
  (hs:∀x,foldedSetIterable iter X.env x=pure x:=by intro _;rfl):PE X (.ListComp elt [⟨tg,iter,ifs,0⟩] sc pos) (zeI cap wi g tt te):=by
 intro pins s σ H Q I h
 rw [eval_ListComp]
 refine zaw (use:=none) (R:=fun acc H2=>Q (.ref acc) H2) hc B cp hi ow hg ht he hs I h fun acc C H' s' m I' hn CL mk r=> ?_
 exact ⟨m,hn,fun h' sb=>⟨.ref acc,H',mk I' h' sb,rfl,r⟩⟩
theorem YO {i:Nat} {y:Str} {py spos:Pos} (hc:X.calm=true) (B:Wt X sc) (cp:wM X sc cap N') (hi:PI X tg iter wi) (ow:zf2 cap g)
  (hg:∀C s₀ H₀ fp,PG (wb X N' sc C s₀ H₀ fp) tg g) (ht:∀C s₀ H₀ fp,PTs (wb X N' sc C s₀ H₀ fp) ifs tt) (he:∀C s₀ H₀ fp,PE (wb X N' sc C s₀ H₀ fp) elt te)
  (hN:X.N.Nodup) (hy:X.N[i]? =some y) (hl:X.env.scope.names.lookup y=some .local)
  (hsw:swapsWith (.ListComp elt [⟨tg,iter,ifs,0⟩] sc pos) (some (.Name y py)) spos.line X.env=pure true:=by rfl)
  (hs:∀x,foldedSetIterable iter X.env x=pure x:=by intro _;rfl):PS X (.Assign [.Name y py] (.ListComp elt [⟨tg,iter,ifs,0⟩] sc pos) spos) (zbG i cap wi g tt te):=by
 intro pins s σ H D I h
 rw [exec_Assign_Name_used _ _ _ _ hsw]
 refine wpAny_bind (wpAny_standAt (wpAny_bind ?_))
 show wpAny _ X.A (do let _ ←comprehension (.ListComp elt [⟨tg,iter,ifs,0⟩] sc pos) sc X.env _ (newList []) false (eval iter X.env) (some (assign (.Name y py) X.env))) _ _ s
 refine wpAny_bind (thn (zaw (use:=some (assign (.Name y py) X.env)) (Q:=fun _ s'=>SP X pins D .next s') (R:=fun acc H2=>D.nx (σ.set i (some (.ref acc))) H2) hc B cp hi ow hg ht he hs I h fun acc C H' s' m I' hn CL mk r=> ?_) fun _ s' hq=>wpAny_pure (wpAny_pure hq))
 show wpAny _ X.A (assign (.Name y py) X.env (.ref acc)) _ _ _
 refine wpAny_assign_Name (zak I' hN hy (.inl hl) (v:= .ref acc) rfl (fun s'' I'' hsb=> ?_) (.inr hl))
 obtain ⟨a,sb,ha⟩:=hsb
 have hCa:C≠a:=by
  rcases ha with ha|ha
  ·rw [ha];exact CL
  ·intro z
   rw [←z] at ha
   obtain ⟨v,o,q,d⟩:=I'.cell y C ha
   obtain ⟨o',es,ep,q',d',_⟩:=hn
   rw [q] at q';cases q'
   rw [d] at d';cases d'
 exact ⟨m,hn.sameBut sb hCa,fun h' sb'=>⟨_,H',mk I'' h' sb',r⟩⟩
end
end L2
namespace L2
open PySem PySem.Spec PyProof.Rows

noncomputable def wu {α:Type}:Sem α→Prop
 | .pure _=>True
 | .raise _=>True
 | .unsupported _=>True
 | .finish _=>True
 | .rule _ k=>∀u,wu (k u)
 | .at _ k=>∀u,wu (k u)
 | .load _ _ k=>∀o,wu (k o)
 | .update _ _ f k=>(∀o,(f o).dict=o.dict∧(f o).cls=o.cls)∧∀u,wu (k u)
 | .alloc _ k=>∀a,wu (k a)
 | .loadIfAlive _ k=>∀o,wu (k o)
 | .point _ k=>∀u,wu (k u)
 | .stack k=>∀x,wu (k x)
 | .ask k=>∀x,wu (k x)
 |_=>False
noncomputable def KD (h h':Heap):Prop:=∀(b:Nat) o,h.objs[b]? =some o→∃o',h'.objs[b]? =some o'∧o'.dict=o.dict∧o'.cls=o.cls
theorem KD.refl (h:Heap):KD h h:=fun _ o e=>⟨o,e,rfl,rfl⟩
theorem KD.trans {h h1 h2:Heap} (x:KD h h1) (y:KD h1 h2):KD h h2:=fun b o e=>by
 obtain ⟨o1,e1,d1,c1⟩:=x b o e
 obtain ⟨o2,e2,d2,c2⟩:=y b o1 e1
 exact ⟨o2,e2,d2.trans d1,c2.trans c1⟩
theorem KD.push (h:Heap) (o:Obj):KD h (h.push o):=fun b o' e=>by
 refine ⟨o',?_,rfl,rfl⟩
 obtain ⟨objs,l⟩:=h
 show (objs.push o)[b]? =some o'
 have e:objs[b]? =some o':=e
 rw [Array.getElem?_push]
 have hb:b<objs.size:=(Array.getElem?_eq_some_iff.mp e).1
 rw [if_neg (Nat.ne_of_lt hb)]
 exact e
theorem KD.update (h:Heap) (a:Addr) {f:Obj→Obj} (hf:∀o,(f o).dict=o.dict∧(f o).cls=o.cls):KD h (h.update a f):=fun b o e=>by
 obtain ⟨objs,l⟩:=h
 show ∃o',(objs.modify a f)[b]? =some o'∧_
 rw [Array.getElem?_modify]
 have e:objs[b]? =some o:=e
 by_cases hab:a=b
 ·rw [if_pos hab,e]
  exact ⟨f o,rfl,hf o⟩
 ·rw [if_neg hab,e]
  exact ⟨o,rfl,rfl,rfl⟩
theorem zbH {h:Heap} {a:Addr} {o:Obj} (e:h.get? a=some o):h.objs[a]? =some o:=by
 unfold Heap.get? at e
 split at e
 ·cases e
 ·exact e
theorem KD.at {h h':Heap} {a:Addr} {o o':Obj} (k:KD h h') (e:h.get? a=some o) (e':h'.get? a=some o'):o'.dict=o.dict∧o'.cls=o.cls:=by
 obtain ⟨o1,e1,d⟩:=k a o (zbH e)
 rw [zbH e'] at e1
 cases e1
 exact d
theorem zf3 {α:Type} {M:Model} {Γ:PySem.Ctx} {t:Sem α}:∀{Q:α→Pos→Shared→Prop} {E:Value→Pos→Shared→Prop} {p:Pos} {s:Shared} {h₀:Heap},wu t→KD h₀ s.heap→Sem.wp M Γ t Q E p s→
  Sem.wp M Γ t (fun a p' s'=>Q a p' s'∧KD h₀ s'.heap) (fun e p' s'=>E e p' s'∧KD h₀ s'.heap) p s:=by
 induction t with
 |pure a=>exact fun _ k h=>⟨h,k⟩
 |raise e=>exact fun _ k h=>⟨h,k⟩
 |unsupported w=>exact fun _ _ h=>h.elim
 |finish e=>exact fun _ _ h=>h.elim
 |rule _ k ih=>exact fun t z h=>ih () (t ()) z h
 | «at» _ k ih=>exact fun t z h=>ih () (t ()) z h
 |load a _ k ih=>
  intro Q E p s h₀ t z h
  obtain ⟨o,e,h⟩:=h
  exact ⟨o,e,ih o (t o) z h⟩
 |update a _ f k ih=>
  intro Q E p s h₀ t z h
  obtain ⟨e,h⟩:=h
  exact ⟨e,ih () (t.2 ()) (z.trans (KD.update _ _ t.1)) h⟩
 |alloc o k ih=>exact fun t z h=>ih _ (t _) (z.trans (KD.push _ _)) h
 |loadIfAlive a k ih=>exact fun t z h=>ih _ (t _) z h
 |point _ k ih=>exact fun t z h=>ih () (t ()) z h
 |stack k ih=>exact fun t z h=>ih _ (t _) z h
 |ask k ih=>exact fun t z h=>ih _ (t _) z h
 |register _ _ _=>exact fun t=>t.elim
 |fresh _ _=>exact fun t=>t.elim
 |choose _ _ _ _=>exact fun t=>t.elim
 |os _ _ _ _=>exact fun t=>t.elim
 |call _ _ _ _ _ _=>exact fun t=>t.elim
 |handled _ _ _=>exact fun t=>t.elim
 |newGen _ _ _=>exact fun t=>t.elim
 |genState _ _ _=>exact fun t=>t.elim
 |resume _ _ _ _ _=>exact fun t=>t.elim
 |yield _ _ _ _ _=>exact fun t=>t.elim
 |fork _ _ _=>exact fun t=>t.elim
 |thread _ _=>exact fun t=>t.elim
 |await _ _ _ _ _ _=>exact fun t=>t.elim
theorem zeJ {α:Type} {M:Model} {A:Around} {t:Sem α} {Q:α→Shared→Prop} {E:Value→Shared→Prop} {s:Shared} (T:wu t) (h:wpAny M A t Q E s):wpAny M A t (fun a s'=>Q a s'∧KD s.heap s'.heap) (fun e s'=>E e s'∧KD s.heap s'.heap) s:=
 fun Γ p hΓ=>zf3 T (KD.refl _) (h Γ p hΓ)
theorem zdY {α β:Type} {f:α→Sem β} (hf:∀a,wu (f a)):∀{t:Sem α},wu t→wu (t.bind f):=by
 intro t
 induction t with
 |pure a=>exact fun _=>hf a
 |raise e=>exact fun _=>trivial
 |unsupported w=>exact fun _=>trivial
 |finish e=>exact fun _=>trivial
 |rule _ k ih=>exact fun t u=>ih u (t u)
 | «at» _ k ih=>exact fun t u=>ih u (t u)
 |load a _ k ih=>exact fun t u=>ih u (t u)
 |update a _ f k ih=>exact fun t=>⟨t.1,fun u=>ih u (t.2 u)⟩
 |alloc o k ih=>exact fun t u=>ih u (t u)
 |loadIfAlive a k ih=>exact fun t u=>ih u (t u)
 |point _ k ih=>exact fun t u=>ih u (t u)
 |stack k ih=>exact fun t u=>ih u (t u)
 |ask k ih=>exact fun t u=>ih u (t u)
 |register _ _ _=>exact fun t=>t.elim
 |fresh _ _=>exact fun t=>t.elim
 |choose _ _ _ _=>exact fun t=>t.elim
 |os _ _ _ _=>exact fun t=>t.elim
 |call _ _ _ _ _ _=>exact fun t=>t.elim
 |handled _ _ _=>exact fun t=>t.elim
 |newGen _ _ _=>exact fun t=>t.elim
 |genState _ _ _=>exact fun t=>t.elim
 |resume _ _ _ _ _=>exact fun t=>t.elim
 |yield _ _ _ _ _=>exact fun t=>t.elim
 |fork _ _ _=>exact fun t=>t.elim
 |thread _ _=>exact fun t=>t.elim
 |await _ _ _ _ _ _=>exact fun t=>t.elim
theorem tb {α β:Type} {t:Sem α} {f:α→Sem β} (h:wu t) (hf:∀a,wu (f a)):wu (t>>=f):=zdY hf h
theorem TF (v:Value):wu (fieldsOf v):=by
 unfold fieldsOf
 split
 ·refine tb (fun o=>trivial) fun o=> ?_
  split<;>trivial
 ·trivial
theorem YQ (v:Value) (i:Nat):wu (field v i):=by
 unfold field
 refine tb (TF v) fun a=> ?_
 split<;>trivial
theorem UF (g:Array Value→Array Value) (o:Obj):(Obj.mapFields g o).dict=o.dict∧(Obj.mapFields g o).cls=o.cls:=by
 obtain ⟨c,d,dt,sl⟩:=o
 cases dt<;>exact ⟨rfl,rfl⟩
theorem Yh (v:Value) (i:Nat) (x:Value):wu (setField v i x):=by
 unfold setField
 split
 ·unfold updateField
  refine tb (fun o=>trivial) fun o=> ?_
  split
  ·split
   ·exact ⟨fun o=>UF _ o,fun _=>trivial⟩
   ·trivial
  ·trivial
 ·trivial
theorem UG (e:Value) (f:Option Addr):wu (setFlight e f):=by
 unfold setFlight
 refine tb (YQ _ _) fun tb'=> ?_
 split
 ·exact Yh _ _ _
 ·trivial
theorem UH (ty:String) (vs:List Value):wu (newFields ty vs):=by
 have h:wu (newObjAsIs (Value.type ty) (Data.fields vs.toArray)):=by
  unfold newObjAsIs
  exact tb (fun a=>trivial) fun a=>trivial
 unfold newFields newObj
 show wu (if vs.toArray.size>sizeLine+2 then (unsupported "record:memory">>=fun _=>newObjAsIs (Value.type ty) (Data.fields vs.toArray)) else newObjAsIs (Value.type ty) (Data.fields vs.toArray))
 split
 ·trivial
 ·exact h
theorem zbI (env:Env) (outer:List Env):wu (behindIsImport env outer):=by
 unfold behindIsImport
 split
 ·trivial
 ·split
  ·trivial
  ·exact tb (YQ _ _) fun _=>trivial
theorem zcs:wu underTheClaimsCaller:=tb (fun _=>trivial) fun _=>trivial
theorem TH (env:Env) (i:Bool) (outer:List Env):wu (keptBack env i outer):=by
 cases outer with
 |nil=>
  unfold keptBack
  by_cases h:(env.scope.isGenerator||env.scope.isCoroutine)=true
  ·rw [if_pos h];trivial
  ·rw [if_neg h]
   refine tb zcs fun x=> ?_
   trivial
 |cons c r=>
  unfold keptBack
  trivial
theorem UI:∀l:List Env,wu (readyFrames l)
 |[]=>trivial
 |env::outer=>by
  unfold readyFrames
  split
  ·refine tb (fun o=>trivial) fun o=> ?_
   split
   ·trivial
   ·exact tb (zbI _ _) fun i=>tb (TH _ _ _) fun b=>tb ⟨fun o=>⟨rfl,rfl⟩,fun _=>trivial⟩ fun _=>UI outer
  ·trivial
theorem zaS (env:Env):wu (PySem.frameOf env):=by
 unfold PySem.frameOf
 refine tb (fun x=>trivial) fun l=>tb ?_ fun o=> ?_
 ·generalize List.dropWhile _ l=l'
  unfold frameObject
  cases l' with
  |nil=>trivial
  |cons a r=>exact tb (UI _) fun _=>trivial
 ·split<;>trivial
theorem Ul (f:Addr) (b:Bool):wu (entryPlaceOf f b):=by
 unfold entryPlaceOf
 refine tb (fun x=>trivial) fun l=> ?_
 split<;>trivial
theorem UJ (e:Value) (env:Env):wu (noteFrame e env):=by
 unfold noteFrame
 split
 ·rename_i f _
  have last:∀head:Value,wu (do setField e 1 (←EntryCells.newEntry head (←PySem.frameOf env) .none (rawInt f) .none (←entryPlaceOf f (head != .none)))):=fun head=>
   tb (zaS env) fun a=>tb (Ul _ _) fun pl=>tb (UH _ _) fun b=>Yh _ _ _
  refine tb (YQ _ _) fun head=> ?_
  split
  ·refine tb (YQ _ _) fun x=> ?_
   split
   ·trivial
   ·exact tb (Yh _ _ _) fun _=>last head
  ·exact last head
 ·trivial
theorem zaT (env:Env) (e:Value):wu (leaving env e):=tb (UJ e env) fun _=>UG _ _
end L2
namespace L2
open PySem PySem.Spec PyProof.Rows

theorem xD.there {P:Program} {w:World} {H:Hp} {h:Heap} {a:Addr} {o:HO} (x:xD P w H h a o):∃ob,h.get? a=some ob:=by
 cases o with
 |lst xs=>obtain ⟨_,_,_,_,e⟩:=x;exact ⟨_,e⟩
 |tup xs=>obtain ⟨_,_,_,ob,e,_⟩:=x;exact ⟨_,e⟩
 |dK kvs=>obtain ⟨_,_,_,_,o,_,_,e,_⟩:=x;exact ⟨_,e⟩
 |dT kvs=>obtain ⟨_,_,_,_,o,_,_,e,_⟩:=x;exact ⟨_,e⟩
 |dN kvs=>obtain ⟨_,_,_,_,o,_,_,e,_⟩:=x;exact ⟨_,e⟩
 |set S n=>obtain ⟨o,_,_,_,e,_⟩:=x;exact ⟨_,e⟩
 |ins C dx fs=>obtain ⟨_,_,_,e,_⟩:=x;exact ⟨_,e⟩
 |own y=>obtain ⟨_,e⟩:=x;exact ⟨_,e⟩
 |xd fs=>obtain ⟨_,⟨_,_,_,e,_⟩,_⟩:=x;exact ⟨_,e⟩
 |rng lo hi=>obtain ⟨_,_,_,e⟩:=x;exact ⟨_,e⟩
 |frz ob u=>obtain ⟨e,_⟩:=x;exact ⟨_,e⟩
 |tbl ps=>exact ⟨_,(show h.get? a=some _ from x)⟩
 |met f y=>exact ⟨_,(show h.get? a=some _ from x)⟩
 |ext φ=>obtain ⟨_,⟨_,e⟩,_⟩:=x;exact ⟨_,e⟩

noncomputable def Cov (outer:List Env) (H':Hp) (old h' B:Heap):Prop:=
 (∀b o,(∃o0,old.get? b=some o0)→b∉frs outer→h'.get? b=some o→B.get? b=some o)∧∀b u o,H' b=some u→h'.get? b=some o→B.get? b=some o
structure Fly (P:Program) (w:World) (outer:List Env) (H:Hp) (s:Shared) (e:Addr) (cls:Value) (H':Hp) (s':Shared):Prop where
 os:s'.os=s.os
 bare:AllBare s'.gens
 un:Un (frs outer) [] H H' s.heap s'.heap
 hok:HOk P w H' s'.heap
 fly:∃B t,Heap.FlyingW B outer e cls (.ref t) s'.heap∧Cov outer H' s.heap s'.heap B
 new:s.heap.get? e=none
 free:H' e=none
 nd:∀o,s'.heap.get? e=some o→o.dict=none
noncomputable def CXE (P:Program) (w:World):CXT:=fun outer H s E ev s'=>∃e cls H',ev= .ref e∧Fly P w outer H s e cls H' s'∧E cls none H'

theorem Fly.moved {P:Program} {w:World} {outer:List Env} {H H':Hp} {s s':Shared} {e:Addr} {cls a0:Value} {B h2:Heap} (F:Fly P w outer H s e cls H' s') (fl:Heap.FlyingW B outer e cls a0 s'.heap) (cov:Cov outer H' s.heap s'.heap B)
  (st:B.StaysIn h2) (sm:s'.heap.UpToSlots h2):Un (frs outer) [] H H' s.heap h2∧HOk P w H' h2∧Cov outer H' s.heap h2 B:=by
 have nofs:∀b u,H' b=some u→∃o,s'.heap.get? b=some o∧B.get? b=some o∧h2.get? b=some o:=fun b u q=>by
  obtain ⟨o,e1⟩:=(F.hok b u q).there
  have e2:=cov.2 b u o q e1
  exact ⟨o,e1,e2,st b o e2⟩
 have old:∀b o0,s.heap.get? b=some o0→b∉frs outer→∃o,s'.heap.get? b=some o∧B.get? b=some o∧h2.get? b=some o:=fun b o0 q hb=>by
  obtain ⟨o,e1⟩:=F.un.there b o0 q (by simp)
  have e2:=cov.1 b o ⟨o0,q⟩ hb e1
  exact ⟨o,e1,e2,st b o e2⟩
 have fr:∀b∈frs outer,∃o sl,s'.heap.get? b=some o∧h2.get? b=some {o with slots:=sl}:=fun b hb=>by
  obtain ⟨_,o,e1,d⟩:=fl.2.2.1.mem hb
  obtain ⟨sl,e2⟩:=sm b o e1 d
  exact ⟨o,sl,e1,e2⟩
 refine ⟨⟨fun b o q n hb _=> ?_,fun b o q n hb _=> ?_,fun b o q n hx=>F.un.free b o q n hx,fun b o q _=> ?_,F.un.tups,F.un.frzs,F.un.tbls⟩,fun a u q=> ?_,fun b o q hb e1=> ?_,fun b u o q e1=> ?_⟩
 ·obtain ⟨o1,e1,_,e3⟩:=old b o q hb
  have e4:=F.un.keep b o q n hb (by simp)
  rw [e1] at e4;cases e4
  exact e3
 ·obtain ⟨o1,sl1,e1,e2⟩:=fr b hb
  obtain ⟨sl,e4⟩:=F.un.slot b o q n hb (by simp)
  rw [e1] at e4;cases e4
  exact ⟨sl1,e2⟩
 ·by_cases hb:b∈frs outer
  ·obtain ⟨o1,sl1,e1,e2⟩:=fr b hb
   exact ⟨_,e2⟩
  ·obtain ⟨o1,_,_,e3⟩:=old b o q hb
   exact ⟨_,e3⟩
 ·refine (F.hok a u q).stay (fun b ob hb eb=> ?_) (fun _ z=>z) fun _ _ z=>z
  have:∃u',H' b=some u':=by
   rcases hb with z|z
   ·exact ⟨u,z ▸ q⟩
   ·exact ⟨_,z⟩
  obtain ⟨u',hu⟩:=this
  obtain ⟨o1,e1,_,e3⟩:=nofs b u' hu
  rw [eb] at e1;cases e1
  exact e3
 ·obtain ⟨o0,q⟩:=q
  obtain ⟨o1,_,e2,e3⟩:=old b o0 q hb
  rw [e1] at e3;cases e3
  exact e2
 ·obtain ⟨o1,_,e2,e3⟩:=nofs b u q
  rw [e1] at e3;cases e3
  exact e2

section
variable {P:Program} {w:World} {K:PySem.W.Frag} {mg:Str→Option Value} {base:Heap} {N:List Str} {qual:Str} {scope:Scope} {f:Addr} {cdv:Value} {A:Around} {outer:List Env} {s:Shared} {H:Hp} {E:XK}


theorem zK:zaL (CXE P w) (zbv (CXE P w) P w K mg base N qual scope f cdv A outer s H E) E:=by
 rintro pins σ H1 s1 ev s' I ⟨e,cls,H',rfl,F,hE⟩
 obtain ⟨B,t,fl,cov⟩:=F.fly
 have hfs:∀b∈frs (envOfC qual scope s.heap.objs.size f cdv::outer),b∈s.heap.objs.size::frs outer:=I.stkSub
 refine wpAny_mono (zeJ (zaT _ _) (wpAny_leaves_onW (E:=fun _ _=>False) (Q:=fun _ s''=>∃h',s''={s' with heap:=h'}∧Heap.FlyingW B outer e cls (.ref t) h'∧s'.heap.UpToSlots h') (L:=s.heap.objs.size) I.ok.frames rfl fl fun h' x1 x2=>⟨h',rfl,x1,x2⟩)) (fun _ s3 h3=> ?_) fun _ _ h3=>h3.1.elim
 obtain ⟨⟨h',rfl,x1,x2⟩,kd⟩:=h3
 obtain ⟨un,hok,cov'⟩:=F.moved fl cov x1.1 x2
 have exn:∀b:Addr,b∉(zbv (CXE P w) P w K mg base N qual scope f cdv A outer s H E).ex:=fun b z=>absurd (show b∈([]:List Addr) from z) (by simp)
 have nfs:∀b o,s.heap.get? b=some o→b∉frs outer→b∉frs (envOfC qual scope s.heap.objs.size f cdv::outer):=fun b o q hb hz=>by
  rcases List.mem_cons.mp (hfs b hz) with z|z
  ·exact Nat.ne_of_lt (Heap.lt_size q) z
  ·exact hb z
 have sub:∀b∈frs outer,b∈frs (envOfC qual scope s.heap.objs.size f cdv::outer):=fun b hb=>by
  unfold frs at hb ⊢
  rw [List.filterMap_cons]
  exact List.mem_cons_of_mem _ hb
 refine ⟨e,cls,H',rfl,⟨F.os.trans I.os,F.bare,⟨fun b o q n hb _=> ?_,fun b o q n hb _=> ?_,fun b o q n _=> ?_,fun b o q _=> ?_,fun b xs q=>un.tups b xs (I.base.tups b xs q),fun b o xs q=>un.frzs b o xs (I.base.frzs b o xs q),fun b ps q=> ?_⟩,hok,
  ⟨B,t,x1,fun b o q hb e1=> ?_,cov'.2⟩,?_,F.free,fun o q=> ?_⟩,hE⟩
 ·exact un.keep b o (I.base.keep b o q n hb (exn b)) (I.base.free b o q n (exn b)) (nfs b o q hb) (by simp)
 ·obtain ⟨sl,e1⟩:=I.base.slot b o q n hb (exn b)
  obtain ⟨sl2,e2⟩:=un.slot b _ e1 (I.base.free b o q n (exn b)) (sub b hb) (by simp)
  exact ⟨sl2,e2⟩
 ·obtain ⟨o1,e1⟩:=I.base.there b o q (exn b)
  exact un.free b o1 e1 (I.base.free b o q n (exn b)) (by simp)
 ·obtain ⟨o1,e1⟩:=I.base.there b o q (exn b)
  exact un.there b o1 e1 (by simp)
 ·obtain ⟨m1,e1⟩:=I.base.tbls b ps q
  obtain ⟨m2,e2⟩:=un.tbls b _ e1
  exact ⟨m1++m2,by rw [e2,Array.append_assoc]⟩
 ·obtain ⟨o0,q⟩:=q
  obtain ⟨o1,q1⟩:=I.base.there b o0 q (exn b)
  exact cov'.1 b o ⟨o1,q1⟩ (nfs b o0 q hb) e1
 ·cases q:s.heap.get? e with
  |none=>rfl
  |some o=>
   obtain ⟨o',q'⟩:=I.base.there e o q (exn e)
   have:=F.new
   rw [q'] at this;cases this
 ·obtain ⟨ob,hob,_⟩:=fl.there
  exact (kd.at hob q).1.trans (F.nd ob hob)
end

structure zjN (K:PySem.W.Frag) (mg:Str→Option Value) (x:Str) (C:Addr) (bmB:List Value) (newId:String):Prop where
 mg:mg x=some (.ref C)
 inK:PySem.W.excIn K C bmB newId=true

end L2
namespace L2
open PySem PySem.Spec PyProof.Rows

theorem WI {P:Program} {w:World} {X:Cx}:zaL (CXE P w) X E0:=fun _ _ _ _ _ _ _ ⟨_,_,_,_,_,h⟩=>h.elim

noncomputable abbrev TEx:=St→Hp→VK→(Value→Hp→Prop)→Prop
noncomputable abbrev TAx:=St→Hp→(List V→Hp→Prop)→(Value→Hp→Prop)→Prop
noncomputable abbrev TSx:=VI→(Value→Hp→Prop)→St→Hp→Prop
section
variable {X:Cx} {e:Expr} {es:List Expr} {te:TE}
end

noncomputable def zhM (e:Addr) (cls:Value):HO:= .ext fun h=>∃ob,h.get? e=some ob∧ob.cls=cls∧ob.dict=none∧∃vs,ob.data= .fields vs
noncomputable abbrev Cx.hand (X:Cx) (e:Addr):Cx:={X with A:=X.A.mark (some (.ref e)),calm:=false,xe:=fun _ _=>False}
section
variable {X:Cx} {pins:List (Addr×Obj)} {σ:St} {H:Hp} {s:Shared}
end


end L2
namespace L2
open PySem PySem.Spec PyProof.Rows
open PySem.Builtin.Int (intBits)

noncomputable def zg0 (i j:Int):Prop:=∃m n:Nat,intBits i≤m∧intBits j≤n∧m+n≤134217728
section
variable {X:Cx}
theorem YR:OpR X (binaryOp .Mult) (rI zg0 fun i j=> .int (i*j)):=opI fun _ _ _ _ _ _ _ hc q=>by
 obtain ⟨m,n,h1,h2,h3⟩:=hc
 exact mul_int q (IntMulOk.of_le h1 h2 h3)


end
section
variable {prog:Program} {w:World} {A:Around} {E:Value→Shared→Prop} {s:Shared} {K:PySem.W.Frag} {x D:Addr} {ox:Obj}
theorem zaU {M:Model} {nameV:Value} {Q:Unit→Shared→Prop} (X:K.In s.heap) (I:PySem.W.InstAt s.heap x ox D none) (be:PySem.W.mroIn K D (.type "BaseException")=some true) (hq:Q () s):
  wpAny M A (checkBuiltinCall "BaseException.__getattribute__" ⟨[.ref x,nameV],[]⟩) Q E s:=by
 obtain ⟨hh,g,d,t,os⟩:=s
 have hk:builtinKind "BaseException.__getattribute__"=some .slot:=by decide+kernel
 have hsplit:splitId "BaseException.__getattribute__"=some ("BaseException","__getattribute__"):=by decide+kernel
 have L0:=I.type (M:=M)
 have L1:=PySem.W.looks_mroIn (M:=M) X be
 have ha:=F.args_bexc_ga (.ref x) nameV
 simp only [checkBuiltinCall,hk,hsplit]
 refine wpAny_bind ?_
 unfold isInstance
 refine wpAny_bind (L0.at (L1.at ?_))
 repeat (first|wp_step)
 exact hq
theorem zdZ {Q:Option Value→Shared→Prop} (X:K.In s.heap) (I:PySem.W.InstAt s.heap x ox D none) (ga:PySem.W.findIn K (.ref D) "__getattribute__"=some (some (.builtin "BaseException.__getattribute__"))) (noga:PySem.W.findIn K (.ref D) "__getattr__"=some none)
  (be:PySem.W.mroIn K D (.type "BaseException")=some true) (hf:PySem.W.findObj K D none "__class__"=some (.bind (.builtin "getset_descriptor.__get__") (.builtin "object.__class__"))) (hm:PySem.W.mroIn K D (.type "object")=some true)
  (h:Q (some (.ref D)) {s with toks:=s.toks+1}):wpAny (model prog w) A (getAttr? (.ref x) "__class__") Q E s:=by
 obtain ⟨hh,g,d,t,os⟩:=s
 have L0:=I.type (M:=model prog w)
 have L1:=PySem.W.looks_findIn (M:=model prog w) X ga
 have L2:=PySem.W.looks_findIn (M:=model prog w) X noga
 have L3:=PySem.W.looks_find (M:=model prog w) X I hf
 have hb:=F.attrBase_ValueError.ga.bind (.ref x)
 unfold getAttr? getAttrBy? getAttrBy
 refine wpAny_bind (wpAny_mkText (wpAny_bind (wpAny_attempt (wpAny_holding (wpAny_bind (L0.at (wpAny_bind (L1.at ?_))))))))
 dsimp only
 rw [if_neg (show ¬(onTheHeap (Value.ref D)&&(Value.builtin "BaseException.__getattribute__"==Value.builtin "object.__getattribute__"))=true by rw [show (Value.builtin "BaseException.__getattribute__"==Value.builtin "object.__getattribute__")=false by decide+kernel];simp)]
 unfold getAttrByItsOwn hookBefore
 refine wpAny_bind ?_
 show wpAny _ _ (typeLookup (.ref D) "__getattr__") _ _ _
 refine L2.at ?_
 refine wpAny_bind (wpAny_attempt (wpAny_holding ?_))
 unfold callGetattribute boundAndCalled
 rw [if_neg (by decide),hb]
 refine wpAny_bind (wpAny_pure ?_)
 dsimp only
 refine wpAny_call (codeAny_call_builtin F.attrBase_ValueError.ga.plain F.entry_bexc_ga (zaU (ox:=ox) X I be ?_))
 unfold Builtin.«object.__getattribute__»
 refine wpAny_bind (wpAny_of_eq (show slotArgs "__getattribute__" 1 {pos:=[Value.ref x]++[Value.str (Str.ofString "__class__") t]}=pure (.ref x,[Value.str (Str.ofString "__class__") t]) from rfl) ?_)
 dsimp only
 refine wpAny_bind (wpAny_of_eq (show Builtin.ObjectAttr.attrName (Value.str (Str.ofString "__class__") t)=pure (Str.ofString "__class__") from rfl) ?_)
 refine wpAny_bind (L0.at (wpAny_bind (L3.at ?_)))
 dsimp only
 show wpAny _ _ (do ret (←holding [Value.builtin "object.__class__"] (call (.builtin "getset_descriptor.__get__") [.builtin "object.__class__",.ref x,.ref D]))) _ _ _
 refine wpAny_bind (wpAny_holding (wpAny_call (PySem.W.class_get (ox:=ox) (od:=none) X I hm ?_)))
 exact wpAny_pure (PySem.W.handed_on rfl (wpAny_pure h))
end
section
variable {X:Cx}
structure zg1 (K:PySem.W.Frag) (D:Addr):Prop where
 ga:PySem.W.findIn K (.ref D) "__getattribute__"=some (some (.builtin "BaseException.__getattribute__"))
 noga:PySem.W.findIn K (.ref D) "__getattr__"=some none
 be:PySem.W.mroIn K D (.type "BaseException")=some true
 hc:(PySem.W.clsIn K D).isSome=true
 ha:PySem.W.findIn K (.ref D) "__class__"=some (some (.builtin "object.__class__"))
 hn:PySem.W.specialIn K (.builtin "object.__class__") "__get__"=some (some (.builtin "getset_descriptor.__get__"))
 htk:PySem.W.takesIn K (.builtin "object.__class__")=some true
 hm:PySem.W.mroIn K D (.type "object")=some true
theorem zeK {K:PySem.W.Frag} {x D:Addr} (e:zg1 K D):PySem.W.KitX K (.ref x) (.ref D) (fun h=>∃ox,PySem.W.InstAt h x ox D none) where
 ty:=fun _ _ _ ⟨_,I⟩=>I.type
 it:=fun _ _ X _=>by
  obtain ⟨cd,hcd⟩:=Option.isSome_iff_exists.mp e.hc
  unfold PySem.W.clsIn at hcd
  split at hcd
  ·rename_i ho
   intro A' Q' E' s' k q
   unfold isType loadHead
   exact wpAny_bind (wpAny_loadPart (k _ _ (X _ _ ho)) (wpAny_pure q))
  ·cases hcd
 ne:=fun h tp dd its n sl X htp=>by
  obtain ⟨cd,hcd⟩:=Option.isSome_iff_exists.mp e.hc
  refine Bool.eq_false_iff.mpr fun q=> ?_
  have z:D=tp:=Value.ref.inj (beq_iff_eq.mp q)
  subst z
  unfold PySem.W.clsIn at hcd
  split at hcd
  ·rename_i ho
   have y:=(X _ _ ho).symm.trans htp
   cases y
  ·cases hcd
 ca:=fun {_ _ _ _ _ s} X I k=>by
  obtain ⟨ox,I⟩:=I
  obtain ⟨cd,hcd⟩:=Option.isSome_iff_exists.mp e.hc
  have hf:PySem.W.findObj K D none "__class__"=some (.bind (.builtin "getset_descriptor.__get__") (.builtin "object.__class__")):=by
   unfold PySem.W.findObj
   rw [hcd,Option.bind_some,e.ha,Option.bind_some]
   simp [e.hn,e.htk]
  exact zdZ X I e.ga e.noga e.be hf e.hm k

inductive TyX (K:PySem.W.Frag) (H:Hp):V→Value→Prop where
 |of {x:V} {t:Value} (h:Uj K H x t):TyX K H x t
 |exc {e D:Addr} (h:H e=some (zhM e (.ref D))) (k:zg1 K D):TyX K H (.ref e) (.ref D)
 |sqt {a:Addr} {xs:List V} (h:SqT K H a xs):TyX K H (.ref a) (.type "tuple")
 |sql {a:Addr} {xs:List V} (h:SqL K H a xs):TyX K H (.ref a) (.type "list")
theorem TyX.kit {pins:List (Addr×Obj)} {σ:St} {H:Hp} {s:Shared} {x:V} {u t:Value} (I:Inv X pins σ H s) (rx:yQ x u) (ty:TyX X.K H x t):∃Hh,PySem.W.KitX X.K u t Hh∧Hh s.heap:=by
 cases ty with
 |of ty=>
  cases ty with
  |non=>cases (show u=Value.none from rx);exact ⟨_,PySem.W.kitx_none,True.intro⟩
  |bl y=>cases (show u=Value.bool y from rx);exact ⟨_,PySem.W.kitx_bool,True.intro⟩
  |int i=>obtain ⟨t,q⟩:=(show ∃t,u=Value.int i t from rx);cases q;exact ⟨_,PySem.W.kitx_int,True.intro⟩
  |str y=>obtain ⟨t,q⟩:=(show ∃t,u=Value.str y t from rx);cases q;exact ⟨_,PySem.W.kitx_str,True.intro⟩
  |flt y=>obtain ⟨t,q⟩:=(show ∃t,u=Value.float y t from rx);cases q;exact ⟨_,PySem.W.kitx_float,True.intro⟩
  | @lst a xs ea=>
   cases (show u=Value.ref a from rx)
   obtain ⟨_,_,n,_,h1⟩:=(show xD X.prog X.w H s.heap a (.lst xs) from I.hok a _ ea)
   exact ⟨_,PySem.W.kitx_list,⟨_,h1,rfl⟩⟩
  | @frz a ob xs ea=>
   cases (show u=Value.ref a from rx)
   obtain ⟨_,_,_,n,_,h1⟩:=(show xD X.prog X.w H s.heap a (.frz ob (.lst xs)) from I.hok a _ ea)
   exact ⟨_,PySem.W.kitx_list,⟨_,h1,rfl⟩⟩
  | @tup a xs ea=>
   cases (show u=Value.ref a from rx)
   obtain ⟨_,_,_,p⟩:=(show xD X.prog X.w H s.heap a (.tup xs) from I.hok a _ ea)
   obtain ⟨o,h1,h2,_⟩:=p
   exact ⟨_,PySem.W.kitx_tuple,⟨o,h1,h2⟩⟩
  | @dK a kvs ea=>
   cases (show u=Value.ref a from rx)
   obtain ⟨_,_,vs,_,p⟩:=(show xD X.prog X.w H s.heap a (.dK kvs) from I.hok a _ ea)
   obtain ⟨o,es,ep,h1,h2,_⟩:=p
   exact ⟨_,PySem.W.kitx_dict,⟨o,h1,h2.1⟩⟩
  | @dT a kvs ea=>
   cases (show u=Value.ref a from rx)
   obtain ⟨_,_,xs,_,o,es,ep,h1,h2,_⟩:=(show xD X.prog X.w H s.heap a (.dT kvs) from I.hok a _ ea)
   exact ⟨_,PySem.W.kitx_dict,⟨o,h1,h2.1⟩⟩
  | @ins a C dx fs ea cl ha hn htk hm=>
   cases (show u=Value.ref a from rx)
   obtain ⟨mA,O,_⟩:=zfO I.hok ea
   obtain ⟨od,J,_⟩:=O.look
   exact ⟨_,PySem.W.kitx_own (cl.get _) cl.hd ha hn htk hm,J⟩
 | @sqt a xs h=>
  cases (show u=Value.ref a from rx)
  obtain ⟨its,_,⟨o,h1,h2,_⟩,_⟩:=I.tuple h
  exact ⟨_,PySem.W.kitx_tuple,⟨o,h1,h2⟩⟩
 | @sql a xs h=>
  cases (show u=Value.ref a from rx)
  obtain ⟨its,_,⟨o,n,h1,h2,_⟩,_⟩:=I.list h
  exact ⟨_,PySem.W.kitx_list,⟨o,h1,h2⟩⟩
 | @exc e D h k=>
  cases (show u=Value.ref e from rx)
  obtain ⟨⟨ob,h1,h2,h3,vs,h4⟩,_⟩:=(show xD X.prog X.w H s.heap e (zhM e (.ref D)) from I.hok e _ h)
  refine ⟨_,zeK k,ob,h1,h2,?_,?_⟩
  ·unfold PySem.W.notCls
   rw [h4]
  ·rw [h3];trivial
noncomputable def zi3:V→Option Value
 | .ref a=>some (.ref a)
 | .ty n=>some (.type n)
 |_=>none
theorem zeL {c:V} {cv u:Value} (h:zi3 c=some cv) (r:yQ c u):u=cv:=by
 cases c with
 |ref a=>cases h;exact r
 |ty n=>cases h;exact r
 |_=>cases h
theorem yQ.nb {x:V} {u:Value} (r:yQ x u):u≠ .builtin "__main__.__loader__#opaque":=by
 cases x with
 |non=>rintro rfl;cases r
 |bl b=>rintro rfl;cases r
 |int i=>rintro rfl;obtain ⟨_,q⟩:=r;cases q
 |str i=>rintro rfl;obtain ⟨_,q⟩:=r;cases q
 |byt i=>rintro rfl;obtain ⟨_,q⟩:=r;cases q
 |flt i=>rintro rfl;obtain ⟨_,q⟩:=r;cases q
 |ref a=>rintro rfl;cases r
 |ty a=>rintro rfl;cases r
noncomputable def zf4 (K:PySem.W.Frag):List V→Hp→VK→Prop:=fun xs H Q=>∃x c cv t b,xs=[x,c]∧zi3 c=some cv∧TyX K H x t∧PySem.W.kitOne K t cv=some b∧Q (.bl b) H
theorem zeM:vD X (.builtin "isinstance") (zf4 X.K):=by
 intro pins s σ H xs us Q I r h
 obtain ⟨x,c,cv,t,b,rfl,hc,ty,e,q⟩:=h
 obtain ⟨u,w',rfl,ru,rw'⟩:=zc5 r
 obtain rfl:=zeL hc rw'
 obtain ⟨Hh,Z,p⟩:=ty.kit I ru
 exact PySem.W.kia_one Z I.kIn p e ru.nb fun tk=>⟨.bl b,H,I.tok tk,rfl,q⟩
end
theorem UK {K:PySem.W.Frag} {t:Value}:PySem.W.kitOne K t t=some true:=by unfold PySem.W.kitOne;rw [if_pos (by simp)]
theorem zaV {K:PySem.W.Frag}:PySem.W.kitOne K (.type "bool") (.type "int")=some true:=by
 have h:(fastBuiltinMro "bool").map (·.contains (.type "int"))=some true:=by decide+kernel
 have hm:PySem.W.kitMeta "int"=true:=by decide+kernel
 unfold PySem.W.kitOne PySem.W.kitCls
 rw [if_neg (by decide)]
 show (if PySem.W.kitMeta "int"=true then PySem.W.subIn K (.type "bool") (.type "int") else none)=_
 rw [if_pos hm]
 exact h
theorem zaW {K:PySem.W.Frag}:PySem.W.kitOne K (.type "int") (.type "bool")=some false:=by
 have h:(fastBuiltinMro "int").map (·.contains (.type "bool"))=some false:=by decide+kernel
 have hm:PySem.W.kitMeta "bool"=true:=by decide+kernel
 unfold PySem.W.kitOne PySem.W.kitCls
 rw [if_neg (by decide)]
 show (if PySem.W.kitMeta "bool"=true then PySem.W.subIn K (.type "int") (.type "bool") else none)=_
 rw [if_pos hm]
 exact h
end L2
namespace L2
open PySem PySem.Spec PyProof.Rows

inductive D where
 |non|bl (b:Bool)|int (i:Int)|str (x:Str)|tup (l:List D)|lst (l:List D)|ins (C:Addr) (ns:List Str) (l:List D)
mutual
inductive Is (K:PySem.W.Frag) (H:Hp):V→D→Prop where
 |non:Is K H .non .non
 |bl (b:Bool):Is K H (.bl b) (.bl b)
 |int (i:Int):Is K H (.int i) (.int i)
 |str (x:Str):Is K H (.str x) (.str x)
 |tup {a:Addr} {xs:List V} {ds:List D}:SqT K H a xs→IsL K H xs ds→Is K H (.ref a) (.tup ds)
 |lst {a:Addr} {xs:List V} {ds:List D}:SqL K H a xs→IsL K H xs ds→Is K H (.ref a) (.lst ds)
 |ins {a C dx:Addr} {ns:List Str} {xs:List V} {ds:List D}:H a=some (.ins C dx (ns.zip xs))→ns.length=xs.length→IsL K H xs ds→Is K H (.ref a) (.ins C ns ds)
inductive IsL (K:PySem.W.Frag) (H:Hp):List V→List D→Prop where
 |nil:IsL K H [] []
 |cons {v:V} {d:D} {vs:List V} {ds:List D}:Is K H v d→IsL K H vs ds→IsL K H (v::vs) (d::ds)
end
theorem Zx {H:Hp} {p:Addr} {o:HO} (h:H p=none):Vg H (upd H p o):=fun b u e=>by rw [xa (vh e h)];exact e

noncomputable abbrev dQ (a b:Int):D:= .tup [.int a,.int b]


section
variable {σ:St} {H:Hp} {Q:VK} {ta tb tc:TE} {D':VI} {v:V} {i:Nat}
end
local macro_rules | `(tactic| walk_at "rd") => `(tactic| repeat (first | refine i_seq ?_ | refine i_asg ?_ | refine i_gName ?_ | refine i_var rfl ?_ | refine i_c ?_ | refine i_op ?_ | refine i_I0 ?_ | refine i_U ?_ | refine i_un ?_ | refine i_cmp ?_ | refine i_2 ?_ | refine i_B ?_ | refine i_bl ?_ | refine i_not ?_ | refine i_and ?_ | refine i_or ?_ | refine i_andV ?_ | refine i_orV ?_ | refine i_notV ?_ | refine i_ifE ?_ | refine i_next ?_ | refine i_drop ?_ | refine i_ret ?_ | refine i_retN ?_ | refine i_ifS ?_ | refine i_nil ?_ | refine i_cons ?_ | refine i_call ?_ | refine i_CB ?_ | refine i_tup ?_ | refine i_lst ?_ | refine i_par ?_ | refine i_par2 ?_ | refine i_raise ?_))
end L2
namespace L2
open PySem PySem.Spec PyProof.Rows
section
variable {σ:St} {H:Hp} {Q:VK} {D':VI} {E:XK}
end
theorem Fun.okE {P:Program} {w:World} {K:PySem.W.Frag} {mg:Str→Option Value} {base:Heap} {x qual:Str} {st:Stmt} {f:Addr} {fd:FuncData} {N ps:List Str} {k:Nat} {sp:Sp} (F:Fun K x qual st f fd) (S:yb N ps (zB st)) (len:∀vs H Q E,sp vs H Q E→vs.length=ps.length)
  (hbody:∀(cdv:Value) (A:Around) (outer:List Env) (s:Shared) (H:Hp) (vs:List V) (Q:VK) (E:XK),XE k (A.deeper (envOfC qual (zB st) s.heap.objs.size f cdv))→sp vs H Q E→
   ∃t,PSs (zbv (CXE P w) P w K mg base N qual (zB st) f cdv A outer s H E) (YN st) t∧t {nx:=fun _ H'=>Q .non H',rt:=Q} (XJ N vs) H):yZ P w K mg base (CXE P w) (k+1) f fd ps sp:=by
 obtain ⟨oc,od,kV,doc,pm,an,cdv,ct,osl,rfl,lk,hcd⟩:=F.ex
 exact ziW lk hcd S len fun A outer s H vs Q E hr hsp=>hbody cdv A outer s H vs Q E hr hsp
end L2
namespace L2
open PySem PySem.Spec PyProof.Rows
section
variable {σ:St} {H:Hp} {Q:VK} {D':VI} {E:XK} {EX:Value→Hp→Prop}
end
end L2
namespace L2
open PySem PySem.Spec PyProof.Rows
section
variable {X:Cx} {K:PySem.W.Frag}
theorem zV (h:X.K=K:=by rfl):IxR X (zhF K):=h ▸ zhG
theorem xq (h:X.K=K:=by rfl):IxR X (zhE K):=h ▸ zfU
theorem Wu (h:X.K=K:=by rfl):vD X (.builtin "isinstance") (zf4 K):=h ▸ zeM
theorem yv (h:X.K=K:=by rfl):vD X (.builtin "len") (fun xs H Q=>∃p ys,xs=[.ref p]∧(SqL K H p ys∨SqT K H p ys)∧Q (.int ys.length) H):=h ▸ zaP
theorem zct (h:X.K=K:=by rfl):vD X (.type "list") (fun xs H Q=>∃p ys,xs=[.ref p]∧(SqL K H p ys∨SqT K H p ys)∧∀l,H l=none→Q (.ref l) (upd H l (.lst ys))):=h ▸ zaQ
theorem yG (h:X.K=K:=by rfl):vD X (.type "tuple") (fun xs H Q=>∃p ys,xs=[.ref p]∧((SqL K H p ys∧∀l,H l=none→Q (.ref l) (upd H l (.tup ys)))∨(SqT K H p ys∧Q (.ref p) H))):=h ▸ TB
theorem zeN (h:X.K=K:=by rfl):OpR X (compareOp .In) (rIn K false):=h ▸ zdS
theorem zax (h:X.K=K:=by rfl):OpR X (compareOp .NotIn) (rIn K true):=h ▸ zaO
theorem Zy (h:X.K=K:=by rfl):SlR X (zeB K):=h ▸ zfV
variable {tg l:Expr} {tl:TE}
theorem UL (hl:PE X l tl) (h:X.K=K:=by rfl):PI X tg l (zeu K tl):=h ▸ zfN hl
theorem wN (hl:PE X l tl) (h:X.K=K:=by rfl):PI X tg l (zhv K tl):=h ▸ zhw hl
theorem we {es:List Expr} {k:Nat} {t:TGs} {n:Nat} {pos:Pos} (hc:X.calm=true) (h:PGs X es t) (hK:X.K=K:=by rfl)
  (hn:(assignEach es X.env).length=n:=by rfl) (hst:(assignEach es X.env).findIdx? (·.1)=none:=by rfl):PG X (.Tuple es k pos) (zhs K n t):=hK ▸ zht hc h hn hst
theorem yU {sc:Scope}:wM X sc [] []:=trivial
theorem yV {sc:Scope} {r:List (Option Nat)} {n:List Str} {x:Str} (h:wM X sc r n):wM X sc (none::r) (x::n):=h
theorem Zf {sc:Scope} {r:List (Option Nat)} {n:List Str} {x:Str} {i:Nat} (h1:X.N[i]? =some x) (h2:sc.names.lookup x=some .free) (h:wM X sc r n):wM X sc (some i::r) (x::n):=⟨⟨h1,h2⟩,h⟩
end
noncomputable def zg2 (osc sc:Scope):Bool:=sc.names.all (fun y=>y.2 != .cell)&&sc.kind== .function&&sc.names.all (fun y=>y.2 != .local||sc.names.lookup y.1==some .local)&&
 sc.names.all (fun y=>y.2 != .free||(osc.names.lookup y.1==some .cell||osc.names.lookup y.1==some .free))
theorem blk {X:Cx} {osc sc:Scope} (hs:X.env.scope=osc) (h:zg2 osc sc=true):Wt X sc:=by
 unfold zg2 at h
 simp only [Bool.and_eq_true,List.all_eq_true,bne_iff_ne,ne_eq,beq_iff_eq,Bool.or_eq_true] at h
 obtain ⟨⟨⟨h1,h2⟩,h3⟩,h4⟩:=h
 refine ⟨h1,h2,fun y hy e=>(h3 y hy).resolve_left fun z=>z e,fun y hy e=> ?_⟩
 show X.env.scope.names.lookup y.1=_∨X.env.scope.names.lookup y.1=_
 rw [hs]
 exact (h4 y hy).resolve_left fun z=>z e
end L2
namespace L2
open PySem PySem.Spec PyProof.Rows
section
variable {g:TG} {tb:TS} {σ:St} {H:Hp} {nx:St→Hp→Prop} {rt:VK}
end
end L2
namespace L2
open PySem PySem.Spec PyProof.Rows

mutual
noncomputable def D.depth:D→Nat
 | .tup l=>D.depths l+1
 | .lst l=>D.depths l+1
 | .ins _ _ _=>1000
 |_=>0
noncomputable def D.depths:List D→Nat
 |[]=>0
 |d::r=>max (D.depth d) (D.depths r)
end
section
variable {X:Cx} {pins:List (Addr×Obj)} {σ:St} {H:Hp} {s:Shared}
end
end L2
namespace L2
open PySem PySem.Spec PyProof.Rows
section
variable {σ:St} {H:Hp} {Q:VK} {D':VI} {cap:List (Option Nat)} {wi:TI} {g:TG} {tt:TT} {te:TE}
variable {acc:Addr} {H0:Hp} {Qh:Hp→Prop}
end
end L2
namespace L2
open PySem PySem.Spec PyProof.Rows
section
variable {X:Cx}
end
end L2
namespace L2
open PySem PySem.Spec PyProof.Rows
section
variable {X:Cx} {pins:List (Addr×Obj)} {σ:List (Option V)} {H H':Hp} {s:Shared} {h':Heap}
end
end L2
namespace L2
open PySem PySem.Spec PyProof.Rows
section
variable {X:Cx}
end
structure ZA (z TI TO i1 i2:Addr):Prop where
 TIz:TI≠z
 TOz:TO≠z
 i1z:i1≠z
 i2z:i2≠z
 TITO:TI≠TO
 TIi1:TI≠i1
 TIi2:TI≠i2
 TOi1:TO≠i1
 TOi2:TO≠i2
 i12:i1≠i2
section
variable {X:Cx}
end
section
variable {σ:St} {H:Hp} {cap:List (Option Nat)} {g:TG} {tt:TT} {te:TE} {acc:Addr} {H0:Hp} {Qh:Hp→Prop}
structure zjT (J:It) (n:Nat) (f:Nat→Option (V×V)) (ok:Hp→Prop):Prop where
 go:∀i H,ok H→i<n→J.go i H
 stop:∀H,ok H→J.stop n H
 yld:∀i H x H',ok H→i<n→J.yld i H x H'→∃p u v,x= .ref p∧H p=none∧H'=upd H p (.tup [u,v])∧f i=some (u,v)
end
end L2
namespace L2
open PySem PySem.Spec PyProof.Rows
section
variable {σ:St} {H:Hp} {Q:VK} {D':VI}
end
section
variable {σ:St} {H:Hp} {Q:VK}
end
end L2
namespace L2
open PySem PySem.Spec PyProof.Rows
open Classical in
noncomputable def frG (H H':Hp):Hp:=fun b=>match H' b with
 |some (.lst xs)=>if H b=none then some (.lst xs) else none
 |o=>o
noncomputable def Dom (H H':Hp):Prop:=∀b,H' b=none→H b=none
structure Acc (K:PySem.W.Frag) (H0:Hp) (acc:Addr) (ys:List V) (ds:List D) (H:Hp):Prop where
 at_:H acc=some (.lst ys)
 new:IsL K (frG (upd H0 acc (.lst [])) H) ys ds
 same:Vg H0 H
 dom:Dom (upd H0 acc (.lst [])) H
end L2
namespace L2
open PySem PySem.Spec PyProof.Rows
section
variable {X:Cx}
theorem VO (ns:List Int):∀k,preSum (fun i=>ns.getD i 0) k=(ns.take k).sum
 |0=>by simp [preSum]
 |k+1=>by
  unfold preSum
  rw [VO ns k,List.take_add_one,List.sum_append]
  cases h:ns[k]? <;>simp [List.getD_eq_getElem?_getD,h]
noncomputable def zi4 (K:PySem.W.Frag):List V→Hp→VK→Prop:=fun xs H Q=>∃(p:Addr) (ns:List Int),xs=[.ref p]∧SqL K H p (ns.map V.int)∧Q (.int ns.sum) H
theorem VP {K:PySem.W.Frag} (hc:X.calm=true) (hK:X.K=K:=by rfl):vD X (.builtin "sum") (zi4 K):=by
 subst hK
 intro pins s σ H xs us Q I r h
 obtain ⟨p,ns,rfl,hq,q⟩:=h
 obtain ⟨u,rfl,ru⟩:=WF r
 cases ru
 obtain ⟨its,rv,pl,hz⟩:=I.list hq
 have lt:p<s.heap.objs.size:=by
  obtain ⟨o,n,e,_⟩:=id pl
  exact Heap.lt_size e
 have hl:=rv.length
 rw [List.length_map] at hl
 refine call_sum_walkAnyS (wpAny_pyIter_list pl.isList ?_)
 have W:=(Walks.list (prog:=X.prog) (w:=X.w) (A:=X.A.in1) (I.ok.hd hc) s.heap.objs.size p (Nat.ne_of_lt lt) its.toArray).toS
 refine ⟨s.heap.objs.size,_,_,_,_,_,_,fun i=>ns.getD i 0,rfl,W,?_,?_,?_,?_⟩
 ·exact ⟨⟨_,Heap.get?_push_size _ rfl,rfl,rfl⟩,Heap.IsList.push pl.isList _⟩
 ·intro b hb
  rw [Heap.size_push]
  rcases (by simpa using hb:b=s.heap.objs.size∨b=p) with rfl|rfl
  ·exact Nat.lt_succ_self _
  ·exact Nat.lt_succ_of_lt lt
 ·intro i v hv
  have hv:its[i]? =some v:=by simpa using hv
  have hi:i<ns.length:=by rw [hl];exact (List.getElem?_eq_some_iff.1 hv).1
  obtain ⟨u,hu,t,ru⟩:=rv.get (i:=i) (x:=V.int ns[i]) (by rw [List.getElem?_map,List.getElem?_eq_getElem hi];rfl)
  rw [hu] at hv
  cases hv
  refine ⟨t,?_⟩
  rw [ru]
  show Value.int ns[i] t=Value.int (ns.getD i 0) t
  rw [List.getD_eq_getElem?_getD,List.getElem?_eq_getElem hi,Option.getD_some]
 ·intro s' t' m
  have I1:Inv X pins σ H {s with heap:=s'.heap,toks:=s'.toks}:=I.kept fun b o e=>m.heap b o (fun z=>by
   have z:b=s.heap.objs.size:=by simpa using z
   exact absurd (Heap.lt_size e) (by rw [z];exact Nat.lt_irrefl _)) (Heap.get?_push_of_some _ e)
  have e:({s with heap:=s'.heap,toks:=s'.toks}:Shared)=s':=by
   have h1:=m.gens
   have h2:=m.drawn
   have h3:=m.os
   cases s'
   simp only at h1 h2 h3
   subst h1 h2 h3
   rfl
  rw [e] at I1
  refine ⟨.int ns.sum,H,I1,⟨t',?_⟩,q⟩
  rw [VO]
  have:its.toArray.size=ns.length:=by rw [List.size_toArray,←hl]
  rw [this,List.take_length]
end
section
variable {σ:St} {H:Hp} {Q:VK}
end
end L2
namespace L2
open PySem PySem.Spec PyProof.Rows
section
variable {σ:St} {H:Hp} {v:V}
end
end L2
namespace L2
open PySem PySem.Spec PyProof.Rows PyProof
section
variable {X:Cx}
noncomputable def zf5:V→Option Int→Option Int→Hp→VK→Prop:=fun x lo hi H Q=>∃z,x= .str z∧z.length≤sizeLine∧Q (.str (Txt.slice z lo hi)) H
theorem zhN:SlR X zf5:=by
 intro pins s σ H x v vl vu lo hi sl Q I rx hs pl pu h
 obtain ⟨z,rfl,hz,q⟩:=h
 obtain ⟨t,rfl⟩:=rx
 refine ⟨"str",_,F.slot_str_getitem.lookup,typeIs_str _ _ _,?_⟩
 obtain ⟨l,hl1,hl2⟩:∃l:Option (Int×Tok),vl=partValue l∧l.map (·.1)=lo:=by
  cases pl with
  |none=>exact ⟨none,rfl,rfl⟩
  |int i t=>exact ⟨some (i,t),rfl,rfl⟩
 obtain ⟨u,hu1,hu2⟩:∃l:Option (Int×Tok),vu=partValue l∧l.map (·.1)=hi:=by
  cases pu with
  |none=>exact ⟨none,rfl,rfl⟩
  |int i t=>exact ⟨some (i,t),rfl,rfl⟩
 subst hl1 hu1 hl2 hu2
 exact wpAny_getItem_str_slice (l:=l) (u:=u) (st:=none) hs rfl (post_val_or_str ⟨Nat.le_trans (Txt.slice_le z _ _) hz,fun t' k=>⟨.str _,H,I.tok _,⟨_,rfl⟩,q⟩⟩)
theorem zhO {K:PySem.W.Frag} {a b:String} (h1:(Value.type a==Value.type b)=false) (h:(fastBuiltinMro a).map (·.contains (.type b))=some false) (hm:PySem.W.kitMeta b=true) (hs:PySem.W.subIn K (.type a) (.type b)=(fastBuiltinMro a).map (·.contains (.type b))):PySem.W.kitOne K (.type a) (.type b)=some false:=by
 unfold PySem.W.kitOne PySem.W.kitCls
 rw [if_neg (by rw [h1];decide)]
 show (if PySem.W.kitMeta b=true then PySem.W.subIn K (.type a) (.type b) else none)=_
 rw [if_pos hm,hs,h]
end
end L2
namespace L2
open PySem PySem.Spec PyProof.Rows
open AutoSeq1 (wpAny_loadPart')
section
variable {prog:Program} {w:World} {A:Around} {E:Value→Shared→Prop} {s:Shared}
end
section
variable {X:Cx}
end
end L2
namespace L2
open PySem PySem.Spec PyProof.Rows
section
variable {prog:Program} {w:World} {A:Around} {E:Value→Shared→Prop} {s:Shared}
noncomputable abbrev zT1 (h:Heap) (l1:Addr):Heap:=h.push {cls:= .type "tuple_iterator",data:= .fields #[.ref l1,.int 0 0]}
noncomputable abbrev zT2 (h:Heap) (l1 l2:Addr):Heap:=(zT1 h l1).push {cls:= .type "tuple_iterator",data:= .fields #[.ref l2,.int 0 0]}
noncomputable abbrev zT3 (h:Heap) (l1 l2:Addr):Heap:=(zT2 h l1 l2).push {cls:= .type "tuple",data:= .seq #[.ref h.objs.size,.ref (zT1 h l1).objs.size]}
noncomputable abbrev zT4 (h:Heap) (l1 l2:Addr):Heap:=(zT3 h l1 l2).push {cls:= .type "tuple",data:= .seq #[.none,.none]}
noncomputable abbrev zT5 (h:Heap) (l1 l2:Addr):Heap:=(zT4 h l1 l2).push {cls:= .type "zip",data:= .fields #[.none,.bool false,.bool false,.ref (zT2 h l1 l2).objs.size,.ref (zT3 h l1 l2).objs.size]}
end
section
variable {X:Cx}
end
end L2
namespace L2
open PySem PySem.Spec PyProof.Rows
mutual
noncomputable def D.small (n:Nat):D→Prop
 | .int i=>i.natAbs<2^n
 | .tup l=>D.smalls n l
 | .lst l=>D.smalls n l
 | .non=>True
 | .bl _=>True
 | .str _=>False
 | .ins _ _ _=>False
noncomputable def D.smalls (n:Nat):List D→Prop
 |[]=>True
 |d::r=>D.small n d∧D.smalls n r
end
mutual
noncomputable def D.wt (n:Nat):D→Nat
 | .tup l=>D.wts n l
 | .lst l=>D.wts n l
 | .int _=>n
 |_=>0
noncomputable def D.wts (n:Nat):List D→Nat
 |[]=>0
 |d::r=>D.wt n d+1+D.wts n r
end
section
variable {X:Cx} {pins:List (Addr×Obj)} {σ:St} {H:Hp} {s:Shared}
end
structure zjO (n:Nat) (d:D):Prop where
 seq:∃l,d= .tup l∨d= .lst l
 small:D.small n d
 n0:8≤n
 n1:n≤1900
 deep:D.depth d≤40
 size:(n+3)*D.wt n d+n+1≤16777216
section
variable {X:Cx}
end
end L2
namespace L2
open PySem PySem.Spec PyProof.Rows
noncomputable abbrev zi5 (t:Addr) (i:Int):Obj:={cls:= .type "reversed",data:= .fields #[.ref t,rawInt i]}
noncomputable abbrev zjX (h:Heap) (a t:Addr) (i:Int):Prop:=h.get? a=some (zi5 t i)
section
variable {prog:Program} {w:World} {A:Around} {E:Value→Shared→Prop} {s:Shared}
end
section
variable {X:Cx} {tg:Expr}
noncomputable def zg3 (K:PySem.W.Frag):R2:=fun x y H Q=>∃a b xs ys,x= .ref a∧y= .ref b∧SqT K H a xs∧SqT K H b ys∧xs.length+ys.length≤sizeLine∧(xs=[]→Q (.ref b) H)∧(xs≠[]→ys=[]→Q (.ref a) H)∧(xs≠[]→ys≠[]→∀p,H p=none→Q (.ref p) (upd H p (.tup (xs++ys))))
theorem wC {K:PySem.W.Frag} (hK:X.K=K:=by rfl):OpR X (binaryOp .Add) (zg3 K):=by
 subst hK
 intro pins s σ H x y v u Q I rx ry h
 obtain ⟨a,b,xs,ys,e1,e2,ha,hb,hz,q1,q2,q3⟩:=h
 by_cases hx:xs=[]
 ·subst e1 e2
  cases rx
  cases ry
  obtain ⟨its,r1,p1,_⟩:=I.tuple ha
  obtain ⟨its2,r2,p2,_⟩:=I.tuple hb
  obtain ⟨⟨cls,dd,data,sl⟩,ho,hc,n,hd⟩:=id p1
  obtain ⟨⟨cls2,dd2,data2,sl2⟩,ho2,hc2,n2,hd2⟩:=id p2
  simp only at hc hd hc2 hd2
  subst hc hd hc2 hd2
  exact concat_meets ⟨_,ho,rfl⟩ ⟨_,ho2,rfl⟩ noFill_tuple_add seq_tuple_add PySem.F.slot_tuple_add PySem.F.entry_tuple_add (PySem.F.args_tuple_add_2 _ _) (tuple_addW0 a b its.toArray its2.toArray n n2 dd dd2 sl sl2 (by have:=r1.nil_iff.mpr hx;simp [this])) ⟨ho,ho2,⟨.ref b,H,I,rfl,q1 hx⟩⟩
 ·exact zfS pins s σ H x y v u Q I rx ry ⟨a,b,xs,ys,e1,e2,ha,hb,hx,hz,q2 hx,q3 hx⟩
end
end L2
namespace L2
open PySem PySem.Spec PyProof.Rows PyProof
section
variable {X:Cx}
noncomputable def zg4 (K:PySem.W.Frag):List V→Hp→VK→Prop:=fun xs H Q=>∃(p:Addr) (ns:List Int),xs=[.ref p]∧SqT K H p (ns.map V.int)∧Q (.int ns.sum) H
theorem zcu {K:PySem.W.Frag} (hc:X.calm=true) (hK:X.K=K:=by rfl):vD X (.builtin "sum") (zg4 K):=by
 subst hK
 intro pins s σ H xs us Q I r h
 obtain ⟨p,ns,rfl,hq,q⟩:=h
 obtain ⟨u,rfl,ru⟩:=WF r
 cases ru
 obtain ⟨its,rv,pl,hz⟩:=I.tuple hq
 have lt:p<s.heap.objs.size:=pl.lt
 have hl:=rv.length
 rw [List.length_map] at hl
 have pl':s.heap.IsTuple p its.toArray:=pl
 refine call_sum_walkAnyS (wpAny_pyIter_tuple pl' ?_)
 have W:=(Walks.tuple (prog:=X.prog) (w:=X.w) (A:=X.A.in1) (I.ok.hd hc) s.heap.objs.size p (Nat.ne_of_lt lt) its.toArray).toS
 refine ⟨s.heap.objs.size,_,_,_,_,_,_,fun i=>ns.getD i 0,rfl,W,?_,?_,?_,?_⟩
 ·exact ⟨⟨_,Heap.get?_push_size _ rfl,rfl,rfl⟩,IsTup.push pl _⟩
 ·intro b hb
  rw [Heap.size_push]
  rcases (by simpa using hb:b=s.heap.objs.size∨b=p) with rfl|rfl
  ·exact Nat.lt_succ_self _
  ·exact Nat.lt_succ_of_lt lt
 ·intro i v hv
  have hv:its[i]? =some v:=by simpa using hv
  have hi:i<ns.length:=by rw [hl];exact (List.getElem?_eq_some_iff.1 hv).1
  obtain ⟨u,hu,t,ru⟩:=rv.get (i:=i) (x:=V.int ns[i]) (by rw [List.getElem?_map,List.getElem?_eq_getElem hi];rfl)
  rw [hu] at hv
  cases hv
  refine ⟨t,?_⟩
  rw [ru]
  show Value.int ns[i] t=Value.int (ns.getD i 0) t
  rw [List.getD_eq_getElem?_getD,List.getElem?_eq_getElem hi,Option.getD_some]
 ·intro s' t' m
  have I1:Inv X pins σ H {s with heap:=s'.heap,toks:=s'.toks}:=I.kept fun b o e=>m.heap b o (fun z=>by
   have z:b=s.heap.objs.size:=by simpa using z
   exact absurd (Heap.lt_size e) (by rw [z];exact Nat.lt_irrefl _)) (Heap.get?_push_of_some _ e)
  have e:({s with heap:=s'.heap,toks:=s'.toks}:Shared)=s':=by
   have h1:=m.gens
   have h2:=m.drawn
   have h3:=m.os
   cases s'
   simp only at h1 h2 h3
   subst h1 h2 h3
   rfl
  rw [e] at I1
  refine ⟨.int ns.sum,H,I1,⟨t',?_⟩,q⟩
  rw [VO]
  have:its.toArray.size=ns.length:=by rw [List.size_toArray,←hl]
  rw [this,List.take_length]
theorem zay (a:Array Nat):∀m:Nat,(List.range m).filterMap (fun i=>a[i]?)=a.toList.take m
 |0=>rfl
 |m+1=>by
  rw [List.range_succ,List.filterMap_append,zay a m,List.take_add_one]
  rw [Array.getElem?_toList]
  cases h:a[m]? <;>simp [h]
theorem VQ {z:Str} (h:1≤z.length):(Txt.slice z none (some (-1))).cps.toList=z.cps.toList.take (z.length-1):=by
 have hl:z.length=z.cps.size:=rfl
 have e1:PySem.Builtin.Str.strSliceIndices none (some (-1)) 1 z.length=List.range (z.length-1):=by
  unfold PySem.Builtin.Str.strSliceIndices sliceRange
  simp only [show (1:Int)>0 by decide,if_true,show (-1:Int)<0 by decide]
  have e2:max 0 (min (-1+(z.length:Int)) (z.length:Int))=((z.length-1:Nat):Int):=by omega
  rw [e2]
  have e3:(if (0:Int)<((z.length-1:Nat):Int) then (((z.length-1:Nat):Int)-0+1-1) / 1 else 0).toNat=z.length-1:=by
   rw [Int.ediv_one]
   split<;>omega
  rw [e3]
  conv=>rhs;rw [←List.map_id (List.range (z.length-1))]
  refine List.map_congr_left fun k _=> ?_
  show (0+1*(k:Int)).toNat=k
  omega
 unfold Txt.slice
 rw [e1]
 split
 ·rename_i hh
  rw [List.length_range] at hh
  simp at hh
  omega
 ·show (List.filterMap _ _).toArray.toList=_
  rw [List.toList_toArray]
  exact zay z.cps (z.length-1)
end
end L2
namespace L2
open PySem PySem.Spec PyProof.Rows
section
variable {X:Cx}
noncomputable def zi6 (K:PySem.W.Frag):List V→Hp→VK→Prop:=fun xs H Q=>∃(p:Addr) (bs:List Bool),xs=[.ref p]∧SqL K H p (bs.map V.bl)∧Q (.bl (bs.all id)) H
theorem zd0:∀(bs:List Bool),(List.range bs.length).all (fun i=>bs.getD i false)=bs.all id:=fun bs=>by
 rw [Bool.eq_iff_iff,List.all_eq_true,List.all_eq_true]
 constructor
 ·intro h b hb
  obtain ⟨i,hi,e⟩:=List.mem_iff_getElem.1 hb
  have:=h i (List.mem_range.2 hi)
  rw [List.getD_eq_getElem?_getD,List.getElem?_eq_getElem hi,Option.getD_some,e] at this
  exact this
 ·intro h i hi
  have hi:=List.mem_range.1 hi
  rw [List.getD_eq_getElem?_getD,List.getElem?_eq_getElem hi,Option.getD_some]
  exact h _ (List.getElem_mem hi)
theorem zcv {pins:List (Addr×Obj)} {σ:St} {H:Hp} {s:Shared} {p:Addr} {bs:List Bool} (hc:X.calm=true) (I:Inv X pins σ H s) (hq:SqL X.K H p (bs.map V.bl)) {R:Value→Shared→Prop}
  (k:∀Ia fp wr G n P St tr (s₂:Shared),WalksS X.prog X.w X.A.in1 Ia fp wr G n P St→St 0 s₂→TruthOf X.prog X.w X.A.in1 P tr→n=bs.length→(tr=fun i=>bs.getD i false)→(∀s',Moved wr G s₂ s'→Inv X pins σ H s')→R (.ref Ia) s₂):
  wpAny (model X.prog X.w) X.A.in1 (pyIter (.ref p)) R X.xe s:=by
 obtain ⟨its,rv,pl,hz⟩:=I.list hq
 have lt:p<s.heap.objs.size:=by
  obtain ⟨o,n,e,_⟩:=id pl
  exact Heap.lt_size e
 have hl:=rv.length
 rw [List.length_map] at hl
 refine wpAny_pyIter_list pl.isList ?_
 have W:=(Walks.list (prog:=X.prog) (w:=X.w) (A:=X.A.in1) (I.ok.hd hc) s.heap.objs.size p (Nat.ne_of_lt lt) its.toArray).toS
 refine k s.heap.objs.size _ _ _ _ _ _ (fun i=>bs.getD i false) _ W ?_ ?_ ?_ rfl ?_
 ·exact ⟨⟨_,Heap.get?_push_size _ rfl,rfl,rfl⟩,Heap.IsList.push pl.isList _⟩
 ·intro i v s Q E hv hQ
  have hv:its[i]? =some v:=by simpa using hv
  have hi:i<bs.length:=by rw [hl];exact (List.getElem?_eq_some_iff.1 hv).1
  obtain ⟨u,hu,ru⟩:=rv.get (i:=i) (x:=V.bl bs[i]) (by rw [List.getElem?_map,List.getElem?_eq_getElem hi];rfl)
  have e0:u=v:=by
   rw [hu] at hv
   exact Option.some.inj hv
  have ru:u=Value.bool bs[i]:=ru
  rw [←e0,ru]
  refine wpAny_truthy_bool ?_
  have e:bs.getD i false=bs[i]:=by rw [List.getD_eq_getElem?_getD,List.getElem?_eq_getElem hi,Option.getD_some]
  rw [←e]
  exact hQ
 ·rw [List.size_toArray,←hl]
 ·intro s' m
  have I1:Inv X pins σ H {s with heap:=s'.heap,toks:=s'.toks}:=I.kept fun b o e=>m.heap b o (fun z=>by
   have z:b=s.heap.objs.size:=by simpa using z
   exact absurd (Heap.lt_size e) (by rw [z];exact Nat.lt_irrefl _)) (Heap.get?_push_of_some _ e)
  have e:({s with heap:=s'.heap,toks:=s'.toks}:Shared)=s':=by
   have h1:=m.gens
   have h2:=m.drawn
   have h3:=m.os
   cases s'
   simp only at h1 h2 h3
   subst h1 h2 h3
   rfl
  rw [e] at I1
  exact I1
theorem Yz {K:PySem.W.Frag} (hc:X.calm=true) (hK:X.K=K:=by rfl):vD X (.builtin "all") (zi6 K):=by
 subst hK
 intro pins s σ H xs us Q I r h
 obtain ⟨p,bs,rfl,hq,q⟩:=h
 obtain ⟨u,rfl,ru⟩:=WF r
 cases ru
 refine call_all_walkS (zcv hc I hq fun Ia fp wr G n P St tr s₂ W h0 ht hn htr hm=>⟨Ia,fp,wr,G,n,P,St,tr,rfl,W,h0,ht,fun s' m=>⟨.bl _,H,hm s' m,rfl,?_⟩⟩)
 rw [hn,htr,zd0]
 exact q
theorem Inv.lstR {pins:List (Addr×Obj)} {σ:St} {H:Hp} {s:Shared} {l:Addr} {xs:List V} (I:Inv X pins σ H s) (hH:SqX X.K H l xs):xs.length≤sizeLine∧∃(its:List Value) (n:Nat),yE xs its∧xs.length=its.length∧s.heap.get? l=some {cls:= .type "list",data:= .seq its.toArray n}:=by
 rcases hH with hH|⟨its,n,hk,hz,r⟩
 ·obtain ⟨z,its,n,r,e⟩:=hH.ok I.hok
  exact ⟨z,its,n,r,r.length,e⟩
 ·have hl:=r.length
  have hl2:its.toList.length=its.size:=Array.length_toList
  exact ⟨by omega,its.toList,n,r,r.length,I.kIn l _ hk⟩
noncomputable def zg5 (K:PySem.W.Frag):R2:=fun x y H Q=>∃l b xs zs,x= .ref l∧y= .ref b∧SqX K H l xs∧SqX K H b zs∧xs.length+zs.length≤sizeLine∧∀p,H p=none→Q (.ref p) (upd H p (.lst (xs++zs)))
theorem wO {K:PySem.W.Frag} (hK:X.K=K:=by rfl):OpR X (binaryOp .Add) (zg5 K):=by
 subst hK
 intro pins s σ H x y v u Q I rx ry h
 obtain ⟨l,b,xs,zs,rfl,rfl,hH,hB,hz,q⟩:=h
 cases rx
 cases ry
 obtain ⟨z,its,n,r,hl,e⟩:=I.lstR hH
 obtain ⟨z2,its2,n2,r2,hl2,e2⟩:=I.lstR hB
 refine PySem.P.add_list e e2 ?_ (by rw [List.size_toArray,List.size_toArray];omega)
 have ea:its.toArray++its2.toArray=(its++its2).toArray:=by simp
 rw [ea]
 exact ⟨.ref _,_,I.lnew (t':=s.toks) (r.append r2) (by rw [List.length_append];omega),rfl,q _ I.fresh⟩
theorem zd1 (l:Addr) (items:Array Value) (n:Nat) (b:Addr) (ob:Obj) (T:String) (items2:Array Value) (n2:Nat) (hT:T="list"∨T="tuple") (hs0:(!items.isEmpty&&Builtin.List.listTooLong (items.size+items2.size))=false) (hs1:items.size≤sizeLine) (hs2:items.size+items2.size≤sizeLine):
  Meets (Builtin.«list.extend» ⟨[.ref l,.ref b],[]⟩) (fun _ R s=>s.heap.get? l=some {cls:= .type "list",dict:=none,data:= .seq items n,slots:= #[]}∧s.heap.get? b=some ob∧ob.cls= .type T∧ob.data= .seq items2 n2∧R (.ok (.ret Value.none)) {s with heap:=s.heap.update l (Obj.mapSeq fun x=>x++items2),toks:=s.toks}):=by
 intro prog w A R s h
 obtain ⟨hl,hb,hc,hd,hR⟩:=h
 show wpAny _ _ (Builtin.List.listExtendWith (.ref l) (.ref b) .none) _ _ s
 unfold Builtin.List.listExtendWith
 refine wpAny_bind (wpAny_typeOf (T:=T) ⟨ob,hb,hc⟩ ?_)
 have hcond:(Builtin.List.listSameRef (.ref l) (.ref b)||Value.type T==Value.type "list"||Value.type T==Value.type "tuple")=true:=by
  rcases hT with rfl|rfl<;>simp
 rw [if_pos hcond]
 refine wpAny_bind ?_
 unfold Builtin.List.listItems
 refine wpAny_bind (wpAny_seqItems hb hd (wpAny_pure ?_))
 refine wpAny_bind ?_
 refine wpAny_bind (wpAny_seqItems hl rfl (wpAny_pure ?_))
 rw [if_neg (by rw [hs0];exact Bool.false_ne_true)]
 have hz':(items++items2).size≤sizeLine+1:=by rw [Array.size_append];omega
 refine wpAny_bind (m:=Builtin.List.listUpdate (.ref l) (· ++items2)) ?_
 show wpAny _ _ (updateSeq l (fun x=>x++items2)) _ _ s
 refine wpAny_updateSeq hl rfl (hz:=hs1) (_hz':=hz') ?_
 exact wpAny_pure hR
noncomputable def zbJ (K:PySem.W.Frag):V→List V→Hp→VK→Prop:=fun x vs H Q=>∃l b xs zs,x= .ref l∧vs=[.ref b]∧H l=some (.lst xs)∧(SqX K H b zs∨SqT K H b zs)∧xs.length+zs.length≤sizeLine∧Q .non (upd H l (.lst (xs++zs)))
theorem zcw {K:PySem.W.Frag} (hK:X.K=K:=by rfl):MtR X "list.extend" (zbJ K):=by
 subst hK
 intro pins s σ H x vs v us Q I rx rv h
 obtain ⟨l,b,xs,zs,rfl,rfl,hH,hB,hz,q⟩:=h
 cases rx
 obtain ⟨u,rfl,ru⟩:=rv.one
 cases ru
 obtain ⟨z,its,n,r,hl,e⟩:=I.lstM hH
 have key:∀{its2:List Value} {ob:Obj} {T:String} {n2:Nat},yE zs its2→(T="list"∨T="tuple")→s.heap.get? b=some ob→ob.cls= .type T→ob.data= .seq its2.toArray n2→
   wpAny (model X.prog X.w) X.A (call (.builtin "list.extend") [.ref l,.ref b]) (EP X pins σ Q) X.xe s:=by
  intro its2 ob T n2 r2 hT hb hc hd
  have hl2:=r2.length
  have hsz:its.toArray.size+its2.toArray.size≤sizeLine:=by rw [List.size_toArray,List.size_toArray];omega
  refine call_meets F.slot_list_extend ⟨_,e,rfl⟩ F.entry_list_extend (F.args_list_extend_2 _ _)
   (zd1 l its.toArray n b ob T its2.toArray n2 hT (by rw [zeE hsz,Bool.and_false]) (by rw [List.size_toArray];omega) hsz) ⟨e,hb,hc,hd,?_⟩
  refine ⟨.non,_,I.lset (its':=its++its2) hH e (by simp) (r.append r2) ?_,rfl,q⟩
  rw [List.length_append]
  omega
 rcases hB with hB|hB
 ·obtain ⟨z2,its2,n2,r2,hl2,e2⟩:=I.lstR hB
  exact key r2 (.inl rfl) e2 rfl rfl
 ·obtain ⟨its2,r2,⟨ob,hb,hc,n2,hd⟩,_⟩:=I.tuple hB
  exact key r2 (.inr rfl) hb hc hd
end
end L2
namespace L2
open PySem PySem.Spec PyProof.Rows
section
variable {prog:Program} {w:World} {A:Around} {E:Value→Shared→Prop} {s:Shared}
end
section
variable {X:Cx}
end
end L2
namespace HT
open PySem PyProof.Rows
section
variable {prog:Program} {w:World} {A:Around} {E:Value→Shared→Prop} {s:Shared}
theorem WA {t sl:Addr} {items:Array Value} {vl vu:Value} {lo hi:Option Int} {Q:Value→Shared→Prop} (ht:IsTup s.heap t items) (hs:s.heap.IsSliceOf sl vl vu .none) (pl:IsPart vl lo) (pu:IsPart vu hi)
  (hw:sIx items.size 0 lo=0∧sIx items.size items.size hi=items.size) (h:Q (.ref t) s):wpAny (model prog w) A (getItem (.ref t) (.ref sl)) Q E s:=by
 obtain ⟨os,hos,hcs,hds⟩:=id hs
 have hTs:s.TypeIs (.ref sl) "slice":=⟨os,hos,hcs⟩
 unfold getItem
 try with_reducible refine wpAny_holding ?_
 first|refine wpAny_bind (wpAny_pure ?_)|skip
 refine wpAny_bind (wpAny_sequenceKey ht.typeIs (by decide) ?_)
 refine wpAny_bind (wpAny_callSpecial?_slot (name:=Str.ofString "__getitem__") ht.typeIs PyProof.Rows.slot_tuple_getitem
  (wpAny_call_entry PyProof.Rows.slot_tuple_getitem ht.typeIs entry_tuple_getitem ?_ (args_tuple_getitem _ _)))
 show wpAny _ _ (Builtin.Tuple.tupleItemsOf (.ref t)>>=_) _ _ s
 refine wpAny_bind (tupleItemsOf_ ht ?_)
 refine wpAny_bind (wpAny_typeOf hTs ?_)
 rw [if_pos (by decide)]
 refine wpAny_bind (Yy hs pl pu ?_)
 have hyes:((((sIx items.size 0 lo:Nat):Int)==0&&(1:Int)==1&&(sIx items.size items.size hi-sIx items.size 0 lo)==items.size)=true):=by
  rw [hw.1,hw.2]
  simp
 show wpAny _ _ (if (((sIx items.size 0 lo:Nat):Int)==0&&(1:Int)==1&&(sIx items.size items.size hi-sIx items.size 0 lo)==items.size)=true then _ else _) _ _ s
 rw [if_pos hyes]
 refine wpAny_bind ?_
 unfold Builtin.Tuple.tupleIsExact
 refine wpAny_bind (wpAny_typeOf ht.typeIs ?_)
 refine wpAny_pure ?_
 rw [if_pos (by decide)]
 refine wpAny_bind (wpAny_rule ?_)
 exact wpAny_pure ⟨_,rfl,wpAny_pure h⟩
end
end HT
namespace L2
open PySem PySem.Spec PyProof.Rows
section
variable {X:Cx}
noncomputable def zf6 (K:PySem.W.Frag):V→Option Int→Option Int→Hp→VK→Prop:=fun x lo hi H Q=>∃a xs,x= .ref a∧SqT K H a xs∧
 (HT.sIx xs.length 0 lo=0∧HT.sIx xs.length xs.length hi=xs.length→Q (.ref a) H)∧(¬(HT.sIx xs.length 0 lo=0∧HT.sIx xs.length xs.length hi=xs.length)→∀p,H p=none→Q (.ref p) (upd H p (.tup (Tw xs lo hi))))
theorem ZX {K:PySem.W.Frag} (hK:X.K=K:=by rfl):SlR X (zf6 K):=by
 subst hK
 intro pins s σ H x v vl vu lo hi sl Q I rx hs pl pu h
 obtain ⟨a,xs,rfl,hx,q1,q2⟩:=h
 by_cases hw:HT.sIx xs.length 0 lo=0∧HT.sIx xs.length xs.length hi=xs.length
 ·cases rx
  obtain ⟨its,r,ht,hz⟩:=I.tuple hx
  have hlen:its.toArray.size=xs.length:=by rw [List.size_toArray];exact r.length.symm
  refine ⟨"tuple",_,PyProof.Rows.slot_tuple_getitem.lookup,ht.typeIs,?_⟩
  exact HT.WA ht hs pl pu (by rw [hlen];exact hw) ⟨.ref a,H,I,rfl,q1 hw⟩
 ·exact zhD pins s σ H (.ref a) v vl vu lo hi sl Q I rx hs pl pu ⟨a,xs,rfl,hx,hw,q2 hw⟩
section
variable {X:Cx} {tg:Expr}
end
end
end L2
namespace L2
open PySem PySem.Spec PyProof.Rows
section
variable {env:Env} {r:List Expr}
theorem zn {a b c}:starEach (.Tuple a b c::r) env=(false,eval (.Tuple a b c) env)::starEach r env:=by rw [starEach];simp
theorem zc {a b c}:starEach (.Constant a b c::r) env=(false,eval (.Constant a b c) env)::starEach r env:=by rw [starEach];simp
theorem zf {a b}:starEach (.Name a b::r) env=(false,eval (.Name a b) env)::starEach r env:=by rw [starEach];simp
theorem yk {a b c}:starEach (.Subscript a b c::r) env=(false,eval (.Subscript a b c) env)::starEach r env:=by rw [starEach];simp
theorem ye {a b c d}:starEach (.BinOp a b c d::r) env=(false,eval (.BinOp a b c d) env)::starEach r env:=by rw [starEach];simp
theorem YS {a b c}:starEach (.UnaryOp a b c::r) env=(false,eval (.UnaryOp a b c) env)::starEach r env:=by rw [starEach];simp
theorem zcx {a b c d}:starEach (.Compare a b c d::r) env=(false,eval (.Compare a b c d) env)::starEach r env:=by rw [starEach];simp
theorem zZ {a b c d}:starEach (.Call a b c d::r) env=(false,eval (.Call a b c d) env)::starEach r env:=by rw [starEach];simp
end
end L2
namespace L2
open PySem PySem.Spec PyProof.Rows PySem.Builtin
section
variable {X:Cx}
end
end L2
namespace L2
open PySem PySem.Spec PyProof.Rows PySem.Calls
section
variable {X:Cx}
end
section
variable {prog:Program} {w:World} {A:Around} {E:Value→Shared→Prop} {s:Shared} {T:String} {r d:Addr} {n:Nat} {P:Nat→Value→Prop} {OK:Heap→Prop} {Q:Value→Shared→Prop}
end
section
variable {X:Cx}
end
section
variable {prog:Program} {w:World} {A:Around} {E:Value→Shared→Prop} {s:Shared} {T:String} {r d:Addr} {n:Nat} {P:Nat→Value→Prop} {OK:Heap→Prop} {Q:Value→Shared→Prop}
end
section
variable {X:Cx}
end
end L2
namespace L2
open PySem
inductive Xv where
 |non|bl (b:Bool)|int (i:Int)|str (x:Str)|tup (xs:List Xv)|ct (xs:List Xv)|ref (n:Nat)
inductive Ce where
 |lst (xs:List Xv)
 |frz (xs:List Xv)
 |dk (kvs:List (Key×Xv))
 |dt (kvs:List (List Key×Xv))
 |ins (nm:Str) (fs:List (Str×Xv))
 |fdk (kvs:List (Key×Xv))
 |dn (kvs:List (NK×Xv×Xv))
 |exc (nm:Str)
noncomputable abbrev Sto:=List Ce
noncomputable abbrev Rho:=List (Option Xv)
noncomputable def Ce.fz:Ce→Bool
 | .frz _=>true
 | .fdk _=>true
 | .exc _=>true
 |_=>false
noncomputable def HO.mu:HO→Bool
 | .lst _=>true
 | .dK _=>true
 | .dT _=>true
 | .dN _=>true
 | .ins _ _ _=>true
 | .set _ _=>true
 |_=>false
noncomputable def Zc (H H':Hp):Prop:=∀b u,H b=some u→u.mu=false→H' b=some u
theorem Zc.refl (H:Hp):Zc H H:=fun _ _ e _=>e
theorem Zc.trans {H H1 H2:Hp} (a:Zc H H1) (b:Zc H1 H2):Zc H H2:=fun x u e m=>b x u (a x u e m) m
theorem Zc.same {H H':Hp} (S:Vg H H'):Zc H H':=fun b u e _=>S b u e
structure Ext (j:List Addr) (H:Hp) (j':List Addr) (H':Hp):Prop where
 pre:∀(n:Nat) a,j[n]? =some a→j'[n]? =some a
 imm:Zc H H'
theorem Ext.refl {j:List Addr} {H:Hp}:Ext j H j H:=⟨fun _ _ e=>e,Zc.refl _⟩
theorem Ext.trans {j j1 j2:List Addr} {H H1 H2:Hp} (a:Ext j H j1 H1) (b:Ext j1 H1 j2 H2):Ext j H j2 H2:=⟨fun n x e=>b.pre n x (a.pre n x e),a.imm.trans b.imm⟩
theorem Ext.same {j:List Addr} {H H':Hp} (S:Vg H H'):Ext j H j H':=⟨fun _ _ e=>e,Zc.same S⟩
mutual
inductive Xis (K:PySem.W.Frag) (j:List Addr) (H:Hp):Xv→V→Prop where
 |non:Xis K j H .non .non
 |bl (b:Bool):Xis K j H (.bl b) (.bl b)
 |int (i:Int):Xis K j H (.int i) (.int i)
 |str (x:Str):Xis K j H (.str x) (.str x)
 |tup {a:Addr} {vs:List V} {xs:List Xv}:H a=some (.tup vs)→yC K j H xs vs→Xis K j H (.tup xs) (.ref a)
 |ct {a:Addr} {vs:List V} {xs:List Xv}:(∀H,SqT K H a vs)→yC K j H xs vs→Xis K j H (.ct xs) (.ref a)
 |ref {n:Nat} {a:Addr}:j[n]? =some a→Xis K j H (.ref n) (.ref a)
inductive yC (K:PySem.W.Frag) (j:List Addr) (H:Hp):List Xv→List V→Prop where
 |nil:yC K j H [] []
 |cons {x:Xv} {v:V} {xs:List Xv} {vs:List V}:Xis K j H x v→yC K j H xs vs→yC K j H (x::xs) (v::vs)
end
mutual
theorem Xis.mono {K:PySem.W.Frag} {j j':List Addr} {H H':Hp} (S:Ext j H j' H'):∀{x:Xv} {v:V},Xis K j H x v→Xis K j' H' x v
 |_,_,.non=> .non
 |_,_,.bl b=> .bl b
 |_,_,.int i=> .int i
 |_,_,.str x=> .str x
 |_,_,.tup h l=> .tup (S.imm _ _ h rfl) (yC.mono S l)
 |_,_,.ct h l=> .ct h (yC.mono S l)
 |_,_,.ref h=> .ref (S.pre _ _ h)
theorem yC.mono {K:PySem.W.Frag} {j j':List Addr} {H H':Hp} (S:Ext j H j' H'):∀{xs:List Xv} {vs:List V},yC K j H xs vs→yC K j' H' xs vs
 |_,_,.nil=> .nil
 |_,_,.cons h l=> .cons (Xis.mono S h) (yC.mono S l)
end
section
variable {K:PySem.W.Frag} {j:List Addr} {H:Hp}
theorem yC.len:∀{xs:List Xv} {vs:List V},yC K j H xs vs→vs.length=xs.length
 |_,_,.nil=>rfl
 |_,_,.cons _ l=>by rw [List.length_cons,List.length_cons,l.len]
theorem yC.get:∀{xs:List Xv} {vs:List V} {i:Nat} {x:Xv},yC K j H xs vs→xs[i]? =some x→∃v,vs[i]? =some v∧Xis K j H x v
 |_,_,_,_,.nil,e=>by simp at e
 |_,_,0,_,.cons h _,e=>by simp at e;subst e;exact ⟨_,rfl,h⟩
 |_,_,i+1,x,.cons _ l,e=>by
  obtain ⟨v,e1,e2⟩:=l.get (i:=i) (x:=x) (by simpa using e)
  exact ⟨v,by simpa using e1,e2⟩
theorem yC.append:∀{xs ys:List Xv} {vs ws:List V},yC K j H xs vs→yC K j H ys ws→yC K j H (xs++ys) (vs++ws)
 |_,_,_,_,.nil,h=>h
 |_,_,_,_,.cons h l,k=> .cons h (l.append k)
theorem yC.one {v:V} {x:Xv} (h:Xis K j H x v):yC K j H [x] [v]:= .cons h .nil
theorem yC.take:∀{xs:List Xv} {vs:List V} (n:Nat),yC K j H xs vs→yC K j H (xs.take n) (vs.take n)
 |_,_,0,_=> .nil
 |_,_,_+1,.nil=> .nil
 |_,_,n+1,.cons h l=> .cons h (l.take n)
theorem yC.drop:∀{xs:List Xv} {vs:List V} (n:Nat),yC K j H xs vs→yC K j H (xs.drop n) (vs.drop n)
 |_,_,0,h=>h
 |_,_,_+1,.nil=> .nil
 |_,_,n+1,.cons h l=>l.drop n
theorem yC.ints:∀ns:List Int,yC K j H (ns.map Xv.int) (ns.map V.int)
 |[]=> .nil
 |n::r=> .cons (.int n) (yC.ints r)
theorem yC.set {v:V} {x:Xv} (hv:Xis K j H x v):∀{xs:List Xv} {vs:List V} (n:Nat),yC K j H xs vs→yC K j H (xs.set n x) (vs.set n v)
 |_,_,_,.nil=> .nil
 |_,_,0,.cons _ l=> .cons hv l
 |_,_,n+1,.cons h l=> .cons h (l.set hv n)
theorem yC.dropLast {xs:List Xv} {vs:List V} (h:yC K j H xs vs):yC K j H xs.dropLast vs.dropLast:=by
 rw [List.dropLast_eq_take,List.dropLast_eq_take,h.len]
 exact h.take _
theorem yC.at_ {xs:List Xv} {vs:List V} {i:Int} {x:Xv} (h:yC K j H xs vs) (e:atI xs i=some x):∃v,atI vs i=some v∧Xis K j H x v:=by
 unfold atI at e ⊢
 rw [h.len]
 cases e1:ixN xs.length i with
 |none=>rw [e1] at e;cases e
 |some m=>
  rw [e1] at e
  obtain ⟨v,e3,e4⟩:=h.get (i:=m) e
  exact ⟨v,e3,e4⟩
theorem Xis.int_inv {v:V} {i:Int} (h:Xis K j H (.int i) v):v= .int i:=by cases h;rfl
theorem Xis.bl_inv {v:V} {b:Bool} (h:Xis K j H (.bl b) v):v= .bl b:=by cases h;rfl
theorem Xis.str_inv {v:V} {b:Str} (h:Xis K j H (.str b) v):v= .str b:=by cases h;rfl
theorem Xis.ref_inv {v:V} {n:Nat} (h:Xis K j H (.ref n) v):∃a,v= .ref a∧j[n]? =some a:=by cases h with|ref e=>exact ⟨_,rfl,e⟩
theorem Xis.tup_inv {v:V} {xs:List Xv} (h:Xis K j H (.tup xs) v):∃a vs,v= .ref a∧H a=some (.tup vs)∧yC K j H xs vs:=by cases h with|tup a b=>exact ⟨_,_,rfl,a,b⟩
theorem yC.cons_inv {vs:List V} {x:Xv} {xs:List Xv} (h:yC K j H (x::xs) vs):∃v r,vs=v::r∧Xis K j H x v∧yC K j H xs r:=by cases h with|cons a b=>exact ⟨_,_,rfl,a,b⟩
theorem yC.nil_inv {vs:List V} (h:yC K j H [] vs):vs=[]:=by cases h;rfl
theorem yC.d1 {vs:List V} {a:Xv} (h:yC K j H [a] vs):∃x,vs=[x]∧Xis K j H a x:=by
 obtain ⟨x,r,rfl,hx,h⟩:=h.cons_inv
 obtain rfl:=h.nil_inv
 exact ⟨x,rfl,hx⟩
theorem yC.d2 {vs:List V} {a b:Xv} (h:yC K j H [a,b] vs):∃x y,vs=[x,y]∧Xis K j H a x∧Xis K j H b y:=by
 obtain ⟨x,r,rfl,hx,h⟩:=h.cons_inv
 obtain ⟨y,rfl,hy⟩:=h.d1
 exact ⟨x,y,rfl,hx,hy⟩
noncomputable def Xv.tupOf:Xv→Option (List Xv)
 | .tup xs=>some xs
 | .ct xs=>some xs
 |_=>none
theorem Xis.tupO {v:V} {x:Xv} {xs:List Xv} (h:Xis K j H x v) (e:x.tupOf=some xs):∃a vs,v= .ref a∧SqT K H a vs∧yC K j H xs vs:=by
 cases h with
 |tup h l=>simp [Xv.tupOf] at e;subst e;exact ⟨_,_,rfl,SqT.of h,l⟩
 |ct h l=>simp [Xv.tupOf] at e;subst e;exact ⟨_,_,rfl,h H,l⟩
 |_=>simp [Xv.tupOf] at e
end
inductive KX {κ:Type} (K:PySem.W.Frag) (j:List Addr) (H:Hp):List (κ×Xv)→List (κ×V)→Prop where
 |nil:KX K j H [] []
 |cons {k:κ} {x:Xv} {v:V} {r:List (κ×Xv)} {rs:List (κ×V)}:Xis K j H x v→KX K j H r rs→KX K j H ((k,x)::r) ((k,v)::rs)
theorem KX.mono {κ:Type} {K:PySem.W.Frag} {j j':List Addr} {H H':Hp} (S:Ext j H j' H'):∀{xs:List (κ×Xv)} {vs:List (κ×V)},KX K j H xs vs→KX K j' H' xs vs
 |_,_,.nil=> .nil
 |_,_,.cons h l=> .cons (h.mono S) (l.mono S)
mutual
noncomputable def zi7:Xv→Option NK
 | .int i=>some (.int i)
 | .str x=>some (.str x)
 | .tup l=>(zeO l).map .tup
 | .ct l=>(zeO l).map .tup
 | .non=>none
 | .bl _=>none
 | .ref _=>none
noncomputable def zeO:List Xv→Option (List NK)
 |[]=>some []
 |x::r=>(zi7 x).bind fun k=>(zeO r).map (k:: ·)
end
inductive NX (K:PySem.W.Frag) (j:List Addr) (H:Hp):List (NK×Xv×Xv)→List (NK×Addr×V)→Prop where
 |nil:NX K j H [] []
 |cons {k:NK} {x y:Xv} {b:Addr} {v:V} {r:List (NK×Xv×Xv)} {rs:List (NK×Addr×V)}:zi7 x=some k∧zfL k≤8→Xis K j H x (.ref b)→Xis K j H y v→NX K j H r rs→NX K j H ((k,x,y)::r) ((k,b,v)::rs)
theorem NX.mono {K:PySem.W.Frag} {j j':List Addr} {H H':Hp} (S:Ext j H j' H'):∀{xs:List (NK×Xv×Xv)} {vs:List (NK×Addr×V)},NX K j H xs vs→NX K j' H' xs vs
 |_,_,.nil=> .nil
 |_,_,.cons e h1 h2 l=> .cons e (h1.mono S) (h2.mono S) (l.mono S)
noncomputable def TJ (K:PySem.W.Frag) (j:List Addr) (H:Hp) (a:Addr):Ce→Prop
 | .lst xs=>∃vs,H a=some (.lst vs)∧yC K j H xs vs
 | .frz xs=>∃vs,((∃o,H a=some (.frz o (.lst vs)))∨∀H,SqX K H a vs)∧yC K j H xs vs
 | .dk kvs=>∃ks:List (Key×V),H a=some (.dK ks)∧KX K j H kvs ks
 | .dt kvs=>∃ks:List (List Key×V),H a=some (.dT ks)∧KX K j H kvs ks
 | .ins nm fs=>∃(C dx:Addr) (vs:List (Str×V)),PySem.W.nsIn K mainGlobals nm=some (some (.ref C))∧H a=some (.ins C dx vs)∧KX K j H fs vs
 | .fdk kvs=>∃(o:Obj) (ks:List (Key×V)),H a=some (.frz o (.dK ks))∧KX K j H kvs ks
 | .dn kvs=>∃ks:List (NK×Addr×V),H a=some (.dN ks)∧NX K j H kvs ks
 | .exc nm=>∃C:Addr,PySem.W.nsIn K mainGlobals nm=some (some (.ref C))∧H a=some (zhM a (.ref C))
theorem TJ.mu {K:PySem.W.Frag} {j:List Addr} {H:Hp} {a:Addr}:∀{c:Ce},TJ K j H a c→c.fz=false→∃o,H a=some o∧o.mu=true
 | .lst _,⟨_,e,_⟩,_=>⟨_,e,rfl⟩
 | .frz _,_,z=>by cases z
 | .dk _,⟨_,e,_⟩,_=>⟨_,e,rfl⟩
 | .dt _,⟨_,e,_⟩,_=>⟨_,e,rfl⟩
 | .ins _ _,⟨_,_,_,_,e,_⟩,_=>⟨_,e,rfl⟩
 | .fdk _,_,z=>by cases z
 | .dn _,⟨_,e,_⟩,_=>⟨_,e,rfl⟩
 | .exc _,_,z=>by cases z
theorem TJ.mono {K:PySem.W.Frag} {j j':List Addr} {H H':Hp} {a:Addr} (S:Ext j H j' H'):∀{c:Ce},(c.fz=false→H' a=H a)→TJ K j H a c→TJ K j' H' a c
 | .lst _,h,⟨_,e,l⟩=>⟨_,(h rfl).trans e,l.mono S⟩
 | .frz _,_,⟨_,.inl ⟨o,e⟩,l⟩=>⟨_,.inl ⟨o,S.imm _ _ e rfl⟩,l.mono S⟩
 | .frz _,_,⟨_,.inr e,l⟩=>⟨_,.inr e,l.mono S⟩
 | .dk _,h,⟨_,e,l⟩=>⟨_,(h rfl).trans e,l.mono S⟩
 | .dt _,h,⟨_,e,l⟩=>⟨_,(h rfl).trans e,l.mono S⟩
 | .ins _ _,h,⟨_,_,_,n,e,l⟩=>⟨_,_,_,n,(h rfl).trans e,l.mono S⟩
 | .fdk _,_,⟨_,_,e,l⟩=>⟨_,_,S.imm _ _ e rfl,l.mono S⟩
 | .dn _,h,⟨_,e,l⟩=>⟨_,(h rfl).trans e,l.mono S⟩
 | .exc _,_,⟨C,n,e⟩=>⟨C,n,S.imm _ _ e rfl⟩
structure Fm where
 H0:Hp
 j0:List Addr
 S0:Sto
structure En (K:PySem.W.Frag) (F:Fm) (j:List Addr) (H:Hp) (σ:St) (ρ:Rho) (S:Sto):Prop where
 len:σ.length=ρ.length
 slot:∀(i:Nat) x,ρ[i]? =some (some x)→∃v,σ[i]? =some (some v)∧Xis K j H x v
 jl:j.length=S.length
 inj:∀(n m:Nat) a c d,j[n]? =some a→j[m]? =some a→S[n]? =some c→S[m]? =some d→c.fz=false→d.fz=false→n=m
 cel:∀(n:Nat) c a,S[n]? =some c→j[n]? =some a→TJ K j H a c
 ext:Ext F.j0 F.H0 j H
 old:∀(n:Nat) c,F.S0[n]? =some c→∃c',S[n]? =some c'∧(c'.fz=false→c.fz=false)∧(c.fz=true→c'=c)
 l0:F.j0.length=F.S0.length
 keep:∀b u,F.H0 b=some u→H b=some u∨∃(n:Nat) (c:Ce),F.j0[n]? =some b∧F.S0[n]? =some c∧c.fz=false
 fresh:∀(n:Nat) a,F.j0.length≤n→j[n]? =some a→F.H0 a=none
 dom:∀b,H b=none→F.H0 b=none
section
variable {K:PySem.W.Frag} {F:Fm} {j j':List Addr} {H H':Hp} {σ σ':St} {ρ ρ':Rho} {S S':Sto} {v:V} {x:Xv} {a p:Addr} {o:HO} {i n:Nat} {c c':Ce}
theorem En.heap (E:En K F j H σ ρ S) (Sm:Vg H H'):En K F j H' σ ρ S:=by
 have X:Ext j H j H':=Ext.same Sm
 refine ⟨E.len,fun i x e=> ?_,E.jl,E.inj,fun n c a e1 e2=> ?_,E.ext.trans X,E.old,E.l0,fun b u e=> ?_,E.fresh,fun b e=>E.dom b ?_⟩
 ·obtain ⟨v,e1,e2⟩:=E.slot i x e
  exact ⟨v,e1,e2.mono X⟩
 ·have h:=E.cel n c a e1 e2
  refine h.mono X fun z=> ?_
  obtain ⟨o,e,_⟩:=h.mu z
  exact (Sm _ _ e).trans e.symm
 ·rcases E.keep b u e with h|h
  ·exact .inl (Sm _ _ h)
  ·exact .inr h
 ·cases e':H b with
  |none=>rfl
  |some u=>rw [Sm b u e'] at e;cases e
theorem En.new (E:En K F j H σ ρ S) (h:H p=none):En K F j (upd H p o) σ ρ S∧Ext j H j (upd H p o):=⟨E.heap (Zx h),Ext.same (Zx h)⟩
theorem En.cell (E:En K F j H σ ρ S) (h:H p=none) (hc:TJ K (j++[p]) (upd H p o) p c):En K F (j++[p]) (upd H p o) σ ρ (S++[c])∧Ext j H (j++[p]) (upd H p o):=by
 have X:Ext j H (j++[p]) (upd H p o):=⟨fun n a e=>by rw [List.getElem?_append_left (List.getElem?_eq_some_iff.1 e).1];exact e,Zc.same (Zx h)⟩
 have jat:∀{n:Nat} {a:Addr},(j++[p])[n]? =some a→j[n]? =some a∨(n=j.length∧a=p):=fun {n a} e=>by
  by_cases hn:n<j.length
  ·rw [List.getElem?_append_left hn] at e;exact .inl e
  ·rw [List.getElem?_append_right (by omega)] at e
   cases hm:n-j.length with
   |zero=>rw [hm] at e;simp at e;exact .inr ⟨by omega,e.symm⟩
   |succ m=>rw [hm] at e;simp at e
 have sat:∀{n:Nat} {d:Ce},(S++[c])[n]? =some d→S[n]? =some d∨(n=S.length∧d=c):=fun {n d} e=>by
  by_cases hn:n<S.length
  ·rw [List.getElem?_append_left hn] at e;exact .inl e
  ·rw [List.getElem?_append_right (by omega)] at e
   cases hm:n-S.length with
   |zero=>rw [hm] at e;simp at e;exact .inr ⟨by omega,e.symm⟩
   |succ m=>rw [hm] at e;simp at e
 have lt:∀{n:Nat} {d:Ce},S[n]? =some d→n<S.length:=fun e=>(List.getElem?_eq_some_iff.1 e).1
 have mine:∀{n:Nat} {a:Addr} {d:Ce},j[n]? =some a→S[n]? =some d→d.fz=false→a≠p:=fun {n a d} e1 e2 z q=>by
  subst q
  obtain ⟨o',e,_⟩:=(E.cel n d a e2 e1).mu z
  rw [h] at e;cases e
 refine ⟨⟨E.len,fun i x e=> ?_,by simp [E.jl],fun n m a c1 c2 e1 e2 e3 e4 z1 z2=> ?_,fun n d a e1 e2=> ?_,E.ext.trans X,fun n d e=> ?_,E.l0,fun b u e=> ?_,fun n a hn e=> ?_,fun b e=> ?_⟩,X⟩
 ·obtain ⟨v,e1,e2⟩:=E.slot i x e
  exact ⟨v,e1,e2.mono X⟩
 ·rcases sat e3 with e3|⟨e3,_⟩
  ·have h1:j[n]? =some a:=by
    rcases jat e1 with h1|⟨h1,_⟩
    ·exact h1
    ·have:=lt e3;rw [E.jl] at h1;omega
   rcases sat e4 with e4|⟨e4,_⟩
   ·have h2:j[m]? =some a:=by
     rcases jat e2 with h2|⟨h2,_⟩
     ·exact h2
     ·have:=lt e4;rw [E.jl] at h2;omega
    exact E.inj n m a c1 c2 h1 h2 e3 e4 z1 z2
   ·have:a=p:=by
     rcases jat e2 with h2|⟨_,h2⟩
     ·have:=(List.getElem?_eq_some_iff.1 h2).1;rw [E.jl] at this;omega
     ·exact h2
    exact absurd this (mine h1 e3 z1)
  ·have:a=p:=by
    rcases jat e1 with h2|⟨_,h2⟩
    ·have:=(List.getElem?_eq_some_iff.1 h2).1;rw [E.jl] at this;omega
    ·exact h2
   rcases sat e4 with e4|⟨e4,_⟩
   ·have h2:j[m]? =some a:=by
     rcases jat e2 with h2|⟨h2,_⟩
     ·exact h2
     ·have:=lt e4;rw [E.jl] at h2;omega
    exact absurd this (mine h2 e4 z2)
   ·rw [e3,e4]
 ·rcases sat e1 with e1|⟨e1,rfl⟩
  ·have h2:j[n]? =some a:=by
    rcases jat e2 with h2|⟨h2,_⟩
    ·exact h2
    ·have:=lt e1;rw [E.jl] at h2;omega
   have hh:=E.cel n d a e1 h2
   exact hh.mono X fun z=>xa (mine h2 e1 z)
  ·have:a=p:=by
    rcases jat e2 with h2|⟨_,h2⟩
    ·have:=(List.getElem?_eq_some_iff.1 h2).1;rw [E.jl] at this;omega
    ·exact h2
   subst this
   exact hc
 ·obtain ⟨d',e1,e2⟩:=E.old n d e
  exact ⟨d',by rw [List.getElem?_append_left (lt e1)];exact e1,e2⟩
 ·rcases E.keep b u e with h'|h'
  ·exact .inl (Zx h _ _ h')
  ·exact .inr h'
 ·rcases jat e with e|⟨_,rfl⟩
  ·exact E.fresh n a hn e
  ·exact E.dom _ h
 ·refine E.dom b ?_
  cases e':H b with
  |none=>rfl
  |some u=>rw [Zx h b u e'] at e;cases e
theorem En.writeF (E:En K F j H σ ρ S) (hs:S[n]? =some c) (z:c.fz=false) (hj:j[n]? =some a) (hc:∀X:Ext j H j (upd H a o),TJ K j (upd H a o) a c'):En K F j (upd H a o) σ ρ (S.set n c')∧Ext j H j (upd H a o):=by
 obtain ⟨o0,h0,m0⟩:=(E.cel n c a hs hj).mu z
 have X:Ext j H j (upd H a o):=⟨fun _ _ e=>e,fun b u e m=>by
  have:b≠a:=fun q=>by subst q;rw [h0] at e;cases e;rw [m] at m0;cases m0
  rw [xa this];exact e⟩
 have sat:∀{m:Nat} {d:Ce},(S.set n c')[m]? =some d→(m=n∧d=c')∨(m≠n∧S[m]? =some d):=fun {m d} e=>by
  rw [List.getElem?_set] at e
  split at e
  ·rename_i q
   split at e
   ·cases e;exact .inl ⟨q.symm,rfl⟩
   ·cases e
  ·rename_i q
   exact .inr ⟨fun r=>q r.symm,e⟩
 have fzq:∀{m:Nat} {d:Ce},(S.set n c')[m]? =some d→∃d',S[m]? =some d'∧(d.fz=false→d'.fz=false):=fun {m d} e=>by
  rcases sat e with ⟨rfl,rfl⟩|⟨_,e⟩
  ·exact ⟨c,hs,fun _=>z⟩
  ·exact ⟨d,e,fun y=>y⟩
 refine ⟨⟨E.len,fun i x e=> ?_,by simp [E.jl],fun k m b c1 c2 e1 e2 e3 e4 z1 z2=> ?_,fun m d b e1 e2=> ?_,E.ext.trans X,fun m d e=> ?_,E.l0,fun b u e=> ?_,E.fresh,fun b e=> ?_⟩,X⟩
 ·obtain ⟨v,e1,e2⟩:=E.slot i x e
  exact ⟨v,e1,e2.mono X⟩
 ·obtain ⟨d1,f1,g1⟩:=fzq e3
  obtain ⟨d2,f2,g2⟩:=fzq e4
  exact E.inj k m b d1 d2 e1 e2 f1 f2 (g1 z1) (g2 z2)
 ·rcases sat e1 with ⟨rfl,rfl⟩|⟨q,e1⟩
  ·rw [hj] at e2
   cases e2
   exact hc X
  ·refine (E.cel m d b e1 e2).mono X fun zd=>xa fun r=> ?_
   subst r
   exact q (E.inj m n b d c e2 hj e1 hs zd z)
 ·obtain ⟨d',e1,e2,e3⟩:=E.old m d e
  by_cases q:m=n
  ·subst q
   rw [hs] at e1
   cases e1
   refine ⟨c',by rw [List.getElem?_set,if_pos rfl,if_pos (List.getElem?_eq_some_iff.1 hs).1],fun _=>e2 z,fun y=> ?_⟩
   rw [e2 z] at y
   cases y
  ·exact ⟨d',by rw [List.getElem?_set,if_neg (fun r=>q r.symm)];exact e1,e2,e3⟩
 ·by_cases q:b=a
  ·subst q
   by_cases hn:n<F.j0.length
   ·have hj0:F.j0[n]? =some b:=by
     have e1:F.j0[n]? =some F.j0[n]:=List.getElem?_eq_getElem hn
     have e2:=E.ext.pre n _ e1
     rw [hj] at e2
     cases e2
     exact e1
    have hn2:n<F.S0.length:=by rw [←E.l0];exact hn
    obtain ⟨d',f1,f2,_⟩:=E.old n _ (List.getElem?_eq_getElem hn2)
    rw [hs] at f1
    cases f1
    exact .inr ⟨n,_,hj0,List.getElem?_eq_getElem hn2,f2 z⟩
   ·rw [E.fresh n b (by omega) hj] at e
    cases e
  ·rcases E.keep b u e with h|h
   ·exact .inl (by rw [xa q];exact h)
   ·exact .inr h
 ·by_cases q:b=a
  ·subst q;rw [xC] at e;cases e
  ·rw [xa q] at e;exact E.dom b e
theorem En.write (E:En K F j H σ ρ S) (hs:S[n]? =some c) (z:c.fz=false) (hj:j[n]? =some a) (_:c'.fz=false) (hc:∀X:Ext j H j (upd H a o),TJ K j (upd H a o) a c'):En K F j (upd H a o) σ ρ (S.set n c')∧Ext j H j (upd H a o):=E.writeF hs z hj hc
theorem En.slots (E:En K F j H σ ρ S) (hl:σ'.length=ρ'.length) (h:∀(i:Nat) x,ρ'[i]? =some (some x)→∃v,σ'[i]? =some (some v)∧Xis K j H x v):En K F j H σ' ρ' S:=
 ⟨hl,h,E.jl,E.inj,E.cel,E.ext,E.old,E.l0,E.keep,E.fresh,E.dom⟩
theorem En.set (E:En K F j H σ ρ S) (h:Xis K j H x v):En K F j H (σ.set i (some v)) (ρ.set i (some x)) S:=E.slots (by simp [E.len]) fun k y e=>by
 rw [List.getElem?_set] at e ⊢
 split at e
 ·rename_i q
  subst q
  split at e
  ·rename_i hl
   cases e
   rw [if_pos rfl,if_pos (by rw [E.len];exact hl)]
   exact ⟨v,rfl,h⟩
  ·cases e
 ·rename_i q
  rw [if_neg q]
  exact E.slot k y e
theorem En.enter (E:En K F j H σ ρ S) (hl:σ'.length=ρ'.length) (h:∀(i:Nat) x,ρ'[i]? =some (some x)→∃v,σ'[i]? =some (some v)∧Xis K j H x v):En K ⟨H,j,S⟩ j H σ' ρ' S:=
 ⟨hl,h,E.jl,E.inj,E.cel,Ext.refl,fun n c e=>⟨c,e,fun z=>z,fun _=>rfl⟩,E.jl,fun b u e=> .inl e,fun n a hn e=>by have:=(List.getElem?_eq_some_iff.1 e).1;dsimp only at hn;omega,fun b e=>e⟩
theorem En.leave (E:En K F j H σ ρ S) (X:En K ⟨H,j,S⟩ j' H' σ' ρ' S'):En K F j' H' σ ρ S'∧Ext j H j' H':=by
 have e:Ext j H j' H':=X.ext
 refine ⟨⟨E.len,fun i x h=> ?_,X.jl,X.inj,X.cel,E.ext.trans e,fun n c h=> ?_,E.l0,fun b u h=> ?_,fun n a hn h=> ?_,fun b h=>E.dom b (X.dom b h)⟩,e⟩
 ·obtain ⟨v,e1,e2⟩:=E.slot i x h
  exact ⟨v,e1,e2.mono e⟩
 ·obtain ⟨c1,e1,e2,e3⟩:=E.old n c h
  obtain ⟨c2,f1,f2,f3⟩:=X.old n c1 e1
  refine ⟨c2,f1,fun z=>e2 (f2 z),fun z=> ?_⟩
  obtain rfl:=e3 z
  exact f3 z
 ·rcases E.keep b u h with h1|h1
  ·rcases X.keep b u h1 with h2|⟨n,c,h2,h3,h4⟩
   ·exact .inl h2
   ·by_cases hn:n<F.j0.length
    ·have e1:F.j0[n]? =some F.j0[n]:=List.getElem?_eq_getElem hn
     have e2:=E.ext.pre n _ e1
     have h2':j[n]? =some b:=h2
     rw [h2'] at e2
     cases e2
     have hn2:n<F.S0.length:=by rw [←E.l0];exact hn
     obtain ⟨c1,f1,f2,_⟩:=E.old n _ (List.getElem?_eq_getElem hn2)
     have h3':S[n]? =some c:=h3
     rw [h3'] at f1
     cases f1
     exact .inr ⟨n,_,e1,List.getElem?_eq_getElem hn2,f2 h4⟩
    ·have:=E.fresh n b (by omega) h2
     rw [this] at h;cases h
  ·exact .inr h1
 ·by_cases hm:n<j.length
  ·have e1:j[n]? =some j[n]:=List.getElem?_eq_getElem hm
   have e2:=e.pre n _ e1
   rw [h] at e2
   cases e2
   exact E.fresh n _ hn e1
  ·exact E.dom a (X.fresh n a (by dsimp only;omega) h)
theorem En.grow {k:Nat} (E:En K F j H σ ρ S):En K F j H (σ++List.replicate k none) (ρ++List.replicate k none) S:=E.slots (by simp [E.len]) fun i x e=>by
 by_cases hi:i<ρ.length
 ·rw [List.getElem?_append_left hi] at e
  rw [List.getElem?_append_left (by rw [E.len];exact hi)]
  exact E.slot i x e
 ·rw [List.getElem?_append_right (by omega),List.getElem?_replicate] at e
  split at e
  ·cases e
  ·cases e
end
end L2
namespace L2
open PySem
inductive Rs (α:Type) where
 |ok (a:α) (S:Sto)
 |ex (c:Str) (S:Sto)
noncomputable abbrev TwE:=Rho→Sto→Option (Rs Xv)
noncomputable abbrev TwT:=Rho→Sto→Option (Rs Bool)
noncomputable abbrev TwL:=Rho→Sto→Option (Rs (List Xv))
noncomputable abbrev TwO:=Rho→Sto→Option (Rs (Option Int))
noncomputable abbrev TwG:=Xv→Rho→Sto→Option (Rs Rho)
noncomputable abbrev zcy:=List Xv→Rho→Sto→Option (Rs Rho)
noncomputable abbrev TwI:=Rho→Sto→Option (Rs (Sto→Option (List Xv)))
inductive Fl where
 |nx (ρ:Rho) (S:Sto)
 |bk (ρ:Rho) (S:Sto)
 |ct (ρ:Rho) (S:Sto)
 |rt (x:Xv) (S:Sto)
 |ex (c:Str) (S:Sto)
noncomputable abbrev TwS:=Rho→Sto→Option Fl
noncomputable def rb {α β:Type} (m:Option (Rs α)) (f:α→Sto→Option (Rs β)):Option (Rs β):=match m with
 |some (.ok a S)=>f a S
 |some (.ex c S)=>some (.ex c S)
 |none=>none
noncomputable def sb {α:Type} (m:Option (Rs α)) (f:α→Sto→Option Fl):Option Fl:=match m with
 |some (.ok a S)=>f a S
 |some (.ex c S)=>some (.ex c S)
 |none=>none
theorem zT {α β:Type} {m:Option (Rs α)} {f:α→Sto→Option (Rs β)} {r:Rs β} (h:rb m f=some r):(∃a S,m=some (.ok a S)∧f a S=some r)∨∃c S,m=some (.ex c S)∧r= .ex c S:=by
 unfold rb at h
 split at h
 ·exact .inl ⟨_,_,rfl,h⟩
 ·cases h;exact .inr ⟨_,_,rfl,rfl⟩
 ·cases h
theorem Zg {α:Type} {m:Option (Rs α)} {f:α→Sto→Option Fl} {r:Fl} (h:sb m f=some r):(∃a S,m=some (.ok a S)∧f a S=some r)∨∃c S,m=some (.ex c S)∧r= .ex c S:=by
 unfold sb at h
 split at h
 ·exact .inl ⟨_,_,rfl,h⟩
 ·cases h;exact .inr ⟨_,_,rfl,rfl⟩
 ·cases h
noncomputable def PX (K:PySem.W.Frag) (F:Fm) (j:List Addr) (H:Hp) (E:XK) (c:Str) (S':Sto):Prop:=
 ∀j' H' σ' ρ' C,Ext j H j' H'→En K F j' H' σ' ρ' S'→PySem.W.nsIn K mainGlobals c=some (some (.ref C))→E (.ref C) none H'
theorem PX.mono {K:PySem.W.Frag} {F:Fm} {j j1:List Addr} {H H1:Hp} {E:XK} {c:Str} {S':Sto} (h:PX K F j H E c S') (e:Ext j H j1 H1):PX K F j1 H1 E c S':=fun j' H' σ' ρ' C x y z=>h j' H' σ' ρ' C (e.trans x) y z
noncomputable def Po {α:Type} (K:PySem.W.Frag) (F:Fm) (j:List Addr) (H:Hp) (σ:St) (ρ:Rho) (E:XK) (P:α→List Addr→Hp→Prop):Rs α→Prop
 | .ok a S'=>∀j' H',Ext j H j' H'→En K F j' H' σ ρ S'→P a j' H'
 | .ex c S'=>PX K F j H E c S'
theorem Po.step {α:Type} {K:PySem.W.Frag} {F:Fm} {j j1:List Addr} {H H1:Hp} {σ:St} {ρ:Rho} {E:XK} {P:α→List Addr→Hp→Prop}:∀{r:Rs α},Po K F j H σ ρ E P r→Ext j H j1 H1→Po K F j1 H1 σ ρ E P r
 | .ok a S',h,e=>fun j' H' x y=>h j' H' (e.trans x) y
 | .ex c S',h,e=>PX.mono h e
noncomputable abbrev PoV (K:PySem.W.Frag) (Q:VK):Xv→List Addr→Hp→Prop:=fun x j' H'=>∀v,Xis K j' H' x v→Q v H'
noncomputable def RE (K:PySem.W.Frag) (E:XK) (t:TE) (m:TwE):Prop:=∀{F:Fm} {j:List Addr} {σ:St} {H:Hp} {ρ:Rho} {S:Sto} {r:Rs Xv} {Q:VK},En K F j H σ ρ S→m ρ S=some r→Po K F j H σ ρ E (PoV K Q) r→t σ H Q
noncomputable def RT (K:PySem.W.Frag) (E:XK) (t:TT) (m:TwT):Prop:=∀{F:Fm} {j:List Addr} {σ:St} {H:Hp} {ρ:Rho} {S:Sto} {r:Rs Bool} {Q:Bool→Hp→Prop},En K F j H σ ρ S→m ρ S=some r→Po K F j H σ ρ E (fun b _ H'=>Q b H') r→t σ H Q
noncomputable def RL (K:PySem.W.Frag) (E:XK) (t:TA) (m:TwL):Prop:=∀{F:Fm} {j:List Addr} {σ:St} {H:Hp} {ρ:Rho} {S:Sto} {r:Rs (List Xv)} {Q:List V→Hp→Prop},En K F j H σ ρ S→m ρ S=some r→Po K F j H σ ρ E (fun xs j' H'=>∀vs,yC K j' H' xs vs→Q vs H') r→t σ H Q
noncomputable def RO (K:PySem.W.Frag) (E:XK) (t:TO) (m:TwO):Prop:=∀{F:Fm} {j:List Addr} {σ:St} {H:Hp} {ρ:Rho} {S:Sto} {r:Rs (Option Int)} {Q:Option Int→Hp→Prop},En K F j H σ ρ S→m ρ S=some r→Po K F j H σ ρ E (fun o _ H'=>Q o H') r→t σ H Q
noncomputable def PoG (K:PySem.W.Frag) (F:Fm) (j:List Addr) (H:Hp) (E:XK) (R:St→Hp→Prop):Rs Rho→Prop
 | .ok ρ' S'=>∀σ' j' H',Ext j H j' H'→En K F j' H' σ' ρ' S'→R σ' H'
 | .ex c S'=>PX K F j H E c S'
theorem PoG.step {K:PySem.W.Frag} {F:Fm} {j j1:List Addr} {H H1:Hp} {E:XK} {R:St→Hp→Prop}:∀{r:Rs Rho},PoG K F j H E R r→Ext j H j1 H1→PoG K F j1 H1 E R r
 | .ok a S',h,e=>fun σ' j' H' x y=>h σ' j' H' (e.trans x) y
 | .ex c S',h,e=>PX.mono h e
noncomputable def RG (K:PySem.W.Frag) (E:XK) (t:TG) (g:TwG):Prop:=∀{F:Fm} {j:List Addr} {σ:St} {H:Hp} {ρ:Rho} {S:Sto} {r:Rs Rho} {x:Xv} {v:V} {R:St→Hp→Prop},En K F j H σ ρ S→Xis K j H x v→g x ρ S=some r→PoG K F j H E R r→t v σ H R
noncomputable def RGs (K:PySem.W.Frag) (E:XK) (t:TGs) (g:zcy):Prop:=∀{F:Fm} {j:List Addr} {σ:St} {H:Hp} {ρ:Rho} {S:Sto} {r:Rs Rho} {xs:List Xv} {vs:List V} {R:St→Hp→Prop},En K F j H σ ρ S→yC K j H xs vs→g xs ρ S=some r→PoG K F j H E R r→t vs σ H R
noncomputable def zf7 (K:PySem.W.Frag) (F:Fm) (j:List Addr) (H:Hp) (E:XK) (D':VI):Fl→Prop
 | .nx ρ S=>∀σ j' H',Ext j H j' H'→En K F j' H' σ ρ S→D'.nx σ H'
 | .bk ρ S=>∀σ j' H',Ext j H j' H'→En K F j' H' σ ρ S→D'.bk σ H'
 | .ct ρ S=>∀σ j' H',Ext j H j' H'→En K F j' H' σ ρ S→D'.ct σ H'
 | .rt x S=>∀v σ ρ j' H',Ext j H j' H'→En K F j' H' σ ρ S→Xis K j' H' x v→D'.rt v H'
 | .ex c S=>PX K F j H E c S
theorem zf7.step {K:PySem.W.Frag} {F:Fm} {j j1:List Addr} {H H1:Hp} {E:XK} {D':VI}:∀{fl:Fl},zf7 K F j H E D' fl→Ext j H j1 H1→zf7 K F j1 H1 E D' fl
 | .nx _ _,h,e=>fun σ j' H' x y=>h σ j' H' (e.trans x) y
 | .bk _ _,h,e=>fun σ j' H' x y=>h σ j' H' (e.trans x) y
 | .ct _ _,h,e=>fun σ j' H' x y=>h σ j' H' (e.trans x) y
 | .rt _ _,h,e=>fun v σ ρ j' H' x y z=>h v σ ρ j' H' (e.trans x) y z
 | .ex _ _,h,e=>PX.mono h e
noncomputable def RS (K:PySem.W.Frag) (E:XK) (t:TS) (m:TwS):Prop:=∀{F:Fm} {j:List Addr} {D':VI} {σ:St} {H:Hp} {ρ:Rho} {S:Sto} {fl:Fl},En K F j H σ ρ S→m ρ S=some fl→zf7 K F j H E D' fl→t D' σ H
noncomputable def zhP (K:PySem.W.Frag) (j:List Addr) (H:Hp) (J:It) (get:Sto→Option (List Xv)):Prop:=∀{F:Fm} {j':List Addr} {H':Hp} {σ:St} {ρ:Rho} {S:Sto} {xs:List Xv} (i:Nat),Ext j H j' H'→En K F j' H' σ ρ S→get S=some xs→
 (∀x,xs[i]? =some x→J.go i H'∧∀v H'',J.yld i H' v H''→Vg H' H''∧Xis K j' H'' x v)∧(i=xs.length→J.stop i H')
noncomputable def RI (K:PySem.W.Frag) (E:XK) (t:TI) (m:TwI):Prop:=∀{F:Fm} {j:List Addr} {σ:St} {H:Hp} {ρ:Rho} {S:Sto} {r:Rs (Sto→Option (List Xv))} {R:It→Hp→Prop},En K F j H σ ρ S→m ρ S=some r→Po K F j H σ ρ E (fun get j' H'=>∀J,zhP K j' H' J get→R J H') r→t σ H R
noncomputable abbrev Op2:=Xv→Xv→Sto→Option (Xv×Sto)
noncomputable abbrev Opn:=List Xv→Sto→Option (Xv×Sto)
noncomputable def YT (K:PySem.W.Frag) (r:R2) (f:Op2):Prop:=∀{F:Fm} {j:List Addr} {σ:St} {H:Hp} {ρ:Rho} {S S':Sto} {x y z:Xv} {u v:V} {Q:VK},En K F j H σ ρ S→Xis K j H x u→Xis K j H y v→f x y S=some (z,S')→(∀w j' H',Ext j H j' H'→En K F j' H' σ ρ S'→Xis K j' H' z w→Q w H')→r u v H Q
noncomputable def zi8 (K:PySem.W.Frag) (r:V→Hp→VK→Prop) (f:Xv→Sto→Option (Xv×Sto)):Prop:=∀{F:Fm} {j:List Addr} {σ:St} {H:Hp} {ρ:Rho} {S S':Sto} {x z:Xv} {u:V} {Q:VK},En K F j H σ ρ S→Xis K j H x u→f x S=some (z,S')→(∀w j' H',Ext j H j' H'→En K F j' H' σ ρ S'→Xis K j' H' z w→Q w H')→r u H Q
noncomputable def Um (K:PySem.W.Frag) (r:List V→Hp→VK→Prop) (f:Opn):Prop:=∀{F:Fm} {j:List Addr} {σ:St} {H:Hp} {ρ:Rho} {S S':Sto} {xs:List Xv} {z:Xv} {vs:List V} {Q:VK},En K F j H σ ρ S→yC K j H xs vs→f xs S=some (z,S')→(∀w j' H',Ext j H j' H'→En K F j' H' σ ρ S'→Xis K j' H' z w→Q w H')→r vs H Q
noncomputable def zk (i:Nat):TwE:=fun ρ S=>match ρ[i]? with
 |some (some x)=>some (.ok x S)
 |_=>none
noncomputable def eC (x:Xv):TwE:=fun _ S=>some (.ok x S)
noncomputable def okP (o:Option (Xv×Sto)):Option (Rs Xv):=o.map fun p=> .ok p.1 p.2
theorem wP {o:Option (Xv×Sto)} {r:Rs Xv} (h:okP o=some r):∃z S,o=some (z,S)∧r= .ok z S:=by
 cases o with
 |none=>cases h
 |some p=>cases h;exact ⟨_,_,rfl,rfl⟩
noncomputable def eOp (f:Op2) (a b:TwE):TwE:=fun ρ S=>rb (a ρ S) fun x S1=>rb (b ρ S1) fun y S2=>okP (f x y S2)
noncomputable def eUn (f:Xv→Sto→Option (Xv×Sto)) (a:TwE):TwE:=fun ρ S=>rb (a ρ S) fun x S1=>okP (f x S1)
noncomputable def bE (m:TwE):TwT:=fun ρ S=>rb (m ρ S) fun x S1=>match x with
 | .bl b=>some (.ok b S1)
 |_=>none
noncomputable def eB (m:TwT):TwE:=fun ρ S=>rb (m ρ S) fun b S1=>some (.ok (.bl b) S1)
noncomputable def WQ (a b:TwT):TwT:=fun ρ S=>rb (a ρ S) fun x S1=>if x then b ρ S1 else some (.ok false S1)
noncomputable def bOr (a b:TwT):TwT:=fun ρ S=>rb (a ρ S) fun x S1=>if x then some (.ok true S1) else b ρ S1
noncomputable def WR (a:TwT):TwT:=fun ρ S=>rb (a ρ S) fun x S1=>some (.ok (!x) S1)
noncomputable def TK (a b:TwE):TwE:=fun ρ S=>rb (bE a ρ S) fun x S1=>if x then b ρ S1 else some (.ok (.bl false) S1)
noncomputable def evL:List TwE→TwL
 |[]=>fun _ S=>some (.ok [] S)
 |m::r=>fun ρ S=>rb (m ρ S) fun x S1=>rb (evL r ρ S1) fun xs S2=>some (.ok (x::xs) S2)
noncomputable def zH (ms:List TwE):TwE:=fun ρ S=>rb (evL ms ρ S) fun xs S1=>some (.ok (.tup xs) S1)
noncomputable def wf (ms:List TwE):TwE:=fun ρ S=>rb (evL ms ρ S) fun xs S1=>some (.ok (.ref S1.length) (S1++[.lst xs]))
noncomputable def eFn (f:Opn) (ms:List TwE):TwE:=fun ρ S=>rb (evL ms ρ S) fun xs S1=>okP (f xs S1)
noncomputable def zi9 (f:Xv→Xv→Option Xv):Op2:=fun x y S=>(f x y).map fun z=>(z,S)
theorem zeP {o:Option Xv} {S S':Sto} {z:Xv} (h:(o.map fun z=>(z,S))=some (z,S')):o=some z∧S'=S:=by
 cases o with
 |none=>cases h
 |some p=>cases h;exact ⟨rfl,rfl⟩
section
variable {K:PySem.W.Frag} {E:XK} {F:Fm} {j:List Addr} {H:Hp} {σ:St} {ρ:Rho} {S:Sto}
theorem Po.val {Q:VK} {x:Xv} {v:V} (k:Po K F j H σ ρ E (PoV K Q) (.ok x S)) (En0:En K F j H σ ρ S) (h:Xis K j H x v):Q v H:=k j H Ext.refl En0 v h
theorem ze (i:Nat):RE K E (zho i) (zk i):=by
 intro F j σ H ρ S r Q En0 e k
 unfold zk at e
 split at e
 ·rename_i x ex
  cases e
  obtain ⟨v,e1,e2⟩:=En0.slot i _ ex
  exact ⟨v,e1,k.val En0 e2⟩
 ·cases e
theorem zf8 {v:V} {x:Xv} (h:∀j H,Xis K j H x v):RE K E (tC v) (eC x):=fun En0 e k=>by
 cases e
 exact k.val En0 (h _ _)
theorem zh (i:Int):RE K E (tC (.int i)) (eC (.int i)):=zf8 fun _ _=> .int i
theorem zy (x:Str):RE K E (tC (.str x)) (eC (.str x)):=zf8 fun _ _=> .str x
theorem Zz (b:Bool):RE K E (tC (.bl b)) (eC (.bl b)):=zf8 fun _ _=> .bl b
theorem zu {r:R2} {f:Op2} {ta tb:TE} {a b:TwE} (ho:YT K r f) (ha:RE K E ta a) (hb:RE K E tb b):RE K E (tOp r ta tb) (eOp f a b):=by
 intro F j σ H ρ S r Q En0 e k
 rcases zT e with ⟨x,S1,e1,e⟩|⟨c,S1,e1,rfl⟩
 ·refine ha En0 e1 fun j1 H1 X1 E1 u hu=> ?_
  rcases zT e with ⟨y,S2,e2,e⟩|⟨c,S2,e2,rfl⟩
  ·obtain ⟨z,S3,e3,rfl⟩:=wP e
   exact hb E1 e2 fun j2 H2 X2 E2 v hv=>ho E2 (hu.mono X2) hv e3 fun w j3 H3 X3 E3 hw=>k _ _ (X1.trans (X2.trans X3)) E3 _ hw
  ·exact hb E1 e2 (PX.mono k X1)
 ·exact ha En0 e1 k
theorem zaz {r:V→Hp→VK→Prop} {f:Xv→Sto→Option (Xv×Sto)} {ta:TE} {a:TwE} (ho:zi8 K r f) (ha:RE K E ta a):RE K E (tUn r ta) (eUn f a):=by
 intro F j σ H ρ S r Q En0 e k
 rcases zT e with ⟨x,S1,e1,e⟩|⟨c,S1,e1,rfl⟩
 ·obtain ⟨z,S3,e3,rfl⟩:=wP e
  exact ha En0 e1 fun j1 H1 X1 E1 u hu=>ho E1 hu e3 fun w j3 H3 X3 E3 hw=>k _ _ (X1.trans X3) E3 _ hw
 ·exact ha En0 e1 k
theorem yS {t:TE} {m:TwE} (h:RE K E t m):RT K E (tB t) (bE m):=by
 intro F j σ H ρ S r Q En0 e k
 rcases zT e with ⟨x,S1,e1,e⟩|⟨c,S1,e1,rfl⟩
 ·split at e
  ·cases e
   exact h En0 e1 fun j1 H1 X1 E1 u hu=>⟨_,hu.bl_inv,k _ _ X1 E1⟩
  ·cases e
 ·exact h En0 e1 k
theorem xi {t:TE} {m:TwE} (h:RE K E t m):RT K E (zey t) (bE m):=yS h
theorem XO {t u:TT} {a b:TwT} (ha:RT K E t a) (hb:RT K E u b):RT K E (ziI t u) (WQ a b):=by
 intro F j σ H ρ S r Q En0 e k
 rcases zT e with ⟨x,S1,e1,e⟩|⟨c,S1,e1,rfl⟩
 ·refine ha En0 e1 fun j1 H1 X1 E1=> ?_
  cases x with
  |true=>exact hb E1 e (k.step X1)
  |false=>cases e;exact k _ _ X1 E1
 ·exact ha En0 e1 k
theorem zbK {t u:TT} {a b:TwT} (ha:RT K E t a) (hb:RT K E u b):RT K E (tOr t u) (bOr a b):=by
 intro F j σ H ρ S r Q En0 e k
 rcases zT e with ⟨x,S1,e1,e⟩|⟨c,S1,e1,rfl⟩
 ·refine ha En0 e1 fun j1 H1 X1 E1=> ?_
  cases x with
  |true=>cases e;exact k _ _ X1 E1
  |false=>exact hb E1 e (k.step X1)
 ·exact ha En0 e1 k
theorem XQ {t:TT} {a:TwT} (ha:RT K E t a):RT K E (ziJ t) (WR a):=by
 intro F j σ H ρ S r Q En0 e k
 rcases zT e with ⟨x,S1,e1,e⟩|⟨c,S1,e1,rfl⟩
 ·cases e
  exact ha En0 e1 fun j1 H1 X1 E1=>k _ _ X1 E1
 ·exact ha En0 e1 k
theorem VR {ta tb:TE} {a b:TwE} (ha:RE K E ta a) (hb:RE K E tb b):RE K E (zgP ta tb) (TK a b):=by
 intro F j σ H ρ S r Q En0 e k
 rcases zT e with ⟨x,S1,e1,e⟩|⟨c,S1,e1,rfl⟩
 ·rcases zT e1 with ⟨y,S2,e2,e1⟩|⟨c,S2,e2,z⟩
  ·split at e1
   ·cases e1
    refine ha En0 e2 fun j1 H1 X1 E1 u hu=>⟨_,hu.bl_inv,?_⟩
    cases x with
    |true=>exact hb E1 e (k.step X1)
    |false=>cases e;exact k _ _ X1 E1 _ (.bl false)
   ·cases e1
  ·cases z
 ·rcases zT e1 with ⟨y,S2,e2,e1⟩|⟨c,S2,e2,z⟩
  ·split at e1<;>cases e1
  ·cases z;exact ha En0 e2 k
theorem zhQ {ta:TE} {a:TwE} (ha:RE K E ta a):RE K E (zgQ ta) (eB (WR (bE a))):=by
 intro F j σ H ρ S r Q En0 e k
 rcases zT e with ⟨x,S1,e1,e⟩|⟨c,S1,e1,rfl⟩
 ·rcases zT e1 with ⟨y,S2,e2,e1⟩|⟨c,S2,e2,z⟩
  ·rcases zT e2 with ⟨z,S3,e3,e2⟩|⟨c,S3,e3,z⟩
   ·split at e2
    ·cases e2;cases e1;cases e
     exact ha En0 e3 fun j1 H1 X1 E1 u hu=>⟨_,hu.bl_inv,k _ _ X1 E1 _ (.bl _)⟩
    ·cases e2
   ·cases z
  ·cases z
 ·rcases zT e1 with ⟨y,S2,e2,e1⟩|⟨c,S2,e2,z⟩
  ·cases e1
  ·cases z
   rcases zT e2 with ⟨z,S3,e3,e2⟩|⟨c,S3,e3,z⟩
   ·split at e2<;>cases e2
   ·cases z;exact ha En0 e3 k
theorem zi:RL K E zfP (evL []):=fun En0 e k=>by
 cases e
 exact k _ _ Ext.refl En0 [] .nil
theorem zb {ta:TE} {tr:TA} {m:TwE} {ms:List TwE} (ha:RE K E ta m) (hr:RL K E tr (evL ms)):RL K E (zbu ta tr) (evL (m::ms)):=by
 intro F j σ H ρ S r Q En0 e k
 rcases zT e with ⟨x,S1,e1,e⟩|⟨c,S1,e1,rfl⟩
 ·refine ha En0 e1 fun j1 H1 X1 E1 u hu=> ?_
  rcases zT e with ⟨xs,S2,e2,e⟩|⟨c,S2,e2,rfl⟩
  ·cases e
   exact hr E1 e2 fun j2 H2 X2 E2 vs hv=>k _ _ (X1.trans X2) E2 (u::vs) (.cons (hu.mono X2) hv)
  ·exact hr E1 e2 (PX.mono k X1)
 ·exact ha En0 e1 k
theorem Uu:∀{ms:List TwE} {ρ:Rho} {S S':Sto} {xs:List Xv},evL ms ρ S=some (.ok xs S')→xs.length=ms.length
 |[],_,_,_,_,h=>by cases h;rfl
 |m::ms,ρ,S,S',xs,h=>by
  rcases zT h with ⟨x,S1,e1,h⟩|⟨c,S1,e1,z⟩
  ·rcases zT h with ⟨ys,S2,e2,h⟩|⟨c,S2,e2,z⟩
   ·cases h
    simp [Uu e2]
   ·cases z
  ·cases z
theorem zq {t:TA} {ms:List TwE} (h:RL K E t (evL ms)) (hl:ms.length≤1000:=by simp):RE K E (ziU t) (zH ms):=by
 intro F j σ H ρ S r Q En0 e k
 rcases zT e with ⟨xs,S1,e1,e⟩|⟨c,S1,e1,rfl⟩
 ·cases e
  refine h En0 e1 fun j1 H1 X1 E1 vs hv=>⟨?_,fun p hp=> ?_⟩
  ·rw [hv.len,Uu e1]
   exact Nat.le_trans hl (by decide)
  ·obtain ⟨E2,X2⟩:=E1.new (o:= .tup vs) hp
   exact k _ _ (X1.trans X2) E2 _ (.tup xC (hv.mono X2))
 ·exact h En0 e1 k
theorem En.lst {xs:List Xv} {vs:List V} {p:Addr} (En0:En K F j H σ ρ S) (hv:yC K j H xs vs) (hp:H p=none):En K F (j++[p]) (upd H p (.lst vs)) σ ρ (S++[.lst xs])∧Ext j H (j++[p]) (upd H p (.lst vs))∧Xis K (j++[p]) (upd H p (.lst vs)) (.ref S.length) (.ref p):=by
 have X:Ext j H (j++[p]) (upd H p (.lst vs)):=⟨fun n a e=>by rw [List.getElem?_append_left (List.getElem?_eq_some_iff.1 e).1];exact e,Zc.same (Zx hp)⟩
 obtain ⟨E1,_⟩:=En0.cell (o:= .lst vs) (c:= .lst xs) hp ⟨vs,xC,hv.mono X⟩
 exact ⟨E1,X,.ref (by rw [←En0.jl];simp)⟩
theorem xc {t:TA} {ms:List TwE} (h:RL K E t (evL ms)) (hl:ms.length≤1000:=by simp):RE K E (ziV t) (wf ms):=by
 intro F j σ H ρ S r Q En0 e k
 rcases zT e with ⟨xs,S1,e1,e⟩|⟨c,S1,e1,rfl⟩
 ·cases e
  refine h En0 e1 fun j1 H1 X1 E1 vs hv=>⟨?_,fun p hp=> ?_⟩
  ·rw [hv.len,Uu e1]
   exact Nat.le_trans hl (by decide)
  ·obtain ⟨E2,X2,h2⟩:=E1.lst hv hp
   exact k _ _ (X1.trans X2) E2 _ h2
 ·exact h En0 e1 k
theorem yn {t:TA} {ms:List TwE} {r:List V→Hp→VK→Prop} {f:Opn} (hr:Um K r f) (h:RL K E t (evL ms)):RE K E (tCB r t) (eFn f ms):=by
 intro F j σ H ρ S r Q En0 e k
 rcases zT e with ⟨xs,S1,e1,e⟩|⟨c,S1,e1,rfl⟩
 ·obtain ⟨z,S3,e3,rfl⟩:=wP e
  exact h En0 e1 fun j1 H1 X1 E1 vs hv=>hr E1 hv e3 fun w j3 H3 X3 E3 hw=>k _ _ (X1.trans X3) E3 _ hw
 ·exact h En0 e1 k
end
end L2
namespace L2
open PySem
noncomputable def yB (S:Sto):Xv→Option (List Xv)
 | .ref n=>match S[n]? with
  |some (.lst xs)=>some xs
  |some (.frz xs)=>some xs
  |_=>none
 |_=>none
noncomputable def ZY (S:Sto) (x:Xv):Option (List Xv):=match x.tupOf with
 |some xs=>some xs
 |none=>yB S x
noncomputable def VS (S:Sto):Xv→Option (Nat×List Xv)
 | .ref n=>match S[n]? with
  |some (.lst xs)=>some (n,xs)
  |_=>none
 |_=>none
section
variable {K:PySem.W.Frag} {E:XK} {F:Fm} {j:List Addr} {H:Hp} {σ:St} {ρ:Rho} {S:Sto} {x:Xv} {v:V}
theorem En.lstAt {xs:List Xv} (E0:En K F j H σ ρ S) (hx:Xis K j H x v) (h:L2.yB S x=some xs):∃a vs,v= .ref a∧SqX K H a vs∧yC K j H xs vs:=by
 cases x<;>simp only [L2.yB,reduceCtorEq] at h
 obtain ⟨a,rfl,hj⟩:=hx.ref_inv
 split at h
 ·cases h
  obtain ⟨vs,e1,e2⟩:=E0.cel _ _ _ (by assumption) hj
  exact ⟨a,vs,rfl,SqX.of e1,e2⟩
 ·cases h
  obtain ⟨vs,e1,e2⟩:=E0.cel _ _ _ (by assumption) hj
  refine ⟨a,vs,rfl,?_,e2⟩
  rcases e1 with ⟨o,e1⟩|e1
  ·exact .inl (.inr ⟨o,e1⟩)
  ·exact e1 H
 ·cases h
theorem En.seqAt {xs:List Xv} (E0:En K F j H σ ρ S) (hx:Xis K j H x v) (h:L2.ZY S x=some xs):∃a vs,v= .ref a∧(SqX K H a vs∨SqT K H a vs)∧yC K j H xs vs:=by
 unfold L2.ZY at h
 split at h
 ·cases h
  obtain ⟨a,vs,e1,e2,e3⟩:=hx.tupO (by assumption)
  exact ⟨a,vs,e1,.inr e2,e3⟩
 ·obtain ⟨a,vs,e1,e2,e3⟩:=E0.lstAt hx h
  exact ⟨a,vs,e1,.inl e2,e3⟩
theorem zaA {n:Nat} {xs:List Xv} (h:VS S x=some (n,xs)):x= .ref n∧S[n]? =some (.lst xs):=by
 cases x<;>simp only [VS,reduceCtorEq] at h
 split at h
 ·cases h;exact ⟨rfl,by assumption⟩
 ·cases h
theorem En.wl {n:Nat} {xs:List Xv} (E0:En K F j H σ ρ S) (hx:Xis K j H x v) (h:VS S x=some (n,xs)):∃a vs,v= .ref a∧j[n]? =some a∧H a=some (.lst vs)∧yC K j H xs vs:=by
 obtain ⟨rfl,hs⟩:=zaA h
 obtain ⟨a,rfl,hj⟩:=hx.ref_inv
 obtain ⟨vs,e1,e2⟩:=E0.cel _ _ _ hs hj
 exact ⟨a,vs,rfl,hj,e1,e2⟩
theorem En.wr {n:Nat} {xs ys:List Xv} {ws:List V} {a:Addr} (E0:En K F j H σ ρ S) (h:VS S x=some (n,xs)) (hj:j[n]? =some a) (hw:yC K j H ys ws):En K F j (upd H a (.lst ws)) σ ρ (S.set n (.lst ys))∧Ext j H j (upd H a (.lst ws)):=
 E0.write (zaA h).2 rfl hj rfl fun X=>⟨ws,xC,hw.mono X⟩
theorem tyL {a:Addr} {vs:List V} (h:SqL K H a vs):tyV K "list" (.ref a) H:= .inl ⟨rfl,vs,h⟩
noncomputable def yD:Op2:=fun x y S=>match x.tupOf,y with
 |some xs,.int i=>(atI xs i).map fun z=>(z,S)
 |_,_=>none
noncomputable def Yi:Op2:=fun x y S=>match yB S x,y with
 |some xs,.int i=>(atI xs i).map fun z=>(z,S)
 |_,_=>none
noncomputable def zaX:Op2:=zi9 fun x y=>match x,y with
 | .str z,.int i=>if z.length≤sizeLine then (atI z.cps.toList i).map fun c=> .str ⟨#[c]⟩ else none
 |_,_=>none
theorem yj:YT K (zhF K) yD:=by
 intro F j σ H ρ S S' x y z u v Q E0 hx hy h k
 unfold yD at h
 split at h
 ·rename_i xs i ex
  cases e:atI xs i with
  |none=>rw [e] at h;cases h
  |some z'=>
   rw [e] at h
   cases h
   obtain ⟨a,vs,rfl,h1,h2⟩:=hx.tupO ex
   obtain ⟨w,e1,e2⟩:=h2.at_ e
   exact ⟨a,vs,_,w,rfl,hy.int_inv,h1,e1,k _ _ _ Ext.refl E0 e2⟩
 ·cases h
theorem wv:YT K (zhE K) Yi:=by
 intro F j σ H ρ S S' x y z u v Q E0 hx hy h k
 unfold Yi at h
 split at h
 ·rename_i xs i ex
  cases e:atI xs i with
  |none=>rw [e] at h;cases h
  |some z'=>
   rw [e] at h
   cases h
   obtain ⟨a,vs,rfl,h1,h2⟩:=E0.lstAt hx ex
   obtain ⟨w,e1,e2⟩:=h2.at_ e
   exact ⟨a,vs,_,w,rfl,hy.int_inv,h1.sql,e1,k _ _ _ Ext.refl E0 e2⟩
 ·cases h
theorem UM:YT K ziY zaX:=by
 intro F j σ H ρ S S' x y z u v Q E0 hx hy h k
 obtain ⟨h',rfl⟩:=zeP h
 dsimp only at h'
 split at h'
 ·split at h'
  ·rename_i zz i hz
   cases e:atI zz.cps.toList i with
   |none=>rw [e] at h';cases h'
   |some c=>
    rw [e] at h'
    cases h'
    exact ⟨zz,i,c,hx.str_inv,hy.int_inv,hz,e,k _ _ _ Ext.refl E0 (.str _)⟩
  ·cases h'
 ·cases h'
noncomputable def oNo:TwO:=fun _ S=>some (.ok none S)
noncomputable def wJ (m:TwE):TwO:=fun ρ S=>rb (m ρ S) fun x S1=>match x with
 | .int i=>some (.ok (some i) S1)
 |_=>none
theorem Zd:RO K E zc8 oNo:=fun E0 e k=>by
 cases e
 exact k _ _ Ext.refl E0
theorem xL {t:TE} {m:TwE} (h:RE K E t m):RO K E (zgW t) (wJ m):=by
 intro F j σ H ρ S r Q En0 e k
 rcases zT e with ⟨x,S1,e1,e⟩|⟨c,S1,e1,rfl⟩
 ·split at e
  ·cases e
   exact h En0 e1 fun j1 H1 X1 E1 u hu=>⟨_,hu.int_inv,k _ _ X1 E1⟩
  ·cases e
 ·exact h En0 e1 k
noncomputable def XR {α:Type} (xs:List α) (lo hi:Option Int):List α:=(xs.drop (HT.sIx xs.length 0 lo)).take (HT.sIx xs.length xs.length hi-HT.sIx xs.length 0 lo)
theorem yC.cut {xs:List Xv} {vs:List V} (h:yC K j H xs vs) (lo hi:Option Int):yC K j H (XR xs lo hi) (Tw vs lo hi):=by
 unfold Tw XR
 rw [h.len]
 exact (h.drop _).take _
noncomputable def eSl (f:Xv→Option Int→Option Int→Sto→Option (Xv×Sto)) (m:TwE) (lo hi:TwO):TwE:=fun ρ S=>rb (m ρ S) fun x S1=>rb (lo ρ S1) fun y S2=>rb (hi ρ S2) fun z S3=>okP (f x y z S3)
noncomputable def zdf (K:PySem.W.Frag) (r:V→Option Int→Option Int→Hp→VK→Prop) (f:Xv→Option Int→Option Int→Sto→Option (Xv×Sto)):Prop:=∀{F:Fm} {j:List Addr} {σ:St} {H:Hp} {ρ:Rho} {S S':Sto} {x z:Xv} {lo hi:Option Int} {u:V} {Q:VK},En K F j H σ ρ S→Xis K j H x u→f x lo hi S=some (z,S')→(∀w j' H',Ext j H j' H'→En K F j' H' σ ρ S'→Xis K j' H' z w→Q w H')→r u lo hi H Q
theorem zeQ {r:V→Option Int→Option Int→Hp→VK→Prop} {f:Xv→Option Int→Option Int→Sto→Option (Xv×Sto)} {te:TE} {tl th:TO} {m:TwE} {lo hi:TwO} (ho:zdf K r f) (hm:RE K E te m) (hl:RO K E tl lo) (hh:RO K E th hi):RE K E (tSl r te tl th) (eSl f m lo hi):=by
 intro F j σ H ρ S r Q En0 e k
 rcases zT e with ⟨x,S1,e1,e⟩|⟨c,S1,e1,rfl⟩
 ·refine hm En0 e1 fun j1 H1 X1 E1 u hu=> ?_
  rcases zT e with ⟨y,S2,e2,e⟩|⟨c,S2,e2,rfl⟩
  ·refine hl E1 e2 fun j2 H2 X2 E2=> ?_
   rcases zT e with ⟨z,S3,e3,e⟩|⟨c,S3,e3,rfl⟩
   ·obtain ⟨w,S4,e4,rfl⟩:=wP e
    exact hh E2 e3 fun j3 H3 X3 E3=>ho E3 (hu.mono (X2.trans X3)) e4 fun w j4 H4 X4 E4 hw=>k _ _ (X1.trans (X2.trans (X3.trans X4))) E4 _ hw
   ·exact hh E2 e3 (PX.mono k (X1.trans X2))
  ·exact hl E1 e2 (PX.mono k X1)
 ·exact hm En0 e1 k
noncomputable def WB:Xv→Option Int→Option Int→Sto→Option (Xv×Sto):=fun x lo hi S=>(yB S x).map fun xs=>(.ref S.length,S++[.lst (XR xs lo hi)])
theorem zja:zdf K (zeB K) WB:=by
 intro F j σ H ρ S S' x z lo hi u Q E0 hx h k
 unfold WB at h
 cases e:yB S x with
 |none=>rw [e] at h;cases h
 |some xs=>
  rw [e] at h
  cases h
  obtain ⟨a,vs,rfl,h1,h2⟩:=E0.lstAt hx e
  refine ⟨a,vs,rfl,h1.sql,fun p hp=> ?_⟩
  obtain ⟨E1,X1,h3⟩:=E0.lst (h2.cut lo hi) hp
  exact k _ _ _ X1 E1 h3
noncomputable def zbL:Xv→Option Int→Option Int→Sto→Option (Xv×Sto):=fun x lo hi S=>match x with
 | .str z=>if z.length≤sizeLine then some (.str (Txt.slice z lo hi),S) else none
 |_=>none
theorem zjb:zdf K zf5 zbL:=by
 intro F j σ H ρ S S' x z lo hi u Q E0 hx h k
 unfold zbL at h
 split at h
 ·split at h
  ·cases h
   exact ⟨_,hx.str_inv,by assumption,k _ _ _ Ext.refl E0 (.str _)⟩
  ·cases h
 ·cases h
noncomputable def Vh:Xv→Option Int→Option Int→Sto→Option (Xv×Sto):=fun x lo hi S=>match x with
 | .tup xs=>some (.tup (XR xs lo hi),S)
 |_=>none
theorem zd2 {α:Type} {xs:List α} {lo hi:Option Int} (h:HT.sIx xs.length 0 lo=0∧HT.sIx xs.length xs.length hi=xs.length):XR xs lo hi=xs:=by
 unfold XR
 rw [h.1,h.2]
 simp
theorem zjc:zdf K (zf6 K) Vh:=by
 intro F j σ H ρ S S' x z lo hi u Q E0 hx h k
 unfold Vh at h
 split at h
 ·rename_i xs
  cases h
  obtain ⟨a,vs,rfl,h1,h2⟩:=hx.tup_inv
  refine ⟨a,vs,rfl,SqT.of h1,fun hw=>k _ _ _ Ext.refl E0 ?_,fun _ p hp=> ?_⟩
  ·rw [h2.len] at hw
   rw [zd2 hw]
   exact hx
  ·obtain ⟨E1,X1⟩:=E0.new (o:= .tup (Tw vs lo hi)) hp
   exact k _ _ _ X1 E1 (.tup xC ((h2.cut lo hi).mono X1))
 ·cases h
theorem WT {te:TE} {tl th:TO} {m:TwE} {lo hi:TwO} (hm:RE K E te m) (hl:RO K E tl lo) (hh:RO K E th hi):RE K E (tSl (zeB K) te tl th) (eSl WB m lo hi):= @zeQ K E (zeB K) WB te tl th m lo hi (@zja K) hm hl hh
theorem zhR {te:TE} {tl th:TO} {m:TwE} {lo hi:TwO} (hm:RE K E te m) (hl:RO K E tl lo) (hh:RO K E th hi):RE K E (tSl zf5 te tl th) (eSl zbL m lo hi):= @zeQ K E zf5 zbL te tl th m lo hi (@zjb K) hm hl hh
theorem XS {te:TE} {tl th:TO} {m:TwE} {lo hi:TwO} (hm:RE K E te m) (hl:RO K E tl lo) (hh:RO K E th hi):RE K E (tSl (zf6 K) te tl th) (eSl Vh m lo hi):= @zeQ K E (zf6 K) Vh te tl th m lo hi (@zjc K) hm hl hh
noncomputable abbrev OpM:=Xv→List Xv→Sto→Option (Xv×Sto)
noncomputable def zeR (K:PySem.W.Frag) (r:V→List V→Hp→VK→Prop) (f:OpM):Prop:=∀{F:Fm} {j:List Addr} {σ:St} {H:Hp} {ρ:Rho} {S S':Sto} {x z:Xv} {ys:List Xv} {u:V} {vs:List V} {Q:VK},En K F j H σ ρ S→Xis K j H x u→yC K j H ys vs→f x ys S=some (z,S')→(∀w j' H',Ext j H j' H'→En K F j' H' σ ρ S'→Xis K j' H' z w→Q w H')→r u vs H Q
noncomputable def eMt (f:OpM) (o:TwE) (ms:List TwE):TwE:=fun ρ S=>rb (o ρ S) fun x S1=>(yB S1 x).bind fun _=>rb (evL ms ρ S1) fun ys S2=>okP (f x ys S2)
theorem Ug {r:V→List V→Hp→VK→Prop} {f:OpM} {to:TE} {t:TA} {o:TwE} {ms:List TwE} (hr:zeR K r f) (ho:RE K E to o) (ht:RL K E t (evL ms)):RE K E (tBM K "list" r to t) (eMt f o ms):=by
 intro F j σ H ρ S r Q En0 e k
 rcases zT e with ⟨x,S1,e1,e⟩|⟨c,S1,e1,rfl⟩
 ·refine ho En0 e1 fun j1 H1 X1 E1 u hu=> ?_
  cases el:L2.yB S1 x with
  |none=>rw [el] at e;cases e
  |some l=>
   rw [el] at e
   obtain ⟨a,vs,rfl,h1,_⟩:=E1.lstAt hu el
   refine ⟨tyL h1.sql,?_⟩
   rcases zT e with ⟨ys,S2,e2,e⟩|⟨c,S2,e2,rfl⟩
   ·obtain ⟨z,S3,e3,rfl⟩:=wP e
    exact ht E1 e2 fun j2 H2 X2 E2 ws hw=>hr E2 (hu.mono X2) hw e3 fun w j3 H3 X3 E3 hz=>k _ _ (X1.trans (X2.trans X3)) E3 _ hz
   ·exact ht E1 e2 (PX.mono k X1)
 ·exact ho En0 e1 k
theorem zhS {r:V→List V→Hp→VK→Prop} {f:OpM} {to:TE} {o:TwE} (hr:zeR K r f) (ho:RE K E to o):RE K E (ziZ K "list" r to) (eMt f o []):=by
 intro F j σ H ρ S r Q En0 e k
 exact Ug hr ho zi En0 e k
noncomputable def wg:OpM:=fun x ys S=>match VS S x,ys with
 |some (n,xs),[y]=>if xs.length<sizeLine then some (.non,S.set n (.lst (xs++[y]))) else none
 |_,_=>none
theorem Zp:zeR K zda wg:=by
 intro F j σ H ρ S S' x z ys u vs Q E0 hx hy h k
 unfold wg at h
 split at h
 ·rename_i n xs y e
  split at h
  ·rename_i hl
   cases h
   obtain ⟨a,ws,rfl,hj,h1,h2⟩:=E0.wl hx e
   obtain ⟨w,rfl,hw⟩:=hy.d1
   obtain ⟨E1,X1⟩:=E0.wr e hj (h2.append (.one hw))
   exact ⟨a,ws,w,rfl,rfl,h1,by rw [h2.len];exact hl,k _ _ _ X1 E1 .non⟩
  ·cases h
 ·cases h
noncomputable def zd3:OpM:=fun x ys S=>match VS S x,ys with
 |some (n,xs),[]=>(xs[xs.length-1]?).map fun y=>(y,S.set n (.lst xs.dropLast))
 |_,_=>none
theorem zhT:zeR K zi0 zd3:=by
 intro F j σ H ρ S S' x z ys u vs Q E0 hx hy h k
 unfold zd3 at h
 split at h
 ·rename_i n xs e
  cases e1:xs[xs.length-1]? with
  |none=>rw [e1] at h;cases h
  |some y=>
   rw [e1] at h
   cases h
   obtain ⟨a,ws,rfl,hj,h1,h2⟩:=E0.wl hx e
   obtain rfl:=hy.nil_inv
   obtain ⟨w,f1,f2⟩:=h2.get e1
   obtain ⟨E1,X1⟩:=E0.wr e hj h2.dropLast
   exact ⟨a,ws,w,rfl,rfl,h1,by rw [h2.len];exact f1,k _ _ _ X1 E1 (f2.mono X1)⟩
 ·cases h
noncomputable def Vi:OpM:=fun x ys S=>match VS S x,ys with
 |some (n,xs),[y]=>(ZY S y).bind fun zs=>if xs.length+zs.length≤sizeLine then some (.non,S.set n (.lst (xs++zs))) else none
 |_,_=>none
theorem zd4:zeR K (zbJ K) Vi:=by
 intro F j σ H ρ S S' x z ys u vs Q E0 hx hy h k
 unfold Vi at h
 split at h
 ·rename_i n xs y e
  cases e1:ZY S y with
  |none=>rw [e1] at h;cases h
  |some zs=>
   rw [e1] at h
   dsimp only [Option.bind] at h
   split at h
   ·rename_i hl
    cases h
    obtain ⟨a,ws,rfl,hj,h1,h2⟩:=E0.wl hx e
    obtain ⟨w,rfl,hw⟩:=hy.d1
    obtain ⟨b,ts,rfl,g1,g2⟩:=E0.seqAt hw e1
    obtain ⟨E1,X1⟩:=E0.wr e hj (h2.append g2)
    exact ⟨a,b,ws,ts,rfl,rfl,h1,g1,by rw [h2.len,g2.len];exact hl,k _ _ _ X1 E1 .non⟩
   ·cases h
 ·cases h
noncomputable def zF (a b:TwS):TwS:=fun ρ S=>match a ρ S with
 |some (.nx ρ1 S1)=>b ρ1 S1
 |r=>r
noncomputable def zY:TwS:=fun ρ S=>some (.nx ρ S)
noncomputable def zR (m:TwE) (g:TwG):TwS:=fun ρ S=>sb (m ρ S) fun x S1=>sb (g x ρ S1) fun ρ1 S2=>some (.nx ρ1 S2)
noncomputable def XB (m:TwE):TwS:=fun ρ S=>sb (m ρ S) fun _ S1=>some (.nx ρ S1)
noncomputable def yd (m:TwE):TwS:=fun ρ S=>sb (m ρ S) fun x S1=>some (.rt x S1)
noncomputable def sIf (c:TwT) (a b:TwS):TwS:=fun ρ S=>sb (c ρ S) fun x S1=>if x then a ρ S1 else b ρ S1
noncomputable def Uo (r:Option Fl) (go:Rho→Sto→Option Fl):Option Fl:=match r with
 |some (.nx ρ S)=>go ρ S
 |some (.ct ρ S)=>go ρ S
 |some (.bk ρ S)=>some (.nx ρ S)
 |r=>r
noncomputable def XT (get:Sto→Option (List Xv)) (g:TwG) (b:TwS):Nat→Nat→Rho→Sto→Option Fl
 |0,_,_,_=>none
 |f+1,i,ρ,S=>(get S).bind fun xs=>match xs[i]? with
  |none=>if i=xs.length then some (.nx ρ S) else none
  |some x=>sb (g x ρ S) fun ρ1 S1=>Uo (b ρ1 S1) fun ρ2 S2=>XT get g b f (i+1) ρ2 S2
noncomputable def Vj (m:TwI) (g:TwG) (b:TwS):TwS:=fun ρ S=>sb (m ρ S) fun get S1=>(get S1).bind fun xs=>XT get g b (xs.length+1) 0 ρ S1
noncomputable def Vk (c:TwT) (b:TwS):Nat→Rho→Sto→Option Fl
 |0,_,_=>none
 |n+1,ρ,S=>sb (c ρ S) fun x S1=>if x then Uo (b ρ S1) fun ρ2 S2=>Vk c b n ρ2 S2 else some (.nx ρ S1)
noncomputable def sWh (n:Nat) (c:TwT) (b:TwS):TwS:=fun ρ S=>Vk c b n ρ S
noncomputable def gN (i:Nat):TwG:=fun x ρ S=>some (.ok (ρ.set i (some x)) S)
noncomputable def vf:zcy:=fun xs ρ S=>match xs with
 |[]=>some (.ok ρ S)
 |_=>none
noncomputable def yH (g:TwG) (gs:zcy):zcy:=fun xs ρ S=>match xs with
 |x::r=>rb (g x ρ S) fun ρ1 S1=>gs r ρ1 S1
 |_=>none
noncomputable def gT (n:Nat) (gs:zcy):TwG:=fun x ρ S=>x.tupOf.bind fun l=>if l.length=n then gs l ρ S else none
noncomputable def VT (o mi:TwE):TwG:=fun d ρ S=>rb (o ρ S) fun x S1=>rb (mi ρ S1) fun y S2=>match VS S2 x,y with
 |some (n,xs),.int i=>(ixN xs.length i).map fun k=> .ok ρ (S2.set n (.lst (xs.set k d)))
 |_,_=>none
theorem zm {i:Nat}:RG K E (zcZ i) (gN i):=fun E0 hx e k=>by
 cases e
 exact k _ _ _ Ext.refl (E0.set hx)
theorem wj:RGs K E ziO vf:=by
 intro F j σ H ρ S r xs vs R E0 hv e k
 unfold vf at e
 split at e
 ·cases e
  obtain rfl:=hv.nil_inv
  exact ⟨rfl,k _ _ _ Ext.refl E0⟩
 ·cases e
theorem yq {t:TG} {u:TGs} {g:TwG} {gs:zcy} (h1:RG K E t g) (h2:RGs K E u gs):RGs K E (zgT t u) (yH g gs):=by
 intro F j σ H ρ S r xs vs R E0 hv e k
 unfold yH at e
 split at e
 ·obtain ⟨w,ws,rfl,hw,hws⟩:=hv.cons_inv
  rcases zT e with ⟨ρ1,S1,e1,e⟩|⟨c,S1,e1,rfl⟩
  ·exact ⟨w,ws,rfl,h1 E0 hw e1 fun σ1 j1 H1 X1 E1=>h2 E1 (hws.mono X1) e (k.step X1)⟩
  ·exact ⟨w,ws,rfl,h1 E0 hw e1 k⟩
 ·cases e
theorem vm {n:Nat} {t:TGs} {gs:zcy} (h:RGs K E t gs):RG K E (zhs K n t) (gT n gs):=by
 intro F j σ H ρ S r x v R E0 hx e k
 unfold gT at e
 cases ex:x.tupOf with
 |none=>rw [ex] at e;cases e
 |some l=>
  rw [ex] at e
  dsimp only [Option.bind] at e
  split at e
  ·rename_i hn
   obtain ⟨a,vs,rfl,h1,h2⟩:=hx.tupO ex
   exact ⟨a,vs,rfl,h1,by rw [h2.len];exact hn,h E0 h2 e k⟩
  ·cases e
theorem Vl {to ti:TE} {o mi:TwE} (ho:RE K E to o) (hi:RE K E ti mi):RG K E (ziP to ti zgX) (VT o mi):=by
 intro F j σ H ρ S r d vd R E0 hd e k
 rcases zT e with ⟨x,S1,e1,e⟩|⟨c,S1,e1,rfl⟩
 ·refine ho E0 e1 fun j1 H1 X1 E1 u hu=> ?_
  rcases zT e with ⟨y,S2,e2,e⟩|⟨c,S2,e2,rfl⟩
  ·refine hi E1 e2 fun j2 H2 X2 E2 w hw=> ?_
   split at e
   ·rename_i n xs i ex
    cases e3:ixN xs.length i with
    |none=>rw [e3] at e;cases e
    |some m=>
     rw [e3] at e
     cases e
     obtain ⟨a,vs,rfl,hj,h1,h2⟩:=E2.wl (hu.mono X2) ex
     obtain ⟨E3,X3⟩:=E2.wr ex hj (h2.set (hd.mono (X1.trans X2)) m)
     exact ⟨a,vs,i,m,rfl,hw.int_inv,h1,by rw [h2.len];exact e3,k _ _ _ (X1.trans (X2.trans X3)) E3⟩
   ·cases e
  ·exact hi E1 e2 (PX.mono k X1)
 ·exact ho E0 e1 k
theorem zN:RS K E zgR zY:=fun E0 e k=>by
 cases e
 exact k _ _ _ Ext.refl E0
theorem zo {t u:TS} {a b:TwS} (ha:RS K E t a) (hb:RS K E u b):RS K E (ziK t u) (zF a b):=by
 intro F j D' σ H ρ S fl E0 e k
 unfold zF at e
 split at e
 ·rename_i ρ1 S1 e1
  exact ha (D':={D' with nx:=u D'}) E0 e1 fun σ1 j1 H1 X1 E1=>hb E1 e (k.step X1)
 ·rename_i hn
  refine ha (D':={D' with nx:=u D'}) E0 e ?_
  cases fl with
  |nx ρ1 S1=>exact absurd e (hn ρ1 S1)
  |bk ρ1 S1=>exact k
  |ct ρ1 S1=>exact k
  |rt x S1=>exact k
  |ex c S1=>exact k
theorem zC {te:TE} {g:TG} {m:TwE} {g':TwG} (h:RE K E te m) (hg:RG K E g g'):RS K E (zhu te g) (zR m g'):=by
 intro F j D' σ H ρ S fl E0 e k
 rcases Zg e with ⟨x,S1,e1,e⟩|⟨c,S1,e1,rfl⟩
 ·refine h E0 e1 fun j1 H1 X1 E1 u hu=> ?_
  rcases Zg e with ⟨ρ1,S2,e2,e⟩|⟨c,S2,e2,rfl⟩
  ·cases e
   exact hg E1 hu e2 fun σ2 j2 H2 X2 E2=>k _ _ _ (X1.trans X2) E2
  ·exact hg E1 hu e2 (PX.mono k X1)
 ·exact h E0 e1 k
theorem YU {te:TE} {m:TwE} (h:RE K E te m):RS K E (zgS te) (XB m):=by
 intro F j D' σ H ρ S fl E0 e k
 rcases Zg e with ⟨x,S1,e1,e⟩|⟨c,S1,e1,rfl⟩
 ·cases e
  exact h E0 e1 fun j1 H1 X1 E1 u hu=>k _ _ _ X1 E1
 ·exact h E0 e1 k
theorem zJ {te:TE} {m:TwE} (h:RE K E te m):RS K E (ziL te) (yd m):=by
 intro F j D' σ H ρ S fl E0 e k
 rcases Zg e with ⟨x,S1,e1,e⟩|⟨c,S1,e1,rfl⟩
 ·cases e
  exact h E0 e1 fun j1 H1 X1 E1 u hu=>k _ _ _ _ _ X1 E1 hu
 ·exact h E0 e1 k
theorem yi {c:TT} {t u:TS} {m:TwT} {a b:TwS} (hc:RT K E c m) (ha:RS K E t a) (hb:RS K E u b):RS K E (ziM c t u) (sIf m a b):=by
 intro F j D' σ H ρ S fl E0 e k
 rcases Zg e with ⟨x,S1,e1,e⟩|⟨c,S1,e1,rfl⟩
 ·refine hc E0 e1 fun j1 H1 X1 E1=> ?_
  cases x with
  |true=>exact ha E1 e (k.step X1)
  |false=>exact hb E1 e (k.step X1)
 ·exact hc E0 e1 k
theorem zaB {r:Option Fl} {go:Rho→Sto→Option Fl} {fl:Fl} (h:Uo r go=some fl):∃f,r=some f∧((∃ρ S,(f= .nx ρ S∨f= .ct ρ S)∧go ρ S=some fl)∨(∃ρ S,f= .bk ρ S∧fl= .nx ρ S)∨(f=fl∧((∃x S,fl= .rt x S)∨∃c S,fl= .ex c S))):=by
 unfold Uo at h
 split at h
 ·exact ⟨_,rfl,.inl ⟨_,_,.inl rfl,h⟩⟩
 ·exact ⟨_,rfl,.inl ⟨_,_,.inr rfl,h⟩⟩
 ·cases h;exact ⟨_,rfl,.inr (.inl ⟨_,_,rfl,rfl⟩)⟩
 ·rename_i n1 n2 n3
  refine ⟨fl,h,.inr (.inr ⟨rfl,?_⟩)⟩
  cases fl with
  |nx ρ S=>exact absurd h (n1 ρ S)
  |ct ρ S=>exact absurd h (n2 ρ S)
  |bk ρ S=>exact absurd h (n3 ρ S)
  |rt x S=>exact .inl ⟨x,S,rfl⟩
  |ex c S=>exact .inr ⟨c,S,rfl⟩
theorem YV {wi:TI} {g:TG} {tb:TS} {m:TwI} {g':TwG} {b:TwS} (hi:RI K E wi m) (hg:RG K E g g') (hb:RS K E tb b):RS K E (ziQ wi g tb) (Vj m g' b):=by
 intro F j D' σ H ρ S fl E0 e k
 rcases Zg e with ⟨get,S1,e1,e⟩|⟨c,S1,e1,rfl⟩
 ·refine hi E0 e1 fun j1 H1 X1 E1 J ok=> ?_
  cases eg:get S1 with
  |none=>rw [eg] at e;cases e
  |some xs=>
   rw [eg] at e
   refine ⟨fun i n σ H=>∃j2 ρ2 S2,Ext j1 H1 j2 H∧En K F j2 H σ ρ2 S2∧XT get g' b n i ρ2 S2=some fl,⟨xs.length+1,j1,ρ,S1,Ext.refl,E1,e⟩,?_⟩
   rintro i n σ2 H2 ⟨j2,ρ2,S2,X2,E2,e2⟩
   cases n with
   |zero=>cases e2
   |succ n=>
    unfold XT at e2
    cases eg2:get S2 with
    |none=>rw [eg2] at e2;cases e2
    |some ys=>
     rw [eg2] at e2
     dsimp only [Option.bind] at e2
     obtain ⟨go,stop⟩:=ok i X2 E2 eg2
     split at e2
     ·split at e2
      ·rename_i hl
       cases e2
       exact .inl ⟨stop hl,k _ _ _ (X1.trans X2) E2⟩
      ·cases e2
     ·rename_i x ex
      obtain ⟨g1,g2⟩:=go x ex
      refine .inr ⟨g1,fun σ' H'=>∃j3 ρ3 S3,Ext j1 H1 j3 H'∧En K F j3 H' σ' ρ3 S3∧XT get g' b n (i+1) ρ3 S3=some fl,fun _ _ z=>⟨n,Nat.lt_succ_self _,z⟩,fun v H3 hy=> ?_⟩
      obtain ⟨Sm,hv⟩:=g2 v H3 hy
      have E3:=E2.heap Sm
      have X3:Ext j2 H2 j2 H3:=Ext.same Sm
      rcases Zg e2 with ⟨ρ4,S4,e4,e2⟩|⟨c,S4,e4,rfl⟩
      ·refine hg E3 hv e4 fun σ4 j4 H4 X4 E4=> ?_
       obtain ⟨f5,e5,h5⟩:=zaB e2
       refine hb E4 e5 ?_
       have X14:=X2.trans (X3.trans X4)
       rcases h5 with ⟨ρ6,S6,h6,e6⟩|⟨ρ6,S6,rfl,rfl⟩|⟨rfl,h6⟩
       ·rcases h6 with rfl|rfl
        ·exact fun σ5 j5 H5 X5 E5=>⟨j5,ρ6,S6,X14.trans X5,E5,e6⟩
        ·exact fun σ5 j5 H5 X5 E5=>⟨j5,ρ6,S6,X14.trans X5,E5,e6⟩
       ·exact fun σ5 j5 H5 X5 E5=>k _ _ _ (X1.trans (X14.trans X5)) E5
       ·rcases h6 with ⟨x6,S6,rfl⟩|⟨c6,S6,rfl⟩
        ·exact fun v σ5 ρ5 j5 H5 X5 E5 hv=>k v σ5 ρ5 _ _ (X1.trans (X14.trans X5)) E5 hv
        ·exact PX.mono k (X1.trans X14)
      ·exact hg E3 hv e4 (PX.mono k (X1.trans (X2.trans X3)))
 ·exact hi E0 e1 k
theorem XU {c:TT} {tb:TS} {m:TwT} {b:TwS} {n:Nat} (hc:RT K E c m) (hb:RS K E tb b):RS K E (zes c tb) (sWh n m b):=by
 intro F j D' σ H ρ S fl E0 e k
 refine ⟨fun n σ2 H2=>∃j2 ρ2 S2,Ext j H j2 H2∧En K F j2 H2 σ2 ρ2 S2∧Vk m b n ρ2 S2=some fl,⟨n,j,ρ,S,Ext.refl,E0,e⟩,?_⟩
 rintro n σ2 H2 ⟨j2,ρ2,S2,X2,E2,e2⟩
 cases n with
 |zero=>cases e2
 |succ n=>
  unfold Vk at e2
  rcases Zg e2 with ⟨x,S3,e3,e2⟩|⟨c,S3,e3,rfl⟩
  ·refine hc E2 e3 fun j3 H3 X3 E3=> ?_
   have X13:=X2.trans X3
   cases x with
   |false=>cases e2;exact k _ _ _ X13 E3
   |true=>
    obtain ⟨f5,e5,h5⟩:=zaB e2
    refine ⟨fun σ' H'=>∃j3 ρ3 S3,Ext j H j3 H'∧En K F j3 H' σ' ρ3 S3∧Vk m b n ρ3 S3=some fl,fun σ' H' z=>⟨n,Nat.lt_succ_self _,z⟩,hb E3 e5 ?_⟩
    rcases h5 with ⟨ρ6,S6,h6,e6⟩|⟨ρ6,S6,rfl,rfl⟩|⟨rfl,h6⟩
    ·rcases h6 with rfl|rfl
     ·exact fun σ5 j5 H5 X5 E5=>⟨j5,ρ6,S6,X13.trans X5,E5,e6⟩
     ·exact fun σ5 j5 H5 X5 E5=>⟨j5,ρ6,S6,X13.trans X5,E5,e6⟩
    ·exact fun σ5 j5 H5 X5 E5=>k _ _ _ (X13.trans X5) E5
    ·rcases h6 with ⟨x6,S6,rfl⟩|⟨c6,S6,rfl⟩
     ·exact fun v σ5 ρ5 j5 H5 X5 E5 hv=>k v σ5 ρ5 _ _ (X13.trans X5) E5 hv
     ·exact PX.mono k X13
  ·exact hc E2 e3 (PX.mono k X2)
noncomputable def iL (m:TwE):TwI:=fun ρ S=>rb (m ρ S) fun x S1=>(yB S1 x).map fun _=> .ok (fun S=>yB S x) S1
noncomputable def iT (m:TwE):TwI:=fun ρ S=>rb (m ρ S) fun x S1=>x.tupOf.map fun l=> .ok (fun _=>some l) S1
theorem zaY {t:TE} {m:TwE} (h:RE K E t m):RI K E (zeu K t) (iL m):=by
 intro F j σ H ρ S r R En0 e k
 rcases zT e with ⟨x,S1,e1,e⟩|⟨c,S1,e1,rfl⟩
 ·cases el:yB S1 x with
  |none=>rw [el] at e;cases e
  |some l=>
   rw [el] at e
   cases e
   refine h En0 e1 fun j1 H1 X1 E1 u hu=> ?_
   obtain ⟨a,vs,rfl,h1,_⟩:=E1.lstAt hu el
   refine ⟨a,rfl,⟨vs,h1.sql⟩,k _ _ X1 E1 _ ?_⟩
   intro F2 j2 H2 σ2 ρ2 S2 xs i X2 E2 e2
   obtain ⟨a',ws,ea,g1,g2⟩:=E2.lstAt (hu.mono X2) e2
   cases ea
   refine ⟨fun y ey=> ?_,fun hle=>⟨ws,g1.sql,by rw [g2.len];omega⟩⟩
   obtain ⟨w,f1,f2⟩:=g2.get ey
   refine ⟨⟨ws,w,g1.sql,f1⟩,?_⟩
   rintro v' H' ⟨rfl,hx⟩
   have:=hx ws g1.sql
   rw [f1] at this
   cases this
   exact ⟨Vg.refl _,f2⟩
 ·exact h En0 e1 k
theorem ZB {t:TE} {m:TwE} (h:RE K E t m):RI K E (zhv K t) (iT m):=by
 intro F j σ H ρ S r R En0 e k
 rcases zT e with ⟨x,S1,e1,e⟩|⟨c,S1,e1,rfl⟩
 ·cases el:x.tupOf with
  |none=>rw [el] at e;cases e
  |some l=>
   rw [el] at e
   cases e
   refine h En0 e1 fun j1 H1 X1 E1 u hu=> ?_
   obtain ⟨a,vs,rfl,h1,_⟩:=hu.tupO el
   refine ⟨a,rfl,⟨vs,h1⟩,k _ _ X1 E1 _ ?_⟩
   intro F2 j2 H2 σ2 ρ2 S2 xs i X2 E2 e2
   cases e2
   obtain ⟨a',ws,ea,g1,g2⟩:=(hu.mono X2).tupO el
   cases ea
   refine ⟨fun y ey=> ?_,fun hle=>⟨ws,g1,by rw [g2.len];omega⟩⟩
   obtain ⟨w,f1,f2⟩:=g2.get ey
   refine ⟨⟨ws,w,g1,f1⟩,?_⟩
   rintro v' H' ⟨rfl,hx⟩
   have:=hx ws g1
   rw [f1] at this
   cases this
   exact ⟨Vg.refl _,f2⟩
 ·exact h En0 e1 k
noncomputable def wQ (lo:Int) (n:Nat):List Xv:=(List.range n).map fun (k:Nat)=>Xv.int (lo+(k:Int))
noncomputable def iR1 (m:TwE):TwI:=fun ρ S=>rb (m ρ S) fun x S1=>match x with
 | .int j=>if -(2^62)≤j∧j<2^62 then some (.ok (fun _=>some (wQ 0 j.toNat)) S1) else none
 |_=>none
theorem zeS {lo:Int} {n:Nat}:zhP K j H (Itr lo n) (fun _=>some (wQ lo n)):=by
 intro F2 j2 H2 σ2 ρ2 S2 xs i X2 E2 e2
 cases e2
 refine ⟨fun d hd=> ?_,fun hle=> ?_⟩
 ·unfold wQ at hd
  rw [List.getElem?_map] at hd
  have hi:i<n:=by
   apply Classical.byContradiction
   intro hn
   rw [List.getElem?_eq_none (by simp;omega)] at hd
   cases hd
  rw [List.getElem?_range hi] at hd
  cases hd
  refine ⟨hi,?_⟩
  rintro x H' ⟨rfl,rfl⟩
  exact ⟨Vg.refl _,.int _⟩
 ·unfold wQ at hle
  simp at hle
  show n≤i
  omega
theorem xo {t:TE} {m:TwE} (h:RE K E t m):RI K E (zgU (zbu t zfP)) (iR1 m):=by
 intro F j σ H ρ S r R En0 e k
 rcases zT e with ⟨x,S1,e1,e⟩|⟨c,S1,e1,rfl⟩
 ·split at e
  ·split at e
   ·rename_i hb
    cases e
    exact h En0 e1 fun j1 H1 X1 E1 u hu=>⟨_,by rw [hu.int_inv],hb.1,hb.2,k _ _ X1 E1 _ zeS⟩
   ·cases e
  ·cases e
 ·exact h En0 e1 k
end
end L2
namespace L2
open PySem
noncomputable def rn {α β:Type} (m:Option (Rs α)) (f:α→Sto→Option β):Option β:=match m with
 |some (.ok a S)=>f a S
 |_=>none
theorem zaZ {α β:Type} {m:Option (Rs α)} {f:α→Sto→Option β} {r:β} (h:rn m f=some r):∃a S,m=some (.ok a S)∧f a S=some r:=by
 unfold rn at h
 split at h
 ·exact ⟨_,_,rfl,h⟩
 ·cases h
noncomputable def TL (cap:List (Option Nat)) (ρ:Rho):Rho:=cap.map fun o=>o.bind fun i=>(ρ[i]?).join
noncomputable def wR (get:Sto→Option (List Xv)) (g:TwG) (c:TwT) (e:TwE) (ρc:Rho):Nat→Nat→List Xv→Sto→Option (Rs Xv)
 |0,_,_,_=>none
 |f+1,i,es,S=>(get S).bind fun xs=>match xs[i]? with
  |none=>if i=xs.length then some (.ok (.ref S.length) (S++[.lst es])) else none
  |some x=>rn (g x ρc S) fun ρ1 S1=>rn (c ρ1 S1) fun b S2=>if b then rn (e ρ1 S2) fun y S3=>if es.length<sizeLine then wR get g c e ρc f (i+1) (es++[y]) S3 else none
    else wR get g c e ρc f (i+1) es S2
noncomputable def xw (cap:List (Option Nat)) (m:TwI) (g:TwG) (c:TwT) (e:TwE):TwE:=fun ρ S=>rb (m ρ S) fun get S1=>(get S1).bind fun xs=>wR get g c e (TL cap ρ) (xs.length+1) 0 [] S1
noncomputable def xy:TwT:=fun _ S=>some (.ok true S)
section
variable {K:PySem.W.Frag} {E:XK} {F:Fm} {j j':List Addr} {H H':Hp} {σ σ':St} {ρ ρ':Rho} {S S':Sto} {x:Xv} {v:V} {a:Addr} {o:HO}
theorem xg:RT K E (fun _ H Q=>Q true H) xy:=fun E1 e k=>by
 cases e
 exact k _ _ Ext.refl E1
noncomputable def WJ (j:List Addr) (S:Sto) (a:Addr):Prop:=∀(n:Nat) c,j[n]? =some a→S[n]? =some c→c.fz=true
theorem En.notIn (E1:En K F j H σ ρ S) (h:H a=none):WJ j S a:=fun n c e1 e2=>by
 cases z:c.fz with
 |true=>rfl
 |false=>
  obtain ⟨o,e,_⟩:=(E1.cel n c a e2 e1).mu z
  rw [h] at e;cases e
theorem En.outside (E1:En K F j H σ ρ S) (h:WJ j S a) {o0:HO} (h0:H a=some o0) (m0:o0.mu=true) (hf:F.H0 a=none):En K F j (upd H a o) σ ρ S∧Ext j H j (upd H a o):=by
 have X:Ext j H j (upd H a o):=⟨fun _ _ e=>e,fun b u e m=>by
  have:b≠a:=fun q=>by subst q;rw [h0] at e;cases e;rw [m] at m0;cases m0
  rw [xa this];exact e⟩
 refine ⟨⟨E1.len,fun i x e=> ?_,E1.jl,E1.inj,fun n c b e1 e2=> ?_,E1.ext.trans X,E1.old,E1.l0,fun b u e=> ?_,E1.fresh,fun b e=> ?_⟩,X⟩
 ·obtain ⟨v,e1,e2⟩:=E1.slot i x e
  exact ⟨v,e1,e2.mono X⟩
 ·refine (E1.cel n c b e1 e2).mono X fun z=>xa fun q=> ?_
  subst q
  rw [h n c e2 e1] at z;cases z
 ·have hb:b≠a:=fun q=>by subst q;rw [hf] at e;cases e
  rcases E1.keep b u e with h|h
  ·exact .inl (by rw [xa hb];exact h)
  ·exact .inr h
 ·have hb:b≠a:=fun q=>by subst q;rw [xC] at e;cases e
  rw [xa hb] at e
  exact E1.dom b e
theorem En.adopt {c:Ce} (E1:En K F j H σ ρ S) (h:WJ j S a) (hf:F.H0 a=none) (hc:TJ K (j++[a]) H a c):En K F (j++[a]) H σ ρ (S++[c])∧Ext j H (j++[a]) H:=by
 have X:Ext j H (j++[a]) H:=⟨fun n b e=>by rw [List.getElem?_append_left (List.getElem?_eq_some_iff.1 e).1];exact e,Zc.refl _⟩
 have lt:∀{n:Nat} {d:Ce},S[n]? =some d→n<S.length:=fun e=>(List.getElem?_eq_some_iff.1 e).1
 have at_:∀{n:Nat} {b:Addr} {d:Ce},(j++[a])[n]? =some b→(S++[c])[n]? =some d→(j[n]? =some b∧S[n]? =some d)∨(n=S.length∧b=a∧d=c):=fun {n b d} e1 e2=>by
  by_cases hn:n<S.length
  ·rw [List.getElem?_append_left hn] at e2
   rw [List.getElem?_append_left (by rw [E1.jl];exact hn)] at e1
   exact .inl ⟨e1,e2⟩
  ·rw [List.getElem?_append_right (by omega)] at e2
   rw [List.getElem?_append_right (by rw [E1.jl];omega),E1.jl] at e1
   cases hm:n-S.length with
   |zero=>rw [hm] at e1 e2;simp at e1 e2;exact .inr ⟨by omega,e1.symm,e2.symm⟩
   |succ m=>rw [hm] at e1;simp at e1
 refine ⟨⟨E1.len,fun i x e=> ?_,by simp [E1.jl],fun n m b c1 c2 e1 e2 e3 e4 z1 z2=> ?_,fun n d b e1 e2=> ?_,E1.ext.trans X,fun n d e=> ?_,E1.l0,E1.keep,fun n b hn e=> ?_,E1.dom⟩,X⟩
 ·obtain ⟨v,e1,e2⟩:=E1.slot i x e
  exact ⟨v,e1,e2.mono X⟩
 ·rcases at_ e1 e3 with ⟨f1,f2⟩|⟨f1,f2,f3⟩
  ·rcases at_ e2 e4 with ⟨g1,g2⟩|⟨g1,g2,g3⟩
   ·exact E1.inj n m b c1 c2 f1 g1 f2 g2 z1 z2
   ·subst g2
    rw [h n c1 f1 f2] at z1;cases z1
  ·rcases at_ e2 e4 with ⟨g1,g2⟩|⟨g1,g2,g3⟩
   ·subst f2
    rw [h m c2 g1 g2] at z2;cases z2
   ·rw [f1,g1]
 ·rcases at_ e2 e1 with ⟨f1,f2⟩|⟨f1,rfl,rfl⟩
  ·exact (E1.cel n d b f2 f1).mono X fun _=>rfl
  ·exact hc
 ·obtain ⟨d',e1,e2⟩:=E1.old n d e
  exact ⟨d',by rw [List.getElem?_append_left (lt e1)];exact e1,e2⟩
 ·by_cases hm:n<j.length
  ·rw [List.getElem?_append_left hm] at e
   exact E1.fresh n b hn e
  ·rw [List.getElem?_append_right (by omega)] at e
   cases hk:n-j.length with
   |zero=>rw [hk] at e;simp at e;subst e;exact hf
   |succ m=>rw [hk] at e;simp at e
theorem zd5 {cap:List (Option Nat)} (E1:En K F j H σ ρ S):(Zw cap σ).length=(TL cap ρ).length∧∀(i:Nat) x,(TL cap ρ)[i]? =some (some x)→∃v,(Zw cap σ)[i]? =some (some v)∧Xis K j H x v:=by
 refine ⟨by simp [Zw,TL],fun i x h=> ?_⟩
 unfold TL at h
 unfold Zw
 rw [List.getElem?_map] at h ⊢
 cases e:cap[i]? with
 |none=>rw [e] at h;cases h
 |some o=>
  rw [e] at h
  cases o with
  |none=>simp at h
  |some k=>
   simp only [Option.map_some,Option.bind_some,Option.some.injEq] at h ⊢
   cases q:ρ[k]? with
   |none=>rw [q] at h;simp at h
   |some z=>
    rw [q] at h
    simp at h
    subst h
    obtain ⟨v,e1,e2⟩:=E1.slot k x q
    exact ⟨v,by rw [e1];rfl,e2⟩
theorem yW {cap:List (Option Nat)} {wi:TI} {g:TG} {tt:TT} {te:TE} {m:TwI} {g':TwG} {c:TwT} {e:TwE} (hi:RI K E wi m) (hg:RG K E0 g g') (hc:RT K E0 tt c) (he:RE K E0 te e):RE K E (zeI cap wi g tt te) (xw cap m g' c e):=by
 intro F j σ H ρ S r Q En0 h k
 rcases zT h with ⟨get,S1,e1,h⟩|⟨c1,S1,e1,rfl⟩
 ·refine hi En0 e1 fun j1 H1 X1 E1 J ok acc hacc=> ?_
  cases eg:get S1 with
  |none=>rw [eg] at h;cases h
  |some xs=>
   rw [eg] at h
   have hf:F.H0 acc=none:=E1.dom acc hacc
   obtain ⟨Ea,Xa⟩:=E1.new (o:= .lst []) hacc
   refine ⟨fun i n ys H2=>∃j2 S2 es,Ext j1 H1 j2 H2∧En K F j2 H2 σ ρ S2∧H2 acc=some (.lst ys)∧yC K j2 H2 es ys∧WJ j2 S2 acc∧wR get g' c e (TL cap ρ) n i es S2=some r,
    ⟨xs.length+1,j1,S1,[],Xa,Ea,xC,.nil,E1.notIn hacc,h⟩,?_⟩
   rintro i n ys H2 ⟨j2,S2,es,X2,E2,h2,hes,nin,e2⟩
   cases n with
   |zero=>cases e2
   |succ n=>
    unfold wR at e2
    cases eg2:get S2 with
    |none=>rw [eg2] at e2;cases e2
    |some zs=>
     rw [eg2] at e2
     dsimp only [Option.bind] at e2
     obtain ⟨go,stop⟩:=ok i X2 E2 eg2
     split at e2
     ·split at e2
      ·rename_i hl
       cases e2
       obtain ⟨E3,X3⟩:=E2.adopt (c:= .lst es) nin hf ⟨ys,h2,hes.mono ⟨fun n b e=>by rw [List.getElem?_append_left (List.getElem?_eq_some_iff.1 e).1];exact e,Zc.refl _⟩⟩
       exact .inl ⟨stop hl,k _ _ (X1.trans (X2.trans X3)) E3 _ (.ref (by rw [←E2.jl];simp))⟩
      ·cases e2
     ·rename_i x ex
      obtain ⟨g1,g2⟩:=go x ex
      refine .inr ⟨g1,fun v H3 hy=> ?_⟩
      obtain ⟨Sm,hv⟩:=g2 v H3 hy
      have E3:=E2.heap Sm
      have X3:Ext j2 H2 j2 H3:=Ext.same Sm
      have h3:H3 acc=some (.lst ys):=Sm _ _ h2
      obtain ⟨cl,cs⟩:=zd5 (cap:=cap) E3
      have I0:=E3.enter cl cs
      obtain ⟨ρ4,S4,e4,e2⟩:=zaZ e2
      obtain ⟨b,S5,e5,e2⟩:=zaZ e2
      have behind:∀{j6:List Addr} {H6:Hp} {σ6:St} {ρ6:Rho} {S6:Sto},En K ⟨H3,j2,S2⟩ j6 H6 σ6 ρ6 S6→En K F j6 H6 σ ρ S6∧Ext j2 H2 j6 H6∧H6 acc=some (.lst ys)∧WJ j6 S6 acc:=fun {j6 H6 σ6 ρ6 S6} X=>by
       obtain ⟨E6,X6⟩:=E3.leave X
       refine ⟨E6,X3.trans X6,?_,fun n d q1 q2=> ?_⟩
       ·rcases X.keep acc _ h3 with q|⟨n,d,q1,q2,q3⟩
        ·exact q
        ·rw [nin n d q1 q2] at q3;cases q3
       ·by_cases hn:n<j2.length
        ·have p1:j2[n]? =some j2[n]:=List.getElem?_eq_getElem hn
         have p2:=X6.pre n _ p1
         rw [q1] at p2
         cases p2
         have hn2:n<S2.length:=by rw [←E2.jl];exact hn
         obtain ⟨d',f1,_,f3⟩:=X.old n _ (List.getElem?_eq_getElem hn2)
         rw [q2] at f1
         cases f1
         have hz:=nin n _ p1 (List.getElem?_eq_getElem hn2)
         rw [f3 hz]
         exact hz
        ·have q:=X.fresh n acc (by dsimp only;omega) q1
         have q:H3 acc=none:=q
         rw [h3] at q;cases q
      refine hg I0 hv e4 fun σ4 j4 H4 X4 I4=>hc I4 e5 fun j5 H5 X5 I5=> ?_
      cases b with
      |true=>
       rw [if_pos rfl]
       rw [if_pos rfl] at e2
       obtain ⟨y,S6,e6,e2⟩:=zaZ e2
       split at e2
       ·rename_i hsz
        refine he I5 e6 fun j6 H6 X6 I6 w hw=> ?_
        obtain ⟨E6,X26,h6,nin6⟩:=behind I6
        obtain ⟨E7,X7⟩:=E6.outside (o:= .lst (ys++[w])) nin6 h6 rfl hf
        refine ⟨h6,by rw [hes.len];exact hsz,n,Nat.lt_succ_self _,j6,S6,es++[y],X2.trans (X26.trans X7),E7,xC,((hes.mono X26).append (.one hw)).mono X7,nin6,e2⟩
       ·cases e2
      |false=>
       rw [if_neg (by simp)]
       rw [if_neg (by simp)] at e2
       obtain ⟨E6,X26,h6,nin6⟩:=behind I5
       exact ⟨n,Nat.lt_succ_self _,j5,S5,es,X2.trans X26,E6,h6,hes.mono X26,nin6,e2⟩
 ·exact hi En0 e1 k
theorem YW {i:Nat} {cap:List (Option Nat)} {wi:TI} {g:TG} {tt:TT} {te:TE} {m:TwE} (h:RE K E (zeI cap wi g tt te) m):RS K E (zbG i cap wi g tt te) (zR m (gN i)):=by
 intro F j D' σ H ρ S fl E1 e k
 rcases Zg e with ⟨x,S1,e1,e⟩|⟨c,S1,e1,rfl⟩
 ·cases e
  exact h (Q:=fun v H2=>D'.nx (σ.set i (some v)) H2) E1 e1 fun j1 H1 X1 E1 u hu=>k _ _ _ X1 (E1.set hu)
 ·exact h (Q:=fun v H2=>D'.nx (σ.set i (some v)) H2) E1 e1 k
noncomputable abbrev TwF:=List Xv→Sto→Option (Rs Xv)
noncomputable def yz (n k:Nat) (b:TwS):TwF:=fun xs S=>if xs.length=n then match b (xs.map some++List.replicate k none) S with
  |some (.rt x S')=>some (.ok x S')
  |some (.nx _ S')=>some (.ok .non S')
  |some (.ex c S')=>some (.ex c S')
  |_=>none
 else none
noncomputable def zjd (K:PySem.W.Frag) (F:Fm) (Q:VK) (E:XK):Rs Xv→Prop
 | .ok x S'=>∀v j' H' σ ρ,En K F j' H' σ ρ S'→Xis K j' H' x v→Q v H'
 | .ex c S'=>∀j' H' σ ρ C,En K F j' H' σ ρ S'→PySem.W.nsIn K mainGlobals c=some (some (.ref C))→E (.ref C) none H'
noncomputable def sTw (K:PySem.W.Frag) (n:Nat) (tw:TwF):Sp:=fun vs H Q E=>vs.length=n∧∃(j:List Addr) (S:Sto) (xs:List Xv) (r:Rs Xv),En K ⟨H,j,S⟩ j H (vs.map some) (xs.map some) S∧tw xs S=some r∧zjd K ⟨H,j,S⟩ Q E r
theorem yX {n k:Nat} {N:List Str} {t:TS} {b:TwS} {vs:List V} {Q:VK} (hN:N.length=n+k) (h:RS K E t b) (hs:sTw K n (yz n k b) vs H Q E):t {nx:=fun _ H'=>Q .non H',rt:=Q} (XJ N vs) H:=by
 obtain ⟨hn,j,S,xs,r,E1,e,ret⟩:=hs
 have es:XJ N vs=vs.map some++List.replicate k none:=by
  unfold XJ
  rw [hN,hn,Nat.add_sub_cancel_left]
 rw [es]
 unfold yz at e
 split at e
 ·split at e
  ·rename_i x S' e1
   cases e
   exact h E1.grow e1 fun v σ ρ j' H' X E' hv=>ret _ _ _ _ _ E' hv
  ·rename_i ρ' S' e1
   cases e
   exact h E1.grow e1 fun σ j' H' X E'=>ret _ _ _ _ _ E' .non
  ·rename_i c S' e1
   cases e
   exact h E1.grow e1 fun j' H' σ' ρ' C X E' hC=>ret _ _ _ _ _ E' hC
  ·cases e
 ·cases e
theorem ZZ {P:Program} {w:World} {mg:Str→Option Value} {base:Heap} {CX:CXT} {k n:Nat} {f:Addr} {fd:FuncData} {ps:List Str} (hl:ps.length=n:=by rfl):yZ P w K mg base CX k f fd ps (sTw K n fun _ _=>none):=
 ⟨fun vs H Q E h=>h.1.trans hl.symm,fun A outer s H args us vs Q E hr he hb hv hs=>by
  obtain ⟨_,_,_,_,_,_,z,_⟩:=hs
  cases z⟩
noncomputable def zD (tw:TwF) (ms:List TwE):TwE:=fun ρ S=>rb (evL ms ρ S) fun xs S1=>tw xs S1
theorem zcz {xs:List Xv} {vs:List V} (hv:yC K j H xs vs):(vs.map some).length=(xs.map some).length∧∀(i:Nat) x,(xs.map some)[i]? =some (some x)→∃v,(vs.map some)[i]? =some (some v)∧Xis K j H x v:=by
 refine ⟨by simp [hv.len],fun i x h=> ?_⟩
 rw [List.getElem?_map] at h ⊢
 cases e:xs[i]? with
 |none=>rw [e] at h;cases h
 |some y=>
  rw [e] at h
  simp at h
  subst h
  obtain ⟨v,e1,e2⟩:=hv.get e
  exact ⟨v,by rw [e1];rfl,e2⟩
theorem zd6 {n:Nat} {tw:TwF} {xs:List Xv} {vs:List V} {r:Rs Xv} {Q:VK} {E':XK} (E1:En K F j H σ ρ S) (hv:yC K j H xs vs) (hn:vs.length=n) (et:tw xs S=some r) (k:Po K F j H σ ρ E' (PoV K Q) r):sTw K n tw vs H Q E':=by
 obtain ⟨l,s⟩:=zcz hv
 refine ⟨hn,j,S,xs,r,E1.enter l s,et,?_⟩
 cases r with
 |ok x S'=>
  intro v j' H' σ' ρ' X hx
  obtain ⟨E2,X2⟩:=E1.leave X
  exact k j' H' X2 E2 v hx
 |ex c S'=>
  intro j' H' σ' ρ' C X hC
  obtain ⟨E2,X2⟩:=E1.leave X
  exact k j' H' σ ρ C X2 E2 hC
theorem zw {n:Nat} {tw:TwF} {ms:List TwE} {t:TA} (h:RL K E t (evL ms)) (hn:ms.length=n:=by rfl):RE K E (zgV (sTw K n tw) [] E t) (zD tw ms):=by
 intro F j σ H ρ S r Q En0 e k
 rcases zT e with ⟨xs,S1,e1,e⟩|⟨c,S1,e1,rfl⟩
 ·refine h En0 e1 fun j1 H1 X1 E1 vs hv=> ?_
  rw [List.append_nil]
  exact zd6 E1 hv (by rw [hv.len,Uu e1,hn]) e (k.step X1)
 ·exact h En0 e1 k
end
noncomputable def UN (K:PySem.W.Frag):Sp:=fun vs H Q _=>∃(a:Addr) (ns:List Int),vs=[V.ref a]∧zfZ H∧SqX K H a (ns.map V.int)∧ns.length≤63∧∀H',Q (.bl true) H'
theorem zhU {P:Program} {w:World} {K:PySem.W.Frag} {mg:Str→Option Value} {base:Heap} {CX:CXT} {k:Nat} {f:Addr} {fd:FuncData} {ps:List Str} {tw:TwF} (Fn:yZ P w K mg base CX k f fd ps (sTw K 1 tw))
  (h:∀ns:List Int,ns.length≤63→∃S,tw [.ref 0] [.frz (ns.map Xv.int)]=some (.ok (.bl true) S)):yZ P w K mg base CX k f fd ps (UN K):=by
 refine Fn.imp ?_
 rintro vs H Q E ⟨a,ns,rfl,hO,hS,hl,q⟩
 obtain ⟨S',e⟩:=h ns hl
 refine ⟨rfl,[a],[.frz (ns.map Xv.int)],[.ref 0],_,?_,e,fun v j' H' σ ρ E' hv=> ?_⟩
 ·refine ⟨rfl,fun i x e=> ?_,rfl,fun n m b c d _ _ e3 _ z _=> ?_,fun n c b e1 e2=> ?_,Ext.refl,fun n c e=>⟨c,e,fun z=>z,fun _=>rfl⟩,rfl,fun b u e=> .inl e,fun n b hn e=> ?_,fun b e=>e⟩
  ·cases i with
   |zero=>simp at e;subst e;exact ⟨_,rfl,.ref rfl⟩
   |succ i=>simp at e
  ·cases n with
   |zero=>simp at e3;subst e3;cases z
   |succ n=>simp at e3
  ·cases n with
   |zero=>
    simp at e1 e2
    subst e1 e2
    refine ⟨ns.map V.int,?_,yC.ints ns⟩
    rcases hS with (hS|⟨o,hS⟩)|hS
    ·rcases hO a with z|⟨o,xs,z⟩
     ·rw [z] at hS;cases hS
     ·rw [z] at hS;cases hS
    ·exact .inl ⟨o,hS⟩
    ·exact .inr fun H=> .inr hS
   |succ n=>simp at e1
  ·dsimp only at hn
   have:=(List.getElem?_eq_some_iff.1 e).1
   omega
 ·rw [hv.bl_inv]
  exact q H'
end L2
namespace L2
open PySem PySem.Spec PyProof.Rows
open PySem.Builtin.Int (intBits)
noncomputable def xI (g:Int→Int→Xv):Op2:=fun x y S=>match x,y with
 | .int a,.int b=>some (g a b,S)
 |_,_=>none
noncomputable def xIC (c:Int→Int→Bool) (g:Int→Int→Xv):Op2:=fun x y S=>match x,y with
 | .int a,.int b=>if c a b then some (g a b,S) else none
 |_,_=>none
noncomputable def xj:Op2:=xI fun i j=> .int (i+j)
noncomputable def TM:Op2:=xI fun i j=> .int (i-j)
noncomputable def zf9:Op2:=xIC (fun i j=>decide ((-(2^64)<i∧i<2^64)∨(-(2^64)<j∧j<2^64))) fun i j=> .int (i*j)
noncomputable def YA:Op2:=xIC (fun i j=>decide (intBits i+intBits j≤134217728)) fun i j=> .int (i*j)
noncomputable def XV:Op2:=xIC (fun _ j=>decide (0<j)) fun i j=> .int (i % j)
noncomputable def UO:Op2:=xIC (fun i j=>decide (0≤j∧j≤1000000∧i.natAbs<2^64)) fun i j=> .int (i^j.toNat)
noncomputable def dLt:Op2:=xI fun i j=> .bl (decide (i<j))
noncomputable def dLe:Op2:=xI fun i j=> .bl (decide (i≤j))
noncomputable def dGt:Op2:=xI fun i j=> .bl (decide (j<i))
noncomputable def xX:Op2:=xI fun i j=> .bl (decide (i=j))
noncomputable def zga:Op2:=xI fun i j=> .bl (!decide (i=j))
noncomputable def TN:Xv→Sto→Option (Xv×Sto):=fun x S=>match x with
 | .int i=>some (.int (-i),S)
 |_=>none
section
variable {K:PySem.W.Frag} {E:XK} {F:Fm} {j j':List Addr} {H H':Hp} {σ σ':St} {ρ ρ':Rho} {S S':Sto} {x:Xv} {v:V} {ta tb:TE} {a b:TwE}
theorem zeT {g:Int→Int→V} {g':Int→Int→Xv} (hg:∀i k j H,Xis K j H (g' i k) (g i k)):YT K (rI0 g) (xI g'):=by
 intro F j σ H ρ S S' x y z u v Q E1 hx hy h k
 unfold xI at h
 split at h
 ·cases h
  exact ⟨_,_,hx.int_inv,hy.int_inv,k _ _ _ Ext.refl E1 (hg _ _ _ _)⟩
 ·cases h
theorem zgb {C:Int→Int→Prop} {c:Int→Int→Bool} {g:Int→Int→V} {g':Int→Int→Xv} (hc:∀i j,c i j=true→C i j) (hg:∀i k j H,Xis K j H (g' i k) (g i k)):YT K (rI C g) (xIC c g'):=by
 intro F j σ H ρ S S' x y z u v Q E1 hx hy h k
 unfold xIC at h
 split at h
 ·split at h
  ·cases h
   exact ⟨_,_,hx.int_inv,hy.int_inv,hc _ _ (by assumption),k _ _ _ Ext.refl E1 (hg _ _ _ _)⟩
  ·cases h
 ·cases h
theorem UP {p:Int→Int→Bool} (ha:RE K E ta a) (hb:RE K E tb b):RE K E (zbq p ta tb) (eOp (xI fun i j=> .bl (p i j)) a b):=
 zu (r:=rI0 fun i j=> .bl (p i j)) (zeT fun i k _ _=> .bl _) ha hb
theorem yx:YT K (rI0 fun i j=> .int (i+j)) xj:=zeT fun _ _ _ _=> .int _
theorem XW:YT K (rI0 fun i j=> .int (i-j)) TM:=zeT fun _ _ _ _=> .int _
theorem zhV:YT K (rI zew fun i j=> .int (i*j)) zf9:=zgb (fun i j h=>by simpa [zew] using h) fun _ _ _ _=> .int _
theorem YX:YT K (rI zg0 fun i j=> .int (i*j)) YA:=zgb (fun i j h=>⟨intBits i,intBits j,Nat.le_refl _,Nat.le_refl _,by simpa using h⟩) fun _ _ _ _=> .int _
theorem vO:YT K (rI (fun _ j=>0<j) fun i j=> .int (i % j)) XV:=zgb (fun i j h=>by simpa using h) fun _ _ _ _=> .int _
theorem WU:YT K (rI zhy fun i j=> .int (i^j.toNat)) UO:=zgb (fun i j h=>by simpa [zhy] using h) fun _ _ _ _=> .int _
theorem WK (ha:RE K E ta a) (hb:RE K E tb b):RE K E (tLt ta tb) (eOp dLt a b):=UP ha hb
theorem zdg (ha:RE K E ta a) (hb:RE K E tb b):RE K E (tLe ta tb) (eOp dLe a b):=UP ha hb
theorem XC (ha:RE K E ta a) (hb:RE K E tb b):RE K E (tGt ta tb) (eOp dGt a b):=UP ha hb
theorem yL (ha:RE K E ta a) (hb:RE K E tb b):RE K E (ziG ta tb) (eOp xX a b):=UP ha hb
theorem zeU (ha:RE K E ta a) (hb:RE K E tb b):RE K E (ziH ta tb) (eOp zga a b):=UP ha hb
theorem VU:zi8 K (rU fun i=> .int (-i)) TN:=by
 intro F j σ H ρ S S' x z u Q E1 hx h k
 unfold TN at h
 split at h
 ·cases h
  exact ⟨_,hx.int_inv,k _ _ _ Ext.refl E1 (.int _)⟩
 ·cases h
noncomputable def XX:Op2:=fun x y S=>match x,y with
 | .str a,.str b=>if a.length+b.length≤sizeLine then some (.str (a++b),S) else none
 |_,_=>none
theorem Wv:YT K (fun x y H Q=>∃i j,x= .str i∧y= .str j∧i.length+j.length≤sizeLine∧Q (.str (i++j)) H) XX:=by
 intro F j σ H ρ S S' x y z u v Q E1 hx hy h k
 unfold XX at h
 split at h
 ·split at h
  ·cases h
   exact ⟨_,_,hx.str_inv,hy.str_inv,by assumption,k _ _ _ Ext.refl E1 (.str _)⟩
  ·cases h
 ·cases h
noncomputable def vE:Op2:=fun x y S=>match x,y with
 | .tup a,.tup b=>if a.length+b.length≤sizeLine then some (.tup (a++b),S) else none
 |_,_=>none
theorem wD:YT K (zg3 K) vE:=by
 intro F j σ H ρ S S' x y z u v Q E1 hx hy h k
 unfold vE at h
 split at h
 ·split at h
  ·rename_i hz
   cases h
   obtain ⟨p,xs,rfl,h1,h2⟩:=hx.tup_inv
   obtain ⟨q,ys,rfl,g1,g2⟩:=hy.tup_inv
   refine ⟨p,q,xs,ys,rfl,rfl,SqT.of h1,SqT.of g1,by rw [h2.len,g2.len];exact hz,fun e=> ?_,fun _ e=> ?_,fun _ _ l hl=> ?_⟩
   ·subst e
    obtain rfl:=List.length_eq_zero_iff.1 h2.len.symm
    exact k _ _ _ Ext.refl E1 hy
   ·subst e
    obtain rfl:=List.length_eq_zero_iff.1 g2.len.symm
    refine k _ _ _ Ext.refl E1 ?_
    rw [List.append_nil]
    exact hx
   ·obtain ⟨E2,X2⟩:=E1.new (o:= .tup (xs++ys)) hl
    exact k _ _ _ X2 E2 (.tup xC ((h2.append g2).mono X2))
  ·cases h
 ·cases h
noncomputable def vg:Op2:=fun x y S=>match yB S x,yB S y with
 |some a,some b=>if a.length+b.length≤sizeLine then some (.ref S.length,S++[.lst (a++b)]) else none
 |_,_=>none
theorem wS:YT K (zg5 K) vg:=by
 intro F j σ H ρ S S' x y z u v Q E1 hx hy h k
 unfold vg at h
 split at h
 ·rename_i l1 l2 e1 e2
  split at h
  ·rename_i hz
   cases h
   obtain ⟨p,xs,rfl,h1,h2⟩:=E1.lstAt hx e1
   obtain ⟨q,ys,rfl,g1,g2⟩:=E1.lstAt hy e2
   refine ⟨p,q,xs,ys,rfl,rfl,h1,g1,by rw [h2.len,g2.len];exact hz,fun l hl=> ?_⟩
   obtain ⟨E2,X2,h3⟩:=E1.lst (h2.append g2) hl
   exact k _ _ _ X2 E2 h3
  ·cases h
 ·cases h
noncomputable def zdh (g:Int→Int→Xv):Opn:=fun xs S=>match xs with
 |[.int i,.int j]=>some (g i j,S)
 |_=>none
theorem zdi {g:Int→Int→V} {g':Int→Int→Xv} (hg:∀i k j H,Xis K j H (g' i k) (g i k)):Um K (fun xs H Q=>∃i j,xs=[V.int i,V.int j]∧Q (g i j) H) (zdh g'):=by
 intro F j σ H ρ S S' xs z vs Q E1 hv h k
 unfold zdh at h
 split at h
 ·cases h
  obtain ⟨x,y,rfl,hx,hy⟩:=hv.d2
  exact ⟨_,_,by rw [hx.int_inv,hy.int_inv],k _ _ _ Ext.refl E1 (hg _ _ _ _)⟩
 ·cases h
noncomputable def zgc:Opn:=zdh fun i j=> .int (if j<i then j else i)
noncomputable def TQ:Opn:=zdh fun i j=> .int (if j>i then j else i)
theorem zeV:Um K (fun xs H Q=>∃i j,xs=[V.int i,V.int j]∧Q (.int (if j<i then j else i)) H) zgc:=zdi fun _ _ _ _=> .int _
theorem UQ:Um K (fun xs H Q=>∃i j,xs=[V.int i,V.int j]∧Q (.int (if j>i then j else i)) H) TQ:=zdi fun _ _ _ _=> .int _
noncomputable def wL:Opn:=fun xs S=>match xs with
 |[x]=>(ZY S x).map fun l=>(.int l.length,S)
 |_=>none
theorem xz:Um K (fun xs H Q=>∃p ys,xs=[V.ref p]∧(SqL K H p ys∨SqT K H p ys)∧Q (.int ys.length) H) wL:=by
 intro F j σ H ρ S S' xs z vs Q E1 hv h k
 unfold wL at h
 split at h
 ·rename_i x
  cases e:ZY S x with
  |none=>rw [e] at h;cases h
  |some l=>
   rw [e] at h
   cases h
   obtain ⟨w,rfl,hx⟩:=hv.d1
   obtain ⟨a,ws,rfl,h1,h2⟩:=E1.seqAt hx e
   refine ⟨a,ws,rfl,?_,k _ _ _ Ext.refl E1 (by rw [h2.len];exact .int _)⟩
   rcases h1 with h1|h1
   ·exact .inl h1.sql
   ·exact .inr h1
 ·cases h
noncomputable def zaC:Opn:=fun xs S=>match xs with
 |[.str z]=>if z.length≤sizeLine then some (.int z.length,S) else none
 |_=>none
theorem zdj:Um K (fun xs H Q=>∃z,xs=[V.str z]∧z.length≤sizeLine∧Q (.int z.length) H) zaC:=by
 intro F j σ H ρ S S' xs z vs Q E1 hv h k
 unfold zaC at h
 split at h
 ·split at h
  ·cases h
   obtain ⟨x,rfl,hx⟩:=hv.d1
   exact ⟨_,by rw [hx.str_inv],by assumption,k _ _ _ Ext.refl E1 (.int _)⟩
  ·cases h
 ·cases h
noncomputable def zdk:Opn:=fun xs S=>match xs with
 |[x]=>(ZY S x).map fun l=>(.ref S.length,S++[.lst l])
 |_=>none
theorem zgd:Um K (fun xs H Q=>∃p ys,xs=[V.ref p]∧(SqL K H p ys∨SqT K H p ys)∧∀l,H l=none→Q (.ref l) (upd H l (.lst ys))) zdk:=by
 intro F j σ H ρ S S' xs z vs Q E1 hv h k
 unfold zdk at h
 split at h
 ·rename_i x
  cases e:ZY S x with
  |none=>rw [e] at h;cases h
  |some l=>
   rw [e] at h
   cases h
   obtain ⟨w,rfl,hx⟩:=hv.d1
   obtain ⟨a,ws,rfl,h1,h2⟩:=E1.seqAt hx e
   refine ⟨a,ws,rfl,?_,fun p hp=> ?_⟩
   ·rcases h1 with h1|h1
    ·exact .inl h1.sql
    ·exact .inr h1
   ·obtain ⟨E2,X2,h3⟩:=E1.lst h2 hp
    exact k _ _ _ X2 E2 h3
 ·cases h
noncomputable def xQ:Opn:=fun xs S=>match xs with
 |[.tup l]=>some (.tup l,S)
 |[x]=>(yB S x).map fun l=>(.tup l,S)
 |_=>none
theorem xx:Um K (fun xs H Q=>∃p ys,xs=[V.ref p]∧((SqL K H p ys∧∀l,H l=none→Q (.ref l) (upd H l (.tup ys)))∨(SqT K H p ys∧Q (.ref p) H))) xQ:=by
 intro F j σ H ρ S S' xs z vs Q E1 hv h k
 unfold xQ at h
 split at h
 ·cases h
  obtain ⟨w,rfl,hx⟩:=hv.d1
  obtain ⟨a,ws,rfl,h1,h2⟩:=hx.tup_inv
  exact ⟨a,ws,rfl,.inr ⟨SqT.of h1,k _ _ _ Ext.refl E1 hx⟩⟩
 ·rename_i x _
  cases e:yB S x with
  |none=>rw [e] at h;cases h
  |some l=>
   rw [e] at h
   cases h
   obtain ⟨w,rfl,hx⟩:=hv.d1
   obtain ⟨a,ws,rfl,h1,h2⟩:=E1.lstAt hx e
   refine ⟨a,ws,rfl,.inl ⟨h1.sql,fun p hp=> ?_⟩⟩
   obtain ⟨E2,X2⟩:=E1.new (o:= .tup ws) hp
   exact k _ _ _ X2 E2 (.tup xC (h2.mono X2))
 ·cases h
noncomputable def YB:List Xv→Option (List Int)
 |[]=>some []
 | .int i::r=>(YB r).map (i:: ·)
 |_::_=>none
theorem Vm:∀{xs:List Xv} {ns:List Int} {vs:List V},YB xs=some ns→yC K j H xs vs→vs=ns.map V.int
 |[],ns,vs,e,h=>by cases e;exact h.nil_inv
 |x::r,ns,vs,e,h=>by
  obtain ⟨v,ws,rfl,h1,h2⟩:=h.cons_inv
  cases x<;>simp only [YB,reduceCtorEq] at e
  cases e2:YB r with
  |none=>rw [e2] at e;cases e
  |some ms=>
   rw [e2] at e
   cases e
   rw [h1.int_inv,Vm e2 h2]
   rfl
noncomputable def Vn:List Xv→Option (List Bool)
 |[]=>some []
 | .bl i::r=>(Vn r).map (i:: ·)
 |_::_=>none
theorem zbM:∀{xs:List Xv} {ns:List Bool} {vs:List V},Vn xs=some ns→yC K j H xs vs→vs=ns.map V.bl
 |[],ns,vs,e,h=>by cases e;exact h.nil_inv
 |x::r,ns,vs,e,h=>by
  obtain ⟨v,ws,rfl,h1,h2⟩:=h.cons_inv
  cases x<;>simp only [Vn,reduceCtorEq] at e
  cases e2:Vn r with
  |none=>rw [e2] at e;cases e
  |some ms=>
   rw [e2] at e
   cases e
   rw [h1.bl_inv,zbM e2 h2]
   rfl
noncomputable def zcA:Opn:=fun xs S=>match xs with
 |[x]=>((yB S x).bind YB).map fun ns=>(.int ns.sum,S)
 |_=>none
theorem zcB:Um K (zi4 K) zcA:=by
 intro F j σ H ρ S S' xs z vs Q E1 hv h k
 unfold zcA at h
 split at h
 ·rename_i x
  cases e:yB S x with
  |none=>rw [e] at h;cases h
  |some l=>
   rw [e] at h
   cases e2:YB l with
   |none=>simp [e2] at h
   |some ns=>
    simp [e2] at h
    obtain ⟨rfl,rfl⟩:=h
    obtain ⟨w,rfl,hx⟩:=hv.d1
    obtain ⟨p,ws,rfl,h1,h2⟩:=E1.lstAt hx e
    refine ⟨p,ns,rfl,?_,k _ _ _ Ext.refl E1 (.int _)⟩
    rw [←Vm e2 h2]
    exact h1.sql
 ·cases h
noncomputable def zbN:Opn:=fun xs S=>match xs with
 |[x]=>(x.tupOf.bind YB).map fun ns=>(.int ns.sum,S)
 |_=>none
theorem zge:Um K (zg4 K) zbN:=by
 intro F j σ H ρ S S' xs z vs Q E1 hv h k
 unfold zbN at h
 split at h
 ·rename_i x
  cases e:x.tupOf with
  |none=>rw [e] at h;cases h
  |some l=>
   rw [e] at h
   cases e2:YB l with
   |none=>simp [e2] at h
   |some ns=>
    simp [e2] at h
    obtain ⟨rfl,rfl⟩:=h
    obtain ⟨w,rfl,hx⟩:=hv.d1
    obtain ⟨p,ws,rfl,h1,h2⟩:=hx.tupO e
    refine ⟨p,ns,rfl,?_,k _ _ _ Ext.refl E1 (.int _)⟩
    rw [←Vm e2 h2]
    exact h1
 ·cases h
noncomputable def UR:Opn:=fun xs S=>match xs with
 |[x]=>((yB S x).bind Vn).map fun ns=>(.bl (ns.all id),S)
 |_=>none
theorem US:Um K (zi6 K) UR:=by
 intro F j σ H ρ S S' xs z vs Q E1 hv h k
 unfold UR at h
 split at h
 ·rename_i x
  cases e:yB S x with
  |none=>rw [e] at h;cases h
  |some l=>
   rw [e] at h
   cases e2:Vn l with
   |none=>simp [e2] at h
   |some ns=>
    simp only [Option.bind_some,e2,Option.map_some,Option.some.injEq,Prod.mk.injEq] at h
    obtain ⟨rfl,rfl⟩:=h
    obtain ⟨w,rfl,hx⟩:=hv.d1
    obtain ⟨p,ws,rfl,h1,h2⟩:=E1.lstAt hx e
    refine ⟨p,ns,rfl,?_,k _ _ _ Ext.refl E1 (.bl _)⟩
    rw [←zbM e2 h2]
    exact h1.sql
 ·cases h
noncomputable def xN (neg:Bool):Op2:=fun x y S=>match x,y with
 | .int a,.int b=>some (.bl (neg !=decide (a=b)),S)
 | .str a,.str b=>some (.bl (neg !=decide (a=b)),S)
 | .bl a,.bl b=>some (.bl (neg !=decide (a=b)),S)
 | .non,.non=>some (.bl (neg !=true),S)
 | .int _,.str _=>some (.bl (neg !=false),S)
 | .str _,.int _=>some (.bl (neg !=false),S)
 |_,_=>none
theorem ww:YT K rEq (xN false):=by
 intro F j σ H ρ S S' x y z u v Q E1 hx hy h k
 cases hx<;>cases hy<;>simp only [xN,reduceCtorEq,Option.some.injEq,Prod.mk.injEq,Bool.false_bne] at h<;>obtain ⟨rfl,rfl⟩:=h<;>refine ⟨rfl,k _ _ _ Ext.refl E1 ?_⟩<;>simp<;>exact .bl _
theorem zhW:YT K rNe (xN true):=by
 intro F j σ H ρ S S' x y z u v Q E1 hx hy h k
 cases hx<;>cases hy<;>simp only [xN,reduceCtorEq,Option.some.injEq,Prod.mk.injEq,Bool.true_bne] at h<;>obtain ⟨rfl,rfl⟩:=h<;>refine ⟨rfl,k _ _ _ Ext.refl E1 ?_⟩<;>simp<;>exact .bl _
noncomputable def XY:Xv→Bool
 | .non=>true
 | .bl _=>true
 | .int _=>true
 | .str _=>true
 |_=>false
noncomputable def zbO:Xv→Xv→Bool
 | .non,.non=>true
 | .bl a,.bl b=>a==b
 | .bl a,.int b=>(if a then 1 else 0)==b
 | .int a,.bl b=>a==(if b then 1 else 0)
 | .int a,.int b=>a==b
 | .str a,.str b=>a==b
 |_,_=>false
noncomputable def dIn (neg:Bool):Op2:=fun x y S=>(ZY S y).bind fun l=>if XY x&&l.all XY then some (.bl (neg !=l.any fun z=>zbO z x),S) else none
theorem zbP {v:V} {x:Xv} (h:Xis K j H x v):WG v=XY x:=by cases h<;>rfl
theorem zhX {v w:V} {x y:Xv} (h:Xis K j H x v) (g:Xis K j H y w) (fx:XY x=true) (fy:XY y=true):eqV v w=zbO x y:=by cases h<;>cases g<;>first|rfl|cases fx|cases fy
theorem zdl:∀{xs:List Xv} {vs:List V},yC K j H xs vs→vs.all WG=xs.all XY
 |_,_,.nil=>rfl
 |_,_,.cons h l=>by rw [List.all_cons,List.all_cons,zbP h,zdl l]
theorem zdm {v:V} {x:Xv} (hx:Xis K j H x v) (fx:XY x=true):∀{xs:List Xv} {vs:List V},yC K j H xs vs→xs.all XY=true→inV v vs=xs.any fun z=>zbO z x
 |_,_,.nil,_=>rfl
 |_,_,.cons h l,f=>by
  rw [List.all_cons,Bool.and_eq_true] at f
  have:=zdm hx fx l f.2
  unfold inV at this ⊢
  rw [List.any_cons,List.any_cons,zhX h hx f.1 fx,this]
theorem zdn {neg:Bool}:YT K (rIn K neg) (dIn neg):=by
 intro F j σ H ρ S S' x y z u v Q E1 hx hy h k
 unfold dIn at h
 cases e:ZY S y with
 |none=>rw [e] at h;cases h
 |some l=>
  rw [e] at h
  dsimp only [Option.bind] at h
  split at h
  ·rename_i hf
   have hf:=Bool.and_eq_true_iff.1 hf
   cases h
   obtain ⟨p,ws,rfl,h1,h2⟩:=E1.seqAt hy e
   refine ⟨p,ws,rfl,?_,by rw [zbP hx];exact hf.1,by rw [zdl h2];exact hf.2,k _ _ _ Ext.refl E1 ?_⟩
   ·rcases h1 with h1|h1
    ·exact .inl h1.sql
    ·exact .inr h1
   ·rw [zdm hx hf.1 h2 hf.2]
    cases neg<;>simp<;>exact .bl _
  ·cases h
noncomputable def D.many:D→Bool
 | .tup _=>true
 | .lst _=>true
 |_=>false
noncomputable def zeW (c:String) (S:Sto):Xv→Option Bool
 | .non=>some false
 | .int _=>some (c=="int")
 | .bl _=>some (c=="bool"||c=="int")
 | .str _=>some (c=="str")
 | .tup _=>some (c=="tuple")
 | .ct _=>some (c=="tuple")
 | .ref n=>(yB S (.ref n)).map fun _=>c=="list"
structure zbQ (c:String):Prop where
 non:∀K,PySem.W.kitOne K (.type "NoneType") (.type c)=some false
 bl:∀K,PySem.W.kitOne K (.type "bool") (.type c)=some (c=="bool"||c=="int")
 int:∀K,PySem.W.kitOne K (.type "int") (.type c)=some (c=="int")
 str:∀K,PySem.W.kitOne K (.type "str") (.type c)=some (c=="str")
 tup:∀K,PySem.W.kitOne K (.type "tuple") (.type c)=some (c=="tuple")
 lst:∀K,PySem.W.kitOne K (.type "list") (.type c)=some (c=="list")
theorem VW (a b:String) (K:PySem.W.Frag) (h1:(Value.type a==Value.type b)=false) (h:(fastBuiltinMro a).map (·.contains (.type b))=some false) (hm:PySem.W.kitMeta b=true):PySem.W.kitOne K (.type a) (.type b)=some false:=zhO h1 h hm rfl
theorem zgf:zbQ "int":=⟨fun K=>VW _ _ K (by decide) (by decide+kernel) (by decide+kernel),fun K=>zaV,fun K=>UK,fun K=>VW _ _ K (by decide) (by decide+kernel) (by decide+kernel),fun K=>VW _ _ K (by decide) (by decide+kernel) (by decide+kernel),fun K=>VW _ _ K (by decide) (by decide+kernel) (by decide+kernel)⟩
theorem zbR:zbQ "bool":=⟨fun K=>VW _ _ K (by decide) (by decide+kernel) (by decide+kernel),fun K=>UK,fun K=>zaW,fun K=>VW _ _ K (by decide) (by decide+kernel) (by decide+kernel),fun K=>VW _ _ K (by decide) (by decide+kernel) (by decide+kernel),fun K=>VW _ _ K (by decide) (by decide+kernel) (by decide+kernel)⟩
theorem zgg:zbQ "str":=⟨fun K=>VW _ _ K (by decide) (by decide+kernel) (by decide+kernel),fun K=>VW _ _ K (by decide) (by decide+kernel) (by decide+kernel),fun K=>VW _ _ K (by decide) (by decide+kernel) (by decide+kernel),fun K=>UK,fun K=>VW _ _ K (by decide) (by decide+kernel) (by decide+kernel),fun K=>VW _ _ K (by decide) (by decide+kernel) (by decide+kernel)⟩
noncomputable def za0 (c:String):Xv→Sto→Option (Xv×Sto):=fun x S=>(zeW c S x).map fun b=>(.bl b,S)
theorem zgh {c:String} (ok:zbQ c) (E1:En K F j H σ ρ S) {b:Bool} {Q:VK} (h:Xis K j H x v) (e:zeW c S x=some b) (k:Q (.bl b) H):zf4 K [v,.ty c] H Q:=by
 cases h with
 |non=>cases e;exact ⟨_,_,_,_,_,rfl,rfl,.of .non,ok.non K,k⟩
 |bl b=>cases e;exact ⟨_,_,_,_,_,rfl,rfl,.of (.bl b),ok.bl K,k⟩
 |int i=>cases e;exact ⟨_,_,_,_,_,rfl,rfl,.of (.int i),ok.int K,k⟩
 |str z=>cases e;exact ⟨_,_,_,_,_,rfl,rfl,.of (.str z),ok.str K,k⟩
 |tup h l=>cases e;exact ⟨_,_,_,_,_,rfl,rfl,.sqt (SqT.of h),ok.tup K,k⟩
 |ct h l=>cases e;exact ⟨_,_,_,_,_,rfl,rfl,.sqt (h H),ok.tup K,k⟩
 | @ref n a h=>
  simp only [zeW] at e
  cases e1:yB S (.ref n) with
  |none=>rw [e1] at e;cases e
  |some l=>
   rw [e1] at e
   cases e
   obtain ⟨a',vs,ea,g1,g2⟩:=E1.lstAt (.ref h) e1
   cases ea
   exact ⟨_,_,_,_,_,rfl,rfl,.sql g1.sql,ok.lst K,k⟩
theorem za1 {c:String} {t:TE} {m:TwE} (ok:zbQ c) (h:RE K E t m):RE K E (tCB (zf4 K) (zbu t (zbu (tC (.ty c)) zfP))) (eUn (za0 c) m):=by
 intro F j σ H ρ S r Q En0 e k
 rcases zT e with ⟨x,S1,e1,e⟩|⟨c,S1,e1,rfl⟩
 ·obtain ⟨z,S3,e3,rfl⟩:=wP e
  unfold za0 at e3
  cases e4:zeW c S1 x with
  |none=>rw [e4] at e3;cases e3
  |some b=>
   rw [e4] at e3
   cases e3
   exact h En0 e1 fun j1 H1 X1 E1 u hu=>zgh ok E1 hu e4 (k _ _ X1 E1 _ (.bl _))
 ·exact h En0 e1 k
end
end L2
namespace L2
open PySem PySem.Spec PyProof.Rows
noncomputable def zcC:Xv→Option Key
 | .int i=>some (.inl i)
 | .str z=>some (.inr z)
 |_=>none
noncomputable def za2 (S:Sto):Xv→Option (Nat×List (Key×Xv))
 | .ref n=>match S[n]? with
  |some (.dk kvs)=>some (n,kvs)
  |_=>none
 |_=>none
noncomputable def zd7 (S:Sto):Xv→Option (Nat×List (Key×Xv))
 | .ref n=>match S[n]? with
  |some (.dk kvs)=>some (n,kvs)
  |some (.fdk kvs)=>some (n,kvs)
  |_=>none
 |_=>none
noncomputable def YC {κ:Type} [DecidableEq κ] (kvs:List (κ×Xv)) (k:κ):Option Xv:=(kvs.find? fun kv=>decide (kv.1=k)).map (·.2)
section
variable {K:PySem.W.Frag} {E:XK} {F:Fm} {j:List Addr} {H:Hp} {σ:St} {ρ:Rho} {S:Sto} {x:Xv} {v:V} {κ:Type}
theorem za3 {k:Key} (h:Xis K j H x v) (e:zcC x=some k):v=kV k:=by
 cases h<;>simp only [zcC,Option.some.injEq,reduceCtorEq] at e<;>subst e<;>rfl
theorem zaD {n:Nat} {kvs:List (Key×Xv)} (h:za2 S x=some (n,kvs)):x= .ref n∧S[n]? =some (.dk kvs):=by
 cases x<;>simp only [za2,reduceCtorEq] at h
 split at h
 ·cases h;exact ⟨rfl,by assumption⟩
 ·cases h
theorem En.dk {n:Nat} {kvs:List (Key×Xv)} (E1:En K F j H σ ρ S) (hx:Xis K j H x v) (h:za2 S x=some (n,kvs)):∃a ks,v= .ref a∧j[n]? =some a∧H a=some (.dK ks)∧KX K j H kvs ks:=by
 obtain ⟨rfl,hs⟩:=zaD h
 obtain ⟨a,rfl,hj⟩:=hx.ref_inv
 obtain ⟨ks,e1,e2⟩:=E1.cel _ _ _ hs hj
 exact ⟨a,ks,rfl,hj,e1,e2⟩
theorem zgi {p:Nat×List (Key×Xv)} (h:za2 S x=some p):zd7 S x=some p:=by
 obtain ⟨n,kvs⟩:=p
 obtain ⟨rfl,e⟩:=zaD h
 unfold zd7
 dsimp only
 rw [e]
theorem En.dr {n:Nat} {kvs:List (Key×Xv)} (E1:En K F j H σ ρ S) (hx:Xis K j H x v) (h:zd7 S x=some (n,kvs)):∃a ks,v= .ref a∧j[n]? =some a∧Rd H a (.dK ks)∧KX K j H kvs ks:=by
 cases x<;>simp only [zd7,reduceCtorEq] at h
 obtain ⟨a,rfl,hj⟩:=hx.ref_inv
 split at h
 ·rename_i hs
  cases h
  obtain ⟨ks,e1,e2⟩:=E1.cel _ _ _ hs hj
  exact ⟨a,ks,rfl,hj,.inl e1,e2⟩
 ·rename_i hs
  cases h
  obtain ⟨o,ks,e1,e2⟩:=E1.cel _ _ _ hs hj
  exact ⟨a,ks,rfl,hj,.inr ⟨o,e1⟩,e2⟩
 ·cases h
theorem Vf.r {a:Addr} {kvs:List (Key×V)} {k:Key} (e:Rd H a (.dK kvs)):Vf H a (kV k) (XM kvs k):= .inl ⟨kvs,k,e,rfl,rfl⟩
theorem KX.val [DecidableEq κ] {k:κ}:∀{kvs:List (κ×Xv)} {ks:List (κ×V)},KX K j H kvs ks→(∀y,YC kvs k=some y→∃w,XM ks k=some w∧Xis K j H y w)∧(YC kvs k=none→XM ks k=none)
 |_,_,.nil=>⟨fun _ e=>by simp [YC] at e,fun _=>rfl⟩
 |(k1,y1)::r,(_,w1)::rs,.cons h l=>by
  obtain ⟨i1,i2⟩:=KX.val (k:=k) l
  by_cases e:k1=k
  ·subst e
   refine ⟨fun y ey=> ?_,fun ey=> ?_⟩
   ·simp [YC] at ey
    subst ey
    exact ⟨w1,by simp [XM],h⟩
   ·simp [YC] at ey
  ·have e1:YC ((k1,y1)::r) k=YC r k:=by simp [YC,List.find?_cons,e]
   have e2:XM ((k1,w1)::rs) k=XM rs k:=by simp [XM,List.find?_cons,e]
   rw [e1,e2]
   exact ⟨i1,i2⟩
noncomputable def zbS (d k:TwE):TwE:=fun ρ S=>rb (d ρ S) fun x S1=>rb (k ρ S1) fun y S2=>match zd7 S2 x,zcC y with
 |some (_,kvs),some key=>(YC kvs key).map fun z=> .ok z S2
 |_,_=>none
theorem zgj {td ty:TE} {d k:TwE} (hd:RE K E td d) (hk:RE K E ty k):RE K E (zgZ td ty) (zbS d k):=by
 intro F j σ H ρ S r Q En0 e kk
 rcases zT e with ⟨x,S1,e1,e⟩|⟨c,S1,e1,rfl⟩
 ·refine hd En0 e1 fun j1 H1 X1 E1 u hu=> ?_
  rcases zT e with ⟨y,S2,e2,e⟩|⟨c,S2,e2,rfl⟩
  ·refine hk E1 e2 fun j2 H2 X2 E2 w hw=> ?_
   split at e
   ·rename_i n kvs key ed ek
    cases ev:YC kvs key with
    |none=>rw [ev] at e;cases e
    |some z=>
     rw [ev] at e
     cases e
     obtain ⟨a,ks,rfl,hj,f1,f2⟩:=E2.dr (hu.mono X2) ed
     obtain ⟨z',g1,g2⟩:=f2.val.1 _ ev
     refine ⟨a,z',rfl,?_,kk _ _ (X1.trans X2) E2 _ g2⟩
     rw [za3 hw ek,←g1]
     exact Vf.r f1
   ·cases e
  ·exact hk E1 e2 (PX.mono kk X1)
 ·exact hd En0 e1 kk
noncomputable def zd8 (neg:Bool) (k d:TwE):TwE:=fun ρ S=>rb (k ρ S) fun y S1=>rb (d ρ S1) fun x S2=>match za2 S2 x,zcC y with
 |some (_,kvs),some key=>some (.ok (.bl (neg !=(YC kvs key).isSome)) S2)
 |_,_=>none
theorem zdo {a:Addr} {ks:List (Key×V)} {kvs:List (Key×Xv)} {key:Key} (f1:H a=some (.dK ks)) (f2:KX K j H kvs ks):∃o,Vf H a (kV key) o∧o.isSome=(YC kvs key).isSome∧∀z zd,Xis K j H z zd→Xis K j H ((YC kvs key).getD z) (o.getD zd):=by
 refine ⟨_,Vf.k f1,?_,fun z zd hz=> ?_⟩
 ·cases ev:YC kvs key with
  |none=>rw [f2.val.2 ev];rfl
  |some y=>obtain ⟨w,g1,_⟩:=f2.val.1 _ ev;rw [g1];rfl
 ·cases ev:YC kvs key with
  |none=>rw [f2.val.2 ev];exact hz
  |some y=>obtain ⟨w,g1,g2⟩:=f2.val.1 _ ev;rw [g1];exact g2
theorem zhY {td ty:TE} {d k:TwE} (hk:RE K E ty k) (hd:RE K E td d):RE K E (zi2 ty td) (zd8 false k d):=by
 intro F j σ H ρ S r Q En0 e kk
 rcases zT e with ⟨y,S1,e1,e⟩|⟨c,S1,e1,rfl⟩
 ·refine hk En0 e1 fun j1 H1 X1 E1 u hu=> ?_
  rcases zT e with ⟨x,S2,e2,e⟩|⟨c,S2,e2,rfl⟩
  ·refine hd E1 e2 fun j2 H2 X2 E2 w hw=> ?_
   split at e
   ·rename_i n kvs key ed ek
    cases e
    obtain ⟨a,ks,rfl,hj,f1,f2⟩:=E2.dk hw ed
    obtain ⟨o,g1,g2,_⟩:=zdo (key:=key) f1 f2
    refine ⟨a,o,rfl,by rw [za3 (hu.mono X2) ek];exact g1,kk _ _ (X1.trans X2) E2 _ ?_⟩
    rw [g2,Bool.false_bne]
    exact .bl _
   ·cases e
  ·exact hd E1 e2 (PX.mono kk X1)
 ·exact hk En0 e1 kk
theorem zd9 {td ty:TE} {d k:TwE} (hk:RE K E ty k) (hd:RE K E td d):RE K E (zde ty td) (zd8 true k d):=by
 intro F j σ H ρ S r Q En0 e kk
 rcases zT e with ⟨y,S1,e1,e⟩|⟨c,S1,e1,rfl⟩
 ·refine hk En0 e1 fun j1 H1 X1 E1 u hu=> ?_
  rcases zT e with ⟨x,S2,e2,e⟩|⟨c,S2,e2,rfl⟩
  ·refine hd E1 e2 fun j2 H2 X2 E2 w hw=> ?_
   split at e
   ·rename_i n kvs key ed ek
    cases e
    obtain ⟨a,ks,rfl,hj,f1,f2⟩:=E2.dk hw ed
    obtain ⟨o,g1,g2,_⟩:=zdo (key:=key) f1 f2
    refine ⟨a,o,rfl,by rw [za3 (hu.mono X2) ek];exact g1,kk _ _ (X1.trans X2) E2 _ ?_⟩
    rw [g2,Bool.true_bne]
    exact .bl _
   ·cases e
  ·exact hd E1 e2 (PX.mono kk X1)
 ·exact hk En0 e1 kk
end
end L2
namespace L2
open PySem PySem.Spec PyProof.Rows
open PySem.Builtin.Int (intBits)
noncomputable def W {α:Type} (r:Option (Rs α)) (P:α→Sto→Prop):Prop:=∃a S,r=some (.ok a S)∧P a S
noncomputable def WO (r:Option (Xv×Sto)) (P:Xv→Sto→Prop):Prop:=∃a S,r=some (a,S)∧P a S
noncomputable def WS (r:Option Fl) (N:Rho→Sto→Prop) (R:Xv→Sto→Prop):Prop:=(∃ρ S,r=some (.nx ρ S)∧N ρ S)∨∃x S,r=some (.rt x S)∧R x S
section
variable {ρ:Rho} {S S':Sto} {d x y:Xv} {a b m o:TwE} {c:TwT} {s t:TwS} {i k:Nat} {P:Xv→Sto→Prop} {PB:Bool→Sto→Prop} {PL:List Xv→Sto→Prop} {PO:Option Int→Sto→Prop} {N:Rho→Sto→Prop} {R:Xv→Sto→Prop}
theorem W.of {α:Type} {r:Option (Rs α)} {a:α} {P:α→Sto→Prop} (e:r=some (.ok a S)) (h:P a S):W r P:=⟨a,S,e,h⟩
theorem WO.of {r:Option (Xv×Sto)} (e:r=some (x,S)) (h:P x S):WO r P:=⟨x,S,e,h⟩
theorem W.imp {α:Type} {r:Option (Rs α)} {P Q:α→Sto→Prop} (h:W r P) (k:∀a S,P a S→Q a S):W r Q:=by
 obtain ⟨a,S,e,h⟩:=h
 exact ⟨a,S,e,k _ _ h⟩
theorem WS.nx {r:Option Fl} (e:r=some (.nx ρ S)) (h:N ρ S):WS r N R:= .inl ⟨ρ,S,e,h⟩
theorem WS.rt {r:Option Fl} (e:r=some (.rt x S)) (h:R x S):WS r N R:= .inr ⟨x,S,e,h⟩
theorem W.bind {α β:Type} {r:Option (Rs α)} {f:α→Sto→Option (Rs β)} {P:β→Sto→Prop} (h:W r fun a S=>W (f a S) P):W (rb r f) P:=by
 obtain ⟨a,S,rfl,h⟩:=h
 exact h
theorem WS.bind {α:Type} {r:Option (Rs α)} {f:α→Sto→Option Fl} (h:W r fun a S=>WS (f a S) N R):WS (sb r f) N R:=by
 obtain ⟨a,S,rfl,h⟩:=h
 exact h
theorem W.okP {r:Option (Xv×Sto)} (h:WO r P):W (okP r) P:=by
 obtain ⟨a,S,rfl,h⟩:=h
 exact ⟨a,S,rfl,h⟩
theorem zhZ (h:ρ[i]? =some (some d)) (k:P d S):W (zk i ρ S) P:= .of (by unfold zk;rw [h]) k
theorem zjP (k:P d S):W (eC d ρ S) P:= .of rfl k
theorem zje {f:Op2} (h:W (a ρ S) fun x S1=>W (b ρ S1) fun y S2=>WO (f x y S2) P):W (eOp f a b ρ S) P:=W.bind (h.imp fun _ _ h=>W.bind (h.imp fun _ _ h=>W.okP h))
theorem zjf {f:Xv→Sto→Option (Xv×Sto)} (h:W (a ρ S) fun x S1=>WO (f x S1) P):W (eUn f a ρ S) P:=W.bind (h.imp fun _ _ h=>W.okP h)
theorem XD (h:W (a ρ S) fun x S1=>∃v,x= .bl v∧PB v S1):W (bE a ρ S) PB:=W.bind (h.imp fun x S1 h=>by obtain ⟨v,rfl,k⟩:=h;exact .of rfl k)
theorem zjg (h:W (c ρ S) fun v S1=>P (.bl v) S1):W (eB c ρ S) P:=W.bind (h.imp fun _ _ k=> .of rfl k)
theorem XZ (h:W (c ρ S) fun v S1=>PB (!v) S1):W (WR c ρ S) PB:=W.bind (h.imp fun _ _ k=> .of rfl k)
theorem wx {c2:TwT} (h:W (c ρ S) fun v S1=>(v=true→W (c2 ρ S1) PB)∧(v=false→PB false S1)):W (WQ c c2 ρ S) PB:=W.bind (h.imp fun v S1 k=>by
 cases v with
 |true=>rw [if_pos rfl];exact k.1 rfl
 |false=>exact .of rfl (k.2 rfl))
theorem Vo {c2:TwT} (h:W (c ρ S) fun v S1=>(v=true→PB true S1)∧(v=false→W (c2 ρ S1) PB)):W (bOr c c2 ρ S) PB:=W.bind (h.imp fun v S1 k=>by
 cases v with
 |true=>exact .of rfl (k.1 rfl)
 |false=>rw [if_neg (by simp)];exact k.2 rfl)
theorem Ww (h:W (a ρ S) fun x S1=>∃v,x= .bl v∧(v=true→W (b ρ S1) P)∧(v=false→P (.bl false) S1)):W (TK a b ρ S) P:=W.bind ((XD h).imp fun v S1 k=>by
 cases v with
 |true=>rw [if_pos rfl];exact k.1 rfl
 |false=>exact .of rfl (k.2 rfl))
theorem zh0 (k:PL [] S):W (evL [] ρ S) PL:= .of rfl k
theorem zgk {ms:List TwE} (h:W (m ρ S) fun d S1=>W (evL ms ρ S1) fun ds S2=>PL (d::ds) S2):W (evL (m::ms) ρ S) PL:=W.bind (h.imp fun _ _ h=>W.bind (h.imp fun _ _ k=> .of rfl k))
theorem zh1 {ms:List TwE} (h:W (evL ms ρ S) fun ds S1=>P (.tup ds) S1):W (zH ms ρ S) P:=W.bind (h.imp fun _ _ k=> .of rfl k)
theorem zh2 {ms:List TwE} (h:W (evL ms ρ S) fun ds S1=>P (.ref S1.length) (S1++[.lst ds])):W (wf ms ρ S) P:=W.bind (h.imp fun _ _ k=> .of rfl k)
theorem zjh {f:Opn} {ms:List TwE} (h:W (evL ms ρ S) fun ds S1=>WO (f ds S1) P):W (eFn f ms ρ S) P:=W.bind (h.imp fun _ _ h=>W.okP h)
theorem zgl {tw:TwF} {ms:List TwE} (h:W (evL ms ρ S) fun ds S1=>W (tw ds S1) P):W (zD tw ms ρ S) P:=W.bind h
theorem zh3 (k:PO none S):W (oNo ρ S) PO:= .of rfl k
theorem zeX (h:W (m ρ S) fun x S1=>∃k,x= .int k∧PO (some k) S1):W (wJ m ρ S) PO:=W.bind (h.imp fun x S1 h=>by obtain ⟨v,rfl,k⟩:=h;exact .of rfl k)
theorem zji {f:Xv→Option Int→Option Int→Sto→Option (Xv×Sto)} {lo hi:TwO} (h:W (m ρ S) fun x S1=>W (lo ρ S1) fun u S2=>W (hi ρ S2) fun v S3=>WO (f x u v S3) P):W (eSl f m lo hi ρ S) P:=
 W.bind (h.imp fun _ _ h=>W.bind (h.imp fun _ _ h=>W.bind (h.imp fun _ _ h=>W.okP h)))
theorem Uh {f:OpM} {ms:List TwE} (h:W (o ρ S) fun x S1=>(∃l,yB S1 x=some l)∧W (evL ms ρ S1) fun ys S2=>WO (f x ys S2) P):W (eMt f o ms ρ S) P:=W.bind (h.imp fun x S1 h=>by
 obtain ⟨⟨l,e⟩,h⟩:=h
 rw [e,Option.bind_some]
 exact W.bind (h.imp fun _ _ h=>W.okP h))
theorem zeY (h:W (a ρ S) fun x S1=>W (b ρ S1) fun y S2=>∃n kvs k z,zd7 S2 x=some (n,kvs)∧zcC y=some k∧YC kvs k=some z∧P z S2):W (zbS a b ρ S) P:=
 W.bind (h.imp fun _ _ h=>W.bind (h.imp fun _ _ h=>by obtain ⟨n,kvs,k,z,e1,e2,e3,q⟩:=h;rw [e1,e2];dsimp only;rw [e3];exact .of rfl q))
theorem zgm (h:W (a ρ S) fun x S1=>W (b ρ S1) fun y S2=>∃n kvs k z,za2 S2 x=some (n,kvs)∧zcC y=some k∧YC kvs k=some z∧P z S2):W (zbS a b ρ S) P:=zeY (h.imp fun _ _ h=>h.imp fun _ _ ⟨n,kvs,k,z,e,r⟩=>⟨n,kvs,k,z,zgi e,r⟩)
theorem za4 {neg:Bool} (h:W (a ρ S) fun y S1=>W (b ρ S1) fun x S2=>∃n kvs k,za2 S2 x=some (n,kvs)∧zcC y=some k∧P (.bl (neg !=(YC kvs k).isSome)) S2):W (zd8 neg a b ρ S) P:=
 W.bind (h.imp fun _ _ h=>W.bind (h.imp fun _ _ h=>by obtain ⟨n,kvs,k,e1,e2,q⟩:=h;rw [e1,e2];exact .of rfl q))
theorem zW (h:WS (s ρ S) (fun ρ1 S1=>WS (t ρ1 S1) N R) R):WS (zF s t ρ S) N R:=by
 unfold zF
 rcases h with ⟨ρ1,S1,e,h⟩|⟨x,S1,e,h⟩
 ·rw [e];exact h
 ·rw [e];exact .rt rfl h
theorem zP (h:N ρ S):WS (zY ρ S) N R:= .nx rfl h
theorem vP {g:TwG} (h:W (m ρ S) fun d S1=>W (g d ρ S1) N):WS (zR m g ρ S) N R:=WS.bind (h.imp fun _ _ h=>WS.bind (h.imp fun _ _ k=> .nx rfl k))
theorem zh4 (h:W (m ρ S) fun d S1=>N (ρ.set i (some d)) S1):WS (zR m (gN i) ρ S) N R:=WS.bind (h.imp fun _ _ k=> .nx rfl k)
theorem Vp (h:W (m ρ S) fun d S1=>W (a ρ S1) fun x S2=>W (b ρ S2) fun y S3=>∃n l q j,VS S3 x=some (n,l)∧y= .int q∧ixN l.length q=some j∧N ρ (S3.set n (.lst (l.set j d)))):WS (zR m (VT a b) ρ S) N R:=
 WS.bind (h.imp fun d S1 h=>WS.bind (W.bind (h.imp fun x S2 h=>W.bind (h.imp fun y S3 h=>by
  obtain ⟨n,l,q,j,e1,rfl,e2,k⟩:=h
  rw [e1]
  dsimp only
  rw [e2]
  exact .of rfl (.nx rfl k)))))
theorem zgn (h:W (m ρ S) fun _ S1=>N ρ S1):WS (XB m ρ S) N R:=WS.bind (h.imp fun _ _ k=> .nx rfl k)
theorem Wa (h:W (m ρ S) fun d S1=>R d S1):WS (yd m ρ S) N R:=WS.bind (h.imp fun _ _ k=> .rt rfl k)
theorem zS (h:W (c ρ S) fun v S1=>(v=true→WS (s ρ S1) N R)∧(v=false→WS (t ρ S1) N R)):WS (sIf c s t ρ S) N R:=WS.bind (h.imp fun v S1 k=>by
 cases v with
 |true=>rw [if_pos rfl];exact k.1 rfl
 |false=>rw [if_neg (by simp)];exact k.2 rfl)
theorem xY {r:Option Fl} (I:Rho→Sto→Prop) (h:WS r I R) (k:∀ρ S,I ρ S→N ρ S):WS r N R:=by
 rcases h with ⟨ρ,S,e,h⟩|h
 ·exact .inl ⟨ρ,S,e,k ρ S h⟩
 ·exact .inr h
theorem zbT {n:Nat} (h:WS (Vk c s n ρ S) N R):WS (sWh n c s ρ S) N R:=h
theorem Vq {n:Nat} (h:W (c ρ S) fun v S1=>(v=true→WS (s ρ S1) (fun ρ2 S2=>WS (Vk c s n ρ2 S2) N R) R)∧(v=false→N ρ S1)):WS (Vk c s (n+1) ρ S) N R:=by
 unfold Vk
 refine WS.bind (h.imp fun v S1 k=> ?_)
 cases v with
 |true=>
  rw [if_pos rfl]
  rcases k.1 rfl with ⟨ρ2,S2,e2,h⟩|⟨x,S2,e2,h⟩
  ·rw [e2];exact h
  ·rw [e2];exact .rt rfl h
 |false=>exact .nx rfl (k.2 rfl)
theorem Yj {n:TwI} {g:TwG} (h:W (n ρ S) fun get S1=>∃xs,get S1=some xs∧WS (XT get g s (xs.length+1) 0 ρ S1) N R):WS (Vj n g s ρ S) N R:=WS.bind (h.imp fun get S1 h=>by
 obtain ⟨xs,e,h⟩:=h
 rw [e,Option.bind_some]
 exact h)
theorem Zh {get:Sto→Option (List Xv)} {g:TwG} {xs:List Xv} (J:Nat→Rho→Sto→Prop) (hg:∀i ρ S,i≤xs.length→J i ρ S→get S=some xs)
  (h:∀(i:Nat) (x:Xv) ρ S,xs[i]? =some x→J i ρ S→W (g x ρ S) fun ρ1 S1=>WS (s ρ1 S1) (fun ρ2 S2=>J (i+1) ρ2 S2) R) (h0:J 0 ρ S) (k:∀ρ S,J xs.length ρ S→N ρ S):WS (XT get g s (xs.length+1) 0 ρ S) N R:=by
 have aux:∀(n i:Nat) (ρ:Rho) (S:Sto),i+n=xs.length→J i ρ S→WS (XT get g s (n+1) i ρ S) N R:=by
  intro n
  induction n with
  |zero=>
   intro i ρ S e hj
   unfold XT
   rw [hg i ρ S (by omega) hj,Option.bind_some,List.getElem?_eq_none (by omega)]
   dsimp only
   rw [if_pos (by omega)]
   exact .nx rfl (k ρ S (by rw [show xs.length=i by omega];exact hj))
  |succ n ih=>
   intro i ρ S e hj
   unfold XT
   have hi:i<xs.length:=by omega
   rw [hg i ρ S (by omega) hj,Option.bind_some,List.getElem?_eq_getElem hi]
   refine WS.bind ((h i _ ρ S (List.getElem?_eq_getElem hi) hj).imp fun ρ1 S1 h1=> ?_)
   rcases h1 with ⟨ρ2,S2,e2,h2⟩|⟨x,S2,e2,h2⟩
   ·rw [e2];exact ih (i+1) ρ2 S2 (by omega) h2
   ·rw [e2];exact .rt rfl h2
 exact aux xs.length 0 ρ S (by omega) h0
theorem zeZ (h:W (m ρ S) fun x S1=>∃l,yB S1 x=some l∧Q' (fun S=>yB S x) S1):W (iL m ρ S) Q':=W.bind (h.imp fun x S1 h=>by
 obtain ⟨l,e,k⟩:=h
 rw [e]
 exact .of rfl k)
theorem zdp {Q':(Sto→Option (List Xv))→Sto→Prop} (h:W (m ρ S) fun x S1=>∃l,x.tupOf=some l∧Q' (fun _=>some l) S1):W (iT m ρ S) Q':=W.bind (h.imp fun x S1 h=>by
 obtain ⟨l,e,k⟩:=h
 rw [e]
 exact .of rfl k)
theorem WV {Q':(Sto→Option (List Xv))→Sto→Prop} (h:W (m ρ S) fun x S1=>∃k:Int,x= .int k∧(-(2^62)≤k∧k<2^62)∧Q' (fun _=>some (wQ 0 k.toNat)) S1):W (iR1 m ρ S) Q':=W.bind (h.imp fun x S1 h=>by
 obtain ⟨k,rfl,hk,q⟩:=h
 dsimp only
 rw [if_pos hk]
 exact .of rfl q)
theorem Zq {lo:Int} {n i:Nat} {x:Xv} (h:(wQ lo n)[i]? =some x):i<n∧x= .int (lo+i):=by
 unfold wQ at h
 rw [List.getElem?_map] at h
 have hi:i<n:=by
  apply Classical.byContradiction
  intro hn
  rw [List.getElem?_eq_none (by simp;omega)] at h
  cases h
 rw [List.getElem?_range hi] at h
 cases h
 exact ⟨hi,rfl⟩
theorem xR {lo:Int} {n:Nat}:(wQ lo n).length=n:=by simp [wQ]
theorem zdq {cap:List (Option Nat)} {n:TwI} {g:TwG} (h:W (n ρ S) fun get S1=>∃xs,get S1=some xs∧W (wR get g c m (TL cap ρ) (xs.length+1) 0 [] S1) P):W (xw cap n g c m ρ S) P:=W.bind (h.imp fun get S1 h=>by
 obtain ⟨xs,e,h⟩:=h
 rw [e,Option.bind_some]
 exact h)
theorem ze0 {get:Sto→Option (List Xv)} {g:TwG} {ρc:Rho} {xs:List Xv} (hl:xs.length≤sizeLine) (J:Nat→List Xv→Sto→Prop) (hg:∀i es S,i≤xs.length→J i es S→get S=some xs)
  (h:∀(i:Nat) (x:Xv) es S,xs[i]? =some x→es.length=i→J i es S→W (g x ρc S) fun ρ1 S1=>W (c ρ1 S1) fun b S2=>b=true∧W (m ρ1 S2) fun y S3=>J (i+1) (es++[y]) S3) (h0:J 0 [] S)
  (k:∀es S,es.length=xs.length→J xs.length es S→P (.ref S.length) (S++[.lst es])):W (wR get g c m ρc (xs.length+1) 0 [] S) P:=by
 have aux:∀(n i:Nat) (es:List Xv) (S:Sto),i+n=xs.length→es.length=i→J i es S→W (wR get g c m ρc (n+1) i es S) P:=by
  intro n
  induction n with
  |zero=>
   intro i es S e el hj
   unfold wR
   rw [hg i es S (by omega) hj,Option.bind_some,List.getElem?_eq_none (by omega)]
   dsimp only
   rw [if_pos (by omega)]
   exact .of rfl (k es S (by omega) (by rw [show xs.length=i by omega];exact hj))
  |succ n ih=>
   intro i es S e el hj
   unfold wR
   have hi:i<xs.length:=by omega
   rw [hg i es S (by omega) hj,Option.bind_some,List.getElem?_eq_getElem hi]
   obtain ⟨ρ1,S1,e1,b,S2,e2,rfl,y,S3,e3,q⟩:=h i _ es S (List.getElem?_eq_getElem hi) el hj
   dsimp only [rn]
   rw [e1]
   dsimp only [rn]
   rw [e2]
   dsimp only [rn]
   rw [if_pos rfl,e3]
   dsimp only [rn]
   rw [if_pos (by omega)]
   exact ih (i+1) (es++[y]) S3 (by omega) (by simp [el]) q
 exact aux xs.length 0 [] S (by omega) rfl h0
theorem zgo (k:PB true S):W (xy ρ S) PB:= .of rfl k
theorem Wb {n k:Nat} {xs:List Xv} {ρ0:Rho} (hn:xs.length=n) (h0:xs.map some++List.replicate k none=ρ0) (h:WS (s ρ0 S) (fun _ S1=>P .non S1) P):W (yz n k s xs S) P:=by
 unfold yz
 rw [if_pos hn,h0]
 rcases h with ⟨ρ,S1,e,h⟩|⟨x,S1,e,h⟩
 ·rw [e];exact .of rfl h
 ·rw [e];exact .of rfl h
variable {p q:Int}
theorem zh5 (k:P (.int (p+q)) S):WO (xj (.int p) (.int q) S) P:= .of rfl k
theorem zh6 (k:P (.int (p-q)) S):WO (TM (.int p) (.int q) S) P:= .of rfl k
theorem zh7 (k:P (.int (-p)) S):WO (TN (.int p) S) P:= .of rfl k
theorem zjj (k:P (.bl (decide (p<q))) S):WO (dLt (.int p) (.int q) S) P:= .of rfl k
theorem zjk (k:P (.bl (decide (p≤q))) S):WO (dLe (.int p) (.int q) S) P:= .of rfl k
theorem zjl (k:P (.bl (decide (q<p))) S):WO (dGt (.int p) (.int q) S) P:= .of rfl k
theorem zh8 (k:P (.bl (decide (p=q))) S):WO (xX (.int p) (.int q) S) P:= .of rfl k
theorem zh9 (k:P (.bl (!decide (p=q))) S):WO (zga (.int p) (.int q) S) P:= .of rfl k
theorem vQ (h:0<q) (k:P (.int (p % q)) S):WO (XV (.int p) (.int q) S) P:= .of (by unfold XV xIC;exact if_pos (by simpa using h)) k
theorem YY (h:intBits p+intBits q≤134217728) (k:P (.int (p*q)) S):WO (YA (.int p) (.int q) S) P:= .of (by unfold YA xIC;exact if_pos (by simpa using h)) k
theorem zia (h:(-(2^64)<p∧p<2^64)∨(-(2^64)<q∧q<2^64)) (k:P (.int (p*q)) S):WO (zf9 (.int p) (.int q) S) P:= .of (by unfold zf9 xIC;exact if_pos (decide_eq_true h)) k
theorem zib (h:0≤q∧q≤1000000∧p.natAbs<2^64) (k:P (.int (p^q.toNat)) S):WO (UO (.int p) (.int q) S) P:= .of (by unfold UO xIC;exact if_pos (decide_eq_true h)) k
theorem zic (k:P (.int (if q<p then q else p)) S):WO (zgc [.int p,.int q] S) P:= .of rfl k
theorem zid (k:P (.int (if q>p then q else p)) S):WO (TQ [.int p,.int q] S) P:= .of rfl k
theorem vR {l:List Xv} (h:yB S x=some l) (k:P (.int l.length) S):WO (wL [x] S) P:= .of (by
 unfold wL ZY
 dsimp only
 have:x.tupOf=none:=by cases x<;>first|rfl|cases h
 rw [this]
 dsimp only
 rw [h]
 rfl) k
theorem wy {l:List Xv} {z:Xv} (h:yB S x=some l) (e:atI l p=some z) (k:P z S):WO (Yi x (.int p) S) P:= .of (by unfold Yi;rw [h];dsimp only;rw [e];rfl) k
theorem xZ {l:List Xv} {z:Xv} (h:x.tupOf=some l) (e:atI l p=some z) (k:P z S):WO (yD x (.int p) S) P:= .of (by unfold yD;rw [h];dsimp only;rw [e];rfl) k
theorem zjm {β:Type} {x:β} {l:List β}:atI (x::l) 0=some x:=by
 unfold atI ixN
 rw [if_pos (show (0:Int)≤0 by decide),if_pos (by simp only [List.length_cons];omega)]
 rfl
theorem zjn {β:Type} {x y:β} {l:List β}:atI (x::y::l) 1=some y:=by
 unfold atI ixN
 rw [if_pos (show (0:Int)≤1 by decide),if_pos (by simp only [List.length_cons];omega)]
 rfl
theorem zie {l:List Xv} (k:P x S):WO (yD (.tup (x::l)) (.int 0) S) P:=xZ rfl zjm k
theorem zif {l:List Xv} (k:P y S):WO (yD (.tup (x::y::l)) (.int 1) S) P:=xZ rfl zjn k
theorem Wc {β:Type} {l:List β} {k:Int} {z:β} (h0:0≤k) (h:l[k.toNat]? =some z):atI l k=some z:=by
 have hk:=(List.getElem?_eq_some_iff.1 h).1
 unfold atI ixN
 rw [if_pos h0,if_pos (by omega)]
 exact h
theorem Zr {n:Nat} {l:List Xv} (h:VS S x=some (n,l)) (hz:l.length<sizeLine) (k:P .non (S.set n (.lst (l++[y])))):WO (wg x [y] S) P:= .of (by unfold wg;rw [h];dsimp only;rw [if_pos hz]) k
theorem zcD {l:List Xv} {lo hi:Option Int} (h:yB S x=some l) (k:P (.ref S.length) (S++[.lst (XR l lo hi)])):WO (WB x lo hi S) P:= .of (by unfold WB;rw [h];rfl) k
theorem zdr {neg:Bool} {l:List Xv} (h:ZY S y=some l) (hf:(XY x&&l.all XY)=true) (k:P (.bl (neg !=l.any fun z=>zbO z x)) S):WO (dIn neg x y S) P:= .of (by unfold dIn;rw [h,Option.bind_some,if_pos hf]) k
theorem UT {c:String} {v:Bool} (h:zeW c S x=some v) (k:P (.bl v) S):WO (za0 c x S) P:= .of (by unfold za0;rw [h];rfl) k
end
theorem wE {S:Sto} {n:Nat} {l:List Xv} (h:S[n]? =some (.lst l)):VS S (.ref n)=some (n,l):=by simp [VS,h]
theorem zE {S:Sto} {n:Nat} {l:List Xv} (h:S[n]? =some (.lst l)):yB S (.ref n)=some l:=by simp [yB,h]
theorem Vr {S:Sto} {n:Nat} {l:List (Key×Xv)} (h:S[n]? =some (.dk l)):za2 S (.ref n)=some (n,l):=by simp [za2,h]
end L2
namespace L2
open PySem PySem.Spec PyProof.Rows PySem.Calls
section
variable {X:Cx}
end
section
variable {K:PySem.W.Frag} {E:XK}
noncomputable def VX (p q:Int→Int→Bool) (a b c:TwE):TwE:=fun ρ S=>rb (a ρ S) fun x S1=>rb (b ρ S1) fun y S2=>match x,y with
 | .int i,.int j=>if p i j then rb (c ρ S2) fun z S3=>match z with
   | .int k=>some (.ok (.bl (q j k)) S3)
   |_=>none
  else some (.ok (.bl false) S2)
 |_,_=>none
theorem UU {p q:Int→Int→Bool} {ta tb tc:TE} {a b c:TwE} (ha:RE K E ta a) (hb:RE K E tb b) (hc:RE K E tc c):RE K E (zcn (rI0 fun i j=> .bl (p i j)) (rI0 fun i j=> .bl (q i j)) ta tb tc) (VX p q a b c):=by
 intro F j σ H ρ S r Q En0 e k
 rcases zT e with ⟨x,S1,e1,e⟩|⟨c,S1,e1,rfl⟩
 ·refine ha En0 e1 fun j1 H1 X1 E1 u hu=> ?_
  rcases zT e with ⟨y,S2,e2,e⟩|⟨c,S2,e2,rfl⟩
  ·have hij:∃i l,x= .int i∧y= .int l:=by
    cases x<;>cases y<;>first|exact ⟨_,_,rfl,rfl⟩|(cases e;done)
   obtain ⟨i,l,rfl,rfl⟩:=hij
   dsimp only at e
   refine hb E1 e2 fun j2 H2 X2 E2 v hv=>⟨i,l,hu.int_inv,hv.int_inv,p i l,rfl,?_⟩
   by_cases hp:p i l=true
   ·rw [if_pos hp] at e ⊢
    rcases zT e with ⟨z,S3,e3,e⟩|⟨c,S3,e3,rfl⟩
    ·have hk:∃m,z= .int m:=by
      cases z<;>first|exact ⟨_,rfl⟩|(cases e;done)
     obtain ⟨m,rfl⟩:=hk
     cases e
     exact hc E2 e3 fun j3 H3 X3 E3 w hw=>⟨l,m,hv.int_inv,hw.int_inv,k _ _ (X1.trans (X2.trans X3)) E3 _ (.bl _)⟩
    ·exact hc E2 e3 (PX.mono k (X1.trans X2))
   ·rw [if_neg hp] at e ⊢
    cases e
    exact k _ _ (X1.trans X2) E2 _ (.bl _)
  ·exact hb E1 e2 (PX.mono k X1)
 ·exact ha En0 e1 k
theorem UV {ρ:Rho} {S:Sto} {P:Xv→Sto→Prop} {p q:Int→Int→Bool} {a b c:TwE} (h:W (a ρ S) fun x S1=>∃i,x= .int i∧W (b ρ S1) fun y S2=>∃j,y= .int j∧(p i j=true→W (c ρ S2) fun z S3=>∃k,z= .int k∧P (.bl (q j k)) S3)∧(p i j=false→P (.bl false) S2)):W (VX p q a b c ρ S) P:=W.bind (h.imp fun x S1 h=>by
 obtain ⟨i,rfl,h⟩:=h
 refine W.bind (h.imp fun y S2 h=> ?_)
 obtain ⟨j,rfl,h1,h2⟩:=h
 dsimp only
 cases hp:p i j with
 |true=>
  rw [if_pos rfl]
  exact W.bind ((h1 hp).imp fun z S3 h=>by obtain ⟨k,rfl,q⟩:=h;exact .of rfl q)
 |false=>
  rw [if_neg (by simp)]
  exact .of rfl (h2 hp))
end
end L2
namespace L2
open PySem PySem.Spec PyProof.Rows PySem.Calls
section
variable {K:PySem.W.Frag} {E:XK}
end
end L2
namespace L2
open PySem PySem.Spec PyProof.Rows PySem.Calls
section
variable {X:Cx} {pins:List (Addr×Obj)} {σ:St} {H:Hp} {s:Shared}
end
end L2
namespace L2
open PySem PySem.Spec PyProof.Rows PySem.Calls PySem.W
section
variable {cmp:Nat→Nat→(Bool→Shared→Prop)→Shared→Prop} {r:Nat→Int} {n:Nat} {s:Shared}
end
end L2
namespace L2
open PySem PySem.Spec PyProof.Rows PySem.Calls PySem.W
section
variable {prog:Program} {w:World} {A:Around} {E:Value→Shared→Prop} {s:Shared}
end
end L2
namespace L2
open PySem PySem.Spec PyProof.Rows PySem.Calls PySem.W
open PySem.AutoSeq1 (wpAny_loadPart')
open PySem.MeetsSeq PySem.MeetsSeq2 PySem.MeetsSeq3
section
variable {prog:Program} {w:World} {A:Around} {E:Value→Shared→Prop} {s:Shared}
end
section
variable {X:Cx}
end
end L2
namespace L2
open PySem PySem.Spec PyProof.Rows PySem.Calls PySem.W
section
variable {X:Cx} {pins:List (Addr×Obj)} {σ:St} {H:Hp} {s:Shared} {a:Addr} {d:V} {u r:Value} {A:Around} {E:Value→Shared→Prop} {kvs:List (Key×V)} {k:Key}
end
section
variable {X:Cx} {o e f:Expr} {apos cpos:Pos} {td ty tx:TE}
end
end L2
namespace L2
open PySem PySem.Spec PyProof.Rows PySem.Calls PySem.W
open PySem.AutoSeq1 (wpAny_loadPart')
section
variable {prog:Program} {w:World} {A:Around} {E:Value→Shared→Prop} {s:Shared}
end
section
variable {X:Cx}
end
end L2
namespace L2
open PySem PySem.Spec PyProof.Rows PySem.Calls PySem.W
section
variable {prog:Program} {w:World} {A:Around} {E:Value→Shared→Prop} {s:Shared}
end
section
variable {X:Cx}
end
end L2
namespace L2
open PySem PySem.Spec PyProof.Rows PySem.Calls PySem.W
open PySem.AutoSeq1 (wpAny_loadPart')
section
variable {prog:Program} {w:World} {A:Around} {E:Value→Shared→Prop} {s:Shared}
end
section
variable {X:Cx}
end
end L2
namespace L2
open PySem PySem.Spec PyProof.Rows PySem.Calls
mutual
inductive ze1 (h:Heap):NK→Value→Prop where
 |int (i:Int) (t:Tok):ze1 h (.int i) (.int i t)
 |str (x:Str) (t:Tok):ze1 h (.str x) (.str x t)
 |tup {a:Addr} {o:Obj} {items:Array Value} {n:Nat} {l:List NK}:h.get? a=some o→o.cls= .type "tuple"→o.data= .seq items n→zds h l items.toList→ze1 h (.tup l) (.ref a)
inductive zds (h:Heap):List NK→List Value→Prop where
 |nil:zds h [] []
 |cons {k:NK} {v:Value} {ks:List NK} {vs:List Value}:ze1 h k v→zds h ks vs→zds h (k::ks) (v::vs)
end
section
variable {h h':Heap}
end
section
variable {prog:Program} {w:World} {E:Value→Shared→Prop}
end
end L2
namespace L2
open PySem PySem.Spec PyProof.Rows PySem.Calls
mutual
inductive NIs (K:PySem.W.Frag) (H:Hp):V→NK→Prop where
 |int (i:Int):NIs K H (.int i) (.int i)
 |str (x:Str):NIs K H (.str x) (.str x)
 |tup {a:Addr} {vs:List V} {l:List NK}:SqT K H a vs→zgp K H vs l→NIs K H (.ref a) (.tup l)
inductive zgp (K:PySem.W.Frag) (H:Hp):List V→List NK→Prop where
 |nil:zgp K H [] []
 |cons {v:V} {k:NK} {vs:List V} {ks:List NK}:NIs K H v k→zgp K H vs ks→zgp K H (v::vs) (k::ks)
end
section
variable {X:Cx} {pins:List (Addr×Obj)} {σ:St} {H:Hp} {s:Shared}
end
noncomputable abbrev PN:List (NK×Addr×V)→List (NK×Addr×Value)→Prop:=Paired fun (p:NK×Addr×V) (q:NK×Addr×Value)=>p.1=q.1∧p.2.1=q.2.1∧yQ p.2.2 q.2.2
section
variable {X:Cx} {pins:List (Addr×Obj)} {σ:St} {H:Hp} {s:Shared} {a:Addr}
end
section
variable {X:Cx} {pins:List (Addr×Obj)} {σ:St} {H:Hp} {s:Shared} {a:Addr} {y v d:V} {u r:Value} {o:Option V} {A:Around} {E:Value→Shared→Prop}
end
section
variable {X:Cx} {o i e f value:Expr} {pos pos' tpos apos cpos:Pos} {td ty tv tx:TE} {K:PySem.W.Frag} {r:Nat}
end
end L2
namespace L2
open PySem PySem.Spec PyProof.Rows PySem.Calls PySem.W
section
variable {prog:Program} {w:World} {A:Around} {E:Value→Shared→Prop} {s:Shared} {d it:Addr} {es:Array DictEntry} {ep i:Nat}
end
end L2
namespace L2
open PySem PySem.Spec PyProof.Rows PySem.Calls PySem.W
noncomputable def ltL:List Int→List Int→Bool
 |[],[]=>false
 |[],_::_=>true
 |_::_,[]=>false
 |a::x,b::y=>if a=b then ltL x y else decide (a<b)
section
variable {prog:Program} {w:World} {A:Around} {E:Value→Shared→Prop} {s:Shared}
end
end L2
namespace L2
open PySem PySem.Spec PyProof.Rows PySem.Calls PySem.W
section
variable {prog:Program} {w:World} {A:Around} {E:Value→Shared→Prop} {s:Shared} {T:String} {r d:Addr} {n:Nat} {P:Nat→Value→Prop} {OK:Heap→Prop} {Q:Value→Shared→Prop}
end
section
variable {X:Cx}
end
end L2
namespace L2
open PySem PySem.Spec PyProof.Rows PySem.Calls
open AutoSeq1 (wpAny_loadPart')
section
variable {prog:Program} {w:World} {A:Around} {E:Value→Shared→Prop} {s:Shared} {it t:Addr} {its:Array Value}
end
section
variable {X:Cx}
end
end L2
namespace L2
open PySem PySem.Spec PyProof.Rows
section
variable {X:Cx}
end
end L2
namespace L2
open PySem PySem.Spec PyProof.Rows PySem.Calls PySem.W
section
variable {cmp:Nat→Nat→(Bool→Shared→Prop)→Shared→Prop} {r:Nat→Int} {n:Nat} {s:Shared}
end
section
variable {prog:Program} {w:World} {A:Around} {E:Value→Shared→Prop} {κ:SortKind} {it:Array Keyed} {s:Shared}
end
end L2
namespace L2
open PySem PySem.Spec PyProof.Rows PySem.Calls PySem.W
section
variable {X:Cx} {pins:List (Addr×Obj)} {σ:St} {H:Hp} {s:Shared} {h':Heap}
end
noncomputable def zjo (is:List (List Int)):Prop:=(2≤is.length→∀l∈is,l≠[])∧∀i j,i<j→j<is.length→ltL (is.getD j []) (is.getD i [])=true
section
variable {X:Cx} {k:Nat} {f:Addr} {fd:FuncData} {ps:List Str} {sp:Sp} {pins:List (Addr×Obj)} {σ:St} {H:Hp} {s:Shared}
end
section
variable {X:Cx}
end
end L2
namespace L2
open PySem PySem.Spec PyProof.Rows PySem.Calls PySem.W
section
variable {X:Cx}
end
end L2
namespace L2
open PySem PySem.Spec PyProof.Rows
namespace Sm
noncomputable def inB (b j:Nat):Bool:=b.testBit j
noncomputable def plL (b:Nat):List Nat:=(List.range 8).filter (inB b)
noncomputable def pl (b:Nat):Array Nat:=(plL b).toArray
noncomputable def st (h:Int):Nat→Nat×Nat
 |0=>(SetTable.bits h % 8,SetTable.bits h)
 |n+1=>SetTable.leap 7 (st h n).1 (st h n).2
noncomputable def pos (h:Int) (n:Nat):Nat:=(st h n).1
noncomputable def mkP (s:Nat×Nat):SetTable.Probe:={j:=s.1,more:=0,i:=s.1,perturb:=s.2,dummy:=none}
structure Tb (t:SetTable) (b:Nat):Prop where
 mask:t.mask=7
 place:t.place=pl b
 dum:t.dummies= #[]
noncomputable def ix (b j:Nat):Nat:=((List.range j).filter (inB b)).length
inductive zg6 (f:Nat→Int) (b:Nat) (x:Int) (n:Nat):SetTable.Met→Prop
 |empty (m:Nat):n≤m→inB b (pos x m)=false→(∀k,n≤k→k<m→inB b (pos x k)=true∧f (pos x k)≠x)→zg6 f b x n (.empty (pos x m) none)
 |cand (m:Nat):n≤m→inB b (pos x m)=true→f (pos x m)=x→(∀k,n≤k→k<m→inB b (pos x k)=true∧f (pos x k)≠x)→zg6 f b x n (.candidate (pos x m) (ix b (pos x m)) (mkP (st x (m+1))))
noncomputable def zjp (b:Nat) (f:Nat→Int):Prop:=∀j<8,inB b j=true→∃n,pos (f j) n=j∧∀m,m<n→inB b (pos (f j) m)=true
end Sm
end L2
namespace L2
open PySem PySem.Spec PyProof.Rows PySem.Calls PySem.W
section
variable {prog:Program} {w:World} {E:Value→Shared→Prop}
structure zjU (w:World) (h:Heap) (a:Addr) (b:Nat) (f:Nat→Int×Value) (kf:Nat→NK) (o:Obj) (ep:Nat) (t:SetTable):Prop where
 get:h.get? a=some o
 ex:o.ExactSet
 data:o.data= .set ((Sm.pl b).map f) ep t
 tb:Sm.Tb t b
 plain:t.plain=true
 lt:b<256
 few:(Sm.plL b).length≤4
 chain:Sm.zjp b fun j=>(f j).1
 keys:∀j<8,Sm.inB b j=true→(f j).1=zeo w (kf j)∧(∃c,(f j).2= .ref c∧ze1 h (kf j) (.ref c))∧zfL (kf j)≤8
 inj:∀i<8,∀j<8,Sm.inB b i=true→Sm.inB b j=true→kf i=kf j→i=j
variable {a:Addr} {b:Nat} {f:Nat→Int×Value} {kf:Nat→NK} {o:Obj} {ep:Nat} {t:SetTable} {A:Around} {s:Shared}
end
end L2
namespace L2
open PySem PySem.Spec PyProof.Rows PySem.Calls PySem.W
section
variable {h h':Heap}
end
section
variable {prog:Program} {w:World} {E:Value→Shared→Prop}
variable {a:Addr} {b:Nat} {f:Nat→Int×Value} {kf:Nat→NK} {o:Obj} {ep:Nat} {t:SetTable} {A:Around} {s:Shared}
end
end L2
namespace L2
open PySem PySem.Spec PyProof.Rows PySem.Calls PySem.W
section
variable {h h':Heap}
end
section
variable {prog:Program} {w:World}
variable {A:Around} {R:Result→Shared→Prop} {I:Addr} {fp wr:List Addr} {G:Array GenState→Array GenState→Prop} {n:Nat} {P:Nat→Value→Prop} {St:Nat→Shared→Prop}
end
end L2
namespace L2
open PySem PySem.Spec PyProof.Rows PySem.Calls PySem.W
section
variable {prog:Program} {w:World} {A:Around} {E:Value→Shared→Prop} {s:Shared}
noncomputable def TR (w:World):Bool:= !w.params.followText "set-order"
noncomputable def za5 (led:Bool):Obj:={cls:= .type "set",dict:=none,data:= .set #[] 0 (.fresh 0 0 led)}
theorem zig (x:Value) {Q₁:Value→Shared→Prop} (h:Q₁ (.ref s.heap.objs.size) {s with heap:=s.heap.push (za5 (TR w))}):
  codeAny (model prog w) A (.call (.builtin "set.__new__") ⟨[.type "set",x],[]⟩) (wants Q₁ E) s:=by
 refine codeAny_of_tree ?_
 show wpAny _ A.in1 (do checkBuiltinCall "set.__new__" ⟨[.type "set",x],[]⟩;again (.builtin "set.__new__" ⟨[.type "set",x],[]⟩)) _ _ s
 refine wpAny_bind (wpAny_of_eq (F.newCall_set_1 x) (wpAny_pure ⟨plainId_quiet F.plain_set_new _,codeAny_builtin F.entry_set_new ?_⟩))
 rw [Around.under_plainId F.plain_set_new _]
 unfold Builtin.«set.__new__» Builtin.Frozenset.newClass
 have hsub:=sub_set_self
 obtain ⟨hp,g,d,tk,os⟩:=s
 dsimp only
 wp_walk
 refine wpAny_askSetting (wpAny_pure ?_)
 dsimp only
 simp only [newObj]
 exact wpAny_bind (wpAny_alloc (wpAny_pure (wpAny_pure h)))
end
end L2
set_option maxHeartbeats 3200000
namespace L2
open PySem PySem.Spec PyProof.Rows PySem.Calls PySem.W
section
variable {prog:Program} {w:World} {A:Around} {E:Value→Shared→Prop} {s:Shared}
end
end L2
namespace L2
open PySem PySem.Spec PyProof.Rows PySem.Calls PySem.W
structure zjV (h:Heap) (a:Addr) (b:Nat) (f:Nat→Int×Value) (o:Obj) (ep:Nat) (t:SetTable):Prop where
 get:h.get? a=some o
 ex:o.ExactSet
 data:o.data= .set ((Sm.pl b).map f) ep t
 tb:Sm.Tb t b
 plain:t.plain=true
 lt:b<256
 few:(Sm.plL b).length≤4
section
variable {prog:Program} {w:World} {A:Around} {E:Value→Shared→Prop} {s:Shared} {d it:Addr}
variable {b:Nat} {f:Nat→Int×Value} {o:Obj} {ep:Nat} {t:SetTable}
end
end L2
namespace L2
open PySem PySem.Spec PyProof.Rows PySem.Calls PySem.W
section
variable {prog:Program} {w:World} {A:Around} {E:Value→Shared→Prop} {s:Shared} {d it:Addr}
variable {b:Nat} {f:Nat→Int×Value} {o:Obj} {ep:Nat} {t:SetTable} {i:Nat}
end
end L2
namespace L2
open PySem PySem.Spec PyProof.Rows PySem.Calls PySem.W
mutual
noncomputable def cp:NK→NK→Bool
 | .int _,.int _=>true
 | .tup x,.tup y=>cpL x y
 |_,_=>false
noncomputable def cpL:List NK→List NK→Bool
 |a::x,b::y=>cp a b&&cpL x y
 |_,_=>true
end
end L2
namespace L2
open PySem PySem.Spec PyProof.Rows PySem.Calls PySem.W
section
open PySem.SeqAt
open PySem.AutoSeq1 (wpAny_loadPart')
open PySem.MeetsSeq PySem.MeetsSeq2 PySem.MeetsSeq3
variable {prog:Program} {w:World} {E:Value→Shared→Prop}
end
end L2
namespace L2
open PySem PySem.Spec PyProof.Rows PySem.Calls PySem.W
section
variable {prog:Program} {w:World} {A:Around} {E:Value→Shared→Prop} {s:Shared}
noncomputable def zih (b:Bool):NK→Prop
 | .tup (.tup _::_)=>b=false
 | .tup (.int _::_)=>b=true
 |_=>False
end
end L2
namespace L2
open PySem PySem.Spec PyProof.Rows PySem.Calls PySem.W
section
variable {prog:Program} {w:World} {A:Around} {E:Value→Shared→Prop} {s:Shared}
end
end L2
namespace L2
open PySem PySem.Spec PyProof.Rows PySem.Calls PySem.W
structure KOk (b:Bool) (ks:List NK):Prop where
 cmp:∀x∈ks,∀y∈ks,cp x y=true
 dep:∀k∈ks,zfL k≤8
 fst:∀k∈ks,zih b k
section
variable {X:Cx}
end
end L2
namespace L2
open PySem PySem.Spec PyProof.Rows PySem.Calls PySem.W
section
variable {X:Cx}
end
end L2
namespace L2
open PySem PySem.Spec PyProof.Rows PySem.Calls PySem.W
section
variable {prog:Program} {w:World} {A:Around} {E:Value→Shared→Prop} {s:Shared}
end
section
variable {X:Cx}
end
end L2
namespace L2
open PySem PySem.Spec PyProof.Rows PySem.Calls PySem.W
section
variable {X:Cx} {pins:List (Addr×Obj)} {σ:St} {H:Hp} {s:Shared}
end
section
variable {X:Cx}
end
end L2
namespace L2
open PySem PySem.Spec PyProof.Rows PySem.Calls PySem.W
section
variable {prog:Program} {w:World} {A:Around} {E:Value→Shared→Prop} {s:Shared}
end
section
variable {X:Cx} {pins:List (Addr×Obj)} {σ:St} {H H':Hp} {s:Shared} {h':Heap}
end
section
variable {X:Cx}
inductive zcE (H:Hp):List Addr→List (Int×V)→Prop
 |nil:zcE H [] []
 |cons {p:Addr} {x:Int×V} {ps:List Addr} {xs:List (Int×V)}:H p=some (.tup [.int x.1,x.2])→zcE H ps xs→zcE H (p::ps) (x::xs)
end
end L2
namespace L2
open PySem PySem.Spec PyProof.Rows PySem.Calls PySem.W
section
variable {X:Cx}
noncomputable def zjq (ns:List Int):Int:=ns.foldl (fun a b=>if b>a then b else a) (ns.headD 0)
theorem ze2 (ns:List Int):∀k,k<ns.length→ns.getD (argBest (fun i j=>decide (ns.getD i 0>ns.getD j 0)) k) 0=(ns.take (k+1)).foldl (fun a b=>if b>a then b else a) (ns.headD 0)∧argBest (fun i j=>decide (ns.getD i 0>ns.getD j 0)) k≤k:=by
 intro k
 induction k with
 |zero=>
  intro h
  cases ns with
  |nil=>simp at h
  |cons a r=>simp [argBest]
 |succ k ih=>
  intro h
  obtain ⟨h1,h2⟩:=ih (by omega)
  have hg:ns[k+1]? =some (ns.getD (k+1) 0):=by rw [List.getD_eq_getElem?_getD,List.getElem?_eq_getElem h];rfl
  obtain ⟨hi,e⟩:=List.getElem?_eq_some_iff.1 hg
  rw [List.take_succ_eq_append_getElem hi,e,List.foldl_append,←h1]
  have hb:∀f:Nat→Nat→Bool,argBest f (k+1)=if f (k+1) (argBest f k)=true then k+1 else argBest f k:=fun f=>rfl
  rw [hb,List.foldl_cons,List.foldl_nil]
  by_cases q:ns.getD (k+1) 0>ns.getD (argBest (fun i j=>decide (ns.getD i 0>ns.getD j 0)) k) 0
  ·rw [if_pos (decide_eq_true q),if_pos q]
   exact ⟨rfl,Nat.le_refl _⟩
  ·rw [if_neg (by rw [decide_eq_false q];decide),if_neg q]
   exact ⟨rfl,by omega⟩
end
end L2
namespace L2
open PySem PySem.Spec PyProof.Rows PySem.Calls PySem.W
open PySem.AutoSeq1 (wpAny_loadPart')
open PySem.MeetsSeq PySem.MeetsSeq2 PySem.MeetsSeq3
section
variable {prog:Program} {w:World} {E:Value→Shared→Prop}
end
section
variable {X:Cx}
end
end L2
namespace L2
open PySem PySem.Spec PyProof.Rows PySem.Calls
noncomputable def Its (x:Str):It:=⟨fun i _=>∃c,x.cps[i]? =some c,fun i H v H'=>H'=H∧∃c,x.cps[i]? =some c∧v= .str ⟨#[c]⟩,fun i _=>x.cps[i]? =none⟩
theorem ze3 {P:Program} {w:World} {K:PySem.W.Frag} {tg:Expr} (x:Str) (t:Tok) (it:Addr):zet P w K tg (Its x) [it] it (fun i h=>h.IsStrIter it "str_ascii_iterator" x t i) where
 mem:=by simp
 obj:=fun i h st b hb=>by
  have e:b=it:=by simpa using hb
  subst e
  obtain ⟨o,e,c,d⟩:=st
  exact ⟨o,e,fun v z=>by rw [d] at z;cases z⟩
 keep:=fun i h h' st k=>by
  obtain ⟨o,e,c,d⟩:=st
  exact ⟨o,k it (by simp) o e,c,d⟩
 item:=by
  intro X hP hw hK hc i pins s σ H E I hf st hg
  subst hP hw hK
  obtain ⟨c,hx⟩:=hg
  obtain ⟨f0,f1,f2,f3,f4,f5⟩:=hf it (by simp)
  refine wpAny_pyNext_ascii_item st hx fun h' st' sb=> ?_
  have I1:Inv X pins σ H {s with heap:=h',toks:=s.toks+1}:=I.turned (fun b o hb e=>(sb.2 b hb).trans e) f0 f1 f3 f4 f5
  obtain ⟨o,e,c',d⟩:=id st'
  exact ⟨_,rfl,zc0 (s:={s with heap:=h',toks:=s.toks+1}) e c' d (by decide) ⟨.str ⟨#[c]⟩,H,I1,⟨_,rfl⟩,⟨rfl,c,hx,rfl⟩,st',fun b hb=>(hf b hb).1⟩⟩
 done:=by
  intro X hP hw hK hc i pins s σ H E I hf st hg
  subst hP hw hK
  obtain ⟨f0,f1,f2,f3,f4,f5⟩:=hf it (by simp)
  exact wpAny_pyNext_ascii_end (I.ok.hd hc) st hg fun h' eb=>⟨rfl,I.turned (t':=s.toks) (fun b o hb e=>eb b o hb e) f0 f1 f3 f4 f5⟩
 self:=fun _ _ _ _ _ st h=>wpAny_pyIter_striter_ascii st h
section
variable {X:Cx} {tg:Expr}
noncomputable def zjr (tl:TE):TI:=fun σ H R=>tl σ H fun x H1=>∃y,x= .str y∧y.cps.all (· <128)=true∧R (Its y) H1
theorem zcF {l:Expr} {tl:TE} (hl:PE X l tl):PI X tg l (zjr tl):=by
 intro pins s σ H R I h
 refine thn (hl pins s σ H _ I h) ?_
 rintro v s1 ⟨x,H1,I1,r1,y,rfl,ha,q⟩
 obtain ⟨t,rfl⟩:=r1
 refine wpAny_pyIter_ascii ha ?_
 refine ⟨s1.heap.objs.size,[s1.heap.objs.size],_,_,H1,rfl,I1.kept (t':=s1.toks) fun b o e=>Heap.get?_push_of_some _ e,ze3 y t _,⟨_,Heap.get?_push_size _ rfl,rfl,rfl⟩,fun b hb=> ?_,q⟩
 have e:b=s1.heap.objs.size:=by simpa using hb
 subst e
 exact I1.fpOk (Nat.le_refl _) (I1.hok.fresh (Nat.le_refl _))
end
end L2
namespace L2
open PySem PySem.Spec PyProof.Rows PySem.Calls
section
variable {prog:Program} {w:World} {A:Around} {I:Addr} {fp wr:List Addr} {G:Array GenState→Array GenState→Prop} {n:Nat} {P:Nat→Value→Prop} {St:Nat→Shared→Prop} {R:Result→Shared→Prop}
theorem Vs:(toString "max"++toString ".loop":String)="max.loop":=by decide
noncomputable abbrev zgq (xs:Array Value) (c:Nat):Obj:={cls:= .type "list",dict:=none,data:= .seq xs c,slots:= #[]}
noncomputable abbrev zii (I S:Addr) (d:Value):Code:= .builtin "max.loop" ⟨[.ref I,.none,.ref S],[("default",d)]⟩
theorem ze4 (W:WalksS prog w A.in1 I fp wr G n P St) (bt:Nat→Nat→Bool) (cmp:CmpOf prog w A.in1 .Gt P bt) (S:Addr) (nf:S∉fp) (d:Value):∀(k j:Nat) (s:Shared) (u:Value) (c:Nat),n-(j+1)=k→j+1≤n→St (j+1) s→P (argBest bt j) u→
  s.heap.get? S=some (zgq #[u,u] c)→(∀v s',P (argBest bt (n-1)) v→Moved (S::wr) G s s'→R (.ok (.ret v)) s')→codeAny (model prog w) A (zii I S d) R s:=by
 have nw:S∉wr:=fun q=>nf (W.sub _ q)
 have up:∀b∈wr,b∈S::wr:=fun b q=> .tail _ q
 have ns:∀{b:Addr},b∉S::wr→S≠b:=fun q e=>q (e ▸ .head _)
 intro k
 induction k with
 |zero=>
  intro j s u c hk hj st hu hS fin
  have hn:j+1=n:=by omega
  refine codeAny_builtin F.entry_max_loop (by
   rw [Around.under_plainId F.plain_max_loop _]
   refine wpAny_bind (m:=seqItems? (.ref S)) (wpAny_seqItems hS rfl (wpAny_bind (m:=tryCatch (pyNext (.ref I)) _) (wpAny_tryCatch (W.done s _ _ (hn ▸ st) fun s' mv=> ?_))))
   refine wpAny_bind (m:=updateSeq S (fun _=> #[])) (wpAny_updateSeq (mv.heap S _ nw hS) rfl (wpAny_bind (wpAny_letGo (wpAny_pure ?_))))
   exact fin u _ (by rw [←hn];exact hu) ((mv.mono up).then_heap (tk:=s'.toks) (Nat.le_refl _) fun b o q e=>(Heap.get?_update_other _ _ (ns q)).trans e))
 |succ k ih=>
  intro j s u c hk hj st hu hS fin
  have lt:j+1<n:=by omega
  refine codeAny_builtin F.entry_max_loop (by
   rw [Around.under_plainId F.plain_max_loop _]
   refine wpAny_bind (m:=seqItems? (.ref S)) (wpAny_seqItems hS rfl (wpAny_bind (m:=tryCatch (pyNext (.ref I)) _) (wpAny_tryCatch (W.item (j+1) s _ _ lt st fun v s' hv st' mv=> ?_))))
   have hS2:=mv.heap S _ nw hS
   refine wpAny_bind (m:=tryCatch (holding [v,v] (richCompare .Gt v u>>=_)) _) (wpAny_tryCatch (wpAny_holding (wpAny_bind (cmp (j+1) (argBest bt j) v u _ _ _ hv hu (wpAny_bind (wpAny_holding (wpAny_truthy_bool (wpAny_bind (wpAny_letGo (wpAny_pure ?_)))))))))) 
   cases hb:bt (j+1) (argBest bt j) with
   |true=>
    rw [if_pos rfl]
    refine wpAny_bind (wpAny_updateSeq hS2 rfl (wpAny_bind (wpAny_letGo (by
     rw [Vs]
     refine wpAny_pure ⟨plainId_quiet F.plain_max_loop _,ih (j+1) _ v _ (by omega) lt (W.frame _ s' _ s'.toks st' (Nat.le_refl _) fun b q o e=>(Heap.get?_update_other _ _ fun z:S=b=>nf (z ▸ q)).trans e) ?_ (Heap.get?_update_self _ hS2 rfl) fun v' s'' h1 h2=> ?_⟩
     ·show P (if bt (j+1) (argBest bt j) then j+1 else argBest bt j) v
      rw [if_pos hb];exact hv
     ·exact fin v' s'' h1 (Moved.trans W.gtrans ((mv.mono up).then_heap (Nat.le_refl _) fun b o q e=>(Heap.get?_update_other _ _ (ns q)).trans e) h2)))))
   |false=>
    rw [if_neg (by decide)]
    refine wpAny_bind (wpAny_letGo (by
     rw [Vs]
     refine wpAny_pure ⟨plainId_quiet F.plain_max_loop _,ih (j+1) _ u c (by omega) lt st' ?_ hS2 fun v' s'' h1 h2=>fin v' s'' h1 (Moved.trans W.gtrans (mv.mono up) h2)⟩
     show P (if bt (j+1) (argBest bt j) then j+1 else argBest bt j) u
     rw [hb];exact hu)))
theorem zea (W:WalksS prog w A.in1 I fp wr G n P St) (bt:Nat→Nat→Bool) (cmp:CmpOf prog w A.in1 .Gt P bt) (S:Addr) (nf:S∉fp) (d:Value) (hn:0<n) {s:Shared} {c:Nat} (st:St 0 s) (hS:s.heap.get? S=some (zgq #[] c))
  (fin:∀v s',P (argBest bt (n-1)) v→Moved (S::wr) G s s'→R (.ok (.ret v)) s'):codeAny (model prog w) A (zii I S d) R s:=by
 have nw:S∉wr:=fun q=>nf (W.sub _ q)
 have up:∀b∈wr,b∈S::wr:=fun b q=> .tail _ q
 have ns:∀{b:Addr},b∉S::wr→S≠b:=fun q e=>q (e ▸ .head _)
 refine codeAny_builtin F.entry_max_loop (by
  rw [Around.under_plainId F.plain_max_loop _]
  refine wpAny_bind (m:=seqItems? (.ref S)) (wpAny_seqItems hS rfl (wpAny_bind (m:=tryCatch (pyNext (.ref I)) _) (wpAny_tryCatch (W.item 0 s _ _ hn st fun v s' hv st' mv=> ?_))))
  have hS2:=mv.heap S _ nw hS
  refine wpAny_bind (m:=updateSeq S (fun _=> #[v,v])) (wpAny_updateSeq hS2 rfl (by
   rw [Vs]
   refine wpAny_pure ⟨plainId_quiet F.plain_max_loop _,ze4 W bt cmp S nf d _ 0 _ v _ rfl hn (W.frame _ s' _ s'.toks st' (Nat.le_refl _) fun b q o e=>(Heap.get?_update_other _ _ fun z:S=b=>nf (z ▸ q)).trans e) hv (Heap.get?_update_self _ hS2 rfl) fun v' s'' h1 h2=> ?_⟩
   exact fin v' s'' h1 (Moved.trans W.gtrans ((mv.mono up).then_heap (Nat.le_refl _) fun b o q e=>(Heap.get?_update_other _ _ (ns q)).trans e) h2))))
theorem ze5 (W:WalksS prog w A.in1 I fp wr G n P St) (S:Addr) (nf:S∉fp) (d:Value) (hn:n=0) {s:Shared} {c:Nat} (st:St 0 s) (hS:s.heap.get? S=some (zgq #[] c))
  (fin:∀s',Moved (S::wr) G s s'→R (.ok (.ret d)) s'):codeAny (model prog w) A (zii I S d) R s:=by
 have up:∀b∈wr,b∈S::wr:=fun b q=> .tail _ q
 subst hn
 refine codeAny_builtin F.entry_max_loop (by
  rw [Around.under_plainId F.plain_max_loop _]
  refine wpAny_bind (m:=seqItems? (.ref S)) (wpAny_seqItems hS rfl (wpAny_bind (m:=tryCatch (pyNext (.ref I)) _) (wpAny_tryCatch (W.done s _ _ st fun s' mv=> ?_))))
  exact wpAny_bind (wpAny_rule (wpAny_pure (fin s' (mv.mono up)))))
variable {E:Value→Shared→Prop} {s:Shared}
theorem ze6 {id:String} {b:Builtin} {xs:List Value} {kw:List (Str×Value)} {Q:Value→Shared→Prop} (e1:builtinKind id=none) (e2:plainId id=true) (e3:entryFor table id=some b) (e4:argsOk id ⟨xs,kw⟩)
  (h:wpAny (model prog w) A.in1 (b ⟨xs,kw⟩) (fun fin s'=>match fin with
   | .done f=>(match (Except.ok f:Result) with| .ok (.ret v)=>Q v s'| .ok _=>False| .error e=>E e s')
   | .again c'=>c'.quiet=true∧codeAny (model prog w) A c' (fun r s'=>match r with| .ok (.ret v)=>Q v s'| .ok _=>False| .error e=>E e s') s') E s):wpAny (model prog w) A (call (.builtin id) xs kw) Q E s:=by
 refine wpAny_call (codeAny_call_builtin e2 e3 (by
  simp only [checkBuiltinCall,e1]
  cases hs:Manifest.signature? id with
  |none=>exact wpAny_pure h
  |some sig=>
   have e5:Bind.checkArgs id sig ⟨xs,kw⟩=pure ():=by simpa only [argsOk,hs] using e4
   simp only [e5]
   exact wpAny_pure h))
theorem ze7 {x d:Value} {Q:Value→Shared→Prop}
  (h:wpAny (model prog w) A.in1 (pyIter x) (fun it s₂=>∃I fp wr G n P St bt,it= .ref I∧WalksS prog w A.in1 I fp wr G n P St∧St 0 s₂∧(∀b∈fp,b<s₂.heap.objs.size)∧CmpOf prog w A.in1 .Gt P bt∧
   (∀v s',0<n→P (argBest bt (n-1)) v→Moved wr G s₂ s'→Q v s')∧(∀s',n=0→Moved wr G s₂ s'→Q d s')) E s):wpAny (model prog w) A (call (.builtin "max") [x] [("default",d)]) Q E s:=by
 refine ze6 F.kind_max F.plain_max F.entry_max (by unfold argsOk;kernel_rfl) (wpAny_bind (m:=Builtin.Builtins.bindParams "max" ["key","default"] 0 ⟨[],[("default",d)]⟩) (wpAny_of_eq (a:=[none,some d]) rfl (wpAny_bind (wpAny_pure (wpAny_bind (wpAny_mono h (fun it s₂ h₂=> ?_) fun _ _ e=>e))))))
 obtain ⟨I,fp,wr,G,n,P,St,bt,rfl,W,st,hfp,cmp,q1,q2⟩:=h₂
 refine wpAny_bind (wpAny_newObj_type ?_)
 have nf:s₂.heap.objs.size∉fp:=fun hm=>Nat.lt_irrefl _ (hfp _ hm)
 rw [Vs]
 have st2:=W.frame 0 s₂ (s₂.heap.push (zgq #[] 0)) s₂.toks st (Nat.le_refl _) fun b _ o e=>Heap.get?_push_of_some _ e
 refine wpAny_pure ⟨plainId_quiet F.plain_max_loop _,?_⟩
 rcases Nat.eq_zero_or_pos n with hn|hn
 ·exact ze5 W _ nf d hn st2 (Heap.get?_push_size _ rfl) fun s' mv=>q2 s' hn (Moved.drop_new (tk:=s₂.toks) mv (Nat.le_refl _))
 ·exact zea W bt cmp _ nf d hn st2 (Heap.get?_push_size _ rfl) fun v s' hP mv=>q1 v s' hn hP (Moved.drop_new (tk:=s₂.toks) mv (Nat.le_refl _))
end
noncomputable def za6 (k:Int) (ns:List Int):Int:=if ns=[] then k else zjq ns
noncomputable def ze8 (K:PySem.W.Frag) (k:Int):V→Hp→VK→Prop:=fun x H1 Q=>∃(p:Addr) (ns:List Int),x= .ref p∧SqL K H1 p (ns.map V.int)∧Q (.int (za6 k ns)) H1
noncomputable def zg7 (K:PySem.W.Frag) (k:Int) (te:TE):TE:=fun σ H Q=>te σ H fun x H1=>ze8 K k x H1 Q
section
variable {X:Cx}
theorem zgr {K:PySem.W.Frag} (hK:X.K=K) (hc:X.calm=true) {k:Int} {pins:List (Addr×Obj)} {s:Shared} {σ:St} {H:Hp} {Q:VK} {x:V} {u:Value} {t:Tok} (I:Inv X pins σ H s) (ru:yQ x u) (h:ze8 K k x H Q):
  wpAny (model X.prog X.w) X.A (call (.builtin "max") [u] [("default",.int k t)]) (EP X pins σ Q) X.xe s:=by
 subst hK
 obtain ⟨p,ns,rfl,hq,q⟩:=h
 cases ru
 obtain ⟨its,rv,pl,hz⟩:=I.list hq
 have lt:p<s.heap.objs.size:=by
  obtain ⟨o,n,e,_⟩:=id pl
  exact Heap.lt_size e
 have hl:ns.length=its.length:=by rw [←rv.length,List.length_map]
 have tell:∀(i:Nat) (v:Value),its.toArray[i]? =some v→i<ns.length∧∃t,v=Value.int (ns.getD i 0) t:=fun i v hv=>by
  have hv:its[i]? =some v:=by simpa using hv
  have hi:i<ns.length:=by rw [hl];exact (List.getElem?_eq_some_iff.1 hv).1
  obtain ⟨u,hu,t,ru⟩:=rv.get (i:=i) (x:=V.int ns[i]) (by rw [List.getElem?_map,List.getElem?_eq_getElem hi];rfl)
  rw [hu] at hv
  cases hv
  exact ⟨hi,t,by rw [ru,List.getD_eq_getElem?_getD,List.getElem?_eq_getElem hi];rfl⟩
 have W:=(Walks.list (prog:=X.prog) (w:=X.w) (A:=X.A.in1) (I.ok.hd hc) s.heap.objs.size p (Nat.ne_of_lt lt) its.toArray).toS
 refine ze7 (wpAny_pyIter_list pl.isList ⟨s.heap.objs.size,_,_,_,_,_,_,fun i j=>decide (ns.getD i 0>ns.getD j 0),rfl,W,⟨⟨_,Heap.get?_push_size _ rfl,rfl,rfl⟩,Heap.IsList.push pl.isList _⟩,fun b hb=> ?_,CmpOf.ints_gt (fun i=>ns.getD i 0) (fun i v hv=>(tell i v hv).2),fun v s' hn hv m=> ?_,fun s' hn m=> ?_⟩)
 ·rw [Heap.size_push]
  rcases (by simpa using hb:b=s.heap.objs.size∨b=p) with rfl|rfl
  ·exact Nat.lt_succ_self _
  ·exact Nat.lt_succ_of_lt lt
 ·have I1:Inv X pins σ H {s with heap:=s'.heap,toks:=s'.toks}:=I.kept fun b o e=>m.heap b o (fun z=>by
   have z:b=s.heap.objs.size:=by simpa using z
   exact absurd (Heap.lt_size e) (by rw [z];exact Nat.lt_irrefl _)) (Heap.get?_push_of_some _ e)
  have e:({s with heap:=s'.heap,toks:=s'.toks}:Shared)=s':=by
   have h1:=m.gens
   have h2:=m.drawn
   have h3:=m.os
   cases s'
   simp only at h1 h2 h3
   subst h1 h2 h3
   rfl
  rw [e] at I1
  obtain ⟨_,t,rfl⟩:=tell _ v hv
  rw [List.size_toArray] at hn
  have hne:ns≠[]:=fun z=>by rw [z] at hl;simp at hl;omega
  refine ⟨.int (za6 k ns),H,I1,⟨t,?_⟩,q⟩
  have:=(ze2 ns (ns.length-1) (by omega)).1
  rw [show ns.length-1+1=ns.length by omega,List.take_length] at this
  unfold za6
  rw [List.size_toArray,←hl,this,if_neg hne]
  rfl
 ·have I1:Inv X pins σ H {s with heap:=s'.heap,toks:=s'.toks}:=I.kept fun b o e=>m.heap b o (fun z=>by
   have z:b=s.heap.objs.size:=by simpa using z
   exact absurd (Heap.lt_size e) (by rw [z];exact Nat.lt_irrefl _)) (Heap.get?_push_of_some _ e)
  have e:({s with heap:=s'.heap,toks:=s'.toks}:Shared)=s':=by
   have h1:=m.gens
   have h2:=m.drawn
   have h3:=m.os
   cases s'
   simp only at h1 h2 h3
   subst h1 h2 h3
   rfl
  rw [e] at I1
  rw [List.size_toArray] at hn
  have hne:ns=[]:=List.length_eq_zero_iff.1 (by omega)
  refine ⟨.int (za6 k ns),H,I1,⟨t,?_⟩,q⟩
  unfold za6
  rw [if_pos hne]
theorem zdt {K:PySem.W.Frag} {e:Expr} {te:TE} {pp kp pos tq:Pos} {tp:Nat} {k:Int} (hc:X.calm=true) (hg:Gl X "max") (hm:X.mg "max"=none) (ha:PE X e te) (hK:X.K=K:=by rfl)
  (he1:starEach [e] X.env=[(false,eval e X.env)]:=by rfl) (he:backTo pos (starEach [e] X.env)=(false,eval e X.env)::backTo pos (starEach [] X.env):=by rfl) (hpl:(backTo pos (starEach [e] X.env)).any (·.1)=false:=by rfl):
  PE X (.Call (.Name "max" pp) [e] [⟨some "default",.Constant (.int k) tp tq,kp⟩] pos) (zg7 K k te):=by
 intro pins s σ H Q I h
 refine wpAny_Call_Name_kw (WN I hg hm boot_max ?_ (by decide) (by decide))
 refine callWith_kw (thn (za ha zg he1 pos pins s σ H (fun vs H1=>∃x,vs=[x]∧ze8 K k x H1 Q) I ?_) ?_) he hpl rfl rfl
 ·have h:te σ H _:=h
  show te σ H fun x H1=>∃y,[x]=[y]∧_
  simpa only [List.cons.injEq,and_true,exists_eq_left'] using h
 rintro us s1 ⟨vs,H1,I1,r1,x,rfl,q⟩
 obtain ⟨u,rfl,ru⟩:=WF r1
 show wpAny _ _ (evalAll [(do let v ←eval (.Constant (.int k) tp tq) X.env;standAt pos;pure v)]) _ _ s1
 refine wpAny_evalAll_cons (wpAny_bind (wpAny_Constant_int (wpAny_bind (wpAny_standAt (wpAny_pure ?_)))))
 refine wpAny_evalAll_nil ?_
 exact zgr hK hc (I1.tok _) ru q
end
end L2
namespace L2
open PySem PySem.Spec PyProof.Rows PySem.Calls
section
variable {prog:Program} {w:World} {A:Around} {E:Value→Shared→Prop} {s:Shared}
theorem zbU {sl:Addr} {n:Nat} {t:Tok} {Q:Int×Int×Nat→Shared→Prop} (hs:s.heap.IsSliceOf sl .none .none (.int 2 t)) (hn:n=1∨n=3)
  (h:Q (0,2,(n+1) / 2) s):wpAny (model prog w) A (Builtin.Slice.sliceApplied (.ref sl) (pure (n:Int))) Q E s:=by
 obtain ⟨os,hos,hcs,hds⟩:=id hs
 unfold Builtin.Slice.sliceApplied Builtin.Slice.sliceFields
 refine wpAny_bind (wpAny_bind (wpAny_field hos hds (x:= .none) rfl (wpAny_bind (wpAny_field hos hds (x:= .none) rfl (wpAny_bind (wpAny_field hos hds (x:= .int 2 t) rfl (wpAny_pure ?_)))))))
 refine wpAny_bind (HT.Zv (.int 2 t) ?_)
 show wpAny _ _ (if ((2:Int)==0)=true then _ else _) _ _ s
 rw [if_neg (by decide)]
 refine wpAny_bind (HT.Zv .none (wpAny_bind (HT.Zv .none (wpAny_bind (wpAny_pure ?_)))))
 rcases hn with rfl|rfl
 ·exact wpAny_pure h
 ·exact wpAny_pure h
noncomputable def wa {α:Type}:List α→List α
 |[a,_,b]=>[a,b]
 |xs=>xs
theorem zgs {t sl:Addr} {items:Array Value} {tk:Tok} {Q:Value→Shared→Prop} (ht:IsTup s.heap t items) (hs:s.heap.IsSliceOf sl .none .none (.int 2 tk)) (hn:items.size=1∨items.size=3)
  (h:Q (.ref s.heap.objs.size) {s with heap:=s.heap.push {cls:= .type "tuple",data:= .seq (wa items.toList).toArray}}):wpAny (model prog w) A (getItem (.ref t) (.ref sl)) Q E s:=by
 have hod:((List.range ((items.size+1) / 2)).filterMap fun (m:Nat)=>items[((0:Int)+(m:Int)*2).toNat]?).toArray=(wa items.toList).toArray:=by
  obtain ⟨xs⟩:=items
  rcases hn with hn|hn
  ·match xs,hn with
   |[a],_=>simp [wa,List.range,List.range.loop]
  ·match xs,hn with
   |[a,b,c],_=>simp [wa,List.range,List.range.loop]
 have htake:sizeOk (.seq (wa items.toList).toArray):=by
  show (wa items.toList).toArray.size≤sizeLine
  obtain ⟨xs⟩:=items
  rcases hn with hn|hn
  ·match xs,hn with
   |[a],_=>exact (by show 1≤sizeLine;decide)
  ·match xs,hn with
   |[a,b,c],_=>exact (by show 2≤sizeLine;decide)
 obtain ⟨os,hos,hcs,hds⟩:=id hs
 have hTs:s.TypeIs (.ref sl) "slice":=⟨os,hos,hcs⟩
 unfold getItem
 try with_reducible refine wpAny_holding ?_
 first|refine wpAny_bind (wpAny_pure ?_)|skip
 refine wpAny_bind (wpAny_sequenceKey ht.typeIs (by decide) ?_)
 refine wpAny_bind (wpAny_callSpecial?_slot (name:=Str.ofString "__getitem__") ht.typeIs PyProof.Rows.slot_tuple_getitem
  (wpAny_call_entry PyProof.Rows.slot_tuple_getitem ht.typeIs entry_tuple_getitem ?_ (args_tuple_getitem _ _)))
 show wpAny _ _ (Builtin.Tuple.tupleItemsOf (.ref t)>>=_) _ _ s
 refine wpAny_bind (tupleItemsOf_ ht ?_)
 refine wpAny_bind (wpAny_typeOf hTs ?_)
 rw [if_pos (by decide)]
 refine wpAny_bind (zbU hs hn ?_)
 show wpAny _ _ (if ((0:Int)==0&&(2:Int)==1&&((items.size+1) / 2)==items.size)=true then _ else _) _ _ s
 rw [if_neg (by simp),hod]
 first
  |exact wpAny_bind (m:=Builtin.Tuple.tupleExact _) (wpAny_newObj_type (wpAny_pure ⟨_,rfl,wpAny_pure h⟩) htake)
  |exact wpAny_bind (m:=Builtin.Tuple.tupleExact _) (wpAny_newObj_type (wpAny_bind (wpAny_pure (wpAny_pure ⟨_,rfl,wpAny_pure h⟩))) htake)
  |exact wpAny_bind (wpAny_bind (m:=Builtin.Tuple.tupleExact _) (wpAny_newObj_type (wpAny_pure (wpAny_pure ⟨_,rfl,wpAny_pure h⟩)) htake))
  |exact wpAny_bind (wpAny_bind (m:=Builtin.Tuple.tupleExact _) (wpAny_newObj_type (wpAny_pure ⟨_,rfl,wpAny_pure h⟩) htake))
end
theorem ze9 {α:Type} (xs:List α):(wa xs).length≤xs.length:=by
 unfold wa
 split
 ·simp
 ·exact Nat.le_refl _
theorem zeb {xs:List V} {us:List Value} (h:yE xs us):yE (wa xs) (wa us):=by
 unfold wa
 split
 ·cases h with|cons h1 h=>cases h with|cons h2 h=>cases h with|cons h3 h=>cases h;exact .cons h1 (.cons h3 .nil)
 ·rename_i hx
  split
  ·cases h with|cons h1 h=>cases h with|cons h2 h=>cases h with|cons h3 h=>cases h;exact absurd rfl (hx _ _ _)
  ·exact h
noncomputable def zjQ (K:PySem.W.Frag):V→Hp→VK→Prop:=fun x H Q=>∃a xs,x= .ref a∧SqT K H a xs∧(xs.length=1∨xs.length=3)∧∀p,H p=none→Q (.ref p) (upd H p (.tup (wa xs)))
noncomputable def zjs (K:PySem.W.Frag) (te:TE):TE:=fun σ H Q=>te σ H fun x H1=>zjQ K x H1 Q
section
variable {X:Cx}
theorem zfa {e:Expr} {te:TE} {p2 pos tq:Pos} {tp:Nat} {K:PySem.W.Frag} (he:PE X e te) (hK:X.K=K:=by rfl):PE X (.Subscript e (.Slice none none (some (.Constant (.int 2) tp tq)) p2) pos) (zjs K te):=by
 subst hK
 intro pins s σ H Q I h
 refine Subscript_ (thn (he pins s σ H _ I h) ?_)
 rintro v s1 ⟨x,H1,I1,r1,a,xs,rfl,hx,hn,q⟩
 refine wpAny_Slice ?_
 rw [evalPart_none]
 refine wpAny_pure (wpAny_pure ?_)
 rw [evalPart_some]
 refine wpAny_Constant_int ?_
 cases r1
 have I2:=I1.tok (s1.toks+1)
 have I4:Inv X pins σ H1 {s1 with heap:=s1.heap.push {cls:= .type "slice",data:= .fields #[.none,.none,.int 2 s1.toks]},toks:=s1.toks+1}:=I1.kept fun b ob q=>Heap.get?_push_of_some _ q
 obtain ⟨its,r,ht,hz⟩:=I4.tuple hx
 have hlen:its.toArray.size=xs.length:=by rw [List.size_toArray];exact r.length.symm
 refine tail_any (ops:=[.ref a,.ref s1.heap.objs.size]) ht.typeIs PyProof.Rows.slot_tuple_getitem.lookup ?_ (by with_unfolding_all rfl)
 refine zgs ht (Heap.IsSliceOf.new ..) (by rw [hlen];exact hn) ?_
 refine ⟨.ref _,_,I4.laid (o:= .tup (wa xs)) (fun b ob q=>Heap.get?_push_of_some _ q) (Nat.le_refl _) ?_,rfl,q _ (I4.hok.fresh (Nat.le_refl _))⟩
 exact ⟨Nat.le_trans (ze9 xs) hz,_,zeb r,YH.new _ _⟩
end
end L2
namespace L2
open PySem PySem.Spec PyProof.Rows PySem.Calls
theorem TU:typeLookup (.type "tuple") "keys"=pure none:=by rw [typeLookup_type,builtinLookup_eq_fast];kernel_rfl
theorem zbV:typeLookup (.type "tuple") "__getattr__"=pure none:=by rw [typeLookup_type,builtinLookup_eq_fast];kernel_rfl
section
variable {prog:Program} {w:World} {A:Around} {E:Value→Shared→Prop} {h:Heap} {g:Array GenState} {d:Drawn} {t:Nat} {os:OsState} {a:Addr}
noncomputable def zij (h:Heap) (g:Array GenState) (d:Drawn) (os:OsState) (E:Value→Shared→Prop):Prop:=∀h' e tk',(∀b o,h.get? b=some o→h'.get? b=some o)→(∃o,h'.get? e=some o∧o.cls= .type "AttributeError")→E (.ref e) ⟨h',g,d,tk',os⟩
theorem zcG {tk:Tok} {Q:Fin→Shared→Prop} {xs:Array Value} {n:Nat} {sl:Array (Option Value)} (hx:h.get? a=some ⟨.type "tuple",none,.seq xs n,sl⟩) (hh:A.handled=none) (hq:zij h g d os E):
  wpAny (model prog w) A (Builtin.«object.__getattribute__» ⟨[.ref a,.str "keys" tk],[]⟩) Q E ⟨h,g,d,t,os⟩:=by
 have hT:(⟨h,g,d,t,os⟩:Shared).TypeIs (.ref a) "tuple":=⟨_,hx,rfl⟩
 have f4:=TU
 repeat (any_goals (first|assumption|wp_step))
 refine wpAny_raiseAttrError hh (fun h' tk' e q=> ?_) (by decide+kernel)
 obtain ⟨q1,q2,o,vs,q3⟩:=q
 exact hq h' e tk' q1 ⟨_,q3,rfl⟩
theorem zec {tk:Tok} {R:Result→Shared→Prop} {xs:Array Value} {n:Nat} {sl:Array (Option Value)} (hx:h.get? a=some ⟨.type "tuple",none,.seq xs n,sl⟩) (hh:A.handled=none) (hq:zij h g d os fun e s=>R (.error e) s):
  codeAny (model prog w) A (.call (.builtin "tuple.__getattribute__") ⟨[.ref a,.str "keys" tk],[]⟩) R ⟨h,g,d,t,os⟩:=
 codeAny_call_builtin F.slot_tuple_getattribute.plain F.entry_tuple_ga (F.slot_tuple_getattribute.check _ _ _ _ _ _ _ _ (show (⟨h,g,d,t,os⟩:Shared).TypeIs (.ref a) "tuple" from ⟨_,hx,rfl⟩) (F.args_tuple_getattribute_2 _ _) (zcG hx (by simpa using hh) hq))
theorem zgt {tk:Tok} {Q:Value→Shared→Prop} {xs:Array Value} {n:Nat} {sl:Array (Option Value)} (hx:h.get? a=some ⟨.type "tuple",none,.seq xs n,sl⟩) (hh:A.handled=none) (hq:zij h g d os E):
  wpAny (model prog w) A (getAttrBy (.ref a) (.str "keys" tk) false) Q E ⟨h,g,d,t,os⟩:=by
 have hT:(⟨h,g,d,t,os⟩:Shared).TypeIs (.ref a) "tuple":=⟨_,hx,rfl⟩
 have f2:=F.slot_tuple_getattribute.lookup
 have f3:=F.slot_tuple_getattribute.bind (.ref a)
 have f5:=zbV
 repeat (any_goals (first|assumption|wp_step))
 refine zec hx (by simpa using hh) fun h' e tk' q1 q2=> ?_
 obtain ⟨o,q2,q3⟩:=q2
 have hE:(⟨h',g,d,tk',os⟩:Shared).TypeIs (.ref e) "AttributeError":=⟨_,q2,q3⟩
 have f6:=sub_AttributeError
 have hT':(⟨h',g,d,tk',os⟩:Shared).TypeIs (.ref a) "tuple":=⟨_,q1 _ _ hx,rfl⟩
 repeat (any_goals (first|assumption|wp_step))
 exact hq h' e tk' q1 ⟨o,q2,q3⟩
theorem zed {Q:Option Value→Shared→Prop} {xs:Array Value} {n:Nat} {sl:Array (Option Value)} (hx:h.get? a=some ⟨.type "tuple",none,.seq xs n,sl⟩) (hh:A.handled=none) (hq:∀h' tk',(∀b o,h.get? b=some o→h'.get? b=some o)→Q none ⟨h',g,d,tk',os⟩):
  wpAny (model prog w) A (getAttr? (.ref a) "keys") Q E ⟨h,g,d,t,os⟩:=by
 unfold getAttr? getAttrBy?
 have hT:(⟨h,g,d,t,os⟩:Shared).TypeIs (.ref a) "tuple":=⟨_,hx,rfl⟩
 refine wpAny_bind (wpAny_mkText (wpAny_bind (wpAny_attempt (zgt hx hh fun h' e tk' q1 q2=> ?_))))
 obtain ⟨o,q2,q3⟩:=q2
 have hE:(⟨h',g,d,tk',os⟩:Shared).TypeIs (.ref e) "AttributeError":=⟨_,q2,q3⟩
 have f6:=sub_AttributeError
 repeat (any_goals (first|assumption|wp_step))
 exact hq h' tk' q1
end
theorem zbW:entryFor table "dict.update.loop"=some Builtin.«dict.update.loop» :=entryFor_of_fast (by kernel_rfl)
theorem Vt:plainId "dict.update.loop"=true:=by decide+kernel
section
variable {prog:Program} {w:World} {A:Around} {I:Addr} {fp wr:List Addr} {G:Array GenState→Array GenState→Prop} {n:Nat} {P:Nat→Value→Prop} {St:Nat→Shared→Prop} {R:Result→Shared→Prop} {KK:Type} [DecidableEq KK] {knd:KeyKind prog w KK}
theorem zee {kv:List (KK×Value)} {i:Nat} {k:KK} {v:Value} (nd:(kv.map (·.1)).Nodup) (h:kv[i]? =some (k,v)):stored (kv.take i) k v=kv.take (i+1):=by
 have hi:=(List.getElem?_eq_some_iff.1 h).1
 have e:=(List.getElem?_eq_some_iff.1 h).2
 unfold stored
 rw [if_neg,List.take_succ_eq_append_getElem hi,e]
 intro q
 rw [List.any_eq_true] at q
 obtain ⟨x,hx,hk⟩:=q
 obtain ⟨m,hm,rfl⟩:=List.mem_iff_getElem.1 hx
 rw [List.length_take] at hm
 have hk:(kv.take i)[m].1=k:=of_decide_eq_true hk
 rw [List.getElem_take] at hk
 have h2:=(List.getElem_inj (xs:=kv.map (·.1)) (i:=m) (j:=i) (h₀:=by rw [List.length_map];omega) (h₁:=by rw [List.length_map];omega) nd).1 (by rw [List.getElem_map,List.getElem_map,hk,e])
 omega
theorem zgu (W:WalksS prog w A.in1 I fp wr G n P St) (d:Addr) (nf:d∉fp) (h0:Heap) (old:∀b o,h0.get? b=some o→b∉d::wr) (kv:List (KK×Value)) (nd:(kv.map (·.1)).Nodup) (hn:kv.length=n) (h64:n≤sizeLine)
  (tell:∀i v,P i v→∃p key k x m,kv[i]? =some (k,x)∧v= .ref p∧knd.is k key=true∧∃o,h0.get? p=some o∧o.cls= .type "tuple"∧o.data= .seq #[key,x] m):
  ∀(q i:Nat) (s:Shared) (t:Tok),n-i=q→i≤n→St i s→(∀b o,h0.get? b=some o→s.heap.get? b=some o)→s.heap.DictOf knd d (kv.take i)→(∀s',Moved (d::wr) G s s'→s'.heap.DictOf knd d kv→R (.ok (.ret .none)) s')→
   codeAny (model prog w) A (.builtin "dict.update.loop" ⟨[.ref d,.ref I,.int i t,.none],[]⟩) R s:=by
 have nw:d∉wr:=fun q=>nf (W.sub _ q)
 have up:∀b∈wr,b∈d::wr:=fun b q=> .tail _ q
 have ns:∀{b:Addr},b∉d::wr→b≠d:=fun q e=>q (e ▸ .head _)
 have stay:∀{s s':Shared} {l:List (KK×Value)},Moved wr G s s'→s.heap.DictOf knd d l→s'.heap.DictOf knd d l:=by
  rintro s s' l mv ⟨o,es,ep,ho,r⟩
  exact ⟨o,es,ep,mv.heap d o nw ho,r⟩
 intro q
 induction q with
 |zero=>
  intro i s t hq hi st ho hD fin
  obtain rfl:i=n:=by omega
  refine codeAny_builtin zbW (by
   rw [Around.under_plainId Vt _]
   refine wpAny_bind (m:=pyNext (.ref I)) (W.done s _ _ st fun s' mv=> ?_)
   refine wpAny_bind (m:=Builtin.Dict.addKeywords d []) (wpAny_pure (wpAny_pure (fin s' (mv.mono up) ?_)))
   have:=stay mv hD
   rwa [←hn,List.take_length] at this)
 |succ q ih=>
  intro i s t hq hi st ho hD fin
  have lt:i<n:=by omega
  refine codeAny_builtin zbW (by
   rw [Around.under_plainId Vt _]
   refine wpAny_bind (m:=pyNext (.ref I)) (W.item i s _ _ lt st fun v s' hv st' mv=> ?_)
   obtain ⟨p,key,k,x,m,hk,rfl,his,o,hp,hc,hd⟩:=tell i v hv
   have ho':∀b o,h0.get? b=some o→s'.heap.get? b=some o:=fun b o e=>mv.heap b o (fun z=>old b o e (up b z)) (ho b o e)
   have hp':=ho' _ _ hp
   have hT:s'.TypeIs (.ref p) "tuple":=⟨_,hp',hc⟩
   refine wpAny_bind (wpAny_holding (wpAny_bind (m:=tryCatch (Builtin.Dict.pairItems (.ref p)) _) (wpAny_tryCatch ?_)))
   unfold Builtin.Dict.pairItems
   refine wpAny_bind (wpAny_typeOf hT ?_)
   rw [if_pos (by decide)]
   refine wpAny_bind (wpAny_seqItems hp' hd (wpAny_pure ?_))
   refine wpAny_holding (m:=dictSet d key x) (wpAny_dictSet_pairs his (stay mv hD) (fun h' hD' sb=> ?_) (by rw [List.length_take];omega))
   rw [zee nd hk] at hD'
   refine wpAny_pure ⟨plainId_quiet Vt _,ih (i+1) _ _ (by omega) lt (W.frame _ s' h' (s'.toks+1) st' (Nat.le_succ _) fun b hb ob e=>(sb.2 b fun z=>nf (z ▸ hb)).trans e) (fun b ob e=>(sb.2 b (ns (old b ob e))).trans (ho' b ob e)) hD' fun s'' mv2 hD2=> ?_⟩
   exact fin s'' (Moved.trans W.gtrans ((mv.mono up).then_heap (Nat.le_succ _) fun b ob q e=>(sb.2 b (ns q)).trans e) mv2) hD2)
variable {E:Value→Shared→Prop} {s:Shared}
theorem zgv {a:Addr} {items:Array Value} {m:Nat} {sl:Array (Option Value)} {kv:List (KK×Value)} {Q:Value→Shared→Prop} (hh:A.handled=none) (hx:s.heap.get? a=some ⟨.type "tuple",none,.seq items m,sl⟩) (nd:(kv.map (·.1)).Nodup) (hn:kv.length=items.size) (h64:items.size≤sizeLine)
  (tell:∀(i:Nat) v,items[i]? =some v→∃p key k x m,kv[i]? =some (k,x)∧v= .ref p∧knd.is k key=true∧∃o,s.heap.get? p=some o∧o.cls= .type "tuple"∧o.data= .seq #[key,x] m)
  (h:∀s':Shared,s'.heap.DictOf knd s.heap.objs.size kv→(∀b o,s.heap.get? b=some o→s'.heap.get? b=some o)→s'.gens=s.gens→s'.drawn=s.drawn→s'.os=s.os→Q (.ref s.heap.objs.size) s'):
  wpAny (model prog w) A (call (.type "dict") [.ref a]) Q E s:=by
 refine callType_codes (Q₁:=fun obj s₁=>obj= .ref s.heap.objs.size∧s₁={s with heap:=s.heap.push {cls:= .type "dict",data:= .dict #[]}}) F.kt_called_dict (F.kt_typeCall_dict_1 _) F.entry_dict_init (kt_code_dict_new _ ⟨rfl,rfl⟩) ?_
 rintro obj s₁ ⟨rfl,rfl⟩
 have hnew:(s.heap.push {cls:= .type "dict",data:= .dict #[]}).DictOf knd s.heap.objs.size []:=Heap.DictOf.new s.heap
 have hx1:=Heap.get?_push_of_some (h:=s.heap) {cls:= .type "dict",data:= .dict #[]} hx
 have hT:Shared.TypeIs {s with heap:=s.heap.push {cls:= .type "dict",data:= .dict #[]}} (.ref a) "tuple":=⟨_,hx1,rfl⟩
 refine ⟨hnew.typeIs,F.args_dict_init_2 _ _,?_⟩
 unfold Builtin.«dict.__init__»
 refine wpAny_bind (by
  unfold Builtin.Dict.selfAndRest
  refine wpAny_bind (wpAny_notOrdered_dict hnew.typeIs (wpAny_pure (a:=(s.heap.objs.size,[Value.ref a])) ?_))
  show wpAny _ _ (Builtin.Dict.updateFrom "dict.__init__" s.heap.objs.size (.ref a) [] .none) _ _ _
  unfold Builtin.Dict.updateFrom
  refine wpAny_bind (wpAny_typeOf hT ?_)
  rw [if_pos (by decide)]
  refine wpAny_bind (zed (g:=s.gens) (d:=s.drawn) (t:=s.toks) (os:=s.os) hx1 (by simpa using hh) fun h' tk' kp=> ?_)
  rw [if_pos (by rfl)]
  refine wpAny_bind (wpAny_rule ?_)
  have hx2:=kp _ _ hx1
  refine wpAny_bind (wpAny_pyIter_tuple (items:=items) ⟨_,hx2,rfl,m,rfl⟩ ?_)
  have lt:a<h'.objs.size:=Heap.lt_size hx2
  have ltd:s.heap.objs.size<h'.objs.size:=by
   obtain ⟨o,_,_,e,_⟩:=hnew
   exact Heap.lt_size (kp _ _ e)
  refine wpAny_pure ⟨plainId_quiet Vt _,?_⟩
  have old:∀b o,s.heap.get? b=some o→b≠s.heap.objs.size∧b≠h'.objs.size:=fun b o e=>⟨Nat.ne_of_lt (Heap.lt_size e),Nat.ne_of_lt (Nat.lt_trans (Heap.lt_size e) ltd)⟩
  refine zgu (G:=fun a b=>b=a) ((Walks.tuple (A:=A.in1.in1) (by simpa using hh) h'.objs.size a (Nat.ne_of_lt lt) items).toS) s.heap.objs.size (fun z=> ?_) s.heap (fun b o e z=> ?_) kv nd hn h64 (fun i v hv=>tell i v hv) _ 0 _ _ rfl (Nat.zero_le _) ⟨⟨_,Heap.get?_push_size _ rfl,rfl,rfl⟩,⟨_,Heap.get?_push_of_some _ hx2,rfl,m,rfl⟩⟩ (fun b o e=> ?_) ?_ (fun s' mv hD=> ?_)
  ·rcases (by simpa using z:s.heap.objs.size=h'.objs.size∨s.heap.objs.size=a) with z|z
   ·omega
   ·exact (old _ _ hx).1 z.symm
  ·rcases (by simpa using z:b=s.heap.objs.size∨b=h'.objs.size) with z|z
   ·exact (old _ _ e).1 z
   ·exact (old _ _ e).2 z
  ·exact Heap.get?_push_of_some _ (kp _ _ (Heap.get?_push_of_some _ e))
  ·rw [List.take_zero]
   obtain ⟨o,es,ep,e,r⟩:=hnew
   exact ⟨o,es,ep,Heap.get?_push_of_some _ (kp _ _ e),r⟩
  ·refine ⟨rfl,h s' hD (fun b o e=>mv.heap b o (fun z=> ?_) (Heap.get?_push_of_some _ (kp _ _ (Heap.get?_push_of_some _ e)))) mv.gens mv.drawn mv.os⟩
   rcases (by simpa using z:b=s.heap.objs.size∨b=h'.objs.size) with z|z
   ·exact (old _ _ e).1 z
   ·exact (old _ _ e).2 z)
end
noncomputable def PrT (H:Hp):V→Key×V→Prop:=fun p q=>∃b,p= .ref b∧H b=some (.tup [kV q.1,q.2])
noncomputable def zfb:List V→Hp→VK→Prop:=fun xs H Q=>∃(a:Addr) (ps:List V) (kvs:List (Key×V)),xs=[.ref a]∧H a=some (.tup ps)∧Paired (PrT H) ps kvs∧(kvs.map (·.1)).Nodup∧∀l,H l=none→Q (.ref l) (upd H l (.dK kvs))
theorem zbX {P:Program} {w:World} {H:Hp} {h:Heap} (ok:HOk P w H h):∀{ps:List V} {kvs:List (Key×V)} {its:List Value},Paired (PrT H) ps kvs→yE ps its→∃kv:List (Key×Value),KV kvs kv∧kv.length=its.length∧∀(i:Nat) v,its[i]? =some v→
  ∃p key k x m,kv[i]? =some (k,x)∧v= .ref p∧(wB P w).is k key=true∧∃o,h.get? p=some o∧o.cls= .type "tuple"∧o.data= .seq #[key,x] m
 |[],[],[],.nil,.nil=>⟨[],.nil,rfl,fun i v e=>by simp at e⟩
 |p::ps,(k,y)::kvs,u::us,.cons h1 h2,.cons r1 r2=>by
  obtain ⟨kv,a1,a2,a3⟩:=zbX ok h2 r2
  obtain ⟨b,rfl,hb⟩:=h1
  cases r1
  obtain ⟨_,its,rv,o,e,c,m,d,_⟩:=(show xD P w H h b (.tup _) from ok b _ hb)
  obtain ⟨u1,u2,rfl,g1,g2⟩:=zc5 rv
  refine ⟨(k,u2)::kv,.cons ⟨rfl,g2⟩ a1,by rw [List.length_cons,List.length_cons,a2],fun i v e'=> ?_⟩
  cases i with
  |zero=>
   cases e'
   refine ⟨b,u1,k,u2,m,rfl,rfl,?_,o,e,c,by simpa using d⟩
   cases k with
   |inl i=>obtain ⟨t,rfl⟩:=g1;exact zai i t
   |inr x=>obtain ⟨t,rfl⟩:=g1;exact zaj x t
  |succ i=>exact a3 i v (by simpa using e')
section
variable {X:Cx}
theorem zcH (hc:X.calm=true):vD X (.type "dict") zfb:=by
 intro pins s σ H xs us Q I r h
 obtain ⟨a,ps,kvs,rfl,ha,hp,nd,q⟩:=h
 obtain ⟨u,rfl,ru⟩:=WF r
 cases ru
 obtain ⟨z,its,rv,o,e,c,m,d,dn⟩:=(show xD X.prog X.w H s.heap a (.tup ps) from I.hok a _ ha)
 obtain ⟨kv,a1,a2,a3⟩:=zbX I.hok hp rv
 obtain ⟨oc,od,oda,osl⟩:=o
 simp only at c d dn
 subst c d dn
 have hkl:kvs.length=its.length:=by rw [←hp.length,←rv.length]
 have nd':(kv.map (·.1)).Nodup:=by rw [show kv.map (·.1)=kvs.map (·.1) from (KV.keys a1).symm];exact nd
 refine zgv (knd:=wB X.prog X.w) (kv:=kv) (I.ok.hd hc) e nd' (by rw [List.size_toArray];exact a2) (by rw [List.size_toArray,←rv.length];exact z) (fun i v hv=>a3 i v (by simpa using hv)) fun s' hD kp e1 e2 e3=> ?_
 have e':({s with heap:=s'.heap,toks:=s'.toks}:Shared)=s':=by
  cases s'
  simp only at e1 e2 e3
  subst e1 e2 e3
  rfl
 have I1:=I.laid (a:=s.heap.objs.size) (o:= .dK kvs) (t':=s'.toks) kp (Nat.le_refl _) ⟨by rw [hkl,←rv.length];exact z,beq_eq_false_iff_ne.mpr (Nat.ne_of_gt I.big),kv,a1,hD⟩
 rw [e'] at I1
 exact ⟨.ref _,_,I1,rfl,q _ (I.hok.fresh (Nat.le_refl _))⟩
end
end L2
namespace L2
open PySem PySem.Spec PyProof.Rows PySem.Calls
noncomputable def vF (acc:List Str):List Str→List Str
 |[]=>acc
 |x::r=>vF (if x∈acc then acc else acc++[x]) r
noncomputable def zfc (acc:List Str) (x:Str):List Str:=if x∈acc then acc else acc++[x]
theorem zaE {xs:List Str}:∀{acc:List Str} {i:Nat} {x:Str},xs[i]? =some x→vF acc (xs.take (i+1))=zfc (vF acc (xs.take i)) x:=by
 induction xs with
 |nil=>intro acc i x h;simp at h
 |cons y r ih=>
  intro acc i x h
  cases i with
  |zero=>cases h;rfl
  |succ i=>
   have h:r[i]? =some x:=by simpa using h
   exact ih h
theorem UW:∀(xs acc:List Str),(vF acc xs).length≤acc.length+xs.length
 |[],acc=>Nat.le_refl _
 |x::r,acc=>by
  have:=UW r (if x∈acc then acc else acc++[x])
  show (vF (if x∈acc then acc else acc++[x]) r).length≤_
  rw [List.length_cons]
  split at this
  ·rw [if_pos (by assumption)];omega
  ·rw [if_neg (by assumption)]
   rw [List.length_append,List.length_singleton] at this
   omega
section
variable {prog:Program} {w:World} {A:Around} {I:Addr} {fp wr:List Addr} {G:Array GenState→Array GenState→Prop} {n:Nat} {P:Nat→Value→Prop} {St:Nat→Shared→Prop} {R:Result→Shared→Prop}
theorem zgw (W:WalksS prog w A.in1 I fp wr G n P St) (S:Addr) (nf:S∉fp) (xs:List Str) (hx:xs.length=n) (tell:∀i v,P i v→∃x t,xs[i]? =some x∧v= .str x t) (hb:n+1<scanBound):
  ∀(q i:Nat) (s:Shared),n-i=q→i≤n→St i s→s.heap.SetOf (strKind prog w) S (fun k=>decide (k∈vF [] (xs.take i))) (vF [] (xs.take i)).length→
   (∀s',Moved (S::wr) G s s'→s'.heap.SetOf (strKind prog w) S (fun k=>decide (k∈vF [] xs)) (vF [] xs).length→R (.ok (.ret .none)) s')→codeAny (model prog w) A (.builtin "set.update.loop" ⟨[.ref S,.ref I],[]⟩) R s:=by
 have nw:S∉wr:=fun q=>nf (W.sub _ q)
 have up:∀b∈wr,b∈S::wr:=fun b q=> .tail _ q
 have ns:∀{b:Addr},b∉S::wr→b≠S:=fun q e=>q (e ▸ .head _)
 have stay:∀{s s':Shared} {f:Str→Bool} {m:Nat},Moved wr G s s'→s.heap.SetOf (strKind prog w) S f m→s'.heap.SetOf (strKind prog w) S f m:=by
  rintro s s' f m mv ⟨o,es,ep,t,ho,r⟩
  exact ⟨o,es,ep,t,mv.heap S _ nw ho,r⟩
 intro q
 induction q with
 |zero=>
  intro i s hq hi st hS fin
  obtain rfl:i=n:=by omega
  refine codeAny_builtin F.entry_set_update_loop (by
   rw [Around.under_plainId F.plain_set_update_loop _]
   refine wpAny_bind (m:=pyNext (.ref I)) (W.done s _ _ st fun s' mv=> ?_)
   refine wpAny_pure (fin s' (mv.mono up) ?_)
   have:=stay mv hS
   rwa [←hx,List.take_length] at this)
 |succ q ih=>
  intro i s hq hi st hS fin
  have lt:i<n:=by omega
  refine codeAny_builtin F.entry_set_update_loop (by
   rw [Around.under_plainId F.plain_set_update_loop _]
   refine wpAny_bind (m:=pyNext (.ref I)) (W.item i s _ _ lt st fun v s' hv st' mv=> ?_)
   obtain ⟨x,t,ex,rfl⟩:=tell i v hv
   have his:(strKind prog w).is x (.str x t)=true:=by show Value.isStrOf x (.str x t)=true;simp [Value.isStrOf]
   refine wpAny_bind (m:=holding [Value.str x t] (setAdd S (.str x t))) (wpAny_holding (by
    unfold setAdd
    refine wpAny_holding (wpAny_bind ((strKind prog w).pyHash (k:=x) his ?_))
    have hl:=UW (xs.take i) []
    rw [List.length_take,List.length_nil] at hl
    refine wpAny_setAddHashed_of (knd:=strKind prog w) (s:={s' with toks:=s'.toks+1}) his rfl (show s'.heap.SetOf _ _ _ _ from stay mv hS) (by omega) fun h' sb hS2=> ?_
    have hS3:h'.SetOf (strKind prog w) S (fun k=>decide (k∈vF [] (xs.take (i+1)))) (vF [] (xs.take (i+1))).length:=by
     refine SetOf_congr hS2 (fun k=> ?_) ?_
     ·rw [zaE ex]
      unfold zfc
      by_cases hm:x∈vF [] (xs.take i)
      ·rw [if_pos hm]
       by_cases hk:k=x
       ·subst hk;simp [hm]
       ·simp [hk]
      ·rw [if_neg hm]
       by_cases hk:k=x
       ·subst hk;simp
       ·simp [hk]
     ·rw [zaE ex]
      unfold zfc
      by_cases hm:x∈vF [] (xs.take i)
      ·rw [if_pos hm,if_pos (decide_eq_true hm)]
      ·rw [if_neg hm,if_neg (by simpa using hm)];simp
    refine wpAny_pure ⟨plainId_quiet F.plain_set_update_loop _,ih (i+1) _ (by omega) lt (W.frame _ s' h' _ st' (Nat.le_succ _) fun b hb ob e=>(sb.2 b fun z=>nf (z ▸ hb)).trans e) hS3 fun s'' mv2 hD2=> ?_⟩
    exact fin s'' (Moved.trans W.gtrans ((mv.mono up).then_heap (Nat.le_succ _) fun b ob q e=>(sb.2 b (ns q)).trans e) mv2) hD2)))
end
section
variable {prog:Program} {w:World} {A:Around} {E:Value→Shared→Prop} {s:Shared}
set_option maxHeartbeats 3200000 in
theorem zgx {l:Addr} {items:Array Value} {xs:List Str} {Q:Value→Shared→Prop} (hh:A.handled=none) (hl:s.heap.IsList l items) (hx:xs.length=items.size) (hb:items.size+1<scanBound)
  (tell:∀(i:Nat) v,items[i]? =some v→∃x t,xs[i]? =some x∧v= .str x t)
  (h:∀(h':Heap) (tk:Nat),h'.SetOf (strKind prog w) s.heap.objs.size (fun k=>decide (k∈vF [] xs)) (vF [] xs).length→(∀b o,s.heap.get? b=some o→h'.get? b=some o)→Q (.ref s.heap.objs.size) {s with heap:=h',toks:=tk}):
  wpAny (model prog w) A (call (.type "set") [.ref l]) Q E s:=by
 obtain ⟨c,tl,hmro⟩:=F.called_set.mro
 have hmade:=F.called_set.made
 have hsub:=F.called_set.sub
 refine wpAny_call (codeAny_of_tree ?_)
 show wpAny _ _ (callAny (.type "set") _) _ _ _
 refine wpAny_pure ⟨Code.quiet_builtin _ (by decide+kernel),codeAny_builtin F.entry_type_call ?_⟩
 rw [Around.under_plain (weight_type_call_type "set" [.ref l] []) rfl]
 have h1:=F.called_set.notType
 have h2:=F.called_set.canCreate
 have hct:=F.typeCall_set_1 (.ref l)
 repeat (any_goals (first|assumption|wp_step))
 refine codeAny_mono (zig (.ref l) (E:=E) (Q₁:=fun obj s₁=>obj= .ref s.heap.objs.size∧s₁={s with heap:=s.heap.push (za5 (TR w))}) ⟨rfl,rfl⟩) fun r s₁ hr=> ?_
 cases r with
 |error e=>exact hr
 |ok fl=>
  cases fl with
  |ret obj=>
   obtain ⟨rfl,rfl⟩:=hr
   have hS:(s.heap.push (za5 (TR w))).get? s.heap.objs.size=some (za5 (TR w)):=Heap.get?_push_size _ rfl
   have hT:Shared.TypeIs {s with heap:=s.heap.push (za5 (TR w))} (.ref s.heap.objs.size) "set":=⟨_,hS,rfl⟩
   have hli:=F.called_set.init.lookup
   have hbi:=F.called_set.init.bind (.ref s.heap.objs.size)
   repeat (any_goals (first|assumption|wp_step))
   refine codeAny_mono (codeAny_call_builtin (R:=wants (fun r s₂=>r= .none∧∃h' tk,s₂={s with heap:=h',toks:=tk}∧h'.SetOf (strKind prog w) s.heap.objs.size (fun k=>decide (k∈vF [] xs)) (vF [] xs).length∧(∀b o,s.heap.get? b=some o→h'.get? b=some o)) E) F.called_set.init.plain F.entry_set_init (check_set_init_1 hT ?_)) fun r₂ s₂ hr₂=> ?_
   ·obtain ⟨ol,hol,hcl,nl,hdl⟩:=hl
    obtain ⟨ocls,odict,odata,oslots⟩:=ol
    simp only at hcl hdl
    subst hcl
    subst hdl
    have hol':(s.heap.push (za5 (TR w))).get? l=some {cls:= .type "list",dict:=odict,data:= .seq items nl,slots:=oslots}:=Heap.get?_push_of_some _ hol
    have hsls:=F.sub_list_set
    have hslf:=F.sub_list_frozenset
    have hne:(Value.type "list"==Value.type "dict")=false:=by decide
    have hl1:(s.heap.push (za5 (TR w))).IsList l items:=⟨_,hol',rfl,nl,rfl⟩
    unfold Builtin.«set.__init__» noKeywords Builtin.Frozenset.updateFrom
    generalize hPI:pyIter=PI
    wp_walk
    subst hPI
    refine wpAny_pyIter_list hl1 ?_
    refine wpAny_bind (wpAny_runValue ?_)
    have hlS:l<s.heap.objs.size:=Heap.lt_size hol
    have hh3:A.in1.in1.in1.handled=none:=by simp [hh]
    have hsz:(s.heap.push (za5 (TR w))).objs.size=s.heap.objs.size+1:=Heap.size_push ..
    have hneI:l≠(s.heap.push (za5 (TR w))).objs.size:=by rw [hsz];exact Nat.ne_of_lt (Nat.lt_succ_of_lt hlS)
    refine zgw ((Walks.list hh3 _ l hneI items).toS) s.heap.objs.size (by rw [hsz];simp only [List.mem_cons,List.mem_singleton,List.not_mem_nil,or_false,not_or];exact ⟨Nat.ne_of_lt (Nat.lt_succ_self _),Nat.ne_of_gt hlS⟩) xs hx tell hb (items.size-0) 0 _ (by omega) (Nat.zero_le _) ⟨⟨_,Heap.get?_push_size _ rfl,rfl,rfl⟩,hl1.push _⟩ ?_ ?_
    ·exact SetOf_congr ((setObjOf_fresh (knd:=strKind prog w) (TR w)).setOf (Heap.get?_push_of_some _ hS) (by unfold scanBound;omega)) (fun k=>by simp [vF]) rfl
    intro s' hm hS'
    obtain ⟨h',g',d',tk',os'⟩:=s'
    have eg:g'=s.gens:=hm.gens
    have ed:d'=s.drawn:=hm.drawn
    have eo:os'=s.os:=hm.os
    subst eg
    subst ed
    subst eo
    show wpAny _ _ _ _ _ _
    refine wpAny_pure ?_
    show wpAny _ _ (ret Value.none) _ _ _
    refine wpAny_pure ⟨rfl,h',tk',rfl,hS',fun b o e=> ?_⟩
    have hb:=Heap.lt_size e
    exact hm.heap b o (by rw [hsz];simp only [List.mem_cons,List.mem_singleton,List.not_mem_nil,or_false,not_or];exact ⟨Nat.ne_of_lt hb,Nat.ne_of_lt (Nat.lt_succ_of_lt hb)⟩) (Heap.get?_push_of_some _ (Heap.get?_push_of_some _ e))
   ·cases r₂ with
    |error e=>exact hr₂
    |ok fl₂=>
     cases fl₂ with
     |ret r=>
      obtain ⟨rfl,h',tk,rfl,hS',hk'⟩:=hr₂
      repeat (any_goals (first|assumption|wp_step))
      exact h _ _ hS' hk'
     |_=>exact hr₂.elim
  |_=>exact hr.elim
end
noncomputable def zg8 (K:PySem.W.Frag):V→Hp→VK→Prop:=fun x H Q=>∃(p:Addr) (xs:List Str),x= .ref p∧SqL K H p (xs.map V.str)∧xs.length≤200∧Q (.int ((vF [] xs).length:Nat)) H
noncomputable def zg9 (K:PySem.W.Frag) (te:TE):TE:=fun σ H Q=>te σ H fun x H1=>zg8 K x H1 Q
section
variable {X:Cx}
set_option maxHeartbeats 3200000 in
theorem zef {K:PySem.W.Frag} {e:Expr} {te:TE} {p p2 pos pos2:Pos} (hc:X.calm=true) (hg:Gl X "len") (hm:X.mg "len"=none) (hg2:Gl X "set") (hm2:X.mg "set"=none) (ha:PE X e te) (hK:X.K=K:=by rfl)
  (he2:starEach [e] X.env=[(false,eval e X.env)]:=by rfl) (he:starEach [.Call (.Name "set" p2) [e] [] pos2] X.env=[(false,eval (.Call (.Name "set" p2) [e] [] pos2) X.env)]:=by rfl):
  PE X (.Call (.Name "len" p) [.Call (.Name "set" p2) [e] [] pos2] [] pos) (zg9 K te):=by
 subst hK
 intro pins s σ H Q I h
 refine wpAny_Call_Name_kw (WN I hg hm Boot.«len» ?_ (by decide) (by decide))
 refine PyProof.Rows.callWith_builtin1 ?_ he rfl
 rw [he]
 show wpAny _ _ (spliced ((false,eval (.Call (.Name "set" p2) [e] [] pos2) X.env)::backTo pos [])) _ _ s
 refine Calls.spliced_cons ?_
 refine wpAny_Call_Name_kw (WN I hg2 hm2 Boot.«set» ?_ (by decide) (by decide))
 refine PyProof.Rows.callWith_type1 ?_ he2 rfl
 refine thn (za ha zg he2 pos2 pins s σ H (fun vs H1=>∃x,vs=[x]∧zg8 X.K x H1 Q) I ?_) ?_
 ·have h:te σ H _:=h
  show te σ H fun x H1=>∃y,[x]=[y]∧_
  simpa only [List.cons.injEq,and_true,exists_eq_left'] using h
 rintro us s1 ⟨vs,H1,I1,r1,x,rfl,a,xs,rfl,hq,h200,q⟩
 obtain ⟨u,rfl,ru⟩:=WF r1
 cases ru
 obtain ⟨its,rv,pl,hz⟩:=I1.list hq
 have hl:xs.length=its.length:=by rw [←rv.length,List.length_map]
 refine zgx (xs:=xs) (I1.ok.hd hc) pl.isList (by rw [List.size_toArray];exact hl) (by rw [List.size_toArray];unfold scanBound;omega) (fun i v hv=> ?_) fun h' tk hS kp=> ?_
 ·have hv:its[i]? =some v:=by simpa using hv
  have hi:i<xs.length:=by rw [hl];exact (List.getElem?_eq_some_iff.1 hv).1
  obtain ⟨u,hu,t,ru⟩:=rv.get (i:=i) (x:=V.str xs[i]) (by rw [List.getElem?_map,List.getElem?_eq_getElem hi];rfl)
  rw [hu] at hv
  cases hv
  exact ⟨xs[i],t,List.getElem?_eq_getElem hi,ru⟩
 refine Calls.spliced_nil ?_
 have I2:Inv X pins σ H1 {s1 with heap:=h',toks:=tk}:=I1.kept kp
 obtain ⟨o,es,ep,t,ho,hex,hd,_,_,hsb,hft,hn⟩:=hS
 refine call_len_set (s:={s1 with heap:=h',toks:=tk}) ho hex hd hft (by unfold scanBound at hsb;omega) ?_
 rw [hn]
 exact ⟨.int _,H1,I2.tok _,⟨_,rfl⟩,q⟩
end
end L2
namespace L2
open PySem PySem.Spec PyProof.Rows PySem.Calls
section
variable {K:PySem.W.Frag} {E:XK}
end
section
variable {S:Sto} {x y:Xv} {P:Xv→Sto→Prop} {p q:Int}
theorem zfd {ρc:Rho} {get:Sto→Option (List Xv)} {g:TwG} {c:TwT} {m:TwE} {xs:List Xv} (hl:xs.length≤sizeLine) (J:Nat→List Xv→Sto→Prop) (hg:∀i es S,i≤xs.length→J i es S→get S=some xs)
  (h:∀(i:Nat) (x:Xv) es S,xs[i]? =some x→es.length≤i→J i es S→W (g x ρc S) fun ρ1 S1=>W (c ρ1 S1) fun b S2=>(b=true→W (m ρ1 S2) fun y S3=>J (i+1) (es++[y]) S3)∧(b=false→J (i+1) es S2)) (h0:J 0 [] S)
  (k:∀es S,es.length≤xs.length→J xs.length es S→P (.ref S.length) (S++[.lst es])):W (wR get g c m ρc (xs.length+1) 0 [] S) P:=by
 have aux:∀(n i:Nat) (es:List Xv) (S:Sto),i+n=xs.length→es.length≤i→J i es S→W (wR get g c m ρc (n+1) i es S) P:=by
  intro n
  induction n with
  |zero=>
   intro i es S e el hj
   unfold wR
   rw [hg i es S (by omega) hj,Option.bind_some,List.getElem?_eq_none (by omega)]
   dsimp only
   rw [if_pos (by omega)]
   exact .of rfl (k es S (by omega) (by rw [show xs.length=i by omega];exact hj))
  |succ n ih=>
   intro i es S e el hj
   unfold wR
   have hi:i<xs.length:=by omega
   rw [hg i es S (by omega) hj,Option.bind_some,List.getElem?_eq_getElem hi]
   obtain ⟨ρ1,S1,e1,b,S2,e2,t,f⟩:=h i _ es S (List.getElem?_eq_getElem hi) el hj
   dsimp only [rn]
   rw [e1]
   dsimp only [rn]
   rw [e2]
   dsimp only [rn]
   cases b with
   |true=>
    obtain ⟨y,S3,e3,q⟩:=t rfl
    rw [if_pos rfl,e3]
    dsimp only [rn]
    rw [if_pos (by omega)]
    exact ih (i+1) (es++[y]) S3 (by omega) (by simp;omega) q
   |false=>
    rw [if_neg (by simp)]
    exact ih (i+1) es S2 (by omega) (by omega) (f rfl)
 exact aux xs.length 0 [] S (by omega) (by simp) h0
end
end L2
namespace L2
open PySem PySem.Spec PyProof.Rows PySem.Calls
section
variable {K:PySem.W.Frag} {E:XK}
end
end L2
namespace L2
open PySem PySem.Spec PyProof.Rows PySem.Calls
section
variable {K:PySem.W.Frag} {E:XK}
end
end L2
namespace L2
open PySem PySem.Spec PyProof.Rows PySem.Calls
section
variable {K:PySem.W.Frag} {E:XK}
end
end L2
namespace L2
open PySem PySem.Spec PyProof.Rows PySem.Calls
end L2
namespace L2
open PySem PySem.Spec PyProof.Rows PySem.Calls
section
variable {K:PySem.W.Frag} {E:XK} {F:Fm} {j:List Addr} {H:Hp} {σ:St} {ρ:Rho} {S:Sto} {x y z:Xv} {u v w:V}
end
end L2
namespace L2
open PySem PySem.Spec PyProof.Rows PySem.Calls
section
variable {K:PySem.W.Frag} {j:List Addr} {H:Hp}
end
section
variable {ρ:Rho} {S:Sto} {P:Xv→Sto→Prop} {N:Rho→Sto→Prop} {R:Xv→Sto→Prop} {a b m z:TwE} {x y:Xv}
end
end L2
namespace L2
open PySem PySem.Spec PyProof.Rows PySem.Calls
section
variable {K:PySem.W.Frag} {E:XK} {F:Fm} {j:List Addr} {H:Hp} {σ:St} {ρ:Rho} {S:Sto} {x:Xv} {v:V} {nm f m:Str} {C:Addr}
end
section
variable {ρ:Rho} {S:Sto} {P:Xv→Sto→Prop} {N:Rho→Sto→Prop} {R:Xv→Sto→Prop} {o m:TwE} {ms:List TwE} {nm f:Str}
end
end L2
namespace L2
open PySem PySem.Spec PyProof.Rows PySem.Calls
section
variable {K:PySem.W.Frag} {E:XK} {j:List Addr} {H:Hp}
end
end L2
namespace L2
open PySem PySem.Spec PyProof.Rows PySem.Calls
section
variable {K:PySem.W.Frag} {E:XK} {F:Fm} {j:List Addr} {H:Hp} {σ:St} {ρ:Rho} {S:Sto} {x:Xv} {v:V} {c:Str} {C:Addr}
end
end L2
namespace L2
open PySem
section
variable {ρ:Rho} {S S':Sto} {x y:Xv} {a b m o:TwE} {c:TwT} {s t:TwS} {i k:Nat} {P:Xv→Sto→Prop} {PL:List Xv→Sto→Prop} {N:Rho→Sto→Prop} {R:Xv→Sto→Prop} {X:Str→Sto→Prop}
end
end L2
namespace L2
open PySem PySem.Spec PyProof.Rows PySem.Calls
section
variable {K:PySem.W.Frag} {E:XK} {F:Fm} {j:List Addr} {H:Hp} {σ:St} {ρ:Rho} {S:Sto} {x:Xv} {v:V} {nm f:Str} {C:Addr}
end
end L2
namespace L2
open PySem PySem.Spec PyProof.Rows PySem.Calls
structure zjW (tw:TwF) (S:Sto) (l:List Xv) (is:List (List Int)):Prop where
 len:is.length=l.length
 key:∀(i:Nat) x,l[i]? =some x→∃k,tw [x] S=some (.ok k S)∧k.tupOf=some ((is.getD i []).map Xv.int)
 fall:zjo is
section
variable {K:PySem.W.Frag} {E:XK} {j:List Addr} {H:Hp}
end
end L2
namespace L2
open PySem PySem.Spec PyProof.Rows PySem.Calls
section
variable {K:PySem.W.Frag} {E:XK} {F:Fm} {j:List Addr} {H:Hp} {σ:St} {ρ:Rho} {S:Sto}
end
end L2
namespace L2
open PySem PySem.Spec PyProof.Rows PySem.Calls
section
variable {K:PySem.W.Frag} {E:XK}
end
section
variable {K:PySem.W.Frag} {E:XK}
end
end L2
namespace L2
open PySem PySem.Spec PyProof.Rows PySem.Calls
section
variable {K:PySem.W.Frag} {E:XK}
end
section
variable {S:Sto} {x y:Xv} {P:Xv→Sto→Prop}
end
end L2
namespace L2
open PySem PySem.Spec PyProof.Rows PySem.Calls
section
variable {K:PySem.W.Frag} {E:XK}
end
end L2
namespace L2
open PySem PySem.Spec PyProof.Rows PySem.Calls
noncomputable def ZC (y:Str):List Xv:=y.cps.toList.map fun c=>Xv.str ⟨#[c]⟩
noncomputable def iS (m:TwE):TwI:=fun ρ S=>rb (m ρ S) fun x S1=>match x with
 | .str y=>if y.cps.all (· <128)=true then some (.ok (fun _=>some (ZC y)) S1) else none
 |_=>none
noncomputable def inS (i j:Str):Bool:= !(Builtin.Str.occurrences j i 0 j.length 1).isEmpty
noncomputable def zjR:V→V→Hp→VK→Prop:=fun x y H Q=>∃i j,x= .str i∧y= .str j∧Q (.bl (!(Builtin.Str.occurrences j i 0 j.length 1).isEmpty)) H
noncomputable def zfe:Xv→Xv→Sto→Option (Xv×Sto):=fun x y S=>match x,y with
 | .str i,.str j=>some (.bl (inS i j),S)
 |_,_=>none
section
variable {K:PySem.W.Frag} {E:XK}
theorem zik {j:List Addr} {H:Hp} {y:Str}:zhP K j H (Its y) (fun _=>some (ZC y)):=by
 intro F2 j2 H2 σ2 ρ2 S2 xs i X2 E2 e2
 cases e2
 refine ⟨fun d hd=> ?_,fun hle=> ?_⟩
 ·unfold ZC at hd
  rw [List.getElem?_map,Option.map_eq_some_iff] at hd
  obtain ⟨c,h1,rfl⟩:=hd
  have h1:y.cps[i]? =some c:=by rw [←h1];simp
  refine ⟨⟨c,h1⟩,?_⟩
  rintro x H' ⟨rfl,c',h2,rfl⟩
  rw [h1] at h2
  cases h2
  exact ⟨Vg.refl _,.str _⟩
 ·unfold ZC at hle
  simp at hle
  show y.cps[i]? =none
  simp
  omega
theorem zcI {t:TE} {m:TwE} (h:RE K E t m):RI K E (zjr t) (iS m):=by
 intro F j σ H ρ S r R En0 e k
 rcases zT e with ⟨x,S1,e1,e⟩|⟨c,S1,e1,rfl⟩
 ·split at e
  ·split at e
   ·rename_i y hb
    cases e
    refine h En0 e1 fun j1 H1 X1 E1 u hu=> ?_
    cases hu
    exact ⟨y,rfl,hb,k _ _ X1 E1 _ zik⟩
   ·cases e
  ·cases e
 ·exact h En0 e1 k
theorem zil:YT K zjR zfe:=by
 intro F j σ H ρ S S' x y z u v Q E1 hx hy h k
 unfold zfe at h
 split at h
 ·cases h
  cases hx
  cases hy
  exact ⟨_,_,rfl,rfl,k _ _ _ Ext.refl E1 (.bl _)⟩
 ·cases h
end
section
variable {m:TwE} {ρ:Rho} {S:Sto}
theorem zff {Q':(Sto→Option (List Xv))→Sto→Prop} (h:W (m ρ S) fun x S1=>∃y,x= .str y∧y.cps.all (· <128)=true∧Q' (fun _=>some (ZC y)) S1):W (iS m ρ S) Q':=W.bind (h.imp fun x S1 h=>by
 obtain ⟨y,rfl,e,k⟩:=h
 dsimp only
 rw [if_pos e]
 exact .of rfl k)
theorem zim {i j:Str} {P:Xv→Sto→Prop} (k:P (.bl (inS i j)) S):WO (zfe (.str i) (.str j) S) P:= .of rfl k
end
end L2
namespace L2
open PySem PySem.Spec PyProof.Rows PySem.Calls
noncomputable def zeg:Xv→Sto→Option (Xv×Sto):=fun x S=>x.tupOf.bind fun l=>if l.length=1∨l.length=3 then some (.tup (wa l),S) else none
noncomputable def UX (k:Int):Xv→Sto→Option (Xv×Sto):=fun x S=>((yB S x).bind YB).map fun ns=>(.int (za6 k ns),S)
noncomputable def UY:List Xv→Option (List Str)
 |[]=>some []
 | .str i::r=>(UY r).map (i:: ·)
 |_::_=>none
noncomputable def Vu:Xv→Sto→Option (Xv×Sto):=fun x S=>((yB S x).bind UY).bind fun xs=>if xs.length≤200 then some (.int ((vF [] xs).length:Nat),S) else none
noncomputable def zbY:List Xv→Option (List (Key×Xv))
 |[]=>some []
 | .tup [.str n,x]::r=>(zbY r).map ((.inr n,x):: ·)
 |_::_=>none
noncomputable def za7:Opn:=fun xs S=>match xs with
 |[.tup l]=>(zbY l).bind fun kvs=>if (kvs.map (·.1)).Nodup then some (.ref S.length,S++[.dk kvs]) else none
 |_=>none
theorem zgy {K:PySem.W.Frag} {j:List Addr} {H:Hp} {xs:List Xv} {vs:List V} (h:yC K j H xs vs):yC K j H (wa xs) (wa vs):=by
 unfold wa
 split
 ·cases h with|cons h1 h=>cases h with|cons h2 h=>cases h with|cons h3 h=>cases h;exact .cons h1 (.cons h3 .nil)
 ·rename_i hx
  split
  ·cases h with|cons h1 h=>cases h with|cons h2 h=>cases h with|cons h3 h=>cases h;exact absurd rfl (hx _ _ _)
  ·exact h
theorem zbZ {K:PySem.W.Frag} {j:List Addr} {H:Hp}:∀{xs:List Xv} {ns:List Str} {vs:List V},UY xs=some ns→yC K j H xs vs→vs=ns.map V.str
 |[],ns,vs,e,h=>by cases e;cases h;rfl
 |x::r,ns,vs,e,h=>by
  unfold UY at e
  split at e
  ·rename_i h0;cases h0
  ·rename_i i r' h0
   cases h0
   rw [Option.map_eq_some_iff] at e
   obtain ⟨ms,e1,rfl⟩:=e
   cases h with|cons h1 h2=>cases h1;rw [zbZ e1 h2];rfl
  ·cases e
theorem zdu {K:PySem.W.Frag} {j:List Addr} {H:Hp}:∀{xs:List Xv} {kvs:List (Key×Xv)} {vs:List V},zbY xs=some kvs→yC K j H xs vs→∃ks,KX K j H kvs ks∧Paired (PrT H) vs ks∧ks.map (·.1)=kvs.map (·.1)
 |[],kvs,vs,e,h=>by cases e;cases h;exact ⟨[],.nil,.nil,rfl⟩
 |x::r,kvs,vs,e,h=>by
  unfold zbY at e
  split at e
  ·rename_i h0;cases h0
  ·rename_i n y r' h0
   cases h0
   rw [Option.map_eq_some_iff] at e
   obtain ⟨ms,e1,rfl⟩:=e
   cases h with
   |cons h1 h2=>
    obtain ⟨ks,g1,g2,g3⟩:=zdu e1 h2
    cases h1 with
    |tup f1 f2=>
     cases f2 with
     |cons q1 q2=>
      cases q1
      cases q2 with
      |cons q3 q4=>
       cases q4
       rename_i a v
       exact ⟨(.inr n,v)::ks,.cons q3 g1,.cons ⟨a,rfl,f1⟩ g2,by rw [List.map_cons,List.map_cons,g3]⟩
  ·cases e
section
variable {K:PySem.W.Frag} {E:XK}
theorem zfg {to:TE} {o:TwE} (h:RE K E to o):RE K E (zjs K to) (eUn zeg o):=by
 intro F j σ H ρ S r Q En0 e k
 rcases zT e with ⟨x,S1,e1,e⟩|⟨c,S1,e1,rfl⟩
 ·refine h En0 e1 fun j1 H1 X1 E1 u hu=> ?_
  obtain ⟨z,S2,e2,rfl⟩:=wP e
  unfold zeg at e2
  rw [Option.bind_eq_some_iff] at e2
  obtain ⟨l,e3,e4⟩:=e2
  split at e4
  ·rename_i hl
   cases e4
   obtain ⟨a,vs,rfl,f1,f2⟩:=hu.tupO e3
   refine ⟨a,vs,rfl,f1,by rw [f2.len];exact hl,fun p hp=> ?_⟩
   obtain ⟨E2,X2⟩:=E1.new (p:=p) (o:= .tup (wa vs)) hp
   exact k _ _ (X1.trans X2) E2 _ (.tup xC (zgy (f2.mono X2)))
  ·cases e4
 ·exact h En0 e1 k
theorem zdv {to:TE} {o:TwE} {i:Int} (h:RE K E to o):RE K E (zg7 K i to) (eUn (UX i) o):=by
 intro F j σ H ρ S r Q En0 e k
 rcases zT e with ⟨x,S1,e1,e⟩|⟨c,S1,e1,rfl⟩
 ·refine h En0 e1 fun j1 H1 X1 E1 u hu=> ?_
  obtain ⟨z,S2,e2,rfl⟩:=wP e
  unfold UX at e2
  rw [Option.map_eq_some_iff] at e2
  obtain ⟨ns,e3,e4⟩:=e2
  cases e4
  rw [Option.bind_eq_some_iff] at e3
  obtain ⟨l,e3,e5⟩:=e3
  obtain ⟨p,ws,rfl,h1,h2⟩:=E1.lstAt hu e3
  refine ⟨p,ns,rfl,?_,k _ _ X1 E1 _ (.int _)⟩
  rw [←Vm e5 h2]
  exact h1.sql
 ·exact h En0 e1 k
theorem zeh {to:TE} {o:TwE} (h:RE K E to o):RE K E (zg9 K to) (eUn Vu o):=by
 intro F j σ H ρ S r Q En0 e k
 rcases zT e with ⟨x,S1,e1,e⟩|⟨c,S1,e1,rfl⟩
 ·refine h En0 e1 fun j1 H1 X1 E1 u hu=> ?_
  obtain ⟨z,S2,e2,rfl⟩:=wP e
  unfold Vu at e2
  rw [Option.bind_eq_some_iff] at e2
  obtain ⟨ns,e3,e4⟩:=e2
  rw [Option.bind_eq_some_iff] at e3
  obtain ⟨l,e3,e5⟩:=e3
  split at e4
  ·rename_i hl
   cases e4
   obtain ⟨p,ws,rfl,h1,h2⟩:=E1.lstAt hu e3
   refine ⟨p,ns,rfl,?_,hl,k _ _ X1 E1 _ (.int _)⟩
   rw [←zbZ e5 h2]
   exact h1.sql
  ·cases e4
 ·exact h En0 e1 k
theorem zfh:Um K zfb za7:=by
 intro F j σ H ρ S S' xs z vs Q E1 hv h k
 unfold za7 at h
 split at h
 ·rename_i l
  rw [Option.bind_eq_some_iff] at h
  obtain ⟨kvs,e,h⟩:=h
  split at h
  ·rename_i nd
   cases h
   obtain ⟨w,rfl,hx⟩:=hv.d1
   cases hx with
   |tup f1 f2=>
    obtain ⟨ks,g1,g2,g3⟩:=zdu e f2
    refine ⟨_,_,ks,rfl,f1,g2,by rw [g3];exact nd,fun p hp=> ?_⟩
    have X:Ext j H (j++[p]) (upd H p (.dK ks)):=⟨fun n a e=>by rw [List.getElem?_append_left (List.getElem?_eq_some_iff.1 e).1];exact e,Zc.same (Zx hp)⟩
    obtain ⟨E2,X2⟩:=E1.cell (o:= .dK ks) (c:= .dk kvs) hp ⟨ks,xC,g1.mono X⟩
    exact k _ _ _ X2 E2 (.ref (by rw [←E1.jl];simp))
  ·cases h
 ·cases h
end
section
variable {S:Sto} {x:Xv} {P:Xv→Sto→Prop}
theorem zfi {l:List Xv} (h:x.tupOf=some l) (hl:l.length=1∨l.length=3) (k:P (.tup (wa l)) S):WO (zeg x S) P:= .of (by unfold zeg;rw [h,Option.bind_some,if_pos hl]) k
theorem zdw {i:Int} {l:List Xv} {ns:List Int} (h:yB S x=some l) (h2:YB l=some ns) (k:P (.int (za6 i ns)) S):WO (UX i x S) P:= .of (by unfold UX;rw [h,Option.bind_some,h2];rfl) k
theorem zei {l:List Xv} {xs:List Str} (h:yB S x=some l) (h2:UY l=some xs) (hl:xs.length≤200) (k:P (.int ((vF [] xs).length:Nat)) S):WO (Vu x S) P:= .of (by unfold Vu;rw [h,Option.bind_some,h2,Option.bind_some,if_pos hl]) k
theorem zfj {l:List Xv} {kvs:List (Key×Xv)} (h:zbY l=some kvs) (nd:(kvs.map (·.1)).Nodup) (k:P (.ref S.length) (S++[.dk kvs])):WO (za7 [.tup l] S) P:= .of (by show ((zbY l).bind _)=_;rw [h,Option.bind_some,if_pos nd]) k
end
end L2
namespace L2
open PySem PySem.Spec PyProof.Rows PySem.Calls
section
variable {X:Cx} {tg:Expr}
noncomputable def zha (K:PySem.W.Frag) (tl:TE):TI:=fun σ H R=>tl σ H fun x H1=>∃a,x= .ref a∧(((∃xs,SqL K H1 a xs)∧R (Itl K a) H1)∨((∃xs,SqT K H1 a xs)∧R (Itt K a) H1))
theorem zgz {K:PySem.W.Frag} {l:Expr} {tl:TE} (hl:PE X l tl) (hK:X.K=K:=by rfl):PI X tg l (zha K tl):=by
 subst hK
 intro pins s σ H R I h
 refine thn (hl pins s σ H _ I h) ?_
 rintro v s1 ⟨x,H1,I1,r1,a,rfl,⟨⟨xs,hq⟩,q⟩|⟨⟨xs,hq⟩,q⟩⟩
 ·cases r1
  obtain ⟨its,rv,p,hz⟩:=I1.list hq
  refine wpAny_pyIter_list p.isList ?_
  refine ⟨s1.heap.objs.size,[s1.heap.objs.size],_,_,H1,rfl,I1.kept (t':=s1.toks) fun b o e=>Heap.get?_push_of_some _ e,zal a _,⟨_,Heap.get?_push_size _ rfl,rfl,rfl⟩,fun b hb=> ?_,q⟩
  have e:b=s1.heap.objs.size:=by simpa using hb
  subst e
  exact I1.fpOk (Nat.le_refl _) (I1.hok.fresh (Nat.le_refl _))
 ·cases r1
  obtain ⟨its,rv,p,hz⟩:=I1.tuple hq
  refine wpAny_pyIter_tuple (show s1.heap.IsTuple a its.toArray from p) ?_
  refine ⟨s1.heap.objs.size,[s1.heap.objs.size],_,_,H1,rfl,I1.kept (t':=s1.toks) fun b o e=>Heap.get?_push_of_some _ e,Uz a _,⟨_,Heap.get?_push_size _ rfl,rfl,rfl⟩,fun b hb=> ?_,q⟩
  have e:b=s1.heap.objs.size:=by simpa using hb
  subst e
  exact I1.fpOk (Nat.le_refl _) (I1.hok.fresh (Nat.le_refl _))
end
noncomputable def iA (m:TwE):TwI:=fun ρ S=>rb (m ρ S) fun x S1=>match x with
 | .ref n=>(yB S1 (.ref n)).map fun _=> .ok (fun S=>yB S (.ref n)) S1
 |y=>y.tupOf.map fun l=> .ok (fun _=>some l) S1
section
variable {K:PySem.W.Frag} {E:XK}
theorem zgA {t:TE} {m:TwE} (h:RE K E t m):RI K E (zha K t) (iA m):=by
 intro F j σ H ρ S r R En0 e k
 rcases zT e with ⟨x,S1,e1,e⟩|⟨c,S1,e1,rfl⟩
 ·have tupC:∀y:Xv,x=y→y.tupOf.map (fun l=>Rs.ok (fun _=>some l) S1)=some r→t σ H (fun x H1=>∃a,x= .ref a∧(((∃xs,SqL K H1 a xs)∧R (Itl K a) H1)∨((∃xs,SqT K H1 a xs)∧R (Itt K a) H1))):=by
   rintro y rfl e
   cases el:x.tupOf with
   |none=>rw [el] at e;cases e
   |some l=>
    rw [el] at e
    cases e
    refine h En0 e1 fun j1 H1 X1 E1 u hu=> ?_
    obtain ⟨a,vs,rfl,h1,_⟩:=hu.tupO el
    refine ⟨a,rfl,.inr ⟨⟨vs,h1⟩,k _ _ X1 E1 _ ?_⟩⟩
    intro F2 j2 H2 σ2 ρ2 S2 xs i X2 E2 e2
    cases e2
    obtain ⟨a',ws,ea,g1,g2⟩:=(hu.mono X2).tupO el
    cases ea
    refine ⟨fun y ey=> ?_,fun hle=>⟨ws,g1,by rw [g2.len];omega⟩⟩
    obtain ⟨w,f1,f2⟩:=g2.get ey
    refine ⟨⟨ws,w,g1,f1⟩,?_⟩
    rintro v' H' ⟨rfl,hx⟩
    have:=hx ws g1
    rw [f1] at this
    cases this
    exact ⟨Vg.refl _,f2⟩
  split at e
  ·rename_i n
   cases el:yB S1 (.ref n) with
   |none=>rw [el] at e;cases e
   |some l=>
    rw [el] at e
    cases e
    refine h En0 e1 fun j1 H1 X1 E1 u hu=> ?_
    obtain ⟨a,vs,rfl,h1,_⟩:=E1.lstAt hu el
    refine ⟨a,rfl,.inl ⟨⟨vs,h1.sql⟩,k _ _ X1 E1 _ ?_⟩⟩
    intro F2 j2 H2 σ2 ρ2 S2 xs i X2 E2 e2
    obtain ⟨a',ws,ea,g1,g2⟩:=E2.lstAt (hu.mono X2) e2
    cases ea
    refine ⟨fun y ey=> ?_,fun hle=>⟨ws,g1.sql,by rw [g2.len];omega⟩⟩
    obtain ⟨w,f1,f2⟩:=g2.get ey
    refine ⟨⟨ws,w,g1.sql,f1⟩,?_⟩
    rintro v' H' ⟨rfl,hx⟩
    have:=hx ws g1.sql
    rw [f1] at this
    cases this
    exact ⟨Vg.refl _,f2⟩
  ·exact tupC _ rfl e
 ·exact h En0 e1 k
end
section
variable {m:TwE} {ρ:Rho} {S:Sto}
theorem zin {Q':(Sto→Option (List Xv))→Sto→Prop} (h:W (m ρ S) fun x S1=>∃n l,x= .ref n∧yB S1 (.ref n)=some l∧Q' (fun S=>yB S (.ref n)) S1):W (iA m ρ S) Q':=W.bind (h.imp fun x S1 h=>by
 obtain ⟨n,l,rfl,e,k⟩:=h
 dsimp only
 rw [e]
 exact .of rfl k)
theorem zio {Q':(Sto→Option (List Xv))→Sto→Prop} (h:W (m ρ S) fun x S1=>∃l,x= .tup l∧Q' (fun _=>some l) S1):W (iA m ρ S) Q':=W.bind (h.imp fun x S1 h=>by
 obtain ⟨l,rfl,k⟩:=h
 exact .of rfl k)
end
end L2
namespace Mth
open PySem.Builtin.Int (intBits)
end Mth
namespace Prf
open PySem PySem.Spec PyProof.Rows L2
open PySem.Builtin.Int (intBits)
set_option maxHeartbeats 4000000
local macro_rules | `(tactic| walk_at "sc") => `(tactic| exact ⟨rfl, rfl, rfl, by decide +kernel, rfl, by decide +kernel, by decide +kernel⟩)
structure Fi (K:PySem.W.Frag) (mg:Str→Option Value) (nm:Str) (st:Stmt) (ps:List Str) where
 a:Addr
 fd:FuncData
 F:Fun K nm nm st a fd
 m:mg nm=some (.ref a)
 b:UB K fd ps []
structure Mi (K:PySem.W.Frag) (g:Addr) (nm qn:Str) (st:Stmt) (ps:List Str) where
 a:Addr
 fd:FuncData
 F:Fun K nm qn st a fd
 b:UB K fd ps []
 mt:zjJ K g nm a
noncomputable def LoN (K:PySem.W.Frag) (x qual:Str) (st:Stmt) (f:Addr):Prop:=∃fd,Fun K x qual st f fd
noncomputable def FL (K:PySem.W.Frag) (nm:Str) (st:Stmt):Prop:=∃f,PySem.W.nsIn K mainGlobals nm=some (some (.ref f))∧LoN K nm nm st f
theorem zjt {K:PySem.W.Frag} {x:Str} {st:Stmt} {f:Addr} {oc:Value} {od an:Option Addr} {osl:Array (Option Value)} {kV doc pm cdv ct:Value} (a:PySem.W.nsIn K mainGlobals x=some (some (.ref f)))
  (l:K.lookup f=some ⟨oc,od,.func (PySem.W.fnOf x x (Ws st) (YN st) (zB st) .none kV doc pm an cdv ct),osl⟩) (c:PySem.W.codeIn K cdv x=true) (k:PySem.W.keepIn K (.ref f)=true):FL K x st:=⟨f,a,_,zhL l c k⟩
noncomputable def BA (x qual:Str) (st:Stmt) (ps:List Str):Prop:=∀(kV doc pm:Value) (an:Option Addr) (cdv ct:Value) (us:List Value),us.length=ps.length→bindArgs (PySem.W.fnOf x qual (Ws st) (YN st) (zB st) .none kV doc pm an cdv ct) ⟨us,[]⟩=pure (ps.zip us)
noncomputable def FL.to {K:PySem.W.Frag} {h:Heap} {mg:Str→Option Value} {x:Str} {st:Stmt} {ps:List Str} (H:FL K x st) (X:K.In h) (G:h.Ns mainGlobals mg) (B:BA x x st ps):Fi K mg x st ps:=
 ⟨H.choose,H.choose_spec.2.choose,H.choose_spec.2.choose_spec,PySem.W.mg_of X G H.choose_spec.1,H.choose_spec.2.choose_spec.binds B⟩
theorem at0 {P:List Value→Prop} (h:P []):∀us:List Value,us.length=0→P us
 |[],_=>h
theorem at_ {P:List Value→Prop} {n:Nat} (h:∀(a:Value) (us:List Value),us.length=n→P (a::us)):∀us:List Value,us.length=n+1→P us
 |a::us,e=>h a us (Nat.succ.inj e)
theorem ziq {K:PySem.W.Frag} {mg:Str→Option Value} {st:Stmt} {x:Str} {fa:Addr} (f:Fi K mg "law" st [x]) (hK:∀s:Shared,K.In s.heap→True) (h:mg "law"=some (.ref fa)):fa=f.a:=by
 have e:=h.symm.trans f.m
 injection e with e
 injection e
section
variable {P:Program} {w:World} {K:PySem.W.Frag} {mg:Str→Option Value} {base:Heap} {fu:Nat}
noncomputable def top (i:Nat):Stmt:=PySem.Challenge.pw_lots_k16_what_is_a_program.main.body.getD i (.Pass ⟨0,0,0,0⟩)
noncomputable abbrev WW:Stmt:=top 1
noncomputable abbrev Zi:Stmt:=top 6
noncomputable abbrev VY:Stmt:=top 7
noncomputable abbrev Wd:Stmt:=top 18
noncomputable abbrev Ya:Stmt:=top 19
noncomputable abbrev vo:Stmt:=top 20
noncomputable abbrev ZD:Stmt:=top 21
noncomputable abbrev Zj:Stmt:=top 22
noncomputable abbrev YZ:Stmt:=top 23
noncomputable abbrev vG:Stmt:=top 24
noncomputable abbrev Yb:Stmt:=top 25
noncomputable abbrev vp:Stmt:=top 26
noncomputable abbrev Yk:Stmt:=top 27
noncomputable abbrev ZE:Stmt:=top 28
noncomputable abbrev Xb:Stmt:=top 29
noncomputable abbrev Zk:Stmt:=top 30
noncomputable abbrev We:Stmt:=top 32
noncomputable abbrev Wf:Stmt:=top 33
noncomputable abbrev Xc:Stmt:=top 34
noncomputable abbrev ZF:Stmt:=top 35
noncomputable abbrev Wg:Stmt:=top 36
noncomputable abbrev vn:Stmt:=top 37
noncomputable abbrev wT:Stmt:=top 38
noncomputable abbrev Xd:Stmt:=top 39
noncomputable abbrev Wh:Stmt:=top 40
noncomputable abbrev Wi:Stmt:=top 41
noncomputable abbrev Xe:Stmt:=top 42
noncomputable abbrev WX:Stmt:=top 43
noncomputable abbrev Xf:Stmt:=top 44
noncomputable abbrev Yl:Stmt:=top 45
noncomputable abbrev ZG:Stmt:=top 46
noncomputable abbrev vH:Stmt:=top 47
noncomputable abbrev wK:Stmt:=top 48
noncomputable abbrev Ym:Stmt:=top 49
noncomputable abbrev xu:Stmt:=top 50
noncomputable abbrev wk:Stmt:=top 51
noncomputable abbrev Yn:Stmt:=top 52
noncomputable abbrev Xg:Stmt:=top 53
noncomputable abbrev zdx:Stmt:=top 54
theorem zb0:yb ["thing"] ["thing"] (zB WW):=by walk_at "sc"
theorem TV:yb ["text","signs"] ["text","signs"] (zB Zi):=by walk_at "sc"
theorem zcJ:yb ["text"] ["text"] (zB VY):=by walk_at "sc"
theorem za8:yb ["deed"] ["deed"] (zB Wd):=by walk_at "sc"
theorem za9:yb ["block"] ["block"] (zB Ya):=by walk_at "sc"
theorem Wj:yb ["deed","inner"] ["deed"] (zB vo):=by walk_at "sc"
theorem wF:yb ["block","deeds","deed","inner"] ["block"] (zB ZD):=by walk_at "sc"
theorem vq:yb ["program","boxes","block","sizes"] ["program"] (zB Zj):=by walk_at "sc"
theorem TW:yb ["number","least","most"] ["number","least","most"] (zB YZ):=by walk_at "sc"
theorem wm:yb ["boxes","names","states","name","size"] ["boxes"] (zB vG):=by walk_at "sc"
theorem Vv:yb ["sizes","deed","kind"] ["sizes","deed"] (zB Yb):=by walk_at "sc"
theorem UZ:yb ["weights","size"] ["weights","size"] (zB vp):=by walk_at "sc"
theorem Ta:yb ["deed"] ["deed"] (zB Yk):=by walk_at "sc"
theorem Up:yb ["sizes","operand"] ["sizes","operand"] (zB ZE):=by walk_at "sc"
theorem zb1:yb ["block"] ["block"] (zB Xb):=by walk_at "sc"
theorem TX:yb ["deed"] ["deed"] (zB Zk):=by walk_at "sc"
theorem Xh:yb ["_law_script","_law_k","_law_prime","_law_many","_law_cell"] ["_law_script","_law_k","_law_prime","_law_many"] (zB We):=by walk_at "sc"
theorem xk:yb ["_law_script","_law_k","_law_at","_law_letters","_law_size","_law_name_here","_law_place","_law_turn"] ["_law_script","_law_k","_law_at"] (zB Wf):=by walk_at "sc"
theorem yM:yb ["_law_script","_law_count","_law_most","_law_at","_law_boxes_here","_law_many","_law_k","_law_size","_law_name_here"] ["_law_script","_law_count","_law_most"] (zB Xc):=by walk_at "sc"
theorem wG:yb ["_law_script","_law_k","_law_boxes_here","_law_cell","_law_way"] ["_law_script","_law_k","_law_boxes_here"] (zB ZF):=by walk_at "sc"
theorem Vw:yb ["_law_script","_law_k","_law_boxes_here","_law_sign"] ["_law_script","_law_k","_law_boxes_here"] (zB Wg):=by walk_at "sc"
theorem Yc:yb ["_law_script","_law_k","_law_boxes_here","_law_sign"] ["_law_script","_law_k","_law_boxes_here"] (zB vn):=by walk_at "sc"
theorem vS:yb ["_law_script","_law_k","_law_size","_law_weights_here","_law_at"] ["_law_script","_law_k","_law_size"] (zB wT):=by walk_at "sc"
theorem vt:yb ["_law_script","_law_k","_law_boxes_here","_law_way","_law_name_here","_law_size"] ["_law_script","_law_k","_law_boxes_here"] (zB Xd):=by walk_at "sc"
theorem xE:yb ["_law_script","_law_k","_law_boxes_here","_law_nested","_law_stop","_law_way","_law_block_here","_law_behind","_law_number","_law_other"] ["_law_script","_law_k","_law_boxes_here","_law_nested","_law_stop"] (zB Wh):=by walk_at "sc"
theorem xF:yb ["_law_script","_law_k","_law_boxes_here","_law_nested","_law_stop","_law_many","_law_blocks","_law_behind","_law_number","_law_block_here"] ["_law_script","_law_k","_law_boxes_here","_law_nested","_law_stop"] (zB Wi):=by walk_at "sc"
theorem xV:yb ["_law_script","_law_k","_law_boxes_here","_law_nested","_law_stop","_law_block_here","_law_going","_law_deed_here"] ["_law_script","_law_k","_law_boxes_here","_law_nested","_law_stop"] (zB Xe):=by walk_at "sc"
theorem vI:yb ["_law_script","_law_boxes_here","_law_nested","_law_stop","_law_top_here","_law_k","_law_deed_here"] ["_law_script","_law_boxes_here","_law_nested","_law_stop"] (zB WX):=by walk_at "sc"
theorem TY:yb ["_law_deed_here"] ["_law_deed_here"] (zB Xf):=by walk_at "sc"
theorem yI:yb ["_law_block_here","_law_length_here","_law_some","_law_deeds","_law_turns","_law_deed_here","_law_within","_law_inner_here"] ["_law_block_here"] (zB Yl):=by walk_at "sc"
theorem yN:yb ["_law_script","_law_deed_here","_law_many","_law_k","_law_way"] ["_law_script","_law_deed_here","_law_many"] (zB ZG):=by walk_at "sc"
theorem Vx:yb ["_law_boxes_here","_law_names"] ["_law_boxes_here"] (zB vH):=by walk_at "sc"
theorem xt:yb ["_law_script","_law_boxes_here","_law_most","_law_name_here","_law_size","_law_some","_law_weights_here"] ["_law_script","_law_boxes_here"] (zB wK):=by walk_at "sc"
theorem yJ:yb ["_law_script","_law_boxes_here","_law_free_here","_law_name_here","_law_size","_law_fault","_law_one","_law_other","_law_sign","_law_test_here","_law_some"] ["_law_script","_law_boxes_here"] (zB Ym):=by walk_at "sc"
theorem xO:yb ["_law_script","_law_boxes_here","_law_free_here","_law_name_here","_law_size","_law_weights_here","_law_some"] ["_law_script","_law_boxes_here"] (zB xu):=by walk_at "sc"
theorem yY:yb ["_law_script","_law_boxes_here","_law_free_here","_law_at","_law_way","_law_size","_law_sign","_law_name_here"] ["_law_script","_law_boxes_here"] (zB wk):=by walk_at "sc"
theorem Wk:yb ["_law_block_here","_law_length_here"] ["_law_block_here","_law_length_here"] (zB Yn):=by walk_at "sc"
theorem xW:yb ["_law_script","_law_boxes_here","_law_block_here","_law_way","_law_at","_law_deep","_law_inner_here","_law_many"] ["_law_script","_law_boxes_here","_law_block_here"] (zB Xg):=by walk_at "sc"
theorem Yo:yb ["_law_script","_law_boxes_here","_law_names","_law_block_here","_law_good","_law_found"] ["_law_script"] (zB zdx):=by walk_at "sc"
set_option genInjectivity false in
set_option genSizeOf false in
structure Tx (K:PySem.W.Frag) (mg:Str→Option Value) where
 f_is_whole:Fi K mg "is_whole" WW ["thing"]
 f_is_made_of:Fi K mg "is_made_of" Zi ["text","signs"]
 f_is_name:Fi K mg "is_name" VY ["text"]
 f_blocks_of:Fi K mg "blocks_of" Wd ["deed"]
 f_length_of:Fi K mg "length_of" Ya ["block"]
 f_deed_length:Fi K mg "deed_length" vo ["deed"]
 f_deeds_within:Fi K mg "deeds_within" ZD ["block"]
 f_is_program:Fi K mg "is_program" Zj ["program"]
 f_is_from_to:Fi K mg "is_from_to" YZ ["number","least","most"]
 f_boxes_fit:Fi K mg "boxes_fit" vG ["boxes"]
 f_deed_fits:Fi K mg "deed_fits" Yb ["sizes","deed"]
 f_weights_fit:Fi K mg "weights_fit" vp ["weights","size"]
 f_operands_of:Fi K mg "operands_of" Yk ["deed"]
 f_operand_fits:Fi K mg "operand_fits" ZE ["sizes","operand"]
 f_depth_of:Fi K mg "depth_of" Xb ["block"]
 f_deed_depth:Fi K mg "deed_depth" Zk ["deed"]
 f__law_draw:Fi K mg "_law_draw" We ["_law_script","_law_k","_law_prime","_law_many"]
 f__law_name:Fi K mg "_law_name" Wf ["_law_script","_law_k","_law_at"]
 f__law_boxes:Fi K mg "_law_boxes" Xc ["_law_script","_law_count","_law_most"]
 f__law_operand:Fi K mg "_law_operand" ZF ["_law_script","_law_k","_law_boxes_here"]
 f__law_test:Fi K mg "_law_test" Wg ["_law_script","_law_k","_law_boxes_here"]
 f__law_reckoning:Fi K mg "_law_reckoning" vn ["_law_script","_law_k","_law_boxes_here"]
 f__law_weights:Fi K mg "_law_weights" wT ["_law_script","_law_k","_law_size"]
 f__law_plain:Fi K mg "_law_plain" Xd ["_law_script","_law_k","_law_boxes_here"]
 f__law_deed:Fi K mg "_law_deed" Wh ["_law_script","_law_k","_law_boxes_here","_law_nested","_law_stop"]
 f__law_hand:Fi K mg "_law_hand" Wi ["_law_script","_law_k","_law_boxes_here","_law_nested","_law_stop"]
 f__law_block:Fi K mg "_law_block" Xe ["_law_script","_law_k","_law_boxes_here","_law_nested","_law_stop"]
 f__law_top:Fi K mg "_law_top" WX ["_law_script","_law_boxes_here","_law_nested","_law_stop"]
 f__law_inner:Fi K mg "_law_inner" Xf ["_law_deed_here"]
 f__law_length:Fi K mg "_law_length" Yl ["_law_block_here"]
 f__law_wrapped:Fi K mg "_law_wrapped" ZG ["_law_script","_law_deed_here","_law_many"]
 f__law_free:Fi K mg "_law_free" vH ["_law_boxes_here"]
 f__law_kept:Fi K mg "_law_kept" wK ["_law_script","_law_boxes_here"]
 f__law_faulty:Fi K mg "_law_faulty" Ym ["_law_script","_law_boxes_here"]
 f__law_broken:Fi K mg "_law_broken" xu ["_law_script","_law_boxes_here"]
 f__law_bad_boxes:Fi K mg "_law_bad_boxes" wk ["_law_script","_law_boxes_here"]
 f__law_filled:Fi K mg "_law_filled" Yn ["_law_block_here","_law_length_here"]
 f__law_built:Fi K mg "_law_built" Xg ["_law_script","_law_boxes_here","_law_block_here"]
 f_law:Fi K mg "law" zdx ["_law_script"]
 n_all:mg "all"=none
 n_bool:mg "bool"=none
 n_dict:mg "dict"=none
 n_int:mg "int"=none
 n_isinstance:mg "isinstance"=none
 n_len:mg "len"=none
 n_list:mg "list"=none
 n_max:mg "max"=none
 n_min:mg "min"=none
 n_range:mg "range"=none
 n_set:mg "set"=none
 n_str:mg "str"=none
 n_sum:mg "sum"=none
 n_tuple:mg "tuple"=none
 m_LETTERS:∃t,mg "LETTERS"=some (.str "abcdefghijklmnopqrstuvwxyz" t)
 m_MOST_LETTERS:∃t,mg "MOST_LETTERS"=some (.int 8 t)
 a_BLOCK_KINDS:Addr
 m_BLOCK_KINDS:mg "BLOCK_KINDS"=some (.ref a_BLOCK_KINDS)
 c_BLOCK_KINDS:∀H,SqT K H a_BLOCK_KINDS [.str "if",.str "while",.str "times",.str "hand"]
 m_MOST_BOXES:∃t,mg "MOST_BOXES"=some (.int 9 t)
 m_MOST_SIZE:∃t,mg "MOST_SIZE"=some (.int 9 t)
 m_MOST_STATES:∃t,mg "MOST_STATES"=some (.int 1000 t)
 m_MOST_NUMBER:∃t,mg "MOST_NUMBER"=some (.int 999999999 t)
 m_MOST_TURNS:∃t,mg "MOST_TURNS"=some (.int 60 t)
 m_FEWEST_BLOCKS:∃t,mg "FEWEST_BLOCKS"=some (.int 2 t)
 m_MOST_BLOCKS:∃t,mg "MOST_BLOCKS"=some (.int 8 t)
 m_MOST_WITHIN:∃t,mg "MOST_WITHIN"=some (.int 12 t)
 m_MOST_LENGTH:∃t,mg "MOST_LENGTH"=some (.int 100 t)
local macro_rules | `(tactic| walk_at "q1") => `(tactic| first | exact .inl rfl | exact .inr rfl | assumption)
noncomputable def Wl (fu:Nat):TwS:=(yd (TK (eUn (za0 "int") (zk 0)) (eB (WR (bE (eUn (za0 "bool") (zk 0)))))))
noncomputable def Wm (fu:Nat):TwF:=yz 1 0 (Wl fu)
theorem zb2 (T:Tx K mg):yZ P w K mg base (CXE P w) 1 T.f_is_whole.a T.f_is_whole.fd ["thing"] (sTw K 1 (Wm fu)):=
 T.f_is_whole.F.okE zb0 (fun vs H Q E h=>h.1) (fun cdv A outer s H vs Q E hr h=>⟨_,(@zr _ _ _ (@zI _ _ _ _ (VL (zQ (Wu (K:=K)) rfl T.n_isinstance boot_isinstance (za (pv 0) (za (Ut (v:= .ty "int") rfl T.n_int boot_int rfl) zg))) (VJ (zhq (zQ (Wu (K:=K)) rfl T.n_isinstance boot_isinstance (za (pv 0) (za (Ut (v:= .ty "bool") rfl T.n_bool boot_bool rfl) zg)))))))),yX (n:=1) (k:=0) (b:=Wl fu) rfl (zJ (VR (za1 zgf (ze 0)) (zhQ (za1 zbR (ze 0))))) h⟩)
noncomputable def Yp (fu:Nat):TwS:=(yd (eFn UR [(xw [none,some 1] (iS (zk 0)) (gN 0) xy (eOp zfe (zk 0) (zk 1)))]))
noncomputable def WL (fu:Nat):TwF:=yz 2 0 (Yp fu)
theorem TZ (T:Tx K mg):yZ P w K mg base (CXE P w) 1 T.f_is_made_of.a T.f_is_made_of.fd ["text","signs"] (sTw K 2 (WL fu)):=
 T.f_is_made_of.F.okE TV (fun vs H Q E h=>h.1) (fun cdv A outer s H vs Q E hr h=>⟨_,(@zr _ _ _ (@zI _ _ _ _ (zQ (Yz (K:=K) rfl) rfl T.n_all PyProof.Rows.Boot.«all» (za (xr (N':=["sign","signs"]) rfl (blk (osc:=zB Zi) rfl (by decide+kernel)) (yV (Zf (i:=1) rfl rfl yU)) (zcF (pv 0)) (yp rfl) (fun C s₀ H₀ fp=>zO (i:=0) (show (["sign","signs"]:List Str).Nodup from by decide+kernel) rfl (Or.inl rfl)) (fun C s₀ H₀ fp=>xf) (fun C s₀ H₀ fp=>(zc4 zdP (pv 0) (pv 1) (by rfl)))) zg)))),yX (n:=2) (k:=0) (b:=Yp fu) rfl (zJ (yn US (zb (yW (cap:=[none,some 1]) (zcI (ze 0)) zm xg (zu zil (ze 0) (ze 1))) zi))) h⟩)
noncomputable def WY (fu:Nat):TwS:=(yd (TK (VX (fun i j=>decide (i≤j)) (fun i j=>decide (i≤j)) (eC (.int 1)) (eFn zaC [(zk 0)]) (eC (.int 8))) (zD (WL fu) [(zk 0),(eC (.str "abcdefghijklmnopqrstuvwxyz"))])))
noncomputable def Xi (fu:Nat):TwF:=yz 1 0 (WY fu)
theorem zcK (T:Tx K mg):yZ P w K mg base (CXE P w) 2 T.f_is_name.a T.f_is_name.fd ["text"] (sTw K 1 (Xi fu)):=
 T.f_is_name.F.okE zcJ (fun vs H Q E h=>h.1) (fun cdv A outer s H vs Q E hr h=>⟨_,(@zr _ _ _ (@zI _ _ _ _ (VL (zbt zan zan zj (zQ Ve rfl T.n_len boot_len (@za _ _ _ _ _ (pv 0) zg zf)) (match T.m_MOST_LETTERS with|⟨t,h⟩=>wc (v:= .int 8) rfl h ⟨t,rfl⟩)) (VJ (zv (TZ (fu:=fu) T) (hr.mono (by decide)) rfl T.f_is_made_of.m T.f_is_made_of.F.kp T.f_is_made_of.b .nil zK (@za _ _ _ _ _ (pv 0) (@za _ _ _ _ _ (match T.m_LETTERS with|⟨t,h⟩=>wc (v:= .str "abcdefghijklmnopqrstuvwxyz") rfl h ⟨t,rfl⟩) zg zf) zf)))))),yX (n:=1) (k:=0) (b:=WY fu) rfl (zJ (VR (UU (zh _) (yn zdj (zb (ze 0) zi)) (zh _)) (zw (zb (ze 0) (zb (zy _) zi))))) h⟩)
noncomputable def Xj (fu:Nat):TwS:=(zF (sIf (bE (eOp (xN false) (eOp yD (zk 0) (eC (.int 0))) (eC (.str "if")))) (yd (zH [(eOp yD (zk 0) (eC (.int 2))),(eOp yD (zk 0) (eC (.int 3)))])) zY) (zF (sIf (bOr (bE (eOp (xN false) (eOp yD (zk 0) (eC (.int 0))) (eC (.str "while")))) (bE (eOp (xN false) (eOp yD (zk 0) (eC (.int 0))) (eC (.str "times"))))) (yd (zH [(eOp yD (zk 0) (eC (.int 2)))])) zY) (zF (sIf (bE (eOp (xN false) (eOp yD (zk 0) (eC (.int 0))) (eC (.str "hand")))) (yd (eOp yD (zk 0) (eC (.int 1)))) zY) (yd (zH [])))))
noncomputable def wn (fu:Nat):TwF:=yz 1 0 (Xj fu)
theorem Xk (T:Tx K mg):yZ P w K mg base (CXE P w) 1 T.f_blocks_of.a T.f_blocks_of.fd ["deed"] (sTw K 1 (wn fu)):=
 T.f_blocks_of.F.okE za8 (fun vs H Q E h=>h.1) (fun cdv A outer s H vs Q E hr h=>⟨_,(@zl _ _ _ _ _ (yh (xn Za (@yc _ _ _ _ _ _ _ (zV (K:=K)) (pv 0) zj (fun _ _=>rfl)) zA (by rfl)) (@zr _ _ _ (@zI _ _ _ _ (@zp _ _ _ _ _ (@za _ _ _ _ _ (@yc _ _ _ _ _ _ _ (zV (K:=K)) (pv 0) zj (fun _ _=>rfl)) (@za _ _ _ _ _ (@yc _ _ _ _ _ _ _ (zV (K:=K)) (pv 0) zj (fun _ _=>rfl)) zg yk) yk)))) zM) (@zl _ _ _ _ _ (yh (PW.pt (zbr (xn Za (@yc _ _ _ _ _ _ _ (zV (K:=K)) (pv 0) zj (fun _ _=>rfl)) zA (by rfl)) (Uy (xn Za (@yc _ _ _ _ _ _ _ (zV (K:=K)) (pv 0) zj (fun _ _=>rfl)) zA (by rfl))))) (@zr _ _ _ (@zI _ _ _ _ (@zp _ _ _ _ _ (@za _ _ _ _ _ (@yc _ _ _ _ _ _ _ (zV (K:=K)) (pv 0) zj (fun _ _=>rfl)) zg yk)))) zM) (@zl _ _ _ _ _ (yh (xn Za (@yc _ _ _ _ _ _ _ (zV (K:=K)) (pv 0) zj (fun _ _=>rfl)) zA (by rfl)) (@zr _ _ _ (@zI _ _ _ _ (@yc _ _ _ _ _ _ _ (zV (K:=K)) (pv 0) zj (fun _ _=>rfl)))) zM) (@zr _ _ _ (@zI _ _ _ _ (@zp _ _ _ _ _ zg)))))),yX (n:=1) (k:=0) (b:=Xj fu) rfl (zo (yi (xi (zu ww (zu yj (ze 0) (zh _)) (zy _))) (zJ (zq (zb (zu yj (ze 0) (zh _)) (zb (zu yj (ze 0) (zh _)) zi)))) zN) (zo (yi (zbK (xi (zu ww (zu yj (ze 0) (zh _)) (zy _))) (xi (zu ww (zu yj (ze 0) (zh _)) (zy _)))) (zJ (zq (zb (zu yj (ze 0) (zh _)) zi))) zN) (zo (yi (xi (zu ww (zu yj (ze 0) (zh _)) (zy _))) (zJ (zu yj (ze 0) (zh _))) zN) (zJ (zq zi))))) h⟩)
noncomputable def Zl (fu:Nat) (r_length_of:TwF) (r_deed_length:TwF):TwS:=(yd (eFn zcA [(xw [none] (iT (zk 0)) (gN 0) xy (zD r_deed_length [(zk 0)]))]))
noncomputable def wU (fu:Nat) (r_length_of:TwF) (r_deed_length:TwF):TwS:=(zF (zR (eFn zcA [(xw [none] (iT (zD (wn fu) [(zk 0)])) (gN 0) xy (zD r_length_of [(zk 0)]))]) (gN 1)) (zF (sIf (bE (eOp (xN false) (eOp yD (zk 0) (eC (.int 0))) (eC (.str "times")))) (yd (eOp xj (eC (.int 1)) (eOp YA (eFn TQ [(eOp yD (zk 0) (eC (.int 1))),(eC (.int 1))]) (eOp xj (eC (.int 1)) (zk 1))))) zY) (yd (eOp xj (eC (.int 1)) (zk 1)))))
mutual
noncomputable def yl (fu:Nat):Nat→TwF
 |0=>fun _ _=>none
 |n+1=>yz 1 0 (Zl fu (yl fu n) (yr fu n))
noncomputable def yr (fu:Nat):Nat→TwF
 |0=>fun _ _=>none
 |n+1=>yz 1 1 (wU fu (yl fu n) (yr fu n))
end
theorem Yd (fu n:Nat):yl fu (n+1)=yz 1 0 (Zl fu (yl fu n) (yr fu n)):=by rw [yl]
theorem Vy (fu:Nat):yl fu 0=fun _ _=>none:=by rw [yl]
theorem Ze (fu n:Nat):yr fu (n+1)=yz 1 1 (wU fu (yl fu n) (yr fu n)):=by rw [yr]
theorem WC (fu:Nat):yr fu 0=fun _ _=>none:=by rw [yr]
theorem zaa (T:Tx K mg):∀n:Nat,yZ P w K mg base (CXE P w) (1+n) T.f_length_of.a T.f_length_of.fd ["block"] (sTw K 1 (yl fu n))∧yZ P w K mg base (CXE P w) (1+n) T.f_deed_length.a T.f_deed_length.fd ["deed"] (sTw K 1 (yr fu n)):=by
 intro n
 induction n with
 |zero=>
  refine ⟨?_,?_⟩
  ·rw [Vy]
   exact ZZ
  ·rw [WC]
   exact ZZ
 |succ n ih=>
  refine ⟨?_,?_⟩
  ·rw [Yd]
   exact T.f_length_of.F.okE za9 (fun vs H Q E h=>h.1) (fun cdv A outer s H vs Q E hr h=>⟨_,(@zr _ _ _ (@zI _ _ _ _ (zQ (VP (K:=K) rfl) rfl T.n_sum PyProof.Rows.Boot.«sum» (za (xr (N':=["deed"]) rfl (blk (osc:=zB Ya) rfl (by decide+kernel)) (yV yU) (wN (K:=K) (pv 0)) (yp rfl) (fun C s₀ H₀ fp=>zO (i:=0) (show (["deed"]:List Str).Nodup from by decide+kernel) rfl (Or.inl rfl)) (fun C s₀ H₀ fp=>xf) (fun C s₀ H₀ fp=>(zv ih.2 (hr.mono (by (try simp only [Nat.add_eq]);omega)) rfl T.f_deed_length.m T.f_deed_length.F.kp T.f_deed_length.b .nil WI (@za _ _ _ _ _ (pv 0) zg zf)))) zg)))),yX (n:=1) (k:=0) (b:=Zl fu (yl fu n) (yr fu n)) rfl (zJ (yn zcB (zb (yW (cap:=[none]) (ZB (ze 0)) zm xg (zw (zb (ze 0) zi))) zi))) h⟩)
  ·rw [Ze]
   exact T.f_deed_length.F.okE Wj (fun vs H Q E h=>h.1) (fun cdv A outer s H vs Q E hr h=>⟨_,(@zl _ _ _ _ _ (@zG _ _ 1 _ _ _ _ Wj.nd rfl (Or.inl rfl) (zQ (VP (K:=K) rfl) rfl T.n_sum PyProof.Rows.Boot.«sum» (za (xr (N':=["block"]) rfl (blk (osc:=zB vo) rfl (by decide+kernel)) (yV yU) (wN (K:=K) (zv (Xk (fu:=fu) T) (hr.mono (by (try simp only [Nat.add_eq]);omega)) rfl T.f_blocks_of.m T.f_blocks_of.F.kp T.f_blocks_of.b .nil zK (@za _ _ _ _ _ (pv 0) zg zf))) (yp rfl) (fun C s₀ H₀ fp=>zO (i:=0) (show (["block"]:List Str).Nodup from by decide+kernel) rfl (Or.inl rfl)) (fun C s₀ H₀ fp=>xf) (fun C s₀ H₀ fp=>(zv ih.1 (hr.mono (by (try simp only [Nat.add_eq]);omega)) rfl T.f_length_of.m T.f_length_of.F.kp T.f_length_of.b .nil WI (@za _ _ _ _ _ (pv 0) zg zf)))) zg)) (by rfl) (by walk_at "q1")) (@zl _ _ _ _ _ (yh (xn Za (@yc _ _ _ _ _ _ _ (zV (K:=K)) (pv 0) zj (fun _ _=>rfl)) zA (by rfl)) (@zr _ _ _ (@zI _ _ _ _ (zL yw zj (zL YR (zQ (Yx rfl) rfl T.n_max boot_max (@za _ _ _ _ _ (@yc _ _ _ _ _ _ _ (zV (K:=K)) (pv 0) zj (fun _ _=>rfl)) (@za _ _ _ _ _ zj zg zc) yk)) (zL yw zj (pv 1)))))) zM) (@zr _ _ _ (@zI _ _ _ _ (zL yw zj (pv 1)))))),yX (n:=1) (k:=1) (b:=wU fu (yl fu n) (yr fu n)) rfl (zo (zC (yn zcB (zb (yW (cap:=[none]) (ZB (zw (zb (ze 0) zi))) zm xg (zw (zb (ze 0) zi))) zi)) zm) (zo (yi (xi (zu ww (zu yj (ze 0) (zh _)) (zy _))) (zJ (zu yx (zh _) (zu YX (yn UQ (zb (zu yj (ze 0) (zh _)) (zb (zh _) zi))) (zu yx (zh _) (ze 1))))) zN) (zJ (zu yx (zh _) (ze 1))))) h⟩)
theorem zba (T:Tx K mg) (n:Nat):yZ P w K mg base (CXE P w) (1+n) T.f_length_of.a T.f_length_of.fd ["block"] (sTw K 1 (yl fu n)):=(zaa T n).1
noncomputable def wH (fu:Nat) (r_deeds_within:TwF):TwS:=(zF (zR (wf []) (gN 1)) (zF (Vj (iT (zk 0)) (gN 2) (zF (XB (eMt wg (zk 1) [(zk 2)])) (Vj (iT (zD (wn fu) [(zk 2)])) (gN 3) (XB (eMt Vi (zk 1) [(zD r_deeds_within [(zk 3)])]))))) (yd (zk 1))))
noncomputable def zX (fu:Nat):Nat→TwF
 |0=>fun _ _=>none
 |n+1=>yz 1 3 (wH fu (zX fu n))
theorem vJ (fu n:Nat):zX fu (n+1)=yz 1 3 (wH fu (zX fu n)):=by rfl
theorem Wn (fu:Nat):zX fu 0=fun _ _=>none:=by rfl
theorem VZ (T:Tx K mg):∀n:Nat,yZ P w K mg base (CXE P w) (1+n) T.f_deeds_within.a T.f_deeds_within.fd ["block"] (sTw K 1 (zX fu n)):=by
 intro n
 induction n with
 |zero=>
  skip
  ·rw [Wn]
   exact ZZ
 |succ n ih=>
  ·rw [vJ]
   exact T.f_deeds_within.F.okE wF (fun vs H Q E h=>h.1) (fun cdv A outer s H vs Q E hr h=>⟨_,(@zl _ _ _ _ _ (@zG _ _ 1 _ _ _ _ wF.nd rfl (Or.inl rfl) (@xb _ _ _ _ zg) (by rfl) (by walk_at "q1")) (@zl _ _ _ _ _ (YM PassesOwn.leaving rfl (wN (K:=K) (pv 0)) (zO (i:=2) wF.nd rfl (Or.inl rfl)) (@zl _ _ _ _ _ (YK (UE PySem.F.plainAttrs_list PySem.F.slot_list_append PySem.F.type_list_append vj (pv 1) (@za _ _ _ _ _ (pv 2) zg zf))) (@zr _ _ _ (YM PassesOwn.leaving rfl (wN (K:=K) (zv (Xk (fu:=fu) T) (hr.mono (by (try simp only [Nat.add_eq]);omega)) rfl T.f_blocks_of.m T.f_blocks_of.F.kp T.f_blocks_of.b .nil zK (@za _ _ _ _ _ (pv 2) zg zf))) (zO (i:=3) wF.nd rfl (Or.inl rfl)) (@zr _ _ _ (YK (UE PySem.F.plainAttrs_list PySem.F.slot_list_extend PySem.F.type_list_extend (zcw (K:=K)) (pv 1) (@za _ _ _ _ _ (zv ih (hr.mono (by (try simp only [Nat.add_eq]);omega)) rfl T.f_deeds_within.m T.f_deeds_within.F.kp T.f_deeds_within.b .nil zK (@za _ _ _ _ _ (pv 3) zg zf)) zg zZ)))))))) (@zr _ _ _ (@zI _ _ _ _ (pv 1))))),yX (n:=1) (k:=3) (b:=wH fu (zX fu n)) rfl (zo (zC (xc zi) zm) (zo (YV (ZB (ze 0)) zm (zo (YU (Ug Zp (ze 1) (zb (ze 2) zi))) (YV (ZB (zw (zb (ze 2) zi))) zm (YU (Ug zd4 (ze 1) (zb (zw (zb (ze 3) zi)) zi)))))) (zJ (ze 1)))) h⟩)
theorem Uq (T:Tx K mg) (n:Nat):yZ P w K mg base (CXE P w) (1+n) T.f_deeds_within.a T.f_deeds_within.fd ["block"] (sTw K 1 (zX fu n)):=(VZ T n)
noncomputable def Yq (fu:Nat):TwS:=(yd (TK (zD (Wm fu) [(zk 0)]) (VX (fun i j=>decide (i≤j)) (fun i j=>decide (i≤j)) (zk 1) (zk 0) (zk 2))))
noncomputable def xH (fu:Nat):TwF:=yz 3 0 (Yq fu)
theorem vv (T:Tx K mg):yZ P w K mg base (CXE P w) 2 T.f_is_from_to.a T.f_is_from_to.fd ["number","least","most"] (sTw K 3 (xH fu)):=
 T.f_is_from_to.F.okE TW (fun vs H Q E h=>h.1) (fun cdv A outer s H vs Q E hr h=>⟨_,(@zr _ _ _ (@zI _ _ _ _ (VL (zv (zb2 (fu:=fu) T) (hr.mono (by decide)) rfl T.f_is_whole.m T.f_is_whole.F.kp T.f_is_whole.b .nil zK (@za _ _ _ _ _ (pv 0) zg zf)) (VJ (zbt zan zan (pv 1) (pv 0) (pv 2)))))),yX (n:=3) (k:=0) (b:=Yq fu) rfl (zJ (VR (zw (zb (ze 0) zi)) (UU (ze 1) (ze 0) (ze 2)))) h⟩)
noncomputable def Xl (fu:Nat):TwS:=(zF (zR (xw [none] (iT (zk 0)) (gN 0) xy (eOp yD (zk 0) (eC (.int 0)))) (gN 1)) (zF (sIf (bOr (bE (eOp dGt (eFn wL [(zk 1)]) (eC (.int 9)))) (bE (eOp zga (eUn Vu (zk 1)) (eFn wL [(zk 1)])))) (yd (eC (.bl false))) zY) (zF (sIf (WR (bE (eFn UR [(xw [none] (iL (zk 1)) (gN 0) xy (zD (Xi fu) [(zk 0)]))]))) (yd (eC (.bl false))) zY) (zF (zR (eC (.int 1)) (gN 2)) (zF (Vj (iT (zk 0)) (gT 2 (yH (gN 3) (yH (gN 4) vf))) (zF (sIf (WR (bE (zD (xH fu) [(zk 4),(eC (.int 1)),(eC (.int 9))]))) (yd (eC (.bl false))) zY) (zR (eOp YA (zk 2) (zk 4)) (gN 2)))) (yd (eOp dLe (zk 2) (eC (.int 1000)))))))))
noncomputable def Xm (fu:Nat):TwF:=yz 1 4 (Xl fu)
theorem zbb (T:Tx K mg):yZ P w K mg base (CXE P w) 3 T.f_boxes_fit.a T.f_boxes_fit.fd ["boxes"] (sTw K 1 (Xm fu)):=
 T.f_boxes_fit.F.okE wm (fun vs H Q E h=>h.1) (fun cdv A outer s H vs Q E hr h=>⟨_,(@zl _ _ _ _ _ (YO (i:=1) (N':=["box"]) rfl (blk (osc:=zB vG) rfl (by decide+kernel)) (yV yU) (wN (K:=K) (pv 0)) (yp rfl) (fun C s₀ H₀ fp=>zO (i:=0) (show (["box"]:List Str).Nodup from by decide+kernel) rfl (Or.inl rfl)) (fun C s₀ H₀ fp=>xf) (fun C s₀ H₀ fp=>(@yc _ _ _ _ _ _ _ (zV (K:=K)) (pv 0) zj (fun _ _=>rfl))) wm.nd rfl rfl) (@zl _ _ _ _ _ (yh (PW.pt (zbr (ya (XA (zQ (yv (K:=K)) rfl T.n_len boot_len (@za _ _ _ _ _ (pv 1) zg zf)) (match T.m_MOST_BOXES with|⟨t,h⟩=>wc (v:= .int 9) rfl h ⟨t,rfl⟩))) (Uy (ya (zer (zef (K:=K) rfl rfl T.n_len rfl T.n_set (pv 1)) (zQ (yv (K:=K)) rfl T.n_len boot_len (@za _ _ _ _ _ (pv 1) zg zf))))))) (@zr _ _ _ (@zI _ _ _ _ Zu)) zM) (@zl _ _ _ _ _ (yh (XG (YJ (zQ (Yz (K:=K) rfl) rfl T.n_all PyProof.Rows.Boot.«all» (za (xr (N':=["name"]) rfl (blk (osc:=zB vG) rfl (by decide+kernel)) (yV yU) (UL (K:=K) (pv 1)) (yp rfl) (fun C s₀ H₀ fp=>zO (i:=0) (show (["name"]:List Str).Nodup from by decide+kernel) rfl (Or.inl rfl)) (fun C s₀ H₀ fp=>xf) (fun C s₀ H₀ fp=>(zv (zcK (fu:=fu) T) (hr.mono (by decide)) rfl T.f_is_name.m T.f_is_name.F.kp T.f_is_name.b .nil WI (@za _ _ _ _ _ (pv 0) zg zf)))) zg)))) (@zr _ _ _ (@zI _ _ _ _ Zu)) zM) (@zl _ _ _ _ _ (@zG _ _ 2 _ _ _ _ wm.nd rfl (Or.inl rfl) zj (by rfl) (by walk_at "q1")) (@zl _ _ _ _ _ (YM PassesOwn.leaving rfl (wN (K:=K) (pv 0)) (we (K:=K) (n:=2) rfl (yo (zO (i:=3) wm.nd rfl (Or.inl rfl)) (yo (zO (i:=4) wm.nd rfl (Or.inl rfl)) wd))) (@zl _ _ _ _ _ (yh (XG (YJ (zv (vv (fu:=fu) T) (hr.mono (by decide)) rfl T.f_is_from_to.m T.f_is_from_to.F.kp T.f_is_from_to.b .nil zK (@za _ _ _ _ _ (pv 4) (@za _ _ _ _ _ zj (@za _ _ _ _ _ (match T.m_MOST_SIZE with|⟨t,h⟩=>wc (v:= .int 9) rfl h ⟨t,rfl⟩) zg zf) zc) zf)))) (@zr _ _ _ (@zI _ _ _ _ Zu)) zM) (@zr _ _ _ (@zG _ _ 2 _ _ _ _ wm.nd rfl (Or.inl rfl) (zL YR (pv 2) (pv 4)) (by rfl) (by walk_at "q1"))))) (@zr _ _ _ (@zI _ _ _ _ (YI (zcY (pv 2) (match T.m_MOST_STATES with|⟨t,h⟩=>wc (v:= .int 1000) rfl h ⟨t,rfl⟩)))))))))),yX (n:=1) (k:=4) (b:=Xl fu) rfl (zo (YW (yW (cap:=[none]) (ZB (ze 0)) zm xg (zu yj (ze 0) (zh _)))) (zo (yi (zbK (yS (XC (yn xz (zb (ze 1) zi)) (zh _))) (yS (zeU (zeh (ze 1)) (yn xz (zb (ze 1) zi))))) (zJ (Zz _)) zN) (zo (yi (XQ (yS (yn US (zb (yW (cap:=[none]) (zaY (ze 1)) zm xg (zw (zb (ze 0) zi))) zi)))) (zJ (Zz _)) zN) (zo (zC (zh _) zm) (zo (YV (ZB (ze 0)) (vm (yq zm (yq zm wj))) (zo (yi (XQ (yS (zw (zb (ze 4) (zb (zh _) (zb (zh _) zi)))))) (zJ (Zz _)) zN) (zC (zu YX (ze 2) (ze 4)) zm))) (zJ (zdg (ze 2) (zh _)))))))) h⟩)
noncomputable def vT (fu:Nat):TwS:=(zF (sIf (bE (eUn (za0 "str") (zk 1))) (yd (zd8 false (zk 1) (zk 0))) zY) (yd (zD (xH fu) [(zk 1),(eC (.int 0)),(eC (.int 999999999))])))
noncomputable def wI (fu:Nat):TwF:=yz 2 0 (vT fu)
theorem Ur (T:Tx K mg):yZ P w K mg base (CXE P w) 3 T.f_operand_fits.a T.f_operand_fits.fd ["sizes","operand"] (sTw K 2 (wI fu)):=
 T.f_operand_fits.F.okE Up (fun vs H Q E h=>h.1) (fun cdv A outer s H vs Q E hr h=>⟨_,(@zl _ _ _ _ _ (yh (YJ (zQ (Wu (K:=K)) rfl T.n_isinstance boot_isinstance (za (pv 1) (za (Ut (v:= .ty "str") rfl T.n_str boot_str rfl) zg)))) (@zr _ _ _ (@zI _ _ _ _ (YI (zhK (zeG hr) (pv 1) (pv 0))))) zM) (@zr _ _ _ (@zI _ _ _ _ (zv (vv (fu:=fu) T) (hr.mono (by decide)) rfl T.f_is_from_to.m T.f_is_from_to.F.kp T.f_is_from_to.b .nil zK (@za _ _ _ _ _ (pv 1) (@za _ _ _ _ _ zj (@za _ _ _ _ _ (match T.m_MOST_NUMBER with|⟨t,h⟩=>wc (v:= .int 999999999) rfl h ⟨t,rfl⟩) zg zf) zc) zf))))),yX (n:=2) (k:=0) (b:=vT fu) rfl (zo (yi (yS (za1 zgg (ze 1))) (zJ (zhY (ze 1) (ze 0))) zN) (zJ (zw (zb (ze 1) (zb (zh _) (zb (zh _) zi)))))) h⟩)
noncomputable def ZH (fu:Nat):TwS:=(zF (sIf (bE (eOp (xN false) (eOp yD (zk 0) (eC (.int 0))) (eC (.str "set")))) (yd (eUn zeg (eOp yD (zk 0) (eC (.int 2))))) zY) (zF (sIf (bE (eOp (dIn false) (eOp yD (zk 0) (eC (.int 0))) (zH [(eC (.str "look")),(eC (.str "if")),(eC (.str "while"))]))) (yd (eUn zeg (eOp yD (zk 0) (eC (.int 1))))) zY) (zF (sIf (bE (eOp (xN false) (eOp yD (zk 0) (eC (.int 0))) (eC (.str "gain")))) (yd (zH [(eOp yD (zk 0) (eC (.int 1)))])) zY) (yd (zH [])))))
noncomputable def wV (fu:Nat):TwF:=yz 1 0 (ZH fu)
theorem Tc (T:Tx K mg):yZ P w K mg base (CXE P w) 1 T.f_operands_of.a T.f_operands_of.fd ["deed"] (sTw K 1 (wV fu)):=
 T.f_operands_of.F.okE Ta (fun vs H Q E h=>h.1) (fun cdv A outer s H vs Q E hr h=>⟨_,(@zl _ _ _ _ _ (yh (xn Za (@yc _ _ _ _ _ _ _ (zV (K:=K)) (pv 0) zj (fun _ _=>rfl)) zA (by rfl)) (@zr _ _ _ (@zI _ _ _ _ (zfa (K:=K) (@yc _ _ _ _ _ _ _ (zV (K:=K)) (pv 0) zj (fun _ _=>rfl))))) zM) (@zl _ _ _ _ _ (yh (xn (zeN (K:=K)) (@yc _ _ _ _ _ _ _ (zV (K:=K)) (pv 0) zj (fun _ _=>rfl)) (@zp _ _ _ _ _ (@za _ _ _ _ _ zA (@za _ _ _ _ _ zA (@za _ _ _ _ _ zA zg zc) zc) zc)) (by rfl)) (@zr _ _ _ (@zI _ _ _ _ (zfa (K:=K) (@yc _ _ _ _ _ _ _ (zV (K:=K)) (pv 0) zj (fun _ _=>rfl))))) zM) (@zl _ _ _ _ _ (yh (xn Za (@yc _ _ _ _ _ _ _ (zV (K:=K)) (pv 0) zj (fun _ _=>rfl)) zA (by rfl)) (@zr _ _ _ (@zI _ _ _ _ (@zp _ _ _ _ _ (@za _ _ _ _ _ (@yc _ _ _ _ _ _ _ (zV (K:=K)) (pv 0) zj (fun _ _=>rfl)) zg yk)))) zM) (@zr _ _ _ (@zI _ _ _ _ (@zp _ _ _ _ _ zg)))))),yX (n:=1) (k:=0) (b:=ZH fu) rfl (zo (yi (xi (zu ww (zu yj (ze 0) (zh _)) (zy _))) (zJ (zfg (zu yj (ze 0) (zh _)))) zN) (zo (yi (xi (zu zdn (zu yj (ze 0) (zh _)) (zq (zb (zy _) (zb (zy _) (zb (zy _) zi)))))) (zJ (zfg (zu yj (ze 0) (zh _)))) zN) (zo (yi (xi (zu ww (zu yj (ze 0) (zh _)) (zy _))) (zJ (zq (zb (zu yj (ze 0) (zh _)) zi))) zN) (zJ (zq zi))))) h⟩)
noncomputable def ZI (fu:Nat):TwS:=(zF (sIf (bOr (bE (eOp zga (eFn wL [(zk 0)]) (zk 1))) (WR (bE (eFn UR [(xw [none] (iT (zk 0)) (gN 0) xy (zD (xH fu) [(zk 0),(eC (.int 0)),(eC (.int 999999999))]))])))) (yd (eC (.bl false))) zY) (yd (eOp dGt (eFn zbN [(zk 0)]) (eC (.int 0)))))
noncomputable def wW (fu:Nat):TwF:=yz 2 0 (ZI fu)
theorem Td (T:Tx K mg):yZ P w K mg base (CXE P w) 3 T.f_weights_fit.a T.f_weights_fit.fd ["weights","size"] (sTw K 2 (wW fu)):=
 T.f_weights_fit.F.okE UZ (fun vs H Q E h=>h.1) (fun cdv A outer s H vs Q E hr h=>⟨_,(@zl _ _ _ _ _ (yh (PW.pt (zbr (ya (zer (zQ (yv (K:=K)) rfl T.n_len boot_len (@za _ _ _ _ _ (pv 0) zg zf)) (pv 1))) (Uy (XG (YJ (zQ (Yz (K:=K) rfl) rfl T.n_all PyProof.Rows.Boot.«all» (za (xr (N':=["weight"]) rfl (blk (osc:=zB vp) rfl (by decide+kernel)) (yV yU) (wN (K:=K) (pv 0)) (yp rfl) (fun C s₀ H₀ fp=>zO (i:=0) (show (["weight"]:List Str).Nodup from by decide+kernel) rfl (Or.inl rfl)) (fun C s₀ H₀ fp=>xf) (fun C s₀ H₀ fp=>(zv (vv (fu:=fu) T) (hr.mono (by decide)) rfl T.f_is_from_to.m T.f_is_from_to.F.kp T.f_is_from_to.b .nil WI (@za _ _ _ _ _ (pv 0) (@za _ _ _ _ _ zj (@za _ _ _ _ _ (match T.m_MOST_NUMBER with|⟨t,h⟩=>wc (v:= .int 999999999) rfl h ⟨t,rfl⟩) zg zf) zc) zf)))) zg))))))) (@zr _ _ _ (@zI _ _ _ _ Zu)) zM) (@zr _ _ _ (@zI _ _ _ _ (YI (XA (zQ (zcu (K:=K) rfl) rfl T.n_sum PyProof.Rows.Boot.«sum» (@za _ _ _ _ _ (pv 0) zg zf)) zj))))),yX (n:=2) (k:=0) (b:=ZI fu) rfl (zo (yi (zbK (yS (zeU (yn xz (zb (ze 0) zi)) (ze 1))) (XQ (yS (yn US (zb (yW (cap:=[none]) (ZB (ze 0)) zm xg (zw (zb (ze 0) (zb (zh _) (zb (zh _) zi))))) zi))))) (zJ (Zz _)) zN) (zJ (XC (yn zge (zb (ze 0) zi)) (zh _)))) h⟩)
noncomputable def Xn (fu:Nat):TwS:=(zF (zR (eOp yD (zk 1) (eC (.int 0))) (gN 2)) (zF (sIf (WQ (bE (eOp (dIn false) (zk 2) (zH [(eC (.str "set")),(eC (.str "draw"))]))) (bE (zd8 true (eOp yD (zk 1) (eC (.int 1))) (zk 0)))) (yd (eC (.bl false))) zY) (zF (sIf (WQ (bE (eOp (xN false) (zk 2) (eC (.str "draw")))) (WR (bE (zD (wW fu) [(eOp yD (zk 1) (eC (.int 2))),(zbS (zk 0) (eOp yD (zk 1) (eC (.int 1))))])))) (yd (eC (.bl false))) zY) (zF (sIf (WQ (bE (eOp (xN false) (zk 2) (eC (.str "times")))) (WR (bE (zD (xH fu) [(eOp yD (zk 1) (eC (.int 1))),(eC (.int 0)),(eC (.int 60))])))) (yd (eC (.bl false))) zY) (zF (sIf (WQ (bE (eOp (xN false) (zk 2) (eC (.str "hand")))) (WR (bE (VX (fun i j=>decide (i≤j)) (fun i j=>decide (i≤j)) (eC (.int 2)) (eFn wL [(eOp yD (zk 1) (eC (.int 1)))]) (eC (.int 8)))))) (yd (eC (.bl false))) zY) (yd (eFn UR [(xw [none,some 0] (iT (zD (wV fu) [(zk 1)])) (gN 0) xy (zD (wI fu) [(zk 1),(zk 0)]))])))))))
noncomputable def wX (fu:Nat):TwF:=yz 2 1 (Xn fu)
theorem zbc (T:Tx K mg):yZ P w K mg base (CXE P w) 4 T.f_deed_fits.a T.f_deed_fits.fd ["sizes","deed"] (sTw K 2 (wX fu)):=
 T.f_deed_fits.F.okE Vv (fun vs H Q E h=>h.1) (fun cdv A outer s H vs Q E hr h=>⟨_,(@zl _ _ _ _ _ (@zG _ _ 2 _ _ _ _ Vv.nd rfl (Or.inl rfl) (@yc _ _ _ _ _ _ _ (zV (K:=K)) (pv 1) zj (fun _ _=>rfl)) (by rfl) (by walk_at "q1")) (@zl _ _ _ _ _ (yh (PW.pt (XF (xn (zeN (K:=K)) (pv 2) (@zp _ _ _ _ _ (@za _ _ _ _ _ zA (@za _ _ _ _ _ zA zg zc) zc)) (by rfl)) (ZV (ya (zdU (zeG hr) (@yc _ _ _ _ _ _ _ (zV (K:=K)) (pv 1) zj (fun _ _=>rfl)) (pv 0)))))) (@zr _ _ _ (@zI _ _ _ _ Zu)) zM) (@zl _ _ _ _ _ (yh (PW.pt (XF (xn Za (pv 2) zA (by rfl)) (ZV (XG (YJ (zv (Td (fu:=fu) T) (hr.mono (by decide)) rfl T.f_weights_fit.m T.f_weights_fit.F.kp T.f_weights_fit.b .nil zK (@za _ _ _ _ _ (@yc _ _ _ _ _ _ _ (zV (K:=K)) (pv 1) zj (fun _ _=>rfl)) (@za _ _ _ _ _ (zfY (zeG hr) (pv 0) (@yc _ _ _ _ _ _ _ (zV (K:=K)) (pv 1) zj (fun _ _=>rfl)) (fun _ _=>rfl)) zg yk) yk))))))) (@zr _ _ _ (@zI _ _ _ _ Zu)) zM) (@zl _ _ _ _ _ (yh (PW.pt (XF (xn Za (pv 2) zA (by rfl)) (ZV (XG (YJ (zv (vv (fu:=fu) T) (hr.mono (by decide)) rfl T.f_is_from_to.m T.f_is_from_to.F.kp T.f_is_from_to.b .nil zK (@za _ _ _ _ _ (@yc _ _ _ _ _ _ _ (zV (K:=K)) (pv 1) zj (fun _ _=>rfl)) (@za _ _ _ _ _ zj (@za _ _ _ _ _ (match T.m_MOST_TURNS with|⟨t,h⟩=>wc (v:= .int 60) rfl h ⟨t,rfl⟩) zg zf) zc) yk))))))) (@zr _ _ _ (@zI _ _ _ _ Zu)) zM) (@zl _ _ _ _ _ (yh (PW.pt (XF (xn Za (pv 2) zA (by rfl)) (ZV (XG (zez zan zan (match T.m_FEWEST_BLOCKS with|⟨t,h⟩=>wc (v:= .int 2) rfl h ⟨t,rfl⟩) (zQ (yv (K:=K)) rfl T.n_len boot_len (@za _ _ _ _ _ (@yc _ _ _ _ _ _ _ (zV (K:=K)) (pv 1) zj (fun _ _=>rfl)) zg yk)) (match T.m_MOST_BLOCKS with|⟨t,h⟩=>wc (v:= .int 8) rfl h ⟨t,rfl⟩)))))) (@zr _ _ _ (@zI _ _ _ _ Zu)) zM) (@zr _ _ _ (@zI _ _ _ _ (zQ (Yz (K:=K) rfl) rfl T.n_all PyProof.Rows.Boot.«all» (za (xr (N':=["operand","sizes"]) rfl (blk (osc:=zB Yb) rfl (by decide+kernel)) (yV (Zf (i:=0) rfl rfl yU)) (wN (K:=K) (zv (Tc (fu:=fu) T) (hr.mono (by decide)) rfl T.f_operands_of.m T.f_operands_of.F.kp T.f_operands_of.b .nil zK (@za _ _ _ _ _ (pv 1) zg zf))) (yp rfl) (fun C s₀ H₀ fp=>zO (i:=0) (show (["operand","sizes"]:List Str).Nodup from by decide+kernel) rfl (Or.inl rfl)) (fun C s₀ H₀ fp=>xf) (fun C s₀ H₀ fp=>(zv (Ur (fu:=fu) T) (hr.mono (by decide)) rfl T.f_operand_fits.m T.f_operand_fits.F.kp T.f_operand_fits.b .nil WI (@za _ _ _ _ _ (pv 1) (@za _ _ _ _ _ (pv 0) zg zf) zf)))) zg))))))))),yX (n:=2) (k:=1) (b:=Xn fu) rfl (zo (zC (zu yj (ze 1) (zh _)) zm) (zo (yi (XO (xi (zu zdn (ze 2) (zq (zb (zy _) (zb (zy _) zi))))) (yS (zd9 (zu yj (ze 1) (zh _)) (ze 0)))) (zJ (Zz _)) zN) (zo (yi (XO (xi (zu ww (ze 2) (zy _))) (XQ (yS (zw (zb (zu yj (ze 1) (zh _)) (zb (zgj (ze 0) (zu yj (ze 1) (zh _))) zi)))))) (zJ (Zz _)) zN) (zo (yi (XO (xi (zu ww (ze 2) (zy _))) (XQ (yS (zw (zb (zu yj (ze 1) (zh _)) (zb (zh _) (zb (zh _) zi))))))) (zJ (Zz _)) zN) (zo (yi (XO (xi (zu ww (ze 2) (zy _))) (XQ (xi (UU (zh _) (yn xz (zb (zu yj (ze 1) (zh _)) zi)) (zh _))))) (zJ (Zz _)) zN) (zJ (yn US (zb (yW (cap:=[none,some 0]) (ZB (zw (zb (ze 1) zi))) zm xg (zw (zb (ze 1) (zb (ze 0) zi)))) zi)))))))) h⟩)
noncomputable def Ye (fu:Nat) (r_depth_of:TwF) (r_deed_depth:TwF):TwS:=(yd (eUn (UX 0) (xw [none] (iT (zk 0)) (gN 0) xy (zD r_deed_depth [(zk 0)]))))
noncomputable def vw (fu:Nat) (r_depth_of:TwF) (r_deed_depth:TwF):TwS:=(zF (sIf (bE (eOp (dIn true) (eOp yD (zk 0) (eC (.int 0))) (eC (.ct [.str "if",.str "while",.str "times",.str "hand"])))) (yd (eC (.int 0))) zY) (yd (eOp xj (eC (.int 1)) (eUn (UX 0) (xw [none] (iT (zD (wn fu) [(zk 0)])) (gN 0) xy (zD r_depth_of [(zk 0)]))))))
mutual
noncomputable def yu (fu:Nat):Nat→TwF
 |0=>fun _ _=>none
 |n+1=>yz 1 0 (Ye fu (yu fu n) (yA fu n))
noncomputable def yA (fu:Nat):Nat→TwF
 |0=>fun _ _=>none
 |n+1=>yz 1 0 (vw fu (yu fu n) (yA fu n))
end
theorem YD (fu n:Nat):yu fu (n+1)=yz 1 0 (Ye fu (yu fu n) (yA fu n)):=by rw [yu]
theorem Ua (fu:Nat):yu fu 0=fun _ _=>none:=by rw [yu]
theorem ZJ (fu n:Nat):yA fu (n+1)=yz 1 0 (vw fu (yu fu n) (yA fu n)):=by rw [yA]
theorem WZ (fu:Nat):yA fu 0=fun _ _=>none:=by rw [yA]
theorem zbd (T:Tx K mg):∀n:Nat,yZ P w K mg base (CXE P w) (1+n) T.f_depth_of.a T.f_depth_of.fd ["block"] (sTw K 1 (yu fu n))∧yZ P w K mg base (CXE P w) (1+n) T.f_deed_depth.a T.f_deed_depth.fd ["deed"] (sTw K 1 (yA fu n)):=by
 intro n
 induction n with
 |zero=>
  refine ⟨?_,?_⟩
  ·rw [Ua]
   exact ZZ
  ·rw [WZ]
   exact ZZ
 |succ n ih=>
  refine ⟨?_,?_⟩
  ·rw [YD]
   exact T.f_depth_of.F.okE zb1 (fun vs H Q E h=>h.1) (fun cdv A outer s H vs Q E hr h=>⟨_,(@zr _ _ _ (@zI _ _ _ _ (zdt (K:=K) rfl rfl T.n_max (xr (N':=["deed"]) rfl (blk (osc:=zB Xb) rfl (by decide+kernel)) (yV yU) (wN (K:=K) (pv 0)) (yp rfl) (fun C s₀ H₀ fp=>zO (i:=0) (show (["deed"]:List Str).Nodup from by decide+kernel) rfl (Or.inl rfl)) (fun C s₀ H₀ fp=>xf) (fun C s₀ H₀ fp=>(zv ih.2 (hr.mono (by (try simp only [Nat.add_eq]);omega)) rfl T.f_deed_depth.m T.f_deed_depth.F.kp T.f_deed_depth.b .nil WI (@za _ _ _ _ _ (pv 0) zg zf))))))),yX (n:=1) (k:=0) (b:=Ye fu (yu fu n) (yA fu n)) rfl (zJ (zdv (yW (cap:=[none]) (ZB (ze 0)) zm xg (zw (zb (ze 0) zi))))) h⟩)
  ·rw [ZJ]
   exact T.f_deed_depth.F.okE TX (fun vs H Q E h=>h.1) (fun cdv A outer s H vs Q E hr h=>⟨_,(@zl _ _ _ _ _ (yh (xn (zax (K:=K)) (@yc _ _ _ _ _ _ _ (zV (K:=K)) (pv 0) zj (fun _ _=>rfl)) (wc (v:= .ref T.a_BLOCK_KINDS) rfl T.m_BLOCK_KINDS rfl) (by rfl)) (@zr _ _ _ (@zI _ _ _ _ zj)) zM) (@zr _ _ _ (@zI _ _ _ _ (zL yw zj (zdt (K:=K) rfl rfl T.n_max (xr (N':=["block"]) rfl (blk (osc:=zB Zk) rfl (by decide+kernel)) (yV yU) (wN (K:=K) (zv (Xk (fu:=fu) T) (hr.mono (by (try simp only [Nat.add_eq]);omega)) rfl T.f_blocks_of.m T.f_blocks_of.F.kp T.f_blocks_of.b .nil zK (@za _ _ _ _ _ (pv 0) zg zf))) (yp rfl) (fun C s₀ H₀ fp=>zO (i:=0) (show (["block"]:List Str).Nodup from by decide+kernel) rfl (Or.inl rfl)) (fun C s₀ H₀ fp=>xf) (fun C s₀ H₀ fp=>(zv ih.1 (hr.mono (by (try simp only [Nat.add_eq]);omega)) rfl T.f_depth_of.m T.f_depth_of.F.kp T.f_depth_of.b .nil WI (@za _ _ _ _ _ (pv 0) zg zf))))))))),yX (n:=1) (k:=0) (b:=vw fu (yu fu n) (yA fu n)) rfl (zo (yi (xi (zu zdn (zu yj (ze 0) (zh _)) (zf8 fun j H=> .ct (fun H=>T.c_BLOCK_KINDS H) (.cons (.str _) (.cons (.str _) (.cons (.str _) (.cons (.str _) .nil))))))) (zJ (zh _)) zN) (zJ (zu yx (zh _) (zdv (yW (cap:=[none]) (ZB (zw (zb (ze 0) zi))) zm xg (zw (zb (ze 0) zi))))))) h⟩)
theorem zb3 (T:Tx K mg) (n:Nat):yZ P w K mg base (CXE P w) (1+n) T.f_depth_of.a T.f_depth_of.fd ["block"] (sTw K 1 (yu fu n)):=(zbd T n).1
noncomputable def vx (fu:Nat):TwS:=(zF (zR (eOp yD (zk 0) (eC (.int 0))) (gN 1)) (zF (zR (eOp yD (zk 0) (eC (.int 1))) (gN 2)) (zF (sIf (WR (bE (zD (Xm fu) [(zk 1)]))) (yd (eC (.bl false))) zY) (zF (zR (eFn za7 [(zk 1)]) (gN 3)) (zF (sIf (WR (bE (eFn UR [(xw [none,some 3] (iL (zD (zX fu 20) [(zk 2)])) (gN 0) xy (zD (wX fu) [(zk 1),(zk 0)]))]))) (yd (eC (.bl false))) zY) (yd (TK (eOp dLe (zD (yu fu 40) [(zk 2)]) (eC (.int 12))) (eOp dLe (zD (yl fu 40) [(zk 2)]) (eC (.int 100))))))))))
noncomputable def vy (fu:Nat):TwF:=yz 1 3 (vx fu)
theorem zab (T:Tx K mg):yZ P w K mg base (CXE P w) 42 T.f_is_program.a T.f_is_program.fd ["program"] (sTw K 1 (vy fu)):=
 T.f_is_program.F.okE vq (fun vs H Q E h=>h.1) (fun cdv A outer s H vs Q E hr h=>⟨_,(@zl _ _ _ _ _ (@zG _ _ 1 _ _ _ _ vq.nd rfl (Or.inl rfl) (@yc _ _ _ _ _ _ _ (zV (K:=K)) (pv 0) zj (fun _ _=>rfl)) (by rfl) (by walk_at "q1")) (@zl _ _ _ _ _ (@zG _ _ 2 _ _ _ _ vq.nd rfl (Or.inl rfl) (@yc _ _ _ _ _ _ _ (zV (K:=K)) (pv 0) zj (fun _ _=>rfl)) (by rfl) (by walk_at "q1")) (@zl _ _ _ _ _ (yh (XG (YJ (zv (zbb (fu:=fu) T) (hr.mono (by decide)) rfl T.f_boxes_fit.m T.f_boxes_fit.F.kp T.f_boxes_fit.b .nil zK (@za _ _ _ _ _ (pv 1) zg zf)))) (@zr _ _ _ (@zI _ _ _ _ Zu)) zM) (@zl _ _ _ _ _ (@zG _ _ 3 _ _ _ _ vq.nd rfl (Or.inr rfl) (yT (zcH rfl) rfl T.n_dict PyProof.Rows.Boot.«dict» (@za _ _ _ _ _ (pv 1) zg zf)) (by rfl) (by walk_at "q1")) (@zl _ _ _ _ _ (yh (XG (YJ (zQ (Yz (K:=K) rfl) rfl T.n_all PyProof.Rows.Boot.«all» (za (xr (N':=["deed","sizes"]) rfl (blk (osc:=zB Zj) rfl (by decide+kernel)) (yV (Zf (i:=3) rfl rfl yU)) (UL (K:=K) (zv (Uq (fu:=fu) T 20) (hr.mono (by decide)) rfl T.f_deeds_within.m T.f_deeds_within.F.kp T.f_deeds_within.b .nil zK (@za _ _ _ _ _ (pv 2) zg zf))) (yp rfl) (fun C s₀ H₀ fp=>zO (i:=0) (show (["deed","sizes"]:List Str).Nodup from by decide+kernel) rfl (Or.inl rfl)) (fun C s₀ H₀ fp=>xf) (fun C s₀ H₀ fp=>(zv (zbc (fu:=fu) T) (hr.mono (by decide)) rfl T.f_deed_fits.m T.f_deed_fits.F.kp T.f_deed_fits.b .nil WI (@za _ _ _ _ _ (pv 1) (@za _ _ _ _ _ (pv 0) zg zf) zf)))) zg)))) (@zr _ _ _ (@zI _ _ _ _ Zu)) zM) (@zr _ _ _ (@zI _ _ _ _ (VL (YI (zcY (zv (zb3 (fu:=fu) T 40) (hr.mono (by decide)) rfl T.f_depth_of.m T.f_depth_of.F.kp T.f_depth_of.b .nil zK (@za _ _ _ _ _ (pv 2) zg zf)) (match T.m_MOST_WITHIN with|⟨t,h⟩=>wc (v:= .int 12) rfl h ⟨t,rfl⟩))) (VJ (YI (zcY (zv (zba (fu:=fu) T 40) (hr.mono (by decide)) rfl T.f_length_of.m T.f_length_of.F.kp T.f_length_of.b .nil zK (@za _ _ _ _ _ (pv 2) zg zf)) (match T.m_MOST_LENGTH with|⟨t,h⟩=>wc (v:= .int 100) rfl h ⟨t,rfl⟩)))))))))))),yX (n:=1) (k:=3) (b:=vx fu) rfl (zo (zC (zu yj (ze 0) (zh _)) zm) (zo (zC (zu yj (ze 0) (zh _)) zm) (zo (yi (XQ (yS (zw (zb (ze 1) zi)))) (zJ (Zz _)) zN) (zo (zC (yn zfh (zb (ze 1) zi)) zm) (zo (yi (XQ (yS (yn US (zb (yW (cap:=[none,some 3]) (zaY (zw (zb (ze 2) zi))) zm xg (zw (zb (ze 1) (zb (ze 0) zi)))) zi)))) (zJ (Zz _)) zN) (zJ (VR (zdg (zw (zb (ze 2) zi)) (zh _)) (zdg (zw (zb (ze 2) zi)) (zh _))))))))) h⟩)
noncomputable def Xo (fu:Nat):TwS:=(zF (zR (eC (.int 0)) (gN 4)) (zF (sIf (bE (eOp dGt (eFn wL [(zk 0)]) (eC (.int 0)))) (zR (eOp Yi (zk 0) (eOp XV (zk 1) (eFn wL [(zk 0)]))) (gN 4)) zY) (yd (eOp XV (eOp XV (eOp xj (eOp zf9 (eOp xj (zk 4) (eOp YA (zk 1) (zk 1))) (eC (.int 48271))) (eC (.int 11))) (zk 2)) (zk 3)))))
noncomputable def zt (fu:Nat):TwF:=yz 4 1 (Xo fu)
theorem zx (T:Tx K mg):yZ P w K mg base (CXE P w) 1 T.f__law_draw.a T.f__law_draw.fd ["_law_script","_law_k","_law_prime","_law_many"] (sTw K 4 (zt fu)):=
 T.f__law_draw.F.okE Xh (fun vs H Q E h=>h.1) (fun cdv A outer s H vs Q E hr h=>⟨_,(@zl _ _ _ _ _ (@zG _ _ 4 _ _ _ _ Xh.nd rfl (Or.inl rfl) zj (by rfl) (by walk_at "q1")) (@zl _ _ _ _ _ (yh (ya (XA (zQ (yv (K:=K)) rfl T.n_len boot_len (@za _ _ _ _ _ (pv 0) zg zf)) zj)) (@zr _ _ _ (@zG _ _ 4 _ _ _ _ Xh.nd rfl (Or.inl rfl) (@yc _ _ _ _ _ _ _ (xq (K:=K)) (pv 0) (zL vN (pv 1) (zQ (yv (K:=K)) rfl T.n_len boot_len (@za _ _ _ _ _ (pv 0) zg zf))) (fun _ _=>rfl)) (by rfl) (by walk_at "q1"))) zM) (@zr _ _ _ (@zI _ _ _ _ (zL vN (zL vN (zL yw (zL zhz (zL yw (pv 4) (zL YR (pv 1) (pv 1))) zj) zj) (pv 2)) (pv 3)))))),yX (n:=4) (k:=1) (b:=Xo fu) rfl (zo (zC (zh _) zm) (zo (yi (yS (XC (yn xz (zb (ze 0) zi)) (zh _))) (zC (zu wv (ze 0) (zu vO (ze 1) (yn xz (zb (ze 0) zi)))) zm) zN) (zJ (zu vO (zu vO (zu yx (zu zhV (zu yx (ze 4) (zu YX (ze 1) (ze 1))) (zh _)) (zh _)) (ze 2)) (ze 3))))) h⟩)
noncomputable def Xp (fu:Nat):TwS:=(zF (zR (eC (.str "abcdefghijklmnopqrstuvwxyz")) (gN 3)) (zF (zR (eOp xj (zk 2) (eC (.int 1))) (gN 4)) (zF (sIf (bE (eOp xX (zD (zt fu) [(zk 0),(eC (.int 1)),(eC (.int 10009)),(eC (.int 2))]) (eC (.int 0)))) (zR (eOp xj (zk 4) (zD (zt fu) [(zk 0),(eOp xj (eC (.int 20)) (zk 1)),(eC (.int 10037)),(eOp TM (eC (.int 8)) (zk 2))])) (gN 4)) zY) (zF (zR (eC (.str "")) (gN 5)) (zF (Vj (iR1 (zk 4)) (gN 6) (zF (zR (eOp xj (eOp YA (zk 6) (zk 6)) (zD (zt fu) [(zk 0),(eC (.int 2)),(eC (.int 10039)),(eC (.int 26))])) (gN 7)) (zF (sIf (bE (eOp xX (zD (zt fu) [(zk 0),(eC (.int 3)),(eC (.int 10061)),(eC (.int 2))]) (eC (.int 0)))) (zR (eOp xj (zk 7) (zD (zt fu) [(zk 0),(eOp xj (eC (.int 30)) (zk 1)),(eC (.int 10067)),(eC (.int 26))])) (gN 7)) zY) (zF (sIf (bE (eOp xX (zk 6) (zk 2))) (zR (eOp xj (zk 1) (zD (zt fu) [(zk 0),(eC (.int 4)),(eC (.int 10069)),(eC (.int 26))])) (gN 7)) zY) (zR (eOp XX (zk 5) (eOp zaX (zk 3) (eOp XV (zk 7) (eC (.int 26))))) (gN 5)))))) (yd (zk 5)))))))
noncomputable def Xq (fu:Nat):TwF:=yz 3 5 (Xp fu)
theorem zbe (T:Tx K mg):yZ P w K mg base (CXE P w) 2 T.f__law_name.a T.f__law_name.fd ["_law_script","_law_k","_law_at"] (sTw K 3 (Xq fu)):=
 T.f__law_name.F.okE xk (fun vs H Q E h=>h.1) (fun cdv A outer s H vs Q E hr h=>⟨_,(@zl _ _ _ _ _ (@zG _ _ 3 _ _ _ _ xk.nd rfl (Or.inl rfl) zA (by rfl) (by walk_at "q1")) (@zl _ _ _ _ _ (@zG _ _ 4 _ _ _ _ xk.nd rfl (Or.inl rfl) (zL yw (pv 2) zj) (by rfl) (by walk_at "q1")) (@zl _ _ _ _ _ (yh (ya (yK (zv (zx (fu:=fu) T) (hr.mono (by decide)) rfl T.f__law_draw.m T.f__law_draw.F.kp T.f__law_draw.b .nil zK (@za _ _ _ _ _ (pv 0) (@za _ _ _ _ _ zj (@za _ _ _ _ _ zj (@za _ _ _ _ _ zj zg zc) zc) zc) zf)) zj)) (@zr _ _ _ (@zG _ _ 4 _ _ _ _ xk.nd rfl (Or.inl rfl) (zL yw (pv 4) (zv (zx (fu:=fu) T) (hr.mono (by decide)) rfl T.f__law_draw.m T.f__law_draw.F.kp T.f__law_draw.b .nil zK (@za _ _ _ _ _ (pv 0) (@za _ _ _ _ _ (zL yw zj (pv 1)) (@za _ _ _ _ _ zj (@za _ _ _ _ _ (zL XI zj (pv 2)) zg ye) zc) ye) zf))) (by rfl) (by walk_at "q1"))) zM) (@zl _ _ _ _ _ (@zG _ _ 5 _ _ _ _ xk.nd rfl (Or.inl rfl) zA (by rfl) (by walk_at "q1")) (@zl _ _ _ _ _ (YM PassesOwn.leaving rfl (xm rfl T.n_range (@za _ _ _ _ _ (pv 4) zg zf)) (zO (i:=6) xk.nd rfl (Or.inl rfl)) (@zl _ _ _ _ _ (@zG _ _ 7 _ _ _ _ xk.nd rfl (Or.inl rfl) (zL yw (zL YR (pv 6) (pv 6)) (zv (zx (fu:=fu) T) (hr.mono (by decide)) rfl T.f__law_draw.m T.f__law_draw.F.kp T.f__law_draw.b .nil zK (@za _ _ _ _ _ (pv 0) (@za _ _ _ _ _ zj (@za _ _ _ _ _ zj (@za _ _ _ _ _ zj zg zc) zc) zc) zf))) (by rfl) (by walk_at "q1")) (@zl _ _ _ _ _ (yh (ya (yK (zv (zx (fu:=fu) T) (hr.mono (by decide)) rfl T.f__law_draw.m T.f__law_draw.F.kp T.f__law_draw.b .nil zK (@za _ _ _ _ _ (pv 0) (@za _ _ _ _ _ zj (@za _ _ _ _ _ zj (@za _ _ _ _ _ zj zg zc) zc) zc) zf)) zj)) (@zr _ _ _ (@zG _ _ 7 _ _ _ _ xk.nd rfl (Or.inl rfl) (zL yw (pv 7) (zv (zx (fu:=fu) T) (hr.mono (by decide)) rfl T.f__law_draw.m T.f__law_draw.F.kp T.f__law_draw.b .nil zK (@za _ _ _ _ _ (pv 0) (@za _ _ _ _ _ (zL yw zj (pv 1)) (@za _ _ _ _ _ zj (@za _ _ _ _ _ zj zg zc) zc) ye) zf))) (by rfl) (by walk_at "q1"))) zM) (@zl _ _ _ _ _ (yh (ya (yK (pv 6) (pv 2))) (@zr _ _ _ (@zG _ _ 7 _ _ _ _ xk.nd rfl (Or.inl rfl) (zL yw (pv 1) (zv (zx (fu:=fu) T) (hr.mono (by decide)) rfl T.f__law_draw.m T.f__law_draw.F.kp T.f__law_draw.b .nil zK (@za _ _ _ _ _ (pv 0) (@za _ _ _ _ _ zj (@za _ _ _ _ _ zj (@za _ _ _ _ _ zj zg zc) zc) zc) zf))) (by rfl) (by walk_at "q1"))) zM) (@zr _ _ _ (@zG _ _ 5 _ _ _ _ xk.nd rfl (Or.inl rfl) (zL vi (pv 5) (@yc _ _ _ _ _ _ _ UD (pv 3) (zL vN (pv 7) zj) (fun _ _=>rfl))) (by rfl) (by walk_at "q1"))))))) (@zr _ _ _ (@zI _ _ _ _ (pv 5)))))))),yX (n:=3) (k:=5) (b:=Xp fu) rfl (zo (zC (zy _) zm) (zo (zC (zu yx (ze 2) (zh _)) zm) (zo (yi (yS (yL (zw (zb (ze 0) (zb (zh _) (zb (zh _) (zb (zh _) zi))))) (zh _))) (zC (zu yx (ze 4) (zw (zb (ze 0) (zb (zu yx (zh _) (ze 1)) (zb (zh _) (zb (zu XW (zh _) (ze 2)) zi)))))) zm) zN) (zo (zC (zy _) zm) (zo (YV (xo (ze 4)) zm (zo (zC (zu yx (zu YX (ze 6) (ze 6)) (zw (zb (ze 0) (zb (zh _) (zb (zh _) (zb (zh _) zi)))))) zm) (zo (yi (yS (yL (zw (zb (ze 0) (zb (zh _) (zb (zh _) (zb (zh _) zi))))) (zh _))) (zC (zu yx (ze 7) (zw (zb (ze 0) (zb (zu yx (zh _) (ze 1)) (zb (zh _) (zb (zh _) zi)))))) zm) zN) (zo (yi (yS (yL (ze 6) (ze 2))) (zC (zu yx (ze 1) (zw (zb (ze 0) (zb (zh _) (zb (zh _) (zb (zh _) zi)))))) zm) zN) (zC (zu Wv (ze 5) (zu UM (ze 3) (zu vO (ze 7) (zh _)))) zm))))) (zJ (ze 5))))))) h⟩)
noncomputable def Yr (fu:Nat):TwS:=(zF (zR (zD (zt fu) [(zk 0),(eC (.int 5)),(eC (.int 10079)),(eC (.int 8))]) (gN 3)) (zF (zR (wf []) (gN 4)) (zF (zR (eC (.int 1)) (gN 5)) (zF (Vj (iR1 (zk 1)) (gN 6) (zF (zR (eOp xj (eC (.int 1)) (zD (zt fu) [(zk 0),(eOp xj (eC (.int 6)) (zk 6)),(eC (.int 10091)),(eC (.int 9))])) (gN 7)) (zF (sIf (bE (eOp dGt (eOp YA (zk 5) (zk 7)) (zk 2))) (zR (eC (.int 1)) (gN 7)) zY) (zF (zR (eOp YA (zk 5) (zk 7)) (gN 5)) (zF (zR (zD (Xq fu) [(zk 0),(zk 6),(zk 3)]) (gN 8)) (zF (sIf (WQ (bE (eOp xX (zk 6) (eC (.int 1)))) (bE (eOp xX (zD (zt fu) [(zk 0),(eC (.int 9)),(eC (.int 10369)),(eC (.int 3))]) (eC (.int 0))))) (zF (zR (eSl zbL (eOp yD (eOp Yi (zk 4) (eC (.int 0))) (eC (.int 0))) oNo (wJ (eUn TN (eC (.int 1))))) (gN 8)) (sIf (bE (eOp dLt (eFn zaC [(zk 8)]) (eC (.int 7)))) (zR (eOp XX (eOp yD (eOp Yi (zk 4) (eC (.int 0))) (eC (.int 0))) (eC (.str "e"))) (gN 8)) zY)) zY) (XB (eMt wg (zk 4) [(zH [(zk 8),(zk 7)])])))))))) (yd (eFn xQ [(zk 4)]))))))
noncomputable def vz (fu:Nat):TwF:=yz 3 6 (Yr fu)
theorem WM (T:Tx K mg):yZ P w K mg base (CXE P w) 3 T.f__law_boxes.a T.f__law_boxes.fd ["_law_script","_law_count","_law_most"] (sTw K 3 (vz fu)):=
 T.f__law_boxes.F.okE yM (fun vs H Q E h=>h.1) (fun cdv A outer s H vs Q E hr h=>⟨_,(@zl _ _ _ _ _ (@zG _ _ 3 _ _ _ _ yM.nd rfl (Or.inl rfl) (zv (zx (fu:=fu) T) (hr.mono (by decide)) rfl T.f__law_draw.m T.f__law_draw.F.kp T.f__law_draw.b .nil zK (@za _ _ _ _ _ (pv 0) (@za _ _ _ _ _ zj (@za _ _ _ _ _ zj (@za _ _ _ _ _ zj zg zc) zc) zc) zf)) (by rfl) (by walk_at "q1")) (@zl _ _ _ _ _ (@zG _ _ 4 _ _ _ _ yM.nd rfl (Or.inl rfl) (@xb _ _ _ _ zg) (by rfl) (by walk_at "q1")) (@zl _ _ _ _ _ (@zG _ _ 5 _ _ _ _ yM.nd rfl (Or.inl rfl) zj (by rfl) (by walk_at "q1")) (@zl _ _ _ _ _ (YM PassesOwn.leaving rfl (xm rfl T.n_range (@za _ _ _ _ _ (pv 1) zg zf)) (zO (i:=6) yM.nd rfl (Or.inl rfl)) (@zl _ _ _ _ _ (@zG _ _ 7 _ _ _ _ yM.nd rfl (Or.inl rfl) (zL yw zj (zv (zx (fu:=fu) T) (hr.mono (by decide)) rfl T.f__law_draw.m T.f__law_draw.F.kp T.f__law_draw.b .nil zK (@za _ _ _ _ _ (pv 0) (@za _ _ _ _ _ (zL yw zj (pv 6)) (@za _ _ _ _ _ zj (@za _ _ _ _ _ zj zg zc) zc) ye) zf))) (by rfl) (by walk_at "q1")) (@zl _ _ _ _ _ (yh (ya (XA (zL YR (pv 5) (pv 7)) (pv 2))) (@zr _ _ _ (@zG _ _ 7 _ _ _ _ yM.nd rfl (Or.inl rfl) zj (by rfl) (by walk_at "q1"))) zM) (@zl _ _ _ _ _ (@zG _ _ 5 _ _ _ _ yM.nd rfl (Or.inl rfl) (zL YR (pv 5) (pv 7)) (by rfl) (by walk_at "q1")) (@zl _ _ _ _ _ (@zG _ _ 8 _ _ _ _ yM.nd rfl (Or.inl rfl) (zv (zbe (fu:=fu) T) (hr.mono (by decide)) rfl T.f__law_name.m T.f__law_name.F.kp T.f__law_name.b .nil zK (@za _ _ _ _ _ (pv 0) (@za _ _ _ _ _ (pv 6) (@za _ _ _ _ _ (pv 3) zg zf) zf) zf)) (by rfl) (by walk_at "q1")) (@zl _ _ _ _ _ (yh (PW.pt (XF (ya (yK (pv 6) zj)) (ZV (ya (yK (zv (zx (fu:=fu) T) (hr.mono (by decide)) rfl T.f__law_draw.m T.f__law_draw.F.kp T.f__law_draw.b .nil zK (@za _ _ _ _ _ (pv 0) (@za _ _ _ _ _ zj (@za _ _ _ _ _ zj (@za _ _ _ _ _ zj zg zc) zc) zc) zf)) zj))))) (@zl _ _ _ _ _ (@zG _ _ 8 _ _ _ _ yM.nd rfl (Or.inl rfl) (xp zhN (@yc _ _ _ _ _ _ _ (zV (K:=K)) (@yc _ _ _ _ _ _ _ (xq (K:=K)) (pv 4) zj (fun _ _=>rfl)) zj (fun _ _=>rfl)) xJ (xK (zam VM zj))) (by rfl) (by walk_at "q1")) (@zr _ _ _ (yh (ya (WE (zQ Ve rfl T.n_len boot_len (@za _ _ _ _ _ (pv 8) zg zf)) zj)) (@zr _ _ _ (@zG _ _ 8 _ _ _ _ yM.nd rfl (Or.inl rfl) (zL vi (@yc _ _ _ _ _ _ _ (zV (K:=K)) (@yc _ _ _ _ _ _ _ (xq (K:=K)) (pv 4) zj (fun _ _=>rfl)) zj (fun _ _=>rfl)) zA) (by rfl) (by walk_at "q1"))) zM))) zM) (@zr _ _ _ (YK (UE PySem.F.plainAttrs_list PySem.F.slot_list_append PySem.F.type_list_append vj (pv 4) (@za _ _ _ _ _ (@zp _ _ _ _ _ (@za _ _ _ _ _ (pv 8) (@za _ _ _ _ _ (pv 7) zg zf) zf)) zg zn)))))))))) (@zr _ _ _ (@zI _ _ _ _ (yT (yG (K:=K)) rfl T.n_tuple boot_tuple (@za _ _ _ _ _ (pv 4) zg zf)))))))),yX (n:=3) (k:=6) (b:=Yr fu) rfl (zo (zC (zw (zb (ze 0) (zb (zh _) (zb (zh _) (zb (zh _) zi))))) zm) (zo (zC (xc zi) zm) (zo (zC (zh _) zm) (zo (YV (xo (ze 1)) zm (zo (zC (zu yx (zh _) (zw (zb (ze 0) (zb (zu yx (zh _) (ze 6)) (zb (zh _) (zb (zh _) zi)))))) zm) (zo (yi (yS (XC (zu YX (ze 5) (ze 7)) (ze 2))) (zC (zh _) zm) zN) (zo (zC (zu YX (ze 5) (ze 7)) zm) (zo (zC (zw (zb (ze 0) (zb (ze 6) (zb (ze 3) zi)))) zm) (zo (yi (XO (yS (yL (ze 6) (zh _))) (yS (yL (zw (zb (ze 0) (zb (zh _) (zb (zh _) (zb (zh _) zi))))) (zh _)))) (zo (zC (zhR (zu yj (zu wv (ze 4) (zh _)) (zh _)) Zd (xL (zaz VU (zh _)))) zm) (yi (yS (WK (yn zdj (zb (ze 8) zi)) (zh _))) (zC (zu Wv (zu yj (zu wv (ze 4) (zh _)) (zh _)) (zy _)) zm) zN)) zN) (YU (Ug Zp (ze 4) (zb (zq (zb (ze 8) (zb (ze 7) zi))) zi))))))))) (zJ (yn xx (zb (ze 4) zi))))))) h⟩)
noncomputable def vU (fu:Nat):TwS:=(zF (zR (eC (.int 0)) (gN 3)) (zF (sIf (bE (eOp dGt (eFn wL [(zk 0)]) (eC (.int 0)))) (zR (eOp Yi (zk 0) (eOp XV (zk 1) (eFn wL [(zk 0)]))) (gN 3)) zY) (zF (zR (zD (zt fu) [(zk 0),(zk 1),(eC (.int 10103)),(eC (.int 4))]) (gN 4)) (zF (sIf (WQ (bE (eOp dLt (zk 4) (eC (.int 2)))) (bE (eOp dGt (eFn wL [(zk 2)]) (eC (.int 0))))) (yd (eOp yD (eOp yD (zk 2) (zD (zt fu) [(zk 0),(zk 1),(eC (.int 10111)),(eFn wL [(zk 2)])])) (eC (.int 0)))) zY) (zF (sIf (bE (eOp xX (zk 4) (eC (.int 2)))) (yd (eOp XV (zk 3) (eOp UO (eC (.int 10)) (eC (.int 9))))) zY) (yd (zD (zt fu) [(zk 0),(zk 1),(eC (.int 10133)),(eC (.int 10))])))))))
noncomputable def yO (fu:Nat):TwF:=yz 3 2 (vU fu)
theorem xA (T:Tx K mg):yZ P w K mg base (CXE P w) 2 T.f__law_operand.a T.f__law_operand.fd ["_law_script","_law_k","_law_boxes_here"] (sTw K 3 (yO fu)):=
 T.f__law_operand.F.okE wG (fun vs H Q E h=>h.1) (fun cdv A outer s H vs Q E hr h=>⟨_,(@zl _ _ _ _ _ (@zG _ _ 3 _ _ _ _ wG.nd rfl (Or.inl rfl) zj (by rfl) (by walk_at "q1")) (@zl _ _ _ _ _ (yh (ya (XA (zQ (yv (K:=K)) rfl T.n_len boot_len (@za _ _ _ _ _ (pv 0) zg zf)) zj)) (@zr _ _ _ (@zG _ _ 3 _ _ _ _ wG.nd rfl (Or.inl rfl) (@yc _ _ _ _ _ _ _ (xq (K:=K)) (pv 0) (zL vN (pv 1) (zQ (yv (K:=K)) rfl T.n_len boot_len (@za _ _ _ _ _ (pv 0) zg zf))) (fun _ _=>rfl)) (by rfl) (by walk_at "q1"))) zM) (@zl _ _ _ _ _ (@zG _ _ 4 _ _ _ _ wG.nd rfl (Or.inl rfl) (zv (zx (fu:=fu) T) (hr.mono (by decide)) rfl T.f__law_draw.m T.f__law_draw.F.kp T.f__law_draw.b .nil zK (@za _ _ _ _ _ (pv 0) (@za _ _ _ _ _ (pv 1) (@za _ _ _ _ _ zj (@za _ _ _ _ _ zj zg zc) zc) zf) zf)) (by rfl) (by walk_at "q1")) (@zl _ _ _ _ _ (yh (PW.pt (XF (ya (WE (pv 4) zj)) (ZV (ya (XA (zQ (yv (K:=K)) rfl T.n_len boot_len (@za _ _ _ _ _ (pv 2) zg zf)) zj))))) (@zr _ _ _ (@zI _ _ _ _ (@yc _ _ _ _ _ _ _ (zV (K:=K)) (@yc _ _ _ _ _ _ _ (zV (K:=K)) (pv 2) (zv (zx (fu:=fu) T) (hr.mono (by decide)) rfl T.f__law_draw.m T.f__law_draw.F.kp T.f__law_draw.b .nil zK (@za _ _ _ _ _ (pv 0) (@za _ _ _ _ _ (pv 1) (@za _ _ _ _ _ zj (@za _ _ _ _ _ (zQ (yv (K:=K)) rfl T.n_len boot_len (@za _ _ _ _ _ (pv 2) zg zf)) zg zZ) zc) zf) zf)) (fun _ _=>rfl)) zj (fun _ _=>rfl)))) zM) (@zl _ _ _ _ _ (yh (ya (yK (pv 4) zj)) (@zr _ _ _ (@zI _ _ _ _ (zL vN (pv 3) (zL WP zj zj)))) zM) (@zr _ _ _ (@zI _ _ _ _ (zv (zx (fu:=fu) T) (hr.mono (by decide)) rfl T.f__law_draw.m T.f__law_draw.F.kp T.f__law_draw.b .nil zK (@za _ _ _ _ _ (pv 0) (@za _ _ _ _ _ (pv 1) (@za _ _ _ _ _ zj (@za _ _ _ _ _ zj zg zc) zc) zf) zf))))))))),yX (n:=3) (k:=2) (b:=vU fu) rfl (zo (zC (zh _) zm) (zo (yi (yS (XC (yn xz (zb (ze 0) zi)) (zh _))) (zC (zu wv (ze 0) (zu vO (ze 1) (yn xz (zb (ze 0) zi)))) zm) zN) (zo (zC (zw (zb (ze 0) (zb (ze 1) (zb (zh _) (zb (zh _) zi))))) zm) (zo (yi (XO (yS (WK (ze 4) (zh _))) (yS (XC (yn xz (zb (ze 2) zi)) (zh _)))) (zJ (zu yj (zu yj (ze 2) (zw (zb (ze 0) (zb (ze 1) (zb (zh _) (zb (yn xz (zb (ze 2) zi)) zi)))))) (zh _))) zN) (zo (yi (yS (yL (ze 4) (zh _))) (zJ (zu vO (ze 3) (zu WU (zh _) (zh _)))) zN) (zJ (zw (zb (ze 0) (zb (ze 1) (zb (zh _) (zb (zh _) zi))))))))))) h⟩)
noncomputable def Xr (fu:Nat):TwS:=(zF (zR (eOp zaX (eC (.str "=<#")) (zD (zt fu) [(zk 0),(zk 1),(eC (.int 10139)),(eC (.int 3))])) (gN 3)) (yd (zH [(zD (yO fu) [(zk 0),(eOp xj (zk 1) (eC (.int 1))),(zk 2)]),(zk 3),(zD (yO fu) [(zk 0),(eOp xj (zk 1) (eC (.int 2))),(zk 2)])])))
noncomputable def wo (fu:Nat):TwF:=yz 3 1 (Xr fu)
theorem Xs (T:Tx K mg):yZ P w K mg base (CXE P w) 3 T.f__law_test.a T.f__law_test.fd ["_law_script","_law_k","_law_boxes_here"] (sTw K 3 (wo fu)):=
 T.f__law_test.F.okE Vw (fun vs H Q E h=>h.1) (fun cdv A outer s H vs Q E hr h=>⟨_,(@zl _ _ _ _ _ (@zG _ _ 3 _ _ _ _ Vw.nd rfl (Or.inl rfl) (@yc _ _ _ _ _ _ _ UD zA (zv (zx (fu:=fu) T) (hr.mono (by decide)) rfl T.f__law_draw.m T.f__law_draw.F.kp T.f__law_draw.b .nil zK (@za _ _ _ _ _ (pv 0) (@za _ _ _ _ _ (pv 1) (@za _ _ _ _ _ zj (@za _ _ _ _ _ zj zg zc) zc) zf) zf)) (fun _ _=>rfl)) (by rfl) (by walk_at "q1")) (@zr _ _ _ (@zI _ _ _ _ (@zp _ _ _ _ _ (@za _ _ _ _ _ (zv (xA (fu:=fu) T) (hr.mono (by decide)) rfl T.f__law_operand.m T.f__law_operand.F.kp T.f__law_operand.b .nil zK (@za _ _ _ _ _ (pv 0) (@za _ _ _ _ _ (zL yw (pv 1) zj) (@za _ _ _ _ _ (pv 2) zg zf) ye) zf)) (@za _ _ _ _ _ (pv 3) (@za _ _ _ _ _ (zv (xA (fu:=fu) T) (hr.mono (by decide)) rfl T.f__law_operand.m T.f__law_operand.F.kp T.f__law_operand.b .nil zK (@za _ _ _ _ _ (pv 0) (@za _ _ _ _ _ (zL yw (pv 1) zj) (@za _ _ _ _ _ (pv 2) zg zf) ye) zf)) zg zZ) zf) zZ))))),yX (n:=3) (k:=1) (b:=Xr fu) rfl (zo (zC (zu UM (zy _) (zw (zb (ze 0) (zb (ze 1) (zb (zh _) (zb (zh _) zi)))))) zm) (zJ (zq (zb (zw (zb (ze 0) (zb (zu yx (ze 1) (zh _)) (zb (ze 2) zi)))) (zb (ze 3) (zb (zw (zb (ze 0) (zb (zu yx (ze 1) (zh _)) (zb (ze 2) zi)))) zi)))))) h⟩)
noncomputable def wY (fu:Nat):TwS:=(zF (sIf (bE (eOp xX (zD (zt fu) [(zk 0),(zk 1),(eC (.int 10141)),(eC (.int 3))]) (eC (.int 0)))) (yd (zH [(zD (yO fu) [(zk 0),(eOp xj (zk 1) (eC (.int 1))),(zk 2)])])) zY) (zF (zR (eOp zaX (eC (.str "+-*")) (zD (zt fu) [(zk 0),(zk 1),(eC (.int 10151)),(eC (.int 3))])) (gN 3)) (yd (zH [(zD (yO fu) [(zk 0),(eOp xj (zk 1) (eC (.int 1))),(zk 2)]),(zk 3),(zD (yO fu) [(zk 0),(eOp xj (zk 1) (eC (.int 2))),(zk 2)])]))))
noncomputable def wZ (fu:Nat):TwF:=yz 3 1 (wY fu)
theorem Vz (T:Tx K mg):yZ P w K mg base (CXE P w) 3 T.f__law_reckoning.a T.f__law_reckoning.fd ["_law_script","_law_k","_law_boxes_here"] (sTw K 3 (wZ fu)):=
 T.f__law_reckoning.F.okE Yc (fun vs H Q E h=>h.1) (fun cdv A outer s H vs Q E hr h=>⟨_,(@zl _ _ _ _ _ (yh (ya (yK (zv (zx (fu:=fu) T) (hr.mono (by decide)) rfl T.f__law_draw.m T.f__law_draw.F.kp T.f__law_draw.b .nil zK (@za _ _ _ _ _ (pv 0) (@za _ _ _ _ _ (pv 1) (@za _ _ _ _ _ zj (@za _ _ _ _ _ zj zg zc) zc) zf) zf)) zj)) (@zr _ _ _ (@zI _ _ _ _ (@zp _ _ _ _ _ (@za _ _ _ _ _ (zv (xA (fu:=fu) T) (hr.mono (by decide)) rfl T.f__law_operand.m T.f__law_operand.F.kp T.f__law_operand.b .nil zK (@za _ _ _ _ _ (pv 0) (@za _ _ _ _ _ (zL yw (pv 1) zj) (@za _ _ _ _ _ (pv 2) zg zf) ye) zf)) zg zZ)))) zM) (@zl _ _ _ _ _ (@zG _ _ 3 _ _ _ _ Yc.nd rfl (Or.inl rfl) (@yc _ _ _ _ _ _ _ UD zA (zv (zx (fu:=fu) T) (hr.mono (by decide)) rfl T.f__law_draw.m T.f__law_draw.F.kp T.f__law_draw.b .nil zK (@za _ _ _ _ _ (pv 0) (@za _ _ _ _ _ (pv 1) (@za _ _ _ _ _ zj (@za _ _ _ _ _ zj zg zc) zc) zf) zf)) (fun _ _=>rfl)) (by rfl) (by walk_at "q1")) (@zr _ _ _ (@zI _ _ _ _ (@zp _ _ _ _ _ (@za _ _ _ _ _ (zv (xA (fu:=fu) T) (hr.mono (by decide)) rfl T.f__law_operand.m T.f__law_operand.F.kp T.f__law_operand.b .nil zK (@za _ _ _ _ _ (pv 0) (@za _ _ _ _ _ (zL yw (pv 1) zj) (@za _ _ _ _ _ (pv 2) zg zf) ye) zf)) (@za _ _ _ _ _ (pv 3) (@za _ _ _ _ _ (zv (xA (fu:=fu) T) (hr.mono (by decide)) rfl T.f__law_operand.m T.f__law_operand.F.kp T.f__law_operand.b .nil zK (@za _ _ _ _ _ (pv 0) (@za _ _ _ _ _ (zL yw (pv 1) zj) (@za _ _ _ _ _ (pv 2) zg zf) ye) zf)) zg zZ) zf) zZ)))))),yX (n:=3) (k:=1) (b:=wY fu) rfl (zo (yi (yS (yL (zw (zb (ze 0) (zb (ze 1) (zb (zh _) (zb (zh _) zi))))) (zh _))) (zJ (zq (zb (zw (zb (ze 0) (zb (zu yx (ze 1) (zh _)) (zb (ze 2) zi)))) zi))) zN) (zo (zC (zu UM (zy _) (zw (zb (ze 0) (zb (ze 1) (zb (zh _) (zb (zh _) zi)))))) zm) (zJ (zq (zb (zw (zb (ze 0) (zb (zu yx (ze 1) (zh _)) (zb (ze 2) zi)))) (zb (ze 3) (zb (zw (zb (ze 0) (zb (zu yx (ze 1) (zh _)) (zb (ze 2) zi)))) zi))))))) h⟩)
noncomputable def vV (fu:Nat):TwS:=(zF (zR (xw [none,some 0,some 1] (iR1 (zk 2)) (gN 0) xy (zD (zt fu) [(zk 1),(eOp xj (zk 2) (zk 0)),(eC (.int 10159)),(eC (.int 4))])) (gN 3)) (zF (zR (zD (zt fu) [(zk 0),(zk 1),(eC (.int 10163)),(zk 2)]) (gN 4)) (zF (sIf (bE (eOp xX (eFn zcA [(zk 3)]) (eC (.int 0)))) (zR (eC (.int 1)) (VT (zk 3) (zk 4))) zY) (zF (sIf (bE (eOp xX (zD (zt fu) [(zk 0),(zk 1),(eC (.int 10169)),(eC (.int 6))]) (eC (.int 0)))) (zR (eOp TM (eOp UO (eC (.int 10)) (eC (.int 9))) (eC (.int 1))) (VT (zk 3) (zk 4))) zY) (yd (eFn xQ [(zk 3)]))))))
noncomputable def vW (fu:Nat):TwF:=yz 3 2 (vV fu)
theorem Us (T:Tx K mg):yZ P w K mg base (CXE P w) 2 T.f__law_weights.a T.f__law_weights.fd ["_law_script","_law_k","_law_size"] (sTw K 3 (vW fu)):=
 T.f__law_weights.F.okE vS (fun vs H Q E h=>h.1) (fun cdv A outer s H vs Q E hr h=>⟨_,(@zl _ _ _ _ _ (YO (i:=3) (N':=["_law_at","_law_script","_law_k"]) rfl (blk (osc:=zB wT) rfl (by decide+kernel)) (yV (Zf (i:=0) rfl rfl (Zf (i:=1) rfl rfl yU))) (xm rfl T.n_range (@za _ _ _ _ _ (pv 2) zg zf)) (yp rfl) (fun C s₀ H₀ fp=>zO (i:=0) (show (["_law_at","_law_script","_law_k"]:List Str).Nodup from by decide+kernel) rfl (Or.inl rfl)) (fun C s₀ H₀ fp=>xf) (fun C s₀ H₀ fp=>(zv (zx (fu:=fu) T) (hr.mono (by decide)) rfl T.f__law_draw.m T.f__law_draw.F.kp T.f__law_draw.b .nil WI (@za _ _ _ _ _ (pv 1) (@za _ _ _ _ _ (zL yw (pv 2) (pv 0)) (@za _ _ _ _ _ zj (@za _ _ _ _ _ zj zg zc) zc) ye) zf))) vS.nd rfl rfl) (@zl _ _ _ _ _ (@zG _ _ 4 _ _ _ _ vS.nd rfl (Or.inl rfl) (zv (zx (fu:=fu) T) (hr.mono (by decide)) rfl T.f__law_draw.m T.f__law_draw.F.kp T.f__law_draw.b .nil zK (@za _ _ _ _ _ (pv 0) (@za _ _ _ _ _ (pv 1) (@za _ _ _ _ _ zj (@za _ _ _ _ _ (pv 2) zg zf) zc) zf) zf)) (by rfl) (by walk_at "q1")) (@zl _ _ _ _ _ (yh (ya (yK (zQ (VP (K:=K) rfl) rfl T.n_sum PyProof.Rows.Boot.«sum» (@za _ _ _ _ _ (pv 3) zg zf)) zj)) (@zr _ _ _ (wq zj (zaK (pv 3) (pv 4) Vc))) zM) (@zl _ _ _ _ _ (yh (ya (yK (zv (zx (fu:=fu) T) (hr.mono (by decide)) rfl T.f__law_draw.m T.f__law_draw.F.kp T.f__law_draw.b .nil zK (@za _ _ _ _ _ (pv 0) (@za _ _ _ _ _ (pv 1) (@za _ _ _ _ _ zj (@za _ _ _ _ _ zj zg zc) zc) zf) zf)) zj)) (@zr _ _ _ (wq (zL XI (zL WP zj zj) zj) (zaK (pv 3) (pv 4) Vc))) zM) (@zr _ _ _ (@zI _ _ _ _ (yT (yG (K:=K)) rfl T.n_tuple boot_tuple (@za _ _ _ _ _ (pv 3) zg zf)))))))),yX (n:=3) (k:=2) (b:=vV fu) rfl (zo (YW (yW (cap:=[none,some 0,some 1]) (xo (ze 2)) zm xg (zw (zb (ze 1) (zb (zu yx (ze 2) (ze 0)) (zb (zh _) (zb (zh _) zi))))))) (zo (zC (zw (zb (ze 0) (zb (ze 1) (zb (zh _) (zb (ze 2) zi))))) zm) (zo (yi (yS (yL (yn zcB (zb (ze 3) zi)) (zh _))) (zC (zh _) (Vl (ze 3) (ze 4))) zN) (zo (yi (yS (yL (zw (zb (ze 0) (zb (ze 1) (zb (zh _) (zb (zh _) zi))))) (zh _))) (zC (zu XW (zu WU (zh _) (zh _)) (zh _)) (Vl (ze 3) (ze 4))) zN) (zJ (yn xx (zb (ze 3) zi))))))) h⟩)
noncomputable def Ys (fu:Nat):TwS:=(zF (zR (zD (zt fu) [(zk 0),(zk 1),(eC (.int 10177)),(eC (.int 8))]) (gN 3)) (zF (sIf (WQ (bE (eOp dLt (zk 3) (eC (.int 5)))) (bE (eOp dGt (eFn wL [(zk 2)]) (eC (.int 0))))) (zF (zR (eOp yD (zk 2) (zD (zt fu) [(zk 0),(zk 1),(eC (.int 10181)),(eFn wL [(zk 2)])])) (gT 2 (yH (gN 4) (yH (gN 5) vf)))) (zF (sIf (bE (eOp dLt (zk 3) (eC (.int 3)))) (yd (zH [(eC (.str "set")),(zk 4),(zD (wZ fu) [(zk 0),(zk 1),(zk 2)])])) zY) (yd (zH [(eC (.str "draw")),(zk 4),(zD (vW fu) [(zk 0),(zk 1),(zk 5)])])))) zY) (zF (sIf (bE (eOp xX (zk 3) (eC (.int 5)))) (yd (zH [(eC (.str "pass"))])) zY) (zF (sIf (bE (eOp xX (zk 3) (eC (.int 6)))) (yd (zH [(eC (.str "look")),(zD (wo fu) [(zk 0),(zk 1),(zk 2)])])) zY) (yd (zH [(eC (.str "gain")),(zD (yO fu) [(zk 0),(eOp xj (zk 1) (eC (.int 1))),(zk 2)])]))))))
noncomputable def wz (fu:Nat):TwF:=yz 3 3 (Ys fu)
theorem zac (T:Tx K mg):yZ P w K mg base (CXE P w) 4 T.f__law_plain.a T.f__law_plain.fd ["_law_script","_law_k","_law_boxes_here"] (sTw K 3 (wz fu)):=
 T.f__law_plain.F.okE vt (fun vs H Q E h=>h.1) (fun cdv A outer s H vs Q E hr h=>⟨_,(@zl _ _ _ _ _ (@zG _ _ 3 _ _ _ _ vt.nd rfl (Or.inl rfl) (zv (zx (fu:=fu) T) (hr.mono (by decide)) rfl T.f__law_draw.m T.f__law_draw.F.kp T.f__law_draw.b .nil zK (@za _ _ _ _ _ (pv 0) (@za _ _ _ _ _ (pv 1) (@za _ _ _ _ _ zj (@za _ _ _ _ _ zj zg zc) zc) zf) zf)) (by rfl) (by walk_at "q1")) (@zl _ _ _ _ _ (yh (PW.pt (XF (ya (WE (pv 3) zj)) (ZV (ya (XA (zQ (yv (K:=K)) rfl T.n_len boot_len (@za _ _ _ _ _ (pv 2) zg zf)) zj))))) (@zl _ _ _ _ _ (wq (@yc _ _ _ _ _ _ _ (zV (K:=K)) (pv 2) (zv (zx (fu:=fu) T) (hr.mono (by decide)) rfl T.f__law_draw.m T.f__law_draw.F.kp T.f__law_draw.b .nil zK (@za _ _ _ _ _ (pv 0) (@za _ _ _ _ _ (pv 1) (@za _ _ _ _ _ zj (@za _ _ _ _ _ (zQ (yv (K:=K)) rfl T.n_len boot_len (@za _ _ _ _ _ (pv 2) zg zf)) zg zZ) zc) zf) zf)) (fun _ _=>rfl)) (we (K:=K) (n:=2) rfl (yo (zO (i:=4) vt.nd rfl (Or.inl rfl)) (yo (zO (i:=5) vt.nd rfl (Or.inl rfl)) wd)))) (@zl _ _ _ _ _ (yh (ya (WE (pv 3) zj)) (@zr _ _ _ (@zI _ _ _ _ (@zp _ _ _ _ _ (@za _ _ _ _ _ zA (@za _ _ _ _ _ (pv 4) (@za _ _ _ _ _ (zv (Vz (fu:=fu) T) (hr.mono (by decide)) rfl T.f__law_reckoning.m T.f__law_reckoning.F.kp T.f__law_reckoning.b .nil zK (@za _ _ _ _ _ (pv 0) (@za _ _ _ _ _ (pv 1) (@za _ _ _ _ _ (pv 2) zg zf) zf) zf)) zg zZ) zf) zc)))) zM) (@zr _ _ _ (@zI _ _ _ _ (@zp _ _ _ _ _ (@za _ _ _ _ _ zA (@za _ _ _ _ _ (pv 4) (@za _ _ _ _ _ (zv (Us (fu:=fu) T) (hr.mono (by decide)) rfl T.f__law_weights.m T.f__law_weights.F.kp T.f__law_weights.b .nil zK (@za _ _ _ _ _ (pv 0) (@za _ _ _ _ _ (pv 1) (@za _ _ _ _ _ (pv 5) zg zf) zf) zf)) zg zZ) zf) zc)))))) zM) (@zl _ _ _ _ _ (yh (ya (yK (pv 3) zj)) (@zr _ _ _ (@zI _ _ _ _ (@zp _ _ _ _ _ (@za _ _ _ _ _ zA zg zc)))) zM) (@zl _ _ _ _ _ (yh (ya (yK (pv 3) zj)) (@zr _ _ _ (@zI _ _ _ _ (@zp _ _ _ _ _ (@za _ _ _ _ _ zA (@za _ _ _ _ _ (zv (Xs (fu:=fu) T) (hr.mono (by decide)) rfl T.f__law_test.m T.f__law_test.F.kp T.f__law_test.b .nil zK (@za _ _ _ _ _ (pv 0) (@za _ _ _ _ _ (pv 1) (@za _ _ _ _ _ (pv 2) zg zf) zf) zf)) zg zZ) zc)))) zM) (@zr _ _ _ (@zI _ _ _ _ (@zp _ _ _ _ _ (@za _ _ _ _ _ zA (@za _ _ _ _ _ (zv (xA (fu:=fu) T) (hr.mono (by decide)) rfl T.f__law_operand.m T.f__law_operand.F.kp T.f__law_operand.b .nil zK (@za _ _ _ _ _ (pv 0) (@za _ _ _ _ _ (zL yw (pv 1) zj) (@za _ _ _ _ _ (pv 2) zg zf) ye) zf)) zg zZ) zc)))))))),yX (n:=3) (k:=3) (b:=Ys fu) rfl (zo (zC (zw (zb (ze 0) (zb (ze 1) (zb (zh _) (zb (zh _) zi))))) zm) (zo (yi (XO (yS (WK (ze 3) (zh _))) (yS (XC (yn xz (zb (ze 2) zi)) (zh _)))) (zo (zC (zu yj (ze 2) (zw (zb (ze 0) (zb (ze 1) (zb (zh _) (zb (yn xz (zb (ze 2) zi)) zi)))))) (vm (yq zm (yq zm wj)))) (zo (yi (yS (WK (ze 3) (zh _))) (zJ (zq (zb (zy _) (zb (ze 4) (zb (zw (zb (ze 0) (zb (ze 1) (zb (ze 2) zi)))) zi))))) zN) (zJ (zq (zb (zy _) (zb (ze 4) (zb (zw (zb (ze 0) (zb (ze 1) (zb (ze 5) zi)))) zi))))))) zN) (zo (yi (yS (yL (ze 3) (zh _))) (zJ (zq (zb (zy _) zi))) zN) (zo (yi (yS (yL (ze 3) (zh _))) (zJ (zq (zb (zy _) (zb (zw (zb (ze 0) (zb (ze 1) (zb (ze 2) zi)))) zi)))) zN) (zJ (zq (zb (zy _) (zb (zw (zb (ze 0) (zb (zu yx (ze 1) (zh _)) (zb (ze 2) zi)))) zi)))))))) h⟩)
noncomputable def Zm (fu:Nat) (r__law_deed:TwF) (r__law_hand:TwF) (r__law_block:TwF):TwS:=(zF (zR (zD (zt fu) [(zk 0),(zk 1),(eC (.int 10187)),(eC (.int 11))]) (gN 5)) (zF (sIf (bOr (bE (eOp dGt (zk 5) (eC (.int 3)))) (bE (eOp xX (zk 3) (eC (.int 0))))) (yd (zH [(zD (wz fu) [(zk 0),(zk 1),(zk 2)]),(eOp xj (zk 1) (eC (.int 1)))])) zY) (zF (sIf (bE (eOp xX (zk 5) (eC (.int 3)))) (yd (zD r__law_hand [(zk 0),(zk 1),(zk 2),(zk 3),(zk 4)])) zY) (zF (zR (zD r__law_block [(zk 0),(eOp xj (zk 1) (eC (.int 1))),(zk 2),(eOp TM (zk 3) (eC (.int 1))),(zk 4)]) (gT 2 (yH (gN 6) (yH (gN 7) vf)))) (zF (sIf (bE (eOp xX (zk 5) (eC (.int 0)))) (yd (zH [(zH [(eC (.str "while")),(zD (wo fu) [(zk 0),(zk 1),(zk 2)]),(zk 6)]),(zk 7)])) zY) (zF (sIf (bE (eOp xX (zk 5) (eC (.int 1)))) (zF (zR (zD (zt fu) [(zk 0),(zk 1),(eC (.int 10193)),(eC (.int 4))]) (gN 8)) (zF (sIf (bE (eOp xX (zD (zt fu) [(zk 0),(zk 1),(eC (.int 10211)),(eC (.int 8))]) (eC (.int 0)))) (zR (zD (zt fu) [(zk 0),(zk 1),(eC (.int 10223)),(eC (.int 61))]) (gN 8)) zY) (yd (zH [(zH [(eC (.str "times")),(zk 8),(zk 6)]),(zk 7)])))) zY) (zF (zR (zD r__law_block [(zk 0),(zk 7),(zk 2),(eOp TM (zk 3) (eC (.int 1))),(zk 4)]) (gT 2 (yH (gN 9) (yH (gN 7) vf)))) (yd (zH [(zH [(eC (.str "if")),(zD (wo fu) [(zk 0),(zk 1),(zk 2)]),(zk 6),(zk 9)]),(zk 7)])))))))))
noncomputable def Zn (fu:Nat) (r__law_deed:TwF) (r__law_hand:TwF) (r__law_block:TwF):TwS:=(zF (zR (eOp xj (eC (.int 2)) (zD (zt fu) [(zk 0),(zk 1),(eC (.int 10193)),(eC (.int 3))])) (gN 5)) (zF (sIf (bE (eOp xX (zD (zt fu) [(zk 0),(zk 1),(eC (.int 10211)),(eC (.int 8))]) (eC (.int 0)))) (zR (eC (.int 8)) (gN 5)) zY) (zF (zR (wf []) (gN 6)) (zF (zR (eOp xj (zk 1) (eC (.int 1))) (gN 7)) (zF (Vj (iR1 (zk 5)) (gN 8) (zF (zR (zD r__law_block [(zk 0),(zk 7),(zk 2),(eOp TM (zk 3) (eC (.int 1))),(zk 4)]) (gT 2 (yH (gN 9) (yH (gN 7) vf)))) (XB (eMt wg (zk 6) [(zk 9)])))) (yd (zH [(zH [(eC (.str "hand")),(eFn xQ [(zk 6)])]),(zk 7)])))))))
noncomputable def vA (fu:Nat) (r__law_deed:TwF) (r__law_hand:TwF) (r__law_block:TwF):TwS:=(zF (zR (wf []) (gN 5)) (zF (zR (eOp dGt (zD (zt fu) [(zk 0),(zk 1),(eC (.int 10243)),(eC (.int 6))]) (eC (.int 0))) (gN 6)) (zF (sWh fu (WQ (bE (zk 6)) (bE (eOp dLt (zk 1) (zk 4)))) (zF (zR (eOp dGt (zD (zt fu) [(zk 0),(zk 1),(eC (.int 10247)),(eC (.int 3))]) (eC (.int 0))) (gN 6)) (zF (zR (zD r__law_deed [(zk 0),(zk 1),(zk 2),(zk 3),(zk 4)]) (gT 2 (yH (gN 7) (yH (gN 1) vf)))) (XB (eMt wg (zk 5) [(zk 7)]))))) (yd (zH [(eFn xQ [(zk 5)]),(zk 1)])))))
mutual
noncomputable def yf (fu:Nat):Nat→TwF
 |0=>fun _ _=>none
 |n+1=>yz 5 5 (Zm fu (yf fu n) (yy fu n) (ym fu n))
noncomputable def yy (fu:Nat):Nat→TwF
 |0=>fun _ _=>none
 |n+1=>yz 5 5 (Zn fu (yf fu n) (yy fu n) (ym fu n))
noncomputable def ym (fu:Nat):Nat→TwF
 |0=>fun _ _=>none
 |n+1=>yz 5 3 (vA fu (yf fu n) (yy fu n) (ym fu n))
end
theorem Yf (fu n:Nat):yf fu (n+1)=yz 5 5 (Zm fu (yf fu n) (yy fu n) (ym fu n)):=by rw [yf]
theorem VA (fu:Nat):yf fu 0=fun _ _=>none:=by rw [yf]
theorem Yg (fu n:Nat):yy fu (n+1)=yz 5 5 (Zn fu (yf fu n) (yy fu n) (ym fu n)):=by rw [yy]
theorem VB (fu:Nat):yy fu 0=fun _ _=>none:=by rw [yy]
theorem ZK (fu n:Nat):ym fu (n+1)=yz 5 3 (vA fu (yf fu n) (yy fu n) (ym fu n)):=by rw [ym]
theorem Va (fu:Nat):ym fu 0=fun _ _=>none:=by rw [ym]
theorem zad (T:Tx K mg):∀n:Nat,yZ P w K mg base (CXE P w) (4+n) T.f__law_deed.a T.f__law_deed.fd ["_law_script","_law_k","_law_boxes_here","_law_nested","_law_stop"] (sTw K 5 (yf fu n))∧yZ P w K mg base (CXE P w) (4+n) T.f__law_hand.a T.f__law_hand.fd ["_law_script","_law_k","_law_boxes_here","_law_nested","_law_stop"] (sTw K 5 (yy fu n))∧yZ P w K mg base (CXE P w) (4+n) T.f__law_block.a T.f__law_block.fd ["_law_script","_law_k","_law_boxes_here","_law_nested","_law_stop"] (sTw K 5 (ym fu n)):=by
 intro n
 induction n with
 |zero=>
  refine ⟨?_,?_,?_⟩
  ·rw [VA]
   exact ZZ
  ·rw [VB]
   exact ZZ
  ·rw [Va]
   exact ZZ
 |succ n ih=>
  refine ⟨?_,?_,?_⟩
  ·rw [Yf]
   exact T.f__law_deed.F.okE xE (fun vs H Q E h=>h.1) (fun cdv A outer s H vs Q E hr h=>⟨_,(@zl _ _ _ _ _ (@zG _ _ 5 _ _ _ _ xE.nd rfl (Or.inl rfl) (zv (zx (fu:=fu) T) (hr.mono (by (try simp only [Nat.add_eq]);omega)) rfl T.f__law_draw.m T.f__law_draw.F.kp T.f__law_draw.b .nil zK (@za _ _ _ _ _ (pv 0) (@za _ _ _ _ _ (pv 1) (@za _ _ _ _ _ zj (@za _ _ _ _ _ zj zg zc) zc) zf) zf)) (by rfl) (by walk_at "q1")) (@zl _ _ _ _ _ (yh (PW.pt (zbr (ya (XA (pv 5) zj)) (Uy (ya (yK (pv 3) zj))))) (@zr _ _ _ (@zI _ _ _ _ (@zp _ _ _ _ _ (@za _ _ _ _ _ (zv (zac (fu:=fu) T) (hr.mono (by (try simp only [Nat.add_eq]);omega)) rfl T.f__law_plain.m T.f__law_plain.F.kp T.f__law_plain.b .nil zK (@za _ _ _ _ _ (pv 0) (@za _ _ _ _ _ (pv 1) (@za _ _ _ _ _ (pv 2) zg zf) zf) zf)) (@za _ _ _ _ _ (zL yw (pv 1) zj) zg ye) zZ)))) zM) (@zl _ _ _ _ _ (yh (ya (yK (pv 5) zj)) (@zr _ _ _ (@zI _ _ _ _ (zv ih.2.1 (hr.mono (by (try simp only [Nat.add_eq]);omega)) rfl T.f__law_hand.m T.f__law_hand.F.kp T.f__law_hand.b .nil zK (@za _ _ _ _ _ (pv 0) (@za _ _ _ _ _ (pv 1) (@za _ _ _ _ _ (pv 2) (@za _ _ _ _ _ (pv 3) (@za _ _ _ _ _ (pv 4) zg zf) zf) zf) zf) zf)))) zM) (@zl _ _ _ _ _ (wq (zv ih.2.2 (hr.mono (by (try simp only [Nat.add_eq]);omega)) rfl T.f__law_block.m T.f__law_block.F.kp T.f__law_block.b .nil zK (@za _ _ _ _ _ (pv 0) (@za _ _ _ _ _ (zL yw (pv 1) zj) (@za _ _ _ _ _ (pv 2) (@za _ _ _ _ _ (zL XI (pv 3) zj) (@za _ _ _ _ _ (pv 4) zg zf) ye) zf) ye) zf)) (we (K:=K) (n:=2) rfl (yo (zO (i:=6) xE.nd rfl (Or.inl rfl)) (yo (zO (i:=7) xE.nd rfl (Or.inl rfl)) wd)))) (@zl _ _ _ _ _ (yh (ya (yK (pv 5) zj)) (@zr _ _ _ (@zI _ _ _ _ (@zp _ _ _ _ _ (@za _ _ _ _ _ (@zp _ _ _ _ _ (@za _ _ _ _ _ zA (@za _ _ _ _ _ (zv (Xs (fu:=fu) T) (hr.mono (by (try simp only [Nat.add_eq]);omega)) rfl T.f__law_test.m T.f__law_test.F.kp T.f__law_test.b .nil zK (@za _ _ _ _ _ (pv 0) (@za _ _ _ _ _ (pv 1) (@za _ _ _ _ _ (pv 2) zg zf) zf) zf)) (@za _ _ _ _ _ (pv 6) zg zf) zZ) zc)) (@za _ _ _ _ _ (pv 7) zg zf) zn)))) zM) (@zl _ _ _ _ _ (yh (ya (yK (pv 5) zj)) (@zl _ _ _ _ _ (@zG _ _ 8 _ _ _ _ xE.nd rfl (Or.inl rfl) (zv (zx (fu:=fu) T) (hr.mono (by (try simp only [Nat.add_eq]);omega)) rfl T.f__law_draw.m T.f__law_draw.F.kp T.f__law_draw.b .nil zK (@za _ _ _ _ _ (pv 0) (@za _ _ _ _ _ (pv 1) (@za _ _ _ _ _ zj (@za _ _ _ _ _ zj zg zc) zc) zf) zf)) (by rfl) (by walk_at "q1")) (@zl _ _ _ _ _ (yh (ya (yK (zv (zx (fu:=fu) T) (hr.mono (by (try simp only [Nat.add_eq]);omega)) rfl T.f__law_draw.m T.f__law_draw.F.kp T.f__law_draw.b .nil zK (@za _ _ _ _ _ (pv 0) (@za _ _ _ _ _ (pv 1) (@za _ _ _ _ _ zj (@za _ _ _ _ _ zj zg zc) zc) zf) zf)) zj)) (@zr _ _ _ (@zG _ _ 8 _ _ _ _ xE.nd rfl (Or.inl rfl) (zv (zx (fu:=fu) T) (hr.mono (by (try simp only [Nat.add_eq]);omega)) rfl T.f__law_draw.m T.f__law_draw.F.kp T.f__law_draw.b .nil zK (@za _ _ _ _ _ (pv 0) (@za _ _ _ _ _ (pv 1) (@za _ _ _ _ _ zj (@za _ _ _ _ _ zj zg zc) zc) zf) zf)) (by rfl) (by walk_at "q1"))) zM) (@zr _ _ _ (@zI _ _ _ _ (@zp _ _ _ _ _ (@za _ _ _ _ _ (@zp _ _ _ _ _ (@za _ _ _ _ _ zA (@za _ _ _ _ _ (pv 8) (@za _ _ _ _ _ (pv 6) zg zf) zf) zc)) (@za _ _ _ _ _ (pv 7) zg zf) zn)))))) zM) (@zl _ _ _ _ _ (wq (zv ih.2.2 (hr.mono (by (try simp only [Nat.add_eq]);omega)) rfl T.f__law_block.m T.f__law_block.F.kp T.f__law_block.b .nil zK (@za _ _ _ _ _ (pv 0) (@za _ _ _ _ _ (pv 7) (@za _ _ _ _ _ (pv 2) (@za _ _ _ _ _ (zL XI (pv 3) zj) (@za _ _ _ _ _ (pv 4) zg zf) ye) zf) zf) zf)) (we (K:=K) (n:=2) rfl (yo (zO (i:=9) xE.nd rfl (Or.inl rfl)) (yo (zO (i:=7) xE.nd rfl (Or.inl rfl)) wd)))) (@zr _ _ _ (@zI _ _ _ _ (@zp _ _ _ _ _ (@za _ _ _ _ _ (@zp _ _ _ _ _ (@za _ _ _ _ _ zA (@za _ _ _ _ _ (zv (Xs (fu:=fu) T) (hr.mono (by (try simp only [Nat.add_eq]);omega)) rfl T.f__law_test.m T.f__law_test.F.kp T.f__law_test.b .nil zK (@za _ _ _ _ _ (pv 0) (@za _ _ _ _ _ (pv 1) (@za _ _ _ _ _ (pv 2) zg zf) zf) zf)) (@za _ _ _ _ _ (pv 6) (@za _ _ _ _ _ (pv 9) zg zf) zf) zZ) zc)) (@za _ _ _ _ _ (pv 7) zg zf) zn))))))))))),yX (n:=5) (k:=5) (b:=Zm fu (yf fu n) (yy fu n) (ym fu n)) rfl (zo (zC (zw (zb (ze 0) (zb (ze 1) (zb (zh _) (zb (zh _) zi))))) zm) (zo (yi (zbK (yS (XC (ze 5) (zh _))) (yS (yL (ze 3) (zh _)))) (zJ (zq (zb (zw (zb (ze 0) (zb (ze 1) (zb (ze 2) zi)))) (zb (zu yx (ze 1) (zh _)) zi)))) zN) (zo (yi (yS (yL (ze 5) (zh _))) (zJ (zw (zb (ze 0) (zb (ze 1) (zb (ze 2) (zb (ze 3) (zb (ze 4) zi))))))) zN) (zo (zC (zw (zb (ze 0) (zb (zu yx (ze 1) (zh _)) (zb (ze 2) (zb (zu XW (ze 3) (zh _)) (zb (ze 4) zi)))))) (vm (yq zm (yq zm wj)))) (zo (yi (yS (yL (ze 5) (zh _))) (zJ (zq (zb (zq (zb (zy _) (zb (zw (zb (ze 0) (zb (ze 1) (zb (ze 2) zi)))) (zb (ze 6) zi)))) (zb (ze 7) zi)))) zN) (zo (yi (yS (yL (ze 5) (zh _))) (zo (zC (zw (zb (ze 0) (zb (ze 1) (zb (zh _) (zb (zh _) zi))))) zm) (zo (yi (yS (yL (zw (zb (ze 0) (zb (ze 1) (zb (zh _) (zb (zh _) zi))))) (zh _))) (zC (zw (zb (ze 0) (zb (ze 1) (zb (zh _) (zb (zh _) zi))))) zm) zN) (zJ (zq (zb (zq (zb (zy _) (zb (ze 8) (zb (ze 6) zi)))) (zb (ze 7) zi)))))) zN) (zo (zC (zw (zb (ze 0) (zb (ze 7) (zb (ze 2) (zb (zu XW (ze 3) (zh _)) (zb (ze 4) zi)))))) (vm (yq zm (yq zm wj)))) (zJ (zq (zb (zq (zb (zy _) (zb (zw (zb (ze 0) (zb (ze 1) (zb (ze 2) zi)))) (zb (ze 6) (zb (ze 9) zi))))) (zb (ze 7) zi))))))))))) h⟩)
  ·rw [Yg]
   exact T.f__law_hand.F.okE xF (fun vs H Q E h=>h.1) (fun cdv A outer s H vs Q E hr h=>⟨_,(@zl _ _ _ _ _ (@zG _ _ 5 _ _ _ _ xF.nd rfl (Or.inl rfl) (zL yw zj (zv (zx (fu:=fu) T) (hr.mono (by (try simp only [Nat.add_eq]);omega)) rfl T.f__law_draw.m T.f__law_draw.F.kp T.f__law_draw.b .nil zK (@za _ _ _ _ _ (pv 0) (@za _ _ _ _ _ (pv 1) (@za _ _ _ _ _ zj (@za _ _ _ _ _ zj zg zc) zc) zf) zf))) (by rfl) (by walk_at "q1")) (@zl _ _ _ _ _ (yh (ya (yK (zv (zx (fu:=fu) T) (hr.mono (by (try simp only [Nat.add_eq]);omega)) rfl T.f__law_draw.m T.f__law_draw.F.kp T.f__law_draw.b .nil zK (@za _ _ _ _ _ (pv 0) (@za _ _ _ _ _ (pv 1) (@za _ _ _ _ _ zj (@za _ _ _ _ _ zj zg zc) zc) zf) zf)) zj)) (@zr _ _ _ (@zG _ _ 5 _ _ _ _ xF.nd rfl (Or.inl rfl) zj (by rfl) (by walk_at "q1"))) zM) (@zl _ _ _ _ _ (@zG _ _ 6 _ _ _ _ xF.nd rfl (Or.inl rfl) (@xb _ _ _ _ zg) (by rfl) (by walk_at "q1")) (@zl _ _ _ _ _ (@zG _ _ 7 _ _ _ _ xF.nd rfl (Or.inl rfl) (zL yw (pv 1) zj) (by rfl) (by walk_at "q1")) (@zl _ _ _ _ _ (YM PassesOwn.leaving rfl (xm rfl T.n_range (@za _ _ _ _ _ (pv 5) zg zf)) (zO (i:=8) xF.nd rfl (Or.inl rfl)) (@zl _ _ _ _ _ (wq (zv ih.2.2 (hr.mono (by (try simp only [Nat.add_eq]);omega)) rfl T.f__law_block.m T.f__law_block.F.kp T.f__law_block.b .nil zK (@za _ _ _ _ _ (pv 0) (@za _ _ _ _ _ (pv 7) (@za _ _ _ _ _ (pv 2) (@za _ _ _ _ _ (zL XI (pv 3) zj) (@za _ _ _ _ _ (pv 4) zg zf) ye) zf) zf) zf)) (we (K:=K) (n:=2) rfl (yo (zO (i:=9) xF.nd rfl (Or.inl rfl)) (yo (zO (i:=7) xF.nd rfl (Or.inl rfl)) wd)))) (@zr _ _ _ (YK (UE PySem.F.plainAttrs_list PySem.F.slot_list_append PySem.F.type_list_append vj (pv 6) (@za _ _ _ _ _ (pv 9) zg zf)))))) (@zr _ _ _ (@zI _ _ _ _ (@zp _ _ _ _ _ (@za _ _ _ _ _ (@zp _ _ _ _ _ (@za _ _ _ _ _ zA (@za _ _ _ _ _ (yT (yG (K:=K)) rfl T.n_tuple boot_tuple (@za _ _ _ _ _ (pv 6) zg zf)) zg zZ) zc)) (@za _ _ _ _ _ (pv 7) zg zf) zn))))))))),yX (n:=5) (k:=5) (b:=Zn fu (yf fu n) (yy fu n) (ym fu n)) rfl (zo (zC (zu yx (zh _) (zw (zb (ze 0) (zb (ze 1) (zb (zh _) (zb (zh _) zi)))))) zm) (zo (yi (yS (yL (zw (zb (ze 0) (zb (ze 1) (zb (zh _) (zb (zh _) zi))))) (zh _))) (zC (zh _) zm) zN) (zo (zC (xc zi) zm) (zo (zC (zu yx (ze 1) (zh _)) zm) (zo (YV (xo (ze 5)) zm (zo (zC (zw (zb (ze 0) (zb (ze 7) (zb (ze 2) (zb (zu XW (ze 3) (zh _)) (zb (ze 4) zi)))))) (vm (yq zm (yq zm wj)))) (YU (Ug Zp (ze 6) (zb (ze 9) zi))))) (zJ (zq (zb (zq (zb (zy _) (zb (yn xx (zb (ze 6) zi)) zi))) (zb (ze 7) zi))))))))) h⟩)
  ·rw [ZK]
   exact T.f__law_block.F.okE xV (fun vs H Q E h=>h.1) (fun cdv A outer s H vs Q E hr h=>⟨_,(@zl _ _ _ _ _ (@zG _ _ 5 _ _ _ _ xV.nd rfl (Or.inl rfl) (@xb _ _ _ _ zg) (by rfl) (by walk_at "q1")) (@zl _ _ _ _ _ (@zG _ _ 6 _ _ _ _ xV.nd rfl (Or.inl rfl) (YI (XA (zv (zx (fu:=fu) T) (hr.mono (by (try simp only [Nat.add_eq]);omega)) rfl T.f__law_draw.m T.f__law_draw.F.kp T.f__law_draw.b .nil zK (@za _ _ _ _ _ (pv 0) (@za _ _ _ _ _ (pv 1) (@za _ _ _ _ _ zj (@za _ _ _ _ _ zj zg zc) zc) zf) zf)) zj)) (by rfl) (by walk_at "q1")) (@zl _ _ _ _ _ (XH PassesOwn.leaving (PW.pt (XF (YJ (pv 6)) (ZV (ya (WE (pv 1) (pv 4)))))) (@zl _ _ _ _ _ (@zG _ _ 6 _ _ _ _ xV.nd rfl (Or.inl rfl) (YI (XA (zv (zx (fu:=fu) T) (hr.mono (by (try simp only [Nat.add_eq]);omega)) rfl T.f__law_draw.m T.f__law_draw.F.kp T.f__law_draw.b .nil zK (@za _ _ _ _ _ (pv 0) (@za _ _ _ _ _ (pv 1) (@za _ _ _ _ _ zj (@za _ _ _ _ _ zj zg zc) zc) zf) zf)) zj)) (by rfl) (by walk_at "q1")) (@zl _ _ _ _ _ (wq (zv ih.1 (hr.mono (by (try simp only [Nat.add_eq]);omega)) rfl T.f__law_deed.m T.f__law_deed.F.kp T.f__law_deed.b .nil zK (@za _ _ _ _ _ (pv 0) (@za _ _ _ _ _ (pv 1) (@za _ _ _ _ _ (pv 2) (@za _ _ _ _ _ (pv 3) (@za _ _ _ _ _ (pv 4) zg zf) zf) zf) zf) zf)) (we (K:=K) (n:=2) rfl (yo (zO (i:=7) xV.nd rfl (Or.inl rfl)) (yo (zO (i:=1) xV.nd rfl (Or.inl rfl)) wd)))) (@zr _ _ _ (YK (UE PySem.F.plainAttrs_list PySem.F.slot_list_append PySem.F.type_list_append vj (pv 5) (@za _ _ _ _ _ (pv 7) zg zf))))))) (@zr _ _ _ (@zI _ _ _ _ (@zp _ _ _ _ _ (@za _ _ _ _ _ (yT (yG (K:=K)) rfl T.n_tuple boot_tuple (@za _ _ _ _ _ (pv 5) zg zf)) (@za _ _ _ _ _ (pv 1) zg zf) zZ))))))),yX (n:=5) (k:=3) (b:=vA fu (yf fu n) (yy fu n) (ym fu n)) rfl (zo (zC (xc zi) zm) (zo (zC (XC (zw (zb (ze 0) (zb (ze 1) (zb (zh _) (zb (zh _) zi))))) (zh _)) zm) (zo (XU (XO (yS (ze 6)) (yS (WK (ze 1) (ze 4)))) (zo (zC (XC (zw (zb (ze 0) (zb (ze 1) (zb (zh _) (zb (zh _) zi))))) (zh _)) zm) (zo (zC (zw (zb (ze 0) (zb (ze 1) (zb (ze 2) (zb (ze 3) (zb (ze 4) zi)))))) (vm (yq zm (yq zm wj)))) (YU (Ug Zp (ze 5) (zb (ze 7) zi)))))) (zJ (zq (zb (yn xx (zb (ze 5) zi)) (zb (ze 1) zi))))))) h⟩)
theorem zbf (T:Tx K mg) (n:Nat):yZ P w K mg base (CXE P w) (4+n) T.f__law_deed.a T.f__law_deed.fd ["_law_script","_law_k","_law_boxes_here","_law_nested","_law_stop"] (sTw K 5 (yf fu n)):=(zad T n).1
noncomputable def Wo (fu:Nat):TwS:=(zF (zR (wf []) (gN 4)) (zF (zR (eC (.int 0)) (gN 5)) (zF (sWh fu (bE (eOp dLt (zk 5) (zk 3))) (zF (zR (zD (yf fu 20) [(zk 0),(zk 5),(zk 1),(zk 2),(zk 3)]) (gT 2 (yH (gN 6) (yH (gN 5) vf)))) (XB (eMt wg (zk 4) [(zk 6)])))) (yd (zk 4)))))
noncomputable def Wp (fu:Nat):TwF:=yz 4 3 (Wo fu)
theorem zb4 (T:Tx K mg):yZ P w K mg base (CXE P w) 25 T.f__law_top.a T.f__law_top.fd ["_law_script","_law_boxes_here","_law_nested","_law_stop"] (sTw K 4 (Wp fu)):=
 T.f__law_top.F.okE vI (fun vs H Q E h=>h.1) (fun cdv A outer s H vs Q E hr h=>⟨_,(@zl _ _ _ _ _ (@zG _ _ 4 _ _ _ _ vI.nd rfl (Or.inl rfl) (@xb _ _ _ _ zg) (by rfl) (by walk_at "q1")) (@zl _ _ _ _ _ (@zG _ _ 5 _ _ _ _ vI.nd rfl (Or.inl rfl) zj (by rfl) (by walk_at "q1")) (@zl _ _ _ _ _ (XH PassesOwn.leaving (ya (WE (pv 5) (pv 3))) (@zl _ _ _ _ _ (wq (zv (zbf (fu:=fu) T 20) (hr.mono (by decide)) rfl T.f__law_deed.m T.f__law_deed.F.kp T.f__law_deed.b .nil zK (@za _ _ _ _ _ (pv 0) (@za _ _ _ _ _ (pv 5) (@za _ _ _ _ _ (pv 1) (@za _ _ _ _ _ (pv 2) (@za _ _ _ _ _ (pv 3) zg zf) zf) zf) zf) zf)) (we (K:=K) (n:=2) rfl (yo (zO (i:=6) vI.nd rfl (Or.inl rfl)) (yo (zO (i:=5) vI.nd rfl (Or.inl rfl)) wd)))) (@zr _ _ _ (YK (UE PySem.F.plainAttrs_list PySem.F.slot_list_append PySem.F.type_list_append vj (pv 4) (@za _ _ _ _ _ (pv 6) zg zf)))))) (@zr _ _ _ (@zI _ _ _ _ (pv 4)))))),yX (n:=4) (k:=3) (b:=Wo fu) rfl (zo (zC (xc zi) zm) (zo (zC (zh _) zm) (zo (XU (yS (WK (ze 5) (ze 3))) (zo (zC (zw (zb (ze 0) (zb (ze 5) (zb (ze 1) (zb (ze 2) (zb (ze 3) zi)))))) (vm (yq zm (yq zm wj)))) (YU (Ug Zp (ze 4) (zb (ze 6) zi))))) (zJ (ze 4))))) h⟩)
noncomputable def Yt (fu:Nat):TwS:=(zF (sIf (bE (eOp (xN false) (eOp yD (zk 0) (eC (.int 0))) (eC (.str "if")))) (yd (wf [(eOp yD (zk 0) (eC (.int 2))),(eOp yD (zk 0) (eC (.int 3)))])) zY) (zF (sIf (bOr (bE (eOp (xN false) (eOp yD (zk 0) (eC (.int 0))) (eC (.str "while")))) (bE (eOp (xN false) (eOp yD (zk 0) (eC (.int 0))) (eC (.str "times"))))) (yd (wf [(eOp yD (zk 0) (eC (.int 2)))])) zY) (zF (sIf (bE (eOp (xN false) (eOp yD (zk 0) (eC (.int 0))) (eC (.str "hand")))) (yd (eFn zdk [(eOp yD (zk 0) (eC (.int 1)))])) zY) (yd (wf [])))))
noncomputable def vB (fu:Nat):TwF:=yz 1 0 (Yt fu)
theorem zae (T:Tx K mg):yZ P w K mg base (CXE P w) 1 T.f__law_inner.a T.f__law_inner.fd ["_law_deed_here"] (sTw K 1 (vB fu)):=
 T.f__law_inner.F.okE TY (fun vs H Q E h=>h.1) (fun cdv A outer s H vs Q E hr h=>⟨_,(@zl _ _ _ _ _ (yh (xn Za (@yc _ _ _ _ _ _ _ (zV (K:=K)) (pv 0) zj (fun _ _=>rfl)) zA (by rfl)) (@zr _ _ _ (@zI _ _ _ _ (@xb _ _ _ _ (@za _ _ _ _ _ (@yc _ _ _ _ _ _ _ (zV (K:=K)) (pv 0) zj (fun _ _=>rfl)) (@za _ _ _ _ _ (@yc _ _ _ _ _ _ _ (zV (K:=K)) (pv 0) zj (fun _ _=>rfl)) zg yk) yk)))) zM) (@zl _ _ _ _ _ (yh (PW.pt (zbr (xn Za (@yc _ _ _ _ _ _ _ (zV (K:=K)) (pv 0) zj (fun _ _=>rfl)) zA (by rfl)) (Uy (xn Za (@yc _ _ _ _ _ _ _ (zV (K:=K)) (pv 0) zj (fun _ _=>rfl)) zA (by rfl))))) (@zr _ _ _ (@zI _ _ _ _ (@xb _ _ _ _ (@za _ _ _ _ _ (@yc _ _ _ _ _ _ _ (zV (K:=K)) (pv 0) zj (fun _ _=>rfl)) zg yk)))) zM) (@zl _ _ _ _ _ (yh (xn Za (@yc _ _ _ _ _ _ _ (zV (K:=K)) (pv 0) zj (fun _ _=>rfl)) zA (by rfl)) (@zr _ _ _ (@zI _ _ _ _ (yT (zct (K:=K)) rfl T.n_list boot_list (@za _ _ _ _ _ (@yc _ _ _ _ _ _ _ (zV (K:=K)) (pv 0) zj (fun _ _=>rfl)) zg yk)))) zM) (@zr _ _ _ (@zI _ _ _ _ (@xb _ _ _ _ zg)))))),yX (n:=1) (k:=0) (b:=Yt fu) rfl (zo (yi (xi (zu ww (zu yj (ze 0) (zh _)) (zy _))) (zJ (xc (zb (zu yj (ze 0) (zh _)) (zb (zu yj (ze 0) (zh _)) zi)))) zN) (zo (yi (zbK (xi (zu ww (zu yj (ze 0) (zh _)) (zy _))) (xi (zu ww (zu yj (ze 0) (zh _)) (zy _)))) (zJ (xc (zb (zu yj (ze 0) (zh _)) zi))) zN) (zo (yi (xi (zu ww (zu yj (ze 0) (zh _)) (zy _))) (zJ (yn zgd (zb (zu yj (ze 0) (zh _)) zi))) zN) (zJ (xc zi))))) h⟩)
noncomputable def ZL (fu:Nat):TwS:=(zF (zR (eC (.int 0)) (gN 1)) (zF (zR (wf [(zH [(zk 0),(eC (.int 1))])]) (gN 2)) (zF (sWh fu (bE (eOp dGt (eFn wL [(zk 2)]) (eC (.int 0)))) (zF (zR (eMt zd3 (zk 2) []) (gT 2 (yH (gN 3) (yH (gN 4) vf)))) (Vj (iA (zk 3)) (gN 5) (zF (zR (eOp xj (zk 1) (zk 4)) (gN 1)) (zF (zR (zk 4) (gN 6)) (zF (sIf (bE (eOp (xN false) (eOp yD (zk 5) (eC (.int 0))) (eC (.str "times")))) (zF (zR (eOp YA (zk 4) (eFn TQ [(eC (.int 1)),(eOp yD (zk 5) (eC (.int 1)))])) (gN 6)) (zR (eOp xj (zk 1) (zk 6)) (gN 1))) zY) (Vj (iL (zD (vB fu) [(zk 5)])) (gN 7) (XB (eMt wg (zk 2) [(zH [(zk 7),(zk 6)])]))))))))) (yd (zk 1)))))
noncomputable def xl (fu:Nat):TwF:=yz 1 7 (ZL fu)
theorem ZM (T:Tx K mg):yZ P w K mg base (CXE P w) 2 T.f__law_length.a T.f__law_length.fd ["_law_block_here"] (sTw K 1 (xl fu)):=
 T.f__law_length.F.okE yI (fun vs H Q E h=>h.1) (fun cdv A outer s H vs Q E hr h=>⟨_,(@zl _ _ _ _ _ (@zG _ _ 1 _ _ _ _ yI.nd rfl (Or.inl rfl) zj (by rfl) (by walk_at "q1")) (@zl _ _ _ _ _ (@zG _ _ 2 _ _ _ _ yI.nd rfl (Or.inl rfl) (@xb _ _ _ _ (@za _ _ _ _ _ (@zp _ _ _ _ _ (@za _ _ _ _ _ (pv 0) (@za _ _ _ _ _ zj zg zc) zf)) zg zn)) (by rfl) (by walk_at "q1")) (@zl _ _ _ _ _ (XH PassesOwn.leaving (ya (XA (zQ (yv (K:=K)) rfl T.n_len boot_len (@za _ _ _ _ _ (pv 2) zg zf)) zj)) (@zl _ _ _ _ _ (wq (zhI PySem.F.plainAttrs_list PySem.F.slot_list_pop PySem.F.type_list_pop zhJ (pv 2)) (we (K:=K) (n:=2) rfl (yo (zO (i:=3) yI.nd rfl (Or.inl rfl)) (yo (zO (i:=4) yI.nd rfl (Or.inl rfl)) wd)))) (@zr _ _ _ (YM PassesOwn.leaving rfl (zgz (K:=K) (pv 3)) (zO (i:=5) yI.nd rfl (Or.inl rfl)) (@zl _ _ _ _ _ (@zG _ _ 1 _ _ _ _ yI.nd rfl (Or.inl rfl) (zL yw (pv 1) (pv 4)) (by rfl) (by walk_at "q1")) (@zl _ _ _ _ _ (@zG _ _ 6 _ _ _ _ yI.nd rfl (Or.inl rfl) (pv 4) (by rfl) (by walk_at "q1")) (@zl _ _ _ _ _ (yh (xn Za (@yc _ _ _ _ _ _ _ (zV (K:=K)) (pv 5) zj (fun _ _=>rfl)) zA (by rfl)) (@zl _ _ _ _ _ (@zG _ _ 6 _ _ _ _ yI.nd rfl (Or.inl rfl) (zL YR (pv 4) (zQ (Yx rfl) rfl T.n_max boot_max (@za _ _ _ _ _ zj (@za _ _ _ _ _ (@yc _ _ _ _ _ _ _ (zV (K:=K)) (pv 5) zj (fun _ _=>rfl)) zg yk) zc))) (by rfl) (by walk_at "q1")) (@zr _ _ _ (@zG _ _ 1 _ _ _ _ yI.nd rfl (Or.inl rfl) (zL yw (pv 1) (pv 6)) (by rfl) (by walk_at "q1")))) zM) (@zr _ _ _ (YM PassesOwn.leaving rfl (UL (K:=K) (zv (zae (fu:=fu) T) (hr.mono (by decide)) rfl T.f__law_inner.m T.f__law_inner.F.kp T.f__law_inner.b .nil zK (@za _ _ _ _ _ (pv 5) zg zf))) (zO (i:=7) yI.nd rfl (Or.inl rfl)) (@zr _ _ _ (YK (UE PySem.F.plainAttrs_list PySem.F.slot_list_append PySem.F.type_list_append vj (pv 2) (@za _ _ _ _ _ (@zp _ _ _ _ _ (@za _ _ _ _ _ (pv 7) (@za _ _ _ _ _ (pv 6) zg zf) zf)) zg zn))))))))))))) (@zr _ _ _ (@zI _ _ _ _ (pv 1)))))),yX (n:=1) (k:=7) (b:=ZL fu) rfl (zo (zC (zh _) zm) (zo (zC (xc (zb (zq (zb (ze 0) (zb (zh _) zi))) zi)) zm) (zo (XU (yS (XC (yn xz (zb (ze 2) zi)) (zh _))) (zo (zC (zhS zhT (ze 2)) (vm (yq zm (yq zm wj)))) (YV (zgA (ze 3)) zm (zo (zC (zu yx (ze 1) (ze 4)) zm) (zo (zC (ze 4) zm) (zo (yi (xi (zu ww (zu yj (ze 5) (zh _)) (zy _))) (zo (zC (zu YX (ze 4) (yn UQ (zb (zh _) (zb (zu yj (ze 5) (zh _)) zi)))) zm) (zC (zu yx (ze 1) (ze 6)) zm)) zN) (YV (zaY (zw (zb (ze 5) zi))) zm (YU (Ug Zp (ze 2) (zb (zq (zb (ze 7) (zb (ze 6) zi))) zi)))))))))) (zJ (ze 1))))) h⟩)
noncomputable def vX (fu:Nat):TwS:=(zF (Vj (iR1 (zk 2)) (gN 3) (zF (zR (zD (zt fu) [(zk 0),(eOp xj (eC (.int 40)) (zk 3)),(eC (.int 10253)),(eC (.int 6))]) (gN 4)) (sIf (bE (eOp xX (zk 4) (eC (.int 0)))) (zR (zH [(eC (.str "if")),(zH [(eC (.int 0)),(eC (.str "=")),(eC (.int 0))]),(zH [(zk 1)]),(zH [])]) (gN 1)) (sIf (bE (eOp xX (zk 4) (eC (.int 1)))) (zR (zH [(eC (.str "if")),(zH [(eC (.int 1)),(eC (.str "<")),(eC (.int 0))]),(zH []),(zH [(zH [(eC (.str "pass"))]),(zk 1)])]) (gN 1)) (sIf (bE (eOp xX (zk 4) (eC (.int 2)))) (zR (zH [(eC (.str "while")),(zH [(eC (.int 0)),(eC (.str "#")),(eC (.int 0))]),(zH [(zk 1)])]) (gN 1)) (sIf (bE (eOp xX (zk 4) (eC (.int 3)))) (zR (zH [(eC (.str "times")),(eC (.int 1)),(zH [(zk 1)])]) (gN 1)) (sIf (bE (eOp xX (zk 4) (eC (.int 4)))) (zR (zH [(eC (.str "times")),(eC (.int 0)),(zH [(zk 1)])]) (gN 1)) (zR (zH [(eC (.str "hand")),(zH [(zH []),(zH [(zk 1)])])]) (gN 1))))))))) (yd (zk 1)))
noncomputable def xU (fu:Nat):TwF:=yz 3 2 (vX fu)
theorem vY (T:Tx K mg):yZ P w K mg base (CXE P w) 2 T.f__law_wrapped.a T.f__law_wrapped.fd ["_law_script","_law_deed_here","_law_many"] (sTw K 3 (xU fu)):=
 T.f__law_wrapped.F.okE yN (fun vs H Q E h=>h.1) (fun cdv A outer s H vs Q E hr h=>⟨_,(@zl _ _ _ _ _ (YM PassesOwn.leaving rfl (xm rfl T.n_range (@za _ _ _ _ _ (pv 2) zg zf)) (zO (i:=3) yN.nd rfl (Or.inl rfl)) (@zl _ _ _ _ _ (@zG _ _ 4 _ _ _ _ yN.nd rfl (Or.inl rfl) (zv (zx (fu:=fu) T) (hr.mono (by decide)) rfl T.f__law_draw.m T.f__law_draw.F.kp T.f__law_draw.b .nil zK (@za _ _ _ _ _ (pv 0) (@za _ _ _ _ _ (zL yw zj (pv 3)) (@za _ _ _ _ _ zj (@za _ _ _ _ _ zj zg zc) zc) ye) zf)) (by rfl) (by walk_at "q1")) (@zr _ _ _ (yh (ya (yK (pv 4) zj)) (@zr _ _ _ (@zG _ _ 1 _ _ _ _ yN.nd rfl (Or.inl rfl) (@zp _ _ _ _ _ (@za _ _ _ _ _ zA (@za _ _ _ _ _ (@zp _ _ _ _ _ (@za _ _ _ _ _ zj (@za _ _ _ _ _ zA (@za _ _ _ _ _ zj zg zc) zc) zc)) (@za _ _ _ _ _ (@zp _ _ _ _ _ (@za _ _ _ _ _ (pv 1) zg zf)) (@za _ _ _ _ _ (@zp _ _ _ _ _ zg) zg zn) zn) zn) zc)) (by rfl) (by walk_at "q1"))) (@zr _ _ _ (yh (ya (yK (pv 4) zj)) (@zr _ _ _ (@zG _ _ 1 _ _ _ _ yN.nd rfl (Or.inl rfl) (@zp _ _ _ _ _ (@za _ _ _ _ _ zA (@za _ _ _ _ _ (@zp _ _ _ _ _ (@za _ _ _ _ _ zj (@za _ _ _ _ _ zA (@za _ _ _ _ _ zj zg zc) zc) zc)) (@za _ _ _ _ _ (@zp _ _ _ _ _ zg) (@za _ _ _ _ _ (@zp _ _ _ _ _ (@za _ _ _ _ _ (@zp _ _ _ _ _ (@za _ _ _ _ _ zA zg zc)) (@za _ _ _ _ _ (pv 1) zg zf) zn)) zg zn) zn) zn) zc)) (by rfl) (by walk_at "q1"))) (@zr _ _ _ (yh (ya (yK (pv 4) zj)) (@zr _ _ _ (@zG _ _ 1 _ _ _ _ yN.nd rfl (Or.inl rfl) (@zp _ _ _ _ _ (@za _ _ _ _ _ zA (@za _ _ _ _ _ (@zp _ _ _ _ _ (@za _ _ _ _ _ zj (@za _ _ _ _ _ zA (@za _ _ _ _ _ zj zg zc) zc) zc)) (@za _ _ _ _ _ (@zp _ _ _ _ _ (@za _ _ _ _ _ (pv 1) zg zf)) zg zn) zn) zc)) (by rfl) (by walk_at "q1"))) (@zr _ _ _ (yh (ya (yK (pv 4) zj)) (@zr _ _ _ (@zG _ _ 1 _ _ _ _ yN.nd rfl (Or.inl rfl) (@zp _ _ _ _ _ (@za _ _ _ _ _ zA (@za _ _ _ _ _ zj (@za _ _ _ _ _ (@zp _ _ _ _ _ (@za _ _ _ _ _ (pv 1) zg zf)) zg zn) zc) zc)) (by rfl) (by walk_at "q1"))) (@zr _ _ _ (yh (ya (yK (pv 4) zj)) (@zr _ _ _ (@zG _ _ 1 _ _ _ _ yN.nd rfl (Or.inl rfl) (@zp _ _ _ _ _ (@za _ _ _ _ _ zA (@za _ _ _ _ _ zj (@za _ _ _ _ _ (@zp _ _ _ _ _ (@za _ _ _ _ _ (pv 1) zg zf)) zg zn) zc) zc)) (by rfl) (by walk_at "q1"))) (@zr _ _ _ (@zG _ _ 1 _ _ _ _ yN.nd rfl (Or.inl rfl) (@zp _ _ _ _ _ (@za _ _ _ _ _ zA (@za _ _ _ _ _ (@zp _ _ _ _ _ (@za _ _ _ _ _ (@zp _ _ _ _ _ zg) (@za _ _ _ _ _ (@zp _ _ _ _ _ (@za _ _ _ _ _ (pv 1) zg zf)) zg zn) zn)) zg zn) zc)) (by rfl) (by walk_at "q1"))))))))))))))) (@zr _ _ _ (@zI _ _ _ _ (pv 1)))),yX (n:=3) (k:=2) (b:=vX fu) rfl (zo (YV (xo (ze 2)) zm (zo (zC (zw (zb (ze 0) (zb (zu yx (zh _) (ze 3)) (zb (zh _) (zb (zh _) zi))))) zm) (yi (yS (yL (ze 4) (zh _))) (zC (zq (zb (zy _) (zb (zq (zb (zh _) (zb (zy _) (zb (zh _) zi)))) (zb (zq (zb (ze 1) zi)) (zb (zq zi) zi))))) zm) (yi (yS (yL (ze 4) (zh _))) (zC (zq (zb (zy _) (zb (zq (zb (zh _) (zb (zy _) (zb (zh _) zi)))) (zb (zq zi) (zb (zq (zb (zq (zb (zy _) zi)) (zb (ze 1) zi))) zi))))) zm) (yi (yS (yL (ze 4) (zh _))) (zC (zq (zb (zy _) (zb (zq (zb (zh _) (zb (zy _) (zb (zh _) zi)))) (zb (zq (zb (ze 1) zi)) zi)))) zm) (yi (yS (yL (ze 4) (zh _))) (zC (zq (zb (zy _) (zb (zh _) (zb (zq (zb (ze 1) zi)) zi)))) zm) (yi (yS (yL (ze 4) (zh _))) (zC (zq (zb (zy _) (zb (zh _) (zb (zq (zb (ze 1) zi)) zi)))) zm) (zC (zq (zb (zy _) (zb (zq (zb (zq zi) (zb (zq (zb (ze 1) zi)) zi))) zi))) zm)))))))) (zJ (ze 1))) h⟩)
noncomputable def Xt (fu:Nat):TwS:=(zF (zR (xw [none] (iT (zk 0)) (gN 0) xy (eOp yD (zk 0) (eC (.int 0)))) (gN 1)) (yd (eOp Yi (xw [none,some 1] (iS (eC (.str "abcdefghij"))) (gN 0) (bE (eOp (dIn true) (zk 0) (zk 1))) (zk 0)) (eC (.int 0)))))
noncomputable def va (fu:Nat):TwF:=yz 1 1 (Xt fu)
theorem Xu (T:Tx K mg):yZ P w K mg base (CXE P w) 1 T.f__law_free.a T.f__law_free.fd ["_law_boxes_here"] (sTw K 1 (va fu)):=
 T.f__law_free.F.okE Vx (fun vs H Q E h=>h.1) (fun cdv A outer s H vs Q E hr h=>⟨_,(@zl _ _ _ _ _ (@zG _ _ 1 _ _ _ _ Vx.nd rfl (Or.inr rfl) (xr (N':=["_law_box"]) rfl (blk (osc:=zB vH) rfl (by decide+kernel)) (yV yU) (wN (K:=K) (pv 0)) (yp rfl) (fun C s₀ H₀ fp=>zO (i:=0) (show (["_law_box"]:List Str).Nodup from by decide+kernel) rfl (Or.inl rfl)) (fun C s₀ H₀ fp=>xf) (fun C s₀ H₀ fp=>(@yc _ _ _ _ _ _ _ (zV (K:=K)) (pv 0) zj (fun _ _=>rfl)))) (by rfl) (by walk_at "q1")) (@zr _ _ _ (@zI _ _ _ _ (@yc _ _ _ _ _ _ _ (xq (K:=K)) (xr (N':=["_law_name_here","_law_names"]) rfl (blk (osc:=zB vH) rfl (by decide+kernel)) (yV (Zf (i:=1) rfl rfl yU)) (zcF zA) (yp rfl) (fun C s₀ H₀ fp=>zO (i:=0) (show (["_law_name_here","_law_names"]:List Str).Nodup from by decide+kernel) rfl (Or.inl rfl)) (fun C s₀ H₀ fp=>zf1 (xn (zax (K:=K)) (pv 0) (pv 1) (by rfl))) (fun C s₀ H₀ fp=>(pv 0))) zj (fun _ _=>rfl))))),yX (n:=1) (k:=1) (b:=Xt fu) rfl (zo (zC (yW (cap:=[none]) (ZB (ze 0)) zm xg (zu yj (ze 0) (zh _))) zm) (zJ (zu wv (yW (cap:=[none,some 1]) (zcI (zy _)) zm (xi (zu zdn (ze 0) (ze 1))) (ze 0)) (zh _)))) h⟩)
noncomputable def Xw (fu:Nat):TwS:=(zF (zR (eOp TM (eOp UO (eC (.int 10)) (eC (.int 9))) (eC (.int 1))) (gN 2)) (zF (zR (eOp yD (eOp vE (zk 1) (zH [(zH [(eC (.str "")),(eC (.int 1))])])) (zD (zt fu) [(zk 0),(eC (.int 11)),(eC (.int 10259)),(eFn TQ [(eC (.int 1)),(eFn wL [(zk 1)])])])) (gT 2 (yH (gN 3) (yH (gN 4) vf)))) (zF (zR (wf [(zH [(eC (.str "gain")),(zk 2)]),(zH [(eC (.str "gain")),(eC (.int 0))]),(zH [(eC (.str "look")),(zH [(zk 2),(eC (.str "<")),(zk 2)])]),(zH [(eC (.str "times")),(eC (.int 60)),(zH [])]),(zH [(eC (.str "times")),(eC (.int 0)),(zH [(zH [(eC (.str "pass"))])])]),(zH [(eC (.str "hand")),(eFn xQ [(xw [none] (iR1 (eC (.int 8))) (gN 0) xy (zH []))])]),(zH [(eC (.str "hand")),(zH [(zH []),(zH [])])]),(zH [(eC (.str "pass"))]),(zH [(eC (.str "if")),(zH [(eC (.int 0)),(eC (.str "#")),(zk 2)]),(zH []),(zH [])]),(zH [(eC (.str "while")),(zH [(zk 2),(eC (.str "=")),(eC (.int 0))]),(zH [])])]) (gN 5)) (zF (sIf (bE (eOp (xN true) (zk 3) (eC (.str "")))) (zF (zR (xw [none] (iR1 (zk 4)) (gN 0) xy (eC (.int 0))) (gN 6)) (zF (zR (eC (.int 1)) (VT (zk 6) (zD (zt fu) [(zk 0),(eC (.int 12)),(eC (.int 10267)),(zk 4)]))) (zF (zR (eOp vg (zk 5) (wf [(zH [(eC (.str "set")),(zk 3),(zH [(zk 2),(eC (.str "*")),(zk 2)])]),(zH [(eC (.str "set")),(zk 3),(zH [(zk 3)])]),(zH [(eC (.str "gain")),(zk 3)])])) (gN 5)) (zF (zR (eOp vg (zk 5) (wf [(zH [(eC (.str "draw")),(zk 3),(eFn xQ [(zk 6)])]),(zH [(eC (.str "draw")),(zk 3),(eFn xQ [(xw [none,some 2] (iR1 (zk 4)) (gN 0) xy (zk 1))])])])) (gN 5)) (zR (eOp vg (zk 5) (wf [(zH [(eC (.str "look")),(zH [(zk 3),(eC (.str "=")),(zk 3)])]),(zH [(eC (.str "set")),(zk 3),(zH [(eC (.int 0)),(eC (.str "-")),(zk 3)])])])) (gN 5)))))) zY) (yd (eOp Yi (zk 5) (zD (zt fu) [(zk 0),(eC (.int 13)),(eC (.int 10271)),(eFn wL [(zk 5)])])))))))
noncomputable def Xx (fu:Nat):TwF:=yz 2 5 (Xw fu)
theorem zbg (T:Tx K mg):yZ P w K mg base (CXE P w) 2 T.f__law_kept.a T.f__law_kept.fd ["_law_script","_law_boxes_here"] (sTw K 2 (Xx fu)):=
 T.f__law_kept.F.okE xt (fun vs H Q E h=>h.1) (fun cdv A outer s H vs Q E hr h=>⟨_,(@zl _ _ _ _ _ (@zG _ _ 2 _ _ _ _ xt.nd rfl (Or.inr rfl) (zL XI (zL WP zj zj) zj) (by rfl) (by walk_at "q1")) (@zl _ _ _ _ _ (wq (@yc _ _ _ _ _ _ _ (zV (K:=K)) (zL (wC (K:=K)) (pv 1) (@zp _ _ _ _ _ (@za _ _ _ _ _ (@zp _ _ _ _ _ (@za _ _ _ _ _ zA (@za _ _ _ _ _ zj zg zc) zc)) zg zn))) (zv (zx (fu:=fu) T) (hr.mono (by decide)) rfl T.f__law_draw.m T.f__law_draw.F.kp T.f__law_draw.b .nil zK (@za _ _ _ _ _ (pv 0) (@za _ _ _ _ _ zj (@za _ _ _ _ _ zj (@za _ _ _ _ _ (zQ (Yx rfl) rfl T.n_max boot_max (@za _ _ _ _ _ zj (@za _ _ _ _ _ (zQ (yv (K:=K)) rfl T.n_len boot_len (@za _ _ _ _ _ (pv 1) zg zf)) zg zZ) zc)) zg zZ) zc) zc) zf)) (fun _ _=>rfl)) (we (K:=K) (n:=2) rfl (yo (zO (i:=3) xt.nd rfl (Or.inl rfl)) (yo (zO (i:=4) xt.nd rfl (Or.inl rfl)) wd)))) (@zl _ _ _ _ _ (@zG _ _ 5 _ _ _ _ xt.nd rfl (Or.inl rfl) (@xb _ _ _ _ (@za _ _ _ _ _ (@zp _ _ _ _ _ (@za _ _ _ _ _ zA (@za _ _ _ _ _ (pv 2) zg zf) zc)) (@za _ _ _ _ _ (@zp _ _ _ _ _ (@za _ _ _ _ _ zA (@za _ _ _ _ _ zj zg zc) zc)) (@za _ _ _ _ _ (@zp _ _ _ _ _ (@za _ _ _ _ _ zA (@za _ _ _ _ _ (@zp _ _ _ _ _ (@za _ _ _ _ _ (pv 2) (@za _ _ _ _ _ zA (@za _ _ _ _ _ (pv 2) zg zf) zc) zf)) zg zn) zc)) (@za _ _ _ _ _ (@zp _ _ _ _ _ (@za _ _ _ _ _ zA (@za _ _ _ _ _ zj (@za _ _ _ _ _ (@zp _ _ _ _ _ zg) zg zn) zc) zc)) (@za _ _ _ _ _ (@zp _ _ _ _ _ (@za _ _ _ _ _ zA (@za _ _ _ _ _ zj (@za _ _ _ _ _ (@zp _ _ _ _ _ (@za _ _ _ _ _ (@zp _ _ _ _ _ (@za _ _ _ _ _ zA zg zc)) zg zn)) zg zn) zc) zc)) (@za _ _ _ _ _ (@zp _ _ _ _ _ (@za _ _ _ _ _ zA (@za _ _ _ _ _ (yT (yG (K:=K)) rfl T.n_tuple boot_tuple (za (xr (N':=["_law_k"]) rfl (blk (osc:=zB wK) rfl (by decide+kernel)) (yV yU) (xm rfl T.n_range (@za _ _ _ _ _ zj zg zc)) (yp rfl) (fun C s₀ H₀ fp=>zO (i:=0) (show (["_law_k"]:List Str).Nodup from by decide+kernel) rfl (Or.inl rfl)) (fun C s₀ H₀ fp=>xf) (fun C s₀ H₀ fp=>(@zp _ _ _ _ _ zg))) zg)) zg zZ) zc)) (@za _ _ _ _ _ (@zp _ _ _ _ _ (@za _ _ _ _ _ zA (@za _ _ _ _ _ (@zp _ _ _ _ _ (@za _ _ _ _ _ (@zp _ _ _ _ _ zg) (@za _ _ _ _ _ (@zp _ _ _ _ _ zg) zg zn) zn)) zg zn) zc)) (@za _ _ _ _ _ (@zp _ _ _ _ _ (@za _ _ _ _ _ zA zg zc)) (@za _ _ _ _ _ (@zp _ _ _ _ _ (@za _ _ _ _ _ zA (@za _ _ _ _ _ (@zp _ _ _ _ _ (@za _ _ _ _ _ zj (@za _ _ _ _ _ zA (@za _ _ _ _ _ (pv 2) zg zf) zc) zc)) (@za _ _ _ _ _ (@zp _ _ _ _ _ zg) (@za _ _ _ _ _ (@zp _ _ _ _ _ zg) zg zn) zn) zn) zc)) (@za _ _ _ _ _ (@zp _ _ _ _ _ (@za _ _ _ _ _ zA (@za _ _ _ _ _ (@zp _ _ _ _ _ (@za _ _ _ _ _ (pv 2) (@za _ _ _ _ _ zA (@za _ _ _ _ _ zj zg zc) zc) zf)) (@za _ _ _ _ _ (@zp _ _ _ _ _ zg) zg zn) zn) zc)) zg zn) zn) zn) zn) zn) zn) zn) zn) zn) zn)) (by rfl) (by walk_at "q1")) (@zl _ _ _ _ _ (yh (xn ziT (pv 3) zA (by rfl)) (@zl _ _ _ _ _ (YO (i:=6) (N':=["_law_k"]) rfl (blk (osc:=zB wK) rfl (by decide+kernel)) (yV yU) (xm rfl T.n_range (@za _ _ _ _ _ (pv 4) zg zf)) (yp rfl) (fun C s₀ H₀ fp=>zO (i:=0) (show (["_law_k"]:List Str).Nodup from by decide+kernel) rfl (Or.inl rfl)) (fun C s₀ H₀ fp=>xf) (fun C s₀ H₀ fp=>zj) xt.nd rfl rfl) (@zl _ _ _ _ _ (wq zj (zaK (pv 6) (zv (zx (fu:=fu) T) (hr.mono (by decide)) rfl T.f__law_draw.m T.f__law_draw.F.kp T.f__law_draw.b .nil zK (@za _ _ _ _ _ (pv 0) (@za _ _ _ _ _ zj (@za _ _ _ _ _ zj (@za _ _ _ _ _ (pv 4) zg zf) zc) zc) zf)) Vc)) (@zl _ _ _ _ _ (@zG _ _ 5 _ _ _ _ xt.nd rfl (Or.inl rfl) (zL (wO (K:=K)) (pv 5) (@xb _ _ _ _ (@za _ _ _ _ _ (@zp _ _ _ _ _ (@za _ _ _ _ _ zA (@za _ _ _ _ _ (pv 3) (@za _ _ _ _ _ (@zp _ _ _ _ _ (@za _ _ _ _ _ (pv 2) (@za _ _ _ _ _ zA (@za _ _ _ _ _ (pv 2) zg zf) zc) zf)) zg zn) zf) zc)) (@za _ _ _ _ _ (@zp _ _ _ _ _ (@za _ _ _ _ _ zA (@za _ _ _ _ _ (pv 3) (@za _ _ _ _ _ (@zp _ _ _ _ _ (@za _ _ _ _ _ (pv 3) zg zf)) zg zn) zf) zc)) (@za _ _ _ _ _ (@zp _ _ _ _ _ (@za _ _ _ _ _ zA (@za _ _ _ _ _ (pv 3) zg zf) zc)) zg zn) zn) zn))) (by rfl) (by walk_at "q1")) (@zl _ _ _ _ _ (@zG _ _ 5 _ _ _ _ xt.nd rfl (Or.inl rfl) (zL (wO (K:=K)) (pv 5) (@xb _ _ _ _ (@za _ _ _ _ _ (@zp _ _ _ _ _ (@za _ _ _ _ _ zA (@za _ _ _ _ _ (pv 3) (@za _ _ _ _ _ (yT (yG (K:=K)) rfl T.n_tuple boot_tuple (@za _ _ _ _ _ (pv 6) zg zf)) zg zZ) zf) zc)) (@za _ _ _ _ _ (@zp _ _ _ _ _ (@za _ _ _ _ _ zA (@za _ _ _ _ _ (pv 3) (@za _ _ _ _ _ (yT (yG (K:=K)) rfl T.n_tuple boot_tuple (za (xr (N':=["_law_k","_law_most"]) rfl (blk (osc:=zB wK) rfl (by decide+kernel)) (yV (Zf (i:=2) rfl rfl yU)) (xm rfl T.n_range (@za _ _ _ _ _ (pv 4) zg zf)) (yp rfl) (fun C s₀ H₀ fp=>zO (i:=0) (show (["_law_k","_law_most"]:List Str).Nodup from by decide+kernel) rfl (Or.inl rfl)) (fun C s₀ H₀ fp=>xf) (fun C s₀ H₀ fp=>(pv 1))) zg)) zg zZ) zf) zc)) zg zn) zn))) (by rfl) (by walk_at "q1")) (@zr _ _ _ (@zG _ _ 5 _ _ _ _ xt.nd rfl (Or.inl rfl) (zL (wO (K:=K)) (pv 5) (@xb _ _ _ _ (@za _ _ _ _ _ (@zp _ _ _ _ _ (@za _ _ _ _ _ zA (@za _ _ _ _ _ (@zp _ _ _ _ _ (@za _ _ _ _ _ (pv 3) (@za _ _ _ _ _ zA (@za _ _ _ _ _ (pv 3) zg zf) zc) zf)) zg zn) zc)) (@za _ _ _ _ _ (@zp _ _ _ _ _ (@za _ _ _ _ _ zA (@za _ _ _ _ _ (pv 3) (@za _ _ _ _ _ (@zp _ _ _ _ _ (@za _ _ _ _ _ zj (@za _ _ _ _ _ zA (@za _ _ _ _ _ (pv 3) zg zf) zc) zc)) zg zn) zf) zc)) zg zn) zn))) (by rfl) (by walk_at "q1"))))))) zM) (@zr _ _ _ (@zI _ _ _ _ (@yc _ _ _ _ _ _ _ (xq (K:=K)) (pv 5) (zv (zx (fu:=fu) T) (hr.mono (by decide)) rfl T.f__law_draw.m T.f__law_draw.F.kp T.f__law_draw.b .nil zK (@za _ _ _ _ _ (pv 0) (@za _ _ _ _ _ zj (@za _ _ _ _ _ zj (@za _ _ _ _ _ (zQ (yv (K:=K)) rfl T.n_len boot_len (@za _ _ _ _ _ (pv 5) zg zf)) zg zZ) zc) zc) zf)) (fun _ _=>rfl)))))))),yX (n:=2) (k:=5) (b:=Xw fu) rfl (zo (zC (zu XW (zu WU (zh _) (zh _)) (zh _)) zm) (zo (zC (zu yj (zu wD (ze 1) (zq (zb (zq (zb (zy _) (zb (zh _) zi))) zi))) (zw (zb (ze 0) (zb (zh _) (zb (zh _) (zb (yn UQ (zb (zh _) (zb (yn xz (zb (ze 1) zi)) zi))) zi)))))) (vm (yq zm (yq zm wj)))) (zo (zC (xc (zb (zq (zb (zy _) (zb (ze 2) zi))) (zb (zq (zb (zy _) (zb (zh _) zi))) (zb (zq (zb (zy _) (zb (zq (zb (ze 2) (zb (zy _) (zb (ze 2) zi)))) zi))) (zb (zq (zb (zy _) (zb (zh _) (zb (zq zi) zi)))) (zb (zq (zb (zy _) (zb (zh _) (zb (zq (zb (zq (zb (zy _) zi)) zi)) zi)))) (zb (zq (zb (zy _) (zb (yn xx (zb (yW (cap:=[none]) (xo (zh _)) zm xg (zq zi)) zi)) zi))) (zb (zq (zb (zy _) (zb (zq (zb (zq zi) (zb (zq zi) zi))) zi))) (zb (zq (zb (zy _) zi)) (zb (zq (zb (zy _) (zb (zq (zb (zh _) (zb (zy _) (zb (ze 2) zi)))) (zb (zq zi) (zb (zq zi) zi))))) (zb (zq (zb (zy _) (zb (zq (zb (ze 2) (zb (zy _) (zb (zh _) zi)))) (zb (zq zi) zi)))) zi))))))))))) zm) (zo (yi (xi (zu zhW (ze 3) (zy _))) (zo (YW (yW (cap:=[none]) (xo (ze 4)) zm xg (zh _))) (zo (zC (zh _) (Vl (ze 6) (zw (zb (ze 0) (zb (zh _) (zb (zh _) (zb (ze 4) zi))))))) (zo (zC (zu wS (ze 5) (xc (zb (zq (zb (zy _) (zb (ze 3) (zb (zq (zb (ze 2) (zb (zy _) (zb (ze 2) zi)))) zi)))) (zb (zq (zb (zy _) (zb (ze 3) (zb (zq (zb (ze 3) zi)) zi)))) (zb (zq (zb (zy _) (zb (ze 3) zi))) zi))))) zm) (zo (zC (zu wS (ze 5) (xc (zb (zq (zb (zy _) (zb (ze 3) (zb (yn xx (zb (ze 6) zi)) zi)))) (zb (zq (zb (zy _) (zb (ze 3) (zb (yn xx (zb (yW (cap:=[none,some 2]) (xo (ze 4)) zm xg (ze 1)) zi)) zi)))) zi)))) zm) (zC (zu wS (ze 5) (xc (zb (zq (zb (zy _) (zb (zq (zb (ze 3) (zb (zy _) (zb (ze 3) zi)))) zi))) (zb (zq (zb (zy _) (zb (ze 3) (zb (zq (zb (zh _) (zb (zy _) (zb (ze 3) zi)))) zi)))) zi)))) zm))))) zN) (zJ (zu wv (ze 5) (zw (zb (ze 0) (zb (zh _) (zb (zh _) (zb (yn xz (zb (ze 5) zi)) zi))))))))))) h⟩)
noncomputable def ZN (fu:Nat):TwS:=(zF (zR (zD (va fu) [(zk 1)]) (gN 2)) (zF (zR (eOp yD (eOp vE (zk 1) (zH [(zH [(zk 2),(eC (.int 2))])])) (zD (zt fu) [(zk 0),(eC (.int 11)),(eC (.int 10259)),(eFn TQ [(eC (.int 1)),(eFn wL [(zk 1)])])])) (gT 2 (yH (gN 3) (yH (gN 4) vf)))) (zF (zR (eOp Yi (wf [(zk 2),(eUn TN (eC (.int 1))),(eOp UO (eC (.int 10)) (eC (.int 9)))]) (zD (zt fu) [(zk 0),(eC (.int 14)),(eC (.int 10273)),(eC (.int 3))])) (gN 5)) (zF (zR (eOp Yi (wf [(zH [(zk 5),(eC (.int 0))]),(zH [(eC (.int 0)),(zk 5)])]) (zD (zt fu) [(zk 0),(eC (.int 25)),(eC (.int 10357)),(eC (.int 2))])) (gT 2 (yH (gN 6) (yH (gN 7) vf)))) (zF (zR (zD (zt fu) [(zk 0),(eC (.int 26)),(eC (.int 10369)),(eC (.int 3))]) (gN 8)) (zF (zR (zH [(zk 6),(eOp zaX (eC (.str "=<#")) (zk 8)),(zk 7)]) (gN 9)) (zF (zR (wf [(zH [(eC (.str "set")),(zk 3),(zH [(zk 5)])]),(zH [(eC (.str "set")),(zk 3),(zH [(zk 6),(eOp zaX (eC (.str "+-*")) (zk 8)),(zk 7)])]),(zH [(eC (.str "gain")),(zk 5)]),(zH [(eC (.str "look")),(zk 9)])]) (gN 10)) (zF (zR (eOp vg (zk 10) (wf [(zH [(eC (.str "if")),(zk 9),(zH []),(zH [])]),(zH [(eC (.str "while")),(zk 9),(zH [])])])) (gN 10)) (yd (eOp Yi (zk 10) (zD (zt fu) [(zk 0),(eC (.int 27)),(eC (.int 10391)),(eFn wL [(zk 10)])])))))))))))
noncomputable def ZO (fu:Nat):TwF:=yz 2 9 (ZN fu)
theorem Te (T:Tx K mg):yZ P w K mg base (CXE P w) 2 T.f__law_faulty.a T.f__law_faulty.fd ["_law_script","_law_boxes_here"] (sTw K 2 (ZO fu)):=
 T.f__law_faulty.F.okE yJ (fun vs H Q E h=>h.1) (fun cdv A outer s H vs Q E hr h=>⟨_,(@zl _ _ _ _ _ (@zG _ _ 2 _ _ _ _ yJ.nd rfl (Or.inl rfl) (zv (Xu (fu:=fu) T) (hr.mono (by decide)) rfl T.f__law_free.m T.f__law_free.F.kp T.f__law_free.b .nil zK (@za _ _ _ _ _ (pv 1) zg zf)) (by rfl) (by walk_at "q1")) (@zl _ _ _ _ _ (wq (@yc _ _ _ _ _ _ _ (zV (K:=K)) (zL (wC (K:=K)) (pv 1) (@zp _ _ _ _ _ (@za _ _ _ _ _ (@zp _ _ _ _ _ (@za _ _ _ _ _ (pv 2) (@za _ _ _ _ _ zj zg zc) zf)) zg zn))) (zv (zx (fu:=fu) T) (hr.mono (by decide)) rfl T.f__law_draw.m T.f__law_draw.F.kp T.f__law_draw.b .nil zK (@za _ _ _ _ _ (pv 0) (@za _ _ _ _ _ zj (@za _ _ _ _ _ zj (@za _ _ _ _ _ (zQ (Yx rfl) rfl T.n_max boot_max (@za _ _ _ _ _ zj (@za _ _ _ _ _ (zQ (yv (K:=K)) rfl T.n_len boot_len (@za _ _ _ _ _ (pv 1) zg zf)) zg zZ) zc)) zg zZ) zc) zc) zf)) (fun _ _=>rfl)) (we (K:=K) (n:=2) rfl (yo (zO (i:=3) yJ.nd rfl (Or.inl rfl)) (yo (zO (i:=4) yJ.nd rfl (Or.inl rfl)) wd)))) (@zl _ _ _ _ _ (@zG _ _ 5 _ _ _ _ yJ.nd rfl (Or.inl rfl) (@yc _ _ _ _ _ _ _ (xq (K:=K)) (@xb _ _ _ _ (@za _ _ _ _ _ (pv 2) (@za _ _ _ _ _ (zam VM zj) (@za _ _ _ _ _ (zL WP zj zj) zg ye) YS) zf)) (zv (zx (fu:=fu) T) (hr.mono (by decide)) rfl T.f__law_draw.m T.f__law_draw.F.kp T.f__law_draw.b .nil zK (@za _ _ _ _ _ (pv 0) (@za _ _ _ _ _ zj (@za _ _ _ _ _ zj (@za _ _ _ _ _ zj zg zc) zc) zc) zf)) (fun _ _=>rfl)) (by rfl) (by walk_at "q1")) (@zl _ _ _ _ _ (wq (@yc _ _ _ _ _ _ _ (xq (K:=K)) (@xb _ _ _ _ (@za _ _ _ _ _ (@zp _ _ _ _ _ (@za _ _ _ _ _ (pv 5) (@za _ _ _ _ _ zj zg zc) zf)) (@za _ _ _ _ _ (@zp _ _ _ _ _ (@za _ _ _ _ _ zj (@za _ _ _ _ _ (pv 5) zg zf) zc)) zg zn) zn)) (zv (zx (fu:=fu) T) (hr.mono (by decide)) rfl T.f__law_draw.m T.f__law_draw.F.kp T.f__law_draw.b .nil zK (@za _ _ _ _ _ (pv 0) (@za _ _ _ _ _ zj (@za _ _ _ _ _ zj (@za _ _ _ _ _ zj zg zc) zc) zc) zf)) (fun _ _=>rfl)) (we (K:=K) (n:=2) rfl (yo (zO (i:=6) yJ.nd rfl (Or.inl rfl)) (yo (zO (i:=7) yJ.nd rfl (Or.inl rfl)) wd)))) (@zl _ _ _ _ _ (@zG _ _ 8 _ _ _ _ yJ.nd rfl (Or.inl rfl) (zv (zx (fu:=fu) T) (hr.mono (by decide)) rfl T.f__law_draw.m T.f__law_draw.F.kp T.f__law_draw.b .nil zK (@za _ _ _ _ _ (pv 0) (@za _ _ _ _ _ zj (@za _ _ _ _ _ zj (@za _ _ _ _ _ zj zg zc) zc) zc) zf)) (by rfl) (by walk_at "q1")) (@zl _ _ _ _ _ (@zG _ _ 9 _ _ _ _ yJ.nd rfl (Or.inl rfl) (@zp _ _ _ _ _ (@za _ _ _ _ _ (pv 6) (@za _ _ _ _ _ (@yc _ _ _ _ _ _ _ UD zA (pv 8) (fun _ _=>rfl)) (@za _ _ _ _ _ (pv 7) zg zf) yk) zf)) (by rfl) (by walk_at "q1")) (@zl _ _ _ _ _ (@zG _ _ 10 _ _ _ _ yJ.nd rfl (Or.inl rfl) (@xb _ _ _ _ (@za _ _ _ _ _ (@zp _ _ _ _ _ (@za _ _ _ _ _ zA (@za _ _ _ _ _ (pv 3) (@za _ _ _ _ _ (@zp _ _ _ _ _ (@za _ _ _ _ _ (pv 5) zg zf)) zg zn) zf) zc)) (@za _ _ _ _ _ (@zp _ _ _ _ _ (@za _ _ _ _ _ zA (@za _ _ _ _ _ (pv 3) (@za _ _ _ _ _ (@zp _ _ _ _ _ (@za _ _ _ _ _ (pv 6) (@za _ _ _ _ _ (@yc _ _ _ _ _ _ _ UD zA (pv 8) (fun _ _=>rfl)) (@za _ _ _ _ _ (pv 7) zg zf) yk) zf)) zg zn) zf) zc)) (@za _ _ _ _ _ (@zp _ _ _ _ _ (@za _ _ _ _ _ zA (@za _ _ _ _ _ (pv 5) zg zf) zc)) (@za _ _ _ _ _ (@zp _ _ _ _ _ (@za _ _ _ _ _ zA (@za _ _ _ _ _ (pv 9) zg zf) zc)) zg zn) zn) zn) zn)) (by rfl) (by walk_at "q1")) (@zl _ _ _ _ _ (@zG _ _ 10 _ _ _ _ yJ.nd rfl (Or.inl rfl) (zL (wO (K:=K)) (pv 10) (@xb _ _ _ _ (@za _ _ _ _ _ (@zp _ _ _ _ _ (@za _ _ _ _ _ zA (@za _ _ _ _ _ (pv 9) (@za _ _ _ _ _ (@zp _ _ _ _ _ zg) (@za _ _ _ _ _ (@zp _ _ _ _ _ zg) zg zn) zn) zf) zc)) (@za _ _ _ _ _ (@zp _ _ _ _ _ (@za _ _ _ _ _ zA (@za _ _ _ _ _ (pv 9) (@za _ _ _ _ _ (@zp _ _ _ _ _ zg) zg zn) zf) zc)) zg zn) zn))) (by rfl) (by walk_at "q1")) (@zr _ _ _ (@zI _ _ _ _ (@yc _ _ _ _ _ _ _ (xq (K:=K)) (pv 10) (zv (zx (fu:=fu) T) (hr.mono (by decide)) rfl T.f__law_draw.m T.f__law_draw.F.kp T.f__law_draw.b .nil zK (@za _ _ _ _ _ (pv 0) (@za _ _ _ _ _ zj (@za _ _ _ _ _ zj (@za _ _ _ _ _ (zQ (yv (K:=K)) rfl T.n_len boot_len (@za _ _ _ _ _ (pv 10) zg zf)) zg zZ) zc) zc) zf)) (fun _ _=>rfl)))))))))))),yX (n:=2) (k:=9) (b:=ZN fu) rfl (zo (zC (zw (zb (ze 1) zi)) zm) (zo (zC (zu yj (zu wD (ze 1) (zq (zb (zq (zb (ze 2) (zb (zh _) zi))) zi))) (zw (zb (ze 0) (zb (zh _) (zb (zh _) (zb (yn UQ (zb (zh _) (zb (yn xz (zb (ze 1) zi)) zi))) zi)))))) (vm (yq zm (yq zm wj)))) (zo (zC (zu wv (xc (zb (ze 2) (zb (zaz VU (zh _)) (zb (zu WU (zh _) (zh _)) zi)))) (zw (zb (ze 0) (zb (zh _) (zb (zh _) (zb (zh _) zi)))))) zm) (zo (zC (zu wv (xc (zb (zq (zb (ze 5) (zb (zh _) zi))) (zb (zq (zb (zh _) (zb (ze 5) zi))) zi))) (zw (zb (ze 0) (zb (zh _) (zb (zh _) (zb (zh _) zi)))))) (vm (yq zm (yq zm wj)))) (zo (zC (zw (zb (ze 0) (zb (zh _) (zb (zh _) (zb (zh _) zi))))) zm) (zo (zC (zq (zb (ze 6) (zb (zu UM (zy _) (ze 8)) (zb (ze 7) zi)))) zm) (zo (zC (xc (zb (zq (zb (zy _) (zb (ze 3) (zb (zq (zb (ze 5) zi)) zi)))) (zb (zq (zb (zy _) (zb (ze 3) (zb (zq (zb (ze 6) (zb (zu UM (zy _) (ze 8)) (zb (ze 7) zi)))) zi)))) (zb (zq (zb (zy _) (zb (ze 5) zi))) (zb (zq (zb (zy _) (zb (ze 9) zi))) zi))))) zm) (zo (zC (zu wS (ze 10) (xc (zb (zq (zb (zy _) (zb (ze 9) (zb (zq zi) (zb (zq zi) zi))))) (zb (zq (zb (zy _) (zb (ze 9) (zb (zq zi) zi)))) zi)))) zm) (zJ (zu wv (ze 10) (zw (zb (ze 0) (zb (zh _) (zb (zh _) (zb (yn xz (zb (ze 10) zi)) zi))))))))))))))) h⟩)
noncomputable def ZP (fu:Nat):TwS:=(zF (sIf (bE (eOp xX (zD (zt fu) [(zk 0),(eC (.int 28)),(eC (.int 10399)),(eC (.int 2))]) (eC (.int 0)))) (yd (zD (ZO fu) [(zk 0),(zk 1)])) zY) (zF (zR (zD (va fu) [(zk 1)]) (gN 2)) (zF (zR (eOp yD (eOp vE (zk 1) (zH [(zH [(zk 2),(eC (.int 2))])])) (zD (zt fu) [(zk 0),(eC (.int 11)),(eC (.int 10259)),(eFn TQ [(eC (.int 1)),(eFn wL [(zk 1)])])])) (gT 2 (yH (gN 3) (yH (gN 4) vf)))) (zF (zR (xw [none] (iR1 (zk 4)) (gN 0) xy (eC (.int 1))) (gN 5)) (zF (zR (eOp Yi (wf [(eUn TN (eC (.int 1))),(eOp UO (eC (.int 10)) (eC (.int 9)))]) (zD (zt fu) [(zk 0),(eC (.int 14)),(eC (.int 10273)),(eC (.int 2))])) (VT (zk 5) (zD (zt fu) [(zk 0),(eC (.int 12)),(eC (.int 10267)),(zk 4)]))) (zF (zR (wf [(zH [(eC (.str "set")),(zk 2),(zH [(eC (.int 1))])]),(zH [(eC (.str "draw")),(zk 2),(zH [(eC (.int 1)),(eC (.int 1))])]),(zH [(eC (.str "draw")),(zk 3),(eFn xQ [(xw [none] (iR1 (eOp xj (zk 4) (eC (.int 1)))) (gN 0) xy (eC (.int 1)))])]),(zH [(eC (.str "draw")),(zk 3),(eFn xQ [(xw [none] (iR1 (eOp TM (zk 4) (eC (.int 1)))) (gN 0) xy (eC (.int 1)))])]),(zH [(eC (.str "draw")),(zk 3),(eFn xQ [(xw [none] (iR1 (zk 4)) (gN 0) xy (eC (.int 0)))])]),(zH [(eC (.str "draw")),(zk 3),(eFn xQ [(zk 5)])]),(zH [(eC (.str "times")),(eC (.int 61)),(zH [])]),(zH [(eC (.str "times")),(eUn TN (eC (.int 1))),(zH [])]),(zH [(eC (.str "times")),(eOp UO (eC (.int 10)) (eC (.int 50))),(zH [])]),(zH [(eC (.str "hand")),(zH [(zH [])])]),(zH [(eC (.str "hand")),(zH [])]),(zH [(eC (.str "hand")),(eFn xQ [(xw [none] (iR1 (eC (.int 9))) (gN 0) xy (zH []))])])]) (gN 6)) (yd (eOp Yi (zk 6) (zD (zt fu) [(zk 0),(eC (.int 13)),(eC (.int 10271)),(eFn wL [(zk 6)])])))))))))
noncomputable def ZQ (fu:Nat):TwF:=yz 2 5 (ZP fu)
theorem Tf (T:Tx K mg):yZ P w K mg base (CXE P w) 3 T.f__law_broken.a T.f__law_broken.fd ["_law_script","_law_boxes_here"] (sTw K 2 (ZQ fu)):=
 T.f__law_broken.F.okE xO (fun vs H Q E h=>h.1) (fun cdv A outer s H vs Q E hr h=>⟨_,(@zl _ _ _ _ _ (yh (ya (yK (zv (zx (fu:=fu) T) (hr.mono (by decide)) rfl T.f__law_draw.m T.f__law_draw.F.kp T.f__law_draw.b .nil zK (@za _ _ _ _ _ (pv 0) (@za _ _ _ _ _ zj (@za _ _ _ _ _ zj (@za _ _ _ _ _ zj zg zc) zc) zc) zf)) zj)) (@zr _ _ _ (@zI _ _ _ _ (zv (Te (fu:=fu) T) (hr.mono (by decide)) rfl T.f__law_faulty.m T.f__law_faulty.F.kp T.f__law_faulty.b .nil zK (@za _ _ _ _ _ (pv 0) (@za _ _ _ _ _ (pv 1) zg zf) zf)))) zM) (@zl _ _ _ _ _ (@zG _ _ 2 _ _ _ _ xO.nd rfl (Or.inl rfl) (zv (Xu (fu:=fu) T) (hr.mono (by decide)) rfl T.f__law_free.m T.f__law_free.F.kp T.f__law_free.b .nil zK (@za _ _ _ _ _ (pv 1) zg zf)) (by rfl) (by walk_at "q1")) (@zl _ _ _ _ _ (wq (@yc _ _ _ _ _ _ _ (zV (K:=K)) (zL (wC (K:=K)) (pv 1) (@zp _ _ _ _ _ (@za _ _ _ _ _ (@zp _ _ _ _ _ (@za _ _ _ _ _ (pv 2) (@za _ _ _ _ _ zj zg zc) zf)) zg zn))) (zv (zx (fu:=fu) T) (hr.mono (by decide)) rfl T.f__law_draw.m T.f__law_draw.F.kp T.f__law_draw.b .nil zK (@za _ _ _ _ _ (pv 0) (@za _ _ _ _ _ zj (@za _ _ _ _ _ zj (@za _ _ _ _ _ (zQ (Yx rfl) rfl T.n_max boot_max (@za _ _ _ _ _ zj (@za _ _ _ _ _ (zQ (yv (K:=K)) rfl T.n_len boot_len (@za _ _ _ _ _ (pv 1) zg zf)) zg zZ) zc)) zg zZ) zc) zc) zf)) (fun _ _=>rfl)) (we (K:=K) (n:=2) rfl (yo (zO (i:=3) xO.nd rfl (Or.inl rfl)) (yo (zO (i:=4) xO.nd rfl (Or.inl rfl)) wd)))) (@zl _ _ _ _ _ (YO (i:=5) (N':=["_law_k"]) rfl (blk (osc:=zB xu) rfl (by decide+kernel)) (yV yU) (xm rfl T.n_range (@za _ _ _ _ _ (pv 4) zg zf)) (yp rfl) (fun C s₀ H₀ fp=>zO (i:=0) (show (["_law_k"]:List Str).Nodup from by decide+kernel) rfl (Or.inl rfl)) (fun C s₀ H₀ fp=>xf) (fun C s₀ H₀ fp=>zj) xO.nd rfl rfl) (@zl _ _ _ _ _ (wq (@yc _ _ _ _ _ _ _ (xq (K:=K)) (@xb _ _ _ _ (@za _ _ _ _ _ (zam VM zj) (@za _ _ _ _ _ (zL WP zj zj) zg ye) YS)) (zv (zx (fu:=fu) T) (hr.mono (by decide)) rfl T.f__law_draw.m T.f__law_draw.F.kp T.f__law_draw.b .nil zK (@za _ _ _ _ _ (pv 0) (@za _ _ _ _ _ zj (@za _ _ _ _ _ zj (@za _ _ _ _ _ zj zg zc) zc) zc) zf)) (fun _ _=>rfl)) (zaK (pv 5) (zv (zx (fu:=fu) T) (hr.mono (by decide)) rfl T.f__law_draw.m T.f__law_draw.F.kp T.f__law_draw.b .nil zK (@za _ _ _ _ _ (pv 0) (@za _ _ _ _ _ zj (@za _ _ _ _ _ zj (@za _ _ _ _ _ (pv 4) zg zf) zc) zc) zf)) Vc)) (@zl _ _ _ _ _ (@zG _ _ 6 _ _ _ _ xO.nd rfl (Or.inl rfl) (@xb _ _ _ _ (@za _ _ _ _ _ (@zp _ _ _ _ _ (@za _ _ _ _ _ zA (@za _ _ _ _ _ (pv 2) (@za _ _ _ _ _ (@zp _ _ _ _ _ (@za _ _ _ _ _ zj zg zc)) zg zn) zf) zc)) (@za _ _ _ _ _ (@zp _ _ _ _ _ (@za _ _ _ _ _ zA (@za _ _ _ _ _ (pv 2) (@za _ _ _ _ _ (@zp _ _ _ _ _ (@za _ _ _ _ _ zj (@za _ _ _ _ _ zj zg zc) zc)) zg zn) zf) zc)) (@za _ _ _ _ _ (@zp _ _ _ _ _ (@za _ _ _ _ _ zA (@za _ _ _ _ _ (pv 3) (@za _ _ _ _ _ (yT (yG (K:=K)) rfl T.n_tuple boot_tuple (za (xr (N':=["_law_k"]) rfl (blk (osc:=zB xu) rfl (by decide+kernel)) (yV yU) (xm rfl T.n_range (@za _ _ _ _ _ (zL yw (pv 4) zj) zg ye)) (yp rfl) (fun C s₀ H₀ fp=>zO (i:=0) (show (["_law_k"]:List Str).Nodup from by decide+kernel) rfl (Or.inl rfl)) (fun C s₀ H₀ fp=>xf) (fun C s₀ H₀ fp=>zj)) zg)) zg zZ) zf) zc)) (@za _ _ _ _ _ (@zp _ _ _ _ _ (@za _ _ _ _ _ zA (@za _ _ _ _ _ (pv 3) (@za _ _ _ _ _ (yT (yG (K:=K)) rfl T.n_tuple boot_tuple (za (xr (N':=["_law_k"]) rfl (blk (osc:=zB xu) rfl (by decide+kernel)) (yV yU) (xm rfl T.n_range (@za _ _ _ _ _ (zL XI (pv 4) zj) zg ye)) (yp rfl) (fun C s₀ H₀ fp=>zO (i:=0) (show (["_law_k"]:List Str).Nodup from by decide+kernel) rfl (Or.inl rfl)) (fun C s₀ H₀ fp=>xf) (fun C s₀ H₀ fp=>zj)) zg)) zg zZ) zf) zc)) (@za _ _ _ _ _ (@zp _ _ _ _ _ (@za _ _ _ _ _ zA (@za _ _ _ _ _ (pv 3) (@za _ _ _ _ _ (yT (yG (K:=K)) rfl T.n_tuple boot_tuple (za (xr (N':=["_law_k"]) rfl (blk (osc:=zB xu) rfl (by decide+kernel)) (yV yU) (xm rfl T.n_range (@za _ _ _ _ _ (pv 4) zg zf)) (yp rfl) (fun C s₀ H₀ fp=>zO (i:=0) (show (["_law_k"]:List Str).Nodup from by decide+kernel) rfl (Or.inl rfl)) (fun C s₀ H₀ fp=>xf) (fun C s₀ H₀ fp=>zj)) zg)) zg zZ) zf) zc)) (@za _ _ _ _ _ (@zp _ _ _ _ _ (@za _ _ _ _ _ zA (@za _ _ _ _ _ (pv 3) (@za _ _ _ _ _ (yT (yG (K:=K)) rfl T.n_tuple boot_tuple (@za _ _ _ _ _ (pv 5) zg zf)) zg zZ) zf) zc)) (@za _ _ _ _ _ (@zp _ _ _ _ _ (@za _ _ _ _ _ zA (@za _ _ _ _ _ zj (@za _ _ _ _ _ (@zp _ _ _ _ _ zg) zg zn) zc) zc)) (@za _ _ _ _ _ (@zp _ _ _ _ _ (@za _ _ _ _ _ zA (@za _ _ _ _ _ (zam VM zj) (@za _ _ _ _ _ (@zp _ _ _ _ _ zg) zg zn) YS) zc)) (@za _ _ _ _ _ (@zp _ _ _ _ _ (@za _ _ _ _ _ zA (@za _ _ _ _ _ (zL WP zj zj) (@za _ _ _ _ _ (@zp _ _ _ _ _ zg) zg zn) ye) zc)) (@za _ _ _ _ _ (@zp _ _ _ _ _ (@za _ _ _ _ _ zA (@za _ _ _ _ _ (@zp _ _ _ _ _ (@za _ _ _ _ _ (@zp _ _ _ _ _ zg) zg zn)) zg zn) zc)) (@za _ _ _ _ _ (@zp _ _ _ _ _ (@za _ _ _ _ _ zA (@za _ _ _ _ _ (@zp _ _ _ _ _ zg) zg zn) zc)) (@za _ _ _ _ _ (@zp _ _ _ _ _ (@za _ _ _ _ _ zA (@za _ _ _ _ _ (yT (yG (K:=K)) rfl T.n_tuple boot_tuple (za (xr (N':=["_law_k"]) rfl (blk (osc:=zB xu) rfl (by decide+kernel)) (yV yU) (xm rfl T.n_range (@za _ _ _ _ _ zj zg zc)) (yp rfl) (fun C s₀ H₀ fp=>zO (i:=0) (show (["_law_k"]:List Str).Nodup from by decide+kernel) rfl (Or.inl rfl)) (fun C s₀ H₀ fp=>xf) (fun C s₀ H₀ fp=>(@zp _ _ _ _ _ zg))) zg)) zg zZ) zc)) zg zn) zn) zn) zn) zn) zn) zn) zn) zn) zn) zn) zn)) (by rfl) (by walk_at "q1")) (@zr _ _ _ (@zI _ _ _ _ (@yc _ _ _ _ _ _ _ (xq (K:=K)) (pv 6) (zv (zx (fu:=fu) T) (hr.mono (by decide)) rfl T.f__law_draw.m T.f__law_draw.F.kp T.f__law_draw.b .nil zK (@za _ _ _ _ _ (pv 0) (@za _ _ _ _ _ zj (@za _ _ _ _ _ zj (@za _ _ _ _ _ (zQ (yv (K:=K)) rfl T.n_len boot_len (@za _ _ _ _ _ (pv 6) zg zf)) zg zZ) zc) zc) zf)) (fun _ _=>rfl)))))))))),yX (n:=2) (k:=5) (b:=ZP fu) rfl (zo (yi (yS (yL (zw (zb (ze 0) (zb (zh _) (zb (zh _) (zb (zh _) zi))))) (zh _))) (zJ (zw (zb (ze 0) (zb (ze 1) zi)))) zN) (zo (zC (zw (zb (ze 1) zi)) zm) (zo (zC (zu yj (zu wD (ze 1) (zq (zb (zq (zb (ze 2) (zb (zh _) zi))) zi))) (zw (zb (ze 0) (zb (zh _) (zb (zh _) (zb (yn UQ (zb (zh _) (zb (yn xz (zb (ze 1) zi)) zi))) zi)))))) (vm (yq zm (yq zm wj)))) (zo (YW (yW (cap:=[none]) (xo (ze 4)) zm xg (zh _))) (zo (zC (zu wv (xc (zb (zaz VU (zh _)) (zb (zu WU (zh _) (zh _)) zi))) (zw (zb (ze 0) (zb (zh _) (zb (zh _) (zb (zh _) zi)))))) (Vl (ze 5) (zw (zb (ze 0) (zb (zh _) (zb (zh _) (zb (ze 4) zi))))))) (zo (zC (xc (zb (zq (zb (zy _) (zb (ze 2) (zb (zq (zb (zh _) zi)) zi)))) (zb (zq (zb (zy _) (zb (ze 2) (zb (zq (zb (zh _) (zb (zh _) zi))) zi)))) (zb (zq (zb (zy _) (zb (ze 3) (zb (yn xx (zb (yW (cap:=[none]) (xo (zu yx (ze 4) (zh _))) zm xg (zh _)) zi)) zi)))) (zb (zq (zb (zy _) (zb (ze 3) (zb (yn xx (zb (yW (cap:=[none]) (xo (zu XW (ze 4) (zh _))) zm xg (zh _)) zi)) zi)))) (zb (zq (zb (zy _) (zb (ze 3) (zb (yn xx (zb (yW (cap:=[none]) (xo (ze 4)) zm xg (zh _)) zi)) zi)))) (zb (zq (zb (zy _) (zb (ze 3) (zb (yn xx (zb (ze 5) zi)) zi)))) (zb (zq (zb (zy _) (zb (zh _) (zb (zq zi) zi)))) (zb (zq (zb (zy _) (zb (zaz VU (zh _)) (zb (zq zi) zi)))) (zb (zq (zb (zy _) (zb (zu WU (zh _) (zh _)) (zb (zq zi) zi)))) (zb (zq (zb (zy _) (zb (zq (zb (zq zi) zi)) zi))) (zb (zq (zb (zy _) (zb (zq zi) zi))) (zb (zq (zb (zy _) (zb (yn xx (zb (yW (cap:=[none]) (xo (zh _)) zm xg (zq zi)) zi)) zi))) zi))))))))))))) zm) (zJ (zu wv (ze 6) (zw (zb (ze 0) (zb (zh _) (zb (zh _) (zb (yn xz (zb (ze 6) zi)) zi))))))))))))) h⟩)
noncomputable def vb (fu:Nat):TwS:=(zF (zR (zD (va fu) [(zk 1)]) (gN 2)) (zF (zR (zD (zt fu) [(zk 0),(eC (.int 15)),(eC (.int 10289)),(eOp xj (eFn wL [(zk 1)]) (eC (.int 1)))]) (gN 3)) (zF (zR (zD (zt fu) [(zk 0),(eC (.int 16)),(eC (.int 10301)),(eC (.int 9))]) (gN 4)) (zF (sIf (bE (eOp dLt (zk 4) (eC (.int 2)))) (zF (zR (eOp Yi (wf [(eC (.int 0)),(eC (.int 10)),(eUn TN (eC (.int 1))),(eOp UO (eC (.int 10)) (eC (.int 50)))]) (zD (zt fu) [(zk 0),(eC (.int 17)),(eC (.int 10303)),(eC (.int 4))])) (gN 5)) (yd (eOp vE (eOp vE (eSl Vh (zk 1) oNo (wJ (zk 3))) (zH [(zH [(zk 2),(zk 5)])])) (eSl Vh (zk 1) (wJ (eOp xj (zk 3) (eC (.int 1)))) oNo)))) zY) (zF (sIf (bE (eOp xX (zk 4) (eC (.int 2)))) (yd (eOp vE (eOp vE (eSl Vh (zk 1) oNo (wJ (zk 3))) (zH [(zH [(zk 2),(eC (.int 1))]),(zH [(zk 2),(eC (.int 1))])])) (eSl Vh (zk 1) (wJ (eOp xj (zk 3) (eC (.int 1)))) oNo))) zY) (zF (sIf (bE (eOp xX (zk 4) (eC (.int 3)))) (yd (eOp vE (eOp vE (eOp vE (eSl Vh (zk 1) oNo (wJ (zk 3))) (zH [(zH [(zk 2),(eC (.int 1))])])) (eSl Vh (zk 1) (wJ (eOp xj (zk 3) (eC (.int 1)))) oNo)) (zH [(zH [(zk 2),(eC (.int 1))])]))) zY) (zF (sIf (bE (eOp xX (zk 4) (eC (.int 4)))) (yd (eFn xQ [(xw [none] (iS (eC (.str "abcdefghij"))) (gN 0) xy (zH [(zk 0),(eC (.int 1))]))])) zY) (zF (sIf (bE (eOp dLt (zk 4) (eC (.int 7)))) (yd (zH [(zH [(eC (.str "seven")),(eC (.int 7))]),(zH [(eC (.str "eight")),(eC (.int 8))]),(zH [(eC (.str "nine")),(eC (.int 9))]),(zH [(eC (.str "two")),(eC (.int 2))])])) zY) (zF (zR (eOp Yi (wf [(eC (.str "A")),(eC (.str "1")),(eC (.str " ")),(eC (.str "_")),(eC (.str "-")),(eC (.str "Z"))]) (zD (zt fu) [(zk 0),(eC (.int 17)),(eC (.int 10303)),(eC (.int 6))])) (gN 6)) (zF (zR (eOp Yi (wf [(eC (.str "")),(eC (.str "abcdefghi")),(eOp XX (eC (.str "ab")) (zk 6)),(zk 6),(eOp XX (zk 6) (eC (.str "b"))),(eOp XX (eOp XX (eC (.str "a")) (zk 6)) (eC (.str "b")))]) (zD (zt fu) [(zk 0),(eC (.int 18)),(eC (.int 10313)),(eC (.int 6))])) (gN 7)) (yd (eOp vE (eOp vE (eSl Vh (zk 1) oNo (wJ (zk 3))) (zH [(zH [(zk 7),(eC (.int 1))])])) (eSl Vh (zk 1) (wJ (eOp xj (zk 3) (eC (.int 1)))) oNo)))))))))))))
noncomputable def vc (fu:Nat):TwF:=yz 2 6 (vb fu)
theorem VC (T:Tx K mg):yZ P w K mg base (CXE P w) 2 T.f__law_bad_boxes.a T.f__law_bad_boxes.fd ["_law_script","_law_boxes_here"] (sTw K 2 (vc fu)):=
 T.f__law_bad_boxes.F.okE yY (fun vs H Q E h=>h.1) (fun cdv A outer s H vs Q E hr h=>⟨_,(@zl _ _ _ _ _ (@zG _ _ 2 _ _ _ _ yY.nd rfl (Or.inl rfl) (zv (Xu (fu:=fu) T) (hr.mono (by decide)) rfl T.f__law_free.m T.f__law_free.F.kp T.f__law_free.b .nil zK (@za _ _ _ _ _ (pv 1) zg zf)) (by rfl) (by walk_at "q1")) (@zl _ _ _ _ _ (@zG _ _ 3 _ _ _ _ yY.nd rfl (Or.inl rfl) (zv (zx (fu:=fu) T) (hr.mono (by decide)) rfl T.f__law_draw.m T.f__law_draw.F.kp T.f__law_draw.b .nil zK (@za _ _ _ _ _ (pv 0) (@za _ _ _ _ _ zj (@za _ _ _ _ _ zj (@za _ _ _ _ _ (zL yw (zQ (yv (K:=K)) rfl T.n_len boot_len (@za _ _ _ _ _ (pv 1) zg zf)) zj) zg ye) zc) zc) zf)) (by rfl) (by walk_at "q1")) (@zl _ _ _ _ _ (@zG _ _ 4 _ _ _ _ yY.nd rfl (Or.inl rfl) (zv (zx (fu:=fu) T) (hr.mono (by decide)) rfl T.f__law_draw.m T.f__law_draw.F.kp T.f__law_draw.b .nil zK (@za _ _ _ _ _ (pv 0) (@za _ _ _ _ _ zj (@za _ _ _ _ _ zj (@za _ _ _ _ _ zj zg zc) zc) zc) zf)) (by rfl) (by walk_at "q1")) (@zl _ _ _ _ _ (yh (ya (WE (pv 4) zj)) (@zl _ _ _ _ _ (@zG _ _ 5 _ _ _ _ yY.nd rfl (Or.inl rfl) (@yc _ _ _ _ _ _ _ (xq (K:=K)) (@xb _ _ _ _ (@za _ _ _ _ _ zj (@za _ _ _ _ _ zj (@za _ _ _ _ _ (zam VM zj) (@za _ _ _ _ _ (zL WP zj zj) zg ye) YS) zc) zc)) (zv (zx (fu:=fu) T) (hr.mono (by decide)) rfl T.f__law_draw.m T.f__law_draw.F.kp T.f__law_draw.b .nil zK (@za _ _ _ _ _ (pv 0) (@za _ _ _ _ _ zj (@za _ _ _ _ _ zj (@za _ _ _ _ _ zj zg zc) zc) zc) zf)) (fun _ _=>rfl)) (by rfl) (by walk_at "q1")) (@zr _ _ _ (@zI _ _ _ _ (zL (wC (K:=K)) (zL (wC (K:=K)) (xp (ZX (K:=K)) (pv 1) xJ (xK (pv 3))) (@zp _ _ _ _ _ (@za _ _ _ _ _ (@zp _ _ _ _ _ (@za _ _ _ _ _ (pv 2) (@za _ _ _ _ _ (pv 5) zg zf) zf)) zg zn))) (xp (ZX (K:=K)) (pv 1) (xK (zL yw (pv 3) zj)) xJ))))) zM) (@zl _ _ _ _ _ (yh (ya (yK (pv 4) zj)) (@zr _ _ _ (@zI _ _ _ _ (zL (wC (K:=K)) (zL (wC (K:=K)) (xp (ZX (K:=K)) (pv 1) xJ (xK (pv 3))) (@zp _ _ _ _ _ (@za _ _ _ _ _ (@zp _ _ _ _ _ (@za _ _ _ _ _ (pv 2) (@za _ _ _ _ _ zj zg zc) zf)) (@za _ _ _ _ _ (@zp _ _ _ _ _ (@za _ _ _ _ _ (pv 2) (@za _ _ _ _ _ zj zg zc) zf)) zg zn) zn))) (xp (ZX (K:=K)) (pv 1) (xK (zL yw (pv 3) zj)) xJ)))) zM) (@zl _ _ _ _ _ (yh (ya (yK (pv 4) zj)) (@zr _ _ _ (@zI _ _ _ _ (zL (wC (K:=K)) (zL (wC (K:=K)) (zL (wC (K:=K)) (xp (ZX (K:=K)) (pv 1) xJ (xK (pv 3))) (@zp _ _ _ _ _ (@za _ _ _ _ _ (@zp _ _ _ _ _ (@za _ _ _ _ _ (pv 2) (@za _ _ _ _ _ zj zg zc) zf)) zg zn))) (xp (ZX (K:=K)) (pv 1) (xK (zL yw (pv 3) zj)) xJ)) (@zp _ _ _ _ _ (@za _ _ _ _ _ (@zp _ _ _ _ _ (@za _ _ _ _ _ (pv 2) (@za _ _ _ _ _ zj zg zc) zf)) zg zn))))) zM) (@zl _ _ _ _ _ (yh (ya (yK (pv 4) zj)) (@zr _ _ _ (@zI _ _ _ _ (yT (yG (K:=K)) rfl T.n_tuple boot_tuple (za (xr (N':=["_law_name_here"]) rfl (blk (osc:=zB wk) rfl (by decide+kernel)) (yV yU) (zcF zA) (yp rfl) (fun C s₀ H₀ fp=>zO (i:=0) (show (["_law_name_here"]:List Str).Nodup from by decide+kernel) rfl (Or.inl rfl)) (fun C s₀ H₀ fp=>xf) (fun C s₀ H₀ fp=>(@zp _ _ _ _ _ (@za _ _ _ _ _ (pv 0) (@za _ _ _ _ _ zj zg zc) zf)))) zg)))) zM) (@zl _ _ _ _ _ (yh (ya (WE (pv 4) zj)) (@zr _ _ _ (@zI _ _ _ _ (@zp _ _ _ _ _ (@za _ _ _ _ _ (@zp _ _ _ _ _ (@za _ _ _ _ _ zA (@za _ _ _ _ _ zj zg zc) zc)) (@za _ _ _ _ _ (@zp _ _ _ _ _ (@za _ _ _ _ _ zA (@za _ _ _ _ _ zj zg zc) zc)) (@za _ _ _ _ _ (@zp _ _ _ _ _ (@za _ _ _ _ _ zA (@za _ _ _ _ _ zj zg zc) zc)) (@za _ _ _ _ _ (@zp _ _ _ _ _ (@za _ _ _ _ _ zA (@za _ _ _ _ _ zj zg zc) zc)) zg zn) zn) zn) zn)))) zM) (@zl _ _ _ _ _ (@zG _ _ 6 _ _ _ _ yY.nd rfl (Or.inl rfl) (@yc _ _ _ _ _ _ _ (xq (K:=K)) (@xb _ _ _ _ (@za _ _ _ _ _ zA (@za _ _ _ _ _ zA (@za _ _ _ _ _ zA (@za _ _ _ _ _ zA (@za _ _ _ _ _ zA (@za _ _ _ _ _ zA zg zc) zc) zc) zc) zc) zc)) (zv (zx (fu:=fu) T) (hr.mono (by decide)) rfl T.f__law_draw.m T.f__law_draw.F.kp T.f__law_draw.b .nil zK (@za _ _ _ _ _ (pv 0) (@za _ _ _ _ _ zj (@za _ _ _ _ _ zj (@za _ _ _ _ _ zj zg zc) zc) zc) zf)) (fun _ _=>rfl)) (by rfl) (by walk_at "q1")) (@zl _ _ _ _ _ (@zG _ _ 7 _ _ _ _ yY.nd rfl (Or.inl rfl) (@yc _ _ _ _ _ _ _ (xq (K:=K)) (@xb _ _ _ _ (@za _ _ _ _ _ zA (@za _ _ _ _ _ zA (@za _ _ _ _ _ (zL vi zA (pv 6)) (@za _ _ _ _ _ (pv 6) (@za _ _ _ _ _ (zL vi (pv 6) zA) (@za _ _ _ _ _ (zL vi (zL vi zA (pv 6)) zA) zg ye) ye) zf) ye) zc) zc)) (zv (zx (fu:=fu) T) (hr.mono (by decide)) rfl T.f__law_draw.m T.f__law_draw.F.kp T.f__law_draw.b .nil zK (@za _ _ _ _ _ (pv 0) (@za _ _ _ _ _ zj (@za _ _ _ _ _ zj (@za _ _ _ _ _ zj zg zc) zc) zc) zf)) (fun _ _=>rfl)) (by rfl) (by walk_at "q1")) (@zr _ _ _ (@zI _ _ _ _ (zL (wC (K:=K)) (zL (wC (K:=K)) (xp (ZX (K:=K)) (pv 1) xJ (xK (pv 3))) (@zp _ _ _ _ _ (@za _ _ _ _ _ (@zp _ _ _ _ _ (@za _ _ _ _ _ (pv 7) (@za _ _ _ _ _ zj zg zc) zf)) zg zn))) (xp (ZX (K:=K)) (pv 1) (xK (zL yw (pv 3) zj)) xJ)))))))))))))),yX (n:=2) (k:=6) (b:=vb fu) rfl (zo (zC (zw (zb (ze 1) zi)) zm) (zo (zC (zw (zb (ze 0) (zb (zh _) (zb (zh _) (zb (zu yx (yn xz (zb (ze 1) zi)) (zh _)) zi))))) zm) (zo (zC (zw (zb (ze 0) (zb (zh _) (zb (zh _) (zb (zh _) zi))))) zm) (zo (yi (yS (WK (ze 4) (zh _))) (zo (zC (zu wv (xc (zb (zh _) (zb (zh _) (zb (zaz VU (zh _)) (zb (zu WU (zh _) (zh _)) zi))))) (zw (zb (ze 0) (zb (zh _) (zb (zh _) (zb (zh _) zi)))))) zm) (zJ (zu wD (zu wD (XS (ze 1) Zd (xL (ze 3))) (zq (zb (zq (zb (ze 2) (zb (ze 5) zi))) zi))) (XS (ze 1) (xL (zu yx (ze 3) (zh _))) Zd)))) zN) (zo (yi (yS (yL (ze 4) (zh _))) (zJ (zu wD (zu wD (XS (ze 1) Zd (xL (ze 3))) (zq (zb (zq (zb (ze 2) (zb (zh _) zi))) (zb (zq (zb (ze 2) (zb (zh _) zi))) zi)))) (XS (ze 1) (xL (zu yx (ze 3) (zh _))) Zd))) zN) (zo (yi (yS (yL (ze 4) (zh _))) (zJ (zu wD (zu wD (zu wD (XS (ze 1) Zd (xL (ze 3))) (zq (zb (zq (zb (ze 2) (zb (zh _) zi))) zi))) (XS (ze 1) (xL (zu yx (ze 3) (zh _))) Zd)) (zq (zb (zq (zb (ze 2) (zb (zh _) zi))) zi)))) zN) (zo (yi (yS (yL (ze 4) (zh _))) (zJ (yn xx (zb (yW (cap:=[none]) (zcI (zy _)) zm xg (zq (zb (ze 0) (zb (zh _) zi)))) zi))) zN) (zo (yi (yS (WK (ze 4) (zh _))) (zJ (zq (zb (zq (zb (zy _) (zb (zh _) zi))) (zb (zq (zb (zy _) (zb (zh _) zi))) (zb (zq (zb (zy _) (zb (zh _) zi))) (zb (zq (zb (zy _) (zb (zh _) zi))) zi)))))) zN) (zo (zC (zu wv (xc (zb (zy _) (zb (zy _) (zb (zy _) (zb (zy _) (zb (zy _) (zb (zy _) zi))))))) (zw (zb (ze 0) (zb (zh _) (zb (zh _) (zb (zh _) zi)))))) zm) (zo (zC (zu wv (xc (zb (zy _) (zb (zy _) (zb (zu Wv (zy _) (ze 6)) (zb (ze 6) (zb (zu Wv (ze 6) (zy _)) (zb (zu Wv (zu Wv (zy _) (ze 6)) (zy _)) zi))))))) (zw (zb (ze 0) (zb (zh _) (zb (zh _) (zb (zh _) zi)))))) zm) (zJ (zu wD (zu wD (XS (ze 1) Zd (xL (ze 3))) (zq (zb (zq (zb (ze 7) (zb (zh _) zi))) zi))) (XS (ze 1) (xL (zu yx (ze 3) (zh _))) Zd))))))))))))) h⟩)
noncomputable def ZR (fu:Nat):TwS:=(zF (sWh fu (bE (eOp dLt (zD (xl fu) [(zk 0)]) (zk 1))) (zR (eOp vg (zk 0) (wf [(zH [(eC (.str "pass"))])])) (gN 0))) (yd (zk 0)))
noncomputable def ZS (fu:Nat):TwF:=yz 2 0 (ZR fu)
theorem Tg (T:Tx K mg):yZ P w K mg base (CXE P w) 3 T.f__law_filled.a T.f__law_filled.fd ["_law_block_here","_law_length_here"] (sTw K 2 (ZS fu)):=
 T.f__law_filled.F.okE Wk (fun vs H Q E h=>h.1) (fun cdv A outer s H vs Q E hr h=>⟨_,(@zl _ _ _ _ _ (XH PassesOwn.leaving (ya (WE (zv (ZM (fu:=fu) T) (hr.mono (by decide)) rfl T.f__law_length.m T.f__law_length.F.kp T.f__law_length.b .nil zK (@za _ _ _ _ _ (pv 0) zg zf)) (pv 1))) (@zr _ _ _ (@zG _ _ 0 _ _ _ _ Wk.nd rfl (Or.inl rfl) (zL (wO (K:=K)) (pv 0) (@xb _ _ _ _ (@za _ _ _ _ _ (@zp _ _ _ _ _ (@za _ _ _ _ _ zA zg zc)) zg zn))) (by rfl) (by walk_at "q1")))) (@zr _ _ _ (@zI _ _ _ _ (pv 0)))),yX (n:=2) (k:=0) (b:=ZR fu) rfl (zo (XU (yS (WK (zw (zb (ze 0) zi)) (ze 1))) (zC (zu wS (ze 0) (xc (zb (zq (zb (zy _) zi)) zi))) zm)) (zJ (ze 0))) h⟩)
noncomputable def Yu (fu:Nat):TwS:=(zF (zR (zD (zt fu) [(zk 0),(eC (.int 19)),(eC (.int 10321)),(eC (.int 9))]) (gN 3)) (zF (zR (zD (zt fu) [(zk 0),(eC (.int 21)),(eC (.int 10331)),(eOp xj (eFn wL [(zk 2)]) (eC (.int 1)))]) (gN 4)) (zF (zR (zD (zt fu) [(zk 0),(eC (.int 22)),(eC (.int 10333)),(eC (.int 12))]) (gN 5)) (zF (sIf (bE (eOp xX (zk 3) (eC (.int 0)))) (yd (zH [(eC (.bl true)),(zk 1),(zk 2)])) zY) (zF (sIf (bE (eOp xX (zk 3) (eC (.int 1)))) (yd (zH [(eC (.bl true)),(zk 1),(eOp vg (eOp vg (eSl WB (zk 2) oNo (wJ (zk 4))) (wf [(zD (xU fu) [(zk 0),(zD (Xx fu) [(zk 0),(zk 1)]),(zk 5)])])) (eSl WB (zk 2) (wJ (zk 4)) oNo))])) zY) (zF (sIf (bE (eOp xX (zk 3) (eC (.int 2)))) (yd (zH [(eC (.bl true)),(zk 1),(zD (ZS fu) [(zk 2),(eOp xj (eC (.int 100)) (eOp XV (zk 5) (eC (.int 2))))])])) zY) (zF (sIf (bE (eOp xX (zk 3) (eC (.int 3)))) (zF (zR (eOp Yi (wf [(zH [(eC (.str "pass"))]),(zH [(eC (.str "times")),(eC (.int 0)),(zH [])]),(zH [(eC (.str "while")),(zH [(eC (.int 0)),(eC (.str "=")),(eC (.int 0))]),(zH [])])]) (eOp XV (zk 5) (eC (.int 3)))) (gN 6)) (zF (zR (eOp TM (eOp xj (eC (.int 12)) (eOp XV (zk 5) (eC (.int 2)))) (eFn zgc [(eC (.int 1)),(eOp XV (zk 5) (eC (.int 3)))])) (gN 7)) (yd (zH [(eOp xX (eOp XV (zk 5) (eC (.int 2))) (eC (.int 0))),(zk 1),(eOp vg (eOp vg (eSl WB (zk 2) oNo (wJ (zk 4))) (wf [(zD (xU fu) [(zk 0),(zk 6),(zk 7)])])) (eSl WB (zk 2) (wJ (zk 4)) oNo))])))) zY) (zF (sIf (bE (eOp dLt (zk 3) (eC (.int 6)))) (yd (zH [(eC (.bl false)),(zD (vc fu) [(zk 0),(zk 1)]),(zk 2)])) zY) (yd (zH [(eC (.bl false)),(zk 1),(eOp vg (eOp vg (eSl WB (zk 2) oNo (wJ (zk 4))) (wf [(zD (xU fu) [(zk 0),(zD (ZQ fu) [(zk 0),(zk 1)]),(zk 5)])])) (eSl WB (zk 2) (wJ (zk 4)) oNo))]))))))))))
noncomputable def Yv (fu:Nat):TwF:=yz 3 5 (Yu fu)
theorem zaf (T:Tx K mg):yZ P w K mg base (CXE P w) 4 T.f__law_built.a T.f__law_built.fd ["_law_script","_law_boxes_here","_law_block_here"] (sTw K 3 (Yv fu)):=
 T.f__law_built.F.okE xW (fun vs H Q E h=>h.1) (fun cdv A outer s H vs Q E hr h=>⟨_,(@zl _ _ _ _ _ (@zG _ _ 3 _ _ _ _ xW.nd rfl (Or.inl rfl) (zv (zx (fu:=fu) T) (hr.mono (by decide)) rfl T.f__law_draw.m T.f__law_draw.F.kp T.f__law_draw.b .nil zK (@za _ _ _ _ _ (pv 0) (@za _ _ _ _ _ zj (@za _ _ _ _ _ zj (@za _ _ _ _ _ zj zg zc) zc) zc) zf)) (by rfl) (by walk_at "q1")) (@zl _ _ _ _ _ (@zG _ _ 4 _ _ _ _ xW.nd rfl (Or.inl rfl) (zv (zx (fu:=fu) T) (hr.mono (by decide)) rfl T.f__law_draw.m T.f__law_draw.F.kp T.f__law_draw.b .nil zK (@za _ _ _ _ _ (pv 0) (@za _ _ _ _ _ zj (@za _ _ _ _ _ zj (@za _ _ _ _ _ (zL yw (zQ (yv (K:=K)) rfl T.n_len boot_len (@za _ _ _ _ _ (pv 2) zg zf)) zj) zg ye) zc) zc) zf)) (by rfl) (by walk_at "q1")) (@zl _ _ _ _ _ (@zG _ _ 5 _ _ _ _ xW.nd rfl (Or.inl rfl) (zv (zx (fu:=fu) T) (hr.mono (by decide)) rfl T.f__law_draw.m T.f__law_draw.F.kp T.f__law_draw.b .nil zK (@za _ _ _ _ _ (pv 0) (@za _ _ _ _ _ zj (@za _ _ _ _ _ zj (@za _ _ _ _ _ zj zg zc) zc) zc) zf)) (by rfl) (by walk_at "q1")) (@zl _ _ _ _ _ (yh (ya (yK (pv 3) zj)) (@zr _ _ _ (@zI _ _ _ _ (@zp _ _ _ _ _ (@za _ _ _ _ _ Zu (@za _ _ _ _ _ (pv 1) (@za _ _ _ _ _ (pv 2) zg zf) zf) zc)))) zM) (@zl _ _ _ _ _ (yh (ya (yK (pv 3) zj)) (@zr _ _ _ (@zI _ _ _ _ (@zp _ _ _ _ _ (@za _ _ _ _ _ Zu (@za _ _ _ _ _ (pv 1) (@za _ _ _ _ _ (zL (wO (K:=K)) (zL (wO (K:=K)) (xp (Zy (K:=K)) (pv 2) xJ (xK (pv 4))) (@xb _ _ _ _ (@za _ _ _ _ _ (zv (vY (fu:=fu) T) (hr.mono (by decide)) rfl T.f__law_wrapped.m T.f__law_wrapped.F.kp T.f__law_wrapped.b .nil zK (@za _ _ _ _ _ (pv 0) (@za _ _ _ _ _ (zv (zbg (fu:=fu) T) (hr.mono (by decide)) rfl T.f__law_kept.m T.f__law_kept.F.kp T.f__law_kept.b .nil zK (@za _ _ _ _ _ (pv 0) (@za _ _ _ _ _ (pv 1) zg zf) zf)) (@za _ _ _ _ _ (pv 5) zg zf) zZ) zf)) zg zZ))) (xp (Zy (K:=K)) (pv 2) (xK (pv 4)) xJ)) zg ye) zf) zc)))) zM) (@zl _ _ _ _ _ (yh (ya (yK (pv 3) zj)) (@zr _ _ _ (@zI _ _ _ _ (@zp _ _ _ _ _ (@za _ _ _ _ _ Zu (@za _ _ _ _ _ (pv 1) (@za _ _ _ _ _ (zv (Tg (fu:=fu) T) (hr.mono (by decide)) rfl T.f__law_filled.m T.f__law_filled.F.kp T.f__law_filled.b .nil zK (@za _ _ _ _ _ (pv 2) (@za _ _ _ _ _ (zL yw zj (zL vN (pv 5) zj)) zg ye) zf)) zg zZ) zf) zc)))) zM) (@zl _ _ _ _ _ (yh (ya (yK (pv 3) zj)) (@zl _ _ _ _ _ (@zG _ _ 6 _ _ _ _ xW.nd rfl (Or.inl rfl) (@yc _ _ _ _ _ _ _ (xq (K:=K)) (@xb _ _ _ _ (@za _ _ _ _ _ (@zp _ _ _ _ _ (@za _ _ _ _ _ zA zg zc)) (@za _ _ _ _ _ (@zp _ _ _ _ _ (@za _ _ _ _ _ zA (@za _ _ _ _ _ zj (@za _ _ _ _ _ (@zp _ _ _ _ _ zg) zg zn) zc) zc)) (@za _ _ _ _ _ (@zp _ _ _ _ _ (@za _ _ _ _ _ zA (@za _ _ _ _ _ (@zp _ _ _ _ _ (@za _ _ _ _ _ zj (@za _ _ _ _ _ zA (@za _ _ _ _ _ zj zg zc) zc) zc)) (@za _ _ _ _ _ (@zp _ _ _ _ _ zg) zg zn) zn) zc)) zg zn) zn) zn)) (zL vN (pv 5) zj) (fun _ _=>rfl)) (by rfl) (by walk_at "q1")) (@zl _ _ _ _ _ (@zG _ _ 7 _ _ _ _ xW.nd rfl (Or.inl rfl) (zL XI (zL yw zj (zL vN (pv 5) zj)) (zQ (zao rfl) rfl T.n_min boot_min (@za _ _ _ _ _ zj (@za _ _ _ _ _ (zL vN (pv 5) zj) zg ye) zc))) (by rfl) (by walk_at "q1")) (@zr _ _ _ (@zI _ _ _ _ (@zp _ _ _ _ _ (@za _ _ _ _ _ (YI (yK (zL vN (pv 5) zj) zj)) (@za _ _ _ _ _ (pv 1) (@za _ _ _ _ _ (zL (wO (K:=K)) (zL (wO (K:=K)) (xp (Zy (K:=K)) (pv 2) xJ (xK (pv 4))) (@xb _ _ _ _ (@za _ _ _ _ _ (zv (vY (fu:=fu) T) (hr.mono (by decide)) rfl T.f__law_wrapped.m T.f__law_wrapped.F.kp T.f__law_wrapped.b .nil zK (@za _ _ _ _ _ (pv 0) (@za _ _ _ _ _ (pv 6) (@za _ _ _ _ _ (pv 7) zg zf) zf) zf)) zg zZ))) (xp (Zy (K:=K)) (pv 2) (xK (pv 4)) xJ)) zg ye) zf) zcx)))))) zM) (@zl _ _ _ _ _ (yh (ya (WE (pv 3) zj)) (@zr _ _ _ (@zI _ _ _ _ (@zp _ _ _ _ _ (@za _ _ _ _ _ Zu (@za _ _ _ _ _ (zv (VC (fu:=fu) T) (hr.mono (by decide)) rfl T.f__law_bad_boxes.m T.f__law_bad_boxes.F.kp T.f__law_bad_boxes.b .nil zK (@za _ _ _ _ _ (pv 0) (@za _ _ _ _ _ (pv 1) zg zf) zf)) (@za _ _ _ _ _ (pv 2) zg zf) zZ) zc)))) zM) (@zr _ _ _ (@zI _ _ _ _ (@zp _ _ _ _ _ (@za _ _ _ _ _ Zu (@za _ _ _ _ _ (pv 1) (@za _ _ _ _ _ (zL (wO (K:=K)) (zL (wO (K:=K)) (xp (Zy (K:=K)) (pv 2) xJ (xK (pv 4))) (@xb _ _ _ _ (@za _ _ _ _ _ (zv (vY (fu:=fu) T) (hr.mono (by decide)) rfl T.f__law_wrapped.m T.f__law_wrapped.F.kp T.f__law_wrapped.b .nil zK (@za _ _ _ _ _ (pv 0) (@za _ _ _ _ _ (zv (Tf (fu:=fu) T) (hr.mono (by decide)) rfl T.f__law_broken.m T.f__law_broken.F.kp T.f__law_broken.b .nil zK (@za _ _ _ _ _ (pv 0) (@za _ _ _ _ _ (pv 1) zg zf) zf)) (@za _ _ _ _ _ (pv 5) zg zf) zZ) zf)) zg zZ))) (xp (Zy (K:=K)) (pv 2) (xK (pv 4)) xJ)) zg ye) zf) zc)))))))))))),yX (n:=3) (k:=5) (b:=Yu fu) rfl (zo (zC (zw (zb (ze 0) (zb (zh _) (zb (zh _) (zb (zh _) zi))))) zm) (zo (zC (zw (zb (ze 0) (zb (zh _) (zb (zh _) (zb (zu yx (yn xz (zb (ze 2) zi)) (zh _)) zi))))) zm) (zo (zC (zw (zb (ze 0) (zb (zh _) (zb (zh _) (zb (zh _) zi))))) zm) (zo (yi (yS (yL (ze 3) (zh _))) (zJ (zq (zb (Zz _) (zb (ze 1) (zb (ze 2) zi))))) zN) (zo (yi (yS (yL (ze 3) (zh _))) (zJ (zq (zb (Zz _) (zb (ze 1) (zb (zu wS (zu wS (WT (ze 2) Zd (xL (ze 4))) (xc (zb (zw (zb (ze 0) (zb (zw (zb (ze 0) (zb (ze 1) zi))) (zb (ze 5) zi)))) zi))) (WT (ze 2) (xL (ze 4)) Zd)) zi))))) zN) (zo (yi (yS (yL (ze 3) (zh _))) (zJ (zq (zb (Zz _) (zb (ze 1) (zb (zw (zb (ze 2) (zb (zu yx (zh _) (zu vO (ze 5) (zh _))) zi))) zi))))) zN) (zo (yi (yS (yL (ze 3) (zh _))) (zo (zC (zu wv (xc (zb (zq (zb (zy _) zi)) (zb (zq (zb (zy _) (zb (zh _) (zb (zq zi) zi)))) (zb (zq (zb (zy _) (zb (zq (zb (zh _) (zb (zy _) (zb (zh _) zi)))) (zb (zq zi) zi)))) zi)))) (zu vO (ze 5) (zh _))) zm) (zo (zC (zu XW (zu yx (zh _) (zu vO (ze 5) (zh _))) (yn zeV (zb (zh _) (zb (zu vO (ze 5) (zh _)) zi)))) zm) (zJ (zq (zb (yL (zu vO (ze 5) (zh _)) (zh _)) (zb (ze 1) (zb (zu wS (zu wS (WT (ze 2) Zd (xL (ze 4))) (xc (zb (zw (zb (ze 0) (zb (ze 6) (zb (ze 7) zi)))) zi))) (WT (ze 2) (xL (ze 4)) Zd)) zi))))))) zN) (zo (yi (yS (WK (ze 3) (zh _))) (zJ (zq (zb (Zz _) (zb (zw (zb (ze 0) (zb (ze 1) zi))) (zb (ze 2) zi))))) zN) (zJ (zq (zb (Zz _) (zb (ze 1) (zb (zu wS (zu wS (WT (ze 2) Zd (xL (ze 4))) (xc (zb (zw (zb (ze 0) (zb (zw (zb (ze 0) (zb (ze 1) zi))) (zb (ze 5) zi)))) zi))) (WT (ze 2) (xL (ze 4)) Zd)) zi))))))))))))) h⟩)
noncomputable def zcL (fu:Nat):TwS:=(zF (zR (zD (vz fu) [(zk 0),(zD (zt fu) [(zk 0),(eC (.int 7)),(eC (.int 10093)),(eC (.int 10))]),(eC (.int 1000))]) (gN 1)) (zF (sIf (bE (eOp xX (zD (zt fu) [(zk 0),(eC (.int 23)),(eC (.int 10337)),(eC (.int 6))]) (eC (.int 0)))) (zF (zR (zD (vz fu) [(zk 0),(eC (.int 4)),(eC (.int 1))]) (gN 2)) (zR (eFn xQ [(xw [none,some 2,some 0] (iR1 (eC (.int 4))) (gN 0) xy (zH [(eOp yD (eOp yD (zk 1) (zk 0)) (eC (.int 0))),(eOp Yi (wf [(eC (.int 8)),(eC (.int 5)),(eC (.int 5)),(eC (.int 5))]) (eOp XV (eOp xj (zk 0) (zD (zt fu) [(zk 2),(eC (.int 24)),(eC (.int 10343)),(eC (.int 4))])) (eC (.int 4))))]))]) (gN 1))) zY) (zF (zR (zD (Wp fu) [(zk 0),(zk 1),(eC (.int 4)),(eFn zgc [(eC (.int 63)),(eFn wL [(zk 0)])])]) (gN 3)) (zF (sWh fu (bE (eOp dGt (zD (xl fu) [(zk 3)]) (eC (.int 20)))) (zR (eSl WB (zk 3) oNo (wJ (eUn TN (eC (.int 1))))) (gN 3))) (zF (zR (zD (Yv fu) [(zk 0),(zk 1),(zk 3)]) (gT 3 (yH (gN 4) (yH (gN 1) (yH (gN 3) vf))))) (zF (zR (zD (vy fu) [(zH [(zk 1),(eFn xQ [(zk 3)])])]) (gN 5)) (yd (TK (eUn (za0 "bool") (zk 5)) (eOp (xN false) (zk 5) (TK (zk 4) (eOp dLe (zD (xl fu) [(zk 3)]) (eC (.int 100)))))))))))))
noncomputable def zcM (fu:Nat):TwF:=yz 1 5 (zcL fu)
theorem zgB (T:Tx K mg):yZ P w K mg base (CXE P w) 43 T.f_law.a T.f_law.fd ["_law_script"] (sTw K 1 (zcM fu)):=
 T.f_law.F.okE Yo (fun vs H Q E h=>h.1) (fun cdv A outer s H vs Q E hr h=>⟨_,(@zl _ _ _ _ _ (@zG _ _ 1 _ _ _ _ Yo.nd rfl (Or.inl rfl) (zv (WM (fu:=fu) T) (hr.mono (by decide)) rfl T.f__law_boxes.m T.f__law_boxes.F.kp T.f__law_boxes.b .nil zK (@za _ _ _ _ _ (pv 0) (@za _ _ _ _ _ (zv (zx (fu:=fu) T) (hr.mono (by decide)) rfl T.f__law_draw.m T.f__law_draw.F.kp T.f__law_draw.b .nil zK (@za _ _ _ _ _ (pv 0) (@za _ _ _ _ _ zj (@za _ _ _ _ _ zj (@za _ _ _ _ _ zj zg zc) zc) zc) zf)) (@za _ _ _ _ _ zj zg zc) zZ) zf)) (by rfl) (by walk_at "q1")) (@zl _ _ _ _ _ (yh (ya (yK (zv (zx (fu:=fu) T) (hr.mono (by decide)) rfl T.f__law_draw.m T.f__law_draw.F.kp T.f__law_draw.b .nil zK (@za _ _ _ _ _ (pv 0) (@za _ _ _ _ _ zj (@za _ _ _ _ _ zj (@za _ _ _ _ _ zj zg zc) zc) zc) zf)) zj)) (@zl _ _ _ _ _ (@zG _ _ 2 _ _ _ _ Yo.nd rfl (Or.inr rfl) (zv (WM (fu:=fu) T) (hr.mono (by decide)) rfl T.f__law_boxes.m T.f__law_boxes.F.kp T.f__law_boxes.b .nil zK (@za _ _ _ _ _ (pv 0) (@za _ _ _ _ _ zj (@za _ _ _ _ _ zj zg zc) zc) zf)) (by rfl) (by walk_at "q1")) (@zr _ _ _ (@zG _ _ 1 _ _ _ _ Yo.nd rfl (Or.inl rfl) (yT (yG (K:=K)) rfl T.n_tuple boot_tuple (za (xr (N':=["_law_k","_law_names","_law_script"]) rfl (blk (osc:=zB zdx) rfl (by decide+kernel)) (yV (Zf (i:=2) rfl rfl (Zf (i:=0) rfl rfl yU))) (xm rfl T.n_range (@za _ _ _ _ _ zj zg zc)) (yp rfl) (fun C s₀ H₀ fp=>zO (i:=0) (show (["_law_k","_law_names","_law_script"]:List Str).Nodup from by decide+kernel) rfl (Or.inl rfl)) (fun C s₀ H₀ fp=>xf) (fun C s₀ H₀ fp=>(@zp _ _ _ _ _ (@za _ _ _ _ _ (@yc _ _ _ _ _ _ _ (zV (K:=K)) (@yc _ _ _ _ _ _ _ (zV (K:=K)) (pv 1) (pv 0) (fun _ _=>rfl)) zj (fun _ _=>rfl)) (@za _ _ _ _ _ (@yc _ _ _ _ _ _ _ (xq (K:=K)) (@xb _ _ _ _ (@za _ _ _ _ _ zj (@za _ _ _ _ _ zj (@za _ _ _ _ _ zj (@za _ _ _ _ _ zj zg zc) zc) zc) zc)) (zL vN (zL yw (pv 0) (zv (zx (fu:=fu) T) (hr.mono (by decide)) rfl T.f__law_draw.m T.f__law_draw.F.kp T.f__law_draw.b .nil WI (@za _ _ _ _ _ (pv 2) (@za _ _ _ _ _ zj (@za _ _ _ _ _ zj (@za _ _ _ _ _ zj zg zc) zc) zc) zf))) zj) (fun _ _=>rfl)) zg yk) yk)))) zg)) (by rfl) (by walk_at "q1")))) zM) (@zl _ _ _ _ _ (@zG _ _ 3 _ _ _ _ Yo.nd rfl (Or.inl rfl) (zv (zb4 (fu:=fu) T) (hr.mono (by decide)) rfl T.f__law_top.m T.f__law_top.F.kp T.f__law_top.b .nil zK (@za _ _ _ _ _ (pv 0) (@za _ _ _ _ _ (pv 1) (@za _ _ _ _ _ zj (@za _ _ _ _ _ (zQ (zao rfl) rfl T.n_min boot_min (@za _ _ _ _ _ zj (@za _ _ _ _ _ (zQ (yv (K:=K)) rfl T.n_len boot_len (@za _ _ _ _ _ (pv 0) zg zf)) zg zZ) zc)) zg zZ) zc) zf) zf)) (by rfl) (by walk_at "q1")) (@zl _ _ _ _ _ (XH PassesOwn.leaving (ya (XA (zv (ZM (fu:=fu) T) (hr.mono (by decide)) rfl T.f__law_length.m T.f__law_length.F.kp T.f__law_length.b .nil zK (@za _ _ _ _ _ (pv 3) zg zf)) zj)) (@zr _ _ _ (@zG _ _ 3 _ _ _ _ Yo.nd rfl (Or.inl rfl) (xp (Zy (K:=K)) (pv 3) xJ (xK (zam VM zj))) (by rfl) (by walk_at "q1")))) (@zl _ _ _ _ _ (wq (zv (zaf (fu:=fu) T) (hr.mono (by decide)) rfl T.f__law_built.m T.f__law_built.F.kp T.f__law_built.b .nil zK (@za _ _ _ _ _ (pv 0) (@za _ _ _ _ _ (pv 1) (@za _ _ _ _ _ (pv 3) zg zf) zf) zf)) (we (K:=K) (n:=3) rfl (yo (zO (i:=4) Yo.nd rfl (Or.inl rfl)) (yo (zO (i:=1) Yo.nd rfl (Or.inl rfl)) (yo (zO (i:=3) Yo.nd rfl (Or.inl rfl)) wd))))) (@zl _ _ _ _ _ (@zG _ _ 5 _ _ _ _ Yo.nd rfl (Or.inl rfl) (zv (zab (fu:=fu) T) (hr.mono (by decide)) rfl T.f_is_program.m T.f_is_program.F.kp T.f_is_program.b .nil zK (@za _ _ _ _ _ (@zp _ _ _ _ _ (@za _ _ _ _ _ (pv 1) (@za _ _ _ _ _ (yT (yG (K:=K)) rfl T.n_tuple boot_tuple (@za _ _ _ _ _ (pv 3) zg zf)) zg zZ) zf)) zg zn)) (by rfl) (by walk_at "q1")) (@zr _ _ _ (@zI _ _ _ _ (VL (zQ (Wu (K:=K)) rfl T.n_isinstance boot_isinstance (za (pv 5) (za (Ut (v:= .ty "bool") rfl T.n_bool boot_bool rfl) zg))) (VJ (zc4 Za (pv 5) (VL (pv 4) (VJ (YI (zcY (zv (ZM (fu:=fu) T) (hr.mono (by decide)) rfl T.f__law_length.m T.f__law_length.F.kp T.f__law_length.b .nil zK (@za _ _ _ _ _ (pv 3) zg zf)) zj)))) (by rfl)))))))))))),yX (n:=1) (k:=5) (b:=zcL fu) rfl (zo (zC (zw (zb (ze 0) (zb (zw (zb (ze 0) (zb (zh _) (zb (zh _) (zb (zh _) zi))))) (zb (zh _) zi)))) zm) (zo (yi (yS (yL (zw (zb (ze 0) (zb (zh _) (zb (zh _) (zb (zh _) zi))))) (zh _))) (zo (zC (zw (zb (ze 0) (zb (zh _) (zb (zh _) zi)))) zm) (zC (yn xx (zb (yW (cap:=[none,some 2,some 0]) (xo (zh _)) zm xg (zq (zb (zu yj (zu yj (ze 1) (ze 0)) (zh _)) (zb (zu wv (xc (zb (zh _) (zb (zh _) (zb (zh _) (zb (zh _) zi))))) (zu vO (zu yx (ze 0) (zw (zb (ze 2) (zb (zh _) (zb (zh _) (zb (zh _) zi)))))) (zh _))) zi)))) zi)) zm)) zN) (zo (zC (zw (zb (ze 0) (zb (ze 1) (zb (zh _) (zb (yn zeV (zb (zh _) (zb (yn xz (zb (ze 0) zi)) zi))) zi))))) zm) (zo (XU (yS (XC (zw (zb (ze 3) zi)) (zh _))) (zC (WT (ze 3) Zd (xL (zaz VU (zh _)))) zm)) (zo (zC (zw (zb (ze 0) (zb (ze 1) (zb (ze 3) zi)))) (vm (yq zm (yq zm (yq zm wj))))) (zo (zC (zw (zb (zq (zb (ze 1) (zb (yn xx (zb (ze 3) zi)) zi))) zi)) zm) (zJ (VR (za1 zbR (ze 5)) (zu ww (ze 5) (VR (ze 4) (zdg (zw (zb (ze 3) zi)) (zh _)))))))))))) h⟩)
end

section
open Mth
noncomputable def Big (fu:Nat):Prop:=2^9000≤fu
theorem Big.le {fu:Nat} (h:Big fu):1000000≤fu:=Nat.le_trans (show 1000000≤2^20 by decide) (Nat.le_trans (Nat.pow_le_pow_right (by decide) (by decide)) h)
local macro_rules | `(tactic| walk_at "w1") => `(tactic| first
 | with_reducible apply zjP | ((with_reducible apply zhZ); exact rfl) | with_reducible apply zh0 | with_reducible apply zh3 | with_reducible apply zP | with_reducible apply zgo
 | with_reducible apply zW | ((with_reducible apply zh4); try dsimp only [List.set]) | with_reducible apply zgn | with_reducible apply Wa | with_reducible apply wx_par
 | with_reducible apply zje | with_reducible apply zjf | with_reducible apply XD | with_reducible apply zjg | with_reducible apply XZ
 | with_reducible apply zgk | with_reducible apply zh1 | with_reducible apply zh2 | with_reducible apply zjh | with_reducible apply zgl
 | with_reducible apply zeX | with_reducible apply zji | with_reducible apply wx_dict0
 | with_reducible apply zh5 | with_reducible apply zh6 | with_reducible apply zh7 | with_reducible apply zjj | with_reducible apply zjk | with_reducible apply zjl | with_reducible apply ox_ge | with_reducible apply zh8 | with_reducible apply zh9
 | with_reducible apply zic | with_reducible apply zid | with_reducible apply zie | with_reducible apply zif
 | ((with_reducible apply zib); exact ⟨by decide, by decide, by decide⟩)
 | ((with_reducible apply zia); first | exact .inl (by decide) | exact .inr (by decide))
 | with_reducible refine Exists.intro _ (And.intro rfl ?_))
local macro_rules | `(tactic| walk_at "w") => `(tactic| repeat walk_at "w1")
local macro_rules | `(tactic| walk_at "wr") => `(tactic| (refine Wb rfl rfl ?_; dsimp only [List.map, HAppend.hAppend, Append.append, List.append, List.replicate]))
section
variable {fu:Nat} {S S' S2:Sto} {x y:Xv}
theorem yg {c:Prop} [Decidable c] {A B:Prop} (h:c→A) (g:¬c→B):(decide c=true→A)∧(decide c=false→B):=⟨fun e=>h (of_decide_eq_true e),fun e=>g (of_decide_eq_false e)⟩
noncomputable def Kp (w:Nat→Prop) (S S':Sto):Prop:=S.length≤S'.length∧∀(n:Nat) c,S[n]? =some c→¬w n→S'[n]? =some c
theorem Kp.refl (w:Nat→Prop):Kp w S S:=⟨Nat.le_refl _,fun _ _ e _=>e⟩
theorem Kp.trans {w:Nat→Prop} (a:Kp w S S') (b:Kp w S' S2):Kp w S S2:=⟨Nat.le_trans a.1 b.1,fun n c e z=>b.2 n c (a.2 n c e z) z⟩
theorem Kp.mono {w w':Nat→Prop} (a:Kp w S S') (h:∀n,w n→w' n):Kp w' S S':=⟨a.1,fun n c e z=>a.2 n c e fun q=>z (h n q)⟩
theorem Kp.pre {w:Nat→Prop} (p:S<+:S'):Kp w S S':=⟨p.length_le,fun n c e _=>by
 obtain ⟨T,rfl⟩:=p
 rw [List.getElem?_append_left (List.getElem?_eq_some_iff.1 e).1]
 exact e⟩
theorem Kp.app {w:Nat→Prop} {T:Sto} (a:Kp w S S'):Kp w S (S'++T):=a.trans (Kp.pre (List.prefix_append _ _))
theorem Kp.set {w:Nat→Prop} {n:Nat} {c:Ce} (a:Kp w S S') (h:w n∨S.length≤n):Kp w S (S'.set n c):=⟨by simpa using a.1,fun m d e z=>by
 rw [List.getElem?_set]
 have hm:=(List.getElem?_eq_some_iff.1 e).1
 rw [if_neg fun q=>by
  subst q
  rcases h with h|h
  ·exact z h
  ·omega]
 exact a.2 m d e z⟩
theorem zU {c:Ce}:(S++[c])[S.length]? =some c:=by simp
theorem vZ {n:Nat} {c c':Ce} (h:S[n]? =some c):(S.set n c')[n]? =some c':=by rw [List.getElem?_set,if_pos rfl,if_pos (List.getElem?_eq_some_iff.1 h).1]
theorem zfk {n m:Nat} {c c':Ce} (h:S[m]? =some c) (q:n≠m):(S.set n c')[m]? =some c:=by rw [List.getElem?_set,if_neg q];exact h
theorem zb5 {n:Nat} (h:n≤100):n<sizeLine:=Nat.lt_of_le_of_lt h (by decide)
noncomputable abbrev Kn (S S':Sto):Prop:=Kp (fun _=>False) S S'
theorem Kn.at {n:Nat} {c:Ce} (k:Kn S S') (h:S[n]? =some c):S'[n]? =some c:=k.2 n c h (fun z=>z)
theorem Kn.lst {n:Nat} {l:List Xv} (k:Kn S S') (h:yB S (.ref n)=some l):yB S' (.ref n)=some l:=by
 unfold yB at h ⊢
 dsimp only at h ⊢
 cases e:S[n]? with
 |none=>rw [e] at h;cases h
 |some c=>rw [e] at h;rw [k.at e];exact h
noncomputable def Sc (ns:List Int) (S:Sto):Prop:=yB S (.ref 0)=some (ns.map Xv.int)
theorem Sc.keep {ns:List Int} (h:Sc ns S) (k:Kn S S'):Sc ns S':=Kn.lst k h
theorem zir {ns:List Int} {k p m:Int} (hs:Sc ns S) (hk:0≤k∧k≤1000) (hp:0<p) (hm:0<m):W (zt fu [.ref 0,.int k,.int p,.int m] S) fun v S'=>∃c,v= .int c∧0≤c∧c<m∧c=(((if 0<ns.length then ns.getD (k % ns.length).toNat 0 else 0)+k*k)*48271+11) % p % m∧S=S':=by
 have hb:intBits k+intBits k≤134217728:=by
  have:intBits k≤10:=PySem.intBits_le_iff.mpr (by omega)
  omega
 walk_at "wr";unfold Xo;walk_at "w"
 refine xY (fun ρ S2=>ρ=[some (.ref 0),some (.int k),some (.int p),some (.int m),some (.int (if 0<ns.length then ns.getD (k % ns.length).toNat 0 else 0))]∧S2=S) (zS ?_) ?_
 ·walk_at "w"
  refine vR hs ?_
  walk_at "w"
  rw [List.length_map]
  refine yg (fun h=> ?_) (fun h=> ?_)
  ·have h:0<ns.length:=by omega
   walk_at "w"
   refine vR hs ?_
   walk_at "w"
   rw [List.length_map]
   refine vQ (by omega) ?_
   have h1:=Int.emod_nonneg k (show (ns.length:Int)≠0 by omega)
   have h2:=Int.emod_lt_of_pos k (show (0:Int)<ns.length by omega)
   have h3:(k % (ns.length:Int)).toNat<ns.length:=by omega
   refine wy hs (Wc h1 (by rw [List.getElem?_map,List.getElem?_eq_getElem h3];rfl)) ?_
   walk_at "w"
   refine ⟨?_,rfl⟩
   rw [if_pos h,List.getD_eq_getElem?_getD,List.getElem?_eq_getElem h3]
   rfl
  ·walk_at "w"
   refine ⟨?_,rfl⟩
   rw [if_neg (by omega)]
 ·rintro ρ S2 ⟨rfl,rfl⟩
  walk_at "w"
  refine YY hb ?_
  walk_at "w"
  refine vQ hp ?_
  walk_at "w"
  refine vQ hm ?_
  exact ⟨_,rfl,Int.emod_nonneg _ (by omega),Int.emod_lt_of_pos _ hm,rfl,rfl⟩
end
section
variable {fu:Nat} {S S' S2:Sto} {x y:Xv} {ns:List Int}
noncomputable def yP (ns:List Int) (k p m:Int):Int:=(((if 0<ns.length then ns.getD (k % ns.length).toNat 0 else 0)+k*k)*48271+11) % p % m
theorem yt {k p m:Int} (hs:Sc ns S) (hk:0≤k∧k≤1000) (hp:0<p) (hm:0<m):W (zt fu [.ref 0,.int k,.int p,.int m] S) fun v S'=>v= .int (yP ns k p m)∧0≤yP ns k p m∧yP ns k p m<m∧S=S':=by
 refine (zir hs hk hp hm).imp ?_
 rintro _ _ ⟨c,rfl,h1,h2,rfl,rfl⟩
 exact ⟨rfl,h1,h2,rfl⟩
theorem Wx {P:Xv→Sto→Prop} {a b:Str} (h:a.length+b.length≤sizeLine) (k:P (.str (a++b)) S):WO (XX (.str a) (.str b) S) P:= .of (by unfold XX;exact if_pos h) k
theorem zis {P:Xv→Sto→Prop} {a:Str} {lo hi:Option Int} (h:a.length≤sizeLine) (k:P (.str (Txt.slice a lo hi)) S):WO (zbL (.str a) lo hi S) P:= .of (by unfold zbL;exact if_pos h) k
theorem xS {n:Nat} (h:n≤100):n≤sizeLine:=Nat.le_of_lt (zb5 h)
theorem zit {v:Int} (h0:0≤v) (h1:v<26):zaX (.str "abcdefghijklmnopqrstuvwxyz") (.int v) S=some (.str ⟨#[97+v.toNat]⟩,S):=by
 have all:∀n:Fin 26,(Str.ofString "abcdefghijklmnopqrstuvwxyz").cps.toList[n.1]? =some (97+n.1):=by decide
 obtain ⟨n,rfl⟩:∃n:Nat,v=n:=⟨v.toNat,by omega⟩
 have e:=all ⟨n,by omega⟩
 unfold zaX zi9
 dsimp only
 rw [if_pos (by decide),Wc (by omega) (by rw [Int.toNat_natCast];exact e)]
 rfl
noncomputable def AZ (z:Str):Prop:=∀c∈z.cps.toList,97≤c∧c≤122
theorem zbh (a b:Str):(a++b).cps.toList=a.cps.toList++b.cps.toList:=by
 show (a.cps++b.cps).toList=_
 simp
theorem AZ.app {a b:Str} (h:AZ a) (g:AZ b):AZ (a++b):=fun c hc=>by
 rw [zbh,List.mem_append] at hc
 exact hc.elim (h c) (g c)
theorem AZ.one {n:Nat} (h:n<26):AZ ⟨#[97+n]⟩:=fun c hc=>by
 have:c=97+n:=by simpa using hc
 omega
theorem Wy (z:Str):z.cps.toList.length=z.length:=by simp [Str.length]
noncomputable def sg (z:Str) (n:Nat):Option Nat:=z.cps.toList[n]?
theorem zhb {a b:Str} {n:Nat} (h:n<a.length):sg (a++b) n=sg a n:=by
 unfold sg
 rw [zbh,List.getElem?_append_left (by rw [Wy];exact h)]
theorem ziu {a:Str} {c:Nat}:sg (a++⟨#[c]⟩) a.length=some c:=by
 unfold sg
 rw [zbh,List.getElem?_append_right (by rw [Wy];exact Nat.le_refl _),Wy,Nat.sub_self]
 rfl
noncomputable def ltr (ns:List Int) (k:Int):Nat:=97+((k+yP ns 4 10069 26) % 26).toNat
structure Nm (ns:List Int) (k:Int) (a:Nat) (z:Str):Prop where
 le:z.length≤8
 lt:a<z.length
 az:AZ z
 at_:sg z a=some (ltr ns k)
theorem ziv {k:Int} {a:Nat} (hs:Sc ns S) (hk:0≤k∧k<10) (ha:a<8):W (Xq fu [.ref 0,.int k,.int (a:Int)] S) fun v S'=>∃z,v= .str z∧Nm ns k a z∧S=S':=by
 walk_at "wr";unfold Xp;walk_at "w"
 refine xY (fun ρ S2=>∃n:Nat,ρ=[some (.ref 0),some (.int k),some (.int (a:Int)),some (.str "abcdefghijklmnopqrstuvwxyz"),some (.int (n:Int)),none,none,none]∧a<n∧n≤8∧S2=S) (zS ?_) ?_
 ·walk_at "w"
  refine (yt hs (by decide) (by decide) (by decide)).imp ?_
  rintro _ _ ⟨rfl,_,_,rfl⟩
  walk_at "w"
  refine yg (fun h=> ?_) (fun h=> ?_)
  ·walk_at "w"
   refine (yt hs ⟨by omega,by omega⟩ (by decide) (by omega)).imp ?_
   rintro _ _ ⟨rfl,h0,h1,rfl⟩
   walk_at "w"
   obtain ⟨c,hc⟩:∃c:Nat,yP ns (20+k) 10037 (8-(a:Int))=c:=⟨(yP ns (20+k) 10037 (8-(a:Int))).toNat,by omega⟩
   rw [hc] at h0 h1 ⊢
   exact ⟨a+1+c,by rw [show ((a+1+c:Nat):Int)=(a:Int)+1+c by omega],by omega,by omega,rfl⟩
  ·walk_at "w"
   exact ⟨Nat.lt_succ_self a,ha,rfl⟩
 ·rintro ρ S2 ⟨n,rfl,h1,h8,rfl⟩
  walk_at "w"
  refine Yj (WV ?_)
  walk_at "w"
  refine ⟨⟨by omega,by omega⟩,_,rfl,?_⟩
  refine Zh (fun i ρ S3=>∃(z:Str) (a6 a7:Option Xv),ρ=[some (.ref 0),some (.int k),some (.int (a:Int)),some (.str "abcdefghijklmnopqrstuvwxyz"),some (.int (n:Int)),some (.str z),a6,a7]∧z.length=i∧AZ z∧(a<i→sg z a=some (ltr ns k))∧S3=S2) (fun _ _ _ _ _=>rfl) ?_ ?_ ?_
  ·rintro i w ρ S3 hw ⟨z,a6,a7,rfl,hz,az,hat,rfl⟩
   obtain ⟨hi,rfl⟩:=Zq hw
   rw [Int.zero_add]
   refine .of rfl ?_
   dsimp only [List.set]
   have hii:(i:Int)<8:=by omega
   walk_at "w"
   refine YY (by have:intBits (i:Int)≤10:=PySem.intBits_le_iff.mpr (by omega);omega) ?_
   walk_at "w"
   refine (yt hs (by decide) (by decide) (by decide)).imp ?_
   rintro _ _ ⟨rfl,_,_,rfl⟩
   walk_at "w"
   refine xY (fun ρ S4=>∃c:Int,ρ=[some (.ref 0),some (.int k),some (.int (a:Int)),some (.str "abcdefghijklmnopqrstuvwxyz"),some (.int (n:Int)),some (.str z),some (.int (i:Int)),some (.int c)]∧S4=S3) (zS ?_) ?_
   ·walk_at "w"
    refine (yt hs (by decide) (by decide) (by decide)).imp ?_
    rintro _ _ ⟨rfl,_,_,rfl⟩
    walk_at "w"
    refine yg (fun h=> ?_) (fun h=> ?_)
    ·walk_at "w"
     refine (yt hs ⟨by omega,by omega⟩ (by decide) (by decide)).imp ?_
     rintro _ _ ⟨rfl,_,_,rfl⟩
     walk_at "w"
     exact rfl
    ·walk_at "w"
     exact rfl
   ·rintro ρ S4 ⟨c,rfl,rfl⟩
    walk_at "w"
    refine xY (fun ρ S5=>∃c:Int,ρ=[some (.ref 0),some (.int k),some (.int (a:Int)),some (.str "abcdefghijklmnopqrstuvwxyz"),some (.int (n:Int)),some (.str z),some (.int (i:Int)),some (.int c)]∧(i=a→c=k+yP ns 4 10069 26)∧S5=S4) (zS ?_) ?_
    ·walk_at "w"
     refine yg (fun h=> ?_) (fun h=> ?_)
     ·walk_at "w"
      refine (yt hs (by decide) (by decide) (by decide)).imp ?_
      rintro _ _ ⟨rfl,_,_,rfl⟩
      walk_at "w"
      exact ⟨fun _=>rfl,rfl⟩
     ·walk_at "w"
      exact ⟨fun z=>absurd (by rw [z]) h,rfl⟩
    ·rintro ρ S5 ⟨c2,rfl,hc2,rfl⟩
     walk_at "w"
     refine vQ (by decide) ?_
     have e0:=Int.emod_nonneg c2 (show (26:Int)≠0 by decide)
     have e1:=Int.emod_lt_of_pos c2 (show (0:Int)<26 by decide)
     refine WO.of (zit (S:=S5) e0 e1) ?_
     have hc:(⟨#[97+(c2 % 26).toNat]⟩:Str).length=1:=rfl
     refine Wx (xS (by omega)) ?_
     walk_at "w"
     refine ⟨_,_,_,rfl,by rw [Str.length_append];omega,az.app (AZ.one (by omega)),fun h=> ?_,rfl⟩
     by_cases hia:a<i
     ·rw [zhb (by omega)]
      exact hat hia
     ·obtain rfl:i=a:=by omega
      rw [hc2 rfl]
      have:=ziu (a:=z) (c:=ltr ns k)
      rw [hz] at this
      exact this
  ·exact ⟨_,none,none,rfl,rfl,(fun c hc=>by cases hc),(fun h=>by omega),rfl⟩
  ·rintro ρ S3 ⟨z,a6,a7,rfl,hz,az,hat,rfl⟩
   rw [xR,Int.toNat_natCast] at hz hat
   walk_at "w"
   exact ⟨⟨by omega,by omega,az,hat h1⟩,rfl⟩
end
section
variable {fu:Nat} {S S' S2:Sto} {x y:Xv} {ns:List Int}
noncomputable def yF (b:Str×Int):Xv:= .tup [.str b.1,.int b.2]
noncomputable def xP:List (Str×Int)→Int
 |[]=>1
 |b::r=>b.2*xP r
theorem ZT (b:Str×Int):∀l:List (Str×Int),xP (l++[b])=xP l*b.2
 |[]=>by simp [xP]
 |c::r=>by
  show c.2*xP (r++[b])=c.2*xP r*b.2
  rw [ZT b r,Int.mul_assoc]
structure Nm1 (ns:List Int) (a:Nat) (z0 z:Str):Prop where
 le:z.length≤8
 pos:1≤z.length
 az:AZ z
 ne:z.length≠z0.length
 at_:a<z.length→sg z a=some (ltr ns 0)
noncomputable def NmB (ns:List Int) (a:Nat) (bs:List (Str×Int)) (m:Nat) (z:Str):Prop:=Nm ns m a z∨(m=1∧∃b0,bs[0]? =some b0∧Nm1 ns a b0.1 z)
theorem zfl {i j:Nat} (hi:i<10) (hj:j<10) (h:ltr ns i=ltr ns j):i=j:=by
 unfold ltr at h
 have h1:=Int.emod_nonneg ((i:Int)+yP ns 4 10069 26) (show (26:Int)≠0 by decide)
 have h2:=Int.emod_nonneg ((j:Int)+yP ns 4 10069 26) (show (26:Int)≠0 by decide)
 omega
theorem NmB.ok {a m:Nat} {bs:List (Str×Int)} {z:Str} (h:NmB ns a bs m z):1≤z.length∧z.length≤8∧AZ z:=by
 rcases h with h|⟨_,_,_,h⟩
 ·exact ⟨by have:=h.lt;omega,h.le,h.az⟩
 ·exact ⟨h.pos,h.le,h.az⟩
theorem ziw {a:Nat} {bs:List (Str×Int)} (h:∀(m:Nat) b,bs[m]? =some b→NmB ns a bs m b.1) (hl:bs.length≤10) {i j:Nat} {b c:Str×Int} (hi:bs[i]? =some b) (hj:bs[j]? =some c) (hlt:i<j):b.1≠c.1:=by
 have li:=(List.getElem?_eq_some_iff.1 hi).1
 have lj:=(List.getElem?_eq_some_iff.1 hj).1
 intro e
 have nb:=h i b hi
 have nc:=h j c hj
 rw [e] at nb
 rcases nc with nc|⟨rfl,b0,h0,nc⟩
 ·rcases nb with nb|⟨rfl,b0,h0,nb⟩
  ·have:=nb.at_.symm.trans nc.at_
   have:=zfl (by omega) (by omega) (Option.some.inj this)
   omega
  ·have:=(nb.at_ nc.lt).symm.trans nc.at_
   have:=zfl (i:=0) (j:=j) (by omega) (by omega) (Option.some.inj this)
   omega
 ·obtain rfl:i=0:=by omega
  rw [h0] at hi
  cases hi
  exact nc.ne (by rw [e])
structure YE (most:Int) (bs:List (Str×Int)):Prop where
 len:bs.length≤10
 nm:∀b∈bs,1≤b.1.length∧b.1.length≤8∧AZ b.1
 sz:∀b∈bs,1≤b.2∧b.2≤9
 nd:(bs.map (·.1)).Nodup
 pr:xP bs≤most
 p0:1≤xP bs
theorem zdy {P:Xv→Sto→Prop} {u:Str} (h:u.length≤sizeLine) (k:P (.int u.length) S):WO (zaC [.str u] S) P:= .of (by unfold zaC;exact if_pos h) k
theorem VD {p:Int} (h:0≤p) (h1:p≤100000):intBits p≤20:=PySem.intBits_le_iff.mpr (by omega)
theorem xh {P:Xv→Sto→Prop} {n:Nat} {l:List Xv} (h:S[n]? =some (.lst l)) (k:P (.tup l) S):WO (xQ [.ref n] S) P:= .of (by unfold xQ;dsimp only;rw [zE h];rfl) k
theorem zdz {cnt most:Int} (hs:Sc ns S) (hc:0≤cnt∧cnt≤10) (hm:1≤most∧most≤1000):W (vz fu [.ref 0,.int cnt,.int most] S) fun v S'=>∃bs,v= .tup (bs.map yF)∧YE most bs∧(bs.length:Int)=cnt∧Kn S S':=by
 walk_at "wr";unfold Yr;walk_at "w"
 refine (yt hs (by decide) (by decide) (by decide)).imp ?_
 rintro _ _ ⟨rfl,a0,a1,rfl⟩
 obtain ⟨a,ha⟩:∃a:Nat,yP ns 5 10079 8=a:=⟨(yP ns 5 10079 8).toNat,by omega⟩
 rw [ha] at a0 a1 ⊢
 walk_at "w"
 refine Yj (WV ?_)
 walk_at "w"
 refine ⟨⟨by omega,by omega⟩,_,rfl,?_⟩
 refine Zh (fun i ρ S3=>∃(bs:List (Str×Int)) (a6 a7 a8:Option Xv),ρ=[some (.ref 0),some (.int cnt),some (.int most),some (.int (a:Int)),some (.ref S.length),some (.int (xP bs)),a6,a7,a8]∧bs.length=i∧xP bs≤most∧1≤xP bs∧(∀b∈bs,1≤b.2∧b.2≤9)∧(∀(m:Nat) b,bs[m]? =some b→NmB ns a bs m b.1)∧S3[S.length]? =some (.lst (bs.map yF))∧Kn S S3) (fun _ _ _ _ _=>rfl) ?_ ?_ ?_
 ·rintro i w ρ S3 hw ⟨bs,a6,a7,a8,rfl,hbl,hp,hp0,hsz,hnm,hat,kn⟩
  obtain ⟨hi,rfl⟩:=Zq hw
  rw [Int.zero_add]
  have hs3:=hs.keep kn
  refine .of rfl ?_
  dsimp only [List.set]
  walk_at "w"
  refine (yt hs3 ⟨by omega,by omega⟩ (by decide) (by decide)).imp ?_
  rintro _ _ ⟨rfl,d0,d1,rfl⟩
  walk_at "w"
  generalize yP ns (6+(i:Int)) 10091 9=sz at d0 d1
  refine xY (fun ρ S4=>∃s:Int,ρ=[some (.ref 0),some (.int cnt),some (.int most),some (.int (a:Int)),some (.ref S.length),some (.int (xP bs)),some (.int (i:Int)),some (.int s),a8]∧1≤s∧s≤9∧xP bs*s≤most∧S4=S3) (zS ?_) ?_
  ·walk_at "w"
   refine YY (by have:=VD (p:=xP bs) (by omega) (by omega);have:=VD (p:=1+sz) (by omega) (by omega);omega) ?_
   walk_at "w"
   refine yg (fun h=> ?_) (fun h=> ?_)
   ·walk_at "w"
    exact ⟨by omega,by omega,by omega,rfl⟩
   ·walk_at "w"
    exact ⟨by omega,by omega,by omega,rfl⟩
  rintro ρ S4 ⟨s,rfl,s1,s9,hps,rfl⟩
  have hps0:1≤xP bs*s:=by
   have:=Int.mul_le_mul hp0 s1 (by omega) (by omega)
   omega
  walk_at "w"
  refine YY (by have:=VD (p:=xP bs) (by omega) (by omega);have:=VD (p:=s) (by omega) (by omega);omega) ?_
  walk_at "w"
  refine (ziv hs3 ⟨by omega,by omega⟩ (by omega)).imp ?_
  rintro _ _ ⟨z,rfl,hz,rfl⟩
  walk_at "w"
  refine xY (fun ρ S5=>∃z:Str,ρ=[some (.ref 0),some (.int cnt),some (.int most),some (.int (a:Int)),some (.ref S.length),some (.int (xP bs*s)),some (.int (i:Int)),some (.int s),some (.str z)]∧NmB ns a bs i z∧S5=S4) (zS (wx ?_)) ?_
  ·walk_at "w"
   refine yg (fun h=> ?_) (fun h=> ?_)
   ·obtain rfl:i=1:=by omega
    walk_at "w"
    refine (yt hs3 (by decide) (by decide) (by decide)).imp ?_
    rintro _ _ ⟨rfl,_,_,rfl⟩
    walk_at "w"
    refine yg (fun h=> ?_) (fun h=> ?_)
    ·match bs,hbl with
     |[(z0,s0)],_=>
      have n0:Nm ns 0 a z0:=by
       rcases hnm 0 (z0,s0) rfl with n0|⟨e,_⟩
       ·exact n0
       ·cases e
      have l0:=n0.le
      have lt0:=n0.lt
      walk_at "w"
      refine wy (zE hat) (z:=yF (z0,s0)) rfl ?_
      unfold yF
      walk_at "w"
      show WO (zbL (.str z0) none (some (-1)) _) _
      refine zis (xS (by omega)) ?_
      have hsl:(Txt.slice z0 none (some (-1))).length=z0.length-1:=by
       rw [←Wy,VQ (by omega),List.length_take,Wy]
       omega
      walk_at "w"
      refine zS ?_
      walk_at "w"
      refine zdy (by rw [hsl];exact xS (by omega)) ?_
      walk_at "w"
      rw [hsl]
      refine yg (fun h=> ?_) (fun h=> ?_)
      ·walk_at "w"
       refine wy (zE hat) (z:=yF (z0,s0)) rfl ?_
       unfold yF
       walk_at "w"
       have h1:(("e":Str)).length=1:=rfl
       show WO (XX (.str z0) (.str "e") _) _
       refine Wx (xS (by omega)) ?_
       walk_at "w"
       refine ⟨.inr ⟨rfl,_,rfl,⟨by rw [Str.length_append];omega,by rw [Str.length_append];omega,n0.az.app (AZ.one (n:=4) (by decide)),by rw [Str.length_append];show z0.length+1≠z0.length;omega,fun _=>by rw [zhb lt0];exact n0.at_⟩⟩,rfl⟩
      ·walk_at "w"
       refine ⟨.inr ⟨rfl,_,rfl,⟨by omega,by omega,fun c hc=> ?_,by show _≠z0.length;omega,fun hh=> ?_⟩⟩,rfl⟩
       ·rw [VQ (by omega)] at hc
        exact n0.az c (List.mem_of_mem_take hc)
       ·have:=n0.at_
        unfold sg at this ⊢
        rw [VQ (by omega),List.getElem?_take,if_pos (by omega)]
        exact this
    ·walk_at "w"
     exact ⟨.inl hz,rfl⟩
   ·refine ⟨(fun z=>by cases z),fun _=> ?_⟩
    walk_at "w"
    exact ⟨.inl hz,rfl⟩
  rintro ρ S5 ⟨z,rfl,hz,rfl⟩
  walk_at "w"
  refine Uh ?_
  walk_at "w"
  refine ⟨⟨_,zE hat⟩,?_⟩
  walk_at "w"
  refine Zr (wE hat) (by rw [List.length_map];exact zb5 (by omega)) ?_
  walk_at "w"
  refine ⟨bs++[(z,s)],some (.int (i:Int)),some (.int s),some (.str z),?_,by rw [List.length_append,hbl];rfl,by rw [ZT];exact hps,by rw [ZT];exact hps0,?_,?_,?_,kn.set (.inr (Nat.le_refl _))⟩
  ·rw [ZT]
  ·intro b hb
   rw [List.mem_append,List.mem_singleton] at hb
   rcases hb with hb|rfl
   ·exact hsz b hb
   ·exact ⟨s1,s9⟩
  ·intro m b hb
   have up:∀{m' z'},NmB ns a bs m' z'→NmB ns a (bs++[(z,s)]) m' z':=by
    rintro m' z' (h|⟨e,b0,e0,h⟩)
    ·exact .inl h
    ·exact .inr ⟨e,b0,by rw [List.getElem?_append_left (List.getElem?_eq_some_iff.1 e0).1];exact e0,h⟩
   by_cases hmi:m<bs.length
   ·rw [List.getElem?_append_left hmi] at hb
    exact up (hnm m b hb)
   ·have hm2:=(List.getElem?_eq_some_iff.1 hb).1
    rw [List.length_append,List.length_singleton] at hm2
    obtain rfl:m=bs.length:=by omega
    rw [List.getElem?_append_right (Nat.le_refl _),Nat.sub_self] at hb
    cases hb
    rw [hbl]
    exact up hz
  ·rw [vZ hat,List.map_append]
   rfl
 ·exact ⟨[],none,none,none,rfl,rfl,hm.1,by decide,(fun b hb=>by cases hb),(fun m b hb=>by simp at hb),zU,Kp.app (Kp.refl _)⟩
 ·rintro ρ S3 ⟨bs,a6,a7,a8,rfl,hbl,hp,hp0,hsz,hnm,hat,kn⟩
  rw [xR] at hbl
  walk_at "w"
  refine xh hat ?_
  refine ⟨bs,rfl,⟨by omega,fun b hb=> ?_,hsz,?_,hp,hp0⟩,by omega,kn⟩
  ·obtain ⟨m,hm',rfl⟩:=List.mem_iff_getElem.1 hb
   exact (hnm m _ (List.getElem?_eq_getElem hm')).ok
  ·rw [List.nodup_iff_pairwise_ne,List.pairwise_iff_getElem]
   intro i j hi hj hij
   rw [List.length_map] at hi hj
   rw [List.getElem_map,List.getElem_map]
   exact ziw hnm (by omega) (List.getElem?_eq_getElem hi) (List.getElem?_eq_getElem hj) hij
end
section
variable {fu:Nat} {S S' S2:Sto} {x y:Xv} {ns:List Int}
theorem Kn.refl:Kn S S:=Kp.refl _
theorem Kn.app {T:Sto} (k:Kn S S'):Kn S (S'++T):=Kp.app k
theorem vK {P:Xv→Sto→Prop} {ρ:Rho} {cap:List (Option Nat)} {n:TwI} {e:TwE} {xs:List Xv} {f:Nat→Xv} (hl:xs.length≤sizeLine) (hn:W (n ρ S) fun get S1=>(∀S',Kn S1 S'→get S'=some xs)∧Kn S S1)
  (he:∀(i:Nat) (x:Xv) S2,xs[i]? =some x→Kn S S2→W (e ((TL cap ρ).set 0 (some x)) S2) fun v S3=>v=f i∧Kn S2 S3)
  (k:∀S',Kn S S'→P (.ref S'.length) (S'++[.lst ((List.range xs.length).map f)])):W (xw cap n (gN 0) xy e ρ S) P:=by
 refine zdq (hn.imp ?_)
 rintro get S1 ⟨hg,k1⟩
 refine ⟨xs,hg S1 Kn.refl,?_⟩
 refine ze0 hl (fun i es S2=>Kn S1 S2∧es=(List.range i).map f) (fun _ _ _ _ h=>hg _ h.1) ?_ ⟨Kn.refl,rfl⟩ ?_
 ·rintro i w es S2 hw hel ⟨k2,rfl⟩
  refine .of rfl ?_
  walk_at "w"
  refine ⟨rfl,?_⟩
  refine (he i w S2 hw (k1.trans k2)).imp ?_
  rintro _ S3 ⟨rfl,k3⟩
  exact ⟨k2.trans k3,by rw [List.range_succ,List.map_append];rfl⟩
 ·rintro es S2 _ ⟨k2,rfl⟩
  exact k S2 (k1.trans k2)
theorem zb6:∀bs:List Bool,Vn (bs.map Xv.bl)=some bs
 |[]=>rfl
 |b::r=>by rw [List.map_cons];simp [Vn,zb6 r]
theorem ZU:∀bs:List Int,YB (bs.map Xv.int)=some bs
 |[]=>rfl
 |b::r=>by rw [List.map_cons];simp [YB,ZU r]
theorem zix {P:Xv→Sto→Prop} {l:List Xv} {bs:List Bool} (h:yB S x=some l) (h2:Vn l=some bs) (k:P (.bl (bs.all id)) S):WO (UR [x] S) P:= .of (by unfold UR;dsimp only;rw [h,Option.bind_some,h2];rfl) k
theorem zcN {P:Xv→Sto→Prop} {l:List Xv} {bs:List Int} (h:yB S x=some l) (h2:YB l=some bs) (k:P (.int bs.sum) S):WO (zcA [x] S) P:= .of (by unfold zcA;dsimp only;rw [h,Option.bind_some,h2];rfl) k
theorem zgC {P:Xv→Sto→Prop} {bs:List Int} (k:P (.int bs.sum) S):WO (zbN [.tup (bs.map Xv.int)] S) P:= .of (by unfold zbN;dsimp only [Xv.tupOf];rw [Option.bind_some,ZU];rfl) k
theorem vC {P:Xv→Sto→Prop} {l:List Xv} (k:P (.int l.length) S):WO (wL [.tup l] S) P:= .of rfl k
theorem Ui {ρ:Rho} {m:TwE} {xs:List Xv} (h:W (m ρ S) fun v S1=>v= .tup xs∧Kn S S1):W (iT m ρ S) fun get S1=>(∀S',Kn S1 S'→get S'=some xs)∧Kn S S1:=by
 refine zdp (h.imp ?_)
 rintro _ S1 ⟨rfl,k⟩
 exact ⟨xs,rfl,fun _ _=>rfl,k⟩
theorem zju {ρ:Rho} {m:TwE} {xs:List Xv} {n:Nat} (h:W (m ρ S) fun v S1=>v= .ref n∧yB S1 (.ref n)=some xs∧Kn S S1):W (iL m ρ S) fun get S1=>(∀S',Kn S1 S'→get S'=some xs)∧Kn S S1:=by
 refine zeZ (h.imp ?_)
 rintro _ S1 ⟨rfl,e,k⟩
 exact ⟨xs,e,fun S' k'=>Kn.lst k' e,k⟩
theorem Wq {P:Xv→Sto→Prop} {ρ:Rho} {cap:List (Option Nat)} {n:TwI} {e:TwE} {xs:List Xv} {p:Nat→Bool} (hl:xs.length≤sizeLine) (hn:W (n ρ S) fun get S1=>(∀S',Kn S1 S'→get S'=some xs)∧Kn S S1)
  (he:∀(i:Nat) (x:Xv) S2,xs[i]? =some x→Kn S S2→W (e ((TL cap ρ).set 0 (some x)) S2) fun v S3=>v= .bl (p i)∧Kn S2 S3)
  (k:∀S',Kn S S'→P (.bl (((List.range xs.length).map p).all id)) S'):W (eFn UR [xw cap n (gN 0) xy e] ρ S) P:=by
 walk_at "w"
 refine vK (f:=fun i=> .bl (p i)) hl hn he fun S' kn=> ?_
 walk_at "w"
 refine zix (zE zU) (bs:=(List.range xs.length).map p) ?_ (k _ kn.app)
 rw [←zb6,List.map_map]
 rfl
theorem zgD {i:Int}:W (Wm fu [.int i] S) fun v S'=>v= .bl true∧S=S':=by
 walk_at "wr";unfold Wl
 refine Wa (Ww ?_)
 walk_at "w"
 refine UT (v:=true) rfl ?_
 refine ⟨_,rfl,fun _=> ?_,fun z=>(by cases z)⟩
 walk_at "w"
 refine UT (v:=false) rfl ?_
 exact ⟨_,rfl,rfl,rfl⟩
theorem VE {v lo hi:Int}:W (xH fu [.int v,.int lo,.int hi] S) fun r S'=>r= .bl (decide (lo≤v∧v≤hi))∧S=S':=by
 walk_at "wr";unfold Yq
 refine Wa (Ww ?_)
 walk_at "w"
 refine zgD.imp ?_
 rintro _ _ ⟨rfl,rfl⟩
 refine ⟨_,rfl,fun _=> ?_,fun z=>(by cases z)⟩
 refine UV ?_
 walk_at "w"
 refine ⟨fun h=> ?_,fun h=> ?_⟩
 ·walk_at "w"
  have h:lo≤v:=of_decide_eq_true h
  refine ⟨?_,rfl⟩
  by_cases h2:v≤hi
  ·rw [decide_eq_true h2,decide_eq_true ⟨h,h2⟩]
  ·rw [decide_eq_false h2,decide_eq_false fun z=>h2 z.2]
 ·have h:¬lo≤v:=of_decide_eq_false h
  exact ⟨by rw [decide_eq_false fun z=>h z.1],rfl⟩
noncomputable def szX (bs:List (Str×Int)):List (Key×Xv):=bs.map fun b=>(.inr b.1,.int b.2)
noncomputable def Xy (bs:List (Str×Int)) (n:Str):Option Int:=(bs.find? fun b=>decide (b.1=n)).map (·.2)
theorem Ub (n:Str):∀bs:List (Str×Int),YC (szX bs) (.inr n)=(Xy bs n).map Xv.int
 |[]=>rfl
 |b::r=>by
  have ih:=Ub n r
  unfold szX Xy at ih ⊢
  rw [List.map_cons,List.find?_cons]
  unfold YC at ih ⊢
  rw [List.find?_cons]
  by_cases h:b.1=n
  ·subst h
   simp
  ·have h1:decide ((Sum.inr b.1:Key)=Sum.inr n)=false:=decide_eq_false fun z=>h (Sum.inr.inj z)
   rw [h1,decide_eq_false h]
   exact ih
noncomputable def Yw (x:Xv):Prop:=(∃n,x= .str n)∨∃v:Int,x= .int v
noncomputable def opF (bs:List (Str×Int)):Xv→Bool
 | .str n=>(Xy bs n).isSome
 | .int v=>decide (0≤v∧v≤999999999)
 |_=>false
theorem zfm {bs:List (Str×Int)} {d:Nat} (hd:S[d]? =some (.dk (szX bs))) (ho:Yw x):W (wI fu [.ref d,x] S) fun r S'=>r= .bl (opF bs x)∧S=S':=by
 walk_at "wr";unfold vT
 refine zW (zS ?_)
 rcases ho with ⟨n,rfl⟩|⟨v,rfl⟩
 ·walk_at "w"
  refine UT (v:=true) rfl ?_
  refine ⟨_,rfl,fun _=> ?_,(fun z=>by cases z)⟩
  refine Wa (za4 ?_)
  walk_at "w"
  refine ⟨d,szX bs,.inr n,Vr hd,rfl,?_,rfl⟩
  rw [Ub]
  show Xv.bl (false !=((Xy bs n).map Xv.int).isSome)=Xv.bl (Xy bs n).isSome
  cases Xy bs n<;>rfl
 ·walk_at "w"
  refine UT (v:=false) rfl ?_
  refine ⟨_,rfl,(fun z=>by cases z),fun _=>zP ?_⟩
  walk_at "w"
  exact VE
end
section
variable {fu:Nat} {S S' S2:Sto} {x y:Xv} {ns:List Int} {bs:List (Str×Int)}
noncomputable def wOk (ws:List Int) (s:Int):Bool:=decide ((ws.length:Int)=s)&&(ws.all (fun w=>decide (0≤w∧w≤999999999))&&decide (0<ws.sum))
theorem YF {α:Type} {l:List α} {q:α→Bool} {p:Nat→Bool} (h:∀(i:Nat) a,l[i]? =some a→p i=q a):((List.range l.length).map p).all id=l.all q:=by
 have:(List.range l.length).map p=l.map q:=by
  refine List.ext_getElem? fun i=> ?_
  by_cases hi:i<l.length
  ·rw [List.getElem?_map,List.getElem?_range hi,List.getElem?_map,List.getElem?_eq_getElem hi]
   exact congrArg some (h i _ (List.getElem?_eq_getElem hi))
  ·rw [List.getElem?_eq_none (by simp;omega),List.getElem?_eq_none (by simp;omega)]
 rw [this,List.all_map]
 rfl
theorem zag {ws:List Int} {s:Int} (hl:ws.length≤100):W (wW fu [.tup (ws.map Xv.int),.int s] S) fun r S'=>r= .bl (wOk ws s)∧Kn S S':=by
 walk_at "wr";unfold ZI
 refine zW (zS (Vo ?_))
 walk_at "w"
 refine vC ?_
 walk_at "w"
 rw [List.length_map]
 refine ⟨fun h=> ?_,fun h=> ?_⟩
 ·have h:(ws.length:Int)≠s:=by simpa using h
  refine ⟨fun _=> ?_,(fun z=>by cases z)⟩
  walk_at "w"
  refine ⟨?_,Kn.refl⟩
  unfold wOk
  rw [decide_eq_false h]
  rfl
 ·have h:(ws.length:Int)=s:=by simpa using h
  refine XZ (XD ?_)
  refine Wq (xs:=ws.map Xv.int) (p:=fun i=>decide (0≤ws.getD i 0∧ws.getD i 0≤999999999)) (by rw [List.length_map];exact xS (by omega)) (Ui (by walk_at "w";exact ⟨rfl,Kn.refl⟩)) ?_ ?_
  ·intro i x S2 hx k2
   rw [List.getElem?_map,Option.map_eq_some_iff] at hx
   obtain ⟨w,e,rfl⟩:=hx
   walk_at "w"
   refine VE.imp ?_
   rintro _ _ ⟨rfl,rfl⟩
   rw [List.getD_eq_getElem?_getD,e]
   exact ⟨rfl,Kn.refl⟩
  ·intro S2 k2
   rw [List.length_map,YF (q:=fun w=>decide (0≤w∧w≤999999999)) (fun i a e=>by rw [List.getD_eq_getElem?_getD,e];rfl)]
   refine ⟨_,rfl,fun h2=> ?_,fun h2=> ?_⟩
   ·walk_at "w"
    refine ⟨?_,k2⟩
    unfold wOk
    rw [show (ws.all fun w=>decide (0≤w∧w≤999999999))=false by simpa using h2]
    simp
   ·refine zP ?_
    walk_at "w"
    refine zgC ?_
    walk_at "w"
    refine ⟨?_,k2⟩
    unfold wOk
    rw [show (ws.all fun w=>decide (0≤w∧w≤999999999))=true by simpa using h2,decide_eq_true h]
    rfl
inductive Own (bs:List (Str×Int)):Xv→Bool→Prop where
 |pass:Own bs (.tup [.str "pass"]) true
 |gain {x:Xv}:Yw x→Own bs (.tup [.str "gain",x]) (opF bs x)
 |look {x y:Xv} {s:Str}:Yw x→Yw y→Own bs (.tup [.str "look",.tup [x,.str s,y]]) (opF bs x&&opF bs y)
 |cond {x y u w:Xv} {s:Str}:Yw x→Yw y→Own bs (.tup [.str "if",.tup [x,.str s,y],u,w]) (opF bs x&&opF bs y)
 |whil {x y u:Xv} {s:Str}:Yw x→Yw y→Own bs (.tup [.str "while",.tup [x,.str s,y],u]) (opF bs x&&opF bs y)
 |times {k:Int} {u:Xv}:Own bs (.tup [.str "times",.int k,u]) (decide (0≤k∧k≤60))
 |hand {us:List Xv}:us.length≤100→Own bs (.tup [.str "hand",.tup us]) (decide (2≤us.length∧us.length≤8))
 |set1 {n:Str} {x:Xv}:Yw x→Own bs (.tup [.str "set",.str n,.tup [x]]) ((Xy bs n).isSome&&opF bs x)
 |set3 {n s:Str} {x y:Xv}:Yw x→Yw y→Own bs (.tup [.str "set",.str n,.tup [x,.str s,y]]) ((Xy bs n).isSome&&(opF bs x&&opF bs y))
 |draw {n:Str} {ws:List Int}:ws.length≤100→Own bs (.tup [.str "draw",.str n,.tup (ws.map Xv.int)]) ((Xy bs n).elim false fun s=>wOk ws s)
theorem zdA {P:Xv→Sto→Prop} {a b:Str} (k:P (.bl (decide (a=b))) S):WO (xN false (.str a) (.str b) S) P:= .of (by unfold xN;simp) k
theorem xG {a b:Str} (h:a≠b) {P:Xv→Sto→Prop} (k:P (.bl false) S):WO (xN false (.str a) (.str b) S) P:=zdA (by rw [decide_eq_false h];exact k)
theorem xT {a:Str} {P:Xv→Sto→Prop} (k:P (.bl true) S):WO (xN false (.str a) (.str a) S) P:=zdA (by rw [decide_eq_true rfl];exact k)
inductive Ops:Xv→List Xv→Prop where
 |gain {x:Xv}:Ops (.tup [.str "gain",x]) [x]
 |set {n z:Xv} {xs:List Xv}:xs.length=1∨xs.length=3→Ops (.tup [.str "set",n,.tup xs]) (wa xs)
 |test {w:Str} {xs r:List Xv}:w="look"∨w="if"∨w="while"→xs.length=1∨xs.length=3→Ops (.tup (.str w:: .tup xs::r)) (wa xs)
 |none {w:Str} {r:List Xv}:w≠"set"→w≠"look"→w≠"if"→w≠"while"→w≠"gain"→Ops (.tup (.str w::r)) []
theorem in3 {w:Str} {P:Xv→Sto→Prop} (k:P (.bl (decide (w="look"∨w="if"∨w="while"))) S):WO (dIn false (.str w) (.tup [.str "look",.str "if",.str "while"]) S) P:=by
 refine zdr rfl rfl ?_
 have e:(false !=List.any [Xv.str "look",Xv.str "if",Xv.str "while"] fun z=>zbO z (.str w))=decide (w="look"∨w="if"∨w="while"):=by
  show (false !=(decide (Str.ofString "look"=w)||(decide (Str.ofString "if"=w)||(decide (Str.ofString "while"=w)||false))))=_
  by_cases h1:w="look"
  ·subst h1;simp
  ·by_cases h2:w="if"
   ·subst h2;simp
   ·by_cases h3:w="while"
    ·subst h3;simp
    ·simp [h1,h2,h3,Ne.symm h1,Ne.symm h2,Ne.symm h3]
 rw [e]
 exact k
end
section
variable {fu:Nat} {S S' S2:Sto} {x y:Xv} {ns:List Int} {bs:List (Str×Int)}
theorem zcO {l:List Xv} (h:Ops x l):W (wV fu [x] S) fun r S'=>r= .tup l∧S=S':=by
 walk_at "wr";unfold ZH
 cases h with
 |gain=>
  refine zW (zS ?_)
  walk_at "w"
  refine xG (by decide) ⟨_,rfl,(fun z=>by cases z),fun _=>zP ?_⟩
  refine zW (zS ?_)
  walk_at "w"
  refine in3 ⟨_,rfl,(fun z=>by cases z),fun _=>zP ?_⟩
  refine zW (zS ?_)
  walk_at "w"
  refine xT ⟨_,rfl,fun _=> ?_,(fun z=>by cases z)⟩
  walk_at "w"
  exact ⟨rfl,rfl⟩
 | @set n z xs hl=>
  refine zW (zS ?_)
  walk_at "w"
  refine xT ⟨_,rfl,fun _=> ?_,(fun z=>by cases z)⟩
  walk_at "w"
  refine xZ rfl (z:= .tup xs) rfl ?_
  walk_at "w"
  exact zfi rfl hl ⟨rfl,rfl⟩
 | @test w xs r hw hl=>
  refine zW (zS ?_)
  walk_at "w"
  refine xG (by rcases hw with rfl|rfl|rfl<;>decide) ⟨_,rfl,(fun z=>by cases z),fun _=>zP ?_⟩
  refine zW (zS ?_)
  walk_at "w"
  refine in3 ⟨_,rfl,fun _=> ?_,(fun z=>absurd hw (of_decide_eq_false z))⟩
  walk_at "w"
  exact zfi rfl hl ⟨rfl,rfl⟩
 | @none w r h1 h2 h3 h4 h5=>
  refine zW (zS ?_)
  walk_at "w"
  refine xG h1 ⟨_,rfl,(fun z=>by cases z),fun _=>zP ?_⟩
  refine zW (zS ?_)
  walk_at "w"
  refine in3 ⟨_,rfl,(fun z=>by
   have z:=of_decide_eq_true z
   rcases z with z|z|z
   ·exact absurd z h2
   ·exact absurd z h3
   ·exact absurd z h4),fun _=>zP ?_⟩
  refine zW (zS ?_)
  walk_at "w"
  refine xG h5 ⟨_,rfl,(fun z=>by cases z),fun _=>zP ?_⟩
  walk_at "w"
  exact ⟨rfl,rfl⟩
theorem in2 {w:Str} {P:Xv→Sto→Prop} (k:P (.bl (decide (w="set"∨w="draw"))) S):WO (dIn false (.str w) (.tup [.str "set",.str "draw"]) S) P:=by
 refine zdr rfl rfl ?_
 have e:(false !=List.any [Xv.str "set",Xv.str "draw"] fun z=>zbO z (.str w))=decide (w="set"∨w="draw"):=by
  show (false !=(decide (Str.ofString "set"=w)||(decide (Str.ofString "draw"=w)||false)))=_
  by_cases h1:w="set"
  ·subst h1;simp
  ·by_cases h2:w="draw"
   ·subst h2;simp
   ·simp [h1,h2,Ne.symm h1,Ne.symm h2]
 rw [e]
 exact k
noncomputable def zb7 (fu:Nat):TwS:=(yd (eFn UR [(xw [none,some 0] (iT (zD (wV fu) [(zk 1)])) (gN 0) xy (zD (wI fu) [(zk 1),(zk 0)]))]))
theorem Zs {N:Rho→Sto→Prop} {R:Xv→Sto→Prop} {d:Nat} {a2:Option Xv} {l:List Xv} (hd:S[d]? =some (.dk (szX bs))) (ho:Ops x l) (hl:l.length≤3) (hi:∀o∈l,Yw o) (k:∀S',Kn S S'→R (.bl (l.all (opF bs))) S'):WS (zb7 fu [some (.ref d),some x,a2] S) N R:=by
 unfold zb7
 refine Wa ?_
 refine Wq (xs:=l) (p:=fun i=>opF bs (l.getD i .non)) (xS (by omega)) (Ui ?_) ?_ ?_
 ·walk_at "w"
  refine (zcO ho).imp ?_
  rintro _ _ ⟨rfl,rfl⟩
  exact ⟨rfl,Kn.refl⟩
 ·intro i o S2 ho k2
  walk_at "w"
  refine (zfm (k2.at hd) (hi o (List.mem_of_getElem? ho))).imp ?_
  rintro _ _ ⟨rfl,rfl⟩
  rw [List.getD_eq_getElem?_getD,ho]
  exact ⟨rfl,Kn.refl⟩
 ·intro S2 k2
  rw [YF (q:=opF bs) (fun i a e=>by rw [List.getD_eq_getElem?_getD,e];rfl)]
  exact k S2 k2
noncomputable def zb8 (fu:Nat):TwS:=(zF (sIf (WQ (bE (eOp (xN false) (zk 2) (eC (.str "hand")))) (WR (bE (VX (fun i j=>decide (i≤j)) (fun i j=>decide (i≤j)) (eC (.int 2)) (eFn wL [(eOp yD (zk 1) (eC (.int 1)))]) (eC (.int 8)))))) (yd (eC (.bl false))) zY) (zb7 fu))
noncomputable def zb9 (fu:Nat):TwS:=(zF (sIf (WQ (bE (eOp (xN false) (zk 2) (eC (.str "times")))) (WR (bE (zD (xH fu) [(eOp yD (zk 1) (eC (.int 1))),(eC (.int 0)),(eC (.int 60))])))) (yd (eC (.bl false))) zY) (zb8 fu))
noncomputable def zdB (fu:Nat):TwS:=(zF (sIf (WQ (bE (eOp (xN false) (zk 2) (eC (.str "draw")))) (WR (bE (zD (wW fu) [(eOp yD (zk 1) (eC (.int 2))),(zbS (zk 0) (eOp yD (zk 1) (eC (.int 1))))])))) (yd (eC (.bl false))) zY) (zb9 fu))
theorem Wz:Xn fu=(zF (zR (eOp yD (zk 1) (eC (.int 0))) (gN 2)) (zF (sIf (WQ (bE (eOp (dIn false) (zk 2) (zH [(eC (.str "set")),(eC (.str "draw"))]))) (bE (zd8 true (eOp yD (zk 1) (eC (.int 1))) (zk 0)))) (yd (eC (.bl false))) zY) (zdB fu))):=rfl
section
variable {N:Rho→Sto→Prop} {R:Xv→Sto→Prop} {d:Nat} {w:Str} {r:List Xv}
theorem noD (h:w≠"draw") (k:WS (zb9 fu [some (.ref d),some (.tup (.str w::r)),some (.str w)] S) N R):WS (zdB fu [some (.ref d),some (.tup (.str w::r)),some (.str w)] S) N R:=by
 unfold zdB
 refine zW (zS (wx ?_))
 walk_at "w"
 exact xG h ⟨_,rfl,(fun z=>by cases z),fun _=>⟨(fun z=>by cases z),fun _=>zP k⟩⟩
theorem noT (h:w≠"times") (k:WS (zb8 fu [some (.ref d),some (.tup (.str w::r)),some (.str w)] S) N R):WS (zb9 fu [some (.ref d),some (.tup (.str w::r)),some (.str w)] S) N R:=by
 unfold zb9
 refine zW (zS (wx ?_))
 walk_at "w"
 exact xG h ⟨_,rfl,(fun z=>by cases z),fun _=>⟨(fun z=>by cases z),fun _=>zP k⟩⟩
theorem noH (h:w≠"hand") (k:WS (zb7 fu [some (.ref d),some (.tup (.str w::r)),some (.str w)] S) N R):WS (zb8 fu [some (.ref d),some (.tup (.str w::r)),some (.str w)] S) N R:=by
 unfold zb8
 refine zW (zS (wx ?_))
 walk_at "w"
 exact xG h ⟨_,rfl,(fun z=>by cases z),fun _=>⟨(fun z=>by cases z),fun _=>zP k⟩⟩
end
theorem zcP {d:Nat} {b:Bool} (hd:S[d]? =some (.dk (szX bs))) (ho:Own bs x b):W (wX fu [.ref d,x] S) fun v S'=>v= .bl b∧Kn S S':=by
 have plain:∀{w:Str} {r l:List Xv} {b:Bool},x= .tup (.str w::r)→w≠"set"→w≠"draw"→w≠"times"→w≠"hand"→Ops x l→l.length≤3→(∀o∈l,Yw o)→l.all (opF bs)=b→W (wX fu [.ref d,x] S) fun v S'=>v= .bl b∧Kn S S':=by
  rintro w r l b rfl n1 n2 n3 n4 hop hl hi rfl
  refine Wb rfl rfl ?_
  dsimp only [List.map,HAppend.hAppend,Append.append,List.append,List.replicate]
  rw [Wz]
  walk_at "w"
  refine zS (wx ?_)
  walk_at "w"
  refine in2 ⟨_,rfl,(fun z=>by
   rcases of_decide_eq_true z with z|z
   ·exact absurd z n1
   ·exact absurd z n2),fun _=>⟨(fun z=>by cases z),fun _=>zP ?_⟩⟩
  exact noD n2 (noT n3 (noH n4 (Zs hd hop hl hi fun S' k=>⟨rfl,k⟩)))
 cases ho with
 |pass=>exact plain rfl (by decide) (by decide) (by decide) (by decide) (.none (by decide) (by decide) (by decide) (by decide) (by decide)) (Nat.zero_le _) (fun o h=>by cases h) rfl
 |gain h=>exact plain rfl (by decide) (by decide) (by decide) (by decide) .gain (by simp) (fun o z=>by rw [List.mem_singleton] at z;subst z;exact h) (by simp)
 |look h g=>exact plain rfl (by decide) (by decide) (by decide) (by decide) (.test (.inl rfl) (.inr rfl)) (by simp [wa]) (fun o z=>by rcases (by simpa [wa] using z) with rfl|rfl<;>assumption) (by simp [wa])
 |cond h g=>exact plain rfl (by decide) (by decide) (by decide) (by decide) (.test (.inr (.inl rfl)) (.inr rfl)) (by simp [wa]) (fun o z=>by rcases (by simpa [wa] using z) with rfl|rfl<;>assumption) (by simp [wa])
 |whil h g=>exact plain rfl (by decide) (by decide) (by decide) (by decide) (.test (.inr (.inr rfl)) (.inr rfl)) (by simp [wa]) (fun o z=>by rcases (by simpa [wa] using z) with rfl|rfl<;>assumption) (by simp [wa])
 | @times k u=>
  refine Wb rfl rfl ?_
  dsimp only [List.map,HAppend.hAppend,Append.append,List.append,List.replicate]
  rw [Wz]
  walk_at "w"
  refine zS (wx ?_)
  walk_at "w"
  refine in2 ⟨_,rfl,(fun z=>by cases z),fun _=>⟨(fun z=>by cases z),fun _=>zP ?_⟩⟩
  refine noD (by decide) ?_
  unfold zb9
  refine zW (zS (wx ?_))
  walk_at "w"
  refine xT ⟨_,rfl,fun _=> ?_,(fun z=>by cases z)⟩
  walk_at "w"
  refine VE.imp ?_
  rintro _ _ ⟨rfl,rfl⟩
  refine ⟨_,rfl,fun h=> ?_,fun h=> ?_⟩
  ·walk_at "w"
   exact ⟨by rw [show decide (0≤k∧k≤60)=false by cases hh:decide (0≤k∧k≤60) with
    |false=>rfl
    |true=>rw [hh] at h;cases h],Kn.refl⟩
  ·refine zP ?_
   rw [show decide (0≤k∧k≤60)=true by simpa using h]
   exact noH (by decide) (Zs hd (.none (by decide) (by decide) (by decide) (by decide) (by decide)) (Nat.zero_le _) (fun o h=>by cases h) fun S' k=>⟨rfl,k⟩)
 | @hand us hl=>
  refine Wb rfl rfl ?_
  dsimp only [List.map,HAppend.hAppend,Append.append,List.append,List.replicate]
  rw [Wz]
  walk_at "w"
  refine zS (wx ?_)
  walk_at "w"
  refine in2 ⟨_,rfl,(fun z=>by cases z),fun _=>⟨(fun z=>by cases z),fun _=>zP ?_⟩⟩
  refine noD (by decide) (noT (by decide) ?_)
  unfold zb8
  refine zW (zS (wx ?_))
  walk_at "w"
  refine xT ⟨_,rfl,fun _=> ?_,(fun z=>by cases z)⟩
  refine XZ (XD (UV ?_))
  walk_at "w"
  refine vC ?_
  walk_at "w"
  have go:∀{S'':Sto},S''=S→decide (2≤us.length∧us.length≤8)=true→WS (zb7 fu [some (.ref d),some (.tup [.str "hand",.tup us]),some (.str "hand")] S'') (fun x S1=>Xv.non= .bl (decide (2≤us.length∧us.length≤8))∧Kn S S1) (fun v S'=>v= .bl (decide (2≤us.length∧us.length≤8))∧Kn S S'):=by
   rintro S'' rfl e
   exact Zs hd (.none (by decide) (by decide) (by decide) (by decide) (by decide)) (Nat.zero_le _) (fun o h=>by cases h) fun S' k=>⟨by rw [e];rfl,k⟩
  refine ⟨fun h=> ?_,fun h=> ?_⟩
  ·have h:(2:Int)≤us.length:=of_decide_eq_true h
   walk_at "w"
   refine ⟨fun h2=> ?_,fun h2=> ?_⟩
   ·have h2:¬(us.length:Int)≤8:=by simpa using h2
    walk_at "w"
    exact ⟨by rw [decide_eq_false (by omega)],Kn.refl⟩
   ·have h2:(us.length:Int)≤8:=by simpa using h2
    exact zP (go rfl (decide_eq_true ⟨by omega,by omega⟩))
  ·have h:¬(2:Int)≤us.length:=of_decide_eq_false h
   refine ⟨_,rfl,fun _=> ?_,(fun z=>by cases z)⟩
   walk_at "w"
   exact ⟨by rw [decide_eq_false (by omega)],Kn.refl⟩
 | @set1 n x h=>
  refine Wb rfl rfl ?_
  dsimp only [List.map,HAppend.hAppend,Append.append,List.append,List.replicate]
  rw [Wz]
  walk_at "w"
  refine zS (wx ?_)
  walk_at "w"
  refine in2 ⟨_,rfl,fun _=> ?_,(fun z=>by cases z)⟩
  refine XD (za4 ?_)
  walk_at "w"
  refine ⟨d,szX bs,.inr n,Vr hd,rfl,_,rfl,?_⟩
  rw [Ub]
  cases e:Xy bs n with
  |none=>
   refine ⟨fun _=> ?_,(fun z=>by cases z)⟩
   walk_at "w"
   exact ⟨rfl,Kn.refl⟩
  |some s=>
   refine ⟨(fun z=>by cases z),fun _=>zP ?_⟩
   exact noD (by decide) (noT (by decide) (noH (by decide) (Zs hd (.set (z:= .non) (.inl rfl)) (by simp [wa]) (fun o z=>by rw [show o=x by simpa [wa] using z];exact h) fun S' k=>⟨by simp [wa],k⟩)))
 | @set3 n s x y h g=>
  refine Wb rfl rfl ?_
  dsimp only [List.map,HAppend.hAppend,Append.append,List.append,List.replicate]
  rw [Wz]
  walk_at "w"
  refine zS (wx ?_)
  walk_at "w"
  refine in2 ⟨_,rfl,fun _=> ?_,(fun z=>by cases z)⟩
  refine XD (za4 ?_)
  walk_at "w"
  refine ⟨d,szX bs,.inr n,Vr hd,rfl,_,rfl,?_⟩
  rw [Ub]
  cases e:Xy bs n with
  |none=>
   refine ⟨fun _=> ?_,(fun z=>by cases z)⟩
   walk_at "w"
   exact ⟨rfl,Kn.refl⟩
  |some s=>
   refine ⟨(fun z=>by cases z),fun _=>zP ?_⟩
   exact noD (by decide) (noT (by decide) (noH (by decide) (Zs hd (.set (z:= .non) (.inr rfl)) (by simp [wa]) (fun o z=>by rcases (by simpa [wa] using z) with rfl|rfl<;>assumption) fun S' k=>⟨by simp [wa],k⟩)))
 | @draw n ws hl=>
  refine Wb rfl rfl ?_
  dsimp only [List.map,HAppend.hAppend,Append.append,List.append,List.replicate]
  rw [Wz]
  walk_at "w"
  refine zS (wx ?_)
  walk_at "w"
  refine in2 ⟨_,rfl,fun _=> ?_,(fun z=>by cases z)⟩
  refine XD (za4 ?_)
  walk_at "w"
  refine ⟨d,szX bs,.inr n,Vr hd,rfl,_,rfl,?_⟩
  rw [Ub]
  cases e:Xy bs n with
  |none=>
   refine ⟨fun _=> ?_,(fun z=>by cases z)⟩
   walk_at "w"
   exact ⟨rfl,Kn.refl⟩
  |some s=>
   refine ⟨(fun z=>by cases z),fun _=>zP ?_⟩
   unfold zdB
   refine zW (zS (wx ?_))
   walk_at "w"
   refine xT ⟨_,rfl,fun _=> ?_,(fun z=>by cases z)⟩
   walk_at "w"
   refine xZ rfl (z:= .tup (ws.map Xv.int)) rfl ?_
   walk_at "w"
   refine zgm ?_
   walk_at "w"
   refine ⟨d,szX bs,.inr n,.int s,Vr hd,rfl,by rw [Ub,e];rfl,?_⟩
   walk_at "w"
   refine (zag hl).imp ?_
   rintro _ S2 ⟨rfl,k2⟩
   refine ⟨_,rfl,fun h=> ?_,fun h=> ?_⟩
   ·walk_at "w"
    exact ⟨by show Xv.bl false=Xv.bl (wOk ws s);rw [show wOk ws s=false by simpa using h],k2⟩
   ·refine zP ?_
    exact noT (by decide) (noH (by decide) (Zs (k2.at hd) (.none (by decide) (by decide) (by decide) (by decide) (by decide)) (Nat.zero_le _) (fun o h=>by cases h) fun S' k=>⟨by show Xv.bl true=Xv.bl (wOk ws s);rw [show wOk ws s=true by simpa using h],k2.trans k⟩))
end
section
variable {fu:Nat} {S S' S2:Sto} {x y:Xv} {ns:List Int} {bs:List (Str×Int)}
inductive Nd:Xv→List (List Xv)→Option Int→Bool→Prop where
 |plain {w:Str} {r:List Xv}:w≠"if"→w≠"while"→w≠"times"→w≠"hand"→Nd (.tup (.str w::r)) [] none false
 |cond {t:Xv} {u w:List Xv}:Nd (.tup [.str "if",t,.tup u,.tup w]) [u,w] none true
 |whil {t:Xv} {u:List Xv}:Nd (.tup [.str "while",t,.tup u]) [u] none true
 |times {k:Int} {u:List Xv}:Nd (.tup [.str "times",.int k,.tup u]) [u] (some k) true
 |hand {us:List (List Xv)}:Nd (.tup [.str "hand",.tup (us.map Xv.tup)]) us none true
inductive Kd where
 |d (x:Xv)|b (l:List Xv)|s (l:List (List Xv))
noncomputable def zhc:Option Int→Int→Int
 |none,m=>m
 |some k,m=>(if 1<k then k else 1)*(1+m)
inductive Tr (bs:List (Str×Int)):Kd→Int→Nat→Bool→Nat→Prop where
 |deed {x:Xv} {us:List (List Xv)} {tk:Option Int} {bk b g:Bool} {m:Int} {p c:Nat}:Nd x us tk bk→Own bs x b→Tr bs (.s us) m p g c→Tr bs (.d x) (1+zhc tk m) (if bk=true then 1+p else 0) (b&&g) (c+1)
 |nil:Tr bs (.b []) 0 0 true 1
 |cons {x:Xv} {r:List Xv} {n m:Int} {q p c e:Nat} {g h:Bool}:Tr bs (.d x) n q g c→Tr bs (.b r) m p h e→Tr bs (.b (x::r)) (n+m) (max q p) (g&&h) (c+e)
 |nils:Tr bs (.s []) 0 0 true 0
 |conss {u:List Xv} {r:List (List Xv)} {n m:Int} {q p c e:Nat} {g h:Bool}:Tr bs (.b u) n q g c→Tr bs (.s r) m p h e→Tr bs (.s (u::r)) (n+m) (max q p) (g&&h) (c+e)
theorem Th {us:List (List Xv)} {tk:Option Int} {bk:Bool} (h:Nd x us tk bk):W (wn fu [x] S) fun v S'=>v= .tup (us.map Xv.tup)∧S=S':=by
 walk_at "wr";unfold Xj
 have no:∀{w v:Str} {r:List Xv} {a:TwS} {N:Rho→Sto→Prop} {R:Xv→Sto→Prop},w≠v→N [some (.tup (.str w::r))] S→WS (sIf (bE (eOp (xN false) (eOp yD (zk 0) (eC (.int 0))) (eC (.str v)))) a zY [some (.tup (.str w::r))] S) N R:=by
  intro w v r a N R h k
  refine zS ?_
  walk_at "w"
  exact xG h ⟨_,rfl,(fun z=>by cases z),fun _=>zP k⟩
 have no2:∀{w:Str} {r:List Xv} {a:TwS} {N:Rho→Sto→Prop} {R:Xv→Sto→Prop},w≠"while"→w≠"times"→N [some (.tup (.str w::r))] S→WS (sIf (bOr (bE (eOp (xN false) (eOp yD (zk 0) (eC (.int 0))) (eC (.str "while")))) (bE (eOp (xN false) (eOp yD (zk 0) (eC (.int 0))) (eC (.str "times"))))) a zY [some (.tup (.str w::r))] S) N R:=by
  intro w r a N R h h2 k
  refine zS (Vo ?_)
  walk_at "w"
  refine xG h ⟨_,rfl,(fun z=>by cases z),fun _=> ?_⟩
  walk_at "w"
  exact xG h2 ⟨_,rfl,(fun z=>by cases z),fun _=>zP k⟩
 cases h with
 |plain h1 h2 h3 h4=>
  refine zW (no h1 (zW (no2 h2 h3 (zW (no h4 ?_)))))
  walk_at "w"
  exact ⟨rfl,rfl⟩
 |cond=>
  refine zW (zS ?_)
  walk_at "w"
  refine xT ⟨_,rfl,fun _=> ?_,(fun z=>by cases z)⟩
  walk_at "w"
  refine xZ rfl rfl ?_
  walk_at "w"
  refine xZ rfl rfl ?_
  walk_at "w"
  exact ⟨rfl,rfl⟩
 |whil=>
  refine zW (no (by decide) (zW (zS (Vo ?_))))
  walk_at "w"
  refine xT ⟨_,rfl,fun _=>⟨fun _=> ?_,(fun z=>by cases z)⟩,(fun z=>by cases z)⟩
  walk_at "w"
  refine xZ rfl rfl ?_
  walk_at "w"
  exact ⟨rfl,rfl⟩
 |times=>
  refine zW (no (by decide) (zW (zS (Vo ?_))))
  walk_at "w"
  refine xG (by decide) ⟨_,rfl,(fun z=>by cases z),fun _=> ?_⟩
  walk_at "w"
  refine xT ⟨_,rfl,fun _=> ?_,(fun z=>by cases z)⟩
  walk_at "w"
  refine xZ rfl rfl ?_
  walk_at "w"
  exact ⟨rfl,rfl⟩
 |hand=>
  refine zW (no (by decide) (zW (no2 (by decide) (by decide) (zW (zS ?_)))))
  walk_at "w"
  refine xT ⟨_,rfl,fun _=> ?_,(fun z=>by cases z)⟩
  walk_at "w"
  exact ⟨rfl,rfl⟩
theorem Tr.bd {kd:Kd} {n:Int} {q c:Nat} {g:Bool} (h:Tr bs kd n q g c):g=true→0≤n∧n≤(c:Int)*122^q:=by
 induction h with
 | @deed x us tk bk b g m p c nd ow h ih=>
  intro e
  rw [Bool.and_eq_true] at e
  obtain ⟨i1,i2⟩:=ih e.2
  have h1:(1:Int)≤122^p:=by exact_mod_cast Nat.one_le_pow p 122 (by decide)
  have h2:(122:Int)^(1+p)=122*122^p:=by rw [Nat.add_comm,Int.pow_succ,Int.mul_comm]
  have h3:0≤(c:Int)*122^p:=Int.mul_nonneg (by omega) (by omega)
  have key:∀k:Int,1≤k→k≤60→0≤1+k*(1+m)∧1+k*(1+m)≤((c+1:Nat):Int)*122^(1+p):=by
   intro k k1 k60
   have a1:0≤k*(1+m):=Int.mul_nonneg (by omega) (by omega)
   have a2:k*(1+m)≤60*(1+m):=Int.mul_le_mul_of_nonneg_right k60 (by omega)
   rw [h2,Int.natCast_add,Int.add_mul]
   have a3:(c:Int)*(122*122^p)=122*((c:Int)*122^p):=by rw [←Int.mul_assoc,Int.mul_comm (c:Int) 122,Int.mul_assoc]
   rw [a3]
   constructor<;>omega
  have kinds:bk=true→0≤1+m∧1+m≤((c+1:Nat):Int)*122^(1+p):=by
   intro _
   have:=key 1 (by omega) (by omega)
   rw [Int.one_mul] at this
   rw [h2,Int.natCast_add,Int.add_mul] at*
   omega
  cases nd with
  |plain=>
   cases h
   exact ⟨by decide,by decide⟩
  |cond=>exact kinds rfl
  |whil=>exact kinds rfl
  |hand=>exact kinds rfl
  | @times k u=>
   have hk:0≤k∧k≤60:=by
    have:=e.1
    cases ow
    exact of_decide_eq_true this
   show 0≤1+(if 1<k then k else 1)*(1+m)∧1+(if 1<k then k else 1)*(1+m)≤((c+1:Nat):Int)*122^(1+p)
   split
   ·exact key k (by omega) hk.2
   ·exact key 1 (by omega) (by omega)
 |nil=>exact fun _=>⟨by decide,by decide⟩
 |nils=>exact fun _=>⟨by decide,by decide⟩
 | @cons x r n m q p c e g h _ _ ih1 ih2=>
  intro z
  rw [Bool.and_eq_true] at z
  obtain ⟨a1,a2⟩:=ih1 z.1
  obtain ⟨b1,b2⟩:=ih2 z.2
  refine ⟨by omega,?_⟩
  have m1:(c:Int)*122^q≤c*122^(max q p):=Int.mul_le_mul_of_nonneg_left (by exact_mod_cast Nat.pow_le_pow_right (by decide) (Nat.le_max_left _ _)) (by omega)
  have m2:(e:Int)*122^p≤e*122^(max q p):=Int.mul_le_mul_of_nonneg_left (by exact_mod_cast Nat.pow_le_pow_right (by decide) (Nat.le_max_right _ _)) (by omega)
  rw [Int.natCast_add,Int.add_mul]
  omega
 | @conss x r n m q p c e g h _ _ ih1 ih2=>
  intro z
  rw [Bool.and_eq_true] at z
  obtain ⟨a1,a2⟩:=ih1 z.1
  obtain ⟨b1,b2⟩:=ih2 z.2
  refine ⟨by omega,?_⟩
  have m1:(c:Int)*122^q≤c*122^(max q p):=Int.mul_le_mul_of_nonneg_left (by exact_mod_cast Nat.pow_le_pow_right (by decide) (Nat.le_max_left _ _)) (by omega)
  have m2:(e:Int)*122^p≤e*122^(max q p):=Int.mul_le_mul_of_nonneg_left (by exact_mod_cast Nat.pow_le_pow_right (by decide) (Nat.le_max_right _ _)) (by omega)
  rw [Int.natCast_add,Int.add_mul]
  omega
noncomputable def zjv:Kd→Nat→Prop
 | .d _,c=>1≤c
 | .b l,c=>l.length+1≤c
 | .s l,c=>l.length≤c
theorem Tr.cnt {kd:Kd} {n:Int} {q c:Nat} {g:Bool} (h:Tr bs kd n q g c):zjv kd c:=by
 induction h with
 |deed=>exact Nat.le_add_left _ _
 |nil=>exact Nat.le_refl _
 |nils=>exact Nat.le_refl _
 | @cons x r n m q p c e g h _ _ ih1 ih2=>
  have ih1:1≤c:=ih1
  have ih2:r.length+1≤e:=ih2
  show (x::r).length+1≤c+e
  rw [List.length_cons]
  omega
 | @conss u r n m q p c e g h _ _ ih1 ih2=>
  have ih1:u.length+1≤c:=ih1
  have ih2:r.length≤e:=ih2
  show (u::r).length≤c+e
  rw [List.length_cons]
  omega
end
section
variable {fu:Nat} {S S' S2:Sto} {x y:Xv} {ns:List Int} {bs:List (Str×Int)}
noncomputable def Uc (f:TwF) (x:Xv) (m:Int):Prop:=∀S,W (f [x] S) fun v S'=>v= .int m∧Kn S S'
structure Ti (f:TwF) (l:List Xv) (ms:List Int):Prop where
 len:ms.length=l.length
 at_:∀(i:Nat) x m,l[i]? =some x→ms[i]? =some m→Uc f x m
theorem Ti.nil {f:TwF}:Ti f [] []:=⟨rfl,fun i x m e=>by simp at e⟩
theorem Ti.cons {f:TwF} {l:List Xv} {ms:List Int} {x:Xv} {m:Int} (h:Uc f x m) (g:Ti f l ms):Ti f (x::l) (m::ms):=⟨by rw [List.length_cons,List.length_cons,g.len],fun i y k e1 e2=>by
 cases i with
 |zero=>cases e1;cases e2;exact h
 |succ i=>exact g.at_ i y k (by simpa using e1) (by simpa using e2)⟩
theorem zcQ {ms:List Int} {n:Nat} (h:ms.length=n):(List.range n).map (fun i=>Xv.int (ms.getD i 0))=ms.map Xv.int:=by
 refine List.ext_getElem? fun i=> ?_
 by_cases hi:i<n
 ·rw [List.getElem?_map,List.getElem?_range hi,List.getElem?_map,List.getElem?_eq_getElem (by omega)]
  show some (Xv.int (ms.getD i 0))=some (Xv.int ms[i])
  rw [List.getD_eq_getElem?_getD,List.getElem?_eq_getElem (by omega)]
  rfl
 ·rw [List.getElem?_eq_none (by simp;omega),List.getElem?_eq_none (by simp;omega)]
theorem VF {P:Xv→Sto→Prop} {ρ:Rho} {n:TwI} {f:TwF} {xs:List Xv} {ms:List Int} (hl:xs.length≤1000) (hn:W (n ρ S) fun get S1=>(∀S',Kn S1 S'→get S'=some xs)∧Kn S S1) (hp:Ti f xs ms)
  (k:∀S',Kn S S'→P (.ref S'.length) (S'++[.lst (ms.map Xv.int)])):W (xw [none] n (gN 0) xy (zD f [(zk 0)]) ρ S) P:=by
 refine vK (xs:=xs) (f:=fun i=> .int (ms.getD i 0)) (Nat.le_of_lt (Nat.lt_of_le_of_lt hl (by decide))) hn ?_ ?_
 ·intro i x S2 hx k2
  have hi:=(List.getElem?_eq_some_iff.1 hx).1
  have hm:ms[i]? =some (ms.getD i 0):=by
   rw [List.getD_eq_getElem?_getD,List.getElem?_eq_getElem (by rw [hp.len];exact hi)]
   rfl
  show W (zD f [(zk 0)] [some x] S2) _
  walk_at "w"
  exact (hp.at_ i x _ hx hm) S2
 ·intro S2 k2
  rw [zcQ hp.len]
  exact k S2 k2
noncomputable def zjw (fu:Nat):Kd→Int→Nat→Prop
 | .d x,n,q=>∀f,2*q+1≤f→Uc (yr fu f) x n
 | .b l,n,q=>∃ms:List Int,ms.sum=n∧∀f,2*q+1≤f→Ti (yr fu f) l ms
 | .s us,n,q=>∃ms:List Int,ms.sum=n∧∀f,2*q+2≤f→Ti (yl fu f) (us.map Xv.tup) ms
theorem zhd {l:List Xv} {n:Int} {q:Nat} (hl:l.length≤1000) (h:zjw fu (.b l) n q):∀f,2*q+2≤f→Uc (yl fu f) (.tup l) n:=by
 obtain ⟨ms,rfl,h⟩:=h
 intro f hf S
 obtain ⟨f,rfl⟩:∃e,f=e+1:=⟨f-1,by omega⟩
 rw [Yd]
 walk_at "wr";unfold Zl
 walk_at "w"
 refine VF hl (Ui (by walk_at "w";exact ⟨rfl,Kn.refl⟩)) (h f (by omega)) fun S' k=> ?_
 walk_at "w"
 exact zcN (zE zU) (ZU _) ⟨rfl,k.app⟩
theorem zjx {q:Nat} (h:q≤13):(122:Int)^q≤2^100:=by
 have:(122:Nat)^q≤2^100:=Nat.le_trans (Nat.pow_le_pow_right (by decide) h) (by decide)
 exact_mod_cast this
theorem Tr.small {kd:Kd} {n:Int} {q c:Nat} {g:Bool} (h:Tr bs kd n q g c) (hg:g=true) (hc:c≤1000) (hq:q≤13):0≤n∧n<2^120:=by
 obtain ⟨h1,h2⟩:=h.bd hg
 have h3:=zjx hq
 have h4:(c:Int)*122^q≤1000*2^100:=Int.mul_le_mul (by omega) h3 (by exact_mod_cast Nat.zero_le _) (by decide)
 exact ⟨h1,by omega⟩
theorem Tr.lenM {kd:Kd} {n:Int} {q c:Nat} {g:Bool} (h:Tr bs kd n q g c):g=true→c≤1000→q≤13→zjw fu kd n q:=by
 induction h with
 |nil=>exact fun _ _ _=>⟨[],rfl,fun _ _=> .nil⟩
 |nils=>exact fun _ _ _=>⟨[],rfl,fun _ _=> .nil⟩
 | @cons x r n m q p c e g h t1 t2 ih1 ih2=>
  intro z hc hq
  rw [Bool.and_eq_true] at z
  have i1:=ih1 z.1 (by omega) (by omega)
  obtain ⟨ms,rfl,i2⟩:=ih2 z.2 (by omega) (by omega)
  exact ⟨n::ms,rfl,fun f hf=> .cons (i1 f (by omega)) (i2 f (by omega))⟩
 | @conss u r n m q p c e g h t1 t2 ih1 ih2=>
  intro z hc hq
  rw [Bool.and_eq_true] at z
  have hl:u.length+1≤c:=t1.cnt
  have i1:=zhd (by omega) (ih1 z.1 (by omega) (by omega))
  obtain ⟨ms,rfl,i2⟩:=ih2 z.2 (by omega) (by omega)
  exact ⟨n::ms,rfl,fun f hf=> .cons (i1 f (by omega)) (i2 f (by omega))⟩
 | @deed x us tk bk b g m p c nd ow t ih=>
  intro z hc hq
  rw [Bool.and_eq_true] at z
  have hp:p≤13:=by
   cases nd with
   |plain=>cases t;decide
   |cond=>exact Nat.le_of_succ_le (by simpa [Nat.add_comm] using hq)
   |whil=>exact Nat.le_of_succ_le (by simpa [Nat.add_comm] using hq)
   |times=>exact Nat.le_of_succ_le (by simpa [Nat.add_comm] using hq)
   |hand=>exact Nat.le_of_succ_le (by simpa [Nat.add_comm] using hq)
  obtain ⟨ms,hms,i2⟩:=ih z.2 (by omega) hp
  obtain ⟨m0,m1⟩:=t.small z.2 (by omega) hp
  have hus:us.length≤c:=t.cnt
  intro f hf S
  obtain ⟨f,rfl⟩:∃e,f=e+1:=⟨f-1,by omega⟩
  have pts:Ti (yl fu f) (us.map Xv.tup) ms:=by
   cases nd with
   |plain=>
    have:=(i2 (2*p+2) (Nat.le_refl _)).len
    obtain rfl:ms=[]:=List.length_eq_zero_iff.1 this
    exact .nil
   |cond=>exact i2 f (by simp at hf;omega)
   |whil=>exact i2 f (by simp at hf;omega)
   |times=>exact i2 f (by simp at hf;omega)
   |hand=>exact i2 f (by simp at hf;omega)
  rw [Ze]
  walk_at "wr";unfold wU
  walk_at "w"
  refine VF (by rw [List.length_map];omega) (Ui ?_) pts fun S' k=> ?_
  ·walk_at "w"
   refine (Th nd).imp ?_
   rintro _ _ ⟨rfl,rfl⟩
   exact ⟨rfl,Kn.refl⟩
  walk_at "w"
  refine zcN (zE zU) (ZU _) ?_
  rw [hms]
  walk_at "w"
  have no:∀{w:Str} {r:List Xv} {S2:Sto},w≠"times"→Kn S S2→WS (sIf (bE (eOp (xN false) (eOp yD (zk 0) (eC (.int 0))) (eC (.str "times")))) (yd (eOp xj (eC (.int 1)) (eOp YA (eFn TQ [(eOp yD (zk 0) (eC (.int 1))),(eC (.int 1))]) (eOp xj (eC (.int 1)) (zk 1))))) zY [some (.tup (.str w::r)),some (.int m)] S2) (fun ρ S3=>WS (yd (eOp xj (eC (.int 1)) (zk 1)) ρ S3) (fun x S1=>Xv.non= .int (1+m)∧Kn S S1) (fun v S'=>v= .int (1+m)∧Kn S S')) (fun v S'=>v= .int (1+m)∧Kn S S'):=by
   intro w r S2 hw k2
   refine zS ?_
   walk_at "w"
   refine xG hw ⟨_,rfl,(fun z=>by cases z),fun _=>zP ?_⟩
   walk_at "w"
   exact ⟨rfl,k2⟩
  cases nd with
  |plain h1 h2 h3 h4=>exact no h3 k.app
  |cond=>exact no (by decide) k.app
  |whil=>exact no (by decide) k.app
  |hand=>exact no (by decide) k.app
  | @times j u=>
   have hj:0≤j∧j≤60:=by
    have:=z.1
    cases ow
    exact of_decide_eq_true this
   refine zS ?_
   walk_at "w"
   refine xT ⟨_,rfl,fun _=> ?_,(fun z=>by cases z)⟩
   walk_at "w"
   have b1:intBits (if 1>j then 1 else j)≤10:=PySem.intBits_le_iff.mpr (by split<;>omega)
   have b2:intBits (1+m)≤200:=PySem.intBits_le_iff.mpr (by
    have:(1+m).natAbs≤2^120:=by omega
    exact Nat.lt_of_le_of_lt this (by decide))
   refine YY (by omega) ?_
   walk_at "w"
   refine ⟨?_,k.app⟩
   show Xv.int (1+_*(1+m))=Xv.int (1+(if 1<j then j else 1)*(1+m))
   by_cases h:1<j
   ·rw [if_pos h,if_neg (by omega)]
   ·rw [if_neg h]
    by_cases h2:1>j
    ·rw [if_pos h2]
    ·rw [if_neg h2,show j=1 by omega]
theorem zfn {l:List Xv} {n:Int} {q c:Nat} (h:Tr bs (.b l) n q true c) (hc:c≤1000) (hq:q≤13):W (yl fu 40 [.tup l] S) fun v S'=>v= .int n∧Kn S S':=by
 have hl:l.length+1≤c:=h.cnt
 exact zhd (by omega) (h.lenM rfl hc hq) 40 (by omega) S
end
section
variable {fu:Nat} {S S' S2:Sto} {x y:Xv} {ns:List Int} {bs:List (Str×Int)}
noncomputable abbrev nI (qs:List Nat):List Int:=qs.map fun (q:Nat)=>(q:Int)
theorem Tj:∀(qs:List Nat) (a:Nat),(nI qs).foldl (fun a b=>if b>a then b else a) (a:Int)=((max a (qs.foldr max 0):Nat):Int)
 |[],a=>by simp [nI]
 |q::r,a=>by
  rw [nI,List.map_cons,List.foldl_cons,List.foldr_cons]
  by_cases h:(q:Int)>a
  ·rw [if_pos h]
   have:=Tj r q
   rw [nI] at this
   rw [this]
   congr 1
   omega
  ·rw [if_neg h]
   have:=Tj r a
   rw [nI] at this
   rw [this]
   congr 1
   omega
theorem zca (qs:List Nat):za6 0 (nI qs)=((qs.foldr max 0:Nat):Int):=by
 unfold za6
 cases qs with
 |nil=>rfl
 |cons q r=>
  rw [if_neg (by simp [nI])]
  unfold zjq
  have:=Tj (q::r) q
  rw [show (nI (q::r)).headD 0=(q:Int) from rfl,this,List.foldr_cons]
  congr 1
  omega
noncomputable def zjy (fu:Nat):Kd→Nat→Prop
 | .d x,q=>∀f,2*q+1≤f→Uc (yA fu f) x q
 | .b l,q=>∃qs:List Nat,qs.foldr max 0=q∧∀f,2*q+1≤f→Ti (yA fu f) l (nI qs)
 | .s us,q=>∃qs:List Nat,qs.foldr max 0=q∧∀f,2*q+2≤f→Ti (yu fu f) (us.map Xv.tup) (nI qs)
theorem zhe {l:List Xv} {q:Nat} (hl:l.length≤1000) (h:zjy fu (.b l) q):∀f,2*q+2≤f→Uc (yu fu f) (.tup l) q:=by
 obtain ⟨ms,rfl,h⟩:=h
 intro f hf S
 obtain ⟨f,rfl⟩:∃e,f=e+1:=⟨f-1,by omega⟩
 rw [YD]
 walk_at "wr";unfold Ye
 walk_at "w"
 refine VF hl (Ui (by walk_at "w";exact ⟨rfl,Kn.refl⟩)) (h f (by omega)) fun S' k=> ?_
 walk_at "w"
 refine zdw (zE zU) (ZU _) ?_
 rw [zca]
 exact ⟨rfl,k.app⟩
theorem in4 {w:Str} {P:Xv→Sto→Prop} (k:P (.bl (!decide (w="if"∨w="while"∨w="times"∨w="hand"))) S):WO (dIn true (.str w) (.ct [.str "if",.str "while",.str "times",.str "hand"]) S) P:=by
 refine zdr rfl rfl ?_
 have e:(true !=List.any [Xv.str "if",Xv.str "while",Xv.str "times",Xv.str "hand"] fun z=>zbO z (.str w))= !decide (w="if"∨w="while"∨w="times"∨w="hand"):=by
  show (true !=(decide (Str.ofString "if"=w)||(decide (Str.ofString "while"=w)||(decide (Str.ofString "times"=w)||(decide (Str.ofString "hand"=w)||false)))))=_
  by_cases h1:w="if"
  ·subst h1;simp
  ·by_cases h2:w="while"
   ·subst h2;simp
   ·by_cases h3:w="times"
    ·subst h3;simp
    ·by_cases h4:w="hand"
     ·subst h4;simp
     ·simp [h1,h2,h3,h4,Ne.symm h1,Ne.symm h2,Ne.symm h3,Ne.symm h4]
 rw [e]
 exact k
theorem Tr.depM {kd:Kd} {n:Int} {q c:Nat} {g:Bool} (h:Tr bs kd n q g c):c≤1000→zjy fu kd q:=by
 induction h with
 |nil=>exact fun _=>⟨[],rfl,fun _ _=> .nil⟩
 |nils=>exact fun _=>⟨[],rfl,fun _ _=> .nil⟩
 | @cons x r n m q p c e g h t1 t2 ih1 ih2=>
  intro hc
  have i1:=ih1 (by omega)
  obtain ⟨ms,rfl,i2⟩:=ih2 (by omega)
  exact ⟨q::ms,rfl,fun f hf=> .cons (i1 f (by omega)) (i2 f (by omega))⟩
 | @conss u r n m q p c e g h t1 t2 ih1 ih2=>
  intro hc
  have hl:u.length+1≤c:=t1.cnt
  have i1:=zhe (by omega) (ih1 (by omega))
  obtain ⟨ms,rfl,i2⟩:=ih2 (by omega)
  exact ⟨q::ms,rfl,fun f hf=> .cons (i1 f (by omega)) (i2 f (by omega))⟩
 | @deed x us tk bk b g m p c nd ow t ih=>
  intro hc
  obtain ⟨ms,hms,i2⟩:=ih (by omega)
  have hus:us.length≤c:=t.cnt
  intro f hf S
  obtain ⟨f,rfl⟩:∃e,f=e+1:=⟨f-1,by omega⟩
  rw [ZJ]
  walk_at "wr";unfold vw
  have yes:∀{w:Str} {r:List Xv},x= .tup (.str w::r)→(w="if"∨w="while"∨w="times"∨w="hand")→bk=true→WS (zF (sIf (bE (eOp (dIn true) (eOp yD (zk 0) (eC (.int 0))) (eC (.ct [.str "if",.str "while",.str "times",.str "hand"])))) (yd (eC (.int 0))) zY) (yd (eOp xj (eC (.int 1)) (eUn (UX 0) (xw [none] (iT (zD (wn fu) [(zk 0)])) (gN 0) xy (zD (yu fu f) [(zk 0)]))))) [some x] S) (fun x S1=>Xv.non= .int ((if bk=true then 1+p else 0:Nat):Int)∧Kn S S1) (fun v S'=>v= .int ((if bk=true then 1+p else 0:Nat):Int)∧Kn S S'):=by
   rintro w r rfl hw rfl
   refine zW (zS ?_)
   walk_at "w"
   refine in4 ⟨_,rfl,(fun z=>by rw [decide_eq_true hw] at z;cases z),fun _=>zP ?_⟩
   walk_at "w"
   refine VF (by rw [List.length_map];omega) (Ui ?_) (i2 f (by simp at hf;omega)) fun S' k=> ?_
   ·walk_at "w"
    refine (Th nd).imp ?_
    rintro _ _ ⟨rfl,rfl⟩
    exact ⟨rfl,Kn.refl⟩
   walk_at "w"
   refine zdw (zE zU) (ZU _) ?_
   rw [zca,hms]
   walk_at "w"
   exact ⟨by rw [if_pos rfl,Int.natCast_add];rfl,k.app⟩
  cases nd with
  | @plain w r h1 h2 h3 h4=>
   refine zW (zS ?_)
   walk_at "w"
   refine in4 ⟨_,rfl,fun _=> ?_,(fun z=>by
    rw [decide_eq_false (fun q=>by rcases q with q|q|q|q<;>contradiction)] at z
    cases z)⟩
   walk_at "w"
   exact ⟨rfl,Kn.refl⟩
  |cond=>exact yes rfl (.inl rfl) rfl
  |whil=>exact yes rfl (.inr (.inl rfl)) rfl
  |times=>exact yes rfl (.inr (.inr (.inl rfl))) rfl
  |hand=>exact yes rfl (.inr (.inr (.inr rfl))) rfl
theorem zgE {l:List Xv} {n:Int} {q c:Nat} {g:Bool} (h:Tr bs (.b l) n q g c) (hc:c≤1000) (hq:q≤15):W (yu fu 40 [.tup l] S) fun v S'=>v= .int q∧Kn S S':=by
 have hl:l.length+1≤c:=h.cnt
 exact zhe (by omega) (h.depM hc) 40 (by omega) S
end
section
variable {fu:Nat} {S S' S2:Sto} {x y:Xv} {ns:List Int} {bs:List (Str×Int)}
noncomputable abbrev Fl2:=List (Xv×Bool)
noncomputable def dwT (f:TwF) (u:List Xv) (fl:Fl2):Prop:=∀S,W (f [.tup u] S) fun v S'=>∃n,v= .ref n∧S'[n]? =some (.lst (fl.map (·.1)))∧S.length≤n∧Kn S S'
inductive zcR (f:TwF):List (List Xv)→Fl2→Prop where
 |nil:zcR f [] []
 |cons {u:List Xv} {r:List (List Xv)} {a b:Fl2}:dwT f u a→zcR f r b→zcR f (u::r) (a++b)
inductive DwL (f:TwF):List Xv→Fl2→Prop where
 |nil:DwL f [] []
 |cons {x:Xv} {r:List Xv} {us:List (List Xv)} {tk:Option Int} {bk b:Bool} {a c:Fl2}:Nd x us tk bk→zcR f us a→DwL f r c→us.length≤1000→DwL f (x::r) ((x,b)::(a++c))
structure zgF (bs:List (Str×Int)) (fl:Fl2) (g:Bool) (c:Nat):Prop where
 own:∀p∈fl,Own bs p.1 p.2
 all:fl.all (·.2)=g
 len:fl.length≤c
theorem zaF {zs:List Xv} (h:yB S y=some zs):ZY S y=some zs:=by
 cases y with
 |ref n=>exact h
 |_=>cases h
theorem zej {P:Xv→Sto→Prop} {n:Nat} {l zs:List Xv} (h:VS S x=some (n,l)) (h2:yB S y=some zs) (hl:l.length+zs.length≤sizeLine) (k:P .non (S.set n (.lst (l++zs)))):WO (Vi x [y] S) P:= .of (by
 unfold Vi
 rw [h]
 dsimp only
 rw [show ZY S y=some zs from zaF h2,Option.bind_some,if_pos hl]) k
theorem zjz {f:Nat} {l:List Xv} {fl:Fl2} (hl:fl.length≤1000) (h:DwL (zX fu f) l fl):dwT (zX fu (f+1)) l fl:=by
 intro S
 rw [vJ]
 walk_at "wr";unfold wH
 walk_at "w"
 refine Yj (zdp ?_)
 walk_at "w"
 refine Zh (fun i ρ S3=>∃(d r:Fl2) (a2 a3:Option Xv),ρ=[some (.tup l),some (.ref S.length),a2,a3]∧d++r=fl∧DwL (zX fu f) (l.drop i) r∧S3[S.length]? =some (.lst (d.map (·.1)))∧Kn S S3) (fun _ _ _ _ _=>rfl) ?_ ?_ ?_
 ·rintro i w ρ S3 hw ⟨d,r,a2,a3,rfl,hdr,hD,hat,kn⟩
  have hi:=(List.getElem?_eq_some_iff.1 hw).1
  have hd:l.drop i=w::l.drop (i+1):=by
   rw [List.drop_eq_getElem_cons hi,(List.getElem?_eq_some_iff.1 hw).2]
  rw [hd] at hD
  cases hD with
  | @cons _ _ us tk bk b a c nd hP hr hus=>
   have hlen:d.length+(1+(a.length+c.length))≤1000:=by
    have:=congrArg List.length hdr
    rw [List.length_append,List.length_cons,List.length_append] at this
    omega
   refine .of rfl ?_
   dsimp only [List.set]
   walk_at "w"
   refine Uh ?_
   walk_at "w"
   refine ⟨⟨_,zE hat⟩,?_⟩
   walk_at "w"
   refine Zr (wE hat) (by rw [List.length_map];exact Nat.lt_of_le_of_lt (show _≤1000 by omega) (by decide)) ?_
   walk_at "w"
   refine Yj (zdp ?_)
   walk_at "w"
   refine (Th nd).imp ?_
   rintro _ _ ⟨rfl,rfl⟩
   refine ⟨_,rfl,_,rfl,?_⟩
   refine Zh (fun j ρ S4=>∃(d2 r2:Fl2) (a3:Option Xv),ρ=[some (.tup l),some (.ref S.length),some w,a3]∧d2++r2=a∧zcR (zX fu f) (us.drop j) r2∧S4[S.length]? =some (.lst ((d++(w,b)::d2).map (·.1)))∧Kn S S4) (fun _ _ _ _ _=>rfl) ?_ ?_ ?_
   ·rintro j z ρ S4 hz ⟨d2,r2,a3,rfl,hdr2,hP2,hat2,kn2⟩
    rw [List.getElem?_map,Option.map_eq_some_iff] at hz
    obtain ⟨u,hz,rfl⟩:=hz
    have hj:=(List.getElem?_eq_some_iff.1 hz).1
    have hd2:us.drop j=u::us.drop (j+1):=by
     rw [List.drop_eq_getElem_cons hj,(List.getElem?_eq_some_iff.1 hz).2]
    rw [hd2] at hP2
    cases hP2 with
    | @cons _ _ e e2 hu hr2=>
     have hlen2:d2.length+(e.length+e2.length)=a.length:=by
      have:=congrArg List.length hdr2
      rw [List.length_append,List.length_append] at this
      omega
     refine .of rfl ?_
     dsimp only [List.set]
     walk_at "w"
     refine Uh ?_
     walk_at "w"
     refine ⟨⟨_,zE hat2⟩,?_⟩
     walk_at "w"
     refine (hu S4).imp ?_
     rintro _ S5 ⟨n,rfl,hn,hge,kn5⟩
     walk_at "w"
     refine zej (wE (kn5.at hat2)) (zE hn) (by rw [List.length_map,List.length_map,List.length_append,List.length_cons];exact Nat.le_of_lt (Nat.lt_of_le_of_lt (show _≤1000 by omega) (by decide))) ?_
     walk_at "w"
     refine ⟨d2++e,e2,_,rfl,by rw [List.append_assoc];exact hdr2,hr2,?_,(kn2.trans kn5).set (.inr (Nat.le_refl _))⟩
     rw [vZ (kn5.at hat2)]
     congr 2
     simp
   ·exact ⟨[],a,_,rfl,rfl,hP,by rw [vZ hat];simp,kn.set (.inr (Nat.le_refl _))⟩
   ·rintro ρ S4 ⟨d2,r2,a3,rfl,hdr2,hP2,hat2,kn2⟩
    rw [List.length_map,List.drop_length] at hP2
    cases hP2
    rw [List.append_nil] at hdr2
    subst hdr2
    exact ⟨d++(w,b)::d2,c,_,_,rfl,by rw [List.append_assoc];exact hdr,hr,hat2,kn2⟩
 ·exact ⟨[],fl,none,none,rfl,rfl,h,zU,Kn.refl.app⟩
 ·rintro ρ S3 ⟨d,r,a2,a3,rfl,hdr,hD,hat,kn⟩
  rw [List.drop_length] at hD
  cases hD
  rw [List.append_nil] at hdr
  subst hdr
  walk_at "w"
  exact ⟨hat,Nat.le_refl _,kn⟩
noncomputable def Mdw (fu:Nat) (bs:List (Str×Int)):Kd→Nat→Bool→Nat→Prop
 | .d x,q,g,c=>∃(us:List (List Xv)) (tk:Option Int) (bk b:Bool) (a:Fl2),Nd x us tk bk∧us.length≤1000∧zgF bs ((x,b)::a) g c∧∀f,q≤f→zcR (zX fu f) us a
 | .b l,q,g,c=>∃fl,zgF bs fl g c∧∀f,q≤f→DwL (zX fu f) l fl
 | .s us,q,g,c=>∃fl,zgF bs fl g c∧∀f,q+1≤f→zcR (zX fu f) us fl
theorem Tr.dwM {kd:Kd} {n:Int} {q c:Nat} {g:Bool} (h:Tr bs kd n q g c):c≤1000→Mdw fu bs kd q g c:=by
 induction h with
 |nil=>exact fun _=>⟨[],⟨(fun p hp=>by cases hp),rfl,Nat.zero_le _⟩,fun _ _=> .nil⟩
 |nils=>exact fun _=>⟨[],⟨(fun p hp=>by cases hp),rfl,Nat.zero_le _⟩,fun _ _=> .nil⟩
 | @cons x r n m q p c e g h t1 t2 ih1 ih2=>
  intro hc
  obtain ⟨us,tk,bk,b,a,nd,hus,ok,i1⟩:=ih1 (by omega)
  obtain ⟨fl,ok2,i2⟩:=ih2 (by omega)
  refine ⟨(x,b)::(a++fl),⟨fun z hz=> ?_,?_,?_⟩,fun f hf=> .cons nd (i1 f (by omega)) (i2 f (by omega)) hus⟩
  ·rw [←List.cons_append,List.mem_append] at hz
   exact hz.elim (ok.own z) (ok2.own z)
  ·rw [←List.cons_append,List.all_append,ok.all,ok2.all]
  ·have:=ok.len
   have:=ok2.len
   rw [←List.cons_append,List.length_append]
   omega
 | @conss u r n m q p c e g h t1 t2 ih1 ih2=>
  intro hc
  obtain ⟨a,ok,i1⟩:=ih1 (by omega)
  obtain ⟨fl,ok2,i2⟩:=ih2 (by omega)
  refine ⟨a++fl,⟨fun z hz=> ?_,?_,?_⟩,fun f hf=> ?_⟩
  ·rw [List.mem_append] at hz
   exact hz.elim (ok.own z) (ok2.own z)
  ·rw [List.all_append,ok.all,ok2.all]
  ·have:=ok.len
   have:=ok2.len
   rw [List.length_append]
   omega
  ·obtain ⟨f,rfl⟩:∃e,f=e+1:=⟨f-1,by omega⟩
   exact .cons (zjz (by have:=ok.len;omega) (i1 f (by omega))) (i2 _ (by omega))
 | @deed x us tk bk b g m p c nd ow t ih=>
  intro hc
  obtain ⟨fl,ok,i⟩:=ih (by omega)
  have hus:us.length≤c:=t.cnt
  refine ⟨us,tk,bk,b,fl,nd,by omega,⟨fun z hz=> ?_,?_,?_⟩,fun f hf=> ?_⟩
  ·rw [List.mem_cons] at hz
   rcases hz with rfl|hz
   ·exact ow
   ·exact ok.own z hz
  ·rw [List.all_cons,ok.all]
  ·have:=ok.len
   rw [List.length_cons]
   omega
  ·cases nd with
   |plain=>
    cases i (p+1) (Nat.le_refl _)
    exact .nil
   |cond=>exact i f (by simp at hf;omega)
   |whil=>exact i f (by simp at hf;omega)
   |times=>exact i f (by simp at hf;omega)
   |hand=>exact i f (by simp at hf;omega)
theorem zfo {l:List Xv} {n:Int} {q c:Nat} {g:Bool} (h:Tr bs (.b l) n q g c) (hc:c≤1000) (hq:q≤15):∃fl,zgF bs fl g c∧∀S,W (zX fu 20 [.tup l] S) fun v S'=>∃n,v= .ref n∧S'[n]? =some (.lst (fl.map (·.1)))∧S.length≤n∧Kn S S':=by
 obtain ⟨fl,ok,i⟩:=h.dwM (fu:=fu) hc
 exact ⟨fl,ok,zjz (f:=19) (by have:=ok.len;omega) (i 19 (by omega))⟩
end
section
variable {fu:Nat} {S S' S2:Sto} {x y:Xv} {ns:List Int} {bs:List (Str×Int)}
noncomputable def ABC:Str:="abcdefghijklmnopqrstuvwxyz"
noncomputable def nmF (z:Str):Bool:=decide (1≤z.length∧z.length≤8)&&z.cps.toList.all fun c=>inS ⟨#[c]⟩ ABC
noncomputable def asc (z:Str):Prop:=z.cps.all (· <128)=true
theorem ziy:∀n:Fin 26,inS ⟨#[97+n.1]⟩ ABC=true:=by decide+kernel
theorem AZ.asc {z:Str} (h:AZ z):asc z:=by
 unfold Prf.asc
 rw [Array.all_eq_true_iff_forall_mem]
 intro c hc
 have:=h c (by simpa using hc)
 simp
 omega
theorem AZ.nm {z:Str} (h:AZ z) (h1:1≤z.length) (h8:z.length≤8):nmF z=true:=by
 unfold nmF
 rw [decide_eq_true ⟨h1,h8⟩,Bool.true_and,List.all_eq_true]
 intro c hc
 obtain ⟨a,b⟩:=h c hc
 obtain ⟨n,rfl⟩:∃n,c=97+n:=⟨c-97,by omega⟩
 exact ziy ⟨n,by omega⟩
theorem zfp {z:Str} (ha:asc z) (hl:z.length≤100):W (Xi fu [.str z] S) fun v S'=>v= .bl (nmF z)∧Kn S S':=by
 walk_at "wr";unfold WY
 refine Wa (Ww ?_)
 refine UV ?_
 walk_at "w"
 refine zdy (xS hl) ?_
 walk_at "w"
 refine ⟨fun h=> ?_,fun h=> ?_⟩
 ·have h:(1:Int)≤z.length:=of_decide_eq_true h
  walk_at "w"
  refine ⟨fun h2=> ?_,fun h2=> ?_⟩
  ·have h2:(z.length:Int)≤8:=of_decide_eq_true h2
   walk_at "w"
   walk_at "wr";unfold Yp
   refine Wa ?_
   refine Wq (xs:=ZC z) (p:=fun i=>inS ⟨#[z.cps.toList.getD i 0]⟩ ABC) ?_ ?_ ?_ ?_
   ·unfold ZC
    rw [List.length_map,Wy]
    exact xS hl
   ·refine zff ?_
    walk_at "w"
    exact ⟨ha,fun _ _=>rfl,Kn.refl⟩
   ·intro i w S2 hw k2
    unfold ZC at hw
    rw [List.getElem?_map,Option.map_eq_some_iff] at hw
    obtain ⟨c,e,rfl⟩:=hw
    show W (eOp zfe (zk 0) (zk 1) [some (.str ⟨#[c]⟩),some (.str ABC)] S2) _
    walk_at "w"
    refine zim ?_
    rw [List.getD_eq_getElem?_getD,e]
    exact ⟨rfl,Kn.refl⟩
   ·intro S2 k2
    have e:(ZC z).length=z.cps.toList.length:=by unfold ZC;rw [List.length_map]
    rw [e,YF (q:=fun c=>inS ⟨#[c]⟩ ABC) (fun i a h=>by rw [List.getD_eq_getElem?_getD,h];rfl)]
    refine ⟨?_,k2⟩
    unfold nmF
    rw [decide_eq_true (show 1≤z.length∧z.length≤8 from ⟨by omega,by omega⟩),Bool.true_and]
  ·have h2:¬(z.length:Int)≤8:=of_decide_eq_false h2
   refine ⟨?_,Kn.refl⟩
   unfold nmF
   rw [decide_eq_false (by omega),Bool.false_and]
 ·have h:¬(1:Int)≤z.length:=of_decide_eq_false h
  refine ⟨_,rfl,(fun z=>by cases z),fun _=>⟨?_,Kn.refl⟩⟩
  unfold nmF
  rw [decide_eq_false (by omega),Bool.false_and]
theorem zcb:∀(xs acc:List Str),(vF acc xs).length=acc.length+xs.length↔xs.Nodup∧∀x∈xs,x∉acc
 |[],acc=>by simp [vF]
 |x::r,acc=>by
  show (vF (if x∈acc then acc else acc++[x]) r).length=acc.length+(r.length+1)↔_
  by_cases h:x∈acc
  ·rw [if_pos h]
   have:=UW r acc
   constructor
   ·intro e;omega
   ·intro e;exact absurd h (e.2 x (List.mem_cons_self ..))
  ·rw [if_neg h]
   have ih:=zcb r (acc++[x])
   rw [List.length_append,List.length_singleton] at ih
   rw [show acc.length+(r.length+1)=acc.length+1+r.length by omega,ih,List.nodup_cons]
   constructor
   ·rintro ⟨h1,h2⟩
    refine ⟨⟨fun hx=>(h2 x hx) (by simp),h1⟩,fun y hy=> ?_⟩
    rcases List.mem_cons.1 hy with rfl|hy
    ·exact h
    ·exact fun z=>h2 y hy (by simp [z])
   ·rintro ⟨⟨h1,h2⟩,h3⟩
    refine ⟨h2,fun y hy z=> ?_⟩
    rcases List.mem_append.1 z with z|z
    ·exact h3 y (List.mem_cons_of_mem _ hy) z
    ·rw [List.mem_singleton] at z
     subst z
     exact h1 hy
theorem zcc:∀xs:List Str,L2.UY (xs.map Xv.str)=some xs
 |[]=>rfl
 |b::r=>by rw [List.map_cons];simp [L2.UY,zcc r]
noncomputable def szF (bs:List (Str×Int)):Bool:=bs.all fun b=>decide (1≤b.2∧b.2≤9)
noncomputable def bxF (bs:List (Str×Int)):Bool:=decide (bs.length≤9∧(bs.map (·.1)).Nodup)&&((bs.all fun b=>nmF b.1)&&(szF bs&&decide (xP bs≤1000)))
theorem zdC:∀{l:List (Str×Int)},szF l=true→1≤xP l∧xP l≤9^l.length
 |[],_=>⟨by decide,by decide⟩
 |b::r,h=>by
  unfold szF at h
  rw [List.all_cons,Bool.and_eq_true] at h
  obtain ⟨a1,a2⟩:=zdC (l:=r) h.2
  have hb:=of_decide_eq_true h.1
  have e:(9:Int)^(b::r).length=9*9^r.length:=by rw [List.length_cons,Int.pow_succ,Int.mul_comm]
  show 1≤b.2*xP r∧b.2*xP r≤_
  rw [e]
  exact ⟨by have:=Int.mul_le_mul hb.1 a1 (by omega) (by omega);omega,Int.mul_le_mul hb.2 a2 (by omega) (by omega)⟩
theorem Tk (hl:bs.length≤20) (ha:∀b∈bs,asc b.1∧b.1.length≤100):W (Xm fu [.tup (bs.map yF)] S) fun v S'=>v= .bl (bxF bs)∧Kn S S':=by
 walk_at "wr";unfold Xl
 walk_at "w"
 refine vK (xs:=bs.map yF) (f:=fun i=> .str ((bs.getD i ("",0)).1)) (by rw [List.length_map];exact xS (by omega)) (Ui (by walk_at "w";exact ⟨rfl,Kn.refl⟩)) ?_ ?_
 ·intro i w S2 hw k2
  rw [List.getElem?_map,Option.map_eq_some_iff] at hw
  obtain ⟨b,e,rfl⟩:=hw
  unfold yF
  walk_at "w"
  rw [List.getD_eq_getElem?_getD,e]
  exact ⟨rfl,Kn.refl⟩
 intro S2 k2
 have enm:(List.range (bs.map yF).length).map (fun i=>Xv.str ((bs.getD i ("",0)).1))=(bs.map (·.1)).map Xv.str:=by
  refine List.ext_getElem? fun i=> ?_
  by_cases hi:i<bs.length
  ·rw [List.getElem?_map,List.getElem?_range (by rw [List.length_map];exact hi),List.getElem?_map,List.getElem?_map,List.getElem?_eq_getElem hi]
   show some (Xv.str _)=some (Xv.str _)
   rw [List.getD_eq_getElem?_getD,List.getElem?_eq_getElem hi]
   rfl
  ·rw [List.getElem?_eq_none (by simp;omega),List.getElem?_eq_none (by simp;omega)]
 rw [enm]
 have hat:(S2++[Ce.lst ((bs.map (·.1)).map Xv.str)])[S2.length]? =some (.lst ((bs.map (·.1)).map Xv.str)):=zU
 generalize hS3:S2++[Ce.lst ((bs.map (·.1)).map Xv.str)]=S3 at hat ⊢
 have k3:Kn S S3:=by rw [←hS3];exact k2.app
 walk_at "w"
 have len1:((bs.map (·.1)).map Xv.str).length=bs.length:=by rw [List.length_map,List.length_map]
 refine zS (Vo ?_)
 walk_at "w"
 refine vR (zE hat) ?_
 walk_at "w"
 rw [len1]
 refine ⟨fun h=> ?_,fun h=> ?_⟩
 ·have h:¬bs.length≤9:=by
   have:(bs.length:Int)>9:=of_decide_eq_true h
   omega
  refine ⟨fun _=> ?_,(fun z=>by cases z)⟩
  walk_at "w"
  refine ⟨?_,k3⟩
  unfold bxF
  rw [decide_eq_false (fun z=>h z.1),Bool.false_and]
 have h9:bs.length≤9:=by
  have:¬(bs.length:Int)>9:=of_decide_eq_false h
  omega
 walk_at "w"
 refine zei (zE hat) (zcc _) (by rw [List.length_map];omega) ?_
 walk_at "w"
 refine vR (zE hat) ?_
 walk_at "w"
 rw [len1]
 have hiff:=zcb (bs.map (·.1)) []
 rw [List.length_map,List.length_nil,Nat.zero_add] at hiff
 refine ⟨fun h2=> ?_,fun h2=> ?_⟩
 ·have h2:(vF [] (bs.map (·.1))).length≠bs.length:=by
   intro z
   rw [z] at h2
   simp at h2
  walk_at "w"
  refine ⟨?_,k3⟩
  unfold bxF
  rw [decide_eq_false (fun z=>h2 (hiff.2 ⟨z.2,fun x _=>by simp⟩)),Bool.false_and]
 have hnd:(bs.map (·.1)).Nodup:=by
  refine (hiff.1 ?_).1
  have:((vF [] (bs.map (·.1))).length:Int)=bs.length:=by simpa using h2
  omega
 have e1:decide (bs.length≤9∧(bs.map (·.1)).Nodup)=true:=decide_eq_true ⟨h9,hnd⟩
 refine zP ?_
 refine zW (zS (XZ (XD ?_)))
 refine Wq (xs:=(bs.map (·.1)).map Xv.str) (p:=fun i=>nmF (bs.getD i ("",0)).1) (by rw [len1];exact xS (by omega)) (zju (n:=S2.length) (by walk_at "w";exact ⟨rfl,zE hat,Kn.refl⟩)) ?_ ?_
 ·intro i w S4 hw k4
  rw [List.getElem?_map,List.getElem?_map,Option.map_map,Option.map_eq_some_iff] at hw
  obtain ⟨b,e,rfl⟩:=hw
  obtain ⟨b1,b2⟩:=ha b (List.mem_of_getElem? e)
  show W (zD (Xi fu) [(zk 0)] [some (.str b.1)] S4) _
  walk_at "w"
  refine (zfp b1 b2).imp ?_
  rintro _ S5 ⟨rfl,k5⟩
  rw [List.getD_eq_getElem?_getD,e]
  exact ⟨rfl,k5⟩
 intro S4 k4
 rw [len1,YF (q:=fun b=>nmF b.1) (fun i a h=>by rw [List.getD_eq_getElem?_getD,h];rfl)]
 refine ⟨_,rfl,fun h3=> ?_,fun h3=> ?_⟩
 ·walk_at "w"
  refine ⟨?_,k3.trans k4⟩
  unfold bxF
  rw [e1,show (bs.all fun b=>nmF b.1)=false by simpa using h3]
  rfl
 have e2:(bs.all fun b=>nmF b.1)=true:=by simpa using h3
 refine zP ?_
 walk_at "w"
 refine Yj (zdp ?_)
 walk_at "w"
 refine Zh (fun i ρ S5=>∃a3 a4:Option Xv,ρ=[some (.tup (bs.map yF)),some (.ref S2.length),some (.int (xP (bs.take i))),a3,a4]∧szF (bs.take i)=true∧S5=S4) (fun _ _ _ _ _=>rfl) ?_ ?_ ?_
 ·rintro i w ρ S5 hw ⟨a3,a4,rfl,hz,rfl⟩
  rw [List.getElem?_map,Option.map_eq_some_iff] at hw
  obtain ⟨b,e,rfl⟩:=hw
  have hi:=(List.getElem?_eq_some_iff.1 e).1
  have htk:bs.take (i+1)=bs.take i++[b]:=by
   rw [List.take_succ_eq_append_getElem hi,(List.getElem?_eq_some_iff.1 e).2]
  refine .of rfl ?_
  dsimp only [List.set]
  walk_at "w"
  refine zS (XZ (XD ?_))
  walk_at "w"
  refine VE.imp ?_
  rintro _ _ ⟨rfl,rfl⟩
  refine ⟨_,rfl,fun h4=> ?_,fun h4=> ?_⟩
  ·walk_at "w"
   refine ⟨?_,k3.trans k4⟩
   have h4:decide (1≤b.2∧b.2≤9)=false:=by
    cases hh:decide (1≤b.2∧b.2≤9) with
    |false=>rfl
    |true=>rw [hh] at h4;cases h4
   have:szF bs=false:=by
    unfold szF
    rw [List.all_eq_false]
    exact ⟨b,List.mem_of_getElem? e,by rw [h4];decide⟩
   unfold bxF
   rw [e1,e2,this]
   rfl
  ·have h4:decide (1≤b.2∧b.2≤9)=true:=by simpa using h4
   have hb:=of_decide_eq_true h4
   obtain ⟨p1,p2⟩:=zdC hz
   have hl3:(bs.take i).length≤9:=by rw [List.length_take];omega
   have p3:(9:Int)^(bs.take i).length≤9^9:=by exact_mod_cast Nat.pow_le_pow_right (by decide) hl3
   refine zP ?_
   walk_at "w"
   refine YY (by
    have:intBits (xP (bs.take i))≤40:=PySem.intBits_le_iff.mpr (by omega)
    have:intBits b.2≤40:=PySem.intBits_le_iff.mpr (by omega)
    omega) ?_
   walk_at "w"
   refine ⟨some (.str b.1),some (.int b.2),?_,?_,rfl⟩
   ·rw [htk,ZT]
   ·unfold szF at hz ⊢
    rw [htk,List.all_append,hz,Bool.true_and,List.all_cons,h4]
    rfl
 ·exact ⟨none,none,rfl,rfl,rfl⟩
 ·rintro ρ S5 ⟨a3,a4,rfl,hz,rfl⟩
  rw [List.length_map,List.take_length] at hz ⊢
  walk_at "w"
  refine ⟨?_,k3.trans k4⟩
  unfold bxF
  rw [e1,e2,hz]
  rfl
end
section
variable {fu:Nat} {S S' S2:Sto} {x y:Xv} {ns:List Int} {bs:List (Str×Int)}
theorem zdD:∀bs:List (Str×Int),zbY (bs.map yF)=some (szX bs)
 |[]=>rfl
 |b::r=>by
  rw [List.map_cons]
  show (zbY (r.map yF)).map _=_
  rw [zdD r]
  rfl
theorem zbi {z:Xv} (hl:bs.length≤20) (ha:∀b∈bs,asc b.1∧b.1.length≤100) (hb:bxF bs=false):W (vy fu [.tup [.tup (bs.map yF),z]] S) fun v S'=>v= .bl false∧Kn S S':=by
 walk_at "wr";unfold vx
 walk_at "w"
 refine zS (XZ (XD ?_))
 walk_at "w"
 refine (Tk hl ha).imp ?_
 rintro _ S2 ⟨rfl,k2⟩
 rw [hb]
 refine ⟨_,rfl,fun _=> ?_,(fun z=>by cases z)⟩
 walk_at "w"
 exact ⟨rfl,k2⟩
theorem zcd {l:List Xv} {n:Int} {q c:Nat} {g:Bool} (hl:bs.length≤20) (ha:∀b∈bs,asc b.1∧b.1.length≤100) (hb:bxF bs=true) (h:Tr bs (.b l) n q g c) (hc:c≤1000) (hq:q≤15):
  W (vy fu [.tup [.tup (bs.map yF),.tup l]] S) fun v S'=>v= .bl (g&&(decide (q≤12)&&decide (n≤100)))∧Kn S S':=by
 have hnd:(bs.map (·.1)).Nodup:=by
  unfold bxF at hb
  rw [Bool.and_eq_true] at hb
  exact (of_decide_eq_true hb.1).2
 walk_at "wr";unfold vx
 walk_at "w"
 refine zS (XZ (XD ?_))
 walk_at "w"
 refine (Tk hl ha).imp ?_
 rintro _ S2 ⟨rfl,k2⟩
 rw [hb]
 refine ⟨_,rfl,(fun z=>by cases z),fun _=>zP ?_⟩
 walk_at "w"
 refine zfj (zdD bs) ?_ ?_
 ·unfold szX
  rw [List.map_map]
  have:(bs.map ((fun x=>x.1) ∘ fun b=>((Sum.inr b.1:Key),Xv.int b.2)))=(bs.map (·.1)).map Sum.inr:=by rw [List.map_map];rfl
  rw [this]
  exact List.Pairwise.map Sum.inr (fun a b e z=>e (Sum.inr.inj z)) hnd
 have hd:(S2++[Ce.dk (szX bs)])[S2.length]? =some (.dk (szX bs)):=zU
 generalize hS3:S2++[Ce.dk (szX bs)]=S3 at hd ⊢
 have k3:Kn S S3:=by rw [←hS3];exact k2.app
 walk_at "w"
 obtain ⟨fl,ok,hw⟩:=zfo (fu:=fu) h hc hq
 refine zS (XZ (XD ?_))
 have hsrc:W (iL (zD (zX fu 20) [(zk 2)]) [some (.tup [.tup (bs.map yF),.tup l]),some (.tup (bs.map yF)),some (.tup l),some (.ref S2.length)] S3) fun get S1=>(∀S',Kn S1 S'→get S'=some (fl.map (·.1)))∧Kn S3 S1:=by
  refine zeZ ?_
  walk_at "w"
  refine (hw S3).imp ?_
  rintro _ S4 ⟨m,rfl,hm,_,k4⟩
  exact ⟨_,zE hm,fun S' k'=>Kn.lst k' (zE hm),k4⟩
 refine Wq (xs:=fl.map (·.1)) (p:=fun i=>(fl.getD i (.non,false)).2) (by rw [List.length_map];have:=ok.len;exact Nat.le_of_lt (Nat.lt_of_le_of_lt (show _≤1000 by omega) (by decide))) hsrc ?_ ?_
 ·intro i w S4 hw k4
  rw [List.getElem?_map,Option.map_eq_some_iff] at hw
  obtain ⟨p,e,rfl⟩:=hw
  show W (zD (wX fu) [(zk 1),(zk 0)] [some p.1,some (.ref S2.length)] S4) _
  walk_at "w"
  refine (zcP (k4.at hd) (ok.own p (List.mem_of_getElem? e))).imp ?_
  rintro _ S5 ⟨rfl,k5⟩
  rw [List.getD_eq_getElem?_getD,e]
  exact ⟨rfl,k5⟩
 intro S4 k4
 rw [List.length_map,YF (q:=fun p=>p.2) (fun i a h=>by rw [List.getD_eq_getElem?_getD,h];rfl),ok.all]
 refine ⟨_,rfl,fun h3=> ?_,fun h3=> ?_⟩
 ·walk_at "w"
  exact ⟨by rw [show g=false by simpa using h3];rfl,k3.trans k4⟩
 have hg:g=true:=by simpa using h3
 subst hg
 refine zP ?_
 refine Wa (Ww ?_)
 walk_at "w"
 refine (zgE h hc hq).imp ?_
 rintro _ S5 ⟨rfl,k5⟩
 walk_at "w"
 refine ⟨fun h4=> ?_,fun h4=> ?_⟩
 ·have h4:q≤12:=by
   have:(q:Int)≤12:=of_decide_eq_true h4
   omega
  walk_at "w"
  refine (zfn h hc (by omega)).imp ?_
  rintro _ S6 ⟨rfl,k6⟩
  walk_at "w"
  exact ⟨by rw [decide_eq_true h4];rfl,(k3.trans k4).trans (k5.trans k6)⟩
 ·have h4:¬q≤12:=by
   have:¬(q:Int)≤12:=of_decide_eq_false h4
   omega
  exact ⟨by rw [decide_eq_false h4];rfl,(k3.trans k4).trans k5⟩
end
section
variable {fu:Nat} {S S' S2:Sto} {x y:Xv} {ns:List Int} {bs:List (Str×Int)}
theorem zgG {us:List (List Xv)} {tk:Option Int} {bk:Bool} (h:Nd x us tk bk):W (vB fu [x] S) fun v S'=>∃n,v= .ref n∧S'[n]? =some (.lst (us.map Xv.tup))∧S.length≤n∧Kn S S':=by
 walk_at "wr";unfold Yt
 have no:∀{w v:Str} {r:List Xv} {a:TwS} {N:Rho→Sto→Prop} {R:Xv→Sto→Prop},w≠v→N [some (.tup (.str w::r))] S→WS (sIf (bE (eOp (xN false) (eOp yD (zk 0) (eC (.int 0))) (eC (.str v)))) a zY [some (.tup (.str w::r))] S) N R:=by
  intro w v r a N R h k
  refine zS ?_
  walk_at "w"
  exact xG h ⟨_,rfl,(fun z=>by cases z),fun _=>zP k⟩
 have no2:∀{w:Str} {r:List Xv} {a:TwS} {N:Rho→Sto→Prop} {R:Xv→Sto→Prop},w≠"while"→w≠"times"→N [some (.tup (.str w::r))] S→WS (sIf (bOr (bE (eOp (xN false) (eOp yD (zk 0) (eC (.int 0))) (eC (.str "while")))) (bE (eOp (xN false) (eOp yD (zk 0) (eC (.int 0))) (eC (.str "times"))))) a zY [some (.tup (.str w::r))] S) N R:=by
  intro w r a N R h h2 k
  refine zS (Vo ?_)
  walk_at "w"
  refine xG h ⟨_,rfl,(fun z=>by cases z),fun _=> ?_⟩
  walk_at "w"
  exact xG h2 ⟨_,rfl,(fun z=>by cases z),fun _=>zP k⟩
 cases h with
 |plain h1 h2 h3 h4=>
  refine zW (no h1 (zW (no2 h2 h3 (zW (no h4 ?_)))))
  walk_at "w"
  exact ⟨zU,Nat.le_refl _,Kn.refl.app⟩
 |cond=>
  refine zW (zS ?_)
  walk_at "w"
  refine xT ⟨_,rfl,fun _=> ?_,(fun z=>by cases z)⟩
  walk_at "w"
  refine xZ rfl rfl ?_
  walk_at "w"
  refine xZ rfl rfl ?_
  walk_at "w"
  exact ⟨zU,Nat.le_refl _,Kn.refl.app⟩
 |whil=>
  refine zW (no (by decide) (zW (zS (Vo ?_))))
  walk_at "w"
  refine xT ⟨_,rfl,fun _=>⟨fun _=> ?_,(fun z=>by cases z)⟩,(fun z=>by cases z)⟩
  walk_at "w"
  refine xZ rfl rfl ?_
  walk_at "w"
  exact ⟨zU,Nat.le_refl _,Kn.refl.app⟩
 |times=>
  refine zW (no (by decide) (zW (zS (Vo ?_))))
  walk_at "w"
  refine xG (by decide) ⟨_,rfl,(fun z=>by cases z),fun _=> ?_⟩
  walk_at "w"
  refine xT ⟨_,rfl,fun _=> ?_,(fun z=>by cases z)⟩
  walk_at "w"
  refine xZ rfl rfl ?_
  walk_at "w"
  exact ⟨zU,Nat.le_refl _,Kn.refl.app⟩
 | @hand us=>
  refine zW (no (by decide) (zW (no2 (by decide) (by decide) (zW (zS ?_)))))
  walk_at "w"
  refine xT ⟨_,rfl,fun _=> ?_,(fun z=>by cases z)⟩
  walk_at "w"
  refine WO.of (show zdk [.tup (us.map Xv.tup)] S=some (.ref S.length,S++[.lst (us.map Xv.tup)]) from rfl) ?_
  exact ⟨_,rfl,zU,Nat.le_refl _,Kn.refl.app⟩
structure Sk where
 x:Xv
 l:List Xv
 t:Int
 n:Int
 q:Nat
 c:Nat
noncomputable def Sk.v (e:Sk):Xv:= .tup [e.x,.int e.t]
structure WD (bs:List (Str×Int)) (sn:Nat) (S:Sto) (e:Sk):Prop where
 at_:e.x= .tup e.l∨∃m,e.x= .ref m∧m<sn∧S[m]? =some (.lst e.l)
 tr:Tr bs (.b e.l) e.n e.q true e.c
 q:e.q≤13
 t1:1≤e.t
 t2:e.t≤60^(13-e.q)
theorem WD.keep {sn:Nat} {e:Sk} (h:WD bs sn S e) (k:Kp (· =sn) S S'):WD bs sn S' e:=⟨by
 rcases h.at_ with h|⟨m,h1,h2,h3⟩
 ·exact .inl h
 ·exact .inr ⟨m,h1,h2,k.2 _ _ h3 (by omega)⟩,h.tr,h.q,h.t1,h.t2⟩
noncomputable def vL:List Sk→Int
 |[]=>0
 |e::r=>e.t*e.n+vL r
noncomputable def ve:List Sk→Nat
 |[]=>0
 |e::r=>e.c+ve r
theorem Tl:∀a b:List Sk,vL (a++b)=vL a+vL b
 |[],b=>by simp [vL]
 |e::r,b=>by simp only [List.cons_append,vL,Tl r b];omega
theorem Tm:∀a b:List Sk,ve (a++b)=ve a+ve b
 |[],b=>by simp [ve]
 |e::r,b=>by simp only [List.cons_append,ve,Tm r b];omega
theorem zce {sn:Nat}:∀{l:List Sk},(∀e∈l,WD bs sn S e)→l.length≤ve l
 |[],_=>Nat.le_refl _
 |e::r,h=>by
  have:=zce (l:=r) fun z hz=>h z (List.mem_cons_of_mem _ hz)
  have:e.l.length+1≤e.c:=(h e (List.mem_cons_self ..)).tr.cnt
  simp only [List.length_cons,ve]
  omega
noncomputable def zgH (fu:Nat):TwS:=(Vj (iL (zD (vB fu) [(zk 5)])) (gN 7) (XB (eMt wg (zk 2) [(zH [(zk 7),(zk 6)])])))
noncomputable def zfq (fu:Nat):TwS:=(zF (zR (eOp xj (zk 1) (zk 4)) (gN 1)) (zF (zR (zk 4) (gN 6)) (zF (sIf (bE (eOp (xN false) (eOp yD (zk 5) (eC (.int 0))) (eC (.str "times")))) (zF (zR (eOp YA (zk 4) (eFn TQ [(eC (.int 1)),(eOp yD (zk 5) (eC (.int 1)))])) (gN 6)) (zR (eOp xj (zk 1) (zk 6)) (gN 1))) zY) (zgH fu))))
noncomputable def ziz (fu:Nat):TwS:=(zF (zR (eMt zd3 (zk 2) []) (gT 2 (yH (gN 3) (yH (gN 4) vf)))) (Vj (iA (zk 3)) (gN 5) (zfq fu)))
theorem zgI:ZL fu=(zF (zR (eC (.int 0)) (gN 1)) (zF (zR (wf [(zH [(zk 0),(eC (.int 1))])]) (gN 2)) (zF (sWh fu (bE (eOp dGt (eFn wL [(zk 2)]) (eC (.int 0)))) (ziz fu)) (yd (zk 1))))):=rfl
theorem zaG {T0:Sto} {v0 v3:Xv} {t w len:Int} {sn p c:Nat} {m:Int} {us:List (List Xv)} {tk:Option Int} {bk:Bool} {st:List Sk} {a7:Option Xv} {N:Rho→Sto→Prop} {R:Xv→Sto→Prop} (nd:Nd x us tk bk) (tr:Tr bs (.s us) m p true c) (hp:p≤13) (hw1:1≤w) (hw2:w≤60^(13-p))
  (hst:∀e∈st,WD bs sn S e) (hc:ve st+c≤1000) (hat:S[sn]? =some (.lst (st.map Sk.v))) (hT:T0.length≤sn) (kT:Kn T0 S)
  (k:∀(S2:Sto) (st2:List Sk) a7,(∀e∈st2,WD bs sn S2 e)→ve st2=ve st+c→vL st2=vL st+w*m→S2[sn]? =some (.lst (st2.map Sk.v))→Kn T0 S2→Kp (· =sn) S S2→N [some v0,some (.int len),some (.ref sn),some v3,some (.int t),some x,some (.int w),a7] S2):
  WS (zgH fu [some v0,some (.int len),some (.ref sn),some v3,some (.int t),some x,some (.int w),a7] S) N R:=by
 unfold zgH
 refine Yj (zeZ ?_)
 walk_at "w"
 refine (zgG nd).imp ?_
 rintro _ S1 ⟨n,rfl,hn,hge,k1⟩
 have hsn:sn<S.length:=(List.getElem?_eq_some_iff.1 hat).1
 refine ⟨_,zE hn,_,zE hn,?_⟩
 have k1':Kp (· =sn) S S1:=k1.mono (fun _ z=>z.elim)
 refine Zh (fun i ρ S2=>∃(st2:List Sk) (m':Int) (p' c':Nat) (a7:Option Xv),ρ=[some v0,some (.int len),some (.ref sn),some v3,some (.int t),some x,some (.int w),a7]∧Tr bs (.s (us.drop i)) m' p' true c'∧p'≤p∧(∀e∈st2,WD bs sn S2 e)∧ve st2+c'=ve st+c∧vL st2+w*m'=vL st+w*m∧S2[sn]? =some (.lst (st2.map Sk.v))∧S2[n]? =some (.lst (us.map Xv.tup))∧Kn T0 S2∧Kp (· =sn) S S2) ?_ ?_ ?_ ?_
 ·rintro i ρ S2 _ ⟨_,_,_,_,_,_,_,_,_,_,_,_,h,_⟩
  exact zE h
 ·rintro i z ρ S2 hz ⟨st2,m',p',c',a7,rfl,tr2,hp2,hst2,hc2,ht2,hat2,hn2,kT2,kS2⟩
  rw [List.getElem?_map,Option.map_eq_some_iff] at hz
  obtain ⟨u,hz,rfl⟩:=hz
  have hi:=(List.getElem?_eq_some_iff.1 hz).1
  rw [List.drop_eq_getElem_cons hi,(List.getElem?_eq_some_iff.1 hz).2] at tr2
  generalize hg:(true:Bool)=gg at tr2
  cases tr2 with
  | @conss _ _ n1 m1 q1 p1 c1 e1 g1 g2 t1 t2=>
   have hg1:g1=true∧g2=true:=by
    cases g1<;>cases g2<;>first|exact ⟨rfl,rfl⟩|cases hg
   obtain ⟨rfl,rfl⟩:=hg1
   have hl2:=zce hst2
   refine .of rfl ?_
   dsimp only [List.set]
   walk_at "w"
   refine Uh ?_
   walk_at "w"
   refine ⟨⟨_,zE hat2⟩,?_⟩
   walk_at "w"
   refine Zr (wE hat2) (by rw [List.length_map];exact Nat.lt_of_le_of_lt (show _≤1000 by omega) (by decide)) ?_
   walk_at "w"
   have kp:Kp (· =sn) S2 (S2.set sn (.lst (st2.map Sk.v++[.tup [.tup u,.int w]]))):=(Kp.refl _).set (.inl rfl)
   have hq1:q1≤p:=by omega
   have hpw:(60:Int)^(13-p)≤60^(13-q1):=by exact_mod_cast Nat.pow_le_pow_right (by decide) (by omega)
   refine ⟨st2++[⟨.tup u,u,w,n1,q1,c1⟩],m1,p1,e1,_,rfl,t2,by omega,?_,?_,?_,?_,zfk hn2 (by omega),kT2.set (.inr hT),kS2.trans kp⟩
   ·intro e he
    rw [List.mem_append,List.mem_singleton] at he
    rcases he with he|rfl
    ·exact (hst2 e he).keep kp
    ·exact ⟨.inl rfl,t1,by show q1≤13;omega,hw1,by show w≤60^(13-q1);omega⟩
   ·rw [Tm]
    simp only [ve]
    omega
   ·rw [Tl]
    simp only [vL]
    rw [Int.mul_add] at ht2
    omega
   ·rw [vZ hat2,List.map_append]
    rfl
 ·exact ⟨st,m,p,c,_,rfl,tr,Nat.le_refl _,fun e he=>(hst e he).keep k1',rfl,rfl,k1.at hat,hn,kT.trans k1,k1'⟩
 ·rintro ρ S2 ⟨st2,m',p',c',a7,rfl,tr2,hp2,hst2,hc2,ht2,hat2,hn2,kT2,kS2⟩
  rw [List.length_map,List.drop_length] at tr2
  generalize hg:(true:Bool)=gg at tr2
  cases tr2
  exact k S2 st2 a7 hst2 (by omega) (by omega) hat2 kT2 kS2
end
section
variable {fu:Nat} {S S' S2:Sto} {x y:Xv} {ns:List Int} {bs:List (Str×Int)}
theorem Ud {a b:Bool} (h:(true:Bool)=(a&&b)):a=true∧b=true:=by cases a<;>cases b<;>first|exact ⟨rfl,rfl⟩|cases h
theorem ziA {t:Int} {q:Nat} (h1:1≤t) (h2:t≤60^(13-q)):intBits t≤100:=PySem.intBits_le_iff.mpr (by
 have h3:(60:Int)^(13-q)≤60^13:=by exact_mod_cast Nat.pow_le_pow_right (by decide) (by omega)
 have h4:(60:Int)^13<2^90:=by decide
 have h5:t.natAbs<2^90:=by omega
 exact Nat.lt_of_lt_of_le h5 (by decide))
theorem zfr {T0:Sto} {v0 v3:Xv} {t len:Int} {sn q c:Nat} {n:Int} {st:List Sk} {a6 a7:Option Xv} {N:Rho→Sto→Prop} {R:Xv→Sto→Prop} (tr:Tr bs (.d x) n q true c) (hq:q≤13) (ht1:1≤t) (ht2:t≤60^(13-q))
  (hst:∀e∈st,WD bs sn S e) (hc:ve st+c≤1000) (hat:S[sn]? =some (.lst (st.map Sk.v))) (hT:T0.length≤sn) (kT:Kn T0 S)
  (k:∀(S2:Sto) (st2:List Sk) (len2:Int) a6 a7,(∀e∈st2,WD bs sn S2 e)→ve st2+1≤ve st+c→len2+vL st2=len+vL st+t*n→S2[sn]? =some (.lst (st2.map Sk.v))→Kn T0 S2→Kp (· =sn) S S2→N [some v0,some (.int len2),some (.ref sn),some v3,some (.int t),some x,a6,a7] S2):
  WS (zfq fu [some v0,some (.int len),some (.ref sn),some v3,some (.int t),some x,a6,a7] S) N R:=by
 generalize hg:(true:Bool)=gg at tr
 cases tr with
 | @deed _ us tk bk b g m p c nd ow tr=>
  obtain ⟨rfl,rfl⟩:=Ud hg
  have hpq:bk=true→p≤12∧(60:Int)*60^(13-(if bk=true then 1+p else 0))=60^(13-p):=by
   rintro rfl
   rw [if_pos rfl] at hq ⊢
   refine ⟨by omega,?_⟩
   rw [show 13-p=(13-(1+p))+1 by omega,Int.pow_succ,Int.mul_comm]
  have hp13:p≤13:=by
   cases nd with
   |plain=>cases tr;decide
   |cond=>exact Nat.le_of_succ_le (Nat.succ_le_succ (hpq rfl).1)
   |whil=>exact Nat.le_of_succ_le (Nat.succ_le_succ (hpq rfl).1)
   |times=>exact Nat.le_of_succ_le (Nat.succ_le_succ (hpq rfl).1)
   |hand=>exact Nat.le_of_succ_le (Nat.succ_le_succ (hpq rfl).1)
  have htp:t≤60^(13-p):=by
   have le:bk=true→t≤60^(13-p):=by
    intro e
    have h:=(hpq e).2
    have:0≤(60:Int)^(13-(if bk=true then 1+p else 0)):=by exact_mod_cast Nat.zero_le _
    omega
   cases nd with
   |plain=>cases tr;exact ht2
   |cond=>exact le rfl
   |whil=>exact le rfl
   |times=>exact le rfl
   |hand=>exact le rfl
  unfold zfq
  have plain:∀{w:Str} {r:List Xv},x= .tup (.str w::r)→w≠"times"→tk=none→WS (zF (zR (eOp xj (zk 1) (zk 4)) (gN 1)) (zF (zR (zk 4) (gN 6)) (zF (sIf (bE (eOp (xN false) (eOp yD (zk 5) (eC (.int 0))) (eC (.str "times")))) (zF (zR (eOp YA (zk 4) (eFn TQ [(eC (.int 1)),(eOp yD (zk 5) (eC (.int 1)))])) (gN 6)) (zR (eOp xj (zk 1) (zk 6)) (gN 1))) zY) (zgH fu))) [some v0,some (.int len),some (.ref sn),some v3,some (.int t),some x,a6,a7] S) N R:=by
   rintro w r rfl hw rfl
   walk_at "w"
   refine zS ?_
   walk_at "w"
   refine xG hw ⟨_,rfl,(fun z=>by cases z),fun _=>zP ?_⟩
   refine zaG nd tr hp13 ht1 htp hst (by omega) hat hT kT ?_
   intro S2 st2 a7 h1 h2 h3 h4 h5 h6
   refine k S2 st2 _ _ _ h1 (by omega) ?_ h4 h5 h6
   show len+t+vL st2=len+vL st+t*(1+m)
   rw [h3,Int.mul_add]
   omega
  cases nd with
  |plain n1 n2 n3 n4=>exact plain rfl n3 rfl
  |cond=>exact plain rfl (by decide) rfl
  |whil=>exact plain rfl (by decide) rfl
  |hand=>exact plain rfl (by decide) rfl
  | @times j u=>
   have hj:0≤j∧j≤60:=by
    generalize hh:(true:Bool)=b2 at ow
    cases ow
    exact of_decide_eq_true hh.symm
   have hb:=ziA ht1 htp
   walk_at "w"
   refine zS ?_
   walk_at "w"
   refine xT ⟨_,rfl,fun _=> ?_,(fun z=>by cases z)⟩
   walk_at "w"
   have ej:(if j>1 then j else 1)=(if 1<j then j else 1):=rfl
   have j1:1≤(if 1<j then j else 1)∧(if 1<j then j else 1)≤60:=by split<;>omega
   refine YY (by
    have:intBits (if j>1 then j else 1)≤10:=PySem.intBits_le_iff.mpr (by rw [ej];omega)
    omega) ?_
   walk_at "w"
   rw [ej]
   have hturn:zhc (some j) m=(if 1<j then j else 1)*(1+m):=rfl
   rw [hturn] at k
   generalize (if 1<j then j else 1)=jj at j1 k ⊢
   have hw1:1≤t*jj:=by
    have:=Int.mul_le_mul ht1 j1.1 (by omega) (by omega)
    omega
   have hw2:t*jj≤60^(13-p):=by
    have h1:=(hpq rfl).2
    have h2:t*jj≤60^(13-(if true=true then 1+p else 0))*60:=Int.mul_le_mul ht2 j1.2 (by omega) (by exact_mod_cast Nat.zero_le _)
    rw [Int.mul_comm _ 60,h1] at h2
    exact h2
   refine zaG .times tr hp13 hw1 hw2 hst (by omega) hat hT kT ?_
   intro S2 st2 a7 h1 h2 h3 h4 h5 h6
   refine k S2 st2 _ _ _ h1 (by omega) ?_ h4 h5 h6
   rw [h3,Int.mul_add,Int.mul_add jj,Int.mul_one,Int.mul_add,Int.mul_one,←Int.mul_assoc]
   omega
theorem zek {T0:Sto} {v0:Xv} {len:Int} {sn:Nat} {e:Sk} {st:List Sk} {a5 a6 a7:Option Xv} {N:Rho→Sto→Prop} {R:Xv→Sto→Prop} (he:WD bs sn S e)
  (hst:∀e∈st,WD bs sn S e) (hc:ve st+e.c≤1000) (hat:S[sn]? =some (.lst (st.map Sk.v))) (hT:T0.length≤sn) (kT:Kn T0 S)
  (k:∀(S2:Sto) (st2:List Sk) (len2:Int) a5 a6 a7,(∀e∈st2,WD bs sn S2 e)→ve st2+1≤ve st+e.c→len2+vL st2=len+vL st+e.t*e.n→S2[sn]? =some (.lst (st2.map Sk.v))→Kn T0 S2→N [some v0,some (.int len2),some (.ref sn),some e.x,some (.int e.t),a5,a6,a7] S2):
  WS (Vj (iA (zk 3)) (gN 5) (zfq fu) [some v0,some (.int len),some (.ref sn),some e.x,some (.int e.t),a5,a6,a7] S) N R:=by
 have loop:∀get:Sto→Option (List Xv),(∀S2,Kp (· =sn) S S2→get S2=some e.l)→WS (XT get (gN 5) (zfq fu) (e.l.length+1) 0 [some v0,some (.int len),some (.ref sn),some e.x,some (.int e.t),a5,a6,a7] S) N R:=by
  intro get hget
  refine Zh (fun i ρ S2=>∃(st2:List Sk) (n' len2:Int) (q' c':Nat) (a5 a6 a7:Option Xv),ρ=[some v0,some (.int len2),some (.ref sn),some e.x,some (.int e.t),a5,a6,a7]∧Tr bs (.b (e.l.drop i)) n' q' true c'∧q'≤e.q∧(∀e∈st2,WD bs sn S2 e)∧ve st2+c'≤ve st+e.c∧len2+vL st2+e.t*n'=len+vL st+e.t*e.n∧S2[sn]? =some (.lst (st2.map Sk.v))∧Kn T0 S2∧Kp (· =sn) S S2) ?_ ?_ ?_ ?_
  ·rintro i ρ S2 _ ⟨_,_,_,_,_,_,_,_,_,_,_,_,_,_,_,_,h⟩
   exact hget S2 h
  ·rintro i z ρ S2 hz ⟨st2,n',len2,q',c',a5,a6,a7,rfl,tr2,hq2,hst2,hc2,ht2,hat2,kT2,kS2⟩
   have hi:=(List.getElem?_eq_some_iff.1 hz).1
   rw [List.drop_eq_getElem_cons hi,(List.getElem?_eq_some_iff.1 hz).2] at tr2
   generalize hg:(true:Bool)=gg at tr2
   cases tr2 with
   | @cons _ _ n1 m1 q1 p1 c1 e1 g1 g2 t1 t2=>
    obtain ⟨rfl,rfl⟩:=Ud hg
    refine .of rfl ?_
    dsimp only [List.set]
    have h13:=he.q
    have hpw:(60:Int)^(13-e.q)≤60^(13-q1):=by exact_mod_cast Nat.pow_le_pow_right (by decide) (by omega)
    have het:=he.t2
    refine zfr t1 (by omega) he.t1 (by omega) hst2 (by omega) hat2 hT kT2 ?_
    intro S3 st3 len3 a6 a7 h1 h2 h3 h4 h5 h6
    refine ⟨st3,m1,len3,p1,e1,_,a6,a7,rfl,t2,by omega,h1,by omega,?_,h4,h5,kS2.trans h6⟩
    rw [Int.mul_add] at ht2
    omega
  ·exact ⟨st,e.n,len,e.q,e.c,a5,a6,a7,rfl,he.tr,Nat.le_refl _,hst,Nat.le_refl _,rfl,hat,kT,Kp.refl _⟩
  ·rintro ρ S2 ⟨st2,n',len2,q',c',a5,a6,a7,rfl,tr2,hq2,hst2,hc2,ht2,hat2,kT2,kS2⟩
   rw [List.drop_length] at tr2
   generalize hg:(true:Bool)=gg at tr2
   cases tr2
   exact k S2 st2 len2 a5 a6 a7 hst2 hc2 (by omega) hat2 kT2
 rcases he.at_ with hx|⟨m,hx,hm,hat2⟩
 ·refine Yj (zio ?_)
  walk_at "w"
  rw [hx]
  refine ⟨e.l,rfl,e.l,rfl,?_⟩
  rw [←hx]
  exact loop _ fun _ _=>rfl
 ·refine Yj (zin ?_)
  walk_at "w"
  rw [hx]
  refine ⟨m,e.l,rfl,zE hat2,e.l,zE hat2,?_⟩
  rw [←hx]
  exact loop _ fun S2 k2=>by rw [hx];exact zE (k2.2 _ _ hat2 (by omega))
theorem zfs {T0:Sto} {v0:Xv} {sn:Nat} {R:Xv→Sto→Prop}:∀(k:Nat) (st:List Sk) (len:Int) (a3 a4 a5 a6 a7:Option Xv) (S:Sto),ve st<k→ve st≤1000→(∀e∈st,WD bs sn S e)→S[sn]? =some (.lst (st.map Sk.v))→T0.length≤sn→Kn T0 S→
  WS (Vk (bE (eOp dGt (eFn wL [(zk 2)]) (eC (.int 0)))) (ziz fu) k [some v0,some (.int len),some (.ref sn),a3,a4,a5,a6,a7] S) (fun ρ S'=>∃a3 a4 a5 a6 a7,ρ=[some v0,some (.int (len+vL st)),some (.ref sn),a3,a4,a5,a6,a7]∧Kn T0 S') R:=by
 intro k
 induction k with
 |zero=>intro st len a3 a4 a5 a6 a7 S h;omega
 |succ k ih=>
  intro st len a3 a4 a5 a6 a7 S hk hc hst hat hT kT
  refine Vq ?_
  walk_at "w"
  refine vR (zE hat) ?_
  walk_at "w"
  rw [List.length_map]
  refine yg (fun hc2=> ?_) (fun hc2=> ?_)
  ·unfold ziz
   have hne:st≠[]:=fun q=>by rw [q] at hc2;simp at hc2
   obtain ⟨r,e,rfl⟩:∃r p,st=r++[p]:=⟨st.dropLast,st.getLast hne,(List.dropLast_concat_getLast hne).symm⟩
   have he:WD bs sn S e:=hst _ (List.mem_append_right _ (List.mem_singleton.2 rfl))
   have hr:∀p∈r,WD bs sn S p:=fun p hp=>hst p (List.mem_append_left _ hp)
   rw [Tm] at hk hc
   have e1:ve [e]=e.c:=by simp [ve]
   have e2:vL (r++[e])=vL r+e.t*e.n:=by rw [Tl];simp [vL]
   rw [e1] at hk hc
   rw [e2]
   walk_at "w"
   refine vP ?_
   refine Uh ?_
   walk_at "w"
   refine ⟨⟨_,zE hat⟩,?_⟩
   walk_at "w"
   refine WO.of (show zd3 (.ref sn) [] S = some (e.v, S.set sn (.lst (r.map Sk.v))) by
    unfold zd3
    rw [wE hat]
    dsimp only
    rw [List.map_append,List.map_cons,List.map_nil,List.length_append,List.length_singleton,Nat.add_sub_cancel,List.getElem?_append_right (Nat.le_refl _),Nat.sub_self,List.dropLast_concat]
    rfl) ?_
   have hat2:=vZ (c':= .lst (r.map Sk.v)) hat
   have kp:Kp (· =sn) S (S.set sn (.lst (r.map Sk.v))):=(Kp.refl _).set (.inl rfl)
   have kT2:Kn T0 (S.set sn (.lst (r.map Sk.v))):=kT.set (.inr hT)
   generalize S.set sn (.lst (r.map Sk.v))=S2 at hat2 kp kT2 ⊢
   refine .of rfl ?_
   dsimp only [List.set]
   refine zek (he.keep kp) (fun p hp=>(hr p hp).keep kp) (by omega) hat2 hT kT2 ?_
   intro S3 st3 len3 a5 a6 a7 h1 h2 h3 h4 h5
   have:=ih st3 len3 (some e.x) (some (.int e.t)) a5 a6 a7 S3 (by omega) (by omega) h1 h4 hT h5
   rw [h3,Int.add_assoc] at this
   exact this
  ·have:st=[]:=List.length_eq_zero_iff.1 (by omega)
   subst this
   exact ⟨a3,a4,a5,a6,a7,by simp [vL],kT⟩
theorem zcS {l:List Xv} {n:Int} {q c:Nat} (hbg:Big fu) (h:Tr bs (.b l) n q true c) (hc:c≤1000) (hq:q≤13) (hx:x= .tup l∨∃m,x= .ref m∧S[m]? =some (.lst l)):W (xl fu [x] S) fun v S'=>v= .int n∧Kn S S':=by
 refine Wb rfl rfl ?_
 dsimp only [List.map,HAppend.hAppend,Append.append,List.append,List.replicate]
 rw [zgI]
 walk_at "w"
 have hat:(S++[Ce.lst [.tup [x,.int 1]]])[S.length]? =some (.lst ([(⟨x,l,1,n,q,c⟩:Sk)].map Sk.v)):=zU
 have kn:Kn S (S++[Ce.lst [.tup [x,.int 1]]]):=Kn.refl.app
 generalize S++[Ce.lst [.tup [x,.int 1]]]=S2 at hat kn ⊢
 refine xY (fun ρ S'=>∃a3 a4 a5 a6 a7,ρ=[some x,some (.int (0+vL [(⟨x,l,1,n,q,c⟩:Sk)])),some (.ref S.length),a3,a4,a5,a6,a7]∧Kn S S') ?_ ?_
 ·refine zbT ((zfs (bs:=bs) fu [⟨x,l,1,n,q,c⟩] 0 none none none none none S2 ?_ ?_ ?_ hat (Nat.le_refl _) kn))
  ·have:=hbg.le
   simp only [ve]
   omega
  ·simp only [ve]
   omega
  ·intro e he
   rw [List.mem_singleton] at he
   subst he
   refine ⟨?_,h,hq,Int.le_refl 1,?_⟩
   ·rcases hx with rfl|⟨m,rfl,hm⟩
    ·exact .inl rfl
    ·exact .inr ⟨m,rfl,(List.getElem?_eq_some_iff.1 hm).1,kn.at hm⟩
   ·show (1:Int)≤60^(13-q)
    exact_mod_cast Nat.one_le_pow _ 60 (by decide)
 ·rintro ρ S3 ⟨a3,a4,a5,a6,a7,rfl,k3⟩
  walk_at "w"
  exact ⟨by simp [vL],k3⟩
end
section
variable {fu:Nat} {S S' S2:Sto} {x y:Xv} {ns:List Int} {bs:List (Str×Int)}
noncomputable def GOp (bs:List (Str×Int)) (x:Xv):Prop:=Yw x∧opF bs x=true
theorem Tn {b:Str×Int} (h:b∈bs):(Xy bs b.1).isSome=true:=by
 unfold Xy
 rw [Option.isSome_map,List.find?_isSome]
 exact ⟨b,h,decide_eq_true rfl⟩
theorem zhf {b:Str×Int} (nd:(bs.map (·.1)).Nodup) (h:b∈bs):Xy bs b.1=some b.2:=by
 induction bs with
 |nil=>cases h
 |cons c r ih=>
  rw [List.map_cons,List.nodup_cons] at nd
  unfold Xy
  rw [List.find?_cons]
  rcases List.mem_cons.1 h with rfl|h
  ·rw [decide_eq_true rfl]
   rfl
  ·have:c.1≠b.1:=fun e=>nd.1 (by rw [e];exact List.mem_map_of_mem h)
   rw [decide_eq_false this]
   exact ih nd.2 h
theorem GOp.nm {b:Str×Int} (h:b∈bs):GOp bs (.str b.1):=⟨.inl ⟨_,rfl⟩,Tn h⟩
theorem GOp.num {v:Int} (h0:0≤v) (h1:v≤999999999):GOp bs (.int v):=⟨.inr ⟨_,rfl⟩,decide_eq_true ⟨h0,h1⟩⟩
theorem zft {i:Int} (h0:0≤i) (h1:i<bs.length):∃b∈bs,atI (bs.map yF) i=some (yF b):=by
 have hi:i.toNat<bs.length:=by omega
 exact ⟨bs[i.toNat],List.getElem_mem hi,Wc h0 (by rw [List.getElem?_map,List.getElem?_eq_getElem hi];rfl)⟩
theorem Zt {k:Int} (hs:Sc ns S) (hk:0≤k∧k≤1000):W (yO fu [.ref 0,.int k,.tup (bs.map yF)] S) fun v S'=>GOp bs v∧S=S':=by
 walk_at "wr";unfold vU;walk_at "w"
 refine xY (fun ρ S2=>∃c:Int,ρ=[some (.ref 0),some (.int k),some (.tup (bs.map yF)),some (.int c),none]∧S2=S) (zS ?_) ?_
 ·walk_at "w"
  refine vR hs ?_
  walk_at "w"
  rw [List.length_map]
  refine yg (fun h=> ?_) (fun h=> ?_)
  ·have h:0<ns.length:=by omega
   walk_at "w"
   refine vR hs ?_
   walk_at "w"
   rw [List.length_map]
   refine vQ (by omega) ?_
   have h1:=Int.emod_nonneg k (show (ns.length:Int)≠0 by omega)
   have h2:=Int.emod_lt_of_pos k (show (0:Int)<ns.length by omega)
   have h3:(k % (ns.length:Int)).toNat<ns.length:=by omega
   refine wy hs (Wc h1 (by rw [List.getElem?_map,List.getElem?_eq_getElem h3];rfl)) ?_
   walk_at "w"
   exact rfl
  ·walk_at "w"
   exact rfl
 ·rintro ρ S2 ⟨c,rfl,rfl⟩
  walk_at "w"
  refine (yt hs hk (by decide) (by decide)).imp ?_
  rintro _ _ ⟨rfl,_,_,rfl⟩
  walk_at "w"
  refine zS (wx ?_)
  walk_at "w"
  have rest:WS ((zF (sIf (bE (eOp xX (zk 4) (eC (.int 2)))) (yd (eOp XV (zk 3) (eOp UO (eC (.int 10)) (eC (.int 9))))) zY) (yd (zD (zt fu) [(zk 0),(zk 1),(eC (.int 10133)),(eC (.int 10))]))) [some (.ref 0),some (.int k),some (.tup (bs.map yF)),some (.int c),some (.int (yP ns k 10103 4))] S2) (fun x S1=>GOp bs .non∧S2=S1) (fun v S'=>GOp bs v∧S2=S'):=by
   refine zW (zS ?_)
   walk_at "w"
   refine yg (fun h=> ?_) (fun h=> ?_)
   ·walk_at "w"
    refine vQ (by decide) ?_
    have e:((10:Int)^(9:Int).toNat)=1000000000:=by decide
    rw [e]
    have h1:=Int.emod_nonneg c (show (1000000000:Int)≠0 by decide)
    have h2:=Int.emod_lt_of_pos c (show (0:Int)<1000000000 by decide)
    exact ⟨.num h1 (by omega),rfl⟩
   ·walk_at "w"
    refine (yt hs hk (by decide) (by decide)).imp ?_
    rintro _ _ ⟨rfl,h1,h2,rfl⟩
    exact ⟨.num h1 (by omega),rfl⟩
  refine yg (fun h=> ?_) (fun h=> ?_)
  ·walk_at "w"
   refine vC ?_
   walk_at "w"
   rw [List.length_map]
   refine yg (fun h=> ?_) (fun h=> ?_)
   ·walk_at "w"
    refine vC ?_
    walk_at "w"
    rw [List.length_map]
    refine (yt hs hk (by decide) (by omega)).imp ?_
    rintro _ _ ⟨rfl,h1,h2,rfl⟩
    walk_at "w"
    obtain ⟨b,hb,e⟩:=zft h1 h2
    refine xZ rfl e ?_
    unfold yF
    walk_at "w"
    exact ⟨.nm hb,rfl⟩
   ·exact zP rest
  ·exact ⟨(fun z=>by cases z),fun _=>zP rest⟩
theorem zdE {v:Int} (a:Str) (h:a="=<#"∨a="+-*") (h0:0≤v) (h1:v<3):∃s:Str,zaX (.str a) (.int v) S=some (.str s,S):=by
 rcases (show v=0∨v=1∨v=2 by omega) with rfl|rfl|rfl<;>rcases h with rfl|rfl<;>exact ⟨_,rfl⟩
theorem zcT {k:Int} (hs:Sc ns S) (hk:0≤k∧k≤900):W (wo fu [.ref 0,.int k,.tup (bs.map yF)] S) fun v S'=>(∃x y s,v= .tup [x,.str s,y]∧GOp bs x∧GOp bs y)∧S=S':=by
 walk_at "wr";unfold Xr;walk_at "w"
 refine (yt hs ⟨hk.1,by omega⟩ (by decide) (by decide)).imp ?_
 rintro _ _ ⟨rfl,h0,h1,rfl⟩
 obtain ⟨s,hs3⟩:=zdE (S:=S) "=<#" (.inl rfl) h0 h1
 refine WO.of hs3 ?_
 walk_at "w"
 refine (Zt (bs:=bs) hs ⟨by omega,by omega⟩).imp ?_
 rintro a _ ⟨ha,rfl⟩
 walk_at "w"
 refine (Zt (bs:=bs) hs ⟨by omega,by omega⟩).imp ?_
 rintro b _ ⟨hb,rfl⟩
 walk_at "w"
 exact ⟨⟨a,b,s,rfl,ha,hb⟩,rfl⟩
theorem zcf {k:Int} (hs:Sc ns S) (hk:0≤k∧k≤900):W (wZ fu [.ref 0,.int k,.tup (bs.map yF)] S) fun v S'=>((∃x,v= .tup [x]∧GOp bs x)∨∃x y s,v= .tup [x,.str s,y]∧GOp bs x∧GOp bs y)∧S=S':=by
 walk_at "wr";unfold wY
 refine zW (zS ?_)
 walk_at "w"
 refine (yt hs ⟨hk.1,by omega⟩ (by decide) (by decide)).imp ?_
 rintro _ _ ⟨rfl,_,_,rfl⟩
 walk_at "w"
 refine yg (fun h=> ?_) (fun h=>zP ?_)
 ·walk_at "w"
  refine (Zt (bs:=bs) hs ⟨by omega,by omega⟩).imp ?_
  rintro a _ ⟨ha,rfl⟩
  walk_at "w"
  exact ⟨.inl ⟨a,rfl,ha⟩,rfl⟩
 walk_at "w"
 refine (yt hs ⟨hk.1,by omega⟩ (by decide) (by decide)).imp ?_
 rintro _ _ ⟨rfl,h0,h1,rfl⟩
 obtain ⟨s,hs3⟩:=zdE (S:=S) "+-*" (.inr rfl) h0 h1
 refine WO.of hs3 ?_
 walk_at "w"
 refine (Zt (bs:=bs) hs ⟨by omega,by omega⟩).imp ?_
 rintro a _ ⟨ha,rfl⟩
 walk_at "w"
 refine (Zt (bs:=bs) hs ⟨by omega,by omega⟩).imp ?_
 rintro b _ ⟨hb,rfl⟩
 walk_at "w"
 exact ⟨.inr ⟨a,b,s,rfl,ha,hb⟩,rfl⟩
theorem zfu {n i:Nat} (h:i<n):ixN n (i:Int)=some i:=by
 unfold ixN
 rw [if_pos (by omega),if_pos (by omega),Int.toNat_natCast]
theorem zbj {n:Nat} {i:Int} (h0:0≤i) (h1:i<n):ixN n i=some i.toNat:=by
 obtain ⟨m,rfl⟩:∃m:Nat,i=m:=⟨i.toNat,by omega⟩
 exact zfu (by omega)
theorem VG {ws:List Int} {i:Nat} {v:Int} {p:Int→Bool} (h:ws.all p=true) (hv:p v=true):(ws.set i v).all p=true:=by
 rw [List.all_eq_true] at h ⊢
 intro w hw
 rcases List.mem_or_eq_of_mem_set hw with hw|rfl
 ·exact h w hw
 ·exact hv
theorem To:∀{ws:List Int},(∀w∈ws,0≤w)→0≤ws.sum∧∀w∈ws,w≤ws.sum
 |[],_=>⟨by decide,fun w h=>by cases h⟩
 |a::r,h=>by
  obtain ⟨h1,h2⟩:=To (ws:=r) fun w hw=>h w (List.mem_cons_of_mem _ hw)
  have ha:=h a (List.mem_cons_self ..)
  rw [List.sum_cons]
  refine ⟨by omega,fun w hw=> ?_⟩
  rcases List.mem_cons.1 hw with rfl|hw
  ·omega
  ·have:=h2 w hw
   omega
theorem zel {k:Int} {s:Nat} (hs:Sc ns S) (hk:0≤k∧k≤900) (h1:1≤s) (h9:s≤9):W (vW fu [.ref 0,.int k,.int (s:Int)] S) fun v S'=>∃ws:List Int,v= .tup (ws.map Xv.int)∧ws.length=s∧wOk ws s=true∧Kn S S':=by
 walk_at "wr";unfold vV;walk_at "w"
 have okw:∀ws:List Int,ws.length=s→ws.all (fun w=>decide (0≤w∧w≤999999999))=true→0<ws.sum→wOk ws s=true:=by
  intro ws hl ha hp
  unfold wOk
  rw [decide_eq_true (by omega:(ws.length:Int)=s),ha,decide_eq_true hp]
  rfl
 refine vK (xs:=wQ 0 s) (f:=fun i=> .int (yP ns (k+i) 10159 4)) (by rw [xR];exact xS (by omega)) ?_ ?_ ?_
 ·refine WV ?_
  walk_at "w"
  exact ⟨⟨by omega,by omega⟩,fun _ _=>by rw [Int.toNat_natCast],Kn.refl⟩
 ·intro i w S2 hw k2
  obtain ⟨hi,rfl⟩:=Zq hw
  show W (zD (zt fu) [(zk 1),(eOp xj (zk 2) (zk 0)),(eC (.int 10159)),(eC (.int 4))] [some (.int (0+(i:Int))),some (.ref 0),some (.int k)] S2) _
  walk_at "w"
  rw [Int.zero_add]
  refine (yt (hs.keep k2) ⟨by omega,by omega⟩ (by decide) (by decide)).imp ?_
  rintro _ _ ⟨rfl,_,_,rfl⟩
  exact ⟨rfl,Kn.refl⟩
 intro S2 k2
 obtain ⟨ws,hws,hwl,hwa⟩:∃ws:List Int,(List.range (wQ 0 s).length).map (fun (i:Nat)=>Xv.int (yP ns (k+(i:Int)) 10159 4))=ws.map Xv.int∧ws.length=s∧ws.all (fun w=>decide (0≤w∧w≤999999999))=true:=by
  refine ⟨(List.range s).map fun (i:Nat)=>yP ns (k+i) 10159 4,by rw [xR,List.map_map];rfl,by rw [List.length_map,List.length_range],?_⟩
  rw [List.all_eq_true]
  intro w hw
  obtain ⟨i,_,rfl⟩:=List.mem_map.1 hw
  unfold yP
  have a1:=Int.emod_nonneg ((((if 0<ns.length then ns.getD ((k+(i:Int)) % ns.length).toNat 0 else 0)+(k+i)*(k+i))*48271+11) % 10159) (show (4:Int)≠0 by decide)
  have a2:=Int.emod_lt_of_pos ((((if 0<ns.length then ns.getD ((k+(i:Int)) % ns.length).toNat 0 else 0)+(k+i)*(k+i))*48271+11) % 10159) (show (0:Int)<4 by decide)
  exact decide_eq_true ⟨a1,by omega⟩
 rw [hws]
 have hat:(S2++[Ce.lst (ws.map Xv.int)])[S2.length]? =some (.lst (ws.map Xv.int)):=zU
 generalize hS3:S2++[Ce.lst (ws.map Xv.int)]=S3 at hat ⊢
 have k3:Kn S S3:=by rw [←hS3];exact k2.app
 have hge:S.length≤S2.length:=k2.1
 walk_at "w"
 refine (yt (hs.keep k3) ⟨hk.1,by omega⟩ (by decide) (by omega)).imp ?_
 rintro _ _ ⟨rfl,a0,a1,rfl⟩
 walk_at "w"
 generalize yP ns k 10163 s=at_ at a0 a1
 have hai:at_.toNat<ws.length:=by omega
 refine xY (fun ρ S4=>∃ws:List Int,ρ=[some (.ref 0),some (.int k),some (.int (s:Int)),some (.ref S2.length),some (.int at_)]∧ws.length=s∧ws.all (fun w=>decide (0≤w∧w≤999999999))=true∧0<ws.sum∧S4[S2.length]? =some (.lst (ws.map Xv.int))∧Kn S S4) (zS ?_) ?_
 ·walk_at "w"
  refine zcN (zE hat) (ZU ws) ?_
  walk_at "w"
  have nn:∀w∈ws,0≤w:=fun w hw=>(of_decide_eq_true (List.all_eq_true.1 hwa w hw)).1
  refine yg (fun h=> ?_) (fun h=> ?_)
  ·refine Vp ?_
   walk_at "w"
   refine ⟨S2.length,ws.map Xv.int,at_,at_.toNat,wE hat,rfl,zbj a0 (by rw [List.length_map];omega),?_⟩
   refine ⟨ws.set at_.toNat 1,rfl,by rw [List.length_set];exact hwl,VG hwa (by decide),?_,?_,k3.set (.inr hge)⟩
   ·have h1:(1:Int)∈ws.set at_.toNat 1:=List.mem_set hai 1
    have:=(To (ws:=ws.set at_.toNat 1) fun w hw=>(of_decide_eq_true (List.all_eq_true.1 (VG hwa (by decide) (i:=at_.toNat) (v:=1)) w hw)).1).2 1 h1
    omega
   ·rw [vZ hat,List.map_set]
  ·walk_at "w"
   exact ⟨ws,rfl,hwl,hwa,by have:=(To nn).1;omega,hat,k3⟩
 ·rintro ρ S4 ⟨ws,rfl,hwl,hwa,hpos,hat,k4⟩
  walk_at "w"
  refine xY (fun ρ S5=>∃ws:List Int,ρ=[some (.ref 0),some (.int k),some (.int (s:Int)),some (.ref S2.length),some (.int at_)]∧ws.length=s∧ws.all (fun w=>decide (0≤w∧w≤999999999))=true∧0<ws.sum∧S5[S2.length]? =some (.lst (ws.map Xv.int))∧Kn S S5) (zS ?_) ?_
  ·walk_at "w"
   refine (yt (hs.keep k4) ⟨hk.1,by omega⟩ (by decide) (by decide)).imp ?_
   rintro _ _ ⟨rfl,_,_,rfl⟩
   walk_at "w"
   refine yg (fun h=> ?_) (fun h=> ?_)
   ·refine Vp ?_
    walk_at "w"
    have e:((10:Int)^(9:Int).toNat-1)=999999999:=by decide
    rw [e]
    have hai:at_.toNat<ws.length:=by omega
    refine ⟨S2.length,ws.map Xv.int,at_,at_.toNat,wE hat,rfl,zbj a0 (by rw [List.length_map];omega),?_⟩
    refine ⟨ws.set at_.toNat 999999999,rfl,by rw [List.length_set];exact hwl,VG hwa (by decide),?_,?_,k4.set (.inr hge)⟩
    ·have h1:(999999999:Int)∈ws.set at_.toNat 999999999:=List.mem_set hai 999999999
     have:=(To (ws:=ws.set at_.toNat 999999999) fun w hw=>(of_decide_eq_true (List.all_eq_true.1 (VG hwa (by decide) (i:=at_.toNat) (v:=999999999)) w hw)).1).2 999999999 h1
     omega
    ·rw [vZ hat,List.map_set]
   ·walk_at "w"
    exact ⟨ws,rfl,hwl,hwa,hpos,hat,k4⟩
  ·rintro ρ S5 ⟨ws,rfl,hwl,hwa,hpos,hat,k5⟩
   walk_at "w"
   refine xh hat ?_
   exact ⟨ws,rfl,hwl,okw ws hwl hwa hpos,k5⟩
theorem Tr.pl {w:Str} {r:List Xv} (h1:w≠"if") (h2:w≠"while") (h3:w≠"times") (h4:w≠"hand") (ow:Own bs (.tup (.str w::r)) true):Tr bs (.d (.tup (.str w::r))) 1 0 true 1:=Tr.deed (.plain h1 h2 h3 h4) ow .nils
theorem zgJ {k:Int} (hs:Sc ns S) (hk:0≤k∧k≤900) (hb:YE 1000 bs):W (wz fu [.ref 0,.int k,.tup (bs.map yF)] S) fun v S'=>Tr bs (.d v) 1 0 true 1∧Kn S S':=by
 walk_at "wr";unfold Ys;walk_at "w"
 refine (yt hs ⟨hk.1,by omega⟩ (by decide) (by decide)).imp ?_
 rintro _ _ ⟨rfl,w0,w1,rfl⟩
 generalize yP ns k 10177 8=w at w0 w1
 walk_at "w"
 have rest:WS ((zF (sIf (bE (eOp xX (zk 3) (eC (.int 5)))) (yd (zH [(eC (.str "pass"))])) zY) (zF (sIf (bE (eOp xX (zk 3) (eC (.int 6)))) (yd (zH [(eC (.str "look")),(zD (wo fu) [(zk 0),(zk 1),(zk 2)])])) zY) (yd (zH [(eC (.str "gain")),(zD (yO fu) [(zk 0),(eOp xj (zk 1) (eC (.int 1))),(zk 2)])])))) [some (.ref 0),some (.int k),some (.tup (bs.map yF)),some (.int w),none,none] S) (fun x S1=>Tr bs (.d .non) 1 0 true 1∧Kn S S1) (fun v S'=>Tr bs (.d v) 1 0 true 1∧Kn S S'):=by
  refine zW (zS ?_)
  walk_at "w"
  refine yg (fun h=> ?_) (fun h=>zP ?_)
  ·walk_at "w"
   exact ⟨.pl (by decide) (by decide) (by decide) (by decide) .pass,Kn.refl⟩
  refine zW (zS ?_)
  walk_at "w"
  refine yg (fun h=> ?_) (fun h=>zP ?_)
  ·walk_at "w"
   refine (zcT (bs:=bs) hs hk).imp ?_
   rintro _ _ ⟨⟨a,b,s,rfl,ha,hb⟩,rfl⟩
   walk_at "w"
   have ow:=Own.look (s:=s) ha.1 hb.1 (bs:=bs)
   rw [ha.2,hb.2] at ow
   exact ⟨.pl (by decide) (by decide) (by decide) (by decide) ow,Kn.refl⟩
  ·walk_at "w"
   refine (Zt (bs:=bs) hs ⟨by omega,by omega⟩).imp ?_
   rintro a _ ⟨ha,rfl⟩
   walk_at "w"
   have ow:=Own.gain ha.1 (bs:=bs)
   rw [ha.2] at ow
   exact ⟨.pl (by decide) (by decide) (by decide) (by decide) ow,Kn.refl⟩
 refine zS (wx ?_)
 walk_at "w"
 refine yg (fun h=> ?_) (fun h=>⟨(fun z=>by cases z),fun _=>zP rest⟩)
 walk_at "w"
 refine vC ?_
 walk_at "w"
 rw [List.length_map]
 refine yg (fun h=> ?_) (fun h=>zP rest)
 refine zW (vP ?_)
 walk_at "w"
 refine vC ?_
 walk_at "w"
 rw [List.length_map]
 refine (yt hs ⟨hk.1,by omega⟩ (by decide) (by omega)).imp ?_
 rintro _ _ ⟨rfl,h1,h2,rfl⟩
 walk_at "w"
 obtain ⟨b,hb2,e⟩:=zft h1 h2
 refine xZ rfl e ?_
 unfold yF
 refine .of rfl ?_
 dsimp only [List.set]
 obtain ⟨s1,s9⟩:=hb.sz b hb2
 refine zW (zS ?_)
 walk_at "w"
 refine yg (fun h=> ?_) (fun h=>zP ?_)
 ·walk_at "w"
  refine (zcf (bs:=bs) hs hk).imp ?_
  rintro _ _ ⟨⟨a,rfl,ha⟩|⟨a,c,s,rfl,ha,hc⟩,rfl⟩
  ·walk_at "w"
   have ow:=Own.set1 (n:=b.1) ha.1 (bs:=bs)
   rw [ha.2,Tn hb2] at ow
   exact ⟨.pl (by decide) (by decide) (by decide) (by decide) ow,Kn.refl⟩
  ·walk_at "w"
   have ow:=Own.set3 (n:=b.1) (s:=s) ha.1 hc.1 (bs:=bs)
   rw [ha.2,hc.2,Tn hb2] at ow
   exact ⟨.pl (by decide) (by decide) (by decide) (by decide) ow,Kn.refl⟩
 ·walk_at "w"
  obtain ⟨s,hs2⟩:∃s:Nat,b.2=s:=⟨b.2.toNat,by omega⟩
  rw [hs2]
  refine (zel hs hk (by omega) (by omega)).imp ?_
  rintro _ S2 ⟨ws,rfl,hwl,hwo,k2⟩
  walk_at "w"
  have ow:=Own.draw (n:=b.1) (ws:=ws) (by omega) (bs:=bs)
  rw [zhf hb.nd hb2,hs2] at ow
  have ow:Own bs _ (wOk ws s):=ow
  rw [hwo] at ow
  exact ⟨.pl (by decide) (by decide) (by decide) (by decide) ow,k2⟩
end
section
variable {fu:Nat} {S S' S2:Sto} {x y:Xv} {ns:List Int} {bs:List (Str×Int)}
noncomputable def GB (bs:List (Str×Int)) (l:List Xv) (q c:Nat):Prop:=∃n q' c',Tr bs (.b l) n q' true c'∧q'≤q∧c'≤c
noncomputable def GD (bs:List (Str×Int)) (x:Xv) (q c:Nat):Prop:=∃n q' c',Tr bs (.d x) n q' true c'∧q'≤q∧c'≤c
noncomputable def GS (bs:List (Str×Int)) (us:List (List Xv)) (q c:Nat):Prop:=∃n q' c',Tr bs (.s us) n q' true c'∧q'≤q∧c'≤c
theorem Tr.app {r:List Xv} {m:Int} {p e:Nat} {h:Bool} (hr:Tr bs (.b r) m p h e):∀{l:List Xv} {n:Int} {q c:Nat} {g:Bool},Tr bs (.b l) n q g c→∃c',c'+1=c+e∧Tr bs (.b (l++r)) (n+m) (max q p) (g&&h) c':=by
 intro l
 induction l with
 |nil=>
  intro n q c g hl
  cases hl
  refine ⟨e,by omega,?_⟩
  rw [Int.zero_add,Nat.zero_max,Bool.true_and]
  exact hr
 |cons x l ih=>
  intro n q c g hl
  cases hl with
  | @cons _ _ n1 m1 q1 p1 c1 e1 g1 h1 t1 t2=>
   obtain ⟨c',hc,t3⟩:=ih t2
   refine ⟨c1+c',by omega,?_⟩
   have:=Tr.cons t1 t3
   rw [←Int.add_assoc,←Nat.max_assoc,←Bool.and_assoc] at this
   exact this
theorem Tr.one {n:Int} {q c:Nat} {g:Bool} (h:Tr bs (.d x) n q g c):Tr bs (.b [x]) n q g (c+1):=by
 have:=Tr.cons h .nil
 rw [Int.add_zero,Nat.max_zero,Bool.and_true] at this
 exact this
theorem Tr.snoc {l:List Xv} {n m:Int} {q p c e:Nat} {g h:Bool} (hl:Tr bs (.b l) n q g c) (hx:Tr bs (.d x) m p h e):Tr bs (.b (l++[x])) (n+m) (max q p) (g&&h) (c+e):=by
 obtain ⟨c',hc,t⟩:=Tr.app hx.one hl
 obtain rfl:c'=c+e:=by omega
 exact t
theorem Tr.snocs {u:List Xv} {m:Int} {p e:Nat} {h:Bool} (hu:Tr bs (.b u) m p h e):∀{us:List (List Xv)} {n:Int} {q c:Nat} {g:Bool},Tr bs (.s us) n q g c→Tr bs (.s (us++[u])) (n+m) (max q p) (g&&h) (c+e):=by
 intro us
 induction us with
 |nil=>
  intro n q c g hl
  cases hl
  have:=Tr.conss hu .nils
  rw [Int.add_zero,Nat.max_zero,Bool.and_true,Nat.add_zero] at this
  rw [Int.zero_add,Nat.zero_max,Bool.true_and,Nat.zero_add]
  exact this
 |cons x l ih=>
  intro n q c g hl
  cases hl with
  | @conss _ _ n1 m1 q1 p1 c1 e1 g1 h1 t1 t2=>
   have:=Tr.conss t1 (ih t2)
   rw [←Int.add_assoc,←Nat.max_assoc,←Bool.and_assoc,←Nat.add_assoc] at this
   exact this
theorem GB.nil {q:Nat}:GB bs [] q 1:=⟨0,0,1,.nil,Nat.zero_le _,Nat.le_refl _⟩
theorem GB.snoc {l:List Xv} {q c e:Nat} (h:GB bs l q c) (g:GD bs x q e):GB bs (l++[x]) q (c+e):=by
 obtain ⟨n,q1,c1,t1,a1,b1⟩:=h
 obtain ⟨m,q2,c2,t2,a2,b2⟩:=g
 exact ⟨_,_,_,t1.snoc t2,Nat.max_le.2 ⟨a1,a2⟩,Nat.add_le_add b1 b2⟩
theorem GS.nil {q:Nat}:GS bs [] q 0:=⟨0,0,0,.nils,Nat.zero_le _,Nat.le_refl _⟩
theorem GS.snoc {us:List (List Xv)} {u:List Xv} {q c e:Nat} (h:GS bs us q c) (g:GB bs u q e):GS bs (us++[u]) q (c+e):=by
 obtain ⟨n,q1,c1,t1,a1,b1⟩:=h
 obtain ⟨m,q2,c2,t2,a2,b2⟩:=g
 exact ⟨_,_,_,Tr.snocs t2 t1,Nat.max_le.2 ⟨a1,a2⟩,Nat.add_le_add b1 b2⟩
theorem GB.s1 {u:List Xv} {q c:Nat} (h:GB bs u q c):GS bs [u] q c:=by
 have:=GS.nil.snoc h
 rw [Nat.zero_add] at this
 exact this
theorem GS.deed {us:List (List Xv)} {q c:Nat} {tk:Option Int} (h:GS bs us q c) (nd:Nd x us tk true) (ow:Own bs x true):GD bs x (1+q) (c+1):=by
 obtain ⟨n,q1,c1,t1,a1,b1⟩:=h
 exact ⟨_,_,_,Tr.deed nd ow t1,by rw [if_pos rfl];omega,Nat.succ_le_succ b1⟩
theorem GD.mono {q q2 c c2:Nat} (h:GD bs x q c) (hq:q≤q2) (hc:c≤c2):GD bs x q2 c2:=by
 obtain ⟨n,q1,c1,t1,a1,b1⟩:=h
 exact ⟨n,q1,c1,t1,by omega,by omega⟩
theorem GB.mono {l:List Xv} {q q2 c c2:Nat} (h:GB bs l q c) (hq:q≤q2) (hc:c≤c2):GB bs l q2 c2:=by
 obtain ⟨n,q1,c1,t1,a1,b1⟩:=h
 exact ⟨n,q1,c1,t1,by omega,by omega⟩
theorem GS.mono {l:List (List Xv)} {q q2 c c2:Nat} (h:GS bs l q c) (hq:q≤q2) (hc:c≤c2):GS bs l q2 c2:=by
 obtain ⟨n,q1,c1,t1,a1,b1⟩:=h
 exact ⟨n,q1,c1,t1,by omega,by omega⟩
noncomputable def zdF (fu:Nat) (ns:List Int) (bs:List (Str×Int)) (stop q:Nat):Prop:=∀f,3*q+2≤f→∀(S:Sto) (k:Nat),Sc ns S→k≤stop→W (ym fu f [.ref 0,.int (k:Int),.tup (bs.map yF),.int (q:Int),.int (stop:Int)] S) fun v S'=>∃(l:List Xv) (k':Nat),v= .tup [.tup l,.int (k':Int)]∧k≤k'∧k'≤stop∧GB bs l q (12*(k'-k)+1)∧Kn S S'
noncomputable def Tp (fu:Nat) (ns:List Int) (bs:List (Str×Int)) (stop q:Nat):Prop:=∀f,3*q+1≤f→∀(S:Sto) (k:Nat),Sc ns S→k<stop→W (yf fu f [.ref 0,.int (k:Int),.tup (bs.map yF),.int (q:Int),.int (stop:Int)] S) fun v S'=>∃(x:Xv) (k':Nat),v= .tup [x,.int (k':Int)]∧k<k'∧k'≤stop∧GD bs x q (12*(k'-k))∧Kn S S'
noncomputable def zjA (fu:Nat) (ns:List Int) (bs:List (Str×Int)) (stop q:Nat):Prop:=∀f,3*q≤f→∀(S:Sto) (k:Nat),Sc ns S→k<stop→W (yy fu f [.ref 0,.int (k:Int),.tup (bs.map yF),.int (q:Int),.int (stop:Int)] S) fun v S'=>∃(x:Xv) (k':Nat),v= .tup [x,.int (k':Int)]∧k<k'∧k'≤stop∧GD bs x q (12*(k'-k))∧Kn S S'
theorem ziB {stop q:Nat} (h63:stop≤63) (hB:zdF fu ns bs stop q):zjA fu ns bs stop (q+1):=by
 intro f hf S k hs hk
 obtain ⟨f,rfl⟩:∃e,f=e+1:=⟨f-1,by omega⟩
 rw [Yg]
 walk_at "wr";unfold Zn
 walk_at "w"
 refine (yt hs ⟨by omega,by omega⟩ (by decide) (by decide)).imp ?_
 rintro _ _ ⟨rfl,m0,m1,rfl⟩
 walk_at "w"
 refine xY (fun ρ S2=>∃m:Nat,ρ=[some (.ref 0),some (.int (k:Int)),some (.tup (bs.map yF)),some (.int ((q+1:Nat):Int)),some (.int (stop:Int)),some (.int (m:Int)),none,none,none,none]∧2≤m∧m≤8∧S2=S) (zS ?_) ?_
 ·walk_at "w"
  refine (yt hs ⟨by omega,by omega⟩ (by decide) (by decide)).imp ?_
  rintro _ _ ⟨rfl,_,_,rfl⟩
  walk_at "w"
  refine yg (fun h=> ?_) (fun h=> ?_)
  ·walk_at "w"
   exact ⟨by decide,by decide,rfl⟩
  ·walk_at "w"
   obtain ⟨c,hc⟩:∃c:Nat,yP ns k 10193 3=c:=⟨(yP ns k 10193 3).toNat,by omega⟩
   rw [hc] at m0 m1 ⊢
   exact ⟨2+c,by rw [Int.natCast_add];rfl,by omega,by omega,rfl⟩
 rintro ρ S2 ⟨m,rfl,hm2,hm8,rfl⟩
 walk_at "w"
 refine Yj (WV ?_)
 walk_at "w"
 refine ⟨⟨by omega,by omega⟩,_,rfl,?_⟩
 refine Zh (fun i ρ S3=>∃(us:List (List Xv)) (k':Nat) (a8 a9:Option Xv),ρ=[some (.ref 0),some (.int (k:Int)),some (.tup (bs.map yF)),some (.int ((q+1:Nat):Int)),some (.int (stop:Int)),some (.int (m:Int)),some (.ref S2.length),some (.int (k':Int)),a8,a9]∧us.length=i∧k<k'∧k'≤stop∧GS bs us q (12*(k'-k-1)+i)∧S3[S2.length]? =some (.lst (us.map Xv.tup))∧Kn S2 S3) (fun _ _ _ _ _=>rfl) ?_ ?_ ?_
 ·rintro i w ρ S3 hw ⟨us,k',a8,a9,rfl,hul,hk1,hk2,hG,hat,kn⟩
  obtain ⟨hi,rfl⟩:=Zq hw
  refine .of rfl ?_
  dsimp only [List.set]
  refine zW (vP ?_)
  walk_at "w"
  rw [show ((q+1:Nat):Int)-1=(q:Int) by omega]
  refine (hB f (by omega) S3 k' (hs.keep kn) hk2).imp ?_
  rintro _ S4 ⟨l,k2,rfl,g1,g2,gB,k4⟩
  refine .of rfl ?_
  dsimp only [List.set]
  walk_at "w"
  refine Uh ?_
  walk_at "w"
  refine ⟨⟨_,zE (k4.at hat)⟩,?_⟩
  walk_at "w"
  refine Zr (wE (k4.at hat)) (by rw [List.length_map];exact zb5 (by omega)) ?_
  walk_at "w"
  refine ⟨us++[l],k2,_,_,rfl,by rw [List.length_append,hul];rfl,by omega,g2,(hG.snoc gB).mono (Nat.le_refl _) (by omega),?_,(kn.trans k4).set (.inr (Nat.le_refl _))⟩
  rw [vZ (k4.at hat),List.map_append]
  rfl
 ·refine ⟨[],k+1,none,none,?_,rfl,by omega,by omega,GS.nil.mono (Nat.le_refl _) (Nat.zero_le _),zU,Kn.refl.app⟩
  rw [Int.natCast_add]
  rfl
 ·rintro ρ S3 ⟨us,k',a8,a9,rfl,hul,hk1,hk2,hG,hat,kn⟩
  rw [xR,Int.toNat_natCast] at hul hG
  walk_at "w"
  refine xh hat ?_
  walk_at "w"
  refine ⟨_,k',rfl,hk1,hk2,?_,kn⟩
  have ow:=Own.hand (us:=us.map Xv.tup) (by rw [List.length_map];omega) (bs:=bs)
  rw [List.length_map,decide_eq_true (show 2≤us.length∧us.length≤8 from ⟨by omega,by omega⟩)] at ow
  exact (hG.deed .hand ow).mono (by omega) (by omega)
theorem zfv {stop q:Nat} (h63:stop≤63) (hb:YE 1000 bs) (hB:∀p,q=p+1→zdF fu ns bs stop p):Tp fu ns bs stop q:=by
 intro f hf S k hs hk
 obtain ⟨f,rfl⟩:∃e,f=e+1:=⟨f-1,by omega⟩
 rw [Yf]
 walk_at "wr";unfold Zm
 walk_at "w"
 refine (yt hs ⟨by omega,by omega⟩ (by decide) (by decide)).imp ?_
 rintro _ _ ⟨rfl,w0,w1,rfl⟩
 generalize yP ns k 10187 11=w at w0 w1
 walk_at "w"
 have plain:WS (yd (zH [(zD (wz fu) [(zk 0),(zk 1),(zk 2)]),(eOp xj (zk 1) (eC (.int 1)))]) [some (.ref 0),some (.int (k:Int)),some (.tup (bs.map yF)),some (.int (q:Int)),some (.int (stop:Int)),some (.int w),none,none,none,none] S) (fun _ _=>False) (fun v S'=>∃(x:Xv) (k':Nat),v= .tup [x,.int (k':Int)]∧k<k'∧k'≤stop∧GD bs x q (12*(k'-k))∧Kn S S'):=by
  walk_at "w"
  refine (zgJ hs ⟨by omega,by omega⟩ hb).imp ?_
  rintro x S2 ⟨tr,k2⟩
  walk_at "w"
  exact ⟨x,k+1,rfl,by omega,by omega,⟨1,0,1,tr,Nat.zero_le _,by omega⟩,k2⟩
 have plain:∀{N:Rho→Sto→Prop},WS (yd (zH [(zD (wz fu) [(zk 0),(zk 1),(zk 2)]),(eOp xj (zk 1) (eC (.int 1)))]) [some (.ref 0),some (.int (k:Int)),some (.tup (bs.map yF)),some (.int (q:Int)),some (.int (stop:Int)),some (.int w),none,none,none,none] S) N (fun v S'=>∃(x:Xv) (k':Nat),v= .tup [x,.int (k':Int)]∧k<k'∧k'≤stop∧GD bs x q (12*(k'-k))∧Kn S S'):=by
  intro N
  rcases plain with ⟨_,_,_,h⟩|h
  ·exact h.elim
  ·exact .inr h
 refine zS (Vo ?_)
 walk_at "w"
 refine yg (fun h=>⟨fun _=>plain,(fun z=>by cases z)⟩) (fun h=> ?_)
 walk_at "w"
 refine yg (fun h=>plain) (fun h2=> ?_)
 obtain ⟨p,rfl⟩:∃p,q=p+1:=⟨q-1,by omega⟩
 have hBp:=hB p rfl
 have e1:((p+1:Nat):Int)-1=(p:Int):=by omega
 refine zP ?_
 refine zW (zS ?_)
 walk_at "w"
 refine yg (fun h3=> ?_) (fun h3=>zP ?_)
 ·walk_at "w"
  exact ziB h63 hBp f (by omega) S k hs hk
 refine zW (vP ?_)
 walk_at "w"
 rw [e1,show (k:Int)+1=((k+1:Nat):Int) by omega]
 refine (hBp f (by omega) S (k+1) hs (by omega)).imp ?_
 rintro _ S2 ⟨l,k2,rfl,g1,g2,gB,kn2⟩
 refine .of rfl ?_
 dsimp only [List.set]
 have hs2:=hs.keep kn2
 refine zW (zS ?_)
 walk_at "w"
 refine yg (fun h4=> ?_) (fun h4=>zP ?_)
 ·walk_at "w"
  refine (zcT (bs:=bs) hs2 ⟨by omega,by omega⟩).imp ?_
  rintro _ _ ⟨⟨a,b,s,rfl,ha,hb⟩,rfl⟩
  walk_at "w"
  have ow:=Own.whil (s:=s) (u:= .tup l) ha.1 hb.1 (bs:=bs)
  rw [ha.2,hb.2] at ow
  exact ⟨_,k2,rfl,by omega,g2,(gB.s1.deed .whil ow).mono (by omega) (by omega),kn2⟩
 refine zW (zS ?_)
 walk_at "w"
 refine yg (fun h5=> ?_) (fun h5=>zP ?_)
 ·walk_at "w"
  refine (yt hs2 ⟨by omega,by omega⟩ (by decide) (by decide)).imp ?_
  rintro _ _ ⟨rfl,d0,d1,rfl⟩
  walk_at "w"
  refine xY (fun ρ S3=>∃j:Int,ρ=[some (.ref 0),some (.int (k:Int)),some (.tup (bs.map yF)),some (.int ((p+1:Nat):Int)),some (.int (stop:Int)),some (.int w),some (.tup l),some (.int (k2:Int)),some (.int j),none]∧0≤j∧j≤60∧S3=S2) (zS ?_) ?_
  ·walk_at "w"
   refine (yt hs2 ⟨by omega,by omega⟩ (by decide) (by decide)).imp ?_
   rintro _ _ ⟨rfl,_,_,rfl⟩
   walk_at "w"
   refine yg (fun h6=> ?_) (fun h6=> ?_)
   ·walk_at "w"
    refine (yt hs2 ⟨by omega,by omega⟩ (by decide) (by decide)).imp ?_
    rintro _ _ ⟨rfl,c0,c1,rfl⟩
    walk_at "w"
    exact ⟨c0,by omega,rfl⟩
   ·walk_at "w"
    exact ⟨d0,by omega,rfl⟩
  rintro ρ S3 ⟨j,rfl,j0,j1,rfl⟩
  walk_at "w"
  have ow:=Own.times (k:=j) (u:= .tup l) (bs:=bs)
  rw [decide_eq_true ⟨j0,j1⟩] at ow
  exact ⟨_,k2,rfl,by omega,g2,(gB.s1.deed .times ow).mono (by omega) (by omega),kn2⟩
 refine zW (vP ?_)
 walk_at "w"
 rw [e1]
 refine (hBp f (by omega) S2 k2 hs2 g2).imp ?_
 rintro _ S3 ⟨l2,k3,rfl,g3,g4,gB2,kn3⟩
 refine .of rfl ?_
 dsimp only [List.set]
 walk_at "w"
 refine (zcT (bs:=bs) (hs2.keep kn3) ⟨by omega,by omega⟩).imp ?_
 rintro _ _ ⟨⟨a,b,s,rfl,ha,hb⟩,rfl⟩
 walk_at "w"
 have ow:=Own.cond (s:=s) (u:= .tup l) (w:= .tup l2) ha.1 hb.1 (bs:=bs)
 rw [ha.2,hb.2] at ow
 exact ⟨_,k3,rfl,by omega,g4,((gB.s1.snoc gB2).deed .cond ow).mono (by omega) (by omega),kn2.trans kn3⟩
end
section
variable {fu:Nat} {S S' S2:Sto} {x y:Xv} {ns:List Int} {bs:List (Str×Int)}
theorem zfw {T0:Sto} {stop q f:Nat} {R:Xv→Sto→Prop} (h63:stop≤63) (hf:3*q+1≤f) (hD:Tp fu ns bs stop q) (hs0:Sc ns T0) {k0:Nat}:∀(m:Nat) (k:Nat) (g:Bool) (l:List Xv) (a7:Option Xv) (S:Sto),stop-k<m→k0≤k→k≤stop→GB bs l q (12*(k-k0)+1)→l.length≤k-k0→S[T0.length]? =some (.lst l)→Kn T0 S→
  WS (Vk (WQ (bE (zk 6)) (bE (eOp dLt (zk 1) (zk 4)))) (zF (zR (eOp dGt (zD (zt fu) [(zk 0),(zk 1),(eC (.int 10247)),(eC (.int 3))]) (eC (.int 0))) (gN 6)) (zF (zR (zD (yf fu f) [(zk 0),(zk 1),(zk 2),(zk 3),(zk 4)]) (gT 2 (yH (gN 7) (yH (gN 1) vf)))) (XB (eMt wg (zk 5) [(zk 7)])))) m [some (.ref 0),some (.int (k:Int)),some (.tup (bs.map yF)),some (.int (q:Int)),some (.int (stop:Int)),some (.ref T0.length),some (.bl g),a7] S)
   (fun ρ S'=>∃(l:List Xv) (k':Nat) (g:Bool) (a7:Option Xv),ρ=[some (.ref 0),some (.int (k':Int)),some (.tup (bs.map yF)),some (.int (q:Int)),some (.int (stop:Int)),some (.ref T0.length),some (.bl g),a7]∧k0≤k'∧k'≤stop∧GB bs l q (12*(k'-k0)+1)∧S'[T0.length]? =some (.lst l)∧Kn T0 S') R:=by
 intro m
 induction m with
 |zero=>intro k g l a7 S h;omega
 |succ m ih=>
  intro k g l a7 S hm hk0 hks hG hl hat kn
  have stopN:(fun ρ S'=>∃(l:List Xv) (k':Nat) (g:Bool) (a7:Option Xv),ρ=[some (.ref 0),some (.int (k':Int)),some (.tup (bs.map yF)),some (.int (q:Int)),some (.int (stop:Int)),some (.ref T0.length),some (.bl g),a7]∧k0≤k'∧k'≤stop∧GB bs l q (12*(k'-k0)+1)∧S'[T0.length]? =some (.lst l)∧Kn T0 S') [some (.ref 0),some (.int (k:Int)),some (.tup (bs.map yF)),some (.int (q:Int)),some (.int (stop:Int)),some (.ref T0.length),some (.bl g),a7] S:=⟨l,k,g,a7,rfl,hk0,hks,hG,hat,kn⟩
  refine Vq (wx ?_)
  walk_at "w"
  refine ⟨fun hg=> ?_,fun hg=>⟨(fun z=>by cases z),fun _=>stopN⟩⟩
  walk_at "w"
  refine yg (fun hlt=> ?_) (fun hlt=>stopN)
  have hlt:k<stop:=by omega
  have hs:=hs0.keep kn
  walk_at "w"
  refine (yt hs ⟨by omega,by omega⟩ (by decide) (by decide)).imp ?_
  rintro _ _ ⟨rfl,_,_,rfl⟩
  walk_at "w"
  refine vP ?_
  walk_at "w"
  refine (hD f hf S k hs hlt).imp ?_
  rintro _ S2 ⟨x,k2,rfl,g1,g2,gD,kn2⟩
  refine .of rfl ?_
  dsimp only [List.set]
  walk_at "w"
  refine Uh ?_
  walk_at "w"
  refine ⟨⟨_,zE (kn2.at hat)⟩,?_⟩
  walk_at "w"
  refine Zr (wE (kn2.at hat)) (zb5 (by omega)) ?_
  walk_at "w"
  exact ih k2 _ (l++[x]) _ _ (by omega) (by omega) g2 ((hG.snoc gD).mono (Nat.le_refl _) (by omega)) (by rw [List.length_append,List.length_singleton];omega) (by rw [vZ (kn2.at hat)]) ((kn.trans kn2).set (.inr (Nat.le_refl _)))
theorem zfx {stop q:Nat} (hbg:Big fu) (h63:stop≤63) (hD:Tp fu ns bs stop q):zdF fu ns bs stop q:=by
 intro f hf S k hs hk
 obtain ⟨f,rfl⟩:∃e,f=e+1:=⟨f-1,by omega⟩
 rw [ZK]
 walk_at "wr";unfold vA
 walk_at "w"
 have hs1:Sc ns (S++[Ce.lst []]):=hs.keep Kn.refl.app
 refine (yt hs1 ⟨by omega,by omega⟩ (by decide) (by decide)).imp ?_
 rintro _ _ ⟨rfl,_,_,rfl⟩
 walk_at "w"
 refine xY _ (zbT (zfw (T0:=S) (k0:=k) h63 (by omega) hD hs fu k _ [] none _ (by have:=hbg.le;omega) (Nat.le_refl _) hk (by rw [Nat.sub_self];exact .nil) (Nat.zero_le _) zU Kn.refl.app)) ?_
 rintro ρ S3 ⟨l,k',g,a7,rfl,h1,h2,hG,hat,kn⟩
 walk_at "w"
 refine xh hat ?_
 walk_at "w"
 exact ⟨l,k',rfl,h1,h2,hG,kn⟩
theorem zfy {stop:Nat} (hbg:Big fu) (h63:stop≤63) (hb:YE 1000 bs):∀q,zdF fu ns bs stop q∧Tp fu ns bs stop q
 |0=>by
  have hD:Tp fu ns bs stop 0:=zfv h63 hb fun p e=>by omega
  exact ⟨zfx hbg h63 hD,hD⟩
 |q+1=>by
  have hD:Tp fu ns bs stop (q+1):=zfv h63 hb fun p e=>by
   obtain rfl:q=p:=by omega
   exact (zfy hbg h63 hb q).1
  exact ⟨zfx hbg h63 hD,hD⟩
theorem zfz {T0:Sto} {stop q f:Nat} {R:Xv→Sto→Prop} (h63:stop≤63) (hf:3*q+1≤f) (hD:Tp fu ns bs stop q) (hs0:Sc ns T0):∀(m:Nat) (k:Nat) (l:List Xv) (a6:Option Xv) (S:Sto),stop-k<m→k≤stop→GB bs l q (12*k+1)→l.length≤k→S[T0.length]? =some (.lst l)→Kn T0 S→
  WS (Vk (bE (eOp dLt (zk 5) (zk 3))) (zF (zR (zD (yf fu f) [(zk 0),(zk 5),(zk 1),(zk 2),(zk 3)]) (gT 2 (yH (gN 6) (yH (gN 5) vf)))) (XB (eMt wg (zk 4) [(zk 6)]))) m [some (.ref 0),some (.tup (bs.map yF)),some (.int (q:Int)),some (.int (stop:Int)),some (.ref T0.length),some (.int (k:Int)),a6] S)
   (fun ρ S'=>∃(l:List Xv) (k':Nat) (a6:Option Xv),ρ=[some (.ref 0),some (.tup (bs.map yF)),some (.int (q:Int)),some (.int (stop:Int)),some (.ref T0.length),some (.int (k':Int)),a6]∧k'≤stop∧GB bs l q (12*k'+1)∧l.length≤k'∧S'[T0.length]? =some (.lst l)∧Kn T0 S') R:=by
 intro m
 induction m with
 |zero=>intro k l a6 S h;omega
 |succ m ih=>
  intro k l a6 S hm hks hG hl hat kn
  refine Vq ?_
  walk_at "w"
  refine yg (fun hlt=> ?_) (fun hlt=>⟨l,k,a6,rfl,hks,hG,hl,hat,kn⟩)
  have hlt:k<stop:=by omega
  have hs:=hs0.keep kn
  refine zW (vP ?_)
  walk_at "w"
  refine (hD f hf S k hs hlt).imp ?_
  rintro _ S2 ⟨x,k2,rfl,g1,g2,gD,kn2⟩
  refine .of rfl ?_
  dsimp only [List.set]
  walk_at "w"
  refine Uh ?_
  walk_at "w"
  refine ⟨⟨_,zE (kn2.at hat)⟩,?_⟩
  walk_at "w"
  refine Zr (wE (kn2.at hat)) (zb5 (by omega)) ?_
  walk_at "w"
  exact ih k2 (l++[x]) _ _ (by omega) g2 ((hG.snoc gD).mono (Nat.le_refl _) (by omega)) (by rw [List.length_append,List.length_singleton];omega) (by rw [vZ (kn2.at hat)]) ((kn.trans kn2).set (.inr (Nat.le_refl _)))
theorem zjB {stop:Nat} (hbg:Big fu) (h63:stop≤63) (hb:YE 1000 bs) (hs:Sc ns S):W (Wp fu [.ref 0,.tup (bs.map yF),.int 4,.int (stop:Int)] S) fun v S'=>∃l:List Xv,v= .ref S.length∧S'[S.length]? =some (.lst l)∧GB bs l 4 760∧l.length≤63∧Kn S S':=by
 walk_at "wr";unfold Wo
 walk_at "w"
 refine xY _ (zbT (zfz (T0:=S) (q:=4) h63 (by decide) (zfy hbg h63 hb 4).2 hs fu 0 [] none _ (by have:=hbg.le;omega) (Nat.zero_le _) .nil (Nat.zero_le _) zU Kn.refl.app)) ?_
 rintro ρ S3 ⟨l,k',a6,rfl,h1,hG,hl,hat,kn⟩
 walk_at "w"
 exact ⟨l,rfl,hat,hG.mono (Nat.le_refl _) (by omega),by omega,kn⟩
end
section
variable {fu:Nat} {S S' S2:Sto} {x y:Xv} {ns:List Int} {bs:List (Str×Int)}
noncomputable def GX (bs:List (Str×Int)) (x:Xv) (q:Nat) (g:Bool) (c:Nat):Prop:=∃n c',Tr bs (.d x) n q g c'∧c'≤c
theorem op0 {v:Int} (h0:0≤v) (h1:v≤999999999):GOp bs (.int v):= .num h0 h1
theorem zaH {q c:Nat} {g:Bool} {tk:Option Int} {us:List (List Xv)} (h:GX bs x q g c) (ow:Own bs y true) (nd:Nd y us tk true) (hu:us=[[x]]∨us=[[x],[]]∨us=[[],[x]]∨us=[[],[.tup [.str "pass"],x]]):GX bs y (1+q) g (c+6):=by
 obtain ⟨n,c',t,hc⟩:=h
 have one:=t.one
 have ps:Tr bs (.d (.tup [.str "pass"])) 1 0 true 1:= .pl (by decide) (by decide) (by decide) (by decide) .pass
 rcases hu with rfl|rfl|rfl|rfl
 ·have:=Tr.deed nd ow (Tr.conss one .nils)
  rw [Nat.max_zero,if_pos rfl,Bool.and_true,Bool.true_and] at this
  exact ⟨_,_,this,by omega⟩
 ·have:=Tr.deed nd ow (Tr.conss one (Tr.conss .nil .nils))
  rw [Nat.max_self,Nat.max_zero,if_pos rfl,Bool.and_true,Bool.and_true,Bool.true_and] at this
  exact ⟨_,_,this,by omega⟩
 ·have:=Tr.deed nd ow (Tr.conss .nil (Tr.conss one .nils))
  rw [Nat.max_zero,Nat.zero_max,if_pos rfl,Bool.and_true,Bool.true_and,Bool.true_and] at this
  exact ⟨_,_,this,by omega⟩
 ·have:=Tr.deed nd ow (Tr.conss .nil (Tr.conss (Tr.cons ps one) .nils))
  rw [Nat.max_zero,Nat.zero_max,Nat.zero_max,if_pos rfl,Bool.and_true,Bool.true_and,Bool.true_and,Bool.true_and] at this
  exact ⟨_,_,this,by omega⟩
theorem Tq {a b:Int} {s:Str} {u w:Xv} (ha:0≤a∧a≤999999999) (hb:0≤b∧b≤999999999):Own bs (.tup [.str "if",.tup [.int a,.str s,.int b],u,w]) true:=by
 have:=Own.cond (bs:=bs) (s:=s) (u:=u) (w:=w) (op0 ha.1 ha.2 (bs:=bs)).1 (op0 hb.1 hb.2 (bs:=bs)).1
 rw [(op0 ha.1 ha.2 (bs:=bs)).2,(op0 hb.1 hb.2 (bs:=bs)).2] at this
 exact this
theorem Ts {a b:Int} {s:Str} {u:Xv} (ha:0≤a∧a≤999999999) (hb:0≤b∧b≤999999999):Own bs (.tup [.str "while",.tup [.int a,.str s,.int b],u]) true:=by
 have:=Own.whil (bs:=bs) (s:=s) (u:=u) (op0 ha.1 ha.2 (bs:=bs)).1 (op0 hb.1 hb.2 (bs:=bs)).1
 rw [(op0 ha.1 ha.2 (bs:=bs)).2,(op0 hb.1 hb.2 (bs:=bs)).2] at this
 exact this
theorem Ue {q c m:Nat} {g:Bool} (hs:Sc ns S) (hm:m≤13) (h:GX bs x q g c):W (xU fu [.ref 0,x,.int (m:Int)] S) fun v S'=>GX bs v (q+m) g (c+6*m)∧S=S':=by
 walk_at "wr";unfold vX
 walk_at "w"
 refine Yj (WV ?_)
 walk_at "w"
 refine ⟨⟨by omega,by omega⟩,_,rfl,?_⟩
 refine Zh (fun i ρ S3=>∃(y:Xv) (a3 a4:Option Xv),ρ=[some (.ref 0),some y,some (.int (m:Int)),a3,a4]∧GX bs y (q+i) g (c+6*i)∧S3=S) (fun _ _ _ _ _=>rfl) ?_ ?_ ?_
 ·rintro i w ρ S3 hw ⟨y,a3,a4,rfl,hG,rfl⟩
  obtain ⟨hi,rfl⟩:=Zq hw
  have fin:∀{z:Xv} {b:Int},GX bs z (1+(q+i)) g (c+6*i+6)→∃(y:Xv) (a3 a4:Option Xv),[some (Xv.ref 0),some z,some (.int (m:Int)),some (.int (0+(i:Int))),some (.int b)]=[some (.ref 0),some y,some (.int (m:Int)),a3,a4]∧GX bs y (q+(i+1)) g (c+6*(i+1))∧S3=S3:=by
   intro z b hz
   refine ⟨z,_,_,rfl,?_,rfl⟩
   rw [show q+(i+1)=1+(q+i) by omega,show c+6*(i+1)=c+6*i+6 by omega]
   exact hz
  refine .of rfl ?_
  dsimp only [List.set]
  walk_at "w"
  refine (yt hs ⟨by omega,by omega⟩ (by decide) (by decide)).imp ?_
  rintro _ _ ⟨rfl,w0,w1,rfl⟩
  walk_at "w"
  refine zS ?_
  walk_at "w"
  refine yg (fun h0=> ?_) (fun h0=>zS ?_)
  ·walk_at "w"
   exact fin (zaH hG (Tq (by decide) (by decide)) .cond (.inr (.inl rfl)))
  walk_at "w"
  refine yg (fun h0=> ?_) (fun h0=>zS ?_)
  ·walk_at "w"
   exact fin (zaH hG (Tq (by decide) (by decide)) .cond (.inr (.inr (.inr rfl))))
  walk_at "w"
  refine yg (fun h0=> ?_) (fun h0=>zS ?_)
  ·walk_at "w"
   exact fin (zaH hG (Ts (by decide) (by decide)) .whil (.inl rfl))
  walk_at "w"
  refine yg (fun h0=> ?_) (fun h0=>zS ?_)
  ·walk_at "w"
   exact fin (zaH hG (by have:=Own.times (bs:=bs) (k:=1) (u:= .tup [y]);exact this) .times (.inl rfl))
  walk_at "w"
  refine yg (fun h0=> ?_) (fun h0=> ?_)
  ·walk_at "w"
   exact fin (zaH hG (by have:=Own.times (bs:=bs) (k:=0) (u:= .tup [y]);exact this) .times (.inl rfl))
  ·walk_at "w"
   exact fin (zaH hG (by have:=Own.hand (bs:=bs) (us:=[.tup [],.tup [y]]) (show 2≤100 by decide);exact this) (.hand (us:=[[],[y]])) (.inr (.inr (.inl rfl))))
 ·exact ⟨x,none,none,rfl,h,rfl⟩
 ·rintro ρ S3 ⟨y,a3,a4,rfl,hG,rfl⟩
  rw [xR,Int.toNat_natCast] at hG
  walk_at "w"
  exact ⟨hG,rfl⟩
end
section
variable {fu:Nat} {S S' S2:Sto} {x y:Xv} {ns:List Int} {bs:List (Str×Int)}
theorem zaI {z:Str}:∀{l:List Str},((l.map Xv.str).any fun w=>zbO w (.str z))=decide (z∈l)
 |[]=>by simp
 |a::r=>by
  rw [List.map_cons,List.any_cons,zaI (l:=r)]
  show (decide (a=z)||decide (z∈r))=_
  by_cases h:a=z
  ·subst h;simp
  ·have:¬z=a:=fun e=>h e.symm
   simp [h,this]
theorem Tt:∀l:List Str,(l.map Xv.str).all XY=true
 |[]=>rfl
 |a::r=>by rw [List.map_cons,List.all_cons,Tt r];rfl
theorem zcg {P:Xv→Sto→Prop} {n:Nat} {z:Str} {l:List Str} (h:yB S (.ref n)=some (l.map Xv.str)) (k:P (.bl (!decide (z∈l))) S):WO (dIn true (.str z) (.ref n) S) P:=by
 refine zdr (zaF h) (by rw [Tt];rfl) ?_
 rw [zaI]
 simpa using k
theorem zfA {α:Type} [DecidableEq α]:∀{l m:List α},l.Nodup→(∀x∈l,x∈m)→l.length≤m.length
 |[],m,_,_=>Nat.zero_le _
 |a::r,m,nd,h=>by
  rw [List.nodup_cons] at nd
  have ha:=h a (List.mem_cons_self ..)
  have:=zfA (l:=r) (m:=m.erase a) nd.2 fun x hx=>by
   have:x≠a:=fun e=>nd.1 (e ▸ hx)
   rw [List.mem_erase_of_ne this]
   exact h x (List.mem_cons_of_mem _ hx)
  rw [List.length_erase_of_mem ha] at this
  have hm:0<m.length:=List.length_pos_of_mem ha
  rw [List.length_cons]
  omega
noncomputable def aj:List Str:=[⟨#[97]⟩,⟨#[98]⟩,⟨#[99]⟩,⟨#[100]⟩,⟨#[101]⟩,⟨#[102]⟩,⟨#[103]⟩,⟨#[104]⟩,⟨#[105]⟩,⟨#[106]⟩]
theorem zch:ZC "abcdefghij"=aj.map Xv.str:=by rfl
theorem zjC:aj.Nodup:=by decide
theorem zhg:∀z∈aj,AZ z∧z.length=1:=by
 intro z hz
 have:∃n,n<26∧z=⟨#[97+n]⟩:=by
  simp only [aj,List.mem_cons,List.not_mem_nil,or_false] at hz
  rcases hz with rfl|rfl|rfl|rfl|rfl|rfl|rfl|rfl|rfl|rfl
  ·exact ⟨0,by decide,rfl⟩
  ·exact ⟨1,by decide,rfl⟩
  ·exact ⟨2,by decide,rfl⟩
  ·exact ⟨3,by decide,rfl⟩
  ·exact ⟨4,by decide,rfl⟩
  ·exact ⟨5,by decide,rfl⟩
  ·exact ⟨6,by decide,rfl⟩
  ·exact ⟨7,by decide,rfl⟩
  ·exact ⟨8,by decide,rfl⟩
  ·exact ⟨9,by decide,rfl⟩
 obtain ⟨n,hn,rfl⟩:=this
 exact ⟨AZ.one hn,rfl⟩
theorem zcU (hl:bs.length≤9):W (va fu [.tup (bs.map yF)] S) fun v S'=>∃z,v= .str z∧z∈aj∧z∉bs.map (·.1)∧Kn S S':=by
 walk_at "wr";unfold Xt
 walk_at "w"
 refine vK (xs:=bs.map yF) (f:=fun i=> .str ((bs.getD i ("",0)).1)) (by rw [List.length_map];exact xS (by omega)) (Ui (by walk_at "w";exact ⟨rfl,Kn.refl⟩)) ?_ ?_
 ·intro i w S2 hw k2
  rw [List.getElem?_map,Option.map_eq_some_iff] at hw
  obtain ⟨b,e,rfl⟩:=hw
  unfold yF
  walk_at "w"
  rw [List.getD_eq_getElem?_getD,e]
  exact ⟨rfl,Kn.refl⟩
 intro S2 k2
 have enm:(List.range (bs.map yF).length).map (fun i=>Xv.str ((bs.getD i ("",0)).1))=(bs.map (·.1)).map Xv.str:=by
  refine List.ext_getElem? fun i=> ?_
  by_cases hi:i<bs.length
  ·rw [List.getElem?_map,List.getElem?_range (by rw [List.length_map];exact hi),List.getElem?_map,List.getElem?_map,List.getElem?_eq_getElem hi]
   show some (Xv.str _)=some (Xv.str _)
   rw [List.getD_eq_getElem?_getD,List.getElem?_eq_getElem hi]
   rfl
  ·rw [List.getElem?_eq_none (by simp;omega),List.getElem?_eq_none (by simp;omega)]
 rw [enm]
 have hat:(S2++[Ce.lst ((bs.map (·.1)).map Xv.str)])[S2.length]? =some (.lst ((bs.map (·.1)).map Xv.str)):=zU
 generalize hS3:S2++[Ce.lst ((bs.map (·.1)).map Xv.str)]=S3 at hat ⊢
 have k3:Kn S S3:=by rw [←hS3];exact k2.app
 walk_at "w"
 refine zdq (zff ?_)
 walk_at "w"
 refine ⟨by decide+kernel,_,rfl,?_⟩
 rw [zch]
 refine zfd (by decide) (fun i es S4=>S4=S3∧es=((aj.take i).filter fun z=> !decide (z∈bs.map (·.1))).map Xv.str) (fun _ _ _ _ _=>rfl) ?_ ⟨rfl,rfl⟩ ?_
 ·rintro i w es S4 hw _ ⟨rfl,rfl⟩
  rw [List.getElem?_map,Option.map_eq_some_iff] at hw
  obtain ⟨z,e,rfl⟩:=hw
  have hi:=(List.getElem?_eq_some_iff.1 e).1
  have htk:aj.take (i+1)=aj.take i++[z]:=by rw [List.take_succ_eq_append_getElem hi,(List.getElem?_eq_some_iff.1 e).2]
  refine .of rfl ?_
  show W (bE (eOp (dIn true) (zk 0) (zk 1)) [some (.str z),some (.ref S2.length)] S4) _
  walk_at "w"
  refine zcg (zE hat) ?_
  refine ⟨_,rfl,fun h=> ?_,fun h=> ?_⟩
  ·walk_at "w"
   refine ⟨rfl,?_⟩
   rw [htk,List.filter_append,List.filter_cons,h,if_pos rfl,List.map_append]
   rfl
  ·refine ⟨rfl,?_⟩
   rw [htk,List.filter_append,List.filter_cons,h,if_neg (by decide),List.filter_nil,List.append_nil]
 ·rintro es S4 _ ⟨rfl,rfl⟩
  rw [List.length_map,List.take_length]
  have hne:(aj.filter fun z=> !decide (z∈bs.map (·.1)))≠[]:=by
   intro e
   have:=zfA (m:=bs.map (·.1)) zjC fun x hx=>by
    rw [List.filter_eq_nil_iff] at e
    simpa using e x hx
   rw [List.length_map] at this
   have h10:aj.length=10:=rfl
   omega
  generalize hfl:(aj.filter fun z=> !decide (z∈bs.map (·.1)))=fl at hne ⊢
  cases fl with
  |nil=>exact absurd rfl hne
  |cons z r=>
   have hz:z∈aj.filter fun z=> !decide (z∈bs.map (·.1)):=by rw [hfl];exact List.mem_cons_self ..
   rw [List.mem_filter] at hz
   walk_at "w"
   refine wy (zE zU) (z:= .str z) (Wc (Int.le_refl 0) rfl) ?_
   exact ⟨z,rfl,hz.1,by simpa using hz.2,k3.app⟩
end
section
variable {fu:Nat} {S S' S2:Sto} {x y:Xv} {ns:List Int} {bs:List (Str×Int)}
noncomputable def DX (bs:List (Str×Int)) (g:Bool) (x:Xv):Prop:=∃q,q≤1∧GX bs x q g 20
theorem DX.pl {w:Str} {r:List Xv} {b:Bool} (h1:w≠"if") (h2:w≠"while") (h3:w≠"times") (h4:w≠"hand") (ow:Own bs (.tup (.str w::r)) b):DX bs b (.tup (.str w::r)):=by
 have:=Tr.deed (.plain h1 h2 h3 h4) ow .nils
 rw [Bool.and_true] at this
 exact ⟨0,by decide,_,_,this,by decide⟩
theorem zhh:∀n:Nat,Tr bs (.s (List.replicate n [])) 0 0 true n
 |0=> .nils
 |n+1=>by
  have:=Tr.conss (bs:=bs) .nil (zhh n)
  rw [Nat.add_comm] at this
  exact this
theorem DX.bl {n:Nat} {b:Bool} {tk:Option Int} (hn:n≤10) (nd:Nd x (List.replicate n []) tk true) (ow:Own bs x b):DX bs b x:=by
 have:=Tr.deed nd ow (zhh n)
 rw [Bool.and_true,if_pos rfl] at this
 exact ⟨1,by decide,_,_,this,by omega⟩
theorem Uv {z:Str} (h:z∉bs.map (·.1)):Xy bs z=none:=by
 unfold Xy
 rw [Option.map_eq_none_iff,List.find?_eq_none]
 intro b hb e
 exact h (by rw [←of_decide_eq_true e];exact List.mem_map_of_mem hb)
theorem vM {P:Xv→Sto→Prop} {ρ:Rho} {cap:List (Option Nat)} {m e:TwE} {n:Nat} {v:Xv} (hn:n≤100) (hm:W (m ρ S) fun x S1=>x= .int (n:Int)∧S=S1)
  (he:∀x S2,W (e ((TL cap ρ).set 0 (some x)) S2) fun y S3=>y=v∧S2=S3) (k:∀S',Kn S S'→P (.ref S'.length) (S'++[.lst (List.replicate n v)])):W (xw cap (iR1 m) (gN 0) xy e ρ S) P:=by
 refine vK (xs:=wQ 0 n) (f:=fun _=>v) (by rw [xR];exact xS hn) ?_ ?_ ?_
 ·refine WV (hm.imp ?_)
  rintro _ _ ⟨rfl,rfl⟩
  exact ⟨_,rfl,⟨by omega,by omega⟩,fun _ _=>by rw [Int.toNat_natCast],Kn.refl⟩
 ·intro i x S2 _ _
  refine (he x S2).imp ?_
  rintro _ _ ⟨rfl,rfl⟩
  exact ⟨rfl,Kn.refl⟩
 ·intro S2 k2
  have:(List.range (wQ 0 n).length).map (fun _=>v)=List.replicate n v:=by
   rw [xR,List.map_const',List.length_range]
  rw [this]
  exact k S2 k2
theorem wA {P:Xv→Prop} {l:List Xv} {i:Int} (h:∀z∈l,P z) (h0:0≤i) (h1:i<l.length):∃z,atI l i=some z∧P z:=by
 have hi:i.toNat<l.length:=by omega
 exact ⟨l[i.toNat],Wc h0 (List.getElem?_eq_getElem hi),h _ (List.getElem_mem hi)⟩
theorem Xz {P:Xv→Sto→Prop} {a b:List Xv} (h1:yB S x=some a) (h2:yB S y=some b) (hl:a.length+b.length≤1000) (k:P (.ref S.length) (S++[.lst (a++b)])):WO (vg x y S) P:=by
 refine WO.of ?_ k
 unfold vg
 rw [h1,h2]
 simp [show a.length+b.length≤sizeLine from Nat.le_of_lt (Nat.lt_of_le_of_lt hl (by decide))]
theorem zfB {e:Str×Int} {v2:List Xv} (hs:Sc ns S) (hl:bs.length≤10):∃b,(b∈bs∨(bs=[]∧b=e))∧atI (bs.map yF++[yF e]) (yP ns 11 10259 (if (bs.length:Int)>1 then bs.length else 1))=some (yF b)∧0<(if (bs.length:Int)>1 then (bs.length:Int) else 1):=by
 have hp:0<(if (bs.length:Int)>1 then (bs.length:Int) else 1):=by split<;>omega
 have d0:0≤yP ns 11 10259 (if (bs.length:Int)>1 then bs.length else 1):=Int.emod_nonneg _ (by omega)
 have d1:yP ns 11 10259 (if (bs.length:Int)>1 then bs.length else 1)<(if (bs.length:Int)>1 then (bs.length:Int) else 1):=Int.emod_lt_of_pos _ hp
 generalize yP ns 11 10259 (if (bs.length:Int)>1 then bs.length else 1)=i at d0 d1
 cases hb:bs with
 |nil=>
  subst hb
  have:i=0:=by simp at d1;omega
  subst this
  exact ⟨e,.inr ⟨rfl,rfl⟩,rfl,by simp⟩
 |cons c r=>
  have hi:i.toNat<bs.length:=by
   have:bs.length=r.length+1:=by rw [hb];rfl
   split at d1<;>omega
  refine ⟨bs[i.toNat],.inl (by rw [←hb];exact List.getElem_mem hi),?_,by rw [hb] at hp;exact hp⟩
  rw [←hb]
  refine Wc d0 ?_
  rw [List.getElem?_append_left (by rw [List.length_map];exact hi),List.getElem?_map,List.getElem?_eq_getElem hi]
  rfl
end
section
variable {fu:Nat} {S S' S2:Sto} {x y:Xv} {ns:List Int} {bs:List (Str×Int)}
theorem Zo {P:Xv→Sto→Prop} {a b:List Xv} (h:a.length+b.length≤1000) (k:P (.tup (a++b)) S):WO (vE (.tup a) (.tup b) S) P:= .of (by unfold vE;exact if_pos (Nat.le_of_lt (Nat.lt_of_le_of_lt h (by decide)))) k
theorem zci {a b:Xv} {s:Str} (ha:GOp bs a) (hb:GOp bs b):Own bs (.tup [.str "look",.tup [a,.str s,b]]) true:=by
 have:=Own.look (bs:=bs) (s:=s) ha.1 hb.1
 rw [ha.2,hb.2] at this
 exact this
theorem Tu {a:Xv} (ha:GOp bs a):Own bs (.tup [.str "gain",a]) true:=by
 have:=Own.gain (bs:=bs) ha.1
 rw [ha.2] at this
 exact this
theorem zfC {a:Xv} {b:Str×Int} (hb:b∈bs) (ha:GOp bs a):Own bs (.tup [.str "set",.str b.1,.tup [a]]) true:=by
 have:=Own.set1 (bs:=bs) (n:=b.1) ha.1
 rw [ha.2,Tn hb] at this
 exact this
theorem zcj {a c:Xv} {s:Str} {b:Str×Int} (hb:b∈bs) (ha:GOp bs a) (hc:GOp bs c):Own bs (.tup [.str "set",.str b.1,.tup [a,.str s,c]]) true:=by
 have:=Own.set3 (bs:=bs) (n:=b.1) (s:=s) ha.1 hc.1
 rw [ha.2,hc.2,Tn hb] at this
 exact this
theorem Tv {ws:List Int} {b:Str×Int} (hB:YE 1000 bs) (hb:b∈bs) (hl:ws.length≤100):Own bs (.tup [.str "draw",.str b.1,.tup (ws.map Xv.int)]) (wOk ws b.2):=by
 have:=Own.draw (bs:=bs) (n:=b.1) (ws:=ws) hl
 rw [zhf hB.nd hb] at this
 exact this
theorem YG (n:Nat) (v:Int):(List.replicate n (Xv.int v))=(List.replicate n v).map Xv.int:=by rw [List.map_replicate]
theorem zfD {ws:List Int} {s:Int} (h1:(ws.length:Int)=s) (h2:ws.all (fun w=>decide (0≤w∧w≤999999999))=true) (h3:0<ws.sum):wOk ws s=true:=by
 unfold wOk
 rw [decide_eq_true h1,h2,decide_eq_true h3]
 rfl
theorem zdG (n:Nat) (v:Int):(List.replicate n v).sum=n*v:=by
 induction n with
 |zero=>simp
 |succ n ih=>rw [List.replicate_succ,List.sum_cons,ih,Int.natCast_add,Int.add_mul];omega
theorem ziC (hs:Sc ns S) (hB:YE 1000 bs):W (Xx fu [.ref 0,.tup (bs.map yF)] S) fun v S'=>DX bs true v∧Kn S S':=by
 have hbl:=hB.len
 walk_at "wr";unfold Xw
 walk_at "w"
 have em:((10:Int)^(9:Int).toNat-1)=999999999:=by decide
 rw [em]
 refine vP ?_
 walk_at "w"
 refine Zo (by rw [List.length_map];show _+1≤_;omega) ?_
 walk_at "w"
 refine vC ?_
 walk_at "w"
 rw [List.length_map]
 obtain ⟨b,hb,hat,hpos⟩:=zfB (bs:=bs) (ns:=ns) (S:=S) (e:=("",1)) (v2:=[]) hs (by omega)
 refine (yt hs (by decide) (by decide) hpos).imp ?_
 rintro _ _ ⟨rfl,_,_,rfl⟩
 walk_at "w"
 refine xZ rfl hat ?_
 unfold yF
 refine .of rfl ?_
 dsimp only [List.set]
 walk_at "w"
 refine vM (n:=8) (v:= .tup []) (by decide) (by walk_at "w";exact ⟨rfl,rfl⟩) (fun z S2=>by walk_at "w";exact ⟨rfl,rfl⟩) fun S1 k1=> ?_
 walk_at "w"
 refine xh zU ?_
 walk_at "w"
 have g9:GOp bs (.int 999999999):= .num (by decide) (by decide)
 have g0:GOp bs (.int 0):= .num (by decide) (by decide)
 have ps:Tr bs (.d (.tup [.str "pass"])) 1 0 true 1:= .pl (by decide) (by decide) (by decide) (by decide) .pass
 have fst:∀z∈[Xv.tup [.str "gain",.int 999999999],.tup [.str "gain",.int 0],.tup [.str "look",.tup [.int 999999999,.str "<",.int 999999999]],.tup [.str "times",.int 60,.tup []],.tup [.str "times",.int 0,.tup [.tup [.str "pass"]]],.tup [.str "hand",.tup (List.replicate 8 (.tup []))],.tup [.str "hand",.tup [.tup [],.tup []]],.tup [.str "pass"],.tup [.str "if",.tup [.int 0,.str "#",.int 999999999],.tup [],.tup []],.tup [.str "while",.tup [.int 999999999,.str "=",.int 0],.tup []]],DX bs true z:=by
  intro z hz
  simp only [List.mem_cons,List.not_mem_nil,or_false] at hz
  rcases hz with rfl|rfl|rfl|rfl|rfl|rfl|rfl|rfl|rfl|rfl
  ·exact .pl (by decide) (by decide) (by decide) (by decide) (Tu g9)
  ·exact .pl (by decide) (by decide) (by decide) (by decide) (Tu g0)
  ·exact .pl (by decide) (by decide) (by decide) (by decide) (zci g9 g9)
  ·exact .bl (n:=1) (by decide) .times Own.times
  ·have:=Tr.deed (bs:=bs) (.times (k:=0) (u:=[.tup [.str "pass"]])) Own.times (Tr.conss ps.one .nils)
   exact ⟨1,by decide,_,_,this,by decide⟩
  ·exact .bl (n:=8) (by decide) (.hand (us:=List.replicate 8 [])) (Own.hand (us:=List.replicate 8 (.tup [])) (by decide))
  ·exact .bl (n:=2) (by decide) (.hand (us:=[[],[]])) (Own.hand (us:=[.tup [],.tup []]) (show 2≤100 by decide))
  ·exact .pl (by decide) (by decide) (by decide) (by decide) .pass
  ·exact .bl (n:=2) (by decide) .cond (Tq (by decide) (by decide))
  ·exact .bl (n:=1) (by decide) .whil (Ts (by decide) (by decide))
 have k2:Kn S (S1++[Ce.lst (List.replicate 8 (.tup []))]):=k1.app
 generalize S1++[Ce.lst (List.replicate 8 (.tup []))]=S2 at k2 ⊢
 generalize hl1:[Xv.tup [.str "gain",.int 999999999],.tup [.str "gain",.int 0],.tup [.str "look",.tup [.int 999999999,.str "<",.int 999999999]],.tup [.str "times",.int 60,.tup []],.tup [.str "times",.int 0,.tup [.tup [.str "pass"]]],.tup [.str "hand",.tup (List.replicate 8 (.tup []))],.tup [.str "hand",.tup [.tup [],.tup []]],.tup [.str "pass"],.tup [.str "if",.tup [.int 0,.str "#",.int 999999999],.tup [],.tup []],.tup [.str "while",.tup [.int 999999999,.str "=",.int 0],.tup []]]=l1 at fst ⊢
 have len1:l1.length=10:=by rw [←hl1];rfl
 clear hl1
 have at1:(S2++[Ce.lst l1])[S2.length]? =some (.lst l1):=zU
 have kk:Kn S (S2++[Ce.lst l1]):=k2.app
 generalize S2.length=n1 at at1 ⊢
 generalize S2++[Ce.lst l1]=S3 at at1 kk ⊢
 walk_at "w"
 refine xY (fun ρ S4=>∃(n:Nat) (l:List Xv) (a6:Option Xv),ρ=[some (.ref 0),some (.tup (bs.map yF)),some (.int 999999999),some (.str b.1),some (.int b.2),some (.ref n),a6]∧S4[n]? =some (.lst l)∧(∀z∈l,DX bs true z)∧0<l.length∧l.length≤100∧Kn S S4) (zS ?_) ?_
 ·walk_at "w"
  refine WO.of (show xN true (.str b.1) (.str "") S3=some (.bl (!decide (b.1="")),S3) by unfold xN;simp) ?_
  refine ⟨_,rfl,fun hne=> ?_,fun he=> ?_⟩
  ·have hne:b.1≠"":=by simpa using hne
   have hb:b∈bs:=by
    rcases hb with hb|⟨_,rfl⟩
    ·exact hb
    ·exact absurd rfl hne
   obtain ⟨s1,s9⟩:=hB.sz b hb
   obtain ⟨s,hsz⟩:∃s:Nat,b.2=s:=⟨b.2.toNat,by omega⟩
   have gb:GOp bs (.str b.1):= .nm hb
   rw [hsz] at s1 s9 ⊢
   walk_at "w"
   refine vM (n:=s) (v:= .int 0) (by omega) (by walk_at "w";exact ⟨rfl,rfl⟩) (fun z S2=>by walk_at "w";exact ⟨rfl,rfl⟩) fun S4 k4=> ?_
   walk_at "w"
   refine Vp ?_
   walk_at "w"
   have at6:(S4++[Ce.lst (List.replicate s (Xv.int 0))])[S4.length]? =some (.lst (List.replicate s (.int 0))):=zU
   have k5:Kn S (S4++[Ce.lst (List.replicate s (Xv.int 0))]):=(kk.trans k4).app
   have at5:(S4++[Ce.lst (List.replicate s (Xv.int 0))])[n1]? =some (.lst l1):=(k4.app (T:=[Ce.lst (List.replicate s (Xv.int 0))])).at at1
   have hne1:S4.length≠n1:=fun e=>by
    have:=(List.getElem?_eq_some_iff.1 (k4.at at1)).1
    omega
   have hge:S.length≤S4.length:=(kk.trans k4).1
   generalize S4++[Ce.lst (List.replicate s (Xv.int 0))]=S5 at at6 k5 at5 ⊢
   refine (yt (hs.keep k5) (by decide) (by decide) (by omega)).imp ?_
   rintro _ _ ⟨rfl,i0,i1,rfl⟩
   generalize yP ns 12 10267 s=i at i0 i1
   have hi:i.toNat<(List.replicate s (0:Int)).length:=by rw [List.length_replicate];omega
   refine ⟨S4.length,List.replicate s (.int 0),i,i.toNat,wE at6,rfl,zbj i0 (by rw [List.length_replicate];exact i1),?_⟩
   rw [YG,←List.map_set]
   have hw1:wOk ((List.replicate s (0:Int)).set i.toNat 1) s=true:=by
    have ha:((List.replicate s (0:Int)).set i.toNat 1).all (fun w=>decide (0≤w∧w≤999999999))=true:=VG (by rw [List.all_replicate];simp) (by decide)
    refine zfD (by rw [List.length_set,List.length_replicate]) ha ?_
    have h1:(1:Int)∈(List.replicate s (0:Int)).set i.toNat 1:=List.mem_set hi 1
    have:=(To (ws:=(List.replicate s (0:Int)).set i.toNat 1) fun w hw=>(of_decide_eq_true (List.all_eq_true.1 ha w hw)).1).2 1 h1
    omega
   have at6':(S5.set S4.length (.lst (((List.replicate s (0:Int)).set i.toNat 1).map Xv.int)))[S4.length]? =some (.lst (((List.replicate s (0:Int)).set i.toNat 1).map Xv.int)):=vZ at6
   have at5':(S5.set S4.length (.lst (((List.replicate s (0:Int)).set i.toNat 1).map Xv.int)))[n1]? =some (.lst l1):=zfk at5 hne1
   have k6:Kn S (S5.set S4.length (.lst (((List.replicate s (0:Int)).set i.toNat 1).map Xv.int))):=k5.set (.inr hge)
   have hl0:((List.replicate s (0:Int)).set i.toNat 1).length=s:=by rw [List.length_set,List.length_replicate]
   generalize hws:(List.replicate s (0:Int)).set i.toNat 1=ws at hw1 at6' at5' k6 hl0 ⊢
   generalize S5.set S4.length (.lst (ws.map Xv.int))=S6 at at6' at5' k6 ⊢
   generalize S4.length=n6 at at6' ⊢
   walk_at "w"
   refine Xz (zE (Kn.refl.app.at at5')) (zE zU) (by rw [len1];show 13≤1000;decide) ?_
   have at7:=zU (S:=S6++[Ce.lst [.tup [.str "set",.str b.1,.tup [.int 999999999,.str "*",.int 999999999]],.tup [.str "set",.str b.1,.tup [.str b.1]],.tup [.str "gain",.str b.1]]]) (c:= .lst (l1++[.tup [.str "set",.str b.1,.tup [.int 999999999,.str "*",.int 999999999]],.tup [.str "set",.str b.1,.tup [.str b.1]],.tup [.str "gain",.str b.1]]))
   have k7:Kn S6 ((S6++[Ce.lst [.tup [.str "set",.str b.1,.tup [.int 999999999,.str "*",.int 999999999]],.tup [.str "set",.str b.1,.tup [.str b.1]],.tup [.str "gain",.str b.1]]])++[.lst (l1++[.tup [.str "set",.str b.1,.tup [.int 999999999,.str "*",.int 999999999]],.tup [.str "set",.str b.1,.tup [.str b.1]],.tup [.str "gain",.str b.1]])]):=Kn.refl.app.app
   have snd:∀z∈l1++[.tup [.str "set",.str b.1,.tup [.int 999999999,.str "*",.int 999999999]],.tup [.str "set",.str b.1,.tup [.str b.1]],.tup [.str "gain",.str b.1]],DX bs true z:=by
    intro z hz
    rw [List.mem_append] at hz
    rcases hz with hz|hz
    ·exact fst z hz
    simp only [List.mem_cons,List.not_mem_nil,or_false] at hz
    rcases hz with rfl|rfl|rfl
    ·exact .pl (by decide) (by decide) (by decide) (by decide) (zcj hb g9 g9)
    ·exact .pl (by decide) (by decide) (by decide) (by decide) (zfC hb gb)
    ·exact .pl (by decide) (by decide) (by decide) (by decide) (Tu gb)
   generalize hl2:l1++[.tup [.str "set",.str b.1,.tup [.int 999999999,.str "*",.int 999999999]],.tup [.str "set",.str b.1,.tup [.str b.1]],.tup [.str "gain",.str b.1]]=l2 at at7 k7 snd ⊢
   have len2:l2.length=13:=by rw [←hl2,List.length_append,len1];rfl
   clear hl2
   generalize (S6++[Ce.lst [.tup [.str "set",.str b.1,.tup [.int 999999999,.str "*",.int 999999999]],.tup [.str "set",.str b.1,.tup [.str b.1]],.tup [.str "gain",.str b.1]]]).length=n2 at at7 ⊢
   generalize (S6++[Ce.lst [.tup [.str "set",.str b.1,.tup [.int 999999999,.str "*",.int 999999999]],.tup [.str "set",.str b.1,.tup [.str b.1]],.tup [.str "gain",.str b.1]]])++[.lst l2]=S7 at at7 k7 ⊢
   walk_at "w"
   refine xh (k7.at at6') ?_
   walk_at "w"
   refine vM (n:=s) (v:= .int 999999999) (by omega) (by walk_at "w";exact ⟨rfl,rfl⟩) (fun z S2=>by walk_at "w";exact ⟨rfl,rfl⟩) fun S8 k8=> ?_
   walk_at "w"
   refine xh zU ?_
   walk_at "w"
   rw [YG]
   have k9:Kn S7 (S8++[Ce.lst ((List.replicate s (999999999:Int)).map Xv.int)]):=k8.app
   generalize S8++[Ce.lst ((List.replicate s (999999999:Int)).map Xv.int)]=S9 at k9 ⊢
   refine Xz (zE (Kn.refl.app.at (k9.at at7))) (zE zU) (by rw [len2];show 15≤1000;decide) ?_
   have hw2:wOk (List.replicate s (999999999:Int)) s=true:=by
    refine zfD (by rw [List.length_replicate]) (by rw [List.all_replicate];simp) ?_
    rw [zdG]
    omega
   have thd:∀z∈l2++[Xv.tup [.str "draw",.str b.1,.tup (ws.map Xv.int)],.tup [.str "draw",.str b.1,.tup ((List.replicate s (999999999:Int)).map Xv.int)]],DX bs true z:=by
    intro z hz
    rw [List.mem_append] at hz
    rcases hz with hz|hz
    ·exact snd z hz
    simp only [List.mem_cons,List.not_mem_nil,or_false] at hz
    rcases hz with rfl|rfl
    ·have ow:=Tv (ws:=ws) hB hb (by omega)
     rw [hsz,hw1] at ow
     exact .pl (by decide) (by decide) (by decide) (by decide) ow
    ·have ow:=Tv (ws:=List.replicate s (999999999:Int)) hB hb (by rw [List.length_replicate];omega)
     rw [hsz,hw2] at ow
     exact .pl (by decide) (by decide) (by decide) (by decide) ow
   have len3:(l2++[Xv.tup [.str "draw",.str b.1,.tup (ws.map Xv.int)],.tup [.str "draw",.str b.1,.tup ((List.replicate s (999999999:Int)).map Xv.int)]]).length=15:=by rw [List.length_append,len2];rfl
   have k10:Kn S9 ((S9++[Ce.lst [Xv.tup [.str "draw",.str b.1,.tup (ws.map Xv.int)],.tup [.str "draw",.str b.1,.tup ((List.replicate s (999999999:Int)).map Xv.int)]]])++[.lst (l2++[Xv.tup [.str "draw",.str b.1,.tup (ws.map Xv.int)],.tup [.str "draw",.str b.1,.tup ((List.replicate s (999999999:Int)).map Xv.int)]])]):=Kn.refl.app.app
   have at10:=zU (S:=S9++[Ce.lst [Xv.tup [.str "draw",.str b.1,.tup (ws.map Xv.int)],.tup [.str "draw",.str b.1,.tup ((List.replicate s (999999999:Int)).map Xv.int)]]]) (c:= .lst (l2++[Xv.tup [.str "draw",.str b.1,.tup (ws.map Xv.int)],.tup [.str "draw",.str b.1,.tup ((List.replicate s (999999999:Int)).map Xv.int)]]))
   generalize l2++[Xv.tup [.str "draw",.str b.1,.tup (ws.map Xv.int)],.tup [.str "draw",.str b.1,.tup ((List.replicate s (999999999:Int)).map Xv.int)]]=l3 at thd len3 k10 at10 ⊢
   generalize (S9++[Ce.lst [Xv.tup [.str "draw",.str b.1,.tup (ws.map Xv.int)],.tup [.str "draw",.str b.1,.tup ((List.replicate s (999999999:Int)).map Xv.int)]]]).length=n3 at at10 ⊢
   generalize (S9++[Ce.lst [Xv.tup [.str "draw",.str b.1,.tup (ws.map Xv.int)],.tup [.str "draw",.str b.1,.tup ((List.replicate s (999999999:Int)).map Xv.int)]]])++[.lst l3]=S10 at at10 k10 ⊢
   walk_at "w"
   refine Xz (zE (Kn.refl.app.at at10)) (zE zU) (by rw [len3];show 17≤1000;decide) ?_
   walk_at "w"
   refine ⟨_,l3++[Xv.tup [.str "look",.tup [.str b.1,.str "=",.str b.1]],.tup [.str "set",.str b.1,.tup [.int 0,.str "-",.str b.1]]],_,rfl,zU,?_,by rw [List.length_append];omega,by rw [List.length_append,len3];show 17≤100;decide,k6.trans (k7.trans (k9.trans (k10.trans Kn.refl.app.app)))⟩
   intro z hz
   rw [List.mem_append] at hz
   rcases hz with hz|hz
   ·exact thd z hz
   simp only [List.mem_cons,List.not_mem_nil,or_false] at hz
   rcases hz with rfl|rfl
   ·exact .pl (by decide) (by decide) (by decide) (by decide) (zci gb gb)
   ·exact .pl (by decide) (by decide) (by decide) (by decide) (zcj hb g0 gb)
  ·walk_at "w"
   exact ⟨n1,l1,none,rfl,at1,fst,by omega,by omega,kk⟩
 ·rintro ρ S4 ⟨n,l,a6,rfl,hat4,hall,hl0,hl1,k4⟩
  walk_at "w"
  refine vR (zE hat4) ?_
  walk_at "w"
  refine (yt (hs.keep k4) (by decide) (by decide) (by omega)).imp ?_
  rintro _ _ ⟨rfl,i0,i1,rfl⟩
  walk_at "w"
  obtain ⟨z,hz,hP⟩:=wA hall i0 i1
  exact wy (zE hat4) hz ⟨hP,k4⟩
end
section
variable {fu:Nat} {S S' S2:Sto} {x y:Xv} {ns:List Int} {bs:List (Str×Int)}
theorem xM {b b2:Bool} (h:Own bs x b) (e:b=b2):Own bs x b2:=e ▸ h
theorem zfE (hs:Sc ns S) (hB:YE 1000 bs) (h9:bs.length≤9):W (ZO fu [.ref 0,.tup (bs.map yF)] S) fun v S'=>DX bs false v∧Kn S S':=by
 walk_at "wr";unfold ZN
 walk_at "w"
 refine (zcU h9).imp ?_
 rintro _ S1 ⟨z,rfl,hz1,hz2,k1⟩
 have hs1:=hs.keep k1
 walk_at "w"
 refine vP ?_
 walk_at "w"
 refine Zo (by rw [List.length_map];show _+1≤_;omega) ?_
 walk_at "w"
 refine vC ?_
 walk_at "w"
 rw [List.length_map]
 obtain ⟨b,hb,hat,hpos⟩:=zfB (bs:=bs) (ns:=ns) (S:=S) (e:=(z,2)) (v2:=[]) hs (by omega)
 refine (yt hs1 (by decide) (by decide) hpos).imp ?_
 rintro _ _ ⟨rfl,_,_,rfl⟩
 walk_at "w"
 refine xZ rfl hat ?_
 unfold yF
 refine .of rfl ?_
 dsimp only [List.set]
 walk_at "w"
 have k2:Kn S (S1++[Ce.lst [.str z,.int (-1),.int (10^(9:Int).toNat)]]):=k1.app
 refine (yt (hs.keep k2) (by decide) (by decide) (by decide)).imp ?_
 rintro _ _ ⟨rfl,i0,i1,rfl⟩
 walk_at "w"
 obtain ⟨f,hf,hff,hfo⟩:∃f,atI [Xv.str z,.int (-1),.int (10^(9:Int).toNat)] (yP ns 14 10273 3)=some f∧Yw f∧opF bs f=false:=by
  refine wA (P:=fun f=>Yw f∧opF bs f=false) ?_ i0 i1
  intro f hf
  simp only [List.mem_cons,List.not_mem_nil,or_false] at hf
  rcases hf with rfl|rfl|rfl
  ·refine ⟨.inl ⟨_,rfl⟩,?_⟩
   show (Xy bs z).isSome=false
   rw [Uv hz2]
   rfl
  ·exact ⟨.inr ⟨_,rfl⟩,show decide (0≤(-1:Int)∧(-1:Int)≤999999999)=false by decide⟩
  ·exact ⟨.inr ⟨_,rfl⟩,show decide (0≤(10:Int)^(9:Int).toNat∧(10:Int)^(9:Int).toNat≤999999999)=false by decide⟩
 refine wy (zE zU) hf ?_
 generalize S1++[Ce.lst [.str z,.int (-1),.int (10^(9:Int).toNat)]]=S2 at k2 ⊢
 walk_at "w"
 refine vP ?_
 walk_at "w"
 have k3:Kn S (S2++[Ce.lst [.tup [f,.int 0],.tup [.int 0,f]]]):=k2.app
 refine (yt (hs.keep k3) (by decide) (by decide) (by decide)).imp ?_
 rintro _ _ ⟨rfl,j0,j1,rfl⟩
 walk_at "w"
 have z0:Yw (.int 0):= .inr ⟨_,rfl⟩
 obtain ⟨pr,hpr,one,oth,rfl,ho1,ho2,hof⟩:∃pr,atI [Xv.tup [f,.int 0],.tup [.int 0,f]] (yP ns 25 10357 2)=some pr∧∃a c,pr= .tup [a,c]∧Yw a∧Yw c∧(opF bs a&&opF bs c)=false:=by
  refine wA (P:=fun pr=>∃a c,pr= .tup [a,c]∧Yw a∧Yw c∧(opF bs a&&opF bs c)=false) ?_ j0 j1
  intro pr hpr
  simp only [List.mem_cons,List.not_mem_nil,or_false] at hpr
  rcases hpr with rfl|rfl
  ·exact ⟨f,.int 0,rfl,hff,z0,by rw [hfo];rfl⟩
  ·exact ⟨.int 0,f,rfl,z0,hff,by rw [hfo,Bool.and_false]⟩
 refine wy (zE zU) hpr ?_
 refine .of rfl ?_
 dsimp only [List.set]
 generalize S2++[Ce.lst [.tup [f,.int 0],.tup [.int 0,f]]]=S3 at k3 ⊢
 walk_at "w"
 refine (yt (hs.keep k3) (by decide) (by decide) (by decide)).imp ?_
 rintro _ _ ⟨rfl,s0,s1,rfl⟩
 walk_at "w"
 obtain ⟨sg1,hsg1⟩:=zdE (S:=S3) "=<#" (.inl rfl) s0 s1
 obtain ⟨sg2,hsg2⟩:=zdE (S:=S3) "+-*" (.inr rfl) s0 s1
 refine WO.of hsg1 ?_
 walk_at "w"
 refine WO.of hsg2 ?_
 walk_at "w"
 refine Xz (zE (Kn.refl.app.at zU)) (zE zU) (show 6≤1000 by decide) ?_
 walk_at "w"
 refine vR (zE zU) ?_
 walk_at "w"
 have k4:Kn S (((S3++[Ce.lst [.tup [.str "set",.str b.1,.tup [f]],.tup [.str "set",.str b.1,.tup [one,.str sg2,oth]],.tup [.str "gain",f],.tup [.str "look",.tup [one,.str sg1,oth]]]])++[Ce.lst [.tup [.str "if",.tup [one,.str sg1,oth],.tup [],.tup []],.tup [.str "while",.tup [one,.str sg1,oth],.tup []]]])++[Ce.lst ([.tup [.str "set",.str b.1,.tup [f]],.tup [.str "set",.str b.1,.tup [one,.str sg2,oth]],.tup [.str "gain",f],.tup [.str "look",.tup [one,.str sg1,oth]]]++[.tup [.str "if",.tup [one,.str sg1,oth],.tup [],.tup []],.tup [.str "while",.tup [one,.str sg1,oth],.tup []]])]):=k3.app.app.app
 refine (yt (hs.keep k4) (by decide) (by decide) (show (0:Int)<(6:Nat) by decide)).imp ?_
 rintro _ _ ⟨rfl,q0,q1,rfl⟩
 walk_at "w"
 obtain ⟨d,hd,hD⟩:∃d,atI ([Xv.tup [.str "set",.str b.1,.tup [f]],.tup [.str "set",.str b.1,.tup [one,.str sg2,oth]],.tup [.str "gain",f],.tup [.str "look",.tup [one,.str sg1,oth]]]++[.tup [.str "if",.tup [one,.str sg1,oth],.tup [],.tup []],.tup [.str "while",.tup [one,.str sg1,oth],.tup []]]) (yP ns 27 10391 (6:Nat))=some d∧DX bs false d:=by
  refine wA (P:=DX bs false) ?_ q0 q1
  intro d hd
  simp only [List.cons_append,List.nil_append,List.mem_cons,List.not_mem_nil,or_false] at hd
  rcases hd with rfl|rfl|rfl|rfl|rfl|rfl
  ·exact .pl (by decide) (by decide) (by decide) (by decide) (xM (.set1 hff) (by rw [hfo,Bool.and_false]))
  ·exact .pl (by decide) (by decide) (by decide) (by decide) (xM (.set3 ho1 ho2) (by rw [hof,Bool.and_false]))
  ·exact .pl (by decide) (by decide) (by decide) (by decide) (xM (.gain hff) hfo)
  ·exact .pl (by decide) (by decide) (by decide) (by decide) (xM (.look ho1 ho2) hof)
  ·exact .bl (n:=2) (by decide) .cond (xM (.cond ho1 ho2) hof)
  ·exact .bl (n:=1) (by decide) .whil (xM (.whil ho1 ho2) hof)
 exact wy (zE zU) hd ⟨hD,k4⟩
end
section
variable {fu:Nat} {S S' S2:Sto} {x y:Xv} {ns:List Int} {bs:List (Str×Int)}
theorem VH {ws:List Int} {b:Str×Int} {z:Str} (hB:YE 1000 bs) (hz:z∉bs.map (·.1)) (hb:b∈bs∨(bs=[]∧b=(z,2))) (hl:ws.length≤100) (hw:wOk ws b.2=false):Own bs (.tup [.str "draw",.str b.1,.tup (ws.map Xv.int)]) false:=by
 rcases hb with hb|⟨_,rfl⟩
 ·exact xM (Tv hB hb hl) hw
 ·refine xM (.draw hl) ?_
  rw [Uv hz]
  rfl
theorem zdH {ws:List Int} {s:Int} (h:(ws.length:Int)≠s):wOk ws s=false:=by
 unfold wOk
 rw [decide_eq_false h]
 rfl
theorem zfF (hs:Sc ns S) (hB:YE 1000 bs) (h9:bs.length≤9):W (ZQ fu [.ref 0,.tup (bs.map yF)] S) fun v S'=>DX bs false v∧Kn S S':=by
 walk_at "wr";unfold ZP
 refine zW (zS ?_)
 walk_at "w"
 refine (yt hs (by decide) (by decide) (by decide)).imp ?_
 rintro _ _ ⟨rfl,_,_,rfl⟩
 walk_at "w"
 refine yg (fun h=> ?_) (fun h=>zP ?_)
 ·walk_at "w"
  exact zfE hs hB h9
 walk_at "w"
 refine (zcU h9).imp ?_
 rintro _ S1 ⟨z,rfl,hz1,hz2,k1⟩
 have hs1:=hs.keep k1
 walk_at "w"
 refine vP ?_
 walk_at "w"
 refine Zo (by rw [List.length_map];show _+1≤_;omega) ?_
 walk_at "w"
 refine vC ?_
 walk_at "w"
 rw [List.length_map]
 obtain ⟨b,hb,hat,hpos⟩:=zfB (bs:=bs) (ns:=ns) (S:=S) (e:=(z,2)) (v2:=[]) hs (by omega)
 refine (yt hs1 (by decide) (by decide) hpos).imp ?_
 rintro _ _ ⟨rfl,_,_,rfl⟩
 walk_at "w"
 refine xZ rfl hat ?_
 have hsz:1≤b.2∧b.2≤9:=by
  rcases hb with hb|⟨_,rfl⟩
  ·exact hB.sz b hb
  ·exact ⟨show (1:Int)≤2 by decide,show (2:Int)≤9 by decide⟩
 obtain ⟨s,hs2⟩:∃s:Nat,b.2=s:=⟨b.2.toNat,by omega⟩
 unfold yF
 rw [hs2] at hsz ⊢
 refine .of rfl ?_
 dsimp only [List.set]
 walk_at "w"
 refine vM (n:=s) (v:= .int 1) (by omega) (by walk_at "w";exact ⟨rfl,rfl⟩) (fun z S2=>by walk_at "w";exact ⟨rfl,rfl⟩) fun S2 k2=> ?_
 walk_at "w"
 have at5:(S2++[Ce.lst (List.replicate s (Xv.int 1))])[S2.length]? =some (.lst (List.replicate s (.int 1))):=zU
 have k3:Kn S (S2++[Ce.lst (List.replicate s (Xv.int 1))]):=(k1.trans k2).app
 have hge:S.length≤S2.length:=(k1.trans k2).1
 generalize S2++[Ce.lst (List.replicate s (Xv.int 1))]=S3 at at5 k3 ⊢
 generalize S2.length=n5 at at5 hge ⊢
 refine Vp ?_
 walk_at "w"
 have k4:Kn S (S3++[Ce.lst [.int (-1),.int (10^(9:Int).toNat)]]):=k3.app
 refine (yt (hs.keep k4) (by decide) (by decide) (by decide)).imp ?_
 rintro _ _ ⟨rfl,i0,i1,rfl⟩
 walk_at "w"
 obtain ⟨bad,hbad,v,rfl,hv⟩:∃bad,atI [Xv.int (-1),.int (10^(9:Int).toNat)] (yP ns 14 10273 2)=some bad∧∃v:Int,bad= .int v∧decide (0≤v∧v≤999999999)=false:=by
  refine wA (P:=fun bad=>∃v:Int,bad= .int v∧decide (0≤v∧v≤999999999)=false) ?_ i0 i1
  intro f hf
  simp only [List.mem_cons,List.not_mem_nil,or_false] at hf
  rcases hf with rfl|rfl
  ·exact ⟨_,rfl,by decide⟩
  ·exact ⟨_,rfl,by decide⟩
 refine wy (zE zU) hbad ?_
 have at6:(S3++[Ce.lst [.int (-1),.int (10^(9:Int).toNat)]])[n5]? =some (.lst (List.replicate s (.int 1))):=(Kn.refl.app (T:=[Ce.lst [.int (-1),.int (10^(9:Int).toNat)]])).at at5
 generalize S3++[Ce.lst [.int (-1),.int (10^(9:Int).toNat)]]=S4 at k4 at6 ⊢
 walk_at "w"
 refine (yt (hs.keep k4) (by decide) (by decide) (by omega)).imp ?_
 rintro _ _ ⟨rfl,j0,j1,rfl⟩
 generalize yP ns 12 10267 s=i at j0 j1
 have hi:i.toNat<(List.replicate s (1:Int)).length:=by rw [List.length_replicate];omega
 refine ⟨n5,List.replicate s (.int 1),i,i.toNat,wE at6,rfl,zbj j0 (by rw [List.length_replicate];exact j1),?_⟩
 rw [YG,←List.map_set]
 have hwb:wOk ((List.replicate s (1:Int)).set i.toNat v) b.2=false:=by
  unfold wOk
  have:((List.replicate s (1:Int)).set i.toNat v).all (fun w=>decide (0≤w∧w≤999999999))=false:=by
   rw [List.all_eq_false]
   exact ⟨v,List.mem_set hi v,by rw [hv];decide⟩
  rw [this,Bool.false_and,Bool.and_false]
 have hl0:((List.replicate s (1:Int)).set i.toNat v).length=s:=by rw [List.length_set,List.length_replicate]
 generalize (List.replicate s (1:Int)).set i.toNat v=ws at hwb hl0 ⊢
 have at7:(S4.set n5 (.lst (ws.map Xv.int)))[n5]? =some (.lst (ws.map Xv.int)):=vZ at6
 have k5:Kn S (S4.set n5 (.lst (ws.map Xv.int))):=k4.set (.inr hge)
 generalize S4.set n5 (.lst (ws.map Xv.int))=S5 at at7 k5 ⊢
 walk_at "w"
 refine vM (n:=s+1) (v:= .int 1) (by omega) (by walk_at "w";exact ⟨by rw [Int.natCast_add];rfl,rfl⟩) (fun z S2=>by walk_at "w";exact ⟨rfl,rfl⟩) fun S6 k6=> ?_
 walk_at "w"
 refine xh zU ?_
 walk_at "w"
 have at8:=(k6.app (T:=[Ce.lst (List.replicate (s+1) (Xv.int 1))])).at at7
 have k7:Kn S (S6++[Ce.lst (List.replicate (s+1) (Xv.int 1))]):=(k5.trans k6).app
 generalize S6++[Ce.lst (List.replicate (s+1) (Xv.int 1))]=S7 at at8 k7 ⊢
 refine vM (n:=s-1) (v:= .int 1) (by omega) (by walk_at "w";exact ⟨by rw [show ((s-1:Nat):Int)=(s:Int)-1 by omega],rfl⟩) (fun z S2=>by walk_at "w";exact ⟨rfl,rfl⟩) fun S8 k8=> ?_
 walk_at "w"
 refine xh zU ?_
 walk_at "w"
 have at9:=(k8.app (T:=[Ce.lst (List.replicate (s-1) (Xv.int 1))])).at at8
 have k9:Kn S (S8++[Ce.lst (List.replicate (s-1) (Xv.int 1))]):=(k7.trans k8).app
 generalize S8++[Ce.lst (List.replicate (s-1) (Xv.int 1))]=S9 at at9 k9 ⊢
 refine vM (n:=s) (v:= .int 0) (by omega) (by walk_at "w";exact ⟨rfl,rfl⟩) (fun z S2=>by walk_at "w";exact ⟨rfl,rfl⟩) fun S10 k10=> ?_
 walk_at "w"
 refine xh zU ?_
 walk_at "w"
 have at11:=(k10.app (T:=[Ce.lst (List.replicate s (Xv.int 0))])).at at9
 have k11:Kn S (S10++[Ce.lst (List.replicate s (Xv.int 0))]):=(k9.trans k10).app
 generalize S10++[Ce.lst (List.replicate s (Xv.int 0))]=S11 at at11 k11 ⊢
 refine xh at11 ?_
 walk_at "w"
 refine vM (n:=9) (v:= .tup []) (by decide) (by walk_at "w";exact ⟨rfl,rfl⟩) (fun z S2=>by walk_at "w";exact ⟨rfl,rfl⟩) fun S12 k12=> ?_
 walk_at "w"
 refine xh zU ?_
 walk_at "w"
 have k13:Kn S (S12++[Ce.lst (List.replicate 9 (.tup []))]):=(k11.trans k12).app
 generalize S12++[Ce.lst (List.replicate 9 (.tup []))]=S13 at k13 ⊢
 refine vR (zE zU) ?_
 walk_at "w"
 rw [YG,YG,YG]
 have all:∀d∈[Xv.tup [.str "set",.str z,.tup [.int 1]],.tup [.str "draw",.str z,.tup [.int 1,.int 1]],.tup [.str "draw",.str b.1,.tup ((List.replicate (s+1) (1:Int)).map Xv.int)],.tup [.str "draw",.str b.1,.tup ((List.replicate (s-1) (1:Int)).map Xv.int)],.tup [.str "draw",.str b.1,.tup ((List.replicate s (0:Int)).map Xv.int)],.tup [.str "draw",.str b.1,.tup (ws.map Xv.int)],.tup [.str "times",.int 61,.tup []],.tup [.str "times",.int (-1),.tup []],.tup [.str "times",.int (10^(50:Int).toNat),.tup []],.tup [.str "hand",.tup [.tup []]],.tup [.str "hand",.tup []],.tup [.str "hand",.tup (List.replicate 9 (.tup []))]],DX bs false d:=by
  intro d hd
  simp only [List.mem_cons,List.not_mem_nil,or_false] at hd
  rcases hd with rfl|rfl|rfl|rfl|rfl|rfl|rfl|rfl|rfl|rfl|rfl|rfl
  ·exact .pl (by decide) (by decide) (by decide) (by decide) (xM (.set1 (.inr ⟨_,rfl⟩)) (by rw [Uv hz2];rfl))
  ·exact .pl (by decide) (by decide) (by decide) (by decide) (xM (.draw (ws:=[1,1]) (by decide)) (by rw [Uv hz2];rfl))
  ·exact .pl (by decide) (by decide) (by decide) (by decide) (VH hB hz2 hb (by rw [List.length_replicate];omega) (zdH (by rw [List.length_replicate];omega)))
  ·exact .pl (by decide) (by decide) (by decide) (by decide) (VH hB hz2 hb (by rw [List.length_replicate];omega) (zdH (by rw [List.length_replicate];omega)))
  ·refine .pl (by decide) (by decide) (by decide) (by decide) (VH hB hz2 hb (by rw [List.length_replicate];omega) ?_)
   unfold wOk
   rw [zdG,Int.mul_zero,Bool.and_comm,Bool.and_assoc]
   simp
  ·exact .pl (by decide) (by decide) (by decide) (by decide) (VH hB hz2 hb (by omega) hwb)
  ·exact .bl (n:=1) (by decide) .times (xM .times (by decide))
  ·exact .bl (n:=1) (by decide) .times (xM .times (by decide))
  ·exact .bl (n:=1) (by decide) .times (xM .times (by decide))
  ·exact .bl (n:=1) (by decide) (.hand (us:=[[]])) (xM (.hand (us:=[.tup []]) (show 1≤100 by decide)) (by decide))
  ·exact .bl (n:=0) (by decide) (.hand (us:=[])) (xM (.hand (us:=[]) (show 0≤100 by decide)) (by decide))
  ·exact .bl (n:=9) (by decide) (.hand (us:=List.replicate 9 [])) (xM (.hand (us:=List.replicate 9 (.tup [])) (by decide)) (by decide))
 generalize hll:[Xv.tup [.str "set",.str z,.tup [.int 1]],.tup [.str "draw",.str z,.tup [.int 1,.int 1]],.tup [.str "draw",.str b.1,.tup ((List.replicate (s+1) (1:Int)).map Xv.int)],.tup [.str "draw",.str b.1,.tup ((List.replicate (s-1) (1:Int)).map Xv.int)],.tup [.str "draw",.str b.1,.tup ((List.replicate s (0:Int)).map Xv.int)],.tup [.str "draw",.str b.1,.tup (ws.map Xv.int)],.tup [.str "times",.int 61,.tup []],.tup [.str "times",.int (-1),.tup []],.tup [.str "times",.int (10^(50:Int).toNat),.tup []],.tup [.str "hand",.tup [.tup []]],.tup [.str "hand",.tup []],.tup [.str "hand",.tup (List.replicate 9 (.tup []))]]=l at all ⊢
 have hl12:0<l.length:=by rw [←hll];exact Nat.succ_pos _
 refine (yt (hs.keep k13.app) (by decide) (by decide) (by omega)).imp ?_
 rintro _ _ ⟨rfl,q0,q1,rfl⟩
 walk_at "w"
 obtain ⟨d,hd,hD⟩:=wA all q0 q1
 exact wy (zE zU) hd ⟨hD,k13.app⟩
end
section
variable {fu:Nat} {S S' S2:Sto} {x y:Xv} {ns:List Int} {bs:List (Str×Int)}
theorem zcV {α:Type} (l:List α) (n:Nat):L2.XR l none (some (n:Int))=l.take n:=by
 unfold L2.XR
 rw [HT.zc6,HT.UC,List.drop_zero,Nat.sub_zero,←List.take_eq_take_min]
theorem zck {α:Type} (l:List α) (n:Nat):L2.XR l (some (n:Int)) none=l.drop n:=by
 unfold L2.XR
 rw [HT.zc6,HT.UC]
 by_cases h:n≤l.length
 ·rw [Nat.min_eq_left h,List.take_of_length_le (by rw [List.length_drop];exact Nat.le_refl _)]
 ·rw [Nat.min_eq_right (by omega),List.drop_eq_nil_of_le (Nat.le_refl _),List.drop_eq_nil_of_le (by omega),List.take_nil]
theorem Wr {P:Xv→Sto→Prop} {l:List Xv} {lo hi:Option Int} (k:P (.tup (L2.XR l lo hi)) S):WO (Vh (.tup l) lo hi S) P:= .of (by unfold Vh;rfl) k
structure zdI (l:List (Str×Int)):Prop where
 len:l.length≤20
 asc:∀b∈l,asc b.1∧b.1.length≤100
 bad:bxF l=false
theorem zdJ {a:Nat} {b:Str×Int} (hB:YE 1000 bs) (h9:bs.length≤9) (ha:asc b.1∧b.1.length≤100) (hf:nmF b.1=false∨decide (1≤b.2∧b.2≤9)=false):zdI ((bs.take a++[b])++bs.drop (a+1)):=by
 have hmem:b∈(bs.take a++[b])++bs.drop (a+1):=by simp
 refine ⟨?_,?_,?_⟩
 ·rw [List.length_append,List.length_append,List.length_take,List.length_drop,List.length_singleton]
  omega
 ·intro c hc
  have:c∈bs∨c=b:=by
   rw [List.mem_append,List.mem_append,List.mem_singleton] at hc
   rcases hc with (hc|hc)|hc
   ·exact .inl (List.mem_of_mem_take hc)
   ·exact .inr hc
   ·exact .inl (List.mem_of_mem_drop hc)
  rcases this with h|rfl
  ·have:=hB.nm c h
   exact ⟨this.2.2.asc,by omega⟩
  ·exact ha
 ·generalize (bs.take a++[b])++bs.drop (a+1)=l at hmem
  unfold bxF
  rcases hf with h|h
  ·rw [show (l.all fun b=>nmF b.1)=false by rw [List.all_eq_false];exact ⟨b,hmem,by rw [h];decide⟩,Bool.false_and,Bool.and_false]
  ·rw [show szF l=false by unfold szF;rw [List.all_eq_false];exact ⟨b,hmem,by rw [h];decide⟩,Bool.false_and,Bool.and_false,Bool.and_false]
theorem zdK {l:List (Str×Int)} (hl:l.length≤20) (ha:∀b∈l,asc b.1∧b.1.length≤100) (hd:¬(l.map (·.1)).Nodup):zdI l:=by
 refine ⟨hl,ha,?_⟩
 unfold bxF
 rw [decide_eq_false fun h=>hd h.2,Bool.false_and]
noncomputable def zem:List Str:=["A","1"," ","_","-","Z"]
theorem zgK:∀u∈zem,u.length=1∧∀z∈[("":Str),"abcdefghi","ab"++u,u,u++"b",("a"++u)++"b"],z.cps.all (· <128)=true∧z.length≤100∧nmF z=false:=by decide+kernel
theorem zcW (hs:Sc ns S) (hB:YE 1000 bs) (h9:bs.length≤9):W (vc fu [.ref 0,.tup (bs.map yF)] S) fun v S'=>∃bs',v= .tup (bs'.map yF)∧zdI bs'∧Kn S S':=by
 walk_at "wr";unfold vb
 walk_at "w"
 refine (zcU h9).imp ?_
 rintro _ S1 ⟨z,rfl,hz1,hz2,k1⟩
 have hs1:=hs.keep k1
 have hza:=zhg z hz1
 have zok:asc z∧z.length≤100:=⟨hza.1.asc,by omega⟩
 walk_at "w"
 refine vC ?_
 walk_at "w"
 rw [List.length_map]
 refine (yt hs1 (by decide) (by decide) (by omega)).imp ?_
 rintro _ _ ⟨rfl,a0,a1,rfl⟩
 obtain ⟨a,ha⟩:∃a:Nat,yP ns 15 10289 ((bs.length:Int)+1)=a:=⟨_,(Int.toNat_of_nonneg a0).symm⟩
 rw [ha] at a1 ⊢
 have ltk:(bs.take a).length≤9:=by rw [List.length_take];omega
 have ldr:(bs.drop (a+1)).length≤9:=by rw [List.length_drop];omega
 have mid:∀{T:Sto} {ys:List (Str×Int)} {P:Xv→Sto→Prop},ys.length≤10→P (.tup (((bs.take a++ys)++bs.drop (a+1)).map yF)) T→WO (vE (.tup (L2.XR (bs.map yF) none (some (a:Int))++ys.map yF)) (.tup (L2.XR (bs.map yF) (some ((a:Int)+1)) none)) T) P:=by
  intro T ys P hy hP
  rw [zcV,show (a:Int)+1=((a+1:Nat):Int) from rfl,zck,←List.map_take,←List.map_drop,←List.map_append]
  refine Zo (by rw [List.length_map,List.length_map,List.length_append];omega) ?_
  rw [←List.map_append]
  exact hP
 have tkl:(L2.XR (bs.map yF) none (some (a:Int))).length≤9:=by rw [zcV,←List.map_take,List.length_map];exact ltk
 walk_at "w"
 refine (yt hs1 (by decide) (by decide) (by decide)).imp ?_
 rintro _ _ ⟨rfl,w0,w1,rfl⟩
 generalize yP ns 16 10301 9=way at w0 w1 ⊢
 walk_at "w"
 refine zS ?_
 walk_at "w"
 refine yg (fun h=> ?_) (fun h=>zP ?_)
 ·walk_at "w"
  have k2:Kn S (S1++[Ce.lst [.int 0,.int 10,.int (-1),.int (10^(50:Int).toNat)]]):=k1.app
  refine (yt (hs.keep k2) (by decide) (by decide) (by decide)).imp ?_
  rintro _ _ ⟨rfl,i0,i1,rfl⟩
  walk_at "w"
  obtain ⟨f,hf,v,rfl,hv⟩:∃f,atI [Xv.int 0,.int 10,.int (-1),.int (10^(50:Int).toNat)] (yP ns 17 10303 4)=some f∧∃v:Int,f= .int v∧decide (1≤v∧v≤9)=false:=by
   refine wA (P:=fun f=>∃v:Int,f= .int v∧decide (1≤v∧v≤9)=false) ?_ i0 i1
   intro f hf
   simp only [List.mem_cons,List.not_mem_nil,or_false] at hf
   rcases hf with rfl|rfl|rfl|rfl<;>exact ⟨_,rfl,by decide⟩
  refine wy (zE zU) hf ?_
  generalize S1++[Ce.lst [.int 0,.int 10,.int (-1),.int (10^(50:Int).toNat)]]=S2 at k2 ⊢
  walk_at "w"
  refine Wr ?_
  walk_at "w"
  refine Zo (by show _+1≤_;omega) ?_
  walk_at "w"
  refine Wr ?_
  walk_at "w"
  exact mid (ys:=[(z,v)]) (show 1≤10 by decide) ⟨_,rfl,zdJ hB h9 zok (.inr hv),k2⟩
 walk_at "w"
 refine zS ?_
 walk_at "w"
 have old:∀c∈(bs.take a)++bs.drop (a+1),asc c.1∧c.1.length≤100:=by
  intro c hc
  have:c∈bs:=by
   rw [List.mem_append] at hc
   rcases hc with hc|hc
   ·exact List.mem_of_mem_take hc
   ·exact List.mem_of_mem_drop hc
  have:=hB.nm c this
  exact ⟨this.2.2.asc,by omega⟩
 refine yg (fun h=> ?_) (fun h=>zP ?_)
 ·walk_at "w"
  refine Wr ?_
  walk_at "w"
  refine Zo (by show _+2≤_;omega) ?_
  walk_at "w"
  refine Wr ?_
  walk_at "w"
  refine mid (ys:=[(z,1),(z,1)]) (show 2≤10 by decide) ⟨_,rfl,zdK ?_ ?_ ?_,k1⟩
  ·rw [List.length_append,List.length_append]
   show _+2+_≤_
   omega
  ·intro c hc
   rw [List.mem_append,List.mem_append] at hc
   rcases hc with (hc|hc)|hc
   ·exact old c (List.mem_append_left _ hc)
   ·have:c=(z,1):=by simpa using hc
    rw [this]
    exact zok
   ·exact old c (List.mem_append_right _ hc)
  ·intro nd
   rw [List.map_append,List.map_append,List.nodup_append,List.nodup_append] at nd
   have:=nd.1.2.1
   simp at this
 walk_at "w"
 refine zS ?_
 walk_at "w"
 refine yg (fun h=> ?_) (fun h=>zP ?_)
 ·walk_at "w"
  refine Wr ?_
  walk_at "w"
  refine Zo (by show _+1≤_;omega) ?_
  walk_at "w"
  refine Wr ?_
  walk_at "w"
  refine mid (ys:=[(z,1)]) (show 1≤10 by decide) ?_
  walk_at "w"
  refine Zo (by rw [List.length_map,List.length_append,List.length_append];show _+1+_+1≤_;omega) ?_
  refine ⟨((bs.take a++[(z,1)])++bs.drop (a+1))++[(z,1)],by rw [List.map_append (l₂:=[(z,(1:Int))])];rfl,zdK ?_ ?_ ?_,k1⟩
  ·rw [List.length_append,List.length_append,List.length_append]
   show _+1+_+1≤_
   omega
  ·intro c hc
   rw [List.mem_append,List.mem_append,List.mem_append] at hc
   rcases hc with ((hc|hc)|hc)|hc
   ·exact old c (List.mem_append_left _ hc)
   ·have:c=(z,1):=by simpa using hc
    rw [this]
    exact zok
   ·exact old c (List.mem_append_right _ hc)
   ·have:c=(z,1):=by simpa using hc
    rw [this]
    exact zok
  ·intro nd
   rw [List.map_append,List.nodup_append] at nd
   exact nd.2.2 z (by simp) z (by simp) rfl
 walk_at "w"
 refine zS ?_
 walk_at "w"
 refine yg (fun h=> ?_) (fun h=>zP ?_)
 ·walk_at "w"
  refine vK (xs:=aj.map Xv.str) (f:=fun i=>yF (aj.getD i "",1)) (by rw [List.length_map];exact xS (by decide)) (zff (by walk_at "w";exact ⟨by decide+kernel,fun _ _=>zch ▸ rfl,Kn.refl⟩)) ?_ ?_
  ·intro i w S2 hw k2
   rw [List.getElem?_map,Option.map_eq_some_iff] at hw
   obtain ⟨u,e,rfl⟩:=hw
   show W (zH [zk 0,eC (.int 1)] [some (.str u)] S2) _
   walk_at "w"
   rw [List.getD_eq_getElem?_getD,e]
   exact ⟨rfl,Kn.refl⟩
  ·intro S2 k2
   walk_at "w"
   refine xh zU ?_
   refine ⟨aj.map fun u=>(u,1),rfl,⟨by decide,?_,?_⟩,(k1.trans k2).app⟩
   ·intro c hc
    rw [List.mem_map] at hc
    obtain ⟨u,hu,rfl⟩:=hc
    have:=zhg u hu
    exact ⟨this.1.asc,by show u.length≤100;omega⟩
   ·unfold bxF
    rw [decide_eq_false fun h=>absurd h.1 (by decide),Bool.false_and]
 walk_at "w"
 refine zS ?_
 walk_at "w"
 refine yg (fun h=> ?_) (fun h=>zP ?_)
 ·walk_at "w"
  refine ⟨[("seven",7),("eight",8),("nine",9),("two",2)],rfl,⟨by decide,?_,?_⟩,k1⟩
  ·intro c hc
   simp only [List.mem_cons,List.not_mem_nil,or_false] at hc
   rcases hc with rfl|rfl|rfl|rfl<;>exact ⟨by unfold asc;decide+kernel,by decide+kernel⟩
  ·unfold bxF
   rw [decide_eq_false (show ¬xP [("seven",7),("eight",8),("nine",9),("two",2)]≤1000 by decide),Bool.and_false,Bool.and_false,Bool.and_false]
 walk_at "w"
 have k2:Kn S (S1++[Ce.lst (zem.map Xv.str)]):=k1.app
 refine (yt (hs.keep k2) (by decide) (by decide) (by decide)).imp ?_
 rintro _ _ ⟨rfl,i0,i1,rfl⟩
 walk_at "w"
 obtain ⟨f,hf,u,hu,rfl⟩:∃f,atI (zem.map Xv.str) (yP ns 17 10303 6)=some f∧∃u,u∈zem∧f= .str u:=by
  refine wA (P:=fun f=>∃u,u∈zem∧f= .str u) ?_ i0 i1
  intro f hf
  rw [List.mem_map] at hf
  obtain ⟨u,hu,rfl⟩:=hf
  exact ⟨u,hu,rfl⟩
 refine wy (zE zU) hf ?_
 generalize S1++[Ce.lst (zem.map Xv.str)]=S2 at k2 ⊢
 obtain ⟨u1,hall⟩:=zgK u hu
 walk_at "w"
 refine Wx (xS (by show 2+_≤_;omega)) ?_
 walk_at "w"
 refine Wx (xS (by show _+1≤_;omega)) ?_
 walk_at "w"
 refine Wx (xS (by show 1+_≤_;omega)) ?_
 walk_at "w"
 refine Wx (xS (by rw [Str.length_append];show 1+_+1≤_;omega)) ?_
 walk_at "w"
 have k3:Kn S (S2++[Ce.lst ([("":Str),"abcdefghi","ab"++u,u,u++"b",("a"++u)++"b"].map Xv.str)]):=k2.app
 refine (yt (hs.keep k3) (by decide) (by decide) (by decide)).imp ?_
 rintro _ _ ⟨rfl,j0,j1,rfl⟩
 walk_at "w"
 obtain ⟨f,hf,w,rfl,hw1,hw2,hw3⟩:∃f,atI ([("":Str),"abcdefghi","ab"++u,u,u++"b",("a"++u)++"b"].map Xv.str) (yP ns 18 10313 6)=some f∧∃w:Str,f= .str w∧w.cps.all (· <128)=true∧w.length≤100∧nmF w=false:=by
  refine wA (P:=fun f=>∃w:Str,f= .str w∧w.cps.all (· <128)=true∧w.length≤100∧nmF w=false) ?_ j0 j1
  intro f hf
  rw [List.mem_map] at hf
  obtain ⟨w,hw,rfl⟩:=hf
  exact ⟨w,rfl,hall w hw⟩
 refine wy (zE zU) hf ?_
 generalize S2++[Ce.lst ([("":Str),"abcdefghi","ab"++u,u,u++"b",("a"++u)++"b"].map Xv.str)]=S3 at k3 ⊢
 walk_at "w"
 refine Wr ?_
 walk_at "w"
 refine Zo (by show _+1≤_;omega) ?_
 walk_at "w"
 refine Wr ?_
 walk_at "w"
 exact mid (ys:=[(w,1)]) (show 1≤10 by decide) ⟨_,rfl,zdJ hB h9 ⟨hw1,hw2⟩ (.inl hw3),k3⟩
end
section
variable {fu:Nat} {S S' S2:Sto} {x y:Xv} {ns:List Int} {bs:List (Str×Int)}
theorem Tr.split {l2:List Xv}:∀{l1:List Xv} {n:Int} {q c:Nat} {g:Bool},Tr bs (.b (l1++l2)) n q g c→∃(n1 n2:Int) (q1 q2:Nat) (g1 g2:Bool) (c1 c2:Nat),Tr bs (.b l1) n1 q1 g1 c1∧Tr bs (.b l2) n2 q2 g2 c2∧n=n1+n2∧q=max q1 q2∧g=(g1&&g2)∧c+1=c1+c2
 |[],n,q,c,g,h=>⟨0,n,0,q,true,g,1,c,.nil,h,by omega,by omega,rfl,by omega⟩
 |x::r,n,q,c,g,h=>by
  rw [List.cons_append] at h
  cases h with
  |cons t1 t2=>
   obtain ⟨n1,n2,q1,q2,g1,g2,c1,c2,h1,h2,rfl,rfl,rfl,hc⟩:=Tr.split t2
   exact ⟨_,n2,_,q2,_,g2,_,c2,.cons t1 h1,h2,by omega,by omega,by rw [Bool.and_assoc],by omega⟩
theorem Tr.ins {l:List Xv} {n m:Int} {q p c e:Nat} {g h:Bool} {a:Nat} (hl:Tr bs (.b l) n q g c) (hx:Tr bs (.d x) m p h e):Tr bs (.b ((l.take a++[x])++l.drop a)) (n+m) (max q p) (g&&h) (c+e):=by
 rw [←List.take_append_drop a l] at hl
 obtain ⟨n1,n2,q1,q2,g1,g2,c1,c2,h1,h2,rfl,rfl,rfl,hc⟩:=hl.split
 obtain ⟨c',hc',t⟩:=Tr.app h2 (h1.snoc hx)
 rw [show n1+n2+m=n1+m+n2 by omega,show max (max q1 q2) p=max (max q1 p) q2 by omega,show (g1&&g2&&h)=(g1&&h&&g2) by cases g1<;>cases g2<;>cases h<;>rfl,show c+e=c' by omega]
 exact t
theorem zdL:Tr bs (.d (.tup [.str "pass"])) 1 0 true 1:= .pl (by decide) (by decide) (by decide) (by decide) .pass
theorem zen {T0:Sto} {L:Int} {q:Nat} {R:Xv→Sto→Prop} (hbg:Big fu) (hL:L≤101) (hq:q≤12):∀(k:Nat) (m:Nat) (l:List Xv) (n:Int) (c:Nat) (S:Sto),(L-n).toNat<k→n≤101→(c:Int)≤760+n→Tr bs (.b l) n q true c→S[m]? =some (.lst l)→Kn T0 S→
  WS (Vk (bE (eOp dLt (zD (xl fu) [(zk 0)]) (zk 1))) (zR (eOp vg (zk 0) (wf [(zH [(eC (.str "pass"))])])) (gN 0)) k [some (.ref m),some (.int L)] S) (fun ρ S'=>∃(m:Nat) (l:List Xv) (n:Int) (c:Nat),ρ=[some (.ref m),some (.int L)]∧c≤900∧Tr bs (.b l) n q true c∧S'[m]? =some (.lst l)∧Kn T0 S') R:=by
 intro k
 induction k with
 |zero=>intro m l n c S h;omega
 |succ k ih=>
  intro m l n c S hk hn hc tr hat kn
  refine Vq ?_
  walk_at "w"
  refine (zcS hbg tr (by omega) (by omega) (.inr ⟨m,rfl,hat⟩)).imp ?_
  rintro _ S1 ⟨rfl,k1⟩
  walk_at "w"
  have hcl:l.length+1≤c:=tr.cnt
  refine yg (fun h=> ?_) (fun h=>⟨m,l,n,c,rfl,by omega,tr,k1.at hat,kn.trans k1⟩)
  walk_at "w"
  have hat2:=(k1.app (T:=[Ce.lst [.tup [.str "pass"]]])).at hat
  refine Xz (zE hat2) (zE zU) (by show _+1≤_;omega) ?_
  walk_at "w"
  have t2:=tr.snoc (zdL (bs:=bs))
  rw [Nat.max_zero,Bool.and_true] at t2
  exact ih _ _ (n+1) (c+1) _ (by omega) (by omega) (by omega) t2 zU (kn.trans k1.app.app)
theorem zfG {L:Int} {q m c:Nat} {n:Int} {l:List Xv} (hbg:Big fu) (hL:L≤101) (hL0:0≤L) (hq:q≤12) (tr:Tr bs (.b l) n q true c) (hc:c≤760) (h0:0≤n) (hn:n≤20) (hat:S[m]? =some (.lst l)):W (ZS fu [.ref m,.int L] S) fun v S'=>∃(m:Nat) (l:List Xv) (n:Int) (c:Nat),v= .ref m∧c≤900∧Tr bs (.b l) n q true c∧S'[m]? =some (.lst l)∧Kn S S':=by
 walk_at "wr";unfold ZR
 refine zW (xY _ (zbT (zen (T0:=S) hbg hL hq fu m l n c S (by have:=hbg.le;omega) (by omega) (by omega) tr hat Kn.refl)) ?_)
 rintro ρ S3 ⟨m,l,n,c,rfl,h1,h2,h3,k⟩
 walk_at "w"
 exact ⟨m,l,n,c,rfl,h1,h2,h3,k⟩
theorem zfH {P:Xv→Sto→Prop} {X:Xv→Prop} {r0 r1 r3 r5 r6 r7:Option Xv} {m a:Nat} {l:List Xv} {e:TwE} (hat:S[m]? =some (.lst l)) (hl:l.length≤900)
  (he:∀S1,Kn S S1→W (e [r0,r1,some (.ref m),r3,some (.int (a:Int)),r5,r6,r7] S1) fun v S2=>X v∧Kn S1 S2)
  (k:∀(v:Xv) (S':Sto) (n:Nat),X v→S'[n]? =some (.lst ((l.take a++[v])++l.drop a))→Kn S S'→P (.ref n) S'):
  WO (WB (.ref m) none (some (a:Int)) S) fun x S1=>W (wf [e] [r0,r1,some (.ref m),r3,some (.int (a:Int)),r5,r6,r7] S1) fun y S2=>WO (vg x y S2) fun x S1=>W (eSl WB (zk 2) (wJ (zk 4)) oNo [r0,r1,some (.ref m),r3,some (.int (a:Int)),r5,r6,r7] S1) fun y S2=>WO (vg x y S2) P:=by
 refine zcD (zE hat) ?_
 rw [zcV]
 walk_at "w"
 refine (he _ Kn.refl.app).imp ?_
 rintro v S2 ⟨hX,k2⟩
 have at1:=k2.at (zU (S:=S) (c:=Ce.lst (l.take a)))
 have ks:Kn S S2:=Kn.refl.app.trans k2
 walk_at "w"
 have at2:=(Kn.refl.app (T:=[Ce.lst [v]])).at at1
 have lt:(l.take a).length≤l.length:=by rw [List.length_take];omega
 have ld:(l.drop a).length≤l.length:=by rw [List.length_drop];omega
 have lall:(l.take a).length+(l.drop a).length=l.length:=by rw [←List.length_append,List.take_append_drop]
 refine Xz (zE at2) (zE zU) (by show _+1≤_;omega) ?_
 walk_at "w"
 have k3:Kn S (S2++[Ce.lst [v]]++[Ce.lst (l.take a++[v])]):=ks.app.app
 have at3:(S2++[Ce.lst [v]]++[Ce.lst (l.take a++[v])])[(S2++[Ce.lst [v]]).length]? =some (.lst (l.take a++[v])):=zU
 generalize (S2++[Ce.lst [v]]).length=n3 at at3 ⊢
 generalize S2++[Ce.lst [v]]++[Ce.lst (l.take a++[v])]=S3 at at3 k3 ⊢
 refine zcD (zE (k3.at hat)) ?_
 rw [zck]
 walk_at "w"
 refine Xz (zE ((Kn.refl.app (T:=[Ce.lst (l.drop a)])).at at3)) (zE zU) (by rw [List.length_append];show _+1+_≤_;omega) ?_
 exact k v _ _ hX zU k3.app.app
end
section
variable {fu:Nat} {S S' S2:Sto} {x y:Xv} {ns:List Int} {bs:List (Str×Int)}
noncomputable def zgL (bs bs':List (Str×Int)) (gd:Bool) (l:List Xv):Prop:=(gd=true∧bs'=bs∧∃n q c,Tr bs (.b l) n q true c∧q≤12∧c≤1000)∨(gd=false∧(zdI bs'∨(bs'=bs∧∃n q c g,Tr bs (.b l) n q g c∧q≤15∧c≤1000∧(g&&decide (q≤12))=false)))
theorem zfI {z:Xv} {i:Int} (h0:0≤i) (h1:i<3) (h:atI [Xv.tup [.str "pass"],.tup [.str "times",.int 0,.tup []],.tup [.str "while",.tup [.int 0,.str "=",.int 0],.tup []]] i=some z):GX bs z (if i=0 then 0 else 1) true 20:=by
 have:i=0∨i=1∨i=2:=by omega
 rcases this with rfl|rfl|rfl
 ·cases h
  exact ⟨1,1,zdL,by decide⟩
 ·cases h
  have ow:=Own.times (bs:=bs) (k:=0) (u:= .tup [])
  have:=Tr.deed (x:= .tup [.str "times",.int 0,.tup []]) .times ow (Tr.conss .nil .nils)
  exact ⟨_,_,this,by decide⟩
 ·cases h
  have ow:=Ts (bs:=bs) (a:=0) (b:=0) (s:="=") (u:= .tup []) (by decide) (by decide)
  have:=Tr.deed (x:= .tup [.str "while",.tup [.int 0,.str "=",.int 0],.tup []]) .whil ow (Tr.conss .nil .nils)
  exact ⟨_,_,this,by decide⟩
theorem zgM {m q c:Nat} {n:Int} {l:List Xv} (hbg:Big fu) (hs:Sc ns S) (hB:YE 1000 bs) (h9:bs.length≤9) (tr:Tr bs (.b l) n q true c) (hq:q≤4) (hc:c≤760) (h0:0≤n) (hn:n≤20) (hat:S[m]? =some (.lst l)):
  W (Yv fu [.ref 0,.tup (bs.map yF),.ref m] S) fun v S'=>∃(gd:Bool) (bs':List (Str×Int)) (l':List Xv) (m':Nat),v= .tup [.bl gd,.tup (bs'.map yF),.ref m']∧S'[m']? =some (.lst l')∧Kn S S'∧zgL bs bs' gd l':=by
 have hll:l.length+1≤c:=tr.cnt
 walk_at "wr";unfold Yu
 walk_at "w"
 refine (yt hs (by decide) (by decide) (by decide)).imp ?_
 rintro _ _ ⟨rfl,w0,w1,rfl⟩
 walk_at "w"
 refine vR (zE hat) ?_
 walk_at "w"
 refine (yt hs (by decide) (by decide) (by omega)).imp ?_
 rintro _ _ ⟨rfl,a0,a1,rfl⟩
 obtain ⟨a,ha⟩:∃a:Nat,yP ns 21 10331 ((l.length:Int)+1)=a:=⟨_,(Int.toNat_of_nonneg a0).symm⟩
 rw [ha] at a1 ⊢
 clear ha
 walk_at "w"
 refine (yt hs (by decide) (by decide) (by decide)).imp ?_
 rintro _ _ ⟨rfl,d0,d1,rfl⟩
 obtain ⟨d,hd⟩:∃d:Nat,yP ns 22 10333 12=d:=⟨_,(Int.toNat_of_nonneg d0).symm⟩
 rw [hd] at d1 ⊢
 clear hd d0
 have d11:d≤11:=by omega
 generalize yP ns 19 10321 9=way at w0 w1 ⊢
 walk_at "w"
 refine zS ?_
 walk_at "w"
 refine yg (fun h=> ?_) (fun h=>zP ?_)
 ·walk_at "w"
  exact ⟨true,bs,l,m,rfl,hat,Kn.refl,.inl ⟨rfl,rfl,n,q,c,tr,by omega,by omega⟩⟩
 walk_at "w"
 refine zS ?_
 walk_at "w"
 refine yg (fun h=> ?_) (fun h=>zP ?_)
 ·walk_at "w"
  refine zfH (X:=fun v=>∃q0,q0≤1∧GX bs v (q0+d) true (20+6*d)) hat (by omega) ?_ ?_
  ·intro S1 k1
   walk_at "w"
   refine (ziC (hs.keep k1) hB).imp ?_
   rintro v S2 ⟨⟨q0,h1,hx⟩,k2⟩
   walk_at "w"
   refine (Ue (hs.keep (k1.trans k2)) (by omega) hx).imp ?_
   rintro v _ ⟨hv,rfl⟩
   exact ⟨⟨q0,h1,hv⟩,k2⟩
  ·rintro v S' n' ⟨q0,h1,n2,c2,t2,hc2⟩ hat' k'
   walk_at "w"
   exact ⟨true,bs,_,n',rfl,hat',k',.inl ⟨rfl,rfl,_,_,_,tr.ins t2,by omega,by omega⟩⟩
 walk_at "w"
 refine zS ?_
 walk_at "w"
 refine yg (fun h=> ?_) (fun h=>zP ?_)
 ·walk_at "w"
  refine vQ (by decide) ?_
  walk_at "w"
  refine (zfG hbg (by omega) (by omega) (by omega) tr hc h0 hn hat).imp ?_
  rintro _ S2 ⟨m2,l2,n2,c2,rfl,hc2,tr2,hat2,k2⟩
  walk_at "w"
  exact ⟨true,bs,l2,m2,rfl,hat2,k2,.inl ⟨rfl,rfl,_,_,_,tr2,by omega,by omega⟩⟩
 walk_at "w"
 refine zS ?_
 walk_at "w"
 refine yg (fun h=> ?_) (fun h=>zP ?_)
 ·walk_at "w"
  refine vQ (by decide) ?_
  have r0:=Int.emod_nonneg (d:Int) (show (3:Int)≠0 by decide)
  have r1:=Int.emod_lt_of_pos (d:Int) (show (0:Int)<3 by decide)
  obtain ⟨z,hz,_⟩:=wA (P:=fun _=>True) (l:=[Xv.tup [.str "pass"],.tup [.str "times",.int 0,.tup []],.tup [.str "while",.tup [.int 0,.str "=",.int 0],.tup []]]) (fun _ _=>trivial) r0 r1
  have gz:=zfI (bs:=bs) r0 r1 hz
  refine wy (zE zU) hz ?_
  have k1:Kn S (S++[Ce.lst [Xv.tup [.str "pass"],.tup [.str "times",.int 0,.tup []],.tup [.str "while",.tup [.int 0,.str "=",.int 0],.tup []]]]):=Kn.refl.app
  generalize S++[Ce.lst [Xv.tup [.str "pass"],.tup [.str "times",.int 0,.tup []],.tup [.str "while",.tup [.int 0,.str "=",.int 0],.tup []]]]=S1 at k1 ⊢
  walk_at "w"
  refine vQ (by decide) ?_
  walk_at "w"
  refine vQ (by decide) ?_
  walk_at "w"
  refine vQ (by decide) ?_
  walk_at "w"
  have e0:=Int.emod_nonneg (d:Int) (show (2:Int)≠0 by decide)
  have e1:=Int.emod_lt_of_pos (d:Int) (show (0:Int)<2 by decide)
  obtain ⟨mm,hmm⟩:∃mm:Nat,12+(d:Int) % 2-(if (d:Int) % 3<1 then (d:Int) % 3 else 1)=mm:=⟨_,(Int.toNat_of_nonneg (by split<;>omega)).symm⟩
  rw [hmm]
  have hqq:(if (d:Int) % 3=0 then 0 else 1)+mm=12+d % 2:=by split at hmm<;>split<;>omega
  refine zfH (X:=fun v=>GX bs v (12+d % 2) true (20+6*mm)) (k1.at hat) (by omega) ?_ ?_
  ·intro S3 k3
   walk_at "w"
   refine (Ue (hs.keep (k1.trans k3)) (by split at hmm<;>omega) gz).imp ?_
   rintro v _ ⟨hv,rfl⟩
   rw [hqq] at hv
   exact ⟨hv,Kn.refl⟩
  ·rintro v S' n' ⟨n2,c2,t2,hc2⟩ hat' k'
   walk_at "w"
   have hm13:mm≤13:=by split at hmm<;>omega
   refine ⟨_,bs,_,n',rfl,hat',k1.trans k',?_⟩
   by_cases hev:(d:Int) % 2=0
   ·rw [decide_eq_true hev]
    exact .inl ⟨rfl,rfl,_,_,_,tr.ins t2,by omega,by omega⟩
   ·rw [decide_eq_false hev]
    exact .inr ⟨rfl,.inr ⟨rfl,_,_,_,_,tr.ins t2,by omega,by omega,by rw [decide_eq_false (by omega)];rfl⟩⟩
 walk_at "w"
 refine zS ?_
 walk_at "w"
 refine yg (fun h=> ?_) (fun h=>zP ?_)
 ·walk_at "w"
  refine (zcW hs hB h9).imp ?_
  rintro _ S2 ⟨bs',rfl,hbad,k2⟩
  walk_at "w"
  exact ⟨false,bs',l,m,rfl,k2.at hat,k2,.inr ⟨rfl,.inl hbad⟩⟩
 walk_at "w"
 refine zfH (X:=fun v=>∃q0,q0≤1∧GX bs v (q0+d) false (20+6*d)) hat (by omega) ?_ ?_
 ·intro S1 k1
  walk_at "w"
  refine (zfF (hs.keep k1) hB h9).imp ?_
  rintro v S2 ⟨⟨q0,h1,hx⟩,k2⟩
  walk_at "w"
  refine (Ue (hs.keep (k1.trans k2)) (by omega) hx).imp ?_
  rintro v _ ⟨hv,rfl⟩
  exact ⟨⟨q0,h1,hv⟩,k2⟩
 ·rintro v S' n' ⟨q0,h1,n2,c2,t2,hc2⟩ hat' k'
  walk_at "w"
  exact ⟨false,bs,_,n',rfl,hat',k',.inr ⟨rfl,.inr ⟨rfl,_,_,_,_,tr.ins t2,by omega,by omega,rfl⟩⟩⟩
end
section
variable {fu:Nat} {S S' S2:Sto} {x y:Xv} {ns:List Int} {bs:List (Str×Int)}
theorem YE.bx (hB:YE 1000 bs) (h9:bs.length≤9):bxF bs=true:=by
 unfold bxF
 rw [decide_eq_true ⟨h9,hB.nd⟩,decide_eq_true hB.pr,Bool.true_and,Bool.and_true,Bool.and_eq_true]
 refine ⟨?_,?_⟩
 ·rw [List.all_eq_true]
  intro b hb
  have:=hB.nm b hb
  exact this.2.2.nm this.1 this.2.1
 ·unfold szF
  rw [List.all_eq_true]
  intro b hb
  exact decide_eq_true (hB.sz b hb)
theorem YE.as (hB:YE 1000 bs):∀b∈bs,asc b.1∧b.1.length≤100:=by
 intro b hb
 have:=hB.nm b hb
 exact ⟨this.2.2.asc,by omega⟩
theorem zfJ {r:List Xv}:L2.XR (r++[x]) none (some (-1))=r:=by
 unfold L2.XR
 rw [HT.UC]
 have:HT.sIx (r++[x]).length (r++[x]).length (some (-1))=r.length:=by
  show (if (-1:Int)<0 then ((-1:Int)+((r++[x]).length:Int)).toNat else min (-1:Int).toNat (r++[x]).length)=_
  rw [if_pos (by decide),List.length_append]
  simp only [List.length_cons,List.length_nil]
  omega
 rw [this]
 simp
theorem zfK {T0:Sto} {R:Xv→Sto→Prop} {v1 a2:Option Xv} (hbg:Big fu):∀(k m:Nat) (l:List Xv) (S:Sto),l.length<k→GB bs l 4 760→S[m]? =some (.lst l)→Kn T0 S→
  WS (Vk (bE (eOp dGt (zD (xl fu) [(zk 3)]) (eC (.int 20)))) (zR (eSl WB (zk 3) oNo (wJ (eUn TN (eC (.int 1))))) (gN 3)) k [some (.ref 0),v1,a2,some (.ref m),none,none] S)
   (fun ρ S'=>∃(m:Nat) (l:List Xv) (n:Int) (q c:Nat),ρ=[some (.ref 0),v1,a2,some (.ref m),none,none]∧Tr bs (.b l) n q true c∧q≤4∧c≤760∧n≤20∧S'[m]? =some (.lst l)∧Kn T0 S') R:=by
 intro k
 induction k with
 |zero=>intro m l S h;omega
 |succ k ih=>
  rintro m l S hk ⟨n,q,c,tr,hq,hc⟩ hat kn
  refine Vq ?_
  walk_at "w"
  refine (zcS hbg tr (by omega) (by omega) (.inr ⟨m,rfl,hat⟩)).imp ?_
  rintro _ S1 ⟨rfl,k1⟩
  walk_at "w"
  refine yg (fun h=> ?_) (fun h=>⟨m,l,n,q,c,rfl,tr,hq,hc,by omega,k1.at hat,kn.trans k1⟩)
  have hne:l≠[]:=by
   rintro rfl
   generalize hg:(true:Bool)=gg at tr
   cases tr
   omega
  obtain ⟨r,z,rfl⟩:∃r p,l=r++[p]:=⟨l.dropLast,l.getLast hne,(List.dropLast_concat_getLast hne).symm⟩
  walk_at "w"
  refine zcD (zE (k1.at hat)) ?_
  rw [zfJ]
  walk_at "w"
  obtain ⟨n1,n2,q1,q2,g1,g2,c1,c2,h1,h2,rfl,rfl,hg,hcc⟩:=tr.split
  obtain ⟨rfl,rfl⟩:=Ud hg
  have hc2:=h2.cnt
  have hc2:1+1≤c2:=hc2
  rw [List.length_append,List.length_singleton] at hk
  exact ih _ r _ (by omega) ⟨n1,q1,c1,h1,by omega,by omega⟩ zU (kn.trans k1.app)
noncomputable def fsz (d i:Nat):Int:=if (i+d) % 4=0 then 8 else 5
theorem zgN {b0 b1 b2 b3:Str×Int} {d:Nat} (hd:d<4) (h:YE 1 [b0,b1,b2,b3]):YE 1000 [(b0.1,fsz d 0),(b1.1,fsz d 1),(b2.1,fsz d 2),(b3.1,fsz d 3)]:=by
 have hz:∀i,1≤fsz d i∧fsz d i≤9:=fun i=>by unfold fsz;split<;>decide
 have hp:xP [(b0.1,fsz d 0),(b1.1,fsz d 1),(b2.1,fsz d 2),(b3.1,fsz d 3)]=1000:=by
  have:d=0∨d=1∨d=2∨d=3:=by omega
  rcases this with rfl|rfl|rfl|rfl<;>rfl
 refine ⟨show 4≤10 by decide,?_,?_,h.nd,by rw [hp];decide,by rw [hp];decide⟩
 ·have nm:=h.nm
  intro b hb
  simp only [List.mem_cons,List.not_mem_nil,or_false] at hb nm
  rcases hb with rfl|rfl|rfl|rfl
  ·exact nm b0 (by simp)
  ·exact nm b1 (by simp)
  ·exact nm b2 (by simp)
  ·exact nm b3 (by simp)
 ·intro b hb
  simp only [List.mem_cons,List.not_mem_nil,or_false] at hb
  rcases hb with rfl|rfl|rfl|rfl<;>exact hz _
theorem ziD {d i:Nat} (hd:d<4) (hi:i<4):atI [Xv.int 8,.int 5,.int 5,.int 5] (((i:Int)+(d:Int)) % 4)=some (.int (fsz d i)):=by
 have h1:d=0∨d=1∨d=2∨d=3:=by omega
 have h2:i=0∨i=1∨i=2∨i=3:=by omega
 rcases h1 with rfl|rfl|rfl|rfl<;>rcases h2 with rfl|rfl|rfl|rfl<;>rfl
end
section
variable {fu:Nat} {S S' S2:Sto} {x y:Xv} {ns:List Int} {bs:List (Str×Int)}
theorem zdM {P:Xv→Sto→Prop} {a b:Bool} (k:P (.bl (decide (a=b))) S):WO (xN false (.bl a) (.bl b) S) P:= .of (show some (Xv.bl (false !=decide (a=b)),S)=some (Xv.bl (decide (a=b)),S) by rw [Bool.false_bne]) k
theorem zjD (hbg:Big fu) (hl:ns.length≤63):W (zcM fu [.ref 0] [.frz (ns.map Xv.int)]) fun v _=>v= .bl true:=by
 have hs:Sc ns [Ce.frz (ns.map Xv.int)]:=rfl
 generalize [Ce.frz (ns.map Xv.int)]=S at hs ⊢
 walk_at "wr";unfold zcL
 walk_at "w"
 refine (yt hs (by decide) (by decide) (by decide)).imp ?_
 rintro _ _ ⟨rfl,c0,c1,rfl⟩
 walk_at "w"
 refine (zdz hs ⟨by omega,by omega⟩ (by decide)).imp ?_
 rintro _ S1 ⟨bs,rfl,hB,hbl,k1⟩
 have h9:bs.length≤9:=by omega
 clear hbl c0 c1
 walk_at "w"
 refine xY (fun ρ S2=>∃(bs:List (Str×Int)) (a2:Option Xv),ρ=[some (.ref 0),some (.tup (bs.map yF)),a2,none,none,none]∧YE 1000 bs∧bs.length≤9∧Kn S S2) (zS ?_) ?_
 ·walk_at "w"
  refine (yt (hs.keep k1) (by decide) (by decide) (by decide)).imp ?_
  rintro _ _ ⟨rfl,_,_,rfl⟩
  walk_at "w"
  refine yg (fun h=> ?_) (fun h=>zP ⟨bs,none,rfl,hB,h9,k1⟩)
  walk_at "w"
  refine (zdz (hs.keep k1) (by decide) (by decide)).imp ?_
  rintro _ S2 ⟨nb,rfl,hN,hnl,k2⟩
  have hs2:=(hs.keep k1).keep k2
  match nb,hnl with
  |[b0,b1,b2,b3],_=>
   walk_at "w"
   obtain ⟨d,hd4,hd⟩:∃d:Nat,d<4∧yP ns 24 10343 4=d:=by
    obtain ⟨_,_,_,_,_,h0,h1,_⟩:=yt (fu:=fu) (k:=24) (p:=10343) (m:=4) hs2 (by decide) (by decide) (by decide)
    exact ⟨(yP ns 24 10343 4).toNat,by omega,by omega⟩
   refine vK (xs:=wQ 0 4) (f:=fun i=>yF (([b0,b1,b2,b3].getD i ("",0)).1,fsz d i)) (by rw [xR];exact xS (by decide)) (WV (by walk_at "w";exact ⟨by decide,fun _ _=>rfl,Kn.refl⟩)) ?_ ?_
   ·intro i w S3 hw k3
    obtain ⟨hi,rfl⟩:=Zq hw
    have hi4:i<4:=hi
    rw [Int.zero_add]
    show W (zH [(eOp yD (eOp yD (zk 1) (zk 0)) (eC (.int 0))),(eOp Yi (wf [(eC (.int 8)),(eC (.int 5)),(eC (.int 5)),(eC (.int 5))]) (eOp XV (eOp xj (zk 0) (zD (zt fu) [(zk 2),(eC (.int 24)),(eC (.int 10343)),(eC (.int 4))])) (eC (.int 4))))] [some (.int (i:Int)),some (.tup ([b0,b1,b2,b3].map yF)),some (.ref 0)] S3) _
    walk_at "w"
    obtain ⟨b,hb⟩:∃b,[b0,b1,b2,b3][i]? =some b:=⟨_,List.getElem?_eq_getElem hi4⟩
    refine xZ rfl (z:=yF b) (Wc (by omega) (by rw [Int.toNat_natCast,List.getElem?_map,hb];rfl)) ?_
    unfold yF
    walk_at "w"
    have k4:Kn S3 (S3++[Ce.lst [.int 8,.int 5,.int 5,.int 5]]):=Kn.refl.app
    refine (yt ((hs2.keep k3).keep k4) (by decide) (by decide) (by decide)).imp ?_
    rintro _ _ ⟨rfl,_,_,rfl⟩
    rw [hd]
    walk_at "w"
    refine vQ (by decide) ?_
    refine wy (zE zU) (ziD hd4 hi4) ?_
    walk_at "w"
    rw [List.getD_eq_getElem?_getD,hb]
    exact ⟨rfl,k4⟩
   ·intro S3 k3
    walk_at "w"
    refine xh zU ?_
    walk_at "w"
    exact ⟨[(b0.1,fsz d 0),(b1.1,fsz d 1),(b2.1,fsz d 2),(b3.1,fsz d 3)],_,rfl,zgN hd4 hN,show 4≤9 by decide,(k1.trans k2).trans k3.app⟩
 clear hB h9 k1
 rintro ρ S2 ⟨bs,a2,rfl,hB,h9,k2⟩
 have hs2:=hs.keep k2
 walk_at "w"
 refine vR hs2 ?_
 walk_at "w"
 rw [List.length_map,show (if (ns.length:Int)<63 then (ns.length:Int) else 63)=(ns.length:Int) by split<;>omega]
 refine (zjB hbg hl hB hs2).imp ?_
 rintro _ S3 ⟨l,rfl,hat,hG,hll,k3⟩
 walk_at "w"
 refine xY _ (zbT (zfK (T0:=S3) hbg fu _ l S3 (by have:=hbg.le;omega) hG hat Kn.refl)) ?_
 rintro ρ S4 ⟨m,l,n,q,c,rfl,tr,hq,hc,hn,hat,k4⟩
 have hs4:=(hs2.keep k3).keep k4
 walk_at "w"
 refine vP ?_
 walk_at "w"
 refine (zgM hbg hs4 hB h9 tr hq hc (tr.bd rfl).1 hn hat).imp ?_
 rintro _ S5 ⟨gd,bs',l',m',rfl,hat',k',hbo⟩
 refine .of rfl ?_
 dsimp only [List.set]
 walk_at "w"
 refine xh hat' ?_
 walk_at "w"
 have fin:∀{b:Bool} {S6:Sto} {v2:Option Xv},Kn S5 S6→(gd=true→∃n q c,Tr bs (.b l') n q true c∧q≤12∧c≤1000∧b=decide (n≤100))→(gd=false→b=false)→
   W (TK (eUn (za0 "bool") (zk 5)) (eOp (xN false) (zk 5) (TK (zk 4) (eOp dLe (zD (xl fu) [(zk 3)]) (eC (.int 100))))) [some (.ref 0),some (.tup (bs'.map yF)),v2,some (.ref m'),some (.bl gd),some (.bl b)] S6) fun v _=>v= .bl true:=by
  intro b S6 v2 k6 h1 h2
  refine Ww ?_
  walk_at "w"
  refine UT (v:=true) rfl ?_
  refine ⟨_,rfl,fun _=> ?_,(fun z=>by cases z)⟩
  walk_at "w"
  refine Ww ?_
  walk_at "w"
  refine ⟨fun e=> ?_,fun e=> ?_⟩
  ·obtain ⟨n,q,c,tr,hq,hc,hb⟩:=h1 e
   walk_at "w"
   refine (zcS hbg tr hc (by omega) (.inr ⟨m',rfl,k6.at hat'⟩)).imp ?_
   rintro _ S7 ⟨rfl,k7⟩
   walk_at "w"
   refine zdM ?_
   rw [hb,decide_eq_true rfl]
  ·refine zdM ?_
   rw [h2 e,decide_eq_true rfl]
 rcases hbo with ⟨rfl,rfl,n,q,c,tr,hq,hc⟩|⟨rfl,hbad|⟨rfl,n,q,c,g,tr,hq,hc,hg⟩⟩
 ·refine (zcd (by omega) hB.as (hB.bx h9) tr hc (by omega)).imp ?_
  rintro _ S6 ⟨rfl,k6⟩
  walk_at "w"
  exact fin k6 (fun _=>⟨n,q,c,tr,hq,hc,by rw [decide_eq_true hq];rfl⟩) (fun z=>by cases z)
 ·refine (zbi hbad.len hbad.asc hbad.bad).imp ?_
  rintro _ S6 ⟨rfl,k6⟩
  walk_at "w"
  exact fin k6 (fun z=>by cases z) fun _=>rfl
 ·refine (zcd (by omega) hB.as (hB.bx h9) tr hc hq).imp ?_
  rintro _ S6 ⟨rfl,k6⟩
  walk_at "w"
  exact fin k6 (fun z=>by cases z) fun _=>by rw [←Bool.and_assoc,hg];rfl
theorem zjE (hbg:Big fu) (ns:List Int) (hl:ns.length≤63):∃S,zcM fu [.ref 0] [.frz (ns.map Xv.int)]=some (.ok (.bl true) S):=by
 obtain ⟨v,S,e,rfl⟩:=zjD hbg hl
 exact ⟨S,e⟩
end
end
noncomputable def zbk:Nat:=2^9000
theorem zcl:Big zbk:=by unfold Big zbk;exact Nat.le_refl _
theorem ziE {P:Program} {w:World} {K:PySem.W.Frag} {mg:Str→Option Value} {base:Heap} (T:Tx K mg):yZ P w K mg base (CXE P w) 43 T.f_law.a T.f_law.fd ["_law_script"] (UN K):=zhU (zgB (fu:=zbk) T) fun ns hl=>zjE zcl ns hl
noncomputable def zjF {K:PySem.W.Frag} {h:Heap} {mg:Str→Option Value} (X:K.In h) (G:h.Ns mainGlobals mg)
     {qt_LETTERS:Tok} {qt_MOST_LETTERS:Tok} {q_BLOCK_KINDS:Addr} {qd_BLOCK_KINDS:Option Addr} {qn_BLOCK_KINDS:Nat} {qs_BLOCK_KINDS:Array (Option Value)} {qt_BLOCK_KINDS_0:Tok} {qt_BLOCK_KINDS_1:Tok} {qt_BLOCK_KINDS_2:Tok} {qt_BLOCK_KINDS_3:Tok} {qt_MOST_BOXES:Tok} {qt_MOST_SIZE:Tok} {qt_MOST_STATES:Tok} {qt_MOST_NUMBER:Tok} {qt_MOST_TURNS:Tok} {qt_FEWEST_BLOCKS:Tok} {qt_MOST_BLOCKS:Tok} {qt_MOST_WITHIN:Tok} {qt_MOST_LENGTH:Tok}
    (H0:FL K "is_whole" WW)
    (H1:FL K "is_made_of" Zi)
    (H2:FL K "is_name" VY)
    (H3:FL K "blocks_of" Wd)
    (H4:FL K "length_of" Ya)
    (H5:FL K "deed_length" vo)
    (H6:FL K "deeds_within" ZD)
    (H7:FL K "is_program" Zj)
    (H8:FL K "is_from_to" YZ)
    (H9:FL K "boxes_fit" vG)
    (H10:FL K "deed_fits" Yb)
    (H11:FL K "weights_fit" vp)
    (H12:FL K "operands_of" Yk)
    (H13:FL K "operand_fits" ZE)
    (H14:FL K "depth_of" Xb)
    (H15:FL K "deed_depth" Zk)
    (H16:FL K "_law_draw" We)
    (H17:FL K "_law_name" Wf)
    (H18:FL K "_law_boxes" Xc)
    (H19:FL K "_law_operand" ZF)
    (H20:FL K "_law_test" Wg)
    (H21:FL K "_law_reckoning" vn)
    (H22:FL K "_law_weights" wT)
    (H23:FL K "_law_plain" Xd)
    (H24:FL K "_law_deed" Wh)
    (H25:FL K "_law_hand" Wi)
    (H26:FL K "_law_block" Xe)
    (H27:FL K "_law_top" WX)
    (H28:FL K "_law_inner" Xf)
    (H29:FL K "_law_length" Yl)
    (H30:FL K "_law_wrapped" ZG)
    (H31:FL K "_law_free" vH)
    (H32:FL K "_law_kept" wK)
    (H33:FL K "_law_faulty" Ym)
    (H34:FL K "_law_broken" xu)
    (H35:FL K "_law_bad_boxes" wk)
    (H36:FL K "_law_filled" Yn)
    (H37:FL K "_law_built" Xg)
    (H38:FL K "law" zdx)
    (N_all:PySem.W.nsIn K mainGlobals "all"=some none)
    (N_bool:PySem.W.nsIn K mainGlobals "bool"=some none)
    (N_dict:PySem.W.nsIn K mainGlobals "dict"=some none)
    (N_int:PySem.W.nsIn K mainGlobals "int"=some none)
    (N_isinstance:PySem.W.nsIn K mainGlobals "isinstance"=some none)
    (N_len:PySem.W.nsIn K mainGlobals "len"=some none)
    (N_list:PySem.W.nsIn K mainGlobals "list"=some none)
    (N_max:PySem.W.nsIn K mainGlobals "max"=some none)
    (N_min:PySem.W.nsIn K mainGlobals "min"=some none)
    (N_range:PySem.W.nsIn K mainGlobals "range"=some none)
    (N_set:PySem.W.nsIn K mainGlobals "set"=some none)
    (N_str:PySem.W.nsIn K mainGlobals "str"=some none)
    (N_sum:PySem.W.nsIn K mainGlobals "sum"=some none)
    (N_tuple:PySem.W.nsIn K mainGlobals "tuple"=some none)
    (a_LETTERS:PySem.W.nsIn K mainGlobals "LETTERS"=some (some (.str "abcdefghijklmnopqrstuvwxyz" qt_LETTERS)))
    (a_MOST_LETTERS:PySem.W.nsIn K mainGlobals "MOST_LETTERS"=some (some (.int 8 qt_MOST_LETTERS)))
    (a_BLOCK_KINDS:PySem.W.nsIn K mainGlobals "BLOCK_KINDS"=some (some (.ref q_BLOCK_KINDS)))
    (l_BLOCK_KINDS:K.lookup q_BLOCK_KINDS=some ⟨.type "tuple",qd_BLOCK_KINDS,.seq #[.str "if" qt_BLOCK_KINDS_0,.str "while" qt_BLOCK_KINDS_1,.str "times" qt_BLOCK_KINDS_2,.str "hand" qt_BLOCK_KINDS_3] qn_BLOCK_KINDS,qs_BLOCK_KINDS⟩)
    (a_MOST_BOXES:PySem.W.nsIn K mainGlobals "MOST_BOXES"=some (some (.int 9 qt_MOST_BOXES)))
    (a_MOST_SIZE:PySem.W.nsIn K mainGlobals "MOST_SIZE"=some (some (.int 9 qt_MOST_SIZE)))
    (a_MOST_STATES:PySem.W.nsIn K mainGlobals "MOST_STATES"=some (some (.int 1000 qt_MOST_STATES)))
    (a_MOST_NUMBER:PySem.W.nsIn K mainGlobals "MOST_NUMBER"=some (some (.int 999999999 qt_MOST_NUMBER)))
    (a_MOST_TURNS:PySem.W.nsIn K mainGlobals "MOST_TURNS"=some (some (.int 60 qt_MOST_TURNS)))
    (a_FEWEST_BLOCKS:PySem.W.nsIn K mainGlobals "FEWEST_BLOCKS"=some (some (.int 2 qt_FEWEST_BLOCKS)))
    (a_MOST_BLOCKS:PySem.W.nsIn K mainGlobals "MOST_BLOCKS"=some (some (.int 8 qt_MOST_BLOCKS)))
    (a_MOST_WITHIN:PySem.W.nsIn K mainGlobals "MOST_WITHIN"=some (some (.int 12 qt_MOST_WITHIN)))
    (a_MOST_LENGTH:PySem.W.nsIn K mainGlobals "MOST_LENGTH"=some (some (.int 100 qt_MOST_LENGTH))):Tx K mg:={f_is_whole:=H0.to X G (fun _ _ _ _ _ _=>at_ fun _=>at0 rfl),f_is_made_of:=H1.to X G (fun _ _ _ _ _ _=>at_ fun _=>at_ fun _=>at0 rfl),f_is_name:=H2.to X G (fun _ _ _ _ _ _=>at_ fun _=>at0 rfl),f_blocks_of:=H3.to X G (fun _ _ _ _ _ _=>at_ fun _=>at0 rfl),f_length_of:=H4.to X G (fun _ _ _ _ _ _=>at_ fun _=>at0 rfl),f_deed_length:=H5.to X G (fun _ _ _ _ _ _=>at_ fun _=>at0 rfl),f_deeds_within:=H6.to X G (fun _ _ _ _ _ _=>at_ fun _=>at0 rfl),f_is_program:=H7.to X G (fun _ _ _ _ _ _=>at_ fun _=>at0 rfl),f_is_from_to:=H8.to X G (fun _ _ _ _ _ _=>at_ fun _=>at_ fun _=>at_ fun _=>at0 rfl),f_boxes_fit:=H9.to X G (fun _ _ _ _ _ _=>at_ fun _=>at0 rfl),f_deed_fits:=H10.to X G (fun _ _ _ _ _ _=>at_ fun _=>at_ fun _=>at0 rfl),f_weights_fit:=H11.to X G (fun _ _ _ _ _ _=>at_ fun _=>at_ fun _=>at0 rfl),f_operands_of:=H12.to X G (fun _ _ _ _ _ _=>at_ fun _=>at0 rfl),f_operand_fits:=H13.to X G (fun _ _ _ _ _ _=>at_ fun _=>at_ fun _=>at0 rfl),f_depth_of:=H14.to X G (fun _ _ _ _ _ _=>at_ fun _=>at0 rfl),f_deed_depth:=H15.to X G (fun _ _ _ _ _ _=>at_ fun _=>at0 rfl),f__law_draw:=H16.to X G (fun _ _ _ _ _ _=>at_ fun _=>at_ fun _=>at_ fun _=>at_ fun _=>at0 rfl),f__law_name:=H17.to X G (fun _ _ _ _ _ _=>at_ fun _=>at_ fun _=>at_ fun _=>at0 rfl),f__law_boxes:=H18.to X G (fun _ _ _ _ _ _=>at_ fun _=>at_ fun _=>at_ fun _=>at0 rfl),f__law_operand:=H19.to X G (fun _ _ _ _ _ _=>at_ fun _=>at_ fun _=>at_ fun _=>at0 rfl),f__law_test:=H20.to X G (fun _ _ _ _ _ _=>at_ fun _=>at_ fun _=>at_ fun _=>at0 rfl),f__law_reckoning:=H21.to X G (fun _ _ _ _ _ _=>at_ fun _=>at_ fun _=>at_ fun _=>at0 rfl),f__law_weights:=H22.to X G (fun _ _ _ _ _ _=>at_ fun _=>at_ fun _=>at_ fun _=>at0 rfl),f__law_plain:=H23.to X G (fun _ _ _ _ _ _=>at_ fun _=>at_ fun _=>at_ fun _=>at0 rfl),f__law_deed:=H24.to X G (fun _ _ _ _ _ _=>at_ fun _=>at_ fun _=>at_ fun _=>at_ fun _=>at_ fun _=>at0 rfl),f__law_hand:=H25.to X G (fun _ _ _ _ _ _=>at_ fun _=>at_ fun _=>at_ fun _=>at_ fun _=>at_ fun _=>at0 rfl),f__law_block:=H26.to X G (fun _ _ _ _ _ _=>at_ fun _=>at_ fun _=>at_ fun _=>at_ fun _=>at_ fun _=>at0 rfl),f__law_top:=H27.to X G (fun _ _ _ _ _ _=>at_ fun _=>at_ fun _=>at_ fun _=>at_ fun _=>at0 rfl),f__law_inner:=H28.to X G (fun _ _ _ _ _ _=>at_ fun _=>at0 rfl),f__law_length:=H29.to X G (fun _ _ _ _ _ _=>at_ fun _=>at0 rfl),f__law_wrapped:=H30.to X G (fun _ _ _ _ _ _=>at_ fun _=>at_ fun _=>at_ fun _=>at0 rfl),f__law_free:=H31.to X G (fun _ _ _ _ _ _=>at_ fun _=>at0 rfl),f__law_kept:=H32.to X G (fun _ _ _ _ _ _=>at_ fun _=>at_ fun _=>at0 rfl),f__law_faulty:=H33.to X G (fun _ _ _ _ _ _=>at_ fun _=>at_ fun _=>at0 rfl),f__law_broken:=H34.to X G (fun _ _ _ _ _ _=>at_ fun _=>at_ fun _=>at0 rfl),f__law_bad_boxes:=H35.to X G (fun _ _ _ _ _ _=>at_ fun _=>at_ fun _=>at0 rfl),f__law_filled:=H36.to X G (fun _ _ _ _ _ _=>at_ fun _=>at_ fun _=>at0 rfl),f__law_built:=H37.to X G (fun _ _ _ _ _ _=>at_ fun _=>at_ fun _=>at_ fun _=>at0 rfl),f_law:=H38.to X G (fun _ _ _ _ _ _=>at_ fun _=>at0 rfl),n_all:=PySem.W.mg_none_of X G N_all,n_bool:=PySem.W.mg_none_of X G N_bool,n_dict:=PySem.W.mg_none_of X G N_dict,n_int:=PySem.W.mg_none_of X G N_int,n_isinstance:=PySem.W.mg_none_of X G N_isinstance,n_len:=PySem.W.mg_none_of X G N_len,n_list:=PySem.W.mg_none_of X G N_list,n_max:=PySem.W.mg_none_of X G N_max,n_min:=PySem.W.mg_none_of X G N_min,n_range:=PySem.W.mg_none_of X G N_range,n_set:=PySem.W.mg_none_of X G N_set,n_str:=PySem.W.mg_none_of X G N_str,n_sum:=PySem.W.mg_none_of X G N_sum,n_tuple:=PySem.W.mg_none_of X G N_tuple,m_LETTERS:=⟨_,PySem.W.mg_of X G a_LETTERS⟩,m_MOST_LETTERS:=⟨_,PySem.W.mg_of X G a_MOST_LETTERS⟩,a_BLOCK_KINDS:=q_BLOCK_KINDS,m_BLOCK_KINDS:=PySem.W.mg_of X G a_BLOCK_KINDS,c_BLOCK_KINDS:=fun H=> .inr ⟨_,_,_,l_BLOCK_KINDS,rfl,rfl,by show 4≤sizeLine;decide,(.cons ⟨_,rfl⟩ (.cons ⟨_,rfl⟩ (.cons ⟨_,rfl⟩ (.cons ⟨_,rfl⟩ .nil))))⟩,m_MOST_BOXES:=⟨_,PySem.W.mg_of X G a_MOST_BOXES⟩,m_MOST_SIZE:=⟨_,PySem.W.mg_of X G a_MOST_SIZE⟩,m_MOST_STATES:=⟨_,PySem.W.mg_of X G a_MOST_STATES⟩,m_MOST_NUMBER:=⟨_,PySem.W.mg_of X G a_MOST_NUMBER⟩,m_MOST_TURNS:=⟨_,PySem.W.mg_of X G a_MOST_TURNS⟩,m_FEWEST_BLOCKS:=⟨_,PySem.W.mg_of X G a_FEWEST_BLOCKS⟩,m_MOST_BLOCKS:=⟨_,PySem.W.mg_of X G a_MOST_BLOCKS⟩,m_MOST_WITHIN:=⟨_,PySem.W.mg_of X G a_MOST_WITHIN⟩,m_MOST_LENGTH:=⟨_,PySem.W.mg_of X G a_MOST_LENGTH⟩}
theorem ziF {l:PySem.W.OpenLaw} {w:World} {K:PySem.W.Frag} {mg:Str→Option Value} {fa:Addr} (hfa:mg "law"=some (.ref fa)) (T:Tx K mg):
  ∃fd:FuncData,(∀(s:Shared) (v:Value),BindsTo s fd ⟨[v],[]⟩ [("_law_script",v)])∧∀base:Heap,K.In base→base.Ns mainGlobals mg→yZ l.prog w K mg base (CXE l.prog w) 43 fa fd ["_law_script"] (UN K):=by
 have e:=ziq T.f_law (fun _ _=>trivial) hfa
 subst e
 exact ⟨_,fun s v=>by
  obtain ⟨_,_,_,_,_,_,_,_,_,e,_⟩:=T.f_law.F.ex
  rw [e]
  exact .of_eq rfl,fun base _ _=>ziE T⟩
theorem zjS {l:PySem.W.OpenLaw} {q:Program} {loose:List Str} {XP:(Str→Option Value)→Heap→Prop} {YP:World→Heap→Prop} {d:DefRec} {K:Params→PySem.W.Frag} (hn:l.most=some 63) (hdf:d.params.defaults=[])
  (hY:∀(w:World) (h:Heap),YP w h→(K w.params).In h)
  (F:∀(w:World) (mg:Str→Option Value) (fa:Addr) (h:Heap),(K w.params).In h→h.Ns mainGlobals mg→mg d.name=some (.ref fa)→
   ∃fd:FuncData,(∀(s:Shared) (u:Value),BindsTo s fd ⟨[u],[]⟩ [("_law_script",u)])∧∀base:Heap,(K w.params).In base→base.Ns mainGlobals mg→yZ l.prog w (K w.params) mg base (CXE l.prog w) 43 fa fd ["_law_script"] (UN (K w.params))):
  PySem.W.WalkO q loose XP YP l.row.toRowW d [] (fun f vs=>PySem.call f vs):=
 L2.zf0 (n:=63) (k:=43) (x:="_law_script") (CX:=fun w=>CXE l.prog w) (sp:=fun w=>UN (K w.params)) hn (by decide) hdf ⟨rfl,by decide,by decide,rfl⟩ hY F (fun _ _ a ns hl hO hS=>⟨a,ns,rfl,hO,hS,hl,fun _=>rfl⟩) fun _ _ _ _ _ ⟨_,_,_,_,_,z⟩=>z
end Prf
open PySem PySem.W PyProof.Rows
local macro_rules | `(tactic| walk_at "fl") => `(tactic| exact Prf.zjt (by k_is) (by k_is) (by k_is) (by k_is))
local macro_rules | `(tactic| walk_at "ml") => `(tactic| exact Prf.ml_mk (by k_is) (by k_is) (by k_is) (by k_is) (by k_is))
set_option maxRecDepth 100000 in
set_option maxHeartbeats 0 in
theorem PySem.Challenge.cw_lots_k16_what_is_a_program_holds : PySem.Challenge.rw_lots_k16_what_is_a_program.Holds := by
 w_on;o_law;k_head;(case hw=>w_witness2)
 k_fill
 refine Prf.zjS (l:=PySem.Challenge.rw_lots_k16_what_is_a_program) rfl rfl (fun w h Y=>PySem.W.kIn_of Y) ?F
 case F=>
  intro w mg fa h KX G hmg
  refine' Prf.ziF hmg (Prf.zjF KX G ?H0 ?H1 ?H2 ?H3 ?H4 ?H5 ?H6 ?H7 ?H8 ?H9 ?H10 ?H11 ?H12 ?H13 ?H14 ?H15 ?H16 ?H17 ?H18 ?H19 ?H20 ?H21 ?H22 ?H23 ?H24 ?H25 ?H26 ?H27 ?H28 ?H29 ?H30 ?H31 ?H32 ?H33 ?H34 ?H35 ?H36 ?H37 ?H38 ?N_all ?N_bool ?N_dict ?N_int ?N_isinstance ?N_len ?N_list ?N_max ?N_min ?N_range ?N_set ?N_str ?N_sum ?N_tuple ?a_LETTERS ?a_MOST_LETTERS ?a_BLOCK_KINDS ?l_BLOCK_KINDS ?a_MOST_BOXES ?a_MOST_SIZE ?a_MOST_STATES ?a_MOST_NUMBER ?a_MOST_TURNS ?a_FEWEST_BLOCKS ?a_MOST_BLOCKS ?a_MOST_WITHIN ?a_MOST_LENGTH)
  (case H0=>walk_at "fl");(case H1=>walk_at "fl");(case H2=>walk_at "fl");(case H3=>walk_at "fl");(case H4=>walk_at "fl");(case H5=>walk_at "fl")
  (case H6=>walk_at "fl");(case H7=>walk_at "fl");(case H8=>walk_at "fl");(case H9=>walk_at "fl");(case H10=>walk_at "fl");(case H11=>walk_at "fl")
  (case H12=>walk_at "fl");(case H13=>walk_at "fl");(case H14=>walk_at "fl");(case H15=>walk_at "fl");(case H16=>walk_at "fl");(case H17=>walk_at "fl")
  (case H18=>walk_at "fl");(case H19=>walk_at "fl");(case H20=>walk_at "fl");(case H21=>walk_at "fl");(case H22=>walk_at "fl");(case H23=>walk_at "fl")
  (case H24=>walk_at "fl");(case H25=>walk_at "fl");(case H26=>walk_at "fl");(case H27=>walk_at "fl");(case H28=>walk_at "fl");(case H29=>walk_at "fl")
  (case H30=>walk_at "fl");(case H31=>walk_at "fl");(case H32=>walk_at "fl");(case H33=>walk_at "fl");(case H34=>walk_at "fl");(case H35=>walk_at "fl")
  (case H36=>walk_at "fl");(case H37=>walk_at "fl");(case H38=>walk_at "fl");(case N_all=>k_is);(case N_bool=>k_is);(case N_dict=>k_is)
  (case N_int=>k_is);(case N_isinstance=>k_is);(case N_len=>k_is);(case N_list=>k_is);(case N_max=>k_is);(case N_min=>k_is)
  (case N_range=>k_is);(case N_set=>k_is);(case N_str=>k_is);(case N_sum=>k_is);(case N_tuple=>k_is);(case a_LETTERS=>k_is)
  (case a_MOST_LETTERS=>k_is);(case a_BLOCK_KINDS=>k_is);(case l_BLOCK_KINDS=>k_is);(case a_MOST_BOXES=>k_is);(case a_MOST_SIZE=>k_is);(case a_MOST_STATES=>k_is)
  (case a_MOST_NUMBER=>k_is);(case a_MOST_TURNS=>k_is);(case a_FEWEST_BLOCKS=>k_is);(case a_MOST_BLOCKS=>k_is);(case a_MOST_WITHIN=>k_is);(case a_MOST_LENGTH=>k_is)
