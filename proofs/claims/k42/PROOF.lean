import PyProof.Rows.All
import Wide.All
import OpenK.AllK
import Wide.FinOn
import Lean
import PyProof.EqAt
import PyProof.EqKinds
import PyProof.TupleCall
import PySem.Challenge.RW_rootspan_k42_a_number_made
set_option Elab.async false
set_option linter.all false
set_option maxRecDepth 100000
local macro_rules | `(tactic| omega)=>`(tactic| first | lia | omega (splitDisjunctions:=true))
namespace PySem.W.Fast
def tw4440773148465445809:=()
def tw2113281953152183308:=()
def tw6153501681943139670:=()
def tw6603623407558835052:=()
def tw15727058973959664143:=()
def tw1070767175393413742:=()
def tw17412367039286569467:=()
def tw6328388960804236426:=()
def tw17760745956718647220:=()
def tw14868479827442716085:=()
def tw4631830598411888993:=()
def tw12235490474967193135:=()
def tw1935373630234010047:=()
def tw17333875416998725729:=()
def tw9615901424639214028:=()
def tw4930071019672575209:=()
def tw9015931619633452326:=()
def tw4807142000148426986:=()
def tw14013984958266460995:=()
def tw15203102620079003606:=()
def tw15422962985767536196:=()
def tw704542160581100067:=()
def tw4670558687271079981:=()
def tw2835040875965715994:=()
def tw3000170737465860550:=()
def tw9759902767995033228:=()
def tw5905433882611136813:=()
def tw6770359564070796341:=()
def tw15399389126989744185:=()
def tw15978225689399033311:=()
def tw9122152409815354243:=()
def tw771996068696282921:=()
def tw15752937276799225339:=()
def tw15993115822900753245:=()
def tw11773999055583265761:=()
def tw5524079806532539122:=()
def tw13753109267947486466:=()
def tw12619438335172614880:=()
def tw13393530497464600166:=()
def tw14942186676856523528:=()
def tw8157002799763497284:=()
def tw3217469877542979483:=()
def tw12530802881452640361:=()
def tw678801457399440796:=()
def tw2811590522016055454:=()
def tw5778333317259443958:=()
def tw10728245028679738602:=()
def tw13934856110756977978:=()
def tw15652649927310473999:=()
def tw4828855690329359554:=()
def tw13369309251563652723:=()
def tw14574937910441437502:=()
def tw2483564679020948685:=()
def tw18192208093134656654:=()
def tw9320860542478722691:=()
def tw914633297384971526:=()
def tw8748523925591598751:=()
def tw2932330158170741047:=()
def tw6065386008220521866:=()
def tw15454267705699249809:=()
def tw15743256965328170069:=()
def tw14195889389786014612:=()
def tw10398521319608877655:=()
def tw313492046876675823:=()
def tw2733308878504497989:=()
def tw12464722621608950596:=()
def tw14903247713844929426:=()
def tw4263035850561406965:=()
def tw7895726017342902539:=()
def tw17555597740274337129:=()
def tw11229666271780080296:=()
def tw12069745930381983816:=()
def tw18231907865918322646:=()
def tw11443696556368746816:=()
def tw553940721421994553:=()
def tw5238696701005048741:=()
def tw4423799357560341284:=()
def tw13847130169413131662:=()
def tw15793810346508706204:=()
def tw6933716951571534350:=()
def tw13335658872227938176:=()
def tw5822594467015907177:=()
def tw7413243863359648998:=()
def tw11890508910893370332:=()
def tw17306032092528052621:=()
def tw7341805896106246326:=()
def tw15110715943227000100:=()
def tw9840799419803921895:=()
def tw3163152893788393456:=()
def tw10787376652291297567:=()
def tw8339225963858001003:=()
def tw12551654891704835238:=()
def tw1431313072662139784:=()
def tw16779079495552083170:=()
def tw17458744123189426671:=()
def tw2616518191789012642:=()
def tw4133110553422193919:=()
def tw17586799355939974874:=()
def tw8483015560631713346:=()
def tw3572422564568814176:=()
def tw10191089126062909056:=()
def tw15126525305889315710:=()
def tw2824006403848927864:=()
def tw10554972963595525408:=()
def tw16267194382690405987:=()
def tw11282909976554616887:=()
def tw17619880511358715053:=()
def tw11665728765085234538:=()
def tw7839688789824520171:=()
def tw2399428949567125591:=()
def tw6231491231487687098:=()
def tw8057530644691384027:=()
def tw12969969735050431430:=()
def tw13549133669731699535:=()
def tw12511744673513976114:=()
def tw12063441473283564323:=()
def tw5051012317408998396:=()
def tw15036324610798479067:=()
def tw5501920153677501362:=()
def tw8380314680801936109:=()
def tw10419419610003821143:=()
def tw13958599766634599734:=()
def tw1740750125826353437:=()
def tw17137298144798260706:=()
def tw1081018770248971618:=()
def tw2322885962943155665:=()
def tw8899044968610243233:=()
def tw13998361711144810579:=()
def tw17112010807080502996:=()
def tw17255880058730765420:=()
def tw9899418730982090677:=()
def tw9087386360462472204:=()
def tw17633794571195756721:=()
def tw9336562968987652935:=()
def tw14999444951663611612:=()
def tw15575384962056143928:=()
def tw11061968407321257669:=()
def tw14846676237874458530:=()
def tw7561445782501734761:=()
def tw12050696459738769654:=()
def tw2314495051647314939:=()
def tw14353447669361089938:=()
def tw11879761402799499634:=()
def tw1201778450698066408:=()
def tw14698727955328787549:=()
def tw5352544343465577239:=()
def tw3521218977940342474:=()
def tw16856108010281375732:=()
def tw2073587164980448348:=()
def tw2210629325546796784:=()
def tw393211435510059900:=()
def tw758764353391507704:=()
def tw6645362030859201429:=()
def tw9239731925191272473:=()
def tw5326781565065891843:=()
def tw11717721887633355039:=()
def tw11717263453642292439:=()
def tw14220643205092960650:=()
def tw17387117152518329539:=()
def tw16075183434071809891:=()
def tw10686251759799977478:=()
def tw16978619961173479364:=()
def tw15716708449182990071:=()
def tw2614665976865118115:=()
def tw4387092834926320354:=()
def tw4874662198204363708:=()
def tw6947023562224903230:=()
def tw18323133704580018154:=()
def tw6778323224408348887:=()
def tw36401433470639118:=()
def tw8448625099895420532:=()
def tw7197424125472667284:=()
def tw3195878845724892875:=()
def tw2862809559483708193:=()
def tw9004113950887932489:=()
def tw3321277676925564936:=()
def tw5911197062468881726:=()
def tw15341485606094047755:=()
def tw13497659367380236930:=()
def tw5693872469112461273:=()
def tw13738268375719225822:=()
def tw4129689033619323296:=()
def tw680236302258638710:=()
def tw9856127575629091247:=()
def tw17845702780386008945:=()
def tw8040412748197347073:=()
def tw6355749877807876444:=()
def tw17103553302969147217:=()
def tw6316567528375599511:=()
def tw9384672565125728654:=()
def tw3913646755272160667:=()
def tw14628334894259357082:=()
def tw17007488859849575174:=()
def tw5165688397036393439:=()
def tw18394559024321197869:=()
def tw5801437532648776267:=()
def tw16589185214843112928:=()
def tw17020631070584161863:=()
def tw4146109566733515166:=()
def tw6467029367924172678:=()
def tw9336084011555595245:=()
def tw4476694096228295509:=()
def tw11233728155556600100:=()
def tw12097199440219409771:=()
def tw17621378386334655057:=()
def tw6295814896534051103:=()
def tw12747350958692647317:=()
def tw17510857441127485701:=()
def tw13332654111130817997:=()
def tw8290267565247576499:=()
end PySem.W.Fast
namespace L2
open PySem PySem.Spec PyProof.Rows
abbrev Key:=Sum Int Str
def y6:Key->Value->Bool
 | .inl k,v=>Value.isInt k v
 | .inr x,v=>Value.isStrOf x v
def GF (w:World):Key->Int
 | .inl k=>hashInt k
 | .inr x=>hashStr w x
theorem fY:∀ {k:Key} {v:Value},y6 k v=true->(∃ i t,k=Sum.inl i/\v=Value.int i t)\/(∃ x t,k=Sum.inr x/\v=Value.str x t)
 | .inl i,v,h=>by
   obtain ⟨t,e⟩:=Value.isInt_shape (k:=i) (v:=v) h
   exact .inl ⟨i,t,rfl,e⟩
 | .inr x,v,h=>by
   obtain ⟨t,e⟩:=Value.isStrOf_shape (x:=x) (v:=v) h
   exact .inr ⟨x,t,rfl,e⟩
theorem GE (a b:Int):decide ((Sum.inl a:Key)=Sum.inl b)=(a == b):=by
 by_cases e:a=b
 ·subst e;simp
 ·have h:¬ (Sum.inl a:Key)=Sum.inl b:=fun q=>e (Sum.inl.inj q)
  rw [decide_eq_false h]
  exact (beq_eq_false_iff_ne.mpr e).symm
theorem GA (a b:Str):decide ((Sum.inr a:Key)=Sum.inr b)=decide (a=b):=by
 by_cases e:a=b
 ·subst e;simp
 ·have h:¬ (Sum.inr a:Key)=Sum.inr b:=fun q=>e (Sum.inr.inj q)
  rw [decide_eq_false h,decide_eq_false e]
theorem GD (a:Int) (b:Str):decide ((Sum.inl a:Key)=Sum.inr b)=false:=decide_eq_false (fun q=>nomatch q)
theorem GC (a:Str) (b:Int):decide ((Sum.inr a:Key)=Sum.inl b)=false:=decide_eq_false (fun q=>nomatch q)
def sZ (prog:Program) (w:World):PySem.KeyKind prog w Key where
 is:=y6
 hash:=GF w
 inj:=fun v a b ha hb=>by
  rcases fY ha with ⟨i,t,rfl,rfl⟩ | ⟨x,t,rfl,rfl⟩
  ·rcases fY hb with ⟨j,u,rfl,e⟩ | ⟨y,u,rfl,e⟩
   ·injection e with e1 _;rw [e1]
   ·exact nomatch e
  ·rcases fY hb with ⟨j,u,rfl,e⟩ | ⟨y,u,rfl,e⟩
   ·exact nomatch e
   ·injection e with e1 _;rw [e1]
 byValue:=fun k v h=>by
  rcases fY h with ⟨i,t,rfl,rfl⟩ | ⟨x,t,rfl,rfl⟩<;>rfl
 pyHash:=fun hv h=>by
  rcases fY hv with ⟨i,t,rfl,rfl⟩ | ⟨x,t,rfl,rfl⟩
  ·exact wpAny_pyHash_int h
  ·exact wpAny_pyHash_str h
 eqBool:=fun hu hv h=>by
  rcases fY hu with ⟨i,t,rfl,rfl⟩ | ⟨x,t,rfl,rfl⟩
  ·rcases fY hv with ⟨j,u,rfl,rfl⟩ | ⟨y,u,rfl,rfl⟩
   ·rw [GE] at h;exact wpAny_eqBool_int h
   ·rw [GD] at h;exact SeqAt.EqAt.int_str i t y u _ _ _ _ h
  ·rcases fY hv with ⟨j,u,rfl,rfl⟩ | ⟨y,u,rfl,rfl⟩
   ·rw [GC] at h;exact SeqAt.EqAt.str_int x t j u _ _ _ _ h
   ·rw [GA] at h;exact wpAny_eqBool_str h
 «strs»:=fun k x t v h=>by
  rcases fY h with ⟨i,u,rfl,e⟩ | ⟨y,u,rfl,e⟩
  ·exact nomatch e
  ·injection e with e1 _
   subst e1
   cases v<;>rfl
end L2
namespace L2
open PySem PySem.Spec PyProof.Rows
inductive V where
 | non | bl (b:Bool) | int (i:Int) | str (x:Str) | byt (b:Array UInt8) | flt (b:UInt64) | ref (a:Addr) | ty (n:String)
 deriving DecidableEq
def RelV:V->Value->Prop
 | .non,u=>u=Value.none
 | .bl b,u=>u=Value.bool b
 | .int i,u=>∃ t,u=Value.int i t
 | .str x,u=>∃ t,u=Value.str x t
 | .byt b,u=>∃ t,u=Value.bytes b t
 | .flt b,u=>∃ t,u=Value.float b t
 | .ref a,u=>u=Value.ref a
 | .ty n,u=>u=Value.type n
abbrev Vals:List V->List Value->Prop:=Paired RelV
theorem Vals.length {xs:List V} {us:List Value} (r:Vals xs us):xs.length=us.length:=Paired.length r
theorem Vals.get:∀ {xs:List V} {us:List Value} {i:Nat} {x:V},Vals xs us->xs[i]?=some x->∃ u,us[i]?=some u/\RelV x u
 | _,_,_,_,.nil,e=>by simp at e
 | _,_,0,_,.cons r _,e=>by simp at e;subst e;exact ⟨_,rfl,r⟩
 | _,_,i+1,x,.cons _ t,e=>by
   obtain ⟨u,h1,h2⟩:=Vals.get (i:=i) (x:=x) t (by simpa using e)
   exact ⟨u,by simpa using h1,h2⟩
theorem Vals.set {x:V} {u:Value} (r:RelV x u):∀ {xs:List V} {us:List Value} (i:Nat),Vals xs us->Vals (xs.set i x) (us.set i u)
 | _,_,_,.nil=>.nil
 | _,_,0,.cons _ t=>.cons r t
 | _,_,i+1,.cons q t=>.cons q (Vals.set r i t)
theorem Vals.append:∀ {xs ys:List V} {us ws:List Value},Vals xs us->Vals ys ws->Vals (xs++ys) (us++ws)
 | _,_,_,_,.nil,s=>s
 | _,_,_,_,.cons r t,s=>.cons r (Vals.append t s)
theorem Vals.take:∀ {xs:List V} {us:List Value} (n:Nat),Vals xs us->Vals (xs.take n) (us.take n)
 | _,_,0,_=>.nil
 | _,_,_+1,.nil=>.nil
 | _,_,n+1,.cons r t=>.cons r (Vals.take n t)
theorem Vals.drop:∀ {xs:List V} {us:List Value} (n:Nat),Vals xs us->Vals (xs.drop n) (us.drop n)
 | _,_,0,r=>r
 | _,_,_+1,.nil=>.nil
 | _,_,n+1,.cons _ t=>Vals.drop n t
theorem Vals.none_of:∀ {xs:List V} {us:List Value} {i:Nat},Vals xs us->xs[i]?=none->us[i]?=none:=fun {xs us i} r e=>by
 have h1:=r.length
 have h2:xs.length<=i:=List.getElem?_eq_none_iff.mp e
 exact List.getElem?_eq_none_iff.mpr (by omega)
def RelO:Option V->Option Value->Prop
 | some v,some u=>RelV v u
 | none,none=>True
 | _,_=>False
def KV {κ:Type}:List (κ×V)->List (κ×Value)->Prop:=Paired fun (p:κ×V) (q:κ×Value)=>p.1=q.1/\RelV p.2 q.2
def kV:Key->V
 | .inl i=>.int i
 | .inr x=>.str x
inductive HO where
 | lst (xs:List V)
 | tup (xs:List V)
 | dK (kvs:List (Key×V)) | dT (kvs:List (List Key×V))
 | set (S:Int->Bool) (n:Nat)
 | ins (C dx:Addr) (fs:List (Str×V))
 | own (x:Addr)
 | xd (fs:List (Str×V))
 | met (f x:Addr)
 | rng (lo hi:Int)
 | frz (o:Obj) (u:HO)
 | tbl (ps:Array Value)
 | ext (φ:Heap->Prop)
abbrev Hp:=Addr->Option HO
def upd (H:Hp) (a:Addr) (o:HO):Hp:=fun b=>if b=a then some o else H b
theorem av {H:Hp} {a:Addr} {o:HO}:upd H a o a=some o:=by unfold upd;rw [if_pos rfl]
theorem upd_ne {H:Hp} {a b:Addr} {o:HO} (h:b≠a):upd H a o b=H b:=by unfold upd;rw [if_neg h]
theorem ow {H:Hp} {a:Addr} {o u:HO}:upd (upd H a o) a u=upd H a u:=by
 funext b;unfold upd;split<;>rfl
theorem aZ {H:Hp} {a b:Addr} {o:HO} (h:H a=some o) (h':H b=none):a≠b:=by
 intro e;subst e;rw [h] at h';cases h'
section
variable (P:Program) (w:World)
def ObjOk (H:Hp) (h:Heap) (a:Addr):HO->Prop
 | .lst xs=>xs.length<=sizeLine/\∃ (its:List Value) (n:Nat),Vals xs its/\h.get? a=some { cls:=.type "list",data:=.seq its.toArray n }
 | .tup xs=>xs.length<=sizeLine/\∃ its:List Value,Vals xs its/\IsTup h a its.toArray
 | .dK kvs=>kvs.length<=sizeLine/\(a == sysModules)=false/\∃ vs,KV kvs vs/\h.DictOf (sZ P w) a vs
 | .dT kvs=>kvs.length<=sizeLine/\(a == sysModules)=false/\∃ xs:List (List Key×Addr×Value),
  Paired (fun (p:List Key×V) (q:List Key×Addr×Value)=>p.1=q.1/\H q.2.1=some (.tup (p.1.map kV))/\RelV p.2 q.2.2) kvs xs /\
  ∃ o es ep,h.get? a=some o/\o.ExactDict/\o.data=.dict es ep/\es.toList=xs.map (entryOfKey (tupleKind (sZ P w)))/\(xs.map (·.1)).Nodup
 | .set S n=>h.SetOf (intKind P w) a S n
 | .ins C dx fs=>H dx=some (.own a)/\fs.length<=1000/\dx≠a/\h.get? a=some (PySem.W.instObj C dx) /\
  ∃ mA,h.Ns1 dx mA/\(∀ f,RelO (fs.lookup f) (mA f))/\PySem.Within mA (fs.map (·.1))
 | .own _=>∃ o,h.get? a=some o
 | .xd fs=>∃ mA,h.Ns1 a mA/\∀ f,RelO (fs.lookup f) (mA f)
 | .rng lo hi=>∃ t u v,h.get? a=some { cls:=.type "range",data:=.fields #[.int lo t,.int hi u,.int 1 v] }
 | .frz o u=>h.get? a=some o/\ObjOk H h a u
 | .tbl ps=>h.get? a=some { cls:=.none,data:=.fields ps }
 | .met f x=>h.get? a=some (PySem.W.methodObj (.ref f) (.ref x))
 | .ext φ=>φ h/\(∃ o,h.get? a=some o)/\∀ h1 h2:Heap,φ h1->(∀ o,h1.get? a=some o->h2.get? a=some o)->φ h2
def HOk (H:Hp) (h:Heap):Prop:=∀ a o,H a=some o->ObjOk P w H h a o
end
section
variable {P:Program} {w:World} {H H':Hp} {h h':Heap} {a:Addr} {o:HO}
theorem ObjOk.lt (x:ObjOk P w H h a o):a<h.objs.size:=by
 cases o with
 | lst xs=>obtain ⟨_,_,_,_,e⟩:=x;exact Heap.lt_size e
 | tup xs=>obtain ⟨_,_,_,p⟩:=x;exact p.lt
 | dK kvs=>obtain ⟨_,_,_,_,o,_,_,e,_⟩:=x;exact Heap.lt_size e
 | dT kvs=>obtain ⟨_,_,_,_,o,_,_,e,_⟩:=x;exact Heap.lt_size e
 | set S n=>obtain ⟨o,_,_,_,e,_⟩:=x;exact Heap.lt_size e
 | ins C dx fs=>obtain ⟨_,_,_,e,_⟩:=x;exact Heap.lt_size e
 | own y=>obtain ⟨_,e⟩:=x;exact Heap.lt_size e
 | xd fs=>obtain ⟨_,⟨_,_,_,e,_⟩,_⟩:=x;exact Heap.lt_size e
 | rng lo hi=>obtain ⟨_,_,_,e⟩:=x;exact Heap.lt_size e
 | frz ob u=>obtain ⟨e,_⟩:=x;exact Heap.lt_size e
 | tbl ps=>exact Heap.lt_size (show h.get? a=some _ from x)
 | met f y=>exact Heap.lt_size (show h.get? a=some _ from x)
 | ext φ=>obtain ⟨_,⟨_,e⟩,_⟩:=x;exact Heap.lt_size e
theorem Paired.mapP {α β:Type} {F G:α->β->Prop}:∀ {l₁:List α} {l₂:List β},Paired F l₁ l₂->(∀ a b,F a b->G a b)->Paired G l₁ l₂
 | _,_,.nil,_=>.nil
 | _,_,.cons r t,f=>.cons (f _ _ r) (Paired.mapP t f)
theorem ObjOk.stay (x:ObjOk P w H h a o) (k:∀ b u,(b=a\/H b=some (.own a))->h.get? b=some u->h'.get? b=some u)
 (ho:∀ b,H b=some (.own a)->H' b=some (.own a)) (ht:∀ b xs,H b=some (.tup xs)->H' b=some (.tup xs)):ObjOk P w H' h' a o:=by
 induction o with
 | lst xs=>obtain ⟨z,its,n,r,e⟩:=x;exact ⟨z,its,n,r,k _ _ (.inl rfl) e⟩
 | tup xs=>obtain ⟨z,its,r,ob,e,c⟩:=x;exact ⟨z,its,r,ob,k _ _ (.inl rfl) e,c⟩
 | dK kvs=>obtain ⟨z,y,vs,r,ob,es,ep,e,c⟩:=x;exact ⟨z,y,vs,r,ob,es,ep,k _ _ (.inl rfl) e,c⟩
 | dT kvs =>
   obtain ⟨z,y,xs,r,ob,es,ep,e,c⟩:=x
   exact ⟨z,y,xs,Paired.mapP r fun p q z=>⟨z.1,ht _ _ z.2.1,z.2.2⟩,ob,es,ep,k _ _ (.inl rfl) e,c⟩
 | set S n=>obtain ⟨ob,es,ep,t,e,c⟩:=x;exact ⟨ob,es,ep,t,k _ _ (.inl rfl) e,c⟩
 | ins C dx fs =>
   obtain ⟨d,z,ne,e,mA,⟨od,es,ep,e2,c⟩,r⟩:=x
   exact ⟨ho _ d,z,ne,k _ _ (.inl rfl) e,mA,⟨od,es,ep,k _ _ (.inr d) e2,c⟩,r⟩
 | own y=>obtain ⟨ob,e⟩:=x;exact ⟨ob,k _ _ (.inl rfl) e⟩
 | xd fs=>obtain ⟨mA,⟨od,es,ep,e,c⟩,r⟩:=x;exact ⟨mA,⟨od,es,ep,k _ _ (.inl rfl) e,c⟩,r⟩
 | rng lo hi=>obtain ⟨t,u,v,e⟩:=x;exact ⟨t,u,v,k _ _ (.inl rfl) e⟩
 | frz ob u ih=>obtain ⟨e,q⟩:=x;exact ⟨k _ _ (.inl rfl) e,ih q⟩
 | tbl ps =>
   have e:h.get? a=some { cls:=.none,data:=.fields ps }:=x
   show h'.get? a=some { cls:=.none,data:=.fields ps }
   exact k a _ (.inl rfl) e
 | met f y =>
   have e:h.get? a=some (PySem.W.methodObj (.ref f) (.ref y)):=x
   show h'.get? a=some (PySem.W.methodObj (.ref f) (.ref y))
   exact k a _ (.inl rfl) e
 | ext φ=>obtain ⟨p,⟨o,e⟩,st⟩:=x;exact ⟨st _ _ p fun o q=>k _ _ (.inl rfl) q,⟨o,k _ _ (.inl rfl) e⟩,st⟩
theorem HOk.lt (x:HOk P w H h) (e:H a=some o):a<h.objs.size:=(x a o e).lt
theorem HOk.fresh (x:HOk P w H h) (e:h.objs.size<=a):H a=none:=by
 cases q:H a with
 | none=>rfl
 | some u=>exact absurd (Nat.lt_of_lt_of_le (x.lt q) e) (Nat.lt_irrefl _)
theorem HOk.kept (x:HOk P w H h) (k:∀ b u,h.get? b=some u->h'.get? b=some u):HOk P w H h':=fun a o e =>
 (x a o e).stay (fun b u _ q=>k b u q) (fun _ q=>q) fun _ _ q=>q
theorem HOk.laid (x:HOk P w H h) (k:∀ b u,h.get? b=some u->h'.get? b=some u) (hp:h.objs.size<=a) (new:ObjOk P w (upd H a o) h' a o):HOk P w (upd H a o) h':=fun b u e=>by
 have hn:=x.fresh hp
 by_cases hb:b=a
 ·subst hb;rw [av] at e;cases e;exact new
 ·rw [upd_ne hb] at e
  exact (x b u e).stay (fun c v _ q=>k c v q) (fun c q=>by rw [upd_ne (aZ q hn)];exact q) fun c xs q=>by rw [upd_ne (aZ q hn)];exact q
end
def Rd (H:Hp) (a:Addr) (u:HO):Prop:=H a=some u\/∃ o,H a=some (.frz o u)
theorem Rd.of {H:Hp} {a:Addr} {u:HO} (h:H a=some u):Rd H a u:=.inl h
theorem Rd.ok {P:Program} {w:World} {H:Hp} {h:Heap} {a:Addr} {u:HO} (r:Rd H a u) (x:HOk P w H h):ObjOk P w H h a u:=by
 rcases r with r | ⟨o,r⟩
 ·exact x a u r
 ·obtain ⟨_,q⟩:=x a _ r
  exact q
def Mut:Option HO->Prop
 | some (.lst _)=>True
 | some (.dK _)=>True
 | some (.dT _)=>True
 | some (.set _ _)=>True
 | some (.ins _ _ _)=>True
 | some (.ext _)=>True
 | _=>False
section
variable {P:Program} {w:World} {H:Hp} {h h':Heap} {x e:Addr} {o':HO}
theorem HOk.write (ok:HOk P w H h) (mu:Mut (H x)) (he:e=x\/H e=some (.own x)) (k:∀ b u,b≠e->h.get? b=some u->h'.get? b=some u) (heo:∃ u,h'.get? e=some u)
 (new:ObjOk P w (upd H x o') h' x o'):HOk P w (upd H x o') h':=fun b u q=>by
 have nown:∀ c y,H c=some (.own y)->c≠x:=fun c y r z=>by subst z;rw [r] at mu;exact mu
 have ntup:∀ c xs,H c=some (.tup xs)->c≠x:=fun c xs r z=>by subst z;rw [r] at mu;exact mu
 by_cases hb:b=x
 ·subst hb;rw [av] at q;cases q;exact new
 ·rw [upd_ne hb] at q
  by_cases hbe:b=e
  ·have q':H b=some (.own x):=by
    rcases he with z | z
    ·exact absurd (hbe.trans z) hb
    ·rw [hbe];exact z
   rw [q] at q';cases q'
   obtain ⟨v,hv⟩:=heo
   exact ⟨v,by rw [hbe];exact hv⟩
  ·refine (ok b u q).stay (fun c v hc r=>k c v ?_ r) (fun c r=>by rw [upd_ne (nown c b r)];exact r) fun c xs r=>by rw [upd_ne (ntup c xs r)];exact r
   rcases hc with rfl | hc
   ·exact hbe
   ·rintro rfl
    rcases he with z | z
    ·exact nown c b hc z
    ·rw [hc] at z;cases z;exact hb rfl
end
structure Un (fs ex:List Addr) (H H':Hp) (h h':Heap):Prop where
 keep:∀ b o,h.get? b=some o->H b=none->b∉fs->b∉ex->h'.get? b=some o
 slot:∀ b o,h.get? b=some o->H b=none->b∈fs->b∉ex->∃ sl,h'.get? b=some { o with slots:=sl }
 free:∀ b o,h.get? b=some o->H b=none->b∉ex->H' b=none
 there:∀ b o,h.get? b=some o->b∉ex->∃ o',h'.get? b=some o'
 tups:∀ b xs,H b=some (.tup xs)->H' b=some (.tup xs)
 frzs:∀ b o u,H b=some (.frz o u)->H' b=some (.frz o u)
 tbls:∀ b ps,H b=some (.tbl ps)->∃ more,H' b=some (.tbl (ps++more))
section
variable {fs fs' ex ex':List Addr} {H H1 H2:Hp} {h h1 h2 h':Heap} {a x e:Addr} {o:HO}
theorem Un.any (u:Un fs ex H H1 h h1) {b:Addr} {ob:Obj} (q:h.get? b=some ob) (n:H b=none) (hx:b∉ex):∃ sl,h1.get? b=some { ob with slots:=sl }:=by
 by_cases hb:b∈fs
 ·exact u.slot b ob q n hb hx
 ·exact ⟨ob.slots,u.keep b ob q n hb hx⟩
theorem Un.trans (a:Un fs ex H H1 h h1) (b:Un fs ex H1 H2 h1 h2):Un fs ex H H2 h h2 where
 keep:=fun c ob q n hc hx=>b.keep c ob (a.keep c ob q n hc hx) (a.free c ob q n hx) hc hx
 slot:=fun c ob q n hc hx=>by
  obtain ⟨sl,e1⟩:=a.slot c ob q n hc hx
  obtain ⟨sl',e2⟩:=b.slot c _ e1 (a.free c ob q n hx) hc hx
  exact ⟨sl',e2⟩
 free:=fun c ob q n hx=>by
  obtain ⟨o',e1⟩:=a.there c ob q hx
  exact b.free c o' e1 (a.free c ob q n hx) hx
 there:=fun c ob q hx=>by
  obtain ⟨o',e1⟩:=a.there c ob q hx
  exact b.there c o' e1 hx
 tups:=fun c xs q=>b.tups c xs (a.tups c xs q)
 frzs:=fun c ob xs q=>b.frzs c ob xs (a.frzs c ob xs q)
 tbls:=fun c ps q=>by
  obtain ⟨m1,e1⟩:=a.tbls c ps q
  obtain ⟨m2,e2⟩:=b.tbls c _ e1
  exact ⟨m1++m2,by rw [e2,Array.append_assoc]⟩
theorem Un.kept (k:∀ b u,h.get? b=some u->h'.get? b=some u):Un fs ex H H h h' :=
 ⟨fun b ob q _ _ _=>k b ob q,fun b ob q _ _ _=>⟨ob.slots,k b ob q⟩,fun _ _ _ n _=>n,fun b ob q _=>⟨ob,k b ob q⟩,fun _ _ q=>q,fun _ _ _ q=>q,fun _ ps q=>⟨#[],by rw [q];simp⟩⟩
theorem Un.refl:Un fs ex H H h h:=Un.kept fun _ _ q=>q
theorem Un.laid (k:∀ b u,h.get? b=some u->h'.get? b=some u) (hp:h.objs.size<=a) (hn:H a=none):Un fs ex H (upd H a o) h h' where
 keep:=fun b u q _ _ _=>k b u q
 slot:=fun b u q _ _ _=>⟨u.slots,k b u q⟩
 free:=fun b u q n _=>by rw [upd_ne (Nat.ne_of_lt (Nat.lt_of_lt_of_le (Heap.lt_size q) hp))];exact n
 there:=fun b u q _=>⟨u,k b u q⟩
 tups:=fun b xs q=>by rw [upd_ne (aZ q hn)];exact q
 frzs:=fun b u xs q=>by rw [upd_ne (aZ q hn)];exact q
 tbls:=fun b ps q=>⟨#[],by rw [upd_ne (aZ q hn),q];simp⟩
theorem Un.write (mu:Mut (H x)) (he:e=x\/H e=some (.own x)) (k:∀ b u,b≠e->h.get? b=some u->h'.get? b=some u) (heo:∃ u,h'.get? e=some u):Un fs ex H (upd H x o) h h':=by
 have hx:∀ b,H b=none->b≠x:=fun b n z=>by subst z;rw [n] at mu;exact mu
 have hb:∀ b,H b=none->b≠e:=fun b n z=>by
  subst z
  rcases he with r | r
  ·exact hx b n r
  ·rw [n] at r;cases r
 have hm:∀ b u,H b=some u->¬ Mut (some u)->b≠x:=fun b u q nm z=>by subst z;rw [q] at mu;exact nm mu
 refine ⟨fun b u q n _ _=>k b u (hb b n) q,fun b u q n _ _=>⟨u.slots,k b u (hb b n) q⟩,fun b u q n _=>by rw [upd_ne (hx b n)];exact n,fun b u q _=>?_,
  fun b xs q=>by rw [upd_ne (hm b _ q fun z=>z)];exact q,fun b u xs q=>by rw [upd_ne (hm b _ q fun z=>z)];exact q,fun b ps q=>⟨#[],by rw [upd_ne (hm b _ q fun z=>z),q];simp⟩⟩
 by_cases hbe:b=e
 ·subst hbe;exact heo
 ·exact ⟨u,k b u hbe q⟩
theorem Un.mono (u:Un fs ex H H1 h h1) (hs:∀ b∈fs,b∈fs') (hx:∀ b∈ex,b∈ex'):Un fs' ex' H H1 h h1 :=
 ⟨fun b ob q n hb he=>u.keep b ob q n (fun z=>hb (hs b z)) fun z=>he (hx b z),fun _ _ q n _ he=>u.any q n fun z=>he (hx _ z),fun b ob q n he=>u.free b ob q n fun z=>he (hx b z),fun b ob q he=>u.there b ob q fun z=>he (hx b z),u.tups,u.frzs,u.tbls⟩
end
def trk (h:Heap) (H:Hp):List Addr:=(List.range h.objs.size).filter fun a=>(H a).isSome
def fm (h:Heap) (H:Hp):Heap:=PySem.W.hideAll h (trk h H)
theorem Hs (h:Heap) (H:Hp):(fm h H).objs.size=h.objs.size:=PySem.W.hideAll_size _ _
theorem Ht {h:Heap} {H:Hp} {b:Addr} {o:Obj} (e:h.get? b=some o) (n:H b=none):(fm h H).get? b=some o :=
 PySem.W.hideAll_get _ e fun hm=>by
  have q:(H b).isSome=true:=(List.mem_filter.mp hm).2
  rw [n] at q;simp at q
theorem Fe {h:Heap} {H:Hp} {b:Addr} {o:Obj} (e:(fm h H).get? b=some o):h.get? b=some o/\H b=none:=by
 have e':h.get? b=some o:=PySem.W.of_hideAll (trk h H) e
 refine ⟨e',?_⟩
 cases q:H b with
 | none=>rfl
 | some x =>
   have hm:b∈trk h H:=List.mem_filter.mpr ⟨List.mem_range.mpr (Heap.lt_size e'),by simp [q]⟩
   have z:(fm h H).get? b=none:=PySem.W.hideAll_none (trk h H) hm
   rw [z] at e;cases e
def KG (g h:Heap) (L:Addr):List (Addr×Obj):=(List.range h.objs.size).filterMap fun a=>if a=L\/(g.get? a).isSome=true then none else (h.get? a).map fun o=>(a,o)
def rest (g h:Heap) (L d:Addr):List (Addr×Obj):=(KG g h L).filter fun p=>decide (p.1≠d)
end L2
namespace L2
open PySem PySem.Spec PyProof.Rows
structure Mod (K:PySem.W.Frag) (mg:Str->Option Value) (base:Heap):Prop where
 kin:K.In base
 glob:base.Ns mainGlobals mg
 blt:∃ mb,base.Ns builtinsNs mb/\∀ x:Str,x≠"__name__"->mb x=bootBuiltins x
 nolimit:base.NoLimit
structure Cx where
 prog:Program
 w:World
 K:PySem.W.Frag
 mg:Str->Option Value
 base:Heap
 A:Around
 N:List Str
 s₀:Shared
 H₀:Hp
 env:Env
 outer:List Env
 stack:List Env
 ex:List Addr
 fn:Str->Bool
 calm:Bool
 pn:List (Addr×Obj)
 xe:Value->Shared->Prop
def frs (l:List Env):List Addr:=l.filterMap (·.frame)
abbrev Cx.fs (X:Cx):List Addr:=frs X.outer
def Vis (sc:Scope) (x:Str):Prop:=sc.names.lookup x=some .local\/sc.names.lookup x=some .cell\/sc.names.lookup x=some .free
def Loc (sc:Scope) (x:Str):Prop:=sc.names.lookup x=some .local\/sc.names.lookup x=some .cell
def KM (env:Env) (h:Heap) (m:Str->Option Value) (x:Str) (u:Value):Prop :=
 (env.kindOf x=some .local/\m x=some u)\/((env.kindOf x=some .cell\/env.kindOf x=some .free)/\∃ c,env.cells.lookup x=some c/\h.IsCell c (some u))
structure Cx.Ok (X:Cx):Prop where
 mod:Mod X.K X.mg X.base
 kind:X.env.scope.kind=.function
 glob:X.env.globals=mainGlobals
 blt:X.env.builtins=builtinsNs
 above:X.s₀.heap.objs.size<=X.env.locals
 inj:∀ x y c,X.env.cells.lookup x=some c->X.env.cells.lookup y=some c->x=y
 has:∀ x,(X.env.kindOf x=some .cell\/X.env.kindOf x=some .free)->∃ c,X.env.cells.lookup x=some c
 cab:∀ x c,X.fn x=true->X.env.cells.lookup x=some c->X.s₀.heap.objs.size<=c
 hd:X.calm=true->X.A.handled=none
 frames:X.A.frames=some X.stack
 stk:X.stack=X.outer\/(X.stack=X.env::X.outer/\X.env.frame=some X.env.locals)
 exf:∀ b∈X.ex,b≠X.env.locals/\∀ x c,X.env.cells.lookup x=some c->c≠b
 bs:∀ b o,X.base.get? b=some o->X.s₀.heap.get? b=some o/\X.H₀ b=none
 bsz:X.base.objs.size<=X.s₀.heap.objs.size
 noex:∀ b o,X.base.get? b=some o->b∉X.ex
 exfs:∀ b∈X.ex,b∉X.fs
 funs:X.s₀.heap.FunFrames X.base X.outer
 frf:∀ b∈X.fs,X.H₀ b=none
structure Inv (X:Cx) (pins:List (Addr×Obj)) (σ:List (Option V)) (H:Hp) (s:Shared):Prop where
 ok:X.Ok
 os:s.os=X.s₀.os
 bare:AllBare s.gens
 base:Un X.fs X.ex X.H₀ H X.s₀.heap s.heap
 loc:∃ m,s.heap.Ns X.env.locals m/\∀ (i:Nat) (x:Str) (v:V),X.N[i]?=some x->σ[i]?=some (some v)->Vis X.env.scope x->∃ u,RelV v u/\KM X.env s.heap m x u
 cell:∀ x c,X.env.cells.lookup x=some c->∃ v,s.heap.IsCell c v
 free:H X.env.locals=none
 freeC:∀ x c,X.env.cells.lookup x=some c->H c=none
 pin:∀ p∈X.pn++pins,s.heap.get? p.1=some p.2/\H p.1=none/\p.1≠X.env.locals/\p.1∉X.fs/\∀ v,p.2.data≠.cell v
 hok:HOk X.prog X.w H s.heap
 len:σ.length=X.N.length
section
variable {X:Cx} {pins:List (Addr×Obj)} {σ:List (Option V)} {H H':Hp} {s:Shared} {h':Heap}
theorem Cx.Ok.nofr (ok:X.Ok) {b:Addr} {o:Obj} (e:X.base.get? b=some o):b∉X.fs:=fun hb=>by
 have:=(ok.funs.mem hb).1
 rw [e] at this;cases this
theorem Inv.bs (I:Inv X pins σ H s):∀ b o,X.base.get? b=some o->s.heap.get? b=some o/\H b=none:=fun b o e =>
 ⟨I.base.keep b o (I.ok.bs b o e).1 (I.ok.bs b o e).2 (I.ok.nofr e) (I.ok.noex b o e),I.base.free b o (I.ok.bs b o e).1 (I.ok.bs b o e).2 (I.ok.noex b o e)⟩
theorem Inv.bk (I:Inv X pins σ H s):∀ b o,X.base.get? b=some o->s.heap.get? b=some o:=fun b o e=>(I.bs b o e).1
theorem Inv.mod (I:Inv X pins σ H s):Mod X.K X.mg X.base:=I.ok.mod
theorem Inv.kIn (I:Inv X pins σ H s):X.K.In s.heap:=I.ok.mod.kin.keeps I.bk
theorem Inv.nolimit (I:Inv X pins σ H s):s.heap.NoLimit:=I.ok.mod.nolimit.keeps I.bk
theorem Inv.fr (I:Inv X pins σ H s):∃ m,Fr X.base X.env.locals s.heap m :=
 let ⟨m,hn,_⟩:=I.loc
 ⟨m,hn,I.bk,Nat.le_trans I.ok.bsz I.ok.above⟩
theorem Inv.lt (I:Inv X pins σ H s):X.env.locals<s.heap.objs.size:=let ⟨_,hn,_⟩:=I.loc;hn.lt
theorem Inv.sz (I:Inv X pins σ H s):X.s₀.heap.objs.size<=s.heap.objs.size:=Nat.le_trans I.ok.above (Nat.le_of_lt I.lt)
theorem Inv.nofs (I:Inv X pins σ H s) {a:Addr} (h:s.heap.objs.size<=a):a∉X.fs:=fun hb=>by
 obtain ⟨_,o,ho,_⟩:=I.ok.funs.mem hb
 exact absurd (Nat.lt_of_lt_of_le (Heap.lt_size ho) (Nat.le_trans I.sz h)) (Nat.lt_irrefl _)
theorem Inv.cne (I:Inv X pins σ H s):∀ x c,X.env.cells.lookup x=some c->c≠X.env.locals:=fun x c e z=>by
 obtain ⟨v,o,ho,hd⟩:=I.cell x c e
 obtain ⟨m,⟨o',es,ep,ho',hd',_⟩,_⟩:=I.loc
 rw [z,ho'] at ho;cases ho;rw [hd'] at hd;cases hd
theorem Inv.funs (I:Inv X pins σ H s):s.heap.FunFrames X.base X.outer:=by
 have all:∀ (l:List Env),(∀ b∈frs l,b∈X.fs)->X.s₀.heap.FunFrames X.base l->s.heap.FunFrames X.base l:=by
  intro l
  induction l with
  | nil=>intro _ _;trivial
  | cons env r ih =>
    intro hs hl
    obtain ⟨hk,⟨L,o,hf,hn,ho,hd⟩,hr⟩:=hl
    have hL:L∈X.fs:=hs L (by unfold frs;rw [List.filterMap_cons,hf];exact List.mem_cons_self)
    obtain ⟨sl,e⟩:=I.base.slot L o ho (I.ok.frf L hL) hL fun z=>I.ok.exfs L z hL
    exact ⟨hk,⟨L,_,hf,hn,e,hd⟩,ih (fun b hb=>hs b (by unfold frs;rw [List.filterMap_cons,hf];exact List.mem_cons_of_mem _ hb)) hr⟩
 exact all X.outer (fun _ hb=>hb) I.ok.funs
theorem Inv.stack (I:Inv X pins σ H s):s.heap.FunFrames X.base X.stack:=by
 rcases I.ok.stk with e | ⟨e,hf⟩
 ·rw [e];exact I.funs
 ·rw [e]
  obtain ⟨m,hn,_⟩:=I.loc
  refine .cons (by rw [I.ok.kind];decide) hf hn ?_ I.funs
  exact Heap.get?_none_of_le (Nat.le_trans I.ok.bsz I.ok.above)
theorem Inv.stkSub (I:Inv X pins σ H s):∀ b∈frs X.stack,b∈X.env.locals::X.fs:=fun b hb=>by
 rcases I.ok.stk with e | ⟨e,hf⟩
 ·rw [e] at hb;exact List.mem_cons_of_mem _ hb
 ·rw [e] at hb
  unfold frs at hb
  rw [List.filterMap_cons,hf] at hb
  exact hb
theorem Inv.stkFree (I:Inv X pins σ H s):∀ b∈frs X.stack,H b=none:=fun b hb=>by
 rcases List.mem_cons.mp (I.stkSub b hb) with e | hb
 ·rw [e];exact I.free
 ·obtain ⟨_,o,ho,_⟩:=I.ok.funs.mem hb
  exact I.base.free b o ho (I.ok.frf b hb) fun z=>I.ok.exfs b z hb
theorem Inv.step {g':Array GenState} {t':Nat} {d':Drawn} {ch:List Addr} (I:Inv X pins σ H s)
 (hch:∀ b∈ch,(b∈X.ex\/X.s₀.heap.objs.size<=b)/\b≠X.env.locals/\(∀ x c,X.env.cells.lookup x=some c->c≠b)/\∀ p∈X.pn++pins,p.1≠b)
 (keep:∀ b o,b≠X.env.locals->b∉X.fs->b∉ch->s.heap.get? b=some o->H b=none->h'.get? b=some o)
 (slot:∀ b o,b≠X.env.locals->b∈X.fs->b∉ch->s.heap.get? b=some o->H b=none->∃ sl,h'.get? b=some { o with slots:=sl }) (free:∀ b o,b∉ch->s.heap.get? b=some o->H b=none->H' b=none)
 (there:∀ b o,b∉ch->s.heap.get? b=some o->∃ o',h'.get? b=some o')
 (tups:∀ b xs,H b=some (.tup xs)->H' b=some (.tup xs)) (frzs:∀ b o u,H b=some (.frz o u)->H' b=some (.frz o u)) (tbls:∀ b ps,H b=some (.tbl ps)->∃ more,H' b=some (.tbl (ps++more)))
 (ns:∀ m,s.heap.Ns X.env.locals m->h'.Ns X.env.locals m) (hok:HOk X.prog X.w H' h') (hg:AllBare g') :
 Inv X pins σ H' { s with heap:=h',gens:=g',drawn:=d',toks:=t' }:=by
 have neL:∀ b o,X.s₀.heap.get? b=some o->b≠X.env.locals:=fun b o e=>Nat.ne_of_lt (Nat.lt_of_lt_of_le (Heap.lt_size e) I.ok.above)
 have neC:∀ b o,X.s₀.heap.get? b=some o->b∉X.ex->b∉ch:=fun b o e hx hb=>by
  rcases (hch b hb).1 with z | z
  ·exact hx z
  ·exact absurd (Nat.lt_of_lt_of_le (Heap.lt_size e) z) (Nat.lt_irrefl _)
 have cellK:∀ x c,X.env.cells.lookup x=some c->∀ v,s.heap.IsCell c v->h'.IsCell c v:=fun x c e v ⟨o,ho,hd⟩=>by
  have nch:c∉ch:=fun z=>(hch c z).2.2.1 x c e rfl
  by_cases hc:c∈X.fs
  ·obtain ⟨sl,q⟩:=slot c o (I.cne x c e) hc nch ho (I.freeC x c e)
   exact ⟨_,q,hd⟩
  ·exact ⟨o,keep c o (I.cne x c e) hc nch ho (I.freeC x c e),hd⟩
 refine ⟨I.ok,I.os,hg,⟨fun b o e n hb hx=>?_,fun b o e n hb hx=>?_,fun b o e n hx=>?_,fun b o e hx=>?_,fun b xs e=>tups b xs (I.base.tups b xs e),fun b o xs e=>frzs b o xs (I.base.frzs b o xs e),fun b ps e=>?_⟩,?_,fun x c e=>?_,?_,fun x c e=>?_,fun p hp=>?_,hok,I.len⟩
 ·exact keep b o (neL b o e) hb (neC b o e hx) (I.base.keep b o e n hb hx) (I.base.free b o e n hx)
 ·obtain ⟨sl,e1⟩:=I.base.slot b o e n hb hx
  obtain ⟨sl',e2⟩:=slot b _ (neL b o e) hb (neC b o e hx) e1 (I.base.free b o e n hx)
  exact ⟨sl',e2⟩
 ·obtain ⟨o',e1⟩:=I.base.there b o e hx
  exact free b o' (neC b o e hx) e1 (I.base.free b o e n hx)
 ·obtain ⟨o',e1⟩:=I.base.there b o e hx
  exact there b o' (neC b o e hx) e1
 ·obtain ⟨m1,e1⟩:=I.base.tbls b ps e
  obtain ⟨m2,e2⟩:=tbls b _ e1
  exact ⟨m1++m2,by rw [e2,Array.append_assoc]⟩
 ·obtain ⟨m,hn,hl⟩:=I.loc
  refine ⟨m,ns m hn,fun i x v e1 e2 e3=>?_⟩
  obtain ⟨u,r,l⟩:=hl i x v e1 e2 e3
  refine ⟨u,r,?_⟩
  rcases l with l | ⟨k,c,e,z⟩
  ·exact .inl l
  ·exact .inr ⟨k,c,e,cellK x c e _ z⟩
 ·obtain ⟨v,z⟩:=I.cell x c e
  exact ⟨v,cellK x c e v z⟩
 ·obtain ⟨m,⟨o,_,_,ho,_⟩,_⟩:=I.loc
  exact free _ o (fun z=>(hch _ z).2.1 rfl) ho I.free
 ·obtain ⟨v,o,ho,hd⟩:=I.cell x c e
  exact free c o (fun z=>(hch c z).2.2.1 x c e rfl) ho (I.freeC x c e)
 ·obtain ⟨e,n,ne,nf,d⟩:=I.pin p hp
  have nch:p.1∉ch:=fun z=>(hch p.1 z).2.2.2 p hp rfl
  exact ⟨keep p.1 p.2 ne nf nch e n,free p.1 p.2 nch e n,ne,nf,d⟩
theorem Inv.un {t':Nat} (I:Inv X pins σ H s) (u:Un X.fs [] H H' s.heap h') (hok:HOk X.prog X.w H' h'):Inv X pins σ H' { s with heap:=h',toks:=t' }:=by
 obtain ⟨m,⟨o,es,ep,ho,r⟩,_⟩:=id I.loc
 obtain ⟨sl,hL⟩:=u.any ho I.free (by simp)
 exact I.step (g':=s.gens) (d':=s.drawn) (ch:=[]) (fun _ z=>nomatch z) (fun b o _ hb _ e n=>u.keep b o e n hb (by simp)) (fun b o _ hb _ e n=>u.slot b o e n hb (by simp)) (fun b o _ e n=>u.free b o e n (by simp)) (fun b o _ e=>u.there b o e (by simp)) u.tups u.frzs u.tbls (fun m' hm=>by
  obtain ⟨o',es',ep',ho',r'⟩:=hm
  rw [ho] at ho';cases ho'
  exact ⟨_,es',ep',hL,r'⟩) hok I.bare
theorem Inv.call {g':Array GenState} {t':Nat} {d':Drawn} {ch:List Addr} (I:Inv X pins σ H s) (u:Un (frs X.stack) ch H H' s.heap h') (hok:HOk X.prog X.w H' h') (hg:AllBare g')
 (hch:∀ b∈ch,(b∈X.ex\/X.s₀.heap.objs.size<=b)/\b≠X.env.locals/\(∀ x c,X.env.cells.lookup x=some c->c≠b)/\∀ p∈X.pn++pins,p.1≠b) :
 Inv X pins σ H' { s with heap:=h',gens:=g',drawn:=d',toks:=t' }:=by
 obtain ⟨m,⟨o,es,ep,ho,r⟩,_⟩:=id I.loc
 obtain ⟨sl,hL⟩:=u.any ho I.free fun z=>(hch _ z).2.1 rfl
 exact I.step (ch:=ch) hch (fun b o hL hb hc e n=>u.keep b o e n (fun z=>(List.mem_cons.mp (I.stkSub b z)).elim hL hb) hc) (fun b o _ _ hc e n=>u.any e n hc) (fun b o hc e n=>u.free b o e n hc) (fun b o hc e=>u.there b o e hc) u.tups u.frzs u.tbls (fun m' hm=>by
  obtain ⟨o',es',ep',ho',r'⟩:=hm
  rw [ho] at ho';cases ho'
  exact ⟨_,es',ep',hL,r'⟩) hok hg
theorem Inv.turned {t':Nat} {it:Addr} (I:Inv X pins σ H s) (k:∀ b o,b≠it->s.heap.get? b=some o->h'.get? b=some o) (hn:H it=none) (hL:it≠X.env.locals)
 (h1:it∈X.ex\/X.s₀.heap.objs.size<=it) (h2:∀ x c,X.env.cells.lookup x=some c->c≠it) (h3:∀ p∈X.pn++pins,p.1≠it):Inv X pins σ H { s with heap:=h',toks:=t' }:=by
 have nit:∀ b u,H b=some u->b≠it:=fun b u e z=>by rw [z,hn] at e;cases e
 refine I.step (g':=s.gens) (d':=s.drawn) (ch:=[it]) (fun b hb=>?_) (fun b o _ _ hc e _=>k b o (fun z=>hc (by simp [z])) e) (fun b o _ _ hc e _=>⟨o.slots,k b o (fun z=>hc (by simp [z])) e⟩) (fun _ _ _ _ n=>n)
  (fun b o hc e=>⟨o,k b o (fun z=>hc (by simp [z])) e⟩) (fun _ _ e=>e) (fun _ _ _ e=>e) (fun b ps e=>⟨#[],by rw [e];simp⟩) (fun m hm=>?_) (fun b u e=>?_) I.bare
 ·have e:b=it:=by simpa using hb
  subst e
  exact ⟨h1,hL,h2,h3⟩
 ·obtain ⟨o,es,ep,ho,r⟩:=hm
  exact ⟨o,es,ep,k _ o (Ne.symm hL) ho,r⟩
 ·refine (I.hok b u e).stay (fun c v hc q=>k c v ?_ q) (fun _ q=>q) fun _ _ q=>q
  rcases hc with z | z
  ·rw [z];exact nit b u e
  ·exact nit c _ z
theorem Inv.tok (I:Inv X pins σ H s) (t:Nat):Inv X pins σ H { s with toks:=t }:=I.un (h':=s.heap) (t':=t) Un.refl I.hok
theorem Inv.kept {t':Nat} (I:Inv X pins σ H s) (k:∀ b u,s.heap.get? b=some u->h'.get? b=some u):Inv X pins σ H { s with heap:=h',toks:=t' }:=I.un (Un.kept k) (I.hok.kept k)
theorem Inv.laid {a:Addr} {o:HO} {t':Nat} (I:Inv X pins σ H s) (k:∀ b u,s.heap.get? b=some u->h'.get? b=some u) (hp:s.heap.objs.size<=a) (new:ObjOk X.prog X.w (upd H a o) h' a o) :
 Inv X pins σ (upd H a o) { s with heap:=h',toks:=t' }:=I.un (Un.laid k hp (I.hok.fresh hp)) (I.hok.laid k hp new)
theorem Inv.write {x e:Addr} {o:HO} {t':Nat} (I:Inv X pins σ H s) (mu:Mut (H x)) (he:e=x\/H e=some (.own x)) (k:∀ b u,b≠e->s.heap.get? b=some u->h'.get? b=some u) (heo:∃ u,h'.get? e=some u)
 (new:ObjOk X.prog X.w (upd H x o) h' x o):Inv X pins σ (upd H x o) { s with heap:=h',toks:=t' }:=I.un (Un.write mu he k heo) (I.hok.write mu he k heo new)
theorem Inv.pins_of {pins':List (Addr×Obj)} (I:Inv X pins σ H s) (h:∀ p∈pins',s.heap.get? p.1=some p.2/\H p.1=none/\p.1≠X.env.locals/\p.1∉X.fs/\∀ v,p.2.data≠.cell v):Inv X pins' σ H s :=
 ⟨I.ok,I.os,I.bare,I.base,I.loc,I.cell,I.free,I.freeC,fun p hp=>(List.mem_append.mp hp).elim (fun z=>I.pin p (List.mem_append_left _ z)) (h p),I.hok,I.len⟩
theorem yk {N:List Str} (hN:N.Nodup) {i j:Nat} {x:Str} (a:N[i]?=some x) (b:N[j]?=some x):i=j:=by
 obtain ⟨h1,e1⟩:=List.getElem?_eq_some_iff.mp a
 obtain ⟨h2,e2⟩:=List.getElem?_eq_some_iff.mp b
 exact (List.getElem_inj hN).mp (e1.trans e2.symm)
theorem BN {M:Model} {A:Around} {E:Value->Shared->Prop} {i:Nat} {x:Str} {v:V} {u:Value} {Q:Unit->Shared->Prop} (I:Inv X pins σ H s) (hN:X.N.Nodup) (hi:X.N[i]?=some x) (hx:Loc X.env.scope x) (r:RelV v u)
 (h:∀ s',Inv X pins (σ.set i (some v)) H s'->(∃ a,Heap.SameBut a s.heap s'.heap/\(a=X.env.locals\/X.env.cells.lookup x=some a))->Q () s') (hf:X.fn x=true\/X.env.scope.names.lookup x=some .local:=by first | exact .inl rfl | exact .inr rfl | assumption):wpAny M A (storeName X.env x u) Q E s:=by
 obtain ⟨m,hn,hl⟩:=id I.loc
 have hcls:(X.env.scope.kind == .class || (X.env.scope.kind == .module&&X.env.locals != X.env.globals))=false:=by rw [I.ok.kind];rfl
 have hiσ:i<σ.length:=by rw [I.len];exact (List.getElem?_eq_some_iff.mp hi).1
 have cne:=I.cne
 have tracked:∀ {a:Addr} {h':Heap},(∃ o,s.heap.get? a=some o/\H a=none)->Heap.SameBut a s.heap h'->HOk X.prog X.w H h':=fun {a h'} ha hs b ob e=>by
  obtain ⟨_,_,hfree⟩:=ha
  refine (I.hok b ob e).stay (fun c w' hc q=>(hs.2 c ?_).trans q) (fun _ q=>q) fun _ _ q=>q
  rintro rfl
  rcases hc with rfl | hc
  ·rw [hfree] at e;cases e
  ·rw [hfree] at hc;cases hc
 rcases hx with hk | hk
 ·refine wpAny_storeName_local hk hn (fun h' hn' hs=>?_) hcls
  obtain ⟨oL,_,_,hoL,_⟩:=id hn
  refine h _ ⟨I.ok,I.os,I.bare,⟨fun b o e n hb hx=>?_,fun b o e n hb hx=>?_,I.base.free,fun b o e hx=>?_,I.base.tups,I.base.frzs,I.base.tbls⟩,⟨_,hn',fun j y v' e1 e2 e3=>?_⟩,fun y c e=>?_,I.free,I.freeC,fun p hp=>?_,tracked ⟨oL,hoL,I.free⟩ hs,by simpa using I.len⟩ ⟨_,hs,.inl rfl⟩
  ·exact (hs.2 b (Nat.ne_of_lt (Nat.lt_of_lt_of_le (Heap.lt_size e) I.ok.above))).trans (I.base.keep b o e n hb hx)
  ·obtain ⟨sl,e1⟩:=I.base.slot b o e n hb hx
   exact ⟨sl,(hs.2 b (Nat.ne_of_lt (Nat.lt_of_lt_of_le (Heap.lt_size e) I.ok.above))).trans e1⟩
  ·obtain ⟨o',e1⟩:=I.base.there b o e hx
   exact ⟨o',(hs.2 b (Nat.ne_of_lt (Nat.lt_of_lt_of_le (Heap.lt_size e) I.ok.above))).trans e1⟩
  ·by_cases hj:j=i
   ·subst hj
    rw [hi] at e1;cases e1
    rw [List.getElem?_set_self hiσ] at e2
    cases e2
    exact ⟨u,r,.inl ⟨hk,by simp⟩⟩
   ·rw [List.getElem?_set_ne (Ne.symm hj)] at e2
    obtain ⟨u',r',q⟩:=hl j y v' e1 e2 e3
    refine ⟨u',r',?_⟩
    rcases q with ⟨k,e⟩ | ⟨k,c,e,z⟩
    ·refine .inl ⟨k,?_⟩
     have:y≠x:=fun e=>hj (yk hN e1 (e ▸ hi))
     simp [this,e]
    ·exact .inr ⟨k,c,e,z.sameBut hs (cne y c e)⟩
  ·obtain ⟨w',z⟩:=I.cell y c e
   exact ⟨w',z.sameBut hs (cne y c e)⟩
  ·obtain ⟨e,n,ne,nf,d⟩:=I.pin p hp
   exact ⟨(hs.2 p.1 ne).trans e,n,ne,nf,d⟩
 ·have hfn:X.fn x=true:=by
   rcases hf with z | z
   ·exact z
   ·rw [z] at hk;cases hk
  obtain ⟨c,hc⟩:=I.ok.has x (.inl hk)
  obtain ⟨w',z⟩:=I.cell x c hc
  refine wpAny_storeName_cell I.ok.kind hk hc z (fun h' hc' hs=>?_)
  obtain ⟨oc,hoc,hocd⟩:=id z
  refine h { s with heap:=h' } ⟨I.ok,I.os,I.bare,⟨fun b o e n hb hx=>?_,fun b o e n hb hx=>?_,I.base.free,fun b o e hx=>?_,I.base.tups,I.base.frzs,I.base.tbls⟩,⟨m,hn.sameBut hs (Ne.symm (cne x c hc)),fun j y v' e1 e2 e3=>?_⟩,fun y c' e=>?_,I.free,I.freeC,fun p hp=>?_,tracked ⟨oc,hoc,I.freeC x c hc⟩ hs,by simpa using I.len⟩ ⟨c,hs,.inr hc⟩
  ·exact (hs.2 b (Nat.ne_of_lt (Nat.lt_of_lt_of_le (Heap.lt_size e) (I.ok.cab x c hfn hc)))).trans (I.base.keep b o e n hb hx)
  ·obtain ⟨sl,e1⟩:=I.base.slot b o e n hb hx
   exact ⟨sl,(hs.2 b (Nat.ne_of_lt (Nat.lt_of_lt_of_le (Heap.lt_size e) (I.ok.cab x c hfn hc)))).trans e1⟩
  ·obtain ⟨o',e1⟩:=I.base.there b o e hx
   exact ⟨o',(hs.2 b (Nat.ne_of_lt (Nat.lt_of_lt_of_le (Heap.lt_size e) (I.ok.cab x c hfn hc)))).trans e1⟩
  ·by_cases hj:j=i
   ·subst hj
    rw [hi] at e1;cases e1
    rw [List.getElem?_set_self hiσ] at e2
    cases e2
    exact ⟨u,r,.inr ⟨.inl hk,c,hc,hc'⟩⟩
   ·rw [List.getElem?_set_ne (Ne.symm hj)] at e2
    obtain ⟨u',r',q⟩:=hl j y v' e1 e2 e3
    refine ⟨u',r',?_⟩
    rcases q with q | ⟨k,c',e,z'⟩
    ·exact .inl q
    ·refine .inr ⟨k,c',e,z'.sameBut hs ?_⟩
     rintro rfl
     exact hj (yk hN e1 (I.ok.inj _ _ _ e hc ▸ hi))
  ·by_cases hcc:c'=c
   ·subst hcc;exact ⟨_,hc'⟩
   ·obtain ⟨w2,z2⟩:=I.cell y c' e
    exact ⟨w2,z2.sameBut hs hcc⟩
  ·obtain ⟨e,n,ne,nf,d⟩:=I.pin p hp
   refine ⟨(hs.2 p.1 ?_).trans e,n,ne,nf,d⟩
   intro q
   rw [q,hoc] at e
   have q':oc=p.2:=Option.some.inj e
   exact d w' (by rw [<- q'];exact hocd)
theorem wJ {M:Model} {A:Around} {E:Value->Shared->Prop} {i:Nat} {x:Str} {v:V} {u:Value} {Q:Unit->Shared->Prop} (I:Inv X pins σ H s) (hN:X.N.Nodup) (hi:X.N[i]?=some x) (hx:Loc X.env.scope x) (r:RelV v u)
 (h:∀ s',Inv X pins (σ.set i (some v)) H s'->Q () s') (hf:X.fn x=true\/X.env.scope.names.lookup x=some .local:=by first | exact .inl rfl | exact .inr rfl | assumption):wpAny M A (storeName X.env x u) Q E s :=
 BN I hN hi hx r (fun s' I' _=>h s' I') hf
theorem Inv.call' {s':Shared} {ch:List Addr} (I:Inv X pins σ H s) (ho:s'.os=s.os) (u:Un (frs X.stack) ch H H' s.heap s'.heap) (hok:HOk X.prog X.w H' s'.heap) (hg:AllBare s'.gens)
 (hch:∀ b∈ch,(b∈X.ex\/X.s₀.heap.objs.size<=b)/\b≠X.env.locals/\(∀ x c,X.env.cells.lookup x=some c->c≠b)/\∀ p∈X.pn++pins,p.1≠b):Inv X pins σ H' s':=by
 obtain ⟨h',g',d',t',o'⟩:=s'
 have e:o'=s.os:=ho
 subst e
 exact I.call (g':=g') (t':=t') (d':=d') u hok hg hch
end
abbrev XK:=Value->Option Addr->Hp->Prop
abbrev St:=List (Option V)
abbrev VK:=V->Hp->Prop
abbrev TE:=St->Hp->VK->Prop
abbrev TT:=St->Hp->(Bool->Hp->Prop)->Prop
abbrev TA:=St->Hp->(List V->Hp->Prop)->Prop
structure Ends where
 nx:St->Hp->Prop
 rt:VK
 bk:St->Hp->Prop:=fun _ _=>False
 ct:St->Hp->Prop:=fun _ _=>False
abbrev TS:=Ends->St->Hp->Prop
def EP (X:Cx) (pins:List (Addr×Obj)) (σ:St) (Q:VK) (u:Value) (s':Shared):Prop:=∃ v H',Inv X pins σ H' s'/\RelV v u/\Q v H'
def TP (X:Cx) (pins:List (Addr×Obj)) (σ:St) (Q:Bool->Hp->Prop) (b:Bool) (s':Shared):Prop:=∃ H',Inv X pins σ H' s'/\Q b H'
def AP (X:Cx) (pins:List (Addr×Obj)) (σ:St) (Q:List V->Hp->Prop) (us:List Value) (s':Shared):Prop:=∃ vs H',Inv X pins σ H' s'/\Vals vs us/\Q vs H'
def SP (X:Cx) (pins:List (Addr×Obj)) (D:Ends) (f:Flow) (s':Shared):Prop :=
 match f with
 | .next=>∃ σ' H',Inv X pins σ' H' s'/\D.nx σ' H'
 | .brk=>∃ σ' H',Inv X pins σ' H' s'/\D.bk σ' H'
 | .cont=>∃ σ' H',Inv X pins σ' H' s'/\D.ct σ' H'
 | .ret u=>∃ v σ' H',Inv X pins σ' H' s'/\RelV v u/\D.rt v H'
def PE (X:Cx) (e:Expr) (t:TE):Prop :=
 ∀ (pins:List (Addr×Obj)) (s:Shared) (σ:St) (H:Hp) (Q:VK),Inv X pins σ H s->t σ H Q->wpAny (model X.prog X.w) X.A (eval e X.env) (EP X pins σ Q) X.xe s
def PT (X:Cx) (e:Expr) (t:TT):Prop :=
 ∀ (pins:List (Addr×Obj)) (s:Shared) (σ:St) (H:Hp) (Q:Bool->Hp->Prop),Inv X pins σ H s->t σ H Q->wpAny (model X.prog X.w) X.A (isTrue e X.env (eval e X.env)) (TP X pins σ Q) X.xe s
def PW (X:Cx) (e:Expr) (t:TT):Prop :=
 ∀ (whole:Sem Value) (pins:List (Addr×Obj)) (s:Shared) (σ:St) (H:Hp) (Q:Bool->Hp->Prop),Inv X pins σ H s->t σ H Q->wpAny (model X.prog X.w) X.A (isTrue e X.env whole) (TP X pins σ Q) X.xe s
theorem PW.pt {X:Cx} {e:Expr} {t:TT} (h:PW X e t):PT X e t:=h _
def PA (X:Cx) (es:List Expr) (t:TA):Prop :=
 ∀ (pos:Pos) (pins:List (Addr×Obj)) (s:Shared) (σ:St) (H:Hp) (Q:List V->Hp->Prop),Inv X pins σ H s->t σ H Q->wpAny (model X.prog X.w) X.A (spliced (backTo pos (starEach es X.env))) (AP X pins σ Q) X.xe s
def PS (X:Cx) (st:Stmt) (t:TS):Prop :=
 ∀ (pins:List (Addr×Obj)) (s:Shared) (σ:St) (H:Hp) (D:Ends),Inv X pins σ H s->t D σ H->wpAny (model X.prog X.w) X.A (exec st X.env) (SP X pins D) X.xe s
def PSs (X:Cx) (st:List Stmt) (t:TS):Prop :=
 ∀ (pins:List (Addr×Obj)) (s:Shared) (σ:St) (H:Hp) (D:Ends),Inv X pins σ H s->t D σ H->wpAny (model X.prog X.w) X.A (execs st X.env) (SP X pins D) X.xe s
theorem thn {α:Type} {t:Sem α} {Q Q':α->Shared->Prop} {M:Model} {A:Around} {E:Value->Shared->Prop} {s:Shared} (h:wpAny M A t Q E s) (hQ:∀ a s,Q a s->Q' a s):wpAny M A t Q' E s:=wpAny_mono h hQ fun _ _ x=>x
end L2
namespace L2
open PySem PySem.Spec PyProof.Rows
section
variable {X:Cx}
def wt (i:Nat):TE:=fun σ H Q=>∃ v,σ[i]?=some (some v)/\Q v H
def tC (v:V):TE:=fun _ H Q=>Q v H
theorem DK {i:Nat} {x:Str} {pos:Pos} (hN:X.N[i]?=some x) (hv:Vis X.env.scope x) (hd:(x == ("__debug__":Str))=false:=by decide) (hcd:(x == ("__classdict__":Str))=false:=by decide):PE X (.Name x pos) (wt i):=by
 intro pins s σ H Q I h
 obtain ⟨v,e,h⟩:=h
 obtain ⟨m,hn,hl⟩:=I.loc
 obtain ⟨u,r,l⟩:=hl i x v hN e hv
 have fin:EP X pins σ Q u s:=⟨v,H,I,r,h⟩
 rcases l with ⟨hk,hm⟩ | ⟨hk,c,hc,hcell⟩
 ·exact wpAny_Name (wpAny_loadName_local I.ok.kind hk hn hm fin) hd
 ·rcases hk with hk | hk
  ·exact wpAny_Name (wpAny_loadName_cell I.ok.kind hk hc hcell fin) hd
  ·exact wpAny_Name (wpAny_loadName_free I.ok.kind hk hc hcell fin hcd) hd
theorem af {i j pos}:PE X (.Constant (.int i) j pos) (tC (.int i)):=fun _ _ _ H _ I h=>wpAny_Constant_int ⟨.int i,H,I.tok _,⟨_,rfl⟩,h⟩
theorem gF {b j pos}:PE X (.Constant (.bool b) j pos) (tC (.bl b)):=fun _ _ _ H _ I h=>Constant_bool ⟨.bl b,H,I,rfl,h⟩
theorem x6 {j pos}:PE X (.Constant .none j pos) (tC .non):=fun _ _ _ H _ I h=>Constant_none ⟨.non,H,I,rfl,h⟩
def Gl (X:Cx) (x:Str):Prop:=X.env.kindOf x=some .globalImplicit
theorem tE {E:Value->Shared->Prop} {pins:List (Addr×Obj)} {s:Shared} {σ:St} {H:Hp} {x:Str} {u:Value} {pos:Pos} {Q:Value->Shared->Prop} (I:Inv X pins σ H s) (hg:Gl X x) (hm:X.mg x=some u) (h:Q u s)
 (hd:(x == ("__debug__":Str))=false:=by decide):wpAny (model X.prog X.w) X.A (eval (.Name x pos) X.env) Q E s :=
 Calls.Name_function_global I.ok.kind hg (Calls.loadGlobal_global (by rw [I.ok.glob];exact I.mod.glob.keeps I.bk) hm h) hd
theorem fX {E:Value->Shared->Prop} {pins:List (Addr×Obj)} {s:Shared} {σ:St} {H:Hp} {x:Str} {u:Value} {pos:Pos} {Q:Value->Shared->Prop} (I:Inv X pins σ H s) (hg:Gl X x) (hm:X.mg x=none) (hv:bootBuiltins x=some u) (h:Q u s)
 (hn:x≠"__name__":=by decide) (hd:(x == ("__debug__":Str))=false:=by decide):wpAny (model X.prog X.w) X.A (eval (.Name x pos) X.env) Q E s:=by
 obtain ⟨mb,h1,h2⟩:=I.mod.blt
 exact Calls.Name_function_global I.ok.kind hg (Calls.loadGlobal_builtin (by rw [I.ok.glob];exact I.mod.glob.keeps I.bk) hm (by rw [I.ok.blt];exact h1.keeps I.bk) ((h2 x hn).trans hv) h) hd
theorem sG {x:Str} {v:V} {u:Value} {pos:Pos} (hg:Gl X x) (hm:X.mg x=some u) (r:RelV v u) (hd:(x == ("__debug__":Str))=false:=by decide):PE X (.Name x pos) (tC v) :=
 fun _ _ _ H _ I h=>tE I hg hm ⟨v,H,I,r,h⟩ hd
theorem sH {x:Str} {v:V} {u:Value} {pos:Pos} (hg:Gl X x) (hm:X.mg x=none) (hv:bootBuiltins x=some u) (r:RelV v u) (hn:x≠"__name__":=by decide) (hd:(x == ("__debug__":Str))=false:=by decide):PE X (.Name x pos) (tC v) :=
 fun _ _ _ H _ I h=>fX I hg hm hv ⟨v,H,I,r,h⟩ hn hd
variable {a b:Expr} {ta tb:TE} {pos:Pos}
def tB (t:TE):TT:=fun σ H Q=>t σ H fun x H1=>∃ c,x=.bl c/\Q c H1
theorem eu {e:Expr} {t:TE} (h:PE X e t) (he:∀ whole,isTrue e X.env whole=(do let v <- whole;standAt e.pos;holding [v] (truthy v)):=by intro _;rfl):PT X e (tB t):=by
 intro pins s σ H Q I hw
 refine isTrue_plain (thn (h pins s σ H _ I hw) fun v s1 ⟨x,H1,I1,r1,q1⟩=>?_) (he _)
 obtain ⟨d,rfl,q⟩:=q1
 cases r1
 exact wpAny_truthy_bool ⟨H1,I1,q⟩
variable {tA tB':TT} {rest:List Expr}
def wD (t u:TT):TT:=fun σ H Q=>t σ H fun c H1=>if c=true then u σ H1 Q else Q false H1
def tOr (t u:TT):TT:=fun σ H Q=>t σ H fun c H1=>if c=true then Q true H1 else u σ H1 Q
def wy (t:TT):TT:=fun σ H Q=>t σ H fun c H1=>Q (!c) H1
theorem ic (ha:PT X a tA):PW X (.BoolOp .And [a] pos) tA:=by
 intro wh pins s σ H Q I h
 refine isTrue_and (thn (ha pins s σ H Q I h) fun c s1 e=>?_)
 cases c with
 | true=>exact isTrue_and_nil e
 | false=>exact e
theorem kZ (ha:PT X a tA):PW X (.BoolOp .Or [a] pos) tA:=by
 intro wh pins s σ H Q I h
 refine isTrue_or (thn (ha pins s σ H Q I h) fun c s1 e=>?_)
 cases c with
 | false=>exact isTrue_or_nil e
 | true=>exact e
theorem ie (ha:PT X a tA) (hb:PW X (.BoolOp .And (b::rest) pos) tB'):PW X (.BoolOp .And (a::b::rest) pos) (wD tA tB'):=by
 intro wh pins s σ H Q I h
 refine isTrue_and (thn (ha pins s σ H _ I h) fun c s1 ⟨H1,I1,q1⟩=>?_)
 cases c with
 | true=>exact hb wh pins s1 σ H1 Q I1 q1
 | false=>exact ⟨H1,I1,q1⟩
theorem gB (ha:PT X a tA) (hb:PW X (.BoolOp .Or (b::rest) pos) tB'):PW X (.BoolOp .Or (a::b::rest) pos) (tOr tA tB'):=by
 intro wh pins s σ H Q I h
 refine isTrue_or (thn (ha pins s σ H _ I h) fun c s1 ⟨H1,I1,q1⟩=>?_)
 cases c with
 | true=>exact ⟨H1,I1,q1⟩
 | false=>exact hb wh pins s1 σ H1 Q I1 q1
theorem fg (ha:PT X a tA):PT X (.UnaryOp .Not a pos) (wy tA):=by
 intro pins s σ H Q I h
 exact isTrue_not (ha pins s σ H (fun c H1=>Q (!c) H1) I h)
def wC (ta tb:TE):TE:=fun σ H Q=>ta σ H fun x H1=>∃ c,x=.bl c/\if c=true then tb σ H1 Q else Q (.bl false) H1
def wv (ta tb:TE):TE:=fun σ H Q=>ta σ H fun x H1=>∃ c,x=.bl c/\if c=true then Q (.bl true) H1 else tb σ H1 Q
def wx (ta:TE):TE:=fun σ H Q=>ta σ H fun x H1=>∃ c,x=.bl c/\Q (.bl (!c)) H1
theorem px {op} {t:TE} (h:PE X a t):PE X (.BoolOp op [a] pos) t:=fun pins s σ H Q I hw=>BoolOp_one (h pins s σ H Q I hw)
theorem x9 (ha:PE X a ta) (hb:PE X (.BoolOp .And (b::rest) pos) tb):PE X (.BoolOp .And (a::b::rest) pos) (wC ta tb):=by
 intro pins s σ H Q I h
 refine BoolOp_and (thn (ha pins s σ H _ I h) fun v s1 ⟨x,H1,I1,r1,q1⟩=>?_)
 obtain ⟨c,rfl,q1⟩:=q1
 cases r1
 refine wpAny_truthy_bool ?_
 cases c with
 | true=>exact hb pins s1 σ H1 Q I1 q1
 | false=>exact ⟨.bl false,H1,I1,rfl,q1⟩
theorem sE (ha:PE X a ta) (hb:PE X (.BoolOp .Or (b::rest) pos) tb):PE X (.BoolOp .Or (a::b::rest) pos) (wv ta tb):=by
 intro pins s σ H Q I h
 refine BoolOp_or (thn (ha pins s σ H _ I h) fun v s1 ⟨x,H1,I1,r1,q1⟩=>?_)
 obtain ⟨c,rfl,q1⟩:=q1
 cases r1
 refine wpAny_truthy_bool ?_
 cases c with
 | false=>exact hb pins s1 σ H1 Q I1 q1
 | true=>exact ⟨.bl true,H1,I1,rfl,q1⟩
theorem DL (ha:PE X a ta):PE X (.UnaryOp .Not a pos) (wx ta):=by
 intro pins s σ H Q I h
 refine UnaryOp_ (thn (ha pins s σ H _ I h) fun v s1 ⟨x,H1,I1,r1,q1⟩=>?_)
 obtain ⟨c,rfl,q1⟩:=q1
 cases r1
 exact not_of (wpAny_truthy_bool ⟨.bl (!c),H1,I1,rfl,q1⟩)
def tIf (t:TT) (ta tb:TE):TE:=fun σ H Q=>t σ H fun c H1=>if c=true then ta σ H1 Q else tb σ H1 Q
theorem sF {c:Expr} (hc:PT X c tA) (ha:PE X a ta) (hb:PE X b tb):PE X (.IfExp c a b pos) (tIf tA ta tb):=by
 intro pins s σ H Q I h
 refine wpAny_IfExp (thn (hc pins s σ H _ I h) fun d s1 ⟨H1,I1,q1⟩=>?_)
 cases d with
 | true=>exact ha pins s1 σ H1 Q I1 q1
 | false=>exact hb pins s1 σ H1 Q I1 q1
end
end L2
namespace L2
open PySem PySem.Spec PyProof.Rows
def SqL (K:PySem.W.Frag) (H:Hp) (a:Addr) (xs:List V):Prop :=
 Rd H a (.lst xs) \/
  ∃ (o:Obj) (its:Array Value) (n:Nat),K.lookup a=some o/\o.cls=.type "list"/\o.dict=none/\o.data=.seq its n/\its.size<=sizeLine/\Vals xs its.toList
def SqT (K:PySem.W.Frag) (H:Hp) (a:Addr) (xs:List V):Prop :=
 Rd H a (.tup xs) \/
  ∃ (o:Obj) (its:Array Value) (n:Nat),K.lookup a=some o/\o.cls=.type "tuple"/\o.data=.seq its n/\its.size<=sizeLine/\Vals xs its.toList
def KI:Value->Option V
 | .none=>some .non
 | .bool b=>some (.bl b)
 | .int i _=>some (.int i)
 | .str x _=>some (.str x)
 | .bytes b _=>some (.byt b)
 | .float b _=>some (.flt b)
 | .ref a=>some (.ref a)
 | .type n=>some (.ty n)
 | _=>none
theorem RelV.abs {x:V} {u:Value} (r:RelV x u):KI u=some x:=by
 cases x with
 | non=>cases r;rfl
 | bl _=>cases r;rfl
 | int _=>obtain ⟨t,rfl⟩:=r;rfl
 | str _=>obtain ⟨t,rfl⟩:=r;rfl
 | byt _=>obtain ⟨t,rfl⟩:=r;rfl
 | flt _=>obtain ⟨t,rfl⟩:=r;rfl
 | ref _=>cases r;rfl
 | ty _=>cases r;rfl
theorem RelV.inj {x y:V} {u:Value} (r:RelV x u) (q:RelV y u):x=y:=Option.some.inj (r.abs.symm.trans q.abs)
theorem Vals.inj:∀ {xs ys:List V} {us:List Value},Vals xs us->Vals ys us->xs=ys
 | _,_,_,.nil,.nil=>rfl
 | _,_,_,.cons r t,.cons r' t'=>by rw [r.inj r',Vals.inj t t']
section
variable {X:Cx} {pins:List (Addr×Obj)} {σ:St} {H:Hp} {s:Shared} {a:Addr} {xs ys:List V}
theorem SqL.of {K:PySem.W.Frag} (h:H a=some (.lst xs)):SqL K H a xs:=.inl (.inl h)
theorem SqT.of {K:PySem.W.Frag} (h:H a=some (.tup xs)):SqT K H a xs:=.inl (.inl h)
theorem Inv.list (I:Inv X pins σ H s) (h:SqL X.K H a xs):∃ its:List Value,Vals xs its/\PlainL s.heap a its.toArray/\xs.length<=sizeLine:=by
 rcases h with h | ⟨o,its,n,hk,hc,hd,hs,hz,r⟩
 ·obtain ⟨z,its,n,r,e⟩:=h.ok I.hok
  exact ⟨its,r,⟨_,n,e,rfl,rfl,rfl⟩,z⟩
 ·refine ⟨its.toList,r,⟨o,n,I.kIn a o hk,hc,hd,by simpa using hs⟩,?_⟩
  have e:=r.length
  simp only [Array.length_toList] at e
  omega
theorem Inv.tuple (I:Inv X pins σ H s) (h:SqT X.K H a xs):∃ its:List Value,Vals xs its/\IsTup s.heap a its.toArray/\xs.length<=sizeLine:=by
 rcases h with h | ⟨o,its,n,hk,hc,hs,hz,r⟩
 ·obtain ⟨z,its,r,p⟩:=h.ok I.hok
  exact ⟨its,r,p,z⟩
 ·refine ⟨its.toList,r,⟨o,I.kIn a o hk,hc,n,by simpa using hs⟩,?_⟩
  have e:=r.length
  simp only [Array.length_toList] at e
  omega
theorem Inv.list_inj (I:Inv X pins σ H s) (h:SqL X.K H a xs) (h':SqL X.K H a ys):xs=ys:=by
 obtain ⟨its,r,⟨o,n,e,_,_,d⟩,_⟩:=I.list h
 obtain ⟨its',r',⟨o',n',e',_,_,d'⟩,_⟩:=I.list h'
 rw [e] at e';cases e'
 rw [d] at d'
 injection d' with d1 _
 have:its=its':=by simpa using congrArg Array.toList d1
 subst this
 exact r.inj r'
theorem Inv.tuple_inj (I:Inv X pins σ H s) (h:SqT X.K H a xs) (h':SqT X.K H a ys):xs=ys:=by
 obtain ⟨its,r,⟨o,e,_,n,d⟩,_⟩:=I.tuple h
 obtain ⟨its',r',⟨o',e',_,n',d'⟩,_⟩:=I.tuple h'
 rw [e] at e';cases e'
 rw [d] at d'
 injection d' with d1 _
 have:its=its':=by simpa using congrArg Array.toList d1
 subst this
 exact r.inj r'
end
abbrev Cx.wish (X:Cx) (E:Value->Shared->Prop):Cx:={ X with xe:=E }
abbrev Cx.nox (X:Cx):Cx:=X.wish fun _ _=>False
theorem Cx.Ok.wish {X:Cx} (ok:X.Ok) (E:Value->Shared->Prop):(X.wish E).Ok :=
 ⟨ok.mod,ok.kind,ok.glob,ok.blt,ok.above,ok.inj,ok.has,ok.cab,ok.hd,ok.frames,ok.stk,ok.exf,ok.bs,ok.bsz,ok.noex,ok.exfs,ok.funs,ok.frf⟩
theorem Cx.Ok.unwish {X:Cx} {E:Value->Shared->Prop} (ok:(X.wish E).Ok):X.Ok :=
 ⟨ok.mod,ok.kind,ok.glob,ok.blt,ok.above,ok.inj,ok.has,ok.cab,ok.hd,ok.frames,ok.stk,ok.exf,ok.bs,ok.bsz,ok.noex,ok.exfs,ok.funs,ok.frf⟩
section
variable {X:Cx} {pins:List (Addr×Obj)} {σ:St} {H:Hp} {s:Shared} {E:Value->Shared->Prop}
theorem Inv.wish (I:Inv X pins σ H s) (E:Value->Shared->Prop):Inv (X.wish E) pins σ H s:=⟨I.ok.wish E,I.os,I.bare,I.base,I.loc,I.cell,I.free,I.freeC,I.pin,I.hok,I.len⟩
theorem Inv.unwish (I:Inv (X.wish E) pins σ H s):Inv X pins σ H s:=⟨I.ok.unwish,I.os,I.bare,I.base,I.loc,I.cell,I.free,I.freeC,I.pin,I.hok,I.len⟩
theorem SP.unwish {D:Ends} {f:Flow} {s':Shared} (h:SP (X.wish E) pins D f s'):SP X pins D f s':=by
 cases f with
 | next=>obtain ⟨σ',H',I,q⟩:=h;exact ⟨σ',H',I.unwish,q⟩
 | brk=>obtain ⟨σ',H',I,q⟩:=h;exact ⟨σ',H',I.unwish,q⟩
 | cont=>obtain ⟨σ',H',I,q⟩:=h;exact ⟨σ',H',I.unwish,q⟩
 | ret u=>obtain ⟨v,σ',H',I,r,q⟩:=h;exact ⟨v,σ',H',I.unwish,r,q⟩
theorem PE.nox {e:Expr} {t:TE} (h:PE X.nox e t):PE X e t:=fun pins s σ H Q I hw =>
 wpAny_mono (h pins s σ H Q (I.wish _) hw) (fun _ _ ⟨v,H',I',r,q⟩=>⟨v,H',I'.unwish,r,q⟩) fun _ _ z=>False.elim z
theorem PT.nox {e:Expr} {t:TT} (h:PT X.nox e t):PT X e t:=fun pins s σ H Q I hw =>
 wpAny_mono (h pins s σ H Q (I.wish _) hw) (fun _ _ ⟨H',I',q⟩=>⟨H',I'.unwish,q⟩) fun _ _ z=>False.elim z
theorem PSs.nox {st:List Stmt} {t:TS} (h:PSs X.nox st t):PSs X st t:=fun pins s σ H D I hw =>
 wpAny_mono (h pins s σ H D (I.wish _) hw) (fun _ _ q=>q.unwish) fun _ _ z=>False.elim z
end
section
variable {X:Cx} {st:Stmt} {rest:List Stmt} {t u:TS} {e:Expr} {te:TE} {pos:Pos}
def wz:TS:=fun D σ H=>D.nx σ H
def dk (t u:TS):TS:=fun D σ H=>t { D with nx:=u D } σ H
theorem aW:PSs X [] wz:=fun _ _ σ H _ I h=>wpAny_execs_nil ⟨σ,H,I,h⟩
theorem ah (h1:PS X st t) (h2:PSs X rest u):PSs X (st::rest) (dk t u):=by
 intro pins s σ H D I h
 refine wpAny_execs_cons (thn (h1 pins s σ H { D with nx:=u D } I h) fun f s1 q=>?_)
 cases f with
 | next =>
   obtain ⟨σ',H',I',q⟩:=q
   exact h2 pins s1 σ' H' D I' q
 | ret v=>exact q
 | brk=>exact q
 | cont=>exact q
theorem ao (h1:PS X st t):PSs X [st] t:=by
 intro pins s σ H D I h
 refine wpAny_execs_cons (thn (h1 pins s σ H D I h) fun f s1 q=>?_)
 cases f with
 | next=>exact wpAny_execs_nil q
 | ret v=>exact q
 | brk=>exact q
 | cont=>exact q
theorem Inv.quiet {pins:List (Addr×Obj)} {σ:St} {H:Hp} {s:Shared} (I:Inv X pins σ H s):interactive X.env=false:=by simp [interactive,I.ok.kind]
def oB (te:TE):TS:=fun D σ H=>te σ H fun _ H1=>D.nx σ H1
theorem fO (he:PE X e te) (hs:swapsWith e none pos.line X.env=pure false:=by rfl):PS X (.Expr e pos) (oB te):=by
 intro pins s σ H D I h
 exact wpAny_Expr_any (thn (he pins s σ H _ I h) fun v s1 ⟨x,H1,I1,r1,q1⟩=>⟨σ,H1,I1,q1⟩) I.quiet hs
def wu (te:TE):TS:=fun D σ H=>te σ H D.rt
theorem aC (he:PE X e te):PS X (.Return (some e) pos) (wu te):=by
 intro pins s σ H D I h
 exact wpAny_Return_some (thn (he pins s σ H _ I h) fun v s1 ⟨x,H1,I1,r1,q1⟩=>⟨x,σ,H1,I1,r1,q1⟩)
def mw (c:TT) (t u:TS):TS:=fun D σ H=>c σ H fun b H1=>if b=true then t D σ H1 else u D σ H1
theorem aV {c:Expr} {a b:List Stmt} {tc:TT} (hc:PT X c tc) (ha:PSs X a t) (hb:PSs X b u):PS X (.If c a b pos) (mw tc t u):=by
 intro pins s σ H D I h
 refine wpAny_If (thn (hc pins s σ H _ I h) fun d s1 ⟨H1,I1,q1⟩=>?_)
 cases d with
 | true=>exact ha pins s1 σ H1 D I1 q1
 | false=>exact hb pins s1 σ H1 D I1 q1
def BB:TS:=fun _ _ _=>False
theorem ig:PS X st BB:=fun _ _ _ _ _ _ h=>h.elim
end
abbrev TG:=V->St->Hp->(St->Hp->Prop)->Prop
abbrev TGs:=List V->St->Hp->(St->Hp->Prop)->Prop
def PG (X:Cx) (target:Expr) (t:TG):Prop :=
 ∀ (pins:List (Addr×Obj)) (s:Shared) (σ:St) (H:Hp) (v:V) (u:Value) (Q:St->Hp->Prop),Inv X pins σ H s->RelV v u->t v σ H Q ->
   wpAny (model X.prog X.w) X.A (assign target X.env u) (fun _ s'=>∃ σ' H',Inv X pins σ' H' s'/\Q σ' H') X.xe s
def PGs (X:Cx) (ts:List Expr) (t:TGs):Prop :=
 ∀ (pins:List (Addr×Obj)) (s:Shared) (σ:St) (H:Hp) (vs:List V) (us:List Value) (Q:St->Hp->Prop),Inv X pins σ H s->Vals vs us->t vs σ H Q ->
   wpAny (model X.prog X.w) X.A (assignInOrder ((assignEach ts X.env).map (·.2)) us) (fun _ s'=>∃ σ' H',Inv X pins σ' H' s'/\Q σ' H') X.xe s
abbrev vA:=V->V->V->Hp->(Hp->Prop)->Prop
def AR (X:Cx) (t:vA):Prop :=
 ∀ (pins:List (Addr×Obj)) (s:Shared) (σ:St) (H:Hp) (o i v:V) (ov iv u:Value) (Q:Hp->Prop),Inv X pins σ H s->RelV o ov->RelV i iv->RelV v u->t o i v H Q ->
   wpAny (model X.prog X.w) X.A (setItem ov iv u) (fun _ s'=>∃ H',Inv X pins σ H' s'/\Q H') X.xe s
section
variable {X:Cx} {pos:Pos}
def iJ (i:Nat):TG:=fun v σ H Q=>Q (σ.set i (some v)) H
theorem aT {i:Nat} {x:Str} (hN:X.N.Nodup) (hi:X.N[i]?=some x) (hx:Loc X.env.scope x) (hf:X.fn x=true\/X.env.scope.names.lookup x=some .local:=by first | exact .inl rfl | exact .inr rfl | assumption):PG X (.Name x pos) (iJ i):=by
 intro pins s σ H v u Q I r h
 exact wpAny_assign_Name (wJ I hN hi hx r (fun s' I'=>⟨_,H,I',h⟩) hf)
def HK:TGs:=fun vs σ H Q=>vs=[]/\Q σ H
def HL (t:TG) (u:TGs):TGs:=fun vs σ H Q=>∃ v r,vs=v::r/\t v σ H fun σ' H'=>u r σ' H' Q
theorem gC:PGs X [] HK:=by
 intro pins s σ H vs us Q I r h
 obtain ⟨e,h⟩:=h
 subst e
 cases r
 exact assignInOrder_nil ⟨σ,H,I,h⟩
theorem cj {e:Expr} {es:List Expr} {t:TG} {u:TGs} (h1:PG X e t) (h2:PGs X es u)
 (hs:(assignEach (e::es) X.env).map (·.2)=assign e X.env::(assignEach es X.env).map (·.2):=by rfl):PGs X (e::es) (HL t u):=by
 intro pins s σ H vs us Q I r h
 obtain ⟨v,vr,e1,h⟩:=h
 subst e1
 cases r with
 | cons r rr =>
   rw [hs]
   refine assignInOrder_cons (thn (h1 pins s σ H _ _ _ I r h) fun _ s1 ⟨σ1,H1,I1,q1⟩=>?_)
   exact h2 pins s1 σ1 H1 _ _ Q I1 rr q1
def HI (K:PySem.W.Frag) (n:Nat) (t:TGs):TG:=fun v σ H Q=>∃ a xs,v=.ref a/\SqT K H a xs/\xs.length=n/\t xs σ H Q
theorem gD {es:List Expr} {k:Nat} {t:TGs} {n:Nat} (hc:X.calm=true) (h:PGs X es t)
 (hn:(assignEach es X.env).length=n:=by rfl) (hst:(assignEach es X.env).findIdx? (·.1)=none:=by rfl):PG X (.Tuple es k pos) (HI X.K n t):=by
 intro pins s σ H v u Q I r hw
 obtain ⟨a,xs,e1,hq,hl,hw⟩:=hw
 subst e1
 cases r
 obtain ⟨its,rv,ht,hz⟩:=I.tuple hq
 refine assign_Tuple_tuple (I.ok.hd hc) ht (by simp [hn,<- hl,rv.length]) hst fun h' hx=>?_
 have I1:Inv X pins σ H { s with heap:=h' }:=I.kept (t':=s.toks) fun b o e=>hx b o (Nat.ne_of_lt (Heap.lt_size e)) e
 exact h pins _ σ H xs _ Q I1 (by simpa using rv) hw
def HJ (to ti:TE) (t:vA):TG:=fun v σ H Q=>to σ H fun o H1=>ti σ H1 fun i H2=>t o i v H2 fun H3=>Q σ H3
theorem li {o i:Expr} {to ti:TE} {t:vA} (ho:PE X o to) (hi:PE X i ti) (hs:AR X t)
 (ha:∀ v,assign (.Subscript o i pos) X.env v=(do
   let ov <- holding [v] (eval o X.env)
   let iv <- holding [v,ov] (eval i X.env)
   standAt pos
   holding [v,ov,iv] (setItem ov iv v)
   release [v,ov,iv] []):=by intro _;rfl):PG X (.Subscript o i pos) (HJ to ti t):=by
 intro pins s σ H v u Q I r h
 rw [ha]
 refine wpAny_bind (wpAny_holding (thn (ho pins s σ H _ I h) fun ov s1 ⟨x,H1,I1,r1,q1⟩=>?_))
 refine wpAny_bind (wpAny_holding (thn (hi pins s1 σ H1 _ I1 q1) fun iv s2 ⟨y,H2,I2,r2,q2⟩=>?_))
 refine wpAny_bind (wpAny_standAt (wpAny_bind (wpAny_holding (thn (hs pins s2 σ H2 x y v ov iv u _ I2 r1 r2 r q2) fun _ s3 ⟨H3,I3,q3⟩=>?_))))
 exact wpAny_release ⟨σ,H3,I3,q3⟩
def gW (te:TE) (g:TG):TS:=fun D σ H=>te σ H fun x H1=>g x σ H1 D.nx
theorem eD {tg e:Expr} {te:TE} {g:TG} (he:PE X e te) (hg:PG X tg g) (hs:swapsWithSole [tg] e pos.line X.env=pure false:=by rfl) (hw:swappedStores [tg] e X.env=pure none:=by rfl)
 (h1:(assignEach [tg] X.env).map (·.2)=[assign tg X.env]:=by rfl):PS X (.Assign [tg] e pos) (gW te g):=by
 intro pins s σ H D I h
 refine wpAny_Assign_stores (thn (he pins s σ H _ I h) fun v s1 ⟨x,H1,I1,r1,q1⟩=>?_) hs hw
 rw [h1]
 exact thn (hg pins s1 σ H1 x v _ I1 r1 q1) fun _ s2 q=>q
theorem ap {i:Nat} {x:Str} {e:Expr} {te:TE} {pos':Pos} (hN:X.N.Nodup) (hi:X.N[i]?=some x) (hx:Loc X.env.scope x) (he:PE X e te) (hs:swapsWith e (some (.Name x pos')) pos.line X.env=pure false:=by rfl) (hf:X.fn x=true\/X.env.scope.names.lookup x=some .local:=by first | exact .inl rfl | exact .inr rfl | assumption) :
 PS X (.Assign [.Name x pos'] e pos) (gW te (iJ i)):=by
 intro pins s σ H D I h
 refine wpAny_Assign_Name (thn (he pins s σ H _ I h) fun v s1 ⟨y,H1,I1,r1,q1⟩=>?_) hs
 exact wJ I1 hN hi hx r1 (fun s2 I2=>⟨_,H1,I2,q1⟩) hf
end
section
variable {X:Cx} {pos:Pos}
def Bw (c:TT) (tb:TS):TS:=fun D σ H=>∃ W:Nat->St->Hp->Prop,(∃ m,W m σ H)/\∀ m σ H,W m σ H ->
 c σ H fun b H1=>if b=true then ∃ N:St->Hp->Prop,(∀ σ' H',N σ' H'->∃ m',m'<m/\W m' σ' H')/\tb { D with nx:=N,ct:=N,bk:=D.nx } σ H1 else D.nx σ H1
theorem fN {c:Expr} {body:List Stmt} {tc:TT} {tb:TS} (hp:PassesOwn (model X.prog X.w) X.A X.env X.xe) (hc:PT X c tc) (hb:PSs X body tb):PS X (.While c body [] pos) (Bw tc tb):=by
 intro pins s σ H D I h
 obtain ⟨W,⟨m0,w0⟩,turn⟩:=h
 refine wpAny_While (codeAny_whileLoop (fun n s'=>∃ σ' H',Inv X pins σ' H' s'/\W n σ' H') ?_ m0 ⟨σ,H,I,w0⟩)
 rintro n s1 ⟨σ1,H1,I1,w1⟩
 refine wpAny_passesOwn hp (thn (hc pins s1 σ1 H1 _ I1 (turn n σ1 H1 w1)) fun b s2 ⟨H2,I2,q2⟩=>?_)
 cases b with
 | true =>
   obtain ⟨N,hN,q2⟩:=q2
   rw [if_pos rfl]
   refine wpAny_passesOwn hp (thn (hb pins s2 σ1 H2 _ I2 q2) fun f s3 q3=>?_)
   cases f with
   | next =>
     obtain ⟨σ3,H3,I3,n3⟩:=q3
     obtain ⟨m',hm,w3⟩:=hN σ3 H3 n3
     exact ⟨m',hm,σ3,H3,I3,w3⟩
   | cont =>
     obtain ⟨σ3,H3,I3,n3⟩:=q3
     obtain ⟨m',hm,w3⟩:=hN σ3 H3 n3
     exact ⟨m',hm,σ3,H3,I3,w3⟩
   | brk=>exact q3
   | ret v=>exact q3
 | false =>
   rw [if_neg Bool.false_ne_true]
   exact wpAny_execs_nil ⟨σ1,H2,I2,q2⟩
end
structure It where
 go:Nat->Hp->Prop
 yld:Nat->Hp->V->Hp->Prop
 stop:Nat->Hp->Prop
def fF (X:Cx) (pins:List (Addr×Obj)) (H:Hp) (b:Addr):Prop :=
 H b=none/\b≠X.env.locals/\b∉X.fs/\(b∈X.ex\/X.s₀.heap.objs.size<=b)/\(∀ x c,X.env.cells.lookup x=some c->c≠b)/\∀ p∈X.pn++pins,p.1≠b
theorem Inv.fpOk {X:Cx} {pins:List (Addr×Obj)} {σ:St} {H H':Hp} {s:Shared} {b:Addr} (I:Inv X pins σ H s) (hb:s.heap.objs.size<=b) (hn:H' b=none):fF X pins H' b:=by
 refine ⟨hn,Nat.ne_of_gt (Nat.lt_of_lt_of_le I.lt hb),I.nofs hb,.inr (Nat.le_trans I.sz hb),fun x c e z=>?_,fun p hp z=>?_⟩
 ·obtain ⟨v,q⟩:=I.cell x c e
  exact absurd (Nat.lt_of_lt_of_le q.lt (by rw [z];exact hb)) (Nat.lt_irrefl _)
 ·exact absurd (Nat.lt_of_lt_of_le (Heap.lt_size (I.pin p hp).1) (by rw [z];exact hb)) (Nat.lt_irrefl _)
structure Turn (P:Program) (w:World) (K:PySem.W.Frag) (tg:Expr) (J:It) (fp:List Addr) (it:Addr) (tn:Nat->Heap->Prop):Prop where
 mem:it∈fp
 obj:∀ i h,tn i h->∀ b∈fp,∃ o,h.get? b=some o/\∀ v,o.data≠.cell v
 keep:∀ i h h',tn i h->(∀ b∈fp,∀ o,h.get? b=some o->h'.get? b=some o)->tn i h'
 item:∀ (X:Cx),X.prog=P->X.w=w->X.K=K->X.calm=true->∀ (i:Nat) (pins:List (Addr×Obj)) (s:Shared) (σ:St) (H:Hp) (E:Value->Shared->Prop),Inv X pins σ H s->(∀ b∈fp,fF X pins H b)->tn i s.heap->J.go i H ->
  wpAny (model P w) X.A (pyNext (.ref it)) (fun r s1=>∃ u,r=some u /\
   wpAny (model P w) X.A (letOwnedTupleGo tg (.ref it) u) (fun _ s2=>∃ x H',Inv X pins σ H' s2/\RelV x u/\J.yld i H x H'/\tn (i+1) s2.heap/\∀ b∈fp,H' b=none) E s1) E s
 done:∀ (X:Cx),X.prog=P->X.w=w->X.K=K->X.calm=true->∀ (i:Nat) (pins:List (Addr×Obj)) (s:Shared) (σ:St) (H:Hp) (E:Value->Shared->Prop),Inv X pins σ H s->(∀ b∈fp,fF X pins H b)->tn i s.heap->J.stop i H ->
  wpAny (model P w) X.A (pyNext (.ref it)) (fun r s1=>r=none/\Inv X pins σ H s1) E s
 self:∀ (A:Around) (i:Nat) (s:Shared) (Q:Value->Shared->Prop) (E:Value->Shared->Prop),tn i s.heap->Q (.ref it) s->wpAny (model P w) A (pyIter (.ref it)) Q E s
abbrev TI:=St->Hp->(It->Hp->Prop)->Prop
def PIE (X:Cx) (pins:List (Addr×Obj)) (σ:St) (tg:Expr) (R:It->Hp->Prop) (itv:Value) (s2:Shared):Prop :=
 ∃ (it:Addr) (fp:List Addr) (tn:Nat->Heap->Prop) (J:It) (H':Hp),itv=.ref it/\Inv X pins σ H' s2/\Turn X.prog X.w X.K tg J fp it tn/\tn 0 s2.heap/\(∀ b∈fp,fF X pins H' b)/\R J H'
def PI (X:Cx) (tg iter:Expr) (wi:TI):Prop :=
 ∀ (pins:List (Addr×Obj)) (s:Shared) (σ:St) (H:Hp) (R:It->Hp->Prop),Inv X pins σ H s->wi σ H R ->
   wpAny (model X.prog X.w) X.A (eval iter X.env) (fun v s1=>wpAny (model X.prog X.w) X.A (pyIter v) (PIE X pins σ tg R) X.xe s1) X.xe s
theorem ny {M:Model} {A:Around} {E:Value->Shared->Prop} {s:Shared} {tg:Expr} {it:Addr} {u:Value} {o:Obj} {n:String} {vs:Array Value} {Q:Unit->Shared->Prop} (ho:s.heap.get? it=some o) (hc:o.cls=.type n) (hd:o.data=.fields vs)
 (hn:["enumerate","zip","dict_itemiterator","dict_reverseitemiterator","odict_iterator","itertools.zip_longest","itertools.pairwise"].contains n=false) (hQ:Q () s):wpAny M A (letOwnedTupleGo tg (.ref it) u) Q E s:=by
 unfold letOwnedTupleGo
 cases tg<;>first
  | exact wpAny_pure hQ
  | (cases u<;>first
      | exact wpAny_pure hQ
      | (refine wpAny_bind (wpAny_load ho ?_)
         rw [hc,hd]
         show wpAny M A (if (["enumerate","zip","dict_itemiterator","dict_reverseitemiterator","odict_iterator","itertools.zip_longest","itertools.pairwise"].contains n&&vs[0]? == some (rawInt _))=true then _ else _) Q E s
         rw [if_neg (by intro h;rw [hn,Bool.false_and] at h;cases h)]
         exact wpAny_pure hQ))
def Itl (K:PySem.W.Frag) (a:Addr):It :=
 ⟨fun i H=>∃ xs x,SqL K H a xs/\xs[i]?=some x,fun i H x H'=>H'=H/\∀ xs,SqL K H a xs->xs[i]?=some x,fun i H=>∃ xs,SqL K H a xs/\xs.length<=i⟩
def Itt (K:PySem.W.Frag) (a:Addr):It :=
 ⟨fun i H=>∃ xs x,SqT K H a xs/\xs[i]?=some x,fun i H x H'=>H'=H/\∀ xs,SqT K H a xs->xs[i]?=some x,fun i H=>∃ xs,SqT K H a xs/\xs.length<=i⟩
def Itr (lo:Int) (n:Nat):It:=⟨fun i _=>i<n,fun i H x H'=>H'=H/\x=.int (lo+i),fun i _=>n<=i⟩
theorem Bh {P:Program} {w:World} {K:PySem.W.Frag} {tg:Expr} (a it:Addr):Turn P w K tg (Itl K a) [it] it (fun i h=>h.IsListIter it a i) where
 mem:=by simp
 obj:=fun i h st b hb=>by
  have e:b=it:=by simpa using hb
  subst e
  obtain ⟨o,e,c,d⟩:=st
  exact ⟨o,e,fun v z=>by rw [d] at z;cases z⟩
 keep:=fun i h h' st k=>st.at fun o e=>k it (by simp) o e
 item:=by
  intro X hP hw hK hc i pins s σ H E I hf st hg
  subst hP hw hK
  obtain ⟨xs,x,hq,hx⟩:=hg
  obtain ⟨its,rv,p,hz⟩:=I.list hq
  obtain ⟨u,hu,ru⟩:=rv.get hx
  obtain ⟨f0,f1,f2,f3,f4,f5⟩:=hf it (by simp)
  refine wpAny_pyNext_list_item st p.isList (x:=u) (by simpa using hu) fun h' st' sb=>?_
  have I1:Inv X pins σ H { s with heap:=h' }:=I.turned (t':=s.toks) (fun b o hb e=>(sb.2 b hb).trans e) f0 f1 f3 f4 f5
  obtain ⟨o,e,c,d⟩:=id st'
  exact ⟨u,rfl,ny (s:={ s with heap:=h' }) e c d (by decide) ⟨x,H,I1,ru,⟨rfl,fun ys hy=>by rw [I.list_inj hy hq];exact hx⟩,st',fun b hb=>(hf b hb).1⟩⟩
 done:=by
  intro X hP hw hK hc i pins s σ H E I hf st hg
  subst hP hw hK
  obtain ⟨xs,hq,hx⟩:=hg
  obtain ⟨its,rv,p,hz⟩:=I.list hq
  obtain ⟨f0,f1,f2,f3,f4,f5⟩:=hf it (by simp)
  have hl:=rv.length
  exact wpAny_pyNext_list_end (I.ok.hd hc) st p.isList (by simp;omega) fun h' eb=>⟨rfl,I.turned (t':=s.toks) (fun b o hb e=>eb b o hb e) f0 f1 f3 f4 f5⟩
 self:=fun _ _ _ _ _ st h=>wpAny_pyIter_listiter st h
theorem Bc {P:Program} {w:World} {K:PySem.W.Frag} {tg:Expr} (a it:Addr):Turn P w K tg (Itt K a) [it] it (fun i h=>h.IsTupleIter it a i) where
 mem:=by simp
 obj:=fun i h st b hb=>by
  have e:b=it:=by simpa using hb
  subst e
  obtain ⟨o,e,c,d⟩:=st
  exact ⟨o,e,fun v z=>by rw [d] at z;cases z⟩
 keep:=fun i h h' st k=>st.at fun o e=>k it (by simp) o e
 item:=by
  intro X hP hw hK hc i pins s σ H E I hf st hg
  subst hP hw hK
  obtain ⟨xs,x,hq,hx⟩:=hg
  obtain ⟨its,rv,p,hz⟩:=I.tuple hq
  obtain ⟨u,hu,ru⟩:=rv.get hx
  obtain ⟨f0,f1,f2,f3,f4,f5⟩:=hf it (by simp)
  refine wpAny_pyNext_tuple_item st (show s.heap.IsTuple a its.toArray from p) (x:=u) (by simpa using hu) fun h' st' sb=>?_
  have I1:Inv X pins σ H { s with heap:=h' }:=I.turned (t':=s.toks) (fun b o hb e=>(sb.2 b hb).trans e) f0 f1 f3 f4 f5
  obtain ⟨o,e,c,d⟩:=id st'
  exact ⟨u,rfl,ny (s:={ s with heap:=h' }) e c d (by decide) ⟨x,H,I1,ru,⟨rfl,fun ys hy=>by rw [I.tuple_inj hy hq];exact hx⟩,st',fun b hb=>(hf b hb).1⟩⟩
 done:=by
  intro X hP hw hK hc i pins s σ H E I hf st hg
  subst hP hw hK
  obtain ⟨xs,hq,hx⟩:=hg
  obtain ⟨its,rv,p,hz⟩:=I.tuple hq
  obtain ⟨f0,f1,f2,f3,f4,f5⟩:=hf it (by simp)
  have hl:=rv.length
  exact wpAny_pyNext_tuple_end (I.ok.hd hc) st (show s.heap.IsTuple a its.toArray from p) (by simp;omega) fun h' eb=>⟨rfl,I.turned (t':=s.toks) (fun b o hb e=>eb b o hb e) f0 f1 f3 f4 f5⟩
 self:=fun _ _ _ _ _ st h=>wpAny_pyIter_tupleiter st h
theorem Bg {P:Program} {w:World} {K:PySem.W.Frag} {tg:Expr} (it:Addr) (lo:Int) (n:Nat):Turn P w K tg (Itr lo n) [it] it (fun i h=>IsRangeIter h it (lo+(i:Nat)*1) ((n:Int)-(i:Nat)) 1) where
 mem:=by simp
 obj:=fun i h st b hb=>by
  have e:b=it:=by simpa using hb
  subst e
  exact ⟨_,st,fun v z=>by
   have z':Data.fields _=Data.cell v:=z
   cases z'⟩
 keep:=fun i h h' st k=>k it (by simp) _ st
 item:=by
  intro X hP hw hK hc i pins s σ H E I hf st hg
  subst hP hw hK
  obtain ⟨f0,f1,f2,f3,f4,f5⟩:=hf it (by simp)
  have W:=Walks.range (prog:=X.prog) (w:=X.w) (I.ok.hd hc) it lo 1 n
  refine W.item i s _ _ hg st fun v h' tk hv st' kk=>?_
  obtain ⟨t,rfl⟩:=hv
  have I1:Inv X pins σ H { s with heap:=h',toks:=tk }:=I.turned (fun b o hb e=>kk b o (by simpa using hb) e) f0 f1 f3 f4 f5
  refine ⟨_,rfl,ny (s:={ s with heap:=h',toks:=tk }) (n:="range_iterator") st' rfl rfl (by decide) ⟨.int (lo+i),H,I1,⟨t,?_⟩,⟨rfl,rfl⟩,st',fun b hb=>(hf b hb).1⟩⟩
  rw [Int.mul_one]
 done:=by
  intro X hP hw hK hc i pins s σ H E I hf st hg
  subst hP hw hK
  obtain ⟨f0,f1,f2,f3,f4,f5⟩:=hf it (by simp)
  exact wpAny_pyNext_range_end (I.ok.hd hc) st (by have:n<=i:=hg;omega) fun h' eb=>⟨rfl,I.turned (t':=s.toks) (fun b o hb e=>eb b o hb e) f0 f1 f3 f4 f5⟩
 self:=fun _ _ _ _ _ st h=>wpAny_pyIter_rangeiter st h
end L2
namespace L2
open PySem PySem.Spec PyProof.Rows
section
variable {X:Cx} {tg:Expr}
def zk (K:PySem.W.Frag) (tl:TE):TI:=fun σ H R=>tl σ H fun x H1=>∃ a,x=.ref a/\(∃ xs,SqL K H1 a xs)/\R (Itl K a) H1
def zj (K:PySem.W.Frag) (tl:TE):TI:=fun σ H R=>tl σ H fun x H1=>∃ a,x=.ref a/\(∃ xs,SqT K H1 a xs)/\R (Itt K a) H1
theorem DI {l:Expr} {tl:TE} (hl:PE X l tl):PI X tg l (zk X.K tl):=by
 intro pins s σ H R I h
 refine thn (hl pins s σ H _ I h) fun v s1 ⟨x,H1,I1,r1,q1⟩=>?_
 obtain ⟨a,e,⟨xs,hq⟩,q⟩:=q1
 subst e
 cases r1
 obtain ⟨its,rv,p,hz⟩:=I1.list hq
 refine wpAny_pyIter_list p.isList ?_
 refine ⟨s1.heap.objs.size,[s1.heap.objs.size],_,_,H1,rfl,I1.kept (t':=s1.toks) fun b o e=>Heap.get?_push_of_some _ e,Bh a _,⟨_,Heap.get?_push_size _ rfl,rfl,rfl⟩,fun b hb=>?_,q⟩
 have e:b=s1.heap.objs.size:=by simpa using hb
 subst e
 exact I1.fpOk (Nat.le_refl _) (I1.hok.fresh (Nat.le_refl _))
theorem DG {l:Expr} {tl:TE} (hl:PE X l tl):PI X tg l (zj X.K tl):=by
 intro pins s σ H R I h
 refine thn (hl pins s σ H _ I h) fun v s1 ⟨x,H1,I1,r1,q1⟩=>?_
 obtain ⟨a,e,⟨xs,hq⟩,q⟩:=q1
 subst e
 cases r1
 obtain ⟨its,rv,p,hz⟩:=I1.tuple hq
 refine wpAny_pyIter_tuple (show s1.heap.IsTuple a its.toArray from p) ?_
 refine ⟨s1.heap.objs.size,[s1.heap.objs.size],_,_,H1,rfl,I1.kept (t':=s1.toks) fun b o e=>Heap.get?_push_of_some _ e,Bc a _,⟨_,Heap.get?_push_size _ rfl,rfl,rfl⟩,fun b hb=>?_,q⟩
 have e:b=s1.heap.objs.size:=by simpa using hb
 subst e
 exact I1.fpOk (Nat.le_refl _) (I1.hok.fresh (Nat.le_refl _))
theorem xL {pins:List (Addr×Obj)} {σ:St} {H:Hp} {s:Shared} {R:It->Hp->Prop} {E:Value->Shared->Prop} {lo hi:Int} {t u v:Tok} {tk:Nat} (I:Inv X pins σ H s) (h1 : -(2^62)<=lo) (h2:lo<2^62) (h3 : -(2^62)<=hi) (h4:hi<2^62)
 (q:R (Itr lo (hi-lo).toNat) H):wpAny (model X.prog X.w) X.A (pyIter (.ref s.heap.objs.size)) (PIE X pins σ tg R) E { s with heap:=s.heap.push { cls:=.type "range",data:=.fields #[.int lo t,.int hi u,.int 1 v] },toks:=tk }:=by
 refine wpAny_pyIter_range (IsRange.new ..) (small_one h1 h2 h3 h4) ?_
 have I1:Inv X pins σ H { s with heap:=s.heap.push { cls:=.type "range",data:=.fields #[.int lo t,.int hi u,.int 1 v] },toks:=tk }:=I.kept fun b o e=>Heap.get?_push_of_some _ e
 refine ⟨(s.heap.push { cls:=.type "range",data:=.fields #[.int lo t,.int hi u,.int 1 v] }).objs.size,[(s.heap.push { cls:=.type "range",data:=.fields #[.int lo t,.int hi u,.int 1 v] }).objs.size],_,_,H,rfl,
  I1.kept (t':=tk) fun b o e=>Heap.get?_push_of_some _ e,Bg _ lo (hi-lo).toNat,?_,fun b hb=>?_,q⟩
 ·have e1:lo+((0:Nat):Int)*1=lo:=by simp
  have e2:(((hi-lo).toNat:Nat):Int)-((0:Nat):Int)=Builtin.Range.rangeSize lo hi 1:=by rw [rangeSize_one];split<;>omega
  show IsRangeIter _ _ (lo+((0:Nat):Int)*1) ((((hi-lo).toNat:Nat):Int)-((0:Nat):Int)) 1
  rw [e1,e2]
  exact Heap.get?_push_size _ rfl
 ·have e:b=(s.heap.push { cls:=.type "range",data:=.fields #[.int lo t,.int hi u,.int 1 v] }).objs.size:=by simpa using hb
  subst e
  exact I1.fpOk (Nat.le_refl _) (I1.hok.fresh (Nat.le_refl _))
def Hm (ta:TA):TI:=fun σ H R=>ta σ H fun vs H1=>∃ j:Int,vs=[.int j] /\ -(2^62)<=j/\j<2^62/\R (Itr 0 j.toNat) H1
def Hl (ta:TA):TI:=fun σ H R=>ta σ H fun vs H1=>∃ i j:Int,vs=[.int i,.int j]/\(-(2^62)<=i/\i<2^62 /\ -(2^62)<=j/\j<2^62)/\R (Itr i (j-i).toNat) H1
theorem lg {a:Expr} {ta:TA} {p pos:Pos} (hg:Gl X "range") (hm:X.mg "range"=none) (ha:PA X [a] ta) (hs:starEach [a] X.env=[(false,eval a X.env)]:=by rfl):PI X tg (.Call (.Name "range" p) [a] [] pos) (Hm ta):=by
 intro pins s σ H R I h
 refine Call_ (fX I hg hm boot_range (PyProof.Rows.callWith_type1 (thn (ha pos pins s σ H _ I h) fun us s1 ⟨vs,H1,I1,r1,q1⟩=>?_) hs rfl))
 obtain ⟨j,e,q1,q2,q⟩:=q1
 subst e
 cases r1 with
 | cons r rr =>
   cases rr
   obtain ⟨t,rfl⟩:=r
   exact call_range_1 (xL I1 (by omega) (by omega) q1 q2 (by simpa using q))
theorem DH {a b:Expr} {ta:TA} {p pos:Pos} (hg:Gl X "range") (hm:X.mg "range"=none) (ha:PA X [a,b] ta) (hs:starEach [a,b] X.env=[(false,eval a X.env),(false,eval b X.env)]:=by rfl) (hs2:starEach [b] X.env=[(false,eval b X.env)]:=by rfl) :
 PI X tg (.Call (.Name "range" p) [a,b] [] pos) (Hl ta):=by
 intro pins s σ H R I h
 refine Call_ (fX I hg hm boot_range (PyProof.Rows.callWith_type1 (thn (ha pos pins s σ H _ I h) fun us s1 ⟨vs,H1,I1,r1,q1⟩=>?_) (by rw [hs,hs2]) (by rw [hs2];rfl)))
 obtain ⟨i,j,e,⟨q1,q2,q3,q4⟩,q⟩:=q1
 subst e
 cases r1 with
 | cons r rr =>
   cases rr with
   | cons r' rr =>
     cases rr
     obtain ⟨t,rfl⟩:=r
     obtain ⟨t',rfl⟩:=r'
     exact call_range_2 (xL I1 q1 q2 q3 q4 q)
def BE (wi:TI) (g:TG) (tb:TS):TS:=fun D σ H=>wi σ H fun J H1=>∃ W:Nat->Nat->St->Hp->Prop,(∃ m,W 0 m σ H1)/\∀ i m σ H,W i m σ H ->
 (J.stop i H/\D.nx σ H)\/(J.go i H/\∃ N:St->Hp->Prop,(∀ σ' H',N σ' H'->∃ m',m'<m/\W (i+1) m' σ' H')/\∀ x H',J.yld i H x H'->g x σ H' fun σ2 H2=>tb { D with nx:=N,ct:=N,bk:=D.nx } σ2 H2)
def pi (fp:List Addr) (h:Heap):List (Addr×Obj):=fp.filterMap fun b=>(h.get? b).map fun o=>(b,o)
theorem pG {fp:List Addr} {h:Heap} {b:Addr} {o:Obj} (hb:b∈fp) (e:h.get? b=some o):(b,o)∈pi fp h:=List.mem_filterMap.mpr ⟨b,hb,by rw [e];rfl⟩
theorem Fd {fp:List Addr} {h:Heap} {p:Addr×Obj} (hp:p∈pi fp h):p.1∈fp/\h.get? p.1=some p.2:=by
 obtain ⟨b,hb,e⟩:=List.mem_filterMap.mp hp
 cases q:h.get? b with
 | none=>rw [q] at e;cases e
 | some o =>
   rw [q] at e
   have e':(b,o)=p:=Option.some.inj e
   subst e'
   exact ⟨hb,q⟩
theorem Inv.pinned {pins:List (Addr×Obj)} {σ:St} {H:Hp} {s:Shared} {fp:List Addr} (I:Inv X pins σ H s) (hf:∀ b∈fp,fF X pins H b) (ho:∀ b∈fp,∃ o,s.heap.get? b=some o/\∀ v,o.data≠.cell v):Inv X (pins++pi fp s.heap) σ H s :=
 I.pins_of fun p hp=>(List.mem_append.mp hp).elim (fun z=>I.pin p (List.mem_append_right _ z)) fun z=>by
  obtain ⟨hb,e⟩:=Fd z
  obtain ⟨f0,f1,f2,_⟩:=hf p.1 hb
  obtain ⟨o,e',d⟩:=ho p.1 hb
  rw [e] at e';cases e'
  exact ⟨e,f0,f1,f2,d⟩
theorem Inv.unpinned {pins pl:List (Addr×Obj)} {σ:St} {H:Hp} {s:Shared} (I:Inv X (pins++pl) σ H s):Inv X pins σ H s:=I.pins_of fun p hp=>I.pin p (List.mem_append_right _ (List.mem_append_left _ hp))
theorem cR {iter:Expr} {body:List Stmt} {wi:TI} {g:TG} {tb:TS} {pos:Pos} (hp:PassesOwn (model X.prog X.w) X.A X.env X.xe) (hc:X.calm=true) (hi:PI X tg iter wi) (hg:PG X tg g) (hb:PSs X body tb)
 (hs:∀ x,foldedSetIterable iter X.env x=pure x:=by intro _;rfl):PS X (.For tg iter body [] pos) (BE wi g tb):=by
 intro pins s σ H D I h
 refine wpAny_For (thn (hi pins s σ H _ I h) fun v s1 h1=>thn h1 fun itv s2 h2=>?_) hs
 obtain ⟨it,fp,tn,J,H2,e,I2,T,st2,f2,W,⟨m0,w0⟩,turn⟩:=h2
 subst e
 have stat:∀ {H':Hp},(∀ b∈fp,H' b=none)->∀ b∈fp,fF X pins H' b:=fun hn b hb=>⟨hn b hb,(f2 b hb).2⟩
 refine codeAny_forLoop_any (fun n s'=>∃ i σ' H',Inv X pins σ' H' s'/\tn i s'.heap/\(∀ b∈fp,H' b=none)/\W i n σ' H') ?_ m0 ⟨0,σ,H2,I2,st2,fun b hb=>(f2 b hb).1,w0⟩
 rintro n s3 ⟨i,σ3,H3,I3,st3,fr3,w3⟩
 rcases turn i n σ3 H3 w3 with ⟨stop,qn⟩ | ⟨go,N,hN,step⟩
 ·refine wpAny_passesOwn hp (thn (T.done X rfl rfl rfl hc i pins s3 σ3 H3 X.xe I3 (stat fr3) st3 stop) fun r s4 ⟨hr,I4⟩=>?_)
  subst hr
  exact wpAny_execs_nil ⟨σ3,H3,I4,qn⟩
 ·refine wpAny_passesOwn hp (thn (T.item X rfl rfl rfl hc i pins s3 σ3 H3 X.xe I3 (stat fr3) st3 go) fun r s4 ⟨u,hr,h4⟩=>?_)
  subst hr
  refine wpAny_passesOwn hp (thn h4 fun _ s5 ⟨x,H5,I5,r5,y5,st5,fr5⟩=>?_)
  have I5':=I5.pinned (stat fr5) (T.obj _ _ st5)
  refine wpAny_passesOwn hp (thn (hg _ s5 σ3 H5 x u _ I5' r5 (step x H5 y5)) fun _ s6 ⟨σ6,H6,I6,q6⟩=>?_)
  refine wpAny_passesOwn hp (thn (hb _ s6 σ6 H6 _ I6 q6) fun f s7 q7=>?_)
  have again:∀ {σ7:St} {H7:Hp},Inv X (pins++pi fp s5.heap) σ7 H7 s7->N σ7 H7->∃ m,m<n/\∃ i σ' H',Inv X pins σ' H' s7/\tn i s7.heap/\(∀ b∈fp,H' b=none)/\W i m σ' H':=fun {σ7 H7} I7 n7=>by
   obtain ⟨m',hm,w7⟩:=hN σ7 H7 n7
   refine ⟨m',hm,i+1,σ7,H7,I7.unpinned,T.keep _ _ _ st5 fun b hb o e=>(I7.pin (b,o) (List.mem_append_right _ (List.mem_append_right _ (pG hb e)))).1,fun b hb=>?_,w7⟩
   obtain ⟨o,e,d⟩:=T.obj _ _ st5 b hb
   exact (I7.pin (b,o) (List.mem_append_right _ (List.mem_append_right _ (pG hb e)))).2.1
  cases f with
  | next=>obtain ⟨σ7,H7,I7,n7⟩:=q7;exact again I7 n7
  | cont=>obtain ⟨σ7,H7,I7,n7⟩:=q7;exact again I7 n7
  | brk=>obtain ⟨σ7,H7,I7,q7⟩:=q7;exact ⟨σ7,H7,I7.unpinned,q7⟩
  | ret v=>obtain ⟨x7,σ7,H7,I7,r7,q7⟩:=q7;exact ⟨x7,σ7,H7,I7.unpinned,r7,q7⟩
end
theorem nC {K:PySem.W.Frag} {a:Addr} {xs:List V} {g:TG} {tb:TS} {D:Ends} {σ:St} {H:Hp} (Pv:Nat->St->Hp->Prop) (h0:Pv 0 σ H) (hl:∀ i σ H,i<=xs.length->Pv i σ H->SqL K H a xs)
 (hs:∀ i x σ H,xs[i]?=some x->Pv i σ H->g x σ H fun σ2 H2=>tb { D with nx:=Pv (i+1),ct:=Pv (i+1),bk:=D.nx } σ2 H2) (hd:∀ σ H,Pv xs.length σ H->D.nx σ H) :
 ∃ W:Nat->Nat->St->Hp->Prop,(∃ m,W 0 m σ H)/\∀ i m σ H,W i m σ H ->
   ((Itl K a).stop i H/\D.nx σ H)\/((Itl K a).go i H/\∃ N:St->Hp->Prop,(∀ σ' H',N σ' H'->∃ m',m'<m/\W (i+1) m' σ' H')/\∀ x H',(Itl K a).yld i H x H'->g x σ H' fun σ2 H2=>tb { D with nx:=N,ct:=N,bk:=D.nx } σ2 H2):=by
 refine ⟨fun i m σ H=>m=xs.length-i/\i<=xs.length/\Pv i σ H,⟨xs.length,by simp,Nat.zero_le _,h0⟩,?_⟩
 rintro i m σ H ⟨rfl,hi,p⟩
 have q:=hl i σ H hi p
 by_cases hlt:i<xs.length
 ·refine .inr ⟨⟨xs,xs[i],q,by simp [hlt]⟩,Pv (i+1),fun σ' H' p'=>⟨xs.length-(i+1),by omega,rfl,hlt,p'⟩,fun x H' y=>?_⟩
  obtain ⟨e,y⟩:=y
  subst e
  exact hs i x σ _ (y xs q) p
 ·have e:i=xs.length:=by omega
  subst e
  exact .inl ⟨⟨xs,q,Nat.le_refl _⟩,hd σ H p⟩
theorem HM {K:PySem.W.Frag} {a:Addr} {xs:List V} {g:TG} {tb:TS} {D:Ends} {σ:St} {H:Hp} (Pv:Nat->St->Hp->Prop) (h0:Pv 0 σ H) (hl:∀ i σ H,i<=xs.length->Pv i σ H->SqT K H a xs)
 (hs:∀ i x σ H,xs[i]?=some x->Pv i σ H->g x σ H fun σ2 H2=>tb { D with nx:=Pv (i+1),ct:=Pv (i+1),bk:=D.nx } σ2 H2) (hd:∀ σ H,Pv xs.length σ H->D.nx σ H) :
 ∃ W:Nat->Nat->St->Hp->Prop,(∃ m,W 0 m σ H)/\∀ i m σ H,W i m σ H ->
   ((Itt K a).stop i H/\D.nx σ H)\/((Itt K a).go i H/\∃ N:St->Hp->Prop,(∀ σ' H',N σ' H'->∃ m',m'<m/\W (i+1) m' σ' H')/\∀ x H',(Itt K a).yld i H x H'->g x σ H' fun σ2 H2=>tb { D with nx:=N,ct:=N,bk:=D.nx } σ2 H2):=by
 refine ⟨fun i m σ H=>m=xs.length-i/\i<=xs.length/\Pv i σ H,⟨xs.length,by simp,Nat.zero_le _,h0⟩,?_⟩
 rintro i m σ H ⟨rfl,hi,p⟩
 have q:=hl i σ H hi p
 by_cases hlt:i<xs.length
 ·refine .inr ⟨⟨xs,xs[i],q,by simp [hlt]⟩,Pv (i+1),fun σ' H' p'=>⟨xs.length-(i+1),by omega,rfl,hlt,p'⟩,fun x H' y=>?_⟩
  obtain ⟨e,y⟩:=y
  subst e
  exact hs i x σ _ (y xs q) p
 ·have e:i=xs.length:=by omega
  subst e
  exact .inl ⟨⟨xs,q,Nat.le_refl _⟩,hd σ H p⟩
theorem qe {lo:Int} {n:Nat} {g:TG} {tb:TS} {D:Ends} {σ:St} {H:Hp} (Pv:Nat->St->Hp->Prop) (h0:Pv 0 σ H)
 (hs:∀ i σ H,i<n->Pv i σ H->g (.int (lo+i)) σ H fun σ2 H2=>tb { D with nx:=Pv (i+1),ct:=Pv (i+1),bk:=D.nx } σ2 H2) (hd:∀ σ H,Pv n σ H->D.nx σ H) :
 ∃ W:Nat->Nat->St->Hp->Prop,(∃ m,W 0 m σ H)/\∀ i m σ H,W i m σ H ->
   ((Itr lo n).stop i H/\D.nx σ H)\/((Itr lo n).go i H/\∃ N:St->Hp->Prop,(∀ σ' H',N σ' H'->∃ m',m'<m/\W (i+1) m' σ' H')/\∀ x H',(Itr lo n).yld i H x H'->g x σ H' fun σ2 H2=>tb { D with nx:=N,ct:=N,bk:=D.nx } σ2 H2):=by
 refine ⟨fun i m σ H=>m=n-i/\i<=n/\Pv i σ H,⟨n,by simp,Nat.zero_le _,h0⟩,?_⟩
 rintro i m σ H ⟨rfl,hi,p⟩
 by_cases hlt:i<n
 ·refine .inr ⟨hlt,Pv (i+1),fun σ' H' p'=>⟨n-(i+1),by omega,rfl,hlt,p'⟩,fun x H' y=>?_⟩
  obtain ⟨e,y⟩:=y
  subst e y
  exact hs i σ _ hlt p
 ·have e:i=n:=by omega
  subst e
  exact .inl ⟨Nat.le_refl _,hd σ H p⟩
end L2
namespace L2
open PySem PySem.Spec PyProof.Rows
abbrev R2:=V->V->Hp->VK->Prop
def OpR (X:Cx) (f:Value->Value->Sem Value) (r:R2):Prop :=
 ∀ (pins:List (Addr×Obj)) (s:Shared) (σ:St) (H:Hp) (x y:V) (v u:Value) (Q:VK),Inv X pins σ H s->RelV x v->RelV y u->r x y H Q ->
   wpAny (model X.prog X.w) X.A (f v u) (EP X pins σ Q) X.xe s
def UnR (X:Cx) (f:Value->Sem Value) (r:V->Hp->VK->Prop):Prop :=
 ∀ (pins:List (Addr×Obj)) (s:Shared) (σ:St) (H:Hp) (x:V) (v:Value) (Q:VK),Inv X pins σ H s->RelV x v->r x H Q ->
   wpAny (model X.prog X.w) X.A (f v) (EP X pins σ Q) X.xe s
def CallR (X:Cx) (f:Value) (r:List V->Hp->VK->Prop):Prop :=
 ∀ (pins:List (Addr×Obj)) (s:Shared) (σ:St) (H:Hp) (xs:List V) (us:List Value) (Q:VK),Inv X pins σ H s->Vals xs us->r xs H Q ->
   wpAny (model X.prog X.w) X.A (call f us) (EP X pins σ Q) X.xe s
def KJ (X:Cx) (r:V->Hp->(Bool->Hp->Prop)->Prop):Prop :=
 ∀ (pins:List (Addr×Obj)) (s:Shared) (σ:St) (H:Hp) (x:V) (v:Value) (Q:Bool->Hp->Prop),Inv X pins σ H s->RelV x v->r x H Q ->
   wpAny (model X.prog X.w) X.A (truthy v) (TP X pins σ Q) X.xe s
def tOp (r:R2) (ta tb:TE):TE:=fun σ H Q=>ta σ H fun x H1=>tb σ H1 fun y H2=>r x y H2 Q
def tUn (r:V->Hp->VK->Prop) (ta:TE):TE:=fun σ H Q=>ta σ H fun x H1=>r x H1 Q
def rI (C:Int->Int->Prop) (g:Int->Int->V):R2:=fun x y H Q=>∃ i j,x=.int i/\y=.int j/\C i j/\Q (g i j) H
def rI0 (g:Int->Int->V):R2:=fun x y H Q=>∃ i j,x=.int i/\y=.int j/\Q (g i j) H
def rU (g:Int->V):V->Hp->VK->Prop:=fun x H Q=>∃ i,x=.int i/\Q (g i) H
section
variable {X:Cx} {a b c:Expr} {ta tb tc:TE} {pos:Pos}
theorem vf (ha:PE X a ta) (hb:PE X b tb) {pins:List (Addr×Obj)} {s:Shared} {σ:St} {H:Hp} {R:V->V->Hp->Prop} (I:Inv X pins σ H s)
 (h:ta σ H fun x H1=>tb σ H1 fun y H2=>R x y H2) {Q:Value->Shared->Prop} {f:Value->Value->Sem Value}
 (hf:∀ v u s2 x y H2,Inv X pins σ H2 s2->RelV x v->RelV y u->R x y H2->wpAny (model X.prog X.w) X.A (f v u) Q X.xe s2) :
 wpAny (model X.prog X.w) X.A (eval a X.env) (fun v s₁=>wpAny (model X.prog X.w) X.A (eval b X.env) (fun u s₂=>wpAny (model X.prog X.w) X.A (f v u) Q X.xe s₂) X.xe s₁) X.xe s:=by
 refine thn (ha pins s σ H _ I h) fun v s1 ⟨x,H1,I1,r1,q1⟩=>?_
 refine thn (hb pins s1 σ H1 _ I1 q1) fun u s2 ⟨y,H2,I2,r2,q2⟩=>?_
 exact hf v u s2 x y H2 I2 r1 r2 q2
theorem aj {op:Operator} {r:R2} (ho:OpR X (binaryOp op) r) (ha:PE X a ta) (hb:PE X b tb):PE X (.BinOp a op b pos) (tOp r ta tb):=by
 intro pins s σ H Q I h
 exact wpAny_BinOp (vf ha hb I h fun v u s2 x y H2 I2 rx ry q=>ho pins s2 σ H2 x y v u Q I2 rx ry q)
theorem bU {op:UnaryOp} {r:V->Hp->VK->Prop} (ho:UnR X (unaryOp op) r) (ha:PE X a ta):PE X (.UnaryOp op a pos) (tUn r ta):=by
 intro pins s σ H Q I h
 exact UnaryOp_ (thn (ha pins s σ H _ I h) fun v s1 ⟨x,H1,I1,r1,q1⟩=>ho pins s1 σ H1 x v Q I1 r1 q1)
theorem opI {f:Value->Value->Sem Value} {C:Int->Int->Prop} {g:Int->Int->Int}
 (rule:∀ (i j:Int) (t u:Tok) (s:Shared) (Q:Value->Shared->Prop) (E:Value->Shared->Prop),C i j->Q (.int (g i j) s.toks) { s with toks:=s.toks+1 }->wpAny (model X.prog X.w) X.A (f (.int i t) (.int j u)) Q E s) :
 OpR X f (rI C fun i j=>.int (g i j)):=by
 intro pins s σ H x y v u Q I rx ry h
 obtain ⟨i,j,rfl,rfl,hc,q⟩:=h
 obtain ⟨t,rfl⟩:=rx
 obtain ⟨t',rfl⟩:=ry
 exact rule i j t t' s _ _ hc ⟨.int (g i j),H,I.tok _,⟨_,rfl⟩,q⟩
theorem yf {f:Value->Value->Sem Value} {g:Int->Int->Int}
 (rule:∀ (i j:Int) (t u:Tok) (s:Shared) (Q:Value->Shared->Prop) (E:Value->Shared->Prop),Q (.int (g i j) s.toks) { s with toks:=s.toks+1 }->wpAny (model X.prog X.w) X.A (f (.int i t) (.int j u)) Q E s) :
 OpR X f (rI0 fun i j=>.int (g i j)):=by
 intro pins s σ H x y v u Q I rx ry h
 obtain ⟨i,j,rfl,rfl,q⟩:=h
 obtain ⟨t,rfl⟩:=rx
 obtain ⟨t',rfl⟩:=ry
 exact rule i j t t' s _ _ ⟨.int (g i j),H,I.tok _,⟨_,rfl⟩,q⟩
theorem lu {f:Value->Value->Sem Value} {g:Int->Int->Bool}
 (rule:∀ (i j:Int) (t u:Tok) (s:Shared) (Q:Value->Shared->Prop) (E:Value->Shared->Prop),Q (.bool (g i j)) s->wpAny (model X.prog X.w) X.A (f (.int i t) (.int j u)) Q E s) :
 OpR X f (rI0 fun i j=>.bl (g i j)):=by
 intro pins s σ H x y v u Q I rx ry h
 obtain ⟨i,j,rfl,rfl,q⟩:=h
 obtain ⟨t,rfl⟩:=rx
 obtain ⟨t',rfl⟩:=ry
 exact rule i j t t' s _ _ ⟨.bl (g i j),H,I,rfl,q⟩
def Mi (i j:Int):Prop:=0<=j/\j<=1000000/\i.natAbs<2^64
def CMul (i j:Int):Prop:=(-(2^64)<i/\i<2^64)\/(-(2^64)<j/\j<2^64)
theorem CMul.ok {i j:Int} (h:CMul i j):IntMulOk i j:=by
 rcases h with ⟨h1,h2⟩ | ⟨h1,h2⟩
 ·exact .of_left (intBits_le_64 h1 h2)
 ·exact .of_right (intBits_le_64 h1 h2)
theorem bI:OpR X (binaryOp .Add) (rI0 fun i j=>.int (i+j)):=yf fun _ _ _ _ _ _ _ q=>add_int q
theorem cs:OpR X (binaryOp .Sub) (rI0 fun i j=>.int (i-j)):=yf fun _ _ _ _ _ _ _ q=>sub_int q
theorem DS:OpR X (binaryOp .Mod) (rI (fun _ j=>0<j) fun i j=>.int (i%j)):=opI fun i j _ _ _ _ _ hc q=>by
 have h1:(0:Int)<j:=hc
 exact mod_int' (by omega) (by rw [Int.fmod_eq_emod_of_nonneg i (by omega)];exact q)
theorem pA:OpR X (binaryOp .Pow) (rI Mi fun i j=>.int (i^j.toNat)):=opI fun _ _ _ _ _ _ _ hc q=>pow_int_small hc.1 hc.2.1 hc.2.2 q
theorem unI {f:Value->Sem Value} {g:Int->Int}
 (rule:∀ (i:Int) (t:Tok) (s:Shared) (Q:Value->Shared->Prop) (E:Value->Shared->Prop),Q (.int (g i) s.toks) { s with toks:=s.toks+1 }->wpAny (model X.prog X.w) X.A (f (.int i t)) Q E s) :
 UnR X f (rU fun i=>.int (g i)):=by
 intro pins s σ H x v Q I rx h
 obtain ⟨i,rfl,q⟩:=h
 obtain ⟨t,rfl⟩:=rx
 exact rule i t s _ _ ⟨.int (g i),H,I.tok _,⟨_,rfl⟩,q⟩
theorem bT:UnR X (unaryOp .USub) (rU fun i=>.int (-i)):=unI fun _ _ _ _ _ q=>neg_int q
end
section
variable {X:Cx} {a b c:Expr} {ta tb tc:TE} {pos:Pos}
theorem HN {pins:List (Addr×Obj)} {σ:St} {H:Hp} {s:Shared} {Q:VK} {k k':Bool} (I:Inv X pins σ H s) (q:Q (.bl k) H) (e:k=k'):EP X pins σ Q (.bool k') s:=by
 subst e
 exact ⟨.bl k,H,I,rfl,q⟩
theorem du:OpR X (compareOp .Lt) (rI0 fun i j=>.bl (decide (i<j))):=lu fun _ _ _ _ _ _ _ q=>lt_int q
theorem sM:OpR X (compareOp .LtE) (rI0 fun i j=>.bl (decide (i<=j))):=lu fun _ _ _ _ _ _ _ q=>le_int q
theorem cW:OpR X (compareOp .Gt) (rI0 fun i j=>.bl (decide (j<i))):=lu fun _ _ _ _ _ _ _ q=>gt_int q
theorem pB:OpR X (compareOp .GtE) (rI0 fun i j=>.bl (decide (j<=i))):=lu fun _ _ _ _ _ _ _ q=>ge_int q
theorem yd:OpR X (compareOp .Is) (fun x y H Q=>y=.non/\Q (.bl (decide (x=.non))) H):=by
 intro pins s σ H x y v u Q I rx ry h
 obtain ⟨rfl,q⟩:=h
 cases ry
 refine is_none_gen (HN I q ?_)
 cases x<;>first
  | (cases rx;rfl)
  | (obtain ⟨t,rfl⟩:=rx;rfl)
theorem OpR.or {f:Value->Value->Sem Value} {r r':R2} (h:OpR X f r) (h':OpR X f r'):OpR X f (fun x y H Q=>r x y H Q\/r' x y H Q):=by
 intro pins s σ H x y v u Q I rx ry q
 rcases q with q | q
 ·exact h pins s σ H x y v u Q I rx ry q
 ·exact h' pins s σ H x y v u Q I rx ry q
theorem aH (b:Expr) {op:CmpOp} (h:op≠.In:=by decide) (h2:op≠.NotIn:=by decide):behindInMarks op b=false:=by
 have e1:(op == CmpOp.In)=false:=by cases op<;>first | rfl | exact absurd rfl h
 have e2:(op == CmpOp.NotIn)=false:=by cases op<;>first | rfl | exact absurd rfl h2
 cases b<;>simp [behindInMarks,e1,e2]
theorem dZ {op:CmpOp} {r:R2} (ho:OpR X (compareOp op) r) (ha:PE X a ta) (hb:PE X b tb) (hm:behindInMarks op b=false):PE X (.Compare a [op] [b] pos) (tOp r ta tb):=by
 intro pins s σ H Q I h
 exact wpAny_Compare1 (vf ha hb I h fun v u s2 x y H2 I2 rx ry q=>ho pins s2 σ H2 x y v u Q I2 rx ry q) hm
def By (t:TE):TT:=fun σ H Q=>t σ H fun x H'=>∃ k,x=.bl k/\Q k H'
theorem aM {op:CmpOp} {r:R2} (ho:OpR X (compareOp op) r) (ha:PE X a ta) (hb:PE X b tb) (hm:behindInMarks op b=false):PT X (.Compare a [op] [b] pos) (By (tOp r ta tb)):=by
 intro pins s σ H Q I h
 refine wpAny_isTrue_Compare1 (thn (ha pins s σ H _ I h) fun v s1 ⟨x,H1,I1,r1,q1⟩=>thn (hb pins s1 σ H1 _ I1 q1) fun u s2 ⟨y,H2,I2,r2,q2⟩ =>
  thn (ho pins s2 σ H2 x y v u _ I2 r1 r2 q2) fun c s3 ⟨z,H3,I3,r3,k,e,q3⟩=>?_) hm
 subst e
 cases r3
 exact wpAny_truthy_bool ⟨H3,I3,q3⟩
def AQ (K:PySem.W.Frag) (x:V) (H:Hp) (k:Bool):Prop :=
 match x with
 | .non=>k=false
 | .bl b=>k=b
 | .int i=>k=(i != 0)
 | .str y=>y.length<=sizeLine/\k=((y.length:Int) != 0)
 | .byt y=>y.size<=sizeLine/\k=((y.size:Int) != 0)
 | .ref p=>(∃ xs,SqL K H p xs/\k=!xs.isEmpty)\/(∃ xs,SqT K H p xs/\k=!xs.isEmpty)\/∃ kvs,H p=some (.dK kvs)/\k=!kvs.isEmpty
 | _=>False
theorem Hh {κ:Type} {kvs:List (κ×V)} {vs:List (κ×Value)} (r:KV kvs vs):(!vs.isEmpty)=!kvs.isEmpty:=by
 cases r<;>rfl
theorem zf {xs:List V} {its:List Value} (r:Vals xs its):(!its.toArray.isEmpty)=!xs.isEmpty:=by
 cases r<;>simp
theorem ng:(sizeLine:Nat)<2^63:=by rw [sizeLine_eq];decide
theorem Bj:KJ X (fun x H Q=>∃ k,AQ X.K x H k/\Q k H):=by
 intro pins s σ H x v Q I rx h
 obtain ⟨k,e,q⟩:=h
 have hl:=ng
 have hs:sizeLine=16777216:=sizeLine_eq
 cases x with
 | non =>
   cases rx
   have e':k=false:=e
   subst e'
   exact truthy_none ⟨H,I,q⟩
 | bl b =>
   cases rx
   have e':k=b:=e
   subst e'
   exact wpAny_truthy_bool ⟨H,I,q⟩
 | int i =>
   obtain ⟨t,rfl⟩:=rx
   have e':k=(i != 0):=e
   subst e'
   exact PySem.P.truthy_int ⟨H,I,q⟩
 | str y =>
   obtain ⟨t,rfl⟩:=rx
   obtain ⟨hy,e'⟩:y.length<=sizeLine/\k=((y.length:Int) != 0):=e
   subst e'
   exact PySem.P.truthy_str (by omega) ⟨H,I.tok _,q⟩
 | byt y =>
   obtain ⟨t,rfl⟩:=rx
   obtain ⟨hy,e'⟩:y.size<=sizeLine/\k=((y.size:Int) != 0):=e
   subst e'
   exact PySem.W.truthy_bytes (by omega) ⟨H,I.tok _,q⟩
 | ref p =>
   cases rx
   have e':(∃ xs,SqL X.K H p xs/\k=!xs.isEmpty)\/(∃ xs,SqT X.K H p xs/\k=!xs.isEmpty)\/∃ kvs,H p=some (.dK kvs)/\k=!kvs.isEmpty:=e
   rcases e' with ⟨xs,hx,e'⟩ | ⟨xs,hx,e'⟩ | ⟨kvs,hx,e'⟩
   ·subst e'
    obtain ⟨its,r,pl,hz⟩:=I.list hx
    have hlen:=r.length
    exact wpAny_truthy_list pl.isList (by simp only [List.size_toArray];omega) ⟨H,I.tok _,by rw [zf r];exact q⟩
   ·subst e'
    obtain ⟨its,r,pl,hz⟩:=I.tuple hx
    have hlen:=r.length
    exact truthy_tuple pl (by simp only [List.size_toArray];omega) ⟨H,I.tok _,by rw [zf r];exact q⟩
   ·subst e'
    obtain ⟨hz,hS,vs,r,m⟩:kvs.length<=sizeLine/\(p == sysModules)=false/\∃ vs,KV kvs vs/\s.heap.DictOf (sZ X.prog X.w) p vs:=I.hok p _ hx
    have hlen:kvs.length=vs.length:=Paired.length r
    exact wpAny_truthy_dict hS m (by omega) ⟨H,I.tok _,by rw [Hh r];exact q⟩
 | _=>exact (show False from e).elim
theorem Ds (ha:PE X a ta) (he:∀ whole,isTrue a X.env whole=(do let v <- whole;standAt a.pos;holding [v] (truthy v))) :
 PT X a (fun σ H Q=>ta σ H fun x H'=>∃ k,AQ X.K x H' k/\Q k H'):=by
 intro pins s σ H Q I h
 exact isTrue_plain (thn (ha pins s σ H _ I h) fun v s1 ⟨x,H1,I1,r1,q1⟩=>Bj pins s1 σ H1 x v Q I1 r1 q1) (he _)
theorem gu {x:V} {us:List Value} (r:Vals [x] us):∃ u,us=[u]/\RelV x u:=by
 cases r with
 | cons r1 r2=>cases r2;exact ⟨_,rfl,r1⟩
theorem A8 {x y:V} {us:List Value} (r:Vals [x,y] us):∃ u w',us=[u,w']/\RelV x u/\RelV y w':=by
 cases r with
 | cons r1 r2 =>
   cases r2 with
   | cons r3 r4=>cases r4;exact ⟨_,_,rfl,r1,r3⟩
theorem fz:CallR X (.builtin "abs") (fun xs H Q=>∃ i,xs=[.int i]/\Q (.int (if i<0 then -i else i)) H):=by
 intro pins s σ H xs us Q I r h
 obtain ⟨i,rfl,q⟩:=h
 obtain ⟨u,rfl,t,rfl⟩:=gu r
 exact call_abs_int fun u tk=>⟨.int (if i<0 then -i else i),H,I.tok _,⟨_,rfl⟩,q⟩
theorem Av (hc:X.calm=true):CallR X (.builtin "max") (fun xs H Q=>∃ i j,xs=[.int i,.int j]/\Q (.int (if j>i then j else i)) H):=by
 intro pins s σ H xs us Q I r h
 obtain ⟨i,j,rfl,q⟩:=h
 obtain ⟨u,w',rfl,⟨t,rfl⟩,⟨t',rfl⟩⟩:=A8 r
 refine max_two_ints (I.ok.hd hc) fun h' tk k=>⟨_,H,I.kept k,?_,q⟩
 by_cases hj:j>i
 ·rw [if_pos hj,if_pos hj];exact ⟨_,rfl⟩
 ·rw [if_neg hj,if_neg hj];exact ⟨_,rfl⟩
theorem qt:CallR X (.type "int") (fun xs H Q=>(∃ i,xs=[.int i]/\Q (.int i) H)\/∃ k,xs=[.bl k]/\Q (.int (if k then 1 else 0)) H):=by
 intro pins s σ H xs us Q I r h
 rcases h with ⟨i,rfl,q⟩ | ⟨k,rfl,q⟩
 ·obtain ⟨u,rfl,t,rfl⟩:=gu r
  exact call_int_int ⟨.int i,H,I,⟨_,rfl⟩,q⟩
 ·obtain ⟨u,rfl,r1⟩:=gu r
  cases r1
  exact call_int_bool ⟨.int (if k then 1 else 0),H,I.tok _,⟨_,rfl⟩,q⟩
end
end L2
namespace L2
open PySem PySem.Spec PyProof.Rows
structure ObjM (h:Heap) (x dx C:Addr) (mA:Str->Option Value):Prop where
 obj:h.get? x=some (PySem.W.instObj C dx)
 ns:h.Ns1 dx mA
 ne:dx≠x
theorem Gu {h:Heap} {dx:Addr} {mA:Str->Option Value} (n:h.Ns1 dx mA):∃ od,h.get? dx=some od/\∀ name,PySem.W.lookIn name od=some (mA name):=by
 obtain ⟨o,es,ep,ho,hd,hk,_,hm⟩:=n
 refine ⟨o,ho,fun name=>?_⟩
 have e:=hm name
 unfold nsFind findBy at e
 rw [<- Array.find?_toList] at e
 unfold PySem.W.lookIn
 rw [hd]
 dsimp only
 split
 ·rename_i y q
  rw [q] at e
  exact congrArg some e
 ·rename_i q
  rw [q] at e
  have a:es.toList.any (·.refKey)=false:=by
   rw [List.any_eq_false]
   intro y hy
   obtain ⟨z,t,hkey⟩:=hk y (Array.mem_toList_iff.mp hy)
   simp [DictEntry.refKey,hkey]
  have a':¬ es.toList.any (·.refKey)=true:=by rw [a];exact Bool.false_ne_true
  rw [if_neg a']
  exact congrArg some e
theorem ObjM.look {h:Heap} {x dx C:Addr} {mA:Str->Option Value} (I:ObjM h x dx C mA):∃ od,PySem.W.InstAt h x (PySem.W.instObj C dx) C (some od)/\∀ name,PySem.W.lookIn name od=some (mA name) :=
 let ⟨od,ho,hl⟩:=Gu I.ns
 ⟨od,⟨I.obj,rfl,rfl,ho⟩,hl⟩
section
variable {prog:Program} {w:World} {A:Around} {E:Value->Shared->Prop} {s:Shared} {K:PySem.W.Frag} {x dx C f:Addr} {mA:Str->Option Value} {name:Str} {v:Value}
theorem HD {expr:Bool} {Q:Value->Shared->Prop} (X:K.In s.heap) (I:ObjM s.heap x dx C mA) (hg:PySem.W.plainGet K C name=true) (hh:PySem.W.hasDictIn K C=true)
 (ha:PySem.W.findIn K (.ref C) name=some none) (hv:mA name=some v) (hv':PySem.W.handedIn v=true) (h:Q v { s with toks:=s.toks+1 }) :
 wpAny (model prog w) A (getAttr (.ref x) name expr) Q E s:=by
 obtain ⟨od,J,hl⟩:=I.look
 exact PySem.W.get_value X J (PySem.W.plainGet_of hg).1 (PySem.W.findObj_own hh ha rfl (by rw [hl,hv])) hv' h
theorem HC {pl:Sem Bool} {Q:Value×List Value->Shared->Prop} (X:K.In s.heap) (I:ObjM s.heap x dx C mA) (hg:PySem.W.plainGet K C name=true)
 (hf:PySem.W.findIn K (.ref C) name=some (some (.ref f))) (ht:PySem.W.isFn K (.ref f)=true) (hv:mA name=none) (h:Q (.ref f,[.ref x]) s) :
 wpAny (model prog w) A (getMethod (.ref x) name pl) Q E s:=by
 obtain ⟨od,J,hl⟩:=I.look
 exact PySem.W.method_fn X J (PySem.W.plainGet_of hg).1 (PySem.W.plainGet_of hg).2 hf (beq_iff_eq.mp ht) (by show (PySem.W.lookIn name od).map (·.isSome)=some false;rw [hl,hv];rfl) h
theorem rZ {ns:List Str} {Q:Unit->Shared->Prop} (X:K.In s.heap) (I:ObjM s.heap x dx C mA)
 (hs:PySem.W.findIn K (.ref C) "__setattr__"=some (some (.builtin "object.__setattr__"))) (hp:PySem.W.plainOver K C=true) (ht:PySem.W.takerIn K C name=some none) (hh:PySem.W.hasDictIn K C=true)
 (hw:PySem.Within mA ns) (hsz:ns.length<=sizeLine)
 (h:∀ h',ObjM h' x dx C (fun y=>if y=name then some v else mA y)->Heap.SameBut dx s.heap h'->Q () { s with heap:=h',toks:=s.toks+2 }) :
 wpAny (model prog w) A (setAttr (.ref x) name v) Q E s:=by
 obtain ⟨od,J,hl⟩:=I.look
 refine PySem.W.set_plain X J hs (PySem.W.osa_open (s:={ s with toks:=s.toks+1 }) (r:=none) X J hp ht fun b=>?_)
 obtain ⟨cd,hc,hd'⟩:=PySem.W.any_some hh
 have hx:s.heap.get? x=some ⟨.ref C,some dx,.plain,#[]⟩:=I.obj
 refine wpAny_bind (wpAny_pure (wpAny_bind (wpAny_bind (wpAny_loadPart hx (wpAny_bind (PySem.W.Looks.here (s:={ s with toks:=s.toks+1 }) (PySem.W.looks_clsIn X hc) ?_))))))
 rw [hd']
 refine wpAny_pure (a:=some dx) (wpAny_bind (wpAny_pure (wpAny_bind ?_)))
 refine wpAny_nsSet1 (s:={ s with toks:=s.toks+1 }) I.ns fun h' hn2 hs2=>?_
 obtain ⟨oD,esD,epD,hoD,hdD,hcD⟩:=hn2.count (PySem.Within.cons name v hw)
 refine wpAny_bind (wpAny_lookBehind hoD (by rw [hdD];exact pastItsLine_dict (Nat.le_trans hcD (by rw [List.length_cons];omega))) ?_)
 exact wpAny_pure (h _ ⟨(hs2.2 _ (Ne.symm I.ne)).trans I.obj,hn2,I.ne⟩ hs2)
theorem FG {R:Result->Shared->Prop} {vs:List Value} {kw:List (Str×Value)} (X:K.In s.heap) (hm:PySem.W.makesIn K C=true)
 (hi:PySem.W.findIn K (.ref C) "__init__"=some (some (.ref f))) (hf:PySem.W.typeIn K (.ref f)=some (.type "function"))
 (h:codeAny (model prog w) (A.under (.builtin "type.__call__" ⟨.ref C::vs,kw⟩)) (.call (.ref f) ⟨.ref (s.heap.objs.size+1)::vs,kw⟩) (PySem.W.InitBack (s.heap.objs.size+1) R)
   { s with heap:=(s.heap.push PySem.W.emptyDict).push (PySem.W.instObj C s.heap.objs.size) }) :
 codeAny (model prog w) A (.call (.ref C) ⟨vs,kw⟩) R s:=by
 obtain ⟨hh,g,d,t,os⟩:=s
 exact PySem.W.make_core (PySem.W.makes_of X hm) (PySem.W.looks_findIn X hi) (fun self=>PySem.W.bind_fn X self hf) (.inl rfl) h
end
def cK (f:Str) (v:V):List (Str×V)->List (Str×V)
 | []=>[(f,v)]
 | (g,x)::r=>if g=f then (g,v)::r else (g,x)::cK f v r
theorem dL (f g:Str) (v:V):∀ fs:List (Str×V),(cK f v fs).lookup g=if g=f then some v else fs.lookup g
 | []=>by
   show List.lookup g [(f,v)]=_
   by_cases h:g=f
   ·have hb:(g == f)=true:=beq_iff_eq.mpr h
    simp only [List.lookup,hb,if_pos h]
   ·have hb:(g == f)=false:=beq_eq_false_iff_ne.mpr h
    simp only [List.lookup,hb,if_neg h]
 | (k,x)::r=>by
   have ih:=dL f g v r
   rw [show cK f v ((k,x)::r)=(if k=f then (k,v)::r else (k,x)::cK f v r) from rfl]
   by_cases hk:k=f
   ·rw [if_pos hk]
    by_cases h:g=k
    ·have hb:(g == k)=true:=beq_iff_eq.mpr h
     simp only [List.lookup,hb,if_pos (h.trans hk)]
    ·have hb:(g == k)=false:=beq_eq_false_iff_ne.mpr h
     simp only [List.lookup,hb,if_neg (fun e:g=f=>h (e.trans hk.symm))]
   ·rw [if_neg hk]
    by_cases h:g=k
    ·have hb:(g == k)=true:=beq_iff_eq.mpr h
     simp only [List.lookup,hb,if_neg (fun e:g=f=>hk (h.symm.trans e))]
    ·have hb:(g == k)=false:=beq_eq_false_iff_ne.mpr h
     simp only [List.lookup,hb]
     exact ih
theorem tG (f:Str) (v:V):∀ fs:List (Str×V),f∈(cK f v fs).map (·.1)/\∀ g,g∈fs.map (·.1)->g∈(cK f v fs).map (·.1)
 | []=>⟨by simp [cK],fun g h=>by simp at h⟩
 | (k,x)::r=>by
   obtain ⟨i1,i2⟩:=tG f v r
   rw [show cK f v ((k,x)::r)=(if k=f then (k,v)::r else (k,x)::cK f v r) from rfl]
   by_cases hk:k=f
   ·rw [if_pos hk]
    subst hk
    exact ⟨by simp,fun g h=>by simpa using h⟩
   ·rw [if_neg hk]
    refine ⟨?_,fun g h=>?_⟩
    ·rw [List.map_cons]
     exact List.mem_cons_of_mem _ i1
    ·rw [List.map_cons] at h ⊢
     rcases List.mem_cons.mp h with e | e
     ·exact List.mem_cons.mpr (.inl e)
     ·exact List.mem_cons_of_mem _ (i2 g e)
theorem yW (f:Str) (v:V):∀ fs:List (Str×V),(cK f v fs).length<=fs.length+1
 | []=>by simp [cK]
 | (k,x)::r=>by
   have ih:=yW f v r
   rw [show cK f v ((k,x)::r)=(if k=f then (k,v)::r else (k,x)::cK f v r) from rfl]
   by_cases hk:k=f
   ·rw [if_pos hk,List.length_cons,List.length_cons];omega
   ·rw [if_neg hk,List.length_cons,List.length_cons];omega
theorem RelO.some_of {v:V} {o:Option Value} (r:RelO (some v) o):∃ u,o=some u/\RelV v u:=by
 cases o with
 | none=>exact (show False from r).elim
 | some u=>exact ⟨u,rfl,r⟩
theorem RelO.none_of {o:Option Value} (r:RelO none o):o=none:=by
 cases o with
 | none=>rfl
 | some u=>exact (show False from r).elim
theorem Hu {v:V} {u:Value} (r:RelV v u):PySem.W.handedIn u=true:=by
 cases v with
 | non=>cases (show u=Value.none from r);rfl
 | bl b=>cases (show u=Value.bool b from r);rfl
 | int i=>obtain ⟨t,e⟩:=(show ∃ t,u=Value.int i t from r);cases e;rfl
 | str x=>obtain ⟨t,e⟩:=(show ∃ t,u=Value.str x t from r);cases e;rfl
 | byt b=>obtain ⟨t,e⟩:=(show ∃ t,u=Value.bytes b t from r);cases e;rfl
 | flt b=>obtain ⟨t,e⟩:=(show ∃ t,u=Value.float b t from r);cases e;rfl
 | ref a=>cases (show u=Value.ref a from r);rfl
 | ty n=>cases (show u=Value.type n from r);rfl
section
variable {P:Program} {w:World} {H H':Hp} {h h':Heap} {a C dx:Addr} {fs fs':List (Str×V)}
theorem pY (hok:HOk P w H h) (e:H a=some (.ins C dx fs)):∃ mA,ObjM h a dx C mA/\(∀ f,RelO (fs.lookup f) (mA f))/\PySem.Within mA (fs.map (·.1))/\fs.length<=1000/\H dx=some (.own a):=by
 obtain ⟨d,z,ne,ob,mA,n,r,q⟩:=(show ObjOk P w H h a (.ins C dx fs) from hok a _ e)
 exact ⟨mA,⟨ob,n,ne⟩,r,q,z,d⟩
end
structure Cls (K:PySem.W.Frag) (C:Addr):Prop where
 pg:PySem.W.plainGet K C Str.empty=true
 hd:PySem.W.hasDictIn K C=true
 po:PySem.W.plainOver K C=true
 sa:PySem.W.findIn K (.ref C) "__setattr__"=some (some (.builtin "object.__setattr__"))
theorem Cls.get {K:PySem.W.Frag} {C:Addr} (c:Cls K C) (f:Str):PySem.W.plainGet K C f=true:=c.pg
def NoAttr (K:PySem.W.Frag) (C:Addr) (f:Str):Prop:=PySem.W.findIn K (.ref C) f=some none
theorem NoAttr.taker {K:PySem.W.Frag} {C:Addr} {f:Str} (n:NoAttr K C f):PySem.W.takerIn K C f=some none:=by
 unfold PySem.W.takerIn
 rw [show PySem.W.findIn K (.ref C) f=some none from n]
 rfl
structure Meth (K:PySem.W.Frag) (C:Addr) (m:Str) (f:Addr):Prop where
 at_:PySem.W.findIn K (.ref C) m=some (some (.ref f))
 fn:PySem.W.isFn K (.ref f)=true
 kp:PySem.W.keepIn K (.ref f)=true
section
variable {X:Cx} {pins:List (Addr×Obj)} {σ:St} {H:Hp} {s:Shared} {a C dx:Addr} {fs:List (Str×V)} {f:Str} {v:V} {A:Around} {E:Value->Shared->Prop}
theorem HB {b:Bool} {Q:Value->Shared->Prop} (I:Inv X pins σ H s) (e:H a=some (.ins C dx fs)) (c:Cls X.K C) (n:NoAttr X.K C f) (l:fs.lookup f=some v)
 (h:∀ u s',Inv X pins σ H s'->RelV v u->Q u s'):wpAny (model X.prog X.w) A (getAttr (.ref a) f b) Q E s:=by
 obtain ⟨mA,O,r,_,_,_⟩:=pY I.hok e
 obtain ⟨u,hu,ru⟩:=RelO.some_of (v:=v) (o:=mA f) (by rw [<- l];exact r f)
 exact HD I.kIn O (c.get f) c.hd n hu (Hu ru) (h u _ (I.tok _) ru)
theorem zt {m:Str} {g:Addr} {pl:Sem Bool} {Q:Value×List Value->Shared->Prop} (I:Inv X pins σ H s) (e:H a=some (.ins C dx fs)) (c:Cls X.K C) (k:Meth X.K C m g) (l:fs.lookup m=none)
 (h:Q (.ref g,[.ref a]) s):wpAny (model X.prog X.w) A (getMethod (.ref a) m pl) Q E s:=by
 obtain ⟨mA,O,r,_,_,_⟩:=pY I.hok e
 have hn:mA m=none:=RelO.none_of (by rw [<- l];exact r m)
 exact HC I.kIn O (c.get m) k.at_ k.fn hn h
theorem Cf {y:V} {u:Value} {Q:Unit->Shared->Prop} (I:Inv X pins σ H s) (e:H a=some (.ins C dx fs)) (c:Cls X.K C) (n:NoAttr X.K C f) (hl:fs.length<1000) (ry:RelV y u)
 (h:∀ s',Inv X pins σ (upd H a (.ins C dx (cK f y fs))) s'->Q () s'):wpAny (model X.prog X.w) A (setAttr (.ref a) f u) Q E s:=by
 obtain ⟨mA,O,r,wi,_,ho⟩:=pY I.hok e
 have hz:(fs.map (·.1)).length<=sizeLine:=by rw [List.length_map,sizeLine_eq];omega
 refine rZ I.kIn O c.sa c.po n.taker c.hd wi hz fun h' O' sb=>h _ ?_
 have hd:∃ o,h'.get? dx=some o:=let ⟨o,_,_,e',_⟩:=O'.ns;⟨o,e'⟩
 refine I.write (x:=a) (e:=dx) (by rw [e];exact True.intro) (.inr ho) (fun b q hb z=>(sb.2 b hb).trans z) hd ?_
 refine ⟨by rw [upd_ne O.ne];exact ho,?_,O.ne,O'.obj,_,O'.ns,fun g=>?_,fun g hg=>?_⟩
 ·have:=yW f y fs;omega
 ·show RelO ((cK f y fs).lookup g) (if g=f then some u else mA g)
  rw [dL]
  by_cases q:g=f
  ·rw [if_pos q,if_pos q];exact ry
  ·rw [if_neg q,if_neg q];exact r g
 ·by_cases q:g=f
  ·rw [q];exact (tG f y fs).1
  ·refine (tG f y fs).2 g (wi g fun z=>hg ?_)
   show (if g=f then some u else mA g)=none
   rw [if_neg q];exact z
theorem Inv.made (I:Inv X pins σ H s):Inv X pins σ (upd (upd H s.heap.objs.size (.own (s.heap.objs.size+1))) (s.heap.objs.size+1) (.ins C s.heap.objs.size []))
 { s with heap:=(s.heap.push PySem.W.emptyDict).push (PySem.W.instObj C s.heap.objs.size) }:=by
 have e1:(s.heap.push PySem.W.emptyDict).get? s.heap.objs.size=some PySem.W.emptyDict:=Heap.get?_push_size s.heap rfl
 have e2:((s.heap.push PySem.W.emptyDict).push (PySem.W.instObj C s.heap.objs.size)).get? (s.heap.objs.size+1)=some (PySem.W.instObj C s.heap.objs.size):=by
  have:=Heap.get?_push_size (s.heap.push PySem.W.emptyDict) (o:=PySem.W.instObj C s.heap.objs.size) rfl
  rwa [Heap.size_push] at this
 have e3:(s.heap.push PySem.W.emptyDict).Ns s.heap.objs.size (fun _=>none):=⟨PySem.W.emptyDict,#[],_,e1,rfl,(fun e he=>absurd he (by simp)),fun _=>rfl⟩
 have I1:=I.laid (a:=s.heap.objs.size) (o:=.own (s.heap.objs.size+1)) (h':=s.heap.push PySem.W.emptyDict) (t':=s.toks) (fun b u q=>Heap.get?_push_of_some _ q) (Nat.le_refl _) ⟨_,e1⟩
 refine I1.laid (a:=s.heap.objs.size+1) (o:=.ins C s.heap.objs.size []) (t':=s.toks) (fun b u q=>Heap.get?_push_of_some _ q) (Nat.le_of_eq (Heap.size_push _ _)) ?_
 have ne:s.heap.objs.size≠s.heap.objs.size+1:=Nat.ne_of_lt (Nat.lt_succ_self _)
 refine ⟨by rw [upd_ne ne,av],Nat.zero_le _,ne,e2,fun _=>none,(Heap.Ns1.of_empty e3).at fun o q=>Heap.get?_push_of_some _ q,fun _=>True.intro,fun y hy=>absurd rfl hy⟩
theorem KA {prog:Program} {w:World} {env:Env} {e:Expr} {f:Str} {pos:Pos} {s:Shared} {Q:Value->Shared->Prop} (hb:attributeBase e f env (eval e env)=eval e env)
 (h:wpAny (model prog w) A (eval e env) (fun o s₁=>wpAny (model prog w) A (getAttr o f true) Q E s₁) E s):wpAny (model prog w) A (eval (.Attribute e f pos) env) Q E s :=
 Attribute_any_ h (by rw [arm_eval_Attribute,hb])
end
def wB (K:PySem.W.Frag) (ta:TE) (f:Str):TE:=fun σ H Q=>ta σ H fun x H1=>∃ a C dx fs v,x=.ref a/\H1 a=some (.ins C dx fs)/\Cls K C/\NoAttr K C f/\fs.lookup f=some v/\Q v H1
def CK (K:PySem.W.Frag) (ta tv:TE) (f:Str):TS:=fun D σ H=>tv σ H fun y H1=>ta σ H1 fun x H2=>∃ a C dx fs,x=.ref a/\H2 a=some (.ins C dx fs)/\Cls K C/\NoAttr K C f/\fs.length<1000 /\
 D.nx σ (upd H2 a (.ins C dx (cK f y fs)))
section
variable {X:Cx} {o e value:Expr} {f:Str} {pos pos' tpos:Pos} {ta tv:TE}
theorem DO (he:PE X e ta) (hb:attributeBase e f X.env (eval e X.env)=eval e X.env):PE X (.Attribute e f pos) (wB X.K ta f):=by
 intro pins s σ H Q I h
 refine KA hb (thn (he pins s σ H _ I h) fun u s1 ⟨x,H1,I1,rx,a,C,dx,fs,v,ex,ea,c,n,l,q⟩=>?_)
 subst ex
 obtain rfl:u=Value.ref a:=rx
 exact HB I1 ea c n l fun u' s2 I2 ru=>⟨v,H1,I2,ru,q⟩
theorem mP (ha:PE X o ta) (hv:PE X value tv) (hs:swapsWith value (some (.Attribute o f pos')) pos.line X.env=pure false):PS X (.Assign [.Attribute o f pos'] value pos) (CK X.K ta tv f):=by
 intro pins s σ H D I h
 refine plainObj_wpAny_Assign_Attribute (thn (hv pins s σ H _ I h) fun u s1 ⟨y,H1,I1,ry,q⟩=>thn (ha pins s1 σ H1 _ I1 q) fun ov s2 ⟨x,H2,I2,rx,a,C,dx,fs,ex,ea,c,n,l,q2⟩=>?_) hs
 subst ex
 obtain rfl:ov=Value.ref a:=rx
 exact Cf I2 ea c n l ry fun s3 I3=>⟨σ,_,I3,q2⟩
end
section
variable {X:Cx} {pins:List (Addr×Obj)} {σ:St} {H:Hp} {s:Shared} {A:Around} {E:Value->Shared->Prop} {Q:Value->Shared->Prop} {c:Value} {b:Bool}
inductive TyOf (K:PySem.W.Frag) (H:Hp):V->Value->Prop where
 | non:TyOf K H .non (.type "NoneType")
 | bl (x:Bool):TyOf K H (.bl x) (.type "bool")
 | int (i:Int):TyOf K H (.int i) (.type "int")
 | str (x:Str):TyOf K H (.str x) (.type "str")
 | flt (x:UInt64):TyOf K H (.flt x) (.type "float")
 | lst {a:Addr} {xs:List V} (e:H a=some (.lst xs)):TyOf K H (.ref a) (.type "list")
 | frz {a:Addr} {o:Obj} {xs:List V} (e:H a=some (.frz o (.lst xs))):TyOf K H (.ref a) (.type "list")
 | tup {a:Addr} {xs:List V} (e:H a=some (.tup xs)):TyOf K H (.ref a) (.type "tuple")
 | dK {a:Addr} {kvs:List (Key×V)} (e:H a=some (.dK kvs)):TyOf K H (.ref a) (.type "dict")
 | dT {a:Addr} {kvs:List (List Key×V)} (e:H a=some (.dT kvs)):TyOf K H (.ref a) (.type "dict")
 | ins {a C dx:Addr} {fs:List (Str×V)} (e:H a=some (.ins C dx fs)) (cl:Cls K C) (ha:PySem.W.findIn K (.ref C) "__class__"=some (some (.builtin "object.__class__")))
  (hn:PySem.W.specialIn K (.builtin "object.__class__") "__get__"=some (some (.builtin "getset_descriptor.__get__"))) (htk:PySem.W.takesIn K (.builtin "object.__class__")=some true)
  (hm:PySem.W.mroIn K C (.type "object")=some true):TyOf K H (.ref a) (.ref C)
theorem Hg {x:V} {u t:Value} (I:Inv X pins σ H s) (rx:RelV x u) (ty:TyOf X.K H x t) (e:PySem.W.kitOne X.K t c=some b) (h:∀ tk,Q (.bool b) { s with toks:=tk }) :
 wpAny (model X.prog X.w) A (call (.builtin "isinstance") [u,c]) Q E s:=by
 cases ty with
 | non=>cases (show u=Value.none from rx);exact PySem.W.kia_one PySem.W.kitx_none I.kIn True.intro e (fun z=>nomatch z) h
 | bl y=>cases (show u=Value.bool y from rx);exact PySem.W.kia_one PySem.W.kitx_bool I.kIn True.intro e (fun z=>nomatch z) h
 | int i=>obtain ⟨t,q⟩:=(show ∃ t,u=Value.int i t from rx);cases q;exact PySem.W.kia_one PySem.W.kitx_int I.kIn True.intro e (fun z=>nomatch z) h
 | str y=>obtain ⟨t,q⟩:=(show ∃ t,u=Value.str y t from rx);cases q;exact PySem.W.kia_one PySem.W.kitx_str I.kIn True.intro e (fun z=>nomatch z) h
 | flt y=>obtain ⟨t,q⟩:=(show ∃ t,u=Value.float y t from rx);cases q;exact PySem.W.kia_one PySem.W.kitx_float I.kIn True.intro e (fun z=>nomatch z) h
 | @lst a xs ea =>
   cases (show u=Value.ref a from rx)
   obtain ⟨_,_,n,_,h1⟩:=(show ObjOk X.prog X.w H s.heap a (.lst xs) from I.hok a _ ea)
   exact PySem.W.kia_one PySem.W.kitx_list I.kIn ⟨_,h1,rfl⟩ e (fun z=>nomatch z) h
 | @frz a ob xs ea =>
   cases (show u=Value.ref a from rx)
   obtain ⟨_,_,_,n,_,h1⟩:=(show ObjOk X.prog X.w H s.heap a (.frz ob (.lst xs)) from I.hok a _ ea)
   exact PySem.W.kia_one PySem.W.kitx_list I.kIn ⟨_,h1,rfl⟩ e (fun z=>nomatch z) h
 | @tup a xs ea =>
   cases (show u=Value.ref a from rx)
   obtain ⟨_,_,_,p⟩:=(show ObjOk X.prog X.w H s.heap a (.tup xs) from I.hok a _ ea)
   obtain ⟨o,h1,h2,_⟩:=p
   exact PySem.W.kia_one PySem.W.kitx_tuple I.kIn ⟨o,h1,h2⟩ e (fun z=>nomatch z) h
 | @dK a kvs ea =>
   cases (show u=Value.ref a from rx)
   obtain ⟨_,_,vs,_,p⟩:=(show ObjOk X.prog X.w H s.heap a (.dK kvs) from I.hok a _ ea)
   obtain ⟨o,es,ep,h1,h2,_⟩:=p
   exact PySem.W.kia_one PySem.W.kitx_dict I.kIn ⟨o,h1,h2.1⟩ e (fun z=>nomatch z) h
 | @dT a kvs ea =>
   cases (show u=Value.ref a from rx)
   obtain ⟨_,_,xs,_,o,es,ep,h1,h2,_⟩:=(show ObjOk X.prog X.w H s.heap a (.dT kvs) from I.hok a _ ea)
   exact PySem.W.kia_one PySem.W.kitx_dict I.kIn ⟨o,h1,h2.1⟩ e (fun z=>nomatch z) h
 | @ins a C dx fs ea cl ha hn htk hm =>
   cases (show u=Value.ref a from rx)
   obtain ⟨mA,O,_⟩:=pY I.hok ea
   obtain ⟨od,J,_⟩:=O.look
   exact PySem.W.kia_one (PySem.W.kitx_own (cl.get _) cl.hd ha hn htk hm) I.kIn J e (fun z=>nomatch z) h
end
end L2
namespace L2
open PySem PySem.Spec PyProof.Rows
structure Room (k:Nat) (A:Around):Prop where
 hd:A.handled=none
 dp:A.depth+3*k+5<recursionLimit
 un:A.units+16*k+200<cLine
theorem Room.mono {j k:Nat} {A:Around} (r:Room k A) (h:j<=k:=by decide):Room j A:=⟨r.hd,by have:=r.dp;omega,by have:=r.un;omega⟩
theorem Room.deeper {k:Nat} {A:Around} (r:Room (k+1) A) (env:Env):Room k (A.deeper env) :=
 ⟨r.hd,by have:=r.dp;show A.depth+1+3*k+5<_;omega,by have:=r.un;show A.units+3+16*k+200<_;omega⟩
theorem Room.in1 {k:Nat} {A:Around} (r:Room (k+1) A):Room k A.in1 :=
 ⟨r.hd,by have:=r.dp;show A.depth+3*k+5<_;omega,by have:=r.un;show A.units+1+16*k+200<_;omega⟩
theorem FH {A:Around} {C:Addr} {us:List Value} {kw:List (Str×Value)}:(A.under (.builtin "type.__call__" ⟨.ref C::us,kw⟩)).depth=A.depth+1:=by
 first | rfl | simp [Around.under,Code.weight,Code.isCreation,Code.isGuard,Code.isCaller,Code.frames,Code.isFrame,guardIds]
theorem FF {A:Around} {C:Addr} {us:List Value} {kw:List (Str×Value)}:(A.under (.builtin "type.__call__" ⟨.ref C::us,kw⟩)).units=A.units+1:=by
 first | rfl | simp [Around.under,Code.cUnits,Code.frames,Code.isFrame]
theorem Room.make {k:Nat} {A:Around} (r:Room (k+1) A) (C:Addr) (us:List Value) (kw:List (Str×Value)):Room k (A.under (.builtin "type.__call__" ⟨.ref C::us,kw⟩)) :=
 ⟨r.hd,by have:=r.dp;rw [FH];omega,by have:=r.un;rw [FF];omega⟩
theorem Room.depth {k:Nat} {A:Around} (r:Room k A):A.depth<recursionLimit:=by have:=r.dp;omega
theorem Room.units {k:Nat} {A:Around} (r:Room k A):A.units+64<cLine:=by have:=r.un;omega
def qH:TA:=fun _ H Q=>Q [] H
def qI (ta:TE) (tr:TA):TA:=fun σ H Q=>ta σ H fun x H1=>tr σ H1 fun xs H2=>Q (x::xs) H2
section
variable {X:Cx} {e:Expr} {es:List Expr} {te:TE} {t:TA} {pos:Pos}
theorem ac:PA X [] qH:=fun _ _ _ _ H Q I h=>Calls.spliced_nil ⟨[],H,I,.nil,h⟩
theorem aa (ha:PE X e te) (hr:PA X es t) (hs:starEach (e::es) X.env=(false,eval e X.env)::starEach es X.env:=by rfl):PA X (e::es) (qI te t):=by
 intro pos pins s σ H Q I h
 rw [hs]
 show wpAny _ _ (spliced ((false,eval e X.env)::backTo pos (starEach es X.env))) _ _ s
 refine Calls.spliced_cons (thn (ha pins s σ H _ I h) fun u s1 ⟨x,H1,I1,r1,q1⟩=>?_)
 exact thn (hr pos pins s1 σ H1 _ I1 q1) fun us s2 ⟨xs,H2,I2,r2,q2⟩=>⟨x::xs,H2,I2,.cons r1 r2,q2⟩
def Bx (t:TA):TE:=fun σ H Q=>t σ H fun xs H1=>xs.length<=sizeLine/\∀ p,H1 p=none->Q (.ref p) (upd H1 p (.tup xs))
def BD (t:TA):TE:=fun σ H Q=>t σ H fun xs H1=>xs.length<=sizeLine/\∀ p,H1 p=none->Q (.ref p) (upd H1 p (.lst xs))
theorem cU {x1} (h:PA X es t):PE X (.Tuple es x1 pos) (Bx t):=by
 intro pins s σ H Q I hq
 refine wpAny_Tuple_spliced (thn (h pos pins s σ H _ I hq) fun us s1 ⟨xs,H1,I1,r,z,q⟩=>⟨by rw [<- r.length];exact z,?_⟩)
 have hf:H1 s1.heap.objs.size=none:=I1.hok.fresh (Nat.le_refl _)
 refine ⟨.ref s1.heap.objs.size,upd H1 s1.heap.objs.size (.tup xs),I1.laid (t':=s1.toks) (fun b u e=>Heap.get?_push_of_some _ e) (Nat.le_refl _) ?_,rfl,q _ hf⟩
 exact ⟨z,us,r,⟨_,Heap.get?_push_size _ rfl,rfl,_,rfl⟩⟩
theorem bz (h:PA X es t):PE X (.List es pos) (BD t):=by
 intro pins s σ H Q I hq
 refine wpAny_List_spliced (thn (h pos pins s σ H _ I hq) fun us s1 ⟨xs,H1,I1,r,z,q⟩=>⟨by rw [<- r.length];exact z,?_⟩)
 have hf:H1 s1.heap.objs.size=none:=I1.hok.fresh (Nat.le_refl _)
 refine ⟨.ref s1.heap.objs.size,upd H1 s1.heap.objs.size (.lst xs),I1.laid (t':=s1.toks) (fun b u e=>Heap.get?_push_of_some _ e) (Nat.le_refl _) ?_,rfl,q _ hf⟩
 exact ⟨z,us,0,r,Heap.get?_push_size _ rfl⟩
end
abbrev Sp:=List V->Hp->VK->XK->Prop
abbrev CXT:=List Env->Hp->Shared->XK->Value->Shared->Prop
structure Env0 (P:Program) (w:World) (K:PySem.W.Frag) (mg:Str->Option Value) (base:Heap) (A:Around) (outer:List Env) (s:Shared) (H:Hp):Prop where
 frames:A.frames=some outer
 mod:Mod K mg base
 bs:∀ b o,base.get? b=some o->s.heap.get? b=some o/\H b=none
 bsz:base.objs.size<=s.heap.objs.size
 funs:s.heap.FunFrames base outer
 frf:∀ b∈frs outer,H b=none
 hok:HOk P w H s.heap
 bare:AllBare s.gens
def CE (outer:List Env) (P:Program) (w:World) (H:Hp) (s:Shared) (Q:VK) (u:Value) (s':Shared):Prop :=
 ∃ v H',s'.os=s.os/\AllBare s'.gens/\Un (frs outer) [] H H' s.heap s'.heap/\HOk P w H' s'.heap/\RelV v u/\Q v H'
def CR (CX:CXT) (outer:List Env) (P:Program) (w:World) (H:Hp) (s:Shared) (Q:VK) (E:XK) (r:Result) (s':Shared):Prop :=
 match r with
 | .ok (.ret u)=>CE outer P w H s Q u s'
 | .ok _=>False
 | .error e=>CX outer H s E e s'
structure FnOk (P:Program) (w:World) (K:PySem.W.Frag) (mg:Str->Option Value) (base:Heap) (CX:CXT) (k:Nat) (f:Addr) (fd:FuncData) (ps:List Str) (sp:Sp):Prop where
 len:∀ vs H Q E,sp vs H Q E->vs.length=ps.length
 run:∀ (A:Around) (outer:List Env) (s:Shared) (H:Hp) (args:Args) (us:List Value) (vs:List V) (Q:VK) (E:XK),Room k A->Env0 P w K mg base A outer s H->BindsTo s fd args (ps.zip us)->Vals vs us->sp vs H Q E ->
  codeAny (model P w) A (.call (.ref f) args) (CR CX outer P w H s Q E) s
theorem FnOk.mono {P:Program} {w:World} {K:PySem.W.Frag} {mg:Str->Option Value} {base:Heap} {CX:CXT} {j k:Nat} {f:Addr} {fd:FuncData} {ps:List Str} {sp:Sp} (F:FnOk P w K mg base CX j f fd ps sp) (h:j<=k:=by decide) :
 FnOk P w K mg base CX k f fd ps sp:=⟨F.len,fun A outer s H args us vs Q E hr=>F.run A outer s H args us vs Q E (hr.mono h)⟩
theorem Env0.make {P:Program} {w:World} {K:PySem.W.Frag} {mg:Str->Option Value} {base:Heap} {A:Around} {outer:List Env} {s:Shared} {H:Hp} (e:Env0 P w K mg base A outer s H) (C:Addr) (us:List Value) (kw:List (Str×Value)) :
 Env0 P w K mg base (A.under (.builtin "type.__call__" ⟨.ref C::us,kw⟩)) outer s H:=⟨by first | exact e.frames | (simpa [Around.under,Code.envs,Code.isFrame,pushEnvs] using e.frames),e.mod,e.bs,e.bsz,e.funs,e.frf,e.hok,e.bare⟩
section
variable {X:Cx} {pins:List (Addr×Obj)} {σ:St} {H:Hp} {s s':Shared}
theorem Inv.env0 (I:Inv X pins σ H s):Env0 X.prog X.w X.K X.mg X.base X.A X.stack s H :=
 ⟨I.ok.frames,I.ok.mod,I.bs,Nat.le_trans I.ok.bsz I.sz,I.stack,I.stkFree,I.hok,I.bare⟩
theorem Inv.after {Q:VK} {u:Value} (I:Inv X pins σ H s) (h:CE X.stack X.prog X.w H s Q u s'):EP X pins σ Q u s':=by
 obtain ⟨v,H',os,bare,un,hok,r,q⟩:=h
 obtain ⟨hh,g,d,t,os'⟩:=s'
 obtain rfl:os'=s.os:=os
 exact ⟨v,H',I.call (h':=hh) (g':=g) (d':=d) (t':=t) (ch:=[]) un hok bare (fun b z=>absurd z (by simp)),r,q⟩
end
def BG (sp:Sp) (dvs:List V) (E:XK) (t:TA):TE:=fun σ H Q=>t σ H fun vs H1=>sp (vs++dvs) H1 Q E
def wA (C:Addr) (m:Str) (sp:Sp) (dvs:List V) (E:XK) (ta:TE) (t:TA):TE:=fun σ H Q=>ta σ H fun x H1=>∃ a dx fs,x=.ref a/\H1 a=some (.ins C dx fs)/\fs.lookup m=none /\
 t σ H1 fun vs H2=>sp (x::(vs++dvs)) H2 Q E
def BC (C:Addr) (sp:Sp) (dvs:List V) (E:XK) (t:TA):TE:=fun σ H Q=>t σ H fun vs H1=>∀ x dx,H1 x=none->H1 dx=none->dx≠x ->
 sp (.ref x::(vs++dvs)) (upd (upd H1 dx (.own x)) x (.ins C dx [])) (fun v H2=>v=.non/\Q (.ref x) H2) E
def Binds (K:PySem.W.Frag) (fd:FuncData) (ps:List Str) (ds:List Value):Prop :=
 ∀ (s:Shared) (us:List Value),K.In s.heap->(us++ds).length=ps.length->BindsTo s fd ⟨us,[]⟩ (ps.zip (us++ds))
theorem Binds.all {K:PySem.W.Frag} {fd:FuncData} {ps:List Str} (h:∀ us:List Value,us.length=ps.length->bindArgs fd ⟨us,[]⟩=pure (ps.zip us)):Binds K fd ps []:=fun s us _ hl=>by
 rw [List.append_nil] at hl ⊢
 exact .of_eq (h us hl)
def ji (CX:CXT) (X:Cx) (E:XK):Prop:=∀ (pins:List (Addr×Obj)) (σ:St) (H:Hp) (s:Shared) (e:Value) (s':Shared),Inv X pins σ H s->CX X.stack H s E e s'->X.xe e s'
section
variable {X:Cx} {CX:CXT} {k:Nat} {f C:Addr} {fd:FuncData} {ps:List Str} {sp:Sp} {dvs:List V} {ds:List Value} {E:XK} {x m:Str} {p pos apos:Pos} {e o:Expr} {es:List Expr} {ta:TE} {t:TA}
theorem r8 {pins:List (Addr×Obj)} {σ:St} {H:Hp} {s:Shared} {Q:VK} {us:List Value} {vs:List V} (F:FnOk X.prog X.w X.K X.mg X.base CX k f fd ps sp) (hr:Room k X.A) (hb:Binds X.K fd ps ds) (hd:Vals dvs ds) (hx:ji CX X E)
 (I:Inv X pins σ H s) (r:Vals vs us) (h:sp (vs++dvs) H Q E):wpAny (model X.prog X.w) X.A (call (.ref f) us) (EP X pins σ Q) X.xe s:=by
 have r2:Vals (vs++dvs) (us++ds):=r.append hd
 have hl:(us++ds).length=ps.length:=by rw [<- r2.length];exact F.len _ _ _ _ h
 refine wpAny_call (codeAny_mono (F.run X.A X.stack s H ⟨us,[]⟩ (us++ds) (vs++dvs) Q E hr I.env0 (hb s us I.kIn hl) r2 h) fun r s' hq=>?_)
 cases r with
 | error e=>exact hx pins σ H s e s' I hq
 | ok fl =>
   cases fl with
   | ret u=>exact I.after hq
   | next=>exact False.elim hq
   | brk=>exact False.elim hq
   | cont=>exact False.elim hq
theorem aq (F:FnOk X.prog X.w X.K X.mg X.base CX k f fd ps sp) (hr:Room k X.A) (hg:Gl X x) (hm:X.mg x=some (.ref f)) (hk:PySem.W.keepIn X.K (.ref f)=true) (hb:Binds X.K fd ps ds) (hd:Vals dvs ds) (hx:ji CX X E)
 (ha:PA X (e::es) t) (hdb:(x == ("__debug__":Str))=false:=by decide) (he:starEach (e::es) X.env=(false,eval e X.env)::starEach es X.env:=by rfl) (hpl:(backTo pos (starEach es X.env)).any (·.1)=false:=by rfl) :
 PE X (.Call (.Name x p) (e::es) [] pos) (BG sp dvs E t):=by
 intro pins s σ H Q I h
 refine wpAny_Call_Name_kw (tE I hg hm ?_ hdb)
 refine PySem.W.callWith_K (h₀:=X.base) I.ok.mod.kin hk (thn (ha pos pins s σ H _ I h) fun us s1 ⟨vs,H1,I1,r,q⟩=>⟨I1.kIn,?_⟩) he hpl
 exact r8 F hr hb hd hx I1 r q
theorem dq {pl:Sem Bool} (he:PE X o ta) (c:Cls X.K C) (hm:Meth X.K C m f) (F:FnOk X.prog X.w X.K X.mg X.base CX k f fd ps sp) (hr:Room k X.A) (hb:Binds X.K fd ps ds) (hd:Vals dvs ds) (hx:ji CX X E) (ha:PA X (e::es) t)
 (hst:starEach (e::es) X.env=(false,eval e X.env)::starEach es X.env:=by rfl) (hpl:(backTo pos (starEach es X.env)).any (·.1)=false:=by rfl)
 (ht:eval (.Call (.Attribute o m apos) (e::es) [] pos) X.env=(do
   let ov <- eval o X.env
   standAt apos.atName
   let (f,first) <- holding [ov] (getMethod ov m pl)
   callWith pos f first (backTo pos (starEach (e::es) X.env)) (backToKw pos (keywordEach [] X.env))):=by rfl) :
 PE X (.Call (.Attribute o m apos) (e::es) [] pos) (wA C m sp dvs E ta t):=by
 intro pins s σ H Q I h
 refine PySem.W.methodCall_KW (pl:=pl) (thn (he pins s σ H _ I h) fun u s1 ⟨x,H1,I1,rx,a,dx,fs,ex,ea,l,q⟩=>?_) ht
 subst ex
 obtain rfl:u=Value.ref a:=rx
 refine zt I1 ea c hm l ?_
 refine PySem.W.callWith_K (first:=[.ref a]) (h₀:=X.base) I.ok.mod.kin hm.kp (thn (ha pos pins s1 σ H1 _ I1 q) fun us s2 ⟨vs,H2,I2,r,q2⟩=>⟨I2.kIn,?_⟩) hst hpl
 exact r8 (us:=.ref a::us) (vs:=.ref a::vs) F hr hb hd hx I2 (.cons rfl r) q2
theorem DM {pl:Sem Bool} (he:PE X o ta) (c:Cls X.K C) (hm:Meth X.K C m f) (F:FnOk X.prog X.w X.K X.mg X.base CX k f fd ps sp) (hr:Room k X.A) (hb:Binds X.K fd ps ds) (hd:Vals dvs ds) (hx:ji CX X E)
 (ht:eval (.Call (.Attribute o m apos) [] [] pos) X.env=(do
   let ov <- eval o X.env
   standAt apos.atName
   let (f,first) <- holding [ov] (getMethod ov m pl)
   callWith pos f first (backTo pos (starEach [] X.env)) (backToKw pos (keywordEach [] X.env))):=by rfl) :
 PE X (.Call (.Attribute o m apos) [] [] pos) (wA C m sp dvs E ta qH):=by
 intro pins s σ H Q I h
 refine PySem.W.methodCall_KW (pl:=pl) (thn (he pins s σ H _ I h) fun u s1 ⟨x,H1,I1,rx,a,dx,fs,ex,ea,l,q⟩=>?_) ht
 subst ex
 obtain rfl:u=Value.ref a:=rx
 refine zt I1 ea c hm l ?_
 exact PySem.W.callWith_K0 (first:=[.ref a]) I1.kIn hm.kp (r8 (us:=[.ref a]) (vs:=[.ref a]) F hr hb hd hx I1 (.cons rfl .nil) q)
structure Mk (K:PySem.W.Frag) (C f:Addr):Prop where
 makes:PySem.W.makesIn K C=true
 init:PySem.W.findIn K (.ref C) "__init__"=some (some (.ref f))
 fn:PySem.W.isFn K (.ref f)=true
 kp:PySem.W.keepIn K (.ref C)=true
theorem CL {pins:List (Addr×Obj)} {σ:St} {H:Hp} {s:Shared} {Q:VK} {us:List Value} {vs:List V} (M:Mk X.K C f) (F:FnOk X.prog X.w X.K X.mg X.base CX k f fd ps sp) (hr:Room (k+1) X.A) (hb:Binds X.K fd ps ds) (hd:Vals dvs ds)
 (hx:ji CX X E) (I:Inv X pins σ H s) (r:Vals vs us)
 (h:∀ x dx,H x=none->H dx=none->dx≠x->sp (.ref x::(vs++dvs)) (upd (upd H dx (.own x)) x (.ins C dx [])) (fun v H2=>v=.non/\Q (.ref x) H2) E) :
 wpAny (model X.prog X.w) X.A (call (.ref C) us) (EP X pins σ Q) X.xe s:=by
 have hq:=h (s.heap.objs.size+1) s.heap.objs.size (I.hok.fresh (Nat.le_succ _)) (I.hok.fresh (Nat.le_refl _)) (Nat.ne_of_lt (Nat.lt_succ_self _))
 have I2:=Inv.made (C:=C) I
 have r2:Vals (V.ref (s.heap.objs.size+1)::(vs++dvs)) (Value.ref (s.heap.objs.size+1)::(us++ds)):=.cons rfl (r.append hd)
 have hl:(Value.ref (s.heap.objs.size+1)::us++ds).length=ps.length:=by
  have e:=r2.length
  rw [F.len _ _ _ _ hq] at e
  exact e.symm
 refine wpAny_call (FG (f:=f) I.kIn M.makes M.init (beq_iff_eq.mp M.fn) (codeAny_mono (F.run _ X.stack _ _ ⟨Value.ref (s.heap.objs.size+1)::us,[]⟩ (Value.ref (s.heap.objs.size+1)::(us++ds)) _ _ E (hr.make C us [])
  (I2.env0.make C us []) (hb _ (Value.ref (s.heap.objs.size+1)::us) I2.kIn hl) r2 hq) fun r s' hq'=>?_))
 cases r with
 | error e=>exact hx pins σ _ _ e s' I2 hq'
 | ok fl =>
   cases fl with
   | ret u =>
     obtain ⟨v,H',I3,rv,ev,q3⟩:=I2.after hq'
     subst ev
     exact ⟨rv,⟨V.ref (s.heap.objs.size+1),H',I3,rfl,q3⟩⟩
   | next=>exact False.elim hq'
   | brk=>exact False.elim hq'
   | cont=>exact False.elim hq'
theorem cN (M:Mk X.K C f) (F:FnOk X.prog X.w X.K X.mg X.base CX k f fd ps sp) (hr:Room (k+1) X.A) (hg:Gl X x) (hm:X.mg x=some (.ref C)) (hb:Binds X.K fd ps ds) (hd:Vals dvs ds) (hx:ji CX X E)
 (ha:PA X (e::es) t) (hdb:(x == ("__debug__":Str))=false:=by decide) (he:starEach (e::es) X.env=(false,eval e X.env)::starEach es X.env:=by rfl) (hpl:(backTo pos (starEach es X.env)).any (·.1)=false:=by rfl) :
 PE X (.Call (.Name x p) (e::es) [] pos) (BC C sp dvs E t):=by
 intro pins s σ H Q I h
 refine wpAny_Call_Name_kw (tE I hg hm ?_ hdb)
 refine PySem.W.callWith_K (h₀:=X.base) I.ok.mod.kin M.kp (thn (ha pos pins s σ H _ I h) fun us s1 ⟨vs,H1,I1,r,q⟩=>⟨I1.kIn,?_⟩) he hpl
 exact CL M F hr hb hd hx I1 r q
end
section
variable {X:Cx} {CX:CXT} {k:Nat} {f C:Addr} {fd:FuncData} {ps ks:List Str} {sp:Sp} {E:XK} {x m:Str} {p pos apos kpos:Pos} {e o:Expr} {es:List Expr} {kws:List Keyword} {te ta:TE} {t tk:TA} {nm:Option Str}
variable {g:List Value->List Value->List Value} {gV:List V->List V->List V}
end
structure FnScope (N P:List Str) (sc:Scope):Prop where
 kind:sc.kind=.function
 co:sc.isCoroutine=false
 gen:sc.isGenerator=false
 nd:N.Nodup
 pre:N.take P.length=P
 par:∀ x∈P,sc.names.lookup x=some .local\/sc.names.lookup x=some .cell
 nofree:∀ y∈sc.names,y.2≠.free
theorem Ay {kindOf:Str->Option NameKind} {x:Str}:∀ {binds:List (Str×Value)} {m:Str->Option Value},(∀ v,(x,v)∉binds)->bindL kindOf binds m x=m x
 | [],_,_=>rfl
 | (n,v)::r,m,h=>by
   unfold bindL
   rw [Ay fun w hw=>h w (List.mem_cons_of_mem _ hw)]
   split
   ·have:x≠n:=by rintro rfl;exact h v List.mem_cons_self
    simp [this]
   ·rfl
theorem AA {kindOf:Str->Option NameKind} {x:Str}:∀ {binds:List (Str×Value)} {m:Str->Option Value},(∀ v,(x,v)∉binds)->bindC kindOf binds m x=m x
 | [],_,_=>rfl
 | (n,v)::r,m,h=>by
   unfold bindC
   rw [AA fun w hw=>h w (List.mem_cons_of_mem _ hw)]
   split
   ·rfl
   ·have:x≠n:=by rintro rfl;exact h v List.mem_cons_self
    simp [this]
theorem Az {kindOf:Str->Option NameKind} {x:Str} {v:Value}:∀ {P:List Str} {vs:List Value} {i:Nat} {m:Str->Option Value},P.Nodup->P[i]?=some x->vs[i]?=some v->kindOf x=some .local ->
 bindL kindOf (P.zip vs) m x=some v
 | [],_,_,_,_,h,_,_=>by simp at h
 | _::_,[],_,_,_,_,h,_=>by simp at h
 | p::P,w::vs,0,m,nd,h1,h2,hk=>by
   simp at h1 h2;subst h1;subst h2
   show bindL kindOf ((p,w)::P.zip vs) m p=_
   unfold bindL
   rw [Ay fun v hv=>(List.nodup_cons.mp nd).1 (List.of_mem_zip hv).1,if_pos hk]
   simp
 | p::P,w::vs,i+1,m,nd,h1,h2,hk=>by
   show bindL kindOf ((p,w)::P.zip vs) m x=_
   unfold bindL
   exact Az (i:=i) (List.nodup_cons.mp nd).2 (by simpa using h1) (by simpa using h2) hk
theorem AB {kindOf:Str->Option NameKind} {x:Str} {v:Value}:∀ {P:List Str} {vs:List Value} {i:Nat} {m:Str->Option Value},P.Nodup->P[i]?=some x->vs[i]?=some v->kindOf x≠some .local ->
 bindC kindOf (P.zip vs) m x=some v
 | [],_,_,_,_,h,_,_=>by simp at h
 | _::_,[],_,_,_,_,h,_=>by simp at h
 | p::P,w::vs,0,m,nd,h1,h2,hk=>by
   simp at h1 h2;subst h1;subst h2
   show bindC kindOf ((p,w)::P.zip vs) m p=_
   unfold bindC
   rw [AA fun v hv=>(List.nodup_cons.mp nd).1 (List.of_mem_zip hv).1,if_neg hk]
   simp
 | p::P,w::vs,i+1,m,nd,h1,h2,hk=>by
   show bindC kindOf ((p,w)::P.zip vs) m x=_
   unfold bindC
   exact AB (i:=i) (List.nodup_cons.mp nd).2 (by simpa using h1) (by simpa using h2) hk
def start (N:List Str) (vs:List V):St:=vs.map some++List.replicate (N.length-vs.length) none
def i6 (CX:CXT) (P:Program) (w:World) (K:PySem.W.Frag) (mg:Str->Option Value) (base:Heap) (N:List Str) (qual:Str) (scope:Scope) (f:Addr) (cd:Value) (A:Around) (outer:List Env) (s:Shared) (H:Hp) (E:XK):Cx where
 prog:=P
 w:=w
 K:=K
 mg:=mg
 base:=base
 A:=A.deeper (envOfC qual scope s.heap.objs.size f cd)
 N:=N
 s₀:=s
 H₀:=H
 env:=envOfC qual scope s.heap.objs.size f cd
 outer:=outer
 stack:=envOfC qual scope s.heap.objs.size f cd::outer
 ex:=[]
 calm:=true
 fn:=fun _=>true
 pn:=[]
 xe:=fun e s'=>wpAny (model P w) (A.deeper (envOfC qual scope s.heap.objs.size f cd)) (leaving (envOfC qual scope s.heap.objs.size f cd) e) (fun _ s''=>CX outer H s E e s'') (fun e' s''=>CX outer H s E e' s'') s'
theorem As {sc:Scope} {n:Nat} {x:Str} (h:sc.names.lookup x=some .cell):∃ c,(cellsFrom n sc.names []).lookup x=some c:=by
 have q:=PySem.W.cellsFrom_some sc.names n [] (.inl h)
 exact Option.isSome_iff_exists.mp q
theorem Hi {CX:CXT} {P:Program} {w:World} {K:PySem.W.Frag} {mg:Str->Option Value} {base:Heap} {N ps:List Str} {qual:Str} {scope:Scope} {f:Addr} {cd:Value} {A:Around} {outer:List Env} {s s1:Shared} {H:Hp} {E:XK} {us:List Value} {vs:List V}
 (S:FnScope N ps scope) (hd:A.handled=none) (e0:Env0 P w K mg base A outer s H) (hl:vs.length=ps.length) (r:Vals vs us)
 (x:InCallC s s.heap.objs.size (bindL (envOfC qual scope s.heap.objs.size f cd).kindOf (ps.zip us) fun _=>none) (cellsFrom (s.heap.objs.size+1) scope.names []) (bindC (envOfC qual scope s.heap.objs.size f cd).kindOf (ps.zip us) fun _=>none) s1) :
 Inv (i6 CX P w K mg base N qual scope f cd A outer s H E) [] (start N vs) H s1:=by
 have hpl:ps.length<=N.length:=by have:=congrArg List.length S.pre;rw [List.length_take] at this;omega
 obtain ⟨h1,tk,rfl,hk⟩:=x.done
 have noA:∀ b:Addr,b∉(i6 CX P w K mg base N qual scope f cd A outer s H E).ex:=fun b z=>absurd (show b∈([]:List Addr) from z) (by simp)
 refine ⟨⟨e0.mod,S.kind,rfl,rfl,Nat.le_refl _,fun y z c h1 h2=>?_,fun y hy=>?_,fun y c _ h=>?_,fun _=>hd,Around.frames_deeper e0.frames,.inr ⟨rfl,rfl⟩,fun b z=>absurd z (noA b),e0.bs,e0.bsz,fun b _ _=>noA b,fun b z=>absurd z (noA b),e0.funs,e0.frf⟩,
  rfl,e0.bare,Un.kept hk,⟨_,x.toInCall.ns,fun i y v h1 h2 h3=>?_⟩,fun y c h=>⟨_,x.cell y c h⟩,e0.hok.fresh (Nat.le_refl _),fun y c h=>?_,fun p hp=>absurd (show p∈([]:List (Addr×Obj)) from hp) (by simp),e0.hok.kept hk,?_⟩
 ·exact name_of_addr x.apart (PySem.mem_of_lookup h1) (PySem.mem_of_lookup h2)
 ·have hy:scope.names.lookup y=some .cell\/scope.names.lookup y=some .free:=hy
  rcases hy with hy | hy
  ·exact As hy
  ·exact absurd rfl (S.nofree _ (PySem.mem_of_lookup hy))
 ·exact Nat.le_of_lt (x.above y c (PySem.mem_of_lookup h))
 ·have hi:i<vs.length:=by
   unfold start at h2
   by_cases hi:i<vs.length
   ·exact hi
   ·rw [List.getElem?_append_right (by simpa using hi)] at h2
    rw [List.getElem?_replicate] at h2
    split at h2<;>cases h2
  have ha:vs[i]?=some v:=by
   unfold start at h2
   rw [List.getElem?_append_left (by simpa using hi),List.getElem?_map] at h2
   cases e:vs[i]? with
   | none=>rw [e] at h2;cases h2
   | some a=>rw [e] at h2;cases h2;rfl
  obtain ⟨u,hu,rv⟩:=r.get ha
  have hp:ps[i]?=some y:=by
   rw [<- S.pre,List.getElem?_take_of_lt (by omega)];exact h1
  have ndP:ps.Nodup:=by rw [<- S.pre];exact S.nd.sublist (List.take_sublist _ _)
  refine ⟨u,rv,?_⟩
  rcases S.par y (List.mem_of_getElem? hp) with k | k
  ·exact .inl ⟨k,Az ndP hp hu k⟩
  ·obtain ⟨c,e⟩:=As (n:=s.heap.objs.size+1) k
   refine .inr ⟨.inl k,c,e,?_⟩
   have q:=x.cell y c e
   rw [AB ndP hp hu (by show scope.names.lookup y≠_;rw [k];decide)] at q
   exact q
 ·exact e0.hok.fresh (Nat.le_of_lt (x.above y c (PySem.mem_of_lookup h)))
 ·unfold start
  show _=N.length
  rw [List.length_append,List.length_map,List.length_replicate]
  omega
theorem zB {CX:CXT} {P:Program} {w:World} {K:PySem.W.Frag} {mg:Str->Option Value} {base:Heap} {k:Nat} {f:Addr} {name qual:Str} {params:Arguments} {body:List Stmt} {scope:Scope} {dV kV doc pm cdv ct oc:Value} {an od:Option Addr}
 {osl:Array (Option Value)} {N ps:List Str} {sp:Sp} (lk:K.lookup f=some ⟨oc,od,.func (PySem.W.fnOf name qual params body scope dV kV doc pm an cdv ct),osl⟩) (hcd:PySem.W.codeIn K cdv qual=true) (S:FnScope N ps scope)
 (len:∀ vs H Q E,sp vs H Q E->vs.length=ps.length)
 (hbody:∀ (A:Around) (outer:List Env) (s:Shared) (H:Hp) (vs:List V) (Q:VK) (E:XK),Room k (A.deeper (envOfC qual scope s.heap.objs.size f cdv))->sp vs H Q E ->
   ∃ t,PSs (i6 CX P w K mg base N qual scope f cdv A outer s H E) body t/\t { nx:=fun _ H'=>Q .non H',rt:=Q } (start N vs) H) :
 FnOk P w K mg base CX (k+1) f (PySem.W.fnOf name qual params body scope dV kV doc pm an cdv ct) ps sp:=by
 refine ⟨len,fun A outer s H args us vs Q E hr e0 hb r hsp=>?_⟩
 have hl:=len _ _ _ _ hsp
 have KX:K.In s.heap:=e0.mod.kin.keeps fun b o e=>(e0.bs b o e).1
 have lim:s.heap.NoLimit:=e0.mod.nolimit.keeps fun b o e=>(e0.bs b o e).1
 have hkind:∀ y∈ps.zip us,scope.names.lookup y.1=some .local\/(scope.names.lookup y.1=some .cell/\((cellsFrom (s.heap.objs.size+1) scope.names []).lookup y.1).isSome=true):=fun ⟨n,v⟩ hy=>by
  rcases S.par n (List.of_mem_zip hy).1 with q | q
  ·exact .inl q
  ·exact .inr ⟨q,PySem.W.cellsFrom_some _ _ _ (.inl q)⟩
 refine codeAny_call_function hr.depth (KX _ _ lk) rfl S.co S.gen rfl (PySem.W.codeRec_of KX hcd) (hb _ _ _ _ ?_)
 refine wpAny_newFunctionEnv_cells S.kind hkind fun env he s1 x=>?_
 subst he
 refine ⟨lim.keeps x.toInCall.keep,codeAny_func ?_⟩
 obtain ⟨t,ht,hq⟩:=hbody A outer s H vs Q E (hr.deeper _) hsp
 have I:Inv (i6 CX P w K mg base N qual scope f cdv A outer s H E) [] (start N vs) H s1:=Hi S hr.hd e0 hl r x
 refine wpAny_mono (ht [] s1 (start N vs) H _ I hq) (fun fl s' hs=>?_) fun e s' hs=>hs
 have fin:∀ {σ':St} {H':Hp} {v:V} {u:Value},Inv (i6 CX P w K mg base N qual scope f cdv A outer s H E) [] σ' H' s'->RelV v u->Q v H'->CE outer P w H s Q u s' :=
  fun {σ' H' v u} J rv q=>⟨v,H',J.os,J.bare,J.base,J.hok,rv,q⟩
 cases fl with
 | ret u =>
   obtain ⟨v,σ',H',J,rv,q⟩:=hs
   exact fin J rv q
 | next =>
   obtain ⟨σ',H',J,q⟩:=hs
   exact fin (v:=V.non) (u:=Value.none) J rfl q
 | brk =>
   obtain ⟨_,_,_,q⟩:=hs
   exact False.elim q
 | cont =>
   obtain ⟨_,_,_,q⟩:=hs
   exact False.elim q
end L2
namespace L2
open PySem PySem.Spec PyProof.Rows
section
variable {X:Cx} {x:Str} {p pos:Pos} {e:Expr} {es:List Expr} {t:TA} {id T:String} {r:List V->Hp->VK->Prop}
def tCB (r:List V->Hp->VK->Prop) (t:TA):TE:=fun σ H Q=>t σ H fun vs H1=>r vs H1 Q
theorem bH (hc:CallR X (.builtin id) r) (hg:Gl X x) (hm:X.mg x=none) (hv:bootBuiltins x=some (.builtin id)) (ha:PA X (e::es) t) (hn:x≠"__name__":=by decide) (hdb:(x == ("__debug__":Str))=false:=by decide)
 (he:starEach (e::es) X.env=(false,eval e X.env)::starEach es X.env:=by rfl) (hpl:(backTo pos (starEach es X.env)).any (·.1)=false:=by rfl):PE X (.Call (.Name x p) (e::es) [] pos) (tCB r t):=by
 intro pins s σ H Q I h
 refine wpAny_Call_Name_kw (fX I hg hm hv ?_ hn hdb)
 exact PyProof.Rows.callWith_builtin1 (thn (ha pos pins s σ H _ I h) fun us s1 ⟨vs,H1,I1,r1,q1⟩=>hc pins s1 σ H1 vs us Q I1 r1 q1) he hpl
theorem gE (hc:CallR X (.type T) r) (hg:Gl X x) (hm:X.mg x=none) (hv:bootBuiltins x=some (.type T)) (ha:PA X (e::es) t) (hn:x≠"__name__":=by decide) (hdb:(x == ("__debug__":Str))=false:=by decide)
 (he:starEach (e::es) X.env=(false,eval e X.env)::starEach es X.env:=by rfl) (hpl:(backTo pos (starEach es X.env)).any (·.1)=false:=by rfl):PE X (.Call (.Name x p) (e::es) [] pos) (tCB r t):=by
 intro pins s σ H Q I h
 refine wpAny_Call_Name_kw (fX I hg hm hv ?_ hn hdb)
 exact PyProof.Rows.callWith_type1 (thn (ha pos pins s σ H _ I h) fun us s1 ⟨vs,H1,I1,r1,q1⟩=>hc pins s1 σ H1 vs us Q I1 r1 q1) he hpl
end
end L2
namespace HT
open PySem PyProof.Rows
section
open PySem.SeqAt
open PySem.AutoSeq1 (wpAny_loadPart')
open PySem.MeetsSeq PySem.MeetsSeq2 PySem.MeetsSeq3
end
section
variable {prog:Program} {w:World} {A:Around} {E:Value->Shared->Prop} {s:Shared}
def sIx (n d:Nat):Option Int->Nat
 | none=>d
 | some v=>if v<0 then (v+(n:Int)).toNat else min v.toNat n
theorem sIx_none (n d:Nat):sIx n d none=d:=rfl
theorem sIx_nat (n d k:Nat):sIx n d (some (k:Int))=min k n:=by
 show (if (k:Int)<0 then ((k:Int)+(n:Int)).toNat else min (k:Int).toNat n)=min k n
 rw [if_neg (by omega),Int.toNat_natCast]
end
end HT
namespace L2
open PySem PySem.Spec PyProof.Rows
abbrev TO:=St->Hp->(Option Int->Hp->Prop)->Prop
def PO (X:Cx) (e:Option Expr) (t:TO):Prop :=
 ∀ (pins:List (Addr×Obj)) (s:Shared) (σ:St) (H:Hp) (Q:Option Int->Hp->Prop),Inv X pins σ H s->t σ H Q ->
   wpAny (model X.prog X.w) X.A (evalPart e X.env) (fun u s'=>∃ o H',Inv X pins σ H' s'/\IsPart u o/\Q o H') X.xe s
def BA:TO:=fun _ H Q=>Q none H
def Bz (t:TE):TO:=fun σ H Q=>t σ H fun x H1=>∃ i,x=.int i/\Q (some i) H1
theorem pX {ns:List Int}:∀ {us:List Value},Vals (ns.map V.int) us->IntsAre us ns:=by
 induction ns with
 | nil=>intro us r;rw [List.map_nil] at r;cases r;exact .nil
 | cons n ns ih =>
   intro us r
   rw [List.map_cons] at r
   cases r with
   | cons r1 r2 =>
     obtain ⟨t,e⟩:=r1
     subst e
     exact .cons n t (ih r2)
section
variable {X:Cx} {e:Expr} {te:TE} {lo hi:Option Expr} {tl th:TO} {pos p2:Pos}
theorem pd:PO X none BA:=by
 intro pins s σ H Q I h
 rw [evalPart_none]
 exact wpAny_pure ⟨none,H,I,.none,h⟩
theorem pb (h:PE X e te):PO X (some e) (Bz te):=by
 intro pins s σ H Q I hw
 rw [evalPart_some]
 refine thn (h pins s σ H _ I hw) fun u s1 ⟨x,H1,I1,r1,q1⟩=>?_
 obtain ⟨i,rfl,q⟩:=q1
 obtain ⟨t,rfl⟩:=r1
 exact ⟨some i,H1,I1,.int i t,q⟩
def SlR (X:Cx) (r:V->Option Int->Option Int->Hp->VK->Prop):Prop :=
 ∀ (pins:List (Addr×Obj)) (s:Shared) (σ:St) (H:Hp) (x:V) (v vl vu:Value) (lo hi:Option Int) (sl:Addr) (Q:VK),Inv X pins σ H s->RelV x v->s.heap.IsSliceOf sl vl vu .none->IsPart vl lo->IsPart vu hi->r x lo hi H Q ->
   ∃ T id,typeLookup (.type T) "__getitem__"=pure (some (.builtin id))/\s.TypeIs v T/\wpAny (model X.prog X.w) X.A (getItem v (.ref sl)) (EP X pins σ Q) X.xe s
theorem SlR.or {r r':V->Option Int->Option Int->Hp->VK->Prop} (h:SlR X r) (h':SlR X r'):SlR X (fun x lo hi H Q=>r x lo hi H Q\/r' x lo hi H Q):=by
 intro pins s σ H x v vl vu lo hi sl Q I rx hs pl pu q
 rcases q with q | q
 ·exact h pins s σ H x v vl vu lo hi sl Q I rx hs pl pu q
 ·exact h' pins s σ H x v vl vu lo hi sl Q I rx hs pl pu q
def tSl (r:V->Option Int->Option Int->Hp->VK->Prop) (te:TE) (tl th:TO):TE:=fun σ H Q=>te σ H fun x H1=>tl σ H1 fun l H2=>th σ H2 fun u H3=>r x l u H3 Q
theorem pj {r:V->Option Int->Option Int->Hp->VK->Prop} (hr:SlR X r) (he:PE X e te) (hl:PO X lo tl) (hu:PO X hi th):PE X (.Subscript e (.Slice lo hi none p2) pos) (tSl r te tl th):=by
 intro pins s σ H Q I h
 refine Subscript_ (thn (he pins s σ H _ I h) fun v s1 ⟨x,H1,I1,r1,q1⟩=>?_)
 refine wpAny_Slice (thn (hl pins s1 σ H1 _ I1 q1) fun vl s2 ⟨l,H2,I2,pl,q2⟩=>thn (hu pins s2 σ H2 _ I2 q2) fun vu s3 ⟨u,H3,I3,pu,q3⟩=>?_)
 rw [evalPart_none]
 refine wpAny_pure ?_
 have I4:Inv X pins σ H3 { s3 with heap:=s3.heap.push { cls:=.type "slice",data:=.fields #[vl,vu,.none] } }:=I3.kept (t':=s3.toks) fun b ob q=>Heap.get?_push_of_some _ q
 obtain ⟨T,id,hT,ht,hg⟩:=hr pins { s3 with heap:=s3.heap.push { cls:=.type "slice",data:=.fields #[vl,vu,.none] } } σ H3 x v vl vu l u s3.heap.objs.size Q I4 r1 (Heap.IsSliceOf.new ..) pl pu q3
 show wpAny (model X.prog X.w) X.A (subscriptTail e (.Slice lo hi none p2) v (.ref s3.heap.objs.size)) (EP X pins σ Q) X.xe { s3 with heap:=s3.heap.push { cls:=.type "slice",data:=.fields #[vl,vu,.none] } }
 exact tail_any (ops:=[.ref s3.heap.objs.size,v]) ht hT hg (by with_unfolding_all rfl)
def gO (xs:List V) (lo hi:Option Int):List V:=(xs.drop (HT.sIx xs.length 0 lo)).take (HT.sIx xs.length xs.length hi-HT.sIx xs.length 0 lo)
theorem JI (xs:List V) (lo hi:Option Int):(gO xs lo hi).length<=xs.length:=by
 unfold gO
 rw [List.length_take,List.length_drop]
 omega
end
end L2
namespace L2
open PySem PySem.Spec PyProof.Rows
def ixN (n:Nat) (i:Int):Option Nat:=if 0<=i then (if i<n then some i.toNat else none) else if -(n:Int)<=i then some (i+n).toNat else none
def atI {α:Type} (xs:List α) (i:Int):Option α:=(ixN xs.length i).bind fun j=>xs[j]?
theorem zd {n:Nat} {i:Int} {j:Nat} (h:ixN n i=some j):seqIndex? i n=some j/\j<n /\ -(n:Int)<=i/\i<n:=by
 unfold ixN at h
 by_cases h0:0<=i
 ·rw [if_pos h0] at h
  by_cases h1:i<n
  ·rw [if_pos h1] at h
   have e:i.toNat=j:=Option.some.inj h
   exact ⟨by rw [seqIndex_of h0 h1,e],by omega,by omega,h1⟩
  ·rw [if_neg h1] at h;cases h
 ·rw [if_neg h0] at h
  by_cases h1 : -(n:Int)<=i
  ·rw [if_pos h1] at h
   have e:(i+n).toNat=j:=Option.some.inj h
   exact ⟨by rw [seqIndex_neg (by omega) h1,e],by omega,h1,by omega⟩
  ·rw [if_neg h1] at h;cases h
theorem AL {α:Type} {xs:List α} {i:Int} {v:α} (h:atI xs i=some v):∃ j,seqIndex? i xs.length=some j/\xs[j]?=some v/\j<xs.length /\ -(xs.length:Int)<=i/\i<xs.length:=by
 unfold atI at h
 cases e:ixN xs.length i with
 | none=>rw [e] at h;cases h
 | some j =>
   rw [e] at h
   obtain ⟨h1,h2,h3,h4⟩:=zd e
   exact ⟨j,h1,h,h2,h3,h4⟩
theorem md {α:Type} {xs:List α} {j:Nat} {v:α} (h:xs[j]?=some v):atI xs (j:Int)=some v:=by
 have hj:j<xs.length:=(List.getElem?_eq_some_iff.mp h).1
 have e:ixN xs.length (j:Int)=some j:=by
  unfold ixN
  rw [if_pos (by omega),if_pos (by omega)];simp
 unfold atI;rw [e];exact h
theorem vx {α:Type} (xs:List α) (v:α):atI (xs++[v]) (-1)=some v:=by
 have hl:(xs++[v]).length=xs.length+1:=by simp
 have e:ixN (xs++[v]).length (-1)=some xs.length:=by
  unfold ixN
  rw [hl,if_neg (by decide),if_pos (by omega)]
  congr 1
  omega
 unfold atI
 rw [e]
 show (xs++[v])[xs.length]?=some v
 simp
def KK (b:Expr):Prop:=∀ o i,subscripted b false o i=operate [o,i] (getItem o i)
def IxR (X:Cx) (r:R2):Prop :=
 ∀ (value slice:Expr) (pins:List (Addr×Obj)) (s:Shared) (σ:St) (H:Hp) (x y:V) (v u:Value) (Q:VK),Inv X pins σ H s->RelV x v->RelV y u->r x y H Q ->
   subscripted slice false v u=operate [v,u] (getItem v u)->wpAny (model X.prog X.w) X.A (subscriptTail value slice v u) (EP X pins σ Q) X.xe s
def MtR (X:Cx) (id:String) (r:V->List V->Hp->VK->Prop):Prop :=
 ∀ (pins:List (Addr×Obj)) (s:Shared) (σ:St) (H:Hp) (x:V) (xs:List V) (v:Value) (us:List Value) (Q:VK),Inv X pins σ H s->RelV x v->Vals xs us->r x xs H Q ->
   wpAny (model X.prog X.w) X.A (call (.builtin id) (v::us)) (EP X pins σ Q) X.xe s
section
variable {X:Cx} {a b:Expr} {ta tb:TE} {pos:Pos}
theorem IxR.or {r r':R2} (h:IxR X r) (h':IxR X r'):IxR X (fun x y H Q=>r x y H Q\/r' x y H Q):=by
 intro value slice pins s σ H x y v u Q I rx ry q hs
 rcases q with q | q
 ·exact h value slice pins s σ H x y v u Q I rx ry q hs
 ·exact h' value slice pins s σ H x y v u Q I rx ry q hs
theorem MtR.or {id:String} {r r':V->List V->Hp->VK->Prop} (h:MtR X id r) (h':MtR X id r'):MtR X id (fun x xs H Q=>r x xs H Q\/r' x xs H Q):=by
 intro pins s σ H x xs v us Q I rx rs q
 rcases q with q | q
 ·exact h pins s σ H x xs v us Q I rx rs q
 ·exact h' pins s σ H x xs v us Q I rx rs q
theorem aI {r:R2} (hr:IxR X r) (ha:PE X a ta) (hb:PE X b tb) (hs:KK b):PE X (.Subscript a b pos) (tOp r ta tb):=by
 intro pins s σ H Q I h
 exact Subscript_ (vf ha hb I h fun v u s2 x y H2 I2 rx ry q=>hr a b pins s2 σ H2 x y v u Q I2 rx ry q (hs _ _))
def xQ (K:PySem.W.Frag):R2:=fun x y H Q=>∃ p xs i v,x=.ref p/\y=.int i/\SqL K H p xs/\atI xs i=some v/\Q v H
def xP (K:PySem.W.Frag):R2:=fun x y H Q=>∃ p xs i v,x=.ref p/\y=.int i/\SqT K H p xs/\atI xs i=some v/\Q v H
theorem Hf:IxR X (xQ X.K):=by
 intro value slice pins s σ H x y v u Q I rx ry h hs
 obtain ⟨p,xs,i,z,rfl,rfl,hq,he,q⟩:=h
 cases rx
 obtain ⟨t,rfl⟩:=ry
 obtain ⟨its,r,pl,hz⟩:=I.list hq
 obtain ⟨j,h1,h2,h3,h4,h5⟩:=AL he
 obtain ⟨w,ew,rw'⟩:=r.get h2
 have hl:=r.length
 have hn:=ng
 have fin:EP X pins σ Q w s:=⟨z,H,I,rw',q⟩
 by_cases h0:0<=i
 ·have hj:i.toNat=j:=by
   rw [seqIndex_of h0 h5] at h1
   exact Option.some.inj h1
  exact item_listR pl.isList h0 (by omega) (by rw [hj];simpa using ew) fin hs
 ·have hj:(i+(its.toArray.size:Int)).toNat=j:=by
   rw [seqIndex_neg (by omega) h4] at h1
   rw [List.size_toArray,<- hl]
   exact Option.some.inj h1
  exact subscriptTail_builtinR (x:=w) pl.isList.typeIs slot_list_getitem.lookup
   (wpAny_getItem_list_neg (Q:=fun r s'=>r=w/\EP X pins σ Q r s') pl.isList (by omega) (by rw [List.size_toArray]<;>omega) (by omega) (by rw [hj];simpa using ew) ⟨rfl,fin⟩) hs
theorem He:IxR X (xP X.K):=by
 intro value slice pins s σ H x y v u Q I rx ry h hs
 obtain ⟨p,xs,i,z,rfl,rfl,hq,he,q⟩:=h
 cases rx
 obtain ⟨t,rfl⟩:=ry
 obtain ⟨its,r,pl,hz⟩:=I.tuple hq
 obtain ⟨j,h1,h2,h3,h4,h5⟩:=AL he
 obtain ⟨w,ew,rw'⟩:=r.get h2
 have hl:=r.length
 have hn:=ng
 have fin:EP X pins σ Q w s:=⟨z,H,I,rw',q⟩
 exact subscriptTail_builtinR (x:=w) pl.typeIs slot_tuple_getitem.lookup
  (getItem_tuple (j:=j) (Q:=fun r s'=>r=w/\EP X pins σ Q r s') pl (by omega) (by omega) (by rw [List.size_toArray,<- hl];exact h1) (by simpa using ew) ⟨rfl,fin⟩) hs
theorem FE (its:List Value) (n j:Nat) (u:Value):Obj.mapSeq (·.setIfInBounds j u) { cls:=.type "list",data:=.seq its.toArray n }={ cls:=.type "list",data:=.seq (its.set j u).toArray n }:=by
 simp [Obj.mapSeq]
theorem Inv.lst {pins:List (Addr×Obj)} {σ:St} {H:Hp} {s:Shared} {p:Addr} {xs:List V} (I:Inv X pins σ H s) (h:H p=some (.lst xs)) :
 ∃ (its:List Value) (n:Nat),Vals xs its/\s.heap.get? p=some { cls:=.type "list",data:=.seq its.toArray n }/\xs.length<=sizeLine:=by
 obtain ⟨z,its,n,r,e⟩:=I.hok p _ h
 exact ⟨its,n,r,e,z⟩
theorem Inv.lstUpd {pins:List (Addr×Obj)} {σ:St} {H:Hp} {s:Shared} {p:Addr} {xs ys:List V} {its its':List Value} {n n':Nat} {f:Obj->Obj} (I:Inv X pins σ H s) (h:H p=some (.lst xs))
 (ho:s.heap.get? p=some { cls:=.type "list",data:=.seq its.toArray n }) (hf:f { cls:=.type "list",data:=.seq its.toArray n }={ cls:=.type "list",data:=.seq its'.toArray n' }) (r:Vals ys its') (hz:ys.length<=sizeLine) (t:Nat) :
 Inv X pins σ (upd H p (.lst ys)) { s with heap:=s.heap.update p f,toks:=t }:=by
 have e:(s.heap.update p f).get? p=some { cls:=.type "list",data:=.seq its'.toArray n' }:=by
  rw [Heap.get?_update_self f ho (by rw [hf]<;>rfl),hf]
 refine I.write (x:=p) (e:=p) (by rw [h];trivial) (.inl rfl) (fun b u hb q=>(Heap.get?_update_other _ _ (Ne.symm hb)).trans q) ⟨_,e⟩ ?_
 exact ⟨hz,its',n',r,e⟩
def Dj:V->V->V->Hp->(Hp->Prop)->Prop:=fun o i v H Q=>∃ p xs k j,o=.ref p/\i=.int k/\H p=some (.lst xs)/\ixN xs.length k=some j/\Q (upd H p (.lst (xs.set j v)))
theorem jG:AR X Dj:=by
 intro pins s σ H o i v ov iv u Q I ro ri rv h
 obtain ⟨p,xs,k,j,rfl,rfl,hp,hj,q⟩:=h
 cases ro
 obtain ⟨t,rfl⟩:=ri
 obtain ⟨its,n,r,ho,hz⟩:=I.lst hp
 obtain ⟨h1,h2,h3,h4⟩:=zd hj
 have hl:=r.length
 have hn:=ng
 have I':Inv X pins σ (upd H p (.lst (xs.set j v))) { s with heap:=s.heap.update p (Obj.mapSeq (·.setIfInBounds j u)) } :=
  I.lstUpd hp ho (FE its n j u) (r.set rv j) (by rw [List.length_set];exact hz) s.toks
 by_cases h0:0<=k
 ·have hk:k.toNat=j:=by
   rw [seqIndex_of h0 h4] at h1
   exact Option.some.inj h1
  exact PySem.W.ki_setAt ho h0 (by omega) (by rw [List.size_toArray,<- hl];exact h4) (by rw [hk];exact ⟨_,I',q⟩)
 ·have hk:(k+(its.toArray.size:Int)).toNat=j:=by
   rw [seqIndex_neg (by omega) h3] at h1
   rw [List.size_toArray,<- hl]
   exact Option.some.inj h1
  exact PySem.W.ki_setBack ho (by omega) (by rw [List.size_toArray,<- hl];exact h3) (by omega) (by rw [hk];exact ⟨_,I',q⟩)
theorem BU (lo hi:Option Int) (n:Nat):(sliceBounds lo hi none n).1=((HT.sIx n 0 lo:Nat):Int)/\(sliceBounds lo hi none n).2.1=((HT.sIx n n hi:Nat):Int)/\(sliceBounds lo hi none n).2.2=1:=by
 refine ⟨?_,?_,rfl⟩
 ·cases lo with
  | none=>simp [sliceBounds,HT.sIx]
  | some i =>
    simp only [sliceBounds,HT.sIx,Option.getD_none,show (1:Int)>0 by decide,if_true]
    by_cases h:i<0
    ·simp only [h,if_true]<;>omega
    ·simp only [h,if_false]<;>omega
 ·cases hi with
  | none=>simp [sliceBounds,HT.sIx]
  | some i =>
    simp only [sliceBounds,HT.sIx,Option.getD_none,show (1:Int)>0 by decide,if_true]
    by_cases h:i<0
    ·simp only [h,if_true]<;>omega
    ·simp only [h,if_false]<;>omega
theorem BV (its:List Value) (lo hi:Option Int):slicePick its.toArray lo hi none=((its.drop (HT.sIx its.length 0 lo)).take (HT.sIx its.length its.length hi-HT.sIx its.length 0 lo)).toArray:=by
 obtain ⟨h1,h2,h3⟩:=BU lo hi its.toArray.size
 unfold slicePick
 rw [h1,h2,h3]
 simp only [sliceRange_one,pick_run,List.size_toArray]<;>rfl
def sr (K:PySem.W.Frag):V->Option Int->Option Int->Hp->VK->Prop:=fun x lo hi H Q=>∃ a xs,x=.ref a/\SqL K H a xs/\∀ p,H p=none->Q (.ref p) (upd H p (.lst (gO xs lo hi)))
theorem BW:SlR X (sr X.K):=by
 intro pins s σ H x v vl vu lo hi sl Q I rx hs pl pu h
 obtain ⟨a,xs,rfl,hx,q⟩:=h
 cases rx
 obtain ⟨its,r,ht,hz⟩:=I.list hx
 have hlen:=r.length
 refine ⟨"list",_,slot_list_getitem.lookup,ht.isList.typeIs,?_⟩
 refine wpAny_getItem_list_slice ht.isList hs pl pu .none (by simp) ?_ (by rw [List.size_toArray]<;>omega)
 rw [BV,<- hlen]
 refine ⟨.ref s.heap.objs.size,_,I.laid (t':=s.toks) (o:=.lst (gO xs lo hi)) (fun b ob q=>Heap.get?_push_of_some _ q) (Nat.le_refl _) ?_,rfl,q _ (I.hok.fresh (Nat.le_refl _))⟩
 exact ⟨Nat.le_trans (JI xs lo hi) hz,_,0,(r.drop (HT.sIx xs.length 0 lo)).take (HT.sIx xs.length xs.length hi-HT.sIx xs.length 0 lo),Heap.get?_push_size _ rfl⟩
theorem JX:CallR X (.builtin "len") (fun xs H Q=>∃ p ys,xs=[.ref p]/\(SqL X.K H p ys\/SqT X.K H p ys)/\Q (.int ys.length) H):=by
 intro pins s σ H xs us Q I r h
 obtain ⟨p,ys,rfl,hq,q⟩:=h
 obtain ⟨u,rfl,rx⟩:=gu r
 cases rx
 have hn:=ng
 rcases hq with hq | hq
 ·obtain ⟨its,r',pl,hz⟩:=I.list hq
  have hlen:=r'.length
  exact Calls.call_len_list pl.isList (by simp only [List.size_toArray]<;>omega) ⟨.int ys.length,H,I.tok _,⟨s.toks+1,by rw [List.size_toArray,hlen]⟩,q⟩
 ·obtain ⟨its,r',pl,hz⟩:=I.tuple hq
  have hlen:=r'.length
  exact len_tuple pl (by simp only [List.size_toArray]<;>omega) ⟨.int ys.length,H,I.tok _,⟨s.toks+1,by rw [List.size_toArray,hlen]⟩,q⟩
theorem CallR.or {f:Value} {r r':List V->Hp->VK->Prop} (h:CallR X f r) (h':CallR X f r'):CallR X f (fun xs H Q=>r xs H Q\/r' xs H Q):=by
 intro pins s σ H xs us Q I rs q
 rcases q with q | q
 ·exact h pins s σ H xs us Q I rs q
 ·exact h' pins s σ H xs us Q I rs q
theorem JW:CallR X (.type "list") (fun xs H Q=>∃ p ys,xs=[.ref p]/\(SqL X.K H p ys\/SqT X.K H p ys)/\∀ l,H l=none->Q (.ref l) (upd H l (.lst ys))):=by
 intro pins s σ H xs us Q I r h
 obtain ⟨p,ys,rfl,hq,q⟩:=h
 obtain ⟨u,rfl,rx⟩:=gu r
 cases rx
 have fin:∀ (its:List Value),Vals ys its->ys.length<=sizeLine->∀ (h':Heap) (c':Nat),(∀ b o',s.heap.get? b=some o'->h'.get? b=some o') ->
  h'.get? s.heap.objs.size=some { cls:=.type "list",dict:=none,data:=.seq its.toArray c',slots:=#[] }->EP X pins σ Q (.ref s.heap.objs.size) { s with heap:=h' }:=fun its r' hz h' c' kp e =>
  ⟨.ref s.heap.objs.size,_,I.laid (t':=s.toks) kp (Nat.le_refl _) (show ObjOk X.prog X.w _ h' _ (.lst ys) from ⟨hz,its,c',r',e⟩),rfl,q _ (I.hok.fresh (Nat.le_refl _))⟩
 rcases hq with hq | hq
 ·obtain ⟨its,r',pl,hz⟩:=I.list hq
  have hlen:=r'.length
  obtain ⟨o,ho,hc,n,hd⟩:=pl.isList
  exact call_list_seq p (.inl rfl) ho hc hd (fun h' c' kp e=>fin its r' hz h' c' kp e) (by simp only [List.size_toArray]<;>omega)
 ·obtain ⟨its,r',pl,hz⟩:=I.tuple hq
  have hlen:=r'.length
  obtain ⟨o,ho,hc,n,hd⟩:=pl
  exact call_list_seq p (.inr rfl) ho hc hd (fun h' c' kp e=>fin its r' hz h' c' kp e) (by simp only [List.size_toArray]<;>omega)
def tyV (K:PySem.W.Frag) (T:String) (x:V) (H:Hp):Prop:=match x with
 | .str _=>T="str"
 | .int _=>T="int"
 | .ref p=>(T="list"/\∃ xs,SqL K H p xs)\/(T="tuple"/\∃ o,K.lookup p=some o/\o.cls=.type "tuple"/\o.dict=none) \/
  (T="dict"/\((∃ kvs,H p=some (.dK kvs))\/∃ kvs,H p=some (.dT kvs)))\/(T="set"/\∃ S n,H p=some (.set S n))
 | _=>False
theorem wk {pins:List (Addr×Obj)} {σ:St} {H:Hp} {s:Shared} {T:String} {x:V} {v:Value} (I:Inv X pins σ H s) (r:RelV x v) (ty:tyV X.K T x H) :
 s.TypeIs v T/\∀ a,v=.ref a->∃ ob,s.heap.get? a=some ob/\ob.dict=none:=by
 cases x with
 | str z =>
   obtain ⟨t,rfl⟩:=r
   cases (show T="str" from ty)
   exact ⟨typeIs_str s z t,fun _ e=>nomatch e⟩
 | int i =>
   obtain ⟨t,rfl⟩:=r
   cases (show T="int" from ty)
   exact ⟨typeIs_int s i t,fun _ e=>nomatch e⟩
 | ref p =>
   cases r
   rcases ty with ⟨rfl,xs,hq⟩ | ⟨rfl,o,hk,hc,hd⟩ | ⟨rfl,hk⟩ | ⟨rfl,S,n,hk⟩
   ·obtain ⟨its,_,pl,_⟩:=I.list hq
    refine ⟨pl.isList.typeIs,fun a e=>?_⟩
    cases e
    obtain ⟨o,n,e,c,hd,_⟩:=pl
    exact ⟨o,e,hd⟩
   ·refine ⟨⟨o,I.kIn p o hk,hc⟩,fun a e=>?_⟩
    cases e
    exact ⟨o,I.kIn _ o hk,hd⟩
   ·have z:∃ o,s.heap.get? p=some o/\o.ExactDict:=by
     rcases hk with ⟨kvs,hk⟩ | ⟨kvs,hk⟩
     ·obtain ⟨_,_,_,_,o,_,_,e,ex,_⟩:=I.hok p _ hk
      exact ⟨o,e,ex⟩
     ·obtain ⟨_,_,_,_,o,_,_,e,ex,_⟩:=I.hok p _ hk
      exact ⟨o,e,ex⟩
    obtain ⟨o,e,ex⟩:=z
    refine ⟨⟨o,e,ex.1⟩,fun a e2=>?_⟩
    cases e2
    exact ⟨o,e,ex.2.1⟩
   ·obtain ⟨o,_,_,_,e,ex,_⟩:=I.hok p _ hk
    refine ⟨⟨o,e,ex.1⟩,fun a e2=>?_⟩
    cases e2
    exact ⟨o,e,ex.2.1⟩
 | _=>exact False.elim ty
def BH (K:PySem.W.Frag) (T:String) (r:V->List V->Hp->VK->Prop) (to:TE):TE:=fun σ H Q=>to σ H fun x H1=>tyV K T x H1/\r x [] H1 Q
def tBM (K:PySem.W.Frag) (T:String) (r:V->List V->Hp->VK->Prop) (to:TE) (t:TA):TE:=fun σ H Q=>to σ H fun x H1=>tyV K T x H1/\t σ H1 fun xs H2=>r x xs H2 Q
variable {o e:Expr} {es:List Expr} {to:TE} {t:TA} {name:Str} {apos cpos:Pos} {T id:String} {r:V->List V->Hp->VK->Prop}
theorem x8 (pa:PlainAttrs T) (slot:Slot T name id) (hty:typeOf (.builtin id)=pure (.type "method_descriptor")) (hm:MtR X id r) (ho:PE X o to)
 (hbase:attributeBase o name X.env (eval o X.env)=eval o X.env:=by rfl) (hline:(apos.endLine == cpos.line)=true:=by rfl):PE X (.Call (.Attribute o name apos) [] [] cpos) (BH X.K T r to):=by
 intro pins s σ H Q I h
 refine wpAny_Call_method0_late hbase hline (thn (ho pins s σ H _ I h) fun v s1 ⟨x,H1,I1,r1,ty,q1⟩=>?_)
 obtain ⟨h1,h2⟩:=wk I1 r1 ty
 exact ⟨T,id,pa,slot,hty,h1,h2,Calls.callWith_builtin rfl (PySem.evalArgs_none (hm pins s1 σ H1 x [] v [] Q I1 r1 .nil q1))⟩
theorem lj (pa:PlainAttrs T) (slot:Slot T name id) (hty:typeOf (.builtin id)=pure (.type "method_descriptor")) (hm:MtR X id r) (ho:PE X o to) (ha:PA X (e::es) t)
 (hbase:attributeBase o name X.env (eval o X.env)=eval o X.env:=by rfl)
 (hfew:((backTo cpos (starEach (e::es) X.env)).all (fun x=>!x.1)&&(backToKw cpos (keywordEach [] X.env)).all (fun x=>x.1.isSome)
   && decide ((e::es).length+([]:List Keyword).length+(if ([]:List Keyword).isEmpty then 0 else 1)<30))=true:=by rfl)
 (hline:(apos.endLine == cpos.line)=true:=by rfl) (hs:starEach (e::es) X.env=(false,eval e X.env)::starEach es X.env:=by rfl) (hplain:(backTo cpos (starEach es X.env)).any (·.1)=false:=by rfl) :
 PE X (.Call (.Attribute o name apos) (e::es) [] cpos) (tBM X.K T r to t):=by
 intro pins s σ H Q I h
 refine wpAny_Call_method_late hbase hfew hline rfl (thn (ho pins s σ H _ I h) fun v s1 ⟨x,H1,I1,r1,ty,q1⟩=>?_)
 obtain ⟨h1,h2⟩:=wk I1 r1 ty
 refine ⟨T,id,pa,slot,hty,h1,h2,?_⟩
 have hA:=ha cpos pins s1 σ H1 _ I1 q1
 rw [hs] at hA ⊢
 refine Calls.callWith_builtin (by show (false || (backTo cpos (starEach es X.env)).any (·.1))=false;rw [hplain]<;>rfl) (Calls.evalArgs_plain ?_)
 exact thn hA fun us s2 ⟨vs,H2,I2,r2,q2⟩=>hm pins s2 σ H2 x vs v us Q I2 r1 r2 q2
end
end L2
namespace L2
open PySem PySem.Spec PyProof.Rows
def MtM (X:Cx) (id:String) (r:V->List V->Hp->VK->Prop):Prop :=
 ∀ (pins:List (Addr×Obj)) (s:Shared) (σ:St) (H:Hp) (x:V) (xs:List V) (v:Value) (us:List Value) (Q:VK),Inv X pins σ H s->RelV x v->Vals xs us->r x xs H Q ->
   wpAny (model X.prog X.w) X.A (call (.builtin id) (v::us)) (EP X pins σ Q) X.xe s
theorem Vals.one:∀ {x:V} {us:List Value},Vals [x] us->∃ u,us=[u]/\RelV x u
 | _,_,.cons r .nil=>⟨_,rfl,r⟩
theorem Vals.two:∀ {x y:V} {us:List Value},Vals [x,y] us->∃ u v,us=[u,v]/\RelV x u/\RelV y v
 | _,_,_,.cons r (.cons q .nil)=>⟨_,_,rfl,r,q⟩
theorem Vals.zero:∀ {us:List Value},Vals [] us->us=[]
 | _,.nil=>rfl
theorem Vals.dropLast {xs:List V} {us:List Value} (h:Vals xs us):Vals xs.dropLast us.dropLast:=by
 induction h with
 | nil=>exact .nil
 | cons r t ih =>
   cases t with
   | nil=>exact .nil
   | cons q t'=>exact .cons r ih
theorem Vals.eraseIdx:∀ {xs:List V} {us:List Value} (i:Nat),Vals xs us->Vals (xs.eraseIdx i) (us.eraseIdx i)
 | _,_,_,.nil=>.nil
 | _,_,0,.cons _ t=>t
 | _,_,i+1,.cons r t=>.cons r (Vals.eraseIdx i t)
theorem Vals.reverse {xs:List V} {us:List Value} (h:Vals xs us):Vals xs.reverse us.reverse:=by
 induction h with
 | nil=>exact .nil
 | cons r t ih=>rw [List.reverse_cons,List.reverse_cons];exact Vals.append ih (.cons r .nil)
theorem Vals.rep {xs:List V} {us:List Value} (h:Vals xs us):∀ k:Nat,Vals (List.replicate k xs).flatten (List.replicate k us).flatten
 | 0=>.nil
 | k+1=>by
   rw [List.replicate_succ,List.replicate_succ,List.flatten_cons,List.flatten_cons]
   exact Vals.append h (Vals.rep h k)
theorem Jy {α:Type} (l:List α):l.eraseIdx (l.length-1)=l.dropLast:=by
 induction l with
 | nil=>rfl
 | cons a r ih =>
   cases r with
   | nil=>rfl
   | cons b r =>
     have e:(a::b::r).length-1=((b::r).length-1)+1:=by
      have h1:(a::b::r).length=r.length+2:=rfl
      have h2:(b::r).length=r.length+1:=rfl
      omega
     rw [e,List.eraseIdx_cons_succ,ih]
     all_goals rfl
theorem zz (its:List Value):∀ (k:Nat) (acc:List Value),
 List.foldl (fun x1 x2=>x1++x2) acc.toArray (List.replicate k its.toArray)=(acc++(List.replicate k its).flatten).toArray
 | 0,acc=>by simp
 | k+1,acc=>by
   have e:acc.toArray++its.toArray=(acc++its).toArray:=by simp
   have e2:(acc++its)++(List.replicate k its).flatten=acc++(List.replicate (k+1) its).flatten:=by
    rw [List.replicate_succ,List.flatten_cons,List.append_assoc]
   rw [<- e2,<- zz its k (acc++its),<- e,List.replicate_succ,List.foldl_cons]
section
variable {X:Cx} {pins:List (Addr×Obj)} {σ:St} {H:Hp} {s:Shared} {l b:Addr} {xs ys zs:List V}
theorem Inv.lset {its its':List Value} {n:Nat} {f:Array Value->Array Value} {t':Nat} (I:Inv X pins σ H s) (hH:H l=some (.lst xs))
 (e:s.heap.get? l=some { cls:=.type "list",data:=.seq its.toArray n }) (hf:f its.toArray=its'.toArray) (hv:Vals ys its') (hz:ys.length<=sizeLine) :
 Inv X pins σ (upd H l (.lst ys)) { s with heap:=s.heap.update l (Obj.mapSeq f),toks:=t' }:=by
 have q:=PySem.IsL.update e f
 rw [hf] at q
 refine I.write (x:=l) (e:=l) (by rw [hH];exact trivial) (.inl rfl) (fun b' u hb hu=>(Heap.get?_update_other s.heap (Obj.mapSeq f) (Ne.symm hb)).trans hu) ⟨_,q⟩ ?_
 exact ⟨hz,its',_,hv,q⟩
theorem Inv.lnew {its:List Value} {t':Nat} (I:Inv X pins σ H s) (hv:Vals ys its) (hz:ys.length<=sizeLine) :
 Inv X pins σ (upd H s.heap.objs.size (.lst ys)) { s with heap:=s.heap.push { cls:=.type "list",data:=.seq its.toArray },toks:=t' } :=
 I.laid (fun _ _ q=>Heap.get?_push_of_some _ q) (Nat.le_refl _) ⟨hz,its,0,hv,Heap.get?_push_size _ rfl⟩
theorem Inv.fresh (I:Inv X pins σ H s):H s.heap.objs.size=none:=I.hok.fresh (Nat.le_refl _)
theorem Inv.lstM (I:Inv X pins σ H s) (hH:H l=some (.lst xs)):xs.length<=sizeLine/\∃ (its:List Value) (n:Nat),Vals xs its/\xs.length=its.length/\s.heap.get? l=some { cls:=.type "list",data:=.seq its.toArray n }:=by
 obtain ⟨z,its,n,r,e⟩:=I.hok l _ hH
 exact ⟨z,its,n,r,r.length,e⟩
theorem Fj {n:Nat} (h:n<=sizeLine):Builtin.List.listTooLong n=false:=by
 unfold Builtin.List.listTooLong
 exact decide_eq_false (by omega)
end
section
variable {X:Cx}
def Dq:V->List V->Hp->VK->Prop:=fun x vs H Q=>∃ l xs y,x=.ref l/\vs=[y]/\H l=some (.lst xs)/\xs.length<sizeLine/\Q .non (upd H l (.lst (xs++[y])))
theorem lC:MtM X "list.append" Dq:=by
 intro pins s σ H x vs v us Q I rx rv h
 obtain ⟨l,xs,y,rfl,rfl,hH,hz,q⟩:=h
 cases rx
 obtain ⟨u,rfl,ru⟩:=rv.one
 obtain ⟨z,its,n,r,hl,e⟩:=I.lstM hH
 refine call_meets F.slot_list_append ⟨_,e,rfl⟩ F.entry_list_append (F.args_list_append_2 _ _) (PySem.list_append l its.toArray n u (by rw [List.size_toArray];omega)) ⟨e,?_⟩
 refine ⟨.non,_,I.lset (its':=its++[u]) hH e (by simp) (r.append (.cons ru .nil)) ?_,rfl,q⟩
 rw [List.length_append,List.length_singleton]
 omega
def Dm:V->List V->Hp->VK->Prop:=fun x vs H Q=>∃ l xs y,x=.ref l/\vs=[]/\H l=some (.lst xs)/\xs[xs.length-1]?=some y/\Q y (upd H l (.lst xs.dropLast))
theorem Ft:MtM X "list.pop" Dm:=by
 intro pins s σ H x vs v us Q I rx rv h
 obtain ⟨l,xs,y,rfl,rfl,hH,hy,q⟩:=h
 cases rx
 have hus:=rv.zero
 subst hus
 obtain ⟨z,its,n,r,hl,e⟩:=I.lstM hH
 obtain ⟨u,hu,ru⟩:=r.get hy
 have hy':its.toArray[its.toArray.size-1]?=some u:=by
  show its.toArray[its.length-1]?=some u
  rw [<- Array.getElem?_toList,<- hl]
  exact hu
 refine call_meets F.slot_list_pop ⟨_,e,rfl⟩ F.entry_list_pop (F.args_list_pop_1 _) (MeetsSeq.list_pop_last l its.toArray n u hy' (by rw [List.size_toArray];omega)) ⟨e,?_⟩
 refine ⟨y,_,I.lset (its':=its.dropLast) hH e ?_ r.dropLast ?_,ru,q⟩
 ·show its.toArray.eraseIdxIfInBounds (its.toArray.size-1)=its.dropLast.toArray
  rw [List.size_toArray,List.eraseIdxIfInBounds_toArray,Jy]
 ·rw [List.length_dropLast]
  omega
def Dk:V->List V->Hp->VK->Prop:=fun x vs H Q=>∃ l xs,x=.ref l/\vs=[]/\H l=some (.lst xs)/\Q .non (upd H l (.lst xs.reverse))
theorem Fq:MtM X "list.reverse" Dk:=by
 intro pins s σ H x vs v us Q I rx rv h
 obtain ⟨l,xs,rfl,rfl,hH,q⟩:=h
 cases rx
 have hus:=rv.zero
 subst hus
 obtain ⟨z,its,n,r,hl,e⟩:=I.lstM hH
 refine call_meets F.slot_list_reverse ⟨_,e,rfl⟩ F.entry_list_reverse (F.args_list_reverse_1 _) (AutoSeq1.list_reverse_list_0 l its.toArray n (by rw [List.size_toArray];omega)) ⟨e,?_⟩
 refine ⟨.non,_,I.lset (its':=its.reverse) hH e (by simp) r.reverse ?_,rfl,q⟩
 rw [List.length_reverse]
 omega
def Dl:R2:=fun x y H Q=>∃ l k xs,x=.ref l/\y=.int k/\H l=some (.lst xs) /\ -(2^63)<=k/\k<2^63/\xs.length*k.toNat<=sizeLine /\
 ∀ p,H p=none->Q (.ref p) (upd H p (.lst (List.replicate k.toNat xs).flatten))
theorem Gw {α:Type} (xs:List α) (k:Nat):(List.replicate k xs).flatten.length=k*xs.length:=by
 induction k with
 | zero=>simp
 | succ k ih=>rw [List.replicate_succ,List.flatten_cons,List.length_append,ih,Nat.succ_mul,Nat.add_comm]
theorem sL:OpR X (binaryOp .Mult) Dl:=by
 intro pins s σ H x y v u Q I rx ry h
 obtain ⟨l,k,xs,rfl,rfl,hH,h1,h2,hz,q⟩:=h
 cases rx
 obtain ⟨t,rfl⟩:=ry
 obtain ⟨z,its,n,r,hl,e⟩:=I.lstM hH
 have hlen:its.toArray.size*k.toNat<=sizeLine:=by rw [List.size_toArray,<- hl];exact hz
 have hcap:¬ its.toArray.size*k.toNat>(2^63-1)/8:=by
  have:(sizeLine:Nat)<=(2^63-1)/8:=by decide
  omega
 have hfit:¬ (!Builtin.List.listFitsIndex k)=true:=by
  rw [fitsIndex_both h1 h2]
  exact Bool.false_ne_true
 have hlong:¬ Builtin.List.listTooLong (its.toArray.size*k.toNat)=true:=by
  rw [Fj hlen]
  exact Bool.false_ne_true
 have hnew:List.foldl (fun x1 x2=>x1++x2) #[] (List.replicate (if its.toArray.isEmpty=true then 0 else k.toNat) its.toArray)=(List.replicate k.toNat its).flatten.toArray:=by
  have f0:∀ m:Nat,List.foldl (fun x1 x2=>x1++x2) #[] (List.replicate m its.toArray)=(List.replicate m its).flatten.toArray:=fun m=>by
   have:=zz its m []
   rw [List.nil_append] at this
   exact this
  rw [f0]
  cases its with
  | nil=>simp
  | cons a r'=>rw [if_neg (by simp)]
 refine wpAny_binaryOp_repeat_ref (T:="list") (U:="int") (by decide) ⟨_,e,rfl⟩ (fun s'=>typeIs_int s' k t) noFill_list_mul F.fills_int_mul F.slot_int_rmul repeat_list F.slot_int_index.lookup
  (call_meets F.slot_int_rmul (typeIs_int s k t) F.entry_int_rmul (F.args_int_rmul_2 _ _) (int___rmul___int_list k t l its.toArray n)
    ⟨e,rfl,⟨_,e,rfl⟩,call_meets F.slot_list_mul ⟨_,e,rfl⟩ F.entry_list_mul (F.args_list_mul_2 _ _) (AutoListH.list___mul___list_int_3 l its.toArray n k t hfit hcap hlong) ⟨e,?_⟩⟩)
 rw [hnew]
 exact ⟨.ref _,_,I.lnew (t':=s.toks) (r.rep k.toNat) (by rw [Gw,Nat.mul_comm];exact hz),rfl,q _ I.fresh⟩
end
section
variable {prog:Program} {w:World} {A:Around} {E:Value->Shared->Prop} {s:Shared}
end
section
variable {X:Cx}
end
end L2
namespace Att
open PySem PySem.W PySem.Calls PyProof.Rows
theorem Hj {P:Params} {h:Heap}:∀ (ns:List Int) (vs:List Value),WellAll P h vs (ns.map WData.int)->IntsAre vs ns:=by
 intro ns
 induction ns with
 | nil =>
   intro vs w
   rw [List.map_nil] at w
   cases w
   exact .nil
 | cons n ns ih =>
   intro vs w
   rw [List.map_cons] at w
   cases w with
   | cons a b =>
     cases a
     exact .cons _ _ (ih _ b)
theorem Cg {l:OpenLaw} {n:Nat} (hn:l.most=some n) {P:Params} {h:Heap} {args:List WData} {vals:List Value}
 (hpre:l.row.toRowW.claim.pre args=true) (hwl:WellAll P h vals args) :
 ∃ a vs ns,vals=[Value.ref a]/\args=[WData.list (ns.map WData.int)]/\h.get? a=some { cls:=.type "list",data:=.seq vs.toArray }/\IntsAre vs ns/\ns.length<=n:=by
 have hsh:WShape.hasAll [] args [.list .int]=true:=(pre_splitW hpre).1
 have hc:l.pre.holds [] { args:=args }=true:=(pre_splitW hpre).2
 obtain ⟨d,r,rfl,h1,h2⟩:=hasAllW_cons hsh
 obtain rfl:=hasAllW_nil h2
 obtain ⟨xs,rfl,h3⟩:=hasW_list h1
 obtain ⟨ns,rfl⟩:=items_int h3
 have hlen:ns.length<=n:=by
  unfold OpenLaw.pre at hc
  have h4:(WTm.not (.lt (.lit (.int (n:Int))) (.len (.arg 0)))).holds [] { args:=[.list (ns.map .int)] }=true:=by
   have h4:=(holds_andW hc).1
   rw [hn] at h4
   exact h4
  have h5:=condW_of h4 (w_not (w_lt w_lit (w_len_list (w_arg rfl))))
  rw [List.length_map] at h5
  refine Nat.le_of_not_lt fun q=>?_
  have q':(n:Int)<((ns.length:Nat):Int):=by omega
  first
   | (rw [decide_eq_true q'] at h5;exact absurd h5 (by decide))
   | (simp at h5;omega)
 cases hwl with
 | cons w1 w2 =>
   cases w2
   cases w1 with
   | list ho hall=>exact ⟨_,_,ns,rfl,rfl,ho,Hj ns _ hall,hlen⟩
theorem DA (l:OpenLaw) (args:List WData):l.row.toRowW.claim.post args (.bool true) args=true :=
 postW_of (r:=l.row.toRowW) (X:=(true == true))
  (show WShape.has [] (.bool true) .bool=true by first | rfl | decide | simp [WShape.has,WShape.arms,WShape.armsAll])
  (show (WTm.eq .res (.lit (.bool true))).value [] { args:=args,res:=some (.bool true),after:=args }=some (.bool (true == true)) from w_eq_bool (w_res rfl) w_lit) rfl
theorem attach_call {l:OpenLaw} {n:Nat} {q:Program} {loose:List Str} {XP:(Str->Option Value)->Heap->Prop} {YP:World->Heap->Prop} {d:DefRec}
 (hn:l.most=some n) (hdf:d.params.defaults=[])
 (call:∀ (w:World) (s₀ s₁:Shared) (mg mb:Str->Option Value) (fa:Addr) (o:Obj) (pm cd doc:Value) (a:Addr) (vs:List Value) (ns:List Int),
   Ground q loose [] XP w s₀ mg mb s₁.heap->YP w s₁.heap ->
   s₁.heap.get? fa=some o->o.data=.func (docDef d.name d.params d.body d.scope pm cd doc)->s₁.heap.CodeRec cd d.name->mg d.name=some (.ref fa) ->
   s₁.heap.get? a=some { cls:=.type "list",data:=.seq vs.toArray }->IntsAre vs ns->ns.length<=n->s₁.gens=#[] ->
   codeAny (model l.prog w) callerA (.call (.ref fa) ⟨[.ref a],[]⟩) (fun r s'=>r=.ok (.ret (.bool true))/\OldK s₁.heap s'.heap/\s'.os=s₁.os/\AllBare s'.gens) s₁) :
 WalkO q loose XP YP l.row.toRowW d [] (fun f vs=>PySem.call f vs):=by
 intro w s₀ s₁ mg mb G Y fa o pm cd doc dV kV ho hd hcd hD hmg hg args vals as hpre hlay hrd hwl hlo
 obtain rfl:dV=.none:=Dflts.none hD hdf
 obtain rfl:kV=.none:=Dflts.noKw hD
 obtain ⟨a,vs,ns,rfl,rfl,hobj,hints,hlen⟩:=Cg hn hpre hwl
 refine enter_call (codeAny_mono (call w s₀ s₁ mg mb fa o pm cd doc a vs ns G Y ho (fd_plain hd) hcd hmg hobj hints hlen hg) fun r s' hq=>?_)
 obtain ⟨rfl,h2,h3,h4⟩:=hq
 exact ⟨.inl ⟨.bool true,.bool true,[],rfl,fun _=>rfl,.bool true,DA l _,fun _=>⟨List.Pairwise.nil,fun _ hm=>(nomatch hm)⟩⟩,h2,h3,h4⟩
section
variable {prog:Program} {w:World} {A:Around} {E:Value->Shared->Prop} {s:Shared} {K:Frag}
end
end Att
namespace L2
open PySem PySem.Spec PyProof.Rows
theorem wb:∀ {vs:List Value} {ns:List Int},IntsAre vs ns->Vals (ns.map V.int) vs
 | _,_,.nil=>.nil
 | _,_,.cons n t h=>.cons ⟨t,rfl⟩ (wb h)
def vB (H:Hp):Prop:=∀ b,H b=none\/∃ o xs,H b=some (.frz o (.lst xs))
end L2
namespace L2
open PySem PySem.Spec PyProof.Rows
end L2
namespace L2
open PySem PySem.Spec PyProof.Rows
def iH (s:Stmt) (j:Nat):Stmt:=match s with
 | .ClassDef _ _ _ body _ _ _ _ _ _ _=>body.getD j (.Pass ⟨0,0,0,0⟩)
 | _=>.Pass ⟨0,0,0,0⟩
def aG (s:Stmt):Arguments:=match s with
 | .FunctionDef _ a _ _ _ _ _ _ _ _=>a
 | _=>{ posonlyargs:=[],args:=[],vararg:=none,kwonlyargs:=[],kw_defaults:=[],kwarg:=none,defaults:=[] }
def aE (s:Stmt):List Stmt:=match s with
 | .FunctionDef _ _ b _ _ _ _ _ _ _=>b
 | _=>[]
def ak (s:Stmt):Scope:=match s with
 | .FunctionDef _ _ _ _ _ _ sc _ _ _=>sc
 | _=>{ kind:=.function,names:=[],isGenerator:=false,isCoroutine:=false }
abbrev CX0:CXT:=fun _ _ _ _ _ _=>False
abbrev E0:XK:=fun _ _ _=>False
theorem ai {X:Cx}:ji CX0 X E0:=fun _ _ _ _ _ _ _ h=>h.elim
structure Fun (K:PySem.W.Frag) (x qual:Str) (st:Stmt) (f:Addr) (fd:FuncData):Prop where
 ex:∃ (oc:Value) (od:Option Addr) (kV doc pm:Value) (an:Option Addr) (cdv ct:Value) (osl:Array (Option Value)),
  fd=PySem.W.fnOf x qual (aG st) (aE st) (ak st) .none kV doc pm an cdv ct/\K.lookup f=some ⟨oc,od,.func fd,osl⟩/\PySem.W.codeIn K cdv qual=true
 kp:PySem.W.keepIn K (.ref f)=true
section
variable {P:Program} {w:World} {K:PySem.W.Frag} {mg:Str->Option Value} {base:Heap}
theorem Fun.ok {x qual:Str} {st:Stmt} {f:Addr} {fd:FuncData} {N ps:List Str} {k:Nat} {sp:Sp} (F:Fun K x qual st f fd) (S:FnScope N ps (ak st)) (len:∀ vs H Q E,sp vs H Q E->vs.length=ps.length)
 (hbody:∀ (cdv:Value) (A:Around) (outer:List Env) (s:Shared) (H:Hp) (vs:List V) (Q:VK) (E:XK),Room k (A.deeper (envOfC qual (ak st) s.heap.objs.size f cdv))->sp vs H Q E ->
   ∃ t,PSs (i6 CX0 P w K mg base N qual (ak st) f cdv A outer s H E).nox (aE st) t/\t { nx:=fun _ H'=>Q .non H',rt:=Q } (start N vs) H):FnOk P w K mg base CX0 (k+1) f fd ps sp:=by
 obtain ⟨oc,od,kV,doc,pm,an,cdv,ct,osl,rfl,lk,hcd⟩:=F.ex
 refine zB lk hcd S len fun A outer s H vs Q E hr hsp=>?_
 obtain ⟨t,h,q⟩:=hbody cdv A outer s H vs Q E hr hsp
 exact ⟨t,h.nox,q⟩
theorem Fun.binds {x qual:Str} {st:Stmt} {f:Addr} {fd:FuncData} {ps:List Str} (F:Fun K x qual st f fd)
 (h:∀ (kV doc pm:Value) (an:Option Addr) (cdv ct:Value) (us:List Value),us.length=ps.length->bindArgs (PySem.W.fnOf x qual (aG st) (aE st) (ak st) .none kV doc pm an cdv ct) ⟨us,[]⟩=pure (ps.zip us)):Binds K fd ps []:=by
 obtain ⟨oc,od,kV,doc,pm,an,cdv,ct,osl,rfl,lk,hcd⟩:=F.ex
 exact .all (h kV doc pm an cdv ct)
theorem aJ {x qual:Str} {st:Stmt} {f:Addr} {oc:Value} {od an:Option Addr} {osl:Array (Option Value)} {kV doc pm cdv ct:Value} (l:K.lookup f=some ⟨oc,od,.func (PySem.W.fnOf x qual (aG st) (aE st) (ak st) .none kV doc pm an cdv ct),osl⟩)
 (c:PySem.W.codeIn K cdv qual=true) (k:PySem.W.keepIn K (.ref f)=true):Fun K x qual st f (PySem.W.fnOf x qual (aG st) (aE st) (ak st) .none kV doc pm an cdv ct):=⟨⟨oc,od,kV,doc,pm,an,cdv,ct,osl,rfl,l,c⟩,k⟩
end
section
variable {X:Cx}
theorem pv (i:Nat) {x:Str} {pos:Pos} (hN:X.N[i]?=some x:=by rfl) (hv:Vis X.env.scope x:=by first | exact Or.inl rfl | exact Or.inr (Or.inl rfl) | exact Or.inr (Or.inr rfl)) (hd:(x == ("__debug__":Str))=false:=by decide)
 (hcd:(x == ("__classdict__":Str))=false:=by decide):PE X (.Name x pos) (wt i):=DK hN hv hd hcd
end
def Same (H H':Hp):Prop:=∀ b o,H b=some o->H' b=some o
theorem Same.refl (H:Hp):Same H H:=fun _ _ h=>h
theorem Same.trans {H H1 H2:Hp} (a:Same H H1) (b:Same H1 H2):Same H H2:=fun c o h=>b c o (a c o h)
theorem Same.free {H H':Hp} (e:Same H H') {l:Addr} (h:H' l=Option.none):H l=Option.none:=by
 cases q:H l with
 | none=>rfl
 | some o =>
   rw [e l o q] at h
   cases h
theorem Same.seq {K:PySem.W.Frag} {H H':Hp} {a:Addr} {xs:List V} (e:Same H H') (h:SqL K H a xs):SqL K H' a xs:=by
 rcases h with (h | ⟨o,h⟩) | h
 ·exact .inl (.inl (e _ _ h))
 ·exact .inl (.inr ⟨o,e _ _ h⟩)
 ·exact .inr h
end L2
set_option maxHeartbeats 4000000
namespace L2
open PySem PySem.Spec PyProof.Rows
def gN (X:Cx) (N:List Str) (scope:Scope) (cl:List (Str×Addr)) (C:Addr) (s₀:Shared) (H₀:Hp) (ex:List Addr):Cx where
 prog:=X.prog
 w:=X.w
 K:=X.K
 mg:=X.mg
 base:=X.base
 A:=X.A
 N:=N
 s₀:=s₀
 H₀:=H₀
 env:=compEnvC scope cl C X.env
 outer:=X.stack
 stack:=X.stack
 ex:=ex
 fn:=fun _=>false
 calm:=X.calm
 pn:=[]
 xe:=fun _ _=>False
structure CompOk (X:Cx) (fr:List Str) (js:List Nat) (scope:Scope) (cl:List (Str×Addr)):Prop where
 clos:closureFor scope X.env=pure cl
 cell:∀ y∈scope.names,y.2≠.cell
 kind:scope.kind=.function
 names:∀ y∈scope.names,y.2=.local->scope.names.lookup y.1=some .local
 clin:∀ p∈cl,X.env.cells.lookup p.1=some p.2
 has:scope.names.all (fun p=>p.2 != .free || (cl.lookup p.1).isSome)=true
 fre:Paired (fun (x:Str) (j:Nat)=>X.N[j]?=some x/\(X.env.scope.names.lookup x=some .cell\/X.env.scope.names.lookup x=some .free)/\scope.names.lookup x=some .free) fr js
theorem sh {env:Env} {x:Str} {k':NameKind}:∀ {names:List (Str×NameKind)},
 (names.map fun (n,k)=>if (k == NameKind.free&&env.scope.kind == .function&&env.kindOf n == some .cell) then (n,NameKind.cell) else (n,k)).lookup x=some k' ->
 ∃ k,names.lookup x=some k/\(k'=k\/(k=.free/\k'=.cell))
 | [],h=>by simp at h
 | (n,k)::r,h=>by
   have ih:=@sh env x k' r
   change List.lookup x ((if (k == NameKind.free&&env.scope.kind == .function&&env.kindOf n == some .cell)=true then (n,NameKind.cell) else (n,k))::_)=_ at h
   by_cases hc:(k == NameKind.free&&env.scope.kind == .function&&env.kindOf n == some .cell)=true
   ·rw [if_pos hc] at h
    cases hx:x == n with
    | true =>
      simp only [List.lookup_cons,hx] at h ⊢
      cases h
      refine ⟨k,rfl,.inr ⟨?_,rfl⟩⟩
      simp only [Bool.and_eq_true,beq_iff_eq] at hc
      exact hc.1.1
    | false =>
      simp only [List.lookup_cons,hx] at h ⊢
      exact ih h
   ·rw [if_neg hc] at h
    cases hx:x == n with
    | true =>
      simp only [List.lookup_cons,hx] at h ⊢
      cases h
      exact ⟨_,rfl,.inl rfl⟩
    | false =>
      simp only [List.lookup_cons,hx] at h ⊢
      exact ih h
theorem xI {env:Env} {x:Str}:∀ {names:List (Str×NameKind)},names.lookup x=some .free ->
 (names.map fun (n,k)=>if (k == NameKind.free&&env.scope.kind == .function&&env.kindOf n == some .cell) then (n,NameKind.cell) else (n,k)).lookup x=some .cell \/
 (names.map fun (n,k)=>if (k == NameKind.free&&env.scope.kind == .function&&env.kindOf n == some .cell) then (n,NameKind.cell) else (n,k)).lookup x=some .free
 | [],h=>by simp at h
 | (n,k)::r,h=>by
   have ih:=@xI env x r
   show List.lookup x ((if (k == NameKind.free&&env.scope.kind == .function&&env.kindOf n == some .cell)=true then (n,NameKind.cell) else (n,k))::_)=_\/List.lookup x ((if (k == NameKind.free&&env.scope.kind == .function&&env.kindOf n == some .cell)=true then (n,NameKind.cell) else (n,k))::_)=_
   by_cases hc:(k == NameKind.free&&env.scope.kind == .function&&env.kindOf n == some .cell)=true
   ·rw [if_pos hc]
    cases hx:x == n with
    | true=>simp only [List.lookup_cons,hx];exact .inl trivial
    | false=>simp only [List.lookup_cons,hx] at h ⊢;exact ih h
   ·rw [if_neg hc]
    cases hx:x == n with
    | true =>
      simp only [List.lookup_cons,hx] at h ⊢
      cases h
      exact .inr rfl
    | false=>simp only [List.lookup_cons,hx] at h ⊢;exact ih h
def iG (n:Nat) (js:List Nat) (σ:St):St:=List.replicate n none++js.map fun j=>(σ[j]?).join
def vK (n:Nat) (js:List Nat) (g:TG) (te:TE) (σ:St) (Q:VK) (J:It) (H1:Hp):Prop:=∃ W:Nat->Nat->List V->St->Hp->Prop,(∃ m,W 0 m [] (iG n js σ) H1) /\
 ∀ i m ys σ' H',W i m ys σ' H' ->
   (J.stop i H'/\∀ p,H' p=none->Q (.ref p) (upd H' p (.lst ys))) \/
   (J.go i H'/\ys.length<sizeLine/\∃ N:V->St->Hp->Prop,(∀ y σ'' H'',N y σ'' H''->∃ m',m'<m/\W (i+1) m' (ys++[y]) σ'' H'')/\∀ x H2,J.yld i H' x H2->g x σ' H2 fun σ3 H3=>te σ3 H3 fun y H4=>N y σ3 H4)
def BF (n:Nat) (js:List Nat) (wi:TI) (g:TG) (te:TE):TE:=fun σ H Q=>wi σ H fun J H1=>vK n js g te σ Q J H1
def Ly (X:Cx) (pins:List (Addr×Obj)) (σ:St) (Q:VK) (D C:Addr) (s':Shared):Prop :=
 ∃ H2,Inv X pins σ H2 s'/\Q (.ref D) H2/\H2 C=none/\C≠X.env.locals/\X.s₀.heap.objs.size<=C/\(∀ x c,X.env.cells.lookup x=some c->c≠C)/\(∀ p∈X.pn++pins,p.1≠C)/\∃ m,s'.heap.Ns C m
section
variable {X:Cx} {own fr:List Str} {js:List Nat} {scope:Scope} {cl:List (Str×Addr)} {elt target iter:Expr} {pos:Pos} {wi:TI} {g:TG} {te:TE}
theorem gR (O:CompOk X fr js scope cl) {x:Str} {c:Addr} (e:cl.lookup x=some c):X.env.cells.lookup x=some c:=O.clin (x,c) (PySem.mem_of_lookup e)
theorem zU {pins:List (Addr×Obj)} {σ:St} {H:Hp} {s:Shared} {fp:List Addr} {C:Addr} (O:CompOk X fr js scope cl) (I:Inv X pins σ H s) (hC:s.heap.objs.size<=C) (hf:∀ b∈fp,fF X pins H b) (ho:∀ b∈fp,b<s.heap.objs.size) :
 (gN X (own++fr) scope cl C s H fp).Ok:=by
 refine ⟨I.ok.mod,O.kind,I.ok.glob,I.ok.blt,hC,fun x y c h1 h2=>I.ok.inj x y c (gR O h1) (gR O h2),fun x hx=>?_,fun x c h=>(by cases h),I.ok.hd,I.ok.frames,.inl rfl,fun b hb=>?_,I.bs,?_,fun b o e hb=>?_,fun b hb hb'=>?_,I.stack,I.stkFree⟩
 ·have key:scope.names.lookup x=some .free:=by
   have hx':(scope.names.map fun (n,k)=>if (k == NameKind.free&&X.env.scope.kind == .function&&X.env.kindOf n == some .cell) then (n,NameKind.cell) else (n,k)).lookup x=some .cell \/
    (scope.names.map fun (n,k)=>if (k == NameKind.free&&X.env.scope.kind == .function&&X.env.kindOf n == some .cell) then (n,NameKind.cell) else (n,k)).lookup x=some .free:=hx
   rcases hx' with h | h
   ·obtain ⟨k,e,z⟩:=sh h
    rcases z with z | ⟨z,_⟩
    ·subst z;exact absurd rfl (O.cell _ (PySem.mem_of_lookup e))
    ·subst z;exact e
   ·obtain ⟨k,e,z⟩:=sh h
    rcases z with z | ⟨_,z⟩
    ·subst z;exact e
    ·cases z
  have hm:=List.all_eq_true.mp O.has _ (PySem.mem_of_lookup key)
  have hs:(cl.lookup x).isSome=true:=by simpa using hm
  exact Option.isSome_iff_exists.mp hs
 ·obtain ⟨f0,f1,f2,f3,f4,f5⟩:=hf b hb
  exact ⟨Nat.ne_of_lt (Nat.lt_of_lt_of_le (ho b hb) hC),fun x c e=>f4 x c (gR O e)⟩
 ·exact Nat.le_trans I.ok.bsz I.sz
 ·obtain ⟨f0,f1,f2,f3,f4,f5⟩:=hf b hb
  rcases f3 with z | z
  ·exact I.ok.noex b o e z
  ·exact absurd (Nat.lt_of_lt_of_le (Heap.lt_size e) (Nat.le_trans I.ok.bsz z)) (Nat.lt_irrefl _)
 ·obtain ⟨f0,f1,f2,f3,f4,f5⟩:=hf b hb
  rcases List.mem_cons.mp (I.stkSub b hb') with z | z
  ·exact f1 z
  ·exact f2 z
theorem Paired.idx {α β:Type} {F:α->β->Prop}:∀ {l₁:List α} {l₂:List β},Paired F l₁ l₂->∀ (i:Nat) (a:α) (b:β),l₁[i]?=some a->l₂[i]?=some b->F a b
 | _,_,.nil,_,_,_,h,_=>by simp at h
 | _,_,.cons r _,0,a,b,h1,h2=>by simp at h1 h2;subst h1;subst h2;exact r
 | _,_,.cons _ t,i+1,a,b,h1,h2=>Paired.idx t i a b (by simpa using h1) (by simpa using h2)
theorem JH {pins:List (Addr×Obj)} {σ:St} {H:Hp} {s s':Shared} {fp:List Addr} {C:Addr} {m:Str->Option Value} (O:CompOk X fr js scope cl) (hl:fr.length=js.length) (I:Inv X pins σ H s) (hC:s.heap.objs.size<=C) (hf:∀ b∈fp,fF X pins H b)
 (ho:∀ b∈fp,b<s.heap.objs.size) (os:s'.os=s.os) (hg:s'.gens=s.gens) (old:∀ b o,s.heap.get? b=some o->s'.heap.get? b=some o) (hn:s'.heap.Ns C m) :
 Inv (gN X (own++fr) scope cl C s H fp) [] (iG own.length js σ) H s':=by
 refine ⟨zU O I hC hf ho,os,by rw [hg];exact I.bare,Un.kept old,⟨m,hn,fun i x v e1 e2 e3=>?_⟩,fun x c e=>?_,I.hok.fresh hC,fun x c e=>I.freeC x c (gR O e),fun p hp=>absurd (show p∈([]:List (Addr×Obj)) from hp) (by simp),I.hok.kept old,?_⟩
 ·unfold iG at e2
  have e1':(own++fr)[i]?=some x:=e1
  by_cases hi:i<own.length
  ·rw [List.getElem?_append_left (by simpa using hi),List.getElem?_replicate] at e2
   split at e2<;>cases e2
  ·have hi':own.length<=i:=Nat.le_of_not_lt hi
   rw [List.getElem?_append_right (by simpa using hi'),List.length_replicate,List.getElem?_map] at e2
   rw [List.getElem?_append_right hi'] at e1'
   cases ej:js[i-own.length]? with
   | none=>rw [ej] at e2;cases e2
   | some j =>
     rw [ej] at e2
     have e2':(σ[j]?).join=some v:=Option.some.inj e2
     have eσ:σ[j]?=some (some v):=by
      cases q:σ[j]? with
      | none=>rw [q] at e2';cases e2'
      | some o=>rw [q] at e2';simp at e2';rw [e2']
     obtain ⟨hN,hk,hs⟩:=Paired.idx O.fre _ x j e1' ej
     obtain ⟨mo,hmo,hlo⟩:=I.loc
     have vis:Vis X.env.scope x:=hk.elim (fun z=>.inr (.inl z)) fun z=>.inr (.inr z)
     obtain ⟨u,r,l⟩:=hlo j x v hN eσ vis
     refine ⟨u,r,.inr ⟨xI hs,?_⟩⟩
     have hm:=List.all_eq_true.mp O.has _ (PySem.mem_of_lookup hs)
     have hs':(cl.lookup x).isSome=true:=by simpa using hm
     obtain ⟨c,ec⟩:=Option.isSome_iff_exists.mp hs'
     refine ⟨c,ec,?_⟩
     rcases l with ⟨k,_⟩ | ⟨_,c',e',z⟩
     ·have k':X.env.scope.names.lookup x=some .local:=k
      rcases hk with q | q<;>(rw [q] at k';cases k')
     ·have:=gR O ec
      rw [e'] at this
      cases this
      obtain ⟨oc,hoc,hd⟩:=z
      exact ⟨oc,old _ _ hoc,hd⟩
 ·obtain ⟨v,oc,hoc,hd⟩:=I.cell x c (gR O e)
  exact ⟨v,oc,old _ _ hoc,hd⟩
 ·unfold iG
  show _=(own++fr).length
  rw [List.length_append,List.length_append,List.length_replicate,List.length_map,hl]
theorem Un.adopt {fs ex:List Addr} {H H1:Hp} {h h1:Heap} {a:Addr} {o:HO} (u:Un fs ex H H1 h h1) (ha:h.objs.size<=a) (hn:H a=none):Un fs ex H (upd H1 a o) h h1 where
 keep:=u.keep
 slot:=u.slot
 free:=fun b ob q n hx=>by rw [upd_ne (Nat.ne_of_lt (Nat.lt_of_lt_of_le (Heap.lt_size q) ha))];exact u.free b ob q n hx
 there:=u.there
 tups:=fun b xs q=>by rw [upd_ne (aZ q hn)];exact u.tups b xs q
 frzs:=fun b ob xs q=>by rw [upd_ne (aZ q hn)];exact u.frzs b ob xs q
 tbls:=fun b ps q=>by rw [upd_ne (aZ q hn)];exact u.tbls b ps q
theorem HOk.adopt {P:Program} {w:World} {H:Hp} {h:Heap} {a:Addr} {o:HO} (x:HOk P w H h) (hn:H a=none) (new:ObjOk P w (upd H a o) h a o):HOk P w (upd H a o) h:=fun b u e=>by
 by_cases hb:b=a
 ·subst hb;rw [av] at e;cases e;exact new
 ·rw [upd_ne hb] at e
  exact (x b u e).stay (fun c v _ q=>q) (fun c q=>by rw [upd_ne (aZ q hn)];exact q) fun c xs q=>by rw [upd_ne (aZ q hn)];exact q
theorem JM {pins:List (Addr×Obj)} {σ:St} {H:Hp} {s:Shared} {fp:List Addr} {it:Addr} {tn:Nat->Heap->Prop} {J:It} {E:Value->Shared->Prop} {Q:VK} {RR:Value->Addr->Result->Shared->Prop} (O:CompOk X fr js scope cl) (hl:fr.length=js.length) (hcm:X.calm=true)
 (I:Inv X pins σ H s) (T:Turn X.prog X.w X.K target J fp it tn) (st:tn 0 s.heap) (hf:∀ b∈fp,fF X pins H b)
 (hg:∀ C s₀ H₀ ex,PG (gN X (own++fr) scope cl C s₀ H₀ ex) target g) (he:∀ C s₀ H₀ ex,PE (gN X (own++fr) scope cl C s₀ H₀ ex) elt te)
 (W:Nat->Nat->List V->St->Hp->Prop) {m0:Nat} (w0:W 0 m0 [] (iG own.length js σ) H)
 (turn:∀ i m ys σ' H',W i m ys σ' H' ->
   (J.stop i H'/\∀ p,H' p=none->Q (.ref p) (upd H' p (.lst ys))) \/
   (J.go i H'/\ys.length<sizeLine/\∃ N:V->St->Hp->Prop,(∀ y σ'' H'',N y σ'' H''->∃ m',m'<m/\W (i+1) m' (ys++[y]) σ'' H'')/\∀ x H2,J.yld i H' x H2->g x σ' H2 fun σ3 H3=>te σ3 H3 fun y H4=>N y σ3 H4))
 (hRR:∀ D C s',Ly X pins σ Q D C s'->RR (.ref D) C (.ok .next) s') :
 wpAny (model X.prog X.w) X.A (newList []) (fun acc s₃=>wpAny (model X.prog X.w) X.A (newFunctionEnv scope X.env.globals cl [] X.env.qual none .none (some X.env)) (fun cenv s₄ =>
  codeAny (model X.prog X.w) X.A (.compStart (.ListComp elt [⟨target,iter,[],0⟩] scope pos) 0 (.ref it) acc { cenv with scope:=relabel scope X.env }) (RR acc cenv.locals) s₄) E s₃) E s:=by
 refine wpAny_newObj_type (wpAny_newFunctionEnv O.cell (by intro y hy;simp at hy) (fun h₁ hns₁ hsb₁=>?_) O.kind)
 dsimp only at hns₁ hsb₁ ⊢
 generalize hH2:s.heap.push { cls:=.type "list",dict:=none,data:=.seq ([]:List Value).toArray }=H2 at hns₁ hsb₁ ⊢
 have hCs:H2.objs.size=s.heap.objs.size+1:=by rw [<- hH2,Heap.size_push]
 have hDC:s.heap.objs.size≠H2.objs.size:=by rw [hCs];exact Nat.ne_of_lt (Nat.lt_succ_self _)
 have hCge:s.heap.objs.size<=H2.objs.size:=by rw [hCs];exact Nat.le_succ _
 have below:∀ b,b<s.heap.objs.size->b≠H2.objs.size/\b≠s.heap.objs.size:=fun b hb=>⟨by rw [hCs];exact Nat.ne_of_lt (Nat.lt_succ_of_lt hb),Nat.ne_of_lt hb⟩
 have old:∀ b o,s.heap.get? b=some o->h₁.get? b=some o:=fun b o e=>hsb₁.extBut b o (below b (Heap.lt_size e)).1 (Heap.get?_push_of_some _ (hH2 ▸ Heap.get?_push_of_some _ e))
 have hacc:h₁.get? s.heap.objs.size=some { cls:=.type "list",data:=.seq ([]:List Value).toArray 0 }:=hsb₁.extBut _ _ hDC (Heap.get?_push_of_some _ (hH2 ▸ Heap.get?_push_size _ rfl))
 have ho:∀ b∈fp,b<s.heap.objs.size:=fun b hb=>by obtain ⟨o,e,_⟩:=T.obj 0 _ st b hb;exact Heap.lt_size e
 generalize hDe:s.heap.objs.size=D at *
 generalize hCe:H2.objs.size=C at *
 let X':Cx:=gN X (own++fr) scope cl C s H fp
 have ok':X'.Ok:=zU O I (by rw [hDe];exact hCge) hf (by rw [hDe];exact ho)
 have hDfs:D∉X'.fs:=by
  intro z
  rcases List.mem_cons.mp (I.stkSub D z) with q | q
  ·exact absurd I.lt (by rw [<- q,hDe];exact Nat.lt_irrefl _)
  ·exact I.nofs (Nat.le_of_eq hDe) q
 have hDfp:∀ b∈fp,D≠b:=fun b hb z=>absurd (ho b hb) (by rw [z];exact Nat.lt_irrefl _)
 have hDcell:∀ x c,cl.lookup x=some c->c≠D:=fun x c e z=>by
  obtain ⟨v,q⟩:=I.cell x c (gR O e)
  exact absurd q.lt (by rw [z,hDe];exact Nat.lt_irrefl _)
 have fpok:∀ {H':Hp} {pins':List (Addr×Obj)},(∀ p∈pins',p.1=D)->(∀ b∈fp,H' b=none)->∀ b∈fp,fF X' pins' H' b:=fun {H' pins'} hp hn b hb=>by
  obtain ⟨f0,f1,f2,f3,f4,f5⟩:=hf b hb
  refine ⟨hn b hb,(below b (ho b hb)).1,fun z=>?_,.inl hb,fun x c e=>f4 x c (gR O e),fun p hp'=>?_⟩
  ·rcases List.mem_cons.mp (I.stkSub b z) with q | q
   ·exact f1 q
   ·exact f2 q
  ·have hp'':p∈pins':=by simpa [X',gN] using hp'
   rw [hp p hp''];exact hDfp b hb
 have loop:∀ s₃:Shared,s₃={ s with heap:=h₁,toks:=s.toks+([]:List (Str×Value)).length } ->
  codeAny (model X.prog X.w) X.A (.compLoop (.ListComp elt [⟨target,iter,[],0⟩] scope pos) 0 (.ref it) (.ref D) (compEnvC scope cl C X.env)) (RR (.ref D) C) s₃:=by
  rintro s₃ rfl
  refine PySem.W.kcp_loop (fun k s'=>∃ i σ' H' ys its nn,Inv X' [] σ' H' s'/\tn i s'.heap/\(∀ b∈fp,H' b=none)/\H' D=none/\s'.heap.get? D=some { cls:=.type "list",data:=.seq (its:List Value).toArray nn }/\Vals ys its/\ys.length<=sizeLine/\W i k ys σ' H') ?_ m0
   ⟨0,_,H,[],[],0,JH O hl I (by rw [hDe];exact hCge) hf (by rw [hDe];exact ho) rfl rfl (by intro b o e;exact old b o e) hns₁,T.keep _ _ _ st fun b _ o e=>old b o e,fun b hb=>(hf b hb).1,I.hok.fresh (Nat.le_of_eq hDe),hacc,.nil,Nat.zero_le _,w0⟩
  rintro k s' ⟨i,σ',H',ys,its,nn,I',st',hfn,hDn,hDo,rv,hz,w⟩
  have hlen:=rv.length
  have hpD:∀ p∈[(D,({ cls:=.type "list",data:=.seq its.toArray nn }:Obj))],p.1=D:=fun p hp=>by rw [List.mem_singleton.mp hp]
  have Ip:Inv X' [(D,({ cls:=.type "list",data:=.seq its.toArray nn }:Obj))] σ' H' s':=I'.pins_of fun p hp=>by
   rw [List.mem_singleton.mp hp]
   exact ⟨hDo,hDn,hDC,hDfs,fun v z=>by cases z⟩
  rcases turn i k ys σ' H' w with ⟨stop,fin⟩ | ⟨go,hlt,N,hN,step⟩
  ·refine wpAny_mono (T.done X' rfl rfl rfl hcm i _ s' σ' H' (fun _ _=>False) Ip (fpok hpD hfn) st' stop) (fun r s4 ⟨hr,I4⟩=>?_) fun _ _ z=>False.elim z
   subst hr
   refine hRR D C s4 ?_
   have hD4:s4.heap.get? D=some { cls:=.type "list",data:=.seq its.toArray nn }:=(I4.pin _ (List.mem_append_right _ (List.mem_singleton.mpr rfl))).1
   have un:Un (frs X.stack) fp H (upd H' D (.lst ys)) s.heap s4.heap:=Un.adopt I4.base (Nat.le_of_eq hDe) (I.hok.fresh (Nat.le_of_eq hDe))
   have hok:HOk X.prog X.w (upd H' D (.lst ys)) s4.heap:=HOk.adopt I4.hok hDn ⟨hz,its,nn,rv,hD4⟩
   refine ⟨upd H' D (.lst ys),I.call' I4.os un hok I4.bare fun b hb=>?_,fin D hDn,?_,?_,?_,fun x c e z=>?_,fun p hp z=>?_,?_⟩
   ·obtain ⟨f0,f1,f2,f3,f4,f5⟩:=hf b hb
    exact ⟨f3,f1,f4,f5⟩
   ·rw [upd_ne (Ne.symm hDC)]
    exact I4.free
   ·exact Nat.ne_of_gt (Nat.lt_of_lt_of_le I.lt (by rw [hDe];exact hCge))
   ·exact Nat.le_trans I.sz (by rw [hDe];exact hCge)
   ·obtain ⟨v,q⟩:=I.cell x c e
    exact absurd (Nat.lt_of_lt_of_le q.lt (by rw [hDe,z];exact hCge)) (Nat.lt_irrefl _)
   ·exact absurd (Nat.lt_of_lt_of_le (Heap.lt_size (I.pin p hp).1) (by rw [hDe,z];exact hCge)) (Nat.lt_irrefl _)
   ·obtain ⟨m',hn',_⟩:=I4.loc
    exact ⟨m',hn'⟩
  ·refine wpAny_mono (T.item X' rfl rfl rfl hcm i _ s' σ' H' (fun _ _=>False) Ip (fpok hpD hfn) st' go) (fun r s4 ⟨u,hr,h4⟩=>?_) fun _ _ z=>False.elim z
   subst hr
   refine wpAny_mono h4 (fun _ s5 ⟨x,H5,I5,r5,y5,st5,fr5⟩=>?_) fun _ _ z=>False.elim z
   have I5':=I5.pinned (fpok hpD fr5) (T.obj _ _ st5)
   refine wpAny_mono (hg C s H fp _ s5 σ' H5 x u _ I5' r5 (step x H5 y5)) (fun _ s6 ⟨σ6,H6,I6,q6⟩=>?_) fun _ _ z=>False.elim z
   refine wpAny_mono (he C s H fp _ s6 σ6 H6 _ I6 q6) (fun v s7 ⟨y,H7,I7,r7,n7⟩=>?_) fun _ _ z=>False.elim z
   obtain ⟨m',hm',w7⟩:=hN y σ6 H7 n7
   have hD7:=I7.pin (D,{ cls:=.type "list",data:=.seq its.toArray nn }) (List.mem_append_right _ (List.mem_append_left _ (List.mem_singleton.mpr rfl)))
   refine append_at hD7.1 (fun h8 sb hD8=>?_) (by rw [List.size_toArray,<- hlen];exact hz)
   have I7':Inv X' [] σ6 H7 s7:=I7.pins_of fun p hp=>absurd hp (by simp)
   have I8:Inv X' [] σ6 H7 { s7 with heap:=h8 }:=I7'.turned (t':=s7.toks) (it:=D) (fun b o hb e=>(sb.2 b hb).trans e) hD7.2.1 hDC (.inr (Nat.le_of_eq hDe)) hDcell (fun p hp=>absurd (show p∈([]:List (Addr×Obj)) from hp) (by simp))
   refine ⟨m',hm',i+1,σ6,H7,ys++[y],its++[v],nn+1,I8,T.keep _ _ _ st5 fun b hb o e=>?_,fun b hb=>?_,hD7.2.1,?_,rv.append (.cons r7 .nil),?_,w7⟩
   ·exact (sb.2 b (fun z=>hDfp b hb z.symm)).trans (I7.pin (b,o) (List.mem_append_right _ (List.mem_append_right _ (pG hb e)))).1
   ·obtain ⟨o,e,d⟩:=T.obj _ _ st5 b hb
    exact (I7.pin (b,o) (List.mem_append_right _ (List.mem_append_right _ (pG hb e)))).2.1
   ·rw [hD8,List.push_toArray]
   ·rw [List.length_append,List.length_singleton];exact hlt
 exact codeAny_compStart_list (loop _ rfl) (T.self _ 0 _ _ _ (T.keep _ _ _ st fun b _ o e=>old b o e) (loop _ rfl))
theorem fh (O:CompOk X fr js scope cl) (hcm:X.calm=true) (hi:PI X target iter wi) (hg:∀ C s₀ H₀ ex,PG (gN X (own++fr) scope cl C s₀ H₀ ex) target g) (he:∀ C s₀ H₀ ex,PE (gN X (own++fr) scope cl C s₀ H₀ ex) elt te)
 (hs:∀ x,foldedSetIterable iter X.env x=pure x:=by intro _;rfl):PE X (.ListComp elt [⟨target,iter,[],0⟩] scope pos) (BF own.length js wi g te):=by
 intro pins s σ H Q I h
 rw [eval_ListComp]
 refine wpAny_comprehension_free (use:=none) rfl hs O.clos O.kind O.names (thn (hi pins s σ H _ I h) fun x s1 h1=>thn h1 fun itv s2 h2=>?_)
 obtain ⟨it,fp,tn,J,H2,rfl,I2,T,st,hf,W,⟨m0,w0⟩,turn⟩:=h2
 refine JM (RR:=fun acc C=>compPost (model X.prog X.w) X.A X.xe none (EP X pins σ Q) acc C) O (Paired.length O.fre) hcm I2 T st hf hg he W w0 turn ?_
 rintro D C s' ⟨H3,I3,q,c1,c2,c3,c4,c5,m,hn⟩
 exact ⟨m,hn,fun h' sb=>⟨.ref D,H3,I3.turned (t':=s'.toks) (it:=C) (fun b o hb e=>(sb.2 b hb).trans e) c1 c2 (.inr c3) c4 c5,rfl,q⟩⟩
end
theorem i8 {n:Nat} {js:List Nat} {K:PySem.W.Frag} {a:Addr} {xs:List V} {g:TG} {te:TE} {σ0:St} {H:Hp} {Q:VK} (Pv:Nat->List V->St->Hp->Prop) (hz:xs.length<=sizeLine) (h0:Pv 0 [] (iG n js σ0) H) (hl:∀ i ys σ H,i<=xs.length->Pv i ys σ H->SqL K H a xs/\ys.length<=i)
 (hs:∀ i x ys σ H,xs[i]?=some x->Pv i ys σ H->g x σ H fun σ2 H2=>te σ2 H2 fun y H3=>Pv (i+1) (ys++[y]) σ2 H3) (hd:∀ ys σ H p,Pv xs.length ys σ H->H p=none->Q (.ref p) (upd H p (.lst ys))) :
 vK n js g te σ0 Q (Itl K a) H:=by
 refine ⟨fun i m ys σ H=>m=xs.length-i/\i<=xs.length/\Pv i ys σ H,⟨xs.length,by simp,Nat.zero_le _,h0⟩,?_⟩
 rintro i m ys σ H ⟨rfl,hi,p⟩
 obtain ⟨q,hy⟩:=hl i ys σ H hi p
 by_cases hlt:i<xs.length
 ·refine .inr ⟨⟨xs,xs[i],q,by simp [hlt]⟩,by omega,fun y σ'' H''=>Pv (i+1) (ys++[y]) σ'' H'',fun y σ' H' p'=>⟨xs.length-(i+1),by omega,rfl,hlt,p'⟩,fun x H' y=>?_⟩
  obtain ⟨e,y⟩:=y
  subst e
  exact hs i x ys σ _ (y xs q) p
 ·have e:i=xs.length:=by omega
  subst e
  exact .inl ⟨⟨xs,q,Nat.le_refl _⟩,fun r hr=>hd ys σ H r p hr⟩
theorem uY {k:Nat} {js:List Nat} {lo:Int} {n:Nat} {g:TG} {te:TE} {σ0:St} {H:Hp} {Q:VK} (Pv:Nat->List V->St->Hp->Prop) (hz:n<=sizeLine) (h0:Pv 0 [] (iG k js σ0) H) (hl:∀ i ys σ H,i<=n->Pv i ys σ H->ys.length<=i)
 (hs:∀ i ys σ H,i<n->Pv i ys σ H->g (.int (lo+i)) σ H fun σ2 H2=>te σ2 H2 fun y H3=>Pv (i+1) (ys++[y]) σ2 H3) (hd:∀ ys σ H p,Pv n ys σ H->H p=none->Q (.ref p) (upd H p (.lst ys))) :
 vK k js g te σ0 Q (Itr lo n) H:=by
 refine ⟨fun i m ys σ H=>m=n-i/\i<=n/\Pv i ys σ H,⟨n,by simp,Nat.zero_le _,h0⟩,?_⟩
 rintro i m ys σ H ⟨rfl,hi,p⟩
 have hy:=hl i ys σ H hi p
 by_cases hlt:i<n
 ·refine .inr ⟨hlt,by omega,fun y σ'' H''=>Pv (i+1) (ys++[y]) σ'' H'',fun y σ' H' p'=>⟨n-(i+1),by omega,rfl,hlt,p'⟩,fun x H' y=>?_⟩
  obtain ⟨e,y⟩:=y
  subst e y
  exact hs i ys σ _ hlt p
 ·have e:i=n:=by omega
  subst e
  exact .inl ⟨Nat.le_refl _,fun r hr=>hd ys σ H r p hr⟩
end L2
namespace L2
open PySem PySem.Spec PyProof.Rows
def Bits (k:Nat) (i:Int):Prop:=i.natAbs<2^k
theorem Bits.mono {j k:Nat} {i:Int} (h:Bits j i) (hk:j<=k:=by decide):Bits k i:=Nat.lt_of_lt_of_le h (Nat.pow_le_pow_right (by decide) hk)
theorem Bits.mul {j k:Nat} {a b:Int} (ha:Bits j a) (hb:Bits k b):Bits (j+k) (a*b):=by
 unfold Bits at *
 rw [Int.natAbs_mul,Nat.pow_add]
 exact Nat.mul_lt_mul_of_lt_of_lt ha hb
theorem Bits.add {k:Nat} {a b:Int} (ha:Bits k a) (hb:Bits k b):Bits (k+1) (a+b):=by
 unfold Bits at *
 have:=Int.natAbs_add_le a b
 rw [Nat.pow_succ];omega
theorem Bits.neg {k:Nat} {a:Int} (ha:Bits k a):Bits k (-a):=by unfold Bits at *;rwa [Int.natAbs_neg]
theorem Bits.sub {k:Nat} {a b:Int} (ha:Bits k a) (hb:Bits k b):Bits (k+1) (a-b):=by rw [Int.sub_eq_add_neg];exact ha.add hb.neg
theorem Bits.of_le {k:Nat} {a b:Int} (hb:Bits k b) (h:a.natAbs<=b.natAbs):Bits k a:=Nat.lt_of_le_of_lt h hb
theorem Bits.zero {k:Nat}:Bits k 0:=Nat.pow_pos (by decide)
theorem Bits.log {k:Nat} {i:Int} (h:Bits k i) (hk:0<k):i.natAbs.log2<k:=by
 by_cases h0:i.natAbs=0
 ·rw [h0];simpa using hk
 ·exact (Nat.log2_lt h0).mpr h
theorem Bits.int {k:Nat} {i:Int} (h:Bits k i) (hk:k<=1000000):Builtin.Int.intBits i<=2^20:=by
 have e:(2:Nat)^20=1048576:=by decide
 unfold Builtin.Int.intBits
 split
 ·exact Nat.zero_le _
 ·rename_i hn
  have h0:i.natAbs≠0:=by
   intro z
   have:i=0:=Int.natAbs_eq_zero.mp z
   exact hn (by simp [this])
  have:=(Nat.log2_lt h0).mpr h
  omega
section
variable {X:Cx} {a b:Expr} {ta tb:TE} {pos:Pos}
def Mj (i j:Int):Prop:=Bits 1000000 i/\Bits 1000000 j
theorem aN:OpR X (binaryOp .Mult) (rI Mj fun i j=>.int (i*j)):=opI fun _ _ _ _ _ _ _ hc q=>mul_int q (.of_bits (hc.1.int (Nat.le_refl _)) (hc.2.int (Nat.le_refl _)))
theorem cV:OpR X (binaryOp .Mod) (rI (fun _ j=>0<j) fun i j=>.int (i%j)):=DS
def Ml (_ j:Int):Prop:=0<j/\Bits 9000 j
theorem db:OpR X (binaryOp .FloorDiv) (rI Ml fun i j=>.int (i/j)):=opI fun i j _ _ _ _ _ hc q=>by
 refine floordiv_int (Int.ne_of_gt hc.1) ?_ (.inl (PyProof.noPylong_of_log2 (hc.2.log (by decide))))
 rw [Int.fdiv_eq_ediv_of_nonneg _ (Int.le_of_lt hc.1)]
 exact q
def Mm (_ j:Int):Prop:=j≠0/\Bits 9000 j
theorem ye:OpR X (binaryOp .FloorDiv) (rI Mm fun i j=>.int (i.fdiv j)):=opI fun _ _ _ _ _ _ _ hc q=>floordiv_int hc.1 q (.inl (PyProof.noPylong_of_log2 (hc.2.log (by decide))))
theorem cX:OpR X (compareOp .Eq) (rI0 fun i j=>.bl (decide (i=j))):=lu fun _ _ _ _ _ _ _ q=>eq_int (by rw [Bool.beq_eq_decide_eq];exact q)
theorem ll:OpR X (compareOp .NotEq) (rI0 fun i j=>.bl (!decide (i=j))):=lu fun _ _ _ _ _ _ _ q=>ne_int (by rw [bne,Bool.beq_eq_decide_eq];exact q)
def xR (K:PySem.W.Frag):R2:=fun x y H Q=>∃ (a b:Addr) (ns ms:List Int),x=.ref a/\y=.ref b/\SqL K H a (ns.map V.int)/\SqL K H b (ms.map V.int)/\Q (.bl (decide (ns=ms))) H
def xN (K:PySem.W.Frag):R2:=fun x y H Q=>∃ (a b:Addr) (ns ms:List Int),x=.ref a/\y=.ref b/\SqL K H a (ns.map V.int)/\SqL K H b (ms.map V.int)/\Q (.bl (!decide (ns=ms))) H
theorem DU (hu:X.A.units+64<cLine):OpR X (compareOp .Eq) (xR X.K):=by
 intro pins s σ H x y v u Q I rx ry h
 obtain ⟨a,b,ns,ms,rfl,rfl,ha,hb,q⟩:=h
 cases rx;cases ry
 obtain ⟨i1,r1,p1,_⟩:=I.list ha
 obtain ⟨i2,r2,p2,_⟩:=I.list hb
 exact PySem.W.eq_intsK p1.isList (pX r1) p2.isList (pX r2) hu ⟨.bl _,H,I,rfl,q⟩
theorem DR (hu:X.A.units+64<cLine):OpR X (compareOp .NotEq) (xN X.K):=by
 intro pins s σ H x y v u Q I rx ry h
 obtain ⟨a,b,ns,ms,rfl,rfl,ha,hb,q⟩:=h
 cases rx;cases ry
 obtain ⟨i1,r1,p1,_⟩:=I.list ha
 obtain ⟨i2,r2,p2,_⟩:=I.list hb
 exact PySem.W.ne_intsK p1.isList (pX r1) p2.isList (pX r2) hu ⟨.bl _,H,I,rfl,q⟩
def kY (K:PySem.W.Frag):List V->Hp->VK->Prop:=fun xs H Q=>∃ (x:V) (t c:Value) (n:V) (k:Bool),xs=[x,n]/\RelV n c/\(∀ u,RelV n u->u=c)/\TyOf K H x t/\PySem.W.kitOne K t c=some k/\Q (.bl k) H
theorem JY:CallR X (.builtin "isinstance") (kY X.K):=by
 intro pins s σ H xs us Q I r h
 obtain ⟨x,t,c,n,k,rfl,rn,hn,ty,e,q⟩:=h
 obtain ⟨u1,u2,rfl,r1,r2⟩:=r.two
 obtain rfl:=hn u2 r2
 exact Hg I r1 ty e fun tk=>⟨.bl k,H,I.tok tk,rfl,q⟩
theorem tO {K:PySem.W.Frag} {H:Hp} {Q:VK} {x:V} {n:String} {t:Value} {k:Bool} (ty:TyOf K H x t) (e:PySem.W.kitOne K t (.type n)=some k) (q:Q (.bl k) H):kY K [x,.ty n] H Q :=
 ⟨x,t,.type n,.ty n,k,rfl,rfl,fun _ h=>h,ty,e,q⟩
theorem ze {K:PySem.W.Frag} {H:Hp} {Q:VK} {x:V} {C:Addr} {t:Value} {k:Bool} (ty:TyOf K H x t) (e:PySem.W.kitOne K t (.ref C)=some k) (q:Q (.bl k) H):kY K [x,.ref C] H Q :=
 ⟨x,t,.ref C,.ref C,k,rfl,rfl,fun _ h=>h,ty,e,q⟩
end
section
variable {D:Ends} {σ:St} {H:Hp} {Q:VK} {t u:TS} {te ta tb:TE} {c:TT} {i:Nat} {v:V} {r:R2}
theorem C4 (P:St->Hp->Prop) (h1:∀ σ' H',P σ' H'->u D σ' H') (h2:(∀ σ' H',P σ' H'->u D σ' H')->t { D with nx:=u D } σ H):dk t u D σ H:=h2 h1
theorem gA (P:St->Hp->Prop) (h:P σ H) (h1:∀ σ' H',P σ' H'->u D σ' H'):u D σ H:=h1 σ H h
theorem aD (h:te σ H fun x H1=>u D (σ.set i (some x)) H1):dk (gW te (iJ i)) u D σ H:=h
theorem hI (h:te σ H fun _ H1=>u D σ H1):dk (oB te) u D σ H:=h
theorem bK {t1:TS} (h:c σ H fun b H1=>if b=true then t1 { D with nx:=u D } σ H1 else u D σ H1):dk (mw c t1 wz) u D σ H:=h
theorem mL {K:PySem.W.Frag} {n:V} (h:ta σ H fun x H1=>kY K [x,n] H1 Q):tCB (kY K) (qI ta (qI (tC n) qH)) σ H Q:=h
theorem fb {t1 t2:TS} (P:St->Hp->Prop) (h1:∀ σ' H',P σ' H'->u D σ' H') (h2:(∀ σ' H',P σ' H'->u D σ' H')->c σ H fun b H1=>if b=true then t1 { D with nx:=u D } σ H1 else t2 { D with nx:=u D } σ H1):dk (mw c t1 t2) u D σ H:=h2 h1
theorem da (h:te σ H fun x H1=>D.nx (σ.set i (some x)) H1):gW te (iJ i) D σ H:=h
theorem bh (h:te σ H D.rt):wu te D σ H:=h
theorem xJ (h:te σ H fun _ H1=>D.nx σ H1):oB te D σ H:=h
theorem mM (h:c σ H fun b H1=>if b=true then t D σ H1 else u D σ H1):mw c t u D σ H:=h
theorem sj {K:Bool->Hp->Prop} (h:te σ H fun x H'=>∃ k,x=.bl k/\K k H'):tB te σ H K:=h
theorem fL {K:Bool->Hp->Prop} {tt:TT} (h:tt σ H fun k H1=>K (!k) H1):wy tt σ H K:=h
theorem dX {K:Bool->Hp->Prop} {t1 t2:TT} (h:t1 σ H fun k H1=>if k=true then t2 σ H1 K else K false H1):wD t1 t2 σ H K:=h
theorem hJ {K:Bool->Hp->Prop} {t1 t2:TT} (h:t1 σ H fun k H1=>if k=true then K true H1 else t2 σ H1 K):tOr t1 t2 σ H K:=h
theorem xK (h:ta σ H fun x H1=>∃ k,x=.bl k/\if k=true then tb σ H1 Q else Q (.bl false) H1):wC ta tb σ H Q:=h
theorem si (h:ta σ H fun x H1=>∃ k,x=.bl k/\if k=true then Q (.bl true) H1 else tb σ H1 Q):wv ta tb σ H Q:=h
theorem CZ (h:ta σ H fun x H1=>∃ k,x=.bl k/\Q (.bl (!k)) H1):wx ta σ H Q:=h
theorem C0 {tt:TT} (h:tt σ H fun k H1=>if k=true then ta σ H1 Q else tb σ H1 Q):tIf tt ta tb σ H Q:=h
theorem o4 {A B:Prop} (h:A):if true=true then A else B:=by rw [if_pos rfl];exact h
theorem cQ {A B:Prop} (h:B):if false=true then A else B:=by rw [if_neg Bool.false_ne_true];exact h
theorem aQ {p A B:Prop} [Decidable p] (h1:p->A) (h2:¬ p->B):if decide p=true then A else B:=by
 by_cases hp:p
 ·rw [if_pos (decide_eq_true hp)];exact h1 hp
 ·rw [if_neg (by rw [decide_eq_false hp];exact Bool.false_ne_true)];exact h2 hp
theorem cZ {p A B:Prop} [Decidable p] (h1:¬ p->A) (h2:p->B):if (!decide p)=true then A else B:=by
 by_cases hp:p
 ·rw [if_neg (by rw [decide_eq_true hp];exact Bool.false_ne_true)];exact h2 hp
 ·rw [if_pos (by rw [decide_eq_false hp];rfl)];exact h1 hp
end
structure Cal (P:Program) (w:World) (K:PySem.W.Frag) (mg:Str->Option Value) (base:Heap) (k:Nat) (x:Str) (ps:List Str) (sp:Sp) (f:Addr) (fd:FuncData):Prop where
 ok:FnOk P w K mg base CX0 k f fd ps sp
 mg:mg x=some (.ref f)
 kp:PySem.W.keepIn K (.ref f)=true
 bd:Binds K fd ps []
theorem Same.upd_new {H:Hp} {p:Addr} {o:HO} (h:H p=none):Same H (upd H p o):=fun b u e=>by rw [upd_ne (aZ e h)];exact e
theorem Same.then_new {H H1:Hp} {p:Addr} {o:HO} (s:Same H H1) (h:H1 p=none):Same H (upd H1 p o):=s.trans (Same.upd_new h)
theorem Same.ne {H H1:Hp} {a p:Addr} {o:HO} (s:Same H H1) (e:H a=some o) (h:H1 p=none):a≠p:=aZ (s a o e) h
end L2
namespace L2
open PySem PySem.Spec PyProof.Rows
section
variable {X:Cx} {K:PySem.W.Frag}
theorem cw (h:X.K=K):IxR X (xQ K):=by subst h;exact Hf
theorem aX (h:X.K=K):IxR X (xP K):=by subst h;exact He
theorem oV (h:X.K=K):SlR X (sr K):=by subst h;exact BW
def Dp (K:PySem.W.Frag):List V->Hp->VK->Prop:=fun xs H Q=>∃ p ys,xs=[.ref p]/\(SqL K H p ys\/SqT K H p ys)/\Q (.int ys.length) H
theorem df (h:X.K=K):CallR X (.builtin "len") (Dp K):=by subst h;exact JX
def Do (K:PySem.W.Frag):List V->Hp->VK->Prop:=fun xs H Q=>∃ p ys,xs=[.ref p]/\(SqL K H p ys\/SqT K H p ys)/\∀ l,H l=none->Q (.ref l) (upd H l (.lst ys))
theorem qr (h:X.K=K):CallR X (.type "list") (Do K):=by subst h;exact JW
theorem ln (h:X.K=K) (hu:X.A.units+64<cLine):OpR X (compareOp .Eq) (xR K):=by subst h;exact DU hu
theorem ik (h:X.K=K) (hu:X.A.units+64<cLine):OpR X (compareOp .NotEq) (xN K):=by subst h;exact DR hu
theorem nX (h:X.K=K):CallR X (.builtin "isinstance") (kY K):=by subst h;exact JY
theorem dY {tg l:Expr} {tl:TE} (h:X.K=K) (hl:PE X l tl):PI X tg l (zk K tl):=by subst h;exact DI hl
theorem DF {tg l:Expr} {tl:TE} (h:X.K=K) (hl:PE X l tl):PI X tg l (zj K tl):=by subst h;exact DG hl
theorem aO {e:Expr} {ta:TE} {f:Str} {pos:Pos} (h:X.K=K) (he:PE X e ta) (hb:attributeBase e f X.env (eval e X.env)=eval e X.env):PE X (.Attribute e f pos) (wB K ta f):=by subst h;exact DO he hb
end
end L2
namespace L2
open PySem PySem.Spec PyProof.Rows
def Ite (K:PySem.W.Frag) (a:Addr):It :=
 ⟨fun i H=>∃ xs x,SqL K H a xs/\xs[i]?=some x,fun i H x H'=>∃ v p,x=.ref p/\H p=none/\H'=upd H p (.tup [.int i,v])/\∀ xs,SqL K H a xs->xs[i]?=some v,fun i H=>∃ xs,SqL K H a xs/\xs.length<=i⟩
theorem Bi {P:Program} {w:World} {K:PySem.W.Frag} {es:List Expr} {x1:Nat} {tp:Pos} (a e it:Addr) (hne:e≠it):Turn P w K (.Tuple es x1 tp) (Ite K a) [e,it] e (fun i h=>(∃ old,IsEnum h e it (i:Int) old)/\h.IsListIter it a i) where
 mem:=by simp
 obj:=fun i h st b hb=>by
  obtain ⟨⟨old,he⟩,hi⟩:=st
  rcases List.mem_cons.mp hb with rfl | hb
  ·exact ⟨_,he,fun v z=>by cases z⟩
  ·have q:b=it:=by simpa using hb
   subst q
   obtain ⟨o,e,c,d⟩:=hi
   exact ⟨o,e,fun v z=>by rw [d] at z;cases z⟩
 keep:=fun i h h' st k=>by
  obtain ⟨⟨old,he⟩,hi⟩:=st
  exact ⟨⟨old,k e (by simp) _ he⟩,hi.at fun o q=>k it (by simp) o q⟩
 item:=by
  intro X hP hw hK hc i pins s σ H E I hf st hg
  subst hP hw hK
  obtain ⟨⟨old,he⟩,hi⟩:=st
  obtain ⟨xs,x,hq,hx⟩:=hg
  obtain ⟨its,rv,p,hz⟩:=I.list hq
  obtain ⟨u,hu,ru⟩:=rv.get hx
  refine wpAny_pyNext_enum_item he hi p.isList (x:=u) (by simpa using hu) hne fun h' out hit' htup hsz kk=>?_
  have hfp:H s.heap.objs.size=none:=I.hok.fresh (Nat.le_refl _)
  have nfp:∀ b o,H b=some o->b≠e/\b≠it:=fun b o q=>⟨fun z=>(by rw [z,(hf e (by simp)).1] at q;cases q),fun z=>(by rw [z,(hf it (by simp)).1] at q;cases q)⟩
  have I1:Inv X pins σ (upd H s.heap.objs.size (.tup [.int i,x])) { s with heap:=h',toks:=s.toks+1 }:=by
   refine I.step (g':=s.gens) (d':=s.drawn) (ch:=[e,it]) (fun b hb=>?_) (fun b o _ _ hc q _=>kk b o (fun z=>hc (by simp [z])) (fun z=>hc (by simp [z])) q)
    (fun b o _ _ hc q _=>⟨o.slots,kk b o (fun z=>hc (by simp [z])) (fun z=>hc (by simp [z])) q⟩) (fun b o _ q n=>by rw [upd_ne (Nat.ne_of_lt (Heap.lt_size q))];exact n)
    (fun b o hc q=>⟨o,kk b o (fun z=>hc (by simp [z])) (fun z=>hc (by simp [z])) q⟩) (fun b ys q=>by rw [upd_ne (aZ q hfp)];exact q) (fun b o ys q=>by rw [upd_ne (aZ q hfp)];exact q)
    (fun b ps q=>⟨#[],by rw [upd_ne (aZ q hfp),q];simp⟩) (fun m hm=>?_) (fun b o q=>?_) I.bare
   ·obtain ⟨f0,f1,f2,f3,f4,f5⟩:=hf b hb
    exact ⟨f3,f1,f4,f5⟩
   ·obtain ⟨o,es',ep',ho,r⟩:=hm
    exact ⟨o,es',ep',kk _ o (Ne.symm (hf e (by simp)).2.1) (Ne.symm (hf it (by simp)).2.1) ho,r⟩
   ·by_cases hb:b=s.heap.objs.size
    ·subst hb
     rw [av] at q
     cases q
     exact ⟨by show 2<=sizeLine;decide,[.int i s.toks,u],.cons ⟨_,rfl⟩ (.cons ru .nil),⟨_,htup,rfl,_,rfl⟩⟩
    ·rw [upd_ne hb] at q
     refine (I.hok b o q).stay (fun c v hc z=>?_) (fun c z=>by rw [upd_ne (aZ z hfp)];exact z) fun c ys z=>by rw [upd_ne (aZ z hfp)];exact z
     rcases hc with rfl | hc
     ·exact kk c v (nfp c o q).1 (nfp c o q).2 z
     ·exact kk c v (nfp c _ hc).1 (nfp c _ hc).2 z
  refine ⟨_,rfl,wpAny_letOwnedTupleGo_enum out fun h'' he'' sb=>?_⟩
  obtain ⟨f0,f1,f2,f3,f4,f5⟩:=hf e (by simp)
  have hen:upd H s.heap.objs.size (.tup [.int i,x]) e=none:=by
   rw [upd_ne (Nat.ne_of_lt (Heap.lt_size he))];exact f0
  have I2:=I1.turned (h':=h'') (t':=s.toks+1) (it:=e) (fun b o hb q=>(sb.2 b hb).trans q) hen f1 f3 f4 f5
  refine ⟨.ref s.heap.objs.size,_,I2,rfl,⟨x,_,rfl,hfp,rfl,fun ys hy=>by rw [I.list_inj hy hq];exact hx⟩,⟨⟨u,?_⟩,hit'.at fun o q=>(sb.2 it (Ne.symm hne)).trans q⟩,fun b hb=>?_⟩
  ·have:((i+1:Nat):Int)=(i:Int)+1:=by omega
   rw [this];exact he''
  ·have hlt:b<s.heap.objs.size:=by
    rcases List.mem_cons.mp hb with rfl | hb
    ·exact Heap.lt_size he
    ·have q:b=it:=by simpa using hb
     subst q
     obtain ⟨o,e1,_⟩:=hi
     exact Heap.lt_size e1
   rw [upd_ne (Nat.ne_of_lt hlt)]
   exact (hf b hb).1
 done:=by
  intro X hP hw hK hc i pins s σ H E I hf st hg
  subst hP hw hK
  obtain ⟨⟨old,he⟩,hi⟩:=st
  obtain ⟨xs,hq,hx⟩:=hg
  obtain ⟨its,rv,p,hz⟩:=I.list hq
  obtain ⟨f0,f1,f2,f3,f4,f5⟩:=hf it (by simp)
  have hl:=rv.length
  exact wpAny_pyNext_enum_end (I.ok.hd hc) he hi p.isList (by simp;omega) fun h' eb=>⟨rfl,I.turned (t':=s.toks) (fun b o hb e=>eb b o hb e) f0 f1 f3 f4 f5⟩
 self:=fun _ _ _ _ _ st h=>by
  obtain ⟨⟨old,he⟩,hi⟩:=st
  exact wpAny_pyIter_enum he h
section
variable {X:Cx}
def Ho (K:PySem.W.Frag) (ta:TA):TI:=fun σ H R=>ta σ H fun vs H1=>∃ a,vs=[.ref a]/\(∃ xs,SqL K H1 a xs)/\R (Ite K a) H1
theorem sD {es:List Expr} {x1:Nat} {tp:Pos} {a:Expr} {ta:TA} {p pos:Pos} (hg:Gl X "enumerate") (hm:X.mg "enumerate"=none) (ha:PA X [a] ta) (hs:starEach [a] X.env=[(false,eval a X.env)]:=by rfl):PI X (.Tuple es x1 tp) (.Call (.Name "enumerate" p) [a] [] pos) (Ho X.K ta):=by
 intro pins s σ H R I h
 refine Call_ (fX I hg hm boot_enumerate (PyProof.Rows.callWith_type1 (thn (ha pos pins s σ H _ I h) fun us s1 ⟨vs,H1,I1,r1,q1⟩=>?_) hs rfl))
 obtain ⟨a',e,⟨xs,hq⟩,q⟩:=q1
 subst e
 obtain ⟨u,rfl,ru⟩:=r1.one
 cases ru
 obtain ⟨its,rv,pl,hz⟩:=I1.list hq
 refine call_enumerate_list pl.isList fun h' he hit hsz hk=>?_
 have I2:Inv X pins σ H1 { s1 with heap:=h' }:=I1.kept (t':=s1.toks) hk
 refine wpAny_pyIter_enum he ?_
 refine ⟨s1.heap.objs.size+1,[s1.heap.objs.size+1,s1.heap.objs.size],_,_,H1,rfl,I2,Bi a' _ _ (Nat.succ_ne_self _),⟨⟨_,he⟩,hit⟩,fun b hb=>?_,q⟩
 have hb':s1.heap.objs.size<=b:=by
  rcases List.mem_cons.mp hb with rfl | hb
  ·exact Nat.le_succ _
  ·have q:b=s1.heap.objs.size:=by simpa using hb
   subst q;exact Nat.le_refl _
 exact I1.fpOk hb' (I1.hok.fresh hb')
end
theorem tZ {K:PySem.W.Frag} {a:Addr} {xs:List V} {g:TG} {tb:TS} {D:Ends} {σ:St} {H:Hp} (Pv:Nat->St->Hp->Prop) (h0:Pv 0 σ H) (hl:∀ i σ H,i<=xs.length->Pv i σ H->SqL K H a xs)
 (hs:∀ i x σ H p,xs[i]?=some x->Pv i σ H->H p=none->g (.ref p) σ (upd H p (.tup [.int i,x])) fun σ2 H2=>tb { D with nx:=Pv (i+1),ct:=Pv (i+1),bk:=D.nx } σ2 H2) (hd:∀ σ H,Pv xs.length σ H->D.nx σ H) :
 ∃ W:Nat->Nat->St->Hp->Prop,(∃ m,W 0 m σ H)/\∀ i m σ H,W i m σ H ->
   ((Ite K a).stop i H/\D.nx σ H)\/((Ite K a).go i H/\∃ N:St->Hp->Prop,(∀ σ' H',N σ' H'->∃ m',m'<m/\W (i+1) m' σ' H')/\∀ x H',(Ite K a).yld i H x H'->g x σ H' fun σ2 H2=>tb { D with nx:=N,ct:=N,bk:=D.nx } σ2 H2):=by
 refine ⟨fun i m σ H=>m=xs.length-i/\i<=xs.length/\Pv i σ H,⟨xs.length,by simp,Nat.zero_le _,h0⟩,?_⟩
 rintro i m σ H ⟨rfl,hi,p⟩
 have q:=hl i σ H hi p
 by_cases hlt:i<xs.length
 ·refine .inr ⟨⟨xs,xs[i],q,by simp [hlt]⟩,Pv (i+1),fun σ' H' p'=>⟨xs.length-(i+1),by omega,rfl,hlt,p'⟩,fun x H' y=>?_⟩
  obtain ⟨v,r,rfl,hr,rfl,y⟩:=y
  exact hs i v σ _ r (y xs q) p hr
 ·have e:i=xs.length:=by omega
  subst e
  exact .inl ⟨⟨xs,q,Nat.le_refl _⟩,hd σ H p⟩
def Itv (K:PySem.W.Frag) (a:Addr) (xs:List V):It :=
 ⟨fun i H=>SqL K H a xs/\i<xs.length,fun i H x H'=>H'=H/\xs[xs.length-1-i]?=some x,fun i H=>xs.length<=i⟩
theorem Be {P:Program} {w:World} {K:PySem.W.Frag} {tg:Expr} (a it:Addr) (xs:List V):Turn P w K tg (Itv K a xs) [it] it (fun i h=>i<=xs.length/\h.IsRevIter it a ((xs.length:Int)-1-i)) where
 mem:=by simp
 obj:=fun i h st b hb=>by
  have e:b=it:=by simpa using hb
  subst e
  obtain ⟨_,o,e,c,d⟩:=st
  exact ⟨o,e,fun v z=>by rw [d] at z;cases z⟩
 keep:=fun i h h' st k=>⟨st.1,st.2.at fun o e=>k it (by simp) o e⟩
 item:=by
  intro X hP hw hK hc i pins s σ H E I hf st hg
  subst hP hw hK
  obtain ⟨hq,hlt⟩:=hg
  obtain ⟨its,rv,p,hz⟩:=I.list hq
  have hl:=rv.length
  obtain ⟨x,hx⟩:∃ x,xs[xs.length-1-i]?=some x:=⟨_,List.getElem?_eq_getElem (by omega)⟩
  obtain ⟨u,hu,ru⟩:=rv.get hx
  obtain ⟨f0,f1,f2,f3,f4,f5⟩:=hf it (by simp)
  have e1:(xs.length:Int)-1-i=((xs.length-1-i:Nat):Int):=by omega
  have hit:=st.2
  rw [e1] at hit
  refine wpAny_pyNext_rev_item hit p.isList (x:=u) (by simpa using hu) fun h' st' sb=>?_
  have I1:Inv X pins σ H { s with heap:=h' }:=I.turned (t':=s.toks) (fun b o hb e=>(sb.2 b hb).trans e) f0 f1 f3 f4 f5
  obtain ⟨o,e,c,d⟩:=id st'
  refine ⟨u,rfl,ny (s:={ s with heap:=h' }) e c d (by decide) ⟨x,H,I1,ru,⟨rfl,hx⟩,⟨hlt,?_⟩,fun b hb=>(hf b hb).1⟩⟩
  have e2:(xs.length:Int)-1-((i+1:Nat):Int)=((xs.length-1-i:Nat):Int)-1:=by omega
  rw [e2];exact st'
 done:=by
  intro X hP hw hK hc i pins s σ H E I hf st hg
  subst hP hw hK
  obtain ⟨f0,f1,f2,f3,f4,f5⟩:=hf it (by simp)
  have hle:xs.length<=i:=hg
  have e1:(xs.length:Int)-1-i = -1:=by have:=st.1;omega
  have hit:=st.2
  rw [e1] at hit
  exact wpAny_pyNext_rev_end (I.ok.hd hc) hit fun h' eb=>⟨rfl,I.turned (t':=s.toks) (fun b o hb e=>eb b o hb e) f0 f1 f3 f4 f5⟩
 self:=fun _ _ _ _ _ st h=>wpAny_pyIter_revIter st.2 h
section
variable {X:Cx} {tg:Expr}
def Hn (K:PySem.W.Frag) (ta:TA):TI:=fun σ H R=>ta σ H fun vs H1=>∃ a xs,vs=[.ref a]/\SqL K H1 a xs/\R (Itv K a xs) H1
theorem sC {a:Expr} {ta:TA} {p pos:Pos} (hg:Gl X "reversed") (hm:X.mg "reversed"=none) (ha:PA X [a] ta) (hs:starEach [a] X.env=[(false,eval a X.env)]:=by rfl):PI X tg (.Call (.Name "reversed" p) [a] [] pos) (Hn X.K ta):=by
 intro pins s σ H R I h
 refine Call_ (fX I hg hm boot_reversed (PyProof.Rows.callWith_type1 (thn (ha pos pins s σ H _ I h) fun us s1 ⟨vs,H1,I1,r1,q1⟩=>?_) hs rfl))
 obtain ⟨a',xs,e,hq,q⟩:=q1
 subst e
 obtain ⟨u,rfl,ru⟩:=r1.one
 cases ru
 obtain ⟨its,rv,pl,hz⟩:=I1.list hq
 have hl:=rv.length
 refine call_reversed_list pl.isList ?_
 have hit:(s1.heap.push (revObj a' ((its.toArray.size:Int)-1))).IsRevIter s1.heap.objs.size a' ((xs.length:Int)-1-((0:Nat):Int)):=by
  have e1:(xs.length:Int)-1-((0:Nat):Int)=(its.toArray.size:Int)-1:=by rw [List.size_toArray];omega
  rw [e1]
  exact ⟨_,Heap.get?_push_size _ rfl,rfl,rfl⟩
 have I2:Inv X pins σ H1 { s1 with heap:=s1.heap.push (revObj a' ((its.toArray.size:Int)-1)) }:=I1.kept (t':=s1.toks) fun b o e=>Heap.get?_push_of_some _ e
 refine wpAny_pyIter_revIter (s:={ s1 with heap:=s1.heap.push (revObj a' ((its.toArray.size:Int)-1)) }) hit ?_
 refine ⟨s1.heap.objs.size,[s1.heap.objs.size],_,_,H1,rfl,I2,Be a' _ xs,⟨Nat.zero_le _,hit⟩,fun b hb=>?_,q⟩
 have e:b=s1.heap.objs.size:=by simpa using hb
 subst e
 exact I1.fpOk (Nat.le_refl _) (I1.hok.fresh (Nat.le_refl _))
end
theorem tY {K:PySem.W.Frag} {a:Addr} {xs:List V} {g:TG} {tb:TS} {D:Ends} {σ:St} {H:Hp} (Pv:Nat->St->Hp->Prop) (h0:Pv 0 σ H) (hl:∀ i σ H,i<=xs.length->Pv i σ H->SqL K H a xs)
 (hs:∀ i x σ H,i<xs.length->xs[xs.length-1-i]?=some x->Pv i σ H->g x σ H fun σ2 H2=>tb { D with nx:=Pv (i+1),ct:=Pv (i+1),bk:=D.nx } σ2 H2) (hd:∀ σ H,Pv xs.length σ H->D.nx σ H) :
 ∃ W:Nat->Nat->St->Hp->Prop,(∃ m,W 0 m σ H)/\∀ i m σ H,W i m σ H ->
   ((Itv K a xs).stop i H/\D.nx σ H)\/((Itv K a xs).go i H/\∃ N:St->Hp->Prop,(∀ σ' H',N σ' H'->∃ m',m'<m/\W (i+1) m' σ' H')/\∀ x H',(Itv K a xs).yld i H x H'->g x σ H' fun σ2 H2=>tb { D with nx:=N,ct:=N,bk:=D.nx } σ2 H2):=by
 refine ⟨fun i m σ H=>m=xs.length-i/\i<=xs.length/\Pv i σ H,⟨xs.length,by simp,Nat.zero_le _,h0⟩,?_⟩
 rintro i m σ H ⟨rfl,hi,p⟩
 by_cases hlt:i<xs.length
 ·refine .inr ⟨⟨hl i σ H hi p,hlt⟩,Pv (i+1),fun σ' H' p'=>⟨xs.length-(i+1),by omega,rfl,hlt,p'⟩,fun x H' y=>?_⟩
  obtain ⟨e,y⟩:=y
  subst e
  exact hs i x σ _ hlt y p
 ·have e:i=xs.length:=by omega
  subst e
  exact .inl ⟨Nat.le_refl _,hd σ H p⟩
end L2
namespace L2
open PySem PySem.Spec PyProof.Rows
structure FunD (K:PySem.W.Frag) (x qual:Str) (st:Stmt) (dV:Value) (f:Addr) (fd:FuncData):Prop where
 ex:∃ (oc:Value) (od:Option Addr) (kV doc pm:Value) (an:Option Addr) (cdv ct:Value) (osl:Array (Option Value)),
  fd=PySem.W.fnOf x qual (aG st) (aE st) (ak st) dV kV doc pm an cdv ct/\K.lookup f=some ⟨oc,od,.func fd,osl⟩/\PySem.W.codeIn K cdv qual=true
 kp:PySem.W.keepIn K (.ref f)=true
section
variable {P:Program} {w:World} {K:PySem.W.Frag} {mg:Str->Option Value} {base:Heap}
theorem FunD.ok {x qual:Str} {st:Stmt} {dV:Value} {f:Addr} {fd:FuncData} {N ps:List Str} {k:Nat} {sp:Sp} (F:FunD K x qual st dV f fd) (S:FnScope N ps (ak st)) (len:∀ vs H Q E,sp vs H Q E->vs.length=ps.length)
 (hbody:∀ (cdv:Value) (A:Around) (outer:List Env) (s:Shared) (H:Hp) (vs:List V) (Q:VK) (E:XK),Room k (A.deeper (envOfC qual (ak st) s.heap.objs.size f cdv))->sp vs H Q E ->
   ∃ t,PSs (i6 CX0 P w K mg base N qual (ak st) f cdv A outer s H E).nox (aE st) t/\t { nx:=fun _ H'=>Q .non H',rt:=Q } (start N vs) H):FnOk P w K mg base CX0 (k+1) f fd ps sp:=by
 obtain ⟨oc,od,kV,doc,pm,an,cdv,ct,osl,rfl,lk,hcd⟩:=F.ex
 refine zB lk hcd S len fun A outer s H vs Q E hr hsp=>?_
 obtain ⟨t,h,q⟩:=hbody cdv A outer s H vs Q E hr hsp
 exact ⟨t,h.nox,q⟩
theorem FunD.binds {x qual:Str} {st:Stmt} {dV:Value} {f:Addr} {fd:FuncData} {ps:List Str} (F:FunD K x qual st dV f fd)
 (h:∀ (kV doc pm:Value) (an:Option Addr) (cdv ct:Value) (us:List Value),us.length=ps.length->bindArgs (PySem.W.fnOf x qual (aG st) (aE st) (ak st) dV kV doc pm an cdv ct) ⟨us,[]⟩=pure (ps.zip us)):Binds K fd ps []:=by
 obtain ⟨oc,od,kV,doc,pm,an,cdv,ct,osl,rfl,lk,hcd⟩:=F.ex
 exact .all (h kV doc pm an cdv ct)
theorem FunD.bindsD {x qual:Str} {st:Stmt} {T:Addr} {f:Addr} {fd:FuncData} {ps:List Str} {ds tup:List Value} {o:Obj} {n:Nat} (m:Nat) (F:FunD K x qual st (.ref T) f fd) (lo:K.lookup T=some o) (hs:o.data=.seq tup.toArray n) (hm:m+ds.length=ps.length)
 (h:∀ (kV doc pm:Value) (an:Option Addr) (cdv ct:Value) (us:List Value),us.length=m->∃ k:Option (Array Value)->Sem (List (Str×Value)),
   bindArgs (PySem.W.fnOf x qual (aG st) (aE st) (ak st) (.ref T) kV doc pm an cdv ct) ⟨us,[]⟩=seqItems? (.ref T) >>= k/\k (some tup.toArray)=pure (ps.zip (us++ds))):Binds K fd ps ds:=by
 obtain ⟨oc,od,kV,doc,pm,an,cdv,ct,osl,rfl,lk,hcd⟩:=F.ex
 intro s us KX hl
 rw [List.length_append] at hl
 obtain ⟨k,h1,h2⟩:=h kV doc pm an cdv ct us (by omega)
 exact PySem.W.binds_K (k:=k) KX rfl lo hs h1 h2
theorem zx {x qual:Str} {st:Stmt} {f:Addr} {oc:Value} {od an:Option Addr} {osl:Array (Option Value)} {dV kV doc pm cdv ct:Value} (l:K.lookup f=some ⟨oc,od,.func (PySem.W.fnOf x qual (aG st) (aE st) (ak st) dV kV doc pm an cdv ct),osl⟩)
 (c:PySem.W.codeIn K cdv qual=true) (k:PySem.W.keepIn K (.ref f)=true):FunD K x qual st dV f (PySem.W.fnOf x qual (aG st) (aE st) (ak st) dV kV doc pm an cdv ct):=⟨⟨oc,od,kV,doc,pm,an,cdv,ct,osl,rfl,l,c⟩,k⟩
end
structure MCal (P:Program) (w:World) (K:PySem.W.Frag) (mg:Str->Option Value) (base:Heap) (k:Nat) (C:Addr) (m:Str) (ps:List Str) (sp:Sp) (f:Addr) (fd:FuncData):Prop where
 ok:FnOk P w K mg base CX0 k f fd ps sp
 mt:Meth K C m f
 bd:Binds K fd ps []
structure KCal (P:Program) (w:World) (K:PySem.W.Frag) (mg:Str->Option Value) (base:Heap) (k:Nat) (C:Addr) (x:Str) (ps:List Str) (sp:Sp) (f:Addr) (fd:FuncData) (ds:List Value) (dvs:List V):Prop where
 ok:FnOk P w K mg base CX0 k f fd ps sp
 mkr:Mk K C f
 mg:mg x=some (.ref C)
 bd:Binds K fd ps []
 bdD:Binds K fd ps ds
 vd:Vals dvs ds
end L2
namespace L2
open PySem PySem.Spec PyProof.Rows
section
variable {prog:Program} {w:World} {A:Around} {E:Value->Shared->Prop} {s:Shared}
end
section
variable {X:Cx} {K:PySem.W.Frag}
end
end L2
namespace L2
open PySem PySem.Spec PyProof.Rows
section
variable {P:Program} {w:World} {K:PySem.W.Frag} {mg:Str->Option Value} {base:Heap} {N:List Str} {qual:Str} {scope:Scope} {f:Addr} {cd:Value} {A:Around} {outer:List Env} {s:Shared} {H:Hp} {E:XK} {pins:List (Addr×Obj)} {σ:St} {H1:Hp} {s1:Shared}
end
end L2
namespace L2
open PySem PySem.Spec PyProof.Rows
def mj (lo:Int) (n:Nat):It:=⟨fun i _=>i<n,fun i H x H'=>H'=H/\x=.int (lo+i * -1),fun i _=>n<=i⟩
theorem Bf {P:Program} {w:World} {K:PySem.W.Frag} {tg:Expr} (it:Addr) (lo:Int) (n:Nat):Turn P w K tg (mj lo n) [it] it (fun i h=>IsRangeIter h it (lo+(i:Nat) * -1) ((n:Int)-(i:Nat)) (-1)) where
 mem:=by simp
 obj:=fun i h st b hb=>by
  have e:b=it:=by simpa using hb
  subst e
  exact ⟨_,st,fun v z=>by
   have z':Data.fields _=Data.cell v:=z
   cases z'⟩
 keep:=fun i h h' st k=>k it (by simp) _ st
 item:=by
  intro X hP hw hK hc i pins s σ H E I hf st hg
  subst hP hw hK
  obtain ⟨f0,f1,f2,f3,f4,f5⟩:=hf it (by simp)
  have W:=Walks.range (prog:=X.prog) (w:=X.w) (I.ok.hd hc) it lo (-1) n
  refine W.item i s _ _ hg st fun v h' tk hv st' kk=>?_
  obtain ⟨t,rfl⟩:=hv
  have I1:Inv X pins σ H { s with heap:=h',toks:=tk }:=I.turned (fun b o hb e=>kk b o (by simpa using hb) e) f0 f1 f3 f4 f5
  exact ⟨_,rfl,ny (s:={ s with heap:=h',toks:=tk }) (n:="range_iterator") st' rfl rfl (by decide) ⟨.int (lo+i * -1),H,I1,⟨t,rfl⟩,⟨rfl,rfl⟩,st',fun b hb=>(hf b hb).1⟩⟩
 done:=by
  intro X hP hw hK hc i pins s σ H E I hf st hg
  subst hP hw hK
  obtain ⟨f0,f1,f2,f3,f4,f5⟩:=hf it (by simp)
  exact wpAny_pyNext_range_end (I.ok.hd hc) st (by have:n<=i:=hg;omega) fun h' eb=>⟨rfl,I.turned (t':=s.toks) (fun b o hb e=>eb b o hb e) f0 f1 f3 f4 f5⟩
 self:=fun _ _ _ _ _ st h=>wpAny_pyIter_rangeiter st h
theorem xM (a b:Int):Builtin.Range.rangeSize a b (-1)=if b<a then a-b else 0:=by
 unfold Builtin.Range.rangeSize
 rw [if_neg (by decide)]
 show (if a>b then (a-b-1)/1+1 else 0)=_
 rw [Int.ediv_one]
 split<;>omega
theorem BQ {a b:Int} (ha : -(2^61)<=a) (ha':a<2^61) (hb : -(2^61)<=b) (hb':b<2^61):Builtin.Range.small a b (-1)=true:=by
 unfold Builtin.Range.small
 rw [xM]
 simp only [Builtin.Range.rangeFitsLong,Bool.and_eq_true,Bool.or_eq_true,decide_eq_true_eq,beq_iff_eq,show ¬ ((-1:Int)>0) by decide,if_false]
 split<;>omega
section
variable {X:Cx} {tg:Expr}
theorem Dh {pins:List (Addr×Obj)} {σ:St} {H:Hp} {s:Shared} {R:It->Hp->Prop} {E:Value->Shared->Prop} {lo hi:Int} {t u v:Tok} {tk:Nat} (I:Inv X pins σ H s) (h1 : -(2^61)<=lo) (h2:lo<2^61) (h3 : -(2^61)<=hi) (h4:hi<2^61)
 (q:R (mj lo (lo-hi).toNat) H):wpAny (model X.prog X.w) X.A (pyIter (.ref s.heap.objs.size)) (PIE X pins σ tg R) E { s with heap:=s.heap.push { cls:=.type "range",data:=.fields #[.int lo t,.int hi u,.int (-1) v] },toks:=tk }:=by
 refine wpAny_pyIter_range (IsRange.new ..) (BQ h1 h2 h3 h4) ?_
 have I1:Inv X pins σ H { s with heap:=s.heap.push { cls:=.type "range",data:=.fields #[.int lo t,.int hi u,.int (-1) v] },toks:=tk }:=I.kept fun b o e=>Heap.get?_push_of_some _ e
 refine ⟨(s.heap.push { cls:=.type "range",data:=.fields #[.int lo t,.int hi u,.int (-1) v] }).objs.size,[(s.heap.push { cls:=.type "range",data:=.fields #[.int lo t,.int hi u,.int (-1) v] }).objs.size],_,_,H,rfl,
  I1.kept (t':=tk) fun b o e=>Heap.get?_push_of_some _ e,Bf _ lo (lo-hi).toNat,?_,fun b hb=>?_,q⟩
 ·have e1:lo+((0:Nat):Int) * -1=lo:=by simp
  have e2:(((lo-hi).toNat:Nat):Int)-((0:Nat):Int)=Builtin.Range.rangeSize lo hi (-1):=by rw [xM];split<;>omega
  show IsRangeIter _ _ (lo+((0:Nat):Int) * -1) ((((lo-hi).toNat:Nat):Int)-((0:Nat):Int)) (-1)
  rw [e1,e2]
  exact Heap.get?_push_size _ rfl
 ·have e:b=(s.heap.push { cls:=.type "range",data:=.fields #[.int lo t,.int hi u,.int (-1) v] }).objs.size:=by simpa using hb
  subst e
  exact I1.fpOk (Nat.le_refl _) (I1.hok.fresh (Nat.le_refl _))
def Hk (ta:TA):TI:=fun σ H R=>ta σ H fun vs H1=>∃ i j:Int,vs=[.int i,.int j,.int (-1)]/\(-(2^61)<=i/\i<2^61 /\ -(2^61)<=j/\j<2^61)/\R (mj i (i-j).toNat) H1
theorem x5 {a b c:Expr} {ta:TA} {p pos:Pos} (hg:Gl X "range") (hm:X.mg "range"=none) (ha:PA X [a,b,c] ta) (hs:starEach [a,b,c] X.env=[(false,eval a X.env),(false,eval b X.env),(false,eval c X.env)]:=by rfl) (hs2:starEach [b,c] X.env=[(false,eval b X.env),(false,eval c X.env)]:=by rfl) :
 PI X tg (.Call (.Name "range" p) [a,b,c] [] pos) (Hk ta):=by
 intro pins s σ H R I h
 refine Call_ (fX I hg hm boot_range (PyProof.Rows.callWith_type1 (thn (ha pos pins s σ H _ I h) fun us s1 ⟨vs,H1,I1,r1,q1⟩=>?_) (by rw [hs,hs2]) (by rw [hs2];rfl)))
 obtain ⟨i,j,e,⟨q1,q2,q3,q4⟩,q⟩:=q1
 subst e
 cases r1 with
 | cons r rr =>
   cases rr with
   | cons r' rr =>
     cases rr with
     | cons r'' rr =>
       cases rr
       obtain ⟨t,rfl⟩:=r
       obtain ⟨t',rfl⟩:=r'
       obtain ⟨t'',rfl⟩:=r''
       exact call_range_3 (by decide) (Dh I1 q1 q2 q3 q4 q) (Or.inl (PyProof.noPylong_small (by decide)))
end
theorem zy {lo:Int} {n:Nat} {g:TG} {tb:TS} {D:Ends} {σ:St} {H:Hp} (Pv:Nat->St->Hp->Prop) (h0:Pv 0 σ H)
 (hs:∀ i σ H,i<n->Pv i σ H->g (.int (lo+i * -1)) σ H fun σ2 H2=>tb { D with nx:=Pv (i+1),ct:=Pv (i+1),bk:=D.nx } σ2 H2) (hd:∀ σ H,Pv n σ H->D.nx σ H) :
 ∃ W:Nat->Nat->St->Hp->Prop,(∃ m,W 0 m σ H)/\∀ i m σ H,W i m σ H ->
   ((mj lo n).stop i H/\D.nx σ H)\/((mj lo n).go i H/\∃ N:St->Hp->Prop,(∀ σ' H',N σ' H'->∃ m',m'<m/\W (i+1) m' σ' H')/\∀ x H',(mj lo n).yld i H x H'->g x σ H' fun σ2 H2=>tb { D with nx:=N,ct:=N,bk:=D.nx } σ2 H2):=by
 refine ⟨fun i m σ H=>m=n-i/\i<=n/\Pv i σ H,⟨n,by simp,Nat.zero_le _,h0⟩,?_⟩
 rintro i m σ H ⟨rfl,hi,p⟩
 by_cases hlt:i<n
 ·refine .inr ⟨hlt,Pv (i+1),fun σ' H' p'=>⟨n-(i+1),by omega,rfl,hlt,p'⟩,fun x H' y=>?_⟩
  obtain ⟨e,y⟩:=y
  subst e y
  exact hs i σ _ hlt p
 ·have e:i=n:=by omega
  subst e
  exact .inl ⟨Nat.le_refl _,hd σ H p⟩
end L2
namespace L2
open PySem PySem.Spec PyProof.Rows
section
variable {X:Cx} {K:PySem.W.Frag}
end
end L2
namespace L2
open PySem PySem.Spec PyProof.Rows
theorem Gy {P:Program} {w:World} {K:PySem.W.Frag} {mg mb:Str->Option Value} {CX:CXT} {k:Nat} {fa a:Addr} {fd:FuncData} {x:Str} {sp:Sp} {s₁:Shared} {vs:List Value} {ns:List Int}
 (KX:K.In s₁.heap) (hns:s₁.heap.Ns mainGlobals mg) (hb:s₁.heap.Ns builtinsNs mb) (hbb:∀ x:Str,x≠"__name__"->mb x=bootBuiltins x) (hlim:s₁.heap.NoLimit) (hse:s₁.heap.NoSeer) (hg:s₁.gens=#[])
 (ha:s₁.heap.get? a=some { cls:=.type "list",data:=.seq vs.toArray }) (hi:IntsAre vs ns) (hl:ns.length<=sizeLine) (hr:Room k callerA)
 (F:∀ base:Heap,K.In base->base.Ns mainGlobals mg->base.NoSeer->FnOk P w K mg base CX k fa fd [x] sp) (hbind:∀ (s:Shared) (u:Value),BindsTo s fd ⟨[u],[]⟩ [(x,u)])
 (hsp:∀ H:Hp,vB H->SqL K H a (ns.map V.int)->sp [.ref a] H (fun v _=>v=.bl true) fun _ _ _=>False)
 (hCX:∀ H e s',CX [] H s₁ (fun _ _ _=>False) e s'->False) :
 codeAny (model P w) callerA (.call (.ref fa) ⟨[.ref a],[]⟩) (fun r s'=>r=.ok (.ret (.bool true))/\OldK s₁.heap s'.heap/\s'.os=s₁.os/\AllBare s'.gens) s₁:=by
 have rv:=wb hi
 have lenV:=hi.length
 have core:∀ H:Hp,vB H->SqL K H a (ns.map V.int)->HOk P w H s₁.heap->(∀ b,H b≠none->b=a)->(H a≠none->K.lookup a=none) ->
  codeAny (model P w) callerA (.call (.ref fa) ⟨[.ref a],[]⟩) (fun r s'=>r=.ok (.ret (.bool true))/\OldK s₁.heap s'.heap/\s'.os=s₁.os/\AllBare s'.gens) s₁:=by
  intro H hO hS hok hA hK
  have base_of:∀ {b:Addr} {o:Obj},s₁.heap.get? b=some o->H b=none->(fm s₁.heap H).get? b=some o:=fun e n=>Ht e n
  have noA:∀ {b:Addr} {o:Obj} {es:Array DictEntry} {ep:Nat},s₁.heap.get? b=some o->o.data=.dict es ep->H b=none:=fun {b o es ep} e d=>by
   cases q:H b with
   | none=>rfl
   | some u =>
     have e':b=a:=hA b (by rw [q];simp)
     subst e'
     rw [ha] at e;cases e
     have d':Data.seq vs.toArray _=Data.dict es ep:=d
     cases d'
  have nsK:∀ {b:Addr} {m:Str->Option Value},s₁.heap.Ns b m->(fm s₁.heap H).Ns b m:=fun {b m} ⟨o,es,ep,e,d,r⟩=>⟨o,es,ep,base_of e (noA e d),d,r⟩
  have hKb:K.In (fm s₁.heap H):=fun b o e=>base_of (KX b o e) (by
   cases q:H b with
   | none=>rfl
   | some u =>
     have e':b=a:=hA b (by rw [q];simp)
     subst e'
     rw [hK (by rw [q];simp)] at e;cases e)
  have hM:Mod K mg (fm s₁.heap H):=⟨hKb,nsK hns,⟨mb,nsK hb,hbb⟩,let ⟨mc,h1,h2⟩:=hlim;⟨mc,nsK h1,h2⟩⟩
  have hSb:(fm s₁.heap H).NoSeer:=by
   obtain ⟨⟨mc,c1,c2,c3⟩,⟨mm,m1,m2⟩,⟨mb',b1,b2⟩,⟨mg',bm,ob,g1,g2,g3,g4,g5⟩⟩:=hse
   refine ⟨⟨mc,nsK c1,c2,c3⟩,⟨mm,nsK m1,m2⟩,⟨mb',nsK b1,b2⟩,⟨mg',bm,ob,nsK g1,g2,base_of g3 ?_,g4,g5⟩⟩
   cases q:H bm with
   | none=>rfl
   | some u =>
     have e':bm=a:=hA bm (by rw [q];simp)
     rw [e',ha] at g3
     cases g3
     exact absurd (Value.type.inj g4) (by decide)
  have e0:Env0 P w K mg (fm s₁.heap H) callerA [] s₁ H:=⟨rfl,hM,fun b o e=>Fe e,Nat.le_of_eq (Hs _ _),trivial,fun b hb=>absurd (show b∈([]:List Addr) from hb) (by simp),hok,.of_eq hg⟩
  refine codeAny_mono ((F _ hKb (nsK hns) hSb).run callerA [] s₁ H ⟨[.ref a],[]⟩ [.ref a] [.ref a] _ _ hr e0 (hbind s₁ (.ref a)) (.cons rfl .nil) (hsp H hO hS)) fun r s' h=>?_
  cases r with
  | error e=>exact (hCX H e s' h).elim
  | ok fl =>
    cases fl with
    | next=>exact False.elim h
    | brk=>exact False.elim h
    | cont=>exact False.elim h
    | ret u =>
      obtain ⟨v,H',os,bare,un,hok',r',q⟩:=h
      have q':v=.bl true:=q
      subst q'
      obtain rfl:u=Value.bool true:=r'
      refine ⟨rfl,OldK.of_keep fun b o e=>?_,os,bare⟩
      cases q:H b with
      | none=>exact un.keep b o e q (by intro z;exact absurd (show b∈([]:List Addr) from z) (by simp)) (by simp)
      | some u =>
        rcases hO b with z | ⟨ob,xs,z⟩
        ·rw [q] at z;cases z
        ·have z2:=un.frzs b ob _ z
         obtain ⟨e1,_⟩:=hok b _ z
         obtain ⟨e2,_⟩:=hok' b _ z2
         rw [e] at e1;cases e1
         exact e2
 cases hk:K.lookup a with
 | some o =>
   have e:=KX a o hk
   rw [ha] at e
   cases e
   refine core (fun _=>none) (fun _=>.inl rfl) (.inr ⟨_,vs.toArray,_,hk,rfl,rfl,rfl,by rw [List.size_toArray,lenV];exact hl,by simpa using rv⟩) (fun b u z=>by have z':(none:Option HO)=some u:=z;cases z') (fun b z=>absurd rfl z) fun z=>absurd rfl z
 | none =>
   refine core (fun b=>if b=a then some (.frz { cls:=.type "list",data:=.seq vs.toArray } (.lst (ns.map V.int))) else none) (fun b=>?_) (.inl (.inr ⟨{ cls:=.type "list",data:=.seq vs.toArray },if_pos rfl⟩)) (fun b u z=>?_) (fun b z=>?_) fun _=>hk
   ·by_cases hb:b=a
    ·exact .inr ⟨_,_,if_pos hb⟩
    ·exact .inl (if_neg hb)
   ·by_cases hb:b=a
    ·have z':=(if_pos hb).symm.trans z
     cases z'
     subst hb
     exact ⟨ha,by rw [List.length_map];exact hl,vs,_,rv,ha⟩
    ·have z':=(if_neg hb).symm.trans z
     cases z'
   ·by_cases hb:b=a
    ·exact hb
    ·exact absurd (if_neg hb) z
theorem walk_ofS {l:PySem.W.OpenLaw} {n k:Nat} {q:Program} {loose:List Str} {XP:(Str->Option Value)->Heap->Prop} {YP:World->Heap->Prop} {d:DefRec} {K:Params->PySem.W.Frag} {CX:World->CXT} {sp:World->Sp} {x:Str}
 (hi:PyProof.Rows.importsNone q=true) (hn:l.most=some n) (hn2:n<=sizeLine) (hdf:d.params.defaults=[]) (hr:Room k callerA)
 (hY:∀ (w:World) (h:Heap),YP w h->(K w.params).In h)
 (F:∀ (w:World) (mg:Str->Option Value) (fa:Addr) (h:Heap),(K w.params).In h->h.Ns mainGlobals mg->mg d.name=some (.ref fa) ->
   ∃ fd:FuncData,(∀ (s:Shared) (u:Value),BindsTo s fd ⟨[u],[]⟩ [(x,u)]) /\
     ∀ base:Heap,(K w.params).In base->base.Ns mainGlobals mg->base.NoSeer->FnOk l.prog w (K w.params) mg base (CX w) k fa fd [x] (sp w))
 (hsp:∀ (w:World) (H:Hp) (a:Addr) (ns:List Int),ns.length<=n->vB H->SqL (K w.params) H a (ns.map V.int)->sp w [.ref a] H (fun v _=>v=.bl true) fun _ _ _=>False)
 (hCX:∀ (w:World) (H:Hp) (s:Shared) (e:Value) (s':Shared),CX w [] H s (fun _ _ _=>False) e s'->False) :
 PySem.W.WalkO q loose XP YP l.row.toRowW d [] (fun f vs=>PySem.call f vs):=by
 refine Att.attach_call hn hdf fun w s₀ s₁ mg mb fa o pm cd doc a vs ns G Y ho hd hcd hmg hobj hints hlen hg=>?_
 have KX:=hY w _ Y
 obtain ⟨fd,hb,hF⟩:=F w mg fa _ KX G.T.g hmg
 exact Gy KX G.T.g G.T.b G.T.builtins G.T.nolimit (G.T.seer hi) hg hobj hints (Nat.le_trans hlen hn2) hr hF hb (fun H hO hS=>hsp w H a ns hlen hO hS) fun H e s'=>hCX w H s₁ e s'
end L2
namespace L2
open PySem PySem.Spec PyProof.Rows
section
variable {X:Cx} {e:Env} {l:List Env}
theorem CV {pins:List (Addr×Obj)} {σ:St} {H:Hp} {s:Shared} (hs:X.base.NoSeer) (ht:X.prog.given.tree=none) (hd:X.A.depth+100<recursionLimit) (hst:X.stack=e::l) (h1:e.scope.isGenerator=false) (h2:e.scope.isCoroutine=false) (h3:e.builtins=builtinsNs) (h4:e.globals=mainGlobals) (I:Inv X pins σ H s):PylongRoom (model X.prog X.w) X.A s :=
 PylongRoom.of (I.ok.mod.nolimit.keeps I.bk) hd (SeerAt.of (hs.keeps I.bk) ht (by rw [I.ok.frames,hst]) h1 h2 h3 h4)
theorem DT (hs:X.base.NoSeer) (ht:X.prog.given.tree=none) (hd:X.A.depth+100<recursionLimit) (hst:X.stack=e::l) (h1:e.scope.isGenerator=false) (h2:e.scope.isCoroutine=false) (h3:e.builtins=builtinsNs) (h4:e.globals=mainGlobals):OpR X (binaryOp .FloorDiv) (rI (fun _ j=>0<j) fun i j=>.int (i/j)):=by
 intro pins s σ H x y v u Q I rx ry h
 obtain ⟨i,j,rfl,rfl,hj,q⟩:=h
 obtain ⟨t,rfl⟩:=rx
 obtain ⟨t',rfl⟩:=ry
 have hj':(0:Int)<j:=hj
 refine floordiv_int (Int.ne_of_gt hj') ?_ (.inr (CV hs ht hd hst h1 h2 h3 h4 I))
 rw [Int.fdiv_eq_ediv_of_nonneg _ (Int.le_of_lt hj')]
 exact ⟨.int (i/j),H,I.tok _,⟨_,rfl⟩,q⟩
end
end L2
namespace L2
open PySem PySem.Spec PyProof.Rows
theorem KD (a v:Value):argsOk "max" ⟨[a],[(Str.ofString "default",v)]⟩:=by unfold argsOk;kernel_rfl
def Top (val:Nat->Int) (n:Nat) (M:Int):Prop:=(∃ i,i<n/\val i=M)/\∀ i,i<n->val i<=M
theorem Top.more {val:Nat->Int} {n:Nat} {M:Int} (h:Top val n M) (hn:val n>M):Top val (n+1) (val n) :=
 ⟨⟨n,by omega,rfl⟩,fun i hi=>by
   by_cases e:i=n
   ·subst e;exact Int.le_refl _
   ·have:=h.2 i (by omega);omega⟩
theorem Top.less {val:Nat->Int} {n:Nat} {M:Int} (h:Top val n M) (hn:¬ val n>M):Top val (n+1) M :=
 ⟨let ⟨i,hi,e⟩:=h.1;⟨i,by omega,e⟩,fun i hi=>by
  by_cases e:i=n
  ·subst e;omega
  ·exact h.2 i (by omega)⟩
section
variable {prog:Program} {w:World} {A:Around} {R:Result->Shared->Prop} {I S:Addr} {fp wr:List Addr} {n:Nat} {P:Nat->Value->Prop} {St:Nat->Heap->Prop} {val:Nat->Int} {d:Value}
theorem pI:(toString "max"++toString ".loop":String)="max.loop":=by decide
theorem FA (W:Walks prog w A.in1 I fp wr n P St) (hval:∀ i v,P i v->∃ t,v=.int (val i) t) (hSf:S∉fp) :
 ∀ (k j:Nat) (s:Shared) (m:Int) (t:Tok) (c:Nat),n-j=k->j<=n->St j s.heap->Top val j m ->
 s.heap.get? S=some { cls:=.type "list",dict:=none,data:=.seq #[.int m t,.int m t] c,slots:=#[] } ->
 (∀ M t h' tk,Top val n M->(∀ b o,b∉wr->b≠S->s.heap.get? b=some o->h'.get? b=some o)->R (.ok (.ret (.int M t))) { s with heap:=h',toks:=tk }) ->
 codeAny (model prog w) A (.builtin "max.loop" ⟨[.ref I,.none,.ref S],[("default",d)]⟩) R s:=by
 have hSw:S∉wr:=fun h=>hSf (W.sub _ h)
 have cm:=CmpOf.ints_gt (prog:=prog) (w:=w) (A:=A.in1) (P:=fun i v=>∃ t,v=.int (val i) t) val (fun _ _ h=>h)
 intro k
 induction k with
 | zero =>
   intro j s m t c hk hj hst hT hS hR
   have hin:j=n:=by omega
   subst hin
   refine codeAny_builtin F.entry_max_loop ?_
   rw [Around.under_plainId F.plain_max_loop _]
   refine wpAny_bind (wpAny_seqItems hS rfl ?_)
   show wpAny _ A.in1 (tryCatch (pyNext (.ref I)) _ >>= _) _ _ s
   refine wpAny_bind (wpAny_tryCatch (W.done s _ _ hst fun h' tk hk'=>?_))
   show wpAny _ A.in1 (updateSeq S (fun _=>#[]) >>= _) _ _ _
   refine wpAny_bind (wpAny_updateSeq (hk' S _ hSw hS) rfl (wpAny_bind (wpAny_letGo (wpAny_pure ?_))))
   exact hR m t _ tk hT fun b o hb hbS e=>(Heap.get?_update_other _ _ (Ne.symm hbS)).trans (hk' b o hb e)
 | succ k ih =>
   intro j s m t c hk hj hst hT hS hR
   have hlt:j<n:=by omega
   refine codeAny_builtin F.entry_max_loop ?_
   rw [Around.under_plainId F.plain_max_loop _]
   refine wpAny_bind (wpAny_seqItems hS rfl ?_)
   show wpAny _ A.in1 (tryCatch (pyNext (.ref I)) _ >>= _) _ _ s
   refine wpAny_bind (wpAny_tryCatch (W.item j s _ _ hlt hst fun v h' tk hP hst' hk'=>?_))
   have hS':=hk' S _ hSw hS
   obtain ⟨u,rfl⟩:=hval j v hP
   obtain ⟨i0,_,e0⟩:=hT.1
   show wpAny _ A.in1 (tryCatch (holding [_,_] (richCompare .Gt (.int (val j) u) (.int m t) >>= _)) _ >>= _) _ _ _
   refine wpAny_bind (wpAny_tryCatch (wpAny_holding (wpAny_bind (cm j i0 _ _ _ _ _ ⟨u,rfl⟩ ⟨t,by rw [e0]⟩ ?_))))
   refine wpAny_bind (wpAny_holding (wpAny_truthy_bool ?_))
   refine wpAny_bind (wpAny_letGo (wpAny_pure ?_))
   show wpAny _ A.in1 (if decide (val j>val i0)=true then _ else _) _ _ _
   rw [e0]
   by_cases hb:val j>m
   ·rw [decide_eq_true hb]
    simp only [if_true]
    refine wpAny_bind ?_
    refine wpAny_updateSeq hS' rfl (wpAny_bind (wpAny_letGo ?_))
    rw [pI]
    refine wpAny_pure ⟨plainId_quiet F.plain_max_loop _,ih (j+1) _ (val j) u _ (by omega) hlt (W.frame _ _ _ hst' fun b hbf o e=>?_) (hT.more hb) (Heap.get?_update_self _ hS' rfl) fun M t' h'' tk'' hM hk''=>?_⟩
    ·exact (Heap.get?_update_other _ _ (fun h:S=b=>hSf (h ▸ hbf))).trans e
    ·exact hR M t' h'' tk'' hM fun b o hbw hbS e=>hk'' b o hbw hbS ((Heap.get?_update_other _ _ (Ne.symm hbS)).trans (hk' b o hbw e))
   ·rw [decide_eq_false hb]
    simp only [Bool.false_eq_true,if_false]
    refine wpAny_bind (wpAny_letGo ?_)
    rw [pI]
    refine wpAny_pure ⟨plainId_quiet F.plain_max_loop _,ih (j+1) _ m t c (by omega) hlt hst' (hT.less hb) hS' fun M t' h'' tk'' hM hk''=>?_⟩
    exact hR M t' h'' tk'' hM fun b o hbw hbS e=>hk'' b o hbw hbS (hk' b o hbw e)
theorem FB (W:Walks prog w A.in1 I fp wr n P St) (hval:∀ i v,P i v->∃ t,v=.int (val i) t) (hSf:S∉fp) {s:Shared} {c:Nat} (hst:St 0 s.heap)
 (hS:s.heap.get? S=some { cls:=.type "list",dict:=none,data:=.seq #[] c,slots:=#[] })
 (h0:n=0->∀ h' tk,(∀ b o,b∉wr->b≠S->s.heap.get? b=some o->h'.get? b=some o)->R (.ok (.ret d)) { s with heap:=h',toks:=tk })
 (hR:∀ M t h' tk,Top val n M->(∀ b o,b∉wr->b≠S->s.heap.get? b=some o->h'.get? b=some o)->R (.ok (.ret (.int M t))) { s with heap:=h',toks:=tk }) :
 codeAny (model prog w) A (.builtin "max.loop" ⟨[.ref I,.none,.ref S],[("default",d)]⟩) R s:=by
 have hSw:S∉wr:=fun h=>hSf (W.sub _ h)
 refine codeAny_builtin F.entry_max_loop ?_
 rw [Around.under_plainId F.plain_max_loop _]
 refine wpAny_bind (wpAny_seqItems hS rfl ?_)
 show wpAny _ A.in1 (tryCatch (pyNext (.ref I)) _ >>= _) _ _ s
 by_cases hn:n=0
 ·subst hn
  refine wpAny_bind (wpAny_tryCatch (W.done s _ _ hst fun h' tk hk'=>?_))
  refine wpAny_bind (wpAny_rule (wpAny_pure ?_))
  exact h0 rfl h' tk fun b o hb _ e=>hk' b o hb e
 ·refine wpAny_bind (wpAny_tryCatch (W.item 0 s _ _ (by omega) hst fun v h' tk hP hst' hk'=>?_))
  have hS':=hk' S _ hSw hS
  obtain ⟨u,rfl⟩:=hval 0 v hP
  show wpAny _ A.in1 (updateSeq S (fun _=>#[.int (val 0) u,.int (val 0) u]) >>= _) _ _ _
  refine wpAny_bind (wpAny_updateSeq hS' rfl ?_)
  rw [pI]
  refine wpAny_pure ⟨plainId_quiet F.plain_max_loop _,FA W hval hSf _ 1 _ (val 0) u _ rfl (by omega) (W.frame _ _ _ hst' fun b hbf o e=>?_) ⟨⟨0,by omega,rfl⟩,fun i hi=>?_⟩ (Heap.get?_update_self _ hS' rfl) fun M t h'' tk'' hM hk''=>?_⟩
  ·exact (Heap.get?_update_other _ _ (fun h:S=b=>hSf (h ▸ hbf))).trans e
  ·have:i=0:=by omega
   subst this;exact Int.le_refl _
  ·exact hR M t h'' tk'' hM fun b o hbw hbS e=>hk'' b o hbw hbS ((Heap.get?_update_other _ _ (Ne.symm hbS)).trans (hk' b o hbw e))
end
section
variable {prog:Program} {w:World} {A:Around} {E:Value->Shared->Prop} {s:Shared} {l:Addr} {xs:Array (Int×Tok)} {d:Value}
theorem JV {Q:Value->Shared->Prop} (hh:A.handled=none) (hl:s.heap.IsList l (intItems xs))
 (h0:xs.size=0->∀ h' tk,(∀ b o,s.heap.get? b=some o->h'.get? b=some o)->Q d { s with heap:=h',toks:=tk })
 (h:∀ M t h' tk,Top (numAt xs) xs.size M->(∀ b o,s.heap.get? b=some o->h'.get? b=some o)->Q (.int M t) { s with heap:=h',toks:=tk }) :
 wpAny (model prog w) A (call (.builtin "max") [.ref l] [("default",d)]) Q E s:=by
 refine wpAny_call (codeAny_call_builtin F.plain_max F.entry_max ?_)
 simp only [checkBuiltinCall,F.kind_max]
 have key:wpAny (model prog w) A.in1 (Builtin.«max» ⟨[.ref l],[("default",d)]⟩) (fun fin s'=>match fin with
  | .done f=>(match (Except.ok f:Result) with | .ok (.ret v)=>Q v s' | .ok _=>False | .error e=>E e s')
  | .again c'=>c'.quiet=true/\codeAny (model prog w) A c' (fun r s'=>match r with | .ok (.ret v)=>Q v s' | .ok _=>False | .error e=>E e s') s') E s:=by
  show wpAny _ A.in1 (Builtin.Builtins.bindParams "max" ["key","default"] 0 ⟨[],[("default",d)]⟩ >>= _) _ _ s
  refine wpAny_bind (wpAny_of_eq (show Builtin.Builtins.bindParams "max" ["key","default"] 0 ⟨[],[("default",d)]⟩=pure [none,some d] from rfl) ?_)
  refine wpAny_bind (wpAny_pure ?_)
  refine wpAny_bind (iter_intList hl fun s₂ e st hfp hlI=>?_)
  subst e
  refine wpAny_bind (wpAny_newObj_type ?_)
  rw [pI]
  have W:=Walks.list (prog:=prog) (w:=w) (A:=A.in1) hh _ l hlI (intItems xs)
  have sz:(intItems xs).size=xs.size:=by simp [intItems]
  refine wpAny_pure ⟨plainId_quiet F.plain_max_loop _,FB W (val:=numAt xs) (fun i v=>intItems_at) (fun hm=>Nat.lt_irrefl _ (hfp _ hm)) (W.frame _ _ _ st fun b _ o e=>Heap.get?_push_of_some _ e) (Heap.get?_push_size _ rfl) (fun hn h' tk hk=>?_) fun M t h' tk hM hk=>?_⟩
  ·exact h0 (sz ▸ hn) h' tk (old_kept fun b o hb e=>hk b o hb (Nat.ne_of_lt (Heap.lt_size e)) (Heap.get?_push_of_some _ e))
  ·exact h M t h' tk (sz ▸ hM) (old_kept fun b o hb e=>hk b o hb (Nat.ne_of_lt (Heap.lt_size e)) (Heap.get?_push_of_some _ e))
 cases hsig:Manifest.signature? "max" with
 | none=>exact wpAny_pure key
 | some sig =>
   have ha':Bind.checkArgs "max" sig ⟨[.ref l],[("default",d)]⟩=pure ():=by simpa only [argsOk,hsig] using KD (.ref l) d
   simp only [ha']
   exact wpAny_pure key
end
def xO (K:PySem.W.Frag):R2:=fun x y H Q=>∃ (p:Addr) (ns:List Int),x=.ref p/\SqL K H p (ns.map V.int)/\(ns=[]->Q y H)/\∀ M,M∈ns->(∀ a∈ns,a<=M)->Q (.int M) H
theorem zi:∀ {ns:List Int} {us:List Value},Vals (ns.map V.int) us->∃ ts:List (Int×Tok),us.toArray=intItems ts.toArray/\ts.map (·.1)=ns
 | [],_,h=>by cases h;exact ⟨[],by simp [intItems],rfl⟩
 | n::ns,_,h=>by
   cases h with
   | cons r rr =>
     obtain ⟨t,rfl⟩:=r
     obtain ⟨ts,e1,e2⟩:=zi rr
     refine ⟨(n,t)::ts,?_,by rw [List.map_cons,e2]⟩
     have e3:=congrArg Array.toList e1
     simp only [intItems,List.map_toArray] at e3 ⊢
     simpa using e3
theorem Bt {ts:List (Int×Tok)} {M:Int} (h:Top (numAt ts.toArray) ts.toArray.size M):M∈ts.map (·.1)/\∀ a∈ts.map (·.1),a<=M:=by
 have g:∀ (i:Nat) (hi:i<ts.length),numAt ts.toArray i=(ts[i]).1:=fun i hi=>by simp [numAt,hi]
 obtain ⟨⟨i,hi,e⟩,h2⟩:=h
 have hi':i<ts.length:=by simpa using hi
 constructor
 ·rw [<- e,g i hi'];exact List.mem_map.mpr ⟨_,List.getElem_mem hi',rfl⟩
 ·intro a ha
  obtain ⟨p,hp,rfl⟩:=List.mem_map.mp ha
  obtain ⟨j,hj,rfl⟩:=List.getElem_of_mem hp
  rw [<- g j hj];exact h2 j (by simpa using hj)
section
variable {X:Cx} {K:PySem.W.Frag} {e ed:Expr} {ta td:TE} {p pos kp:Pos}
theorem DN (hK:X.K=K) (hc:X.calm=true) (hg:Gl X "max") (hm:X.mg "max"=none) (ha:PE X e ta) (hd:PE X ed td)
 (he:starEach [e] X.env=(false,eval e X.env)::starEach [] X.env:=by rfl):PE X (.Call (.Name "max" p) [e] [⟨some "default",ed,kp⟩] pos) (tOp (xO K) ta td):=by
 subst hK
 intro pins s σ H Q I h
 refine wpAny_Call_Name_kw (fX I hg hm boot_max ?_ (by decide) (by decide))
 refine callWith_kw (thn (aa ha ac he pos pins s σ H (fun vs H1=>match vs with | [x]=>td σ H1 fun y H2=>xO X.K x y H2 Q | _=>False) I h) fun us s1 ⟨vs,H1,I1,r1,q1⟩=>?_) (by rw [he];rfl) (by rw [he];rfl) rfl rfl
 obtain ⟨x,rfl⟩:∃ x,vs=[x]:=by
  match vs,q1 with
  | [x],_=>exact ⟨x,rfl⟩
 obtain ⟨u,rfl,ru⟩:=gu r1
 refine kws_cons (thn (hd pins s1 σ H1 _ I1 q1) fun v s2 ⟨y,H2,I2,ry,q2⟩=>kws_nil ?_)
 obtain ⟨a,ns,rfl,hq,k0,k1⟩:=q2
 cases ru
 obtain ⟨its,r',pl,hz⟩:=I2.list hq
 obtain ⟨ts,e1,e2⟩:=zi r'
 have il:=pl.isList
 rw [e1] at il
 refine JV (I2.ok.hd hc) il (fun h0 h' tk k=>⟨y,H2,I2.kept k,ry,k0 ?_⟩) fun M t h' tk hM k=>⟨.int M,H2,I2.kept k,⟨t,rfl⟩,?_⟩
 ·have:ts=[]:=by simpa using h0
  rw [<- e2,this];rfl
 ·obtain ⟨m1,m2⟩:=Bt hM
  rw [e2] at m1 m2
  exact k1 M m1 m2
end
theorem Ax:∀ {bs:List Bool} {us:List Value},Vals (bs.map V.bl) us->us=bs.map Value.bool
 | [],_,h=>by cases h;rfl
 | b::bs,_,h=>by
   cases h with
   | cons r rr =>
     cases r
     rw [Ax rr];rfl
theorem KE (bs:List Bool):(List.range bs.length).any (fun i=>bs.getD i false)=bs.any id:=by
 rw [Bool.eq_iff_iff,List.any_eq_true,List.any_eq_true]
 constructor
 ·rintro ⟨i,hi,e⟩
  have hi':=List.mem_range.mp hi
  refine ⟨bs[i],List.getElem_mem hi',?_⟩
  simpa [List.getD,List.getElem?_eq_getElem hi'] using e
 ·rintro ⟨b,hb,e⟩
  obtain ⟨i,hi,rfl⟩:=List.getElem_of_mem hb
  refine ⟨i,List.mem_range.mpr hi,?_⟩
  simpa [List.getD,List.getElem?_eq_getElem hi] using e
theorem JZ {X:Cx} {K:PySem.W.Frag} (hK:X.K=K) (hc:X.calm=true):CallR X (.builtin "any") (fun xs H Q=>∃ (p:Addr) (bs:List Bool),xs=[.ref p]/\SqL K H p (bs.map V.bl)/\Q (.bl (bs.any id)) H):=by
 subst hK
 intro pins s σ H xs us Q I r h
 obtain ⟨p,bs,rfl,hq,q⟩:=h
 obtain ⟨u,rfl,rx⟩:=gu r
 cases rx
 obtain ⟨its,r',pl,hz⟩:=I.list hq
 have e:=Ax r'
 subst e
 have hl:=pl.isList
 have hlt:p<s.heap.objs.size:=by obtain ⟨_,e,_⟩:=hl;exact Heap.lt_size e
 refine call_any_walk (wpAny_pyIter_list hl ?_)
 refine ⟨_,_,_,_,_,_,fun i=>bs.getD i false,rfl,Walks.list (A:=X.A.in1) (I.ok.hd hc) _ p (Nat.ne_of_lt hlt) _,⟨⟨_,Heap.get?_push_size _ rfl,rfl,rfl⟩,hl.push _⟩,fun i v s' Q' E' hP hQ=>?_,fun h' tk hk=>?_⟩
 ·have e:v=.bool (bs.getD i false):=by
   have hP':((bs.map Value.bool).toArray)[i]?=some v:=hP
   simp only [List.getElem?_toArray,List.getElem?_map,Option.map_eq_some_iff] at hP'
   obtain ⟨b,hb,rfl⟩:=hP'
   simp [List.getD,hb]
  subst e
  exact wpAny_truthy_bool hQ
 ·refine ⟨.bl (bs.any id),H,I.kept (old_kept hk),?_,q⟩
  show Value.bool _=Value.bool _
  rw [<- KE bs]
  simp
end L2
namespace L2
open PySem PySem.Spec PyProof.Rows
end L2
namespace L2
open PySem PySem.Spec PyProof.Rows
section
variable {X:Cx}
end
theorem zh:∀ {ns:List Int} {us:List Value},Vals (ns.map V.int) us->∃ l:List (Int×Tok),us=l.map (fun p=>Value.int p.1 p.2)/\l.map (·.1)=ns
 | [],_,h=>by cases h;exact ⟨[],rfl,rfl⟩
 | n::ns,_,h=>by
   cases h with
   | cons r rr =>
     obtain ⟨t,rfl⟩:=r
     obtain ⟨l,rfl,e⟩:=zh rr
     exact ⟨(n,t)::l,rfl,by rw [List.map_cons,e]⟩
theorem xY:∀ (l:List (Int×Tok)) (n:Nat),n<=l.length->preSum (numAt l.toArray) n=((l.take n).map (·.1)).sum
 | l,0,_=>rfl
 | l,n+1,h=>by
   rw [preSum,xY l n (by omega),List.take_add_one,List.getElem?_eq_getElem (by omega)]
   unfold numAt
   rw [List.getElem?_toArray,List.getElem?_eq_getElem (by omega),Option.toList_some,List.map_append,List.sum_append]
   show _=_+(l[n].1+0)
   rw [Int.add_zero];rfl
theorem JU {X:Cx} {K:PySem.W.Frag} (hK:X.K=K) (hc:X.calm=true):CallR X (.builtin "sum") (fun xs H Q=>∃ (p:Addr) (ns:List Int),xs=[.ref p]/\SqL K H p (ns.map V.int)/\Q (.int ns.sum) H):=by
 subst hK
 intro pins s σ H xs us Q I r h
 obtain ⟨p,ns,rfl,hq,q⟩:=h
 obtain ⟨u,rfl,rx⟩:=gu r
 cases rx
 obtain ⟨its,r',pl,hz⟩:=I.list hq
 obtain ⟨l,rfl,e⟩:=zh r'
 have hl:s.heap.IsList p (intItems l.toArray):=by
  have h1:=pl.isList
  have e2:(l.map (fun p=>Value.int p.1 p.2)).toArray=intItems l.toArray:=by unfold intItems;simp
  rw [<- e2];exact h1
 refine sum_intListG (I.ok.hd hc) hl fun h' tk t' hk=>⟨.int ns.sum,H,I.kept hk,⟨t',?_⟩,q⟩
 have e3:preSum (numAt l.toArray) l.toArray.size=ns.sum:=by
  rw [List.size_toArray,xY l l.length (Nat.le_refl _),List.take_length,e]
 rw [e3]
structure CalE (P:Program) (w:World) (K:PySem.W.Frag) (mg:Str->Option Value) (base:Heap) (k:Nat) (x:Str) (ps:List Str) (sp:Sp) (f:Addr) (fd:FuncData) (ds:List Value) (dvs:List V):Prop where
 ok:FnOk P w K mg base CX0 k f fd ps sp
 mg:mg x=some (.ref f)
 kp:PySem.W.keepIn K (.ref f)=true
 bn:Binds K fd ps []
 bd:Binds K fd ps ds
 vd:Vals dvs ds
end L2
namespace L2
open PySem PySem.Spec PyProof.Rows
section
variable {X:Cx} {K:PySem.W.Frag}
end
end L2
namespace L2
open PySem PySem.Spec PyProof.Rows
def bg:Nat:=67000000
section
variable {X:Cx} {K:PySem.W.Frag}
theorem qG {x y:V} {us:List Value} (h:Vals [x,y] us):∃ u v,us=[u,v]/\RelV x u/\RelV y v:=by
 cases h with
 | cons r t =>
   cases t with
   | cons r2 t2 =>
     cases t2
     exact ⟨_,_,rfl,r,r2⟩
end
end L2
namespace L2
open PySem PySem.Spec PyProof.Rows
section
variable {X:Cx} {K:PySem.W.Frag}
end
end L2
namespace RM
def cf (l:List Int) (k:Nat):Int:=l.getD k 0
theorem cz (k:Nat):cf [] k=0:=by simp [cf]
theorem Ao (x:Int) (l:List Int):cf (x::l) 0=x:=rfl
theorem qo (x:Int) (l:List Int) (k:Nat):cf (x::l) (k+1)=cf l k:=rfl
theorem cC {l:List Int} {k:Nat} (h:l.length<=k):cf l k=0:=by
 unfold cf;rw [List.getD,List.getElem?_eq_none_iff.mpr h];rfl
theorem dQ {l:List Int} {k:Nat} (h:k<l.length):cf l k=l[k]:=by
 unfold cf;rw [List.getD,List.getElem?_eq_getElem h];rfl
theorem Aq {l:List Int} {k:Nat} {x:Int} (h:l[k]?=some x):cf l k=x:=by
 unfold cf;rw [List.getD,h];rfl
theorem iI {l:List Int} {k:Nat} (h:k<l.length):l[k]?=some (cf l k):=by
 rw [dQ h,List.getElem?_eq_getElem h]
theorem Ar {l r:List Int} {k:Nat} (h:k<l.length):cf (l++r) k=cf l k:=by
 unfold cf;rw [List.getD,List.getD,List.getElem?_append_left h]
theorem nV {l r:List Int} {k:Nat} (h:l.length<=k):cf (l++r) k=cf r (k-l.length):=by
 unfold cf;rw [List.getD,List.getD,List.getElem?_append_right h]
theorem nQ {l:List Int} {j k:Nat} {x:Int} (h:j<l.length):cf (l.set j x) k=if k=j then x else cf l k:=by
 unfold cf;rw [List.getD,List.getD,List.getElem?_set]
 by_cases e:j=k
 ·subst e;simp [h]
 ·rw [if_neg e,if_neg (fun z=>e z.symm)]
theorem nS (n k:Nat):cf (List.replicate n 0) k=0:=by
 unfold cf;rw [List.getD,List.getElem?_replicate];split<;>rfl
theorem nU (f:Nat->Int) (n k:Nat):cf ((List.range n).map f) k=if k<n then f k else 0:=by
 unfold cf;rw [List.getD,List.getElem?_map]
 by_cases h:k<n
 ·rw [if_pos h,List.getElem?_range h];rfl
 ·rw [if_neg h,List.getElem?_eq_none_iff.mpr (by simpa using h)];rfl
theorem dP {a b:List Int} (hl:a.length=b.length) (h:∀ k,k<a.length->cf a k=cf b k):a=b:=by
 apply List.ext_getElem hl
 intro k h1 h2
 rw [<- dQ h1,<- dQ h2];exact h k h1
def trim (l:List Int):List Int:=(l.reverse.dropWhile (· == 0)).reverse
theorem oy (l:List Int):trim (l++[0])=trim l:=by
 unfold trim;rw [List.reverse_append];rfl
theorem mr (l:List Int) {x:Int} (h:x≠0):trim (l++[x])=l++[x]:=by
 unfold trim
 rw [List.reverse_append]
 show ((x::l.reverse).dropWhile (· == 0)).reverse=_
 rw [List.dropWhile_cons_of_neg (by simpa using h)]
 simp
def Tr (l:List Int):Prop:=∀ n,l.length=n+1->cf l n≠0
theorem cP (l:List Int):l=[]\/∃ r x,l=r++[x]:=by
 cases h:l.reverse with
 | nil=>left;simpa using h
 | cons x r=>right;exact ⟨r.reverse,x,by rw [<- List.reverse_reverse l,h];simp⟩
theorem lT (r:List Int) (x:Int):cf (r++[x]) r.length=x:=by
 rw [nV (Nat.le_refl _),Nat.sub_self];rfl
theorem Bq:Tr []:=fun n h=>by simp at h
theorem tr_snoc {r:List Int} {x:Int}:Tr (r++[x])↔x≠0:=by
 constructor
 ·intro h
  have:=h r.length (by simp)
  rwa [lT] at this
 ·intro h n hn
  have e:n=r.length:=by simp at hn;omega
  subst e
  rwa [lT]
theorem ox:∀ (n:Nat) (l:List Int),l.length=n->Tr (trim l)/\(trim l).length<=l.length/\∀ k,cf (trim l) k=cf l k
 | 0,l,h=>by
   have:l=[]:=List.length_eq_zero_iff.mp h
   subst this
   exact ⟨Bq,Nat.le_refl _,fun _=>rfl⟩
 | n+1,l,h=>by
   rcases cP l with rfl | ⟨r,x,rfl⟩
   ·simp at h
   ·by_cases hx:x=0
    ·subst hx
     obtain ⟨h1,h2,h3⟩:=ox n r (by simpa using h)
     rw [oy]
     refine ⟨h1,by rw [List.length_append];exact Nat.le_trans h2 (Nat.le_add_right _ _),fun k=>?_⟩
     rw [h3]
     by_cases hk:k<r.length
     ·rw [Ar hk]
     ·rw [nV (Nat.le_of_not_lt hk),cC (Nat.le_of_not_lt hk)]
      cases e:k-r.length with
      | zero=>rfl
      | succ j=>rw [qo,cz]
    ·rw [mr r hx]
     exact ⟨tr_snoc.mpr hx,Nat.le_refl _,fun _=>rfl⟩
theorem eQ (l:List Int):Tr (trim l):=(ox _ l rfl).1
theorem tz (l:List Int):(trim l).length<=l.length:=(ox _ l rfl).2.1
theorem gj (l:List Int) (k:Nat):cf (trim l) k=cf l k:=(ox _ l rfl).2.2 k
theorem Bm {l:List Int} (h:Tr l):trim l=l:=by
 rcases cP l with rfl | ⟨r,x,rfl⟩
 ·rfl
 ·exact mr r (tr_snoc.mp h)
theorem nM {a b:List Int} (ha:Tr a) (hb:Tr b) (h:∀ k,cf a k=cf b k):a=b:=by
 have le:∀ {a b:List Int},Tr a->(∀ k,cf a k=cf b k)->a.length<=b.length:=fun {a b} ha h=>by
  cases e:a.length with
  | zero=>exact Nat.zero_le _
  | succ n =>
    apply Classical.byContradiction
    intro hn
    exact ha n e (by rw [h n,cC (by omega)])
 have hl:a.length=b.length:=Nat.le_antisymm (le ha h) (le hb fun k=>(h k).symm)
 exact dP hl fun k _=>h k
theorem Bk {l:List Int} {n:Nat} (hn:n<l.length) (h:cf l n=0):trim (l.take (n+1))=trim (l.take n):=by
 rw [List.take_add_one,iI hn,h]
 exact oy _
theorem Bl {l:List Int} {n:Nat} (hn:n<l.length) (h:cf l n≠0):trim (l.take (n+1))=l.take (n+1):=by
 rw [List.take_add_one,iI hn]
 exact mr _ h
end RM
namespace RM
def dM (f:Int) (a b:List Int):List Int:=(List.range (max a.length b.length)).map fun k=>cf a k+f*cf b k
theorem gQ (f:Int) (a b:List Int) (k:Nat):cf (dM f a b) k=cf a k+f*cf b k:=by
 unfold dM
 rw [nU]
 by_cases h:k<max a.length b.length
 ·rw [if_pos h]
 ·have h1:a.length<=k:=by omega
  have h2:b.length<=k:=by omega
  rw [if_neg h,cC h1,cC h2];simp
def gn (a b:List Int):List Int:=trim (dM 1 a b)
def cF (a b:List Int):List Int:=trim (dM (-1) a b)
def tm (a b:List Int) (n i:Nat):Int:=if i<=n then cf a i*cf b (n-i) else 0
def sm (a b:List Int) (n:Nat):Nat->Int
 | 0=>0
 | j+1=>sm a b n j+tm a b n j
def aw (a b:List Int) (n:Nat):Int:=sm a b n a.length
def ad (a b:List Int):List Int:=if a=[]\/b=[] then [] else (List.range (a.length+b.length-1)).map (aw a b)
theorem Bu {a b:List Int} {n i:Nat} (h:a.length<=i):tm a b n i=0:=by
 unfold tm;split
 ·rw [cC h,Int.zero_mul]
 ·rfl
theorem oA {a b:List Int} {n i:Nat} (h:b.length<=n-i):tm a b n i=0:=by
 unfold tm;split
 ·rw [cC h,Int.mul_zero]
 ·rfl
theorem mF {a b:List Int} {n:Nat}:∀ {j:Nat},(∀ i,i<j->tm a b n i=0)->sm a b n j=0
 | 0,_=>rfl
 | j+1,h=>by
   rw [sm,mF fun i hi=>h i (Nat.lt_succ_of_lt hi),h j (Nat.lt_succ_self _)];rfl
theorem yC {a b:List Int} {n:Nat} (h:a.length+b.length<=n+1):aw a b n=0:=by
 apply mF
 intro i hi
 exact oA (by omega)
theorem sU {a b:List Int} {la lb:Nat} (ha:a.length=la+1) (hb:b.length=lb+1):aw a b (la+lb)=cf a la*cf b lb:=by
 unfold aw
 rw [ha,sm,mF fun i hi=>oA (by omega)]
 unfold tm
 rw [if_pos (Nat.le_add_right _ _),Nat.add_sub_cancel_left,Int.zero_add]
theorem aP (a b:List Int) (n:Nat):cf (ad a b) n=aw a b n:=by
 unfold ad
 by_cases h:a=[]\/b=[]
 ·rw [if_pos h,cz]
  symm
  apply mF
  intro i hi
  rcases h with rfl | rfl
  ·simp at hi
  ·exact oA (Nat.zero_le _)
 ·rw [if_neg h,nU]
  by_cases hn:n<a.length+b.length-1
  ·rw [if_pos hn]
  ·rw [if_neg hn,yC (by omega)]
theorem oz {a b:List Int} (ha:Tr a) (hb:Tr b):Tr (ad a b):=by
 intro n hn
 rw [aP]
 by_cases h:a=[]\/b=[]
 ·unfold ad at hn;rw [if_pos h] at hn;simp at hn
 ·have h1:a≠[]:=fun z=>h (.inl z)
  have h2:b≠[]:=fun z=>h (.inr z)
  obtain ⟨la,ea⟩:∃ la,a.length=la+1:=⟨a.length-1,by have:=List.length_pos_iff.mpr h1;omega⟩
  obtain ⟨lb,eb⟩:∃ lb,b.length=lb+1:=⟨b.length-1,by have:=List.length_pos_iff.mpr h2;omega⟩
  unfold ad at hn
  rw [if_neg h,List.length_map,List.length_range] at hn
  have e:n=la+lb:=by omega
  subst e
  rw [sU ea eb]
  exact Int.mul_ne_zero (ha la ea) (hb lb eb)
theorem yD {a b acc:List Int} {j k:Nat} (hj:j<a.length) (hk:k<b.length) (hl:j+k<acc.length)
 (h:∀ n,n<acc.length->cf acc n=sm a b n j+(if j<=n/\n-j<k then tm a b n j else 0)) :
 ∀ n,n<(acc.set (j+k) (cf acc (j+k)+cf a j*cf b k)).length->cf (acc.set (j+k) (cf acc (j+k)+cf a j*cf b k)) n=sm a b n j+(if j<=n/\n-j<k+1 then tm a b n j else 0):=by
 intro n hn
 rw [List.length_set] at hn
 rw [nQ hl]
 by_cases e:n=j+k
 ·subst e
  rw [if_pos rfl,h _ hl,if_neg (by omega),if_pos ⟨by omega,by omega⟩]
  unfold tm
  rw [if_pos (by omega),Nat.add_sub_cancel_left,Int.add_zero]
 ·rw [if_neg e,h n hn]
  congr 1
  by_cases h1:j<=n/\n-j<k
  ·rw [if_pos h1,if_pos ⟨h1.1,by omega⟩]
  ·rw [if_neg h1,if_neg (by omega)]
theorem yF {a b acc:List Int} {j:Nat} (h:∀ n,n<acc.length->cf acc n=sm a b n j+(if j<=n/\n-j<b.length then tm a b n j else 0)):∀ n,n<acc.length->cf acc n=sm a b n (j+1):=by
 intro n hn
 rw [h n hn,sm]
 congr 1
 by_cases h1:j<=n/\n-j<b.length
 ·rw [if_pos h1]
 ·rw [if_neg h1]
  by_cases h2:j<=n
  ·rw [oA (by omega)]
  ·unfold tm;rw [if_neg h2]
theorem yE {a b acc:List Int} {j:Nat} (h:∀ n,n<acc.length->cf acc n=sm a b n j):∀ n,n<acc.length->cf acc n=sm a b n j+(if j<=n/\n-j<0 then tm a b n j else 0):=by
 intro n hn
 rw [if_neg (by omega),Int.add_zero];exact h n hn
theorem yG {a b acc:List Int} (hl:a.length+b.length<=acc.length+1) (h:∀ n,n<acc.length->cf acc n=sm a b n a.length) (n:Nat):cf acc n=aw a b n:=by
 by_cases hn:n<acc.length
 ·exact h n hn
 ·rw [cC (Nat.le_of_not_lt hn),yC (by omega)]
end RM
namespace RM
theorem KH (a b:List Int):trim ((List.range (max a.length b.length)).map fun k=>cf a k+cf b k)=gn a b:=by
 unfold gn dM
 congr 2;funext k;rw [Int.one_mul]
theorem BJ (a b:List Int):trim ((List.range (max a.length b.length)).map fun k=>cf a k-cf b k)=cF a b:=by
 unfold cF dM
 congr 2;funext k;omega
end RM
namespace RM
def dv (t b:Int):Int:=if b<0 then -((Nat.gcd t.natAbs b.natAbs:Nat):Int) else ((Nat.gcd t.natAbs b.natAbs:Nat):Int)
def rt (t b:Int):Int:=t.fdiv (dv t b)
def rb (t b:Int):Int:=b.fdiv (dv t b)
theorem lK {t b:Int} (hb:b≠0):0<Nat.gcd t.natAbs b.natAbs:=Nat.gcd_pos_of_pos_right _ (Int.natAbs_pos.mpr hb)
theorem qi {t b:Int} (hb:b≠0):dv t b≠0:=by
 have:=@lK t b hb
 unfold dv;split<;>omega
theorem iY (t b:Int):(dv t b).natAbs=Nat.gcd t.natAbs b.natAbs:=by unfold dv;split<;>omega
theorem JD (t b:Int):dv t b∣t:=Int.natAbs_dvd_natAbs.mp (by rw [iY];exact Nat.gcd_dvd_left _ _)
theorem JC (t b:Int):dv t b∣b:=Int.natAbs_dvd_natAbs.mp (by rw [iY];exact Nat.gcd_dvd_right _ _)
theorem zF {a d:Int} (hd:d≠0) (h:d∣a):d*a.fdiv d=a:=by
 obtain ⟨c,rfl⟩:=h
 rw [Int.mul_fdiv_cancel_left c hd]
theorem kW {t b:Int} (hb:b≠0):dv t b*rt t b=t:=zF (qi hb) (JD t b)
theorem ia {t b:Int} (hb:b≠0):dv t b*rb t b=b:=zF (qi hb) (JC t b)
theorem dB {t b:Int} (hb:b≠0):0<rb t b:=by
 have h1:=@ia t b hb
 have h2:=@lK t b hb
 by_cases hn:b<0
 ·have hd:dv t b<0:=by unfold dv;rw [if_pos hn];omega
  apply Classical.byContradiction
  intro h
  have:0<=dv t b*rb t b:=Int.mul_nonneg_of_nonpos_of_nonpos (Int.le_of_lt hd) (by omega)
  omega
 ·have hd:0<dv t b:=by unfold dv;rw [if_neg hn];omega
  apply Classical.byContradiction
  intro h
  have:dv t b*rb t b<=0:=Int.mul_nonpos_of_nonneg_of_nonpos (Int.le_of_lt hd) (by omega)
  omega
theorem mN {t b:Int} (hb:b≠0):Nat.gcd (rt t b).natAbs (rb t b).natAbs=1:=by
 have h1:t.natAbs=Nat.gcd t.natAbs b.natAbs*(rt t b).natAbs:=by
  rw [<- iY,<- Int.natAbs_mul,kW hb]
 have h2:b.natAbs=Nat.gcd t.natAbs b.natAbs*(rb t b).natAbs:=by
  rw [<- iY,<- Int.natAbs_mul,ia hb]
 have hp:=@lK t b hb
 have e:Nat.gcd t.natAbs b.natAbs=Nat.gcd t.natAbs b.natAbs*Nat.gcd (rt t b).natAbs (rb t b).natAbs:=by
  rw [<- Nat.gcd_mul_left,<- h1,<- h2]
 exact (Nat.eq_of_mul_eq_mul_left hp (by rw [Nat.mul_one];exact e)).symm
theorem fe {t b:Int} (hb:b≠0):rt t b*b=t*rb t b:=by
 have e1:=@kW t b hb
 have e2:=@ia t b hb
 calc rt t b*b=rt t b*(dv t b*rb t b):=by rw [e2]
  _=(dv t b*rt t b)*rb t b:=by rw [<- Int.mul_assoc,Int.mul_comm (rt t b)]
  _=t*rb t b:=by rw [e1]
theorem CO {t b:Int} (hb:b≠0):(rt t b).natAbs<=t.natAbs:=by
 have h1:t.natAbs=Nat.gcd t.natAbs b.natAbs*(rt t b).natAbs:=by rw [<- iY,<- Int.natAbs_mul,kW hb]
 rw [h1];exact Nat.le_mul_of_pos_left _ (lK hb)
theorem Db {t b:Int} (hb:b≠0):(rb t b).natAbs<=b.natAbs:=by
 have h1:b.natAbs=Nat.gcd t.natAbs b.natAbs*(rb t b).natAbs:=by rw [<- iY,<- Int.natAbs_mul,ia hb]
 rw [h1];exact Nat.le_mul_of_pos_left _ (lK hb)
def sg (x:Int):Int:=if x<0 then -1 else if 0<x then 1 else 0
theorem Cb (x:Int):sg (-x) = -sg x:=by unfold sg;split<;>split<;>(try split)<;>(try split)<;>omega
theorem rX {x p:Int} (hp:0<p):sg (x*p)=sg x:=by
 unfold sg
 by_cases h1:x<0
 ·rw [if_pos h1,if_pos (Int.mul_neg_of_neg_of_pos h1 hp)]
 ·by_cases h2:0<x
  ·have:=Int.mul_pos h2 hp
   rw [if_neg h1,if_pos h2,if_neg (by omega),if_pos this]
  ·obtain rfl:x=0:=by omega
   simp
end RM
namespace RM
def hv (t b:Int):List Int->Int
 | []=>0
 | v::l=>v*b^(l.length+1)+t*hv t b l
theorem qa (t b:Int):hv t b []=0:=rfl
theorem dD (t b v:Int) (l:List Int):hv t b (v::l)=v*b^(l.length+1)+t*hv t b l:=rfl
def mb (a b:Int):Int->List Int->List Int
 | c,[]=>[c]
 | c,x::l=>(-a*x+c)::mb a b (b*x) l
theorem pH (a b:Int):∀ (c:Int) (l:List Int),(mb a b c l).length=l.length+1
 | c,[]=>rfl
 | c,x::l=>by show (mb a b (b*x) l).length+1=_;rw [pH];rfl
theorem ja (a b:Int):∀ (c:Int) (l:List Int) (k:Nat),cf (mb a b c l) k = -a*cf l k+(if k=0 then c else b*cf l (k-1))
 | c,[],0=>by show c=_;rw [cz];simp
 | c,[],k+1=>by show cf [] k=_;rw [cz,cz];simp [cz]
 | c,x::l,0=>rfl
 | c,x::l,k+1=>by
   show cf (mb a b (b*x) l) k=_
   rw [ja a b (b*x) l k,qo,if_neg (Nat.succ_ne_zero k)]
   cases k with
   | zero=>rfl
   | succ k=>rw [if_neg (Nat.succ_ne_zero k)];rfl
theorem zq (t u a b:Int):∀ (c:Int) (l:List Int),hv t u (mb a b c l)=c*u^(l.length+1)+(b*t-a*u)*hv t u l
 | c,[]=>by show c*u^1+t*0=c*u^1+(b*t-a*u)*0;simp
 | c,x::l=>by
   show (-a*x+c)*u^((mb a b (b*x) l).length+1)+t*hv t u (mb a b (b*x) l)=c*u^(l.length+1+1)+(b*t-a*u)*(x*u^(l.length+1)+t*hv t u l)
   rw [zq t u a b (b*x) l,pH]
   generalize hv t u l=h
   rw [Int.pow_succ u (l.length+1)]
   generalize u^(l.length+1)=p
   grind
theorem va (x y:Int) (k:Nat):cf [x,y] k=if k=0 then x else if k=1 then y else 0:=by
 rcases k with _ | _ | k
 ·rfl
 ·rfl
 ·rw [if_neg (by omega),if_neg (by omega)];exact cC (by simp)
theorem wW (l:List Int) (x y:Int) (n:Nat):∀ j,sm l [x,y] n j=(if n<j then cf l n*x else 0)+(if 1<=n/\n-1<j then cf l (n-1)*y else 0)
 | 0=>by rw [if_neg (by omega),if_neg (by omega)];rfl
 | j+1=>by
   show sm l [x,y] n j+tm l [x,y] n j=_
   rw [wW l x y n j]
   unfold tm
   rw [va]
   grind
theorem Fp {a b:Int} {l:List Int} (h:l≠[]):ad l [-a,b]=mb a b 0 l:=by
 apply dP
 ·rw [pH];unfold ad;rw [if_neg (by simp [h]),List.length_map,List.length_range];simp
 ·intro k _
  rw [aP,ja]
  unfold aw
  rw [wW]
  have e1:(if k<l.length then cf l k * -a else 0) = -a*cf l k:=by
   by_cases hk:k<l.length
   ·rw [if_pos hk,Int.mul_comm]
   ·rw [if_neg hk,cC (Nat.le_of_not_lt hk),Int.mul_zero]
  have e2:(if 1<=k/\k-1<l.length then cf l (k-1)*b else 0)=if k=0 then 0 else b*cf l (k-1):=by
   by_cases h0:k=0
   ·rw [if_neg (by omega),if_pos h0]
   ·rw [if_neg h0]
    by_cases hk:k-1<l.length
    ·rw [if_pos (by omega),Int.mul_comm]
    ·rw [if_neg (by omega),cC (Nat.le_of_not_lt hk),Int.mul_zero]
  rw [e1,e2]
theorem pZ (g t b:Int):∀ l:List Int,hv (g*t) (g*b) l=g^l.length*hv t b l
 | []=>by simp [qa]
 | v::l=>by
   rw [dD,dD,pZ g t b l,Int.mul_pow]
   show v*(g^(l.length+1)*b^(l.length+1))+g*t*(g^l.length*hv t b l)=g^(l.length+1)*(v*b^(l.length+1)+t*hv t b l)
   rw [Int.pow_succ g l.length]
   generalize b^(l.length+1)=p
   generalize g^l.length=q
   generalize hv t b l=h
   grind
theorem Dz {g:Int} (h:0<g) (n:Nat):0<g^n:=by
 induction n with
 | zero=>simp
 | succ n ih=>rw [Int.pow_succ];exact Int.mul_pos ih h
def At (l:List Int) (t b top bot:Int):Prop:=hv t b l*bot=top*b^l.length
theorem At.sign {l:List Int} {t b top bot:Int} (hb:0<b) (hbot:0<bot) (h:At l t b top bot):sg (hv t b l)=sg top:=by
 unfold At at h
 rw [<- rX (x:=hv t b l) hbot,h,rX (Dz hb _)]
theorem nu (t u c:Int):hv t u [c]=c*u:=by
 show c*u^1+t*0=c*u
 grind
theorem JE (t b:Int) {l:List Int} {n:Nat} (h:n<l.length):hv t b (l.drop n)=cf l n*b^(l.length-n)+t*hv t b (l.drop (n+1)):=by
 rw [List.drop_eq_getElem_cons h,dD,List.length_drop,dQ h]
 have e:l.length-(n+1)+1=l.length-n:=by omega
 rw [e]
end RM
namespace RM
def chF (z:Int×Int) (s:Int):Int×Int:=(if s*z.2<0 then z.1+1 else z.1,if s=0 then z.2 else s)
def chS (l:List Int):Int×Int:=l.foldl chF (0,0)
theorem Ak (l:List Int) (s:Int):chS (l++[s])=chF (chS l) s:=by unfold chS;rw [List.foldl_append];rfl
theorem rW (x:Int):sg x=0↔x=0:=by unfold sg;split<;>(try split)<;>omega
theorem Am:∀ (n:Nat) (l:List Int),l.length=n->(∀ s∈l,s.natAbs<=1)->(chS l).2.natAbs<=1/\0<=(chS l).1/\(chS l).1<=l.length
 | n,l,hn,h=>by
   rcases cP l with rfl | ⟨r,s,rfl⟩
   ·decide
   ·have hr:r.length+1=n:=by rw [<- hn,List.length_append];rfl
    obtain ⟨i1,i2,i3⟩:=Am (n-1) r (by omega) (fun x hx=>h x (List.mem_append_left _ hx))
    have hs:=h s (by simp)
    rw [Ak]
    unfold chF
    refine ⟨?_,?_,?_⟩
    ·dsimp only;split
     ·exact i1
     ·exact hs
    ·dsimp only;split<;>omega
    ·dsimp only;rw [List.length_append];show _<=((r.length+1:Nat):Int);split<;>omega
termination_by n=>n
theorem JS (l:List Int) (h:∀ s∈l,s.natAbs<=1):(chS l).2.natAbs<=1/\0<=(chS l).1/\(chS l).1<=l.length:=Am _ l rfl h
theorem xu (x:Int):(sg x).natAbs<=1:=by unfold sg;split<;>(try split)<;>decide
end RM
namespace RM
theorem wZ {q q' b:List Int} {c l:Int} {p n:Nat} (h:∀ k,cf q' k=c*cf q k+(if k=p then l else 0)) :
 ∀ j,sm q' b n j=c*sm q b n j+(if p<j/\p<=n then l*cf b (n-p) else 0)
 | 0=>by rw [sm,sm,if_neg (by omega)];simp
 | j+1=>by
   rw [sm,sm,wZ h j]
   unfold tm
   by_cases hj:j<=n
   ·rw [if_pos hj,if_pos hj,h j]
    by_cases e:j=p
    ·subst e
     rw [if_pos rfl,if_neg (by omega),if_pos ⟨by omega,hj⟩];grind
    ·rw [if_neg e]
     by_cases h2:p<j/\p<=n
     ·rw [if_pos h2,if_pos ⟨by omega,h2.2⟩];grind
     ·rw [if_neg h2,if_neg (by omega)];grind
   ·rw [if_neg hj,if_neg hj]
    by_cases h2:p<j/\p<=n
    ·rw [if_pos h2,if_pos ⟨by omega,h2.2⟩];grind
    ·rw [if_neg h2,if_neg (by omega)];grind
theorem Fo {q q' b:List Int} {c l:Int} {p n:Nat} (hl:q'.length=q.length) (hp:p<q.length) (h:∀ k,cf q' k=c*cf q k+(if k=p then l else 0)) :
 aw q' b n=c*aw q b n+(if p<=n then l*cf b (n-p) else 0):=by
 unfold aw
 rw [hl,wZ h]
 by_cases h2:p<=n
 ·rw [if_pos h2,if_pos ⟨hp,h2⟩]
 ·rw [if_neg h2,if_neg (by omega)]
def scL (c:Int) (l:List Int):List Int:=l.map fun x=>c*x
theorem ck (c:Int) (l:List Int):(scL c l).length=l.length:=by unfold scL;rw [List.length_map]
theorem bJ (c:Int) (l:List Int) (k:Nat):cf (scL c l) k=c*cf l k:=by
 by_cases h:k<l.length
 ·unfold cf scL;simp [h]
 ·rw [cC (by rw [ck];omega),cC (by omega)];simp
def iy (r b:List Int) (p:Nat) (l:Int):List Int:=(List.range (r.length-1)).map fun k=>cf r k-(if p<=k then l*cf b (k-p) else 0)
theorem yX (r b:List Int) (p:Nat) (l:Int):(iy r b p l).length=r.length-1:=by unfold iy;simp
theorem qq (r b:List Int) (p:Nat) (l:Int) (k:Nat):cf (iy r b p l) k=if k<r.length-1 then cf r k-(if p<=k then l*cf b (k-p) else 0) else 0:=by
 unfold iy;rw [nU]
theorem B8 (x:Int):sg x*x=(x.natAbs:Int):=by unfold sg;split<;>(try split)<;>omega
def cS (b:List Int) (z:List Int×List Int) (i:Nat):List Int×List Int :=
 let s:Int:=((cf b (b.length-1)).natAbs:Int)
 let l:=sg (cf b (b.length-1))*cf z.2 (z.2.length-1)
 ((scL s z.1).set i l,iy (scL s z.2) b i l)
def aU (a b:List Int):Nat->List Int×List Int
 | 0=>(List.replicate (a.length+1-b.length) 0,a)
 | i+1=>cS b (aU a b i) (a.length+1-b.length-1-i)
structure DivInv (a b:List Int) (i:Nat):Prop where
 lq:(aU a b i).1.length=a.length+1-b.length
 lr:(aU a b i).2.length=a.length-i
 low:∀ k,k+i<a.length+1-b.length->cf (aU a b i).1 k=0
 eqn:∀ n,((cf b (b.length-1)).natAbs:Int)^i*cf a n=aw (aU a b i).1 b n+cf (aU a b i).2 n
theorem sT {a b:List Int} {n:Nat} (h:∀ k,cf a k=0):aw a b n=0:=by
 apply mF;intro i _;unfold tm;rw [h i];simp
theorem iZ {a b:List Int} (hb:b≠[]):∀ i,i<=a.length+1-b.length->DivInv a b i
 | 0,_=>⟨by simp [aU],by simp [aU],fun k _=>by show cf (List.replicate _ 0) k=0;rw [nS],fun n=>by
  show _=aw (List.replicate _ 0) b n+cf a n
  rw [sT fun k=>nS _ _];simp⟩
 | i+1,hi=>by
   obtain ⟨lq,lr,low,eqn⟩:=iZ (a:=a) hb i (by omega)
   have hbl:=List.length_pos_iff.mpr hb
   have e:aU a b (i+1)=cS b (aU a b i) (a.length+1-b.length-1-i):=rfl
   generalize hz:aU a b i=z at lq lr low eqn
   have hp:a.length+1-b.length-1-i<(scL ((cf b (b.length-1)).natAbs:Int) z.1).length:=by rw [ck,lq];omega
   have hq:∀ k,cf (cS b z (a.length+1-b.length-1-i)).1 k=((cf b (b.length-1)).natAbs:Int)*cf z.1 k+(if k=a.length+1-b.length-1-i then sg (cf b (b.length-1))*cf z.2 (z.2.length-1) else 0):=by
    intro k
    unfold cS
    dsimp only
    rw [nQ hp,bJ]
    by_cases h:k=a.length+1-b.length-1-i
    ·rw [if_pos h,if_pos h,low k (by omega)];simp
    ·rw [if_neg h,if_neg h];simp
   have hlq:(cS b z (a.length+1-b.length-1-i)).1.length=a.length+1-b.length:=by
    unfold cS;dsimp only;rw [List.length_set,ck,lq]
   refine ⟨?_,?_,?_,?_⟩
   ·rw [e,hz,hlq]
   ·rw [e,hz];unfold cS;dsimp only;rw [yX,ck,lr];omega
   ·intro k hk
    rw [e,hz,hq,if_neg (by omega),low k (by omega)];simp
   ·intro n
    rw [e,hz,Fo (by rw [hlq,lq]) (by rw [lq];omega) hq,Int.pow_succ]
    have en:=eqn n
    unfold cS
    dsimp only
    rw [qq,ck,bJ,lr]
    by_cases h1:n<a.length-i-1
    ·rw [if_pos h1]
     by_cases h2:a.length+1-b.length-1-i<=n
     ·rw [if_pos h2];grind
     ·rw [if_neg h2];grind
    ·rw [if_neg h1]
     by_cases h3:n=a.length-i-1
     ·have h2:a.length+1-b.length-1-i<=n:=by omega
      have h4:n-(a.length+1-b.length-1-i)=b.length-1:=by omega
      rw [if_pos h2,h4]
      have sg:=B8 (cf b (b.length-1))
      rw [<- h3]
      grind
     ·have h2:a.length+1-b.length-1-i<=n:=by omega
      have hc:cf z.2 n=0:=cC (by rw [lr];omega)
      rw [if_pos h2,cC (l:=b) (k:=n-(a.length+1-b.length-1-i)) (by omega)]
      grind
theorem zR {a b:List Int} (hb:b≠[]) (ha:Tr a) (hbt:Tr b):∀ i,i+1<=a.length+1-b.length->cf (aU a b (i+1)).1 (a.length+1-b.length-1)≠0
 | 0,h=>by
   obtain ⟨lq,lr,_,_⟩:=iZ (a:=a) hb 0 (by omega)
   have hbl:=List.length_pos_iff.mpr hb
   show cf (cS b (aU a b 0) _).1 _≠0
   unfold cS
   dsimp only
   rw [nQ (by rw [ck,lq];omega),if_pos (by omega)]
   have hb1:=hbt (b.length-1) (by omega)
   have ha1:=ha (a.length-1) (by omega)
   refine Int.mul_ne_zero ?_ ?_
   ·unfold sg;split<;>(try split)<;>omega
   ·rw [lr];exact ha1
 | i+1,h=>by
   have ih:=zR hb ha hbt i (by omega)
   obtain ⟨lq,lr,_,_⟩:=iZ (a:=a) hb (i+1) (by omega)
   have hbl:=List.length_pos_iff.mpr hb
   show cf (cS b (aU a b (i+1)) _).1 _≠0
   unfold cS
   dsimp only
   rw [nQ (by rw [ck,lq];omega),if_neg (by omega),bJ]
   have hb1:=hbt (b.length-1) (by omega)
   refine Int.mul_ne_zero ?_ ih
   omega
def bj (a b:List Int):Nat:=a.length+1-b.length
def cq (a b:List Int):Int:=((cf b (b.length-1)).natAbs:Int)^bj a b
def ci (a b:List Int):List Int:=(aU a b (bj a b)).1
def aR (a b:List Int):List Int:=trim (aU a b (bj a b)).2
theorem gM {a b:List Int} (hb:b≠[]) (n:Nat):cq a b*cf a n=aw (ci a b) b n+cf (aR a b) n:=by
 unfold aR ci cq;rw [gj];exact (iZ hb (bj a b) (Nat.le_refl _)).eqn n
theorem gf {a b:List Int} (hb:b≠[]):(aR a b).length<b.length:=by
 have h:=(iZ (a:=a) hb (bj a b) (Nat.le_refl _)).lr
 have h2:=tz (aU a b (bj a b)).2
 have hbl:=List.length_pos_iff.mpr hb
 unfold aR
 unfold bj at *
 omega
theorem uU {a b:List Int} (hb:b≠[]):(ci a b).length=bj a b:=(iZ (a:=a) hb (bj a b) (Nat.le_refl _)).lq
theorem uS {a b:List Int} (hb:b≠[]) (ha:Tr a) (hbt:Tr b):Tr (ci a b):=by
 intro n hn
 rw [uU hb] at hn
 have h:=zR hb ha hbt n (by unfold bj at hn;omega)
 unfold ci
 rw [hn]
 have:a.length+1-b.length-1=n:=by unfold bj at hn;omega
 rwa [this] at h
theorem fy (a b:List Int):Tr (aR a b):=eQ _
end RM
namespace RM
theorem w9 {a a' b b':List Int} {n:Nat} (h1:∀ k,cf a k=cf a' k) (h2:∀ k,cf b k=cf b' k):∀ j,sm a b n j=sm a' b' n j
 | 0=>rfl
 | j+1=>by rw [sm,sm,w9 h1 h2 j];unfold tm;rw [h1 j,h2 (n-j)]
theorem w5 {a b:List Int} {n:Nat}:∀ d,sm a b n (a.length+d)=aw a b n
 | 0=>rfl
 | d+1=>by rw [<- Nat.add_assoc,sm,w5 d,Bu (by omega)];omega
theorem mG {a b:List Int} {n N:Nat} (h:a.length<=N):sm a b n N=aw a b n:=by
 obtain ⟨d,rfl⟩:=Nat.exists_eq_add_of_le h
 exact w5 d
theorem pE {a a' b b':List Int} {n:Nat} (h1:∀ k,cf a k=cf a' k) (h2:∀ k,cf b k=cf b' k):aw a b n=aw a' b' n:=by
 rw [<- mG (Nat.le_max_left a.length a'.length),<- mG (Nat.le_max_right a.length a'.length)]
 exact w9 h1 h2 _
theorem wY {a b c q:List Int} {x y:Int} {n:Nat} (h:∀ k,cf c k=x*cf a k+y*cf b k):∀ j,sm c q n j=x*sm a q n j+y*sm b q n j
 | 0=>by simp [sm]
 | j+1=>by
   rw [sm,sm,sm,wY h j];unfold tm;rw [h j]
   by_cases hj:j<=n
   ·rw [if_pos hj,if_pos hj,if_pos hj];grind
   ·rw [if_neg hj,if_neg hj,if_neg hj];grind
theorem d7 {a b c q:List Int} {x y:Int} {n:Nat} (h:∀ k,cf c k=x*cf a k+y*cf b k):aw c q n=x*aw a q n+y*aw b q n:=by
 have h1:a.length<=a.length+b.length+c.length:=by omega
 have h2:b.length<=a.length+b.length+c.length:=by omega
 have h3:c.length<=a.length+b.length+c.length:=by omega
 rw [<- mG h1,<- mG h2,<- mG h3]
 exact wY h _
theorem wX {a b b':List Int} {c:Int} {n:Nat} (h:∀ k,cf b' k=c*cf b k):∀ j,sm a b' n j=c*sm a b n j
 | 0=>by simp [sm]
 | j+1=>by
   rw [sm,sm,wX h j];unfold tm;rw [h (n-j)]
   by_cases hj:j<=n
   ·rw [if_pos hj,if_pos hj];grind
   ·rw [if_neg hj,if_neg hj];grind
theorem mV {a b b':List Int} {c:Int} {n:Nat} (h:∀ k,cf b' k=c*cf b k):aw a b' n=c*aw a b n:=wX h _
theorem fi (c:Int) (l:List Int) (n:Nat):aw [c] l n=c*cf l n:=by
 unfold aw
 show sm [c] l n 0+tm [c] l n 0=_
 unfold sm tm
 rw [if_pos (Nat.zero_le _),Ao,Nat.sub_zero,Int.zero_add]
theorem sR {l:List Int} (ht:Tr l) (h:∀ k,cf l k=0):l=[]:=by
 refine Classical.byContradiction fun hne=>?_
 have hl:=List.length_pos_iff.mpr hne
 exact ht (l.length-1) (by omega) (h _)
theorem yy {d q:List Int} (hq:q≠[]) (hqt:Tr q) (h:∀ n,q.length<=n+1->aw d q n=0):∀ k,cf d k=0:=by
 have e:trim d=[]:=by
  refine Classical.byContradiction fun hne=>?_
  have hl:=List.length_pos_iff.mpr hne
  have hql:=List.length_pos_iff.mpr hq
  have ht:=eQ d ((trim d).length-1) (by omega)
  have hb:=hqt (q.length-1) (by omega)
  have h1:=h ((trim d).length-1+(q.length-1)) (by omega)
  rw [<- pE (a:=trim d) (b:=q) (fun k=>gj d k) (fun _=>rfl),sU (la:=(trim d).length-1) (lb:=q.length-1) (by omega) (by omega)] at h1
  exact Int.mul_ne_zero ht hb h1
 intro k
 rw [<- gj,e,cz]
theorem nN {a b:List Int} (hb:b≠[]) (hbt:Tr b):cq a b≠0:=by
 have hbl:=List.length_pos_iff.mpr hb
 have h:=hbt (b.length-1) (by omega)
 have h1:((cf b (b.length-1)).natAbs:Int)≠0:=by omega
 unfold cq
 generalize bj a b=n
 induction n with
 | zero=>rw [Int.pow_zero];decide
 | succ n ih=>rw [Int.pow_succ];exact Int.mul_ne_zero ih h1
end RM
namespace RM
def d8 (d:Nat) (l:List Int):Nat:=l.foldl (fun d v=>Nat.gcd d v.natAbs) d
def aA (l:List Int):Nat:=d8 0 l
theorem qd (d:Nat):d8 d []=d:=rfl
theorem gK (d:Nat) (v:Int) (l:List Int):d8 d (v::l)=d8 (Nat.gcd d v.natAbs) l:=rfl
theorem HH (d:Nat) (l:List Int) (v:Int):d8 d (l++[v])=Nat.gcd (d8 d l) v.natAbs:=by
 unfold d8;rw [List.foldl_append];rfl
theorem zv (l:List Int) (v:Int):aA (l++[v])=Nat.gcd (aA l) v.natAbs:=HH 0 l v
theorem zM {m:Nat}:∀ {l:List Int} {d:Nat},m∣d8 d l↔m∣d/\∀ v∈l,m∣v.natAbs
 | [],d=>by simp [qd]
 | v::l,d=>by
   rw [gK,zM,Nat.dvd_gcd_iff]
   simp only [List.mem_cons,forall_eq_or_imp]
   exact ⟨fun ⟨⟨a,b⟩,c⟩=>⟨a,b,c⟩,fun ⟨a,b,c⟩=>⟨⟨a,b⟩,c⟩⟩
theorem dvd_gcdL {m:Nat} {l:List Int}:m∣aA l↔∀ v∈l,m∣v.natAbs:=by
 unfold aA;rw [zM];exact ⟨fun h=>h.2,fun h=>⟨Nat.dvd_zero m,h⟩⟩
theorem qc {l:List Int} {v:Int} (h:v∈l):aA l∣v.natAbs:=dvd_gcdL.mp (Nat.dvd_refl _) v h
theorem HF (v:Int):aA [v]=v.natAbs:=by
 show Nat.gcd 0 v.natAbs=_;exact Nat.gcd_zero_left _
theorem zu {a b:Int} (ha:0<=a) (hb:0<b):Nat.gcd b.natAbs (a%b).natAbs=Nat.gcd a.natAbs b.natAbs:=by
 have e:(a%b).natAbs=a.natAbs%b.natAbs:=by
  obtain ⟨x,rfl⟩:=Int.eq_ofNat_of_zero_le ha
  obtain ⟨y,rfl⟩:=Int.eq_ofNat_of_zero_le (Int.le_of_lt hb)
  rfl
 rw [e,Nat.gcd_comm,<- Nat.gcd_rec,Nat.gcd_comm]
end RM
namespace RM
def ar (l:List Int):List Int:=l.map fun x=>x/(aA l:Int)
def al (l:List Int):Int:=cf l (l.length-1)
theorem dz (r:List Int) (x:Int):al (r++[x])=x:=by
 unfold al;rw [List.length_append];exact lT r x
def cH (l:List Int):List Int:=if al l<0 then l.map fun x => -x else l
def aB (l:List Int):List Int:=cH (ar l)
theorem wm {c:Int->Int} (h0:∀ x,c x=0↔x=0):∀ (n:Nat) (l:List Int),l.length=n->trim (l.map c)=(trim l).map c
 | 0,l,h=>by rw [List.length_eq_zero_iff.mp h];rfl
 | n+1,l,h=>by
   rcases cP l with rfl | ⟨r,x,rfl⟩
   ·rfl
   ·rw [List.map_append]
    show trim (r.map c++[c x])=_
    by_cases hx:x=0
    ·subst hx
     rw [(h0 0).mpr rfl,oy,oy]
     exact wm h0 n r (by simpa using h)
    ·rw [mr r hx,mr _ (fun z=>hx ((h0 x).mp z)),List.map_append];rfl
def mi (l:List Int):Prop:=l=[]\/aA l=1
theorem B3 {l:List Int} (h:mi l):ar l=l:=by
 rcases h with rfl | h
 ·rfl
 ·unfold ar;rw [h]
  conv=>rhs;rw [<- List.map_id l]
  apply List.map_congr_left
  intro x _
  show x/1=x
  exact Int.ediv_one x
theorem HG {l:List Int} {s:Int} (hs:s=1\/s = -1):aA (l.map fun x=>x*s)=aA l:=by
 have key:∀ m:Nat,m∣aA (l.map fun x=>x*s)↔m∣aA l:=by
  intro m
  rw [dvd_gcdL,dvd_gcdL]
  have e:∀ x:Int,(x*s).natAbs=x.natAbs:=fun x=>by
   rcases hs with rfl | rfl
   ·rw [Int.mul_one]
   ·rw [Int.mul_neg,Int.mul_one,Int.natAbs_neg]
  constructor
  ·intro h v hv
   have:=h (v*s) (List.mem_map.mpr ⟨v,hv,rfl⟩)
   rwa [e] at this
  ·intro h v hv
   obtain ⟨u,hu,rfl⟩:=List.mem_map.mp hv
   rw [e];exact h u hu
 exact Nat.dvd_antisymm ((key _).mp (Nat.dvd_refl _)) ((key _).mpr (Nat.dvd_refl _))
theorem Dx {l:List Int} (h:mi l):mi (l.map fun x => -x):=by
 rcases h with rfl | h
 ·exact .inl rfl
 ·right
  have e:(l.map fun x => -x)=l.map fun x=>x*(-1):=by
   apply List.map_congr_left;intro x _;omega
  rw [e,HG (.inr rfl),h]
theorem y4 (l:List Int):al (l.map fun x => -x) = -al l:=by
 rcases cP l with rfl | ⟨r,x,rfl⟩
 ·rfl
 ·rw [List.map_append]
  show al (r.map _++[-x])=_
  rw [dz,dz]
theorem Dw {l:List Int} (h:mi l):mi (cH l):=by
 unfold cH;split
 ·exact Dx h
 ·exact h
theorem Br {c:Int->Int} (h0:∀ x,c x=0↔x=0) {l:List Int} (h:Tr l):Tr (l.map c):=by
 rw [<- Bm h,<- wm h0 _ l rfl];exact eQ _
theorem Bo {l:List Int} (h:Tr l):Tr (cH l):=by
 unfold cH;split
 ·exact Br (fun x=>by omega) h
 ·exact h
end RM
namespace RM
theorem zw (c:Int):∀ (l:List Int) (d:Nat),d8 (c.natAbs*d) (scL c l)=c.natAbs*d8 d l
 | [],d=>rfl
 | v::l,d=>by
   show d8 (Nat.gcd (c.natAbs*d) (c*v).natAbs) (scL c l)=c.natAbs*d8 (Nat.gcd d v.natAbs) l
   rw [Int.natAbs_mul,Nat.gcd_mul_left,zw c l]
theorem tV (c:Int) (l:List Int):aA (scL c l)=c.natAbs*aA l:=by
 have h:=zw c l 0
 rw [Nat.mul_zero] at h
 exact h
theorem iF {l:List Int} {x:Int} (h:x∈l):(aA l:Int)∣x:=Int.ofNat_dvd_left.mpr (qc h)
theorem BZ {c:Int} (hc:0<c) (l:List Int):ar (scL c l)=ar l:=by
 unfold ar
 rw [tV]
 unfold scL
 rw [List.map_map]
 refine List.map_congr_left fun x _=>?_
 show c*x/((c.natAbs*aA l:Nat):Int)=x/(aA l:Int)
 have e:((c.natAbs*aA l:Nat):Int)=c*(aA l:Int):=by rw [Int.natCast_mul];congr 1;omega
 rw [e,Int.mul_ediv_mul_of_pos _ _ hc]
theorem B2 {c:Int} (hc:c<0) (l:List Int):ar (scL c l)=(ar l).map fun x => -x:=by
 unfold ar
 rw [tV]
 unfold scL
 rw [List.map_map,List.map_map]
 refine List.map_congr_left fun x hx=>?_
 show c*x/((c.natAbs*aA l:Nat):Int) = -(x/(aA l:Int))
 have e:((c.natAbs*aA l:Nat):Int)=(-c)*(aA l:Int):=by rw [Int.natCast_mul];congr 1;omega
 have e2:c*x=(-c)*(-x):=by rw [Int.neg_mul_neg]
 rw [e,e2,Int.mul_ediv_mul_of_pos _ _ (by omega:0 < -c),Int.neg_ediv_of_dvd (iF hx)]
theorem DB {m:List Int} (h:Tr m):cH (m.map fun x => -x)=cH m:=by
 rcases cP m with rfl | ⟨r,x,rfl⟩
 ·rfl
 have hx:x≠0:=tr_snoc.mp h
 have h1:=y4 (r++[x])
 rw [dz] at h1
 unfold cH
 rw [h1,dz]
 by_cases hn:x<0
 ·rw [if_neg (by omega),if_pos hn]
 ·rw [if_pos (by omega),if_neg hn,List.map_map]
  rw [show ((fun x:Int => -x) ∘ fun x:Int => -x)=id from by funext y;simp]
  exact List.map_id _
theorem fH {l:List Int} (h:Tr l):Tr (ar l):=by
 intro n hn
 have hl:l.length=n+1:=by rw [<- hn];unfold ar;rw [List.length_map]
 have hx:=h n hl
 have hm:cf l n∈l:=by rw [dQ (by omega)];exact List.getElem_mem _
 have e:cf (ar l) n=cf l n/(aA l:Int):=by
  have h1:n<l.length:=by omega
  unfold ar cf
  simp [List.getD,h1]
 rw [e]
 intro z
 have d:=iF hm
 have:=Int.mul_ediv_cancel' d
 rw [z,Int.mul_zero] at this
 exact hx this.symm
theorem mU {c:Int} (hc:c≠0) {l:List Int} (h:Tr l):aB (scL c l)=aB l:=by
 unfold aB
 by_cases hp:0<c
 ·rw [BZ hp]
 ·rw [B2 (by omega),DB (fH h)]
theorem mv {c:Int} (hc:c≠0) {l:List Int} (h:Tr l):Tr (scL c l):=by
 intro n hn
 rw [ck] at hn
 rw [bJ]
 exact Int.mul_ne_zero hc (h n hn)
theorem DD {a b:List Int} {x y:Int} (hx:x≠0) (hy:y≠0) (ha:Tr a) (hb:Tr b) (h:∀ k,x*cf a k=y*cf b k):aB a=aB b:=by
 have e:scL x a=scL y b:=nM (mv hx ha) (mv hy hb) fun k=>by rw [bJ,bJ,h k]
 rw [<- mU hx ha,e,mU hy hb]
end RM
namespace RM
def slopeL (l:List Int):List Int:=(List.range (l.length-1)).map fun (k:Nat)=>((k:Int)+1)*cf l (k+1)
def lp (l:List Int) (m i n:Nat):Int:=if n%m=0/\n/m<i then cf l (n/m) else 0
end RM
namespace RM
def rst (one other:List Int):List Int:=if other=[] then [] else aR one other
def nxt (one other:List Int):List Int:=ar (cF [] (rst one other))
def bF:Nat->List Int->List Int->List (List Int)
 | 0,_,_=>[]
 | n+1,one,other=>if one=[] then [] else one::bF n other (nxt one other)
theorem mK (n:Nat) (o:List Int):bF n [] o=[]:=by cases n with | zero=>rfl | succ n=>show (if ([]:List Int)=[] then _ else _)=_;rw [if_pos rfl]
end RM
namespace RM
def up (f:Nat->Int) (n:Nat):Int:=if n=0 then 0 else f (n-1)
theorem w6 (x:Int) (a b:List Int) (n:Nat):∀ j,sm (x::a) b n (j+1)=x*cf b n+(if n=0 then 0 else sm a b (n-1) j)
 | 0=>by
   show 0+tm (x::a) b n 0=_
   unfold tm
   rw [if_pos (Nat.zero_le _)]
   rw [Ao,Nat.sub_zero]
   by_cases h:n=0
   ·rw [if_pos h];omega
   ·rw [if_neg h];show _=_+0;omega
 | j+1=>by
   show sm (x::a) b n (j+1)+tm (x::a) b n (j+1)=_
   rw [w6 x a b n j]
   by_cases h:n=0
   ·rw [if_pos h,if_pos h]
    unfold tm
    rw [if_neg (by omega)];omega
   ·rw [if_neg h,if_neg h]
    show _=_+(sm a b (n-1) j+tm a b (n-1) j)
    have e:tm (x::a) b n (j+1)=tm a b (n-1) j:=by
     unfold tm
     rw [qo]
     by_cases h2:j+1<=n
     ·rw [if_pos h2,if_pos (by omega)]
      congr 2;omega
     ·rw [if_neg h2,if_neg (by omega)]
    rw [e];omega
theorem dI (x:Int) (a b:List Int) (n:Nat):aw (x::a) b n=x*cf b n+up (aw a b) n:=w6 x a b n a.length
theorem d6 (b:List Int) (n:Nat):aw [] b n=0:=rfl
theorem vb (x:Int) (a:List Int) (n:Nat):cf (x::a) n=(if n=0 then x else 0)+up (cf a) n:=by
 cases n with
 | zero=>show x=x+0;omega
 | succ n=>show cf a n=0+cf a n;omega
theorem sW (y:Int) (b:List Int):∀ (a:List Int) (n:Nat),aw a (y::b) n=y*cf a n+up (aw a b) n
 | [],n=>by
   rw [d6,cz]
   unfold up
   split
   ·simp
   ·rw [d6];simp
 | x::a,n=>by
   rw [dI,vb,vb]
   cases n with
   | zero =>
     show x*(y+0)+0=y*(x+0)+0
     simp only [Int.add_zero];exact Int.mul_comm _ _
   | succ n =>
     show x*(0+cf b n)+aw a (y::b) n=y*(0+cf a n)+aw (x::a) b n
     rw [sW y b a n,dI]
     simp only [Int.zero_add]
     omega
theorem sV:∀ (a:List Int) (n:Nat),aw a [] n=0
 | [],n=>rfl
 | x::a,n=>by
   rw [dI,cz]
   unfold up
   split
   ·simp
   ·rw [sV a];simp
theorem fS:∀ (a b:List Int) (n:Nat),aw a b n=aw b a n
 | [],b,n=>by rw [sV];rfl
 | x::a,b,n=>by
   rw [dI,sW]
   congr 1
   unfold up
   split
   ·rfl
   ·exact fS a b _
theorem yA {a b c q:List Int} {x y:Int} {n:Nat} (h:∀ k,cf c k=x*cf a k+y*cf b k):aw q c n=x*aw q a n+y*aw q b n:=by
 rw [fS q c,d7 h,fS q a,fS q b]
theorem qp (a:List Int) (n:Nat):cf (0::a) n=up (cf a) n:=by
 rw [vb];split<;>omega
theorem yz (a b:List Int) (n:Nat):aw (0::a) b n=up (aw a b) n:=by
 rw [dI];omega
theorem lx:∀ (a b c:List Int) (n:Nat),aw (ad a b) c n=aw a (ad b c) n
 | [],b,c,n=>by
   rw [d6,sT fun k=>by rw [aP,d6]]
 | x::a,b,c,n=>by
   rw [dI,aP]
   have e:∀ k,cf (ad (x::a) b) k=x*cf b k+1*cf (0::ad a b) k:=fun k=>by
    rw [aP,dI,qp,Int.one_mul]
    congr 1
    unfold up
    split
    ·rfl
    ·rw [aP]
   rw [d7 e,yz,Int.one_mul]
   congr 1
   unfold up
   split
   ·rfl
   ·exact lx a b c _
end RM
namespace RM
def Dv (d p:List Int):Prop:=∃ (c:Int) (q:List Int),c≠0/\∀ n,c*cf p n=aw q d n
theorem Dv.refl (d:List Int):Dv d d:=⟨1,[1],by decide,fun n=>by rw [fi]⟩
theorem Dv.nil (d:List Int):Dv d []:=⟨1,[],by decide,fun n=>by rw [cz,d6];rfl⟩
theorem Dv.trans {d e p:List Int} (h1:Dv d e) (h2:Dv e p):Dv d p:=by
 obtain ⟨c1,q1,hc1,e1⟩:=h1
 obtain ⟨c2,q2,hc2,e2⟩:=h2
 refine ⟨c1*c2,ad q2 q1,Int.mul_ne_zero hc1 hc2,fun n=>?_⟩
 rw [lx,Int.mul_assoc,e2,<- mV (b':=ad q1 d) (fun k=>by rw [aP,e1])]
theorem Dv.up {d a b r q:List Int} {f:Int} (hf:f≠0) (h:∀ n,f*cf a n=aw q b n+cf r n) (hb:Dv d b) (hr:Dv d r):Dv d a:=by
 obtain ⟨c1,q1,hc1,e1⟩:=hb
 obtain ⟨c2,q2,hc2,e2⟩:=hr
 refine ⟨c1*c2*f,dM c1 (scL c2 (ad q q1)) q2,Int.mul_ne_zero (Int.mul_ne_zero hc1 hc2) hf,fun n=>?_⟩
 rw [d7 (a:=ad q q1) (b:=q2) (x:=c2) (y:=c1) (fun k=>by rw [gQ,bJ]),lx,<- e2,mV (b:=b) (b':=ad q1 d) (c:=c1) (fun k=>by rw [aP,e1])]
 have:=h n
 grind
theorem Dv.down {d a b r q:List Int} {f:Int} (h:∀ n,f*cf a n=aw q b n+cf r n) (ha:Dv d a) (hb:Dv d b):Dv d r:=by
 obtain ⟨c1,q1,hc1,e1⟩:=ha
 obtain ⟨c2,q2,hc2,e2⟩:=hb
 refine ⟨c1*c2,dM (-c1) (scL (f*c2) q1) (ad q q2),Int.mul_ne_zero hc1 hc2,fun n=>?_⟩
 rw [d7 (a:=q1) (b:=ad q q2) (x:=f*c2) (y := -c1) (fun k=>by rw [gQ,bJ]),lx,<- e1,mV (b:=b) (b':=ad q2 d) (c:=c2) (fun k=>by rw [aP,e2])]
 have:=h n
 grind
theorem Dv.prop_right {d p p':List Int} {x y:Int} (hx:x≠0) (h:∀ n,x*cf p' n=y*cf p n) (hd:Dv d p):Dv d p':=by
 obtain ⟨c,q,hc,e⟩:=hd
 refine ⟨c*x,scL y q,Int.mul_ne_zero hc hx,fun n=>?_⟩
 rw [d7 (a:=q) (b:=[]) (x:=y) (y:=0) (fun k=>by rw [bJ];simp),<- e]
 have:=h n
 grind
theorem Dv.prop_left {d d' p:List Int} {x y:Int} (hx:x≠0) (hy:y≠0) (h:∀ n,x*cf d' n=y*cf d n) (hd:Dv d p):Dv d' p :=
 Dv.trans (Dv.prop_right hy (fun n=>(h n).symm) (Dv.refl d')) hd
theorem lf {l:List Int} (h:Tr l):∃ g:Int,g≠0/\∀ n,cf l n=g*cf (aB l) n:=by
 by_cases hl:l=[]
 ·subst hl
  exact ⟨1,by decide,fun n=>by rw [cz];show 0=1*cf [] n;rw [cz];rfl⟩
 have hg:(aA l:Int)≠0:=by
  obtain ⟨r,x,rfl⟩:=(cP l).resolve_left hl
  have hx:x≠0:=tr_snoc.mp h
  have h1:0<aA (r++[x]):=Nat.pos_of_dvd_of_pos (qc (by simp:x∈r++[x])) (Int.natAbs_pos.mpr hx)
  omega
 have e1:∀ n,cf l n=(aA l:Int)*cf (ar l) n:=fun n=>by
  unfold ar
  by_cases hn:n<l.length
  ·rw [dQ hn,dQ (by rw [List.length_map];exact hn),List.getElem_map]
   exact (Int.mul_ediv_cancel' (iF (List.getElem_mem hn))).symm
  ·rw [cC (by omega),cC (by rw [List.length_map];omega),Int.mul_zero]
 unfold aB cH
 split
 ·refine ⟨-(aA l:Int),by omega,fun n=>?_⟩
  have e2:cf ((ar l).map fun x => -x) n = -cf (ar l) n:=by
   by_cases hn:n<(ar l).length
   ·rw [dQ hn,dQ (by rw [List.length_map];exact hn),List.getElem_map]
   ·rw [cC (l:=ar l) (by omega),cC (l:=(ar l).map fun x => -x) (by rw [List.length_map];omega)];rfl
  rw [e1,e2];grind
 ·exact ⟨_,hg,e1⟩
theorem Dv.plain {d p:List Int} (hp:Tr p):Dv d (aB p)↔Dv d p:=by
 obtain ⟨g,hg,e⟩:=lf hp
 exact ⟨fun h=>Dv.prop_right (x:=1) (y:=g) (by decide) (fun n=>by rw [e];omega) h,fun h=>Dv.prop_right (x:=g) (y:=1) hg (fun n=>by rw [<- e];omega) h⟩
theorem plain_len (l:List Int):(aB l).length=l.length:=by
 unfold aB cH ar
 split<;>simp
theorem gv {l:List Int} (h:Tr l):Tr (aB l):=Bo (fH h)
def cJ:Nat->List Int->List Int->List Int
 | 0,one,_=>one
 | n+1,one,other=>if other=[] then one else cJ n other (aB (aR one other))
theorem zZ (n:Nat) (one:List Int):cJ n one []=one:=by cases n<;>rfl
theorem JP {n:Nat} {one other:List Int} (h:other≠[]):cJ (n+1) one other=cJ n other (aB (aR one other)):=by
 show (if other=[] then one else cJ n other (aB (aR one other)))=_
 rw [if_neg h]
theorem zY:∀ (n:Nat) (one other:List Int),other.length<=n->Tr one->Tr other->Tr (cJ n one other)/\Dv (cJ n one other) one/\Dv (cJ n one other) other/\(∀ d,Dv d one->Dv d other->Dv d (cJ n one other))/\(one≠[]\/other≠[]->cJ n one other≠[])/\(cJ n one other=one\/cJ n one other=other\/∃ l,Tr l/\cJ n one other=aB l)
 | n,one,[],_,t1,_=>by
   rw [zZ]
   exact ⟨t1,Dv.refl _,Dv.nil _,fun d h _=>h,fun h=>h.resolve_right fun z=>z rfl,.inl rfl⟩
 | 0,one,x::o,h,_,_=>absurd h (Nat.not_succ_le_zero _)
 | n+1,one,x::o,h,t1,t2=>by
   have hne:x::o≠[]:=fun z=>nomatch z
   rw [JP hne]
   generalize x::o=other at h t2 hne
   have tr:=fy one other
   have hl:=gf (a:=one) hne
   obtain ⟨c1,c2,c3,c4,c5,c6⟩:=zY n other (aB (aR one other)) (by rw [plain_len];omega) t2 (gv tr)
   have eq:=fun k=>gM (a:=one) hne k
   refine ⟨c1,Dv.up (nN (a:=one) hne t2) eq c2 ((Dv.plain tr).mp c3),c2,fun d h1 h2=>c4 d h2 ((Dv.plain tr).mpr (Dv.down eq h1 h2)),fun _=>c5 (.inl hne),?_⟩
   rcases c6 with e | e | e
   ·exact .inr (.inl e)
   ·exact .inr (.inr ⟨_,tr,e⟩)
   ·exact .inr (.inr e)
def Cop (a:List Int) (m:Nat):Prop:=∀ k:Nat,k∣m->(∀ n,(k:Int)∣cf a n)->k=1
theorem tX:∀ (N:Nat) (a b:List Int) (m:Nat),a.length+b.length<=N->Cop a m->Cop b m->(∀ n,(m:Int)∣aw a b n)->m=1
 | _,[],b,m,_,h1,_,_=>h1 m (Nat.dvd_refl _) fun n=>by rw [cz];exact Int.dvd_zero _
 | _,_::_,[],m,_,_,h2,_=>h2 m (Nat.dvd_refl _) fun n=>by rw [cz];exact Int.dvd_zero _
 | 0,_::_,_::_,_,h,_,_,_=>absurd h (by simp)
 | N+1,x::a,y::b,m,h,h1,h2,h3=>by
   have d1:Nat.gcd m x.natAbs=1:=by
    refine tX N a (y::b) _ (by simp at h ⊢;omega) (fun k hk hn=>h1 k (Nat.dvd_trans hk (Nat.gcd_dvd_left _ _)) fun n=>?_) (fun k hk=>h2 k (Nat.dvd_trans hk (Nat.gcd_dvd_left _ _))) fun n=>?_
    ·cases n with
     | zero=>exact Int.ofNat_dvd_left.mpr (Nat.dvd_trans hk (Nat.gcd_dvd_right _ _))
     | succ n=>exact hn n
    ·have e:=dI x a (y::b) (n+1)
     have g1:((Nat.gcd m x.natAbs:Nat):Int)∣aw (x::a) (y::b) (n+1):=Int.dvd_trans (Int.ofNat_dvd.mpr (Nat.gcd_dvd_left _ _)) (h3 _)
     have g2:((Nat.gcd m x.natAbs:Nat):Int)∣x*cf (y::b) (n+1):=Int.dvd_mul_of_dvd_left (Int.ofNat_dvd_left.mpr (Nat.gcd_dvd_right _ _))
     have e2:aw a (y::b) n=aw (x::a) (y::b) (n+1)-x*cf (y::b) (n+1):=by
      rw [e];show _=_+aw a (y::b) n-_;omega
     rw [e2];exact Int.dvd_sub g1 g2
   have d2:Nat.gcd m y.natAbs=1:=by
    refine tX N (x::a) b _ (by simp at h ⊢;omega) (fun k hk=>h1 k (Nat.dvd_trans hk (Nat.gcd_dvd_left _ _))) (fun k hk hn=>h2 k (Nat.dvd_trans hk (Nat.gcd_dvd_left _ _)) fun n=>?_) fun n=>?_
    ·cases n with
     | zero=>exact Int.ofNat_dvd_left.mpr (Nat.dvd_trans hk (Nat.gcd_dvd_right _ _))
     | succ n=>exact hn n
    ·have e:=sW y b (x::a) (n+1)
     have g1:((Nat.gcd m y.natAbs:Nat):Int)∣aw (x::a) (y::b) (n+1):=Int.dvd_trans (Int.ofNat_dvd.mpr (Nat.gcd_dvd_left _ _)) (h3 _)
     have g2:((Nat.gcd m y.natAbs:Nat):Int)∣y*cf (x::a) (n+1):=Int.dvd_mul_of_dvd_left (Int.ofNat_dvd_left.mpr (Nat.gcd_dvd_right _ _))
     have e2:aw (x::a) b n=aw (x::a) (y::b) (n+1)-y*cf (x::a) (n+1):=by
      rw [e];show _=_+aw (x::a) b n-_;omega
     rw [e2];exact Int.dvd_sub g1 g2
   have h0:=h3 0
   rw [dI] at h0
   have h0':m∣x.natAbs*y.natAbs:=by
    rw [<- Int.natAbs_mul]
    refine Int.ofNat_dvd_left.mp ?_
    have e:x*cf (y::b) 0+up (aw a (y::b)) 0=x*y:=by
     show x*y+0=x*y;omega
    rwa [e] at h0
   have h4:m∣y.natAbs:=Nat.Coprime.dvd_of_dvd_mul_left d1 h0'
   rw [Nat.gcd_eq_left h4] at d2
   exact d2
theorem Fy {l:List Int} {v:Int} (h:v∈l):∃ n,n<l.length/\cf l n=v:=by
 obtain ⟨n,hn,e⟩:=List.getElem_of_mem h
 exact ⟨n,hn,by rw [dQ hn,e]⟩
theorem zW {a:List Int} {m:Nat} (h:aA a=1):Cop a m:=fun k _ hn=>by
 have:k∣aA a:=dvd_gcdL.mpr fun v hv=>by
  obtain ⟨n,_,rfl⟩:=Fy hv
  exact Int.ofNat_dvd_left.mp (hn n)
 rw [h] at this
 exact Nat.dvd_one.mp this
theorem Dy {a b:List Int} (ha:aA a=1) (hb:aA b=1):aA (ad a b)=1:=by
 refine tX _ a b _ (Nat.le_refl _) (zW ha) (zW hb) fun n=>?_
 rw [<- aP]
 by_cases hn:n<(ad a b).length
 ·rw [dQ hn];exact iF (List.getElem_mem hn)
 ·rw [cC (by omega)];exact Int.dvd_zero _
structure Pln (l:List Int):Prop where
 tr:Tr l
 ne:l≠[]
 prim:aA l=1
 pos:0<al l
theorem y0 {l:List Int} (h:Tr l) (hne:l≠[]):al l≠0:=by
 have:=List.length_pos_iff.mpr hne
 exact h (l.length-1) (by omega)
theorem Pln.plain {l:List Int} (h:Pln l):aB l=l:=by
 unfold aB
 rw [B3 (.inr h.prim)]
 unfold cH
 rw [if_neg (by have:=h.pos;omega)]
theorem oX {l:List Int}:scL (aA l:Int) (ar l)=l:=by
 unfold scL ar
 rw [List.map_map]
 refine (List.map_congr_left (g:=id) fun x hx=>?_).trans (List.map_id _)
 exact Int.mul_ediv_cancel' (iF hx)
theorem eG {l:List Int} (h:Tr l) (hne:l≠[]):Pln (aB l):=by
 have hg:0<aA l:=by
  obtain ⟨r,x,rfl⟩:=(cP l).resolve_left hne
  have hx:x≠0:=tr_snoc.mp h
  exact Nat.pos_of_dvd_of_pos (qc (by simp:x∈r++[x])) (Int.natAbs_pos.mpr hx)
 have h1:aA (ar l)=1:=by
  have e:=tV (aA l:Int) (ar l)
  rw [oX,Int.natAbs_natCast] at e
  exact Nat.eq_of_mul_eq_mul_left hg (by rw [<- e,Nat.mul_one])
 have hs:ar l≠[]:=fun z=>hne (by have:=congrArg List.length z;unfold ar at this;simpa using this)
 have hl:=y0 (fH h) hs
 have hp:aA (aB l)=1:=by
  rcases Dw (.inr h1:mi (ar l)) with z | z
  ·exact absurd (congrArg List.length z) (by
    have:=plain_len l
    unfold aB at this
    rw [this]
    exact fun q=>hne (List.length_eq_zero_iff.mp q))
  ·exact z
 refine ⟨gv h,fun z=>hne (List.length_eq_zero_iff.mp (by rw [<- plain_len,z];rfl)),hp,?_⟩
 unfold aB cH
 split
 ·rw [y4];omega
 ·omega
theorem bM {a b:List Int} (ha:a≠[]) (hb:b≠[]):(ad a b).length=a.length+b.length-1:=by
 unfold ad
 rw [if_neg (fun z=>z.elim ha hb),List.length_map,List.length_range]
theorem tF {a b:List Int} (ha:a≠[]) (hb:b≠[]):al (ad a b)=al a*al b:=by
 have h1:=List.length_pos_iff.mpr ha
 have h2:=List.length_pos_iff.mpr hb
 unfold al
 rw [bM ha hb,aP]
 have e:a.length+b.length-1-1=(a.length-1)+(b.length-1):=by omega
 rw [e,sU (by omega) (by omega)]
theorem Pln.mul {a b:List Int} (ha:Pln a) (hb:Pln b):Pln (ad a b):=by
 refine ⟨oz ha.tr hb.tr,fun z=>?_,Dy ha.prim hb.prim,by rw [tF ha.ne hb.ne];exact Int.mul_pos ha.pos hb.pos⟩
 have h1:=List.length_pos_iff.mpr ha.ne
 have h2:=List.length_pos_iff.mpr hb.ne
 have:=bM ha.ne hb.ne
 rw [z] at this
 simp at this
 omega
theorem x4 {p q d:List Int} {c:Int} (hc:c≠0) (hp:Tr p) (hpn:p≠[]) (hq:Tr q) (hd:Pln d) (h:∀ n,c*cf p n=aw q d n):ad (aB q) d=aB p:=by
 have hqn:q≠[]:=fun z=>by
  have h1:=List.length_pos_iff.mpr hpn
  have h2:=h (p.length-1)
  rw [z,d6] at h2
  exact Int.mul_ne_zero hc (hp (p.length-1) (by omega)) h2
 obtain ⟨g,hg,e⟩:=lf hq
 have hm:=(eG hq hqn).mul hd
 rw [<- hm.plain]
 refine DD hg hc hm.tr hp fun k=>?_
 rw [h,aP,d7 (a:=aB q) (b:=[]) (x:=g) (y:=0) (c:=q) (fun k=>by rw [e];simp),d6]
 simp
theorem Dv.trim {d p:List Int} (h:Dv d p):∃ (c:Int) (q:List Int),c≠0/\Tr q/\∀ n,c*cf p n=aw q d n:=by
 obtain ⟨c,q,hc,e⟩:=h
 exact ⟨c,RM.trim q,hc,eQ q,fun n=>by rw [e];exact (pE (fun k=>gj q k) fun _=>rfl).symm⟩
theorem Dv.fellow {d p:List Int} (hd:Pln d) (hp:Tr p) (hpn:p≠[]) (h:Dv d p):∃ q,Pln q/\ad q d=aB p:=by
 obtain ⟨c,q,hc,hq,e⟩:=h.trim
 have hqn:q≠[]:=fun z=>by
  have h1:=List.length_pos_iff.mpr hpn
  have h2:=e (p.length-1)
  rw [z,d6] at h2
  exact Int.mul_ne_zero hc (hp (p.length-1) (by omega)) h2
 exact ⟨aB q,eG hq hqn,x4 hc hp hpn hq hd e⟩
theorem Pln.const {l:List Int} (h:Pln l) (h1:l.length=1):l=[1]:=by
 obtain ⟨x,rfl⟩:∃ x,l=[x]:=List.length_eq_one_iff.mp h1
 have h2:=h.prim
 rw [HF] at h2
 have h3:0<x:=h.pos
 have:x=1:=by omega
 rw [this]
theorem one_mul (l:List Int) (h:Tr l):ad [1] l=l:=by
 refine nM (oz (tr_snoc (r:=[]).mpr (by decide)) h) h fun k=>?_
 rw [aP,fi];omega
theorem sy {a b:List Int} (ha:Pln a) (hb:Pln b) (h1:Dv a b) (h2:Dv b a):a=b:=by
 obtain ⟨q,hq,e⟩:=h1.fellow ha hb.tr hb.ne
 obtain ⟨r,hr,e'⟩:=h2.fellow hb ha.tr ha.ne
 rw [hb.plain] at e
 rw [ha.plain] at e'
 have l1:=bM hq.ne ha.ne
 have l2:=bM hr.ne hb.ne
 rw [e] at l1
 rw [e'] at l2
 have p1:=List.length_pos_iff.mpr hq.ne
 have p2:=List.length_pos_iff.mpr hr.ne
 have p3:=List.length_pos_iff.mpr ha.ne
 have hq1:=hq.const (by omega)
 rw [hq1,one_mul a ha.tr] at e
 exact e
theorem Dv.short {d r:List Int} (hd:d≠[]) (hdt:Tr d) (hr:Tr r) (hl:r.length<d.length) (h:Dv d r):r=[]:=by
 obtain ⟨c,q,hc,e⟩:=h
 have z:=yy hd hdt (d:=q) fun n hn=>by rw [<- e,cC (by omega),Int.mul_zero]
 refine sR hr fun k=>?_
 have h1:=e k
 rw [sT z] at h1
 exact (Int.mul_eq_zero.mp h1).resolve_left hc
theorem Dv.rest {d p:List Int} (hd:d≠[]) (hdt:Tr d) (h:Dv d p):aR p d=[] :=
 Dv.short hd hdt (fy _ _) (gf hd) (Dv.down (fun n=>gM (a:=p) hd n) h (Dv.refl d))
theorem Dv.mul_right (a b:List Int):Dv b (ad a b):=⟨1,a,by decide,fun n=>by rw [aP];omega⟩
theorem Dv.mul_left (a b:List Int):Dv a (ad a b):=⟨1,b,by decide,fun n=>by rw [aP,fS];omega⟩
end RM
namespace RM
theorem KF {l1 l2 r1 r2 pl pc a1 a2 c1 c2 x1 x2:Int} (ha:0<a2) (hc:0<c2) (e1:a1*pc=pl*a2) (e2:c1*(r2*a2)=r1*a1*c2) (e3:x1*(l2*c2)=(l1*c2+c1*l2)*x2) :
 x1*(l2*r2*pc)=(l1*r2*pc+r1*l2*pl)*x2:=by
 have h0:c2*a2≠0:=Int.ne_of_gt (Int.mul_pos hc ha)
 refine Int.eq_of_mul_eq_mul_right h0 ?_
 calc x1*(l2*r2*pc)*(c2*a2)=x1*(l2*c2)*(r2*pc*a2):=by grind
  _=(l1*c2+c1*l2)*x2*(r2*pc*a2):=by rw [e3]
  _=x2*(l1*c2*r2*pc*a2+l2*pc*(c1*(r2*a2))):=by grind
  _=x2*(l1*c2*r2*pc*a2+l2*pc*(r1*a1*c2)):=by rw [e2]
  _=x2*c2*(l1*r2*pc*a2+l2*r1*(a1*pc)):=by grind
  _=x2*c2*(l1*r2*pc*a2+l2*r1*(pl*a2)):=by rw [e1]
  _=(l1*r2*pc+r1*l2*pl)*x2*(c2*a2):=by grind
theorem J0 {l r:Int} (hl:0<l) (hr:0<r) {g:Nat} (hg:g=Nat.gcd l.natAbs r.natAbs):∃ l' r':Int,0<l'/\0<r'/\(0:Int)<g/\l=g*l'/\r=g*r'/\l*r/g=l*r'/\l*r'/l=r'/\l*r'/r=l'/\0<l*r':=by
 have g0:0<g:=by rw [hg];exact Nat.gcd_pos_of_pos_left _ (by omega)
 have gi:(0:Int)<g:=by omega
 obtain ⟨l',hl'⟩:(g:Int)∣l:=Int.natAbs_dvd_natAbs.mp (by rw [Int.natAbs_natCast,hg];exact Nat.gcd_dvd_left _ _)
 obtain ⟨r',hr'⟩:(g:Int)∣r:=Int.natAbs_dvd_natAbs.mp (by rw [Int.natAbs_natCast,hg];exact Nat.gcd_dvd_right _ _)
 have l0:0<l':=Int.lt_of_mul_lt_mul_left (a:=(g:Int)) (by rw [Int.mul_zero,<- hl'];exact hl) (Int.le_of_lt gi)
 have r0:0<r':=Int.lt_of_mul_lt_mul_left (a:=(g:Int)) (by rw [Int.mul_zero,<- hr'];exact hr) (Int.le_of_lt gi)
 refine ⟨l',r',l0,r0,gi,hl',hr',?_,?_,?_,Int.mul_pos hl r0⟩
 ·have e:l*r=(l*r')*g:=by
   calc l*r=l*(g*r'):=by rw [<- hr']
    _=(l*r')*g:=by grind
  rw [e];exact Int.mul_ediv_cancel _ (Int.ne_of_gt gi)
 ·exact Int.mul_ediv_cancel_left _ (Int.ne_of_gt hl)
 ·have e:l*r'=l'*r:=by
   calc l*r'=(g*l')*r':=by rw [<- hl']
    _=l'*(g*r'):=by grind
    _=l'*r:=by rw [<- hr']
  rw [e];exact Int.mul_ediv_cancel _ (Int.ne_of_gt hr)
end RM
namespace RM
def cG:List Int->List Int
 | []=>[]
 | v::l=>2^l.length*v::cG l
theorem oF:∀ l,(cG l).length=l.length
 | []=>rfl
 | v::l=>by show (cG l).length+1=_;rw [oF l];rfl
theorem zo (p q:Int):∀ l,2*hv p q (cG l)=hv p (2*q) l
 | []=>by show 2*0=(0:Int);rfl
 | v::l=>by
   have ih:=zo p q l
   show 2*(2^l.length*v*q^((cG l).length+1)+p*hv p q (cG l))=v*(2*q)^(l.length+1)+p*hv p (2*q) l
   rw [oF,<- ih,Int.mul_pow,Int.pow_succ 2]
   grind
def suf:List Int->List Int
 | []=>[]
 | v::l=>(v+(suf l).headD 0)::suf l
theorem jx:∀ l,(suf l).length=l.length
 | []=>rfl
 | v::l=>by show (suf l).length+1=_;rw [jx l];rfl
theorem wG (p q:Int):∀ l,hv (p+q) q l=(suf l).headD 0*q^l.length+p*hv (p+q) q ((suf l).tail)
 | []=>by show (0:Int)=0*q^0+p*0;omega
 | v::l=>by
   have ih:=wG p q l
   show v*q^(l.length+1)+(p+q)*hv (p+q) q l=(v+(suf l).headD 0)*q^(l.length+1)+p*hv (p+q) q (suf l)
   cases hs:suf l with
   | nil =>
     have hl:l=[]:=by
      have:=jx l
      rw [hs] at this
      exact List.eq_nil_of_length_eq_zero this.symm
     subst hl
     show v*q^1+(p+q)*0=(v+0)*q^1+p*0
     grind
   | cons g r =>
     rw [hs] at ih
     have hl:r.length+1=l.length:=by have:=jx l;rw [hs] at this;exact this
     have ih':hv (p+q) q l=g*q^l.length+p*hv (p+q) q r:=ih
     show v*q^(l.length+1)+(p+q)*hv (p+q) q l=(v+g)*q^(l.length+1)+p*(g*q^(r.length+1)+(p+q)*hv (p+q) q r)
     rw [ih',hl,Int.pow_succ]
     grind
def dH:Nat->List Int->List Int
 | 0,m=>suf m
 | _+1,[]=>[]
 | i+1,c::m=>c::dH i m
theorem sI:∀ (i:Nat) (m:List Int),(dH i m).length=m.length
 | 0,m=>jx m
 | _+1,[]=>rfl
 | i+1,c::m=>by show (dH i m).length+1=_;rw [sI i m];rfl
def fk (p q:Int):Nat->List Int->Int
 | 0,m=>hv (p+q) q m
 | _+1,[]=>0
 | i+1,c::m=>c*q^(m.length+1)+p*fk p q i m
theorem yK (p q:Int):∀ (i:Nat) (m:List Int),fk p q (i+1) (dH i m)=fk p q i m
 | 0,m=>by
   show fk p q 1 (suf m)=hv (p+q) q m
   rw [wG]
   cases hs:suf m with
   | nil =>
     show (0:Int)=0*q^m.length+p*hv (p+q) q []
     rw [qa];omega
   | cons g r =>
     have hl:r.length+1=m.length:=by have:=jx m;rw [hs] at this;exact this
     show g*q^(r.length+1)+p*hv (p+q) q r=g*q^m.length+p*hv (p+q) q r
     rw [hl]
 | i+1,[]=>rfl
 | i+1,c::m=>by
   show c*q^((dH i m).length+1)+p*fk p q (i+1) (dH i m)=c*q^(m.length+1)+p*fk p q i m
   rw [yK p q i m,sI]
theorem yM (p q:Int):∀ (i:Nat) (m:List Int),m.length<=i+1->fk p q i m=hv p q m
 | 0,[],_=>rfl
 | 0,[c],_=>by
   show c*q^1+(p+q)*0=c*q^1+p*0
   omega
 | 0,_::_::_,h=>absurd h (by simp)
 | _+1,[],_=>rfl
 | i+1,c::m,h=>by
   show c*q^(m.length+1)+p*fk p q i m=c*q^(m.length+1)+p*hv p q m
   rw [yM p q i m (by simpa using h)]
def eJ:Nat->List Int->List Int
 | 0,l=>l
 | i+1,l=>dH i (eJ i l)
theorem pF:∀ (i:Nat) (l:List Int),(eJ i l).length=l.length
 | 0,_=>rfl
 | i+1,l=>by show (dH i (eJ i l)).length=_;rw [sI,pF i l]
theorem yL (p q:Int):∀ (i:Nat) (l:List Int),fk p q i (eJ i l)=hv (p+q) q l
 | 0,_=>rfl
 | i+1,l=>by show fk p q (i+1) (dH i (eJ i l))=_;rw [yK,yL p q i l]
def mY (l:List Int):List Int:=eJ (l.length-1) l
theorem yI (l:List Int):(mY l).length=l.length:=pF _ _
theorem Hr (p q:Int) (l:List Int):hv p q (mY l)=hv (p+q) q l:=by
 rw [<- yL p q (l.length-1) l]
 exact (yM p q (l.length-1) _ (by rw [yI];omega)).symm
theorem zm:∀ l:List Int,hv 1 1 l=l.sum
 | []=>rfl
 | v::l=>by
   show v*1^(l.length+1)+1*hv 1 1 l=v+l.sum
   rw [zm l,Int.one_pow];omega
def cc (m s0 s1:Int):List Int->List Int
 | []=>[]
 | v::l=>mb (-s0) s1 (v*m^l.length) (cc m s0 s1 l)
theorem jy (m s0 s1:Int):∀ l,(cc m s0 s1 l).length=l.length
 | []=>rfl
 | v::l=>by show (mb _ _ _ _).length=_;rw [pH,jy m s0 s1 l];rfl
theorem zn (m s0 s1 p q:Int):∀ l,m*hv p q (cc m s0 s1 l)=hv (s0*q+s1*p) (m*q) l
 | []=>by show m*0=(0:Int);omega
 | v::l=>by
   have ih:=zn m s0 s1 p q l
   show m*hv p q (mb (-s0) s1 (v*m^l.length) (cc m s0 s1 l))=v*(m*q)^(l.length+1)+(s0*q+s1*p)*hv (s0*q+s1*p) (m*q) l
   rw [zq,jy,<- ih,Int.mul_pow,Int.pow_succ m]
   grind
theorem wH (m s0 s1:Int):∀ l,cf (cc m s0 s1 l) (l.length-1)=cf l (l.length-1)*s1^(l.length-1)
 | []=>by show (0:Int)=0*_;omega
 | [v]=>by
   show cf (mb (-s0) s1 (v*m^0) []) 0=v*s1^0
   rw [ja,if_pos rfl,cz,Int.pow_zero,Int.pow_zero]
   omega
 | v::u::l=>by
   have ih:=wH m s0 s1 (u::l)
   show cf (mb (-s0) s1 _ (cc m s0 s1 (u::l))) (l.length+1)=cf (u::l) l.length*s1^(l.length+1)
   rw [ja,if_neg (by omega)]
   have e1:cf (cc m s0 s1 (u::l)) (l.length+1)=0:=cC (by rw [jy];exact Nat.le_refl _)
   have e2:cf (cc m s0 s1 (u::l)) (l.length+1-1)=cf (u::l) l.length*s1^l.length:=ih
   rw [e1,e2,Int.pow_succ]
   grind
theorem dW {x p:Int} (hp:0<p):sg (p*x)=sg x:=by rw [Int.mul_comm];exact rX hp
end RM
namespace RM
def sgq (u v d:Int):Int :=
 if 0<=u/\0<=v then (if 0<u\/0<v then 1 else 0)
 else if u<=0/\v<=0 then -1
 else if 0<u then (if u*u<d*v*v then -1 else 1)
 else (if u*u>d*v*v then -1 else 1)
def NSq (d:Int):Prop:=0<d/\∀ a b:Int,b≠0->a*a≠d*b*b
theorem Fh (n d:Nat) (h1:n*n<d) (h2:d<(n+1)*(n+1)):∀ b a:Nat,0<b->a*a≠d*(b*b):=by
 intro b
 induction b using Nat.strongRecOn with
 | ind b ih =>
   intro a hb e
   have l1:n*b<a:=by
    refine Classical.byContradiction fun z=>?_
    have z':a<=n*b:=by omega
    have h3:=Nat.mul_le_mul z' z'
    have h4:n*n*(b*b)<d*(b*b):=Nat.mul_lt_mul_of_pos_right h1 (Nat.mul_pos hb hb)
    have e2:n*b*(n*b)=n*n*(b*b):=by grind
    omega
   have l2:a<(n+1)*b:=by
    refine Classical.byContradiction fun z=>?_
    have z':(n+1)*b<=a:=by omega
    have h3:=Nat.mul_le_mul z' z'
    have h4:d*(b*b)<(n+1)*(n+1)*(b*b):=Nat.mul_lt_mul_of_pos_right h2 (Nat.mul_pos hb hb)
    have e2:(n+1)*b*((n+1)*b)=(n+1)*(n+1)*(b*b):=by grind
    omega
   have e3:(n+1)*b=n*b+b:=by grind
   obtain ⟨c,hc⟩:∃ c,a=n*b+c:=⟨a-n*b,by omega⟩
   have hc0:0<c:=by omega
   have hcb:c<b:=by omega
   have l3:n*a<=d*b:=by
    have h5:n*a*a<=d*b*a:=by
     have h6:n*(a*a)=n*(d*(b*b)):=by rw [e]
     have h7:n*b*(d*b)<=a*(d*b):=Nat.mul_le_mul_right _ (Nat.le_of_lt l1)
     have e4:n*a*a=n*(a*a):=by grind
     have e5:n*(d*(b*b))=n*b*(d*b):=by grind
     have e6:d*b*a=a*(d*b):=by grind
     omega
    exact Nat.le_of_mul_le_mul_right h5 (by omega)
   obtain ⟨f,hf⟩:∃ f,d*b=n*a+f:=⟨d*b-n*a,by omega⟩
   refine ih c hcb f hc0 ?_
   have e7:(f:Int)=(d:Int)*b-n*a:=by
    have:=congrArg (fun z:Nat=>(z:Int)) hf
    simp only [Int.natCast_add,Int.natCast_mul] at this
    omega
   have e8:(c:Int)=(a:Int)-n*b:=by
    have:=congrArg (fun z:Nat=>(z:Int)) hc
    simp only [Int.natCast_add,Int.natCast_mul] at this
    omega
   have e9:(a:Int)*a=d*(b*b):=by
    have:=congrArg (fun z:Nat=>(z:Int)) e
    simp only [Int.natCast_mul] at this
    exact this
   have e10:(f:Int)*f=d*(c*c):=by
    rw [e7,e8]
    have:((d:Int)*b-n*a)*(d*b-n*a)-d*((a-n*b)*(a-n*b))=(d*(b*b)-a*a)*(d-n*n):=by grind
    rw [e9,Int.sub_self,Int.zero_mul] at this
    omega
   have e11:((f*f:Nat):Int)=((d*(c*c):Nat):Int):=by
    simp only [Int.natCast_mul];exact e10
   exact Int.ofNat.inj e11
theorem gG {n d:Nat} (h1:n*n<d) (h2:d<(n+1)*(n+1)):NSq d:=by
 refine ⟨by omega,fun a b hb e=>?_⟩
 refine Fh n d h1 h2 b.natAbs a.natAbs (by omega) ?_
 have e1:((a.natAbs*a.natAbs:Nat):Int)=a*a:=Int.natAbs_mul_self
 have e2:((b.natAbs*b.natAbs:Nat):Int)=b*b:=Int.natAbs_mul_self
 have:((a.natAbs*a.natAbs:Nat):Int)=((d*(b.natAbs*b.natAbs):Nat):Int):=by
  rw [Int.natCast_mul (d) _,e1,e2,e,Int.mul_assoc]
 exact Int.ofNat.inj this
theorem g7 {u v d:Int} (hu:0<=u) (hv:0<=v) (h:0<u\/0<v):sgq u v d=1:=by unfold sgq;rw [if_pos ⟨hu,hv⟩,if_pos h]
theorem g8 {u v d:Int} (hu:u<=0) (hv:v<=0) (h:u<0\/v<0):sgq u v d = -1:=by unfold sgq;rw [if_neg (by omega),if_pos ⟨hu,hv⟩]
theorem o0 {u v d:Int} (hu:0<u) (hv:v<0):sgq u v d=if u*u<d*v*v then -1 else 1:=by unfold sgq;rw [if_neg (by omega),if_neg (by omega),if_pos hu]
theorem o1 {u v d:Int} (hu:u<0) (hv:0<v):sgq u v d=if u*u>d*v*v then -1 else 1:=by unfold sgq;rw [if_neg (by omega),if_neg (by omega),if_neg (by omega)]
theorem xt (d:Int):sgq 0 0 d=0:=rfl
theorem Gz (u v:Int):(u=0/\v=0)\/(0<=u/\0<=v/\(0<u\/0<v))\/(u<=0/\v<=0/\(u<0\/v<0))\/(0<u/\v<0)\/(u<0/\0<v):=by omega
theorem xr {g u v d:Int} (hg:0<g):sgq (g*u) (g*v) d=sgq u v d:=by
 have hp:∀ x:Int,0<x->0<g*x:=fun x h=>Int.mul_pos hg h
 have hn:∀ x:Int,x<0->g*x<0:=fun x h=>Int.mul_neg_of_pos_of_neg hg h
 have hz:∀ x:Int,0<=x->0<=g*x:=fun x h=>Int.mul_nonneg (Int.le_of_lt hg) h
 have hy:∀ x:Int,x<=0->g*x<=0:=fun x h=>Int.mul_nonpos_of_nonneg_of_nonpos (Int.le_of_lt hg) h
 have gg:0<g*g:=Int.mul_pos hg hg
 have e1:g*u*(g*u)=u*u*(g*g):=by grind
 have e2:d*(g*v)*(g*v)=d*v*v*(g*g):=by grind
 rcases Gz u v with ⟨rfl,rfl⟩ | ⟨a,b,c⟩ | ⟨a,b,c⟩ | ⟨a,b⟩ | ⟨a,b⟩
 ·rw [Int.mul_zero]
 ·rw [g7 a b c,g7 (hz _ a) (hz _ b) (c.elim (fun z=>.inl (hp _ z)) (fun z=>.inr (hp _ z)))]
 ·rw [g8 a b c,g8 (hy _ a) (hy _ b) (c.elim (fun z=>.inl (hn _ z)) (fun z=>.inr (hn _ z)))]
 ·rw [o0 a b,o0 (hp _ a) (hn _ b),e1,e2]
  by_cases z:u*u<d*v*v
  ·rw [if_pos z,if_pos (Int.mul_lt_mul_of_pos_right z gg)]
  ·rw [if_neg z,if_neg (fun y=>z (Int.lt_of_mul_lt_mul_right y (Int.le_of_lt gg)))]
 ·rw [o1 a b,o1 (hn _ a) (hp _ b),e1,e2]
  by_cases z:u*u>d*v*v
  ·rw [if_pos z,if_pos (Int.mul_lt_mul_of_pos_right z gg)]
  ·rw [if_neg z,if_neg (fun y=>z (Int.lt_of_mul_lt_mul_right y (Int.le_of_lt gg)))]
end RM
namespace RM
theorem Fn {t h v:Int} {T X V:Nat} (ht:t.natAbs=T) (hh:X<=h.natAbs) (hv:v.natAbs<=V):T*X<=(v+t*h).natAbs+V:=by
 subst ht
 have e1:t.natAbs*h.natAbs=(t*h).natAbs:=(Int.natAbs_mul t h).symm
 have e2:t.natAbs*X<=t.natAbs*h.natAbs:=Nat.mul_le_mul_left _ hh
 omega
theorem Au {B n:Nat} {t:Int} (hn:0<n) (hB:1<=B) (ht:B*n<=t.natAbs) (z:Int):∀ os:List Int,(∀ x∈os,x.natAbs<=(B-1)*z.natAbs)->z.natAbs*n^(os.length+1)<=(hv t n (os++[z])).natAbs
 | [],_=>by
   show z.natAbs*n^1<=(z*(n:Int)^1+t*0).natAbs
   rw [Int.mul_zero,Int.add_zero,Int.natAbs_mul,Int.natAbs_pow,Int.natAbs_natCast]
   exact Nat.le_refl _
 | v::os,h=>by
   have ih:=Au hn hB ht z os (fun x hx=>h x (List.mem_cons_of_mem _ hx))
   have hvv:=h v (List.mem_cons_self ..)
   rw [List.cons_append,dD]
   have e1:(v*(n:Int)^((os++[z]).length+1)).natAbs<=(B-1)*z.natAbs*n^(os.length+2):=by
    rw [Int.natAbs_mul,Int.natAbs_pow,Int.natAbs_natCast]
    have:(os++[z]).length+1=os.length+2:=by simp
    rw [this]
    exact Nat.mul_le_mul_right _ hvv
   have e2:=Fn (t:=t) rfl ih e1
   have e3:B*n*(z.natAbs*n^(os.length+1))<=t.natAbs*(z.natAbs*n^(os.length+1)):=Nat.mul_le_mul_right _ ht
   have e4:(v::os).length+1=os.length+2:=by simp
   rw [e4]
   have e5:n^(os.length+2)=n*n^(os.length+1):=by rw [Nat.pow_succ,Nat.mul_comm]
   rw [e5] at e2 ⊢
   generalize n^(os.length+1)=p at *
   generalize (v*(n:Int)^((os++[z]).length+1)+t*hv t n (os++[z])).natAbs=W at *
   obtain ⟨C,rfl⟩:∃ C,B=C+1:=⟨B-1,by omega⟩
   have e6:(C+1)*n*(z.natAbs*p)=C*z.natAbs*(n*p)+z.natAbs*(n*p):=by
    grind
   have e7:C+1-1=C:=rfl
   rw [e7] at e2
   omega
theorem tT {t n x y:Int}:∀ (a b c:List Int),a.length=c.length->b.length=c.length->(∀ k,cf c k=x*cf a k+y*cf b k)->hv t n c=x*hv t n a+y*hv t n b
 | [],[],[],_,_,_=>by simp [qa]
 | u::a,v::b,w::c,ha,hb,h=>by
   have h0:w=x*u+y*v:=h 0
   have ih:=tT (t:=t) (n:=n) (x:=x) (y:=y) a b c (by simpa using ha) (by simpa using hb) (fun k=>h (k+1))
   have la:a.length=c.length:=by simpa using ha
   have lb:b.length=c.length:=by simpa using hb
   rw [dD,dD,dD,ih,h0,la,lb]
   generalize n^(c.length+1)=p
   grind
 | [],_::_,[],_,h,_=>by simp at h
 | _::_,_,[],h,_,_=>by simp at h
 | [],_,_::_,h,_,_=>by simp at h
 | _::_,[],_::_,_,h,_=>by simp at h
theorem zp (t n g:Int) (l:List Int):hv t n (scL g l)=g*hv t n l:=by
 have:=tT (t:=t) (n:=n) (x:=g) (y:=0) l l (scL g l) (by rw [ck]) (by rw [ck]) (fun k=>by rw [bJ];simp)
 rw [this];simp
theorem zl (t n:Int):∀ (k:Nat) (l:List Int),hv t n (l++List.replicate k 0)=n^k*hv t n l
 | k,[]=>by
   rw [List.nil_append,qa,Int.mul_zero]
   induction k with
   | zero=>rfl
   | succ k ih=>rw [List.replicate_succ,dD,ih];simp
 | k,v::l=>by
   rw [List.cons_append,dD,zl t n k l,dD]
   have:(l++List.replicate k (0:Int)).length+1=l.length+1+k:=by simp;omega
   rw [this,Int.pow_add]
   generalize n^(l.length+1)=p
   generalize n^k=q
   grind
theorem JT (l:List Int) (k j:Nat):cf (l++List.replicate k 0) j=cf l j:=by
 by_cases h:j<l.length
 ·rw [Ar h]
 ·rw [nV (by omega),nS,cC (by omega)]
theorem qb (t n:Int) {b:List Int} (hb:b≠[]):∀ {a:List Int},a≠[]->n*hv t n (ad a b)=hv t n a*hv t n b
 | [x],_=>by
   have e:ad [x] b=scL x b:=by
    apply dP
    ·rw [bM (by simp) hb,ck];simp
    ·intro k _;rw [aP,fi,bJ]
   rw [e,zp,nu]
   grind
 | x::y::a,_=>by
   have ih:=qb t n hb (a:=y::a) (by simp)
   have lm:(ad (x::y::a) b).length=(y::a).length+b.length:=by rw [bM (by simp) hb,List.length_cons];omega
   have lm2:(ad (y::a) b).length+1=(y::a).length+b.length:=by
    rw [bM (by simp) hb];have:=List.length_pos_iff.mpr hb;rw [List.length_cons];omega
   have e:=tT (t:=t) (n:=n) (x:=x) (y:=1) (b++List.replicate (y::a).length 0) (0::ad (y::a) b) (ad (x::y::a) b) (by rw [lm,List.length_append,List.length_replicate];omega) (by rw [lm,List.length_cons,lm2])
    (fun k=>by rw [aP,dI,JT,qp];rw [Int.one_mul];congr 1;unfold up;split<;>first | rfl | rw [aP])
   rw [e,zl,dD (v:=0),dD (v:=x)]
   have:n*(x*(n^(y::a).length*hv t n b)+1*(0*n^((ad (y::a) b).length+1)+t*hv t n (ad (y::a) b)))=x*(n^(y::a).length*n)*hv t n b+t*(n*hv t n (ad (y::a) b)):=by grind
   rw [this,ih,<- Int.pow_succ]
   grind
def pr (t n:Int):List (List Int)->Int
 | []=>1
 | s::ss=>hv t n s*pr t n ss
def sl:List (List Int)->Nat
 | []=>0
 | s::ss=>s.length+sl ss
theorem lz {a b:List Int} (ha:a≠[]) (hb:b≠[]):ad a b≠[]:=fun z=>by
 have:=bM ha hb
 rw [z] at this
 have h1:=List.length_pos_iff.mpr ha
 have h2:=List.length_pos_iff.mpr hb
 rw [List.length_nil] at this
 omega
def aS (acc:List Int) (ss:List (List Int)):List Int:=ss.foldl ad acc
theorem lc:∀ (ss:List (List Int)) (acc:List Int),acc≠[]->Tr acc->(∀ s∈ss,s≠[]/\Tr s)->aS acc ss≠[]/\Tr (aS acc ss)/\(aS acc ss).length+ss.length=acc.length+sl ss
 | [],acc,h1,h2,_=>⟨h1,h2,by simp [aS,sl]⟩
 | s::ss,acc,h1,h2,h3=>by
   have hs:=h3 s (List.mem_cons_self ..)
   obtain ⟨a,b,c⟩:=lc ss (ad acc s) (lz h1 hs.1) (oz h2 hs.2) (fun x hx=>h3 x (List.mem_cons_of_mem _ hx))
   refine ⟨a,b,?_⟩
   have l:=bM h1 hs.1
   have p1:=List.length_pos_iff.mpr h1
   have p2:=List.length_pos_iff.mpr hs.1
   show (aS (ad acc s) ss).length+(ss.length+1)=acc.length+(s.length+sl ss)
   omega
theorem p8 (t n:Int):∀ (ss:List (List Int)) (acc:List Int),acc≠[]->(∀ s∈ss,s≠[])->n^ss.length*hv t n (aS acc ss)=hv t n acc*pr t n ss
 | [],acc,_,_=>by show n^0*hv t n acc=hv t n acc*1;simp
 | s::ss,acc,h1,h3=>by
   have hs:=h3 s (List.mem_cons_self ..)
   have ih:=p8 t n ss (ad acc s) (lz h1 hs) (fun x hx=>h3 x (List.mem_cons_of_mem _ hx))
   have e:=qb t n hs h1
   show n^(ss.length+1)*hv t n (aS (ad acc s) ss)=hv t n acc*(hv t n s*pr t n ss)
   rw [Int.pow_succ,Int.mul_comm _ n,Int.mul_assoc,ih,<- Int.mul_assoc,e,Int.mul_assoc]
theorem IJ {c:Int} {ss:List (List Int)} {B n:Nat} {t:Int} (hc:c≠0) (hs:∀ s∈ss,s≠[]/\Tr s) (hB:1<=B)
 (hb:∀ x∈(ad [c] (aS [1] ss)).take ((ad [c] (aS [1] ss)).length-1),x.natAbs<=(B-1)*(al (ad [c] (aS [1] ss))).natAbs) (hn:0<n) (ht:B*n<=t.natAbs):n^sl ss<=(pr t n ss).natAbs:=by
 obtain ⟨p1,p2,p3⟩:=lc ss [1] (by simp) (by intro k hk;have:k=0:=by simpa using hk.symm
                                            subst this;decide) hs
 have hm:=p8 t n ss [1] (by simp) (fun s h=>(hs s h).1)
 generalize aS [1] ss=Pr at *
 have hne:ad [c] Pr≠[]:=lz (by simp) p1
 have hl:=tF (a:=[c]) (b:=Pr) (by simp) p1
 have hlen:=bM (a:=[c]) (b:=Pr) (by simp) p1
 have hv1:=qb t n p1 (a:=[c]) (by simp)
 obtain ⟨os,z,e⟩:=(cP (ad [c] Pr)).resolve_left hne
 rw [e] at hb hl hv1 hlen
 rw [dz] at hb hl
 have ht2:(os++[z]).take ((os++[z]).length-1)=os:=by simp
 rw [ht2] at hb
 have hcau:=Au hn hB ht z os hb
 have hlp:al Pr≠0:=y0 p2 p1
 have hz:z=c*al Pr:=hl
 rw [nu] at hv1
 have hn0:(n:Int)≠0:=by omega
 have e2:hv t n (os++[z])=c*hv t n Pr:=by
  refine Int.eq_of_mul_eq_mul_left hn0 ?_
  rw [hv1];grind
 rw [e2,hz,Int.natAbs_mul,Int.natAbs_mul,Nat.mul_assoc] at hcau
 have hc1:0<c.natAbs:=Int.natAbs_pos.mpr hc
 have h4:=Nat.le_of_mul_le_mul_left hcau hc1
 have h5:1*n^(os.length+1)<=(al Pr).natAbs*n^(os.length+1):=Nat.mul_le_mul_right _ (Int.natAbs_pos.mpr hlp)
 have h6:os.length+1=Pr.length:=by simp at hlen;omega
 rw [h6] at h4 h5
 have h7:n^Pr.length<=(hv t n Pr).natAbs:=by omega
 have h8:(n^ss.length*n^Pr.length)<=n*(pr t n ss).natAbs:=by
  have h9:=Nat.mul_le_mul_left (n^ss.length) h7
  have h10:n^ss.length*(hv t n Pr).natAbs=n*(pr t n ss).natAbs:=by
   have:=congrArg Int.natAbs hm
   rw [Int.natAbs_mul,Int.natAbs_pow,Int.natAbs_natCast,nu,Int.one_mul,Int.natAbs_mul,Int.natAbs_natCast] at this
   exact this
  omega
 rw [<- Nat.pow_add] at h8
 have h11:ss.length+Pr.length=sl ss+1:=by simp at p3;omega
 rw [h11,Nat.pow_succ,Nat.mul_comm] at h8
 exact Nat.le_of_mul_le_mul_left h8 hn
end RM
namespace RM
theorem oC {r:List Int} (h:Tr r):cF [] r=scL (-1) r:=by
 refine nM (eQ _) (mv (by decide) h) fun k=>?_
 unfold cF
 rw [gj,gQ,bJ,cz];omega
theorem JG {a b:List Int} (hb:b≠[]) (hbt:Tr b):0<cq a b:=by
 have h:=nN (a:=a) hb hbt
 have h2:0<=cq a b:=by
  unfold cq
  generalize bj a b=n
  induction n with
  | zero=>rw [Int.pow_zero];decide
  | succ n ih=>rw [Int.pow_succ];exact Int.mul_nonneg ih (Int.natCast_nonneg _)
 omega
theorem xF {n:Nat} {one:List Int} (h:one≠[]) (hn:0<n):bF n one []=[one]:=by
 obtain ⟨m,rfl⟩:∃ m,n=m+1:=⟨n-1,by omega⟩
 show (if one=[] then [] else one::bF m [] (nxt one []))=_
 rw [if_neg h,mK]
def Ends:Nat->List Int->List Int->Prop
 | 0,one,_=>one=[]
 | n+1,one,other=>one=[]\/Ends n other (nxt one other)
def gr (B:Nat):Nat->Nat
 | 0=>B
 | 1=>2*B
 | k+2=>2*gr B (k+1)+gr B k
theorem Hz (B:Nat):∀ k,gr B k<=gr B (k+1)
 | 0=>by show B<=2*B;omega
 | k+1=>by show gr B (k+1)<=2*gr B (k+1)+gr B k;omega
theorem fu (B:Nat) {j k:Nat} (h:j<=k):gr B j<=gr B k:=by
 induction h with
 | refl=>exact Nat.le_refl _
 | step _ ih=>exact Nat.le_trans ih (Hz B _)
theorem tU (B j:Nat):∀ d,gr B j+(d+2)*gr B (j+1)<=gr B (j+2+d)
 | 0=>by show gr B j+2*gr B (j+1)<=2*gr B (j+1)+gr B j;omega
 | d+1=>by
   have ih:=tU B j d
   have e:gr B (j+2+(d+1))=2*gr B (j+2+d)+gr B (j+1+d):=by
    have:j+2+(d+1)=(j+1+d)+2:=by omega
    rw [this]
    show 2*gr B (j+1+d+1)+gr B (j+1+d)=_
    have e2:j+1+d+1=j+2+d:=by omega
    rw [e2]
   have hm:gr B (j+1)<=gr B (j+1+d):=fu B (by omega)
   rw [e,Nat.add_mul] at *
   have e3:(d+1)*gr B (j+1)=d*gr B (j+1)+gr B (j+1):=by rw [Nat.add_mul,Nat.one_mul]
   omega
end RM
namespace RM
theorem fT (a:List Int):ad [] a=[]:=by unfold ad;rw [if_pos (.inl rfl)]
theorem gI (a:List Int):ad a []=[]:=by unfold ad;rw [if_pos (.inr rfl)]
theorem mW (a b:List Int):ad a b=ad b a:=by
 by_cases ha:a=[]
 ·rw [ha,fT,gI]
 by_cases hb:b=[]
 ·rw [hb,fT,gI]
 refine dP ?_ fun k _=>?_
 ·rw [bM ha hb,bM hb ha];omega
 ·rw [aP,aP,fS]
theorem ly {a b:List Int} (ha:a≠[]) (hb:b≠[]):ad a b≠[]:=fun z=>by
 have:=bM ha hb
 rw [z,List.length_nil] at this
 have:=List.length_pos_iff.mpr ha
 have:=List.length_pos_iff.mpr hb
 omega
theorem gJ (a b c:List Int):ad (ad a b) c=ad a (ad b c):=by
 by_cases ha:a=[]
 ·rw [ha,fT,fT,fT]
 by_cases hb:b=[]
 ·rw [hb,fT,gI,fT]
 by_cases hc:c=[]
 ·rw [hc,gI,gI,gI]
 have h1:=ly ha hb
 have h2:=ly hb hc
 refine dP ?_ fun k _=>?_
 ·have:=List.length_pos_iff.mpr hb
  rw [bM h1 hc,bM ha h2,bM ha hb,bM hb hc];omega
 ·rw [aP,aP,lx]
instance:Std.Commutative ad:=⟨mW⟩
instance:Std.Associative ad:=⟨gJ⟩
theorem mX (a:List Int):ad [1] a=a:=by
 by_cases ha:a=[]
 ·rw [ha,gI]
 refine dP ?_ fun k _=>?_
 ·rw [bM (by simp) ha];simp
 ·rw [aP,fi];omega
theorem cO (a:List Int):ad a [1]=a:=by rw [mW,mX]
theorem pln_one:Pln [1]:=⟨tr_snoc (r:=[]).mpr (by decide),by simp,by decide,by decide⟩
theorem x3 {a:List Int} (h:Pln a):1<=a.length:=List.length_pos_iff.mpr h.ne
def Sim (a b:List Int):Prop:=∃ x y:Int,x≠0/\y≠0/\∀ n,x*cf a n=y*cf b n
theorem Sim.refl (a:List Int):Sim a a:=⟨1,1,by decide,by decide,fun _=>rfl⟩
theorem Sim.dv {a b d:List Int} (h:Sim a b) (hd:Dv d b):Dv d a:=by
 obtain ⟨x,y,hx,hy,e⟩:=h
 exact Dv.prop_right hx e hd
theorem Sim.symm {a b:List Int} (h:Sim a b):Sim b a:=by
 obtain ⟨x,y,hx,hy,e⟩:=h
 exact ⟨y,x,hy,hx,fun n=>(e n).symm⟩
theorem Dv.cancel {d a b:List Int} (hd:d≠[]) (ht:Tr d) (h:Dv (ad d a) (ad d b)):Dv a b:=by
 obtain ⟨c,q,hc,e⟩:=h
 have key:∀ k,cf (dM (-1) (scL c b) (ad q a)) k=0:=by
  refine yy hd ht fun n _=>?_
  rw [d7 (a:=b) (b:=ad q a) (x:=c) (y := -1) (fun k=>by rw [gQ,bJ])]
  have e1:aw (ad q a) d n=aw q (ad d a) n:=by
   rw [<- aP,<- aP]
   congr 1
   rw [gJ,mW a d]
  have e2:=e n
  rw [aP,fS] at e2
  rw [e1,<- e2];omega
 refine ⟨c,q,hc,fun n=>?_⟩
 have:=key n
 rw [gQ,bJ,aP] at this
 omega
theorem DC {d a b:List Int} (hd:Pln d) (ha:Pln a) (hb:Pln b) (h:ad d a=ad d b):a=b :=
 sy ha hb (Dv.cancel hd.ne hd.tr (h ▸ Dv.refl _)) (Dv.cancel hd.ne hd.tr (h ▸ Dv.refl _))
def prd (ss:List (List Int)):List Int:=ss.foldr ad [1]
theorem zA:∀ (ss:List (List Int)) (acc:List Int),ss.foldl ad acc=ad acc (prd ss)
 | [],acc=>(cO acc).symm
 | s::ss,acc=>by
   show ss.foldl ad (ad acc s)=ad acc (ad s (prd ss))
   rw [zA ss,gJ]
theorem ii:∀ (ss:List (List Int)),(∀ s∈ss,Pln s)->Pln (prd ss)
 | [],_=>pln_one
 | s::ss,h=>(h s (List.mem_cons_self ..)).mul (ii ss fun x hx=>h x (List.mem_cons_of_mem _ hx))
structure Pri (s:List Int):Prop where
 pln:Pln s
 two:2<=s.length
 or:∀ a b,Dv s (ad a b)->Dv s a\/Dv s b
theorem Pri.not_one {s:List Int} (h:Pri s):¬ Dv s [1]:=fun z=>by
 have:=Dv.short h.pln.ne h.pln.tr pln_one.tr (by have:=h.two;show 1<s.length;omega) z
 exact absurd this (by simp)
theorem Pri.prd {s:List Int} (h:Pri s):∀ ss:List (List Int),Dv s (prd ss)->∃ t∈ss,Dv s t
 | [],hd=>absurd hd h.not_one
 | t::ss,hd=>by
   rcases h.or t (RM.prd ss) hd with z | z
   ·exact ⟨t,List.mem_cons_self ..,z⟩
   ·obtain ⟨t',ht,z'⟩:=Pri.prd h ss z
    exact ⟨t',List.mem_cons_of_mem _ ht,z'⟩
theorem Pri.same {s t:List Int} (hs:Pri s) (ht:Pri t) (h:Dv s t):s=t:=by
 obtain ⟨q,hq,e⟩:=h.fellow hs.pln ht.pln.tr ht.pln.ne
 rw [ht.pln.plain] at e
 have l:=bM hq.ne hs.pln.ne
 rw [e] at l
 have:=hs.two
 have:=x3 hq
 rcases ht.or q s (e ▸ Dv.refl _) with z | z
 ·exact absurd (Dv.short ht.pln.ne ht.pln.tr hq.tr (by omega) z) hq.ne
 ·exact sy hs.pln ht.pln h z
theorem qj:∀ (ps:List (List Int)) {E:List Int},(∀ p∈ps,Pri p)->Pln E->Dv E (prd ps)->E=[1]\/∃ p∈ps,Dv p E
 | [],E,_,hE,h=>by
   refine .inl (hE.const ?_)
   have:=x3 hE
   refine Classical.byContradiction fun z=>?_
   have:=Dv.short hE.ne hE.tr pln_one.tr (by show 1<E.length;omega) h
   exact absurd this (by simp)
 | p::ps,E,hp,hE,h=>by
   obtain ⟨c,q,hc,e⟩:=h
   have P:=hp p (List.mem_cons_self ..)
   have d1:Dv p (ad q E):=Dv.prop_right (x:=1) (y:=c) (by decide) (fun n=>by
    show 1*cf (ad q E) n=c*cf (RM.prd (p::ps)) n
    rw [e,aP];omega) (Dv.mul_left p (prd ps))
   rcases P.or q E d1 with z | z
   ·obtain ⟨c',q',hc',e'⟩:=z
    have d2:Dv (ad p E) (ad p (prd ps)):=by
     refine ⟨c*c',q',Int.mul_ne_zero hc hc',fun n=>?_⟩
     have e1:=e n
     rw [show ad p (prd ps)=RM.prd (p::ps) from rfl]
     have e2:aw (ad q' p) E n=c'*aw q E n:=by
      have:=d7 (a:=q) (b:=[]) (x:=c') (y:=0) (c:=ad q' p) (q:=E) (n:=n) (fun k=>by rw [aP,<- e'];simp)
      rw [this];simp
     rw [<- lx,e2,<- e1,Int.mul_comm c c',Int.mul_assoc]
    rcases qj ps (fun x hx=>hp x (List.mem_cons_of_mem _ hx)) hE (Dv.cancel P.pln.ne P.pln.tr d2) with w | ⟨t,ht,w⟩
    ·exact .inl w
    ·exact .inr ⟨t,List.mem_cons_of_mem _ ht,w⟩
   ·exact .inr ⟨p,List.mem_cons_self ..,z⟩
theorem JN {A B C D L M:List Int} {ps:List (List Int)} (hC:Pln C) (cA:Dv C A) (cB:Dv C B) (call:∀ d,Dv d A->Dv d B->Dv d C) (hD:Pln D) (sA:Sim A (ad D L)) (sB:Sim B (ad D M)) (hps:∀ p∈ps,Pri p) (hL:L=prd ps) (hM:∀ p∈ps,¬ Dv p M):C=D:=by
 have dC:Dv D C:=call D (sA.dv (Dv.mul_left _ _)) (sB.dv (Dv.mul_left _ _))
 obtain ⟨E,hE,e⟩:=dC.fellow hD hC.tr hC.ne
 rw [hC.plain,mW] at e
 have EL:Dv E L:=Dv.cancel hD.ne hD.tr (by rw [e];exact sA.symm.dv cA)
 have EM:Dv E M:=Dv.cancel hD.ne hD.tr (by rw [e];exact sB.symm.dv cB)
 rw [hL] at EL
 rcases qj ps hps hE EL with z | ⟨p,hp,z⟩
 ·rw [<- e,z,cO]
 ·exact absurd (z.trans EM) (hM p hp)
theorem ya {A D L:List Int} (hA:Tr A) (hAn:A≠[]) (hD:Pln D) (hL:Pln L) (e:aB A=ad D L):aR A D=[]/\aB (ci A D)=L:=by
 have dv:Dv D A:=(Dv.plain hA).mp (by rw [e];exact Dv.mul_left _ _)
 have hr:=dv.rest hD.ne hD.tr
 refine ⟨hr,?_⟩
 have eq:=fun n=>gM (a:=A) hD.ne n
 have m:=x4 (nN (a:=A) hD.ne hD.tr) hA hAn (uS hD.ne hA hD.tr) hD (fun n=>by rw [eq n,hr,cz];omega)
 have hq:ci A D≠[]:=fun z=>by
  rw [z] at m
  have:aB []=[]:=rfl
  rw [this,fT,e] at m
  exact ly hD.ne hL.ne m.symm
 have pq:=eG (uS hD.ne hA hD.tr) hq
 refine DC hD pq hL ?_
 rw [mW,m,e]
theorem ei (l:List Int) (n:Nat):cf (slopeL l) n=((n:Int)+1)*cf l (n+1):=by
 unfold slopeL
 rw [nU]
 by_cases h:n<l.length-1
 ·rw [if_pos h]
 ·rw [if_neg h,cC (l:=l) (by omega),Int.mul_zero]
theorem xi (x:Int) (a:List Int) (n:Nat):cf (slopeL (x::a)) n=1*cf a n+1*cf (0::slopeL a) n:=by
 rw [ei,qo,qp]
 cases n with
 | zero=>show (((0:Nat):Int)+1)*cf a 0=1*cf a 0+1*0;omega
 | succ n =>
   show (((n+1:Nat):Int)+1)*cf a (n+1)=1*cf a (n+1)+1*cf (slopeL a) n
   rw [ei]
   have:((n+1:Nat):Int)=(n:Int)+1:=by omega
   rw [this,Int.add_mul];omega
theorem rQ:∀ (a b:List Int) (n:Nat),cf (slopeL (ad a b)) n=aw (slopeL a) b n+aw a (slopeL b) n
 | [],b,n=>by
   rw [fT]
   show cf (slopeL []) n=aw (slopeL []) b n+aw [] (slopeL b) n
   have:slopeL []=[]:=rfl
   rw [this,cz,d6,d6];omega
 | x::a,b,n=>by
   rw [ei,aP,dI,d7 (q:=b) (xi x a),yz,dI,ei]
   show ((n:Int)+1)*(x*cf b (n+1)+aw a b n)=_
   cases n with
   | zero =>
     show (((0:Nat):Int)+1)*(x*cf b 1+aw a b 0)=1*aw a b 0+1*0+(x*((((0:Nat):Int)+1)*cf b 1)+0)
     simp
     omega
   | succ n =>
     have ih:=rQ a b n
     rw [ei,aP] at ih
     show (((n+1:Nat):Int)+1)*(x*cf b (n+1+1)+aw a b (n+1))=1*aw a b (n+1)+1*aw (slopeL a) b n+(x*((((n+1:Nat):Int)+1)*cf b (n+1+1))+aw a (slopeL b) n)
     have:((n+1:Nat):Int)=(n:Int)+1:=by omega
     rw [this]
     generalize aw a b (n+1)=z at *
     generalize aw (slopeL a) b n=z1 at *
     generalize aw a (slopeL b) n=z2 at *
     generalize cf b (n+1+1)=z3 at *
     generalize (n:Int)=m at *
     grind
def pw (s:List Int):Nat->List Int
 | 0=>[1]
 | n+1=>ad s (pw s n)
theorem fM (s:List Int):pw s 1=s:=cO s
theorem xT (s:List Int):∀ a b,ad (pw s a) (pw s b)=pw s (a+b)
 | 0,b=>by rw [Nat.zero_add];exact mX _
 | a+1,b=>by
   rw [show a+1+b=a+b+1 by omega]
   show ad (ad s (pw s a)) (pw s b)=ad s (pw s (a+b))
   rw [gJ,xT s a b]
theorem xS {s:List Int} (h:Pln s):∀ n,Pln (pw s n)
 | 0=>pln_one
 | n+1=>h.mul (xS h n)
theorem xg (s:List Int):∀ (k n:Nat),cf (slopeL (pw s (k+1))) n=((k:Int)+1)*aw (slopeL s) (pw s k) n
 | 0,n=>by
   rw [fM]
   show _=(((0:Nat):Int)+1)*aw (slopeL s) [1] n
   rw [fS,fi];omega
 | k+1,n=>by
   show cf (slopeL (ad s (pw s (k+1)))) n=_
   rw [rQ]
   have e:aw s (slopeL (pw s (k+1))) n=((k:Int)+1)*aw s (ad (slopeL s) (pw s k)) n:=mV fun j=>by rw [xg s k j,aP]
   have e2:aw s (ad (slopeL s) (pw s k)) n=aw (slopeL s) (pw s (k+1)) n:=by
    show _=aw (slopeL s) (ad s (pw s k)) n
    rw [<- aP,<- aP]
    congr 1
    ac_rfl
   rw [e,e2]
   have:((k+1:Nat):Int)=(k:Int)+1:=by omega
   rw [this,Int.add_mul ((k:Int)+1) 1];omega
def fP (g:Nat->Nat) (us:List (List Int×Nat)):List Int:=us.foldr (fun p acc=>ad (pw p.1 (g p.2)) acc) [1]
theorem eK (g:Nat->Nat) (p:List Int×Nat) (us:List (List Int×Nat)):fP g (p::us)=ad (pw p.1 (g p.2)) (fP g us):=rfl
theorem uP (g h:Nat->Nat):∀ us,ad (fP g us) (fP h us)=fP (fun m=>g m+h m) us
 | []=>mX _
 | p::us=>by
   rw [eK,eK,eK,<- uP g h us,<- xT]
   ac_rfl
theorem lN {g h:Nat->Nat}:∀ us:List (List Int×Nat),(∀ p∈us,g p.2=h p.2)->fP g us=fP h us
 | [],_=>rfl
 | p::us,H=>by
   rw [eK,eK,H p (List.mem_cons_self ..),lN us fun x hx=>H x (List.mem_cons_of_mem _ hx)]
theorem zI {g:Nat->Nat}:∀ us:List (List Int×Nat),(∀ p∈us,Pri p.1)->Pln (fP g us)
 | [],_=>pln_one
 | p::us,h=>(xS (h p (List.mem_cons_self ..)).pln _).mul (zI us fun x hx=>h x (List.mem_cons_of_mem _ hx))
theorem zH (c:Nat->Bool):∀ us:List (List Int×Nat),fP (fun m=>if c m then 1 else 0) us=prd ((us.filter fun p=>c p.2).map (·.1))
 | []=>rfl
 | p::us=>by
   rw [eK,zH c us,List.filter_cons]
   cases h:c p.2 with
   | true =>
     simp only [if_true,List.map_cons]
     rw [fM];rfl
   | false =>
     simp only [Bool.false_eq_true,if_false]
     exact mX _
theorem zJ {g:Nat->Nat}:∀ (us:List (List Int×Nat)) {p:List Int×Nat},p∈us->0<g p.2->Dv p.1 (fP g us)
 | q::us,p,hp,h0=>by
   rw [eK]
   rcases List.mem_cons.mp hp with rfl | hp
   ·obtain ⟨k,hk⟩:∃ k,g p.2=k+1:=⟨g p.2-1,by omega⟩
    rw [hk]
    show Dv p.1 (ad (ad p.1 (pw p.1 k)) _)
    rw [gJ]
    exact Dv.mul_left _ _
   ·exact (zJ us hp h0).trans (Dv.mul_right _ _)
theorem Pri.pw {s t:List Int} (h:Pri s):∀ n,Dv s (pw t n)->0<n/\Dv s t
 | 0,hd=>absurd hd h.not_one
 | n+1,hd=>by
   refine ⟨by omega,?_⟩
   rcases h.or t (RM.pw t n) hd with z | z
   ·exact z
   ·exact (Pri.pw h n z).2
theorem Pri.fP {s:List Int} (h:Pri s) {g:Nat->Nat}:∀ us:List (List Int×Nat),Dv s (fP g us)->∃ p∈us,0<g p.2/\Dv s p.1
 | [],hd=>absurd hd h.not_one
 | p::us,hd=>by
   rcases h.or (RM.pw p.1 (g p.2)) (RM.fP g us) hd with z | z
   ·exact ⟨p,List.mem_cons_self ..,(h.pw _ z)⟩
   ·obtain ⟨q,hq,z'⟩:=Pri.fP h us z
    exact ⟨q,List.mem_cons_of_mem _ hq,z'⟩
structure Use (us:List (List Int×Nat)):Prop where
 pri:∀ p∈us,Pri p.1
 pos:∀ p∈us,1<=p.2
 nd:(us.map (·.1)).Nodup
theorem Use.tail {p:List Int×Nat} {us:List (List Int×Nat)} (h:Use (p::us)):Use us :=
 ⟨fun x hx=>h.pri x (List.mem_cons_of_mem _ hx),fun x hx=>h.pos x (List.mem_cons_of_mem _ hx),(List.nodup_cons.mp h.nd).2⟩
theorem Use.head {p q:List Int×Nat} {us:List (List Int×Nat)} (h:Use (p::us)) (hq:q∈us):p.1≠q.1:=fun z =>
 (List.nodup_cons.mp h.nd).1 (List.mem_map.mpr ⟨q,hq,z.symm⟩)
theorem fW (l:List Int):(slopeL l).length=l.length-1:=by unfold slopeL;simp
theorem gU {l:List Int} (h:Tr l):Tr (slopeL l):=fun n hn=>by
 rw [fW] at hn
 rw [ei]
 exact Int.mul_ne_zero (by omega) (h (n+1) (by omega))
theorem xh:∀ us:List (List Int×Nat),Use us->∃ M,(∀ n,cf (slopeL (fP id us)) n=aw (fP (·-1) us) M n)/\∀ q∈us,¬ Dv q.1 M
 | [],_=>⟨[],fun n=>by
  show cf (slopeL [1]) n=aw [1] [] n
  rw [sV];exact cz n,fun _ h=>nomatch h⟩
 | p::us,h=>by
   obtain ⟨M',e',h'⟩:=xh us h.tail
   obtain ⟨s,m⟩:=p
   have P:Pri s:=h.pri _ (List.mem_cons_self ..)
   obtain ⟨k,hk⟩:∃ k,m=k+1:=⟨m-1,by have:=h.pos _ (List.mem_cons_self ..);simp at this;omega⟩
   subst hk
   have eF:fP id us=ad (fP (·-1) us) (fP (fun _=>1) us):=by
    rw [uP]
    exact lN us fun p hp=>by have:=h.tail.pos p hp;show p.2=p.2-1+1;omega
   have hX:∀ n,cf (dM 1 (ad (scL ((k:Int)+1) (slopeL s)) (fP (fun _=>1) us)) (ad s M')) n=1*cf (ad (scL ((k:Int)+1) (slopeL s)) (fP (fun _=>1) us)) n+1*cf (ad s M') n:=fun n=>by rw [gQ];omega
   refine ⟨dM 1 (ad (scL ((k:Int)+1) (slopeL s)) (fP (fun _=>1) us)) (ad s M'),fun n=>?_,fun q hq hd=>?_⟩
   ·rw [eK,eK]
    show cf (slopeL (ad (pw s (k+1)) (fP id us))) n=aw (ad (pw s k) (fP (·-1) us)) _ n
    rw [rQ,yA hX]
    have a1:aw (slopeL (pw s (k+1))) (fP id us) n=aw (ad (pw s k) (fP (·-1) us)) (ad (scL ((k:Int)+1) (slopeL s)) (fP (fun _=>1) us)) n:=by
     rw [eF]
     have:aw (slopeL (pw s (k+1))) (ad (fP (·-1) us) (fP (fun _=>1) us)) n=aw (ad (scL ((k:Int)+1) (slopeL s)) (pw s k)) (ad (fP (·-1) us) (fP (fun _=>1) us)) n:=by
      refine pE (fun j=>?_) fun _=>rfl
      rw [xg,aP]
      have:=d7 (a:=slopeL s) (b:=[]) (x:=(k:Int)+1) (y:=0) (c:=scL ((k:Int)+1) (slopeL s)) (q:=pw s k) (n:=j) (fun i=>by rw [bJ];simp)
      rw [this];simp
     rw [this,<- aP,<- aP]
     congr 1
     ac_rfl
    have a2:aw (pw s (k+1)) (slopeL (fP id us)) n=aw (ad (pw s k) (fP (·-1) us)) (ad s M') n:=by
     rw [pE (a':=pw s (k+1)) (b':=ad (fP (·-1) us) M') (fun _=>rfl) (fun j=>by rw [e',aP])]
     show aw (ad s (pw s k)) _ n=_
     rw [<- aP,<- aP]
     congr 1
     ac_rfl
    rw [a1,a2];omega
   ·have hX':∀ n,1*cf (dM 1 (ad (scL ((k:Int)+1) (slopeL s)) (fP (fun _=>1) us)) (ad s M')) n=aw M' s n+cf (ad (scL ((k:Int)+1) (slopeL s)) (fP (fun _=>1) us)) n:=fun n=>by
     rw [hX,aP s,fS s];omega
    rcases List.mem_cons.mp hq with rfl | hq
    ·have d1:=Dv.down hX' hd (Dv.refl _)
     rcases P.or _ _ d1 with z | z
     ·have t:Tr (scL ((k:Int)+1) (slopeL s)):=mv (by omega) (gU P.pln.tr)
      have l:(scL ((k:Int)+1) (slopeL s)).length=s.length-1:=by rw [ck,fW]
      have:=P.two
      have n:=Dv.short P.pln.ne P.pln.tr t (by omega) z
      rw [n] at l
      simp at l
      omega
     ·obtain ⟨q',hq',_,w⟩:=P.fP us z
      exact h.head hq' (P.same (h.tail.pri q' hq') w)
    ·have Q:=h.tail.pri q hq
     have d0:Dv q.1 (ad (scL ((k:Int)+1) (slopeL s)) (fP (fun _=>1) us)):=(zJ us hq (g:=fun _=>1) (by decide)).trans (Dv.mul_right _ _)
     have d1:Dv q.1 (ad s M'):=Dv.down (f:=1) (q:=[1]) (fun n=>by rw [hX,fi];omega) hd d0
     rcases Q.or _ _ d1 with z | z
     ·exact h.head hq (Q.same P z).symm
     ·exact h' q hq z
theorem CW {s a b:List Int} (hs:s≠[]) (h:Dv s (ad a b)):Dv s (ad (aR a s) (aR b s)):=by
 have e1:=fun n=>gM (a:=a) hs n
 have e2:=fun n=>gM (a:=b) hs n
 have d1:Dv s (ad (aR a s) b):=by
  refine Dv.down (f:=cq a s) (q:=ad (ci a s) b) (b:=s) (fun n=>?_) h (Dv.refl _)
  rw [aP,aP]
  have l:=d7 (a:=ad (ci a s) s) (b:=aR a s) (x:=1) (y:=1) (c:=scL (cq a s) a) (q:=b) (n:=n) (fun k=>by rw [bJ,e1,aP];omega)
  have l2:=d7 (a:=a) (b:=[]) (x:=cq a s) (y:=0) (c:=scL (cq a s) a) (q:=b) (n:=n) (fun k=>by rw [bJ];simp)
  have l3:aw (ad (ci a s) s) b n=aw (ad (ci a s) b) s n:=by
   rw [<- aP,<- aP]
   congr 1
   ac_rfl
  rw [l2,l3] at l
  rw [d6] at l
  omega
 refine Dv.down (f:=cq b s) (q:=ad (aR a s) (ci b s)) (b:=s) (fun n=>?_) d1 (Dv.refl _)
 rw [aP,aP]
 have l:=yA (a:=ad (ci b s) s) (b:=aR b s) (x:=1) (y:=1) (c:=scL (cq b s) b) (q:=aR a s) (n:=n) (fun k=>by rw [bJ,e2,aP];omega)
 have l2:=mV (a:=aR a s) (b:=b) (b':=scL (cq b s) b) (c:=cq b s) (n:=n) (fun k=>by rw [bJ])
 have l3:aw (aR a s) (ad (ci b s) s) n=aw (ad (aR a s) (ci b s)) s n:=by
  rw [<- aP,<- aP]
  congr 1
  ac_rfl
 rw [l2,l3] at l
 omega
theorem uQ {s a:List Int} (hs:s≠[]) (ht:Tr s) (h:aR a s=[]):Dv s a :=
 ⟨cq a s,ci a s,nN hs ht,fun n=>by rw [gM hs,h,cz];omega⟩
def aK (u e b:Int):List Int:=if e=0 then [-u,b] else [u*u-e,-2*b*u,b*b]
theorem fI {u e b:Int} (hb:1<=b):Tr (aK u e b)/\2<=(aK u e b).length:=by
 unfold aK
 split
 ·exact ⟨(tr_snoc (r:=[-u])).mpr (by omega),by show 2<=2;decide⟩
 ·exact ⟨(tr_snoc (r:=[u*u-e,-2*b*u])).mpr (Int.mul_ne_zero (by omega) (by omega)),by show 2<=3;decide⟩
theorem yj {n e:Int} (hn:0<=n) (h1:n*n<e) (h2:e<(n+1)*(n+1)):∀ (k:Nat) (x y:Int),x.toNat<=k->0<x->0<=y->e*(x*x)=y*y->False
 | 0,x,y,hk,hx,_,_=>by omega
 | k+1,x,y,hk,hx,hy,h=>by
   have hxx:0<x*x:=Int.mul_pos hx hx
   have a1:n*x<y:=by
    refine Int.not_le.mp fun z=>?_
    have:=Int.mul_le_mul z z hy (Int.le_trans hy z)
    have:=Int.mul_lt_mul_of_pos_right h1 hxx
    have e1:n*x*(n*x)=n*n*(x*x):=by grind
    omega
   have a2:y<(n+1)*x:=by
    refine Int.not_le.mp fun z=>?_
    have z0:0<=(n+1)*x:=Int.mul_nonneg (by omega) (by omega)
    have:=Int.mul_le_mul z z z0 hy
    have:=Int.mul_lt_mul_of_pos_right h2 hxx
    have e1:(n+1)*x*((n+1)*x)=(n+1)*(n+1)*(x*x):=by grind
    omega
   have a3:(n+1)*x=n*x+x:=by rw [Int.add_mul];omega
   refine yj hn h1 h2 k (y-n*x) ((e*x-n*y).natAbs:Int) (by omega) (by omega) (by omega) ?_
   rw [Int.natAbs_mul_self' (e*x-n*y)]
   grind
def NS (e:Int):Prop:=e<=0\/∃ n:Int,0<=n/\n*n<e/\e<(n+1)*(n+1)
theorem NS.no {e x y:Int} (h:NS e) (he:e≠0) (hx:x≠0) (eq:x*x*e=y*y):False:=by
 rcases h with h | ⟨n,hn,h1,h2⟩
 ·have hxx:0<x*x:=by
   rcases Int.lt_or_gt_of_ne hx with z | z
   ·exact Int.mul_pos_of_neg_of_neg z z
   ·exact Int.mul_pos z z
  have:x*x*e<0:=Int.mul_neg_of_pos_of_neg hxx (by omega)
  have:0<=y*y:=by
   rcases Int.le_total 0 y with z | z
   ·exact Int.mul_nonneg z z
   ·exact Int.mul_nonneg_of_nonpos_of_nonpos z z
  omega
 ·refine yj hn h1 h2 _ (x.natAbs:Int) (y.natAbs:Int) (Nat.le_refl _) (by omega) (by omega) ?_
  rw [Int.natAbs_mul_self' x,Int.natAbs_mul_self' y,<- eq,Int.mul_comm]
theorem De {u e b:Int} (hb:1<=b) (he:NS e) {p q:List Int} (h:Dv (aK u e b) (ad p q)):Dv (aK u e b) p\/Dv (aK u e b) q:=by
 obtain ⟨tr,l2⟩:=fI (u:=u) (e:=e) hb
 have hne:aK u e b≠[]:=fun z=>by rw [z] at l2;simp at l2
 by_cases hp:aR p (aK u e b)=[]
 ·exact .inl (uQ hne tr hp)
 by_cases hq:aR q (aK u e b)=[]
 ·exact .inr (uQ hne tr hq)
 exfalso
 have d:=CW hne h
 have t1:=fy p (aK u e b)
 have t2:=fy q (aK u e b)
 have n1:=gf (a:=p) hne
 have n2:=gf (a:=q) hne
 generalize aR p (aK u e b)=r1 at *
 generalize aR q (aK u e b)=r2 at *
 have lm:=bM hp hq
 have p1:=List.length_pos_iff.mpr hp
 have p2:=List.length_pos_iff.mpr hq
 by_cases hs:(ad r1 r2).length<(aK u e b).length
 ·exact ly hp hq (Dv.short hne tr (oz t1 t2) hs d)
 by_cases h0:e=0
 ·have:(aK u e b).length=2:=by unfold aK;rw [if_pos h0];rfl
  omega
 have er:aK u e b=[u*u-e,-2*b*u,b*b]:=by unfold aK;rw [if_neg h0]
 rw [er] at hs n1 n2 d hne tr
 simp only [List.length_cons,List.length_nil] at hs n1 n2
 obtain ⟨α,β,rfl⟩:∃ α β,r1=[α,β]:=by
  match r1,(show r1.length=2 by omega) with
  | [α,β],_=>exact ⟨α,β,rfl⟩
 obtain ⟨γ,δ,rfl⟩:∃ γ δ,r2=[γ,δ]:=by
  match r2,(show r2.length=2 by omega) with
  | [γ,δ],_=>exact ⟨γ,δ,rfl⟩
 have hβ:β≠0:=(tr_snoc (r:=[α])).mp t1
 have hδ:δ≠0:=(tr_snoc (r:=[γ])).mp t2
 have em:ad [α,β] [γ,δ]=[α*γ,α*δ+β*γ,β*δ]:=by
  refine dP (by rw [lm];rfl) fun k hk=>?_
  rw [lm] at hk
  rw [aP]
  have hk':k<3:=hk
  have:k=0\/k=1\/k=2:=by omega
  rcases this with rfl | rfl | rfl
  ·show (0+(α*γ))+0=α*γ;omega
  ·show (0+(α*δ))+(β*γ)=α*δ+β*γ;omega
  ·show (0+α*cf [γ,δ] 2)+(β*δ)=β*δ
   have:cf [γ,δ] 2=0:=rfl
   rw [this];simp
 rw [em] at d
 have hr:=d.rest hne tr
 have eqn:=fun n=>gM (a:=[α*γ,α*δ+β*γ,β*δ]) hne n
 have hf:=nN (a:=[α*γ,α*δ+β*γ,β*δ]) hne tr
 have lq:=uU (a:=[α*γ,α*δ+β*γ,β*δ]) hne
 generalize cq [α*γ,α*δ+β*γ,β*δ] [u*u-e,-2*b*u,b*b]=f at *
 generalize ci [α*γ,α*δ+β*γ,β*δ] [u*u-e,-2*b*u,b*b]=Q at *
 rw [hr] at eqn
 have lq':Q.length=1:=lq
 obtain ⟨κ,rfl⟩:∃ κ,Q=[κ]:=List.length_eq_one_iff.mp lq'
 have g0:=eqn 0
 have g1:=eqn 1
 have g2:=eqn 2
 rw [fi,cz] at g0 g1 g2
 replace g0:f*(α*γ)=κ*(u*u-e)+0:=g0
 replace g1:f*(α*δ+β*γ)=κ*(-2*b*u)+0:=g1
 replace g2:f*(β*δ)=κ*(b*b)+0:=g2
 have hκ:κ≠0:=fun z=>by
  rw [z,Int.zero_mul] at g2
  exact Int.mul_ne_zero hf (Int.mul_ne_zero hβ hδ) (by omega)
 refine he.no h0 (x:=2*κ*b) (y:=f*(α*δ-β*γ)) (Int.mul_ne_zero (Int.mul_ne_zero (by decide) hκ) (by omega)) ?_
 have k1:f*(α*δ-β*γ)*(f*(α*δ-β*γ))=f*(α*δ+β*γ)*(f*(α*δ+β*γ))-4*((f*(α*γ))*(f*(β*δ))):=by grind
 rw [k1,g0,g1,g2]
 grind
theorem Dd {u e b:Int} (hb:1<=b) (he:NS e):Pri (aB (aK u e b)):=by
 obtain ⟨tr,l2⟩:=fI (u:=u) (e:=e) hb
 have hne:aK u e b≠[]:=fun z=>by rw [z] at l2;simp at l2
 obtain ⟨g,hg,eg⟩:=lf tr
 have to:∀ p,Dv (aB (aK u e b)) p->Dv (aK u e b) p:=fun p h=>Dv.prop_left (x:=1) (y:=g) (by decide) hg (fun n=>by rw [eg];omega) h
 have fr:∀ p,Dv (aK u e b) p->Dv (aB (aK u e b)) p:=fun p h=>Dv.prop_left (x:=g) (y:=1) hg (by decide) (fun n=>by rw [<- eg];omega) h
 refine ⟨eG tr hne,by rw [plain_len];exact l2,fun p q h=>?_⟩
 exact (De hb he (to _ h)).imp (fr _) (fr _)
end RM
namespace RM
def com (xs ys:List Int):List Int:=cJ 20 (aB xs) (aB ys)
structure ComOk (xs ys:List Int):Prop where
 pln:xs≠[]\/ys≠[]->Pln (com xs ys)
 left:Dv (com xs ys) xs
 right:Dv (com xs ys) ys
 all:∀ d,Dv d xs->Dv d ys->Dv d (com xs ys)
theorem zX {xs ys:List Int} (h2:ys.length<=19) (t1:Tr xs) (t2:Tr ys):ComOk xs ys:=by
 obtain ⟨c1,c2,c3,c4,c5,c6⟩:=zY 20 (aB xs) (aB ys) (by rw [plain_len];omega) (gv t1) (gv t2)
 refine ⟨fun h=>?_,(Dv.plain t1).mp c2,(Dv.plain t2).mp c3,fun d a b=>c4 d ((Dv.plain t1).mpr a) ((Dv.plain t2).mpr b)⟩
 have hne:com xs ys≠[]:=c5 (h.imp (fun z q=>z (List.length_eq_zero_iff.mp (by rw [<- plain_len,q];rfl))) (fun z q=>z (List.length_eq_zero_iff.mp (by rw [<- plain_len,q];rfl))))
 obtain ⟨l,tl,el⟩:∃ l,Tr l/\com xs ys=aB l:=by
  rcases c6 with e | e | e
  ·exact ⟨xs,t1,e⟩
  ·exact ⟨ys,t2,e⟩
  ·exact e
 have hl:l≠[]:=fun z=>hne (by rw [el,z];rfl)
 rw [el];exact eG tl hl
theorem JO {A B D L M:List Int} {ps:List (List Int)} (tA:Tr A) (nA:A≠[]) (tB:Tr B) (lB:B.length<=19) (hD:Pln D) (sA:Sim A (ad D L)) (sB:Sim B (ad D M)) (hps:∀ p∈ps,Pri p) (hL:L=prd ps) (hM:∀ p∈ps,¬ Dv p M):com A B=D :=
 have C:=zX lB tA tB
 JN (C.pln (.inl nA)) C.left C.right C.all hD sA sB hps hL hM
def eq1 (k m:Nat):Nat:=if m=k then 1 else 0
def sO (_:Nat):Nat:=1
def mor (us:List (List Int×Nat)) (k:Nat):List Int:=fP (·-k) us
def flt (us:List (List Int×Nat)):List Int:=fP sO us
variable {us:List (List Int×Nat)}
theorem zC:flt us=prd (us.map (·.1)):=by
 have:=zH (fun _=>true) us
 have e:us.filter (fun p=>(fun _=>true) p.2)=us:=List.filter_eq_self.mpr fun _ _=>rfl
 rw [e] at this
 rw [<- this]
 exact lN us fun p _=>rfl
theorem iX (h:Use us) (g:Nat->Nat):Pln (fP g us):=zI us h.pri
def whl (c:Int) (us:List (List Int×Nat)):List Int:=ad [c] (fP id us)
theorem eO (c:Int):whl c us=scL c (fP id us):=by
 unfold whl
 by_cases h:fP id us=[]
 ·rw [h,gI];rfl
 refine dP ?_ fun k _=>?_
 ·rw [bM (by simp) h,ck];simp
 ·rw [aP,fi,bJ]
theorem mq (h:Use us) {c:Int} (hc:c≠0):Tr (whl c us)/\whl c us≠[]/\aB (whl c us)=fP id us:=by
 have pl:=iX h id
 rw [eO]
 refine ⟨mv hc pl.tr,fun z=>pl.ne (List.length_eq_zero_iff.mp (by rw [<- ck c,z];rfl)),?_⟩
 rw [mU hc pl.tr,pl.plain]
theorem v7 (h:Use us):ad (mor us 1) (flt us)=fP id us:=by
 unfold mor flt
 rw [uP]
 exact lN us fun p hp=>by have:=h.pos p hp;show p.2-1+1=p.2;omega
theorem v6 (h:Use us) {c:Int} (hc:c≠0) (hl:(whl c us).length<=20):com (whl c us) (slopeL (whl c us))=mor us 1:=by
 obtain ⟨t,n,p⟩:=mq h hc
 obtain ⟨M,eM,hM⟩:=xh us h
 refine JO (L:=flt us) (M:=M) (ps:=us.map (·.1)) t n (gU t) (by rw [fW];omega) (iX h _) ⟨1,c,by decide,hc,fun k=>?_⟩ ⟨1,c,by decide,hc,fun k=>?_⟩ (fun p hp=>?_) zC (fun p hp=>?_)
 ·rw [v7 h,eO,bJ];omega
 ·rw [aP]
  have e:=eM k
  rw [ei] at e
  show 1*cf (slopeL (whl c us)) k=c*aw (fP (·-1) us) M k
  rw [<- e,ei,eO,bJ]
  grind
 ·obtain ⟨q,hq,rfl⟩:=List.mem_map.mp hp
  exact h.pri q hq
 ·obtain ⟨q,hq,rfl⟩:=List.mem_map.mp hp
  exact hM q hq
theorem A4 (h:Use us) {c:Int} (hc:c≠0):aR (whl c us) (mor us 1)=[]/\aB (ci (whl c us) (mor us 1))=flt us:=by
 obtain ⟨t,n,p⟩:=mq h hc
 exact ya t n (iX h _) (iX h _) (by rw [p,v7 h])
def dgs (g:Nat->Nat):List (List Int×Nat)->Nat
 | []=>0
 | p::us=>g p.2*(p.1.length-1)+dgs g us
theorem zT {g h:Nat->Nat}:∀ us:List (List Int×Nat),(∀ p∈us,g p.2<=h p.2)->dgs g us<=dgs h us
 | [],_=>Nat.le_refl _
 | p::us,H=>by
   have:=zT us fun x hx=>H x (List.mem_cons_of_mem _ hx)
   have:=Nat.mul_le_mul_right (p.1.length-1) (H p (List.mem_cons_self ..))
   show g p.2*_+dgs g us<=h p.2*_+dgs h us
   omega
theorem o6 {s:List Int} (h:s≠[]):∀ n,(pw s n).length=1+n*(s.length-1)/\pw s n≠[]
 | 0=>⟨by rw [Nat.zero_mul];rfl,by simp [pw]⟩
 | n+1=>by
   obtain ⟨a,b⟩:=o6 h n
   have:=List.length_pos_iff.mpr h
   refine ⟨?_,ly h b⟩
   show (ad s (pw s n)).length=_
   rw [bM h b,a,Nat.succ_mul];omega
theorem qg (g:Nat->Nat):∀ us:List (List Int×Nat),(∀ p∈us,p.1≠[])->(fP g us).length=1+dgs g us/\fP g us≠[]
 | [],_=>⟨rfl,by simp [fP]⟩
 | p::us,H=>by
   obtain ⟨a,b⟩:=qg g us fun x hx=>H x (List.mem_cons_of_mem _ hx)
   obtain ⟨c,d⟩:=o6 (H p (List.mem_cons_self ..)) (g p.2)
   rw [eK]
   refine ⟨?_,ly d b⟩
   rw [bM d b,a,c]
   show _=1+(g p.2*_+dgs g us)
   omega
end RM
namespace RM
def aY (sq due:Int):Int:=if due<0\/due*due<sq then 1 else 0-(if sq<due*due then 1 else 0)
def au (l:List Int) (t n:Int):Int:=if 0<cf l 3 then aY (cf l 1*n*n) (cf l 2*t-cf l 0*n) else 0-aY (cf l 1*n*n) (0-(cf l 2*t-cf l 0*n))
theorem ca (sq d:Int):(aY sq d=1/\(d<0\/d*d<sq))\/(aY sq d=0/\0<=d/\d*d=sq)\/(aY sq d = -1/\0<=d/\sq<d*d):=by
 unfold aY
 by_cases h:d<0\/d*d<sq
 ·rw [if_pos h];exact .inl ⟨rfl,h⟩
 ·rw [if_neg h]
  by_cases h2:sq<d*d
  ·rw [if_pos h2];exact .inr (.inr ⟨rfl,by omega,h2⟩)
  ·rw [if_neg h2];exact .inr (.inl ⟨rfl,by omega,by omega⟩)
structure Spt (l:List Int):Prop where
 is:∃ u e b s:Int,l=[u,e,b,s]/\0<=e/\1<=b/\(s=1\/s = -1)
theorem gX {x y:Int} (hx:0<=x) (h:x<=y):x*x<=y*y:=Int.mul_le_mul h h hx (by omega)
theorem qJ {x y:Int} (hx:0<=x) (h:x<y):x*x<y*y:=by
 have h1:x*x<=x*y:=Int.mul_le_mul_of_nonneg_left (Int.le_of_lt h) hx
 have h2:x*y<y*y:=Int.mul_lt_mul_of_pos_right h (by omega)
 omega
theorem Gr {x y:Int} (hy:0<=y) (h:x*x<y*y):x<y:=Int.not_le.mp fun z=>by
 have:=gX hy z
 omega
theorem Gx {x y:Int} (hy:0<=y) (h:x*x<=y*y):x<=y:=Int.not_lt.mp fun z=>by
 have:=qJ hy z
 omega
theorem wE {g sq d:Int} (hg:0<g):aY (sq*(g*g)) (g*d)=aY sq d:=by
 have hgg:0<g*g:=Int.mul_pos hg hg
 have e1:g*d*(g*d)=d*d*(g*g):=by grind
 have e2:(g*d<0)↔d<0:=by
  constructor
  ·intro h
   refine Int.not_le.mp fun z=>?_
   have:=Int.mul_nonneg (Int.le_of_lt hg) z
   omega
  ·intro h;exact Int.mul_neg_of_pos_of_neg hg h
 have e3:∀ x y:Int,(x*(g*g)<y*(g*g))↔x<y:=fun x y=>⟨fun h=>Int.lt_of_mul_lt_mul_right h (Int.le_of_lt hgg),fun h=>Int.mul_lt_mul_of_pos_right h hgg⟩
 unfold aY
 rw [e1]
 simp only [e2,e3]
theorem xl {g t n:Int} (l:List Int) (hg:0<g):au l (g*t) (g*n)=au l t n:=by
 have e1:cf l 1*(g*n)*(g*n)=cf l 1*n*n*(g*g):=by grind
 have e2:cf l 2*(g*t)-cf l 0*(g*n)=g*(cf l 2*t-cf l 0*n):=by grind
 have e3:0-g*(cf l 2*t-cf l 0*n)=g*(0-(cf l 2*t-cf l 0*n)):=by grind
 unfold au
 rw [e1,e2,e3,wE hg,wE hg]
theorem oW {t n t' n':Int} (l:List Int) (hn:0<n) (hn':0<n') (e:t*n'=t'*n):au l t n=au l t' n':=by
 rw [<- xl (g:=n') l hn',<- xl (g:=n) (t:=t') l hn]
 have e1:n'*t=n*t':=by rw [Int.mul_comm,e,Int.mul_comm]
 rw [e1,Int.mul_comm n' n]
theorem gz (l:List Int) (t n:Int):au l t n=1\/au l t n=0\/au l t n = -1:=by
 unfold au
 split
 ·rcases ca (cf l 1*n*n) (cf l 2*t-cf l 0*n) with h | h | h<;>omega
 ·rcases ca (cf l 1*n*n) (0-(cf l 2*t-cf l 0*n)) with h | h | h<;>omega
theorem gZ {l:List Int} (hl:Spt l) {t n t' n':Int} (hn:0<n) (hn':0<n') (h:t*n'<t'*n) (hs:au l t n<=0):au l t' n' = -1:=by
 obtain ⟨u,e,b,s,rfl,he,hb,hs1⟩:=hl
 have hlt:(b*t-u*n)*n'<(b*t'-u*n')*n:=by
  have h1:b*(t*n')<b*(t'*n):=Int.mul_lt_mul_of_pos_left h (by omega)
  have e1:(b*t-u*n)*n'=b*(t*n')-u*n*n':=by grind
  have e2:(b*t'-u*n')*n=b*(t'*n)-u*n*n':=by grind
  omega
 have hnn:0<n*n:=Int.mul_pos hn hn
 have hnn':0<n'*n':=Int.mul_pos hn' hn'
 rcases hs1 with rfl | rfl
 ·have z0:(0:Int)<1:=by decide
  have hs:aY (e*n*n) (b*t-u*n)<=0:=hs
  show aY (e*n'*n') (b*t'-u*n') = -1
  generalize b*t-u*n=a at *
  generalize b*t'-u*n'=a' at *
  have k1:0<=a/\e*n*n<=a*a:=by rcases ca (e*n*n) a with h | h | h<;>omega
  have k2:0<=a*n':=Int.mul_nonneg k1.1 (Int.le_of_lt hn')
  have k3:0<a':=Int.lt_of_mul_lt_mul_right (a:=n) (by omega) (Int.le_of_lt hn)
  have k4:=qJ k2 hlt
  have k5:e*n*n*(n'*n')<=a*a*(n'*n'):=Int.mul_le_mul_of_nonneg_right k1.2 (Int.le_of_lt hnn')
  have k6:e*n'*n'*(n*n)<a'*a'*(n*n):=by
   have e1:e*n'*n'*(n*n)=e*n*n*(n'*n'):=by grind
   have e2:a'*a'*(n*n)=a'*n*(a'*n):=by grind
   have e3:a*a*(n'*n')=a*n'*(a*n'):=by grind
   omega
  have k7:=Int.lt_of_mul_lt_mul_right k6 (Int.le_of_lt hnn)
  rcases ca (e*n'*n') a' with h | h | h<;>omega
 ·have hs:0-aY (e*n*n) (0-(b*t-u*n))<=0:=hs
  show 0-aY (e*n'*n') (0-(b*t'-u*n')) = -1
  generalize ha:0-(b*t-u*n)=a at *
  generalize ha':0-(b*t'-u*n')=a' at *
  have hlt':a'*n<a*n':=by
   have e1:a'*n = -((b*t'-u*n')*n):=by rw [<- ha'];grind
   have e2:a*n' = -((b*t-u*n)*n'):=by rw [<- ha];grind
   omega
  have k1:a<0\/a*a<=e*n*n:=by rcases ca (e*n*n) a with h | h | h<;>omega
  have k2:a'<0\/a'*a'<e*n'*n':=by
   by_cases z:a'<0
   ·exact .inl z
   right
   have p1:0<=a'*n:=Int.mul_nonneg (by omega) (Int.le_of_lt hn)
   have p2:0<a:=Int.lt_of_mul_lt_mul_right (a:=n') (by omega) (Int.le_of_lt hn')
   have p3:=qJ p1 hlt'
   have k5:a*a*(n'*n')<=e*n*n*(n'*n'):=Int.mul_le_mul_of_nonneg_right (by omega) (Int.le_of_lt hnn')
   have k6:a'*a'*(n*n)<e*n'*n'*(n*n):=by
    have e1:e*n'*n'*(n*n)=e*n*n*(n'*n'):=by grind
    have e2:a'*a'*(n*n)=a'*n*(a'*n):=by grind
    have e3:a*a*(n'*n')=a*n'*(a*n'):=by grind
    omega
   exact Int.lt_of_mul_lt_mul_right k6 (Int.le_of_lt hnn)
  rcases ca (e*n'*n') a' with h | h | h<;>omega
def spF (f:List Int):List (List Int):=(if 0<=cf f 1 then [[cf f 0,cf f 1,cf f 2,1]] else [])++(if 0<cf f 1 then [[cf f 0,cf f 1,cf f 2,-1]] else [])
def aL (fs:List (List Int)):List (List Int):=fs.flatMap spF
def spr (t n:Int):List (List Int)->Int
 | []=>1
 | l::ls => -au l t n*spr t n ls
theorem oE (t n:Int):∀ a b,spr t n (a++b)=spr t n a*spr t n b
 | [],b=>by show _=1*_;rw [Int.one_mul];rfl
 | x::a,b=>by show _*spr t n (a++b)=_*_*_;rw [oE t n a b,Int.mul_assoc]
theorem qM {f l:List Int} {u e b:Int} (hf:f=[u,e,b]) (hb:1<=b) (h:l∈spF f):Spt l/\∃ s,l=[u,e,b,s]/\0<=e/\(s=1\/s = -1/\0<e):=by
 subst hf
 have hd:spF [u,e,b]=(if 0<=e then [[u,e,b,1]] else [])++(if 0<e then [[u,e,b,-1]] else []):=rfl
 rw [hd] at h
 rcases List.mem_append.mp h with h | h
 ·by_cases z:0<=e
  ·rw [if_pos z] at h
   obtain rfl:=List.mem_singleton.mp h
   exact ⟨⟨u,e,b,1,rfl,z,hb,.inl rfl⟩,1,rfl,z,.inl rfl⟩
  ·rw [if_neg z] at h;cases h
 ·by_cases z:0<e
  ·rw [if_pos z] at h
   obtain rfl:=List.mem_singleton.mp h
   exact ⟨⟨u,e,b,-1,rfl,by omega,hb,.inr rfl⟩,-1,rfl,by omega,.inr ⟨rfl,z⟩⟩
  ·rw [if_neg z] at h;cases h
theorem Dc {u e b t n:Int} (hn:0<n):sg (hv t n (aK u e b))=spr t n (spF [u,e,b]):=by
 have hd:spF [u,e,b]=(if 0<=e then [[u,e,b,1]] else [])++(if 0<e then [[u,e,b,-1]] else []):=rfl
 rw [hd]
 by_cases h0:e=0
 ·subst h0
  have er:aK u 0 b=[-u,b]:=by unfold aK;rw [if_pos rfl]
  have ev:hv t n [-u,b]=n*(b*t-u*n):=by
   show -u*n^2+t*(b*n^1+t*0)=_
   grind
  rw [er,ev,dW hn,if_pos (Int.le_refl _),if_neg (by omega)]
  show _ = -aY (0*n*n) (b*t-u*n)*1
  generalize b*t-u*n=a
  rw [Int.zero_mul,Int.zero_mul]
  have:a<0\/a=0\/0<a:=by omega
  rcases this with h | h | h
  ·have h1:sg a = -1:=by unfold sg;rw [if_pos h]
   rcases ca 0 a with z | z | z<;>omega
  ·subst h
   rfl
  ·have h1:sg a=1:=by unfold sg;rw [if_neg (by omega),if_pos h]
   have h2:=Int.mul_pos h h
   rcases ca 0 a with z | z | z<;>omega
 ·have er:aK u e b=[u*u-e,-2*b*u,b*b]:=by unfold aK;rw [if_neg h0]
  have ev:hv t n [u*u-e,-2*b*u,b*b]=n*((b*t-u*n)*(b*t-u*n)-e*n*n):=by
   show (u*u-e)*n^3+t*((-2*b*u)*n^2+t*((b*b)*n^1+t*0))=_
   grind
  rw [er,ev,dW hn]
  by_cases hp:0<=e
  ·rw [if_pos hp,if_pos (by omega)]
   show _ = -aY (e*n*n) (b*t-u*n)*(-(0-aY (e*n*n) (0-(b*t-u*n)))*1)
   generalize b*t-u*n=a
   have hE:0<e*n*n:=Int.mul_pos (Int.mul_pos (by omega) hn) hn
   generalize e*n*n=E at *
   have e1:(0-a)*(0-a)=a*a:=by grind
   have h1:=ca E a
   have h2:=ca E (0-a)
   rw [e1] at h2
   have az:a=0->a*a=0:=fun z=>by rw [z];rfl
   have s3:(a*a<E/\sg (a*a-E) = -1)\/(a*a=E/\sg (a*a-E)=0)\/(E<a*a/\sg (a*a-E)=1):=by
    unfold sg
    split<;>(try split)<;>omega
   generalize a*a=q at *
   rcases h1 with ⟨x1,x2⟩ | ⟨x1,x2⟩ | ⟨x1,x2⟩<;>rcases h2 with ⟨y1,y2⟩ | ⟨y1,y2⟩ | ⟨y1,y2⟩<;>rw [x1,y1]<;>simp<;>omega
  ·rw [if_neg hp,if_neg (by omega)]
   have h1:0<=(b*t-u*n)*(b*t-u*n):=by
    rcases Int.le_total 0 (b*t-u*n) with z | z
    ·exact Int.mul_nonneg z z
    ·exact Int.mul_nonneg_of_nonpos_of_nonpos z z
   have h2:e*n*n<0:=by rw [Int.mul_assoc];exact Int.mul_neg_of_neg_of_pos (by omega) (Int.mul_pos hn hn)
   show sg _=1
   unfold sg
   rw [if_neg (by omega),if_pos (by omega)]
def ag (f:List Int):List Int:=aB (aK (cf f 0) (cf f 1) (cf f 2))
theorem xv (x y:Int):sg (x*y)=sg x*sg y:=by
 rcases Int.lt_trichotomy x 0 with hx | hx | hx
 ·have h1:sg x = -1:=by unfold sg;rw [if_pos hx]
  have e:x*y = -((-x)*y):=by grind
  rw [e,Cb,dW (by omega),h1];omega
 ·subst hx;rw [Int.zero_mul];show (0:Int)=0*_;rw [Int.zero_mul]
 ·have h1:sg x=1:=by unfold sg;rw [if_neg (by omega),if_pos hx]
  rw [dW hx,h1,Int.one_mul]
theorem mT {l:List Int} (h:Tr l) (hne:l≠[]) (hp:0<al l):∃ g:Int,0<g/\l=scL g (aB l):=by
 obtain ⟨g,hg,e⟩:=lf h
 have e2:l=scL g (aB l):=by
  apply dP
  ·rw [ck,plain_len]
  ·intro k _;rw [bJ,e k]
 have hP:=eG h hne
 refine ⟨g,?_,e2⟩
 obtain ⟨r,x,er⟩:=(cP l).resolve_left hne
 have hx:al l=cf l r.length:=by rw [er,dz,lT]
 obtain ⟨r',x',er'⟩:=(cP (aB l)).resolve_left hP.ne
 have hx':al (aB l)=cf (aB l) r'.length:=by rw [er',dz,lT]
 have hl:r.length=r'.length:=by
  have:=plain_len l
  have h1:=congrArg List.length er
  have h2:=congrArg List.length er'
  simp at h1 h2;omega
 have h3:=e r.length
 rw [<- hx,hl,<- hx'] at h3
 have h4:=hP.pos
 rw [h3] at hp
 rcases Int.lt_or_gt_of_ne hg with z | z
 ·have:=Int.mul_neg_of_neg_of_pos z h4
  omega
 ·exact z
theorem B4 {u e b t n:Int} (hb:1<=b) (hn:0<n):sg (hv t n (ag [u,e,b]))=spr t n (spF [u,e,b]):=by
 obtain ⟨tr,l2⟩:=fI (u:=u) (e:=e) hb
 have hne:aK u e b≠[]:=fun z=>by rw [z] at l2;simp at l2
 have hlast:0<al (aK u e b):=by
  unfold aK
  split
  ·show 0<al ([-u]++[b]);rw [dz];omega
  ·show 0<al ([u*u-e,-2*b*u]++[b*b]);rw [dz];exact Int.mul_pos (by omega) (by omega)
 obtain ⟨g,hg,eg⟩:=mT tr hne hlast
 rw [<- Dc hn]
 show sg (hv t n (aB (aK u e b)))=_
 have e3:hv t n (aK u e b)=g*hv t n (aB (aK u e b)):=by
  calc hv t n (aK u e b)=hv t n (scL g (aB (aK u e b))):=by rw [<- eg]
   _=_:=zp _ _ _ _
 rw [e3,dW hg]
def eN (f:List Int):Prop:=∃ u e b:Int,f=[u,e,b]/\1<=b
theorem xZ {t n:Int} (hn:0<n):∀ (fs:List (List Int)),(∀ f∈fs,eN f)->sg (pr t n (fs.map ag))=spr t n (aL fs)
 | [],_=>rfl
 | f::fs,h=>by
   obtain ⟨u,e,b,rfl,hb⟩:=h f (List.mem_cons_self ..)
   have ih:=xZ (t:=t) hn fs fun x hx=>h x (List.mem_cons_of_mem _ hx)
   have e1:aL ([u,e,b]::fs)=spF [u,e,b]++aL fs:=by unfold aL;rw [List.flatMap_cons]
   show sg (hv t n (ag [u,e,b])*pr t n (fs.map ag))=_
   rw [xv,B4 hb hn,ih,e1,oE]
theorem rV {f:List Int} (h:eN f):ag f≠[]/\Tr (ag f):=by
 obtain ⟨u,e,b,rfl,hb⟩:=h
 obtain ⟨tr,l2⟩:=fI (u:=u) (e:=e) hb
 refine ⟨fun z=>?_,gv tr⟩
 have:=plain_len (aK u e b)
 have z':aB (aK u e b)=[]:=z
 rw [z'] at this;simp at this;omega
theorem o8 {t n c:Int} (hn:0<n) {fs:List (List Int)} (h:∀ f∈fs,eN f):sg (hv t n (ad [c] (aS [1] (fs.map ag))))=sg c*spr t n (aL fs):=by
 have hs:∀ s∈fs.map ag,s≠[]/\Tr s:=fun s hs=>by
  obtain ⟨x,hx,rfl⟩:=List.mem_map.mp hs
  exact rV (h x hx)
 obtain ⟨p1,p2,p3⟩:=lc (fs.map ag) [1] (by simp) ((tr_snoc (r:=[])).mpr (by decide)) hs
 have e1:=qb t n (a:=[c]) (b:=aS [1] (fs.map ag)) p1 (by simp)
 have e2:=p8 t n (fs.map ag) [1] (by simp) fun s h=>(hs s h).1
 rw [nu] at e1 e2
 rw [<- xZ hn fs h]
 have e3:hv t n (ad [c] (aS [1] (fs.map ag)))=c*hv t n (aS [1] (fs.map ag)):=by
  refine Int.eq_of_mul_eq_mul_left (Int.ne_of_gt hn) ?_
  rw [e1];grind
 rw [e3,xv]
 have e4:=congrArg sg e2
 rw [dW (Int.pow_pos hn),Int.one_mul,dW hn] at e4
 rw [e4]
end RM
namespace RM
def inS (l:List Int) (A B D:Int):Prop:=0<au l A D/\au l B D<=0
instance (l:List Int) (A B D:Int):Decidable (inS l A B D):=inferInstanceAs (Decidable (_/\_))
structure Fsm (u e b:Int):Prop where
 u1 : -1000000000<=u
 u2:u<=1000000000
 e0:0<=e
 e1:e<=10000000000000000
 b1:1<=b
 b2:b<=1000
theorem yq {u e b s A B D:Int} (h:Fsm u e b) (hs:s=1\/s = -1/\0<e) (hD:2^200<=D) (hw:B=A+128) (hi:inS [u,e,b,s] A B D):((b*A-u*D)*(b*A-u*D)-e*D*D).natAbs<=30000000000000*D.natAbs:=by
 obtain ⟨u1,u2,e0,e1,b1,b2⟩:=h
 have hDD:0<D:=by omega
 have eB:b*B-u*D=b*A-u*D+128*b:=by rw [hw];grind
 have h36:e*D*D<=100000000*D*(100000000*D):=by
  have h1:e*(D*D)<=10000000000000000*(D*D):=Int.mul_le_mul_of_nonneg_right (by omega) (Int.le_of_lt (Int.mul_pos hDD hDD))
  have e2:e*D*D=e*(D*D):=by grind
  have e3:100000000*D*(100000000*D)=10000000000000000*(D*D):=by grind
  omega
 have hE0:0<=e*D*D:=Int.mul_nonneg (Int.mul_nonneg e0 (by omega)) (by omega)
 have hbig:e=0\/16384000000<e*D*D:=by
  rcases Int.lt_or_le 0 e with z | z
  ·right
   have h1:1*(D*D)<=e*(D*D):=Int.mul_le_mul_of_nonneg_right (by omega) (Int.le_of_lt (Int.mul_pos hDD hDD))
   have e2:e*D*D=e*(D*D):=by grind
   have h2:1*D<=D*D:=Int.mul_le_mul_of_nonneg_right (by omega) (by omega)
   omega
  ·left;omega
 rcases hs with rfl | ⟨rfl,hp⟩
 ·have i1:0<aY (e*D*D) (b*A-u*D):=hi.1
  have i2:aY (e*D*D) (b*B-u*D)<=0:=hi.2
  rw [eB] at i2
  generalize b*A-u*D=a at *
  have k1:a<0\/a*a<e*D*D:=by rcases ca (e*D*D) a with z | z | z<;>omega
  have k2:0<=a+128*b/\e*D*D<=(a+128*b)*(a+128*b):=by rcases ca (e*D*D) (a+128*b) with z | z | z<;>omega
  by_cases ha:a<0
  ·have q1:=gX k2.1 (show a+128*b<=128000 by omega)
   have z0:e=0:=by omega
   subst z0
   have q2:(-a)*(-a)<=128000*128000:=gX (by omega) (by omega)
   have q3:(-a)*(-a)=a*a:=by grind
   have q4:0<=a*a:=by rw [<- q3];exact Int.mul_nonneg (by omega) (by omega)
   rw [Int.zero_mul,Int.zero_mul]
   omega
  ·have k3:a*a<e*D*D:=by omega
   have k4:a<100000000*D:=Gr (by omega) (by omega)
   have e3:(a+128*b)*(a+128*b)=a*a+256*(b*a)+16384*(b*b):=by grind
   have k5:b*a<=1000*a:=Int.mul_le_mul_of_nonneg_right b2 (by omega)
   have k6:b*b<=1000000:=Int.mul_le_mul b2 b2 (by omega) (by omega)
   omega
 ·have i1:0<0-aY (e*D*D) (0-(b*A-u*D)):=hi.1
  have i2:0-aY (e*D*D) (0-(b*B-u*D))<=0:=hi.2
  rw [eB] at i2
  have eq1:(b*A-u*D)*(b*A-u*D)=(0-(b*A-u*D))*(0-(b*A-u*D)):=by grind
  have eq2:0-(b*A-u*D+128*b)=0-(b*A-u*D)-128*b:=by omega
  rw [eq1]
  rw [eq2] at i2
  generalize 0-(b*A-u*D)=c at *
  have k1:0<=c/\e*D*D<c*c:=by rcases ca (e*D*D) c with z | z | z<;>omega
  have k2:c-128*b<0\/(c-128*b)*(c-128*b)<=e*D*D:=by rcases ca (e*D*D) (c-128*b) with z | z | z<;>omega
  by_cases hc:c-128*b<0
  ·have q1:=gX k1.1 (show c<=128000 by omega)
   omega
  ·have k3:(c-128*b)*(c-128*b)<=e*D*D:=by omega
   have k4:c-128*b<=100000000*D:=Gx (by omega) (by omega)
   have e3:c*c=(c-128*b)*(c-128*b)+256*(b*c)-16384*(b*b):=by grind
   have k5:b*c<=1000*c:=Int.mul_le_mul_of_nonneg_right b2 (by omega)
   have k6:0<=b*b:=Int.mul_nonneg (by omega) (by omega)
   omega
theorem Bb {u e b A B D:Int} (h:Fsm u e b) (he:0<e) (hD:2^200<=D) (hw:B=A+128) (h1:inS [u,e,b,1] A B D) (h2:inS [u,e,b,-1] A B D):False:=by
 obtain ⟨u1,u2,e0,e1,b1,b2⟩:=h
 have hDD:0<D:=by omega
 have eB:b*B-u*D=b*A-u*D+128*b:=by rw [hw];grind
 have i1:aY (e*D*D) (b*B-u*D)<=0:=h1.2
 have i2:0<0-aY (e*D*D) (0-(b*A-u*D)):=h2.1
 rw [eB] at i1
 generalize b*A-u*D=a at *
 have k1:0<=a+128*b:=by rcases ca (e*D*D) (a+128*b) with z | z | z<;>omega
 have k2:0<=0-a/\e*D*D<(0-a)*(0-a):=by rcases ca (e*D*D) (0-a) with z | z | z<;>omega
 have k3:=gX k2.1 (show 0-a<=128000 by omega)
 have h3:1*(D*D)<=e*(D*D):=Int.mul_le_mul_of_nonneg_right (by omega) (Int.le_of_lt (Int.mul_pos hDD hDD))
 have e2:e*D*D=e*(D*D):=by grind
 have h4:1*D<=D*D:=Int.mul_le_mul_of_nonneg_right (by omega) (by omega)
 omega
theorem dj {x y:Int} {a b:Nat} (hx:x.natAbs<=a) (hy:y.natAbs<=b):(x*y).natAbs<=a*b:=by rw [Int.natAbs_mul];exact Nat.mul_le_mul hx hy
theorem Fl {u e b u' e' b' A D:Int} (h:Fsm u e b) (h':Fsm u' e' b') (hD:2^200<=D)
 (n1:((b*A-u*D)*(b*A-u*D)-e*D*D).natAbs<=30000000000000*D.natAbs) (n2:((b'*A-u'*D)*(b'*A-u'*D)-e'*D*D).natAbs<=30000000000000*D.natAbs) :
 4*((b*u'-u*b')*(b*u'-u*b'))*(b*b*e')=(b'*b'*e-b*b*e'-(b*u'-u*b')*(b*u'-u*b'))*(b'*b'*e-b*b*e'-(b*u'-u*b')*(b*u'-u*b')):=by
 obtain ⟨u1,u2,e0,e1,b1,b2⟩:=h
 obtain ⟨u1',u2',e0',e1',b1',b2'⟩:=h'
 obtain ⟨N,rfl⟩:=Int.eq_ofNat_of_zero_le (show 0<=D by omega)
 rw [Int.natAbs_natCast] at n1 n2
 have hN:1606938044258990275541962092341162602522202993782792835301376<=N:=by omega
 have q9:(b'*b').natAbs<=1000*1000:=dj (a:=1000) (b:=1000) (by omega) (by omega)
 have q9':(b*b).natAbs<=1000*1000:=dj (a:=1000) (b:=1000) (by omega) (by omega)
 have d1:=dj q9 n1
 have d2:=dj q9' n2
 have hU:(b*u'-u*b').natAbs<=2000000000000:=by
  have a1:(b*u').natAbs<=1000*1000000000:=dj (by omega) (by omega)
  have a2:(u*b').natAbs<=1000000000*1000:=dj (by omega) (by omega)
  omega
 have hE1:(b'*b'*e).natAbs<=1000*1000*10000000000000000:=dj q9 (by omega)
 have hE2:(b*b*e').natAbs<=1000*1000*10000000000000000:=dj q9' (by omega)
 have r1:(b'*(b*A-u*N))*(b'*(b*A-u*N))=b'*b'*e*(N*N)+b'*b'*((b*A-u*N)*(b*A-u*N)-e*N*N):=by grind
 have r2:(b*(b'*A-u'*N))*(b*(b'*A-u'*N))=b*b*e'*(N*N)+b*b*((b'*A-u'*N)*(b'*A-u'*N)-e'*N*N):=by grind
 have r3:b'*(b*A-u*N)=b*(b'*A-u'*N)+(b*u'-u*b')*N:=by grind
 generalize b'*b'*((b*A-u*N)*(b*A-u*N)-e*N*N)=δ1 at *
 generalize b*b*((b'*A-u'*N)*(b'*A-u'*N)-e'*N*N)=δ2 at *
 rw [r3] at r1
 generalize b*(b'*A-u'*N)=Y at *
 generalize b*u'-u*b'=U at *
 generalize b'*b'*e=E1 at *
 generalize b*b*e'=E2 at *
 clear n1 n2 q9 q9' r3 u1 u2 e0 e1 b1 b2 u1' u2' e0' e1' b1' b2' hD
 have hUU:(U*U).natAbs<=2000000000000*2000000000000:=dj hU hU
 have hW:(E1-E2-U*U).natAbs<=4020000000000000000000000:=by omega
 generalize hWd:E1-E2-U*U=W at *
 have r4:2*U*N*Y=W*(N*N)+(δ1-δ2):=by rw [<- hWd];grind
 have r5:(2*U*N*Y)*(2*U*N*Y)=4*(U*U)*(N*N)*(Y*Y):=by grind
 rw [r4,r2] at r5
 have hM:(δ1-δ2).natAbs<=60000000000000000000*N:=by omega
 have hδ2:δ2.natAbs<=30000000000000000000*N:=by omega
 generalize δ1-δ2=δ at *
 have hNN:(0:Int)<(N:Int)*N:=Int.mul_pos (by omega) (by omega)
 have r6:(4*(U*U)*E2-W*W)*(N*N)*(N*N)=2*W*δ*(N*N)+δ*δ-4*(U*U)*δ2*(N*N):=by grind
 refine Int.sub_eq_zero.mp (Classical.byContradiction fun hne=>?_)
 generalize hZ:4*(U*U)*E2-W*W=Z at *
 have hZ1:1<=Z.natAbs:=by omega
 have b1:(Z*(N*N)*(N*N)).natAbs=Z.natAbs*(N*N)*(N*N):=by rw [Int.natAbs_mul,Int.natAbs_mul,Int.natAbs_mul,Int.natAbs_natCast]
 have t1:(2*W*δ*(N*N)).natAbs<=2*4020000000000000000000000*(60000000000000000000*N)*(N*N):=by
  refine dj (dj (dj (by decide) hW) hM) ?_
  rw [Int.natAbs_mul,Int.natAbs_natCast];exact Nat.le_refl _
 have t2:(δ*δ).natAbs<=60000000000000000000*N*(60000000000000000000*N):=dj hM hM
 have t3:(4*(U*U)*δ2*(N*N)).natAbs<=4*(2000000000000*2000000000000)*(30000000000000000000*N)*(N*N):=by
  refine dj (dj (dj (by decide) hUU) hδ2) ?_
  rw [Int.natAbs_mul,Int.natAbs_natCast];exact Nat.le_refl _
 have t4:1*(N*N)*(N*N)<=Z.natAbs*(N*N)*(N*N):=Nat.mul_le_mul_right _ (Nat.mul_le_mul_right _ hZ1)
 rw [<- b1,r6] at t4
 have e1:2*4020000000000000000000000*(60000000000000000000*N)*(N*N)=482400000000000000000000000000000000000000000*(N*N*N):=by grind
 have e2:60000000000000000000*N*(60000000000000000000*N)=3600000000000000000000000000000000000000*(N*N):=by grind
 have e3:4*(2000000000000*2000000000000)*(30000000000000000000*N)*(N*N)=480000000000000000000000000000000000000000000*(N*N*N):=by grind
 have e4:1*(N*N)*(N*N)=N*(N*N*N):=by grind
 have m1:1*(N*N)<=N*(N*N):=Nat.mul_le_mul_right _ (by omega)
 have m2:1606938044258990275541962092341162602522202993782792835301376*(N*N*N)<=N*(N*N*N):=Nat.mul_le_mul_right _ hN
 have m3:N*(N*N)=N*N*N:=by grind
 have m4:0<N*N*N:=Nat.mul_pos (Nat.mul_pos (by omega) (by omega)) (by omega)
 generalize N*N*N=n3 at *
 omega
theorem B5 {u e b u' e' b':Int} (h:Fsm u e b) (h':Fsm u' e' b') (hs:NS e) (hs':NS e')
 (eq:4*((b*u'-u*b')*(b*u'-u*b'))*(b*b*e')=(b'*b'*e-b*b*e'-(b*u'-u*b')*(b*u'-u*b'))*(b'*b'*e-b*b*e'-(b*u'-u*b')*(b*u'-u*b'))):ag [u,e,b]=ag [u',e',b']:=by
 obtain ⟨u1,u2,e0,e1,b1,b2⟩:=h
 obtain ⟨u1',u2',e0',e1',b1',b2'⟩:=h'
 have key:b*u'-u*b'=0/\b'*b'*e=b*b*e':=by
  by_cases hz:e'=0
  ·subst hz
   have e3:(b'*b'*e-(b*u'-u*b')*(b*u'-u*b'))*(b'*b'*e-(b*u'-u*b')*(b*u'-u*b'))=0:=by
    have:b*b*(0:Int)=0:=Int.mul_zero _
    rw [this] at eq
    rw [Int.mul_zero] at eq
    have h9:b'*b'*e-0-(b*u'-u*b')*(b*u'-u*b')=b'*b'*e-(b*u'-u*b')*(b*u'-u*b'):=by omega
    rw [h9] at eq
    exact eq.symm
   have e4:b'*b'*e=(b*u'-u*b')*(b*u'-u*b'):=by
    rcases Int.mul_eq_zero.mp e3 with z | z<;>omega
   by_cases hz2:e=0
   ·subst hz2
    rw [Int.mul_zero] at e4
    refine ⟨?_,by rw [Int.mul_zero,Int.mul_zero]⟩
    rcases Int.mul_eq_zero.mp e4.symm with z | z<;>exact z
   ·exact (hs.no hz2 (by omega) e4).elim
  ·by_cases hU:b*u'-u*b'=0
   ·rw [hU] at eq
    have e3:(b'*b'*e-b*b*e')*(b'*b'*e-b*b*e')=0:=by
     have h8:4*((0:Int)*0)*(b*b*e')=0:=by rw [Int.mul_zero,Int.mul_zero,Int.zero_mul]
     rw [h8] at eq
     have h9:b'*b'*e-b*b*e'-0*0=b'*b'*e-b*b*e':=by omega
     rw [h9] at eq;exact eq.symm
    refine ⟨hU,?_⟩
    rcases Int.mul_eq_zero.mp e3 with z | z<;>omega
   ·refine (hs'.no hz (x:=2*(b*u'-u*b')*b) (Int.mul_ne_zero (Int.mul_ne_zero (by decide) hU) (by omega)) (Eq.trans ?_ eq)).elim
    grind
 obtain ⟨k1,k2⟩:=key
 show aB (aK u e b)=aB (aK u' e' b')
 obtain ⟨tr,l2⟩:=fI (u:=u) (e:=e) b1
 obtain ⟨tr',l2'⟩:=fI (u:=u') (e:=e') b1'
 have hne:aK u e b≠[]:=fun z=>by rw [z] at l2;simp at l2
 have hne':aK u' e' b'≠[]:=fun z=>by rw [z] at l2';simp at l2'
 have hz:e=0↔e'=0:=by
  constructor
  ·intro z;rw [z,Int.mul_zero] at k2
   rcases Int.mul_eq_zero.mp k2.symm with y | y
   ·rcases Int.mul_eq_zero.mp y with y | y<;>omega
   ·exact y
  ·intro z;rw [z,Int.mul_zero] at k2
   rcases Int.mul_eq_zero.mp k2 with y | y
   ·rcases Int.mul_eq_zero.mp y with y | y<;>omega
   ·exact y
 have prop:∃ x y:Int,x≠0/\y≠0/\∀ n,x*cf (aK u' e' b') n=y*cf (aK u e b) n:=by
  by_cases h0:e=0
  ·have h0':=hz.mp h0
   refine ⟨b,b',by omega,by omega,fun n=>?_⟩
   unfold aK
   rw [if_pos h0,if_pos h0',va,va]
   split
   ·have:b*u'=u*b':=by omega
    grind
   ·split
    ·grind
    ·omega
  ·have h0':¬ e'=0:=fun z=>h0 (hz.mpr z)
   refine ⟨b*b,b'*b',Int.mul_ne_zero (by omega) (by omega),Int.mul_ne_zero (by omega) (by omega),fun n=>?_⟩
   have k3:b*u'=u*b':=by omega
   unfold aK
   rw [if_neg h0,if_neg h0']
   match n with
   | 0 =>
     show b*b*(u'*u'-e')=b'*b'*(u*u-e)
     have:(b*u')*(b*u')=(u*b')*(u*b'):=by rw [k3]
     grind
   | 1 =>
     show b*b*(-2*b'*u')=b'*b'*(-2*b*u)
     have:b*b'*(b*u')=b*b'*(u*b'):=by rw [k3]
     grind
   | 2 =>
     show b*b*(b'*b')=b'*b'*(b*b)
     grind
   | n+3 =>
     show b*b*0=b'*b'*0
     omega
 obtain ⟨x,y,hx,hy,hp⟩:=prop
 refine sy (eG tr hne) (eG tr' hne') ?_ ?_
 ·rw [Dv.plain tr']
  refine Dv.prop_right hx hp ?_
  obtain ⟨g,hg,eg⟩:=lf tr
  exact ⟨1,[g],by decide,fun n=>by rw [fi,<- eg];omega⟩
 ·rw [Dv.plain tr]
  refine Dv.prop_right (x:=y) (y:=x) hy (fun n=>(hp n).symm) ?_
  obtain ⟨g,hg,eg⟩:=lf tr'
  exact ⟨1,[g],by decide,fun n=>by rw [fi,<- eg];omega⟩
def FacG (f:List Int):Prop:=∃ u e b:Int,f=[u,e,b] /\ -1000000000<=u/\u<=1000000000 /\ -10000000000000000<=e/\e<=10000000000000000/\1<=b/\b<=1000/\NS e
theorem FacG.q {f:List Int} (h:FacG f):eN f:=by
 obtain ⟨u,e,b,rfl,_,_,_,_,h5,_⟩:=h
 exact ⟨u,e,b,rfl,h5⟩
def AZ (l l':List Int):Prop:=∀ A B D:Int,2^200<=D->B=A+128->inS l A B D->inS l' A B D->False
theorem qL {fs:List (List Int)} (hF:∀ f∈fs,FacG f) (hn:(fs.map ag).Nodup):(aL fs).Pairwise AZ:=by
 unfold aL
 rw [List.pairwise_flatMap]
 constructor
 ·intro f hf
  obtain ⟨u,e,b,rfl,h1,h2,h3,h4,h5,h6,h7⟩:=hF f hf
  have hd:spF [u,e,b]=(if 0<=e then [[u,e,b,1]] else [])++(if 0<e then [[u,e,b,-1]] else []):=rfl
  rw [hd]
  by_cases z:0<e
  ·rw [if_pos (by omega),if_pos z]
   show List.Pairwise _ [[u,e,b,1],[u,e,b,-1]]
   refine List.pairwise_pair.mpr fun A B D hD hw a1 a2=>?_
   exact Bb ⟨h1,h2,by omega,h4,h5,h6⟩ z hD hw a1 a2
  ·rw [if_neg z]
   split
   ·exact List.pairwise_singleton _ _
   ·exact List.Pairwise.nil
 ·rw [List.nodup_iff_pairwise_ne,List.pairwise_map] at hn
  refine hn.imp_of_mem fun {f g} hf hg hne x hx y hy A B D hD hw a1 a2=>hne ?_
  obtain ⟨u,e,b,rfl,h1,h2,h3,h4,h5,h6,h7⟩:=hF f hf
  obtain ⟨u',e',b',rfl,h1',h2',h3',h4',h5',h6',h7'⟩:=hF g hg
  obtain ⟨_,s,rfl,he,hs⟩:=qM rfl h5 hx
  obtain ⟨_,s',rfl,he',hs'⟩:=qM rfl h5' hy
  have F1:Fsm u e b:=⟨h1,h2,he,h4,h5,h6⟩
  have F2:Fsm u' e' b':=⟨h1',h2',he',h4',h5',h6'⟩
  exact B5 F1 F2 h7 h7' (Fl F1 F2 hD (yq F1 hs hD hw a1) (yq F2 hs' hD hw a2))
theorem dA {fs:List (List Int)} (hF:∀ f∈fs,eN f) {l:List Int} (hl:l∈aL fs):Spt l:=by
 obtain ⟨f,hf,hm⟩:=List.mem_flatMap.mp hl
 obtain ⟨u,e,b,rfl,hb⟩:=hF f hf
 exact (qM rfl hb hm).1
end RM
namespace RM
def pv:List Int->Rat->Rat
 | [],_=>0
 | c::l,x=>(c:Rat)+x*pv l x
theorem xW:∀ (N:Nat) (a b c:List Int) (u v:Int) (x:Rat),a.length<=N->b.length<=N->c.length<=N->(∀ n,cf c n=u*cf a n+v*cf b n)->pv c x=(u:Rat)*pv a x+(v:Rat)*pv b x
 | 0,a,b,c,u,v,x,ha,hb,hc,_=>by
   rw [List.eq_nil_of_length_eq_zero (Nat.le_zero.mp ha),List.eq_nil_of_length_eq_zero (Nat.le_zero.mp hb),List.eq_nil_of_length_eq_zero (Nat.le_zero.mp hc)]
   show (0:Rat)=u*0+v*0
   grind
 | N+1,a,b,c,u,v,x,ha,hb,hc,h=>by
   have key:∀ l:List Int,l.length<=N+1->pv l x=(cf l 0:Rat)+x*pv l.tail x/\l.tail.length<=N/\∀ n,cf l.tail n=cf l (n+1):=fun l hl=>by
    cases l with
    | nil=>exact ⟨by show (0:Rat)=((0:Int):Rat)+x*0;grind,Nat.zero_le _,fun n=>by rw [cz];rfl⟩
    | cons y l=>exact ⟨rfl,by simpa using hl,fun n=>rfl⟩
   obtain ⟨a1,a2,a3⟩:=key a ha
   obtain ⟨b1,b2,b3⟩:=key b hb
   obtain ⟨c1,c2,c3⟩:=key c hc
   have ih:=xW N a.tail b.tail c.tail u v x a2 b2 c2 fun n=>by rw [a3,b3,c3,h]
   have h0:(cf c 0:Rat)=(u:Rat)*(cf a 0:Rat)+(v:Rat)*(cf b 0:Rat):=by rw [h 0,Rat.intCast_add,Rat.intCast_mul,Rat.intCast_mul]
   rw [a1,b1,c1,ih,h0];grind
theorem o7 {a b c:List Int} {u v:Int} (x:Rat) (h:∀ n,cf c n=u*cf a n+v*cf b n):pv c x=(u:Rat)*pv a x+(v:Rat)*pv b x :=
 xW (a.length+b.length+c.length) a b c u v x (by omega) (by omega) (by omega) h
theorem mO {a c:List Int} {u:Int} (x:Rat) (h:∀ n,cf c n=u*cf a n):pv c x=(u:Rat)*pv a x:=by
 have:=o7 (a:=a) (b:=[]) (c:=c) (u:=u) (v:=0) x fun n=>by rw [h n,Int.zero_mul,Int.add_zero]
 rw [this]
 show _+((0:Int):Rat)*0=_
 grind
theorem xV (x:Rat):∀ (a b c:List Int),(∀ n,cf c n=aw a b n)->pv c x=pv a x*pv b x
 | [],b,c,h=>by
   have:=mO (a:=[]) (c:=c) (u:=0) x fun n=>by rw [h n,d6];simp
   rw [this]
   show _=(0:Rat)*_
   show ((0:Int):Rat)*0=0*_
   grind
 | y::a,b,c,h=>by
   have ih:=xV x a b (ad a b) (aP a b)
   have:=o7 (a:=b) (b:=0::ad a b) (c:=c) (u:=y) (v:=1) x fun n=>by
    rw [h n,dI,qp,Int.one_mul]
    congr 1
    unfold up
    split
    ·rfl
    ·rw [aP]
   rw [this]
   show (y:Rat)*pv b x+((1:Int):Rat)*(((0:Int):Rat)+x*pv (ad a b) x)=((y:Rat)+x*pv a x)*pv b x
   rw [ih];grind
theorem eY {a b:Rat} (ha:0<a) (hb:0<b):0<a/b:=by
 rw [Rat.div_def]
 exact Rat.mul_pos ha (Rat.inv_pos.mpr hb)
def Bd (M v:Rat):Prop := -M<=v/\v<=M
theorem Bd.mul {M N u v:Rat} (h1:Bd M u) (h2:Bd N v):Bd (M*N) (u*v):=by
 obtain ⟨a,b⟩:=h1
 obtain ⟨c,d⟩:=h2
 have p1:0<=(M-u)*(N-v):=Rat.mul_nonneg (by grind) (by grind)
 have p2:0<=(M+u)*(N+v):=Rat.mul_nonneg (by grind) (by grind)
 have p3:0<=(M-u)*(N+v):=Rat.mul_nonneg (by grind) (by grind)
 have p4:0<=(M+u)*(N-v):=Rat.mul_nonneg (by grind) (by grind)
 constructor<;>grind
theorem Bd.add {M N u v:Rat} (h1:Bd M u) (h2:Bd N v):Bd (M+N) (u+v):=by
 obtain ⟨a,b⟩:=h1
 obtain ⟨c,d⟩:=h2
 constructor<;>grind
theorem Bd.mono {M N u:Rat} (h1:Bd M u) (h:M<=N):Bd N u:=by
 obtain ⟨a,b⟩:=h1
 constructor<;>grind
def Nice (f:Rat->Rat):Prop:=∀ R:Rat,0<=R->∃ M:Rat,0<=M/\(∀ x,Bd R x->Bd M (f x))/\∀ x y,Bd R x->Bd R y->x<=y->Bd (M*(y-x)) (f y-f x)
theorem lw (c:Rat):Nice fun _=>c:=fun R _=>by
 rcases Rat.le_total (a:=0) (b:=c) with h | h
 ·exact ⟨c,h,fun x _=>⟨by grind,by grind⟩,fun x y _ _ hxy=>by
   have:=Rat.mul_nonneg h (show 0<=y-x by grind)
   exact ⟨by grind,by grind⟩⟩
 ·exact ⟨-c,by grind,fun x _=>⟨by grind,by grind⟩,fun x y _ _ hxy=>by
   have:=Rat.mul_nonneg (show 0 <= -c by grind) (show 0<=y-x by grind)
   exact ⟨by grind,by grind⟩⟩
theorem nice_id:Nice fun x=>x:=fun R hR=>by
 refine ⟨R+1,by grind,fun x h=>h.mono (by grind),fun x y _ _ hxy=>?_⟩
 have:=Rat.mul_nonneg hR (show 0<=y-x by grind)
 exact ⟨by grind,by grind⟩
theorem Nice.add {f g:Rat->Rat} (hf:Nice f) (hg:Nice g):Nice fun x=>f x+g x:=fun R hR=>by
 obtain ⟨M,m0,m1,m2⟩:=hf R hR
 obtain ⟨N,n0,n1,n2⟩:=hg R hR
 refine ⟨M+N,by grind,fun x h=>(m1 x h).add (n1 x h),fun x y hx hy hxy=>?_⟩
 have:=(m2 x y hx hy hxy).add (n2 x y hx hy hxy)
 have e1:M*(y-x)+N*(y-x)=(M+N)*(y-x):=by grind
 have e2:f y-f x+(g y-g x)=f y+g y-(f x+g x):=by grind
 rwa [e1,e2] at this
theorem Nice.mul {f g:Rat->Rat} (hf:Nice f) (hg:Nice g):Nice fun x=>f x*g x:=fun R hR=>by
 obtain ⟨M,m0,m1,m2⟩:=hf R hR
 obtain ⟨N,n0,n1,n2⟩:=hg R hR
 have p:=Rat.mul_nonneg m0 n0
 refine ⟨2*(M*N),by grind,fun x h=>((m1 x h).mul (n1 x h)).mono (by grind),fun x y hx hy hxy=>?_⟩
 have:=((m2 x y hx hy hxy).mul (n1 y hy)).add ((m1 x hx).mul (n2 x y hx hy hxy))
 have e1:M*(y-x)*N+M*(N*(y-x))=2*(M*N)*(y-x):=by grind
 have e2:(f y-f x)*g y+f x*(g y-g x)=f y*g y-f x*g x:=by grind
 rwa [e1,e2] at this
theorem eI:∀ l:List Int,Nice (pv l)
 | []=>lw 0
 | c::l=>(lw (c:Rat)).add (nice_id.mul (eI l))
theorem xU:∀ (l:List Int) (R:Rat),0<=R->∃ M:Rat,0<=M/\∀ x y,Bd R x->Bd R y->x<=y->Bd (M*((y-x)*(y-x))) (pv l y-pv l x-(y-x)*pv (slopeL l) x)
 | [],R,_=>⟨0,by grind,fun x y _ _ _=>by
  have e:pv [] y-pv [] x-(y-x)*pv (slopeL []) x=0:=by show (0:Rat)-0-(y-x)*0=0;grind
  rw [e];constructor<;>grind⟩
 | c::l,R,hR=>by
   obtain ⟨M,m0,m1⟩:=xU l R hR
   obtain ⟨N,n0,n1,n2⟩:=eI l R hR
   have p:=Rat.mul_nonneg hR m0
   refine ⟨N+R*M,by grind,fun x y hx hy hxy=>?_⟩
   have hd:pv (slopeL (c::l)) x=pv l x+x*pv (slopeL l) x:=by
    have:=o7 (a:=l) (b:=0::slopeL l) (c:=slopeL (c::l)) (u:=1) (v:=1) x fun n=>xi c l n
    rw [this]
    show ((1:Int):Rat)*pv l x+((1:Int):Rat)*(((0:Int):Rat)+x*pv (slopeL l) x)=_
    grind
   have hz:Bd (y-x) (y-x):=⟨by grind,by grind⟩
   have:=(hz.mul (n2 x y hx hy hxy)).add (hx.mul (m1 x y hx hy hxy))
   have e1:(y-x)*(N*(y-x))+R*(M*((y-x)*(y-x)))=(N+R*M)*((y-x)*(y-x)):=by grind
   have e2:(y-x)*(pv l y-pv l x)+x*(pv l y-pv l x-(y-x)*pv (slopeL l) x)=pv (c::l) y-pv (c::l) x-(y-x)*pv (slopeL (c::l)) x:=by
    rw [hd]
    show _=((c:Rat)+y*pv l y)-((c:Rat)+x*pv l x)-_
    grind
   rwa [e1,e2] at this
def sgR (v:Rat):Int:=if v<0 then -1 else if 0<v then 1 else 0
theorem cD (v:Rat):(v<0/\sgR v = -1)\/(v=0/\sgR v=0)\/(0<v/\sgR v=1):=by
 unfold sgR
 by_cases h:v<0
 ·exact .inl ⟨h,by rw [if_pos h]⟩
 ·by_cases h2:0<v
  ·exact .inr (.inr ⟨h2,by rw [if_neg h,if_pos h2]⟩)
  ·exact .inr (.inl ⟨by grind,by rw [if_neg h,if_neg h2]⟩)
def Sta (f:Rat->Rat) (x y:Rat):Prop:=sgR (f x)=sgR (f y)/\sgR (f x)≠0
theorem sP {f:Rat->Rat} {x y D:Rat} (h:¬ Sta f x y) (hd:Bd D (f y-f x)):Bd D (f x)/\Bd D (f y):=by
 obtain ⟨d1,d2⟩:=hd
 have key:(f x<=0/\0<=f y)\/(0<=f x/\f y<=0):=by
  rcases cD (f x) with ⟨a,b⟩ | ⟨a,b⟩ | ⟨a,b⟩<;>rcases cD (f y) with ⟨c,d⟩ | ⟨c,d⟩ | ⟨c,d⟩
  ·exact absurd ⟨by rw [b,d],by rw [b];decide⟩ h
  ·exact .inl ⟨by grind,by grind⟩
  ·exact .inl ⟨by grind,by grind⟩
  ·exact .inr ⟨by grind,by grind⟩
  ·exact .inl ⟨by grind,by grind⟩
  ·exact .inl ⟨by grind,by grind⟩
  ·exact .inr ⟨by grind,by grind⟩
  ·exact .inr ⟨by grind,by grind⟩
  ·exact absurd ⟨by rw [b,d],by rw [b];decide⟩ h
 rcases key with ⟨a,b⟩ | ⟨a,b⟩
 ·exact ⟨⟨by grind,by grind⟩,⟨by grind,by grind⟩⟩
 ·exact ⟨⟨by grind,by grind⟩,⟨by grind,by grind⟩⟩
inductive SRow:List (List Int)->Prop
 | last {c:Int} (h:c≠0):SRow [[c]]
 | two {a:List Int} {c:Int} (h:c≠0):SRow [a,[c]]
 | cons {a b c:List Int} {r:List (List Int)} {q:List Int} {α β:Rat} (hα:0<α) (hβ:0<β) (e:∀ x,α*pv a x=pv q x*pv b x-β*pv c x) (h:SRow (b::c::r)):SRow (a::b::c::r)
theorem su (c:Int) (x:Rat):pv [c] x=(c:Rat):=by show (c:Rat)+x*0=c;grind
theorem bez:∀ {row:List (List Int)},SRow row->∀ a b r,row=a::b::r->∃ (A B:Rat->Rat) (k:Rat),Nice A/\Nice B/\k≠0/\∀ x,A x*pv a x+B x*pv b x=k
 | _,.last h,a,b,r,e=>by cases e
 | _,.two (c:=c) h,a,b,r,e=>by
   cases e
   refine ⟨fun _=>0,fun _=>1,(c:Rat),lw 0,lw 1,fun z=>h (Rat.intCast_inj.mp (by rw [z];rfl)),fun x=>?_⟩
   rw [su];grind
 | _,.cons (a:=a0) (b:=b0) (c:=c) (q:=q) (α:=α) (β:=β) hα hβ eq h,a,b,r,e=>by
   cases e
   obtain ⟨A,B,k,nA,nB,hk,hAB⟩:=bez h _ _ _ rfl
   refine ⟨fun x=>(-α)*B x,fun x=>β*A x+B x*pv q x,β*k,(lw (-α)).mul nB,((lw β).mul nA).add (nB.mul (eI q)),fun z=>?_,fun x=>?_⟩
   ·rcases Rat.mul_eq_zero.mp z with y | y
    ·grind
    ·exact hk y
   ·have h1:=hAB x
    have h2:=eq x
    have:(-α)*B x*pv a0 x+(β*A x+B x*pv q x)*pv b0 x=B x*(pv q x*pv b0 x-α*pv a0 x)+β*A x*pv b0 x:=by grind
    rw [this,h2]
    have:B x*(pv q x*pv b0 x-(pv q x*pv b0 x-β*pv c x))+β*A x*pv b0 x=β*(A x*pv b0 x+B x*pv c x):=by grind
    rw [this,h1]
theorem yc {a b:Rat->Rat} (na:Nice a) (nb:Nice b) {A B:Rat->Rat} {k:Rat} (nA:Nice A) (nB:Nice B) (hk:0<k) (hAB:∀ x,A x*a x+B x*b x=k\/A x*a x+B x*b x = -k) {R:Rat} (hR:0<=R) :
 ∃ (δ κ:Rat),0<δ/\0<κ/\∀ x y,Bd R x->Bd R y->x<y->y-x<=δ->¬ Sta a x y->Sta b x y/\(κ<=b x\/b x <= -κ)/\(κ<=b y\/b y <= -κ):=by
 obtain ⟨M1,p1,q1,r1⟩:=na R hR
 obtain ⟨M2,p2,q2,r2⟩:=nb R hR
 obtain ⟨M3,p3,q3,_⟩:=nA R hR
 obtain ⟨M4,p4,q4,_⟩:=nB R hR
 have h31:=Rat.mul_nonneg p3 p1
 have h42:=Rat.mul_nonneg p4 p2
 have hT:0<2*(M3*M1+M4*M2+1):=by grind
 have hT4:0<2*(M4+1):=by grind
 refine ⟨k/(2*(M3*M1+M4*M2+1)),k/(2*(M4+1)),eY hk hT,eY hk hT4,fun x y hx hy hxy hd hs=>?_⟩
 have hd':(y-x)*(2*(M3*M1+M4*M2+1))<=k:=by
  have:=Rat.mul_le_mul_of_nonneg_right hd (Rat.le_of_lt hT)
  rwa [Rat.div_mul_cancel (by grind)] at this
 have hyx:0<y-x:=by grind
 obtain ⟨a1,a2⟩:=sP hs (r1 x y hx hy (by grind))
 have hM1:0<=M1*(y-x):=Rat.mul_nonneg p1 (Rat.le_of_lt hyx)
 have far:∀ z,Bd R z->Bd (M1*(y-x)) (a z)->k/(2*(M4+1))<=b z\/b z <= -(k/(2*(M4+1))):=fun z hz ha=>by
  have e1:=(q3 z hz).mul ha
  have e2:2*(M3*(M1*(y-x)))<=k:=by
   have h1:=Rat.mul_nonneg h42 (Rat.le_of_lt hyx)
   grind
  have hB:(k<=2*(B z*b z))\/(2*(B z*b z) <= -k):=by
   obtain ⟨f1,f2⟩:=e1
   rcases hAB z with g | g
   ·left;grind
   ·right;grind
  rcases Rat.le_total (a:=k/(2*(M4+1))) (b:=b z) with g | g
  ·exact .inl g
  ·rcases Rat.le_total (a:=b z) (b := -(k/(2*(M4+1)))) with g2 | g2
   ·exact .inr g2
   ·exfalso
    have hb:Bd (k/(2*(M4+1))) (b z):=⟨g2,g⟩
    obtain ⟨f1,f2⟩:=(q4 z hz).mul hb
    have e3:2*(M4*(k/(2*(M4+1))))<k:=by
     have e4:k/(2*(M4+1))*(2*(M4+1))=k:=Rat.div_mul_cancel (by grind)
     have e5:=eY hk hT4
     generalize k/(2*(M4+1))=w at *
     grind
    rcases hB with g3 | g3<;>grind
 refine ⟨Classical.byContradiction fun hs2=>?_,far x hx a1,far y hy a2⟩
 obtain ⟨b1,b2⟩:=sP hs2 (r2 x y hx hy (by grind))
 obtain ⟨e1,e2⟩:=(q3 x hx).mul a1
 obtain ⟨e3,e4⟩:=(q4 x hx).mul b1
 have hM:0<=(M3*M1+M4*M2)*(y-x):=Rat.mul_nonneg (by grind) (Rat.le_of_lt hyx)
 have e5:M3*(M1*(y-x))+M4*(M2*(y-x))=(M3*M1+M4*M2)*(y-x):=by grind
 have e6:(y-x)*(2*(M3*M1+M4*M2+1))=2*((M3*M1+M4*M2)*(y-x))+2*(y-x):=by grind
 rcases hAB x with g | g<;>grind
theorem AC {row:List (List Int)} (h:SRow row) {a b:List Int} {r:List (List Int)} (e:row=a::b::r):∃ (A B:Rat->Rat) (k:Rat),Nice A/\Nice B/\0<k/\∀ x,A x*pv a x+B x*pv b x=k\/A x*pv a x+B x*pv b x = -k:=by
 obtain ⟨A,B,k,nA,nB,hk,hAB⟩:=bez h a b r e
 rcases Rat.le_total (a:=0) (b:=k) with g | g
 ·exact ⟨A,B,k,nA,nB,by grind,fun x=>.inl (hAB x)⟩
 ·exact ⟨A,B,-k,nA,nB,by grind,fun x=>.inr (by rw [hAB x];grind)⟩
def vr:Int->List Int->Int
 | _,[]=>0
 | b,s::r=>(if s*b<0 then 1 else 0)+vr (if s=0 then b else s) r
theorem Aj:∀ (l:List Int) (n b:Int),l.foldl chF (n,b)=(n+vr b l,(l.foldl chF (n,b)).2)
 | [],n,b=>by show (n,b)=(n+0,b);rw [Int.add_zero]
 | s::r,n,b=>by
   show r.foldl chF (chF (n,b) s)=(n+((if s*b<0 then 1 else 0)+vr (if s=0 then b else s) r),(r.foldl chF (chF (n,b) s)).2)
   have e:chF (n,b) s=(n+(if s*b<0 then 1 else 0),if s=0 then b else s):=by
    unfold chF
    by_cases h:s*b<0
    ·rw [if_pos h,if_pos h]
    ·rw [if_neg h,if_neg h,Int.add_zero]
   rw [e]
   have:=Aj r (n+(if s*b<0 then 1 else 0)) (if s=0 then b else s)
   rw [Int.add_assoc] at this
   exact this
theorem An (l:List Int):(chS l).1=vr 0 l:=by
 unfold chS
 rw [Aj l 0 0]
 show 0+vr 0 l=_
 omega
def gS (s:Int):Prop:=s=1\/s=0\/s = -1
inductive Al:Int->List Int->List Int->Prop
 | nil {b:Int}:Al b [] []
 | stab {b s:Int} {r r':List Int} (h:s≠0) (t:Al s r r'):Al b (s::r) (s::r')
 | unst {b s s':Int} {r r':List Int} (h1:gS s) (h2:gS s') (t:Al (-b) r r'):Al b (s :: -b::r) (s' :: -b::r')
theorem v9 {b s:Int} (hb:b=1\/b = -1) (hs:gS s) (r:List Int):vr b (s :: -b::r)=1+vr (-b) r:=by
 have hb0:¬ (-b=0):=by omega
 rcases hs with rfl | rfl | rfl
 ·rcases hb with rfl | rfl<;>simp [vr]
 ·rcases hb with rfl | rfl<;>simp [vr]
 ·rcases hb with rfl | rfl<;>simp [vr]
theorem Al.vr:∀ {b:Int} {r r':List Int},Al b r r'->(b=1\/b = -1)->(∀ s∈r,gS s)->RM.vr b r=RM.vr b r'
 | _,_,_,.nil,_,_=>rfl
 | b,_,_,.stab (s:=s) (r:=r) (r':=r') h t,hb,hu=>by
   have hs:gS s:=hu s (List.mem_cons_self ..)
   have hs':s=1\/s = -1:=by rcases hs with z | z | z;exact .inl z;exact absurd z h;exact .inr z
   have ih:=Al.vr t hs' fun x hx=>hu x (List.mem_cons_of_mem _ hx)
   show _+RM.vr (if s=0 then b else s) r=_+RM.vr (if s=0 then b else s) r'
   rw [if_neg h,ih]
 | b,_,_,.unst h1 h2 t,hb,hu=>by
   have ih:=Al.vr t (by omega) fun x hx=>hu x (List.mem_cons_of_mem _ (List.mem_cons_of_mem _ hx))
   rw [v9 hb h1,v9 hb h2,ih]
def sgX (row:List (List Int)) (x:Rat):List Int:=row.map fun f=>sgR (pv f x)
theorem o2 (v:Rat):gS (sgR v):=by
 rcases cD v with ⟨_,h⟩ | ⟨_,h⟩ | ⟨_,h⟩<;>rw [h]
 ·exact .inr (.inr rfl)
 ·exact .inr (.inl rfl)
 ·exact .inl rfl
theorem xw (row:List (List Int)) (x:Rat):∀ s∈sgX row x,gS s:=fun s hs=>by
 obtain ⟨f,_,rfl⟩:=List.mem_map.mp hs
 exact o2 _
def AS (row:List (List Int)) (R:Rat):Prop:=∃ δ:Rat,0<δ/\∀ x y,Bd R x->Bd R y->x<y->y-x<=δ->∀ a r,row=a::r->Sta (pv a) x y->Al (sgR (pv a x)) (sgX r x) (sgX r y)
theorem Ce {c:Int} (h:c≠0):sgR (c:Rat)≠0:=by
 rcases cD (c:Rat) with ⟨_,e⟩ | ⟨z,_⟩ | ⟨_,e⟩
 ·rw [e];decide
 ·exact absurd (Rat.intCast_inj.mp (by rw [z];rfl)) h
 ·rw [e];decide
theorem yU:∀ {row:List (List Int)},SRow row->∀ R:Rat,0<=R->AS row R/\AS row.tail R
 | _,.last h,R,_=>⟨⟨1,by grind,fun x y _ _ _ _ a r e _=>by cases e;exact .nil⟩,⟨1,by grind,fun x y _ _ _ _ a r e _=>by cases e⟩⟩
 | _,.two (c:=c) h,R,_=>by
   refine ⟨⟨1,by grind,fun x y _ _ _ _ a r e _=>?_⟩,⟨1,by grind,fun x y _ _ _ _ a r e _=>by cases e;exact .nil⟩⟩
   cases e
   show Al _ [sgR (pv [c] x)] [sgR (pv [c] y)]
   rw [su,su]
   exact .stab (Ce h) .nil
 | _,.cons (a:=a) (b:=b) (c:=c) (r:=r) (q:=q) (α:=α) (β:=β) hα hβ eq h,R,hR=>by
   obtain ⟨⟨δ1,d1,l1⟩,⟨δ2,d2,l2⟩⟩:=yU h R hR
   refine ⟨?_,⟨δ1,d1,l1⟩⟩
   obtain ⟨A,B,k,nA,nB,hk,hAB⟩:=AC h rfl
   obtain ⟨δ3,κ,d3,hκ,l3⟩:=yc (eI b) (eI c) nA nB hk hAB hR
   obtain ⟨M,m0,m1,m2⟩:=eI b R hR
   obtain ⟨N,n0,n1,_⟩:=eI q R hR
   have hMN:=Rat.mul_nonneg n0 m0
   have hT:0<N*M+1:=by grind
   have hβκ:=Rat.mul_pos hβ hκ
   obtain ⟨δ,hδ,g1,g2,g3,g4⟩:∃ δ:Rat,0<δ/\δ<=δ1/\δ<=δ2/\δ<=δ3/\δ*(N*M+1)<=β*κ:=by
    have hw:=eY hβκ hT
    have hw2:β*κ/(N*M+1)*(N*M+1)=β*κ:=Rat.div_mul_cancel (by grind)
    have two:∀ u v:Rat,0<u->0<v->∃ w:Rat,0<w/\w<=u/\w<=v:=fun u v hu hv=>by
     rcases Rat.le_total (a:=u) (b:=v) with z | z
     ·exact ⟨u,hu,Rat.le_refl,z⟩
     ·exact ⟨v,hv,z,Rat.le_refl⟩
    obtain ⟨u,hu,u1,u2⟩:=two δ1 δ2 d1 d2
    obtain ⟨v,hv,v1,v2⟩:=two u δ3 hu d3
    obtain ⟨w,hw',w1,w2⟩:=two v _ hv hw
    refine ⟨w,hw',by grind,by grind,by grind,?_⟩
    have:=Rat.mul_le_mul_of_nonneg_right w2 (Rat.le_of_lt hT)
    rwa [hw2] at this
   refine ⟨δ,hδ,fun x y hx hy hxy hd a' r' e sa=>?_⟩
   cases e
   show Al (sgR (pv a x)) (sgR (pv b x)::sgX (c::r) x) (sgR (pv b y)::sgX (c::r) y)
   by_cases sb:Sta (pv b) x y
   ·have t:=l1 x y hx hy hxy (by grind) b (c::r) rfl sb
    rw [<- sb.1]
    exact .stab sb.2 t
   ·obtain ⟨sc,c1,c2⟩:=l3 x y hx hy hxy (by grind) sb
    obtain ⟨b1,_⟩:=sP sb (m2 x y hx hy (by grind))
    have hyx:0<y-x:=by grind
    have hop:sgR (pv c x) = -sgR (pv a x):=by
     obtain ⟨f1,f2⟩:=(n1 x hx).mul b1
     have e1:=eq x
     have e2:N*(M*(y-x))<β*κ:=by
      have h1:(y-x)*(N*M+1)<=δ*(N*M+1):=Rat.mul_le_mul_of_nonneg_right hd (Rat.le_of_lt hT)
      grind
     rcases c1 with z | z
     ·have h2:β*κ<=β*pv c x:=Rat.mul_le_mul_of_nonneg_left z (Rat.le_of_lt hβ)
      have h3:α*pv a x<0:=by grind
      have h4:pv a x<0:=by
       rcases Rat.le_total (a:=0) (b:=pv a x) with w | w
       ·have:=Rat.mul_nonneg (Rat.le_of_lt hα) w;grind
       ·rcases cD (pv a x) with ⟨w2,_⟩ | ⟨w2,_⟩ | ⟨w2,_⟩
        ·exact w2
        ·rw [w2] at h3;grind
        ·grind
      rcases cD (pv c x) with ⟨w,_⟩ | ⟨w,_⟩ | ⟨_,w⟩
      ·grind
      ·grind
      ·rcases cD (pv a x) with ⟨_,v⟩ | ⟨v,_⟩ | ⟨v,_⟩
       ·rw [w,v];decide
       ·grind
       ·grind
     ·have h2:β*pv c x<=β*(-κ):=Rat.mul_le_mul_of_nonneg_left z (Rat.le_of_lt hβ)
      have h3:0<α*pv a x:=by grind
      have h4:0<pv a x:=by
       rcases cD (pv a x) with ⟨w2,_⟩ | ⟨w2,_⟩ | ⟨w2,_⟩
       ·have:=Rat.mul_nonneg (Rat.le_of_lt hα) (show 0 <= -pv a x by grind);grind
       ·rw [w2] at h3;grind
       ·exact w2
      rcases cD (pv c x) with ⟨_,w⟩ | ⟨w,_⟩ | ⟨w,_⟩
      ·rcases cD (pv a x) with ⟨v,_⟩ | ⟨v,_⟩ | ⟨_,v⟩
       ·grind
       ·grind
       ·rw [w,v]
      ·grind
      ·grind
    have hop':sgR (pv c y) = -sgR (pv a x):=by rw [<- sc.1];exact hop
    have t:Al (sgR (pv c x)) (sgX r x) (sgX r y):=l2 x y hx hy hxy (by grind) c r rfl sc
    rw [hop] at t
    show Al _ (_::sgR (pv c x)::sgX r x) (_::sgR (pv c y)::sgX r y)
    rw [hop,hop']
    exact .unst (o2 _) (o2 _) t
def chg (f:Rat->Rat) (x y:Rat):Int:=if sgR (f x)≠0/\sgR (f y)≠sgR (f x) then 1 else 0
def vrs (row:List (List Int)) (x:Rat):Int:=vr 0 (sgX row x)
theorem qF {s:Int} (r:List Int):vr 0 (s::r)=vr s r:=by
 show (if s*0<0 then 1 else 0)+vr (if s=0 then 0 else s) r=_
 rw [Int.mul_zero,if_neg (by decide),Int.zero_add]
 split
 ·rename_i h;rw [h]
 ·rfl
theorem BK {F0 F1:List Int} {r:List (List Int)} (h:SRow (F0::F1::r)) {γ:Rat} (hγ:0<γ) (hd:∀ x,pv (slopeL F0) x=γ*pv F1 x) {R:Rat} (hR:0<=R) :
 ∃ δ:Rat,0<δ/\∀ x y,Bd R x->Bd R y->x<y->y-x<=δ->vrs (F0::F1::r) x-vrs (F0::F1::r) y=chg (pv F0) x y:=by
 obtain ⟨⟨δ1,d1,l1⟩,⟨δ2,d2,l2⟩⟩:=yU h R hR
 obtain ⟨A,B,k,nA,nB,hk,hAB⟩:=AC h rfl
 obtain ⟨δ3,κ,d3,hκ,l3⟩:=yc (eI F0) (eI F1) nA nB hk hAB hR
 obtain ⟨M,m0,m1⟩:=xU F0 R hR
 have hγκ:=Rat.mul_pos hγ hκ
 obtain ⟨δ,hδ,g1,g2,g3,g4⟩:∃ δ:Rat,0<δ/\δ<=δ1/\δ<=δ2/\δ<=δ3/\δ*(M+1)<=γ*κ:=by
  have hT:0<M+1:=by grind
  have hw:=eY hγκ hT
  have hw2:γ*κ/(M+1)*(M+1)=γ*κ:=Rat.div_mul_cancel (by grind)
  have two:∀ u v:Rat,0<u->0<v->∃ w:Rat,0<w/\w<=u/\w<=v:=fun u v hu hv=>by
   rcases Rat.le_total (a:=u) (b:=v) with z | z
   ·exact ⟨u,hu,Rat.le_refl,z⟩
   ·exact ⟨v,hv,z,Rat.le_refl⟩
  obtain ⟨u,hu,u1,u2⟩:=two δ1 δ2 d1 d2
  obtain ⟨v,hv,v1,v2⟩:=two u δ3 hu d3
  obtain ⟨w,hw',w1,w2⟩:=two v _ hv hw
  refine ⟨w,hw',by grind,by grind,by grind,?_⟩
  have:=Rat.mul_le_mul_of_nonneg_right w2 (Rat.le_of_lt hT)
  rwa [hw2] at this
 refine ⟨δ,hδ,fun x y hx hy hxy hyd=>?_⟩
 have e0:∀ z,vrs (F0::F1::r) z=vr (sgR (pv F0 z)) (sgX (F1::r) z):=fun z=>qF _
 have nz:∀ {v:Rat},sgR v≠0->sgR v=1\/sgR v = -1:=fun {v} hv=>by rcases o2 v with z | z | z;exact .inl z;exact absurd z hv;exact .inr z
 rw [e0,e0]
 by_cases s0:Sta (pv F0) x y
 ·have t:=(l1 x y hx hy hxy (by grind) F0 (F1::r) rfl s0).vr (nz s0.2) (xw _ _)
  rw [<- s0.1,t]
  unfold chg
  rw [if_neg (fun z=>z.2 s0.1.symm)];omega
 ·obtain ⟨s1,c1,c2⟩:=l3 x y hx hy hxy (by grind) s0
  have t:=(l2 x y hx hy hxy (by grind) F1 r rfl s1).vr (nz s1.2) (xw _ _)
  have hyx:0<y-x:=by grind
  have hyy:0<(y-x)*(y-x):=Rat.mul_pos hyx hyx
  obtain ⟨f1,f2⟩:=m1 x y hx hy (by grind)
  have small:M*((y-x)*(y-x))<(y-x)*(γ*κ):=by
   have h1:(y-x)*(M+1)<=γ*κ:=by
    have:=Rat.mul_le_mul_of_nonneg_right hyd (show 0<=M+1 by grind)
    grind
   have h2:(y-x)*((y-x)*(M+1))<=(y-x)*(γ*κ):=Rat.mul_le_mul_of_nonneg_left h1 (Rat.le_of_lt hyx)
   grind
  rw [hd] at f1 f2
  show vr (sgR (pv F0 x)) (sgR (pv F1 x)::sgX r x)-vr (sgR (pv F0 y)) (sgR (pv F1 y)::sgX r y)=_
  have hu:∀ (b s:Int) (l:List Int),s≠0->vr b (s::l)=(if s*b<0 then 1 else 0)+vr s l:=fun b s l hs=>by
   show _+vr (if s=0 then b else s) l=_
   rw [if_neg hs]
  have s1':sgR (pv F1 y)=sgR (pv F1 x):=s1.1.symm
  rw [s1',hu _ _ _ s1.2,hu _ _ _ s1.2,t]
  unfold chg
  rcases c1 with z | z
  ·
   have h1:γ*κ<=γ*pv F1 x:=Rat.mul_le_mul_of_nonneg_left z (Rat.le_of_lt hγ)
   have h2:(y-x)*(γ*κ)<=(y-x)*(γ*pv F1 x):=Rat.mul_le_mul_of_nonneg_left h1 (Rat.le_of_lt hyx)
   have rise:pv F0 x<pv F0 y:=by grind
   have s1p:sgR (pv F1 x)=1:=by
    rcases cD (pv F1 x) with ⟨w,_⟩ | ⟨w,_⟩ | ⟨_,w⟩
    ·grind
    ·grind
    ·exact w
   rw [s1p]
   rcases cD (pv F0 x) with ⟨a1,a2⟩ | ⟨a1,a2⟩ | ⟨a1,a2⟩<;>rcases cD (pv F0 y) with ⟨b1,b2⟩ | ⟨b1,b2⟩ | ⟨b1,b2⟩
   ·exact absurd ⟨by rw [a2,b2],by rw [a2];decide⟩ s0
   ·rw [a2,b2];simp
   ·rw [a2,b2];simp
   ·grind
   ·grind
   ·rw [a2,b2];simp
   ·grind
   ·grind
   ·exact absurd ⟨by rw [a2,b2],by rw [a2];decide⟩ s0
  ·have h1:γ*pv F1 x<=γ*(-κ):=Rat.mul_le_mul_of_nonneg_left z (Rat.le_of_lt hγ)
   have h2:(y-x)*(γ*pv F1 x)<=(y-x)*(γ*(-κ)):=Rat.mul_le_mul_of_nonneg_left h1 (Rat.le_of_lt hyx)
   have fall:pv F0 y<pv F0 x:=by grind
   have s1p:sgR (pv F1 x) = -1:=by
    rcases cD (pv F1 x) with ⟨_,w⟩ | ⟨w,_⟩ | ⟨w,_⟩
    ·exact w
    ·grind
    ·grind
   rw [s1p]
   rcases cD (pv F0 x) with ⟨a1,a2⟩ | ⟨a1,a2⟩ | ⟨a1,a2⟩<;>rcases cD (pv F0 y) with ⟨b1,b2⟩ | ⟨b1,b2⟩ | ⟨b1,b2⟩
   ·exact absurd ⟨by rw [a2,b2],by rw [a2];decide⟩ s0
   ·grind
   ·grind
   ·rw [a2,b2];simp
   ·grind
   ·grind
   ·rw [a2,b2];simp
   ·rw [a2,b2];simp
   ·exact absurd ⟨by rw [a2,b2],by rw [a2];decide⟩ s0
end RM
namespace RM
structure Cut (s:Rat->Int):Prop where
 u:∀ x,gS (s x)
 m:∀ x y,x<y->s x<=0->s y = -1
def cnt (S:List (Rat->Int)) (x y:Rat):Int:=(S.map fun s=>if 0<s x/\s y<=0 then (1:Int) else 0).sum
theorem Aa (x y:Rat):cnt [] x y=0:=rfl
theorem ee (s:Rat->Int) (S:List (Rat->Int)) (x y:Rat):cnt (s::S) x y=(if 0<s x/\s y<=0 then 1 else 0)+cnt S x y:=by unfold cnt;rw [List.map_cons,List.sum_cons]
theorem u3 {x y z:Rat} (hxy:x<y) (hyz:y<z):∀ {S:List (Rat->Int)},(∀ s∈S,Cut s)->cnt S x z=cnt S x y+cnt S y z
 | [],_=>rfl
 | s::S,h=>by
   have hs:=h s (List.mem_cons_self ..)
   have ih:=u3 hxy hyz (S:=S) fun t ht=>h t (List.mem_cons_of_mem _ ht)
   rw [ee,ee,ee,ih]
   have e:(if 0<s x/\s z<=0 then (1:Int) else 0)=(if 0<s x/\s y<=0 then 1 else 0)+(if 0<s y/\s z<=0 then 1 else 0):=by
    by_cases hy:s y<=0
    ·have hz:=hs.m y z hyz hy
     rw [if_neg (show ¬ (0<s y/\s z<=0) by omega)]
     by_cases hx:0<s x
     ·rw [if_pos ⟨hx,by omega⟩,if_pos ⟨hx,hy⟩];rfl
     ·rw [if_neg (by omega),if_neg (by omega)];rfl
    ·have hx:0<s x:=by
      rcases Int.lt_or_le 0 (s x) with q | q
      ·exact q
      ·have:=hs.m x y hxy q;omega
     rw [if_neg (show ¬ (0<s x/\s y<=0) by omega)]
     by_cases hz:s z<=0
     ·rw [if_pos ⟨hx,hz⟩,if_pos ⟨by omega,hz⟩];rfl
     ·rw [if_neg (by omega),if_neg (by omega)];rfl
   rw [e];omega
def cpr (x:Rat):List (Rat->Int)->Int
 | []=>1
 | s::S => -s x*cpr x S
theorem qk (x:Rat):∀ a b,cpr x (a++b)=cpr x a*cpr x b
 | [],b=>by show _=1*_;rw [Int.one_mul];rfl
 | s::a,b=>by show _*cpr x (a++b)=_*_*_;rw [qk x a b,Int.mul_assoc]
def inC (s:Rat->Int) (x y:Rat):Prop:=0<=s x/\s y<=0
theorem GH {s:Rat->Int} (h:Cut s) {x y:Rat} (hxy:x<y) (hn:¬ inC s x y):s x=s y/\(s x=1\/s x = -1):=by
 have h1:=h.u x
 have h2:=h.u y
 unfold inC at hn
 by_cases hx:s x<=0
 ·have:=h.m x y hxy hx
  rcases h1 with a | a | a<;>omega
 ·rcases h1 with a | a | a
  ·rcases h2 with b | b | b<;>omega
  ·omega
  ·omega
theorem tI {x y:Rat} (hxy:x<y):∀ {S:List (Rat->Int)},(∀ s∈S,Cut s)->(∀ s∈S,¬ inC s x y)->cpr x S=cpr y S/\(cpr x S=1\/cpr x S = -1)/\cnt S x y=0
 | [],_,_=>⟨rfl,.inl rfl,rfl⟩
 | s::S,h,hn=>by
   obtain ⟨i1,i2,i3⟩:=tI hxy (S:=S) (fun t ht=>h t (List.mem_cons_of_mem _ ht)) fun t ht=>hn t (List.mem_cons_of_mem _ ht)
   obtain ⟨a1,a2⟩:=GH (h s (List.mem_cons_self ..)) hxy (hn s (List.mem_cons_self ..))
   refine ⟨by show -s x*cpr x S = -s y*cpr y S;rw [a1,i1],?_,?_⟩
   ·show -s x*cpr x S=1 \/ -s x*cpr x S = -1
    rcases a2 with z | z<;>rcases i2 with w | w<;>rw [z,w]<;>decide
   ·rw [ee,i3,if_neg (by omega)];rfl
theorem uZ (x y:Rat):∀ a b,cnt (a++b) x y=cnt a x y+cnt b x y
 | [],b=>by rw [Aa];simp
 | s::a,b=>by rw [List.cons_append,ee,ee,uZ x y a b];omega
theorem Ai {f:Rat->Rat} {S:List (Rat->Int)} {ε:Int} (hε:ε=1\/ε = -1) (hS:∀ s∈S,Cut s) {x y:Rat} (hxy:x<y) (hx:sgR (f x)=ε*cpr x S) (hy:sgR (f y)=ε*cpr y S) (hp:S.Pairwise fun s t=>¬ (inC s x y/\inC t x y)):chg f x y=cnt S x y:=by
 by_cases hall:∀ s∈S,¬ inC s x y
 ·obtain ⟨k1,k2,k3⟩:=tI hxy hS hall
  rw [k3]
  unfold chg
  rw [if_neg]
  rintro ⟨_,h2⟩
  exact h2 (by rw [hx,hy,k1])
 ·obtain ⟨s,hs,hin⟩:∃ s,s∈S/\inC s x y:=by
   refine Classical.byContradiction fun z=>hall fun s hs hi=>z ⟨s,hs,hi⟩
  obtain ⟨pre,post,rfl⟩:=List.append_of_mem hs
  have hno:∀ t∈pre++post,¬ inC t x y:=fun t ht hi=>by
   rw [List.pairwise_append] at hp
   rcases List.mem_append.mp ht with z | z
   ·exact hp.2.2 t z s (List.mem_cons_self ..) ⟨hi,hin⟩
   ·exact (List.pairwise_cons.mp hp.2.1).1 t z ⟨hin,hi⟩
  have hS':∀ t∈pre++post,Cut t:=fun t ht=>hS t (by
   rcases List.mem_append.mp ht with z | z
   ·exact List.mem_append_left _ z
   ·exact List.mem_append_right _ (List.mem_cons_of_mem _ z))
  obtain ⟨k1,k2,k3⟩:=tI hxy hS' hno
  have hc:=hS s hs
  have e1:∀ z,cpr z (pre++s::post)=cpr z (pre++post) * -s z:=fun z=>by
   rw [qk,qk]
   show cpr z pre*(-s z*cpr z post)=_
   rw [Int.mul_comm (-s z),Int.mul_assoc]
  have e2:cnt (pre++s::post) x y=(if 0<s x/\s y<=0 then 1 else 0):=by
   rw [uZ,ee]
   rw [uZ] at k3
   omega
  rw [e1] at hx hy
  rw [<- k1] at hy
  rw [e2]
  unfold inC at hin
  have h1:=hc.u x
  have h2:=hc.u y
  unfold chg
  rw [hx,hy]
  generalize cpr x (pre++post)=c at *
  have hs0:s x=0->s y = -1:=fun z=>hc.m x y hxy (by omega)
  rcases h1 with a | a | a
  ·rw [a]
   rcases h2 with b | b | b
   ·omega
   ·rw [b]
    rcases hε with rfl | rfl<;>rcases k2 with rfl | rfl<;>simp
   ·rw [b]
    rcases hε with rfl | rfl<;>rcases k2 with rfl | rfl<;>simp
  ·rw [a]
   simp
  ·omega
theorem AM (q:Rat):∃ n:Nat,q<=(n:Rat):=by
 refine ⟨q.ceil.toNat,Rat.le_trans (Rat.le_ceil (x:=q)) ?_⟩
 have h:q.ceil<=(q.ceil.toNat:Int):=Int.self_le_toNat _
 have h2:=Rat.intCast_le_intCast.mpr h
 exact h2
theorem yt (n:Nat):(n:Rat)<=2^n:=by
 induction n with
 | zero=>decide
 | succ n ih =>
   have h1:((1:Nat):Rat)<=2^n:=by
    have:(1:Nat)<=2^n:=Nat.pow_pos (by decide)
    have h2:((1:Nat):Rat)<=((2^n:Nat):Rat):=Rat.natCast_le_natCast.mpr this
    rwa [Rat.natCast_pow] at h2
   rw [Rat.pow_succ,Rat.natCast_add]
   grind
theorem ve {V:Rat->Int} {S:List (Rat->Int)} (hS:∀ s∈S,Cut s) {R δ:Rat} (hδ:0<δ) (h:∀ x y,Bd R x->Bd R y->x<y->y-x<=δ->V x-V y=cnt S x y):∀ (n:Nat) (x y:Rat),Bd R x->Bd R y->x<y->y-x<=2^n*δ->V x-V y=cnt S x y
 | 0,x,y,hx,hy,hxy,hd=>h x y hx hy hxy (by rw [Rat.pow_zero] at hd;grind)
 | n+1,x,y,hx,hy,hxy,hd=>by
   have m1:x<(x+y)/2:=by grind
   have m2:(x+y)/2<y:=by grind
   have hm:Bd R ((x+y)/2):=by
    obtain ⟨a,b⟩:=hx
    obtain ⟨c,d⟩:=hy
    constructor<;>grind
   rw [Rat.pow_succ] at hd
   have i1:=ve hS hδ h n x ((x+y)/2) hx hm m1 (by grind)
   have i2:=ve hS hδ h n ((x+y)/2) y hm hy m2 (by grind)
   rw [u3 m1 m2 hS]
   omega
theorem BL {F0 F1:List Int} {r:List (List Int)} (h:SRow (F0::F1::r)) {γ:Rat} (hγ:0<γ) (hd:∀ x,pv (slopeL F0) x=γ*pv F1 x) {S:List (Rat->Int)} (hS:∀ s∈S,Cut s) {ε:Int} (hε:ε=1\/ε = -1) (hf:∀ x,sgR (pv F0 x)=ε*cpr x S)
 {δ0:Rat} (hδ0:0<δ0) (hp:∀ x y,x<y->y-x<=δ0->S.Pairwise fun s t=>¬ (inC s x y/\inC t x y)) {x y:Rat} (hxy:x<y):vrs (F0::F1::r) x-vrs (F0::F1::r) y=cnt S x y:=by
 obtain ⟨R,hR,hx,hy⟩:∃ R:Rat,0<=R/\Bd R x/\Bd R y:=by
  have ab:∀ v:Rat,∃ w:Rat,0<=w/\Bd w v:=fun v=>by
   rcases Rat.le_total (a:=0) (b:=v) with z | z
   ·exact ⟨v,z,by grind,by grind⟩
   ·exact ⟨-v,by grind,by grind,by grind⟩
  obtain ⟨u,u0,u1⟩:=ab x
  obtain ⟨v,v0,v1⟩:=ab y
  exact ⟨u+v,by grind,u1.mono (by grind),v1.mono (by grind)⟩
 obtain ⟨δ1,d1,l1⟩:=BK h hγ hd hR
 obtain ⟨δ,hδ,g1,g2⟩:∃ δ:Rat,0<δ/\δ<=δ0/\δ<=δ1:=by
  rcases Rat.le_total (a:=δ0) (b:=δ1) with z | z
  ·exact ⟨δ0,hδ0,Rat.le_refl,z⟩
  ·exact ⟨δ1,d1,z,Rat.le_refl⟩
 obtain ⟨n,hn⟩:=AM ((y-x)/δ)
 refine ve hS hδ (R:=R) (fun x y hx hy hxy hdd=>?_) n x y hx hy hxy ?_
 ·rw [l1 x y hx hy hxy (by grind)]
  exact Ai hε hS hxy (hf x) (hf y) (hp x y hxy (by grind))
 ·have h1:(y-x)/δ<=2^n:=Rat.le_trans hn (yt n)
  have h2:=Rat.mul_le_mul_of_nonneg_right h1 (Rat.le_of_lt hδ)
  rwa [Rat.div_mul_cancel (by grind)] at h2
theorem tQ {n:Int} (hn:n≠0):(n:Rat)≠0:=fun z=>hn (Rat.intCast_inj.mp (show ((n:Int):Rat)=((0:Int):Rat) by rw [z];rfl))
theorem pC (q:Rat):(q.num:Rat)=q*((q.den:Int):Rat):=by
 have hd:((q.den:Int):Rat)≠0:=tQ (by have:=q.den_pos;omega)
 have hx:(q.num:Rat)/((q.den:Int):Rat)=q:=by
  have:=Rat.mkRat_self q
  rw [Rat.mkRat_eq_div] at this
  exact this
 have:=Rat.div_mul_cancel (a:=(q.num:Rat)) hd
 rw [hx] at this
 exact this.symm
theorem Df {t n:Int} (hn:0<n):((t:Rat)/(n:Rat)).num*n=t*(((t:Rat)/(n:Rat)).den:Int):=by
 have hn':(n:Rat)≠0:=tQ (by omega)
 have hq:(t:Rat)/(n:Rat)*(n:Rat)=(t:Rat):=Rat.div_mul_cancel hn'
 generalize (t:Rat)/(n:Rat)=q at hq ⊢
 apply Rat.intCast_inj.mp
 rw [Rat.intCast_mul,Rat.intCast_mul,pC q,<- hq]
 grind
theorem ib {t n t' n':Int} (hn:0<n) (hn':0<n'):(t:Rat)/(n:Rat)<(t':Rat)/(n':Rat)↔t*n'<t'*n:=by
 have p1:(0:Rat)<(n:Rat):=Rat.intCast_lt_intCast.mpr hn
 have p2:(0:Rat)<(n':Rat):=Rat.intCast_lt_intCast.mpr hn'
 have e1:(t:Rat)/(n:Rat)*(n:Rat)=(t:Rat):=Rat.div_mul_cancel (by grind)
 have e2:(t':Rat)/(n':Rat)*(n':Rat)=(t':Rat):=Rat.div_mul_cancel (by grind)
 generalize (t:Rat)/(n:Rat)=q at e1 ⊢
 generalize (t':Rat)/(n':Rat)=q' at e2 ⊢
 rw [<- Rat.intCast_lt_intCast,Rat.intCast_mul,Rat.intCast_mul,<- e1,<- e2]
 have p3:=Rat.mul_pos p1 p2
 have e3:q*(n:Rat)*(n':Rat)=q*((n:Rat)*(n':Rat)):=by grind
 have e4:q'*(n':Rat)*(n:Rat)=q'*((n:Rat)*(n':Rat)):=by grind
 rw [e3,e4]
 constructor
 ·intro h;exact Rat.mul_lt_mul_of_pos_right h p3
 ·intro h
  refine Rat.not_le.mp fun z=>?_
  have:=Rat.mul_le_mul_of_nonneg_right z (Rat.le_of_lt p3)
  grind
theorem xy {p v:Rat} (hp:0<p):sgR (p*v)=sgR v:=by
 rcases cD v with ⟨a,b⟩ | ⟨a,b⟩ | ⟨a,b⟩
 ·have:p*v<0:=by
   have:=Rat.mul_pos hp (show 0 < -v by grind);grind
  rcases cD (p*v) with ⟨_,d⟩ | ⟨c,d⟩ | ⟨c,d⟩
  ·rw [b,d]
  ·grind
  ·grind
 ·rw [a]
  have:p*0=0:=by grind
  rw [this]
 ·have:=Rat.mul_pos hp a
  rcases cD (p*v) with ⟨c,d⟩ | ⟨c,d⟩ | ⟨_,d⟩
  ·grind
  ·grind
  ·rw [b,d]
theorem Cd (z:Int):sgR (z:Rat)=sg z:=by
 rcases cD (z:Rat) with ⟨a,b⟩ | ⟨a,b⟩ | ⟨a,b⟩
 ·have:z<0:=Rat.intCast_lt_intCast.mp a
  rw [b];unfold sg;rw [if_pos this]
 ·have:z=0:=Rat.intCast_inj.mp a
  rw [this];rfl
 ·have:0<z:=Rat.intCast_lt_intCast.mp a
  rw [b];unfold sg;rw [if_neg (by omega),if_pos this]
theorem tR {t n:Int} (hn:0<n):∀ l:List Int,(hv t n l:Rat)=(n:Rat)^l.length*pv l ((t:Rat)/(n:Rat))
 | []=>by show ((0:Int):Rat)=_*0;grind
 | c::l=>by
   have hn':(n:Rat)≠0:=tQ (by omega)
   have hq:(t:Rat)/(n:Rat)*(n:Rat)=(t:Rat):=Rat.div_mul_cancel hn'
   rw [dD,Rat.intCast_add,Rat.intCast_mul,Rat.intCast_mul,tR hn l,Rat.intCast_pow]
   show _=(n:Rat)^(l.length+1)*((c:Rat)+(t:Rat)/(n:Rat)*pv l ((t:Rat)/(n:Rat)))
   rw [Rat.pow_succ]
   generalize hqq:(t:Rat)/(n:Rat)=q at *
   rw [<- hq]
   grind
theorem rY {t n:Int} (hn:0<n) (l:List Int):sg (hv t n l)=sgR (pv l ((t:Rat)/(n:Rat))):=by
 rw [<- Cd,tR hn]
 exact xy (Rat.pow_pos (Rat.intCast_lt_intCast.mpr hn))
end RM
namespace RM
def Cop2 (a b:List Int):Prop:=∀ d,d≠[]->Tr d->Dv d a->Dv d b->d.length<=1
theorem Ff {one other:List Int} (ho:other≠[]):∀ n,cq one other*cf one n=aw (ci one other) other n-(aA (cF [] (aR one other)):Int)*cf (nxt one other) n:=fun n=>by
 have h1:=gM (a:=one) ho n
 have e:nxt one other=ar (cF [] (aR one other)):=by unfold nxt rst;rw [if_neg ho]
 have h2:=congrArg (fun l=>cf l n) (oX (l:=cF [] (aR one other)))
 simp only [bJ] at h2
 have h3:cf (cF [] (aR one other)) n = -cf (aR one other) n:=by
  rw [oC (fy _ _),bJ];omega
 rw [e,h2,h3,h1];omega
theorem Bp (one other:List Int):Tr (nxt one other):=by
 unfold nxt
 exact fH (by unfold cF;exact eQ _)
theorem Fg {one other:List Int} (ho:other≠[]):(nxt one other).length<other.length:=by
 have h1:=gf (a:=one) ho
 unfold nxt rst
 rw [if_neg ho,oC (fy _ _)]
 have h2:(ar (scL (-1) (aR one other))).length<=(scL (-1) (aR one other)).length:=by
  unfold ar;rw [List.length_map];exact Nat.le_refl _
 rw [ck] at h2
 omega
theorem tD {l:List Int} (h:l.length<=1) (hne:l≠[]):∃ c,l=[c]:=List.length_eq_one_iff.mp (by have:=List.length_pos_iff.mpr hne;omega)
theorem xE:∀ (n:Nat) (one other:List Int),other.length<=n->Tr one->one≠[]->Tr other->Cop2 one other->SRow (bF (n+1) one other)
 | 0,one,other,hl,to,no,tt,hc=>by
   have e0:other=[]:=List.eq_nil_of_length_eq_zero (Nat.le_zero.mp hl)
   subst e0
   have h1:=hc one no to (Dv.refl _) (Dv.nil _)
   obtain ⟨c,rfl⟩:=tD h1 no
   show SRow (if ([c]:List Int)=[] then _ else [c]::bF 0 [] (nxt [c] []))
   rw [if_neg no]
   exact .last (tr_snoc (r:=[]) |>.mp to)
 | n+1,one,other,hl,to,no,tt,hc=>by
   have e:bF (n+1+1) one other=one::bF (n+1) other (nxt one other):=by show (if one=[] then _ else _)=_;rw [if_neg no]
   rw [e]
   by_cases ho:other=[]
   ·subst ho
    have h1:=hc one no to (Dv.refl _) (Dv.nil _)
    obtain ⟨c,rfl⟩:=tD h1 no
    rw [mK]
    exact .last (tr_snoc (r:=[]) |>.mp to)
   have hs:=Ff (one:=one) ho
   have hlen:=Fg (one:=one) ho
   have tn:=Bp one other
   have fp:0<cq one other:=JG ho tt
   by_cases hn:nxt one other=[]
   ·
    have hdv:Dv other one:=⟨cq one other,ci one other,by omega,fun k=>by rw [hs k,hn,cz];omega⟩
    have h1:=hc other ho tt hdv (Dv.refl _)
    obtain ⟨c,rfl⟩:=tD h1 ho
    rw [hn,xF ho (by omega)]
    exact .two (tr_snoc (r:=[]) |>.mp tt)
   ·have hc2:Cop2 other (nxt one other):=fun d dn dt h1 h2=>by
     refine hc d dn dt ?_ h1
     refine Dv.up (f:=cq one other) (q:=ci one other) (r:=scL (-(aA (cF [] (aR one other)):Int)) (nxt one other)) (by omega) (fun k=>?_) h1 ?_
     ·rw [hs k,bJ,Int.neg_mul];omega
     ·exact Dv.prop_right (x:=1) (y := -(aA (cF [] (aR one other)):Int)) (by decide) (fun k=>by rw [bJ];omega) h2
    have ih:=xE n other (nxt one other) (by omega) tt ho tn hc2
    have e2:bF (n+1) other (nxt one other)=other::bF n (nxt one other) (nxt other (nxt one other)):=by show (if other=[] then _ else _)=_;rw [if_neg ho]
    have n1:0<n:=by
     have:=List.length_pos_iff.mpr hn
     omega
    obtain ⟨m,rfl⟩:∃ m,n=m+1:=⟨n-1,by omega⟩
    have e3:bF (m+1) (nxt one other) (nxt other (nxt one other))=nxt one other::bF m (nxt other (nxt one other)) (nxt (nxt one other) (nxt other (nxt one other))):=by show (if nxt one other=[] then _ else _)=_;rw [if_neg hn]
    rw [e2,e3] at ih ⊢
    have gp:0<(aA (cF [] (aR one other)):Int):=by
     rcases Nat.eq_zero_or_pos (aA (cF [] (aR one other))) with z | z
     ·exfalso
      apply hn
      refine sR tn fun k=>?_
      have e:nxt one other=ar (cF [] (aR one other)):=by unfold nxt rst;rw [if_neg ho]
      rw [e]
      unfold ar
      rw [z]
      unfold cf
      simp [List.getD]
      cases (cF [] (aR one other))[k]? with
      | none=>rfl
      | some v=>simp
     ·omega
    refine .cons (q:=ci one other) (α:=(cq one other:Rat)) (β:=((aA (cF [] (aR one other)):Int):Rat)) (Rat.intCast_lt_intCast.mpr fp) (Rat.intCast_lt_intCast.mpr gp) (fun x=>?_) ih
    have h1:=mO (a:=one) (c:=scL (cq one other) one) (u:=cq one other) x fun k=>bJ _ _ _
    have h2:=xV x (ci one other) other (ad (ci one other) other) (aP _ _)
    have h3:=o7 (a:=ad (ci one other) other) (b:=nxt one other) (c:=scL (cq one other) one) (u:=1) (v := -(aA (cF [] (aR one other)):Int)) x fun k=>by rw [bJ,hs k,aP,Int.neg_mul];omega
    rw [<- h1,h3,h2,Rat.intCast_neg]
    show ((1:Int):Rat)*_+_=_
    grind
theorem xX {ss:List (List Int)} (h:∀ s∈ss,Pri s):aS [1] ss=prd ss:=by
 unfold aS
 rw [zA,one_mul _ (ii ss fun s hs=>(h s hs).pln).tr]
theorem fv {f:List Int} (h:FacG f):Pri (ag f):=by
 obtain ⟨u,e,b,rfl,_,_,_,_,h5,_,h7⟩:=h
 exact Dd h5 h7
def gT (fs:List (List Int)):List (List Int×Nat):=fs.map fun f=>(ag f,1)
theorem we {fs:List (List Int)} (hF:∀ f∈fs,FacG f) (hn:(fs.map ag).Nodup):Use (gT fs):=by
 refine ⟨fun p hp=>?_,fun p hp=>?_,?_⟩
 ·obtain ⟨f,hf,rfl⟩:=List.mem_map.mp hp
  exact fv (hF f hf)
 ·obtain ⟨f,hf,rfl⟩:=List.mem_map.mp hp
  exact Nat.le_refl _
 ·unfold gT
  rw [List.map_map]
  exact hn
theorem wc {c:Int} {fs:List (List Int)} (hF:∀ f∈fs,FacG f):whl c (gT fs)=ad [c] (aS [1] (fs.map ag)):=by
 unfold whl
 congr 1
 rw [xX fun s hs=>by obtain ⟨f,hf,rfl⟩:=List.mem_map.mp hs;exact fv (hF f hf)]
 have e1:fP id (gT fs)=flt (gT fs):=lN _ fun p hp=>by
  obtain ⟨f,hf,rfl⟩:=List.mem_map.mp hp;rfl
 rw [e1,zC]
 congr 1
 unfold gT
 rw [List.map_map];rfl
theorem zG:∀ us:List (List Int×Nat),fP (fun _=>0) us=[1]
 | []=>rfl
 | p::us=>by rw [eK,zG us];rfl
theorem A9 {fs:List (List Int)}:mor (gT fs) 1=[1]:=by
 unfold mor
 rw [lN (h:=fun _=>0) _ fun p hp=>by obtain ⟨f,hf,rfl⟩:=List.mem_map.mp hp;rfl]
 exact zG _
theorem Du {c:Int} {fs:List (List Int)} (hF:∀ f∈fs,FacG f) (hn:(fs.map ag).Nodup) (hc:c≠0) (hl:(ad [c] (aS [1] (fs.map ag))).length<=20):Cop2 (ad [c] (aS [1] (fs.map ag))) (slopeL (ad [c] (aS [1] (fs.map ag)))):=fun d dn dt h1 h2=>by
 have U:=we hF hn
 have ew:=wc (c:=c) hF
 obtain ⟨tw,nw,_⟩:=mq U hc
 have hcom:=v6 U hc (by rw [ew];exact hl)
 rw [A9] at hcom
 rw [<- ew] at h1 h2 hl
 have h3:=(zX (by rw [fW];omega) tw (gU tw)).all d h1 h2
 rw [hcom] at h3
 rcases Nat.lt_or_ge 1 d.length with z | z
 ·have:=Dv.short dn dt ((tr_snoc (r:=[])).mpr (by decide)) (show ([1]:List Int).length<d.length from z) h3
  cases this
 ·exact z
theorem oY {l:List Int} (h:Tr l) (hne:l≠[]):0<(aA l:Int)/\Tr (ar l)/\ar l≠[]/\∀ n,cf l n=(aA l:Int)*cf (ar l) n:=by
 have e:=oX (l:=l)
 have ec:∀ n,cf l n=(aA l:Int)*cf (ar l) n:=fun n=>by
  have:=congrArg (fun z=>cf z n) e
  simp only [bJ] at this
  exact this.symm
 have hl:(ar l).length=l.length:=by unfold ar;rw [List.length_map]
 refine ⟨?_,fH h,fun z=>by rw [z] at hl;exact hne (List.eq_nil_of_length_eq_zero hl.symm),ec⟩
 rcases Nat.eq_zero_or_pos (aA l) with z | z
 ·exfalso
  refine hne (sR h fun k=>?_)
  rw [ec k,z];simp
 ·omega
theorem Cop2.shr {a b:List Int} (h:Cop2 a b) (ha:Tr a) (hna:a≠[]) (hb:Tr b):Cop2 (ar a) (ar b):=fun d dn dt h1 h2=>by
 obtain ⟨_,_,_,ea⟩:=oY ha hna
 refine h d dn dt (Dv.prop_right (x:=1) (y:=(aA a:Int)) (by decide) (fun n=>by rw [ea n];omega) h1) ?_
 by_cases hnb:b=[]
 ·rw [hnb];exact Dv.nil _
 ·obtain ⟨_,_,_,eb⟩:=oY hb hnb
  exact Dv.prop_right (x:=1) (y:=(aA b:Int)) (by decide) (fun n=>by rw [eb n];omega) h2
def sdR (l:List Int) (x:Rat):Int:=au l x.num x.den
theorem d9 (x:Rat):0<(x.den:Int):=by have:=x.den_pos;omega
theorem fJ (l:List Int) {t n:Int} (hn:0<n):sdR l ((t:Rat)/(n:Rat))=au l t n:=by
 unfold sdR
 exact oW l (d9 _) hn (Df hn)
theorem mJ {l:List Int} (h:Spt l):Cut (sdR l):=by
 refine ⟨fun x=>?_,fun x y hxy hs=>?_⟩
 ·rcases gz l x.num x.den with z | z | z
  ·exact .inl z
  ·exact .inr (.inl z)
  ·exact .inr (.inr z)
 ·exact gZ h (d9 x) (d9 y) ((Rat.lt_iff x y).mp hxy) hs
theorem uX (x:Rat):∀ ls:List (List Int),cpr x (ls.map sdR)=spr x.num x.den ls
 | []=>rfl
 | l::ls=>by show -sdR l x*_ = -au l x.num x.den*_;rw [uX x ls];rfl
theorem uT (x:Rat):(x.num:Rat)/((x.den:Int):Rat)=x:=by
 have:=Rat.mkRat_self x
 rw [Rat.mkRat_eq_div] at this
 exact this
theorem vy {l l':List Int} (hl:Spt l) (hl':Spt l') (h:AZ l l') {x y:Rat} (hxy:x<y) (hd:y-x<=1/2^200):¬ (inC (sdR l) x y/\inC (sdR l') x y):=by
 rintro ⟨h1,h2⟩
 have hD:(0:Rat)<2^200:=Rat.pow_pos (by decide)
 have hDi:((2^200:Int):Rat)=2^200:=Rat.intCast_pow 2 200
 have f1:=Rat.floor_le (x*2^200)
 have f2:=Rat.lt_floor_add_one (x*2^200)
 rw [Rat.intCast_add] at f2
 have hd2:(y-x)*2^200<=1:=by
  have:=Rat.mul_le_mul_of_nonneg_right hd (Rat.le_of_lt hD)
  rwa [Rat.div_mul_cancel (by grind)] at this
 have key:∀ k:List Int,Spt k->inC (sdR k) x y->inS k ((x*2^200).floor-1) ((x*2^200).floor-1+128) (2^200):=fun k hk hi=>by
  have hc:=mJ hk
  have eA:((((x*2^200).floor-1:Int)):Rat)/((2^200:Int):Rat)*2^200=((x*2^200).floor:Rat)-1:=by
   rw [hDi,Rat.div_mul_cancel (by grind),Rat.intCast_sub];rfl
  have eB:((((x*2^200).floor-1+128:Int)):Rat)/((2^200:Int):Rat)*2^200=((x*2^200).floor:Rat)-1+128:=by
   rw [hDi,Rat.div_mul_cancel (by grind),Rat.intCast_add,Rat.intCast_sub];rfl
  constructor
  ·rw [<- fJ k (by decide)]
   generalize ((((x*2^200).floor-1:Int)):Rat)/((2^200:Int):Rat)=a at *
   have hax:a<x:=by
    refine Rat.not_le.mp fun z=>?_
    have:=Rat.mul_le_mul_of_nonneg_right z (Rat.le_of_lt hD)
    grind
   rcases Int.lt_or_le 0 (sdR k a) with w | w
   ·exact w
   ·have h3:=hc.m a x hax w
    have h4:=hi.1
    omega
  ·rw [<- fJ k (by decide)]
   generalize ((((x*2^200).floor-1+128:Int)):Rat)/((2^200:Int):Rat)=b at *
   have hby:y<b:=by
    refine Rat.not_le.mp fun z=>?_
    have:=Rat.mul_le_mul_of_nonneg_right z (Rat.le_of_lt hD)
    have e1:((1:Int):Rat)=1:=rfl
    grind
   have h3:=hc.m y b hby hi.2
   omega
 exact h _ _ _ (Int.le_refl _) rfl (key l hl h1) (key l' hl' h2)
def bC (ls:List (List Int)) (t n t' n':Int):Int:=(ls.map fun l=>if 0<au l t n/\au l t' n'<=0 then (1:Int) else 0).sum
theorem lQ {t n t' n':Int} (hn:0<n) (hn':0<n'):∀ ls:List (List Int),cnt (ls.map sdR) ((t:Rat)/(n:Rat)) ((t':Rat)/(n':Rat))=bC ls t n t' n'
 | []=>rfl
 | l::ls=>by
   have ih:=lQ (t:=t) (t':=t') hn hn' ls
   rw [List.map_cons,ee,ih,fJ l hn,fJ l hn']
   unfold bC
   rw [List.map_cons,List.sum_cons]
def sgv (row:List (List Int)) (t n:Int):List Int:=row.map fun f=>sg (hv t n f)
theorem xq {t n:Int} (hn:0<n) (row:List (List Int)):sgv row t n=sgX row ((t:Rat)/(n:Rat)):=by
 unfold sgv sgX
 exact List.map_congr_left fun f _=>rY hn f
theorem JL {c:Int} {fs:List (List Int)} (hF:∀ f∈fs,FacG f) (hnd:(fs.map ag).Nodup) (hc:c≠0) {P:List Int} (hP:P=ad [c] (aS [1] (fs.map ag))) (hl:P.length<=20) {N:Nat} (hN:P.length<=N+1) {t n t' n':Int} (hn:0<n) (hn':0<n') (hlt:t*n'<t'*n) :
 vr 0 (sgv (bF (N+1) (ar P) (ar (slopeL P))) t n)-vr 0 (sgv (bF (N+1) (ar P) (ar (slopeL P))) t' n')=bC (aL fs) t n t' n':=by
 have hFQ:∀ f∈fs,eN f:=fun f hf=>(hF f hf).q
 have U:=we hF hnd
 have ew:=wc (c:=c) hF
 obtain ⟨tP,nP,_⟩:=mq U hc
 rw [ew,<- hP] at tP nP
 have cop:=Du hF hnd hc (by rw [<- hP];exact hl)
 rw [<- hP] at cop
 have tS:=gU tP
 obtain ⟨g0,t0,n0,e0⟩:=oY tP nP
 have copS:=cop.shr tP nP tS
 have lS:(ar (slopeL P)).length=P.length-1:=by unfold ar;rw [List.length_map,fW]
 have hst:=xE N (ar P) (ar (slopeL P)) (by omega) t0 n0 (fH tS) copS
 by_cases hs:slopeL P=[]
 ·
  have h1:P.length<=1:=by have:=congrArg List.length hs;rw [fW] at this;simp at this;omega
  have hfs:fs=[]:=by
   cases fs with
   | nil=>rfl
   | cons f fs =>
     exfalso
     have hss:∀ s∈(f::fs).map ag,s≠[]/\Tr s:=fun s h=>by
      obtain ⟨x,hx,rfl⟩:=List.mem_map.mp h
      exact rV (hFQ x hx)
     obtain ⟨p1,p2,p3⟩:=lc ((f::fs).map ag) [1] (by simp) ((tr_snoc (r:=[])).mpr (by decide)) hss
     have hl2:2<=(ag f).length:=by
      obtain ⟨u,e,b,rfl,hb⟩:=hFQ f (List.mem_cons_self ..)
      obtain ⟨_,l2⟩:=fI (u:=u) (e:=e) hb
      show 2<=(aB (aK u e b)).length
      rw [plain_len];exact l2
     have hsl:∀ ss:List (List Int),(∀ s∈ss,s≠[])->ss.length<=sl ss:=fun ss=>by
      induction ss with
      | nil=>intro _;exact Nat.le_refl _
      | cons s ss ih =>
        intro h
        have h1:=List.length_pos_iff.mpr (h s (List.mem_cons_self ..))
        have h2:=ih fun x hx=>h x (List.mem_cons_of_mem _ hx)
        show ss.length+1<=s.length+sl ss
        omega
     have h3:=hsl (fs.map ag) fun s hs=>(hss s (List.mem_cons_of_mem _ hs)).1
     have h4:sl ((f::fs).map ag)=(ag f).length+sl (fs.map ag):=rfl
     have h5:P.length=(aS [1] ((f::fs).map ag)).length:=by
      rw [hP,bM (by simp) p1]
      show 1+_-1=_
      omega
     simp only [List.length_map,List.length_cons,List.length_nil] at p3 h3
     omega
  subst hfs
  have hr:bF (N+1) (ar P) (ar (slopeL P))=[ar P]:=by
   have:ar (slopeL P)=[]:=by rw [hs];rfl
   rw [this]
   exact xF n0 (by omega)
  rw [hr]
  show vr 0 [_]-vr 0 [_]=0
  rw [qF,qF];rfl
 ·obtain ⟨g1,t1,n1,e1⟩:=oY tS hs
  have hN1:1<=N:=by
   have:=List.length_pos_iff.mpr n1
   omega
  obtain ⟨M,rfl⟩:∃ M,N=M+1:=⟨N-1,by omega⟩
  have er:bF (M+1+1) (ar P) (ar (slopeL P))=ar P::ar (slopeL P)::bF M (nxt (ar P) (ar (slopeL P))) (nxt (ar (slopeL P)) (nxt (ar P) (ar (slopeL P)))):=by
   show (if ar P=[] then _ else ar P::(if ar (slopeL P)=[] then _ else _))=_
   rw [if_neg n0,if_neg n1]
  rw [er] at hst ⊢
  have g0':(0:Rat)<((aA P:Int):Rat):=Rat.intCast_lt_intCast.mpr g0
  have g1':(0:Rat)<((aA (slopeL P):Int):Rat):=Rat.intCast_lt_intCast.mpr g1
  have hd:∀ x,pv (slopeL (ar P)) x=((aA (slopeL P):Int):Rat)/((aA P:Int):Rat)*pv (ar (slopeL P)) x:=fun x=>by
   have h1:=mO (a:=slopeL (ar P)) (c:=slopeL P) (u:=(aA P:Int)) x fun k=>by rw [ei,ei,e0 (k+1)];grind
   have h2:=mO (a:=ar (slopeL P)) (c:=slopeL P) (u:=(aA (slopeL P):Int)) x e1
   have h3:((aA (slopeL P):Int):Rat)/((aA P:Int):Rat)*((aA P:Int):Rat)=((aA (slopeL P):Int):Rat):=Rat.div_mul_cancel (by grind)
   rw [h1] at h2
   have h4:((aA P:Int):Rat)*pv (slopeL (ar P)) x=((aA P:Int):Rat)*(((aA (slopeL P):Int):Rat)/((aA P:Int):Rat)*pv (ar (slopeL P)) x):=by
    rw [h2]
    generalize ((aA (slopeL P):Int):Rat)/((aA P:Int):Rat)=w at *
    rw [<- h3];grind
   generalize pv (slopeL (ar P)) x=u at *
   generalize ((aA (slopeL P):Int):Rat)/((aA P:Int):Rat)*pv (ar (slopeL P)) x=v at *
   have h5:((aA P:Int):Rat)*(u-v)=0:=by grind
   rcases Rat.mul_eq_zero.mp h5 with z | z
   ·grind
   ·grind
  have hS:∀ s∈(aL fs).map sdR,Cut s:=fun s hs=>by
   obtain ⟨l,hl,rfl⟩:=List.mem_map.mp hs
   exact mJ (dA hFQ hl)
  have hsg:sg c=1\/sg c = -1:=by
   rcases Int.lt_or_gt_of_ne hc with z | z
   ·right;unfold sg;rw [if_pos z]
   ·left;unfold sg;rw [if_neg (by omega),if_pos z]
  have hf:∀ x,sgR (pv (ar P) x)=sg c*cpr x ((aL fs).map sdR):=fun x=>by
   have h1:=o8 (t:=x.num) (n:=x.den) (c:=c) (d9 x) hFQ
   rw [<- hP,rY (d9 x),uT] at h1
   rw [uX,<- h1,mO (a:=ar P) (c:=P) (u:=(aA P:Int)) x e0,xy g0']
  have hap:=qL hF hnd
  have hp:∀ x y:Rat,x<y->y-x<=1/2^200->((aL fs).map sdR).Pairwise fun s t=>¬ (inC s x y/\inC t x y):=fun x y hxy hdd=>by
   rw [List.pairwise_map]
   exact hap.imp_of_mem fun {l l'} hl hl' h=>vy (dA hFQ hl) (dA hFQ hl') h hxy hdd
  have:=BL hst (eY g1' g0') hd hS hsg hf (eY (by decide) (Rat.pow_pos (by decide))) hp ((ib hn hn').mpr hlt)
  rw [lQ hn hn'] at this
  rw [xq hn,xq hn']
  exact this
end RM
namespace RM
theorem vc {C:Rat->Rat->Prop} (hadd:∀ x y z,x<y->y<z->C x y->C y z->C x z) {δ a b:Rat} (hδ:0<δ) (h:∀ x y,a<=x->y<=b->x<y->y-x<=δ->C x y):∀ (n:Nat) (x y:Rat),a<=x->y<=b->x<y->y-x<=2^n*δ->C x y
 | 0,x,y,hx,hy,hxy,hd=>h x y hx hy hxy (by rw [Rat.pow_zero] at hd;grind)
 | n+1,x,y,hx,hy,hxy,hd=>by
   have m1:x<(x+y)/2:=by grind
   have m2:(x+y)/2<y:=by grind
   rw [Rat.pow_succ] at hd
   exact hadd x _ y m1 m2 (vc hadd hδ h n x _ hx (by grind) m1 (by grind)) (vc hadd hδ h n _ y (by grind) hy m2 (by grind))
theorem wV {δ:Rat} (hδ:0<δ) (w:Rat):∃ n:Nat,w<=2^n*δ:=by
 obtain ⟨n,hn⟩:=AM (w/δ)
 refine ⟨n,?_⟩
 have h1:w/δ<=2^n:=Rat.le_trans hn (yt n)
 have h2:=Rat.mul_le_mul_of_nonneg_right h1 (Rat.le_of_lt hδ)
 rwa [Rat.div_mul_cancel (by grind)] at h2
theorem AO (v:Rat):∃ w:Rat,0<=w/\Bd w v:=by
 rcases Rat.le_total (a:=0) (b:=v) with z | z
 ·exact ⟨v,z,by grind,by grind⟩
 ·exact ⟨-v,by grind,by grind,by grind⟩
theorem GG {f:Rat->Rat} (hf:Nice f) {a b:Rat} (hab:a<b) (h:∀ z,a<=z->z<=b->1<=f z\/f z <= -1):sgR (f a)=sgR (f b):=by
 obtain ⟨u,u0,u1⟩:=AO a
 obtain ⟨v,v0,v1⟩:=AO b
 obtain ⟨M,m0,m1,m2⟩:=hf (u+v) (by grind)
 have hB:∀ z,a<=z->z<=b->Bd (u+v) z:=fun z h1 h2=>by
  obtain ⟨p1,p2⟩:=u1
  obtain ⟨p3,p4⟩:=v1
  constructor<;>grind
 have hT:0<M+1:=by grind
 obtain ⟨n,hn⟩:=wV (eY (show (0:Rat)<1 by decide) hT) (b-a)
 refine vc (C:=fun x y=>sgR (f x)=sgR (f y)) (fun x y z _ _ h1 h2=>h1.trans h2) (eY (show (0:Rat)<1 by decide) hT) (a:=a) (b:=b) (fun x y hx hy hxy hd=>?_) n a b (by grind) (by grind) hab hn
 have hd':(y-x)*(M+1)<=1:=by
  have:=Rat.mul_le_mul_of_nonneg_right hd (Rat.le_of_lt hT)
  rwa [Rat.div_mul_cancel (by grind)] at this
 obtain ⟨f1,f2⟩:=m2 x y (hB x hx (by grind)) (hB y (by grind) hy) (by grind)
 have hx1:=h x hx (by grind)
 have hy1:=h y (by grind) hy
 rcases cD (f x) with ⟨a1,a2⟩ | ⟨a1,a2⟩ | ⟨a1,a2⟩<;>rcases cD (f y) with ⟨b1,b2⟩ | ⟨b1,b2⟩ | ⟨b1,b2⟩
 ·rw [a2,b2]
 ·grind
 ·grind
 ·grind
 ·grind
 ·grind
 ·grind
 ·grind
 ·rw [a2,b2]
theorem sS {s:Rat->Int} {ε:Rat} (hε:0<ε):∀ (n:Nat) (x y:Rat),x<y->0<s x->s y<=0->y-x<=2^n*ε->∃ x' y',x<=x'/\x'<y'/\y'<=y/\y'-x'<=ε/\0<s x'/\s y'<=0
 | 0,x,y,hxy,hx,hy,hd=>⟨x,y,Rat.le_refl,hxy,Rat.le_refl,by rw [Rat.pow_zero] at hd;grind,hx,hy⟩
 | n+1,x,y,hxy,hx,hy,hd=>by
   have m1:x<(x+y)/2:=by grind
   have m2:(x+y)/2<y:=by grind
   rw [Rat.pow_succ] at hd
   by_cases h:s ((x+y)/2)<=0
   ·obtain ⟨x',y',h1,h2,h3,h4⟩:=sS hε n x _ m1 hx h (by grind)
    exact ⟨x',y',h1,h2,by grind,h4⟩
   ·obtain ⟨x',y',h1,h2,h3,h4⟩:=sS hε n _ y m2 (by omega) hy (by grind)
    exact ⟨x',y',by grind,h2,h3,h4⟩
theorem yl {f:Rat->Rat} (hf:Nice f) {S:List (Rat->Int)} {ε:Int} (hε:ε=1\/ε = -1) (hS:∀ s∈S,Cut s) (hv:∀ x,sgR (f x)=ε*cpr x S) {δ:Rat} (hδ:0<δ) (hp:∀ x y,x<y->y-x<=δ->S.Pairwise fun s t=>¬ (inC s x y/\inC t x y)) {a b:Rat} (hab:a<b) (h:∀ z,a<=z->z<=b->1<=f z\/f z <= -1) {s:Rat->Int} (hs:s∈S):¬ (0<s a/\s b<=0):=by
 rintro ⟨ha,hb⟩
 obtain ⟨n,hn⟩:=wV hδ (b-a)
 obtain ⟨x,y,h1,h2,h3,h4,h5,h6⟩:=sS hδ n a b hab ha hb hn
 have hc:=Ai hε hS h2 (hv x) (hv y) (hp x y h2 h4)
 have hsame:=GG hf h2 fun z hz1 hz2=>h z (by grind) (by grind)
 unfold chg at hc
 rw [if_neg (fun z=>z.2 hsame.symm)] at hc
 have pos:∀ (S:List (Rat->Int)),s∈S->1<=cnt S x y:=fun S=>by
  induction S with
  | nil=>intro h;cases h
  | cons t S ih =>
    intro h
    have nn:∀ S:List (Rat->Int),0<=cnt S x y:=fun S=>by
     induction S with
     | nil=>exact Int.le_refl _
     | cons t S ih=>rw [ee];split<;>omega
    rw [ee]
    rcases List.mem_cons.mp h with rfl | h
    ·rw [if_pos ⟨h5,h6⟩];have:=nn S;omega
    ·have:=ih h
     split<;>omega
 have:=pos S hs
 omega
theorem Dr {ss:List (List Int)} (hs:∀ s∈ss,s≠[]/\Tr s) {t:Int} {n:Nat} (hn:0<n) (h:n^sl ss<=(pr t n ss).natAbs):1<=pv (aS [1] ss) ((t:Rat)/((n:Int):Rat))\/pv (aS [1] ss) ((t:Rat)/((n:Int):Rat)) <= -1:=by
 have hn':(0:Int)<(n:Int):=by omega
 obtain ⟨p1,p2,p3⟩:=lc ss [1] (by simp) ((tr_snoc (r:=[])).mpr (by decide)) hs
 have e1:=p8 t n ss [1] (by simp) fun s h=>(hs s h).1
 rw [nu,Int.one_mul] at e1
 have e2:=congrArg Int.natAbs e1
 rw [Int.natAbs_mul,Int.natAbs_pow,Int.natAbs_mul,Int.natAbs_natCast] at e2
 have h3:n*n^sl ss<=n^ss.length*(hv t n (aS [1] ss)).natAbs:=by rw [e2];exact Nat.mul_le_mul_left _ h
 have e4:n*n^sl ss=n^ss.length*n^(aS [1] ss).length:=by
  rw [<- Nat.pow_add,Nat.mul_comm,<- Nat.pow_succ]
  congr 1
  have:([1]:List Int).length=1:=rfl
  omega
 rw [e4] at h3
 have h5:=Nat.le_of_mul_le_mul_left h3 (Nat.pow_pos hn)
 have e6:=tR (t:=t) hn' (aS [1] ss)
 generalize pv (aS [1] ss) ((t:Rat)/((n:Int):Rat))=q at *
 generalize hv t n (aS [1] ss)=z at *
 have hp:(0:Rat)<((n:Int):Rat)^(aS [1] ss).length:=Rat.pow_pos (Rat.intCast_lt_intCast.mpr hn')
 have e7:(((n^(aS [1] ss).length:Nat):Int):Rat)=((n:Int):Rat)^(aS [1] ss).length:=by
  rw [Int.natCast_pow,Rat.intCast_pow]
 rcases Int.le_total 0 z with w | w
 ·left
  have h8:((n^(aS [1] ss).length:Nat):Int)<=z:=by omega
  have h9:=Rat.intCast_le_intCast.mpr h8
  rw [e7,e6] at h9
  refine Rat.not_lt.mp fun hq=>?_
  have:=Rat.mul_lt_mul_of_pos_left hq hp
  grind
 ·right
  have h8:z <= -((n^(aS [1] ss).length:Nat):Int):=by omega
  have h9:=Rat.intCast_le_intCast.mpr h8
  rw [Rat.intCast_neg,e7,e6] at h9
  refine Rat.not_lt.mp fun hq=>?_
  have:=Rat.mul_lt_mul_of_pos_left hq hp
  grind
theorem BY {l:List Int} (hl:Spt l):∃ M:Int,0<M/\∀ T:Int,M<=T->au l T 1<0/\0<au l (-T) 1:=by
 obtain ⟨u,e,b,s,rfl,he,hb,hs⟩:=hl
 refine ⟨(u.natAbs:Int)+e+1,by omega,fun T hT=>?_⟩
 have h1:T<=b*T:=by
  have:=Int.mul_le_mul_of_nonneg_right hb (show 0<=T by omega)
  omega
 have g1:e+1<=b*T-u*1:=by omega
 have g2:e+1<=0-(b * -T-u*1):=by
  have:b * -T = -(b*T):=Int.mul_neg _ _
  omega
 have q1:=gX (show 0<=e+1 by omega) g1
 have q2:=gX (show 0<=e+1 by omega) g2
 have q3:(e+1)*(e+1)=e*e+2*e+1:=by grind
 have q4:0<=e*e:=Int.mul_nonneg he he
 rcases hs with rfl | rfl
 ·constructor
  ·show aY (e*1*1) (b*T-u*1)<0
   rcases ca (e*1*1) (b*T-u*1) with z | z | z<;>omega
  ·show 0<aY (e*1*1) (b * -T-u*1)
   rcases ca (e*1*1) (b * -T-u*1) with z | z | z<;>omega
 ·constructor
  ·show 0-aY (e*1*1) (0-(b*T-u*1))<0
   rcases ca (e*1*1) (0-(b*T-u*1)) with z | z | z<;>omega
  ·show 0<0-aY (e*1*1) (0-(b * -T-u*1))
   rcases ca (e*1*1) (0-(b * -T-u*1)) with z | z | z<;>omega
theorem wU {fs:List (List Int)} (hF:∀ f∈fs,FacG f) (hnd:(fs.map ag).Nodup) {B:Nat} (hB:1<=B) (hb:∀ x∈(aS [1] (fs.map ag)).take ((aS [1] (fs.map ag)).length-1),x.natAbs<=(B-1)*(al (aS [1] (fs.map ag))).natAbs) {l:List Int} (hl:l∈aL fs):au l B 1<0/\0<au l (-(B:Int)) 1:=by
 have hFQ:∀ f∈fs,eN f:=fun f hf=>(hF f hf).q
 have hss:∀ s∈fs.map ag,s≠[]/\Tr s:=fun s h=>by
  obtain ⟨x,hx,rfl⟩:=List.mem_map.mp h
  exact rV (hFQ x hx)
 have hT:Tr (aS [1] (fs.map ag)):=(lc (fs.map ag) [1] (by simp) ((tr_snoc (r:=[])).mpr (by decide)) hss).2.1
 have e1:ad [1] (aS [1] (fs.map ag))=aS [1] (fs.map ag):=one_mul _ hT
 have far:=fun (t:Int) (n:Nat)=>IJ (t:=t) (n:=n) (B:=B) (c:=1) (by decide) hss hB (by rw [e1];exact hb)
 have hspt:=dA hFQ hl
 have hcut:=mJ hspt
 have hS:∀ s∈(aL fs).map sdR,Cut s:=fun s hs=>by
  obtain ⟨l,hl,rfl⟩:=List.mem_map.mp hs
  exact mJ (dA hFQ hl)
 have hf:∀ x,sgR (pv (aS [1] (fs.map ag)) x)=1*cpr x ((aL fs).map sdR):=fun x=>by
  have h1:=o8 (t:=x.num) (n:=x.den) (c:=1) (d9 x) hFQ
  rw [e1,rY (d9 x),uT] at h1
  rw [uX,h1];rfl
 have hap:=qL hF hnd
 have hp:∀ x y:Rat,x<y->y-x<=1/2^200->((aL fs).map sdR).Pairwise fun s t=>¬ (inC s x y/\inC t x y):=fun x y hxy hdd=>by
  rw [List.pairwise_map]
  exact hap.imp_of_mem fun {l l'} hl hl' h=>vy (dA hFQ hl) (dA hFQ hl') h hxy hdd
 have away:∀ z:Rat,((B:Int):Rat)<=z\/z <= -((B:Int):Rat)->1<=pv (aS [1] (fs.map ag)) z\/pv (aS [1] (fs.map ag)) z <= -1:=fun z hz=>by
  have h1:=Dr hss (t:=z.num) (n:=z.den) z.den_pos (far z.num z.den z.den_pos ?_)
  ·rw [uT] at h1;exact h1
  ·have hd:(0:Rat)<((z.den:Int):Rat):=Rat.intCast_lt_intCast.mpr (d9 z)
   have hnum:=pC z
   rcases hz with w | w
   ·have h2:=Rat.mul_le_mul_of_nonneg_right w (Rat.le_of_lt hd)
    rw [<- hnum,<- Rat.intCast_mul] at h2
    have h3:=Rat.intCast_le_intCast.mp h2
    have h4:((B*z.den:Nat):Int)=(B:Int)*(z.den:Int):=Int.natCast_mul _ _
    omega
   ·have h2:=Rat.mul_le_mul_of_nonneg_right w (Rat.le_of_lt hd)
    rw [<- hnum,<- Rat.intCast_neg,<- Rat.intCast_mul] at h2
    have h3:=Rat.intCast_le_intCast.mp h2
    have h4:((B*z.den:Nat):Int)=(B:Int)*(z.den:Int):=Int.natCast_mul _ _
    have h5 : -(B:Int)*(z.den:Int) = -((B:Int)*(z.den:Int)):=Int.neg_mul _ _
    omega
 obtain ⟨M,hM,hfar⟩:=BY hspt
 have hmem:sdR l∈(aL fs).map sdR:=List.mem_map.mpr ⟨l,hl,rfl⟩
 have δ0:(0:Rat)<1/2^200:=eY (by decide) (Rat.pow_pos (by decide))
 have int1:∀ z:Int,sdR l (z:Rat)=au l z 1:=fun z=>by
  have:=fJ l (t:=z) (n:=1) (by decide)
  have e:(z:Rat)/((1:Int):Rat)=(z:Rat):=by
   have:((1:Int):Rat)=1:=rfl
   rw [this];grind
  rw [e] at this;exact this
 constructor
 ·
  have hlt:((B:Int):Rat)<((M+B:Int):Rat):=Rat.intCast_lt_intCast.mpr (by omega)
  have no:=yl (eI _) (.inl rfl) hS hf δ0 hp hlt (fun z h1 _=>away z (.inl h1)) hmem
  rw [int1,int1] at no
  have hfr:=(hfar (M+B) (by omega)).1
  rcases gz l B 1 with z | z | z
  ·exact absurd ⟨by omega,by omega⟩ no
  ·
   exfalso
   have h1:=away (((B:Int)):Rat) (.inl Rat.le_refl)
   have h2:sgR (pv (aS [1] (fs.map ag)) ((B:Int):Rat))=0:=by
    rw [hf]
    have h3:∀ (S:List (Rat->Int)) (x:Rat) (s:Rat->Int),s∈S->s x=0->cpr x S=0:=fun S x s hs h0=>by
     obtain ⟨pre,post,rfl⟩:=List.append_of_mem hs
     rw [qk]
     show _*(-s x*_)=0
     rw [h0];simp
    rw [h3 _ _ _ hmem (by rw [int1];exact z)];rfl
   rcases cD (pv (aS [1] (fs.map ag)) ((B:Int):Rat)) with ⟨a,c⟩ | ⟨a,c⟩ | ⟨a,c⟩
   ·omega
   ·grind
   ·omega
  ·omega
 ·have hlt:((-(M+B):Int):Rat)<((-(B:Int):Int):Rat):=Rat.intCast_lt_intCast.mpr (by omega)
  have no:=yl (eI _) (.inl rfl) hS hf δ0 hp hlt (fun z _ h2=>away z (.inr (by rw [Rat.intCast_neg] at h2;exact h2))) hmem
  rw [int1,int1] at no
  have hfr:=(hfar (M+B) (by omega)).2
  rcases gz l (-(B:Int)) 1 with z | z | z
  ·omega
  ·exact absurd ⟨hfr,by omega⟩ no
  ·exact absurd ⟨hfr,by omega⟩ no
end RM
namespace RM
theorem mR {s:List Int}:∀ (pre post:List (List Int)),prd (pre++s::post)=ad s (prd (pre++post))
 | [],post=>rfl
 | t::pre,post=>by
   show ad t (prd (pre++s::post))=ad s (ad t (prd (pre++post)))
   rw [mR pre post];ac_rfl
theorem yg {l:List Int} (h:Pln l):ad [1] l=l:=one_mul l h.tr
theorem JF {ss:List (List Int)} (hp:∀ s∈ss,Pri s) (hn:ss.Nodup) {E:List Int} (hE:Pln E) (hl:E.length=3) (hd:Dv E (prd ss)):E∈ss\/∃ p q,p∈ss/\q∈ss/\p≠q/\E=ad p q:=by
 have ne1:E≠[1]:=fun z=>by rw [z] at hl;cases hl
 obtain ⟨p,hpm,hpd⟩:=(qj ss hp hE hd).resolve_left ne1
 have pp:=hp p hpm
 obtain ⟨q,hq,eq⟩:=Dv.fellow pp.pln hE.tr hE.ne hpd
 rw [hE.plain] at eq
 have hlen:=bM hq.ne pp.pln.ne
 rw [eq,hl] at hlen
 have l2:=pp.two
 have ql:=List.length_pos_iff.mpr hq.ne
 rcases Nat.lt_or_ge p.length 3 with z | z
 ·
  have lp:p.length=2:=by omega
  have lq:q.length=2:=by omega
  obtain ⟨pre,post,rfl⟩:=List.append_of_mem hpm
  have hd2:Dv (ad p q) (ad p (prd (pre++post))):=by
   rw [<- mR]
   have:ad p q=E:=by rw [<- eq];ac_rfl
   rw [this];exact hd
  have hd3:=Dv.cancel pp.pln.ne pp.pln.tr hd2
  have ho:∀ s∈pre++post,Pri s:=fun s hs=>hp s (by
   rcases List.mem_append.mp hs with w | w
   ·exact List.mem_append_left _ w
   ·exact List.mem_append_right _ (List.mem_cons_of_mem _ w))
  have nq1:q≠[1]:=fun w=>by rw [w] at lq;cases lq
  obtain ⟨p',hpm',hpd'⟩:=(qj (pre++post) ho hq hd3).resolve_left nq1
  have pp':=ho p' hpm'
  obtain ⟨r,hr,er⟩:=Dv.fellow pp'.pln hq.tr hq.ne hpd'
  rw [hq.plain] at er
  have hlen':=bM hr.ne pp'.pln.ne
  rw [er,lq] at hlen'
  have l2':=pp'.two
  have rl:=List.length_pos_iff.mpr hr.ne
  have r1:=hr.const (by omega)
  rw [r1,yg pp'.pln] at er
  have hmem:p'∈pre++p::post:=by
   rcases List.mem_append.mp hpm' with w | w
   ·exact List.mem_append_left _ w
   ·exact List.mem_append_right _ (List.mem_cons_of_mem _ w)
  refine .inr ⟨p,p',hpm,hmem,fun w=>?_,?_⟩
  ·rw [List.nodup_append] at hn
   rcases List.mem_append.mp hpm' with y | y
   ·exact hn.2.2 p' y p (List.mem_cons_self ..) w.symm
   ·exact (List.nodup_cons.mp hn.2.1).1 (w ▸ y)
  ·rw [er,<- eq];ac_rfl
 ·left
  have q1:=hq.const (by omega)
  rw [q1,yg pp.pln] at eq
  rw [<- eq];exact hpm
theorem uR (u b:Int) (x:Rat):((b*x.num-u*(x.den:Int):Int):Rat)=((b:Rat)*x-(u:Rat))*((x.den:Int):Rat):=by
 rw [Rat.intCast_sub,Rat.intCast_mul,Rat.intCast_mul,pC x];grind
theorem Fk (u b:Int) (x:Rat):b*x.num-u*(x.den:Int)<0↔(b:Rat)*x-(u:Rat)<0:=by
 have hd:(0:Rat)<((x.den:Int):Rat):=Rat.intCast_lt_intCast.mpr (d9 x)
 rw [<- Rat.intCast_lt_intCast,uR]
 constructor
 ·intro h
  refine Rat.not_le.mp fun z=>?_
  have:=Rat.mul_nonneg z (Rat.le_of_lt hd)
  have e:((0:Int):Rat)=0:=rfl
  grind
 ·intro h
  have:=Rat.mul_pos (show 0 < -((b:Rat)*x-(u:Rat)) by grind) hd
  have e:((0:Int):Rat)=0:=rfl
  grind
theorem wL (u e b:Int) (x:Rat):((b*x.num-u*(x.den:Int))*(b*x.num-u*(x.den:Int))<e*(x.den:Int)*(x.den:Int)↔((b:Rat)*x-(u:Rat))*((b:Rat)*x-(u:Rat))<(e:Rat))/\(e*(x.den:Int)*(x.den:Int)<(b*x.num-u*(x.den:Int))*(b*x.num-u*(x.den:Int))↔(e:Rat)<((b:Rat)*x-(u:Rat))*((b:Rat)*x-(u:Rat))):=by
 have hd:(0:Rat)<((x.den:Int):Rat):=Rat.intCast_lt_intCast.mpr (d9 x)
 have hdd:=Rat.mul_pos hd hd
 have e1:(((b*x.num-u*(x.den:Int))*(b*x.num-u*(x.den:Int)):Int):Rat)=((b:Rat)*x-(u:Rat))*((b:Rat)*x-(u:Rat))*(((x.den:Int):Rat)*((x.den:Int):Rat)):=by rw [Rat.intCast_mul,uR];grind
 have e2:((e*(x.den:Int)*(x.den:Int):Int):Rat)=(e:Rat)*(((x.den:Int):Rat)*((x.den:Int):Rat)):=by rw [Rat.intCast_mul,Rat.intCast_mul];grind
 have key:∀ p q:Rat,(p*(((x.den:Int):Rat)*((x.den:Int):Rat))<q*(((x.den:Int):Rat)*((x.den:Int):Rat)))↔p<q:=fun p q=>⟨fun h=>Rat.not_le.mp fun z=>by
  have:=Rat.mul_le_mul_of_nonneg_right z (Rat.le_of_lt hdd)
  grind,fun h=>Rat.mul_lt_mul_of_pos_right h hdd⟩
 constructor
 ·rw [<- Rat.intCast_lt_intCast,e1,e2,key]
 ·rw [<- Rat.intCast_lt_intCast,e1,e2,key]
theorem wg {u e b:Int} (x:Rat):(0<sdR [u,e,b,1] x↔(b:Rat)*x-(u:Rat)<0\/((b:Rat)*x-(u:Rat))*((b:Rat)*x-(u:Rat))<(e:Rat)):=by
 have h:sdR [u,e,b,1] x=aY (e*(x.den:Int)*(x.den:Int)) (b*x.num-u*(x.den:Int)):=rfl
 rw [h,<- Fk,<- (wL u e b x).1]
 rcases ca (e*(x.den:Int)*(x.den:Int)) (b*x.num-u*(x.den:Int)) with ⟨z,w⟩ | ⟨z,w⟩ | ⟨z,w⟩<;>rw [z]<;>omega
theorem wj {u e b:Int} (x:Rat):(0<sdR [u,e,b,-1] x↔(b:Rat)*x-(u:Rat)<=0/\(e:Rat)<((b:Rat)*x-(u:Rat))*((b:Rat)*x-(u:Rat))):=by
 have h:sdR [u,e,b,-1] x=0-aY (e*(x.den:Int)*(x.den:Int)) (0-(b*x.num-u*(x.den:Int))):=rfl
 have e1:(0-(b*x.num-u*(x.den:Int)))*(0-(b*x.num-u*(x.den:Int)))=(b*x.num-u*(x.den:Int))*(b*x.num-u*(x.den:Int)):=by grind
 have hle:(b:Rat)*x-(u:Rat)<=0↔0<=0-(b*x.num-u*(x.den:Int)):=by
  have hd:(0:Rat)<((x.den:Int):Rat):=Rat.intCast_lt_intCast.mpr (d9 x)
  have e3:=uR u b x
  constructor
  ·intro h
   have:¬ (0<b*x.num-u*(x.den:Int)):=fun z=>by
    have z':=Rat.intCast_lt_intCast.mpr z
    rw [e3] at z'
    have:=Rat.mul_nonneg (show 0 <= -((b:Rat)*x-(u:Rat)) by grind) (Rat.le_of_lt hd)
    have e:((0:Int):Rat)=0:=rfl
    grind
   omega
  ·intro h
   refine Rat.not_lt.mp fun z=>?_
   have:=Rat.mul_pos z hd
   rw [<- e3] at this
   have:=Rat.intCast_lt_intCast.mp (show ((0:Int):Rat)<_ from this)
   omega
 rw [h,hle,<- (wL u e b x).2]
 rcases ca (e*(x.den:Int)*(x.den:Int)) (0-(b*x.num-u*(x.den:Int))) with ⟨z,w⟩ | ⟨z,w⟩ | ⟨z,w⟩<;>rw [z]<;>rw [e1] at w<;>omega
structure Two (u e b x y x' y':Rat):Prop where
 xp:b*x-u<0\/(b*x-u)*(b*x-u)<e
 yp:0<=b*y-u/\e<=(b*y-u)*(b*y-u)
 xm:b*x'-u<=0/\e<(b*x'-u)*(b*x'-u)
 ym:0<b*y'-u\/(b*y'-u)*(b*y'-u)<=e
theorem CP {a c:Rat} (hc:0<=c) (h:a*a<c*c):a<c:=Rat.not_le.mp fun z=>by
 have:=Rat.mul_nonneg (show 0<=a-c by grind) (show 0<=a+c by grind)
 grind
theorem CQ {a c:Rat} (hc:0<=c) (h:a*a<=c*c):a<=c:=Rat.not_lt.mp fun z=>by
 have:=Rat.mul_pos (show 0<a-c by grind) (show 0<a+c by grind)
 grind
theorem Two.sum {u e b x y x' y':Rat} (h:Two u e b x y x' y'):2*u<=b*(y+y')/\b*(x+x')<2*u:=by
 obtain ⟨xp,yp,xm,ym⟩:=h
 constructor
 ·rcases ym with z | z
  ·grind
  ·have : -(b*y'-u)<=b*y-u:=CQ yp.1 (by grind)
   grind
 ·rcases xp with z | z
  ·grind
  ·have:b*x-u < -(b*x'-u):=CP (by grind) (by grind)
   grind
def mx (a b:Rat):Rat:=if a<b then b else a
theorem yw (a b:Rat):a<=mx a b:=by unfold mx;split<;>grind
theorem yv (a b:Rat):b<=mx a b:=by unfold mx;split<;>grind
theorem yx (a b:Rat):mx a b=a\/mx a b=b:=by unfold mx;split<;>simp
theorem bil {X Y X' Y' a a' m:Rat} (h1:X<=a) (h2:a<=Y) (h3:X'<=a') (h4:a'<=Y') (c1:X*X'<=m) (c2:X*Y'<=m) (c3:Y*X'<=m) (c4:Y*Y'<=m):a*a'<=m:=by
 have g1:X*a'<=m:=by
  rcases Rat.le_total (a:=0) (b:=X) with z | z
  ·have:=Rat.mul_nonneg z (show 0<=Y'-a' by grind);grind
  ·have:=Rat.mul_nonneg (show 0 <= -X by grind) (show 0<=a'-X' by grind);grind
 have g2:Y*a'<=m:=by
  rcases Rat.le_total (a:=0) (b:=Y) with z | z
  ·have:=Rat.mul_nonneg z (show 0<=Y'-a' by grind);grind
  ·have:=Rat.mul_nonneg (show 0 <= -Y by grind) (show 0<=a'-X' by grind);grind
 rcases Rat.le_total (a:=0) (b:=a') with z | z
 ·have:=Rat.mul_nonneg z (show 0<=Y-a by grind);grind
 ·have:=Rat.mul_nonneg (show 0 <= -a' by grind) (show 0<=a-X by grind);grind
theorem Two.prod {u e b x y x' y' m w N:Rat} (h:Two u e b x y x' y') (hb:0<b) (he:0<e) (hirr:∀ q:Rat,q*q≠e) (hxy:x<y) (hxy':x'<y') (hw:y-x<=w) (hw':y'-x'<=w) (n1:Bd N x) (n2:Bd N y) (n3:Bd N x') (n4:Bd N y')
 (c1:x*x'<=m) (c2:x*y'<=m) (c3:y*x'<=m) (c4:y*y'<=m) (hm:m=x*x'\/m=x*y'\/m=y*x'\/m=y*y'):u*u-e<b*b*m/\b*b*m<=u*u-e+2*(b*b)*(w*N):=by
 have hs:=h.sum
 obtain ⟨xp,yp,xm,ym⟩:=h
 have hbb:=Rat.mul_pos hb hb
 have scale:∀ a a':Rat,b*x-u<=a->a<=b*y-u->b*x'-u<=a'->a'<=b*y'-u->(a+u)*(a'+u)<=b*b*m:=fun a a' g1 g2 g3 g4=>by
  have e1:∀ p q:Rat,b*p*(b*q)=b*b*(p*q):=fun p q=>by grind
  have k:∀ p q:Rat,p*q<=m->b*p*(b*q)<=b*b*m:=fun p q hpq=>by rw [e1];exact Rat.mul_le_mul_of_nonneg_left hpq (Rat.le_of_lt hbb)
  exact bil (X:=b*x) (Y:=b*y) (X':=b*x') (Y':=b*y') (by grind) (by grind) (by grind) (by grind) (k _ _ c1) (k _ _ c2) (k _ _ c3) (k _ _ c4)
 constructor
 ·obtain ⟨a,a0,ae,ax,ay,am⟩:∃ a:Rat,0<=a/\a*a<e/\b*x-u<=a/\a<=b*y-u /\ -(b*y'-u)<=a/\a <= -(b*x'-u):=by
   have p1:=yw (b*x-u) (mx (-(b*y'-u)) 0)
   have p2:=yv (b*x-u) (mx (-(b*y'-u)) 0)
   have p3:=yw (-(b*y'-u)) 0
   have p4:=yv (-(b*y'-u)) 0
   have hX:b*x-u<=b*y-u:=by
    have:=Rat.mul_pos hb (show 0<y-x by grind);grind
   have hX':b*x'-u<=b*y'-u:=by
    have:=Rat.mul_pos hb (show 0<y'-x' by grind);grind
   have q1:=yx (b*x-u) (mx (-(b*y'-u)) 0)
   have q2:=yx (-(b*y'-u)) 0
   have hxm:=xm.1
   have hyp:=yp.1
   refine ⟨mx (b*x-u) (mx (-(b*y'-u)) 0),by grind,?_,p1,?_,by grind,?_⟩
   ·rcases q1 with z | z
    ·rw [z] at p2 ⊢
     rcases xp with w | w
     ·grind
     ·exact w
    ·rw [z]
     rcases q2 with z2 | z2
     ·rw [z2] at p4 ⊢
      have e1 : -(b*y'-u) * -(b*y'-u)=(b*y'-u)*(b*y'-u):=by grind
      rw [e1]
      rcases ym with w | w
      ·grind
      ·have:=hirr (b*y'-u)
       grind
     ·rw [z2];grind
   ·rcases q1 with z | z
    ·rw [z];exact hX
    ·rw [z]
     rcases q2 with z2 | z2
     ·rw [z2];grind
     ·rw [z2];exact hyp
   ·rcases q1 with z | z
    ·rw [z];grind
    ·rw [z]
     rcases q2 with z2 | z2
     ·rw [z2];grind
     ·rw [z2];grind
  have:=scale a (-a) ax ay (by grind) (by grind)
  grind
 ·obtain ⟨c,c0,ce,cx,cy,cm,cm'⟩:∃ c:Rat,0<=c/\e<=c*c/\b*x-u<=c/\c<=b*y-u /\ -(b*y'-u)<=c/\c <= -(b*x'-u):=by
   have hX:b*x-u<=b*y-u:=by
    have:=Rat.mul_pos hb (show 0<y-x by grind);grind
   have hX':b*x'-u<=b*y'-u:=by
    have:=Rat.mul_pos hb (show 0<y'-x' by grind);grind
   rcases Rat.le_total (a:=b*y-u) (b := -(b*x'-u)) with z | z
   ·exact ⟨b*y-u,yp.1,yp.2,hX,Rat.le_refl,by grind,z⟩
   ·refine ⟨-(b*x'-u),by grind,by grind,by grind,z,by grind,Rat.le_refl⟩
  have hbw:0<=b*w:=Rat.mul_nonneg (Rat.le_of_lt hb) (by grind)
  have side:∀ p q:Rat,b*x-u<=b*p-u->b*p-u<=b*y-u->b*x'-u<=b*q-u->b*q-u<=b*y'-u->Bd N p->b*b*(p*q)<=u*u-e+2*(b*b)*(w*N):=fun p q g1 g2 g3 g4 hp=>by
   have w1:b*(y-x)<=b*w:=Rat.mul_le_mul_of_nonneg_left hw (Rat.le_of_lt hb)
   have w2:b*(y'-x')<=b*w:=Rat.mul_le_mul_of_nonneg_left hw' (Rat.le_of_lt hb)
   have d1:Bd (b*w) (b*p-u-c):=⟨by grind,by grind⟩
   have d2:Bd (b*w) (b*q-u+c):=⟨by grind,by grind⟩
   have bN1:b*x'<=u-c/\u-c<=b*y':=⟨by grind,by grind⟩
   have k1 : -(b*N)<=b*x':=by
    have:=Rat.mul_le_mul_of_nonneg_left n3.1 (Rat.le_of_lt hb);grind
   have k2:b*y'<=b*N:=Rat.mul_le_mul_of_nonneg_left n4.2 (Rat.le_of_lt hb)
   have d3:Bd (b*N) (u-c):=⟨by grind,by grind⟩
   have d4:Bd (b*N) (b*p):=by
    obtain ⟨r1,r2⟩:=hp
    have s1:=Rat.mul_le_mul_of_nonneg_left r1 (Rat.le_of_lt hb)
    have s2:=Rat.mul_le_mul_of_nonneg_left r2 (Rat.le_of_lt hb)
    exact ⟨by grind,s2⟩
   obtain ⟨_,z1⟩:=d1.mul d3
   obtain ⟨_,z2⟩:=d2.mul d4
   have e1:b*b*(p*q)=(c+u)*(u-c)+((b*p-u-c)*(u-c)+(b*q-u+c)*(b*p)):=by grind
   have e2:b*w*(b*N)=b*b*(w*N):=by grind
   rw [e2] at z1 z2
   grind
  have hX:b*x-u<=b*y-u:=by
   have:=Rat.mul_pos hb (show 0<y-x by grind);grind
  have hX':b*x'-u<=b*y'-u:=by
   have:=Rat.mul_pos hb (show 0<y'-x' by grind);grind
  rcases hm with rfl | rfl | rfl | rfl
  ·exact side x x' Rat.le_refl hX Rat.le_refl hX' n1
  ·exact side x y' Rat.le_refl hX hX' Rat.le_refl n1
  ·exact side y x' hX Rat.le_refl Rat.le_refl hX' n2
  ·exact side y y' hX Rat.le_refl hX' Rat.le_refl n2
theorem zD {c t b Z:Int} (hb:0<b) (h1:(Z:Rat)<=(c:Rat)*((t:Rat)/(b:Rat))) (h2:(c:Rat)*((t:Rat)/(b:Rat))<(Z:Rat)+1):c*t/b=Z:=by
 have hb':(0:Rat)<(b:Rat):=Rat.intCast_lt_intCast.mpr hb
 have e1:(t:Rat)/(b:Rat)*(b:Rat)=(t:Rat):=Rat.div_mul_cancel (by grind)
 have g1:=Rat.mul_le_mul_of_nonneg_right h1 (Rat.le_of_lt hb')
 have g2:=Rat.mul_lt_mul_of_pos_right h2 hb'
 have e2:(c:Rat)*((t:Rat)/(b:Rat))*(b:Rat)=((c*t:Int):Rat):=by
  rw [Rat.intCast_mul]
  generalize (t:Rat)/(b:Rat)=q at *
  rw [<- e1];grind
 rw [e2] at g1 g2
 have i1:Z*b<=c*t:=by
  have:=g1
  rw [<- Rat.intCast_mul] at this
  exact Rat.intCast_le_intCast.mp this
 have i2:c*t<(Z+1)*b:=by
  have e3:((Z:Rat)+1)*(b:Rat)=(((Z+1)*b:Int):Rat):=by
   rw [Rat.intCast_mul,Rat.intCast_add];rfl
  rw [e3] at g2
  exact Rat.intCast_lt_intCast.mp g2
 refine Int.le_antisymm ?_ ?_
 ·have:=(Int.ediv_lt_iff_lt_mul hb).mpr i2
  omega
 ·exact (Int.le_ediv_iff_mul_le hb).mpr i1
end RM
namespace RM
theorem Ab {x y:Rat}:∀ {S:List (Rat->Int)},(S.Pairwise fun s t=>¬ (inC s x y/\inC t x y))->cnt S x y<=1
 | [],_=>by rw [Aa];decide
 | s::S,h=>by
   obtain ⟨h1,h2⟩:=List.pairwise_cons.mp h
   rw [ee]
   have ih:=Ab h2
   by_cases hs:0<s x/\s y<=0
   ·rw [if_pos hs]
    have z:∀ (S:List (Rat->Int)),(∀ t∈S,¬ (inC s x y/\inC t x y))->cnt S x y=0:=fun S=>by
     induction S with
     | nil=>intro _;rfl
     | cons t S ih =>
       intro h
       rw [ee,ih fun u hu=>h u (List.mem_cons_of_mem _ hu),if_neg fun w=>h t (List.mem_cons_self ..) ⟨⟨Int.le_of_lt hs.1,hs.2⟩,⟨Int.le_of_lt w.1,w.2⟩⟩];rfl
    rw [z S h1];decide
   ·rw [if_neg hs];omega
theorem nO (ls:List (List Int)) (t n t' n':Int):0<=bC ls t n t' n':=by
 induction ls with
 | nil=>exact Int.le_refl _
 | cons l ls ih =>
   unfold bC at ih ⊢
   rw [List.map_cons,List.sum_cons];split<;>omega
theorem cY (l:List Int) (ls:List (List Int)) (t n t' n':Int):bC (l::ls) t n t' n'=(if 0<au l t n/\au l t' n'<=0 then 1 else 0)+bC ls t n t' n':=by unfold bC;rw [List.map_cons,List.sum_cons]
theorem JR {fs:List (List Int)} (hF:∀ f∈fs,eN f) {a1 a2 b1 b2 c1 c2:Int} (a:0<a2) (b:0<b2) (c:0<c2) (h1:a1*b2<b1*a2) (h2:b1*c2<c1*b2):bC (aL fs) a1 a2 c1 c2=bC (aL fs) a1 a2 b1 b2+bC (aL fs) b1 b2 c1 c2:=by
 have hS:∀ s∈(aL fs).map sdR,Cut s:=fun s hs=>by
  obtain ⟨l,hl,rfl⟩:=List.mem_map.mp hs
  exact mJ (dA hF hl)
 rw [<- lQ a c,<- lQ a b,<- lQ b c]
 exact u3 ((ib a b).mpr h1) ((ib b c).mpr h2) hS
theorem JQ {fs:List (List Int)} (hF:∀ f∈fs,FacG f) (hn:(fs.map ag).Nodup) {l1 l2 h1 h2:Int} (l2p:0<l2) (h2p:0<h2) (lt:l1*h2<h1*l2) (hw:(h1*l2-l1*h2)*2^200<=l2*h2):bC (aL fs) l1 l2 h1 h2<=1:=by
 rw [<- lQ l2p h2p]
 refine Ab ?_
 rw [List.pairwise_map]
 have hd:(h1:Rat)/(h2:Rat)-(l1:Rat)/(l2:Rat)<=1/2^200:=by
  have L2:(0:Rat)<(l2:Rat):=Rat.intCast_lt_intCast.mpr l2p
  have H2:(0:Rat)<(h2:Rat):=Rat.intCast_lt_intCast.mpr h2p
  have e1:(l1:Rat)/(l2:Rat)*(l2:Rat)=(l1:Rat):=Rat.div_mul_cancel (Rat.ne_of_gt L2)
  have e2:(h1:Rat)/(h2:Rat)*(h2:Rat)=(h1:Rat):=Rat.div_mul_cancel (Rat.ne_of_gt H2)
  generalize (l1:Rat)/(l2:Rat)=x at e1 ⊢
  generalize (h1:Rat)/(h2:Rat)=y at e2 ⊢
  have hw':((h1:Rat)*(l2:Rat)-(l1:Rat)*(h2:Rat))*2^200<=(l2:Rat)*(h2:Rat):=by
   have:=Rat.intCast_le_intCast.mpr hw
   rw [Rat.intCast_mul,Rat.intCast_mul,Rat.intCast_sub,Rat.intCast_mul,Rat.intCast_mul] at this
   exact this
  have M:(0:Rat)<(l2:Rat)*(h2:Rat):=Rat.mul_pos L2 H2
  have P:(0:Rat)<2^200:=Rat.pow_pos (by decide)
  rw [<- e1,<- e2] at hw'
  have e3:(y*(h2:Rat)*(l2:Rat)-x*(l2:Rat)*(h2:Rat))*2^200=((y-x)*2^200)*((l2:Rat)*(h2:Rat)):=by grind
  rw [e3] at hw'
  have h4:(y-x)*2^200<=1:=by
   refine Rat.not_lt.mp fun z=>?_
   have:=Rat.mul_pos (show 0<(y-x)*2^200-1 by grind) M
   grind
  have e5:(1:Rat)/2^200*2^200=1:=Rat.div_mul_cancel (Rat.ne_of_gt P)
  refine Rat.not_lt.mp fun z=>?_
  have:=Rat.mul_pos (show 0<(y-x)-1/2^200 by grind) P
  grind
 exact (qL hF hn).imp_of_mem fun {l l'} hl hl' h=>vy (dA (fun f hf=>(hF f hf).q) hl) (dA (fun f hf=>(hF f hf).q) hl') h ((ib l2p h2p).mpr lt) hd
theorem Ac {l1 l2 h1 h2:Int}:∀ {ls:List (List Int)},bC ls l1 l2 h1 h2=0->∀ x∈ls,¬ (0<au x l1 l2/\au x h1 h2<=0)
 | [],_,x,hx=>nomatch hx
 | l::ls,h,x,hx=>by
   rw [cY] at h
   have nn:=nO ls l1 l2 h1 h2
   by_cases hl:0<au l l1 l2/\au l h1 h2<=0
   ·rw [if_pos hl] at h;omega
   ·rw [if_neg hl] at h
    rcases List.mem_cons.mp hx with rfl | z
    ·exact hl
    ·exact Ac (by omega) x z
theorem qm {l1 l2 h1 h2:Int}:∀ {ls:List (List Int)},bC ls l1 l2 h1 h2=1->∃ pre s post,ls=pre++s::post/\(0<au s l1 l2/\au s h1 h2<=0)/\∀ x∈pre++post,¬ (0<au x l1 l2/\au x h1 h2<=0)
 | [],h=>by cases h
 | l::ls,h=>by
   rw [cY] at h
   by_cases hl:0<au l l1 l2/\au l h1 h2<=0
   ·rw [if_pos hl] at h
    exact ⟨[],l,ls,rfl,hl,Ac (ls:=ls) (by omega)⟩
   ·rw [if_neg hl] at h
    obtain ⟨pre,s,post,rfl,e2,e3⟩:=qm (l1:=l1) (l2:=l2) (h1:=h1) (h2:=h2) (ls:=ls) (by omega)
    refine ⟨l::pre,s,post,rfl,e2,fun x hx=>?_⟩
    rcases List.mem_cons.mp hx with rfl | z
    ·exact hl
    ·exact e3 x z
theorem Ae {l1 l2 h1 h2:Int}:∀ {ls:List (List Int)} {s:List Int},s∈ls->(0<au s l1 l2/\au s h1 h2<=0)->1<=bC ls l1 l2 h1 h2
 | l::ls,s,hs,h=>by
   rw [cY]
   have nn:=nO ls l1 l2 h1 h2
   rcases List.mem_cons.mp hs with rfl | z
   ·rw [if_pos h];omega
   ·have:=Ae z h
    split<;>omega
structure Dya (B:Int) (d:Nat) (l1 l2 h1 h2:Int):Prop where
 l2p:0<l2
 h2p:0<h2
 gl:Nat.gcd l1.natAbs l2.natAbs=1
 gh:Nat.gcd h1.natAbs h2.natAbs=1
 at':∃ m:Int,0<=m/\m+1<=2^d/\l1*2^d=(2*m*B-B*2^d)*l2/\h1*2^d=(2*(m+1)*B-B*2^d)*h2
theorem zL {X l1 l2:Int} {d k:Nat} (l2p:0<l2) (g:Nat.gcd l1.natAbs l2.natAbs=1) (e:l1*2^d=X*l2) (hX:X.natAbs<=2^k) (hk:d<=k):l1.natAbs<=2^k/\l2.natAbs<=2^k:=by
 have e':l1.natAbs*2^d=X.natAbs*l2.natAbs:=by
  have:=congrArg Int.natAbs e
  rw [Int.natAbs_mul,Int.natAbs_mul,Int.natAbs_pow] at this
  exact this
 have hd:l2.natAbs∣2^d:=by
  refine Nat.Coprime.dvd_of_dvd_mul_left (k:=l2.natAbs) (m:=l1.natAbs) (by rw [Nat.Coprime,Nat.gcd_comm];exact g) ?_
  exact ⟨X.natAbs,by rw [e',Nat.mul_comm]⟩
 have p2:0<2^d:=Nat.pow_pos (by decide)
 have hle:=Nat.le_of_dvd p2 hd
 refine ⟨?_,Nat.le_trans hle (Nat.pow_le_pow_right (by decide) hk)⟩
 have h1:l1.natAbs*2^d<=X.natAbs*2^d:=by rw [e'];exact Nat.mul_le_mul_left _ hle
 exact Nat.le_trans (Nat.le_of_mul_le_mul_right h1 p2) hX
theorem yi {B D m:Int} {N:Nat} (hN:(N:Int)=B*D) (B0:0<B) (m0:0<=m) (m1:m<=D):(2*m*B-B*D).natAbs<=N:=by
 have k1:0<=m*B:=Int.mul_nonneg m0 (Int.le_of_lt B0)
 have k2:m*B<=D*B:=Int.mul_le_mul_of_nonneg_right m1 (Int.le_of_lt B0)
 have k4:D*B=B*D:=Int.mul_comm _ _
 have k5:2*m*B=2*(m*B):=Int.mul_assoc _ _ _
 rw [k5]
 generalize m*B=x at *
 generalize B*D=y at *
 omega
theorem Dya.bits {kb d:Nat} {l1 l2 h1 h2:Int} (h:Dya (2^kb) d l1 l2 h1 h2):(l1.natAbs<=2^(kb+d)/\l2.natAbs<=2^(kb+d))/\h1.natAbs<=2^(kb+d)/\h2.natAbs<=2^(kb+d):=by
 obtain ⟨l2p,h2p,gl,gh,m,m0,m1,e1,e2⟩:=h
 have B0:(0:Int)<2^kb:=Int.pow_pos (by decide)
 have eq:(((2:Nat)^(kb+d):Nat):Int)=2^kb*2^d:=by rw [Int.natCast_pow,Int.pow_add];rfl
 exact ⟨zL l2p gl e1 (yi eq B0 m0 (by omega)) (by omega),zL h2p gh e2 (yi eq B0 (by omega) m1) (by omega)⟩
theorem Dya.width {B:Int} {d:Nat} {l1 l2 h1 h2:Int} (h:Dya B d l1 l2 h1 h2):(h1*l2-l1*h2)*2^d=2*B*(l2*h2):=by
 obtain ⟨l2p,h2p,gl,gh,m,m0,m1,e1,e2⟩:=h
 grind
theorem Dya.lt {B:Int} (hB:0<B) {d:Nat} {l1 l2 h1 h2:Int} (h:Dya B d l1 l2 h1 h2):l1*h2<h1*l2:=by
 have w:=h.width
 have p:(0:Int)<2^d:=Int.pow_pos (by decide)
 have q:0<2*B*(l2*h2):=Int.mul_pos (by omega) (Int.mul_pos h.l2p h.h2p)
 rw [<- w] at q
 have:0<h1*l2-l1*h2:=Int.not_le.mp fun z=>by
  have:=Int.mul_nonpos_of_nonpos_of_nonneg z (Int.le_of_lt p)
  omega
 omega
theorem Dya.start {B:Int}:Dya B 0 (-B) 1 B 1:=⟨by decide,by decide,Nat.gcd_one_right _,Nat.gcd_one_right _,0,by decide,by decide,by grind,by grind⟩
theorem Dya.half {B:Int} {d:Nat} {l1 l2 h1 h2 c1 c2:Int} (h:Dya B d l1 l2 h1 h2) (c2p:0<c2) (gc:Nat.gcd c1.natAbs c2.natAbs=1) (e:c1*(2*l2*h2)=(l1*h2+h1*l2)*c2):Dya B (d+1) l1 l2 c1 c2/\Dya B (d+1) c1 c2 h1 h2:=by
 obtain ⟨l2p,h2p,gl,gh,m,m0,m1,e1,e2⟩:=h
 have ec:c1*2^(d+1)=(2*(2*m+1)*B-B*2^(d+1))*c2:=by
  have hp:0<l2*h2:=Int.mul_pos l2p h2p
  refine Int.eq_of_mul_eq_mul_right (a:=l2*h2) (by omega) ?_
  rw [Int.pow_succ]
  have q1:c1*(2^d*2)*(l2*h2)=c1*(2*l2*h2)*2^d:=by grind
  rw [q1,e]
  have q2:(l1*h2+h1*l2)*c2*2^d=(l1*2^d*h2+h1*2^d*l2)*c2:=by grind
  rw [q2,e1,e2]
  grind
 have p2:(2:Int)^(d+1)=2^d*2:=Int.pow_succ ..
 refine ⟨⟨l2p,c2p,gl,gc,2*m,by omega,by omega,?_,ec⟩,⟨c2p,h2p,gc,gh,2*m+1,by omega,by omega,ec,?_⟩⟩
 ·rw [p2,<- Int.mul_assoc,e1];grind
 ·rw [p2,<- Int.mul_assoc,e2];grind
theorem Dya.few {fs:List (List Int)} (hF:∀ f∈fs,FacG f) (hn:(fs.map ag).Nodup) {kb d:Nat} {l1 l2 h1 h2:Int} (h:Dya (2^kb) d l1 l2 h1 h2) (hd:kb+201<=d):bC (aL fs) l1 l2 h1 h2<=1:=by
 have B0:(0:Int)<2^kb:=Int.pow_pos (by decide)
 refine JQ hF hn h.l2p h.h2p (h.lt B0) ?_
 have w:=h.width
 obtain ⟨j,rfl⟩:∃ j,d=kb+201+j:=⟨d-(kb+201),by omega⟩
 have e:(2:Int)^(kb+201+j)=2*2^kb*(2^200*2^j):=by
  rw [Int.pow_add,Int.pow_add,show (2:Int)^201=2*2^200 by decide];grind
 have j0:(1:Int)<=2^j:=by have:=Int.pow_pos (n:=2) (m:=j) (by decide);omega
 rw [e] at w
 have lp:=h.lt B0
 have e2:(h1*l2-l1*h2)*(2*2^kb*(2^200*2^j))=2*2^kb*((h1*l2-l1*h2)*2^200*2^j):=by grind
 rw [e2] at w
 have w2:=Int.eq_of_mul_eq_mul_left (show 2*(2:Int)^kb≠0 by omega) w
 have q:0<=(h1*l2-l1*h2)*2^200:=Int.mul_nonneg (by omega) (Int.le_of_lt (Int.pow_pos (by decide)))
 have:=Int.mul_le_mul_of_nonneg_left j0 q
 rw [Int.mul_one] at this
 rw [<- w2];exact this
end RM
namespace RM
def prQ (fs:List (List Int)):List Int:=aS [1] (fs.map ag)
structure Fam (fs:List (List Int)):Prop where
 fac:∀ f∈fs,FacG f
 nd:(fs.map ag).Nodup
variable {fs:List (List Int)}
theorem Fam.q (h:Fam fs):∀ f∈fs,eN f:=fun f hf=>(h.fac f hf).q
theorem Fam.pri (h:Fam fs):∀ s∈fs.map ag,Pri s:=fun s hs=>by
 obtain ⟨f,hf,rfl⟩:=List.mem_map.mp hs
 exact fv (h.fac f hf)
theorem Fam.prd (h:Fam fs):prQ fs=prd (fs.map ag):=xX h.pri
theorem Fam.pln (h:Fam fs):Pln (prQ fs):=by rw [h.prd];exact ii _ fun s hs=>(h.pri s hs).pln
theorem Fam.one (h:Fam fs):ad [1] (prQ fs)=prQ fs:=one_mul _ h.pln.tr
theorem Fam.sign (h:Fam fs) {t n:Int} (hn:0<n):sg (hv t n (prQ fs))=spr t n (aL fs):=by
 have:=o8 (t:=t) (n:=n) (c:=1) hn h.q
 rw [show ad [1] (aS [1] (fs.map ag))=aS [1] (fs.map ag) from h.one] at this
 rw [show sg 1=1 from rfl,Int.one_mul] at this
 exact this
theorem qK {t n:Int}:∀ {ls:List (List Int)},spr t n ls=0->∃ s∈ls,au s t n=0
 | [],h=>by cases h
 | l::ls,h=>by
   rcases Int.mul_eq_zero.mp (show -au l t n*spr t n ls=0 from h) with z | z
   ·exact ⟨l,List.mem_cons_self ..,by omega⟩
   ·obtain ⟨s,hs,e⟩:=qK z
    exact ⟨s,List.mem_cons_of_mem _ hs,e⟩
theorem Fam.sub {fs gs:List (List Int)} (h:Fam fs) (s:gs.Sublist fs):Fam gs:=⟨fun f hf=>h.fac f (s.subset hf),h.nd.sublist (s.map _)⟩
theorem Fam.single (h:Fam fs) {f:List Int} (hf:f∈fs):Fam [f]:=h.sub (List.singleton_sublist.mpr hf)
theorem sv {f:List Int} (h:Fam [f]):prQ [f]=ag f:=by
 rw [h.prd]
 show ad (ag f) [1]=_
 exact cO _
structure OneS (fs:List (List Int)) (f0 s0:List Int) (l1 l2 h1 h2:Int):Prop where
 fam:Fam fs
 mem:f0∈fs
 sp:s0∈spF f0
 l2p:0<l2
 h2p:0<h2
 lt:l1*h2<h1*l2
 inn:0<au s0 l1 l2/\au s0 h1 h2<=0
 only:∀ s∈aL fs,0<au s l1 l2->au s h1 h2<=0->s=s0
theorem DW {l1 l2 h1 h2:Int} (hF:Fam fs) (l2p:0<l2) (h2p:0<h2) (lt:l1*h2<h1*l2) (h:bC (aL fs) l1 l2 h1 h2=1):∃ f0 s0,OneS fs f0 s0 l1 l2 h1 h2:=by
 obtain ⟨pre,s,post,e,hin,hno⟩:=qm h
 have hs:s∈aL fs:=by rw [e];simp
 obtain ⟨f0,hf0,hsp⟩:=List.mem_flatMap.mp hs
 refine ⟨f0,s,hF,hf0,hsp,l2p,h2p,lt,hin,fun x hx a b=>?_⟩
 rw [e] at hx
 rcases List.mem_append.mp hx with z | z
 ·exact absurd ⟨a,b⟩ (hno x (List.mem_append_left _ z))
 ·rcases List.mem_cons.mp z with z | z
  ·exact z
  ·exact absurd ⟨a,b⟩ (hno x (List.mem_append_right _ z))
variable {f0 s0:List Int} {l1 l2 h1 h2:Int}
theorem rR {s:List Int} (hs:Spt s) {t n t' n':Int} (hn:0<n) (hn':0<n') (h:t*n'<=t'*n) (hz:au s t n<=0):au s t' n'<=0:=by
 rcases Int.lt_or_eq_of_le h with w | w
 ·have:=gZ hs hn hn' w hz;omega
 ·rw [<- oW s hn hn' w];exact hz
theorem OneS.zero (h:OneS fs f0 s0 l1 l2 h1 h2) {x1 x2:Int} (x2p:0<x2) (a:l1*x2<x1*l2) (b:x1*h2<=h1*x2) (z:hv x1 x2 (prQ fs)=0):au s0 x1 x2=0:=by
 have hs:=h.fam.sign (t:=x1) (n:=x2) x2p
 rw [z] at hs
 obtain ⟨s,hm,hz⟩:=qK (show spr x1 x2 (aL fs)=0 from hs.symm)
 have hS:=dA h.fam.q hm
 have e:s=s0:=by
  refine h.only s hm (Int.not_le.mp fun w=>?_) (rR hS x2p h.h2p b (by omega))
  have:=gZ hS h.l2p x2p a w
  omega
 rw [<- e];exact hz
theorem qN {u e b:Int} {s:List Int} (h:s∈spF [u,e,b]):∃ σ:Int,s=[u,e,b,σ]/\(σ=1/\0<=e\/σ = -1/\0<e):=by
 unfold spF at h
 rcases List.mem_append.mp h with w | w
 ·split at w
  ·rename_i he
   exact ⟨1,List.mem_singleton.mp w,.inl ⟨rfl,he⟩⟩
  ·cases w
 ·split at w
  ·rename_i he
   exact ⟨-1,List.mem_singleton.mp w,.inr ⟨rfl,he⟩⟩
  ·cases w
theorem xo {u e b σ t n:Int} (hNS:NS e) (he:0<e) (hn:0<n):au [u,e,b,σ] t n≠0:=fun z=>by
 unfold au at z
 have key:∀ d:Int,aY (e*n*n) d=0->False:=fun d hd=>by
  rcases ca (e*n*n) d with ⟨c,_⟩ | ⟨_,_,c⟩ | ⟨c,_⟩
  ·omega
  ·exact hNS.no (x:=n) (y:=d) (by omega) (by omega) (by rw [c];grind)
  ·omega
 split at z
 ·exact key _ z
 ·exact key _ (by have:0-aY (e*n*n) (0-(b*t-u*n))=0:=z;show aY (e*n*n) (0-(b*t-u*n))=0;omega)
theorem uw {u e b:Int} (h:FacG [u,e,b]):1<=b/\NS e:=by
 obtain ⟨u',e',b',he,_,_,_,_,h5,_,h7⟩:=h
 cases he;exact ⟨h5,h7⟩
theorem OneS.cases (h:OneS fs f0 s0 l1 l2 h1 h2):∃ u e b σ:Int,f0=[u,e,b]/\s0=[u,e,b,σ]/\1<=b/\NS e/\(σ=1/\e=0\/(σ=1\/σ = -1)/\0<e):=by
 obtain ⟨u,e,b,rfl,_⟩:=h.fam.fac f0 h.mem
 obtain ⟨hb,hn⟩:=uw (h.fam.fac _ h.mem)
 obtain ⟨σ,rfl,hσ⟩:=qN h.sp
 refine ⟨u,e,b,σ,rfl,rfl,hb,hn,?_⟩
 rcases hσ with ⟨a,c⟩ | ⟨a,c⟩
 ·rcases Int.lt_or_eq_of_le c with w | w
  ·exact .inr ⟨.inl a,w⟩
  ·exact .inl ⟨a,w.symm⟩
 ·exact .inr ⟨.inr a,c⟩
theorem OneS.none (h:OneS fs f0 s0 l1 l2 h1 h2) {u e b σ:Int} (ef:s0=[u,e,b,σ]) (hN:NS e) (he:0<e) {x1 x2:Int} (x2p:0<x2) (a:l1*x2<x1*l2) (c:x1*h2<=h1*x2):hv x1 x2 (prQ fs)≠0:=fun z=>by
 have:=h.zero x2p a c z
 rw [ef] at this
 exact xo hN he x2p this
theorem yZ (h:Fam fs) (hf:f0∈fs):∃ r:Int,0<r/\al (prQ fs)=al (ag f0)*r:=by
 obtain ⟨pre,post,e⟩:=List.append_of_mem (List.mem_map_of_mem (f:=ag) hf)
 have hp:=h.pri
 rw [h.prd]
 rw [e] at hp ⊢
 have hq:Pln (RM.prd (pre++post)):=ii _ fun s hs=>(hp s (by simp at hs ⊢;rcases hs with z | z<;>simp [z])).pln
 have hs:Pln (ag f0):=(hp _ (by simp)).pln
 rw [mR,tF hs.ne hq.ne]
 exact ⟨_,hq.pos,rfl⟩
theorem CY {a b c d:Int} (hb:0<b) (hd:0<d) (g1:Nat.gcd a.natAbs b.natAbs=1) (g2:Nat.gcd c.natAbs d.natAbs=1) (e:a*d=c*b):a=c/\b=d:=by
 have e':a.natAbs*d.natAbs=c.natAbs*b.natAbs:=by
  have:=congrArg Int.natAbs e
  rwa [Int.natAbs_mul,Int.natAbs_mul] at this
 have h1:b.natAbs∣d.natAbs:=Nat.Coprime.dvd_of_dvd_mul_left (k:=b.natAbs) (m:=a.natAbs) (by rw [Nat.Coprime,Nat.gcd_comm];exact g1) ⟨c.natAbs,by rw [e',Nat.mul_comm]⟩
 have h2:d.natAbs∣b.natAbs:=Nat.Coprime.dvd_of_dvd_mul_left (k:=d.natAbs) (m:=c.natAbs) (by rw [Nat.Coprime,Nat.gcd_comm];exact g2) ⟨a.natAbs,by rw [<- e',Nat.mul_comm]⟩
 have h3:=Nat.dvd_antisymm h1 h2
 have h4:b=d:=by omega
 subst h4
 exact ⟨Int.eq_of_mul_eq_mul_right (by omega) e,rfl⟩
theorem oZ {u b:Int} (hb:1<=b):∃ g A0 A1:Int,0<g/\ag [u,0,b]=[A0,A1] /\ -u=g*A0/\b=g*A1/\0<A1/\Nat.gcd A0.natAbs A1.natAbs=1:=by
 have hr:aK u 0 b=[-u,b]:=by unfold aK;rw [if_pos rfl]
 have ht:=(fI (u:=u) (e:=0) hb).1
 rw [hr] at ht
 have hl:al [-u,b]=b:=rfl
 obtain ⟨g,hg,e⟩:=mT ht (by simp) (by rw [hl];omega)
 have hS:ag [u,0,b]=aB [-u,b]:=by show aB (aK u 0 b)=_;rw [hr]
 have hp:=eG ht (by simp)
 rw [hS]
 have hl2:(aB [-u,b]).length=2:=RM.plain_len _
 generalize aB [-u,b]=P at e hp hl2
 match P,hl2 with
 | [A0,A1],_ =>
   have e1 : -u=g*A0/\b=g*A1:=by
    have:[-u,b]=[g*A0,g*A1]:=e
    simpa using this
   refine ⟨g,A0,A1,hg,rfl,e1.1,e1.2,hp.pos,?_⟩
   have h2:aA [A0,A1]=Nat.gcd A0.natAbs A1.natAbs:=by
    unfold aA
    rw [gK,gK,qd,Nat.gcd_zero_left]
   rw [<- h2];exact hp.prim
theorem Jz {a y Z:Int} (hy:0<y) (h1:Z*y<=a) (h2:a<(Z+1)*y):a/y=Z :=
 Int.le_antisymm (Int.lt_add_one_iff.mp (Int.ediv_lt_of_lt_mul hy h2)) (Int.le_ediv_of_mul_le hy h1)
theorem side_line {u b t n:Int}:0<au [u,0,b,1] t n↔b*t<u*n:=by
 unfold au
 rw [if_pos (show (0:Int)<cf [u,0,b,1] 3 from (by decide:(0:Int)<1))]
 show 0<aY (0*n*n) (b*t-u*n)↔_
 rw [Int.zero_mul,Int.zero_mul]
 rcases ca 0 (b*t-u*n) with ⟨c,d⟩ | ⟨c,d,_⟩ | ⟨c,d,_⟩
 ·rw [c]
  constructor
  ·intro _
   rcases d with d | d
   ·omega
   ·have:0<=(b*t-u*n)*(b*t-u*n):=by
     rcases Int.le_total 0 (b*t-u*n) with w | w
     ·exact Int.mul_nonneg w w
     ·exact Int.mul_nonneg_of_nonpos_of_nonpos w w
    omega
  ·intro _;decide
 ·rw [c];constructor
  ·intro z;exact absurd z (by decide)
  ·intro z;omega
 ·rw [c];constructor
  ·intro z;exact absurd z (by decide)
  ·intro z;omega
theorem OneS.line {u b:Int} (h:OneS fs [u,0,b] [u,0,b,1] l1 l2 h1 h2) {x1 x2 y1 y2 B:Int} (x2p:0<x2) (y2p:0<y2) (hB:1<=B) (lo:0<au [u,0,b,1] x1 x2) (hi:au [u,0,b,1] y1 y2<=0) (hlt:x1*y2<y1*x2) (hw:(y1*x2-x1*y2)*(8*al (prQ fs)*B)<=1*(x2*y2)) :
 let Z:=al (prQ fs)*y1/y2
 ag [u,0,b]=[-(rt Z (al (prQ fs))),rb Z (al (prQ fs))]/\x1*rb Z (al (prQ fs))<rt Z (al (prQ fs))*x2/\hv (rt Z (al (prQ fs))) (rb Z (al (prQ fs))) (prQ fs)=0:=by
 have hb:=(uw (h.fam.fac _ h.mem)).1
 obtain ⟨g,A0,A1,hg,eS,e0,e1,hA,hgcd⟩:=oZ (u:=u) hb
 obtain ⟨r,hr,eL⟩:=yZ h.fam h.mem
 rw [eS] at eL
 have eL':al (prQ fs)=A1*r:=eL
 have lo':=side_line.mp lo
 have hi':u*y2<=b*y1:=Int.not_lt.mp fun z=>by have:=side_line.mpr z;omega
 have Lp:0<al (prQ fs):=h.fam.pln.pos
 have k1 : -A0*y2<=A1*y1:=by
  refine Int.le_of_mul_le_mul_left (a:=g) ?_ hg
  have q1:g*(-A0*y2)=u*y2:=by
   have:u=g * -A0:=by grind
   rw [this];grind
  have q2:g*(A1*y1)=b*y1:=by rw [e1];grind
  omega
 have k2:A1*x1 < -A0*x2:=by
  refine Int.lt_of_mul_lt_mul_left (a:=g) ?_ (Int.le_of_lt hg)
  have q1:g*(-A0*x2)=u*x2:=by
   have:u=g * -A0:=by grind
   rw [this];grind
  have q2:g*(A1*x1)=b*x1:=by rw [e1];grind
  omega
 have eZ:al (prQ fs)*y1/y2 = -A0*r:=by
  refine Jz y2p ?_ ?_
  ·rw [eL']
   have:=Int.mul_le_mul_of_nonneg_left k1 (Int.le_of_lt hr)
   have q1:r*(-A0*y2) = -A0*r*y2:=by grind
   have q2:r*(A1*y1)=A1*r*y1:=by grind
   omega
  ·have w0:0<=(y1*x2-x1*y2)*al (prQ fs):=Int.mul_nonneg (by omega) (Int.le_of_lt Lp)
   have w1:(y1*x2-x1*y2)*(8*al (prQ fs)*B)=(y1*x2-x1*y2)*al (prQ fs)*(8*B):=by grind
   have w2:=Int.mul_le_mul_of_nonneg_left (show 1<=8*B by omega) w0
   have w3:(y1*x2-x1*y2)*al (prQ fs)<=x2*y2:=by omega
   rw [eL'] at w3 ⊢
   have w4:=Int.mul_lt_mul_of_pos_left k2 (Int.mul_pos hr y2p)
   refine Int.lt_of_mul_lt_mul_right (a:=x2) ?_ (Int.le_of_lt x2p)
   have q1:A1*r*y1*x2=(y1*x2-x1*y2)*(A1*r)+r*y2*(A1*x1):=by grind
   have q2:(-A0*r+1)*y2*x2=r*y2*(-A0*x2)+x2*y2:=by grind
   rw [q1,q2];omega
 intro Z
 have hZ:Z = -A0*r:=eZ
 clear_value Z
 subst hZ
 have L0:al (prQ fs)≠0:=by omega
 have hc:=fe (t := -A0*r) L0
 have hgr:=mN (t := -A0*r) L0
 have hpr:=dB (t := -A0*r) L0
 obtain ⟨m1,m2⟩:=CY (a:=rt (-A0*r) (al (prQ fs))) (b:=rb (-A0*r) (al (prQ fs))) (c := -A0) (d:=A1) hpr hA hgr (by rw [Int.natAbs_neg];exact hgcd) (by
  refine Int.eq_of_mul_eq_mul_right (a:=r) (by omega) ?_
  rw [Int.mul_assoc,<- eL',hc];grind)
 rw [m1,m2]
 refine ⟨by rw [eS,Int.neg_neg],by rw [Int.mul_comm];exact k2,?_⟩
 have hs:=h.fam.sign (t := -A0) (n:=A1) hA
 have hz:spr (-A0) A1 (aL fs)=0:=by
  have hm:[u,0,b,1]∈aL fs:=List.mem_flatMap.mpr ⟨_,h.mem,h.sp⟩
  have hside:au [u,0,b,1] (-A0) A1=0:=by
   unfold au
   rw [if_pos (show (0:Int)<cf [u,0,b,1] 3 from (by decide:(0:Int)<1))]
   show aY (0*A1*A1) (b * -A0-u*A1)=0
   have:b * -A0-u*A1=0:=by
    have q:u=g * -A0:=by grind
    rw [e1,q];grind
   rw [this,Int.zero_mul,Int.zero_mul];rfl
  have z0:∀ ls:List (List Int),[u,0,b,1]∈ls->spr (-A0) A1 ls=0:=fun ls=>by
   induction ls with
   | nil=>intro h;cases h
   | cons l ls ih =>
     intro h
     show -au l (-A0) A1*spr (-A0) A1 ls=0
     rcases List.mem_cons.mp h with w | w
     ·rw [<- w,hside];omega
     ·rw [ih w,Int.mul_zero]
  exact z0 _ hm
 rw [hz] at hs
 exact (rW _).mp hs
end RM
namespace RM
theorem eo {g a b:Rat} (hg:0<g) (h:g*a<=g*b):a<=b:=Rat.not_lt.mp fun z=>by
 have:=Rat.mul_pos hg (show 0<a-b by grind)
 grind
theorem sk {g a b:Rat} (hg:0<g) (h:g*a<g*b):a<b:=Rat.not_le.mp fun z=>by
 have:=Rat.mul_nonneg (Rat.le_of_lt hg) (show 0<=a-b by grind)
 grind
theorem BI {u b g A1 A2 r L w x y x' y':Rat} (hg:0<g) (hb:0<b) (hr:0<r) (hA:0<A2) (e1 : -2*b*u=g*A1) (e2:b*b=g*A2) (eL:L=A2*r) (s1:2*u<=b*(y+y')) (s2:b*(x+x')<2*u) (hw:y-x<=w) (hw':y'-x'<=w) (hwL:4*(L*w)<=1) : -A1*r<=L*(y+y')/\L*(y+y') < -A1*r+1:=by
 have hbr:=Rat.mul_pos hb hr
 have hL:0<L:=by rw [eL];exact Rat.mul_pos hA hr
 have q1:g*(L*(y+y'))=b*r*(b*(y+y')):=by rw [eL];grind
 have q2:g*(-A1*r)=b*r*(2*u):=by grind
 constructor
 ·refine eo hg ?_
  rw [q1,q2]
  exact Rat.mul_le_mul_of_nonneg_left s1 (Rat.le_of_lt hbr)
 ·have h1:L*(x+x') < -A1*r:=by
   refine sk hg ?_
   have q3:g*(L*(x+x'))=b*r*(b*(x+x')):=by rw [eL];grind
   rw [q3,q2]
   have:=Rat.mul_pos hbr (show 0<2*u-b*(x+x') by grind)
   grind
  have h2:=Rat.mul_le_mul_of_nonneg_left (show y+y'<=x+x'+2*w by grind) (Rat.le_of_lt hL)
  have e3:L*(x+x'+2*w)=L*(x+x')+2*(L*w):=by grind
  grind
theorem Dt {u e b g A0 A2 r L w N m:Rat} (hg:0<g) (hr:0<r) (hA:0<A2) (e0:u*u-e=g*A0) (e2:b*b=g*A2) (eL:L=A2*r) (p1:u*u-e<b*b*m) (p2:b*b*m<=u*u-e+2*(b*b)*(w*N)) (hwL:2*(L*(w*N))<1):A0*r<=L*m/\L*m<A0*r+1:=by
 have q1:g*(L*m)=r*(b*b*m):=by rw [eL];grind
 have q2:g*(A0*r)=r*(u*u-e):=by grind
 constructor
 ·refine eo hg ?_
  rw [q1,q2]
  exact Rat.mul_le_mul_of_nonneg_left (Rat.le_of_lt p1) (Rat.le_of_lt hr)
 ·have h1:L*m<=A0*r+2*(L*(w*N)):=by
   refine eo hg ?_
   have q3:g*(A0*r+2*(L*(w*N)))=r*(u*u-e+2*(b*b)*(w*N)):=by rw [eL];grind
   rw [q1,q3]
   exact Rat.mul_le_mul_of_nonneg_left p2 (Rat.le_of_lt hr)
  grind
theorem NS.irr {e:Int} (h:NS e) (he:0<e) (q:Rat):q*q≠(e:Rat):=fun z=>by
 have hn:=pC q
 have hd:=d9 q
 refine h.no (x:=(q.den:Int)) (y:=q.num) (by omega) (by omega) ?_
 refine Rat.intCast_inj.mp ?_
 rw [Rat.intCast_mul,Rat.intCast_mul,Rat.intCast_mul,hn,<- z]
 grind
theorem rT {u e b:Int} (hb:1<=b) (he:e≠0):∃ g A0 A1 A2:Int,0<g/\ag [u,e,b]=[A0,A1,A2]/\u*u-e=g*A0 /\ -2*b*u=g*A1/\b*b=g*A2/\0<A2:=by
 have hr:aK u e b=[u*u-e,-2*b*u,b*b]:=by unfold aK;rw [if_neg he]
 have ht:=(fI (u:=u) (e:=e) hb).1
 rw [hr] at ht
 have hl:al [u*u-e,-2*b*u,b*b]=b*b:=rfl
 obtain ⟨g,hg,e'⟩:=mT ht (by simp) (by rw [hl];exact Int.mul_pos (by omega) (by omega))
 have hS:ag [u,e,b]=aB [u*u-e,-2*b*u,b*b]:=by show aB (aK u e b)=_;rw [hr]
 have hp:=eG ht (by simp)
 rw [hS]
 have hl2:(aB [u*u-e,-2*b*u,b*b]).length=3:=RM.plain_len _
 generalize aB [u*u-e,-2*b*u,b*b]=P at e' hp hl2
 match P,hl2 with
 | [A0,A1,A2],_ =>
   have e1:u*u-e=g*A0 /\ -2*b*u=g*A1/\b*b=g*A2:=by
    have:[u*u-e,-2*b*u,b*b]=[g*A0,g*A1,g*A2]:=e'
    simpa using this
   exact ⟨g,A0,A1,A2,hg,rfl,e1.1,e1.2.1,e1.2.2,hp.pos⟩
theorem xz {L B:Int} {d w:Rat} (hLB:0<L*B) (hw:w*(8*((L:Rat)*(B:Rat)))=1) (h:d*(8*((L:Rat)*(B:Rat)))<=1):d<=w:=by
 have p:(0:Rat)<8*((L:Rat)*(B:Rat)):=by
  have:(0:Rat)<((L*B:Int):Rat):=Rat.intCast_lt_intCast.mpr hLB
  rw [Rat.intCast_mul] at this
  grind
 refine eo p ?_
 grind
theorem wN {u e b L B:Int} (hF:Fam fs) (hm:[u,e,b]∈fs) (he:0<e) (hL:L=al (prQ fs)) (hB:1<=B) {x y x' y' m:Rat} (T:Two u e b x y x' y') (hxy:x<y) (hxy':x'<y') (hw:(y-x)*(8*((L:Rat)*(B:Rat)))<=1) (hw':(y'-x')*(8*((L:Rat)*(B:Rat)))<=1)
 (n1:Bd (2*(B:Rat)-1/2) x) (n2:Bd (2*(B:Rat)-1/2) y) (n3:Bd (2*(B:Rat)-1/2) x') (n4:Bd (2*(B:Rat)-1/2) y') (c1:x*x'<=m) (c2:x*y'<=m) (c3:y*x'<=m) (c4:y*y'<=m) (hmm:m=x*x'\/m=x*y'\/m=y*x'\/m=y*y')
 {t1 t2 m1 m2:Int} (t2p:0<t2) (m2p:0<m2) (ht:(t1:Rat)/(t2:Rat)=y+y') (hmr:(m1:Rat)/(m2:Rat)=m):aB [L*m1/m2,-(L*t1/t2),L]=ag [u,e,b]:=by
 obtain ⟨hb,hN⟩:=uw (hF.fac _ hm)
 obtain ⟨g,A0,A1,A2,hg,eS,e0,e1,e2,hA⟩:=rT (u:=u) hb (show e≠0 by omega)
 obtain ⟨r,hr,eL⟩:=yZ hF hm
 rw [eS,<- hL] at eL
 have eL':L=A2*r:=eL
 have Lp:0<L:=by rw [eL'];exact Int.mul_pos hA hr
 have LB:0<L*B:=Int.mul_pos Lp (by omega)
 have cL:(0:Rat)<(L:Rat):=Rat.intCast_lt_intCast.mpr Lp
 have cB:(1:Rat)<=(B:Rat):=Rat.intCast_le_intCast.mpr hB
 have cp:(0:Rat)<8*((L:Rat)*(B:Rat)):=by
  have:=Rat.mul_pos cL (show (0:Rat)<(B:Rat) by grind);grind
 obtain ⟨w,hwd⟩:∃ w:Rat,w*(8*((L:Rat)*(B:Rat)))=1:=⟨1/(8*((L:Rat)*(B:Rat))),Rat.div_mul_cancel (Rat.ne_of_gt cp)⟩
 have h1:=xz LB hwd hw
 have h2:=xz LB hwd hw'
 have cg:(0:Rat)<(g:Rat):=Rat.intCast_lt_intCast.mpr hg
 have cb:(0:Rat)<(b:Rat):=Rat.intCast_lt_intCast.mpr (show (0:Int)<b by omega)
 have cr:(0:Rat)<(r:Rat):=Rat.intCast_lt_intCast.mpr hr
 have cA:(0:Rat)<(A2:Rat):=Rat.intCast_lt_intCast.mpr hA
 have ce:(0:Rat)<(e:Rat):=Rat.intCast_lt_intCast.mpr he
 have E0:(u:Rat)*(u:Rat)-(e:Rat)=(g:Rat)*(A0:Rat):=by
  rw [<- Rat.intCast_mul,<- Rat.intCast_sub,e0,Rat.intCast_mul]
 have E1 : -2*(b:Rat)*(u:Rat)=(g:Rat)*(A1:Rat):=by
  rw [<- Rat.intCast_mul,<- e1,Rat.intCast_mul,Rat.intCast_mul];rfl
 have E2:(b:Rat)*(b:Rat)=(g:Rat)*(A2:Rat):=by rw [<- Rat.intCast_mul,e2,Rat.intCast_mul]
 have EL:(L:Rat)=(A2:Rat)*(r:Rat):=by rw [eL',Rat.intCast_mul]
 have wp:0<w:=Rat.not_le.mp fun z=>by
  have:=Rat.mul_nonneg (show 0 <= -w by grind) (Rat.le_of_lt cp)
  grind
 have LwB:8*((L:Rat)*w*(B:Rat))=1:=by grind
 have Lw:0<(L:Rat)*w:=Rat.mul_pos cL wp
 have Lw4:4*((L:Rat)*w)<=1:=by
  have:=Rat.mul_le_mul_of_nonneg_left cB (Rat.le_of_lt Lw)
  grind
 have S:=T.sum
 obtain ⟨f1,f2⟩:=BI cg cb cr cA E1 E2 EL S.1 S.2 h1 h2 Lw4
 obtain ⟨P1,P2⟩:=T.prod cb ce (hN.irr he) hxy hxy' h1 h2 n1 n2 n3 n4 c1 c2 c3 c4 hmm
 obtain ⟨f3,f4⟩:=Dt cg cr cA E0 E2 EL P1 P2 (by grind)
 have z1:L*t1/t2 = -A1*r:=zD t2p (by rw [ht,Rat.intCast_mul,Rat.intCast_neg];exact f1) (by rw [ht,Rat.intCast_mul,Rat.intCast_neg];exact f2)
 have z2:L*m1/m2=A0*r:=zD m2p (by rw [hmr,Rat.intCast_mul];exact f3) (by rw [hmr,Rat.intCast_mul];exact f4)
 rw [z1,z2,eL']
 have hP:Pln (ag [u,e,b]):=(fv (hF.fac _ hm)).pln
 have e3:[A0*r,-(-A1*r),A2*r]=scL r (ag [u,e,b]):=by
  rw [eS]
  show _=[r*A0,r*A1,r*A2]
  rw [Int.mul_comm A0,Int.mul_comm A2]
  congr 2
  grind
 rw [e3,mU (by omega) hP.tr,hP.plain]
end RM
namespace RM
variable {fs:List (List Int)} {f0 s0:List Int} {l1 l2 h1 h2:Int}
theorem BP {u e b σ:Int} {f:List Int} (hf:eN f) (h:[u,e,b,σ]∈spF f):f=[u,e,b]:=by
 obtain ⟨u',e',b',rfl,_⟩:=hf
 obtain ⟨σ',eq,_⟩:=qN h
 cases eq;rfl
theorem mB {u e b:Int} (he:0<e):spF [u,e,b]=[[u,e,b,1],[u,e,b,-1]]:=by
 show (if 0<=e then [[u,e,b,1]] else [])++(if 0<e then [[u,e,b,-1]] else [])=_
 rw [if_pos (by omega),if_pos he];rfl
theorem mz {u b:Int}:spF [u,0,b]=[[u,0,b,1]]:=by
 show (if (0:Int)<=0 then [[u,0,b,1]] else [])++(if (0:Int)<0 then [[u,0,b,-1]] else [])=_
 rw [if_pos (by decide),if_neg (by decide)];rfl
theorem wS (f:List Int):aL [f]=spF f:=by show spF f++[]=_;rw [List.append_nil]
theorem OneS.cnt (h:OneS fs f0 s0 l1 l2 h1 h2):bC (aL [f0]) l1 l2 h1 h2=1:=by
 obtain ⟨u,e,b,σ,rfl,rfl,hb,hN,hc⟩:=h.cases
 rw [wS]
 have hin:=h.inn
 have other:∀ τ:Int,[u,e,b,τ]∈spF [u,e,b]->τ≠σ->¬ (0<au [u,e,b,τ] l1 l2/\au [u,e,b,τ] h1 h2<=0):=fun τ hτ hne z=>by
  have:=h.only _ (List.mem_flatMap.mpr ⟨_,h.mem,hτ⟩) z.1 z.2
  simp at this
  exact hne this
 have c0:bC [] l1 l2 h1 h2=0:=rfl
 rcases hc with ⟨rfl,rfl⟩ | ⟨hσ,he⟩
 ·rw [mz,cY,if_pos hin,c0];rfl
 ·rw [mB he] at other ⊢
  rcases hσ with rfl | rfl
  ·rw [cY,cY,if_pos hin,if_neg (other (-1) (by simp) (by decide)),c0];rfl
  ·rw [cY,cY,if_neg (other 1 (by simp) (by decide)),if_pos hin,c0];rfl
theorem OneS.sq (h:OneS fs f0 s0 l1 l2 h1 h2) (hl0:(ag f0).length=3) {E:List Int} (hE:Pln E) (hl:E.length=3) (hd:Dv E (prQ fs)):∃ gs,Fam gs/\(∀ g∈gs,g∈fs)/\gs.length<=2/\E=prQ gs/\(bC (aL gs) l1 l2 h1 h2=1->E=ag f0):=by
 have hF:=h.fam
 have hs0:∀ gs:List (List Int),Fam gs->(∀ g∈gs,g∈fs)->bC (aL gs) l1 l2 h1 h2=1->f0∈gs:=fun gs hG hsub hc=>by
  obtain ⟨pre,s,post,eq,hin,_⟩:=qm hc
  have hm:s∈aL gs:=by rw [eq];simp
  obtain ⟨f,hf,hsf⟩:=List.mem_flatMap.mp hm
  have e1:=h.only s (List.mem_flatMap.mpr ⟨f,hsub f hf,hsf⟩) hin.1 hin.2
  obtain ⟨u,e,b,σ,ef,es,_⟩:=h.cases
  rw [e1,es] at hsf
  have:=BP (hG.q f hf) hsf
  rw [ef,<- this];exact hf
 rw [hF.prd] at hd
 rcases JF hF.pri hF.nd hE hl hd with hm | ⟨p,q,hp,hq,hne,eE⟩
 ·obtain ⟨f,hf,rfl⟩:=List.mem_map.mp hm
  have hG:=hF.single hf
  refine ⟨[f],hG,fun g hg=>by rw [List.mem_singleton.mp hg];exact hf,by simp,(sv hG).symm,fun hc=>?_⟩
  have:=hs0 [f] hG (fun g hg=>by rw [List.mem_singleton.mp hg];exact hf) hc
  rw [List.mem_singleton.mp this]
 ·obtain ⟨f,hf,rfl⟩:=List.mem_map.mp hp
  obtain ⟨f',hf',rfl⟩:=List.mem_map.mp hq
  have hsub:∀ g∈[f,f'],g∈fs:=fun g hg=>by
   rcases List.mem_cons.mp hg with rfl | w
   ·exact hf
   ·rw [List.mem_singleton.mp w];exact hf'
  have hG:Fam [f,f']:=⟨fun g hg=>hF.fac g (hsub g hg),by simp;exact hne⟩
  have eP:E=prQ [f,f']:=by
   rw [hG.prd,eE]
   show _=ad (ag f) (ad (ag f') [1])
   rw [cO]
  refine ⟨[f,f'],hG,hsub,by simp,eP,fun hc=>?_⟩
  have hm:=hs0 [f,f'] hG hsub hc
  have n1:=(fv (hF.fac f hf))
  have n2:=(fv (hF.fac f' hf'))
  have hlen:=bM n1.pln.ne n2.pln.ne
  rw [<- eE,hl] at hlen
  have t1:=n1.two
  have t2:=n2.two
  rcases List.mem_cons.mp hm with rfl | w
  ·omega
  ·rw [List.mem_singleton.mp w] at hl0;omega
theorem v5 (hF:Fam fs) (hm:f0∈fs) (hl:(prQ fs).length<=(ag f0).length):prQ fs=ag f0:=by
 obtain ⟨pre,post,e⟩:=List.append_of_mem (List.mem_map_of_mem (f:=ag) hm)
 have hp:=hF.pri
 rw [hF.prd] at hl ⊢
 rw [e] at hp hl ⊢
 have hq:Pln (RM.prd (pre++post)):=ii _ fun s hs=>(hp s (by simp at hs ⊢;rcases hs with z | z<;>simp [z])).pln
 have hs:Pln (ag f0):=(hp _ (by simp)).pln
 rw [mR] at hl ⊢
 have hlen:=bM hs.ne hq.ne
 have:=List.length_pos_iff.mpr hs.ne
 have:=List.length_pos_iff.mpr hq.ne
 rw [hq.const (by omega),cO]
theorem OneS.low (h:OneS fs f0 s0 l1 l2 h1 h2):sg (hv l1 l2 (ag f0))≠0:=by
 have hG:=h.fam.single h.mem
 rw [<- sv hG,hG.sign h.l2p,wS]
 obtain ⟨u,e,b,σ,rfl,rfl,hb,hN,hc⟩:=h.cases
 intro z
 obtain ⟨s,hs,hz⟩:=qK z
 have hin:=h.inn.1
 rcases hc with ⟨rfl,rfl⟩ | ⟨hσ,he⟩
 ·rw [mz] at hs
  rw [List.mem_singleton.mp hs] at hz
  omega
 ·obtain ⟨τ,rfl,_⟩:=qN hs
  exact xo hN he h.l2p hz
theorem qG {u e b x1 x2 y1 y2 p1 p2 q1 q2:Int} (x2p:0<x2) (y2p:0<y2) (p2p:0<p2) (q2p:0<q2) (hx:0<au [u,e,b,1] x1 x2) (hy:au [u,e,b,1] y1 y2<=0) (hp:0<au [u,e,b,-1] p1 p2) (hq:au [u,e,b,-1] q1 q2<=0):Two u e b ((x1:Rat)/(x2:Rat)) ((y1:Rat)/(y2:Rat)) ((p1:Rat)/(p2:Rat)) ((q1:Rat)/(q2:Rat)):=by
 rw [<- fJ _ x2p] at hx
 rw [<- fJ _ y2p] at hy
 rw [<- fJ _ p2p] at hp
 rw [<- fJ _ q2p] at hq
 have hy':=fun z=>(absurd (wg _ |>.mpr z) (Int.not_lt.mpr hy):False)
 have hq':=fun z=>(absurd (wj _ |>.mpr z) (Int.not_lt.mpr hq):False)
 refine ⟨(wg _).mp hx,?_,(wj _).mp hp,?_⟩
 ·generalize (b:Rat)*((y1:Rat)/(y2:Rat))-(u:Rat)=v at hy'
  refine ⟨Rat.not_lt.mp fun z=>hy' (.inl z),Rat.not_lt.mp fun z=>hy' (.inr z)⟩
 ·generalize (b:Rat)*((q1:Rat)/(q2:Rat))-(u:Rat)=v at hq'
  by_cases z:0<v
  ·exact .inl z
  ·exact .inr (Rat.not_lt.mp fun w=>hq' ⟨Rat.not_lt.mp z,w⟩)
theorem yr {s:List Int} (hs:Spt s) {B L:Int} (hB:1<=B) (hL:1<=L) (hb:au s B 1<0/\0<au s (-B) 1) {x1 x2 y1 y2:Int} (x2p:0<x2) (y2p:0<y2) (hx:0<au s x1 x2) (hy:au s y1 y2<=0) (hlt:x1*y2<y1*x2) (hw:(y1*x2-x1*y2)*(8*L*B)<=1*(x2*y2)) :
 Bd (2*(B:Rat)-1/2) ((x1:Rat)/(x2:Rat))/\Bd (2*(B:Rat)-1/2) ((y1:Rat)/(y2:Rat))/\(x1:Rat)/(x2:Rat)<(y1:Rat)/(y2:Rat)/\((y1:Rat)/(y2:Rat)-(x1:Rat)/(x2:Rat))*(8*((L:Rat)*(B:Rat)))<=1:=by
 have X2:(0:Rat)<(x2:Rat):=Rat.intCast_lt_intCast.mpr x2p
 have Y2:(0:Rat)<(y2:Rat):=Rat.intCast_lt_intCast.mpr y2p
 have e1:(x1:Rat)/(x2:Rat)*(x2:Rat)=(x1:Rat):=Rat.div_mul_cancel (Rat.ne_of_gt X2)
 have e2:(y1:Rat)/(y2:Rat)*(y2:Rat)=(y1:Rat):=Rat.div_mul_cancel (Rat.ne_of_gt Y2)
 have ltR:=(ib x2p y2p).mpr hlt
 have xB:x1<B*x2:=Int.not_le.mp fun z=>by
  have:=rR hs (t:=B) (n:=1) (t':=x1) (n':=x2) (by decide) x2p (by omega) (by omega)
  omega
 have yB : -B*y2<y1:=Int.not_le.mp fun z=>by
  have:=rR hs (t:=y1) (n:=y2) (t' := -B) (n':=1) y2p (by decide) (by omega) hy
  omega
 have cB:(1:Rat)<=(B:Rat):=Rat.intCast_le_intCast.mpr hB
 have cL:(1:Rat)<=(L:Rat):=Rat.intCast_le_intCast.mpr hL
 have xB':(x1:Rat)<(B:Rat)*(x2:Rat):=by rw [<- Rat.intCast_mul];exact Rat.intCast_lt_intCast.mpr xB
 have yB' : -(B:Rat)*(y2:Rat)<(y1:Rat):=by
  rw [<- Rat.intCast_neg,<- Rat.intCast_mul];exact Rat.intCast_lt_intCast.mpr yB
 have hw':((y1:Rat)*(x2:Rat)-(x1:Rat)*(y2:Rat))*(8*(L:Rat)*(B:Rat))<=(x2:Rat)*(y2:Rat):=by
  rw [Int.one_mul] at hw
  have:=Rat.intCast_le_intCast.mpr hw
  rw [Rat.intCast_mul,Rat.intCast_mul,Rat.intCast_mul,Rat.intCast_mul,Rat.intCast_sub,Rat.intCast_mul,Rat.intCast_mul] at this
  exact this
 generalize (x1:Rat)/(x2:Rat)=x at *
 generalize (y1:Rat)/(y2:Rat)=y at *
 rw [<- e1] at xB' hw'
 rw [<- e2] at yB' hw'
 have xb:x<(B:Rat):=sk X2 (by grind)
 have yb : -(B:Rat)<y:=sk Y2 (by grind)
 have M:=Rat.mul_pos X2 Y2
 have wd:(y-x)*(8*((L:Rat)*(B:Rat)))<=1:=by
  refine eo M ?_
  grind
 have LB:1<=(L:Rat)*(B:Rat):=by
  have:=Rat.mul_le_mul_of_nonneg_left cB (show 0<=(L:Rat) by grind)
  grind
 have w8:(y-x)*8<=1:=by
  have:=Rat.mul_le_mul_of_nonneg_left LB (show 0<=(y-x)*8 by grind)
  grind
 exact ⟨⟨by grind,by grind⟩,⟨by grind,by grind⟩,ltR,wd⟩
end RM
namespace RM
theorem wK:∀ e:Nat,∃ n:Nat,n*n<=e/\e<(n+1)*(n+1)
 | 0=>⟨0,by decide,by decide⟩
 | e+1=>by
   obtain ⟨n,h1,h2⟩:=wK e
   by_cases h:e+1<(n+1)*(n+1)
   ·exact ⟨n,by omega,h⟩
   ·refine ⟨n+1,by omega,?_⟩
    have e1:(n+1+1)*(n+1+1)=(n+1)*(n+1)+2*(n+1)+1:=by grind
    omega
theorem Fi {d:Int} (h:NSq d) (v:Int):NS (d*v*v):=by
 by_cases hv:v=0
 ·left;rw [hv];omega
 ·right
  have hp:0<d*v*v:=by
   rw [Int.mul_assoc]
   refine Int.mul_pos h.1 ?_
   rcases Int.lt_or_gt_of_ne hv with z | z
   ·exact Int.mul_pos_of_neg_of_neg z z
   ·exact Int.mul_pos z z
  obtain ⟨n,h1,h2⟩:=wK (d*v*v).toNat
  have h3:((n*n:Nat):Int)=(n:Int)*(n:Int):=Int.natCast_mul _ _
  have h4:(((n+1)*(n+1):Nat):Int)=((n:Int)+1)*((n:Int)+1):=by rw [Int.natCast_mul];rfl
  have ne:=h.2 (n:Int) v hv
  refine ⟨n,by omega,?_,?_⟩
  ·omega
  ·omega
def eU (v:Int):Int:=if v<0 then -1 else 1
theorem xk {u v w d x1 x2:Int} (hd:NSq d) (x2p:0<x2):0<au [u,d*v*v,w,eU v] x1 x2↔0<sgq (u*x2-x1*w) (v*x2) d:=by
 have eq:d*v*v*x2*x2=d*(v*x2)*(v*x2):=by grind
 have ne:v≠0->(u*x2-x1*w)*(u*x2-x1*w)≠d*(v*x2)*(v*x2):=fun hv=>hd.2 _ _ (Int.mul_ne_zero hv (by omega))
 unfold au eU
 by_cases hv:v<0
 ·rw [if_pos hv,if_neg (show ¬ (0:Int)<cf [u,d*v*v,w,-1] 3 from (by decide:¬ (0:Int) < -1))]
  show 0<0-aY (d*v*v*x2*x2) (0-(w*x1-u*x2))↔_
  rw [eq]
  have eA:0-(w*x1-u*x2)=u*x2-x1*w:=by grind
  rw [eA]
  have hvx:v*x2<0:=Int.mul_neg_of_neg_of_pos hv x2p
  have hne:=ne (by omega)
  generalize u*x2-x1*w=A at *
  generalize v*x2=B at *
  rcases Int.lt_or_le 0 A with z | z
  ·rw [o0 z hvx]
   rcases ca (d*B*B) A with ⟨c,h1⟩ | ⟨c,_,h1⟩ | ⟨c,_,h1⟩
   ·rw [c,if_pos (by omega)];omega
   ·exact absurd h1 hne
   ·rw [c,if_neg (by omega)];omega
  ·rw [g8 z (by omega) (.inr hvx)]
   rcases ca (d*B*B) A with ⟨c,h1⟩ | ⟨c,_,h1⟩ | ⟨c,h0,h1⟩
   ·rw [c];omega
   ·exact absurd h1 hne
   ·have:A=0:=by omega
    subst this
    have h5:0<d*B*B:=by rw [Int.mul_assoc];exact Int.mul_pos hd.1 (Int.mul_pos_of_neg_of_neg hvx hvx)
    omega
 ·rw [if_neg hv,if_pos (show (0:Int)<cf [u,d*v*v,w,1] 3 from (by decide:(0:Int)<1))]
  show 0<aY (d*v*v*x2*x2) (w*x1-u*x2)↔_
  rw [eq]
  have eA:w*x1-u*x2 = -(u*x2-x1*w):=by grind
  rw [eA]
  have hvx:0<=v*x2:=Int.mul_nonneg (by omega) (by omega)
  have hz:v=0->v*x2=0:=fun h=>by rw [h,Int.zero_mul]
  have hp:v≠0->0<v*x2:=fun h=>Int.mul_pos (by omega) x2p
  generalize u*x2-x1*w=A at *
  generalize v*x2=B at *
  have sqA : -A * -A=A*A:=by grind
  by_cases h0:v=0
  ·have hB:=hz h0
   subst hB
   have e0:d*0*0=0:=by omega
   rw [e0]
   rcases Int.lt_trichotomy A 0 with z | z | z
   ·rw [g8 (by omega) (Int.le_refl _) (.inl z)]
    rcases ca 0 (-A) with ⟨c,h1 | h1⟩ | ⟨c,_,h1⟩ | ⟨c,_,h1⟩
    ·omega
    ·have:=Int.mul_pos_of_neg_of_neg z z;omega
    ·rw [c];omega
    ·rw [c]
   ·subst z
    have a1:aY 0 (-0)=0:=by decide
    rw [a1,xt]
   ·rw [g7 (by omega) (Int.le_refl _) (.inl z)]
    unfold aY
    rw [if_pos (.inl (by omega))]
  ·have hB:=hp h0
   have hne:=ne h0
   have hpos:0<d*B*B:=by rw [Int.mul_assoc];exact Int.mul_pos hd.1 (Int.mul_pos hB hB)
   rcases Int.lt_or_le A 0 with z | z
   ·rw [o1 z hB]
    rcases ca (d*B*B) (-A) with ⟨c,h1 | h1⟩ | ⟨c,_,h1⟩ | ⟨c,_,h1⟩
    ·omega
    ·rw [c,if_neg (by omega)]
    ·exact absurd (by omega) hne
    ·rw [c,if_pos (by omega)]
   ·rw [g7 z (by omega) (.inr hB)]
    have:aY (d*B*B) (-A)=1:=by
     unfold aY
     rw [if_pos]
     rcases Int.lt_or_eq_of_le z with y | y
     ·exact .inl (by omega)
     ·right;rw [<- y];omega
    rw [this]
theorem Ad {l1 l2 h1 h2:Int}:∀ {ls:List (List Int)},(∀ x∈ls,¬ (0<au x l1 l2/\au x h1 h2<=0))->bC ls l1 l2 h1 h2=0
 | [],_=>rfl
 | l::ls,h=>by rw [cY,if_neg (h l (List.mem_cons_self ..)),Ad fun x hx=>h x (List.mem_cons_of_mem _ hx)];rfl
theorem Ag (l1 l2 h1 h2:Int):∀ a b:List (List Int),bC (a++b) l1 l2 h1 h2=bC a l1 l2 h1 h2+bC b l1 l2 h1 h2
 | [],b=>by rw [List.nil_append];show _=0+_;omega
 | x::a,b=>by rw [List.cons_append,cY,cY,Ag l1 l2 h1 h2 a b];omega
theorem wT (f:List Int) (fs:List (List Int)):aL (f::fs)=spF f++aL fs:=rfl
theorem DV {u v w d l1 l2 h1 h2:Int} {rs:List (List Int)} (hd:NSq d) (hF:Fam ([u,d*v*v,w]::rs)) (l2p:0<l2) (h2p:0<h2) (lt:l1*h2<h1*l2) (lo:0<sgq (u*l2-l1*w) (v*l2) d) (hi:¬ 0<sgq (u*h2-h1*w) (v*h2) d) (ol:0<v->u*l2<=l1*w) (oh:v<0->h1*w<=u*h2) (hno:∀ x∈aL rs,¬ (0<au x l1 l2/\au x h1 h2<=0)) :
 OneS ([u,d*v*v,w]::rs) [u,d*v*v,w] [u,d*v*v,w,eU v] l1 l2 h1 h2/\bC (aL ([u,d*v*v,w]::rs)) l1 l2 h1 h2=1:=by
 have lo':=(xk (u:=u) (v:=v) (w:=w) (d:=d) (x1:=l1) hd l2p).mpr lo
 have hi':au [u,d*v*v,w,eU v] h1 h2<=0:=Int.not_lt.mp fun z=>hi ((xk hd h2p).mp z)
 have key:eU v=1/\spF [u,d*v*v,w]=[[u,d*v*v,w,1]]/\v=0\/eU v=1/\spF [u,d*v*v,w]=[[u,d*v*v,w,1],[u,d*v*v,w,-1]]/\¬ (0<au [u,d*v*v,w,-1] l1 l2/\au [u,d*v*v,w,-1] h1 h2<=0)\/eU v = -1/\spF [u,d*v*v,w]=[[u,d*v*v,w,1],[u,d*v*v,w,-1]]/\¬ (0<au [u,d*v*v,w,1] l1 l2/\au [u,d*v*v,w,1] h1 h2<=0):=by
  by_cases hv:v=0
  ·left
   subst hv
   have e0:d*0*0=0:=by omega
   rw [e0]
   exact ⟨rfl,mz,rfl⟩
  ·have he:0<d*v*v:=by
    rw [Int.mul_assoc]
    refine Int.mul_pos hd.1 ?_
    rcases Int.lt_or_gt_of_ne hv with z | z
    ·exact Int.mul_pos_of_neg_of_neg z z
    ·exact Int.mul_pos z z
   right
   rcases Int.lt_or_gt_of_ne hv with z | z
   ·right
    refine ⟨by unfold eU;rw [if_pos z],mB he,fun hh=>?_⟩
    have h5:=oh z
    have:au [u,d*v*v,w,1] h1 h2=1:=by
     unfold au
     rw [if_pos (show (0:Int)<cf [u,d*v*v,w,1] 3 from (by decide:(0:Int)<1))]
     show aY (d*v*v*h2*h2) (w*h1-u*h2)=1
     unfold aY
     rw [if_pos]
     have e1:w*h1=h1*w:=Int.mul_comm _ _
     rcases Int.lt_or_eq_of_le h5 with y | y
     ·exact .inl (by omega)
     ·right
      have:w*h1-u*h2=0:=by omega
      rw [this,Int.zero_mul]
      exact Int.mul_pos (Int.mul_pos he h2p) h2p
    omega
   ·left
    refine ⟨by unfold eU;rw [if_neg (by omega)],mB he,fun hh=>?_⟩
    have h5:=ol z
    have:au [u,d*v*v,w,-1] l1 l2 = -1:=by
     unfold au
     rw [if_neg (show ¬ (0:Int)<cf [u,d*v*v,w,-1] 3 from (by decide:¬ (0:Int) < -1))]
     show 0-aY (d*v*v*l2*l2) (0-(w*l1-u*l2)) = -1
     have:aY (d*v*v*l2*l2) (0-(w*l1-u*l2))=1:=by
      unfold aY
      rw [if_pos]
      have e1:w*l1=l1*w:=Int.mul_comm _ _
      rcases Int.lt_or_eq_of_le h5 with y | y
      ·exact .inl (by omega)
      ·right
       have:0-(w*l1-u*l2)=0:=by omega
       rw [this,Int.zero_mul]
       exact Int.mul_pos (Int.mul_pos he l2p) l2p
     omega
    omega
 have c0:bC (aL rs) l1 l2 h1 h2=0:=Ad hno
 have e0:bC [] l1 l2 h1 h2=0:=rfl
 refine ⟨⟨hF,List.mem_cons_self ..,?_,l2p,h2p,lt,⟨lo',hi'⟩,fun s hs a b=>?_⟩,?_⟩
 ·rcases key with ⟨k1,k2,_⟩ | ⟨k1,k2,_⟩ | ⟨k1,k2,_⟩<;>rw [k1,k2]<;>simp
 ·rw [wT] at hs
  rcases List.mem_append.mp hs with z | z
  ·rcases key with ⟨k1,k2,_⟩ | ⟨k1,k2,k3⟩ | ⟨k1,k2,k3⟩
   ·rw [k2] at z;rw [k1];exact List.mem_singleton.mp z
   ·rw [k2] at z
    rw [k1]
    rcases List.mem_cons.mp z with y | y
    ·exact y
    ·rw [List.mem_singleton.mp y] at a b;exact absurd ⟨a,b⟩ k3
   ·rw [k2] at z
    rw [k1]
    rcases List.mem_cons.mp z with y | y
    ·rw [y] at a b;exact absurd ⟨a,b⟩ k3
    ·exact List.mem_singleton.mp y
  ·exact absurd ⟨a,b⟩ (hno s z)
 ·rw [wT,Ag,c0]
  rcases key with ⟨k1,k2,_⟩ | ⟨k1,k2,k3⟩ | ⟨k1,k2,k3⟩
  ·rw [k1] at lo' hi'
   rw [k2,cY,if_pos ⟨lo',hi'⟩,e0];rfl
  ·rw [k1] at lo' hi'
   rw [k2,cY,cY,if_pos ⟨lo',hi'⟩,if_neg k3,e0];rfl
  ·rw [k1] at lo' hi'
   rw [k2,cY,cY,if_neg k3,if_pos ⟨lo',hi'⟩,e0];rfl
end RM
open PySem.W in
local macro_rules | `(tactic| walk_at "comp_ok")=>`(tactic| exact ⟨by with_unfolding_all rfl,by decide +kernel,rfl,by decide +kernel,by repeat' (first | exact List.forall_mem_nil _ | refine List.forall_mem_cons.2 ⟨rfl,?_⟩),by rfl,by repeat' (first | exact .nil | refine .cons ⟨rfl,by first | exact Or.inl rfl | exact Or.inr rfl,rfl⟩ ?_)⟩)
namespace R42
open PySem L2 RM
def top (i:Nat):Stmt:=PySem.Challenge.pw_rootspan_k42_a_number_made.main.body.getD i (.Pass ⟨0,0,0,0⟩)
abbrev jT:Stmt:=top 10
abbrev jS:Stmt:=top 11
abbrev jI:Stmt:=top 12
abbrev kT:Stmt:=iH (top 13) 0
abbrev kP:Stmt:=iH (top 13) 1
abbrev kQ:Stmt:=iH (top 13) 2
abbrev kO:Stmt:=iH (top 13) 3
abbrev kS:Stmt:=iH (top 13) 5
abbrev kR:Stmt:=iH (top 13) 7
abbrev jZ:Stmt:=top 15
abbrev kj:Stmt:=top 16
abbrev ky:Stmt:=top 17
abbrev jL:Stmt:=top 18
abbrev ko:Stmt:=top 19
abbrev j6:Stmt:=top 20
abbrev jQ:Stmt:=top 21
abbrev g9:Stmt:=top 22
abbrev j1:Stmt:=top 23
abbrev jJ:Stmt:=top 24
abbrev jR:Stmt:=top 25
abbrev ki:Stmt:=top 27
abbrev jU:Stmt:=top 28
abbrev ka:Stmt:=top 29
abbrev jV:Stmt:=top 31
abbrev jW:Stmt:=top 32
abbrev kq:Stmt:=top 33
abbrev km:Stmt:=top 34
abbrev ku:Stmt:=top 36
abbrev kt:Stmt:=top 37
abbrev j8:Stmt:=top 38
abbrev j5:Stmt:=top 39
abbrev ke:Stmt:=top 40
abbrev jM:Stmt:=top 41
abbrev kf:Stmt:=top 42
abbrev jO:Stmt:=top 43
abbrev j7:Stmt:=top 44
abbrev kx:Stmt:=top 45
abbrev kh:Stmt:=top 47
abbrev kn:Stmt:=top 48
abbrev j2:Stmt:=top 49
abbrev jH:Stmt:=top 50
abbrev jP:Stmt:=top 52
abbrev kd:Stmt:=top 54
abbrev kg:Stmt:=top 55
abbrev kc:Stmt:=top 56
abbrev jN:Stmt:=top 57
abbrev jK:Stmt:=top 58
abbrev kU:Stmt:=iH (top 61) 0
abbrev j4:Stmt:=top 62
abbrev jX:Stmt:=top 63
abbrev jY:Stmt:=top 64
abbrev j9:Stmt:=top 65
abbrev j3:Stmt:=top 66
abbrev kL:Stmt:=top 68
abbrev kA:Stmt:=top 69
abbrev kK:Stmt:=top 70
abbrev kE:Stmt:=top 71
abbrev kF:Stmt:=top 72
abbrev kD:Stmt:=top 73
abbrev kM:Stmt:=top 74
abbrev kG:Stmt:=top 75
abbrev kI:Stmt:=top 76
abbrev kB:Stmt:=top 77
abbrev kJ:Stmt:=top 78
abbrev kN:Stmt:=top 79
abbrev kz:Stmt:=top 80
abbrev kC:Stmt:=top 81
abbrev kH:Stmt:=top 82
abbrev fK:Stmt:=top 83
theorem sc_shared:FnScope ["row","divisor","value"] ["row"] (ak jT):=⟨rfl,rfl,rfl,by decide +kernel,rfl,by decide +kernel,by decide +kernel⟩
theorem sc_shared_by_two:FnScope ["one","other","greater","less","rest"] ["one","other"] (ak jS):=⟨rfl,rfl,rfl,by decide +kernel,rfl,by decide +kernel,by decide +kernel⟩
theorem Ci:FnScope ["value"] ["value"] (ak jI):=⟨rfl,rfl,rfl,by decide +kernel,rfl,by decide +kernel,by decide +kernel⟩
theorem sc_Ratio___init__:FnScope ["self","top","bottom","divisor"] ["self","top","bottom"] (ak kT):=⟨rfl,rfl,rfl,by decide +kernel,rfl,by decide +kernel,by decide +kernel⟩
theorem CF:FnScope ["self","other"] ["self","other"] (ak kP):=⟨rfl,rfl,rfl,by decide +kernel,rfl,by decide +kernel,by decide +kernel⟩
theorem CG:FnScope ["self","other"] ["self","other"] (ak kQ):=⟨rfl,rfl,rfl,by decide +kernel,rfl,by decide +kernel,by decide +kernel⟩
theorem CD:FnScope ["self","other"] ["self","other"] (ak kO):=⟨rfl,rfl,rfl,by decide +kernel,rfl,by decide +kernel,by decide +kernel⟩
theorem CI:FnScope ["self","other"] ["self","other"] (ak kS):=⟨rfl,rfl,rfl,by decide +kernel,rfl,by decide +kernel,by decide +kernel⟩
theorem CH:FnScope ["self"] ["self"] (ak kR):=⟨rfl,rfl,rfl,by decide +kernel,rfl,by decide +kernel,by decide +kernel⟩
theorem sc_poly:FnScope ["row","length"] ["row"] (ak jZ):=⟨rfl,rfl,rfl,by decide +kernel,rfl,by decide +kernel,by decide +kernel⟩
theorem Ct:FnScope ["row"] ["row"] (ak kj):=⟨rfl,rfl,rfl,by decide +kernel,rfl,by decide +kernel,by decide +kernel⟩
theorem sc_added:FnScope ["first","second","length"] ["first","second"] (ak ky):=⟨rfl,rfl,rfl,by decide +kernel,rfl,by decide +kernel,by decide +kernel⟩
theorem sc_taken:FnScope ["first","second","length"] ["first","second"] (ak jL):=⟨rfl,rfl,rfl,by decide +kernel,rfl,by decide +kernel,by decide +kernel⟩
theorem Cv:FnScope ["row","place"] ["row","place"] (ak ko):=⟨rfl,rfl,rfl,by decide +kernel,rfl,by decide +kernel,by decide +kernel⟩
theorem sc_multiplied:FnScope ["first","second","product","j","one","k","other"] ["first","second"] (ak j6):=⟨rfl,rfl,rfl,by decide +kernel,rfl,by decide +kernel,by decide +kernel⟩
theorem Ck:FnScope ["row"] ["row"] (ak jQ):=⟨rfl,rfl,rfl,by decide +kernel,rfl,by decide +kernel,by decide +kernel⟩
theorem sc_shrunk:FnScope ["row","divisor"] ["row"] (ak g9):=⟨rfl,rfl,rfl,by decide +kernel,rfl,by decide +kernel,by decide +kernel⟩
theorem sc_plain:FnScope ["row","small"] ["row"] (ak j1):=⟨rfl,rfl,rfl,by decide +kernel,rfl,by decide +kernel,by decide +kernel⟩
theorem sc_value_parts:FnScope ["row","top","bottom","above","below","value"] ["row","top","bottom"] (ak jJ):=⟨rfl,rfl,rfl,by decide +kernel,rfl,by decide +kernel,by decide +kernel⟩
theorem Cl:FnScope ["row","ratio"] ["row","ratio"] (ak jR):=⟨rfl,rfl,rfl,by decide +kernel,rfl,by decide +kernel,by decide +kernel⟩
theorem sc_divided:FnScope ["first","second","size","sign","steps","factor","quotient","rest","place","lead"] ["first","second"] (ak ki):=⟨rfl,rfl,rfl,by decide +kernel,rfl,by decide +kernel,by decide +kernel⟩
theorem Cm:FnScope ["row","factor"] ["row","factor"] (ak jU):=⟨rfl,rfl,rfl,by decide +kernel,rfl,by decide +kernel,by decide +kernel⟩
theorem sc_lowered:FnScope ["row","second","place","lead","kept","k","value"] ["row","second","place","lead"] (ak ka):=⟨rfl,rfl,rfl,by decide +kernel,rfl,by decide +kernel,by decide +kernel⟩
theorem Cn:FnScope ["polynomial"] ["polynomial"] (ak jV):=⟨rfl,rfl,rfl,by decide +kernel,rfl,by decide +kernel,by decide +kernel⟩
theorem sc_row_from:FnScope ["first","second","row","one","other","rest"] ["first","second"] (ak jW):=⟨rfl,rfl,rfl,by decide +kernel,rfl,by decide +kernel,by decide +kernel⟩
theorem sc_changes:FnScope ["row","ratio","many","before","polynomial","sign"] ["row","ratio"] (ak kq):=⟨rfl,rfl,rfl,by decide +kernel,rfl,by decide +kernel,by decide +kernel⟩
theorem Cu:FnScope ["row","low","high"] ["row","low","high"] (ak km):=⟨rfl,rfl,rfl,by decide +kernel,rfl,by decide +kernel,by decide +kernel⟩
theorem sc_bound:FnScope ["row","last","greatest","size"] ["row"] (ak ku):=⟨rfl,rfl,rfl,by decide +kernel,rfl,by decide +kernel,by decide +kernel⟩
theorem sc_cells:FnScope ["row","chain","high","low","waiting","found","cell","many","cut","there"] ["row"] (ak kt):=⟨rfl,rfl,rfl,by decide +kernel,rfl,by decide +kernel,by decide +kernel⟩
theorem Cp:FnScope ["low","high"] ["low","high"] (ak j8):=⟨rfl,rfl,rfl,by decide +kernel,rfl,by decide +kernel,by decide +kernel⟩
theorem sc_narrowed:FnScope ["row","low","high","width","reach","steps","found"] ["row","low","high","width"] (ak j5):=⟨rfl,rfl,rfl,by decide +kernel,rfl,by decide +kernel,by decide +kernel⟩
theorem sc_halvings:FnScope ["reach","width","wide","goal","steps"] ["reach","width"] (ak ke):=⟨rfl,rfl,rfl,by decide +kernel,rfl,by decide +kernel,by decide +kernel⟩
theorem sc_stretched:FnScope ["row","low","reach","bottom","start","step","found","power","value"] ["row","low","reach"] (ak jM):=⟨rfl,rfl,rfl,by decide +kernel,rfl,by decide +kernel,by decide +kernel⟩
theorem sc_halved:FnScope ["row","end","steps","place","pieces","ahead","left","k","there"] ["row","end","steps"] (ak kf):=⟨rfl,rfl,rfl,by decide +kernel,rfl,by decide +kernel,by decide +kernel⟩
theorem sc_spread:FnScope ["row","found","factor","value"] ["row"] (ak jO):=⟨rfl,rfl,rfl,by decide +kernel,rfl,by decide +kernel,by decide +kernel⟩
theorem sc_moved:FnScope ["row","found","start","k"] ["row"] (ak j7):=⟨rfl,rfl,rfl,by decide +kernel,rfl,by decide +kernel,by decide +kernel⟩
theorem Cw:FnScope ["low","reach","place","pieces"] ["low","reach","place","pieces"] (ak kx):=⟨rfl,rfl,rfl,by decide +kernel,rfl,by decide +kernel,by decide +kernel⟩
theorem Cs:FnScope ["divisor","row"] ["divisor","row"] (ak kh):=⟨rfl,rfl,rfl,by decide +kernel,rfl,by decide +kernel,by decide +kernel⟩
theorem sc_common:FnScope ["first","second","one","other","rest"] ["first","second"] (ak kn):=⟨rfl,rfl,rfl,by decide +kernel,rfl,by decide +kernel,by decide +kernel⟩
theorem sc_part:FnScope ["row","divisor","found"] ["row","divisor"] (ak j2):=⟨rfl,rfl,rfl,by decide +kernel,rfl,by decide +kernel,by decide +kernel⟩
theorem Ch:FnScope ["row"] ["row"] (ak jH):=⟨rfl,rfl,rfl,by decide +kernel,rfl,by decide +kernel,by decide +kernel⟩
theorem sc_span_product:FnScope ["first","second","least","greatest","found"] ["first","second"] (ak jP):=⟨rfl,rfl,rfl,by decide +kernel,rfl,by decide +kernel,by decide +kernel⟩
theorem sc_least:FnScope ["row","low","high","whole","width","span","line","cell","square"] ["row","low","high"] (ak kd):=⟨rfl,rfl,rfl,by decide +kernel,rfl,by decide +kernel,by decide +kernel⟩
theorem Cr:FnScope ["whole"] ["whole"] (ak kg):=⟨rfl,rfl,rfl,by decide +kernel,rfl,by decide +kernel,by decide +kernel⟩
theorem sc_line_of:FnScope ["whole","span","found"] ["whole","span"] (ak kc):=⟨rfl,rfl,rfl,by decide +kernel,rfl,by decide +kernel,by decide +kernel⟩
theorem sc_square_of:FnScope ["whole","span","other","last","together"] ["whole","span","other"] (ak jN):=⟨rfl,rfl,rfl,by decide +kernel,rfl,by decide +kernel,by decide +kernel⟩
theorem Cj:FnScope ["factor","ratio"] ["factor","ratio"] (ak jK):=⟨rfl,rfl,rfl,by decide +kernel,rfl,by decide +kernel,by decide +kernel⟩
theorem CJ:FnScope ["self","row","low","high"] ["self","row","low","high"] (ak kU):=⟨rfl,rfl,rfl,by decide +kernel,rfl,by decide +kernel,by decide +kernel⟩
theorem sc_number:FnScope ["row","low","high","start","end","simple","many"] ["row","low","high"] (ak j4):=⟨rfl,rfl,rfl,by decide +kernel,rfl,by decide +kernel,by decide +kernel⟩
theorem Co:FnScope ["height"] ["height"] (ak jX):=⟨rfl,rfl,rfl,by decide +kernel,rfl,by decide +kernel,by decide +kernel⟩
theorem sc_refuse_great:FnScope ["row","limit"] ["row"] (ak jY):=⟨rfl,rfl,rfl,by decide +kernel,rfl,by decide +kernel,by decide +kernel⟩
theorem Cq:FnScope ["simple","low","high"] ["simple","low","high"] (ak j9):=⟨rfl,rfl,rfl,by decide +kernel,rfl,by decide +kernel,by decide +kernel⟩
theorem sc_number_in:FnScope ["simple","low","high","row","span","half"] ["simple","low","high"] (ak j3):=⟨rfl,rfl,rfl,by decide +kernel,rfl,by decide +kernel,by decide +kernel⟩
theorem CB:FnScope ["_law_script","_law_k"] ["_law_script","_law_k"] (ak kL):=⟨rfl,rfl,rfl,by decide +kernel,rfl,by decide +kernel,by decide +kernel⟩
theorem Cy:FnScope ["_law_found"] ["_law_found"] (ak kA):=⟨rfl,rfl,rfl,by decide +kernel,rfl,by decide +kernel,by decide +kernel⟩
theorem sc__law_divisor:FnScope ["_law_one","_law_other","_law_rest"] ["_law_one","_law_other"] (ak kK):=⟨rfl,rfl,rfl,by decide +kernel,rfl,by decide +kernel,by decide +kernel⟩
theorem CA:FnScope ["_law_found"] ["_law_found"] (ak kE):=⟨rfl,rfl,rfl,by decide +kernel,rfl,by decide +kernel,by decide +kernel⟩
theorem sc__law_poly:FnScope ["_law_found","_law_one"] ["_law_found"] (ak kF):=⟨rfl,rfl,rfl,by decide +kernel,rfl,by decide +kernel,by decide +kernel⟩
theorem Cz:FnScope ["_law_u","_law_v","_law_d"] ["_law_u","_law_v","_law_d"] (ak kD):=⟨rfl,rfl,rfl,by decide +kernel,rfl,by decide +kernel,by decide +kernel⟩
theorem sc__law_beside:FnScope ["_law_worth_here","_law_r","_law_u","_law_v","_law_w","_law_d"] ["_law_worth_here","_law_r"] (ak kM):=⟨rfl,rfl,rfl,by decide +kernel,rfl,by decide +kernel,by decide +kernel⟩
theorem sc__law_plain:FnScope ["_law_row","_law_by","_law_one"] ["_law_row"] (ak kG):=⟨rfl,rfl,rfl,by decide +kernel,rfl,by decide +kernel,by decide +kernel⟩
theorem sc__law_least:FnScope ["_law_worth_here","_law_u","_law_v","_law_w","_law_d"] ["_law_worth_here"] (ak kI):=⟨rfl,rfl,rfl,by decide +kernel,rfl,by decide +kernel,by decide +kernel⟩
theorem sc__law_times:FnScope ["_law_one","_law_other","_law_found","_law_k","_law_j"] ["_law_one","_law_other"] (ak kB):=⟨rfl,rfl,rfl,by decide +kernel,rfl,by decide +kernel,by decide +kernel⟩
theorem sc__law_is:FnScope ["_law_found","_law_worth_here","_law_due","_law_u","_law_v","_law_w","_law_d","_law_other"] ["_law_found","_law_worth_here","_law_due"] (ak kJ):=⟨rfl,rfl,rfl,by decide +kernel,rfl,by decide +kernel,by decide +kernel⟩
theorem CC:FnScope ["_law_cell"] ["_law_cell"] (ak kN):=⟨rfl,rfl,rfl,by decide +kernel,rfl,by decide +kernel,by decide +kernel⟩
theorem sc__law_worth:FnScope ["_law_script","_law_k","_law_v","_law_cell"] ["_law_script","_law_k"] (ak kz):=⟨rfl,rfl,rfl,by decide +kernel,rfl,by decide +kernel,by decide +kernel⟩
theorem sc__law_span:FnScope ["_law_worth_here","_law_more","_law_u","_law_v","_law_w","_law_d"] ["_law_worth_here","_law_more"] (ak kC):=⟨rfl,rfl,rfl,by decide +kernel,rfl,by decide +kernel,by decide +kernel⟩
theorem sc__law_padded:FnScope ["_law_worth_here","_law_span_here","_law_cell","_law_u","_law_v","_law_w","_law_d","_law_found","_law_far"] ["_law_worth_here","_law_span_here","_law_cell"] (ak kH):=⟨rfl,rfl,rfl,by decide +kernel,rfl,by decide +kernel,by decide +kernel⟩
theorem sc_law:FnScope ["_law_script","_law_worth_here","_law_span_here","_law_kp","_law_handed","_law_found"] ["_law_script"] (ak fK):=⟨rfl,rfl,rfl,by decide +kernel,rfl,by decide +kernel,by decide +kernel⟩
structure Txt (K:PySem.W.Frag) (mg:Str->Option Value):Prop where
 abs_:mg "abs"=none
 len_:mg "len"=none
 max_:mg "max"=none
 range_:mg "range"=none
 enumerate_:mg "enumerate"=none
 reversed_:mg "reversed"=none
 list_:mg "list"=none
 sum_:mg "sum"=none
 any_:mg "any"=none
 isinstance_:mg "isinstance"=none
 int_:mg "int"=none
 bool_:mg "bool"=none
 HIGHEST_:∃ t:Tok,mg "HIGHEST"=some (.int 8 t)
def oP (K:PySem.W.Frag):Sp:=fun vs H Q _=>∃ (a:Addr) (ns:List Int),vs=[.ref a]/\SqL K H a (ns.map V.int)/\ns.length<=63/\∀ H',Q (.bl true) H'
section
variable {P:Program} {w:World} {K:PySem.W.Frag} {mg:Str->Option Value} {base:Heap}
theorem se (n:Nat):(List.replicate n [V.int 0]).flatten=(List.replicate n (0:Int)).map V.int:=by
 induction n with
 | zero=>rfl
 | succ n ih=>rw [List.replicate_succ,List.flatten_cons,ih,List.replicate_succ];rfl
theorem lJ {n j:Nat} {i:Int} (e:i=j) (h:j<n):ixN n i=some j:=by
 subst e;unfold ixN;rw [if_pos (Int.natCast_nonneg _),if_pos (by omega)];simp
theorem pJ (l:List Int) (j:Nat) (x:Int):(l.map V.int).set j (.int x)=(l.set j x).map V.int:=by rw [List.map_set]
theorem ma {l:List Int} {j:Nat} {i:Int} (e:i=j) (h:j<l.length):atI (l.map V.int) i=some (.int (cf l j)):=by
 subst e
 exact md (by rw [List.getElem?_map,iI h];rfl)
def SameB (p:Addr) (H H':Hp):Prop:=∀ b o,b≠p->H b=some o->H' b=some o
theorem SameB.refl (p:Addr) (H:Hp):SameB p H H:=fun _ _ _ h=>h
theorem SameB.then_new {p q:Addr} {H H1:Hp} {o:HO} (s:SameB p H H1) (h:H1 q=none):SameB p H (upd H1 q o):=fun b u n e=>by
 rw [upd_ne (aZ (s b u n e) h)];exact s b u n e
theorem SameB.then_upd {p:Addr} {H H1:Hp} {o:HO} (s:SameB p H H1):SameB p H (upd H1 p o):=fun b u n e=>by
 rw [upd_ne n];exact s b u n e
def AllB (k:Nat) (l:List Int):Prop:=∀ x∈l,Bits k x
theorem AllB.cf {k:Nat} {l:List Int} (h:AllB k l) (n:Nat):Bits k (cf l n):=by
 by_cases hn:n<l.length
 ·rw [dQ hn];exact h _ (List.getElem_mem hn)
 ·rw [cC (Nat.le_of_not_lt hn)];exact Bits.zero
theorem fQ {H H2:Hp} {p:Addr} {o:HO} (s:Same H H2) (hp:H p=none):Same H (upd H2 p o):=fun b u e=>by rw [upd_ne (aZ e hp)];exact s b u e
theorem FC (l:List Int) (x:Int):l.map V.int++[V.int x]=(l++[x]).map V.int:=by rw [List.map_append];rfl
def gP (ms:List Int) (lo hi:Option Int):List Int:=(ms.drop (HT.sIx ms.length 0 lo)).take (HT.sIx ms.length ms.length hi-HT.sIx ms.length 0 lo)
theorem uW (ms:List Int) (lo hi:Option Int):gO (ms.map V.int) lo hi=(gP ms lo hi).map V.int:=by
 unfold gO gP
 rw [List.length_map,<- List.map_drop,<- List.map_take]
theorem JJ {ms:List Int} {lo hi:Option Int} {x:Int} (h:x∈gP ms lo hi):x∈ms:=List.mem_of_mem_drop (List.mem_of_mem_take h)
theorem AllB.cut {k:Nat} {ms:List Int} {lo hi:Option Int} (h:AllB k ms):AllB k (gP ms lo hi):=fun x hx=>h x (JJ hx)
theorem AllB.app {k:Nat} {l r:List Int} (h1:AllB k l) (h2:AllB k r):AllB k (l++r):=fun x hx=>(List.mem_append.mp hx).elim (h1 x) (h2 x)
theorem AllB.zeros {k n:Nat}:AllB k (List.replicate n 0):=fun x hx=>by rw [List.eq_of_mem_replicate hx];exact Bits.zero
theorem AllB.mono {j k:Nat} {l:List Int} (h:AllB j l) (hk:j<=k:=by decide):AllB k l:=fun x hx=>(h x hx).mono hk
theorem AllB.nil {k:Nat}:AllB k []:=fun _ h=>nomatch h
theorem AllB.snoc {k:Nat} {l:List Int} {x:Int} (h:AllB k l) (hx:Bits k x):AllB k (l++[x]):=h.app fun y hy=>by rw [List.mem_singleton.mp hy];exact hx
theorem Fx {l:List Int} {x:Int} (h:x∈trim l):x∈l:=by
 unfold trim at h
 rw [List.mem_reverse] at h
 exact List.mem_reverse.mp ((List.dropWhile_sublist _).subset h)
theorem AllB.trim {k:Nat} {l:List Int} (h:AllB k l):AllB k (trim l):=fun x hx=>h x (Fx hx)
theorem ga {l:List Int} {i:Nat} {x:V} (h:(l.map V.int)[i]?=some x):∃ c,l[i]?=some c/\x=.int c/\c∈l/\l.take (i+1)=l.take i++[c]:=by
 rw [List.getElem?_map] at h
 cases e:l[i]? with
 | none=>rw [e] at h;cases h
 | some c=>rw [e] at h;exact ⟨c,rfl,(Option.some.inj h).symm,List.mem_of_getElem? e,by rw [List.take_add_one,e];rfl⟩
def mkL (H:Hp) (Q:VK) (r:List Int):Prop:=∀ (p:Addr) (H':Hp),Same H H'->H p=none->H' p=some (.lst (r.map V.int))->Q (.ref p) H'
def jz (K:PySem.W.Frag):Sp:=fun vs H Q _=>∃ (a:Addr) (ns:List Int),vs=[.ref a]/\SqL K H a (ns.map V.int)/\mkL H Q (trim ns)
def gw (K:PySem.W.Frag):Sp:=fun vs H Q _=>∃ (a:Addr) (ns:List Int) (k:Nat),vs=[.ref a,.int k]/\SqL K H a (ns.map V.int)/\Q (.int (ns.getD k 0)) H
def jF (K:PySem.W.Frag) (g:List Int->List Int->List Int):Sp:=fun vs H Q _=>∃ (a b:Addr) (xs ys:List Int),vs=[.ref a,.ref b]/\SqL K H a (xs.map V.int)/\SqL K H b (ys.map V.int)/\xs.length<=1000000/\ys.length<=1000000/\mkL H Q (g xs ys)
theorem yN (i j:Nat):(if ((j:Nat):Int)>((i:Nat):Int) then ((j:Nat):Int) else ((i:Nat):Int))=((max i j:Nat):Int):=by split<;>omega
theorem oU {n:Nat} (h:n<=sizeLine) : -(2^62)<=((n:Nat):Int)/\((n:Nat):Int)<2^62:=by have:=sizeLine_eq;omega
def RwH (H:Hp) (ps:List Addr) (xss:List (List Int)):Prop:=ps.length=xss.length/\∀ (i:Nat) (p:Addr) (xs:List Int),ps[i]?=some p->xss[i]?=some xs->H p=some (.lst (xs.map V.int))
theorem RwH.nil {H:Hp}:RwH H [] []:=⟨rfl,fun i p xs h=>by simp at h⟩
theorem RwH.same {H H':Hp} {ps:List Addr} {xss:List (List Int)} (h:RwH H ps xss) (s:Same H H'):RwH H' ps xss:=⟨h.1,fun i p xs a b=>s _ _ (h.2 i p xs a b)⟩
theorem RwH.snoc {H:Hp} {ps:List Addr} {xss:List (List Int)} {p:Addr} {xs:List Int} (h:RwH H ps xss) (hp:H p=some (.lst (xs.map V.int))):RwH H (ps++[p]) (xss++[xs]):=by
 refine ⟨by rw [List.length_append,List.length_append,h.1];rfl,fun i q ys a b=>?_⟩
 by_cases hi:i<ps.length
 ·rw [List.getElem?_append_left hi] at a
  rw [List.getElem?_append_left (by rw [<- h.1];exact hi)] at b
  exact h.2 i q ys a b
 ·rw [List.getElem?_append_right (by omega)] at a
  rw [List.getElem?_append_right (by rw [<- h.1];omega),<- h.1] at b
  by_cases h0:i-ps.length=0
  ·rw [h0] at a b
   obtain rfl:p=q:=by simpa using a
   obtain rfl:xs=ys:=by simpa using b
   exact hp
  ·rw [List.getElem?_eq_none_iff.mpr (by simp;omega)] at a
   cases a
theorem RwH.get {H:Hp} {ps:List Addr} {xss:List (List Int)} {i:Nat} (h:RwH H ps xss) (hi:i<xss.length):∃ p,ps[i]?=some p/\H p=some (.lst ((xss.getD i []).map V.int)):=by
 have hi':i<ps.length:=by rw [h.1];exact hi
 refine ⟨ps[i],List.getElem?_eq_getElem hi',h.2 i _ _ (List.getElem?_eq_getElem hi') ?_⟩
 rw [List.getElem?_eq_getElem hi];simp [List.getD,hi]
theorem RwH.of_get {H:Hp} {ps:List Addr} {xss:List (List Int)} {i:Nat} {x:V} (h:RwH H ps xss) (hx:(ps.map V.ref)[i]?=some x):∃ p xs,x=.ref p/\ps[i]?=some p/\xss[i]?=some xs/\H p=some (.lst (xs.map V.int))/\i<xss.length:=by
 rw [List.getElem?_map] at hx
 cases e:ps[i]? with
 | none=>rw [e] at hx;cases hx
 | some p =>
   rw [e] at hx
   have hi:i<ps.length:=(List.getElem?_eq_some_iff.mp e).1
   have hi':i<xss.length:=by rw [<- h.1];exact hi
   exact ⟨p,xss[i],(Option.some.inj hx).symm,rfl,List.getElem?_eq_getElem hi',h.2 i p _ e (List.getElem?_eq_getElem hi'),hi'⟩
theorem FD (ps:List Addr) (p:Addr):ps.map V.ref++[V.ref p]=(ps++[p]).map V.ref:=by rw [List.map_append];rfl
def sp2:Sp:=fun vs H Q _=>∃ a b:Int,vs=[.int a,.int b]/\Q (.int (Nat.gcd a.natAbs b.natAbs:Nat)) H
theorem oe (i:Int):(if i<0 then -i else i)=(i.natAbs:Int):=by split<;>omega
theorem Ea {f:Addr} {fd:FuncData} (F:Fun K "shared_by_two" "shared_by_two" jS f fd) (T:Txt K mg):FnOk P w K mg base CX0 1 f fd ["one","other"] sp2:=by
 refine F.ok sc_shared_by_two (fun vs H Q E h=>?_) (fun cdv A outer s H vs Q E hr h=>?_)
 ·obtain ⟨a,b,rfl,_⟩:=h
  rfl
 ·obtain ⟨a,b,rfl,k⟩:=h
  refine ⟨_,(ah (ap (i:=2) sc_shared_by_two.nd rfl (Or.inl rfl) (bH fz (by rfl) T.abs_ PyProof.Rows.boot_abs (aa (pv 0) ac)))
   (ah (ap (i:=3) sc_shared_by_two.nd rfl (Or.inl rfl) (bH fz (by rfl) T.abs_ PyProof.Rows.boot_abs (aa (pv 1) ac)))
   (ah (fN PassesOwn.never (aM ll (pv 3) af (aH _))
     (ah (ap (i:=4) sc_shared_by_two.nd rfl (Or.inl rfl) (aj cV (pv 2) (pv 3)))
       (ah (ap (i:=2) sc_shared_by_two.nd rfl (Or.inl rfl) (pv 3))
       (ao (ap (i:=3) sc_shared_by_two.nd rfl (Or.inl rfl) (pv 4))))))
   (ao (aC (pv 2)))))),?_⟩
  refine ⟨_,rfl,_,rfl,?_⟩
  refine ⟨_,rfl,_,rfl,?_⟩
  refine ⟨fun m σ' H'=>∃ (x y:Int) (z:Option V),σ'=[some (.int a),some (.int b),some (.int x),some (.int y),z]/\H=H'/\0<=x/\0<=y/\y.natAbs=m/\Nat.gcd x.natAbs y.natAbs=Nat.gcd a.natAbs b.natAbs,⟨_,_,_,none,rfl,rfl,?_,?_,rfl,?_⟩,?_⟩
  ·rw [oe];exact Int.natCast_nonneg _
  ·rw [oe];exact Int.natCast_nonneg _
  ·rw [oe,oe,Int.natAbs_natCast,Int.natAbs_natCast]
  ·rintro m σ' H' ⟨x,y,z,rfl,rfl,hx,hy,rfl,hg⟩
   refine ⟨_,rfl,_,_,rfl,rfl,_,rfl,?_⟩
   refine cZ (fun hn=>?_) (fun h0=>?_)
   ·have hp:0<y:=by have:y≠0:=hn;omega
    refine ⟨fun σ'' H''=>∃ m',m'<y.natAbs/\∃ (x' y':Int) (z:Option V),σ''=[some (.int a),some (.int b),some (.int x'),some (.int y'),z]/\H=H''/\0<=x'/\0<=y'/\y'.natAbs=m'/\Nat.gcd x'.natAbs y'.natAbs=Nat.gcd a.natAbs b.natAbs,fun _ _ h=>h,?_⟩
    refine ⟨_,rfl,_,rfl,_,_,rfl,rfl,hp,?_⟩
    refine ⟨_,rfl,?_⟩
    refine ⟨_,rfl,?_⟩
    have h1:=Int.emod_nonneg x (Int.ne_of_gt hp)
    have h2:=Int.emod_lt_of_pos x hp
    exact ⟨(x%y).natAbs,by omega,y,x%y,_,rfl,rfl,hy,h1,rfl,by rw [zu hx hp];exact hg⟩
   ·refine ⟨_,rfl,?_⟩
    have e:(y:Int)=0:=h0
    subst e
    have e2:(x:Int)=((Nat.gcd a.natAbs b.natAbs:Nat):Int):=by
     rw [<- hg]
     show x=((Nat.gcd x.natAbs 0:Nat):Int)
     rw [Nat.gcd_zero_right];omega
    rw [e2]
    exact k
def oJ (K:PySem.W.Frag):Sp:=fun vs H Q _=>∃ (a:Addr) (ns:List Int),vs=[.ref a]/\SqL K H a (ns.map V.int)/\Q (.int (aA ns:Nat)) H
theorem Eb {f:Addr} {fd:FuncData} (F:Fun K "shared" "shared" jT f fd) (T:Txt K mg) {uD:Addr} {uf:FuncData} (vO:Cal P w K mg base 1 "shared_by_two" ["one","other"] sp2 uD uf):FnOk P w K mg base CX0 2 f fd ["row"] (oJ K):=by
 obtain ⟨vD,tj,tK,vi⟩:=vO
 refine F.ok sc_shared (fun vs H Q E h=>?_) (fun cdv A outer s H vs Q E hr h=>?_)
 ·obtain ⟨a,ns,rfl,_⟩:=h
  rfl
 ·obtain ⟨a,ns,rfl,hS,k⟩:=h
  refine ⟨_,(ah (ap (i:=1) sc_shared.nd rfl (Or.inl rfl) af)
   (ah (cR PassesOwn.never rfl (dY (K:=K) rfl (pv 0)) (aT (i:=2) sc_shared.nd rfl (Or.inl rfl))
     (ao (ap (i:=1) sc_shared.nd rfl (Or.inl rfl) (aq vD (hr.mono) rfl tj tK vi .nil ai (aa (pv 1) (aa (pv 2) ac))))))
   (ao (aC (pv 1))))),?_⟩
  refine ⟨_,rfl,a,rfl,⟨_,hS⟩,nC (K:=K) (a:=a) (xs:=ns.map V.int) (fun i σ' H'=>∃ z:Option V,σ'=[some (.ref a),some (.int (aA (ns.take i):Nat)),z]/\H=H') ⟨none,rfl,rfl⟩ (fun i σ' H' _ ⟨z,_,e⟩=>by rw [<- e];exact hS) ?_ ?_⟩
  ·rintro i y σ' H' hi ⟨z,rfl,rfl⟩
   rw [List.getElem?_map] at hi
   cases e:ns[i]? with
   | none=>rw [e] at hi;cases hi
   | some n =>
     rw [e] at hi
     obtain rfl:=Option.some.inj hi
     refine ⟨_,rfl,_,rfl,_,_,rfl,?_⟩
     have e3:ns.take (i+1)=ns.take i++[n]:=by rw [List.take_add_one,e];rfl
     refine ⟨some (.int n),?_,rfl⟩
     rw [e3,zv,Int.natAbs_natCast]
     rfl
  ·rintro σ' H' ⟨z,rfl,rfl⟩
   refine ⟨_,rfl,?_⟩
   rw [List.length_map,List.take_length]
   exact k
def gb (t b:Int):List (Str×V):=cK "bottom" (.int b) (cK "top" (.int t) [])
theorem Bv:¬ (("top":Str)="bottom"):=by decide +kernel
theorem bQ (t b:Int):(gb t b).lookup ("bottom":Str)=some (.int b):=by
 unfold gb;rw [dL,if_pos rfl]
theorem cM (t b:Int):(gb t b).lookup ("top":Str)=some (.int t):=by
 unfold gb;rw [dL,if_neg Bv,dL,if_pos rfl]
theorem dG (t b:Int) {m:Str} (h1:¬ m="bottom") (h2:¬ m="top"):(gb t b).lookup m=none:=by
 unfold gb;rw [dL,if_neg h1,dL,if_neg h2];rfl
structure RCI (K:PySem.W.Frag) (mg:Str->Option Value) (C:Addr):Prop where
 cl:Cls K C
 nT:NoAttr K C "top"
 nB:NoAttr K C "bottom"
 mg:mg "Ratio"=some (.ref C)
 ha:PySem.W.findIn K (.ref C) "__class__"=some (some (.builtin "object.__class__"))
 hn:PySem.W.specialIn K (.builtin "object.__class__") "__get__"=some (some (.builtin "getset_descriptor.__get__"))
 ht:PySem.W.takesIn K (.builtin "object.__class__")=some true
 hm:PySem.W.mroIn K C (.type "object")=some true
def RA (C:Addr) (H:Hp) (p:Addr) (t b:Int):Prop:=∃ dx,H p=some (.ins C dx (gb t b))
theorem RA.same {C:Addr} {H H':Hp} {p:Addr} {t b:Int} (h:RA C H p t b) (s:Same H H'):RA C H' p t b:=let ⟨dx,e⟩:=h;⟨dx,s _ _ e⟩
def mkR (C:Addr) (H:Hp) (Q:VK) (t b:Int):Prop:=∀ (x:Addr) (H':Hp),Same H H'->H x=none->RA C H' x (rt t b) (rb t b)->Q (.ref x) H'
def dm (C:Addr):Sp:=fun vs H Q _=>∃ (p dx:Addr) (t b:Int),vs=[.ref p,.int t,.int b]/\H p=some (.ins C dx [])/\b≠0/\Bits 9000 b/\Q .non (upd H p (.ins C dx (gb (rt t b) (rb t b))))
theorem dc {C:Addr} {H1:Hp} {q:Addr->Hp->Prop} {E:XK} {t b:Int} (hb:b≠0) (bb:Bits 9000 b) (h:∀ (x:Addr) (H':Hp),Same H1 H'->H1 x=none->RA C H' x (rt t b) (rb t b)->q x H'):∀ x dx:Addr,H1 x=none->H1 dx=none->dx≠x->dm C (.ref x::([.int t,.int b]++[])) (upd (upd H1 dx (.own x)) x (.ins C dx [])) (fun v H2=>v=.non/\q x H2) E:=fun x dx nx ndx ne=>by
 refine ⟨x,dx,t,b,rfl,av,hb,bb,rfl,?_⟩
 rw [ow]
 have s0:Same H1 (upd (upd H1 dx (.own x)) x (.ins C dx (gb (rt t b) (rb t b)))):=fun c o e=>by
  rw [upd_ne (aZ e nx),upd_ne (aZ e ndx)];exact e
 exact h x _ s0 nx ⟨dx,av⟩
theorem zP {t b:Int} (hb:b≠0) (bb:Bits 9000 b):Bits 9000 (dv t b):=bb.of_le (by rw [iY];exact Nat.le_of_dvd (Int.natAbs_pos.mpr hb) (Nat.gcd_dvd_right _ _))
theorem Fb {C f:Addr} {dV:Value} {fd:FuncData} (F:FunD K "__init__" "Ratio.__init__" kT dV f fd) (T:Txt K mg) (R:RCI K mg C) {uD:Addr} {uf:FuncData} (vO:Cal P w K mg base 1 "shared_by_two" ["one","other"] sp2 uD uf):FnOk P w K mg base CX0 2 f fd ["self","top","bottom"] (dm C):=by
 obtain ⟨vD,tj,tK,vi⟩:=vO
 refine F.ok sc_Ratio___init__ (fun vs H Q E h=>?_) (fun cdv A outer s H vs Q E hr h=>?_)
 ·obtain ⟨p,dx,t,b,rfl,_⟩:=h
  rfl
 ·obtain ⟨p,dx,t,b,rfl,hp,hb,bb,k⟩:=h
  refine ⟨_,(ah (aV (aM cX (pv 2) af (aH _))
   (ao ig)
   aW)
   (ah (ap (i:=3) sc_Ratio___init__.nd rfl (Or.inl rfl) (aq vD (hr.mono) rfl tj tK vi .nil ai (aa (pv 1) (aa (pv 2) ac))))
   (ah (aV (aM du (pv 2) af (aH _))
     (ao (ap (i:=3) sc_Ratio___init__.nd rfl (Or.inl rfl) (bU bT (pv 3))))
     aW)
   (ah (mP (pv 0) (aj ye (pv 1) (pv 3)) rfl)
   (ao (mP (pv 0) (aj ye (pv 2) (pv 3)) rfl)))))),?_⟩
  refine bK ⟨_,rfl,_,_,rfl,rfl,_,rfl,aQ (fun h=>absurd h hb) (fun _=>?_)⟩
  refine aD ⟨_,rfl,_,rfl,t,b,rfl,?_⟩
  refine fb (fun σ' H'=>H=H'/\σ'=[some (.ref p),some (.int t),some (.int b),some (.int (dv t b))]) ?_ ?_
  ·rintro σ' H' ⟨rfl,rfl⟩
   refine ⟨_,rfl,_,rfl,_,_,rfl,rfl,⟨qi hb,zP hb bb⟩,_,rfl,p,C,dx,_,rfl,hp,R.cl,R.nT,by show 0<1000;decide,?_⟩
   refine ⟨_,rfl,_,rfl,_,_,rfl,rfl,⟨qi hb,zP hb bb⟩,_,rfl,p,C,dx,_,rfl,av,R.cl,R.nB,by show 1<1000;decide,?_⟩
   show Q .non (upd (upd H p _) p _)
   rw [ow]
   exact k
  ·intro rest
   refine ⟨_,rfl,_,_,rfl,rfl,_,rfl,?_⟩
   refine aQ (fun h=>?_) (fun h=>?_)
   ·refine ⟨_,rfl,_,rfl,rest _ _ ⟨rfl,?_⟩⟩
    have e:dv t b = -((Nat.gcd t.natAbs b.natAbs:Nat):Int):=by unfold dv;rw [if_pos h]
    rw [e];rfl
   ·refine rest _ _ ⟨rfl,?_⟩
    have e:dv t b=((Nat.gcd t.natAbs b.natAbs:Nat):Int):=by unfold dv;rw [if_neg h]
    rw [e];rfl
def jB:Sp:=fun vs H Q _=>∃ x:Int,vs=[.int x]/\Q (.int (sg x)) H
theorem DY {f:Addr} {fd:FuncData} (F:Fun K "whole_sign" "whole_sign" jI f fd) (T:Txt K mg):FnOk P w K mg base CX0 1 f fd ["value"] jB:=by
 refine F.ok Ci (fun vs H Q E h=>?_) (fun cdv A outer s H vs Q E hr h=>?_)
 ·obtain ⟨x,rfl,_⟩:=h
  rfl
 ·obtain ⟨x,rfl,k⟩:=h
  refine ⟨_,(ah (aV (aM du (pv 0) af (aH _))
   (ao (aC (bU bT af)))
   aW)
   (ah (aV (aM cW (pv 0) af (aH _))
     (ao (aC af))
     aW)
   (ao (aC af)))),?_⟩
  refine bK ⟨_,rfl,_,_,rfl,rfl,_,rfl,aQ (fun h=>?_) (fun h=>?_)⟩
  ·have e:sg x = -1:=by unfold sg;rw [if_pos h]
   rw [e] at k
   exact ⟨_,rfl,k⟩
  refine bK ⟨_,rfl,_,_,rfl,rfl,_,rfl,aQ (fun h'=>?_) (fun h'=>?_)⟩
  ·have e:sg x=1:=by unfold sg;rw [if_neg h,if_pos h']
   rw [e] at k
   exact k
  ·have e:sg x=0:=by unfold sg;rw [if_neg h,if_neg h']
   rw [e] at k
   exact k
def mE (C:Addr):Sp:=fun vs H Q _=>∃ (p q:Addr) (t b u d:Int),vs=[.ref p,.ref q]/\RA C H p t b/\RA C H q u d/\Bits 100000 t/\Bits 100000 b/\Bits 100000 u/\Bits 100000 d/\Q (.int (sg (t*d-u*b))) H
theorem Fa {C f:Addr} {fd:FuncData} (F:Fun K "against" "Ratio.against" kS f fd) (T:Txt K mg) (R:RCI K mg C) {iR:Addr} {iK:FuncData} (jp:Cal P w K mg base 1 "whole_sign" ["value"] jB iR iK):FnOk P w K mg base CX0 2 f fd ["self","other"] (mE C):=by
 obtain ⟨jj,ip,iz,jc⟩:=jp
 refine F.ok CI (fun vs H Q E h=>?_) (fun cdv A outer s H vs Q E hr h=>?_)
 ·obtain ⟨p,q,t,b,u,d,rfl,_⟩:=h
  rfl
 ·obtain ⟨p,q,t,b,u,d,rfl,⟨dx,hp⟩,⟨dy,hq⟩,bt,bb,bu,bd,k⟩:=h
  refine ⟨_,(ao (aC (aq jj (hr.mono) rfl ip iz jc .nil ai (aa (aj cs (aj aN (aO (K:=K) rfl (pv 0) rfl) (aO (K:=K) rfl (pv 1) rfl)) (aj aN (aO (K:=K) rfl (pv 1) rfl) (aO (K:=K) rfl (pv 0) rfl))) ac)))),?_⟩
  refine ⟨_,rfl,p,C,dx,_,_,rfl,hp,R.cl,R.nT,cM _ _,_,rfl,q,C,dy,_,_,rfl,hq,R.cl,R.nB,bQ _ _,_,_,rfl,rfl,⟨bt.mono,bd.mono⟩,?_⟩
  exact ⟨_,rfl,q,C,dy,_,_,rfl,hq,R.cl,R.nT,cM _ _,_,rfl,p,C,dx,_,_,rfl,hp,R.cl,R.nB,bQ _ _,_,_,rfl,rfl,⟨bu.mono,bb.mono⟩,_,_,rfl,rfl,_,rfl,k⟩
theorem Eh {f:Addr} {fd:FuncData} (F:Fun K "poly" "poly" jZ f fd) (T:Txt K mg):FnOk P w K mg base CX0 1 f fd ["row"] (jz K):=by
 refine F.ok sc_poly (fun vs H Q E h=>?_) (fun cdv A outer s H vs Q E hr h=>?_)
 ·obtain ⟨a,ns,rfl,_⟩:=h
  rfl
 ·obtain ⟨a,ns,rfl,hS,k⟩:=h
  refine ⟨_,(ah (ap (i:=1) sc_poly.nd rfl (Or.inl rfl) (bH (df (K:=K) rfl) (by rfl) T.len_ PySem.boot_len (aa (pv 0) ac)))
   (ah (fN PassesOwn.never (PW.pt (ie (aM cW (pv 1) af (aH _)) (ic (aM cX (aI (cw (K:=K) rfl) (pv 0) (aj cs (pv 1) af) (fun _ _=>rfl)) af (aH _)))))
     (ao (ap (i:=1) sc_poly.nd rfl (Or.inl rfl) (aj cs (pv 1) af))))
   (ao (aC (pj (oV (K:=K) rfl) (pv 0) pd (pb (pv 1))))))),?_⟩
  refine ⟨_,rfl,a,_,rfl,.inl hS,?_⟩
  refine ⟨fun m σ' H'=>∃ n:Nat,n<=ns.length/\σ'=[some (.ref a),some (.int n)]/\H=H'/\n=m/\trim (ns.take n)=trim ns,⟨_,ns.length,Nat.le_refl _,?_,rfl,rfl,?_⟩,?_⟩
  ·rw [List.length_map];rfl
  ·rw [List.take_length]
  ·rintro m σ' H' ⟨n,hn,rfl,rfl,rfl,ht⟩
   have fin:trim (ns.take n)=ns.take n->∃ v,([some (V.ref a),some (V.int n)]:St)[0]?=some (some v)/\∃ v_1,([some (V.ref a),some (V.int n)]:St)[1]?=some (some v_1)/\∃ i,v_1=V.int i/\sr K v none (some i) H Q:=fun h=>by
    refine ⟨_,rfl,_,rfl,n,rfl,a,_,rfl,hS,fun p hp=>k p _ (Same.upd_new hp) hp ?_⟩
    rw [av,<- ht,h]
    have e:gO (ns.map V.int) none (some (n:Int))=(ns.take n).map V.int:=by
     unfold gO
     rw [HT.sIx_none,HT.sIx_nat,List.drop_zero,Nat.sub_zero,List.length_map,Nat.min_eq_left hn,List.map_take]
    rw [e]
   refine ⟨_,rfl,_,_,rfl,rfl,_,rfl,?_⟩
   refine aQ (fun hp=>?_) (fun hp=>?_)
   ·obtain ⟨j,rfl⟩:∃ j,n=j+1:=⟨n-1,by have:(0:Int)<n:=hp;omega⟩
    have hj:j<ns.length:=hn
    refine ⟨_,rfl,_,rfl,_,_,rfl,rfl,a,_,j,.int (cf ns j),rfl,?_,hS,md ?_,_,_,rfl,rfl,_,rfl,?_⟩
    ·show V.int (((j+1:Nat):Int)-1)=V.int j
     congr 1;omega
    ·rw [List.getElem?_map,iI hj];rfl
    refine aQ (fun h0=>?_) (fun h0=>?_)
    ·refine ⟨fun σ'' H''=>∃ m',m'<j+1/\∃ n:Nat,n<=ns.length/\σ''=[some (.ref a),some (.int n)]/\H=H''/\n=m'/\trim (ns.take n)=trim ns,fun _ _ h=>h,?_⟩
     refine ⟨_,rfl,_,_,rfl,rfl,j,Nat.lt_succ_self _,j,Nat.le_of_lt hj,?_,rfl,rfl,?_⟩
     ·show [some (V.ref a),some (V.int (((j+1:Nat):Int)-1))]=[some (V.ref a),some (V.int j)]
      congr 4;omega
     ·rw [<- ht,Bk hj h0]
    ·exact fin (Bl hj h0)
   ·obtain rfl:n=0:=by have:¬ (0:Int)<n:=hp;omega
    exact fin (by rw [List.take_zero];rfl)
def gY:Sp:=fun vs H Q _=>∃ (a:Addr) (xs:List V),vs=[.ref a]/\H a=some (.lst xs)/\Q (.int ((xs.length:Int)-1)) H
theorem EC {f:Addr} {fd:FuncData} (F:Fun K "degree" "degree" kj f fd) (T:Txt K mg):FnOk P w K mg base CX0 1 f fd ["row"] gY:=by
 refine F.ok Ct (fun vs H Q E h=>?_) (fun cdv A outer s H vs Q E hr h=>?_)
 ·obtain ⟨a,xs,rfl,_⟩:=h
  rfl
 ·obtain ⟨a,xs,rfl,hA,k⟩:=h
  refine ⟨_,(ao (aC (aj cs (bH (df (K:=K) rfl) (by rfl) T.len_ PySem.boot_len (aa (pv 0) ac)) af))),?_⟩
  exact ⟨_,rfl,a,_,rfl,.inl (SqL.of hA),_,_,rfl,rfl,k⟩
theorem EF {f:Addr} {fd:FuncData} (F:Fun K "coefficient" "coefficient" ko f fd) (T:Txt K mg):FnOk P w K mg base CX0 1 f fd ["row","place"] (gw K):=by
 refine F.ok Cv (fun vs H Q E h=>?_) (fun cdv A outer s H vs Q E hr h=>?_)
 ·obtain ⟨a,ns,k,rfl,_⟩:=h
  rfl
 ·obtain ⟨a,ns,n,rfl,hS,k⟩:=h
  refine ⟨_,(ah (aV (aM du (pv 1) (bH (df (K:=K) rfl) (by rfl) T.len_ PySem.boot_len (aa (pv 0) ac)) (aH _))
   (ao (aC (aI (cw (K:=K) rfl) (pv 0) (pv 1) (fun _ _=>rfl))))
   aW)
   (ao (aC af))),?_⟩
  refine ⟨_,rfl,_,rfl,a,_,rfl,.inl hS,_,_,rfl,rfl,_,rfl,?_⟩
  refine aQ (fun h1=>?_) (fun h1=>?_)
  ·rw [List.length_map] at h1
   have h2:n<ns.length:=by omega
   refine ⟨_,rfl,_,rfl,a,_,_,_,rfl,rfl,hS,md (v:=.int (ns.getD n 0)) ?_,k⟩
   rw [List.getElem?_map,List.getElem?_eq_getElem h2]
   simp [List.getD,h2]
  ·rw [List.length_map] at h1
   have h2:ns.length<=n:=by omega
   have e:ns.getD n 0=0:=by simp [List.getD,List.getElem?_eq_none_iff.mpr h2]
   rw [e] at k
   exact k
theorem D2 {f:Addr} {fd:FuncData} (F:Fun K "taken" "taken" jL f fd) (T:Txt K mg) {iT:Addr} {iM:FuncData} (jr:Cal P w K mg base 1 "poly" ["row"] (jz K) iT iM) {uH:Addr} {uj:FuncData} (vT:Cal P w K mg base 1 "coefficient" ["row","place"] (gw K) uH uj):FnOk P w K mg base CX0 2 f fd ["first","second"] (jF K cF):=by
 obtain ⟨jl,ir,iB,je⟩:=jr
 obtain ⟨oj,m9,np,n5⟩:=vT
 refine F.ok sc_taken (fun vs H Q E h=>?_) (fun cdv A outer s H vs Q E hr h=>?_)
 ·obtain ⟨a,b,xs,ys,rfl,_⟩:=h
  rfl
 ·obtain ⟨a,b,xs,ys,rfl,hA,hB,hx,hy,k⟩:=h
  refine ⟨_,(ah (ap (i:=2) sc_taken.nd rfl (Or.inl rfl) (bH (Av rfl) (by rfl) T.max_ PyProof.Rows.boot_max (aa (bH (df (K:=K) rfl) (by rfl) T.len_ PySem.boot_len (aa (pv 0) ac)) (aa (bH (df (K:=K) rfl) (by rfl) T.len_ PySem.boot_len (aa (pv 1) ac)) ac))))
   (ao (aC (aq jl (hr.mono) rfl ir iB je .nil ai (aa (fh (own:=["k"]) (fr:=["first","second"]) (js:=[0,1]) (by walk_at "comp_ok") rfl (lg rfl T.range_ (aa (pv 2) ac)) (fun _ _ _ _=>(aT (i:=0) (show List.Nodup (["k","first","second"]:List Str) from by decide +kernel) rfl (Or.inl rfl))) (fun _ _ _ _=>(aj cs (aq oj (hr.mono) rfl m9 np n5 .nil ai (aa (pv 1) (aa (pv 0) ac))) (aq oj (hr.mono) rfl m9 np n5 .nil ai (aa (pv 2) (aa (pv 0) ac)))))) ac))))),?_⟩
  refine ⟨_,rfl,a,_,rfl,.inl hA,_,rfl,b,_,rfl,.inl hB,_,_,rfl,?_⟩
  rw [yN,List.length_map,List.length_map]
  have hz:max xs.length ys.length<=sizeLine:=by have:=sizeLine_eq;omega
  refine ⟨_,rfl,_,rfl,(oU hz).1,(oU hz).2,uY (lo:=0) (n:=max xs.length ys.length) (fun i zs σ' H'=>∃ z:Option V,σ'=[z,some (.ref a),some (.ref b)]/\zs=((List.range i).map fun k=>V.int (cf xs k-cf ys k))/\H=H') hz ⟨none,rfl,rfl,rfl⟩ ?_ ?_ ?_⟩
  ·rintro i zs σ' H' _ ⟨z,rfl,rfl,rfl⟩
   simp
  ·rintro i zs σ' H' hi ⟨z,rfl,rfl,rfl⟩
   refine ⟨_,rfl,_,rfl,a,xs,i,?_,hA,_,rfl,_,rfl,b,ys,i,?_,hB,_,_,rfl,rfl,_,rfl,?_,rfl⟩
   ·show [V.ref a,V.int (0+(i:Int))]=_
    rw [Int.zero_add]
   ·show [V.ref b,V.int (0+(i:Int))]=_
    rw [Int.zero_add]
   ·rw [List.range_succ,List.map_append];rfl
  ·rintro zs σ' H' p ⟨z,rfl,rfl,rfl⟩ hp
   refine ⟨p,(List.range (max xs.length ys.length)).map fun k=>cf xs k-cf ys k,rfl,SqL.of ?_,?_⟩
   ·rw [av,List.map_map];rfl
   ·intro p' H' sm hp' e
    refine k p' H' ((Same.upd_new hp).trans sm) ((Same.upd_new hp).free hp') ?_
    rw [e,BJ]
def sp1 (g:List Int->List Int):Sp:=fun vs H Q _=>∃ (a:Addr) (ns:List Int),vs=[.ref a]/\H a=some (.lst (ns.map V.int))/\ns.length<=100000/\AllB 100000 ns/\mkL H Q (g ns)
theorem Fm {k:Nat} {n:Nat} (h:n<2^k):Bits k (n:Int):=by show ((n:Int)).natAbs<2^k;rw [Int.natAbs_natCast];exact h
theorem BR {n:Nat} (h:n<=1000000):Bits 1000000 (n:Int):=(Fm (k:=20) (Nat.lt_of_le_of_lt h (by decide))).mono
theorem Dg (f:Nat->V) (i:Nat):(List.range i).map f++[f i]=(List.range (i+1)).map f:=by rw [List.range_succ,List.map_append];rfl
theorem D7 {f:Addr} {fd:FuncData} (F:Fun K "slope" "slope" jQ f fd) (T:Txt K mg):FnOk P w K mg base CX0 1 f fd ["row"] (sp1 slopeL):=by
 refine F.ok Ck (fun vs H Q E h=>?_) (fun cdv A outer s H vs Q E hr h=>?_)
 ·obtain ⟨a,ns,rfl,_⟩:=h
  rfl
 ·obtain ⟨a,ns,rfl,hA,hn,hb,k⟩:=h
  have big:=sizeLine_eq
  refine ⟨_,(ao (aC (fh (own:=["k"]) (fr:=["row"]) (js:=[0]) (by walk_at "comp_ok") rfl (DH rfl T.range_ (aa af (aa (bH (df (K:=K) rfl) (by rfl) T.len_ PySem.boot_len (aa (pv 0) ac)) ac))) (fun _ _ _ _=>(aT (i:=0) (show List.Nodup (["k","row"]:List Str) from by decide +kernel) rfl (Or.inl rfl))) (fun _ _ _ _=>(aj aN (pv 0) (aI (cw (K:=K) rfl) (pv 1) (pv 0) (fun _ _=>rfl))))))),?_⟩
  have hl:(ns.map V.int).length=ns.length:=List.length_map _
  refine bh ⟨_,rfl,a,_,rfl,.inl (SqL.of hA),1,_,rfl,⟨by decide,by decide,by rw [hl];omega,by rw [hl];omega⟩,uY (lo:=1) (fun i ys σ' H'=>∃ z:Option V,σ'=[z,some (.ref a)]/\ys=((List.range i).map fun (j:Nat)=>V.int (((j:Int)+1)*cf ns (j+1)))/\H=H') (by rw [hl];omega) ⟨none,rfl,rfl,rfl⟩ ?_ ?_ ?_⟩
  ·rintro i ys σ' H' _ ⟨z,rfl,rfl,rfl⟩
   simp
  ·rintro i ys σ' H' hi ⟨z,rfl,rfl,rfl⟩
   rw [hl] at hi
   have hi':i+1<ns.length:=by omega
   have e0:(1:Int)+(i:Int)=((i+1:Nat):Int):=by omega
   refine ⟨_,rfl,_,rfl,_,rfl,a,_,_,_,rfl,rfl,SqL.of hA,ma e0 hi',_,_,rfl,rfl,⟨by rw [e0];exact BR (by omega),(hb.cf _).mono⟩,_,rfl,?_,rfl⟩
   rw [<- Dg]
   show _++[V.int ((1+(i:Int))*cf ns (i+1))]=_
   rw [Int.add_comm 1]
  ·rintro ys σ' H' p ⟨z,rfl,rfl,rfl⟩ hp
   refine k p _ (Same.upd_new hp) hp ?_
   have en:(((ns.map V.int).length:Int)-1).toNat=ns.length-1:=by rw [hl];omega
   rw [av,en];unfold RM.slopeL;rw [List.map_map];rfl
def oI:Sp:=fun vs H Q _=>∃ (a:Addr) (ns:List Int),vs=[.ref a]/\H a=some (.lst (ns.map V.int))/\Tr ns/\ns.length<=1000000/\mkL H Q (ar ns)
theorem HE {ns:List Int} (ht:Tr ns) (hne:ns≠[]):0<(aA ns:Int):=by
 obtain ⟨r,x,rfl⟩:=(cP ns).resolve_left hne
 have hx:x≠0:=tr_snoc.mp ht
 have hm:x∈r++[x]:=by simp
 have h1:0<aA (r++[x]):=Nat.pos_of_dvd_of_pos (qc hm) (Int.natAbs_pos.mpr hx)
 omega
theorem D9 {f:Addr} {fd:FuncData} (F:Fun K "shrunk" "shrunk" g9 f fd) (T:Txt K mg) (hNS:base.NoSeer) (hTr:P.given.tree=none) {uE:Addr} {ug:FuncData} (vP:Cal P w K mg base 2 "shared" ["row"] (oJ K) uE ug):FnOk P w K mg base CX0 33 f fd ["row"] oI:=by
 obtain ⟨vE,tq,tL,vj⟩:=vP
 refine F.ok sc_shrunk (fun vs H Q E h=>?_) (fun cdv A outer s H vs Q E hr h=>?_)
 ·obtain ⟨a,ns,rfl,_⟩:=h
  rfl
 ·obtain ⟨a,ns,rfl,hA,ht,hn,k⟩:=h
  have big:=sizeLine_eq
  have hdp:(A.deeper (PyProof.Rows.envOfC (Str.ofString "shrunk") (ak g9) s.heap.objs.size f cdv)).depth+100<recursionLimit:=by have:=hr.dp;omega
  refine ⟨_,(ah (ap (i:=1) sc_shrunk.nd rfl (Or.inr rfl) (aq vE (hr.mono) rfl tq tL vj .nil ai (aa (pv 0) ac)))
   (ao (aC (fh (own:=["value"]) (fr:=["divisor"]) (js:=[1]) (by walk_at "comp_ok") rfl (dY (K:=K) rfl (pv 0)) (fun _ _ _ _=>(aT (i:=0) (show List.Nodup (["value","divisor"]:List Str) from by decide +kernel) rfl (Or.inl rfl))) (fun _ _ _ _=>(aj (DT hNS hTr hdp rfl rfl rfl rfl rfl) (pv 0) (pv 1))))))),?_⟩
  refine aD ⟨_,rfl,a,ns,rfl,SqL.of hA,?_⟩
  refine bh ⟨_,rfl,a,rfl,⟨_,SqL.of hA⟩,i8 (K:=K) (a:=a) (xs:=ns.map V.int) (fun i ys σ' H'=>∃ (z0:Option V),σ'=[z0,some (.int (aA ns:Nat))]/\ys=((ns.take i).map fun x=>x/(aA ns:Int)).map V.int/\H=H') (by rw [List.length_map];omega) ⟨none,rfl,rfl,rfl⟩ ?_ ?_ ?_⟩
  ·rintro i ys σ' H' _ ⟨z0,rfl,rfl,rfl⟩
   exact ⟨SqL.of hA,by rw [List.length_map,List.length_map,List.length_take];exact Nat.min_le_left _ _⟩
  ·rintro i x ys σ' H' hi ⟨z0,rfl,rfl,rfl⟩
   rw [List.getElem?_map] at hi
   cases e:ns[i]? with
   | none=>rw [e] at hi;cases hi
   | some c =>
     rw [e] at hi
     obtain rfl:=Option.some.inj hi
     have g1:=HE ht (fun z=>by rw [z] at e;simp at e)
     refine ⟨_,rfl,_,rfl,_,_,rfl,rfl,g1,_,rfl,?_,rfl⟩
     rw [List.take_add_one,e]
     simp
  ·rintro ys σ' H' p ⟨z0,rfl,rfl,rfl⟩ hp
   refine k p _ (Same.upd_new hp) hp ?_
   rw [av,List.length_map,List.take_length]
   rfl
def jD:Sp:=fun vs H Q _=>∃ (a:Addr) (ns:List Int),vs=[.ref a]/\H a=some (.lst (ns.map V.int))/\Tr ns/\ns.length<=1000000/\mkL H Q (aB ns)
theorem AJ (r:List Int) (x:Int):atI ((r++[x]).map V.int) (-1)=some (.int x):=by
 rw [List.map_append];exact vx _ _
theorem Ei {f:Addr} {fd:FuncData} (F:Fun K "plain" "plain" j1 f fd) (T:Txt K mg) {uC:Addr} {ue:FuncData} (vN:Cal P w K mg base 33 "shrunk" ["row"] oI uC ue):FnOk P w K mg base CX0 34 f fd ["row"] jD:=by
 obtain ⟨og,mZ,nj,nY⟩:=vN
 refine F.ok sc_plain (fun vs H Q E h=>?_) (fun cdv A outer s H vs Q E hr h=>?_)
 ·obtain ⟨a,ns,rfl,_⟩:=h
  rfl
 ·obtain ⟨a,ns,rfl,hA,ht,hn,k⟩:=h
  have big:=sizeLine_eq
  have hu:=hr.units
  refine ⟨_,(ah (ap (i:=1) sc_plain.nd rfl (Or.inl rfl) (aq og (hr.mono) rfl mZ nj nY .nil ai (aa (pv 0) ac)))
   (ah (aV (PW.pt (ie (aM (ik (K:=K) rfl hu) (pv 1) (bz ac) (aH _)) (ic (aM du (aI (cw (K:=K) rfl) (pv 1) (bU bT af) (fun _ _=>rfl)) af (aH _)))))
     (ao (aC (fh (own:=["value"]) (fr:=[]) (js:=[]) (by walk_at "comp_ok") rfl (dY (K:=K) rfl (pv 1)) (fun _ _ _ _=>(aT (i:=0) (show List.Nodup (["value"]:List Str) from by decide +kernel) rfl (Or.inl rfl))) (fun _ _ _ _=>(bU bT (pv 0))))))
     aW)
   (ao (aC (pv 1))))),?_⟩
  refine aD ⟨_,rfl,a,ns,rfl,hA,ht,hn,fun p H1 s1 hp e1=>?_⟩
  have hsl:(ar ns).length=ns.length:=List.length_map _
  have done:cH (ar ns)=ar ns->Q (.ref p) H1:=fun e=>k p H1 s1 hp (by rw [e1];show _=some (HO.lst ((cH (ar ns)).map V.int));rw [e])
  refine fb (fun σ' H'=>σ'=[some (.ref a),some (.ref p)]/\Same H H'/\H' p=some (.lst ((ar ns).map V.int))/\cH (ar ns)=ar ns) ?_ ?_
  ·rintro σ' H' ⟨rfl,s2,e2,e3⟩
   exact ⟨_,rfl,k p H' s2 hp (by rw [e2];show _=some (HO.lst ((cH (ar ns)).map V.int));rw [e3])⟩
  intro rest
  refine dX ⟨_,rfl,Nat.zero_le _,fun q hq=>?_⟩
  have s2:Same H (upd H1 q (.lst [])):=s1.then_new hq
  have e2:upd H1 q (.lst []) p=some (.lst ((ar ns).map V.int)):=by rw [upd_ne (aZ e1 hq)];exact e1
  refine ⟨p,q,ar ns,[],rfl,rfl,SqL.of e2,SqL.of av,_,rfl,?_⟩
  refine cZ (fun hne=>?_) (fun he=>?_)
  ·obtain ⟨r,x,er⟩:=(cP (ar ns)).resolve_left hne
   refine ⟨_,rfl,_,rfl,p,_,_,.int x,rfl,rfl,SqL.of e2,(by rw [er];exact AJ r x),_,_,rfl,rfl,_,rfl,?_⟩
   have elast:al (ar ns)=x:=by rw [er,dz]
   refine aQ (fun hx=>?_) (fun hx=>?_)
   ·have hx':x<0:=hx
    have epos:cH (ar ns)=(ar ns).map fun x => -x:=by unfold cH;rw [elast,if_pos hx']
    refine bh ⟨_,rfl,p,rfl,⟨_,SqL.of e2⟩,i8 (K:=K) (a:=p) (xs:=(ar ns).map V.int) (fun i ys σ' H'=>∃ (z0:Option V),σ'=[z0]/\ys=(((ar ns).take i).map fun x => -x).map V.int/\upd H1 q (.lst [])=H') (by rw [List.length_map,hsl];omega) ⟨none,rfl,rfl,rfl⟩ ?_ ?_ ?_⟩
    ·rintro i ys σ' H' _ ⟨z0,rfl,rfl,rfl⟩
     exact ⟨SqL.of e2,by rw [List.length_map,List.length_map,List.length_take];exact Nat.min_le_left _ _⟩
    ·rintro i x ys σ' H' hi ⟨z0,rfl,rfl,rfl⟩
     rw [List.getElem?_map] at hi
     cases e:(ar ns)[i]? with
     | none=>rw [e] at hi;cases hi
     | some c =>
       rw [e] at hi
       obtain rfl:=Option.some.inj hi
       refine ⟨_,rfl,_,rfl,_,rfl,?_,rfl⟩
       rw [List.take_add_one,e]
       simp
    ·rintro ys σ' H' p' ⟨z0,rfl,rfl,rfl⟩ hp'
     refine k p' _ (s2.then_new hp') (s2.free hp') ?_
     rw [av,List.length_map,List.take_length]
     show _=some (HO.lst ((cH (ar ns)).map V.int))
     rw [epos]
   ·exact rest _ _ ⟨rfl,s2,e2,by unfold cH;rw [elast,if_neg hx]⟩
  ·have he':ar ns=[]:=he
   exact rest _ _ ⟨rfl,s2,e2,by rw [he'];rfl⟩
def qY:Sp:=fun vs H Q _=>∃ (a:Addr) (xs:List Int) (c:Int),vs=[.ref a,.int c]/\H a=some (.lst (xs.map V.int))/\xs.length<=1000000/\Bits 1000000 c/\AllB 1000000 xs/\mkL H Q (scL c xs)
theorem Ec {f:Addr} {fd:FuncData} (F:Fun K "scaled" "scaled" jU f fd) (T:Txt K mg):FnOk P w K mg base CX0 1 f fd ["row","factor"] qY:=by
 refine F.ok Cm (fun vs H Q E h=>?_) (fun cdv A outer s H vs Q E hr h=>?_)
 ·obtain ⟨a,xs,c,rfl,_⟩:=h
  rfl
 ·obtain ⟨a,xs,c,rfl,hA,hn,bc,bx,k⟩:=h
  have big:=sizeLine_eq
  refine ⟨_,(ao (aC (fh (own:=["value"]) (fr:=["factor"]) (js:=[1]) (by walk_at "comp_ok") rfl (dY (K:=K) rfl (pv 0)) (fun _ _ _ _=>(aT (i:=0) (show List.Nodup (["value","factor"]:List Str) from by decide +kernel) rfl (Or.inl rfl))) (fun _ _ _ _=>(aj aN (pv 1) (pv 0)))))),?_⟩
  refine bh ⟨_,rfl,a,rfl,⟨_,SqL.of hA⟩,i8 (K:=K) (a:=a) (xs:=xs.map V.int) (fun i ys σ' H'=>∃ (z0:Option V),σ'=[z0,some (.int c)]/\ys=(scL c (xs.take i)).map V.int/\H=H') (by rw [List.length_map];omega) ⟨none,rfl,rfl,rfl⟩ ?_ ?_ ?_⟩
  ·rintro i ys σ' H' _ ⟨z0,rfl,rfl,rfl⟩
   exact ⟨SqL.of hA,by rw [List.length_map,ck,List.length_take];exact Nat.min_le_left _ _⟩
  ·rintro i x ys σ' H' hi ⟨z0,rfl,rfl,rfl⟩
   obtain ⟨y,_,rfl,hm,et⟩:=ga hi
   refine ⟨_,rfl,_,rfl,_,_,rfl,rfl,⟨bc,bx y hm⟩,_,rfl,?_,rfl⟩
   rw [et];simp [scL]
  ·rintro ys σ' H' p ⟨z0,rfl,rfl,rfl⟩ hp
   refine k p _ (Same.upd_new hp) hp ?_
   rw [av,List.length_map,List.take_length]
theorem zV (ms:List Int):gP ms none (some (-1))=ms.take (ms.length-1):=by
 unfold gP
 rw [HT.sIx_none,List.drop_zero,Nat.sub_zero]
 congr 1
 show (if (-1:Int)<0 then ((-1:Int)+(ms.length:Int)).toNat else min (-1:Int).toNat ms.length)=_
 rw [if_pos (by decide)];omega
theorem Ap {ms:List Int} {n k:Nat}:cf (ms.take n) k=if k<n then cf ms k else 0:=by
 unfold cf
 by_cases h:k<n
 ·rw [if_pos h];simp [List.getD,List.getElem?_take,h]
 ·rw [if_neg h];simp [List.getD,List.getElem?_take,h]
def rC:Sp:=fun vs H Q _=>∃ (a b:Addr) (rs ys:List Int) (p:Nat) (l:Int),vs=[.ref a,.ref b,.int p,.int l]/\H a=some (.lst (rs.map V.int))/\H b=some (.lst (ys.map V.int))/\rs.length=p+ys.length/\ys≠[]/\Bits 1000000 l/\AllB 1000000 ys/\mkL H Q (iy rs ys p l)
theorem Et {f:Addr} {fd:FuncData} (F:Fun K "lowered" "lowered" ka f fd) (T:Txt K mg):FnOk P w K mg base CX0 1 f fd ["row","second","place","lead"] rC:=by
 refine F.ok sc_lowered (fun vs H Q E h=>?_) (fun cdv A outer s H vs Q E hr h=>?_)
 ·obtain ⟨a,b,rs,ys,p,l,rfl,_⟩:=h
  rfl
 ·obtain ⟨a,b,rs,ys,p,l,rfl,hA,hB,hl,hy,bl,by',k⟩:=h
  have hyl:=List.length_pos_iff.mpr hy
  refine ⟨_,(ah (ap (i:=4) sc_lowered.nd rfl (Or.inl rfl) (pj (oV (K:=K) rfl) (pv 0) pd (pb (bU bT af))))
   (ah (cR PassesOwn.never rfl (sD rfl T.enumerate_ (aa (pj (oV (K:=K) rfl) (pv 1) pd (pb (bU bT af))) ac)) (gD rfl (cj (aT (i:=5) sc_lowered.nd rfl (Or.inl rfl)) (cj (aT (i:=6) sc_lowered.nd rfl (Or.inl rfl)) gC)))
     (ao (eD (aj cs (aI (cw (K:=K) rfl) (pv 4) (aj bI (pv 2) (pv 5)) (fun _ _=>rfl)) (aj aN (pv 3) (pv 6))) (li (pv 4) (aj bI (pv 2) (pv 5)) jG))))
   (ao (aC (pv 4))))),?_⟩
  refine aD ⟨_,rfl,_,rfl,_,rfl,a,_,rfl,SqL.of hA,fun kp hkp=>?_⟩
  rw [uW,zV]
  have s1:=Same.upd_new (o:=.lst ((rs.take (rs.length-1)).map V.int)) hkp
  have nkb:b≠kp:=aZ hB hkp
  refine ⟨_,rfl,_,rfl,_,rfl,b,_,rfl,SqL.of (s1 _ _ hB),fun p2 hp2=>?_⟩
  rw [uW,zV]
  have n2:kp≠p2:=aZ av hp2
  generalize hH2:upd (upd H kp (.lst ((rs.take (rs.length-1)).map V.int))) p2 (.lst ((ys.take (ys.length-1)).map V.int))=H2
  have hk2:H2 kp=some (.lst ((rs.take (rs.length-1)).map V.int)):=by rw [<- hH2,upd_ne n2,av]
  have hq2:H2 p2=some (.lst ((ys.take (ys.length-1)).map V.int)):=by rw [<- hH2,av]
  have s2:Same H H2:=by rw [<- hH2];exact s1.then_new hp2
  have lt:(rs.take (rs.length-1)).length=rs.length-1:=by rw [List.length_take];omega
  have lty:(ys.take (ys.length-1)).length=ys.length-1:=by rw [List.length_take];omega
  refine ⟨p2,rfl,⟨_,SqL.of hq2⟩,tZ (K:=K) (a:=p2) (xs:=(ys.take (ys.length-1)).map V.int) (fun i σ' H'=>∃ (acc:List Int) (z5 z6:Option V),σ'=[some (.ref a),some (.ref b),some (.int p),some (.int l),some (.ref kp),z5,z6]/\SameB kp H2 H'/\H' kp=some (.lst (acc.map V.int))/\acc.length=rs.length-1/\∀ n,n<acc.length->cf acc n=cf rs n-(if p<=n/\n-p<i then l*cf ys (n-p) else 0))
   ⟨_,none,none,rfl,SameB.refl _ _,hk2,lt,fun n hn=>by rw [Ap,if_pos (by omega),if_neg (by omega)];omega⟩ ?_ ?_ ?_⟩
  ·rintro i σ' H' _ ⟨acc,z5,z6,rfl,sb,_⟩
   exact SqL.of (sb _ _ (Ne.symm n2) hq2)
  ·rintro i x σ' H' q hi ⟨acc,z5,z6,rfl,sb,hpa,hal,hac⟩ hq
   have hil:i<ys.length-1:=by
    apply Classical.byContradiction
    intro hn
    rw [List.getElem?_eq_none_iff.mpr (by rw [List.length_map,lty];omega)] at hi
    cases hi
   rw [List.getElem?_map,iI (by rw [lty];exact hil),Ap,if_pos hil] at hi
   obtain rfl:=Option.some.inj hi
   refine ⟨q,_,rfl,SqT.of av,rfl,_,_,rfl,_,_,rfl,rfl,?_⟩
   have nqp:kp≠q:=aZ hpa hq
   have hpa':upd H' q (.tup [.int i,.int (cf ys i)]) kp=some (.lst (acc.map V.int)):=by rw [upd_ne nqp];exact hpa
   have hpi:p+i<acc.length:=by omega
   have epi:((p:Nat):Int)+((i:Nat):Int)=((p+i:Nat):Int):=by omega
   refine ⟨_,rfl,_,rfl,_,rfl,_,_,rfl,rfl,kp,_,_,_,rfl,rfl,SqL.of hpa',ma epi hpi,_,rfl,_,rfl,_,_,rfl,rfl,⟨bl,by'.cf i⟩,_,_,rfl,rfl,_,rfl,_,rfl,_,rfl,_,_,rfl,rfl,kp,_,_,p+i,rfl,rfl,hpa',lJ epi (by rw [List.length_map];exact hpi),?_⟩
   refine ⟨acc.set (p+i) (cf acc (p+i)-l*cf ys i),_,_,rfl,(sb.then_new hq).then_upd,by rw [av,pJ],by rw [List.length_set];exact hal,fun n hn=>?_⟩
   rw [List.length_set] at hn
   rw [nQ hpi]
   by_cases e:n=p+i
   ·subst e
    rw [if_pos rfl,hac _ hpi,if_neg (by omega),if_pos (by omega),Nat.add_sub_cancel_left];omega
   ·rw [if_neg e,hac n hn]
    by_cases h1:p<=n/\n-p<i
    ·rw [if_pos h1,if_pos (by omega)]
    ·rw [if_neg h1,if_neg (by omega)]
  ·rintro σ' H' ⟨acc,z5,z6,rfl,sb,hpa,hal,hac⟩
   rw [List.length_map,lty] at hac
   refine ⟨_,rfl,k kp H' (fun b' o e=>sb b' o (aZ e hkp) (s2 b' o e)) hkp ?_⟩
   rw [hpa]
   have e:acc=iy rs ys p l:=by
    apply dP
    ·rw [hal,yX]
    ·intro n hn
     have hn':n<rs.length-1:=by omega
     rw [hac n hn,qq,if_pos hn']
     by_cases h1:p<=n
     ·have h2:p<=n/\n-p<ys.length-1:=⟨h1,by omega⟩
      rw [if_pos h1,if_pos h2]
     ·have h2:¬ (p<=n/\n-p<ys.length-1):=fun z=>h1 z.1
      rw [if_neg h1,if_neg h2]
   rw [e]
theorem AllB.of_cf {k:Nat} {l:List Int} (h:∀ n,Bits k (RM.cf l n)):AllB k l:=fun x hx=>by
 obtain ⟨i,hi,rfl⟩:=List.mem_iff_getElem.mp hx
 have:=h i
 rwa [dQ hi] at this
theorem vz {k:Nat} {x:Int} (h:Bits k x):Bits k ((x.natAbs:Nat):Int):=h.of_le (by rw [Int.natAbs_natCast];exact Nat.le_refl _)
theorem sg_bits {x:Int}:Bits 1 (sg x):=by
 show (sg x).natAbs<2^1
 unfold sg;split<;>(try split)<;>decide
theorem mI {k:Nat} {x y:Int} (h:Bits k y):Bits k (sg x*y):=h.of_le (by
 rw [Int.natAbs_mul]
 have h2:(sg x).natAbs<=1:=by unfold sg;split<;>(try split)<;>decide
 calc (sg x).natAbs*y.natAbs<=1*y.natAbs:=Nat.mul_le_mul_right _ h2
  _=y.natAbs:=Nat.one_mul _)
theorem zS {xs ys:List Int} {b:Nat} (hx:AllB b xs) (hy:AllB b ys):∀ i,AllB (b+i*(b+1)) (aU xs ys i).1/\AllB (b+i*(b+1)) (aU xs ys i).2
 | 0=>by rw [Nat.zero_mul];exact ⟨AllB.zeros,hx⟩
 | i+1=>by
   obtain ⟨h1,h2⟩:=zS hx hy i
   have e:b+(i+1)*(b+1)=b+i*(b+1)+b+1:=by rw [Nat.succ_mul];omega
   have hs:Bits b (((RM.cf ys (ys.length-1)).natAbs:Nat):Int):=vz (hy.cf _)
   rw [e]
   show AllB _ (cS ys (aU xs ys i) _).1/\AllB _ (cS ys (aU xs ys i) _).2
   unfold cS
   dsimp only
   constructor
   ·intro x hx
    rcases List.mem_or_eq_of_mem_set hx with h | rfl
    ·obtain ⟨y,hy',rfl⟩:=List.mem_map.mp h
     have:=hs.mul (h1 y hy')
     exact this.mono (by omega)
    ·exact (mI (h2.cf _)).mono (by omega)
   ·refine AllB.of_cf fun n=>?_
    rw [qq]
    by_cases hn:n<(scL (((RM.cf ys (ys.length-1)).natAbs:Nat):Int) (aU xs ys i).2).length-1
    ·rw [if_pos hn,bJ]
     have m1:Bits (b+i*(b+1)+b) ((((RM.cf ys (ys.length-1)).natAbs:Nat):Int)*RM.cf (aU xs ys i).2 n):=by
      have:=hs.mul (h2.cf n);rwa [Nat.add_comm] at this
     refine m1.sub ?_
     by_cases hp:(xs.length+1-ys.length-1-i)<=n
     ·rw [if_pos hp]
      exact (mI (h2.cf _)).mul (hy.cf _)
     ·rw [if_neg hp];exact Bits.zero
    ·rw [if_neg hn];exact Bits.zero
theorem jb {k:Nat} {b:Int} (h:Bits k b):∀ n,Bits (k*n+1) (b^n)
 | 0=>by show ((b^0:Int)).natAbs<2^(k*0+1);rw [Int.pow_zero,Nat.mul_zero];decide
 | n+1=>by
   rw [Int.pow_succ]
   have:=(jb h n).mul h
   exact this.mono (by rw [Nat.mul_succ];omega)
def Fw (H:Hp) (Q:VK) (xs ys:List Int):Prop:=∀ (t q r:Addr) (H':Hp),Same H H'->H t=none->H q=none->H r=none->q≠r->q≠t->r≠t->H' t=some (.tup [.int (cq xs ys),.ref q,.ref r])->H' q=some (.lst ((ci xs ys).map V.int))->H' r=some (.lst ((aR xs ys).map V.int))->Q (.ref t) H'
def jE:Sp:=fun vs H Q _=>∃ (a b:Addr) (xs ys:List Int) (n:Nat),vs=[.ref a,.ref b]/\H a=some (.lst (xs.map V.int))/\H b=some (.lst (ys.map V.int))/\ys≠[]/\AllB n xs/\AllB n ys/\(xs.length+2)*(n+1)<=1000000/\ys.length<=1000000/\Fw H Q xs ys
theorem vv {l:List Int} (h:l≠[]):atI (l.map V.int) (-1)=some (.int (cf l (l.length-1))):=by
 obtain ⟨r,x,rfl⟩:=(cP l).resolve_left h
 have e:(r++[x]).length-1=r.length:=by simp
 rw [e,lT,List.map_append];exact vx _ _
theorem EB {f:Addr} {fd:FuncData} (F:Fun K "divided" "divided" ki f fd) (T:Txt K mg) {iR:Addr} {iK:FuncData} (jp:Cal P w K mg base 1 "whole_sign" ["value"] jB iR iK) {ge:Addr} {gd:FuncData} (gt:Cal P w K mg base 1 "degree" ["row"] gY ge gd) {IT:Addr} {HX:FuncData} (LH:Cal P w K mg base 1 "scaled" ["row","factor"] qY IT HX) {Jb:Addr} {Ii:FuncData} (LS:Cal P w K mg base 1 "lowered" ["row","second","place","lead"] rC Jb Ii) {iT:Addr} {iM:FuncData} (jr:Cal P w K mg base 1 "poly" ["row"] (jz K) iT iM):FnOk P w K mg base CX0 2 f fd ["first","second"] jE:=by
 obtain ⟨jj,ip,iz,jc⟩:=jp
 obtain ⟨dS,dJ,dO,dR⟩:=gt
 obtain ⟨AT,yO,y7,AD⟩:=LH
 obtain ⟨Le,Ga,GZ,Ki⟩:=LS
 obtain ⟨jl,ir,iB,je⟩:=jr
 refine F.ok sc_divided (fun vs H Q E h=>?_) (fun cdv A outer s H vs Q E hr h=>?_)
 ·obtain ⟨a,b,xs,ys,n,rfl,_⟩:=h
  rfl
 ·obtain ⟨a,b,xs,ys,nb,rfl,hA,hB,hy,bx,by',hsz,hyn,k⟩:=h
  have big:=sizeLine_eq
  have hu:=hr.units
  have hyl:=List.length_pos_iff.mpr hy
  have hxl:xs.length<=1000000:=by
   have:=Nat.mul_le_mul_left (xs.length+2) (show 1<=nb+1 by omega)
   omega
  have bsz:∀ i,i<=xs.length->nb+i*(nb+1)<=1000000:=fun i hi=>by
   have h1:=Nat.mul_le_mul_right (nb+1) hi
   rw [Nat.add_mul] at hsz
   omega
  have hnb:nb<=1000000:=by have:=bsz 0 (Nat.zero_le _);omega
  refine ⟨_,(ah (aV (aM (ln (K:=K) rfl hu) (pv 1) (bz ac) (aH _))
   (ao ig)
   aW)
   (ah (ap (i:=2) sc_divided.nd rfl (Or.inl rfl) (bH fz (by rfl) T.abs_ PyProof.Rows.boot_abs (aa (aI (cw (K:=K) rfl) (pv 1) (bU bT af) (fun _ _=>rfl)) ac)))
   (ah (ap (i:=3) sc_divided.nd rfl (Or.inl rfl) (aq jj (hr.mono) rfl ip iz jc .nil ai (aa (aI (cw (K:=K) rfl) (pv 1) (bU bT af) (fun _ _=>rfl)) ac)))
   (ah (ap (i:=4) sc_divided.nd rfl (Or.inl rfl) (aj bI (aj cs (aq dS (hr.mono) rfl dJ dO dR .nil ai (aa (pv 0) ac)) (aq dS (hr.mono) rfl dJ dO dR .nil ai (aa (pv 1) ac))) af))
   (ah (ap (i:=5) sc_divided.nd rfl (Or.inl rfl) af)
   (ah (ap (i:=6) sc_divided.nd rfl (Or.inl rfl) (aj sL (bz (aa af ac)) (pv 4)))
   (ah (ap (i:=7) sc_divided.nd rfl (Or.inl rfl) (gE (qr (K:=K) rfl) (by rfl) T.list_ PyProof.Rows.boot_list (aa (pv 0) ac)))
   (ah (cR PassesOwn.never rfl (x5 rfl T.range_ (aa (aj cs (pv 4) af) (aa (bU bT af) (aa (bU bT af) ac)))) (aT (i:=8) sc_divided.nd rfl (Or.inl rfl))
     (ah (ap (i:=9) sc_divided.nd rfl (Or.inl rfl) (aj aN (pv 3) (aI (cw (K:=K) rfl) (pv 7) (bU bT af) (fun _ _=>rfl))))
       (ah (ap (i:=5) sc_divided.nd rfl (Or.inl rfl) (aj aN (pv 5) (pv 2)))
       (ah (ap (i:=6) sc_divided.nd rfl (Or.inl rfl) (aq AT (hr.mono) rfl yO y7 AD .nil ai (aa (pv 6) (aa (pv 2) ac))))
       (ah (eD (pv 9) (li (pv 6) (pv 8) jG))
       (ao (ap (i:=7) sc_divided.nd rfl (Or.inl rfl) (aq Le (hr.mono) rfl Ga GZ Ki .nil ai (aa (aq AT (hr.mono) rfl yO y7 AD .nil ai (aa (pv 7) (aa (pv 2) ac))) (aa (pv 1) (aa (pv 8) (aa (pv 9) ac))))))))))))
   (ao (aC (cU (aa (pv 5) (aa (pv 6) (aa (aq jl (hr.mono) rfl ir iB je .nil ai (aa (pv 7) ac)) ac)))))))))))))),?_⟩
  refine bK ⟨_,rfl,Nat.zero_le _,fun p1 hp1=>?_⟩
  have s1:Same H (upd H p1 (.lst [])):=Same.upd_new hp1
  refine ⟨b,p1,ys,[],rfl,rfl,SqL.of (s1 _ _ hB),SqL.of av,_,rfl,aQ (fun h0=>absurd h0 hy) (fun _=>?_)⟩
  generalize upd H p1 (.lst [])=H1 at s1 ⊢
  refine aD ⟨_,rfl,_,rfl,b,_,_,_,rfl,rfl,SqL.of (s1 _ _ hB),vv hy,_,rfl,?_⟩
  rw [oe]
  refine aD ⟨_,rfl,_,rfl,b,_,_,_,rfl,rfl,SqL.of (s1 _ _ hB),vv hy,_,rfl,?_⟩
  refine aD ⟨_,rfl,a,_,rfl,s1 _ _ hA,_,rfl,b,_,rfl,s1 _ _ hB,_,_,rfl,rfl,_,_,rfl,rfl,?_⟩
  dsimp only
  rw [List.length_map,List.length_map]
  have est:((xs.length:Int)-1-((ys.length:Int)-1)+1).toNat=bj xs ys:=by unfold bj;omega
  generalize hst:((xs.length:Int)-1-((ys.length:Int)-1)+1)=st at est ⊢
  refine aD ?_
  refine aD ⟨by show 1<=sizeLine;decide,fun p2 hp2=>⟨_,rfl,p2,_,_,rfl,rfl,av,by omega,by omega,by show 1*_<=_;omega,fun q hq=>?_⟩⟩
  rw [est,se]
  have s2:=s1.then_new (o:=.lst [V.int 0]) hp2
  have s3:=s2.then_new (o:=.lst ((List.replicate (bj xs ys) (0:Int)).map V.int)) hq
  have fq:H q=none:=s2.free hq
  refine aD ⟨_,rfl,a,_,rfl,.inl (SqL.of (s3 _ _ hA)),fun r hr'=>?_⟩
  have hq3:upd (upd H1 p2 (.lst [V.int 0])) q (.lst ((List.replicate (bj xs ys) (0:Int)).map V.int)) q=some (.lst ((List.replicate (bj xs ys) (0:Int)).map V.int)):=av
  have s4:=s3.then_new (o:=.lst (xs.map V.int)) hr'
  have fr:H r=none:=s3.free hr'
  have nqr:q≠r:=aZ hq3 hr'
  generalize hH4:upd (upd (upd H1 p2 (.lst [V.int 0])) q (.lst ((List.replicate (bj xs ys) (0:Int)).map V.int))) r (.lst (xs.map V.int))=H4 at s4 ⊢
  have hq4:H4 q=some (.lst ((List.replicate (bj xs ys) (0:Int)).map V.int)):=by rw [<- hH4,upd_ne nqr];exact hq3
  have hr4:H4 r=some (.lst (xs.map V.int)):=by rw [<- hH4,av]
  have hs:Bits nb (((cf ys (ys.length-1)).natAbs:Nat):Int):=vz (by'.cf _)
  refine ⟨_,rfl,_,_,rfl,rfl,_,rfl,_,rfl,st-1,-1,rfl,by omega,?_⟩
  have en:(st-1 - -1).toNat=bj xs ys:=by rw [<- est];congr 1;omega
  rw [en]
  refine zy (fun i σ' H'=>∃ (q r:Addr) (z8 z9:Option V),σ'=[some (.ref a),some (.ref b),some (.int ((cf ys (ys.length-1)).natAbs:Nat)),some (.int (sg (cf ys (ys.length-1)))),some (.int st),some (.int (((cf ys (ys.length-1)).natAbs:Int)^i)),some (.ref q),some (.ref r),z8,z9]/\Same H H'/\H q=none/\H r=none/\q≠r/\H' q=some (.lst ((aU xs ys i).1.map V.int))/\H' r=some (.lst ((aU xs ys i).2.map V.int)))
   ⟨q,r,none,none,rfl,s4,fq,fr,nqr,hq4,hr4⟩ ?_ ?_
  ·rintro i σ' H' hi ⟨q,r,z8,z9,rfl,sm,fq,fr,nqr,hq',hr'⟩
   obtain ⟨lq,lr,low,_⟩:=iZ (a:=xs) hy i (Nat.le_of_lt hi)
   obtain ⟨bq,br⟩:=zS bx by' i
   have hix:i<xs.length:=by unfold bj at hi;omega
   have bi:=bsz i (Nat.le_of_lt hix)
   have rne:(aU xs ys i).2≠[]:=fun z=>by rw [z] at lr;simp at lr;omega
   have ep:st-1+(i:Int) * -1=((xs.length+1-ys.length-1-i:Nat):Int):=by unfold bj at hi est;omega
   refine aD ⟨_,rfl,_,rfl,_,rfl,r,_,_,_,rfl,rfl,SqL.of hr',vv rne,_,_,rfl,rfl,⟨sg_bits.mono,(br.cf _).mono bi⟩,?_⟩
   have bpow:Bits 1000000 (((cf ys (ys.length-1)).natAbs:Int)^i):=(jb hs i).mono (by
    have:=Nat.mul_le_mul_right i (show nb<=nb+1 by omega)
    rw [Nat.mul_comm (nb+1) i] at this
    have h2:=bsz (i+1) hix
    rw [Nat.succ_mul] at h2
    omega)
   refine aD ⟨_,rfl,_,rfl,_,_,rfl,rfl,⟨bpow,hs.mono hnb⟩,?_⟩
   dsimp only
   rw [<- Int.pow_succ]
   refine aD ⟨_,rfl,_,rfl,q,_,_,rfl,hq',by rw [lq];omega,hs.mono hnb,bq.mono bi,fun q1 H2 sm2 hq1 eq1=>?_⟩
   have fq1:H q1=none:=sm.free hq1
   have sm2':=sm.trans sm2
   have hpl:xs.length+1-ys.length-1-i<(scL ((cf ys (ys.length-1)).natAbs:Int) (aU xs ys i).1).length:=by rw [ck,lq];unfold bj at hi;omega
   refine ⟨_,rfl,_,rfl,_,rfl,q1,_,_,_,rfl,rfl,eq1,lJ ep (by rw [List.length_map];exact hpl),?_⟩
   rw [pJ]
   have sm3:Same H (upd H2 q1 (.lst (((scL ((cf ys (ys.length-1)).natAbs:Int) (aU xs ys i).1).set (xs.length+1-ys.length-1-i) (sg (cf ys (ys.length-1))*cf (aU xs ys i).2 ((aU xs ys i).2.length-1))).map V.int))):=fQ sm2' fq1
   have nq1r:q1≠r:=fun z=>by rw [z,hr'] at hq1;cases hq1
   have hr3:upd H2 q1 (.lst (((scL ((cf ys (ys.length-1)).natAbs:Int) (aU xs ys i).1).set (xs.length+1-ys.length-1-i) (sg (cf ys (ys.length-1))*cf (aU xs ys i).2 ((aU xs ys i).2.length-1))).map V.int)) r=some (.lst ((aU xs ys i).2.map V.int)):=by rw [upd_ne (Ne.symm nq1r)];exact sm2 _ _ hr'
   have hq3:upd H2 q1 (.lst (((scL ((cf ys (ys.length-1)).natAbs:Int) (aU xs ys i).1).set (xs.length+1-ys.length-1-i) (sg (cf ys (ys.length-1))*cf (aU xs ys i).2 ((aU xs ys i).2.length-1))).map V.int)) q1=some (.lst (((scL ((cf ys (ys.length-1)).natAbs:Int) (aU xs ys i).1).set (xs.length+1-ys.length-1-i) (sg (cf ys (ys.length-1))*cf (aU xs ys i).2 ((aU xs ys i).2.length-1))).map V.int)):=av
   generalize upd H2 q1 (.lst (((scL ((cf ys (ys.length-1)).natAbs:Int) (aU xs ys i).1).set (xs.length+1-ys.length-1-i) (sg (cf ys (ys.length-1))*cf (aU xs ys i).2 ((aU xs ys i).2.length-1))).map V.int))=H3 at sm3 hr3 hq3 ⊢
   refine ⟨_,rfl,_,rfl,r,_,_,rfl,hr3,by rw [lr];omega,hs.mono hnb,br.mono bi,fun r1 H5 sm5 hr1 er1=>?_⟩
   have sm35:=sm3.trans sm5
   refine ⟨_,rfl,_,rfl,_,rfl,r1,b,_,_,(xs.length+1-ys.length-1-i),sg (cf ys (ys.length-1))*cf (aU xs ys i).2 ((aU xs ys i).2.length-1),?_,er1,sm35 _ _ hB,?_,hy,(mI (br.cf _)).mono bi,by'.mono hnb,fun r2 H6 sm6 hr2 er2=>?_⟩
   ·rw [<- ep];rfl
   ·rw [ck,lr];unfold bj at hi;omega
   ·have nqr2:q1≠r2:=fun z=>by rw [<- z,sm5 _ _ hq3] at hr2;cases hr2
    exact ⟨q1,r2,_,_,rfl,sm35.trans sm6,fq1,sm35.free hr2,nqr2,sm6 _ _ (sm5 _ _ hq3),er2⟩
  ·rintro σ' H' ⟨q,r,z8,z9,rfl,sm,fq,fr,nqr,hq',hr'⟩
   refine ⟨_,rfl,_,rfl,_,rfl,r,_,rfl,SqL.of hr',fun r1 H2 sm2 hr1 er1=>⟨by show 3<=sizeLine;decide,fun t ht=>?_⟩⟩
   have nqr1:q≠r1:=fun z=>by rw [<- z,hq'] at hr1;cases hr1
   have ntq:q≠t:=aZ (sm2 _ _ hq') ht
   have ntr:r1≠t:=aZ er1 ht
   refine k t q r1 _ ((sm.trans sm2).then_new ht) ((sm.trans sm2).free ht) fq (sm.free hr1) nqr1 ntq ntr av ?_ ?_
   ·rw [upd_ne ntq];exact sm2 _ _ hq'
   ·rw [upd_ne ntr];exact er1
def Vp (C:Addr) (H:Hp) (vs:List V) (a r:Addr) (ns:List Int) (t b:Int):Prop:=vs=[.ref a,.ref r]/\H a=some (.lst (ns.map V.int))/\RA C H r t b/\ns.length<=20/\AllB 95000 ns/\Bits 3000 t/\Bits 3000 b
def VpI (H:Hp) (vs:List V) (a:Addr) (ns:List Int) (t b:Int):Prop:=vs=[.ref a,.int t,.int b]/\H a=some (.lst (ns.map V.int))/\ns.length<=20/\AllB 95000 ns/\Bits 3000 t/\Bits 3000 b
def qQ:Sp:=fun vs H Q _=>∃ (a:Addr) (ns:List Int) (t b:Int),VpI H vs a ns t b/\∀ (p:Addr) (H':Hp),Same H H'->H p=none->H' p=some (.tup [.int (hv t b ns),.int (b^ns.length)])->Q (.ref p) H'
theorem zr {t b:Int} (bt:Bits 3000 t) (bb:Bits 3000 b):∀ {l:List Int},AllB 95000 l->Bits (95000+1+(3000+1)*l.length) (hv t b l)
 | [],_=>by refine Bits.mono (j:=1) ?_ (by omega);show (0:Int).natAbs<2^1;decide
 | v::l,h=>by
   rw [dD]
   have h1:=h v (List.mem_cons_self ..)
   have h2:=zr bt bb (l:=l) fun x hx=>h x (List.mem_cons_of_mem _ hx)
   have e1:=(h1.mul (jb bb (l.length+1))).mono (k:=95000+1+(3000+1)*l.length+3000) (by omega)
   have e2:=(bt.mul h2).mono (k:=95000+1+(3000+1)*l.length+3000) (by omega)
   exact (e1.add e2).mono (by rw [List.length_cons];omega)
theorem DZ {f:Addr} {fd:FuncData} (F:Fun K "value_parts" "value_parts" jJ f fd) (T:Txt K mg):FnOk P w K mg base CX0 1 f fd ["row","top","bottom"] qQ:=by
 refine F.ok sc_value_parts (fun vs H Q E h=>?_) (fun cdv A outer s H vs Q E hr h=>?_)
 ·obtain ⟨a,ns,t,b,⟨rfl,_⟩,_⟩:=h
  rfl
 ·obtain ⟨a,ns,t,b,⟨rfl,hA,hn,hb,bt,bb⟩,k⟩:=h
  refine ⟨_,(ah (ap (i:=3) sc_value_parts.nd rfl (Or.inl rfl) af)
   (ah (ap (i:=4) sc_value_parts.nd rfl (Or.inl rfl) af)
   (ah (cR PassesOwn.never rfl (sC rfl T.reversed_ (aa (pv 0) ac)) (aT (i:=5) sc_value_parts.nd rfl (Or.inl rfl))
     (ah (ap (i:=4) sc_value_parts.nd rfl (Or.inl rfl) (aj aN (pv 4) (pv 2)))
       (ao (ap (i:=3) sc_value_parts.nd rfl (Or.inl rfl) (aj bI (aj aN (pv 3) (pv 1)) (aj aN (pv 5) (pv 4)))))))
   (ao (aC (cU (aa (pv 3) (aa (pv 4) ac)))))))),?_⟩
  have hl:(ns.map V.int).length=ns.length:=List.length_map _
  refine aD ?_
  refine aD ?_
  refine ⟨_,rfl,a,_,rfl,SqL.of hA,tY (K:=K) (a:=a) (xs:=ns.map V.int) (fun i σ' H'=>∃ z:Option V,σ'=[some (.ref a),some (.int t),some (.int b),some (.int (hv t b (ns.drop (ns.length-i)))),some (.int (b^i)),z]/\H=H') ⟨none,?_,rfl⟩ ?_ ?_ ?_⟩
  ·rw [Nat.sub_zero,List.drop_length,Int.pow_zero];rfl
  ·rintro i σ' H' _ ⟨z,rfl,rfl⟩
   exact SqL.of hA
  ·rintro i x σ' H' hi hx ⟨z,rfl,rfl⟩
   rw [hl] at hi hx
   obtain ⟨c,ec,rfl,hc,_⟩:=ga hx
   have hi':i<ns.length:=hi
   have e1:ns.length-(i+1)=ns.length-1-i:=by omega
   have hd:=JE t b (l:=ns) (n:=ns.length-1-i) (by omega)
   have e2:ns.length-1-i+1=ns.length-i:=by omega
   have e3:ns.length-(ns.length-1-i)=i+1:=by omega
   rw [e2,e3,Aq ec] at hd
   have bs:=zr bt bb (l:=ns.drop (ns.length-i)) fun x hx=>hb x (List.mem_of_mem_drop hx)
   rw [List.length_drop] at bs
   have bp:=jb bb i
   have bq:=jb bb (i+1)
   refine ⟨_,rfl,_,rfl,_,_,rfl,rfl,⟨bp.mono (by omega),bb.mono⟩,?_⟩
   refine ⟨_,rfl,_,rfl,_,_,rfl,rfl,⟨bs.mono (by omega),bt.mono⟩,_,rfl,_,rfl,_,_,rfl,rfl,⟨(hb c hc).mono,?_⟩,_,_,rfl,rfl,?_⟩
   ·show Bits 1000000 (b^i*b)
    rw [<- Int.pow_succ];exact bq.mono (by omega)
   refine ⟨some (.int c),?_,rfl⟩
   rw [e1,hd,Int.pow_succ b i,Int.add_comm,Int.mul_comm t]
   rfl
  ·rintro σ' H' ⟨z,rfl,rfl⟩
   rw [hl,Nat.sub_self,List.drop_zero]
   exact ⟨_,rfl,_,rfl,by show 2<=sizeLine;decide,fun p hp=>k p _ (Same.upd_new hp) hp av⟩
def jC (C:Addr):Sp:=fun vs H Q _=>∃ (a r:Addr) (ns:List Int) (t b:Int),Vp C H vs a r ns t b/\∀ H',Same H H'->Q (.int (sg (hv t b ns))) H'
theorem D8 {C f:Addr} {fd:FuncData} (F:Fun K "sign_at" "sign_at" jR f fd) (T:Txt K mg) (R:RCI K mg C) {IN:Addr} {HQ:FuncData} (LA:Cal P w K mg base 1 "value_parts" ["row","top","bottom"] qQ IN HQ) {iR:Addr} {iK:FuncData} (jp:Cal P w K mg base 1 "whole_sign" ["value"] jB iR iK):FnOk P w K mg base CX0 2 f fd ["row","ratio"] (jC C):=by
 obtain ⟨KO,FK,GJ,J2⟩:=LA
 obtain ⟨jj,ip,iz,jc⟩:=jp
 refine F.ok Cl (fun vs H Q E h=>?_) (fun cdv A outer s H vs Q E hr h=>?_)
 ·obtain ⟨a,r,ns,t,b,⟨rfl,_⟩,_⟩:=h
  rfl
 ·obtain ⟨a,r,ns,t,b,hV,k⟩:=h
  obtain ⟨rfl,hA,⟨dx,hR⟩,hn,hbs,bt,bb⟩:=hV
  refine ⟨_,(ao (aC (aq jj (hr.mono) rfl ip iz jc .nil ai (aa (aI (aX (K:=K) rfl) (aq KO (hr.mono) rfl FK GJ J2 .nil ai (aa (pv 0) (aa (aO (K:=K) rfl (pv 1) rfl) (aa (aO (K:=K) rfl (pv 1) rfl) ac)))) af (fun _ _=>rfl)) ac)))),?_⟩
  refine ⟨_,rfl,_,rfl,r,C,dx,_,_,rfl,hR,R.cl,R.nT,cM _ _,_,rfl,r,C,dx,_,_,rfl,hR,R.cl,R.nB,bQ _ _,a,ns,t,b,⟨rfl,hA,hn,hbs,bt,bb⟩,fun p H1 s1 hp e1=>?_⟩
  exact ⟨p,_,_,_,rfl,rfl,SqT.of e1,rfl,_,rfl,k H1 s1⟩
theorem b60:Bits 200 (10^60):=by show ((10:Int)^60).natAbs<2^200;decide +kernel
theorem b30:Bits 100 (10^30):=by show ((10:Int)^30).natAbs<2^100;decide +kernel
theorem AK {xs:List V} {n:Int} (hn:n=xs.length) (h:0<n) (c:Int):∃ v,v∈xs/\atI xs (c%n)=some v:=by
 have h1:=Int.emod_nonneg c (Int.ne_of_gt h)
 have h2:=Int.emod_lt_of_pos c h
 obtain ⟨j,hj⟩:=Int.eq_ofNat_of_zero_le h1
 have hl:j<xs.length:=by omega
 refine ⟨xs[j],List.getElem_mem hl,?_⟩
 rw [hj]
 exact md (by simp [hl])
def Fit (one other:List Int):Prop:=Tr one/\Tr other/\∃ n,AllB n one/\AllB n other/\(one.length+2)*(n+1)<=1000000/\other.length<=1000000
def Run:Nat->List Int->List Int->Prop
 | 0,one,_=>one=[]
 | n+1,one,other=>one=[]\/(Fit one other/\Run n other (nxt one other))
def yJ (H:Hp) (Q:VK) (xss:List (List Int)):Prop:=∀ (l:Addr) (ps:List Addr) (H':Hp),Same H H'->H l=none->(∀ p∈ps,H p=none/\p≠l)->H' l=some (.lst (ps.map V.ref))->RwH H' ps xss->Q (.ref l) H'
theorem RwH.upd_ne {H:Hp} {ps:List Addr} {xss:List (List Int)} {a:Addr} {o:HO} (h:RwH H ps xss) (hn:∀ p∈ps,p≠a):RwH (upd H a o) ps xss:=⟨h.1,fun i p xs e1 e2=>by rw [L2.upd_ne (hn p (List.mem_of_getElem? e1))];exact h.2 i p xs e1 e2⟩
def qZ:Sp:=fun vs H Q _=>∃ (a b:Addr) (xs ys:List Int) (n:Nat),vs=[.ref a,.ref b]/\H a=some (.lst (xs.map V.int))/\H b=some (.lst (ys.map V.int))/\Tr xs/\Tr ys/\xs.length<=1000/\ys.length<=1000/\n<=1000/\Run n (ar xs) (ar ys)/\yJ H Q (bF n (ar xs) (ar ys))
theorem Ee {f:Addr} {fd:FuncData} (F:Fun K "row_from" "row_from" jW f fd) (T:Txt K mg) {uC:Addr} {ue:FuncData} (vN:Cal P w K mg base 33 "shrunk" ["row"] oI uC ue) {iV:Addr} {iP:FuncData} (ju:Cal P w K mg base 2 "divided" ["first","second"] jE iV iP) {IO:Addr} {HR:FuncData} (LC:Cal P w K mg base 2 "taken" ["first","second"] (jF K cF) IO HR):FnOk P w K mg base CX0 34 f fd ["first","second"] qZ:=by
 obtain ⟨og,mZ,nj,nY⟩:=vN
 obtain ⟨jm,iu,iC,jf⟩:=ju
 obtain ⟨KP,FL,GK,J3⟩:=LC
 refine F.ok sc_row_from (fun vs H Q E h=>?_) (fun cdv A outer s H vs Q E hr h=>?_)
 ·obtain ⟨a,b,xs,ys,n,rfl,_⟩:=h
  rfl
 ·obtain ⟨a,b,xs,ys,n,rfl,hA,hB,xtr,ytr,hx,hy,hn,hrun,k⟩:=h
  have big:=sizeLine_eq
  have hu:=hr.units
  refine ⟨_,(ah (ap (i:=2) sc_row_from.nd rfl (Or.inl rfl) (bz ac))
   (ah (ap (i:=3) sc_row_from.nd rfl (Or.inl rfl) (aq og (hr.mono) rfl mZ nj nY .nil ai (aa (pv 0) ac)))
   (ah (ap (i:=4) sc_row_from.nd rfl (Or.inl rfl) (aq og (hr.mono) rfl mZ nj nY .nil ai (aa (pv 1) ac)))
   (ah (fN PassesOwn.never (aM (ik (K:=K) rfl hu) (pv 3) (bz ac) (aH _))
     (ah (fO (lj PySem.F.plainAttrs_list PySem.F.slot_list_append PySem.F.type_list_append lC (pv 2) (aa (pv 3) ac)))
       (ah (ap (i:=5) sc_row_from.nd rfl (Or.inl rfl) (sF (aM (ln (K:=K) rfl hu) (pv 4) (bz ac) (aH _)) (bz ac) (aI (aX (K:=K) rfl) (aq jm (hr.mono) rfl iu iC jf .nil ai (aa (pv 3) (aa (pv 4) ac))) af (fun _ _=>rfl))))
       (ah (ap (i:=3) sc_row_from.nd rfl (Or.inl rfl) (pv 4))
       (ao (ap (i:=4) sc_row_from.nd rfl (Or.inl rfl) (aq og (hr.mono) rfl mZ nj nY .nil ai (aa (aq KP (hr.mono) rfl FL GK J3 .nil ai (aa (bz ac) (aa (pv 5) ac))) ac))))))))
   (ao (aC (pv 2))))))),?_⟩
  refine aD ⟨Nat.zero_le _,fun l hl=>?_⟩
  have s1:=Same.upd_new (o:=.lst []) hl
  have hl1:upd H l (.lst []) l=some (.lst (([]:List Addr).map V.ref)):=av
  generalize upd H l (.lst [])=H1 at s1 hl1 ⊢
  refine aD ⟨_,rfl,a,xs,rfl,s1 _ _ hA,xtr,by omega,fun p1 H2 sm2 hp1 e1=>?_⟩
  have s2:=s1.trans sm2
  refine aD ⟨_,rfl,b,ys,rfl,s2 _ _ hB,ytr,by omega,fun p2 H3 sm3 hp2 e2=>?_⟩
  have s3:=s2.trans sm3
  have n1l:p1≠l:=fun z=>by rw [z,hl1] at hp1;cases hp1
  have n2l:p2≠l:=fun z=>by rw [z,sm2 _ _ hl1] at hp2;cases hp2
  generalize ar xs=one' at hrun k e1
  generalize ar ys=other at hrun k e2
  refine ⟨fun m σ' H'=>∃ (po pt:Addr) (one other':List Int) (ps:List Addr) (acc:List (List Int)) (z5:Option V),σ'=[some (.ref a),some (.ref b),some (.ref l),some (.ref po),some (.ref pt),z5]/\Same H H'/\H' l=some (.lst (ps.map V.ref))/\RwH H' ps acc/\(∀ p∈ps,H p=none/\p≠l)/\H' po=some (.lst (one.map V.int))/\H' pt=some (.lst (other'.map V.int))/\H po=none/\H pt=none/\po≠l/\pt≠l/\Run m one other'/\acc++bF m one other'=bF n one' other/\ps.length+m<=1000,
   ⟨_,p1,p2,one',other,[],[],none,rfl,s3,sm3 _ _ (sm2 _ _ hl1),RwH.nil,(fun p hp=>nomatch hp),sm3 _ _ e1,e2,s1.free hp1,s2.free hp2,n1l,n2l,hrun,rfl,by show 0+n<=1000;omega⟩,?_⟩
  rintro m σ' H4 ⟨po,pt,one,other',ps,acc,z5,rfl,s4,hl4,hR4,hf4,ho4,ht4,fo,ft,nol,ntl,hrun4,hacc,hlen⟩
  refine ⟨_,rfl,Nat.zero_le _,fun q hq=>?_⟩
  have t5:=Same.upd_new (o:=.lst []) hq
  refine ⟨po,q,one,[],rfl,rfl,SqL.of (t5 _ _ ho4),SqL.of av,_,rfl,cZ (fun hne=>?_) (fun he=>?_)⟩
  rotate_left
  ·have he':one=[]:=he
   subst he'
   rw [mK,List.append_nil] at hacc
   refine ⟨_,rfl,k l ps _ (s4.trans t5) hl hf4 (t5 _ _ hl4) ?_⟩
   rw [<- hacc]
   exact hR4.same t5
  have hne':one≠[]:=hne
  obtain ⟨m1,rfl⟩:∃ m1,m=m1+1:=by
   cases m with
   | zero=>exact absurd hrun4 hne'
   | succ m1=>exact ⟨m1,rfl⟩
  obtain ⟨⟨otr,ttr,nb,bo,bt,hsz,htl⟩,hrun5⟩:=(show one=[]\/(Fit one other'/\Run m1 other' (nxt one other')) from hrun4).resolve_left hne'
  have hacc5:(acc++[one])++bF m1 other' (nxt one other')=bF n one' other:=by
   rw [<- hacc]
   show _=acc++(if one=[] then [] else one::bF m1 other' (nxt one other'))
   rw [if_neg hne',List.append_assoc];rfl
  generalize hH5:upd H4 q (.lst [])=H5 at t5 ⊢
  refine ⟨fun σ'' H''=>∃ m',m'<m1+1/\∃ (po pt:Addr) (one other':List Int) (ps:List Addr) (acc:List (List Int)) (z5:Option V),σ''=[some (.ref a),some (.ref b),some (.ref l),some (.ref po),some (.ref pt),z5]/\Same H H''/\H'' l=some (.lst (ps.map V.ref))/\RwH H'' ps acc/\(∀ p∈ps,H p=none/\p≠l)/\H'' po=some (.lst (one.map V.int))/\H'' pt=some (.lst (other'.map V.int))/\H po=none/\H pt=none/\po≠l/\pt≠l/\Run m' one other'/\acc++bF m' one other'=bF n one' other/\ps.length+m'<=1000,fun _ _ h=>h,?_⟩
  have hl5:=t5 _ _ hl4
  refine hI ⟨_,rfl,.inl ⟨rfl,_,SqL.of hl5⟩,_,rfl,l,_,_,rfl,rfl,hl5,by rw [List.length_map];omega,?_⟩
  rw [FD]
  have s6:Same H (upd H5 l (.lst ((ps++[po]).map V.ref))):=fQ (s4.trans t5) hl
  have hl6:upd H5 l (.lst ((ps++[po]).map V.ref)) l=some (.lst ((ps++[po]).map V.ref)):=av
  have hf6:∀ p∈ps++[po],H p=none/\p≠l:=fun p hp=>by
   rcases List.mem_append.mp hp with h | h
   ·exact hf4 p h
   ·rw [List.mem_singleton.mp h];exact ⟨fo,nol⟩
  have hR6:RwH (upd H5 l (.lst ((ps++[po]).map V.ref))) (ps++[po]) (acc++[one]):=((hR4.same t5).snoc (t5 _ _ ho4)).upd_ne fun p hp=>(hf6 p hp).2
  have ho6:upd H5 l (.lst ((ps++[po]).map V.ref)) po=some (.lst (one.map V.int)):=by rw [L2.upd_ne nol];exact t5 _ _ ho4
  have ht6:upd H5 l (.lst ((ps++[po]).map V.ref)) pt=some (.lst (other'.map V.int)):=by rw [L2.upd_ne ntl];exact t5 _ _ ht4
  generalize upd H5 l (.lst ((ps++[po]).map V.ref))=H6 at s6 hl6 hR6 ho6 ht6 ⊢
  refine C4 (fun σ' H'=>∃ pr:Addr,σ'=[some (.ref a),some (.ref b),some (.ref l),some (.ref po),some (.ref pt),some (.ref pr)]/\Same H6 H'/\H' pr=some (.lst ((rst one other').map V.int))) ?_ ?_
  case refine_2 =>
   intro rest
   refine da (C0 ⟨_,rfl,Nat.zero_le _,fun q2 hq2=>?_⟩)
   have t7:=Same.upd_new (o:=.lst []) hq2
   refine ⟨pt,q2,other',[],rfl,rfl,SqL.of (t7 _ _ ht6),SqL.of av,_,rfl,aQ (fun h0=>?_) (fun h0=>?_)⟩
   ·have h0':other'=[]:=h0
    refine ⟨Nat.zero_le _,fun q3 hq3=>rest _ _ ⟨q3,rfl,t7.then_new hq3,?_⟩⟩
    rw [av];unfold rst;rw [if_pos h0'];rfl
   ·have h0':other'≠[]:=h0
    refine ⟨_,rfl,_,rfl,po,pt,one,other',nb,rfl,t7 _ _ ho6,t7 _ _ ht6,h0',bo,bt,hsz,htl,fun t q' r H8 sm8 _ _ _ _ _ _ et _ er=>?_⟩
    refine ⟨t,_,_,_,rfl,rfl,SqT.of et,rfl,rest _ _ ⟨r,rfl,t7.trans sm8,?_⟩⟩
    rw [er];unfold rst;rw [if_neg h0']
  rintro σ' H8 ⟨pr,rfl,t8,hr8⟩
  refine aD ⟨_,rfl,?_⟩
  refine da ⟨Nat.zero_le _,fun q hq=>?_⟩
  have t9:=t8.then_new (o:=.lst []) hq
  have hrl:(rst one other').length<=1000000:=by
   unfold rst
   split
   ·exact Nat.zero_le _
   ·rename_i h0
    have:=gf (a:=one) h0
    omega
  refine ⟨_,rfl,q,pr,[],rst one other',rfl,SqL.of av,SqL.of (by rw [L2.upd_ne (aZ hr8 hq)];exact hr8),Nat.zero_le _,hrl,fun p9 H9 sm9 hp9 e9=>?_⟩
  have hsl:(cF [] (rst one other')).length<=1000000:=Nat.le_trans (tz _) (by unfold dM;rw [List.length_map,List.length_range];exact Nat.max_le.mpr ⟨Nat.zero_le _,hrl⟩)
  refine ⟨p9,_,rfl,e9,eQ _,hsl,fun p10 H10 sm10 hp10 e10=>?_⟩
  have t10:Same H6 H10:=(t9.trans sm9).trans sm10
  have f10:H6 p10=none:=(t9.trans sm9).free hp10
  refine ⟨m1,Nat.lt_succ_self _,pt,p10,other',nxt one other',ps++[po],acc++[one],_,rfl,s6.trans t10,t10 _ _ hl6,hR6.same t10,hf6,t10 _ _ ht6,e10,ft,s6.free f10,ntl,(fun z=>by rw [z,hl6] at f10;cases f10),hrun5,hacc5,by rw [List.length_append];show ps.length+1+m1<=1000;omega⟩
def mC:Sp:=fun vs H Q _=>∃ (a:Addr) (xs:List Int) (n:Nat),vs=[.ref a]/\H a=some (.lst (xs.map V.int))/\Tr xs/\AllB 90000 xs/\xs.length<=1000/\n<=1000/\Run n (ar xs) (ar (slopeL xs))/\yJ H Q (bF n (ar xs) (ar (slopeL xs)))
theorem wo {xs:List Int} (h:Tr xs):Tr (slopeL xs):=by
 intro n hn
 unfold slopeL at *
 rw [List.length_map,List.length_range] at hn
 rw [nU,if_pos (by omega)]
 exact Int.mul_ne_zero (by omega) (h (n+1) (by omega))
theorem Ed {f:Addr} {fd:FuncData} (F:Fun K "row_of" "row_of" jV f fd) (T:Txt K mg) {IU:Addr} {HY:FuncData} (LI:Cal P w K mg base 34 "row_from" ["first","second"] qZ IU HY) {uB:Addr} {ud:FuncData} (vM:Cal P w K mg base 1 "slope" ["row"] (sp1 slopeL) uB ud):FnOk P w K mg base CX0 35 f fd ["polynomial"] mC:=by
 obtain ⟨KU,FQ,GP,J8⟩:=LI
 obtain ⟨vC,tf,tJ,vh⟩:=vM
 refine F.ok Cn (fun vs H Q E h=>?_) (fun cdv A outer s H vs Q E hr h=>?_)
 ·obtain ⟨a,xs,n,rfl,_⟩:=h
  rfl
 ·obtain ⟨a,xs,n,rfl,hA,xtr,bx,hx,hn,hrun,k⟩:=h
  refine ⟨_,(ao (aC (aq KU (hr.mono) rfl FQ GP J8 .nil ai (aa (pv 0) (aa (aq vC (hr.mono) rfl tf tJ vh .nil ai (aa (pv 0) ac)) ac))))),?_⟩
  refine bh ⟨_,rfl,_,rfl,a,xs,rfl,hA,by omega,bx.mono,fun p H1 s1 hp e1=>?_⟩
  have hsl:(slopeL xs).length<=1000:=by unfold slopeL;rw [List.length_map,List.length_range];omega
  exact ⟨a,p,xs,slopeL xs,n,rfl,s1 _ _ hA,e1,xtr,wo xtr,hx,hsl,hn,hrun,fun l ps H' sm hl hf e r=>k l ps H' (s1.trans sm) (s1.free hl) (fun p hp=>⟨s1.free (hf p hp).1,(hf p hp).2⟩) e r⟩
def sgs (t b:Int) (xss:List (List Int)):List Int:=xss.map fun p=>sg (hv t b p)
def oT (C:Addr):Sp:=fun vs H Q _=>∃ (l r:Addr) (ps:List Addr) (xss:List (List Int)) (t b:Int),vs=[.ref l,.ref r]/\H l=some (.lst (ps.map V.ref))/\RwH H ps xss/\RA C H r t b/\Bits 3000 t/\Bits 3000 b/\(∀ xs∈xss,xs.length<=20/\AllB 95000 xs)/\xss.length<=1000000/\∀ H',Same H H'->Q (.int (chS (sgs t b xss)).1) H'
theorem B7 (t b:Int) (xss:List (List Int)):∀ s∈sgs t b xss,s.natAbs<=1:=fun s hs=>by
 obtain ⟨x,_,rfl⟩:=List.mem_map.mp hs
 exact xu _
theorem B6 {t b:Int} {xss:List (List Int)} {i:Nat} {xs:List Int} (h:xss[i]?=some xs):sgs t b (xss.take (i+1))=sgs t b (xss.take i)++[sg (hv t b xs)]:=by
 unfold sgs
 rw [List.take_add_one,h,List.map_append];rfl
theorem yh {x:Int} (h:x.natAbs<=1):Bits 1000000 x:=Bits.mono (j:=1) (Nat.lt_of_le_of_lt h (by decide)) (by decide)
theorem EG {C f:Addr} {fd:FuncData} (F:Fun K "changes" "changes" kq f fd) (T:Txt K mg) (R:RCI K mg C) {iS:Addr} {iL:FuncData} (jq:Cal P w K mg base 2 "sign_at" ["row","ratio"] (jC C) iS iL):FnOk P w K mg base CX0 3 f fd ["row","ratio"] (oT C):=by
 obtain ⟨jk,iq,iA,jd⟩:=jq
 refine F.ok sc_changes (fun vs H Q E h=>?_) (fun cdv A outer s H vs Q E hr h=>?_)
 ·obtain ⟨l,r,ps,xss,t,b,rfl,_⟩:=h
  rfl
 ·obtain ⟨l,r,ps,xss,t,b,rfl,hL,hR,hRA,bt,bb,hb,hn,k⟩:=h
  refine ⟨_,(ah (ap (i:=2) sc_changes.nd rfl (Or.inl rfl) af)
   (ah (ap (i:=3) sc_changes.nd rfl (Or.inl rfl) af)
   (ah (cR PassesOwn.never rfl (dY (K:=K) rfl (pv 0)) (aT (i:=4) sc_changes.nd rfl (Or.inl rfl))
     (ah (ap (i:=5) sc_changes.nd rfl (Or.inl rfl) (aq jk (hr.mono) rfl iq iA jd .nil ai (aa (pv 4) (aa (pv 1) ac))))
       (ah (aV (aM du (aj aN (pv 5) (pv 3)) af (aH _))
         (ao (ap (i:=2) sc_changes.nd rfl (Or.inl rfl) (aj bI (pv 2) af)))
         aW)
       (ao (aV (aM ll (pv 5) af (aH _))
         (ao (ap (i:=3) sc_changes.nd rfl (Or.inl rfl) (pv 5)))
         aW)))))
   (ao (aC (pv 2)))))),?_⟩
  have hpl:(ps.map V.ref).length=xss.length:=by rw [List.length_map,hR.1]
  refine aD ?_
  refine aD ?_
  refine ⟨_,rfl,l,rfl,⟨_,SqL.of hL⟩,nC (K:=K) (a:=l) (xs:=ps.map V.ref) (fun i σ' H'=>∃ (z4 z5:Option V),σ'=[some (.ref l),some (.ref r),some (.int (chS (sgs t b (xss.take i))).1),some (.int (chS (sgs t b (xss.take i))).2),z4,z5]/\Same H H') ⟨none,none,rfl,fun _ _ e=>e⟩ ?_ ?_ ?_⟩
  ·rintro i σ' H' _ ⟨z4,z5,rfl,sm⟩
   exact SqL.of (sm _ _ hL)
  ·rintro i x σ' H1 hi ⟨z4,z5,rfl,s1⟩
   obtain ⟨p,xs,rfl,ep,ex,hp,hlt⟩:=hR.of_get hi
   obtain ⟨hx1,hx2⟩:=hb xs (List.mem_of_getElem? ex)
   show dk (gW _ (iJ 5)) _ _ _ _
   refine aD ⟨_,rfl,_,rfl,p,r,xs,t,b,⟨rfl,s1 _ _ hp,hRA.same s1,hx1,hx2,bt.mono,bb.mono⟩,fun H2 sm2=>?_⟩
   have s2:=s1.trans sm2
   obtain ⟨c1,c2,c3⟩:=JS _ (B7 t b (xss.take i))
   rw [B6 ex,Ak]
   have hs:=xu (hv t b xs)
   generalize sg (hv t b xs)=s at hs ⊢
   generalize chS (sgs t b (xss.take i))=z at c1 ⊢
   obtain ⟨m,bf⟩:=z
   dsimp only
   refine fb (fun σ' H'=>σ'=[some (.ref l),some (.ref r),some (.int (if s*bf<0 then m+1 else m)),some (.int bf),some (.ref p),some (.int s)]/\H2=H') ?_ ?_
   case refine_2 =>
    intro rest
    refine ⟨_,rfl,_,rfl,_,_,rfl,rfl,⟨yh hs,yh c1⟩,_,_,rfl,rfl,_,rfl,aQ (fun h1=>?_) (fun h1=>?_)⟩
    ·refine da ⟨_,rfl,_,_,rfl,rfl,rest _ _ ⟨?_,rfl⟩⟩
     rw [if_pos h1];rfl
    ·refine rest _ _ ⟨?_,rfl⟩
     rw [if_neg h1];rfl
   rintro σ' H' ⟨rfl,rfl⟩
   refine ⟨_,rfl,_,_,rfl,rfl,_,rfl,cZ (fun h1=>?_) (fun h1=>?_)⟩
   ·refine da ⟨_,rfl,some (.ref p),some (.int s),?_,s2⟩
    unfold chF
    have h1':¬ s=0:=h1
    rw [if_neg h1'];rfl
   ·refine ⟨some (.ref p),some (.int s),?_,s2⟩
    unfold chF
    have h1':s=0:=h1
    rw [if_pos h1']
  ·rintro σ' H' ⟨z4,z5,rfl,sm⟩
   rw [hpl,List.take_length]
   exact ⟨_,rfl,k H' sm⟩
def oS (C:Addr):Sp:=fun vs H Q _=>∃ (l r r2:Addr) (ps:List Addr) (xss:List (List Int)) (t b t2 b2:Int),vs=[.ref l,.ref r,.ref r2]/\H l=some (.lst (ps.map V.ref))/\RwH H ps xss/\RA C H r t b/\RA C H r2 t2 b2/\Bits 3000 t/\Bits 3000 b/\Bits 3000 t2/\Bits 3000 b2/\(∀ xs∈xss,xs.length<=20/\AllB 95000 xs)/\xss.length<=1000000/\∀ H',Same H H'->Q (.int ((chS (sgs t b xss)).1-(chS (sgs t2 b2 xss)).1)) H'
theorem ED {C f:Addr} {fd:FuncData} (F:Fun K "count" "count" km f fd) (T:Txt K mg) (R:RCI K mg C) {uI:Addr} {uk:FuncData} (vU:Cal P w K mg base 3 "changes" ["row","ratio"] (oT C) uI uk):FnOk P w K mg base CX0 4 f fd ["row","low","high"] (oS C):=by
 obtain ⟨ml,lH,lI,lY⟩:=vU
 refine F.ok Cu (fun vs H Q E h=>?_) (fun cdv A outer s H vs Q E hr h=>?_)
 ·obtain ⟨l,r,r2,ps,xss,t,b,t2,b2,rfl,_⟩:=h
  rfl
 ·obtain ⟨l,r,r2,ps,xss,t,b,t2,b2,rfl,hL,hR,h1,h2,bt,bb,bt2,bb2,hb,hn,k⟩:=h
  refine ⟨_,(ao (aC (aj cs (aq ml (hr.mono) rfl lH lI lY .nil ai (aa (pv 0) (aa (pv 1) ac))) (aq ml (hr.mono) rfl lH lI lY .nil ai (aa (pv 0) (aa (pv 2) ac)))))),?_⟩
  refine bh ⟨_,rfl,_,rfl,l,r,ps,xss,t,b,rfl,hL,hR,h1,bt,bb,hb,hn,fun H1 s1=>?_⟩
  refine ⟨_,rfl,_,rfl,l,r2,ps,xss,t2,b2,rfl,s1 _ _ hL,hR.same s1,h2.same s1,bt2,bb2,hb,hn,fun H2 s2=>?_⟩
  exact ⟨_,_,rfl,rfl,k _ (s1.trans s2)⟩
theorem oa (i:Int):(if i<0 then -i else i)=(i.natAbs:Int):=by split<;>omega
theorem KC {l:List Int} (h:l≠[]):atI (l.map V.int) (-1)=some (.int (al l)):=by
 obtain ⟨r,x,rfl⟩:=(cP l).resolve_left h
 rw [dz,List.map_append];exact vx _ _
theorem JK {l:List Int}:gP l none (some (-1))=l.take (l.length-1):=by
 unfold gP
 rw [HT.sIx_none]
 have e:HT.sIx l.length l.length (some (-1))=l.length-1:=by
  unfold HT.sIx;simp;omega
 rw [e,List.drop_zero,Nat.sub_zero]
def isB (os:List Int) (l k:Nat):Prop:=(∀ x∈os,x.natAbs<=(2^k-1)*l)/\∀ j,j<k->∃ x∈os,(2^j-1)*l<x.natAbs
def mD (K:PySem.W.Frag):Sp:=fun vs H Q _=>∃ (a:Addr) (ns:List Int),vs=[.ref a]/\SqL K H a (ns.map V.int)/\Tr ns/\ns≠[]/\ns.length<=100000/\AllB 100000 ns /\
 ∀ (k:Nat) (H':Hp),k<=100000->isB (ns.take (ns.length-1)) (al ns).natAbs k->Same H H'->Q (.int ((2^k:Nat):Int)) H'
theorem Dn {os:List Int} {F:Int->Prop} (h:∀ g:Nat,(∀ x∈os,x.natAbs<=g)->(g=0\/∃ x∈os,x.natAbs=g)->F g) :
 (∀ M,M∈os.map (fun x=>(x.natAbs:Int))->(∀ a∈os.map (fun x=>(x.natAbs:Int)),a<=M)->F M)/\(os.map (fun x=>(x.natAbs:Int))=[]->F 0):=by
 constructor
 ·intro M hM ha
  obtain ⟨x,hx,rfl⟩:=List.mem_map.mp hM
  exact h x.natAbs (fun y hy=>Int.ofNat_le.mp (ha _ (List.mem_map.mpr ⟨y,hy,rfl⟩))) (.inr ⟨x,hx,rfl⟩)
 ·intro e
  have:os=[]:=List.map_eq_nil_iff.mp e
  subst this
  exact h 0 (fun x hx=>nomatch hx) (.inl rfl)
theorem EI {f:Addr} {fd:FuncData} (F:Fun K "bound" "bound" ku f fd) (T:Txt K mg):FnOk P w K mg base CX0 1 f fd ["row"] (mD K):=by
 refine F.ok sc_bound (fun vs H Q E h=>?_) (fun cdv A outer s H vs Q E hr h=>?_)
 ·obtain ⟨a,ns,rfl,_⟩:=h
  rfl
 ·obtain ⟨a,ns,rfl,hA,ht,hne,hn,hb,k⟩:=h
  have big:=sizeLine_eq
  refine ⟨_,(ah (ap (i:=1) sc_bound.nd rfl (Or.inl rfl) (bH fz (by rfl) T.abs_ PyProof.Rows.boot_abs (aa (aI (cw (K:=K) rfl) (pv 0) (bU bT af) (fun _ _=>rfl)) ac)))
   (ah (ap (i:=2) sc_bound.nd rfl (Or.inl rfl) (DN (K:=K) rfl rfl (by rfl) T.max_ (fh (own:=["value"]) (fr:=[]) (js:=[]) (by walk_at "comp_ok") rfl (dY (K:=K) rfl (pj (oV (K:=K) rfl) (pv 0) pd (pb (bU bT af)))) (fun _ _ _ _=>(aT (i:=0) (show List.Nodup (["value"]:List Str) from by decide +kernel) rfl (Or.inl rfl))) (fun _ _ _ _=>(bH fz (by rfl) T.abs_ PyProof.Rows.boot_abs (aa (pv 0) ac)))) af))
   (ah (ap (i:=3) sc_bound.nd rfl (Or.inl rfl) af)
   (ah (fN PassesOwn.never (aM du (aj aN (aj cs (pv 3) af) (pv 1)) (pv 2) (aH _))
     (ao (ap (i:=3) sc_bound.nd rfl (Or.inl rfl) (aj aN af (pv 3)))))
   (ao (aC (pv 3))))))),?_⟩
  refine aD ⟨_,rfl,_,rfl,a,_,_,_,rfl,rfl,hA,KC hne,_,rfl,?_⟩
  rw [oa]
  have hl0:al ns≠0:=by
   obtain ⟨r,x,rfl⟩:=(cP ns).resolve_left hne
   rw [dz];exact tr_snoc.mp ht
  generalize hL:(al ns).natAbs=L at k ⊢
  have hL1:1<=L:=by omega
  have bL:Bits 100000 (L:Int):=by
   obtain ⟨r,x,rfl⟩:=(cP ns).resolve_left hne
   rw [dz] at hL
   exact (hb x (by simp)).of_le (by omega)
  refine aD ⟨_,rfl,_,rfl,_,rfl,a,_,rfl,hA,fun p1 hp1=>?_⟩
  rw [uW,JK]
  have s1:Same H (upd H p1 (.lst ((ns.take (ns.length-1)).map V.int))):=Same.upd_new hp1
  have q1:upd H p1 (.lst ((ns.take (ns.length-1)).map V.int)) p1=some (.lst ((ns.take (ns.length-1)).map V.int)):=av
  generalize hO:ns.take (ns.length-1)=os at k s1 q1 ⊢
  generalize upd H p1 (.lst (os.map V.int))=H1 at s1 q1 ⊢
  have bO:AllB 100000 os:=fun x hx=>hb x (List.mem_of_mem_take (hO ▸ hx))
  have lO:os.length<=100000:=by rw [<- hO,List.length_take];omega
  refine ⟨p1,rfl,⟨_,SqL.of q1⟩,i8 (K:=K) (a:=p1) (xs:=os.map V.int) (fun i ys σ' H'=>∃ (z0:Option V),σ'=[z0]/\ys=((os.take i).map fun x=>(x.natAbs:Int)).map V.int/\H1=H') (by rw [List.length_map];omega) ⟨none,rfl,rfl,rfl⟩ ?_ ?_ ?_⟩
  ·rintro i ys σ' H' _ ⟨z0,rfl,rfl,rfl⟩
   exact ⟨SqL.of q1,by rw [List.length_map,List.length_map,List.length_take];exact Nat.min_le_left _ _⟩
  ·rintro i x ys σ' H' hi ⟨z0,rfl,rfl,rfl⟩
   rw [List.getElem?_map] at hi
   cases e:os[i]? with
   | none=>rw [e] at hi;cases hi
   | some c =>
     rw [e] at hi
     obtain rfl:=Option.some.inj hi
     refine ⟨_,rfl,_,rfl,_,rfl,?_,rfl⟩
     rw [List.take_add_one,e,oa]
     simp
  ·rintro ys σ' H' p ⟨z0,rfl,rfl,rfl⟩ hp
   rw [List.length_map,List.take_length]
   have s2:Same H (upd H1 p (.lst ((os.map fun x=>(x.natAbs:Int)).map V.int))):=s1.then_new hp
   refine ⟨p,_,rfl,SqL.of av,?_⟩
   generalize upd H1 p (.lst ((os.map fun x=>(x.natAbs:Int)).map V.int))=H2 at s2 ⊢
   refine And.symm (Dn fun g hg1 hg2=>?_)
   have bg:g<2^100000:=by
    rcases hg2 with rfl | ⟨x,hx,rfl⟩
    ·exact Nat.pow_pos (by decide)
    ·exact bO x hx
   refine aD ?_
   refine ⟨fun m σ' H'=>∃ k0:Nat,σ'=[some (.ref a),some (.int L),some (.int g),some (.int ((2^k0:Nat):Int))]/\H2=H'/\2*g+2-2^k0=m/\2^k0<=2*g+1/\∀ j,j<k0->(2^j-1)*L<g,⟨_,0,rfl,rfl,rfl,by omega,fun j hj=>absurd hj (Nat.not_lt_zero _)⟩,?_⟩
   rintro m σ' H' ⟨k0,rfl,rfl,rfl,h2,h3⟩
   have hk0:k0<=100000:=by
    have e:2^k0<2^100001:=by rw [Nat.pow_succ 2 100000];omega
    have:=(Nat.pow_lt_pow_iff_right (a:=2) (by decide)).mp e
    omega
   have hp:1<=2^k0:=Nat.pow_pos (by decide)
   have bk:Bits 100002 ((2^k0:Nat):Int):=by
    show ((2^k0:Nat):Int).natAbs<_
    rw [Int.natAbs_natCast]
    exact (Nat.pow_lt_pow_iff_right (a:=2) (by decide)).mpr (by omega)
   have bk1:Bits 100002 (((2^k0:Nat):Int)-1):=bk.of_le (by omega)
   have cast:(((2^k0:Nat):Int)-1)*(L:Int)=(((2^k0-1)*L:Nat):Int):=by
    rw [Int.natCast_mul,Int.natCast_sub hp];rfl
   refine ⟨_,rfl,_,_,rfl,rfl,_,rfl,_,_,rfl,rfl,⟨bk1.mono,bL.mono⟩,_,rfl,_,_,rfl,rfl,_,rfl,?_⟩
   rw [cast]
   refine aQ (fun hlt=>?_) (fun hge=>?_)
   ·have hlt':(2^k0-1)*L<g:=by exact Int.ofNat_lt.mp hlt
    have h4:2^k0-1<g:=Nat.lt_of_le_of_lt (Nat.le_mul_of_pos_right _ hL1) hlt'
    refine ⟨fun σ'' H''=>∃ m',m'<2*g+2-2^k0/\∃ k0:Nat,σ''=[some (.ref a),some (.int L),some (.int g),some (.int ((2^k0:Nat):Int))]/\H2=H''/\2*g+2-2^k0=m'/\2^k0<=2*g+1/\∀ j,j<k0->(2^j-1)*L<g,fun _ _ h=>h,?_⟩
    refine ⟨_,rfl,_,_,rfl,rfl,⟨Bits.mono (j:=2) (by show (2:Int).natAbs<2^2;decide) (by decide),bk.mono⟩,?_⟩
    have e2:(2:Int)*((2^k0:Nat):Int)=((2^(k0+1):Nat):Int):=by rw [Nat.pow_succ];omega
    have e3:2^(k0+1)=2*2^k0:=by rw [Nat.pow_succ];omega
    refine ⟨2*g+2-2^(k0+1),by omega,k0+1,by rw [<- e2];rfl,rfl,rfl,by omega,fun j hj=>?_⟩
    by_cases ej:j=k0
    ·subst ej;exact hlt'
    ·exact h3 j (by omega)
   ·have hge':¬ (2^k0-1)*L<g:=fun z=>hge (Int.ofNat_lt.mpr z)
    refine ⟨_,rfl,k k0 H2 hk0 ⟨fun x hx=>Nat.le_trans (hg1 x hx) (by omega),fun j hj=>?_⟩ s2⟩
    have h5:=h3 j hj
    rcases hg2 with rfl | ⟨x,hx,e⟩
    ·exact absurd h5 (Nat.not_lt_zero _)
    ·exact ⟨x,hx,by rw [e];exact h5⟩
def vJ (one other:List Int):Prop:=Tr one/\Tr other/\∃ n,AllB n one/\AllB n other/\(one.length+2)*(n+1)<=1000000/\other.length<=1000000
def mh:Nat->List Int->List Int->Prop
 | 0,_,other=>other=[]
 | n+1,one,other=>other=[]\/(vJ one other/\mh n other (aB (aR one other)))
def rL:Sp:=fun vs H Q _=>∃ (a b:Addr) (xs ys:List Int) (n:Nat),vs=[.ref a,.ref b]/\H a=some (.lst (xs.map V.int))/\H b=some (.lst (ys.map V.int))/\Tr xs/\Tr ys/\xs.length<=1000/\ys.length<=1000/\mh n (aB xs) (aB ys)/\mkL H Q (cJ n (aB xs) (aB ys))
theorem EE {f:Addr} {fd:FuncData} (F:Fun K "common" "common" kn f fd) (T:Txt K mg) {iU:Addr} {iO:FuncData} (jt:Cal P w K mg base 34 "plain" ["row"] jD iU iO) {iV:Addr} {iP:FuncData} (ju:Cal P w K mg base 2 "divided" ["first","second"] jE iV iP):FnOk P w K mg base CX0 35 f fd ["first","second"] rL:=by
 obtain ⟨gq,fU,fZ,gm⟩:=jt
 obtain ⟨jm,iu,iC,jf⟩:=ju
 refine F.ok sc_common (fun vs H Q E h=>?_) (fun cdv A outer s H vs Q E hr h=>?_)
 ·obtain ⟨a,b,xs,ys,n,rfl,_⟩:=h
  rfl
 ·obtain ⟨a,b,xs,ys,n,rfl,hA,hB,xtr,ytr,hx,hy,hrun,k⟩:=h
  have big:=sizeLine_eq
  have hu:=hr.units
  refine ⟨_,(ah (ap (i:=2) sc_common.nd rfl (Or.inl rfl) (aq gq (hr.mono) rfl fU fZ gm .nil ai (aa (pv 0) ac)))
   (ah (ap (i:=3) sc_common.nd rfl (Or.inl rfl) (aq gq (hr.mono) rfl fU fZ gm .nil ai (aa (pv 1) ac)))
   (ah (fN PassesOwn.never (aM (ik (K:=K) rfl hu) (pv 3) (bz ac) (aH _))
     (ah (ap (i:=4) sc_common.nd rfl (Or.inl rfl) (aq gq (hr.mono) rfl fU fZ gm .nil ai (aa (aI (aX (K:=K) rfl) (aq jm (hr.mono) rfl iu iC jf .nil ai (aa (pv 2) (aa (pv 3) ac))) af (fun _ _=>rfl)) ac)))
       (ah (ap (i:=2) sc_common.nd rfl (Or.inl rfl) (pv 3))
       (ao (ap (i:=3) sc_common.nd rfl (Or.inl rfl) (pv 4))))))
   (ao (aC (pv 2)))))),?_⟩
  refine aD ⟨_,rfl,a,xs,rfl,hA,xtr,by omega,fun p1 H1 s1 hp1 e1=>?_⟩
  refine aD ⟨_,rfl,b,ys,rfl,s1 _ _ hB,ytr,by omega,fun p2 H2 sm2 hp2 e2=>?_⟩
  have s2:=s1.trans sm2
  generalize aB xs=one' at hrun k e1
  generalize aB ys=other' at hrun k e2
  refine ⟨fun m σ' H'=>∃ (po pt:Addr) (one other:List Int) (z4:Option V),σ'=[some (.ref a),some (.ref b),some (.ref po),some (.ref pt),z4]/\Same H H'/\H' po=some (.lst (one.map V.int))/\H' pt=some (.lst (other.map V.int))/\H po=none/\H pt=none/\mh m one other/\cJ m one other=cJ n one' other',
   ⟨_,p1,p2,one',other',none,rfl,s2,sm2 _ _ e1,e2,hp1,s1.free hp2,hrun,rfl⟩,?_⟩
  rintro m σ' H3 ⟨po,pt,one,other,z4,rfl,s3,ho,ht,fo,ft,hrun3,hcom⟩
  refine ⟨_,rfl,Nat.zero_le _,fun q hq=>?_⟩
  have t4:=Same.upd_new (o:=.lst []) hq
  refine ⟨pt,q,other,[],rfl,rfl,SqL.of (t4 _ _ ht),SqL.of av,_,rfl,cZ (fun hne=>?_) (fun he=>?_)⟩
  rotate_left
  ·have he':other=[]:=he
   subst he'
   rw [zZ] at hcom
   refine ⟨_,rfl,k po _ (s3.trans t4) fo ?_⟩
   rw [<- hcom]
   exact t4 _ _ ho
  have hne':other≠[]:=hne
  obtain ⟨m1,rfl⟩:∃ m1,m=m1+1:=by
   cases m with
   | zero=>exact absurd hrun3 hne'
   | succ m1=>exact ⟨m1,rfl⟩
  obtain ⟨⟨otr,ttr,nb,bo,bt,hsz,htl⟩,hrun5⟩:=(show other=[]\/(vJ one other/\mh m1 other (aB (aR one other))) from hrun3).resolve_left hne'
  have hcom5:cJ m1 other (aB (aR one other))=cJ n one' other':=by
   rw [<- hcom]
   show _=if other=[] then one else cJ m1 other (aB (aR one other))
   rw [if_neg hne']
  generalize hH5:upd H3 q (.lst [])=H5 at t4 ⊢
  refine ⟨fun σ'' H''=>∃ m',m'<m1+1/\∃ (po pt:Addr) (one other:List Int) (z4:Option V),σ''=[some (.ref a),some (.ref b),some (.ref po),some (.ref pt),z4]/\Same H H''/\H'' po=some (.lst (one.map V.int))/\H'' pt=some (.lst (other.map V.int))/\H po=none/\H pt=none/\mh m' one other/\cJ m' one other=cJ n one' other',fun _ _ h=>h,?_⟩
  have hrl:(aR one other).length<=1000000:=by
   have:=gf (a:=one) hne'
   omega
  refine aD ⟨_,rfl,_,rfl,po,pt,one,other,nb,rfl,t4 _ _ ho,t4 _ _ ht,hne',bo,bt,hsz,htl,fun t q' r H8 sm8 _ _ _ _ _ _ et _ er=>?_⟩
  refine ⟨t,_,_,_,rfl,rfl,SqT.of et,rfl,r,_,rfl,er,fy _ _,hrl,fun p9 H9 sm9 hp9 e9=>?_⟩
  refine aD ⟨_,rfl,?_⟩
  refine ⟨_,rfl,?_⟩
  have t9:=(t4.trans sm8).trans sm9
  exact ⟨m1,Nat.lt_succ_self _,pt,p9,other,_,_,rfl,s3.trans t9,t9 _ _ ht,e9,ft,s3.free ((t4.trans sm8).free hp9),hrun5,hcom5⟩
def rg:Sp:=fun vs H Q _=>∃ (a b:Addr) (xs ys:List Int) (n:Nat),vs=[.ref a,.ref b]/\H a=some (.lst (xs.map V.int))/\H b=some (.lst (ys.map V.int))/\Tr xs/\Tr ys/\AllB n xs/\AllB n ys/\(xs.length+2)*(n+1)<=1000000/\ys.length<=1000000/\ys≠[]/\aR xs ys=[]/\mkL H Q (aB (ci xs ys))
theorem Ej {f:Addr} {fd:FuncData} (F:Fun K "part" "part" j2 f fd) (T:Txt K mg) {iV:Addr} {iP:FuncData} (ju:Cal P w K mg base 2 "divided" ["first","second"] jE iV iP) {iU:Addr} {iO:FuncData} (jt:Cal P w K mg base 34 "plain" ["row"] jD iU iO):FnOk P w K mg base CX0 35 f fd ["row","divisor"] rg:=by
 obtain ⟨jm,iu,iC,jf⟩:=ju
 obtain ⟨gq,fU,fZ,gm⟩:=jt
 refine F.ok sc_part (fun vs H Q E h=>?_) (fun cdv A outer s H vs Q E hr h=>?_)
 ·obtain ⟨a,b,xs,ys,n,rfl,_⟩:=h
  rfl
 ·obtain ⟨a,b,xs,ys,nb,rfl,hA,hB,xtr,ytr,bx,by',hsz,hyn,hy,hR,k⟩:=h
  have hu:=hr.units
  refine ⟨_,(ah (ap (i:=2) sc_part.nd rfl (Or.inl rfl) (aq jm (hr.mono) rfl iu iC jf .nil ai (aa (pv 0) (aa (pv 1) ac))))
   (ah (aV (aM (ik (K:=K) rfl hu) (aI (aX (K:=K) rfl) (pv 2) af (fun _ _=>rfl)) (bz ac) (aH _))
     (ao ig)
     aW)
   (ao (aC (aq gq (hr.mono) rfl fU fZ gm .nil ai (aa (aI (aX (K:=K) rfl) (pv 2) af (fun _ _=>rfl)) ac)))))),?_⟩
  refine aD ⟨_,rfl,_,rfl,a,b,xs,ys,nb,rfl,hA,hB,hy,bx,by',hsz,hyn,fun t q r H1 sm1 ft fq fr _ _ _ et eq er=>?_⟩
  refine bK ⟨_,rfl,t,_,_,_,rfl,rfl,SqT.of et,rfl,Nat.zero_le _,fun p hp=>?_⟩
  have s2:=Same.upd_new (o:=.lst []) hp
  refine ⟨r,p,_,[],rfl,rfl,SqL.of (s2 _ _ er),SqL.of av,_,rfl,cZ (fun h=>absurd hR h) (fun h=>?_)⟩
  have lq:=uU (a:=xs) hy
  have hxl:xs.length<=1000000:=by
   have:=Nat.mul_le_mul_left (xs.length+2) (show 1<=nb+1 by omega)
   omega
  have hN:bj xs ys<=xs.length+1:=by unfold bj;omega
  have hN2:bj xs ys<=xs.length:=by
   have:=List.length_pos_iff.mpr hy
   unfold bj;omega
  exact ⟨_,rfl,t,_,_,_,rfl,rfl,SqT.of (s2 _ _ et),rfl,q,ci xs ys,rfl,s2 _ _ eq,uS hy xtr ytr,by omega,fun p' H' sm' hp' e'=>k p' H' ((sm1.then_new hp).trans sm') ((sm1.then_new hp).free hp') e'⟩
theorem EK {f:Addr} {fd:FuncData} (F:Fun K "added" "added" ky f fd) (T:Txt K mg) {iT:Addr} {iM:FuncData} (jr:Cal P w K mg base 1 "poly" ["row"] (jz K) iT iM) {uH:Addr} {uj:FuncData} (vT:Cal P w K mg base 1 "coefficient" ["row","place"] (gw K) uH uj):FnOk P w K mg base CX0 2 f fd ["first","second"] (jF K gn):=by
 obtain ⟨jl,ir,iB,je⟩:=jr
 obtain ⟨oj,m9,np,n5⟩:=vT
 refine F.ok sc_added (fun vs H Q E h=>?_) (fun cdv A outer s H vs Q E hr h=>?_)
 ·obtain ⟨a,b,xs,ys,rfl,_⟩:=h
  rfl
 ·obtain ⟨a,b,xs,ys,rfl,hA,hB,hx,hy,k⟩:=h
  refine ⟨_,(ah (ap (i:=2) sc_added.nd rfl (Or.inl rfl) (bH (Av rfl) (by rfl) T.max_ PyProof.Rows.boot_max (aa (bH (df (K:=K) rfl) (by rfl) T.len_ PySem.boot_len (aa (pv 0) ac)) (aa (bH (df (K:=K) rfl) (by rfl) T.len_ PySem.boot_len (aa (pv 1) ac)) ac))))
   (ao (aC (aq jl (hr.mono) rfl ir iB je .nil ai (aa (fh (own:=["k"]) (fr:=["first","second"]) (js:=[0,1]) (by walk_at "comp_ok") rfl (lg rfl T.range_ (aa (pv 2) ac)) (fun _ _ _ _=>(aT (i:=0) (show List.Nodup (["k","first","second"]:List Str) from by decide +kernel) rfl (Or.inl rfl))) (fun _ _ _ _=>(aj bI (aq oj (hr.mono) rfl m9 np n5 .nil ai (aa (pv 1) (aa (pv 0) ac))) (aq oj (hr.mono) rfl m9 np n5 .nil ai (aa (pv 2) (aa (pv 0) ac)))))) ac))))),?_⟩
  refine ⟨_,rfl,a,_,rfl,.inl hA,_,rfl,b,_,rfl,.inl hB,_,_,rfl,?_⟩
  rw [yN,List.length_map,List.length_map]
  have hz:max xs.length ys.length<=sizeLine:=by have:=sizeLine_eq;omega
  refine ⟨_,rfl,_,rfl,(oU hz).1,(oU hz).2,uY (lo:=0) (n:=max xs.length ys.length) (fun i zs σ' H'=>∃ z:Option V,σ'=[z,some (.ref a),some (.ref b)]/\zs=((List.range i).map fun k=>V.int (cf xs k+cf ys k))/\H=H') hz ⟨none,rfl,rfl,rfl⟩ ?_ ?_ ?_⟩
  ·rintro i zs σ' H' _ ⟨z,rfl,rfl,rfl⟩
   simp
  ·rintro i zs σ' H' hi ⟨z,rfl,rfl,rfl⟩
   refine ⟨_,rfl,_,rfl,a,xs,i,?_,hA,_,rfl,_,rfl,b,ys,i,?_,hB,_,_,rfl,rfl,_,rfl,?_,rfl⟩
   ·show [V.ref a,V.int (0+(i:Int))]=_
    rw [Int.zero_add]
   ·show [V.ref b,V.int (0+(i:Int))]=_
    rw [Int.zero_add]
   ·rw [List.range_succ,List.map_append];rfl
  ·rintro zs σ' H' p ⟨z,rfl,rfl,rfl⟩ hp
   refine ⟨p,(List.range (max xs.length ys.length)).map fun k=>cf xs k+cf ys k,rfl,SqL.of ?_,?_⟩
   ·rw [av,List.map_map];rfl
   ·intro p' H' sm hp' e
    refine k p' H' ((Same.upd_new hp).trans sm) ((Same.upd_new hp).free hp') ?_
    rw [e,KH]
def rq:Sp:=fun vs H Q _=>∃ (a b:Addr) (xs ys:List Int),vs=[.ref a,.ref b]/\H a=some (.lst (xs.map V.int))/\H b=some (.lst (ys.map V.int))/\xs.length<=1000000/\ys.length<=1000000/\AllB 1000000 xs/\AllB 1000000 ys/\mkL H Q (ad xs ys)
theorem En {f:Addr} {fd:FuncData} (F:Fun K "multiplied" "multiplied" j6 f fd) (T:Txt K mg):FnOk P w K mg base CX0 1 f fd ["first","second"] rq:=by
 refine F.ok sc_multiplied (fun vs H Q E h=>?_) (fun cdv A outer s H vs Q E hr h=>?_)
 ·obtain ⟨a,b,xs,ys,rfl,_⟩:=h
  rfl
 ·obtain ⟨a,b,xs,ys,rfl,hA,hB,hx,hy,bx,by',k⟩:=h
  have hu:=hr.units
  refine ⟨_,(ah (aV (PW.pt (gB (aM (ln (K:=K) rfl hu) (pv 0) (bz ac) (aH _)) (kZ (aM (ln (K:=K) rfl hu) (pv 1) (bz ac) (aH _)))))
   (ao (aC (bz ac)))
   aW)
   (ah (ap (i:=2) sc_multiplied.nd rfl (Or.inl rfl) (aj sL (bz (aa af ac)) (aj cs (aj bI (bH (df (K:=K) rfl) (by rfl) T.len_ PySem.boot_len (aa (pv 0) ac)) (bH (df (K:=K) rfl) (by rfl) T.len_ PySem.boot_len (aa (pv 1) ac))) af)))
   (ah (cR PassesOwn.never rfl (sD rfl T.enumerate_ (aa (pv 0) ac)) (gD rfl (cj (aT (i:=3) sc_multiplied.nd rfl (Or.inl rfl)) (cj (aT (i:=4) sc_multiplied.nd rfl (Or.inl rfl)) gC)))
     (ao (cR PassesOwn.never rfl (sD rfl T.enumerate_ (aa (pv 1) ac)) (gD rfl (cj (aT (i:=5) sc_multiplied.nd rfl (Or.inl rfl)) (cj (aT (i:=6) sc_multiplied.nd rfl (Or.inl rfl)) gC)))
       (ao (eD (aj bI (aI (cw (K:=K) rfl) (pv 2) (aj bI (pv 3) (pv 5)) (fun _ _=>rfl)) (aj aN (pv 4) (pv 6))) (li (pv 2) (aj bI (pv 3) (pv 5)) jG))))))
   (ao (aC (pv 2)))))),?_⟩
  refine ⟨_,rfl,Nat.zero_le _,fun p1 hp1=>?_⟩
  have s1:Same H (upd H p1 (.lst [])):=Same.upd_new hp1
  refine ⟨a,p1,xs,[],rfl,rfl,SqL.of (s1 _ _ hA),SqL.of av,_,rfl,?_⟩
  refine aQ (fun h0=>?_) (fun h0=>?_)
  ·refine o4 ⟨Nat.zero_le _,fun p2 hp2=>k p2 _ (s1.then_new hp2) (s1.free hp2) ?_⟩
   rw [av];unfold ad;rw [if_pos (.inl h0)];rfl
  refine ⟨_,rfl,Nat.zero_le _,fun p2 hp2=>?_⟩
  have s2:Same H (upd (upd H p1 (.lst [])) p2 (.lst [])):=s1.then_new hp2
  refine ⟨b,p2,ys,[],rfl,rfl,SqL.of (s2 _ _ hB),SqL.of av,_,rfl,?_⟩
  refine aQ (fun h1=>?_) (fun h1=>?_)
  ·refine ⟨Nat.zero_le _,fun p3 hp3=>k p3 _ (s2.then_new hp3) (s2.free hp3) ?_⟩
   rw [av];unfold ad;rw [if_pos (.inr h1)];rfl
  generalize upd (upd H p1 (.lst [])) p2 (.lst [])=H2 at s2 ⊢
  obtain ⟨la,ea⟩:∃ la,xs.length=la+1:=⟨xs.length-1,by have:=List.length_pos_iff.mpr h0;omega⟩
  obtain ⟨lb,eb⟩:∃ lb,ys.length=lb+1:=⟨ys.length-1,by have:=List.length_pos_iff.mpr h1;omega⟩
  refine ⟨(by show 1<=sizeLine;decide),fun p3 hp3=>?_⟩
  have s3:=s2.then_new (o:=.lst [V.int 0]) hp3
  have big:=sizeLine_eq
  refine ⟨_,rfl,a,_,rfl,.inl (SqL.of (s3 _ _ hA)),_,rfl,b,_,rfl,.inl (SqL.of (s3 _ _ hB)),_,_,rfl,rfl,_,_,rfl,rfl,p3,_,_,rfl,rfl,av,?_,?_,?_,fun p hp=>?_⟩
  ·rw [List.length_map,List.length_map];omega
  ·rw [List.length_map,List.length_map];omega
  ·rw [List.length_map,List.length_map];show 1*_<=_;omega
  have en:(((xs.map V.int).length:Int)+((ys.map V.int).length:Int)-1).toNat=la+lb+1:=by rw [List.length_map,List.length_map];omega
  rw [en,se]
  have s4:=s3.then_new (o:=.lst ((List.replicate (la+lb+1) (0:Int)).map V.int)) hp
  have npa:a≠p:=s3.ne hA hp
  have npb:b≠p:=s3.ne hB hp
  generalize hH4:upd (upd H2 p3 (.lst [V.int 0])) p (.lst ((List.replicate (la+lb+1) (0:Int)).map V.int))=H4 at s4 ⊢
  have hp4:H4 p=some (.lst ((List.replicate (la+lb+1) (0:Int)).map V.int)):=by rw [<- hH4,av]
  refine ⟨_,rfl,a,rfl,⟨_,SqL.of (s4 _ _ hA)⟩,tZ (K:=K) (a:=a) (xs:=xs.map V.int) (fun j σ' H'=>∃ (acc:List Int) (z3 z4 z5 z6:Option V),σ'=[some (.ref a),some (.ref b),some (.ref p),z3,z4,z5,z6]/\SameB p H4 H'/\H' p=some (.lst (acc.map V.int))/\acc.length=la+lb+1/\∀ n,n<acc.length->cf acc n=sm xs ys n j)
   ⟨List.replicate (la+lb+1) 0,none,none,none,none,rfl,SameB.refl _ _,hp4,by simp,fun n _=>by rw [nS];rfl⟩ ?_ ?_ ?_⟩
  ·rintro j σ' H' _ ⟨acc,z3,z4,z5,z6,rfl,sb,_⟩
   exact SqL.of (sb _ _ npa (s4 _ _ hA))
  ·rintro j x σ' H' q hj ⟨acc,z3,z4,z5,z6,rfl,sb,hpa,hal,hac⟩ hq
   rw [List.getElem?_map] at hj
   have hjl:j<xs.length:=by
    apply Classical.byContradiction
    intro hn
    rw [List.getElem?_eq_none_iff.mpr (Nat.le_of_not_lt hn)] at hj
    cases hj
   rw [iI hjl] at hj
   obtain rfl:=Option.some.inj hj
   refine ⟨q,_,rfl,SqT.of av,rfl,_,_,rfl,_,_,rfl,rfl,?_⟩
   have nqp:p≠q:=aZ hpa hq
   have sb1:SameB p H4 (upd H' q (.tup [.int j,.int (cf xs j)])):=sb.then_new hq
   refine ⟨_,rfl,b,rfl,⟨_,SqL.of (sb1 _ _ npb (s4 _ _ hB))⟩,tZ (K:=K) (a:=b) (xs:=ys.map V.int) (fun i σ' H'=>∃ (acc:List Int) (z5 z6:Option V),σ'=[some (.ref a),some (.ref b),some (.ref p),some (.int j),some (.int (cf xs j)),z5,z6]/\SameB p H4 H'/\H' p=some (.lst (acc.map V.int))/\acc.length=la+lb+1/\∀ n,n<acc.length->cf acc n=sm xs ys n j+(if j<=n/\n-j<i then tm xs ys n j else 0))
    ⟨acc,z5,z6,rfl,sb1,by rw [upd_ne nqp];exact hpa,hal,yE hac⟩ ?_ ?_ ?_⟩
   ·rintro i σ' H' _ ⟨acc,z5,z6,rfl,sb,_⟩
    exact SqL.of (sb _ _ npb (s4 _ _ hB))
   ·rintro i x σ' H' q hi ⟨acc,z5,z6,rfl,sb,hpa,hal,hac⟩ hq
    rw [List.getElem?_map] at hi
    have hil:i<ys.length:=by
     apply Classical.byContradiction
     intro hn
     rw [List.getElem?_eq_none_iff.mpr (Nat.le_of_not_lt hn)] at hi
     cases hi
    rw [iI hil] at hi
    obtain rfl:=Option.some.inj hi
    refine ⟨q,_,rfl,SqT.of av,rfl,_,_,rfl,_,_,rfl,rfl,?_⟩
    have nqp:p≠q:=aZ hpa hq
    have hpa':upd H' q (.tup [.int i,.int (cf ys i)]) p=some (.lst (acc.map V.int)):=by rw [upd_ne nqp];exact hpa
    have hji:j+i<acc.length:=by omega
    have eji:((j:Nat):Int)+((i:Nat):Int)=((j+i:Nat):Int):=by omega
    refine ⟨_,rfl,_,rfl,_,rfl,_,_,rfl,rfl,p,_,_,_,rfl,rfl,SqL.of hpa',ma eji hji,_,rfl,_,rfl,_,_,rfl,rfl,⟨bx.cf j,by'.cf i⟩,_,_,rfl,rfl,_,rfl,_,rfl,_,rfl,_,_,rfl,rfl,p,_,_,j+i,rfl,rfl,hpa',lJ eji (by rw [List.length_map];exact hji),?_⟩
    refine ⟨acc.set (j+i) (cf acc (j+i)+cf xs j*cf ys i),_,_,rfl,(sb.then_new hq).then_upd,by rw [av,pJ],by rw [List.length_set];exact hal,yD hjl hil hji hac⟩
   ·rintro σ' H' ⟨acc,z5,z6,rfl,sb,hpa,hal,hac⟩
    rw [List.length_map] at hac
    exact ⟨acc,_,_,_,_,rfl,sb,hpa,hal,yF hac⟩
  ·rintro σ' H' ⟨acc,z3,z4,z5,z6,rfl,sb,hpa,hal,hac⟩
   rw [List.length_map] at hac
   refine ⟨_,rfl,k p H' (fun b' o e=>sb b' o (s3.ne e hp) (s4 b' o e)) (s3.free hp) ?_⟩
   rw [hpa]
   have e:acc=ad xs ys:=by
    apply dP
    ·rw [hal];unfold ad;rw [if_neg (by intro z;exact z.elim h0 h1),List.length_map,List.length_range];omega
    ·intro n _
     rw [aP,yG (by omega) hac]
   rw [e]
def oK (C:Addr):Sp:=fun vs H Q _=>∃ (p q:Addr) (t b u d:Int) (i j:Nat),vs=[.ref p,.ref q]/\RA C H p t b/\RA C H q u d/\Bits 100000 t/\Bits i b/\Bits 100000 u/\Bits j d/\i+j<=9000/\0<b/\0<d/\mkR C H Q (t*d+u*b) (b*d)
theorem E7 {C f:Addr} {fd:FuncData} (F:Fun K "plus" "Ratio.plus" kP f fd) (T:Txt K mg) (R:RCI K mg C) {f_Ratio:Addr} {fd_Ratio:FuncData} {ds_Ratio:List Value} (cE:KCal P w K mg base 2 C "Ratio" ["self","top","bottom"] (dm C) f_Ratio fd_Ratio ds_Ratio [.int 1]):FnOk P w K mg base CX0 4 f fd ["self","other"] (oK C):=by
 obtain ⟨bZ,bX,bV,cu,di,de⟩:=cE
 refine F.ok CF (fun vs H Q E h=>?_) (fun cdv A outer s H vs Q E hr h=>?_)
 ·obtain ⟨p,q,t,b,u,d,i,j,rfl,_⟩:=h
  rfl
 ·obtain ⟨p,q,t,b,u,d,i,j,rfl,⟨dx,hp⟩,⟨dy,hq⟩,bt,bb,bu,bd,hij,hb,hd,k⟩:=h
  have bb':Bits 1000000 b:=bb.mono (by omega)
  have bd':Bits 1000000 d:=bd.mono (by omega)
  refine ⟨_,(ao (aC (cN bX bZ (hr.mono) rfl bV cu .nil ai (aa (aj bI (aj aN (aO (K:=K) rfl (pv 0) rfl) (aO (K:=K) rfl (pv 1) rfl)) (aj aN (aO (K:=K) rfl (pv 1) rfl) (aO (K:=K) rfl (pv 0) rfl))) (aa (aj aN (aO (K:=K) rfl (pv 0) rfl) (aO (K:=K) rfl (pv 1) rfl)) ac))))),?_⟩
  refine ⟨_,rfl,p,C,dx,_,_,rfl,hp,R.cl,R.nT,cM _ _,_,rfl,q,C,dy,_,_,rfl,hq,R.cl,R.nB,bQ _ _,_,_,rfl,rfl,⟨bt.mono,bd'⟩,?_⟩
  refine ⟨_,rfl,q,C,dy,_,_,rfl,hq,R.cl,R.nT,cM _ _,_,rfl,p,C,dx,_,_,rfl,hp,R.cl,R.nB,bQ _ _,_,_,rfl,rfl,⟨bu.mono,bb'⟩,_,_,rfl,rfl,?_⟩
  refine ⟨_,rfl,p,C,dx,_,_,rfl,hp,R.cl,R.nB,bQ _ _,_,rfl,q,C,dy,_,_,rfl,hq,R.cl,R.nB,bQ _ _,_,_,rfl,rfl,⟨bb',bd'⟩,?_⟩
  exact dc (Int.ne_of_gt (Int.mul_pos hb hd)) ((bb.mul bd).mono hij) k
def oN (C:Addr):Sp:=fun vs H Q _=>∃ (p q:Addr) (t b u d:Int) (i j:Nat),vs=[.ref p,.ref q]/\RA C H p t b/\RA C H q u d/\Bits 100000 t/\Bits i b/\Bits 100000 u/\Bits j d/\i+j<=9000/\0<b/\0<d/\mkR C H Q (t*d-u*b) (b*d)
theorem E8 {C f:Addr} {fd:FuncData} (F:Fun K "minus" "Ratio.minus" kQ f fd) (T:Txt K mg) (R:RCI K mg C) {f_Ratio:Addr} {fd_Ratio:FuncData} {ds_Ratio:List Value} (cE:KCal P w K mg base 2 C "Ratio" ["self","top","bottom"] (dm C) f_Ratio fd_Ratio ds_Ratio [.int 1]):FnOk P w K mg base CX0 4 f fd ["self","other"] (oN C):=by
 obtain ⟨bZ,bX,bV,cu,di,de⟩:=cE
 refine F.ok CG (fun vs H Q E h=>?_) (fun cdv A outer s H vs Q E hr h=>?_)
 ·obtain ⟨p,q,t,b,u,d,i,j,rfl,_⟩:=h
  rfl
 ·obtain ⟨p,q,t,b,u,d,i,j,rfl,⟨dx,hp⟩,⟨dy,hq⟩,bt,bb,bu,bd,hij,hb,hd,k⟩:=h
  have bb':Bits 1000000 b:=bb.mono (by omega)
  have bd':Bits 1000000 d:=bd.mono (by omega)
  refine ⟨_,(ao (aC (cN bX bZ (hr.mono) rfl bV cu .nil ai (aa (aj cs (aj aN (aO (K:=K) rfl (pv 0) rfl) (aO (K:=K) rfl (pv 1) rfl)) (aj aN (aO (K:=K) rfl (pv 1) rfl) (aO (K:=K) rfl (pv 0) rfl))) (aa (aj aN (aO (K:=K) rfl (pv 0) rfl) (aO (K:=K) rfl (pv 1) rfl)) ac))))),?_⟩
  refine ⟨_,rfl,p,C,dx,_,_,rfl,hp,R.cl,R.nT,cM _ _,_,rfl,q,C,dy,_,_,rfl,hq,R.cl,R.nB,bQ _ _,_,_,rfl,rfl,⟨bt.mono,bd'⟩,?_⟩
  refine ⟨_,rfl,q,C,dy,_,_,rfl,hq,R.cl,R.nT,cM _ _,_,rfl,p,C,dx,_,_,rfl,hp,R.cl,R.nB,bQ _ _,_,_,rfl,rfl,⟨bu.mono,bb'⟩,_,_,rfl,rfl,?_⟩
  refine ⟨_,rfl,p,C,dx,_,_,rfl,hp,R.cl,R.nB,bQ _ _,_,rfl,q,C,dy,_,_,rfl,hq,R.cl,R.nB,bQ _ _,_,_,rfl,rfl,⟨bb',bd'⟩,?_⟩
  exact dc (Int.ne_of_gt (Int.mul_pos hb hd)) ((bb.mul bd).mono hij) k
def jA (C:Addr):Sp:=fun vs H Q _=>∃ (p q:Addr) (t b u d:Int) (i j:Nat),vs=[.ref p,.ref q]/\RA C H p t b/\RA C H q u d/\Bits 100000 t/\Bits i b/\Bits 100000 u/\Bits j d/\i+j<=9000/\0<b/\0<d/\mkR C H Q (t*u) (b*d)
theorem E6 {C f:Addr} {fd:FuncData} (F:Fun K "times" "Ratio.times" kO f fd) (T:Txt K mg) (R:RCI K mg C) {f_Ratio:Addr} {fd_Ratio:FuncData} {ds_Ratio:List Value} (cE:KCal P w K mg base 2 C "Ratio" ["self","top","bottom"] (dm C) f_Ratio fd_Ratio ds_Ratio [.int 1]):FnOk P w K mg base CX0 4 f fd ["self","other"] (jA C):=by
 obtain ⟨bZ,bX,bV,cu,di,de⟩:=cE
 refine F.ok CD (fun vs H Q E h=>?_) (fun cdv A outer s H vs Q E hr h=>?_)
 ·obtain ⟨p,q,t,b,u,d,i,j,rfl,_⟩:=h
  rfl
 ·obtain ⟨p,q,t,b,u,d,i,j,rfl,⟨dx,hp⟩,⟨dy,hq⟩,bt,bb,bu,bd,hij,hb,hd,k⟩:=h
  refine ⟨_,(ao (aC (cN bX bZ (hr.mono) rfl bV cu .nil ai (aa (aj aN (aO (K:=K) rfl (pv 0) rfl) (aO (K:=K) rfl (pv 1) rfl)) (aa (aj aN (aO (K:=K) rfl (pv 0) rfl) (aO (K:=K) rfl (pv 1) rfl)) ac))))),?_⟩
  refine ⟨_,rfl,p,C,dx,_,_,rfl,hp,R.cl,R.nT,cM _ _,_,rfl,q,C,dy,_,_,rfl,hq,R.cl,R.nT,cM _ _,_,_,rfl,rfl,⟨bt.mono,bu.mono⟩,?_⟩
  refine ⟨_,rfl,p,C,dx,_,_,rfl,hp,R.cl,R.nB,bQ _ _,_,rfl,q,C,dy,_,_,rfl,hq,R.cl,R.nB,bQ _ _,_,_,rfl,rfl,⟨bb.mono (by omega),bd.mono (by omega)⟩,?_⟩
  exact dc (Int.ne_of_gt (Int.mul_pos hb hd)) ((bb.mul bd).mono hij) k
theorem zQ {l:List Int} {i:Nat} {c:Int} (hi:i<l.length) (e:l[l.length-1-i]?=some c):l.drop (l.length-(i+1))=c::l.drop (l.length-i):=by
 have h:l.length-(i+1)=l.length-1-i:=by omega
 rw [h,List.drop_eq_getElem_cons (by omega)]
 have h2:l.length-1-i+1=l.length-i:=by omega
 rw [h2]
 have h3:=List.getElem?_eq_getElem (l:=l) (i:=l.length-1-i) (by omega)
 rw [h3] at e
 rw [Option.some.inj e]
theorem ld (n:Nat):(0:Int)<2^n:=Int.pow_pos (by decide)
theorem ij (n:Nat):(2:Int)^n=((2^n:Nat):Int):=by rw [Int.natCast_pow];rfl
theorem mS {n k:Nat} (h:n<k):Bits k ((2:Int)^n):=by
 rw [ij]
 show (((2^n:Nat):Int)).natAbs<2^k
 rw [Int.natAbs_natCast]
 exact (Nat.pow_lt_pow_iff_right (by decide)).mpr h
theorem fG:Bits 1000000 (2:Int):=Bits.mono (j:=2) (by show (2:Int).natAbs<2^2;decide) (by decide)
theorem sN:Bits 1000000 (1:Int):=Bits.mono (j:=1) (by show (1:Int).natAbs<2^1;decide) (by decide)
def rF (C:Addr):Sp:=fun vs H Q _=>∃ (r wd:Addr) (r1 r2 w1 w2:Int) (kr kw:Nat),vs=[.ref r,.ref wd]/\RA C H r r1 r2/\RA C H wd w1 w2/\0<r2/\0<w1/\Bits kr r1/\Bits 100000 r2/\Bits 100000 w1/\Bits kw w2/\kr+kw<=100000/\∀ n:Nat,n<=kr+kw->r1*w2<=w1*r2*2^n->(∀ j:Nat,j<n->w1*r2*2^j<r1*w2)->Q (.int n) H
theorem Ex {C f:Addr} {fd:FuncData} (F:Fun K "halvings" "halvings" ke f fd) (T:Txt K mg) (R:RCI K mg C):FnOk P w K mg base CX0 1 f fd ["reach","width"] (rF C):=by
 refine F.ok sc_halvings (fun vs H Q E h=>?_) (fun cdv A outer s H vs Q E hr h=>?_)
 ·obtain ⟨r,wd,r1,r2,w1,w2,kr,kw,rfl,_⟩:=h
  rfl
 ·obtain ⟨r,wd,r1,r2,w1,w2,kr,kw,rfl,⟨dr,hR⟩,⟨dw,hW⟩,hr2,hw1,br1,br2,bw1,bw2,hkk,k⟩:=h
  refine ⟨_,(ah (ap (i:=2) sc_halvings.nd rfl (Or.inl rfl) (aj aN (aO (K:=K) rfl (pv 0) rfl) (aO (K:=K) rfl (pv 1) rfl)))
   (ah (ap (i:=3) sc_halvings.nd rfl (Or.inl rfl) (aj aN (aO (K:=K) rfl (pv 1) rfl) (aO (K:=K) rfl (pv 0) rfl)))
   (ah (ap (i:=4) sc_halvings.nd rfl (Or.inl rfl) af)
   (ah (fN PassesOwn.never (aM cW (pv 2) (pv 3) (aH _))
     (ah (ap (i:=3) sc_halvings.nd rfl (Or.inl rfl) (aj aN af (pv 3)))
       (ao (ap (i:=4) sc_halvings.nd rfl (Or.inl rfl) (aj bI (pv 4) af)))))
   (ao (aC (pv 4))))))),?_⟩
  refine aD ⟨_,rfl,r,C,dr,_,_,rfl,hR,R.cl,R.nT,cM _ _,_,rfl,wd,C,dw,_,_,rfl,hW,R.cl,R.nB,bQ _ _,_,_,rfl,rfl,⟨br1.mono (by omega),bw2.mono (by omega)⟩,?_⟩
  refine aD ⟨_,rfl,wd,C,dw,_,_,rfl,hW,R.cl,R.nT,cM _ _,_,rfl,r,C,dr,_,_,rfl,hR,R.cl,R.nB,bQ _ _,_,_,rfl,rfl,⟨bw1.mono,br2.mono⟩,?_⟩
  have bW:Bits (kr+kw) (r1*w2):=br1.mul bw2
  have g0:0<w1*r2:=Int.mul_pos hw1 hr2
  refine aD ?_
  dsimp only
  generalize r1*w2=W at *
  generalize w1*r2=g at *
  show dk _ _ _ _ _
  have b0:∀ n:Nat,(∀ j:Nat,j<n->g*2^j<W)->n<=kr+kw:=fun n hn=>by
   rcases Nat.lt_or_ge (kr+kw) n with z | z
   ·have h1:=hn (kr+kw) z
    have h2:(2:Int)^(kr+kw)<=g*2^(kr+kw):=by
     have:=Int.mul_le_mul_of_nonneg_right (show (1:Int)<=g by omega) (Int.le_of_lt (ld (kr+kw)))
     omega
    have h3:W.natAbs<2^(kr+kw):=bW
    have h5:(W.natAbs:Int)<((2^(kr+kw):Nat):Int):=Int.ofNat_lt.mpr h3
    rw [<- ij] at h5
    generalize (2:Int)^(kr+kw)=Y at *
    omega
   ·exact z
  refine ⟨fun m σ' H'=>∃ n:Nat,σ'=[some (.ref r),some (.ref wd),some (.int W),some (.int (g*2^n)),some (.int n)]/\H=H'/\m=(W-g*2^n).toNat/\∀ j:Nat,j<n->g*2^j<W,⟨_,0,by rw [Int.pow_zero,Int.mul_one];rfl,rfl,rfl,fun j hj=>absurd hj (Nat.not_lt_zero _)⟩,?_⟩
  rintro m σ' H' ⟨n,rfl,rfl,rfl,hj⟩
  refine ⟨_,rfl,_,rfl,_,_,rfl,rfl,_,rfl,aQ (fun hgt=>?_) (fun hle=>?_)⟩
  ·have hgt':g*2^n<W:=hgt
   have gp:0<g*2^n:=Int.mul_pos g0 (ld n)
   have bg:Bits (kr+kw) (g*2^n):=bW.of_le (by omega)
   refine ⟨fun σ'' H''=>∃ m',m'<(W-g*2^n).toNat/\∃ n:Nat,σ''=[some (.ref r),some (.ref wd),some (.int W),some (.int (g*2^n)),some (.int n)]/\H=H''/\m'=(W-g*2^n).toNat/\∀ j:Nat,j<n->g*2^j<W,fun _ _ h=>h,?_⟩
   have e2:2*(g*2^n)=g*2^(n+1):=by rw [Int.pow_succ];grind
   refine aD ⟨_,rfl,_,_,rfl,rfl,⟨fG,bg.mono (by omega)⟩,?_⟩
   refine da ⟨_,rfl,_,_,rfl,rfl,?_⟩
   refine ⟨(W-g*2^(n+1)).toNat,by rw [<- e2];omega,n+1,by rw [<- e2];rfl,rfl,rfl,fun j h'=>?_⟩
   by_cases ej:j=n
   ·subst ej;exact hgt'
   ·exact hj j (by omega)
  ·refine ⟨_,rfl,k n (b0 n hj) ?_ hj⟩
   have:¬ g*2^n<W:=hle
   omega
theorem eV {k:Nat} {t b:Int} (hb:b≠0) (h:Bits k t):Bits k (rt t b):=h.of_le (CO hb)
theorem fc {k:Nat} {t b:Int} (hb:b≠0) (h:Bits k b):Bits k (rb t b):=h.of_le (Db hb)
theorem pD:¬ (("plus":Str)="bottom")/\¬ (("plus":Str)="top"):=⟨by decide +kernel,by decide +kernel⟩
theorem yn:¬ (("minus":Str)="bottom")/\¬ (("minus":Str)="top"):=⟨by decide +kernel,by decide +kernel⟩
theorem d5:¬ (("times":Str)="bottom")/\¬ (("times":Str)="top"):=⟨by decide +kernel,by decide +kernel⟩
def rP (C:Addr):Sp:=fun vs H Q _=>∃ (l r:Addr) (l1 l2 r1 r2 pl pc:Int) (i j n:Nat),vs=[.ref l,.ref r,.int pl,.int pc]/\RA C H l l1 l2/\RA C H r r1 r2/\0<l2/\0<r2/\0<pc/\Bits i l1/\Bits i l2/\Bits j r1/\Bits j r2/\Bits n pl/\Bits n pc/\i+(j+n)<=9000 /\
 ∀ (x:Addr) (H':Hp) (x1 x2:Int),Same H H'->H x=none->RA C H' x x1 x2->0<x2->x1*(l2*r2*pc)=(l1*r2*pc+r1*l2*pl)*x2->Bits (i+(j+n)+1) x1->Bits (i+(j+n)+1) x2->Nat.gcd x1.natAbs x2.natAbs=1->Q (.ref x) H'
theorem EJ {C f:Addr} {fd:FuncData} (F:Fun K "along" "along" kx f fd) (T:Txt K mg) (R:RCI K mg C) {uN:Addr} {ut:FuncData} (vZ:MCal P w K mg base 4 C "plus" ["self","other"] (oK C) uN ut) {iW:Addr} {iQ:FuncData} (jv:MCal P w K mg base 4 C "times" ["self","other"] (jA C) iW iQ) {f_Ratio:Addr} {fd_Ratio:FuncData} {ds_Ratio:List Value} (cE:KCal P w K mg base 2 C "Ratio" ["self","top","bottom"] (dm C) f_Ratio fd_Ratio ds_Ratio [.int 1]):FnOk P w K mg base CX0 5 f fd ["low","reach","place","pieces"] (rP C):=by
 obtain ⟨vH,sX,vq⟩:=vZ
 obtain ⟨fE,fj,fC⟩:=jv
 obtain ⟨bZ,bX,bV,cu,di,de⟩:=cE
 refine F.ok Cw (fun vs H Q E h=>?_) (fun cdv A outer s H vs Q E hr h=>?_)
 ·obtain ⟨l,r,l1,l2,r1,r2,pl,pc,i,j,n,rfl,_⟩:=h
  rfl
 ·obtain ⟨l,r,l1,l2,r1,r2,pl,pc,i,j,n,rfl,hL,hR,hl2,hr2,hpc,bl1,bl2,br1,br2,bpl,bpc,hijn,k⟩:=h
  refine ⟨_,(ao (aC (dq (pv 0) R.cl sX vH (hr.mono) vq .nil ai (aa (dq (pv 1) R.cl fj fE (hr.mono) fC .nil ai (aa (cN bX bZ (hr.mono) rfl bV cu .nil ai (aa (pv 2) (aa (pv 3) ac))) ac)) ac)))),?_⟩
  obtain ⟨dl,hl⟩:=id hL
  obtain ⟨dr,hrr⟩:=id hR
  have pc0:pc≠0:=Int.ne_of_gt hpc
  refine bh ⟨_,rfl,l,dl,_,rfl,hl,dG _ _ pD.1 pD.2,_,rfl,r,dr,_,rfl,hrr,dG _ _ d5.1 d5.2,_,rfl,_,rfl,dc pc0 (bpc.mono (by omega)) fun xa H1 s1 ha hRa=>?_⟩
  have a0:0<rb pl pc:=dB pc0
  have ba1:Bits n (rt pl pc):=eV pc0 bpl
  have ba2:Bits n (rb pl pc):=fc pc0 bpc
  have ea:=fe (t:=pl) pc0
  generalize rt pl pc=a1 at *
  generalize rb pl pc=a2 at *
  refine ⟨r,xa,r1,r2,a1,a2,j,n,rfl,hR.same s1,hRa,br1.mono (by omega),br2,ba1.mono (by omega),ba2,by omega,hr2,a0,fun xc H2 s2 hc hRc=>?_⟩
  have d0:r2*a2≠0:=Int.ne_of_gt (Int.mul_pos hr2 a0)
  have c0:0<rb (r1*a1) (r2*a2):=dB d0
  have bc1:Bits (j+n) (rt (r1*a1) (r2*a2)):=eV d0 (br1.mul ba1)
  have bc2:Bits (j+n) (rb (r1*a1) (r2*a2)):=fc d0 (br2.mul ba2)
  have ec:=fe (t:=r1*a1) d0
  generalize rt (r1*a1) (r2*a2)=c1 at *
  generalize rb (r1*a1) (r2*a2)=c2 at *
  have t2:=s1.trans s2
  refine ⟨l,xc,l1,l2,c1,c2,i,j+n,rfl,hL.same t2,hRc,bl1.mono (by omega),bl2,bc1.mono (by omega),bc2,hijn,hl2,c0,fun xx H3 s3 hx hRx=>?_⟩
  have x0:l2*c2≠0:=Int.ne_of_gt (Int.mul_pos hl2 c0)
  refine k xx H3 _ _ (t2.trans s3) (t2.free hx) hRx (dB x0) (KF a0 c0 ea ec (fe x0)) ?_ ?_ (mN x0)
  ·refine (eV x0 ?_)
   exact Bits.add (bl1.mul bc2) ((bc1.mul bl2).mono (by omega))
  ·exact (fc x0 (bl2.mul bc2)).mono (by omega)
theorem Fz {i j:Nat} {a b c:Int} {l:List Int} (hl:AllB i l) (ha:Bits j a) (hb:Bits j b) (hc:Bits (i+j) c):AllB (i+j+1) (mb a b c l):=AllB.of_cf fun n=>by
 rw [ja]
 refine Bits.add ?_ ?_
 ·exact (ha.neg.mul (hl.cf n)).mono (by omega)
 ·split
  ·exact hc
  ·exact (hb.mul (hl.cf (n-1))).mono (by omega)
theorem wI {kv j:Nat} {m s0 s1:Int} (hm:Bits j m) (h0:Bits j s0) (h1:Bits j s1):∀ {l:List Int},AllB kv l->AllB (kv+(j+1)*l.length+1) (cc m s0 s1 l)
 | [],_=>AllB.nil
 | v::l,h=>by
   have ih:=wI hm h0 h1 (l:=l) fun x hx=>h x (List.mem_cons_of_mem _ hx)
   have hv:=h v (List.mem_cons_self ..)
   have:=Fz (c:=v*m^l.length) ih h0.neg h1 ((hv.mul (jb hm l.length)).mono (by
    have:(j+1)*l.length=j*l.length+l.length:=by rw [Nat.add_mul,Nat.one_mul]
    omega))
   refine AllB.mono this ?_
   rw [List.length_cons,Nat.mul_add,Nat.mul_one];omega
theorem BM {a b c:Int} {l:List Int} (hne:l≠[]) (hT:Tr (mb a b c l)):gn (ad l [-a,b]) (trim [c])=mb a b c l:=by
 refine nM (eQ _) hT fun k=>?_
 unfold gn
 rw [gj,gQ,gj,Int.one_mul,Fp hne,ja,ja]
 rcases k with _ | k
 ·show _+0+c=_+c
  omega
 ·rw [if_neg (by omega),if_neg (by omega)]
  show _+cf [] k=_
  rw [cz];omega
theorem Bn {m s0 s1:Int} (hs:0<s1) {l:List Int} (hne:l≠[]) (hl:Tr l):Tr (cc m s0 s1 l):=by
 have h1:=wH m s0 s1 l
 have hlen:=jy m s0 s1 l
 have hp:0<l.length:=List.length_pos_iff.mpr hne
 have h2:cf l (l.length-1)≠0:=hl _ (by omega)
 intro n hn
 have:n=l.length-1:=by omega
 subst this
 rw [h1]
 exact Int.mul_ne_zero h2 (Int.ne_of_gt (Int.pow_pos hs))
theorem Bs {l:List Int} (hl:Tr l) {i:Nat} (h:i<l.length):Tr (l.drop i):=by
 intro n hn
 rw [List.length_drop] at hn
 have e:cf (l.drop i) n=cf l (i+n):=by
  unfold cf
  simp [List.getD]
 rw [e]
 exact hl _ (by omega)
def qS (C:Addr):Sp:=fun vs H Q _=>∃ (a l r:Addr) (ns:List Int) (l1 l2 r1 r2:Int),vs=[.ref a,.ref l,.ref r]/\H a=some (.lst (ns.map V.int))/\RA C H l l1 l2/\RA C H r r1 r2/\Tr ns/\ns≠[]/\ns.length<=12/\AllB 1000 ns/\0<l2/\0<r1/\0<r2/\Bits 1400 l1/\Bits 1400 l2/\Bits 2900 r1/\Bits 2900 r2 /\
 ∀ m s0 s1:Int,0<m->s0*l2=l1*m->s1*r2=r1*m->0<s1->AllB 60000 (cc m s0 s1 ns)->mkL H Q (cc m s0 s1 ns)
theorem D3 {C f:Addr} {fd:FuncData} (F:Fun K "stretched" "stretched" jM f fd) (T:Txt K mg) (R:RCI K mg C) {uE:Addr} {ug:FuncData} (vP:Cal P w K mg base 2 "shared" ["row"] (oJ K) uE ug) {Jl:Addr} {Iw:FuncData} (L4:Cal P w K mg base 2 "added" ["first","second"] (jF K gn) Jl Iw) {IZ:Addr} {Id:FuncData} (LO:Cal P w K mg base 1 "multiplied" ["first","second"] rq IZ Id) {iT:Addr} {iM:FuncData} (jr:Cal P w K mg base 1 "poly" ["row"] (jz K) iT iM):FnOk P w K mg base CX0 3 f fd ["row","low","reach"] (qS C):=by
 obtain ⟨vE,tq,tL,vj⟩:=vP
 obtain ⟨Ln,Gj,G8,Kr⟩:=L4
 obtain ⟨La,FW,GV,Ke⟩:=LO
 obtain ⟨jl,ir,iB,je⟩:=jr
 refine F.ok sc_stretched (fun vs H Q E h=>?_) (fun cdv A outer s H vs Q E hr h=>?_)
 ·obtain ⟨a,l,r,ns,l1,l2,r1,r2,rfl,_⟩:=h
  rfl
 ·obtain ⟨a,l,r,ns,l1,l2,r1,r2,rfl,hA,⟨dl,hL⟩,⟨dr,hR⟩,hT,hne,hln,hbn,hl2,hr1,hr2,bl1,bl2,br1,br2,k⟩:=h
  refine ⟨_,(ah (ap (i:=3) sc_stretched.nd rfl (Or.inl rfl) (aj db (aj aN (aO (K:=K) rfl (pv 1) rfl) (aO (K:=K) rfl (pv 2) rfl)) (aq vE (hr.mono) rfl tq tL vj .nil ai (aa (bz (aa (aO (K:=K) rfl (pv 1) rfl) (aa (aO (K:=K) rfl (pv 2) rfl) ac))) ac))))
   (ah (ap (i:=4) sc_stretched.nd rfl (Or.inl rfl) (aj aN (aO (K:=K) rfl (pv 1) rfl) (aj db (pv 3) (aO (K:=K) rfl (pv 1) rfl))))
   (ah (ap (i:=5) sc_stretched.nd rfl (Or.inl rfl) (aj aN (aO (K:=K) rfl (pv 2) rfl) (aj db (pv 3) (aO (K:=K) rfl (pv 2) rfl))))
   (ah (ap (i:=6) sc_stretched.nd rfl (Or.inl rfl) (bz ac))
   (ah (ap (i:=7) sc_stretched.nd rfl (Or.inl rfl) af)
   (ah (cR PassesOwn.never rfl (sC rfl T.reversed_ (aa (pv 0) ac)) (aT (i:=8) sc_stretched.nd rfl (Or.inl rfl))
     (ah (ap (i:=6) sc_stretched.nd rfl (Or.inl rfl) (aq Ln (hr.mono) rfl Gj G8 Kr .nil ai (aa (aq La (hr.mono) rfl FW GV Ke .nil ai (aa (pv 6) (aa (bz (aa (pv 4) (aa (pv 5) ac))) ac))) (aa (aq jl (hr.mono) rfl ir iB je .nil ai (aa (bz (aa (aj aN (pv 8) (pv 7)) ac)) ac)) ac))))
       (ao (ap (i:=7) sc_stretched.nd rfl (Or.inl rfl) (aj aN (pv 7) (pv 3))))))
   (ao (aC (pv 6))))))))),?_⟩
  obtain ⟨l',r',pl',pr',pg,el,er,em,e1,e2,pm⟩:=J0 hl2 hr2 (g:=aA [l2,r2]) (by show Nat.gcd (Nat.gcd 0 l2.natAbs) r2.natAbs=_;rw [Nat.gcd_zero_left])
  have bg:Bits 9000 ((aA [l2,r2]:Nat):Int):=Bits.mono (j:=1400) (bl2.of_le (by rw [Int.natAbs_natCast];exact Nat.le_of_dvd (by omega) (by show Nat.gcd (Nat.gcd 0 l2.natAbs) r2.natAbs∣_;rw [Nat.gcd_zero_left];exact Nat.gcd_dvd_left _ _))) (by decide)
  have bl':Bits 1400 l':=bl2.of_le (by
   rw [el,Int.natAbs_mul]
   exact Nat.le_mul_of_pos_left _ (by omega))
  have br':Bits 2900 r':=br2.of_le (by
   rw [er,Int.natAbs_mul]
   exact Nat.le_mul_of_pos_left _ (by omega))
  refine aD ⟨_,rfl,l,C,dl,_,_,rfl,hL,R.cl,R.nB,bQ _ _,_,rfl,r,C,dr,_,_,rfl,hR,R.cl,R.nB,bQ _ _,_,_,rfl,rfl,⟨bl2.mono,br2.mono⟩,?_⟩
  refine ⟨_,rfl,l,C,dl,_,_,rfl,hL,R.cl,R.nB,bQ _ _,_,rfl,r,C,dr,_,_,rfl,hR,R.cl,R.nB,bQ _ _,by show 2<=sizeLine;decide,fun p0 hp0=>?_⟩
  have s0':=Same.upd_new (o:=.lst [V.int l2,V.int r2]) hp0
  refine ⟨p0,[l2,r2],rfl,SqL.of av,_,_,rfl,rfl,⟨pg,bg⟩,?_⟩
  generalize upd H p0 (.lst [V.int l2,V.int r2])=H0 at s0' ⊢
  dsimp only
  rw [em]
  refine aD ⟨_,rfl,l,C,dl,_,_,rfl,s0' _ _ hL,R.cl,R.nT,cM _ _,_,rfl,_,rfl,l,C,dl,_,_,rfl,s0' _ _ hL,R.cl,R.nB,bQ _ _,_,_,rfl,rfl,⟨hl2,bl2.mono⟩,?_⟩
  dsimp only
  rw [e1]
  refine ⟨_,_,rfl,rfl,⟨bl1.mono,br'.mono⟩,?_⟩
  refine aD ⟨_,rfl,r,C,dr,_,_,rfl,s0' _ _ hR,R.cl,R.nT,cM _ _,_,rfl,_,rfl,r,C,dr,_,_,rfl,s0' _ _ hR,R.cl,R.nB,bQ _ _,_,_,rfl,rfl,⟨hr2,br2.mono⟩,?_⟩
  dsimp only
  rw [e2]
  refine ⟨_,_,rfl,rfl,⟨br1.mono,bl'.mono⟩,?_⟩
  have q0:l1*r'*l2=l1*(l2*r'):=by grind
  have q1:r1*l'*r2=r1*(l2*r'):=by
   calc r1*l'*r2=r1*l'*(((aA [l2,r2]:Nat):Int)*r'):=by rw [<- er]
    _=r1*((((aA [l2,r2]:Nat):Int)*l')*r'):=by grind
    _=r1*(l2*r'):=by rw [<- el]
  have q2:0<r1*l':=Int.mul_pos hr1 pl'
  have bm:Bits 4300 (l2*r'):=bl2.mul br'
  have bs0:Bits 4300 (l1*r'):=bl1.mul br'
  have bs1:Bits 4300 (r1*l'):=br1.mul bl'
  dsimp only
  generalize l2*r'=m at *
  generalize l1*r'=s0 at *
  generalize r1*l'=s1 at *
  have sb:∀ {l:List Int},AllB 1000 l->l.length<=12->AllB 60000 (cc m s0 s1 l):=fun {l} h hl=>(wI bm bs0 bs1 h).mono (by omega)
  refine aD ⟨Nat.zero_le _,fun p1 hp1=>?_⟩
  have s1':=s0'.then_new (o:=.lst []) hp1
  have h1:upd H0 p1 (.lst []) p1=some (.lst []):=av
  have f1:H p1=none:=s0'.free hp1
  generalize upd H0 p1 (.lst [])=H1 at s1' h1 ⊢
  refine aD ?_
  have hl:(ns.map V.int).length=ns.length:=List.length_map _
  refine ⟨_,rfl,a,_,rfl,SqL.of (s1' _ _ hA),tY (K:=K) (a:=a) (xs:=ns.map V.int) (fun i σ' H'=>∃ (p:Addr) (z:Option V),σ'=[some (.ref a),some (.ref l),some (.ref r),some (.int m),some (.int s0),some (.int s1),some (.ref p),some (.int (m^i)),z]/\Same H H'/\H p=none/\H' p=some (.lst ((cc m s0 s1 (ns.drop (ns.length-i))).map V.int))) ⟨p1,none,by rw [Int.pow_zero];rfl,s1',f1,by rw [Nat.sub_zero,List.drop_length];exact h1⟩ ?_ ?_ ?_⟩
  ·rintro i σ' H' _ ⟨p,z,rfl,sm,_⟩
   exact SqL.of (sm _ _ hA)
  ·rintro i x σ' H2 hi hx ⟨p,z,rfl,s2,fp,e2'⟩
   rw [hl] at hi hx
   obtain ⟨c,ec,rfl,hc,_⟩:=ga hx
   have bc:=hbn c hc
   have hd:=zQ hi ec
   have len:(ns.drop (ns.length-i)).length=i:=by rw [List.length_drop];omega
   have hbd:AllB 1000 (ns.drop (ns.length-i)):=fun x hx=>hbn x (List.mem_of_mem_drop hx)
   have aF:=sb hbd (by omega)
   have lF:(cc m s0 s1 (ns.drop (ns.length-i))).length=i:=by rw [jy,len]
   have bP:Bits 60000 (m^i):=(jb bm i).mono (by omega)
   have eF:gn (ad (cc m s0 s1 (ns.drop (ns.length-i))) [s0,s1]) (trim [c*m^i])=cc m s0 s1 (ns.drop (ns.length-(i+1))):=by
    have hT':Tr (cc m s0 s1 (ns.drop (ns.length-(i+1)))):=Bn q2 (by rw [hd];simp) (Bs hT (by omega))
    rw [hd] at hT' ⊢
    have hT2:Tr (mb (-s0) s1 (c*m^i) (cc m s0 s1 (ns.drop (ns.length-i)))):=by
     have:cc m s0 s1 (c::ns.drop (ns.length-i))=mb (-s0) s1 (c*m^(ns.drop (ns.length-i)).length) (cc m s0 s1 (ns.drop (ns.length-i))):=rfl
     rw [this,len] at hT'
     exact hT'
    show _=mb (-s0) s1 (c*m^(ns.drop (ns.length-i)).length) (cc m s0 s1 (ns.drop (ns.length-i)))
    rw [len]
    by_cases hi0:i=0
    ·subst hi0
     have e0:cc m s0 s1 (ns.drop (ns.length-0))=[]:=by rw [Nat.sub_zero,List.drop_length];rfl
     rw [e0] at hT2 ⊢
     refine nM (eQ _) hT2 fun k=>?_
     unfold gn
     rw [gj,gQ,aP,gj,Int.one_mul]
     show 0+_=_
     rw [Int.zero_add];rfl
    ·have hn':cc m s0 s1 (ns.drop (ns.length-i))≠[]:=fun z=>by rw [z] at lF;exact hi0 lF.symm
     have:=BM (a := -s0) (b:=s1) (c:=c*m^i) hn' hT2
     rw [Int.neg_neg] at this
     exact this
   show dk (gW _ (iJ 6)) _ _ _ _
   have bs:AllB 4300 [s0,s1]:=fun x hx=>by
    simp only [List.mem_cons,List.not_mem_nil,or_false] at hx
    rcases hx with rfl | rfl
    ·exact bs0
    ·exact bs1
   generalize cc m s0 s1 (ns.drop (ns.length-i))=Fs at *
   refine aD ⟨_,rfl,_,rfl,_,rfl,by show 2<=sizeLine;decide,fun p3 hp3=>?_⟩
   have s3:=s2.then_new (o:=.lst ([s0,s1].map V.int)) hp3
   have e3:upd H2 p3 (.lst ([s0,s1].map V.int)) p=some (.lst (Fs.map V.int)):=(Same.upd_new hp3) _ _ e2'
   have h3:upd H2 p3 (.lst ([s0,s1].map V.int)) p3=some (.lst ([s0,s1].map V.int)):=av
   refine ⟨p,p3,Fs,[s0,s1],rfl,e3,h3,by omega,by show 2<=1000000;decide,aF.mono,bs.mono,fun p4 H4 s4 hp4 e4=>?_⟩
   have t4:=s3.trans s4
   refine ⟨_,rfl,_,rfl,_,_,rfl,rfl,⟨bc.mono,bP.mono⟩,by show 1<=sizeLine;decide,fun p5 hp5=>?_⟩
   have s5:=t4.then_new (o:=.lst ([c*m^i].map V.int)) hp5
   have e5:upd H4 p5 (.lst ([c*m^i].map V.int)) p4=some (.lst ((ad Fs [s0,s1]).map V.int)):=(Same.upd_new hp5) _ _ e4
   have h5:upd H4 p5 (.lst ([c*m^i].map V.int)) p5=some (.lst ([c*m^i].map V.int)):=av
   refine ⟨p5,[c*m^i],rfl,SqL.of h5,fun p6 H6 s6 hp6 e6=>?_⟩
   have t6:=s5.trans s6
   refine ⟨p4,p6,ad Fs [s0,s1],trim [c*m^i],rfl,SqL.of (s6 _ _ e5),SqL.of e6,?_,?_,fun p7 H7 s7 hp7 e7=>?_⟩
   ·have:(ad Fs [s0,s1]).length<=1000:=by
     unfold ad
     split
     ·exact Nat.zero_le _
     ·rw [List.length_map,List.length_range];show _+2-1<=_;omega
    omega
   ·have:=tz [c*m^i]
    have:(trim [c*m^i]).length<=1:=this
    omega
   rw [eF] at e7
   refine da ⟨_,rfl,_,rfl,_,_,rfl,rfl,⟨bP.mono,bm.mono⟩,?_⟩
   refine ⟨p7,some (.int c),?_,t6.trans s7,t6.free hp7,e7⟩
   rw [Int.pow_succ];rfl
  ·rintro σ' H' ⟨p,z,rfl,sm,fp,e⟩
   rw [hl,Nat.sub_self,List.drop_zero] at e
   exact ⟨_,rfl,k m s0 s1 pm q0 q1 q2 (sb hbn hln) p H' sm fp e⟩
def qU:Sp:=fun vs H Q _=>∃ (a:Addr) (ns:List Int),vs=[.ref a]/\H a=some (.lst (ns.map V.int))/\ns.length<=1000/\AllB 500000 ns/\mkL H Q (cG ns)
theorem D5 {f:Addr} {fd:FuncData} (F:Fun K "spread" "spread" jO f fd) (T:Txt K mg):FnOk P w K mg base CX0 1 f fd ["row"] qU:=by
 refine F.ok sc_spread (fun vs H Q E h=>?_) (fun cdv A outer s H vs Q E hr h=>?_)
 ·obtain ⟨a,ns,rfl,_⟩:=h
  rfl
 ·obtain ⟨a,ns,rfl,hA,hn,hb,k⟩:=h
  have big:=sizeLine_eq
  refine ⟨_,(ah (ap (i:=1) sc_spread.nd rfl (Or.inl rfl) (bz ac))
   (ah (ap (i:=2) sc_spread.nd rfl (Or.inl rfl) af)
   (ah (cR PassesOwn.never rfl (sC rfl T.reversed_ (aa (pv 0) ac)) (aT (i:=3) sc_spread.nd rfl (Or.inl rfl))
     (ah (fO (lj PySem.F.plainAttrs_list PySem.F.slot_list_append PySem.F.type_list_append lC (pv 1) (aa (aj aN (pv 2) (pv 3)) ac)))
       (ao (ap (i:=2) sc_spread.nd rfl (Or.inl rfl) (aj aN af (pv 2))))))
   (ah (fO (x8 PySem.F.plainAttrs_list PySem.F.slot_list_reverse PySem.F.type_list_reverse Fq (pv 1)))
   (ao (aC (pv 1))))))),?_⟩
  refine aD ⟨Nat.zero_le _,fun p1 hp1=>?_⟩
  have s1':=Same.upd_new (o:=.lst []) hp1
  have h1:upd H p1 (.lst []) p1=some (.lst []):=av
  generalize upd H p1 (.lst [])=H1 at s1' h1 ⊢
  refine aD ?_
  have hl:(ns.map V.int).length=ns.length:=List.length_map _
  refine ⟨_,rfl,a,_,rfl,SqL.of (s1' _ _ hA),tY (K:=K) (a:=a) (xs:=ns.map V.int) (fun i σ' H'=>∃ z:Option V,σ'=[some (.ref a),some (.ref p1),some (.int (2^i)),z]/\Same H H'/\H' p1=some (.lst ((cG (ns.drop (ns.length-i))).reverse.map V.int))) ⟨none,rfl,s1',by rw [Nat.sub_zero,List.drop_length];exact h1⟩ ?_ ?_ ?_⟩
  ·rintro i σ' H' _ ⟨z,rfl,sm,_⟩
   exact SqL.of (sm _ _ hA)
  ·rintro i x σ' H2 hi hx ⟨z,rfl,s2,h2⟩
   rw [hl] at hi hx
   obtain ⟨c,ec,rfl,hc,_⟩:=ga hx
   have hd:=zQ hi ec
   have len:(ns.drop (ns.length-i)).length=i:=by rw [List.length_drop];omega
   show dk (oB _) _ _ _ _
   refine hI ⟨_,rfl,.inl ⟨rfl,_,SqL.of h2⟩,_,rfl,_,rfl,_,_,rfl,rfl,⟨(mS (n:=i) (k:=1001) (by omega)).mono,(hb c hc).mono⟩,p1,_,_,rfl,rfl,h2,by rw [List.length_map,List.length_reverse,oF,len];omega,?_⟩
   refine da ⟨_,rfl,_,_,rfl,rfl,⟨fG,(mS (n:=i) (k:=1001) (by omega)).mono⟩,?_⟩
   refine ⟨some (.int c),?_,fQ s2 hp1,?_⟩
   ·show [some (V.ref a),some (V.ref p1),some (V.int (2*2^i)),some (V.int c)]=_
    rw [Int.pow_succ,Int.mul_comm]
   ·rw [av,hd,FC]
    show some (HO.lst (((cG (ns.drop (ns.length-i))).reverse++[2^i*c]).map V.int))=some (HO.lst ((2^(ns.drop (ns.length-i)).length*c::cG (ns.drop (ns.length-i))).reverse.map V.int))
    rw [List.reverse_cons,len]
  ·rintro σ' H2 ⟨z,rfl,s2,h2⟩
   rw [hl,Nat.sub_self,List.drop_zero] at h2
   dsimp only
   refine hI ⟨_,rfl,.inl ⟨rfl,_,SqL.of h2⟩,p1,_,rfl,rfl,h2,?_⟩
   refine ⟨_,rfl,k p1 _ (fQ s2 hp1) hp1 ?_⟩
   rw [av,<- List.map_reverse,List.reverse_reverse]
def dF (m:List Int) (j:Nat):List Int:=m.take (m.length-1-j)++suf (m.drop (m.length-1-j))
theorem sJ:∀ (i:Nat) (m:List Int),dH i m=m.take i++suf (m.drop i)
 | 0,m=>by rw [List.take_zero,List.drop_zero];rfl
 | i+1,[]=>rfl
 | i+1,c::m=>by show c::dH i m=c::(m.take i++suf (m.drop i));rw [sJ i m]
theorem Hx (m:List Int) (j:Nat):(dF m j).length=m.length:=by
 unfold dF
 rw [List.length_append,jx,<- List.length_append,List.take_append_drop]
theorem Hv (m:List Int):dF m 0=m:=by
 unfold dF
 rw [Nat.sub_zero]
 cases hd:m.drop (m.length-1) with
 | nil =>
   have:m.length-1=m.length\/True:=.inr trivial
   have h1:m.length<=m.length-1:=List.drop_eq_nil_iff.mp hd
   have:m=[]:=List.eq_nil_of_length_eq_zero (by omega)
   subst this;rfl
 | cons c r =>
   have hl:=congrArg List.length hd
   rw [List.length_drop,List.length_cons] at hl
   have:r=[]:=List.eq_nil_of_length_eq_zero (by omega)
   subst this
   show _++[c+0]=_
   rw [Int.add_zero,<- hd,List.take_append_drop]
theorem Hy (m:List Int) {i:Nat} (h:i+1<=m.length):dF m (m.length-1-i)=dH i m:=by
 unfold dF
 rw [sJ]
 have:m.length-1-(m.length-1-i)=i:=by omega
 rw [this]
theorem Hw (m:List Int) {j:Nat} (h:j+2<=m.length):(dF m j).set (m.length-2-j) (cf (dF m j) (m.length-2-j)+cf (dF m j) (m.length-1-j))=dF m (j+1):=by
 have e1:m.length-1-(j+1)=m.length-2-j:=by omega
 have e2:m.length-1-j=m.length-2-j+1:=by omega
 have hk:m.length-2-j<m.length:=by omega
 unfold dF
 rw [e1,e2]
 generalize m.length-2-j=k at hk e2
 have hd:m.drop k=m[k]::m.drop (k+1):=List.drop_eq_getElem_cons hk
 have ht:m.take (k+1)=m.take k++[m[k]]:=by rw [List.take_add_one,List.getElem?_eq_getElem hk];rfl
 rw [hd,ht]
 have lt:(m.take k).length=k:=by rw [List.length_take];omega
 have c1:cf (m.take k++[m[k]]++suf (m.drop (k+1))) k=m[k]:=by
  rw [List.append_assoc,nV (by omega),lt,Nat.sub_self];rfl
 have c2:cf (m.take k++[m[k]]++suf (m.drop (k+1))) (k+1)=(suf (m.drop (k+1))).headD 0:=by
  rw [nV (by rw [List.length_append,lt];exact Nat.le_refl _),List.length_append,lt]
  show cf _ (k+1-(k+1))=_
  rw [Nat.sub_self]
  cases suf (m.drop (k+1)) with
  | nil=>rfl
  | cons _ _=>rfl
 rw [c1,c2]
 show _=m.take k++((m[k]+(suf (m.drop (k+1))).headD 0)::suf (m.drop (k+1)))
 rw [List.append_assoc,List.set_append_right _ _ (by omega),lt,Nat.sub_self]
 rfl
theorem wF {M:Nat}:∀ {l:List Int},(∀ x∈l,x.natAbs<=M)->∀ x∈suf l,x.natAbs<=l.length*M
 | [],_,x,hx=>nomatch hx
 | v::l,h,x,hx=>by
   have ih:=wF (l:=l) fun x hx=>h x (List.mem_cons_of_mem _ hx)
   have hv:=h v (List.mem_cons_self ..)
   have hh:((suf l).headD 0).natAbs<=l.length*M:=by
    cases hs:suf l with
    | nil=>show (0:Int).natAbs<=_;exact Nat.zero_le _
    | cons g r=>exact ih g (by rw [hs];exact List.mem_cons_self ..)
   rw [List.length_cons,Nat.add_mul,Nat.one_mul]
   rcases List.mem_cons.mp hx with e | e
   ·subst e;omega
   ·have:=ih x e;omega
theorem DP {i k:Nat} {m:List Int} (h:AllB i m) (hl:m.length<=16):AllB (i+4) (dH k m):=by
 rw [sJ]
 refine AllB.app (fun x hx=>(h x (List.mem_of_mem_take hx)).mono (by omega)) fun x hx=>?_
 have h1:=wF (M:=2^i-1) (l:=m.drop k) (fun y hy=>by have:y.natAbs<2^i:=h y (List.mem_of_mem_drop hy);omega) x hx
 have h2:(m.drop k).length*(2^i-1)<=16*(2^i-1):=Nat.mul_le_mul_right _ (by rw [List.length_drop];omega)
 have h3:0<2^i:=Nat.pow_pos (by decide)
 show x.natAbs<2^(i+4)
 have h4:2^(i+4)=2^i*16:=by rw [Nat.pow_add]
 omega
theorem yH {i:Nat} {m:List Int} (h:AllB i m) (hl:m.length<=16):∀ n,AllB (i+4*n) (eJ n m)
 | 0=>h
 | n+1=>by
   have:=DP (k:=n) (yH h hl n) (by rw [pF];exact hl)
   exact this.mono (by omega)
theorem Fv {i:Nat} {m:List Int} (h:AllB i m) (hl:m.length<=12):AllB (i+44) (mY m):=(yH h (by omega) _).mono (by omega)
theorem wQ {i:Nat}:∀ {m:List Int},AllB i m->m.length<=12->AllB (i+13) (cG m)
 | [],_,_=>AllB.nil
 | v::m,h,hl=>by
   have ih:=wQ (m:=m) (fun x hx=>h x (List.mem_cons_of_mem _ hx)) (by rw [List.length_cons] at hl;omega)
   intro x hx
   rcases List.mem_cons.mp hx with e | e
   ·subst e
    have:=(mS (n:=m.length) (k:=13) (by rw [List.length_cons] at hl;omega)).mul (h v (List.mem_cons_self ..))
    exact this.mono (by omega)
   ·exact ih x e
def rz:Sp:=fun vs H Q _=>∃ (a:Addr) (ns:List Int),vs=[.ref a]/\H a=some (.lst (ns.map V.int))/\1<=ns.length/\ns.length<=1000/\mkL H Q (mY ns)
theorem rZ (l:List Int) (k:Nat) (v:Int):(l.map V.int).set k (.int v)=(l.set k v).map V.int:=by rw [List.map_set]
theorem vw {l:List Int} {k:Nat} {j:Int} (e:j=(k:Int)) (h:k<l.length):atI (l.map V.int) j=some (.int (cf l k)):=by
 subst e
 refine md ?_
 rw [List.getElem?_map,List.getElem?_eq_getElem h]
 show some (V.int l[k])=_
 rw [Aq (List.getElem?_eq_getElem h)]
theorem Eo {f:Addr} {fd:FuncData} (F:Fun K "moved" "moved" j7 f fd) (T:Txt K mg) {ge:Addr} {gd:FuncData} (gt:Cal P w K mg base 1 "degree" ["row"] gY ge gd):FnOk P w K mg base CX0 2 f fd ["row"] rz:=by
 obtain ⟨dS,dJ,dO,dR⟩:=gt
 refine F.ok sc_moved (fun vs H Q E h=>?_) (fun cdv A outer s H vs Q E hr h=>?_)
 ·obtain ⟨a,ns,rfl,_⟩:=h
  rfl
 ·obtain ⟨a,ns,rfl,hA,hn1,hn,k⟩:=h
  have big:=sizeLine_eq
  refine ⟨_,(ah (ap (i:=1) sc_moved.nd rfl (Or.inl rfl) (gE (qr (K:=K) rfl) (by rfl) T.list_ PyProof.Rows.boot_list (aa (pv 0) ac)))
   (ah (cR PassesOwn.never rfl (lg rfl T.range_ (aa (aq dS (hr.mono) rfl dJ dO dR .nil ai (aa (pv 0) ac)) ac)) (aT (i:=2) sc_moved.nd rfl (Or.inl rfl))
     (ao (cR PassesOwn.never rfl (x5 rfl T.range_ (aa (aj cs (aq dS (hr.mono) rfl dJ dO dR .nil ai (aa (pv 0) ac)) af) (aa (aj cs (pv 2) af) (aa (bU bT af) ac)))) (aT (i:=3) sc_moved.nd rfl (Or.inl rfl))
       (ao (eD (aj bI (aI (cw (K:=K) rfl) (pv 1) (pv 3) (fun _ _=>rfl)) (aI (cw (K:=K) rfl) (pv 1) (aj bI (pv 3) af) (fun _ _=>rfl))) (li (pv 1) (pv 3) jG))))))
   (ao (aC (pv 1))))),?_⟩
  refine aD ⟨_,rfl,a,_,rfl,.inl (SqL.of hA),fun p hp=>?_⟩
  have s1':=Same.upd_new (o:=.lst (ns.map V.int)) hp
  have h1:upd H p (.lst (ns.map V.int)) p=some (.lst (ns.map V.int)):=av
  generalize upd H p (.lst (ns.map V.int))=H1 at s1' h1 ⊢
  have hl:(ns.map V.int).length=ns.length:=List.length_map _
  have ed:((ns.map V.int).length:Int)-1=((ns.length-1:Nat):Int):=by rw [hl];omega
  refine ⟨_,rfl,a,_,rfl,s1' _ _ hA,_,rfl,(by rw [ed];omega),(by rw [ed];omega),?_⟩
  rw [ed]
  refine qe (lo:=0) (n:=ns.length-1) (fun i σ' H'=>∃ z2 z3:Option V,σ'=[some (.ref a),some (.ref p),z2,z3]/\Same H H'/\H' p=some (.lst ((eJ i ns).map V.int))) ⟨none,none,rfl,s1',h1⟩ ?_ ?_
  ·rintro i σ' H2 hi ⟨z2,z3,rfl,s2,h2⟩
   have lm:(eJ i ns).length=ns.length:=pF _ _
   generalize hM:eJ i ns=M at h2 lm
   refine ⟨_,rfl,a,_,rfl,s2 _ _ hA,_,_,rfl,rfl,_,rfl,_,_,rfl,rfl,_,rfl,((ns.length-2:Nat):Int),(i:Int)-1,?_,⟨by omega,by omega,by omega,by omega⟩,?_⟩
   ·rw [ed]
    have e1:((ns.length-1:Nat):Int)-1=((ns.length-2:Nat):Int):=by omega
    have e2:(0:Int)+(i:Int)-1=(i:Int)-1:=by omega
    dsimp only
    rw [e1,e2]
   have en:(((ns.length-2:Nat):Int)-((i:Int)-1)).toNat=ns.length-1-i:=by omega
   rw [en]
   refine zy (fun j σ' H'=>∃ z3:Option V,σ'=[some (.ref a),some (.ref p),some (.int (0+(i:Int))),z3]/\Same H H'/\H' p=some (.lst ((dF M j).map V.int))) ⟨z3,rfl,s2,by rw [Hv];exact h2⟩ ?_ ?_
   ·rintro j σ' H3 hj ⟨z3,rfl,s3,h3⟩
    have lh:(dF M j).length=ns.length:=by rw [Hx,lm]
    have hs:=Hw M (j:=j) (by omega)
    rw [lm] at hs
    have k1:((ns.length-2:Nat):Int)+(j:Int) * -1=((ns.length-2-j:Nat):Int):=by omega
    have k2:((ns.length-2:Nat):Int)+(j:Int) * -1+1=((ns.length-1-j:Nat):Int):=by omega
    refine ⟨_,rfl,_,rfl,p,_,_,_,rfl,rfl,SqL.of h3,vw k1 (by omega),_,rfl,_,rfl,_,_,rfl,rfl,p,_,_,_,rfl,rfl,SqL.of h3,vw k2 (by omega),_,_,rfl,rfl,_,rfl,_,rfl,p,_,_,ns.length-2-j,rfl,rfl,h3,?_,?_⟩
    ·exact lJ k1 (by rw [List.length_map];omega)
    refine ⟨_,rfl,fQ s3 hp,?_⟩
    rw [av,rZ,hs]
   ·rintro σ' H3 ⟨z3,rfl,s3,h3⟩
    refine ⟨_,_,rfl,s3,?_⟩
    have:dF M (ns.length-1-i)=eJ (i+1) ns:=by
     rw [<- lm,Hy M (by omega),<- hM];rfl
    rw [<- this];exact h3
  ·rintro σ' H2 ⟨z2,z3,rfl,s2,h2⟩
   exact ⟨_,rfl,k p H2 s2 hp h2⟩
structure RootB (ns:List Int) (ε:Int) (up:Int->Int->Prop):Prop where
 e1:ε=1\/ε = -1
 r1:∀ p c,0<p->p<=c->up p c->sg (hv p c ns) = -ε
 r2:∀ p c,0<p->p<=c->¬ up p c->sg (hv p c ns)=ε\/sg (hv p c ns)=0
 r3:∀ p c p' c',0<p->p<=c->0<p'->p'<=c'->¬ up p c->p*c'<p'*c->sg (hv p' c' ns)=ε
 sc:∀ p c,0<c->(up (2*p) (2*c)↔up p c)
 top:¬ up 1 1
theorem Hq (p c:Int) (l:List Int):sg (hv (2*p) (2*c) l)=sg (hv p c l):=by
 rw [pZ];exact dW (Int.pow_pos (by decide))
def rG:Sp:=fun vs H Q _=>∃ (a:Addr) (ns:List Int) (e:Int) (n:Nat) (ε:Int) (up:Int->Int->Prop),vs=[.ref a,.int e,.int n]/\H a=some (.lst (ns.map V.int))/\1<=ns.length/\ns.length<=12/\AllB 60000 ns/\n<=4000/\RootB ns ε up/\e=sg (hv 1 1 ns) /\
 ∀ (p:Addr) (H':Hp) (pl:Nat),Same H H'->H p=none->H' p=some (.tup [.int pl,.int (2^n)])->pl<2^n->(pl=0\/up pl (2^n))->¬ up ((pl:Int)+1) (2^n)->Q (.ref p) H'
theorem Ey {f:Addr} {fd:FuncData} (F:Fun K "halved" "halved" kf f fd) (T:Txt K mg) {IR:Addr} {HV:FuncData} (LF:Cal P w K mg base 1 "spread" ["row"] qU IR HV) {iR:Addr} {iK:FuncData} (jp:Cal P w K mg base 1 "whole_sign" ["value"] jB iR iK) {I0:Addr} {Ie:FuncData} (LP:Cal P w K mg base 2 "moved" ["row"] rz I0 Ie):FnOk P w K mg base CX0 3 f fd ["row","end","steps"] rG:=by
 obtain ⟨KS,FO,GN,J6⟩:=LF
 obtain ⟨jj,ip,iz,jc⟩:=jp
 obtain ⟨Lb,FX,GW,Kf⟩:=LP
 refine F.ok sc_halved (fun vs H Q E h=>?_) (fun cdv A outer s H vs Q E hr h=>?_)
 ·obtain ⟨a,ns,e,n,ε,up,rfl,_⟩:=h
  rfl
 ·obtain ⟨a,ns,e,n,ε,up,rfl,hA,h1n,hln,hbn,hn,hB,he,k⟩:=h
  refine ⟨_,(ah (ap (i:=3) sc_halved.nd rfl (Or.inl rfl) af)
   (ah (ap (i:=4) sc_halved.nd rfl (Or.inl rfl) af)
   (ah (ap (i:=5) sc_halved.nd rfl (Or.inl rfl) (pv 1))
   (ah (ap (i:=6) sc_halved.nd rfl (Or.inl rfl) (pv 0))
   (ah (cR PassesOwn.never rfl (lg rfl T.range_ (aa (pv 2) ac)) (aT (i:=7) sc_halved.nd rfl (Or.inl rfl))
     (ah (ap (i:=3) sc_halved.nd rfl (Or.inl rfl) (aj aN af (pv 3)))
       (ah (ap (i:=4) sc_halved.nd rfl (Or.inl rfl) (aj aN af (pv 4)))
       (ah (ap (i:=6) sc_halved.nd rfl (Or.inl rfl) (aq KS (hr.mono) rfl FO GN J6 .nil ai (aa (pv 6) ac)))
       (ah (ap (i:=8) sc_halved.nd rfl (Or.inl rfl) (aq jj (hr.mono) rfl ip iz jc .nil ai (aa (bH (JU (K:=K) rfl rfl) (by rfl) T.sum_ PyProof.Rows.boot_sum (aa (pv 6) ac)) ac)))
       (ao (aV (PW.pt (ie (aM ll (pv 8) af (aH _)) (ic (aM ll (pv 8) (pv 5) (aH _)))))
         (ah (ap (i:=3) sc_halved.nd rfl (Or.inl rfl) (aj bI (pv 3) af))
           (ao (ap (i:=6) sc_halved.nd rfl (Or.inl rfl) (aq Lb (hr.mono) rfl FX GW Kf .nil ai (aa (pv 6) ac)))))
         (ao (ap (i:=5) sc_halved.nd rfl (Or.inl rfl) (pv 8))))))))))
   (ao (aC (cU (aa (pv 3) (aa (pv 4) ac)))))))))),?_⟩
  refine aD ?_
  refine aD ?_
  refine aD ⟨_,rfl,?_⟩
  refine aD ⟨_,rfl,?_⟩
  refine ⟨_,rfl,n,rfl,by omega,by omega,qe (lo:=0) (n:=n) (fun i σ' H'=>∃ (p:Addr) (pl:Nat) (L:List Int) (z7 z8:Option V),σ'=[some (.ref a),some (.int e),some (.int n),some (.int pl),some (.int (2^i)),some (.int (sg (hv ((pl:Int)+1) (2^i) ns))),some (.ref p),z7,z8]/\Same H H'/\H' p=some (.lst (L.map V.int))/\L.length=ns.length/\AllB (60000+60*i) L/\(∀ p q:Int,2^i*hv p q L=hv (pl*q+p) (2^i*q) ns)/\pl<2^i/\(pl=0\/up pl (2^i))/\¬ up ((pl:Int)+1) (2^i)) ⟨a,0,ns,none,none,by rw [he];rfl,Same.refl _,hA,rfl,hbn,fun p q=>by rw [Int.pow_zero,Int.one_mul,Int.one_mul];show _=hv (0*q+p) q ns;rw [Int.zero_mul,Int.zero_add],by decide,.inl rfl,by rw [Int.pow_zero];exact hB.top⟩ ?_ ?_⟩
  ·rintro i σ' H1 hi ⟨p,pl,L,z7,z8,rfl,s1,h1,lL,bL,hval,hpl,hup,hnup⟩
   show dk (gW _ (iJ 3)) _ _ _ _
   have b2i:Bits 4002 ((2:Int)^i):=mS (by omega)
   have p2i:=ld i
   have cpl:(pl:Int)<2^i:=by rw [ij];exact Int.ofNat_lt.mpr hpl
   have bpl:Bits 4002 (pl:Int):=b2i.of_le (by rw [ij];omega)
   refine aD ⟨_,rfl,_,_,rfl,rfl,⟨fG,bpl.mono⟩,?_⟩
   refine aD ⟨_,rfl,_,_,rfl,rfl,⟨fG,b2i.mono⟩,?_⟩
   refine aD ⟨_,rfl,p,L,rfl,h1,by omega,bL.mono (by omega),fun p2 H2 s2 hp2 e2=>?_⟩
   have t2:=s1.trans s2
   have lS:(cG L).length=ns.length:=by rw [oF,lL]
   have bS:AllB (60000+60*i+13) (cG L):=wQ bL (by omega)
   have e2i:(2:Int)*2^i=2^(i+1):=by rw [Int.pow_succ,Int.mul_comm]
   have vS:∀ p q:Int,2^(i+1)*hv p q (cG L)=hv (((2*pl:Nat):Int)*q+p) (2^(i+1)*q) ns:=fun p q=>by
    have h3:=hval p (2*q)
    rw [<- zo] at h3
    have h4:(2:Int)^(i+1)*hv p q (cG L)=2^i*(2*hv p q (cG L)):=by rw [Int.pow_succ];grind
    rw [h4,h3]
    have h5:(pl:Int)*(2*q)+p=((2*pl:Nat):Int)*q+p:=by
     have:((2*pl:Nat):Int)=2*(pl:Int):=by omega
     rw [this];grind
    have h6:(2:Int)^i*(2*q)=2^(i+1)*q:=by rw [Int.pow_succ];grind
    rw [h5,h6]
   refine aD ⟨_,rfl,p2,cG L,rfl,SqL.of e2,_,rfl,?_⟩
   have p2i1:=ld (i+1)
   have ethere:sg (cG L).sum=sg (hv (((2*pl:Nat):Int)+1) (2^(i+1)) ns):=by
    have h3:=vS 1 1
    rw [Int.mul_one,Int.mul_one] at h3
    rw [<- zm,<- h3,dW p2i1]
   have c2pl:(((2*pl:Nat):Int)+1)<=2^(i+1):=by rw [<- e2i];omega
   have hold:sg (hv ((pl:Int)+1) (2^i) ns)=sg (hv (2*((pl:Int)+1)) (2^(i+1)) ns):=by rw [<- e2i,Hq]
   have plc:(pl:Int)+1<=2^i:=by omega
   generalize hth:sg (cG L).sum=th at ethere
   show mw _ _ _ _ _ _
   have epl:(2:Int)*(pl:Int)=((2*pl:Nat):Int):=by omega
   have n2i:2^(i+1)=2*2^i:=by rw [Nat.pow_succ,Nat.mul_comm]
   refine gA (fun σ' H'=>σ'=[some (.ref a),some (.int e),some (.int n),some (.int (2*(pl:Int))),some (.int (2*2^i)),some (.int (sg (hv ((pl:Int)+1) (2^i) ns))),some (.ref p2),some (.int (0+(i:Int))),some (.int th)]/\H2=H') ⟨by rw [<- hth];rfl,rfl⟩ ?_
   rintro σ' H' ⟨rfl,rfl⟩
   by_cases hu:up (((2*pl:Nat):Int)+1) (2^(i+1))
   ·
    have r1:=hB.r1 _ _ (by omega) c2pl hu
    rw [<- ethere] at r1
    have r2:=hB.r2 _ _ (by omega) plc hnup
    have n0:th≠0:=by rcases hB.e1 with z | z<;>omega
    have n1:th≠sg (hv ((pl:Int)+1) (2^i) ns):=by rcases hB.e1 with z | z<;>rcases r2 with y | y<;>omega
    refine mM (dX ⟨_,rfl,_,_,rfl,rfl,_,rfl,cZ (fun _=>?_) (fun h0=>absurd h0 n0)⟩)
    refine ⟨_,rfl,_,rfl,_,_,rfl,rfl,_,rfl,cZ (fun _=>?_) (fun h0=>absurd h0 n1)⟩
    refine aD ⟨_,rfl,_,_,rfl,rfl,?_⟩
    refine da ⟨_,rfl,p2,cG L,rfl,e2,by omega,by omega,fun p3 H3 s3 hp3 e3=>?_⟩
    refine ⟨p3,2*pl+1,mY (cG L),some (.int (0+(i:Int))),some (.int th),?_,t2.trans s3,e3,by rw [yI,lS],(Fv bS (by omega)).mono (by omega),fun p q=>?_,by omega,.inr ?_,?_⟩
    ·have q1:(2:Int)*(pl:Int)+1=((2*pl+1:Nat):Int):=by omega
     have q2:((2*pl+1:Nat):Int)+1=2*((pl:Int)+1):=by omega
     rw [q2,<- hold,<- q1,<- e2i];rfl
    ·rw [Hr,vS]
     have:((2*pl:Nat):Int)*q+(p+q)=((2*pl+1:Nat):Int)*q+p:=by
      have:((2*pl+1:Nat):Int)=((2*pl:Nat):Int)+1:=by omega
      rw [this];grind
     rw [this]
    ·exact hu
    ·have q2:((2*pl+1:Nat):Int)+1=2*((pl:Int)+1):=by omega
     rw [q2,<- e2i,hB.sc _ _ p2i]
     exact hnup
   ·
    have r2:=hB.r2 _ _ (by omega) c2pl hu
    rw [<- ethere] at r2
    have r3:=hB.r3 _ _ ((pl:Int)+1) (2^i) (by omega) c2pl (by omega) plc hu (by
     have h7:(((2*pl:Nat):Int)+1)*2^i<(2*(pl:Int)+2)*2^i:=Int.mul_lt_mul_of_pos_right (by omega) p2i
     have h8:((pl:Int)+1)*2^(i+1)=(2*(pl:Int)+2)*2^i:=by rw [Int.pow_succ];grind
     omega)
    have low:∃ (p:Addr) (q:Nat) (L':List Int) (z7 z8:Option V),[some (V.ref a),some (V.int e),some (V.int n),some (V.int (2*(pl:Int))),some (V.int (2*2^i)),some (V.int th),some (V.ref p2),some (V.int (0+(i:Int))),some (V.int th)]=[some (.ref a),some (.int e),some (.int n),some (.int q),some (.int (2^(i+1))),some (.int (sg (hv ((q:Int)+1) (2^(i+1)) ns))),some (.ref p),z7,z8]/\Same H H2/\H2 p=some (.lst (L'.map V.int))/\L'.length=ns.length/\AllB (60000+60*(i+1)) L'/\(∀ p q':Int,2^(i+1)*hv p q' L'=hv (q*q'+p) (2^(i+1)*q') ns)/\q<2^(i+1)/\(q=0\/up q (2^(i+1)))/\¬ up ((q:Int)+1) (2^(i+1)):=by
     refine ⟨p2,2*pl,cG L,some (.int (0+(i:Int))),some (.int th),by rw [e2i,epl,ethere],t2,e2,lS,bS.mono (by omega),vS,by omega,?_,hu⟩
     rcases hup with z | z
     ·exact .inl (by omega)
     ·refine .inr ?_
      rw [<- epl,<- e2i,hB.sc _ _ p2i]
      exact z
    by_cases n0:th=0
    ·refine mM (dX ⟨_,rfl,_,_,rfl,rfl,_,rfl,cZ (fun h0=>absurd n0 h0) (fun _=>?_)⟩)
     exact cQ (da ⟨_,rfl,low⟩)
    ·have n1:th=sg (hv ((pl:Int)+1) (2^i) ns):=by
      rcases r2 with z | z
      ·rw [z,r3]
      ·exact absurd z n0
     refine mM (dX ⟨_,rfl,_,_,rfl,rfl,_,rfl,cZ (fun _=>?_) (fun h0=>absurd h0 n0)⟩)
     refine ⟨_,rfl,_,rfl,_,_,rfl,rfl,_,rfl,cZ (fun h0=>absurd n1 h0) (fun _=>?_)⟩
     exact da ⟨_,rfl,low⟩
  ·rintro σ' H1 ⟨p,pl,L,z7,z8,rfl,s1,h1,lL,bL,hval,hpl,hup,hnup⟩
   dsimp only
   refine bh ⟨_,rfl,_,rfl,by show 2<=sizeLine;decide,fun p' hp'=>?_⟩
   exact k p' _ pl (s1.then_new hp') (s1.free hp') av hpl hup hnup
structure RootU (ns:List Int) (l1 l2 h1 h2 ε:Int) (Up:Int->Int->Prop):Prop where
 e1:ε=1\/ε = -1
 r1:∀ x1 x2,0<x2->l1*x2<x1*l2->x1*h2<=h1*x2->Up x1 x2->sg (hv x1 x2 ns) = -ε
 r2:∀ x1 x2,0<x2->l1*x2<x1*l2->x1*h2<=h1*x2->¬ Up x1 x2->sg (hv x1 x2 ns)=ε\/sg (hv x1 x2 ns)=0
 r3:∀ x1 x2 y1 y2,0<x2->0<y2->l1*x2<x1*l2->y1*h2<=h1*y2->¬ Up x1 x2->x1*y2<y1*x2->sg (hv y1 y2 ns)=ε
 sc:∀ x1 x2 y1 y2,0<x2->0<y2->x1*y2=y1*x2->Up x1 x2->Up y1 y2
 low:Up l1 l2
 top:¬ Up h1 h2
structure EndsG (k:Nat) (l1 l2 h1 h2:Int):Prop where
 l2p:0<l2
 h2p:0<h2
 bl1:Bits k l1
 bl2:Bits k l2
 bh1:Bits k h1
 bh2:Bits k h2
 lt:l1*h2<h1*l2
 gl:Nat.gcd l1.natAbs l2.natAbs=1
 gh:Nat.gcd h1.natAbs h2.natAbs=1
theorem EndsG.mono {j k:Nat} {l1 l2 h1 h2:Int} (e:EndsG j l1 l2 h1 h2) (h:j<=k:=by decide):EndsG k l1 l2 h1 h2:=⟨e.l2p,e.h2p,e.bl1.mono h,e.bl2.mono h,e.bh1.mono h,e.bh2.mono h,e.lt,e.gl,e.gh⟩
structure NarP (l1 l2 h1 h2 w1 w2:Int) (Up:Int->Int->Prop) (kb:Nat) (n pl:Nat) (x1 x2 y1 y2:Int):Prop where
 ends:EndsG kb x1 x2 y1 y2
 ux:Up x1 x2
 uy:¬ Up y1 y2
 lo:l1*x2<=x1*l2
 hi:y1*h2<=h1*y2
 wide:(y1*x2-x1*y2)*w2<=w1*(x2*y2)
 pls:pl<2^n
 ex:x1*(l2*h2*2^n)=(l1*h2*2^n+(h1*l2-l1*h2)*pl)*x2
 ey:y1*(l2*h2*2^n)=(l1*h2*2^n+(h1*l2-l1*h2)*(pl+1))*y2
 big:∀ j:Nat,j<n->w1*(h2*l2)*2^j<(h1*l2-l1*h2)*w2
 fit:(h1*l2-l1*h2)*w2<=w1*(h2*l2)*2^n
theorem Cc {x1 x2 y1 y2:Int} (hx:0<x2) (hy:0<y2) (e:x1*y2=y1*x2) (l:List Int):sg (hv x1 x2 l)=sg (hv y1 y2 l):=by
 have h1:=pZ y2 x1 x2 l
 have h2:=pZ x2 y1 y2 l
 have e1:y2*x1=x2*y1:=by rw [Int.mul_comm y2,e,Int.mul_comm]
 rw [e1,Int.mul_comm y2 x2] at h1
 rw [h1] at h2
 have h3:=congrArg sg h2
 rw [dW (Int.pow_pos hy),dW (Int.pow_pos hx)] at h3
 exact h3
theorem cancel {a b c:Int} (hc:0<c) (h:a*c=b*c):a=b:=Int.eq_of_mul_eq_mul_right (Int.ne_of_gt hc) h
theorem lX {a b c:Int} (hc:0<c) (h:a*c<=b*c):a<=b:=Int.le_of_mul_le_mul_right h hc
theorem lV {a b c:Int} (hc:0<c) (h:a*c<b*c):a<b:=Int.lt_of_mul_lt_mul_right h (Int.le_of_lt hc)
theorem AN {l1 l2 h1 h2 r1 r2 x1 x2 pc pl:Int} (hr:0<r2) (er:r1*(h2*l2)=(h1*l2-l1*h2)*r2) (e:x1*(l2*r2*pc)=(l1*r2*pc+r1*l2*pl)*x2):x1*(l2*h2*pc)=(l1*h2*pc+(h1*l2-l1*h2)*pl)*x2:=by
 refine cancel hr ?_
 calc x1*(l2*h2*pc)*r2=(x1*(l2*r2*pc))*h2:=by grind
  _=(l1*r2*pc+r1*l2*pl)*x2*h2:=by rw [e]
  _=(l1*h2*pc*r2+(r1*(h2*l2))*pl)*x2:=by grind
  _=(l1*h2*pc*r2+((h1*l2-l1*h2)*r2)*pl)*x2:=by rw [er]
  _=(l1*h2*pc+(h1*l2-l1*h2)*pl)*x2*r2:=by grind
theorem yu {l1 l2 h1 h2 w1 w2 x1 x2 y1 y2 pc pl:Int} (hl:0<l2) (hh:0<h2) (hx:0<x2) (hy:0<y2) (hpc:0<pc) (hp0:0<=pl) (hp1:pl+1<=pc) (hD:0<h1*l2-l1*h2) (ex:x1*(l2*h2*pc)=(l1*h2*pc+(h1*l2-l1*h2)*pl)*x2) (ey:y1*(l2*h2*pc)=(l1*h2*pc+(h1*l2-l1*h2)*(pl+1))*y2) (fit:(h1*l2-l1*h2)*w2<=w1*(h2*l2)*pc):x1*y2<y1*x2/\l1*x2<=x1*l2/\y1*h2<=h1*y2/\(y1*x2-x1*y2)*w2<=w1*(x2*y2):=by
 have hlh:0<l2*h2:=Int.mul_pos hl hh
 have hM:0<l2*h2*pc:=Int.mul_pos hlh hpc
 have hxy:0<x2*y2:=Int.mul_pos hx hy
 have hd:(y1*x2-x1*y2)*(l2*h2*pc)=(h1*l2-l1*h2)*(x2*y2):=by
  calc (y1*x2-x1*y2)*(l2*h2*pc)=(y1*(l2*h2*pc))*x2-(x1*(l2*h2*pc))*y2:=by grind
   _=((l1*h2*pc+(h1*l2-l1*h2)*(pl+1))*y2)*x2-((l1*h2*pc+(h1*l2-l1*h2)*pl)*x2)*y2:=by rw [ex,ey]
   _=(h1*l2-l1*h2)*(x2*y2):=by grind
 have hi:y1*h2<=h1*y2:=by
  refine lX (c:=l2*pc) (Int.mul_pos hl hpc) ?_
  have e1:y1*h2*(l2*pc)=y1*(l2*h2*pc):=by grind
  have e2:h1*y2*(l2*pc)=(l1*h2*pc+(h1*l2-l1*h2)*pc)*y2:=by grind
  rw [e1,ey,e2]
  refine Int.mul_le_mul_of_nonneg_right ?_ (Int.le_of_lt hy)
  have:=Int.mul_le_mul_of_nonneg_left hp1 (Int.le_of_lt hD)
  omega
 generalize h1*l2-l1*h2=D at *
 refine ⟨?_,?_,hi,?_⟩
 ·have h3:0<(y1*x2-x1*y2)*(l2*h2*pc):=by rw [hd];exact Int.mul_pos hD hxy
  have h4:0<y1*x2-x1*y2:=lV hM (by rw [Int.zero_mul];exact h3)
  omega
 ·refine lX (c:=h2*pc) (Int.mul_pos hh hpc) ?_
  have e1:x1*l2*(h2*pc)=x1*(l2*h2*pc):=by grind
  have e2:l1*x2*(h2*pc)=l1*h2*pc*x2:=by grind
  rw [e1,ex,e2,Int.add_mul]
  have:0<=D*pl*x2:=Int.mul_nonneg (Int.mul_nonneg (Int.le_of_lt hD) hp0) (Int.le_of_lt hx)
  omega
 ·refine lX hM ?_
  have e1:(y1*x2-x1*y2)*w2*(l2*h2*pc)=((y1*x2-x1*y2)*(l2*h2*pc))*w2:=by grind
  have e2:w1*(x2*y2)*(l2*h2*pc)=w1*(h2*l2)*pc*(x2*y2):=by grind
  have e3:D*(x2*y2)*w2=D*w2*(x2*y2):=by grind
  rw [e1,hd,e2,e3]
  exact Int.mul_le_mul_of_nonneg_right fit (Int.le_of_lt hxy)
def oM (C:Addr):Sp:=fun vs H Q _=>∃ (a l h wd:Addr) (ns:List Int) (l1 l2 h1 h2 w1 w2:Int) (k kw:Nat) (ε:Int) (Up:Int->Int->Prop),vs=[.ref a,.ref l,.ref h,.ref wd]/\H a=some (.lst (ns.map V.int))/\Tr ns/\ns≠[]/\ns.length<=12/\AllB 1000 ns/\RA C H l l1 l2/\RA C H h h1 h2/\RA C H wd w1 w2/\EndsG k l1 l2 h1 h2/\0<w1/\0<w2/\Bits kw w1/\Bits kw w2/\k<=1400/\2*k+kw<=3900/\5*k+kw<=8900/\RootU ns l1 l2 h1 h2 ε Up /\
 ∀ (p x y:Addr) (H':Hp) (n pl:Nat) (x1 x2 y1 y2:Int),Same H H'->H p=none->H' p=some (.tup [.ref x,.ref y])->RA C H' x x1 x2->RA C H' y y1 y2->NarP l1 l2 h1 h2 w1 w2 Up (5*k+kw+4) n pl x1 x2 y1 y2->Q (.ref p) H'
theorem Em {C f:Addr} {fd:FuncData} (F:Fun K "narrowed" "narrowed" j5 f fd) (T:Txt K mg) (R:RCI K mg C) {uO:Addr} {uv:FuncData} (v3:MCal P w K mg base 4 C "minus" ["self","other"] (oN C) uO uv) {Je:Addr} {Il:FuncData} (LV:Cal P w K mg base 1 "halvings" ["reach","width"] (rF C) Je Il) {Jf:Addr} {Im:FuncData} (LW:Cal P w K mg base 3 "halved" ["row","end","steps"] rG Jf Im) {IP:Addr} {HS:FuncData} (LD:Cal P w K mg base 3 "stretched" ["row","low","reach"] (qS C) IP HS) {iS:Addr} {iL:FuncData} (jq:Cal P w K mg base 2 "sign_at" ["row","ratio"] (jC C) iS iL) {Jk:Addr} {Iv:FuncData} (L3:Cal P w K mg base 5 "along" ["low","reach","place","pieces"] (rP C) Jk Iv):FnOk P w K mg base CX0 6 f fd ["row","low","high","width"] (oM C):=by
 obtain ⟨vI,sY,vt⟩:=v3
 obtain ⟨Lh,Gd,G2,Kl⟩:=LV
 obtain ⟨Li,Ge,G3,Km⟩:=LW
 obtain ⟨KQ,FM,GL,J4⟩:=LD
 obtain ⟨jk,iq,iA,jd⟩:=jq
 obtain ⟨AU,yP,y8,AE⟩:=L3
 refine F.ok sc_narrowed (fun vs H Q E h=>?_) (fun cdv A outer s H vs Q E hr h=>?_)
 ·obtain ⟨a,l,h,wd,ns,l1,l2,h1,h2,w1,w2,k,kw,ε,Up,rfl,_⟩:=h
  rfl
 ·obtain ⟨a,l,h,wd,ns,l1,l2,h1,h2,w1,w2,kb,kw,ε,Up,rfl,hA,hT,hne,hln,hbn,hl,hh,hw,en,hw1,hw2,bw1,bw2,hk1,hk2,hk3,hU,k⟩:=h
  refine ⟨_,(ah (ap (i:=4) sc_narrowed.nd rfl (Or.inl rfl) (dq (pv 2) R.cl sY vI (hr.mono) vt .nil ai (aa (pv 1) ac)))
   (ah (ap (i:=5) sc_narrowed.nd rfl (Or.inl rfl) (aq Lh (hr.mono) rfl Gd G2 Kl .nil ai (aa (pv 4) (aa (pv 3) ac))))
   (ah (aV (aM cX (pv 5) af (aH _))
     (ao (aC (cU (aa (pv 1) (aa (pv 2) ac)))))
     aW)
   (ah (ap (i:=6) sc_narrowed.nd rfl (Or.inl rfl) (aq Li (hr.mono) rfl Ge G3 Km .nil ai (aa (aq KQ (hr.mono) rfl FM GL J4 .nil ai (aa (pv 0) (aa (pv 1) (aa (pv 4) ac)))) (aa (aq jk (hr.mono) rfl iq iA jd .nil ai (aa (pv 0) (aa (pv 2) ac))) (aa (pv 5) ac)))))
   (ao (aC (cU (aa (aq AU (hr.mono) rfl yP y8 AE .nil ai (aa (pv 1) (aa (pv 4) (aa (aI (aX (K:=K) rfl) (pv 6) af (fun _ _=>rfl)) (aa (aI (aX (K:=K) rfl) (pv 6) af (fun _ _=>rfl)) ac))))) (aa (aq AU (hr.mono) rfl yP y8 AE .nil ai (aa (pv 1) (aa (pv 4) (aa (aj bI (aI (aX (K:=K) rfl) (pv 6) af (fun _ _=>rfl)) af) (aa (aI (aX (K:=K) rfl) (pv 6) af (fun _ _=>rfl)) ac))))) ac))))))))),?_⟩
  obtain ⟨dl,hl'⟩:=id hl
  obtain ⟨dh,hh'⟩:=id hh
  obtain ⟨l2p,h2p,bl1,bl2,bh1,bh2,lt,_,_⟩:=id en
  refine aD ⟨_,rfl,h,dh,_,rfl,hh',dG _ _ yn.1 yn.2,_,rfl,h,l,h1,h2,l1,l2,kb,kb,rfl,hh,hl,bh1.mono (by omega),bh2,bl1.mono (by omega),bl2,by omega,h2p,l2p,fun r H1 s1 fr hr1=>?_⟩
  have d0:h2*l2≠0:=Int.ne_of_gt (Int.mul_pos h2p l2p)
  have er:=fe (t:=h1*l2-l1*h2) d0
  have r2p:0<rb (h1*l2-l1*h2) (h2*l2):=dB d0
  have br1:Bits (2*kb+1) (rt (h1*l2-l1*h2) (h2*l2)):=eV d0 (Bits.sub ((bh1.mul bl2).mono (by omega)) ((bl1.mul bh2).mono (by omega)))
  have br2:Bits (2*kb+1) (rb (h1*l2-l1*h2) (h2*l2)):=fc d0 ((bh2.mul bl2).mono (by omega))
  generalize rt (h1*l2-l1*h2) (h2*l2)=r1 at *
  generalize rb (h1*l2-l1*h2) (h2*l2)=r2 at *
  have hD:0<h1*l2-l1*h2:=by omega
  have hhl:0<h2*l2:=Int.mul_pos h2p l2p
  have r1p:0<r1:=lV hhl (by rw [Int.zero_mul,er];exact Int.mul_pos hD r2p)
  have hA1:=s1 _ _ hA
  have hl1:=hl.same s1
  have hh1:=hh.same s1
  refine aD ⟨_,rfl,_,rfl,r,wd,r1,r2,w1,w2,2*kb+1,kw,rfl,hr1,hw.same s1,r2p,hw1,br1,br2.mono (by omega),bw1.mono (by omega),bw2,by omega,fun n hn hle hmin=>?_⟩
  have fit:(h1*l2-l1*h2)*w2<=w1*(h2*l2)*2^n:=by
   refine lX r2p ?_
   calc (h1*l2-l1*h2)*w2*r2=((h1*l2-l1*h2)*r2)*w2:=by grind
    _=r1*(h2*l2)*w2:=by rw [er]
    _=r1*w2*(h2*l2):=by grind
    _<=w1*r2*2^n*(h2*l2):=Int.mul_le_mul_of_nonneg_right hle (Int.le_of_lt hhl)
    _=w1*(h2*l2)*2^n*r2:=by grind
  have bigg:∀ j:Nat,j<n->w1*(h2*l2)*2^j<(h1*l2-l1*h2)*w2:=fun j hj=>by
   refine lV r2p ?_
   calc w1*(h2*l2)*2^j*r2=w1*r2*2^j*(h2*l2):=by grind
    _<r1*w2*(h2*l2):=Int.mul_lt_mul_of_pos_right (hmin j hj) hhl
    _=r1*(h2*l2)*w2:=by grind
    _=(h1*l2-l1*h2)*r2*w2:=by rw [er]
    _=(h1*l2-l1*h2)*w2*r2:=by grind
  refine bK ⟨_,rfl,_,_,rfl,rfl,_,rfl,aQ (fun h0=>?_) (fun _=>?_)⟩
  ·obtain rfl:n=0:=by have:(n:Int)=0:=h0;omega
   refine bh ⟨_,rfl,_,rfl,by show 2<=sizeLine;decide,fun p hp=>?_⟩
   have sp:=Same.upd_new (o:=.tup [V.ref l,V.ref h]) hp
   have ex:l1*(l2*h2*2^0)=(l1*h2*2^0+(h1*l2-l1*h2)*((0:Nat):Int))*l2:=by rw [Int.pow_zero];show _=(_+_*0)*_;grind
   have ey:h1*(l2*h2*2^0)=(l1*h2*2^0+(h1*l2-l1*h2)*(((0:Nat):Int)+1))*h2:=by rw [Int.pow_zero];show _=(_+_*(0+1))*_;grind
   have nf:=yu (w1:=w1) (w2:=w2) (pc:=2^0) l2p h2p l2p h2p (ld 0) (Int.le_refl 0) (by decide) hD ex ey fit
   exact k p l h _ 0 0 l1 l2 h1 h2 (s1.then_new hp) (s1.free hp) av (hl1.same sp) (hh1.same sp) ⟨en.mono (by omega),hU.low,hU.top,Int.le_refl _,Int.le_refl _,nf.2.2.2,by decide,ex,ey,bigg,fit⟩
  refine aD ⟨_,rfl,_,rfl,_,rfl,a,l,r,ns,l1,l2,r1,r2,rfl,hA1,hl1,hr1,hT,hne,hln,hbn,l2p,r1p,r2p,bl1.mono hk1,bl2.mono hk1,br1.mono (by omega),br2.mono (by omega),fun m s0 s1' pm e0 e1 hs1 bS p2 H2 s2 hp2 eq2=>?_⟩
  have t2:=s1.trans s2
  refine ⟨_,rfl,_,rfl,a,h,ns,h1,h2,⟨rfl,t2 _ _ hA,hh.same t2,by omega,hbn.mono,bh1.mono (by omega),bh2.mono (by omega)⟩,fun H3 s3=>?_⟩
  have t3:=t2.trans s3
  have lp:0<l2*r2:=Int.mul_pos l2p r2p
  have top:(s0+s1')*h2=h1*m:=by
   refine cancel lp ?_
   calc (s0+s1')*h2*(l2*r2)=((s0*l2)*r2+(s1'*r2)*l2)*h2:=by grind
    _=(l1*m*r2+r1*m*l2)*h2:=by rw [e0,e1]
    _=m*(l1*r2*h2+r1*(h2*l2)):=by grind
    _=m*(l1*r2*h2+(h1*l2-l1*h2)*r2):=by rw [er]
    _=h1*m*(l2*r2):=by grind
  have pt:∀ p c:Int,0<p->p<=c->0<m*c/\l1*(m*c)<(s0*c+s1'*p)*l2/\(s0*c+s1'*p)*h2<=h1*(m*c):=fun p c hp hc=>by
   refine ⟨Int.mul_pos pm (by omega),?_,?_⟩
   ·have:(s0*c+s1'*p)*l2=l1*(m*c)+s1'*p*l2:=by
     calc (s0*c+s1'*p)*l2=(s0*l2)*c+s1'*p*l2:=by grind
      _=l1*m*c+s1'*p*l2:=by rw [e0]
      _=l1*(m*c)+s1'*p*l2:=by grind
    rw [this]
    have:=Int.mul_pos (Int.mul_pos hs1 hp) l2p
    omega
   ·have h3:s1'*p<=s1'*c:=Int.mul_le_mul_of_nonneg_left hc (Int.le_of_lt hs1)
    have h4:(s0*c+s1'*p)*h2<=(s0*c+s1'*c)*h2:=Int.mul_le_mul_of_nonneg_right (by omega) (Int.le_of_lt h2p)
    have h5:(s0*c+s1'*c)*h2=h1*(m*c):=by
     calc (s0*c+s1'*c)*h2=((s0+s1')*h2)*c:=by grind
      _=h1*m*c:=by rw [top]
      _=h1*(m*c):=by grind
    omega
  have vs:∀ p c:Int,sg (hv p c (cc m s0 s1' ns))=sg (hv (s0*c+s1'*p) (m*c) ns):=fun p c=>by
   rw [<- zn,dW pm]
  have hB:RootB (cc m s0 s1' ns) ε (fun p c=>Up (s0*c+s1'*p) (m*c)):=by
   refine ⟨hU.e1,fun p c hp hc hu=>?_,fun p c hp hc hu=>?_,fun p c p' c' hp hc hp' hc' hu hlt=>?_,fun p c hc=>?_,fun hu=>?_⟩
   ·rw [vs]
    obtain ⟨q1,q2,q3⟩:=pt p c hp hc
    exact hU.r1 _ _ q1 q2 q3 hu
   ·rw [vs]
    obtain ⟨q1,q2,q3⟩:=pt p c hp hc
    exact hU.r2 _ _ q1 q2 q3 hu
   ·rw [vs]
    obtain ⟨q1,q2,q3⟩:=pt p c hp hc
    obtain ⟨q1',q2',q3'⟩:=pt p' c' hp' hc'
    refine hU.r3 _ _ _ _ q1 q1' q2 q3' hu ?_
    have h3:s1'*m*(p*c')<s1'*m*(p'*c):=Int.mul_lt_mul_of_pos_left hlt (Int.mul_pos hs1 pm)
    have e3:(s0*c+s1'*p)*(m*c')=s0*c*(m*c')+s1'*m*(p*c'):=by grind
    have e4:(s0*c'+s1'*p')*(m*c)=s0*c*(m*c')+s1'*m*(p'*c):=by grind
    omega
   ·have g1:0<m*c:=Int.mul_pos pm hc
    have g2:0<m*(2*c):=Int.mul_pos pm (by omega)
    constructor
    ·exact hU.sc _ _ _ _ g2 g1 (by grind)
    ·exact hU.sc _ _ _ _ g1 g2 (by grind)
   ·refine hU.top (hU.sc _ _ _ _ (by rw [Int.mul_one];exact pm) h2p ?_ hu)
    rw [Int.mul_one,Int.mul_one,Int.mul_one];exact top
  have lstr:=jy m s0 s1' ns
  have hn1:1<=ns.length:=List.length_pos_iff.mpr hne
  refine ⟨_,rfl,p2,cc m s0 s1' ns,_,n,ε,_,rfl,s3 _ _ eq2,by omega,by omega,bS,by omega,hB,?_,fun p4 H4 pl s4 hp4 e4 hpl hup hnup=>?_⟩
  ·rw [vs]
   refine Cc h2p (by rw [Int.mul_one];exact pm) ?_ ns
   rw [Int.mul_one,Int.mul_one,Int.mul_one];exact top.symm
  have t4:=t3.trans s4
  have u4:=(s2.trans s3).trans s4
  have b2n:Bits (n+1) ((2:Int)^n):=mS (by omega)
  have cpl:(pl:Int)<2^n:=by rw [ij];exact Int.ofNat_lt.mpr hpl
  have bpl:Bits (n+1) (pl:Int):=b2n.of_le (by rw [ij];omega)
  have bpl1:Bits (n+1) ((pl:Int)+1):=b2n.of_le (by rw [ij];omega)
  have p2n:=ld n
  refine bh ⟨_,rfl,_,rfl,_,rfl,p4,_,_,_,rfl,rfl,SqT.of e4,rfl,_,rfl,p4,_,_,_,rfl,rfl,SqT.of e4,rfl,l,r,l1,l2,r1,r2,pl,2^n,kb,2*kb+1,n+1,rfl,hl.same t4,hr1.same u4,l2p,r2p,p2n,bl1,bl2,br1,br2,bpl,b2n,by omega,fun x H5 x1 x2 s5 hx hRx x2p ex bx1 bx2 gx=>?_⟩
  have e5:=s5 _ _ e4
  have t5:=t4.trans s5
  have u5:=u4.trans s5
  refine ⟨_,rfl,_,rfl,_,rfl,p4,_,_,_,rfl,rfl,SqT.of e5,rfl,_,_,rfl,rfl,_,rfl,p4,_,_,_,rfl,rfl,SqT.of e5,rfl,l,r,l1,l2,r1,r2,pl+1,2^n,kb,2*kb+1,n+1,rfl,hl.same t5,hr1.same u5,l2p,r2p,p2n,bl1,bl2,br1,br2,bpl1,b2n,by omega,fun y H6 y1 y2 s6 hy hRy y2p ey by1 by2 gy=>?_⟩
  refine ⟨by show 2<=sizeLine;decide,fun p hp=>?_⟩
  have sp:=Same.upd_new (o:=.tup [V.ref x,V.ref y]) hp
  have t6:=t5.trans s6
  have ex':=AN r2p er ex
  have ey':=AN r2p er ey
  have nf:=yu (w1:=w1) (w2:=w2) l2p h2p x2p y2p p2n (show (0:Int)<=(pl:Int) by omega) (by omega) hD ex' ey' fit
  have cross:∀ (q z1 z2:Int),z1*(l2*r2*2^n)=(l1*r2*2^n+r1*l2*q)*z2->(s0*2^n+s1'*q)*z2=z1*(m*2^n):=fun q z1 z2 ez=>by
   refine cancel lp ?_
   calc (s0*2^n+s1'*q)*z2*(l2*r2)=((s0*l2)*r2*2^n+(s1'*r2)*l2*q)*z2:=by grind
    _=(l1*m*r2*2^n+r1*m*l2*q)*z2:=by rw [e0,e1]
    _=m*((l1*r2*2^n+r1*l2*q)*z2):=by grind
    _=m*(z1*(l2*r2*2^n)):=by rw [ez]
    _=z1*(m*2^n)*(l2*r2):=by grind
  have hm2:0<m*2^n:=Int.mul_pos pm p2n
  refine k p x y _ n pl x1 x2 y1 y2 (t6.then_new hp) (t6.free hp) av ((hRx.same s6).same sp) (hRy.same sp) ⟨⟨x2p,y2p,bx1.mono (by omega),bx2.mono (by omega),by1.mono (by omega),by2.mono (by omega),nf.1,gx,gy⟩,?_,?_,nf.2.1,nf.2.2.1,nf.2.2.2,hpl,ex',ey',bigg,fit⟩
  ·rcases hup with z | z
   ·refine hU.sc _ _ _ _ l2p x2p ?_ hU.low
    rw [z] at ex'
    refine cancel (Int.mul_pos h2p p2n) ?_
    calc l1*x2*(h2*2^n)=(l1*h2*2^n+(h1*l2-l1*h2)*((0:Nat):Int))*x2:=by show _=(_+_*0)*_;grind
     _=x1*(l2*h2*2^n):=ex'.symm
     _=x1*l2*(h2*2^n):=by grind
   ·exact hU.sc _ _ _ _ hm2 x2p (cross _ _ _ ex) z
  ·intro hu
   exact hnup (hU.sc _ _ _ _ y2p hm2 (cross _ _ _ ey).symm hu)
theorem Ef {f:Addr} {fd:FuncData} (F:Fun K "refuse_high" "refuse_high" jX f fd) (T:Txt K mg):FnOk P w K mg base CX0 1 f fd ["height"] (fun vs H Q _=>∃ i:Int,vs=[.int i]/\i<=8/\Q .non H):=by
 obtain ⟨tH,hHIGHEST⟩:=T.HIGHEST_
 refine F.ok Co (fun vs H Q E h=>?_) (fun cdv A outer s H vs Q E hr h=>?_)
 ·obtain ⟨i,rfl,_⟩:=h
  rfl
 ·obtain ⟨i,rfl,hi,k⟩:=h
  refine ⟨_,(ao (aV (aM cW (pv 0) (sG (v:=.int 8) rfl hHIGHEST ⟨_,rfl⟩) (aH _))
   (ao ig)
   aW)),?_⟩
  refine mM ⟨_,rfl,_,_,rfl,rfl,_,rfl,aQ (fun h=>absurd (show i>8 from h) (by omega)) (fun _=>?_)⟩
  exact k
structure NCI (K:PySem.W.Frag) (mg:Str->Option Value) (CN:Addr):Prop where
 cl:Cls K CN
 nP:NoAttr K CN "poly"
 nL:NoAttr K CN "low"
 nH:NoAttr K CN "high"
 mg:mg "Number"=some (.ref CN)
 ha:PySem.W.findIn K (.ref CN) "__class__"=some (some (.builtin "object.__class__"))
 hn:PySem.W.specialIn K (.builtin "object.__class__") "__get__"=some (some (.builtin "getset_descriptor.__get__"))
 ht:PySem.W.takesIn K (.builtin "object.__class__")=some true
 hm:PySem.W.mroIn K CN (.type "object")=some true
def gL (p l h:Addr):List (Str×V):=cK "high" (.ref h) (cK "low" (.ref l) (cK "poly" (.ref p) []))
theorem DJ:¬ (("poly":Str)="high"):=by decide +kernel
theorem DE:¬ (("poly":Str)="low"):=by decide +kernel
theorem Gv:¬ (("low":Str)="high"):=by decide +kernel
theorem ub (p l h:Addr):(gL p l h).lookup ("high":Str)=some (.ref h):=by unfold gL;rw [dL,if_pos rfl]
theorem ua (p l h:Addr):(gL p l h).lookup ("low":Str)=some (.ref l):=by unfold gL;rw [dL,if_neg Gv,dL,if_pos rfl]
theorem zE (p l h:Addr):(gL p l h).lookup ("poly":Str)=some (.ref p):=by unfold gL;rw [dL,if_neg DJ,dL,if_neg DE,dL,if_pos rfl]
def NA (CN:Addr) (H:Hp) (x p l h:Addr):Prop:=∃ dx,H x=some (.ins CN dx (gL p l h))
theorem NA.same {CN:Addr} {H H':Hp} {x p l h:Addr} (n:NA CN H x p l h) (s:Same H H'):NA CN H' x p l h:=let ⟨dx,e⟩:=n;⟨dx,s _ _ e⟩
def oQ (CN:Addr):Sp:=fun vs H Q _=>∃ (x dx r l h:Addr) (ns:List V),vs=[.ref x,.ref r,.ref l,.ref h]/\H x=some (.ins CN dx [])/\H r=some (.lst ns)/\∀ p,H p=none->Q .non (upd (upd H p (.lst ns)) x (.ins CN dx (gL p l h)))
theorem Fc {CN f:Addr} {fd:FuncData} (F:Fun K "__init__" "Number.__init__" kU f fd) (T:Txt K mg) (RN:NCI K mg CN):FnOk P w K mg base CX0 1 f fd ["self","row","low","high"] (oQ CN):=by
 refine F.ok CJ (fun vs H Q E h=>?_) (fun cdv A outer s H vs Q E hr h=>?_)
 ·obtain ⟨x,dx,r,l,h,ns,rfl,_⟩:=h
  rfl
 ·obtain ⟨x,dx,r,l,h,ns,rfl,hx,hR,k⟩:=h
  refine ⟨_,(ah (mP (pv 0) (gE (qr (K:=K) rfl) (by rfl) T.list_ PyProof.Rows.boot_list (aa (pv 1) ac)) rfl)
   (ah (mP (pv 0) (pv 2) rfl)
   (ao (mP (pv 0) (pv 3) rfl)))),?_⟩
  refine ⟨_,rfl,r,_,rfl,.inl (SqL.of hR),fun p hp=>?_⟩
  have npx:x≠p:=aZ hx hp
  refine ⟨_,rfl,x,CN,dx,_,rfl,by rw [upd_ne npx];exact hx,RN.cl,RN.nP,by show 0<1000;decide,?_⟩
  refine ⟨_,rfl,_,rfl,x,CN,dx,_,rfl,av,RN.cl,RN.nL,by show 1<1000;decide,?_⟩
  refine ⟨_,rfl,_,rfl,x,CN,dx,_,rfl,av,RN.cl,RN.nH,by show 2<1000;decide,?_⟩
  show Q .non (upd (upd (upd (upd H p _) x _) x _) x _)
  rw [ow,ow]
  exact k p hp
def rc:Sp:=fun vs H Q _=>∃ (a:Addr) (ns:List Int),vs=[.ref a]/\H a=some (.lst (ns.map V.int))/\ns.length<=1000/\AllB 300 ns/\∀ H',Same H H'->Q .non H'
theorem Kz:Bits 399 (10^60*10^60)/\(2:Int)^300<=10^60*10^60:=by
 constructor
 ·show ((10:Int)^60*10^60).natAbs<2^399;decide +kernel
 ·decide +kernel
theorem Eg {f:Addr} {fd:FuncData} (F:Fun K "refuse_great" "refuse_great" jY f fd) (T:Txt K mg):FnOk P w K mg base CX0 1 f fd ["row"] rc:=by
 refine F.ok sc_refuse_great (fun vs H Q E h=>?_) (fun cdv A outer s H vs Q E hr h=>?_)
 ·obtain ⟨a,ns,rfl,_⟩:=h
  rfl
 ·obtain ⟨a,ns,rfl,hA,hl,hb,k⟩:=h
  have big:=sizeLine_eq
  refine ⟨_,(ah (ap (i:=1) sc_refuse_great.nd rfl (Or.inr rfl) (aj aN (aj pA af af) (aj pA af af)))
   (ao (aV (Ds (bH (JZ (K:=K) rfl rfl) (by rfl) T.any_ PyProof.Rows.boot_any (aa (fh (own:=["value"]) (fr:=["limit"]) (js:=[1]) (by walk_at "comp_ok") rfl (dY (K:=K) rfl (pv 0)) (fun _ _ _ _=>(aT (i:=0) (show List.Nodup (["value","limit"]:List Str) from by decide +kernel) rfl (Or.inl rfl))) (fun _ _ _ _=>(dZ pB (bH fz (by rfl) T.abs_ PyProof.Rows.boot_abs (aa (pv 0) ac)) (pv 1) (aH _)))) ac)) (by intro _;rfl))
     (ao ig)
     aW))),?_⟩
  have b6:Bits 1000000 ((10:Int)^60):=b60.mono
  refine aD ⟨_,_,rfl,rfl,⟨by decide,by decide,by decide⟩,_,_,rfl,rfl,⟨by decide,by decide,by decide⟩,_,_,rfl,rfl,⟨b6,b6⟩,?_⟩
  refine mM ⟨_,rfl,a,rfl,⟨_,SqL.of hA⟩,i8 (K:=K) (a:=a) (xs:=ns.map V.int) (fun i ys σ' H'=>∃ (z0:Option V) (bs:List Bool),σ'=[z0,some (.int (10^60*10^60))]/\ys=bs.map V.bl/\bs.length=i/\(∀ x∈bs,x=false)/\H=H') (by rw [List.length_map];omega) ⟨none,[],rfl,rfl,rfl,(fun _ h=>nomatch h),rfl⟩ ?_ ?_ ?_⟩
  ·rintro i ys σ' H' _ ⟨z0,bs,rfl,rfl,rfl,_,rfl⟩
   exact ⟨SqL.of hA,by rw [List.length_map];exact Nat.le_refl _⟩
  ·rintro i x ys σ' H' hi ⟨z0,bs,rfl,rfl,rfl,hbs,rfl⟩
   obtain ⟨c,_,rfl,hc,_⟩:=ga hi
   refine ⟨_,rfl,_,rfl,_,rfl,_,_,rfl,rfl,?_⟩
   refine ⟨_,bs++[false],rfl,?_,by rw [List.length_append];rfl,fun x hx=>?_,rfl⟩
   ·have hlt:¬ ((if c<0 then -c else c)≥10^60*10^60):=by
     have h1:c.natAbs<2^300:=hb c hc
     have h2:=Kz.2
     have h3:((2^300:Nat):Int)=(2:Int)^300:=by rw [Int.natCast_pow];rfl
     have h4:(c.natAbs:Int)<(2:Int)^300:=by rw [<- h3];exact Int.ofNat_lt.mpr h1
     generalize (2:Int)^300=X at h2 h4
     generalize (10:Int)^60*10^60=Y at h2 ⊢
     split<;>omega
    rw [List.map_append]
    show _++[V.bl (decide _)]=_
    rw [decide_eq_false hlt];rfl
   ·rcases List.mem_append.mp hx with h | h
    ·exact hbs x h
    ·exact List.mem_singleton.mp h
  rintro ys σ' H' p ⟨z0,bs,rfl,rfl,hbl,hbs,rfl⟩ hp
  refine ⟨p,bs,rfl,SqL.of av,?_⟩
  have e:bs.any id=false:=by
   rw [List.any_eq_false]
   intro x hx
   rw [hbs x hx];decide
  rw [e]
  refine ⟨_,rfl,cQ ?_⟩
  exact k _ (Same.upd_new hp)
theorem Ca {x:Int} (h:x<0):sg x = -1:=by unfold sg;split<;>(try split)<;>omega
theorem B9 {x:Int} (h:0<x):sg x=1:=by unfold sg;split<;>(try split)<;>omega
theorem gH:(¬ ("against":Str)="bottom")/\¬ ("against":Str)="top":=⟨by decide +kernel,by decide +kernel⟩
theorem b1k {k:Nat} (h:1<=k):Bits k (1:Int):=Bits.mono (j:=1) (by show (1:Int).natAbs<2^1;decide) h
theorem zO (t:Int):dv t 1=1:=by
 unfold dv
 rw [if_neg (by decide)]
 show ((Nat.gcd t.natAbs 1:Nat):Int)=1
 rw [Nat.gcd_one_right];rfl
theorem r9 (t:Int):rt t 1=t:=by
 have h:=kW (t:=t) (b:=1) (by decide)
 rw [zO,Int.one_mul] at h
 exact h
theorem sn (t:Int):rb t 1=1:=by
 have h:=ia (t:=t) (b:=1) (by decide)
 rw [zO,Int.one_mul] at h
 exact h
theorem zN {b:Int} (hb:0<b):dv 1 b=1:=by
 unfold dv
 rw [if_neg (by omega)]
 show ((Nat.gcd 1 b.natAbs:Nat):Int)=1
 rw [Nat.gcd_one_left];rfl
theorem CM {b:Int} (hb:0<b):rt 1 b=1:=by
 have h:=kW (t:=1) (b:=b) (by omega)
 rw [zN hb,Int.one_mul] at h
 exact h
theorem Da {b:Int} (hb:0<b):rb 1 b=b:=by
 have h:=ia (t:=1) (b:=b) (by omega)
 rw [zN hb,Int.one_mul] at h
 exact h
theorem FI {CN:Addr} {H3:Hp} {q:Addr->Hp->Prop} {E:XK} {r l h:Addr} {ns:List V} (e3:H3 r=some (.lst ns)) (k:∀ (x p:Addr) (H':Hp),Same H3 H'->H3 x=none->NA CN H' x p l h->H' p=some (.lst ns)->H3 p=none->q x H'):∀ x dx:Addr,H3 x=none->H3 dx=none->dx≠x->oQ CN (.ref x::([.ref r,.ref l,.ref h]++[])) (upd (upd H3 dx (.own x)) x (.ins CN dx [])) (fun v H2=>v=.non/\q x H2) E:=fun x dx nx ndx ne=>by
 have npx:r≠x:=aZ e3 nx
 have npd:r≠dx:=aZ e3 ndx
 refine ⟨x,dx,r,l,h,_,rfl,av,by rw [upd_ne npx,upd_ne npd];exact e3,fun q hq=>⟨rfl,?_⟩⟩
 have nqx:q≠x:=fun z=>by rw [z,av] at hq;cases hq
 have nqd:q≠dx:=fun z=>by rw [z,upd_ne ne,av] at hq;cases hq
 have hq3:H3 q=none:=by rw [upd_ne nqx,upd_ne nqd] at hq;exact hq
 refine k x q _ (fun c o ec=>?_) nx ⟨dx,av⟩ (by rw [upd_ne nqx,av]) hq3
 have ncx:c≠x:=aZ ec nx
 have ncd:c≠dx:=aZ ec ndx
 have e4:upd (upd H3 dx (.own x)) x (.ins CN dx []) c=some o:=by rw [upd_ne ncx,upd_ne ncd];exact ec
 rw [upd_ne ncx,upd_ne (aZ e4 hq)]
 exact e4
theorem uV {xs ys:List Int} {x y:Nat} (hx:AllB x xs) (hy:AllB y ys):∀ i,AllB (x+i*(y+1)) (aU xs ys i).1/\AllB (x+i*(y+1)) (aU xs ys i).2
 | 0=>by rw [Nat.zero_mul];exact ⟨AllB.zeros,hx⟩
 | i+1=>by
   obtain ⟨h1,h2⟩:=uV hx hy i
   have e:x+(i+1)*(y+1)=x+i*(y+1)+y+1:=by rw [Nat.succ_mul];omega
   have hs:Bits y (((RM.cf ys (ys.length-1)).natAbs:Nat):Int):=vz (hy.cf _)
   rw [e]
   show AllB _ (cS ys (aU xs ys i) _).1/\AllB _ (cS ys (aU xs ys i) _).2
   unfold cS
   dsimp only
   constructor
   ·intro v hv
    rcases List.mem_or_eq_of_mem_set hv with h | rfl
    ·obtain ⟨u,hu,rfl⟩:=List.mem_map.mp h
     exact (hs.mul (h1 u hu)).mono (by omega)
    ·exact (mI (h2.cf _)).mono (by omega)
   ·refine AllB.of_cf fun n=>?_
    rw [qq]
    by_cases hn:n<(scL (((RM.cf ys (ys.length-1)).natAbs:Nat):Int) (aU xs ys i).2).length-1
    ·rw [if_pos hn,bJ]
     have m1:Bits (x+i*(y+1)+y) ((((RM.cf ys (ys.length-1)).natAbs:Nat):Int)*RM.cf (aU xs ys i).2 n):=by
      have:=hs.mul (h2.cf n);rwa [Nat.add_comm] at this
     refine m1.sub ?_
     by_cases hp:(xs.length+1-ys.length-1-i)<=n
     ·rw [if_pos hp]
      exact (mI (h2.cf _)).mul (hy.cf _)
     ·rw [if_neg hp];exact Bits.zero
    ·rw [if_neg hn];exact Bits.zero
theorem mH {n:Nat} {l:List Int} (h:AllB n l):AllB n (ar l):=by
 intro y hy
 obtain ⟨x,hx,rfl⟩:=List.mem_map.mp hy
 obtain ⟨d,hd⟩:=iF hx
 by_cases hg:(aA l:Int)=0
 ·rw [hg,Int.ediv_zero];exact Bits.zero
 ·have e:x/(aA l:Int)=d:=by rw [hd];exact Int.mul_ediv_cancel_left d hg
  rw [e]
  refine (h x hx).of_le ?_
  rw [hd,Int.natAbs_mul]
  exact Nat.le_mul_of_pos_left _ (Int.natAbs_pos.mpr hg)
theorem rS (l:List Int):(ar l).length=l.length:=List.length_map _
theorem xC (n:Nat) (o:List Int):Run n [] o:=by cases n with | zero=>rfl | succ n=>exact .inl rfl
theorem zK (n:Nat) (o:List Int):RM.Ends n [] o:=by cases n with | zero=>rfl | succ n=>exact .inl rfl
theorem gr8:gr 540 6=91260:=by decide
def Okr (xs:List Int):Prop:=Tr xs/\AllB 91260 xs/\xs.length<=7
theorem xA:∀ (n:Nat) (one other:List Int) (x y s:Nat),one.length=s+1->s<=6->other.length<=s->s<n->Tr one->Tr other->AllB x one->AllB y other->x+1<=gr 540 (6-s)->y+1<=gr 540 (6-s+1)->Run n one other/\RM.Ends n one other/\∀ xs∈bF n one other,Okr xs
 | 0,one,other,x,y,s,_,_,_,h,_,_,_,_,_,_=>absurd h (Nat.not_lt_zero _)
 | m+1,one,other,x,y,s,hl,hs8,hol,hsm,t1,t2,b1,b2,g1,g2=>by
   have hne:one≠[]:=fun z=>by rw [z] at hl;simp at hl
   have m1:gr 540 (6-s)<=91260:=by rw [<- gr8];exact fu 540 (by omega)
   have bo1:AllB 91260 one:=b1.mono (by omega)
   have bo2:AllB 91260 other:=by
    by_cases ho:other=[]
    ·rw [ho];exact AllB.nil
    ·have:=List.length_pos_iff.mpr ho
     have m2:gr 540 (6-s+1)<=91260:=by rw [<- gr8];exact fu 540 (by omega)
     exact b2.mono (by omega)
   have fit:Fit one other:=⟨t1,t2,91260,bo1,bo2,by rw [hl];omega,by omega⟩
   have eS:bF (m+1) one other=one::bF m other (nxt one other):=by
    show (if one=[] then [] else one::bF m other (nxt one other))=_
    rw [if_neg hne]
   have ok1:Okr one:=⟨t1,bo1,by omega⟩
   by_cases ho:other=[]
   ·subst ho
    refine ⟨.inr ⟨fit,xC _ _⟩,.inr (zK _ _),fun xs hx=>?_⟩
    rw [eS,mK] at hx
    rw [List.mem_singleton.mp hx];exact ok1
   ·have hop:=List.length_pos_iff.mpr ho
    obtain ⟨d,hd⟩:∃ d,other.length=d+1:=⟨other.length-1,by omega⟩
    have hN:bj one other=(s-d-1)+2:=by unfold bj;omega
    have e6:6-s+2+(s-d-1)=6-d+1:=by omega
    have rb:AllB (x+bj one other*(y+1)) (aR one other):=((uV b1 b2 (bj one other)).2).trim
    have nb:AllB (x+bj one other*(y+1)) (nxt one other):=by
     unfold nxt rst
     rw [if_neg ho,oC (fy _ _)]
     refine mH fun v hv=>?_
     obtain ⟨u,hu,rfl⟩:=List.mem_map.mp hv
     have:=(rb u hu).neg
     rwa [show -1*u = -u by omega]
    have nl:(nxt one other).length<=d:=by
     unfold nxt rst
     rw [if_neg ho,oC (fy _ _),rS,ck]
     have:=gf (a:=one) ho
     omega
    have nt:Tr (nxt one other):=fH (eQ _)
    have jump:=tU 540 (6-s) (s-d-1)
    rw [e6] at jump
    have mm:=Nat.mul_le_mul_left (s-d-1+2) g2
    obtain ⟨r1,r2,r3⟩:=xA m other (nxt one other) y (x+bj one other*(y+1)) d hd (by omega) nl (by omega) t2 nt b2 nb (Nat.le_trans g2 (fu 540 (by omega))) (by rw [hN];omega)
    refine ⟨.inr ⟨fit,r1⟩,.inr r2,fun xs hx=>?_⟩
    rw [eS] at hx
    rcases List.mem_cons.mp hx with rfl | hx
    ·exact ok1
    ·exact r3 xs hx
theorem xG:∀ (n:Nat) (one other:List Int),(bF n one other).length<=n
 | 0,_,_=>Nat.le_refl _
 | n+1,one,other=>by
   show (if one=[] then [] else one::bF n other (nxt one other)).length<=n+1
   split
   ·exact Nat.zero_le _
   ·have:=xG n other (nxt one other)
    rw [List.length_cons];omega
theorem xj {n:Nat} {xs:List Int} (h:AllB n xs) (hl:xs.length<=9):AllB (n+4) (slopeL xs):=by
 intro x hx
 obtain ⟨k,hk,rfl⟩:=List.mem_map.mp hx
 have hk':k<xs.length-1:=List.mem_range.mp hk
 have b1:Bits 4 ((k:Int)+1):=Nat.lt_of_le_of_lt (show ((k:Int)+1).natAbs<=8 by omega) (by decide)
 exact (b1.mul (h.cf (k+1))).mono (by omega)
theorem BT (xs:List Int):(slopeL xs).length=xs.length-1:=by unfold slopeL;rw [List.length_map,List.length_range]
theorem CS {kps:List Int} (ktr:Tr kps) (kb:AllB 530 kps) (kl:kps.length<=7):Run 9 (ar kps) (ar (slopeL kps))/\RM.Ends 9 (ar kps) (ar (slopeL kps))/\∀ xs∈bF 9 (ar kps) (ar (slopeL kps)),Okr xs:=by
 by_cases h0:kps=[]
 ·subst h0
  exact ⟨xC _ _,zK _ _,fun xs hx=>by
   have e:ar []=[]:=rfl
   rw [e,mK] at hx
   exact nomatch hx⟩
 ·have hl:=List.length_pos_iff.mpr h0
  obtain ⟨s,hs⟩:∃ s,kps.length=s+1:=⟨kps.length-1,by omega⟩
  refine xA 9 (ar kps) (ar (slopeL kps)) 530 534 s (by rw [rS,hs]) (by omega) (by rw [rS,BT,hs];omega) (by omega) (fH ktr) (fH (wo ktr)) (mH kb) (mH (xj kb (by omega))) ?_ ?_
  ·exact Nat.le_trans (show 531<=gr 540 0 by decide) (fu 540 (Nat.zero_le _))
  ·exact Nat.le_trans (show 535<=gr 540 1 by decide) (fu 540 (by omega))
theorem pe {n:Nat} {l:List Int} (h:AllB n l):AllB n (aB l):=by
 unfold aB cH
 split
 ·intro y hy
  obtain ⟨x,hx,rfl⟩:=List.mem_map.mp hy
  exact (mH h x hx).neg
 ·exact mH h
theorem HA:∀ s:Nat,s<=8->1<=s->(s+3)*(gr 240 (8-s+1)+1)<=1000000
 | 0,_,h=>absurd h (by decide)
 | 1,_,_=>by show 4*(236400+1)<=1000000;decide
 | 2,_,_=>by show 5*(97920+1)<=1000000;decide
 | 3,_,_=>by show 6*(40560+1)<=1000000;decide
 | 4,_,_=>by show 7*(16800+1)<=1000000;decide
 | 5,_,_=>by show 8*(6960+1)<=1000000;decide
 | 6,_,_=>by show 9*(2880+1)<=1000000;decide
 | 7,_,_=>by show 10*(1200+1)<=1000000;decide
 | 8,_,_=>by show 11*(480+1)<=1000000;decide
 | n+9,h,_=>absurd h (by omega)
theorem xD:∀ (n:Nat) (one other:List Int) (x y s:Nat),one.length=s+1->s<=8->other.length<=s->s<n->Tr one->Tr other->AllB x one->AllB y other->x+1<=gr 240 (8-s)->y+1<=gr 240 (8-s+1)->mh n one other
 | 0,one,other,x,y,s,_,_,_,h,_,_,_,_,_,_=>absurd h (Nat.not_lt_zero _)
 | m+1,one,other,x,y,s,hl,hs8,hol,hsm,t1,t2,b1,b2,g1,g2=>by
   by_cases ho:other=[]
   ·exact .inl ho
   have hop:=List.length_pos_iff.mpr ho
   obtain ⟨d,hd⟩:∃ d,other.length=d+1:=⟨other.length-1,by omega⟩
   have hN:bj one other=(s-d-1)+2:=by unfold bj;omega
   have e6:8-s+2+(s-d-1)=8-d+1:=by omega
   have rb:AllB (x+bj one other*(y+1)) (aR one other):=((uV b1 b2 (bj one other)).2).trim
   have jump:=tU 240 (8-s) (s-d-1)
   rw [e6] at jump
   have mm:=Nat.mul_le_mul_left (s-d-1+2) g2
   have nl:=gf (a:=one) ho
   have m0:=fu 240 (show 8-s<=8-s+1 by omega)
   have fit:vJ one other:=⟨t1,t2,gr 240 (8-s+1),b1.mono (by omega),b2.mono (by omega),by rw [hl];exact HA s hs8 (by omega),by omega⟩
   exact .inr ⟨fit,xD m other (aB (aR one other)) y (x+bj one other*(y+1)) d hd (by omega) (by rw [RM.plain_len];omega) (by omega) t2 (gv (fy _ _)) b2 (pe rb) (Nat.le_trans g2 (fu 240 (by omega))) (by
    rw [hN]
    generalize (s-d-1+2)*(y+1)=z at mm ⊢
    generalize (s-d-1+2)*gr 240 (8-s+1)=z2 at mm jump
    omega)⟩
structure Made (kp:List Int) (c:Int) (us:List (List Int×Nat)):Prop where
 is:kp=whl c us
 c0:c≠0
 bc:Bits 10 c
 use:Use us
 deg:dgs id us<=8
 one:2<=kp.length
 bits:AllB 230 (fP id us)
 more:AllB 230 (mor us 1)
theorem Made.len {kp:List Int} {c:Int} {us:List (List Int×Nat)} (h:Made kp c us):kp.length<=9/\(mor us 1).length<=9/\1<=(mor us 1).length/\AllB 241 kp:=by
 have ne:∀ p∈us,p.1≠[]:=fun p hp=>(h.use.pri p hp).pln.ne
 have h1:=(qg id us ne).1
 have h2:=(qg (·-1) us ne).1
 have h3:dgs (·-1) us<=dgs id us:=zT us fun p _=>Nat.sub_le _ _
 have h4:=h.deg
 refine ⟨by rw [h.is,eO,ck];omega,by unfold mor;omega,by unfold mor;omega,?_⟩
 rw [h.is,eO]
 intro x hx
 obtain ⟨y,hy,rfl⟩:=List.mem_map.mp hx
 exact (h.bc.mul (h.bits y hy)).mono
theorem Made.slope {kp:List Int} {c:Int} {us:List (List Int×Nat)} (h:Made kp c us):AllB 234 (aB (slopeL kp)):=by
 have pl:=iX h.use id
 have hl:=h.len.1
 have e:slopeL kp=scL c (slopeL (fP id us)):=by
  rw [h.is]
  refine dP ?_ fun k _=>?_
  ·rw [ck,fW,fW,eO,ck]
  ·rw [bJ,ei,ei,eO,bJ];grind
 rw [e,mU h.c0 (gU pl.tr)]
 exact pe (xj h.bits (by rw [h.is,eO,ck] at hl;exact hl))
def qO:Sp:=fun vs H Q _=>∃ (a:Addr) (kp:List Int) (c:Int) (us:List (List Int×Nat)),vs=[.ref a]/\H a=some (.lst (kp.map V.int))/\Made kp c us/\mkL H Q (flt us)
theorem DX {f:Addr} {fd:FuncData} (F:Fun K "without_squares" "without_squares" jH f fd) (T:Txt K mg) {IX:Addr} {Ib:FuncData} (LL:Cal P w K mg base 35 "part" ["row","divisor"] rg IX Ib) {Ji:Addr} {Ir:FuncData} (LZ:Cal P w K mg base 35 "common" ["first","second"] rL Ji Ir) {uB:Addr} {ud:FuncData} (vM:Cal P w K mg base 1 "slope" ["row"] (sp1 slopeL) uB ud):FnOk P w K mg base CX0 36 f fd ["row"] qO:=by
 obtain ⟨KZ,FT,GS,Kb⟩:=LL
 obtain ⟨Ll,Gh,G6,Kp⟩:=LZ
 obtain ⟨vC,tf,tJ,vh⟩:=vM
 refine F.ok Ch (fun vs H Q E h=>?_) (fun cdv A outer s H vs Q E hr h=>?_)
 ·obtain ⟨a,kp,c,us,rfl,_⟩:=h
  rfl
 ·obtain ⟨a,kp,c,us,rfl,hA,hM,k⟩:=h
  have hu:=hr.units
  have eW:=hM.is
  obtain ⟨tW,nW,pW⟩:=mq hM.use hM.c0
  obtain ⟨lW,lM,lM1,bW⟩:=hM.len
  have hsl:=hM.slope
  have l2':=hM.one
  have eC:=v6 hM.use hM.c0 (by rw [<- eW];omega)
  obtain ⟨r1,r2⟩:=A4 hM.use hM.c0
  rw [<- eW] at tW nW pW eC r1 r2
  have lS:=fW kp
  refine ⟨_,(ah (aV (aM (ln (K:=K) rfl hu) (pv 0) (bz ac) (aH _))
   (ao (aC (bz ac)))
   aW)
   (ao (aC (aq KZ (hr.mono) rfl FT GS Kb .nil ai (aa (pv 0) (aa (aq Ll (hr.mono) rfl Gh G6 Kp .nil ai (aa (pv 0) (aa (aq vC (hr.mono) rfl tf tJ vh .nil ai (aa (pv 0) ac)) ac))) ac)))))),?_⟩
  refine bK ⟨_,rfl,Nat.zero_le _,fun p0 hp0=>?_⟩
  have s0:Same H (upd H p0 (.lst [])):=Same.upd_new hp0
  refine ⟨a,p0,kp,[],rfl,rfl,SqL.of (s0 _ _ hA),SqL.of av,_,rfl,aQ (fun h0=>absurd h0 nW) (fun _=>?_)⟩
  generalize upd H p0 (.lst [])=H0 at s0 ⊢
  have hA0:=s0 _ _ hA
  refine bh ⟨_,rfl,_,rfl,_,rfl,a,kp,rfl,hA0,by omega,bW.mono,fun p1 H1 s1 hp1 e1=>?_⟩
  have t1:=s0.trans s1
  obtain ⟨s,hs⟩:∃ s,kp.length=s+1:=⟨kp.length-1,by omega⟩
  refine ⟨a,p1,kp,slopeL kp,20,rfl,t1 _ _ hA,e1,tW,gU tW,by omega,by omega,xD 20 (aB kp) (aB (slopeL kp)) 230 234 s (by rw [RM.plain_len];exact hs) (by omega) (by rw [RM.plain_len];omega) (by omega) (gv tW) (gv (gU tW)) (by rw [pW];exact hM.bits) hsl ?_ ?_,fun p2 H2 s2 hp2 e2=>?_⟩
  ·exact Nat.le_trans (show 231<=gr 240 0 by decide) (fu 240 (Nat.zero_le _))
  ·exact Nat.le_trans (show 235<=gr 240 1 by decide) (fu 240 (by omega))
  have e2':H2 p2=some (.lst ((mor us 1).map V.int)):=by rw [<- eC];exact e2
  have t2:=t1.trans s2
  refine ⟨a,p2,kp,_,241,rfl,t2 _ _ hA,e2',tW,(iX hM.use _).tr,bW,hM.more.mono,by have:(kp.length+2)*(241+1)<=11*242:=Nat.mul_le_mul_right _ (by omega);omega,by omega,(iX hM.use _).ne,r1,fun p3 H3 s3 hp3 e3=>?_⟩
  rw [r2] at e3
  exact k p3 H3 (t2.trans s3) (t2.free hp3) e3
structure Whl (fs:List (List Int)):Prop where
 fam:Fam fs
 l2:2<=(prQ fs).length
 l7:(prQ fs).length<=7
 bits:AllB 250 (prQ fs)
def cT (fs:List (List Int)):List (List Int):=bF 9 (ar (prQ fs)) (ar (slopeL (prQ fs)))
theorem o3 {fs:List (List Int)} (hF:Fam fs) (hl:(prQ fs).length<=7) {t n t' n':Int} (hn:0<n) (hn':0<n') (hlt:t*n'<t'*n):((chS (sgs t n (cT fs))).1:Int)-(chS (sgs t' n' (cT fs))).1=bC (aL fs) t n t' n':=by
 have:=JL (N:=8) (c:=1) hF.fac hF.nd (by decide) (P:=prQ fs) hF.one.symm (by omega) (by omega) hn hn' hlt
 rw [An,An];exact this
theorem sd {fs:List (List Int)} (hF:Fam fs) (hl:(prQ fs).length<=7) (hb:AllB 250 (prQ fs)):Run 9 (ar (prQ fs)) (ar (slopeL (prQ fs)))/\(∀ xs∈cT fs,xs.length<=20/\AllB 95000 xs)/\(cT fs).length<=1000000:=by
 obtain ⟨r1,_,r3⟩:=CS hF.pln.tr (hb.mono) hl
 refine ⟨r1,fun xs hx=>?_,?_⟩
 ·obtain ⟨_,b,l⟩:=r3 xs hx
  exact ⟨by omega,b.mono⟩
 ·have:=xG 9 (ar (prQ fs)) (ar (slopeL (prQ fs)))
  show (bF 9 _ _).length<=_
  omega
def rp (C:Addr):Sp:=fun vs H Q _=>∃ (a l h:Addr) (fs:List (List Int)) (l1 l2 h1 h2:Int),vs=[.ref a,.ref l,.ref h]/\H a=some (.lst ((prQ fs).map V.int))/\Whl fs/\RA C H l l1 l2/\RA C H h h1 h2/\EndsG 250 l1 l2 h1 h2/\∀ H',Same H H'->Q (.int (bC (aL fs) l1 l2 h1 h2)) H'
theorem Er {C f:Addr} {fd:FuncData} (F:Fun K "many_within" "many_within" j9 f fd) (T:Txt K mg) (R:RCI K mg C) {nK:Addr} {nG:FuncData} (ot:MCal P w K mg base 2 C "against" ["self","other"] (mE C) nK nG) {uG:Addr} {ui:FuncData} (vR:Cal P w K mg base 4 "count" ["row","low","high"] (oS C) uG ui) {nI:Addr} {nE:FuncData} (oo:Cal P w K mg base 35 "row_of" ["polynomial"] mC nI nE):FnOk P w K mg base CX0 36 f fd ["simple","low","high"] (rp C):=by
 obtain ⟨mn,lE,lZ⟩:=ot
 obtain ⟨vF,tu,tM,vk⟩:=vR
 obtain ⟨oi,m8,nk,nZ⟩:=oo
 refine F.ok Cq (fun vs H Q E h=>?_) (fun cdv A outer s H vs Q E hr h=>?_)
 ·obtain ⟨a,l,h,fs,l1,l2,h1,h2,rfl,_⟩:=h
  rfl
 ·obtain ⟨a,l,h,fs,l1,l2,h1,h2,rfl,hA,hW,hl,hh,en,k⟩:=h
  refine ⟨_,(ah (aV (aM pB (dq (pv 1) R.cl lE mn (hr.mono) lZ .nil ai (aa (pv 2) ac)) af (aH _))
   (ao (aC af))
   aW)
   (ao (aC (aq vF (hr.mono) rfl tu tM vk .nil ai (aa (aq oi (hr.mono) rfl m8 nk nZ .nil ai (aa (pv 0) ac)) (aa (pv 1) (aa (pv 2) ac))))))),?_⟩
  have l7:=hW.l7
  obtain ⟨rn,rx,rl⟩:=sd hW.fam l7 hW.bits
  obtain ⟨dxl,hl'⟩:=id hl
  refine bK ⟨_,rfl,l,dxl,_,rfl,hl',dG _ _ gH.1 gH.2,_,rfl,l,h,l1,l2,h1,h2,rfl,hl,hh,en.bl1.mono,en.bl2.mono,en.bh1.mono,en.bh2.mono,_,_,rfl,rfl,_,rfl,aQ (fun hge=>?_) (fun _=>?_)⟩
  ·have:sg (l1*h2-h1*l2) = -1:=Ca (by have:=en.lt;omega)
   rw [this] at hge
   exact absurd hge (by decide)
  refine bh ⟨_,rfl,a,prQ fs,9,rfl,hA,hW.fam.pln.tr,hW.bits.mono,by omega,by decide,rn,fun lr ps H1 s1 hl1 hnew el hR=>?_⟩
  refine ⟨_,rfl,_,rfl,lr,l,h,ps,cT fs,l1,l2,h1,h2,rfl,el,hR,hl.same s1,hh.same s1,en.bl1.mono,en.bl2.mono,en.bh1.mono,en.bh2.mono,rx,rl,fun H2 s2=>?_⟩
  have:=k H2 (s1.trans s2)
  rw [<- o3 hW.fam l7 en.l2p en.h2p en.lt] at this
  exact this
theorem kX {Q:Hp->Prop} {H1 H2:Hp} (e:H1=H2) (h:Q H2):Q H1:=by rw [e];exact h
def rA (C:Addr):Sp:=fun vs H Q _=>∃ (p q:Addr) (t b u d:Int),vs=[.ref p,.ref q]/\RA C H p t b/\RA C H q u d/\Bits 900 t/\Bits 900 b/\Bits 900 u/\Bits 900 d/\0<b/\0<d/\mkR C H Q (t*d+u*b) (2*b*d)
theorem Ep {C f:Addr} {fd:FuncData} (F:Fun K "middle" "middle" j8 f fd) (T:Txt K mg) (R:RCI K mg C) {f_Ratio:Addr} {fd_Ratio:FuncData} {ds_Ratio:List Value} (cE:KCal P w K mg base 2 C "Ratio" ["self","top","bottom"] (dm C) f_Ratio fd_Ratio ds_Ratio [.int 1]):FnOk P w K mg base CX0 4 f fd ["low","high"] (rA C):=by
 obtain ⟨bZ,bX,bV,cu,di,de⟩:=cE
 refine F.ok Cp (fun vs H Q E h=>?_) (fun cdv A outer s H vs Q E hr h=>?_)
 ·obtain ⟨p,q,t,b,u,d,rfl,_⟩:=h
  rfl
 ·obtain ⟨p,q,t,b,u,d,rfl,⟨dx,hp⟩,⟨dy,hq⟩,bt,bb,bu,bd,hb,hd,k⟩:=h
  have b2:Bits 2 (2:Int):=by show (2:Int).natAbs<2^2;decide
  have b2b:Bits 902 (2*b):=b2.mul bb |>.mono
  refine ⟨_,(ao (aC (cN bX bZ (hr.mono) rfl bV cu .nil ai (aa (aj bI (aj aN (aO (K:=K) rfl (pv 0) rfl) (aO (K:=K) rfl (pv 1) rfl)) (aj aN (aO (K:=K) rfl (pv 1) rfl) (aO (K:=K) rfl (pv 0) rfl))) (aa (aj aN (aj aN af (aO (K:=K) rfl (pv 0) rfl)) (aO (K:=K) rfl (pv 1) rfl)) ac))))),?_⟩
  refine ⟨_,rfl,p,C,dx,_,_,rfl,hp,R.cl,R.nT,cM _ _,_,rfl,q,C,dy,_,_,rfl,hq,R.cl,R.nB,bQ _ _,_,_,rfl,rfl,⟨bt.mono,bd.mono⟩,?_⟩
  refine ⟨_,rfl,q,C,dy,_,_,rfl,hq,R.cl,R.nT,cM _ _,_,rfl,p,C,dx,_,_,rfl,hp,R.cl,R.nB,bQ _ _,_,_,rfl,rfl,⟨bu.mono,bb.mono⟩,_,_,rfl,rfl,?_⟩
  refine ⟨_,rfl,p,C,dx,_,_,rfl,hp,R.cl,R.nB,bQ _ _,_,_,rfl,rfl,⟨b2.mono,bb.mono⟩,_,rfl,q,C,dy,_,_,rfl,hq,R.cl,R.nB,bQ _ _,_,_,rfl,rfl,⟨b2b.mono,bd.mono⟩,?_⟩
  exact dc (Int.ne_of_gt (Int.mul_pos (by omega) hd)) ((b2b.mul bd).mono) k
theorem zg {os:List Int} {l j k:Nat} (h1:isB os l j) (h2:isB os l k):j=k:=by
 rcases Nat.lt_trichotomy j k with z | z | z
 ·obtain ⟨x,hx,h⟩:=h2.2 j z
  have:=h1.1 x hx
  omega
 ·exact z
 ·obtain ⟨x,hx,h⟩:=h1.2 k z
  have:=h2.1 x hx
  omega
theorem Aw {ns:List Int} (h:AllB 250 ns) (hp:0<al ns) {kb:Nat} (hB:isB (ns.take (ns.length-1)) (al ns).natAbs kb):kb<=252:=by
 rcases Nat.lt_or_ge kb 253 with z | z
 ·omega
 ·obtain ⟨x,hx,h2⟩:=hB.2 252 (by omega)
  have h3:x.natAbs<2^250:=h x (List.mem_of_mem_take hx)
  have h4:2^250<=2^252-1:=by decide +kernel
  have h5:2^252-1<=(2^252-1)*(al ns).natAbs:=Nat.le_mul_of_pos_right _ (by omega)
  omega
def NL (H H':Hp):Prop:=∀ c o,H c=some o->(∀ xs,o≠.lst xs)->H' c=some o
theorem NL.of {H H':Hp} (s:Same H H'):NL H H':=fun c o e _=>s c o e
theorem NL.upd {H:Hp} {p:Addr} {xs:List V} {o:HO} (hp:H p=some (.lst xs)):NL H (upd H p o):=fun c o' e hn=>by
 have:c≠p:=fun z=>by rw [z,hp] at e;exact hn xs (Option.some.inj e).symm
 rw [upd_ne this];exact e
theorem NL.trans {H1 H2 H3:Hp} (a:NL H1 H2) (b:NL H2 H3):NL H1 H3:=fun c o e hn=>b c o (a c o e hn) hn
theorem RA.nl {C:Addr} {H H':Hp} {p:Addr} {t b:Int} (h:RA C H p t b) (s:NL H H'):RA C H' p t b:=let ⟨dx,e⟩:=h;⟨dx,s _ _ e (fun _=>by simp)⟩
structure Cel where
 q:Addr
 lo:Addr
 hi:Addr
 l1:Int
 l2:Int
 h1:Int
 h2:Int
 d:Nat
def VV (fs:List (List Int)) (t n:Int):Int:=(chS (sgs t n (cT fs))).1
def Cel.cn (x:Cel) (fs:List (List Int)):Int:=bC (aL fs) x.l1 x.l2 x.h1 x.h2
def Cel.inn (x:Cel) (s:List Int):Prop:=0<au s x.l1 x.l2/\au s x.h1 x.h2<=0
structure WtH (C:Addr) (H:Hp) (fs:List (List Int)) (kb:Nat) (x:Cel):Prop where
 tup:H x.q=some (.tup [.ref x.lo,.ref x.hi,.int (VV fs x.l1 x.l2),.int (VV fs x.h1 x.h2)])
 lo:RA C H x.lo x.l1 x.l2
 hi:RA C H x.hi x.h1 x.h2
 dy:Dya (2^kb) x.d x.l1 x.l2 x.h1 x.h2
 dd:x.d<=kb+201
theorem WtH.nl {C:Addr} {H H':Hp} {fs:List (List Int)} {kb:Nat} {x:Cel} (h:WtH C H fs kb x) (s:NL H H'):WtH C H' fs kb x:=⟨s _ _ h.tup (fun _=>by simp),h.lo.nl s,h.hi.nl s,h.dy,h.dd⟩
structure FdH (C:Addr) (H:Hp) (fs:List (List Int)) (kb:Nat) (x:Cel):Prop where
 tup:H x.q=some (.tup [.ref x.lo,.ref x.hi])
 lo:RA C H x.lo x.l1 x.l2
 hi:RA C H x.hi x.h1 x.h2
 dy:Dya (2^kb) x.d x.l1 x.l2 x.h1 x.h2
 dd:x.d<=kb+201
 one:x.cn fs=1
theorem FdH.nl {C:Addr} {H H':Hp} {fs:List (List Int)} {kb:Nat} {x:Cel} (h:FdH C H fs kb x) (s:NL H H'):FdH C H' fs kb x:=⟨s _ _ h.tup (fun _=>by simp),h.lo.nl s,h.hi.nl s,h.dy,h.dd,h.one⟩
theorem qh {kb d:Nat} {l1 l2 h1 h2:Int} (h:Dya (2^kb) d l1 l2 h1 h2) (hk:kb<=252) (hd:d<=kb+201):Bits 710 l1/\Bits 710 l2/\Bits 710 h1/\Bits 710 h2:=by
 obtain ⟨⟨a,b⟩,c,e⟩:=h.bits
 have hp:2^(kb+d)<2^710:=(Nat.pow_lt_pow_iff_right (by decide)).mpr (by omega)
 exact ⟨Nat.lt_of_le_of_lt a hp,Nat.lt_of_le_of_lt b hp,Nat.lt_of_le_of_lt c hp,Nat.lt_of_le_of_lt e hp⟩
theorem JA {kb d:Nat} {l1 l2 h1 h2:Int} (h:Dya (2^kb) d l1 l2 h1 h2) (hk:kb<=252) (hd:d<=kb+201):EndsG 710 l1 l2 h1 h2:=by
 obtain ⟨a,b,c,e⟩:=qh h hk hd
 exact ⟨h.l2p,h.h2p,a,b,c,e,h.lt (Int.pow_pos (by decide)),h.gl,h.gh⟩
def wgt (fs:List (List Int)) (kb:Nat) (x:Cel):Nat:=1+2*((x.cn fs).toNat*(kb+201-x.d))
def dU (fs:List (List Int)) (kb:Nat) (ws:List Cel):Nat:=(ws.map (wgt fs kb)).sum
theorem jw (fs:List (List Int)) (kb:Nat) (ws:List Cel) (x:Cel):dU fs kb (ws++[x])=dU fs kb ws+wgt fs kb x:=by
 unfold dU;rw [List.map_append,List.sum_append];simp
theorem qE (fs:List (List Int)) (kb:Nat):∀ ws:List Cel,ws.length<=dU fs kb ws
 | []=>Nat.le_refl _
 | x::ws=>by
   have:=qE fs kb ws
   show ws.length+1<=wgt fs kb x+dU fs kb ws
   unfold wgt;omega
def qs (ws:List Cel):List V:=ws.map fun x=>V.ref x.q
theorem o5 (ws:List Cel) (x:Cel):qs (ws++[x])=qs ws++[V.ref x.q]:=by unfold qs;rw [List.map_append];rfl
theorem Af (l1 l2 h1 h2:Int):∀ ls:List (List Int),bC ls l1 l2 h1 h2<=ls.length
 | []=>Int.le_refl _
 | l::ls=>by
   rw [cY]
   have:=Af l1 l2 h1 h2 ls
   rw [List.length_cons]
   split<;>omega
theorem wR:∀ fs:List (List Int),(aL fs).length<=2*fs.length
 | []=>Nat.le_refl _
 | f::fs=>by
   have:=wR fs
   show (spF f++aL fs).length<=2*(fs.length+1)
   rw [List.length_append]
   have h2:(spF f).length<=2:=by
    unfold spF
    rw [List.length_append]
    split<;>split<;>simp
   omega
theorem IK {fs:List (List Int)} (h:Fam fs):fs.length+1<=(prQ fs).length:=by
 have hp:=h.pri
 rw [h.prd]
 generalize hs:fs.map ag=ss at hp
 have e:fs.length=ss.length:=by rw [<- hs,List.length_map]
 rw [e]
 clear e hs h
 induction ss with
 | nil=>simp [prd]
 | cons s ss ih =>
   have h1:=ih fun x hx=>hp x (List.mem_cons_of_mem _ hx)
   have h2:=hp s (List.mem_cons_self ..)
   have h3:Pln (prd ss):=ii ss fun x hx=>(hp x (List.mem_cons_of_mem _ hx)).pln
   have h4:=bM h2.pln.ne h3.ne
   have h5:=h2.two
   show ss.length+1+1<=(ad s (prd ss)).length
   omega
def cov (s:List Int) (xs:List Cel):Prop:=∃ x∈xs,x.inn s
theorem cov_snoc {s:List Int} {xs:List Cel} {x:Cel}:cov s (xs++[x])↔cov s xs\/x.inn s:=by
 constructor
 ·rintro ⟨y,hy,h⟩
  rcases List.mem_append.mp hy with z | z
  ·exact .inl ⟨y,z,h⟩
  ·rw [List.mem_singleton.mp z] at h;exact .inr h
 ·rintro (⟨y,hy,h⟩ | h)
  ·exact ⟨y,List.mem_append_left _ hy,h⟩
  ·exact ⟨x,by simp,h⟩
def rM (C:Addr):Sp:=fun vs H Q _=>∃ (a:Addr) (fs:List (List Int)),vs=[.ref a]/\H a=some (.lst ((prQ fs).map V.int))/\Whl fs /\
 ∀ (kb:Nat) (p:Addr) (ys:List Cel) (H':Hp),kb<=252->isB ((prQ fs).take ((prQ fs).length-1)) (al (prQ fs)).natAbs kb->Same H H'->H p=none->H' p=some (.lst (qs ys))->(∀ y∈ys,FdH C H' fs kb y)->(∀ s∈aL fs,cov s ys)->ys.length<=12000->Q (.ref p) H'
theorem EH {C f:Addr} {fd:FuncData} (F:Fun K "cells" "cells" kt f fd) (T:Txt K mg) (R:RCI K mg C) {ge:Addr} {gd:FuncData} (gt:Cal P w K mg base 1 "degree" ["row"] gY ge gd) {nI:Addr} {nE:FuncData} (oo:Cal P w K mg base 35 "row_of" ["polynomial"] mC nI nE) {f_Ratio:Addr} {fd_Ratio:FuncData} {ds_Ratio:List Value} (cE:KCal P w K mg base 2 C "Ratio" ["self","top","bottom"] (dm C) f_Ratio fd_Ratio ds_Ratio [.int 1]) {nJ:Addr} {nF:FuncData} (oq:Cal P w K mg base 1 "bound" ["row"] (mD K) nJ nF) {uI:Addr} {uk:FuncData} (vU:Cal P w K mg base 3 "changes" ["row","ratio"] (oT C) uI uk) {I9:Addr} {Ig:FuncData} (LQ:Cal P w K mg base 4 "middle" ["low","high"] (rA C) I9 Ig):FnOk P w K mg base CX0 36 f fd ["row"] (rM C):=by
 obtain ⟨dS,dJ,dO,dR⟩:=gt
 obtain ⟨oi,m8,nk,nZ⟩:=oo
 obtain ⟨bZ,bX,bV,cu,di,de⟩:=cE
 obtain ⟨jn,iw,iD,jg⟩:=oq
 obtain ⟨ml,lH,lI,lY⟩:=vU
 obtain ⟨Lc,FY,GX,Kg⟩:=LQ
 refine F.ok sc_cells (fun vs H Q E h=>?_) (fun cdv A outer s H vs Q E hr h=>?_)
 ·obtain ⟨a,fs,rfl,_⟩:=h
  rfl
 ·obtain ⟨a,fs,rfl,hA,hW,k⟩:=h
  have big:=sizeLine_eq
  have hP:=hW.fam.pln
  have l7:=hW.l7
  have l2':=hW.l2
  have hml:((prQ fs).map V.int).length=(prQ fs).length:=List.length_map _
  obtain ⟨rn,rx,rl⟩:=sd hW.fam l7 hW.bits
  refine ⟨_,(ah (aV (aM du (aq dS (hr.mono) rfl dJ dO dR .nil ai (aa (pv 0) ac)) af (aH _))
   (ao (aC (bz ac)))
   aW)
   (ah (ap (i:=1) sc_cells.nd rfl (Or.inl rfl) (aq oi (hr.mono) rfl m8 nk nZ .nil ai (aa (pv 0) ac)))
   (ah (ap (i:=2) sc_cells.nd rfl (Or.inl rfl) (cN bX bZ (hr.mono) rfl bV di de ai (aa (aq jn (hr.mono) rfl iw iD jg .nil ai (aa (pv 0) ac)) ac)))
   (ah (ap (i:=3) sc_cells.nd rfl (Or.inl rfl) (cN bX bZ (hr.mono) rfl bV di de ai (aa (bU bT (aq jn (hr.mono) rfl iw iD jg .nil ai (aa (pv 0) ac))) ac)))
   (ah (ap (i:=4) sc_cells.nd rfl (Or.inl rfl) (bz (aa (cU (aa (pv 3) (aa (pv 2) (aa (aq ml (hr.mono) rfl lH lI lY .nil ai (aa (pv 1) (aa (pv 3) ac))) (aa (aq ml (hr.mono) rfl lH lI lY .nil ai (aa (pv 1) (aa (pv 2) ac))) ac))))) ac)))
   (ah (ap (i:=5) sc_cells.nd rfl (Or.inl rfl) (bz ac))
   (ah (fN PassesOwn.never (aM cW (bH (df (K:=K) rfl) (by rfl) T.len_ PySem.boot_len (aa (pv 4) ac)) af (aH _))
     (ah (ap (i:=6) sc_cells.nd rfl (Or.inl rfl) (x8 PySem.F.plainAttrs_list PySem.F.slot_list_pop PySem.F.type_list_pop Ft (pv 4)))
       (ah (ap (i:=7) sc_cells.nd rfl (Or.inl rfl) (aj cs (aI (aX (K:=K) rfl) (pv 6) af (fun _ _=>rfl)) (aI (aX (K:=K) rfl) (pv 6) af (fun _ _=>rfl))))
       (ah (aV (aM cX (pv 7) af (aH _))
         (ao (fO (lj PySem.F.plainAttrs_list PySem.F.slot_list_append PySem.F.type_list_append lC (pv 5) (aa (cU (aa (aI (aX (K:=K) rfl) (pv 6) af (fun _ _=>rfl)) (aa (aI (aX (K:=K) rfl) (pv 6) af (fun _ _=>rfl)) ac))) ac))))
         aW)
       (ao (aV (aM cW (pv 7) af (aH _))
         (ah (ap (i:=8) sc_cells.nd rfl (Or.inl rfl) (aq Lc (hr.mono) rfl FY GX Kg .nil ai (aa (aI (aX (K:=K) rfl) (pv 6) af (fun _ _=>rfl)) (aa (aI (aX (K:=K) rfl) (pv 6) af (fun _ _=>rfl)) ac))))
           (ah (ap (i:=9) sc_cells.nd rfl (Or.inl rfl) (aq ml (hr.mono) rfl lH lI lY .nil ai (aa (pv 1) (aa (pv 8) ac))))
           (ah (fO (lj PySem.F.plainAttrs_list PySem.F.slot_list_append PySem.F.type_list_append lC (pv 4) (aa (cU (aa (pv 8) (aa (aI (aX (K:=K) rfl) (pv 6) af (fun _ _=>rfl)) (aa (pv 9) (aa (aI (aX (K:=K) rfl) (pv 6) af (fun _ _=>rfl)) ac))))) ac)))
           (ao (fO (lj PySem.F.plainAttrs_list PySem.F.slot_list_append PySem.F.type_list_append lC (pv 4) (aa (cU (aa (aI (aX (K:=K) rfl) (pv 6) af (fun _ _=>rfl)) (aa (pv 8) (aa (aI (aX (K:=K) rfl) (pv 6) af (fun _ _=>rfl)) (aa (pv 9) ac))))) ac)))))))
         aW))))))
   (ao (aC (pv 5)))))))))),?_⟩
  refine bK ⟨_,rfl,a,_,rfl,hA,_,_,rfl,rfl,_,rfl,aQ (fun h0=>absurd (show (((prQ fs).map V.int).length:Int)-1<1 from h0) (by rw [hml];omega)) (fun _=>?_)⟩
  refine aD ⟨_,rfl,a,prQ fs,9,rfl,hA,hP.tr,hW.bits.mono,by omega,by decide,rn,fun pc ps H1 s1 hpc hnew ec hR=>?_⟩
  have hR':RwH H1 ps (cT fs):=hR
  refine aD ⟨_,rfl,a,prQ fs,rfl,SqL.of (s1 _ _ hA),hP.tr,hP.ne,by omega,hW.bits.mono,fun kb H2 hkb hB s2=>dc (t:=((2^kb:Nat):Int)) (b:=1) (by decide) (b1k (by decide)) fun ph H3 s3 hph hRh=>?_⟩
  rw [r9,sn] at hRh
  have t3:=(s1.trans s2).trans s3
  refine aD ⟨_,rfl,a,prQ fs,rfl,SqL.of (t3 _ _ hA),hP.tr,hP.ne,by omega,hW.bits.mono,fun kb' H4 hkb' hB' s4=>?_⟩
  obtain rfl:=zg hB hB'
  refine ⟨_,rfl,dc (t := -((2^kb:Nat):Int)) (b:=1) (by decide) (b1k (by decide)) fun pl H5 s5 hpl hRl=>?_⟩
  rw [r9,sn] at hRl
  have hk:=Aw hW.bits hP.pos hB
  have eB:((2^kb:Nat):Int)=(2:Int)^kb:=by rw [Int.natCast_pow];rfl
  rw [eB] at hRh hRl
  have B0:(0:Int)<2^kb:=Int.pow_pos (by decide)
  have t5:=(t3.trans s4).trans s5
  have u5:=(s2.trans s3).trans (s4.trans s5)
  have ec5:=u5 _ _ ec
  have hR5:=hR'.same u5
  have hRh5:=hRh.same (s4.trans s5)
  have dy0:Dya (2^kb) 0 (-(2^kb)) 1 (2^kb) 1:=Dya.start
  obtain ⟨b1,b2,b3,b4⟩:=qh dy0 hk (by omega)
  refine aD ⟨_,rfl,_,rfl,_,rfl,_,rfl,pc,pl,ps,cT fs,_,_,rfl,ec5,hR5,hRl,b1.mono,b2.mono,rx,rl,fun H6 s6=>?_⟩
  refine ⟨_,rfl,_,rfl,pc,ph,ps,cT fs,_,_,rfl,s6 _ _ ec5,hR5.same s6,hRh5.same s6,b3.mono,b4.mono,rx,rl,fun H7 s7=>⟨by show 4<=sizeLine;omega,fun q0 hq0=>⟨by show 1<=sizeLine;omega,fun pw hpw=>?_⟩⟩⟩
  have u7:=s6.trans s7
  have ec7:=u7 _ _ ec5
  have hR7:=hR5.same u7
  have hRl7:=hRl.same u7
  have hRh7:=hRh5.same u7
  have t7:=t5.trans u7
  have w7:Same H7 (upd H7 q0 (.tup [.ref pl,.ref ph,.int (VV fs (-(2^kb)) 1),.int (VV fs (2^kb) 1)])):=Same.upd_new hq0
  have e8:upd H7 q0 (.tup [.ref pl,.ref ph,.int (VV fs (-(2^kb)) 1),.int (VV fs (2^kb) 1)]) q0=some (.tup [.ref pl,.ref ph,.int (VV fs (-(2^kb)) 1),.int (VV fs (2^kb) 1)]):=av
  have hpw':upd H7 q0 (.tup [.ref pl,.ref ph,.int (VV fs (-(2^kb)) 1),.int (VV fs (2^kb) 1)]) pw=none:=hpw
  refine aD ⟨Nat.zero_le _,fun pf hpf=>?_⟩
  have hpf':upd (upd H7 q0 (.tup [.ref pl,.ref ph,.int (VV fs (-(2^kb)) 1),.int (VV fs (2^kb) 1)])) pw (.lst [V.ref q0]) pf=none:=hpf
  show dk _ _ _ _ _
  refine gA (fun σ' H'=>σ'=[some (.ref a),some (.ref pc),some (.ref ph),some (.ref pl),some (.ref pw),some (.ref pf),none,none,none,none]/\upd (upd (upd H7 q0 (.tup [.ref pl,.ref ph,.int (VV fs (-(2^kb)) 1),.int (VV fs (2^kb) 1)])) pw (.lst [V.ref q0])) pf (.lst [])=H') ⟨rfl,rfl⟩ ?_
  rintro σ' H10 ⟨rfl,eH10⟩
  generalize upd H7 q0 (.tup [.ref pl,.ref ph,.int (VV fs (-(2^kb)) 1),.int (VV fs (2^kb) 1)])=H8 at w7 e8 hpw' hpf' eH10
  have sw:Same H8 (upd H8 pw (.lst [V.ref q0])):=Same.upd_new hpw'
  have sf:Same (upd H8 pw (.lst [V.ref q0])) H10:=by rw [<- eH10];exact Same.upd_new hpf'
  have s810:=sw.trans sf
  have fw:H8 pw=none:=hpw'
  have ff:H8 pf=none:=sw.free hpf'
  have nwf:pw≠pf:=aZ (av (H:=H8) (o:=.lst [V.ref q0])) hpf'
  have ew10:H10 pw=some (.lst [V.ref q0]):=sf _ _ av
  have ef10:H10 pf=some (.lst []):=by rw [<- eH10];exact av
  have x0w:WtH C H10 fs kb ⟨q0,pl,ph,-(2^kb),1,2^kb,1,0⟩:=⟨s810 _ _ e8,hRl7.same (w7.trans s810),hRh7.same (w7.trans s810),dy0,Nat.zero_le _⟩
  have cov0:∀ s∈aL fs,cov s [⟨q0,pl,ph,-(2^kb),1,2^kb,1,0⟩]:=fun s hs=>by
   obtain ⟨z1,z2⟩:=wU hW.fam.fac hW.fam.nd (B:=2^kb) (Nat.pow_pos (by decide)) hB.1 hs
   rw [eB] at z1 z2
   exact ⟨_,List.mem_singleton.mpr rfl,z2,Int.le_of_lt z1⟩
  clear eH10 sw sf
  have hsp:=wR fs
  have hfl:=IK hW.fam
  have hm0:dU fs kb [⟨q0,pl,ph,-(2^kb),1,2^kb,1,0⟩]<=11000:=by
   show wgt fs kb _+0<=11000
   unfold wgt
   have h1:=Af (-(2^kb)) 1 (2^kb) 1 (aL fs)
   have h2:(Cel.cn ⟨q0,pl,ph,-(2^kb),1,2^kb,1,0⟩ fs).toNat<=12:=by
    show (bC (aL fs) (-(2^kb)) 1 (2^kb) 1).toNat<=12
    omega
   have h3:=Nat.mul_le_mul h2 (show kb+201-0<=453 by omega)
   have h4:(kb+201-(Cel.mk q0 pl ph (-(2^kb)) 1 (2^kb) 1 0).d)=kb+201-0:=rfl
   rw [h4]
   omega
  refine ⟨fun m σ' H'=>∃ (ws ys:List Cel) (z6 z7 z8 z9:Option V),m=dU fs kb ws/\σ'=[some (.ref a),some (.ref pc),some (.ref ph),some (.ref pl),some (.ref pw),some (.ref pf),z6,z7,z8,z9]/\Same H8 H'/\H' pw=some (.lst (qs ws))/\H' pf=some (.lst (qs ys))/\(∀ x∈ws,WtH C H' fs kb x)/\(∀ y∈ys,FdH C H' fs kb y)/\(∀ s∈aL fs,cov s ws\/cov s ys)/\ys.length+m<=11000,
   ⟨_,[⟨q0,pl,ph,-(2^kb),1,2^kb,1,0⟩],[],none,none,none,none,rfl,rfl,s810,ew10,ef10,fun x hx=>by rw [List.mem_singleton.mp hx];exact x0w,(fun y hy=>nomatch hy),fun s hs=>.inl (cov0 s hs),by show 0+_<=_;omega⟩,?_⟩
  clear hm0 cov0 x0w ew10 ef10 s810
  rintro m σ' H' ⟨ws,ys,z6,z7,z8,z9,rfl,rfl,sm,ew,ef,hws,hys,hcov,hlen⟩
  have hwl:=qE fs kb ws
  have hql:(qs ws).length=ws.length:=List.length_map _
  refine ⟨_,rfl,pw,_,rfl,.inl (SqL.of ew),_,_,rfl,rfl,_,rfl,aQ (fun hgt=>?_) (fun hle=>?_)⟩
  rotate_left
  ·
   have h0:ws=[]:=List.length_eq_zero_iff.mp (by have:¬ ((qs ws).length:Int)>0:=hle;rw [hql] at this;omega)
   subst h0
   refine ⟨_,rfl,k kb pf ys H' hk hB (t7.trans (w7.trans sm)) ((t7.trans w7).free ff) ef hys (fun s hs=>?_) (by omega)⟩
   rcases hcov s hs with ⟨x,hx,_⟩ | z
   ·cases hx
   ·exact z
  ·have hne:ws≠[]:=fun z=>by rw [z] at hql;have:((qs ws).length:Int)>0:=hgt;rw [z] at this;exact absurd this (by decide)
   obtain ⟨ws',x,rfl⟩:∃ ws' x,ws=ws'++[x]:=⟨ws.dropLast,ws.getLast hne,(List.dropLast_concat_getLast hne).symm⟩
   rw [jw] at hlen
   rw [o5] at ew
   have hx:=hws x (by simp)
   have hw':∀ y∈ws',WtH C H' fs kb y:=fun y hy=>hws y (by simp [hy])
   clear hws hql hgt hne
   have hwl:=qE fs kb ws'
   refine ⟨fun σ'' H''=>∃ m',m'<dU fs kb (ws'++[x])/\∃ (ws ys:List Cel) (z6 z7 z8 z9:Option V),m'=dU fs kb ws/\σ''=[some (.ref a),some (.ref pc),some (.ref ph),some (.ref pl),some (.ref pw),some (.ref pf),z6,z7,z8,z9]/\Same H8 H''/\H'' pw=some (.lst (qs ws))/\H'' pf=some (.lst (qs ys))/\(∀ x∈ws,WtH C H'' fs kb x)/\(∀ y∈ys,FdH C H'' fs kb y)/\(∀ s∈aL fs,cov s ws\/cov s ys)/\ys.length+m'<=11000,fun _ _ h=>h,?_⟩
   rw [jw]
   refine aD ⟨_,rfl,.inl ⟨rfl,_,SqL.of ew⟩,pw,_,V.ref x.q,rfl,rfl,ew,by rw [List.length_append];simp,?_⟩
   rw [List.dropLast_concat]
   have ew1:upd H' pw (.lst (qs ws')) pw=some (.lst (qs ws')):=av
   have ef1:upd H' pw (.lst (qs ws')) pf=some (.lst (qs ys)):=by rw [upd_ne (Ne.symm nwf)];exact ef
   have n1:NL H' (upd H' pw (.lst (qs ws'))):=NL.upd ew
   have sm1:Same H8 (upd H' pw (.lst (qs ws'))):=fQ sm fw
   generalize upd H' pw (.lst (qs ws'))=K1 at ew1 ef1 n1 sm1 ⊢
   have hx1:=hx.nl n1
   have hw1:∀ y∈ws',WtH C K1 fs kb y:=fun y hy=>(hw' y hy).nl n1
   have hy1:∀ y∈ys,FdH C K1 fs kb y:=fun y hy=>(hys y hy).nl n1
   clear hw' hys ew ef sm n1 hx
   refine aD ⟨_,rfl,x.q,_,_,_,rfl,rfl,SqT.of hx1.tup,rfl,_,rfl,x.q,_,_,_,rfl,rfl,SqT.of hx1.tup,rfl,_,_,rfl,rfl,?_⟩
   have ecn:VV fs x.l1 x.l2-VV fs x.h1 x.h2=x.cn fs:=o3 hW.fam l7 hx1.dy.l2p hx1.dy.h2p (hx1.dy.lt B0)
   dsimp only
   rw [ecn]
   have cn0:0<=x.cn fs:=nO _ _ _ _ _
   refine fb (fun σ' H'=>∃ ys:List Cel,σ'=[some (.ref a),some (.ref pc),some (.ref ph),some (.ref pl),some (.ref pw),some (.ref pf),some (.ref x.q),some (.int (x.cn fs)),z8,z9]/\Same H8 H'/\H' pw=some (.lst (qs ws'))/\H' pf=some (.lst (qs ys))/\WtH C H' fs kb x/\(∀ y∈ws',WtH C H' fs kb y)/\(∀ y∈ys,FdH C H' fs kb y)/\(∀ s∈aL fs,cov s ws'\/(x.cn fs≠1/\x.inn s)\/cov s ys)/\ys.length+dU fs kb ws'+(if x.cn fs=1 then 0 else wgt fs kb x)<=11000) ?_ ?_
   case refine_2 =>
    intro rest
    refine ⟨_,rfl,_,_,rfl,rfl,_,rfl,aQ (fun h1=>?_) (fun h1=>?_)⟩
    ·have h1':x.cn fs=1:=h1
     refine xJ ⟨_,rfl,.inl ⟨rfl,_,SqL.of ef1⟩,_,rfl,x.q,_,_,_,rfl,rfl,SqT.of hx1.tup,rfl,_,rfl,x.q,_,_,_,rfl,rfl,SqT.of hx1.tup,rfl,by show 2<=sizeLine;omega,fun p hp=>?_⟩
     have s2:Same K1 (upd K1 p (.tup [V.ref x.lo,V.ref x.hi])):=Same.upd_new hp
     have e2:upd K1 p (.tup [V.ref x.lo,V.ref x.hi]) p=some (.tup [V.ref x.lo,V.ref x.hi]):=av
     generalize upd K1 p (.tup [V.ref x.lo,V.ref x.hi])=K2 at s2 e2 ⊢
     have ef2:=s2 _ _ ef1
     have hyl:(qs ys).length=ys.length:=List.length_map _
     refine ⟨pf,_,_,rfl,rfl,ef2,by rw [hyl];omega,?_⟩
     have n3:NL K1 (upd K2 pf (.lst (qs ys++[V.ref p]))):=(NL.of s2).trans (NL.upd ef2)
     have n4:NL K2 (upd K2 pf (.lst (qs ys++[V.ref p]))):=NL.upd ef2
     refine rest _ _ ⟨ys++[⟨p,x.lo,x.hi,x.l1,x.l2,x.h1,x.h2,x.d⟩],rfl,fQ (sm1.trans s2) ff,by rw [upd_ne nwf];exact s2 _ _ ew1,by rw [av,o5],hx1.nl n3,fun y hy=>(hw1 y hy).nl n3,fun y hy=>?_,fun s hs=>?_,?_⟩
     ·rcases List.mem_append.mp hy with z | z
      ·exact (hy1 y z).nl n3
      ·rw [List.mem_singleton.mp z]
       exact ⟨n4 _ _ e2 (fun _=>by simp),hx1.lo.nl n3,hx1.hi.nl n3,hx1.dy,hx1.dd,h1'⟩
     ·rcases hcov s hs with z | z
      ·rcases cov_snoc.mp z with z | z
       ·exact .inl z
       ·exact .inr (.inr (cov_snoc.mpr (.inr z)))
      ·exact .inr (.inr (cov_snoc.mpr (.inl z)))
     ·rw [if_pos h1',List.length_append]
      show ys.length+1+_+0<=_
      have:1<=wgt fs kb x:=by unfold wgt;omega
      omega
    ·have h1':¬ x.cn fs=1:=h1
     refine rest _ _ ⟨ys,rfl,sm1,ew1,ef1,hx1,hw1,hy1,fun s hs=>?_,by rw [if_neg h1'];omega⟩
     rcases hcov s hs with z | z
     ·rcases cov_snoc.mp z with z | z
      ·exact .inl z
      ·exact .inr (.inl ⟨h1',z⟩)
     ·exact .inr (.inr z)
   clear hcov hlen hy1 hw1 hx1 ef1 ew1 sm1 ys
   rintro σ' K3 ⟨ys,rfl,sm1,ew1,ef1,hx1,hw1,hy1,hcov,hlen⟩
   refine ⟨_,rfl,_,_,rfl,rfl,_,rfl,aQ (fun h2=>?_) (fun h2=>?_)⟩
   rotate_left
   ·
    have h2':¬ x.cn fs>1:=h2
    refine ⟨dU fs kb ws',by unfold wgt;omega,ws',ys,_,_,_,_,rfl,rfl,sm1,ew1,ef1,hw1,hy1,fun s hs=>?_,by split at hlen<;>omega⟩
    rcases hcov s hs with z | ⟨z1,z2⟩ | z
    ·exact .inl z
    ·have:1<=x.cn fs:=Ae hs z2
     omega
    ·exact .inr z
   have h2':x.cn fs>1:=h2
   rw [if_neg (show ¬ x.cn fs=1 by omega)] at hlen
   have hdl:x.d<kb+201:=Nat.not_le.mp fun z=>by
    have:x.cn fs<=1:=Dya.few hW.fam.fac hW.fam.nd hx1.dy z
    omega
   obtain ⟨c1,c2,c3,c4⟩:=qh hx1.dy hk hx1.dd
   refine aD ⟨_,rfl,x.q,_,_,_,rfl,rfl,SqT.of hx1.tup,rfl,_,rfl,x.q,_,_,_,rfl,rfl,SqT.of hx1.tup,rfl,x.lo,x.hi,_,_,_,_,rfl,hx1.lo,hx1.hi,c1.mono,c2.mono,c3.mono,c4.mono,hx1.dy.l2p,hx1.dy.h2p,fun pm K4 s4 hpm hRm=>?_⟩
   have n0:2*x.l2*x.h2≠0:=Int.ne_of_gt (Int.mul_pos (by have:=hx1.dy.l2p;omega) hx1.dy.h2p)
   obtain ⟨dl,dr⟩:=hx1.dy.half (dB n0) (mN n0) (fe n0)
   generalize rt (x.l1*x.h2+x.h1*x.l2) (2*x.l2*x.h2)=m1 at hRm dl dr
   generalize rb (x.l1*x.h2+x.h1*x.l2) (2*x.l2*x.h2)=m2 at hRm dl dr
   have hx4:=hx1.nl (NL.of s4)
   obtain ⟨g1,g2,g3,g4⟩:=qh dl hk (by omega)
   have sm4:=sm1.trans s4
   refine aD ⟨_,rfl,_,rfl,pc,pm,ps,cT fs,m1,m2,rfl,sm4 _ _ (w7 _ _ ec7),hR7.same (w7.trans sm4),hRm,g3.mono,g4.mono,rx,rl,fun K5 s5=>?_⟩
   have hx5:=hx4.nl (NL.of s5)
   have u5:=s4.trans s5
   refine hI ⟨_,rfl,.inl ⟨rfl,_,SqL.of (u5 _ _ ew1)⟩,_,rfl,_,rfl,x.q,_,_,_,rfl,rfl,SqT.of hx5.tup,rfl,_,rfl,_,rfl,x.q,_,_,_,rfl,rfl,SqT.of hx5.tup,rfl,by show 4<=sizeLine;omega,fun q1 hq1=>?_⟩
   have s6:Same K5 (upd K5 q1 (.tup [V.ref pm,V.ref x.hi,V.int (VV fs m1 m2),V.int (VV fs x.h1 x.h2)])):=Same.upd_new hq1
   have e6:upd K5 q1 (.tup [V.ref pm,V.ref x.hi,V.int (VV fs m1 m2),V.int (VV fs x.h1 x.h2)]) q1=some (.tup [V.ref pm,V.ref x.hi,V.int (VV fs m1 m2),V.int (VV fs x.h1 x.h2)]):=av
   refine kX (H2:=upd K5 q1 (.tup [V.ref pm,V.ref x.hi,V.int (VV fs m1 m2),V.int (VV fs x.h1 x.h2)])) rfl ?_
   generalize upd K5 q1 (.tup [V.ref pm,V.ref x.hi,V.int (VV fs m1 m2),V.int (VV fs x.h1 x.h2)])=K6 at s6 e6 ⊢
   have u6:=u5.trans s6
   have ew6:=u6 _ _ ew1
   have ef6:=u6 _ _ ef1
   have hql:(qs ws').length=ws'.length:=List.length_map _
   refine ⟨pw,_,_,rfl,rfl,ew6,by rw [hql];omega,?_⟩
   have ew7:upd K6 pw (.lst (qs ws'++[V.ref q1])) pw=some (.lst (qs ws'++[V.ref q1])):=av
   have ef7:upd K6 pw (.lst (qs ws'++[V.ref q1])) pf=some (.lst (qs ys)):=by rw [upd_ne (Ne.symm nwf)];exact ef6
   have n7:NL K6 (upd K6 pw (.lst (qs ws'++[V.ref q1]))):=NL.upd ew6
   have sm7:Same H8 (upd K6 pw (.lst (qs ws'++[V.ref q1]))):=fQ (sm1.trans u6) fw
   generalize upd K6 pw (.lst (qs ws'++[V.ref q1]))=K7 at ew7 ef7 n7 sm7 ⊢
   have m5:NL K5 K7:=(NL.of s6).trans n7
   have hx7:=hx5.nl m5
   refine xJ ⟨_,rfl,.inl ⟨rfl,_,SqL.of ew7⟩,_,rfl,x.q,_,_,_,rfl,rfl,SqT.of hx7.tup,rfl,_,rfl,_,rfl,x.q,_,_,_,rfl,rfl,SqT.of hx7.tup,rfl,_,rfl,by show 4<=sizeLine;omega,fun q2 hq2=>?_⟩
   have s8:Same K7 (upd K7 q2 (.tup [V.ref x.lo,V.ref pm,V.int (VV fs x.l1 x.l2),V.int (VV fs m1 m2)])):=Same.upd_new hq2
   have e8':upd K7 q2 (.tup [V.ref x.lo,V.ref pm,V.int (VV fs x.l1 x.l2),V.int (VV fs m1 m2)]) q2=some (.tup [V.ref x.lo,V.ref pm,V.int (VV fs x.l1 x.l2),V.int (VV fs m1 m2)]):=av
   refine kX (H2:=upd K7 q2 (.tup [V.ref x.lo,V.ref pm,V.int (VV fs x.l1 x.l2),V.int (VV fs m1 m2)])) rfl ?_
   generalize upd K7 q2 (.tup [V.ref x.lo,V.ref pm,V.int (VV fs x.l1 x.l2),V.int (VV fs m1 m2)])=K8 at s8 e8' ⊢
   have ew8:=s8 _ _ ew7
   have hql8:(qs ws'++[V.ref q1]).length=ws'.length+1:=by rw [List.length_append,hql];rfl
   refine ⟨pw,_,_,rfl,rfl,ew8,by rw [hql8];omega,?_⟩
   have n9:NL K8 (upd K8 pw (.lst ((qs ws'++[V.ref q1])++[V.ref q2]))):=NL.upd ew8
   have m7:NL K7 (upd K8 pw (.lst ((qs ws'++[V.ref q1])++[V.ref q2]))):=(NL.of s8).trans n9
   have m6:=n7.trans m7
   have mm5:=m5.trans m7
   have m3:=(NL.of u5).trans mm5
   have ladd:x.cn fs=(Cel.mk q2 x.lo pm x.l1 x.l2 m1 m2 (x.d+1)).cn fs+(Cel.mk q1 pm x.hi m1 m2 x.h1 x.h2 (x.d+1)).cn fs:=JR hW.fam.q dl.l2p dl.h2p dr.h2p (dl.lt B0) (dr.lt B0)
   have wl:wgt fs kb ⟨q1,pm,x.hi,m1,m2,x.h1,x.h2,x.d+1⟩+wgt fs kb ⟨q2,x.lo,pm,x.l1,x.l2,m1,m2,x.d+1⟩<wgt fs kb x:=by
    have p1:0<=(Cel.mk q2 x.lo pm x.l1 x.l2 m1 m2 (x.d+1)).cn fs:=nO _ _ _ _ _
    have p2:0<=(Cel.mk q1 pm x.hi m1 m2 x.h1 x.h2 (x.d+1)).cn fs:=nO _ _ _ _ _
    unfold wgt
    show 1+2*(_*(kb+201-(x.d+1)))+(1+2*(_*(kb+201-(x.d+1))))<_
    generalize (Cel.mk q2 x.lo pm x.l1 x.l2 m1 m2 (x.d+1)).cn fs=A at *
    generalize (Cel.mk q1 pm x.hi m1 m2 x.h1 x.h2 (x.d+1)).cn fs=B at *
    obtain ⟨A,rfl⟩:=Int.eq_ofNat_of_zero_le p1
    obtain ⟨B,rfl⟩:=Int.eq_ofNat_of_zero_le p2
    obtain ⟨t,ht⟩:∃ t,kb+201-x.d=t+1:=⟨kb+201-x.d-1,by omega⟩
    have ht':kb+201-(x.d+1)=t:=by omega
    have hc:(x.cn fs).toNat=A+B:=by omega
    rw [hc,ht,ht']
    show 1+2*(B*t)+(1+2*(A*t))<1+2*((A+B)*(t+1))
    have e1:(A+B)*(t+1)=A*t+B*t+(A+B):=by rw [Nat.mul_succ,Nat.add_mul]
    rw [e1]
    omega
   refine ⟨dU fs kb (ws'++[⟨q1,pm,x.hi,m1,m2,x.h1,x.h2,x.d+1⟩]++[⟨q2,x.lo,pm,x.l1,x.l2,m1,m2,x.d+1⟩]),by rw [jw,jw];omega,_,ys,_,_,_,_,rfl,rfl,fQ (sm7.trans s8) fw,by rw [av,o5,o5],by rw [upd_ne (Ne.symm nwf)];exact s8 _ _ ef7,fun y hy=>?_,fun y hy=>(hy1 y hy).nl m3,fun s hs=>?_,by rw [jw,jw];omega⟩
   ·rcases List.mem_append.mp hy with z | z
    ·rcases List.mem_append.mp z with z | z
     ·exact (hw1 y z).nl m3
     ·rw [List.mem_singleton.mp z]
      exact ⟨m6 _ _ e6 (fun _=>by simp),(hRm.same s5).nl mm5,hx5.hi.nl mm5,dr,by show x.d+1<=_;omega⟩
    ·rw [List.mem_singleton.mp z]
     exact ⟨n9 _ _ e8' (fun _=>by simp),hx5.lo.nl mm5,(hRm.same s5).nl mm5,dl,by show x.d+1<=_;omega⟩
   ·rcases hcov s hs with z | ⟨_,z2⟩ | z
    ·exact .inl (cov_snoc.mpr (.inl (cov_snoc.mpr (.inl z))))
    ·rcases Int.lt_or_le 0 (au s m1 m2) with v | v
     ·exact .inl (cov_snoc.mpr (.inl (cov_snoc.mpr (.inr ⟨v,z2.2⟩))))
     ·exact .inl (cov_snoc.mpr (.inr ⟨z2.1,v⟩))
    ·exact .inr z
theorem ni {ns:List Int} (h:ns≠[]):atI (ns.map V.int) (-1)=some (.int (al ns)):=by
 obtain ⟨r,x,rfl⟩:=(cP ns).resolve_left h
 rw [dz];exact AJ r x
theorem nh {k:Nat} {ns:List Int} (h:AllB k ns):Bits k (al ns):=h.cf _
def rH (C:Addr):Sp:=fun vs H Q _=>∃ (a:Addr) (fs:List (List Int)),vs=[.ref a]/\H a=some (.lst ((prQ fs).map V.int))/\Whl fs/\∀ (x:Addr) (H':Hp) (kb:Nat),kb<=252->isB ((prQ fs).take ((prQ fs).length-1)) (al (prQ fs)).natAbs kb->Same H H'->H x=none->RA C H' x 1 (8*al (prQ fs)*2^kb)->0<8*al (prQ fs)*(2:Int)^kb->Bits 520 (8*al (prQ fs)*(2:Int)^kb)->Q (.ref x) H'
theorem Ez {C f:Addr} {fd:FuncData} (F:Fun K "fine_width" "fine_width" kg f fd) (T:Txt K mg) (R:RCI K mg C) {f_Ratio:Addr} {fd_Ratio:FuncData} {ds_Ratio:List Value} (cE:KCal P w K mg base 2 C "Ratio" ["self","top","bottom"] (dm C) f_Ratio fd_Ratio ds_Ratio [.int 1]) {nJ:Addr} {nF:FuncData} (oq:Cal P w K mg base 1 "bound" ["row"] (mD K) nJ nF):FnOk P w K mg base CX0 4 f fd ["whole"] (rH C):=by
 obtain ⟨bZ,bX,bV,cu,di,de⟩:=cE
 obtain ⟨jn,iw,iD,jg⟩:=oq
 refine F.ok Cr (fun vs H Q E h=>?_) (fun cdv A outer s H vs Q E hr h=>?_)
 ·obtain ⟨a,fs,rfl,_⟩:=h
  rfl
 ·obtain ⟨a,fs,rfl,hA,hW,k⟩:=h
  refine ⟨_,(ao (aC (cN bX bZ (hr.mono) rfl bV cu .nil ai (aa af (aa (aj aN (aj aN af (aI (cw (K:=K) rfl) (pv 0) (bU bT af) (fun _ _=>rfl))) (aq jn (hr.mono) rfl iw iD jg .nil ai (aa (pv 0) ac))) ac))))),?_⟩
  have hP:=hW.fam.pln
  have l7:=hW.l7
  have hb:=hW.bits
  have b8:Bits 4 (8:Int):=by show (8:Int).natAbs<2^4;decide
  have hp:=hP.pos
  refine bh ⟨_,rfl,_,rfl,a,_,_,_,rfl,rfl,SqL.of hA,ni hP.ne,_,_,rfl,rfl,⟨b8.mono,(nh hb).mono⟩,_,rfl,a,prQ fs,rfl,SqL.of hA,hP.tr,hP.ne,by omega,hb.mono,fun kb H1 hkb hB s1=>?_⟩
  have hk:=Aw hb hp hB
  have b2:Bits 253 ((2^kb:Nat):Int):=by
   show (((2^kb:Nat):Int)).natAbs<2^253
   rw [Int.natAbs_natCast]
   exact (Nat.pow_lt_pow_iff_right (by decide)).mpr (by omega)
  have b3:Bits 254 (8*al (prQ fs)):=(b8.mul (nh hb)).mono
  have pk:(0:Int)<((2^kb:Nat):Int):=Int.ofNat_lt.mpr (Nat.pow_pos (by decide))
  have hD:0<8*al (prQ fs)*((2^kb:Nat):Int):=Int.mul_pos (by omega) pk
  have bD:Bits 520 (8*al (prQ fs)*((2^kb:Nat):Int)):=(b3.mul b2).mono
  refine ⟨_,_,rfl,rfl,⟨b3.mono,b2.mono⟩,dc (t:=1) (by omega) (bD.mono) fun x H2 s2 hx hR=>?_⟩
  rw [CM hD,Da hD] at hR
  have eB:((2^kb:Nat):Int)=(2:Int)^kb:=by rw [Int.natCast_pow];rfl
  rw [eB] at hR hD bD
  exact k x H2 kb hk hB (s1.trans s2) (s1.free hx) hR hD bD
def rJ (C:Addr):Sp:=fun vs H Q _=>∃ (p:Addr) (t b:Int),vs=[.ref p]/\RA C H p t b/\0<b/\Bits 9000 b/\Q (.int (t/b)) H
theorem E9 {C f:Addr} {fd:FuncData} (F:Fun K "floor" "Ratio.floor" kR f fd) (T:Txt K mg) (R:RCI K mg C):FnOk P w K mg base CX0 1 f fd ["self"] (rJ C):=by
 refine F.ok CH (fun vs H Q E h=>?_) (fun cdv A outer s H vs Q E hr h=>?_)
 ·obtain ⟨p,t,b,rfl,_⟩:=h
  rfl
 ·obtain ⟨p,t,b,rfl,⟨dx,hp⟩,hb,bb,k⟩:=h
  refine ⟨_,(ao (aC (aj db (aO (K:=K) rfl (pv 0) rfl) (aO (K:=K) rfl (pv 0) rfl)))),?_⟩
  exact ⟨_,rfl,p,C,dx,_,_,rfl,hp,R.cl,R.nT,cM _ _,_,rfl,p,C,dx,_,_,rfl,hp,R.cl,R.nB,bQ _ _,_,_,rfl,rfl,⟨hb,bb⟩,k⟩
theorem yo:¬ (("floor":Str)="bottom")/\¬ (("floor":Str)="top"):=⟨by decide +kernel,by decide +kernel⟩
theorem Di {a c:Int} (hc:0<c):rt a c/rb a c=a/c:=by
 have h0:c≠0:=by omega
 have e1:=kW (t:=a) h0
 have e2:=ia (t:=a) h0
 have hp:0<dv a c:=by
  unfold dv
  rw [if_neg (by omega)]
  have:=lK (t:=a) h0
  omega
 have e3:dv a c*rt a c/(dv a c*rb a c)=rt a c/rb a c:=Int.mul_ediv_mul_of_pos _ _ hp
 rw [e1,e2] at e3
 exact e3.symm
def oH (C:Addr):Sp:=fun vs H Q _=>∃ (r:Addr) (c t b:Int),vs=[.int c,.ref r]/\RA C H r t b/\0<b/\Bits 10000 c/\Bits 10000 t/\Bits 8900 b/\∀ H',Same H H'->Q (.int (c*t/b)) H'
theorem D0 {C f:Addr} {fd:FuncData} (F:Fun K "times_floor" "times_floor" jK f fd) (T:Txt K mg) (R:RCI K mg C) {f_Ratio:Addr} {fd_Ratio:FuncData} {ds_Ratio:List Value} (cE:KCal P w K mg base 2 C "Ratio" ["self","top","bottom"] (dm C) f_Ratio fd_Ratio ds_Ratio [.int 1]) {iW:Addr} {iQ:FuncData} (jv:MCal P w K mg base 4 C "times" ["self","other"] (jA C) iW iQ) {Jx:Addr} {II:FuncData} (Mg:MCal P w K mg base 1 C "floor" ["self"] (rJ C) Jx II):FnOk P w K mg base CX0 5 f fd ["factor","ratio"] (oH C):=by
 obtain ⟨bZ,bX,bV,cu,di,de⟩:=cE
 obtain ⟨fE,fj,fC⟩:=jv
 obtain ⟨Lv,Fu,Kx⟩:=Mg
 refine F.ok Cj (fun vs H Q E h=>?_) (fun cdv A outer s H vs Q E hr h=>?_)
 ·obtain ⟨r,c,t,b,rfl,_⟩:=h
  rfl
 ·obtain ⟨r,c,t,b,rfl,hR,hb,bc,bt,bb,k⟩:=h
  refine ⟨_,(ao (aC (DM (dq (cN bX bZ (hr.mono) rfl bV di de ai (aa (pv 0) ac)) R.cl fj fE (hr.mono) fC .nil ai (aa (pv 1) ac)) R.cl Fu Lv (hr.mono) Kx .nil ai))),?_⟩
  refine bh ⟨_,rfl,dc (t:=c) (b:=1) (by decide) (b1k (by decide)) fun x H1 s1 hx hX=>?_⟩
  rw [r9,sn] at hX
  obtain ⟨dx,hX'⟩:=id hX
  refine ⟨x,dx,_,rfl,hX',dG _ _ d5.1 d5.2,_,rfl,x,r,c,1,t,b,1,8900,rfl,hX,hR.same s1,bc.mono,b1k (by decide),bt.mono,bb,by decide,by decide,hb,fun y H2 s2 hy hY=>?_⟩
  obtain ⟨dy,hY'⟩:=id hY
  have d0:1*b≠0:=by omega
  refine ⟨y,dy,_,rfl,hY',dG _ _ yo.1 yo.2,y,_,_,rfl,hY,dB d0,(fc d0 (by rw [Int.one_mul];exact bb)).mono,?_⟩
  rw [Di (show 0<1*b by omega),Int.one_mul]
  exact k H2 (s1.trans s2)
def vl (p:Int×Int):Rat:=(p.1:Rat)/(p.2:Rat)
theorem A6 {a b c d:Int} (hb:0<b) (hd:0<d) (h:¬ c*b<a*d):(a:Rat)/(b:Rat)<=(c:Rat)/(d:Rat):=Rat.not_lt.mp fun z=>h ((ib hd hb).mp z)
theorem wa {t b:Int} (hb:0<b):((rt t b:Int):Rat)/((rb t b:Int):Rat)=(t:Rat)/(b:Rat):=by
 have h0:b≠0:=by omega
 have hc:=fe (t:=t) h0
 have hp:=dB (t:=t) h0
 have cb:(0:Rat)<(b:Rat):=Rat.intCast_lt_intCast.mpr hb
 have cr:(0:Rat)<((rb t b:Int):Rat):=Rat.intCast_lt_intCast.mpr hp
 have e1:((rt t b:Int):Rat)/((rb t b:Int):Rat)*((rb t b:Int):Rat)=((rt t b:Int):Rat):=Rat.div_mul_cancel (Rat.ne_of_gt cr)
 have e2:(t:Rat)/(b:Rat)*(b:Rat)=(t:Rat):=Rat.div_mul_cancel (Rat.ne_of_gt cb)
 have e3:((rt t b:Int):Rat)*(b:Rat)=(t:Rat)*((rb t b:Int):Rat):=by rw [<- Rat.intCast_mul,hc,Rat.intCast_mul]
 generalize ((rt t b:Int):Rat)/((rb t b:Int):Rat)=X at e1 ⊢
 generalize (t:Rat)/(b:Rat)=Y at e2 ⊢
 rw [<- e1,<- e2] at e3
 have hM:=Rat.mul_pos cr cb
 have e4:(((rb t b:Int):Rat)*(b:Rat))*X=(((rb t b:Int):Rat)*(b:Rat))*Y:=by grind
 exact Rat.le_antisymm (eo hM (by rw [e4];exact Rat.le_refl)) (eo hM (by rw [e4];exact Rat.le_refl))
theorem A5 {a b c d:Int} (hb:0<b) (hd:0<d):((a*c:Int):Rat)/((b*d:Int):Rat)=(a:Rat)/(b:Rat)*((c:Rat)/(d:Rat)):=by
 have cb:(0:Rat)<(b:Rat):=Rat.intCast_lt_intCast.mpr hb
 have cd:(0:Rat)<(d:Rat):=Rat.intCast_lt_intCast.mpr hd
 rw [Rat.intCast_mul,Rat.intCast_mul]
 have hM:=Rat.mul_pos cb cd
 have e1:(a:Rat)/(b:Rat)*(b:Rat)=(a:Rat):=Rat.div_mul_cancel (Rat.ne_of_gt cb)
 have e2:(c:Rat)/(d:Rat)*(d:Rat)=(c:Rat):=Rat.div_mul_cancel (Rat.ne_of_gt cd)
 have e3:(a:Rat)*(c:Rat)/((b:Rat)*(d:Rat))*((b:Rat)*(d:Rat))=(a:Rat)*(c:Rat):=Rat.div_mul_cancel (Rat.ne_of_gt hM)
 generalize (a:Rat)/(b:Rat)=X at e1 ⊢
 generalize (c:Rat)/(d:Rat)=Y at e2 ⊢
 generalize (a:Rat)*(c:Rat)/((b:Rat)*(d:Rat))=Z at e3 ⊢
 rw [<- e1,<- e2] at e3
 have e4:((b:Rat)*(d:Rat))*Z=((b:Rat)*(d:Rat))*(X*Y):=by grind
 exact Rat.le_antisymm (eo hM (by rw [e4];exact Rat.le_refl)) (eo hM (by rw [e4];exact Rat.le_refl))
theorem A7 {a b c d:Int} (hb:0<b) (hd:0<d):((a*d+c*b:Int):Rat)/((b*d:Int):Rat)=(a:Rat)/(b:Rat)+(c:Rat)/(d:Rat):=by
 have cb:(0:Rat)<(b:Rat):=Rat.intCast_lt_intCast.mpr hb
 have cd:(0:Rat)<(d:Rat):=Rat.intCast_lt_intCast.mpr hd
 rw [Rat.intCast_add,Rat.intCast_mul,Rat.intCast_mul,Rat.intCast_mul]
 have hM:=Rat.mul_pos cb cd
 have e1:(a:Rat)/(b:Rat)*(b:Rat)=(a:Rat):=Rat.div_mul_cancel (Rat.ne_of_gt cb)
 have e2:(c:Rat)/(d:Rat)*(d:Rat)=(c:Rat):=Rat.div_mul_cancel (Rat.ne_of_gt cd)
 have e3:((a:Rat)*(d:Rat)+(c:Rat)*(b:Rat))/((b:Rat)*(d:Rat))*((b:Rat)*(d:Rat))=(a:Rat)*(d:Rat)+(c:Rat)*(b:Rat):=Rat.div_mul_cancel (Rat.ne_of_gt hM)
 generalize ((a:Rat)*(d:Rat)+(c:Rat)*(b:Rat))/((b:Rat)*(d:Rat))=Z at e3 ⊢
 generalize (a:Rat)/(b:Rat)=X at e1 ⊢
 generalize (c:Rat)/(d:Rat)=Y at e2 ⊢
 rw [<- e1,<- e2] at e3
 have e4:((b:Rat)*(d:Rat))*Z=((b:Rat)*(d:Rat))*(X+Y):=by grind
 exact Rat.le_antisymm (eo hM (by rw [e4];exact Rat.le_refl)) (eo hM (by rw [e4];exact Rat.le_refl))
structure MaxP (x1 x2 y1 y2 p1 p2 q1 q2 m1 m2:Int):Prop where
 m2p:0<m2
 b1:Bits 6000 m1
 b2:Bits 6000 m2
 c1:vl (x1,x2)*vl (p1,p2)<=vl (m1,m2)
 c2:vl (x1,x2)*vl (q1,q2)<=vl (m1,m2)
 c3:vl (y1,y2)*vl (p1,p2)<=vl (m1,m2)
 c4:vl (y1,y2)*vl (q1,q2)<=vl (m1,m2)
 is:vl (m1,m2)=vl (x1,x2)*vl (p1,p2)\/vl (m1,m2)=vl (x1,x2)*vl (q1,q2)\/vl (m1,m2)=vl (y1,y2)*vl (p1,p2)\/vl (m1,m2)=vl (y1,y2)*vl (q1,q2)
structure TwoS (C:Addr) (H:Hp) (p q x y x' y':Addr) (x1 x2 y1 y2 p1 p2 q1 q2:Int):Prop where
 hp:H p=some (.tup [.ref x,.ref y])
 hq:H q=some (.tup [.ref x',.ref y'])
 hx:RA C H x x1 x2
 hy:RA C H y y1 y2
 hx':RA C H x' p1 p2
 hy':RA C H y' q1 q2
 e1:EndsG 1774 x1 x2 y1 y2
 e2:EndsG 4074 p1 p2 q1 q2
theorem TwoS.same {C:Addr} {H H':Hp} {p q x y x' y':Addr} {x1 x2 y1 y2 p1 p2 q1 q2:Int} (h:TwoS C H p q x y x' y' x1 x2 y1 y2 p1 p2 q1 q2) (s:Same H H'):TwoS C H' p q x y x' y' x1 x2 y1 y2 p1 p2 q1 q2:=⟨s _ _ h.hp,s _ _ h.hq,h.hx.same s,h.hy.same s,h.hx'.same s,h.hy'.same s,h.e1,h.e2⟩
def qV (C:Addr):Sp:=fun vs H Q _=>∃ (p q x y x' y':Addr) (x1 x2 y1 y2 p1 p2 q1 q2:Int),vs=[.ref p,.ref q]/\TwoS C H p q x y x' y' x1 x2 y1 y2 p1 p2 q1 q2/\∀ (t lo hi:Addr) (H':Hp) (m1 m2:Int),Same H H'->H t=none->H' t=some (.tup [.ref lo,.ref hi])->RA C H' hi m1 m2->MaxP x1 x2 y1 y2 p1 p2 q1 q2 m1 m2->Q (.ref t) H'
structure PrH (C:Addr) (H:Hp) (r:Addr) (m1 m2:Int) (v:Rat):Prop where
 ra:RA C H r m1 m2
 m2p:0<m2
 b1:Bits 6000 m1
 b2:Bits 6000 m2
 is:vl (m1,m2)=v
theorem PrH.same {C:Addr} {H H':Hp} {r:Addr} {m1 m2:Int} {v:Rat} (h:PrH C H r m1 m2 v) (s:Same H H'):PrH C H' r m1 m2 v:=⟨h.ra.same s,h.m2p,h.b1,h.b2,h.is⟩
theorem o9 {C:Addr} {H:Hp} {r:Addr} {a b c d:Int} (hb:0<b) (hd:0<d) (ba:Bits 1774 a) (bb:Bits 1774 b) (bc:Bits 4074 c) (bd:Bits 4074 d) (h:RA C H r (rt (a*c) (b*d)) (rb (a*c) (b*d))):PrH C H r (rt (a*c) (b*d)) (rb (a*c) (b*d)) (vl (a,b)*vl (c,d)):=by
 have hp:0<b*d:=Int.mul_pos hb hd
 have h0:b*d≠0:=by omega
 refine ⟨h,dB h0,(eV h0 (ba.mul bc)).mono,(fc h0 (bb.mul bd)).mono,?_⟩
 show ((rt (a*c) (b*d):Int):Rat)/((rb (a*c) (b*d):Int):Rat)=_
 rw [wa hp,A5 hb hd];rfl
theorem D6 {C f:Addr} {fd:FuncData} (F:Fun K "span_product" "span_product" jP f fd) (T:Txt K mg) (R:RCI K mg C) {iW:Addr} {iQ:FuncData} (jv:MCal P w K mg base 4 C "times" ["self","other"] (jA C) iW iQ) {nK:Addr} {nG:FuncData} (ot:MCal P w K mg base 2 C "against" ["self","other"] (mE C) nK nG):FnOk P w K mg base CX0 5 f fd ["first","second"] (qV C):=by
 obtain ⟨fE,fj,fC⟩:=jv
 obtain ⟨mn,lE,lZ⟩:=ot
 refine F.ok sc_span_product (fun vs H Q E h=>?_) (fun cdv A outer s H vs Q E hr h=>?_)
 ·obtain ⟨p,q,x,y,x',y',x1,x2,y1,y2,p1,p2,q1,q2,rfl,_⟩:=h
  rfl
 ·obtain ⟨p,q,x,y,x',y',x1,x2,y1,y2,p1,p2,q1,q2,rfl,h,k⟩:=h
  have big:=sizeLine_eq
  refine ⟨_,(ah (ap (i:=2) sc_span_product.nd rfl (Or.inl rfl) (dq (aI (aX (K:=K) rfl) (pv 0) af (fun _ _=>rfl)) R.cl fj fE (hr.mono) fC .nil ai (aa (aI (aX (K:=K) rfl) (pv 1) af (fun _ _=>rfl)) ac)))
   (ah (ap (i:=3) sc_span_product.nd rfl (Or.inl rfl) (pv 2))
   (ah (cR PassesOwn.never rfl (DF (K:=K) rfl (cU (aa (dq (aI (aX (K:=K) rfl) (pv 0) af (fun _ _=>rfl)) R.cl fj fE (hr.mono) fC .nil ai (aa (aI (aX (K:=K) rfl) (pv 1) af (fun _ _=>rfl)) ac)) (aa (dq (aI (aX (K:=K) rfl) (pv 0) af (fun _ _=>rfl)) R.cl fj fE (hr.mono) fC .nil ai (aa (aI (aX (K:=K) rfl) (pv 1) af (fun _ _=>rfl)) ac)) (aa (dq (aI (aX (K:=K) rfl) (pv 0) af (fun _ _=>rfl)) R.cl fj fE (hr.mono) fC .nil ai (aa (aI (aX (K:=K) rfl) (pv 1) af (fun _ _=>rfl)) ac)) ac))))) (aT (i:=4) sc_span_product.nd rfl (Or.inl rfl))
     (ah (aV (aM du (dq (pv 4) R.cl lE mn (hr.mono) lZ .nil ai (aa (pv 2) ac)) af (aH _))
       (ao (ap (i:=2) sc_span_product.nd rfl (Or.inl rfl) (pv 4)))
       aW)
       (ao (aV (aM cW (dq (pv 4) R.cl lE mn (hr.mono) lZ .nil ai (aa (pv 3) ac)) af (aH _))
         (ao (ap (i:=3) sc_span_product.nd rfl (Or.inl rfl) (pv 4)))
         aW))))
   (ao (aC (cU (aa (pv 2) (aa (pv 3) ac)))))))),?_⟩
  have e1:=h.e1
  have e2:=h.e2
  obtain ⟨dx,hx0⟩:=id h.hx
  refine aD ⟨_,rfl,p,_,_,_,rfl,rfl,SqT.of h.hp,rfl,x,dx,_,rfl,hx0,dG _ _ d5.1 d5.2,_,rfl,q,_,_,_,rfl,rfl,SqT.of h.hq,rfl,x,x',x1,x2,p1,p2,1774,4074,rfl,h.hx,h.hx',e1.bl1.mono,e1.bl2,e2.bl1.mono,e2.bl2,by decide,e1.l2p,e2.l2p,fun r0 H1 s1 hr0 hR0=>?_⟩
  have P0:=o9 e1.l2p e2.l2p e1.bl1 e1.bl2 e2.bl1 e2.bl2 hR0
  refine aD ⟨_,rfl,?_⟩
  have h1:=h.same s1
  obtain ⟨dx1,hx1⟩:=id h1.hx
  refine ⟨_,rfl,p,_,_,_,rfl,rfl,SqT.of h1.hp,rfl,x,dx1,_,rfl,hx1,dG _ _ d5.1 d5.2,_,rfl,q,_,_,_,rfl,rfl,SqT.of h1.hq,rfl,x,y',x1,x2,q1,q2,1774,4074,rfl,h1.hx,h1.hy',e1.bl1.mono,e1.bl2,e2.bh1.mono,e2.bh2,by decide,e1.l2p,e2.h2p,fun r1 H2 s2 hr1 hR1=>?_⟩
  have P1:=o9 e1.l2p e2.h2p e1.bl1 e1.bl2 e2.bh1 e2.bh2 hR1
  have h2:=h1.same s2
  obtain ⟨dy2,hy2⟩:=id h2.hy
  refine ⟨_,rfl,p,_,_,_,rfl,rfl,SqT.of h2.hp,rfl,y,dy2,_,rfl,hy2,dG _ _ d5.1 d5.2,_,rfl,q,_,_,_,rfl,rfl,SqT.of h2.hq,rfl,y,x',y1,y2,p1,p2,1774,4074,rfl,h2.hy,h2.hx',e1.bh1.mono,e1.bh2,e2.bl1.mono,e2.bl2,by decide,e1.h2p,e2.l2p,fun r2 H3 s3 hr2 hR2=>?_⟩
  have P2:=o9 e1.h2p e2.l2p e1.bh1 e1.bh2 e2.bl1 e2.bl2 hR2
  have h3:=h2.same s3
  obtain ⟨dy3,hy3⟩:=id h3.hy
  refine ⟨_,rfl,p,_,_,_,rfl,rfl,SqT.of h3.hp,rfl,y,dy3,_,rfl,hy3,dG _ _ d5.1 d5.2,_,rfl,q,_,_,_,rfl,rfl,SqT.of h3.hq,rfl,y,y',y1,y2,q1,q2,1774,4074,rfl,h3.hy,h3.hy',e1.bh1.mono,e1.bh2,e2.bh1.mono,e2.bh2,by decide,e1.h2p,e2.h2p,fun r3 H4 s4 hr3 hR3=>⟨by show 3<=sizeLine;omega,fun pt hpt=>?_⟩⟩
  have P3:=o9 e1.h2p e2.h2p e1.bh1 e1.bh2 e2.bh1 e2.bh2 hR3
  have s5:Same H4 (upd H4 pt (.tup [V.ref r1,V.ref r2,V.ref r3])):=Same.upd_new hpt
  have q5:upd H4 pt (.tup [V.ref r1,V.ref r2,V.ref r3]) pt=some (.tup [V.ref r1,V.ref r2,V.ref r3]):=av
  refine kX (H2:=upd H4 pt (.tup [V.ref r1,V.ref r2,V.ref r3])) rfl ?_
  generalize upd H4 pt (.tup [V.ref r1,V.ref r2,V.ref r3])=H5 at s5 q5 ⊢
  have A0:=(P0.same s2).same (s3.trans (s4.trans s5))
  have A1:=P1.same (s3.trans (s4.trans s5))
  have A2:=P2.same (s4.trans s5)
  have A3:=P3.same s5
  have t5:=(s1.trans s2).trans (s3.trans (s4.trans s5))
  clear P0 P1 P2 P3 hR0 hR1 hR2 hR3
  have get:∀ (i:Nat) (z:V),[V.ref r1,V.ref r2,V.ref r3][i]?=some z->∃ (r:Addr) (t b:Int) (v:Rat),z=.ref r/\PrH C H5 r t b v/\[vl (x1,x2)*vl (p1,p2),vl (x1,x2)*vl (q1,q2),vl (y1,y2)*vl (p1,p2),vl (y1,y2)*vl (q1,q2)].take (i+1+1)=[vl (x1,x2)*vl (p1,p2),vl (x1,x2)*vl (q1,q2),vl (y1,y2)*vl (p1,p2),vl (y1,y2)*vl (q1,q2)].take (i+1)++[v]:=fun i z hz=>by
   match i,hz with
   | 0,hz=>exact ⟨r1,_,_,_,(Option.some.inj hz).symm,A1,rfl⟩
   | 1,hz=>exact ⟨r2,_,_,_,(Option.some.inj hz).symm,A2,rfl⟩
   | 2,hz=>exact ⟨r3,_,_,_,(Option.some.inj hz).symm,A3,rfl⟩
  generalize hV:[vl (x1,x2)*vl (p1,p2),vl (x1,x2)*vl (q1,q2),vl (y1,y2)*vl (p1,p2),vl (y1,y2)*vl (q1,q2)]=W at get
  refine ⟨pt,rfl,⟨_,SqT.of q5⟩,HM (K:=K) (a:=pt) (xs:=[V.ref r1,V.ref r2,V.ref r3]) (fun i σ' H'=>∃ (lo g:Addr) (l1 l2 g1 g2:Int) (vo vg:Rat) (z4:Option V),σ'=[some (.ref p),some (.ref q),some (.ref lo),some (.ref g),z4]/\H5=H'/\PrH C H5 lo l1 l2 vo/\PrH C H5 g g1 g2 vg/\vg∈W.take (i+1)/\∀ v∈W.take (i+1),v<=vg)
   ⟨r0,r0,_,_,_,_,_,_,none,rfl,rfl,A0,A0,by rw [<- hV];exact List.mem_singleton.mpr rfl,fun v hv=>by rw [<- hV] at hv;rw [List.mem_singleton.mp hv];exact Rat.le_refl⟩ ?_ ?_ ?_⟩
  ·rintro i σ' H' _ ⟨lo,g,l1,l2,g1,g2,vo,vg,z4,rfl,rfl,_⟩
   exact SqT.of q5
  ·rintro i z σ' H' hi ⟨lo,g,l1,l2,g1,g2,vo,vg,z4,rfl,rfl,Po,Pg,hmem,hall⟩
   obtain ⟨r,t,b,v,rfl,Pr,ht⟩:=get i z hi
   obtain ⟨dr,hr'⟩:=id Pr.ra
   dsimp only
   refine fb (fun σ' H'=>∃ (lo:Addr) (l1 l2:Int) (vo:Rat),σ'=[some (.ref p),some (.ref q),some (.ref lo),some (.ref g),some (.ref r)]/\H5=H'/\PrH C H5 lo l1 l2 vo) ?_ ?_
   case refine_2 =>
    intro rest
    refine ⟨_,rfl,r,dr,_,rfl,hr',dG _ _ gH.1 gH.2,_,rfl,r,lo,t,b,l1,l2,rfl,Pr.ra,Po.ra,Pr.b1.mono,Pr.b2.mono,Po.b1.mono,Po.b2.mono,_,_,rfl,rfl,_,rfl,aQ (fun _=>?_) (fun _=>?_)⟩
    ·exact ⟨_,rfl,rest _ _ ⟨r,t,b,v,rfl,rfl,Pr⟩⟩
    ·exact rest _ _ ⟨lo,l1,l2,vo,rfl,rfl,Po⟩
   rintro σ' H' ⟨lo',l1',l2',vo',rfl,rfl,Po'⟩
   refine ⟨_,rfl,r,dr,_,rfl,hr',dG _ _ gH.1 gH.2,_,rfl,r,g,t,b,g1,g2,rfl,Pr.ra,Pg.ra,Pr.b1.mono,Pr.b2.mono,Pg.b1.mono,Pg.b2.mono,_,_,rfl,rfl,_,rfl,aQ (fun h0=>?_) (fun h0=>?_)⟩
   ·have h0':sg (t*g2-g1*b)>0:=h0
    have hlt:g1*b<t*g2:=Int.not_le.mp fun z=>by
     have:sg (t*g2-g1*b)<=0:=by unfold sg;split<;>(try split)<;>omega
     omega
    have hv:vg<v:=by
     rw [<- Pg.is,<- Pr.is]
     exact (ib Pg.m2p Pr.m2p).mpr hlt
    refine ⟨_,rfl,lo',r,l1',l2',t,b,vo',v,_,rfl,rfl,Po',Pr,by rw [ht];simp,fun u hu=>?_⟩
    rw [ht] at hu
    rcases List.mem_append.mp hu with z | z
    ·exact Rat.le_trans (hall u z) (Rat.le_of_lt hv)
    ·rw [List.mem_singleton.mp z];exact Rat.le_refl
   ·have h0':¬ sg (t*g2-g1*b)>0:=h0
    have hle:v<=vg:=by
     rw [<- Pg.is,<- Pr.is]
     refine A6 Pr.m2p Pg.m2p fun z=>h0' ?_
     have z':g1*b<t*g2:=z
     have:sg (t*g2-g1*b)=1:=B9 (by omega)
     omega
    refine ⟨lo',g,l1',l2',g1,g2,vo',vg,_,rfl,rfl,Po',Pg,by rw [ht];exact List.mem_append_left _ hmem,fun u hu=>?_⟩
    rw [ht] at hu
    rcases List.mem_append.mp hu with z | z
    ·exact hall u z
    ·rw [List.mem_singleton.mp z];exact hle
  ·rintro σ' H' ⟨lo,g,l1,l2,g1,g2,vo,vg,z4,rfl,rfl,Po,Pg,hmem,hall⟩
   refine ⟨_,rfl,_,rfl,by show 2<=sizeLine;omega,fun t ht=>?_⟩
   have s6:Same H5 (upd H5 t (.tup [V.ref lo,V.ref g])):=Same.upd_new ht
   refine k t lo g _ g1 g2 (t5.trans s6) (t5.free ht) av (Pg.ra.same s6) ⟨Pg.m2p,Pg.b1,Pg.b2,?_,?_,?_,?_,?_⟩
   all_goals rw [Pg.is]
   ·exact hall _ (by rw [<- hV];exact List.mem_cons_self ..)
   ·exact hall _ (by rw [<- hV];exact List.mem_cons_of_mem _ (List.mem_cons_self ..))
   ·exact hall _ (by rw [<- hV];exact List.mem_cons_of_mem _ (List.mem_cons_of_mem _ (List.mem_cons_self ..)))
   ·exact hall _ (by rw [<- hV];exact List.mem_cons_of_mem _ (List.mem_cons_of_mem _ (List.mem_cons_of_mem _ (List.mem_cons_self ..))))
   ·rw [<- hV] at hmem
    rcases List.mem_cons.mp hmem with z | z
    ·exact .inl z
    rcases List.mem_cons.mp z with z | z
    ·exact .inr (.inl z)
    rcases List.mem_cons.mp z with z | z
    ·exact .inr (.inr (.inl z))
    ·exact .inr (.inr (.inr (List.mem_singleton.mp z)))
structure SqR (x1 x2 y1 y2 p1 p2 q1 q2 t1 t2 m1 m2:Int):Prop where
 mx:MaxP x1 x2 y1 y2 p1 p2 q1 q2 m1 m2
 t2p:0<t2
 bt:Bits 6000 t1
 sum:vl (t1,t2)=vl (y1,y2)+vl (q1,q2)
def qT (C:Addr):Sp:=fun vs H Q _=>∃ (a p q x y x' y':Addr) (ns:List Int) (x1 x2 y1 y2 p1 p2 q1 q2:Int),vs=[.ref a,.ref p,.ref q]/\H a=some (.lst (ns.map V.int))/\Pln ns/\AllB 250 ns/\TwoS C H p q x y x' y' x1 x2 y1 y2 p1 p2 q1 q2/\∀ t1 t2 m1 m2:Int,SqR x1 x2 y1 y2 p1 p2 q1 q2 t1 t2 m1 m2->mkL H Q (aB [al ns*m1/m2,-(al ns*t1/t2),al ns])
theorem D4 {C f:Addr} {fd:FuncData} (F:Fun K "square_of" "square_of" jN f fd) (T:Txt K mg) (R:RCI K mg C) {uA:Addr} {uc:FuncData} (vL:Cal P w K mg base 5 "times_floor" ["factor","ratio"] (oH C) uA uc) {uN:Addr} {ut:FuncData} (vZ:MCal P w K mg base 4 C "plus" ["self","other"] (oK C) uN ut) {IS:Addr} {HW:FuncData} (LG:Cal P w K mg base 5 "span_product" ["first","second"] (qV C) IS HW) {iU:Addr} {iO:FuncData} (jt:Cal P w K mg base 34 "plain" ["row"] jD iU iO):FnOk P w K mg base CX0 35 f fd ["whole","span","other"] (qT C):=by
 obtain ⟨qz,pK,pQ,qu⟩:=vL
 obtain ⟨vH,sX,vq⟩:=vZ
 obtain ⟨KT,FP,GO,J7⟩:=LG
 obtain ⟨gq,fU,fZ,gm⟩:=jt
 refine F.ok sc_square_of (fun vs H Q E h=>?_) (fun cdv A outer s H vs Q E hr h=>?_)
 ·obtain ⟨a,p,q,x,y,x',y',ns,x1,x2,y1,y2,p1,p2,q1,q2,rfl,_⟩:=h
  rfl
 ·obtain ⟨a,p,q,x,y,x',y',ns,x1,x2,y1,y2,p1,p2,q1,q2,rfl,hA,hP,hb,h,k⟩:=h
  have big:=sizeLine_eq
  refine ⟨_,(ah (ap (i:=3) sc_square_of.nd rfl (Or.inl rfl) (aI (cw (K:=K) rfl) (pv 0) (bU bT af) (fun _ _=>rfl)))
   (ah (ap (i:=4) sc_square_of.nd rfl (Or.inl rfl) (aq qz (hr.mono) rfl pK pQ qu .nil ai (aa (pv 3) (aa (dq (aI (aX (K:=K) rfl) (pv 1) af (fun _ _=>rfl)) R.cl sX vH (hr.mono) vq .nil ai (aa (aI (aX (K:=K) rfl) (pv 2) af (fun _ _=>rfl)) ac)) ac))))
   (ao (aC (aq gq (hr.mono) rfl fU fZ gm .nil ai (aa (bz (aa (aq qz (hr.mono) rfl pK pQ qu .nil ai (aa (pv 3) (aa (aI (aX (K:=K) rfl) (aq KT (hr.mono) rfl FP GO J7 .nil ai (aa (pv 1) (aa (pv 2) ac))) af (fun _ _=>rfl)) ac))) (aa (bU bT (pv 4)) (aa (pv 3) ac)))) ac)))))),?_⟩
  have e1:=h.e1
  have e2:=h.e2
  have bl:=nh hb
  have lp:=hP.pos
  refine aD ⟨_,rfl,_,rfl,a,_,_,_,rfl,rfl,SqL.of hA,ni hP.ne,?_⟩
  obtain ⟨dy,hy0⟩:=id h.hy
  have hp2:0<y2*q2:=Int.mul_pos e1.h2p e2.h2p
  have h0:y2*q2≠0:=by omega
  have bsum:Bits 5850 (y1*q2+q1*y2):=by
   have a1:Bits 5848 (y1*q2):=e1.bh1.mul e2.bh2
   have a2:Bits 5848 (q1*y2):=(e2.bh1.mul e1.bh2).mono
   exact (a1.add a2).mono
  refine aD ⟨_,rfl,_,rfl,p,_,_,_,rfl,rfl,SqT.of h.hp,rfl,y,dy,_,rfl,hy0,dG _ _ pD.1 pD.2,_,rfl,q,_,_,_,rfl,rfl,SqT.of h.hq,rfl,y,y',y1,y2,q1,q2,1774,4074,rfl,h.hy,h.hy',e1.bh1.mono,e1.bh2,e2.bh1.mono,e2.bh2,by decide,e1.h2p,e2.h2p,fun r H1 s1 hr0 hR=>?_⟩
  refine ⟨r,al ns,_,_,rfl,hR,dB h0,bl.mono,(eV h0 bsum).mono,(fc h0 (e1.bh2.mul e2.bh2)).mono,fun H2 s2=>?_⟩
  have t2:=s1.trans s2
  have h2:=h.same t2
  refine bh ⟨_,rfl,_,rfl,_,rfl,p,q,x,y,x',y',x1,x2,y1,y2,p1,p2,q1,q2,rfl,h2,fun t lo hi H3 m1 m2 s3 ht et hm mx=>?_⟩
  refine ⟨t,_,_,_,rfl,rfl,SqT.of et,rfl,hi,al ns,m1,m2,rfl,hm,mx.m2p,bl.mono,mx.b1.mono,mx.b2.mono,fun H4 s4=>?_⟩
  refine ⟨_,rfl,_,rfl,_,rfl,by show 3<=sizeLine;omega,fun pl hpl=>?_⟩
  have t4:=(t2.trans s3).trans s4
  have trl:Tr [al ns*m1/m2,-(al ns*rt (y1*q2+q1*y2) (y2*q2)/rb (y1*q2+q1*y2) (y2*q2)),al ns]:=(tr_snoc (r:=[al ns*m1/m2,-(al ns*rt (y1*q2+q1*y2) (y2*q2)/rb (y1*q2+q1*y2) (y2*q2))])).mpr (by omega)
  refine ⟨pl,[al ns*m1/m2,-(al ns*rt (y1*q2+q1*y2) (y2*q2)/rb (y1*q2+q1*y2) (y2*q2)),al ns],rfl,av,trl,by show 3<=1000000;decide,fun p5 H5 s5 hp5 e5=>?_⟩
  have t5:=(t4.then_new (o:=.lst _) hpl).trans s5
  refine k _ _ m1 m2 ⟨mx,dB h0,(eV h0 bsum).mono,?_⟩ p5 H5 t5 ((t4.then_new hpl).free hp5) e5
  show ((rt (y1*q2+q1*y2) (y2*q2):Int):Rat)/((rb (y1*q2+q1*y2) (y2*q2):Int):Rat)=_
  rw [wa hp2,A7 e1.h2p e2.h2p];rfl
theorem wP {t n t' n':Int}:∀ {ls:List (List Int)},(∀ l∈ls,au l t n=au l t' n')->spr t n ls=spr t' n' ls
 | [],_=>rfl
 | l::ls,h=>by
   show -au l t n*spr t n ls = -au l t' n'*spr t' n' ls
   rw [h l (List.mem_cons_self ..),wP fun x hx=>h x (List.mem_cons_of_mem _ hx)]
theorem wO {t n:Int}:∀ {ls:List (List Int)},(∀ l∈ls,au l t n≠0)->spr t n ls=1\/spr t n ls = -1
 | [],_=>.inl rfl
 | l::ls,h=>by
   have h1:=h l (List.mem_cons_self ..)
   have h2:=wO (ls:=ls) fun x hx=>h x (List.mem_cons_of_mem _ hx)
   show -au l t n*spr t n ls=1 \/ -au l t n*spr t n ls = -1
   rcases gz l t n with z | z | z
   ·rw [z];omega
   ·exact absurd z h1
   ·rw [z];omega
theorem BX {l:List Int} (hl:Spt l) {t n t' n':Int} (hn:0<n) (hn':0<n') (h:t*n'<=t'*n) (hs:0<au l t' n'):0<au l t n:=by
 rcases Int.lt_or_le 0 (au l t n) with z | z
 ·exact z
 ·exfalso
  rcases Int.lt_or_eq_of_le h with y | y
  ·have:=gZ hl hn hn' y z;omega
  ·rw [oW l hn hn' y] at z;omega
theorem xn {l:List Int} (hl:Spt l) {l1 l2 h1 h2 x1 x2:Int} (l2p:0<l2) (h2p:0<h2) (x2p:0<x2) (lt:l1*h2<h1*l2) (hno:¬ (0<au l l1 l2/\au l h1 h2<=0)) (hx:l1*x2<x1*l2) (hx':x1*h2<=h1*x2):au l x1 x2=au l h1 h2/\au l h1 h2≠0:=by
 rcases Int.lt_or_le 0 (au l l1 l2) with z | z
 ·have h3:0<au l h1 h2:=by
   rcases Int.lt_or_le 0 (au l h1 h2) with y | y
   ·exact y
   ·exact absurd ⟨z,y⟩ hno
  have h4:=BX hl x2p h2p hx' h3
  rcases gz l x1 x2 with y | y | y<;>rcases gz l h1 h2 with w | w | w<;>omega
 ·have e1:=gZ hl l2p x2p hx z
  have e2:=gZ hl l2p h2p lt z
  omega
theorem CT {fs pre post:List (List Int)} {s:List Int} {c l1 l2 h1 h2:Int} (hF:∀ f∈fs,eN f) (hc:c≠0) (hsp:aL fs=pre++s::post) (l2p:0<l2) (h2p:0<h2) (lt:l1*h2<h1*l2) (hin:0<au s l1 l2/\au s h1 h2<=0) (hno:∀ x∈pre++post,¬ (0<au x l1 l2/\au x h1 h2<=0)) :
 ∃ ε,RootU (ad [c] (aS [1] (fs.map ag))) l1 l2 h1 h2 ε (fun x1 x2=>0<au s x1 x2):=by
 have hS:∀ x∈aL fs,Spt x:=fun x hx=>dA hF hx
 have hs:Spt s:=hS s (by rw [hsp];simp)
 have ho:∀ x∈pre++post,Spt x:=fun x hx=>hS x (by rw [hsp];simp at hx ⊢;rcases hx with h | h<;>simp [h])
 have val:∀ x1 x2,0<x2->l1*x2<x1*l2->x1*h2<=h1*x2->sg (hv x1 x2 (ad [c] (aS [1] (fs.map ag))))=sg c*spr h1 h2 (pre++post) * -au s x1 x2:=fun x1 x2 x2p a b=>by
  rw [o8 x2p hF,hsp,oE]
  show sg c*(spr x1 x2 pre*(-au s x1 x2*spr x1 x2 post))=_
  have e:spr x1 x2 (pre++post)=spr h1 h2 (pre++post):=wP fun y hy=>(xn (ho y hy) l2p h2p x2p lt (hno y hy) a b).1
  rw [<- e,oE];grind
 have hu:=wO (t:=h1) (n:=h2) (ls:=pre++post) fun y hy=>(xn (ho y hy) l2p h2p h2p lt (hno y hy) lt (Int.le_refl _)).2
 have hsg:sg c=1\/sg c = -1:=by
  rcases Int.lt_or_gt_of_ne hc with z | z
  ·right;unfold sg;rw [if_pos z]
  ·left;unfold sg;rw [if_neg (by omega),if_pos z]
 have e1:sg c*spr h1 h2 (pre++post)=1\/sg c*spr h1 h2 (pre++post) = -1:=by
  rcases hsg with z | z<;>rcases hu with y | y<;>rw [z,y]<;>decide
 generalize sg c*spr h1 h2 (pre++post)=ε at val e1
 refine ⟨ε,e1,fun x1 x2 x2p a b hU=>?_,fun x1 x2 x2p a b hU=>?_,fun x1 x2 y1 y2 x2p y2p a b hU hlt=>?_,fun x1 x2 y1 y2 x2p y2p e hU=>?_,hin.1,fun z=>?_⟩
 ·rw [val x1 x2 x2p a b]
  rcases gz s x1 x2 with z | z | z
  ·rw [z];omega
  ·rw [z] at hU;exact absurd hU (by decide)
  ·rw [z] at hU;exact absurd hU (by decide)
 ·rw [val x1 x2 x2p a b]
  rcases gz s x1 x2 with z | z | z
  ·exact absurd (show 0<au s x1 x2 by omega) hU
  ·rw [z];right;omega
  ·rw [z];left;omega
 ·have hU':au s x1 x2<=0:=Int.not_lt.mp hU
  have z:=gZ hs x2p y2p hlt hU'
  have a':l1*y2<y1*l2:=by
   refine lV x2p ?_
   have q1:=Int.mul_lt_mul_of_pos_right a y2p
   have q2:=Int.mul_lt_mul_of_pos_right hlt l2p
   have e2:l1*y2*x2=l1*x2*y2:=by grind
   have e3:x1*l2*y2=x1*y2*l2:=by grind
   have e4:y1*l2*x2=y1*x2*l2:=by grind
   omega
  rw [val y1 y2 y2p a' b,z];omega
 ·show 0<au s y1 y2
  rw [<- oW s x2p y2p e];exact hU
 ·have z':0<au s h1 h2:=z
  omega
def fV (f0:List Int):List Int:=if cf f0 1=0 then ag f0 else []
structure Nar1 (fs:List (List Int)) (s0:List Int) (l1 l2 h1 h2 x1 x2 y1 y2:Int) (kb:Nat):Prop where
 ends:EndsG 1774 x1 x2 y1 y2
 ux:0<au s0 x1 x2
 uy:au s0 y1 y2<=0
 lo:l1*x2<=x1*l2
 hi:y1*h2<=h1*y2
 wide:(y1*x2-x1*y2)*(8*al (prQ fs)*2^kb)<=1*(x2*y2)
def rD (C:Addr):Sp:=fun vs H Q _=>∃ (a p x y:Addr) (fs:List (List Int)) (f0 s0:List Int) (l1 l2 h1 h2 x1 x2 y1 y2:Int) (kb:Nat),vs=[.ref a,.ref p]/\H a=some (.lst ((prQ fs).map V.int))/\H p=some (.tup [.ref x,.ref y])/\RA C H x x1 x2/\RA C H y y1 y2/\Whl fs/\OneS fs f0 s0 l1 l2 h1 h2/\Nar1 fs s0 l1 l2 h1 h2 x1 x2 y1 y2 kb/\mkL H Q (fV f0)
theorem Eu {C f:Addr} {fd:FuncData} (F:Fun K "line_of" "line_of" kc f fd) (T:Txt K mg) (R:RCI K mg C) {f_Ratio:Addr} {fd_Ratio:FuncData} {ds_Ratio:List Value} (cE:KCal P w K mg base 2 C "Ratio" ["self","top","bottom"] (dm C) f_Ratio fd_Ratio ds_Ratio [.int 1]) {uA:Addr} {uc:FuncData} (vL:Cal P w K mg base 5 "times_floor" ["factor","ratio"] (oH C) uA uc) {nK:Addr} {nG:FuncData} (ot:MCal P w K mg base 2 C "against" ["self","other"] (mE C) nK nG) {iS:Addr} {iL:FuncData} (jq:Cal P w K mg base 2 "sign_at" ["row","ratio"] (jC C) iS iL):FnOk P w K mg base CX0 6 f fd ["whole","span"] (rD C):=by
 obtain ⟨bZ,bX,bV,cu,di,de⟩:=cE
 obtain ⟨qz,pK,pQ,qu⟩:=vL
 obtain ⟨mn,lE,lZ⟩:=ot
 obtain ⟨jk,iq,iA,jd⟩:=jq
 refine F.ok sc_line_of (fun vs H Q E h=>?_) (fun cdv A outer s H vs Q E hr h=>?_)
 ·obtain ⟨a,p,x,y,fs,f0,s0,l1,l2,h1,h2,x1,x2,y1,y2,kb,rfl,_⟩:=h
  rfl
 ·obtain ⟨a,p,x,y,fs,f0,s0,l1,l2,h1,h2,x1,x2,y1,y2,kb,rfl,hA,hp,hx,hy,hW,hO,hN,k⟩:=h
  refine ⟨_,(ah (ap (i:=2) sc_line_of.nd rfl (Or.inl rfl) (cN bX bZ (hr.mono) rfl bV cu .nil ai (aa (aq qz (hr.mono) rfl pK pQ qu .nil ai (aa (aI (cw (K:=K) rfl) (pv 0) (bU bT af) (fun _ _=>rfl)) (aa (aI (aX (K:=K) rfl) (pv 1) af (fun _ _=>rfl)) ac))) (aa (aI (cw (K:=K) rfl) (pv 0) (bU bT af) (fun _ _=>rfl)) ac))))
   (ah (aV (PW.pt (ie (aM cW (dq (pv 2) R.cl lE mn (hr.mono) lZ .nil ai (aa (aI (aX (K:=K) rfl) (pv 1) af (fun _ _=>rfl)) ac)) af (aH _)) (ic (aM cX (aq jk (hr.mono) rfl iq iA jd .nil ai (aa (pv 0) (aa (pv 2) ac))) af (aH _)))))
     (ao (aC (bz (aa (bU bT (aO (K:=K) rfl (pv 2) rfl)) (aa (aO (K:=K) rfl (pv 2) rfl) ac)))))
     aW)
   (ao (aC (bz ac))))),?_⟩
  have big:=sizeLine_eq
  have en:=hN.ends
  have hb:=hW.bits
  have hP:=hW.fam.pln
  have l7:=hW.l7
  have bl:=nh hb
  have lp:=hP.pos
  have B1:(1:Int)<=2^kb:=by have:=Int.pow_pos (n:=2) (m:=kb) (by decide);omega
  refine aD ⟨_,rfl,_,rfl,a,_,_,_,rfl,rfl,SqL.of hA,ni hP.ne,_,rfl,p,_,_,_,rfl,rfl,SqT.of hp,rfl,y,al (prQ fs),y1,y2,rfl,hy,en.h2p,bl.mono,en.bh1.mono,en.bh2.mono,fun H1 s1=>?_⟩
  have bm:Bits 2300 (al (prQ fs)*y1/y2):=Bits.of_le ((bl.mul en.bh1).mono (k:=2300) (by decide)) (Int.natAbs_ediv_le_natAbs _ _)
  have l0:al (prQ fs)≠0:=by omega
  have two:(fV f0=[-(rt (al (prQ fs)*y1/y2) (al (prQ fs))),rb (al (prQ fs)*y1/y2) (al (prQ fs))]/\x1*rb (al (prQ fs)*y1/y2) (al (prQ fs))<rt (al (prQ fs)*y1/y2) (al (prQ fs))*x2/\hv (rt (al (prQ fs)*y1/y2) (al (prQ fs))) (rb (al (prQ fs)*y1/y2) (al (prQ fs))) (prQ fs)=0)\/(fV f0=[]/\(x1*rb (al (prQ fs)*y1/y2) (al (prQ fs))<rt (al (prQ fs)*y1/y2) (al (prQ fs))*x2->hv (rt (al (prQ fs)*y1/y2) (al (prQ fs))) (rb (al (prQ fs)*y1/y2) (al (prQ fs))) (prQ fs)≠0)):=by
   obtain ⟨u,e,b,σ,rfl,rfl,hb1,hNS,hc⟩:=hO.cases
   rcases hc with ⟨rfl,rfl⟩ | ⟨hσ,he⟩
   ·left
    have e0:fV [u,0,b]=ag [u,0,b]:=if_pos rfl
    rw [e0]
    exact hO.line en.l2p en.h2p B1 hN.ux hN.uy en.lt hN.wide
   ·right
    refine ⟨if_neg (show ¬ e=0 by omega),fun hlt=>?_⟩
    have hpos:=dB (t:=al (prQ fs)*y1/y2) l0
    have hc:=fe (t:=al (prQ fs)*y1/y2) l0
    have hfl:al (prQ fs)*y1/y2*y2<=al (prQ fs)*y1:=Int.ediv_mul_le _ (by have:=en.h2p;omega)
    generalize rt (al (prQ fs)*y1/y2) (al (prQ fs))=m1 at *
    generalize rb (al (prQ fs)*y1/y2) (al (prQ fs))=m2 at *
    generalize al (prQ fs)*y1/y2=Z at *
    have my:m1*y2<=y1*m2:=by
     refine lX lp ?_
     have:=Int.mul_le_mul_of_nonneg_right hfl (Int.le_of_lt hpos)
     have e1:m1*y2*al (prQ fs)=Z*y2*m2:=by rw [Int.mul_right_comm,hc];grind
     have e2:y1*m2*al (prQ fs)=al (prQ fs)*y1*m2:=by grind
     omega
    refine hO.none rfl hNS he hpos ?_ ?_
    ·refine lV en.l2p ?_
     have q1:=Int.mul_le_mul_of_nonneg_right hN.lo (Int.le_of_lt hpos)
     have q2:=Int.mul_lt_mul_of_pos_right hlt hO.l2p
     have e1:l1*m2*x2=l1*x2*m2:=by grind
     have e2:x1*l2*m2=x1*m2*l2:=by grind
     have e3:m1*l2*x2=m1*x2*l2:=by grind
     omega
    ·refine lX en.h2p ?_
     have q1:=Int.mul_le_mul_of_nonneg_right hN.hi (Int.le_of_lt hpos)
     have q2:=Int.mul_le_mul_of_nonneg_right my (Int.le_of_lt hO.h2p)
     have e1:m1*h2*y2=m1*y2*h2:=by grind
     have e2:y1*m2*h2=y1*h2*m2:=by grind
     have e3:h1*m2*y2=h1*y2*m2:=by grind
     omega
  generalize al (prQ fs)*y1/y2=m at bm two ⊢
  refine ⟨_,rfl,_,rfl,a,_,_,_,rfl,rfl,SqL.of (s1 _ _ hA),ni hP.ne,dc l0 (bl.mono) fun r H2 s2 hr2 hR=>?_⟩
  have t2:=s1.trans s2
  obtain ⟨dr,hR'⟩:=id hR
  have sgl:∀ c d:Int,sg (c-d)>0↔d<c:=fun c d=>by
   unfold sg;split<;>(try split)<;>constructor<;>intro z<;>omega
  refine bK (dX ⟨_,rfl,r,dr,_,rfl,hR',dG _ _ gH.1 gH.2,_,rfl,p,_,_,_,rfl,rfl,SqT.of (t2 _ _ hp),rfl,r,x,_,_,x1,x2,rfl,hR,hx.same t2,(eV l0 bm).mono,(fc l0 bl).mono,en.bl1.mono,en.bl2.mono,_,_,rfl,rfl,_,rfl,aQ (fun h0=>?_) (fun h0=>?_)⟩)
  ·have h0':=(sgl _ _).mp h0
   refine ⟨_,rfl,_,rfl,a,r,prQ fs,_,_,⟨rfl,t2 _ _ hA,hR,by omega,hb.mono,(eV l0 bm).mono,(fc l0 bl).mono⟩,fun H3 s3=>⟨_,_,rfl,rfl,_,rfl,aQ (fun h3=>?_) (fun h3=>?_)⟩⟩
   ·have h3':sg (hv (rt m (al (prQ fs))) (rb m (al (prQ fs))) (prQ fs))=0:=h3
    rcases two with ⟨z1,_,_⟩ | ⟨_,z2⟩
    ·have hR3:=s3 _ _ hR'
     refine bh ⟨_,rfl,r,C,dr,_,_,rfl,hR3,R.cl,R.nT,cM _ _,_,rfl,_,rfl,r,C,dr,_,_,rfl,hR3,R.cl,R.nB,bQ _ _,by show 2<=sizeLine;omega,fun q hq=>?_⟩
     refine k q _ ((t2.trans s3).then_new hq) ((t2.trans s3).free hq) ?_
     rw [av,z1];rfl
    ·exact absurd ((rW _).mp h3') (z2 h0')
   ·rcases two with ⟨_,_,z3⟩ | ⟨z1,_⟩
    ·exact absurd ((rW _).mpr z3) h3
    ·exact bh ⟨Nat.zero_le _,fun q hq=>k q _ ((t2.trans s3).then_new hq) ((t2.trans s3).free hq) (by rw [av,z1];rfl)⟩
  ·rcases two with ⟨_,z2,_⟩ | ⟨z1,_⟩
   ·exact absurd ((sgl _ _).mpr z2) h0
   ·exact cQ (bh ⟨Nat.zero_le _,fun q hq=>k q _ (t2.then_new hq) (t2.free hq) (by rw [av,z1];rfl)⟩)
theorem xH {fs:List (List Int)} {l1 l2 h1 h2:Int} (hF:Fam fs) (l2p:0<l2) (h2p:0<h2) (lt:l1*h2<h1*l2) (h:bC (aL fs) l1 l2 h1 h2=1):∃ s ε,s∈aL fs/\0<au s l1 l2/\au s h1 h2<=0/\RootU (prQ fs) l1 l2 h1 h2 ε (fun t n=>0<au s t n):=by
 obtain ⟨pre,s,post,e,hin,hno⟩:=qm h
 obtain ⟨ε,hr⟩:=CT (c:=1) hF.q (by decide) e l2p h2p lt hin hno
 rw [show ad [1] (aS [1] (fs.map ag))=prQ fs from hF.one] at hr
 exact ⟨s,ε,by rw [e];simp,hin.1,hin.2,hr⟩
theorem xf {i j:Nat} {a b:List Int} {n:Nat} (ha:AllB i a) (hb:AllB j b):∀ m,Bits (i+j+m) (sm a b n m)
 | 0=>Bits.zero
 | m+1=>by
   rw [sm]
   refine (xf ha hb m).add ?_
   unfold tm
   split
   ·exact ((ha.cf m).mul (hb.cf _)).mono (by omega)
   ·exact Bits.zero
theorem io {i j k:Nat} {a b:List Int} (ha:AllB i a) (hb:AllB j b) (hk:i+j+a.length<=k):AllB k (ad a b):=AllB.of_cf fun n=>by
 rw [aP];exact (xf ha hb a.length).mono hk
def rK:Sp:=fun vs H Q _=>∃ (a b:Addr) (xs ys:List Int) (n:Nat),vs=[.ref b,.ref a]/\H a=some (.lst (xs.map V.int))/\H b=some (.lst (ys.map V.int))/\ys≠[]/\AllB n xs/\AllB n ys/\(xs.length+2)*(n+1)<=1000000/\ys.length<=1000000/\∀ H',Same H H'->Q (.bl (decide (aR xs ys=[]))) H'
theorem EA {f:Addr} {fd:FuncData} (F:Fun K "divides" "divides" kh f fd) (T:Txt K mg) {iV:Addr} {iP:FuncData} (ju:Cal P w K mg base 2 "divided" ["first","second"] jE iV iP):FnOk P w K mg base CX0 3 f fd ["divisor","row"] rK:=by
 obtain ⟨jm,iu,iC,jf⟩:=ju
 refine F.ok Cs (fun vs H Q E h=>?_) (fun cdv A outer s H vs Q E hr h=>?_)
 ·obtain ⟨a,b,xs,ys,n,rfl,_⟩:=h
  rfl
 ·obtain ⟨a,b,xs,ys,nb,rfl,hA,hB,hy,bx,by',hsz,hyn,k⟩:=h
  have hu:=hr.units
  refine ⟨_,(ao (aC (dZ (ln (K:=K) rfl hu) (aI (aX (K:=K) rfl) (aq jm (hr.mono) rfl iu iC jf .nil ai (aa (pv 1) (aa (pv 0) ac))) af (fun _ _=>rfl)) (bz ac) (aH _)))),?_⟩
  refine bh ⟨_,rfl,_,rfl,a,b,xs,ys,nb,rfl,hA,hB,hy,bx,by',hsz,hyn,fun t q r H1 sm1 ht hq hr' _ _ _ et eq er=>?_⟩
  refine ⟨t,_,_,_,rfl,rfl,SqT.of et,rfl,Nat.zero_le _,fun p hp=>?_⟩
  exact ⟨r,p,_,[],rfl,rfl,SqL.of (by rw [upd_ne (aZ er hp)];exact er),SqL.of av,k _ (sm1.then_new hp)⟩
theorem g6 {f:List Int} (h:FacG f):AllB 62 (ag f)/\(ag f).length<=3:=by
 obtain ⟨u,e,b,rfl,h1,h2,h3,h4,h5,h6,_⟩:=h
 have sm:∀ {x:Int} {n:Nat},x.natAbs<n->n<=2^62->Bits 62 x:=fun h1 h2=>Nat.lt_of_lt_of_le h1 h2
 have hr:AllB 62 (aK u e b)/\(aK u e b).length<=3:=by
  unfold aK
  split
  ·refine ⟨fun x hx=>?_,by show 2<=3;decide⟩
   rcases List.mem_cons.mp hx with rfl | hx
   ·exact sm (n:=1000000001) (by omega) (by decide)
   ·rw [List.mem_singleton.mp hx];exact sm (n:=1001) (by omega) (by decide)
  ·refine ⟨fun x hx=>?_,Nat.le_refl _⟩
   have u1:u.natAbs<=1000000000:=by omega
   have uu:(u*u).natAbs<=1000000000*1000000000:=by rw [Int.natAbs_mul];exact Nat.mul_le_mul u1 u1
   have bu:(b*u).natAbs<=1000*1000000000:=by rw [Int.natAbs_mul];exact Nat.mul_le_mul (by omega) u1
   have bb:(b*b).natAbs<=1000*1000:=by rw [Int.natAbs_mul];exact Nat.mul_le_mul (by omega) (by omega)
   have e2 : -2*b*u = -2*(b*u):=Int.mul_assoc _ _ _
   rw [e2] at hx
   generalize u*u=A at *
   generalize b*u=B at *
   generalize b*b=D at *
   rcases List.mem_cons.mp hx with rfl | hx
   ·exact sm (n:=2000000000000000000) (by omega) (by decide)
   rcases List.mem_cons.mp hx with rfl | hx
   ·exact sm (n:=2000000000001) (by omega) (by decide)
   ·rw [List.mem_singleton.mp hx];exact sm (n:=1000001) (by omega) (by decide)
 exact ⟨pe hr.1,by show (aB _).length<=3;rw [RM.plain_len];exact hr.2⟩
theorem Ba {gs:List (List Int)} (h:Fam gs) (hl:gs.length<=2):AllB 250 (prQ gs):=by
 have one:AllB 1 ([1]:List Int):=fun x hx=>by rw [List.mem_singleton.mp hx];exact b1k (by decide)
 rw [h.prd]
 match gs,hl with
 | [],_=>exact one.mono
 | [f],_ =>
   obtain ⟨b,l⟩:=g6 (h.fac f (by simp))
   show AllB 250 (ad (ag f) [1])
   rw [cO];exact b.mono
 | [f,f'],_ =>
   obtain ⟨b,l⟩:=g6 (h.fac f (by simp))
   obtain ⟨b',l'⟩:=g6 (h.fac f' (by simp))
   show AllB 250 (ad (ag f) (ad (ag f') [1]))
   rw [cO]
   exact (io b b' (Nat.le_refl _)).mono (by omega)
theorem BO {fs:List (List Int)} {u e b σ l1 l2 h1 h2 x1 x2 y1 y2 p1 p2 q1 q2 t1 t2 m1 m2:Int} {kb:Nat} (hO:OneS fs [u,e,b] [u,e,b,σ] l1 l2 h1 h2) (hW:Whl fs) (he:0<e) (hσ:σ=1\/σ = -1) (hB:isB ((prQ fs).take ((prQ fs).length-1)) (al (prQ fs)).natAbs kb) (N1:Nar1 fs [u,e,b,σ] l1 l2 h1 h2 x1 x2 y1 y2 kb)
 (E2:EndsG 4074 p1 p2 q1 q2) (up:0<au [u,e,b,-σ] p1 p2) (uq:au [u,e,b,-σ] q1 q2<=0) (wide:(q1*p2-p1*q2)*(8*al (prQ fs)*2^kb)<=1*(p2*q2)) (hS:SqR x1 x2 y1 y2 p1 p2 q1 q2 t1 t2 m1 m2):aB [al (prQ fs)*m1/m2,-(al (prQ fs)*t1/t2),al (prQ fs)]=ag [u,e,b]:=by
 have hF:=hW.fam
 have hL:=hF.pln.pos
 have B1:(1:Int)<=2^kb:=by have:=Int.pow_pos (n:=2) (m:=kb) (by decide);omega
 have eB:((2^kb:Nat):Int)=(2:Int)^kb:=by rw [Int.natCast_pow];rfl
 have mem0:[u,e,b,σ]∈aL fs:=List.mem_flatMap.mpr ⟨_,hO.mem,hO.sp⟩
 have mem1:[u,e,b,-σ]∈aL fs:=List.mem_flatMap.mpr ⟨_,hO.mem,by rw [mB he];rcases hσ with rfl | rfl<;>simp⟩
 have bd:∀ s∈aL fs,au s (2^kb) 1<0/\0<au s (-(2^kb)) 1:=fun s hs=>by
  have:=wU hF.fac hF.nd (B:=2^kb) (Nat.pow_pos (by decide)) hB.1 hs
  rw [eB] at this
  exact this
 have en:=N1.ends
 obtain ⟨a1,a2,a3,a4⟩:=yr (dA hF.q mem0) B1 (show 1<=al (prQ fs) by omega) (bd _ mem0) en.l2p en.h2p N1.ux N1.uy en.lt N1.wide
 obtain ⟨c1,c2,c3,c4⟩:=yr (dA hF.q mem1) B1 (show 1<=al (prQ fs) by omega) (bd _ mem1) E2.l2p E2.h2p up uq E2.lt wide
 have mx:=hS.mx
 have i1:=mx.c1
 have i2:=mx.c2
 have i3:=mx.c3
 have i4:=mx.c4
 have im:=mx.is
 have is:=hS.sum
 unfold vl at i1 i2 i3 i4 im is
 dsimp only at i1 i2 i3 i4 im is
 rcases hσ with rfl | rfl
 ·exact wN hF hO.mem he rfl B1 (qG en.l2p en.h2p E2.l2p E2.h2p N1.ux N1.uy up uq) a3 c3 a4 c4 a1 a2 c1 c2 i1 i2 i3 i4 im hS.t2p mx.m2p is rfl
 ·skip
  exact wN hF hO.mem he rfl B1 (qG E2.l2p E2.h2p en.l2p en.h2p up uq N1.ux N1.uy) c3 a3 c4 a4 c1 c2 a1 a2 (by rw [Rat.mul_comm];exact i1) (by rw [Rat.mul_comm];exact i3) (by rw [Rat.mul_comm];exact i2) (by rw [Rat.mul_comm];exact i4) (by
   rcases im with z | z | z | z
   ·exact .inl (by rw [z,Rat.mul_comm])
   ·exact .inr (.inr (.inl (by rw [z,Rat.mul_comm])))
   ·exact .inr (.inl (by rw [z,Rat.mul_comm]))
   ·exact .inr (.inr (.inr (by rw [z,Rat.mul_comm])))) hS.t2p mx.m2p (by rw [is,Rat.add_comm]) rfl
theorem JB {fs:List (List Int)} {f0:List Int} (hF:Fam fs) (hm:f0∈fs):aR (prQ fs) (ag f0)=[]:=by
 obtain ⟨pre,post,e⟩:=List.append_of_mem (List.mem_map_of_mem (f:=ag) hm)
 have hp:=hF.pri
 have hP:=hF.pln
 have e0:=hF.prd
 rw [e] at hp e0
 have hq:Pln (RM.prd (pre++post)):=ii _ fun s hs=>(hp s (by simp at hs ⊢;rcases hs with z | z<;>simp [z])).pln
 have hs:Pln (ag f0):=(hp _ (by simp)).pln
 rw [mR] at e0
 exact (ya hP.tr hP.ne hs hq (by rw [hP.plain,e0])).1
def rB (C:Addr):Sp:=fun vs H Q _=>∃ (a l h:Addr) (fs:List (List Int)) (f0 s0:List Int) (l1 l2 h1 h2:Int),vs=[.ref a,.ref l,.ref h]/\H a=some (.lst ((prQ fs).map V.int))/\RA C H l l1 l2/\RA C H h h1 h2/\Whl fs/\OneS fs f0 s0 l1 l2 h1 h2/\bC (aL fs) l1 l2 h1 h2=1/\EndsG 250 l1 l2 h1 h2/\mkL H Q (ag f0)
theorem Ev {C f:Addr} {fd:FuncData} (F:Fun K "least" "least" kd f fd) (T:Txt K mg) {iU:Addr} {iO:FuncData} (jt:Cal P w K mg base 34 "plain" ["row"] jD iU iO) {ge:Addr} {gd:FuncData} (gt:Cal P w K mg base 1 "degree" ["row"] gY ge gd) {Jg:Addr} {Io:FuncData} (LX:Cal P w K mg base 4 "fine_width" ["whole"] (rH C) Jg Io) {uF:Addr} {uh:FuncData} (vQ:Cal P w K mg base 6 "narrowed" ["row","low","high","width"] (oM C) uF uh) {Jc:Addr} {Ij:FuncData} (LT:Cal P w K mg base 6 "line_of" ["whole","span"] (rD C) Jc Ij) {Jj:Addr} {Iu:FuncData} (L1:Cal P w K mg base 36 "cells" ["row"] (rM C) Jj Iu) {IQ:Addr} {HU:FuncData} (LE:Cal P w K mg base 35 "square_of" ["whole","span","other"] (qT C) IQ HU) {Jh:Addr} {Iq:FuncData} (LY:Cal P w K mg base 3 "divides" ["divisor","row"] rK Jh Iq) {uG:Addr} {ui:FuncData} (vR:Cal P w K mg base 4 "count" ["row","low","high"] (oS C) uG ui) {nI:Addr} {nE:FuncData} (oo:Cal P w K mg base 35 "row_of" ["polynomial"] mC nI nE):FnOk P w K mg base CX0 37 f fd ["row","low","high"] (rB C):=by
 obtain ⟨gq,fU,fZ,gm⟩:=jt
 obtain ⟨dS,dJ,dO,dR⟩:=gt
 obtain ⟨Lj,Gf,G4,Kn⟩:=LX
 obtain ⟨qA,pL,pR,qv⟩:=vQ
 obtain ⟨Lf,Gb,G0,Kj⟩:=LT
 obtain ⟨Lm,Gi,G7,Kq⟩:=L1
 obtain ⟨KR,FN,GM,J5⟩:=LE
 obtain ⟨Lk,Gg,G5,Ko⟩:=LY
 obtain ⟨vF,tu,tM,vk⟩:=vR
 obtain ⟨oi,m8,nk,nZ⟩:=oo
 refine F.ok sc_least (fun vs H Q E h=>?_) (fun cdv A outer s H vs Q E hr h=>?_)
 ·obtain ⟨a,l,h,fs,f0,s0,l1,l2,h1,h2,rfl,_⟩:=h
  rfl
 ·obtain ⟨a,l,h,fs,f0,s0,l1,l2,h1,h2,rfl,hA,hl,hh,hW,hO,hcn,en,k⟩:=h
  have hu:=hr.units
  have big:=sizeLine_eq
  have hF:=hW.fam
  have hP:=hF.pln
  have l7:=hW.l7
  have l2':=hW.l2
  have hml:((prQ fs).map V.int).length=(prQ fs).length:=List.length_map _
  have pf0:=fv (hF.fac f0 hO.mem)
  have hL:=hP.pos
  refine ⟨_,(ah (ap (i:=3) sc_least.nd rfl (Or.inl rfl) (aq gq (hr.mono) rfl fU fZ gm .nil ai (aa (pv 0) ac)))
   (ah (aV (aM du (aq dS (hr.mono) rfl dJ dO dR .nil ai (aa (pv 3) ac)) af (aH _))
     (ao (aC (pv 3)))
     aW)
   (ah (ap (i:=4) sc_least.nd rfl (Or.inl rfl) (aq Lj (hr.mono) rfl Gf G4 Kn .nil ai (aa (pv 3) ac)))
   (ah (ap (i:=5) sc_least.nd rfl (Or.inl rfl) (aq qA (hr.mono) rfl pL pR qv .nil ai (aa (pv 3) (aa (pv 1) (aa (pv 2) (aa (pv 4) ac))))))
   (ah (ap (i:=6) sc_least.nd rfl (Or.inl rfl) (aq Lf (hr.mono) rfl Gb G0 Kj .nil ai (aa (pv 3) (aa (pv 5) ac))))
   (ah (aV (aM (ik (K:=K) rfl hu) (pv 6) (bz ac) (aH _))
     (ao (aC (pv 6)))
     aW)
   (ah (aV (aM cX (aq dS (hr.mono) rfl dJ dO dR .nil ai (aa (pv 3) ac)) af (aH _))
     (ao (aC (pv 3)))
     aW)
   (ah (cR PassesOwn.never rfl (dY (K:=K) rfl (aq Lm (hr.mono) rfl Gi G7 Kq .nil ai (aa (pv 3) ac))) (aT (i:=7) sc_least.nd rfl (Or.inl rfl))
     (ah (ap (i:=8) sc_least.nd rfl (Or.inl rfl) (aq KR (hr.mono) rfl FN GM J5 .nil ai (aa (pv 3) (aa (pv 5) (aa (aq qA (hr.mono) rfl pL pR qv .nil ai (aa (pv 3) (aa (aI (aX (K:=K) rfl) (pv 7) af (fun _ _=>rfl)) (aa (aI (aX (K:=K) rfl) (pv 7) af (fun _ _=>rfl)) (aa (pv 4) ac))))) ac)))))
       (ao (aV (PW.pt (ie (eu (aq Lk (hr.mono) rfl Gg G5 Ko .nil ai (aa (pv 8) (aa (pv 3) ac)))) (ic (aM cX (aq vF (hr.mono) rfl tu tM vk .nil ai (aa (aq oi (hr.mono) rfl m8 nk nZ .nil ai (aa (pv 8) ac)) (aa (pv 1) (aa (pv 2) ac)))) af (aH _)))))
         (ao (aC (pv 8)))
         aW))))
   (ao (aC (pv 3))))))))))),?_⟩
  refine aD ⟨_,rfl,a,prQ fs,rfl,hA,hP.tr,by omega,fun p H1 s1 hp e1=>?_⟩
  rw [hP.plain] at e1
  refine bK ⟨_,rfl,p,_,rfl,e1,_,_,rfl,rfl,_,rfl,aQ (fun h0=>?_) (fun h0=>?_)⟩
  ·have h0':((prQ fs).map V.int).length-(1:Int)<2:=h0
   rw [hml] at h0'
   have e:=v5 hF hO.mem (by have:=pf0.two;omega)
   rw [e] at e1
   exact ⟨_,rfl,k p H1 s1 hp e1⟩
  refine aD ⟨_,rfl,p,fs,rfl,e1,hW,fun wd H2 kb hk hB s2 hwd hWd hD bD=>?_⟩
  have t2:=s1.trans s2
  have e2:=s2 _ _ e1
  obtain ⟨sx,ε,hsx,hx1,hx2,ru⟩:=xH hF en.l2p en.h2p en.lt hcn
  obtain rfl:=hO.only sx hsx hx1 hx2
  refine aD ⟨_,rfl,_,rfl,_,rfl,_,rfl,p,l,h,wd,prQ fs,l1,l2,h1,h2,1,8*al (prQ fs)*2^kb,250,520,ε,_,rfl,e2,hP.tr,hP.ne,by omega,hW.bits.mono,hl.same t2,hh.same t2,hWd,en,by decide,hD,b1k (by decide),bD,by decide,by decide,by decide,ru,fun ps x y H3 n pl x1 x2 y1 y2 s3 hps e3 hx hy nar=>?_⟩
  have t3:=t2.trans s3
  have ep3:=s3 _ _ e2
  have N1:Nar1 fs sx l1 l2 h1 h2 x1 x2 y1 y2 kb:=⟨nar.ends,nar.ux,Int.not_lt.mp nar.uy,nar.lo,nar.hi,nar.wide⟩
  refine aD ⟨_,rfl,_,rfl,p,ps,x,y,fs,f0,sx,l1,l2,h1,h2,x1,x2,y1,y2,kb,rfl,ep3,e3,hx,hy,hW,hO,N1,fun pl' H4 s4 hpl e4=>?_⟩
  refine bK ⟨_,rfl,Nat.zero_le _,fun p0 hp0=>?_⟩
  have s5:=Same.upd_new (o:=.lst []) hp0
  obtain ⟨u,e,b,σ,rfl,rfl,hb1,hNS,hc⟩:=hO.cases
  have hne:ag [u,e,b]≠[]:=pf0.pln.ne
  refine ⟨pl',p0,fV [u,e,b],[],rfl,rfl,SqL.of (s5 _ _ e4),SqL.of av,_,rfl,cZ (fun h3=>?_) (fun h3=>?_)⟩
  ·have h3':fV [u,e,b]≠[]:=h3
   have e0:fV [u,e,b]=ag [u,e,b]:=by
    by_cases z:e=0
    ·exact if_pos z
    ·exact absurd (if_neg z) h3'
   rw [e0] at e4
   exact ⟨_,rfl,k pl' _ (t3.trans (s4.trans s5)) (t3.free hpl) (s5 _ _ e4)⟩
  have h3':fV [u,e,b]=[]:=h3
  have he:0<e:=by
   rcases hc with ⟨_,rfl⟩ | ⟨_,he⟩
   ·exact absurd ((if_pos rfl:fV [u,0,b]=ag [u,0,b]).symm.trans h3') hne
   ·exact he
  have hσ:σ=1\/σ = -1:=by
   rcases hc with ⟨z,_⟩ | ⟨z,_⟩
   ·exact .inl z
   ·exact z
  have hl3:(ag [u,e,b]).length=3:=by
   obtain ⟨g,A0,A1,A2,_,eS,_⟩:=rT (u:=u) hb1 (show e≠0 by omega)
   rw [eS];rfl
  generalize upd H4 p0 (.lst [])=H5 at s5 ⊢
  have u5:=s3.trans (s4.trans s5)
  have ep5:=u5 _ _ e2
  refine bK ⟨_,rfl,p,_,rfl,ep5,_,_,rfl,rfl,_,rfl,aQ (fun h0=>?_) (fun _=>?_)⟩
  ·have h0':(((prQ fs).map V.int).length:Int)-1=2:=h0
   rw [hml] at h0'
   have eW:=v5 hF hO.mem (by omega)
   rw [eW] at ep5
   exact ⟨_,rfl,k p H5 (t2.trans u5) hp ep5⟩
  refine ⟨_,rfl,p,fs,rfl,ep5,hW,fun kb' pc ys H6 hk' hB' s6 hpc ec hys hcov hyl=>?_⟩
  obtain rfl:=zg hB hB'
  have t5:=t2.trans u5
  have u6:=u5.trans s6
  have hsp1:[u,e,b,-σ]∈aL fs:=List.mem_flatMap.mpr ⟨_,hO.mem,by rw [mB he];rcases hσ with rfl | rfl<;>simp⟩
  have hql:(qs ys).length=ys.length:=List.length_map _
  refine ⟨pc,rfl,⟨_,SqL.of ec⟩,nC (K:=K) (a:=pc) (xs:=qs ys) (fun i σ' H'=>∃ (z7 z8:Option V),σ'=[some (.ref a),some (.ref l),some (.ref h),some (.ref p),some (.ref wd),some (.ref ps),some (.ref pl'),z7,z8]/\Same H6 H'/\∀ (j:Nat) (c:Cel),j<i->ys[j]?=some c->¬ c.inn [u,e,b,-σ]) ⟨none,none,rfl,Same.refl _,fun j c hj=>absurd hj (Nat.not_lt_zero _)⟩ ?_ ?_ ?_⟩
  ·rintro i σ' H' _ ⟨z7,z8,rfl,sm,_⟩
   exact SqL.of (sm _ _ ec)
  ·rintro i z σ' H' hi ⟨z7,z8,rfl,sm,hno⟩
   have hil:i<ys.length:=by
    apply Classical.byContradiction
    intro hn
    rw [List.getElem?_eq_none_iff.mpr (by rw [hql];omega)] at hi
    cases hi
   have ey:ys[i]?=some ys[i]:=List.getElem?_eq_getElem hil
   have hz:z=V.ref ys[i].q:=by
    unfold qs at hi
    rw [List.getElem?_map,ey] at hi
    exact (Option.some.inj hi).symm
   subst hz
   generalize hc0:ys[i]=c at *
   have hcf:=(hys c (by rw [<- hc0];exact List.getElem_mem hil)).nl (NL.of sm)
   have dE:=JA hcf.dy hk hcf.dd
   obtain ⟨fx,sx',hO2⟩:=DW hF dE.l2p dE.h2p dE.lt hcf.one
   obtain ⟨sc,εc,hsc,hcx1,hcx2,ruc⟩:=xH hF dE.l2p dE.h2p dE.lt hcf.one
   have esc:=hO2.only sc hsc hcx1 hcx2
   have u7:=u6.trans sm
   have t7:=t2.trans u7
   refine aD ⟨_,rfl,_,rfl,_,rfl,_,rfl,c.q,_,_,_,rfl,rfl,SqT.of hcf.tup,rfl,_,rfl,c.q,_,_,_,rfl,rfl,SqT.of hcf.tup,rfl,_,rfl,p,c.lo,c.hi,wd,prQ fs,c.l1,c.l2,c.h1,c.h2,1,8*al (prQ fs)*2^kb,710,520,εc,_,rfl,u7 _ _ e2,hP.tr,hP.ne,by omega,hW.bits.mono,hcf.lo,hcf.hi,hWd.same u7,dE,by decide,hD,b1k (by decide),bD,by decide,by decide,by decide,ruc,fun ps' x' y' H7 n' pl7 p1 p2 q1 q2 s7 hps' e7 hx' hy' nar'=>?_⟩
   have u8:=u7.trans s7
   have v8:=(s4.trans s5).trans (s6.trans (sm.trans s7))
   have tw:TwoS C H7 ps ps' x y x' y' x1 x2 y1 y2 p1 p2 q1 q2:=⟨v8 _ _ e3,e7,hx.same v8,hy.same v8,hx',hy',nar.ends,nar'.ends⟩
   refine ⟨p,ps,ps',x,y,x',y',prQ fs,x1,x2,y1,y2,p1,p2,q1,q2,rfl,u8 _ _ e2,hP,hW.bits,tw,fun t1 t2' m1 m2 hS psq H8 s8 hpsq e8=>?_⟩
   have bl:=nh hW.bits
   have trE:Tr [al (prQ fs)*m1/m2,-(al (prQ fs)*t1/t2'),al (prQ fs)]:=(tr_snoc (r:=[al (prQ fs)*m1/m2,-(al (prQ fs)*t1/t2')])).mpr (by omega)
   have hPE:=eG trE (by simp)
   have hlE:(aB [al (prQ fs)*m1/m2,-(al (prQ fs)*t1/t2'),al (prQ fs)]).length=3:=RM.plain_len _
   have bE:AllB 6300 (aB [al (prQ fs)*m1/m2,-(al (prQ fs)*t1/t2'),al (prQ fs)]):=by
    refine pe fun v hv=>?_
    rcases List.mem_cons.mp hv with rfl | hv
    ·exact Bits.of_le ((bl.mul hS.mx.b1).mono (k:=6300) (by decide)) (Int.natAbs_ediv_le_natAbs _ _)
    rcases List.mem_cons.mp hv with rfl | hv
    ·exact (Bits.of_le ((bl.mul hS.bt).mono (k:=6300) (by decide)) (Int.natAbs_ediv_le_natAbs _ _)).neg
    ·rw [List.mem_singleton.mp hv];exact bl.mono
   have fell:c.inn [u,e,b,-σ]->aB [al (prQ fs)*m1/m2,-(al (prQ fs)*t1/t2'),al (prQ fs)]=ag [u,e,b]:=fun hin=>by
    have ex:=hO2.only _ hsp1 hin.1 hin.2
    have e9:sc=[u,e,b,-σ]:=by rw [esc,ex]
    have ux:=nar'.ux
    have uy:=Int.not_lt.mp nar'.uy
    rw [e9] at ux uy
    exact BO hO hW he hσ hB N1 nar'.ends ux uy nar'.wide hS
   generalize aB [al (prQ fs)*m1/m2,-(al (prQ fs)*t1/t2'),al (prQ fs)]=Es at e8 hPE hlE bE fell
   have u9:=u8.trans s8
   have t9:=t2.trans u9
   have next:∀ H',Same H8 H'->¬ c.inn [u,e,b,-σ]->∃ (z7 z8:Option V),[some (V.ref a),some (V.ref l),some (V.ref h),some (V.ref p),some (V.ref wd),some (V.ref ps),some (V.ref pl'),some (V.ref c.q),some (V.ref psq)]=[some (V.ref a),some (V.ref l),some (V.ref h),some (V.ref p),some (V.ref wd),some (V.ref ps),some (V.ref pl'),z7,z8]/\Same H6 H'/\∀ (j:Nat) (c:Cel),j<i+1->ys[j]?=some c->¬ c.inn [u,e,b,-σ]:=fun H' s' hn=>⟨_,_,rfl,sm.trans (s7.trans (s8.trans s')),fun j c' hj ej=>by
    rcases Nat.lt_or_eq_of_le (Nat.lt_succ_iff.mp hj) with v | v
    ·exact hno j c' v ej
    ·subst v
     rw [ey,<- hc0] at ej
     rw [<- Option.some.inj ej,hc0];exact hn⟩
   refine dX ⟨_,rfl,_,rfl,p,psq,prQ fs,Es,6300,rfl,u9 _ _ e2,e8,hPE.ne,hW.bits.mono,bE,by have:((prQ fs).length+2)*(6300+1)<=9*6301:=Nat.mul_le_mul_right _ (by omega);omega,by omega,fun H9 s9=>?_⟩
   refine ⟨_,rfl,aQ (fun hd=>?_) (fun hd=>?_)⟩
   ·have hd':aR (prQ fs) Es=[]:=hd
    obtain ⟨gs,hG,hgl,hEg,hone,hfel⟩:∃ gs,Fam gs/\gs.length<=2/\Es=prQ gs/\(bC (aL gs) l1 l2 h1 h2=1->Es=ag [u,e,b])/\(c.inn [u,e,b,-σ]->bC (aL gs) l1 l2 h1 h2=1):=by
     by_cases hin:c.inn [u,e,b,-σ]
     ·have hG:=hF.single hO.mem
      exact ⟨[[u,e,b]],hG,by simp,by rw [sv hG];exact fell hin,fun _=>fell hin,fun _=>hO.cnt⟩
     ·obtain ⟨gs,g1,_,g3,g4,g5⟩:=hO.sq hl3 hPE hlE (uQ hPE.ne hPE.tr hd')
      exact ⟨gs,g1,g3,g4,g5,fun z=>absurd z hin⟩
    have bG:=Ba hG hgl
    obtain ⟨rn,rx,rl⟩:=sd hG (by rw [<- hEg];omega) bG
    rw [<- hEg] at rn bG
    refine ⟨_,rfl,psq,Es,9,rfl,s9 _ _ e8,hPE.tr,bE.mono,by omega,by decide,rn,fun lr rs H10 s10 hlr hnew el hR=>?_⟩
    have t10:=(t9.trans s9).trans s10
    have hR':RwH H10 rs (cT gs):=by unfold cT;rw [<- hEg];exact hR
    refine ⟨_,rfl,_,rfl,lr,l,h,rs,cT gs,l1,l2,h1,h2,rfl,el,hR',hl.same t10,hh.same t10,en.bl1.mono,en.bl2.mono,en.bh1.mono,en.bh2.mono,rx,rl,fun H11 s11=>⟨_,_,rfl,rfl,_,rfl,aQ (fun h4=>?_) (fun h4=>?_)⟩⟩
    ·have h4':((chS (sgs l1 l2 (cT gs))).1:Int)-(chS (sgs h1 h2 (cT gs))).1=1:=h4
     rw [o3 hG (by rw [<- hEg];omega) en.l2p en.h2p en.lt] at h4'
     rw [hone h4'] at e8
     have w11:=s9.trans (s10.trans s11)
     refine bh ⟨_,rfl,?_⟩
     exact k psq H11 (t9.trans w11) ((t2.trans u8).free hpsq) (w11 _ _ e8)
    ·have h4':¬ ((chS (sgs l1 l2 (cT gs))).1:Int)-(chS (sgs h1 h2 (cT gs))).1=1:=h4
     rw [o3 hG (by rw [<- hEg];omega) en.l2p en.h2p en.lt] at h4'
     exact next _ (s9.trans (s10.trans s11)) fun z=>h4' (hfel z)
   ·have hd':¬ aR (prQ fs) Es=[]:=hd
    refine cQ (next _ s9 fun z=>hd' ?_)
    rw [fell z];exact JB hF hO.mem
  ·rintro σ' H' ⟨z7,z8,rfl,sm,hno⟩
   obtain ⟨c,hc1,hc2⟩:=hcov _ hsp1
   obtain ⟨j,hj,ej⟩:=List.mem_iff_getElem.mp hc1
   exact absurd hc2 (hno j c (by rw [hql];exact hj) (by rw [<- ej];exact List.getElem?_eq_getElem hj))
structure OneW (fs:List (List Int)) (f0 s0:List Int) (l1 l2 h1 h2:Int):Prop where
 whl:Whl fs
 one:OneS fs f0 s0 l1 l2 h1 h2
 cnt:bC (aL fs) l1 l2 h1 h2=1
 en:EndsG 250 l1 l2 h1 h2
def rk (C CN:Addr):Sp:=fun vs H Q _=>∃ (a l h:Addr) (fs:List (List Int)) (f0 s0:List Int) (l1 l2 h1 h2:Int),vs=[.ref a,.ref l,.ref h]/\H a=some (.lst ((prQ fs).map V.int))/\RA C H l l1 l2/\RA C H h h1 h2/\OneW fs f0 s0 l1 l2 h1 h2/\∀ (x q:Addr) (H':Hp),Same H H'->H x=none->NA CN H' x q l h->H' q=some (.lst ((ag f0).map V.int))->H q=none->Q (.ref x) H'
theorem Ek {C CN f:Addr} {fd:FuncData} (F:Fun K "number_in" "number_in" j3 f fd) (T:Txt K mg) (R:RCI K mg C) {Jd:Addr} {Ik:FuncData} (LU:Cal P w K mg base 37 "least" ["row","low","high"] (rB C) Jd Ik) {iS:Addr} {iL:FuncData} (jq:Cal P w K mg base 2 "sign_at" ["row","ratio"] (jC C) iS iL) {uF:Addr} {uh:FuncData} (vQ:Cal P w K mg base 6 "narrowed" ["row","low","high","width"] (oM C) uF uh) {uO:Addr} {uv:FuncData} (v3:MCal P w K mg base 4 C "minus" ["self","other"] (oN C) uO uv) {iW:Addr} {iQ:FuncData} (jv:MCal P w K mg base 4 C "times" ["self","other"] (jA C) iW iQ) {f_Ratio:Addr} {fd_Ratio:FuncData} {ds_Ratio:List Value} (cE:KCal P w K mg base 2 C "Ratio" ["self","top","bottom"] (dm C) f_Ratio fd_Ratio ds_Ratio [.int 1]) {f_Number:Addr} {fd_Number:FuncData} {ds_Number:List Value} (Mh:KCal P w K mg base 1 CN "Number" ["self","row","low","high"] (oQ CN) f_Number fd_Number ds_Number []):FnOk P w K mg base CX0 38 f fd ["simple","low","high"] (rk C CN):=by
 obtain ⟨Lg,Gc,G1,Kk⟩:=LU
 obtain ⟨jk,iq,iA,jd⟩:=jq
 obtain ⟨qA,pL,pR,qv⟩:=vQ
 obtain ⟨vI,sY,vt⟩:=v3
 obtain ⟨fE,fj,fC⟩:=jv
 obtain ⟨bZ,bX,bV,cu,di,de⟩:=cE
 obtain ⟨Lx,KL,Gq,Ky,Mq,Mo⟩:=Mh
 refine F.ok sc_number_in (fun vs H Q E h=>?_) (fun cdv A outer s H vs Q E hr h=>?_)
 ·obtain ⟨a,l,h,fs,f0,s0,l1,l2,h1,h2,rfl,_⟩:=h
  rfl
 ·obtain ⟨a,l,h,fs,f0,s0,l1,l2,h1,h2,rfl,hA,hl,hh,hN,k⟩:=h
  refine ⟨_,(ah (ap (i:=3) sc_number_in.nd rfl (Or.inl rfl) (aq Lg (hr.mono) rfl Gc G1 Kk .nil ai (aa (pv 0) (aa (pv 1) (aa (pv 2) ac)))))
   (ah (ap (i:=4) sc_number_in.nd rfl (Or.inl rfl) (cU (aa (pv 1) (aa (pv 2) ac))))
   (ah (fN PassesOwn.never (aM cX (aq jk (hr.mono) rfl iq iA jd .nil ai (aa (pv 3) (aa (aI (aX (K:=K) rfl) (pv 4) af (fun _ _=>rfl)) ac))) af (aH _))
     (ah (ap (i:=5) sc_number_in.nd rfl (Or.inl rfl) (dq (dq (aI (aX (K:=K) rfl) (pv 4) af (fun _ _=>rfl)) R.cl sY vI (hr.mono) vt .nil ai (aa (aI (aX (K:=K) rfl) (pv 4) af (fun _ _=>rfl)) ac)) R.cl fj fE (hr.mono) fC .nil ai (aa (cN bX bZ (hr.mono) rfl bV cu .nil ai (aa af (aa af ac))) ac)))
       (ao (ap (i:=4) sc_number_in.nd rfl (Or.inl rfl) (aq qA (hr.mono) rfl pL pR qv .nil ai (aa (pv 3) (aa (aI (aX (K:=K) rfl) (pv 4) af (fun _ _=>rfl)) (aa (aI (aX (K:=K) rfl) (pv 4) af (fun _ _=>rfl)) (aa (pv 5) ac)))))))))
   (ao (aC (cN KL Lx (hr.mono) rfl Gq Ky .nil ai (aa (pv 3) (aa (aI (aX (K:=K) rfl) (pv 4) af (fun _ _=>rfl)) (aa (aI (aX (K:=K) rfl) (pv 4) af (fun _ _=>rfl)) ac))))))))),?_⟩
  obtain ⟨bS,lS⟩:=g6 (hN.one.fam.fac f0 hN.one.mem)
  refine aD ⟨_,rfl,_,rfl,_,rfl,a,l,h,fs,f0,s0,l1,l2,h1,h2,rfl,hA,hl,hh,hN.whl,hN.one,hN.cnt,hN.en,fun p H1 s1 hp e1=>?_⟩
  refine aD ⟨_,rfl,_,rfl,by show 2<=sizeLine;decide,fun ps hps=>?_⟩
  have s2:=s1.then_new (o:=.tup [V.ref l,V.ref h]) hps
  have q2:upd H1 ps (.tup [V.ref l,V.ref h]) ps=some (.tup [V.ref l,V.ref h]):=av
  have e2:=(Same.upd_new (o:=.tup [V.ref l,V.ref h]) hps) _ _ e1
  generalize upd H1 ps (.tup [V.ref l,V.ref h])=H2 at s2 q2 e2 ⊢
  refine ⟨fun m σ' H'=>m=0/\(∃ z5:Option V,σ'=[some (.ref a),some (.ref l),some (.ref h),some (.ref p),some (.ref ps),z5])/\H2=H',⟨0,rfl,⟨none,rfl⟩,rfl⟩,?_⟩
  rintro m σ' H' ⟨rfl,⟨z5,rfl⟩,rfl⟩
  refine ⟨_,rfl,_,rfl,ps,_,_,_,rfl,rfl,SqT.of q2,rfl,p,l,ag f0,l1,l2,⟨rfl,e2,hl.same s2,by omega,bS.mono,hN.en.bl1.mono,hN.en.bl2.mono⟩,fun H3 s3=>⟨_,_,rfl,rfl,_,rfl,aQ (fun h0=>absurd h0 hN.one.low) (fun _=>?_)⟩⟩
  have q3:=s3 _ _ q2
  have e3:=s3 _ _ e2
  have t3:=s2.trans s3
  dsimp only
  refine bh ⟨_,rfl,_,rfl,ps,_,_,_,rfl,rfl,SqT.of q3,rfl,_,rfl,ps,_,_,_,rfl,rfl,SqT.of q3,rfl,FI e3 fun x q H4 s4 hx hNA hq hqn=>?_⟩
  exact k x q H4 (t3.trans s4) (t3.free hx) hNA hq (t3.free hqn)
def rm (C CN:Addr):Sp:=fun vs H Q _=>∃ (a l h:Addr) (kp:List Int) (c:Int) (us:List (List Int×Nat)) (fs:List (List Int)) (f0 s0:List Int) (l1 l2 h1 h2:Int),vs=[.ref a,.ref l,.ref h]/\H a=some (.lst (kp.map V.int))/\RA C H l l1 l2/\RA C H h h1 h2/\Made kp c us/\flt us=prQ fs/\OneW fs f0 s0 l1 l2 h1 h2/\∀ (x q:Addr) (H':Hp),Same H H'->H x=none->NA CN H' x q l h->H' q=some (.lst ((ag f0).map V.int))->H q=none->Q (.ref x) H'
theorem El {C CN f:Addr} {dV:Value} {fd:FuncData} (F:FunD K "number" "number" j4 dV f fd) (T:Txt K mg) (R:RCI K mg C) {IV:Addr} {HZ:FuncData} (LJ:Cal P w K mg base 1 "refuse_high" ["height"] (fun vs H Q _=>∃ i:Int,vs=[.int i]/\i<=8/\Q .non H) IV HZ) {ge:Addr} {gd:FuncData} (gt:Cal P w K mg base 1 "degree" ["row"] gY ge gd) {f_Ratio:Addr} {fd_Ratio:FuncData} {ds_Ratio:List Value} (cE:KCal P w K mg base 2 C "Ratio" ["self","top","bottom"] (dm C) f_Ratio fd_Ratio ds_Ratio [.int 1]) {nJ:Addr} {nF:FuncData} (oq:Cal P w K mg base 1 "bound" ["row"] (mD K) nJ nF) {IM:Addr} {HP:FuncData} (Lz:Cal P w K mg base 36 "without_squares" ["row"] qO IM HP) {Ja:Addr} {Ih:FuncData} (LR:Cal P w K mg base 36 "many_within" ["simple","low","high"] (rp C) Ja Ih) {IW:Addr} {Ia:FuncData} (LK:Cal P w K mg base 1 "refuse_great" ["row"] rc IW Ia) {IY:Addr} {Ic:FuncData} (LM:Cal P w K mg base 38 "number_in" ["simple","low","high"] (rk C CN) IY Ic):FnOk P w K mg base CX0 39 f fd ["row","low","high"] (rm C CN):=by
 obtain ⟨KW,FR,GQ,J9⟩:=LJ
 obtain ⟨dS,dJ,dO,dR⟩:=gt
 obtain ⟨bZ,bX,bV,cu,di,de⟩:=cE
 obtain ⟨jn,iw,iD,jg⟩:=oq
 obtain ⟨KN,FJ,GI,J1⟩:=Lz
 obtain ⟨Ld,FZ,GY,Kh⟩:=LR
 obtain ⟨KY,FS,GR,Ka⟩:=LK
 obtain ⟨K0,FU,GT,Kc⟩:=LM
 refine F.ok sc_number (fun vs H Q E h=>?_) (fun cdv A outer s H vs Q E hr h=>?_)
 ·obtain ⟨a,l,h,kp,c,us,fs,f0,s0,l1,l2,h1,h2,rfl,_⟩:=h
  rfl
 ·obtain ⟨a,l,h,kp,c,us,fs,f0,s0,l1,l2,h1,h2,rfl,hA,hl,hh,hM,hfl,hN,k⟩:=h
  have l9:=hM.len.1
  have l2':=hM.one
  have l7:=hN.whl.l7
  have hml:(kp.map V.int).length=kp.length:=List.length_map _
  refine ⟨_,(ah (fO (aq KW (hr.mono) rfl FR GQ J9 .nil ai (aa (aq dS (hr.mono) rfl dJ dO dR .nil ai (aa (pv 0) ac)) ac)))
   (ah (aV (aM du (aq dS (hr.mono) rfl dJ dO dR .nil ai (aa (pv 0) ac)) af (aH _))
     (ao ig)
     aW)
   (ah (ap (i:=3) sc_number.nd rfl (Or.inl rfl) (sF (aM yd (pv 1) x6 (aH _)) (cN bX bZ (hr.mono) rfl bV di de ai (aa (bU bT (aq jn (hr.mono) rfl iw iD jg .nil ai (aa (pv 0) ac))) ac)) (pv 1)))
   (ah (ap (i:=4) sc_number.nd rfl (Or.inl rfl) (sF (aM yd (pv 2) x6 (aH _)) (cN bX bZ (hr.mono) rfl bV di de ai (aa (aq jn (hr.mono) rfl iw iD jg .nil ai (aa (pv 0) ac)) ac)) (pv 2)))
   (ah (ap (i:=5) sc_number.nd rfl (Or.inl rfl) (aq KN (hr.mono) rfl FJ GI J1 .nil ai (aa (pv 0) ac)))
   (ah (ap (i:=6) sc_number.nd rfl (Or.inl rfl) (aq Ld (hr.mono) rfl FZ GY Kh .nil ai (aa (pv 5) (aa (pv 3) (aa (pv 4) ac)))))
   (ah (aV (aM ll (pv 6) af (aH _))
     (ao ig)
     aW)
   (ah (fO (aq KY (hr.mono) rfl FS GR Ka .nil ai (aa (pv 5) ac)))
   (ao (aC (aq K0 (hr.mono) rfl FU GT Kc .nil ai (aa (pv 5) (aa (pv 3) (aa (pv 4) ac)))))))))))))),?_⟩
  refine hI ⟨_,rfl,a,_,rfl,hA,_,rfl,by rw [hml];omega,?_⟩
  refine bK ⟨_,rfl,a,_,rfl,hA,_,_,rfl,rfl,_,rfl,aQ (fun h0=>absurd (show ((kp.map V.int).length:Int)-1<1 from h0) (by rw [hml];omega)) (fun _=>?_)⟩
  refine aD ⟨_,rfl,rfl,_,rfl,?_⟩
  rw [decide_eq_false (by simp)]
  refine cQ ⟨_,rfl,?_⟩
  refine aD ⟨_,rfl,rfl,_,rfl,?_⟩
  rw [decide_eq_false (by simp)]
  refine cQ ⟨_,rfl,?_⟩
  refine aD ⟨_,rfl,a,kp,c,us,rfl,hA,hM,fun pw H1 s1 hpw e1=>?_⟩
  rw [hfl] at e1
  refine aD ⟨_,rfl,_,rfl,_,rfl,pw,l,h,fs,l1,l2,h1,h2,rfl,e1,hN.whl,hl.same s1,hh.same s1,hN.en,fun H2 s2=>?_⟩
  rw [hN.cnt]
  have e2:=s2 _ _ e1
  have t2:=s1.trans s2
  refine bK ⟨_,rfl,_,_,rfl,rfl,_,rfl,cZ (fun h=>absurd rfl h) (fun _=>?_)⟩
  refine hI ⟨_,rfl,pw,prQ fs,rfl,e2,by omega,hN.whl.bits.mono,fun H3 s3=>?_⟩
  have t3:=t2.trans s3
  refine bh ⟨_,rfl,_,rfl,_,rfl,pw,l,h,fs,f0,s0,l1,l2,h1,h2,rfl,s3 _ _ e2,hl.same t3,hh.same t3,hN,fun x q H4 s4 hx hNA hq hqn=>?_⟩
  exact k x q H4 (t3.trans s4) (t3.free hx) hNA hq (t3.free hqn)
theorem E3 {f:Addr} {fd:FuncData} (F:Fun K "_law_cell_at" "_law_cell_at" kL f fd) (T:Txt K mg):FnOk P w K mg base CX0 1 f fd ["_law_script","_law_k"] (gw K):=by
 refine F.ok CB (fun vs H Q E h=>?_) (fun cdv A outer s H vs Q E hr h=>?_)
 ·obtain ⟨a,ns,k,rfl,_⟩:=h
  rfl
 ·obtain ⟨a,ns,n,rfl,hS,k⟩:=h
  refine ⟨_,(ah (aV (aM du (pv 1) (bH (df (K:=K) rfl) (by rfl) T.len_ PySem.boot_len (aa (pv 0) ac)) (aH _))
   (ao (aC (aI (cw (K:=K) rfl) (pv 0) (pv 1) (fun _ _=>rfl))))
   aW)
   (ao (aC af))),?_⟩
  refine ⟨_,rfl,_,rfl,a,_,rfl,.inl hS,_,_,rfl,rfl,_,rfl,?_⟩
  refine aQ (fun h1=>?_) (fun h1=>?_)
  ·rw [List.length_map] at h1
   have h2:n<ns.length:=by omega
   refine ⟨_,rfl,_,rfl,a,_,_,_,rfl,rfl,hS,md (v:=.int (ns.getD n 0)) ?_,k⟩
   rw [List.getElem?_map,List.getElem?_eq_getElem h2]
   simp [List.getD,h2]
  ·rw [List.length_map] at h1
   have h2:ns.length<=n:=by omega
   have e:ns.getD n 0=0:=by simp [List.getD,List.getElem?_eq_none_iff.mpr h2]
   rw [e] at k
   exact k
def oG:Sp:=fun vs H Q _=>∃ i:Int,vs=[.int i]/\Q (.bl true) H
theorem EO {f:Addr} {fd:FuncData} (F:Fun K "_law_whole" "_law_whole" kA f fd) (T:Txt K mg):FnOk P w K mg base CX0 1 f fd ["_law_found"] oG:=by
 refine F.ok Cy (fun vs H Q E h=>?_) (fun cdv A outer s H vs Q E hr h=>?_)
 ·obtain ⟨i,rfl,_⟩:=h
  rfl
 ·obtain ⟨i,rfl,k⟩:=h
  refine ⟨_,(ao (aC (x9 (bH (nX (K:=K) rfl) (by rfl) T.isinstance_ PyProof.Rows.boot_isinstance (aa (pv 0) (aa (sH (v:=.ty "int") (by rfl) T.int_ PyProof.Rows.boot_int (by rfl)) ac))) (px (DL (bH (nX (K:=K) rfl) (by rfl) T.isinstance_ PyProof.Rows.boot_isinstance (aa (pv 0) (aa (sH (v:=.ty "bool") (by rfl) T.bool_ PyProof.Rows.boot_bool (by rfl)) ac)))))))),?_⟩
  refine bh (xK (mL ⟨_,rfl,tO (.int i) (k:=true) (by rfl) ⟨_,rfl,o4 ?_⟩⟩))
  refine CZ (mL ⟨_,rfl,tO (.int i) (k:=false) (by rfl) ⟨_,rfl,?_⟩⟩)
  exact k
def WT (H:Hp) (p:Addr) (u v w d:Int):Prop:=H p=some (.tup [.int u,.int v,.int w,.int d])
structure WOk (u v w d:Int):Prop where
 bu:Bits 21 u
 bv:Bits 21 v
 w1:0<w
 w12:w<=12
 d2:2<=d
 d13:d<=13
 ns:NSq d
theorem WOk.bw {u v w d:Int} (h:WOk u v w d):Bits 4 w:=by show w.natAbs<2^4;have:=h.w1;have:=h.w12;omega
theorem WOk.bd {u v w d:Int} (h:WOk u v w d):Bits 4 d:=by show d.natAbs<2^4;have:=h.d2;have:=h.d13;omega
def qX:Sp:=fun vs H Q _=>∃ u v d:Int,vs=[.int u,.int v,.int d]/\Bits 100000 u/\Bits 100000 v/\Bits 10 d/\Q (.int (sgq u v d)) H
theorem ES {f:Addr} {fd:FuncData} (F:Fun K "_law_sign" "_law_sign" kD f fd) (T:Txt K mg):FnOk P w K mg base CX0 1 f fd ["_law_u","_law_v","_law_d"] qX:=by
 refine F.ok Cz (fun vs H Q E h=>?_) (fun cdv A outer s H vs Q E hr h=>?_)
 ·obtain ⟨u,v,d,rfl,_⟩:=h
  rfl
 ·obtain ⟨u,v,d,rfl,bu,bv,bd,k⟩:=h
  refine ⟨_,(ah (aV (PW.pt (ie (aM pB (pv 0) af (aH _)) (ic (aM pB (pv 1) af (aH _)))))
   (ao (aC (gE qt (by rfl) T.int_ PyProof.Rows.boot_int (aa (sE (dZ cW (pv 0) af (aH _)) (px (dZ cW (pv 1) af (aH _)))) ac))))
   aW)
   (ah (aV (PW.pt (ie (aM sM (pv 0) af (aH _)) (ic (aM sM (pv 1) af (aH _)))))
     (ao (aC (bU bT af)))
     aW)
   (ah (aV (aM cW (pv 0) af (aH _))
     (ao (aC (aj cs af (aj aN af (gE qt (by rfl) T.int_ PyProof.Rows.boot_int (aa (dZ du (aj aN (pv 0) (pv 0)) (aj aN (aj aN (pv 2) (pv 1)) (pv 1)) (aH _)) ac))))))
     aW)
   (ao (aC (aj cs af (aj aN af (gE qt (by rfl) T.int_ PyProof.Rows.boot_int (aa (dZ cW (aj aN (pv 0) (pv 0)) (aj aN (aj aN (pv 2) (pv 1)) (pv 1)) (aH _)) ac))))))))),?_⟩
  have bdv:Bits 100010 (d*v):=(bd.mul bv).mono
  by_cases h1:0<=u/\0<=v
  ·refine bK (dX ⟨_,rfl,_,_,rfl,rfl,_,rfl,aQ (fun _=>?_) (fun z=>absurd (show u≥0 from h1.1) z)⟩)
   refine ⟨_,rfl,_,_,rfl,rfl,_,rfl,aQ (fun _=>?_) (fun z=>absurd (show v≥0 from h1.2) z)⟩
   refine bh (si ⟨_,rfl,_,_,rfl,rfl,_,rfl,?_⟩)
   unfold sgq at k
   rw [if_pos h1] at k
   by_cases h2:0<u
   ·rw [decide_eq_true (show u>0 from h2)]
    refine o4 (.inr ⟨_,rfl,?_⟩)
    rw [if_pos (.inl h2)] at k
    exact k
   ·rw [decide_eq_false (show ¬ u>0 from h2)]
    refine cQ ⟨_,rfl,_,_,rfl,rfl,.inr ⟨_,rfl,?_⟩⟩
    by_cases h3:0<v
    ·rw [if_pos (.inr h3)] at k
     rw [decide_eq_true (show v>0 from h3)]
     exact k
    ·rw [if_neg (by omega)] at k
     rw [decide_eq_false (show ¬ v>0 from h3)]
     exact k
  unfold sgq at k
  rw [if_neg h1] at k
  have go:∀ {A B:Prop},B->(if (decide (u≥0))=true then (if (decide (v≥0))=true then A else B) else B):=fun {A B} b=>by
   by_cases a1:u≥0
   ·rw [if_pos (decide_eq_true a1),if_neg (by rw [decide_eq_false (fun z=>h1 ⟨a1,z⟩)];decide)];exact b
   ·rw [if_neg (by rw [decide_eq_false a1];decide)];exact b
  refine bK (dX ⟨_,rfl,_,_,rfl,rfl,_,rfl,aQ (fun a1=>?_) (fun a1=>?_)⟩)
  ·refine ⟨_,rfl,_,_,rfl,rfl,_,rfl,aQ (fun a2=>absurd ⟨a1,a2⟩ h1) (fun _=>?_)⟩
   by_cases h2:u<=0/\v<=0
   ·rw [if_pos h2] at k
    refine bK (dX ⟨_,rfl,_,_,rfl,rfl,_,rfl,aQ (fun _=>?_) (fun z=>absurd h2.1 z)⟩)
    refine ⟨_,rfl,_,_,rfl,rfl,_,rfl,aQ (fun _=>?_) (fun z=>absurd h2.2 z)⟩
    exact bh ⟨_,rfl,k⟩
   rw [if_neg h2] at k
   have a1':0<=u:=a1
   have up:0<u:=by omega
   rw [if_pos up] at k
   refine bK (dX ⟨_,rfl,_,_,rfl,rfl,_,rfl,aQ (fun z=>absurd (show u<=0 from z) (by omega)) (fun _=>cQ ?_)⟩)
   refine bK ⟨_,rfl,_,_,rfl,rfl,_,rfl,aQ (fun _=>?_) (fun z=>absurd (show u>0 from up) z)⟩
   refine bh ⟨_,rfl,_,rfl,_,_,rfl,rfl,⟨bu.mono,bu.mono⟩,_,rfl,_,rfl,_,_,rfl,rfl,⟨bd.mono,bv.mono⟩,_,rfl,_,_,rfl,rfl,⟨bdv.mono,bv.mono⟩,_,_,rfl,rfl,.inr ⟨_,rfl,?_⟩⟩
   by_cases h3:u*u<d*v*v
   ·rw [if_pos h3] at k
    rw [decide_eq_true h3]
    exact ⟨_,_,rfl,rfl,⟨fG,sN⟩,_,_,rfl,rfl,k⟩
   ·rw [if_neg h3] at k
    rw [decide_eq_false h3]
    exact ⟨_,_,rfl,rfl,⟨fG,Bits.zero⟩,_,_,rfl,rfl,k⟩
  ·have a1':¬ 0<=u:=a1
   refine cQ ?_
   by_cases h2:u<=0/\v<=0
   ·rw [if_pos h2] at k
    refine bK (dX ⟨_,rfl,_,_,rfl,rfl,_,rfl,aQ (fun _=>?_) (fun z=>absurd h2.1 z)⟩)
    refine ⟨_,rfl,_,_,rfl,rfl,_,rfl,aQ (fun _=>?_) (fun z=>absurd h2.2 z)⟩
    exact bh ⟨_,rfl,k⟩
   rw [if_neg h2,if_neg (by omega)] at k
   refine bK (dX ⟨_,rfl,_,_,rfl,rfl,_,rfl,aQ (fun _=>?_) (fun z=>absurd (show u<=0 by omega) z)⟩)
   refine ⟨_,rfl,_,_,rfl,rfl,_,rfl,aQ (fun z=>absurd (show v<=0 from z) (by omega)) (fun _=>?_)⟩
   refine bK ⟨_,rfl,_,_,rfl,rfl,_,rfl,aQ (fun z=>absurd (show u>0 from z) (by omega)) (fun _=>?_)⟩
   refine bh ⟨_,rfl,_,rfl,_,_,rfl,rfl,⟨bu.mono,bu.mono⟩,_,rfl,_,rfl,_,_,rfl,rfl,⟨bd.mono,bv.mono⟩,_,rfl,_,_,rfl,rfl,⟨bdv.mono,bv.mono⟩,_,_,rfl,rfl,.inr ⟨_,rfl,?_⟩⟩
   by_cases h3:u*u>d*v*v
   ·rw [if_pos h3] at k
    rw [decide_eq_true h3]
    exact ⟨_,_,rfl,rfl,⟨fG,sN⟩,_,_,rfl,rfl,k⟩
   ·rw [if_neg h3] at k
    rw [decide_eq_false h3]
    exact ⟨_,_,rfl,rfl,⟨fG,Bits.zero⟩,_,_,rfl,rfl,k⟩
def rN (C:Addr):Sp:=fun vs H Q _=>∃ (p r:Addr) (u v w d t b:Int),vs=[.ref p,.ref r]/\WT H p u v w d/\WOk u v w d/\RA C H r t b/\Bits 3000 t/\Bits 3000 b/\Q (.int (sgq (u*b-t*w) (v*b) d)) H
theorem E4 {C f:Addr} {fd:FuncData} (F:Fun K "_law_beside" "_law_beside" kM f fd) (T:Txt K mg) (R:RCI K mg C) {Jp:Addr} {IA:FuncData} (L8:Cal P w K mg base 1 "_law_sign" ["_law_u","_law_v","_law_d"] qX Jp IA):FnOk P w K mg base CX0 2 f fd ["_law_worth_here","_law_r"] (rN C):=by
 obtain ⟨Lr,Gn,Hb,Ku⟩:=L8
 refine F.ok sc__law_beside (fun vs H Q E h=>?_) (fun cdv A outer s H vs Q E hr h=>?_)
 ·obtain ⟨p,r,u,v,w,d,t,b,rfl,_⟩:=h
  rfl
 ·obtain ⟨p,r,u,v,w,d,t,b,rfl,hp,hW,⟨dr,hR⟩,bt,bb,k⟩:=h
  refine ⟨_,(ah (eD (pv 0) (gD rfl (cj (aT (i:=2) sc__law_beside.nd rfl (Or.inl rfl)) (cj (aT (i:=3) sc__law_beside.nd rfl (Or.inl rfl)) (cj (aT (i:=4) sc__law_beside.nd rfl (Or.inl rfl)) (cj (aT (i:=5) sc__law_beside.nd rfl (Or.inl rfl)) gC))))))
   (ao (aC (aq Lr (hr.mono) rfl Gn Hb Ku .nil ai (aa (aj cs (aj aN (pv 2) (aO (K:=K) rfl (pv 1) rfl)) (aj aN (aO (K:=K) rfl (pv 1) rfl) (pv 4))) (aa (aj aN (pv 3) (aO (K:=K) rfl (pv 1) rfl)) (aa (pv 5) ac))))))),?_⟩
  refine ⟨_,rfl,p,_,rfl,SqT.of hp,rfl,_,_,rfl,_,_,rfl,_,_,rfl,_,_,rfl,rfl,?_⟩
  refine ⟨_,rfl,_,rfl,r,C,dr,_,_,rfl,hR,R.cl,R.nB,bQ _ _,_,_,rfl,rfl,⟨hW.bu.mono,bb.mono⟩,_,rfl,r,C,dr,_,_,rfl,hR,R.cl,R.nT,cM _ _,_,rfl,_,_,rfl,rfl,⟨bt.mono,hW.bw.mono⟩,_,_,rfl,rfl,?_⟩
  refine ⟨_,rfl,_,rfl,r,C,dr,_,_,rfl,hR,R.cl,R.nB,bQ _ _,_,_,rfl,rfl,⟨hW.bv.mono,bb.mono⟩,_,rfl,_,_,_,rfl,?_,?_,hW.bd.mono,k⟩
  ·exact Bits.mono (Bits.sub (k:=3100) ((hW.bu.mul bb).mono) ((bt.mul hW.bw).mono)) (by decide)
  ·exact (hW.bv.mul bb).mono
def oR:Sp:=fun vs H Q _=>∃ x y:Int,vs=[.int x,.int y]/\0<=x/\0<=y/\Q (.int (Nat.gcd x.natAbs y.natAbs:Nat)) H
theorem EZ {f:Addr} {fd:FuncData} (F:Fun K "_law_divisor" "_law_divisor" kK f fd) (T:Txt K mg):FnOk P w K mg base CX0 1 f fd ["_law_one","_law_other"] oR:=by
 refine F.ok sc__law_divisor (fun vs H Q E h=>?_) (fun cdv A outer s H vs Q E hr h=>?_)
 ·obtain ⟨a,b,rfl,_⟩:=h
  rfl
 ·obtain ⟨a,b,rfl,ha,h0,k⟩:=h
  refine ⟨_,(ah (fN PassesOwn.never (aM ll (pv 1) af (aH _))
   (ah (ap (i:=2) sc__law_divisor.nd rfl (Or.inl rfl) (aj cV (pv 0) (pv 1)))
     (ah (ap (i:=0) sc__law_divisor.nd rfl (Or.inl rfl) (pv 1))
     (ao (ap (i:=1) sc__law_divisor.nd rfl (Or.inl rfl) (pv 2))))))
   (ao (aC (pv 0)))),?_⟩
  refine ⟨fun m σ' H'=>∃ (x y:Int) (z:Option V),σ'=[some (.int x),some (.int y),z]/\H=H'/\0<=x/\0<=y/\y.natAbs=m/\Nat.gcd x.natAbs y.natAbs=Nat.gcd a.natAbs b.natAbs,⟨_,_,_,none,rfl,rfl,ha,h0,rfl,rfl⟩,?_⟩
  rintro m σ' H' ⟨x,y,z,rfl,rfl,hx,hy,rfl,hg⟩
  refine ⟨_,rfl,_,_,rfl,rfl,_,rfl,?_⟩
  refine cZ (fun hn=>?_) (fun h0=>?_)
  ·have hp:0<y:=by have:y≠0:=hn;omega
   refine ⟨fun σ'' H''=>∃ m',m'<y.natAbs/\∃ (x' y':Int) (z:Option V),σ''=[some (.int x'),some (.int y'),z]/\H=H''/\0<=x'/\0<=y'/\y'.natAbs=m'/\Nat.gcd x'.natAbs y'.natAbs=Nat.gcd a.natAbs b.natAbs,fun _ _ h=>h,?_⟩
   refine ⟨_,rfl,_,rfl,_,_,rfl,rfl,hp,?_⟩
   refine ⟨_,rfl,?_⟩
   refine ⟨_,rfl,?_⟩
   have h1:=Int.emod_nonneg x (Int.ne_of_gt hp)
   have h2:=Int.emod_lt_of_pos x hp
   exact ⟨(x%y).natAbs,by omega,y,x%y,_,rfl,rfl,hy,h1,rfl,by rw [zu hx hp];exact hg⟩
  ·have e:(y:Int)=0:=h0
   subst e
   refine ⟨_,rfl,?_⟩
   have e2:(x:Int)=((Nat.gcd a.natAbs b.natAbs:Nat):Int):=by
    rw [<- hg]
    show x=((Nat.gcd x.natAbs 0:Nat):Int)
    rw [Nat.gcd_zero_right];omega
   rw [e2]
   exact k
def rf:Sp:=fun vs H Q _=>∃ (a:Addr) (ns:List Int),vs=[.ref a]/\H a=some (.lst (ns.map V.int))/\Tr ns/\ns≠[]/\0<al ns/\ns.length<=100/\AllB 8000 ns/\mkL H Q (aB ns)
theorem mT {ns:List Int} (hT:Tr ns) (hne:ns≠[]) (hp:0<al ns):0<(aA ns:Int)/\aB ns=ar ns:=by
 have hs:=oX (l:=ns)
 have hlast:al ns=(aA ns:Int)*al (ar ns):=by
  have h5:cf (scL (aA ns:Int) (ar ns)) (ns.length-1)=(aA ns:Int)*cf (ar ns) (ns.length-1):=bJ _ _ _
  rw [hs] at h5
  have h6:(ar ns).length=ns.length:=List.length_map _
  unfold al
  rw [h6];exact h5
 have g0:(0:Int)<=(aA ns:Int):=by omega
 have gp:0<(aA ns:Int):=by
  refine Classical.byContradiction fun z=>?_
  have:(aA ns:Int)=0:=by omega
  rw [this,Int.zero_mul] at hlast
  omega
 refine ⟨gp,?_⟩
 unfold aB cH
 rw [if_neg (fun z=>?_)]
 have:=Int.mul_neg_of_pos_of_neg gp z
 omega
theorem EV {f:Addr} {fd:FuncData} (F:Fun K "_law_plain" "_law_plain" kG f fd) (T:Txt K mg) {uL:Addr} {uo:FuncData} (vX:Cal P w K mg base 1 "_law_divisor" ["_law_one","_law_other"] oR uL uo):FnOk P w K mg base CX0 2 f fd ["_law_row"] rf:=by
 obtain ⟨vG,tx,tN,vm⟩:=vX
 refine F.ok sc__law_plain (fun vs H Q E h=>?_) (fun cdv A outer s H vs Q E hr h=>?_)
 ·obtain ⟨a,ns,rfl,_⟩:=h
  rfl
 ·obtain ⟨a,ns,rfl,hA,hT,hne,hp,hl,hb,k⟩:=h
  have big:=sizeLine_eq
  have hS:=SqL.of (K:=K) hA
  refine ⟨_,(ah (ap (i:=1) sc__law_plain.nd rfl (Or.inr rfl) af)
   (ah (cR PassesOwn.never rfl (dY (K:=K) rfl (pv 0)) (aT (i:=2) sc__law_plain.nd rfl (Or.inl rfl))
     (ao (ap (i:=1) sc__law_plain.nd rfl (Or.inr rfl) (aq vG (hr.mono) rfl tx tN vm .nil ai (aa (pv 1) (aa (bH fz (by rfl) T.abs_ PyProof.Rows.boot_abs (aa (pv 2) ac)) ac))))))
   (ah (aV (aM du (aI (cw (K:=K) rfl) (pv 0) (bU bT af) (fun _ _=>rfl)) af (aH _))
     (ao (ap (i:=1) sc__law_plain.nd rfl (Or.inr rfl) (bU bT (pv 1))))
     aW)
   (ao (aC (fh (own:=["_law_one"]) (fr:=["_law_by"]) (js:=[1]) (by walk_at "comp_ok") rfl (dY (K:=K) rfl (pv 0)) (fun _ _ _ _=>(aT (i:=0) (show List.Nodup (["_law_one","_law_by"]:List Str) from by decide +kernel) rfl (Or.inl rfl))) (fun _ _ _ _=>(aj db (pv 0) (pv 1))))))))),?_⟩
  refine aD ?_
  refine ⟨_,rfl,a,rfl,⟨_,hS⟩,nC (K:=K) (a:=a) (xs:=ns.map V.int) (fun i σ' H'=>∃ z:Option V,σ'=[some (.ref a),some (.int (aA (ns.take i):Nat)),z]/\H=H') ⟨none,rfl,rfl⟩ (fun i σ' H' _ ⟨z,_,e⟩=>by rw [<- e];exact hS) ?_ ?_⟩
  ·rintro i y σ' H' hi ⟨z,rfl,rfl⟩
   obtain ⟨n,en,rfl,_,_⟩:=ga hi
   refine da ⟨_,rfl,_,rfl,_,rfl,_,_,rfl,by omega,by split<;>omega,?_⟩
   have e3:ns.take (i+1)=ns.take i++[n]:=by rw [List.take_add_one,en];rfl
   refine ⟨some (.int n),?_,rfl⟩
   have e4:(if n<0 then -n else n).natAbs=n.natAbs:=by split<;>omega
   rw [e3,zv,Int.natAbs_natCast,e4]
   rfl
  ·rintro σ' H' ⟨z,rfl,rfl⟩
   rw [List.length_map,List.take_length]
   dsimp only
   obtain ⟨gp,ep⟩:=mT hT hne hp
   refine bK ⟨_,rfl,_,rfl,a,_,_,_,rfl,rfl,hS,ni hne,_,_,rfl,rfl,_,rfl,aQ (fun z=>absurd (show al ns<0 from z) (by omega)) (fun _=>?_)⟩
   have bg:Bits 9000 (aA ns:Int):=by
    obtain ⟨x,hx,hx0⟩:∃ x∈ns,x≠0:=by
     obtain ⟨r,x,e⟩:=(cP ns).resolve_left hne
     refine ⟨x,by rw [e];simp,fun z=>?_⟩
     rw [e,dz,z] at hp;exact absurd hp (by decide)
    have hd:=iF hx
    exact ((hb x hx).mono (show 8000<=9000 by decide)).of_le (Nat.le_of_dvd (by omega) (Int.natAbs_dvd_natAbs.mpr hd))
   refine bh ⟨_,rfl,a,rfl,⟨_,hS⟩,i8 (K:=K) (a:=a) (xs:=ns.map V.int) (fun i ys σ' H'=>∃ z0:Option V,σ'=[z0,some (.int (aA ns:Nat))]/\ys=((ns.take i).map fun x=>x/(aA ns:Int)).map V.int/\H=H') (by rw [List.length_map];omega) ⟨none,rfl,rfl,rfl⟩ ?_ ?_ ?_⟩
   ·rintro i ys σ' H' _ ⟨z0,rfl,rfl,rfl⟩
    exact ⟨hS,by rw [List.length_map,List.length_map,List.length_take];exact Nat.min_le_left _ _⟩
   ·rintro i x ys σ' H' hi ⟨z0,rfl,rfl,rfl⟩
    obtain ⟨c,ec,rfl,hc,_⟩:=ga hi
    refine ⟨_,rfl,_,rfl,_,_,rfl,rfl,⟨gp,bg⟩,?_⟩
    refine ⟨_,rfl,?_,rfl⟩
    rw [List.take_add_one,ec]
    simp only [Option.toList_some,List.map_append,List.map_cons,List.map_nil]
   ·rintro ys σ' H' q ⟨z0,rfl,rfl,rfl⟩ hq
    refine k q _ (Same.upd_new hq) hq ?_
    rw [av,List.length_map,List.take_length,ep]
    rfl
theorem wn {a b c:Int} (h:c≠0):Tr [a,b,c]:=(tr_snoc (r:=[a,b])).mpr h
theorem wq {a b:Int} (h:b≠0):Tr [a,b]:=(tr_snoc (r:=[a])).mpr h
def dN (u v w d:Int):List Int:=if v=0 then aB [-u,w] else aB [u*u-d*v*v,-2*u*w,w*w]
def UpW (u v w d:Int):Int->Int->Prop:=fun x1 x2=>0<sgq (u*x2-x1*w) (v*x2) d
def cv (u v d m:Int):Int:=if 0<v then u else if v<0 then u+v*d-m else u-1-m
def cI (u v d m:Int):Int:=if 0<v then u+v*d+m else if v<0 then u else u+m/3
structure SpE (u v w d m l1 l2 h1 h2:Int):Prop where
 l2p:0<l2
 h2p:0<h2
 bl1:Bits 40 l1
 bl2:Bits 40 l2
 bh1:Bits 40 h1
 bh2:Bits 40 h2
 gl:Nat.gcd l1.natAbs l2.natAbs=1
 gh:Nat.gcd h1.natAbs h2.natAbs=1
 el:l1*w=cv u v d m*l2
 eh:h1*w=cI u v d m*h2
theorem wM {v d m:Int} (hv:0<v) (hd:2<=d) (hm:0<=m):d*v*v<(v*d+m)*(v*d+m):=by
 have h1:0<v*v:=Int.mul_pos hv hv
 have h2:d*(v*v)<d*(d*(v*v)):=by
  have:1*(d*(v*v))<d*(d*(v*v)):=Int.mul_lt_mul_of_pos_right (by omega) (Int.mul_pos (by omega) h1)
  omega
 have h3:0<=v*d:=Int.mul_nonneg (by omega) (by omega)
 have h4:v*d*(v*d)<=(v*d+m)*(v*d+m):=by
  have:=Int.mul_nonneg h3 hm
  have:=Int.mul_nonneg hm hm
  have e:(v*d+m)*(v*d+m)=v*d*(v*d)+(v*d*m)+(v*d*m)+m*m:=by grind
  omega
 have e1:d*v*v=d*(v*v):=by grind
 have e2:v*d*(v*d)=d*(d*(v*v)):=by grind
 omega
theorem v4 {u v w d m l1 l2 h1 h2:Int} (hW:WOk u v w d) (hm0:0<=m) (hm:m<60) (hE:SpE u v w d m l1 l2 h1 h2):EndsG 40 l1 l2 h1 h2/\(0<v->u*l2<=l1*w)/\(v<0->h1*w<=u*h2)/\UpW u v w d l1 l2/\¬ UpW u v w d h1 h2:=by
 have hw:=hW.w1
 have hd2:=hW.d2
 obtain ⟨l2p,h2p,bl1,bl2,bh1,bh2,gl,gh,el,eh⟩:=hE
 have Al:u*l2-l1*w=(u-cv u v d m)*l2:=by rw [el];grind
 have Ah:u*h2-h1*w=(u-cI u v d m)*h2:=by rw [eh];grind
 have lo_sg:sgq (u*l2-l1*w) (v*l2) d=sgq (u-cv u v d m) v d:=by
  rw [Al,Int.mul_comm _ l2,Int.mul_comm v l2,xr l2p]
 have hi_sg:sgq (u*h2-h1*w) (v*h2) d=sgq (u-cI u v d m) v d:=by
  rw [Ah,Int.mul_comm _ h2,Int.mul_comm v h2,xr h2p]
 have lt_N:cv u v d m<cI u v d m:=by
  unfold cv cI
  rcases Int.lt_trichotomy v 0 with z | z | z
  ·rw [if_neg (show ¬ 0<v by omega),if_pos z,if_neg (show ¬ 0<v by omega),if_pos z]
   have:v*d<0:=Int.mul_neg_of_neg_of_pos z (by omega)
   omega
  ·subst z
   rw [if_neg (by decide),if_neg (by decide),if_neg (by decide),if_neg (by decide)]
   omega
  ·rw [if_pos z,if_pos z]
   have:0<v*d:=Int.mul_pos z (by omega)
   omega
 have lt:l1*h2<h1*l2:=by
  refine lV hw ?_
  have e1:l1*h2*w=cv u v d m*(l2*h2):=by rw [show l1*h2*w=l1*w*h2 by grind,el];grind
  have e2:h1*l2*w=cI u v d m*(l2*h2):=by rw [show h1*l2*w=h1*w*l2 by grind,eh];grind
  rw [e1,e2]
  exact Int.mul_lt_mul_of_pos_right lt_N (Int.mul_pos l2p h2p)
 have en:EndsG 40 l1 l2 h1 h2:=⟨l2p,h2p,bl1,bl2,bh1,bh2,lt,gl,gh⟩
 refine ⟨en,fun hv=>?_,fun hv=>?_,?_⟩
 ·have:cv u v d m=u:=by unfold cv;rw [if_pos hv]
  rw [el,this];exact Int.le_refl _
 ·have:cI u v d m=u:=by unfold cI;rw [if_neg (by omega),if_pos hv]
  rw [eh,this];exact Int.le_refl _
 rcases Int.lt_trichotomy v 0 with vn | vn | vn
 ·have eL:cv u v d m=u+v*d-m:=by unfold cv;rw [if_neg (by omega),if_pos vn]
  have eH:cI u v d m=u:=by unfold cI;rw [if_neg (by omega),if_pos vn]
  have nv:0 < -v:=by omega
  have vd:v*d<0:=Int.mul_neg_of_neg_of_pos vn (by omega)
  have sqm:=wM nv hd2 hm0
  have lo1:sgq (u-cv u v d m) v d=1:=by
   rw [eL,o0 (by omega) vn]
   have q1:(u-(u+v*d-m))*(u-(u+v*d-m))=(-v*d+m)*(-v*d+m):=by grind
   have q2:d * -v * -v=d*v*v:=by grind
   rw [q2] at sqm
   rw [q1,if_neg (by omega)]
  have hi1:sgq (u-cI u v d m) v d = -1:=by rw [eH,Int.sub_self];exact g8 (Int.le_refl _) (by omega) (.inr vn)
  exact ⟨by show 0<sgq _ _ _;rw [lo_sg,lo1];decide,by show ¬ 0<sgq _ _ _;rw [hi_sg,hi1];decide⟩
 ·subst vn
  have eL:cv u 0 d m=u-1-m:=by unfold cv;rw [if_neg (by decide),if_neg (by decide)]
  have eH:cI u 0 d m=u+m/3:=by unfold cI;rw [if_neg (by decide),if_neg (by decide)]
  refine ⟨?_,?_⟩
  ·show 0<sgq _ _ _
   rw [lo_sg,eL,g7 (by omega) (Int.le_refl _) (.inl (by omega))];decide
  ·show ¬ 0<sgq _ _ _
   rw [hi_sg,eH]
   rcases Int.lt_or_eq_of_le (show u-(u+m/3)<=0 by omega) with z | z
   ·rw [g8 (by omega) (Int.le_refl _) (.inl z)];decide
   ·rw [z,xt];decide
 ·have eL:cv u v d m=u:=by unfold cv;rw [if_pos vn]
  have eH:cI u v d m=u+v*d+m:=by unfold cI;rw [if_pos vn]
  have vd:0<v*d:=Int.mul_pos vn (by omega)
  have sqm:=wM vn hd2 hm0
  have lo1:sgq (u-cv u v d m) v d=1:=by rw [eL,Int.sub_self];exact g7 (Int.le_refl _) (by omega) (.inr vn)
  have hi1:sgq (u-cI u v d m) v d = -1:=by
   rw [eH,o1 (by omega) vn]
   have q1:(u-(u+v*d+m))*(u-(u+v*d+m))=(v*d+m)*(v*d+m):=by grind
   rw [q1,if_pos (by omega)]
  exact ⟨by show 0<sgq _ _ _;rw [lo_sg,lo1];decide,by show ¬ 0<sgq _ _ _;rw [hi_sg,hi1];decide⟩
def rd (C:Addr):Sp:=fun vs H Q _=>∃ (r:Addr) (t b:Int),vs=[.ref r]/\RA C H r t b/\0<b/\Nat.gcd t.natAbs b.natAbs=1/\Q (.bl true) H
theorem ET {C f:Addr} {fd:FuncData} (F:Fun K "_law_ratio" "_law_ratio" kE f fd) (T:Txt K mg) (R:RCI K mg C) {uJ:Addr} {ul:FuncData} (vV:Cal P w K mg base 1 "_law_whole" ["_law_found"] oG uJ ul) {uL:Addr} {uo:FuncData} (vX:Cal P w K mg base 1 "_law_divisor" ["_law_one","_law_other"] oR uL uo):FnOk P w K mg base CX0 2 f fd ["_law_found"] (rd C):=by
 obtain ⟨qB,pM,pT,qw⟩:=vV
 obtain ⟨vG,tx,tN,vm⟩:=vX
 refine F.ok CA (fun vs H Q E h=>?_) (fun cdv A outer s H vs Q E hr h=>?_)
 ·obtain ⟨r,t,b,rfl,_⟩:=h
  rfl
 ·obtain ⟨p,t,b,rfl,⟨dx,hp⟩,hb,hg,k⟩:=h
  refine ⟨_,(ah (aV (PW.pt (gB (fg (eu (bH (nX (K:=K) rfl) (by rfl) T.isinstance_ PyProof.Rows.boot_isinstance (aa (pv 0) (aa (sG (v:=.ref C) rfl R.mg rfl) ac))))) (gB (fg (eu (aq qB (hr.mono) rfl pM pT qw .nil ai (aa (aO (K:=K) rfl (pv 0) rfl) ac)))) (kZ (fg (eu (aq qB (hr.mono) rfl pM pT qw .nil ai (aa (aO (K:=K) rfl (pv 0) rfl) ac))))))))
   (ao (aC gF))
   aW)
   (ao (aC (x9 (dZ cW (aO (K:=K) rfl (pv 0) rfl) af (aH _)) (px (dZ cX (aq vG (hr.mono) rfl tx tN vm .nil ai (aa (bH fz (by rfl) T.abs_ PyProof.Rows.boot_abs (aa (aO (K:=K) rfl (pv 0) rfl) ac)) (aa (aO (K:=K) rfl (pv 0) rfl) ac))) af (aH _))))))),?_⟩
  refine bK (hJ (fL (sj (mL ⟨_,rfl,ze (.ins hp R.cl R.ha R.hn R.ht R.hm) (k:=true) (by unfold PySem.W.kitOne;rw [if_pos (by simp)]) ⟨_,rfl,cQ ?_⟩⟩))))
  refine hJ (fL ⟨_,rfl,p,C,dx,_,_,rfl,hp,R.cl,R.nT,cM _ _,_,rfl,_,rfl,cQ ?_⟩)
  refine fL ⟨_,rfl,p,C,dx,_,_,rfl,hp,R.cl,R.nB,bQ _ _,_,rfl,_,rfl,cQ ?_⟩
  refine bh (xK ⟨_,rfl,p,C,dx,_,_,rfl,hp,R.cl,R.nB,bQ _ _,_,_,rfl,rfl,_,rfl,?_⟩)
  rw [decide_eq_true (show b>0 from hb)]
  refine o4 ⟨_,rfl,p,C,dx,_,_,rfl,hp,R.cl,R.nT,cM _ _,_,rfl,_,rfl,p,C,dx,_,_,rfl,hp,R.cl,R.nB,bQ _ _,_,b,rfl,by split<;>omega,Int.le_of_lt hb,?_⟩
  have e:Nat.gcd (if t<0 then -t else t).natAbs b.natAbs=1:=by
   have:(if t<0 then -t else t).natAbs=t.natAbs:=by split<;>omega
   rw [this];exact hg
  rw [e]
  exact ⟨_,_,rfl,rfl,k⟩
def re:Sp:=fun vs H Q _=>∃ (a:Addr) (ns:List Int),vs=[.ref a]/\H a=some (.lst (ns.map V.int))/\Q (.bl true) H
theorem EU {f:Addr} {fd:FuncData} (F:Fun K "_law_poly" "_law_poly" kF f fd) (T:Txt K mg) {uJ:Addr} {ul:FuncData} (vV:Cal P w K mg base 1 "_law_whole" ["_law_found"] oG uJ ul):FnOk P w K mg base CX0 2 f fd ["_law_found"] re:=by
 obtain ⟨qB,pM,pT,qw⟩:=vV
 refine F.ok sc__law_poly (fun vs H Q E h=>?_) (fun cdv A outer s H vs Q E hr h=>?_)
 ·obtain ⟨a,ns,rfl,_⟩:=h
  rfl
 ·obtain ⟨a,ns,rfl,hA,k⟩:=h
  refine ⟨_,(ah (aV (fg (eu (bH (nX (K:=K) rfl) (by rfl) T.isinstance_ PyProof.Rows.boot_isinstance (aa (pv 0) (aa (sH (v:=.ty "list") (by rfl) T.list_ PyProof.Rows.boot_list (by rfl)) ac)))))
   (ao (aC gF))
   aW)
   (ah (cR PassesOwn.never rfl (dY (K:=K) rfl (pv 0)) (aT (i:=1) sc__law_poly.nd rfl (Or.inl rfl))
     (ao (aV (fg (eu (aq qB (hr.mono) rfl pM pT qw .nil ai (aa (pv 1) ac))))
       (ao (aC gF))
       aW)))
   (ao (aC gF)))),?_⟩
  refine bK (fL (sj (mL ⟨_,rfl,tO (.lst hA) (k:=true) (by rfl) ⟨_,rfl,cQ ?_⟩⟩)))
  refine ⟨_,rfl,a,rfl,⟨_,SqL.of hA⟩,nC (K:=K) (a:=a) (xs:=ns.map V.int) (fun i σ' H'=>∃ z:Option V,σ'=[some (.ref a),z]/\H=H') ⟨none,rfl,rfl⟩ ?_ ?_ ?_⟩
  ·rintro i σ' H' _ ⟨z,rfl,rfl⟩
   exact SqL.of hA
  ·rintro i x σ' H' hi ⟨z,rfl,rfl⟩
   obtain ⟨y,_,rfl,_,_⟩:=ga hi
   exact ⟨_,rfl,_,rfl,_,rfl,cQ ⟨_,rfl,rfl⟩⟩
  ·rintro σ' H' ⟨z,rfl,rfl⟩
   exact k
def oO:Sp:=fun vs H Q _=>∃ (p:Addr) (u v w d:Int),vs=[.ref p]/\WT H p u v w d/\WOk u v w d/\mkL H Q (dN u v w d)
theorem EX {f:Addr} {fd:FuncData} (F:Fun K "_law_least" "_law_least" kI f fd) (T:Txt K mg) {Js:Addr} {ID:FuncData} (Mb:Cal P w K mg base 2 "_law_plain" ["_law_row"] rf Js ID):FnOk P w K mg base CX0 3 f fd ["_law_worth_here"] oO:=by
 obtain ⟨AW,yR,za,AG⟩:=Mb
 refine F.ok sc__law_least (fun vs H Q E h=>?_) (fun cdv A outer s H vs Q E hr h=>?_)
 ·obtain ⟨p,u,v,w,d,rfl,_⟩:=h
  rfl
 ·obtain ⟨p,u,v,w,d,rfl,hp,hW,k⟩:=h
  have hw:=hW.w1
  refine ⟨_,(ah (eD (pv 0) (gD rfl (cj (aT (i:=1) sc__law_least.nd rfl (Or.inl rfl)) (cj (aT (i:=2) sc__law_least.nd rfl (Or.inl rfl)) (cj (aT (i:=3) sc__law_least.nd rfl (Or.inl rfl)) (cj (aT (i:=4) sc__law_least.nd rfl (Or.inl rfl)) gC))))))
   (ah (aV (aM cX (pv 2) af (aH _))
     (ao (aC (aq AW (hr.mono) rfl yR za AG .nil ai (aa (bz (aa (bU bT (pv 1)) (aa (pv 3) ac))) ac))))
     aW)
   (ao (aC (aq AW (hr.mono) rfl yR za AG .nil ai (aa (bz (aa (aj cs (aj aN (pv 1) (pv 1)) (aj aN (aj aN (pv 4) (pv 2)) (pv 2))) (aa (aj aN (aj aN (bU bT af) (pv 1)) (pv 3)) (aa (aj aN (pv 3) (pv 3)) ac)))) ac)))))),?_⟩
  refine ⟨_,rfl,p,_,rfl,SqT.of hp,rfl,_,_,rfl,_,_,rfl,_,_,rfl,_,_,rfl,rfl,?_⟩
  dsimp only
  refine gA (fun σ' H'=>σ'=[some (.ref p),some (.int u),some (.int v),some (.int w),some (.int d)]/\H=H') ⟨rfl,rfl⟩ ?_
  rintro σ' H' ⟨rfl,rfl⟩
  refine bK ⟨_,rfl,_,_,rfl,rfl,_,rfl,aQ (fun h0=>?_) (fun h0=>?_)⟩
  ·have h0':v=0:=h0
   refine bh ⟨_,rfl,_,rfl,_,rfl,by show 2<=sizeLine;decide,fun q hq=>?_⟩
   have s1:Same H (upd H q (.lst [V.int (-u),V.int w])):=Same.upd_new hq
   refine ⟨q,[-u,w],rfl,av,wq (by omega),by simp,hw,by show 2<=100;decide,fun x hx=>?_,fun y H' s' hy e=>?_⟩
   ·simp only [List.mem_cons,List.not_mem_nil,or_false] at hx
    rcases hx with rfl | rfl
    ·exact hW.bu.neg.mono
    ·exact hW.bw.mono
   ·refine k y H' (s1.trans s') (s1.free hy) ?_
    unfold dN
    rw [if_pos h0'];exact e
  ·have h0':¬ v=0:=h0
   have b2:Bits 1000000 (-2:Int):=Bits.mono (j:=2) (by show (-2:Int).natAbs<2^2;decide) (by decide)
   have bdv:Bits 30 (d*v):=(hW.bd.mul hW.bv).mono
   have b2u:Bits 30 (-2*u):=by
    have:Bits 2 (-2:Int):=by show (-2:Int).natAbs<2^2;decide
    exact (this.mul hW.bu).mono
   have ww:0<w*w:=Int.mul_pos hw hw
   refine bh ⟨_,rfl,_,rfl,_,_,rfl,rfl,⟨hW.bu.mono,hW.bu.mono⟩,_,rfl,_,rfl,_,_,rfl,rfl,⟨hW.bd.mono,hW.bv.mono⟩,_,rfl,_,_,rfl,rfl,⟨bdv.mono,hW.bv.mono⟩,_,_,rfl,rfl,?_⟩
   refine ⟨_,rfl,_,rfl,_,_,rfl,rfl,⟨b2,hW.bu.mono⟩,_,rfl,_,_,rfl,rfl,⟨b2u.mono,hW.bw.mono⟩,?_⟩
   refine ⟨_,rfl,_,rfl,_,_,rfl,rfl,⟨hW.bw.mono,hW.bw.mono⟩,by show 3<=sizeLine;decide,fun q hq=>?_⟩
   have s1:Same H (upd H q (.lst [V.int (u*u-d*v*v),V.int (-2*u*w),V.int (w*w)])):=Same.upd_new hq
   refine ⟨q,[u*u-d*v*v,-2*u*w,w*w],rfl,av,wn (by omega),by simp,ww,by show 3<=100;decide,fun x hx=>?_,fun y H' s' hy e=>?_⟩
   ·simp only [List.mem_cons,List.not_mem_nil,or_false] at hx
    rcases hx with rfl | rfl | rfl
    ·exact Bits.mono (Bits.sub (k:=60) ((hW.bu.mul hW.bu).mono) ((bdv.mul hW.bv).mono)) (by decide)
    ·exact (b2u.mul hW.bw).mono
    ·exact (hW.bw.mul hW.bw).mono
   ·refine k y H' (s1.trans s') (s1.free hy) ?_
    unfold dN
    rw [if_neg h0'];exact e
theorem lG {x m:Int} (h:0<m):0<=x%m/\x%m<m:=⟨Int.emod_nonneg _ (Int.ne_of_gt h),Int.emod_lt_of_pos _ h⟩
theorem eT {k:Int} (h0:0<=k) (h:k<2^12):Bits 9000 k:=Bits.mono (j:=12) (by show k.natAbs<2^12;omega) (by decide)
def rO:Sp:=fun vs H Q _=>∃ c:Int,vs=[.int c]/\∀ z:Int,Bits 21 z->Q (.int z) H
theorem E5 {f:Addr} {fd:FuncData} (F:Fun K "_law_amount" "_law_amount" kN f fd) (T:Txt K mg):FnOk P w K mg base CX0 1 f fd ["_law_cell"] rO:=by
 refine F.ok CC (fun vs H Q E h=>?_) (fun cdv A outer s H vs Q E hr h=>?_)
 ·obtain ⟨c,rfl,_⟩:=h
  rfl
 ·obtain ⟨c,rfl,k⟩:=h
  refine ⟨_,(ah (aV (aM cX (aj cV (pv 0) af) af (aH _))
   (ao (aC (aj cs (aj cV (aj db (pv 0) af) (aj bI (aj aN af (aj pA af af)) af)) (aj pA af af))))
   aW)
   (ao (aC (aj cs (aj cV (aj db (pv 0) af) af) af)))),?_⟩
  refine bK ⟨_,rfl,_,_,rfl,rfl,(by show (0:Int)<4;decide),_,_,rfl,rfl,_,rfl,aQ (fun _=>?_) (fun _=>?_)⟩
  ·have b6:Bits 1000000 ((10:Int)^6):=Bits.mono (j:=21) (by show ((10:Int)^6).natAbs<2^21;decide) (by decide)
   refine bh ⟨_,rfl,_,_,rfl,rfl,⟨by show (0:Int)<4;decide,eT (by decide) (by decide)⟩,_,_,rfl,rfl,⟨by decide,by decide,by decide⟩,_,_,rfl,rfl,⟨fG,b6⟩,_,_,rfl,rfl,_,_,rfl,rfl,(by show (0:Int)<2*10^6+1;decide),_,_,rfl,rfl,⟨by decide,by decide,by decide⟩,_,_,rfl,rfl,k _ ?_⟩
   obtain ⟨m0,m1⟩:=lG (x:=c/4) (m:=2*10^6+1) (by decide)
   show (c/4%(2*10^6+1)-10^6).natAbs<2^21
   omega
  ·refine bh ⟨_,rfl,_,_,rfl,rfl,⟨by show (0:Int)<4;decide,eT (by decide) (by decide)⟩,_,_,rfl,rfl,(by show (0:Int)<21;decide),_,_,rfl,rfl,k _ ?_⟩
   obtain ⟨m0,m1⟩:=lG (x:=c/4) (m:=21) (by decide)
   show (c/4%21-10).natAbs<2^21
   omega
def qP (K:PySem.W.Frag):Sp:=fun vs H Q _=>∃ (a:Addr) (ns:List Int),vs=[.ref a,.int 0]/\SqL K H a (ns.map V.int)/\∀ (p:Addr) (H':Hp) (u v w d:Int),Same H H'->H p=none->WT H' p u v w d->WOk u v w d->Q (.ref p) H'
theorem CU {v:V} (h:v∈[V.int 2,V.int 3,V.int 5,V.int 6,V.int 7,V.int 10,V.int 11,V.int 13]):∃ d:Int,v=.int d/\2<=d/\d<=13/\NSq d:=by
 simp only [List.mem_cons,List.not_mem_nil,or_false] at h
 rcases h with rfl | rfl | rfl | rfl | rfl | rfl | rfl | rfl
 ·exact ⟨_,rfl,by decide,by decide,gG (n:=1) (d:=2) (by decide) (by decide)⟩
 ·exact ⟨_,rfl,by decide,by decide,gG (n:=1) (d:=3) (by decide) (by decide)⟩
 ·exact ⟨_,rfl,by decide,by decide,gG (n:=2) (d:=5) (by decide) (by decide)⟩
 ·exact ⟨_,rfl,by decide,by decide,gG (n:=2) (d:=6) (by decide) (by decide)⟩
 ·exact ⟨_,rfl,by decide,by decide,gG (n:=2) (d:=7) (by decide) (by decide)⟩
 ·exact ⟨_,rfl,by decide,by decide,gG (n:=3) (d:=10) (by decide) (by decide)⟩
 ·exact ⟨_,rfl,by decide,by decide,gG (n:=3) (d:=11) (by decide) (by decide)⟩
 ·exact ⟨_,rfl,by decide,by decide,gG (n:=3) (d:=13) (by decide) (by decide)⟩
theorem EN {f:Addr} {fd:FuncData} (F:Fun K "_law_worth" "_law_worth" kz f fd) (T:Txt K mg) {Jw:Addr} {IH:FuncData} (Mf:Cal P w K mg base 1 "_law_amount" ["_law_cell"] rO Jw IH) {uM:Addr} {ur:FuncData} (vY:Cal P w K mg base 1 "_law_cell_at" ["_law_script","_law_k"] (gw K) uM ur):FnOk P w K mg base CX0 2 f fd ["_law_script","_law_k"] (qP K):=by
 obtain ⟨AY,yT,zc,AI⟩:=Mf
 obtain ⟨jo,ix,iE,jh⟩:=vY
 refine F.ok sc__law_worth (fun vs H Q E h=>?_) (fun cdv A outer s H vs Q E hr h=>?_)
 ·obtain ⟨a,ns,rfl,_⟩:=h
  rfl
 ·obtain ⟨a,ns,rfl,hS,k⟩:=h
  refine ⟨_,(ah (ap (i:=2) sc__law_worth.nd rfl (Or.inl rfl) (aj aN (aq AY (hr.mono) rfl yT zc AI .nil ai (aa (aq jo (hr.mono) rfl ix iE jh .nil ai (aa (pv 0) (aa (aj bI (pv 1) af) ac))) ac)) (gE qt (by rfl) T.int_ PyProof.Rows.boot_int (aa (dZ cW (aj cV (aq jo (hr.mono) rfl ix iE jh .nil ai (aa (pv 0) (aa (aj bI (pv 1) af) ac))) af) af (aH _)) ac))))
   (ah (ap (i:=3) sc__law_worth.nd rfl (Or.inl rfl) (aq jo (hr.mono) rfl ix iE jh .nil ai (aa (pv 0) (aa (aj bI (pv 1) af) ac))))
   (ao (aC (cU (aa (aq AY (hr.mono) rfl yT zc AI .nil ai (aa (aq jo (hr.mono) rfl ix iE jh .nil ai (aa (pv 0) (aa (pv 1) ac))) ac)) (aa (pv 2) (aa (aj bI af (aj cV (aj db (pv 3) af) af)) (aa (aI (cw (K:=K) rfl) (bz (aa af (aa af (aa af (aa af (aa af (aa af (aa af (aa af ac))))))))) (aj cV (pv 3) af) (fun _ _=>rfl)) ac))))))))),?_⟩
  refine aD ⟨_,rfl,_,rfl,_,_,rfl,rfl,a,ns,1,rfl,hS,_,rfl,fun z hz=>?_⟩
  have b1:Bits 1000000 (if decide (ns.getD 1 0%5>0)=true then (1:Int) else 0):=by split;exact sN;exact Bits.zero
  refine ⟨_,rfl,_,rfl,_,_,rfl,rfl,a,ns,1,rfl,hS,_,_,rfl,rfl,(by show (0:Int)<5;decide),_,_,rfl,rfl,.inr ⟨_,rfl,_,_,rfl,rfl,⟨hz.mono,b1⟩,?_⟩⟩
  have bv:Bits 21 (z*(if decide (ns.getD 1 0%5>0)=true then (1:Int) else 0)):=by
   split
   ·rw [Int.mul_one];exact hz
   ·rw [Int.mul_zero];exact Bits.zero
  show dk _ _ _ _ _
  generalize z*(if decide (ns.getD 1 0%5>0)=true then (1:Int) else 0)=v at bv
  refine gA (fun σ' H'=>∃ v:Int,σ'=[some (.ref a),some (.int 0),some (.int v),none]/\H=H'/\Bits 21 v) ⟨_,rfl,rfl,?_⟩ ?_
  ·split
   ·rw [Int.mul_one];exact hz
   ·rw [Int.mul_zero];exact Bits.zero
  rintro σ' H' ⟨v,rfl,rfl,bv⟩
  refine aD ⟨_,rfl,_,rfl,_,_,rfl,rfl,a,ns,2,rfl,hS,?_⟩
  refine bh ⟨_,rfl,_,rfl,a,ns,0,rfl,hS,_,rfl,fun u bu=>?_⟩
  refine ⟨_,rfl,_,rfl,_,_,rfl,rfl,⟨by show (0:Int)<8;decide,eT (by decide) (by decide)⟩,_,_,rfl,rfl,(by show (0:Int)<12;decide),_,_,rfl,rfl,by show 8<=sizeLine;decide,fun p hp=>?_⟩
  obtain ⟨x,hx,ex⟩:=AK (xs:=[V.int 2,V.int 3,V.int 5,V.int 6,V.int 7,V.int 10,V.int 11,V.int 13]) (n:=8) rfl (by decide) (ns.getD 2 0)
  obtain ⟨d,rfl,hd2,hd13,hns⟩:=CU hx
  have s1:Same H (upd H p (.lst [V.int 2,V.int 3,V.int 5,V.int 6,V.int 7,V.int 10,V.int 11,V.int 13])):=Same.upd_new hp
  refine ⟨_,rfl,_,_,rfl,rfl,(by show (0:Int)<8;decide),p,_,_,_,rfl,rfl,SqL.of av,ex,by show 4<=sizeLine;decide,fun q hq=>?_⟩
  obtain ⟨m0,m1⟩:=lG (x:=ns.getD 2 0/8) (m:=12) (by decide)
  exact k q _ u v _ d (s1.then_new hq) (s1.free hq) av ⟨bu,bv,by omega,by omega,hd2,hd13,hns⟩
def qW (C:Addr):Sp:=fun vs H Q _=>∃ (p:Addr) (u v w d m:Int),vs=[.ref p,.int m]/\WT H p u v w d/\WOk u v w d/\0<=m/\m<60/\∀ (t l h:Addr) (H':Hp) (l1 l2 h1 h2:Int),Same H H'->H t=none->H' t=some (.tup [.ref l,.ref h])->RA C H' l l1 l2->RA C H' h h1 h2->SpE u v w d m l1 l2 h1 h2->Q (.ref t) H'
theorem ER {C f:Addr} {fd:FuncData} (F:Fun K "_law_span" "_law_span" kC f fd) (T:Txt K mg) (R:RCI K mg C) {f_Ratio:Addr} {fd_Ratio:FuncData} {ds_Ratio:List Value} (cE:KCal P w K mg base 2 C "Ratio" ["self","top","bottom"] (dm C) f_Ratio fd_Ratio ds_Ratio [.int 1]):FnOk P w K mg base CX0 4 f fd ["_law_worth_here","_law_more"] (qW C):=by
 obtain ⟨bZ,bX,bV,cu,di,de⟩:=cE
 refine F.ok sc__law_span (fun vs H Q E h=>?_) (fun cdv A outer s H vs Q E hr h=>?_)
 ·obtain ⟨p,u,v,w,d,m,rfl,_⟩:=h
  rfl
 ·obtain ⟨p,u,v,w,d,m,rfl,hp,hW,hm0,hm,k⟩:=h
  have hw:=hW.w1
  have w0:w≠0:=by omega
  refine ⟨_,(ah (eD (pv 0) (gD rfl (cj (aT (i:=2) sc__law_span.nd rfl (Or.inl rfl)) (cj (aT (i:=3) sc__law_span.nd rfl (Or.inl rfl)) (cj (aT (i:=4) sc__law_span.nd rfl (Or.inl rfl)) (cj (aT (i:=5) sc__law_span.nd rfl (Or.inl rfl)) gC))))))
   (ah (aV (aM cW (pv 3) af (aH _))
     (ao (aC (cU (aa (cN bX bZ (hr.mono) rfl bV cu .nil ai (aa (pv 2) (aa (pv 4) ac))) (aa (cN bX bZ (hr.mono) rfl bV cu .nil ai (aa (aj bI (aj bI (pv 2) (aj aN (pv 3) (pv 5))) (pv 1)) (aa (pv 4) ac))) ac)))))
     aW)
   (ah (aV (aM du (pv 3) af (aH _))
     (ao (aC (cU (aa (cN bX bZ (hr.mono) rfl bV cu .nil ai (aa (aj cs (aj bI (pv 2) (aj aN (pv 3) (pv 5))) (pv 1)) (aa (pv 4) ac))) (aa (cN bX bZ (hr.mono) rfl bV cu .nil ai (aa (pv 2) (aa (pv 4) ac))) ac)))))
     aW)
   (ao (aC (cU (aa (cN bX bZ (hr.mono) rfl bV cu .nil ai (aa (aj cs (aj cs (pv 2) af) (pv 1)) (aa (pv 4) ac))) (aa (cN bX bZ (hr.mono) rfl bV cu .nil ai (aa (aj bI (pv 2) (aj db (pv 1) af)) (aa (pv 4) ac))) ac)))))))),?_⟩
  refine ⟨_,rfl,p,_,rfl,SqT.of hp,rfl,_,_,rfl,_,_,rfl,_,_,rfl,_,_,rfl,rfl,?_⟩
  dsimp only
  refine gA (fun σ' H'=>σ'=[some (.ref p),some (.int m),some (.int u),some (.int v),some (.int w),some (.int d)]/\H=H') ⟨rfl,rfl⟩ ?_
  rintro σ' H' ⟨rfl,rfl⟩
  have bw9:Bits 9000 w:=hW.bw.mono
  have bvd:Bits 30 (v*d):=(hW.bv.mul hW.bd).mono
  have bN:∀ x:Int,Bits 35 x->Bits 40 (rt x w)/\Bits 40 (rb x w):=fun x hx=>⟨(eV w0 hx).mono,(fc w0 hW.bw).mono⟩
  have fin:∀ (x y:Int),x=cv u v d m->y=cI u v d m->Bits 35 x->Bits 35 y->SpE u v w d m (rt x w) (rb x w) (rt y w) (rb y w):=fun x y ex ey bx by'=>⟨dB w0,dB w0,(bN x bx).1,(bN x bx).2,(bN y by').1,(bN y by').2,mN w0,mN w0,by rw [<- ex];exact fe w0,by rw [<- ey];exact fe w0⟩
  have b60:Bits 30 m:=by show m.natAbs<2^30;omega
  have bu30:Bits 30 u:=hW.bu.mono
  have bs1:Bits 35 (u+v*d+m):=Bits.mono (Bits.add (k:=31) (Bits.add bu30 bvd) (b60.mono)) (by decide)
  have bs2:Bits 35 (u+v*d-m):=Bits.mono (Bits.sub (k:=31) (Bits.add bu30 bvd) (b60.mono)) (by decide)
  have bs3:Bits 35 (u-1-m):=Bits.mono (Bits.sub (k:=31) (Bits.sub bu30 (b1k (by decide))) (b60.mono)) (by decide)
  have b3:Bits 30 (m/3):=by show (m/3).natAbs<2^30;omega
  have bs4:Bits 35 (u+m/3):=Bits.mono (Bits.add bu30 b3) (by decide)
  have bu35:Bits 35 u:=hW.bu.mono
  refine bK ⟨_,rfl,_,_,rfl,rfl,_,rfl,aQ (fun h0=>?_) (fun h0=>?_)⟩
  ·have h0':0<v:=h0
   refine bh ⟨_,rfl,_,rfl,dc (t:=u) w0 bw9 fun l H1 s1 hl hRl=>?_⟩
   refine ⟨_,rfl,_,rfl,_,rfl,_,_,rfl,rfl,⟨hW.bv.mono,hW.bd.mono⟩,_,_,rfl,rfl,_,rfl,_,_,rfl,rfl,_,rfl,dc (t:=u+v*d+m) w0 bw9 fun h H2 s2 hh hRh=>?_⟩
   refine ⟨by show 2<=sizeLine;decide,fun q hq=>?_⟩
   have sq:=Same.upd_new (o:=.tup [V.ref l,V.ref h]) hq
   have t2:=s1.trans s2
   exact k q l h _ _ _ _ _ (t2.then_new hq) (t2.free hq) av ((hRl.same s2).same sq) (hRh.same sq) (fin _ _ (by unfold cv;rw [if_pos h0']) (by unfold cI;rw [if_pos h0']) bu35 bs1)
  have h0':¬ 0<v:=h0
  refine bK ⟨_,rfl,_,_,rfl,rfl,_,rfl,aQ (fun h1=>?_) (fun h1=>?_)⟩
  ·have h1':v<0:=h1
   refine bh ⟨_,rfl,_,rfl,_,rfl,_,_,rfl,rfl,⟨hW.bv.mono,hW.bd.mono⟩,_,_,rfl,rfl,_,rfl,_,_,rfl,rfl,_,rfl,dc (t:=u+v*d-m) w0 bw9 fun l H1 s1 hl hRl=>?_⟩
   refine ⟨_,rfl,_,rfl,dc (t:=u) w0 bw9 fun h H2 s2 hh hRh=>?_⟩
   refine ⟨by show 2<=sizeLine;decide,fun q hq=>?_⟩
   have sq:=Same.upd_new (o:=.tup [V.ref l,V.ref h]) hq
   have t2:=s1.trans s2
   exact k q l h _ _ _ _ _ (t2.then_new hq) (t2.free hq) av ((hRl.same s2).same sq) (hRh.same sq) (fin _ _ (by unfold cv;rw [if_neg h0',if_pos h1']) (by unfold cI;rw [if_neg h0',if_pos h1']) bs2 bu35)
  have h1':¬ v<0:=h1
  refine bh ⟨_,rfl,_,_,rfl,rfl,_,rfl,_,_,rfl,rfl,_,rfl,dc (t:=u-1-m) w0 bw9 fun l H1 s1 hl hRl=>?_⟩
  refine ⟨_,rfl,_,rfl,_,_,rfl,rfl,⟨by show (0:Int)<3;decide,eT (by decide) (by decide)⟩,_,_,rfl,rfl,_,rfl,dc (t:=u+m/3) w0 bw9 fun h H2 s2 hh hRh=>?_⟩
  refine ⟨by show 2<=sizeLine;decide,fun q hq=>?_⟩
  have sq:=Same.upd_new (o:=.tup [V.ref l,V.ref h]) hq
  have t2:=s1.trans s2
  exact k q l h _ _ _ _ _ (t2.then_new hq) (t2.free hq) av ((hRl.same s2).same sq) (hRh.same sq) (fin _ _ (by unfold cv;rw [if_neg h0',if_neg h1']) (by unfold cI;rw [if_neg h0',if_neg h1']) bs3 bs4)
structure IsN (C CN:Addr) (H:Hp) (x q l h:Addr) (ns:List Int) (l1 l2 h1 h2:Int) (u v w d:Int):Prop where
 na:NA CN H x q l h
 po:H q=some (.lst (ns.map V.int))
 rl:RA C H l l1 l2
 rh:RA C H h h1 h2
 en:EndsG 3000 l1 l2 h1 h2
 lo:UpW u v w d l1 l2
 hi:¬ UpW u v w d h1 h2
 ol:0<v->u*l2<=l1*w
 oh:v<0->h1*w<=u*h2
theorem IsN.same {C CN:Addr} {H H':Hp} {x q l h:Addr} {ns:List Int} {l1 l2 h1 h2 u v w d:Int} (i:IsN C CN H x q l h ns l1 l2 h1 h2 u v w d) (s:Same H H'):IsN C CN H' x q l h ns l1 l2 h1 h2 u v w d:=⟨i.na.same s,s _ _ i.po,i.rl.same s,i.rh.same s,i.en,i.lo,i.hi,i.ol,i.oh⟩
def rE (C CN:Addr):Sp:=fun vs H Q _=>∃ (x q l h p b:Addr) (ns:List Int) (l1 l2 h1 h2 u v w d:Int),vs=[.ref x,.ref p,.ref b]/\IsN C CN H x q l h ns l1 l2 h1 h2 u v w d/\WT H p u v w d/\WOk u v w d/\H b=some (.lst (ns.map V.int))/\ns.length<=100/\∀ H',Same H H'->Q (.bl true) H'
theorem EY {C CN f:Addr} {fd:FuncData} (F:Fun K "_law_is" "_law_is" kJ f fd) (T:Txt K mg) (R:RCI K mg C) (RN:NCI K mg CN) {Jr:Addr} {IC:FuncData} (Ma:Cal P w K mg base 2 "_law_poly" ["_law_found"] re Jr IC) {Jq:Addr} {IB:FuncData} (L9:Cal P w K mg base 2 "_law_ratio" ["_law_found"] (rd C) Jq IB) {Jv:Addr} {IG:FuncData} (Me:Cal P w K mg base 2 "_law_beside" ["_law_worth_here","_law_r"] (rN C) Jv IG):FnOk P w K mg base CX0 3 f fd ["_law_found","_law_worth_here","_law_due"] (rE C CN):=by
 obtain ⟨Ls,Go,Hc,Kv⟩:=Ma
 obtain ⟨AV,yQ,y9,AF⟩:=L9
 obtain ⟨qD,pO,pV,qy⟩:=Me
 refine F.ok sc__law_is (fun vs H Q E h=>?_) (fun cdv A outer s H vs Q E hr h=>?_)
 ·obtain ⟨x,q,l,h,p,b,ns,l1,l2,h1,h2,u,v,w,d,rfl,_⟩:=h
  rfl
 ·obtain ⟨x,q,l,h,p,b,ns,l1,l2,h1,h2,u,v,w,d,rfl,⟨⟨dx,hx⟩,hq,hl,hh,en,lo,hi,ol,oh⟩,hp,hW,hb,hlen,k⟩:=h
  have hu:=hr.units
  have hw:=hW.w1
  have hup:0<sgq (u*l2-l1*w) (v*l2) d:=lo
  have hdn:¬ 0<sgq (u*h2-h1*w) (v*h2) d:=hi
  refine ⟨_,(ah (aV (PW.pt (gB (fg (eu (bH (nX (K:=K) rfl) (by rfl) T.isinstance_ PyProof.Rows.boot_isinstance (aa (pv 0) (aa (sG (v:=.ref CN) rfl RN.mg rfl) ac))))) (gB (fg (eu (aq Ls (hr.mono) rfl Go Hc Kv .nil ai (aa (aO (K:=K) rfl (pv 0) rfl) ac)))) (kZ (aM (ik (K:=K) rfl hu) (aO (K:=K) rfl (pv 0) rfl) (pv 2) (aH _))))))
   (ao (aC gF))
   aW)
   (ah (aV (PW.pt (gB (fg (eu (aq AV (hr.mono) rfl yQ y9 AF .nil ai (aa (aO (K:=K) rfl (pv 0) rfl) ac)))) (kZ (fg (eu (aq AV (hr.mono) rfl yQ y9 AF .nil ai (aa (aO (K:=K) rfl (pv 0) rfl) ac)))))))
     (ao (aC gF))
     aW)
   (ah (eD (pv 1) (gD rfl (cj (aT (i:=3) sc__law_is.nd rfl (Or.inl rfl)) (cj (aT (i:=4) sc__law_is.nd rfl (Or.inl rfl)) (cj (aT (i:=5) sc__law_is.nd rfl (Or.inl rfl)) (cj (aT (i:=6) sc__law_is.nd rfl (Or.inl rfl)) gC))))))
   (ah (aV (PW.pt (gB (aM sM (aq qD (hr.mono) rfl pO pV qy .nil ai (aa (pv 1) (aa (aO (K:=K) rfl (pv 0) rfl) ac))) af (aH _)) (kZ (aM cW (aq qD (hr.mono) rfl pO pV qy .nil ai (aa (pv 1) (aa (aO (K:=K) rfl (pv 0) rfl) ac))) af (aH _)))))
     (ao (aC gF))
     aW)
   (ah (ap (i:=7) sc__law_is.nd rfl (Or.inl rfl) (cU (aa (pv 3) (aa (bU bT (pv 4)) (aa (pv 5) (aa (pv 6) ac))))))
   (ao (aC (sE (dZ cX (pv 4) af (aH _)) (sE (dZ du (aq qD (hr.mono) rfl pO pV qy .nil ai (aa (pv 7) (aa (aO (K:=K) rfl (pv 0) rfl) ac))) af (aH _)) (px (dZ cW (aq qD (hr.mono) rfl pO pV qy .nil ai (aa (pv 7) (aa (aO (K:=K) rfl (pv 0) rfl) ac))) af (aH _)))))))))))),?_⟩
  refine bK (hJ (fL (sj (mL ⟨_,rfl,ze (.ins hx RN.cl RN.ha RN.hn RN.ht RN.hm) (k:=true) (by unfold PySem.W.kitOne;rw [if_pos (by simp)]) ⟨_,rfl,cQ ?_⟩⟩))))
  refine hJ (fL ⟨_,rfl,x,CN,dx,_,_,rfl,hx,RN.cl,RN.nP,zE _ _ _,q,ns,rfl,hq,_,rfl,cQ ?_⟩)
  refine ⟨_,rfl,x,CN,dx,_,_,rfl,hx,RN.cl,RN.nP,zE _ _ _,_,rfl,q,b,ns,ns,rfl,rfl,SqL.of hq,SqL.of hb,_,rfl,cZ (fun z=>absurd rfl z) (fun _=>?_)⟩
  refine bK (hJ (fL ⟨_,rfl,x,CN,dx,_,_,rfl,hx,RN.cl,RN.nL,ua _ _ _,l,l1,l2,rfl,hl,en.l2p,en.gl,_,rfl,cQ ?_⟩))
  refine fL ⟨_,rfl,x,CN,dx,_,_,rfl,hx,RN.cl,RN.nH,ub _ _ _,h,h1,h2,rfl,hh,en.h2p,en.gh,_,rfl,cQ ?_⟩
  refine ⟨_,rfl,p,_,rfl,SqT.of hp,rfl,_,_,rfl,_,_,rfl,_,_,rfl,_,_,rfl,rfl,?_⟩
  dsimp only
  refine gA (fun σ' H'=>σ'=[some (.ref x),some (.ref p),some (.ref b),some (.int u),some (.int v),some (.int w),some (.int d),none]/\H=H') ⟨rfl,rfl⟩ ?_
  rintro σ' H' ⟨rfl,rfl⟩
  refine bK (hJ ⟨_,rfl,_,rfl,x,CN,dx,_,_,rfl,hx,RN.cl,RN.nL,ua _ _ _,p,l,u,v,w,d,l1,l2,rfl,hp,hW,hl,en.bl1,en.bl2,_,_,rfl,rfl,_,rfl,aQ (fun z=>absurd (show sgq (u*l2-l1*w) (v*l2) d<=0 from z) (by omega)) (fun _=>?_)⟩)
  refine ⟨_,rfl,_,rfl,x,CN,dx,_,_,rfl,hx,RN.cl,RN.nH,ub _ _ _,p,h,u,v,w,d,h1,h2,rfl,hp,hW,hh,en.bh1,en.bh2,_,_,rfl,rfl,_,rfl,aQ (fun z=>absurd (show sgq (u*h2-h1*w) (v*h2) d>0 from z) hdn) (fun _=>?_)⟩
  refine aD ⟨_,rfl,_,rfl,_,rfl,_,rfl,_,rfl,by show 4<=sizeLine;decide,fun po hpo=>?_⟩
  have s1:Same H (upd H po (.tup [V.int u,V.int (-v),V.int w,V.int d])):=Same.upd_new hpo
  have ho:WT (upd H po (.tup [V.int u,V.int (-v),V.int w,V.int d])) po u (-v) w d:=av
  have hWo:WOk u (-v) w d:=⟨hW.bu,hW.bv.neg,hW.w1,hW.w12,hW.d2,hW.d13,hW.ns⟩
  generalize upd H po (.tup [V.int u,V.int (-v),V.int w,V.int d])=H1 at s1 ho ⊢
  have hx1:=s1 _ _ hx
  refine bh (si ⟨_,rfl,_,_,rfl,rfl,_,rfl,aQ (fun _=>k H1 s1) (fun h0=>?_)⟩)
  have h0':¬ v=0:=h0
  refine si ⟨_,rfl,_,rfl,x,CN,dx,_,_,rfl,hx1,RN.cl,RN.nL,ua _ _ _,po,l,u,-v,w,d,l1,l2,rfl,ho,hWo,hl.same s1,en.bl1,en.bl2,_,_,rfl,rfl,_,rfl,aQ (fun _=>k H1 s1) (fun h3=>?_)⟩
  have h3':¬ sgq (u*l2-l1*w) (-v*l2) d<0:=h3
  refine ⟨_,rfl,_,rfl,x,CN,dx,_,_,rfl,hx1,RN.cl,RN.nH,ub _ _ _,po,h,u,-v,w,d,h1,h2,rfl,ho,hWo,hh.same s1,en.bh1,en.bh2,_,_,rfl,rfl,?_⟩
  have vn:v<0:=by
   refine Classical.byContradiction fun z=>?_
   have vp:0<v:=by omega
   have h4:=ol vp
   have h5:=Int.mul_pos vp en.l2p
   have h6 : -v*l2 = -(v*l2):=by grind
   rw [g8 (by omega) (by omega) (.inr (by omega))] at h3'
   exact h3' (by decide)
  have h4:=oh vn
  have h5:=Int.mul_neg_of_neg_of_pos vn en.h2p
  have h6 : -v*h2 = -(v*h2):=by grind
  have e1:sgq (u*h2-h1*w) (-v*h2) d=1:=g7 (by omega) (by omega) (.inr (by omega))
  rw [e1]
  exact k H1 s1
def qR:Sp:=fun vs H Q _=>∃ (a b:Addr) (xs ys:List Int),vs=[.ref a,.ref b]/\H a=some (.lst (xs.map V.int))/\H b=some (.lst (ys.map V.int))/\xs≠[]/\ys≠[]/\xs.length<=1000/\ys.length<=1000/\AllB 1000000 xs/\AllB 1000000 ys/\mkL H Q (ad xs ys)
theorem EQ {f:Addr} {fd:FuncData} (F:Fun K "_law_times" "_law_times" kB f fd) (T:Txt K mg):FnOk P w K mg base CX0 1 f fd ["_law_one","_law_other"] qR:=by
 refine F.ok sc__law_times (fun vs H Q E h=>?_) (fun cdv A outer s H vs Q E hr h=>?_)
 ·obtain ⟨a,b,xs,ys,rfl,_⟩:=h
  rfl
 ·obtain ⟨a,b,xs,ys,rfl,hA,hB,hx0,hy0,hx,hy,bx,by',k⟩:=h
  have big:=sizeLine_eq
  refine ⟨_,(ah (ap (i:=2) sc__law_times.nd rfl (Or.inl rfl) (aj sL (bz (aa af ac)) (aj cs (aj bI (bH (df (K:=K) rfl) (by rfl) T.len_ PySem.boot_len (aa (pv 0) ac)) (bH (df (K:=K) rfl) (by rfl) T.len_ PySem.boot_len (aa (pv 1) ac))) af)))
   (ah (cR PassesOwn.never rfl (lg rfl T.range_ (aa (bH (df (K:=K) rfl) (by rfl) T.len_ PySem.boot_len (aa (pv 0) ac)) ac)) (aT (i:=3) sc__law_times.nd rfl (Or.inl rfl))
     (ao (cR PassesOwn.never rfl (lg rfl T.range_ (aa (bH (df (K:=K) rfl) (by rfl) T.len_ PySem.boot_len (aa (pv 1) ac)) ac)) (aT (i:=4) sc__law_times.nd rfl (Or.inl rfl))
       (ao (eD (aj bI (aI (cw (K:=K) rfl) (pv 2) (aj bI (pv 3) (pv 4)) (fun _ _=>rfl)) (aj aN (aI (cw (K:=K) rfl) (pv 0) (pv 3) (fun _ _=>rfl)) (aI (cw (K:=K) rfl) (pv 1) (pv 4) (fun _ _=>rfl)))) (li (pv 2) (aj bI (pv 3) (pv 4)) jG))))))
   (ao (aC (pv 2))))),?_⟩
  have hlx:(xs.map V.int).length=xs.length:=List.length_map _
  have hly:(ys.map V.int).length=ys.length:=List.length_map _
  obtain ⟨la,ea⟩:∃ la,xs.length=la+1:=⟨xs.length-1,by have:=List.length_pos_iff.mpr hx0;omega⟩
  obtain ⟨lb,eb⟩:∃ lb,ys.length=lb+1:=⟨ys.length-1,by have:=List.length_pos_iff.mpr hy0;omega⟩
  have en:((xs.map V.int).length:Int)+((ys.map V.int).length:Int)-1=((la+lb+1:Nat):Int):=by rw [hlx,hly];omega
  refine aD ⟨by show 1<=sizeLine;omega,fun p2 hp2=>?_⟩
  have s0:=Same.upd_new (o:=.lst [V.int 0]) hp2
  refine ⟨_,rfl,a,_,rfl,.inl (SqL.of (s0 _ _ hA)),_,rfl,b,_,rfl,.inl (SqL.of (s0 _ _ hB)),_,_,rfl,rfl,_,_,rfl,rfl,?_⟩
  dsimp only
  rw [en]
  refine ⟨p2,_,_,rfl,rfl,av,by omega,by omega,by show 1*_<=_;omega,fun p hp=>?_⟩
  rw [show ((la+lb+1:Nat):Int).toNat=la+lb+1 from rfl,se]
  have s4:=s0.then_new (o:=.lst ((List.replicate (la+lb+1) (0:Int)).map V.int)) hp
  have hp0:=s0.free hp
  have npa:a≠p:=aZ hA hp0
  have npb:b≠p:=aZ hB hp0
  have hp4:upd (upd H p2 (.lst [V.int 0])) p (.lst ((List.replicate (la+lb+1) (0:Int)).map V.int)) p=some (.lst ((List.replicate (la+lb+1) (0:Int)).map V.int)):=av
  generalize upd (upd H p2 (.lst [V.int 0])) p (.lst ((List.replicate (la+lb+1) (0:Int)).map V.int))=H4 at s4 hp4 ⊢
  refine ⟨_,rfl,a,_,rfl,.inl (SqL.of (s4 _ _ hA)),_,rfl,by rw [hlx];omega,by rw [hlx];omega,?_⟩
  rw [hlx]
  refine qe (lo:=0) (n:=xs.length) (fun j σ' H'=>∃ (acc:List Int) (z3 z4:Option V),σ'=[some (.ref a),some (.ref b),some (.ref p),z3,z4]/\SameB p H4 H'/\H' p=some (.lst (acc.map V.int))/\acc.length=la+lb+1/\∀ n,n<acc.length->cf acc n=sm xs ys n j)
   ⟨List.replicate (la+lb+1) 0,none,none,rfl,SameB.refl _ _,hp4,by simp,fun n _=>by rw [nS];rfl⟩ ?_ ?_
  ·rintro j σ' H' hjl ⟨acc,z3,z4,rfl,sb,hpa,hal,hac⟩
   have hA':=sb _ _ npa (s4 _ _ hA)
   have hB':=sb _ _ npb (s4 _ _ hB)
   refine ⟨_,rfl,b,_,rfl,.inl (SqL.of hB'),_,rfl,by rw [hly];omega,by rw [hly];omega,?_⟩
   rw [hly]
   refine qe (lo:=0) (n:=ys.length) (fun i σ' H'=>∃ (acc:List Int) (z4:Option V),σ'=[some (.ref a),some (.ref b),some (.ref p),some (.int (0+(j:Int))),z4]/\SameB p H4 H'/\H' p=some (.lst (acc.map V.int))/\acc.length=la+lb+1/\∀ n,n<acc.length->cf acc n=sm xs ys n j+(if j<=n/\n-j<i then tm xs ys n j else 0))
    ⟨acc,z4,rfl,sb,hpa,hal,yE hac⟩ ?_ ?_
   ·rintro i σ' H' hil ⟨acc,z4,rfl,sb,hpa,hal,hac⟩
    have hA':=sb _ _ npa (s4 _ _ hA)
    have hB':=sb _ _ npb (s4 _ _ hB)
    have hji:j+i<acc.length:=by omega
    have eji:(0+((j:Nat):Int))+(0+((i:Nat):Int))=((j+i:Nat):Int):=by omega
    have e0:∀ x:Nat,(0:Int)+((x:Nat):Int)=((x:Nat):Int):=fun x=>by omega
    refine ⟨_,rfl,_,rfl,_,rfl,_,_,rfl,rfl,p,_,_,_,rfl,rfl,SqL.of hpa,ma eji hji,_,rfl,_,rfl,a,_,_,_,rfl,rfl,SqL.of hA',ma (e0 j) hjl,_,rfl,_,rfl,b,_,_,_,rfl,rfl,SqL.of hB',ma (e0 i) hil,_,_,rfl,rfl,⟨bx.cf j,by'.cf i⟩,_,_,rfl,rfl,_,rfl,_,rfl,_,rfl,_,_,rfl,rfl,p,_,_,j+i,rfl,rfl,hpa,lJ eji (by rw [List.length_map];exact hji),?_⟩
    exact ⟨acc.set (j+i) (cf acc (j+i)+cf xs j*cf ys i),_,rfl,sb.then_upd,by rw [av,pJ],by rw [List.length_set];exact hal,yD hjl hil hji hac⟩
   ·rintro σ' H' ⟨acc,z4,rfl,sb,hpa,hal,hac⟩
    exact ⟨acc,_,_,rfl,sb,hpa,hal,yF hac⟩
  ·rintro σ' H' ⟨acc,z3,z4,rfl,sb,hpa,hal,hac⟩
   refine ⟨_,rfl,k p H' (fun b' o e=>sb b' o (aZ e hp0) (s4 b' o e)) hp0 ?_⟩
   rw [hpa]
   have e:acc=ad xs ys:=by
    apply dP
    ·rw [hal];unfold ad;rw [if_neg (by intro z;exact z.elim hx0 hy0),List.length_map,List.length_range];omega
    ·intro n _
     rw [aP,yG (by omega) hac]
   rw [e]
theorem yY {u v w d:Int} (hd:0<d):dN u v w d=ag [u,d*v*v,w]:=by
 unfold dN
 show _=aB (aK u (d*v*v) w)
 unfold aK
 by_cases hv:v=0
 ·subst hv
  rw [if_pos rfl,if_pos (by omega)]
 ·have he:d*v*v≠0:=Int.mul_ne_zero (Int.mul_ne_zero (by omega) hv) hv
  rw [if_neg hv,if_neg he]
  have : -2*u*w = -2*w*u:=by grind
  rw [this]
theorem mQ (a:List (List Int)):∀ b:List (List Int),prd (b++a)=ad (prd b) (prd a)
 | []=>by show prd a=ad [1] (prd a);rw [mX]
 | s::b=>by
   show ad s (prd (b++a))=ad (ad s (prd b)) (prd a)
   rw [mQ a b,gJ]
def usP (s:List Int) (m:Nat) (rs:List (List Int)):List (List Int×Nat):=(s,m)::rs.map fun f=>(ag f,1)
theorem ou (g:Nat->Nat) (hg:g 1=1):∀ rs:List (List Int),fP g (rs.map fun f=>(ag f,1))=prd (rs.map ag)
 | []=>rfl
 | f::rs=>by
   show ad (pw (ag f) (g 1)) (fP g (rs.map fun f=>(ag f,1)))=ad (ag f) (prd (rs.map ag))
   rw [ou g hg rs,hg,fM]
theorem wf:∀ rs:List (List Int),fP (·-1) (rs.map fun f=>(ag f,1))=[1]
 | []=>rfl
 | f::rs=>by
   show ad (pw (ag f) 0) (fP (·-1) (rs.map fun f=>(ag f,1)))=[1]
   rw [wf rs]
   show ad [1] [1]=[1]
   rfl
structure Pad (u v w d l1 l2:Int) (m:Nat) (A B D:List (List Int)) (c:Int):Prop where
 m:m=1\/m=2
 a:A=[]\/A=[[l1,0,l2]]
 b:B=[]\/∃ far:Int,(u.natAbs:Int)+(v.natAbs:Int)*d+100<=far/\far<=100000000/\(B=[[-far,0,1]]\/B=[[far,0,1]])
 d:D=[]\/∃ k:Int,1<=k/\k<=7/\D=[[0,-k,1]]
 c0:c≠0
 bc:Bits 10 c
theorem pP {t b:Int} (hb:0<b) (hg:Nat.gcd t.natAbs b.natAbs=1):ag [t,0,b]=[-t,b]:=by
 have hr:aK t 0 b=[-t,b]:=by unfold aK;rw [if_pos rfl]
 show aB (aK t 0 b)=_
 rw [hr]
 refine Pln.plain ⟨wq (by omega),by simp,?_,hb⟩
 show aA [-t,b]=1
 unfold aA
 rw [gK,gK,qd,Nat.gcd_zero_left,Int.natAbs_neg];exact hg
theorem lv (t:Int):ag [t,0,1]=[-t,1]:=pP (by decide) (Nat.gcd_one_right _)
theorem sQ {k:Int} (hk:1<=k):ag [0,-k,1]=[k,0,1]:=by
 have hr:aK 0 (-k) 1=[k,0,1]:=by unfold aK;rw [if_neg (by omega)];simp
 show aB (aK 0 (-k) 1)=_
 rw [hr]
 refine Pln.plain ⟨wn (by decide),by simp,?_,(by decide:(0:Int)<1)⟩
 show aA [k,0,1]=1
 unfold aA
 rw [gK,gK,gK,qd]
 exact Nat.gcd_one_right _
theorem yV {u b u' b':Int} (hb:1<=b) (hb':1<=b') (h:u*b'≠u'*b):ag [u,0,b]≠ag [u',0,b']:=fun z=>by
 obtain ⟨g,A0,A1,hg,eS,e0,e1,_,_⟩:=oZ (u:=u) hb
 obtain ⟨g',A0',A1',hg',eS',e0',e1',_,_⟩:=oZ (u:=u') hb'
 rw [eS,eS'] at z
 simp at z
 obtain ⟨rfl,rfl⟩:=z
 apply h
 have q:u=g * -A0:=by grind
 have q':u'=g' * -A0:=by grind
 rw [q,q',e1,e1'];grind
theorem uz {t b:Int} (h1:t.natAbs<=1000000000) (h2:1<=b) (h3:b<=1000):FacG [t,0,b]:=⟨t,0,b,rfl,by omega,by omega,by decide,by decide,h2,h3,.inl (Int.le_refl _)⟩
theorem IL {k:Int} (h1:1<=k) (h2:k<=7):FacG [0,-k,1]:=⟨0,-k,1,rfl,by decide,by decide,by omega,by omega,by decide,by decide,.inl (by omega)⟩
theorem mf {k:Nat} {x:Int} (h:Bits k x):x.natAbs<2^k:=h
theorem qf {u v w d:Int} (hW:WOk u v w d):FacG [u,d*v*v,w]:=by
 have h1:=mf hW.bu
 have h2:=mf hW.bv
 have e1:(2:Nat)^21=2097152:=rfl
 have hvv:(v*v).natAbs<=2097152*2097152:=by rw [Int.natAbs_mul];exact Nat.mul_le_mul (by omega) (by omega)
 have hd:(d*(v*v)).natAbs<=13*(2097152*2097152):=by rw [Int.natAbs_mul];exact Nat.mul_le_mul (by have:=hW.d2;have:=hW.d13;omega) hvv
 have e2:d*v*v=d*(v*v):=Int.mul_assoc _ _ _
 have hn:=Fi hW.ns v
 rw [e2] at hn ⊢
 exact ⟨u,d*(v*v),w,rfl,by omega,by omega,by omega,by omega,by have:=hW.w1;omega,by have:=hW.w12;omega,hn⟩
theorem Gs {u v w d m l1 l2 h1 h2:Int} (hW:WOk u v w d) (hm0:0<=m) (hm:m<60) (hE:SpE u v w d m l1 l2 h1 h2):l2<=12/\(l1.natAbs:Int)<=(u.natAbs:Int)+(v.natAbs:Int)*d+61/\(h1.natAbs:Int)<=((u.natAbs:Int)+(v.natAbs:Int)*d+61)/\(u.natAbs:Int)+(v.natAbs:Int)*d<=90000000:=by
 have hw:=hW.w1
 have hw12:=hW.w12
 have h1':=mf hW.bu
 have h2':=mf hW.bv
 have e1:(2:Nat)^21=2097152:=rfl
 have hvd:(v.natAbs:Int)*d<=2097152*13:=Int.mul_le_mul (by omega) hW.d13 (by have:=hW.d2;omega) (by decide)
 have nvd:0<=(v.natAbs:Int)*d:=Int.mul_nonneg (by omega) (by have:=hW.d2;omega)
 have red:∀ {t b N:Int},0<b->Nat.gcd t.natAbs b.natAbs=1->t*w=N*b->b<=w/\t.natAbs<=N.natAbs:=fun {t b N} hb hg e=>by
  have e':t.natAbs*w.natAbs=N.natAbs*b.natAbs:=by
   have:=congrArg Int.natAbs e
   rwa [Int.natAbs_mul,Int.natAbs_mul] at this
  have hd:b.natAbs∣w.natAbs:=Nat.Coprime.dvd_of_dvd_mul_left (k:=b.natAbs) (m:=t.natAbs) (by rw [Nat.Coprime,Nat.gcd_comm];exact hg) ⟨N.natAbs,by rw [e',Nat.mul_comm]⟩
  have hle:=Nat.le_of_dvd (by omega) hd
  refine ⟨by omega,?_⟩
  have:t.natAbs*w.natAbs<=N.natAbs*w.natAbs:=by rw [e'];exact Nat.mul_le_mul_left _ hle
  exact Nat.le_of_mul_le_mul_right this (by omega)
 obtain ⟨a1,a2⟩:=red hE.l2p hE.gl hE.el
 obtain ⟨b1,b2⟩:=red hE.h2p hE.gh hE.eh
 have vd:(v*d).natAbs=v.natAbs*d.natAbs:=Int.natAbs_mul _ _
 have vd2:((v.natAbs*d.natAbs:Nat):Int)=(v.natAbs:Int)*d:=by rw [Int.natCast_mul];have:=hW.d2;congr 1;omega
 have c1:((cv u v d m).natAbs:Int)<=(u.natAbs:Int)+(v.natAbs:Int)*d+61:=by
  unfold cv
  split
  ·omega
  ·split<;>omega
 have c2:((cI u v d m).natAbs:Int)<=(u.natAbs:Int)+(v.natAbs:Int)*d+61:=by
  unfold cI
  split
  ·omega
  ·split<;>omega
 exact ⟨by omega,by omega,by omega,by omega⟩
theorem sK {L:List (List Int)} {k n:Nat} (hk:1<=k) (hn:1<=n) (h:L=[]\/∃ f,L=[f]/\AllB k (ag f)/\(ag f).length<=n/\ag f≠[]):AllB k (prd (L.map ag))/\(prd (L.map ag)).length<=n/\prd (L.map ag)≠[]:=by
 rcases h with rfl | ⟨f,rfl,b,l,ne⟩
 ·exact ⟨fun x hx=>by rw [List.mem_singleton.mp hx];exact b1k hk,hn,by show ([1]:List Int)≠[];simp⟩
 ·have:prd ([f].map ag)=ag f:=cO _
  rw [this];exact ⟨b,l,ne⟩
theorem gk {k n:Nat} {x:Int} (h:x.natAbs<n) (hn:n<=2^k):Bits k x:=Nat.lt_of_lt_of_le h hn
theorem me {k:Nat} {x y:Int} (h1:Bits k x) (h2:Bits k y):AllB k [x,y]:=fun z hz=>by
 rcases List.mem_cons.mp hz with rfl | hz
 ·exact h1
 ·rw [List.mem_singleton.mp hz];exact h2
theorem DQ {u v w d m l1 l2 h1 h2 c:Int} {mm:Nat} {A B D:List (List Int)} (hW:WOk u v w d) (hm0:0<=m) (hm:m<60) (hE:SpE u v w d m l1 l2 h1 h2) (hP:Pad u v w d l1 l2 mm A B D c) :
 Made (whl c (usP (ag [u,d*v*v,w]) mm (A++(B++D)))) c (usP (ag [u,d*v*v,w]) mm (A++(B++D)))/\flt (usP (ag [u,d*v*v,w]) mm (A++(B++D)))=prQ ([u,d*v*v,w]::(A++(B++D)))/\OneW ([u,d*v*v,w]::(A++(B++D))) [u,d*v*v,w] [u,d*v*v,w,eU v] l1 l2 h1 h2:=by
 obtain ⟨s1,s2,s3,s4⟩:=Gs hW hm0 hm hE
 obtain ⟨en,ol,oh,lU,hU⟩:=v4 hW hm0 hm hE
 have hw:=hW.w1
 have hw12:=hW.w12
 have l2p:=hE.l2p
 have h2p:=hE.h2p
 have nvd:0<=(v.natAbs:Int)*d:=Int.mul_nonneg (by omega) (by have:=hW.d2;omega)
 have fA:∀ f∈A,FacG f/\ag f=[-l1,l2]/\f=[l1,0,l2]:=fun f hf=>by
  rcases hP.a with rfl | rfl
  ·cases hf
  ·rw [List.mem_singleton.mp hf];exact ⟨uz (by omega) (by omega) (by omega),pP l2p hE.gl,rfl⟩
 have fB:∀ f∈B,FacG f/\∃ t:Int,f=[t,0,1]/\ag f=[-t,1]/\(u.natAbs:Int)+(v.natAbs:Int)*d+100<=(t.natAbs:Int)/\(t.natAbs:Int)<=100000000:=fun f hf=>by
  rcases hP.b with rfl | ⟨far,g1,g2,rfl | rfl⟩
  ·cases hf
  ·rw [List.mem_singleton.mp hf];exact ⟨uz (by omega) (by decide) (by decide),-far,rfl,lv _,by omega,by omega⟩
  ·rw [List.mem_singleton.mp hf];exact ⟨uz (by omega) (by decide) (by decide),far,rfl,lv _,by omega,by omega⟩
 have fD:∀ f∈D,FacG f/\∃ k:Int,1<=k/\k<=7/\f=[0,-k,1]/\ag f=[k,0,1]:=fun f hf=>by
  rcases hP.d with rfl | ⟨k,g1,g2,rfl⟩
  ·cases hf
  ·rw [List.mem_singleton.mp hf];exact ⟨IL g1 g2,k,g1,g2,rfl,sQ g1⟩
 have f0:=qf hW
 have fR:∀ f∈A++(B++D),FacG f:=fun f hf=>by
  rcases List.mem_append.mp hf with z | z
  ·exact (fA f z).1
  rcases List.mem_append.mp z with z | z
  ·exact (fB f z).1
  ·exact (fD f z).1
 have nA:(A.map ag).Nodup:=by rcases hP.a with rfl | rfl<;>simp
 have nB:(B.map ag).Nodup:=by rcases hP.b with rfl | ⟨far,_,_,rfl | rfl⟩<;>simp
 have nD:(D.map ag).Nodup:=by rcases hP.d with rfl | ⟨k,_,_,rfl⟩<;>simp
 have dAB:∀ f∈A,∀ g∈B,ag f≠ag g:=fun f hf g hg z=>by
  obtain ⟨t,_,e2,e3,_⟩:=(fB g hg).2
  rw [(fA f hf).2.1,e2] at z
  simp at z
  omega
 have dAD:∀ f∈A,∀ g∈D,ag f≠ag g:=fun f hf g hg z=>by
  obtain ⟨k,_,_,_,e2⟩:=(fD g hg).2
  rw [(fA f hf).2.1,e2] at z
  simp at z
 have dBD:∀ f∈B,∀ g∈D,ag f≠ag g:=fun f hf g hg z=>by
  obtain ⟨t,_,e2,_⟩:=(fB f hf).2
  obtain ⟨k,_,_,_,e3⟩:=(fD g hg).2
  rw [e2,e3] at z
  simp at z
 have d0:∀ f∈A++(B++D),ag [u,d*v*v,w]≠ag f:=fun f hf=>by
  by_cases hv:v=0
  ·subst hv
   have e0:d*0*0=0:=by omega
   rw [e0]
   have eL:cv u 0 d m=u-1-m:=by unfold cv;rw [if_neg (by decide),if_neg (by decide)]
   rcases List.mem_append.mp hf with z | z
   ·rw [(fA f z).2.2]
    refine yV (by omega) (by omega) fun y=>?_
    have:=hE.el
    rw [eL] at this
    have q:(u-1-m)*l2=u*l2-(1+m)*l2:=by grind
    have:=Int.mul_pos (show 0<1+m by omega) l2p
    omega
   rcases List.mem_append.mp z with z | z
   ·obtain ⟨t,e1,_,e3,_⟩:=(fB f z).2
    rw [e1]
    refine yV (by omega) (by decide) fun y=>?_
    rw [Int.mul_one] at y
    have y2:u.natAbs=t.natAbs*w.natAbs:=by rw [y,Int.natAbs_mul]
    have y3:t.natAbs*1<=t.natAbs*w.natAbs:=Nat.mul_le_mul_left _ (by omega)
    omega
   ·obtain ⟨k,_,_,_,e2⟩:=(fD f z).2
    rw [e2]
    intro y
    have:=oZ (u:=u) (b:=w) (by omega)
    obtain ⟨_,A0,A1,_,eS,_⟩:=this
    rw [eS] at y
    simp at y
  ·have he:0<d*v*v:=by
    rw [Int.mul_assoc]
    refine Int.mul_pos (by have:=hW.d2;omega) ?_
    rcases Int.lt_or_gt_of_ne hv with z | z
    ·exact Int.mul_pos_of_neg_of_neg z z
    ·exact Int.mul_pos z z
   obtain ⟨g,A0,A1,A2,hg,eS,e0,e1,e2,hA⟩:=rT (u:=u) (b:=w) (by omega) (show d*v*v≠0 by omega)
   rw [eS]
   rcases List.mem_append.mp hf with z | z
   ·rw [(fA f z).2.1];intro y;simp at y
   rcases List.mem_append.mp z with z | z
   ·obtain ⟨t,_,e3,_⟩:=(fB f z).2
    rw [e3];intro y;simp at y
   ·obtain ⟨k,k1,_,_,e3⟩:=(fD f z).2
    rw [e3]
    intro y
    simp at y
    obtain ⟨rfl,rfl,rfl⟩:=y
    have u0:u=0:=by
     have:w*u=0:=by
      have q : -2*w*u = -2*(w*u):=Int.mul_assoc _ _ _
      omega
     rcases Int.mul_eq_zero.mp this with y | y
     ·omega
     ·exact y
    subst u0
    have:=Int.mul_pos hg (show 0<A0 by omega)
    omega
 have nR:((A++(B++D)).map ag).Nodup:=by
  rw [List.map_append,List.map_append]
  refine List.nodup_append.mpr ⟨nA,List.nodup_append.mpr ⟨nB,nD,?_⟩,?_⟩
  ·intro x hx y hy
   obtain ⟨f,hf,rfl⟩:=List.mem_map.mp hx
   obtain ⟨g,hg,rfl⟩:=List.mem_map.mp hy
   exact dBD f hf g hg
  ·intro x hx y hy
   obtain ⟨f,hf,rfl⟩:=List.mem_map.mp hx
   rcases List.mem_append.mp hy with z | z
   ·obtain ⟨g,hg,rfl⟩:=List.mem_map.mp z
    exact dAB f hf g hg
   ·obtain ⟨g,hg,rfl⟩:=List.mem_map.mp z
    exact dAD f hf g hg
 have hF:Fam ([u,d*v*v,w]::(A++(B++D))):=by
  refine ⟨fun f hf=>?_,?_⟩
  ·rcases List.mem_cons.mp hf with z | z
   ·rw [z];exact f0
   ·exact fR f z
  ·rw [List.map_cons]
   refine List.nodup_cons.mpr ⟨fun z=>?_,nR⟩
   obtain ⟨f,hf,e⟩:=List.mem_map.mp z
   exact d0 f hf e.symm
 have hno:∀ x∈aL (A++(B++D)),¬ (0<au x l1 l2/\au x h1 h2<=0):=fun x hx=>by
  obtain ⟨f,hf,hsf⟩:=List.mem_flatMap.mp hx
  rcases List.mem_append.mp hf with z | z
  ·rw [(fA f z).2.2,mz] at hsf
   rw [List.mem_singleton.mp hsf]
   rintro ⟨y,_⟩
   have:=side_line.mp y
   have e:l2*l1=l1*l2:=Int.mul_comm _ _
   omega
  rcases List.mem_append.mp z with z | z
  ·obtain ⟨t,e1,_,e3,_⟩:=(fB f z).2
   rw [e1,mz] at hsf
   rw [List.mem_singleton.mp hsf]
   rintro ⟨y1,y2⟩
   have z1:=side_line.mp y1
   have z2:¬ 1*h1<t*h2:=fun y=>by have:=side_line.mpr y;omega
   rcases Int.lt_or_le 0 t with w1 | w1
   ·have:=Int.mul_le_mul_of_nonneg_left (show 1<=h2 by omega) (Int.le_of_lt w1)
    omega
   ·have:=Int.mul_le_mul_of_nonneg_left (show 1<=l2 by omega) (show 0 <= -t by omega)
    have e : -t*l2 = -(t*l2):=Int.neg_mul _ _
    omega
  ·obtain ⟨k,k1,_,e2,_⟩:=(fD f z).2
   rw [e2] at hsf
   have:spF [0,-k,1]=[]:=by
    show (if 0 <= -k then _ else [])++(if 0 < -k then _ else [])=[]
    rw [if_neg (by omega),if_neg (by omega)];rfl
   rw [this] at hsf
   cases hsf
 obtain ⟨hO,hcn⟩:=DV hW.ns hF l2p h2p en.lt lU hU ol oh hno
 obtain ⟨bS,lS⟩:=g6 f0
 have pS:=fv f0
 have lS2:=pS.two
 obtain ⟨bA,lA,neA⟩:=sK (L:=A) (k:=31) (n:=2) (by decide) (by decide) (by
  rcases hP.a with z | z
  ·exact .inl z
  ·refine .inr ⟨_,z,?_⟩
   rw [pP l2p hE.gl]
   exact ⟨me (gk (n:=100000000) (by omega) (by decide)) (gk (n:=13) (by omega) (by decide)),Nat.le_refl _,by simp⟩)
 obtain ⟨bB,lB,neB⟩:=sK (L:=B) (k:=28) (n:=2) (by decide) (by decide) (by
  rcases hP.b with z | ⟨far,g1,g2,z | z⟩
  ·exact .inl z
  ·refine .inr ⟨_,z,?_⟩
   rw [lv]
   exact ⟨me (gk (n:=100000001) (by omega) (by decide)) (b1k (by decide)),Nat.le_refl _,by simp⟩
  ·refine .inr ⟨_,z,?_⟩
   rw [lv]
   exact ⟨me (gk (n:=100000001) (by omega) (by decide)) (b1k (by decide)),Nat.le_refl _,by simp⟩)
 obtain ⟨bD,lD,neD⟩:=sK (L:=D) (k:=4) (n:=3) (by decide) (by decide) (by
  rcases hP.d with z | ⟨k,g1,g2,z⟩
  ·exact .inl z
  ·refine .inr ⟨_,z,?_⟩
   rw [sQ g1]
   refine ⟨fun x hx=>?_,Nat.le_refl _,by simp⟩
   rcases List.mem_cons.mp hx with rfl | hx
   ·exact gk (n:=8) (by omega) (by decide)
   rcases List.mem_cons.mp hx with rfl | hx
   ·exact Bits.zero
   ·rw [List.mem_singleton.mp hx];exact b1k (by decide))
 have eR:prd ((A++(B++D)).map ag)=ad (prd (A.map ag)) (ad (prd (B.map ag)) (prd (D.map ag))):=by
  rw [List.map_append,List.map_append,mQ,mQ]
 have bBD:=io bB bD (Nat.le_refl _)
 have lBD:=bM neB neD
 have neBD:=lz neB neD
 have bR:=io bA bBD (Nat.le_refl _)
 have lR:=bM neA neBD
 have neR:=lz neA neBD
 rw [<- eR] at bR lR neR
 have bR':AllB 67 (prd ((A++(B++D)).map ag)):=bR.mono (by omega)
 have lR':(prd ((A++(B++D)).map ag)).length<=5:=by omega
 have nR1:=List.length_pos_iff.mpr neR
 have eW:prQ ([u,d*v*v,w]::(A++(B++D)))=ad (ag [u,d*v*v,w]) (prd ((A++(B++D)).map ag)):=by rw [hF.prd];rfl
 have eP:fP id (usP (ag [u,d*v*v,w]) mm (A++(B++D)))=ad (pw (ag [u,d*v*v,w]) mm) (prd ((A++(B++D)).map ag)):=by
  show ad (pw (ag [u,d*v*v,w]) mm) (fP id _)=_
  rw [ou id rfl]
 have eM:mor (usP (ag [u,d*v*v,w]) mm (A++(B++D))) 1=pw (ag [u,d*v*v,w]) (mm-1):=by
  show ad (pw (ag [u,d*v*v,w]) (mm-1)) (fP (·-1) _)=_
  rw [wf,cO]
 have eF:flt (usP (ag [u,d*v*v,w]) mm (A++(B++D)))=prQ ([u,d*v*v,w]::(A++(B++D))):=by
  rw [eW]
  show ad (pw (ag [u,d*v*v,w]) 1) (fP sO _)=_
  rw [ou sO rfl,fM]
 have use:Use (usP (ag [u,d*v*v,w]) mm (A++(B++D))):=by
  refine ⟨fun p hp=>?_,fun p hp=>?_,?_⟩
  ·rcases List.mem_cons.mp hp with z | z
   ·rw [z];exact pS
   ·obtain ⟨f,hf,rfl⟩:=List.mem_map.mp z
    exact fv (fR f hf)
  ·rcases List.mem_cons.mp hp with z | z
   ·rw [z];show 1<=mm;rcases hP.m with y | y<;>omega
   ·obtain ⟨f,hf,rfl⟩:=List.mem_map.mp z
    exact Nat.le_refl _
  ·have:=hF.nd
   have e:(usP (ag [u,d*v*v,w]) mm (A++(B++D))).map (·.1)=([u,d*v*v,w]::(A++(B++D))).map ag:=by
    show ag [u,d*v*v,w]::((A++(B++D)).map fun f=>(ag f,1)).map (·.1)=ag [u,d*v*v,w]::(A++(B++D)).map ag
    rw [List.map_map];rfl
   rw [e];exact this
 have pwb:∀ n,n<=2->AllB 127 (pw (ag [u,d*v*v,w]) n)/\(pw (ag [u,d*v*v,w]) n).length=1+n*((ag [u,d*v*v,w]).length-1)/\pw (ag [u,d*v*v,w]) n≠[]:=fun n hn=>by
  refine ⟨?_,(o6 pS.pln.ne n).1,(o6 pS.pln.ne n).2⟩
  match n,hn with
  | 0,_=>exact fun x hx=>by rw [List.mem_singleton.mp hx];exact b1k (by decide)
  | 1,_=>rw [fM];exact bS.mono
  | 2,_ =>
    show AllB 127 (ad (ag [u,d*v*v,w]) (ad (ag [u,d*v*v,w]) [1]))
    rw [cO]
    exact io bS bS (by omega)
 have hmm:1<=mm/\mm<=2:=by rcases hP.m with y | y<;>omega
 obtain ⟨q1,q2,q3⟩:=pwb mm hmm.2
 have q4:mm*((ag [u,d*v*v,w]).length-1)<=2*2:=Nat.mul_le_mul hmm.2 (by omega)
 have q5:1*1<=mm*((ag [u,d*v*v,w]).length-1):=Nat.mul_le_mul hmm.1 (by omega)
 have lP:=bM q3 neR
 rw [<- eP] at lP
 have kl:(whl c (usP (ag [u,d*v*v,w]) mm (A++(B++D)))).length=(fP id (usP (ag [u,d*v*v,w]) mm (A++(B++D)))).length:=by rw [eO,ck]
 have dg:=(qg id (usP (ag [u,d*v*v,w]) mm (A++(B++D))) fun p hp=>(use.pri p hp).pln.ne).1
 have lW:=bM pS.pln.ne neR
 rw [<- eW] at lW
 refine ⟨⟨rfl,hP.c0,hP.bc,use,by omega,by omega,?_,?_⟩,eF,⟨⟨hF,by omega,by omega,?_⟩,hO,hcn,en.mono⟩⟩
 ·rw [eP];exact io q1 bR' (by omega)
 ·rw [eM];exact (pwb (mm-1) (by omega)).1.mono
 ·rw [eW];exact io bS bR' (by omega)
def rj (C:Addr):Sp:=fun vs H Q _=>∃ (p t l h:Addr) (u v w d l1 l2 cell:Int),vs=[.ref p,.ref t,.int cell]/\WT H p u v w d/\WOk u v w d/\H t=some (.tup [.ref l,.ref h])/\RA C H l l1 l2/\0<l2/\Bits 40 l1/\Bits 40 l2/\Nat.gcd l1.natAbs l2.natAbs=1/\∀ (mm:Nat) (A B D:List (List Int)) (c:Int),Pad u v w d l1 l2 mm A B D c->mkL H Q (whl c (usP (ag [u,d*v*v,w]) mm (A++(B++D))))
theorem BS {k:Int} (h0:0<=k) (h:k<2^20):Bits 9000 k:=Bits.mono (j:=20) (by show k.natAbs<2^20;omega) (by decide)
structure Got (X:List Int):Prop where
 ne:X≠[]
 len:X.length<=20
 bits:AllB 600 X
theorem Got.mul {X Y:List Int} {k n:Nat} (h:Got X) (ne:Y≠[]) (l:Y.length<=3) (b:AllB 64 Y) (hk:AllB k X) (hn:X.length<=n) (h1:k+n+64<=600) (h2:n+3<=20):Got (ad X Y)/\AllB (k+n+64) (ad X Y)/\(ad X Y).length<=n+2:=by
 have hl:=bM h.ne ne
 have hb:=io (k:=k+n+64) hk b (by omega)
 have:=List.length_pos_iff.mpr ne
 exact ⟨⟨lz h.ne ne,by omega,hb.mono h1⟩,hb,by omega⟩
theorem EW {C f:Addr} {fd:FuncData} (F:Fun K "_law_padded" "_law_padded" kH f fd) (T:Txt K mg) (R:RCI K mg C) {uK:Addr} {um:FuncData} (vW:Cal P w K mg base 3 "_law_least" ["_law_worth_here"] oO uK um) {Jn:Addr} {Iy:FuncData} (L6:Cal P w K mg base 1 "_law_times" ["_law_one","_law_other"] qR Jn Iy):FnOk P w K mg base CX0 4 f fd ["_law_worth_here","_law_span_here","_law_cell"] (rj C):=by
 obtain ⟨qC,pN,pU,qx⟩:=vW
 obtain ⟨om,nc,nr,n6⟩:=L6
 refine F.ok sc__law_padded (fun vs H Q E h=>?_) (fun cdv A outer s H vs Q E hr h=>?_)
 ·obtain ⟨p,t,l,h,u,v,w,d,l1,l2,cell,rfl,_⟩:=h
  rfl
 ·obtain ⟨p,t,l,h,u,v,w,d,l1,l2,cell,rfl,hp,hW,ht,hl,l2p,bl1,bl2,gl,k⟩:=h
  have big:=sizeLine_eq
  refine ⟨_,(ah (eD (pv 0) (gD rfl (cj (aT (i:=3) sc__law_padded.nd rfl (Or.inl rfl)) (cj (aT (i:=4) sc__law_padded.nd rfl (Or.inl rfl)) (cj (aT (i:=5) sc__law_padded.nd rfl (Or.inl rfl)) (cj (aT (i:=6) sc__law_padded.nd rfl (Or.inl rfl)) gC))))))
   (ah (ap (i:=7) sc__law_padded.nd rfl (Or.inl rfl) (aq qC (hr.mono) rfl pN pU qx .nil ai (aa (pv 0) ac)))
   (ah (aV (aM cX (aj cV (pv 2) af) af (aH _))
     (ao (ap (i:=7) sc__law_padded.nd rfl (Or.inl rfl) (aq om (hr.mono) rfl nc nr n6 .nil ai (aa (pv 7) (aa (pv 7) ac)))))
     aW)
   (ah (aV (aM cX (aj cV (aj db (pv 2) af) af) af (aH _))
     (ao (ap (i:=7) sc__law_padded.nd rfl (Or.inl rfl) (aq om (hr.mono) rfl nc nr n6 .nil ai (aa (pv 7) (aa (bz (aa (bU bT (aO (K:=K) rfl (aI (aX (K:=K) rfl) (pv 1) af (fun _ _=>rfl)) rfl)) (aa (aO (K:=K) rfl (aI (aX (K:=K) rfl) (pv 1) af (fun _ _=>rfl)) rfl) ac))) ac)))))
     aW)
   (ah (ap (i:=8) sc__law_padded.nd rfl (Or.inl rfl) (aj bI (aj bI (aj bI (bH fz (by rfl) T.abs_ PyProof.Rows.boot_abs (aa (pv 3) ac)) (aj aN (bH fz (by rfl) T.abs_ PyProof.Rows.boot_abs (aa (pv 4) ac)) (pv 6))) af) (aj cV (aj db (pv 2) af) af)))
   (ah (aV (aM cX (aj cV (aj db (pv 2) af) af) af (aH _))
     (ao (ap (i:=7) sc__law_padded.nd rfl (Or.inl rfl) (aq om (hr.mono) rfl nc nr n6 .nil ai (aa (pv 7) (aa (bz (aa (pv 8) (aa af ac))) ac)))))
     aW)
   (ah (aV (aM cX (aj cV (aj db (pv 2) af) af) af (aH _))
     (ao (ap (i:=7) sc__law_padded.nd rfl (Or.inl rfl) (aq om (hr.mono) rfl nc nr n6 .nil ai (aa (pv 7) (aa (bz (aa (bU bT (pv 8)) (aa af ac))) ac)))))
     aW)
   (ah (aV (aM cX (aj cV (aj db (pv 2) af) af) af (aH _))
     (ao (ap (i:=7) sc__law_padded.nd rfl (Or.inl rfl) (aq om (hr.mono) rfl nc nr n6 .nil ai (aa (pv 7) (aa (bz (aa (aj bI af (aj cV (aj db (pv 2) af) af)) (aa af (aa af ac)))) ac)))))
     aW)
   (ao (aC (fh (own:=["_law_one"]) (fr:=["_law_cell"]) (js:=[2]) (by walk_at "comp_ok") rfl (dY (K:=K) rfl (pv 7)) (fun _ _ _ _=>(aT (i:=0) (show List.Nodup (["_law_one","_law_cell"]:List Str) from by decide +kernel) rfl (Or.inl rfl))) (fun _ _ _ _=>(aj aN (pv 0) (aI (cw (K:=K) rfl) (bz (aa af (aa (bU bT af) (aa af (aa (bU bT af) ac))))) (aj cV (aj db (pv 1) af) af) (fun _ _=>rfl))))))))))))))),?_⟩
  refine ⟨_,rfl,p,_,rfl,SqT.of hp,rfl,_,_,rfl,_,_,rfl,_,_,rfl,_,_,rfl,rfl,?_⟩
  dsimp only
  refine gA (fun σ' H'=>σ'=[some (.ref p),some (.ref t),some (.int cell),some (.int u),some (.int v),some (.int w),some (.int d),none,none]/\H=H') ⟨rfl,rfl⟩ ?_
  rintro σ' H' ⟨rfl,rfl⟩
  refine aD ⟨_,rfl,p,u,v,w,d,rfl,hp,hW,fun q0 H1 s1 hq0 e1=>?_⟩
  rw [yY (by have:=hW.d2;omega)] at e1
  obtain ⟨bS,lS⟩:=g6 (qf hW)
  have pS:=(fv (qf hW)).pln
  have g0:Got (ag [u,d*v*v,w]):=⟨pS.ne,by omega,bS.mono⟩
  generalize hs:ag [u,d*v*v,w]=S at e1 bS lS g0 pS k
  show dk _ _ _ _ _
  refine fb (fun σ' H'=>∃ (q:Addr) (mm:Nat),σ'=[some (.ref p),some (.ref t),some (.int cell),some (.int u),some (.int v),some (.int w),some (.int d),some (.ref q),none]/\Same H H'/\H q=none/\H' q=some (.lst ((pw S mm).map V.int))/\(mm=1\/mm=2)/\Got (pw S mm)/\AllB 130 (pw S mm)/\(pw S mm).length<=5) ?_ ?_
  case refine_2 =>
   intro rest
   refine ⟨_,rfl,_,_,rfl,rfl,(by show (0:Int)<3;decide),_,_,rfl,rfl,_,rfl,aQ (fun _=>?_) (fun _=>?_)⟩
   ·refine da ⟨_,rfl,_,rfl,q0,q0,S,S,rfl,e1,e1,pS.ne,pS.ne,by omega,by omega,bS.mono,bS.mono,fun q' H2 s2 hq' e2=>?_⟩
    have e:ad S S=pw S 2:=by show _=ad S (ad S [1]);rw [cO]
    obtain ⟨m1,m2,m3⟩:=g0.mul pS.ne lS (bS.mono) bS lS (by decide) (by decide)
    rw [e] at e2 m1 m2 m3
    exact rest _ _ ⟨q',2,rfl,s1.trans s2,s1.free hq',e2,.inr rfl,m1,m2.mono,by omega⟩
   ·refine rest _ _ ⟨q0,1,rfl,s1,hq0,by rw [fM];exact e1,.inl rfl,by rw [fM];exact g0,by rw [fM];exact bS.mono,by rw [fM];omega⟩
  clear e1 hq0 s1 q0
  rintro σ' H2 ⟨q,mm,rfl,s2,hq,e2,hmm,g2,b2,n2⟩
  refine fb (fun σ' H'=>∃ (q:Addr) (A:List (List Int)),σ'=[some (.ref p),some (.ref t),some (.int cell),some (.int u),some (.int v),some (.int w),some (.int d),some (.ref q),none]/\Same H H'/\H q=none/\H' q=some (.lst ((ad (pw S mm) (prd (A.map ag))).map V.int))/\(A=[]\/A=[[l1,0,l2]])/\Got (ad (pw S mm) (prd (A.map ag)))/\AllB 200 (ad (pw S mm) (prd (A.map ag)))/\(ad (pw S mm) (prd (A.map ag))).length<=7) ?_ ?_
  case refine_2 =>
   intro rest
   refine ⟨_,rfl,_,_,rfl,rfl,⟨by show (0:Int)<3;decide,eT (by decide) (by decide)⟩,_,_,rfl,rfl,(by show (0:Int)<3;decide),_,_,rfl,rfl,_,rfl,aQ (fun _=>?_) (fun _=>?_)⟩
   ·have ht2:=s2 _ _ ht
    obtain ⟨dl,hl2⟩:=hl.same s2
    refine da ⟨_,rfl,_,rfl,t,_,_,_,rfl,rfl,SqT.of ht2,rfl,l,C,dl,_,_,rfl,hl2,R.cl,R.nT,cM _ _,_,rfl,_,rfl,t,_,_,_,rfl,rfl,SqT.of ht2,rfl,l,C,dl,_,_,rfl,hl2,R.cl,R.nB,bQ _ _,by show 2<=sizeLine;omega,fun ql hql=>?_⟩
    have s3:Same H2 (upd H2 ql (.lst [V.int (-l1),V.int l2])):=Same.upd_new hql
    have bY:AllB 64 [-l1,l2]:=me (bl1.neg.mono) (bl2.mono)
    refine ⟨q,ql,pw S mm,[-l1,l2],rfl,s3 _ _ e2,av,g2.ne,by simp,by omega,by show 2<=1000;decide,g2.bits.mono,bY.mono,fun q' H4 s4 hq' e4=>?_⟩
    have e:[-l1,l2]=prd (([[l1,0,l2]]:List (List Int)).map ag):=by
     show _=ad (ag [l1,0,l2]) [1]
     rw [cO,pP l2p gl]
    obtain ⟨m1,m2,m3⟩:=g2.mul (Y:=[-l1,l2]) (by simp) (by show 2<=3;decide) bY b2 n2 (by decide) (by decide)
    rw [e] at e4 m1 m2 m3
    exact rest _ _ ⟨q',[[l1,0,l2]],rfl,(s2.trans s3).trans s4,(s2.trans s3).free hq',e4,.inr rfl,m1,m2.mono,m3⟩
   ·have e:ad (pw S mm) (prd (([]:List (List Int)).map ag))=pw S mm:=cO _
    exact rest _ _ ⟨q,[],rfl,s2,hq,by rw [e];exact e2,.inl rfl,by rw [e];exact g2,by rw [e];exact b2.mono,by rw [e];omega⟩
  clear e2 hq s2 q g2 b2 n2
  rintro σ' H2 ⟨q,A1,rfl,s2,hq,e2,hA1,g2,b2,n2⟩
  generalize hX:ad (pw S mm) (prd (A1.map ag))=X at e2 g2 b2 n2
  have h1':=mf hW.bu
  have h2':=mf hW.bv
  have bau:Bits 1000 ((u.natAbs:Nat):Int):=gk (n:=2^21) (by rw [Int.natAbs_natCast];exact h1') (Nat.pow_le_pow_right (by decide) (by decide))
  have bav:Bits 1000 ((v.natAbs:Nat):Int):=gk (n:=2^21) (by rw [Int.natAbs_natCast];exact h2') (Nat.pow_le_pow_right (by decide) (by decide))
  refine aD ⟨_,rfl,_,rfl,_,rfl,_,rfl,_,rfl,_,_,rfl,rfl,⟨by rw [oa];exact bav.mono,hW.bd.mono⟩,_,_,rfl,rfl,_,_,rfl,rfl,_,rfl,_,_,rfl,rfl,⟨by show (0:Int)<9;decide,eT (by decide) (by decide)⟩,_,_,rfl,rfl,(by show (0:Int)<50;decide),_,_,rfl,rfl,?_⟩
  show dk _ _ _ _ _
  refine gA (fun σ' H'=>∃ far:Int,σ'=[some (.ref p),some (.ref t),some (.int cell),some (.int u),some (.int v),some (.int w),some (.int d),some (.ref q),some (.int far)]/\H2=H'/\(u.natAbs:Int)+(v.natAbs:Int)*d+100<=far/\far<=100000000) ⟨_,rfl,rfl,?_⟩ ?_
  ·rw [oa,oa]
   obtain ⟨m0,m1⟩:=lG (x:=cell/9) (m:=50) (by decide)
   have e21:(2:Nat)^21=2097152:=rfl
   have hvd:(v.natAbs:Int)*d<=2097152*13:=Int.mul_le_mul (by omega) hW.d13 (by have:=hW.d2;omega) (by decide)
   omega
  rintro σ' H3 ⟨far,rfl,rfl,f1,f2⟩
  have nvd:0<=(v.natAbs:Int)*d:=Int.mul_nonneg (by omega) (by have:=hW.d2;omega)
  have bfar:Bits 64 far:=gk (n:=100000001) (by omega) (by decide)
  have b1':Bits 64 (1:Int):=b1k (by decide)
  refine fb (fun σ' H'=>∃ (q:Addr) (B:List (List Int)),σ'=[some (.ref p),some (.ref t),some (.int cell),some (.int u),some (.int v),some (.int w),some (.int d),some (.ref q),some (.int far)]/\Same H H'/\H q=none/\H' q=some (.lst ((ad X (prd (B.map ag))).map V.int))/\(B=[]\/(B=[[-far,0,1]]/\cell/450%3=1))/\Got (ad X (prd (B.map ag)))/\AllB 280 (ad X (prd (B.map ag)))/\(ad X (prd (B.map ag))).length<=9) ?_ ?_
  case refine_2 =>
   intro rest
   refine ⟨_,rfl,_,_,rfl,rfl,⟨by show (0:Int)<450;decide,eT (by decide) (by decide)⟩,_,_,rfl,rfl,(by show (0:Int)<3;decide),_,_,rfl,rfl,_,rfl,aQ (fun h0=>?_) (fun _=>?_)⟩
   ·refine da ⟨_,rfl,_,rfl,by show 2<=sizeLine;omega,fun ql hql=>?_⟩
    have s3:Same H2 (upd H2 ql (.lst [V.int far,V.int 1])):=Same.upd_new hql
    have bY:AllB 64 [far,1]:=me bfar b1'
    refine ⟨q,ql,X,[far,1],rfl,s3 _ _ e2,av,g2.ne,by simp,by omega,by show 2<=1000;decide,g2.bits.mono,bY.mono,fun q' H4 s4 hq' e4=>?_⟩
    have e:[far,1]=prd (([[-far,0,1]]:List (List Int)).map ag):=by
     show _=ad (ag [-far,0,1]) [1]
     rw [cO,lv,Int.neg_neg]
    obtain ⟨m1,m2,m3⟩:=g2.mul (Y:=[far,1]) (by simp) (by show 2<=3;decide) bY b2 n2 (by decide) (by decide)
    rw [e] at e4 m1 m2 m3
    exact rest _ _ ⟨q',[[-far,0,1]],rfl,(s2.trans s3).trans s4,(s2.trans s3).free hq',e4,.inr ⟨rfl,h0⟩,m1,m2.mono,m3⟩
   ·have e:ad X (prd (([]:List (List Int)).map ag))=X:=cO _
    exact rest _ _ ⟨q,[],rfl,s2,hq,by rw [e];exact e2,.inl rfl,by rw [e];exact g2,by rw [e];exact b2.mono,by rw [e];omega⟩
  clear e2 hq s2 q
  rintro σ' H2 ⟨q,B1,rfl,s2,hq,e2,hB1,g3,b3,n3⟩
  refine fb (fun σ' H'=>∃ (q:Addr) (B:List (List Int)),σ'=[some (.ref p),some (.ref t),some (.int cell),some (.int u),some (.int v),some (.int w),some (.int d),some (.ref q),some (.int far)]/\Same H H'/\H q=none/\H' q=some (.lst ((ad X (prd (B.map ag))).map V.int))/\(B=[]\/(B=[[-far,0,1]]\/B=[[far,0,1]]))/\Got (ad X (prd (B.map ag)))/\AllB 280 (ad X (prd (B.map ag)))/\(ad X (prd (B.map ag))).length<=9) ?_ ?_
  case refine_2 =>
   intro rest
   refine ⟨_,rfl,_,_,rfl,rfl,⟨by show (0:Int)<450;decide,eT (by decide) (by decide)⟩,_,_,rfl,rfl,(by show (0:Int)<3;decide),_,_,rfl,rfl,_,rfl,aQ (fun h0=>?_) (fun _=>?_)⟩
   ·have h0':cell/450%3=2:=h0
    have eB:B1=[]:=by
     rcases hB1 with z | ⟨_,z⟩
     ·exact z
     ·omega
    subst eB
    have eX:ad X (prd (([]:List (List Int)).map ag))=X:=cO _
    rw [eX] at e2
    refine da ⟨_,rfl,_,rfl,_,rfl,by show 2<=sizeLine;omega,fun ql hql=>?_⟩
    have s3:Same H2 (upd H2 ql (.lst [V.int (-far),V.int 1])):=Same.upd_new hql
    have bY:AllB 64 [-far,1]:=me bfar.neg b1'
    refine ⟨q,ql,X,[-far,1],rfl,s3 _ _ e2,av,g2.ne,by simp,by omega,by show 2<=1000;decide,g2.bits.mono,bY.mono,fun q' H4 s4 hq' e4=>?_⟩
    have e:[-far,1]=prd (([[far,0,1]]:List (List Int)).map ag):=by
     show _=ad (ag [far,0,1]) [1]
     rw [cO,lv]
    obtain ⟨m1,m2,m3⟩:=g2.mul (Y:=[-far,1]) (by simp) (by show 2<=3;decide) bY b2 n2 (by decide) (by decide)
    rw [e] at e4 m1 m2 m3
    exact rest _ _ ⟨q',[[far,0,1]],rfl,(s2.trans s3).trans s4,(s2.trans s3).free hq',e4,.inr (.inr rfl),m1,m2.mono,m3⟩
   ·exact rest _ _ ⟨q,B1,rfl,s2,hq,e2,by rcases hB1 with z | ⟨z,_⟩;exact .inl z;exact .inr (.inl z),g3,b3,n3⟩
  clear e2 hq s2 q g3 b3 n3 hB1 g2 b2 n2
  rintro σ' H2 ⟨q,B1',rfl,s2,hq,e2,hB,g2,b2,n2⟩
  generalize hY:ad X (prd (B1'.map ag))=Y at e2 g2 b2 n2
  refine fb (fun σ' H'=>∃ (q:Addr) (D:List (List Int)),σ'=[some (.ref p),some (.ref t),some (.int cell),some (.int u),some (.int v),some (.int w),some (.int d),some (.ref q),some (.int far)]/\Same H H'/\H q=none/\H' q=some (.lst ((ad Y (prd (D.map ag))).map V.int))/\(D=[]\/∃ k:Int,1<=k/\k<=7/\D=[[0,-k,1]])/\Got (ad Y (prd (D.map ag)))) ?_ ?_
  case refine_2 =>
   intro rest
   refine ⟨_,rfl,_,_,rfl,rfl,⟨by show (0:Int)<1350;decide,eT (by decide) (by decide)⟩,_,_,rfl,rfl,(by show (0:Int)<2;decide),_,_,rfl,rfl,_,rfl,aQ (fun h0=>?_) (fun _=>?_)⟩
   ·obtain ⟨m0,m1⟩:=lG (x:=cell/2700) (m:=7) (by decide)
    refine da ⟨_,rfl,_,rfl,_,_,rfl,rfl,⟨by show (0:Int)<2700;decide,eT (by decide) (by decide)⟩,_,_,rfl,rfl,(by show (0:Int)<7;decide),_,_,rfl,rfl,by show 3<=sizeLine;omega,fun ql hql=>?_⟩
    have s3:Same H2 (upd H2 ql (.lst [V.int (1+cell/2700%7),V.int 0,V.int 1])):=Same.upd_new hql
    have bY:AllB 64 [1+cell/2700%7,0,1]:=fun x hx=>by
     rcases List.mem_cons.mp hx with rfl | hx
     ·exact gk (n:=9) (by omega) (by decide)
     rcases List.mem_cons.mp hx with rfl | hx
     ·exact Bits.zero
     ·rw [List.mem_singleton.mp hx];exact b1'
    refine ⟨q,ql,Y,[1+cell/2700%7,0,1],rfl,s3 _ _ e2,av,g2.ne,by simp,by omega,by show 3<=1000;decide,g2.bits.mono,bY.mono,fun q' H4 s4 hq' e4=>?_⟩
    have e:[1+cell/2700%7,0,1]=prd (([[0,-(1+cell/2700%7),1]]:List (List Int)).map ag):=by
     show _=ad (ag [0,-(1+cell/2700%7),1]) [1]
     rw [cO,sQ (by omega)]
    obtain ⟨m1',_,_⟩:=g2.mul (Y:=[1+cell/2700%7,0,1]) (by simp) (by show 3<=3;decide) bY b2 n2 (by decide) (by decide)
    rw [e] at e4 m1'
    exact rest _ _ ⟨q',_,rfl,(s2.trans s3).trans s4,(s2.trans s3).free hq',e4,.inr ⟨_,by omega,by omega,rfl⟩,m1'⟩
   ·have e:ad Y (prd (([]:List (List Int)).map ag))=Y:=cO _
    exact rest _ _ ⟨q,[],rfl,s2,hq,by rw [e];exact e2,.inl rfl,by rw [e];exact g2⟩
  clear e2 hq s2 q g2 b2 n2
  rintro σ' H2 ⟨q,D1,rfl,s2,hq,e2,hD,g2⟩
  generalize hZ:ad Y (prd (D1.map ag))=Z at e2 g2
  have g2l:=g2.len
  obtain ⟨x,hx,ex⟩:=AK (xs:=[V.int 1,V.int (-1),V.int 6,V.int (-35)]) (n:=4) rfl (by decide) (cell/18900)
  obtain ⟨c,rfl,hc0,hcb⟩:∃ c:Int,x=.int c/\c≠0/\Bits 10 c:=by
   simp only [List.mem_cons,List.not_mem_nil,or_false] at hx
   rcases hx with rfl | rfl | rfl | rfl
   ·exact ⟨_,rfl,by decide,by show (1:Int).natAbs<2^10;decide⟩
   ·exact ⟨_,rfl,by decide,by show (-1:Int).natAbs<2^10;decide⟩
   ·exact ⟨_,rfl,by decide,by show (6:Int).natAbs<2^10;decide⟩
   ·exact ⟨_,rfl,by decide,by show (-35:Int).natAbs<2^10;decide⟩
  refine bh ⟨_,rfl,q,rfl,⟨_,SqL.of e2⟩,i8 (K:=K) (a:=q) (xs:=Z.map V.int) (fun i ys σ' H'=>∃ (z0:Option V),σ'=[z0,some (.int cell)]/\ys=(scL c (Z.take i)).map V.int/\Same H2 H') (by rw [List.length_map];omega) ⟨none,rfl,rfl,Same.refl _⟩ ?_ ?_ ?_⟩
  ·rintro i ys σ' H' _ ⟨z0,rfl,rfl,sm⟩
   exact ⟨SqL.of (sm _ _ e2),by rw [List.length_map,ck,List.length_take];exact Nat.min_le_left _ _⟩
  ·rintro i x ys σ' H' hi ⟨z0,rfl,rfl,sm⟩
   obtain ⟨y,_,rfl,hm,et⟩:=ga hi
   refine ⟨_,rfl,_,rfl,_,rfl,by show 4<=sizeLine;omega,fun ql hql=>?_⟩
   refine ⟨_,rfl,_,_,rfl,rfl,⟨by show (0:Int)<18900;decide,BS (by decide) (by decide)⟩,_,_,rfl,rfl,(by show (0:Int)<4;decide),ql,_,_,_,rfl,rfl,SqL.of av,ex,_,_,rfl,rfl,⟨(g2.bits y hm).mono,hcb.mono⟩,_,rfl,?_,sm.then_new hql⟩
   rw [et]
   simp [scL,Int.mul_comm]
  ·rintro ys σ' H' pz ⟨z0,rfl,rfl,sm⟩ hpz
   refine k mm A1 B1' D1 c ⟨hmm,hA1,?_,hD,hc0,hcb⟩ pz _ (s2.trans (sm.then_new hpz)) ((s2.trans sm).free hpz) ?_
   ·rcases hB with z | z
    ·exact .inl z
    ·exact .inr ⟨far,f1,f2,z⟩
   ·rw [av,List.length_map,List.take_length]
    have e:whl c (usP S mm (A1++(B1'++D1)))=scL c Z:=by
     rw [eO]
     have:fP id (usP S mm (A1++(B1'++D1)))=Z:=by
      show ad (pw S mm) (fP id _)=_
      rw [ou id rfl,List.map_append,List.map_append,mQ,mQ,<- hZ,<- hY,<- hX,gJ,gJ]
     rw [this]
    rw [e]
theorem Ew {C CN f:Addr} {fd:FuncData} (F:Fun K "law" "law" fK f fd) (T:Txt K mg) (R:RCI K mg C) (RN:NCI K mg CN) {Jm:Addr} {Ix:FuncData} (L5:Cal P w K mg base 2 "_law_worth" ["_law_script","_law_k"] (qP K) Jm Ix) {Jo:Addr} {Iz:FuncData} (L7:Cal P w K mg base 4 "_law_span" ["_law_worth_here","_law_more"] (qW C) Jo Iz) {uM:Addr} {ur:FuncData} (vY:Cal P w K mg base 1 "_law_cell_at" ["_law_script","_law_k"] (gw K) uM ur) {Jt:Addr} {IE:FuncData} (Mc:Cal P w K mg base 4 "_law_padded" ["_law_worth_here","_law_span_here","_law_cell"] (rj C) Jt IE) {f_number:Addr} {fd_number:FuncData} {ds_number:List Value} (LN:CalE P w K mg base 39 "number" ["row","low","high"] (rm C CN) f_number fd_number ds_number [.non,.non]) {uK:Addr} {um:FuncData} (vW:Cal P w K mg base 3 "_law_least" ["_law_worth_here"] oO uK um) {Ju:Addr} {IF:FuncData} (Md:Cal P w K mg base 3 "_law_is" ["_law_found","_law_worth_here","_law_due"] (rE C CN) Ju IF):FnOk P w K mg base CX0 40 f fd ["_law_script"] (oP K):=by
 obtain ⟨Lo,Gk,G9,Ks⟩:=L5
 obtain ⟨Lq,Gm,Ha,Kt⟩:=L7
 obtain ⟨jo,ix,iE,jh⟩:=vY
 obtain ⟨Lu,Gp,Hd,Kw⟩:=Mc
 obtain ⟨K9,FV,GU,Kd,Mp,Mn⟩:=LN
 obtain ⟨qC,pN,pU,qx⟩:=vW
 obtain ⟨AX,yS,zb,AH⟩:=Md
 refine F.ok sc_law (fun vs H Q E h=>?_) (fun cdv A outer s H vs Q E hr h=>?_)
 ·obtain ⟨a,ns,rfl,_⟩:=h
  rfl
 ·obtain ⟨a,ns,rfl,hS,hlen,k⟩:=h
  have big:=sizeLine_eq
  have hu:=hr.units
  refine ⟨_,(ah (ap (i:=1) sc_law.nd rfl (Or.inl rfl) (aq Lo (hr.mono) rfl Gk G9 Ks .nil ai (aa (pv 0) (aa af ac))))
   (ah (ap (i:=2) sc_law.nd rfl (Or.inl rfl) (aq Lq (hr.mono) rfl Gm Ha Kt .nil ai (aa (pv 1) (aa (aj cV (aq jo (hr.mono) rfl ix iE jh .nil ai (aa (pv 0) (aa af ac))) af) ac))))
   (ah (ap (i:=3) sc_law.nd rfl (Or.inl rfl) (aq Lu (hr.mono) rfl Gp Hd Kw .nil ai (aa (pv 1) (aa (pv 2) (aa (aq jo (hr.mono) rfl ix iE jh .nil ai (aa (pv 0) (aa af ac))) ac)))))
   (ah (ap (i:=4) sc_law.nd rfl (Or.inl rfl) (gE (qr (K:=K) rfl) (by rfl) T.list_ PyProof.Rows.boot_list (aa (pv 3) ac)))
   (ah (ap (i:=5) sc_law.nd rfl (Or.inl rfl) (aq K9 (hr.mono) rfl FV GU Kd .nil ai (aa (pv 4) (aa (aI (aX (K:=K) rfl) (pv 2) af (fun _ _=>rfl)) (aa (aI (aX (K:=K) rfl) (pv 2) af (fun _ _=>rfl)) ac)))))
   (ah (aV (PW.pt (gB (aM (ik (K:=K) rfl hu) (pv 4) (pv 3) (aH _)) (kZ (fg (eu (aq AX (hr.mono) rfl yS zb AH .nil ai (aa (pv 5) (aa (pv 1) (aa (aq qC (hr.mono) rfl pN pU qx .nil ai (aa (pv 1) ac)) ac)))))))))
     (ao (aC gF))
     aW)
   (ah (fO (lj PySem.F.plainAttrs_list PySem.F.slot_list_append PySem.F.type_list_append lC (pv 4) (aa af ac)))
   (ah (eD (aj bI (aI (cw (K:=K) rfl) (pv 4) af (fun _ _=>rfl)) af) (li (pv 4) af jG))
   (ao (aC (aq AX (hr.mono) rfl yS zb AH .nil ai (aa (pv 5) (aa (pv 1) (aa (aq qC (hr.mono) rfl pN pU qx .nil ai (aa (pv 1) ac)) ac)))))))))))))),?_⟩
  refine aD ⟨_,rfl,a,ns,rfl,hS,fun p H1 u v w d s1 hp1 hp hW=>?_⟩
  obtain ⟨m0,m1⟩:=lG (x:=ns.getD 3 0) (m:=60) (by decide)
  refine aD ⟨_,rfl,_,rfl,a,ns,3,rfl,s1.seq hS,_,_,rfl,rfl,(by show (0:Int)<60;decide),p,u,v,w,d,_,rfl,hp,hW,m0,m1,fun t l h H2 l1 l2 h1 h2 s2 ht et hl hh hE=>?_⟩
  have t2:=s1.trans s2
  have hp2:=s2 _ _ hp
  obtain ⟨en,ol,oh,lU,hU⟩:=v4 hW m0 m1 hE
  refine aD ⟨_,rfl,_,rfl,_,rfl,a,ns,4,rfl,t2.seq hS,p,t,l,h,u,v,w,d,l1,l2,_,rfl,hp2,hW,et,hl,hE.l2p,hE.bl1,hE.bl2,hE.gl,fun mm A1 B1 D1 c hPad pk H3 s3 hpk ek=>?_⟩
  obtain ⟨hM,hfl,hOW⟩:=DQ hW m0 m1 hE hPad
  generalize whl c (usP (ag [u,d*v*v,w]) mm (A1++(B1++D1)))=kp at ek hM
  have eLs:dN u v w d=ag [u,d*v*v,w]:=yY (by have:=hW.d2;omega)
  have kl:=hM.len.1
  refine aD ⟨_,rfl,pk,_,rfl,.inl (SqL.of ek),fun ph hph=>?_⟩
  have s4:Same H3 (upd H3 ph (.lst (kp.map V.int))):=Same.upd_new hph
  have eh4:upd H3 ph (.lst (kp.map V.int)) ph=some (.lst (kp.map V.int)):=av
  refine kX (H2:=upd H3 ph (.lst (kp.map V.int))) rfl ?_
  generalize upd H3 ph (.lst (kp.map V.int))=H4 at s4 eh4 ⊢
  have u4:=s3.trans s4
  have et4:=u4 _ _ et
  refine aD ⟨_,rfl,_,rfl,t,_,_,_,rfl,rfl,SqT.of et4,rfl,_,rfl,t,_,_,_,rfl,rfl,SqT.of et4,rfl,ph,l,h,kp,c,_,_,_,_,l1,l2,h1,h2,rfl,eh4,hl.same u4,hh.same u4,hM,hfl,hOW,fun x q H5 s5 hx hNA hq hqn=>?_⟩
  rw [<- eLs] at hq
  have u5:=u4.trans s5
  have eh5:=s5 _ _ eh4
  have ek5:=s5 _ _ (s4 _ _ ek)
  have hp5:=u5 _ _ hp2
  have iN:IsN C CN H5 x q l h (dN u v w d) l1 l2 h1 h2 u v w d:=⟨hNA,hq,hl.same u5,hh.same u5,en.mono,lU,hU,ol,oh⟩
  have lL:(dN u v w d).length<=100:=by rw [eLs];have:=(g6 (qf hW)).2;omega
  have nq:q≠ph:=fun z=>by rw [z,eh4] at hqn;cases hqn
  refine bK (hJ ⟨_,rfl,_,rfl,ph,pk,kp,kp,rfl,rfl,SqL.of eh5,SqL.of ek5,_,rfl,cZ (fun hne=>absurd rfl hne) (fun _=>?_)⟩)
  refine fL ?_
  refine ⟨_,rfl,_,rfl,_,rfl,p,u,v,w,d,rfl,hp5,hW,fun b H6 s6 hb eb=>?_⟩
  refine ⟨x,q,l,h,p,b,dN u v w d,l1,l2,h1,h2,u,v,w,d,rfl,iN.same s6,s6 _ _ hp5,hW,eb,lL,fun H7 s7=>⟨_,rfl,cQ ?_⟩⟩
  have s57:=s6.trans s7
  have eh7:=s57 _ _ eh5
  have q7:=s57 _ _ hq
  have i7:=iN.same s57
  have hp7:=s57 _ _ hp5
  refine hI ⟨_,rfl,.inl ⟨rfl,_,SqL.of eh7⟩,ph,_,_,rfl,rfl,eh7,by rw [List.length_map];omega,?_⟩
  have e8:upd H7 ph (.lst (kp.map V.int++[V.int 1])) ph=some (.lst ((kp++[1]).map V.int)):=by rw [av,List.map_append];rfl
  have n8:NL H7 (upd H7 ph (.lst (kp.map V.int++[V.int 1]))):=NL.upd eh7
  have q8:upd H7 ph (.lst (kp.map V.int++[V.int 1])) q=some (.lst ((dN u v w d).map V.int)):=by rw [upd_ne nq];exact q7
  refine kX (H2:=upd H7 ph (.lst (kp.map V.int++[V.int 1]))) rfl ?_
  generalize upd H7 ph (.lst (kp.map V.int++[V.int 1]))=H8 at e8 n8 q8 ⊢
  have at0:atI ((kp++[1]).map V.int) 0=some (.int (cf (kp++[1]) 0)):=vw (k:=0) rfl (by rw [List.length_append];show 0<_+1;omega)
  refine ⟨_,rfl,ph,_,_,_,rfl,rfl,SqL.of e8,at0,_,_,rfl,rfl,_,rfl,ph,_,_,0,rfl,rfl,e8,lJ rfl (by rw [List.length_map,List.length_append];show 0<_+1;omega),?_⟩
  have n9:NL H7 (upd H8 ph (.lst (((kp++[1]).map V.int).set 0 (.int (cf (kp++[1]) 0+1))))):=n8.trans (NL.upd e8)
  have q9:upd H8 ph (.lst (((kp++[1]).map V.int).set 0 (.int (cf (kp++[1]) 0+1)))) q=some (.lst ((dN u v w d).map V.int)):=by rw [upd_ne nq];exact q8
  refine kX (H2:=upd H8 ph (.lst (((kp++[1]).map V.int).set 0 (.int (cf (kp++[1]) 0+1))))) rfl ?_
  generalize upd H8 ph (.lst (((kp++[1]).map V.int).set 0 (.int (cf (kp++[1]) 0+1))))=H9 at n9 q9 ⊢
  have hp9:WT H9 p u v w d:=n9 _ _ hp7 (fun _=>by simp)
  have i9:IsN C CN H9 x q l h (dN u v w d) l1 l2 h1 h2 u v w d:=by
   refine ⟨?_,q9,i7.rl.nl n9,i7.rh.nl n9,i7.en,i7.lo,i7.hi,i7.ol,i7.oh⟩
   obtain ⟨dx,e⟩:=i7.na
   exact ⟨dx,n9 _ _ e (fun _=>by simp)⟩
  dsimp only
  refine bh ⟨_,rfl,_,rfl,_,rfl,p,u,v,w,d,rfl,hp9,hW,fun b2 H10 s10 hb2 eb2=>?_⟩
  exact ⟨x,q,l,h,p,b2,dN u v w d,l1,l2,h1,h2,u,v,w,d,rfl,i9.same s10,s10 _ _ hp9,hW,eb2,lL,fun H11 _=>k H11⟩
end
theorem all_mk {l:PySem.W.OpenLaw} {w:World} {K:PySem.W.Frag} {h:Heap} {mg:Str->Option Value} {fa CC1 CC2 f1 f2 f3 f4 dt4 f5 f6 f7 f8 f9 f10 f11 f12 f13 f14 f15 f16 f17 f18 f19 f20 f21 f22 f23 f24 f25 f26 f27 f28 f29 f30 f31 f32 f33 f34 f35 f36 f37 f38 f39 f40 f41 f42 f43 f44 f45 f46 f47 f48 f49 f50 f51 f52 f53 dt53 f54 f55 f56 f57 f58 f59 f60 f61 f62 f63 f64 f65 f66 f67 f68 f69:Addr} (X:K.In h) (G:h.Ns mainGlobals mg) (hfa:mg "law"=some (.ref fa))
 {od1 an1 od2 an2 od3 an3 od4 an4 odt4 od5 an5 od6 an6 od7 an7 od8 an8 od9 an9 od10 an10 od11 an11 od12 an12 od13 an13 od14 an14 od15 an15 od16 an16 od17 an17 od18 an18 od19 an19 od20 an20 od21 an21 od22 an22 od23 an23 od24 an24 od25 an25 od26 an26 od27 an27 od28 an28 od29 an29 od30 an30 od31 an31 od32 an32 od33 an33 od34 an34 od35 an35 od36 an36 od37 an37 od38 an38 od39 an39 od40 an40 od41 an41 od42 an42 od43 an43 od44 an44 od45 an45 od46 an46 od47 an47 od48 an48 od49 an49 od50 an50 od51 an51 od52 an52 od53 an53 odt53 od54 an54 od55 an55 od56 an56 od57 an57 od58 an58 od59 an59 od60 an60 od61 an61 od62 an62 od63 an63 od64 an64 od65 an65 od66 an66 od67 an67 od68 an68 od69 an69:Option Addr} {sl1 sl2 sl3 sl4 slt4 sl5 sl6 sl7 sl8 sl9 sl10 sl11 sl12 sl13 sl14 sl15 sl16 sl17 sl18 sl19 sl20 sl21 sl22 sl23 sl24 sl25 sl26 sl27 sl28 sl29 sl30 sl31 sl32 sl33 sl34 sl35 sl36 sl37 sl38 sl39 sl40 sl41 sl42 sl43 sl44 sl45 sl46 sl47 sl48 sl49 sl50 sl51 sl52 sl53 slt53 sl54 sl55 sl56 sl57 sl58 sl59 sl60 sl61 sl62 sl63 sl64 sl65 sl66 sl67 sl68 sl69:Array (Option Value)} {oc1 kV1 dc1 pm1 cd1 ct1 oc2 kV2 dc2 pm2 cd2 ct2 oc3 kV3 dc3 pm3 cd3 ct3 oc4 kV4 dc4 pm4 cd4 ct4 oct4 oc5 kV5 dc5 pm5 cd5 ct5 oc6 kV6 dc6 pm6 cd6 ct6 oc7 kV7 dc7 pm7 cd7 ct7 oc8 kV8 dc8 pm8 cd8 ct8 oc9 kV9 dc9 pm9 cd9 ct9 oc10 kV10 dc10 pm10 cd10 ct10 oc11 kV11 dc11 pm11 cd11 ct11 oc12 kV12 dc12 pm12 cd12 ct12 oc13 kV13 dc13 pm13 cd13 ct13 oc14 kV14 dc14 pm14 cd14 ct14 oc15 kV15 dc15 pm15 cd15 ct15 oc16 kV16 dc16 pm16 cd16 ct16 oc17 kV17 dc17 pm17 cd17 ct17 oc18 kV18 dc18 pm18 cd18 ct18 oc19 kV19 dc19 pm19 cd19 ct19 oc20 kV20 dc20 pm20 cd20 ct20 oc21 kV21 dc21 pm21 cd21 ct21 oc22 kV22 dc22 pm22 cd22 ct22 oc23 kV23 dc23 pm23 cd23 ct23 oc24 kV24 dc24 pm24 cd24 ct24 oc25 kV25 dc25 pm25 cd25 ct25 oc26 kV26 dc26 pm26 cd26 ct26 oc27 kV27 dc27 pm27 cd27 ct27 oc28 kV28 dc28 pm28 cd28 ct28 oc29 kV29 dc29 pm29 cd29 ct29 oc30 kV30 dc30 pm30 cd30 ct30 oc31 kV31 dc31 pm31 cd31 ct31 oc32 kV32 dc32 pm32 cd32 ct32 oc33 kV33 dc33 pm33 cd33 ct33 oc34 kV34 dc34 pm34 cd34 ct34 oc35 kV35 dc35 pm35 cd35 ct35 oc36 kV36 dc36 pm36 cd36 ct36 oc37 kV37 dc37 pm37 cd37 ct37 oc38 kV38 dc38 pm38 cd38 ct38 oc39 kV39 dc39 pm39 cd39 ct39 oc40 kV40 dc40 pm40 cd40 ct40 oc41 kV41 dc41 pm41 cd41 ct41 oc42 kV42 dc42 pm42 cd42 ct42 oc43 kV43 dc43 pm43 cd43 ct43 oc44 kV44 dc44 pm44 cd44 ct44 oc45 kV45 dc45 pm45 cd45 ct45 oc46 kV46 dc46 pm46 cd46 ct46 oc47 kV47 dc47 pm47 cd47 ct47 oc48 kV48 dc48 pm48 cd48 ct48 oc49 kV49 dc49 pm49 cd49 ct49 oc50 kV50 dc50 pm50 cd50 ct50 oc51 kV51 dc51 pm51 cd51 ct51 oc52 kV52 dc52 pm52 cd52 ct52 oc53 kV53 dc53 pm53 cd53 ct53 oct53 oc54 kV54 dc54 pm54 cd54 ct54 oc55 kV55 dc55 pm55 cd55 ct55 oc56 kV56 dc56 pm56 cd56 ct56 oc57 kV57 dc57 pm57 cd57 ct57 oc58 kV58 dc58 pm58 cd58 ct58 oc59 kV59 dc59 pm59 cd59 ct59 oc60 kV60 dc60 pm60 cd60 ct60 oc61 kV61 dc61 pm61 cd61 ct61 oc62 kV62 dc62 pm62 cd62 ct62 oc63 kV63 dc63 pm63 cd63 ct63 oc64 kV64 dc64 pm64 cd64 ct64 oc65 kV65 dc65 pm65 cd65 ct65 oc66 kV66 dc66 pm66 cd66 ct66 oc67 kV67 dc67 pm67 cd67 ct67 oc68 kV68 dc68 pm68 cd68 ct68 oc69 kV69 dc69 pm69 cd69 ct69:Value} {nt4:Nat} {tk4_0:Tok} {nt53:Nat} {tk_HIGHEST:Tok}
 (aC1:PySem.W.nsIn K mainGlobals "Ratio"=some (some (.ref CC1)))
 (pg1:PySem.W.plainGet K CC1 Str.empty=true)
 (hd1:PySem.W.hasDictIn K CC1=true)
 (po1:PySem.W.plainOver K CC1=true)
 (sa1:PySem.W.findIn K (.ref CC1) "__setattr__"=some (some (.builtin "object.__setattr__")))
 (mk1:PySem.W.makesIn K CC1=true)
 (kc1:PySem.W.keepIn K (.ref CC1)=true)
 (n1_top:PySem.W.findIn K (.ref CC1) "top"=some none)
 (n1_bottom:PySem.W.findIn K (.ref CC1) "bottom"=some none)
 (ha1:PySem.W.findIn K (.ref CC1) "__class__"=some (some (.builtin "object.__class__")))
 (hn1:PySem.W.specialIn K (.builtin "object.__class__") "__get__"=some (some (.builtin "getset_descriptor.__get__")))
 (ht1:PySem.W.takesIn K (.builtin "object.__class__")=some true)
 (hm1:PySem.W.mroIn K CC1 (.type "object")=some true)
 (aC2:PySem.W.nsIn K mainGlobals "Number"=some (some (.ref CC2)))
 (pg2:PySem.W.plainGet K CC2 Str.empty=true)
 (hd2:PySem.W.hasDictIn K CC2=true)
 (po2:PySem.W.plainOver K CC2=true)
 (sa2:PySem.W.findIn K (.ref CC2) "__setattr__"=some (some (.builtin "object.__setattr__")))
 (mk2:PySem.W.makesIn K CC2=true)
 (kc2:PySem.W.keepIn K (.ref CC2)=true)
 (n2_poly:PySem.W.findIn K (.ref CC2) "poly"=some none)
 (n2_low:PySem.W.findIn K (.ref CC2) "low"=some none)
 (n2_high:PySem.W.findIn K (.ref CC2) "high"=some none)
 (ha2:PySem.W.findIn K (.ref CC2) "__class__"=some (some (.builtin "object.__class__")))
 (hn2:PySem.W.specialIn K (.builtin "object.__class__") "__get__"=some (some (.builtin "getset_descriptor.__get__")))
 (ht2:PySem.W.takesIn K (.builtin "object.__class__")=some true)
 (hm2:PySem.W.mroIn K CC2 (.type "object")=some true)
 (a1:PySem.W.nsIn K mainGlobals "shared_by_two"=some (some (.ref f1)))
 (l1:K.lookup f1=some ⟨oc1,od1,.func (PySem.W.fnOf "shared_by_two" "shared_by_two" (aG jS) (aE jS) (ak jS) .none kV1 dc1 pm1 an1 cd1 ct1),sl1⟩) (c1:PySem.W.codeIn K cd1 "shared_by_two"=true) (k1:PySem.W.keepIn K (.ref f1)=true)
 (a2:PySem.W.nsIn K mainGlobals "shared"=some (some (.ref f2)))
 (l2:K.lookup f2=some ⟨oc2,od2,.func (PySem.W.fnOf "shared" "shared" (aG jT) (aE jT) (ak jT) .none kV2 dc2 pm2 an2 cd2 ct2),sl2⟩) (c2:PySem.W.codeIn K cd2 "shared"=true) (k2:PySem.W.keepIn K (.ref f2)=true)
 (a3:PySem.W.nsIn K mainGlobals "whole_sign"=some (some (.ref f3)))
 (l3:K.lookup f3=some ⟨oc3,od3,.func (PySem.W.fnOf "whole_sign" "whole_sign" (aG jI) (aE jI) (ak jI) .none kV3 dc3 pm3 an3 cd3 ct3),sl3⟩) (c3:PySem.W.codeIn K cd3 "whole_sign"=true) (k3:PySem.W.keepIn K (.ref f3)=true)
 (a4:PySem.W.findIn K (.ref CC1) "__init__"=some (some (.ref f4))) (i4:PySem.W.isFn K (.ref f4)=true)
 (l4:K.lookup f4=some ⟨oc4,od4,.func (PySem.W.fnOf "__init__" "Ratio.__init__" (aG kT) (aE kT) (ak kT) (.ref dt4) kV4 dc4 pm4 an4 cd4 ct4),sl4⟩) (c4:PySem.W.codeIn K cd4 "Ratio.__init__"=true) (k4:PySem.W.keepIn K (.ref f4)=true)
 (t4:K.lookup dt4=some ⟨oct4,odt4,.seq #[.int 1 tk4_0] nt4,slt4⟩)
 (a5:PySem.W.findIn K (.ref CC1) "against"=some (some (.ref f5))) (i5:PySem.W.isFn K (.ref f5)=true)
 (l5:K.lookup f5=some ⟨oc5,od5,.func (PySem.W.fnOf "against" "Ratio.against" (aG kS) (aE kS) (ak kS) .none kV5 dc5 pm5 an5 cd5 ct5),sl5⟩) (c5:PySem.W.codeIn K cd5 "Ratio.against"=true) (k5:PySem.W.keepIn K (.ref f5)=true)
 (a6:PySem.W.nsIn K mainGlobals "poly"=some (some (.ref f6)))
 (l6:K.lookup f6=some ⟨oc6,od6,.func (PySem.W.fnOf "poly" "poly" (aG jZ) (aE jZ) (ak jZ) .none kV6 dc6 pm6 an6 cd6 ct6),sl6⟩) (c6:PySem.W.codeIn K cd6 "poly"=true) (k6:PySem.W.keepIn K (.ref f6)=true)
 (a7:PySem.W.nsIn K mainGlobals "degree"=some (some (.ref f7)))
 (l7:K.lookup f7=some ⟨oc7,od7,.func (PySem.W.fnOf "degree" "degree" (aG kj) (aE kj) (ak kj) .none kV7 dc7 pm7 an7 cd7 ct7),sl7⟩) (c7:PySem.W.codeIn K cd7 "degree"=true) (k7:PySem.W.keepIn K (.ref f7)=true)
 (a8:PySem.W.nsIn K mainGlobals "coefficient"=some (some (.ref f8)))
 (l8:K.lookup f8=some ⟨oc8,od8,.func (PySem.W.fnOf "coefficient" "coefficient" (aG ko) (aE ko) (ak ko) .none kV8 dc8 pm8 an8 cd8 ct8),sl8⟩) (c8:PySem.W.codeIn K cd8 "coefficient"=true) (k8:PySem.W.keepIn K (.ref f8)=true)
 (a9:PySem.W.nsIn K mainGlobals "taken"=some (some (.ref f9)))
 (l9:K.lookup f9=some ⟨oc9,od9,.func (PySem.W.fnOf "taken" "taken" (aG jL) (aE jL) (ak jL) .none kV9 dc9 pm9 an9 cd9 ct9),sl9⟩) (c9:PySem.W.codeIn K cd9 "taken"=true) (k9:PySem.W.keepIn K (.ref f9)=true)
 (a10:PySem.W.nsIn K mainGlobals "slope"=some (some (.ref f10)))
 (l10:K.lookup f10=some ⟨oc10,od10,.func (PySem.W.fnOf "slope" "slope" (aG jQ) (aE jQ) (ak jQ) .none kV10 dc10 pm10 an10 cd10 ct10),sl10⟩) (c10:PySem.W.codeIn K cd10 "slope"=true) (k10:PySem.W.keepIn K (.ref f10)=true)
 (a11:PySem.W.nsIn K mainGlobals "shrunk"=some (some (.ref f11)))
 (l11:K.lookup f11=some ⟨oc11,od11,.func (PySem.W.fnOf "shrunk" "shrunk" (aG g9) (aE g9) (ak g9) .none kV11 dc11 pm11 an11 cd11 ct11),sl11⟩) (c11:PySem.W.codeIn K cd11 "shrunk"=true) (k11:PySem.W.keepIn K (.ref f11)=true)
 (a12:PySem.W.nsIn K mainGlobals "plain"=some (some (.ref f12)))
 (l12:K.lookup f12=some ⟨oc12,od12,.func (PySem.W.fnOf "plain" "plain" (aG j1) (aE j1) (ak j1) .none kV12 dc12 pm12 an12 cd12 ct12),sl12⟩) (c12:PySem.W.codeIn K cd12 "plain"=true) (k12:PySem.W.keepIn K (.ref f12)=true)
 (a13:PySem.W.nsIn K mainGlobals "scaled"=some (some (.ref f13)))
 (l13:K.lookup f13=some ⟨oc13,od13,.func (PySem.W.fnOf "scaled" "scaled" (aG jU) (aE jU) (ak jU) .none kV13 dc13 pm13 an13 cd13 ct13),sl13⟩) (c13:PySem.W.codeIn K cd13 "scaled"=true) (k13:PySem.W.keepIn K (.ref f13)=true)
 (a14:PySem.W.nsIn K mainGlobals "lowered"=some (some (.ref f14)))
 (l14:K.lookup f14=some ⟨oc14,od14,.func (PySem.W.fnOf "lowered" "lowered" (aG ka) (aE ka) (ak ka) .none kV14 dc14 pm14 an14 cd14 ct14),sl14⟩) (c14:PySem.W.codeIn K cd14 "lowered"=true) (k14:PySem.W.keepIn K (.ref f14)=true)
 (a15:PySem.W.nsIn K mainGlobals "divided"=some (some (.ref f15)))
 (l15:K.lookup f15=some ⟨oc15,od15,.func (PySem.W.fnOf "divided" "divided" (aG ki) (aE ki) (ak ki) .none kV15 dc15 pm15 an15 cd15 ct15),sl15⟩) (c15:PySem.W.codeIn K cd15 "divided"=true) (k15:PySem.W.keepIn K (.ref f15)=true)
 (a16:PySem.W.nsIn K mainGlobals "value_parts"=some (some (.ref f16)))
 (l16:K.lookup f16=some ⟨oc16,od16,.func (PySem.W.fnOf "value_parts" "value_parts" (aG jJ) (aE jJ) (ak jJ) .none kV16 dc16 pm16 an16 cd16 ct16),sl16⟩) (c16:PySem.W.codeIn K cd16 "value_parts"=true) (k16:PySem.W.keepIn K (.ref f16)=true)
 (a17:PySem.W.nsIn K mainGlobals "sign_at"=some (some (.ref f17)))
 (l17:K.lookup f17=some ⟨oc17,od17,.func (PySem.W.fnOf "sign_at" "sign_at" (aG jR) (aE jR) (ak jR) .none kV17 dc17 pm17 an17 cd17 ct17),sl17⟩) (c17:PySem.W.codeIn K cd17 "sign_at"=true) (k17:PySem.W.keepIn K (.ref f17)=true)
 (a18:PySem.W.nsIn K mainGlobals "row_from"=some (some (.ref f18)))
 (l18:K.lookup f18=some ⟨oc18,od18,.func (PySem.W.fnOf "row_from" "row_from" (aG jW) (aE jW) (ak jW) .none kV18 dc18 pm18 an18 cd18 ct18),sl18⟩) (c18:PySem.W.codeIn K cd18 "row_from"=true) (k18:PySem.W.keepIn K (.ref f18)=true)
 (a19:PySem.W.nsIn K mainGlobals "row_of"=some (some (.ref f19)))
 (l19:K.lookup f19=some ⟨oc19,od19,.func (PySem.W.fnOf "row_of" "row_of" (aG jV) (aE jV) (ak jV) .none kV19 dc19 pm19 an19 cd19 ct19),sl19⟩) (c19:PySem.W.codeIn K cd19 "row_of"=true) (k19:PySem.W.keepIn K (.ref f19)=true)
 (a20:PySem.W.nsIn K mainGlobals "changes"=some (some (.ref f20)))
 (l20:K.lookup f20=some ⟨oc20,od20,.func (PySem.W.fnOf "changes" "changes" (aG kq) (aE kq) (ak kq) .none kV20 dc20 pm20 an20 cd20 ct20),sl20⟩) (c20:PySem.W.codeIn K cd20 "changes"=true) (k20:PySem.W.keepIn K (.ref f20)=true)
 (a21:PySem.W.nsIn K mainGlobals "count"=some (some (.ref f21)))
 (l21:K.lookup f21=some ⟨oc21,od21,.func (PySem.W.fnOf "count" "count" (aG km) (aE km) (ak km) .none kV21 dc21 pm21 an21 cd21 ct21),sl21⟩) (c21:PySem.W.codeIn K cd21 "count"=true) (k21:PySem.W.keepIn K (.ref f21)=true)
 (a22:PySem.W.nsIn K mainGlobals "bound"=some (some (.ref f22)))
 (l22:K.lookup f22=some ⟨oc22,od22,.func (PySem.W.fnOf "bound" "bound" (aG ku) (aE ku) (ak ku) .none kV22 dc22 pm22 an22 cd22 ct22),sl22⟩) (c22:PySem.W.codeIn K cd22 "bound"=true) (k22:PySem.W.keepIn K (.ref f22)=true)
 (a23:PySem.W.nsIn K mainGlobals "common"=some (some (.ref f23)))
 (l23:K.lookup f23=some ⟨oc23,od23,.func (PySem.W.fnOf "common" "common" (aG kn) (aE kn) (ak kn) .none kV23 dc23 pm23 an23 cd23 ct23),sl23⟩) (c23:PySem.W.codeIn K cd23 "common"=true) (k23:PySem.W.keepIn K (.ref f23)=true)
 (a24:PySem.W.nsIn K mainGlobals "part"=some (some (.ref f24)))
 (l24:K.lookup f24=some ⟨oc24,od24,.func (PySem.W.fnOf "part" "part" (aG j2) (aE j2) (ak j2) .none kV24 dc24 pm24 an24 cd24 ct24),sl24⟩) (c24:PySem.W.codeIn K cd24 "part"=true) (k24:PySem.W.keepIn K (.ref f24)=true)
 (a25:PySem.W.nsIn K mainGlobals "refuse_high"=some (some (.ref f25)))
 (l25:K.lookup f25=some ⟨oc25,od25,.func (PySem.W.fnOf "refuse_high" "refuse_high" (aG jX) (aE jX) (ak jX) .none kV25 dc25 pm25 an25 cd25 ct25),sl25⟩) (c25:PySem.W.codeIn K cd25 "refuse_high"=true) (k25:PySem.W.keepIn K (.ref f25)=true)
 (a26:PySem.W.nsIn K mainGlobals "without_squares"=some (some (.ref f26)))
 (l26:K.lookup f26=some ⟨oc26,od26,.func (PySem.W.fnOf "without_squares" "without_squares" (aG jH) (aE jH) (ak jH) .none kV26 dc26 pm26 an26 cd26 ct26),sl26⟩) (c26:PySem.W.codeIn K cd26 "without_squares"=true) (k26:PySem.W.keepIn K (.ref f26)=true)
 (a27:PySem.W.findIn K (.ref CC2) "__init__"=some (some (.ref f27))) (i27:PySem.W.isFn K (.ref f27)=true)
 (l27:K.lookup f27=some ⟨oc27,od27,.func (PySem.W.fnOf "__init__" "Number.__init__" (aG kU) (aE kU) (ak kU) .none kV27 dc27 pm27 an27 cd27 ct27),sl27⟩) (c27:PySem.W.codeIn K cd27 "Number.__init__"=true) (k27:PySem.W.keepIn K (.ref f27)=true)
 (a28:PySem.W.nsIn K mainGlobals "fine_width"=some (some (.ref f28)))
 (l28:K.lookup f28=some ⟨oc28,od28,.func (PySem.W.fnOf "fine_width" "fine_width" (aG kg) (aE kg) (ak kg) .none kV28 dc28 pm28 an28 cd28 ct28),sl28⟩) (c28:PySem.W.codeIn K cd28 "fine_width"=true) (k28:PySem.W.keepIn K (.ref f28)=true)
 (a29:PySem.W.findIn K (.ref CC1) "floor"=some (some (.ref f29))) (i29:PySem.W.isFn K (.ref f29)=true)
 (l29:K.lookup f29=some ⟨oc29,od29,.func (PySem.W.fnOf "floor" "Ratio.floor" (aG kR) (aE kR) (ak kR) .none kV29 dc29 pm29 an29 cd29 ct29),sl29⟩) (c29:PySem.W.codeIn K cd29 "Ratio.floor"=true) (k29:PySem.W.keepIn K (.ref f29)=true)
 (a30:PySem.W.nsIn K mainGlobals "middle"=some (some (.ref f30)))
 (l30:K.lookup f30=some ⟨oc30,od30,.func (PySem.W.fnOf "middle" "middle" (aG j8) (aE j8) (ak j8) .none kV30 dc30 pm30 an30 cd30 ct30),sl30⟩) (c30:PySem.W.codeIn K cd30 "middle"=true) (k30:PySem.W.keepIn K (.ref f30)=true)
 (a31:PySem.W.nsIn K mainGlobals "cells"=some (some (.ref f31)))
 (l31:K.lookup f31=some ⟨oc31,od31,.func (PySem.W.fnOf "cells" "cells" (aG kt) (aE kt) (ak kt) .none kV31 dc31 pm31 an31 cd31 ct31),sl31⟩) (c31:PySem.W.codeIn K cd31 "cells"=true) (k31:PySem.W.keepIn K (.ref f31)=true)
 (a32:PySem.W.nsIn K mainGlobals "divides"=some (some (.ref f32)))
 (l32:K.lookup f32=some ⟨oc32,od32,.func (PySem.W.fnOf "divides" "divides" (aG kh) (aE kh) (ak kh) .none kV32 dc32 pm32 an32 cd32 ct32),sl32⟩) (c32:PySem.W.codeIn K cd32 "divides"=true) (k32:PySem.W.keepIn K (.ref f32)=true)
 (a33:PySem.W.nsIn K mainGlobals "added"=some (some (.ref f33)))
 (l33:K.lookup f33=some ⟨oc33,od33,.func (PySem.W.fnOf "added" "added" (aG ky) (aE ky) (ak ky) .none kV33 dc33 pm33 an33 cd33 ct33),sl33⟩) (c33:PySem.W.codeIn K cd33 "added"=true) (k33:PySem.W.keepIn K (.ref f33)=true)
 (a34:PySem.W.nsIn K mainGlobals "multiplied"=some (some (.ref f34)))
 (l34:K.lookup f34=some ⟨oc34,od34,.func (PySem.W.fnOf "multiplied" "multiplied" (aG j6) (aE j6) (ak j6) .none kV34 dc34 pm34 an34 cd34 ct34),sl34⟩) (c34:PySem.W.codeIn K cd34 "multiplied"=true) (k34:PySem.W.keepIn K (.ref f34)=true)
 (a35:PySem.W.findIn K (.ref CC1) "plus"=some (some (.ref f35))) (i35:PySem.W.isFn K (.ref f35)=true)
 (l35:K.lookup f35=some ⟨oc35,od35,.func (PySem.W.fnOf "plus" "Ratio.plus" (aG kP) (aE kP) (ak kP) .none kV35 dc35 pm35 an35 cd35 ct35),sl35⟩) (c35:PySem.W.codeIn K cd35 "Ratio.plus"=true) (k35:PySem.W.keepIn K (.ref f35)=true)
 (a36:PySem.W.findIn K (.ref CC1) "minus"=some (some (.ref f36))) (i36:PySem.W.isFn K (.ref f36)=true)
 (l36:K.lookup f36=some ⟨oc36,od36,.func (PySem.W.fnOf "minus" "Ratio.minus" (aG kQ) (aE kQ) (ak kQ) .none kV36 dc36 pm36 an36 cd36 ct36),sl36⟩) (c36:PySem.W.codeIn K cd36 "Ratio.minus"=true) (k36:PySem.W.keepIn K (.ref f36)=true)
 (a37:PySem.W.findIn K (.ref CC1) "times"=some (some (.ref f37))) (i37:PySem.W.isFn K (.ref f37)=true)
 (l37:K.lookup f37=some ⟨oc37,od37,.func (PySem.W.fnOf "times" "Ratio.times" (aG kO) (aE kO) (ak kO) .none kV37 dc37 pm37 an37 cd37 ct37),sl37⟩) (c37:PySem.W.codeIn K cd37 "Ratio.times"=true) (k37:PySem.W.keepIn K (.ref f37)=true)
 (a38:PySem.W.nsIn K mainGlobals "times_floor"=some (some (.ref f38)))
 (l38:K.lookup f38=some ⟨oc38,od38,.func (PySem.W.fnOf "times_floor" "times_floor" (aG jK) (aE jK) (ak jK) .none kV38 dc38 pm38 an38 cd38 ct38),sl38⟩) (c38:PySem.W.codeIn K cd38 "times_floor"=true) (k38:PySem.W.keepIn K (.ref f38)=true)
 (a39:PySem.W.nsIn K mainGlobals "span_product"=some (some (.ref f39)))
 (l39:K.lookup f39=some ⟨oc39,od39,.func (PySem.W.fnOf "span_product" "span_product" (aG jP) (aE jP) (ak jP) .none kV39 dc39 pm39 an39 cd39 ct39),sl39⟩) (c39:PySem.W.codeIn K cd39 "span_product"=true) (k39:PySem.W.keepIn K (.ref f39)=true)
 (a40:PySem.W.nsIn K mainGlobals "square_of"=some (some (.ref f40)))
 (l40:K.lookup f40=some ⟨oc40,od40,.func (PySem.W.fnOf "square_of" "square_of" (aG jN) (aE jN) (ak jN) .none kV40 dc40 pm40 an40 cd40 ct40),sl40⟩) (c40:PySem.W.codeIn K cd40 "square_of"=true) (k40:PySem.W.keepIn K (.ref f40)=true)
 (a41:PySem.W.nsIn K mainGlobals "line_of"=some (some (.ref f41)))
 (l41:K.lookup f41=some ⟨oc41,od41,.func (PySem.W.fnOf "line_of" "line_of" (aG kc) (aE kc) (ak kc) .none kV41 dc41 pm41 an41 cd41 ct41),sl41⟩) (c41:PySem.W.codeIn K cd41 "line_of"=true) (k41:PySem.W.keepIn K (.ref f41)=true)
 (a42:PySem.W.nsIn K mainGlobals "halvings"=some (some (.ref f42)))
 (l42:K.lookup f42=some ⟨oc42,od42,.func (PySem.W.fnOf "halvings" "halvings" (aG ke) (aE ke) (ak ke) .none kV42 dc42 pm42 an42 cd42 ct42),sl42⟩) (c42:PySem.W.codeIn K cd42 "halvings"=true) (k42:PySem.W.keepIn K (.ref f42)=true)
 (a43:PySem.W.nsIn K mainGlobals "stretched"=some (some (.ref f43)))
 (l43:K.lookup f43=some ⟨oc43,od43,.func (PySem.W.fnOf "stretched" "stretched" (aG jM) (aE jM) (ak jM) .none kV43 dc43 pm43 an43 cd43 ct43),sl43⟩) (c43:PySem.W.codeIn K cd43 "stretched"=true) (k43:PySem.W.keepIn K (.ref f43)=true)
 (a44:PySem.W.nsIn K mainGlobals "spread"=some (some (.ref f44)))
 (l44:K.lookup f44=some ⟨oc44,od44,.func (PySem.W.fnOf "spread" "spread" (aG jO) (aE jO) (ak jO) .none kV44 dc44 pm44 an44 cd44 ct44),sl44⟩) (c44:PySem.W.codeIn K cd44 "spread"=true) (k44:PySem.W.keepIn K (.ref f44)=true)
 (a45:PySem.W.nsIn K mainGlobals "moved"=some (some (.ref f45)))
 (l45:K.lookup f45=some ⟨oc45,od45,.func (PySem.W.fnOf "moved" "moved" (aG j7) (aE j7) (ak j7) .none kV45 dc45 pm45 an45 cd45 ct45),sl45⟩) (c45:PySem.W.codeIn K cd45 "moved"=true) (k45:PySem.W.keepIn K (.ref f45)=true)
 (a46:PySem.W.nsIn K mainGlobals "halved"=some (some (.ref f46)))
 (l46:K.lookup f46=some ⟨oc46,od46,.func (PySem.W.fnOf "halved" "halved" (aG kf) (aE kf) (ak kf) .none kV46 dc46 pm46 an46 cd46 ct46),sl46⟩) (c46:PySem.W.codeIn K cd46 "halved"=true) (k46:PySem.W.keepIn K (.ref f46)=true)
 (a47:PySem.W.nsIn K mainGlobals "along"=some (some (.ref f47)))
 (l47:K.lookup f47=some ⟨oc47,od47,.func (PySem.W.fnOf "along" "along" (aG kx) (aE kx) (ak kx) .none kV47 dc47 pm47 an47 cd47 ct47),sl47⟩) (c47:PySem.W.codeIn K cd47 "along"=true) (k47:PySem.W.keepIn K (.ref f47)=true)
 (a48:PySem.W.nsIn K mainGlobals "narrowed"=some (some (.ref f48)))
 (l48:K.lookup f48=some ⟨oc48,od48,.func (PySem.W.fnOf "narrowed" "narrowed" (aG j5) (aE j5) (ak j5) .none kV48 dc48 pm48 an48 cd48 ct48),sl48⟩) (c48:PySem.W.codeIn K cd48 "narrowed"=true) (k48:PySem.W.keepIn K (.ref f48)=true)
 (a49:PySem.W.nsIn K mainGlobals "many_within"=some (some (.ref f49)))
 (l49:K.lookup f49=some ⟨oc49,od49,.func (PySem.W.fnOf "many_within" "many_within" (aG j9) (aE j9) (ak j9) .none kV49 dc49 pm49 an49 cd49 ct49),sl49⟩) (c49:PySem.W.codeIn K cd49 "many_within"=true) (k49:PySem.W.keepIn K (.ref f49)=true)
 (a50:PySem.W.nsIn K mainGlobals "refuse_great"=some (some (.ref f50)))
 (l50:K.lookup f50=some ⟨oc50,od50,.func (PySem.W.fnOf "refuse_great" "refuse_great" (aG jY) (aE jY) (ak jY) .none kV50 dc50 pm50 an50 cd50 ct50),sl50⟩) (c50:PySem.W.codeIn K cd50 "refuse_great"=true) (k50:PySem.W.keepIn K (.ref f50)=true)
 (a51:PySem.W.nsIn K mainGlobals "least"=some (some (.ref f51)))
 (l51:K.lookup f51=some ⟨oc51,od51,.func (PySem.W.fnOf "least" "least" (aG kd) (aE kd) (ak kd) .none kV51 dc51 pm51 an51 cd51 ct51),sl51⟩) (c51:PySem.W.codeIn K cd51 "least"=true) (k51:PySem.W.keepIn K (.ref f51)=true)
 (a52:PySem.W.nsIn K mainGlobals "number_in"=some (some (.ref f52)))
 (l52:K.lookup f52=some ⟨oc52,od52,.func (PySem.W.fnOf "number_in" "number_in" (aG j3) (aE j3) (ak j3) .none kV52 dc52 pm52 an52 cd52 ct52),sl52⟩) (c52:PySem.W.codeIn K cd52 "number_in"=true) (k52:PySem.W.keepIn K (.ref f52)=true)
 (a53:PySem.W.nsIn K mainGlobals "number"=some (some (.ref f53)))
 (l53:K.lookup f53=some ⟨oc53,od53,.func (PySem.W.fnOf "number" "number" (aG j4) (aE j4) (ak j4) (.ref dt53) kV53 dc53 pm53 an53 cd53 ct53),sl53⟩) (c53:PySem.W.codeIn K cd53 "number"=true) (k53:PySem.W.keepIn K (.ref f53)=true)
 (t53:K.lookup dt53=some ⟨oct53,odt53,.seq #[.none,.none] nt53,slt53⟩)
 (a54:PySem.W.nsIn K mainGlobals "_law_cell_at"=some (some (.ref f54)))
 (l54:K.lookup f54=some ⟨oc54,od54,.func (PySem.W.fnOf "_law_cell_at" "_law_cell_at" (aG kL) (aE kL) (ak kL) .none kV54 dc54 pm54 an54 cd54 ct54),sl54⟩) (c54:PySem.W.codeIn K cd54 "_law_cell_at"=true) (k54:PySem.W.keepIn K (.ref f54)=true)
 (a55:PySem.W.nsIn K mainGlobals "_law_whole"=some (some (.ref f55)))
 (l55:K.lookup f55=some ⟨oc55,od55,.func (PySem.W.fnOf "_law_whole" "_law_whole" (aG kA) (aE kA) (ak kA) .none kV55 dc55 pm55 an55 cd55 ct55),sl55⟩) (c55:PySem.W.codeIn K cd55 "_law_whole"=true) (k55:PySem.W.keepIn K (.ref f55)=true)
 (a56:PySem.W.nsIn K mainGlobals "_law_divisor"=some (some (.ref f56)))
 (l56:K.lookup f56=some ⟨oc56,od56,.func (PySem.W.fnOf "_law_divisor" "_law_divisor" (aG kK) (aE kK) (ak kK) .none kV56 dc56 pm56 an56 cd56 ct56),sl56⟩) (c56:PySem.W.codeIn K cd56 "_law_divisor"=true) (k56:PySem.W.keepIn K (.ref f56)=true)
 (a57:PySem.W.nsIn K mainGlobals "_law_sign"=some (some (.ref f57)))
 (l57:K.lookup f57=some ⟨oc57,od57,.func (PySem.W.fnOf "_law_sign" "_law_sign" (aG kD) (aE kD) (ak kD) .none kV57 dc57 pm57 an57 cd57 ct57),sl57⟩) (c57:PySem.W.codeIn K cd57 "_law_sign"=true) (k57:PySem.W.keepIn K (.ref f57)=true)
 (a58:PySem.W.nsIn K mainGlobals "_law_beside"=some (some (.ref f58)))
 (l58:K.lookup f58=some ⟨oc58,od58,.func (PySem.W.fnOf "_law_beside" "_law_beside" (aG kM) (aE kM) (ak kM) .none kV58 dc58 pm58 an58 cd58 ct58),sl58⟩) (c58:PySem.W.codeIn K cd58 "_law_beside"=true) (k58:PySem.W.keepIn K (.ref f58)=true)
 (a59:PySem.W.nsIn K mainGlobals "_law_plain"=some (some (.ref f59)))
 (l59:K.lookup f59=some ⟨oc59,od59,.func (PySem.W.fnOf "_law_plain" "_law_plain" (aG kG) (aE kG) (ak kG) .none kV59 dc59 pm59 an59 cd59 ct59),sl59⟩) (c59:PySem.W.codeIn K cd59 "_law_plain"=true) (k59:PySem.W.keepIn K (.ref f59)=true)
 (a60:PySem.W.nsIn K mainGlobals "_law_ratio"=some (some (.ref f60)))
 (l60:K.lookup f60=some ⟨oc60,od60,.func (PySem.W.fnOf "_law_ratio" "_law_ratio" (aG kE) (aE kE) (ak kE) .none kV60 dc60 pm60 an60 cd60 ct60),sl60⟩) (c60:PySem.W.codeIn K cd60 "_law_ratio"=true) (k60:PySem.W.keepIn K (.ref f60)=true)
 (a61:PySem.W.nsIn K mainGlobals "_law_poly"=some (some (.ref f61)))
 (l61:K.lookup f61=some ⟨oc61,od61,.func (PySem.W.fnOf "_law_poly" "_law_poly" (aG kF) (aE kF) (ak kF) .none kV61 dc61 pm61 an61 cd61 ct61),sl61⟩) (c61:PySem.W.codeIn K cd61 "_law_poly"=true) (k61:PySem.W.keepIn K (.ref f61)=true)
 (a62:PySem.W.nsIn K mainGlobals "_law_least"=some (some (.ref f62)))
 (l62:K.lookup f62=some ⟨oc62,od62,.func (PySem.W.fnOf "_law_least" "_law_least" (aG kI) (aE kI) (ak kI) .none kV62 dc62 pm62 an62 cd62 ct62),sl62⟩) (c62:PySem.W.codeIn K cd62 "_law_least"=true) (k62:PySem.W.keepIn K (.ref f62)=true)
 (a63:PySem.W.nsIn K mainGlobals "_law_amount"=some (some (.ref f63)))
 (l63:K.lookup f63=some ⟨oc63,od63,.func (PySem.W.fnOf "_law_amount" "_law_amount" (aG kN) (aE kN) (ak kN) .none kV63 dc63 pm63 an63 cd63 ct63),sl63⟩) (c63:PySem.W.codeIn K cd63 "_law_amount"=true) (k63:PySem.W.keepIn K (.ref f63)=true)
 (a64:PySem.W.nsIn K mainGlobals "_law_worth"=some (some (.ref f64)))
 (l64:K.lookup f64=some ⟨oc64,od64,.func (PySem.W.fnOf "_law_worth" "_law_worth" (aG kz) (aE kz) (ak kz) .none kV64 dc64 pm64 an64 cd64 ct64),sl64⟩) (c64:PySem.W.codeIn K cd64 "_law_worth"=true) (k64:PySem.W.keepIn K (.ref f64)=true)
 (a65:PySem.W.nsIn K mainGlobals "_law_span"=some (some (.ref f65)))
 (l65:K.lookup f65=some ⟨oc65,od65,.func (PySem.W.fnOf "_law_span" "_law_span" (aG kC) (aE kC) (ak kC) .none kV65 dc65 pm65 an65 cd65 ct65),sl65⟩) (c65:PySem.W.codeIn K cd65 "_law_span"=true) (k65:PySem.W.keepIn K (.ref f65)=true)
 (a66:PySem.W.nsIn K mainGlobals "_law_is"=some (some (.ref f66)))
 (l66:K.lookup f66=some ⟨oc66,od66,.func (PySem.W.fnOf "_law_is" "_law_is" (aG kJ) (aE kJ) (ak kJ) .none kV66 dc66 pm66 an66 cd66 ct66),sl66⟩) (c66:PySem.W.codeIn K cd66 "_law_is"=true) (k66:PySem.W.keepIn K (.ref f66)=true)
 (a67:PySem.W.nsIn K mainGlobals "_law_times"=some (some (.ref f67)))
 (l67:K.lookup f67=some ⟨oc67,od67,.func (PySem.W.fnOf "_law_times" "_law_times" (aG kB) (aE kB) (ak kB) .none kV67 dc67 pm67 an67 cd67 ct67),sl67⟩) (c67:PySem.W.codeIn K cd67 "_law_times"=true) (k67:PySem.W.keepIn K (.ref f67)=true)
 (a68:PySem.W.nsIn K mainGlobals "_law_padded"=some (some (.ref f68)))
 (l68:K.lookup f68=some ⟨oc68,od68,.func (PySem.W.fnOf "_law_padded" "_law_padded" (aG kH) (aE kH) (ak kH) .none kV68 dc68 pm68 an68 cd68 ct68),sl68⟩) (c68:PySem.W.codeIn K cd68 "_law_padded"=true) (k68:PySem.W.keepIn K (.ref f68)=true)
 (a69:PySem.W.nsIn K mainGlobals "law"=some (some (.ref f69)))
 (l69:K.lookup f69=some ⟨oc69,od69,.func (PySem.W.fnOf "law" "law" (aG fK) (aE fK) (ak fK) .none kV69 dc69 pm69 an69 cd69 ct69),sl69⟩) (c69:PySem.W.codeIn K cd69 "law"=true) (k69:PySem.W.keepIn K (.ref f69)=true)
 (z0:PySem.W.nsIn K mainGlobals "abs"=some none)
 (z1:PySem.W.nsIn K mainGlobals "len"=some none)
 (z2:PySem.W.nsIn K mainGlobals "max"=some none)
 (z3:PySem.W.nsIn K mainGlobals "range"=some none)
 (z4:PySem.W.nsIn K mainGlobals "enumerate"=some none)
 (z5:PySem.W.nsIn K mainGlobals "reversed"=some none)
 (z6:PySem.W.nsIn K mainGlobals "list"=some none)
 (z7:PySem.W.nsIn K mainGlobals "sum"=some none)
 (z8:PySem.W.nsIn K mainGlobals "any"=some none)
 (z9:PySem.W.nsIn K mainGlobals "isinstance"=some none)
 (z10:PySem.W.nsIn K mainGlobals "int"=some none)
 (z11:PySem.W.nsIn K mainGlobals "bool"=some none)
 (aI_HIGHEST:PySem.W.nsIn K mainGlobals "HIGHEST"=some (some (.int 8 tk_HIGHEST)))
 (hTr:l.prog.given.tree=none)
 : ∃ fd:FuncData,(∀ (s:Shared) (v:Value),BindsTo s fd ⟨[v],[]⟩ [("_law_script",v)])/\∀ base:Heap,K.In base->base.Ns mainGlobals mg->base.NoSeer->FnOk l.prog w K mg base CX0 40 fa fd ["_law_script"] (oP K):=by
 have e:=hfa.symm.trans (PySem.W.mg_of X G a69)
 cases e
 have T:Txt K mg:=⟨PySem.W.mg_none_of X G z0,PySem.W.mg_none_of X G z1,PySem.W.mg_none_of X G z2,PySem.W.mg_none_of X G z3,PySem.W.mg_none_of X G z4,PySem.W.mg_none_of X G z5,PySem.W.mg_none_of X G z6,PySem.W.mg_none_of X G z7,PySem.W.mg_none_of X G z8,PySem.W.mg_none_of X G z9,PySem.W.mg_none_of X G z10,PySem.W.mg_none_of X G z11,⟨_,PySem.W.mg_of X G aI_HIGHEST⟩⟩
 have R1:RCI K mg CC1:=⟨⟨pg1,hd1,po1,sa1⟩,n1_top,n1_bottom,PySem.W.mg_of X G aC1,ha1,hn1,ht1,hm1⟩
 have R2:NCI K mg CC2:=⟨⟨pg2,hd2,po2,sa2⟩,n2_poly,n2_low,n2_high,PySem.W.mg_of X G aC2,ha2,hn2,ht2,hm2⟩
 have F1:=aJ (st:=jS) l1 c1 k1
 have b1:=F1.binds (ps:=["one","other"]) fun _ _ _ _ _ _ us hl=>match us,hl with | [_,_],_=>rfl
 have F2:=aJ (st:=jT) l2 c2 k2
 have b2:=F2.binds (ps:=["row"]) fun _ _ _ _ _ _ us hl=>match us,hl with | [_],_=>rfl
 have F3:=aJ (st:=jI) l3 c3 k3
 have b3:=F3.binds (ps:=["value"]) fun _ _ _ _ _ _ us hl=>match us,hl with | [_],_=>rfl
 have F4:=zx (st:=kT) l4 c4 k4
 have b4:=FunD.bindsD (ps:=["self","top","bottom"]) (ds:=[]) (tup:=[.int 1 tk4_0]) 3 F4 t4 rfl rfl fun _ _ _ _ _ _ us hl=>match us,hl with | [_,_,_],_=>⟨_,rfl,rfl⟩
 have bD4:=FunD.bindsD (ps:=["self","top","bottom"]) (ds:=[.int 1 tk4_0]) (tup:=[.int 1 tk4_0]) 2 F4 t4 rfl rfl fun _ _ _ _ _ _ us hl=>match us,hl with | [_,_],_=>⟨_,rfl,rfl⟩
 have F5:=aJ (st:=kS) l5 c5 k5
 have b5:=F5.binds (ps:=["self","other"]) fun _ _ _ _ _ _ us hl=>match us,hl with | [_,_],_=>rfl
 have F6:=aJ (st:=jZ) l6 c6 k6
 have b6:=F6.binds (ps:=["row"]) fun _ _ _ _ _ _ us hl=>match us,hl with | [_],_=>rfl
 have F7:=aJ (st:=kj) l7 c7 k7
 have b7:=F7.binds (ps:=["row"]) fun _ _ _ _ _ _ us hl=>match us,hl with | [_],_=>rfl
 have F8:=aJ (st:=ko) l8 c8 k8
 have b8:=F8.binds (ps:=["row","place"]) fun _ _ _ _ _ _ us hl=>match us,hl with | [_,_],_=>rfl
 have F9:=aJ (st:=jL) l9 c9 k9
 have b9:=F9.binds (ps:=["first","second"]) fun _ _ _ _ _ _ us hl=>match us,hl with | [_,_],_=>rfl
 have F10:=aJ (st:=jQ) l10 c10 k10
 have b10:=F10.binds (ps:=["row"]) fun _ _ _ _ _ _ us hl=>match us,hl with | [_],_=>rfl
 have F11:=aJ (st:=g9) l11 c11 k11
 have b11:=F11.binds (ps:=["row"]) fun _ _ _ _ _ _ us hl=>match us,hl with | [_],_=>rfl
 have F12:=aJ (st:=j1) l12 c12 k12
 have b12:=F12.binds (ps:=["row"]) fun _ _ _ _ _ _ us hl=>match us,hl with | [_],_=>rfl
 have F13:=aJ (st:=jU) l13 c13 k13
 have b13:=F13.binds (ps:=["row","factor"]) fun _ _ _ _ _ _ us hl=>match us,hl with | [_,_],_=>rfl
 have F14:=aJ (st:=ka) l14 c14 k14
 have b14:=F14.binds (ps:=["row","second","place","lead"]) fun _ _ _ _ _ _ us hl=>match us,hl with | [_,_,_,_],_=>rfl
 have F15:=aJ (st:=ki) l15 c15 k15
 have b15:=F15.binds (ps:=["first","second"]) fun _ _ _ _ _ _ us hl=>match us,hl with | [_,_],_=>rfl
 have F16:=aJ (st:=jJ) l16 c16 k16
 have b16:=F16.binds (ps:=["row","top","bottom"]) fun _ _ _ _ _ _ us hl=>match us,hl with | [_,_,_],_=>rfl
 have F17:=aJ (st:=jR) l17 c17 k17
 have b17:=F17.binds (ps:=["row","ratio"]) fun _ _ _ _ _ _ us hl=>match us,hl with | [_,_],_=>rfl
 have F18:=aJ (st:=jW) l18 c18 k18
 have b18:=F18.binds (ps:=["first","second"]) fun _ _ _ _ _ _ us hl=>match us,hl with | [_,_],_=>rfl
 have F19:=aJ (st:=jV) l19 c19 k19
 have b19:=F19.binds (ps:=["polynomial"]) fun _ _ _ _ _ _ us hl=>match us,hl with | [_],_=>rfl
 have F20:=aJ (st:=kq) l20 c20 k20
 have b20:=F20.binds (ps:=["row","ratio"]) fun _ _ _ _ _ _ us hl=>match us,hl with | [_,_],_=>rfl
 have F21:=aJ (st:=km) l21 c21 k21
 have b21:=F21.binds (ps:=["row","low","high"]) fun _ _ _ _ _ _ us hl=>match us,hl with | [_,_,_],_=>rfl
 have F22:=aJ (st:=ku) l22 c22 k22
 have b22:=F22.binds (ps:=["row"]) fun _ _ _ _ _ _ us hl=>match us,hl with | [_],_=>rfl
 have F23:=aJ (st:=kn) l23 c23 k23
 have b23:=F23.binds (ps:=["first","second"]) fun _ _ _ _ _ _ us hl=>match us,hl with | [_,_],_=>rfl
 have F24:=aJ (st:=j2) l24 c24 k24
 have b24:=F24.binds (ps:=["row","divisor"]) fun _ _ _ _ _ _ us hl=>match us,hl with | [_,_],_=>rfl
 have F25:=aJ (st:=jX) l25 c25 k25
 have b25:=F25.binds (ps:=["height"]) fun _ _ _ _ _ _ us hl=>match us,hl with | [_],_=>rfl
 have F26:=aJ (st:=jH) l26 c26 k26
 have b26:=F26.binds (ps:=["row"]) fun _ _ _ _ _ _ us hl=>match us,hl with | [_],_=>rfl
 have F27:=aJ (st:=kU) l27 c27 k27
 have b27:=F27.binds (ps:=["self","row","low","high"]) fun _ _ _ _ _ _ us hl=>match us,hl with | [_,_,_,_],_=>rfl
 have F28:=aJ (st:=kg) l28 c28 k28
 have b28:=F28.binds (ps:=["whole"]) fun _ _ _ _ _ _ us hl=>match us,hl with | [_],_=>rfl
 have F29:=aJ (st:=kR) l29 c29 k29
 have b29:=F29.binds (ps:=["self"]) fun _ _ _ _ _ _ us hl=>match us,hl with | [_],_=>rfl
 have F30:=aJ (st:=j8) l30 c30 k30
 have b30:=F30.binds (ps:=["low","high"]) fun _ _ _ _ _ _ us hl=>match us,hl with | [_,_],_=>rfl
 have F31:=aJ (st:=kt) l31 c31 k31
 have b31:=F31.binds (ps:=["row"]) fun _ _ _ _ _ _ us hl=>match us,hl with | [_],_=>rfl
 have F32:=aJ (st:=kh) l32 c32 k32
 have b32:=F32.binds (ps:=["divisor","row"]) fun _ _ _ _ _ _ us hl=>match us,hl with | [_,_],_=>rfl
 have F33:=aJ (st:=ky) l33 c33 k33
 have b33:=F33.binds (ps:=["first","second"]) fun _ _ _ _ _ _ us hl=>match us,hl with | [_,_],_=>rfl
 have F34:=aJ (st:=j6) l34 c34 k34
 have b34:=F34.binds (ps:=["first","second"]) fun _ _ _ _ _ _ us hl=>match us,hl with | [_,_],_=>rfl
 have F35:=aJ (st:=kP) l35 c35 k35
 have b35:=F35.binds (ps:=["self","other"]) fun _ _ _ _ _ _ us hl=>match us,hl with | [_,_],_=>rfl
 have F36:=aJ (st:=kQ) l36 c36 k36
 have b36:=F36.binds (ps:=["self","other"]) fun _ _ _ _ _ _ us hl=>match us,hl with | [_,_],_=>rfl
 have F37:=aJ (st:=kO) l37 c37 k37
 have b37:=F37.binds (ps:=["self","other"]) fun _ _ _ _ _ _ us hl=>match us,hl with | [_,_],_=>rfl
 have F38:=aJ (st:=jK) l38 c38 k38
 have b38:=F38.binds (ps:=["factor","ratio"]) fun _ _ _ _ _ _ us hl=>match us,hl with | [_,_],_=>rfl
 have F39:=aJ (st:=jP) l39 c39 k39
 have b39:=F39.binds (ps:=["first","second"]) fun _ _ _ _ _ _ us hl=>match us,hl with | [_,_],_=>rfl
 have F40:=aJ (st:=jN) l40 c40 k40
 have b40:=F40.binds (ps:=["whole","span","other"]) fun _ _ _ _ _ _ us hl=>match us,hl with | [_,_,_],_=>rfl
 have F41:=aJ (st:=kc) l41 c41 k41
 have b41:=F41.binds (ps:=["whole","span"]) fun _ _ _ _ _ _ us hl=>match us,hl with | [_,_],_=>rfl
 have F42:=aJ (st:=ke) l42 c42 k42
 have b42:=F42.binds (ps:=["reach","width"]) fun _ _ _ _ _ _ us hl=>match us,hl with | [_,_],_=>rfl
 have F43:=aJ (st:=jM) l43 c43 k43
 have b43:=F43.binds (ps:=["row","low","reach"]) fun _ _ _ _ _ _ us hl=>match us,hl with | [_,_,_],_=>rfl
 have F44:=aJ (st:=jO) l44 c44 k44
 have b44:=F44.binds (ps:=["row"]) fun _ _ _ _ _ _ us hl=>match us,hl with | [_],_=>rfl
 have F45:=aJ (st:=j7) l45 c45 k45
 have b45:=F45.binds (ps:=["row"]) fun _ _ _ _ _ _ us hl=>match us,hl with | [_],_=>rfl
 have F46:=aJ (st:=kf) l46 c46 k46
 have b46:=F46.binds (ps:=["row","end","steps"]) fun _ _ _ _ _ _ us hl=>match us,hl with | [_,_,_],_=>rfl
 have F47:=aJ (st:=kx) l47 c47 k47
 have b47:=F47.binds (ps:=["low","reach","place","pieces"]) fun _ _ _ _ _ _ us hl=>match us,hl with | [_,_,_,_],_=>rfl
 have F48:=aJ (st:=j5) l48 c48 k48
 have b48:=F48.binds (ps:=["row","low","high","width"]) fun _ _ _ _ _ _ us hl=>match us,hl with | [_,_,_,_],_=>rfl
 have F49:=aJ (st:=j9) l49 c49 k49
 have b49:=F49.binds (ps:=["simple","low","high"]) fun _ _ _ _ _ _ us hl=>match us,hl with | [_,_,_],_=>rfl
 have F50:=aJ (st:=jY) l50 c50 k50
 have b50:=F50.binds (ps:=["row"]) fun _ _ _ _ _ _ us hl=>match us,hl with | [_],_=>rfl
 have F51:=aJ (st:=kd) l51 c51 k51
 have b51:=F51.binds (ps:=["row","low","high"]) fun _ _ _ _ _ _ us hl=>match us,hl with | [_,_,_],_=>rfl
 have F52:=aJ (st:=j3) l52 c52 k52
 have b52:=F52.binds (ps:=["simple","low","high"]) fun _ _ _ _ _ _ us hl=>match us,hl with | [_,_,_],_=>rfl
 have F53:=zx (st:=j4) l53 c53 k53
 have b53:=FunD.bindsD (ps:=["row","low","high"]) (ds:=[]) (tup:=[.none,.none]) 3 F53 t53 rfl rfl fun _ _ _ _ _ _ us hl=>match us,hl with | [_,_,_],_=>⟨_,rfl,rfl⟩
 have bD53:=FunD.bindsD (ps:=["row","low","high"]) (ds:=[.none,.none]) (tup:=[.none,.none]) 1 F53 t53 rfl rfl fun _ _ _ _ _ _ us hl=>match us,hl with | [_],_=>⟨_,rfl,rfl⟩
 have F54:=aJ (st:=kL) l54 c54 k54
 have b54:=F54.binds (ps:=["_law_script","_law_k"]) fun _ _ _ _ _ _ us hl=>match us,hl with | [_,_],_=>rfl
 have F55:=aJ (st:=kA) l55 c55 k55
 have b55:=F55.binds (ps:=["_law_found"]) fun _ _ _ _ _ _ us hl=>match us,hl with | [_],_=>rfl
 have F56:=aJ (st:=kK) l56 c56 k56
 have b56:=F56.binds (ps:=["_law_one","_law_other"]) fun _ _ _ _ _ _ us hl=>match us,hl with | [_,_],_=>rfl
 have F57:=aJ (st:=kD) l57 c57 k57
 have b57:=F57.binds (ps:=["_law_u","_law_v","_law_d"]) fun _ _ _ _ _ _ us hl=>match us,hl with | [_,_,_],_=>rfl
 have F58:=aJ (st:=kM) l58 c58 k58
 have b58:=F58.binds (ps:=["_law_worth_here","_law_r"]) fun _ _ _ _ _ _ us hl=>match us,hl with | [_,_],_=>rfl
 have F59:=aJ (st:=kG) l59 c59 k59
 have b59:=F59.binds (ps:=["_law_row"]) fun _ _ _ _ _ _ us hl=>match us,hl with | [_],_=>rfl
 have F60:=aJ (st:=kE) l60 c60 k60
 have b60:=F60.binds (ps:=["_law_found"]) fun _ _ _ _ _ _ us hl=>match us,hl with | [_],_=>rfl
 have F61:=aJ (st:=kF) l61 c61 k61
 have b61:=F61.binds (ps:=["_law_found"]) fun _ _ _ _ _ _ us hl=>match us,hl with | [_],_=>rfl
 have F62:=aJ (st:=kI) l62 c62 k62
 have b62:=F62.binds (ps:=["_law_worth_here"]) fun _ _ _ _ _ _ us hl=>match us,hl with | [_],_=>rfl
 have F63:=aJ (st:=kN) l63 c63 k63
 have b63:=F63.binds (ps:=["_law_cell"]) fun _ _ _ _ _ _ us hl=>match us,hl with | [_],_=>rfl
 have F64:=aJ (st:=kz) l64 c64 k64
 have b64:=F64.binds (ps:=["_law_script","_law_k"]) fun _ _ _ _ _ _ us hl=>match us,hl with | [_,_],_=>rfl
 have F65:=aJ (st:=kC) l65 c65 k65
 have b65:=F65.binds (ps:=["_law_worth_here","_law_more"]) fun _ _ _ _ _ _ us hl=>match us,hl with | [_,_],_=>rfl
 have F66:=aJ (st:=kJ) l66 c66 k66
 have b66:=F66.binds (ps:=["_law_found","_law_worth_here","_law_due"]) fun _ _ _ _ _ _ us hl=>match us,hl with | [_,_,_],_=>rfl
 have F67:=aJ (st:=kB) l67 c67 k67
 have b67:=F67.binds (ps:=["_law_one","_law_other"]) fun _ _ _ _ _ _ us hl=>match us,hl with | [_,_],_=>rfl
 have F68:=aJ (st:=kH) l68 c68 k68
 have b68:=F68.binds (ps:=["_law_worth_here","_law_span_here","_law_cell"]) fun _ _ _ _ _ _ us hl=>match us,hl with | [_,_,_],_=>rfl
 have F69:=aJ (st:=fK) l69 c69 k69
 have b69:=F69.binds (ps:=["_law_script"]) fun _ _ _ _ _ _ us hl=>match us,hl with | [_],_=>rfl
 refine ⟨PySem.W.fnOf "law" "law" (aG fK) (aE fK) (ak fK) .none kV69 dc69 pm69 an69 cd69 ct69,fun s v=>.of_eq rfl,fun base KB GB hNS=>?_⟩
 have C1:Cal l.prog w K mg base 1 "shared_by_two" ["one","other"] sp2 _ _:=⟨Ea F1 T  ,PySem.W.mg_of X G a1,k1,b1⟩
 have C2:Cal l.prog w K mg base 2 "shared" ["row"] (oJ K) _ _:=⟨Eb F2 T  C1,PySem.W.mg_of X G a2,k2,b2⟩
 have C3:Cal l.prog w K mg base 1 "whole_sign" ["value"] jB _ _:=⟨DY F3 T  ,PySem.W.mg_of X G a3,k3,b3⟩
 have K1:KCal l.prog w K mg base 2 CC1 "Ratio" ["self","top","bottom"] (dm CC1) _ _ _ [.int 1]:=⟨Fb F4 T R1 C1,⟨mk1,a4,i4,kc1⟩,PySem.W.mg_of X G aC1,b4,bD4,.cons ⟨_,rfl⟩ .nil⟩
 have C5:MCal l.prog w K mg base 2 CC1 "against" ["self","other"] (mE CC1) _ _:=⟨Fa F5 T R1 C3,⟨a5,i5,k5⟩,b5⟩
 have C6:Cal l.prog w K mg base 1 "poly" ["row"] (jz K) _ _:=⟨Eh F6 T  ,PySem.W.mg_of X G a6,k6,b6⟩
 have C7:Cal l.prog w K mg base 1 "degree" ["row"] gY _ _:=⟨EC F7 T  ,PySem.W.mg_of X G a7,k7,b7⟩
 have C8:Cal l.prog w K mg base 1 "coefficient" ["row","place"] (gw K) _ _:=⟨EF F8 T  ,PySem.W.mg_of X G a8,k8,b8⟩
 have C9:Cal l.prog w K mg base 2 "taken" ["first","second"] (jF K cF) _ _:=⟨D2 F9 T  C6 C8,PySem.W.mg_of X G a9,k9,b9⟩
 have C10:Cal l.prog w K mg base 1 "slope" ["row"] (sp1 slopeL) _ _:=⟨D7 F10 T  ,PySem.W.mg_of X G a10,k10,b10⟩
 have C11:Cal l.prog w K mg base 33 "shrunk" ["row"] oI _ _:=⟨D9 F11 T  hNS hTr C2,PySem.W.mg_of X G a11,k11,b11⟩
 have C12:Cal l.prog w K mg base 34 "plain" ["row"] jD _ _:=⟨Ei F12 T  C11,PySem.W.mg_of X G a12,k12,b12⟩
 have C13:Cal l.prog w K mg base 1 "scaled" ["row","factor"] qY _ _:=⟨Ec F13 T  ,PySem.W.mg_of X G a13,k13,b13⟩
 have C14:Cal l.prog w K mg base 1 "lowered" ["row","second","place","lead"] rC _ _:=⟨Et F14 T  ,PySem.W.mg_of X G a14,k14,b14⟩
 have C15:Cal l.prog w K mg base 2 "divided" ["first","second"] jE _ _:=⟨EB F15 T  C3 C7 C13 C14 C6,PySem.W.mg_of X G a15,k15,b15⟩
 have C16:Cal l.prog w K mg base 1 "value_parts" ["row","top","bottom"] qQ _ _:=⟨DZ F16 T  ,PySem.W.mg_of X G a16,k16,b16⟩
 have C17:Cal l.prog w K mg base 2 "sign_at" ["row","ratio"] (jC CC1) _ _:=⟨D8 F17 T R1 C16 C3,PySem.W.mg_of X G a17,k17,b17⟩
 have C18:Cal l.prog w K mg base 34 "row_from" ["first","second"] qZ _ _:=⟨Ee F18 T  C11 C15 C9,PySem.W.mg_of X G a18,k18,b18⟩
 have C19:Cal l.prog w K mg base 35 "row_of" ["polynomial"] mC _ _:=⟨Ed F19 T  C18 C10,PySem.W.mg_of X G a19,k19,b19⟩
 have C20:Cal l.prog w K mg base 3 "changes" ["row","ratio"] (oT CC1) _ _:=⟨EG F20 T R1 C17,PySem.W.mg_of X G a20,k20,b20⟩
 have C21:Cal l.prog w K mg base 4 "count" ["row","low","high"] (oS CC1) _ _:=⟨ED F21 T R1 C20,PySem.W.mg_of X G a21,k21,b21⟩
 have C22:Cal l.prog w K mg base 1 "bound" ["row"] (mD K) _ _:=⟨EI F22 T  ,PySem.W.mg_of X G a22,k22,b22⟩
 have C23:Cal l.prog w K mg base 35 "common" ["first","second"] rL _ _:=⟨EE F23 T  C12 C15,PySem.W.mg_of X G a23,k23,b23⟩
 have C24:Cal l.prog w K mg base 35 "part" ["row","divisor"] rg _ _:=⟨Ej F24 T  C15 C12,PySem.W.mg_of X G a24,k24,b24⟩
 have C25:Cal l.prog w K mg base 1 "refuse_high" ["height"] (fun vs H Q _=>∃ i:Int,vs=[.int i]/\i<=8/\Q .non H) _ _:=⟨Ef F25 T  ,PySem.W.mg_of X G a25,k25,b25⟩
 have C26:Cal l.prog w K mg base 36 "without_squares" ["row"] qO _ _:=⟨DX F26 T  C24 C23 C10,PySem.W.mg_of X G a26,k26,b26⟩
 have K2:KCal l.prog w K mg base 1 CC2 "Number" ["self","row","low","high"] (oQ CC2) _ _ _ []:=⟨Fc F27 T R2 ,⟨mk2,a27,i27,kc2⟩,PySem.W.mg_of X G aC2,b27,b27,.nil⟩
 have C28:Cal l.prog w K mg base 4 "fine_width" ["whole"] (rH CC1) _ _:=⟨Ez F28 T R1 K1 C22,PySem.W.mg_of X G a28,k28,b28⟩
 have C29:MCal l.prog w K mg base 1 CC1 "floor" ["self"] (rJ CC1) _ _:=⟨E9 F29 T R1 ,⟨a29,i29,k29⟩,b29⟩
 have C30:Cal l.prog w K mg base 4 "middle" ["low","high"] (rA CC1) _ _:=⟨Ep F30 T R1 K1,PySem.W.mg_of X G a30,k30,b30⟩
 have C31:Cal l.prog w K mg base 36 "cells" ["row"] (rM CC1) _ _:=⟨EH F31 T R1 C7 C19 K1 C22 C20 C30,PySem.W.mg_of X G a31,k31,b31⟩
 have C32:Cal l.prog w K mg base 3 "divides" ["divisor","row"] rK _ _:=⟨EA F32 T  C15,PySem.W.mg_of X G a32,k32,b32⟩
 have C33:Cal l.prog w K mg base 2 "added" ["first","second"] (jF K gn) _ _:=⟨EK F33 T  C6 C8,PySem.W.mg_of X G a33,k33,b33⟩
 have C34:Cal l.prog w K mg base 1 "multiplied" ["first","second"] rq _ _:=⟨En F34 T  ,PySem.W.mg_of X G a34,k34,b34⟩
 have C35:MCal l.prog w K mg base 4 CC1 "plus" ["self","other"] (oK CC1) _ _:=⟨E7 F35 T R1 K1,⟨a35,i35,k35⟩,b35⟩
 have C36:MCal l.prog w K mg base 4 CC1 "minus" ["self","other"] (oN CC1) _ _:=⟨E8 F36 T R1 K1,⟨a36,i36,k36⟩,b36⟩
 have C37:MCal l.prog w K mg base 4 CC1 "times" ["self","other"] (jA CC1) _ _:=⟨E6 F37 T R1 K1,⟨a37,i37,k37⟩,b37⟩
 have C38:Cal l.prog w K mg base 5 "times_floor" ["factor","ratio"] (oH CC1) _ _:=⟨D0 F38 T R1 K1 C37 C29,PySem.W.mg_of X G a38,k38,b38⟩
 have C39:Cal l.prog w K mg base 5 "span_product" ["first","second"] (qV CC1) _ _:=⟨D6 F39 T R1 C37 C5,PySem.W.mg_of X G a39,k39,b39⟩
 have C40:Cal l.prog w K mg base 35 "square_of" ["whole","span","other"] (qT CC1) _ _:=⟨D4 F40 T R1 C38 C35 C39 C12,PySem.W.mg_of X G a40,k40,b40⟩
 have C41:Cal l.prog w K mg base 6 "line_of" ["whole","span"] (rD CC1) _ _:=⟨Eu F41 T R1 K1 C38 C5 C17,PySem.W.mg_of X G a41,k41,b41⟩
 have C42:Cal l.prog w K mg base 1 "halvings" ["reach","width"] (rF CC1) _ _:=⟨Ex F42 T R1 ,PySem.W.mg_of X G a42,k42,b42⟩
 have C43:Cal l.prog w K mg base 3 "stretched" ["row","low","reach"] (qS CC1) _ _:=⟨D3 F43 T R1 C2 C33 C34 C6,PySem.W.mg_of X G a43,k43,b43⟩
 have C44:Cal l.prog w K mg base 1 "spread" ["row"] qU _ _:=⟨D5 F44 T  ,PySem.W.mg_of X G a44,k44,b44⟩
 have C45:Cal l.prog w K mg base 2 "moved" ["row"] rz _ _:=⟨Eo F45 T  C7,PySem.W.mg_of X G a45,k45,b45⟩
 have C46:Cal l.prog w K mg base 3 "halved" ["row","end","steps"] rG _ _:=⟨Ey F46 T  C44 C3 C45,PySem.W.mg_of X G a46,k46,b46⟩
 have C47:Cal l.prog w K mg base 5 "along" ["low","reach","place","pieces"] (rP CC1) _ _:=⟨EJ F47 T R1 C35 C37 K1,PySem.W.mg_of X G a47,k47,b47⟩
 have C48:Cal l.prog w K mg base 6 "narrowed" ["row","low","high","width"] (oM CC1) _ _:=⟨Em F48 T R1 C36 C42 C46 C43 C17 C47,PySem.W.mg_of X G a48,k48,b48⟩
 have C49:Cal l.prog w K mg base 36 "many_within" ["simple","low","high"] (rp CC1) _ _:=⟨Er F49 T R1 C5 C21 C19,PySem.W.mg_of X G a49,k49,b49⟩
 have C50:Cal l.prog w K mg base 1 "refuse_great" ["row"] rc _ _:=⟨Eg F50 T  ,PySem.W.mg_of X G a50,k50,b50⟩
 have C51:Cal l.prog w K mg base 37 "least" ["row","low","high"] (rB CC1) _ _:=⟨Ev F51 T  C12 C7 C28 C48 C41 C31 C40 C32 C21 C19,PySem.W.mg_of X G a51,k51,b51⟩
 have C52:Cal l.prog w K mg base 38 "number_in" ["simple","low","high"] (rk CC1 CC2) _ _:=⟨Ek F52 T R1 C51 C17 C48 C36 C37 K1 K2,PySem.W.mg_of X G a52,k52,b52⟩
 have C53:CalE l.prog w K mg base 39 "number" ["row","low","high"] (rm CC1 CC2) _ _ _ [.non,.non]:=⟨El F53 T R1 C25 C7 K1 C22 C26 C49 C50 C52,PySem.W.mg_of X G a53,k53,b53,bD53,.cons rfl (.cons rfl (.nil))⟩
 have C54:Cal l.prog w K mg base 1 "_law_cell_at" ["_law_script","_law_k"] (gw K) _ _:=⟨E3 F54 T  ,PySem.W.mg_of X G a54,k54,b54⟩
 have C55:Cal l.prog w K mg base 1 "_law_whole" ["_law_found"] oG _ _:=⟨EO F55 T  ,PySem.W.mg_of X G a55,k55,b55⟩
 have C56:Cal l.prog w K mg base 1 "_law_divisor" ["_law_one","_law_other"] oR _ _:=⟨EZ F56 T  ,PySem.W.mg_of X G a56,k56,b56⟩
 have C57:Cal l.prog w K mg base 1 "_law_sign" ["_law_u","_law_v","_law_d"] qX _ _:=⟨ES F57 T  ,PySem.W.mg_of X G a57,k57,b57⟩
 have C58:Cal l.prog w K mg base 2 "_law_beside" ["_law_worth_here","_law_r"] (rN CC1) _ _:=⟨E4 F58 T R1 C57,PySem.W.mg_of X G a58,k58,b58⟩
 have C59:Cal l.prog w K mg base 2 "_law_plain" ["_law_row"] rf _ _:=⟨EV F59 T  C56,PySem.W.mg_of X G a59,k59,b59⟩
 have C60:Cal l.prog w K mg base 2 "_law_ratio" ["_law_found"] (rd CC1) _ _:=⟨ET F60 T R1 C55 C56,PySem.W.mg_of X G a60,k60,b60⟩
 have C61:Cal l.prog w K mg base 2 "_law_poly" ["_law_found"] re _ _:=⟨EU F61 T  C55,PySem.W.mg_of X G a61,k61,b61⟩
 have C62:Cal l.prog w K mg base 3 "_law_least" ["_law_worth_here"] oO _ _:=⟨EX F62 T  C59,PySem.W.mg_of X G a62,k62,b62⟩
 have C63:Cal l.prog w K mg base 1 "_law_amount" ["_law_cell"] rO _ _:=⟨E5 F63 T  ,PySem.W.mg_of X G a63,k63,b63⟩
 have C64:Cal l.prog w K mg base 2 "_law_worth" ["_law_script","_law_k"] (qP K) _ _:=⟨EN F64 T  C63 C54,PySem.W.mg_of X G a64,k64,b64⟩
 have C65:Cal l.prog w K mg base 4 "_law_span" ["_law_worth_here","_law_more"] (qW CC1) _ _:=⟨ER F65 T R1 K1,PySem.W.mg_of X G a65,k65,b65⟩
 have C66:Cal l.prog w K mg base 3 "_law_is" ["_law_found","_law_worth_here","_law_due"] (rE CC1 CC2) _ _:=⟨EY F66 T R1 R2 C61 C60 C58,PySem.W.mg_of X G a66,k66,b66⟩
 have C67:Cal l.prog w K mg base 1 "_law_times" ["_law_one","_law_other"] qR _ _:=⟨EQ F67 T  ,PySem.W.mg_of X G a67,k67,b67⟩
 have C68:Cal l.prog w K mg base 4 "_law_padded" ["_law_worth_here","_law_span_here","_law_cell"] (rj CC1) _ _:=⟨EW F68 T R1 C62 C67,PySem.W.mg_of X G a68,k68,b68⟩
 exact Ew F69 T R1 R2 C64 C65 C54 C68 C53 C62 C66
theorem walk {l:PySem.W.OpenLaw} {q:Program} {loose:List Str} {XP:(Str->Option Value)->Heap->Prop} {YP:World->Heap->Prop} {d:DefRec} {K:Params->PySem.W.Frag} (hi:PyProof.Rows.importsNone q=true) (hn:l.most=some 63) (hdf:d.params.defaults=[])
 (hY:∀ (w:World) (h:Heap),YP w h->(K w.params).In h)
 (F:∀ (w:World) (mg:Str->Option Value) (fa:Addr) (h:Heap),(K w.params).In h->h.Ns mainGlobals mg->mg d.name=some (.ref fa) ->
   ∃ fd:FuncData,(∀ (s:Shared) (u:Value),BindsTo s fd ⟨[u],[]⟩ [("_law_script",u)])/\∀ base:Heap,(K w.params).In base->base.Ns mainGlobals mg->base.NoSeer->FnOk l.prog w (K w.params) mg base CX0 40 fa fd ["_law_script"] (oP (K w.params))) :
 PySem.W.WalkO q loose XP YP l.row.toRowW d [] (fun f vs=>PySem.call f vs) :=
 L2.walk_ofS (n:=63) (k:=40) (x:="_law_script") (CX:=fun _=>CX0) (sp:=fun w=>oP (K w.params)) hi hn (by decide) hdf ⟨rfl,by decide,by decide⟩ hY F (fun _ _ a ns hl _ hS=>⟨a,ns,rfl,hS,hl,fun _=>rfl⟩) fun _ _ _ _ _ z=>z
end R42
open PySem PySem.W PyProof.Rows
set_option maxRecDepth 100000 in
set_option maxHeartbeats 0 in
theorem PySem.Challenge.cw_rootspan_k42_a_number_made_holds : PySem.Challenge.rw_rootspan_k42_a_number_made.Holds := by
 w_on;o_law;k_head;(case hw=>w_witness2)
 k_fill
 refine R42.walk (l:=PySem.Challenge.rw_rootspan_k42_a_number_made) (by decide +kernel) rfl rfl (fun w h Y=>PySem.W.kIn_of Y) ?F
 case F =>
  intro w mg fa h KX G hmg
  refine' R42.all_mk KX G hmg ?aC1 ?pg1 ?hd1 ?po1 ?sa1 ?mk1 ?kc1 ?n1_top ?n1_bottom ?ha1 ?hn1 ?ht1 ?hm1 ?aC2 ?pg2 ?hd2 ?po2 ?sa2 ?mk2 ?kc2 ?n2_poly ?n2_low ?n2_high ?ha2 ?hn2 ?ht2 ?hm2 ?a1 ?l1 ?c1 ?k1 ?a2 ?l2 ?c2 ?k2 ?a3 ?l3 ?c3 ?k3 ?a4 ?i4 ?l4 ?c4 ?k4 ?t4 ?a5 ?i5 ?l5 ?c5 ?k5 ?a6 ?l6 ?c6 ?k6 ?a7 ?l7 ?c7 ?k7 ?a8 ?l8 ?c8 ?k8 ?a9 ?l9 ?c9 ?k9 ?a10 ?l10 ?c10 ?k10 ?a11 ?l11 ?c11 ?k11 ?a12 ?l12 ?c12 ?k12 ?a13 ?l13 ?c13 ?k13 ?a14 ?l14 ?c14 ?k14 ?a15 ?l15 ?c15 ?k15 ?a16 ?l16 ?c16 ?k16 ?a17 ?l17 ?c17 ?k17 ?a18 ?l18 ?c18 ?k18 ?a19 ?l19 ?c19 ?k19 ?a20 ?l20 ?c20 ?k20 ?a21 ?l21 ?c21 ?k21 ?a22 ?l22 ?c22 ?k22 ?a23 ?l23 ?c23 ?k23 ?a24 ?l24 ?c24 ?k24 ?a25 ?l25 ?c25 ?k25 ?a26 ?l26 ?c26 ?k26 ?a27 ?i27 ?l27 ?c27 ?k27 ?a28 ?l28 ?c28 ?k28 ?a29 ?i29 ?l29 ?c29 ?k29 ?a30 ?l30 ?c30 ?k30 ?a31 ?l31 ?c31 ?k31 ?a32 ?l32 ?c32 ?k32 ?a33 ?l33 ?c33 ?k33 ?a34 ?l34 ?c34 ?k34 ?a35 ?i35 ?l35 ?c35 ?k35 ?a36 ?i36 ?l36 ?c36 ?k36 ?a37 ?i37 ?l37 ?c37 ?k37 ?a38 ?l38 ?c38 ?k38 ?a39 ?l39 ?c39 ?k39 ?a40 ?l40 ?c40 ?k40 ?a41 ?l41 ?c41 ?k41 ?a42 ?l42 ?c42 ?k42 ?a43 ?l43 ?c43 ?k43 ?a44 ?l44 ?c44 ?k44 ?a45 ?l45 ?c45 ?k45 ?a46 ?l46 ?c46 ?k46 ?a47 ?l47 ?c47 ?k47 ?a48 ?l48 ?c48 ?k48 ?a49 ?l49 ?c49 ?k49 ?a50 ?l50 ?c50 ?k50 ?a51 ?l51 ?c51 ?k51 ?a52 ?l52 ?c52 ?k52 ?a53 ?l53 ?c53 ?k53 ?t53 ?a54 ?l54 ?c54 ?k54 ?a55 ?l55 ?c55 ?k55 ?a56 ?l56 ?c56 ?k56 ?a57 ?l57 ?c57 ?k57 ?a58 ?l58 ?c58 ?k58 ?a59 ?l59 ?c59 ?k59 ?a60 ?l60 ?c60 ?k60 ?a61 ?l61 ?c61 ?k61 ?a62 ?l62 ?c62 ?k62 ?a63 ?l63 ?c63 ?k63 ?a64 ?l64 ?c64 ?k64 ?a65 ?l65 ?c65 ?k65 ?a66 ?l66 ?c66 ?k66 ?a67 ?l67 ?c67 ?k67 ?a68 ?l68 ?c68 ?k68 ?a69 ?l69 ?c69 ?k69 ?z0 ?z1 ?z2 ?z3 ?z4 ?z5 ?z6 ?z7 ?z8 ?z9 ?z10 ?z11 ?aI_HIGHEST rfl
  (case aC1=>k_is)
  (case pg1=>k_is)
  (case hd1=>k_is)
  (case po1=>k_is)
  (case sa1=>k_is)
  (case mk1=>k_is)
  (case kc1=>k_is)
  (case n1_top=>k_is)
  (case n1_bottom=>k_is)
  (case ha1=>k_is)
  (case hn1=>k_is)
  (case ht1=>k_is)
  (case hm1=>k_is)
  (case aC2=>k_is)
  (case pg2=>k_is)
  (case hd2=>k_is)
  (case po2=>k_is)
  (case sa2=>k_is)
  (case mk2=>k_is)
  (case kc2=>k_is)
  (case n2_poly=>k_is)
  (case n2_low=>k_is)
  (case n2_high=>k_is)
  (case ha2=>k_is)
  (case hn2=>k_is)
  (case ht2=>k_is)
  (case hm2=>k_is)
  (case a1=>k_is)
  (case l1=>k_is)
  (case c1=>k_is)
  (case k1=>k_is)
  (case a2=>k_is)
  (case l2=>k_is)
  (case c2=>k_is)
  (case k2=>k_is)
  (case a3=>k_is)
  (case l3=>k_is)
  (case c3=>k_is)
  (case k3=>k_is)
  (case a4=>k_is)
  (case i4=>k_is)
  (case l4=>k_is)
  (case c4=>k_is)
  (case k4=>k_is)
  (case t4=>k_is)
  (case a5=>k_is)
  (case i5=>k_is)
  (case l5=>k_is)
  (case c5=>k_is)
  (case k5=>k_is)
  (case a6=>k_is)
  (case l6=>k_is)
  (case c6=>k_is)
  (case k6=>k_is)
  (case a7=>k_is)
  (case l7=>k_is)
  (case c7=>k_is)
  (case k7=>k_is)
  (case a8=>k_is)
  (case l8=>k_is)
  (case c8=>k_is)
  (case k8=>k_is)
  (case a9=>k_is)
  (case l9=>k_is)
  (case c9=>k_is)
  (case k9=>k_is)
  (case a10=>k_is)
  (case l10=>k_is)
  (case c10=>k_is)
  (case k10=>k_is)
  (case a11=>k_is)
  (case l11=>k_is)
  (case c11=>k_is)
  (case k11=>k_is)
  (case a12=>k_is)
  (case l12=>k_is)
  (case c12=>k_is)
  (case k12=>k_is)
  (case a13=>k_is)
  (case l13=>k_is)
  (case c13=>k_is)
  (case k13=>k_is)
  (case a14=>k_is)
  (case l14=>k_is)
  (case c14=>k_is)
  (case k14=>k_is)
  (case a15=>k_is)
  (case l15=>k_is)
  (case c15=>k_is)
  (case k15=>k_is)
  (case a16=>k_is)
  (case l16=>k_is)
  (case c16=>k_is)
  (case k16=>k_is)
  (case a17=>k_is)
  (case l17=>k_is)
  (case c17=>k_is)
  (case k17=>k_is)
  (case a18=>k_is)
  (case l18=>k_is)
  (case c18=>k_is)
  (case k18=>k_is)
  (case a19=>k_is)
  (case l19=>k_is)
  (case c19=>k_is)
  (case k19=>k_is)
  (case a20=>k_is)
  (case l20=>k_is)
  (case c20=>k_is)
  (case k20=>k_is)
  (case a21=>k_is)
  (case l21=>k_is)
  (case c21=>k_is)
  (case k21=>k_is)
  (case a22=>k_is)
  (case l22=>k_is)
  (case c22=>k_is)
  (case k22=>k_is)
  (case a23=>k_is)
  (case l23=>k_is)
  (case c23=>k_is)
  (case k23=>k_is)
  (case a24=>k_is)
  (case l24=>k_is)
  (case c24=>k_is)
  (case k24=>k_is)
  (case a25=>k_is)
  (case l25=>k_is)
  (case c25=>k_is)
  (case k25=>k_is)
  (case a26=>k_is)
  (case l26=>k_is)
  (case c26=>k_is)
  (case k26=>k_is)
  (case a27=>k_is)
  (case i27=>k_is)
  (case l27=>k_is)
  (case c27=>k_is)
  (case k27=>k_is)
  (case a28=>k_is)
  (case l28=>k_is)
  (case c28=>k_is)
  (case k28=>k_is)
  (case a29=>k_is)
  (case i29=>k_is)
  (case l29=>k_is)
  (case c29=>k_is)
  (case k29=>k_is)
  (case a30=>k_is)
  (case l30=>k_is)
  (case c30=>k_is)
  (case k30=>k_is)
  (case a31=>k_is)
  (case l31=>k_is)
  (case c31=>k_is)
  (case k31=>k_is)
  (case a32=>k_is)
  (case l32=>k_is)
  (case c32=>k_is)
  (case k32=>k_is)
  (case a33=>k_is)
  (case l33=>k_is)
  (case c33=>k_is)
  (case k33=>k_is)
  (case a34=>k_is)
  (case l34=>k_is)
  (case c34=>k_is)
  (case k34=>k_is)
  (case a35=>k_is)
  (case i35=>k_is)
  (case l35=>k_is)
  (case c35=>k_is)
  (case k35=>k_is)
  (case a36=>k_is)
  (case i36=>k_is)
  (case l36=>k_is)
  (case c36=>k_is)
  (case k36=>k_is)
  (case a37=>k_is)
  (case i37=>k_is)
  (case l37=>k_is)
  (case c37=>k_is)
  (case k37=>k_is)
  (case a38=>k_is)
  (case l38=>k_is)
  (case c38=>k_is)
  (case k38=>k_is)
  (case a39=>k_is)
  (case l39=>k_is)
  (case c39=>k_is)
  (case k39=>k_is)
  (case a40=>k_is)
  (case l40=>k_is)
  (case c40=>k_is)
  (case k40=>k_is)
  (case a41=>k_is)
  (case l41=>k_is)
  (case c41=>k_is)
  (case k41=>k_is)
  (case a42=>k_is)
  (case l42=>k_is)
  (case c42=>k_is)
  (case k42=>k_is)
  (case a43=>k_is)
  (case l43=>k_is)
  (case c43=>k_is)
  (case k43=>k_is)
  (case a44=>k_is)
  (case l44=>k_is)
  (case c44=>k_is)
  (case k44=>k_is)
  (case a45=>k_is)
  (case l45=>k_is)
  (case c45=>k_is)
  (case k45=>k_is)
  (case a46=>k_is)
  (case l46=>k_is)
  (case c46=>k_is)
  (case k46=>k_is)
  (case a47=>k_is)
  (case l47=>k_is)
  (case c47=>k_is)
  (case k47=>k_is)
  (case a48=>k_is)
  (case l48=>k_is)
  (case c48=>k_is)
  (case k48=>k_is)
  (case a49=>k_is)
  (case l49=>k_is)
  (case c49=>k_is)
  (case k49=>k_is)
  (case a50=>k_is)
  (case l50=>k_is)
  (case c50=>k_is)
  (case k50=>k_is)
  (case a51=>k_is)
  (case l51=>k_is)
  (case c51=>k_is)
  (case k51=>k_is)
  (case a52=>k_is)
  (case l52=>k_is)
  (case c52=>k_is)
  (case k52=>k_is)
  (case a53=>k_is)
  (case l53=>k_is)
  (case c53=>k_is)
  (case k53=>k_is)
  (case t53=>k_is)
  (case a54=>k_is)
  (case l54=>k_is)
  (case c54=>k_is)
  (case k54=>k_is)
  (case a55=>k_is)
  (case l55=>k_is)
  (case c55=>k_is)
  (case k55=>k_is)
  (case a56=>k_is)
  (case l56=>k_is)
  (case c56=>k_is)
  (case k56=>k_is)
  (case a57=>k_is)
  (case l57=>k_is)
  (case c57=>k_is)
  (case k57=>k_is)
  (case a58=>k_is)
  (case l58=>k_is)
  (case c58=>k_is)
  (case k58=>k_is)
  (case a59=>k_is)
  (case l59=>k_is)
  (case c59=>k_is)
  (case k59=>k_is)
  (case a60=>k_is)
  (case l60=>k_is)
  (case c60=>k_is)
  (case k60=>k_is)
  (case a61=>k_is)
  (case l61=>k_is)
  (case c61=>k_is)
  (case k61=>k_is)
  (case a62=>k_is)
  (case l62=>k_is)
  (case c62=>k_is)
  (case k62=>k_is)
  (case a63=>k_is)
  (case l63=>k_is)
  (case c63=>k_is)
  (case k63=>k_is)
  (case a64=>k_is)
  (case l64=>k_is)
  (case c64=>k_is)
  (case k64=>k_is)
  (case a65=>k_is)
  (case l65=>k_is)
  (case c65=>k_is)
  (case k65=>k_is)
  (case a66=>k_is)
  (case l66=>k_is)
  (case c66=>k_is)
  (case k66=>k_is)
  (case a67=>k_is)
  (case l67=>k_is)
  (case c67=>k_is)
  (case k67=>k_is)
  (case a68=>k_is)
  (case l68=>k_is)
  (case c68=>k_is)
  (case k68=>k_is)
  (case a69=>k_is)
  (case l69=>k_is)
  (case c69=>k_is)
  (case k69=>k_is)
  (case z0=>k_is)
  (case z1=>k_is)
  (case z2=>k_is)
  (case z3=>k_is)
  (case z4=>k_is)
  (case z5=>k_is)
  (case z6=>k_is)
  (case z7=>k_is)
  (case z8=>k_is)
  (case z9=>k_is)
  (case z10=>k_is)
  (case z11=>k_is)
  (case aI_HIGHEST=>k_is)
