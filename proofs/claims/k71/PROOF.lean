import PyProof.Rows.All
import Wide.All
import OpenK.AllK
import Wide.FinOn
import Lean
import PyProof.EqAt
import PyProof.EqKinds
import PyProof.TupleCall
import PySem.Challenge.RW_rootspan_k71_steps
set_option Elab.async false
set_option linter.all false
set_option maxRecDepth 100000
local macro_rules | `(tactic| omega)=>`(tactic| first | lia | omega (splitDisjunctions:=true))
namespace PySem.W.Fast
def tw10060460809056538634:=()
def tw15796032006764411955:=()
def tw1402148118806675878:=()
def tw8417576730577692121:=()
def tw5264347476926616095:=()
def tw3638815494210317118:=()
def tw5487160886398425131:=()
def tw460297014136957290:=()
def tw13776385944862619556:=()
def tw5391788343758497829:=()
def tw7994538206399453809:=()
def tw4811515169634110975:=()
def tw12323926763735130161:=()
def tw3409503481682401252:=()
def tw2404247456932909937:=()
def tw3316802904986207641:=()
def tw13296443679717816790:=()
def tw11341435260509691930:=()
def tw7103561030818839955:=()
def tw5657013354755890982:=()
def tw3580874138761171220:=()
def tw4855129823924874931:=()
def tw6211203642258196221:=()
def tw12253531563426337514:=()
def tw15610590855752299830:=()
def tw7687282226879697436:=()
def tw8282265184499027529:=()
def tw18368692207847831037:=()
def tw2491864558270970896:=()
def tw14490844147246993558:=()
def tw16903926364142959177:=()
def tw18104553299748431439:=()
def tw13122840075117099659:=()
def tw18376604700719188825:=()
def tw13606385571856530475:=()
def tw6526975297121213389:=()
def tw11664984637698203633:=()
def tw4344609573956343650:=()
def tw13049658411236661496:=()
def tw18119712764800282132:=()
def tw12899649450970366489:=()
def tw4714933760772301580:=()
def tw9242790549934118158:=()
def tw11642254502463533062:=()
def tw12710632916040418330:=()
def tw6354895832871236554:=()
def tw15256104806022627615:=()
def tw989381904949994898:=()
def tw5441423515516398179:=()
def tw12286814163645594480:=()
def tw15404334355870974557:=()
def tw16122819996289073438:=()
def tw9247620669126960910:=()
def tw1328213938613822035:=()
def tw9879896988920936869:=()
def tw12222226267672737167:=()
def tw13828964801773218926:=()
def tw1032775331967611770:=()
def tw17780129807537524778:=()
def tw3171753490698677569:=()
def tw9321323152777032069:=()
def tw17813942796856260:=()
def tw5035842265900978983:=()
def tw11650858498047759679:=()
def tw13827732526001848774:=()
def tw1719739010852317845:=()
def tw13894870632830723778:=()
def tw13496137263201179109:=()
def tw2646508605311043450:=()
def tw5266886633135157531:=()
def tw12479026667069375769:=()
def tw15016946857237254646:=()
def tw10974159495539377080:=()
def tw1898645410205380976:=()
def tw14342881814632939593:=()
def tw5090493061481402933:=()
def tw3204361040754818487:=()
def tw13595093202164733796:=()
def tw17135321213506178828:=()
def tw2412831126795215774:=()
def tw6534542858748601136:=()
def tw13952058139288398617:=()
def tw17736106436264411521:=()
def tw1225082264137264466:=()
def tw4792934330163813396:=()
def tw3878779552683939398:=()
def tw11060362536566630295:=()
def tw6421809993636977344:=()
def tw14117411601665919759:=()
def tw7688602509597715899:=()
def tw11751650351474317910:=()
def tw9529739199830856397:=()
def tw8438421934605133170:=()
def tw11419085348263836182:=()
def tw18215468729321903026:=()
def tw8758056976288333615:=()
def tw1957092899495579600:=()
def tw12360165971752985618:=()
def tw1144306976638764236:=()
def tw6685692974992761904:=()
def tw16533144399659555374:=()
def tw7450704148911751560:=()
def tw9154373018287676019:=()
def tw4474935209005335952:=()
def tw2747929067539907911:=()
def tw4064620622832069245:=()
def tw9648197924773532570:=()
def tw3686941002184557115:=()
def tw11253296335847013612:=()
def tw5083969078491268391:=()
def tw16817733718754774858:=()
def tw17086588705894910795:=()
def tw7228572745962539830:=()
def tw14619493944148472031:=()
def tw12143476529914745122:=()
def tw1307950605337322931:=()
def tw8897306417039498412:=()
def tw8471806035025902411:=()
def tw6085704355751900834:=()
def tw16415419861959354949:=()
def tw11087552512176321597:=()
def tw949341296377062183:=()
def tw16923484951076523533:=()
def tw16999649887388640370:=()
def tw17614801921068502258:=()
def tw13926624161348933121:=()
def tw13718384275891042609:=()
def tw80810459107790979:=()
def tw11559961125431685252:=()
def tw4393312170022261820:=()
def tw1356447248892646949:=()
def tw635948793492455206:=()
def tw4596488250471232668:=()
def tw15819075651955985185:=()
def tw668741354342195767:=()
def tw3582186893909221912:=()
def tw3930721609978282444:=()
def tw11042960926721919153:=()
def tw7506959214588248008:=()
def tw3850865542345332501:=()
def tw17131927816421604018:=()
def tw5108919459758754073:=()
def tw5860344456928577030:=()
def tw18262292151947949611:=()
def tw4748725244533705922:=()
def tw13806787799305263330:=()
def tw15483571577603838567:=()
def tw1413083766749011998:=()
def tw14565765839963605562:=()
def tw9631545788402277452:=()
def tw13535164264938734150:=()
def tw6967204877138228160:=()
def tw4007711556679613740:=()
def tw4161838104222339636:=()
def tw9398452845068692232:=()
def tw7736362602619853107:=()
def tw3208402851499242548:=()
def tw2612963294737898089:=()
def tw1828923400851693779:=()
def tw13343388388316736271:=()
def tw14118714900217165991:=()
def tw9230892122995121171:=()
def tw6034406573495161203:=()
def tw11956109840212191478:=()
def tw1712043735953974343:=()
def tw13915667202139490196:=()
def tw3772874253852874375:=()
def tw15093398690501642360:=()
def tw5588992775310133106:=()
def tw15404029286305637789:=()
def tw15531096984016558446:=()
def tw10349797629267736858:=()
def tw12045528402109899943:=()
def tw4249911866974224798:=()
def tw15590527198048084196:=()
def tw8984248351547588804:=()
def tw6669646631723469659:=()
def tw11408022972503681599:=()
def tw12503528975675871289:=()
def tw6149569145292549112:=()
def tw390522781153890414:=()
def tw5973149887557117110:=()
def tw9613757090558443547:=()
def tw14638617119402584018:=()
def tw4726016646741373902:=()
def tw10319955396591538857:=()
def tw1624613449464457488:=()
def tw2659017775690809222:=()
def tw1505562944207303295:=()
def tw404827449486468305:=()
def tw5961085515763115852:=()
def tw14380545175132906625:=()
def tw6813320906518901735:=()
def tw4029891202809728030:=()
def tw17405839215095878795:=()
def tw10447109793243065194:=()
def tw16970274071354295286:=()
def tw15785217402024061007:=()
def tw5379909536832870397:=()
def tw16438808483378448347:=()
def tw14234226093025959120:=()
def tw10992258456047030071:=()
def tw2559960913417446414:=()
def tw15457178406787352438:=()
def tw11400689908947888957:=()
def tw6385278619175260805:=()
def tw7793918824285910580:=()
def tw13460021896632931515:=()
def tw12056074287137137842:=()
def tw13400693028247984472:=()
def tw8557298067384538181:=()
end PySem.W.Fast
namespace L2
open PySem PySem.Spec PyProof.Rows
abbrev Key:=Sum Int Str
def yY:Key->Value->Bool
 | .inl k,v=>Value.isInt k v
 | .inr x,v=>Value.isStrOf x v
def GN (w:World):Key->Int
 | .inl k=>hashInt k
 | .inr x=>hashStr w x
theorem f7:∀ {k:Key} {v:Value},yY k v=true->(∃ i t,k=Sum.inl i/\v=Value.int i t)\/(∃ x t,k=Sum.inr x/\v=Value.str x t)
 | .inl i,v,h=>by
   obtain ⟨t,e⟩:=Value.isInt_shape (k:=i) (v:=v) h
   exact .inl ⟨i,t,rfl,e⟩
 | .inr x,v,h=>by
   obtain ⟨t,e⟩:=Value.isStrOf_shape (x:=x) (v:=v) h
   exact .inr ⟨x,t,rfl,e⟩
theorem GM (a b:Int):decide ((Sum.inl a:Key)=Sum.inl b)=(a == b):=by
 by_cases e:a=b
 ·subst e;simp
 ·have h:¬ (Sum.inl a:Key)=Sum.inl b:=fun q=>e (Sum.inl.inj q)
  rw [decide_eq_false h]
  exact (beq_eq_false_iff_ne.mpr e).symm
theorem GJ (a b:Str):decide ((Sum.inr a:Key)=Sum.inr b)=decide (a=b):=by
 by_cases e:a=b
 ·subst e;simp
 ·have h:¬ (Sum.inr a:Key)=Sum.inr b:=fun q=>e (Sum.inr.inj q)
  rw [decide_eq_false h,decide_eq_false e]
theorem GL (a:Int) (b:Str):decide ((Sum.inl a:Key)=Sum.inr b)=false:=decide_eq_false (fun q=>nomatch q)
theorem GK (a:Str) (b:Int):decide ((Sum.inr a:Key)=Sum.inl b)=false:=decide_eq_false (fun q=>nomatch q)
def rJ (prog:Program) (w:World):PySem.KeyKind prog w Key where
 is:=yY
 hash:=GN w
 inj:=fun v a b ha hb=>by
  rcases f7 ha with ⟨i,t,rfl,rfl⟩ | ⟨x,t,rfl,rfl⟩
  ·rcases f7 hb with ⟨j,u,rfl,e⟩ | ⟨y,u,rfl,e⟩
   ·injection e with e1 _;rw [e1]
   ·exact nomatch e
  ·rcases f7 hb with ⟨j,u,rfl,e⟩ | ⟨y,u,rfl,e⟩
   ·exact nomatch e
   ·injection e with e1 _;rw [e1]
 byValue:=fun k v h=>by
  rcases f7 h with ⟨i,t,rfl,rfl⟩ | ⟨x,t,rfl,rfl⟩<;>rfl
 pyHash:=fun hv h=>by
  rcases f7 hv with ⟨i,t,rfl,rfl⟩ | ⟨x,t,rfl,rfl⟩
  ·exact wpAny_pyHash_int h
  ·exact wpAny_pyHash_str h
 eqBool:=fun hu hv h=>by
  rcases f7 hu with ⟨i,t,rfl,rfl⟩ | ⟨x,t,rfl,rfl⟩
  ·rcases f7 hv with ⟨j,u,rfl,rfl⟩ | ⟨y,u,rfl,rfl⟩
   ·rw [GM] at h;exact wpAny_eqBool_int h
   ·rw [GL] at h;exact SeqAt.EqAt.int_str i t y u _ _ _ _ h
  ·rcases f7 hv with ⟨j,u,rfl,rfl⟩ | ⟨y,u,rfl,rfl⟩
   ·rw [GK] at h;exact SeqAt.EqAt.str_int x t j u _ _ _ _ h
   ·rw [GJ] at h;exact wpAny_eqBool_str h
 «strs»:=fun k x t v h=>by
  rcases f7 h with ⟨i,u,rfl,e⟩ | ⟨y,u,rfl,e⟩
  ·exact nomatch e
  ·injection e with e1 _
   subst e1
   cases v<;>rfl
end L2
namespace L2
open PySem PySem.Spec PyProof.Rows
inductive V where
 | non | bl (b:Bool) | int (i:Int) | str (x:Str) | byt (b:Array UInt8) | flt (b:UInt64) | ref (a:Addr) | ty (n:String)
 deriving DecidableEq
def RelV:V->Value->Prop
 | .non,u=>u=Value.none
 | .bl b,u=>u=Value.bool b
 | .int i,u=>∃ t,u=Value.int i t
 | .str x,u=>∃ t,u=Value.str x t
 | .byt b,u=>∃ t,u=Value.bytes b t
 | .flt b,u=>∃ t,u=Value.float b t
 | .ref a,u=>u=Value.ref a
 | .ty n,u=>u=Value.type n
abbrev Vals:List V->List Value->Prop:=Paired RelV
theorem Vals.length {xs:List V} {us:List Value} (r:Vals xs us):xs.length=us.length:=Paired.length r
theorem Vals.get:∀ {xs:List V} {us:List Value} {i:Nat} {x:V},Vals xs us->xs[i]?=some x->∃ u,us[i]?=some u/\RelV x u
 | _,_,_,_,.nil,e=>by simp at e
 | _,_,0,_,.cons r _,e=>by simp at e;subst e;exact ⟨_,rfl,r⟩
 | _,_,i+1,x,.cons _ t,e=>by
   obtain ⟨u,h1,h2⟩:=Vals.get (i:=i) (x:=x) t (by simpa using e)
   exact ⟨u,by simpa using h1,h2⟩
theorem Vals.set {x:V} {u:Value} (r:RelV x u):∀ {xs:List V} {us:List Value} (i:Nat),Vals xs us->Vals (xs.set i x) (us.set i u)
 | _,_,_,.nil=>.nil
 | _,_,0,.cons _ t=>.cons r t
 | _,_,i+1,.cons q t=>.cons q (Vals.set r i t)
theorem Vals.append:∀ {xs ys:List V} {us ws:List Value},Vals xs us->Vals ys ws->Vals (xs++ys) (us++ws)
 | _,_,_,_,.nil,s=>s
 | _,_,_,_,.cons r t,s=>.cons r (Vals.append t s)
theorem Vals.take:∀ {xs:List V} {us:List Value} (n:Nat),Vals xs us->Vals (xs.take n) (us.take n)
 | _,_,0,_=>.nil
 | _,_,_+1,.nil=>.nil
 | _,_,n+1,.cons r t=>.cons r (Vals.take n t)
theorem Vals.drop:∀ {xs:List V} {us:List Value} (n:Nat),Vals xs us->Vals (xs.drop n) (us.drop n)
 | _,_,0,r=>r
 | _,_,_+1,.nil=>.nil
 | _,_,n+1,.cons _ t=>Vals.drop n t
theorem Vals.none_of:∀ {xs:List V} {us:List Value} {i:Nat},Vals xs us->xs[i]?=none->us[i]?=none:=fun {xs us i} r e=>by
 have h1:=r.length
 have h2:xs.length<=i:=List.getElem?_eq_none_iff.mp e
 exact List.getElem?_eq_none_iff.mpr (by omega)
def RelO:Option V->Option Value->Prop
 | some v,some u=>RelV v u
 | none,none=>True
 | _,_=>False
def KV {κ:Type}:List (κ×V)->List (κ×Value)->Prop:=Paired fun (p:κ×V) (q:κ×Value)=>p.1=q.1/\RelV p.2 q.2
def kV:Key->V
 | .inl i=>.int i
 | .inr x=>.str x
inductive HO where
 | lst (xs:List V)
 | tup (xs:List V)
 | dK (kvs:List (Key×V)) | dT (kvs:List (List Key×V))
 | set (S:Int->Bool) (n:Nat)
 | ins (C dx:Addr) (fs:List (Str×V))
 | own (x:Addr)
 | xd (fs:List (Str×V))
 | met (f x:Addr)
 | rng (lo hi:Int)
 | frz (o:Obj) (u:HO)
 | tbl (ps:Array Value)
 | ext (φ:Heap->Prop)
abbrev Hp:=Addr->Option HO
def upd (H:Hp) (a:Addr) (o:HO):Hp:=fun b=>if b=a then some o else H b
theorem au {H:Hp} {a:Addr} {o:HO}:upd H a o a=some o:=by unfold upd;rw [if_pos rfl]
theorem upd_ne {H:Hp} {a b:Addr} {o:HO} (h:b≠a):upd H a o b=H b:=by unfold upd;rw [if_neg h]
theorem ml {H:Hp} {a:Addr} {o u:HO}:upd (upd H a o) a u=upd H a u:=by
 funext b;unfold upd;split<;>rfl
theorem aX {H:Hp} {a b:Addr} {o:HO} (h:H a=some o) (h':H b=none):a≠b:=by
 intro e;subst e;rw [h] at h';cases h'
section
variable (P:Program) (w:World)
def ObjOk (H:Hp) (h:Heap) (a:Addr):HO->Prop
 | .lst xs=>xs.length<=sizeLine/\∃ (its:List Value) (n:Nat),Vals xs its/\h.get? a=some { cls:=.type "list",data:=.seq its.toArray n }
 | .tup xs=>xs.length<=sizeLine/\∃ its:List Value,Vals xs its/\IsTup h a its.toArray
 | .dK kvs=>kvs.length<=sizeLine/\(a == sysModules)=false/\∃ vs,KV kvs vs/\h.DictOf (rJ P w) a vs
 | .dT kvs=>kvs.length<=sizeLine/\(a == sysModules)=false/\∃ xs:List (List Key×Addr×Value),
  Paired (fun (p:List Key×V) (q:List Key×Addr×Value)=>p.1=q.1/\H q.2.1=some (.tup (p.1.map kV))/\RelV p.2 q.2.2) kvs xs /\
  ∃ o es ep,h.get? a=some o/\o.ExactDict/\o.data=.dict es ep/\es.toList=xs.map (entryOfKey (tupleKind (rJ P w)))/\(xs.map (·.1)).Nodup
 | .set S n=>h.SetOf (intKind P w) a S n
 | .ins C dx fs=>H dx=some (.own a)/\fs.length<=1000/\dx≠a/\h.get? a=some (PySem.W.instObj C dx) /\
  ∃ mA,h.Ns1 dx mA/\(∀ f,RelO (fs.lookup f) (mA f))/\PySem.Within mA (fs.map (·.1))
 | .own _=>∃ o,h.get? a=some o
 | .xd fs=>∃ mA,h.Ns1 a mA/\∀ f,RelO (fs.lookup f) (mA f)
 | .rng lo hi=>∃ t u v,h.get? a=some { cls:=.type "range",data:=.fields #[.int lo t,.int hi u,.int 1 v] }
 | .frz o u=>h.get? a=some o/\ObjOk H h a u
 | .tbl ps=>h.get? a=some { cls:=.none,data:=.fields ps }
 | .met f x=>h.get? a=some (PySem.W.methodObj (.ref f) (.ref x))
 | .ext φ=>φ h/\(∃ o,h.get? a=some o)/\∀ h1 h2:Heap,φ h1->(∀ o,h1.get? a=some o->h2.get? a=some o)->φ h2
def HOk (H:Hp) (h:Heap):Prop:=∀ a o,H a=some o->ObjOk P w H h a o
end
section
variable {P:Program} {w:World} {H H':Hp} {h h':Heap} {a:Addr} {o:HO}
theorem ObjOk.lt (x:ObjOk P w H h a o):a<h.objs.size:=by
 cases o with
 | lst xs=>obtain ⟨_,_,_,_,e⟩:=x;exact Heap.lt_size e
 | tup xs=>obtain ⟨_,_,_,p⟩:=x;exact p.lt
 | dK kvs=>obtain ⟨_,_,_,_,o,_,_,e,_⟩:=x;exact Heap.lt_size e
 | dT kvs=>obtain ⟨_,_,_,_,o,_,_,e,_⟩:=x;exact Heap.lt_size e
 | set S n=>obtain ⟨o,_,_,_,e,_⟩:=x;exact Heap.lt_size e
 | ins C dx fs=>obtain ⟨_,_,_,e,_⟩:=x;exact Heap.lt_size e
 | own y=>obtain ⟨_,e⟩:=x;exact Heap.lt_size e
 | xd fs=>obtain ⟨_,⟨_,_,_,e,_⟩,_⟩:=x;exact Heap.lt_size e
 | rng lo hi=>obtain ⟨_,_,_,e⟩:=x;exact Heap.lt_size e
 | frz ob u=>obtain ⟨e,_⟩:=x;exact Heap.lt_size e
 | tbl ps=>exact Heap.lt_size (show h.get? a=some _ from x)
 | met f y=>exact Heap.lt_size (show h.get? a=some _ from x)
 | ext φ=>obtain ⟨_,⟨_,e⟩,_⟩:=x;exact Heap.lt_size e
theorem Paired.mapP {α β:Type} {F G:α->β->Prop}:∀ {l₁:List α} {l₂:List β},Paired F l₁ l₂->(∀ a b,F a b->G a b)->Paired G l₁ l₂
 | _,_,.nil,_=>.nil
 | _,_,.cons r t,f=>.cons (f _ _ r) (Paired.mapP t f)
theorem ObjOk.stay (x:ObjOk P w H h a o) (k:∀ b u,(b=a\/H b=some (.own a))->h.get? b=some u->h'.get? b=some u)
 (ho:∀ b,H b=some (.own a)->H' b=some (.own a)) (ht:∀ b xs,H b=some (.tup xs)->H' b=some (.tup xs)):ObjOk P w H' h' a o:=by
 induction o with
 | lst xs=>obtain ⟨z,its,n,r,e⟩:=x;exact ⟨z,its,n,r,k _ _ (.inl rfl) e⟩
 | tup xs=>obtain ⟨z,its,r,ob,e,c⟩:=x;exact ⟨z,its,r,ob,k _ _ (.inl rfl) e,c⟩
 | dK kvs=>obtain ⟨z,y,vs,r,ob,es,ep,e,c⟩:=x;exact ⟨z,y,vs,r,ob,es,ep,k _ _ (.inl rfl) e,c⟩
 | dT kvs =>
   obtain ⟨z,y,xs,r,ob,es,ep,e,c⟩:=x
   exact ⟨z,y,xs,Paired.mapP r fun p q z=>⟨z.1,ht _ _ z.2.1,z.2.2⟩,ob,es,ep,k _ _ (.inl rfl) e,c⟩
 | set S n=>obtain ⟨ob,es,ep,t,e,c⟩:=x;exact ⟨ob,es,ep,t,k _ _ (.inl rfl) e,c⟩
 | ins C dx fs =>
   obtain ⟨d,z,ne,e,mA,⟨od,es,ep,e2,c⟩,r⟩:=x
   exact ⟨ho _ d,z,ne,k _ _ (.inl rfl) e,mA,⟨od,es,ep,k _ _ (.inr d) e2,c⟩,r⟩
 | own y=>obtain ⟨ob,e⟩:=x;exact ⟨ob,k _ _ (.inl rfl) e⟩
 | xd fs=>obtain ⟨mA,⟨od,es,ep,e,c⟩,r⟩:=x;exact ⟨mA,⟨od,es,ep,k _ _ (.inl rfl) e,c⟩,r⟩
 | rng lo hi=>obtain ⟨t,u,v,e⟩:=x;exact ⟨t,u,v,k _ _ (.inl rfl) e⟩
 | frz ob u ih=>obtain ⟨e,q⟩:=x;exact ⟨k _ _ (.inl rfl) e,ih q⟩
 | tbl ps =>
   have e:h.get? a=some { cls:=.none,data:=.fields ps }:=x
   show h'.get? a=some { cls:=.none,data:=.fields ps }
   exact k a _ (.inl rfl) e
 | met f y =>
   have e:h.get? a=some (PySem.W.methodObj (.ref f) (.ref y)):=x
   show h'.get? a=some (PySem.W.methodObj (.ref f) (.ref y))
   exact k a _ (.inl rfl) e
 | ext φ=>obtain ⟨p,⟨o,e⟩,st⟩:=x;exact ⟨st _ _ p fun o q=>k _ _ (.inl rfl) q,⟨o,k _ _ (.inl rfl) e⟩,st⟩
theorem HOk.lt (x:HOk P w H h) (e:H a=some o):a<h.objs.size:=(x a o e).lt
theorem HOk.fresh (x:HOk P w H h) (e:h.objs.size<=a):H a=none:=by
 cases q:H a with
 | none=>rfl
 | some u=>exact absurd (Nat.lt_of_lt_of_le (x.lt q) e) (Nat.lt_irrefl _)
theorem HOk.kept (x:HOk P w H h) (k:∀ b u,h.get? b=some u->h'.get? b=some u):HOk P w H h':=fun a o e =>
 (x a o e).stay (fun b u _ q=>k b u q) (fun _ q=>q) fun _ _ q=>q
theorem HOk.laid (x:HOk P w H h) (k:∀ b u,h.get? b=some u->h'.get? b=some u) (hp:h.objs.size<=a) (new:ObjOk P w (upd H a o) h' a o):HOk P w (upd H a o) h':=fun b u e=>by
 have hn:=x.fresh hp
 by_cases hb:b=a
 ·subst hb;rw [au] at e;cases e;exact new
 ·rw [upd_ne hb] at e
  exact (x b u e).stay (fun c v _ q=>k c v q) (fun c q=>by rw [upd_ne (aX q hn)];exact q) fun c xs q=>by rw [upd_ne (aX q hn)];exact q
end
def Rd (H:Hp) (a:Addr) (u:HO):Prop:=H a=some u\/∃ o,H a=some (.frz o u)
theorem Rd.of {H:Hp} {a:Addr} {u:HO} (h:H a=some u):Rd H a u:=.inl h
theorem Rd.ok {P:Program} {w:World} {H:Hp} {h:Heap} {a:Addr} {u:HO} (r:Rd H a u) (x:HOk P w H h):ObjOk P w H h a u:=by
 rcases r with r | ⟨o,r⟩
 ·exact x a u r
 ·obtain ⟨_,q⟩:=x a _ r
  exact q
def Mut:Option HO->Prop
 | some (.lst _)=>True
 | some (.dK _)=>True
 | some (.dT _)=>True
 | some (.set _ _)=>True
 | some (.ins _ _ _)=>True
 | some (.ext _)=>True
 | _=>False
section
variable {P:Program} {w:World} {H:Hp} {h h':Heap} {x e:Addr} {o':HO}
theorem HOk.write (ok:HOk P w H h) (mu:Mut (H x)) (he:e=x\/H e=some (.own x)) (k:∀ b u,b≠e->h.get? b=some u->h'.get? b=some u) (heo:∃ u,h'.get? e=some u)
 (new:ObjOk P w (upd H x o') h' x o'):HOk P w (upd H x o') h':=fun b u q=>by
 have nown:∀ c y,H c=some (.own y)->c≠x:=fun c y r z=>by subst z;rw [r] at mu;exact mu
 have ntup:∀ c xs,H c=some (.tup xs)->c≠x:=fun c xs r z=>by subst z;rw [r] at mu;exact mu
 by_cases hb:b=x
 ·subst hb;rw [au] at q;cases q;exact new
 ·rw [upd_ne hb] at q
  by_cases hbe:b=e
  ·have q':H b=some (.own x):=by
    rcases he with z | z
    ·exact absurd (hbe.trans z) hb
    ·rw [hbe];exact z
   rw [q] at q';cases q'
   obtain ⟨v,hv⟩:=heo
   exact ⟨v,by rw [hbe];exact hv⟩
  ·refine (ok b u q).stay (fun c v hc r=>k c v ?_ r) (fun c r=>by rw [upd_ne (nown c b r)];exact r) fun c xs r=>by rw [upd_ne (ntup c xs r)];exact r
   rcases hc with rfl | hc
   ·exact hbe
   ·rintro rfl
    rcases he with z | z
    ·exact nown c b hc z
    ·rw [hc] at z;cases z;exact hb rfl
end
structure Un (fs ex:List Addr) (H H':Hp) (h h':Heap):Prop where
 keep:∀ b o,h.get? b=some o->H b=none->b∉fs->b∉ex->h'.get? b=some o
 slot:∀ b o,h.get? b=some o->H b=none->b∈fs->b∉ex->∃ sl,h'.get? b=some { o with slots:=sl }
 free:∀ b o,h.get? b=some o->H b=none->b∉ex->H' b=none
 there:∀ b o,h.get? b=some o->b∉ex->∃ o',h'.get? b=some o'
 tups:∀ b xs,H b=some (.tup xs)->H' b=some (.tup xs)
 frzs:∀ b o u,H b=some (.frz o u)->H' b=some (.frz o u)
 tbls:∀ b ps,H b=some (.tbl ps)->∃ more,H' b=some (.tbl (ps++more))
section
variable {fs fs' ex ex':List Addr} {H H1 H2:Hp} {h h1 h2 h':Heap} {a x e:Addr} {o:HO}
theorem Un.any (u:Un fs ex H H1 h h1) {b:Addr} {ob:Obj} (q:h.get? b=some ob) (n:H b=none) (hx:b∉ex):∃ sl,h1.get? b=some { ob with slots:=sl }:=by
 by_cases hb:b∈fs
 ·exact u.slot b ob q n hb hx
 ·exact ⟨ob.slots,u.keep b ob q n hb hx⟩
theorem Un.trans (a:Un fs ex H H1 h h1) (b:Un fs ex H1 H2 h1 h2):Un fs ex H H2 h h2 where
 keep:=fun c ob q n hc hx=>b.keep c ob (a.keep c ob q n hc hx) (a.free c ob q n hx) hc hx
 slot:=fun c ob q n hc hx=>by
  obtain ⟨sl,e1⟩:=a.slot c ob q n hc hx
  obtain ⟨sl',e2⟩:=b.slot c _ e1 (a.free c ob q n hx) hc hx
  exact ⟨sl',e2⟩
 free:=fun c ob q n hx=>by
  obtain ⟨o',e1⟩:=a.there c ob q hx
  exact b.free c o' e1 (a.free c ob q n hx) hx
 there:=fun c ob q hx=>by
  obtain ⟨o',e1⟩:=a.there c ob q hx
  exact b.there c o' e1 hx
 tups:=fun c xs q=>b.tups c xs (a.tups c xs q)
 frzs:=fun c ob xs q=>b.frzs c ob xs (a.frzs c ob xs q)
 tbls:=fun c ps q=>by
  obtain ⟨m1,e1⟩:=a.tbls c ps q
  obtain ⟨m2,e2⟩:=b.tbls c _ e1
  exact ⟨m1++m2,by rw [e2,Array.append_assoc]⟩
theorem Un.kept (k:∀ b u,h.get? b=some u->h'.get? b=some u):Un fs ex H H h h' :=
 ⟨fun b ob q _ _ _=>k b ob q,fun b ob q _ _ _=>⟨ob.slots,k b ob q⟩,fun _ _ _ n _=>n,fun b ob q _=>⟨ob,k b ob q⟩,fun _ _ q=>q,fun _ _ _ q=>q,fun _ ps q=>⟨#[],by rw [q];simp⟩⟩
theorem Un.refl:Un fs ex H H h h:=Un.kept fun _ _ q=>q
theorem Un.laid (k:∀ b u,h.get? b=some u->h'.get? b=some u) (hp:h.objs.size<=a) (hn:H a=none):Un fs ex H (upd H a o) h h' where
 keep:=fun b u q _ _ _=>k b u q
 slot:=fun b u q _ _ _=>⟨u.slots,k b u q⟩
 free:=fun b u q n _=>by rw [upd_ne (Nat.ne_of_lt (Nat.lt_of_lt_of_le (Heap.lt_size q) hp))];exact n
 there:=fun b u q _=>⟨u,k b u q⟩
 tups:=fun b xs q=>by rw [upd_ne (aX q hn)];exact q
 frzs:=fun b u xs q=>by rw [upd_ne (aX q hn)];exact q
 tbls:=fun b ps q=>⟨#[],by rw [upd_ne (aX q hn),q];simp⟩
theorem Un.write (mu:Mut (H x)) (he:e=x\/H e=some (.own x)) (k:∀ b u,b≠e->h.get? b=some u->h'.get? b=some u) (heo:∃ u,h'.get? e=some u):Un fs ex H (upd H x o) h h':=by
 have hx:∀ b,H b=none->b≠x:=fun b n z=>by subst z;rw [n] at mu;exact mu
 have hb:∀ b,H b=none->b≠e:=fun b n z=>by
  subst z
  rcases he with r | r
  ·exact hx b n r
  ·rw [n] at r;cases r
 have hm:∀ b u,H b=some u->¬ Mut (some u)->b≠x:=fun b u q nm z=>by subst z;rw [q] at mu;exact nm mu
 refine ⟨fun b u q n _ _=>k b u (hb b n) q,fun b u q n _ _=>⟨u.slots,k b u (hb b n) q⟩,fun b u q n _=>by rw [upd_ne (hx b n)];exact n,fun b u q _=>?_,
  fun b xs q=>by rw [upd_ne (hm b _ q fun z=>z)];exact q,fun b u xs q=>by rw [upd_ne (hm b _ q fun z=>z)];exact q,fun b ps q=>⟨#[],by rw [upd_ne (hm b _ q fun z=>z),q];simp⟩⟩
 by_cases hbe:b=e
 ·subst hbe;exact heo
 ·exact ⟨u,k b u hbe q⟩
theorem Un.mono (u:Un fs ex H H1 h h1) (hs:∀ b∈fs,b∈fs') (hx:∀ b∈ex,b∈ex'):Un fs' ex' H H1 h h1 :=
 ⟨fun b ob q n hb he=>u.keep b ob q n (fun z=>hb (hs b z)) fun z=>he (hx b z),fun _ _ q n _ he=>u.any q n fun z=>he (hx _ z),fun b ob q n he=>u.free b ob q n fun z=>he (hx b z),fun b ob q he=>u.there b ob q fun z=>he (hx b z),u.tups,u.frzs,u.tbls⟩
end
def trk (h:Heap) (H:Hp):List Addr:=(List.range h.objs.size).filter fun a=>(H a).isSome
def fC (h:Heap) (H:Hp):Heap:=PySem.W.hideAll h (trk h H)
theorem HD (h:Heap) (H:Hp):(fC h H).objs.size=h.objs.size:=PySem.W.hideAll_size _ _
theorem HE {h:Heap} {H:Hp} {b:Addr} {o:Obj} (e:h.get? b=some o) (n:H b=none):(fC h H).get? b=some o :=
 PySem.W.hideAll_get _ e fun hm=>by
  have q:(H b).isSome=true:=(List.mem_filter.mp hm).2
  rw [n] at q;simp at q
theorem Fn {h:Heap} {H:Hp} {b:Addr} {o:Obj} (e:(fC h H).get? b=some o):h.get? b=some o/\H b=none:=by
 have e':h.get? b=some o:=PySem.W.of_hideAll (trk h H) e
 refine ⟨e',?_⟩
 cases q:H b with
 | none=>rfl
 | some x =>
   have hm:b∈trk h H:=List.mem_filter.mpr ⟨List.mem_range.mpr (Heap.lt_size e'),by simp [q]⟩
   have z:(fC h H).get? b=none:=PySem.W.hideAll_none (trk h H) hm
   rw [z] at e;cases e
def KY (g h:Heap) (L:Addr):List (Addr×Obj):=(List.range h.objs.size).filterMap fun a=>if a=L\/(g.get? a).isSome=true then none else (h.get? a).map fun o=>(a,o)
def rest (g h:Heap) (L d:Addr):List (Addr×Obj):=(KY g h L).filter fun p=>decide (p.1≠d)
end L2
namespace L2
open PySem PySem.Spec PyProof.Rows
structure Mod (K:PySem.W.Frag) (mg:Str->Option Value) (base:Heap):Prop where
 kin:K.In base
 glob:base.Ns mainGlobals mg
 blt:∃ mb,base.Ns builtinsNs mb/\∀ x:Str,x≠"__name__"->mb x=bootBuiltins x
 nolimit:base.NoLimit
structure Cx where
 prog:Program
 w:World
 K:PySem.W.Frag
 mg:Str->Option Value
 base:Heap
 A:Around
 N:List Str
 s₀:Shared
 H₀:Hp
 env:Env
 outer:List Env
 stack:List Env
 ex:List Addr
 fn:Str->Bool
 calm:Bool
 pn:List (Addr×Obj)
 xe:Value->Shared->Prop
def frs (l:List Env):List Addr:=l.filterMap (·.frame)
abbrev Cx.fs (X:Cx):List Addr:=frs X.outer
def Vis (sc:Scope) (x:Str):Prop:=sc.names.lookup x=some .local\/sc.names.lookup x=some .cell\/sc.names.lookup x=some .free
def Loc (sc:Scope) (x:Str):Prop:=sc.names.lookup x=some .local\/sc.names.lookup x=some .cell
def Lb (env:Env) (h:Heap) (m:Str->Option Value) (x:Str) (u:Value):Prop :=
 (env.kindOf x=some .local/\m x=some u)\/((env.kindOf x=some .cell\/env.kindOf x=some .free)/\∃ c,env.cells.lookup x=some c/\h.IsCell c (some u))
structure Cx.Ok (X:Cx):Prop where
 mod:Mod X.K X.mg X.base
 kind:X.env.scope.kind=.function
 glob:X.env.globals=mainGlobals
 blt:X.env.builtins=builtinsNs
 above:X.s₀.heap.objs.size<=X.env.locals
 inj:∀ x y c,X.env.cells.lookup x=some c->X.env.cells.lookup y=some c->x=y
 has:∀ x,(X.env.kindOf x=some .cell\/X.env.kindOf x=some .free)->∃ c,X.env.cells.lookup x=some c
 cab:∀ x c,X.fn x=true->X.env.cells.lookup x=some c->X.s₀.heap.objs.size<=c
 hd:X.calm=true->X.A.handled=none
 frames:X.A.frames=some X.stack
 stk:X.stack=X.outer\/(X.stack=X.env::X.outer/\X.env.frame=some X.env.locals)
 exf:∀ b∈X.ex,b≠X.env.locals/\∀ x c,X.env.cells.lookup x=some c->c≠b
 bs:∀ b o,X.base.get? b=some o->X.s₀.heap.get? b=some o/\X.H₀ b=none
 bsz:X.base.objs.size<=X.s₀.heap.objs.size
 noex:∀ b o,X.base.get? b=some o->b∉X.ex
 exfs:∀ b∈X.ex,b∉X.fs
 funs:X.s₀.heap.FunFrames X.base X.outer
 frf:∀ b∈X.fs,X.H₀ b=none
structure Inv (X:Cx) (pins:List (Addr×Obj)) (σ:List (Option V)) (H:Hp) (s:Shared):Prop where
 ok:X.Ok
 os:s.os=X.s₀.os
 bare:AllBare s.gens
 base:Un X.fs X.ex X.H₀ H X.s₀.heap s.heap
 loc:∃ m,s.heap.Ns X.env.locals m/\∀ (i:Nat) (x:Str) (v:V),X.N[i]?=some x->σ[i]?=some (some v)->Vis X.env.scope x->∃ u,RelV v u/\Lb X.env s.heap m x u
 cell:∀ x c,X.env.cells.lookup x=some c->∃ v,s.heap.IsCell c v
 free:H X.env.locals=none
 freeC:∀ x c,X.env.cells.lookup x=some c->H c=none
 pin:∀ p∈X.pn++pins,s.heap.get? p.1=some p.2/\H p.1=none/\p.1≠X.env.locals/\p.1∉X.fs/\∀ v,p.2.data≠.cell v
 hok:HOk X.prog X.w H s.heap
 len:σ.length=X.N.length
section
variable {X:Cx} {pins:List (Addr×Obj)} {σ:List (Option V)} {H H':Hp} {s:Shared} {h':Heap}
theorem Cx.Ok.nofr (ok:X.Ok) {b:Addr} {o:Obj} (e:X.base.get? b=some o):b∉X.fs:=fun hb=>by
 have:=(ok.funs.mem hb).1
 rw [e] at this;cases this
theorem Inv.bs (I:Inv X pins σ H s):∀ b o,X.base.get? b=some o->s.heap.get? b=some o/\H b=none:=fun b o e =>
 ⟨I.base.keep b o (I.ok.bs b o e).1 (I.ok.bs b o e).2 (I.ok.nofr e) (I.ok.noex b o e),I.base.free b o (I.ok.bs b o e).1 (I.ok.bs b o e).2 (I.ok.noex b o e)⟩
theorem Inv.bk (I:Inv X pins σ H s):∀ b o,X.base.get? b=some o->s.heap.get? b=some o:=fun b o e=>(I.bs b o e).1
theorem Inv.mod (I:Inv X pins σ H s):Mod X.K X.mg X.base:=I.ok.mod
theorem Inv.kIn (I:Inv X pins σ H s):X.K.In s.heap:=I.ok.mod.kin.keeps I.bk
theorem Inv.nolimit (I:Inv X pins σ H s):s.heap.NoLimit:=I.ok.mod.nolimit.keeps I.bk
theorem Inv.fr (I:Inv X pins σ H s):∃ m,Fr X.base X.env.locals s.heap m :=
 let ⟨m,hn,_⟩:=I.loc
 ⟨m,hn,I.bk,Nat.le_trans I.ok.bsz I.ok.above⟩
theorem Inv.lt (I:Inv X pins σ H s):X.env.locals<s.heap.objs.size:=let ⟨_,hn,_⟩:=I.loc;hn.lt
theorem Inv.sz (I:Inv X pins σ H s):X.s₀.heap.objs.size<=s.heap.objs.size:=Nat.le_trans I.ok.above (Nat.le_of_lt I.lt)
theorem Inv.nofs (I:Inv X pins σ H s) {a:Addr} (h:s.heap.objs.size<=a):a∉X.fs:=fun hb=>by
 obtain ⟨_,o,ho,_⟩:=I.ok.funs.mem hb
 exact absurd (Nat.lt_of_lt_of_le (Heap.lt_size ho) (Nat.le_trans I.sz h)) (Nat.lt_irrefl _)
theorem Inv.cne (I:Inv X pins σ H s):∀ x c,X.env.cells.lookup x=some c->c≠X.env.locals:=fun x c e z=>by
 obtain ⟨v,o,ho,hd⟩:=I.cell x c e
 obtain ⟨m,⟨o',es,ep,ho',hd',_⟩,_⟩:=I.loc
 rw [z,ho'] at ho;cases ho;rw [hd'] at hd;cases hd
theorem Inv.funs (I:Inv X pins σ H s):s.heap.FunFrames X.base X.outer:=by
 have all:∀ (l:List Env),(∀ b∈frs l,b∈X.fs)->X.s₀.heap.FunFrames X.base l->s.heap.FunFrames X.base l:=by
  intro l
  induction l with
  | nil=>intro _ _;trivial
  | cons env r ih =>
    intro hs hl
    obtain ⟨hk,⟨L,o,hf,hn,ho,hd⟩,hr⟩:=hl
    have hL:L∈X.fs:=hs L (by unfold frs;rw [List.filterMap_cons,hf];exact List.mem_cons_self)
    obtain ⟨sl,e⟩:=I.base.slot L o ho (I.ok.frf L hL) hL fun z=>I.ok.exfs L z hL
    exact ⟨hk,⟨L,_,hf,hn,e,hd⟩,ih (fun b hb=>hs b (by unfold frs;rw [List.filterMap_cons,hf];exact List.mem_cons_of_mem _ hb)) hr⟩
 exact all X.outer (fun _ hb=>hb) I.ok.funs
theorem Inv.stack (I:Inv X pins σ H s):s.heap.FunFrames X.base X.stack:=by
 rcases I.ok.stk with e | ⟨e,hf⟩
 ·rw [e];exact I.funs
 ·rw [e]
  obtain ⟨m,hn,_⟩:=I.loc
  refine .cons (by rw [I.ok.kind];decide) hf hn ?_ I.funs
  exact Heap.get?_none_of_le (Nat.le_trans I.ok.bsz I.ok.above)
theorem Inv.stkSub (I:Inv X pins σ H s):∀ b∈frs X.stack,b∈X.env.locals::X.fs:=fun b hb=>by
 rcases I.ok.stk with e | ⟨e,hf⟩
 ·rw [e] at hb;exact List.mem_cons_of_mem _ hb
 ·rw [e] at hb
  unfold frs at hb
  rw [List.filterMap_cons,hf] at hb
  exact hb
theorem Inv.stkFree (I:Inv X pins σ H s):∀ b∈frs X.stack,H b=none:=fun b hb=>by
 rcases List.mem_cons.mp (I.stkSub b hb) with e | hb
 ·rw [e];exact I.free
 ·obtain ⟨_,o,ho,_⟩:=I.ok.funs.mem hb
  exact I.base.free b o ho (I.ok.frf b hb) fun z=>I.ok.exfs b z hb
theorem Inv.step {g':Array GenState} {t':Nat} {d':Drawn} {ch:List Addr} (I:Inv X pins σ H s)
 (hch:∀ b∈ch,(b∈X.ex\/X.s₀.heap.objs.size<=b)/\b≠X.env.locals/\(∀ x c,X.env.cells.lookup x=some c->c≠b)/\∀ p∈X.pn++pins,p.1≠b)
 (keep:∀ b o,b≠X.env.locals->b∉X.fs->b∉ch->s.heap.get? b=some o->H b=none->h'.get? b=some o)
 (slot:∀ b o,b≠X.env.locals->b∈X.fs->b∉ch->s.heap.get? b=some o->H b=none->∃ sl,h'.get? b=some { o with slots:=sl }) (free:∀ b o,b∉ch->s.heap.get? b=some o->H b=none->H' b=none)
 (there:∀ b o,b∉ch->s.heap.get? b=some o->∃ o',h'.get? b=some o')
 (tups:∀ b xs,H b=some (.tup xs)->H' b=some (.tup xs)) (frzs:∀ b o u,H b=some (.frz o u)->H' b=some (.frz o u)) (tbls:∀ b ps,H b=some (.tbl ps)->∃ more,H' b=some (.tbl (ps++more)))
 (ns:∀ m,s.heap.Ns X.env.locals m->h'.Ns X.env.locals m) (hok:HOk X.prog X.w H' h') (hg:AllBare g') :
 Inv X pins σ H' { s with heap:=h',gens:=g',drawn:=d',toks:=t' }:=by
 have neL:∀ b o,X.s₀.heap.get? b=some o->b≠X.env.locals:=fun b o e=>Nat.ne_of_lt (Nat.lt_of_lt_of_le (Heap.lt_size e) I.ok.above)
 have neC:∀ b o,X.s₀.heap.get? b=some o->b∉X.ex->b∉ch:=fun b o e hx hb=>by
  rcases (hch b hb).1 with z | z
  ·exact hx z
  ·exact absurd (Nat.lt_of_lt_of_le (Heap.lt_size e) z) (Nat.lt_irrefl _)
 have cellK:∀ x c,X.env.cells.lookup x=some c->∀ v,s.heap.IsCell c v->h'.IsCell c v:=fun x c e v ⟨o,ho,hd⟩=>by
  have nch:c∉ch:=fun z=>(hch c z).2.2.1 x c e rfl
  by_cases hc:c∈X.fs
  ·obtain ⟨sl,q⟩:=slot c o (I.cne x c e) hc nch ho (I.freeC x c e)
   exact ⟨_,q,hd⟩
  ·exact ⟨o,keep c o (I.cne x c e) hc nch ho (I.freeC x c e),hd⟩
 refine ⟨I.ok,I.os,hg,⟨fun b o e n hb hx=>?_,fun b o e n hb hx=>?_,fun b o e n hx=>?_,fun b o e hx=>?_,fun b xs e=>tups b xs (I.base.tups b xs e),fun b o xs e=>frzs b o xs (I.base.frzs b o xs e),fun b ps e=>?_⟩,?_,fun x c e=>?_,?_,fun x c e=>?_,fun p hp=>?_,hok,I.len⟩
 ·exact keep b o (neL b o e) hb (neC b o e hx) (I.base.keep b o e n hb hx) (I.base.free b o e n hx)
 ·obtain ⟨sl,e1⟩:=I.base.slot b o e n hb hx
  obtain ⟨sl',e2⟩:=slot b _ (neL b o e) hb (neC b o e hx) e1 (I.base.free b o e n hx)
  exact ⟨sl',e2⟩
 ·obtain ⟨o',e1⟩:=I.base.there b o e hx
  exact free b o' (neC b o e hx) e1 (I.base.free b o e n hx)
 ·obtain ⟨o',e1⟩:=I.base.there b o e hx
  exact there b o' (neC b o e hx) e1
 ·obtain ⟨m1,e1⟩:=I.base.tbls b ps e
  obtain ⟨m2,e2⟩:=tbls b _ e1
  exact ⟨m1++m2,by rw [e2,Array.append_assoc]⟩
 ·obtain ⟨m,hn,hl⟩:=I.loc
  refine ⟨m,ns m hn,fun i x v e1 e2 e3=>?_⟩
  obtain ⟨u,r,l⟩:=hl i x v e1 e2 e3
  refine ⟨u,r,?_⟩
  rcases l with l | ⟨k,c,e,z⟩
  ·exact .inl l
  ·exact .inr ⟨k,c,e,cellK x c e _ z⟩
 ·obtain ⟨v,z⟩:=I.cell x c e
  exact ⟨v,cellK x c e v z⟩
 ·obtain ⟨m,⟨o,_,_,ho,_⟩,_⟩:=I.loc
  exact free _ o (fun z=>(hch _ z).2.1 rfl) ho I.free
 ·obtain ⟨v,o,ho,hd⟩:=I.cell x c e
  exact free c o (fun z=>(hch c z).2.2.1 x c e rfl) ho (I.freeC x c e)
 ·obtain ⟨e,n,ne,nf,d⟩:=I.pin p hp
  have nch:p.1∉ch:=fun z=>(hch p.1 z).2.2.2 p hp rfl
  exact ⟨keep p.1 p.2 ne nf nch e n,free p.1 p.2 nch e n,ne,nf,d⟩
theorem Inv.un {t':Nat} (I:Inv X pins σ H s) (u:Un X.fs [] H H' s.heap h') (hok:HOk X.prog X.w H' h'):Inv X pins σ H' { s with heap:=h',toks:=t' }:=by
 obtain ⟨m,⟨o,es,ep,ho,r⟩,_⟩:=id I.loc
 obtain ⟨sl,hL⟩:=u.any ho I.free (by simp)
 exact I.step (g':=s.gens) (d':=s.drawn) (ch:=[]) (fun _ z=>nomatch z) (fun b o _ hb _ e n=>u.keep b o e n hb (by simp)) (fun b o _ hb _ e n=>u.slot b o e n hb (by simp)) (fun b o _ e n=>u.free b o e n (by simp)) (fun b o _ e=>u.there b o e (by simp)) u.tups u.frzs u.tbls (fun m' hm=>by
  obtain ⟨o',es',ep',ho',r'⟩:=hm
  rw [ho] at ho';cases ho'
  exact ⟨_,es',ep',hL,r'⟩) hok I.bare
theorem Inv.call {g':Array GenState} {t':Nat} {d':Drawn} {ch:List Addr} (I:Inv X pins σ H s) (u:Un (frs X.stack) ch H H' s.heap h') (hok:HOk X.prog X.w H' h') (hg:AllBare g')
 (hch:∀ b∈ch,(b∈X.ex\/X.s₀.heap.objs.size<=b)/\b≠X.env.locals/\(∀ x c,X.env.cells.lookup x=some c->c≠b)/\∀ p∈X.pn++pins,p.1≠b) :
 Inv X pins σ H' { s with heap:=h',gens:=g',drawn:=d',toks:=t' }:=by
 obtain ⟨m,⟨o,es,ep,ho,r⟩,_⟩:=id I.loc
 obtain ⟨sl,hL⟩:=u.any ho I.free fun z=>(hch _ z).2.1 rfl
 exact I.step (ch:=ch) hch (fun b o hL hb hc e n=>u.keep b o e n (fun z=>(List.mem_cons.mp (I.stkSub b z)).elim hL hb) hc) (fun b o _ _ hc e n=>u.any e n hc) (fun b o hc e n=>u.free b o e n hc) (fun b o hc e=>u.there b o e hc) u.tups u.frzs u.tbls (fun m' hm=>by
  obtain ⟨o',es',ep',ho',r'⟩:=hm
  rw [ho] at ho';cases ho'
  exact ⟨_,es',ep',hL,r'⟩) hok hg
theorem Inv.turned {t':Nat} {it:Addr} (I:Inv X pins σ H s) (k:∀ b o,b≠it->s.heap.get? b=some o->h'.get? b=some o) (hn:H it=none) (hL:it≠X.env.locals)
 (h1:it∈X.ex\/X.s₀.heap.objs.size<=it) (h2:∀ x c,X.env.cells.lookup x=some c->c≠it) (h3:∀ p∈X.pn++pins,p.1≠it):Inv X pins σ H { s with heap:=h',toks:=t' }:=by
 have nit:∀ b u,H b=some u->b≠it:=fun b u e z=>by rw [z,hn] at e;cases e
 refine I.step (g':=s.gens) (d':=s.drawn) (ch:=[it]) (fun b hb=>?_) (fun b o _ _ hc e _=>k b o (fun z=>hc (by simp [z])) e) (fun b o _ _ hc e _=>⟨o.slots,k b o (fun z=>hc (by simp [z])) e⟩) (fun _ _ _ _ n=>n)
  (fun b o hc e=>⟨o,k b o (fun z=>hc (by simp [z])) e⟩) (fun _ _ e=>e) (fun _ _ _ e=>e) (fun b ps e=>⟨#[],by rw [e];simp⟩) (fun m hm=>?_) (fun b u e=>?_) I.bare
 ·have e:b=it:=by simpa using hb
  subst e
  exact ⟨h1,hL,h2,h3⟩
 ·obtain ⟨o,es,ep,ho,r⟩:=hm
  exact ⟨o,es,ep,k _ o (Ne.symm hL) ho,r⟩
 ·refine (I.hok b u e).stay (fun c v hc q=>k c v ?_ q) (fun _ q=>q) fun _ _ q=>q
  rcases hc with z | z
  ·rw [z];exact nit b u e
  ·exact nit c _ z
theorem Inv.tok (I:Inv X pins σ H s) (t:Nat):Inv X pins σ H { s with toks:=t }:=I.un (h':=s.heap) (t':=t) Un.refl I.hok
theorem Inv.kept {t':Nat} (I:Inv X pins σ H s) (k:∀ b u,s.heap.get? b=some u->h'.get? b=some u):Inv X pins σ H { s with heap:=h',toks:=t' }:=I.un (Un.kept k) (I.hok.kept k)
theorem Inv.laid {a:Addr} {o:HO} {t':Nat} (I:Inv X pins σ H s) (k:∀ b u,s.heap.get? b=some u->h'.get? b=some u) (hp:s.heap.objs.size<=a) (new:ObjOk X.prog X.w (upd H a o) h' a o) :
 Inv X pins σ (upd H a o) { s with heap:=h',toks:=t' }:=I.un (Un.laid k hp (I.hok.fresh hp)) (I.hok.laid k hp new)
theorem Inv.write {x e:Addr} {o:HO} {t':Nat} (I:Inv X pins σ H s) (mu:Mut (H x)) (he:e=x\/H e=some (.own x)) (k:∀ b u,b≠e->s.heap.get? b=some u->h'.get? b=some u) (heo:∃ u,h'.get? e=some u)
 (new:ObjOk X.prog X.w (upd H x o) h' x o):Inv X pins σ (upd H x o) { s with heap:=h',toks:=t' }:=I.un (Un.write mu he k heo) (I.hok.write mu he k heo new)
theorem Inv.pins_of {pins':List (Addr×Obj)} (I:Inv X pins σ H s) (h:∀ p∈pins',s.heap.get? p.1=some p.2/\H p.1=none/\p.1≠X.env.locals/\p.1∉X.fs/\∀ v,p.2.data≠.cell v):Inv X pins' σ H s :=
 ⟨I.ok,I.os,I.bare,I.base,I.loc,I.cell,I.free,I.freeC,fun p hp=>(List.mem_append.mp hp).elim (fun z=>I.pin p (List.mem_append_left _ z)) (h p),I.hok,I.len⟩
theorem yi {N:List Str} (hN:N.Nodup) {i j:Nat} {x:Str} (a:N[i]?=some x) (b:N[j]?=some x):i=j:=by
 obtain ⟨h1,e1⟩:=List.getElem?_eq_some_iff.mp a
 obtain ⟨h2,e2⟩:=List.getElem?_eq_some_iff.mp b
 exact (List.getElem_inj hN).mp (e1.trans e2.symm)
theorem BQ {M:Model} {A:Around} {E:Value->Shared->Prop} {i:Nat} {x:Str} {v:V} {u:Value} {Q:Unit->Shared->Prop} (I:Inv X pins σ H s) (hN:X.N.Nodup) (hi:X.N[i]?=some x) (hx:Loc X.env.scope x) (r:RelV v u)
 (h:∀ s',Inv X pins (σ.set i (some v)) H s'->(∃ a,Heap.SameBut a s.heap s'.heap/\(a=X.env.locals\/X.env.cells.lookup x=some a))->Q () s') (hf:X.fn x=true\/X.env.scope.names.lookup x=some .local:=by first | exact .inl rfl | exact .inr rfl | assumption):wpAny M A (storeName X.env x u) Q E s:=by
 obtain ⟨m,hn,hl⟩:=id I.loc
 have hcls:(X.env.scope.kind == .class || (X.env.scope.kind == .module&&X.env.locals != X.env.globals))=false:=by rw [I.ok.kind];rfl
 have hiσ:i<σ.length:=by rw [I.len];exact (List.getElem?_eq_some_iff.mp hi).1
 have cne:=I.cne
 have tracked:∀ {a:Addr} {h':Heap},(∃ o,s.heap.get? a=some o/\H a=none)->Heap.SameBut a s.heap h'->HOk X.prog X.w H h':=fun {a h'} ha hs b ob e=>by
  obtain ⟨_,_,hfree⟩:=ha
  refine (I.hok b ob e).stay (fun c w' hc q=>(hs.2 c ?_).trans q) (fun _ q=>q) fun _ _ q=>q
  rintro rfl
  rcases hc with rfl | hc
  ·rw [hfree] at e;cases e
  ·rw [hfree] at hc;cases hc
 rcases hx with hk | hk
 ·refine wpAny_storeName_local hk hn (fun h' hn' hs=>?_) hcls
  obtain ⟨oL,_,_,hoL,_⟩:=id hn
  refine h _ ⟨I.ok,I.os,I.bare,⟨fun b o e n hb hx=>?_,fun b o e n hb hx=>?_,I.base.free,fun b o e hx=>?_,I.base.tups,I.base.frzs,I.base.tbls⟩,⟨_,hn',fun j y v' e1 e2 e3=>?_⟩,fun y c e=>?_,I.free,I.freeC,fun p hp=>?_,tracked ⟨oL,hoL,I.free⟩ hs,by simpa using I.len⟩ ⟨_,hs,.inl rfl⟩
  ·exact (hs.2 b (Nat.ne_of_lt (Nat.lt_of_lt_of_le (Heap.lt_size e) I.ok.above))).trans (I.base.keep b o e n hb hx)
  ·obtain ⟨sl,e1⟩:=I.base.slot b o e n hb hx
   exact ⟨sl,(hs.2 b (Nat.ne_of_lt (Nat.lt_of_lt_of_le (Heap.lt_size e) I.ok.above))).trans e1⟩
  ·obtain ⟨o',e1⟩:=I.base.there b o e hx
   exact ⟨o',(hs.2 b (Nat.ne_of_lt (Nat.lt_of_lt_of_le (Heap.lt_size e) I.ok.above))).trans e1⟩
  ·by_cases hj:j=i
   ·subst hj
    rw [hi] at e1;cases e1
    rw [List.getElem?_set_self hiσ] at e2
    cases e2
    exact ⟨u,r,.inl ⟨hk,by simp⟩⟩
   ·rw [List.getElem?_set_ne (Ne.symm hj)] at e2
    obtain ⟨u',r',q⟩:=hl j y v' e1 e2 e3
    refine ⟨u',r',?_⟩
    rcases q with ⟨k,e⟩ | ⟨k,c,e,z⟩
    ·refine .inl ⟨k,?_⟩
     have:y≠x:=fun e=>hj (yi hN e1 (e ▸ hi))
     simp [this,e]
    ·exact .inr ⟨k,c,e,z.sameBut hs (cne y c e)⟩
  ·obtain ⟨w',z⟩:=I.cell y c e
   exact ⟨w',z.sameBut hs (cne y c e)⟩
  ·obtain ⟨e,n,ne,nf,d⟩:=I.pin p hp
   exact ⟨(hs.2 p.1 ne).trans e,n,ne,nf,d⟩
 ·have hfn:X.fn x=true:=by
   rcases hf with z | z
   ·exact z
   ·rw [z] at hk;cases hk
  obtain ⟨c,hc⟩:=I.ok.has x (.inl hk)
  obtain ⟨w',z⟩:=I.cell x c hc
  refine wpAny_storeName_cell I.ok.kind hk hc z (fun h' hc' hs=>?_)
  obtain ⟨oc,hoc,hocd⟩:=id z
  refine h { s with heap:=h' } ⟨I.ok,I.os,I.bare,⟨fun b o e n hb hx=>?_,fun b o e n hb hx=>?_,I.base.free,fun b o e hx=>?_,I.base.tups,I.base.frzs,I.base.tbls⟩,⟨m,hn.sameBut hs (Ne.symm (cne x c hc)),fun j y v' e1 e2 e3=>?_⟩,fun y c' e=>?_,I.free,I.freeC,fun p hp=>?_,tracked ⟨oc,hoc,I.freeC x c hc⟩ hs,by simpa using I.len⟩ ⟨c,hs,.inr hc⟩
  ·exact (hs.2 b (Nat.ne_of_lt (Nat.lt_of_lt_of_le (Heap.lt_size e) (I.ok.cab x c hfn hc)))).trans (I.base.keep b o e n hb hx)
  ·obtain ⟨sl,e1⟩:=I.base.slot b o e n hb hx
   exact ⟨sl,(hs.2 b (Nat.ne_of_lt (Nat.lt_of_lt_of_le (Heap.lt_size e) (I.ok.cab x c hfn hc)))).trans e1⟩
  ·obtain ⟨o',e1⟩:=I.base.there b o e hx
   exact ⟨o',(hs.2 b (Nat.ne_of_lt (Nat.lt_of_lt_of_le (Heap.lt_size e) (I.ok.cab x c hfn hc)))).trans e1⟩
  ·by_cases hj:j=i
   ·subst hj
    rw [hi] at e1;cases e1
    rw [List.getElem?_set_self hiσ] at e2
    cases e2
    exact ⟨u,r,.inr ⟨.inl hk,c,hc,hc'⟩⟩
   ·rw [List.getElem?_set_ne (Ne.symm hj)] at e2
    obtain ⟨u',r',q⟩:=hl j y v' e1 e2 e3
    refine ⟨u',r',?_⟩
    rcases q with q | ⟨k,c',e,z'⟩
    ·exact .inl q
    ·refine .inr ⟨k,c',e,z'.sameBut hs ?_⟩
     rintro rfl
     exact hj (yi hN e1 (I.ok.inj _ _ _ e hc ▸ hi))
  ·by_cases hcc:c'=c
   ·subst hcc;exact ⟨_,hc'⟩
   ·obtain ⟨w2,z2⟩:=I.cell y c' e
    exact ⟨w2,z2.sameBut hs hcc⟩
  ·obtain ⟨e,n,ne,nf,d⟩:=I.pin p hp
   refine ⟨(hs.2 p.1 ?_).trans e,n,ne,nf,d⟩
   intro q
   rw [q,hoc] at e
   have q':oc=p.2:=Option.some.inj e
   exact d w' (by rw [<- q'];exact hocd)
theorem vN {M:Model} {A:Around} {E:Value->Shared->Prop} {i:Nat} {x:Str} {v:V} {u:Value} {Q:Unit->Shared->Prop} (I:Inv X pins σ H s) (hN:X.N.Nodup) (hi:X.N[i]?=some x) (hx:Loc X.env.scope x) (r:RelV v u)
 (h:∀ s',Inv X pins (σ.set i (some v)) H s'->Q () s') (hf:X.fn x=true\/X.env.scope.names.lookup x=some .local:=by first | exact .inl rfl | exact .inr rfl | assumption):wpAny M A (storeName X.env x u) Q E s :=
 BQ I hN hi hx r (fun s' I' _=>h s' I') hf
theorem Inv.call' {s':Shared} {ch:List Addr} (I:Inv X pins σ H s) (ho:s'.os=s.os) (u:Un (frs X.stack) ch H H' s.heap s'.heap) (hok:HOk X.prog X.w H' s'.heap) (hg:AllBare s'.gens)
 (hch:∀ b∈ch,(b∈X.ex\/X.s₀.heap.objs.size<=b)/\b≠X.env.locals/\(∀ x c,X.env.cells.lookup x=some c->c≠b)/\∀ p∈X.pn++pins,p.1≠b):Inv X pins σ H' s':=by
 obtain ⟨h',g',d',t',o'⟩:=s'
 have e:o'=s.os:=ho
 subst e
 exact I.call (g':=g') (t':=t') (d':=d') u hok hg hch
end
abbrev XK:=Value->Option Addr->Hp->Prop
abbrev St:=List (Option V)
abbrev VK:=V->Hp->Prop
abbrev TE:=St->Hp->VK->Prop
abbrev TT:=St->Hp->(Bool->Hp->Prop)->Prop
abbrev TA:=St->Hp->(List V->Hp->Prop)->Prop
structure Ends where
 nx:St->Hp->Prop
 rt:VK
 bk:St->Hp->Prop:=fun _ _=>False
 ct:St->Hp->Prop:=fun _ _=>False
abbrev TS:=Ends->St->Hp->Prop
def EP (X:Cx) (pins:List (Addr×Obj)) (σ:St) (Q:VK) (u:Value) (s':Shared):Prop:=∃ v H',Inv X pins σ H' s'/\RelV v u/\Q v H'
def TP (X:Cx) (pins:List (Addr×Obj)) (σ:St) (Q:Bool->Hp->Prop) (b:Bool) (s':Shared):Prop:=∃ H',Inv X pins σ H' s'/\Q b H'
def AP (X:Cx) (pins:List (Addr×Obj)) (σ:St) (Q:List V->Hp->Prop) (us:List Value) (s':Shared):Prop:=∃ vs H',Inv X pins σ H' s'/\Vals vs us/\Q vs H'
def SP (X:Cx) (pins:List (Addr×Obj)) (D:Ends) (f:Flow) (s':Shared):Prop :=
 match f with
 | .next=>∃ σ' H',Inv X pins σ' H' s'/\D.nx σ' H'
 | .brk=>∃ σ' H',Inv X pins σ' H' s'/\D.bk σ' H'
 | .cont=>∃ σ' H',Inv X pins σ' H' s'/\D.ct σ' H'
 | .ret u=>∃ v σ' H',Inv X pins σ' H' s'/\RelV v u/\D.rt v H'
def PE (X:Cx) (e:Expr) (t:TE):Prop :=
 ∀ (pins:List (Addr×Obj)) (s:Shared) (σ:St) (H:Hp) (Q:VK),Inv X pins σ H s->t σ H Q->wpAny (model X.prog X.w) X.A (eval e X.env) (EP X pins σ Q) X.xe s
def PT (X:Cx) (e:Expr) (t:TT):Prop :=
 ∀ (pins:List (Addr×Obj)) (s:Shared) (σ:St) (H:Hp) (Q:Bool->Hp->Prop),Inv X pins σ H s->t σ H Q->wpAny (model X.prog X.w) X.A (isTrue e X.env (eval e X.env)) (TP X pins σ Q) X.xe s
def PW (X:Cx) (e:Expr) (t:TT):Prop :=
 ∀ (whole:Sem Value) (pins:List (Addr×Obj)) (s:Shared) (σ:St) (H:Hp) (Q:Bool->Hp->Prop),Inv X pins σ H s->t σ H Q->wpAny (model X.prog X.w) X.A (isTrue e X.env whole) (TP X pins σ Q) X.xe s
theorem PW.pt {X:Cx} {e:Expr} {t:TT} (h:PW X e t):PT X e t:=h _
def PA (X:Cx) (es:List Expr) (t:TA):Prop :=
 ∀ (pos:Pos) (pins:List (Addr×Obj)) (s:Shared) (σ:St) (H:Hp) (Q:List V->Hp->Prop),Inv X pins σ H s->t σ H Q->wpAny (model X.prog X.w) X.A (spliced (backTo pos (starEach es X.env))) (AP X pins σ Q) X.xe s
def PS (X:Cx) (st:Stmt) (t:TS):Prop :=
 ∀ (pins:List (Addr×Obj)) (s:Shared) (σ:St) (H:Hp) (D:Ends),Inv X pins σ H s->t D σ H->wpAny (model X.prog X.w) X.A (exec st X.env) (SP X pins D) X.xe s
def PSs (X:Cx) (st:List Stmt) (t:TS):Prop :=
 ∀ (pins:List (Addr×Obj)) (s:Shared) (σ:St) (H:Hp) (D:Ends),Inv X pins σ H s->t D σ H->wpAny (model X.prog X.w) X.A (execs st X.env) (SP X pins D) X.xe s
theorem thn {α:Type} {t:Sem α} {Q Q':α->Shared->Prop} {M:Model} {A:Around} {E:Value->Shared->Prop} {s:Shared} (h:wpAny M A t Q E s) (hQ:∀ a s,Q a s->Q' a s):wpAny M A t Q' E s:=wpAny_mono h hQ fun _ _ x=>x
end L2
namespace L2
open PySem PySem.Spec PyProof.Rows
section
variable {X:Cx}
def vx (i:Nat):TE:=fun σ H Q=>∃ v,σ[i]?=some (some v)/\Q v H
def tC (v:V):TE:=fun _ H Q=>Q v H
theorem DQ {i:Nat} {x:Str} {pos:Pos} (hN:X.N[i]?=some x) (hv:Vis X.env.scope x) (hd:(x == ("__debug__":Str))=false:=by decide) (hcd:(x == ("__classdict__":Str))=false:=by decide):PE X (.Name x pos) (vx i):=by
 intro pins s σ H Q I h
 obtain ⟨v,e,h⟩:=h
 obtain ⟨m,hn,hl⟩:=I.loc
 obtain ⟨u,r,l⟩:=hl i x v hN e hv
 have fin:EP X pins σ Q u s:=⟨v,H,I,r,h⟩
 rcases l with ⟨hk,hm⟩ | ⟨hk,c,hc,hcell⟩
 ·exact wpAny_Name (wpAny_loadName_local I.ok.kind hk hn hm fin) hd
 ·rcases hk with hk | hk
  ·exact wpAny_Name (wpAny_loadName_cell I.ok.kind hk hc hcell fin) hd
  ·exact wpAny_Name (wpAny_loadName_free I.ok.kind hk hc hcell fin hcd) hd
theorem ad {i j pos}:PE X (.Constant (.int i) j pos) (tC (.int i)):=fun _ _ _ H _ I h=>wpAny_Constant_int ⟨.int i,H,I.tok _,⟨_,rfl⟩,h⟩
theorem rd {b j pos}:PE X (.Constant (.bool b) j pos) (tC (.bl b)):=fun _ _ _ H _ I h=>Constant_bool ⟨.bl b,H,I,rfl,h⟩
theorem xX {j pos}:PE X (.Constant .none j pos) (tC .non):=fun _ _ _ H _ I h=>Constant_none ⟨.non,H,I,rfl,h⟩
def Gl (X:Cx) (x:Str):Prop:=X.env.kindOf x=some .globalImplicit
theorem rW {E:Value->Shared->Prop} {pins:List (Addr×Obj)} {s:Shared} {σ:St} {H:Hp} {x:Str} {u:Value} {pos:Pos} {Q:Value->Shared->Prop} (I:Inv X pins σ H s) (hg:Gl X x) (hm:X.mg x=some u) (h:Q u s)
 (hd:(x == ("__debug__":Str))=false:=by decide):wpAny (model X.prog X.w) X.A (eval (.Name x pos) X.env) Q E s :=
 Calls.Name_function_global I.ok.kind hg (Calls.loadGlobal_global (by rw [I.ok.glob];exact I.mod.glob.keeps I.bk) hm h) hd
theorem f6 {E:Value->Shared->Prop} {pins:List (Addr×Obj)} {s:Shared} {σ:St} {H:Hp} {x:Str} {u:Value} {pos:Pos} {Q:Value->Shared->Prop} (I:Inv X pins σ H s) (hg:Gl X x) (hm:X.mg x=none) (hv:bootBuiltins x=some u) (h:Q u s)
 (hn:x≠"__name__":=by decide) (hd:(x == ("__debug__":Str))=false:=by decide):wpAny (model X.prog X.w) X.A (eval (.Name x pos) X.env) Q E s:=by
 obtain ⟨mb,h1,h2⟩:=I.mod.blt
 exact Calls.Name_function_global I.ok.kind hg (Calls.loadGlobal_builtin (by rw [I.ok.glob];exact I.mod.glob.keeps I.bk) hm (by rw [I.ok.blt];exact h1.keeps I.bk) ((h2 x hn).trans hv) h) hd
theorem DU {x:Str} {v:V} {u:Value} {pos:Pos} (hg:Gl X x) (hm:X.mg x=some u) (r:RelV v u) (hd:(x == ("__debug__":Str))=false:=by decide):PE X (.Name x pos) (tC v) :=
 fun _ _ _ H _ I h=>rW I hg hm ⟨v,H,I,r,h⟩ hd
theorem x3 {x:Str} {v:V} {u:Value} {pos:Pos} (hg:Gl X x) (hm:X.mg x=none) (hv:bootBuiltins x=some u) (r:RelV v u) (hn:x≠"__name__":=by decide) (hd:(x == ("__debug__":Str))=false:=by decide):PE X (.Name x pos) (tC v) :=
 fun _ _ _ H _ I h=>f6 I hg hm hv ⟨v,H,I,r,h⟩ hn hd
variable {a b:Expr} {ta tb:TE} {pos:Pos}
def tB (t:TE):TT:=fun σ H Q=>t σ H fun x H1=>∃ c,x=.bl c/\Q c H1
theorem m8 {e:Expr} {t:TE} (h:PE X e t) (he:∀ whole,isTrue e X.env whole=(do let v <- whole;standAt e.pos;holding [v] (truthy v)):=by intro _;rfl):PT X e (tB t):=by
 intro pins s σ H Q I hw
 refine isTrue_plain (thn (h pins s σ H _ I hw) fun v s1 ⟨x,H1,I1,r1,q1⟩=>?_) (he _)
 obtain ⟨d,rfl,q⟩:=q1
 cases r1
 exact wpAny_truthy_bool ⟨H1,I1,q⟩
variable {tA tB':TT} {rest:List Expr}
def vH (t u:TT):TT:=fun σ H Q=>t σ H fun c H1=>if c=true then u σ H1 Q else Q false H1
def tOr (t u:TT):TT:=fun σ H Q=>t σ H fun c H1=>if c=true then Q true H1 else u σ H1 Q
def vC (t:TT):TT:=fun σ H Q=>t σ H fun c H1=>Q (!c) H1
theorem ib (ha:PT X a tA):PW X (.BoolOp .And [a] pos) tA:=by
 intro wh pins s σ H Q I h
 refine isTrue_and (thn (ha pins s σ H Q I h) fun c s1 e=>?_)
 cases c with
 | true=>exact isTrue_and_nil e
 | false=>exact e
theorem xL (ha:PT X a tA):PW X (.BoolOp .Or [a] pos) tA:=by
 intro wh pins s σ H Q I h
 refine isTrue_or (thn (ha pins s σ H Q I h) fun c s1 e=>?_)
 cases c with
 | false=>exact isTrue_or_nil e
 | true=>exact e
theorem ic (ha:PT X a tA) (hb:PW X (.BoolOp .And (b::rest) pos) tB'):PW X (.BoolOp .And (a::b::rest) pos) (vH tA tB'):=by
 intro wh pins s σ H Q I h
 refine isTrue_and (thn (ha pins s σ H _ I h) fun c s1 ⟨H1,I1,q1⟩=>?_)
 cases c with
 | true=>exact hb wh pins s1 σ H1 Q I1 q1
 | false=>exact ⟨H1,I1,q1⟩
theorem xM (ha:PT X a tA) (hb:PW X (.BoolOp .Or (b::rest) pos) tB'):PW X (.BoolOp .Or (a::b::rest) pos) (tOr tA tB'):=by
 intro wh pins s σ H Q I h
 refine isTrue_or (thn (ha pins s σ H _ I h) fun c s1 ⟨H1,I1,q1⟩=>?_)
 cases c with
 | true=>exact ⟨H1,I1,q1⟩
 | false=>exact hb wh pins s1 σ H1 Q I1 q1
theorem qW (ha:PT X a tA):PT X (.UnaryOp .Not a pos) (vC tA):=by
 intro pins s σ H Q I h
 exact isTrue_not (ha pins s σ H (fun c H1=>Q (!c) H1) I h)
def vG (ta tb:TE):TE:=fun σ H Q=>ta σ H fun x H1=>∃ c,x=.bl c/\if c=true then tb σ H1 Q else Q (.bl false) H1
def vA (ta tb:TE):TE:=fun σ H Q=>ta σ H fun x H1=>∃ c,x=.bl c/\if c=true then Q (.bl true) H1 else tb σ H1 Q
def vB (ta:TE):TE:=fun σ H Q=>ta σ H fun x H1=>∃ c,x=.bl c/\Q (.bl (!c)) H1
theorem q8 {op} {t:TE} (h:PE X a t):PE X (.BoolOp op [a] pos) t:=fun pins s σ H Q I hw=>BoolOp_one (h pins s σ H Q I hw)
theorem x4 (ha:PE X a ta) (hb:PE X (.BoolOp .And (b::rest) pos) tb):PE X (.BoolOp .And (a::b::rest) pos) (vG ta tb):=by
 intro pins s σ H Q I h
 refine BoolOp_and (thn (ha pins s σ H _ I h) fun v s1 ⟨x,H1,I1,r1,q1⟩=>?_)
 obtain ⟨c,rfl,q1⟩:=q1
 cases r1
 refine wpAny_truthy_bool ?_
 cases c with
 | true=>exact hb pins s1 σ H1 Q I1 q1
 | false=>exact ⟨.bl false,H1,I1,rfl,q1⟩
theorem DR (ha:PE X a ta) (hb:PE X (.BoolOp .Or (b::rest) pos) tb):PE X (.BoolOp .Or (a::b::rest) pos) (vA ta tb):=by
 intro pins s σ H Q I h
 refine BoolOp_or (thn (ha pins s σ H _ I h) fun v s1 ⟨x,H1,I1,r1,q1⟩=>?_)
 obtain ⟨c,rfl,q1⟩:=q1
 cases r1
 refine wpAny_truthy_bool ?_
 cases c with
 | false=>exact hb pins s1 σ H1 Q I1 q1
 | true=>exact ⟨.bl true,H1,I1,rfl,q1⟩
theorem DS (ha:PE X a ta):PE X (.UnaryOp .Not a pos) (vB ta):=by
 intro pins s σ H Q I h
 refine UnaryOp_ (thn (ha pins s σ H _ I h) fun v s1 ⟨x,H1,I1,r1,q1⟩=>?_)
 obtain ⟨c,rfl,q1⟩:=q1
 cases r1
 exact not_of (wpAny_truthy_bool ⟨.bl (!c),H1,I1,rfl,q1⟩)
def tIf (t:TT) (ta tb:TE):TE:=fun σ H Q=>t σ H fun c H1=>if c=true then ta σ H1 Q else tb σ H1 Q
theorem rc {c:Expr} (hc:PT X c tA) (ha:PE X a ta) (hb:PE X b tb):PE X (.IfExp c a b pos) (tIf tA ta tb):=by
 intro pins s σ H Q I h
 refine wpAny_IfExp (thn (hc pins s σ H _ I h) fun d s1 ⟨H1,I1,q1⟩=>?_)
 cases d with
 | true=>exact ha pins s1 σ H1 Q I1 q1
 | false=>exact hb pins s1 σ H1 Q I1 q1
end
end L2
namespace L2
open PySem PySem.Spec PyProof.Rows
def SqL (K:PySem.W.Frag) (H:Hp) (a:Addr) (xs:List V):Prop :=
 Rd H a (.lst xs) \/
  ∃ (o:Obj) (its:Array Value) (n:Nat),K.lookup a=some o/\o.cls=.type "list"/\o.dict=none/\o.data=.seq its n/\its.size<=sizeLine/\Vals xs its.toList
def SqT (K:PySem.W.Frag) (H:Hp) (a:Addr) (xs:List V):Prop :=
 Rd H a (.tup xs) \/
  ∃ (o:Obj) (its:Array Value) (n:Nat),K.lookup a=some o/\o.cls=.type "tuple"/\o.data=.seq its n/\its.size<=sizeLine/\Vals xs its.toList
def K0:Value->Option V
 | .none=>some .non
 | .bool b=>some (.bl b)
 | .int i _=>some (.int i)
 | .str x _=>some (.str x)
 | .bytes b _=>some (.byt b)
 | .float b _=>some (.flt b)
 | .ref a=>some (.ref a)
 | .type n=>some (.ty n)
 | _=>none
theorem RelV.abs {x:V} {u:Value} (r:RelV x u):K0 u=some x:=by
 cases x with
 | non=>cases r;rfl
 | bl _=>cases r;rfl
 | int _=>obtain ⟨t,rfl⟩:=r;rfl
 | str _=>obtain ⟨t,rfl⟩:=r;rfl
 | byt _=>obtain ⟨t,rfl⟩:=r;rfl
 | flt _=>obtain ⟨t,rfl⟩:=r;rfl
 | ref _=>cases r;rfl
 | ty _=>cases r;rfl
theorem RelV.inj {x y:V} {u:Value} (r:RelV x u) (q:RelV y u):x=y:=Option.some.inj (r.abs.symm.trans q.abs)
theorem Vals.inj:∀ {xs ys:List V} {us:List Value},Vals xs us->Vals ys us->xs=ys
 | _,_,_,.nil,.nil=>rfl
 | _,_,_,.cons r t,.cons r' t'=>by rw [r.inj r',Vals.inj t t']
section
variable {X:Cx} {pins:List (Addr×Obj)} {σ:St} {H:Hp} {s:Shared} {a:Addr} {xs ys:List V}
theorem SqL.of {K:PySem.W.Frag} (h:H a=some (.lst xs)):SqL K H a xs:=.inl (.inl h)
theorem SqT.of {K:PySem.W.Frag} (h:H a=some (.tup xs)):SqT K H a xs:=.inl (.inl h)
theorem Inv.list (I:Inv X pins σ H s) (h:SqL X.K H a xs):∃ its:List Value,Vals xs its/\PlainL s.heap a its.toArray/\xs.length<=sizeLine:=by
 rcases h with h | ⟨o,its,n,hk,hc,hd,hs,hz,r⟩
 ·obtain ⟨z,its,n,r,e⟩:=h.ok I.hok
  exact ⟨its,r,⟨_,n,e,rfl,rfl,rfl⟩,z⟩
 ·refine ⟨its.toList,r,⟨o,n,I.kIn a o hk,hc,hd,by simpa using hs⟩,?_⟩
  have e:=r.length
  simp only [Array.length_toList] at e
  omega
theorem Inv.tuple (I:Inv X pins σ H s) (h:SqT X.K H a xs):∃ its:List Value,Vals xs its/\IsTup s.heap a its.toArray/\xs.length<=sizeLine:=by
 rcases h with h | ⟨o,its,n,hk,hc,hs,hz,r⟩
 ·obtain ⟨z,its,r,p⟩:=h.ok I.hok
  exact ⟨its,r,p,z⟩
 ·refine ⟨its.toList,r,⟨o,I.kIn a o hk,hc,n,by simpa using hs⟩,?_⟩
  have e:=r.length
  simp only [Array.length_toList] at e
  omega
theorem Inv.list_inj (I:Inv X pins σ H s) (h:SqL X.K H a xs) (h':SqL X.K H a ys):xs=ys:=by
 obtain ⟨its,r,⟨o,n,e,_,_,d⟩,_⟩:=I.list h
 obtain ⟨its',r',⟨o',n',e',_,_,d'⟩,_⟩:=I.list h'
 rw [e] at e';cases e'
 rw [d] at d'
 injection d' with d1 _
 have:its=its':=by simpa using congrArg Array.toList d1
 subst this
 exact r.inj r'
theorem Inv.tuple_inj (I:Inv X pins σ H s) (h:SqT X.K H a xs) (h':SqT X.K H a ys):xs=ys:=by
 obtain ⟨its,r,⟨o,e,_,n,d⟩,_⟩:=I.tuple h
 obtain ⟨its',r',⟨o',e',_,n',d'⟩,_⟩:=I.tuple h'
 rw [e] at e';cases e'
 rw [d] at d'
 injection d' with d1 _
 have:its=its':=by simpa using congrArg Array.toList d1
 subst this
 exact r.inj r'
end
abbrev Cx.wish (X:Cx) (E:Value->Shared->Prop):Cx:={ X with xe:=E }
abbrev Cx.nox (X:Cx):Cx:=X.wish fun _ _=>False
theorem Cx.Ok.wish {X:Cx} (ok:X.Ok) (E:Value->Shared->Prop):(X.wish E).Ok :=
 ⟨ok.mod,ok.kind,ok.glob,ok.blt,ok.above,ok.inj,ok.has,ok.cab,ok.hd,ok.frames,ok.stk,ok.exf,ok.bs,ok.bsz,ok.noex,ok.exfs,ok.funs,ok.frf⟩
theorem Cx.Ok.unwish {X:Cx} {E:Value->Shared->Prop} (ok:(X.wish E).Ok):X.Ok :=
 ⟨ok.mod,ok.kind,ok.glob,ok.blt,ok.above,ok.inj,ok.has,ok.cab,ok.hd,ok.frames,ok.stk,ok.exf,ok.bs,ok.bsz,ok.noex,ok.exfs,ok.funs,ok.frf⟩
section
variable {X:Cx} {pins:List (Addr×Obj)} {σ:St} {H:Hp} {s:Shared} {E:Value->Shared->Prop}
theorem Inv.wish (I:Inv X pins σ H s) (E:Value->Shared->Prop):Inv (X.wish E) pins σ H s:=⟨I.ok.wish E,I.os,I.bare,I.base,I.loc,I.cell,I.free,I.freeC,I.pin,I.hok,I.len⟩
theorem Inv.unwish (I:Inv (X.wish E) pins σ H s):Inv X pins σ H s:=⟨I.ok.unwish,I.os,I.bare,I.base,I.loc,I.cell,I.free,I.freeC,I.pin,I.hok,I.len⟩
theorem SP.unwish {D:Ends} {f:Flow} {s':Shared} (h:SP (X.wish E) pins D f s'):SP X pins D f s':=by
 cases f with
 | next=>obtain ⟨σ',H',I,q⟩:=h;exact ⟨σ',H',I.unwish,q⟩
 | brk=>obtain ⟨σ',H',I,q⟩:=h;exact ⟨σ',H',I.unwish,q⟩
 | cont=>obtain ⟨σ',H',I,q⟩:=h;exact ⟨σ',H',I.unwish,q⟩
 | ret u=>obtain ⟨v,σ',H',I,r,q⟩:=h;exact ⟨v,σ',H',I.unwish,r,q⟩
theorem PE.nox {e:Expr} {t:TE} (h:PE X.nox e t):PE X e t:=fun pins s σ H Q I hw =>
 wpAny_mono (h pins s σ H Q (I.wish _) hw) (fun _ _ ⟨v,H',I',r,q⟩=>⟨v,H',I'.unwish,r,q⟩) fun _ _ z=>False.elim z
theorem PT.nox {e:Expr} {t:TT} (h:PT X.nox e t):PT X e t:=fun pins s σ H Q I hw =>
 wpAny_mono (h pins s σ H Q (I.wish _) hw) (fun _ _ ⟨H',I',q⟩=>⟨H',I'.unwish,q⟩) fun _ _ z=>False.elim z
theorem PSs.nox {st:List Stmt} {t:TS} (h:PSs X.nox st t):PSs X st t:=fun pins s σ H D I hw =>
 wpAny_mono (h pins s σ H D (I.wish _) hw) (fun _ _ q=>q.unwish) fun _ _ z=>False.elim z
end
section
variable {X:Cx} {st:Stmt} {rest:List Stmt} {t u:TS} {e:Expr} {te:TE} {pos:Pos}
def vD:TS:=fun D σ H=>D.nx σ H
def cW (t u:TS):TS:=fun D σ H=>t { D with nx:=u D } σ H
theorem aR:PSs X [] vD:=fun _ _ σ H _ I h=>wpAny_execs_nil ⟨σ,H,I,h⟩
theorem ah (h1:PS X st t) (h2:PSs X rest u):PSs X (st::rest) (cW t u):=by
 intro pins s σ H D I h
 refine wpAny_execs_cons (thn (h1 pins s σ H { D with nx:=u D } I h) fun f s1 q=>?_)
 cases f with
 | next =>
   obtain ⟨σ',H',I',q⟩:=q
   exact h2 pins s1 σ' H' D I' q
 | ret v=>exact q
 | brk=>exact q
 | cont=>exact q
theorem al (h1:PS X st t):PSs X [st] t:=by
 intro pins s σ H D I h
 refine wpAny_execs_cons (thn (h1 pins s σ H D I h) fun f s1 q=>?_)
 cases f with
 | next=>exact wpAny_execs_nil q
 | ret v=>exact q
 | brk=>exact q
 | cont=>exact q
theorem Inv.quiet {pins:List (Addr×Obj)} {σ:St} {H:Hp} {s:Shared} (I:Inv X pins σ H s):interactive X.env=false:=by simp [interactive,I.ok.kind]
def mw (te:TE):TS:=fun D σ H=>te σ H fun _ H1=>D.nx σ H1
theorem gE (he:PE X e te) (hs:swapsWith e none pos.line X.env=pure false:=by rfl):PS X (.Expr e pos) (mw te):=by
 intro pins s σ H D I h
 exact wpAny_Expr_any (thn (he pins s σ H _ I h) fun v s1 ⟨x,H1,I1,r1,q1⟩=>⟨σ,H1,I1,q1⟩) I.quiet hs
def vy (te:TE):TS:=fun D σ H=>te σ H D.rt
theorem aB (he:PE X e te):PS X (.Return (some e) pos) (vy te):=by
 intro pins s σ H D I h
 exact wpAny_Return_some (thn (he pins s σ H _ I h) fun v s1 ⟨x,H1,I1,r1,q1⟩=>⟨x,σ,H1,I1,r1,q1⟩)
def j7 (c:TT) (t u:TS):TS:=fun D σ H=>c σ H fun b H1=>if b=true then t D σ H1 else u D σ H1
theorem aQ {c:Expr} {a b:List Stmt} {tc:TT} (hc:PT X c tc) (ha:PSs X a t) (hb:PSs X b u):PS X (.If c a b pos) (j7 tc t u):=by
 intro pins s σ H D I h
 refine wpAny_If (thn (hc pins s σ H _ I h) fun d s1 ⟨H1,I1,q1⟩=>?_)
 cases d with
 | true=>exact ha pins s1 σ H1 D I1 q1
 | false=>exact hb pins s1 σ H1 D I1 q1
def BD:TS:=fun _ _ _=>False
theorem ie:PS X st BD:=fun _ _ _ _ _ _ h=>h.elim
end
abbrev TG:=V->St->Hp->(St->Hp->Prop)->Prop
abbrev TGs:=List V->St->Hp->(St->Hp->Prop)->Prop
def PG (X:Cx) (target:Expr) (t:TG):Prop :=
 ∀ (pins:List (Addr×Obj)) (s:Shared) (σ:St) (H:Hp) (v:V) (u:Value) (Q:St->Hp->Prop),Inv X pins σ H s->RelV v u->t v σ H Q ->
   wpAny (model X.prog X.w) X.A (assign target X.env u) (fun _ s'=>∃ σ' H',Inv X pins σ' H' s'/\Q σ' H') X.xe s
def PGs (X:Cx) (ts:List Expr) (t:TGs):Prop :=
 ∀ (pins:List (Addr×Obj)) (s:Shared) (σ:St) (H:Hp) (vs:List V) (us:List Value) (Q:St->Hp->Prop),Inv X pins σ H s->Vals vs us->t vs σ H Q ->
   wpAny (model X.prog X.w) X.A (assignInOrder ((assignEach ts X.env).map (·.2)) us) (fun _ s'=>∃ σ' H',Inv X pins σ' H' s'/\Q σ' H') X.xe s
abbrev uw:=V->V->V->Hp->(Hp->Prop)->Prop
def AR (X:Cx) (t:uw):Prop :=
 ∀ (pins:List (Addr×Obj)) (s:Shared) (σ:St) (H:Hp) (o i v:V) (ov iv u:Value) (Q:Hp->Prop),Inv X pins σ H s->RelV o ov->RelV i iv->RelV v u->t o i v H Q ->
   wpAny (model X.prog X.w) X.A (setItem ov iv u) (fun _ s'=>∃ H',Inv X pins σ H' s'/\Q H') X.xe s
section
variable {X:Cx} {pos:Pos}
def iG (i:Nat):TG:=fun v σ H Q=>Q (σ.set i (some v)) H
theorem aW {i:Nat} {x:Str} (hN:X.N.Nodup) (hi:X.N[i]?=some x) (hx:Loc X.env.scope x) (hf:X.fn x=true\/X.env.scope.names.lookup x=some .local:=by first | exact .inl rfl | exact .inr rfl | assumption):PG X (.Name x pos) (iG i):=by
 intro pins s σ H v u Q I r h
 exact wpAny_assign_Name (vN I hN hi hx r (fun s' I'=>⟨_,H,I',h⟩) hf)
def HX:TGs:=fun vs σ H Q=>vs=[]/\Q σ H
def HY (t:TG) (u:TGs):TGs:=fun vs σ H Q=>∃ v r,vs=v::r/\t v σ H fun σ' H'=>u r σ' H' Q
theorem ij:PGs X [] HX:=by
 intro pins s σ H vs us Q I r h
 obtain ⟨e,h⟩:=h
 subst e
 cases r
 exact assignInOrder_nil ⟨σ,H,I,h⟩
theorem cC {e:Expr} {es:List Expr} {t:TG} {u:TGs} (h1:PG X e t) (h2:PGs X es u)
 (hs:(assignEach (e::es) X.env).map (·.2)=assign e X.env::(assignEach es X.env).map (·.2):=by rfl):PGs X (e::es) (HY t u):=by
 intro pins s σ H vs us Q I r h
 obtain ⟨v,vr,e1,h⟩:=h
 subst e1
 cases r with
 | cons r rr =>
   rw [hs]
   refine assignInOrder_cons (thn (h1 pins s σ H _ _ _ I r h) fun _ s1 ⟨σ1,H1,I1,q1⟩=>?_)
   exact h2 pins s1 σ1 H1 _ _ Q I1 rr q1
def HV (K:PySem.W.Frag) (n:Nat) (t:TGs):TG:=fun v σ H Q=>∃ a xs,v=.ref a/\SqT K H a xs/\xs.length=n/\t xs σ H Q
theorem ik {es:List Expr} {k:Nat} {t:TGs} {n:Nat} (hc:X.calm=true) (h:PGs X es t)
 (hn:(assignEach es X.env).length=n:=by rfl) (hst:(assignEach es X.env).findIdx? (·.1)=none:=by rfl):PG X (.Tuple es k pos) (HV X.K n t):=by
 intro pins s σ H v u Q I r hw
 obtain ⟨a,xs,e1,hq,hl,hw⟩:=hw
 subst e1
 cases r
 obtain ⟨its,rv,ht,hz⟩:=I.tuple hq
 refine assign_Tuple_tuple (I.ok.hd hc) ht (by simp [hn,<- hl,rv.length]) hst fun h' hx=>?_
 have I1:Inv X pins σ H { s with heap:=h' }:=I.kept (t':=s.toks) fun b o e=>hx b o (Nat.ne_of_lt (Heap.lt_size e)) e
 exact h pins _ σ H xs _ Q I1 (by simpa using rv) hw
def HW (to ti:TE) (t:uw):TG:=fun v σ H Q=>to σ H fun o H1=>ti σ H1 fun i H2=>t o i v H2 fun H3=>Q σ H3
theorem kG {o i:Expr} {to ti:TE} {t:uw} (ho:PE X o to) (hi:PE X i ti) (hs:AR X t)
 (ha:∀ v,assign (.Subscript o i pos) X.env v=(do
   let ov <- holding [v] (eval o X.env)
   let iv <- holding [v,ov] (eval i X.env)
   standAt pos
   holding [v,ov,iv] (setItem ov iv v)
   release [v,ov,iv] []):=by intro _;rfl):PG X (.Subscript o i pos) (HW to ti t):=by
 intro pins s σ H v u Q I r h
 rw [ha]
 refine wpAny_bind (wpAny_holding (thn (ho pins s σ H _ I h) fun ov s1 ⟨x,H1,I1,r1,q1⟩=>?_))
 refine wpAny_bind (wpAny_holding (thn (hi pins s1 σ H1 _ I1 q1) fun iv s2 ⟨y,H2,I2,r2,q2⟩=>?_))
 refine wpAny_bind (wpAny_standAt (wpAny_bind (wpAny_holding (thn (hs pins s2 σ H2 x y v ov iv u _ I2 r1 r2 r q2) fun _ s3 ⟨H3,I3,q3⟩=>?_))))
 exact wpAny_release ⟨σ,H3,I3,q3⟩
def gY (te:TE) (g:TG):TS:=fun D σ H=>te σ H fun x H1=>g x σ H1 D.nx
theorem fQ {tg e:Expr} {te:TE} {g:TG} (he:PE X e te) (hg:PG X tg g) (hs:swapsWithSole [tg] e pos.line X.env=pure false:=by rfl) (hw:swappedStores [tg] e X.env=pure none:=by rfl)
 (h1:(assignEach [tg] X.env).map (·.2)=[assign tg X.env]:=by rfl):PS X (.Assign [tg] e pos) (gY te g):=by
 intro pins s σ H D I h
 refine wpAny_Assign_stores (thn (he pins s σ H _ I h) fun v s1 ⟨x,H1,I1,r1,q1⟩=>?_) hs hw
 rw [h1]
 exact thn (hg pins s1 σ H1 x v _ I1 r1 q1) fun _ s2 q=>q
theorem ap {i:Nat} {x:Str} {e:Expr} {te:TE} {pos':Pos} (hN:X.N.Nodup) (hi:X.N[i]?=some x) (hx:Loc X.env.scope x) (he:PE X e te) (hs:swapsWith e (some (.Name x pos')) pos.line X.env=pure false:=by rfl) (hf:X.fn x=true\/X.env.scope.names.lookup x=some .local:=by first | exact .inl rfl | exact .inr rfl | assumption) :
 PS X (.Assign [.Name x pos'] e pos) (gY te (iG i)):=by
 intro pins s σ H D I h
 refine wpAny_Assign_Name (thn (he pins s σ H _ I h) fun v s1 ⟨y,H1,I1,r1,q1⟩=>?_) hs
 exact vN I1 hN hi hx r1 (fun s2 I2=>⟨_,H1,I2,q1⟩) hf
end
section
variable {X:Cx} {pos:Pos}
def By (c:TT) (tb:TS):TS:=fun D σ H=>∃ W:Nat->St->Hp->Prop,(∃ m,W m σ H)/\∀ m σ H,W m σ H ->
 c σ H fun b H1=>if b=true then ∃ N:St->Hp->Prop,(∀ σ' H',N σ' H'->∃ m',m'<m/\W m' σ' H')/\tb { D with nx:=N,ct:=N,bk:=D.nx } σ H1 else D.nx σ H1
theorem fO {c:Expr} {body:List Stmt} {tc:TT} {tb:TS} (hp:PassesOwn (model X.prog X.w) X.A X.env X.xe) (hc:PT X c tc) (hb:PSs X body tb):PS X (.While c body [] pos) (By tc tb):=by
 intro pins s σ H D I h
 obtain ⟨W,⟨m0,w0⟩,turn⟩:=h
 refine wpAny_While (codeAny_whileLoop (fun n s'=>∃ σ' H',Inv X pins σ' H' s'/\W n σ' H') ?_ m0 ⟨σ,H,I,w0⟩)
 rintro n s1 ⟨σ1,H1,I1,w1⟩
 refine wpAny_passesOwn hp (thn (hc pins s1 σ1 H1 _ I1 (turn n σ1 H1 w1)) fun b s2 ⟨H2,I2,q2⟩=>?_)
 cases b with
 | true =>
   obtain ⟨N,hN,q2⟩:=q2
   rw [if_pos rfl]
   refine wpAny_passesOwn hp (thn (hb pins s2 σ1 H2 _ I2 q2) fun f s3 q3=>?_)
   cases f with
   | next =>
     obtain ⟨σ3,H3,I3,n3⟩:=q3
     obtain ⟨m',hm,w3⟩:=hN σ3 H3 n3
     exact ⟨m',hm,σ3,H3,I3,w3⟩
   | cont =>
     obtain ⟨σ3,H3,I3,n3⟩:=q3
     obtain ⟨m',hm,w3⟩:=hN σ3 H3 n3
     exact ⟨m',hm,σ3,H3,I3,w3⟩
   | brk=>exact q3
   | ret v=>exact q3
 | false =>
   rw [if_neg Bool.false_ne_true]
   exact wpAny_execs_nil ⟨σ1,H2,I2,q2⟩
end
structure It where
 go:Nat->Hp->Prop
 yld:Nat->Hp->V->Hp->Prop
 stop:Nat->Hp->Prop
def fI (X:Cx) (pins:List (Addr×Obj)) (H:Hp) (b:Addr):Prop :=
 H b=none/\b≠X.env.locals/\b∉X.fs/\(b∈X.ex\/X.s₀.heap.objs.size<=b)/\(∀ x c,X.env.cells.lookup x=some c->c≠b)/\∀ p∈X.pn++pins,p.1≠b
theorem Inv.fpOk {X:Cx} {pins:List (Addr×Obj)} {σ:St} {H H':Hp} {s:Shared} {b:Addr} (I:Inv X pins σ H s) (hb:s.heap.objs.size<=b) (hn:H' b=none):fI X pins H' b:=by
 refine ⟨hn,Nat.ne_of_gt (Nat.lt_of_lt_of_le I.lt hb),I.nofs hb,.inr (Nat.le_trans I.sz hb),fun x c e z=>?_,fun p hp z=>?_⟩
 ·obtain ⟨v,q⟩:=I.cell x c e
  exact absurd (Nat.lt_of_lt_of_le q.lt (by rw [z];exact hb)) (Nat.lt_irrefl _)
 ·exact absurd (Nat.lt_of_lt_of_le (Heap.lt_size (I.pin p hp).1) (by rw [z];exact hb)) (Nat.lt_irrefl _)
structure Turn (P:Program) (w:World) (K:PySem.W.Frag) (tg:Expr) (J:It) (fp:List Addr) (it:Addr) (tn:Nat->Heap->Prop):Prop where
 mem:it∈fp
 obj:∀ i h,tn i h->∀ b∈fp,∃ o,h.get? b=some o/\∀ v,o.data≠.cell v
 keep:∀ i h h',tn i h->(∀ b∈fp,∀ o,h.get? b=some o->h'.get? b=some o)->tn i h'
 item:∀ (X:Cx),X.prog=P->X.w=w->X.K=K->X.calm=true->∀ (i:Nat) (pins:List (Addr×Obj)) (s:Shared) (σ:St) (H:Hp) (E:Value->Shared->Prop),Inv X pins σ H s->(∀ b∈fp,fI X pins H b)->tn i s.heap->J.go i H ->
  wpAny (model P w) X.A (pyNext (.ref it)) (fun r s1=>∃ u,r=some u /\
   wpAny (model P w) X.A (letOwnedTupleGo tg (.ref it) u) (fun _ s2=>∃ x H',Inv X pins σ H' s2/\RelV x u/\J.yld i H x H'/\tn (i+1) s2.heap/\∀ b∈fp,H' b=none) E s1) E s
 done:∀ (X:Cx),X.prog=P->X.w=w->X.K=K->X.calm=true->∀ (i:Nat) (pins:List (Addr×Obj)) (s:Shared) (σ:St) (H:Hp) (E:Value->Shared->Prop),Inv X pins σ H s->(∀ b∈fp,fI X pins H b)->tn i s.heap->J.stop i H ->
  wpAny (model P w) X.A (pyNext (.ref it)) (fun r s1=>r=none/\Inv X pins σ H s1) E s
 self:∀ (A:Around) (i:Nat) (s:Shared) (Q:Value->Shared->Prop) (E:Value->Shared->Prop),tn i s.heap->Q (.ref it) s->wpAny (model P w) A (pyIter (.ref it)) Q E s
abbrev TI:=St->Hp->(It->Hp->Prop)->Prop
def PIE (X:Cx) (pins:List (Addr×Obj)) (σ:St) (tg:Expr) (R:It->Hp->Prop) (itv:Value) (s2:Shared):Prop :=
 ∃ (it:Addr) (fp:List Addr) (tn:Nat->Heap->Prop) (J:It) (H':Hp),itv=.ref it/\Inv X pins σ H' s2/\Turn X.prog X.w X.K tg J fp it tn/\tn 0 s2.heap/\(∀ b∈fp,fI X pins H' b)/\R J H'
def PI (X:Cx) (tg iter:Expr) (wi:TI):Prop :=
 ∀ (pins:List (Addr×Obj)) (s:Shared) (σ:St) (H:Hp) (R:It->Hp->Prop),Inv X pins σ H s->wi σ H R ->
   wpAny (model X.prog X.w) X.A (eval iter X.env) (fun v s1=>wpAny (model X.prog X.w) X.A (pyIter v) (PIE X pins σ tg R) X.xe s1) X.xe s
theorem lf {M:Model} {A:Around} {E:Value->Shared->Prop} {s:Shared} {tg:Expr} {it:Addr} {u:Value} {o:Obj} {n:String} {vs:Array Value} {Q:Unit->Shared->Prop} (ho:s.heap.get? it=some o) (hc:o.cls=.type n) (hd:o.data=.fields vs)
 (hn:["enumerate","zip","dict_itemiterator","dict_reverseitemiterator","odict_iterator","itertools.zip_longest","itertools.pairwise"].contains n=false) (hQ:Q () s):wpAny M A (letOwnedTupleGo tg (.ref it) u) Q E s:=by
 unfold letOwnedTupleGo
 cases tg<;>first
  | exact wpAny_pure hQ
  | (cases u<;>first
      | exact wpAny_pure hQ
      | (refine wpAny_bind (wpAny_load ho ?_)
         rw [hc,hd]
         show wpAny M A (if (["enumerate","zip","dict_itemiterator","dict_reverseitemiterator","odict_iterator","itertools.zip_longest","itertools.pairwise"].contains n&&vs[0]? == some (rawInt _))=true then _ else _) Q E s
         rw [if_neg (by intro h;rw [hn,Bool.false_and] at h;cases h)]
         exact wpAny_pure hQ))
def Itl (K:PySem.W.Frag) (a:Addr):It :=
 ⟨fun i H=>∃ xs x,SqL K H a xs/\xs[i]?=some x,fun i H x H'=>H'=H/\∀ xs,SqL K H a xs->xs[i]?=some x,fun i H=>∃ xs,SqL K H a xs/\xs.length<=i⟩
def Itt (K:PySem.W.Frag) (a:Addr):It :=
 ⟨fun i H=>∃ xs x,SqT K H a xs/\xs[i]?=some x,fun i H x H'=>H'=H/\∀ xs,SqT K H a xs->xs[i]?=some x,fun i H=>∃ xs,SqT K H a xs/\xs.length<=i⟩
def Itr (lo:Int) (n:Nat):It:=⟨fun i _=>i<n,fun i H x H'=>H'=H/\x=.int (lo+i),fun i _=>n<=i⟩
theorem Bi {P:Program} {w:World} {K:PySem.W.Frag} {tg:Expr} (a it:Addr):Turn P w K tg (Itl K a) [it] it (fun i h=>h.IsListIter it a i) where
 mem:=by simp
 obj:=fun i h st b hb=>by
  have e:b=it:=by simpa using hb
  subst e
  obtain ⟨o,e,c,d⟩:=st
  exact ⟨o,e,fun v z=>by rw [d] at z;cases z⟩
 keep:=fun i h h' st k=>st.at fun o e=>k it (by simp) o e
 item:=by
  intro X hP hw hK hc i pins s σ H E I hf st hg
  subst hP hw hK
  obtain ⟨xs,x,hq,hx⟩:=hg
  obtain ⟨its,rv,p,hz⟩:=I.list hq
  obtain ⟨u,hu,ru⟩:=rv.get hx
  obtain ⟨f0,f1,f2,f3,f4,f5⟩:=hf it (by simp)
  refine wpAny_pyNext_list_item st p.isList (x:=u) (by simpa using hu) fun h' st' sb=>?_
  have I1:Inv X pins σ H { s with heap:=h' }:=I.turned (t':=s.toks) (fun b o hb e=>(sb.2 b hb).trans e) f0 f1 f3 f4 f5
  obtain ⟨o,e,c,d⟩:=id st'
  exact ⟨u,rfl,lf (s:={ s with heap:=h' }) e c d (by decide) ⟨x,H,I1,ru,⟨rfl,fun ys hy=>by rw [I.list_inj hy hq];exact hx⟩,st',fun b hb=>(hf b hb).1⟩⟩
 done:=by
  intro X hP hw hK hc i pins s σ H E I hf st hg
  subst hP hw hK
  obtain ⟨xs,hq,hx⟩:=hg
  obtain ⟨its,rv,p,hz⟩:=I.list hq
  obtain ⟨f0,f1,f2,f3,f4,f5⟩:=hf it (by simp)
  have hl:=rv.length
  exact wpAny_pyNext_list_end (I.ok.hd hc) st p.isList (by simp;omega) fun h' eb=>⟨rfl,I.turned (t':=s.toks) (fun b o hb e=>eb b o hb e) f0 f1 f3 f4 f5⟩
 self:=fun _ _ _ _ _ st h=>wpAny_pyIter_listiter st h
theorem Be {P:Program} {w:World} {K:PySem.W.Frag} {tg:Expr} (a it:Addr):Turn P w K tg (Itt K a) [it] it (fun i h=>h.IsTupleIter it a i) where
 mem:=by simp
 obj:=fun i h st b hb=>by
  have e:b=it:=by simpa using hb
  subst e
  obtain ⟨o,e,c,d⟩:=st
  exact ⟨o,e,fun v z=>by rw [d] at z;cases z⟩
 keep:=fun i h h' st k=>st.at fun o e=>k it (by simp) o e
 item:=by
  intro X hP hw hK hc i pins s σ H E I hf st hg
  subst hP hw hK
  obtain ⟨xs,x,hq,hx⟩:=hg
  obtain ⟨its,rv,p,hz⟩:=I.tuple hq
  obtain ⟨u,hu,ru⟩:=rv.get hx
  obtain ⟨f0,f1,f2,f3,f4,f5⟩:=hf it (by simp)
  refine wpAny_pyNext_tuple_item st (show s.heap.IsTuple a its.toArray from p) (x:=u) (by simpa using hu) fun h' st' sb=>?_
  have I1:Inv X pins σ H { s with heap:=h' }:=I.turned (t':=s.toks) (fun b o hb e=>(sb.2 b hb).trans e) f0 f1 f3 f4 f5
  obtain ⟨o,e,c,d⟩:=id st'
  exact ⟨u,rfl,lf (s:={ s with heap:=h' }) e c d (by decide) ⟨x,H,I1,ru,⟨rfl,fun ys hy=>by rw [I.tuple_inj hy hq];exact hx⟩,st',fun b hb=>(hf b hb).1⟩⟩
 done:=by
  intro X hP hw hK hc i pins s σ H E I hf st hg
  subst hP hw hK
  obtain ⟨xs,hq,hx⟩:=hg
  obtain ⟨its,rv,p,hz⟩:=I.tuple hq
  obtain ⟨f0,f1,f2,f3,f4,f5⟩:=hf it (by simp)
  have hl:=rv.length
  exact wpAny_pyNext_tuple_end (I.ok.hd hc) st (show s.heap.IsTuple a its.toArray from p) (by simp;omega) fun h' eb=>⟨rfl,I.turned (t':=s.toks) (fun b o hb e=>eb b o hb e) f0 f1 f3 f4 f5⟩
 self:=fun _ _ _ _ _ st h=>wpAny_pyIter_tupleiter st h
theorem Bh {P:Program} {w:World} {K:PySem.W.Frag} {tg:Expr} (it:Addr) (lo:Int) (n:Nat):Turn P w K tg (Itr lo n) [it] it (fun i h=>IsRangeIter h it (lo+(i:Nat)*1) ((n:Int)-(i:Nat)) 1) where
 mem:=by simp
 obj:=fun i h st b hb=>by
  have e:b=it:=by simpa using hb
  subst e
  exact ⟨_,st,fun v z=>by
   have z':Data.fields _=Data.cell v:=z
   cases z'⟩
 keep:=fun i h h' st k=>k it (by simp) _ st
 item:=by
  intro X hP hw hK hc i pins s σ H E I hf st hg
  subst hP hw hK
  obtain ⟨f0,f1,f2,f3,f4,f5⟩:=hf it (by simp)
  have W:=Walks.range (prog:=X.prog) (w:=X.w) (I.ok.hd hc) it lo 1 n
  refine W.item i s _ _ hg st fun v h' tk hv st' kk=>?_
  obtain ⟨t,rfl⟩:=hv
  have I1:Inv X pins σ H { s with heap:=h',toks:=tk }:=I.turned (fun b o hb e=>kk b o (by simpa using hb) e) f0 f1 f3 f4 f5
  refine ⟨_,rfl,lf (s:={ s with heap:=h',toks:=tk }) (n:="range_iterator") st' rfl rfl (by decide) ⟨.int (lo+i),H,I1,⟨t,?_⟩,⟨rfl,rfl⟩,st',fun b hb=>(hf b hb).1⟩⟩
  rw [Int.mul_one]
 done:=by
  intro X hP hw hK hc i pins s σ H E I hf st hg
  subst hP hw hK
  obtain ⟨f0,f1,f2,f3,f4,f5⟩:=hf it (by simp)
  exact wpAny_pyNext_range_end (I.ok.hd hc) st (by have:n<=i:=hg;omega) fun h' eb=>⟨rfl,I.turned (t':=s.toks) (fun b o hb e=>eb b o hb e) f0 f1 f3 f4 f5⟩
 self:=fun _ _ _ _ _ st h=>wpAny_pyIter_rangeiter st h
end L2
namespace L2
open PySem PySem.Spec PyProof.Rows
section
variable {X:Cx} {tg:Expr}
def zg (K:PySem.W.Frag) (tl:TE):TI:=fun σ H R=>tl σ H fun x H1=>∃ a,x=.ref a/\(∃ xs,SqL K H1 a xs)/\R (Itl K a) H1
def zf (K:PySem.W.Frag) (tl:TE):TI:=fun σ H R=>tl σ H fun x H1=>∃ a,x=.ref a/\(∃ xs,SqT K H1 a xs)/\R (Itt K a) H1
theorem DO {l:Expr} {tl:TE} (hl:PE X l tl):PI X tg l (zg X.K tl):=by
 intro pins s σ H R I h
 refine thn (hl pins s σ H _ I h) fun v s1 ⟨x,H1,I1,r1,q1⟩=>?_
 obtain ⟨a,e,⟨xs,hq⟩,q⟩:=q1
 subst e
 cases r1
 obtain ⟨its,rv,p,hz⟩:=I1.list hq
 refine wpAny_pyIter_list p.isList ?_
 refine ⟨s1.heap.objs.size,[s1.heap.objs.size],_,_,H1,rfl,I1.kept (t':=s1.toks) fun b o e=>Heap.get?_push_of_some _ e,Bi a _,⟨_,Heap.get?_push_size _ rfl,rfl,rfl⟩,fun b hb=>?_,q⟩
 have e:b=s1.heap.objs.size:=by simpa using hb
 subst e
 exact I1.fpOk (Nat.le_refl _) (I1.hok.fresh (Nat.le_refl _))
theorem DM {l:Expr} {tl:TE} (hl:PE X l tl):PI X tg l (zf X.K tl):=by
 intro pins s σ H R I h
 refine thn (hl pins s σ H _ I h) fun v s1 ⟨x,H1,I1,r1,q1⟩=>?_
 obtain ⟨a,e,⟨xs,hq⟩,q⟩:=q1
 subst e
 cases r1
 obtain ⟨its,rv,p,hz⟩:=I1.tuple hq
 refine wpAny_pyIter_tuple (show s1.heap.IsTuple a its.toArray from p) ?_
 refine ⟨s1.heap.objs.size,[s1.heap.objs.size],_,_,H1,rfl,I1.kept (t':=s1.toks) fun b o e=>Heap.get?_push_of_some _ e,Be a _,⟨_,Heap.get?_push_size _ rfl,rfl,rfl⟩,fun b hb=>?_,q⟩
 have e:b=s1.heap.objs.size:=by simpa using hb
 subst e
 exact I1.fpOk (Nat.le_refl _) (I1.hok.fresh (Nat.le_refl _))
theorem xC {pins:List (Addr×Obj)} {σ:St} {H:Hp} {s:Shared} {R:It->Hp->Prop} {E:Value->Shared->Prop} {lo hi:Int} {t u v:Tok} {tk:Nat} (I:Inv X pins σ H s) (h1 : -(2^62)<=lo) (h2:lo<2^62) (h3 : -(2^62)<=hi) (h4:hi<2^62)
 (q:R (Itr lo (hi-lo).toNat) H):wpAny (model X.prog X.w) X.A (pyIter (.ref s.heap.objs.size)) (PIE X pins σ tg R) E { s with heap:=s.heap.push { cls:=.type "range",data:=.fields #[.int lo t,.int hi u,.int 1 v] },toks:=tk }:=by
 refine wpAny_pyIter_range (IsRange.new ..) (small_one h1 h2 h3 h4) ?_
 have I1:Inv X pins σ H { s with heap:=s.heap.push { cls:=.type "range",data:=.fields #[.int lo t,.int hi u,.int 1 v] },toks:=tk }:=I.kept fun b o e=>Heap.get?_push_of_some _ e
 refine ⟨(s.heap.push { cls:=.type "range",data:=.fields #[.int lo t,.int hi u,.int 1 v] }).objs.size,[(s.heap.push { cls:=.type "range",data:=.fields #[.int lo t,.int hi u,.int 1 v] }).objs.size],_,_,H,rfl,
  I1.kept (t':=tk) fun b o e=>Heap.get?_push_of_some _ e,Bh _ lo (hi-lo).toNat,?_,fun b hb=>?_,q⟩
 ·have e1:lo+((0:Nat):Int)*1=lo:=by simp
  have e2:(((hi-lo).toNat:Nat):Int)-((0:Nat):Int)=Builtin.Range.rangeSize lo hi 1:=by rw [rangeSize_one];split<;>omega
  show IsRangeIter _ _ (lo+((0:Nat):Int)*1) ((((hi-lo).toNat:Nat):Int)-((0:Nat):Int)) 1
  rw [e1,e2]
  exact Heap.get?_push_size _ rfl
 ·have e:b=(s.heap.push { cls:=.type "range",data:=.fields #[.int lo t,.int hi u,.int 1 v] }).objs.size:=by simpa using hb
  subst e
  exact I1.fpOk (Nat.le_refl _) (I1.hok.fresh (Nat.le_refl _))
def Hy (ta:TA):TI:=fun σ H R=>ta σ H fun vs H1=>∃ j:Int,vs=[.int j] /\ -(2^62)<=j/\j<2^62/\R (Itr 0 j.toNat) H1
def Hx (ta:TA):TI:=fun σ H R=>ta σ H fun vs H1=>∃ i j:Int,vs=[.int i,.int j]/\(-(2^62)<=i/\i<2^62 /\ -(2^62)<=j/\j<2^62)/\R (Itr i (j-i).toNat) H1
theorem jy {a:Expr} {ta:TA} {p pos:Pos} (hg:Gl X "range") (hm:X.mg "range"=none) (ha:PA X [a] ta) (hs:starEach [a] X.env=[(false,eval a X.env)]:=by rfl):PI X tg (.Call (.Name "range" p) [a] [] pos) (Hy ta):=by
 intro pins s σ H R I h
 refine Call_ (f6 I hg hm boot_range (PyProof.Rows.callWith_type1 (thn (ha pos pins s σ H _ I h) fun us s1 ⟨vs,H1,I1,r1,q1⟩=>?_) hs rfl))
 obtain ⟨j,e,q1,q2,q⟩:=q1
 subst e
 cases r1 with
 | cons r rr =>
   cases rr
   obtain ⟨t,rfl⟩:=r
   exact call_range_1 (xC I1 (by omega) (by omega) q1 q2 (by simpa using q))
theorem DN {a b:Expr} {ta:TA} {p pos:Pos} (hg:Gl X "range") (hm:X.mg "range"=none) (ha:PA X [a,b] ta) (hs:starEach [a,b] X.env=[(false,eval a X.env),(false,eval b X.env)]:=by rfl) (hs2:starEach [b] X.env=[(false,eval b X.env)]:=by rfl) :
 PI X tg (.Call (.Name "range" p) [a,b] [] pos) (Hx ta):=by
 intro pins s σ H R I h
 refine Call_ (f6 I hg hm boot_range (PyProof.Rows.callWith_type1 (thn (ha pos pins s σ H _ I h) fun us s1 ⟨vs,H1,I1,r1,q1⟩=>?_) (by rw [hs,hs2]) (by rw [hs2];rfl)))
 obtain ⟨i,j,e,⟨q1,q2,q3,q4⟩,q⟩:=q1
 subst e
 cases r1 with
 | cons r rr =>
   cases rr with
   | cons r' rr =>
     cases rr
     obtain ⟨t,rfl⟩:=r
     obtain ⟨t',rfl⟩:=r'
     exact call_range_2 (xC I1 q1 q2 q3 q4 q)
def BG (wi:TI) (g:TG) (tb:TS):TS:=fun D σ H=>wi σ H fun J H1=>∃ W:Nat->Nat->St->Hp->Prop,(∃ m,W 0 m σ H1)/\∀ i m σ H,W i m σ H ->
 (J.stop i H/\D.nx σ H)\/(J.go i H/\∃ N:St->Hp->Prop,(∀ σ' H',N σ' H'->∃ m',m'<m/\W (i+1) m' σ' H')/\∀ x H',J.yld i H x H'->g x σ H' fun σ2 H2=>tb { D with nx:=N,ct:=N,bk:=D.nx } σ2 H2)
def nj (fp:List Addr) (h:Heap):List (Addr×Obj):=fp.filterMap fun b=>(h.get? b).map fun o=>(b,o)
theorem nF {fp:List Addr} {h:Heap} {b:Addr} {o:Obj} (hb:b∈fp) (e:h.get? b=some o):(b,o)∈nj fp h:=List.mem_filterMap.mpr ⟨b,hb,by rw [e];rfl⟩
theorem Fm {fp:List Addr} {h:Heap} {p:Addr×Obj} (hp:p∈nj fp h):p.1∈fp/\h.get? p.1=some p.2:=by
 obtain ⟨b,hb,e⟩:=List.mem_filterMap.mp hp
 cases q:h.get? b with
 | none=>rw [q] at e;cases e
 | some o =>
   rw [q] at e
   have e':(b,o)=p:=Option.some.inj e
   subst e'
   exact ⟨hb,q⟩
theorem Inv.pinned {pins:List (Addr×Obj)} {σ:St} {H:Hp} {s:Shared} {fp:List Addr} (I:Inv X pins σ H s) (hf:∀ b∈fp,fI X pins H b) (ho:∀ b∈fp,∃ o,s.heap.get? b=some o/\∀ v,o.data≠.cell v):Inv X (pins++nj fp s.heap) σ H s :=
 I.pins_of fun p hp=>(List.mem_append.mp hp).elim (fun z=>I.pin p (List.mem_append_right _ z)) fun z=>by
  obtain ⟨hb,e⟩:=Fm z
  obtain ⟨f0,f1,f2,_⟩:=hf p.1 hb
  obtain ⟨o,e',d⟩:=ho p.1 hb
  rw [e] at e';cases e'
  exact ⟨e,f0,f1,f2,d⟩
theorem Inv.unpinned {pins pl:List (Addr×Obj)} {σ:St} {H:Hp} {s:Shared} (I:Inv X (pins++pl) σ H s):Inv X pins σ H s:=I.pins_of fun p hp=>I.pin p (List.mem_append_right _ (List.mem_append_left _ hp))
theorem cZ {iter:Expr} {body:List Stmt} {wi:TI} {g:TG} {tb:TS} {pos:Pos} (hp:PassesOwn (model X.prog X.w) X.A X.env X.xe) (hc:X.calm=true) (hi:PI X tg iter wi) (hg:PG X tg g) (hb:PSs X body tb)
 (hs:∀ x,foldedSetIterable iter X.env x=pure x:=by intro _;rfl):PS X (.For tg iter body [] pos) (BG wi g tb):=by
 intro pins s σ H D I h
 refine wpAny_For (thn (hi pins s σ H _ I h) fun v s1 h1=>thn h1 fun itv s2 h2=>?_) hs
 obtain ⟨it,fp,tn,J,H2,e,I2,T,st2,f2,W,⟨m0,w0⟩,turn⟩:=h2
 subst e
 have stat:∀ {H':Hp},(∀ b∈fp,H' b=none)->∀ b∈fp,fI X pins H' b:=fun hn b hb=>⟨hn b hb,(f2 b hb).2⟩
 refine codeAny_forLoop_any (fun n s'=>∃ i σ' H',Inv X pins σ' H' s'/\tn i s'.heap/\(∀ b∈fp,H' b=none)/\W i n σ' H') ?_ m0 ⟨0,σ,H2,I2,st2,fun b hb=>(f2 b hb).1,w0⟩
 rintro n s3 ⟨i,σ3,H3,I3,st3,fr3,w3⟩
 rcases turn i n σ3 H3 w3 with ⟨stop,qn⟩ | ⟨go,N,hN,step⟩
 ·refine wpAny_passesOwn hp (thn (T.done X rfl rfl rfl hc i pins s3 σ3 H3 X.xe I3 (stat fr3) st3 stop) fun r s4 ⟨hr,I4⟩=>?_)
  subst hr
  exact wpAny_execs_nil ⟨σ3,H3,I4,qn⟩
 ·refine wpAny_passesOwn hp (thn (T.item X rfl rfl rfl hc i pins s3 σ3 H3 X.xe I3 (stat fr3) st3 go) fun r s4 ⟨u,hr,h4⟩=>?_)
  subst hr
  refine wpAny_passesOwn hp (thn h4 fun _ s5 ⟨x,H5,I5,r5,y5,st5,fr5⟩=>?_)
  have I5':=I5.pinned (stat fr5) (T.obj _ _ st5)
  refine wpAny_passesOwn hp (thn (hg _ s5 σ3 H5 x u _ I5' r5 (step x H5 y5)) fun _ s6 ⟨σ6,H6,I6,q6⟩=>?_)
  refine wpAny_passesOwn hp (thn (hb _ s6 σ6 H6 _ I6 q6) fun f s7 q7=>?_)
  have again:∀ {σ7:St} {H7:Hp},Inv X (pins++nj fp s5.heap) σ7 H7 s7->N σ7 H7->∃ m,m<n/\∃ i σ' H',Inv X pins σ' H' s7/\tn i s7.heap/\(∀ b∈fp,H' b=none)/\W i m σ' H':=fun {σ7 H7} I7 n7=>by
   obtain ⟨m',hm,w7⟩:=hN σ7 H7 n7
   refine ⟨m',hm,i+1,σ7,H7,I7.unpinned,T.keep _ _ _ st5 fun b hb o e=>(I7.pin (b,o) (List.mem_append_right _ (List.mem_append_right _ (nF hb e)))).1,fun b hb=>?_,w7⟩
   obtain ⟨o,e,d⟩:=T.obj _ _ st5 b hb
   exact (I7.pin (b,o) (List.mem_append_right _ (List.mem_append_right _ (nF hb e)))).2.1
  cases f with
  | next=>obtain ⟨σ7,H7,I7,n7⟩:=q7;exact again I7 n7
  | cont=>obtain ⟨σ7,H7,I7,n7⟩:=q7;exact again I7 n7
  | brk=>obtain ⟨σ7,H7,I7,q7⟩:=q7;exact ⟨σ7,H7,I7.unpinned,q7⟩
  | ret v=>obtain ⟨x7,σ7,H7,I7,r7,q7⟩:=q7;exact ⟨x7,σ7,H7,I7.unpinned,r7,q7⟩
end
theorem n6 {K:PySem.W.Frag} {a:Addr} {xs:List V} {g:TG} {tb:TS} {D:Ends} {σ:St} {H:Hp} (Pv:Nat->St->Hp->Prop) (h0:Pv 0 σ H) (hl:∀ i σ H,i<=xs.length->Pv i σ H->SqL K H a xs)
 (hs:∀ i x σ H,xs[i]?=some x->Pv i σ H->g x σ H fun σ2 H2=>tb { D with nx:=Pv (i+1),ct:=Pv (i+1),bk:=D.nx } σ2 H2) (hd:∀ σ H,Pv xs.length σ H->D.nx σ H) :
 ∃ W:Nat->Nat->St->Hp->Prop,(∃ m,W 0 m σ H)/\∀ i m σ H,W i m σ H ->
   ((Itl K a).stop i H/\D.nx σ H)\/((Itl K a).go i H/\∃ N:St->Hp->Prop,(∀ σ' H',N σ' H'->∃ m',m'<m/\W (i+1) m' σ' H')/\∀ x H',(Itl K a).yld i H x H'->g x σ H' fun σ2 H2=>tb { D with nx:=N,ct:=N,bk:=D.nx } σ2 H2):=by
 refine ⟨fun i m σ H=>m=xs.length-i/\i<=xs.length/\Pv i σ H,⟨xs.length,by simp,Nat.zero_le _,h0⟩,?_⟩
 rintro i m σ H ⟨rfl,hi,p⟩
 have q:=hl i σ H hi p
 by_cases hlt:i<xs.length
 ·refine .inr ⟨⟨xs,xs[i],q,by simp [hlt]⟩,Pv (i+1),fun σ' H' p'=>⟨xs.length-(i+1),by omega,rfl,hlt,p'⟩,fun x H' y=>?_⟩
  obtain ⟨e,y⟩:=y
  subst e
  exact hs i x σ _ (y xs q) p
 ·have e:i=xs.length:=by omega
  subst e
  exact .inl ⟨⟨xs,q,Nat.le_refl _⟩,hd σ H p⟩
theorem HZ {K:PySem.W.Frag} {a:Addr} {xs:List V} {g:TG} {tb:TS} {D:Ends} {σ:St} {H:Hp} (Pv:Nat->St->Hp->Prop) (h0:Pv 0 σ H) (hl:∀ i σ H,i<=xs.length->Pv i σ H->SqT K H a xs)
 (hs:∀ i x σ H,xs[i]?=some x->Pv i σ H->g x σ H fun σ2 H2=>tb { D with nx:=Pv (i+1),ct:=Pv (i+1),bk:=D.nx } σ2 H2) (hd:∀ σ H,Pv xs.length σ H->D.nx σ H) :
 ∃ W:Nat->Nat->St->Hp->Prop,(∃ m,W 0 m σ H)/\∀ i m σ H,W i m σ H ->
   ((Itt K a).stop i H/\D.nx σ H)\/((Itt K a).go i H/\∃ N:St->Hp->Prop,(∀ σ' H',N σ' H'->∃ m',m'<m/\W (i+1) m' σ' H')/\∀ x H',(Itt K a).yld i H x H'->g x σ H' fun σ2 H2=>tb { D with nx:=N,ct:=N,bk:=D.nx } σ2 H2):=by
 refine ⟨fun i m σ H=>m=xs.length-i/\i<=xs.length/\Pv i σ H,⟨xs.length,by simp,Nat.zero_le _,h0⟩,?_⟩
 rintro i m σ H ⟨rfl,hi,p⟩
 have q:=hl i σ H hi p
 by_cases hlt:i<xs.length
 ·refine .inr ⟨⟨xs,xs[i],q,by simp [hlt]⟩,Pv (i+1),fun σ' H' p'=>⟨xs.length-(i+1),by omega,rfl,hlt,p'⟩,fun x H' y=>?_⟩
  obtain ⟨e,y⟩:=y
  subst e
  exact hs i x σ _ (y xs q) p
 ·have e:i=xs.length:=by omega
  subst e
  exact .inl ⟨⟨xs,q,Nat.le_refl _⟩,hd σ H p⟩
theorem n5 {lo:Int} {n:Nat} {g:TG} {tb:TS} {D:Ends} {σ:St} {H:Hp} (Pv:Nat->St->Hp->Prop) (h0:Pv 0 σ H)
 (hs:∀ i σ H,i<n->Pv i σ H->g (.int (lo+i)) σ H fun σ2 H2=>tb { D with nx:=Pv (i+1),ct:=Pv (i+1),bk:=D.nx } σ2 H2) (hd:∀ σ H,Pv n σ H->D.nx σ H) :
 ∃ W:Nat->Nat->St->Hp->Prop,(∃ m,W 0 m σ H)/\∀ i m σ H,W i m σ H ->
   ((Itr lo n).stop i H/\D.nx σ H)\/((Itr lo n).go i H/\∃ N:St->Hp->Prop,(∀ σ' H',N σ' H'->∃ m',m'<m/\W (i+1) m' σ' H')/\∀ x H',(Itr lo n).yld i H x H'->g x σ H' fun σ2 H2=>tb { D with nx:=N,ct:=N,bk:=D.nx } σ2 H2):=by
 refine ⟨fun i m σ H=>m=n-i/\i<=n/\Pv i σ H,⟨n,by simp,Nat.zero_le _,h0⟩,?_⟩
 rintro i m σ H ⟨rfl,hi,p⟩
 by_cases hlt:i<n
 ·refine .inr ⟨hlt,Pv (i+1),fun σ' H' p'=>⟨n-(i+1),by omega,rfl,hlt,p'⟩,fun x H' y=>?_⟩
  obtain ⟨e,y⟩:=y
  subst e y
  exact hs i σ _ hlt p
 ·have e:i=n:=by omega
  subst e
  exact .inl ⟨Nat.le_refl _,hd σ H p⟩
end L2
namespace L2
open PySem PySem.Spec PyProof.Rows
abbrev R2:=V->V->Hp->VK->Prop
def OpR (X:Cx) (f:Value->Value->Sem Value) (r:R2):Prop :=
 ∀ (pins:List (Addr×Obj)) (s:Shared) (σ:St) (H:Hp) (x y:V) (v u:Value) (Q:VK),Inv X pins σ H s->RelV x v->RelV y u->r x y H Q ->
   wpAny (model X.prog X.w) X.A (f v u) (EP X pins σ Q) X.xe s
def UnR (X:Cx) (f:Value->Sem Value) (r:V->Hp->VK->Prop):Prop :=
 ∀ (pins:List (Addr×Obj)) (s:Shared) (σ:St) (H:Hp) (x:V) (v:Value) (Q:VK),Inv X pins σ H s->RelV x v->r x H Q ->
   wpAny (model X.prog X.w) X.A (f v) (EP X pins σ Q) X.xe s
def CallR (X:Cx) (f:Value) (r:List V->Hp->VK->Prop):Prop :=
 ∀ (pins:List (Addr×Obj)) (s:Shared) (σ:St) (H:Hp) (xs:List V) (us:List Value) (Q:VK),Inv X pins σ H s->Vals xs us->r xs H Q ->
   wpAny (model X.prog X.w) X.A (call f us) (EP X pins σ Q) X.xe s
def K9 (X:Cx) (r:V->Hp->(Bool->Hp->Prop)->Prop):Prop :=
 ∀ (pins:List (Addr×Obj)) (s:Shared) (σ:St) (H:Hp) (x:V) (v:Value) (Q:Bool->Hp->Prop),Inv X pins σ H s->RelV x v->r x H Q ->
   wpAny (model X.prog X.w) X.A (truthy v) (TP X pins σ Q) X.xe s
def tOp (r:R2) (ta tb:TE):TE:=fun σ H Q=>ta σ H fun x H1=>tb σ H1 fun y H2=>r x y H2 Q
def tUn (r:V->Hp->VK->Prop) (ta:TE):TE:=fun σ H Q=>ta σ H fun x H1=>r x H1 Q
def rI (C:Int->Int->Prop) (g:Int->Int->V):R2:=fun x y H Q=>∃ i j,x=.int i/\y=.int j/\C i j/\Q (g i j) H
def rI0 (g:Int->Int->V):R2:=fun x y H Q=>∃ i j,x=.int i/\y=.int j/\Q (g i j) H
def rU (g:Int->V):V->Hp->VK->Prop:=fun x H Q=>∃ i,x=.int i/\Q (g i) H
section
variable {X:Cx} {a b c:Expr} {ta tb tc:TE} {pos:Pos}
theorem ub (ha:PE X a ta) (hb:PE X b tb) {pins:List (Addr×Obj)} {s:Shared} {σ:St} {H:Hp} {R:V->V->Hp->Prop} (I:Inv X pins σ H s)
 (h:ta σ H fun x H1=>tb σ H1 fun y H2=>R x y H2) {Q:Value->Shared->Prop} {f:Value->Value->Sem Value}
 (hf:∀ v u s2 x y H2,Inv X pins σ H2 s2->RelV x v->RelV y u->R x y H2->wpAny (model X.prog X.w) X.A (f v u) Q X.xe s2) :
 wpAny (model X.prog X.w) X.A (eval a X.env) (fun v s₁=>wpAny (model X.prog X.w) X.A (eval b X.env) (fun u s₂=>wpAny (model X.prog X.w) X.A (f v u) Q X.xe s₂) X.xe s₁) X.xe s:=by
 refine thn (ha pins s σ H _ I h) fun v s1 ⟨x,H1,I1,r1,q1⟩=>?_
 refine thn (hb pins s1 σ H1 _ I1 q1) fun u s2 ⟨y,H2,I2,r2,q2⟩=>?_
 exact hf v u s2 x y H2 I2 r1 r2 q2
theorem ai {op:Operator} {r:R2} (ho:OpR X (binaryOp op) r) (ha:PE X a ta) (hb:PE X b tb):PE X (.BinOp a op b pos) (tOp r ta tb):=by
 intro pins s σ H Q I h
 exact wpAny_BinOp (ub ha hb I h fun v u s2 x y H2 I2 rx ry q=>ho pins s2 σ H2 x y v u Q I2 rx ry q)
theorem bQ {op:UnaryOp} {r:V->Hp->VK->Prop} (ho:UnR X (unaryOp op) r) (ha:PE X a ta):PE X (.UnaryOp op a pos) (tUn r ta):=by
 intro pins s σ H Q I h
 exact UnaryOp_ (thn (ha pins s σ H _ I h) fun v s1 ⟨x,H1,I1,r1,q1⟩=>ho pins s1 σ H1 x v Q I1 r1 q1)
theorem opI {f:Value->Value->Sem Value} {C:Int->Int->Prop} {g:Int->Int->Int}
 (rule:∀ (i j:Int) (t u:Tok) (s:Shared) (Q:Value->Shared->Prop) (E:Value->Shared->Prop),C i j->Q (.int (g i j) s.toks) { s with toks:=s.toks+1 }->wpAny (model X.prog X.w) X.A (f (.int i t) (.int j u)) Q E s) :
 OpR X f (rI C fun i j=>.int (g i j)):=by
 intro pins s σ H x y v u Q I rx ry h
 obtain ⟨i,j,rfl,rfl,hc,q⟩:=h
 obtain ⟨t,rfl⟩:=rx
 obtain ⟨t',rfl⟩:=ry
 exact rule i j t t' s _ _ hc ⟨.int (g i j),H,I.tok _,⟨_,rfl⟩,q⟩
theorem ya {f:Value->Value->Sem Value} {g:Int->Int->Int}
 (rule:∀ (i j:Int) (t u:Tok) (s:Shared) (Q:Value->Shared->Prop) (E:Value->Shared->Prop),Q (.int (g i j) s.toks) { s with toks:=s.toks+1 }->wpAny (model X.prog X.w) X.A (f (.int i t) (.int j u)) Q E s) :
 OpR X f (rI0 fun i j=>.int (g i j)):=by
 intro pins s σ H x y v u Q I rx ry h
 obtain ⟨i,j,rfl,rfl,q⟩:=h
 obtain ⟨t,rfl⟩:=rx
 obtain ⟨t',rfl⟩:=ry
 exact rule i j t t' s _ _ ⟨.int (g i j),H,I.tok _,⟨_,rfl⟩,q⟩
theorem jC {f:Value->Value->Sem Value} {g:Int->Int->Bool}
 (rule:∀ (i j:Int) (t u:Tok) (s:Shared) (Q:Value->Shared->Prop) (E:Value->Shared->Prop),Q (.bool (g i j)) s->wpAny (model X.prog X.w) X.A (f (.int i t) (.int j u)) Q E s) :
 OpR X f (rI0 fun i j=>.bl (g i j)):=by
 intro pins s σ H x y v u Q I rx ry h
 obtain ⟨i,j,rfl,rfl,q⟩:=h
 obtain ⟨t,rfl⟩:=rx
 obtain ⟨t',rfl⟩:=ry
 exact rule i j t t' s _ _ ⟨.bl (g i j),H,I,rfl,q⟩
def MB (i j:Int):Prop:=0<=j/\j<=1000000/\i.natAbs<2^64
def CMul (i j:Int):Prop:=(-(2^64)<i/\i<2^64)\/(-(2^64)<j/\j<2^64)
theorem CMul.ok {i j:Int} (h:CMul i j):IntMulOk i j:=by
 rcases h with ⟨h1,h2⟩ | ⟨h1,h2⟩
 ·exact .of_left (intBits_le_64 h1 h2)
 ·exact .of_right (intBits_le_64 h1 h2)
theorem bj:OpR X (binaryOp .Add) (rI0 fun i j=>.int (i+j)):=ya fun _ _ _ _ _ _ _ q=>add_int q
theorem b7:OpR X (binaryOp .Sub) (rI0 fun i j=>.int (i-j)):=ya fun _ _ _ _ _ _ _ q=>sub_int q
theorem DZ:OpR X (binaryOp .Mod) (rI (fun _ j=>0<j) fun i j=>.int (i%j)):=opI fun i j _ _ _ _ _ hc q=>by
 have h1:(0:Int)<j:=hc
 exact mod_int' (by omega) (by rw [Int.fmod_eq_emod_of_nonneg i (by omega)];exact q)
theorem jz:OpR X (binaryOp .Pow) (rI MB fun i j=>.int (i^j.toNat)):=opI fun _ _ _ _ _ _ _ hc q=>pow_int_small hc.1 hc.2.1 hc.2.2 q
theorem unI {f:Value->Sem Value} {g:Int->Int}
 (rule:∀ (i:Int) (t:Tok) (s:Shared) (Q:Value->Shared->Prop) (E:Value->Shared->Prop),Q (.int (g i) s.toks) { s with toks:=s.toks+1 }->wpAny (model X.prog X.w) X.A (f (.int i t)) Q E s) :
 UnR X f (rU fun i=>.int (g i)):=by
 intro pins s σ H x v Q I rx h
 obtain ⟨i,rfl,q⟩:=h
 obtain ⟨t,rfl⟩:=rx
 exact rule i t s _ _ ⟨.int (g i),H,I.tok _,⟨_,rfl⟩,q⟩
theorem bM:UnR X (unaryOp .USub) (rU fun i=>.int (-i)):=unI fun _ _ _ _ _ q=>neg_int q
end
section
variable {X:Cx} {a b c:Expr} {ta tb tc:TE} {pos:Pos}
theorem Ia {pins:List (Addr×Obj)} {σ:St} {H:Hp} {s:Shared} {Q:VK} {k k':Bool} (I:Inv X pins σ H s) (q:Q (.bl k) H) (e:k=k'):EP X pins σ Q (.bool k') s:=by
 subst e
 exact ⟨.bl k,H,I,rfl,q⟩
theorem c7:OpR X (compareOp .Lt) (rI0 fun i j=>.bl (decide (i<j))):=jC fun _ _ _ _ _ _ _ q=>lt_int q
theorem rj:OpR X (compareOp .LtE) (rI0 fun i j=>.bl (decide (i<=j))):=jC fun _ _ _ _ _ _ _ q=>le_int q
theorem dj:OpR X (compareOp .Gt) (rI0 fun i j=>.bl (decide (j<i))):=jC fun _ _ _ _ _ _ _ q=>gt_int q
theorem np:OpR X (compareOp .GtE) (rI0 fun i j=>.bl (decide (j<=i))):=jC fun _ _ _ _ _ _ _ q=>ge_int q
theorem x8:OpR X (compareOp .Is) (fun x y H Q=>y=.non/\Q (.bl (decide (x=.non))) H):=by
 intro pins s σ H x y v u Q I rx ry h
 obtain ⟨rfl,q⟩:=h
 cases ry
 refine is_none_gen (Ia I q ?_)
 cases x<;>first
  | (cases rx;rfl)
  | (obtain ⟨t,rfl⟩:=rx;rfl)
theorem OpR.or {f:Value->Value->Sem Value} {r r':R2} (h:OpR X f r) (h':OpR X f r'):OpR X f (fun x y H Q=>r x y H Q\/r' x y H Q):=by
 intro pins s σ H x y v u Q I rx ry q
 rcases q with q | q
 ·exact h pins s σ H x y v u Q I rx ry q
 ·exact h' pins s σ H x y v u Q I rx ry q
theorem aE (b:Expr) {op:CmpOp} (h:op≠.In:=by decide) (h2:op≠.NotIn:=by decide):behindInMarks op b=false:=by
 have e1:(op == CmpOp.In)=false:=by cases op<;>first | rfl | exact absurd rfl h
 have e2:(op == CmpOp.NotIn)=false:=by cases op<;>first | rfl | exact absurd rfl h2
 cases b<;>simp [behindInMarks,e1,e2]
theorem fS {op:CmpOp} {r:R2} (ho:OpR X (compareOp op) r) (ha:PE X a ta) (hb:PE X b tb) (hm:behindInMarks op b=false):PE X (.Compare a [op] [b] pos) (tOp r ta tb):=by
 intro pins s σ H Q I h
 exact wpAny_Compare1 (ub ha hb I h fun v u s2 x y H2 I2 rx ry q=>ho pins s2 σ H2 x y v u Q I2 rx ry q) hm
def BA (t:TE):TT:=fun σ H Q=>t σ H fun x H'=>∃ k,x=.bl k/\Q k H'
theorem aH {op:CmpOp} {r:R2} (ho:OpR X (compareOp op) r) (ha:PE X a ta) (hb:PE X b tb) (hm:behindInMarks op b=false):PT X (.Compare a [op] [b] pos) (BA (tOp r ta tb)):=by
 intro pins s σ H Q I h
 refine wpAny_isTrue_Compare1 (thn (ha pins s σ H _ I h) fun v s1 ⟨x,H1,I1,r1,q1⟩=>thn (hb pins s1 σ H1 _ I1 q1) fun u s2 ⟨y,H2,I2,r2,q2⟩ =>
  thn (ho pins s2 σ H2 x y v u _ I2 r1 r2 q2) fun c s3 ⟨z,H3,I3,r3,k,e,q3⟩=>?_) hm
 subst e
 cases r3
 exact wpAny_truthy_bool ⟨H3,I3,q3⟩
def AQ (K:PySem.W.Frag) (x:V) (H:Hp) (k:Bool):Prop :=
 match x with
 | .non=>k=false
 | .bl b=>k=b
 | .int i=>k=(i != 0)
 | .str y=>y.length<=sizeLine/\k=((y.length:Int) != 0)
 | .byt y=>y.size<=sizeLine/\k=((y.size:Int) != 0)
 | .ref p=>(∃ xs,SqL K H p xs/\k=!xs.isEmpty)\/(∃ xs,SqT K H p xs/\k=!xs.isEmpty)\/∃ kvs,H p=some (.dK kvs)/\k=!kvs.isEmpty
 | _=>False
theorem Ht {κ:Type} {kvs:List (κ×V)} {vs:List (κ×Value)} (r:KV kvs vs):(!vs.isEmpty)=!kvs.isEmpty:=by
 cases r<;>rfl
theorem zb {xs:List V} {its:List Value} (r:Vals xs its):(!its.toArray.isEmpty)=!xs.isEmpty:=by
 cases r<;>simp
theorem kU:(sizeLine:Nat)<2^63:=by rw [sizeLine_eq];decide
theorem Bk:K9 X (fun x H Q=>∃ k,AQ X.K x H k/\Q k H):=by
 intro pins s σ H x v Q I rx h
 obtain ⟨k,e,q⟩:=h
 have hl:=kU
 have hs:sizeLine=16777216:=sizeLine_eq
 cases x with
 | non =>
   cases rx
   have e':k=false:=e
   subst e'
   exact truthy_none ⟨H,I,q⟩
 | bl b =>
   cases rx
   have e':k=b:=e
   subst e'
   exact wpAny_truthy_bool ⟨H,I,q⟩
 | int i =>
   obtain ⟨t,rfl⟩:=rx
   have e':k=(i != 0):=e
   subst e'
   exact PySem.P.truthy_int ⟨H,I,q⟩
 | str y =>
   obtain ⟨t,rfl⟩:=rx
   obtain ⟨hy,e'⟩:y.length<=sizeLine/\k=((y.length:Int) != 0):=e
   subst e'
   exact PySem.P.truthy_str (by omega) ⟨H,I.tok _,q⟩
 | byt y =>
   obtain ⟨t,rfl⟩:=rx
   obtain ⟨hy,e'⟩:y.size<=sizeLine/\k=((y.size:Int) != 0):=e
   subst e'
   exact PySem.W.truthy_bytes (by omega) ⟨H,I.tok _,q⟩
 | ref p =>
   cases rx
   have e':(∃ xs,SqL X.K H p xs/\k=!xs.isEmpty)\/(∃ xs,SqT X.K H p xs/\k=!xs.isEmpty)\/∃ kvs,H p=some (.dK kvs)/\k=!kvs.isEmpty:=e
   rcases e' with ⟨xs,hx,e'⟩ | ⟨xs,hx,e'⟩ | ⟨kvs,hx,e'⟩
   ·subst e'
    obtain ⟨its,r,pl,hz⟩:=I.list hx
    have hlen:=r.length
    exact wpAny_truthy_list pl.isList (by simp only [List.size_toArray];omega) ⟨H,I.tok _,by rw [zb r];exact q⟩
   ·subst e'
    obtain ⟨its,r,pl,hz⟩:=I.tuple hx
    have hlen:=r.length
    exact truthy_tuple pl (by simp only [List.size_toArray];omega) ⟨H,I.tok _,by rw [zb r];exact q⟩
   ·subst e'
    obtain ⟨hz,hS,vs,r,m⟩:kvs.length<=sizeLine/\(p == sysModules)=false/\∃ vs,KV kvs vs/\s.heap.DictOf (rJ X.prog X.w) p vs:=I.hok p _ hx
    have hlen:kvs.length=vs.length:=Paired.length r
    exact wpAny_truthy_dict hS m (by omega) ⟨H,I.tok _,by rw [Ht r];exact q⟩
 | _=>exact (show False from e).elim
theorem Dz (ha:PE X a ta) (he:∀ whole,isTrue a X.env whole=(do let v <- whole;standAt a.pos;holding [v] (truthy v))) :
 PT X a (fun σ H Q=>ta σ H fun x H'=>∃ k,AQ X.K x H' k/\Q k H'):=by
 intro pins s σ H Q I h
 exact isTrue_plain (thn (ha pins s σ H _ I h) fun v s1 ⟨x,H1,I1,r1,q1⟩=>Bk pins s1 σ H1 x v Q I1 r1 q1) (he _)
theorem gB {x:V} {us:List Value} (r:Vals [x] us):∃ u,us=[u]/\RelV x u:=by
 cases r with
 | cons r1 r2=>cases r2;exact ⟨_,rfl,r1⟩
theorem A9 {x y:V} {us:List Value} (r:Vals [x,y] us):∃ u w',us=[u,w']/\RelV x u/\RelV y w':=by
 cases r with
 | cons r1 r2 =>
   cases r2 with
   | cons r3 r4=>cases r4;exact ⟨_,_,rfl,r1,r3⟩
theorem gn:CallR X (.builtin "abs") (fun xs H Q=>∃ i,xs=[.int i]/\Q (.int (if i<0 then -i else i)) H):=by
 intro pins s σ H xs us Q I r h
 obtain ⟨i,rfl,q⟩:=h
 obtain ⟨u,rfl,t,rfl⟩:=gB r
 exact call_abs_int fun u tk=>⟨.int (if i<0 then -i else i),H,I.tok _,⟨_,rfl⟩,q⟩
theorem As (hc:X.calm=true):CallR X (.builtin "max") (fun xs H Q=>∃ i j,xs=[.int i,.int j]/\Q (.int (if j>i then j else i)) H):=by
 intro pins s σ H xs us Q I r h
 obtain ⟨i,j,rfl,q⟩:=h
 obtain ⟨u,w',rfl,⟨t,rfl⟩,⟨t',rfl⟩⟩:=A9 r
 refine max_two_ints (I.ok.hd hc) fun h' tk k=>⟨_,H,I.kept k,?_,q⟩
 by_cases hj:j>i
 ·rw [if_pos hj,if_pos hj];exact ⟨_,rfl⟩
 ·rw [if_neg hj,if_neg hj];exact ⟨_,rfl⟩
theorem ou:CallR X (.type "int") (fun xs H Q=>(∃ i,xs=[.int i]/\Q (.int i) H)\/∃ k,xs=[.bl k]/\Q (.int (if k then 1 else 0)) H):=by
 intro pins s σ H xs us Q I r h
 rcases h with ⟨i,rfl,q⟩ | ⟨k,rfl,q⟩
 ·obtain ⟨u,rfl,t,rfl⟩:=gB r
  exact call_int_int ⟨.int i,H,I,⟨_,rfl⟩,q⟩
 ·obtain ⟨u,rfl,r1⟩:=gB r
  cases r1
  exact call_int_bool ⟨.int (if k then 1 else 0),H,I.tok _,⟨_,rfl⟩,q⟩
end
end L2
namespace L2
open PySem PySem.Spec PyProof.Rows
structure ObjM (h:Heap) (x dx C:Addr) (mA:Str->Option Value):Prop where
 obj:h.get? x=some (PySem.W.instObj C dx)
 ns:h.Ns1 dx mA
 ne:dx≠x
theorem GD {h:Heap} {dx:Addr} {mA:Str->Option Value} (n:h.Ns1 dx mA):∃ od,h.get? dx=some od/\∀ name,PySem.W.lookIn name od=some (mA name):=by
 obtain ⟨o,es,ep,ho,hd,hk,_,hm⟩:=n
 refine ⟨o,ho,fun name=>?_⟩
 have e:=hm name
 unfold nsFind findBy at e
 rw [<- Array.find?_toList] at e
 unfold PySem.W.lookIn
 rw [hd]
 dsimp only
 split
 ·rename_i y q
  rw [q] at e
  exact congrArg some e
 ·rename_i q
  rw [q] at e
  have a:es.toList.any (·.refKey)=false:=by
   rw [List.any_eq_false]
   intro y hy
   obtain ⟨z,t,hkey⟩:=hk y (Array.mem_toList_iff.mp hy)
   simp [DictEntry.refKey,hkey]
  have a':¬ es.toList.any (·.refKey)=true:=by rw [a];exact Bool.false_ne_true
  rw [if_neg a']
  exact congrArg some e
theorem ObjM.look {h:Heap} {x dx C:Addr} {mA:Str->Option Value} (I:ObjM h x dx C mA):∃ od,PySem.W.InstAt h x (PySem.W.instObj C dx) C (some od)/\∀ name,PySem.W.lookIn name od=some (mA name) :=
 let ⟨od,ho,hl⟩:=GD I.ns
 ⟨od,⟨I.obj,rfl,rfl,ho⟩,hl⟩
section
variable {prog:Program} {w:World} {A:Around} {E:Value->Shared->Prop} {s:Shared} {K:PySem.W.Frag} {x dx C f:Addr} {mA:Str->Option Value} {name:Str} {v:Value}
theorem HP {expr:Bool} {Q:Value->Shared->Prop} (X:K.In s.heap) (I:ObjM s.heap x dx C mA) (hg:PySem.W.plainGet K C name=true) (hh:PySem.W.hasDictIn K C=true)
 (ha:PySem.W.findIn K (.ref C) name=some none) (hv:mA name=some v) (hv':PySem.W.handedIn v=true) (h:Q v { s with toks:=s.toks+1 }) :
 wpAny (model prog w) A (getAttr (.ref x) name expr) Q E s:=by
 obtain ⟨od,J,hl⟩:=I.look
 exact PySem.W.get_value X J (PySem.W.plainGet_of hg).1 (PySem.W.findObj_own hh ha rfl (by rw [hl,hv])) hv' h
theorem HN {pl:Sem Bool} {Q:Value×List Value->Shared->Prop} (X:K.In s.heap) (I:ObjM s.heap x dx C mA) (hg:PySem.W.plainGet K C name=true)
 (hf:PySem.W.findIn K (.ref C) name=some (some (.ref f))) (ht:PySem.W.isFn K (.ref f)=true) (hv:mA name=none) (h:Q (.ref f,[.ref x]) s) :
 wpAny (model prog w) A (getMethod (.ref x) name pl) Q E s:=by
 obtain ⟨od,J,hl⟩:=I.look
 exact PySem.W.method_fn X J (PySem.W.plainGet_of hg).1 (PySem.W.plainGet_of hg).2 hf (beq_iff_eq.mp ht) (by show (PySem.W.lookIn name od).map (·.isSome)=some false;rw [hl,hv];rfl) h
theorem o9 {ns:List Str} {Q:Unit->Shared->Prop} (X:K.In s.heap) (I:ObjM s.heap x dx C mA)
 (hs:PySem.W.findIn K (.ref C) "__setattr__"=some (some (.builtin "object.__setattr__"))) (hp:PySem.W.plainOver K C=true) (ht:PySem.W.takerIn K C name=some none) (hh:PySem.W.hasDictIn K C=true)
 (hw:PySem.Within mA ns) (hsz:ns.length<=sizeLine)
 (h:∀ h',ObjM h' x dx C (fun y=>if y=name then some v else mA y)->Heap.SameBut dx s.heap h'->Q () { s with heap:=h',toks:=s.toks+2 }) :
 wpAny (model prog w) A (setAttr (.ref x) name v) Q E s:=by
 obtain ⟨od,J,hl⟩:=I.look
 refine PySem.W.set_plain X J hs (PySem.W.osa_open (s:={ s with toks:=s.toks+1 }) (r:=none) X J hp ht fun b=>?_)
 obtain ⟨cd,hc,hd'⟩:=PySem.W.any_some hh
 have hx:s.heap.get? x=some ⟨.ref C,some dx,.plain,#[]⟩:=I.obj
 refine wpAny_bind (wpAny_pure (wpAny_bind (wpAny_bind (wpAny_loadPart hx (wpAny_bind (PySem.W.Looks.here (s:={ s with toks:=s.toks+1 }) (PySem.W.looks_clsIn X hc) ?_))))))
 rw [hd']
 refine wpAny_pure (a:=some dx) (wpAny_bind (wpAny_pure (wpAny_bind ?_)))
 refine wpAny_nsSet1 (s:={ s with toks:=s.toks+1 }) I.ns fun h' hn2 hs2=>?_
 obtain ⟨oD,esD,epD,hoD,hdD,hcD⟩:=hn2.count (PySem.Within.cons name v hw)
 refine wpAny_bind (wpAny_lookBehind hoD (by rw [hdD];exact pastItsLine_dict (Nat.le_trans hcD (by rw [List.length_cons];omega))) ?_)
 exact wpAny_pure (h _ ⟨(hs2.2 _ (Ne.symm I.ne)).trans I.obj,hn2,I.ne⟩ hs2)
theorem FN {R:Result->Shared->Prop} {vs:List Value} {kw:List (Str×Value)} (X:K.In s.heap) (hm:PySem.W.makesIn K C=true)
 (hi:PySem.W.findIn K (.ref C) "__init__"=some (some (.ref f))) (hf:PySem.W.typeIn K (.ref f)=some (.type "function"))
 (h:codeAny (model prog w) (A.under (.builtin "type.__call__" ⟨.ref C::vs,kw⟩)) (.call (.ref f) ⟨.ref (s.heap.objs.size+1)::vs,kw⟩) (PySem.W.InitBack (s.heap.objs.size+1) R)
   { s with heap:=(s.heap.push PySem.W.emptyDict).push (PySem.W.instObj C s.heap.objs.size) }) :
 codeAny (model prog w) A (.call (.ref C) ⟨vs,kw⟩) R s:=by
 obtain ⟨hh,g,d,t,os⟩:=s
 exact PySem.W.make_core (PySem.W.makes_of X hm) (PySem.W.looks_findIn X hi) (fun self=>PySem.W.bind_fn X self hf) (.inl rfl) h
end
def cH (f:Str) (v:V):List (Str×V)->List (Str×V)
 | []=>[(f,v)]
 | (g,x)::r=>if g=f then (g,v)::r else (g,x)::cH f v r
theorem dH (f g:Str) (v:V):∀ fs:List (Str×V),(cH f v fs).lookup g=if g=f then some v else fs.lookup g
 | []=>by
   show List.lookup g [(f,v)]=_
   by_cases h:g=f
   ·have hb:(g == f)=true:=beq_iff_eq.mpr h
    simp only [List.lookup,hb,if_pos h]
   ·have hb:(g == f)=false:=beq_eq_false_iff_ne.mpr h
    simp only [List.lookup,hb,if_neg h]
 | (k,x)::r=>by
   have ih:=dH f g v r
   rw [show cH f v ((k,x)::r)=(if k=f then (k,v)::r else (k,x)::cH f v r) from rfl]
   by_cases hk:k=f
   ·rw [if_pos hk]
    by_cases h:g=k
    ·have hb:(g == k)=true:=beq_iff_eq.mpr h
     simp only [List.lookup,hb,if_pos (h.trans hk)]
    ·have hb:(g == k)=false:=beq_eq_false_iff_ne.mpr h
     simp only [List.lookup,hb,if_neg (fun e:g=f=>h (e.trans hk.symm))]
   ·rw [if_neg hk]
    by_cases h:g=k
    ·have hb:(g == k)=true:=beq_iff_eq.mpr h
     simp only [List.lookup,hb,if_neg (fun e:g=f=>hk (h.symm.trans e))]
    ·have hb:(g == k)=false:=beq_eq_false_iff_ne.mpr h
     simp only [List.lookup,hb]
     exact ih
theorem rY (f:Str) (v:V):∀ fs:List (Str×V),f∈(cH f v fs).map (·.1)/\∀ g,g∈fs.map (·.1)->g∈(cH f v fs).map (·.1)
 | []=>⟨by simp [cH],fun g h=>by simp at h⟩
 | (k,x)::r=>by
   obtain ⟨i1,i2⟩:=rY f v r
   rw [show cH f v ((k,x)::r)=(if k=f then (k,v)::r else (k,x)::cH f v r) from rfl]
   by_cases hk:k=f
   ·rw [if_pos hk]
    subst hk
    exact ⟨by simp,fun g h=>by simpa using h⟩
   ·rw [if_neg hk]
    refine ⟨?_,fun g h=>?_⟩
    ·rw [List.map_cons]
     exact List.mem_cons_of_mem _ i1
    ·rw [List.map_cons] at h ⊢
     rcases List.mem_cons.mp h with e | e
     ·exact List.mem_cons.mpr (.inl e)
     ·exact List.mem_cons_of_mem _ (i2 g e)
theorem yT (f:Str) (v:V):∀ fs:List (Str×V),(cH f v fs).length<=fs.length+1
 | []=>by simp [cH]
 | (k,x)::r=>by
   have ih:=yT f v r
   rw [show cH f v ((k,x)::r)=(if k=f then (k,v)::r else (k,x)::cH f v r) from rfl]
   by_cases hk:k=f
   ·rw [if_pos hk,List.length_cons,List.length_cons];omega
   ·rw [if_neg hk,List.length_cons,List.length_cons];omega
theorem RelO.some_of {v:V} {o:Option Value} (r:RelO (some v) o):∃ u,o=some u/\RelV v u:=by
 cases o with
 | none=>exact (show False from r).elim
 | some u=>exact ⟨u,rfl,r⟩
theorem RelO.none_of {o:Option Value} (r:RelO none o):o=none:=by
 cases o with
 | none=>rfl
 | some u=>exact (show False from r).elim
theorem HF {v:V} {u:Value} (r:RelV v u):PySem.W.handedIn u=true:=by
 cases v with
 | non=>cases (show u=Value.none from r);rfl
 | bl b=>cases (show u=Value.bool b from r);rfl
 | int i=>obtain ⟨t,e⟩:=(show ∃ t,u=Value.int i t from r);cases e;rfl
 | str x=>obtain ⟨t,e⟩:=(show ∃ t,u=Value.str x t from r);cases e;rfl
 | byt b=>obtain ⟨t,e⟩:=(show ∃ t,u=Value.bytes b t from r);cases e;rfl
 | flt b=>obtain ⟨t,e⟩:=(show ∃ t,u=Value.float b t from r);cases e;rfl
 | ref a=>cases (show u=Value.ref a from r);rfl
 | ty n=>cases (show u=Value.type n from r);rfl
section
variable {P:Program} {w:World} {H H':Hp} {h h':Heap} {a C dx:Addr} {fs fs':List (Str×V)}
theorem nQ (hok:HOk P w H h) (e:H a=some (.ins C dx fs)):∃ mA,ObjM h a dx C mA/\(∀ f,RelO (fs.lookup f) (mA f))/\PySem.Within mA (fs.map (·.1))/\fs.length<=1000/\H dx=some (.own a):=by
 obtain ⟨d,z,ne,ob,mA,n,r,q⟩:=(show ObjOk P w H h a (.ins C dx fs) from hok a _ e)
 exact ⟨mA,⟨ob,n,ne⟩,r,q,z,d⟩
end
structure Cls (K:PySem.W.Frag) (C:Addr):Prop where
 pg:PySem.W.plainGet K C Str.empty=true
 hd:PySem.W.hasDictIn K C=true
 po:PySem.W.plainOver K C=true
 sa:PySem.W.findIn K (.ref C) "__setattr__"=some (some (.builtin "object.__setattr__"))
theorem Cls.get {K:PySem.W.Frag} {C:Addr} (c:Cls K C) (f:Str):PySem.W.plainGet K C f=true:=c.pg
def NoAttr (K:PySem.W.Frag) (C:Addr) (f:Str):Prop:=PySem.W.findIn K (.ref C) f=some none
theorem NoAttr.taker {K:PySem.W.Frag} {C:Addr} {f:Str} (n:NoAttr K C f):PySem.W.takerIn K C f=some none:=by
 unfold PySem.W.takerIn
 rw [show PySem.W.findIn K (.ref C) f=some none from n]
 rfl
structure Meth (K:PySem.W.Frag) (C:Addr) (m:Str) (f:Addr):Prop where
 at_:PySem.W.findIn K (.ref C) m=some (some (.ref f))
 fn:PySem.W.isFn K (.ref f)=true
 kp:PySem.W.keepIn K (.ref f)=true
section
variable {X:Cx} {pins:List (Addr×Obj)} {σ:St} {H:Hp} {s:Shared} {a C dx:Addr} {fs:List (Str×V)} {f:Str} {v:V} {A:Around} {E:Value->Shared->Prop}
theorem HM {b:Bool} {Q:Value->Shared->Prop} (I:Inv X pins σ H s) (e:H a=some (.ins C dx fs)) (c:Cls X.K C) (n:NoAttr X.K C f) (l:fs.lookup f=some v)
 (h:∀ u s',Inv X pins σ H s'->RelV v u->Q u s'):wpAny (model X.prog X.w) A (getAttr (.ref a) f b) Q E s:=by
 obtain ⟨mA,O,r,_,_,_⟩:=nQ I.hok e
 obtain ⟨u,hu,ru⟩:=RelO.some_of (v:=v) (o:=mA f) (by rw [<- l];exact r f)
 exact HP I.kIn O (c.get f) c.hd n hu (HF ru) (h u _ (I.tok _) ru)
theorem zo {m:Str} {g:Addr} {pl:Sem Bool} {Q:Value×List Value->Shared->Prop} (I:Inv X pins σ H s) (e:H a=some (.ins C dx fs)) (c:Cls X.K C) (k:Meth X.K C m g) (l:fs.lookup m=none)
 (h:Q (.ref g,[.ref a]) s):wpAny (model X.prog X.w) A (getMethod (.ref a) m pl) Q E s:=by
 obtain ⟨mA,O,r,_,_,_⟩:=nQ I.hok e
 have hn:mA m=none:=RelO.none_of (by rw [<- l];exact r m)
 exact HN I.kIn O (c.get m) k.at_ k.fn hn h
theorem Cj {y:V} {u:Value} {Q:Unit->Shared->Prop} (I:Inv X pins σ H s) (e:H a=some (.ins C dx fs)) (c:Cls X.K C) (n:NoAttr X.K C f) (hl:fs.length<1000) (ry:RelV y u)
 (h:∀ s',Inv X pins σ (upd H a (.ins C dx (cH f y fs))) s'->Q () s'):wpAny (model X.prog X.w) A (setAttr (.ref a) f u) Q E s:=by
 obtain ⟨mA,O,r,wi,_,ho⟩:=nQ I.hok e
 have hz:(fs.map (·.1)).length<=sizeLine:=by rw [List.length_map,sizeLine_eq];omega
 refine o9 I.kIn O c.sa c.po n.taker c.hd wi hz fun h' O' sb=>h _ ?_
 have hd:∃ o,h'.get? dx=some o:=let ⟨o,_,_,e',_⟩:=O'.ns;⟨o,e'⟩
 refine I.write (x:=a) (e:=dx) (by rw [e];exact True.intro) (.inr ho) (fun b q hb z=>(sb.2 b hb).trans z) hd ?_
 refine ⟨by rw [upd_ne O.ne];exact ho,?_,O.ne,O'.obj,_,O'.ns,fun g=>?_,fun g hg=>?_⟩
 ·have:=yT f y fs;omega
 ·show RelO ((cH f y fs).lookup g) (if g=f then some u else mA g)
  rw [dH]
  by_cases q:g=f
  ·rw [if_pos q,if_pos q];exact ry
  ·rw [if_neg q,if_neg q];exact r g
 ·by_cases q:g=f
  ·rw [q];exact (rY f y fs).1
  ·refine (rY f y fs).2 g (wi g fun z=>hg ?_)
   show (if g=f then some u else mA g)=none
   rw [if_neg q];exact z
theorem Inv.made (I:Inv X pins σ H s):Inv X pins σ (upd (upd H s.heap.objs.size (.own (s.heap.objs.size+1))) (s.heap.objs.size+1) (.ins C s.heap.objs.size []))
 { s with heap:=(s.heap.push PySem.W.emptyDict).push (PySem.W.instObj C s.heap.objs.size) }:=by
 have e1:(s.heap.push PySem.W.emptyDict).get? s.heap.objs.size=some PySem.W.emptyDict:=Heap.get?_push_size s.heap rfl
 have e2:((s.heap.push PySem.W.emptyDict).push (PySem.W.instObj C s.heap.objs.size)).get? (s.heap.objs.size+1)=some (PySem.W.instObj C s.heap.objs.size):=by
  have:=Heap.get?_push_size (s.heap.push PySem.W.emptyDict) (o:=PySem.W.instObj C s.heap.objs.size) rfl
  rwa [Heap.size_push] at this
 have e3:(s.heap.push PySem.W.emptyDict).Ns s.heap.objs.size (fun _=>none):=⟨PySem.W.emptyDict,#[],_,e1,rfl,(fun e he=>absurd he (by simp)),fun _=>rfl⟩
 have I1:=I.laid (a:=s.heap.objs.size) (o:=.own (s.heap.objs.size+1)) (h':=s.heap.push PySem.W.emptyDict) (t':=s.toks) (fun b u q=>Heap.get?_push_of_some _ q) (Nat.le_refl _) ⟨_,e1⟩
 refine I1.laid (a:=s.heap.objs.size+1) (o:=.ins C s.heap.objs.size []) (t':=s.toks) (fun b u q=>Heap.get?_push_of_some _ q) (Nat.le_of_eq (Heap.size_push _ _)) ?_
 have ne:s.heap.objs.size≠s.heap.objs.size+1:=Nat.ne_of_lt (Nat.lt_succ_self _)
 refine ⟨by rw [upd_ne ne,au],Nat.zero_le _,ne,e2,fun _=>none,(Heap.Ns1.of_empty e3).at fun o q=>Heap.get?_push_of_some _ q,fun _=>True.intro,fun y hy=>absurd rfl hy⟩
theorem KR {prog:Program} {w:World} {env:Env} {e:Expr} {f:Str} {pos:Pos} {s:Shared} {Q:Value->Shared->Prop} (hb:attributeBase e f env (eval e env)=eval e env)
 (h:wpAny (model prog w) A (eval e env) (fun o s₁=>wpAny (model prog w) A (getAttr o f true) Q E s₁) E s):wpAny (model prog w) A (eval (.Attribute e f pos) env) Q E s :=
 Attribute_any_ h (by rw [arm_eval_Attribute,hb])
end
def vF (K:PySem.W.Frag) (ta:TE) (f:Str):TE:=fun σ H Q=>ta σ H fun x H1=>∃ a C dx fs v,x=.ref a/\H1 a=some (.ins C dx fs)/\Cls K C/\NoAttr K C f/\fs.lookup f=some v/\Q v H1
def CS (K:PySem.W.Frag) (ta tv:TE) (f:Str):TS:=fun D σ H=>tv σ H fun y H1=>ta σ H1 fun x H2=>∃ a C dx fs,x=.ref a/\H2 a=some (.ins C dx fs)/\Cls K C/\NoAttr K C f/\fs.length<1000 /\
 D.nx σ (upd H2 a (.ins C dx (cH f y fs)))
section
variable {X:Cx} {o e value:Expr} {f:Str} {pos pos' tpos:Pos} {ta tv:TE}
theorem DV (he:PE X e ta) (hb:attributeBase e f X.env (eval e X.env)=eval e X.env):PE X (.Attribute e f pos) (vF X.K ta f):=by
 intro pins s σ H Q I h
 refine KR hb (thn (he pins s σ H _ I h) fun u s1 ⟨x,H1,I1,rx,a,C,dx,fs,v,ex,ea,c,n,l,q⟩=>?_)
 subst ex
 obtain rfl:u=Value.ref a:=rx
 exact HM I1 ea c n l fun u' s2 I2 ru=>⟨v,H1,I2,ru,q⟩
theorem kz (ha:PE X o ta) (hv:PE X value tv) (hs:swapsWith value (some (.Attribute o f pos')) pos.line X.env=pure false):PS X (.Assign [.Attribute o f pos'] value pos) (CS X.K ta tv f):=by
 intro pins s σ H D I h
 refine plainObj_wpAny_Assign_Attribute (thn (hv pins s σ H _ I h) fun u s1 ⟨y,H1,I1,ry,q⟩=>thn (ha pins s1 σ H1 _ I1 q) fun ov s2 ⟨x,H2,I2,rx,a,C,dx,fs,ex,ea,c,n,l,q2⟩=>?_) hs
 subst ex
 obtain rfl:ov=Value.ref a:=rx
 exact Cj I2 ea c n l ry fun s3 I3=>⟨σ,_,I3,q2⟩
end
section
variable {X:Cx} {pins:List (Addr×Obj)} {σ:St} {H:Hp} {s:Shared} {A:Around} {E:Value->Shared->Prop} {Q:Value->Shared->Prop} {c:Value} {b:Bool}
inductive TyOf (K:PySem.W.Frag) (H:Hp):V->Value->Prop where
 | non:TyOf K H .non (.type "NoneType")
 | bl (x:Bool):TyOf K H (.bl x) (.type "bool")
 | int (i:Int):TyOf K H (.int i) (.type "int")
 | str (x:Str):TyOf K H (.str x) (.type "str")
 | flt (x:UInt64):TyOf K H (.flt x) (.type "float")
 | lst {a:Addr} {xs:List V} (e:H a=some (.lst xs)):TyOf K H (.ref a) (.type "list")
 | frz {a:Addr} {o:Obj} {xs:List V} (e:H a=some (.frz o (.lst xs))):TyOf K H (.ref a) (.type "list")
 | tup {a:Addr} {xs:List V} (e:H a=some (.tup xs)):TyOf K H (.ref a) (.type "tuple")
 | dK {a:Addr} {kvs:List (Key×V)} (e:H a=some (.dK kvs)):TyOf K H (.ref a) (.type "dict")
 | dT {a:Addr} {kvs:List (List Key×V)} (e:H a=some (.dT kvs)):TyOf K H (.ref a) (.type "dict")
 | ins {a C dx:Addr} {fs:List (Str×V)} (e:H a=some (.ins C dx fs)) (cl:Cls K C) (ha:PySem.W.findIn K (.ref C) "__class__"=some (some (.builtin "object.__class__")))
  (hn:PySem.W.specialIn K (.builtin "object.__class__") "__get__"=some (some (.builtin "getset_descriptor.__get__"))) (htk:PySem.W.takesIn K (.builtin "object.__class__")=some true)
  (hm:PySem.W.mroIn K C (.type "object")=some true):TyOf K H (.ref a) (.ref C)
theorem Hs {x:V} {u t:Value} (I:Inv X pins σ H s) (rx:RelV x u) (ty:TyOf X.K H x t) (e:PySem.W.kitOne X.K t c=some b) (h:∀ tk,Q (.bool b) { s with toks:=tk }) :
 wpAny (model X.prog X.w) A (call (.builtin "isinstance") [u,c]) Q E s:=by
 cases ty with
 | non=>cases (show u=Value.none from rx);exact PySem.W.kia_one PySem.W.kitx_none I.kIn True.intro e (fun z=>nomatch z) h
 | bl y=>cases (show u=Value.bool y from rx);exact PySem.W.kia_one PySem.W.kitx_bool I.kIn True.intro e (fun z=>nomatch z) h
 | int i=>obtain ⟨t,q⟩:=(show ∃ t,u=Value.int i t from rx);cases q;exact PySem.W.kia_one PySem.W.kitx_int I.kIn True.intro e (fun z=>nomatch z) h
 | str y=>obtain ⟨t,q⟩:=(show ∃ t,u=Value.str y t from rx);cases q;exact PySem.W.kia_one PySem.W.kitx_str I.kIn True.intro e (fun z=>nomatch z) h
 | flt y=>obtain ⟨t,q⟩:=(show ∃ t,u=Value.float y t from rx);cases q;exact PySem.W.kia_one PySem.W.kitx_float I.kIn True.intro e (fun z=>nomatch z) h
 | @lst a xs ea =>
   cases (show u=Value.ref a from rx)
   obtain ⟨_,_,n,_,h1⟩:=(show ObjOk X.prog X.w H s.heap a (.lst xs) from I.hok a _ ea)
   exact PySem.W.kia_one PySem.W.kitx_list I.kIn ⟨_,h1,rfl⟩ e (fun z=>nomatch z) h
 | @frz a ob xs ea =>
   cases (show u=Value.ref a from rx)
   obtain ⟨_,_,_,n,_,h1⟩:=(show ObjOk X.prog X.w H s.heap a (.frz ob (.lst xs)) from I.hok a _ ea)
   exact PySem.W.kia_one PySem.W.kitx_list I.kIn ⟨_,h1,rfl⟩ e (fun z=>nomatch z) h
 | @tup a xs ea =>
   cases (show u=Value.ref a from rx)
   obtain ⟨_,_,_,p⟩:=(show ObjOk X.prog X.w H s.heap a (.tup xs) from I.hok a _ ea)
   obtain ⟨o,h1,h2,_⟩:=p
   exact PySem.W.kia_one PySem.W.kitx_tuple I.kIn ⟨o,h1,h2⟩ e (fun z=>nomatch z) h
 | @dK a kvs ea =>
   cases (show u=Value.ref a from rx)
   obtain ⟨_,_,vs,_,p⟩:=(show ObjOk X.prog X.w H s.heap a (.dK kvs) from I.hok a _ ea)
   obtain ⟨o,es,ep,h1,h2,_⟩:=p
   exact PySem.W.kia_one PySem.W.kitx_dict I.kIn ⟨o,h1,h2.1⟩ e (fun z=>nomatch z) h
 | @dT a kvs ea =>
   cases (show u=Value.ref a from rx)
   obtain ⟨_,_,xs,_,o,es,ep,h1,h2,_⟩:=(show ObjOk X.prog X.w H s.heap a (.dT kvs) from I.hok a _ ea)
   exact PySem.W.kia_one PySem.W.kitx_dict I.kIn ⟨o,h1,h2.1⟩ e (fun z=>nomatch z) h
 | @ins a C dx fs ea cl ha hn htk hm =>
   cases (show u=Value.ref a from rx)
   obtain ⟨mA,O,_⟩:=nQ I.hok ea
   obtain ⟨od,J,_⟩:=O.look
   exact PySem.W.kia_one (PySem.W.kitx_own (cl.get _) cl.hd ha hn htk hm) I.kIn J e (fun z=>nomatch z) h
end
end L2
namespace L2
open PySem PySem.Spec PyProof.Rows
structure Room (k:Nat) (A:Around):Prop where
 hd:A.handled=none
 dp:A.depth+3*k+5<recursionLimit
 un:A.units+16*k+200<cLine
theorem Room.mono {j k:Nat} {A:Around} (r:Room k A) (h:j<=k:=by decide):Room j A:=⟨r.hd,by have:=r.dp;omega,by have:=r.un;omega⟩
theorem Room.deeper {k:Nat} {A:Around} (r:Room (k+1) A) (env:Env):Room k (A.deeper env) :=
 ⟨r.hd,by have:=r.dp;show A.depth+1+3*k+5<_;omega,by have:=r.un;show A.units+3+16*k+200<_;omega⟩
theorem Room.in1 {k:Nat} {A:Around} (r:Room (k+1) A):Room k A.in1 :=
 ⟨r.hd,by have:=r.dp;show A.depth+3*k+5<_;omega,by have:=r.un;show A.units+1+16*k+200<_;omega⟩
theorem FO {A:Around} {C:Addr} {us:List Value} {kw:List (Str×Value)}:(A.under (.builtin "type.__call__" ⟨.ref C::us,kw⟩)).depth=A.depth+1:=by
 first | rfl | simp [Around.under,Code.weight,Code.isCreation,Code.isGuard,Code.isCaller,Code.frames,Code.isFrame,guardIds]
theorem FM {A:Around} {C:Addr} {us:List Value} {kw:List (Str×Value)}:(A.under (.builtin "type.__call__" ⟨.ref C::us,kw⟩)).units=A.units+1:=by
 first | rfl | simp [Around.under,Code.cUnits,Code.frames,Code.isFrame]
theorem Room.make {k:Nat} {A:Around} (r:Room (k+1) A) (C:Addr) (us:List Value) (kw:List (Str×Value)):Room k (A.under (.builtin "type.__call__" ⟨.ref C::us,kw⟩)) :=
 ⟨r.hd,by have:=r.dp;rw [FO];omega,by have:=r.un;rw [FM];omega⟩
theorem Room.depth {k:Nat} {A:Around} (r:Room k A):A.depth<recursionLimit:=by have:=r.dp;omega
theorem Room.units {k:Nat} {A:Around} (r:Room k A):A.units+64<cLine:=by have:=r.un;omega
def oC:TA:=fun _ H Q=>Q [] H
def oE (ta:TE) (tr:TA):TA:=fun σ H Q=>ta σ H fun x H1=>tr σ H1 fun xs H2=>Q (x::xs) H2
section
variable {X:Cx} {e:Expr} {es:List Expr} {te:TE} {t:TA} {pos:Pos}
theorem ac:PA X [] oC:=fun _ _ _ _ H Q I h=>Calls.spliced_nil ⟨[],H,I,.nil,h⟩
theorem aa (ha:PE X e te) (hr:PA X es t) (hs:starEach (e::es) X.env=(false,eval e X.env)::starEach es X.env:=by rfl):PA X (e::es) (oE te t):=by
 intro pos pins s σ H Q I h
 rw [hs]
 show wpAny _ _ (spliced ((false,eval e X.env)::backTo pos (starEach es X.env))) _ _ s
 refine Calls.spliced_cons (thn (ha pins s σ H _ I h) fun u s1 ⟨x,H1,I1,r1,q1⟩=>?_)
 exact thn (hr pos pins s1 σ H1 _ I1 q1) fun us s2 ⟨xs,H2,I2,r2,q2⟩=>⟨x::xs,H2,I2,.cons r1 r2,q2⟩
def Bz (t:TA):TE:=fun σ H Q=>t σ H fun xs H1=>xs.length<=sizeLine/\∀ p,H1 p=none->Q (.ref p) (upd H1 p (.tup xs))
def BF (t:TA):TE:=fun σ H Q=>t σ H fun xs H1=>xs.length<=sizeLine/\∀ p,H1 p=none->Q (.ref p) (upd H1 p (.lst xs))
theorem db {x1} (h:PA X es t):PE X (.Tuple es x1 pos) (Bz t):=by
 intro pins s σ H Q I hq
 refine wpAny_Tuple_spliced (thn (h pos pins s σ H _ I hq) fun us s1 ⟨xs,H1,I1,r,z,q⟩=>⟨by rw [<- r.length];exact z,?_⟩)
 have hf:H1 s1.heap.objs.size=none:=I1.hok.fresh (Nat.le_refl _)
 refine ⟨.ref s1.heap.objs.size,upd H1 s1.heap.objs.size (.tup xs),I1.laid (t':=s1.toks) (fun b u e=>Heap.get?_push_of_some _ e) (Nat.le_refl _) ?_,rfl,q _ hf⟩
 exact ⟨z,us,r,⟨_,Heap.get?_push_size _ rfl,rfl,_,rfl⟩⟩
theorem aZ (h:PA X es t):PE X (.List es pos) (BF t):=by
 intro pins s σ H Q I hq
 refine wpAny_List_spliced (thn (h pos pins s σ H _ I hq) fun us s1 ⟨xs,H1,I1,r,z,q⟩=>⟨by rw [<- r.length];exact z,?_⟩)
 have hf:H1 s1.heap.objs.size=none:=I1.hok.fresh (Nat.le_refl _)
 refine ⟨.ref s1.heap.objs.size,upd H1 s1.heap.objs.size (.lst xs),I1.laid (t':=s1.toks) (fun b u e=>Heap.get?_push_of_some _ e) (Nat.le_refl _) ?_,rfl,q _ hf⟩
 exact ⟨z,us,0,r,Heap.get?_push_size _ rfl⟩
end
abbrev Sp:=List V->Hp->VK->XK->Prop
abbrev CXT:=List Env->Hp->Shared->XK->Value->Shared->Prop
structure Env0 (P:Program) (w:World) (K:PySem.W.Frag) (mg:Str->Option Value) (base:Heap) (A:Around) (outer:List Env) (s:Shared) (H:Hp):Prop where
 frames:A.frames=some outer
 mod:Mod K mg base
 bs:∀ b o,base.get? b=some o->s.heap.get? b=some o/\H b=none
 bsz:base.objs.size<=s.heap.objs.size
 funs:s.heap.FunFrames base outer
 frf:∀ b∈frs outer,H b=none
 hok:HOk P w H s.heap
 bare:AllBare s.gens
def CE (outer:List Env) (P:Program) (w:World) (H:Hp) (s:Shared) (Q:VK) (u:Value) (s':Shared):Prop :=
 ∃ v H',s'.os=s.os/\AllBare s'.gens/\Un (frs outer) [] H H' s.heap s'.heap/\HOk P w H' s'.heap/\RelV v u/\Q v H'
def CR (CX:CXT) (outer:List Env) (P:Program) (w:World) (H:Hp) (s:Shared) (Q:VK) (E:XK) (r:Result) (s':Shared):Prop :=
 match r with
 | .ok (.ret u)=>CE outer P w H s Q u s'
 | .ok _=>False
 | .error e=>CX outer H s E e s'
structure FnOk (P:Program) (w:World) (K:PySem.W.Frag) (mg:Str->Option Value) (base:Heap) (CX:CXT) (k:Nat) (f:Addr) (fd:FuncData) (ps:List Str) (sp:Sp):Prop where
 len:∀ vs H Q E,sp vs H Q E->vs.length=ps.length
 run:∀ (A:Around) (outer:List Env) (s:Shared) (H:Hp) (args:Args) (us:List Value) (vs:List V) (Q:VK) (E:XK),Room k A->Env0 P w K mg base A outer s H->BindsTo s fd args (ps.zip us)->Vals vs us->sp vs H Q E ->
  codeAny (model P w) A (.call (.ref f) args) (CR CX outer P w H s Q E) s
theorem FnOk.mono {P:Program} {w:World} {K:PySem.W.Frag} {mg:Str->Option Value} {base:Heap} {CX:CXT} {j k:Nat} {f:Addr} {fd:FuncData} {ps:List Str} {sp:Sp} (F:FnOk P w K mg base CX j f fd ps sp) (h:j<=k:=by decide) :
 FnOk P w K mg base CX k f fd ps sp:=⟨F.len,fun A outer s H args us vs Q E hr=>F.run A outer s H args us vs Q E (hr.mono h)⟩
theorem Env0.make {P:Program} {w:World} {K:PySem.W.Frag} {mg:Str->Option Value} {base:Heap} {A:Around} {outer:List Env} {s:Shared} {H:Hp} (e:Env0 P w K mg base A outer s H) (C:Addr) (us:List Value) (kw:List (Str×Value)) :
 Env0 P w K mg base (A.under (.builtin "type.__call__" ⟨.ref C::us,kw⟩)) outer s H:=⟨by first | exact e.frames | (simpa [Around.under,Code.envs,Code.isFrame,pushEnvs] using e.frames),e.mod,e.bs,e.bsz,e.funs,e.frf,e.hok,e.bare⟩
section
variable {X:Cx} {pins:List (Addr×Obj)} {σ:St} {H:Hp} {s s':Shared}
theorem Inv.env0 (I:Inv X pins σ H s):Env0 X.prog X.w X.K X.mg X.base X.A X.stack s H :=
 ⟨I.ok.frames,I.ok.mod,I.bs,Nat.le_trans I.ok.bsz I.sz,I.stack,I.stkFree,I.hok,I.bare⟩
theorem Inv.after {Q:VK} {u:Value} (I:Inv X pins σ H s) (h:CE X.stack X.prog X.w H s Q u s'):EP X pins σ Q u s':=by
 obtain ⟨v,H',os,bare,un,hok,r,q⟩:=h
 obtain ⟨hh,g,d,t,os'⟩:=s'
 obtain rfl:os'=s.os:=os
 exact ⟨v,H',I.call (h':=hh) (g':=g) (d':=d) (t':=t) (ch:=[]) un hok bare (fun b z=>absurd z (by simp)),r,q⟩
end
def BI (sp:Sp) (dvs:List V) (E:XK) (t:TA):TE:=fun σ H Q=>t σ H fun vs H1=>sp (vs++dvs) H1 Q E
def vE (C:Addr) (m:Str) (sp:Sp) (dvs:List V) (E:XK) (ta:TE) (t:TA):TE:=fun σ H Q=>ta σ H fun x H1=>∃ a dx fs,x=.ref a/\H1 a=some (.ins C dx fs)/\fs.lookup m=none /\
 t σ H1 fun vs H2=>sp (x::(vs++dvs)) H2 Q E
def BE (C:Addr) (sp:Sp) (dvs:List V) (E:XK) (t:TA):TE:=fun σ H Q=>t σ H fun vs H1=>∀ x dx,H1 x=none->H1 dx=none->dx≠x ->
 sp (.ref x::(vs++dvs)) (upd (upd H1 dx (.own x)) x (.ins C dx [])) (fun v H2=>v=.non/\Q (.ref x) H2) E
def Binds (K:PySem.W.Frag) (fd:FuncData) (ps:List Str) (ds:List Value):Prop :=
 ∀ (s:Shared) (us:List Value),K.In s.heap->(us++ds).length=ps.length->BindsTo s fd ⟨us,[]⟩ (ps.zip (us++ds))
theorem Binds.all {K:PySem.W.Frag} {fd:FuncData} {ps:List Str} (h:∀ us:List Value,us.length=ps.length->bindArgs fd ⟨us,[]⟩=pure (ps.zip us)):Binds K fd ps []:=fun s us _ hl=>by
 rw [List.append_nil] at hl ⊢
 exact .of_eq (h us hl)
def i8 (CX:CXT) (X:Cx) (E:XK):Prop:=∀ (pins:List (Addr×Obj)) (σ:St) (H:Hp) (s:Shared) (e:Value) (s':Shared),Inv X pins σ H s->CX X.stack H s E e s'->X.xe e s'
section
variable {X:Cx} {CX:CXT} {k:Nat} {f C:Addr} {fd:FuncData} {ps:List Str} {sp:Sp} {dvs:List V} {ds:List Value} {E:XK} {x m:Str} {p pos apos:Pos} {e o:Expr} {es:List Expr} {ta:TE} {t:TA}
theorem qO {pins:List (Addr×Obj)} {σ:St} {H:Hp} {s:Shared} {Q:VK} {us:List Value} {vs:List V} (F:FnOk X.prog X.w X.K X.mg X.base CX k f fd ps sp) (hr:Room k X.A) (hb:Binds X.K fd ps ds) (hd:Vals dvs ds) (hx:i8 CX X E)
 (I:Inv X pins σ H s) (r:Vals vs us) (h:sp (vs++dvs) H Q E):wpAny (model X.prog X.w) X.A (call (.ref f) us) (EP X pins σ Q) X.xe s:=by
 have r2:Vals (vs++dvs) (us++ds):=r.append hd
 have hl:(us++ds).length=ps.length:=by rw [<- r2.length];exact F.len _ _ _ _ h
 refine wpAny_call (codeAny_mono (F.run X.A X.stack s H ⟨us,[]⟩ (us++ds) (vs++dvs) Q E hr I.env0 (hb s us I.kIn hl) r2 h) fun r s' hq=>?_)
 cases r with
 | error e=>exact hx pins σ H s e s' I hq
 | ok fl =>
   cases fl with
   | ret u=>exact I.after hq
   | next=>exact False.elim hq
   | brk=>exact False.elim hq
   | cont=>exact False.elim hq
theorem aq (F:FnOk X.prog X.w X.K X.mg X.base CX k f fd ps sp) (hr:Room k X.A) (hg:Gl X x) (hm:X.mg x=some (.ref f)) (hk:PySem.W.keepIn X.K (.ref f)=true) (hb:Binds X.K fd ps ds) (hd:Vals dvs ds) (hx:i8 CX X E)
 (ha:PA X (e::es) t) (hdb:(x == ("__debug__":Str))=false:=by decide) (he:starEach (e::es) X.env=(false,eval e X.env)::starEach es X.env:=by rfl) (hpl:(backTo pos (starEach es X.env)).any (·.1)=false:=by rfl) :
 PE X (.Call (.Name x p) (e::es) [] pos) (BI sp dvs E t):=by
 intro pins s σ H Q I h
 refine wpAny_Call_Name_kw (rW I hg hm ?_ hdb)
 refine PySem.W.callWith_K (h₀:=X.base) I.ok.mod.kin hk (thn (ha pos pins s σ H _ I h) fun us s1 ⟨vs,H1,I1,r,q⟩=>⟨I1.kIn,?_⟩) he hpl
 exact qO F hr hb hd hx I1 r q
theorem cP {pl:Sem Bool} (he:PE X o ta) (c:Cls X.K C) (hm:Meth X.K C m f) (F:FnOk X.prog X.w X.K X.mg X.base CX k f fd ps sp) (hr:Room k X.A) (hb:Binds X.K fd ps ds) (hd:Vals dvs ds) (hx:i8 CX X E) (ha:PA X (e::es) t)
 (hst:starEach (e::es) X.env=(false,eval e X.env)::starEach es X.env:=by rfl) (hpl:(backTo pos (starEach es X.env)).any (·.1)=false:=by rfl)
 (ht:eval (.Call (.Attribute o m apos) (e::es) [] pos) X.env=(do
   let ov <- eval o X.env
   standAt apos.atName
   let (f,first) <- holding [ov] (getMethod ov m pl)
   callWith pos f first (backTo pos (starEach (e::es) X.env)) (backToKw pos (keywordEach [] X.env))):=by rfl) :
 PE X (.Call (.Attribute o m apos) (e::es) [] pos) (vE C m sp dvs E ta t):=by
 intro pins s σ H Q I h
 refine PySem.W.methodCall_KW (pl:=pl) (thn (he pins s σ H _ I h) fun u s1 ⟨x,H1,I1,rx,a,dx,fs,ex,ea,l,q⟩=>?_) ht
 subst ex
 obtain rfl:u=Value.ref a:=rx
 refine zo I1 ea c hm l ?_
 refine PySem.W.callWith_K (first:=[.ref a]) (h₀:=X.base) I.ok.mod.kin hm.kp (thn (ha pos pins s1 σ H1 _ I1 q) fun us s2 ⟨vs,H2,I2,r,q2⟩=>⟨I2.kIn,?_⟩) hst hpl
 exact qO (us:=.ref a::us) (vs:=.ref a::vs) F hr hb hd hx I2 (.cons rfl r) q2
theorem xY {pl:Sem Bool} (he:PE X o ta) (c:Cls X.K C) (hm:Meth X.K C m f) (F:FnOk X.prog X.w X.K X.mg X.base CX k f fd ps sp) (hr:Room k X.A) (hb:Binds X.K fd ps ds) (hd:Vals dvs ds) (hx:i8 CX X E)
 (ht:eval (.Call (.Attribute o m apos) [] [] pos) X.env=(do
   let ov <- eval o X.env
   standAt apos.atName
   let (f,first) <- holding [ov] (getMethod ov m pl)
   callWith pos f first (backTo pos (starEach [] X.env)) (backToKw pos (keywordEach [] X.env))):=by rfl) :
 PE X (.Call (.Attribute o m apos) [] [] pos) (vE C m sp dvs E ta oC):=by
 intro pins s σ H Q I h
 refine PySem.W.methodCall_KW (pl:=pl) (thn (he pins s σ H _ I h) fun u s1 ⟨x,H1,I1,rx,a,dx,fs,ex,ea,l,q⟩=>?_) ht
 subst ex
 obtain rfl:u=Value.ref a:=rx
 refine zo I1 ea c hm l ?_
 exact PySem.W.callWith_K0 (first:=[.ref a]) I1.kIn hm.kp (qO (us:=[.ref a]) (vs:=[.ref a]) F hr hb hd hx I1 (.cons rfl .nil) q)
structure Mk (K:PySem.W.Frag) (C f:Addr):Prop where
 makes:PySem.W.makesIn K C=true
 init:PySem.W.findIn K (.ref C) "__init__"=some (some (.ref f))
 fn:PySem.W.isFn K (.ref f)=true
 kp:PySem.W.keepIn K (.ref C)=true
theorem CT {pins:List (Addr×Obj)} {σ:St} {H:Hp} {s:Shared} {Q:VK} {us:List Value} {vs:List V} (M:Mk X.K C f) (F:FnOk X.prog X.w X.K X.mg X.base CX k f fd ps sp) (hr:Room (k+1) X.A) (hb:Binds X.K fd ps ds) (hd:Vals dvs ds)
 (hx:i8 CX X E) (I:Inv X pins σ H s) (r:Vals vs us)
 (h:∀ x dx,H x=none->H dx=none->dx≠x->sp (.ref x::(vs++dvs)) (upd (upd H dx (.own x)) x (.ins C dx [])) (fun v H2=>v=.non/\Q (.ref x) H2) E) :
 wpAny (model X.prog X.w) X.A (call (.ref C) us) (EP X pins σ Q) X.xe s:=by
 have hq:=h (s.heap.objs.size+1) s.heap.objs.size (I.hok.fresh (Nat.le_succ _)) (I.hok.fresh (Nat.le_refl _)) (Nat.ne_of_lt (Nat.lt_succ_self _))
 have I2:=Inv.made (C:=C) I
 have r2:Vals (V.ref (s.heap.objs.size+1)::(vs++dvs)) (Value.ref (s.heap.objs.size+1)::(us++ds)):=.cons rfl (r.append hd)
 have hl:(Value.ref (s.heap.objs.size+1)::us++ds).length=ps.length:=by
  have e:=r2.length
  rw [F.len _ _ _ _ hq] at e
  exact e.symm
 refine wpAny_call (FN (f:=f) I.kIn M.makes M.init (beq_iff_eq.mp M.fn) (codeAny_mono (F.run _ X.stack _ _ ⟨Value.ref (s.heap.objs.size+1)::us,[]⟩ (Value.ref (s.heap.objs.size+1)::(us++ds)) _ _ E (hr.make C us [])
  (I2.env0.make C us []) (hb _ (Value.ref (s.heap.objs.size+1)::us) I2.kIn hl) r2 hq) fun r s' hq'=>?_))
 cases r with
 | error e=>exact hx pins σ _ _ e s' I2 hq'
 | ok fl =>
   cases fl with
   | ret u =>
     obtain ⟨v,H',I3,rv,ev,q3⟩:=I2.after hq'
     subst ev
     exact ⟨rv,⟨V.ref (s.heap.objs.size+1),H',I3,rfl,q3⟩⟩
   | next=>exact False.elim hq'
   | brk=>exact False.elim hq'
   | cont=>exact False.elim hq'
theorem cc (M:Mk X.K C f) (F:FnOk X.prog X.w X.K X.mg X.base CX k f fd ps sp) (hr:Room (k+1) X.A) (hg:Gl X x) (hm:X.mg x=some (.ref C)) (hb:Binds X.K fd ps ds) (hd:Vals dvs ds) (hx:i8 CX X E)
 (ha:PA X (e::es) t) (hdb:(x == ("__debug__":Str))=false:=by decide) (he:starEach (e::es) X.env=(false,eval e X.env)::starEach es X.env:=by rfl) (hpl:(backTo pos (starEach es X.env)).any (·.1)=false:=by rfl) :
 PE X (.Call (.Name x p) (e::es) [] pos) (BE C sp dvs E t):=by
 intro pins s σ H Q I h
 refine wpAny_Call_Name_kw (rW I hg hm ?_ hdb)
 refine PySem.W.callWith_K (h₀:=X.base) I.ok.mod.kin M.kp (thn (ha pos pins s σ H _ I h) fun us s1 ⟨vs,H1,I1,r,q⟩=>⟨I1.kIn,?_⟩) he hpl
 exact CT M F hr hb hd hx I1 r q
end
section
variable {X:Cx} {CX:CXT} {k:Nat} {f C:Addr} {fd:FuncData} {ps ks:List Str} {sp:Sp} {E:XK} {x m:Str} {p pos apos kpos:Pos} {e o:Expr} {es:List Expr} {kws:List Keyword} {te ta:TE} {t tk:TA} {nm:Option Str}
variable {g:List Value->List Value->List Value} {gV:List V->List V->List V}
end
structure FnScope (N P:List Str) (sc:Scope):Prop where
 kind:sc.kind=.function
 co:sc.isCoroutine=false
 gen:sc.isGenerator=false
 nd:N.Nodup
 pre:N.take P.length=P
 par:∀ x∈P,sc.names.lookup x=some .local\/sc.names.lookup x=some .cell
 nofree:∀ y∈sc.names,y.2≠.free
theorem Ax {kindOf:Str->Option NameKind} {x:Str}:∀ {binds:List (Str×Value)} {m:Str->Option Value},(∀ v,(x,v)∉binds)->bindL kindOf binds m x=m x
 | [],_,_=>rfl
 | (n,v)::r,m,h=>by
   unfold bindL
   rw [Ax fun w hw=>h w (List.mem_cons_of_mem _ hw)]
   split
   ·have:x≠n:=by rintro rfl;exact h v List.mem_cons_self
    simp [this]
   ·rfl
theorem Az {kindOf:Str->Option NameKind} {x:Str}:∀ {binds:List (Str×Value)} {m:Str->Option Value},(∀ v,(x,v)∉binds)->bindC kindOf binds m x=m x
 | [],_,_=>rfl
 | (n,v)::r,m,h=>by
   unfold bindC
   rw [Az fun w hw=>h w (List.mem_cons_of_mem _ hw)]
   split
   ·rfl
   ·have:x≠n:=by rintro rfl;exact h v List.mem_cons_self
    simp [this]
theorem Ay {kindOf:Str->Option NameKind} {x:Str} {v:Value}:∀ {P:List Str} {vs:List Value} {i:Nat} {m:Str->Option Value},P.Nodup->P[i]?=some x->vs[i]?=some v->kindOf x=some .local ->
 bindL kindOf (P.zip vs) m x=some v
 | [],_,_,_,_,h,_,_=>by simp at h
 | _::_,[],_,_,_,_,h,_=>by simp at h
 | p::P,w::vs,0,m,nd,h1,h2,hk=>by
   simp at h1 h2;subst h1;subst h2
   show bindL kindOf ((p,w)::P.zip vs) m p=_
   unfold bindL
   rw [Ax fun v hv=>(List.nodup_cons.mp nd).1 (List.of_mem_zip hv).1,if_pos hk]
   simp
 | p::P,w::vs,i+1,m,nd,h1,h2,hk=>by
   show bindL kindOf ((p,w)::P.zip vs) m x=_
   unfold bindL
   exact Ay (i:=i) (List.nodup_cons.mp nd).2 (by simpa using h1) (by simpa using h2) hk
theorem AA {kindOf:Str->Option NameKind} {x:Str} {v:Value}:∀ {P:List Str} {vs:List Value} {i:Nat} {m:Str->Option Value},P.Nodup->P[i]?=some x->vs[i]?=some v->kindOf x≠some .local ->
 bindC kindOf (P.zip vs) m x=some v
 | [],_,_,_,_,h,_,_=>by simp at h
 | _::_,[],_,_,_,_,h,_=>by simp at h
 | p::P,w::vs,0,m,nd,h1,h2,hk=>by
   simp at h1 h2;subst h1;subst h2
   show bindC kindOf ((p,w)::P.zip vs) m p=_
   unfold bindC
   rw [Az fun v hv=>(List.nodup_cons.mp nd).1 (List.of_mem_zip hv).1,if_neg hk]
   simp
 | p::P,w::vs,i+1,m,nd,h1,h2,hk=>by
   show bindC kindOf ((p,w)::P.zip vs) m x=_
   unfold bindC
   exact AA (i:=i) (List.nodup_cons.mp nd).2 (by simpa using h1) (by simpa using h2) hk
def start (N:List Str) (vs:List V):St:=vs.map some++List.replicate (N.length-vs.length) none
def iU (CX:CXT) (P:Program) (w:World) (K:PySem.W.Frag) (mg:Str->Option Value) (base:Heap) (N:List Str) (qual:Str) (scope:Scope) (f:Addr) (cd:Value) (A:Around) (outer:List Env) (s:Shared) (H:Hp) (E:XK):Cx where
 prog:=P
 w:=w
 K:=K
 mg:=mg
 base:=base
 A:=A.deeper (envOfC qual scope s.heap.objs.size f cd)
 N:=N
 s₀:=s
 H₀:=H
 env:=envOfC qual scope s.heap.objs.size f cd
 outer:=outer
 stack:=envOfC qual scope s.heap.objs.size f cd::outer
 ex:=[]
 calm:=true
 fn:=fun _=>true
 pn:=[]
 xe:=fun e s'=>wpAny (model P w) (A.deeper (envOfC qual scope s.heap.objs.size f cd)) (leaving (envOfC qual scope s.heap.objs.size f cd) e) (fun _ s''=>CX outer H s E e s'') (fun e' s''=>CX outer H s E e' s'') s'
theorem Aq {sc:Scope} {n:Nat} {x:Str} (h:sc.names.lookup x=some .cell):∃ c,(cellsFrom n sc.names []).lookup x=some c:=by
 have q:=PySem.W.cellsFrom_some sc.names n [] (.inl h)
 exact Option.isSome_iff_exists.mp q
theorem Hu {CX:CXT} {P:Program} {w:World} {K:PySem.W.Frag} {mg:Str->Option Value} {base:Heap} {N ps:List Str} {qual:Str} {scope:Scope} {f:Addr} {cd:Value} {A:Around} {outer:List Env} {s s1:Shared} {H:Hp} {E:XK} {us:List Value} {vs:List V}
 (S:FnScope N ps scope) (hd:A.handled=none) (e0:Env0 P w K mg base A outer s H) (hl:vs.length=ps.length) (r:Vals vs us)
 (x:InCallC s s.heap.objs.size (bindL (envOfC qual scope s.heap.objs.size f cd).kindOf (ps.zip us) fun _=>none) (cellsFrom (s.heap.objs.size+1) scope.names []) (bindC (envOfC qual scope s.heap.objs.size f cd).kindOf (ps.zip us) fun _=>none) s1) :
 Inv (iU CX P w K mg base N qual scope f cd A outer s H E) [] (start N vs) H s1:=by
 have hpl:ps.length<=N.length:=by have:=congrArg List.length S.pre;rw [List.length_take] at this;omega
 obtain ⟨h1,tk,rfl,hk⟩:=x.done
 have noA:∀ b:Addr,b∉(iU CX P w K mg base N qual scope f cd A outer s H E).ex:=fun b z=>absurd (show b∈([]:List Addr) from z) (by simp)
 refine ⟨⟨e0.mod,S.kind,rfl,rfl,Nat.le_refl _,fun y z c h1 h2=>?_,fun y hy=>?_,fun y c _ h=>?_,fun _=>hd,Around.frames_deeper e0.frames,.inr ⟨rfl,rfl⟩,fun b z=>absurd z (noA b),e0.bs,e0.bsz,fun b _ _=>noA b,fun b z=>absurd z (noA b),e0.funs,e0.frf⟩,
  rfl,e0.bare,Un.kept hk,⟨_,x.toInCall.ns,fun i y v h1 h2 h3=>?_⟩,fun y c h=>⟨_,x.cell y c h⟩,e0.hok.fresh (Nat.le_refl _),fun y c h=>?_,fun p hp=>absurd (show p∈([]:List (Addr×Obj)) from hp) (by simp),e0.hok.kept hk,?_⟩
 ·exact name_of_addr x.apart (PySem.mem_of_lookup h1) (PySem.mem_of_lookup h2)
 ·have hy:scope.names.lookup y=some .cell\/scope.names.lookup y=some .free:=hy
  rcases hy with hy | hy
  ·exact Aq hy
  ·exact absurd rfl (S.nofree _ (PySem.mem_of_lookup hy))
 ·exact Nat.le_of_lt (x.above y c (PySem.mem_of_lookup h))
 ·have hi:i<vs.length:=by
   unfold start at h2
   by_cases hi:i<vs.length
   ·exact hi
   ·rw [List.getElem?_append_right (by simpa using hi)] at h2
    rw [List.getElem?_replicate] at h2
    split at h2<;>cases h2
  have ha:vs[i]?=some v:=by
   unfold start at h2
   rw [List.getElem?_append_left (by simpa using hi),List.getElem?_map] at h2
   cases e:vs[i]? with
   | none=>rw [e] at h2;cases h2
   | some a=>rw [e] at h2;cases h2;rfl
  obtain ⟨u,hu,rv⟩:=r.get ha
  have hp:ps[i]?=some y:=by
   rw [<- S.pre,List.getElem?_take_of_lt (by omega)];exact h1
  have ndP:ps.Nodup:=by rw [<- S.pre];exact S.nd.sublist (List.take_sublist _ _)
  refine ⟨u,rv,?_⟩
  rcases S.par y (List.mem_of_getElem? hp) with k | k
  ·exact .inl ⟨k,Ay ndP hp hu k⟩
  ·obtain ⟨c,e⟩:=Aq (n:=s.heap.objs.size+1) k
   refine .inr ⟨.inl k,c,e,?_⟩
   have q:=x.cell y c e
   rw [AA ndP hp hu (by show scope.names.lookup y≠_;rw [k];decide)] at q
   exact q
 ·exact e0.hok.fresh (Nat.le_of_lt (x.above y c (PySem.mem_of_lookup h)))
 ·unfold start
  show _=N.length
  rw [List.length_append,List.length_map,List.length_replicate]
  omega
theorem zy {CX:CXT} {P:Program} {w:World} {K:PySem.W.Frag} {mg:Str->Option Value} {base:Heap} {k:Nat} {f:Addr} {name qual:Str} {params:Arguments} {body:List Stmt} {scope:Scope} {dV kV doc pm cdv ct oc:Value} {an od:Option Addr}
 {osl:Array (Option Value)} {N ps:List Str} {sp:Sp} (lk:K.lookup f=some ⟨oc,od,.func (PySem.W.fnOf name qual params body scope dV kV doc pm an cdv ct),osl⟩) (hcd:PySem.W.codeIn K cdv qual=true) (S:FnScope N ps scope)
 (len:∀ vs H Q E,sp vs H Q E->vs.length=ps.length)
 (hbody:∀ (A:Around) (outer:List Env) (s:Shared) (H:Hp) (vs:List V) (Q:VK) (E:XK),Room k (A.deeper (envOfC qual scope s.heap.objs.size f cdv))->sp vs H Q E ->
   ∃ t,PSs (iU CX P w K mg base N qual scope f cdv A outer s H E) body t/\t { nx:=fun _ H'=>Q .non H',rt:=Q } (start N vs) H) :
 FnOk P w K mg base CX (k+1) f (PySem.W.fnOf name qual params body scope dV kV doc pm an cdv ct) ps sp:=by
 refine ⟨len,fun A outer s H args us vs Q E hr e0 hb r hsp=>?_⟩
 have hl:=len _ _ _ _ hsp
 have KX:K.In s.heap:=e0.mod.kin.keeps fun b o e=>(e0.bs b o e).1
 have lim:s.heap.NoLimit:=e0.mod.nolimit.keeps fun b o e=>(e0.bs b o e).1
 have hkind:∀ y∈ps.zip us,scope.names.lookup y.1=some .local\/(scope.names.lookup y.1=some .cell/\((cellsFrom (s.heap.objs.size+1) scope.names []).lookup y.1).isSome=true):=fun ⟨n,v⟩ hy=>by
  rcases S.par n (List.of_mem_zip hy).1 with q | q
  ·exact .inl q
  ·exact .inr ⟨q,PySem.W.cellsFrom_some _ _ _ (.inl q)⟩
 refine codeAny_call_function hr.depth (KX _ _ lk) rfl S.co S.gen rfl (PySem.W.codeRec_of KX hcd) (hb _ _ _ _ ?_)
 refine wpAny_newFunctionEnv_cells S.kind hkind fun env he s1 x=>?_
 subst he
 refine ⟨lim.keeps x.toInCall.keep,codeAny_func ?_⟩
 obtain ⟨t,ht,hq⟩:=hbody A outer s H vs Q E (hr.deeper _) hsp
 have I:Inv (iU CX P w K mg base N qual scope f cdv A outer s H E) [] (start N vs) H s1:=Hu S hr.hd e0 hl r x
 refine wpAny_mono (ht [] s1 (start N vs) H _ I hq) (fun fl s' hs=>?_) fun e s' hs=>hs
 have fin:∀ {σ':St} {H':Hp} {v:V} {u:Value},Inv (iU CX P w K mg base N qual scope f cdv A outer s H E) [] σ' H' s'->RelV v u->Q v H'->CE outer P w H s Q u s' :=
  fun {σ' H' v u} J rv q=>⟨v,H',J.os,J.bare,J.base,J.hok,rv,q⟩
 cases fl with
 | ret u =>
   obtain ⟨v,σ',H',J,rv,q⟩:=hs
   exact fin J rv q
 | next =>
   obtain ⟨σ',H',J,q⟩:=hs
   exact fin (v:=V.non) (u:=Value.none) J rfl q
 | brk =>
   obtain ⟨_,_,_,q⟩:=hs
   exact False.elim q
 | cont =>
   obtain ⟨_,_,_,q⟩:=hs
   exact False.elim q
end L2
namespace L2
open PySem PySem.Spec PyProof.Rows
section
variable {X:Cx} {x:Str} {p pos:Pos} {e:Expr} {es:List Expr} {t:TA} {id T:String} {r:List V->Hp->VK->Prop}
def tCB (r:List V->Hp->VK->Prop) (t:TA):TE:=fun σ H Q=>t σ H fun vs H1=>r vs H1 Q
theorem bT (hc:CallR X (.builtin id) r) (hg:Gl X x) (hm:X.mg x=none) (hv:bootBuiltins x=some (.builtin id)) (ha:PA X (e::es) t) (hn:x≠"__name__":=by decide) (hdb:(x == ("__debug__":Str))=false:=by decide)
 (he:starEach (e::es) X.env=(false,eval e X.env)::starEach es X.env:=by rfl) (hpl:(backTo pos (starEach es X.env)).any (·.1)=false:=by rfl):PE X (.Call (.Name x p) (e::es) [] pos) (tCB r t):=by
 intro pins s σ H Q I h
 refine wpAny_Call_Name_kw (f6 I hg hm hv ?_ hn hdb)
 exact PyProof.Rows.callWith_builtin1 (thn (ha pos pins s σ H _ I h) fun us s1 ⟨vs,H1,I1,r1,q1⟩=>hc pins s1 σ H1 vs us Q I1 r1 q1) he hpl
theorem io (hc:CallR X (.type T) r) (hg:Gl X x) (hm:X.mg x=none) (hv:bootBuiltins x=some (.type T)) (ha:PA X (e::es) t) (hn:x≠"__name__":=by decide) (hdb:(x == ("__debug__":Str))=false:=by decide)
 (he:starEach (e::es) X.env=(false,eval e X.env)::starEach es X.env:=by rfl) (hpl:(backTo pos (starEach es X.env)).any (·.1)=false:=by rfl):PE X (.Call (.Name x p) (e::es) [] pos) (tCB r t):=by
 intro pins s σ H Q I h
 refine wpAny_Call_Name_kw (f6 I hg hm hv ?_ hn hdb)
 exact PyProof.Rows.callWith_type1 (thn (ha pos pins s σ H _ I h) fun us s1 ⟨vs,H1,I1,r1,q1⟩=>hc pins s1 σ H1 vs us Q I1 r1 q1) he hpl
end
end L2
namespace HT
open PySem PyProof.Rows
section
open PySem.SeqAt
open PySem.AutoSeq1 (wpAny_loadPart')
open PySem.MeetsSeq PySem.MeetsSeq2 PySem.MeetsSeq3
end
section
variable {prog:Program} {w:World} {A:Around} {E:Value->Shared->Prop} {s:Shared}
def sIx (n d:Nat):Option Int->Nat
 | none=>d
 | some v=>if v<0 then (v+(n:Int)).toNat else min v.toNat n
theorem sIx_none (n d:Nat):sIx n d none=d:=rfl
theorem sIx_nat (n d k:Nat):sIx n d (some (k:Int))=min k n:=by
 show (if (k:Int)<0 then ((k:Int)+(n:Int)).toNat else min (k:Int).toNat n)=min k n
 rw [if_neg (by omega),Int.toNat_natCast]
end
end HT
namespace L2
open PySem PySem.Spec PyProof.Rows
abbrev TO:=St->Hp->(Option Int->Hp->Prop)->Prop
def PO (X:Cx) (e:Option Expr) (t:TO):Prop :=
 ∀ (pins:List (Addr×Obj)) (s:Shared) (σ:St) (H:Hp) (Q:Option Int->Hp->Prop),Inv X pins σ H s->t σ H Q ->
   wpAny (model X.prog X.w) X.A (evalPart e X.env) (fun u s'=>∃ o H',Inv X pins σ H' s'/\IsPart u o/\Q o H') X.xe s
def BC:TO:=fun _ H Q=>Q none H
def BB (t:TE):TO:=fun σ H Q=>t σ H fun x H1=>∃ i,x=.int i/\Q (some i) H1
theorem nO {ns:List Int}:∀ {us:List Value},Vals (ns.map V.int) us->IntsAre us ns:=by
 induction ns with
 | nil=>intro us r;rw [List.map_nil] at r;cases r;exact .nil
 | cons n ns ih =>
   intro us r
   rw [List.map_cons] at r
   cases r with
   | cons r1 r2 =>
     obtain ⟨t,e⟩:=r1
     subst e
     exact .cons n t (ih r2)
section
variable {X:Cx} {e:Expr} {te:TE} {lo hi:Option Expr} {tl th:TO} {pos p2:Pos}
theorem nh:PO X none BC:=by
 intro pins s σ H Q I h
 rw [evalPart_none]
 exact wpAny_pure ⟨none,H,I,.none,h⟩
theorem ng (h:PE X e te):PO X (some e) (BB te):=by
 intro pins s σ H Q I hw
 rw [evalPart_some]
 refine thn (h pins s σ H _ I hw) fun u s1 ⟨x,H1,I1,r1,q1⟩=>?_
 obtain ⟨i,rfl,q⟩:=q1
 obtain ⟨t,rfl⟩:=r1
 exact ⟨some i,H1,I1,.int i t,q⟩
def SlR (X:Cx) (r:V->Option Int->Option Int->Hp->VK->Prop):Prop :=
 ∀ (pins:List (Addr×Obj)) (s:Shared) (σ:St) (H:Hp) (x:V) (v vl vu:Value) (lo hi:Option Int) (sl:Addr) (Q:VK),Inv X pins σ H s->RelV x v->s.heap.IsSliceOf sl vl vu .none->IsPart vl lo->IsPart vu hi->r x lo hi H Q ->
   ∃ T id,typeLookup (.type T) "__getitem__"=pure (some (.builtin id))/\s.TypeIs v T/\wpAny (model X.prog X.w) X.A (getItem v (.ref sl)) (EP X pins σ Q) X.xe s
theorem SlR.or {r r':V->Option Int->Option Int->Hp->VK->Prop} (h:SlR X r) (h':SlR X r'):SlR X (fun x lo hi H Q=>r x lo hi H Q\/r' x lo hi H Q):=by
 intro pins s σ H x v vl vu lo hi sl Q I rx hs pl pu q
 rcases q with q | q
 ·exact h pins s σ H x v vl vu lo hi sl Q I rx hs pl pu q
 ·exact h' pins s σ H x v vl vu lo hi sl Q I rx hs pl pu q
def tSl (r:V->Option Int->Option Int->Hp->VK->Prop) (te:TE) (tl th:TO):TE:=fun σ H Q=>te σ H fun x H1=>tl σ H1 fun l H2=>th σ H2 fun u H3=>r x l u H3 Q
theorem nk {r:V->Option Int->Option Int->Hp->VK->Prop} (hr:SlR X r) (he:PE X e te) (hl:PO X lo tl) (hu:PO X hi th):PE X (.Subscript e (.Slice lo hi none p2) pos) (tSl r te tl th):=by
 intro pins s σ H Q I h
 refine Subscript_ (thn (he pins s σ H _ I h) fun v s1 ⟨x,H1,I1,r1,q1⟩=>?_)
 refine wpAny_Slice (thn (hl pins s1 σ H1 _ I1 q1) fun vl s2 ⟨l,H2,I2,pl,q2⟩=>thn (hu pins s2 σ H2 _ I2 q2) fun vu s3 ⟨u,H3,I3,pu,q3⟩=>?_)
 rw [evalPart_none]
 refine wpAny_pure ?_
 have I4:Inv X pins σ H3 { s3 with heap:=s3.heap.push { cls:=.type "slice",data:=.fields #[vl,vu,.none] } }:=I3.kept (t':=s3.toks) fun b ob q=>Heap.get?_push_of_some _ q
 obtain ⟨T,id,hT,ht,hg⟩:=hr pins { s3 with heap:=s3.heap.push { cls:=.type "slice",data:=.fields #[vl,vu,.none] } } σ H3 x v vl vu l u s3.heap.objs.size Q I4 r1 (Heap.IsSliceOf.new ..) pl pu q3
 show wpAny (model X.prog X.w) X.A (subscriptTail e (.Slice lo hi none p2) v (.ref s3.heap.objs.size)) (EP X pins σ Q) X.xe { s3 with heap:=s3.heap.push { cls:=.type "slice",data:=.fields #[vl,vu,.none] } }
 exact tail_any (ops:=[.ref s3.heap.objs.size,v]) ht hT hg (by with_unfolding_all rfl)
def gO (xs:List V) (lo hi:Option Int):List V:=(xs.drop (HT.sIx xs.length 0 lo)).take (HT.sIx xs.length xs.length hi-HT.sIx xs.length 0 lo)
theorem JX (xs:List V) (lo hi:Option Int):(gO xs lo hi).length<=xs.length:=by
 unfold gO
 rw [List.length_take,List.length_drop]
 omega
end
end L2
namespace L2
open PySem PySem.Spec PyProof.Rows
def ixN (n:Nat) (i:Int):Option Nat:=if 0<=i then (if i<n then some i.toNat else none) else if -(n:Int)<=i then some (i+n).toNat else none
def atI {α:Type} (xs:List α) (i:Int):Option α:=(ixN xs.length i).bind fun j=>xs[j]?
theorem y9 {n:Nat} {i:Int} {j:Nat} (h:ixN n i=some j):seqIndex? i n=some j/\j<n /\ -(n:Int)<=i/\i<n:=by
 unfold ixN at h
 by_cases h0:0<=i
 ·rw [if_pos h0] at h
  by_cases h1:i<n
  ·rw [if_pos h1] at h
   have e:i.toNat=j:=Option.some.inj h
   exact ⟨by rw [seqIndex_of h0 h1,e],by omega,by omega,h1⟩
  ·rw [if_neg h1] at h;cases h
 ·rw [if_neg h0] at h
  by_cases h1 : -(n:Int)<=i
  ·rw [if_pos h1] at h
   have e:(i+n).toNat=j:=Option.some.inj h
   exact ⟨by rw [seqIndex_neg (by omega) h1,e],by omega,h1,by omega⟩
  ·rw [if_neg h1] at h;cases h
theorem AL {α:Type} {xs:List α} {i:Int} {v:α} (h:atI xs i=some v):∃ j,seqIndex? i xs.length=some j/\xs[j]?=some v/\j<xs.length /\ -(xs.length:Int)<=i/\i<xs.length:=by
 unfold atI at h
 cases e:ixN xs.length i with
 | none=>rw [e] at h;cases h
 | some j =>
   rw [e] at h
   obtain ⟨h1,h2,h3,h4⟩:=y9 e
   exact ⟨j,h1,h,h2,h3,h4⟩
theorem jU {α:Type} {xs:List α} {j:Nat} {v:α} (h:xs[j]?=some v):atI xs (j:Int)=some v:=by
 have hj:j<xs.length:=(List.getElem?_eq_some_iff.mp h).1
 have e:ixN xs.length (j:Int)=some j:=by
  unfold ixN
  rw [if_pos (by omega),if_pos (by omega)];simp
 unfold atI;rw [e];exact h
theorem ur {α:Type} (xs:List α) (v:α):atI (xs++[v]) (-1)=some v:=by
 have hl:(xs++[v]).length=xs.length+1:=by simp
 have e:ixN (xs++[v]).length (-1)=some xs.length:=by
  unfold ixN
  rw [hl,if_neg (by decide),if_pos (by omega)]
  congr 1
  omega
 unfold atI
 rw [e]
 show (xs++[v])[xs.length]?=some v
 simp
def La (b:Expr):Prop:=∀ o i,subscripted b false o i=operate [o,i] (getItem o i)
def IxR (X:Cx) (r:R2):Prop :=
 ∀ (value slice:Expr) (pins:List (Addr×Obj)) (s:Shared) (σ:St) (H:Hp) (x y:V) (v u:Value) (Q:VK),Inv X pins σ H s->RelV x v->RelV y u->r x y H Q ->
   subscripted slice false v u=operate [v,u] (getItem v u)->wpAny (model X.prog X.w) X.A (subscriptTail value slice v u) (EP X pins σ Q) X.xe s
def MtR (X:Cx) (id:String) (r:V->List V->Hp->VK->Prop):Prop :=
 ∀ (pins:List (Addr×Obj)) (s:Shared) (σ:St) (H:Hp) (x:V) (xs:List V) (v:Value) (us:List Value) (Q:VK),Inv X pins σ H s->RelV x v->Vals xs us->r x xs H Q ->
   wpAny (model X.prog X.w) X.A (call (.builtin id) (v::us)) (EP X pins σ Q) X.xe s
section
variable {X:Cx} {a b:Expr} {ta tb:TE} {pos:Pos}
theorem IxR.or {r r':R2} (h:IxR X r) (h':IxR X r'):IxR X (fun x y H Q=>r x y H Q\/r' x y H Q):=by
 intro value slice pins s σ H x y v u Q I rx ry q hs
 rcases q with q | q
 ·exact h value slice pins s σ H x y v u Q I rx ry q hs
 ·exact h' value slice pins s σ H x y v u Q I rx ry q hs
theorem MtR.or {id:String} {r r':V->List V->Hp->VK->Prop} (h:MtR X id r) (h':MtR X id r'):MtR X id (fun x xs H Q=>r x xs H Q\/r' x xs H Q):=by
 intro pins s σ H x xs v us Q I rx rs q
 rcases q with q | q
 ·exact h pins s σ H x xs v us Q I rx rs q
 ·exact h' pins s σ H x xs v us Q I rx rs q
theorem aG {r:R2} (hr:IxR X r) (ha:PE X a ta) (hb:PE X b tb) (hs:La b):PE X (.Subscript a b pos) (tOp r ta tb):=by
 intro pins s σ H Q I h
 exact Subscript_ (ub ha hb I h fun v u s2 x y H2 I2 rx ry q=>hr a b pins s2 σ H2 x y v u Q I2 rx ry q (hs _ _))
def xI (K:PySem.W.Frag):R2:=fun x y H Q=>∃ p xs i v,x=.ref p/\y=.int i/\SqL K H p xs/\atI xs i=some v/\Q v H
def xH (K:PySem.W.Frag):R2:=fun x y H Q=>∃ p xs i v,x=.ref p/\y=.int i/\SqT K H p xs/\atI xs i=some v/\Q v H
theorem Hr:IxR X (xI X.K):=by
 intro value slice pins s σ H x y v u Q I rx ry h hs
 obtain ⟨p,xs,i,z,rfl,rfl,hq,he,q⟩:=h
 cases rx
 obtain ⟨t,rfl⟩:=ry
 obtain ⟨its,r,pl,hz⟩:=I.list hq
 obtain ⟨j,h1,h2,h3,h4,h5⟩:=AL he
 obtain ⟨w,ew,rw'⟩:=r.get h2
 have hl:=r.length
 have hn:=kU
 have fin:EP X pins σ Q w s:=⟨z,H,I,rw',q⟩
 by_cases h0:0<=i
 ·have hj:i.toNat=j:=by
   rw [seqIndex_of h0 h5] at h1
   exact Option.some.inj h1
  exact item_listR pl.isList h0 (by omega) (by rw [hj];simpa using ew) fin hs
 ·have hj:(i+(its.toArray.size:Int)).toNat=j:=by
   rw [seqIndex_neg (by omega) h4] at h1
   rw [List.size_toArray,<- hl]
   exact Option.some.inj h1
  exact subscriptTail_builtinR (x:=w) pl.isList.typeIs slot_list_getitem.lookup
   (wpAny_getItem_list_neg (Q:=fun r s'=>r=w/\EP X pins σ Q r s') pl.isList (by omega) (by rw [List.size_toArray]<;>omega) (by omega) (by rw [hj];simpa using ew) ⟨rfl,fin⟩) hs
theorem Hq:IxR X (xH X.K):=by
 intro value slice pins s σ H x y v u Q I rx ry h hs
 obtain ⟨p,xs,i,z,rfl,rfl,hq,he,q⟩:=h
 cases rx
 obtain ⟨t,rfl⟩:=ry
 obtain ⟨its,r,pl,hz⟩:=I.tuple hq
 obtain ⟨j,h1,h2,h3,h4,h5⟩:=AL he
 obtain ⟨w,ew,rw'⟩:=r.get h2
 have hl:=r.length
 have hn:=kU
 have fin:EP X pins σ Q w s:=⟨z,H,I,rw',q⟩
 exact subscriptTail_builtinR (x:=w) pl.typeIs slot_tuple_getitem.lookup
  (getItem_tuple (j:=j) (Q:=fun r s'=>r=w/\EP X pins σ Q r s') pl (by omega) (by omega) (by rw [List.size_toArray,<- hl];exact h1) (by simpa using ew) ⟨rfl,fin⟩) hs
theorem FL (its:List Value) (n j:Nat) (u:Value):Obj.mapSeq (·.setIfInBounds j u) { cls:=.type "list",data:=.seq its.toArray n }={ cls:=.type "list",data:=.seq (its.set j u).toArray n }:=by
 simp [Obj.mapSeq]
theorem Inv.lst {pins:List (Addr×Obj)} {σ:St} {H:Hp} {s:Shared} {p:Addr} {xs:List V} (I:Inv X pins σ H s) (h:H p=some (.lst xs)) :
 ∃ (its:List Value) (n:Nat),Vals xs its/\s.heap.get? p=some { cls:=.type "list",data:=.seq its.toArray n }/\xs.length<=sizeLine:=by
 obtain ⟨z,its,n,r,e⟩:=I.hok p _ h
 exact ⟨its,n,r,e,z⟩
theorem Inv.lstUpd {pins:List (Addr×Obj)} {σ:St} {H:Hp} {s:Shared} {p:Addr} {xs ys:List V} {its its':List Value} {n n':Nat} {f:Obj->Obj} (I:Inv X pins σ H s) (h:H p=some (.lst xs))
 (ho:s.heap.get? p=some { cls:=.type "list",data:=.seq its.toArray n }) (hf:f { cls:=.type "list",data:=.seq its.toArray n }={ cls:=.type "list",data:=.seq its'.toArray n' }) (r:Vals ys its') (hz:ys.length<=sizeLine) (t:Nat) :
 Inv X pins σ (upd H p (.lst ys)) { s with heap:=s.heap.update p f,toks:=t }:=by
 have e:(s.heap.update p f).get? p=some { cls:=.type "list",data:=.seq its'.toArray n' }:=by
  rw [Heap.get?_update_self f ho (by rw [hf]<;>rfl),hf]
 refine I.write (x:=p) (e:=p) (by rw [h];trivial) (.inl rfl) (fun b u hb q=>(Heap.get?_update_other _ _ (Ne.symm hb)).trans q) ⟨_,e⟩ ?_
 exact ⟨hz,its',n',r,e⟩
def Dp:V->V->V->Hp->(Hp->Prop)->Prop:=fun o i v H Q=>∃ p xs k j,o=.ref p/\i=.int k/\H p=some (.lst xs)/\ixN xs.length k=some j/\Q (upd H p (.lst (xs.set j v)))
theorem kn:AR X Dp:=by
 intro pins s σ H o i v ov iv u Q I ro ri rv h
 obtain ⟨p,xs,k,j,rfl,rfl,hp,hj,q⟩:=h
 cases ro
 obtain ⟨t,rfl⟩:=ri
 obtain ⟨its,n,r,ho,hz⟩:=I.lst hp
 obtain ⟨h1,h2,h3,h4⟩:=y9 hj
 have hl:=r.length
 have hn:=kU
 have I':Inv X pins σ (upd H p (.lst (xs.set j v))) { s with heap:=s.heap.update p (Obj.mapSeq (·.setIfInBounds j u)) } :=
  I.lstUpd hp ho (FL its n j u) (r.set rv j) (by rw [List.length_set];exact hz) s.toks
 by_cases h0:0<=k
 ·have hk:k.toNat=j:=by
   rw [seqIndex_of h0 h4] at h1
   exact Option.some.inj h1
  exact PySem.W.ki_setAt ho h0 (by omega) (by rw [List.size_toArray,<- hl];exact h4) (by rw [hk];exact ⟨_,I',q⟩)
 ·have hk:(k+(its.toArray.size:Int)).toNat=j:=by
   rw [seqIndex_neg (by omega) h3] at h1
   rw [List.size_toArray,<- hl]
   exact Option.some.inj h1
  exact PySem.W.ki_setBack ho (by omega) (by rw [List.size_toArray,<- hl];exact h3) (by omega) (by rw [hk];exact ⟨_,I',q⟩)
theorem BX (lo hi:Option Int) (n:Nat):(sliceBounds lo hi none n).1=((HT.sIx n 0 lo:Nat):Int)/\(sliceBounds lo hi none n).2.1=((HT.sIx n n hi:Nat):Int)/\(sliceBounds lo hi none n).2.2=1:=by
 refine ⟨?_,?_,rfl⟩
 ·cases lo with
  | none=>simp [sliceBounds,HT.sIx]
  | some i =>
    simp only [sliceBounds,HT.sIx,Option.getD_none,show (1:Int)>0 by decide,if_true]
    by_cases h:i<0
    ·simp only [h,if_true]<;>omega
    ·simp only [h,if_false]<;>omega
 ·cases hi with
  | none=>simp [sliceBounds,HT.sIx]
  | some i =>
    simp only [sliceBounds,HT.sIx,Option.getD_none,show (1:Int)>0 by decide,if_true]
    by_cases h:i<0
    ·simp only [h,if_true]<;>omega
    ·simp only [h,if_false]<;>omega
theorem BY (its:List Value) (lo hi:Option Int):slicePick its.toArray lo hi none=((its.drop (HT.sIx its.length 0 lo)).take (HT.sIx its.length its.length hi-HT.sIx its.length 0 lo)).toArray:=by
 obtain ⟨h1,h2,h3⟩:=BX lo hi its.toArray.size
 unfold slicePick
 rw [h1,h2,h3]
 simp only [sliceRange_one,pick_run,List.size_toArray]<;>rfl
def qU (K:PySem.W.Frag):V->Option Int->Option Int->Hp->VK->Prop:=fun x lo hi H Q=>∃ a xs,x=.ref a/\SqL K H a xs/\∀ p,H p=none->Q (.ref p) (upd H p (.lst (gO xs lo hi)))
theorem BZ:SlR X (qU X.K):=by
 intro pins s σ H x v vl vu lo hi sl Q I rx hs pl pu h
 obtain ⟨a,xs,rfl,hx,q⟩:=h
 cases rx
 obtain ⟨its,r,ht,hz⟩:=I.list hx
 have hlen:=r.length
 refine ⟨"list",_,slot_list_getitem.lookup,ht.isList.typeIs,?_⟩
 refine wpAny_getItem_list_slice ht.isList hs pl pu .none (by simp) ?_ (by rw [List.size_toArray]<;>omega)
 rw [BY,<- hlen]
 refine ⟨.ref s.heap.objs.size,_,I.laid (t':=s.toks) (o:=.lst (gO xs lo hi)) (fun b ob q=>Heap.get?_push_of_some _ q) (Nat.le_refl _) ?_,rfl,q _ (I.hok.fresh (Nat.le_refl _))⟩
 exact ⟨Nat.le_trans (JX xs lo hi) hz,_,0,(r.drop (HT.sIx xs.length 0 lo)).take (HT.sIx xs.length xs.length hi-HT.sIx xs.length 0 lo),Heap.get?_push_size _ rfl⟩
theorem Kc:CallR X (.builtin "len") (fun xs H Q=>∃ p ys,xs=[.ref p]/\(SqL X.K H p ys\/SqT X.K H p ys)/\Q (.int ys.length) H):=by
 intro pins s σ H xs us Q I r h
 obtain ⟨p,ys,rfl,hq,q⟩:=h
 obtain ⟨u,rfl,rx⟩:=gB r
 cases rx
 have hn:=kU
 rcases hq with hq | hq
 ·obtain ⟨its,r',pl,hz⟩:=I.list hq
  have hlen:=r'.length
  exact Calls.call_len_list pl.isList (by simp only [List.size_toArray]<;>omega) ⟨.int ys.length,H,I.tok _,⟨s.toks+1,by rw [List.size_toArray,hlen]⟩,q⟩
 ·obtain ⟨its,r',pl,hz⟩:=I.tuple hq
  have hlen:=r'.length
  exact len_tuple pl (by simp only [List.size_toArray]<;>omega) ⟨.int ys.length,H,I.tok _,⟨s.toks+1,by rw [List.size_toArray,hlen]⟩,q⟩
theorem CallR.or {f:Value} {r r':List V->Hp->VK->Prop} (h:CallR X f r) (h':CallR X f r'):CallR X f (fun xs H Q=>r xs H Q\/r' xs H Q):=by
 intro pins s σ H xs us Q I rs q
 rcases q with q | q
 ·exact h pins s σ H xs us Q I rs q
 ·exact h' pins s σ H xs us Q I rs q
theorem Kb:CallR X (.type "list") (fun xs H Q=>∃ p ys,xs=[.ref p]/\(SqL X.K H p ys\/SqT X.K H p ys)/\∀ l,H l=none->Q (.ref l) (upd H l (.lst ys))):=by
 intro pins s σ H xs us Q I r h
 obtain ⟨p,ys,rfl,hq,q⟩:=h
 obtain ⟨u,rfl,rx⟩:=gB r
 cases rx
 have fin:∀ (its:List Value),Vals ys its->ys.length<=sizeLine->∀ (h':Heap) (c':Nat),(∀ b o',s.heap.get? b=some o'->h'.get? b=some o') ->
  h'.get? s.heap.objs.size=some { cls:=.type "list",dict:=none,data:=.seq its.toArray c',slots:=#[] }->EP X pins σ Q (.ref s.heap.objs.size) { s with heap:=h' }:=fun its r' hz h' c' kp e =>
  ⟨.ref s.heap.objs.size,_,I.laid (t':=s.toks) kp (Nat.le_refl _) (show ObjOk X.prog X.w _ h' _ (.lst ys) from ⟨hz,its,c',r',e⟩),rfl,q _ (I.hok.fresh (Nat.le_refl _))⟩
 rcases hq with hq | hq
 ·obtain ⟨its,r',pl,hz⟩:=I.list hq
  have hlen:=r'.length
  obtain ⟨o,ho,hc,n,hd⟩:=pl.isList
  exact call_list_seq p (.inl rfl) ho hc hd (fun h' c' kp e=>fin its r' hz h' c' kp e) (by simp only [List.size_toArray]<;>omega)
 ·obtain ⟨its,r',pl,hz⟩:=I.tuple hq
  have hlen:=r'.length
  obtain ⟨o,ho,hc,n,hd⟩:=pl
  exact call_list_seq p (.inr rfl) ho hc hd (fun h' c' kp e=>fin its r' hz h' c' kp e) (by simp only [List.size_toArray]<;>omega)
def tyV (K:PySem.W.Frag) (T:String) (x:V) (H:Hp):Prop:=match x with
 | .str _=>T="str"
 | .int _=>T="int"
 | .ref p=>(T="list"/\∃ xs,SqL K H p xs)\/(T="tuple"/\∃ o,K.lookup p=some o/\o.cls=.type "tuple"/\o.dict=none) \/
  (T="dict"/\((∃ kvs,H p=some (.dK kvs))\/∃ kvs,H p=some (.dT kvs)))\/(T="set"/\∃ S n,H p=some (.set S n))
 | _=>False
theorem vp {pins:List (Addr×Obj)} {σ:St} {H:Hp} {s:Shared} {T:String} {x:V} {v:Value} (I:Inv X pins σ H s) (r:RelV x v) (ty:tyV X.K T x H) :
 s.TypeIs v T/\∀ a,v=.ref a->∃ ob,s.heap.get? a=some ob/\ob.dict=none:=by
 cases x with
 | str z =>
   obtain ⟨t,rfl⟩:=r
   cases (show T="str" from ty)
   exact ⟨typeIs_str s z t,fun _ e=>nomatch e⟩
 | int i =>
   obtain ⟨t,rfl⟩:=r
   cases (show T="int" from ty)
   exact ⟨typeIs_int s i t,fun _ e=>nomatch e⟩
 | ref p =>
   cases r
   rcases ty with ⟨rfl,xs,hq⟩ | ⟨rfl,o,hk,hc,hd⟩ | ⟨rfl,hk⟩ | ⟨rfl,S,n,hk⟩
   ·obtain ⟨its,_,pl,_⟩:=I.list hq
    refine ⟨pl.isList.typeIs,fun a e=>?_⟩
    cases e
    obtain ⟨o,n,e,c,hd,_⟩:=pl
    exact ⟨o,e,hd⟩
   ·refine ⟨⟨o,I.kIn p o hk,hc⟩,fun a e=>?_⟩
    cases e
    exact ⟨o,I.kIn _ o hk,hd⟩
   ·have z:∃ o,s.heap.get? p=some o/\o.ExactDict:=by
     rcases hk with ⟨kvs,hk⟩ | ⟨kvs,hk⟩
     ·obtain ⟨_,_,_,_,o,_,_,e,ex,_⟩:=I.hok p _ hk
      exact ⟨o,e,ex⟩
     ·obtain ⟨_,_,_,_,o,_,_,e,ex,_⟩:=I.hok p _ hk
      exact ⟨o,e,ex⟩
    obtain ⟨o,e,ex⟩:=z
    refine ⟨⟨o,e,ex.1⟩,fun a e2=>?_⟩
    cases e2
    exact ⟨o,e,ex.2.1⟩
   ·obtain ⟨o,_,_,_,e,ex,_⟩:=I.hok p _ hk
    refine ⟨⟨o,e,ex.1⟩,fun a e2=>?_⟩
    cases e2
    exact ⟨o,e,ex.2.1⟩
 | _=>exact False.elim ty
def BJ (K:PySem.W.Frag) (T:String) (r:V->List V->Hp->VK->Prop) (to:TE):TE:=fun σ H Q=>to σ H fun x H1=>tyV K T x H1/\r x [] H1 Q
def tBM (K:PySem.W.Frag) (T:String) (r:V->List V->Hp->VK->Prop) (to:TE) (t:TA):TE:=fun σ H Q=>to σ H fun x H1=>tyV K T x H1/\t σ H1 fun xs H2=>r x xs H2 Q
variable {o e:Expr} {es:List Expr} {to:TE} {t:TA} {name:Str} {apos cpos:Pos} {T id:String} {r:V->List V->Hp->VK->Prop}
theorem xZ (pa:PlainAttrs T) (slot:Slot T name id) (hty:typeOf (.builtin id)=pure (.type "method_descriptor")) (hm:MtR X id r) (ho:PE X o to)
 (hbase:attributeBase o name X.env (eval o X.env)=eval o X.env:=by rfl) (hline:(apos.endLine == cpos.line)=true:=by rfl):PE X (.Call (.Attribute o name apos) [] [] cpos) (BJ X.K T r to):=by
 intro pins s σ H Q I h
 refine wpAny_Call_method0_late hbase hline (thn (ho pins s σ H _ I h) fun v s1 ⟨x,H1,I1,r1,ty,q1⟩=>?_)
 obtain ⟨h1,h2⟩:=vp I1 r1 ty
 exact ⟨T,id,pa,slot,hty,h1,h2,Calls.callWith_builtin rfl (PySem.evalArgs_none (hm pins s1 σ H1 x [] v [] Q I1 r1 .nil q1))⟩
theorem kH (pa:PlainAttrs T) (slot:Slot T name id) (hty:typeOf (.builtin id)=pure (.type "method_descriptor")) (hm:MtR X id r) (ho:PE X o to) (ha:PA X (e::es) t)
 (hbase:attributeBase o name X.env (eval o X.env)=eval o X.env:=by rfl)
 (hfew:((backTo cpos (starEach (e::es) X.env)).all (fun x=>!x.1)&&(backToKw cpos (keywordEach [] X.env)).all (fun x=>x.1.isSome)
   && decide ((e::es).length+([]:List Keyword).length+(if ([]:List Keyword).isEmpty then 0 else 1)<30))=true:=by rfl)
 (hline:(apos.endLine == cpos.line)=true:=by rfl) (hs:starEach (e::es) X.env=(false,eval e X.env)::starEach es X.env:=by rfl) (hplain:(backTo cpos (starEach es X.env)).any (·.1)=false:=by rfl) :
 PE X (.Call (.Attribute o name apos) (e::es) [] cpos) (tBM X.K T r to t):=by
 intro pins s σ H Q I h
 refine wpAny_Call_method_late hbase hfew hline rfl (thn (ho pins s σ H _ I h) fun v s1 ⟨x,H1,I1,r1,ty,q1⟩=>?_)
 obtain ⟨h1,h2⟩:=vp I1 r1 ty
 refine ⟨T,id,pa,slot,hty,h1,h2,?_⟩
 have hA:=ha cpos pins s1 σ H1 _ I1 q1
 rw [hs] at hA ⊢
 refine Calls.callWith_builtin (by show (false || (backTo cpos (starEach es X.env)).any (·.1))=false;rw [hplain]<;>rfl) (Calls.evalArgs_plain ?_)
 exact thn hA fun us s2 ⟨vs,H2,I2,r2,q2⟩=>hm pins s2 σ H2 x vs v us Q I2 r1 r2 q2
end
end L2
namespace L2
open PySem PySem.Spec PyProof.Rows
def MtM (X:Cx) (id:String) (r:V->List V->Hp->VK->Prop):Prop :=
 ∀ (pins:List (Addr×Obj)) (s:Shared) (σ:St) (H:Hp) (x:V) (xs:List V) (v:Value) (us:List Value) (Q:VK),Inv X pins σ H s->RelV x v->Vals xs us->r x xs H Q ->
   wpAny (model X.prog X.w) X.A (call (.builtin id) (v::us)) (EP X pins σ Q) X.xe s
theorem Vals.one:∀ {x:V} {us:List Value},Vals [x] us->∃ u,us=[u]/\RelV x u
 | _,_,.cons r .nil=>⟨_,rfl,r⟩
theorem Vals.two:∀ {x y:V} {us:List Value},Vals [x,y] us->∃ u v,us=[u,v]/\RelV x u/\RelV y v
 | _,_,_,.cons r (.cons q .nil)=>⟨_,_,rfl,r,q⟩
theorem Vals.zero:∀ {us:List Value},Vals [] us->us=[]
 | _,.nil=>rfl
theorem Vals.dropLast {xs:List V} {us:List Value} (h:Vals xs us):Vals xs.dropLast us.dropLast:=by
 induction h with
 | nil=>exact .nil
 | cons r t ih =>
   cases t with
   | nil=>exact .nil
   | cons q t'=>exact .cons r ih
theorem Vals.eraseIdx:∀ {xs:List V} {us:List Value} (i:Nat),Vals xs us->Vals (xs.eraseIdx i) (us.eraseIdx i)
 | _,_,_,.nil=>.nil
 | _,_,0,.cons _ t=>t
 | _,_,i+1,.cons r t=>.cons r (Vals.eraseIdx i t)
theorem Vals.reverse {xs:List V} {us:List Value} (h:Vals xs us):Vals xs.reverse us.reverse:=by
 induction h with
 | nil=>exact .nil
 | cons r t ih=>rw [List.reverse_cons,List.reverse_cons];exact Vals.append ih (.cons r .nil)
theorem Vals.rep {xs:List V} {us:List Value} (h:Vals xs us):∀ k:Nat,Vals (List.replicate k xs).flatten (List.replicate k us).flatten
 | 0=>.nil
 | k+1=>by
   rw [List.replicate_succ,List.replicate_succ,List.flatten_cons,List.flatten_cons]
   exact Vals.append h (Vals.rep h k)
theorem JN {α:Type} (l:List α):l.eraseIdx (l.length-1)=l.dropLast:=by
 induction l with
 | nil=>rfl
 | cons a r ih =>
   cases r with
   | nil=>rfl
   | cons b r =>
     have e:(a::b::r).length-1=((b::r).length-1)+1:=by
      have h1:(a::b::r).length=r.length+2:=rfl
      have h2:(b::r).length=r.length+1:=rfl
      omega
     rw [e,List.eraseIdx_cons_succ,ih]
     all_goals rfl
theorem zw (its:List Value):∀ (k:Nat) (acc:List Value),
 List.foldl (fun x1 x2=>x1++x2) acc.toArray (List.replicate k its.toArray)=(acc++(List.replicate k its).flatten).toArray
 | 0,acc=>by simp
 | k+1,acc=>by
   have e:acc.toArray++its.toArray=(acc++its).toArray:=by simp
   have e2:(acc++its)++(List.replicate k its).flatten=acc++(List.replicate (k+1) its).flatten:=by
    rw [List.replicate_succ,List.flatten_cons,List.append_assoc]
   rw [<- e2,<- zw its k (acc++its),<- e,List.replicate_succ,List.foldl_cons]
section
variable {X:Cx} {pins:List (Addr×Obj)} {σ:St} {H:Hp} {s:Shared} {l b:Addr} {xs ys zs:List V}
theorem Inv.lset {its its':List Value} {n:Nat} {f:Array Value->Array Value} {t':Nat} (I:Inv X pins σ H s) (hH:H l=some (.lst xs))
 (e:s.heap.get? l=some { cls:=.type "list",data:=.seq its.toArray n }) (hf:f its.toArray=its'.toArray) (hv:Vals ys its') (hz:ys.length<=sizeLine) :
 Inv X pins σ (upd H l (.lst ys)) { s with heap:=s.heap.update l (Obj.mapSeq f),toks:=t' }:=by
 have q:=PySem.IsL.update e f
 rw [hf] at q
 refine I.write (x:=l) (e:=l) (by rw [hH];exact trivial) (.inl rfl) (fun b' u hb hu=>(Heap.get?_update_other s.heap (Obj.mapSeq f) (Ne.symm hb)).trans hu) ⟨_,q⟩ ?_
 exact ⟨hz,its',_,hv,q⟩
theorem Inv.lnew {its:List Value} {t':Nat} (I:Inv X pins σ H s) (hv:Vals ys its) (hz:ys.length<=sizeLine) :
 Inv X pins σ (upd H s.heap.objs.size (.lst ys)) { s with heap:=s.heap.push { cls:=.type "list",data:=.seq its.toArray },toks:=t' } :=
 I.laid (fun _ _ q=>Heap.get?_push_of_some _ q) (Nat.le_refl _) ⟨hz,its,0,hv,Heap.get?_push_size _ rfl⟩
theorem Inv.fresh (I:Inv X pins σ H s):H s.heap.objs.size=none:=I.hok.fresh (Nat.le_refl _)
theorem Inv.lstM (I:Inv X pins σ H s) (hH:H l=some (.lst xs)):xs.length<=sizeLine/\∃ (its:List Value) (n:Nat),Vals xs its/\xs.length=its.length/\s.heap.get? l=some { cls:=.type "list",data:=.seq its.toArray n }:=by
 obtain ⟨z,its,n,r,e⟩:=I.hok l _ hH
 exact ⟨z,its,n,r,r.length,e⟩
theorem Ft {n:Nat} (h:n<=sizeLine):Builtin.List.listTooLong n=false:=by
 unfold Builtin.List.listTooLong
 exact decide_eq_false (by omega)
end
section
variable {X:Cx}
def Dx:V->List V->Hp->VK->Prop:=fun x vs H Q=>∃ l xs y,x=.ref l/\vs=[y]/\H l=some (.lst xs)/\xs.length<sizeLine/\Q .non (upd H l (.lst (xs++[y])))
theorem kM:MtM X "list.append" Dx:=by
 intro pins s σ H x vs v us Q I rx rv h
 obtain ⟨l,xs,y,rfl,rfl,hH,hz,q⟩:=h
 cases rx
 obtain ⟨u,rfl,ru⟩:=rv.one
 obtain ⟨z,its,n,r,hl,e⟩:=I.lstM hH
 refine call_meets F.slot_list_append ⟨_,e,rfl⟩ F.entry_list_append (F.args_list_append_2 _ _) (PySem.list_append l its.toArray n u (by rw [List.size_toArray];omega)) ⟨e,?_⟩
 refine ⟨.non,_,I.lset (its':=its++[u]) hH e (by simp) (r.append (.cons ru .nil)) ?_,rfl,q⟩
 rw [List.length_append,List.length_singleton]
 omega
def Ds:V->List V->Hp->VK->Prop:=fun x vs H Q=>∃ l xs y,x=.ref l/\vs=[]/\H l=some (.lst xs)/\xs[xs.length-1]?=some y/\Q y (upd H l (.lst xs.dropLast))
theorem FB:MtM X "list.pop" Ds:=by
 intro pins s σ H x vs v us Q I rx rv h
 obtain ⟨l,xs,y,rfl,rfl,hH,hy,q⟩:=h
 cases rx
 have hus:=rv.zero
 subst hus
 obtain ⟨z,its,n,r,hl,e⟩:=I.lstM hH
 obtain ⟨u,hu,ru⟩:=r.get hy
 have hy':its.toArray[its.toArray.size-1]?=some u:=by
  show its.toArray[its.length-1]?=some u
  rw [<- Array.getElem?_toList,<- hl]
  exact hu
 refine call_meets F.slot_list_pop ⟨_,e,rfl⟩ F.entry_list_pop (F.args_list_pop_1 _) (MeetsSeq.list_pop_last l its.toArray n u hy' (by rw [List.size_toArray];omega)) ⟨e,?_⟩
 refine ⟨y,_,I.lset (its':=its.dropLast) hH e ?_ r.dropLast ?_,ru,q⟩
 ·show its.toArray.eraseIdxIfInBounds (its.toArray.size-1)=its.dropLast.toArray
  rw [List.size_toArray,List.eraseIdxIfInBounds_toArray,JN]
 ·rw [List.length_dropLast]
  omega
def Dq:V->List V->Hp->VK->Prop:=fun x vs H Q=>∃ l xs,x=.ref l/\vs=[]/\H l=some (.lst xs)/\Q .non (upd H l (.lst xs.reverse))
theorem FA:MtM X "list.reverse" Dq:=by
 intro pins s σ H x vs v us Q I rx rv h
 obtain ⟨l,xs,rfl,rfl,hH,q⟩:=h
 cases rx
 have hus:=rv.zero
 subst hus
 obtain ⟨z,its,n,r,hl,e⟩:=I.lstM hH
 refine call_meets F.slot_list_reverse ⟨_,e,rfl⟩ F.entry_list_reverse (F.args_list_reverse_1 _) (AutoSeq1.list_reverse_list_0 l its.toArray n (by rw [List.size_toArray];omega)) ⟨e,?_⟩
 refine ⟨.non,_,I.lset (its':=its.reverse) hH e (by simp) r.reverse ?_,rfl,q⟩
 rw [List.length_reverse]
 omega
def Dr:R2:=fun x y H Q=>∃ l k xs,x=.ref l/\y=.int k/\H l=some (.lst xs) /\ -(2^63)<=k/\k<2^63/\xs.length*k.toNat<=sizeLine /\
 ∀ p,H p=none->Q (.ref p) (upd H p (.lst (List.replicate k.toNat xs).flatten))
theorem GF {α:Type} (xs:List α) (k:Nat):(List.replicate k xs).flatten.length=k*xs.length:=by
 induction k with
 | zero=>simp
 | succ k ih=>rw [List.replicate_succ,List.flatten_cons,List.length_append,ih,Nat.succ_mul,Nat.add_comm]
theorem rh:OpR X (binaryOp .Mult) Dr:=by
 intro pins s σ H x y v u Q I rx ry h
 obtain ⟨l,k,xs,rfl,rfl,hH,h1,h2,hz,q⟩:=h
 cases rx
 obtain ⟨t,rfl⟩:=ry
 obtain ⟨z,its,n,r,hl,e⟩:=I.lstM hH
 have hlen:its.toArray.size*k.toNat<=sizeLine:=by rw [List.size_toArray,<- hl];exact hz
 have hcap:¬ its.toArray.size*k.toNat>(2^63-1)/8:=by
  have:(sizeLine:Nat)<=(2^63-1)/8:=by decide
  omega
 have hfit:¬ (!Builtin.List.listFitsIndex k)=true:=by
  rw [fitsIndex_both h1 h2]
  exact Bool.false_ne_true
 have hlong:¬ Builtin.List.listTooLong (its.toArray.size*k.toNat)=true:=by
  rw [Ft hlen]
  exact Bool.false_ne_true
 have hnew:List.foldl (fun x1 x2=>x1++x2) #[] (List.replicate (if its.toArray.isEmpty=true then 0 else k.toNat) its.toArray)=(List.replicate k.toNat its).flatten.toArray:=by
  have f0:∀ m:Nat,List.foldl (fun x1 x2=>x1++x2) #[] (List.replicate m its.toArray)=(List.replicate m its).flatten.toArray:=fun m=>by
   have:=zw its m []
   rw [List.nil_append] at this
   exact this
  rw [f0]
  cases its with
  | nil=>simp
  | cons a r'=>rw [if_neg (by simp)]
 refine wpAny_binaryOp_repeat_ref (T:="list") (U:="int") (by decide) ⟨_,e,rfl⟩ (fun s'=>typeIs_int s' k t) noFill_list_mul F.fills_int_mul F.slot_int_rmul repeat_list F.slot_int_index.lookup
  (call_meets F.slot_int_rmul (typeIs_int s k t) F.entry_int_rmul (F.args_int_rmul_2 _ _) (int___rmul___int_list k t l its.toArray n)
    ⟨e,rfl,⟨_,e,rfl⟩,call_meets F.slot_list_mul ⟨_,e,rfl⟩ F.entry_list_mul (F.args_list_mul_2 _ _) (AutoListH.list___mul___list_int_3 l its.toArray n k t hfit hcap hlong) ⟨e,?_⟩⟩)
 rw [hnew]
 exact ⟨.ref _,_,I.lnew (t':=s.toks) (r.rep k.toNat) (by rw [GF,Nat.mul_comm];exact hz),rfl,q _ I.fresh⟩
end
section
variable {prog:Program} {w:World} {A:Around} {E:Value->Shared->Prop} {s:Shared}
end
section
variable {X:Cx}
end
end L2
namespace Att
open PySem PySem.W PySem.Calls PyProof.Rows
theorem Hv {P:Params} {h:Heap}:∀ (ns:List Int) (vs:List Value),WellAll P h vs (ns.map WData.int)->IntsAre vs ns:=by
 intro ns
 induction ns with
 | nil =>
   intro vs w
   rw [List.map_nil] at w
   cases w
   exact .nil
 | cons n ns ih =>
   intro vs w
   rw [List.map_cons] at w
   cases w with
   | cons a b =>
     cases a
     exact .cons _ _ (ih _ b)
theorem Ck {l:OpenLaw} {n:Nat} (hn:l.most=some n) {P:Params} {h:Heap} {args:List WData} {vals:List Value}
 (hpre:l.row.toRowW.claim.pre args=true) (hwl:WellAll P h vals args) :
 ∃ a vs ns,vals=[Value.ref a]/\args=[WData.list (ns.map WData.int)]/\h.get? a=some { cls:=.type "list",data:=.seq vs.toArray }/\IntsAre vs ns/\ns.length<=n:=by
 have hsh:WShape.hasAll [] args [.list .int]=true:=(pre_splitW hpre).1
 have hc:l.pre.holds [] { args:=args }=true:=(pre_splitW hpre).2
 obtain ⟨d,r,rfl,h1,h2⟩:=hasAllW_cons hsh
 obtain rfl:=hasAllW_nil h2
 obtain ⟨xs,rfl,h3⟩:=hasW_list h1
 obtain ⟨ns,rfl⟩:=items_int h3
 have hlen:ns.length<=n:=by
  unfold OpenLaw.pre at hc
  have h4:(WTm.not (.lt (.lit (.int (n:Int))) (.len (.arg 0)))).holds [] { args:=[.list (ns.map .int)] }=true:=by
   have h4:=(holds_andW hc).1
   rw [hn] at h4
   exact h4
  have h5:=condW_of h4 (w_not (w_lt w_lit (w_len_list (w_arg rfl))))
  rw [List.length_map] at h5
  refine Nat.le_of_not_lt fun q=>?_
  have q':(n:Int)<((ns.length:Nat):Int):=by omega
  first
   | (rw [decide_eq_true q'] at h5;exact absurd h5 (by decide))
   | (simp at h5;omega)
 cases hwl with
 | cons w1 w2 =>
   cases w2
   cases w1 with
   | list ho hall=>exact ⟨_,_,ns,rfl,rfl,ho,Hv ns _ hall,hlen⟩
theorem DG (l:OpenLaw) (args:List WData):l.row.toRowW.claim.post args (.bool true) args=true :=
 postW_of (r:=l.row.toRowW) (X:=(true == true))
  (show WShape.has [] (.bool true) .bool=true by first | rfl | decide | simp [WShape.has,WShape.arms,WShape.armsAll])
  (show (WTm.eq .res (.lit (.bool true))).value [] { args:=args,res:=some (.bool true),after:=args }=some (.bool (true == true)) from w_eq_bool (w_res rfl) w_lit) rfl
theorem attach_call {l:OpenLaw} {n:Nat} {q:Program} {loose:List Str} {XP:(Str->Option Value)->Heap->Prop} {YP:World->Heap->Prop} {d:DefRec}
 (hn:l.most=some n) (hdf:d.params.defaults=[])
 (call:∀ (w:World) (s₀ s₁:Shared) (mg mb:Str->Option Value) (fa:Addr) (o:Obj) (pm cd doc:Value) (a:Addr) (vs:List Value) (ns:List Int),
   Ground q loose [] XP w s₀ mg mb s₁.heap->YP w s₁.heap ->
   s₁.heap.get? fa=some o->o.data=.func (docDef d.name d.params d.body d.scope pm cd doc)->s₁.heap.CodeRec cd d.name->mg d.name=some (.ref fa) ->
   s₁.heap.get? a=some { cls:=.type "list",data:=.seq vs.toArray }->IntsAre vs ns->ns.length<=n->s₁.gens=#[] ->
   codeAny (model l.prog w) callerA (.call (.ref fa) ⟨[.ref a],[]⟩) (fun r s'=>r=.ok (.ret (.bool true))/\OldK s₁.heap s'.heap/\s'.os=s₁.os/\AllBare s'.gens) s₁) :
 WalkO q loose XP YP l.row.toRowW d [] (fun f vs=>PySem.call f vs):=by
 intro w s₀ s₁ mg mb G Y fa o pm cd doc dV kV ho hd hcd hD hmg hg args vals as hpre hlay hrd hwl hlo
 obtain rfl:dV=.none:=Dflts.none hD hdf
 obtain rfl:kV=.none:=Dflts.noKw hD
 obtain ⟨a,vs,ns,rfl,rfl,hobj,hints,hlen⟩:=Ck hn hpre hwl
 refine enter_call (codeAny_mono (call w s₀ s₁ mg mb fa o pm cd doc a vs ns G Y ho (fd_plain hd) hcd hmg hobj hints hlen hg) fun r s' hq=>?_)
 obtain ⟨rfl,h2,h3,h4⟩:=hq
 exact ⟨.inl ⟨.bool true,.bool true,[],rfl,fun _=>rfl,.bool true,DG l _,fun _=>⟨List.Pairwise.nil,fun _ hm=>(nomatch hm)⟩⟩,h2,h3,h4⟩
section
variable {prog:Program} {w:World} {A:Around} {E:Value->Shared->Prop} {s:Shared} {K:Frag}
end
end Att
namespace L2
open PySem PySem.Spec PyProof.Rows
theorem vf:∀ {vs:List Value} {ns:List Int},IntsAre vs ns->Vals (ns.map V.int) vs
 | _,_,.nil=>.nil
 | _,_,.cons n t h=>.cons ⟨t,rfl⟩ (vf h)
def uz (H:Hp):Prop:=∀ b,H b=none\/∃ o xs,H b=some (.frz o (.lst xs))
end L2
namespace L2
open PySem PySem.Spec PyProof.Rows
end L2
namespace L2
open PySem PySem.Spec PyProof.Rows
def iE (s:Stmt) (j:Nat):Stmt:=match s with
 | .ClassDef _ _ _ body _ _ _ _ _ _ _=>body.getD j (.Pass ⟨0,0,0,0⟩)
 | _=>.Pass ⟨0,0,0,0⟩
def dB (s:Stmt):Arguments:=match s with
 | .FunctionDef _ a _ _ _ _ _ _ _ _=>a
 | _=>{ posonlyargs:=[],args:=[],vararg:=none,kwonlyargs:=[],kw_defaults:=[],kwarg:=none,defaults:=[] }
def de (s:Stmt):List Stmt:=match s with
 | .FunctionDef _ _ b _ _ _ _ _ _ _=>b
 | _=>[]
def aD (s:Stmt):Scope:=match s with
 | .FunctionDef _ _ _ _ _ _ sc _ _ _=>sc
 | _=>{ kind:=.function,names:=[],isGenerator:=false,isCoroutine:=false }
abbrev CX0:CXT:=fun _ _ _ _ _ _=>False
abbrev E0:XK:=fun _ _ _=>False
theorem aj {X:Cx}:i8 CX0 X E0:=fun _ _ _ _ _ _ _ h=>h.elim
structure Fun (K:PySem.W.Frag) (x qual:Str) (st:Stmt) (f:Addr) (fd:FuncData):Prop where
 ex:∃ (oc:Value) (od:Option Addr) (kV doc pm:Value) (an:Option Addr) (cdv ct:Value) (osl:Array (Option Value)),
  fd=PySem.W.fnOf x qual (dB st) (de st) (aD st) .none kV doc pm an cdv ct/\K.lookup f=some ⟨oc,od,.func fd,osl⟩/\PySem.W.codeIn K cdv qual=true
 kp:PySem.W.keepIn K (.ref f)=true
section
variable {P:Program} {w:World} {K:PySem.W.Frag} {mg:Str->Option Value} {base:Heap}
theorem Fun.ok {x qual:Str} {st:Stmt} {f:Addr} {fd:FuncData} {N ps:List Str} {k:Nat} {sp:Sp} (F:Fun K x qual st f fd) (S:FnScope N ps (aD st)) (len:∀ vs H Q E,sp vs H Q E->vs.length=ps.length)
 (hbody:∀ (cdv:Value) (A:Around) (outer:List Env) (s:Shared) (H:Hp) (vs:List V) (Q:VK) (E:XK),Room k (A.deeper (envOfC qual (aD st) s.heap.objs.size f cdv))->sp vs H Q E ->
   ∃ t,PSs (iU CX0 P w K mg base N qual (aD st) f cdv A outer s H E).nox (de st) t/\t { nx:=fun _ H'=>Q .non H',rt:=Q } (start N vs) H):FnOk P w K mg base CX0 (k+1) f fd ps sp:=by
 obtain ⟨oc,od,kV,doc,pm,an,cdv,ct,osl,rfl,lk,hcd⟩:=F.ex
 refine zy lk hcd S len fun A outer s H vs Q E hr hsp=>?_
 obtain ⟨t,h,q⟩:=hbody cdv A outer s H vs Q E hr hsp
 exact ⟨t,h.nox,q⟩
theorem Fun.binds {x qual:Str} {st:Stmt} {f:Addr} {fd:FuncData} {ps:List Str} (F:Fun K x qual st f fd)
 (h:∀ (kV doc pm:Value) (an:Option Addr) (cdv ct:Value) (us:List Value),us.length=ps.length->bindArgs (PySem.W.fnOf x qual (dB st) (de st) (aD st) .none kV doc pm an cdv ct) ⟨us,[]⟩=pure (ps.zip us)):Binds K fd ps []:=by
 obtain ⟨oc,od,kV,doc,pm,an,cdv,ct,osl,rfl,lk,hcd⟩:=F.ex
 exact .all (h kV doc pm an cdv ct)
theorem zt {x qual:Str} {st:Stmt} {f:Addr} {oc:Value} {od an:Option Addr} {osl:Array (Option Value)} {kV doc pm cdv ct:Value} (l:K.lookup f=some ⟨oc,od,.func (PySem.W.fnOf x qual (dB st) (de st) (aD st) .none kV doc pm an cdv ct),osl⟩)
 (c:PySem.W.codeIn K cdv qual=true) (k:PySem.W.keepIn K (.ref f)=true):Fun K x qual st f (PySem.W.fnOf x qual (dB st) (de st) (aD st) .none kV doc pm an cdv ct):=⟨⟨oc,od,kV,doc,pm,an,cdv,ct,osl,rfl,l,c⟩,k⟩
end
section
variable {X:Cx}
theorem pv (i:Nat) {x:Str} {pos:Pos} (hN:X.N[i]?=some x:=by rfl) (hv:Vis X.env.scope x:=by first | exact Or.inl rfl | exact Or.inr (Or.inl rfl) | exact Or.inr (Or.inr rfl)) (hd:(x == ("__debug__":Str))=false:=by decide)
 (hcd:(x == ("__classdict__":Str))=false:=by decide):PE X (.Name x pos) (vx i):=DQ hN hv hd hcd
end
def Same (H H':Hp):Prop:=∀ b o,H b=some o->H' b=some o
theorem Same.refl (H:Hp):Same H H:=fun _ _ h=>h
theorem Same.trans {H H1 H2:Hp} (a:Same H H1) (b:Same H1 H2):Same H H2:=fun c o h=>b c o (a c o h)
theorem Same.free {H H':Hp} (e:Same H H') {l:Addr} (h:H' l=Option.none):H l=Option.none:=by
 cases q:H l with
 | none=>rfl
 | some o =>
   rw [e l o q] at h
   cases h
theorem Same.seq {K:PySem.W.Frag} {H H':Hp} {a:Addr} {xs:List V} (e:Same H H') (h:SqL K H a xs):SqL K H' a xs:=by
 rcases h with (h | ⟨o,h⟩) | h
 ·exact .inl (.inl (e _ _ h))
 ·exact .inl (.inr ⟨o,e _ _ h⟩)
 ·exact .inr h
end L2
set_option maxHeartbeats 4000000
namespace L2
open PySem PySem.Spec PyProof.Rows
def gN (X:Cx) (N:List Str) (scope:Scope) (cl:List (Str×Addr)) (C:Addr) (s₀:Shared) (H₀:Hp) (ex:List Addr):Cx where
 prog:=X.prog
 w:=X.w
 K:=X.K
 mg:=X.mg
 base:=X.base
 A:=X.A
 N:=N
 s₀:=s₀
 H₀:=H₀
 env:=compEnvC scope cl C X.env
 outer:=X.stack
 stack:=X.stack
 ex:=ex
 fn:=fun _=>false
 calm:=X.calm
 pn:=[]
 xe:=fun _ _=>False
structure CompOk (X:Cx) (fr:List Str) (js:List Nat) (scope:Scope) (cl:List (Str×Addr)):Prop where
 clos:closureFor scope X.env=pure cl
 cell:∀ y∈scope.names,y.2≠.cell
 kind:scope.kind=.function
 names:∀ y∈scope.names,y.2=.local->scope.names.lookup y.1=some .local
 clin:∀ p∈cl,X.env.cells.lookup p.1=some p.2
 has:scope.names.all (fun p=>p.2 != .free || (cl.lookup p.1).isSome)=true
 fre:Paired (fun (x:Str) (j:Nat)=>X.N[j]?=some x/\(X.env.scope.names.lookup x=some .cell\/X.env.scope.names.lookup x=some .free)/\scope.names.lookup x=some .free) fr js
theorem qR {env:Env} {x:Str} {k':NameKind}:∀ {names:List (Str×NameKind)},
 (names.map fun (n,k)=>if (k == NameKind.free&&env.scope.kind == .function&&env.kindOf n == some .cell) then (n,NameKind.cell) else (n,k)).lookup x=some k' ->
 ∃ k,names.lookup x=some k/\(k'=k\/(k=.free/\k'=.cell))
 | [],h=>by simp at h
 | (n,k)::r,h=>by
   have ih:=@qR env x k' r
   change List.lookup x ((if (k == NameKind.free&&env.scope.kind == .function&&env.kindOf n == some .cell)=true then (n,NameKind.cell) else (n,k))::_)=_ at h
   by_cases hc:(k == NameKind.free&&env.scope.kind == .function&&env.kindOf n == some .cell)=true
   ·rw [if_pos hc] at h
    cases hx:x == n with
    | true =>
      simp only [List.lookup_cons,hx] at h ⊢
      cases h
      refine ⟨k,rfl,.inr ⟨?_,rfl⟩⟩
      simp only [Bool.and_eq_true,beq_iff_eq] at hc
      exact hc.1.1
    | false =>
      simp only [List.lookup_cons,hx] at h ⊢
      exact ih h
   ·rw [if_neg hc] at h
    cases hx:x == n with
    | true =>
      simp only [List.lookup_cons,hx] at h ⊢
      cases h
      exact ⟨_,rfl,.inl rfl⟩
    | false =>
      simp only [List.lookup_cons,hx] at h ⊢
      exact ih h
theorem xv {env:Env} {x:Str}:∀ {names:List (Str×NameKind)},names.lookup x=some .free ->
 (names.map fun (n,k)=>if (k == NameKind.free&&env.scope.kind == .function&&env.kindOf n == some .cell) then (n,NameKind.cell) else (n,k)).lookup x=some .cell \/
 (names.map fun (n,k)=>if (k == NameKind.free&&env.scope.kind == .function&&env.kindOf n == some .cell) then (n,NameKind.cell) else (n,k)).lookup x=some .free
 | [],h=>by simp at h
 | (n,k)::r,h=>by
   have ih:=@xv env x r
   show List.lookup x ((if (k == NameKind.free&&env.scope.kind == .function&&env.kindOf n == some .cell)=true then (n,NameKind.cell) else (n,k))::_)=_\/List.lookup x ((if (k == NameKind.free&&env.scope.kind == .function&&env.kindOf n == some .cell)=true then (n,NameKind.cell) else (n,k))::_)=_
   by_cases hc:(k == NameKind.free&&env.scope.kind == .function&&env.kindOf n == some .cell)=true
   ·rw [if_pos hc]
    cases hx:x == n with
    | true=>simp only [List.lookup_cons,hx];exact .inl trivial
    | false=>simp only [List.lookup_cons,hx] at h ⊢;exact ih h
   ·rw [if_neg hc]
    cases hx:x == n with
    | true =>
      simp only [List.lookup_cons,hx] at h ⊢
      cases h
      exact .inr rfl
    | false=>simp only [List.lookup_cons,hx] at h ⊢;exact ih h
def iD (n:Nat) (js:List Nat) (σ:St):St:=List.replicate n none++js.map fun j=>(σ[j]?).join
def uL (n:Nat) (js:List Nat) (g:TG) (te:TE) (σ:St) (Q:VK) (J:It) (H1:Hp):Prop:=∃ W:Nat->Nat->List V->St->Hp->Prop,(∃ m,W 0 m [] (iD n js σ) H1) /\
 ∀ i m ys σ' H',W i m ys σ' H' ->
   (J.stop i H'/\∀ p,H' p=none->Q (.ref p) (upd H' p (.lst ys))) \/
   (J.go i H'/\ys.length<sizeLine/\∃ N:V->St->Hp->Prop,(∀ y σ'' H'',N y σ'' H''->∃ m',m'<m/\W (i+1) m' (ys++[y]) σ'' H'')/\∀ x H2,J.yld i H' x H2->g x σ' H2 fun σ3 H3=>te σ3 H3 fun y H4=>N y σ3 H4)
def BH (n:Nat) (js:List Nat) (wi:TI) (g:TG) (te:TE):TE:=fun σ H Q=>wi σ H fun J H1=>uL n js g te σ Q J H1
def LP (X:Cx) (pins:List (Addr×Obj)) (σ:St) (Q:VK) (D C:Addr) (s':Shared):Prop :=
 ∃ H2,Inv X pins σ H2 s'/\Q (.ref D) H2/\H2 C=none/\C≠X.env.locals/\X.s₀.heap.objs.size<=C/\(∀ x c,X.env.cells.lookup x=some c->c≠C)/\(∀ p∈X.pn++pins,p.1≠C)/\∃ m,s'.heap.Ns C m
section
variable {X:Cx} {own fr:List Str} {js:List Nat} {scope:Scope} {cl:List (Str×Addr)} {elt target iter:Expr} {pos:Pos} {wi:TI} {g:TG} {te:TE}
theorem gR (O:CompOk X fr js scope cl) {x:Str} {c:Addr} (e:cl.lookup x=some c):X.env.cells.lookup x=some c:=O.clin (x,c) (PySem.mem_of_lookup e)
theorem zS {pins:List (Addr×Obj)} {σ:St} {H:Hp} {s:Shared} {fp:List Addr} {C:Addr} (O:CompOk X fr js scope cl) (I:Inv X pins σ H s) (hC:s.heap.objs.size<=C) (hf:∀ b∈fp,fI X pins H b) (ho:∀ b∈fp,b<s.heap.objs.size) :
 (gN X (own++fr) scope cl C s H fp).Ok:=by
 refine ⟨I.ok.mod,O.kind,I.ok.glob,I.ok.blt,hC,fun x y c h1 h2=>I.ok.inj x y c (gR O h1) (gR O h2),fun x hx=>?_,fun x c h=>(by cases h),I.ok.hd,I.ok.frames,.inl rfl,fun b hb=>?_,I.bs,?_,fun b o e hb=>?_,fun b hb hb'=>?_,I.stack,I.stkFree⟩
 ·have key:scope.names.lookup x=some .free:=by
   have hx':(scope.names.map fun (n,k)=>if (k == NameKind.free&&X.env.scope.kind == .function&&X.env.kindOf n == some .cell) then (n,NameKind.cell) else (n,k)).lookup x=some .cell \/
    (scope.names.map fun (n,k)=>if (k == NameKind.free&&X.env.scope.kind == .function&&X.env.kindOf n == some .cell) then (n,NameKind.cell) else (n,k)).lookup x=some .free:=hx
   rcases hx' with h | h
   ·obtain ⟨k,e,z⟩:=qR h
    rcases z with z | ⟨z,_⟩
    ·subst z;exact absurd rfl (O.cell _ (PySem.mem_of_lookup e))
    ·subst z;exact e
   ·obtain ⟨k,e,z⟩:=qR h
    rcases z with z | ⟨_,z⟩
    ·subst z;exact e
    ·cases z
  have hm:=List.all_eq_true.mp O.has _ (PySem.mem_of_lookup key)
  have hs:(cl.lookup x).isSome=true:=by simpa using hm
  exact Option.isSome_iff_exists.mp hs
 ·obtain ⟨f0,f1,f2,f3,f4,f5⟩:=hf b hb
  exact ⟨Nat.ne_of_lt (Nat.lt_of_lt_of_le (ho b hb) hC),fun x c e=>f4 x c (gR O e)⟩
 ·exact Nat.le_trans I.ok.bsz I.sz
 ·obtain ⟨f0,f1,f2,f3,f4,f5⟩:=hf b hb
  rcases f3 with z | z
  ·exact I.ok.noex b o e z
  ·exact absurd (Nat.lt_of_lt_of_le (Heap.lt_size e) (Nat.le_trans I.ok.bsz z)) (Nat.lt_irrefl _)
 ·obtain ⟨f0,f1,f2,f3,f4,f5⟩:=hf b hb
  rcases List.mem_cons.mp (I.stkSub b hb') with z | z
  ·exact f1 z
  ·exact f2 z
theorem Paired.idx {α β:Type} {F:α->β->Prop}:∀ {l₁:List α} {l₂:List β},Paired F l₁ l₂->∀ (i:Nat) (a:α) (b:β),l₁[i]?=some a->l₂[i]?=some b->F a b
 | _,_,.nil,_,_,_,h,_=>by simp at h
 | _,_,.cons r _,0,a,b,h1,h2=>by simp at h1 h2;subst h1;subst h2;exact r
 | _,_,.cons _ t,i+1,a,b,h1,h2=>Paired.idx t i a b (by simpa using h1) (by simpa using h2)
theorem JW {pins:List (Addr×Obj)} {σ:St} {H:Hp} {s s':Shared} {fp:List Addr} {C:Addr} {m:Str->Option Value} (O:CompOk X fr js scope cl) (hl:fr.length=js.length) (I:Inv X pins σ H s) (hC:s.heap.objs.size<=C) (hf:∀ b∈fp,fI X pins H b)
 (ho:∀ b∈fp,b<s.heap.objs.size) (os:s'.os=s.os) (hg:s'.gens=s.gens) (old:∀ b o,s.heap.get? b=some o->s'.heap.get? b=some o) (hn:s'.heap.Ns C m) :
 Inv (gN X (own++fr) scope cl C s H fp) [] (iD own.length js σ) H s':=by
 refine ⟨zS O I hC hf ho,os,by rw [hg];exact I.bare,Un.kept old,⟨m,hn,fun i x v e1 e2 e3=>?_⟩,fun x c e=>?_,I.hok.fresh hC,fun x c e=>I.freeC x c (gR O e),fun p hp=>absurd (show p∈([]:List (Addr×Obj)) from hp) (by simp),I.hok.kept old,?_⟩
 ·unfold iD at e2
  have e1':(own++fr)[i]?=some x:=e1
  by_cases hi:i<own.length
  ·rw [List.getElem?_append_left (by simpa using hi),List.getElem?_replicate] at e2
   split at e2<;>cases e2
  ·have hi':own.length<=i:=Nat.le_of_not_lt hi
   rw [List.getElem?_append_right (by simpa using hi'),List.length_replicate,List.getElem?_map] at e2
   rw [List.getElem?_append_right hi'] at e1'
   cases ej:js[i-own.length]? with
   | none=>rw [ej] at e2;cases e2
   | some j =>
     rw [ej] at e2
     have e2':(σ[j]?).join=some v:=Option.some.inj e2
     have eσ:σ[j]?=some (some v):=by
      cases q:σ[j]? with
      | none=>rw [q] at e2';cases e2'
      | some o=>rw [q] at e2';simp at e2';rw [e2']
     obtain ⟨hN,hk,hs⟩:=Paired.idx O.fre _ x j e1' ej
     obtain ⟨mo,hmo,hlo⟩:=I.loc
     have vis:Vis X.env.scope x:=hk.elim (fun z=>.inr (.inl z)) fun z=>.inr (.inr z)
     obtain ⟨u,r,l⟩:=hlo j x v hN eσ vis
     refine ⟨u,r,.inr ⟨xv hs,?_⟩⟩
     have hm:=List.all_eq_true.mp O.has _ (PySem.mem_of_lookup hs)
     have hs':(cl.lookup x).isSome=true:=by simpa using hm
     obtain ⟨c,ec⟩:=Option.isSome_iff_exists.mp hs'
     refine ⟨c,ec,?_⟩
     rcases l with ⟨k,_⟩ | ⟨_,c',e',z⟩
     ·have k':X.env.scope.names.lookup x=some .local:=k
      rcases hk with q | q<;>(rw [q] at k';cases k')
     ·have:=gR O ec
      rw [e'] at this
      cases this
      obtain ⟨oc,hoc,hd⟩:=z
      exact ⟨oc,old _ _ hoc,hd⟩
 ·obtain ⟨v,oc,hoc,hd⟩:=I.cell x c (gR O e)
  exact ⟨v,oc,old _ _ hoc,hd⟩
 ·unfold iD
  show _=(own++fr).length
  rw [List.length_append,List.length_append,List.length_replicate,List.length_map,hl]
theorem Un.adopt {fs ex:List Addr} {H H1:Hp} {h h1:Heap} {a:Addr} {o:HO} (u:Un fs ex H H1 h h1) (ha:h.objs.size<=a) (hn:H a=none):Un fs ex H (upd H1 a o) h h1 where
 keep:=u.keep
 slot:=u.slot
 free:=fun b ob q n hx=>by rw [upd_ne (Nat.ne_of_lt (Nat.lt_of_lt_of_le (Heap.lt_size q) ha))];exact u.free b ob q n hx
 there:=u.there
 tups:=fun b xs q=>by rw [upd_ne (aX q hn)];exact u.tups b xs q
 frzs:=fun b ob xs q=>by rw [upd_ne (aX q hn)];exact u.frzs b ob xs q
 tbls:=fun b ps q=>by rw [upd_ne (aX q hn)];exact u.tbls b ps q
theorem HOk.adopt {P:Program} {w:World} {H:Hp} {h:Heap} {a:Addr} {o:HO} (x:HOk P w H h) (hn:H a=none) (new:ObjOk P w (upd H a o) h a o):HOk P w (upd H a o) h:=fun b u e=>by
 by_cases hb:b=a
 ·subst hb;rw [au] at e;cases e;exact new
 ·rw [upd_ne hb] at e
  exact (x b u e).stay (fun c v _ q=>q) (fun c q=>by rw [upd_ne (aX q hn)];exact q) fun c xs q=>by rw [upd_ne (aX q hn)];exact q
theorem J1 {pins:List (Addr×Obj)} {σ:St} {H:Hp} {s:Shared} {fp:List Addr} {it:Addr} {tn:Nat->Heap->Prop} {J:It} {E:Value->Shared->Prop} {Q:VK} {RR:Value->Addr->Result->Shared->Prop} (O:CompOk X fr js scope cl) (hl:fr.length=js.length) (hcm:X.calm=true)
 (I:Inv X pins σ H s) (T:Turn X.prog X.w X.K target J fp it tn) (st:tn 0 s.heap) (hf:∀ b∈fp,fI X pins H b)
 (hg:∀ C s₀ H₀ ex,PG (gN X (own++fr) scope cl C s₀ H₀ ex) target g) (he:∀ C s₀ H₀ ex,PE (gN X (own++fr) scope cl C s₀ H₀ ex) elt te)
 (W:Nat->Nat->List V->St->Hp->Prop) {m0:Nat} (w0:W 0 m0 [] (iD own.length js σ) H)
 (turn:∀ i m ys σ' H',W i m ys σ' H' ->
   (J.stop i H'/\∀ p,H' p=none->Q (.ref p) (upd H' p (.lst ys))) \/
   (J.go i H'/\ys.length<sizeLine/\∃ N:V->St->Hp->Prop,(∀ y σ'' H'',N y σ'' H''->∃ m',m'<m/\W (i+1) m' (ys++[y]) σ'' H'')/\∀ x H2,J.yld i H' x H2->g x σ' H2 fun σ3 H3=>te σ3 H3 fun y H4=>N y σ3 H4))
 (hRR:∀ D C s',LP X pins σ Q D C s'->RR (.ref D) C (.ok .next) s') :
 wpAny (model X.prog X.w) X.A (newList []) (fun acc s₃=>wpAny (model X.prog X.w) X.A (newFunctionEnv scope X.env.globals cl [] X.env.qual none .none (some X.env)) (fun cenv s₄ =>
  codeAny (model X.prog X.w) X.A (.compStart (.ListComp elt [⟨target,iter,[],0⟩] scope pos) 0 (.ref it) acc { cenv with scope:=relabel scope X.env }) (RR acc cenv.locals) s₄) E s₃) E s:=by
 refine wpAny_newObj_type (wpAny_newFunctionEnv O.cell (by intro y hy;simp at hy) (fun h₁ hns₁ hsb₁=>?_) O.kind)
 dsimp only at hns₁ hsb₁ ⊢
 generalize hH2:s.heap.push { cls:=.type "list",dict:=none,data:=.seq ([]:List Value).toArray }=H2 at hns₁ hsb₁ ⊢
 have hCs:H2.objs.size=s.heap.objs.size+1:=by rw [<- hH2,Heap.size_push]
 have hDC:s.heap.objs.size≠H2.objs.size:=by rw [hCs];exact Nat.ne_of_lt (Nat.lt_succ_self _)
 have hCge:s.heap.objs.size<=H2.objs.size:=by rw [hCs];exact Nat.le_succ _
 have below:∀ b,b<s.heap.objs.size->b≠H2.objs.size/\b≠s.heap.objs.size:=fun b hb=>⟨by rw [hCs];exact Nat.ne_of_lt (Nat.lt_succ_of_lt hb),Nat.ne_of_lt hb⟩
 have old:∀ b o,s.heap.get? b=some o->h₁.get? b=some o:=fun b o e=>hsb₁.extBut b o (below b (Heap.lt_size e)).1 (Heap.get?_push_of_some _ (hH2 ▸ Heap.get?_push_of_some _ e))
 have hacc:h₁.get? s.heap.objs.size=some { cls:=.type "list",data:=.seq ([]:List Value).toArray 0 }:=hsb₁.extBut _ _ hDC (Heap.get?_push_of_some _ (hH2 ▸ Heap.get?_push_size _ rfl))
 have ho:∀ b∈fp,b<s.heap.objs.size:=fun b hb=>by obtain ⟨o,e,_⟩:=T.obj 0 _ st b hb;exact Heap.lt_size e
 generalize hDe:s.heap.objs.size=D at *
 generalize hCe:H2.objs.size=C at *
 let X':Cx:=gN X (own++fr) scope cl C s H fp
 have ok':X'.Ok:=zS O I (by rw [hDe];exact hCge) hf (by rw [hDe];exact ho)
 have hDfs:D∉X'.fs:=by
  intro z
  rcases List.mem_cons.mp (I.stkSub D z) with q | q
  ·exact absurd I.lt (by rw [<- q,hDe];exact Nat.lt_irrefl _)
  ·exact I.nofs (Nat.le_of_eq hDe) q
 have hDfp:∀ b∈fp,D≠b:=fun b hb z=>absurd (ho b hb) (by rw [z];exact Nat.lt_irrefl _)
 have hDcell:∀ x c,cl.lookup x=some c->c≠D:=fun x c e z=>by
  obtain ⟨v,q⟩:=I.cell x c (gR O e)
  exact absurd q.lt (by rw [z,hDe];exact Nat.lt_irrefl _)
 have fpok:∀ {H':Hp} {pins':List (Addr×Obj)},(∀ p∈pins',p.1=D)->(∀ b∈fp,H' b=none)->∀ b∈fp,fI X' pins' H' b:=fun {H' pins'} hp hn b hb=>by
  obtain ⟨f0,f1,f2,f3,f4,f5⟩:=hf b hb
  refine ⟨hn b hb,(below b (ho b hb)).1,fun z=>?_,.inl hb,fun x c e=>f4 x c (gR O e),fun p hp'=>?_⟩
  ·rcases List.mem_cons.mp (I.stkSub b z) with q | q
   ·exact f1 q
   ·exact f2 q
  ·have hp'':p∈pins':=by simpa [X',gN] using hp'
   rw [hp p hp''];exact hDfp b hb
 have loop:∀ s₃:Shared,s₃={ s with heap:=h₁,toks:=s.toks+([]:List (Str×Value)).length } ->
  codeAny (model X.prog X.w) X.A (.compLoop (.ListComp elt [⟨target,iter,[],0⟩] scope pos) 0 (.ref it) (.ref D) (compEnvC scope cl C X.env)) (RR (.ref D) C) s₃:=by
  rintro s₃ rfl
  refine PySem.W.kcp_loop (fun k s'=>∃ i σ' H' ys its nn,Inv X' [] σ' H' s'/\tn i s'.heap/\(∀ b∈fp,H' b=none)/\H' D=none/\s'.heap.get? D=some { cls:=.type "list",data:=.seq (its:List Value).toArray nn }/\Vals ys its/\ys.length<=sizeLine/\W i k ys σ' H') ?_ m0
   ⟨0,_,H,[],[],0,JW O hl I (by rw [hDe];exact hCge) hf (by rw [hDe];exact ho) rfl rfl (by intro b o e;exact old b o e) hns₁,T.keep _ _ _ st fun b _ o e=>old b o e,fun b hb=>(hf b hb).1,I.hok.fresh (Nat.le_of_eq hDe),hacc,.nil,Nat.zero_le _,w0⟩
  rintro k s' ⟨i,σ',H',ys,its,nn,I',st',hfn,hDn,hDo,rv,hz,w⟩
  have hlen:=rv.length
  have hpD:∀ p∈[(D,({ cls:=.type "list",data:=.seq its.toArray nn }:Obj))],p.1=D:=fun p hp=>by rw [List.mem_singleton.mp hp]
  have Ip:Inv X' [(D,({ cls:=.type "list",data:=.seq its.toArray nn }:Obj))] σ' H' s':=I'.pins_of fun p hp=>by
   rw [List.mem_singleton.mp hp]
   exact ⟨hDo,hDn,hDC,hDfs,fun v z=>by cases z⟩
  rcases turn i k ys σ' H' w with ⟨stop,fin⟩ | ⟨go,hlt,N,hN,step⟩
  ·refine wpAny_mono (T.done X' rfl rfl rfl hcm i _ s' σ' H' (fun _ _=>False) Ip (fpok hpD hfn) st' stop) (fun r s4 ⟨hr,I4⟩=>?_) fun _ _ z=>False.elim z
   subst hr
   refine hRR D C s4 ?_
   have hD4:s4.heap.get? D=some { cls:=.type "list",data:=.seq its.toArray nn }:=(I4.pin _ (List.mem_append_right _ (List.mem_singleton.mpr rfl))).1
   have un:Un (frs X.stack) fp H (upd H' D (.lst ys)) s.heap s4.heap:=Un.adopt I4.base (Nat.le_of_eq hDe) (I.hok.fresh (Nat.le_of_eq hDe))
   have hok:HOk X.prog X.w (upd H' D (.lst ys)) s4.heap:=HOk.adopt I4.hok hDn ⟨hz,its,nn,rv,hD4⟩
   refine ⟨upd H' D (.lst ys),I.call' I4.os un hok I4.bare fun b hb=>?_,fin D hDn,?_,?_,?_,fun x c e z=>?_,fun p hp z=>?_,?_⟩
   ·obtain ⟨f0,f1,f2,f3,f4,f5⟩:=hf b hb
    exact ⟨f3,f1,f4,f5⟩
   ·rw [upd_ne (Ne.symm hDC)]
    exact I4.free
   ·exact Nat.ne_of_gt (Nat.lt_of_lt_of_le I.lt (by rw [hDe];exact hCge))
   ·exact Nat.le_trans I.sz (by rw [hDe];exact hCge)
   ·obtain ⟨v,q⟩:=I.cell x c e
    exact absurd (Nat.lt_of_lt_of_le q.lt (by rw [hDe,z];exact hCge)) (Nat.lt_irrefl _)
   ·exact absurd (Nat.lt_of_lt_of_le (Heap.lt_size (I.pin p hp).1) (by rw [hDe,z];exact hCge)) (Nat.lt_irrefl _)
   ·obtain ⟨m',hn',_⟩:=I4.loc
    exact ⟨m',hn'⟩
  ·refine wpAny_mono (T.item X' rfl rfl rfl hcm i _ s' σ' H' (fun _ _=>False) Ip (fpok hpD hfn) st' go) (fun r s4 ⟨u,hr,h4⟩=>?_) fun _ _ z=>False.elim z
   subst hr
   refine wpAny_mono h4 (fun _ s5 ⟨x,H5,I5,r5,y5,st5,fr5⟩=>?_) fun _ _ z=>False.elim z
   have I5':=I5.pinned (fpok hpD fr5) (T.obj _ _ st5)
   refine wpAny_mono (hg C s H fp _ s5 σ' H5 x u _ I5' r5 (step x H5 y5)) (fun _ s6 ⟨σ6,H6,I6,q6⟩=>?_) fun _ _ z=>False.elim z
   refine wpAny_mono (he C s H fp _ s6 σ6 H6 _ I6 q6) (fun v s7 ⟨y,H7,I7,r7,n7⟩=>?_) fun _ _ z=>False.elim z
   obtain ⟨m',hm',w7⟩:=hN y σ6 H7 n7
   have hD7:=I7.pin (D,{ cls:=.type "list",data:=.seq its.toArray nn }) (List.mem_append_right _ (List.mem_append_left _ (List.mem_singleton.mpr rfl)))
   refine append_at hD7.1 (fun h8 sb hD8=>?_) (by rw [List.size_toArray,<- hlen];exact hz)
   have I7':Inv X' [] σ6 H7 s7:=I7.pins_of fun p hp=>absurd hp (by simp)
   have I8:Inv X' [] σ6 H7 { s7 with heap:=h8 }:=I7'.turned (t':=s7.toks) (it:=D) (fun b o hb e=>(sb.2 b hb).trans e) hD7.2.1 hDC (.inr (Nat.le_of_eq hDe)) hDcell (fun p hp=>absurd (show p∈([]:List (Addr×Obj)) from hp) (by simp))
   refine ⟨m',hm',i+1,σ6,H7,ys++[y],its++[v],nn+1,I8,T.keep _ _ _ st5 fun b hb o e=>?_,fun b hb=>?_,hD7.2.1,?_,rv.append (.cons r7 .nil),?_,w7⟩
   ·exact (sb.2 b (fun z=>hDfp b hb z.symm)).trans (I7.pin (b,o) (List.mem_append_right _ (List.mem_append_right _ (nF hb e)))).1
   ·obtain ⟨o,e,d⟩:=T.obj _ _ st5 b hb
    exact (I7.pin (b,o) (List.mem_append_right _ (List.mem_append_right _ (nF hb e)))).2.1
   ·rw [hD8,List.push_toArray]
   ·rw [List.length_append,List.length_singleton];exact hlt
 exact codeAny_compStart_list (loop _ rfl) (T.self _ 0 _ _ _ (T.keep _ _ _ st fun b _ o e=>old b o e) (loop _ rfl))
theorem fm (O:CompOk X fr js scope cl) (hcm:X.calm=true) (hi:PI X target iter wi) (hg:∀ C s₀ H₀ ex,PG (gN X (own++fr) scope cl C s₀ H₀ ex) target g) (he:∀ C s₀ H₀ ex,PE (gN X (own++fr) scope cl C s₀ H₀ ex) elt te)
 (hs:∀ x,foldedSetIterable iter X.env x=pure x:=by intro _;rfl):PE X (.ListComp elt [⟨target,iter,[],0⟩] scope pos) (BH own.length js wi g te):=by
 intro pins s σ H Q I h
 rw [eval_ListComp]
 refine wpAny_comprehension_free (use:=none) rfl hs O.clos O.kind O.names (thn (hi pins s σ H _ I h) fun x s1 h1=>thn h1 fun itv s2 h2=>?_)
 obtain ⟨it,fp,tn,J,H2,rfl,I2,T,st,hf,W,⟨m0,w0⟩,turn⟩:=h2
 refine J1 (RR:=fun acc C=>compPost (model X.prog X.w) X.A X.xe none (EP X pins σ Q) acc C) O (Paired.length O.fre) hcm I2 T st hf hg he W w0 turn ?_
 rintro D C s' ⟨H3,I3,q,c1,c2,c3,c4,c5,m,hn⟩
 exact ⟨m,hn,fun h' sb=>⟨.ref D,H3,I3.turned (t':=s'.toks) (it:=C) (fun b o hb e=>(sb.2 b hb).trans e) c1 c2 (.inr c3) c4 c5,rfl,q⟩⟩
end
theorem iV {n:Nat} {js:List Nat} {K:PySem.W.Frag} {a:Addr} {xs:List V} {g:TG} {te:TE} {σ0:St} {H:Hp} {Q:VK} (Pv:Nat->List V->St->Hp->Prop) (hz:xs.length<=sizeLine) (h0:Pv 0 [] (iD n js σ0) H) (hl:∀ i ys σ H,i<=xs.length->Pv i ys σ H->SqL K H a xs/\ys.length<=i)
 (hs:∀ i x ys σ H,xs[i]?=some x->Pv i ys σ H->g x σ H fun σ2 H2=>te σ2 H2 fun y H3=>Pv (i+1) (ys++[y]) σ2 H3) (hd:∀ ys σ H p,Pv xs.length ys σ H->H p=none->Q (.ref p) (upd H p (.lst ys))) :
 uL n js g te σ0 Q (Itl K a) H:=by
 refine ⟨fun i m ys σ H=>m=xs.length-i/\i<=xs.length/\Pv i ys σ H,⟨xs.length,by simp,Nat.zero_le _,h0⟩,?_⟩
 rintro i m ys σ H ⟨rfl,hi,p⟩
 obtain ⟨q,hy⟩:=hl i ys σ H hi p
 by_cases hlt:i<xs.length
 ·refine .inr ⟨⟨xs,xs[i],q,by simp [hlt]⟩,by omega,fun y σ'' H''=>Pv (i+1) (ys++[y]) σ'' H'',fun y σ' H' p'=>⟨xs.length-(i+1),by omega,rfl,hlt,p'⟩,fun x H' y=>?_⟩
  obtain ⟨e,y⟩:=y
  subst e
  exact hs i x ys σ _ (y xs q) p
 ·have e:i=xs.length:=by omega
  subst e
  exact .inl ⟨⟨xs,q,Nat.le_refl _⟩,fun r hr=>hd ys σ H r p hr⟩
theorem tR {k:Nat} {js:List Nat} {lo:Int} {n:Nat} {g:TG} {te:TE} {σ0:St} {H:Hp} {Q:VK} (Pv:Nat->List V->St->Hp->Prop) (hz:n<=sizeLine) (h0:Pv 0 [] (iD k js σ0) H) (hl:∀ i ys σ H,i<=n->Pv i ys σ H->ys.length<=i)
 (hs:∀ i ys σ H,i<n->Pv i ys σ H->g (.int (lo+i)) σ H fun σ2 H2=>te σ2 H2 fun y H3=>Pv (i+1) (ys++[y]) σ2 H3) (hd:∀ ys σ H p,Pv n ys σ H->H p=none->Q (.ref p) (upd H p (.lst ys))) :
 uL k js g te σ0 Q (Itr lo n) H:=by
 refine ⟨fun i m ys σ H=>m=n-i/\i<=n/\Pv i ys σ H,⟨n,by simp,Nat.zero_le _,h0⟩,?_⟩
 rintro i m ys σ H ⟨rfl,hi,p⟩
 have hy:=hl i ys σ H hi p
 by_cases hlt:i<n
 ·refine .inr ⟨hlt,by omega,fun y σ'' H''=>Pv (i+1) (ys++[y]) σ'' H'',fun y σ' H' p'=>⟨n-(i+1),by omega,rfl,hlt,p'⟩,fun x H' y=>?_⟩
  obtain ⟨e,y⟩:=y
  subst e y
  exact hs i ys σ _ hlt p
 ·have e:i=n:=by omega
  subst e
  exact .inl ⟨Nat.le_refl _,fun r hr=>hd ys σ H r p hr⟩
end L2
namespace L2
open PySem PySem.Spec PyProof.Rows
def Bits (k:Nat) (i:Int):Prop:=i.natAbs<2^k
theorem Bits.mono {j k:Nat} {i:Int} (h:Bits j i) (hk:j<=k:=by decide):Bits k i:=Nat.lt_of_lt_of_le h (Nat.pow_le_pow_right (by decide) hk)
theorem Bits.mul {j k:Nat} {a b:Int} (ha:Bits j a) (hb:Bits k b):Bits (j+k) (a*b):=by
 unfold Bits at *
 rw [Int.natAbs_mul,Nat.pow_add]
 exact Nat.mul_lt_mul_of_lt_of_lt ha hb
theorem Bits.add {k:Nat} {a b:Int} (ha:Bits k a) (hb:Bits k b):Bits (k+1) (a+b):=by
 unfold Bits at *
 have:=Int.natAbs_add_le a b
 rw [Nat.pow_succ];omega
theorem Bits.neg {k:Nat} {a:Int} (ha:Bits k a):Bits k (-a):=by unfold Bits at *;rwa [Int.natAbs_neg]
theorem Bits.sub {k:Nat} {a b:Int} (ha:Bits k a) (hb:Bits k b):Bits (k+1) (a-b):=by rw [Int.sub_eq_add_neg];exact ha.add hb.neg
theorem Bits.of_le {k:Nat} {a b:Int} (hb:Bits k b) (h:a.natAbs<=b.natAbs):Bits k a:=Nat.lt_of_le_of_lt h hb
theorem Bits.zero {k:Nat}:Bits k 0:=Nat.pow_pos (by decide)
theorem Bits.log {k:Nat} {i:Int} (h:Bits k i) (hk:0<k):i.natAbs.log2<k:=by
 by_cases h0:i.natAbs=0
 ·rw [h0];simpa using hk
 ·exact (Nat.log2_lt h0).mpr h
theorem Bits.int {k:Nat} {i:Int} (h:Bits k i) (hk:k<=1000000):Builtin.Int.intBits i<=2^20:=by
 have e:(2:Nat)^20=1048576:=by decide
 unfold Builtin.Int.intBits
 split
 ·exact Nat.zero_le _
 ·rename_i hn
  have h0:i.natAbs≠0:=by
   intro z
   have:i=0:=Int.natAbs_eq_zero.mp z
   exact hn (by simp [this])
  have:=(Nat.log2_lt h0).mpr h
  omega
section
variable {X:Cx} {a b:Expr} {ta tb:TE} {pos:Pos}
def MC (i j:Int):Prop:=Bits 1000000 i/\Bits 1000000 j
theorem aI:OpR X (binaryOp .Mult) (rI MC fun i j=>.int (i*j)):=opI fun _ _ _ _ _ _ _ hc q=>mul_int q (.of_bits (hc.1.int (Nat.le_refl _)) (hc.2.int (Nat.le_refl _)))
theorem cD:OpR X (binaryOp .Mod) (rI (fun _ j=>0<j) fun i j=>.int (i%j)):=DZ
def MD (_ j:Int):Prop:=0<j/\Bits 9000 j
theorem cQ:OpR X (binaryOp .FloorDiv) (rI MD fun i j=>.int (i/j)):=opI fun i j _ _ _ _ _ hc q=>by
 refine floordiv_int (Int.ne_of_gt hc.1) ?_ (.inl (PyProof.noPylong_of_log2 (hc.2.log (by decide))))
 rw [Int.fdiv_eq_ediv_of_nonneg _ (Int.le_of_lt hc.1)]
 exact q
def ME (_ j:Int):Prop:=j≠0/\Bits 9000 j
theorem x9:OpR X (binaryOp .FloorDiv) (rI ME fun i j=>.int (i.fdiv j)):=opI fun _ _ _ _ _ _ _ hc q=>floordiv_int hc.1 q (.inl (PyProof.noPylong_of_log2 (hc.2.log (by decide))))
theorem cI:OpR X (compareOp .Eq) (rI0 fun i j=>.bl (decide (i=j))):=jC fun _ _ _ _ _ _ _ q=>eq_int (by rw [Bool.beq_eq_decide_eq];exact q)
theorem jA:OpR X (compareOp .NotEq) (rI0 fun i j=>.bl (!decide (i=j))):=jC fun _ _ _ _ _ _ _ q=>ne_int (by rw [bne,Bool.beq_eq_decide_eq];exact q)
def xJ (K:PySem.W.Frag):R2:=fun x y H Q=>∃ (a b:Addr) (ns ms:List Int),x=.ref a/\y=.ref b/\SqL K H a (ns.map V.int)/\SqL K H b (ms.map V.int)/\Q (.bl (decide (ns=ms))) H
def xF (K:PySem.W.Frag):R2:=fun x y H Q=>∃ (a b:Addr) (ns ms:List Int),x=.ref a/\y=.ref b/\SqL K H a (ns.map V.int)/\SqL K H b (ms.map V.int)/\Q (.bl (!decide (ns=ms))) H
theorem D3 (hu:X.A.units+64<cLine):OpR X (compareOp .Eq) (xJ X.K):=by
 intro pins s σ H x y v u Q I rx ry h
 obtain ⟨a,b,ns,ms,rfl,rfl,ha,hb,q⟩:=h
 cases rx;cases ry
 obtain ⟨i1,r1,p1,_⟩:=I.list ha
 obtain ⟨i2,r2,p2,_⟩:=I.list hb
 exact PySem.W.eq_intsK p1.isList (nO r1) p2.isList (nO r2) hu ⟨.bl _,H,I,rfl,q⟩
theorem DY (hu:X.A.units+64<cLine):OpR X (compareOp .NotEq) (xF X.K):=by
 intro pins s σ H x y v u Q I rx ry h
 obtain ⟨a,b,ns,ms,rfl,rfl,ha,hb,q⟩:=h
 cases rx;cases ry
 obtain ⟨i1,r1,p1,_⟩:=I.list ha
 obtain ⟨i2,r2,p2,_⟩:=I.list hb
 exact PySem.W.ne_intsK p1.isList (nO r1) p2.isList (nO r2) hu ⟨.bl _,H,I,rfl,q⟩
def kx (K:PySem.W.Frag):List V->Hp->VK->Prop:=fun xs H Q=>∃ (x:V) (t c:Value) (n:V) (k:Bool),xs=[x,n]/\RelV n c/\(∀ u,RelV n u->u=c)/\TyOf K H x t/\PySem.W.kitOne K t c=some k/\Q (.bl k) H
theorem Kd:CallR X (.builtin "isinstance") (kx X.K):=by
 intro pins s σ H xs us Q I r h
 obtain ⟨x,t,c,n,k,rfl,rn,hn,ty,e,q⟩:=h
 obtain ⟨u1,u2,rfl,r1,r2⟩:=r.two
 obtain rfl:=hn u2 r2
 exact Hs I r1 ty e fun tk=>⟨.bl k,H,I.tok tk,rfl,q⟩
theorem za {K:PySem.W.Frag} {H:Hp} {Q:VK} {x:V} {n:String} {t:Value} {k:Bool} (ty:TyOf K H x t) (e:PySem.W.kitOne K t (.type n)=some k) (q:Q (.bl k) H):kx K [x,.ty n] H Q :=
 ⟨x,t,.type n,.ty n,k,rfl,rfl,fun _ h=>h,ty,e,q⟩
end
section
variable {D:Ends} {σ:St} {H:Hp} {Q:VK} {t u:TS} {te ta tb:TE} {c:TT} {i:Nat} {v:V} {r:R2}
theorem Dh (P:St->Hp->Prop) (h1:∀ σ' H',P σ' H'->u D σ' H') (h2:(∀ σ' H',P σ' H'->u D σ' H')->t { D with nx:=u D } σ H):cW t u D σ H:=h2 h1
theorem gD (P:St->Hp->Prop) (h:P σ H) (h1:∀ σ' H',P σ' H'->u D σ' H'):u D σ H:=h1 σ H h
theorem aA (h:te σ H fun x H1=>u D (σ.set i (some x)) H1):cW (gY te (iG i)) u D σ H:=h
theorem ju (h:te σ H fun _ H1=>u D σ H1):cW (mw te) u D σ H:=h
theorem bz {t1:TS} (h:c σ H fun b H1=>if b=true then t1 { D with nx:=u D } σ H1 else u D σ H1):cW (j7 c t1 vD) u D σ H:=h
theorem xw {K:PySem.W.Frag} {n:V} (h:ta σ H fun x H1=>kx K [x,n] H1 Q):tCB (kx K) (oE ta (oE (tC n) oC)) σ H Q:=h
theorem dW {t1 t2:TS} (P:St->Hp->Prop) (h1:∀ σ' H',P σ' H'->u D σ' H') (h2:(∀ σ' H',P σ' H'->u D σ' H')->c σ H fun b H1=>if b=true then t1 { D with nx:=u D } σ H1 else t2 { D with nx:=u D } σ H1):cW (j7 c t1 t2) u D σ H:=h2 h1
theorem cO (h:te σ H fun x H1=>D.nx (σ.set i (some x)) H1):gY te (iG i) D σ H:=h
theorem aU (h:te σ H D.rt):vy te D σ H:=h
theorem xy (h:te σ H fun _ H1=>D.nx σ H1):mw te D σ H:=h
theorem kt (h:c σ H fun b H1=>if b=true then t D σ H1 else u D σ H1):j7 c t u D σ H:=h
theorem qS {K:Bool->Hp->Prop} {tt:TT} (h:tt σ H fun k H1=>K (!k) H1):vC tt σ H K:=h
theorem dX {K:Bool->Hp->Prop} {t1 t2:TT} (h:t1 σ H fun k H1=>if k=true then t2 σ H1 K else K false H1):vH t1 t2 σ H K:=h
theorem De {K:Bool->Hp->Prop} {t1 t2:TT} (h:t1 σ H fun k H1=>if k=true then K true H1 else t2 σ H1 K):tOr t1 t2 σ H K:=h
theorem xz (h:ta σ H fun x H1=>∃ k,x=.bl k/\if k=true then tb σ H1 Q else Q (.bl false) H1):vG ta tb σ H Q:=h
theorem Dd (h:ta σ H fun x H1=>∃ k,x=.bl k/\if k=true then Q (.bl true) H1 else tb σ H1 Q):vA ta tb σ H Q:=h
theorem Df (h:ta σ H fun x H1=>∃ k,x=.bl k/\Q (.bl (!k)) H1):vB ta σ H Q:=h
theorem Dg {tt:TT} (h:tt σ H fun k H1=>if k=true then ta σ H1 Q else tb σ H1 Q):tIf tt ta tb σ H Q:=h
theorem mU {A B:Prop} (h:A):if true=true then A else B:=by rw [if_pos rfl];exact h
theorem dU {A B:Prop} (h:B):if false=true then A else B:=by rw [if_neg Bool.false_ne_true];exact h
theorem aL {p A B:Prop} [Decidable p] (h1:p->A) (h2:¬ p->B):if decide p=true then A else B:=by
 by_cases hp:p
 ·rw [if_pos (decide_eq_true hp)];exact h1 hp
 ·rw [if_neg (by rw [decide_eq_false hp];exact Bool.false_ne_true)];exact h2 hp
theorem dq {p A B:Prop} [Decidable p] (h1:¬ p->A) (h2:p->B):if (!decide p)=true then A else B:=by
 by_cases hp:p
 ·rw [if_neg (by rw [decide_eq_true hp];exact Bool.false_ne_true)];exact h2 hp
 ·rw [if_pos (by rw [decide_eq_false hp];rfl)];exact h1 hp
end
structure Cal (P:Program) (w:World) (K:PySem.W.Frag) (mg:Str->Option Value) (base:Heap) (k:Nat) (x:Str) (ps:List Str) (sp:Sp) (f:Addr) (fd:FuncData):Prop where
 ok:FnOk P w K mg base CX0 k f fd ps sp
 mg:mg x=some (.ref f)
 kp:PySem.W.keepIn K (.ref f)=true
 bd:Binds K fd ps []
theorem Same.upd_new {H:Hp} {p:Addr} {o:HO} (h:H p=none):Same H (upd H p o):=fun b u e=>by rw [upd_ne (aX e h)];exact e
theorem Same.then_new {H H1:Hp} {p:Addr} {o:HO} (s:Same H H1) (h:H1 p=none):Same H (upd H1 p o):=s.trans (Same.upd_new h)
theorem Same.ne {H H1:Hp} {a p:Addr} {o:HO} (s:Same H H1) (e:H a=some o) (h:H1 p=none):a≠p:=aX (s a o e) h
end L2
namespace L2
open PySem PySem.Spec PyProof.Rows
section
variable {X:Cx} {K:PySem.W.Frag}
theorem ck (h:X.K=K):IxR X (xI K):=by subst h;exact Hr
theorem aS (h:X.K=K):IxR X (xH K):=by subst h;exact Hq
theorem mI (h:X.K=K):SlR X (qU K):=by subst h;exact BZ
def Dw (K:PySem.W.Frag):List V->Hp->VK->Prop:=fun xs H Q=>∃ p ys,xs=[.ref p]/\(SqL K H p ys\/SqT K H p ys)/\Q (.int ys.length) H
theorem df (h:X.K=K):CallR X (.builtin "len") (Dw K):=by subst h;exact Kc
def Du (K:PySem.W.Frag):List V->Hp->VK->Prop:=fun xs H Q=>∃ p ys,xs=[.ref p]/\(SqL K H p ys\/SqT K H p ys)/\∀ l,H l=none->Q (.ref l) (upd H l (.lst ys))
theorem tY (h:X.K=K):CallR X (.type "list") (Du K):=by subst h;exact Kb
theorem jB (h:X.K=K) (hu:X.A.units+64<cLine):OpR X (compareOp .Eq) (xJ K):=by subst h;exact D3 hu
theorem kI (h:X.K=K) (hu:X.A.units+64<cLine):OpR X (compareOp .NotEq) (xF K):=by subst h;exact DY hu
theorem Au (h:X.K=K):CallR X (.builtin "isinstance") (kx K):=by subst h;exact Kd
theorem eN {tg l:Expr} {tl:TE} (h:X.K=K) (hl:PE X l tl):PI X tg l (zg K tl):=by subst h;exact DO hl
theorem DL {tg l:Expr} {tl:TE} (h:X.K=K) (hl:PE X l tl):PI X tg l (zf K tl):=by subst h;exact DM hl
theorem aO {e:Expr} {ta:TE} {f:Str} {pos:Pos} (h:X.K=K) (he:PE X e ta) (hb:attributeBase e f X.env (eval e X.env)=eval e X.env):PE X (.Attribute e f pos) (vF K ta f):=by subst h;exact DV he hb
end
end L2
namespace L2
open PySem PySem.Spec PyProof.Rows
def Ite (K:PySem.W.Frag) (a:Addr):It :=
 ⟨fun i H=>∃ xs x,SqL K H a xs/\xs[i]?=some x,fun i H x H'=>∃ v p,x=.ref p/\H p=none/\H'=upd H p (.tup [.int i,v])/\∀ xs,SqL K H a xs->xs[i]?=some v,fun i H=>∃ xs,SqL K H a xs/\xs.length<=i⟩
theorem Bj {P:Program} {w:World} {K:PySem.W.Frag} {es:List Expr} {x1:Nat} {tp:Pos} (a e it:Addr) (hne:e≠it):Turn P w K (.Tuple es x1 tp) (Ite K a) [e,it] e (fun i h=>(∃ old,IsEnum h e it (i:Int) old)/\h.IsListIter it a i) where
 mem:=by simp
 obj:=fun i h st b hb=>by
  obtain ⟨⟨old,he⟩,hi⟩:=st
  rcases List.mem_cons.mp hb with rfl | hb
  ·exact ⟨_,he,fun v z=>by cases z⟩
  ·have q:b=it:=by simpa using hb
   subst q
   obtain ⟨o,e,c,d⟩:=hi
   exact ⟨o,e,fun v z=>by rw [d] at z;cases z⟩
 keep:=fun i h h' st k=>by
  obtain ⟨⟨old,he⟩,hi⟩:=st
  exact ⟨⟨old,k e (by simp) _ he⟩,hi.at fun o q=>k it (by simp) o q⟩
 item:=by
  intro X hP hw hK hc i pins s σ H E I hf st hg
  subst hP hw hK
  obtain ⟨⟨old,he⟩,hi⟩:=st
  obtain ⟨xs,x,hq,hx⟩:=hg
  obtain ⟨its,rv,p,hz⟩:=I.list hq
  obtain ⟨u,hu,ru⟩:=rv.get hx
  refine wpAny_pyNext_enum_item he hi p.isList (x:=u) (by simpa using hu) hne fun h' out hit' htup hsz kk=>?_
  have hfp:H s.heap.objs.size=none:=I.hok.fresh (Nat.le_refl _)
  have nfp:∀ b o,H b=some o->b≠e/\b≠it:=fun b o q=>⟨fun z=>(by rw [z,(hf e (by simp)).1] at q;cases q),fun z=>(by rw [z,(hf it (by simp)).1] at q;cases q)⟩
  have I1:Inv X pins σ (upd H s.heap.objs.size (.tup [.int i,x])) { s with heap:=h',toks:=s.toks+1 }:=by
   refine I.step (g':=s.gens) (d':=s.drawn) (ch:=[e,it]) (fun b hb=>?_) (fun b o _ _ hc q _=>kk b o (fun z=>hc (by simp [z])) (fun z=>hc (by simp [z])) q)
    (fun b o _ _ hc q _=>⟨o.slots,kk b o (fun z=>hc (by simp [z])) (fun z=>hc (by simp [z])) q⟩) (fun b o _ q n=>by rw [upd_ne (Nat.ne_of_lt (Heap.lt_size q))];exact n)
    (fun b o hc q=>⟨o,kk b o (fun z=>hc (by simp [z])) (fun z=>hc (by simp [z])) q⟩) (fun b ys q=>by rw [upd_ne (aX q hfp)];exact q) (fun b o ys q=>by rw [upd_ne (aX q hfp)];exact q)
    (fun b ps q=>⟨#[],by rw [upd_ne (aX q hfp),q];simp⟩) (fun m hm=>?_) (fun b o q=>?_) I.bare
   ·obtain ⟨f0,f1,f2,f3,f4,f5⟩:=hf b hb
    exact ⟨f3,f1,f4,f5⟩
   ·obtain ⟨o,es',ep',ho,r⟩:=hm
    exact ⟨o,es',ep',kk _ o (Ne.symm (hf e (by simp)).2.1) (Ne.symm (hf it (by simp)).2.1) ho,r⟩
   ·by_cases hb:b=s.heap.objs.size
    ·subst hb
     rw [au] at q
     cases q
     exact ⟨by show 2<=sizeLine;decide,[.int i s.toks,u],.cons ⟨_,rfl⟩ (.cons ru .nil),⟨_,htup,rfl,_,rfl⟩⟩
    ·rw [upd_ne hb] at q
     refine (I.hok b o q).stay (fun c v hc z=>?_) (fun c z=>by rw [upd_ne (aX z hfp)];exact z) fun c ys z=>by rw [upd_ne (aX z hfp)];exact z
     rcases hc with rfl | hc
     ·exact kk c v (nfp c o q).1 (nfp c o q).2 z
     ·exact kk c v (nfp c _ hc).1 (nfp c _ hc).2 z
  refine ⟨_,rfl,wpAny_letOwnedTupleGo_enum out fun h'' he'' sb=>?_⟩
  obtain ⟨f0,f1,f2,f3,f4,f5⟩:=hf e (by simp)
  have hen:upd H s.heap.objs.size (.tup [.int i,x]) e=none:=by
   rw [upd_ne (Nat.ne_of_lt (Heap.lt_size he))];exact f0
  have I2:=I1.turned (h':=h'') (t':=s.toks+1) (it:=e) (fun b o hb q=>(sb.2 b hb).trans q) hen f1 f3 f4 f5
  refine ⟨.ref s.heap.objs.size,_,I2,rfl,⟨x,_,rfl,hfp,rfl,fun ys hy=>by rw [I.list_inj hy hq];exact hx⟩,⟨⟨u,?_⟩,hit'.at fun o q=>(sb.2 it (Ne.symm hne)).trans q⟩,fun b hb=>?_⟩
  ·have:((i+1:Nat):Int)=(i:Int)+1:=by omega
   rw [this];exact he''
  ·have hlt:b<s.heap.objs.size:=by
    rcases List.mem_cons.mp hb with rfl | hb
    ·exact Heap.lt_size he
    ·have q:b=it:=by simpa using hb
     subst q
     obtain ⟨o,e1,_⟩:=hi
     exact Heap.lt_size e1
   rw [upd_ne (Nat.ne_of_lt hlt)]
   exact (hf b hb).1
 done:=by
  intro X hP hw hK hc i pins s σ H E I hf st hg
  subst hP hw hK
  obtain ⟨⟨old,he⟩,hi⟩:=st
  obtain ⟨xs,hq,hx⟩:=hg
  obtain ⟨its,rv,p,hz⟩:=I.list hq
  obtain ⟨f0,f1,f2,f3,f4,f5⟩:=hf it (by simp)
  have hl:=rv.length
  exact wpAny_pyNext_enum_end (I.ok.hd hc) he hi p.isList (by simp;omega) fun h' eb=>⟨rfl,I.turned (t':=s.toks) (fun b o hb e=>eb b o hb e) f0 f1 f3 f4 f5⟩
 self:=fun _ _ _ _ _ st h=>by
  obtain ⟨⟨old,he⟩,hi⟩:=st
  exact wpAny_pyIter_enum he h
section
variable {X:Cx}
def HA (K:PySem.W.Frag) (ta:TA):TI:=fun σ H R=>ta σ H fun vs H1=>∃ a,vs=[.ref a]/\(∃ xs,SqL K H1 a xs)/\R (Ite K a) H1
theorem qZ {es:List Expr} {x1:Nat} {tp:Pos} {a:Expr} {ta:TA} {p pos:Pos} (hg:Gl X "enumerate") (hm:X.mg "enumerate"=none) (ha:PA X [a] ta) (hs:starEach [a] X.env=[(false,eval a X.env)]:=by rfl):PI X (.Tuple es x1 tp) (.Call (.Name "enumerate" p) [a] [] pos) (HA X.K ta):=by
 intro pins s σ H R I h
 refine Call_ (f6 I hg hm boot_enumerate (PyProof.Rows.callWith_type1 (thn (ha pos pins s σ H _ I h) fun us s1 ⟨vs,H1,I1,r1,q1⟩=>?_) hs rfl))
 obtain ⟨a',e,⟨xs,hq⟩,q⟩:=q1
 subst e
 obtain ⟨u,rfl,ru⟩:=r1.one
 cases ru
 obtain ⟨its,rv,pl,hz⟩:=I1.list hq
 refine call_enumerate_list pl.isList fun h' he hit hsz hk=>?_
 have I2:Inv X pins σ H1 { s1 with heap:=h' }:=I1.kept (t':=s1.toks) hk
 refine wpAny_pyIter_enum he ?_
 refine ⟨s1.heap.objs.size+1,[s1.heap.objs.size+1,s1.heap.objs.size],_,_,H1,rfl,I2,Bj a' _ _ (Nat.succ_ne_self _),⟨⟨_,he⟩,hit⟩,fun b hb=>?_,q⟩
 have hb':s1.heap.objs.size<=b:=by
  rcases List.mem_cons.mp hb with rfl | hb
  ·exact Nat.le_succ _
  ·have q:b=s1.heap.objs.size:=by simpa using hb
   subst q;exact Nat.le_refl _
 exact I1.fpOk hb' (I1.hok.fresh hb')
end
theorem sE {K:PySem.W.Frag} {a:Addr} {xs:List V} {g:TG} {tb:TS} {D:Ends} {σ:St} {H:Hp} (Pv:Nat->St->Hp->Prop) (h0:Pv 0 σ H) (hl:∀ i σ H,i<=xs.length->Pv i σ H->SqL K H a xs)
 (hs:∀ i x σ H p,xs[i]?=some x->Pv i σ H->H p=none->g (.ref p) σ (upd H p (.tup [.int i,x])) fun σ2 H2=>tb { D with nx:=Pv (i+1),ct:=Pv (i+1),bk:=D.nx } σ2 H2) (hd:∀ σ H,Pv xs.length σ H->D.nx σ H) :
 ∃ W:Nat->Nat->St->Hp->Prop,(∃ m,W 0 m σ H)/\∀ i m σ H,W i m σ H ->
   ((Ite K a).stop i H/\D.nx σ H)\/((Ite K a).go i H/\∃ N:St->Hp->Prop,(∀ σ' H',N σ' H'->∃ m',m'<m/\W (i+1) m' σ' H')/\∀ x H',(Ite K a).yld i H x H'->g x σ H' fun σ2 H2=>tb { D with nx:=N,ct:=N,bk:=D.nx } σ2 H2):=by
 refine ⟨fun i m σ H=>m=xs.length-i/\i<=xs.length/\Pv i σ H,⟨xs.length,by simp,Nat.zero_le _,h0⟩,?_⟩
 rintro i m σ H ⟨rfl,hi,p⟩
 have q:=hl i σ H hi p
 by_cases hlt:i<xs.length
 ·refine .inr ⟨⟨xs,xs[i],q,by simp [hlt]⟩,Pv (i+1),fun σ' H' p'=>⟨xs.length-(i+1),by omega,rfl,hlt,p'⟩,fun x H' y=>?_⟩
  obtain ⟨v,r,rfl,hr,rfl,y⟩:=y
  exact hs i v σ _ r (y xs q) p hr
 ·have e:i=xs.length:=by omega
  subst e
  exact .inl ⟨⟨xs,q,Nat.le_refl _⟩,hd σ H p⟩
def Itv (K:PySem.W.Frag) (a:Addr) (xs:List V):It :=
 ⟨fun i H=>SqL K H a xs/\i<xs.length,fun i H x H'=>H'=H/\xs[xs.length-1-i]?=some x,fun i H=>xs.length<=i⟩
theorem Bf {P:Program} {w:World} {K:PySem.W.Frag} {tg:Expr} (a it:Addr) (xs:List V):Turn P w K tg (Itv K a xs) [it] it (fun i h=>i<=xs.length/\h.IsRevIter it a ((xs.length:Int)-1-i)) where
 mem:=by simp
 obj:=fun i h st b hb=>by
  have e:b=it:=by simpa using hb
  subst e
  obtain ⟨_,o,e,c,d⟩:=st
  exact ⟨o,e,fun v z=>by rw [d] at z;cases z⟩
 keep:=fun i h h' st k=>⟨st.1,st.2.at fun o e=>k it (by simp) o e⟩
 item:=by
  intro X hP hw hK hc i pins s σ H E I hf st hg
  subst hP hw hK
  obtain ⟨hq,hlt⟩:=hg
  obtain ⟨its,rv,p,hz⟩:=I.list hq
  have hl:=rv.length
  obtain ⟨x,hx⟩:∃ x,xs[xs.length-1-i]?=some x:=⟨_,List.getElem?_eq_getElem (by omega)⟩
  obtain ⟨u,hu,ru⟩:=rv.get hx
  obtain ⟨f0,f1,f2,f3,f4,f5⟩:=hf it (by simp)
  have e1:(xs.length:Int)-1-i=((xs.length-1-i:Nat):Int):=by omega
  have hit:=st.2
  rw [e1] at hit
  refine wpAny_pyNext_rev_item hit p.isList (x:=u) (by simpa using hu) fun h' st' sb=>?_
  have I1:Inv X pins σ H { s with heap:=h' }:=I.turned (t':=s.toks) (fun b o hb e=>(sb.2 b hb).trans e) f0 f1 f3 f4 f5
  obtain ⟨o,e,c,d⟩:=id st'
  refine ⟨u,rfl,lf (s:={ s with heap:=h' }) e c d (by decide) ⟨x,H,I1,ru,⟨rfl,hx⟩,⟨hlt,?_⟩,fun b hb=>(hf b hb).1⟩⟩
  have e2:(xs.length:Int)-1-((i+1:Nat):Int)=((xs.length-1-i:Nat):Int)-1:=by omega
  rw [e2];exact st'
 done:=by
  intro X hP hw hK hc i pins s σ H E I hf st hg
  subst hP hw hK
  obtain ⟨f0,f1,f2,f3,f4,f5⟩:=hf it (by simp)
  have hle:xs.length<=i:=hg
  have e1:(xs.length:Int)-1-i = -1:=by have:=st.1;omega
  have hit:=st.2
  rw [e1] at hit
  exact wpAny_pyNext_rev_end (I.ok.hd hc) hit fun h' eb=>⟨rfl,I.turned (t':=s.toks) (fun b o hb e=>eb b o hb e) f0 f1 f3 f4 f5⟩
 self:=fun _ _ _ _ _ st h=>wpAny_pyIter_revIter st.2 h
section
variable {X:Cx} {tg:Expr}
def Hz (K:PySem.W.Frag) (ta:TA):TI:=fun σ H R=>ta σ H fun vs H1=>∃ a xs,vs=[.ref a]/\SqL K H1 a xs/\R (Itv K a xs) H1
theorem qY {a:Expr} {ta:TA} {p pos:Pos} (hg:Gl X "reversed") (hm:X.mg "reversed"=none) (ha:PA X [a] ta) (hs:starEach [a] X.env=[(false,eval a X.env)]:=by rfl):PI X tg (.Call (.Name "reversed" p) [a] [] pos) (Hz X.K ta):=by
 intro pins s σ H R I h
 refine Call_ (f6 I hg hm boot_reversed (PyProof.Rows.callWith_type1 (thn (ha pos pins s σ H _ I h) fun us s1 ⟨vs,H1,I1,r1,q1⟩=>?_) hs rfl))
 obtain ⟨a',xs,e,hq,q⟩:=q1
 subst e
 obtain ⟨u,rfl,ru⟩:=r1.one
 cases ru
 obtain ⟨its,rv,pl,hz⟩:=I1.list hq
 have hl:=rv.length
 refine call_reversed_list pl.isList ?_
 have hit:(s1.heap.push (revObj a' ((its.toArray.size:Int)-1))).IsRevIter s1.heap.objs.size a' ((xs.length:Int)-1-((0:Nat):Int)):=by
  have e1:(xs.length:Int)-1-((0:Nat):Int)=(its.toArray.size:Int)-1:=by rw [List.size_toArray];omega
  rw [e1]
  exact ⟨_,Heap.get?_push_size _ rfl,rfl,rfl⟩
 have I2:Inv X pins σ H1 { s1 with heap:=s1.heap.push (revObj a' ((its.toArray.size:Int)-1)) }:=I1.kept (t':=s1.toks) fun b o e=>Heap.get?_push_of_some _ e
 refine wpAny_pyIter_revIter (s:={ s1 with heap:=s1.heap.push (revObj a' ((its.toArray.size:Int)-1)) }) hit ?_
 refine ⟨s1.heap.objs.size,[s1.heap.objs.size],_,_,H1,rfl,I2,Bf a' _ xs,⟨Nat.zero_le _,hit⟩,fun b hb=>?_,q⟩
 have e:b=s1.heap.objs.size:=by simpa using hb
 subst e
 exact I1.fpOk (Nat.le_refl _) (I1.hok.fresh (Nat.le_refl _))
end
theorem sD {K:PySem.W.Frag} {a:Addr} {xs:List V} {g:TG} {tb:TS} {D:Ends} {σ:St} {H:Hp} (Pv:Nat->St->Hp->Prop) (h0:Pv 0 σ H) (hl:∀ i σ H,i<=xs.length->Pv i σ H->SqL K H a xs)
 (hs:∀ i x σ H,i<xs.length->xs[xs.length-1-i]?=some x->Pv i σ H->g x σ H fun σ2 H2=>tb { D with nx:=Pv (i+1),ct:=Pv (i+1),bk:=D.nx } σ2 H2) (hd:∀ σ H,Pv xs.length σ H->D.nx σ H) :
 ∃ W:Nat->Nat->St->Hp->Prop,(∃ m,W 0 m σ H)/\∀ i m σ H,W i m σ H ->
   ((Itv K a xs).stop i H/\D.nx σ H)\/((Itv K a xs).go i H/\∃ N:St->Hp->Prop,(∀ σ' H',N σ' H'->∃ m',m'<m/\W (i+1) m' σ' H')/\∀ x H',(Itv K a xs).yld i H x H'->g x σ H' fun σ2 H2=>tb { D with nx:=N,ct:=N,bk:=D.nx } σ2 H2):=by
 refine ⟨fun i m σ H=>m=xs.length-i/\i<=xs.length/\Pv i σ H,⟨xs.length,by simp,Nat.zero_le _,h0⟩,?_⟩
 rintro i m σ H ⟨rfl,hi,p⟩
 by_cases hlt:i<xs.length
 ·refine .inr ⟨⟨hl i σ H hi p,hlt⟩,Pv (i+1),fun σ' H' p'=>⟨xs.length-(i+1),by omega,rfl,hlt,p'⟩,fun x H' y=>?_⟩
  obtain ⟨e,y⟩:=y
  subst e
  exact hs i x σ _ hlt y p
 ·have e:i=xs.length:=by omega
  subst e
  exact .inl ⟨Nat.le_refl _,hd σ H p⟩
end L2
namespace L2
open PySem PySem.Spec PyProof.Rows
structure FunD (K:PySem.W.Frag) (x qual:Str) (st:Stmt) (dV:Value) (f:Addr) (fd:FuncData):Prop where
 ex:∃ (oc:Value) (od:Option Addr) (kV doc pm:Value) (an:Option Addr) (cdv ct:Value) (osl:Array (Option Value)),
  fd=PySem.W.fnOf x qual (dB st) (de st) (aD st) dV kV doc pm an cdv ct/\K.lookup f=some ⟨oc,od,.func fd,osl⟩/\PySem.W.codeIn K cdv qual=true
 kp:PySem.W.keepIn K (.ref f)=true
section
variable {P:Program} {w:World} {K:PySem.W.Frag} {mg:Str->Option Value} {base:Heap}
theorem FunD.ok {x qual:Str} {st:Stmt} {dV:Value} {f:Addr} {fd:FuncData} {N ps:List Str} {k:Nat} {sp:Sp} (F:FunD K x qual st dV f fd) (S:FnScope N ps (aD st)) (len:∀ vs H Q E,sp vs H Q E->vs.length=ps.length)
 (hbody:∀ (cdv:Value) (A:Around) (outer:List Env) (s:Shared) (H:Hp) (vs:List V) (Q:VK) (E:XK),Room k (A.deeper (envOfC qual (aD st) s.heap.objs.size f cdv))->sp vs H Q E ->
   ∃ t,PSs (iU CX0 P w K mg base N qual (aD st) f cdv A outer s H E).nox (de st) t/\t { nx:=fun _ H'=>Q .non H',rt:=Q } (start N vs) H):FnOk P w K mg base CX0 (k+1) f fd ps sp:=by
 obtain ⟨oc,od,kV,doc,pm,an,cdv,ct,osl,rfl,lk,hcd⟩:=F.ex
 refine zy lk hcd S len fun A outer s H vs Q E hr hsp=>?_
 obtain ⟨t,h,q⟩:=hbody cdv A outer s H vs Q E hr hsp
 exact ⟨t,h.nox,q⟩
theorem FunD.binds {x qual:Str} {st:Stmt} {dV:Value} {f:Addr} {fd:FuncData} {ps:List Str} (F:FunD K x qual st dV f fd)
 (h:∀ (kV doc pm:Value) (an:Option Addr) (cdv ct:Value) (us:List Value),us.length=ps.length->bindArgs (PySem.W.fnOf x qual (dB st) (de st) (aD st) dV kV doc pm an cdv ct) ⟨us,[]⟩=pure (ps.zip us)):Binds K fd ps []:=by
 obtain ⟨oc,od,kV,doc,pm,an,cdv,ct,osl,rfl,lk,hcd⟩:=F.ex
 exact .all (h kV doc pm an cdv ct)
theorem FunD.bindsD {x qual:Str} {st:Stmt} {T:Addr} {f:Addr} {fd:FuncData} {ps:List Str} {ds tup:List Value} {o:Obj} {n:Nat} (m:Nat) (F:FunD K x qual st (.ref T) f fd) (lo:K.lookup T=some o) (hs:o.data=.seq tup.toArray n) (hm:m+ds.length=ps.length)
 (h:∀ (kV doc pm:Value) (an:Option Addr) (cdv ct:Value) (us:List Value),us.length=m->∃ k:Option (Array Value)->Sem (List (Str×Value)),
   bindArgs (PySem.W.fnOf x qual (dB st) (de st) (aD st) (.ref T) kV doc pm an cdv ct) ⟨us,[]⟩=seqItems? (.ref T) >>= k/\k (some tup.toArray)=pure (ps.zip (us++ds))):Binds K fd ps ds:=by
 obtain ⟨oc,od,kV,doc,pm,an,cdv,ct,osl,rfl,lk,hcd⟩:=F.ex
 intro s us KX hl
 rw [List.length_append] at hl
 obtain ⟨k,h1,h2⟩:=h kV doc pm an cdv ct us (by omega)
 exact PySem.W.binds_K (k:=k) KX rfl lo hs h1 h2
theorem zu {x qual:Str} {st:Stmt} {f:Addr} {oc:Value} {od an:Option Addr} {osl:Array (Option Value)} {dV kV doc pm cdv ct:Value} (l:K.lookup f=some ⟨oc,od,.func (PySem.W.fnOf x qual (dB st) (de st) (aD st) dV kV doc pm an cdv ct),osl⟩)
 (c:PySem.W.codeIn K cdv qual=true) (k:PySem.W.keepIn K (.ref f)=true):FunD K x qual st dV f (PySem.W.fnOf x qual (dB st) (de st) (aD st) dV kV doc pm an cdv ct):=⟨⟨oc,od,kV,doc,pm,an,cdv,ct,osl,rfl,l,c⟩,k⟩
end
structure MCal (P:Program) (w:World) (K:PySem.W.Frag) (mg:Str->Option Value) (base:Heap) (k:Nat) (C:Addr) (m:Str) (ps:List Str) (sp:Sp) (f:Addr) (fd:FuncData):Prop where
 ok:FnOk P w K mg base CX0 k f fd ps sp
 mt:Meth K C m f
 bd:Binds K fd ps []
structure KCal (P:Program) (w:World) (K:PySem.W.Frag) (mg:Str->Option Value) (base:Heap) (k:Nat) (C:Addr) (x:Str) (ps:List Str) (sp:Sp) (f:Addr) (fd:FuncData) (ds:List Value) (dvs:List V):Prop where
 ok:FnOk P w K mg base CX0 k f fd ps sp
 mkr:Mk K C f
 mg:mg x=some (.ref C)
 bd:Binds K fd ps []
 bdD:Binds K fd ps ds
 vd:Vals dvs ds
end L2
namespace L2
open PySem PySem.Spec PyProof.Rows
section
variable {prog:Program} {w:World} {A:Around} {E:Value->Shared->Prop} {s:Shared}
end
section
variable {X:Cx} {K:PySem.W.Frag}
end
end L2
namespace L2
open PySem PySem.Spec PyProof.Rows
section
variable {P:Program} {w:World} {K:PySem.W.Frag} {mg:Str->Option Value} {base:Heap} {N:List Str} {qual:Str} {scope:Scope} {f:Addr} {cd:Value} {A:Around} {outer:List Env} {s:Shared} {H:Hp} {E:XK} {pins:List (Addr×Obj)} {σ:St} {H1:Hp} {s1:Shared}
end
end L2
namespace L2
open PySem PySem.Spec PyProof.Rows
def j1 (lo:Int) (n:Nat):It:=⟨fun i _=>i<n,fun i H x H'=>H'=H/\x=.int (lo+i * -1),fun i _=>n<=i⟩
theorem Bg {P:Program} {w:World} {K:PySem.W.Frag} {tg:Expr} (it:Addr) (lo:Int) (n:Nat):Turn P w K tg (j1 lo n) [it] it (fun i h=>IsRangeIter h it (lo+(i:Nat) * -1) ((n:Int)-(i:Nat)) (-1)) where
 mem:=by simp
 obj:=fun i h st b hb=>by
  have e:b=it:=by simpa using hb
  subst e
  exact ⟨_,st,fun v z=>by
   have z':Data.fields _=Data.cell v:=z
   cases z'⟩
 keep:=fun i h h' st k=>k it (by simp) _ st
 item:=by
  intro X hP hw hK hc i pins s σ H E I hf st hg
  subst hP hw hK
  obtain ⟨f0,f1,f2,f3,f4,f5⟩:=hf it (by simp)
  have W:=Walks.range (prog:=X.prog) (w:=X.w) (I.ok.hd hc) it lo (-1) n
  refine W.item i s _ _ hg st fun v h' tk hv st' kk=>?_
  obtain ⟨t,rfl⟩:=hv
  have I1:Inv X pins σ H { s with heap:=h',toks:=tk }:=I.turned (fun b o hb e=>kk b o (by simpa using hb) e) f0 f1 f3 f4 f5
  exact ⟨_,rfl,lf (s:={ s with heap:=h',toks:=tk }) (n:="range_iterator") st' rfl rfl (by decide) ⟨.int (lo+i * -1),H,I1,⟨t,rfl⟩,⟨rfl,rfl⟩,st',fun b hb=>(hf b hb).1⟩⟩
 done:=by
  intro X hP hw hK hc i pins s σ H E I hf st hg
  subst hP hw hK
  obtain ⟨f0,f1,f2,f3,f4,f5⟩:=hf it (by simp)
  exact wpAny_pyNext_range_end (I.ok.hd hc) st (by have:n<=i:=hg;omega) fun h' eb=>⟨rfl,I.turned (t':=s.toks) (fun b o hb e=>eb b o hb e) f0 f1 f3 f4 f5⟩
 self:=fun _ _ _ _ _ st h=>wpAny_pyIter_rangeiter st h
theorem xD (a b:Int):Builtin.Range.rangeSize a b (-1)=if b<a then a-b else 0:=by
 unfold Builtin.Range.rangeSize
 rw [if_neg (by decide)]
 show (if a>b then (a-b-1)/1+1 else 0)=_
 rw [Int.ediv_one]
 split<;>omega
theorem BT {a b:Int} (ha : -(2^61)<=a) (ha':a<2^61) (hb : -(2^61)<=b) (hb':b<2^61):Builtin.Range.small a b (-1)=true:=by
 unfold Builtin.Range.small
 rw [xD]
 simp only [Builtin.Range.rangeFitsLong,Bool.and_eq_true,Bool.or_eq_true,decide_eq_true_eq,beq_iff_eq,show ¬ ((-1:Int)>0) by decide,if_false]
 split<;>omega
section
variable {X:Cx} {tg:Expr}
theorem Do {pins:List (Addr×Obj)} {σ:St} {H:Hp} {s:Shared} {R:It->Hp->Prop} {E:Value->Shared->Prop} {lo hi:Int} {t u v:Tok} {tk:Nat} (I:Inv X pins σ H s) (h1 : -(2^61)<=lo) (h2:lo<2^61) (h3 : -(2^61)<=hi) (h4:hi<2^61)
 (q:R (j1 lo (lo-hi).toNat) H):wpAny (model X.prog X.w) X.A (pyIter (.ref s.heap.objs.size)) (PIE X pins σ tg R) E { s with heap:=s.heap.push { cls:=.type "range",data:=.fields #[.int lo t,.int hi u,.int (-1) v] },toks:=tk }:=by
 refine wpAny_pyIter_range (IsRange.new ..) (BT h1 h2 h3 h4) ?_
 have I1:Inv X pins σ H { s with heap:=s.heap.push { cls:=.type "range",data:=.fields #[.int lo t,.int hi u,.int (-1) v] },toks:=tk }:=I.kept fun b o e=>Heap.get?_push_of_some _ e
 refine ⟨(s.heap.push { cls:=.type "range",data:=.fields #[.int lo t,.int hi u,.int (-1) v] }).objs.size,[(s.heap.push { cls:=.type "range",data:=.fields #[.int lo t,.int hi u,.int (-1) v] }).objs.size],_,_,H,rfl,
  I1.kept (t':=tk) fun b o e=>Heap.get?_push_of_some _ e,Bg _ lo (lo-hi).toNat,?_,fun b hb=>?_,q⟩
 ·have e1:lo+((0:Nat):Int) * -1=lo:=by simp
  have e2:(((lo-hi).toNat:Nat):Int)-((0:Nat):Int)=Builtin.Range.rangeSize lo hi (-1):=by rw [xD];split<;>omega
  show IsRangeIter _ _ (lo+((0:Nat):Int) * -1) ((((lo-hi).toNat:Nat):Int)-((0:Nat):Int)) (-1)
  rw [e1,e2]
  exact Heap.get?_push_size _ rfl
 ·have e:b=(s.heap.push { cls:=.type "range",data:=.fields #[.int lo t,.int hi u,.int (-1) v] }).objs.size:=by simpa using hb
  subst e
  exact I1.fpOk (Nat.le_refl _) (I1.hok.fresh (Nat.le_refl _))
def Hw (ta:TA):TI:=fun σ H R=>ta σ H fun vs H1=>∃ i j:Int,vs=[.int i,.int j,.int (-1)]/\(-(2^61)<=i/\i<2^61 /\ -(2^61)<=j/\j<2^61)/\R (j1 i (i-j).toNat) H1
theorem xW {a b c:Expr} {ta:TA} {p pos:Pos} (hg:Gl X "range") (hm:X.mg "range"=none) (ha:PA X [a,b,c] ta) (hs:starEach [a,b,c] X.env=[(false,eval a X.env),(false,eval b X.env),(false,eval c X.env)]:=by rfl) (hs2:starEach [b,c] X.env=[(false,eval b X.env),(false,eval c X.env)]:=by rfl) :
 PI X tg (.Call (.Name "range" p) [a,b,c] [] pos) (Hw ta):=by
 intro pins s σ H R I h
 refine Call_ (f6 I hg hm boot_range (PyProof.Rows.callWith_type1 (thn (ha pos pins s σ H _ I h) fun us s1 ⟨vs,H1,I1,r1,q1⟩=>?_) (by rw [hs,hs2]) (by rw [hs2];rfl)))
 obtain ⟨i,j,e,⟨q1,q2,q3,q4⟩,q⟩:=q1
 subst e
 cases r1 with
 | cons r rr =>
   cases rr with
   | cons r' rr =>
     cases rr with
     | cons r'' rr =>
       cases rr
       obtain ⟨t,rfl⟩:=r
       obtain ⟨t',rfl⟩:=r'
       obtain ⟨t'',rfl⟩:=r''
       exact call_range_3 (by decide) (Do I1 q1 q2 q3 q4 q) (Or.inl (PyProof.noPylong_small (by decide)))
end
theorem zv {lo:Int} {n:Nat} {g:TG} {tb:TS} {D:Ends} {σ:St} {H:Hp} (Pv:Nat->St->Hp->Prop) (h0:Pv 0 σ H)
 (hs:∀ i σ H,i<n->Pv i σ H->g (.int (lo+i * -1)) σ H fun σ2 H2=>tb { D with nx:=Pv (i+1),ct:=Pv (i+1),bk:=D.nx } σ2 H2) (hd:∀ σ H,Pv n σ H->D.nx σ H) :
 ∃ W:Nat->Nat->St->Hp->Prop,(∃ m,W 0 m σ H)/\∀ i m σ H,W i m σ H ->
   ((j1 lo n).stop i H/\D.nx σ H)\/((j1 lo n).go i H/\∃ N:St->Hp->Prop,(∀ σ' H',N σ' H'->∃ m',m'<m/\W (i+1) m' σ' H')/\∀ x H',(j1 lo n).yld i H x H'->g x σ H' fun σ2 H2=>tb { D with nx:=N,ct:=N,bk:=D.nx } σ2 H2):=by
 refine ⟨fun i m σ H=>m=n-i/\i<=n/\Pv i σ H,⟨n,by simp,Nat.zero_le _,h0⟩,?_⟩
 rintro i m σ H ⟨rfl,hi,p⟩
 by_cases hlt:i<n
 ·refine .inr ⟨hlt,Pv (i+1),fun σ' H' p'=>⟨n-(i+1),by omega,rfl,hlt,p'⟩,fun x H' y=>?_⟩
  obtain ⟨e,y⟩:=y
  subst e y
  exact hs i σ _ hlt p
 ·have e:i=n:=by omega
  subst e
  exact .inl ⟨Nat.le_refl _,hd σ H p⟩
end L2
namespace L2
open PySem PySem.Spec PyProof.Rows
section
variable {X:Cx} {K:PySem.W.Frag}
end
end L2
namespace L2
open PySem PySem.Spec PyProof.Rows
theorem GH {P:Program} {w:World} {K:PySem.W.Frag} {mg mb:Str->Option Value} {CX:CXT} {k:Nat} {fa a:Addr} {fd:FuncData} {x:Str} {sp:Sp} {s₁:Shared} {vs:List Value} {ns:List Int}
 (KX:K.In s₁.heap) (hns:s₁.heap.Ns mainGlobals mg) (hb:s₁.heap.Ns builtinsNs mb) (hbb:∀ x:Str,x≠"__name__"->mb x=bootBuiltins x) (hlim:s₁.heap.NoLimit) (hse:s₁.heap.NoSeer) (hg:s₁.gens=#[])
 (ha:s₁.heap.get? a=some { cls:=.type "list",data:=.seq vs.toArray }) (hi:IntsAre vs ns) (hl:ns.length<=sizeLine) (hr:Room k callerA)
 (F:∀ base:Heap,K.In base->base.Ns mainGlobals mg->base.NoSeer->FnOk P w K mg base CX k fa fd [x] sp) (hbind:∀ (s:Shared) (u:Value),BindsTo s fd ⟨[u],[]⟩ [(x,u)])
 (hsp:∀ H:Hp,uz H->SqL K H a (ns.map V.int)->sp [.ref a] H (fun v _=>v=.bl true) fun _ _ _=>False)
 (hCX:∀ H e s',CX [] H s₁ (fun _ _ _=>False) e s'->False) :
 codeAny (model P w) callerA (.call (.ref fa) ⟨[.ref a],[]⟩) (fun r s'=>r=.ok (.ret (.bool true))/\OldK s₁.heap s'.heap/\s'.os=s₁.os/\AllBare s'.gens) s₁:=by
 have rv:=vf hi
 have lenV:=hi.length
 have core:∀ H:Hp,uz H->SqL K H a (ns.map V.int)->HOk P w H s₁.heap->(∀ b,H b≠none->b=a)->(H a≠none->K.lookup a=none) ->
  codeAny (model P w) callerA (.call (.ref fa) ⟨[.ref a],[]⟩) (fun r s'=>r=.ok (.ret (.bool true))/\OldK s₁.heap s'.heap/\s'.os=s₁.os/\AllBare s'.gens) s₁:=by
  intro H hO hS hok hA hK
  have base_of:∀ {b:Addr} {o:Obj},s₁.heap.get? b=some o->H b=none->(fC s₁.heap H).get? b=some o:=fun e n=>HE e n
  have noA:∀ {b:Addr} {o:Obj} {es:Array DictEntry} {ep:Nat},s₁.heap.get? b=some o->o.data=.dict es ep->H b=none:=fun {b o es ep} e d=>by
   cases q:H b with
   | none=>rfl
   | some u =>
     have e':b=a:=hA b (by rw [q];simp)
     subst e'
     rw [ha] at e;cases e
     have d':Data.seq vs.toArray _=Data.dict es ep:=d
     cases d'
  have nsK:∀ {b:Addr} {m:Str->Option Value},s₁.heap.Ns b m->(fC s₁.heap H).Ns b m:=fun {b m} ⟨o,es,ep,e,d,r⟩=>⟨o,es,ep,base_of e (noA e d),d,r⟩
  have hKb:K.In (fC s₁.heap H):=fun b o e=>base_of (KX b o e) (by
   cases q:H b with
   | none=>rfl
   | some u =>
     have e':b=a:=hA b (by rw [q];simp)
     subst e'
     rw [hK (by rw [q];simp)] at e;cases e)
  have hM:Mod K mg (fC s₁.heap H):=⟨hKb,nsK hns,⟨mb,nsK hb,hbb⟩,let ⟨mc,h1,h2⟩:=hlim;⟨mc,nsK h1,h2⟩⟩
  have hSb:(fC s₁.heap H).NoSeer:=by
   obtain ⟨⟨mc,c1,c2,c3⟩,⟨mm,m1,m2⟩,⟨mb',b1,b2⟩,⟨mg',bm,ob,g1,g2,g3,g4,g5⟩⟩:=hse
   refine ⟨⟨mc,nsK c1,c2,c3⟩,⟨mm,nsK m1,m2⟩,⟨mb',nsK b1,b2⟩,⟨mg',bm,ob,nsK g1,g2,base_of g3 ?_,g4,g5⟩⟩
   cases q:H bm with
   | none=>rfl
   | some u =>
     have e':bm=a:=hA bm (by rw [q];simp)
     rw [e',ha] at g3
     cases g3
     exact absurd (Value.type.inj g4) (by decide)
  have e0:Env0 P w K mg (fC s₁.heap H) callerA [] s₁ H:=⟨rfl,hM,fun b o e=>Fn e,Nat.le_of_eq (HD _ _),trivial,fun b hb=>absurd (show b∈([]:List Addr) from hb) (by simp),hok,.of_eq hg⟩
  refine codeAny_mono ((F _ hKb (nsK hns) hSb).run callerA [] s₁ H ⟨[.ref a],[]⟩ [.ref a] [.ref a] _ _ hr e0 (hbind s₁ (.ref a)) (.cons rfl .nil) (hsp H hO hS)) fun r s' h=>?_
  cases r with
  | error e=>exact (hCX H e s' h).elim
  | ok fl =>
    cases fl with
    | next=>exact False.elim h
    | brk=>exact False.elim h
    | cont=>exact False.elim h
    | ret u =>
      obtain ⟨v,H',os,bare,un,hok',r',q⟩:=h
      have q':v=.bl true:=q
      subst q'
      obtain rfl:u=Value.bool true:=r'
      refine ⟨rfl,OldK.of_keep fun b o e=>?_,os,bare⟩
      cases q:H b with
      | none=>exact un.keep b o e q (by intro z;exact absurd (show b∈([]:List Addr) from z) (by simp)) (by simp)
      | some u =>
        rcases hO b with z | ⟨ob,xs,z⟩
        ·rw [q] at z;cases z
        ·have z2:=un.frzs b ob _ z
         obtain ⟨e1,_⟩:=hok b _ z
         obtain ⟨e2,_⟩:=hok' b _ z2
         rw [e] at e1;cases e1
         exact e2
 cases hk:K.lookup a with
 | some o =>
   have e:=KX a o hk
   rw [ha] at e
   cases e
   refine core (fun _=>none) (fun _=>.inl rfl) (.inr ⟨_,vs.toArray,_,hk,rfl,rfl,rfl,by rw [List.size_toArray,lenV];exact hl,by simpa using rv⟩) (fun b u z=>by have z':(none:Option HO)=some u:=z;cases z') (fun b z=>absurd rfl z) fun z=>absurd rfl z
 | none =>
   refine core (fun b=>if b=a then some (.frz { cls:=.type "list",data:=.seq vs.toArray } (.lst (ns.map V.int))) else none) (fun b=>?_) (.inl (.inr ⟨{ cls:=.type "list",data:=.seq vs.toArray },if_pos rfl⟩)) (fun b u z=>?_) (fun b z=>?_) fun _=>hk
   ·by_cases hb:b=a
    ·exact .inr ⟨_,_,if_pos hb⟩
    ·exact .inl (if_neg hb)
   ·by_cases hb:b=a
    ·have z':=(if_pos hb).symm.trans z
     cases z'
     subst hb
     exact ⟨ha,by rw [List.length_map];exact hl,vs,_,rv,ha⟩
    ·have z':=(if_neg hb).symm.trans z
     cases z'
   ·by_cases hb:b=a
    ·exact hb
    ·exact absurd (if_neg hb) z
theorem walk_ofS {l:PySem.W.OpenLaw} {n k:Nat} {q:Program} {loose:List Str} {XP:(Str->Option Value)->Heap->Prop} {YP:World->Heap->Prop} {d:DefRec} {K:Params->PySem.W.Frag} {CX:World->CXT} {sp:World->Sp} {x:Str}
 (hi:PyProof.Rows.importsNone q=true) (hn:l.most=some n) (hn2:n<=sizeLine) (hdf:d.params.defaults=[]) (hr:Room k callerA)
 (hY:∀ (w:World) (h:Heap),YP w h->(K w.params).In h)
 (F:∀ (w:World) (mg:Str->Option Value) (fa:Addr) (h:Heap),(K w.params).In h->h.Ns mainGlobals mg->mg d.name=some (.ref fa) ->
   ∃ fd:FuncData,(∀ (s:Shared) (u:Value),BindsTo s fd ⟨[u],[]⟩ [(x,u)]) /\
     ∀ base:Heap,(K w.params).In base->base.Ns mainGlobals mg->base.NoSeer->FnOk l.prog w (K w.params) mg base (CX w) k fa fd [x] (sp w))
 (hsp:∀ (w:World) (H:Hp) (a:Addr) (ns:List Int),ns.length<=n->uz H->SqL (K w.params) H a (ns.map V.int)->sp w [.ref a] H (fun v _=>v=.bl true) fun _ _ _=>False)
 (hCX:∀ (w:World) (H:Hp) (s:Shared) (e:Value) (s':Shared),CX w [] H s (fun _ _ _=>False) e s'->False) :
 PySem.W.WalkO q loose XP YP l.row.toRowW d [] (fun f vs=>PySem.call f vs):=by
 refine Att.attach_call hn hdf fun w s₀ s₁ mg mb fa o pm cd doc a vs ns G Y ho hd hcd hmg hobj hints hlen hg=>?_
 have KX:=hY w _ Y
 obtain ⟨fd,hb,hF⟩:=F w mg fa _ KX G.T.g hmg
 exact GH KX G.T.g G.T.b G.T.builtins G.T.nolimit (G.T.seer hi) hg hobj hints (Nat.le_trans hlen hn2) hr hF hb (fun H hO hS=>hsp w H a ns hlen hO hS) fun H e s'=>hCX w H s₁ e s'
end L2
namespace L2
open PySem PySem.Spec PyProof.Rows
section
variable {X:Cx} {e:Env} {l:List Env}
theorem Da {pins:List (Addr×Obj)} {σ:St} {H:Hp} {s:Shared} (hs:X.base.NoSeer) (ht:X.prog.given.tree=none) (hd:X.A.depth+100<recursionLimit) (hst:X.stack=e::l) (h1:e.scope.isGenerator=false) (h2:e.scope.isCoroutine=false) (h3:e.builtins=builtinsNs) (h4:e.globals=mainGlobals) (I:Inv X pins σ H s):PylongRoom (model X.prog X.w) X.A s :=
 PylongRoom.of (I.ok.mod.nolimit.keeps I.bk) hd (SeerAt.of (hs.keeps I.bk) ht (by rw [I.ok.frames,hst]) h1 h2 h3 h4)
theorem D2 (hs:X.base.NoSeer) (ht:X.prog.given.tree=none) (hd:X.A.depth+100<recursionLimit) (hst:X.stack=e::l) (h1:e.scope.isGenerator=false) (h2:e.scope.isCoroutine=false) (h3:e.builtins=builtinsNs) (h4:e.globals=mainGlobals):OpR X (binaryOp .FloorDiv) (rI (fun _ j=>0<j) fun i j=>.int (i/j)):=by
 intro pins s σ H x y v u Q I rx ry h
 obtain ⟨i,j,rfl,rfl,hj,q⟩:=h
 obtain ⟨t,rfl⟩:=rx
 obtain ⟨t',rfl⟩:=ry
 have hj':(0:Int)<j:=hj
 refine floordiv_int (Int.ne_of_gt hj') ?_ (.inr (Da hs ht hd hst h1 h2 h3 h4 I))
 rw [Int.fdiv_eq_ediv_of_nonneg _ (Int.le_of_lt hj')]
 exact ⟨.int (i/j),H,I.tok _,⟨_,rfl⟩,q⟩
end
end L2
namespace L2
open PySem PySem.Spec PyProof.Rows
theorem KT (a v:Value):argsOk "max" ⟨[a],[(Str.ofString "default",v)]⟩:=by unfold argsOk;kernel_rfl
def Top (val:Nat->Int) (n:Nat) (M:Int):Prop:=(∃ i,i<n/\val i=M)/\∀ i,i<n->val i<=M
theorem Top.more {val:Nat->Int} {n:Nat} {M:Int} (h:Top val n M) (hn:val n>M):Top val (n+1) (val n) :=
 ⟨⟨n,by omega,rfl⟩,fun i hi=>by
   by_cases e:i=n
   ·subst e;exact Int.le_refl _
   ·have:=h.2 i (by omega);omega⟩
theorem Top.less {val:Nat->Int} {n:Nat} {M:Int} (h:Top val n M) (hn:¬ val n>M):Top val (n+1) M :=
 ⟨let ⟨i,hi,e⟩:=h.1;⟨i,by omega,e⟩,fun i hi=>by
  by_cases e:i=n
  ·subst e;omega
  ·exact h.2 i (by omega)⟩
section
variable {prog:Program} {w:World} {A:Around} {R:Result->Shared->Prop} {I S:Addr} {fp wr:List Addr} {n:Nat} {P:Nat->Value->Prop} {St:Nat->Heap->Prop} {val:Nat->Int} {d:Value}
theorem nI:(toString "max"++toString ".loop":String)="max.loop":=by decide
theorem FH (W:Walks prog w A.in1 I fp wr n P St) (hval:∀ i v,P i v->∃ t,v=.int (val i) t) (hSf:S∉fp) :
 ∀ (k j:Nat) (s:Shared) (m:Int) (t:Tok) (c:Nat),n-j=k->j<=n->St j s.heap->Top val j m ->
 s.heap.get? S=some { cls:=.type "list",dict:=none,data:=.seq #[.int m t,.int m t] c,slots:=#[] } ->
 (∀ M t h' tk,Top val n M->(∀ b o,b∉wr->b≠S->s.heap.get? b=some o->h'.get? b=some o)->R (.ok (.ret (.int M t))) { s with heap:=h',toks:=tk }) ->
 codeAny (model prog w) A (.builtin "max.loop" ⟨[.ref I,.none,.ref S],[("default",d)]⟩) R s:=by
 have hSw:S∉wr:=fun h=>hSf (W.sub _ h)
 have cm:=CmpOf.ints_gt (prog:=prog) (w:=w) (A:=A.in1) (P:=fun i v=>∃ t,v=.int (val i) t) val (fun _ _ h=>h)
 intro k
 induction k with
 | zero =>
   intro j s m t c hk hj hst hT hS hR
   have hin:j=n:=by omega
   subst hin
   refine codeAny_builtin F.entry_max_loop ?_
   rw [Around.under_plainId F.plain_max_loop _]
   refine wpAny_bind (wpAny_seqItems hS rfl ?_)
   show wpAny _ A.in1 (tryCatch (pyNext (.ref I)) _ >>= _) _ _ s
   refine wpAny_bind (wpAny_tryCatch (W.done s _ _ hst fun h' tk hk'=>?_))
   show wpAny _ A.in1 (updateSeq S (fun _=>#[]) >>= _) _ _ _
   refine wpAny_bind (wpAny_updateSeq (hk' S _ hSw hS) rfl (wpAny_bind (wpAny_letGo (wpAny_pure ?_))))
   exact hR m t _ tk hT fun b o hb hbS e=>(Heap.get?_update_other _ _ (Ne.symm hbS)).trans (hk' b o hb e)
 | succ k ih =>
   intro j s m t c hk hj hst hT hS hR
   have hlt:j<n:=by omega
   refine codeAny_builtin F.entry_max_loop ?_
   rw [Around.under_plainId F.plain_max_loop _]
   refine wpAny_bind (wpAny_seqItems hS rfl ?_)
   show wpAny _ A.in1 (tryCatch (pyNext (.ref I)) _ >>= _) _ _ s
   refine wpAny_bind (wpAny_tryCatch (W.item j s _ _ hlt hst fun v h' tk hP hst' hk'=>?_))
   have hS':=hk' S _ hSw hS
   obtain ⟨u,rfl⟩:=hval j v hP
   obtain ⟨i0,_,e0⟩:=hT.1
   show wpAny _ A.in1 (tryCatch (holding [_,_] (richCompare .Gt (.int (val j) u) (.int m t) >>= _)) _ >>= _) _ _ _
   refine wpAny_bind (wpAny_tryCatch (wpAny_holding (wpAny_bind (cm j i0 _ _ _ _ _ ⟨u,rfl⟩ ⟨t,by rw [e0]⟩ ?_))))
   refine wpAny_bind (wpAny_holding (wpAny_truthy_bool ?_))
   refine wpAny_bind (wpAny_letGo (wpAny_pure ?_))
   show wpAny _ A.in1 (if decide (val j>val i0)=true then _ else _) _ _ _
   rw [e0]
   by_cases hb:val j>m
   ·rw [decide_eq_true hb]
    simp only [if_true]
    refine wpAny_bind ?_
    refine wpAny_updateSeq hS' rfl (wpAny_bind (wpAny_letGo ?_))
    rw [nI]
    refine wpAny_pure ⟨plainId_quiet F.plain_max_loop _,ih (j+1) _ (val j) u _ (by omega) hlt (W.frame _ _ _ hst' fun b hbf o e=>?_) (hT.more hb) (Heap.get?_update_self _ hS' rfl) fun M t' h'' tk'' hM hk''=>?_⟩
    ·exact (Heap.get?_update_other _ _ (fun h:S=b=>hSf (h ▸ hbf))).trans e
    ·exact hR M t' h'' tk'' hM fun b o hbw hbS e=>hk'' b o hbw hbS ((Heap.get?_update_other _ _ (Ne.symm hbS)).trans (hk' b o hbw e))
   ·rw [decide_eq_false hb]
    simp only [Bool.false_eq_true,if_false]
    refine wpAny_bind (wpAny_letGo ?_)
    rw [nI]
    refine wpAny_pure ⟨plainId_quiet F.plain_max_loop _,ih (j+1) _ m t c (by omega) hlt hst' (hT.less hb) hS' fun M t' h'' tk'' hM hk''=>?_⟩
    exact hR M t' h'' tk'' hM fun b o hbw hbS e=>hk'' b o hbw hbS (hk' b o hbw e)
theorem FI (W:Walks prog w A.in1 I fp wr n P St) (hval:∀ i v,P i v->∃ t,v=.int (val i) t) (hSf:S∉fp) {s:Shared} {c:Nat} (hst:St 0 s.heap)
 (hS:s.heap.get? S=some { cls:=.type "list",dict:=none,data:=.seq #[] c,slots:=#[] })
 (h0:n=0->∀ h' tk,(∀ b o,b∉wr->b≠S->s.heap.get? b=some o->h'.get? b=some o)->R (.ok (.ret d)) { s with heap:=h',toks:=tk })
 (hR:∀ M t h' tk,Top val n M->(∀ b o,b∉wr->b≠S->s.heap.get? b=some o->h'.get? b=some o)->R (.ok (.ret (.int M t))) { s with heap:=h',toks:=tk }) :
 codeAny (model prog w) A (.builtin "max.loop" ⟨[.ref I,.none,.ref S],[("default",d)]⟩) R s:=by
 have hSw:S∉wr:=fun h=>hSf (W.sub _ h)
 refine codeAny_builtin F.entry_max_loop ?_
 rw [Around.under_plainId F.plain_max_loop _]
 refine wpAny_bind (wpAny_seqItems hS rfl ?_)
 show wpAny _ A.in1 (tryCatch (pyNext (.ref I)) _ >>= _) _ _ s
 by_cases hn:n=0
 ·subst hn
  refine wpAny_bind (wpAny_tryCatch (W.done s _ _ hst fun h' tk hk'=>?_))
  refine wpAny_bind (wpAny_rule (wpAny_pure ?_))
  exact h0 rfl h' tk fun b o hb _ e=>hk' b o hb e
 ·refine wpAny_bind (wpAny_tryCatch (W.item 0 s _ _ (by omega) hst fun v h' tk hP hst' hk'=>?_))
  have hS':=hk' S _ hSw hS
  obtain ⟨u,rfl⟩:=hval 0 v hP
  show wpAny _ A.in1 (updateSeq S (fun _=>#[.int (val 0) u,.int (val 0) u]) >>= _) _ _ _
  refine wpAny_bind (wpAny_updateSeq hS' rfl ?_)
  rw [nI]
  refine wpAny_pure ⟨plainId_quiet F.plain_max_loop _,FH W hval hSf _ 1 _ (val 0) u _ rfl (by omega) (W.frame _ _ _ hst' fun b hbf o e=>?_) ⟨⟨0,by omega,rfl⟩,fun i hi=>?_⟩ (Heap.get?_update_self _ hS' rfl) fun M t h'' tk'' hM hk''=>?_⟩
  ·exact (Heap.get?_update_other _ _ (fun h:S=b=>hSf (h ▸ hbf))).trans e
  ·have:i=0:=by omega
   subst this;exact Int.le_refl _
  ·exact hR M t h'' tk'' hM fun b o hbw hbS e=>hk'' b o hbw hbS ((Heap.get?_update_other _ _ (Ne.symm hbS)).trans (hk' b o hbw e))
end
section
variable {prog:Program} {w:World} {A:Around} {E:Value->Shared->Prop} {s:Shared} {l:Addr} {xs:Array (Int×Tok)} {d:Value}
theorem Ka {Q:Value->Shared->Prop} (hh:A.handled=none) (hl:s.heap.IsList l (intItems xs))
 (h0:xs.size=0->∀ h' tk,(∀ b o,s.heap.get? b=some o->h'.get? b=some o)->Q d { s with heap:=h',toks:=tk })
 (h:∀ M t h' tk,Top (numAt xs) xs.size M->(∀ b o,s.heap.get? b=some o->h'.get? b=some o)->Q (.int M t) { s with heap:=h',toks:=tk }) :
 wpAny (model prog w) A (call (.builtin "max") [.ref l] [("default",d)]) Q E s:=by
 refine wpAny_call (codeAny_call_builtin F.plain_max F.entry_max ?_)
 simp only [checkBuiltinCall,F.kind_max]
 have key:wpAny (model prog w) A.in1 (Builtin.«max» ⟨[.ref l],[("default",d)]⟩) (fun fin s'=>match fin with
  | .done f=>(match (Except.ok f:Result) with | .ok (.ret v)=>Q v s' | .ok _=>False | .error e=>E e s')
  | .again c'=>c'.quiet=true/\codeAny (model prog w) A c' (fun r s'=>match r with | .ok (.ret v)=>Q v s' | .ok _=>False | .error e=>E e s') s') E s:=by
  show wpAny _ A.in1 (Builtin.Builtins.bindParams "max" ["key","default"] 0 ⟨[],[("default",d)]⟩ >>= _) _ _ s
  refine wpAny_bind (wpAny_of_eq (show Builtin.Builtins.bindParams "max" ["key","default"] 0 ⟨[],[("default",d)]⟩=pure [none,some d] from rfl) ?_)
  refine wpAny_bind (wpAny_pure ?_)
  refine wpAny_bind (iter_intList hl fun s₂ e st hfp hlI=>?_)
  subst e
  refine wpAny_bind (wpAny_newObj_type ?_)
  rw [nI]
  have W:=Walks.list (prog:=prog) (w:=w) (A:=A.in1) hh _ l hlI (intItems xs)
  have sz:(intItems xs).size=xs.size:=by simp [intItems]
  refine wpAny_pure ⟨plainId_quiet F.plain_max_loop _,FI W (val:=numAt xs) (fun i v=>intItems_at) (fun hm=>Nat.lt_irrefl _ (hfp _ hm)) (W.frame _ _ _ st fun b _ o e=>Heap.get?_push_of_some _ e) (Heap.get?_push_size _ rfl) (fun hn h' tk hk=>?_) fun M t h' tk hM hk=>?_⟩
  ·exact h0 (sz ▸ hn) h' tk (old_kept fun b o hb e=>hk b o hb (Nat.ne_of_lt (Heap.lt_size e)) (Heap.get?_push_of_some _ e))
  ·exact h M t h' tk (sz ▸ hM) (old_kept fun b o hb e=>hk b o hb (Nat.ne_of_lt (Heap.lt_size e)) (Heap.get?_push_of_some _ e))
 cases hsig:Manifest.signature? "max" with
 | none=>exact wpAny_pure key
 | some sig =>
   have ha':Bind.checkArgs "max" sig ⟨[.ref l],[("default",d)]⟩=pure ():=by simpa only [argsOk,hsig] using KT (.ref l) d
   simp only [ha']
   exact wpAny_pure key
end
def xG (K:PySem.W.Frag):R2:=fun x y H Q=>∃ (p:Addr) (ns:List Int),x=.ref p/\SqL K H p (ns.map V.int)/\(ns=[]->Q y H)/\∀ M,M∈ns->(∀ a∈ns,a<=M)->Q (.int M) H
theorem ze:∀ {ns:List Int} {us:List Value},Vals (ns.map V.int) us->∃ ts:List (Int×Tok),us.toArray=intItems ts.toArray/\ts.map (·.1)=ns
 | [],_,h=>by cases h;exact ⟨[],by simp [intItems],rfl⟩
 | n::ns,_,h=>by
   cases h with
   | cons r rr =>
     obtain ⟨t,rfl⟩:=r
     obtain ⟨ts,e1,e2⟩:=ze rr
     refine ⟨(n,t)::ts,?_,by rw [List.map_cons,e2]⟩
     have e3:=congrArg Array.toList e1
     simp only [intItems,List.map_toArray] at e3 ⊢
     simpa using e3
theorem Bu {ts:List (Int×Tok)} {M:Int} (h:Top (numAt ts.toArray) ts.toArray.size M):M∈ts.map (·.1)/\∀ a∈ts.map (·.1),a<=M:=by
 have g:∀ (i:Nat) (hi:i<ts.length),numAt ts.toArray i=(ts[i]).1:=fun i hi=>by simp [numAt,hi]
 obtain ⟨⟨i,hi,e⟩,h2⟩:=h
 have hi':i<ts.length:=by simpa using hi
 constructor
 ·rw [<- e,g i hi'];exact List.mem_map.mpr ⟨_,List.getElem_mem hi',rfl⟩
 ·intro a ha
  obtain ⟨p,hp,rfl⟩:=List.mem_map.mp ha
  obtain ⟨j,hj,rfl⟩:=List.getElem_of_mem hp
  rw [<- g j hj];exact h2 j (by simpa using hj)
section
variable {X:Cx} {K:PySem.W.Frag} {e ed:Expr} {ta td:TE} {p pos kp:Pos}
theorem DT (hK:X.K=K) (hc:X.calm=true) (hg:Gl X "max") (hm:X.mg "max"=none) (ha:PE X e ta) (hd:PE X ed td)
 (he:starEach [e] X.env=(false,eval e X.env)::starEach [] X.env:=by rfl):PE X (.Call (.Name "max" p) [e] [⟨some "default",ed,kp⟩] pos) (tOp (xG K) ta td):=by
 subst hK
 intro pins s σ H Q I h
 refine wpAny_Call_Name_kw (f6 I hg hm boot_max ?_ (by decide) (by decide))
 refine callWith_kw (thn (aa ha ac he pos pins s σ H (fun vs H1=>match vs with | [x]=>td σ H1 fun y H2=>xG X.K x y H2 Q | _=>False) I h) fun us s1 ⟨vs,H1,I1,r1,q1⟩=>?_) (by rw [he];rfl) (by rw [he];rfl) rfl rfl
 obtain ⟨x,rfl⟩:∃ x,vs=[x]:=by
  match vs,q1 with
  | [x],_=>exact ⟨x,rfl⟩
 obtain ⟨u,rfl,ru⟩:=gB r1
 refine kws_cons (thn (hd pins s1 σ H1 _ I1 q1) fun v s2 ⟨y,H2,I2,ry,q2⟩=>kws_nil ?_)
 obtain ⟨a,ns,rfl,hq,k0,k1⟩:=q2
 cases ru
 obtain ⟨its,r',pl,hz⟩:=I2.list hq
 obtain ⟨ts,e1,e2⟩:=ze r'
 have il:=pl.isList
 rw [e1] at il
 refine Ka (I2.ok.hd hc) il (fun h0 h' tk k=>⟨y,H2,I2.kept k,ry,k0 ?_⟩) fun M t h' tk hM k=>⟨.int M,H2,I2.kept k,⟨t,rfl⟩,?_⟩
 ·have:ts=[]:=by simpa using h0
  rw [<- e2,this];rfl
 ·obtain ⟨m1,m2⟩:=Bu hM
  rw [e2] at m1 m2
  exact k1 M m1 m2
end
theorem Aw:∀ {bs:List Bool} {us:List Value},Vals (bs.map V.bl) us->us=bs.map Value.bool
 | [],_,h=>by cases h;rfl
 | b::bs,_,h=>by
   cases h with
   | cons r rr =>
     cases r
     rw [Aw rr];rfl
theorem KU (bs:List Bool):(List.range bs.length).any (fun i=>bs.getD i false)=bs.any id:=by
 rw [Bool.eq_iff_iff,List.any_eq_true,List.any_eq_true]
 constructor
 ·rintro ⟨i,hi,e⟩
  have hi':=List.mem_range.mp hi
  refine ⟨bs[i],List.getElem_mem hi',?_⟩
  simpa [List.getD,List.getElem?_eq_getElem hi'] using e
 ·rintro ⟨b,hb,e⟩
  obtain ⟨i,hi,rfl⟩:=List.getElem_of_mem hb
  refine ⟨i,List.mem_range.mpr hi,?_⟩
  simpa [List.getD,List.getElem?_eq_getElem hi] using e
theorem Ke {X:Cx} {K:PySem.W.Frag} (hK:X.K=K) (hc:X.calm=true):CallR X (.builtin "any") (fun xs H Q=>∃ (p:Addr) (bs:List Bool),xs=[.ref p]/\SqL K H p (bs.map V.bl)/\Q (.bl (bs.any id)) H):=by
 subst hK
 intro pins s σ H xs us Q I r h
 obtain ⟨p,bs,rfl,hq,q⟩:=h
 obtain ⟨u,rfl,rx⟩:=gB r
 cases rx
 obtain ⟨its,r',pl,hz⟩:=I.list hq
 have e:=Aw r'
 subst e
 have hl:=pl.isList
 have hlt:p<s.heap.objs.size:=by obtain ⟨_,e,_⟩:=hl;exact Heap.lt_size e
 refine call_any_walk (wpAny_pyIter_list hl ?_)
 refine ⟨_,_,_,_,_,_,fun i=>bs.getD i false,rfl,Walks.list (A:=X.A.in1) (I.ok.hd hc) _ p (Nat.ne_of_lt hlt) _,⟨⟨_,Heap.get?_push_size _ rfl,rfl,rfl⟩,hl.push _⟩,fun i v s' Q' E' hP hQ=>?_,fun h' tk hk=>?_⟩
 ·have e:v=.bool (bs.getD i false):=by
   have hP':((bs.map Value.bool).toArray)[i]?=some v:=hP
   simp only [List.getElem?_toArray,List.getElem?_map,Option.map_eq_some_iff] at hP'
   obtain ⟨b,hb,rfl⟩:=hP'
   simp [List.getD,hb]
  subst e
  exact wpAny_truthy_bool hQ
 ·refine ⟨.bl (bs.any id),H,I.kept (old_kept hk),?_,q⟩
  show Value.bool _=Value.bool _
  rw [<- KU bs]
  simp
end L2
namespace L2
open PySem PySem.Spec PyProof.Rows
end L2
namespace L2
open PySem PySem.Spec PyProof.Rows
section
variable {X:Cx}
end
theorem zd:∀ {ns:List Int} {us:List Value},Vals (ns.map V.int) us->∃ l:List (Int×Tok),us=l.map (fun p=>Value.int p.1 p.2)/\l.map (·.1)=ns
 | [],_,h=>by cases h;exact ⟨[],rfl,rfl⟩
 | n::ns,_,h=>by
   cases h with
   | cons r rr =>
     obtain ⟨t,rfl⟩:=r
     obtain ⟨l,rfl,e⟩:=zd rr
     exact ⟨(n,t)::l,rfl,by rw [List.map_cons,e]⟩
theorem xS:∀ (l:List (Int×Tok)) (n:Nat),n<=l.length->preSum (numAt l.toArray) n=((l.take n).map (·.1)).sum
 | l,0,_=>rfl
 | l,n+1,h=>by
   rw [preSum,xS l n (by omega),List.take_add_one,List.getElem?_eq_getElem (by omega)]
   unfold numAt
   rw [List.getElem?_toArray,List.getElem?_eq_getElem (by omega),Option.toList_some,List.map_append,List.sum_append]
   show _=_+(l[n].1+0)
   rw [Int.add_zero];rfl
theorem J9 {X:Cx} {K:PySem.W.Frag} (hK:X.K=K) (hc:X.calm=true):CallR X (.builtin "sum") (fun xs H Q=>∃ (p:Addr) (ns:List Int),xs=[.ref p]/\SqL K H p (ns.map V.int)/\Q (.int ns.sum) H):=by
 subst hK
 intro pins s σ H xs us Q I r h
 obtain ⟨p,ns,rfl,hq,q⟩:=h
 obtain ⟨u,rfl,rx⟩:=gB r
 cases rx
 obtain ⟨its,r',pl,hz⟩:=I.list hq
 obtain ⟨l,rfl,e⟩:=zd r'
 have hl:s.heap.IsList p (intItems l.toArray):=by
  have h1:=pl.isList
  have e2:(l.map (fun p=>Value.int p.1 p.2)).toArray=intItems l.toArray:=by unfold intItems;simp
  rw [<- e2];exact h1
 refine sum_intListG (I.ok.hd hc) hl fun h' tk t' hk=>⟨.int ns.sum,H,I.kept hk,⟨t',?_⟩,q⟩
 have e3:preSum (numAt l.toArray) l.toArray.size=ns.sum:=by
  rw [List.size_toArray,xS l l.length (Nat.le_refl _),List.take_length,e]
 rw [e3]
structure CalE (P:Program) (w:World) (K:PySem.W.Frag) (mg:Str->Option Value) (base:Heap) (k:Nat) (x:Str) (ps:List Str) (sp:Sp) (f:Addr) (fd:FuncData) (ds:List Value) (dvs:List V):Prop where
 ok:FnOk P w K mg base CX0 k f fd ps sp
 mg:mg x=some (.ref f)
 kp:PySem.W.keepIn K (.ref f)=true
 bn:Binds K fd ps []
 bd:Binds K fd ps ds
 vd:Vals dvs ds
end L2
namespace L2
open PySem PySem.Spec PyProof.Rows
section
variable {X:Cx} {K:PySem.W.Frag}
end
end L2
namespace L2
open PySem PySem.Spec PyProof.Rows
def bg:Nat:=67000000
section
variable {X:Cx} {K:PySem.W.Frag}
theorem oB {x y:V} {us:List Value} (h:Vals [x,y] us):∃ u v,us=[u,v]/\RelV x u/\RelV y v:=by
 cases h with
 | cons r t =>
   cases t with
   | cons r2 t2 =>
     cases t2
     exact ⟨_,_,rfl,r,r2⟩
end
end L2
namespace L2
open PySem PySem.Spec PyProof.Rows
section
variable {X:Cx} {K:PySem.W.Frag}
end
end L2
namespace RM
def cf (l:List Int) (k:Nat):Int:=l.getD k 0
theorem cq (k:Nat):cf [] k=0:=by simp [cf]
theorem Am (x:Int) (l:List Int):cf (x::l) 0=x:=rfl
theorem oo (x:Int) (l:List Int) (k:Nat):cf (x::l) (k+1)=cf l k:=rfl
theorem cs {l:List Int} {k:Nat} (h:l.length<=k):cf l k=0:=by
 unfold cf;rw [List.getD,List.getElem?_eq_none_iff.mpr h];rfl
theorem dM {l:List Int} {k:Nat} (h:k<l.length):cf l k=l[k]:=by
 unfold cf;rw [List.getD,List.getElem?_eq_getElem h];rfl
theorem Ao {l:List Int} {k:Nat} {x:Int} (h:l[k]?=some x):cf l k=x:=by
 unfold cf;rw [List.getD,h];rfl
theorem iF {l:List Int} {k:Nat} (h:k<l.length):l[k]?=some (cf l k):=by
 rw [dM h,List.getElem?_eq_getElem h]
theorem Ap {l r:List Int} {k:Nat} (h:k<l.length):cf (l++r) k=cf l k:=by
 unfold cf;rw [List.getD,List.getD,List.getElem?_append_left h]
theorem lG {l r:List Int} {k:Nat} (h:l.length<=k):cf (l++r) k=cf r (k-l.length):=by
 unfold cf;rw [List.getD,List.getD,List.getElem?_append_right h]
theorem lz {l:List Int} {j k:Nat} {x:Int} (h:j<l.length):cf (l.set j x) k=if k=j then x else cf l k:=by
 unfold cf;rw [List.getD,List.getD,List.getElem?_set]
 by_cases e:j=k
 ·subst e;simp [h]
 ·rw [if_neg e,if_neg (fun z=>e z.symm)]
theorem lC (n k:Nat):cf (List.replicate n 0) k=0:=by
 unfold cf;rw [List.getD,List.getElem?_replicate];split<;>rfl
theorem lE (f:Nat->Int) (n k:Nat):cf ((List.range n).map f) k=if k<n then f k else 0:=by
 unfold cf;rw [List.getD,List.getElem?_map]
 by_cases h:k<n
 ·rw [if_pos h,List.getElem?_range h];rfl
 ·rw [if_neg h,List.getElem?_eq_none_iff.mpr (by simpa using h)];rfl
theorem dL {a b:List Int} (hl:a.length=b.length) (h:∀ k,k<a.length->cf a k=cf b k):a=b:=by
 apply List.ext_getElem hl
 intro k h1 h2
 rw [<- dM h1,<- dM h2];exact h k h1
def trim (l:List Int):List Int:=(l.reverse.dropWhile (· == 0)).reverse
theorem mq (l:List Int):trim (l++[0])=trim l:=by
 unfold trim;rw [List.reverse_append];rfl
theorem j5 (l:List Int) {x:Int} (h:x≠0):trim (l++[x])=l++[x]:=by
 unfold trim
 rw [List.reverse_append]
 show ((x::l.reverse).dropWhile (· == 0)).reverse=_
 rw [List.dropWhile_cons_of_neg (by simpa using h)]
 simp
def Tr (l:List Int):Prop:=∀ n,l.length=n+1->cf l n≠0
theorem cK (l:List Int):l=[]\/∃ r x,l=r++[x]:=by
 cases h:l.reverse with
 | nil=>left;simpa using h
 | cons x r=>right;exact ⟨r.reverse,x,by rw [<- List.reverse_reverse l,h];simp⟩
theorem jQ (r:List Int) (x:Int):cf (r++[x]) r.length=x:=by
 rw [lG (Nat.le_refl _),Nat.sub_self];rfl
theorem Br:Tr []:=fun n h=>by simp at h
theorem tr_snoc {r:List Int} {x:Int}:Tr (r++[x])↔x≠0:=by
 constructor
 ·intro h
  have:=h r.length (by simp)
  rwa [jQ] at this
 ·intro h n hn
  have e:n=r.length:=by simp at hn;omega
  subst e
  rwa [jQ]
theorem mn:∀ (n:Nat) (l:List Int),l.length=n->Tr (trim l)/\(trim l).length<=l.length/\∀ k,cf (trim l) k=cf l k
 | 0,l,h=>by
   have:l=[]:=List.length_eq_zero_iff.mp h
   subst this
   exact ⟨Br,Nat.le_refl _,fun _=>rfl⟩
 | n+1,l,h=>by
   rcases cK l with rfl | ⟨r,x,rfl⟩
   ·simp at h
   ·by_cases hx:x=0
    ·subst hx
     obtain ⟨h1,h2,h3⟩:=mn n r (by simpa using h)
     rw [mq]
     refine ⟨h1,by rw [List.length_append];exact Nat.le_trans h2 (Nat.le_add_right _ _),fun k=>?_⟩
     rw [h3]
     by_cases hk:k<r.length
     ·rw [Ap hk]
     ·rw [lG (Nat.le_of_not_lt hk),cs (Nat.le_of_not_lt hk)]
      cases e:k-r.length with
      | zero=>rfl
      | succ j=>rw [oo,cq]
    ·rw [j5 r hx]
     exact ⟨tr_snoc.mpr hx,Nat.le_refl _,fun _=>rfl⟩
theorem fj (l:List Int):Tr (trim l):=(mn _ l rfl).1
theorem rS (l:List Int):(trim l).length<=l.length:=(mn _ l rfl).2.1
theorem gj (l:List Int) (k:Nat):cf (trim l) k=cf l k:=(mn _ l rfl).2.2 k
theorem Bn {l:List Int} (h:Tr l):trim l=l:=by
 rcases cK l with rfl | ⟨r,x,rfl⟩
 ·rfl
 ·exact j5 r (tr_snoc.mp h)
theorem lv {a b:List Int} (ha:Tr a) (hb:Tr b) (h:∀ k,cf a k=cf b k):a=b:=by
 have le:∀ {a b:List Int},Tr a->(∀ k,cf a k=cf b k)->a.length<=b.length:=fun {a b} ha h=>by
  cases e:a.length with
  | zero=>exact Nat.zero_le _
  | succ n =>
    apply Classical.byContradiction
    intro hn
    exact ha n e (by rw [h n,cs (by omega)])
 have hl:a.length=b.length:=Nat.le_antisymm (le ha h) (le hb fun k=>(h k).symm)
 exact dL hl fun k _=>h k
theorem Bl {l:List Int} {n:Nat} (hn:n<l.length) (h:cf l n=0):trim (l.take (n+1))=trim (l.take n):=by
 rw [List.take_add_one,iF hn,h]
 exact mq _
theorem Bm {l:List Int} {n:Nat} (hn:n<l.length) (h:cf l n≠0):trim (l.take (n+1))=l.take (n+1):=by
 rw [List.take_add_one,iF hn]
 exact j5 _ h
end RM
namespace RM
def dI (f:Int) (a b:List Int):List Int:=(List.range (max a.length b.length)).map fun k=>cf a k+f*cf b k
theorem gQ (f:Int) (a b:List Int) (k:Nat):cf (dI f a b) k=cf a k+f*cf b k:=by
 unfold dI
 rw [lE]
 by_cases h:k<max a.length b.length
 ·rw [if_pos h]
 ·have h1:a.length<=k:=by omega
  have h2:b.length<=k:=by omega
  rw [if_neg h,cs h1,cs h2];simp
def gS (a b:List Int):List Int:=trim (dI 1 a b)
def cG (a b:List Int):List Int:=trim (dI (-1) a b)
def tm (a b:List Int) (n i:Nat):Int:=if i<=n then cf a i*cf b (n-i) else 0
def sm (a b:List Int) (n:Nat):Nat->Int
 | 0=>0
 | j+1=>sm a b n j+tm a b n j
def av (a b:List Int) (n:Nat):Int:=sm a b n a.length
def af (a b:List Int):List Int:=if a=[]\/b=[] then [] else (List.range (a.length+b.length-1)).map (av a b)
theorem Bv {a b:List Int} {n i:Nat} (h:a.length<=i):tm a b n i=0:=by
 unfold tm;split
 ·rw [cs h,Int.zero_mul]
 ·rfl
theorem mv {a b:List Int} {n i:Nat} (h:b.length<=n-i):tm a b n i=0:=by
 unfold tm;split
 ·rw [cs h,Int.mul_zero]
 ·rfl
theorem kh {a b:List Int} {n:Nat}:∀ {j:Nat},(∀ i,i<j->tm a b n i=0)->sm a b n j=0
 | 0,_=>rfl
 | j+1,h=>by
   rw [sm,kh fun i hi=>h i (Nat.lt_succ_of_lt hi),h j (Nat.lt_succ_self _)];rfl
theorem yy {a b:List Int} {n:Nat} (h:a.length+b.length<=n+1):av a b n=0:=by
 apply kh
 intro i hi
 exact mv (by omega)
theorem rC {a b:List Int} {la lb:Nat} (ha:a.length=la+1) (hb:b.length=lb+1):av a b (la+lb)=cf a la*cf b lb:=by
 unfold av
 rw [ha,sm,kh fun i hi=>mv (by omega)]
 unfold tm
 rw [if_pos (Nat.le_add_right _ _),Nat.add_sub_cancel_left,Int.zero_add]
theorem aM (a b:List Int) (n:Nat):cf (af a b) n=av a b n:=by
 unfold af
 by_cases h:a=[]\/b=[]
 ·rw [if_pos h,cq]
  symm
  apply kh
  intro i hi
  rcases h with rfl | rfl
  ·simp at hi
  ·exact mv (Nat.zero_le _)
 ·rw [if_neg h,lE]
  by_cases hn:n<a.length+b.length-1
  ·rw [if_pos hn]
  ·rw [if_neg hn,yy (by omega)]
theorem mr {a b:List Int} (ha:Tr a) (hb:Tr b):Tr (af a b):=by
 intro n hn
 rw [aM]
 by_cases h:a=[]\/b=[]
 ·unfold af at hn;rw [if_pos h] at hn;simp at hn
 ·have h1:a≠[]:=fun z=>h (.inl z)
  have h2:b≠[]:=fun z=>h (.inr z)
  obtain ⟨la,ea⟩:∃ la,a.length=la+1:=⟨a.length-1,by have:=List.length_pos_iff.mpr h1;omega⟩
  obtain ⟨lb,eb⟩:∃ lb,b.length=lb+1:=⟨b.length-1,by have:=List.length_pos_iff.mpr h2;omega⟩
  unfold af at hn
  rw [if_neg h,List.length_map,List.length_range] at hn
  have e:n=la+lb:=by omega
  subst e
  rw [rC ea eb]
  exact Int.mul_ne_zero (ha la ea) (hb lb eb)
theorem yz {a b acc:List Int} {j k:Nat} (hj:j<a.length) (hk:k<b.length) (hl:j+k<acc.length)
 (h:∀ n,n<acc.length->cf acc n=sm a b n j+(if j<=n/\n-j<k then tm a b n j else 0)) :
 ∀ n,n<(acc.set (j+k) (cf acc (j+k)+cf a j*cf b k)).length->cf (acc.set (j+k) (cf acc (j+k)+cf a j*cf b k)) n=sm a b n j+(if j<=n/\n-j<k+1 then tm a b n j else 0):=by
 intro n hn
 rw [List.length_set] at hn
 rw [lz hl]
 by_cases e:n=j+k
 ·subst e
  rw [if_pos rfl,h _ hl,if_neg (by omega),if_pos ⟨by omega,by omega⟩]
  unfold tm
  rw [if_pos (by omega),Nat.add_sub_cancel_left,Int.add_zero]
 ·rw [if_neg e,h n hn]
  congr 1
  by_cases h1:j<=n/\n-j<k
  ·rw [if_pos h1,if_pos ⟨h1.1,by omega⟩]
  ·rw [if_neg h1,if_neg (by omega)]
theorem yC {a b acc:List Int} {j:Nat} (h:∀ n,n<acc.length->cf acc n=sm a b n j+(if j<=n/\n-j<b.length then tm a b n j else 0)):∀ n,n<acc.length->cf acc n=sm a b n (j+1):=by
 intro n hn
 rw [h n hn,sm]
 congr 1
 by_cases h1:j<=n/\n-j<b.length
 ·rw [if_pos h1]
 ·rw [if_neg h1]
  by_cases h2:j<=n
  ·rw [mv (by omega)]
  ·unfold tm;rw [if_neg h2]
theorem yA {a b acc:List Int} {j:Nat} (h:∀ n,n<acc.length->cf acc n=sm a b n j):∀ n,n<acc.length->cf acc n=sm a b n j+(if j<=n/\n-j<0 then tm a b n j else 0):=by
 intro n hn
 rw [if_neg (by omega),Int.add_zero];exact h n hn
theorem yD {a b acc:List Int} (hl:a.length+b.length<=acc.length+1) (h:∀ n,n<acc.length->cf acc n=sm a b n a.length) (n:Nat):cf acc n=av a b n:=by
 by_cases hn:n<acc.length
 ·exact h n hn
 ·rw [cs (Nat.le_of_not_lt hn),yy (by omega)]
end RM
namespace RM
theorem KZ (a b:List Int):trim ((List.range (max a.length b.length)).map fun k=>cf a k+cf b k)=gS a b:=by
 unfold gS dI
 congr 2;funext k;rw [Int.one_mul]
theorem BL (a b:List Int):trim ((List.range (max a.length b.length)).map fun k=>cf a k-cf b k)=cG a b:=by
 unfold cG dI
 congr 2;funext k;omega
end RM
namespace RM
def dv (t b:Int):Int:=if b<0 then -((Nat.gcd t.natAbs b.natAbs:Nat):Int) else ((Nat.gcd t.natAbs b.natAbs:Nat):Int)
def rt (t b:Int):Int:=t.fdiv (dv t b)
def rb (t b:Int):Int:=b.fdiv (dv t b)
theorem jM {t b:Int} (hb:b≠0):0<Nat.gcd t.natAbs b.natAbs:=Nat.gcd_pos_of_pos_right _ (Int.natAbs_pos.mpr hb)
theorem oi {t b:Int} (hb:b≠0):dv t b≠0:=by
 have:=@jM t b hb
 unfold dv;split<;>omega
theorem iS (t b:Int):(dv t b).natAbs=Nat.gcd t.natAbs b.natAbs:=by unfold dv;split<;>omega
theorem JS (t b:Int):dv t b∣t:=Int.natAbs_dvd_natAbs.mp (by rw [iS];exact Nat.gcd_dvd_left _ _)
theorem JR (t b:Int):dv t b∣b:=Int.natAbs_dvd_natAbs.mp (by rw [iS];exact Nat.gcd_dvd_right _ _)
theorem zC {a d:Int} (hd:d≠0) (h:d∣a):d*a.fdiv d=a:=by
 obtain ⟨c,rfl⟩:=h
 rw [Int.mul_fdiv_cancel_left c hd]
theorem jt {t b:Int} (hb:b≠0):dv t b*rt t b=t:=zC (oi hb) (JS t b)
theorem hJ {t b:Int} (hb:b≠0):dv t b*rb t b=b:=zC (oi hb) (JR t b)
theorem cY {t b:Int} (hb:b≠0):0<rb t b:=by
 have h1:=@hJ t b hb
 have h2:=@jM t b hb
 by_cases hn:b<0
 ·have hd:dv t b<0:=by unfold dv;rw [if_pos hn];omega
  apply Classical.byContradiction
  intro h
  have:0<=dv t b*rb t b:=Int.mul_nonneg_of_nonpos_of_nonpos (Int.le_of_lt hd) (by omega)
  omega
 ·have hd:0<dv t b:=by unfold dv;rw [if_neg hn];omega
  apply Classical.byContradiction
  intro h
  have:dv t b*rb t b<=0:=Int.mul_nonpos_of_nonneg_of_nonpos (Int.le_of_lt hd) (by omega)
  omega
theorem ku {t b:Int} (hb:b≠0):Nat.gcd (rt t b).natAbs (rb t b).natAbs=1:=by
 have h1:t.natAbs=Nat.gcd t.natAbs b.natAbs*(rt t b).natAbs:=by
  rw [<- iS,<- Int.natAbs_mul,jt hb]
 have h2:b.natAbs=Nat.gcd t.natAbs b.natAbs*(rb t b).natAbs:=by
  rw [<- iS,<- Int.natAbs_mul,hJ hb]
 have hp:=@jM t b hb
 have e:Nat.gcd t.natAbs b.natAbs=Nat.gcd t.natAbs b.natAbs*Nat.gcd (rt t b).natAbs (rb t b).natAbs:=by
  rw [<- Nat.gcd_mul_left,<- h1,<- h2]
 exact (Nat.eq_of_mul_eq_mul_left hp (by rw [Nat.mul_one];exact e)).symm
theorem eJ {t b:Int} (hb:b≠0):rt t b*b=t*rb t b:=by
 have e1:=@jt t b hb
 have e2:=@hJ t b hb
 calc rt t b*b=rt t b*(dv t b*rb t b):=by rw [e2]
  _=(dv t b*rt t b)*rb t b:=by rw [<- Int.mul_assoc,Int.mul_comm (rt t b)]
  _=t*rb t b:=by rw [e1]
theorem CU {t b:Int} (hb:b≠0):(rt t b).natAbs<=t.natAbs:=by
 have h1:t.natAbs=Nat.gcd t.natAbs b.natAbs*(rt t b).natAbs:=by rw [<- iS,<- Int.natAbs_mul,jt hb]
 rw [h1];exact Nat.le_mul_of_pos_left _ (jM hb)
theorem Di {t b:Int} (hb:b≠0):(rb t b).natAbs<=b.natAbs:=by
 have h1:b.natAbs=Nat.gcd t.natAbs b.natAbs*(rb t b).natAbs:=by rw [<- iS,<- Int.natAbs_mul,hJ hb]
 rw [h1];exact Nat.le_mul_of_pos_left _ (jM hb)
def sg (x:Int):Int:=if x<0 then -1 else if 0<x then 1 else 0
theorem Cf (x:Int):sg (-x) = -sg x:=by unfold sg;split<;>split<;>(try split)<;>(try split)<;>omega
theorem o7 {x p:Int} (hp:0<p):sg (x*p)=sg x:=by
 unfold sg
 by_cases h1:x<0
 ·rw [if_pos h1,if_pos (Int.mul_neg_of_neg_of_pos h1 hp)]
 ·by_cases h2:0<x
  ·have:=Int.mul_pos h2 hp
   rw [if_neg h1,if_pos h2,if_neg (by omega),if_pos this]
  ·obtain rfl:x=0:=by omega
   simp
end RM
namespace RM
def hv (t b:Int):List Int->Int
 | []=>0
 | v::l=>v*b^(l.length+1)+t*hv t b l
theorem nV (t b:Int):hv t b []=0:=rfl
theorem dz (t b v:Int) (l:List Int):hv t b (v::l)=v*b^(l.length+1)+t*hv t b l:=rfl
def mb (a b:Int):Int->List Int->List Int
 | c,[]=>[c]
 | c,x::l=>(-a*x+c)::mb a b (b*x) l
theorem nG (a b:Int):∀ (c:Int) (l:List Int),(mb a b c l).length=l.length+1
 | c,[]=>rfl
 | c,x::l=>by show (mb a b (b*x) l).length+1=_;rw [nG];rfl
theorem iW (a b:Int):∀ (c:Int) (l:List Int) (k:Nat),cf (mb a b c l) k = -a*cf l k+(if k=0 then c else b*cf l (k-1))
 | c,[],0=>by show c=_;rw [cq];simp
 | c,[],k+1=>by show cf [] k=_;rw [cq,cq];simp [cq]
 | c,x::l,0=>rfl
 | c,x::l,k+1=>by
   show cf (mb a b (b*x) l) k=_
   rw [iW a b (b*x) l k,oo,if_neg (Nat.succ_ne_zero k)]
   cases k with
   | zero=>rfl
   | succ k=>rw [if_neg (Nat.succ_ne_zero k)];rfl
theorem zm (t u a b:Int):∀ (c:Int) (l:List Int),hv t u (mb a b c l)=c*u^(l.length+1)+(b*t-a*u)*hv t u l
 | c,[]=>by show c*u^1+t*0=c*u^1+(b*t-a*u)*0;simp
 | c,x::l=>by
   show (-a*x+c)*u^((mb a b (b*x) l).length+1)+t*hv t u (mb a b (b*x) l)=c*u^(l.length+1+1)+(b*t-a*u)*(x*u^(l.length+1)+t*hv t u l)
   rw [zm t u a b (b*x) l,nG]
   generalize hv t u l=h
   rw [Int.pow_succ u (l.length+1)]
   generalize u^(l.length+1)=p
   grind
theorem tV (x y:Int) (k:Nat):cf [x,y] k=if k=0 then x else if k=1 then y else 0:=by
 rcases k with _ | _ | k
 ·rfl
 ·rfl
 ·rw [if_neg (by omega),if_neg (by omega)];exact cs (by simp)
theorem wO (l:List Int) (x y:Int) (n:Nat):∀ j,sm l [x,y] n j=(if n<j then cf l n*x else 0)+(if 1<=n/\n-1<j then cf l (n-1)*y else 0)
 | 0=>by rw [if_neg (by omega),if_neg (by omega)];rfl
 | j+1=>by
   show sm l [x,y] n j+tm l [x,y] n j=_
   rw [wO l x y n j]
   unfold tm
   rw [tV]
   grind
theorem Fz {a b:Int} {l:List Int} (h:l≠[]):af l [-a,b]=mb a b 0 l:=by
 apply dL
 ·rw [nG];unfold af;rw [if_neg (by simp [h]),List.length_map,List.length_range];simp
 ·intro k _
  rw [aM,iW]
  unfold av
  rw [wO]
  have e1:(if k<l.length then cf l k * -a else 0) = -a*cf l k:=by
   by_cases hk:k<l.length
   ·rw [if_pos hk,Int.mul_comm]
   ·rw [if_neg hk,cs (Nat.le_of_not_lt hk),Int.mul_zero]
  have e2:(if 1<=k/\k-1<l.length then cf l (k-1)*b else 0)=if k=0 then 0 else b*cf l (k-1):=by
   by_cases h0:k=0
   ·rw [if_neg (by omega),if_pos h0]
   ·rw [if_neg h0]
    by_cases hk:k-1<l.length
    ·rw [if_pos (by omega),Int.mul_comm]
    ·rw [if_neg (by omega),cs (Nat.le_of_not_lt hk),Int.mul_zero]
  rw [e1,e2]
theorem nS (g t b:Int):∀ l:List Int,hv (g*t) (g*b) l=g^l.length*hv t b l
 | []=>by simp [nV]
 | v::l=>by
   rw [dz,dz,nS g t b l,Int.mul_pow]
   show v*(g^(l.length+1)*b^(l.length+1))+g*t*(g^l.length*hv t b l)=g^(l.length+1)*(v*b^(l.length+1)+t*hv t b l)
   rw [Int.pow_succ g l.length]
   generalize b^(l.length+1)=p
   generalize g^l.length=q
   generalize hv t b l=h
   grind
theorem DF {g:Int} (h:0<g) (n:Nat):0<g^n:=by
 induction n with
 | zero=>simp
 | succ n ih=>rw [Int.pow_succ];exact Int.mul_pos ih h
def At (l:List Int) (t b top bot:Int):Prop:=hv t b l*bot=top*b^l.length
theorem At.sign {l:List Int} {t b top bot:Int} (hb:0<b) (hbot:0<bot) (h:At l t b top bot):sg (hv t b l)=sg top:=by
 unfold At at h
 rw [<- o7 (x:=hv t b l) hbot,h,o7 (DF hb _)]
theorem ld (t u c:Int):hv t u [c]=c*u:=by
 show c*u^1+t*0=c*u
 grind
theorem JT (t b:Int) {l:List Int} {n:Nat} (h:n<l.length):hv t b (l.drop n)=cf l n*b^(l.length-n)+t*hv t b (l.drop (n+1)):=by
 rw [List.drop_eq_getElem_cons h,dz,List.length_drop,dM h]
 have e:l.length-(n+1)+1=l.length-n:=by omega
 rw [e]
end RM
namespace RM
def chF (z:Int×Int) (s:Int):Int×Int:=(if s*z.2<0 then z.1+1 else z.1,if s=0 then z.2 else s)
def chS (l:List Int):Int×Int:=l.foldl chF (0,0)
theorem Ai (l:List Int) (s:Int):chS (l++[s])=chF (chS l) s:=by unfold chS;rw [List.foldl_append];rfl
theorem o6 (x:Int):sg x=0↔x=0:=by unfold sg;split<;>(try split)<;>omega
theorem Aj:∀ (n:Nat) (l:List Int),l.length=n->(∀ s∈l,s.natAbs<=1)->(chS l).2.natAbs<=1/\0<=(chS l).1/\(chS l).1<=l.length
 | n,l,hn,h=>by
   rcases cK l with rfl | ⟨r,s,rfl⟩
   ·decide
   ·have hr:r.length+1=n:=by rw [<- hn,List.length_append];rfl
    obtain ⟨i1,i2,i3⟩:=Aj (n-1) r (by omega) (fun x hx=>h x (List.mem_append_left _ hx))
    have hs:=h s (by simp)
    rw [Ai]
    unfold chF
    refine ⟨?_,?_,?_⟩
    ·dsimp only;split
     ·exact i1
     ·exact hs
    ·dsimp only;split<;>omega
    ·dsimp only;rw [List.length_append];show _<=((r.length+1:Nat):Int);split<;>omega
termination_by n=>n
theorem J7 (l:List Int) (h:∀ s∈l,s.natAbs<=1):(chS l).2.natAbs<=1/\0<=(chS l).1/\(chS l).1<=l.length:=Aj _ l rfl h
theorem xf (x:Int):(sg x).natAbs<=1:=by unfold sg;split<;>(try split)<;>decide
end RM
namespace RM
theorem wR {q q' b:List Int} {c l:Int} {p n:Nat} (h:∀ k,cf q' k=c*cf q k+(if k=p then l else 0)) :
 ∀ j,sm q' b n j=c*sm q b n j+(if p<j/\p<=n then l*cf b (n-p) else 0)
 | 0=>by rw [sm,sm,if_neg (by omega)];simp
 | j+1=>by
   rw [sm,sm,wR h j]
   unfold tm
   by_cases hj:j<=n
   ·rw [if_pos hj,if_pos hj,h j]
    by_cases e:j=p
    ·subst e
     rw [if_pos rfl,if_neg (by omega),if_pos ⟨by omega,hj⟩];grind
    ·rw [if_neg e]
     by_cases h2:p<j/\p<=n
     ·rw [if_pos h2,if_pos ⟨by omega,h2.2⟩];grind
     ·rw [if_neg h2,if_neg (by omega)];grind
   ·rw [if_neg hj,if_neg hj]
    by_cases h2:p<j/\p<=n
    ·rw [if_pos h2,if_pos ⟨by omega,h2.2⟩];grind
    ·rw [if_neg h2,if_neg (by omega)];grind
theorem Fy {q q' b:List Int} {c l:Int} {p n:Nat} (hl:q'.length=q.length) (hp:p<q.length) (h:∀ k,cf q' k=c*cf q k+(if k=p then l else 0)) :
 av q' b n=c*av q b n+(if p<=n then l*cf b (n-p) else 0):=by
 unfold av
 rw [hl,wR h]
 by_cases h2:p<=n
 ·rw [if_pos h2,if_pos ⟨hp,h2⟩]
 ·rw [if_neg h2,if_neg (by omega)]
def scL (c:Int) (l:List Int):List Int:=l.map fun x=>c*x
theorem b9 (c:Int) (l:List Int):(scL c l).length=l.length:=by unfold scL;rw [List.length_map]
theorem bF (c:Int) (l:List Int) (k:Nat):cf (scL c l) k=c*cf l k:=by
 by_cases h:k<l.length
 ·unfold cf scL;simp [h]
 ·rw [cs (by rw [b9];omega),cs (by omega)];simp
def ix (r b:List Int) (p:Nat) (l:Int):List Int:=(List.range (r.length-1)).map fun k=>cf r k-(if p<=k then l*cf b (k-p) else 0)
theorem yU (r b:List Int) (p:Nat) (l:Int):(ix r b p l).length=r.length-1:=by unfold ix;simp
theorem ot (r b:List Int) (p:Nat) (l:Int) (k:Nat):cf (ix r b p l) k=if k<r.length-1 then cf r k-(if p<=k then l*cf b (k-p) else 0) else 0:=by
 unfold ix;rw [lE]
theorem Cc (x:Int):sg x*x=(x.natAbs:Int):=by unfold sg;split<;>(try split)<;>omega
def cT (b:List Int) (z:List Int×List Int) (i:Nat):List Int×List Int :=
 let s:Int:=((cf b (b.length-1)).natAbs:Int)
 let l:=sg (cf b (b.length-1))*cf z.2 (z.2.length-1)
 ((scL s z.1).set i l,ix (scL s z.2) b i l)
def aT (a b:List Int):Nat->List Int×List Int
 | 0=>(List.replicate (a.length+1-b.length) 0,a)
 | i+1=>cT b (aT a b i) (a.length+1-b.length-1-i)
structure DivInv (a b:List Int) (i:Nat):Prop where
 lq:(aT a b i).1.length=a.length+1-b.length
 lr:(aT a b i).2.length=a.length-i
 low:∀ k,k+i<a.length+1-b.length->cf (aT a b i).1 k=0
 eqn:∀ n,((cf b (b.length-1)).natAbs:Int)^i*cf a n=av (aT a b i).1 b n+cf (aT a b i).2 n
theorem rB {a b:List Int} {n:Nat} (h:∀ k,cf a k=0):av a b n=0:=by
 apply kh;intro i _;unfold tm;rw [h i];simp
theorem iT {a b:List Int} (hb:b≠[]):∀ i,i<=a.length+1-b.length->DivInv a b i
 | 0,_=>⟨by simp [aT],by simp [aT],fun k _=>by show cf (List.replicate _ 0) k=0;rw [lC],fun n=>by
  show _=av (List.replicate _ 0) b n+cf a n
  rw [rB fun k=>lC _ _];simp⟩
 | i+1,hi=>by
   obtain ⟨lq,lr,low,eqn⟩:=iT (a:=a) hb i (by omega)
   have hbl:=List.length_pos_iff.mpr hb
   have e:aT a b (i+1)=cT b (aT a b i) (a.length+1-b.length-1-i):=rfl
   generalize hz:aT a b i=z at lq lr low eqn
   have hp:a.length+1-b.length-1-i<(scL ((cf b (b.length-1)).natAbs:Int) z.1).length:=by rw [b9,lq];omega
   have hq:∀ k,cf (cT b z (a.length+1-b.length-1-i)).1 k=((cf b (b.length-1)).natAbs:Int)*cf z.1 k+(if k=a.length+1-b.length-1-i then sg (cf b (b.length-1))*cf z.2 (z.2.length-1) else 0):=by
    intro k
    unfold cT
    dsimp only
    rw [lz hp,bF]
    by_cases h:k=a.length+1-b.length-1-i
    ·rw [if_pos h,if_pos h,low k (by omega)];simp
    ·rw [if_neg h,if_neg h];simp
   have hlq:(cT b z (a.length+1-b.length-1-i)).1.length=a.length+1-b.length:=by
    unfold cT;dsimp only;rw [List.length_set,b9,lq]
   refine ⟨?_,?_,?_,?_⟩
   ·rw [e,hz,hlq]
   ·rw [e,hz];unfold cT;dsimp only;rw [yU,b9,lr];omega
   ·intro k hk
    rw [e,hz,hq,if_neg (by omega),low k (by omega)];simp
   ·intro n
    rw [e,hz,Fy (by rw [hlq,lq]) (by rw [lq];omega) hq,Int.pow_succ]
    have en:=eqn n
    unfold cT
    dsimp only
    rw [ot,b9,bF,lr]
    by_cases h1:n<a.length-i-1
    ·rw [if_pos h1]
     by_cases h2:a.length+1-b.length-1-i<=n
     ·rw [if_pos h2];grind
     ·rw [if_neg h2];grind
    ·rw [if_neg h1]
     by_cases h3:n=a.length-i-1
     ·have h2:a.length+1-b.length-1-i<=n:=by omega
      have h4:n-(a.length+1-b.length-1-i)=b.length-1:=by omega
      rw [if_pos h2,h4]
      have sg:=Cc (cf b (b.length-1))
      rw [<- h3]
      grind
     ·have h2:a.length+1-b.length-1-i<=n:=by omega
      have hc:cf z.2 n=0:=cs (by rw [lr];omega)
      rw [if_pos h2,cs (l:=b) (k:=n-(a.length+1-b.length-1-i)) (by omega)]
      grind
theorem zO {a b:List Int} (hb:b≠[]) (ha:Tr a) (hbt:Tr b):∀ i,i+1<=a.length+1-b.length->cf (aT a b (i+1)).1 (a.length+1-b.length-1)≠0
 | 0,h=>by
   obtain ⟨lq,lr,_,_⟩:=iT (a:=a) hb 0 (by omega)
   have hbl:=List.length_pos_iff.mpr hb
   show cf (cT b (aT a b 0) _).1 _≠0
   unfold cT
   dsimp only
   rw [lz (by rw [b9,lq];omega),if_pos (by omega)]
   have hb1:=hbt (b.length-1) (by omega)
   have ha1:=ha (a.length-1) (by omega)
   refine Int.mul_ne_zero ?_ ?_
   ·unfold sg;split<;>(try split)<;>omega
   ·rw [lr];exact ha1
 | i+1,h=>by
   have ih:=zO hb ha hbt i (by omega)
   obtain ⟨lq,lr,_,_⟩:=iT (a:=a) hb (i+1) (by omega)
   have hbl:=List.length_pos_iff.mpr hb
   show cf (cT b (aT a b (i+1)) _).1 _≠0
   unfold cT
   dsimp only
   rw [lz (by rw [b9,lq];omega),if_neg (by omega),bF]
   have hb1:=hbt (b.length-1) (by omega)
   refine Int.mul_ne_zero ?_ ih
   omega
def aY (a b:List Int):Nat:=a.length+1-b.length
def ca (a b:List Int):Int:=((cf b (b.length-1)).natAbs:Int)^aY a b
def bZ (a b:List Int):List Int:=(aT a b (aY a b)).1
def aN (a b:List Int):List Int:=trim (aT a b (aY a b)).2
theorem gM {a b:List Int} (hb:b≠[]) (n:Nat):ca a b*cf a n=av (bZ a b) b n+cf (aN a b) n:=by
 unfold aN bZ ca;rw [gj];exact (iT hb (aY a b) (Nat.le_refl _)).eqn n
theorem gf {a b:List Int} (hb:b≠[]):(aN a b).length<b.length:=by
 have h:=(iT (a:=a) hb (aY a b) (Nat.le_refl _)).lr
 have h2:=rS (aT a b (aY a b)).2
 have hbl:=List.length_pos_iff.mpr hb
 unfold aN
 unfold aY at *
 omega
theorem tM {a b:List Int} (hb:b≠[]):(bZ a b).length=aY a b:=(iT (a:=a) hb (aY a b) (Nat.le_refl _)).lq
theorem tK {a b:List Int} (hb:b≠[]) (ha:Tr a) (hbt:Tr b):Tr (bZ a b):=by
 intro n hn
 rw [tM hb] at hn
 have h:=zO hb ha hbt n (by unfold aY at hn;omega)
 unfold bZ
 rw [hn]
 have:a.length+1-b.length-1=n:=by unfold aY at hn;omega
 rwa [this] at h
theorem fF (a b:List Int):Tr (aN a b):=fj _
end RM
namespace RM
theorem wU {a a' b b':List Int} {n:Nat} (h1:∀ k,cf a k=cf a' k) (h2:∀ k,cf b k=cf b' k):∀ j,sm a b n j=sm a' b' n j
 | 0=>rfl
 | j+1=>by rw [sm,sm,wU h1 h2 j];unfold tm;rw [h1 j,h2 (n-j)]
theorem wS {a b:List Int} {n:Nat}:∀ d,sm a b n (a.length+d)=av a b n
 | 0=>rfl
 | d+1=>by rw [<- Nat.add_assoc,sm,wS d,Bv (by omega)];omega
theorem ki {a b:List Int} {n N:Nat} (h:a.length<=N):sm a b n N=av a b n:=by
 obtain ⟨d,rfl⟩:=Nat.exists_eq_add_of_le h
 exact wS d
theorem nC {a a' b b':List Int} {n:Nat} (h1:∀ k,cf a k=cf a' k) (h2:∀ k,cf b k=cf b' k):av a b n=av a' b' n:=by
 rw [<- ki (Nat.le_max_left a.length a'.length),<- ki (Nat.le_max_right a.length a'.length)]
 exact wU h1 h2 _
theorem wQ {a b c q:List Int} {x y:Int} {n:Nat} (h:∀ k,cf c k=x*cf a k+y*cf b k):∀ j,sm c q n j=x*sm a q n j+y*sm b q n j
 | 0=>by simp [sm]
 | j+1=>by
   rw [sm,sm,sm,wQ h j];unfold tm;rw [h j]
   by_cases hj:j<=n
   ·rw [if_pos hj,if_pos hj,if_pos hj];grind
   ·rw [if_neg hj,if_neg hj,if_neg hj];grind
theorem d6 {a b c q:List Int} {x y:Int} {n:Nat} (h:∀ k,cf c k=x*cf a k+y*cf b k):av c q n=x*av a q n+y*av b q n:=by
 have h1:a.length<=a.length+b.length+c.length:=by omega
 have h2:b.length<=a.length+b.length+c.length:=by omega
 have h3:c.length<=a.length+b.length+c.length:=by omega
 rw [<- ki h1,<- ki h2,<- ki h3]
 exact wQ h _
theorem wP {a b b':List Int} {c:Int} {n:Nat} (h:∀ k,cf b' k=c*cf b k):∀ j,sm a b' n j=c*sm a b n j
 | 0=>by simp [sm]
 | j+1=>by
   rw [sm,sm,wP h j];unfold tm;rw [h (n-j)]
   by_cases hj:j<=n
   ·rw [if_pos hj,if_pos hj];grind
   ·rw [if_neg hj,if_neg hj];grind
theorem kJ {a b b':List Int} {c:Int} {n:Nat} (h:∀ k,cf b' k=c*cf b k):av a b' n=c*av a b n:=wP h _
theorem fu (c:Int) (l:List Int) (n:Nat):av [c] l n=c*cf l n:=by
 unfold av
 show sm [c] l n 0+tm [c] l n 0=_
 unfold sm tm
 rw [if_pos (Nat.zero_le _),Am,Nat.sub_zero,Int.zero_add]
theorem rz {l:List Int} (ht:Tr l) (h:∀ k,cf l k=0):l=[]:=by
 refine Classical.byContradiction fun hne=>?_
 have hl:=List.length_pos_iff.mpr hne
 exact ht (l.length-1) (by omega) (h _)
theorem yv {d q:List Int} (hq:q≠[]) (hqt:Tr q) (h:∀ n,q.length<=n+1->av d q n=0):∀ k,cf d k=0:=by
 have e:trim d=[]:=by
  refine Classical.byContradiction fun hne=>?_
  have hl:=List.length_pos_iff.mpr hne
  have hql:=List.length_pos_iff.mpr hq
  have ht:=fj d ((trim d).length-1) (by omega)
  have hb:=hqt (q.length-1) (by omega)
  have h1:=h ((trim d).length-1+(q.length-1)) (by omega)
  rw [<- nC (a:=trim d) (b:=q) (fun k=>gj d k) (fun _=>rfl),rC (la:=(trim d).length-1) (lb:=q.length-1) (by omega) (by omega)] at h1
  exact Int.mul_ne_zero ht hb h1
 intro k
 rw [<- gj,e,cq]
theorem lw {a b:List Int} (hb:b≠[]) (hbt:Tr b):ca a b≠0:=by
 have hbl:=List.length_pos_iff.mpr hb
 have h:=hbt (b.length-1) (by omega)
 have h1:((cf b (b.length-1)).natAbs:Int)≠0:=by omega
 unfold ca
 generalize aY a b=n
 induction n with
 | zero=>rw [Int.pow_zero];decide
 | succ n ih=>rw [Int.pow_succ];exact Int.mul_ne_zero ih h1
end RM
namespace RM
def d8 (d:Nat) (l:List Int):Nat:=l.foldl (fun d v=>Nat.gcd d v.natAbs) d
def aw (l:List Int):Nat:=d8 0 l
theorem nZ (d:Nat):d8 d []=d:=rfl
theorem gK (d:Nat) (v:Int) (l:List Int):d8 d (v::l)=d8 (Nat.gcd d v.natAbs) l:=rfl
theorem HU (d:Nat) (l:List Int) (v:Int):d8 d (l++[v])=Nat.gcd (d8 d l) v.natAbs:=by
 unfold d8;rw [List.foldl_append];rfl
theorem zq (l:List Int) (v:Int):aw (l++[v])=Nat.gcd (aw l) v.natAbs:=HU 0 l v
theorem zJ {m:Nat}:∀ {l:List Int} {d:Nat},m∣d8 d l↔m∣d/\∀ v∈l,m∣v.natAbs
 | [],d=>by simp [nZ]
 | v::l,d=>by
   rw [gK,zJ,Nat.dvd_gcd_iff]
   simp only [List.mem_cons,forall_eq_or_imp]
   exact ⟨fun ⟨⟨a,b⟩,c⟩=>⟨a,b,c⟩,fun ⟨a,b,c⟩=>⟨⟨a,b⟩,c⟩⟩
theorem dvd_gcdL {m:Nat} {l:List Int}:m∣aw l↔∀ v∈l,m∣v.natAbs:=by
 unfold aw;rw [zJ];exact ⟨fun h=>h.2,fun h=>⟨Nat.dvd_zero m,h⟩⟩
theorem nY {l:List Int} {v:Int} (h:v∈l):aw l∣v.natAbs:=dvd_gcdL.mp (Nat.dvd_refl _) v h
theorem HR (v:Int):aw [v]=v.natAbs:=by
 show Nat.gcd 0 v.natAbs=_;exact Nat.gcd_zero_left _
theorem zp {a b:Int} (ha:0<=a) (hb:0<b):Nat.gcd b.natAbs (a%b).natAbs=Nat.gcd a.natAbs b.natAbs:=by
 have e:(a%b).natAbs=a.natAbs%b.natAbs:=by
  obtain ⟨x,rfl⟩:=Int.eq_ofNat_of_zero_le ha
  obtain ⟨y,rfl⟩:=Int.eq_ofNat_of_zero_le (Int.le_of_lt hb)
  rfl
 rw [e,Nat.gcd_comm,<- Nat.gcd_rec,Nat.gcd_comm]
end RM
namespace RM
def ar (l:List Int):List Int:=l.map fun x=>x/(aw l:Int)
def ao (l:List Int):Int:=cf l (l.length-1)
theorem dk (r:List Int) (x:Int):ao (r++[x])=x:=by
 unfold ao;rw [List.length_append];exact jQ r x
def cz (l:List Int):List Int:=if ao l<0 then l.map fun x => -x else l
def aC (l:List Int):List Int:=cz (ar l)
theorem vq {c:Int->Int} (h0:∀ x,c x=0↔x=0):∀ (n:Nat) (l:List Int),l.length=n->trim (l.map c)=(trim l).map c
 | 0,l,h=>by rw [List.length_eq_zero_iff.mp h];rfl
 | n+1,l,h=>by
   rcases cK l with rfl | ⟨r,x,rfl⟩
   ·rfl
   ·rw [List.map_append]
    show trim (r.map c++[c x])=_
    by_cases hx:x=0
    ·subst hx
     rw [(h0 0).mpr rfl,mq,mq]
     exact vq h0 n r (by simpa using h)
    ·rw [j5 r hx,j5 _ (fun z=>hx ((h0 x).mp z)),List.map_append];rfl
def jZ (l:List Int):Prop:=l=[]\/aw l=1
theorem B6 {l:List Int} (h:jZ l):ar l=l:=by
 rcases h with rfl | h
 ·rfl
 ·unfold ar;rw [h]
  conv=>rhs;rw [<- List.map_id l]
  apply List.map_congr_left
  intro x _
  show x/1=x
  exact Int.ediv_one x
theorem HS {l:List Int} {s:Int} (hs:s=1\/s = -1):aw (l.map fun x=>x*s)=aw l:=by
 have key:∀ m:Nat,m∣aw (l.map fun x=>x*s)↔m∣aw l:=by
  intro m
  rw [dvd_gcdL,dvd_gcdL]
  have e:∀ x:Int,(x*s).natAbs=x.natAbs:=fun x=>by
   rcases hs with rfl | rfl
   ·rw [Int.mul_one]
   ·rw [Int.mul_neg,Int.mul_one,Int.natAbs_neg]
  constructor
  ·intro h v hv
   have:=h (v*s) (List.mem_map.mpr ⟨v,hv,rfl⟩)
   rwa [e] at this
  ·intro h v hv
   obtain ⟨u,hu,rfl⟩:=List.mem_map.mp hv
   rw [e];exact h u hu
 exact Nat.dvd_antisymm ((key _).mp (Nat.dvd_refl _)) ((key _).mpr (Nat.dvd_refl _))
theorem DD {l:List Int} (h:jZ l):jZ (l.map fun x => -x):=by
 rcases h with rfl | h
 ·exact .inl rfl
 ·right
  have e:(l.map fun x => -x)=l.map fun x=>x*(-1):=by
   apply List.map_congr_left;intro x _;omega
  rw [e,HS (.inr rfl),h]
theorem yX (l:List Int):ao (l.map fun x => -x) = -ao l:=by
 rcases cK l with rfl | ⟨r,x,rfl⟩
 ·rfl
 ·rw [List.map_append]
  show ao (r.map _++[-x])=_
  rw [dk,dk]
theorem DC {l:List Int} (h:jZ l):jZ (cz l):=by
 unfold cz;split
 ·exact DD h
 ·exact h
theorem Bs {c:Int->Int} (h0:∀ x,c x=0↔x=0) {l:List Int} (h:Tr l):Tr (l.map c):=by
 rw [<- Bn h,<- vq h0 _ l rfl];exact fj _
theorem Bp {l:List Int} (h:Tr l):Tr (cz l):=by
 unfold cz;split
 ·exact Bs (fun x=>by omega) h
 ·exact h
end RM
namespace RM
theorem zr (c:Int):∀ (l:List Int) (d:Nat),d8 (c.natAbs*d) (scL c l)=c.natAbs*d8 d l
 | [],d=>rfl
 | v::l,d=>by
   show d8 (Nat.gcd (c.natAbs*d) (c*v).natAbs) (scL c l)=c.natAbs*d8 (Nat.gcd d v.natAbs) l
   rw [Int.natAbs_mul,Nat.gcd_mul_left,zr c l]
theorem sy (c:Int) (l:List Int):aw (scL c l)=c.natAbs*aw l:=by
 have h:=zr c l 0
 rw [Nat.mul_zero] at h
 exact h
theorem iC {l:List Int} {x:Int} (h:x∈l):(aw l:Int)∣x:=Int.ofNat_dvd_left.mpr (nY h)
theorem B4 {c:Int} (hc:0<c) (l:List Int):ar (scL c l)=ar l:=by
 unfold ar
 rw [sy]
 unfold scL
 rw [List.map_map]
 refine List.map_congr_left fun x _=>?_
 show c*x/((c.natAbs*aw l:Nat):Int)=x/(aw l:Int)
 have e:((c.natAbs*aw l:Nat):Int)=c*(aw l:Int):=by rw [Int.natCast_mul];congr 1;omega
 rw [e,Int.mul_ediv_mul_of_pos _ _ hc]
theorem B5 {c:Int} (hc:c<0) (l:List Int):ar (scL c l)=(ar l).map fun x => -x:=by
 unfold ar
 rw [sy]
 unfold scL
 rw [List.map_map,List.map_map]
 refine List.map_congr_left fun x hx=>?_
 show c*x/((c.natAbs*aw l:Nat):Int) = -(x/(aw l:Int))
 have e:((c.natAbs*aw l:Nat):Int)=(-c)*(aw l:Int):=by rw [Int.natCast_mul];congr 1;omega
 have e2:c*x=(-c)*(-x):=by rw [Int.neg_mul_neg]
 rw [e,e2,Int.mul_ediv_mul_of_pos _ _ (by omega:0 < -c),Int.neg_ediv_of_dvd (iC hx)]
theorem DH {m:List Int} (h:Tr m):cz (m.map fun x => -x)=cz m:=by
 rcases cK m with rfl | ⟨r,x,rfl⟩
 ·rfl
 have hx:x≠0:=tr_snoc.mp h
 have h1:=yX (r++[x])
 rw [dk] at h1
 unfold cz
 rw [h1,dk]
 by_cases hn:x<0
 ·rw [if_neg (by omega),if_pos hn]
 ·rw [if_pos (by omega),if_neg hn,List.map_map]
  rw [show ((fun x:Int => -x) ∘ fun x:Int => -x)=id from by funext y;simp]
  exact List.map_id _
theorem fK {l:List Int} (h:Tr l):Tr (ar l):=by
 intro n hn
 have hl:l.length=n+1:=by rw [<- hn];unfold ar;rw [List.length_map]
 have hx:=h n hl
 have hm:cf l n∈l:=by rw [dM (by omega)];exact List.getElem_mem _
 have e:cf (ar l) n=cf l n/(aw l:Int):=by
  have h1:n<l.length:=by omega
  unfold ar cf
  simp [List.getD,h1]
 rw [e]
 intro z
 have d:=iC hm
 have:=Int.mul_ediv_cancel' d
 rw [z,Int.mul_zero] at this
 exact hx this.symm
theorem kF {c:Int} (hc:c≠0) {l:List Int} (h:Tr l):aC (scL c l)=aC l:=by
 unfold aC
 by_cases hp:0<c
 ·rw [B4 hp]
 ·rw [B5 (by omega),DH (fK h)]
theorem j6 {c:Int} (hc:c≠0) {l:List Int} (h:Tr l):Tr (scL c l):=by
 intro n hn
 rw [b9] at hn
 rw [bF]
 exact Int.mul_ne_zero hc (h n hn)
theorem DJ {a b:List Int} {x y:Int} (hx:x≠0) (hy:y≠0) (ha:Tr a) (hb:Tr b) (h:∀ k,x*cf a k=y*cf b k):aC a=aC b:=by
 have e:scL x a=scL y b:=lv (j6 hx ha) (j6 hy hb) fun k=>by rw [bF,bF,h k]
 rw [<- kF hx ha,e,kF hy hb]
end RM
namespace RM
def slopeL (l:List Int):List Int:=(List.range (l.length-1)).map fun (k:Nat)=>((k:Int)+1)*cf l (k+1)
def lp (l:List Int) (m i n:Nat):Int:=if n%m=0/\n/m<i then cf l (n/m) else 0
end RM
namespace RM
def rst (one other:List Int):List Int:=if other=[] then [] else aN one other
def nxt (one other:List Int):List Int:=ar (cG [] (rst one other))
def bC:Nat->List Int->List Int->List (List Int)
 | 0,_,_=>[]
 | n+1,one,other=>if one=[] then [] else one::bC n other (nxt one other)
theorem kq (n:Nat) (o:List Int):bC n [] o=[]:=by cases n with | zero=>rfl | succ n=>show (if ([]:List Int)=[] then _ else _)=_;rw [if_pos rfl]
end RM
namespace RM
def up (f:Nat->Int) (n:Nat):Int:=if n=0 then 0 else f (n-1)
theorem wT (x:Int) (a b:List Int) (n:Nat):∀ j,sm (x::a) b n (j+1)=x*cf b n+(if n=0 then 0 else sm a b (n-1) j)
 | 0=>by
   show 0+tm (x::a) b n 0=_
   unfold tm
   rw [if_pos (Nat.zero_le _)]
   rw [Am,Nat.sub_zero]
   by_cases h:n=0
   ·rw [if_pos h];omega
   ·rw [if_neg h];show _=_+0;omega
 | j+1=>by
   show sm (x::a) b n (j+1)+tm (x::a) b n (j+1)=_
   rw [wT x a b n j]
   by_cases h:n=0
   ·rw [if_pos h,if_pos h]
    unfold tm
    rw [if_neg (by omega)];omega
   ·rw [if_neg h,if_neg h]
    show _=_+(sm a b (n-1) j+tm a b (n-1) j)
    have e:tm (x::a) b n (j+1)=tm a b (n-1) j:=by
     unfold tm
     rw [oo]
     by_cases h2:j+1<=n
     ·rw [if_pos h2,if_pos (by omega)]
      congr 2;omega
     ·rw [if_neg h2,if_neg (by omega)]
    rw [e];omega
theorem dF (x:Int) (a b:List Int) (n:Nat):av (x::a) b n=x*cf b n+up (av a b) n:=wT x a b n a.length
theorem d5 (b:List Int) (n:Nat):av [] b n=0:=rfl
theorem tX (x:Int) (a:List Int) (n:Nat):cf (x::a) n=(if n=0 then x else 0)+up (cf a) n:=by
 cases n with
 | zero=>show x=x+0;omega
 | succ n=>show cf a n=0+cf a n;omega
theorem rE (y:Int) (b:List Int):∀ (a:List Int) (n:Nat),av a (y::b) n=y*cf a n+up (av a b) n
 | [],n=>by
   rw [d5,cq]
   unfold up
   split
   ·simp
   ·rw [d5];simp
 | x::a,n=>by
   rw [dF,tX,tX]
   cases n with
   | zero =>
     show x*(y+0)+0=y*(x+0)+0
     simp only [Int.add_zero];exact Int.mul_comm _ _
   | succ n =>
     show x*(0+cf b n)+av a (y::b) n=y*(0+cf a n)+av (x::a) b n
     rw [rE y b a n,dF]
     simp only [Int.zero_add]
     omega
theorem rD:∀ (a:List Int) (n:Nat),av a [] n=0
 | [],n=>rfl
 | x::a,n=>by
   rw [dF,cq]
   unfold up
   split
   ·simp
   ·rw [rD a];simp
theorem fU:∀ (a b:List Int) (n:Nat),av a b n=av b a n
 | [],b,n=>by rw [rD];rfl
 | x::a,b,n=>by
   rw [dF,rE]
   congr 1
   unfold up
   split
   ·rfl
   ·exact fU a b _
theorem yx {a b c q:List Int} {x y:Int} {n:Nat} (h:∀ k,cf c k=x*cf a k+y*cf b k):av q c n=x*av q a n+y*av q b n:=by
 rw [fU q c,d6 h,fU q a,fU q b]
theorem oq (a:List Int) (n:Nat):cf (0::a) n=up (cf a) n:=by
 rw [tX];split<;>omega
theorem yw (a b:List Int) (n:Nat):av (0::a) b n=up (av a b) n:=by
 rw [dF];omega
theorem jF:∀ (a b c:List Int) (n:Nat),av (af a b) c n=av a (af b c) n
 | [],b,c,n=>by
   rw [d5,rB fun k=>by rw [aM,d5]]
 | x::a,b,c,n=>by
   rw [dF,aM]
   have e:∀ k,cf (af (x::a) b) k=x*cf b k+1*cf (0::af a b) k:=fun k=>by
    rw [aM,dF,oq,Int.one_mul]
    congr 1
    unfold up
    split
    ·rfl
    ·rw [aM]
   rw [d6 e,yw,Int.one_mul]
   congr 1
   unfold up
   split
   ·rfl
   ·exact jF a b c _
end RM
namespace RM
def Dv (d p:List Int):Prop:=∃ (c:Int) (q:List Int),c≠0/\∀ n,c*cf p n=av q d n
theorem Dv.refl (d:List Int):Dv d d:=⟨1,[1],by decide,fun n=>by rw [fu]⟩
theorem Dv.nil (d:List Int):Dv d []:=⟨1,[],by decide,fun n=>by rw [cq,d5];rfl⟩
theorem Dv.trans {d e p:List Int} (h1:Dv d e) (h2:Dv e p):Dv d p:=by
 obtain ⟨c1,q1,hc1,e1⟩:=h1
 obtain ⟨c2,q2,hc2,e2⟩:=h2
 refine ⟨c1*c2,af q2 q1,Int.mul_ne_zero hc1 hc2,fun n=>?_⟩
 rw [jF,Int.mul_assoc,e2,<- kJ (b':=af q1 d) (fun k=>by rw [aM,e1])]
theorem Dv.up {d a b r q:List Int} {f:Int} (hf:f≠0) (h:∀ n,f*cf a n=av q b n+cf r n) (hb:Dv d b) (hr:Dv d r):Dv d a:=by
 obtain ⟨c1,q1,hc1,e1⟩:=hb
 obtain ⟨c2,q2,hc2,e2⟩:=hr
 refine ⟨c1*c2*f,dI c1 (scL c2 (af q q1)) q2,Int.mul_ne_zero (Int.mul_ne_zero hc1 hc2) hf,fun n=>?_⟩
 rw [d6 (a:=af q q1) (b:=q2) (x:=c2) (y:=c1) (fun k=>by rw [gQ,bF]),jF,<- e2,kJ (b:=b) (b':=af q1 d) (c:=c1) (fun k=>by rw [aM,e1])]
 have:=h n
 grind
theorem Dv.down {d a b r q:List Int} {f:Int} (h:∀ n,f*cf a n=av q b n+cf r n) (ha:Dv d a) (hb:Dv d b):Dv d r:=by
 obtain ⟨c1,q1,hc1,e1⟩:=ha
 obtain ⟨c2,q2,hc2,e2⟩:=hb
 refine ⟨c1*c2,dI (-c1) (scL (f*c2) q1) (af q q2),Int.mul_ne_zero hc1 hc2,fun n=>?_⟩
 rw [d6 (a:=q1) (b:=af q q2) (x:=f*c2) (y := -c1) (fun k=>by rw [gQ,bF]),jF,<- e1,kJ (b:=b) (b':=af q2 d) (c:=c2) (fun k=>by rw [aM,e2])]
 have:=h n
 grind
theorem Dv.prop_right {d p p':List Int} {x y:Int} (hx:x≠0) (h:∀ n,x*cf p' n=y*cf p n) (hd:Dv d p):Dv d p':=by
 obtain ⟨c,q,hc,e⟩:=hd
 refine ⟨c*x,scL y q,Int.mul_ne_zero hc hx,fun n=>?_⟩
 rw [d6 (a:=q) (b:=[]) (x:=y) (y:=0) (fun k=>by rw [bF];simp),<- e]
 have:=h n
 grind
theorem Dv.prop_left {d d' p:List Int} {x y:Int} (hx:x≠0) (hy:y≠0) (h:∀ n,x*cf d' n=y*cf d n) (hd:Dv d p):Dv d' p :=
 Dv.trans (Dv.prop_right hy (fun n=>(h n).symm) (Dv.refl d')) hd
theorem jx {l:List Int} (h:Tr l):∃ g:Int,g≠0/\∀ n,cf l n=g*cf (aC l) n:=by
 by_cases hl:l=[]
 ·subst hl
  exact ⟨1,by decide,fun n=>by rw [cq];show 0=1*cf [] n;rw [cq];rfl⟩
 have hg:(aw l:Int)≠0:=by
  obtain ⟨r,x,rfl⟩:=(cK l).resolve_left hl
  have hx:x≠0:=tr_snoc.mp h
  have h1:0<aw (r++[x]):=Nat.pos_of_dvd_of_pos (nY (by simp:x∈r++[x])) (Int.natAbs_pos.mpr hx)
  omega
 have e1:∀ n,cf l n=(aw l:Int)*cf (ar l) n:=fun n=>by
  unfold ar
  by_cases hn:n<l.length
  ·rw [dM hn,dM (by rw [List.length_map];exact hn),List.getElem_map]
   exact (Int.mul_ediv_cancel' (iC (List.getElem_mem hn))).symm
  ·rw [cs (by omega),cs (by rw [List.length_map];omega),Int.mul_zero]
 unfold aC cz
 split
 ·refine ⟨-(aw l:Int),by omega,fun n=>?_⟩
  have e2:cf ((ar l).map fun x => -x) n = -cf (ar l) n:=by
   by_cases hn:n<(ar l).length
   ·rw [dM hn,dM (by rw [List.length_map];exact hn),List.getElem_map]
   ·rw [cs (l:=ar l) (by omega),cs (l:=(ar l).map fun x => -x) (by rw [List.length_map];omega)];rfl
  rw [e1,e2];grind
 ·exact ⟨_,hg,e1⟩
theorem Dv.plain {d p:List Int} (hp:Tr p):Dv d (aC p)↔Dv d p:=by
 obtain ⟨g,hg,e⟩:=jx hp
 exact ⟨fun h=>Dv.prop_right (x:=1) (y:=g) (by decide) (fun n=>by rw [e];omega) h,fun h=>Dv.prop_right (x:=g) (y:=1) hg (fun n=>by rw [<- e];omega) h⟩
theorem plain_len (l:List Int):(aC l).length=l.length:=by
 unfold aC cz ar
 split<;>simp
theorem gC {l:List Int} (h:Tr l):Tr (aC l):=Bp (fK h)
def cF:Nat->List Int->List Int->List Int
 | 0,one,_=>one
 | n+1,one,other=>if other=[] then one else cF n other (aC (aN one other))
theorem zX (n:Nat) (one:List Int):cF n one []=one:=by cases n<;>rfl
theorem J4 {n:Nat} {one other:List Int} (h:other≠[]):cF (n+1) one other=cF n other (aC (aN one other)):=by
 show (if other=[] then one else cF n other (aC (aN one other)))=_
 rw [if_neg h]
theorem zW:∀ (n:Nat) (one other:List Int),other.length<=n->Tr one->Tr other->Tr (cF n one other)/\Dv (cF n one other) one/\Dv (cF n one other) other/\(∀ d,Dv d one->Dv d other->Dv d (cF n one other))/\(one≠[]\/other≠[]->cF n one other≠[])/\(cF n one other=one\/cF n one other=other\/∃ l,Tr l/\cF n one other=aC l)
 | n,one,[],_,t1,_=>by
   rw [zX]
   exact ⟨t1,Dv.refl _,Dv.nil _,fun d h _=>h,fun h=>h.resolve_right fun z=>z rfl,.inl rfl⟩
 | 0,one,x::o,h,_,_=>absurd h (Nat.not_succ_le_zero _)
 | n+1,one,x::o,h,t1,t2=>by
   have hne:x::o≠[]:=fun z=>nomatch z
   rw [J4 hne]
   generalize x::o=other at h t2 hne
   have tr:=fF one other
   have hl:=gf (a:=one) hne
   obtain ⟨c1,c2,c3,c4,c5,c6⟩:=zW n other (aC (aN one other)) (by rw [plain_len];omega) t2 (gC tr)
   have eq:=fun k=>gM (a:=one) hne k
   refine ⟨c1,Dv.up (lw (a:=one) hne t2) eq c2 ((Dv.plain tr).mp c3),c2,fun d h1 h2=>c4 d h2 ((Dv.plain tr).mpr (Dv.down eq h1 h2)),fun _=>c5 (.inl hne),?_⟩
   rcases c6 with e | e | e
   ·exact .inr (.inl e)
   ·exact .inr (.inr ⟨_,tr,e⟩)
   ·exact .inr (.inr e)
def Cop (a:List Int) (m:Nat):Prop:=∀ k:Nat,k∣m->(∀ n,(k:Int)∣cf a n)->k=1
theorem sC:∀ (N:Nat) (a b:List Int) (m:Nat),a.length+b.length<=N->Cop a m->Cop b m->(∀ n,(m:Int)∣av a b n)->m=1
 | _,[],b,m,_,h1,_,_=>h1 m (Nat.dvd_refl _) fun n=>by rw [cq];exact Int.dvd_zero _
 | _,_::_,[],m,_,_,h2,_=>h2 m (Nat.dvd_refl _) fun n=>by rw [cq];exact Int.dvd_zero _
 | 0,_::_,_::_,_,h,_,_,_=>absurd h (by simp)
 | N+1,x::a,y::b,m,h,h1,h2,h3=>by
   have d1:Nat.gcd m x.natAbs=1:=by
    refine sC N a (y::b) _ (by simp at h ⊢;omega) (fun k hk hn=>h1 k (Nat.dvd_trans hk (Nat.gcd_dvd_left _ _)) fun n=>?_) (fun k hk=>h2 k (Nat.dvd_trans hk (Nat.gcd_dvd_left _ _))) fun n=>?_
    ·cases n with
     | zero=>exact Int.ofNat_dvd_left.mpr (Nat.dvd_trans hk (Nat.gcd_dvd_right _ _))
     | succ n=>exact hn n
    ·have e:=dF x a (y::b) (n+1)
     have g1:((Nat.gcd m x.natAbs:Nat):Int)∣av (x::a) (y::b) (n+1):=Int.dvd_trans (Int.ofNat_dvd.mpr (Nat.gcd_dvd_left _ _)) (h3 _)
     have g2:((Nat.gcd m x.natAbs:Nat):Int)∣x*cf (y::b) (n+1):=Int.dvd_mul_of_dvd_left (Int.ofNat_dvd_left.mpr (Nat.gcd_dvd_right _ _))
     have e2:av a (y::b) n=av (x::a) (y::b) (n+1)-x*cf (y::b) (n+1):=by
      rw [e];show _=_+av a (y::b) n-_;omega
     rw [e2];exact Int.dvd_sub g1 g2
   have d2:Nat.gcd m y.natAbs=1:=by
    refine sC N (x::a) b _ (by simp at h ⊢;omega) (fun k hk=>h1 k (Nat.dvd_trans hk (Nat.gcd_dvd_left _ _))) (fun k hk hn=>h2 k (Nat.dvd_trans hk (Nat.gcd_dvd_left _ _)) fun n=>?_) fun n=>?_
    ·cases n with
     | zero=>exact Int.ofNat_dvd_left.mpr (Nat.dvd_trans hk (Nat.gcd_dvd_right _ _))
     | succ n=>exact hn n
    ·have e:=rE y b (x::a) (n+1)
     have g1:((Nat.gcd m y.natAbs:Nat):Int)∣av (x::a) (y::b) (n+1):=Int.dvd_trans (Int.ofNat_dvd.mpr (Nat.gcd_dvd_left _ _)) (h3 _)
     have g2:((Nat.gcd m y.natAbs:Nat):Int)∣y*cf (x::a) (n+1):=Int.dvd_mul_of_dvd_left (Int.ofNat_dvd_left.mpr (Nat.gcd_dvd_right _ _))
     have e2:av (x::a) b n=av (x::a) (y::b) (n+1)-y*cf (x::a) (n+1):=by
      rw [e];show _=_+av (x::a) b n-_;omega
     rw [e2];exact Int.dvd_sub g1 g2
   have h0:=h3 0
   rw [dF] at h0
   have h0':m∣x.natAbs*y.natAbs:=by
    rw [<- Int.natAbs_mul]
    refine Int.ofNat_dvd_left.mp ?_
    have e:x*cf (y::b) 0+up (av a (y::b)) 0=x*y:=by
     show x*y+0=x*y;omega
    rwa [e] at h0
   have h4:m∣y.natAbs:=Nat.Coprime.dvd_of_dvd_mul_left d1 h0'
   rw [Nat.gcd_eq_left h4] at d2
   exact d2
theorem FF {l:List Int} {v:Int} (h:v∈l):∃ n,n<l.length/\cf l n=v:=by
 obtain ⟨n,hn,e⟩:=List.getElem_of_mem h
 exact ⟨n,hn,by rw [dM hn,e]⟩
theorem zU {a:List Int} {m:Nat} (h:aw a=1):Cop a m:=fun k _ hn=>by
 have:k∣aw a:=dvd_gcdL.mpr fun v hv=>by
  obtain ⟨n,_,rfl⟩:=FF hv
  exact Int.ofNat_dvd_left.mp (hn n)
 rw [h] at this
 exact Nat.dvd_one.mp this
theorem DE {a b:List Int} (ha:aw a=1) (hb:aw b=1):aw (af a b)=1:=by
 refine sC _ a b _ (Nat.le_refl _) (zU ha) (zU hb) fun n=>?_
 rw [<- aM]
 by_cases hn:n<(af a b).length
 ·rw [dM hn];exact iC (List.getElem_mem hn)
 ·rw [cs (by omega)];exact Int.dvd_zero _
structure Pln (l:List Int):Prop where
 tr:Tr l
 ne:l≠[]
 prim:aw l=1
 pos:0<ao l
theorem yW {l:List Int} (h:Tr l) (hne:l≠[]):ao l≠0:=by
 have:=List.length_pos_iff.mpr hne
 exact h (l.length-1) (by omega)
theorem Pln.plain {l:List Int} (h:Pln l):aC l=l:=by
 unfold aC
 rw [B6 (.inr h.prim)]
 unfold cz
 rw [if_neg (by have:=h.pos;omega)]
theorem mL {l:List Int}:scL (aw l:Int) (ar l)=l:=by
 unfold scL ar
 rw [List.map_map]
 refine (List.map_congr_left (g:=id) fun x hx=>?_).trans (List.map_id _)
 exact Int.mul_ediv_cancel' (iC hx)
theorem eK {l:List Int} (h:Tr l) (hne:l≠[]):Pln (aC l):=by
 have hg:0<aw l:=by
  obtain ⟨r,x,rfl⟩:=(cK l).resolve_left hne
  have hx:x≠0:=tr_snoc.mp h
  exact Nat.pos_of_dvd_of_pos (nY (by simp:x∈r++[x])) (Int.natAbs_pos.mpr hx)
 have h1:aw (ar l)=1:=by
  have e:=sy (aw l:Int) (ar l)
  rw [mL,Int.natAbs_natCast] at e
  exact Nat.eq_of_mul_eq_mul_left hg (by rw [<- e,Nat.mul_one])
 have hs:ar l≠[]:=fun z=>hne (by have:=congrArg List.length z;unfold ar at this;simpa using this)
 have hl:=yW (fK h) hs
 have hp:aw (aC l)=1:=by
  rcases DC (.inr h1:jZ (ar l)) with z | z
  ·exact absurd (congrArg List.length z) (by
    have:=plain_len l
    unfold aC at this
    rw [this]
    exact fun q=>hne (List.length_eq_zero_iff.mp q))
  ·exact z
 refine ⟨gC h,fun z=>hne (List.length_eq_zero_iff.mp (by rw [<- plain_len,z];rfl)),hp,?_⟩
 unfold aC cz
 split
 ·rw [yX];omega
 ·omega
theorem bI {a b:List Int} (ha:a≠[]) (hb:b≠[]):(af a b).length=a.length+b.length-1:=by
 unfold af
 rw [if_neg (fun z=>z.elim ha hb),List.length_map,List.length_range]
theorem rX {a b:List Int} (ha:a≠[]) (hb:b≠[]):ao (af a b)=ao a*ao b:=by
 have h1:=List.length_pos_iff.mpr ha
 have h2:=List.length_pos_iff.mpr hb
 unfold ao
 rw [bI ha hb,aM]
 have e:a.length+b.length-1-1=(a.length-1)+(b.length-1):=by omega
 rw [e,rC (by omega) (by omega)]
theorem Pln.mul {a b:List Int} (ha:Pln a) (hb:Pln b):Pln (af a b):=by
 refine ⟨mr ha.tr hb.tr,fun z=>?_,DE ha.prim hb.prim,by rw [rX ha.ne hb.ne];exact Int.mul_pos ha.pos hb.pos⟩
 have h1:=List.length_pos_iff.mpr ha.ne
 have h2:=List.length_pos_iff.mpr hb.ne
 have:=bI ha.ne hb.ne
 rw [z] at this
 simp at this
 omega
theorem xV {p q d:List Int} {c:Int} (hc:c≠0) (hp:Tr p) (hpn:p≠[]) (hq:Tr q) (hd:Pln d) (h:∀ n,c*cf p n=av q d n):af (aC q) d=aC p:=by
 have hqn:q≠[]:=fun z=>by
  have h1:=List.length_pos_iff.mpr hpn
  have h2:=h (p.length-1)
  rw [z,d5] at h2
  exact Int.mul_ne_zero hc (hp (p.length-1) (by omega)) h2
 obtain ⟨g,hg,e⟩:=jx hq
 have hm:=(eK hq hqn).mul hd
 rw [<- hm.plain]
 refine DJ hg hc hm.tr hp fun k=>?_
 rw [h,aM,d6 (a:=aC q) (b:=[]) (x:=g) (y:=0) (c:=q) (fun k=>by rw [e];simp),d5]
 simp
theorem Dv.trim {d p:List Int} (h:Dv d p):∃ (c:Int) (q:List Int),c≠0/\Tr q/\∀ n,c*cf p n=av q d n:=by
 obtain ⟨c,q,hc,e⟩:=h
 exact ⟨c,RM.trim q,hc,fj q,fun n=>by rw [e];exact (nC (fun k=>gj q k) fun _=>rfl).symm⟩
theorem Dv.fellow {d p:List Int} (hd:Pln d) (hp:Tr p) (hpn:p≠[]) (h:Dv d p):∃ q,Pln q/\af q d=aC p:=by
 obtain ⟨c,q,hc,hq,e⟩:=h.trim
 have hqn:q≠[]:=fun z=>by
  have h1:=List.length_pos_iff.mpr hpn
  have h2:=e (p.length-1)
  rw [z,d5] at h2
  exact Int.mul_ne_zero hc (hp (p.length-1) (by omega)) h2
 exact ⟨aC q,eK hq hqn,xV hc hp hpn hq hd e⟩
theorem Pln.const {l:List Int} (h:Pln l) (h1:l.length=1):l=[1]:=by
 obtain ⟨x,rfl⟩:∃ x,l=[x]:=List.length_eq_one_iff.mp h1
 have h2:=h.prim
 rw [HR] at h2
 have h3:0<x:=h.pos
 have:x=1:=by omega
 rw [this]
theorem one_mul (l:List Int) (h:Tr l):af [1] l=l:=by
 refine lv (mr (tr_snoc (r:=[]).mpr (by decide)) h) h fun k=>?_
 rw [aM,fu];omega
theorem qX {a b:List Int} (ha:Pln a) (hb:Pln b) (h1:Dv a b) (h2:Dv b a):a=b:=by
 obtain ⟨q,hq,e⟩:=h1.fellow ha hb.tr hb.ne
 obtain ⟨r,hr,e'⟩:=h2.fellow hb ha.tr ha.ne
 rw [hb.plain] at e
 rw [ha.plain] at e'
 have l1:=bI hq.ne ha.ne
 have l2:=bI hr.ne hb.ne
 rw [e] at l1
 rw [e'] at l2
 have p1:=List.length_pos_iff.mpr hq.ne
 have p2:=List.length_pos_iff.mpr hr.ne
 have p3:=List.length_pos_iff.mpr ha.ne
 have hq1:=hq.const (by omega)
 rw [hq1,one_mul a ha.tr] at e
 exact e
theorem Dv.short {d r:List Int} (hd:d≠[]) (hdt:Tr d) (hr:Tr r) (hl:r.length<d.length) (h:Dv d r):r=[]:=by
 obtain ⟨c,q,hc,e⟩:=h
 have z:=yv hd hdt (d:=q) fun n hn=>by rw [<- e,cs (by omega),Int.mul_zero]
 refine rz hr fun k=>?_
 have h1:=e k
 rw [rB z] at h1
 exact (Int.mul_eq_zero.mp h1).resolve_left hc
theorem Dv.rest {d p:List Int} (hd:d≠[]) (hdt:Tr d) (h:Dv d p):aN p d=[] :=
 Dv.short hd hdt (fF _ _) (gf hd) (Dv.down (fun n=>gM (a:=p) hd n) h (Dv.refl d))
theorem Dv.mul_right (a b:List Int):Dv b (af a b):=⟨1,a,by decide,fun n=>by rw [aM];omega⟩
theorem Dv.mul_left (a b:List Int):Dv a (af a b):=⟨1,b,by decide,fun n=>by rw [aM,fU];omega⟩
end RM
namespace RM
theorem KW {l1 l2 r1 r2 pl pc a1 a2 c1 c2 x1 x2:Int} (ha:0<a2) (hc:0<c2) (e1:a1*pc=pl*a2) (e2:c1*(r2*a2)=r1*a1*c2) (e3:x1*(l2*c2)=(l1*c2+c1*l2)*x2) :
 x1*(l2*r2*pc)=(l1*r2*pc+r1*l2*pl)*x2:=by
 have h0:c2*a2≠0:=Int.ne_of_gt (Int.mul_pos hc ha)
 refine Int.eq_of_mul_eq_mul_right h0 ?_
 calc x1*(l2*r2*pc)*(c2*a2)=x1*(l2*c2)*(r2*pc*a2):=by grind
  _=(l1*c2+c1*l2)*x2*(r2*pc*a2):=by rw [e3]
  _=x2*(l1*c2*r2*pc*a2+l2*pc*(c1*(r2*a2))):=by grind
  _=x2*(l1*c2*r2*pc*a2+l2*pc*(r1*a1*c2)):=by rw [e2]
  _=x2*c2*(l1*r2*pc*a2+l2*r1*(a1*pc)):=by grind
  _=x2*c2*(l1*r2*pc*a2+l2*r1*(pl*a2)):=by rw [e1]
  _=(l1*r2*pc+r1*l2*pl)*x2*(c2*a2):=by grind
theorem Kf {l r:Int} (hl:0<l) (hr:0<r) {g:Nat} (hg:g=Nat.gcd l.natAbs r.natAbs):∃ l' r':Int,0<l'/\0<r'/\(0:Int)<g/\l=g*l'/\r=g*r'/\l*r/g=l*r'/\l*r'/l=r'/\l*r'/r=l'/\0<l*r':=by
 have g0:0<g:=by rw [hg];exact Nat.gcd_pos_of_pos_left _ (by omega)
 have gi:(0:Int)<g:=by omega
 obtain ⟨l',hl'⟩:(g:Int)∣l:=Int.natAbs_dvd_natAbs.mp (by rw [Int.natAbs_natCast,hg];exact Nat.gcd_dvd_left _ _)
 obtain ⟨r',hr'⟩:(g:Int)∣r:=Int.natAbs_dvd_natAbs.mp (by rw [Int.natAbs_natCast,hg];exact Nat.gcd_dvd_right _ _)
 have l0:0<l':=Int.lt_of_mul_lt_mul_left (a:=(g:Int)) (by rw [Int.mul_zero,<- hl'];exact hl) (Int.le_of_lt gi)
 have r0:0<r':=Int.lt_of_mul_lt_mul_left (a:=(g:Int)) (by rw [Int.mul_zero,<- hr'];exact hr) (Int.le_of_lt gi)
 refine ⟨l',r',l0,r0,gi,hl',hr',?_,?_,?_,Int.mul_pos hl r0⟩
 ·have e:l*r=(l*r')*g:=by
   calc l*r=l*(g*r'):=by rw [<- hr']
    _=(l*r')*g:=by grind
  rw [e];exact Int.mul_ediv_cancel _ (Int.ne_of_gt gi)
 ·exact Int.mul_ediv_cancel_left _ (Int.ne_of_gt hl)
 ·have e:l*r'=l'*r:=by
   calc l*r'=(g*l')*r':=by rw [<- hl']
    _=l'*(g*r'):=by grind
    _=l'*r:=by rw [<- hr']
  rw [e];exact Int.mul_ediv_cancel _ (Int.ne_of_gt hr)
end RM
namespace RM
def cw:List Int->List Int
 | []=>[]
 | v::l=>2^l.length*v::cw l
theorem mB:∀ l,(cw l).length=l.length
 | []=>rfl
 | v::l=>by show (cw l).length+1=_;rw [mB l];rfl
theorem zk (p q:Int):∀ l,2*hv p q (cw l)=hv p (2*q) l
 | []=>by show 2*0=(0:Int);rfl
 | v::l=>by
   have ih:=zk p q l
   show 2*(2^l.length*v*q^((cw l).length+1)+p*hv p q (cw l))=v*(2*q)^(l.length+1)+p*hv p (2*q) l
   rw [mB,<- ih,Int.mul_pow,Int.pow_succ 2]
   grind
def suf:List Int->List Int
 | []=>[]
 | v::l=>(v+(suf l).headD 0)::suf l
theorem jj:∀ l,(suf l).length=l.length
 | []=>rfl
 | v::l=>by show (suf l).length+1=_;rw [jj l];rfl
theorem vK (p q:Int):∀ l,hv (p+q) q l=(suf l).headD 0*q^l.length+p*hv (p+q) q ((suf l).tail)
 | []=>by show (0:Int)=0*q^0+p*0;omega
 | v::l=>by
   have ih:=vK p q l
   show v*q^(l.length+1)+(p+q)*hv (p+q) q l=(v+(suf l).headD 0)*q^(l.length+1)+p*hv (p+q) q (suf l)
   cases hs:suf l with
   | nil =>
     have hl:l=[]:=by
      have:=jj l
      rw [hs] at this
      exact List.eq_nil_of_length_eq_zero this.symm
     subst hl
     show v*q^1+(p+q)*0=(v+0)*q^1+p*0
     grind
   | cons g r =>
     rw [hs] at ih
     have hl:r.length+1=l.length:=by have:=jj l;rw [hs] at this;exact this
     have ih':hv (p+q) q l=g*q^l.length+p*hv (p+q) q r:=ih
     show v*q^(l.length+1)+(p+q)*hv (p+q) q l=(v+g)*q^(l.length+1)+p*(g*q^(r.length+1)+(p+q)*hv (p+q) q r)
     rw [ih',hl,Int.pow_succ]
     grind
def dD:Nat->List Int->List Int
 | 0,m=>suf m
 | _+1,[]=>[]
 | i+1,c::m=>c::dD i m
theorem re:∀ (i:Nat) (m:List Int),(dD i m).length=m.length
 | 0,m=>jj m
 | _+1,[]=>rfl
 | i+1,c::m=>by show (dD i m).length+1=_;rw [re i m];rfl
def fv (p q:Int):Nat->List Int->Int
 | 0,m=>hv (p+q) q m
 | _+1,[]=>0
 | i+1,c::m=>c*q^(m.length+1)+p*fv p q i m
theorem yH (p q:Int):∀ (i:Nat) (m:List Int),fv p q (i+1) (dD i m)=fv p q i m
 | 0,m=>by
   show fv p q 1 (suf m)=hv (p+q) q m
   rw [vK]
   cases hs:suf m with
   | nil =>
     show (0:Int)=0*q^m.length+p*hv (p+q) q []
     rw [nV];omega
   | cons g r =>
     have hl:r.length+1=m.length:=by have:=jj m;rw [hs] at this;exact this
     show g*q^(r.length+1)+p*hv (p+q) q r=g*q^m.length+p*hv (p+q) q r
     rw [hl]
 | i+1,[]=>rfl
 | i+1,c::m=>by
   show c*q^((dD i m).length+1)+p*fv p q (i+1) (dD i m)=c*q^(m.length+1)+p*fv p q i m
   rw [yH p q i m,re]
theorem yJ (p q:Int):∀ (i:Nat) (m:List Int),m.length<=i+1->fv p q i m=hv p q m
 | 0,[],_=>rfl
 | 0,[c],_=>by
   show c*q^1+(p+q)*0=c*q^1+p*0
   omega
 | 0,_::_::_,h=>absurd h (by simp)
 | _+1,[],_=>rfl
 | i+1,c::m,h=>by
   show c*q^(m.length+1)+p*fv p q i m=c*q^(m.length+1)+p*hv p q m
   rw [yJ p q i m (by simpa using h)]
def eQ:Nat->List Int->List Int
 | 0,l=>l
 | i+1,l=>dD i (eQ i l)
theorem nE:∀ (i:Nat) (l:List Int),(eQ i l).length=l.length
 | 0,_=>rfl
 | i+1,l=>by show (dD i (eQ i l)).length=_;rw [re,nE i l]
theorem yI (p q:Int):∀ (i:Nat) (l:List Int),fv p q i (eQ i l)=hv (p+q) q l
 | 0,_=>rfl
 | i+1,l=>by show fv p q (i+1) (dD i (eQ i l))=_;rw [yH,yI p q i l]
def kN (l:List Int):List Int:=eQ (l.length-1) l
theorem yF (l:List Int):(kN l).length=l.length:=nE _ _
theorem HC (p q:Int) (l:List Int):hv p q (kN l)=hv (p+q) q l:=by
 rw [<- yI p q (l.length-1) l]
 exact (yJ p q (l.length-1) _ (by rw [yF];omega)).symm
theorem zi:∀ l:List Int,hv 1 1 l=l.sum
 | []=>rfl
 | v::l=>by
   show v*1^(l.length+1)+1*hv 1 1 l=v+l.sum
   rw [zi l,Int.one_pow];omega
def bV (m s0 s1:Int):List Int->List Int
 | []=>[]
 | v::l=>mb (-s0) s1 (v*m^l.length) (bV m s0 s1 l)
theorem jk (m s0 s1:Int):∀ l,(bV m s0 s1 l).length=l.length
 | []=>rfl
 | v::l=>by show (mb _ _ _ _).length=_;rw [nG,jk m s0 s1 l];rfl
theorem zj (m s0 s1 p q:Int):∀ l,m*hv p q (bV m s0 s1 l)=hv (s0*q+s1*p) (m*q) l
 | []=>by show m*0=(0:Int);omega
 | v::l=>by
   have ih:=zj m s0 s1 p q l
   show m*hv p q (mb (-s0) s1 (v*m^l.length) (bV m s0 s1 l))=v*(m*q)^(l.length+1)+(s0*q+s1*p)*hv (s0*q+s1*p) (m*q) l
   rw [zm,jk,<- ih,Int.mul_pow,Int.pow_succ m]
   grind
theorem vL (m s0 s1:Int):∀ l,cf (bV m s0 s1 l) (l.length-1)=cf l (l.length-1)*s1^(l.length-1)
 | []=>by show (0:Int)=0*_;omega
 | [v]=>by
   show cf (mb (-s0) s1 (v*m^0) []) 0=v*s1^0
   rw [iW,if_pos rfl,cq,Int.pow_zero,Int.pow_zero]
   omega
 | v::u::l=>by
   have ih:=vL m s0 s1 (u::l)
   show cf (mb (-s0) s1 _ (bV m s0 s1 (u::l))) (l.length+1)=cf (u::l) l.length*s1^(l.length+1)
   rw [iW,if_neg (by omega)]
   have e1:cf (bV m s0 s1 (u::l)) (l.length+1)=0:=cs (by rw [jk];exact Nat.le_refl _)
   have e2:cf (bV m s0 s1 (u::l)) (l.length+1-1)=cf (u::l) l.length*s1^l.length:=ih
   rw [e1,e2,Int.pow_succ]
   grind
theorem dS {x p:Int} (hp:0<p):sg (p*x)=sg x:=by rw [Int.mul_comm];exact o7 hp
end RM
namespace RM
def sgq (u v d:Int):Int :=
 if 0<=u/\0<=v then (if 0<u\/0<v then 1 else 0)
 else if u<=0/\v<=0 then -1
 else if 0<u then (if u*u<d*v*v then -1 else 1)
 else (if u*u>d*v*v then -1 else 1)
def NSq (d:Int):Prop:=0<d/\∀ a b:Int,b≠0->a*a≠d*b*b
theorem Fq (n d:Nat) (h1:n*n<d) (h2:d<(n+1)*(n+1)):∀ b a:Nat,0<b->a*a≠d*(b*b):=by
 intro b
 induction b using Nat.strongRecOn with
 | ind b ih =>
   intro a hb e
   have l1:n*b<a:=by
    refine Classical.byContradiction fun z=>?_
    have z':a<=n*b:=by omega
    have h3:=Nat.mul_le_mul z' z'
    have h4:n*n*(b*b)<d*(b*b):=Nat.mul_lt_mul_of_pos_right h1 (Nat.mul_pos hb hb)
    have e2:n*b*(n*b)=n*n*(b*b):=by grind
    omega
   have l2:a<(n+1)*b:=by
    refine Classical.byContradiction fun z=>?_
    have z':(n+1)*b<=a:=by omega
    have h3:=Nat.mul_le_mul z' z'
    have h4:d*(b*b)<(n+1)*(n+1)*(b*b):=Nat.mul_lt_mul_of_pos_right h2 (Nat.mul_pos hb hb)
    have e2:(n+1)*b*((n+1)*b)=(n+1)*(n+1)*(b*b):=by grind
    omega
   have e3:(n+1)*b=n*b+b:=by grind
   obtain ⟨c,hc⟩:∃ c,a=n*b+c:=⟨a-n*b,by omega⟩
   have hc0:0<c:=by omega
   have hcb:c<b:=by omega
   have l3:n*a<=d*b:=by
    have h5:n*a*a<=d*b*a:=by
     have h6:n*(a*a)=n*(d*(b*b)):=by rw [e]
     have h7:n*b*(d*b)<=a*(d*b):=Nat.mul_le_mul_right _ (Nat.le_of_lt l1)
     have e4:n*a*a=n*(a*a):=by grind
     have e5:n*(d*(b*b))=n*b*(d*b):=by grind
     have e6:d*b*a=a*(d*b):=by grind
     omega
    exact Nat.le_of_mul_le_mul_right h5 (by omega)
   obtain ⟨f,hf⟩:∃ f,d*b=n*a+f:=⟨d*b-n*a,by omega⟩
   refine ih c hcb f hc0 ?_
   have e7:(f:Int)=(d:Int)*b-n*a:=by
    have:=congrArg (fun z:Nat=>(z:Int)) hf
    simp only [Int.natCast_add,Int.natCast_mul] at this
    omega
   have e8:(c:Int)=(a:Int)-n*b:=by
    have:=congrArg (fun z:Nat=>(z:Int)) hc
    simp only [Int.natCast_add,Int.natCast_mul] at this
    omega
   have e9:(a:Int)*a=d*(b*b):=by
    have:=congrArg (fun z:Nat=>(z:Int)) e
    simp only [Int.natCast_mul] at this
    exact this
   have e10:(f:Int)*f=d*(c*c):=by
    rw [e7,e8]
    have:((d:Int)*b-n*a)*(d*b-n*a)-d*((a-n*b)*(a-n*b))=(d*(b*b)-a*a)*(d-n*n):=by grind
    rw [e9,Int.sub_self,Int.zero_mul] at this
    omega
   have e11:((f*f:Nat):Int)=((d*(c*c):Nat):Int):=by
    simp only [Int.natCast_mul];exact e10
   exact Int.ofNat.inj e11
theorem gF {n d:Nat} (h1:n*n<d) (h2:d<(n+1)*(n+1)):NSq d:=by
 refine ⟨by omega,fun a b hb e=>?_⟩
 refine Fq n d h1 h2 b.natAbs a.natAbs (by omega) ?_
 have e1:((a.natAbs*a.natAbs:Nat):Int)=a*a:=Int.natAbs_mul_self
 have e2:((b.natAbs*b.natAbs:Nat):Int)=b*b:=Int.natAbs_mul_self
 have:((a.natAbs*a.natAbs:Nat):Int)=((d*(b.natAbs*b.natAbs):Nat):Int):=by
  rw [Int.natCast_mul (d) _,e1,e2,e,Int.mul_assoc]
 exact Int.ofNat.inj this
theorem Cb (u v d:Int):sgq u v d=1\/sgq u v d=0\/sgq u v d = -1:=by
 unfold sgq
 split
 ·split
  ·exact .inl rfl
  ·exact .inr (.inl rfl)
 ·split
  ·exact .inr (.inr rfl)
  ·split<;>split<;>simp
theorem g9 {u v d:Int} (hu:0<=u) (hv:0<=v) (h:0<u\/0<v):sgq u v d=1:=by unfold sgq;rw [if_pos ⟨hu,hv⟩,if_pos h]
theorem hI {u v d:Int} (hu:u<=0) (hv:v<=0) (h:u<0\/v<0):sgq u v d = -1:=by unfold sgq;rw [if_neg (by omega),if_pos ⟨hu,hv⟩]
theorem mO {u v d:Int} (hu:0<u) (hv:v<0):sgq u v d=if u*u<d*v*v then -1 else 1:=by unfold sgq;rw [if_neg (by omega),if_neg (by omega),if_pos hu]
theorem mP {u v d:Int} (hu:u<0) (hv:0<v):sgq u v d=if u*u>d*v*v then -1 else 1:=by unfold sgq;rw [if_neg (by omega),if_neg (by omega),if_neg (by omega)]
theorem o5 (d:Int):sgq 0 0 d=0:=rfl
theorem GI (u v:Int):(u=0/\v=0)\/(0<=u/\0<=v/\(0<u\/0<v))\/(u<=0/\v<=0/\(u<0\/v<0))\/(0<u/\v<0)\/(u<0/\0<v):=by omega
theorem w9 {g u v d:Int} (hg:0<g):sgq (g*u) (g*v) d=sgq u v d:=by
 have hp:∀ x:Int,0<x->0<g*x:=fun x h=>Int.mul_pos hg h
 have hn:∀ x:Int,x<0->g*x<0:=fun x h=>Int.mul_neg_of_pos_of_neg hg h
 have hz:∀ x:Int,0<=x->0<=g*x:=fun x h=>Int.mul_nonneg (Int.le_of_lt hg) h
 have hy:∀ x:Int,x<=0->g*x<=0:=fun x h=>Int.mul_nonpos_of_nonneg_of_nonpos (Int.le_of_lt hg) h
 have gg:0<g*g:=Int.mul_pos hg hg
 have e1:g*u*(g*u)=u*u*(g*g):=by grind
 have e2:d*(g*v)*(g*v)=d*v*v*(g*g):=by grind
 rcases GI u v with ⟨rfl,rfl⟩ | ⟨a,b,c⟩ | ⟨a,b,c⟩ | ⟨a,b⟩ | ⟨a,b⟩
 ·rw [Int.mul_zero]
 ·rw [g9 a b c,g9 (hz _ a) (hz _ b) (c.elim (fun z=>.inl (hp _ z)) (fun z=>.inr (hp _ z)))]
 ·rw [hI a b c,hI (hy _ a) (hy _ b) (c.elim (fun z=>.inl (hn _ z)) (fun z=>.inr (hn _ z)))]
 ·rw [mO a b,mO (hp _ a) (hn _ b),e1,e2]
  by_cases z:u*u<d*v*v
  ·rw [if_pos z,if_pos (Int.mul_lt_mul_of_pos_right z gg)]
  ·rw [if_neg z,if_neg (fun y=>z (Int.lt_of_mul_lt_mul_right y (Int.le_of_lt gg)))]
 ·rw [mP a b,mP (hn _ a) (hp _ b),e1,e2]
  by_cases z:u*u>d*v*v
  ·rw [if_pos z,if_pos (Int.mul_lt_mul_of_pos_right z gg)]
  ·rw [if_neg z,if_neg (fun y=>z (Int.lt_of_mul_lt_mul_right y (Int.le_of_lt gg)))]
end RM
namespace RM
theorem Fx {t h v:Int} {T X V:Nat} (ht:t.natAbs=T) (hh:X<=h.natAbs) (hv:v.natAbs<=V):T*X<=(v+t*h).natAbs+V:=by
 subst ht
 have e1:t.natAbs*h.natAbs=(t*h).natAbs:=(Int.natAbs_mul t h).symm
 have e2:t.natAbs*X<=t.natAbs*h.natAbs:=Nat.mul_le_mul_left _ hh
 omega
theorem Ar {B n:Nat} {t:Int} (hn:0<n) (hB:1<=B) (ht:B*n<=t.natAbs) (z:Int):∀ os:List Int,(∀ x∈os,x.natAbs<=(B-1)*z.natAbs)->z.natAbs*n^(os.length+1)<=(hv t n (os++[z])).natAbs
 | [],_=>by
   show z.natAbs*n^1<=(z*(n:Int)^1+t*0).natAbs
   rw [Int.mul_zero,Int.add_zero,Int.natAbs_mul,Int.natAbs_pow,Int.natAbs_natCast]
   exact Nat.le_refl _
 | v::os,h=>by
   have ih:=Ar hn hB ht z os (fun x hx=>h x (List.mem_cons_of_mem _ hx))
   have hvv:=h v (List.mem_cons_self ..)
   rw [List.cons_append,dz]
   have e1:(v*(n:Int)^((os++[z]).length+1)).natAbs<=(B-1)*z.natAbs*n^(os.length+2):=by
    rw [Int.natAbs_mul,Int.natAbs_pow,Int.natAbs_natCast]
    have:(os++[z]).length+1=os.length+2:=by simp
    rw [this]
    exact Nat.mul_le_mul_right _ hvv
   have e2:=Fx (t:=t) rfl ih e1
   have e3:B*n*(z.natAbs*n^(os.length+1))<=t.natAbs*(z.natAbs*n^(os.length+1)):=Nat.mul_le_mul_right _ ht
   have e4:(v::os).length+1=os.length+2:=by simp
   rw [e4]
   have e5:n^(os.length+2)=n*n^(os.length+1):=by rw [Nat.pow_succ,Nat.mul_comm]
   rw [e5] at e2 ⊢
   generalize n^(os.length+1)=p at *
   generalize (v*(n:Int)^((os++[z]).length+1)+t*hv t n (os++[z])).natAbs=W at *
   obtain ⟨C,rfl⟩:∃ C,B=C+1:=⟨B-1,by omega⟩
   have e6:(C+1)*n*(z.natAbs*p)=C*z.natAbs*(n*p)+z.natAbs*(n*p):=by
    grind
   have e7:C+1-1=C:=rfl
   rw [e7] at e2
   omega
theorem su {t n x y:Int}:∀ (a b c:List Int),a.length=c.length->b.length=c.length->(∀ k,cf c k=x*cf a k+y*cf b k)->hv t n c=x*hv t n a+y*hv t n b
 | [],[],[],_,_,_=>by simp [nV]
 | u::a,v::b,w::c,ha,hb,h=>by
   have h0:w=x*u+y*v:=h 0
   have ih:=su (t:=t) (n:=n) (x:=x) (y:=y) a b c (by simpa using ha) (by simpa using hb) (fun k=>h (k+1))
   have la:a.length=c.length:=by simpa using ha
   have lb:b.length=c.length:=by simpa using hb
   rw [dz,dz,dz,ih,h0,la,lb]
   generalize n^(c.length+1)=p
   grind
 | [],_::_,[],_,h,_=>by simp at h
 | _::_,_,[],h,_,_=>by simp at h
 | [],_,_::_,h,_,_=>by simp at h
 | _::_,[],_::_,_,h,_=>by simp at h
theorem zl (t n g:Int) (l:List Int):hv t n (scL g l)=g*hv t n l:=by
 have:=su (t:=t) (n:=n) (x:=g) (y:=0) l l (scL g l) (by rw [b9]) (by rw [b9]) (fun k=>by rw [bF];simp)
 rw [this];simp
theorem zh (t n:Int):∀ (k:Nat) (l:List Int),hv t n (l++List.replicate k 0)=n^k*hv t n l
 | k,[]=>by
   rw [List.nil_append,nV,Int.mul_zero]
   induction k with
   | zero=>rfl
   | succ k ih=>rw [List.replicate_succ,dz,ih];simp
 | k,v::l=>by
   rw [List.cons_append,dz,zh t n k l,dz]
   have:(l++List.replicate k (0:Int)).length+1=l.length+1+k:=by simp;omega
   rw [this,Int.pow_add]
   generalize n^(l.length+1)=p
   generalize n^k=q
   grind
theorem J8 (l:List Int) (k j:Nat):cf (l++List.replicate k 0) j=cf l j:=by
 by_cases h:j<l.length
 ·rw [Ap h]
 ·rw [lG (by omega),lC,cs (by omega)]
theorem nX (t n:Int) {b:List Int} (hb:b≠[]):∀ {a:List Int},a≠[]->n*hv t n (af a b)=hv t n a*hv t n b
 | [x],_=>by
   have e:af [x] b=scL x b:=by
    apply dL
    ·rw [bI (by simp) hb,b9];simp
    ·intro k _;rw [aM,fu,bF]
   rw [e,zl,ld]
   grind
 | x::y::a,_=>by
   have ih:=nX t n hb (a:=y::a) (by simp)
   have lm:(af (x::y::a) b).length=(y::a).length+b.length:=by rw [bI (by simp) hb,List.length_cons];omega
   have lm2:(af (y::a) b).length+1=(y::a).length+b.length:=by
    rw [bI (by simp) hb];have:=List.length_pos_iff.mpr hb;rw [List.length_cons];omega
   have e:=su (t:=t) (n:=n) (x:=x) (y:=1) (b++List.replicate (y::a).length 0) (0::af (y::a) b) (af (x::y::a) b) (by rw [lm,List.length_append,List.length_replicate];omega) (by rw [lm,List.length_cons,lm2])
    (fun k=>by rw [aM,dF,J8,oq];rw [Int.one_mul];congr 1;unfold up;split<;>first | rfl | rw [aM])
   rw [e,zh,dz (v:=0),dz (v:=x)]
   have:n*(x*(n^(y::a).length*hv t n b)+1*(0*n^((af (y::a) b).length+1)+t*hv t n (af (y::a) b)))=x*(n^(y::a).length*n)*hv t n b+t*(n*hv t n (af (y::a) b)):=by grind
   rw [this,ih,<- Int.pow_succ]
   grind
def pr (t n:Int):List (List Int)->Int
 | []=>1
 | s::ss=>hv t n s*pr t n ss
def sl:List (List Int)->Nat
 | []=>0
 | s::ss=>s.length+sl ss
theorem jH {a b:List Int} (ha:a≠[]) (hb:b≠[]):af a b≠[]:=fun z=>by
 have:=bI ha hb
 rw [z] at this
 have h1:=List.length_pos_iff.mpr ha
 have h2:=List.length_pos_iff.mpr hb
 rw [List.length_nil] at this
 omega
def aP (acc:List Int) (ss:List (List Int)):List Int:=ss.foldl af acc
theorem jv:∀ (ss:List (List Int)) (acc:List Int),acc≠[]->Tr acc->(∀ s∈ss,s≠[]/\Tr s)->aP acc ss≠[]/\Tr (aP acc ss)/\(aP acc ss).length+ss.length=acc.length+sl ss
 | [],acc,h1,h2,_=>⟨h1,h2,by simp [aP,sl]⟩
 | s::ss,acc,h1,h2,h3=>by
   have hs:=h3 s (List.mem_cons_self ..)
   obtain ⟨a,b,c⟩:=jv ss (af acc s) (jH h1 hs.1) (mr h2 hs.2) (fun x hx=>h3 x (List.mem_cons_of_mem _ hx))
   refine ⟨a,b,?_⟩
   have l:=bI h1 hs.1
   have p1:=List.length_pos_iff.mpr h1
   have p2:=List.length_pos_iff.mpr hs.1
   show (aP (af acc s) ss).length+(ss.length+1)=acc.length+(s.length+sl ss)
   omega
theorem nU (t n:Int):∀ (ss:List (List Int)) (acc:List Int),acc≠[]->(∀ s∈ss,s≠[])->n^ss.length*hv t n (aP acc ss)=hv t n acc*pr t n ss
 | [],acc,_,_=>by show n^0*hv t n acc=hv t n acc*1;simp
 | s::ss,acc,h1,h3=>by
   have hs:=h3 s (List.mem_cons_self ..)
   have ih:=nU t n ss (af acc s) (jH h1 hs) (fun x hx=>h3 x (List.mem_cons_of_mem _ hx))
   have e:=nX t n hs h1
   show n^(ss.length+1)*hv t n (aP (af acc s) ss)=hv t n acc*(hv t n s*pr t n ss)
   rw [Int.pow_succ,Int.mul_comm _ n,Int.mul_assoc,ih,<- Int.mul_assoc,e,Int.mul_assoc]
theorem IW {c:Int} {ss:List (List Int)} {B n:Nat} {t:Int} (hc:c≠0) (hs:∀ s∈ss,s≠[]/\Tr s) (hB:1<=B)
 (hb:∀ x∈(af [c] (aP [1] ss)).take ((af [c] (aP [1] ss)).length-1),x.natAbs<=(B-1)*(ao (af [c] (aP [1] ss))).natAbs) (hn:0<n) (ht:B*n<=t.natAbs):n^sl ss<=(pr t n ss).natAbs:=by
 obtain ⟨p1,p2,p3⟩:=jv ss [1] (by simp) (by intro k hk;have:k=0:=by simpa using hk.symm
                                            subst this;decide) hs
 have hm:=nU t n ss [1] (by simp) (fun s h=>(hs s h).1)
 generalize aP [1] ss=Pr at *
 have hne:af [c] Pr≠[]:=jH (by simp) p1
 have hl:=rX (a:=[c]) (b:=Pr) (by simp) p1
 have hlen:=bI (a:=[c]) (b:=Pr) (by simp) p1
 have hv1:=nX t n p1 (a:=[c]) (by simp)
 obtain ⟨os,z,e⟩:=(cK (af [c] Pr)).resolve_left hne
 rw [e] at hb hl hv1 hlen
 rw [dk] at hb hl
 have ht2:(os++[z]).take ((os++[z]).length-1)=os:=by simp
 rw [ht2] at hb
 have hcau:=Ar hn hB ht z os hb
 have hlp:ao Pr≠0:=yW p2 p1
 have hz:z=c*ao Pr:=hl
 rw [ld] at hv1
 have hn0:(n:Int)≠0:=by omega
 have e2:hv t n (os++[z])=c*hv t n Pr:=by
  refine Int.eq_of_mul_eq_mul_left hn0 ?_
  rw [hv1];grind
 rw [e2,hz,Int.natAbs_mul,Int.natAbs_mul,Nat.mul_assoc] at hcau
 have hc1:0<c.natAbs:=Int.natAbs_pos.mpr hc
 have h4:=Nat.le_of_mul_le_mul_left hcau hc1
 have h5:1*n^(os.length+1)<=(ao Pr).natAbs*n^(os.length+1):=Nat.mul_le_mul_right _ (Int.natAbs_pos.mpr hlp)
 have h6:os.length+1=Pr.length:=by simp at hlen;omega
 rw [h6] at h4 h5
 have h7:n^Pr.length<=(hv t n Pr).natAbs:=by omega
 have h8:(n^ss.length*n^Pr.length)<=n*(pr t n ss).natAbs:=by
  have h9:=Nat.mul_le_mul_left (n^ss.length) h7
  have h10:n^ss.length*(hv t n Pr).natAbs=n*(pr t n ss).natAbs:=by
   have:=congrArg Int.natAbs hm
   rw [Int.natAbs_mul,Int.natAbs_pow,Int.natAbs_natCast,ld,Int.one_mul,Int.natAbs_mul,Int.natAbs_natCast] at this
   exact this
  omega
 rw [<- Nat.pow_add] at h8
 have h11:ss.length+Pr.length=sl ss+1:=by simp at p3;omega
 rw [h11,Nat.pow_succ,Nat.mul_comm] at h8
 exact Nat.le_of_mul_le_mul_left h8 hn
end RM
namespace RM
theorem mz {r:List Int} (h:Tr r):cG [] r=scL (-1) r:=by
 refine lv (fj _) (j6 (by decide) h) fun k=>?_
 unfold cG
 rw [gj,gQ,bF,cq];omega
theorem JV {a b:List Int} (hb:b≠[]) (hbt:Tr b):0<ca a b:=by
 have h:=lw (a:=a) hb hbt
 have h2:0<=ca a b:=by
  unfold ca
  generalize aY a b=n
  induction n with
  | zero=>rw [Int.pow_zero];decide
  | succ n ih=>rw [Int.pow_succ];exact Int.mul_nonneg ih (Int.natCast_nonneg _)
 omega
theorem xr {n:Nat} {one:List Int} (h:one≠[]) (hn:0<n):bC n one []=[one]:=by
 obtain ⟨m,rfl⟩:∃ m,n=m+1:=⟨n-1,by omega⟩
 show (if one=[] then [] else one::bC m [] (nxt one []))=_
 rw [if_neg h,kq]
def Ends:Nat->List Int->List Int->Prop
 | 0,one,_=>one=[]
 | n+1,one,other=>one=[]\/Ends n other (nxt one other)
def gr (B:Nat):Nat->Nat
 | 0=>B
 | 1=>2*B
 | k+2=>2*gr B (k+1)+gr B k
theorem HK (B:Nat):∀ k,gr B k<=gr B (k+1)
 | 0=>by show B<=2*B;omega
 | k+1=>by show gr B (k+1)<=2*gr B (k+1)+gr B k;omega
theorem fE (B:Nat) {j k:Nat} (h:j<=k):gr B j<=gr B k:=by
 induction h with
 | refl=>exact Nat.le_refl _
 | step _ ih=>exact Nat.le_trans ih (HK B _)
theorem sv (B j:Nat):∀ d,gr B j+(d+2)*gr B (j+1)<=gr B (j+2+d)
 | 0=>by show gr B j+2*gr B (j+1)<=2*gr B (j+1)+gr B j;omega
 | d+1=>by
   have ih:=sv B j d
   have e:gr B (j+2+(d+1))=2*gr B (j+2+d)+gr B (j+1+d):=by
    have:j+2+(d+1)=(j+1+d)+2:=by omega
    rw [this]
    show 2*gr B (j+1+d+1)+gr B (j+1+d)=_
    have e2:j+1+d+1=j+2+d:=by omega
    rw [e2]
   have hm:gr B (j+1)<=gr B (j+1+d):=fE B (by omega)
   rw [e,Nat.add_mul] at *
   have e3:(d+1)*gr B (j+1)=d*gr B (j+1)+gr B (j+1):=by rw [Nat.add_mul,Nat.one_mul]
   omega
end RM
namespace RM
theorem fV (a:List Int):af [] a=[]:=by unfold af;rw [if_pos (.inl rfl)]
theorem gG (a:List Int):af a []=[]:=by unfold af;rw [if_pos (.inr rfl)]
theorem kK (a b:List Int):af a b=af b a:=by
 by_cases ha:a=[]
 ·rw [ha,fV,gG]
 by_cases hb:b=[]
 ·rw [hb,fV,gG]
 refine dL ?_ fun k _=>?_
 ·rw [bI ha hb,bI hb ha];omega
 ·rw [aM,aM,fU]
theorem jG {a b:List Int} (ha:a≠[]) (hb:b≠[]):af a b≠[]:=fun z=>by
 have:=bI ha hb
 rw [z,List.length_nil] at this
 have:=List.length_pos_iff.mpr ha
 have:=List.length_pos_iff.mpr hb
 omega
theorem gH (a b c:List Int):af (af a b) c=af a (af b c):=by
 by_cases ha:a=[]
 ·rw [ha,fV,fV,fV]
 by_cases hb:b=[]
 ·rw [hb,fV,gG,fV]
 by_cases hc:c=[]
 ·rw [hc,gG,gG,gG]
 have h1:=jG ha hb
 have h2:=jG hb hc
 refine dL ?_ fun k _=>?_
 ·have:=List.length_pos_iff.mpr hb
  rw [bI h1 hc,bI ha h2,bI ha hb,bI hb hc];omega
 ·rw [aM,aM,jF]
instance:Std.Commutative af:=⟨kK⟩
instance:Std.Associative af:=⟨gH⟩
theorem kL (a:List Int):af [1] a=a:=by
 by_cases ha:a=[]
 ·rw [ha,gG]
 refine dL ?_ fun k _=>?_
 ·rw [bI (by simp) ha];simp
 ·rw [aM,fu];omega
theorem cJ (a:List Int):af a [1]=a:=by rw [kK,kL]
theorem pln_one:Pln [1]:=⟨tr_snoc (r:=[]).mpr (by decide),by simp,by decide,by decide⟩
theorem xU {a:List Int} (h:Pln a):1<=a.length:=List.length_pos_iff.mpr h.ne
def Sim (a b:List Int):Prop:=∃ x y:Int,x≠0/\y≠0/\∀ n,x*cf a n=y*cf b n
theorem Sim.refl (a:List Int):Sim a a:=⟨1,1,by decide,by decide,fun _=>rfl⟩
theorem Sim.dv {a b d:List Int} (h:Sim a b) (hd:Dv d b):Dv d a:=by
 obtain ⟨x,y,hx,hy,e⟩:=h
 exact Dv.prop_right hx e hd
theorem Sim.symm {a b:List Int} (h:Sim a b):Sim b a:=by
 obtain ⟨x,y,hx,hy,e⟩:=h
 exact ⟨y,x,hy,hx,fun n=>(e n).symm⟩
theorem Dv.cancel {d a b:List Int} (hd:d≠[]) (ht:Tr d) (h:Dv (af d a) (af d b)):Dv a b:=by
 obtain ⟨c,q,hc,e⟩:=h
 have key:∀ k,cf (dI (-1) (scL c b) (af q a)) k=0:=by
  refine yv hd ht fun n _=>?_
  rw [d6 (a:=b) (b:=af q a) (x:=c) (y := -1) (fun k=>by rw [gQ,bF])]
  have e1:av (af q a) d n=av q (af d a) n:=by
   rw [<- aM,<- aM]
   congr 1
   rw [gH,kK a d]
  have e2:=e n
  rw [aM,fU] at e2
  rw [e1,<- e2];omega
 refine ⟨c,q,hc,fun n=>?_⟩
 have:=key n
 rw [gQ,bF,aM] at this
 omega
theorem DI {d a b:List Int} (hd:Pln d) (ha:Pln a) (hb:Pln b) (h:af d a=af d b):a=b :=
 qX ha hb (Dv.cancel hd.ne hd.tr (h ▸ Dv.refl _)) (Dv.cancel hd.ne hd.tr (h ▸ Dv.refl _))
def prd (ss:List (List Int)):List Int:=ss.foldr af [1]
theorem zx:∀ (ss:List (List Int)) (acc:List Int),ss.foldl af acc=af acc (prd ss)
 | [],acc=>(cJ acc).symm
 | s::ss,acc=>by
   show ss.foldl af (af acc s)=af acc (af s (prd ss))
   rw [zx ss,gH]
theorem ig:∀ (ss:List (List Int)),(∀ s∈ss,Pln s)->Pln (prd ss)
 | [],_=>pln_one
 | s::ss,h=>(h s (List.mem_cons_self ..)).mul (ig ss fun x hx=>h x (List.mem_cons_of_mem _ hx))
structure Pri (s:List Int):Prop where
 pln:Pln s
 two:2<=s.length
 or:∀ a b,Dv s (af a b)->Dv s a\/Dv s b
theorem Pri.not_one {s:List Int} (h:Pri s):¬ Dv s [1]:=fun z=>by
 have:=Dv.short h.pln.ne h.pln.tr pln_one.tr (by have:=h.two;show 1<s.length;omega) z
 exact absurd this (by simp)
theorem Pri.prd {s:List Int} (h:Pri s):∀ ss:List (List Int),Dv s (prd ss)->∃ t∈ss,Dv s t
 | [],hd=>absurd hd h.not_one
 | t::ss,hd=>by
   rcases h.or t (RM.prd ss) hd with z | z
   ·exact ⟨t,List.mem_cons_self ..,z⟩
   ·obtain ⟨t',ht,z'⟩:=Pri.prd h ss z
    exact ⟨t',List.mem_cons_of_mem _ ht,z'⟩
theorem Pri.same {s t:List Int} (hs:Pri s) (ht:Pri t) (h:Dv s t):s=t:=by
 obtain ⟨q,hq,e⟩:=h.fellow hs.pln ht.pln.tr ht.pln.ne
 rw [ht.pln.plain] at e
 have l:=bI hq.ne hs.pln.ne
 rw [e] at l
 have:=hs.two
 have:=xU hq
 rcases ht.or q s (e ▸ Dv.refl _) with z | z
 ·exact absurd (Dv.short ht.pln.ne ht.pln.tr hq.tr (by omega) z) hq.ne
 ·exact qX hs.pln ht.pln h z
theorem oj:∀ (ps:List (List Int)) {E:List Int},(∀ p∈ps,Pri p)->Pln E->Dv E (prd ps)->E=[1]\/∃ p∈ps,Dv p E
 | [],E,_,hE,h=>by
   refine .inl (hE.const ?_)
   have:=xU hE
   refine Classical.byContradiction fun z=>?_
   have:=Dv.short hE.ne hE.tr pln_one.tr (by show 1<E.length;omega) h
   exact absurd this (by simp)
 | p::ps,E,hp,hE,h=>by
   obtain ⟨c,q,hc,e⟩:=h
   have P:=hp p (List.mem_cons_self ..)
   have d1:Dv p (af q E):=Dv.prop_right (x:=1) (y:=c) (by decide) (fun n=>by
    show 1*cf (af q E) n=c*cf (RM.prd (p::ps)) n
    rw [e,aM];omega) (Dv.mul_left p (prd ps))
   rcases P.or q E d1 with z | z
   ·obtain ⟨c',q',hc',e'⟩:=z
    have d2:Dv (af p E) (af p (prd ps)):=by
     refine ⟨c*c',q',Int.mul_ne_zero hc hc',fun n=>?_⟩
     have e1:=e n
     rw [show af p (prd ps)=RM.prd (p::ps) from rfl]
     have e2:av (af q' p) E n=c'*av q E n:=by
      have:=d6 (a:=q) (b:=[]) (x:=c') (y:=0) (c:=af q' p) (q:=E) (n:=n) (fun k=>by rw [aM,<- e'];simp)
      rw [this];simp
     rw [<- jF,e2,<- e1,Int.mul_comm c c',Int.mul_assoc]
    rcases oj ps (fun x hx=>hp x (List.mem_cons_of_mem _ hx)) hE (Dv.cancel P.pln.ne P.pln.tr d2) with w | ⟨t,ht,w⟩
    ·exact .inl w
    ·exact .inr ⟨t,List.mem_cons_of_mem _ ht,w⟩
   ·exact .inr ⟨p,List.mem_cons_self ..,z⟩
theorem J2 {A B C D L M:List Int} {ps:List (List Int)} (hC:Pln C) (cA:Dv C A) (cB:Dv C B) (call:∀ d,Dv d A->Dv d B->Dv d C) (hD:Pln D) (sA:Sim A (af D L)) (sB:Sim B (af D M)) (hps:∀ p∈ps,Pri p) (hL:L=prd ps) (hM:∀ p∈ps,¬ Dv p M):C=D:=by
 have dC:Dv D C:=call D (sA.dv (Dv.mul_left _ _)) (sB.dv (Dv.mul_left _ _))
 obtain ⟨E,hE,e⟩:=dC.fellow hD hC.tr hC.ne
 rw [hC.plain,kK] at e
 have EL:Dv E L:=Dv.cancel hD.ne hD.tr (by rw [e];exact sA.symm.dv cA)
 have EM:Dv E M:=Dv.cancel hD.ne hD.tr (by rw [e];exact sB.symm.dv cB)
 rw [hL] at EL
 rcases oj ps hps hE EL with z | ⟨p,hp,z⟩
 ·rw [<- e,z,cJ]
 ·exact absurd (z.trans EM) (hM p hp)
theorem x5 {A D L:List Int} (hA:Tr A) (hAn:A≠[]) (hD:Pln D) (hL:Pln L) (e:aC A=af D L):aN A D=[]/\aC (bZ A D)=L:=by
 have dv:Dv D A:=(Dv.plain hA).mp (by rw [e];exact Dv.mul_left _ _)
 have hr:=dv.rest hD.ne hD.tr
 refine ⟨hr,?_⟩
 have eq:=fun n=>gM (a:=A) hD.ne n
 have m:=xV (lw (a:=A) hD.ne hD.tr) hA hAn (tK hD.ne hA hD.tr) hD (fun n=>by rw [eq n,hr,cq];omega)
 have hq:bZ A D≠[]:=fun z=>by
  rw [z] at m
  have:aC []=[]:=rfl
  rw [this,fV,e] at m
  exact jG hD.ne hL.ne m.symm
 have pq:=eK (tK hD.ne hA hD.tr) hq
 refine DI hD pq hL ?_
 rw [kK,m,e]
theorem ei (l:List Int) (n:Nat):cf (slopeL l) n=((n:Int)+1)*cf l (n+1):=by
 unfold slopeL
 rw [lE]
 by_cases h:n<l.length-1
 ·rw [if_pos h]
 ·rw [if_neg h,cs (l:=l) (by omega),Int.mul_zero]
theorem wY (x:Int) (a:List Int) (n:Nat):cf (slopeL (x::a)) n=1*cf a n+1*cf (0::slopeL a) n:=by
 rw [ei,oo,oq]
 cases n with
 | zero=>show (((0:Nat):Int)+1)*cf a 0=1*cf a 0+1*0;omega
 | succ n =>
   show (((n+1:Nat):Int)+1)*cf a (n+1)=1*cf a (n+1)+1*cf (slopeL a) n
   rw [ei]
   have:((n+1:Nat):Int)=(n:Int)+1:=by omega
   rw [this,Int.add_mul];omega
theorem oY:∀ (a b:List Int) (n:Nat),cf (slopeL (af a b)) n=av (slopeL a) b n+av a (slopeL b) n
 | [],b,n=>by
   rw [fV]
   show cf (slopeL []) n=av (slopeL []) b n+av [] (slopeL b) n
   have:slopeL []=[]:=rfl
   rw [this,cq,d5,d5];omega
 | x::a,b,n=>by
   rw [ei,aM,dF,d6 (q:=b) (wY x a),yw,dF,ei]
   show ((n:Int)+1)*(x*cf b (n+1)+av a b n)=_
   cases n with
   | zero =>
     show (((0:Nat):Int)+1)*(x*cf b 1+av a b 0)=1*av a b 0+1*0+(x*((((0:Nat):Int)+1)*cf b 1)+0)
     simp
     omega
   | succ n =>
     have ih:=oY a b n
     rw [ei,aM] at ih
     show (((n+1:Nat):Int)+1)*(x*cf b (n+1+1)+av a b (n+1))=1*av a b (n+1)+1*av (slopeL a) b n+(x*((((n+1:Nat):Int)+1)*cf b (n+1+1))+av a (slopeL b) n)
     have:((n+1:Nat):Int)=(n:Int)+1:=by omega
     rw [this]
     generalize av a b (n+1)=z at *
     generalize av (slopeL a) b n=z1 at *
     generalize av a (slopeL b) n=z2 at *
     generalize cf b (n+1+1)=z3 at *
     generalize (n:Int)=m at *
     grind
def pw (s:List Int):Nat->List Int
 | 0=>[1]
 | n+1=>af s (pw s n)
theorem fN (s:List Int):pw s 1=s:=cJ s
theorem xN (s:List Int):∀ a b,af (pw s a) (pw s b)=pw s (a+b)
 | 0,b=>by rw [Nat.zero_add];exact kL _
 | a+1,b=>by
   rw [show a+1+b=a+b+1 by omega]
   show af (af s (pw s a)) (pw s b)=af s (pw s (a+b))
   rw [gH,xN s a b]
theorem xK {s:List Int} (h:Pln s):∀ n,Pln (pw s n)
 | 0=>pln_one
 | n+1=>h.mul (xK h n)
theorem wW (s:List Int):∀ (k n:Nat),cf (slopeL (pw s (k+1))) n=((k:Int)+1)*av (slopeL s) (pw s k) n
 | 0,n=>by
   rw [fN]
   show _=(((0:Nat):Int)+1)*av (slopeL s) [1] n
   rw [fU,fu];omega
 | k+1,n=>by
   show cf (slopeL (af s (pw s (k+1)))) n=_
   rw [oY]
   have e:av s (slopeL (pw s (k+1))) n=((k:Int)+1)*av s (af (slopeL s) (pw s k)) n:=kJ fun j=>by rw [wW s k j,aM]
   have e2:av s (af (slopeL s) (pw s k)) n=av (slopeL s) (pw s (k+1)) n:=by
    show _=av (slopeL s) (af s (pw s k)) n
    rw [<- aM,<- aM]
    congr 1
    ac_rfl
   rw [e,e2]
   have:((k+1:Nat):Int)=(k:Int)+1:=by omega
   rw [this,Int.add_mul ((k:Int)+1) 1];omega
def fP (g:Nat->Nat) (us:List (List Int×Nat)):List Int:=us.foldr (fun p acc=>af (pw p.1 (g p.2)) acc) [1]
theorem fc (g:Nat->Nat) (p:List Int×Nat) (us:List (List Int×Nat)):fP g (p::us)=af (pw p.1 (g p.2)) (fP g us):=rfl
theorem tG (g h:Nat->Nat):∀ us,af (fP g us) (fP h us)=fP (fun m=>g m+h m) us
 | []=>kL _
 | p::us=>by
   rw [fc,fc,fc,<- tG g h us,<- xN]
   ac_rfl
theorem jO {g h:Nat->Nat}:∀ us:List (List Int×Nat),(∀ p∈us,g p.2=h p.2)->fP g us=fP h us
 | [],_=>rfl
 | p::us,H=>by
   rw [fc,fc,H p (List.mem_cons_self ..),jO us fun x hx=>H x (List.mem_cons_of_mem _ hx)]
theorem zF {g:Nat->Nat}:∀ us:List (List Int×Nat),(∀ p∈us,Pri p.1)->Pln (fP g us)
 | [],_=>pln_one
 | p::us,h=>(xK (h p (List.mem_cons_self ..)).pln _).mul (zF us fun x hx=>h x (List.mem_cons_of_mem _ hx))
theorem zE (c:Nat->Bool):∀ us:List (List Int×Nat),fP (fun m=>if c m then 1 else 0) us=prd ((us.filter fun p=>c p.2).map (·.1))
 | []=>rfl
 | p::us=>by
   rw [fc,zE c us,List.filter_cons]
   cases h:c p.2 with
   | true =>
     simp only [if_true,List.map_cons]
     rw [fN];rfl
   | false =>
     simp only [Bool.false_eq_true,if_false]
     exact kL _
theorem zG {g:Nat->Nat}:∀ (us:List (List Int×Nat)) {p:List Int×Nat},p∈us->0<g p.2->Dv p.1 (fP g us)
 | q::us,p,hp,h0=>by
   rw [fc]
   rcases List.mem_cons.mp hp with rfl | hp
   ·obtain ⟨k,hk⟩:∃ k,g p.2=k+1:=⟨g p.2-1,by omega⟩
    rw [hk]
    show Dv p.1 (af (af p.1 (pw p.1 k)) _)
    rw [gH]
    exact Dv.mul_left _ _
   ·exact (zG us hp h0).trans (Dv.mul_right _ _)
theorem Pri.pw {s t:List Int} (h:Pri s):∀ n,Dv s (pw t n)->0<n/\Dv s t
 | 0,hd=>absurd hd h.not_one
 | n+1,hd=>by
   refine ⟨by omega,?_⟩
   rcases h.or t (RM.pw t n) hd with z | z
   ·exact z
   ·exact (Pri.pw h n z).2
theorem Pri.fP {s:List Int} (h:Pri s) {g:Nat->Nat}:∀ us:List (List Int×Nat),Dv s (fP g us)->∃ p∈us,0<g p.2/\Dv s p.1
 | [],hd=>absurd hd h.not_one
 | p::us,hd=>by
   rcases h.or (RM.pw p.1 (g p.2)) (RM.fP g us) hd with z | z
   ·exact ⟨p,List.mem_cons_self ..,(h.pw _ z)⟩
   ·obtain ⟨q,hq,z'⟩:=Pri.fP h us z
    exact ⟨q,List.mem_cons_of_mem _ hq,z'⟩
structure Use (us:List (List Int×Nat)):Prop where
 pri:∀ p∈us,Pri p.1
 pos:∀ p∈us,1<=p.2
 nd:(us.map (·.1)).Nodup
theorem Use.tail {p:List Int×Nat} {us:List (List Int×Nat)} (h:Use (p::us)):Use us :=
 ⟨fun x hx=>h.pri x (List.mem_cons_of_mem _ hx),fun x hx=>h.pos x (List.mem_cons_of_mem _ hx),(List.nodup_cons.mp h.nd).2⟩
theorem Use.head {p q:List Int×Nat} {us:List (List Int×Nat)} (h:Use (p::us)) (hq:q∈us):p.1≠q.1:=fun z =>
 (List.nodup_cons.mp h.nd).1 (List.mem_map.mpr ⟨q,hq,z.symm⟩)
theorem fZ (l:List Int):(slopeL l).length=l.length-1:=by unfold slopeL;simp
theorem gX {l:List Int} (h:Tr l):Tr (slopeL l):=fun n hn=>by
 rw [fZ] at hn
 rw [ei]
 exact Int.mul_ne_zero (by omega) (h (n+1) (by omega))
theorem wX:∀ us:List (List Int×Nat),Use us->∃ M,(∀ n,cf (slopeL (fP id us)) n=av (fP (·-1) us) M n)/\∀ q∈us,¬ Dv q.1 M
 | [],_=>⟨[],fun n=>by
  show cf (slopeL [1]) n=av [1] [] n
  rw [rD];exact cq n,fun _ h=>nomatch h⟩
 | p::us,h=>by
   obtain ⟨M',e',h'⟩:=wX us h.tail
   obtain ⟨s,m⟩:=p
   have P:Pri s:=h.pri _ (List.mem_cons_self ..)
   obtain ⟨k,hk⟩:∃ k,m=k+1:=⟨m-1,by have:=h.pos _ (List.mem_cons_self ..);simp at this;omega⟩
   subst hk
   have eF:fP id us=af (fP (·-1) us) (fP (fun _=>1) us):=by
    rw [tG]
    exact jO us fun p hp=>by have:=h.tail.pos p hp;show p.2=p.2-1+1;omega
   have hX:∀ n,cf (dI 1 (af (scL ((k:Int)+1) (slopeL s)) (fP (fun _=>1) us)) (af s M')) n=1*cf (af (scL ((k:Int)+1) (slopeL s)) (fP (fun _=>1) us)) n+1*cf (af s M') n:=fun n=>by rw [gQ];omega
   refine ⟨dI 1 (af (scL ((k:Int)+1) (slopeL s)) (fP (fun _=>1) us)) (af s M'),fun n=>?_,fun q hq hd=>?_⟩
   ·rw [fc,fc]
    show cf (slopeL (af (pw s (k+1)) (fP id us))) n=av (af (pw s k) (fP (·-1) us)) _ n
    rw [oY,yx hX]
    have a1:av (slopeL (pw s (k+1))) (fP id us) n=av (af (pw s k) (fP (·-1) us)) (af (scL ((k:Int)+1) (slopeL s)) (fP (fun _=>1) us)) n:=by
     rw [eF]
     have:av (slopeL (pw s (k+1))) (af (fP (·-1) us) (fP (fun _=>1) us)) n=av (af (scL ((k:Int)+1) (slopeL s)) (pw s k)) (af (fP (·-1) us) (fP (fun _=>1) us)) n:=by
      refine nC (fun j=>?_) fun _=>rfl
      rw [wW,aM]
      have:=d6 (a:=slopeL s) (b:=[]) (x:=(k:Int)+1) (y:=0) (c:=scL ((k:Int)+1) (slopeL s)) (q:=pw s k) (n:=j) (fun i=>by rw [bF];simp)
      rw [this];simp
     rw [this,<- aM,<- aM]
     congr 1
     ac_rfl
    have a2:av (pw s (k+1)) (slopeL (fP id us)) n=av (af (pw s k) (fP (·-1) us)) (af s M') n:=by
     rw [nC (a':=pw s (k+1)) (b':=af (fP (·-1) us) M') (fun _=>rfl) (fun j=>by rw [e',aM])]
     show av (af s (pw s k)) _ n=_
     rw [<- aM,<- aM]
     congr 1
     ac_rfl
    rw [a1,a2];omega
   ·have hX':∀ n,1*cf (dI 1 (af (scL ((k:Int)+1) (slopeL s)) (fP (fun _=>1) us)) (af s M')) n=av M' s n+cf (af (scL ((k:Int)+1) (slopeL s)) (fP (fun _=>1) us)) n:=fun n=>by
     rw [hX,aM s,fU s];omega
    rcases List.mem_cons.mp hq with rfl | hq
    ·have d1:=Dv.down hX' hd (Dv.refl _)
     rcases P.or _ _ d1 with z | z
     ·have t:Tr (scL ((k:Int)+1) (slopeL s)):=j6 (by omega) (gX P.pln.tr)
      have l:(scL ((k:Int)+1) (slopeL s)).length=s.length-1:=by rw [b9,fZ]
      have:=P.two
      have n:=Dv.short P.pln.ne P.pln.tr t (by omega) z
      rw [n] at l
      simp at l
      omega
     ·obtain ⟨q',hq',_,w⟩:=P.fP us z
      exact h.head hq' (P.same (h.tail.pri q' hq') w)
    ·have Q:=h.tail.pri q hq
     have d0:Dv q.1 (af (scL ((k:Int)+1) (slopeL s)) (fP (fun _=>1) us)):=(zG us hq (g:=fun _=>1) (by decide)).trans (Dv.mul_right _ _)
     have d1:Dv q.1 (af s M'):=Dv.down (f:=1) (q:=[1]) (fun n=>by rw [hX,fu];omega) hd d0
     rcases Q.or _ _ d1 with z | z
     ·exact h.head hq (Q.same P z).symm
     ·exact h' q hq z
theorem Db {s a b:List Int} (hs:s≠[]) (h:Dv s (af a b)):Dv s (af (aN a s) (aN b s)):=by
 have e1:=fun n=>gM (a:=a) hs n
 have e2:=fun n=>gM (a:=b) hs n
 have d1:Dv s (af (aN a s) b):=by
  refine Dv.down (f:=ca a s) (q:=af (bZ a s) b) (b:=s) (fun n=>?_) h (Dv.refl _)
  rw [aM,aM]
  have l:=d6 (a:=af (bZ a s) s) (b:=aN a s) (x:=1) (y:=1) (c:=scL (ca a s) a) (q:=b) (n:=n) (fun k=>by rw [bF,e1,aM];omega)
  have l2:=d6 (a:=a) (b:=[]) (x:=ca a s) (y:=0) (c:=scL (ca a s) a) (q:=b) (n:=n) (fun k=>by rw [bF];simp)
  have l3:av (af (bZ a s) s) b n=av (af (bZ a s) b) s n:=by
   rw [<- aM,<- aM]
   congr 1
   ac_rfl
  rw [l2,l3] at l
  rw [d5] at l
  omega
 refine Dv.down (f:=ca b s) (q:=af (aN a s) (bZ b s)) (b:=s) (fun n=>?_) d1 (Dv.refl _)
 rw [aM,aM]
 have l:=yx (a:=af (bZ b s) s) (b:=aN b s) (x:=1) (y:=1) (c:=scL (ca b s) b) (q:=aN a s) (n:=n) (fun k=>by rw [bF,e2,aM];omega)
 have l2:=kJ (a:=aN a s) (b:=b) (b':=scL (ca b s) b) (c:=ca b s) (n:=n) (fun k=>by rw [bF])
 have l3:av (aN a s) (af (bZ b s) s) n=av (af (aN a s) (bZ b s)) s n:=by
  rw [<- aM,<- aM]
  congr 1
  ac_rfl
 rw [l2,l3] at l
 omega
theorem tI {s a:List Int} (hs:s≠[]) (ht:Tr s) (h:aN a s=[]):Dv s a :=
 ⟨ca a s,bZ a s,lw hs ht,fun n=>by rw [gM hs,h,cq];omega⟩
def aK (u e b:Int):List Int:=if e=0 then [-u,b] else [u*u-e,-2*b*u,b*b]
theorem fL {u e b:Int} (hb:1<=b):Tr (aK u e b)/\2<=(aK u e b).length:=by
 unfold aK
 split
 ·exact ⟨(tr_snoc (r:=[-u])).mpr (by omega),by show 2<=2;decide⟩
 ·exact ⟨(tr_snoc (r:=[u*u-e,-2*b*u])).mpr (Int.mul_ne_zero (by omega) (by omega)),by show 2<=3;decide⟩
theorem yh {n e:Int} (hn:0<=n) (h1:n*n<e) (h2:e<(n+1)*(n+1)):∀ (k:Nat) (x y:Int),x.toNat<=k->0<x->0<=y->e*(x*x)=y*y->False
 | 0,x,y,hk,hx,_,_=>by omega
 | k+1,x,y,hk,hx,hy,h=>by
   have hxx:0<x*x:=Int.mul_pos hx hx
   have a1:n*x<y:=by
    refine Int.not_le.mp fun z=>?_
    have:=Int.mul_le_mul z z hy (Int.le_trans hy z)
    have:=Int.mul_lt_mul_of_pos_right h1 hxx
    have e1:n*x*(n*x)=n*n*(x*x):=by grind
    omega
   have a2:y<(n+1)*x:=by
    refine Int.not_le.mp fun z=>?_
    have z0:0<=(n+1)*x:=Int.mul_nonneg (by omega) (by omega)
    have:=Int.mul_le_mul z z z0 hy
    have:=Int.mul_lt_mul_of_pos_right h2 hxx
    have e1:(n+1)*x*((n+1)*x)=(n+1)*(n+1)*(x*x):=by grind
    omega
   have a3:(n+1)*x=n*x+x:=by rw [Int.add_mul];omega
   refine yh hn h1 h2 k (y-n*x) ((e*x-n*y).natAbs:Int) (by omega) (by omega) (by omega) ?_
   rw [Int.natAbs_mul_self' (e*x-n*y)]
   grind
def NS (e:Int):Prop:=e<=0\/∃ n:Int,0<=n/\n*n<e/\e<(n+1)*(n+1)
theorem NS.no {e x y:Int} (h:NS e) (he:e≠0) (hx:x≠0) (eq:x*x*e=y*y):False:=by
 rcases h with h | ⟨n,hn,h1,h2⟩
 ·have hxx:0<x*x:=by
   rcases Int.lt_or_gt_of_ne hx with z | z
   ·exact Int.mul_pos_of_neg_of_neg z z
   ·exact Int.mul_pos z z
  have:x*x*e<0:=Int.mul_neg_of_pos_of_neg hxx (by omega)
  have:0<=y*y:=by
   rcases Int.le_total 0 y with z | z
   ·exact Int.mul_nonneg z z
   ·exact Int.mul_nonneg_of_nonpos_of_nonpos z z
  omega
 ·refine yh hn h1 h2 _ (x.natAbs:Int) (y.natAbs:Int) (Nat.le_refl _) (by omega) (by omega) ?_
  rw [Int.natAbs_mul_self' x,Int.natAbs_mul_self' y,<- eq,Int.mul_comm]
theorem Dl {u e b:Int} (hb:1<=b) (he:NS e) {p q:List Int} (h:Dv (aK u e b) (af p q)):Dv (aK u e b) p\/Dv (aK u e b) q:=by
 obtain ⟨tr,l2⟩:=fL (u:=u) (e:=e) hb
 have hne:aK u e b≠[]:=fun z=>by rw [z] at l2;simp at l2
 by_cases hp:aN p (aK u e b)=[]
 ·exact .inl (tI hne tr hp)
 by_cases hq:aN q (aK u e b)=[]
 ·exact .inr (tI hne tr hq)
 exfalso
 have d:=Db hne h
 have t1:=fF p (aK u e b)
 have t2:=fF q (aK u e b)
 have n1:=gf (a:=p) hne
 have n2:=gf (a:=q) hne
 generalize aN p (aK u e b)=r1 at *
 generalize aN q (aK u e b)=r2 at *
 have lm:=bI hp hq
 have p1:=List.length_pos_iff.mpr hp
 have p2:=List.length_pos_iff.mpr hq
 by_cases hs:(af r1 r2).length<(aK u e b).length
 ·exact jG hp hq (Dv.short hne tr (mr t1 t2) hs d)
 by_cases h0:e=0
 ·have:(aK u e b).length=2:=by unfold aK;rw [if_pos h0];rfl
  omega
 have er:aK u e b=[u*u-e,-2*b*u,b*b]:=by unfold aK;rw [if_neg h0]
 rw [er] at hs n1 n2 d hne tr
 simp only [List.length_cons,List.length_nil] at hs n1 n2
 obtain ⟨α,β,rfl⟩:∃ α β,r1=[α,β]:=by
  match r1,(show r1.length=2 by omega) with
  | [α,β],_=>exact ⟨α,β,rfl⟩
 obtain ⟨γ,δ,rfl⟩:∃ γ δ,r2=[γ,δ]:=by
  match r2,(show r2.length=2 by omega) with
  | [γ,δ],_=>exact ⟨γ,δ,rfl⟩
 have hβ:β≠0:=(tr_snoc (r:=[α])).mp t1
 have hδ:δ≠0:=(tr_snoc (r:=[γ])).mp t2
 have em:af [α,β] [γ,δ]=[α*γ,α*δ+β*γ,β*δ]:=by
  refine dL (by rw [lm];rfl) fun k hk=>?_
  rw [lm] at hk
  rw [aM]
  have hk':k<3:=hk
  have:k=0\/k=1\/k=2:=by omega
  rcases this with rfl | rfl | rfl
  ·show (0+(α*γ))+0=α*γ;omega
  ·show (0+(α*δ))+(β*γ)=α*δ+β*γ;omega
  ·show (0+α*cf [γ,δ] 2)+(β*δ)=β*δ
   have:cf [γ,δ] 2=0:=rfl
   rw [this];simp
 rw [em] at d
 have hr:=d.rest hne tr
 have eqn:=fun n=>gM (a:=[α*γ,α*δ+β*γ,β*δ]) hne n
 have hf:=lw (a:=[α*γ,α*δ+β*γ,β*δ]) hne tr
 have lq:=tM (a:=[α*γ,α*δ+β*γ,β*δ]) hne
 generalize ca [α*γ,α*δ+β*γ,β*δ] [u*u-e,-2*b*u,b*b]=f at *
 generalize bZ [α*γ,α*δ+β*γ,β*δ] [u*u-e,-2*b*u,b*b]=Q at *
 rw [hr] at eqn
 have lq':Q.length=1:=lq
 obtain ⟨κ,rfl⟩:∃ κ,Q=[κ]:=List.length_eq_one_iff.mp lq'
 have g0:=eqn 0
 have g1:=eqn 1
 have g2:=eqn 2
 rw [fu,cq] at g0 g1 g2
 replace g0:f*(α*γ)=κ*(u*u-e)+0:=g0
 replace g1:f*(α*δ+β*γ)=κ*(-2*b*u)+0:=g1
 replace g2:f*(β*δ)=κ*(b*b)+0:=g2
 have hκ:κ≠0:=fun z=>by
  rw [z,Int.zero_mul] at g2
  exact Int.mul_ne_zero hf (Int.mul_ne_zero hβ hδ) (by omega)
 refine he.no h0 (x:=2*κ*b) (y:=f*(α*δ-β*γ)) (Int.mul_ne_zero (Int.mul_ne_zero (by decide) hκ) (by omega)) ?_
 have k1:f*(α*δ-β*γ)*(f*(α*δ-β*γ))=f*(α*δ+β*γ)*(f*(α*δ+β*γ))-4*((f*(α*γ))*(f*(β*δ))):=by grind
 rw [k1,g0,g1,g2]
 grind
theorem Dk {u e b:Int} (hb:1<=b) (he:NS e):Pri (aC (aK u e b)):=by
 obtain ⟨tr,l2⟩:=fL (u:=u) (e:=e) hb
 have hne:aK u e b≠[]:=fun z=>by rw [z] at l2;simp at l2
 obtain ⟨g,hg,eg⟩:=jx tr
 have to:∀ p,Dv (aC (aK u e b)) p->Dv (aK u e b) p:=fun p h=>Dv.prop_left (x:=1) (y:=g) (by decide) hg (fun n=>by rw [eg];omega) h
 have fr:∀ p,Dv (aK u e b) p->Dv (aC (aK u e b)) p:=fun p h=>Dv.prop_left (x:=g) (y:=1) hg (by decide) (fun n=>by rw [<- eg];omega) h
 refine ⟨eK tr hne,by rw [plain_len];exact l2,fun p q h=>?_⟩
 exact (Dl hb he (to _ h)).imp (fr _) (fr _)
end RM
namespace RM
def com (xs ys:List Int):List Int:=cF 20 (aC xs) (aC ys)
structure ComOk (xs ys:List Int):Prop where
 pln:xs≠[]\/ys≠[]->Pln (com xs ys)
 left:Dv (com xs ys) xs
 right:Dv (com xs ys) ys
 all:∀ d,Dv d xs->Dv d ys->Dv d (com xs ys)
theorem zV {xs ys:List Int} (h2:ys.length<=19) (t1:Tr xs) (t2:Tr ys):ComOk xs ys:=by
 obtain ⟨c1,c2,c3,c4,c5,c6⟩:=zW 20 (aC xs) (aC ys) (by rw [plain_len];omega) (gC t1) (gC t2)
 refine ⟨fun h=>?_,(Dv.plain t1).mp c2,(Dv.plain t2).mp c3,fun d a b=>c4 d ((Dv.plain t1).mpr a) ((Dv.plain t2).mpr b)⟩
 have hne:com xs ys≠[]:=c5 (h.imp (fun z q=>z (List.length_eq_zero_iff.mp (by rw [<- plain_len,q];rfl))) (fun z q=>z (List.length_eq_zero_iff.mp (by rw [<- plain_len,q];rfl))))
 obtain ⟨l,tl,el⟩:∃ l,Tr l/\com xs ys=aC l:=by
  rcases c6 with e | e | e
  ·exact ⟨xs,t1,e⟩
  ·exact ⟨ys,t2,e⟩
  ·exact e
 have hl:l≠[]:=fun z=>hne (by rw [el,z];rfl)
 rw [el];exact eK tl hl
theorem J3 {A B D L M:List Int} {ps:List (List Int)} (tA:Tr A) (nA:A≠[]) (tB:Tr B) (lB:B.length<=19) (hD:Pln D) (sA:Sim A (af D L)) (sB:Sim B (af D M)) (hps:∀ p∈ps,Pri p) (hL:L=prd ps) (hM:∀ p∈ps,¬ Dv p M):com A B=D :=
 have C:=zV lB tA tB
 J2 (C.pln (.inl nA)) C.left C.right C.all hD sA sB hps hL hM
def eq1 (k m:Nat):Nat:=if m=k then 1 else 0
def rm (_:Nat):Nat:=1
def mor (us:List (List Int×Nat)) (k:Nat):List Int:=fP (·-k) us
def flt (us:List (List Int×Nat)):List Int:=fP rm us
variable {us:List (List Int×Nat)}
theorem zz:flt us=prd (us.map (·.1)):=by
 have:=zE (fun _=>true) us
 have e:us.filter (fun p=>(fun _=>true) p.2)=us:=List.filter_eq_self.mpr fun _ _=>rfl
 rw [e] at this
 rw [<- this]
 exact jO us fun p _=>rfl
theorem iR (h:Use us) (g:Nat->Nat):Pln (fP g us):=zF us h.pri
def whl (c:Int) (us:List (List Int×Nat)):List Int:=af [c] (fP id us)
theorem fi (c:Int):whl c us=scL c (fP id us):=by
 unfold whl
 by_cases h:fP id us=[]
 ·rw [h,gG];rfl
 refine dL ?_ fun k _=>?_
 ·rw [bI (by simp) h,b9];simp
 ·rw [aM,fu,bF]
theorem j4 (h:Use us) {c:Int} (hc:c≠0):Tr (whl c us)/\whl c us≠[]/\aC (whl c us)=fP id us:=by
 have pl:=iR h id
 rw [fi]
 refine ⟨j6 hc pl.tr,fun z=>pl.ne (List.length_eq_zero_iff.mp (by rw [<- b9 c,z];rfl)),?_⟩
 rw [kF hc pl.tr,pl.plain]
theorem vb (h:Use us):af (mor us 1) (flt us)=fP id us:=by
 unfold mor flt
 rw [tG]
 exact jO us fun p hp=>by have:=h.pos p hp;show p.2-1+1=p.2;omega
theorem va (h:Use us) {c:Int} (hc:c≠0) (hl:(whl c us).length<=20):com (whl c us) (slopeL (whl c us))=mor us 1:=by
 obtain ⟨t,n,p⟩:=j4 h hc
 obtain ⟨M,eM,hM⟩:=wX us h
 refine J3 (L:=flt us) (M:=M) (ps:=us.map (·.1)) t n (gX t) (by rw [fZ];omega) (iR h _) ⟨1,c,by decide,hc,fun k=>?_⟩ ⟨1,c,by decide,hc,fun k=>?_⟩ (fun p hp=>?_) zz (fun p hp=>?_)
 ·rw [vb h,fi,bF];omega
 ·rw [aM]
  have e:=eM k
  rw [ei] at e
  show 1*cf (slopeL (whl c us)) k=c*av (fP (·-1) us) M k
  rw [<- e,ei,fi,bF]
  grind
 ·obtain ⟨q,hq,rfl⟩:=List.mem_map.mp hp
  exact h.pri q hq
 ·obtain ⟨q,hq,rfl⟩:=List.mem_map.mp hp
  exact hM q hq
theorem A5 (h:Use us) {c:Int} (hc:c≠0):aN (whl c us) (mor us 1)=[]/\aC (bZ (whl c us) (mor us 1))=flt us:=by
 obtain ⟨t,n,p⟩:=j4 h hc
 exact x5 t n (iR h _) (iR h _) (by rw [p,vb h])
def dgs (g:Nat->Nat):List (List Int×Nat)->Nat
 | []=>0
 | p::us=>g p.2*(p.1.length-1)+dgs g us
theorem zQ {g h:Nat->Nat}:∀ us:List (List Int×Nat),(∀ p∈us,g p.2<=h p.2)->dgs g us<=dgs h us
 | [],_=>Nat.le_refl _
 | p::us,H=>by
   have:=zQ us fun x hx=>H x (List.mem_cons_of_mem _ hx)
   have:=Nat.mul_le_mul_right (p.1.length-1) (H p (List.mem_cons_self ..))
   show g p.2*_+dgs g us<=h p.2*_+dgs h us
   omega
theorem mY {s:List Int} (h:s≠[]):∀ n,(pw s n).length=1+n*(s.length-1)/\pw s n≠[]
 | 0=>⟨by rw [Nat.zero_mul];rfl,by simp [pw]⟩
 | n+1=>by
   obtain ⟨a,b⟩:=mY h n
   have:=List.length_pos_iff.mpr h
   refine ⟨?_,jG h b⟩
   show (af s (pw s n)).length=_
   rw [bI h b,a,Nat.succ_mul];omega
theorem oe (g:Nat->Nat):∀ us:List (List Int×Nat),(∀ p∈us,p.1≠[])->(fP g us).length=1+dgs g us/\fP g us≠[]
 | [],_=>⟨rfl,by simp [fP]⟩
 | p::us,H=>by
   obtain ⟨a,b⟩:=oe g us fun x hx=>H x (List.mem_cons_of_mem _ hx)
   obtain ⟨c,d⟩:=mY (H p (List.mem_cons_self ..)) (g p.2)
   rw [fc]
   refine ⟨?_,jG d b⟩
   rw [bI d b,a,c]
   show _=1+(g p.2*_+dgs g us)
   omega
end RM
namespace RM
def aV (sq due:Int):Int:=if due<0\/due*due<sq then 1 else 0-(if sq<due*due then 1 else 0)
def ak (l:List Int) (t n:Int):Int:=if 0<cf l 3 then aV (cf l 1*n*n) (cf l 2*t-cf l 0*n) else 0-aV (cf l 1*n*n) (0-(cf l 2*t-cf l 0*n))
theorem bU (sq d:Int):(aV sq d=1/\(d<0\/d*d<sq))\/(aV sq d=0/\0<=d/\d*d=sq)\/(aV sq d = -1/\0<=d/\sq<d*d):=by
 unfold aV
 by_cases h:d<0\/d*d<sq
 ·rw [if_pos h];exact .inl ⟨rfl,h⟩
 ·rw [if_neg h]
  by_cases h2:sq<d*d
  ·rw [if_pos h2];exact .inr (.inr ⟨rfl,by omega,h2⟩)
  ·rw [if_neg h2];exact .inr (.inl ⟨rfl,by omega,by omega⟩)
structure Spt (l:List Int):Prop where
 is:∃ u e b s:Int,l=[u,e,b,s]/\0<=e/\1<=b/\(s=1\/s = -1)
theorem gZ {x y:Int} (hx:0<=x) (h:x<=y):x*x<=y*y:=Int.mul_le_mul h h hx (by omega)
theorem oF {x y:Int} (hx:0<=x) (h:x<y):x*x<y*y:=by
 have h1:x*x<=x*y:=Int.mul_le_mul_of_nonneg_left (Int.le_of_lt h) hx
 have h2:x*y<y*y:=Int.mul_lt_mul_of_pos_right h (by omega)
 omega
theorem GA {x y:Int} (hy:0<=y) (h:x*x<y*y):x<y:=Int.not_le.mp fun z=>by
 have:=gZ hy z
 omega
theorem GG {x y:Int} (hy:0<=y) (h:x*x<=y*y):x<=y:=Int.not_lt.mp fun z=>by
 have:=oF hy z
 omega
theorem vI {g sq d:Int} (hg:0<g):aV (sq*(g*g)) (g*d)=aV sq d:=by
 have hgg:0<g*g:=Int.mul_pos hg hg
 have e1:g*d*(g*d)=d*d*(g*g):=by grind
 have e2:(g*d<0)↔d<0:=by
  constructor
  ·intro h
   refine Int.not_le.mp fun z=>?_
   have:=Int.mul_nonneg (Int.le_of_lt hg) z
   omega
  ·intro h;exact Int.mul_neg_of_pos_of_neg hg h
 have e3:∀ x y:Int,(x*(g*g)<y*(g*g))↔x<y:=fun x y=>⟨fun h=>Int.lt_of_mul_lt_mul_right h (Int.le_of_lt hgg),fun h=>Int.mul_lt_mul_of_pos_right h hgg⟩
 unfold aV
 rw [e1]
 simp only [e2,e3]
theorem w5 {g t n:Int} (l:List Int) (hg:0<g):ak l (g*t) (g*n)=ak l t n:=by
 have e1:cf l 1*(g*n)*(g*n)=cf l 1*n*n*(g*g):=by grind
 have e2:cf l 2*(g*t)-cf l 0*(g*n)=g*(cf l 2*t-cf l 0*n):=by grind
 have e3:0-g*(cf l 2*t-cf l 0*n)=g*(0-(cf l 2*t-cf l 0*n)):=by grind
 unfold ak
 rw [e1,e2,e3,vI hg,vI hg]
theorem g7 {t n t' n':Int} (l:List Int) (hn:0<n) (hn':0<n') (e:t*n'=t'*n):ak l t n=ak l t' n':=by
 rw [<- w5 (g:=n') l hn',<- w5 (g:=n) (t:=t') l hn]
 have e1:n'*t=n*t':=by rw [Int.mul_comm,e,Int.mul_comm]
 rw [e1,Int.mul_comm n' n]
theorem dm (l:List Int) (t n:Int):ak l t n=1\/ak l t n=0\/ak l t n = -1:=by
 unfold ak
 split
 ·rcases bU (cf l 1*n*n) (cf l 2*t-cf l 0*n) with h | h | h<;>omega
 ·rcases bU (cf l 1*n*n) (0-(cf l 2*t-cf l 0*n)) with h | h | h<;>omega
theorem dR {l:List Int} (hl:Spt l) {t n t' n':Int} (hn:0<n) (hn':0<n') (h:t*n'<t'*n) (hs:ak l t n<=0):ak l t' n' = -1:=by
 obtain ⟨u,e,b,s,rfl,he,hb,hs1⟩:=hl
 have hlt:(b*t-u*n)*n'<(b*t'-u*n')*n:=by
  have h1:b*(t*n')<b*(t'*n):=Int.mul_lt_mul_of_pos_left h (by omega)
  have e1:(b*t-u*n)*n'=b*(t*n')-u*n*n':=by grind
  have e2:(b*t'-u*n')*n=b*(t'*n)-u*n*n':=by grind
  omega
 have hnn:0<n*n:=Int.mul_pos hn hn
 have hnn':0<n'*n':=Int.mul_pos hn' hn'
 rcases hs1 with rfl | rfl
 ·have z0:(0:Int)<1:=by decide
  have hs:aV (e*n*n) (b*t-u*n)<=0:=hs
  show aV (e*n'*n') (b*t'-u*n') = -1
  generalize b*t-u*n=a at *
  generalize b*t'-u*n'=a' at *
  have k1:0<=a/\e*n*n<=a*a:=by rcases bU (e*n*n) a with h | h | h<;>omega
  have k2:0<=a*n':=Int.mul_nonneg k1.1 (Int.le_of_lt hn')
  have k3:0<a':=Int.lt_of_mul_lt_mul_right (a:=n) (by omega) (Int.le_of_lt hn)
  have k4:=oF k2 hlt
  have k5:e*n*n*(n'*n')<=a*a*(n'*n'):=Int.mul_le_mul_of_nonneg_right k1.2 (Int.le_of_lt hnn')
  have k6:e*n'*n'*(n*n)<a'*a'*(n*n):=by
   have e1:e*n'*n'*(n*n)=e*n*n*(n'*n'):=by grind
   have e2:a'*a'*(n*n)=a'*n*(a'*n):=by grind
   have e3:a*a*(n'*n')=a*n'*(a*n'):=by grind
   omega
  have k7:=Int.lt_of_mul_lt_mul_right k6 (Int.le_of_lt hnn)
  rcases bU (e*n'*n') a' with h | h | h<;>omega
 ·have hs:0-aV (e*n*n) (0-(b*t-u*n))<=0:=hs
  show 0-aV (e*n'*n') (0-(b*t'-u*n')) = -1
  generalize ha:0-(b*t-u*n)=a at *
  generalize ha':0-(b*t'-u*n')=a' at *
  have hlt':a'*n<a*n':=by
   have e1:a'*n = -((b*t'-u*n')*n):=by rw [<- ha'];grind
   have e2:a*n' = -((b*t-u*n)*n'):=by rw [<- ha];grind
   omega
  have k1:a<0\/a*a<=e*n*n:=by rcases bU (e*n*n) a with h | h | h<;>omega
  have k2:a'<0\/a'*a'<e*n'*n':=by
   by_cases z:a'<0
   ·exact .inl z
   right
   have p1:0<=a'*n:=Int.mul_nonneg (by omega) (Int.le_of_lt hn)
   have p2:0<a:=Int.lt_of_mul_lt_mul_right (a:=n') (by omega) (Int.le_of_lt hn')
   have p3:=oF p1 hlt'
   have k5:a*a*(n'*n')<=e*n*n*(n'*n'):=Int.mul_le_mul_of_nonneg_right (by omega) (Int.le_of_lt hnn')
   have k6:a'*a'*(n*n)<e*n'*n'*(n*n):=by
    have e1:e*n'*n'*(n*n)=e*n*n*(n'*n'):=by grind
    have e2:a'*a'*(n*n)=a'*n*(a'*n):=by grind
    have e3:a*a*(n'*n')=a*n'*(a*n'):=by grind
    omega
   exact Int.lt_of_mul_lt_mul_right k6 (Int.le_of_lt hnn)
  rcases bU (e*n'*n') a' with h | h | h<;>omega
def spF (f:List Int):List (List Int):=(if 0<=cf f 1 then [[cf f 0,cf f 1,cf f 2,1]] else [])++(if 0<cf f 1 then [[cf f 0,cf f 1,cf f 2,-1]] else [])
def aJ (fs:List (List Int)):List (List Int):=fs.flatMap spF
def spr (t n:Int):List (List Int)->Int
 | []=>1
 | l::ls => -ak l t n*spr t n ls
theorem jl (t n:Int):∀ a b,spr t n (a++b)=spr t n a*spr t n b
 | [],b=>by show _=1*_;rw [Int.one_mul];rfl
 | x::a,b=>by show _*spr t n (a++b)=_*_*_;rw [jl t n a b,Int.mul_assoc]
theorem oK {f l:List Int} {u e b:Int} (hf:f=[u,e,b]) (hb:1<=b) (h:l∈spF f):Spt l/\∃ s,l=[u,e,b,s]/\0<=e/\(s=1\/s = -1/\0<e):=by
 subst hf
 have hd:spF [u,e,b]=(if 0<=e then [[u,e,b,1]] else [])++(if 0<e then [[u,e,b,-1]] else []):=rfl
 rw [hd] at h
 rcases List.mem_append.mp h with h | h
 ·by_cases z:0<=e
  ·rw [if_pos z] at h
   obtain rfl:=List.mem_singleton.mp h
   exact ⟨⟨u,e,b,1,rfl,z,hb,.inl rfl⟩,1,rfl,z,.inl rfl⟩
  ·rw [if_neg z] at h;cases h
 ·by_cases z:0<e
  ·rw [if_pos z] at h
   obtain rfl:=List.mem_singleton.mp h
   exact ⟨⟨u,e,b,-1,rfl,by omega,hb,.inr rfl⟩,-1,rfl,by omega,.inr ⟨rfl,z⟩⟩
  ·rw [if_neg z] at h;cases h
theorem Dj {u e b t n:Int} (hn:0<n):sg (hv t n (aK u e b))=spr t n (spF [u,e,b]):=by
 have hd:spF [u,e,b]=(if 0<=e then [[u,e,b,1]] else [])++(if 0<e then [[u,e,b,-1]] else []):=rfl
 rw [hd]
 by_cases h0:e=0
 ·subst h0
  have er:aK u 0 b=[-u,b]:=by unfold aK;rw [if_pos rfl]
  have ev:hv t n [-u,b]=n*(b*t-u*n):=by
   show -u*n^2+t*(b*n^1+t*0)=_
   grind
  rw [er,ev,dS hn,if_pos (Int.le_refl _),if_neg (by omega)]
  show _ = -aV (0*n*n) (b*t-u*n)*1
  generalize b*t-u*n=a
  rw [Int.zero_mul,Int.zero_mul]
  have:a<0\/a=0\/0<a:=by omega
  rcases this with h | h | h
  ·have h1:sg a = -1:=by unfold sg;rw [if_pos h]
   rcases bU 0 a with z | z | z<;>omega
  ·subst h
   rfl
  ·have h1:sg a=1:=by unfold sg;rw [if_neg (by omega),if_pos h]
   have h2:=Int.mul_pos h h
   rcases bU 0 a with z | z | z<;>omega
 ·have er:aK u e b=[u*u-e,-2*b*u,b*b]:=by unfold aK;rw [if_neg h0]
  have ev:hv t n [u*u-e,-2*b*u,b*b]=n*((b*t-u*n)*(b*t-u*n)-e*n*n):=by
   show (u*u-e)*n^3+t*((-2*b*u)*n^2+t*((b*b)*n^1+t*0))=_
   grind
  rw [er,ev,dS hn]
  by_cases hp:0<=e
  ·rw [if_pos hp,if_pos (by omega)]
   show _ = -aV (e*n*n) (b*t-u*n)*(-(0-aV (e*n*n) (0-(b*t-u*n)))*1)
   generalize b*t-u*n=a
   have hE:0<e*n*n:=Int.mul_pos (Int.mul_pos (by omega) hn) hn
   generalize e*n*n=E at *
   have e1:(0-a)*(0-a)=a*a:=by grind
   have h1:=bU E a
   have h2:=bU E (0-a)
   rw [e1] at h2
   have az:a=0->a*a=0:=fun z=>by rw [z];rfl
   have s3:(a*a<E/\sg (a*a-E) = -1)\/(a*a=E/\sg (a*a-E)=0)\/(E<a*a/\sg (a*a-E)=1):=by
    unfold sg
    split<;>(try split)<;>omega
   generalize a*a=q at *
   rcases h1 with ⟨x1,x2⟩ | ⟨x1,x2⟩ | ⟨x1,x2⟩<;>rcases h2 with ⟨y1,y2⟩ | ⟨y1,y2⟩ | ⟨y1,y2⟩<;>rw [x1,y1]<;>simp<;>omega
  ·rw [if_neg hp,if_neg (by omega)]
   have h1:0<=(b*t-u*n)*(b*t-u*n):=by
    rcases Int.le_total 0 (b*t-u*n) with z | z
    ·exact Int.mul_nonneg z z
    ·exact Int.mul_nonneg_of_nonpos_of_nonpos z z
   have h2:e*n*n<0:=by rw [Int.mul_assoc];exact Int.mul_neg_of_neg_of_pos (by omega) (Int.mul_pos hn hn)
   show sg _=1
   unfold sg
   rw [if_neg (by omega),if_pos (by omega)]
def ag (f:List Int):List Int:=aC (aK (cf f 0) (cf f 1) (cf f 2))
theorem xg (x y:Int):sg (x*y)=sg x*sg y:=by
 rcases Int.lt_trichotomy x 0 with hx | hx | hx
 ·have h1:sg x = -1:=by unfold sg;rw [if_pos hx]
  have e:x*y = -((-x)*y):=by grind
  rw [e,Cf,dS (by omega),h1];omega
 ·subst hx;rw [Int.zero_mul];show (0:Int)=0*_;rw [Int.zero_mul]
 ·have h1:sg x=1:=by unfold sg;rw [if_neg (by omega),if_pos hx]
  rw [dS hx,h1,Int.one_mul]
theorem kE {l:List Int} (h:Tr l) (hne:l≠[]) (hp:0<ao l):∃ g:Int,0<g/\l=scL g (aC l):=by
 obtain ⟨g,hg,e⟩:=jx h
 have e2:l=scL g (aC l):=by
  apply dL
  ·rw [b9,plain_len]
  ·intro k _;rw [bF,e k]
 have hP:=eK h hne
 refine ⟨g,?_,e2⟩
 obtain ⟨r,x,er⟩:=(cK l).resolve_left hne
 have hx:ao l=cf l r.length:=by rw [er,dk,jQ]
 obtain ⟨r',x',er'⟩:=(cK (aC l)).resolve_left hP.ne
 have hx':ao (aC l)=cf (aC l) r'.length:=by rw [er',dk,jQ]
 have hl:r.length=r'.length:=by
  have:=plain_len l
  have h1:=congrArg List.length er
  have h2:=congrArg List.length er'
  simp at h1 h2;omega
 have h3:=e r.length
 rw [<- hx,hl,<- hx'] at h3
 have h4:=hP.pos
 rw [h3] at hp
 rcases Int.lt_or_gt_of_ne hg with z | z
 ·have:=Int.mul_neg_of_neg_of_pos z h4
  omega
 ·exact z
theorem B7 {u e b t n:Int} (hb:1<=b) (hn:0<n):sg (hv t n (ag [u,e,b]))=spr t n (spF [u,e,b]):=by
 obtain ⟨tr,l2⟩:=fL (u:=u) (e:=e) hb
 have hne:aK u e b≠[]:=fun z=>by rw [z] at l2;simp at l2
 have hlast:0<ao (aK u e b):=by
  unfold aK
  split
  ·show 0<ao ([-u]++[b]);rw [dk];omega
  ·show 0<ao ([u*u-e,-2*b*u]++[b*b]);rw [dk];exact Int.mul_pos (by omega) (by omega)
 obtain ⟨g,hg,eg⟩:=kE tr hne hlast
 rw [<- Dj hn]
 show sg (hv t n (aC (aK u e b)))=_
 have e3:hv t n (aK u e b)=g*hv t n (aC (aK u e b)):=by
  calc hv t n (aK u e b)=hv t n (scL g (aC (aK u e b))):=by rw [<- eg]
   _=_:=zl _ _ _ _
 rw [e3,dS hg]
def eD (f:List Int):Prop:=∃ u e b:Int,f=[u,e,b]/\1<=b
theorem xT {t n:Int} (hn:0<n):∀ (fs:List (List Int)),(∀ f∈fs,eD f)->sg (pr t n (fs.map ag))=spr t n (aJ fs)
 | [],_=>rfl
 | f::fs,h=>by
   obtain ⟨u,e,b,rfl,hb⟩:=h f (List.mem_cons_self ..)
   have ih:=xT (t:=t) hn fs fun x hx=>h x (List.mem_cons_of_mem _ hx)
   have e1:aJ ([u,e,b]::fs)=spF [u,e,b]++aJ fs:=by unfold aJ;rw [List.flatMap_cons]
   show sg (hv t n (ag [u,e,b])*pr t n (fs.map ag))=_
   rw [xg,B7 hb hn,ih,e1,jl]
theorem o4 {f:List Int} (h:eD f):ag f≠[]/\Tr (ag f):=by
 obtain ⟨u,e,b,rfl,hb⟩:=h
 obtain ⟨tr,l2⟩:=fL (u:=u) (e:=e) hb
 refine ⟨fun z=>?_,gC tr⟩
 have:=plain_len (aK u e b)
 have z':aC (aK u e b)=[]:=z
 rw [z'] at this;simp at this;omega
theorem kA {t n c:Int} (hn:0<n) {fs:List (List Int)} (h:∀ f∈fs,eD f):sg (hv t n (af [c] (aP [1] (fs.map ag))))=sg c*spr t n (aJ fs):=by
 have hs:∀ s∈fs.map ag,s≠[]/\Tr s:=fun s hs=>by
  obtain ⟨x,hx,rfl⟩:=List.mem_map.mp hs
  exact o4 (h x hx)
 obtain ⟨p1,p2,p3⟩:=jv (fs.map ag) [1] (by simp) ((tr_snoc (r:=[])).mpr (by decide)) hs
 have e1:=nX t n (a:=[c]) (b:=aP [1] (fs.map ag)) p1 (by simp)
 have e2:=nU t n (fs.map ag) [1] (by simp) fun s h=>(hs s h).1
 rw [ld] at e1 e2
 rw [<- xT hn fs h]
 have e3:hv t n (af [c] (aP [1] (fs.map ag)))=c*hv t n (aP [1] (fs.map ag)):=by
  refine Int.eq_of_mul_eq_mul_left (Int.ne_of_gt hn) ?_
  rw [e1];grind
 rw [e3,xg]
 have e4:=congrArg sg e2
 rw [dS (Int.pow_pos hn),Int.one_mul,dS hn] at e4
 rw [e4]
end RM
namespace RM
def inS (l:List Int) (A B D:Int):Prop:=0<ak l A D/\ak l B D<=0
instance (l:List Int) (A B D:Int):Decidable (inS l A B D):=inferInstanceAs (Decidable (_/\_))
structure Fsm (u e b:Int):Prop where
 u1 : -1000000000<=u
 u2:u<=1000000000
 e0:0<=e
 e1:e<=10000000000000000
 b1:1<=b
 b2:b<=1000
theorem yl {u e b s A B D:Int} (h:Fsm u e b) (hs:s=1\/s = -1/\0<e) (hD:2^200<=D) (hw:B=A+128) (hi:inS [u,e,b,s] A B D):((b*A-u*D)*(b*A-u*D)-e*D*D).natAbs<=30000000000000*D.natAbs:=by
 obtain ⟨u1,u2,e0,e1,b1,b2⟩:=h
 have hDD:0<D:=by omega
 have eB:b*B-u*D=b*A-u*D+128*b:=by rw [hw];grind
 have h36:e*D*D<=100000000*D*(100000000*D):=by
  have h1:e*(D*D)<=10000000000000000*(D*D):=Int.mul_le_mul_of_nonneg_right (by omega) (Int.le_of_lt (Int.mul_pos hDD hDD))
  have e2:e*D*D=e*(D*D):=by grind
  have e3:100000000*D*(100000000*D)=10000000000000000*(D*D):=by grind
  omega
 have hE0:0<=e*D*D:=Int.mul_nonneg (Int.mul_nonneg e0 (by omega)) (by omega)
 have hbig:e=0\/16384000000<e*D*D:=by
  rcases Int.lt_or_le 0 e with z | z
  ·right
   have h1:1*(D*D)<=e*(D*D):=Int.mul_le_mul_of_nonneg_right (by omega) (Int.le_of_lt (Int.mul_pos hDD hDD))
   have e2:e*D*D=e*(D*D):=by grind
   have h2:1*D<=D*D:=Int.mul_le_mul_of_nonneg_right (by omega) (by omega)
   omega
  ·left;omega
 rcases hs with rfl | ⟨rfl,hp⟩
 ·have i1:0<aV (e*D*D) (b*A-u*D):=hi.1
  have i2:aV (e*D*D) (b*B-u*D)<=0:=hi.2
  rw [eB] at i2
  generalize b*A-u*D=a at *
  have k1:a<0\/a*a<e*D*D:=by rcases bU (e*D*D) a with z | z | z<;>omega
  have k2:0<=a+128*b/\e*D*D<=(a+128*b)*(a+128*b):=by rcases bU (e*D*D) (a+128*b) with z | z | z<;>omega
  by_cases ha:a<0
  ·have q1:=gZ k2.1 (show a+128*b<=128000 by omega)
   have z0:e=0:=by omega
   subst z0
   have q2:(-a)*(-a)<=128000*128000:=gZ (by omega) (by omega)
   have q3:(-a)*(-a)=a*a:=by grind
   have q4:0<=a*a:=by rw [<- q3];exact Int.mul_nonneg (by omega) (by omega)
   rw [Int.zero_mul,Int.zero_mul]
   omega
  ·have k3:a*a<e*D*D:=by omega
   have k4:a<100000000*D:=GA (by omega) (by omega)
   have e3:(a+128*b)*(a+128*b)=a*a+256*(b*a)+16384*(b*b):=by grind
   have k5:b*a<=1000*a:=Int.mul_le_mul_of_nonneg_right b2 (by omega)
   have k6:b*b<=1000000:=Int.mul_le_mul b2 b2 (by omega) (by omega)
   omega
 ·have i1:0<0-aV (e*D*D) (0-(b*A-u*D)):=hi.1
  have i2:0-aV (e*D*D) (0-(b*B-u*D))<=0:=hi.2
  rw [eB] at i2
  have eq1:(b*A-u*D)*(b*A-u*D)=(0-(b*A-u*D))*(0-(b*A-u*D)):=by grind
  have eq2:0-(b*A-u*D+128*b)=0-(b*A-u*D)-128*b:=by omega
  rw [eq1]
  rw [eq2] at i2
  generalize 0-(b*A-u*D)=c at *
  have k1:0<=c/\e*D*D<c*c:=by rcases bU (e*D*D) c with z | z | z<;>omega
  have k2:c-128*b<0\/(c-128*b)*(c-128*b)<=e*D*D:=by rcases bU (e*D*D) (c-128*b) with z | z | z<;>omega
  by_cases hc:c-128*b<0
  ·have q1:=gZ k1.1 (show c<=128000 by omega)
   omega
  ·have k3:(c-128*b)*(c-128*b)<=e*D*D:=by omega
   have k4:c-128*b<=100000000*D:=GG (by omega) (by omega)
   have e3:c*c=(c-128*b)*(c-128*b)+256*(b*c)-16384*(b*b):=by grind
   have k5:b*c<=1000*c:=Int.mul_le_mul_of_nonneg_right b2 (by omega)
   have k6:0<=b*b:=Int.mul_nonneg (by omega) (by omega)
   omega
theorem Bc {u e b A B D:Int} (h:Fsm u e b) (he:0<e) (hD:2^200<=D) (hw:B=A+128) (h1:inS [u,e,b,1] A B D) (h2:inS [u,e,b,-1] A B D):False:=by
 obtain ⟨u1,u2,e0,e1,b1,b2⟩:=h
 have hDD:0<D:=by omega
 have eB:b*B-u*D=b*A-u*D+128*b:=by rw [hw];grind
 have i1:aV (e*D*D) (b*B-u*D)<=0:=h1.2
 have i2:0<0-aV (e*D*D) (0-(b*A-u*D)):=h2.1
 rw [eB] at i1
 generalize b*A-u*D=a at *
 have k1:0<=a+128*b:=by rcases bU (e*D*D) (a+128*b) with z | z | z<;>omega
 have k2:0<=0-a/\e*D*D<(0-a)*(0-a):=by rcases bU (e*D*D) (0-a) with z | z | z<;>omega
 have k3:=gZ k2.1 (show 0-a<=128000 by omega)
 have h3:1*(D*D)<=e*(D*D):=Int.mul_le_mul_of_nonneg_right (by omega) (Int.le_of_lt (Int.mul_pos hDD hDD))
 have e2:e*D*D=e*(D*D):=by grind
 have h4:1*D<=D*D:=Int.mul_le_mul_of_nonneg_right (by omega) (by omega)
 omega
theorem di {x y:Int} {a b:Nat} (hx:x.natAbs<=a) (hy:y.natAbs<=b):(x*y).natAbs<=a*b:=by rw [Int.natAbs_mul];exact Nat.mul_le_mul hx hy
theorem Fv {u e b u' e' b' A D:Int} (h:Fsm u e b) (h':Fsm u' e' b') (hD:2^200<=D)
 (n1:((b*A-u*D)*(b*A-u*D)-e*D*D).natAbs<=30000000000000*D.natAbs) (n2:((b'*A-u'*D)*(b'*A-u'*D)-e'*D*D).natAbs<=30000000000000*D.natAbs) :
 4*((b*u'-u*b')*(b*u'-u*b'))*(b*b*e')=(b'*b'*e-b*b*e'-(b*u'-u*b')*(b*u'-u*b'))*(b'*b'*e-b*b*e'-(b*u'-u*b')*(b*u'-u*b')):=by
 obtain ⟨u1,u2,e0,e1,b1,b2⟩:=h
 obtain ⟨u1',u2',e0',e1',b1',b2'⟩:=h'
 obtain ⟨N,rfl⟩:=Int.eq_ofNat_of_zero_le (show 0<=D by omega)
 rw [Int.natAbs_natCast] at n1 n2
 have hN:1606938044258990275541962092341162602522202993782792835301376<=N:=by omega
 have q9:(b'*b').natAbs<=1000*1000:=di (a:=1000) (b:=1000) (by omega) (by omega)
 have q9':(b*b).natAbs<=1000*1000:=di (a:=1000) (b:=1000) (by omega) (by omega)
 have d1:=di q9 n1
 have d2:=di q9' n2
 have hU:(b*u'-u*b').natAbs<=2000000000000:=by
  have a1:(b*u').natAbs<=1000*1000000000:=di (by omega) (by omega)
  have a2:(u*b').natAbs<=1000000000*1000:=di (by omega) (by omega)
  omega
 have hE1:(b'*b'*e).natAbs<=1000*1000*10000000000000000:=di q9 (by omega)
 have hE2:(b*b*e').natAbs<=1000*1000*10000000000000000:=di q9' (by omega)
 have r1:(b'*(b*A-u*N))*(b'*(b*A-u*N))=b'*b'*e*(N*N)+b'*b'*((b*A-u*N)*(b*A-u*N)-e*N*N):=by grind
 have r2:(b*(b'*A-u'*N))*(b*(b'*A-u'*N))=b*b*e'*(N*N)+b*b*((b'*A-u'*N)*(b'*A-u'*N)-e'*N*N):=by grind
 have r3:b'*(b*A-u*N)=b*(b'*A-u'*N)+(b*u'-u*b')*N:=by grind
 generalize b'*b'*((b*A-u*N)*(b*A-u*N)-e*N*N)=δ1 at *
 generalize b*b*((b'*A-u'*N)*(b'*A-u'*N)-e'*N*N)=δ2 at *
 rw [r3] at r1
 generalize b*(b'*A-u'*N)=Y at *
 generalize b*u'-u*b'=U at *
 generalize b'*b'*e=E1 at *
 generalize b*b*e'=E2 at *
 clear n1 n2 q9 q9' r3 u1 u2 e0 e1 b1 b2 u1' u2' e0' e1' b1' b2' hD
 have hUU:(U*U).natAbs<=2000000000000*2000000000000:=di hU hU
 have hW:(E1-E2-U*U).natAbs<=4020000000000000000000000:=by omega
 generalize hWd:E1-E2-U*U=W at *
 have r4:2*U*N*Y=W*(N*N)+(δ1-δ2):=by rw [<- hWd];grind
 have r5:(2*U*N*Y)*(2*U*N*Y)=4*(U*U)*(N*N)*(Y*Y):=by grind
 rw [r4,r2] at r5
 have hM:(δ1-δ2).natAbs<=60000000000000000000*N:=by omega
 have hδ2:δ2.natAbs<=30000000000000000000*N:=by omega
 generalize δ1-δ2=δ at *
 have hNN:(0:Int)<(N:Int)*N:=Int.mul_pos (by omega) (by omega)
 have r6:(4*(U*U)*E2-W*W)*(N*N)*(N*N)=2*W*δ*(N*N)+δ*δ-4*(U*U)*δ2*(N*N):=by grind
 refine Int.sub_eq_zero.mp (Classical.byContradiction fun hne=>?_)
 generalize hZ:4*(U*U)*E2-W*W=Z at *
 have hZ1:1<=Z.natAbs:=by omega
 have b1:(Z*(N*N)*(N*N)).natAbs=Z.natAbs*(N*N)*(N*N):=by rw [Int.natAbs_mul,Int.natAbs_mul,Int.natAbs_mul,Int.natAbs_natCast]
 have t1:(2*W*δ*(N*N)).natAbs<=2*4020000000000000000000000*(60000000000000000000*N)*(N*N):=by
  refine di (di (di (by decide) hW) hM) ?_
  rw [Int.natAbs_mul,Int.natAbs_natCast];exact Nat.le_refl _
 have t2:(δ*δ).natAbs<=60000000000000000000*N*(60000000000000000000*N):=di hM hM
 have t3:(4*(U*U)*δ2*(N*N)).natAbs<=4*(2000000000000*2000000000000)*(30000000000000000000*N)*(N*N):=by
  refine di (di (di (by decide) hUU) hδ2) ?_
  rw [Int.natAbs_mul,Int.natAbs_natCast];exact Nat.le_refl _
 have t4:1*(N*N)*(N*N)<=Z.natAbs*(N*N)*(N*N):=Nat.mul_le_mul_right _ (Nat.mul_le_mul_right _ hZ1)
 rw [<- b1,r6] at t4
 have e1:2*4020000000000000000000000*(60000000000000000000*N)*(N*N)=482400000000000000000000000000000000000000000*(N*N*N):=by grind
 have e2:60000000000000000000*N*(60000000000000000000*N)=3600000000000000000000000000000000000000*(N*N):=by grind
 have e3:4*(2000000000000*2000000000000)*(30000000000000000000*N)*(N*N)=480000000000000000000000000000000000000000000*(N*N*N):=by grind
 have e4:1*(N*N)*(N*N)=N*(N*N*N):=by grind
 have m1:1*(N*N)<=N*(N*N):=Nat.mul_le_mul_right _ (by omega)
 have m2:1606938044258990275541962092341162602522202993782792835301376*(N*N*N)<=N*(N*N*N):=Nat.mul_le_mul_right _ hN
 have m3:N*(N*N)=N*N*N:=by grind
 have m4:0<N*N*N:=Nat.mul_pos (Nat.mul_pos (by omega) (by omega)) (by omega)
 generalize N*N*N=n3 at *
 omega
theorem B8 {u e b u' e' b':Int} (h:Fsm u e b) (h':Fsm u' e' b') (hs:NS e) (hs':NS e')
 (eq:4*((b*u'-u*b')*(b*u'-u*b'))*(b*b*e')=(b'*b'*e-b*b*e'-(b*u'-u*b')*(b*u'-u*b'))*(b'*b'*e-b*b*e'-(b*u'-u*b')*(b*u'-u*b'))):ag [u,e,b]=ag [u',e',b']:=by
 obtain ⟨u1,u2,e0,e1,b1,b2⟩:=h
 obtain ⟨u1',u2',e0',e1',b1',b2'⟩:=h'
 have key:b*u'-u*b'=0/\b'*b'*e=b*b*e':=by
  by_cases hz:e'=0
  ·subst hz
   have e3:(b'*b'*e-(b*u'-u*b')*(b*u'-u*b'))*(b'*b'*e-(b*u'-u*b')*(b*u'-u*b'))=0:=by
    have:b*b*(0:Int)=0:=Int.mul_zero _
    rw [this] at eq
    rw [Int.mul_zero] at eq
    have h9:b'*b'*e-0-(b*u'-u*b')*(b*u'-u*b')=b'*b'*e-(b*u'-u*b')*(b*u'-u*b'):=by omega
    rw [h9] at eq
    exact eq.symm
   have e4:b'*b'*e=(b*u'-u*b')*(b*u'-u*b'):=by
    rcases Int.mul_eq_zero.mp e3 with z | z<;>omega
   by_cases hz2:e=0
   ·subst hz2
    rw [Int.mul_zero] at e4
    refine ⟨?_,by rw [Int.mul_zero,Int.mul_zero]⟩
    rcases Int.mul_eq_zero.mp e4.symm with z | z<;>exact z
   ·exact (hs.no hz2 (by omega) e4).elim
  ·by_cases hU:b*u'-u*b'=0
   ·rw [hU] at eq
    have e3:(b'*b'*e-b*b*e')*(b'*b'*e-b*b*e')=0:=by
     have h8:4*((0:Int)*0)*(b*b*e')=0:=by rw [Int.mul_zero,Int.mul_zero,Int.zero_mul]
     rw [h8] at eq
     have h9:b'*b'*e-b*b*e'-0*0=b'*b'*e-b*b*e':=by omega
     rw [h9] at eq;exact eq.symm
    refine ⟨hU,?_⟩
    rcases Int.mul_eq_zero.mp e3 with z | z<;>omega
   ·refine (hs'.no hz (x:=2*(b*u'-u*b')*b) (Int.mul_ne_zero (Int.mul_ne_zero (by decide) hU) (by omega)) (Eq.trans ?_ eq)).elim
    grind
 obtain ⟨k1,k2⟩:=key
 show aC (aK u e b)=aC (aK u' e' b')
 obtain ⟨tr,l2⟩:=fL (u:=u) (e:=e) b1
 obtain ⟨tr',l2'⟩:=fL (u:=u') (e:=e') b1'
 have hne:aK u e b≠[]:=fun z=>by rw [z] at l2;simp at l2
 have hne':aK u' e' b'≠[]:=fun z=>by rw [z] at l2';simp at l2'
 have hz:e=0↔e'=0:=by
  constructor
  ·intro z;rw [z,Int.mul_zero] at k2
   rcases Int.mul_eq_zero.mp k2.symm with y | y
   ·rcases Int.mul_eq_zero.mp y with y | y<;>omega
   ·exact y
  ·intro z;rw [z,Int.mul_zero] at k2
   rcases Int.mul_eq_zero.mp k2 with y | y
   ·rcases Int.mul_eq_zero.mp y with y | y<;>omega
   ·exact y
 have prop:∃ x y:Int,x≠0/\y≠0/\∀ n,x*cf (aK u' e' b') n=y*cf (aK u e b) n:=by
  by_cases h0:e=0
  ·have h0':=hz.mp h0
   refine ⟨b,b',by omega,by omega,fun n=>?_⟩
   unfold aK
   rw [if_pos h0,if_pos h0',tV,tV]
   split
   ·have:b*u'=u*b':=by omega
    grind
   ·split
    ·grind
    ·omega
  ·have h0':¬ e'=0:=fun z=>h0 (hz.mpr z)
   refine ⟨b*b,b'*b',Int.mul_ne_zero (by omega) (by omega),Int.mul_ne_zero (by omega) (by omega),fun n=>?_⟩
   have k3:b*u'=u*b':=by omega
   unfold aK
   rw [if_neg h0,if_neg h0']
   match n with
   | 0 =>
     show b*b*(u'*u'-e')=b'*b'*(u*u-e)
     have:(b*u')*(b*u')=(u*b')*(u*b'):=by rw [k3]
     grind
   | 1 =>
     show b*b*(-2*b'*u')=b'*b'*(-2*b*u)
     have:b*b'*(b*u')=b*b'*(u*b'):=by rw [k3]
     grind
   | 2 =>
     show b*b*(b'*b')=b'*b'*(b*b)
     grind
   | n+3 =>
     show b*b*0=b'*b'*0
     omega
 obtain ⟨x,y,hx,hy,hp⟩:=prop
 refine qX (eK tr hne) (eK tr' hne') ?_ ?_
 ·rw [Dv.plain tr']
  refine Dv.prop_right hx hp ?_
  obtain ⟨g,hg,eg⟩:=jx tr
  exact ⟨1,[g],by decide,fun n=>by rw [fu,<- eg];omega⟩
 ·rw [Dv.plain tr]
  refine Dv.prop_right (x:=y) (y:=x) hy (fun n=>(hp n).symm) ?_
  obtain ⟨g,hg,eg⟩:=jx tr'
  exact ⟨1,[g],by decide,fun n=>by rw [fu,<- eg];omega⟩
def FacG (f:List Int):Prop:=∃ u e b:Int,f=[u,e,b] /\ -1000000000<=u/\u<=1000000000 /\ -10000000000000000<=e/\e<=10000000000000000/\1<=b/\b<=1000/\NS e
theorem FacG.q {f:List Int} (h:FacG f):eD f:=by
 obtain ⟨u,e,b,rfl,_,_,_,_,h5,_⟩:=h
 exact ⟨u,e,b,rfl,h5⟩
def AZ (l l':List Int):Prop:=∀ A B D:Int,2^200<=D->B=A+128->inS l A B D->inS l' A B D->False
theorem oJ {fs:List (List Int)} (hF:∀ f∈fs,FacG f) (hn:(fs.map ag).Nodup):(aJ fs).Pairwise AZ:=by
 unfold aJ
 rw [List.pairwise_flatMap]
 constructor
 ·intro f hf
  obtain ⟨u,e,b,rfl,h1,h2,h3,h4,h5,h6,h7⟩:=hF f hf
  have hd:spF [u,e,b]=(if 0<=e then [[u,e,b,1]] else [])++(if 0<e then [[u,e,b,-1]] else []):=rfl
  rw [hd]
  by_cases z:0<e
  ·rw [if_pos (by omega),if_pos z]
   show List.Pairwise _ [[u,e,b,1],[u,e,b,-1]]
   refine List.pairwise_pair.mpr fun A B D hD hw a1 a2=>?_
   exact Bc ⟨h1,h2,by omega,h4,h5,h6⟩ z hD hw a1 a2
  ·rw [if_neg z]
   split
   ·exact List.pairwise_singleton _ _
   ·exact List.Pairwise.nil
 ·rw [List.nodup_iff_pairwise_ne,List.pairwise_map] at hn
  refine hn.imp_of_mem fun {f g} hf hg hne x hx y hy A B D hD hw a1 a2=>hne ?_
  obtain ⟨u,e,b,rfl,h1,h2,h3,h4,h5,h6,h7⟩:=hF f hf
  obtain ⟨u',e',b',rfl,h1',h2',h3',h4',h5',h6',h7'⟩:=hF g hg
  obtain ⟨_,s,rfl,he,hs⟩:=oK rfl h5 hx
  obtain ⟨_,s',rfl,he',hs'⟩:=oK rfl h5' hy
  have F1:Fsm u e b:=⟨h1,h2,he,h4,h5,h6⟩
  have F2:Fsm u' e' b':=⟨h1',h2',he',h4',h5',h6'⟩
  exact B8 F1 F2 h7 h7' (Fv F1 F2 hD (yl F1 hs hD hw a1) (yl F2 hs' hD hw a2))
theorem c9 {fs:List (List Int)} (hF:∀ f∈fs,eD f) {l:List Int} (hl:l∈aJ fs):Spt l:=by
 obtain ⟨f,hf,hm⟩:=List.mem_flatMap.mp hl
 obtain ⟨u,e,b,rfl,hb⟩:=hF f hf
 exact (oK rfl hb hm).1
end RM
namespace RM
def pv:List Int->Rat->Rat
 | [],_=>0
 | c::l,x=>(c:Rat)+x*pv l x
theorem xQ:∀ (N:Nat) (a b c:List Int) (u v:Int) (x:Rat),a.length<=N->b.length<=N->c.length<=N->(∀ n,cf c n=u*cf a n+v*cf b n)->pv c x=(u:Rat)*pv a x+(v:Rat)*pv b x
 | 0,a,b,c,u,v,x,ha,hb,hc,_=>by
   rw [List.eq_nil_of_length_eq_zero (Nat.le_zero.mp ha),List.eq_nil_of_length_eq_zero (Nat.le_zero.mp hb),List.eq_nil_of_length_eq_zero (Nat.le_zero.mp hc)]
   show (0:Rat)=u*0+v*0
   grind
 | N+1,a,b,c,u,v,x,ha,hb,hc,h=>by
   have key:∀ l:List Int,l.length<=N+1->pv l x=(cf l 0:Rat)+x*pv l.tail x/\l.tail.length<=N/\∀ n,cf l.tail n=cf l (n+1):=fun l hl=>by
    cases l with
    | nil=>exact ⟨by show (0:Rat)=((0:Int):Rat)+x*0;grind,Nat.zero_le _,fun n=>by rw [cq];rfl⟩
    | cons y l=>exact ⟨rfl,by simpa using hl,fun n=>rfl⟩
   obtain ⟨a1,a2,a3⟩:=key a ha
   obtain ⟨b1,b2,b3⟩:=key b hb
   obtain ⟨c1,c2,c3⟩:=key c hc
   have ih:=xQ N a.tail b.tail c.tail u v x a2 b2 c2 fun n=>by rw [a3,b3,c3,h]
   have h0:(cf c 0:Rat)=(u:Rat)*(cf a 0:Rat)+(v:Rat)*(cf b 0:Rat):=by rw [h 0,Rat.intCast_add,Rat.intCast_mul,Rat.intCast_mul]
   rw [a1,b1,c1,ih,h0];grind
theorem mZ {a b c:List Int} {u v:Int} (x:Rat) (h:∀ n,cf c n=u*cf a n+v*cf b n):pv c x=(u:Rat)*pv a x+(v:Rat)*pv b x :=
 xQ (a.length+b.length+c.length) a b c u v x (by omega) (by omega) (by omega) h
theorem ky {a c:List Int} {u:Int} (x:Rat) (h:∀ n,cf c n=u*cf a n):pv c x=(u:Rat)*pv a x:=by
 have:=mZ (a:=a) (b:=[]) (c:=c) (u:=u) (v:=0) x fun n=>by rw [h n,Int.zero_mul,Int.add_zero]
 rw [this]
 show _+((0:Int):Rat)*0=_
 grind
theorem xP (x:Rat):∀ (a b c:List Int),(∀ n,cf c n=av a b n)->pv c x=pv a x*pv b x
 | [],b,c,h=>by
   have:=ky (a:=[]) (c:=c) (u:=0) x fun n=>by rw [h n,d5];simp
   rw [this]
   show _=(0:Rat)*_
   show ((0:Int):Rat)*0=0*_
   grind
 | y::a,b,c,h=>by
   have ih:=xP x a b (af a b) (aM a b)
   have:=mZ (a:=b) (b:=0::af a b) (c:=c) (u:=y) (v:=1) x fun n=>by
    rw [h n,dF,oq,Int.one_mul]
    congr 1
    unfold up
    split
    ·rfl
    ·rw [aM]
   rw [this]
   show (y:Rat)*pv b x+((1:Int):Rat)*(((0:Int):Rat)+x*pv (af a b) x)=((y:Rat)+x*pv a x)*pv b x
   rw [ih];grind
theorem fk {a b:Rat} (ha:0<a) (hb:0<b):0<a/b:=by
 rw [Rat.div_def]
 exact Rat.mul_pos ha (Rat.inv_pos.mpr hb)
def Bd (M v:Rat):Prop := -M<=v/\v<=M
theorem Bd.mul {M N u v:Rat} (h1:Bd M u) (h2:Bd N v):Bd (M*N) (u*v):=by
 obtain ⟨a,b⟩:=h1
 obtain ⟨c,d⟩:=h2
 have p1:0<=(M-u)*(N-v):=Rat.mul_nonneg (by grind) (by grind)
 have p2:0<=(M+u)*(N+v):=Rat.mul_nonneg (by grind) (by grind)
 have p3:0<=(M-u)*(N+v):=Rat.mul_nonneg (by grind) (by grind)
 have p4:0<=(M+u)*(N-v):=Rat.mul_nonneg (by grind) (by grind)
 constructor<;>grind
theorem Bd.add {M N u v:Rat} (h1:Bd M u) (h2:Bd N v):Bd (M+N) (u+v):=by
 obtain ⟨a,b⟩:=h1
 obtain ⟨c,d⟩:=h2
 constructor<;>grind
theorem Bd.mono {M N u:Rat} (h1:Bd M u) (h:M<=N):Bd N u:=by
 obtain ⟨a,b⟩:=h1
 constructor<;>grind
def Nice (f:Rat->Rat):Prop:=∀ R:Rat,0<=R->∃ M:Rat,0<=M/\(∀ x,Bd R x->Bd M (f x))/\∀ x y,Bd R x->Bd R y->x<=y->Bd (M*(y-x)) (f y-f x)
theorem jE (c:Rat):Nice fun _=>c:=fun R _=>by
 rcases Rat.le_total (a:=0) (b:=c) with h | h
 ·exact ⟨c,h,fun x _=>⟨by grind,by grind⟩,fun x y _ _ hxy=>by
   have:=Rat.mul_nonneg h (show 0<=y-x by grind)
   exact ⟨by grind,by grind⟩⟩
 ·exact ⟨-c,by grind,fun x _=>⟨by grind,by grind⟩,fun x y _ _ hxy=>by
   have:=Rat.mul_nonneg (show 0 <= -c by grind) (show 0<=y-x by grind)
   exact ⟨by grind,by grind⟩⟩
theorem nice_id:Nice fun x=>x:=fun R hR=>by
 refine ⟨R+1,by grind,fun x h=>h.mono (by grind),fun x y _ _ hxy=>?_⟩
 have:=Rat.mul_nonneg hR (show 0<=y-x by grind)
 exact ⟨by grind,by grind⟩
theorem Nice.add {f g:Rat->Rat} (hf:Nice f) (hg:Nice g):Nice fun x=>f x+g x:=fun R hR=>by
 obtain ⟨M,m0,m1,m2⟩:=hf R hR
 obtain ⟨N,n0,n1,n2⟩:=hg R hR
 refine ⟨M+N,by grind,fun x h=>(m1 x h).add (n1 x h),fun x y hx hy hxy=>?_⟩
 have:=(m2 x y hx hy hxy).add (n2 x y hx hy hxy)
 have e1:M*(y-x)+N*(y-x)=(M+N)*(y-x):=by grind
 have e2:f y-f x+(g y-g x)=f y+g y-(f x+g x):=by grind
 rwa [e1,e2] at this
theorem Nice.mul {f g:Rat->Rat} (hf:Nice f) (hg:Nice g):Nice fun x=>f x*g x:=fun R hR=>by
 obtain ⟨M,m0,m1,m2⟩:=hf R hR
 obtain ⟨N,n0,n1,n2⟩:=hg R hR
 have p:=Rat.mul_nonneg m0 n0
 refine ⟨2*(M*N),by grind,fun x h=>((m1 x h).mul (n1 x h)).mono (by grind),fun x y hx hy hxy=>?_⟩
 have:=((m2 x y hx hy hxy).mul (n1 y hy)).add ((m1 x hx).mul (n2 x y hx hy hxy))
 have e1:M*(y-x)*N+M*(N*(y-x))=2*(M*N)*(y-x):=by grind
 have e2:(f y-f x)*g y+f x*(g y-g x)=f y*g y-f x*g x:=by grind
 rwa [e1,e2] at this
theorem eO:∀ l:List Int,Nice (pv l)
 | []=>jE 0
 | c::l=>(jE (c:Rat)).add (nice_id.mul (eO l))
theorem xO:∀ (l:List Int) (R:Rat),0<=R->∃ M:Rat,0<=M/\∀ x y,Bd R x->Bd R y->x<=y->Bd (M*((y-x)*(y-x))) (pv l y-pv l x-(y-x)*pv (slopeL l) x)
 | [],R,_=>⟨0,by grind,fun x y _ _ _=>by
  have e:pv [] y-pv [] x-(y-x)*pv (slopeL []) x=0:=by show (0:Rat)-0-(y-x)*0=0;grind
  rw [e];constructor<;>grind⟩
 | c::l,R,hR=>by
   obtain ⟨M,m0,m1⟩:=xO l R hR
   obtain ⟨N,n0,n1,n2⟩:=eO l R hR
   have p:=Rat.mul_nonneg hR m0
   refine ⟨N+R*M,by grind,fun x y hx hy hxy=>?_⟩
   have hd:pv (slopeL (c::l)) x=pv l x+x*pv (slopeL l) x:=by
    have:=mZ (a:=l) (b:=0::slopeL l) (c:=slopeL (c::l)) (u:=1) (v:=1) x fun n=>wY c l n
    rw [this]
    show ((1:Int):Rat)*pv l x+((1:Int):Rat)*(((0:Int):Rat)+x*pv (slopeL l) x)=_
    grind
   have hz:Bd (y-x) (y-x):=⟨by grind,by grind⟩
   have:=(hz.mul (n2 x y hx hy hxy)).add (hx.mul (m1 x y hx hy hxy))
   have e1:(y-x)*(N*(y-x))+R*(M*((y-x)*(y-x)))=(N+R*M)*((y-x)*(y-x)):=by grind
   have e2:(y-x)*(pv l y-pv l x)+x*(pv l y-pv l x-(y-x)*pv (slopeL l) x)=pv (c::l) y-pv (c::l) x-(y-x)*pv (slopeL (c::l)) x:=by
    rw [hd]
    show _=((c:Rat)+y*pv l y)-((c:Rat)+x*pv l x)-_
    grind
   rwa [e1,e2] at this
def sgR (v:Rat):Int:=if v<0 then -1 else if 0<v then 1 else 0
theorem cv (v:Rat):(v<0/\sgR v = -1)\/(v=0/\sgR v=0)\/(0<v/\sgR v=1):=by
 unfold sgR
 by_cases h:v<0
 ·exact .inl ⟨h,by rw [if_pos h]⟩
 ·by_cases h2:0<v
  ·exact .inr (.inr ⟨h2,by rw [if_neg h,if_pos h2]⟩)
  ·exact .inr (.inl ⟨by grind,by rw [if_neg h,if_neg h2]⟩)
def Sta (f:Rat->Rat) (x y:Rat):Prop:=sgR (f x)=sgR (f y)/\sgR (f x)≠0
theorem rp {f:Rat->Rat} {x y D:Rat} (h:¬ Sta f x y) (hd:Bd D (f y-f x)):Bd D (f x)/\Bd D (f y):=by
 obtain ⟨d1,d2⟩:=hd
 have key:(f x<=0/\0<=f y)\/(0<=f x/\f y<=0):=by
  rcases cv (f x) with ⟨a,b⟩ | ⟨a,b⟩ | ⟨a,b⟩<;>rcases cv (f y) with ⟨c,d⟩ | ⟨c,d⟩ | ⟨c,d⟩
  ·exact absurd ⟨by rw [b,d],by rw [b];decide⟩ h
  ·exact .inl ⟨by grind,by grind⟩
  ·exact .inl ⟨by grind,by grind⟩
  ·exact .inr ⟨by grind,by grind⟩
  ·exact .inl ⟨by grind,by grind⟩
  ·exact .inl ⟨by grind,by grind⟩
  ·exact .inr ⟨by grind,by grind⟩
  ·exact .inr ⟨by grind,by grind⟩
  ·exact absurd ⟨by rw [b,d],by rw [b];decide⟩ h
 rcases key with ⟨a,b⟩ | ⟨a,b⟩
 ·exact ⟨⟨by grind,by grind⟩,⟨by grind,by grind⟩⟩
 ·exact ⟨⟨by grind,by grind⟩,⟨by grind,by grind⟩⟩
inductive SRow:List (List Int)->Prop
 | last {c:Int} (h:c≠0):SRow [[c]]
 | two {a:List Int} {c:Int} (h:c≠0):SRow [a,[c]]
 | cons {a b c:List Int} {r:List (List Int)} {q:List Int} {α β:Rat} (hα:0<α) (hβ:0<β) (e:∀ x,α*pv a x=pv q x*pv b x-β*pv c x) (h:SRow (b::c::r)):SRow (a::b::c::r)
theorem qV (c:Int) (x:Rat):pv [c] x=(c:Rat):=by show (c:Rat)+x*0=c;grind
theorem bez:∀ {row:List (List Int)},SRow row->∀ a b r,row=a::b::r->∃ (A B:Rat->Rat) (k:Rat),Nice A/\Nice B/\k≠0/\∀ x,A x*pv a x+B x*pv b x=k
 | _,.last h,a,b,r,e=>by cases e
 | _,.two (c:=c) h,a,b,r,e=>by
   cases e
   refine ⟨fun _=>0,fun _=>1,(c:Rat),jE 0,jE 1,fun z=>h (Rat.intCast_inj.mp (by rw [z];rfl)),fun x=>?_⟩
   rw [qV];grind
 | _,.cons (a:=a0) (b:=b0) (c:=c) (q:=q) (α:=α) (β:=β) hα hβ eq h,a,b,r,e=>by
   cases e
   obtain ⟨A,B,k,nA,nB,hk,hAB⟩:=bez h _ _ _ rfl
   refine ⟨fun x=>(-α)*B x,fun x=>β*A x+B x*pv q x,β*k,(jE (-α)).mul nB,((jE β).mul nA).add (nB.mul (eO q)),fun z=>?_,fun x=>?_⟩
   ·rcases Rat.mul_eq_zero.mp z with y | y
    ·grind
    ·exact hk y
   ·have h1:=hAB x
    have h2:=eq x
    have:(-α)*B x*pv a0 x+(β*A x+B x*pv q x)*pv b0 x=B x*(pv q x*pv b0 x-α*pv a0 x)+β*A x*pv b0 x:=by grind
    rw [this,h2]
    have:B x*(pv q x*pv b0 x-(pv q x*pv b0 x-β*pv c x))+β*A x*pv b0 x=β*(A x*pv b0 x+B x*pv c x):=by grind
    rw [this,h1]
theorem x6 {a b:Rat->Rat} (na:Nice a) (nb:Nice b) {A B:Rat->Rat} {k:Rat} (nA:Nice A) (nB:Nice B) (hk:0<k) (hAB:∀ x,A x*a x+B x*b x=k\/A x*a x+B x*b x = -k) {R:Rat} (hR:0<=R) :
 ∃ (δ κ:Rat),0<δ/\0<κ/\∀ x y,Bd R x->Bd R y->x<y->y-x<=δ->¬ Sta a x y->Sta b x y/\(κ<=b x\/b x <= -κ)/\(κ<=b y\/b y <= -κ):=by
 obtain ⟨M1,p1,q1,r1⟩:=na R hR
 obtain ⟨M2,p2,q2,r2⟩:=nb R hR
 obtain ⟨M3,p3,q3,_⟩:=nA R hR
 obtain ⟨M4,p4,q4,_⟩:=nB R hR
 have h31:=Rat.mul_nonneg p3 p1
 have h42:=Rat.mul_nonneg p4 p2
 have hT:0<2*(M3*M1+M4*M2+1):=by grind
 have hT4:0<2*(M4+1):=by grind
 refine ⟨k/(2*(M3*M1+M4*M2+1)),k/(2*(M4+1)),fk hk hT,fk hk hT4,fun x y hx hy hxy hd hs=>?_⟩
 have hd':(y-x)*(2*(M3*M1+M4*M2+1))<=k:=by
  have:=Rat.mul_le_mul_of_nonneg_right hd (Rat.le_of_lt hT)
  rwa [Rat.div_mul_cancel (by grind)] at this
 have hyx:0<y-x:=by grind
 obtain ⟨a1,a2⟩:=rp hs (r1 x y hx hy (by grind))
 have hM1:0<=M1*(y-x):=Rat.mul_nonneg p1 (Rat.le_of_lt hyx)
 have far:∀ z,Bd R z->Bd (M1*(y-x)) (a z)->k/(2*(M4+1))<=b z\/b z <= -(k/(2*(M4+1))):=fun z hz ha=>by
  have e1:=(q3 z hz).mul ha
  have e2:2*(M3*(M1*(y-x)))<=k:=by
   have h1:=Rat.mul_nonneg h42 (Rat.le_of_lt hyx)
   grind
  have hB:(k<=2*(B z*b z))\/(2*(B z*b z) <= -k):=by
   obtain ⟨f1,f2⟩:=e1
   rcases hAB z with g | g
   ·left;grind
   ·right;grind
  rcases Rat.le_total (a:=k/(2*(M4+1))) (b:=b z) with g | g
  ·exact .inl g
  ·rcases Rat.le_total (a:=b z) (b := -(k/(2*(M4+1)))) with g2 | g2
   ·exact .inr g2
   ·exfalso
    have hb:Bd (k/(2*(M4+1))) (b z):=⟨g2,g⟩
    obtain ⟨f1,f2⟩:=(q4 z hz).mul hb
    have e3:2*(M4*(k/(2*(M4+1))))<k:=by
     have e4:k/(2*(M4+1))*(2*(M4+1))=k:=Rat.div_mul_cancel (by grind)
     have e5:=fk hk hT4
     generalize k/(2*(M4+1))=w at *
     grind
    rcases hB with g3 | g3<;>grind
 refine ⟨Classical.byContradiction fun hs2=>?_,far x hx a1,far y hy a2⟩
 obtain ⟨b1,b2⟩:=rp hs2 (r2 x y hx hy (by grind))
 obtain ⟨e1,e2⟩:=(q3 x hx).mul a1
 obtain ⟨e3,e4⟩:=(q4 x hx).mul b1
 have hM:0<=(M3*M1+M4*M2)*(y-x):=Rat.mul_nonneg (by grind) (Rat.le_of_lt hyx)
 have e5:M3*(M1*(y-x))+M4*(M2*(y-x))=(M3*M1+M4*M2)*(y-x):=by grind
 have e6:(y-x)*(2*(M3*M1+M4*M2+1))=2*((M3*M1+M4*M2)*(y-x))+2*(y-x):=by grind
 rcases hAB x with g | g<;>grind
theorem AB {row:List (List Int)} (h:SRow row) {a b:List Int} {r:List (List Int)} (e:row=a::b::r):∃ (A B:Rat->Rat) (k:Rat),Nice A/\Nice B/\0<k/\∀ x,A x*pv a x+B x*pv b x=k\/A x*pv a x+B x*pv b x = -k:=by
 obtain ⟨A,B,k,nA,nB,hk,hAB⟩:=bez h a b r e
 rcases Rat.le_total (a:=0) (b:=k) with g | g
 ·exact ⟨A,B,k,nA,nB,by grind,fun x=>.inl (hAB x)⟩
 ·exact ⟨A,B,-k,nA,nB,by grind,fun x=>.inr (by rw [hAB x];grind)⟩
def vr:Int->List Int->Int
 | _,[]=>0
 | b,s::r=>(if s*b<0 then 1 else 0)+vr (if s=0 then b else s) r
theorem Ag:∀ (l:List Int) (n b:Int),l.foldl chF (n,b)=(n+vr b l,(l.foldl chF (n,b)).2)
 | [],n,b=>by show (n,b)=(n+0,b);rw [Int.add_zero]
 | s::r,n,b=>by
   show r.foldl chF (chF (n,b) s)=(n+((if s*b<0 then 1 else 0)+vr (if s=0 then b else s) r),(r.foldl chF (chF (n,b) s)).2)
   have e:chF (n,b) s=(n+(if s*b<0 then 1 else 0),if s=0 then b else s):=by
    unfold chF
    by_cases h:s*b<0
    ·rw [if_pos h,if_pos h]
    ·rw [if_neg h,if_neg h,Int.add_zero]
   rw [e]
   have:=Ag r (n+(if s*b<0 then 1 else 0)) (if s=0 then b else s)
   rw [Int.add_assoc] at this
   exact this
theorem Ak (l:List Int):(chS l).1=vr 0 l:=by
 unfold chS
 rw [Ag l 0 0]
 show 0+vr 0 l=_
 omega
def gU (s:Int):Prop:=s=1\/s=0\/s = -1
inductive Al:Int->List Int->List Int->Prop
 | nil {b:Int}:Al b [] []
 | stab {b s:Int} {r r':List Int} (h:s≠0) (t:Al s r r'):Al b (s::r) (s::r')
 | unst {b s s':Int} {r r':List Int} (h1:gU s) (h2:gU s') (t:Al (-b) r r'):Al b (s :: -b::r) (s' :: -b::r')
theorem vc {b s:Int} (hb:b=1\/b = -1) (hs:gU s) (r:List Int):vr b (s :: -b::r)=1+vr (-b) r:=by
 have hb0:¬ (-b=0):=by omega
 rcases hs with rfl | rfl | rfl
 ·rcases hb with rfl | rfl<;>simp [vr]
 ·rcases hb with rfl | rfl<;>simp [vr]
 ·rcases hb with rfl | rfl<;>simp [vr]
theorem Al.vr:∀ {b:Int} {r r':List Int},Al b r r'->(b=1\/b = -1)->(∀ s∈r,gU s)->RM.vr b r=RM.vr b r'
 | _,_,_,.nil,_,_=>rfl
 | b,_,_,.stab (s:=s) (r:=r) (r':=r') h t,hb,hu=>by
   have hs:gU s:=hu s (List.mem_cons_self ..)
   have hs':s=1\/s = -1:=by rcases hs with z | z | z;exact .inl z;exact absurd z h;exact .inr z
   have ih:=Al.vr t hs' fun x hx=>hu x (List.mem_cons_of_mem _ hx)
   show _+RM.vr (if s=0 then b else s) r=_+RM.vr (if s=0 then b else s) r'
   rw [if_neg h,ih]
 | b,_,_,.unst h1 h2 t,hb,hu=>by
   have ih:=Al.vr t (by omega) fun x hx=>hu x (List.mem_cons_of_mem _ (List.mem_cons_of_mem _ hx))
   rw [vc hb h1,vc hb h2,ih]
def sgX (row:List (List Int)) (x:Rat):List Int:=row.map fun f=>sgR (pv f x)
theorem mQ (v:Rat):gU (sgR v):=by
 rcases cv v with ⟨_,h⟩ | ⟨_,h⟩ | ⟨_,h⟩<;>rw [h]
 ·exact .inr (.inr rfl)
 ·exact .inr (.inl rfl)
 ·exact .inl rfl
theorem xh (row:List (List Int)) (x:Rat):∀ s∈sgX row x,gU s:=fun s hs=>by
 obtain ⟨f,_,rfl⟩:=List.mem_map.mp hs
 exact mQ _
def AS (row:List (List Int)) (R:Rat):Prop:=∃ δ:Rat,0<δ/\∀ x y,Bd R x->Bd R y->x<y->y-x<=δ->∀ a r,row=a::r->Sta (pv a) x y->Al (sgR (pv a x)) (sgX r x) (sgX r y)
theorem Ci {c:Int} (h:c≠0):sgR (c:Rat)≠0:=by
 rcases cv (c:Rat) with ⟨_,e⟩ | ⟨z,_⟩ | ⟨_,e⟩
 ·rw [e];decide
 ·exact absurd (Rat.intCast_inj.mp (by rw [z];rfl)) h
 ·rw [e];decide
theorem yR:∀ {row:List (List Int)},SRow row->∀ R:Rat,0<=R->AS row R/\AS row.tail R
 | _,.last h,R,_=>⟨⟨1,by grind,fun x y _ _ _ _ a r e _=>by cases e;exact .nil⟩,⟨1,by grind,fun x y _ _ _ _ a r e _=>by cases e⟩⟩
 | _,.two (c:=c) h,R,_=>by
   refine ⟨⟨1,by grind,fun x y _ _ _ _ a r e _=>?_⟩,⟨1,by grind,fun x y _ _ _ _ a r e _=>by cases e;exact .nil⟩⟩
   cases e
   show Al _ [sgR (pv [c] x)] [sgR (pv [c] y)]
   rw [qV,qV]
   exact .stab (Ci h) .nil
 | _,.cons (a:=a) (b:=b) (c:=c) (r:=r) (q:=q) (α:=α) (β:=β) hα hβ eq h,R,hR=>by
   obtain ⟨⟨δ1,d1,l1⟩,⟨δ2,d2,l2⟩⟩:=yR h R hR
   refine ⟨?_,⟨δ1,d1,l1⟩⟩
   obtain ⟨A,B,k,nA,nB,hk,hAB⟩:=AB h rfl
   obtain ⟨δ3,κ,d3,hκ,l3⟩:=x6 (eO b) (eO c) nA nB hk hAB hR
   obtain ⟨M,m0,m1,m2⟩:=eO b R hR
   obtain ⟨N,n0,n1,_⟩:=eO q R hR
   have hMN:=Rat.mul_nonneg n0 m0
   have hT:0<N*M+1:=by grind
   have hβκ:=Rat.mul_pos hβ hκ
   obtain ⟨δ,hδ,g1,g2,g3,g4⟩:∃ δ:Rat,0<δ/\δ<=δ1/\δ<=δ2/\δ<=δ3/\δ*(N*M+1)<=β*κ:=by
    have hw:=fk hβκ hT
    have hw2:β*κ/(N*M+1)*(N*M+1)=β*κ:=Rat.div_mul_cancel (by grind)
    have two:∀ u v:Rat,0<u->0<v->∃ w:Rat,0<w/\w<=u/\w<=v:=fun u v hu hv=>by
     rcases Rat.le_total (a:=u) (b:=v) with z | z
     ·exact ⟨u,hu,Rat.le_refl,z⟩
     ·exact ⟨v,hv,z,Rat.le_refl⟩
    obtain ⟨u,hu,u1,u2⟩:=two δ1 δ2 d1 d2
    obtain ⟨v,hv,v1,v2⟩:=two u δ3 hu d3
    obtain ⟨w,hw',w1,w2⟩:=two v _ hv hw
    refine ⟨w,hw',by grind,by grind,by grind,?_⟩
    have:=Rat.mul_le_mul_of_nonneg_right w2 (Rat.le_of_lt hT)
    rwa [hw2] at this
   refine ⟨δ,hδ,fun x y hx hy hxy hd a' r' e sa=>?_⟩
   cases e
   show Al (sgR (pv a x)) (sgR (pv b x)::sgX (c::r) x) (sgR (pv b y)::sgX (c::r) y)
   by_cases sb:Sta (pv b) x y
   ·have t:=l1 x y hx hy hxy (by grind) b (c::r) rfl sb
    rw [<- sb.1]
    exact .stab sb.2 t
   ·obtain ⟨sc,c1,c2⟩:=l3 x y hx hy hxy (by grind) sb
    obtain ⟨b1,_⟩:=rp sb (m2 x y hx hy (by grind))
    have hyx:0<y-x:=by grind
    have hop:sgR (pv c x) = -sgR (pv a x):=by
     obtain ⟨f1,f2⟩:=(n1 x hx).mul b1
     have e1:=eq x
     have e2:N*(M*(y-x))<β*κ:=by
      have h1:(y-x)*(N*M+1)<=δ*(N*M+1):=Rat.mul_le_mul_of_nonneg_right hd (Rat.le_of_lt hT)
      grind
     rcases c1 with z | z
     ·have h2:β*κ<=β*pv c x:=Rat.mul_le_mul_of_nonneg_left z (Rat.le_of_lt hβ)
      have h3:α*pv a x<0:=by grind
      have h4:pv a x<0:=by
       rcases Rat.le_total (a:=0) (b:=pv a x) with w | w
       ·have:=Rat.mul_nonneg (Rat.le_of_lt hα) w;grind
       ·rcases cv (pv a x) with ⟨w2,_⟩ | ⟨w2,_⟩ | ⟨w2,_⟩
        ·exact w2
        ·rw [w2] at h3;grind
        ·grind
      rcases cv (pv c x) with ⟨w,_⟩ | ⟨w,_⟩ | ⟨_,w⟩
      ·grind
      ·grind
      ·rcases cv (pv a x) with ⟨_,v⟩ | ⟨v,_⟩ | ⟨v,_⟩
       ·rw [w,v];decide
       ·grind
       ·grind
     ·have h2:β*pv c x<=β*(-κ):=Rat.mul_le_mul_of_nonneg_left z (Rat.le_of_lt hβ)
      have h3:0<α*pv a x:=by grind
      have h4:0<pv a x:=by
       rcases cv (pv a x) with ⟨w2,_⟩ | ⟨w2,_⟩ | ⟨w2,_⟩
       ·have:=Rat.mul_nonneg (Rat.le_of_lt hα) (show 0 <= -pv a x by grind);grind
       ·rw [w2] at h3;grind
       ·exact w2
      rcases cv (pv c x) with ⟨_,w⟩ | ⟨w,_⟩ | ⟨w,_⟩
      ·rcases cv (pv a x) with ⟨v,_⟩ | ⟨v,_⟩ | ⟨_,v⟩
       ·grind
       ·grind
       ·rw [w,v]
      ·grind
      ·grind
    have hop':sgR (pv c y) = -sgR (pv a x):=by rw [<- sc.1];exact hop
    have t:Al (sgR (pv c x)) (sgX r x) (sgX r y):=l2 x y hx hy hxy (by grind) c r rfl sc
    rw [hop] at t
    show Al _ (_::sgR (pv c x)::sgX r x) (_::sgR (pv c y)::sgX r y)
    rw [hop,hop']
    exact .unst (mQ _) (mQ _) t
def chg (f:Rat->Rat) (x y:Rat):Int:=if sgR (f x)≠0/\sgR (f y)≠sgR (f x) then 1 else 0
def vrs (row:List (List Int)) (x:Rat):Int:=vr 0 (sgX row x)
theorem oA {s:Int} (r:List Int):vr 0 (s::r)=vr s r:=by
 show (if s*0<0 then 1 else 0)+vr (if s=0 then 0 else s) r=_
 rw [Int.mul_zero,if_neg (by decide),Int.zero_add]
 split
 ·rename_i h;rw [h]
 ·rfl
theorem BM {F0 F1:List Int} {r:List (List Int)} (h:SRow (F0::F1::r)) {γ:Rat} (hγ:0<γ) (hd:∀ x,pv (slopeL F0) x=γ*pv F1 x) {R:Rat} (hR:0<=R) :
 ∃ δ:Rat,0<δ/\∀ x y,Bd R x->Bd R y->x<y->y-x<=δ->vrs (F0::F1::r) x-vrs (F0::F1::r) y=chg (pv F0) x y:=by
 obtain ⟨⟨δ1,d1,l1⟩,⟨δ2,d2,l2⟩⟩:=yR h R hR
 obtain ⟨A,B,k,nA,nB,hk,hAB⟩:=AB h rfl
 obtain ⟨δ3,κ,d3,hκ,l3⟩:=x6 (eO F0) (eO F1) nA nB hk hAB hR
 obtain ⟨M,m0,m1⟩:=xO F0 R hR
 have hγκ:=Rat.mul_pos hγ hκ
 obtain ⟨δ,hδ,g1,g2,g3,g4⟩:∃ δ:Rat,0<δ/\δ<=δ1/\δ<=δ2/\δ<=δ3/\δ*(M+1)<=γ*κ:=by
  have hT:0<M+1:=by grind
  have hw:=fk hγκ hT
  have hw2:γ*κ/(M+1)*(M+1)=γ*κ:=Rat.div_mul_cancel (by grind)
  have two:∀ u v:Rat,0<u->0<v->∃ w:Rat,0<w/\w<=u/\w<=v:=fun u v hu hv=>by
   rcases Rat.le_total (a:=u) (b:=v) with z | z
   ·exact ⟨u,hu,Rat.le_refl,z⟩
   ·exact ⟨v,hv,z,Rat.le_refl⟩
  obtain ⟨u,hu,u1,u2⟩:=two δ1 δ2 d1 d2
  obtain ⟨v,hv,v1,v2⟩:=two u δ3 hu d3
  obtain ⟨w,hw',w1,w2⟩:=two v _ hv hw
  refine ⟨w,hw',by grind,by grind,by grind,?_⟩
  have:=Rat.mul_le_mul_of_nonneg_right w2 (Rat.le_of_lt hT)
  rwa [hw2] at this
 refine ⟨δ,hδ,fun x y hx hy hxy hyd=>?_⟩
 have e0:∀ z,vrs (F0::F1::r) z=vr (sgR (pv F0 z)) (sgX (F1::r) z):=fun z=>oA _
 have nz:∀ {v:Rat},sgR v≠0->sgR v=1\/sgR v = -1:=fun {v} hv=>by rcases mQ v with z | z | z;exact .inl z;exact absurd z hv;exact .inr z
 rw [e0,e0]
 by_cases s0:Sta (pv F0) x y
 ·have t:=(l1 x y hx hy hxy (by grind) F0 (F1::r) rfl s0).vr (nz s0.2) (xh _ _)
  rw [<- s0.1,t]
  unfold chg
  rw [if_neg (fun z=>z.2 s0.1.symm)];omega
 ·obtain ⟨s1,c1,c2⟩:=l3 x y hx hy hxy (by grind) s0
  have t:=(l2 x y hx hy hxy (by grind) F1 r rfl s1).vr (nz s1.2) (xh _ _)
  have hyx:0<y-x:=by grind
  have hyy:0<(y-x)*(y-x):=Rat.mul_pos hyx hyx
  obtain ⟨f1,f2⟩:=m1 x y hx hy (by grind)
  have small:M*((y-x)*(y-x))<(y-x)*(γ*κ):=by
   have h1:(y-x)*(M+1)<=γ*κ:=by
    have:=Rat.mul_le_mul_of_nonneg_right hyd (show 0<=M+1 by grind)
    grind
   have h2:(y-x)*((y-x)*(M+1))<=(y-x)*(γ*κ):=Rat.mul_le_mul_of_nonneg_left h1 (Rat.le_of_lt hyx)
   grind
  rw [hd] at f1 f2
  show vr (sgR (pv F0 x)) (sgR (pv F1 x)::sgX r x)-vr (sgR (pv F0 y)) (sgR (pv F1 y)::sgX r y)=_
  have hu:∀ (b s:Int) (l:List Int),s≠0->vr b (s::l)=(if s*b<0 then 1 else 0)+vr s l:=fun b s l hs=>by
   show _+vr (if s=0 then b else s) l=_
   rw [if_neg hs]
  have s1':sgR (pv F1 y)=sgR (pv F1 x):=s1.1.symm
  rw [s1',hu _ _ _ s1.2,hu _ _ _ s1.2,t]
  unfold chg
  rcases c1 with z | z
  ·
   have h1:γ*κ<=γ*pv F1 x:=Rat.mul_le_mul_of_nonneg_left z (Rat.le_of_lt hγ)
   have h2:(y-x)*(γ*κ)<=(y-x)*(γ*pv F1 x):=Rat.mul_le_mul_of_nonneg_left h1 (Rat.le_of_lt hyx)
   have rise:pv F0 x<pv F0 y:=by grind
   have s1p:sgR (pv F1 x)=1:=by
    rcases cv (pv F1 x) with ⟨w,_⟩ | ⟨w,_⟩ | ⟨_,w⟩
    ·grind
    ·grind
    ·exact w
   rw [s1p]
   rcases cv (pv F0 x) with ⟨a1,a2⟩ | ⟨a1,a2⟩ | ⟨a1,a2⟩<;>rcases cv (pv F0 y) with ⟨b1,b2⟩ | ⟨b1,b2⟩ | ⟨b1,b2⟩
   ·exact absurd ⟨by rw [a2,b2],by rw [a2];decide⟩ s0
   ·rw [a2,b2];simp
   ·rw [a2,b2];simp
   ·grind
   ·grind
   ·rw [a2,b2];simp
   ·grind
   ·grind
   ·exact absurd ⟨by rw [a2,b2],by rw [a2];decide⟩ s0
  ·have h1:γ*pv F1 x<=γ*(-κ):=Rat.mul_le_mul_of_nonneg_left z (Rat.le_of_lt hγ)
   have h2:(y-x)*(γ*pv F1 x)<=(y-x)*(γ*(-κ)):=Rat.mul_le_mul_of_nonneg_left h1 (Rat.le_of_lt hyx)
   have fall:pv F0 y<pv F0 x:=by grind
   have s1p:sgR (pv F1 x) = -1:=by
    rcases cv (pv F1 x) with ⟨_,w⟩ | ⟨w,_⟩ | ⟨w,_⟩
    ·exact w
    ·grind
    ·grind
   rw [s1p]
   rcases cv (pv F0 x) with ⟨a1,a2⟩ | ⟨a1,a2⟩ | ⟨a1,a2⟩<;>rcases cv (pv F0 y) with ⟨b1,b2⟩ | ⟨b1,b2⟩ | ⟨b1,b2⟩
   ·exact absurd ⟨by rw [a2,b2],by rw [a2];decide⟩ s0
   ·grind
   ·grind
   ·rw [a2,b2];simp
   ·grind
   ·grind
   ·rw [a2,b2];simp
   ·rw [a2,b2];simp
   ·exact absurd ⟨by rw [a2,b2],by rw [a2];decide⟩ s0
end RM
namespace RM
structure Cut (s:Rat->Int):Prop where
 u:∀ x,gU (s x)
 m:∀ x y,x<y->s x<=0->s y = -1
def cnt (S:List (Rat->Int)) (x y:Rat):Int:=(S.map fun s=>if 0<s x/\s y<=0 then (1:Int) else 0).sum
theorem zY (x y:Rat):cnt [] x y=0:=rfl
theorem ee (s:Rat->Int) (S:List (Rat->Int)) (x y:Rat):cnt (s::S) x y=(if 0<s x/\s y<=0 then 1 else 0)+cnt S x y:=by unfold cnt;rw [List.map_cons,List.sum_cons]
theorem tU {x y z:Rat} (hxy:x<y) (hyz:y<z):∀ {S:List (Rat->Int)},(∀ s∈S,Cut s)->cnt S x z=cnt S x y+cnt S y z
 | [],_=>rfl
 | s::S,h=>by
   have hs:=h s (List.mem_cons_self ..)
   have ih:=tU hxy hyz (S:=S) fun t ht=>h t (List.mem_cons_of_mem _ ht)
   rw [ee,ee,ee,ih]
   have e:(if 0<s x/\s z<=0 then (1:Int) else 0)=(if 0<s x/\s y<=0 then 1 else 0)+(if 0<s y/\s z<=0 then 1 else 0):=by
    by_cases hy:s y<=0
    ·have hz:=hs.m y z hyz hy
     rw [if_neg (show ¬ (0<s y/\s z<=0) by omega)]
     by_cases hx:0<s x
     ·rw [if_pos ⟨hx,by omega⟩,if_pos ⟨hx,hy⟩];rfl
     ·rw [if_neg (by omega),if_neg (by omega)];rfl
    ·have hx:0<s x:=by
      rcases Int.lt_or_le 0 (s x) with q | q
      ·exact q
      ·have:=hs.m x y hxy q;omega
     rw [if_neg (show ¬ (0<s x/\s y<=0) by omega)]
     by_cases hz:s z<=0
     ·rw [if_pos ⟨hx,hz⟩,if_pos ⟨by omega,hz⟩];rfl
     ·rw [if_neg (by omega),if_neg (by omega)];rfl
   rw [e];omega
def cpr (x:Rat):List (Rat->Int)->Int
 | []=>1
 | s::S => -s x*cpr x S
theorem om (x:Rat):∀ a b,cpr x (a++b)=cpr x a*cpr x b
 | [],b=>by show _=1*_;rw [Int.one_mul];rfl
 | s::a,b=>by show _*cpr x (a++b)=_*_*_;rw [om x a b,Int.mul_assoc]
def inC (s:Rat->Int) (x y:Rat):Prop:=0<=s x/\s y<=0
theorem GP {s:Rat->Int} (h:Cut s) {x y:Rat} (hxy:x<y) (hn:¬ inC s x y):s x=s y/\(s x=1\/s x = -1):=by
 have h1:=h.u x
 have h2:=h.u y
 unfold inC at hn
 by_cases hx:s x<=0
 ·have:=h.m x y hxy hx
  rcases h1 with a | a | a<;>omega
 ·rcases h1 with a | a | a
  ·rcases h2 with b | b | b<;>omega
  ·omega
  ·omega
theorem rZ {x y:Rat} (hxy:x<y):∀ {S:List (Rat->Int)},(∀ s∈S,Cut s)->(∀ s∈S,¬ inC s x y)->cpr x S=cpr y S/\(cpr x S=1\/cpr x S = -1)/\cnt S x y=0
 | [],_,_=>⟨rfl,.inl rfl,rfl⟩
 | s::S,h,hn=>by
   obtain ⟨i1,i2,i3⟩:=rZ hxy (S:=S) (fun t ht=>h t (List.mem_cons_of_mem _ ht)) fun t ht=>hn t (List.mem_cons_of_mem _ ht)
   obtain ⟨a1,a2⟩:=GP (h s (List.mem_cons_self ..)) hxy (hn s (List.mem_cons_self ..))
   refine ⟨by show -s x*cpr x S = -s y*cpr y S;rw [a1,i1],?_,?_⟩
   ·show -s x*cpr x S=1 \/ -s x*cpr x S = -1
    rcases a2 with z | z<;>rcases i2 with w | w<;>rw [z,w]<;>decide
   ·rw [ee,i3,if_neg (by omega)];rfl
theorem tT (x y:Rat):∀ a b,cnt (a++b) x y=cnt a x y+cnt b x y
 | [],b=>by rw [zY];simp
 | s::a,b=>by rw [List.cons_append,ee,ee,tT x y a b];omega
theorem Af {f:Rat->Rat} {S:List (Rat->Int)} {ε:Int} (hε:ε=1\/ε = -1) (hS:∀ s∈S,Cut s) {x y:Rat} (hxy:x<y) (hx:sgR (f x)=ε*cpr x S) (hy:sgR (f y)=ε*cpr y S) (hp:S.Pairwise fun s t=>¬ (inC s x y/\inC t x y)):chg f x y=cnt S x y:=by
 by_cases hall:∀ s∈S,¬ inC s x y
 ·obtain ⟨k1,k2,k3⟩:=rZ hxy hS hall
  rw [k3]
  unfold chg
  rw [if_neg]
  rintro ⟨_,h2⟩
  exact h2 (by rw [hx,hy,k1])
 ·obtain ⟨s,hs,hin⟩:∃ s,s∈S/\inC s x y:=by
   refine Classical.byContradiction fun z=>hall fun s hs hi=>z ⟨s,hs,hi⟩
  obtain ⟨pre,post,rfl⟩:=List.append_of_mem hs
  have hno:∀ t∈pre++post,¬ inC t x y:=fun t ht hi=>by
   rw [List.pairwise_append] at hp
   rcases List.mem_append.mp ht with z | z
   ·exact hp.2.2 t z s (List.mem_cons_self ..) ⟨hi,hin⟩
   ·exact (List.pairwise_cons.mp hp.2.1).1 t z ⟨hin,hi⟩
  have hS':∀ t∈pre++post,Cut t:=fun t ht=>hS t (by
   rcases List.mem_append.mp ht with z | z
   ·exact List.mem_append_left _ z
   ·exact List.mem_append_right _ (List.mem_cons_of_mem _ z))
  obtain ⟨k1,k2,k3⟩:=rZ hxy hS' hno
  have hc:=hS s hs
  have e1:∀ z,cpr z (pre++s::post)=cpr z (pre++post) * -s z:=fun z=>by
   rw [om,om]
   show cpr z pre*(-s z*cpr z post)=_
   rw [Int.mul_comm (-s z),Int.mul_assoc]
  have e2:cnt (pre++s::post) x y=(if 0<s x/\s y<=0 then 1 else 0):=by
   rw [tT,ee]
   rw [tT] at k3
   omega
  rw [e1] at hx hy
  rw [<- k1] at hy
  rw [e2]
  unfold inC at hin
  have h1:=hc.u x
  have h2:=hc.u y
  unfold chg
  rw [hx,hy]
  generalize cpr x (pre++post)=c at *
  have hs0:s x=0->s y = -1:=fun z=>hc.m x y hxy (by omega)
  rcases h1 with a | a | a
  ·rw [a]
   rcases h2 with b | b | b
   ·omega
   ·rw [b]
    rcases hε with rfl | rfl<;>rcases k2 with rfl | rfl<;>simp
   ·rw [b]
    rcases hε with rfl | rfl<;>rcases k2 with rfl | rfl<;>simp
  ·rw [a]
   simp
  ·omega
theorem AM (q:Rat):∃ n:Nat,q<=(n:Rat):=by
 refine ⟨q.ceil.toNat,Rat.le_trans (Rat.le_ceil (x:=q)) ?_⟩
 have h:q.ceil<=(q.ceil.toNat:Int):=Int.self_le_toNat _
 have h2:=Rat.intCast_le_intCast.mpr h
 exact h2
theorem yo (n:Nat):(n:Rat)<=2^n:=by
 induction n with
 | zero=>decide
 | succ n ih =>
   have h1:((1:Nat):Rat)<=2^n:=by
    have:(1:Nat)<=2^n:=Nat.pow_pos (by decide)
    have h2:((1:Nat):Rat)<=((2^n:Nat):Rat):=Rat.natCast_le_natCast.mpr this
    rwa [Rat.natCast_pow] at h2
   rw [Rat.pow_succ,Rat.natCast_add]
   grind
theorem ua {V:Rat->Int} {S:List (Rat->Int)} (hS:∀ s∈S,Cut s) {R δ:Rat} (hδ:0<δ) (h:∀ x y,Bd R x->Bd R y->x<y->y-x<=δ->V x-V y=cnt S x y):∀ (n:Nat) (x y:Rat),Bd R x->Bd R y->x<y->y-x<=2^n*δ->V x-V y=cnt S x y
 | 0,x,y,hx,hy,hxy,hd=>h x y hx hy hxy (by rw [Rat.pow_zero] at hd;grind)
 | n+1,x,y,hx,hy,hxy,hd=>by
   have m1:x<(x+y)/2:=by grind
   have m2:(x+y)/2<y:=by grind
   have hm:Bd R ((x+y)/2):=by
    obtain ⟨a,b⟩:=hx
    obtain ⟨c,d⟩:=hy
    constructor<;>grind
   rw [Rat.pow_succ] at hd
   have i1:=ua hS hδ h n x ((x+y)/2) hx hm m1 (by grind)
   have i2:=ua hS hδ h n ((x+y)/2) y hm hy m2 (by grind)
   rw [tU m1 m2 hS]
   omega
theorem BN {F0 F1:List Int} {r:List (List Int)} (h:SRow (F0::F1::r)) {γ:Rat} (hγ:0<γ) (hd:∀ x,pv (slopeL F0) x=γ*pv F1 x) {S:List (Rat->Int)} (hS:∀ s∈S,Cut s) {ε:Int} (hε:ε=1\/ε = -1) (hf:∀ x,sgR (pv F0 x)=ε*cpr x S)
 {δ0:Rat} (hδ0:0<δ0) (hp:∀ x y,x<y->y-x<=δ0->S.Pairwise fun s t=>¬ (inC s x y/\inC t x y)) {x y:Rat} (hxy:x<y):vrs (F0::F1::r) x-vrs (F0::F1::r) y=cnt S x y:=by
 obtain ⟨R,hR,hx,hy⟩:∃ R:Rat,0<=R/\Bd R x/\Bd R y:=by
  have ab:∀ v:Rat,∃ w:Rat,0<=w/\Bd w v:=fun v=>by
   rcases Rat.le_total (a:=0) (b:=v) with z | z
   ·exact ⟨v,z,by grind,by grind⟩
   ·exact ⟨-v,by grind,by grind,by grind⟩
  obtain ⟨u,u0,u1⟩:=ab x
  obtain ⟨v,v0,v1⟩:=ab y
  exact ⟨u+v,by grind,u1.mono (by grind),v1.mono (by grind)⟩
 obtain ⟨δ1,d1,l1⟩:=BM h hγ hd hR
 obtain ⟨δ,hδ,g1,g2⟩:∃ δ:Rat,0<δ/\δ<=δ0/\δ<=δ1:=by
  rcases Rat.le_total (a:=δ0) (b:=δ1) with z | z
  ·exact ⟨δ0,hδ0,Rat.le_refl,z⟩
  ·exact ⟨δ1,d1,z,Rat.le_refl⟩
 obtain ⟨n,hn⟩:=AM ((y-x)/δ)
 refine ua hS hδ (R:=R) (fun x y hx hy hxy hdd=>?_) n x y hx hy hxy ?_
 ·rw [l1 x y hx hy hxy (by grind)]
  exact Af hε hS hxy (hf x) (hf y) (hp x y hxy (by grind))
 ·have h1:(y-x)/δ<=2^n:=Rat.le_trans hn (yo n)
  have h2:=Rat.mul_le_mul_of_nonneg_right h1 (Rat.le_of_lt hδ)
  rwa [Rat.div_mul_cancel (by grind)] at h2
theorem sn {n:Int} (hn:n≠0):(n:Rat)≠0:=fun z=>hn (Rat.intCast_inj.mp (show ((n:Int):Rat)=((0:Int):Rat) by rw [z];rfl))
theorem nq (q:Rat):(q.num:Rat)=q*((q.den:Int):Rat):=by
 have hd:((q.den:Int):Rat)≠0:=sn (by have:=q.den_pos;omega)
 have hx:(q.num:Rat)/((q.den:Int):Rat)=q:=by
  have:=Rat.mkRat_self q
  rw [Rat.mkRat_eq_div] at this
  exact this
 have:=Rat.div_mul_cancel (a:=(q.num:Rat)) hd
 rw [hx] at this
 exact this.symm
theorem Dm {t n:Int} (hn:0<n):((t:Rat)/(n:Rat)).num*n=t*(((t:Rat)/(n:Rat)).den:Int):=by
 have hn':(n:Rat)≠0:=sn (by omega)
 have hq:(t:Rat)/(n:Rat)*(n:Rat)=(t:Rat):=Rat.div_mul_cancel hn'
 generalize (t:Rat)/(n:Rat)=q at hq ⊢
 apply Rat.intCast_inj.mp
 rw [Rat.intCast_mul,Rat.intCast_mul,nq q,<- hq]
 grind
theorem ia {t n t' n':Int} (hn:0<n) (hn':0<n'):(t:Rat)/(n:Rat)<(t':Rat)/(n':Rat)↔t*n'<t'*n:=by
 have p1:(0:Rat)<(n:Rat):=Rat.intCast_lt_intCast.mpr hn
 have p2:(0:Rat)<(n':Rat):=Rat.intCast_lt_intCast.mpr hn'
 have e1:(t:Rat)/(n:Rat)*(n:Rat)=(t:Rat):=Rat.div_mul_cancel (by grind)
 have e2:(t':Rat)/(n':Rat)*(n':Rat)=(t':Rat):=Rat.div_mul_cancel (by grind)
 generalize (t:Rat)/(n:Rat)=q at e1 ⊢
 generalize (t':Rat)/(n':Rat)=q' at e2 ⊢
 rw [<- Rat.intCast_lt_intCast,Rat.intCast_mul,Rat.intCast_mul,<- e1,<- e2]
 have p3:=Rat.mul_pos p1 p2
 have e3:q*(n:Rat)*(n':Rat)=q*((n:Rat)*(n':Rat)):=by grind
 have e4:q'*(n':Rat)*(n:Rat)=q'*((n:Rat)*(n':Rat)):=by grind
 rw [e3,e4]
 constructor
 ·intro h;exact Rat.mul_lt_mul_of_pos_right h p3
 ·intro h
  refine Rat.not_le.mp fun z=>?_
  have:=Rat.mul_le_mul_of_nonneg_right z (Rat.le_of_lt p3)
  grind
theorem xi {p v:Rat} (hp:0<p):sgR (p*v)=sgR v:=by
 rcases cv v with ⟨a,b⟩ | ⟨a,b⟩ | ⟨a,b⟩
 ·have:p*v<0:=by
   have:=Rat.mul_pos hp (show 0 < -v by grind);grind
  rcases cv (p*v) with ⟨_,d⟩ | ⟨c,d⟩ | ⟨c,d⟩
  ·rw [b,d]
  ·grind
  ·grind
 ·rw [a]
  have:p*0=0:=by grind
  rw [this]
 ·have:=Rat.mul_pos hp a
  rcases cv (p*v) with ⟨c,d⟩ | ⟨c,d⟩ | ⟨_,d⟩
  ·grind
  ·grind
  ·rw [b,d]
theorem Ch (z:Int):sgR (z:Rat)=sg z:=by
 rcases cv (z:Rat) with ⟨a,b⟩ | ⟨a,b⟩ | ⟨a,b⟩
 ·have:z<0:=Rat.intCast_lt_intCast.mp a
  rw [b];unfold sg;rw [if_pos this]
 ·have:z=0:=Rat.intCast_inj.mp a
  rw [this];rfl
 ·have:0<z:=Rat.intCast_lt_intCast.mp a
  rw [b];unfold sg;rw [if_neg (by omega),if_pos this]
theorem sr {t n:Int} (hn:0<n):∀ l:List Int,(hv t n l:Rat)=(n:Rat)^l.length*pv l ((t:Rat)/(n:Rat))
 | []=>by show ((0:Int):Rat)=_*0;grind
 | c::l=>by
   have hn':(n:Rat)≠0:=sn (by omega)
   have hq:(t:Rat)/(n:Rat)*(n:Rat)=(t:Rat):=Rat.div_mul_cancel hn'
   rw [dz,Rat.intCast_add,Rat.intCast_mul,Rat.intCast_mul,sr hn l,Rat.intCast_pow]
   show _=(n:Rat)^(l.length+1)*((c:Rat)+(t:Rat)/(n:Rat)*pv l ((t:Rat)/(n:Rat)))
   rw [Rat.pow_succ]
   generalize hqq:(t:Rat)/(n:Rat)=q at *
   rw [<- hq]
   grind
theorem o8 {t n:Int} (hn:0<n) (l:List Int):sg (hv t n l)=sgR (pv l ((t:Rat)/(n:Rat))):=by
 rw [<- Ch,sr hn]
 exact xi (Rat.pow_pos (Rat.intCast_lt_intCast.mpr hn))
end RM
namespace RM
def Cop2 (a b:List Int):Prop:=∀ d,d≠[]->Tr d->Dv d a->Dv d b->d.length<=1
theorem Fo {one other:List Int} (ho:other≠[]):∀ n,ca one other*cf one n=av (bZ one other) other n-(aw (cG [] (aN one other)):Int)*cf (nxt one other) n:=fun n=>by
 have h1:=gM (a:=one) ho n
 have e:nxt one other=ar (cG [] (aN one other)):=by unfold nxt rst;rw [if_neg ho]
 have h2:=congrArg (fun l=>cf l n) (mL (l:=cG [] (aN one other)))
 simp only [bF] at h2
 have h3:cf (cG [] (aN one other)) n = -cf (aN one other) n:=by
  rw [mz (fF _ _),bF];omega
 rw [e,h2,h3,h1];omega
theorem Bq (one other:List Int):Tr (nxt one other):=by
 unfold nxt
 exact fK (by unfold cG;exact fj _)
theorem Fp {one other:List Int} (ho:other≠[]):(nxt one other).length<other.length:=by
 have h1:=gf (a:=one) ho
 unfold nxt rst
 rw [if_neg ho,mz (fF _ _)]
 have h2:(ar (scL (-1) (aN one other))).length<=(scL (-1) (aN one other)).length:=by
  unfold ar;rw [List.length_map];exact Nat.le_refl _
 rw [b9] at h2
 omega
theorem rT {l:List Int} (h:l.length<=1) (hne:l≠[]):∃ c,l=[c]:=List.length_eq_one_iff.mp (by have:=List.length_pos_iff.mpr hne;omega)
theorem xq:∀ (n:Nat) (one other:List Int),other.length<=n->Tr one->one≠[]->Tr other->Cop2 one other->SRow (bC (n+1) one other)
 | 0,one,other,hl,to,no,tt,hc=>by
   have e0:other=[]:=List.eq_nil_of_length_eq_zero (Nat.le_zero.mp hl)
   subst e0
   have h1:=hc one no to (Dv.refl _) (Dv.nil _)
   obtain ⟨c,rfl⟩:=rT h1 no
   show SRow (if ([c]:List Int)=[] then _ else [c]::bC 0 [] (nxt [c] []))
   rw [if_neg no]
   exact .last (tr_snoc (r:=[]) |>.mp to)
 | n+1,one,other,hl,to,no,tt,hc=>by
   have e:bC (n+1+1) one other=one::bC (n+1) other (nxt one other):=by show (if one=[] then _ else _)=_;rw [if_neg no]
   rw [e]
   by_cases ho:other=[]
   ·subst ho
    have h1:=hc one no to (Dv.refl _) (Dv.nil _)
    obtain ⟨c,rfl⟩:=rT h1 no
    rw [kq]
    exact .last (tr_snoc (r:=[]) |>.mp to)
   have hs:=Fo (one:=one) ho
   have hlen:=Fp (one:=one) ho
   have tn:=Bq one other
   have fp:0<ca one other:=JV ho tt
   by_cases hn:nxt one other=[]
   ·
    have hdv:Dv other one:=⟨ca one other,bZ one other,by omega,fun k=>by rw [hs k,hn,cq];omega⟩
    have h1:=hc other ho tt hdv (Dv.refl _)
    obtain ⟨c,rfl⟩:=rT h1 ho
    rw [hn,xr ho (by omega)]
    exact .two (tr_snoc (r:=[]) |>.mp tt)
   ·have hc2:Cop2 other (nxt one other):=fun d dn dt h1 h2=>by
     refine hc d dn dt ?_ h1
     refine Dv.up (f:=ca one other) (q:=bZ one other) (r:=scL (-(aw (cG [] (aN one other)):Int)) (nxt one other)) (by omega) (fun k=>?_) h1 ?_
     ·rw [hs k,bF,Int.neg_mul];omega
     ·exact Dv.prop_right (x:=1) (y := -(aw (cG [] (aN one other)):Int)) (by decide) (fun k=>by rw [bF];omega) h2
    have ih:=xq n other (nxt one other) (by omega) tt ho tn hc2
    have e2:bC (n+1) other (nxt one other)=other::bC n (nxt one other) (nxt other (nxt one other)):=by show (if other=[] then _ else _)=_;rw [if_neg ho]
    have n1:0<n:=by
     have:=List.length_pos_iff.mpr hn
     omega
    obtain ⟨m,rfl⟩:∃ m,n=m+1:=⟨n-1,by omega⟩
    have e3:bC (m+1) (nxt one other) (nxt other (nxt one other))=nxt one other::bC m (nxt other (nxt one other)) (nxt (nxt one other) (nxt other (nxt one other))):=by show (if nxt one other=[] then _ else _)=_;rw [if_neg hn]
    rw [e2,e3] at ih ⊢
    have gp:0<(aw (cG [] (aN one other)):Int):=by
     rcases Nat.eq_zero_or_pos (aw (cG [] (aN one other))) with z | z
     ·exfalso
      apply hn
      refine rz tn fun k=>?_
      have e:nxt one other=ar (cG [] (aN one other)):=by unfold nxt rst;rw [if_neg ho]
      rw [e]
      unfold ar
      rw [z]
      unfold cf
      simp [List.getD]
      cases (cG [] (aN one other))[k]? with
      | none=>rfl
      | some v=>simp
     ·omega
    refine .cons (q:=bZ one other) (α:=(ca one other:Rat)) (β:=((aw (cG [] (aN one other)):Int):Rat)) (Rat.intCast_lt_intCast.mpr fp) (Rat.intCast_lt_intCast.mpr gp) (fun x=>?_) ih
    have h1:=ky (a:=one) (c:=scL (ca one other) one) (u:=ca one other) x fun k=>bF _ _ _
    have h2:=xP x (bZ one other) other (af (bZ one other) other) (aM _ _)
    have h3:=mZ (a:=af (bZ one other) other) (b:=nxt one other) (c:=scL (ca one other) one) (u:=1) (v := -(aw (cG [] (aN one other)):Int)) x fun k=>by rw [bF,hs k,aM,Int.neg_mul];omega
    rw [<- h1,h3,h2,Rat.intCast_neg]
    show ((1:Int):Rat)*_+_=_
    grind
theorem xR {ss:List (List Int)} (h:∀ s∈ss,Pri s):aP [1] ss=prd ss:=by
 unfold aP
 rw [zx,one_mul _ (ig ss fun s hs=>(h s hs).pln).tr]
theorem eY {f:List Int} (h:FacG f):Pri (ag f):=by
 obtain ⟨u,e,b,rfl,_,_,_,_,h5,_,h7⟩:=h
 exact Dk h5 h7
def gW (fs:List (List Int)):List (List Int×Nat):=fs.map fun f=>(ag f,1)
theorem vi {fs:List (List Int)} (hF:∀ f∈fs,FacG f) (hn:(fs.map ag).Nodup):Use (gW fs):=by
 refine ⟨fun p hp=>?_,fun p hp=>?_,?_⟩
 ·obtain ⟨f,hf,rfl⟩:=List.mem_map.mp hp
  exact eY (hF f hf)
 ·obtain ⟨f,hf,rfl⟩:=List.mem_map.mp hp
  exact Nat.le_refl _
 ·unfold gW
  rw [List.map_map]
  exact hn
theorem vh {c:Int} {fs:List (List Int)} (hF:∀ f∈fs,FacG f):whl c (gW fs)=af [c] (aP [1] (fs.map ag)):=by
 unfold whl
 congr 1
 rw [xR fun s hs=>by obtain ⟨f,hf,rfl⟩:=List.mem_map.mp hs;exact eY (hF f hf)]
 have e1:fP id (gW fs)=flt (gW fs):=jO _ fun p hp=>by
  obtain ⟨f,hf,rfl⟩:=List.mem_map.mp hp;rfl
 rw [e1,zz]
 congr 1
 unfold gW
 rw [List.map_map];rfl
theorem zD:∀ us:List (List Int×Nat),fP (fun _=>0) us=[1]
 | []=>rfl
 | p::us=>by rw [fc,zD us];rfl
theorem Ba {fs:List (List Int)}:mor (gW fs) 1=[1]:=by
 unfold mor
 rw [jO (h:=fun _=>0) _ fun p hp=>by obtain ⟨f,hf,rfl⟩:=List.mem_map.mp hp;rfl]
 exact zD _
theorem DB {c:Int} {fs:List (List Int)} (hF:∀ f∈fs,FacG f) (hn:(fs.map ag).Nodup) (hc:c≠0) (hl:(af [c] (aP [1] (fs.map ag))).length<=20):Cop2 (af [c] (aP [1] (fs.map ag))) (slopeL (af [c] (aP [1] (fs.map ag)))):=fun d dn dt h1 h2=>by
 have U:=vi hF hn
 have ew:=vh (c:=c) hF
 obtain ⟨tw,nw,_⟩:=j4 U hc
 have hcom:=va U hc (by rw [ew];exact hl)
 rw [Ba] at hcom
 rw [<- ew] at h1 h2 hl
 have h3:=(zV (by rw [fZ];omega) tw (gX tw)).all d h1 h2
 rw [hcom] at h3
 rcases Nat.lt_or_ge 1 d.length with z | z
 ·have:=Dv.short dn dt ((tr_snoc (r:=[])).mpr (by decide)) (show ([1]:List Int).length<d.length from z) h3
  cases this
 ·exact z
theorem mM {l:List Int} (h:Tr l) (hne:l≠[]):0<(aw l:Int)/\Tr (ar l)/\ar l≠[]/\∀ n,cf l n=(aw l:Int)*cf (ar l) n:=by
 have e:=mL (l:=l)
 have ec:∀ n,cf l n=(aw l:Int)*cf (ar l) n:=fun n=>by
  have:=congrArg (fun z=>cf z n) e
  simp only [bF] at this
  exact this.symm
 have hl:(ar l).length=l.length:=by unfold ar;rw [List.length_map]
 refine ⟨?_,fK h,fun z=>by rw [z] at hl;exact hne (List.eq_nil_of_length_eq_zero hl.symm),ec⟩
 rcases Nat.eq_zero_or_pos (aw l) with z | z
 ·exfalso
  refine hne (rz h fun k=>?_)
  rw [ec k,z];simp
 ·omega
theorem Cop2.shr {a b:List Int} (h:Cop2 a b) (ha:Tr a) (hna:a≠[]) (hb:Tr b):Cop2 (ar a) (ar b):=fun d dn dt h1 h2=>by
 obtain ⟨_,_,_,ea⟩:=mM ha hna
 refine h d dn dt (Dv.prop_right (x:=1) (y:=(aw a:Int)) (by decide) (fun n=>by rw [ea n];omega) h1) ?_
 by_cases hnb:b=[]
 ·rw [hnb];exact Dv.nil _
 ·obtain ⟨_,_,_,eb⟩:=mM hb hnb
  exact Dv.prop_right (x:=1) (y:=(aw b:Int)) (by decide) (fun n=>by rw [eb n];omega) h2
def sdR (l:List Int) (x:Rat):Int:=ak l x.num x.den
theorem d9 (x:Rat):0<(x.den:Int):=by have:=x.den_pos;omega
theorem fM (l:List Int) {t n:Int} (hn:0<n):sdR l ((t:Rat)/(n:Rat))=ak l t n:=by
 unfold sdR
 exact g7 l (d9 _) hn (Dm hn)
theorem ko {l:List Int} (h:Spt l):Cut (sdR l):=by
 refine ⟨fun x=>?_,fun x y hxy hs=>?_⟩
 ·rcases dm l x.num x.den with z | z | z
  ·exact .inl z
  ·exact .inr (.inl z)
  ·exact .inr (.inr z)
 ·exact dR h (d9 x) (d9 y) ((Rat.lt_iff x y).mp hxy) hs
theorem tQ (x:Rat):∀ ls:List (List Int),cpr x (ls.map sdR)=spr x.num x.den ls
 | []=>rfl
 | l::ls=>by show -sdR l x*_ = -ak l x.num x.den*_;rw [tQ x ls];rfl
theorem tL (x:Rat):(x.num:Rat)/((x.den:Int):Rat)=x:=by
 have:=Rat.mkRat_self x
 rw [Rat.mkRat_eq_div] at this
 exact this
theorem ut {l l':List Int} (hl:Spt l) (hl':Spt l') (h:AZ l l') {x y:Rat} (hxy:x<y) (hd:y-x<=1/2^200):¬ (inC (sdR l) x y/\inC (sdR l') x y):=by
 rintro ⟨h1,h2⟩
 have hD:(0:Rat)<2^200:=Rat.pow_pos (by decide)
 have hDi:((2^200:Int):Rat)=2^200:=Rat.intCast_pow 2 200
 have f1:=Rat.floor_le (x*2^200)
 have f2:=Rat.lt_floor_add_one (x*2^200)
 rw [Rat.intCast_add] at f2
 have hd2:(y-x)*2^200<=1:=by
  have:=Rat.mul_le_mul_of_nonneg_right hd (Rat.le_of_lt hD)
  rwa [Rat.div_mul_cancel (by grind)] at this
 have key:∀ k:List Int,Spt k->inC (sdR k) x y->inS k ((x*2^200).floor-1) ((x*2^200).floor-1+128) (2^200):=fun k hk hi=>by
  have hc:=ko hk
  have eA:((((x*2^200).floor-1:Int)):Rat)/((2^200:Int):Rat)*2^200=((x*2^200).floor:Rat)-1:=by
   rw [hDi,Rat.div_mul_cancel (by grind),Rat.intCast_sub];rfl
  have eB:((((x*2^200).floor-1+128:Int)):Rat)/((2^200:Int):Rat)*2^200=((x*2^200).floor:Rat)-1+128:=by
   rw [hDi,Rat.div_mul_cancel (by grind),Rat.intCast_add,Rat.intCast_sub];rfl
  constructor
  ·rw [<- fM k (by decide)]
   generalize ((((x*2^200).floor-1:Int)):Rat)/((2^200:Int):Rat)=a at *
   have hax:a<x:=by
    refine Rat.not_le.mp fun z=>?_
    have:=Rat.mul_le_mul_of_nonneg_right z (Rat.le_of_lt hD)
    grind
   rcases Int.lt_or_le 0 (sdR k a) with w | w
   ·exact w
   ·have h3:=hc.m a x hax w
    have h4:=hi.1
    omega
  ·rw [<- fM k (by decide)]
   generalize ((((x*2^200).floor-1+128:Int)):Rat)/((2^200:Int):Rat)=b at *
   have hby:y<b:=by
    refine Rat.not_le.mp fun z=>?_
    have:=Rat.mul_le_mul_of_nonneg_right z (Rat.le_of_lt hD)
    have e1:((1:Int):Rat)=1:=rfl
    grind
   have h3:=hc.m y b hby hi.2
   omega
 exact h _ _ _ (Int.le_refl _) rfl (key l hl h1) (key l' hl' h2)
def bh (ls:List (List Int)) (t n t' n':Int):Int:=(ls.map fun l=>if 0<ak l t n/\ak l t' n'<=0 then (1:Int) else 0).sum
theorem jP {t n t' n':Int} (hn:0<n) (hn':0<n'):∀ ls:List (List Int),cnt (ls.map sdR) ((t:Rat)/(n:Rat)) ((t':Rat)/(n':Rat))=bh ls t n t' n'
 | []=>rfl
 | l::ls=>by
   have ih:=jP (t:=t) (t':=t') hn hn' ls
   rw [List.map_cons,ee,ih,fM l hn,fM l hn']
   unfold bh
   rw [List.map_cons,List.sum_cons]
def sgv (row:List (List Int)) (t n:Int):List Int:=row.map fun f=>sg (hv t n f)
theorem w6 {t n:Int} (hn:0<n) (row:List (List Int)):sgv row t n=sgX row ((t:Rat)/(n:Rat)):=by
 unfold sgv sgX
 exact List.map_congr_left fun f _=>o8 hn f
theorem J0 {c:Int} {fs:List (List Int)} (hF:∀ f∈fs,FacG f) (hnd:(fs.map ag).Nodup) (hc:c≠0) {P:List Int} (hP:P=af [c] (aP [1] (fs.map ag))) (hl:P.length<=20) {N:Nat} (hN:P.length<=N+1) {t n t' n':Int} (hn:0<n) (hn':0<n') (hlt:t*n'<t'*n) :
 vr 0 (sgv (bC (N+1) (ar P) (ar (slopeL P))) t n)-vr 0 (sgv (bC (N+1) (ar P) (ar (slopeL P))) t' n')=bh (aJ fs) t n t' n':=by
 have hFQ:∀ f∈fs,eD f:=fun f hf=>(hF f hf).q
 have U:=vi hF hnd
 have ew:=vh (c:=c) hF
 obtain ⟨tP,nP,_⟩:=j4 U hc
 rw [ew,<- hP] at tP nP
 have cop:=DB hF hnd hc (by rw [<- hP];exact hl)
 rw [<- hP] at cop
 have tS:=gX tP
 obtain ⟨g0,t0,n0,e0⟩:=mM tP nP
 have copS:=cop.shr tP nP tS
 have lS:(ar (slopeL P)).length=P.length-1:=by unfold ar;rw [List.length_map,fZ]
 have hst:=xq N (ar P) (ar (slopeL P)) (by omega) t0 n0 (fK tS) copS
 by_cases hs:slopeL P=[]
 ·
  have h1:P.length<=1:=by have:=congrArg List.length hs;rw [fZ] at this;simp at this;omega
  have hfs:fs=[]:=by
   cases fs with
   | nil=>rfl
   | cons f fs =>
     exfalso
     have hss:∀ s∈(f::fs).map ag,s≠[]/\Tr s:=fun s h=>by
      obtain ⟨x,hx,rfl⟩:=List.mem_map.mp h
      exact o4 (hFQ x hx)
     obtain ⟨p1,p2,p3⟩:=jv ((f::fs).map ag) [1] (by simp) ((tr_snoc (r:=[])).mpr (by decide)) hss
     have hl2:2<=(ag f).length:=by
      obtain ⟨u,e,b,rfl,hb⟩:=hFQ f (List.mem_cons_self ..)
      obtain ⟨_,l2⟩:=fL (u:=u) (e:=e) hb
      show 2<=(aC (aK u e b)).length
      rw [plain_len];exact l2
     have hsl:∀ ss:List (List Int),(∀ s∈ss,s≠[])->ss.length<=sl ss:=fun ss=>by
      induction ss with
      | nil=>intro _;exact Nat.le_refl _
      | cons s ss ih =>
        intro h
        have h1:=List.length_pos_iff.mpr (h s (List.mem_cons_self ..))
        have h2:=ih fun x hx=>h x (List.mem_cons_of_mem _ hx)
        show ss.length+1<=s.length+sl ss
        omega
     have h3:=hsl (fs.map ag) fun s hs=>(hss s (List.mem_cons_of_mem _ hs)).1
     have h4:sl ((f::fs).map ag)=(ag f).length+sl (fs.map ag):=rfl
     have h5:P.length=(aP [1] ((f::fs).map ag)).length:=by
      rw [hP,bI (by simp) p1]
      show 1+_-1=_
      omega
     simp only [List.length_map,List.length_cons,List.length_nil] at p3 h3
     omega
  subst hfs
  have hr:bC (N+1) (ar P) (ar (slopeL P))=[ar P]:=by
   have:ar (slopeL P)=[]:=by rw [hs];rfl
   rw [this]
   exact xr n0 (by omega)
  rw [hr]
  show vr 0 [_]-vr 0 [_]=0
  rw [oA,oA];rfl
 ·obtain ⟨g1,t1,n1,e1⟩:=mM tS hs
  have hN1:1<=N:=by
   have:=List.length_pos_iff.mpr n1
   omega
  obtain ⟨M,rfl⟩:∃ M,N=M+1:=⟨N-1,by omega⟩
  have er:bC (M+1+1) (ar P) (ar (slopeL P))=ar P::ar (slopeL P)::bC M (nxt (ar P) (ar (slopeL P))) (nxt (ar (slopeL P)) (nxt (ar P) (ar (slopeL P)))):=by
   show (if ar P=[] then _ else ar P::(if ar (slopeL P)=[] then _ else _))=_
   rw [if_neg n0,if_neg n1]
  rw [er] at hst ⊢
  have g0':(0:Rat)<((aw P:Int):Rat):=Rat.intCast_lt_intCast.mpr g0
  have g1':(0:Rat)<((aw (slopeL P):Int):Rat):=Rat.intCast_lt_intCast.mpr g1
  have hd:∀ x,pv (slopeL (ar P)) x=((aw (slopeL P):Int):Rat)/((aw P:Int):Rat)*pv (ar (slopeL P)) x:=fun x=>by
   have h1:=ky (a:=slopeL (ar P)) (c:=slopeL P) (u:=(aw P:Int)) x fun k=>by rw [ei,ei,e0 (k+1)];grind
   have h2:=ky (a:=ar (slopeL P)) (c:=slopeL P) (u:=(aw (slopeL P):Int)) x e1
   have h3:((aw (slopeL P):Int):Rat)/((aw P:Int):Rat)*((aw P:Int):Rat)=((aw (slopeL P):Int):Rat):=Rat.div_mul_cancel (by grind)
   rw [h1] at h2
   have h4:((aw P:Int):Rat)*pv (slopeL (ar P)) x=((aw P:Int):Rat)*(((aw (slopeL P):Int):Rat)/((aw P:Int):Rat)*pv (ar (slopeL P)) x):=by
    rw [h2]
    generalize ((aw (slopeL P):Int):Rat)/((aw P:Int):Rat)=w at *
    rw [<- h3];grind
   generalize pv (slopeL (ar P)) x=u at *
   generalize ((aw (slopeL P):Int):Rat)/((aw P:Int):Rat)*pv (ar (slopeL P)) x=v at *
   have h5:((aw P:Int):Rat)*(u-v)=0:=by grind
   rcases Rat.mul_eq_zero.mp h5 with z | z
   ·grind
   ·grind
  have hS:∀ s∈(aJ fs).map sdR,Cut s:=fun s hs=>by
   obtain ⟨l,hl,rfl⟩:=List.mem_map.mp hs
   exact ko (c9 hFQ hl)
  have hsg:sg c=1\/sg c = -1:=by
   rcases Int.lt_or_gt_of_ne hc with z | z
   ·right;unfold sg;rw [if_pos z]
   ·left;unfold sg;rw [if_neg (by omega),if_pos z]
  have hf:∀ x,sgR (pv (ar P) x)=sg c*cpr x ((aJ fs).map sdR):=fun x=>by
   have h1:=kA (t:=x.num) (n:=x.den) (c:=c) (d9 x) hFQ
   rw [<- hP,o8 (d9 x),tL] at h1
   rw [tQ,<- h1,ky (a:=ar P) (c:=P) (u:=(aw P:Int)) x e0,xi g0']
  have hap:=oJ hF hnd
  have hp:∀ x y:Rat,x<y->y-x<=1/2^200->((aJ fs).map sdR).Pairwise fun s t=>¬ (inC s x y/\inC t x y):=fun x y hxy hdd=>by
   rw [List.pairwise_map]
   exact hap.imp_of_mem fun {l l'} hl hl' h=>ut (c9 hFQ hl) (c9 hFQ hl') h hxy hdd
  have:=BN hst (fk g1' g0') hd hS hsg hf (fk (by decide) (Rat.pow_pos (by decide))) hp ((ia hn hn').mpr hlt)
  rw [jP hn hn'] at this
  rw [w6 hn,w6 hn']
  exact this
end RM
namespace RM
theorem tZ {C:Rat->Rat->Prop} (hadd:∀ x y z,x<y->y<z->C x y->C y z->C x z) {δ a b:Rat} (hδ:0<δ) (h:∀ x y,a<=x->y<=b->x<y->y-x<=δ->C x y):∀ (n:Nat) (x y:Rat),a<=x->y<=b->x<y->y-x<=2^n*δ->C x y
 | 0,x,y,hx,hy,hxy,hd=>h x y hx hy hxy (by rw [Rat.pow_zero] at hd;grind)
 | n+1,x,y,hx,hy,hxy,hd=>by
   have m1:x<(x+y)/2:=by grind
   have m2:(x+y)/2<y:=by grind
   rw [Rat.pow_succ] at hd
   exact hadd x _ y m1 m2 (tZ hadd hδ h n x _ hx (by grind) m1 (by grind)) (tZ hadd hδ h n _ y (by grind) hy m2 (by grind))
theorem wN {δ:Rat} (hδ:0<δ) (w:Rat):∃ n:Nat,w<=2^n*δ:=by
 obtain ⟨n,hn⟩:=AM (w/δ)
 refine ⟨n,?_⟩
 have h1:w/δ<=2^n:=Rat.le_trans hn (yo n)
 have h2:=Rat.mul_le_mul_of_nonneg_right h1 (Rat.le_of_lt hδ)
 rwa [Rat.div_mul_cancel (by grind)] at h2
theorem AO (v:Rat):∃ w:Rat,0<=w/\Bd w v:=by
 rcases Rat.le_total (a:=0) (b:=v) with z | z
 ·exact ⟨v,z,by grind,by grind⟩
 ·exact ⟨-v,by grind,by grind,by grind⟩
theorem GO {f:Rat->Rat} (hf:Nice f) {a b:Rat} (hab:a<b) (h:∀ z,a<=z->z<=b->1<=f z\/f z <= -1):sgR (f a)=sgR (f b):=by
 obtain ⟨u,u0,u1⟩:=AO a
 obtain ⟨v,v0,v1⟩:=AO b
 obtain ⟨M,m0,m1,m2⟩:=hf (u+v) (by grind)
 have hB:∀ z,a<=z->z<=b->Bd (u+v) z:=fun z h1 h2=>by
  obtain ⟨p1,p2⟩:=u1
  obtain ⟨p3,p4⟩:=v1
  constructor<;>grind
 have hT:0<M+1:=by grind
 obtain ⟨n,hn⟩:=wN (fk (show (0:Rat)<1 by decide) hT) (b-a)
 refine tZ (C:=fun x y=>sgR (f x)=sgR (f y)) (fun x y z _ _ h1 h2=>h1.trans h2) (fk (show (0:Rat)<1 by decide) hT) (a:=a) (b:=b) (fun x y hx hy hxy hd=>?_) n a b (by grind) (by grind) hab hn
 have hd':(y-x)*(M+1)<=1:=by
  have:=Rat.mul_le_mul_of_nonneg_right hd (Rat.le_of_lt hT)
  rwa [Rat.div_mul_cancel (by grind)] at this
 obtain ⟨f1,f2⟩:=m2 x y (hB x hx (by grind)) (hB y (by grind) hy) (by grind)
 have hx1:=h x hx (by grind)
 have hy1:=h y (by grind) hy
 rcases cv (f x) with ⟨a1,a2⟩ | ⟨a1,a2⟩ | ⟨a1,a2⟩<;>rcases cv (f y) with ⟨b1,b2⟩ | ⟨b1,b2⟩ | ⟨b1,b2⟩
 ·rw [a2,b2]
 ·grind
 ·grind
 ·grind
 ·grind
 ·grind
 ·grind
 ·grind
 ·rw [a2,b2]
theorem rA {s:Rat->Int} {ε:Rat} (hε:0<ε):∀ (n:Nat) (x y:Rat),x<y->0<s x->s y<=0->y-x<=2^n*ε->∃ x' y',x<=x'/\x'<y'/\y'<=y/\y'-x'<=ε/\0<s x'/\s y'<=0
 | 0,x,y,hxy,hx,hy,hd=>⟨x,y,Rat.le_refl,hxy,Rat.le_refl,by rw [Rat.pow_zero] at hd;grind,hx,hy⟩
 | n+1,x,y,hxy,hx,hy,hd=>by
   have m1:x<(x+y)/2:=by grind
   have m2:(x+y)/2<y:=by grind
   rw [Rat.pow_succ] at hd
   by_cases h:s ((x+y)/2)<=0
   ·obtain ⟨x',y',h1,h2,h3,h4⟩:=rA hε n x _ m1 hx h (by grind)
    exact ⟨x',y',h1,h2,by grind,h4⟩
   ·obtain ⟨x',y',h1,h2,h3,h4⟩:=rA hε n _ y m2 (by omega) hy (by grind)
    exact ⟨x',y',by grind,h2,h3,h4⟩
theorem yj {f:Rat->Rat} (hf:Nice f) {S:List (Rat->Int)} {ε:Int} (hε:ε=1\/ε = -1) (hS:∀ s∈S,Cut s) (hv:∀ x,sgR (f x)=ε*cpr x S) {δ:Rat} (hδ:0<δ) (hp:∀ x y,x<y->y-x<=δ->S.Pairwise fun s t=>¬ (inC s x y/\inC t x y)) {a b:Rat} (hab:a<b) (h:∀ z,a<=z->z<=b->1<=f z\/f z <= -1) {s:Rat->Int} (hs:s∈S):¬ (0<s a/\s b<=0):=by
 rintro ⟨ha,hb⟩
 obtain ⟨n,hn⟩:=wN hδ (b-a)
 obtain ⟨x,y,h1,h2,h3,h4,h5,h6⟩:=rA hδ n a b hab ha hb hn
 have hc:=Af hε hS h2 (hv x) (hv y) (hp x y h2 h4)
 have hsame:=GO hf h2 fun z hz1 hz2=>h z (by grind) (by grind)
 unfold chg at hc
 rw [if_neg (fun z=>z.2 hsame.symm)] at hc
 have pos:∀ (S:List (Rat->Int)),s∈S->1<=cnt S x y:=fun S=>by
  induction S with
  | nil=>intro h;cases h
  | cons t S ih =>
    intro h
    have nn:∀ S:List (Rat->Int),0<=cnt S x y:=fun S=>by
     induction S with
     | nil=>exact Int.le_refl _
     | cons t S ih=>rw [ee];split<;>omega
    rw [ee]
    rcases List.mem_cons.mp h with rfl | h
    ·rw [if_pos ⟨h5,h6⟩];have:=nn S;omega
    ·have:=ih h
     split<;>omega
 have:=pos S hs
 omega
theorem Dy {ss:List (List Int)} (hs:∀ s∈ss,s≠[]/\Tr s) {t:Int} {n:Nat} (hn:0<n) (h:n^sl ss<=(pr t n ss).natAbs):1<=pv (aP [1] ss) ((t:Rat)/((n:Int):Rat))\/pv (aP [1] ss) ((t:Rat)/((n:Int):Rat)) <= -1:=by
 have hn':(0:Int)<(n:Int):=by omega
 obtain ⟨p1,p2,p3⟩:=jv ss [1] (by simp) ((tr_snoc (r:=[])).mpr (by decide)) hs
 have e1:=nU t n ss [1] (by simp) fun s h=>(hs s h).1
 rw [ld,Int.one_mul] at e1
 have e2:=congrArg Int.natAbs e1
 rw [Int.natAbs_mul,Int.natAbs_pow,Int.natAbs_mul,Int.natAbs_natCast] at e2
 have h3:n*n^sl ss<=n^ss.length*(hv t n (aP [1] ss)).natAbs:=by rw [e2];exact Nat.mul_le_mul_left _ h
 have e4:n*n^sl ss=n^ss.length*n^(aP [1] ss).length:=by
  rw [<- Nat.pow_add,Nat.mul_comm,<- Nat.pow_succ]
  congr 1
  have:([1]:List Int).length=1:=rfl
  omega
 rw [e4] at h3
 have h5:=Nat.le_of_mul_le_mul_left h3 (Nat.pow_pos hn)
 have e6:=sr (t:=t) hn' (aP [1] ss)
 generalize pv (aP [1] ss) ((t:Rat)/((n:Int):Rat))=q at *
 generalize hv t n (aP [1] ss)=z at *
 have hp:(0:Rat)<((n:Int):Rat)^(aP [1] ss).length:=Rat.pow_pos (Rat.intCast_lt_intCast.mpr hn')
 have e7:(((n^(aP [1] ss).length:Nat):Int):Rat)=((n:Int):Rat)^(aP [1] ss).length:=by
  rw [Int.natCast_pow,Rat.intCast_pow]
 rcases Int.le_total 0 z with w | w
 ·left
  have h8:((n^(aP [1] ss).length:Nat):Int)<=z:=by omega
  have h9:=Rat.intCast_le_intCast.mpr h8
  rw [e7,e6] at h9
  refine Rat.not_lt.mp fun hq=>?_
  have:=Rat.mul_lt_mul_of_pos_left hq hp
  grind
 ·right
  have h8:z <= -((n^(aP [1] ss).length:Nat):Int):=by omega
  have h9:=Rat.intCast_le_intCast.mpr h8
  rw [Rat.intCast_neg,e7,e6] at h9
  refine Rat.not_lt.mp fun hq=>?_
  have:=Rat.mul_lt_mul_of_pos_left hq hp
  grind
theorem B2 {l:List Int} (hl:Spt l):∃ M:Int,0<M/\∀ T:Int,M<=T->ak l T 1<0/\0<ak l (-T) 1:=by
 obtain ⟨u,e,b,s,rfl,he,hb,hs⟩:=hl
 refine ⟨(u.natAbs:Int)+e+1,by omega,fun T hT=>?_⟩
 have h1:T<=b*T:=by
  have:=Int.mul_le_mul_of_nonneg_right hb (show 0<=T by omega)
  omega
 have g1:e+1<=b*T-u*1:=by omega
 have g2:e+1<=0-(b * -T-u*1):=by
  have:b * -T = -(b*T):=Int.mul_neg _ _
  omega
 have q1:=gZ (show 0<=e+1 by omega) g1
 have q2:=gZ (show 0<=e+1 by omega) g2
 have q3:(e+1)*(e+1)=e*e+2*e+1:=by grind
 have q4:0<=e*e:=Int.mul_nonneg he he
 rcases hs with rfl | rfl
 ·constructor
  ·show aV (e*1*1) (b*T-u*1)<0
   rcases bU (e*1*1) (b*T-u*1) with z | z | z<;>omega
  ·show 0<aV (e*1*1) (b * -T-u*1)
   rcases bU (e*1*1) (b * -T-u*1) with z | z | z<;>omega
 ·constructor
  ·show 0-aV (e*1*1) (0-(b*T-u*1))<0
   rcases bU (e*1*1) (0-(b*T-u*1)) with z | z | z<;>omega
  ·show 0<0-aV (e*1*1) (0-(b * -T-u*1))
   rcases bU (e*1*1) (0-(b * -T-u*1)) with z | z | z<;>omega
theorem vX {fs:List (List Int)} (hF:∀ f∈fs,FacG f) (hnd:(fs.map ag).Nodup) {B:Nat} (hB:1<=B) (hb:∀ x∈(aP [1] (fs.map ag)).take ((aP [1] (fs.map ag)).length-1),x.natAbs<=(B-1)*(ao (aP [1] (fs.map ag))).natAbs) {l:List Int} (hl:l∈aJ fs):ak l B 1<0/\0<ak l (-(B:Int)) 1:=by
 have hFQ:∀ f∈fs,eD f:=fun f hf=>(hF f hf).q
 have hss:∀ s∈fs.map ag,s≠[]/\Tr s:=fun s h=>by
  obtain ⟨x,hx,rfl⟩:=List.mem_map.mp h
  exact o4 (hFQ x hx)
 have hT:Tr (aP [1] (fs.map ag)):=(jv (fs.map ag) [1] (by simp) ((tr_snoc (r:=[])).mpr (by decide)) hss).2.1
 have e1:af [1] (aP [1] (fs.map ag))=aP [1] (fs.map ag):=one_mul _ hT
 have far:=fun (t:Int) (n:Nat)=>IW (t:=t) (n:=n) (B:=B) (c:=1) (by decide) hss hB (by rw [e1];exact hb)
 have hspt:=c9 hFQ hl
 have hcut:=ko hspt
 have hS:∀ s∈(aJ fs).map sdR,Cut s:=fun s hs=>by
  obtain ⟨l,hl,rfl⟩:=List.mem_map.mp hs
  exact ko (c9 hFQ hl)
 have hf:∀ x,sgR (pv (aP [1] (fs.map ag)) x)=1*cpr x ((aJ fs).map sdR):=fun x=>by
  have h1:=kA (t:=x.num) (n:=x.den) (c:=1) (d9 x) hFQ
  rw [e1,o8 (d9 x),tL] at h1
  rw [tQ,h1];rfl
 have hap:=oJ hF hnd
 have hp:∀ x y:Rat,x<y->y-x<=1/2^200->((aJ fs).map sdR).Pairwise fun s t=>¬ (inC s x y/\inC t x y):=fun x y hxy hdd=>by
  rw [List.pairwise_map]
  exact hap.imp_of_mem fun {l l'} hl hl' h=>ut (c9 hFQ hl) (c9 hFQ hl') h hxy hdd
 have away:∀ z:Rat,((B:Int):Rat)<=z\/z <= -((B:Int):Rat)->1<=pv (aP [1] (fs.map ag)) z\/pv (aP [1] (fs.map ag)) z <= -1:=fun z hz=>by
  have h1:=Dy hss (t:=z.num) (n:=z.den) z.den_pos (far z.num z.den z.den_pos ?_)
  ·rw [tL] at h1;exact h1
  ·have hd:(0:Rat)<((z.den:Int):Rat):=Rat.intCast_lt_intCast.mpr (d9 z)
   have hnum:=nq z
   rcases hz with w | w
   ·have h2:=Rat.mul_le_mul_of_nonneg_right w (Rat.le_of_lt hd)
    rw [<- hnum,<- Rat.intCast_mul] at h2
    have h3:=Rat.intCast_le_intCast.mp h2
    have h4:((B*z.den:Nat):Int)=(B:Int)*(z.den:Int):=Int.natCast_mul _ _
    omega
   ·have h2:=Rat.mul_le_mul_of_nonneg_right w (Rat.le_of_lt hd)
    rw [<- hnum,<- Rat.intCast_neg,<- Rat.intCast_mul] at h2
    have h3:=Rat.intCast_le_intCast.mp h2
    have h4:((B*z.den:Nat):Int)=(B:Int)*(z.den:Int):=Int.natCast_mul _ _
    have h5 : -(B:Int)*(z.den:Int) = -((B:Int)*(z.den:Int)):=Int.neg_mul _ _
    omega
 obtain ⟨M,hM,hfar⟩:=B2 hspt
 have hmem:sdR l∈(aJ fs).map sdR:=List.mem_map.mpr ⟨l,hl,rfl⟩
 have δ0:(0:Rat)<1/2^200:=fk (by decide) (Rat.pow_pos (by decide))
 have int1:∀ z:Int,sdR l (z:Rat)=ak l z 1:=fun z=>by
  have:=fM l (t:=z) (n:=1) (by decide)
  have e:(z:Rat)/((1:Int):Rat)=(z:Rat):=by
   have:((1:Int):Rat)=1:=rfl
   rw [this];grind
  rw [e] at this;exact this
 constructor
 ·
  have hlt:((B:Int):Rat)<((M+B:Int):Rat):=Rat.intCast_lt_intCast.mpr (by omega)
  have no:=yj (eO _) (.inl rfl) hS hf δ0 hp hlt (fun z h1 _=>away z (.inl h1)) hmem
  rw [int1,int1] at no
  have hfr:=(hfar (M+B) (by omega)).1
  rcases dm l B 1 with z | z | z
  ·exact absurd ⟨by omega,by omega⟩ no
  ·
   exfalso
   have h1:=away (((B:Int)):Rat) (.inl Rat.le_refl)
   have h2:sgR (pv (aP [1] (fs.map ag)) ((B:Int):Rat))=0:=by
    rw [hf]
    have h3:∀ (S:List (Rat->Int)) (x:Rat) (s:Rat->Int),s∈S->s x=0->cpr x S=0:=fun S x s hs h0=>by
     obtain ⟨pre,post,rfl⟩:=List.append_of_mem hs
     rw [om]
     show _*(-s x*_)=0
     rw [h0];simp
    rw [h3 _ _ _ hmem (by rw [int1];exact z)];rfl
   rcases cv (pv (aP [1] (fs.map ag)) ((B:Int):Rat)) with ⟨a,c⟩ | ⟨a,c⟩ | ⟨a,c⟩
   ·omega
   ·grind
   ·omega
  ·omega
 ·have hlt:((-(M+B):Int):Rat)<((-(B:Int):Int):Rat):=Rat.intCast_lt_intCast.mpr (by omega)
  have no:=yj (eO _) (.inl rfl) hS hf δ0 hp hlt (fun z _ h2=>away z (.inr (by rw [Rat.intCast_neg] at h2;exact h2))) hmem
  rw [int1,int1] at no
  have hfr:=(hfar (M+B) (by omega)).2
  rcases dm l (-(B:Int)) 1 with z | z | z
  ·omega
  ·exact absurd ⟨hfr,by omega⟩ no
  ·exact absurd ⟨hfr,by omega⟩ no
end RM
namespace RM
theorem kC {s:List Int}:∀ (pre post:List (List Int)),prd (pre++s::post)=af s (prd (pre++post))
 | [],post=>rfl
 | t::pre,post=>by
   show af t (prd (pre++s::post))=af s (af t (prd (pre++post)))
   rw [kC pre post];ac_rfl
theorem yd {l:List Int} (h:Pln l):af [1] l=l:=one_mul l h.tr
theorem JU {ss:List (List Int)} (hp:∀ s∈ss,Pri s) (hn:ss.Nodup) {E:List Int} (hE:Pln E) (hl:E.length=3) (hd:Dv E (prd ss)):E∈ss\/∃ p q,p∈ss/\q∈ss/\p≠q/\E=af p q:=by
 have ne1:E≠[1]:=fun z=>by rw [z] at hl;cases hl
 obtain ⟨p,hpm,hpd⟩:=(oj ss hp hE hd).resolve_left ne1
 have pp:=hp p hpm
 obtain ⟨q,hq,eq⟩:=Dv.fellow pp.pln hE.tr hE.ne hpd
 rw [hE.plain] at eq
 have hlen:=bI hq.ne pp.pln.ne
 rw [eq,hl] at hlen
 have l2:=pp.two
 have ql:=List.length_pos_iff.mpr hq.ne
 rcases Nat.lt_or_ge p.length 3 with z | z
 ·
  have lp:p.length=2:=by omega
  have lq:q.length=2:=by omega
  obtain ⟨pre,post,rfl⟩:=List.append_of_mem hpm
  have hd2:Dv (af p q) (af p (prd (pre++post))):=by
   rw [<- kC]
   have:af p q=E:=by rw [<- eq];ac_rfl
   rw [this];exact hd
  have hd3:=Dv.cancel pp.pln.ne pp.pln.tr hd2
  have ho:∀ s∈pre++post,Pri s:=fun s hs=>hp s (by
   rcases List.mem_append.mp hs with w | w
   ·exact List.mem_append_left _ w
   ·exact List.mem_append_right _ (List.mem_cons_of_mem _ w))
  have nq1:q≠[1]:=fun w=>by rw [w] at lq;cases lq
  obtain ⟨p',hpm',hpd'⟩:=(oj (pre++post) ho hq hd3).resolve_left nq1
  have pp':=ho p' hpm'
  obtain ⟨r,hr,er⟩:=Dv.fellow pp'.pln hq.tr hq.ne hpd'
  rw [hq.plain] at er
  have hlen':=bI hr.ne pp'.pln.ne
  rw [er,lq] at hlen'
  have l2':=pp'.two
  have rl:=List.length_pos_iff.mpr hr.ne
  have r1:=hr.const (by omega)
  rw [r1,yd pp'.pln] at er
  have hmem:p'∈pre++p::post:=by
   rcases List.mem_append.mp hpm' with w | w
   ·exact List.mem_append_left _ w
   ·exact List.mem_append_right _ (List.mem_cons_of_mem _ w)
  refine .inr ⟨p,p',hpm,hmem,fun w=>?_,?_⟩
  ·rw [List.nodup_append] at hn
   rcases List.mem_append.mp hpm' with y | y
   ·exact hn.2.2 p' y p (List.mem_cons_self ..) w.symm
   ·exact (List.nodup_cons.mp hn.2.1).1 (w ▸ y)
  ·rw [er,<- eq];ac_rfl
 ·left
  have q1:=hq.const (by omega)
  rw [q1,yd pp.pln] at eq
  rw [<- eq];exact hpm
theorem tJ (u b:Int) (x:Rat):((b*x.num-u*(x.den:Int):Int):Rat)=((b:Rat)*x-(u:Rat))*((x.den:Int):Rat):=by
 rw [Rat.intCast_sub,Rat.intCast_mul,Rat.intCast_mul,nq x];grind
theorem Fu (u b:Int) (x:Rat):b*x.num-u*(x.den:Int)<0↔(b:Rat)*x-(u:Rat)<0:=by
 have hd:(0:Rat)<((x.den:Int):Rat):=Rat.intCast_lt_intCast.mpr (d9 x)
 rw [<- Rat.intCast_lt_intCast,tJ]
 constructor
 ·intro h
  refine Rat.not_le.mp fun z=>?_
  have:=Rat.mul_nonneg z (Rat.le_of_lt hd)
  have e:((0:Int):Rat)=0:=rfl
  grind
 ·intro h
  have:=Rat.mul_pos (show 0 < -((b:Rat)*x-(u:Rat)) by grind) hd
  have e:((0:Int):Rat)=0:=rfl
  grind
theorem vP (u e b:Int) (x:Rat):((b*x.num-u*(x.den:Int))*(b*x.num-u*(x.den:Int))<e*(x.den:Int)*(x.den:Int)↔((b:Rat)*x-(u:Rat))*((b:Rat)*x-(u:Rat))<(e:Rat))/\(e*(x.den:Int)*(x.den:Int)<(b*x.num-u*(x.den:Int))*(b*x.num-u*(x.den:Int))↔(e:Rat)<((b:Rat)*x-(u:Rat))*((b:Rat)*x-(u:Rat))):=by
 have hd:(0:Rat)<((x.den:Int):Rat):=Rat.intCast_lt_intCast.mpr (d9 x)
 have hdd:=Rat.mul_pos hd hd
 have e1:(((b*x.num-u*(x.den:Int))*(b*x.num-u*(x.den:Int)):Int):Rat)=((b:Rat)*x-(u:Rat))*((b:Rat)*x-(u:Rat))*(((x.den:Int):Rat)*((x.den:Int):Rat)):=by rw [Rat.intCast_mul,tJ];grind
 have e2:((e*(x.den:Int)*(x.den:Int):Int):Rat)=(e:Rat)*(((x.den:Int):Rat)*((x.den:Int):Rat)):=by rw [Rat.intCast_mul,Rat.intCast_mul];grind
 have key:∀ p q:Rat,(p*(((x.den:Int):Rat)*((x.den:Int):Rat))<q*(((x.den:Int):Rat)*((x.den:Int):Rat)))↔p<q:=fun p q=>⟨fun h=>Rat.not_le.mp fun z=>by
  have:=Rat.mul_le_mul_of_nonneg_right z (Rat.le_of_lt hdd)
  grind,fun h=>Rat.mul_lt_mul_of_pos_right h hdd⟩
 constructor
 ·rw [<- Rat.intCast_lt_intCast,e1,e2,key]
 ·rw [<- Rat.intCast_lt_intCast,e1,e2,key]
theorem vk {u e b:Int} (x:Rat):(0<sdR [u,e,b,1] x↔(b:Rat)*x-(u:Rat)<0\/((b:Rat)*x-(u:Rat))*((b:Rat)*x-(u:Rat))<(e:Rat)):=by
 have h:sdR [u,e,b,1] x=aV (e*(x.den:Int)*(x.den:Int)) (b*x.num-u*(x.den:Int)):=rfl
 rw [h,<- Fu,<- (vP u e b x).1]
 rcases bU (e*(x.den:Int)*(x.den:Int)) (b*x.num-u*(x.den:Int)) with ⟨z,w⟩ | ⟨z,w⟩ | ⟨z,w⟩<;>rw [z]<;>omega
theorem vm {u e b:Int} (x:Rat):(0<sdR [u,e,b,-1] x↔(b:Rat)*x-(u:Rat)<=0/\(e:Rat)<((b:Rat)*x-(u:Rat))*((b:Rat)*x-(u:Rat))):=by
 have h:sdR [u,e,b,-1] x=0-aV (e*(x.den:Int)*(x.den:Int)) (0-(b*x.num-u*(x.den:Int))):=rfl
 have e1:(0-(b*x.num-u*(x.den:Int)))*(0-(b*x.num-u*(x.den:Int)))=(b*x.num-u*(x.den:Int))*(b*x.num-u*(x.den:Int)):=by grind
 have hle:(b:Rat)*x-(u:Rat)<=0↔0<=0-(b*x.num-u*(x.den:Int)):=by
  have hd:(0:Rat)<((x.den:Int):Rat):=Rat.intCast_lt_intCast.mpr (d9 x)
  have e3:=tJ u b x
  constructor
  ·intro h
   have:¬ (0<b*x.num-u*(x.den:Int)):=fun z=>by
    have z':=Rat.intCast_lt_intCast.mpr z
    rw [e3] at z'
    have:=Rat.mul_nonneg (show 0 <= -((b:Rat)*x-(u:Rat)) by grind) (Rat.le_of_lt hd)
    have e:((0:Int):Rat)=0:=rfl
    grind
   omega
  ·intro h
   refine Rat.not_lt.mp fun z=>?_
   have:=Rat.mul_pos z hd
   rw [<- e3] at this
   have:=Rat.intCast_lt_intCast.mp (show ((0:Int):Rat)<_ from this)
   omega
 rw [h,hle,<- (vP u e b x).2]
 rcases bU (e*(x.den:Int)*(x.den:Int)) (0-(b*x.num-u*(x.den:Int))) with ⟨z,w⟩ | ⟨z,w⟩ | ⟨z,w⟩<;>rw [z]<;>rw [e1] at w<;>omega
structure Two (u e b x y x' y':Rat):Prop where
 xp:b*x-u<0\/(b*x-u)*(b*x-u)<e
 yp:0<=b*y-u/\e<=(b*y-u)*(b*y-u)
 xm:b*x'-u<=0/\e<(b*x'-u)*(b*x'-u)
 ym:0<b*y'-u\/(b*y'-u)*(b*y'-u)<=e
theorem CV {a c:Rat} (hc:0<=c) (h:a*a<c*c):a<c:=Rat.not_le.mp fun z=>by
 have:=Rat.mul_nonneg (show 0<=a-c by grind) (show 0<=a+c by grind)
 grind
theorem CW {a c:Rat} (hc:0<=c) (h:a*a<=c*c):a<=c:=Rat.not_lt.mp fun z=>by
 have:=Rat.mul_pos (show 0<a-c by grind) (show 0<a+c by grind)
 grind
theorem Two.sum {u e b x y x' y':Rat} (h:Two u e b x y x' y'):2*u<=b*(y+y')/\b*(x+x')<2*u:=by
 obtain ⟨xp,yp,xm,ym⟩:=h
 constructor
 ·rcases ym with z | z
  ·grind
  ·have : -(b*y'-u)<=b*y-u:=CW yp.1 (by grind)
   grind
 ·rcases xp with z | z
  ·grind
  ·have:b*x-u < -(b*x'-u):=CV (by grind) (by grind)
   grind
def mx (a b:Rat):Rat:=if a<b then b else a
theorem yt (a b:Rat):a<=mx a b:=by unfold mx;split<;>grind
theorem yr (a b:Rat):b<=mx a b:=by unfold mx;split<;>grind
theorem yu (a b:Rat):mx a b=a\/mx a b=b:=by unfold mx;split<;>simp
theorem bil {X Y X' Y' a a' m:Rat} (h1:X<=a) (h2:a<=Y) (h3:X'<=a') (h4:a'<=Y') (c1:X*X'<=m) (c2:X*Y'<=m) (c3:Y*X'<=m) (c4:Y*Y'<=m):a*a'<=m:=by
 have g1:X*a'<=m:=by
  rcases Rat.le_total (a:=0) (b:=X) with z | z
  ·have:=Rat.mul_nonneg z (show 0<=Y'-a' by grind);grind
  ·have:=Rat.mul_nonneg (show 0 <= -X by grind) (show 0<=a'-X' by grind);grind
 have g2:Y*a'<=m:=by
  rcases Rat.le_total (a:=0) (b:=Y) with z | z
  ·have:=Rat.mul_nonneg z (show 0<=Y'-a' by grind);grind
  ·have:=Rat.mul_nonneg (show 0 <= -Y by grind) (show 0<=a'-X' by grind);grind
 rcases Rat.le_total (a:=0) (b:=a') with z | z
 ·have:=Rat.mul_nonneg z (show 0<=Y-a by grind);grind
 ·have:=Rat.mul_nonneg (show 0 <= -a' by grind) (show 0<=a-X by grind);grind
theorem Two.prod {u e b x y x' y' m w N:Rat} (h:Two u e b x y x' y') (hb:0<b) (he:0<e) (hirr:∀ q:Rat,q*q≠e) (hxy:x<y) (hxy':x'<y') (hw:y-x<=w) (hw':y'-x'<=w) (n1:Bd N x) (n2:Bd N y) (n3:Bd N x') (n4:Bd N y')
 (c1:x*x'<=m) (c2:x*y'<=m) (c3:y*x'<=m) (c4:y*y'<=m) (hm:m=x*x'\/m=x*y'\/m=y*x'\/m=y*y'):u*u-e<b*b*m/\b*b*m<=u*u-e+2*(b*b)*(w*N):=by
 have hs:=h.sum
 obtain ⟨xp,yp,xm,ym⟩:=h
 have hbb:=Rat.mul_pos hb hb
 have scale:∀ a a':Rat,b*x-u<=a->a<=b*y-u->b*x'-u<=a'->a'<=b*y'-u->(a+u)*(a'+u)<=b*b*m:=fun a a' g1 g2 g3 g4=>by
  have e1:∀ p q:Rat,b*p*(b*q)=b*b*(p*q):=fun p q=>by grind
  have k:∀ p q:Rat,p*q<=m->b*p*(b*q)<=b*b*m:=fun p q hpq=>by rw [e1];exact Rat.mul_le_mul_of_nonneg_left hpq (Rat.le_of_lt hbb)
  exact bil (X:=b*x) (Y:=b*y) (X':=b*x') (Y':=b*y') (by grind) (by grind) (by grind) (by grind) (k _ _ c1) (k _ _ c2) (k _ _ c3) (k _ _ c4)
 constructor
 ·obtain ⟨a,a0,ae,ax,ay,am⟩:∃ a:Rat,0<=a/\a*a<e/\b*x-u<=a/\a<=b*y-u /\ -(b*y'-u)<=a/\a <= -(b*x'-u):=by
   have p1:=yt (b*x-u) (mx (-(b*y'-u)) 0)
   have p2:=yr (b*x-u) (mx (-(b*y'-u)) 0)
   have p3:=yt (-(b*y'-u)) 0
   have p4:=yr (-(b*y'-u)) 0
   have hX:b*x-u<=b*y-u:=by
    have:=Rat.mul_pos hb (show 0<y-x by grind);grind
   have hX':b*x'-u<=b*y'-u:=by
    have:=Rat.mul_pos hb (show 0<y'-x' by grind);grind
   have q1:=yu (b*x-u) (mx (-(b*y'-u)) 0)
   have q2:=yu (-(b*y'-u)) 0
   have hxm:=xm.1
   have hyp:=yp.1
   refine ⟨mx (b*x-u) (mx (-(b*y'-u)) 0),by grind,?_,p1,?_,by grind,?_⟩
   ·rcases q1 with z | z
    ·rw [z] at p2 ⊢
     rcases xp with w | w
     ·grind
     ·exact w
    ·rw [z]
     rcases q2 with z2 | z2
     ·rw [z2] at p4 ⊢
      have e1 : -(b*y'-u) * -(b*y'-u)=(b*y'-u)*(b*y'-u):=by grind
      rw [e1]
      rcases ym with w | w
      ·grind
      ·have:=hirr (b*y'-u)
       grind
     ·rw [z2];grind
   ·rcases q1 with z | z
    ·rw [z];exact hX
    ·rw [z]
     rcases q2 with z2 | z2
     ·rw [z2];grind
     ·rw [z2];exact hyp
   ·rcases q1 with z | z
    ·rw [z];grind
    ·rw [z]
     rcases q2 with z2 | z2
     ·rw [z2];grind
     ·rw [z2];grind
  have:=scale a (-a) ax ay (by grind) (by grind)
  grind
 ·obtain ⟨c,c0,ce,cx,cy,cm,cm'⟩:∃ c:Rat,0<=c/\e<=c*c/\b*x-u<=c/\c<=b*y-u /\ -(b*y'-u)<=c/\c <= -(b*x'-u):=by
   have hX:b*x-u<=b*y-u:=by
    have:=Rat.mul_pos hb (show 0<y-x by grind);grind
   have hX':b*x'-u<=b*y'-u:=by
    have:=Rat.mul_pos hb (show 0<y'-x' by grind);grind
   rcases Rat.le_total (a:=b*y-u) (b := -(b*x'-u)) with z | z
   ·exact ⟨b*y-u,yp.1,yp.2,hX,Rat.le_refl,by grind,z⟩
   ·refine ⟨-(b*x'-u),by grind,by grind,by grind,z,by grind,Rat.le_refl⟩
  have hbw:0<=b*w:=Rat.mul_nonneg (Rat.le_of_lt hb) (by grind)
  have side:∀ p q:Rat,b*x-u<=b*p-u->b*p-u<=b*y-u->b*x'-u<=b*q-u->b*q-u<=b*y'-u->Bd N p->b*b*(p*q)<=u*u-e+2*(b*b)*(w*N):=fun p q g1 g2 g3 g4 hp=>by
   have w1:b*(y-x)<=b*w:=Rat.mul_le_mul_of_nonneg_left hw (Rat.le_of_lt hb)
   have w2:b*(y'-x')<=b*w:=Rat.mul_le_mul_of_nonneg_left hw' (Rat.le_of_lt hb)
   have d1:Bd (b*w) (b*p-u-c):=⟨by grind,by grind⟩
   have d2:Bd (b*w) (b*q-u+c):=⟨by grind,by grind⟩
   have bN1:b*x'<=u-c/\u-c<=b*y':=⟨by grind,by grind⟩
   have k1 : -(b*N)<=b*x':=by
    have:=Rat.mul_le_mul_of_nonneg_left n3.1 (Rat.le_of_lt hb);grind
   have k2:b*y'<=b*N:=Rat.mul_le_mul_of_nonneg_left n4.2 (Rat.le_of_lt hb)
   have d3:Bd (b*N) (u-c):=⟨by grind,by grind⟩
   have d4:Bd (b*N) (b*p):=by
    obtain ⟨r1,r2⟩:=hp
    have s1:=Rat.mul_le_mul_of_nonneg_left r1 (Rat.le_of_lt hb)
    have s2:=Rat.mul_le_mul_of_nonneg_left r2 (Rat.le_of_lt hb)
    exact ⟨by grind,s2⟩
   obtain ⟨_,z1⟩:=d1.mul d3
   obtain ⟨_,z2⟩:=d2.mul d4
   have e1:b*b*(p*q)=(c+u)*(u-c)+((b*p-u-c)*(u-c)+(b*q-u+c)*(b*p)):=by grind
   have e2:b*w*(b*N)=b*b*(w*N):=by grind
   rw [e2] at z1 z2
   grind
  have hX:b*x-u<=b*y-u:=by
   have:=Rat.mul_pos hb (show 0<y-x by grind);grind
  have hX':b*x'-u<=b*y'-u:=by
   have:=Rat.mul_pos hb (show 0<y'-x' by grind);grind
  rcases hm with rfl | rfl | rfl | rfl
  ·exact side x x' Rat.le_refl hX Rat.le_refl hX' n1
  ·exact side x y' Rat.le_refl hX hX' Rat.le_refl n1
  ·exact side y x' hX Rat.le_refl Rat.le_refl hX' n2
  ·exact side y y' hX Rat.le_refl hX' Rat.le_refl n2
theorem zA {c t b Z:Int} (hb:0<b) (h1:(Z:Rat)<=(c:Rat)*((t:Rat)/(b:Rat))) (h2:(c:Rat)*((t:Rat)/(b:Rat))<(Z:Rat)+1):c*t/b=Z:=by
 have hb':(0:Rat)<(b:Rat):=Rat.intCast_lt_intCast.mpr hb
 have e1:(t:Rat)/(b:Rat)*(b:Rat)=(t:Rat):=Rat.div_mul_cancel (by grind)
 have g1:=Rat.mul_le_mul_of_nonneg_right h1 (Rat.le_of_lt hb')
 have g2:=Rat.mul_lt_mul_of_pos_right h2 hb'
 have e2:(c:Rat)*((t:Rat)/(b:Rat))*(b:Rat)=((c*t:Int):Rat):=by
  rw [Rat.intCast_mul]
  generalize (t:Rat)/(b:Rat)=q at *
  rw [<- e1];grind
 rw [e2] at g1 g2
 have i1:Z*b<=c*t:=by
  have:=g1
  rw [<- Rat.intCast_mul] at this
  exact Rat.intCast_le_intCast.mp this
 have i2:c*t<(Z+1)*b:=by
  have e3:((Z:Rat)+1)*(b:Rat)=(((Z+1)*b:Int):Rat):=by
   rw [Rat.intCast_mul,Rat.intCast_add];rfl
  rw [e3] at g2
  exact Rat.intCast_lt_intCast.mp g2
 refine Int.le_antisymm ?_ ?_
 ·have:=(Int.ediv_lt_iff_lt_mul hb).mpr i2
  omega
 ·exact (Int.le_ediv_iff_mul_le hb).mpr i1
end RM
namespace RM
theorem zZ {x y:Rat}:∀ {S:List (Rat->Int)},(S.Pairwise fun s t=>¬ (inC s x y/\inC t x y))->cnt S x y<=1
 | [],_=>by rw [zY];decide
 | s::S,h=>by
   obtain ⟨h1,h2⟩:=List.pairwise_cons.mp h
   rw [ee]
   have ih:=zZ h2
   by_cases hs:0<s x/\s y<=0
   ·rw [if_pos hs]
    have z:∀ (S:List (Rat->Int)),(∀ t∈S,¬ (inC s x y/\inC t x y))->cnt S x y=0:=fun S=>by
     induction S with
     | nil=>intro _;rfl
     | cons t S ih =>
       intro h
       rw [ee,ih fun u hu=>h u (List.mem_cons_of_mem _ hu),if_neg fun w=>h t (List.mem_cons_self ..) ⟨⟨Int.le_of_lt hs.1,hs.2⟩,⟨Int.le_of_lt w.1,w.2⟩⟩];rfl
    rw [z S h1];decide
   ·rw [if_neg hs];omega
theorem ly (ls:List (List Int)) (t n t' n':Int):0<=bh ls t n t' n':=by
 induction ls with
 | nil=>exact Int.le_refl _
 | cons l ls ih =>
   unfold bh at ih ⊢
   rw [List.map_cons,List.sum_cons];split<;>omega
theorem c8 (l:List Int) (ls:List (List Int)) (t n t' n':Int):bh (l::ls) t n t' n'=(if 0<ak l t n/\ak l t' n'<=0 then 1 else 0)+bh ls t n t' n':=by unfold bh;rw [List.map_cons,List.sum_cons]
theorem J6 {fs:List (List Int)} (hF:∀ f∈fs,eD f) {a1 a2 b1 b2 c1 c2:Int} (a:0<a2) (b:0<b2) (c:0<c2) (h1:a1*b2<b1*a2) (h2:b1*c2<c1*b2):bh (aJ fs) a1 a2 c1 c2=bh (aJ fs) a1 a2 b1 b2+bh (aJ fs) b1 b2 c1 c2:=by
 have hS:∀ s∈(aJ fs).map sdR,Cut s:=fun s hs=>by
  obtain ⟨l,hl,rfl⟩:=List.mem_map.mp hs
  exact ko (c9 hF hl)
 rw [<- jP a c,<- jP a b,<- jP b c]
 exact tU ((ia a b).mpr h1) ((ia b c).mpr h2) hS
theorem J5 {fs:List (List Int)} (hF:∀ f∈fs,FacG f) (hn:(fs.map ag).Nodup) {l1 l2 h1 h2:Int} (l2p:0<l2) (h2p:0<h2) (lt:l1*h2<h1*l2) (hw:(h1*l2-l1*h2)*2^200<=l2*h2):bh (aJ fs) l1 l2 h1 h2<=1:=by
 rw [<- jP l2p h2p]
 refine zZ ?_
 rw [List.pairwise_map]
 have hd:(h1:Rat)/(h2:Rat)-(l1:Rat)/(l2:Rat)<=1/2^200:=by
  have L2:(0:Rat)<(l2:Rat):=Rat.intCast_lt_intCast.mpr l2p
  have H2:(0:Rat)<(h2:Rat):=Rat.intCast_lt_intCast.mpr h2p
  have e1:(l1:Rat)/(l2:Rat)*(l2:Rat)=(l1:Rat):=Rat.div_mul_cancel (Rat.ne_of_gt L2)
  have e2:(h1:Rat)/(h2:Rat)*(h2:Rat)=(h1:Rat):=Rat.div_mul_cancel (Rat.ne_of_gt H2)
  generalize (l1:Rat)/(l2:Rat)=x at e1 ⊢
  generalize (h1:Rat)/(h2:Rat)=y at e2 ⊢
  have hw':((h1:Rat)*(l2:Rat)-(l1:Rat)*(h2:Rat))*2^200<=(l2:Rat)*(h2:Rat):=by
   have:=Rat.intCast_le_intCast.mpr hw
   rw [Rat.intCast_mul,Rat.intCast_mul,Rat.intCast_sub,Rat.intCast_mul,Rat.intCast_mul] at this
   exact this
  have M:(0:Rat)<(l2:Rat)*(h2:Rat):=Rat.mul_pos L2 H2
  have P:(0:Rat)<2^200:=Rat.pow_pos (by decide)
  rw [<- e1,<- e2] at hw'
  have e3:(y*(h2:Rat)*(l2:Rat)-x*(l2:Rat)*(h2:Rat))*2^200=((y-x)*2^200)*((l2:Rat)*(h2:Rat)):=by grind
  rw [e3] at hw'
  have h4:(y-x)*2^200<=1:=by
   refine Rat.not_lt.mp fun z=>?_
   have:=Rat.mul_pos (show 0<(y-x)*2^200-1 by grind) M
   grind
  have e5:(1:Rat)/2^200*2^200=1:=Rat.div_mul_cancel (Rat.ne_of_gt P)
  refine Rat.not_lt.mp fun z=>?_
  have:=Rat.mul_pos (show 0<(y-x)-1/2^200 by grind) P
  grind
 exact (oJ hF hn).imp_of_mem fun {l l'} hl hl' h=>ut (c9 (fun f hf=>(hF f hf).q) hl) (c9 (fun f hf=>(hF f hf).q) hl') h ((ia l2p h2p).mpr lt) hd
theorem Aa {l1 l2 h1 h2:Int}:∀ {ls:List (List Int)},bh ls l1 l2 h1 h2=0->∀ x∈ls,¬ (0<ak x l1 l2/\ak x h1 h2<=0)
 | [],_,x,hx=>nomatch hx
 | l::ls,h,x,hx=>by
   rw [c8] at h
   have nn:=ly ls l1 l2 h1 h2
   by_cases hl:0<ak l l1 l2/\ak l h1 h2<=0
   ·rw [if_pos hl] at h;omega
   ·rw [if_neg hl] at h
    rcases List.mem_cons.mp hx with rfl | z
    ·exact hl
    ·exact Aa (by omega) x z
theorem lx {l1 l2 h1 h2:Int}:∀ {ls:List (List Int)},bh ls l1 l2 h1 h2=1->∃ pre s post,ls=pre++s::post/\(0<ak s l1 l2/\ak s h1 h2<=0)/\∀ x∈pre++post,¬ (0<ak x l1 l2/\ak x h1 h2<=0)
 | [],h=>by cases h
 | l::ls,h=>by
   rw [c8] at h
   by_cases hl:0<ak l l1 l2/\ak l h1 h2<=0
   ·rw [if_pos hl] at h
    exact ⟨[],l,ls,rfl,hl,Aa (ls:=ls) (by omega)⟩
   ·rw [if_neg hl] at h
    obtain ⟨pre,s,post,rfl,e2,e3⟩:=lx (l1:=l1) (l2:=l2) (h1:=h1) (h2:=h2) (ls:=ls) (by omega)
    refine ⟨l::pre,s,post,rfl,e2,fun x hx=>?_⟩
    rcases List.mem_cons.mp hx with rfl | z
    ·exact hl
    ·exact e3 x z
theorem Ac {l1 l2 h1 h2:Int}:∀ {ls:List (List Int)} {s:List Int},s∈ls->(0<ak s l1 l2/\ak s h1 h2<=0)->1<=bh ls l1 l2 h1 h2
 | l::ls,s,hs,h=>by
   rw [c8]
   have nn:=ly ls l1 l2 h1 h2
   rcases List.mem_cons.mp hs with rfl | z
   ·rw [if_pos h];omega
   ·have:=Ac z h
    split<;>omega
structure Dya (B:Int) (d:Nat) (l1 l2 h1 h2:Int):Prop where
 l2p:0<l2
 h2p:0<h2
 gl:Nat.gcd l1.natAbs l2.natAbs=1
 gh:Nat.gcd h1.natAbs h2.natAbs=1
 at':∃ m:Int,0<=m/\m+1<=2^d/\l1*2^d=(2*m*B-B*2^d)*l2/\h1*2^d=(2*(m+1)*B-B*2^d)*h2
theorem zI {X l1 l2:Int} {d k:Nat} (l2p:0<l2) (g:Nat.gcd l1.natAbs l2.natAbs=1) (e:l1*2^d=X*l2) (hX:X.natAbs<=2^k) (hk:d<=k):l1.natAbs<=2^k/\l2.natAbs<=2^k:=by
 have e':l1.natAbs*2^d=X.natAbs*l2.natAbs:=by
  have:=congrArg Int.natAbs e
  rw [Int.natAbs_mul,Int.natAbs_mul,Int.natAbs_pow] at this
  exact this
 have hd:l2.natAbs∣2^d:=by
  refine Nat.Coprime.dvd_of_dvd_mul_left (k:=l2.natAbs) (m:=l1.natAbs) (by rw [Nat.Coprime,Nat.gcd_comm];exact g) ?_
  exact ⟨X.natAbs,by rw [e',Nat.mul_comm]⟩
 have p2:0<2^d:=Nat.pow_pos (by decide)
 have hle:=Nat.le_of_dvd p2 hd
 refine ⟨?_,Nat.le_trans hle (Nat.pow_le_pow_right (by decide) hk)⟩
 have h1:l1.natAbs*2^d<=X.natAbs*2^d:=by rw [e'];exact Nat.mul_le_mul_left _ hle
 exact Nat.le_trans (Nat.le_of_mul_le_mul_right h1 p2) hX
theorem yf {B D m:Int} {N:Nat} (hN:(N:Int)=B*D) (B0:0<B) (m0:0<=m) (m1:m<=D):(2*m*B-B*D).natAbs<=N:=by
 have k1:0<=m*B:=Int.mul_nonneg m0 (Int.le_of_lt B0)
 have k2:m*B<=D*B:=Int.mul_le_mul_of_nonneg_right m1 (Int.le_of_lt B0)
 have k4:D*B=B*D:=Int.mul_comm _ _
 have k5:2*m*B=2*(m*B):=Int.mul_assoc _ _ _
 rw [k5]
 generalize m*B=x at *
 generalize B*D=y at *
 omega
theorem Dya.bits {kb d:Nat} {l1 l2 h1 h2:Int} (h:Dya (2^kb) d l1 l2 h1 h2):(l1.natAbs<=2^(kb+d)/\l2.natAbs<=2^(kb+d))/\h1.natAbs<=2^(kb+d)/\h2.natAbs<=2^(kb+d):=by
 obtain ⟨l2p,h2p,gl,gh,m,m0,m1,e1,e2⟩:=h
 have B0:(0:Int)<2^kb:=Int.pow_pos (by decide)
 have eq:(((2:Nat)^(kb+d):Nat):Int)=2^kb*2^d:=by rw [Int.natCast_pow,Int.pow_add];rfl
 exact ⟨zI l2p gl e1 (yf eq B0 m0 (by omega)) (by omega),zI h2p gh e2 (yf eq B0 (by omega) m1) (by omega)⟩
theorem Dya.width {B:Int} {d:Nat} {l1 l2 h1 h2:Int} (h:Dya B d l1 l2 h1 h2):(h1*l2-l1*h2)*2^d=2*B*(l2*h2):=by
 obtain ⟨l2p,h2p,gl,gh,m,m0,m1,e1,e2⟩:=h
 grind
theorem Dya.lt {B:Int} (hB:0<B) {d:Nat} {l1 l2 h1 h2:Int} (h:Dya B d l1 l2 h1 h2):l1*h2<h1*l2:=by
 have w:=h.width
 have p:(0:Int)<2^d:=Int.pow_pos (by decide)
 have q:0<2*B*(l2*h2):=Int.mul_pos (by omega) (Int.mul_pos h.l2p h.h2p)
 rw [<- w] at q
 have:0<h1*l2-l1*h2:=Int.not_le.mp fun z=>by
  have:=Int.mul_nonpos_of_nonpos_of_nonneg z (Int.le_of_lt p)
  omega
 omega
theorem Dya.start {B:Int}:Dya B 0 (-B) 1 B 1:=⟨by decide,by decide,Nat.gcd_one_right _,Nat.gcd_one_right _,0,by decide,by decide,by grind,by grind⟩
theorem Dya.half {B:Int} {d:Nat} {l1 l2 h1 h2 c1 c2:Int} (h:Dya B d l1 l2 h1 h2) (c2p:0<c2) (gc:Nat.gcd c1.natAbs c2.natAbs=1) (e:c1*(2*l2*h2)=(l1*h2+h1*l2)*c2):Dya B (d+1) l1 l2 c1 c2/\Dya B (d+1) c1 c2 h1 h2:=by
 obtain ⟨l2p,h2p,gl,gh,m,m0,m1,e1,e2⟩:=h
 have ec:c1*2^(d+1)=(2*(2*m+1)*B-B*2^(d+1))*c2:=by
  have hp:0<l2*h2:=Int.mul_pos l2p h2p
  refine Int.eq_of_mul_eq_mul_right (a:=l2*h2) (by omega) ?_
  rw [Int.pow_succ]
  have q1:c1*(2^d*2)*(l2*h2)=c1*(2*l2*h2)*2^d:=by grind
  rw [q1,e]
  have q2:(l1*h2+h1*l2)*c2*2^d=(l1*2^d*h2+h1*2^d*l2)*c2:=by grind
  rw [q2,e1,e2]
  grind
 have p2:(2:Int)^(d+1)=2^d*2:=Int.pow_succ ..
 refine ⟨⟨l2p,c2p,gl,gc,2*m,by omega,by omega,?_,ec⟩,⟨c2p,h2p,gc,gh,2*m+1,by omega,by omega,ec,?_⟩⟩
 ·rw [p2,<- Int.mul_assoc,e1];grind
 ·rw [p2,<- Int.mul_assoc,e2];grind
theorem Dya.few {fs:List (List Int)} (hF:∀ f∈fs,FacG f) (hn:(fs.map ag).Nodup) {kb d:Nat} {l1 l2 h1 h2:Int} (h:Dya (2^kb) d l1 l2 h1 h2) (hd:kb+201<=d):bh (aJ fs) l1 l2 h1 h2<=1:=by
 have B0:(0:Int)<2^kb:=Int.pow_pos (by decide)
 refine J5 hF hn h.l2p h.h2p (h.lt B0) ?_
 have w:=h.width
 obtain ⟨j,rfl⟩:∃ j,d=kb+201+j:=⟨d-(kb+201),by omega⟩
 have e:(2:Int)^(kb+201+j)=2*2^kb*(2^200*2^j):=by
  rw [Int.pow_add,Int.pow_add,show (2:Int)^201=2*2^200 by decide];grind
 have j0:(1:Int)<=2^j:=by have:=Int.pow_pos (n:=2) (m:=j) (by decide);omega
 rw [e] at w
 have lp:=h.lt B0
 have e2:(h1*l2-l1*h2)*(2*2^kb*(2^200*2^j))=2*2^kb*((h1*l2-l1*h2)*2^200*2^j):=by grind
 rw [e2] at w
 have w2:=Int.eq_of_mul_eq_mul_left (show 2*(2:Int)^kb≠0 by omega) w
 have q:0<=(h1*l2-l1*h2)*2^200:=Int.mul_nonneg (by omega) (Int.le_of_lt (Int.pow_pos (by decide)))
 have:=Int.mul_le_mul_of_nonneg_left j0 q
 rw [Int.mul_one] at this
 rw [<- w2];exact this
end RM
namespace RM
def prQ (fs:List (List Int)):List Int:=aP [1] (fs.map ag)
structure Fam (fs:List (List Int)):Prop where
 fac:∀ f∈fs,FacG f
 nd:(fs.map ag).Nodup
variable {fs:List (List Int)}
theorem Fam.q (h:Fam fs):∀ f∈fs,eD f:=fun f hf=>(h.fac f hf).q
theorem Fam.pri (h:Fam fs):∀ s∈fs.map ag,Pri s:=fun s hs=>by
 obtain ⟨f,hf,rfl⟩:=List.mem_map.mp hs
 exact eY (h.fac f hf)
theorem Fam.prd (h:Fam fs):prQ fs=prd (fs.map ag):=xR h.pri
theorem Fam.pln (h:Fam fs):Pln (prQ fs):=by rw [h.prd];exact ig _ fun s hs=>(h.pri s hs).pln
theorem Fam.one (h:Fam fs):af [1] (prQ fs)=prQ fs:=one_mul _ h.pln.tr
theorem Fam.sign (h:Fam fs) {t n:Int} (hn:0<n):sg (hv t n (prQ fs))=spr t n (aJ fs):=by
 have:=kA (t:=t) (n:=n) (c:=1) hn h.q
 rw [show af [1] (aP [1] (fs.map ag))=aP [1] (fs.map ag) from h.one] at this
 rw [show sg 1=1 from rfl,Int.one_mul] at this
 exact this
theorem oG {t n:Int}:∀ {ls:List (List Int)},spr t n ls=0->∃ s∈ls,ak s t n=0
 | [],h=>by cases h
 | l::ls,h=>by
   rcases Int.mul_eq_zero.mp (show -ak l t n*spr t n ls=0 from h) with z | z
   ·exact ⟨l,List.mem_cons_self ..,by omega⟩
   ·obtain ⟨s,hs,e⟩:=oG z
    exact ⟨s,List.mem_cons_of_mem _ hs,e⟩
theorem Fam.sub {fs gs:List (List Int)} (h:Fam fs) (s:gs.Sublist fs):Fam gs:=⟨fun f hf=>h.fac f (s.subset hf),h.nd.sublist (s.map _)⟩
theorem Fam.single (h:Fam fs) {f:List Int} (hf:f∈fs):Fam [f]:=h.sub (List.singleton_sublist.mpr hf)
theorem m9 {f:List Int} (h:Fam [f]):prQ [f]=ag f:=by
 rw [h.prd]
 show af (ag f) [1]=_
 exact cJ _
structure OneS (fs:List (List Int)) (f0 s0:List Int) (l1 l2 h1 h2:Int):Prop where
 fam:Fam fs
 mem:f0∈fs
 sp:s0∈spF f0
 l2p:0<l2
 h2p:0<h2
 lt:l1*h2<h1*l2
 inn:0<ak s0 l1 l2/\ak s0 h1 h2<=0
 only:∀ s∈aJ fs,0<ak s l1 l2->ak s h1 h2<=0->s=s0
theorem D4 {l1 l2 h1 h2:Int} (hF:Fam fs) (l2p:0<l2) (h2p:0<h2) (lt:l1*h2<h1*l2) (h:bh (aJ fs) l1 l2 h1 h2=1):∃ f0 s0,OneS fs f0 s0 l1 l2 h1 h2:=by
 obtain ⟨pre,s,post,e,hin,hno⟩:=lx h
 have hs:s∈aJ fs:=by rw [e];simp
 obtain ⟨f0,hf0,hsp⟩:=List.mem_flatMap.mp hs
 refine ⟨f0,s,hF,hf0,hsp,l2p,h2p,lt,hin,fun x hx a b=>?_⟩
 rw [e] at hx
 rcases List.mem_append.mp hx with z | z
 ·exact absurd ⟨a,b⟩ (hno x (List.mem_append_left _ z))
 ·rcases List.mem_cons.mp z with z | z
  ·exact z
  ·exact absurd ⟨a,b⟩ (hno x (List.mem_append_right _ z))
variable {f0 s0:List Int} {l1 l2 h1 h2:Int}
theorem mK {s:List Int} (hs:Spt s) {t n t' n':Int} (hn:0<n) (hn':0<n') (h:t*n'<=t'*n) (hz:ak s t n<=0):ak s t' n'<=0:=by
 rcases Int.lt_or_eq_of_le h with w | w
 ·have:=dR hs hn hn' w hz;omega
 ·rw [<- g7 s hn hn' w];exact hz
theorem OneS.zero (h:OneS fs f0 s0 l1 l2 h1 h2) {x1 x2:Int} (x2p:0<x2) (a:l1*x2<x1*l2) (b:x1*h2<=h1*x2) (z:hv x1 x2 (prQ fs)=0):ak s0 x1 x2=0:=by
 have hs:=h.fam.sign (t:=x1) (n:=x2) x2p
 rw [z] at hs
 obtain ⟨s,hm,hz⟩:=oG (show spr x1 x2 (aJ fs)=0 from hs.symm)
 have hS:=c9 h.fam.q hm
 have e:s=s0:=by
  refine h.only s hm (Int.not_le.mp fun w=>?_) (mK hS x2p h.h2p b (by omega))
  have:=dR hS h.l2p x2p a w
  omega
 rw [<- e];exact hz
theorem oM {u e b:Int} {s:List Int} (h:s∈spF [u,e,b]):∃ σ:Int,s=[u,e,b,σ]/\(σ=1/\0<=e\/σ = -1/\0<e):=by
 unfold spF at h
 rcases List.mem_append.mp h with w | w
 ·split at w
  ·rename_i he
   exact ⟨1,List.mem_singleton.mp w,.inl ⟨rfl,he⟩⟩
  ·cases w
 ·split at w
  ·rename_i he
   exact ⟨-1,List.mem_singleton.mp w,.inr ⟨rfl,he⟩⟩
  ·cases w
theorem o1 {u e b σ t n:Int} (hNS:NS e) (he:0<e) (hn:0<n):ak [u,e,b,σ] t n≠0:=fun z=>by
 unfold ak at z
 have key:∀ d:Int,aV (e*n*n) d=0->False:=fun d hd=>by
  rcases bU (e*n*n) d with ⟨c,_⟩ | ⟨_,_,c⟩ | ⟨c,_⟩
  ·omega
  ·exact hNS.no (x:=n) (y:=d) (by omega) (by omega) (by rw [c];grind)
  ·omega
 split at z
 ·exact key _ z
 ·exact key _ (by have:0-aV (e*n*n) (0-(b*t-u*n))=0:=z;show aV (e*n*n) (0-(b*t-u*n))=0;omega)
theorem sT {u e b:Int} (h:FacG [u,e,b]):1<=b/\NS e:=by
 obtain ⟨u',e',b',he,_,_,_,_,h5,_,h7⟩:=h
 cases he;exact ⟨h5,h7⟩
theorem OneS.cases (h:OneS fs f0 s0 l1 l2 h1 h2):∃ u e b σ:Int,f0=[u,e,b]/\s0=[u,e,b,σ]/\1<=b/\NS e/\(σ=1/\e=0\/(σ=1\/σ = -1)/\0<e):=by
 obtain ⟨u,e,b,rfl,_⟩:=h.fam.fac f0 h.mem
 obtain ⟨hb,hn⟩:=sT (h.fam.fac _ h.mem)
 obtain ⟨σ,rfl,hσ⟩:=oM h.sp
 refine ⟨u,e,b,σ,rfl,rfl,hb,hn,?_⟩
 rcases hσ with ⟨a,c⟩ | ⟨a,c⟩
 ·rcases Int.lt_or_eq_of_le c with w | w
  ·exact .inr ⟨.inl a,w⟩
  ·exact .inl ⟨a,w.symm⟩
 ·exact .inr ⟨.inr a,c⟩
theorem OneS.none (h:OneS fs f0 s0 l1 l2 h1 h2) {u e b σ:Int} (ef:s0=[u,e,b,σ]) (hN:NS e) (he:0<e) {x1 x2:Int} (x2p:0<x2) (a:l1*x2<x1*l2) (c:x1*h2<=h1*x2):hv x1 x2 (prQ fs)≠0:=fun z=>by
 have:=h.zero x2p a c z
 rw [ef] at this
 exact o1 hN he x2p this
theorem yV (h:Fam fs) (hf:f0∈fs):∃ r:Int,0<r/\ao (prQ fs)=ao (ag f0)*r:=by
 obtain ⟨pre,post,e⟩:=List.append_of_mem (List.mem_map_of_mem (f:=ag) hf)
 have hp:=h.pri
 rw [h.prd]
 rw [e] at hp ⊢
 have hq:Pln (RM.prd (pre++post)):=ig _ fun s hs=>(hp s (by simp at hs ⊢;rcases hs with z | z<;>simp [z])).pln
 have hs:Pln (ag f0):=(hp _ (by simp)).pln
 rw [kC,rX hs.ne hq.ne]
 exact ⟨_,hq.pos,rfl⟩
theorem Dc {a b c d:Int} (hb:0<b) (hd:0<d) (g1:Nat.gcd a.natAbs b.natAbs=1) (g2:Nat.gcd c.natAbs d.natAbs=1) (e:a*d=c*b):a=c/\b=d:=by
 have e':a.natAbs*d.natAbs=c.natAbs*b.natAbs:=by
  have:=congrArg Int.natAbs e
  rwa [Int.natAbs_mul,Int.natAbs_mul] at this
 have h1:b.natAbs∣d.natAbs:=Nat.Coprime.dvd_of_dvd_mul_left (k:=b.natAbs) (m:=a.natAbs) (by rw [Nat.Coprime,Nat.gcd_comm];exact g1) ⟨c.natAbs,by rw [e',Nat.mul_comm]⟩
 have h2:d.natAbs∣b.natAbs:=Nat.Coprime.dvd_of_dvd_mul_left (k:=d.natAbs) (m:=c.natAbs) (by rw [Nat.Coprime,Nat.gcd_comm];exact g2) ⟨a.natAbs,by rw [<- e',Nat.mul_comm]⟩
 have h3:=Nat.dvd_antisymm h1 h2
 have h4:b=d:=by omega
 subst h4
 exact ⟨Int.eq_of_mul_eq_mul_right (by omega) e,rfl⟩
theorem mN {u b:Int} (hb:1<=b):∃ g A0 A1:Int,0<g/\ag [u,0,b]=[A0,A1] /\ -u=g*A0/\b=g*A1/\0<A1/\Nat.gcd A0.natAbs A1.natAbs=1:=by
 have hr:aK u 0 b=[-u,b]:=by unfold aK;rw [if_pos rfl]
 have ht:=(fL (u:=u) (e:=0) hb).1
 rw [hr] at ht
 have hl:ao [-u,b]=b:=rfl
 obtain ⟨g,hg,e⟩:=kE ht (by simp) (by rw [hl];omega)
 have hS:ag [u,0,b]=aC [-u,b]:=by show aC (aK u 0 b)=_;rw [hr]
 have hp:=eK ht (by simp)
 rw [hS]
 have hl2:(aC [-u,b]).length=2:=RM.plain_len _
 generalize aC [-u,b]=P at e hp hl2
 match P,hl2 with
 | [A0,A1],_ =>
   have e1 : -u=g*A0/\b=g*A1:=by
    have:[-u,b]=[g*A0,g*A1]:=e
    simpa using this
   refine ⟨g,A0,A1,hg,rfl,e1.1,e1.2,hp.pos,?_⟩
   have h2:aw [A0,A1]=Nat.gcd A0.natAbs A1.natAbs:=by
    unfold aw
    rw [gK,gK,nZ,Nat.gcd_zero_left]
   rw [<- h2];exact hp.prim
theorem JO {a y Z:Int} (hy:0<y) (h1:Z*y<=a) (h2:a<(Z+1)*y):a/y=Z :=
 Int.le_antisymm (Int.lt_add_one_iff.mp (Int.ediv_lt_of_lt_mul hy h2)) (Int.le_ediv_of_mul_le hy h1)
theorem side_line {u b t n:Int}:0<ak [u,0,b,1] t n↔b*t<u*n:=by
 unfold ak
 rw [if_pos (show (0:Int)<cf [u,0,b,1] 3 from (by decide:(0:Int)<1))]
 show 0<aV (0*n*n) (b*t-u*n)↔_
 rw [Int.zero_mul,Int.zero_mul]
 rcases bU 0 (b*t-u*n) with ⟨c,d⟩ | ⟨c,d,_⟩ | ⟨c,d,_⟩
 ·rw [c]
  constructor
  ·intro _
   rcases d with d | d
   ·omega
   ·have:0<=(b*t-u*n)*(b*t-u*n):=by
     rcases Int.le_total 0 (b*t-u*n) with w | w
     ·exact Int.mul_nonneg w w
     ·exact Int.mul_nonneg_of_nonpos_of_nonpos w w
    omega
  ·intro _;decide
 ·rw [c];constructor
  ·intro z;exact absurd z (by decide)
  ·intro z;omega
 ·rw [c];constructor
  ·intro z;exact absurd z (by decide)
  ·intro z;omega
theorem OneS.line {u b:Int} (h:OneS fs [u,0,b] [u,0,b,1] l1 l2 h1 h2) {x1 x2 y1 y2 B:Int} (x2p:0<x2) (y2p:0<y2) (hB:1<=B) (lo:0<ak [u,0,b,1] x1 x2) (hi:ak [u,0,b,1] y1 y2<=0) (hlt:x1*y2<y1*x2) (hw:(y1*x2-x1*y2)*(8*ao (prQ fs)*B)<=1*(x2*y2)) :
 let Z:=ao (prQ fs)*y1/y2
 ag [u,0,b]=[-(rt Z (ao (prQ fs))),rb Z (ao (prQ fs))]/\x1*rb Z (ao (prQ fs))<rt Z (ao (prQ fs))*x2/\hv (rt Z (ao (prQ fs))) (rb Z (ao (prQ fs))) (prQ fs)=0:=by
 have hb:=(sT (h.fam.fac _ h.mem)).1
 obtain ⟨g,A0,A1,hg,eS,e0,e1,hA,hgcd⟩:=mN (u:=u) hb
 obtain ⟨r,hr,eL⟩:=yV h.fam h.mem
 rw [eS] at eL
 have eL':ao (prQ fs)=A1*r:=eL
 have lo':=side_line.mp lo
 have hi':u*y2<=b*y1:=Int.not_lt.mp fun z=>by have:=side_line.mpr z;omega
 have Lp:0<ao (prQ fs):=h.fam.pln.pos
 have k1 : -A0*y2<=A1*y1:=by
  refine Int.le_of_mul_le_mul_left (a:=g) ?_ hg
  have q1:g*(-A0*y2)=u*y2:=by
   have:u=g * -A0:=by grind
   rw [this];grind
  have q2:g*(A1*y1)=b*y1:=by rw [e1];grind
  omega
 have k2:A1*x1 < -A0*x2:=by
  refine Int.lt_of_mul_lt_mul_left (a:=g) ?_ (Int.le_of_lt hg)
  have q1:g*(-A0*x2)=u*x2:=by
   have:u=g * -A0:=by grind
   rw [this];grind
  have q2:g*(A1*x1)=b*x1:=by rw [e1];grind
  omega
 have eZ:ao (prQ fs)*y1/y2 = -A0*r:=by
  refine JO y2p ?_ ?_
  ·rw [eL']
   have:=Int.mul_le_mul_of_nonneg_left k1 (Int.le_of_lt hr)
   have q1:r*(-A0*y2) = -A0*r*y2:=by grind
   have q2:r*(A1*y1)=A1*r*y1:=by grind
   omega
  ·have w0:0<=(y1*x2-x1*y2)*ao (prQ fs):=Int.mul_nonneg (by omega) (Int.le_of_lt Lp)
   have w1:(y1*x2-x1*y2)*(8*ao (prQ fs)*B)=(y1*x2-x1*y2)*ao (prQ fs)*(8*B):=by grind
   have w2:=Int.mul_le_mul_of_nonneg_left (show 1<=8*B by omega) w0
   have w3:(y1*x2-x1*y2)*ao (prQ fs)<=x2*y2:=by omega
   rw [eL'] at w3 ⊢
   have w4:=Int.mul_lt_mul_of_pos_left k2 (Int.mul_pos hr y2p)
   refine Int.lt_of_mul_lt_mul_right (a:=x2) ?_ (Int.le_of_lt x2p)
   have q1:A1*r*y1*x2=(y1*x2-x1*y2)*(A1*r)+r*y2*(A1*x1):=by grind
   have q2:(-A0*r+1)*y2*x2=r*y2*(-A0*x2)+x2*y2:=by grind
   rw [q1,q2];omega
 intro Z
 have hZ:Z = -A0*r:=eZ
 clear_value Z
 subst hZ
 have L0:ao (prQ fs)≠0:=by omega
 have hc:=eJ (t := -A0*r) L0
 have hgr:=ku (t := -A0*r) L0
 have hpr:=cY (t := -A0*r) L0
 obtain ⟨m1,m2⟩:=Dc (a:=rt (-A0*r) (ao (prQ fs))) (b:=rb (-A0*r) (ao (prQ fs))) (c := -A0) (d:=A1) hpr hA hgr (by rw [Int.natAbs_neg];exact hgcd) (by
  refine Int.eq_of_mul_eq_mul_right (a:=r) (by omega) ?_
  rw [Int.mul_assoc,<- eL',hc];grind)
 rw [m1,m2]
 refine ⟨by rw [eS,Int.neg_neg],by rw [Int.mul_comm];exact k2,?_⟩
 have hs:=h.fam.sign (t := -A0) (n:=A1) hA
 have hz:spr (-A0) A1 (aJ fs)=0:=by
  have hm:[u,0,b,1]∈aJ fs:=List.mem_flatMap.mpr ⟨_,h.mem,h.sp⟩
  have hside:ak [u,0,b,1] (-A0) A1=0:=by
   unfold ak
   rw [if_pos (show (0:Int)<cf [u,0,b,1] 3 from (by decide:(0:Int)<1))]
   show aV (0*A1*A1) (b * -A0-u*A1)=0
   have:b * -A0-u*A1=0:=by
    have q:u=g * -A0:=by grind
    rw [e1,q];grind
   rw [this,Int.zero_mul,Int.zero_mul];rfl
  have z0:∀ ls:List (List Int),[u,0,b,1]∈ls->spr (-A0) A1 ls=0:=fun ls=>by
   induction ls with
   | nil=>intro h;cases h
   | cons l ls ih =>
     intro h
     show -ak l (-A0) A1*spr (-A0) A1 ls=0
     rcases List.mem_cons.mp h with w | w
     ·rw [<- w,hside];omega
     ·rw [ih w,Int.mul_zero]
  exact z0 _ hm
 rw [hz] at hs
 exact (o6 _).mp hs
end RM
namespace RM
theorem eI {g a b:Rat} (hg:0<g) (h:g*a<=g*b):a<=b:=Rat.not_lt.mp fun z=>by
 have:=Rat.mul_pos hg (show 0<a-b by grind)
 grind
theorem qT {g a b:Rat} (hg:0<g) (h:g*a<g*b):a<b:=Rat.not_le.mp fun z=>by
 have:=Rat.mul_nonneg (Rat.le_of_lt hg) (show 0<=a-b by grind)
 grind
theorem BK {u b g A1 A2 r L w x y x' y':Rat} (hg:0<g) (hb:0<b) (hr:0<r) (hA:0<A2) (e1 : -2*b*u=g*A1) (e2:b*b=g*A2) (eL:L=A2*r) (s1:2*u<=b*(y+y')) (s2:b*(x+x')<2*u) (hw:y-x<=w) (hw':y'-x'<=w) (hwL:4*(L*w)<=1) : -A1*r<=L*(y+y')/\L*(y+y') < -A1*r+1:=by
 have hbr:=Rat.mul_pos hb hr
 have hL:0<L:=by rw [eL];exact Rat.mul_pos hA hr
 have q1:g*(L*(y+y'))=b*r*(b*(y+y')):=by rw [eL];grind
 have q2:g*(-A1*r)=b*r*(2*u):=by grind
 constructor
 ·refine eI hg ?_
  rw [q1,q2]
  exact Rat.mul_le_mul_of_nonneg_left s1 (Rat.le_of_lt hbr)
 ·have h1:L*(x+x') < -A1*r:=by
   refine qT hg ?_
   have q3:g*(L*(x+x'))=b*r*(b*(x+x')):=by rw [eL];grind
   rw [q3,q2]
   have:=Rat.mul_pos hbr (show 0<2*u-b*(x+x') by grind)
   grind
  have h2:=Rat.mul_le_mul_of_nonneg_left (show y+y'<=x+x'+2*w by grind) (Rat.le_of_lt hL)
  have e3:L*(x+x'+2*w)=L*(x+x')+2*(L*w):=by grind
  grind
theorem DA {u e b g A0 A2 r L w N m:Rat} (hg:0<g) (hr:0<r) (hA:0<A2) (e0:u*u-e=g*A0) (e2:b*b=g*A2) (eL:L=A2*r) (p1:u*u-e<b*b*m) (p2:b*b*m<=u*u-e+2*(b*b)*(w*N)) (hwL:2*(L*(w*N))<1):A0*r<=L*m/\L*m<A0*r+1:=by
 have q1:g*(L*m)=r*(b*b*m):=by rw [eL];grind
 have q2:g*(A0*r)=r*(u*u-e):=by grind
 constructor
 ·refine eI hg ?_
  rw [q1,q2]
  exact Rat.mul_le_mul_of_nonneg_left (Rat.le_of_lt p1) (Rat.le_of_lt hr)
 ·have h1:L*m<=A0*r+2*(L*(w*N)):=by
   refine eI hg ?_
   have q3:g*(A0*r+2*(L*(w*N)))=r*(u*u-e+2*(b*b)*(w*N)):=by rw [eL];grind
   rw [q1,q3]
   exact Rat.mul_le_mul_of_nonneg_left p2 (Rat.le_of_lt hr)
  grind
theorem NS.irr {e:Int} (h:NS e) (he:0<e) (q:Rat):q*q≠(e:Rat):=fun z=>by
 have hn:=nq q
 have hd:=d9 q
 refine h.no (x:=(q.den:Int)) (y:=q.num) (by omega) (by omega) ?_
 refine Rat.intCast_inj.mp ?_
 rw [Rat.intCast_mul,Rat.intCast_mul,Rat.intCast_mul,hn,<- z]
 grind
theorem o3 {u e b:Int} (hb:1<=b) (he:e≠0):∃ g A0 A1 A2:Int,0<g/\ag [u,e,b]=[A0,A1,A2]/\u*u-e=g*A0 /\ -2*b*u=g*A1/\b*b=g*A2/\0<A2:=by
 have hr:aK u e b=[u*u-e,-2*b*u,b*b]:=by unfold aK;rw [if_neg he]
 have ht:=(fL (u:=u) (e:=e) hb).1
 rw [hr] at ht
 have hl:ao [u*u-e,-2*b*u,b*b]=b*b:=rfl
 obtain ⟨g,hg,e'⟩:=kE ht (by simp) (by rw [hl];exact Int.mul_pos (by omega) (by omega))
 have hS:ag [u,e,b]=aC [u*u-e,-2*b*u,b*b]:=by show aC (aK u e b)=_;rw [hr]
 have hp:=eK ht (by simp)
 rw [hS]
 have hl2:(aC [u*u-e,-2*b*u,b*b]).length=3:=RM.plain_len _
 generalize aC [u*u-e,-2*b*u,b*b]=P at e' hp hl2
 match P,hl2 with
 | [A0,A1,A2],_ =>
   have e1:u*u-e=g*A0 /\ -2*b*u=g*A1/\b*b=g*A2:=by
    have:[u*u-e,-2*b*u,b*b]=[g*A0,g*A1,g*A2]:=e'
    simpa using this
   exact ⟨g,A0,A1,A2,hg,rfl,e1.1,e1.2.1,e1.2.2,hp.pos⟩
theorem xj {L B:Int} {d w:Rat} (hLB:0<L*B) (hw:w*(8*((L:Rat)*(B:Rat)))=1) (h:d*(8*((L:Rat)*(B:Rat)))<=1):d<=w:=by
 have p:(0:Rat)<8*((L:Rat)*(B:Rat)):=by
  have:(0:Rat)<((L*B:Int):Rat):=Rat.intCast_lt_intCast.mpr hLB
  rw [Rat.intCast_mul] at this
  grind
 refine eI p ?_
 grind
theorem vR {u e b L B:Int} (hF:Fam fs) (hm:[u,e,b]∈fs) (he:0<e) (hL:L=ao (prQ fs)) (hB:1<=B) {x y x' y' m:Rat} (T:Two u e b x y x' y') (hxy:x<y) (hxy':x'<y') (hw:(y-x)*(8*((L:Rat)*(B:Rat)))<=1) (hw':(y'-x')*(8*((L:Rat)*(B:Rat)))<=1)
 (n1:Bd (2*(B:Rat)-1/2) x) (n2:Bd (2*(B:Rat)-1/2) y) (n3:Bd (2*(B:Rat)-1/2) x') (n4:Bd (2*(B:Rat)-1/2) y') (c1:x*x'<=m) (c2:x*y'<=m) (c3:y*x'<=m) (c4:y*y'<=m) (hmm:m=x*x'\/m=x*y'\/m=y*x'\/m=y*y')
 {t1 t2 m1 m2:Int} (t2p:0<t2) (m2p:0<m2) (ht:(t1:Rat)/(t2:Rat)=y+y') (hmr:(m1:Rat)/(m2:Rat)=m):aC [L*m1/m2,-(L*t1/t2),L]=ag [u,e,b]:=by
 obtain ⟨hb,hN⟩:=sT (hF.fac _ hm)
 obtain ⟨g,A0,A1,A2,hg,eS,e0,e1,e2,hA⟩:=o3 (u:=u) hb (show e≠0 by omega)
 obtain ⟨r,hr,eL⟩:=yV hF hm
 rw [eS,<- hL] at eL
 have eL':L=A2*r:=eL
 have Lp:0<L:=by rw [eL'];exact Int.mul_pos hA hr
 have LB:0<L*B:=Int.mul_pos Lp (by omega)
 have cL:(0:Rat)<(L:Rat):=Rat.intCast_lt_intCast.mpr Lp
 have cB:(1:Rat)<=(B:Rat):=Rat.intCast_le_intCast.mpr hB
 have cp:(0:Rat)<8*((L:Rat)*(B:Rat)):=by
  have:=Rat.mul_pos cL (show (0:Rat)<(B:Rat) by grind);grind
 obtain ⟨w,hwd⟩:∃ w:Rat,w*(8*((L:Rat)*(B:Rat)))=1:=⟨1/(8*((L:Rat)*(B:Rat))),Rat.div_mul_cancel (Rat.ne_of_gt cp)⟩
 have h1:=xj LB hwd hw
 have h2:=xj LB hwd hw'
 have cg:(0:Rat)<(g:Rat):=Rat.intCast_lt_intCast.mpr hg
 have cb:(0:Rat)<(b:Rat):=Rat.intCast_lt_intCast.mpr (show (0:Int)<b by omega)
 have cr:(0:Rat)<(r:Rat):=Rat.intCast_lt_intCast.mpr hr
 have cA:(0:Rat)<(A2:Rat):=Rat.intCast_lt_intCast.mpr hA
 have ce:(0:Rat)<(e:Rat):=Rat.intCast_lt_intCast.mpr he
 have E0:(u:Rat)*(u:Rat)-(e:Rat)=(g:Rat)*(A0:Rat):=by
  rw [<- Rat.intCast_mul,<- Rat.intCast_sub,e0,Rat.intCast_mul]
 have E1 : -2*(b:Rat)*(u:Rat)=(g:Rat)*(A1:Rat):=by
  rw [<- Rat.intCast_mul,<- e1,Rat.intCast_mul,Rat.intCast_mul];rfl
 have E2:(b:Rat)*(b:Rat)=(g:Rat)*(A2:Rat):=by rw [<- Rat.intCast_mul,e2,Rat.intCast_mul]
 have EL:(L:Rat)=(A2:Rat)*(r:Rat):=by rw [eL',Rat.intCast_mul]
 have wp:0<w:=Rat.not_le.mp fun z=>by
  have:=Rat.mul_nonneg (show 0 <= -w by grind) (Rat.le_of_lt cp)
  grind
 have LwB:8*((L:Rat)*w*(B:Rat))=1:=by grind
 have Lw:0<(L:Rat)*w:=Rat.mul_pos cL wp
 have Lw4:4*((L:Rat)*w)<=1:=by
  have:=Rat.mul_le_mul_of_nonneg_left cB (Rat.le_of_lt Lw)
  grind
 have S:=T.sum
 obtain ⟨f1,f2⟩:=BK cg cb cr cA E1 E2 EL S.1 S.2 h1 h2 Lw4
 obtain ⟨P1,P2⟩:=T.prod cb ce (hN.irr he) hxy hxy' h1 h2 n1 n2 n3 n4 c1 c2 c3 c4 hmm
 obtain ⟨f3,f4⟩:=DA cg cr cA E0 E2 EL P1 P2 (by grind)
 have z1:L*t1/t2 = -A1*r:=zA t2p (by rw [ht,Rat.intCast_mul,Rat.intCast_neg];exact f1) (by rw [ht,Rat.intCast_mul,Rat.intCast_neg];exact f2)
 have z2:L*m1/m2=A0*r:=zA m2p (by rw [hmr,Rat.intCast_mul];exact f3) (by rw [hmr,Rat.intCast_mul];exact f4)
 rw [z1,z2,eL']
 have hP:Pln (ag [u,e,b]):=(eY (hF.fac _ hm)).pln
 have e3:[A0*r,-(-A1*r),A2*r]=scL r (ag [u,e,b]):=by
  rw [eS]
  show _=[r*A0,r*A1,r*A2]
  rw [Int.mul_comm A0,Int.mul_comm A2]
  congr 2
  grind
 rw [e3,kF (by omega) hP.tr,hP.plain]
end RM
namespace RM
variable {fs:List (List Int)} {f0 s0:List Int} {l1 l2 h1 h2:Int}
theorem BS {u e b σ:Int} {f:List Int} (hf:eD f) (h:[u,e,b,σ]∈spF f):f=[u,e,b]:=by
 obtain ⟨u',e',b',rfl,_⟩:=hf
 obtain ⟨σ',eq,_⟩:=oM h
 cases eq;rfl
theorem j9 {u e b:Int} (he:0<e):spF [u,e,b]=[[u,e,b,1],[u,e,b,-1]]:=by
 show (if 0<=e then [[u,e,b,1]] else [])++(if 0<e then [[u,e,b,-1]] else [])=_
 rw [if_pos (by omega),if_pos he];rfl
theorem j8 {u b:Int}:spF [u,0,b]=[[u,0,b,1]]:=by
 show (if (0:Int)<=0 then [[u,0,b,1]] else [])++(if (0:Int)<0 then [[u,0,b,-1]] else [])=_
 rw [if_pos (by decide),if_neg (by decide)];rfl
theorem vV (f:List Int):aJ [f]=spF f:=by show spF f++[]=_;rw [List.append_nil]
theorem OneS.cnt (h:OneS fs f0 s0 l1 l2 h1 h2):bh (aJ [f0]) l1 l2 h1 h2=1:=by
 obtain ⟨u,e,b,σ,rfl,rfl,hb,hN,hc⟩:=h.cases
 rw [vV]
 have hin:=h.inn
 have other:∀ τ:Int,[u,e,b,τ]∈spF [u,e,b]->τ≠σ->¬ (0<ak [u,e,b,τ] l1 l2/\ak [u,e,b,τ] h1 h2<=0):=fun τ hτ hne z=>by
  have:=h.only _ (List.mem_flatMap.mpr ⟨_,h.mem,hτ⟩) z.1 z.2
  simp at this
  exact hne this
 have c0:bh [] l1 l2 h1 h2=0:=rfl
 rcases hc with ⟨rfl,rfl⟩ | ⟨hσ,he⟩
 ·rw [j8,c8,if_pos hin,c0];rfl
 ·rw [j9 he] at other ⊢
  rcases hσ with rfl | rfl
  ·rw [c8,c8,if_pos hin,if_neg (other (-1) (by simp) (by decide)),c0];rfl
  ·rw [c8,c8,if_neg (other 1 (by simp) (by decide)),if_pos hin,c0];rfl
theorem OneS.sq (h:OneS fs f0 s0 l1 l2 h1 h2) (hl0:(ag f0).length=3) {E:List Int} (hE:Pln E) (hl:E.length=3) (hd:Dv E (prQ fs)):∃ gs,Fam gs/\(∀ g∈gs,g∈fs)/\gs.length<=2/\E=prQ gs/\(bh (aJ gs) l1 l2 h1 h2=1->E=ag f0):=by
 have hF:=h.fam
 have hs0:∀ gs:List (List Int),Fam gs->(∀ g∈gs,g∈fs)->bh (aJ gs) l1 l2 h1 h2=1->f0∈gs:=fun gs hG hsub hc=>by
  obtain ⟨pre,s,post,eq,hin,_⟩:=lx hc
  have hm:s∈aJ gs:=by rw [eq];simp
  obtain ⟨f,hf,hsf⟩:=List.mem_flatMap.mp hm
  have e1:=h.only s (List.mem_flatMap.mpr ⟨f,hsub f hf,hsf⟩) hin.1 hin.2
  obtain ⟨u,e,b,σ,ef,es,_⟩:=h.cases
  rw [e1,es] at hsf
  have:=BS (hG.q f hf) hsf
  rw [ef,<- this];exact hf
 rw [hF.prd] at hd
 rcases JU hF.pri hF.nd hE hl hd with hm | ⟨p,q,hp,hq,hne,eE⟩
 ·obtain ⟨f,hf,rfl⟩:=List.mem_map.mp hm
  have hG:=hF.single hf
  refine ⟨[f],hG,fun g hg=>by rw [List.mem_singleton.mp hg];exact hf,by simp,(m9 hG).symm,fun hc=>?_⟩
  have:=hs0 [f] hG (fun g hg=>by rw [List.mem_singleton.mp hg];exact hf) hc
  rw [List.mem_singleton.mp this]
 ·obtain ⟨f,hf,rfl⟩:=List.mem_map.mp hp
  obtain ⟨f',hf',rfl⟩:=List.mem_map.mp hq
  have hsub:∀ g∈[f,f'],g∈fs:=fun g hg=>by
   rcases List.mem_cons.mp hg with rfl | w
   ·exact hf
   ·rw [List.mem_singleton.mp w];exact hf'
  have hG:Fam [f,f']:=⟨fun g hg=>hF.fac g (hsub g hg),by simp;exact hne⟩
  have eP:E=prQ [f,f']:=by
   rw [hG.prd,eE]
   show _=af (ag f) (af (ag f') [1])
   rw [cJ]
  refine ⟨[f,f'],hG,hsub,by simp,eP,fun hc=>?_⟩
  have hm:=hs0 [f,f'] hG hsub hc
  have n1:=(eY (hF.fac f hf))
  have n2:=(eY (hF.fac f' hf'))
  have hlen:=bI n1.pln.ne n2.pln.ne
  rw [<- eE,hl] at hlen
  have t1:=n1.two
  have t2:=n2.two
  rcases List.mem_cons.mp hm with rfl | w
  ·omega
  ·rw [List.mem_singleton.mp w] at hl0;omega
theorem u3 (hF:Fam fs) (hm:f0∈fs) (hl:(prQ fs).length<=(ag f0).length):prQ fs=ag f0:=by
 obtain ⟨pre,post,e⟩:=List.append_of_mem (List.mem_map_of_mem (f:=ag) hm)
 have hp:=hF.pri
 rw [hF.prd] at hl ⊢
 rw [e] at hp hl ⊢
 have hq:Pln (RM.prd (pre++post)):=ig _ fun s hs=>(hp s (by simp at hs ⊢;rcases hs with z | z<;>simp [z])).pln
 have hs:Pln (ag f0):=(hp _ (by simp)).pln
 rw [kC] at hl ⊢
 have hlen:=bI hs.ne hq.ne
 have:=List.length_pos_iff.mpr hs.ne
 have:=List.length_pos_iff.mpr hq.ne
 rw [hq.const (by omega),cJ]
theorem OneS.low (h:OneS fs f0 s0 l1 l2 h1 h2):sg (hv l1 l2 (ag f0))≠0:=by
 have hG:=h.fam.single h.mem
 rw [<- m9 hG,hG.sign h.l2p,vV]
 obtain ⟨u,e,b,σ,rfl,rfl,hb,hN,hc⟩:=h.cases
 intro z
 obtain ⟨s,hs,hz⟩:=oG z
 have hin:=h.inn.1
 rcases hc with ⟨rfl,rfl⟩ | ⟨hσ,he⟩
 ·rw [j8] at hs
  rw [List.mem_singleton.mp hs] at hz
  omega
 ·obtain ⟨τ,rfl,_⟩:=oM hs
  exact o1 hN he h.l2p hz
theorem oB {u e b x1 x2 y1 y2 p1 p2 q1 q2:Int} (x2p:0<x2) (y2p:0<y2) (p2p:0<p2) (q2p:0<q2) (hx:0<ak [u,e,b,1] x1 x2) (hy:ak [u,e,b,1] y1 y2<=0) (hp:0<ak [u,e,b,-1] p1 p2) (hq:ak [u,e,b,-1] q1 q2<=0):Two u e b ((x1:Rat)/(x2:Rat)) ((y1:Rat)/(y2:Rat)) ((p1:Rat)/(p2:Rat)) ((q1:Rat)/(q2:Rat)):=by
 rw [<- fM _ x2p] at hx
 rw [<- fM _ y2p] at hy
 rw [<- fM _ p2p] at hp
 rw [<- fM _ q2p] at hq
 have hy':=fun z=>(absurd (vk _ |>.mpr z) (Int.not_lt.mpr hy):False)
 have hq':=fun z=>(absurd (vm _ |>.mpr z) (Int.not_lt.mpr hq):False)
 refine ⟨(vk _).mp hx,?_,(vm _).mp hp,?_⟩
 ·generalize (b:Rat)*((y1:Rat)/(y2:Rat))-(u:Rat)=v at hy'
  refine ⟨Rat.not_lt.mp fun z=>hy' (.inl z),Rat.not_lt.mp fun z=>hy' (.inr z)⟩
 ·generalize (b:Rat)*((q1:Rat)/(q2:Rat))-(u:Rat)=v at hq'
  by_cases z:0<v
  ·exact .inl z
  ·exact .inr (Rat.not_lt.mp fun w=>hq' ⟨Rat.not_lt.mp z,w⟩)
theorem yn {s:List Int} (hs:Spt s) {B L:Int} (hB:1<=B) (hL:1<=L) (hb:ak s B 1<0/\0<ak s (-B) 1) {x1 x2 y1 y2:Int} (x2p:0<x2) (y2p:0<y2) (hx:0<ak s x1 x2) (hy:ak s y1 y2<=0) (hlt:x1*y2<y1*x2) (hw:(y1*x2-x1*y2)*(8*L*B)<=1*(x2*y2)) :
 Bd (2*(B:Rat)-1/2) ((x1:Rat)/(x2:Rat))/\Bd (2*(B:Rat)-1/2) ((y1:Rat)/(y2:Rat))/\(x1:Rat)/(x2:Rat)<(y1:Rat)/(y2:Rat)/\((y1:Rat)/(y2:Rat)-(x1:Rat)/(x2:Rat))*(8*((L:Rat)*(B:Rat)))<=1:=by
 have X2:(0:Rat)<(x2:Rat):=Rat.intCast_lt_intCast.mpr x2p
 have Y2:(0:Rat)<(y2:Rat):=Rat.intCast_lt_intCast.mpr y2p
 have e1:(x1:Rat)/(x2:Rat)*(x2:Rat)=(x1:Rat):=Rat.div_mul_cancel (Rat.ne_of_gt X2)
 have e2:(y1:Rat)/(y2:Rat)*(y2:Rat)=(y1:Rat):=Rat.div_mul_cancel (Rat.ne_of_gt Y2)
 have ltR:=(ia x2p y2p).mpr hlt
 have xB:x1<B*x2:=Int.not_le.mp fun z=>by
  have:=mK hs (t:=B) (n:=1) (t':=x1) (n':=x2) (by decide) x2p (by omega) (by omega)
  omega
 have yB : -B*y2<y1:=Int.not_le.mp fun z=>by
  have:=mK hs (t:=y1) (n:=y2) (t' := -B) (n':=1) y2p (by decide) (by omega) hy
  omega
 have cB:(1:Rat)<=(B:Rat):=Rat.intCast_le_intCast.mpr hB
 have cL:(1:Rat)<=(L:Rat):=Rat.intCast_le_intCast.mpr hL
 have xB':(x1:Rat)<(B:Rat)*(x2:Rat):=by rw [<- Rat.intCast_mul];exact Rat.intCast_lt_intCast.mpr xB
 have yB' : -(B:Rat)*(y2:Rat)<(y1:Rat):=by
  rw [<- Rat.intCast_neg,<- Rat.intCast_mul];exact Rat.intCast_lt_intCast.mpr yB
 have hw':((y1:Rat)*(x2:Rat)-(x1:Rat)*(y2:Rat))*(8*(L:Rat)*(B:Rat))<=(x2:Rat)*(y2:Rat):=by
  rw [Int.one_mul] at hw
  have:=Rat.intCast_le_intCast.mpr hw
  rw [Rat.intCast_mul,Rat.intCast_mul,Rat.intCast_mul,Rat.intCast_mul,Rat.intCast_sub,Rat.intCast_mul,Rat.intCast_mul] at this
  exact this
 generalize (x1:Rat)/(x2:Rat)=x at *
 generalize (y1:Rat)/(y2:Rat)=y at *
 rw [<- e1] at xB' hw'
 rw [<- e2] at yB' hw'
 have xb:x<(B:Rat):=qT X2 (by grind)
 have yb : -(B:Rat)<y:=qT Y2 (by grind)
 have M:=Rat.mul_pos X2 Y2
 have wd:(y-x)*(8*((L:Rat)*(B:Rat)))<=1:=by
  refine eI M ?_
  grind
 have LB:1<=(L:Rat)*(B:Rat):=by
  have:=Rat.mul_le_mul_of_nonneg_left cB (show 0<=(L:Rat) by grind)
  grind
 have w8:(y-x)*8<=1:=by
  have:=Rat.mul_le_mul_of_nonneg_left LB (show 0<=(y-x)*8 by grind)
  grind
 exact ⟨⟨by grind,by grind⟩,⟨by grind,by grind⟩,ltR,wd⟩
end RM
namespace RM
theorem vO:∀ e:Nat,∃ n:Nat,n*n<=e/\e<(n+1)*(n+1)
 | 0=>⟨0,by decide,by decide⟩
 | e+1=>by
   obtain ⟨n,h1,h2⟩:=vO e
   by_cases h:e+1<(n+1)*(n+1)
   ·exact ⟨n,by omega,h⟩
   ·refine ⟨n+1,by omega,?_⟩
    have e1:(n+1+1)*(n+1+1)=(n+1)*(n+1)+2*(n+1)+1:=by grind
    omega
theorem yg {d:Int} (h:NSq d) (v:Int):NS (d*v*v):=by
 by_cases hv:v=0
 ·left;rw [hv];omega
 ·right
  have hp:0<d*v*v:=by
   rw [Int.mul_assoc]
   refine Int.mul_pos h.1 ?_
   rcases Int.lt_or_gt_of_ne hv with z | z
   ·exact Int.mul_pos_of_neg_of_neg z z
   ·exact Int.mul_pos z z
  obtain ⟨n,h1,h2⟩:=vO (d*v*v).toNat
  have h3:((n*n:Nat):Int)=(n:Int)*(n:Int):=Int.natCast_mul _ _
  have h4:(((n+1)*(n+1):Nat):Int)=((n:Int)+1)*((n:Int)+1):=by rw [Int.natCast_mul];rfl
  have ne:=h.2 (n:Int) v hv
  refine ⟨n,by omega,?_,?_⟩
  ·omega
  ·omega
def cu (v:Int):Int:=if v<0 then -1 else 1
theorem oZ {u v w d x1 x2:Int} (hd:NSq d) (x2p:0<x2):0<ak [u,d*v*v,w,cu v] x1 x2↔0<sgq (u*x2-x1*w) (v*x2) d:=by
 have eq:d*v*v*x2*x2=d*(v*x2)*(v*x2):=by grind
 have ne:v≠0->(u*x2-x1*w)*(u*x2-x1*w)≠d*(v*x2)*(v*x2):=fun hv=>hd.2 _ _ (Int.mul_ne_zero hv (by omega))
 unfold ak cu
 by_cases hv:v<0
 ·rw [if_pos hv,if_neg (show ¬ (0:Int)<cf [u,d*v*v,w,-1] 3 from (by decide:¬ (0:Int) < -1))]
  show 0<0-aV (d*v*v*x2*x2) (0-(w*x1-u*x2))↔_
  rw [eq]
  have eA:0-(w*x1-u*x2)=u*x2-x1*w:=by grind
  rw [eA]
  have hvx:v*x2<0:=Int.mul_neg_of_neg_of_pos hv x2p
  have hne:=ne (by omega)
  generalize u*x2-x1*w=A at *
  generalize v*x2=B at *
  rcases Int.lt_or_le 0 A with z | z
  ·rw [mO z hvx]
   rcases bU (d*B*B) A with ⟨c,h1⟩ | ⟨c,_,h1⟩ | ⟨c,_,h1⟩
   ·rw [c,if_pos (by omega)];omega
   ·exact absurd h1 hne
   ·rw [c,if_neg (by omega)];omega
  ·rw [hI z (by omega) (.inr hvx)]
   rcases bU (d*B*B) A with ⟨c,h1⟩ | ⟨c,_,h1⟩ | ⟨c,h0,h1⟩
   ·rw [c];omega
   ·exact absurd h1 hne
   ·have:A=0:=by omega
    subst this
    have h5:0<d*B*B:=by rw [Int.mul_assoc];exact Int.mul_pos hd.1 (Int.mul_pos_of_neg_of_neg hvx hvx)
    omega
 ·rw [if_neg hv,if_pos (show (0:Int)<cf [u,d*v*v,w,1] 3 from (by decide:(0:Int)<1))]
  show 0<aV (d*v*v*x2*x2) (w*x1-u*x2)↔_
  rw [eq]
  have eA:w*x1-u*x2 = -(u*x2-x1*w):=by grind
  rw [eA]
  have hvx:0<=v*x2:=Int.mul_nonneg (by omega) (by omega)
  have hz:v=0->v*x2=0:=fun h=>by rw [h,Int.zero_mul]
  have hp:v≠0->0<v*x2:=fun h=>Int.mul_pos (by omega) x2p
  generalize u*x2-x1*w=A at *
  generalize v*x2=B at *
  have sqA : -A * -A=A*A:=by grind
  by_cases h0:v=0
  ·have hB:=hz h0
   subst hB
   have e0:d*0*0=0:=by omega
   rw [e0]
   rcases Int.lt_trichotomy A 0 with z | z | z
   ·rw [hI (by omega) (Int.le_refl _) (.inl z)]
    rcases bU 0 (-A) with ⟨c,h1 | h1⟩ | ⟨c,_,h1⟩ | ⟨c,_,h1⟩
    ·omega
    ·have:=Int.mul_pos_of_neg_of_neg z z;omega
    ·rw [c];omega
    ·rw [c]
   ·subst z
    have a1:aV 0 (-0)=0:=by decide
    rw [a1,o5]
   ·rw [g9 (by omega) (Int.le_refl _) (.inl z)]
    unfold aV
    rw [if_pos (.inl (by omega))]
  ·have hB:=hp h0
   have hne:=ne h0
   have hpos:0<d*B*B:=by rw [Int.mul_assoc];exact Int.mul_pos hd.1 (Int.mul_pos hB hB)
   rcases Int.lt_or_le A 0 with z | z
   ·rw [mP z hB]
    rcases bU (d*B*B) (-A) with ⟨c,h1 | h1⟩ | ⟨c,_,h1⟩ | ⟨c,_,h1⟩
    ·omega
    ·rw [c,if_neg (by omega)]
    ·exact absurd (by omega) hne
    ·rw [c,if_pos (by omega)]
   ·rw [g9 z (by omega) (.inr hB)]
    have:aV (d*B*B) (-A)=1:=by
     unfold aV
     rw [if_pos]
     rcases Int.lt_or_eq_of_le z with y | y
     ·exact .inl (by omega)
     ·right;rw [<- y];omega
    rw [this]
theorem Ab {l1 l2 h1 h2:Int}:∀ {ls:List (List Int)},(∀ x∈ls,¬ (0<ak x l1 l2/\ak x h1 h2<=0))->bh ls l1 l2 h1 h2=0
 | [],_=>rfl
 | l::ls,h=>by rw [c8,if_neg (h l (List.mem_cons_self ..)),Ab fun x hx=>h x (List.mem_cons_of_mem _ hx)];rfl
theorem Ae (l1 l2 h1 h2:Int):∀ a b:List (List Int),bh (a++b) l1 l2 h1 h2=bh a l1 l2 h1 h2+bh b l1 l2 h1 h2
 | [],b=>by rw [List.nil_append];show _=0+_;omega
 | x::a,b=>by rw [List.cons_append,c8,c8,Ae l1 l2 h1 h2 a b];omega
theorem vW (f:List Int) (fs:List (List Int)):aJ (f::fs)=spF f++aJ fs:=rfl
theorem yc {u v w d l1 l2 h1 h2:Int} {rs:List (List Int)} (hd:NSq d) (hF:Fam ([u,d*v*v,w]::rs)) (l2p:0<l2) (h2p:0<h2) (lt:l1*h2<h1*l2) (lo:0<sgq (u*l2-l1*w) (v*l2) d) (hi:¬ 0<sgq (u*h2-h1*w) (v*h2) d) (ol:0<v->u*l2<=l1*w) (oh:v<0->h1*w<=u*h2) (hno:∀ x∈aJ rs,¬ (0<ak x l1 l2/\ak x h1 h2<=0)) :
 OneS ([u,d*v*v,w]::rs) [u,d*v*v,w] [u,d*v*v,w,cu v] l1 l2 h1 h2/\bh (aJ ([u,d*v*v,w]::rs)) l1 l2 h1 h2=1:=by
 have lo':=(oZ (u:=u) (v:=v) (w:=w) (d:=d) (x1:=l1) hd l2p).mpr lo
 have hi':ak [u,d*v*v,w,cu v] h1 h2<=0:=Int.not_lt.mp fun z=>hi ((oZ hd h2p).mp z)
 have key:cu v=1/\spF [u,d*v*v,w]=[[u,d*v*v,w,1]]/\v=0\/cu v=1/\spF [u,d*v*v,w]=[[u,d*v*v,w,1],[u,d*v*v,w,-1]]/\¬ (0<ak [u,d*v*v,w,-1] l1 l2/\ak [u,d*v*v,w,-1] h1 h2<=0)\/cu v = -1/\spF [u,d*v*v,w]=[[u,d*v*v,w,1],[u,d*v*v,w,-1]]/\¬ (0<ak [u,d*v*v,w,1] l1 l2/\ak [u,d*v*v,w,1] h1 h2<=0):=by
  by_cases hv:v=0
  ·left
   subst hv
   have e0:d*0*0=0:=by omega
   rw [e0]
   exact ⟨rfl,j8,rfl⟩
  ·have he:0<d*v*v:=by
    rw [Int.mul_assoc]
    refine Int.mul_pos hd.1 ?_
    rcases Int.lt_or_gt_of_ne hv with z | z
    ·exact Int.mul_pos_of_neg_of_neg z z
    ·exact Int.mul_pos z z
   right
   rcases Int.lt_or_gt_of_ne hv with z | z
   ·right
    refine ⟨by unfold cu;rw [if_pos z],j9 he,fun hh=>?_⟩
    have h5:=oh z
    have:ak [u,d*v*v,w,1] h1 h2=1:=by
     unfold ak
     rw [if_pos (show (0:Int)<cf [u,d*v*v,w,1] 3 from (by decide:(0:Int)<1))]
     show aV (d*v*v*h2*h2) (w*h1-u*h2)=1
     unfold aV
     rw [if_pos]
     have e1:w*h1=h1*w:=Int.mul_comm _ _
     rcases Int.lt_or_eq_of_le h5 with y | y
     ·exact .inl (by omega)
     ·right
      have:w*h1-u*h2=0:=by omega
      rw [this,Int.zero_mul]
      exact Int.mul_pos (Int.mul_pos he h2p) h2p
    omega
   ·left
    refine ⟨by unfold cu;rw [if_neg (by omega)],j9 he,fun hh=>?_⟩
    have h5:=ol z
    have:ak [u,d*v*v,w,-1] l1 l2 = -1:=by
     unfold ak
     rw [if_neg (show ¬ (0:Int)<cf [u,d*v*v,w,-1] 3 from (by decide:¬ (0:Int) < -1))]
     show 0-aV (d*v*v*l2*l2) (0-(w*l1-u*l2)) = -1
     have:aV (d*v*v*l2*l2) (0-(w*l1-u*l2))=1:=by
      unfold aV
      rw [if_pos]
      have e1:w*l1=l1*w:=Int.mul_comm _ _
      rcases Int.lt_or_eq_of_le h5 with y | y
      ·exact .inl (by omega)
      ·right
       have:0-(w*l1-u*l2)=0:=by omega
       rw [this,Int.zero_mul]
       exact Int.mul_pos (Int.mul_pos he l2p) l2p
     omega
    omega
 have c0:bh (aJ rs) l1 l2 h1 h2=0:=Ab hno
 have e0:bh [] l1 l2 h1 h2=0:=rfl
 refine ⟨⟨hF,List.mem_cons_self ..,?_,l2p,h2p,lt,⟨lo',hi'⟩,fun s hs a b=>?_⟩,?_⟩
 ·rcases key with ⟨k1,k2,_⟩ | ⟨k1,k2,_⟩ | ⟨k1,k2,_⟩<;>rw [k1,k2]<;>simp
 ·rw [vW] at hs
  rcases List.mem_append.mp hs with z | z
  ·rcases key with ⟨k1,k2,_⟩ | ⟨k1,k2,k3⟩ | ⟨k1,k2,k3⟩
   ·rw [k2] at z;rw [k1];exact List.mem_singleton.mp z
   ·rw [k2] at z
    rw [k1]
    rcases List.mem_cons.mp z with y | y
    ·exact y
    ·rw [List.mem_singleton.mp y] at a b;exact absurd ⟨a,b⟩ k3
   ·rw [k2] at z
    rw [k1]
    rcases List.mem_cons.mp z with y | y
    ·rw [y] at a b;exact absurd ⟨a,b⟩ k3
    ·exact List.mem_singleton.mp y
  ·exact absurd ⟨a,b⟩ (hno s z)
 ·rw [vW,Ae,c0]
  rcases key with ⟨k1,k2,_⟩ | ⟨k1,k2,k3⟩ | ⟨k1,k2,k3⟩
  ·rw [k1] at lo' hi'
   rw [k2,c8,if_pos ⟨lo',hi'⟩,e0];rfl
  ·rw [k1] at lo' hi'
   rw [k2,c8,c8,if_pos ⟨lo',hi'⟩,if_neg k3,e0];rfl
  ·rw [k1] at lo' hi'
   rw [k2,c8,c8,if_neg k3,if_pos ⟨lo',hi'⟩,e0];rfl
end RM
namespace RM
theorem B3 {u v w d x1 x2:Int} (hd:NSq d) (x2p:0<x2):ak [u,d*v*v,w,cu v] x1 x2=sgq (u*x2-x1*w) (v*x2) d:=by
 have hu:=oZ (u:=u) (v:=v) (w:=w) (x1:=x1) hd x2p
 have c1:=dm [u,d*v*v,w,cu v] x1 x2
 have c2:=Cb (u*x2-x1*w) (v*x2) d
 have hz:ak [u,d*v*v,w,cu v] x1 x2=0↔sgq (u*x2-x1*w) (v*x2) d=0:=by
  by_cases hv:v=0
  ·subst hv
   have e0:d*0*0=0:=by omega
   rw [e0,Int.zero_mul]
   show ak [u,0,w,1] x1 x2=0↔_
   have hs:ak [u,0,w,1] x1 x2=aV 0 (w*x1-u*x2):=by
    unfold ak
    rw [if_pos (show (0:Int)<cf [u,0,w,1] 3 from (by decide:(0:Int)<1))]
    show aV (0*x2*x2) (w*x1-u*x2)=_
    rw [Int.zero_mul,Int.zero_mul]
   rw [hs]
   have eA:w*x1-u*x2 = -(u*x2-x1*w):=by grind
   rw [eA]
   generalize u*x2-x1*w=A
   rcases Int.lt_trichotomy A 0 with z | z | z
   ·rw [hI (by omega) (Int.le_refl _) (.inl z)]
    rcases bU 0 (-A) with ⟨c,_⟩ | ⟨c,_,h1⟩ | ⟨c,_⟩
    ·rw [c];decide
    ·have:=Int.mul_pos (show 0 < -A by omega) (show 0 < -A by omega)
     omega
    ·rw [c]
   ·subst z
    have a1:aV 0 (-0)=0:=by decide
    rw [a1,o5]
   ·rw [g9 (by omega) (Int.le_refl _) (.inl z)]
    unfold aV
    rw [if_pos (.inl (by omega))]
  ·have he:0<d*v*v:=by
    rw [Int.mul_assoc]
    refine Int.mul_pos hd.1 ?_
    rcases Int.lt_or_gt_of_ne hv with z | z
    ·exact Int.mul_pos_of_neg_of_neg z z
    ·exact Int.mul_pos z z
   have n1:ak [u,d*v*v,w,cu v] x1 x2≠0:=o1 (yg hd v) he x2p
   have hvx:v*x2≠0:=Int.mul_ne_zero hv (by omega)
   have n2:sgq (u*x2-x1*w) (v*x2) d≠0:=by
    unfold sgq
    split
    ·rw [if_pos (.inr (by omega))];decide
    ·split
     ·decide
     ·split
      ·split<;>decide
      ·split<;>decide
   exact ⟨fun z=>absurd z n1,fun z=>absurd z n2⟩
 rcases c1 with z | z | z<;>rcases c2 with y | y | y<;>omega
end RM
open PySem.W in
local macro_rules | `(tactic| walk_at "comp_ok")=>`(tactic| exact ⟨by with_unfolding_all rfl,by decide +kernel,rfl,by decide +kernel,by repeat' (first | exact List.forall_mem_nil _ | refine List.forall_mem_cons.2 ⟨rfl,?_⟩),by rfl,by repeat' (first | exact .nil | refine .cons ⟨rfl,by first | exact Or.inl rfl | exact Or.inr rfl,rfl⟩ ?_)⟩)
namespace R71
open PySem L2 RM
def top (i:Nat):Stmt:=PySem.Challenge.pw_rootspan_k71_steps.main.body.getD i (.Pass ⟨0,0,0,0⟩)
abbrev pI:Stmt:=top 10
abbrev pH:Stmt:=top 11
abbrev pd:Stmt:=top 12
abbrev jr:Stmt:=iE (top 13) 0
abbrev qJ:Stmt:=iE (top 13) 1
abbrev qK:Stmt:=iE (top 13) 2
abbrev qI:Stmt:=iE (top 13) 3
abbrev qM:Stmt:=iE (top 13) 5
abbrev qL:Stmt:=iE (top 13) 7
abbrev pO:Stmt:=top 15
abbrev qi:Stmt:=top 16
abbrev qv:Stmt:=top 17
abbrev pj:Stmt:=top 18
abbrev qm:Stmt:=top 19
abbrev pV:Stmt:=top 20
abbrev pF:Stmt:=top 21
abbrev mR:Stmt:=top 22
abbrev pP:Stmt:=top 23
abbrev pe:Stmt:=top 24
abbrev pG:Stmt:=top 25
abbrev qh:Stmt:=top 27
abbrev pJ:Stmt:=top 28
abbrev p8:Stmt:=top 29
abbrev pK:Stmt:=top 31
abbrev pL:Stmt:=top 32
abbrev qo:Stmt:=top 33
abbrev qj:Stmt:=top 34
abbrev qq:Stmt:=top 36
abbrev qp:Stmt:=top 37
abbrev pY:Stmt:=top 38
abbrev pT:Stmt:=top 39
abbrev qd:Stmt:=top 40
abbrev px:Stmt:=top 41
abbrev qe:Stmt:=top 42
abbrev pC:Stmt:=top 43
abbrev pX:Stmt:=top 44
abbrev qt:Stmt:=top 45
abbrev qg:Stmt:=top 47
abbrev qk:Stmt:=top 48
abbrev pQ:Stmt:=top 49
abbrev pb:Stmt:=top 50
abbrev pD:Stmt:=top 52
abbrev qb:Stmt:=top 54
abbrev qf:Stmt:=top 55
abbrev qa:Stmt:=top 56
abbrev pB:Stmt:=top 57
abbrev pi:Stmt:=top 58
abbrev qN:Stmt:=iE (top 61) 0
abbrev jq:Stmt:=top 62
abbrev pM:Stmt:=top 63
abbrev pN:Stmt:=top 64
abbrev pZ:Stmt:=top 65
abbrev pR:Stmt:=top 66
abbrev pU:Stmt:=top 67
abbrev pE:Stmt:=top 68
abbrev qu:Stmt:=top 69
abbrev qr:Stmt:=top 70
abbrev pA:Stmt:=top 72
abbrev qG:Stmt:=top 74
abbrev qx:Stmt:=top 75
abbrev qF:Stmt:=top 76
abbrev qA:Stmt:=top 77
abbrev qC:Stmt:=top 78
abbrev qE:Stmt:=top 79
abbrev qy:Stmt:=top 80
abbrev qH:Stmt:=top 81
abbrev qw:Stmt:=top 82
abbrev qz:Stmt:=top 83
abbrev qD:Stmt:=top 84
abbrev qB:Stmt:=top 85
abbrev qc:Stmt:=top 86
theorem sc_shared:FnScope ["row","divisor","value"] ["row"] (aD pI):=⟨rfl,rfl,rfl,by decide +kernel,rfl,by decide +kernel,by decide +kernel⟩
theorem sc_shared_by_two:FnScope ["one","other","greater","less","rest"] ["one","other"] (aD pH):=⟨rfl,rfl,rfl,by decide +kernel,rfl,by decide +kernel,by decide +kernel⟩
theorem Cm:FnScope ["value"] ["value"] (aD pd):=⟨rfl,rfl,rfl,by decide +kernel,rfl,by decide +kernel,by decide +kernel⟩
theorem sc_Ratio___init__:FnScope ["self","top","bottom","divisor"] ["self","top","bottom"] (aD jr):=⟨rfl,rfl,rfl,by decide +kernel,rfl,by decide +kernel,by decide +kernel⟩
theorem CL:FnScope ["self","other"] ["self","other"] (aD qJ):=⟨rfl,rfl,rfl,by decide +kernel,rfl,by decide +kernel,by decide +kernel⟩
theorem CM:FnScope ["self","other"] ["self","other"] (aD qK):=⟨rfl,rfl,rfl,by decide +kernel,rfl,by decide +kernel,by decide +kernel⟩
theorem CK:FnScope ["self","other"] ["self","other"] (aD qI):=⟨rfl,rfl,rfl,by decide +kernel,rfl,by decide +kernel,by decide +kernel⟩
theorem CP:FnScope ["self","other"] ["self","other"] (aD qM):=⟨rfl,rfl,rfl,by decide +kernel,rfl,by decide +kernel,by decide +kernel⟩
theorem CO:FnScope ["self"] ["self"] (aD qL):=⟨rfl,rfl,rfl,by decide +kernel,rfl,by decide +kernel,by decide +kernel⟩
theorem sc_poly:FnScope ["row","length"] ["row"] (aD pO):=⟨rfl,rfl,rfl,by decide +kernel,rfl,by decide +kernel,by decide +kernel⟩
theorem Cz:FnScope ["row"] ["row"] (aD qi):=⟨rfl,rfl,rfl,by decide +kernel,rfl,by decide +kernel,by decide +kernel⟩
theorem sc_added:FnScope ["first","second","length"] ["first","second"] (aD qv):=⟨rfl,rfl,rfl,by decide +kernel,rfl,by decide +kernel,by decide +kernel⟩
theorem sc_taken:FnScope ["first","second","length"] ["first","second"] (aD pj):=⟨rfl,rfl,rfl,by decide +kernel,rfl,by decide +kernel,by decide +kernel⟩
theorem CB:FnScope ["row","place"] ["row","place"] (aD qm):=⟨rfl,rfl,rfl,by decide +kernel,rfl,by decide +kernel,by decide +kernel⟩
theorem sc_multiplied:FnScope ["first","second","product","j","one","k","other"] ["first","second"] (aD pV):=⟨rfl,rfl,rfl,by decide +kernel,rfl,by decide +kernel,by decide +kernel⟩
theorem Cp:FnScope ["row"] ["row"] (aD pF):=⟨rfl,rfl,rfl,by decide +kernel,rfl,by decide +kernel,by decide +kernel⟩
theorem sc_shrunk:FnScope ["row","divisor"] ["row"] (aD mR):=⟨rfl,rfl,rfl,by decide +kernel,rfl,by decide +kernel,by decide +kernel⟩
theorem sc_plain:FnScope ["row","small"] ["row"] (aD pP):=⟨rfl,rfl,rfl,by decide +kernel,rfl,by decide +kernel,by decide +kernel⟩
theorem sc_value_parts:FnScope ["row","top","bottom","above","below","value"] ["row","top","bottom"] (aD pe):=⟨rfl,rfl,rfl,by decide +kernel,rfl,by decide +kernel,by decide +kernel⟩
theorem Cq:FnScope ["row","ratio"] ["row","ratio"] (aD pG):=⟨rfl,rfl,rfl,by decide +kernel,rfl,by decide +kernel,by decide +kernel⟩
theorem sc_divided:FnScope ["first","second","size","sign","steps","factor","quotient","rest","place","lead"] ["first","second"] (aD qh):=⟨rfl,rfl,rfl,by decide +kernel,rfl,by decide +kernel,by decide +kernel⟩
theorem Cr:FnScope ["row","factor"] ["row","factor"] (aD pJ):=⟨rfl,rfl,rfl,by decide +kernel,rfl,by decide +kernel,by decide +kernel⟩
theorem sc_lowered:FnScope ["row","second","place","lead","kept","k","value"] ["row","second","place","lead"] (aD p8):=⟨rfl,rfl,rfl,by decide +kernel,rfl,by decide +kernel,by decide +kernel⟩
theorem Cs:FnScope ["polynomial"] ["polynomial"] (aD pK):=⟨rfl,rfl,rfl,by decide +kernel,rfl,by decide +kernel,by decide +kernel⟩
theorem sc_row_from:FnScope ["first","second","row","one","other","rest"] ["first","second"] (aD pL):=⟨rfl,rfl,rfl,by decide +kernel,rfl,by decide +kernel,by decide +kernel⟩
theorem sc_changes:FnScope ["row","ratio","many","before","polynomial","sign"] ["row","ratio"] (aD qo):=⟨rfl,rfl,rfl,by decide +kernel,rfl,by decide +kernel,by decide +kernel⟩
theorem CA:FnScope ["row","low","high"] ["row","low","high"] (aD qj):=⟨rfl,rfl,rfl,by decide +kernel,rfl,by decide +kernel,by decide +kernel⟩
theorem sc_bound:FnScope ["row","last","greatest","size"] ["row"] (aD qq):=⟨rfl,rfl,rfl,by decide +kernel,rfl,by decide +kernel,by decide +kernel⟩
theorem sc_cells:FnScope ["row","chain","high","low","waiting","found","cell","many","cut","there"] ["row"] (aD qp):=⟨rfl,rfl,rfl,by decide +kernel,rfl,by decide +kernel,by decide +kernel⟩
theorem Cu:FnScope ["low","high"] ["low","high"] (aD pY):=⟨rfl,rfl,rfl,by decide +kernel,rfl,by decide +kernel,by decide +kernel⟩
theorem sc_narrowed:FnScope ["row","low","high","width","reach","steps","found"] ["row","low","high","width"] (aD pT):=⟨rfl,rfl,rfl,by decide +kernel,rfl,by decide +kernel,by decide +kernel⟩
theorem sc_halvings:FnScope ["reach","width","wide","goal","steps"] ["reach","width"] (aD qd):=⟨rfl,rfl,rfl,by decide +kernel,rfl,by decide +kernel,by decide +kernel⟩
theorem sc_stretched:FnScope ["row","low","reach","bottom","start","step","found","power","value"] ["row","low","reach"] (aD px):=⟨rfl,rfl,rfl,by decide +kernel,rfl,by decide +kernel,by decide +kernel⟩
theorem sc_halved:FnScope ["row","end","steps","place","pieces","ahead","left","k","there"] ["row","end","steps"] (aD qe):=⟨rfl,rfl,rfl,by decide +kernel,rfl,by decide +kernel,by decide +kernel⟩
theorem sc_spread:FnScope ["row","found","factor","value"] ["row"] (aD pC):=⟨rfl,rfl,rfl,by decide +kernel,rfl,by decide +kernel,by decide +kernel⟩
theorem sc_moved:FnScope ["row","found","start","k"] ["row"] (aD pX):=⟨rfl,rfl,rfl,by decide +kernel,rfl,by decide +kernel,by decide +kernel⟩
theorem CD:FnScope ["low","reach","place","pieces"] ["low","reach","place","pieces"] (aD qt):=⟨rfl,rfl,rfl,by decide +kernel,rfl,by decide +kernel,by decide +kernel⟩
theorem Cy:FnScope ["divisor","row"] ["divisor","row"] (aD qg):=⟨rfl,rfl,rfl,by decide +kernel,rfl,by decide +kernel,by decide +kernel⟩
theorem sc_common:FnScope ["first","second","one","other","rest"] ["first","second"] (aD qk):=⟨rfl,rfl,rfl,by decide +kernel,rfl,by decide +kernel,by decide +kernel⟩
theorem sc_part:FnScope ["row","divisor","found"] ["row","divisor"] (aD pQ):=⟨rfl,rfl,rfl,by decide +kernel,rfl,by decide +kernel,by decide +kernel⟩
theorem Cl:FnScope ["row"] ["row"] (aD pb):=⟨rfl,rfl,rfl,by decide +kernel,rfl,by decide +kernel,by decide +kernel⟩
theorem sc_span_product:FnScope ["first","second","least","greatest","found"] ["first","second"] (aD pD):=⟨rfl,rfl,rfl,by decide +kernel,rfl,by decide +kernel,by decide +kernel⟩
theorem sc_least:FnScope ["row","low","high","whole","width","span","line","cell","square"] ["row","low","high"] (aD qb):=⟨rfl,rfl,rfl,by decide +kernel,rfl,by decide +kernel,by decide +kernel⟩
theorem Cw:FnScope ["whole"] ["whole"] (aD qf):=⟨rfl,rfl,rfl,by decide +kernel,rfl,by decide +kernel,by decide +kernel⟩
theorem sc_line_of:FnScope ["whole","span","found"] ["whole","span"] (aD qa):=⟨rfl,rfl,rfl,by decide +kernel,rfl,by decide +kernel,by decide +kernel⟩
theorem sc_square_of:FnScope ["whole","span","other","last","together"] ["whole","span","other"] (aD pB):=⟨rfl,rfl,rfl,by decide +kernel,rfl,by decide +kernel,by decide +kernel⟩
theorem Cn:FnScope ["factor","ratio"] ["factor","ratio"] (aD pi):=⟨rfl,rfl,rfl,by decide +kernel,rfl,by decide +kernel,by decide +kernel⟩
theorem CQ:FnScope ["self","row","low","high"] ["self","row","low","high"] (aD qN):=⟨rfl,rfl,rfl,by decide +kernel,rfl,by decide +kernel,by decide +kernel⟩
theorem sc_number:FnScope ["row","low","high","start","end","simple","many"] ["row","low","high"] (aD jq):=⟨rfl,rfl,rfl,by decide +kernel,rfl,by decide +kernel,by decide +kernel⟩
theorem Ct:FnScope ["height"] ["height"] (aD pM):=⟨rfl,rfl,rfl,by decide +kernel,rfl,by decide +kernel,by decide +kernel⟩
theorem sc_refuse_great:FnScope ["row","limit"] ["row"] (aD pN):=⟨rfl,rfl,rfl,by decide +kernel,rfl,by decide +kernel,by decide +kernel⟩
theorem Cv:FnScope ["simple","low","high"] ["simple","low","high"] (aD pZ):=⟨rfl,rfl,rfl,by decide +kernel,rfl,by decide +kernel,by decide +kernel⟩
theorem sc_number_in:FnScope ["simple","low","high","row","span","half"] ["simple","low","high"] (aD pR):=⟨rfl,rfl,rfl,by decide +kernel,rfl,by decide +kernel,by decide +kernel⟩
theorem sc_narrow:FnScope ["one","width","span"] ["one","width"] (aD pU):=⟨rfl,rfl,rfl,by decide +kernel,rfl,by decide +kernel,by decide +kernel⟩
theorem Co:FnScope ["one","width"] ["one","width"] (aD pE):=⟨rfl,rfl,rfl,by decide +kernel,rfl,by decide +kernel,by decide +kernel⟩
theorem CF:FnScope ["one","ratio"] ["one","ratio"] (aD qu):=⟨rfl,rfl,rfl,by decide +kernel,rfl,by decide +kernel,by decide +kernel⟩
theorem CC:FnScope ["one","sign"] ["one","sign"] (aD qr):=⟨rfl,rfl,rfl,by decide +kernel,rfl,by decide +kernel,by decide +kernel⟩
theorem sc_steps:FnScope ["one","bottom","near","most"] ["one","bottom"] (aD pA):=⟨rfl,rfl,rfl,by decide +kernel,rfl,by decide +kernel,by decide +kernel⟩
theorem CI:FnScope ["_law_script","_law_k"] ["_law_script","_law_k"] (aD qG):=⟨rfl,rfl,rfl,by decide +kernel,rfl,by decide +kernel,by decide +kernel⟩
theorem CG:FnScope ["_law_found"] ["_law_found"] (aD qx):=⟨rfl,rfl,rfl,by decide +kernel,rfl,by decide +kernel,by decide +kernel⟩
theorem sc__law_divisor:FnScope ["_law_one","_law_other","_law_rest"] ["_law_one","_law_other"] (aD qF):=⟨rfl,rfl,rfl,by decide +kernel,rfl,by decide +kernel,by decide +kernel⟩
theorem CH:FnScope ["_law_u","_law_v","_law_d"] ["_law_u","_law_v","_law_d"] (aD qA):=⟨rfl,rfl,rfl,by decide +kernel,rfl,by decide +kernel,by decide +kernel⟩
theorem sc__law_plain:FnScope ["_law_row","_law_by","_law_one"] ["_law_row"] (aD qC):=⟨rfl,rfl,rfl,by decide +kernel,rfl,by decide +kernel,by decide +kernel⟩
theorem sc__law_least:FnScope ["_law_worth_here","_law_u","_law_v","_law_w","_law_d"] ["_law_worth_here"] (aD qE):=⟨rfl,rfl,rfl,by decide +kernel,rfl,by decide +kernel,by decide +kernel⟩
theorem sc__law_times:FnScope ["_law_one","_law_other","_law_found","_law_k","_law_j"] ["_law_one","_law_other"] (aD qy):=⟨rfl,rfl,rfl,by decide +kernel,rfl,by decide +kernel,by decide +kernel⟩
theorem CJ:FnScope ["_law_cell"] ["_law_cell"] (aD qH):=⟨rfl,rfl,rfl,by decide +kernel,rfl,by decide +kernel,by decide +kernel⟩
theorem sc__law_worth:FnScope ["_law_script","_law_k","_law_v","_law_cell"] ["_law_script","_law_k"] (aD qw):=⟨rfl,rfl,rfl,by decide +kernel,rfl,by decide +kernel,by decide +kernel⟩
theorem sc__law_span:FnScope ["_law_worth_here","_law_more","_law_u","_law_v","_law_w","_law_d"] ["_law_worth_here","_law_more"] (aD qz):=⟨rfl,rfl,rfl,by decide +kernel,rfl,by decide +kernel,by decide +kernel⟩
theorem sc__law_padded:FnScope ["_law_worth_here","_law_span_here","_law_cell","_law_u","_law_v","_law_w","_law_d","_law_found","_law_far"] ["_law_worth_here","_law_span_here","_law_cell"] (aD qD):=⟨rfl,rfl,rfl,by decide +kernel,rfl,by decide +kernel,by decide +kernel⟩
theorem sc__law_right:FnScope ["_law_m","_law_worth_here","_law_bottom","_law_u","_law_v","_law_w","_law_d"] ["_law_m","_law_worth_here","_law_bottom"] (aD qB):=⟨rfl,rfl,rfl,by decide +kernel,rfl,by decide +kernel,by decide +kernel⟩
theorem sc_law:FnScope ["_law_script","_law_worth_here","_law_span_here","_law_n","_law_cell","_law_bottom","_law_first","_law_again"] ["_law_script"] (aD qc):=⟨rfl,rfl,rfl,by decide +kernel,rfl,by decide +kernel,by decide +kernel⟩
structure Txt (K:PySem.W.Frag) (mg:Str->Option Value):Prop where
 abs_:mg "abs"=none
 len_:mg "len"=none
 max_:mg "max"=none
 range_:mg "range"=none
 enumerate_:mg "enumerate"=none
 reversed_:mg "reversed"=none
 list_:mg "list"=none
 sum_:mg "sum"=none
 any_:mg "any"=none
 isinstance_:mg "isinstance"=none
 int_:mg "int"=none
 bool_:mg "bool"=none
 HIGHEST_:∃ t:Tok,mg "HIGHEST"=some (.int 8 t)
def mE (K:PySem.W.Frag):Sp:=fun vs H Q _=>∃ (a:Addr) (ns:List Int),vs=[.ref a]/\SqL K H a (ns.map V.int)/\ns.length<=63/\∀ H',Q (.bl true) H'
section
variable {P:Program} {w:World} {K:PySem.W.Frag} {mg:Str->Option Value} {base:Heap}
theorem qQ (n:Nat):(List.replicate n [V.int 0]).flatten=(List.replicate n (0:Int)).map V.int:=by
 induction n with
 | zero=>rfl
 | succ n ih=>rw [List.replicate_succ,List.flatten_cons,ih,List.replicate_succ];rfl
theorem lc {n j:Nat} {i:Int} (e:i=j) (h:j<n):ixN n i=some j:=by
 subst e;unfold ixN;rw [if_pos (Int.natCast_nonneg _),if_pos (by omega)];simp
theorem nJ (l:List Int) (j:Nat) (x:Int):(l.map V.int).set j (.int x)=(l.set j x).map V.int:=by rw [List.map_set]
theorem jT {l:List Int} {j:Nat} {i:Int} (e:i=j) (h:j<l.length):atI (l.map V.int) i=some (.int (cf l j)):=by
 subst e
 exact jU (by rw [List.getElem?_map,iF h];rfl)
def SameB (p:Addr) (H H':Hp):Prop:=∀ b o,b≠p->H b=some o->H' b=some o
theorem SameB.refl (p:Addr) (H:Hp):SameB p H H:=fun _ _ _ h=>h
theorem SameB.then_new {p q:Addr} {H H1:Hp} {o:HO} (s:SameB p H H1) (h:H1 q=none):SameB p H (upd H1 q o):=fun b u n e=>by
 rw [upd_ne (aX (s b u n e) h)];exact s b u n e
theorem SameB.then_upd {p:Addr} {H H1:Hp} {o:HO} (s:SameB p H H1):SameB p H (upd H1 p o):=fun b u n e=>by
 rw [upd_ne n];exact s b u n e
def AllB (k:Nat) (l:List Int):Prop:=∀ x∈l,Bits k x
theorem AllB.cf {k:Nat} {l:List Int} (h:AllB k l) (n:Nat):Bits k (cf l n):=by
 by_cases hn:n<l.length
 ·rw [dM hn];exact h _ (List.getElem_mem hn)
 ·rw [cs (Nat.le_of_not_lt hn)];exact Bits.zero
theorem fT {H H2:Hp} {p:Addr} {o:HO} (s:Same H H2) (hp:H p=none):Same H (upd H2 p o):=fun b u e=>by rw [upd_ne (aX e hp)];exact s b u e
theorem FJ (l:List Int) (x:Int):l.map V.int++[V.int x]=(l++[x]).map V.int:=by rw [List.map_append];rfl
def gP (ms:List Int) (lo hi:Option Int):List Int:=(ms.drop (HT.sIx ms.length 0 lo)).take (HT.sIx ms.length ms.length hi-HT.sIx ms.length 0 lo)
theorem tO (ms:List Int) (lo hi:Option Int):gO (ms.map V.int) lo hi=(gP ms lo hi).map V.int:=by
 unfold gO gP
 rw [List.length_map,<- List.map_drop,<- List.map_take]
theorem JY {ms:List Int} {lo hi:Option Int} {x:Int} (h:x∈gP ms lo hi):x∈ms:=List.mem_of_mem_drop (List.mem_of_mem_take h)
theorem AllB.cut {k:Nat} {ms:List Int} {lo hi:Option Int} (h:AllB k ms):AllB k (gP ms lo hi):=fun x hx=>h x (JY hx)
theorem AllB.app {k:Nat} {l r:List Int} (h1:AllB k l) (h2:AllB k r):AllB k (l++r):=fun x hx=>(List.mem_append.mp hx).elim (h1 x) (h2 x)
theorem AllB.zeros {k n:Nat}:AllB k (List.replicate n 0):=fun x hx=>by rw [List.eq_of_mem_replicate hx];exact Bits.zero
theorem AllB.mono {j k:Nat} {l:List Int} (h:AllB j l) (hk:j<=k:=by decide):AllB k l:=fun x hx=>(h x hx).mono hk
theorem AllB.nil {k:Nat}:AllB k []:=fun _ h=>nomatch h
theorem AllB.snoc {k:Nat} {l:List Int} {x:Int} (h:AllB k l) (hx:Bits k x):AllB k (l++[x]):=h.app fun y hy=>by rw [List.mem_singleton.mp hy];exact hx
theorem FE {l:List Int} {x:Int} (h:x∈trim l):x∈l:=by
 unfold trim at h
 rw [List.mem_reverse] at h
 exact List.mem_reverse.mp ((List.dropWhile_sublist _).subset h)
theorem AllB.trim {k:Nat} {l:List Int} (h:AllB k l):AllB k (trim l):=fun x hx=>h x (FE hx)
theorem gJ {l:List Int} {i:Nat} {x:V} (h:(l.map V.int)[i]?=some x):∃ c,l[i]?=some c/\x=.int c/\c∈l/\l.take (i+1)=l.take i++[c]:=by
 rw [List.getElem?_map] at h
 cases e:l[i]? with
 | none=>rw [e] at h;cases h
 | some c=>rw [e] at h;exact ⟨c,rfl,(Option.some.inj h).symm,List.mem_of_getElem? e,by rw [List.take_add_one,e];rfl⟩
def mkL (H:Hp) (Q:VK) (r:List Int):Prop:=∀ (p:Addr) (H':Hp),Same H H'->H p=none->H' p=some (.lst (r.map V.int))->Q (.ref p) H'
def ka (K:PySem.W.Frag):Sp:=fun vs H Q _=>∃ (a:Addr) (ns:List Int),vs=[.ref a]/\SqL K H a (ns.map V.int)/\mkL H Q (trim ns)
def jp (K:PySem.W.Frag):Sp:=fun vs H Q _=>∃ (a:Addr) (ns:List Int) (k:Nat),vs=[.ref a,.int k]/\SqL K H a (ns.map V.int)/\Q (.int (ns.getD k 0)) H
def mG (K:PySem.W.Frag) (g:List Int->List Int->List Int):Sp:=fun vs H Q _=>∃ (a b:Addr) (xs ys:List Int),vs=[.ref a,.ref b]/\SqL K H a (xs.map V.int)/\SqL K H b (ys.map V.int)/\xs.length<=1000000/\ys.length<=1000000/\mkL H Q (g xs ys)
theorem yK (i j:Nat):(if ((j:Nat):Int)>((i:Nat):Int) then ((j:Nat):Int) else ((i:Nat):Int))=((max i j:Nat):Int):=by split<;>omega
theorem mH {n:Nat} (h:n<=sizeLine) : -(2^62)<=((n:Nat):Int)/\((n:Nat):Int)<2^62:=by have:=sizeLine_eq;omega
def RwH (H:Hp) (ps:List Addr) (xss:List (List Int)):Prop:=ps.length=xss.length/\∀ (i:Nat) (p:Addr) (xs:List Int),ps[i]?=some p->xss[i]?=some xs->H p=some (.lst (xs.map V.int))
theorem RwH.nil {H:Hp}:RwH H [] []:=⟨rfl,fun i p xs h=>by simp at h⟩
theorem RwH.same {H H':Hp} {ps:List Addr} {xss:List (List Int)} (h:RwH H ps xss) (s:Same H H'):RwH H' ps xss:=⟨h.1,fun i p xs a b=>s _ _ (h.2 i p xs a b)⟩
theorem RwH.snoc {H:Hp} {ps:List Addr} {xss:List (List Int)} {p:Addr} {xs:List Int} (h:RwH H ps xss) (hp:H p=some (.lst (xs.map V.int))):RwH H (ps++[p]) (xss++[xs]):=by
 refine ⟨by rw [List.length_append,List.length_append,h.1];rfl,fun i q ys a b=>?_⟩
 by_cases hi:i<ps.length
 ·rw [List.getElem?_append_left hi] at a
  rw [List.getElem?_append_left (by rw [<- h.1];exact hi)] at b
  exact h.2 i q ys a b
 ·rw [List.getElem?_append_right (by omega)] at a
  rw [List.getElem?_append_right (by rw [<- h.1];omega),<- h.1] at b
  by_cases h0:i-ps.length=0
  ·rw [h0] at a b
   obtain rfl:p=q:=by simpa using a
   obtain rfl:xs=ys:=by simpa using b
   exact hp
  ·rw [List.getElem?_eq_none_iff.mpr (by simp;omega)] at a
   cases a
theorem RwH.get {H:Hp} {ps:List Addr} {xss:List (List Int)} {i:Nat} (h:RwH H ps xss) (hi:i<xss.length):∃ p,ps[i]?=some p/\H p=some (.lst ((xss.getD i []).map V.int)):=by
 have hi':i<ps.length:=by rw [h.1];exact hi
 refine ⟨ps[i],List.getElem?_eq_getElem hi',h.2 i _ _ (List.getElem?_eq_getElem hi') ?_⟩
 rw [List.getElem?_eq_getElem hi];simp [List.getD,hi]
theorem RwH.of_get {H:Hp} {ps:List Addr} {xss:List (List Int)} {i:Nat} {x:V} (h:RwH H ps xss) (hx:(ps.map V.ref)[i]?=some x):∃ p xs,x=.ref p/\ps[i]?=some p/\xss[i]?=some xs/\H p=some (.lst (xs.map V.int))/\i<xss.length:=by
 rw [List.getElem?_map] at hx
 cases e:ps[i]? with
 | none=>rw [e] at hx;cases hx
 | some p =>
   rw [e] at hx
   have hi:i<ps.length:=(List.getElem?_eq_some_iff.mp e).1
   have hi':i<xss.length:=by rw [<- h.1];exact hi
   exact ⟨p,xss[i],(Option.some.inj hx).symm,rfl,List.getElem?_eq_getElem hi',h.2 i p _ e (List.getElem?_eq_getElem hi'),hi'⟩
theorem FK (ps:List Addr) (p:Addr):ps.map V.ref++[V.ref p]=(ps++[p]).map V.ref:=by rw [List.map_append];rfl
def sp2:Sp:=fun vs H Q _=>∃ a b:Int,vs=[.int a,.int b]/\Q (.int (Nat.gcd a.natAbs b.natAbs:Nat)) H
theorem lT (i:Int):(if i<0 then -i else i)=(i.natAbs:Int):=by split<;>omega
theorem Ej {f:Addr} {fd:FuncData} (F:Fun K "shared_by_two" "shared_by_two" pH f fd) (T:Txt K mg):FnOk P w K mg base CX0 1 f fd ["one","other"] sp2:=by
 refine F.ok sc_shared_by_two (fun vs H Q E h=>?_) (fun cdv A outer s H vs Q E hr h=>?_)
 ·obtain ⟨a,b,rfl,_⟩:=h
  rfl
 ·obtain ⟨a,b,rfl,k⟩:=h
  refine ⟨_,(ah (ap (i:=2) sc_shared_by_two.nd rfl (Or.inl rfl) (bT gn (by rfl) T.abs_ PyProof.Rows.boot_abs (aa (pv 0) ac)))
   (ah (ap (i:=3) sc_shared_by_two.nd rfl (Or.inl rfl) (bT gn (by rfl) T.abs_ PyProof.Rows.boot_abs (aa (pv 1) ac)))
   (ah (fO PassesOwn.never (aH jA (pv 3) ad (aE _))
     (ah (ap (i:=4) sc_shared_by_two.nd rfl (Or.inl rfl) (ai cD (pv 2) (pv 3)))
       (ah (ap (i:=2) sc_shared_by_two.nd rfl (Or.inl rfl) (pv 3))
       (al (ap (i:=3) sc_shared_by_two.nd rfl (Or.inl rfl) (pv 4))))))
   (al (aB (pv 2)))))),?_⟩
  refine ⟨_,rfl,_,rfl,?_⟩
  refine ⟨_,rfl,_,rfl,?_⟩
  refine ⟨fun m σ' H'=>∃ (x y:Int) (z:Option V),σ'=[some (.int a),some (.int b),some (.int x),some (.int y),z]/\H=H'/\0<=x/\0<=y/\y.natAbs=m/\Nat.gcd x.natAbs y.natAbs=Nat.gcd a.natAbs b.natAbs,⟨_,_,_,none,rfl,rfl,?_,?_,rfl,?_⟩,?_⟩
  ·rw [lT];exact Int.natCast_nonneg _
  ·rw [lT];exact Int.natCast_nonneg _
  ·rw [lT,lT,Int.natAbs_natCast,Int.natAbs_natCast]
  ·rintro m σ' H' ⟨x,y,z,rfl,rfl,hx,hy,rfl,hg⟩
   refine ⟨_,rfl,_,_,rfl,rfl,_,rfl,?_⟩
   refine dq (fun hn=>?_) (fun h0=>?_)
   ·have hp:0<y:=by have:y≠0:=hn;omega
    refine ⟨fun σ'' H''=>∃ m',m'<y.natAbs/\∃ (x' y':Int) (z:Option V),σ''=[some (.int a),some (.int b),some (.int x'),some (.int y'),z]/\H=H''/\0<=x'/\0<=y'/\y'.natAbs=m'/\Nat.gcd x'.natAbs y'.natAbs=Nat.gcd a.natAbs b.natAbs,fun _ _ h=>h,?_⟩
    refine ⟨_,rfl,_,rfl,_,_,rfl,rfl,hp,?_⟩
    refine ⟨_,rfl,?_⟩
    refine ⟨_,rfl,?_⟩
    have h1:=Int.emod_nonneg x (Int.ne_of_gt hp)
    have h2:=Int.emod_lt_of_pos x hp
    exact ⟨(x%y).natAbs,by omega,y,x%y,_,rfl,rfl,hy,h1,rfl,by rw [zp hx hp];exact hg⟩
   ·refine ⟨_,rfl,?_⟩
    have e:(y:Int)=0:=h0
    subst e
    have e2:(x:Int)=((Nat.gcd a.natAbs b.natAbs:Nat):Int):=by
     rw [<- hg]
     show x=((Nat.gcd x.natAbs 0:Nat):Int)
     rw [Nat.gcd_zero_right];omega
    rw [e2]
    exact k
def oQ (K:PySem.W.Frag):Sp:=fun vs H Q _=>∃ (a:Addr) (ns:List Int),vs=[.ref a]/\SqL K H a (ns.map V.int)/\Q (.int (aw ns:Nat)) H
theorem Ek {f:Addr} {fd:FuncData} (F:Fun K "shared" "shared" pI f fd) (T:Txt K mg) {sY:Addr} {sI:FuncData} (uP:Cal P w K mg base 1 "shared_by_two" ["one","other"] sp2 sY sI):FnOk P w K mg base CX0 2 f fd ["row"] (oQ K):=by
 obtain ⟨uC,rN,se,ue⟩:=uP
 refine F.ok sc_shared (fun vs H Q E h=>?_) (fun cdv A outer s H vs Q E hr h=>?_)
 ·obtain ⟨a,ns,rfl,_⟩:=h
  rfl
 ·obtain ⟨a,ns,rfl,hS,k⟩:=h
  refine ⟨_,(ah (ap (i:=1) sc_shared.nd rfl (Or.inl rfl) ad)
   (ah (cZ PassesOwn.never rfl (eN (K:=K) rfl (pv 0)) (aW (i:=2) sc_shared.nd rfl (Or.inl rfl))
     (al (ap (i:=1) sc_shared.nd rfl (Or.inl rfl) (aq uC (hr.mono) rfl rN se ue .nil aj (aa (pv 1) (aa (pv 2) ac))))))
   (al (aB (pv 1))))),?_⟩
  refine ⟨_,rfl,a,rfl,⟨_,hS⟩,n6 (K:=K) (a:=a) (xs:=ns.map V.int) (fun i σ' H'=>∃ z:Option V,σ'=[some (.ref a),some (.int (aw (ns.take i):Nat)),z]/\H=H') ⟨none,rfl,rfl⟩ (fun i σ' H' _ ⟨z,_,e⟩=>by rw [<- e];exact hS) ?_ ?_⟩
  ·rintro i y σ' H' hi ⟨z,rfl,rfl⟩
   rw [List.getElem?_map] at hi
   cases e:ns[i]? with
   | none=>rw [e] at hi;cases hi
   | some n =>
     rw [e] at hi
     obtain rfl:=Option.some.inj hi
     refine ⟨_,rfl,_,rfl,_,_,rfl,?_⟩
     have e3:ns.take (i+1)=ns.take i++[n]:=by rw [List.take_add_one,e];rfl
     refine ⟨some (.int n),?_,rfl⟩
     rw [e3,zq,Int.natAbs_natCast]
     rfl
  ·rintro σ' H' ⟨z,rfl,rfl⟩
   refine ⟨_,rfl,?_⟩
   rw [List.length_map,List.take_length]
   exact k
def f9 (t b:Int):List (Str×V):=cH "bottom" (.int b) (cH "top" (.int t) [])
theorem Bw:¬ (("top":Str)="bottom"):=by decide +kernel
theorem bX (t b:Int):(f9 t b).lookup ("bottom":Str)=some (.int b):=by
 unfold f9;rw [dH,if_pos rfl]
theorem cR (t b:Int):(f9 t b).lookup ("top":Str)=some (.int t):=by
 unfold f9;rw [dH,if_neg Bw,dH,if_pos rfl]
theorem cS (t b:Int) {m:Str} (h1:¬ m="bottom") (h2:¬ m="top"):(f9 t b).lookup m=none:=by
 unfold f9;rw [dH,if_neg h1,dH,if_neg h2];rfl
structure RCI (K:PySem.W.Frag) (mg:Str->Option Value) (C:Addr):Prop where
 cl:Cls K C
 nT:NoAttr K C "top"
 nB:NoAttr K C "bottom"
 mg:mg "Ratio"=some (.ref C)
 ha:PySem.W.findIn K (.ref C) "__class__"=some (some (.builtin "object.__class__"))
 hn:PySem.W.specialIn K (.builtin "object.__class__") "__get__"=some (some (.builtin "getset_descriptor.__get__"))
 ht:PySem.W.takesIn K (.builtin "object.__class__")=some true
 hm:PySem.W.mroIn K C (.type "object")=some true
def RA (C:Addr) (H:Hp) (p:Addr) (t b:Int):Prop:=∃ dx,H p=some (.ins C dx (f9 t b))
theorem RA.same {C:Addr} {H H':Hp} {p:Addr} {t b:Int} (h:RA C H p t b) (s:Same H H'):RA C H' p t b:=let ⟨dx,e⟩:=h;⟨dx,s _ _ e⟩
def mkR (C:Addr) (H:Hp) (Q:VK) (t b:Int):Prop:=∀ (x:Addr) (H':Hp),Same H H'->H x=none->RA C H' x (rt t b) (rb t b)->Q (.ref x) H'
def da (C:Addr):Sp:=fun vs H Q _=>∃ (p dx:Addr) (t b:Int),vs=[.ref p,.int t,.int b]/\H p=some (.ins C dx [])/\b≠0/\Bits 9000 b/\Q .non (upd H p (.ins C dx (f9 (rt t b) (rb t b))))
theorem cM {C:Addr} {H1:Hp} {q:Addr->Hp->Prop} {E:XK} {t b:Int} (hb:b≠0) (bb:Bits 9000 b) (h:∀ (x:Addr) (H':Hp),Same H1 H'->H1 x=none->RA C H' x (rt t b) (rb t b)->q x H'):∀ x dx:Addr,H1 x=none->H1 dx=none->dx≠x->da C (.ref x::([.int t,.int b]++[])) (upd (upd H1 dx (.own x)) x (.ins C dx [])) (fun v H2=>v=.non/\q x H2) E:=fun x dx nx ndx ne=>by
 refine ⟨x,dx,t,b,rfl,au,hb,bb,rfl,?_⟩
 rw [ml]
 have s0:Same H1 (upd (upd H1 dx (.own x)) x (.ins C dx (f9 (rt t b) (rb t b)))):=fun c o e=>by
  rw [upd_ne (aX e nx),upd_ne (aX e ndx)];exact e
 exact h x _ s0 nx ⟨dx,au⟩
theorem zM {t b:Int} (hb:b≠0) (bb:Bits 9000 b):Bits 9000 (dv t b):=bb.of_le (by rw [iS];exact Nat.le_of_dvd (Int.natAbs_pos.mpr hb) (Nat.gcd_dvd_right _ _))
theorem Fk {C f:Addr} {dV:Value} {fd:FuncData} (F:FunD K "__init__" "Ratio.__init__" jr dV f fd) (T:Txt K mg) (R:RCI K mg C) {sY:Addr} {sI:FuncData} (uP:Cal P w K mg base 1 "shared_by_two" ["one","other"] sp2 sY sI):FnOk P w K mg base CX0 2 f fd ["self","top","bottom"] (da C):=by
 obtain ⟨uC,rN,se,ue⟩:=uP
 refine F.ok sc_Ratio___init__ (fun vs H Q E h=>?_) (fun cdv A outer s H vs Q E hr h=>?_)
 ·obtain ⟨p,dx,t,b,rfl,_⟩:=h
  rfl
 ·obtain ⟨p,dx,t,b,rfl,hp,hb,bb,k⟩:=h
  refine ⟨_,(ah (aQ (aH cI (pv 2) ad (aE _))
   (al ie)
   aR)
   (ah (ap (i:=3) sc_Ratio___init__.nd rfl (Or.inl rfl) (aq uC (hr.mono) rfl rN se ue .nil aj (aa (pv 1) (aa (pv 2) ac))))
   (ah (aQ (aH c7 (pv 2) ad (aE _))
     (al (ap (i:=3) sc_Ratio___init__.nd rfl (Or.inl rfl) (bQ bM (pv 3))))
     aR)
   (ah (kz (pv 0) (ai x9 (pv 1) (pv 3)) rfl)
   (al (kz (pv 0) (ai x9 (pv 2) (pv 3)) rfl)))))),?_⟩
  refine bz ⟨_,rfl,_,_,rfl,rfl,_,rfl,aL (fun h=>absurd h hb) (fun _=>?_)⟩
  refine aA ⟨_,rfl,_,rfl,t,b,rfl,?_⟩
  refine dW (fun σ' H'=>H=H'/\σ'=[some (.ref p),some (.int t),some (.int b),some (.int (dv t b))]) ?_ ?_
  ·rintro σ' H' ⟨rfl,rfl⟩
   refine ⟨_,rfl,_,rfl,_,_,rfl,rfl,⟨oi hb,zM hb bb⟩,_,rfl,p,C,dx,_,rfl,hp,R.cl,R.nT,by show 0<1000;decide,?_⟩
   refine ⟨_,rfl,_,rfl,_,_,rfl,rfl,⟨oi hb,zM hb bb⟩,_,rfl,p,C,dx,_,rfl,au,R.cl,R.nB,by show 1<1000;decide,?_⟩
   show Q .non (upd (upd H p _) p _)
   rw [ml]
   exact k
  ·intro rest
   refine ⟨_,rfl,_,_,rfl,rfl,_,rfl,?_⟩
   refine aL (fun h=>?_) (fun h=>?_)
   ·refine ⟨_,rfl,_,rfl,rest _ _ ⟨rfl,?_⟩⟩
    have e:dv t b = -((Nat.gcd t.natAbs b.natAbs:Nat):Int):=by unfold dv;rw [if_pos h]
    rw [e];rfl
   ·refine rest _ _ ⟨rfl,?_⟩
    have e:dv t b=((Nat.gcd t.natAbs b.natAbs:Nat):Int):=by unfold dv;rw [if_neg h]
    rw [e];rfl
def kd:Sp:=fun vs H Q _=>∃ x:Int,vs=[.int x]/\Q (.int (sg x)) H
theorem D6 {f:Addr} {fd:FuncData} (F:Fun K "whole_sign" "whole_sign" pd f fd) (T:Txt K mg):FnOk P w K mg base CX0 1 f fd ["value"] kd:=by
 refine F.ok Cm (fun vs H Q E h=>?_) (fun cdv A outer s H vs Q E hr h=>?_)
 ·obtain ⟨x,rfl,_⟩:=h
  rfl
 ·obtain ⟨x,rfl,k⟩:=h
  refine ⟨_,(ah (aQ (aH c7 (pv 0) ad (aE _))
   (al (aB (bQ bM ad)))
   aR)
   (ah (aQ (aH dj (pv 0) ad (aE _))
     (al (aB ad))
     aR)
   (al (aB ad)))),?_⟩
  refine bz ⟨_,rfl,_,_,rfl,rfl,_,rfl,aL (fun h=>?_) (fun h=>?_)⟩
  ·have e:sg x = -1:=by unfold sg;rw [if_pos h]
   rw [e] at k
   exact ⟨_,rfl,k⟩
  refine bz ⟨_,rfl,_,_,rfl,rfl,_,rfl,aL (fun h'=>?_) (fun h'=>?_)⟩
  ·have e:sg x=1:=by unfold sg;rw [if_neg h,if_pos h']
   rw [e] at k
   exact k
  ·have e:sg x=0:=by unfold sg;rw [if_neg h,if_neg h']
   rw [e] at k
   exact k
def kg (C:Addr):Sp:=fun vs H Q _=>∃ (p q:Addr) (t b u d:Int),vs=[.ref p,.ref q]/\RA C H p t b/\RA C H q u d/\Bits 100000 t/\Bits 100000 b/\Bits 100000 u/\Bits 100000 d/\Q (.int (sg (t*d-u*b))) H
theorem Fj {C f:Addr} {fd:FuncData} (F:Fun K "against" "Ratio.against" qM f fd) (T:Txt K mg) (R:RCI K mg C) {iM:Addr} {iH:FuncData} (jd:Cal P w K mg base 1 "whole_sign" ["value"] kd iM iH):FnOk P w K mg base CX0 2 f fd ["self","other"] (kg C):=by
 obtain ⟨i9,iq,iy,iY⟩:=jd
 refine F.ok CP (fun vs H Q E h=>?_) (fun cdv A outer s H vs Q E hr h=>?_)
 ·obtain ⟨p,q,t,b,u,d,rfl,_⟩:=h
  rfl
 ·obtain ⟨p,q,t,b,u,d,rfl,⟨dx,hp⟩,⟨dy,hq⟩,bt,bb,bu,bd,k⟩:=h
  refine ⟨_,(al (aB (aq i9 (hr.mono) rfl iq iy iY .nil aj (aa (ai b7 (ai aI (aO (K:=K) rfl (pv 0) rfl) (aO (K:=K) rfl (pv 1) rfl)) (ai aI (aO (K:=K) rfl (pv 1) rfl) (aO (K:=K) rfl (pv 0) rfl))) ac)))),?_⟩
  refine ⟨_,rfl,p,C,dx,_,_,rfl,hp,R.cl,R.nT,cR _ _,_,rfl,q,C,dy,_,_,rfl,hq,R.cl,R.nB,bX _ _,_,_,rfl,rfl,⟨bt.mono,bd.mono⟩,?_⟩
  exact ⟨_,rfl,q,C,dy,_,_,rfl,hq,R.cl,R.nT,cR _ _,_,rfl,p,C,dx,_,_,rfl,hp,R.cl,R.nB,bX _ _,_,_,rfl,rfl,⟨bu.mono,bb.mono⟩,_,_,rfl,rfl,_,rfl,k⟩
theorem Er {f:Addr} {fd:FuncData} (F:Fun K "poly" "poly" pO f fd) (T:Txt K mg):FnOk P w K mg base CX0 1 f fd ["row"] (ka K):=by
 refine F.ok sc_poly (fun vs H Q E h=>?_) (fun cdv A outer s H vs Q E hr h=>?_)
 ·obtain ⟨a,ns,rfl,_⟩:=h
  rfl
 ·obtain ⟨a,ns,rfl,hS,k⟩:=h
  refine ⟨_,(ah (ap (i:=1) sc_poly.nd rfl (Or.inl rfl) (bT (df (K:=K) rfl) (by rfl) T.len_ PySem.boot_len (aa (pv 0) ac)))
   (ah (fO PassesOwn.never (PW.pt (ic (aH dj (pv 1) ad (aE _)) (ib (aH cI (aG (ck (K:=K) rfl) (pv 0) (ai b7 (pv 1) ad) (fun _ _=>rfl)) ad (aE _)))))
     (al (ap (i:=1) sc_poly.nd rfl (Or.inl rfl) (ai b7 (pv 1) ad))))
   (al (aB (nk (mI (K:=K) rfl) (pv 0) nh (ng (pv 1))))))),?_⟩
  refine ⟨_,rfl,a,_,rfl,.inl hS,?_⟩
  refine ⟨fun m σ' H'=>∃ n:Nat,n<=ns.length/\σ'=[some (.ref a),some (.int n)]/\H=H'/\n=m/\trim (ns.take n)=trim ns,⟨_,ns.length,Nat.le_refl _,?_,rfl,rfl,?_⟩,?_⟩
  ·rw [List.length_map];rfl
  ·rw [List.take_length]
  ·rintro m σ' H' ⟨n,hn,rfl,rfl,rfl,ht⟩
   have fin:trim (ns.take n)=ns.take n->∃ v,([some (V.ref a),some (V.int n)]:St)[0]?=some (some v)/\∃ v_1,([some (V.ref a),some (V.int n)]:St)[1]?=some (some v_1)/\∃ i,v_1=V.int i/\qU K v none (some i) H Q:=fun h=>by
    refine ⟨_,rfl,_,rfl,n,rfl,a,_,rfl,hS,fun p hp=>k p _ (Same.upd_new hp) hp ?_⟩
    rw [au,<- ht,h]
    have e:gO (ns.map V.int) none (some (n:Int))=(ns.take n).map V.int:=by
     unfold gO
     rw [HT.sIx_none,HT.sIx_nat,List.drop_zero,Nat.sub_zero,List.length_map,Nat.min_eq_left hn,List.map_take]
    rw [e]
   refine ⟨_,rfl,_,_,rfl,rfl,_,rfl,?_⟩
   refine aL (fun hp=>?_) (fun hp=>?_)
   ·obtain ⟨j,rfl⟩:∃ j,n=j+1:=⟨n-1,by have:(0:Int)<n:=hp;omega⟩
    have hj:j<ns.length:=hn
    refine ⟨_,rfl,_,rfl,_,_,rfl,rfl,a,_,j,.int (cf ns j),rfl,?_,hS,jU ?_,_,_,rfl,rfl,_,rfl,?_⟩
    ·show V.int (((j+1:Nat):Int)-1)=V.int j
     congr 1;omega
    ·rw [List.getElem?_map,iF hj];rfl
    refine aL (fun h0=>?_) (fun h0=>?_)
    ·refine ⟨fun σ'' H''=>∃ m',m'<j+1/\∃ n:Nat,n<=ns.length/\σ''=[some (.ref a),some (.int n)]/\H=H''/\n=m'/\trim (ns.take n)=trim ns,fun _ _ h=>h,?_⟩
     refine ⟨_,rfl,_,_,rfl,rfl,j,Nat.lt_succ_self _,j,Nat.le_of_lt hj,?_,rfl,rfl,?_⟩
     ·show [some (V.ref a),some (V.int (((j+1:Nat):Int)-1))]=[some (V.ref a),some (V.int j)]
      congr 4;omega
     ·rw [<- ht,Bl hj h0]
    ·exact fin (Bm hj h0)
   ·obtain rfl:n=0:=by have:¬ (0:Int)<n:=hp;omega
    exact fin (by rw [List.take_zero];rfl)
def jo:Sp:=fun vs H Q _=>∃ (a:Addr) (xs:List V),vs=[.ref a]/\H a=some (.lst xs)/\Q (.int ((xs.length:Int)-1)) H
theorem EO {f:Addr} {fd:FuncData} (F:Fun K "degree" "degree" qi f fd) (T:Txt K mg):FnOk P w K mg base CX0 1 f fd ["row"] jo:=by
 refine F.ok Cz (fun vs H Q E h=>?_) (fun cdv A outer s H vs Q E hr h=>?_)
 ·obtain ⟨a,xs,rfl,_⟩:=h
  rfl
 ·obtain ⟨a,xs,rfl,hA,k⟩:=h
  refine ⟨_,(al (aB (ai b7 (bT (df (K:=K) rfl) (by rfl) T.len_ PySem.boot_len (aa (pv 0) ac)) ad))),?_⟩
  exact ⟨_,rfl,a,_,rfl,.inl (SqL.of hA),_,_,rfl,rfl,k⟩
theorem ES {f:Addr} {fd:FuncData} (F:Fun K "coefficient" "coefficient" qm f fd) (T:Txt K mg):FnOk P w K mg base CX0 1 f fd ["row","place"] (jp K):=by
 refine F.ok CB (fun vs H Q E h=>?_) (fun cdv A outer s H vs Q E hr h=>?_)
 ·obtain ⟨a,ns,k,rfl,_⟩:=h
  rfl
 ·obtain ⟨a,ns,n,rfl,hS,k⟩:=h
  refine ⟨_,(ah (aQ (aH c7 (pv 1) (bT (df (K:=K) rfl) (by rfl) T.len_ PySem.boot_len (aa (pv 0) ac)) (aE _))
   (al (aB (aG (ck (K:=K) rfl) (pv 0) (pv 1) (fun _ _=>rfl))))
   aR)
   (al (aB ad))),?_⟩
  refine ⟨_,rfl,_,rfl,a,_,rfl,.inl hS,_,_,rfl,rfl,_,rfl,?_⟩
  refine aL (fun h1=>?_) (fun h1=>?_)
  ·rw [List.length_map] at h1
   have h2:n<ns.length:=by omega
   refine ⟨_,rfl,_,rfl,a,_,_,_,rfl,rfl,hS,jU (v:=.int (ns.getD n 0)) ?_,k⟩
   rw [List.getElem?_map,List.getElem?_eq_getElem h2]
   simp [List.getD,h2]
  ·rw [List.length_map] at h1
   have h2:ns.length<=n:=by omega
   have e:ns.getD n 0=0:=by simp [List.getD,List.getElem?_eq_none_iff.mpr h2]
   rw [e] at k
   exact k
theorem D9 {f:Addr} {fd:FuncData} (F:Fun K "taken" "taken" pj f fd) (T:Txt K mg) {iN:Addr} {iI:FuncData} (je:Cal P w K mg base 1 "poly" ["row"] (ka K) iN iI) {tj:Addr} {sL:FuncData} (uS:Cal P w K mg base 1 "coefficient" ["row","place"] (jp K) tj sL):FnOk P w K mg base CX0 2 f fd ["first","second"] (mG K cG):=by
 obtain ⟨ja,ir,iz,iZ⟩:=je
 obtain ⟨lZ,kR,k8,lJ⟩:=uS
 refine F.ok sc_taken (fun vs H Q E h=>?_) (fun cdv A outer s H vs Q E hr h=>?_)
 ·obtain ⟨a,b,xs,ys,rfl,_⟩:=h
  rfl
 ·obtain ⟨a,b,xs,ys,rfl,hA,hB,hx,hy,k⟩:=h
  refine ⟨_,(ah (ap (i:=2) sc_taken.nd rfl (Or.inl rfl) (bT (As rfl) (by rfl) T.max_ PyProof.Rows.boot_max (aa (bT (df (K:=K) rfl) (by rfl) T.len_ PySem.boot_len (aa (pv 0) ac)) (aa (bT (df (K:=K) rfl) (by rfl) T.len_ PySem.boot_len (aa (pv 1) ac)) ac))))
   (al (aB (aq ja (hr.mono) rfl ir iz iZ .nil aj (aa (fm (own:=["k"]) (fr:=["first","second"]) (js:=[0,1]) (by walk_at "comp_ok") rfl (jy rfl T.range_ (aa (pv 2) ac)) (fun _ _ _ _=>(aW (i:=0) (show List.Nodup (["k","first","second"]:List Str) from by decide +kernel) rfl (Or.inl rfl))) (fun _ _ _ _=>(ai b7 (aq lZ (hr.mono) rfl kR k8 lJ .nil aj (aa (pv 1) (aa (pv 0) ac))) (aq lZ (hr.mono) rfl kR k8 lJ .nil aj (aa (pv 2) (aa (pv 0) ac)))))) ac))))),?_⟩
  refine ⟨_,rfl,a,_,rfl,.inl hA,_,rfl,b,_,rfl,.inl hB,_,_,rfl,?_⟩
  rw [yK,List.length_map,List.length_map]
  have hz:max xs.length ys.length<=sizeLine:=by have:=sizeLine_eq;omega
  refine ⟨_,rfl,_,rfl,(mH hz).1,(mH hz).2,tR (lo:=0) (n:=max xs.length ys.length) (fun i zs σ' H'=>∃ z:Option V,σ'=[z,some (.ref a),some (.ref b)]/\zs=((List.range i).map fun k=>V.int (cf xs k-cf ys k))/\H=H') hz ⟨none,rfl,rfl,rfl⟩ ?_ ?_ ?_⟩
  ·rintro i zs σ' H' _ ⟨z,rfl,rfl,rfl⟩
   simp
  ·rintro i zs σ' H' hi ⟨z,rfl,rfl,rfl⟩
   refine ⟨_,rfl,_,rfl,a,xs,i,?_,hA,_,rfl,_,rfl,b,ys,i,?_,hB,_,_,rfl,rfl,_,rfl,?_,rfl⟩
   ·show [V.ref a,V.int (0+(i:Int))]=_
    rw [Int.zero_add]
   ·show [V.ref b,V.int (0+(i:Int))]=_
    rw [Int.zero_add]
   ·rw [List.range_succ,List.map_append];rfl
  ·rintro zs σ' H' p ⟨z,rfl,rfl,rfl⟩ hp
   refine ⟨p,(List.range (max xs.length ys.length)).map fun k=>cf xs k-cf ys k,rfl,SqL.of ?_,?_⟩
   ·rw [au,List.map_map];rfl
   ·intro p' H' sm hp' e
    refine k p' H' ((Same.upd_new hp).trans sm) ((Same.upd_new hp).free hp') ?_
    rw [e,BL]
def sp1 (g:List Int->List Int):Sp:=fun vs H Q _=>∃ (a:Addr) (ns:List Int),vs=[.ref a]/\H a=some (.lst (ns.map V.int))/\ns.length<=100000/\AllB 100000 ns/\mkL H Q (g ns)
theorem Fw {k:Nat} {n:Nat} (h:n<2^k):Bits k (n:Int):=by show ((n:Int)).natAbs<2^k;rw [Int.natAbs_natCast];exact h
theorem BU {n:Nat} (h:n<=1000000):Bits 1000000 (n:Int):=(Fw (k:=20) (Nat.lt_of_le_of_lt h (by decide))).mono
theorem Dn (f:Nat->V) (i:Nat):(List.range i).map f++[f i]=(List.range (i+1)).map f:=by rw [List.range_succ,List.map_append];rfl
theorem Eg {f:Addr} {fd:FuncData} (F:Fun K "slope" "slope" pF f fd) (T:Txt K mg):FnOk P w K mg base CX0 1 f fd ["row"] (sp1 slopeL):=by
 refine F.ok Cp (fun vs H Q E h=>?_) (fun cdv A outer s H vs Q E hr h=>?_)
 ·obtain ⟨a,ns,rfl,_⟩:=h
  rfl
 ·obtain ⟨a,ns,rfl,hA,hn,hb,k⟩:=h
  have big:=sizeLine_eq
  refine ⟨_,(al (aB (fm (own:=["k"]) (fr:=["row"]) (js:=[0]) (by walk_at "comp_ok") rfl (DN rfl T.range_ (aa ad (aa (bT (df (K:=K) rfl) (by rfl) T.len_ PySem.boot_len (aa (pv 0) ac)) ac))) (fun _ _ _ _=>(aW (i:=0) (show List.Nodup (["k","row"]:List Str) from by decide +kernel) rfl (Or.inl rfl))) (fun _ _ _ _=>(ai aI (pv 0) (aG (ck (K:=K) rfl) (pv 1) (pv 0) (fun _ _=>rfl))))))),?_⟩
  have hl:(ns.map V.int).length=ns.length:=List.length_map _
  refine aU ⟨_,rfl,a,_,rfl,.inl (SqL.of hA),1,_,rfl,⟨by decide,by decide,by rw [hl];omega,by rw [hl];omega⟩,tR (lo:=1) (fun i ys σ' H'=>∃ z:Option V,σ'=[z,some (.ref a)]/\ys=((List.range i).map fun (j:Nat)=>V.int (((j:Int)+1)*cf ns (j+1)))/\H=H') (by rw [hl];omega) ⟨none,rfl,rfl,rfl⟩ ?_ ?_ ?_⟩
  ·rintro i ys σ' H' _ ⟨z,rfl,rfl,rfl⟩
   simp
  ·rintro i ys σ' H' hi ⟨z,rfl,rfl,rfl⟩
   rw [hl] at hi
   have hi':i+1<ns.length:=by omega
   have e0:(1:Int)+(i:Int)=((i+1:Nat):Int):=by omega
   refine ⟨_,rfl,_,rfl,_,rfl,a,_,_,_,rfl,rfl,SqL.of hA,jT e0 hi',_,_,rfl,rfl,⟨by rw [e0];exact BU (by omega),(hb.cf _).mono⟩,_,rfl,?_,rfl⟩
   rw [<- Dn]
   show _++[V.int ((1+(i:Int))*cf ns (i+1))]=_
   rw [Int.add_comm 1]
  ·rintro ys σ' H' p ⟨z,rfl,rfl,rfl⟩ hp
   refine k p _ (Same.upd_new hp) hp ?_
   have en:(((ns.map V.int).length:Int)-1).toNat=ns.length-1:=by rw [hl];omega
   rw [au,en];unfold RM.slopeL;rw [List.map_map];rfl
def oP:Sp:=fun vs H Q _=>∃ (a:Addr) (ns:List Int),vs=[.ref a]/\H a=some (.lst (ns.map V.int))/\Tr ns/\ns.length<=1000000/\mkL H Q (ar ns)
theorem HQ {ns:List Int} (ht:Tr ns) (hne:ns≠[]):0<(aw ns:Int):=by
 obtain ⟨r,x,rfl⟩:=(cK ns).resolve_left hne
 have hx:x≠0:=tr_snoc.mp ht
 have hm:x∈r++[x]:=by simp
 have h1:0<aw (r++[x]):=Nat.pos_of_dvd_of_pos (nY hm) (Int.natAbs_pos.mpr hx)
 omega
theorem Ei {f:Addr} {fd:FuncData} (F:Fun K "shrunk" "shrunk" mR f fd) (T:Txt K mg) (hNS:base.NoSeer) (hTr:P.given.tree=none) {sZ:Addr} {sJ:FuncData} (uQ:Cal P w K mg base 2 "shared" ["row"] (oQ K) sZ sJ):FnOk P w K mg base CX0 33 f fd ["row"] oP:=by
 obtain ⟨uD,rO,sh,uf⟩:=uQ
 refine F.ok sc_shrunk (fun vs H Q E h=>?_) (fun cdv A outer s H vs Q E hr h=>?_)
 ·obtain ⟨a,ns,rfl,_⟩:=h
  rfl
 ·obtain ⟨a,ns,rfl,hA,ht,hn,k⟩:=h
  have big:=sizeLine_eq
  have hdp:(A.deeper (PyProof.Rows.envOfC (Str.ofString "shrunk") (aD mR) s.heap.objs.size f cdv)).depth+100<recursionLimit:=by have:=hr.dp;omega
  refine ⟨_,(ah (ap (i:=1) sc_shrunk.nd rfl (Or.inr rfl) (aq uD (hr.mono) rfl rO sh uf .nil aj (aa (pv 0) ac)))
   (al (aB (fm (own:=["value"]) (fr:=["divisor"]) (js:=[1]) (by walk_at "comp_ok") rfl (eN (K:=K) rfl (pv 0)) (fun _ _ _ _=>(aW (i:=0) (show List.Nodup (["value","divisor"]:List Str) from by decide +kernel) rfl (Or.inl rfl))) (fun _ _ _ _=>(ai (D2 hNS hTr hdp rfl rfl rfl rfl rfl) (pv 0) (pv 1))))))),?_⟩
  refine aA ⟨_,rfl,a,ns,rfl,SqL.of hA,?_⟩
  refine aU ⟨_,rfl,a,rfl,⟨_,SqL.of hA⟩,iV (K:=K) (a:=a) (xs:=ns.map V.int) (fun i ys σ' H'=>∃ (z0:Option V),σ'=[z0,some (.int (aw ns:Nat))]/\ys=((ns.take i).map fun x=>x/(aw ns:Int)).map V.int/\H=H') (by rw [List.length_map];omega) ⟨none,rfl,rfl,rfl⟩ ?_ ?_ ?_⟩
  ·rintro i ys σ' H' _ ⟨z0,rfl,rfl,rfl⟩
   exact ⟨SqL.of hA,by rw [List.length_map,List.length_map,List.length_take];exact Nat.min_le_left _ _⟩
  ·rintro i x ys σ' H' hi ⟨z0,rfl,rfl,rfl⟩
   rw [List.getElem?_map] at hi
   cases e:ns[i]? with
   | none=>rw [e] at hi;cases hi
   | some c =>
     rw [e] at hi
     obtain rfl:=Option.some.inj hi
     have g1:=HQ ht (fun z=>by rw [z] at e;simp at e)
     refine ⟨_,rfl,_,rfl,_,_,rfl,rfl,g1,_,rfl,?_,rfl⟩
     rw [List.take_add_one,e]
     simp
  ·rintro ys σ' H' p ⟨z0,rfl,rfl,rfl⟩ hp
   refine k p _ (Same.upd_new hp) hp ?_
   rw [au,List.length_map,List.take_length]
   rfl
def ke:Sp:=fun vs H Q _=>∃ (a:Addr) (ns:List Int),vs=[.ref a]/\H a=some (.lst (ns.map V.int))/\Tr ns/\ns.length<=1000000/\mkL H Q (aC ns)
theorem AJ (r:List Int) (x:Int):atI ((r++[x]).map V.int) (-1)=some (.int x):=by
 rw [List.map_append];exact ur _ _
theorem Et {f:Addr} {fd:FuncData} (F:Fun K "plain" "plain" pP f fd) (T:Txt K mg) {sX:Addr} {sH:FuncData} (uO:Cal P w K mg base 33 "shrunk" ["row"] oP sX sH):FnOk P w K mg base CX0 34 f fd ["row"] ke:=by
 obtain ⟨lX,kP,kY,lH⟩:=uO
 refine F.ok sc_plain (fun vs H Q E h=>?_) (fun cdv A outer s H vs Q E hr h=>?_)
 ·obtain ⟨a,ns,rfl,_⟩:=h
  rfl
 ·obtain ⟨a,ns,rfl,hA,ht,hn,k⟩:=h
  have big:=sizeLine_eq
  have hu:=hr.units
  refine ⟨_,(ah (ap (i:=1) sc_plain.nd rfl (Or.inl rfl) (aq lX (hr.mono) rfl kP kY lH .nil aj (aa (pv 0) ac)))
   (ah (aQ (PW.pt (ic (aH (kI (K:=K) rfl hu) (pv 1) (aZ ac) (aE _)) (ib (aH c7 (aG (ck (K:=K) rfl) (pv 1) (bQ bM ad) (fun _ _=>rfl)) ad (aE _)))))
     (al (aB (fm (own:=["value"]) (fr:=[]) (js:=[]) (by walk_at "comp_ok") rfl (eN (K:=K) rfl (pv 1)) (fun _ _ _ _=>(aW (i:=0) (show List.Nodup (["value"]:List Str) from by decide +kernel) rfl (Or.inl rfl))) (fun _ _ _ _=>(bQ bM (pv 0))))))
     aR)
   (al (aB (pv 1))))),?_⟩
  refine aA ⟨_,rfl,a,ns,rfl,hA,ht,hn,fun p H1 s1 hp e1=>?_⟩
  have hsl:(ar ns).length=ns.length:=List.length_map _
  have done:cz (ar ns)=ar ns->Q (.ref p) H1:=fun e=>k p H1 s1 hp (by rw [e1];show _=some (HO.lst ((cz (ar ns)).map V.int));rw [e])
  refine dW (fun σ' H'=>σ'=[some (.ref a),some (.ref p)]/\Same H H'/\H' p=some (.lst ((ar ns).map V.int))/\cz (ar ns)=ar ns) ?_ ?_
  ·rintro σ' H' ⟨rfl,s2,e2,e3⟩
   exact ⟨_,rfl,k p H' s2 hp (by rw [e2];show _=some (HO.lst ((cz (ar ns)).map V.int));rw [e3])⟩
  intro rest
  refine dX ⟨_,rfl,Nat.zero_le _,fun q hq=>?_⟩
  have s2:Same H (upd H1 q (.lst [])):=s1.then_new hq
  have e2:upd H1 q (.lst []) p=some (.lst ((ar ns).map V.int)):=by rw [upd_ne (aX e1 hq)];exact e1
  refine ⟨p,q,ar ns,[],rfl,rfl,SqL.of e2,SqL.of au,_,rfl,?_⟩
  refine dq (fun hne=>?_) (fun he=>?_)
  ·obtain ⟨r,x,er⟩:=(cK (ar ns)).resolve_left hne
   refine ⟨_,rfl,_,rfl,p,_,_,.int x,rfl,rfl,SqL.of e2,(by rw [er];exact AJ r x),_,_,rfl,rfl,_,rfl,?_⟩
   have elast:ao (ar ns)=x:=by rw [er,dk]
   refine aL (fun hx=>?_) (fun hx=>?_)
   ·have hx':x<0:=hx
    have epos:cz (ar ns)=(ar ns).map fun x => -x:=by unfold cz;rw [elast,if_pos hx']
    refine aU ⟨_,rfl,p,rfl,⟨_,SqL.of e2⟩,iV (K:=K) (a:=p) (xs:=(ar ns).map V.int) (fun i ys σ' H'=>∃ (z0:Option V),σ'=[z0]/\ys=(((ar ns).take i).map fun x => -x).map V.int/\upd H1 q (.lst [])=H') (by rw [List.length_map,hsl];omega) ⟨none,rfl,rfl,rfl⟩ ?_ ?_ ?_⟩
    ·rintro i ys σ' H' _ ⟨z0,rfl,rfl,rfl⟩
     exact ⟨SqL.of e2,by rw [List.length_map,List.length_map,List.length_take];exact Nat.min_le_left _ _⟩
    ·rintro i x ys σ' H' hi ⟨z0,rfl,rfl,rfl⟩
     rw [List.getElem?_map] at hi
     cases e:(ar ns)[i]? with
     | none=>rw [e] at hi;cases hi
     | some c =>
       rw [e] at hi
       obtain rfl:=Option.some.inj hi
       refine ⟨_,rfl,_,rfl,_,rfl,?_,rfl⟩
       rw [List.take_add_one,e]
       simp
    ·rintro ys σ' H' p' ⟨z0,rfl,rfl,rfl⟩ hp'
     refine k p' _ (s2.then_new hp') (s2.free hp') ?_
     rw [au,List.length_map,List.take_length]
     show _=some (HO.lst ((cz (ar ns)).map V.int))
     rw [epos]
   ·exact rest _ _ ⟨rfl,s2,e2,by unfold cz;rw [elast,if_neg hx]⟩
  ·have he':ar ns=[]:=he
   exact rest _ _ ⟨rfl,s2,e2,by rw [he'];rfl⟩
def wf:Sp:=fun vs H Q _=>∃ (a:Addr) (xs:List Int) (c:Int),vs=[.ref a,.int c]/\H a=some (.lst (xs.map V.int))/\xs.length<=1000000/\Bits 1000000 c/\AllB 1000000 xs/\mkL H Q (scL c xs)
theorem El {f:Addr} {fd:FuncData} (F:Fun K "scaled" "scaled" pJ f fd) (T:Txt K mg):FnOk P w K mg base CX0 1 f fd ["row","factor"] wf:=by
 refine F.ok Cr (fun vs H Q E h=>?_) (fun cdv A outer s H vs Q E hr h=>?_)
 ·obtain ⟨a,xs,c,rfl,_⟩:=h
  rfl
 ·obtain ⟨a,xs,c,rfl,hA,hn,bc,bx,k⟩:=h
  have big:=sizeLine_eq
  refine ⟨_,(al (aB (fm (own:=["value"]) (fr:=["factor"]) (js:=[1]) (by walk_at "comp_ok") rfl (eN (K:=K) rfl (pv 0)) (fun _ _ _ _=>(aW (i:=0) (show List.Nodup (["value","factor"]:List Str) from by decide +kernel) rfl (Or.inl rfl))) (fun _ _ _ _=>(ai aI (pv 1) (pv 0)))))),?_⟩
  refine aU ⟨_,rfl,a,rfl,⟨_,SqL.of hA⟩,iV (K:=K) (a:=a) (xs:=xs.map V.int) (fun i ys σ' H'=>∃ (z0:Option V),σ'=[z0,some (.int c)]/\ys=(scL c (xs.take i)).map V.int/\H=H') (by rw [List.length_map];omega) ⟨none,rfl,rfl,rfl⟩ ?_ ?_ ?_⟩
  ·rintro i ys σ' H' _ ⟨z0,rfl,rfl,rfl⟩
   exact ⟨SqL.of hA,by rw [List.length_map,b9,List.length_take];exact Nat.min_le_left _ _⟩
  ·rintro i x ys σ' H' hi ⟨z0,rfl,rfl,rfl⟩
   obtain ⟨y,_,rfl,hm,et⟩:=gJ hi
   refine ⟨_,rfl,_,rfl,_,_,rfl,rfl,⟨bc,bx y hm⟩,_,rfl,?_,rfl⟩
   rw [et];simp [scL]
  ·rintro ys σ' H' p ⟨z0,rfl,rfl,rfl⟩ hp
   refine k p _ (Same.upd_new hp) hp ?_
   rw [au,List.length_map,List.take_length]
theorem zT (ms:List Int):gP ms none (some (-1))=ms.take (ms.length-1):=by
 unfold gP
 rw [HT.sIx_none,List.drop_zero,Nat.sub_zero]
 congr 1
 show (if (-1:Int)<0 then ((-1:Int)+(ms.length:Int)).toNat else min (-1:Int).toNat ms.length)=_
 rw [if_pos (by decide)];omega
theorem An {ms:List Int} {n k:Nat}:cf (ms.take n) k=if k<n then cf ms k else 0:=by
 unfold cf
 by_cases h:k<n
 ·rw [if_pos h];simp [List.getD,List.getElem?_take,h]
 ·rw [if_neg h];simp [List.getD,List.getElem?_take,h]
def wA:Sp:=fun vs H Q _=>∃ (a b:Addr) (rs ys:List Int) (p:Nat) (l:Int),vs=[.ref a,.ref b,.int p,.int l]/\H a=some (.lst (rs.map V.int))/\H b=some (.lst (ys.map V.int))/\rs.length=p+ys.length/\ys≠[]/\Bits 1000000 l/\AllB 1000000 ys/\mkL H Q (ix rs ys p l)
theorem ED {f:Addr} {fd:FuncData} (F:Fun K "lowered" "lowered" p8 f fd) (T:Txt K mg):FnOk P w K mg base CX0 1 f fd ["row","second","place","lead"] wA:=by
 refine F.ok sc_lowered (fun vs H Q E h=>?_) (fun cdv A outer s H vs Q E hr h=>?_)
 ·obtain ⟨a,b,rs,ys,p,l,rfl,_⟩:=h
  rfl
 ·obtain ⟨a,b,rs,ys,p,l,rfl,hA,hB,hl,hy,bl,by',k⟩:=h
  have hyl:=List.length_pos_iff.mpr hy
  refine ⟨_,(ah (ap (i:=4) sc_lowered.nd rfl (Or.inl rfl) (nk (mI (K:=K) rfl) (pv 0) nh (ng (bQ bM ad))))
   (ah (cZ PassesOwn.never rfl (qZ rfl T.enumerate_ (aa (nk (mI (K:=K) rfl) (pv 1) nh (ng (bQ bM ad))) ac)) (ik rfl (cC (aW (i:=5) sc_lowered.nd rfl (Or.inl rfl)) (cC (aW (i:=6) sc_lowered.nd rfl (Or.inl rfl)) ij)))
     (al (fQ (ai b7 (aG (ck (K:=K) rfl) (pv 4) (ai bj (pv 2) (pv 5)) (fun _ _=>rfl)) (ai aI (pv 3) (pv 6))) (kG (pv 4) (ai bj (pv 2) (pv 5)) kn))))
   (al (aB (pv 4))))),?_⟩
  refine aA ⟨_,rfl,_,rfl,_,rfl,a,_,rfl,SqL.of hA,fun kp hkp=>?_⟩
  rw [tO,zT]
  have s1:=Same.upd_new (o:=.lst ((rs.take (rs.length-1)).map V.int)) hkp
  have nkb:b≠kp:=aX hB hkp
  refine ⟨_,rfl,_,rfl,_,rfl,b,_,rfl,SqL.of (s1 _ _ hB),fun p2 hp2=>?_⟩
  rw [tO,zT]
  have n2:kp≠p2:=aX au hp2
  generalize hH2:upd (upd H kp (.lst ((rs.take (rs.length-1)).map V.int))) p2 (.lst ((ys.take (ys.length-1)).map V.int))=H2
  have hk2:H2 kp=some (.lst ((rs.take (rs.length-1)).map V.int)):=by rw [<- hH2,upd_ne n2,au]
  have hq2:H2 p2=some (.lst ((ys.take (ys.length-1)).map V.int)):=by rw [<- hH2,au]
  have s2:Same H H2:=by rw [<- hH2];exact s1.then_new hp2
  have lt:(rs.take (rs.length-1)).length=rs.length-1:=by rw [List.length_take];omega
  have lty:(ys.take (ys.length-1)).length=ys.length-1:=by rw [List.length_take];omega
  refine ⟨p2,rfl,⟨_,SqL.of hq2⟩,sE (K:=K) (a:=p2) (xs:=(ys.take (ys.length-1)).map V.int) (fun i σ' H'=>∃ (acc:List Int) (z5 z6:Option V),σ'=[some (.ref a),some (.ref b),some (.int p),some (.int l),some (.ref kp),z5,z6]/\SameB kp H2 H'/\H' kp=some (.lst (acc.map V.int))/\acc.length=rs.length-1/\∀ n,n<acc.length->cf acc n=cf rs n-(if p<=n/\n-p<i then l*cf ys (n-p) else 0))
   ⟨_,none,none,rfl,SameB.refl _ _,hk2,lt,fun n hn=>by rw [An,if_pos (by omega),if_neg (by omega)];omega⟩ ?_ ?_ ?_⟩
  ·rintro i σ' H' _ ⟨acc,z5,z6,rfl,sb,_⟩
   exact SqL.of (sb _ _ (Ne.symm n2) hq2)
  ·rintro i x σ' H' q hi ⟨acc,z5,z6,rfl,sb,hpa,hal,hac⟩ hq
   have hil:i<ys.length-1:=by
    apply Classical.byContradiction
    intro hn
    rw [List.getElem?_eq_none_iff.mpr (by rw [List.length_map,lty];omega)] at hi
    cases hi
   rw [List.getElem?_map,iF (by rw [lty];exact hil),An,if_pos hil] at hi
   obtain rfl:=Option.some.inj hi
   refine ⟨q,_,rfl,SqT.of au,rfl,_,_,rfl,_,_,rfl,rfl,?_⟩
   have nqp:kp≠q:=aX hpa hq
   have hpa':upd H' q (.tup [.int i,.int (cf ys i)]) kp=some (.lst (acc.map V.int)):=by rw [upd_ne nqp];exact hpa
   have hpi:p+i<acc.length:=by omega
   have epi:((p:Nat):Int)+((i:Nat):Int)=((p+i:Nat):Int):=by omega
   refine ⟨_,rfl,_,rfl,_,rfl,_,_,rfl,rfl,kp,_,_,_,rfl,rfl,SqL.of hpa',jT epi hpi,_,rfl,_,rfl,_,_,rfl,rfl,⟨bl,by'.cf i⟩,_,_,rfl,rfl,_,rfl,_,rfl,_,rfl,_,_,rfl,rfl,kp,_,_,p+i,rfl,rfl,hpa',lc epi (by rw [List.length_map];exact hpi),?_⟩
   refine ⟨acc.set (p+i) (cf acc (p+i)-l*cf ys i),_,_,rfl,(sb.then_new hq).then_upd,by rw [au,nJ],by rw [List.length_set];exact hal,fun n hn=>?_⟩
   rw [List.length_set] at hn
   rw [lz hpi]
   by_cases e:n=p+i
   ·subst e
    rw [if_pos rfl,hac _ hpi,if_neg (by omega),if_pos (by omega),Nat.add_sub_cancel_left];omega
   ·rw [if_neg e,hac n hn]
    by_cases h1:p<=n/\n-p<i
    ·rw [if_pos h1,if_pos (by omega)]
    ·rw [if_neg h1,if_neg (by omega)]
  ·rintro σ' H' ⟨acc,z5,z6,rfl,sb,hpa,hal,hac⟩
   rw [List.length_map,lty] at hac
   refine ⟨_,rfl,k kp H' (fun b' o e=>sb b' o (aX e hkp) (s2 b' o e)) hkp ?_⟩
   rw [hpa]
   have e:acc=ix rs ys p l:=by
    apply dL
    ·rw [hal,yU]
    ·intro n hn
     have hn':n<rs.length-1:=by omega
     rw [hac n hn,ot,if_pos hn']
     by_cases h1:p<=n
     ·have h2:p<=n/\n-p<ys.length-1:=⟨h1,by omega⟩
      rw [if_pos h1,if_pos h2]
     ·have h2:¬ (p<=n/\n-p<ys.length-1):=fun z=>h1 z.1
      rw [if_neg h1,if_neg h2]
   rw [e]
theorem AllB.of_cf {k:Nat} {l:List Int} (h:∀ n,Bits k (RM.cf l n)):AllB k l:=fun x hx=>by
 obtain ⟨i,hi,rfl⟩:=List.mem_iff_getElem.mp hx
 have:=h i
 rwa [dM hi] at this
theorem uv {k:Nat} {x:Int} (h:Bits k x):Bits k ((x.natAbs:Nat):Int):=h.of_le (by rw [Int.natAbs_natCast];exact Nat.le_refl _)
theorem sg_bits {x:Int}:Bits 1 (sg x):=by
 show (sg x).natAbs<2^1
 unfold sg;split<;>(try split)<;>decide
theorem km {k:Nat} {x y:Int} (h:Bits k y):Bits k (sg x*y):=h.of_le (by
 rw [Int.natAbs_mul]
 have h2:(sg x).natAbs<=1:=by unfold sg;split<;>(try split)<;>decide
 calc (sg x).natAbs*y.natAbs<=1*y.natAbs:=Nat.mul_le_mul_right _ h2
  _=y.natAbs:=Nat.one_mul _)
theorem zP {xs ys:List Int} {b:Nat} (hx:AllB b xs) (hy:AllB b ys):∀ i,AllB (b+i*(b+1)) (aT xs ys i).1/\AllB (b+i*(b+1)) (aT xs ys i).2
 | 0=>by rw [Nat.zero_mul];exact ⟨AllB.zeros,hx⟩
 | i+1=>by
   obtain ⟨h1,h2⟩:=zP hx hy i
   have e:b+(i+1)*(b+1)=b+i*(b+1)+b+1:=by rw [Nat.succ_mul];omega
   have hs:Bits b (((RM.cf ys (ys.length-1)).natAbs:Nat):Int):=uv (hy.cf _)
   rw [e]
   show AllB _ (cT ys (aT xs ys i) _).1/\AllB _ (cT ys (aT xs ys i) _).2
   unfold cT
   dsimp only
   constructor
   ·intro x hx
    rcases List.mem_or_eq_of_mem_set hx with h | rfl
    ·obtain ⟨y,hy',rfl⟩:=List.mem_map.mp h
     have:=hs.mul (h1 y hy')
     exact this.mono (by omega)
    ·exact (km (h2.cf _)).mono (by omega)
   ·refine AllB.of_cf fun n=>?_
    rw [ot]
    by_cases hn:n<(scL (((RM.cf ys (ys.length-1)).natAbs:Nat):Int) (aT xs ys i).2).length-1
    ·rw [if_pos hn,bF]
     have m1:Bits (b+i*(b+1)+b) ((((RM.cf ys (ys.length-1)).natAbs:Nat):Int)*RM.cf (aT xs ys i).2 n):=by
      have:=hs.mul (h2.cf n);rwa [Nat.add_comm] at this
     refine m1.sub ?_
     by_cases hp:(xs.length+1-ys.length-1-i)<=n
     ·rw [if_pos hp]
      exact (km (h2.cf _)).mul (hy.cf _)
     ·rw [if_neg hp];exact Bits.zero
    ·rw [if_neg hn];exact Bits.zero
theorem iX {k:Nat} {b:Int} (h:Bits k b):∀ n,Bits (k*n+1) (b^n)
 | 0=>by show ((b^0:Int)).natAbs<2^(k*0+1);rw [Int.pow_zero,Nat.mul_zero];decide
 | n+1=>by
   rw [Int.pow_succ]
   have:=(iX h n).mul h
   exact this.mono (by rw [Nat.mul_succ];omega)
def FD (H:Hp) (Q:VK) (xs ys:List Int):Prop:=∀ (t q r:Addr) (H':Hp),Same H H'->H t=none->H q=none->H r=none->q≠r->q≠t->r≠t->H' t=some (.tup [.int (ca xs ys),.ref q,.ref r])->H' q=some (.lst ((bZ xs ys).map V.int))->H' r=some (.lst ((aN xs ys).map V.int))->Q (.ref t) H'
def kf:Sp:=fun vs H Q _=>∃ (a b:Addr) (xs ys:List Int) (n:Nat),vs=[.ref a,.ref b]/\H a=some (.lst (xs.map V.int))/\H b=some (.lst (ys.map V.int))/\ys≠[]/\AllB n xs/\AllB n ys/\(xs.length+2)*(n+1)<=1000000/\ys.length<=1000000/\FD H Q xs ys
theorem um {l:List Int} (h:l≠[]):atI (l.map V.int) (-1)=some (.int (cf l (l.length-1))):=by
 obtain ⟨r,x,rfl⟩:=(cK l).resolve_left h
 have e:(r++[x]).length-1=r.length:=by simp
 rw [e,jQ,List.map_append];exact ur _ _
theorem EN {f:Addr} {fd:FuncData} (F:Fun K "divided" "divided" qh f fd) (T:Txt K mg) {iM:Addr} {iH:FuncData} (jd:Cal P w K mg base 1 "whole_sign" ["value"] kd iM iH) {gd:Addr} {ga:FuncData} (gz:Cal P w K mg base 1 "degree" ["row"] jo gd ga) {Jg:Addr} {Il:FuncData} (LZ:Cal P w K mg base 1 "scaled" ["row","factor"] wf Jg Il) {Jr:Addr} {IA:FuncData} (Md:Cal P w K mg base 1 "lowered" ["row","second","place","lead"] wA Jr IA) {iN:Addr} {iI:FuncData} (je:Cal P w K mg base 1 "poly" ["row"] (ka K) iN iI):FnOk P w K mg base CX0 2 f fd ["first","second"] kf:=by
 obtain ⟨i9,iq,iy,iY⟩:=jd
 obtain ⟨dO,dG,dJ,dN⟩:=gz
 obtain ⟨AT,yL,yZ,AC⟩:=LZ
 obtain ⟨Ly,Gi,G9,Kz⟩:=Md
 obtain ⟨ja,ir,iz,iZ⟩:=je
 refine F.ok sc_divided (fun vs H Q E h=>?_) (fun cdv A outer s H vs Q E hr h=>?_)
 ·obtain ⟨a,b,xs,ys,n,rfl,_⟩:=h
  rfl
 ·obtain ⟨a,b,xs,ys,nb,rfl,hA,hB,hy,bx,by',hsz,hyn,k⟩:=h
  have big:=sizeLine_eq
  have hu:=hr.units
  have hyl:=List.length_pos_iff.mpr hy
  have hxl:xs.length<=1000000:=by
   have:=Nat.mul_le_mul_left (xs.length+2) (show 1<=nb+1 by omega)
   omega
  have bsz:∀ i,i<=xs.length->nb+i*(nb+1)<=1000000:=fun i hi=>by
   have h1:=Nat.mul_le_mul_right (nb+1) hi
   rw [Nat.add_mul] at hsz
   omega
  have hnb:nb<=1000000:=by have:=bsz 0 (Nat.zero_le _);omega
  refine ⟨_,(ah (aQ (aH (jB (K:=K) rfl hu) (pv 1) (aZ ac) (aE _))
   (al ie)
   aR)
   (ah (ap (i:=2) sc_divided.nd rfl (Or.inl rfl) (bT gn (by rfl) T.abs_ PyProof.Rows.boot_abs (aa (aG (ck (K:=K) rfl) (pv 1) (bQ bM ad) (fun _ _=>rfl)) ac)))
   (ah (ap (i:=3) sc_divided.nd rfl (Or.inl rfl) (aq i9 (hr.mono) rfl iq iy iY .nil aj (aa (aG (ck (K:=K) rfl) (pv 1) (bQ bM ad) (fun _ _=>rfl)) ac)))
   (ah (ap (i:=4) sc_divided.nd rfl (Or.inl rfl) (ai bj (ai b7 (aq dO (hr.mono) rfl dG dJ dN .nil aj (aa (pv 0) ac)) (aq dO (hr.mono) rfl dG dJ dN .nil aj (aa (pv 1) ac))) ad))
   (ah (ap (i:=5) sc_divided.nd rfl (Or.inl rfl) ad)
   (ah (ap (i:=6) sc_divided.nd rfl (Or.inl rfl) (ai rh (aZ (aa ad ac)) (pv 4)))
   (ah (ap (i:=7) sc_divided.nd rfl (Or.inl rfl) (io (tY (K:=K) rfl) (by rfl) T.list_ PyProof.Rows.boot_list (aa (pv 0) ac)))
   (ah (cZ PassesOwn.never rfl (xW rfl T.range_ (aa (ai b7 (pv 4) ad) (aa (bQ bM ad) (aa (bQ bM ad) ac)))) (aW (i:=8) sc_divided.nd rfl (Or.inl rfl))
     (ah (ap (i:=9) sc_divided.nd rfl (Or.inl rfl) (ai aI (pv 3) (aG (ck (K:=K) rfl) (pv 7) (bQ bM ad) (fun _ _=>rfl))))
       (ah (ap (i:=5) sc_divided.nd rfl (Or.inl rfl) (ai aI (pv 5) (pv 2)))
       (ah (ap (i:=6) sc_divided.nd rfl (Or.inl rfl) (aq AT (hr.mono) rfl yL yZ AC .nil aj (aa (pv 6) (aa (pv 2) ac))))
       (ah (fQ (pv 9) (kG (pv 6) (pv 8) kn))
       (al (ap (i:=7) sc_divided.nd rfl (Or.inl rfl) (aq Ly (hr.mono) rfl Gi G9 Kz .nil aj (aa (aq AT (hr.mono) rfl yL yZ AC .nil aj (aa (pv 7) (aa (pv 2) ac))) (aa (pv 1) (aa (pv 8) (aa (pv 9) ac))))))))))))
   (al (aB (db (aa (pv 5) (aa (pv 6) (aa (aq ja (hr.mono) rfl ir iz iZ .nil aj (aa (pv 7) ac)) ac)))))))))))))),?_⟩
  refine bz ⟨_,rfl,Nat.zero_le _,fun p1 hp1=>?_⟩
  have s1:Same H (upd H p1 (.lst [])):=Same.upd_new hp1
  refine ⟨b,p1,ys,[],rfl,rfl,SqL.of (s1 _ _ hB),SqL.of au,_,rfl,aL (fun h0=>absurd h0 hy) (fun _=>?_)⟩
  generalize upd H p1 (.lst [])=H1 at s1 ⊢
  refine aA ⟨_,rfl,_,rfl,b,_,_,_,rfl,rfl,SqL.of (s1 _ _ hB),um hy,_,rfl,?_⟩
  rw [lT]
  refine aA ⟨_,rfl,_,rfl,b,_,_,_,rfl,rfl,SqL.of (s1 _ _ hB),um hy,_,rfl,?_⟩
  refine aA ⟨_,rfl,a,_,rfl,s1 _ _ hA,_,rfl,b,_,rfl,s1 _ _ hB,_,_,rfl,rfl,_,_,rfl,rfl,?_⟩
  dsimp only
  rw [List.length_map,List.length_map]
  have est:((xs.length:Int)-1-((ys.length:Int)-1)+1).toNat=aY xs ys:=by unfold aY;omega
  generalize hst:((xs.length:Int)-1-((ys.length:Int)-1)+1)=st at est ⊢
  refine aA ?_
  refine aA ⟨by show 1<=sizeLine;decide,fun p2 hp2=>⟨_,rfl,p2,_,_,rfl,rfl,au,by omega,by omega,by show 1*_<=_;omega,fun q hq=>?_⟩⟩
  rw [est,qQ]
  have s2:=s1.then_new (o:=.lst [V.int 0]) hp2
  have s3:=s2.then_new (o:=.lst ((List.replicate (aY xs ys) (0:Int)).map V.int)) hq
  have fq:H q=none:=s2.free hq
  refine aA ⟨_,rfl,a,_,rfl,.inl (SqL.of (s3 _ _ hA)),fun r hr'=>?_⟩
  have hq3:upd (upd H1 p2 (.lst [V.int 0])) q (.lst ((List.replicate (aY xs ys) (0:Int)).map V.int)) q=some (.lst ((List.replicate (aY xs ys) (0:Int)).map V.int)):=au
  have s4:=s3.then_new (o:=.lst (xs.map V.int)) hr'
  have fr:H r=none:=s3.free hr'
  have nqr:q≠r:=aX hq3 hr'
  generalize hH4:upd (upd (upd H1 p2 (.lst [V.int 0])) q (.lst ((List.replicate (aY xs ys) (0:Int)).map V.int))) r (.lst (xs.map V.int))=H4 at s4 ⊢
  have hq4:H4 q=some (.lst ((List.replicate (aY xs ys) (0:Int)).map V.int)):=by rw [<- hH4,upd_ne nqr];exact hq3
  have hr4:H4 r=some (.lst (xs.map V.int)):=by rw [<- hH4,au]
  have hs:Bits nb (((cf ys (ys.length-1)).natAbs:Nat):Int):=uv (by'.cf _)
  refine ⟨_,rfl,_,_,rfl,rfl,_,rfl,_,rfl,st-1,-1,rfl,by omega,?_⟩
  have en:(st-1 - -1).toNat=aY xs ys:=by rw [<- est];congr 1;omega
  rw [en]
  refine zv (fun i σ' H'=>∃ (q r:Addr) (z8 z9:Option V),σ'=[some (.ref a),some (.ref b),some (.int ((cf ys (ys.length-1)).natAbs:Nat)),some (.int (sg (cf ys (ys.length-1)))),some (.int st),some (.int (((cf ys (ys.length-1)).natAbs:Int)^i)),some (.ref q),some (.ref r),z8,z9]/\Same H H'/\H q=none/\H r=none/\q≠r/\H' q=some (.lst ((aT xs ys i).1.map V.int))/\H' r=some (.lst ((aT xs ys i).2.map V.int)))
   ⟨q,r,none,none,rfl,s4,fq,fr,nqr,hq4,hr4⟩ ?_ ?_
  ·rintro i σ' H' hi ⟨q,r,z8,z9,rfl,sm,fq,fr,nqr,hq',hr'⟩
   obtain ⟨lq,lr,low,_⟩:=iT (a:=xs) hy i (Nat.le_of_lt hi)
   obtain ⟨bq,br⟩:=zP bx by' i
   have hix:i<xs.length:=by unfold aY at hi;omega
   have bi:=bsz i (Nat.le_of_lt hix)
   have rne:(aT xs ys i).2≠[]:=fun z=>by rw [z] at lr;simp at lr;omega
   have ep:st-1+(i:Int) * -1=((xs.length+1-ys.length-1-i:Nat):Int):=by unfold aY at hi est;omega
   refine aA ⟨_,rfl,_,rfl,_,rfl,r,_,_,_,rfl,rfl,SqL.of hr',um rne,_,_,rfl,rfl,⟨sg_bits.mono,(br.cf _).mono bi⟩,?_⟩
   have bpow:Bits 1000000 (((cf ys (ys.length-1)).natAbs:Int)^i):=(iX hs i).mono (by
    have:=Nat.mul_le_mul_right i (show nb<=nb+1 by omega)
    rw [Nat.mul_comm (nb+1) i] at this
    have h2:=bsz (i+1) hix
    rw [Nat.succ_mul] at h2
    omega)
   refine aA ⟨_,rfl,_,rfl,_,_,rfl,rfl,⟨bpow,hs.mono hnb⟩,?_⟩
   dsimp only
   rw [<- Int.pow_succ]
   refine aA ⟨_,rfl,_,rfl,q,_,_,rfl,hq',by rw [lq];omega,hs.mono hnb,bq.mono bi,fun q1 H2 sm2 hq1 eq1=>?_⟩
   have fq1:H q1=none:=sm.free hq1
   have sm2':=sm.trans sm2
   have hpl:xs.length+1-ys.length-1-i<(scL ((cf ys (ys.length-1)).natAbs:Int) (aT xs ys i).1).length:=by rw [b9,lq];unfold aY at hi;omega
   refine ⟨_,rfl,_,rfl,_,rfl,q1,_,_,_,rfl,rfl,eq1,lc ep (by rw [List.length_map];exact hpl),?_⟩
   rw [nJ]
   have sm3:Same H (upd H2 q1 (.lst (((scL ((cf ys (ys.length-1)).natAbs:Int) (aT xs ys i).1).set (xs.length+1-ys.length-1-i) (sg (cf ys (ys.length-1))*cf (aT xs ys i).2 ((aT xs ys i).2.length-1))).map V.int))):=fT sm2' fq1
   have nq1r:q1≠r:=fun z=>by rw [z,hr'] at hq1;cases hq1
   have hr3:upd H2 q1 (.lst (((scL ((cf ys (ys.length-1)).natAbs:Int) (aT xs ys i).1).set (xs.length+1-ys.length-1-i) (sg (cf ys (ys.length-1))*cf (aT xs ys i).2 ((aT xs ys i).2.length-1))).map V.int)) r=some (.lst ((aT xs ys i).2.map V.int)):=by rw [upd_ne (Ne.symm nq1r)];exact sm2 _ _ hr'
   have hq3:upd H2 q1 (.lst (((scL ((cf ys (ys.length-1)).natAbs:Int) (aT xs ys i).1).set (xs.length+1-ys.length-1-i) (sg (cf ys (ys.length-1))*cf (aT xs ys i).2 ((aT xs ys i).2.length-1))).map V.int)) q1=some (.lst (((scL ((cf ys (ys.length-1)).natAbs:Int) (aT xs ys i).1).set (xs.length+1-ys.length-1-i) (sg (cf ys (ys.length-1))*cf (aT xs ys i).2 ((aT xs ys i).2.length-1))).map V.int)):=au
   generalize upd H2 q1 (.lst (((scL ((cf ys (ys.length-1)).natAbs:Int) (aT xs ys i).1).set (xs.length+1-ys.length-1-i) (sg (cf ys (ys.length-1))*cf (aT xs ys i).2 ((aT xs ys i).2.length-1))).map V.int))=H3 at sm3 hr3 hq3 ⊢
   refine ⟨_,rfl,_,rfl,r,_,_,rfl,hr3,by rw [lr];omega,hs.mono hnb,br.mono bi,fun r1 H5 sm5 hr1 er1=>?_⟩
   have sm35:=sm3.trans sm5
   refine ⟨_,rfl,_,rfl,_,rfl,r1,b,_,_,(xs.length+1-ys.length-1-i),sg (cf ys (ys.length-1))*cf (aT xs ys i).2 ((aT xs ys i).2.length-1),?_,er1,sm35 _ _ hB,?_,hy,(km (br.cf _)).mono bi,by'.mono hnb,fun r2 H6 sm6 hr2 er2=>?_⟩
   ·rw [<- ep];rfl
   ·rw [b9,lr];unfold aY at hi;omega
   ·have nqr2:q1≠r2:=fun z=>by rw [<- z,sm5 _ _ hq3] at hr2;cases hr2
    exact ⟨q1,r2,_,_,rfl,sm35.trans sm6,fq1,sm35.free hr2,nqr2,sm6 _ _ (sm5 _ _ hq3),er2⟩
  ·rintro σ' H' ⟨q,r,z8,z9,rfl,sm,fq,fr,nqr,hq',hr'⟩
   refine ⟨_,rfl,_,rfl,_,rfl,r,_,rfl,SqL.of hr',fun r1 H2 sm2 hr1 er1=>⟨by show 3<=sizeLine;decide,fun t ht=>?_⟩⟩
   have nqr1:q≠r1:=fun z=>by rw [<- z,hq'] at hr1;cases hr1
   have ntq:q≠t:=aX (sm2 _ _ hq') ht
   have ntr:r1≠t:=aX er1 ht
   refine k t q r1 _ ((sm.trans sm2).then_new ht) ((sm.trans sm2).free ht) fq (sm.free hr1) nqr1 ntq ntr au ?_ ?_
   ·rw [upd_ne ntq];exact sm2 _ _ hq'
   ·rw [upd_ne ntr];exact er1
def Vp (C:Addr) (H:Hp) (vs:List V) (a r:Addr) (ns:List Int) (t b:Int):Prop:=vs=[.ref a,.ref r]/\H a=some (.lst (ns.map V.int))/\RA C H r t b/\ns.length<=20/\AllB 95000 ns/\Bits 3000 t/\Bits 3000 b
def VpI (H:Hp) (vs:List V) (a:Addr) (ns:List Int) (t b:Int):Prop:=vs=[.ref a,.int t,.int b]/\H a=some (.lst (ns.map V.int))/\ns.length<=20/\AllB 95000 ns/\Bits 3000 t/\Bits 3000 b
def v3:Sp:=fun vs H Q _=>∃ (a:Addr) (ns:List Int) (t b:Int),VpI H vs a ns t b/\∀ (p:Addr) (H':Hp),Same H H'->H p=none->H' p=some (.tup [.int (hv t b ns),.int (b^ns.length)])->Q (.ref p) H'
theorem zn {t b:Int} (bt:Bits 3000 t) (bb:Bits 3000 b):∀ {l:List Int},AllB 95000 l->Bits (95000+1+(3000+1)*l.length) (hv t b l)
 | [],_=>by refine Bits.mono (j:=1) ?_ (by omega);show (0:Int).natAbs<2^1;decide
 | v::l,h=>by
   rw [dz]
   have h1:=h v (List.mem_cons_self ..)
   have h2:=zn bt bb (l:=l) fun x hx=>h x (List.mem_cons_of_mem _ hx)
   have e1:=(h1.mul (iX bb (l.length+1))).mono (k:=95000+1+(3000+1)*l.length+3000) (by omega)
   have e2:=(bt.mul h2).mono (k:=95000+1+(3000+1)*l.length+3000) (by omega)
   exact (e1.add e2).mono (by rw [List.length_cons];omega)
theorem D7 {f:Addr} {fd:FuncData} (F:Fun K "value_parts" "value_parts" pe f fd) (T:Txt K mg):FnOk P w K mg base CX0 1 f fd ["row","top","bottom"] v3:=by
 refine F.ok sc_value_parts (fun vs H Q E h=>?_) (fun cdv A outer s H vs Q E hr h=>?_)
 ·obtain ⟨a,ns,t,b,⟨rfl,_⟩,_⟩:=h
  rfl
 ·obtain ⟨a,ns,t,b,⟨rfl,hA,hn,hb,bt,bb⟩,k⟩:=h
  refine ⟨_,(ah (ap (i:=3) sc_value_parts.nd rfl (Or.inl rfl) ad)
   (ah (ap (i:=4) sc_value_parts.nd rfl (Or.inl rfl) ad)
   (ah (cZ PassesOwn.never rfl (qY rfl T.reversed_ (aa (pv 0) ac)) (aW (i:=5) sc_value_parts.nd rfl (Or.inl rfl))
     (ah (ap (i:=4) sc_value_parts.nd rfl (Or.inl rfl) (ai aI (pv 4) (pv 2)))
       (al (ap (i:=3) sc_value_parts.nd rfl (Or.inl rfl) (ai bj (ai aI (pv 3) (pv 1)) (ai aI (pv 5) (pv 4)))))))
   (al (aB (db (aa (pv 3) (aa (pv 4) ac)))))))),?_⟩
  have hl:(ns.map V.int).length=ns.length:=List.length_map _
  refine aA ?_
  refine aA ?_
  refine ⟨_,rfl,a,_,rfl,SqL.of hA,sD (K:=K) (a:=a) (xs:=ns.map V.int) (fun i σ' H'=>∃ z:Option V,σ'=[some (.ref a),some (.int t),some (.int b),some (.int (hv t b (ns.drop (ns.length-i)))),some (.int (b^i)),z]/\H=H') ⟨none,?_,rfl⟩ ?_ ?_ ?_⟩
  ·rw [Nat.sub_zero,List.drop_length,Int.pow_zero];rfl
  ·rintro i σ' H' _ ⟨z,rfl,rfl⟩
   exact SqL.of hA
  ·rintro i x σ' H' hi hx ⟨z,rfl,rfl⟩
   rw [hl] at hi hx
   obtain ⟨c,ec,rfl,hc,_⟩:=gJ hx
   have hi':i<ns.length:=hi
   have e1:ns.length-(i+1)=ns.length-1-i:=by omega
   have hd:=JT t b (l:=ns) (n:=ns.length-1-i) (by omega)
   have e2:ns.length-1-i+1=ns.length-i:=by omega
   have e3:ns.length-(ns.length-1-i)=i+1:=by omega
   rw [e2,e3,Ao ec] at hd
   have bs:=zn bt bb (l:=ns.drop (ns.length-i)) fun x hx=>hb x (List.mem_of_mem_drop hx)
   rw [List.length_drop] at bs
   have bp:=iX bb i
   have bq:=iX bb (i+1)
   refine ⟨_,rfl,_,rfl,_,_,rfl,rfl,⟨bp.mono (by omega),bb.mono⟩,?_⟩
   refine ⟨_,rfl,_,rfl,_,_,rfl,rfl,⟨bs.mono (by omega),bt.mono⟩,_,rfl,_,rfl,_,_,rfl,rfl,⟨(hb c hc).mono,?_⟩,_,_,rfl,rfl,?_⟩
   ·show Bits 1000000 (b^i*b)
    rw [<- Int.pow_succ];exact bq.mono (by omega)
   refine ⟨some (.int c),?_,rfl⟩
   rw [e1,hd,Int.pow_succ b i,Int.add_comm,Int.mul_comm t]
   rfl
  ·rintro σ' H' ⟨z,rfl,rfl⟩
   rw [hl,Nat.sub_self,List.drop_zero]
   exact ⟨_,rfl,_,rfl,by show 2<=sizeLine;decide,fun p hp=>k p _ (Same.upd_new hp) hp au⟩
def g6 (C:Addr):Sp:=fun vs H Q _=>∃ (a r:Addr) (ns:List Int) (t b:Int),Vp C H vs a r ns t b/\∀ H',Same H H'->Q (.int (sg (hv t b ns))) H'
theorem Eh {C f:Addr} {fd:FuncData} (F:Fun K "sign_at" "sign_at" pG f fd) (T:Txt K mg) (R:RCI K mg C) {I0:Addr} {Ic:FuncData} (LR:Cal P w K mg base 1 "value_parts" ["row","top","bottom"] v3 I0 Ic) {iM:Addr} {iH:FuncData} (jd:Cal P w K mg base 1 "whole_sign" ["value"] kd iM iH):FnOk P w K mg base CX0 2 f fd ["row","ratio"] (g6 C):=by
 obtain ⟨Ld,FQ,GR,Kh⟩:=LR
 obtain ⟨i9,iq,iy,iY⟩:=jd
 refine F.ok Cq (fun vs H Q E h=>?_) (fun cdv A outer s H vs Q E hr h=>?_)
 ·obtain ⟨a,r,ns,t,b,⟨rfl,_⟩,_⟩:=h
  rfl
 ·obtain ⟨a,r,ns,t,b,hV,k⟩:=h
  obtain ⟨rfl,hA,⟨dx,hR⟩,hn,hbs,bt,bb⟩:=hV
  refine ⟨_,(al (aB (aq i9 (hr.mono) rfl iq iy iY .nil aj (aa (aG (aS (K:=K) rfl) (aq Ld (hr.mono) rfl FQ GR Kh .nil aj (aa (pv 0) (aa (aO (K:=K) rfl (pv 1) rfl) (aa (aO (K:=K) rfl (pv 1) rfl) ac)))) ad (fun _ _=>rfl)) ac)))),?_⟩
  refine ⟨_,rfl,_,rfl,r,C,dx,_,_,rfl,hR,R.cl,R.nT,cR _ _,_,rfl,r,C,dx,_,_,rfl,hR,R.cl,R.nB,bX _ _,a,ns,t,b,⟨rfl,hA,hn,hbs,bt,bb⟩,fun p H1 s1 hp e1=>?_⟩
  exact ⟨p,_,_,_,rfl,rfl,SqT.of e1,rfl,_,rfl,k H1 s1⟩
theorem b60:Bits 200 (10^60):=by show ((10:Int)^60).natAbs<2^200;decide +kernel
theorem uo {xs:List V} {n:Int} (hn:n=xs.length) (h:0<n) (c:Int):∃ v,v∈xs/\atI xs (c%n)=some v:=by
 have h1:=Int.emod_nonneg c (Int.ne_of_gt h)
 have h2:=Int.emod_lt_of_pos c h
 obtain ⟨j,hj⟩:=Int.eq_ofNat_of_zero_le h1
 have hl:j<xs.length:=by omega
 refine ⟨xs[j],List.getElem_mem hl,?_⟩
 rw [hj]
 exact jU (by simp [hl])
def Fit (one other:List Int):Prop:=Tr one/\Tr other/\∃ n,AllB n one/\AllB n other/\(one.length+2)*(n+1)<=1000000/\other.length<=1000000
def Run:Nat->List Int->List Int->Prop
 | 0,one,_=>one=[]
 | n+1,one,other=>one=[]\/(Fit one other/\Run n other (nxt one other))
def yG (H:Hp) (Q:VK) (xss:List (List Int)):Prop:=∀ (l:Addr) (ps:List Addr) (H':Hp),Same H H'->H l=none->(∀ p∈ps,H p=none/\p≠l)->H' l=some (.lst (ps.map V.ref))->RwH H' ps xss->Q (.ref l) H'
theorem RwH.upd_ne {H:Hp} {ps:List Addr} {xss:List (List Int)} {a:Addr} {o:HO} (h:RwH H ps xss) (hn:∀ p∈ps,p≠a):RwH (upd H a o) ps xss:=⟨h.1,fun i p xs e1 e2=>by rw [L2.upd_ne (hn p (List.mem_of_getElem? e1))];exact h.2 i p xs e1 e2⟩
def wg:Sp:=fun vs H Q _=>∃ (a b:Addr) (xs ys:List Int) (n:Nat),vs=[.ref a,.ref b]/\H a=some (.lst (xs.map V.int))/\H b=some (.lst (ys.map V.int))/\Tr xs/\Tr ys/\xs.length<=1000/\ys.length<=1000/\n<=1000/\Run n (ar xs) (ar ys)/\yG H Q (bC n (ar xs) (ar ys))
theorem En {f:Addr} {fd:FuncData} (F:Fun K "row_from" "row_from" pL f fd) (T:Txt K mg) {sX:Addr} {sH:FuncData} (uO:Cal P w K mg base 33 "shrunk" ["row"] oP sX sH) {iP:Addr} {iK:FuncData} (jg:Cal P w K mg base 2 "divided" ["first","second"] kf iP iK) {I9:Addr} {Id:FuncData} (LS:Cal P w K mg base 2 "taken" ["first","second"] (mG K cG) I9 Id):FnOk P w K mg base CX0 34 f fd ["first","second"] wg:=by
 obtain ⟨lX,kP,kY,lH⟩:=uO
 obtain ⟨jb,iu,iA,i6⟩:=jg
 obtain ⟨Le,FR,GS,Ki⟩:=LS
 refine F.ok sc_row_from (fun vs H Q E h=>?_) (fun cdv A outer s H vs Q E hr h=>?_)
 ·obtain ⟨a,b,xs,ys,n,rfl,_⟩:=h
  rfl
 ·obtain ⟨a,b,xs,ys,n,rfl,hA,hB,xtr,ytr,hx,hy,hn,hrun,k⟩:=h
  have big:=sizeLine_eq
  have hu:=hr.units
  refine ⟨_,(ah (ap (i:=2) sc_row_from.nd rfl (Or.inl rfl) (aZ ac))
   (ah (ap (i:=3) sc_row_from.nd rfl (Or.inl rfl) (aq lX (hr.mono) rfl kP kY lH .nil aj (aa (pv 0) ac)))
   (ah (ap (i:=4) sc_row_from.nd rfl (Or.inl rfl) (aq lX (hr.mono) rfl kP kY lH .nil aj (aa (pv 1) ac)))
   (ah (fO PassesOwn.never (aH (kI (K:=K) rfl hu) (pv 3) (aZ ac) (aE _))
     (ah (gE (kH PySem.F.plainAttrs_list PySem.F.slot_list_append PySem.F.type_list_append kM (pv 2) (aa (pv 3) ac)))
       (ah (ap (i:=5) sc_row_from.nd rfl (Or.inl rfl) (rc (aH (jB (K:=K) rfl hu) (pv 4) (aZ ac) (aE _)) (aZ ac) (aG (aS (K:=K) rfl) (aq jb (hr.mono) rfl iu iA i6 .nil aj (aa (pv 3) (aa (pv 4) ac))) ad (fun _ _=>rfl))))
       (ah (ap (i:=3) sc_row_from.nd rfl (Or.inl rfl) (pv 4))
       (al (ap (i:=4) sc_row_from.nd rfl (Or.inl rfl) (aq lX (hr.mono) rfl kP kY lH .nil aj (aa (aq Le (hr.mono) rfl FR GS Ki .nil aj (aa (aZ ac) (aa (pv 5) ac))) ac))))))))
   (al (aB (pv 2))))))),?_⟩
  refine aA ⟨Nat.zero_le _,fun l hl=>?_⟩
  have s1:=Same.upd_new (o:=.lst []) hl
  have hl1:upd H l (.lst []) l=some (.lst (([]:List Addr).map V.ref)):=au
  generalize upd H l (.lst [])=H1 at s1 hl1 ⊢
  refine aA ⟨_,rfl,a,xs,rfl,s1 _ _ hA,xtr,by omega,fun p1 H2 sm2 hp1 e1=>?_⟩
  have s2:=s1.trans sm2
  refine aA ⟨_,rfl,b,ys,rfl,s2 _ _ hB,ytr,by omega,fun p2 H3 sm3 hp2 e2=>?_⟩
  have s3:=s2.trans sm3
  have n1l:p1≠l:=fun z=>by rw [z,hl1] at hp1;cases hp1
  have n2l:p2≠l:=fun z=>by rw [z,sm2 _ _ hl1] at hp2;cases hp2
  generalize ar xs=one' at hrun k e1
  generalize ar ys=other at hrun k e2
  refine ⟨fun m σ' H'=>∃ (po pt:Addr) (one other':List Int) (ps:List Addr) (acc:List (List Int)) (z5:Option V),σ'=[some (.ref a),some (.ref b),some (.ref l),some (.ref po),some (.ref pt),z5]/\Same H H'/\H' l=some (.lst (ps.map V.ref))/\RwH H' ps acc/\(∀ p∈ps,H p=none/\p≠l)/\H' po=some (.lst (one.map V.int))/\H' pt=some (.lst (other'.map V.int))/\H po=none/\H pt=none/\po≠l/\pt≠l/\Run m one other'/\acc++bC m one other'=bC n one' other/\ps.length+m<=1000,
   ⟨_,p1,p2,one',other,[],[],none,rfl,s3,sm3 _ _ (sm2 _ _ hl1),RwH.nil,(fun p hp=>nomatch hp),sm3 _ _ e1,e2,s1.free hp1,s2.free hp2,n1l,n2l,hrun,rfl,by show 0+n<=1000;omega⟩,?_⟩
  rintro m σ' H4 ⟨po,pt,one,other',ps,acc,z5,rfl,s4,hl4,hR4,hf4,ho4,ht4,fo,ft,nol,ntl,hrun4,hacc,hlen⟩
  refine ⟨_,rfl,Nat.zero_le _,fun q hq=>?_⟩
  have t5:=Same.upd_new (o:=.lst []) hq
  refine ⟨po,q,one,[],rfl,rfl,SqL.of (t5 _ _ ho4),SqL.of au,_,rfl,dq (fun hne=>?_) (fun he=>?_)⟩
  rotate_left
  ·have he':one=[]:=he
   subst he'
   rw [kq,List.append_nil] at hacc
   refine ⟨_,rfl,k l ps _ (s4.trans t5) hl hf4 (t5 _ _ hl4) ?_⟩
   rw [<- hacc]
   exact hR4.same t5
  have hne':one≠[]:=hne
  obtain ⟨m1,rfl⟩:∃ m1,m=m1+1:=by
   cases m with
   | zero=>exact absurd hrun4 hne'
   | succ m1=>exact ⟨m1,rfl⟩
  obtain ⟨⟨otr,ttr,nb,bo,bt,hsz,htl⟩,hrun5⟩:=(show one=[]\/(Fit one other'/\Run m1 other' (nxt one other')) from hrun4).resolve_left hne'
  have hacc5:(acc++[one])++bC m1 other' (nxt one other')=bC n one' other:=by
   rw [<- hacc]
   show _=acc++(if one=[] then [] else one::bC m1 other' (nxt one other'))
   rw [if_neg hne',List.append_assoc];rfl
  generalize hH5:upd H4 q (.lst [])=H5 at t5 ⊢
  refine ⟨fun σ'' H''=>∃ m',m'<m1+1/\∃ (po pt:Addr) (one other':List Int) (ps:List Addr) (acc:List (List Int)) (z5:Option V),σ''=[some (.ref a),some (.ref b),some (.ref l),some (.ref po),some (.ref pt),z5]/\Same H H''/\H'' l=some (.lst (ps.map V.ref))/\RwH H'' ps acc/\(∀ p∈ps,H p=none/\p≠l)/\H'' po=some (.lst (one.map V.int))/\H'' pt=some (.lst (other'.map V.int))/\H po=none/\H pt=none/\po≠l/\pt≠l/\Run m' one other'/\acc++bC m' one other'=bC n one' other/\ps.length+m'<=1000,fun _ _ h=>h,?_⟩
  have hl5:=t5 _ _ hl4
  refine ju ⟨_,rfl,.inl ⟨rfl,_,SqL.of hl5⟩,_,rfl,l,_,_,rfl,rfl,hl5,by rw [List.length_map];omega,?_⟩
  rw [FK]
  have s6:Same H (upd H5 l (.lst ((ps++[po]).map V.ref))):=fT (s4.trans t5) hl
  have hl6:upd H5 l (.lst ((ps++[po]).map V.ref)) l=some (.lst ((ps++[po]).map V.ref)):=au
  have hf6:∀ p∈ps++[po],H p=none/\p≠l:=fun p hp=>by
   rcases List.mem_append.mp hp with h | h
   ·exact hf4 p h
   ·rw [List.mem_singleton.mp h];exact ⟨fo,nol⟩
  have hR6:RwH (upd H5 l (.lst ((ps++[po]).map V.ref))) (ps++[po]) (acc++[one]):=((hR4.same t5).snoc (t5 _ _ ho4)).upd_ne fun p hp=>(hf6 p hp).2
  have ho6:upd H5 l (.lst ((ps++[po]).map V.ref)) po=some (.lst (one.map V.int)):=by rw [L2.upd_ne nol];exact t5 _ _ ho4
  have ht6:upd H5 l (.lst ((ps++[po]).map V.ref)) pt=some (.lst (other'.map V.int)):=by rw [L2.upd_ne ntl];exact t5 _ _ ht4
  generalize upd H5 l (.lst ((ps++[po]).map V.ref))=H6 at s6 hl6 hR6 ho6 ht6 ⊢
  refine Dh (fun σ' H'=>∃ pr:Addr,σ'=[some (.ref a),some (.ref b),some (.ref l),some (.ref po),some (.ref pt),some (.ref pr)]/\Same H6 H'/\H' pr=some (.lst ((rst one other').map V.int))) ?_ ?_
  case refine_2 =>
   intro rest
   refine cO (Dg ⟨_,rfl,Nat.zero_le _,fun q2 hq2=>?_⟩)
   have t7:=Same.upd_new (o:=.lst []) hq2
   refine ⟨pt,q2,other',[],rfl,rfl,SqL.of (t7 _ _ ht6),SqL.of au,_,rfl,aL (fun h0=>?_) (fun h0=>?_)⟩
   ·have h0':other'=[]:=h0
    refine ⟨Nat.zero_le _,fun q3 hq3=>rest _ _ ⟨q3,rfl,t7.then_new hq3,?_⟩⟩
    rw [au];unfold rst;rw [if_pos h0'];rfl
   ·have h0':other'≠[]:=h0
    refine ⟨_,rfl,_,rfl,po,pt,one,other',nb,rfl,t7 _ _ ho6,t7 _ _ ht6,h0',bo,bt,hsz,htl,fun t q' r H8 sm8 _ _ _ _ _ _ et _ er=>?_⟩
    refine ⟨t,_,_,_,rfl,rfl,SqT.of et,rfl,rest _ _ ⟨r,rfl,t7.trans sm8,?_⟩⟩
    rw [er];unfold rst;rw [if_neg h0']
  rintro σ' H8 ⟨pr,rfl,t8,hr8⟩
  refine aA ⟨_,rfl,?_⟩
  refine cO ⟨Nat.zero_le _,fun q hq=>?_⟩
  have t9:=t8.then_new (o:=.lst []) hq
  have hrl:(rst one other').length<=1000000:=by
   unfold rst
   split
   ·exact Nat.zero_le _
   ·rename_i h0
    have:=gf (a:=one) h0
    omega
  refine ⟨_,rfl,q,pr,[],rst one other',rfl,SqL.of au,SqL.of (by rw [L2.upd_ne (aX hr8 hq)];exact hr8),Nat.zero_le _,hrl,fun p9 H9 sm9 hp9 e9=>?_⟩
  have hsl:(cG [] (rst one other')).length<=1000000:=Nat.le_trans (rS _) (by unfold dI;rw [List.length_map,List.length_range];exact Nat.max_le.mpr ⟨Nat.zero_le _,hrl⟩)
  refine ⟨p9,_,rfl,e9,fj _,hsl,fun p10 H10 sm10 hp10 e10=>?_⟩
  have t10:Same H6 H10:=(t9.trans sm9).trans sm10
  have f10:H6 p10=none:=(t9.trans sm9).free hp10
  refine ⟨m1,Nat.lt_succ_self _,pt,p10,other',nxt one other',ps++[po],acc++[one],_,rfl,s6.trans t10,t10 _ _ hl6,hR6.same t10,hf6,t10 _ _ ht6,e10,ft,s6.free f10,ntl,(fun z=>by rw [z,hl6] at f10;cases f10),hrun5,hacc5,by rw [List.length_append];show ps.length+1+m1<=1000;omega⟩
def mC:Sp:=fun vs H Q _=>∃ (a:Addr) (xs:List Int) (n:Nat),vs=[.ref a]/\H a=some (.lst (xs.map V.int))/\Tr xs/\AllB 90000 xs/\xs.length<=1000/\n<=1000/\Run n (ar xs) (ar (slopeL xs))/\yG H Q (bC n (ar xs) (ar (slopeL xs)))
theorem vv {xs:List Int} (h:Tr xs):Tr (slopeL xs):=by
 intro n hn
 unfold slopeL at *
 rw [List.length_map,List.length_range] at hn
 rw [lE,if_pos (by omega)]
 exact Int.mul_ne_zero (by omega) (h (n+1) (by omega))
theorem Em {f:Addr} {fd:FuncData} (F:Fun K "row_of" "row_of" pK f fd) (T:Txt K mg) {Jh:Addr} {Im:FuncData} (L1:Cal P w K mg base 34 "row_from" ["first","second"] wg Jh Im) {sW:Addr} {sG:FuncData} (uN:Cal P w K mg base 1 "slope" ["row"] (sp1 slopeL) sW sG):FnOk P w K mg base CX0 35 f fd ["polynomial"] mC:=by
 obtain ⟨Lk,FX,GY,Ko⟩:=L1
 obtain ⟨uB,rM,r9,ud⟩:=uN
 refine F.ok Cs (fun vs H Q E h=>?_) (fun cdv A outer s H vs Q E hr h=>?_)
 ·obtain ⟨a,xs,n,rfl,_⟩:=h
  rfl
 ·obtain ⟨a,xs,n,rfl,hA,xtr,bx,hx,hn,hrun,k⟩:=h
  refine ⟨_,(al (aB (aq Lk (hr.mono) rfl FX GY Ko .nil aj (aa (pv 0) (aa (aq uB (hr.mono) rfl rM r9 ud .nil aj (aa (pv 0) ac)) ac))))),?_⟩
  refine aU ⟨_,rfl,_,rfl,a,xs,rfl,hA,by omega,bx.mono,fun p H1 s1 hp e1=>?_⟩
  have hsl:(slopeL xs).length<=1000:=by unfold slopeL;rw [List.length_map,List.length_range];omega
  exact ⟨a,p,xs,slopeL xs,n,rfl,s1 _ _ hA,e1,xtr,vv xtr,hx,hsl,hn,hrun,fun l ps H' sm hl hf e r=>k l ps H' (s1.trans sm) (s1.free hl) (fun p hp=>⟨s1.free (hf p hp).1,(hf p hp).2⟩) e r⟩
def sgs (t b:Int) (xss:List (List Int)):List Int:=xss.map fun p=>sg (hv t b p)
def oX (C:Addr):Sp:=fun vs H Q _=>∃ (l r:Addr) (ps:List Addr) (xss:List (List Int)) (t b:Int),vs=[.ref l,.ref r]/\H l=some (.lst (ps.map V.ref))/\RwH H ps xss/\RA C H r t b/\Bits 3000 t/\Bits 3000 b/\(∀ xs∈xss,xs.length<=20/\AllB 95000 xs)/\xss.length<=1000000/\∀ H',Same H H'->Q (.int (chS (sgs t b xss)).1) H'
theorem Ca (t b:Int) (xss:List (List Int)):∀ s∈sgs t b xss,s.natAbs<=1:=fun s hs=>by
 obtain ⟨x,_,rfl⟩:=List.mem_map.mp hs
 exact xf _
theorem B9 {t b:Int} {xss:List (List Int)} {i:Nat} {xs:List Int} (h:xss[i]?=some xs):sgs t b (xss.take (i+1))=sgs t b (xss.take i)++[sg (hv t b xs)]:=by
 unfold sgs
 rw [List.take_add_one,h,List.map_append];rfl
theorem ye {x:Int} (h:x.natAbs<=1):Bits 1000000 x:=Bits.mono (j:=1) (Nat.lt_of_le_of_lt h (by decide)) (by decide)
theorem ET {C f:Addr} {fd:FuncData} (F:Fun K "changes" "changes" qo f fd) (T:Txt K mg) (R:RCI K mg C) {fb:Addr} {eV:FuncData} (fh:Cal P w K mg base 2 "sign_at" ["row","ratio"] (g6 C) fb eV):FnOk P w K mg base CX0 3 f fd ["row","ratio"] (oX C):=by
 obtain ⟨fg,eT,eU,fe⟩:=fh
 refine F.ok sc_changes (fun vs H Q E h=>?_) (fun cdv A outer s H vs Q E hr h=>?_)
 ·obtain ⟨l,r,ps,xss,t,b,rfl,_⟩:=h
  rfl
 ·obtain ⟨l,r,ps,xss,t,b,rfl,hL,hR,hRA,bt,bb,hb,hn,k⟩:=h
  refine ⟨_,(ah (ap (i:=2) sc_changes.nd rfl (Or.inl rfl) ad)
   (ah (ap (i:=3) sc_changes.nd rfl (Or.inl rfl) ad)
   (ah (cZ PassesOwn.never rfl (eN (K:=K) rfl (pv 0)) (aW (i:=4) sc_changes.nd rfl (Or.inl rfl))
     (ah (ap (i:=5) sc_changes.nd rfl (Or.inl rfl) (aq fg (hr.mono) rfl eT eU fe .nil aj (aa (pv 4) (aa (pv 1) ac))))
       (ah (aQ (aH c7 (ai aI (pv 5) (pv 3)) ad (aE _))
         (al (ap (i:=2) sc_changes.nd rfl (Or.inl rfl) (ai bj (pv 2) ad)))
         aR)
       (al (aQ (aH jA (pv 5) ad (aE _))
         (al (ap (i:=3) sc_changes.nd rfl (Or.inl rfl) (pv 5)))
         aR)))))
   (al (aB (pv 2)))))),?_⟩
  have hpl:(ps.map V.ref).length=xss.length:=by rw [List.length_map,hR.1]
  refine aA ?_
  refine aA ?_
  refine ⟨_,rfl,l,rfl,⟨_,SqL.of hL⟩,n6 (K:=K) (a:=l) (xs:=ps.map V.ref) (fun i σ' H'=>∃ (z4 z5:Option V),σ'=[some (.ref l),some (.ref r),some (.int (chS (sgs t b (xss.take i))).1),some (.int (chS (sgs t b (xss.take i))).2),z4,z5]/\Same H H') ⟨none,none,rfl,fun _ _ e=>e⟩ ?_ ?_ ?_⟩
  ·rintro i σ' H' _ ⟨z4,z5,rfl,sm⟩
   exact SqL.of (sm _ _ hL)
  ·rintro i x σ' H1 hi ⟨z4,z5,rfl,s1⟩
   obtain ⟨p,xs,rfl,ep,ex,hp,hlt⟩:=hR.of_get hi
   obtain ⟨hx1,hx2⟩:=hb xs (List.mem_of_getElem? ex)
   show cW (gY _ (iG 5)) _ _ _ _
   refine aA ⟨_,rfl,_,rfl,p,r,xs,t,b,⟨rfl,s1 _ _ hp,hRA.same s1,hx1,hx2,bt.mono,bb.mono⟩,fun H2 sm2=>?_⟩
   have s2:=s1.trans sm2
   obtain ⟨c1,c2,c3⟩:=J7 _ (Ca t b (xss.take i))
   rw [B9 ex,Ai]
   have hs:=xf (hv t b xs)
   generalize sg (hv t b xs)=s at hs ⊢
   generalize chS (sgs t b (xss.take i))=z at c1 ⊢
   obtain ⟨m,bf⟩:=z
   dsimp only
   refine dW (fun σ' H'=>σ'=[some (.ref l),some (.ref r),some (.int (if s*bf<0 then m+1 else m)),some (.int bf),some (.ref p),some (.int s)]/\H2=H') ?_ ?_
   case refine_2 =>
    intro rest
    refine ⟨_,rfl,_,rfl,_,_,rfl,rfl,⟨ye hs,ye c1⟩,_,_,rfl,rfl,_,rfl,aL (fun h1=>?_) (fun h1=>?_)⟩
    ·refine cO ⟨_,rfl,_,_,rfl,rfl,rest _ _ ⟨?_,rfl⟩⟩
     rw [if_pos h1];rfl
    ·refine rest _ _ ⟨?_,rfl⟩
     rw [if_neg h1];rfl
   rintro σ' H' ⟨rfl,rfl⟩
   refine ⟨_,rfl,_,_,rfl,rfl,_,rfl,dq (fun h1=>?_) (fun h1=>?_)⟩
   ·refine cO ⟨_,rfl,some (.ref p),some (.int s),?_,s2⟩
    unfold chF
    have h1':¬ s=0:=h1
    rw [if_neg h1'];rfl
   ·refine ⟨some (.ref p),some (.int s),?_,s2⟩
    unfold chF
    have h1':s=0:=h1
    rw [if_pos h1']
  ·rintro σ' H' ⟨z4,z5,rfl,sm⟩
   rw [hpl,List.take_length]
   exact ⟨_,rfl,k H' sm⟩
def oW (C:Addr):Sp:=fun vs H Q _=>∃ (l r r2:Addr) (ps:List Addr) (xss:List (List Int)) (t b t2 b2:Int),vs=[.ref l,.ref r,.ref r2]/\H l=some (.lst (ps.map V.ref))/\RwH H ps xss/\RA C H r t b/\RA C H r2 t2 b2/\Bits 3000 t/\Bits 3000 b/\Bits 3000 t2/\Bits 3000 b2/\(∀ xs∈xss,xs.length<=20/\AllB 95000 xs)/\xss.length<=1000000/\∀ H',Same H H'->Q (.int ((chS (sgs t b xss)).1-(chS (sgs t2 b2 xss)).1)) H'
theorem EQ {C f:Addr} {fd:FuncData} (F:Fun K "count" "count" qj f fd) (T:Txt K mg) (R:RCI K mg C) {tq:Addr} {sM:FuncData} (uT:Cal P w K mg base 3 "changes" ["row","ratio"] (oX C) tq sM):FnOk P w K mg base CX0 4 f fd ["row","low","high"] (oW C):=by
 obtain ⟨j3,jJ,jL,jS⟩:=uT
 refine F.ok CA (fun vs H Q E h=>?_) (fun cdv A outer s H vs Q E hr h=>?_)
 ·obtain ⟨l,r,r2,ps,xss,t,b,t2,b2,rfl,_⟩:=h
  rfl
 ·obtain ⟨l,r,r2,ps,xss,t,b,t2,b2,rfl,hL,hR,h1,h2,bt,bb,bt2,bb2,hb,hn,k⟩:=h
  refine ⟨_,(al (aB (ai b7 (aq j3 (hr.mono) rfl jJ jL jS .nil aj (aa (pv 0) (aa (pv 1) ac))) (aq j3 (hr.mono) rfl jJ jL jS .nil aj (aa (pv 0) (aa (pv 2) ac)))))),?_⟩
  refine aU ⟨_,rfl,_,rfl,l,r,ps,xss,t,b,rfl,hL,hR,h1,bt,bb,hb,hn,fun H1 s1=>?_⟩
  refine ⟨_,rfl,_,rfl,l,r2,ps,xss,t2,b2,rfl,s1 _ _ hL,hR.same s1,h2.same s1,bt2,bb2,hb,hn,fun H2 s2=>?_⟩
  exact ⟨_,_,rfl,rfl,k _ (s1.trans s2)⟩
theorem lQ (i:Int):(if i<0 then -i else i)=(i.natAbs:Int):=by split<;>omega
theorem KS {l:List Int} (h:l≠[]):atI (l.map V.int) (-1)=some (.int (ao l)):=by
 obtain ⟨r,x,rfl⟩:=(cK l).resolve_left h
 rw [dk,List.map_append];exact ur _ _
theorem JZ {l:List Int}:gP l none (some (-1))=l.take (l.length-1):=by
 unfold gP
 rw [HT.sIx_none]
 have e:HT.sIx l.length l.length (some (-1))=l.length-1:=by
  unfold HT.sIx;simp;omega
 rw [e,List.drop_zero,Nat.sub_zero]
def isB (os:List Int) (l k:Nat):Prop:=(∀ x∈os,x.natAbs<=(2^k-1)*l)/\∀ j,j<k->∃ x∈os,(2^j-1)*l<x.natAbs
def mF (K:PySem.W.Frag):Sp:=fun vs H Q _=>∃ (a:Addr) (ns:List Int),vs=[.ref a]/\SqL K H a (ns.map V.int)/\Tr ns/\ns≠[]/\ns.length<=100000/\AllB 100000 ns /\
 ∀ (k:Nat) (H':Hp),k<=100000->isB (ns.take (ns.length-1)) (ao ns).natAbs k->Same H H'->Q (.int ((2^k:Nat):Int)) H'
theorem Dt {os:List Int} {F:Int->Prop} (h:∀ g:Nat,(∀ x∈os,x.natAbs<=g)->(g=0\/∃ x∈os,x.natAbs=g)->F g) :
 (∀ M,M∈os.map (fun x=>(x.natAbs:Int))->(∀ a∈os.map (fun x=>(x.natAbs:Int)),a<=M)->F M)/\(os.map (fun x=>(x.natAbs:Int))=[]->F 0):=by
 constructor
 ·intro M hM ha
  obtain ⟨x,hx,rfl⟩:=List.mem_map.mp hM
  exact h x.natAbs (fun y hy=>Int.ofNat_le.mp (ha _ (List.mem_map.mpr ⟨y,hy,rfl⟩))) (.inr ⟨x,hx,rfl⟩)
 ·intro e
  have:os=[]:=List.map_eq_nil_iff.mp e
  subst this
  exact h 0 (fun x hx=>nomatch hx) (.inl rfl)
theorem EV {f:Addr} {fd:FuncData} (F:Fun K "bound" "bound" qq f fd) (T:Txt K mg):FnOk P w K mg base CX0 1 f fd ["row"] (mF K):=by
 refine F.ok sc_bound (fun vs H Q E h=>?_) (fun cdv A outer s H vs Q E hr h=>?_)
 ·obtain ⟨a,ns,rfl,_⟩:=h
  rfl
 ·obtain ⟨a,ns,rfl,hA,ht,hne,hn,hb,k⟩:=h
  have big:=sizeLine_eq
  refine ⟨_,(ah (ap (i:=1) sc_bound.nd rfl (Or.inl rfl) (bT gn (by rfl) T.abs_ PyProof.Rows.boot_abs (aa (aG (ck (K:=K) rfl) (pv 0) (bQ bM ad) (fun _ _=>rfl)) ac)))
   (ah (ap (i:=2) sc_bound.nd rfl (Or.inl rfl) (DT (K:=K) rfl rfl (by rfl) T.max_ (fm (own:=["value"]) (fr:=[]) (js:=[]) (by walk_at "comp_ok") rfl (eN (K:=K) rfl (nk (mI (K:=K) rfl) (pv 0) nh (ng (bQ bM ad)))) (fun _ _ _ _=>(aW (i:=0) (show List.Nodup (["value"]:List Str) from by decide +kernel) rfl (Or.inl rfl))) (fun _ _ _ _=>(bT gn (by rfl) T.abs_ PyProof.Rows.boot_abs (aa (pv 0) ac)))) ad))
   (ah (ap (i:=3) sc_bound.nd rfl (Or.inl rfl) ad)
   (ah (fO PassesOwn.never (aH c7 (ai aI (ai b7 (pv 3) ad) (pv 1)) (pv 2) (aE _))
     (al (ap (i:=3) sc_bound.nd rfl (Or.inl rfl) (ai aI ad (pv 3)))))
   (al (aB (pv 3))))))),?_⟩
  refine aA ⟨_,rfl,_,rfl,a,_,_,_,rfl,rfl,hA,KS hne,_,rfl,?_⟩
  rw [lQ]
  have hl0:ao ns≠0:=by
   obtain ⟨r,x,rfl⟩:=(cK ns).resolve_left hne
   rw [dk];exact tr_snoc.mp ht
  generalize hL:(ao ns).natAbs=L at k ⊢
  have hL1:1<=L:=by omega
  have bL:Bits 100000 (L:Int):=by
   obtain ⟨r,x,rfl⟩:=(cK ns).resolve_left hne
   rw [dk] at hL
   exact (hb x (by simp)).of_le (by omega)
  refine aA ⟨_,rfl,_,rfl,_,rfl,a,_,rfl,hA,fun p1 hp1=>?_⟩
  rw [tO,JZ]
  have s1:Same H (upd H p1 (.lst ((ns.take (ns.length-1)).map V.int))):=Same.upd_new hp1
  have q1:upd H p1 (.lst ((ns.take (ns.length-1)).map V.int)) p1=some (.lst ((ns.take (ns.length-1)).map V.int)):=au
  generalize hO:ns.take (ns.length-1)=os at k s1 q1 ⊢
  generalize upd H p1 (.lst (os.map V.int))=H1 at s1 q1 ⊢
  have bO:AllB 100000 os:=fun x hx=>hb x (List.mem_of_mem_take (hO ▸ hx))
  have lO:os.length<=100000:=by rw [<- hO,List.length_take];omega
  refine ⟨p1,rfl,⟨_,SqL.of q1⟩,iV (K:=K) (a:=p1) (xs:=os.map V.int) (fun i ys σ' H'=>∃ (z0:Option V),σ'=[z0]/\ys=((os.take i).map fun x=>(x.natAbs:Int)).map V.int/\H1=H') (by rw [List.length_map];omega) ⟨none,rfl,rfl,rfl⟩ ?_ ?_ ?_⟩
  ·rintro i ys σ' H' _ ⟨z0,rfl,rfl,rfl⟩
   exact ⟨SqL.of q1,by rw [List.length_map,List.length_map,List.length_take];exact Nat.min_le_left _ _⟩
  ·rintro i x ys σ' H' hi ⟨z0,rfl,rfl,rfl⟩
   rw [List.getElem?_map] at hi
   cases e:os[i]? with
   | none=>rw [e] at hi;cases hi
   | some c =>
     rw [e] at hi
     obtain rfl:=Option.some.inj hi
     refine ⟨_,rfl,_,rfl,_,rfl,?_,rfl⟩
     rw [List.take_add_one,e,lQ]
     simp
  ·rintro ys σ' H' p ⟨z0,rfl,rfl,rfl⟩ hp
   rw [List.length_map,List.take_length]
   have s2:Same H (upd H1 p (.lst ((os.map fun x=>(x.natAbs:Int)).map V.int))):=s1.then_new hp
   refine ⟨p,_,rfl,SqL.of au,?_⟩
   generalize upd H1 p (.lst ((os.map fun x=>(x.natAbs:Int)).map V.int))=H2 at s2 ⊢
   refine And.symm (Dt fun g hg1 hg2=>?_)
   have bg:g<2^100000:=by
    rcases hg2 with rfl | ⟨x,hx,rfl⟩
    ·exact Nat.pow_pos (by decide)
    ·exact bO x hx
   refine aA ?_
   refine ⟨fun m σ' H'=>∃ k0:Nat,σ'=[some (.ref a),some (.int L),some (.int g),some (.int ((2^k0:Nat):Int))]/\H2=H'/\2*g+2-2^k0=m/\2^k0<=2*g+1/\∀ j,j<k0->(2^j-1)*L<g,⟨_,0,rfl,rfl,rfl,by omega,fun j hj=>absurd hj (Nat.not_lt_zero _)⟩,?_⟩
   rintro m σ' H' ⟨k0,rfl,rfl,rfl,h2,h3⟩
   have hk0:k0<=100000:=by
    have e:2^k0<2^100001:=by rw [Nat.pow_succ 2 100000];omega
    have:=(Nat.pow_lt_pow_iff_right (a:=2) (by decide)).mp e
    omega
   have hp:1<=2^k0:=Nat.pow_pos (by decide)
   have bk:Bits 100002 ((2^k0:Nat):Int):=by
    show ((2^k0:Nat):Int).natAbs<_
    rw [Int.natAbs_natCast]
    exact (Nat.pow_lt_pow_iff_right (a:=2) (by decide)).mpr (by omega)
   have bk1:Bits 100002 (((2^k0:Nat):Int)-1):=bk.of_le (by omega)
   have cast:(((2^k0:Nat):Int)-1)*(L:Int)=(((2^k0-1)*L:Nat):Int):=by
    rw [Int.natCast_mul,Int.natCast_sub hp];rfl
   refine ⟨_,rfl,_,_,rfl,rfl,_,rfl,_,_,rfl,rfl,⟨bk1.mono,bL.mono⟩,_,rfl,_,_,rfl,rfl,_,rfl,?_⟩
   rw [cast]
   refine aL (fun hlt=>?_) (fun hge=>?_)
   ·have hlt':(2^k0-1)*L<g:=by exact Int.ofNat_lt.mp hlt
    have h4:2^k0-1<g:=Nat.lt_of_le_of_lt (Nat.le_mul_of_pos_right _ hL1) hlt'
    refine ⟨fun σ'' H''=>∃ m',m'<2*g+2-2^k0/\∃ k0:Nat,σ''=[some (.ref a),some (.int L),some (.int g),some (.int ((2^k0:Nat):Int))]/\H2=H''/\2*g+2-2^k0=m'/\2^k0<=2*g+1/\∀ j,j<k0->(2^j-1)*L<g,fun _ _ h=>h,?_⟩
    refine ⟨_,rfl,_,_,rfl,rfl,⟨Bits.mono (j:=2) (by show (2:Int).natAbs<2^2;decide) (by decide),bk.mono⟩,?_⟩
    have e2:(2:Int)*((2^k0:Nat):Int)=((2^(k0+1):Nat):Int):=by rw [Nat.pow_succ];omega
    have e3:2^(k0+1)=2*2^k0:=by rw [Nat.pow_succ];omega
    refine ⟨2*g+2-2^(k0+1),by omega,k0+1,by rw [<- e2];rfl,rfl,rfl,by omega,fun j hj=>?_⟩
    by_cases ej:j=k0
    ·subst ej;exact hlt'
    ·exact h3 j (by omega)
   ·have hge':¬ (2^k0-1)*L<g:=fun z=>hge (Int.ofNat_lt.mpr z)
    refine ⟨_,rfl,k k0 H2 hk0 ⟨fun x hx=>Nat.le_trans (hg1 x hx) (by omega),fun j hj=>?_⟩ s2⟩
    have h5:=h3 j hj
    rcases hg2 with rfl | ⟨x,hx,e⟩
    ·exact absurd h5 (Nat.not_lt_zero _)
    ·exact ⟨x,hx,by rw [e];exact h5⟩
def uK (one other:List Int):Prop:=Tr one/\Tr other/\∃ n,AllB n one/\AllB n other/\(one.length+2)*(n+1)<=1000000/\other.length<=1000000
def jY:Nat->List Int->List Int->Prop
 | 0,_,other=>other=[]
 | n+1,one,other=>other=[]\/(uK one other/\jY n other (aC (aN one other)))
def wH:Sp:=fun vs H Q _=>∃ (a b:Addr) (xs ys:List Int) (n:Nat),vs=[.ref a,.ref b]/\H a=some (.lst (xs.map V.int))/\H b=some (.lst (ys.map V.int))/\Tr xs/\Tr ys/\xs.length<=1000/\ys.length<=1000/\jY n (aC xs) (aC ys)/\mkL H Q (cF n (aC xs) (aC ys))
theorem ER {f:Addr} {fd:FuncData} (F:Fun K "common" "common" qk f fd) (T:Txt K mg) {iO:Addr} {iJ:FuncData} (jf:Cal P w K mg base 34 "plain" ["row"] ke iO iJ) {iP:Addr} {iK:FuncData} (jg:Cal P w K mg base 2 "divided" ["first","second"] kf iP iK):FnOk P w K mg base CX0 35 f fd ["first","second"] wH:=by
 obtain ⟨gv,fX,f8,gt⟩:=jf
 obtain ⟨jb,iu,iA,i6⟩:=jg
 refine F.ok sc_common (fun vs H Q E h=>?_) (fun cdv A outer s H vs Q E hr h=>?_)
 ·obtain ⟨a,b,xs,ys,n,rfl,_⟩:=h
  rfl
 ·obtain ⟨a,b,xs,ys,n,rfl,hA,hB,xtr,ytr,hx,hy,hrun,k⟩:=h
  have big:=sizeLine_eq
  have hu:=hr.units
  refine ⟨_,(ah (ap (i:=2) sc_common.nd rfl (Or.inl rfl) (aq gv (hr.mono) rfl fX f8 gt .nil aj (aa (pv 0) ac)))
   (ah (ap (i:=3) sc_common.nd rfl (Or.inl rfl) (aq gv (hr.mono) rfl fX f8 gt .nil aj (aa (pv 1) ac)))
   (ah (fO PassesOwn.never (aH (kI (K:=K) rfl hu) (pv 3) (aZ ac) (aE _))
     (ah (ap (i:=4) sc_common.nd rfl (Or.inl rfl) (aq gv (hr.mono) rfl fX f8 gt .nil aj (aa (aG (aS (K:=K) rfl) (aq jb (hr.mono) rfl iu iA i6 .nil aj (aa (pv 2) (aa (pv 3) ac))) ad (fun _ _=>rfl)) ac)))
       (ah (ap (i:=2) sc_common.nd rfl (Or.inl rfl) (pv 3))
       (al (ap (i:=3) sc_common.nd rfl (Or.inl rfl) (pv 4))))))
   (al (aB (pv 2)))))),?_⟩
  refine aA ⟨_,rfl,a,xs,rfl,hA,xtr,by omega,fun p1 H1 s1 hp1 e1=>?_⟩
  refine aA ⟨_,rfl,b,ys,rfl,s1 _ _ hB,ytr,by omega,fun p2 H2 sm2 hp2 e2=>?_⟩
  have s2:=s1.trans sm2
  generalize aC xs=one' at hrun k e1
  generalize aC ys=other' at hrun k e2
  refine ⟨fun m σ' H'=>∃ (po pt:Addr) (one other:List Int) (z4:Option V),σ'=[some (.ref a),some (.ref b),some (.ref po),some (.ref pt),z4]/\Same H H'/\H' po=some (.lst (one.map V.int))/\H' pt=some (.lst (other.map V.int))/\H po=none/\H pt=none/\jY m one other/\cF m one other=cF n one' other',
   ⟨_,p1,p2,one',other',none,rfl,s2,sm2 _ _ e1,e2,hp1,s1.free hp2,hrun,rfl⟩,?_⟩
  rintro m σ' H3 ⟨po,pt,one,other,z4,rfl,s3,ho,ht,fo,ft,hrun3,hcom⟩
  refine ⟨_,rfl,Nat.zero_le _,fun q hq=>?_⟩
  have t4:=Same.upd_new (o:=.lst []) hq
  refine ⟨pt,q,other,[],rfl,rfl,SqL.of (t4 _ _ ht),SqL.of au,_,rfl,dq (fun hne=>?_) (fun he=>?_)⟩
  rotate_left
  ·have he':other=[]:=he
   subst he'
   rw [zX] at hcom
   refine ⟨_,rfl,k po _ (s3.trans t4) fo ?_⟩
   rw [<- hcom]
   exact t4 _ _ ho
  have hne':other≠[]:=hne
  obtain ⟨m1,rfl⟩:∃ m1,m=m1+1:=by
   cases m with
   | zero=>exact absurd hrun3 hne'
   | succ m1=>exact ⟨m1,rfl⟩
  obtain ⟨⟨otr,ttr,nb,bo,bt,hsz,htl⟩,hrun5⟩:=(show other=[]\/(uK one other/\jY m1 other (aC (aN one other))) from hrun3).resolve_left hne'
  have hcom5:cF m1 other (aC (aN one other))=cF n one' other':=by
   rw [<- hcom]
   show _=if other=[] then one else cF m1 other (aC (aN one other))
   rw [if_neg hne']
  generalize hH5:upd H3 q (.lst [])=H5 at t4 ⊢
  refine ⟨fun σ'' H''=>∃ m',m'<m1+1/\∃ (po pt:Addr) (one other:List Int) (z4:Option V),σ''=[some (.ref a),some (.ref b),some (.ref po),some (.ref pt),z4]/\Same H H''/\H'' po=some (.lst (one.map V.int))/\H'' pt=some (.lst (other.map V.int))/\H po=none/\H pt=none/\jY m' one other/\cF m' one other=cF n one' other',fun _ _ h=>h,?_⟩
  have hrl:(aN one other).length<=1000000:=by
   have:=gf (a:=one) hne'
   omega
  refine aA ⟨_,rfl,_,rfl,po,pt,one,other,nb,rfl,t4 _ _ ho,t4 _ _ ht,hne',bo,bt,hsz,htl,fun t q' r H8 sm8 _ _ _ _ _ _ et _ er=>?_⟩
  refine ⟨t,_,_,_,rfl,rfl,SqT.of et,rfl,r,_,rfl,er,fF _ _,hrl,fun p9 H9 sm9 hp9 e9=>?_⟩
  refine aA ⟨_,rfl,?_⟩
  refine ⟨_,rfl,?_⟩
  have t9:=(t4.trans sm8).trans sm9
  exact ⟨m1,Nat.lt_succ_self _,pt,p9,other,_,_,rfl,s3.trans t9,t9 _ _ ht,e9,ft,s3.free ((t4.trans sm8).free hp9),hrun5,hcom5⟩
def wn:Sp:=fun vs H Q _=>∃ (a b:Addr) (xs ys:List Int) (n:Nat),vs=[.ref a,.ref b]/\H a=some (.lst (xs.map V.int))/\H b=some (.lst (ys.map V.int))/\Tr xs/\Tr ys/\AllB n xs/\AllB n ys/\(xs.length+2)*(n+1)<=1000000/\ys.length<=1000000/\ys≠[]/\aN xs ys=[]/\mkL H Q (aC (bZ xs ys))
theorem Eu {f:Addr} {fd:FuncData} (F:Fun K "part" "part" pQ f fd) (T:Txt K mg) {iP:Addr} {iK:FuncData} (jg:Cal P w K mg base 2 "divided" ["first","second"] kf iP iK) {iO:Addr} {iJ:FuncData} (jf:Cal P w K mg base 34 "plain" ["row"] ke iO iJ):FnOk P w K mg base CX0 35 f fd ["row","divisor"] wn:=by
 obtain ⟨jb,iu,iA,i6⟩:=jg
 obtain ⟨gv,fX,f8,gt⟩:=jf
 refine F.ok sc_part (fun vs H Q E h=>?_) (fun cdv A outer s H vs Q E hr h=>?_)
 ·obtain ⟨a,b,xs,ys,n,rfl,_⟩:=h
  rfl
 ·obtain ⟨a,b,xs,ys,nb,rfl,hA,hB,xtr,ytr,bx,by',hsz,hyn,hy,hR,k⟩:=h
  have hu:=hr.units
  refine ⟨_,(ah (ap (i:=2) sc_part.nd rfl (Or.inl rfl) (aq jb (hr.mono) rfl iu iA i6 .nil aj (aa (pv 0) (aa (pv 1) ac))))
   (ah (aQ (aH (kI (K:=K) rfl hu) (aG (aS (K:=K) rfl) (pv 2) ad (fun _ _=>rfl)) (aZ ac) (aE _))
     (al ie)
     aR)
   (al (aB (aq gv (hr.mono) rfl fX f8 gt .nil aj (aa (aG (aS (K:=K) rfl) (pv 2) ad (fun _ _=>rfl)) ac)))))),?_⟩
  refine aA ⟨_,rfl,_,rfl,a,b,xs,ys,nb,rfl,hA,hB,hy,bx,by',hsz,hyn,fun t q r H1 sm1 ft fq fr _ _ _ et eq er=>?_⟩
  refine bz ⟨_,rfl,t,_,_,_,rfl,rfl,SqT.of et,rfl,Nat.zero_le _,fun p hp=>?_⟩
  have s2:=Same.upd_new (o:=.lst []) hp
  refine ⟨r,p,_,[],rfl,rfl,SqL.of (s2 _ _ er),SqL.of au,_,rfl,dq (fun h=>absurd hR h) (fun h=>?_)⟩
  have lq:=tM (a:=xs) hy
  have hxl:xs.length<=1000000:=by
   have:=Nat.mul_le_mul_left (xs.length+2) (show 1<=nb+1 by omega)
   omega
  have hN:aY xs ys<=xs.length+1:=by unfold aY;omega
  have hN2:aY xs ys<=xs.length:=by
   have:=List.length_pos_iff.mpr hy
   unfold aY;omega
  exact ⟨_,rfl,t,_,_,_,rfl,rfl,SqT.of (s2 _ _ et),rfl,q,bZ xs ys,rfl,s2 _ _ eq,tK hy xtr ytr,by omega,fun p' H' sm' hp' e'=>k p' H' ((sm1.then_new hp).trans sm') ((sm1.then_new hp).free hp') e'⟩
theorem EZ {f:Addr} {fd:FuncData} (F:Fun K "added" "added" qv f fd) (T:Txt K mg) {iN:Addr} {iI:FuncData} (je:Cal P w K mg base 1 "poly" ["row"] (ka K) iN iI) {tj:Addr} {sL:FuncData} (uS:Cal P w K mg base 1 "coefficient" ["row","place"] (jp K) tj sL):FnOk P w K mg base CX0 2 f fd ["first","second"] (mG K gS):=by
 obtain ⟨ja,ir,iz,iZ⟩:=je
 obtain ⟨lZ,kR,k8,lJ⟩:=uS
 refine F.ok sc_added (fun vs H Q E h=>?_) (fun cdv A outer s H vs Q E hr h=>?_)
 ·obtain ⟨a,b,xs,ys,rfl,_⟩:=h
  rfl
 ·obtain ⟨a,b,xs,ys,rfl,hA,hB,hx,hy,k⟩:=h
  refine ⟨_,(ah (ap (i:=2) sc_added.nd rfl (Or.inl rfl) (bT (As rfl) (by rfl) T.max_ PyProof.Rows.boot_max (aa (bT (df (K:=K) rfl) (by rfl) T.len_ PySem.boot_len (aa (pv 0) ac)) (aa (bT (df (K:=K) rfl) (by rfl) T.len_ PySem.boot_len (aa (pv 1) ac)) ac))))
   (al (aB (aq ja (hr.mono) rfl ir iz iZ .nil aj (aa (fm (own:=["k"]) (fr:=["first","second"]) (js:=[0,1]) (by walk_at "comp_ok") rfl (jy rfl T.range_ (aa (pv 2) ac)) (fun _ _ _ _=>(aW (i:=0) (show List.Nodup (["k","first","second"]:List Str) from by decide +kernel) rfl (Or.inl rfl))) (fun _ _ _ _=>(ai bj (aq lZ (hr.mono) rfl kR k8 lJ .nil aj (aa (pv 1) (aa (pv 0) ac))) (aq lZ (hr.mono) rfl kR k8 lJ .nil aj (aa (pv 2) (aa (pv 0) ac)))))) ac))))),?_⟩
  refine ⟨_,rfl,a,_,rfl,.inl hA,_,rfl,b,_,rfl,.inl hB,_,_,rfl,?_⟩
  rw [yK,List.length_map,List.length_map]
  have hz:max xs.length ys.length<=sizeLine:=by have:=sizeLine_eq;omega
  refine ⟨_,rfl,_,rfl,(mH hz).1,(mH hz).2,tR (lo:=0) (n:=max xs.length ys.length) (fun i zs σ' H'=>∃ z:Option V,σ'=[z,some (.ref a),some (.ref b)]/\zs=((List.range i).map fun k=>V.int (cf xs k+cf ys k))/\H=H') hz ⟨none,rfl,rfl,rfl⟩ ?_ ?_ ?_⟩
  ·rintro i zs σ' H' _ ⟨z,rfl,rfl,rfl⟩
   simp
  ·rintro i zs σ' H' hi ⟨z,rfl,rfl,rfl⟩
   refine ⟨_,rfl,_,rfl,a,xs,i,?_,hA,_,rfl,_,rfl,b,ys,i,?_,hB,_,_,rfl,rfl,_,rfl,?_,rfl⟩
   ·show [V.ref a,V.int (0+(i:Int))]=_
    rw [Int.zero_add]
   ·show [V.ref b,V.int (0+(i:Int))]=_
    rw [Int.zero_add]
   ·rw [List.range_succ,List.map_append];rfl
  ·rintro zs σ' H' p ⟨z,rfl,rfl,rfl⟩ hp
   refine ⟨p,(List.range (max xs.length ys.length)).map fun k=>cf xs k+cf ys k,rfl,SqL.of ?_,?_⟩
   ·rw [au,List.map_map];rfl
   ·intro p' H' sm hp' e
    refine k p' H' ((Same.upd_new hp).trans sm) ((Same.upd_new hp).free hp') ?_
    rw [e,KZ]
def wv:Sp:=fun vs H Q _=>∃ (a b:Addr) (xs ys:List Int),vs=[.ref a,.ref b]/\H a=some (.lst (xs.map V.int))/\H b=some (.lst (ys.map V.int))/\xs.length<=1000000/\ys.length<=1000000/\AllB 1000000 xs/\AllB 1000000 ys/\mkL H Q (af xs ys)
theorem Ez {f:Addr} {fd:FuncData} (F:Fun K "multiplied" "multiplied" pV f fd) (T:Txt K mg):FnOk P w K mg base CX0 1 f fd ["first","second"] wv:=by
 refine F.ok sc_multiplied (fun vs H Q E h=>?_) (fun cdv A outer s H vs Q E hr h=>?_)
 ·obtain ⟨a,b,xs,ys,rfl,_⟩:=h
  rfl
 ·obtain ⟨a,b,xs,ys,rfl,hA,hB,hx,hy,bx,by',k⟩:=h
  have hu:=hr.units
  refine ⟨_,(ah (aQ (PW.pt (xM (aH (jB (K:=K) rfl hu) (pv 0) (aZ ac) (aE _)) (xL (aH (jB (K:=K) rfl hu) (pv 1) (aZ ac) (aE _)))))
   (al (aB (aZ ac)))
   aR)
   (ah (ap (i:=2) sc_multiplied.nd rfl (Or.inl rfl) (ai rh (aZ (aa ad ac)) (ai b7 (ai bj (bT (df (K:=K) rfl) (by rfl) T.len_ PySem.boot_len (aa (pv 0) ac)) (bT (df (K:=K) rfl) (by rfl) T.len_ PySem.boot_len (aa (pv 1) ac))) ad)))
   (ah (cZ PassesOwn.never rfl (qZ rfl T.enumerate_ (aa (pv 0) ac)) (ik rfl (cC (aW (i:=3) sc_multiplied.nd rfl (Or.inl rfl)) (cC (aW (i:=4) sc_multiplied.nd rfl (Or.inl rfl)) ij)))
     (al (cZ PassesOwn.never rfl (qZ rfl T.enumerate_ (aa (pv 1) ac)) (ik rfl (cC (aW (i:=5) sc_multiplied.nd rfl (Or.inl rfl)) (cC (aW (i:=6) sc_multiplied.nd rfl (Or.inl rfl)) ij)))
       (al (fQ (ai bj (aG (ck (K:=K) rfl) (pv 2) (ai bj (pv 3) (pv 5)) (fun _ _=>rfl)) (ai aI (pv 4) (pv 6))) (kG (pv 2) (ai bj (pv 3) (pv 5)) kn))))))
   (al (aB (pv 2)))))),?_⟩
  refine ⟨_,rfl,Nat.zero_le _,fun p1 hp1=>?_⟩
  have s1:Same H (upd H p1 (.lst [])):=Same.upd_new hp1
  refine ⟨a,p1,xs,[],rfl,rfl,SqL.of (s1 _ _ hA),SqL.of au,_,rfl,?_⟩
  refine aL (fun h0=>?_) (fun h0=>?_)
  ·refine mU ⟨Nat.zero_le _,fun p2 hp2=>k p2 _ (s1.then_new hp2) (s1.free hp2) ?_⟩
   rw [au];unfold af;rw [if_pos (.inl h0)];rfl
  refine ⟨_,rfl,Nat.zero_le _,fun p2 hp2=>?_⟩
  have s2:Same H (upd (upd H p1 (.lst [])) p2 (.lst [])):=s1.then_new hp2
  refine ⟨b,p2,ys,[],rfl,rfl,SqL.of (s2 _ _ hB),SqL.of au,_,rfl,?_⟩
  refine aL (fun h1=>?_) (fun h1=>?_)
  ·refine ⟨Nat.zero_le _,fun p3 hp3=>k p3 _ (s2.then_new hp3) (s2.free hp3) ?_⟩
   rw [au];unfold af;rw [if_pos (.inr h1)];rfl
  generalize upd (upd H p1 (.lst [])) p2 (.lst [])=H2 at s2 ⊢
  obtain ⟨la,ea⟩:∃ la,xs.length=la+1:=⟨xs.length-1,by have:=List.length_pos_iff.mpr h0;omega⟩
  obtain ⟨lb,eb⟩:∃ lb,ys.length=lb+1:=⟨ys.length-1,by have:=List.length_pos_iff.mpr h1;omega⟩
  refine ⟨(by show 1<=sizeLine;decide),fun p3 hp3=>?_⟩
  have s3:=s2.then_new (o:=.lst [V.int 0]) hp3
  have big:=sizeLine_eq
  refine ⟨_,rfl,a,_,rfl,.inl (SqL.of (s3 _ _ hA)),_,rfl,b,_,rfl,.inl (SqL.of (s3 _ _ hB)),_,_,rfl,rfl,_,_,rfl,rfl,p3,_,_,rfl,rfl,au,?_,?_,?_,fun p hp=>?_⟩
  ·rw [List.length_map,List.length_map];omega
  ·rw [List.length_map,List.length_map];omega
  ·rw [List.length_map,List.length_map];show 1*_<=_;omega
  have en:(((xs.map V.int).length:Int)+((ys.map V.int).length:Int)-1).toNat=la+lb+1:=by rw [List.length_map,List.length_map];omega
  rw [en,qQ]
  have s4:=s3.then_new (o:=.lst ((List.replicate (la+lb+1) (0:Int)).map V.int)) hp
  have npa:a≠p:=s3.ne hA hp
  have npb:b≠p:=s3.ne hB hp
  generalize hH4:upd (upd H2 p3 (.lst [V.int 0])) p (.lst ((List.replicate (la+lb+1) (0:Int)).map V.int))=H4 at s4 ⊢
  have hp4:H4 p=some (.lst ((List.replicate (la+lb+1) (0:Int)).map V.int)):=by rw [<- hH4,au]
  refine ⟨_,rfl,a,rfl,⟨_,SqL.of (s4 _ _ hA)⟩,sE (K:=K) (a:=a) (xs:=xs.map V.int) (fun j σ' H'=>∃ (acc:List Int) (z3 z4 z5 z6:Option V),σ'=[some (.ref a),some (.ref b),some (.ref p),z3,z4,z5,z6]/\SameB p H4 H'/\H' p=some (.lst (acc.map V.int))/\acc.length=la+lb+1/\∀ n,n<acc.length->cf acc n=sm xs ys n j)
   ⟨List.replicate (la+lb+1) 0,none,none,none,none,rfl,SameB.refl _ _,hp4,by simp,fun n _=>by rw [lC];rfl⟩ ?_ ?_ ?_⟩
  ·rintro j σ' H' _ ⟨acc,z3,z4,z5,z6,rfl,sb,_⟩
   exact SqL.of (sb _ _ npa (s4 _ _ hA))
  ·rintro j x σ' H' q hj ⟨acc,z3,z4,z5,z6,rfl,sb,hpa,hal,hac⟩ hq
   rw [List.getElem?_map] at hj
   have hjl:j<xs.length:=by
    apply Classical.byContradiction
    intro hn
    rw [List.getElem?_eq_none_iff.mpr (Nat.le_of_not_lt hn)] at hj
    cases hj
   rw [iF hjl] at hj
   obtain rfl:=Option.some.inj hj
   refine ⟨q,_,rfl,SqT.of au,rfl,_,_,rfl,_,_,rfl,rfl,?_⟩
   have nqp:p≠q:=aX hpa hq
   have sb1:SameB p H4 (upd H' q (.tup [.int j,.int (cf xs j)])):=sb.then_new hq
   refine ⟨_,rfl,b,rfl,⟨_,SqL.of (sb1 _ _ npb (s4 _ _ hB))⟩,sE (K:=K) (a:=b) (xs:=ys.map V.int) (fun i σ' H'=>∃ (acc:List Int) (z5 z6:Option V),σ'=[some (.ref a),some (.ref b),some (.ref p),some (.int j),some (.int (cf xs j)),z5,z6]/\SameB p H4 H'/\H' p=some (.lst (acc.map V.int))/\acc.length=la+lb+1/\∀ n,n<acc.length->cf acc n=sm xs ys n j+(if j<=n/\n-j<i then tm xs ys n j else 0))
    ⟨acc,z5,z6,rfl,sb1,by rw [upd_ne nqp];exact hpa,hal,yA hac⟩ ?_ ?_ ?_⟩
   ·rintro i σ' H' _ ⟨acc,z5,z6,rfl,sb,_⟩
    exact SqL.of (sb _ _ npb (s4 _ _ hB))
   ·rintro i x σ' H' q hi ⟨acc,z5,z6,rfl,sb,hpa,hal,hac⟩ hq
    rw [List.getElem?_map] at hi
    have hil:i<ys.length:=by
     apply Classical.byContradiction
     intro hn
     rw [List.getElem?_eq_none_iff.mpr (Nat.le_of_not_lt hn)] at hi
     cases hi
    rw [iF hil] at hi
    obtain rfl:=Option.some.inj hi
    refine ⟨q,_,rfl,SqT.of au,rfl,_,_,rfl,_,_,rfl,rfl,?_⟩
    have nqp:p≠q:=aX hpa hq
    have hpa':upd H' q (.tup [.int i,.int (cf ys i)]) p=some (.lst (acc.map V.int)):=by rw [upd_ne nqp];exact hpa
    have hji:j+i<acc.length:=by omega
    have eji:((j:Nat):Int)+((i:Nat):Int)=((j+i:Nat):Int):=by omega
    refine ⟨_,rfl,_,rfl,_,rfl,_,_,rfl,rfl,p,_,_,_,rfl,rfl,SqL.of hpa',jT eji hji,_,rfl,_,rfl,_,_,rfl,rfl,⟨bx.cf j,by'.cf i⟩,_,_,rfl,rfl,_,rfl,_,rfl,_,rfl,_,_,rfl,rfl,p,_,_,j+i,rfl,rfl,hpa',lc eji (by rw [List.length_map];exact hji),?_⟩
    refine ⟨acc.set (j+i) (cf acc (j+i)+cf xs j*cf ys i),_,_,rfl,(sb.then_new hq).then_upd,by rw [au,nJ],by rw [List.length_set];exact hal,yz hjl hil hji hac⟩
   ·rintro σ' H' ⟨acc,z5,z6,rfl,sb,hpa,hal,hac⟩
    rw [List.length_map] at hac
    exact ⟨acc,_,_,_,_,rfl,sb,hpa,hal,yC hac⟩
  ·rintro σ' H' ⟨acc,z3,z4,z5,z6,rfl,sb,hpa,hal,hac⟩
   rw [List.length_map] at hac
   refine ⟨_,rfl,k p H' (fun b' o e=>sb b' o (s3.ne e hp) (s4 b' o e)) (s3.free hp) ?_⟩
   rw [hpa]
   have e:acc=af xs ys:=by
    apply dL
    ·rw [hal];unfold af;rw [if_neg (by intro z;exact z.elim h0 h1),List.length_map,List.length_range];omega
    ·intro n _
     rw [aM,yD (by omega) hac]
   rw [e]
def oR (C:Addr):Sp:=fun vs H Q _=>∃ (p q:Addr) (t b u d:Int) (i j:Nat),vs=[.ref p,.ref q]/\RA C H p t b/\RA C H q u d/\Bits 100000 t/\Bits i b/\Bits 100000 u/\Bits j d/\i+j<=9000/\0<b/\0<d/\mkR C H Q (t*d+u*b) (b*d)
theorem Fg {C f:Addr} {fd:FuncData} (F:Fun K "plus" "Ratio.plus" qJ f fd) (T:Txt K mg) (R:RCI K mg C) {f_Ratio:Addr} {fd_Ratio:FuncData} {ds_Ratio:List Value} (ci:KCal P w K mg base 2 C "Ratio" ["self","top","bottom"] (da C) f_Ratio fd_Ratio ds_Ratio [.int 1]):FnOk P w K mg base CX0 4 f fd ["self","other"] (oR C):=by
 obtain ⟨bK,bJ,bH,b5,cV,cU⟩:=ci
 refine F.ok CL (fun vs H Q E h=>?_) (fun cdv A outer s H vs Q E hr h=>?_)
 ·obtain ⟨p,q,t,b,u,d,i,j,rfl,_⟩:=h
  rfl
 ·obtain ⟨p,q,t,b,u,d,i,j,rfl,⟨dx,hp⟩,⟨dy,hq⟩,bt,bb,bu,bd,hij,hb,hd,k⟩:=h
  have bb':Bits 1000000 b:=bb.mono (by omega)
  have bd':Bits 1000000 d:=bd.mono (by omega)
  refine ⟨_,(al (aB (cc bJ bK (hr.mono) rfl bH b5 .nil aj (aa (ai bj (ai aI (aO (K:=K) rfl (pv 0) rfl) (aO (K:=K) rfl (pv 1) rfl)) (ai aI (aO (K:=K) rfl (pv 1) rfl) (aO (K:=K) rfl (pv 0) rfl))) (aa (ai aI (aO (K:=K) rfl (pv 0) rfl) (aO (K:=K) rfl (pv 1) rfl)) ac))))),?_⟩
  refine ⟨_,rfl,p,C,dx,_,_,rfl,hp,R.cl,R.nT,cR _ _,_,rfl,q,C,dy,_,_,rfl,hq,R.cl,R.nB,bX _ _,_,_,rfl,rfl,⟨bt.mono,bd'⟩,?_⟩
  refine ⟨_,rfl,q,C,dy,_,_,rfl,hq,R.cl,R.nT,cR _ _,_,rfl,p,C,dx,_,_,rfl,hp,R.cl,R.nB,bX _ _,_,_,rfl,rfl,⟨bu.mono,bb'⟩,_,_,rfl,rfl,?_⟩
  refine ⟨_,rfl,p,C,dx,_,_,rfl,hp,R.cl,R.nB,bX _ _,_,rfl,q,C,dy,_,_,rfl,hq,R.cl,R.nB,bX _ _,_,_,rfl,rfl,⟨bb',bd'⟩,?_⟩
  exact cM (Int.ne_of_gt (Int.mul_pos hb hd)) ((bb.mul bd).mono hij) k
def oT (C:Addr):Sp:=fun vs H Q _=>∃ (p q:Addr) (t b u d:Int) (i j:Nat),vs=[.ref p,.ref q]/\RA C H p t b/\RA C H q u d/\Bits 100000 t/\Bits i b/\Bits 100000 u/\Bits j d/\i+j<=9000/\0<b/\0<d/\mkR C H Q (t*d-u*b) (b*d)
theorem Fh {C f:Addr} {fd:FuncData} (F:Fun K "minus" "Ratio.minus" qK f fd) (T:Txt K mg) (R:RCI K mg C) {f_Ratio:Addr} {fd_Ratio:FuncData} {ds_Ratio:List Value} (ci:KCal P w K mg base 2 C "Ratio" ["self","top","bottom"] (da C) f_Ratio fd_Ratio ds_Ratio [.int 1]):FnOk P w K mg base CX0 4 f fd ["self","other"] (oT C):=by
 obtain ⟨bK,bJ,bH,b5,cV,cU⟩:=ci
 refine F.ok CM (fun vs H Q E h=>?_) (fun cdv A outer s H vs Q E hr h=>?_)
 ·obtain ⟨p,q,t,b,u,d,i,j,rfl,_⟩:=h
  rfl
 ·obtain ⟨p,q,t,b,u,d,i,j,rfl,⟨dx,hp⟩,⟨dy,hq⟩,bt,bb,bu,bd,hij,hb,hd,k⟩:=h
  have bb':Bits 1000000 b:=bb.mono (by omega)
  have bd':Bits 1000000 d:=bd.mono (by omega)
  refine ⟨_,(al (aB (cc bJ bK (hr.mono) rfl bH b5 .nil aj (aa (ai b7 (ai aI (aO (K:=K) rfl (pv 0) rfl) (aO (K:=K) rfl (pv 1) rfl)) (ai aI (aO (K:=K) rfl (pv 1) rfl) (aO (K:=K) rfl (pv 0) rfl))) (aa (ai aI (aO (K:=K) rfl (pv 0) rfl) (aO (K:=K) rfl (pv 1) rfl)) ac))))),?_⟩
  refine ⟨_,rfl,p,C,dx,_,_,rfl,hp,R.cl,R.nT,cR _ _,_,rfl,q,C,dy,_,_,rfl,hq,R.cl,R.nB,bX _ _,_,_,rfl,rfl,⟨bt.mono,bd'⟩,?_⟩
  refine ⟨_,rfl,q,C,dy,_,_,rfl,hq,R.cl,R.nT,cR _ _,_,rfl,p,C,dx,_,_,rfl,hp,R.cl,R.nB,bX _ _,_,_,rfl,rfl,⟨bu.mono,bb'⟩,_,_,rfl,rfl,?_⟩
  refine ⟨_,rfl,p,C,dx,_,_,rfl,hp,R.cl,R.nB,bX _ _,_,rfl,q,C,dy,_,_,rfl,hq,R.cl,R.nB,bX _ _,_,_,rfl,rfl,⟨bb',bd'⟩,?_⟩
  exact cM (Int.ne_of_gt (Int.mul_pos hb hd)) ((bb.mul bd).mono hij) k
def jm (C:Addr):Sp:=fun vs H Q _=>∃ (p q:Addr) (t b u d:Int) (i j:Nat),vs=[.ref p,.ref q]/\RA C H p t b/\RA C H q u d/\Bits 100000 t/\Bits i b/\Bits 100000 u/\Bits j d/\i+j<=9000/\0<b/\0<d/\mkR C H Q (t*u) (b*d)
theorem Ff {C f:Addr} {fd:FuncData} (F:Fun K "times" "Ratio.times" qI f fd) (T:Txt K mg) (R:RCI K mg C) {f_Ratio:Addr} {fd_Ratio:FuncData} {ds_Ratio:List Value} (ci:KCal P w K mg base 2 C "Ratio" ["self","top","bottom"] (da C) f_Ratio fd_Ratio ds_Ratio [.int 1]):FnOk P w K mg base CX0 4 f fd ["self","other"] (jm C):=by
 obtain ⟨bK,bJ,bH,b5,cV,cU⟩:=ci
 refine F.ok CK (fun vs H Q E h=>?_) (fun cdv A outer s H vs Q E hr h=>?_)
 ·obtain ⟨p,q,t,b,u,d,i,j,rfl,_⟩:=h
  rfl
 ·obtain ⟨p,q,t,b,u,d,i,j,rfl,⟨dx,hp⟩,⟨dy,hq⟩,bt,bb,bu,bd,hij,hb,hd,k⟩:=h
  refine ⟨_,(al (aB (cc bJ bK (hr.mono) rfl bH b5 .nil aj (aa (ai aI (aO (K:=K) rfl (pv 0) rfl) (aO (K:=K) rfl (pv 1) rfl)) (aa (ai aI (aO (K:=K) rfl (pv 0) rfl) (aO (K:=K) rfl (pv 1) rfl)) ac))))),?_⟩
  refine ⟨_,rfl,p,C,dx,_,_,rfl,hp,R.cl,R.nT,cR _ _,_,rfl,q,C,dy,_,_,rfl,hq,R.cl,R.nT,cR _ _,_,_,rfl,rfl,⟨bt.mono,bu.mono⟩,?_⟩
  refine ⟨_,rfl,p,C,dx,_,_,rfl,hp,R.cl,R.nB,bX _ _,_,rfl,q,C,dy,_,_,rfl,hq,R.cl,R.nB,bX _ _,_,_,rfl,rfl,⟨bb.mono (by omega),bd.mono (by omega)⟩,?_⟩
  exact cM (Int.ne_of_gt (Int.mul_pos hb hd)) ((bb.mul bd).mono hij) k
theorem zN {l:List Int} {i:Nat} {c:Int} (hi:i<l.length) (e:l[l.length-1-i]?=some c):l.drop (l.length-(i+1))=c::l.drop (l.length-i):=by
 have h:l.length-(i+1)=l.length-1-i:=by omega
 rw [h,List.drop_eq_getElem_cons (by omega)]
 have h2:l.length-1-i+1=l.length-i:=by omega
 rw [h2]
 have h3:=List.getElem?_eq_getElem (l:=l) (i:=l.length-1-i) (by omega)
 rw [h3] at e
 rw [Option.some.inj e]
theorem jw (n:Nat):(0:Int)<2^n:=Int.pow_pos (by decide)
theorem ii (n:Nat):(2:Int)^n=((2^n:Nat):Int):=by rw [Int.natCast_pow];rfl
theorem kD {n k:Nat} (h:n<k):Bits k ((2:Int)^n):=by
 rw [ii]
 show (((2^n:Nat):Int)).natAbs<2^k
 rw [Int.natAbs_natCast]
 exact (Nat.pow_lt_pow_iff_right (by decide)).mpr h
theorem fJ:Bits 1000000 (2:Int):=Bits.mono (j:=2) (by show (2:Int).natAbs<2^2;decide) (by decide)
theorem rk:Bits 1000000 (1:Int):=Bits.mono (j:=1) (by show (1:Int).natAbs<2^1;decide) (by decide)
def wC (C:Addr):Sp:=fun vs H Q _=>∃ (r wd:Addr) (r1 r2 w1 w2:Int) (kr kw:Nat),vs=[.ref r,.ref wd]/\RA C H r r1 r2/\RA C H wd w1 w2/\0<r2/\0<w1/\Bits kr r1/\Bits 100000 r2/\Bits 100000 w1/\Bits kw w2/\kr+kw<=100000/\∀ n:Nat,n<=kr+kw->r1*w2<=w1*r2*2^n->(∀ j:Nat,j<n->w1*r2*2^j<r1*w2)->Q (.int n) H
theorem EH {C f:Addr} {fd:FuncData} (F:Fun K "halvings" "halvings" qd f fd) (T:Txt K mg) (R:RCI K mg C):FnOk P w K mg base CX0 1 f fd ["reach","width"] (wC C):=by
 refine F.ok sc_halvings (fun vs H Q E h=>?_) (fun cdv A outer s H vs Q E hr h=>?_)
 ·obtain ⟨r,wd,r1,r2,w1,w2,kr,kw,rfl,_⟩:=h
  rfl
 ·obtain ⟨r,wd,r1,r2,w1,w2,kr,kw,rfl,⟨dr,hR⟩,⟨dw,hW⟩,hr2,hw1,br1,br2,bw1,bw2,hkk,k⟩:=h
  refine ⟨_,(ah (ap (i:=2) sc_halvings.nd rfl (Or.inl rfl) (ai aI (aO (K:=K) rfl (pv 0) rfl) (aO (K:=K) rfl (pv 1) rfl)))
   (ah (ap (i:=3) sc_halvings.nd rfl (Or.inl rfl) (ai aI (aO (K:=K) rfl (pv 1) rfl) (aO (K:=K) rfl (pv 0) rfl)))
   (ah (ap (i:=4) sc_halvings.nd rfl (Or.inl rfl) ad)
   (ah (fO PassesOwn.never (aH dj (pv 2) (pv 3) (aE _))
     (ah (ap (i:=3) sc_halvings.nd rfl (Or.inl rfl) (ai aI ad (pv 3)))
       (al (ap (i:=4) sc_halvings.nd rfl (Or.inl rfl) (ai bj (pv 4) ad)))))
   (al (aB (pv 4))))))),?_⟩
  refine aA ⟨_,rfl,r,C,dr,_,_,rfl,hR,R.cl,R.nT,cR _ _,_,rfl,wd,C,dw,_,_,rfl,hW,R.cl,R.nB,bX _ _,_,_,rfl,rfl,⟨br1.mono (by omega),bw2.mono (by omega)⟩,?_⟩
  refine aA ⟨_,rfl,wd,C,dw,_,_,rfl,hW,R.cl,R.nT,cR _ _,_,rfl,r,C,dr,_,_,rfl,hR,R.cl,R.nB,bX _ _,_,_,rfl,rfl,⟨bw1.mono,br2.mono⟩,?_⟩
  have bW:Bits (kr+kw) (r1*w2):=br1.mul bw2
  have g0:0<w1*r2:=Int.mul_pos hw1 hr2
  refine aA ?_
  dsimp only
  generalize r1*w2=W at *
  generalize w1*r2=g at *
  show cW _ _ _ _ _
  have b0:∀ n:Nat,(∀ j:Nat,j<n->g*2^j<W)->n<=kr+kw:=fun n hn=>by
   rcases Nat.lt_or_ge (kr+kw) n with z | z
   ·have h1:=hn (kr+kw) z
    have h2:(2:Int)^(kr+kw)<=g*2^(kr+kw):=by
     have:=Int.mul_le_mul_of_nonneg_right (show (1:Int)<=g by omega) (Int.le_of_lt (jw (kr+kw)))
     omega
    have h3:W.natAbs<2^(kr+kw):=bW
    have h5:(W.natAbs:Int)<((2^(kr+kw):Nat):Int):=Int.ofNat_lt.mpr h3
    rw [<- ii] at h5
    generalize (2:Int)^(kr+kw)=Y at *
    omega
   ·exact z
  refine ⟨fun m σ' H'=>∃ n:Nat,σ'=[some (.ref r),some (.ref wd),some (.int W),some (.int (g*2^n)),some (.int n)]/\H=H'/\m=(W-g*2^n).toNat/\∀ j:Nat,j<n->g*2^j<W,⟨_,0,by rw [Int.pow_zero,Int.mul_one];rfl,rfl,rfl,fun j hj=>absurd hj (Nat.not_lt_zero _)⟩,?_⟩
  rintro m σ' H' ⟨n,rfl,rfl,rfl,hj⟩
  refine ⟨_,rfl,_,rfl,_,_,rfl,rfl,_,rfl,aL (fun hgt=>?_) (fun hle=>?_)⟩
  ·have hgt':g*2^n<W:=hgt
   have gp:0<g*2^n:=Int.mul_pos g0 (jw n)
   have bg:Bits (kr+kw) (g*2^n):=bW.of_le (by omega)
   refine ⟨fun σ'' H''=>∃ m',m'<(W-g*2^n).toNat/\∃ n:Nat,σ''=[some (.ref r),some (.ref wd),some (.int W),some (.int (g*2^n)),some (.int n)]/\H=H''/\m'=(W-g*2^n).toNat/\∀ j:Nat,j<n->g*2^j<W,fun _ _ h=>h,?_⟩
   have e2:2*(g*2^n)=g*2^(n+1):=by rw [Int.pow_succ];grind
   refine aA ⟨_,rfl,_,_,rfl,rfl,⟨fJ,bg.mono (by omega)⟩,?_⟩
   refine cO ⟨_,rfl,_,_,rfl,rfl,?_⟩
   refine ⟨(W-g*2^(n+1)).toNat,by rw [<- e2];omega,n+1,by rw [<- e2];rfl,rfl,rfl,fun j h'=>?_⟩
   by_cases ej:j=n
   ·subst ej;exact hgt'
   ·exact hj j (by omega)
  ·refine ⟨_,rfl,k n (b0 n hj) ?_ hj⟩
   have:¬ g*2^n<W:=hle
   omega
theorem eG {k:Nat} {t b:Int} (hb:b≠0) (h:Bits k t):Bits k (rt t b):=h.of_le (CU hb)
theorem dY {k:Nat} {t b:Int} (hb:b≠0) (h:Bits k b):Bits k (rb t b):=h.of_le (Di hb)
theorem nr:¬ (("plus":Str)="bottom")/\¬ (("plus":Str)="top"):=⟨by decide +kernel,by decide +kernel⟩
theorem yk:¬ (("minus":Str)="bottom")/\¬ (("minus":Str)="top"):=⟨by decide +kernel,by decide +kernel⟩
theorem du:¬ (("times":Str)="bottom")/\¬ (("times":Str)="top"):=⟨by decide +kernel,by decide +kernel⟩
def wL (C:Addr):Sp:=fun vs H Q _=>∃ (l r:Addr) (l1 l2 r1 r2 pl pc:Int) (i j n:Nat),vs=[.ref l,.ref r,.int pl,.int pc]/\RA C H l l1 l2/\RA C H r r1 r2/\0<l2/\0<r2/\0<pc/\Bits i l1/\Bits i l2/\Bits j r1/\Bits j r2/\Bits n pl/\Bits n pc/\i+(j+n)<=9000 /\
 ∀ (x:Addr) (H':Hp) (x1 x2:Int),Same H H'->H x=none->RA C H' x x1 x2->0<x2->x1*(l2*r2*pc)=(l1*r2*pc+r1*l2*pl)*x2->Bits (i+(j+n)+1) x1->Bits (i+(j+n)+1) x2->Nat.gcd x1.natAbs x2.natAbs=1->Q (.ref x) H'
theorem EX {C f:Addr} {fd:FuncData} (F:Fun K "along" "along" qt f fd) (T:Txt K mg) (R:RCI K mg C) {tD:Addr} {sQ:FuncData} (uX:MCal P w K mg base 4 C "plus" ["self","other"] (oR C) tD sQ) {ge:Addr} {gb:FuncData} (gA:MCal P w K mg base 4 C "times" ["self","other"] (jm C) ge gb) {f_Ratio:Addr} {fd_Ratio:FuncData} {ds_Ratio:List Value} (ci:KCal P w K mg base 2 C "Ratio" ["self","top","bottom"] (da C) f_Ratio fd_Ratio ds_Ratio [.int 1]):FnOk P w K mg base CX0 5 f fd ["low","reach","place","pieces"] (wL C):=by
 obtain ⟨uH,rF,uj⟩:=uX
 obtain ⟨eu,d7,eo⟩:=gA
 obtain ⟨bK,bJ,bH,b5,cV,cU⟩:=ci
 refine F.ok CD (fun vs H Q E h=>?_) (fun cdv A outer s H vs Q E hr h=>?_)
 ·obtain ⟨l,r,l1,l2,r1,r2,pl,pc,i,j,n,rfl,_⟩:=h
  rfl
 ·obtain ⟨l,r,l1,l2,r1,r2,pl,pc,i,j,n,rfl,hL,hR,hl2,hr2,hpc,bl1,bl2,br1,br2,bpl,bpc,hijn,k⟩:=h
  refine ⟨_,(al (aB (cP (pv 0) R.cl rF uH (hr.mono) uj .nil aj (aa (cP (pv 1) R.cl d7 eu (hr.mono) eo .nil aj (aa (cc bJ bK (hr.mono) rfl bH b5 .nil aj (aa (pv 2) (aa (pv 3) ac))) ac)) ac)))),?_⟩
  obtain ⟨dl,hl⟩:=id hL
  obtain ⟨dr,hrr⟩:=id hR
  have pc0:pc≠0:=Int.ne_of_gt hpc
  refine aU ⟨_,rfl,l,dl,_,rfl,hl,cS _ _ nr.1 nr.2,_,rfl,r,dr,_,rfl,hrr,cS _ _ du.1 du.2,_,rfl,_,rfl,cM pc0 (bpc.mono (by omega)) fun xa H1 s1 ha hRa=>?_⟩
  have a0:0<rb pl pc:=cY pc0
  have ba1:Bits n (rt pl pc):=eG pc0 bpl
  have ba2:Bits n (rb pl pc):=dY pc0 bpc
  have ea:=eJ (t:=pl) pc0
  generalize rt pl pc=a1 at *
  generalize rb pl pc=a2 at *
  refine ⟨r,xa,r1,r2,a1,a2,j,n,rfl,hR.same s1,hRa,br1.mono (by omega),br2,ba1.mono (by omega),ba2,by omega,hr2,a0,fun xc H2 s2 hc hRc=>?_⟩
  have d0:r2*a2≠0:=Int.ne_of_gt (Int.mul_pos hr2 a0)
  have c0:0<rb (r1*a1) (r2*a2):=cY d0
  have bc1:Bits (j+n) (rt (r1*a1) (r2*a2)):=eG d0 (br1.mul ba1)
  have bc2:Bits (j+n) (rb (r1*a1) (r2*a2)):=dY d0 (br2.mul ba2)
  have ec:=eJ (t:=r1*a1) d0
  generalize rt (r1*a1) (r2*a2)=c1 at *
  generalize rb (r1*a1) (r2*a2)=c2 at *
  have t2:=s1.trans s2
  refine ⟨l,xc,l1,l2,c1,c2,i,j+n,rfl,hL.same t2,hRc,bl1.mono (by omega),bl2,bc1.mono (by omega),bc2,hijn,hl2,c0,fun xx H3 s3 hx hRx=>?_⟩
  have x0:l2*c2≠0:=Int.ne_of_gt (Int.mul_pos hl2 c0)
  refine k xx H3 _ _ (t2.trans s3) (t2.free hx) hRx (cY x0) (KW a0 c0 ea ec (eJ x0)) ?_ ?_ (ku x0)
  ·refine (eG x0 ?_)
   exact Bits.add (bl1.mul bc2) ((bc1.mul bl2).mono (by omega))
  ·exact (dY x0 (bl2.mul bc2)).mono (by omega)
theorem FG {i j:Nat} {a b c:Int} {l:List Int} (hl:AllB i l) (ha:Bits j a) (hb:Bits j b) (hc:Bits (i+j) c):AllB (i+j+1) (mb a b c l):=AllB.of_cf fun n=>by
 rw [iW]
 refine Bits.add ?_ ?_
 ·exact (ha.neg.mul (hl.cf n)).mono (by omega)
 ·split
  ·exact hc
  ·exact (hb.mul (hl.cf (n-1))).mono (by omega)
theorem vM {kv j:Nat} {m s0 s1:Int} (hm:Bits j m) (h0:Bits j s0) (h1:Bits j s1):∀ {l:List Int},AllB kv l->AllB (kv+(j+1)*l.length+1) (bV m s0 s1 l)
 | [],_=>AllB.nil
 | v::l,h=>by
   have ih:=vM hm h0 h1 (l:=l) fun x hx=>h x (List.mem_cons_of_mem _ hx)
   have hv:=h v (List.mem_cons_self ..)
   have:=FG (c:=v*m^l.length) ih h0.neg h1 ((hv.mul (iX hm l.length)).mono (by
    have:(j+1)*l.length=j*l.length+l.length:=by rw [Nat.add_mul,Nat.one_mul]
    omega))
   refine AllB.mono this ?_
   rw [List.length_cons,Nat.mul_add,Nat.mul_one];omega
theorem BO {a b c:Int} {l:List Int} (hne:l≠[]) (hT:Tr (mb a b c l)):gS (af l [-a,b]) (trim [c])=mb a b c l:=by
 refine lv (fj _) hT fun k=>?_
 unfold gS
 rw [gj,gQ,gj,Int.one_mul,Fz hne,iW,iW]
 rcases k with _ | k
 ·show _+0+c=_+c
  omega
 ·rw [if_neg (by omega),if_neg (by omega)]
  show _+cf [] k=_
  rw [cq];omega
theorem Bo {m s0 s1:Int} (hs:0<s1) {l:List Int} (hne:l≠[]) (hl:Tr l):Tr (bV m s0 s1 l):=by
 have h1:=vL m s0 s1 l
 have hlen:=jk m s0 s1 l
 have hp:0<l.length:=List.length_pos_iff.mpr hne
 have h2:cf l (l.length-1)≠0:=hl _ (by omega)
 intro n hn
 have:n=l.length-1:=by omega
 subst this
 rw [h1]
 exact Int.mul_ne_zero h2 (Int.ne_of_gt (Int.pow_pos hs))
theorem Bt {l:List Int} (hl:Tr l) {i:Nat} (h:i<l.length):Tr (l.drop i):=by
 intro n hn
 rw [List.length_drop] at hn
 have e:cf (l.drop i) n=cf l (i+n):=by
  unfold cf
  simp [List.getD]
 rw [e]
 exact hl _ (by omega)
def v5 (C:Addr):Sp:=fun vs H Q _=>∃ (a l r:Addr) (ns:List Int) (l1 l2 r1 r2:Int),vs=[.ref a,.ref l,.ref r]/\H a=some (.lst (ns.map V.int))/\RA C H l l1 l2/\RA C H r r1 r2/\Tr ns/\ns≠[]/\ns.length<=12/\AllB 1000 ns/\0<l2/\0<r1/\0<r2/\Bits 1400 l1/\Bits 1400 l2/\Bits 2900 r1/\Bits 2900 r2 /\
 ∀ m s0 s1:Int,0<m->s0*l2=l1*m->s1*r2=r1*m->0<s1->AllB 60000 (bV m s0 s1 ns)->mkL H Q (bV m s0 s1 ns)
theorem Ea {C f:Addr} {fd:FuncData} (F:Fun K "stretched" "stretched" px f fd) (T:Txt K mg) (R:RCI K mg C) {sZ:Addr} {sJ:FuncData} (uQ:Cal P w K mg base 2 "shared" ["row"] (oQ K) sZ sJ) {JD:Addr} {IM:FuncData} (Mq:Cal P w K mg base 2 "added" ["first","second"] (mG K gS) JD IM) {Jn:Addr} {Iw:FuncData} (L9:Cal P w K mg base 1 "multiplied" ["first","second"] wv Jn Iw) {iN:Addr} {iI:FuncData} (je:Cal P w K mg base 1 "poly" ["row"] (ka K) iN iI):FnOk P w K mg base CX0 3 f fd ["row","low","reach"] (v5 C):=by
 obtain ⟨uD,rO,sh,uf⟩:=uQ
 obtain ⟨LK,Gv,Hk,KL⟩:=Mq
 obtain ⟨Ls,Ge,G5,Kv⟩:=L9
 obtain ⟨ja,ir,iz,iZ⟩:=je
 refine F.ok sc_stretched (fun vs H Q E h=>?_) (fun cdv A outer s H vs Q E hr h=>?_)
 ·obtain ⟨a,l,r,ns,l1,l2,r1,r2,rfl,_⟩:=h
  rfl
 ·obtain ⟨a,l,r,ns,l1,l2,r1,r2,rfl,hA,⟨dl,hL⟩,⟨dr,hR⟩,hT,hne,hln,hbn,hl2,hr1,hr2,bl1,bl2,br1,br2,k⟩:=h
  refine ⟨_,(ah (ap (i:=3) sc_stretched.nd rfl (Or.inl rfl) (ai cQ (ai aI (aO (K:=K) rfl (pv 1) rfl) (aO (K:=K) rfl (pv 2) rfl)) (aq uD (hr.mono) rfl rO sh uf .nil aj (aa (aZ (aa (aO (K:=K) rfl (pv 1) rfl) (aa (aO (K:=K) rfl (pv 2) rfl) ac))) ac))))
   (ah (ap (i:=4) sc_stretched.nd rfl (Or.inl rfl) (ai aI (aO (K:=K) rfl (pv 1) rfl) (ai cQ (pv 3) (aO (K:=K) rfl (pv 1) rfl))))
   (ah (ap (i:=5) sc_stretched.nd rfl (Or.inl rfl) (ai aI (aO (K:=K) rfl (pv 2) rfl) (ai cQ (pv 3) (aO (K:=K) rfl (pv 2) rfl))))
   (ah (ap (i:=6) sc_stretched.nd rfl (Or.inl rfl) (aZ ac))
   (ah (ap (i:=7) sc_stretched.nd rfl (Or.inl rfl) ad)
   (ah (cZ PassesOwn.never rfl (qY rfl T.reversed_ (aa (pv 0) ac)) (aW (i:=8) sc_stretched.nd rfl (Or.inl rfl))
     (ah (ap (i:=6) sc_stretched.nd rfl (Or.inl rfl) (aq LK (hr.mono) rfl Gv Hk KL .nil aj (aa (aq Ls (hr.mono) rfl Ge G5 Kv .nil aj (aa (pv 6) (aa (aZ (aa (pv 4) (aa (pv 5) ac))) ac))) (aa (aq ja (hr.mono) rfl ir iz iZ .nil aj (aa (aZ (aa (ai aI (pv 8) (pv 7)) ac)) ac)) ac))))
       (al (ap (i:=7) sc_stretched.nd rfl (Or.inl rfl) (ai aI (pv 7) (pv 3))))))
   (al (aB (pv 6))))))))),?_⟩
  obtain ⟨l',r',pl',pr',pg,el,er,em,e1,e2,pm⟩:=Kf hl2 hr2 (g:=aw [l2,r2]) (by show Nat.gcd (Nat.gcd 0 l2.natAbs) r2.natAbs=_;rw [Nat.gcd_zero_left])
  have bg:Bits 9000 ((aw [l2,r2]:Nat):Int):=Bits.mono (j:=1400) (bl2.of_le (by rw [Int.natAbs_natCast];exact Nat.le_of_dvd (by omega) (by show Nat.gcd (Nat.gcd 0 l2.natAbs) r2.natAbs∣_;rw [Nat.gcd_zero_left];exact Nat.gcd_dvd_left _ _))) (by decide)
  have bl':Bits 1400 l':=bl2.of_le (by
   rw [el,Int.natAbs_mul]
   exact Nat.le_mul_of_pos_left _ (by omega))
  have br':Bits 2900 r':=br2.of_le (by
   rw [er,Int.natAbs_mul]
   exact Nat.le_mul_of_pos_left _ (by omega))
  refine aA ⟨_,rfl,l,C,dl,_,_,rfl,hL,R.cl,R.nB,bX _ _,_,rfl,r,C,dr,_,_,rfl,hR,R.cl,R.nB,bX _ _,_,_,rfl,rfl,⟨bl2.mono,br2.mono⟩,?_⟩
  refine ⟨_,rfl,l,C,dl,_,_,rfl,hL,R.cl,R.nB,bX _ _,_,rfl,r,C,dr,_,_,rfl,hR,R.cl,R.nB,bX _ _,by show 2<=sizeLine;decide,fun p0 hp0=>?_⟩
  have s0':=Same.upd_new (o:=.lst [V.int l2,V.int r2]) hp0
  refine ⟨p0,[l2,r2],rfl,SqL.of au,_,_,rfl,rfl,⟨pg,bg⟩,?_⟩
  generalize upd H p0 (.lst [V.int l2,V.int r2])=H0 at s0' ⊢
  dsimp only
  rw [em]
  refine aA ⟨_,rfl,l,C,dl,_,_,rfl,s0' _ _ hL,R.cl,R.nT,cR _ _,_,rfl,_,rfl,l,C,dl,_,_,rfl,s0' _ _ hL,R.cl,R.nB,bX _ _,_,_,rfl,rfl,⟨hl2,bl2.mono⟩,?_⟩
  dsimp only
  rw [e1]
  refine ⟨_,_,rfl,rfl,⟨bl1.mono,br'.mono⟩,?_⟩
  refine aA ⟨_,rfl,r,C,dr,_,_,rfl,s0' _ _ hR,R.cl,R.nT,cR _ _,_,rfl,_,rfl,r,C,dr,_,_,rfl,s0' _ _ hR,R.cl,R.nB,bX _ _,_,_,rfl,rfl,⟨hr2,br2.mono⟩,?_⟩
  dsimp only
  rw [e2]
  refine ⟨_,_,rfl,rfl,⟨br1.mono,bl'.mono⟩,?_⟩
  have q0:l1*r'*l2=l1*(l2*r'):=by grind
  have q1:r1*l'*r2=r1*(l2*r'):=by
   calc r1*l'*r2=r1*l'*(((aw [l2,r2]:Nat):Int)*r'):=by rw [<- er]
    _=r1*((((aw [l2,r2]:Nat):Int)*l')*r'):=by grind
    _=r1*(l2*r'):=by rw [<- el]
  have q2:0<r1*l':=Int.mul_pos hr1 pl'
  have bm:Bits 4300 (l2*r'):=bl2.mul br'
  have bs0:Bits 4300 (l1*r'):=bl1.mul br'
  have bs1:Bits 4300 (r1*l'):=br1.mul bl'
  dsimp only
  generalize l2*r'=m at *
  generalize l1*r'=s0 at *
  generalize r1*l'=s1 at *
  have sb:∀ {l:List Int},AllB 1000 l->l.length<=12->AllB 60000 (bV m s0 s1 l):=fun {l} h hl=>(vM bm bs0 bs1 h).mono (by omega)
  refine aA ⟨Nat.zero_le _,fun p1 hp1=>?_⟩
  have s1':=s0'.then_new (o:=.lst []) hp1
  have h1:upd H0 p1 (.lst []) p1=some (.lst []):=au
  have f1:H p1=none:=s0'.free hp1
  generalize upd H0 p1 (.lst [])=H1 at s1' h1 ⊢
  refine aA ?_
  have hl:(ns.map V.int).length=ns.length:=List.length_map _
  refine ⟨_,rfl,a,_,rfl,SqL.of (s1' _ _ hA),sD (K:=K) (a:=a) (xs:=ns.map V.int) (fun i σ' H'=>∃ (p:Addr) (z:Option V),σ'=[some (.ref a),some (.ref l),some (.ref r),some (.int m),some (.int s0),some (.int s1),some (.ref p),some (.int (m^i)),z]/\Same H H'/\H p=none/\H' p=some (.lst ((bV m s0 s1 (ns.drop (ns.length-i))).map V.int))) ⟨p1,none,by rw [Int.pow_zero];rfl,s1',f1,by rw [Nat.sub_zero,List.drop_length];exact h1⟩ ?_ ?_ ?_⟩
  ·rintro i σ' H' _ ⟨p,z,rfl,sm,_⟩
   exact SqL.of (sm _ _ hA)
  ·rintro i x σ' H2 hi hx ⟨p,z,rfl,s2,fp,e2'⟩
   rw [hl] at hi hx
   obtain ⟨c,ec,rfl,hc,_⟩:=gJ hx
   have bc:=hbn c hc
   have hd:=zN hi ec
   have len:(ns.drop (ns.length-i)).length=i:=by rw [List.length_drop];omega
   have hbd:AllB 1000 (ns.drop (ns.length-i)):=fun x hx=>hbn x (List.mem_of_mem_drop hx)
   have aF:=sb hbd (by omega)
   have lF:(bV m s0 s1 (ns.drop (ns.length-i))).length=i:=by rw [jk,len]
   have bP:Bits 60000 (m^i):=(iX bm i).mono (by omega)
   have eF:gS (af (bV m s0 s1 (ns.drop (ns.length-i))) [s0,s1]) (trim [c*m^i])=bV m s0 s1 (ns.drop (ns.length-(i+1))):=by
    have hT':Tr (bV m s0 s1 (ns.drop (ns.length-(i+1)))):=Bo q2 (by rw [hd];simp) (Bt hT (by omega))
    rw [hd] at hT' ⊢
    have hT2:Tr (mb (-s0) s1 (c*m^i) (bV m s0 s1 (ns.drop (ns.length-i)))):=by
     have:bV m s0 s1 (c::ns.drop (ns.length-i))=mb (-s0) s1 (c*m^(ns.drop (ns.length-i)).length) (bV m s0 s1 (ns.drop (ns.length-i))):=rfl
     rw [this,len] at hT'
     exact hT'
    show _=mb (-s0) s1 (c*m^(ns.drop (ns.length-i)).length) (bV m s0 s1 (ns.drop (ns.length-i)))
    rw [len]
    by_cases hi0:i=0
    ·subst hi0
     have e0:bV m s0 s1 (ns.drop (ns.length-0))=[]:=by rw [Nat.sub_zero,List.drop_length];rfl
     rw [e0] at hT2 ⊢
     refine lv (fj _) hT2 fun k=>?_
     unfold gS
     rw [gj,gQ,aM,gj,Int.one_mul]
     show 0+_=_
     rw [Int.zero_add];rfl
    ·have hn':bV m s0 s1 (ns.drop (ns.length-i))≠[]:=fun z=>by rw [z] at lF;exact hi0 lF.symm
     have:=BO (a := -s0) (b:=s1) (c:=c*m^i) hn' hT2
     rw [Int.neg_neg] at this
     exact this
   show cW (gY _ (iG 6)) _ _ _ _
   have bs:AllB 4300 [s0,s1]:=fun x hx=>by
    simp only [List.mem_cons,List.not_mem_nil,or_false] at hx
    rcases hx with rfl | rfl
    ·exact bs0
    ·exact bs1
   generalize bV m s0 s1 (ns.drop (ns.length-i))=Fs at *
   refine aA ⟨_,rfl,_,rfl,_,rfl,by show 2<=sizeLine;decide,fun p3 hp3=>?_⟩
   have s3:=s2.then_new (o:=.lst ([s0,s1].map V.int)) hp3
   have e3:upd H2 p3 (.lst ([s0,s1].map V.int)) p=some (.lst (Fs.map V.int)):=(Same.upd_new hp3) _ _ e2'
   have h3:upd H2 p3 (.lst ([s0,s1].map V.int)) p3=some (.lst ([s0,s1].map V.int)):=au
   refine ⟨p,p3,Fs,[s0,s1],rfl,e3,h3,by omega,by show 2<=1000000;decide,aF.mono,bs.mono,fun p4 H4 s4 hp4 e4=>?_⟩
   have t4:=s3.trans s4
   refine ⟨_,rfl,_,rfl,_,_,rfl,rfl,⟨bc.mono,bP.mono⟩,by show 1<=sizeLine;decide,fun p5 hp5=>?_⟩
   have s5:=t4.then_new (o:=.lst ([c*m^i].map V.int)) hp5
   have e5:upd H4 p5 (.lst ([c*m^i].map V.int)) p4=some (.lst ((af Fs [s0,s1]).map V.int)):=(Same.upd_new hp5) _ _ e4
   have h5:upd H4 p5 (.lst ([c*m^i].map V.int)) p5=some (.lst ([c*m^i].map V.int)):=au
   refine ⟨p5,[c*m^i],rfl,SqL.of h5,fun p6 H6 s6 hp6 e6=>?_⟩
   have t6:=s5.trans s6
   refine ⟨p4,p6,af Fs [s0,s1],trim [c*m^i],rfl,SqL.of (s6 _ _ e5),SqL.of e6,?_,?_,fun p7 H7 s7 hp7 e7=>?_⟩
   ·have:(af Fs [s0,s1]).length<=1000:=by
     unfold af
     split
     ·exact Nat.zero_le _
     ·rw [List.length_map,List.length_range];show _+2-1<=_;omega
    omega
   ·have:=rS [c*m^i]
    have:(trim [c*m^i]).length<=1:=this
    omega
   rw [eF] at e7
   refine cO ⟨_,rfl,_,rfl,_,_,rfl,rfl,⟨bP.mono,bm.mono⟩,?_⟩
   refine ⟨p7,some (.int c),?_,t6.trans s7,t6.free hp7,e7⟩
   rw [Int.pow_succ];rfl
  ·rintro σ' H' ⟨p,z,rfl,sm,fp,e⟩
   rw [hl,Nat.sub_self,List.drop_zero] at e
   exact ⟨_,rfl,k m s0 s1 pm q0 q1 q2 (sb hbn hln) p H' sm fp e⟩
def v9:Sp:=fun vs H Q _=>∃ (a:Addr) (ns:List Int),vs=[.ref a]/\H a=some (.lst (ns.map V.int))/\ns.length<=1000/\AllB 500000 ns/\mkL H Q (cw ns)
theorem Ed {f:Addr} {fd:FuncData} (F:Fun K "spread" "spread" pC f fd) (T:Txt K mg):FnOk P w K mg base CX0 1 f fd ["row"] v9:=by
 refine F.ok sc_spread (fun vs H Q E h=>?_) (fun cdv A outer s H vs Q E hr h=>?_)
 ·obtain ⟨a,ns,rfl,_⟩:=h
  rfl
 ·obtain ⟨a,ns,rfl,hA,hn,hb,k⟩:=h
  have big:=sizeLine_eq
  refine ⟨_,(ah (ap (i:=1) sc_spread.nd rfl (Or.inl rfl) (aZ ac))
   (ah (ap (i:=2) sc_spread.nd rfl (Or.inl rfl) ad)
   (ah (cZ PassesOwn.never rfl (qY rfl T.reversed_ (aa (pv 0) ac)) (aW (i:=3) sc_spread.nd rfl (Or.inl rfl))
     (ah (gE (kH PySem.F.plainAttrs_list PySem.F.slot_list_append PySem.F.type_list_append kM (pv 1) (aa (ai aI (pv 2) (pv 3)) ac)))
       (al (ap (i:=2) sc_spread.nd rfl (Or.inl rfl) (ai aI ad (pv 2))))))
   (ah (gE (xZ PySem.F.plainAttrs_list PySem.F.slot_list_reverse PySem.F.type_list_reverse FA (pv 1)))
   (al (aB (pv 1))))))),?_⟩
  refine aA ⟨Nat.zero_le _,fun p1 hp1=>?_⟩
  have s1':=Same.upd_new (o:=.lst []) hp1
  have h1:upd H p1 (.lst []) p1=some (.lst []):=au
  generalize upd H p1 (.lst [])=H1 at s1' h1 ⊢
  refine aA ?_
  have hl:(ns.map V.int).length=ns.length:=List.length_map _
  refine ⟨_,rfl,a,_,rfl,SqL.of (s1' _ _ hA),sD (K:=K) (a:=a) (xs:=ns.map V.int) (fun i σ' H'=>∃ z:Option V,σ'=[some (.ref a),some (.ref p1),some (.int (2^i)),z]/\Same H H'/\H' p1=some (.lst ((cw (ns.drop (ns.length-i))).reverse.map V.int))) ⟨none,rfl,s1',by rw [Nat.sub_zero,List.drop_length];exact h1⟩ ?_ ?_ ?_⟩
  ·rintro i σ' H' _ ⟨z,rfl,sm,_⟩
   exact SqL.of (sm _ _ hA)
  ·rintro i x σ' H2 hi hx ⟨z,rfl,s2,h2⟩
   rw [hl] at hi hx
   obtain ⟨c,ec,rfl,hc,_⟩:=gJ hx
   have hd:=zN hi ec
   have len:(ns.drop (ns.length-i)).length=i:=by rw [List.length_drop];omega
   show cW (mw _) _ _ _ _
   refine ju ⟨_,rfl,.inl ⟨rfl,_,SqL.of h2⟩,_,rfl,_,rfl,_,_,rfl,rfl,⟨(kD (n:=i) (k:=1001) (by omega)).mono,(hb c hc).mono⟩,p1,_,_,rfl,rfl,h2,by rw [List.length_map,List.length_reverse,mB,len];omega,?_⟩
   refine cO ⟨_,rfl,_,_,rfl,rfl,⟨fJ,(kD (n:=i) (k:=1001) (by omega)).mono⟩,?_⟩
   refine ⟨some (.int c),?_,fT s2 hp1,?_⟩
   ·show [some (V.ref a),some (V.ref p1),some (V.int (2*2^i)),some (V.int c)]=_
    rw [Int.pow_succ,Int.mul_comm]
   ·rw [au,hd,FJ]
    show some (HO.lst (((cw (ns.drop (ns.length-i))).reverse++[2^i*c]).map V.int))=some (HO.lst ((2^(ns.drop (ns.length-i)).length*c::cw (ns.drop (ns.length-i))).reverse.map V.int))
    rw [List.reverse_cons,len]
  ·rintro σ' H2 ⟨z,rfl,s2,h2⟩
   rw [hl,Nat.sub_self,List.drop_zero] at h2
   dsimp only
   refine ju ⟨_,rfl,.inl ⟨rfl,_,SqL.of h2⟩,p1,_,rfl,rfl,h2,?_⟩
   refine ⟨_,rfl,k p1 _ (fT s2 hp1) hp1 ?_⟩
   rw [au,<- List.map_reverse,List.reverse_reverse]
def dA (m:List Int) (j:Nat):List Int:=m.take (m.length-1-j)++suf (m.drop (m.length-1-j))
theorem rf:∀ (i:Nat) (m:List Int),dD i m=m.take i++suf (m.drop i)
 | 0,m=>by rw [List.take_zero,List.drop_zero];rfl
 | i+1,[]=>rfl
 | i+1,c::m=>by show c::dD i m=c::(m.take i++suf (m.drop i));rw [rf i m]
theorem HI (m:List Int) (j:Nat):(dA m j).length=m.length:=by
 unfold dA
 rw [List.length_append,jj,<- List.length_append,List.take_append_drop]
theorem HG (m:List Int):dA m 0=m:=by
 unfold dA
 rw [Nat.sub_zero]
 cases hd:m.drop (m.length-1) with
 | nil =>
   have:m.length-1=m.length\/True:=.inr trivial
   have h1:m.length<=m.length-1:=List.drop_eq_nil_iff.mp hd
   have:m=[]:=List.eq_nil_of_length_eq_zero (by omega)
   subst this;rfl
 | cons c r =>
   have hl:=congrArg List.length hd
   rw [List.length_drop,List.length_cons] at hl
   have:r=[]:=List.eq_nil_of_length_eq_zero (by omega)
   subst this
   show _++[c+0]=_
   rw [Int.add_zero,<- hd,List.take_append_drop]
theorem HJ (m:List Int) {i:Nat} (h:i+1<=m.length):dA m (m.length-1-i)=dD i m:=by
 unfold dA
 rw [rf]
 have:m.length-1-(m.length-1-i)=i:=by omega
 rw [this]
theorem HH (m:List Int) {j:Nat} (h:j+2<=m.length):(dA m j).set (m.length-2-j) (cf (dA m j) (m.length-2-j)+cf (dA m j) (m.length-1-j))=dA m (j+1):=by
 have e1:m.length-1-(j+1)=m.length-2-j:=by omega
 have e2:m.length-1-j=m.length-2-j+1:=by omega
 have hk:m.length-2-j<m.length:=by omega
 unfold dA
 rw [e1,e2]
 generalize m.length-2-j=k at hk e2
 have hd:m.drop k=m[k]::m.drop (k+1):=List.drop_eq_getElem_cons hk
 have ht:m.take (k+1)=m.take k++[m[k]]:=by rw [List.take_add_one,List.getElem?_eq_getElem hk];rfl
 rw [hd,ht]
 have lt:(m.take k).length=k:=by rw [List.length_take];omega
 have c1:cf (m.take k++[m[k]]++suf (m.drop (k+1))) k=m[k]:=by
  rw [List.append_assoc,lG (by omega),lt,Nat.sub_self];rfl
 have c2:cf (m.take k++[m[k]]++suf (m.drop (k+1))) (k+1)=(suf (m.drop (k+1))).headD 0:=by
  rw [lG (by rw [List.length_append,lt];exact Nat.le_refl _),List.length_append,lt]
  show cf _ (k+1-(k+1))=_
  rw [Nat.sub_self]
  cases suf (m.drop (k+1)) with
  | nil=>rfl
  | cons _ _=>rfl
 rw [c1,c2]
 show _=m.take k++((m[k]+(suf (m.drop (k+1))).headD 0)::suf (m.drop (k+1)))
 rw [List.append_assoc,List.set_append_right _ _ (by omega),lt,Nat.sub_self]
 rfl
theorem vJ {M:Nat}:∀ {l:List Int},(∀ x∈l,x.natAbs<=M)->∀ x∈suf l,x.natAbs<=l.length*M
 | [],_,x,hx=>nomatch hx
 | v::l,h,x,hx=>by
   have ih:=vJ (l:=l) fun x hx=>h x (List.mem_cons_of_mem _ hx)
   have hv:=h v (List.mem_cons_self ..)
   have hh:((suf l).headD 0).natAbs<=l.length*M:=by
    cases hs:suf l with
    | nil=>show (0:Int).natAbs<=_;exact Nat.zero_le _
    | cons g r=>exact ih g (by rw [hs];exact List.mem_cons_self ..)
   rw [List.length_cons,Nat.add_mul,Nat.one_mul]
   rcases List.mem_cons.mp hx with e | e
   ·subst e;omega
   ·have:=ih x e;omega
theorem DW {i k:Nat} {m:List Int} (h:AllB i m) (hl:m.length<=16):AllB (i+4) (dD k m):=by
 rw [rf]
 refine AllB.app (fun x hx=>(h x (List.mem_of_mem_take hx)).mono (by omega)) fun x hx=>?_
 have h1:=vJ (M:=2^i-1) (l:=m.drop k) (fun y hy=>by have:y.natAbs<2^i:=h y (List.mem_of_mem_drop hy);omega) x hx
 have h2:(m.drop k).length*(2^i-1)<=16*(2^i-1):=Nat.mul_le_mul_right _ (by rw [List.length_drop];omega)
 have h3:0<2^i:=Nat.pow_pos (by decide)
 show x.natAbs<2^(i+4)
 have h4:2^(i+4)=2^i*16:=by rw [Nat.pow_add]
 omega
theorem yE {i:Nat} {m:List Int} (h:AllB i m) (hl:m.length<=16):∀ n,AllB (i+4*n) (eQ n m)
 | 0=>h
 | n+1=>by
   have:=DW (k:=n) (yE h hl n) (by rw [nE];exact hl)
   exact this.mono (by omega)
theorem FC {i:Nat} {m:List Int} (h:AllB i m) (hl:m.length<=12):AllB (i+44) (kN m):=(yE h (by omega) _).mono (by omega)
theorem vT {i:Nat}:∀ {m:List Int},AllB i m->m.length<=12->AllB (i+13) (cw m)
 | [],_,_=>AllB.nil
 | v::m,h,hl=>by
   have ih:=vT (m:=m) (fun x hx=>h x (List.mem_cons_of_mem _ hx)) (by rw [List.length_cons] at hl;omega)
   intro x hx
   rcases List.mem_cons.mp hx with e | e
   ·subst e
    have:=(kD (n:=m.length) (k:=13) (by rw [List.length_cons] at hl;omega)).mul (h v (List.mem_cons_self ..))
    exact this.mono (by omega)
   ·exact ih x e
def wx:Sp:=fun vs H Q _=>∃ (a:Addr) (ns:List Int),vs=[.ref a]/\H a=some (.lst (ns.map V.int))/\1<=ns.length/\ns.length<=1000/\mkL H Q (kN ns)
theorem o9 (l:List Int) (k:Nat) (v:Int):(l.map V.int).set k (.int v)=(l.set k v).map V.int:=by rw [List.map_set]
theorem AK {l:List Int} {k:Nat} {j:Int} (e:j=(k:Int)) (h:k<l.length):atI (l.map V.int) j=some (.int (cf l k)):=by
 subst e
 refine jU ?_
 rw [List.getElem?_map,List.getElem?_eq_getElem h]
 show some (V.int l[k])=_
 rw [Ao (List.getElem?_eq_getElem h)]
theorem EA {f:Addr} {fd:FuncData} (F:Fun K "moved" "moved" pX f fd) (T:Txt K mg) {gd:Addr} {ga:FuncData} (gz:Cal P w K mg base 1 "degree" ["row"] jo gd ga):FnOk P w K mg base CX0 2 f fd ["row"] wx:=by
 obtain ⟨dO,dG,dJ,dN⟩:=gz
 refine F.ok sc_moved (fun vs H Q E h=>?_) (fun cdv A outer s H vs Q E hr h=>?_)
 ·obtain ⟨a,ns,rfl,_⟩:=h
  rfl
 ·obtain ⟨a,ns,rfl,hA,hn1,hn,k⟩:=h
  have big:=sizeLine_eq
  refine ⟨_,(ah (ap (i:=1) sc_moved.nd rfl (Or.inl rfl) (io (tY (K:=K) rfl) (by rfl) T.list_ PyProof.Rows.boot_list (aa (pv 0) ac)))
   (ah (cZ PassesOwn.never rfl (jy rfl T.range_ (aa (aq dO (hr.mono) rfl dG dJ dN .nil aj (aa (pv 0) ac)) ac)) (aW (i:=2) sc_moved.nd rfl (Or.inl rfl))
     (al (cZ PassesOwn.never rfl (xW rfl T.range_ (aa (ai b7 (aq dO (hr.mono) rfl dG dJ dN .nil aj (aa (pv 0) ac)) ad) (aa (ai b7 (pv 2) ad) (aa (bQ bM ad) ac)))) (aW (i:=3) sc_moved.nd rfl (Or.inl rfl))
       (al (fQ (ai bj (aG (ck (K:=K) rfl) (pv 1) (pv 3) (fun _ _=>rfl)) (aG (ck (K:=K) rfl) (pv 1) (ai bj (pv 3) ad) (fun _ _=>rfl))) (kG (pv 1) (pv 3) kn))))))
   (al (aB (pv 1))))),?_⟩
  refine aA ⟨_,rfl,a,_,rfl,.inl (SqL.of hA),fun p hp=>?_⟩
  have s1':=Same.upd_new (o:=.lst (ns.map V.int)) hp
  have h1:upd H p (.lst (ns.map V.int)) p=some (.lst (ns.map V.int)):=au
  generalize upd H p (.lst (ns.map V.int))=H1 at s1' h1 ⊢
  have hl:(ns.map V.int).length=ns.length:=List.length_map _
  have ed:((ns.map V.int).length:Int)-1=((ns.length-1:Nat):Int):=by rw [hl];omega
  refine ⟨_,rfl,a,_,rfl,s1' _ _ hA,_,rfl,(by rw [ed];omega),(by rw [ed];omega),?_⟩
  rw [ed]
  refine n5 (lo:=0) (n:=ns.length-1) (fun i σ' H'=>∃ z2 z3:Option V,σ'=[some (.ref a),some (.ref p),z2,z3]/\Same H H'/\H' p=some (.lst ((eQ i ns).map V.int))) ⟨none,none,rfl,s1',h1⟩ ?_ ?_
  ·rintro i σ' H2 hi ⟨z2,z3,rfl,s2,h2⟩
   have lm:(eQ i ns).length=ns.length:=nE _ _
   generalize hM:eQ i ns=M at h2 lm
   refine ⟨_,rfl,a,_,rfl,s2 _ _ hA,_,_,rfl,rfl,_,rfl,_,_,rfl,rfl,_,rfl,((ns.length-2:Nat):Int),(i:Int)-1,?_,⟨by omega,by omega,by omega,by omega⟩,?_⟩
   ·rw [ed]
    have e1:((ns.length-1:Nat):Int)-1=((ns.length-2:Nat):Int):=by omega
    have e2:(0:Int)+(i:Int)-1=(i:Int)-1:=by omega
    dsimp only
    rw [e1,e2]
   have en:(((ns.length-2:Nat):Int)-((i:Int)-1)).toNat=ns.length-1-i:=by omega
   rw [en]
   refine zv (fun j σ' H'=>∃ z3:Option V,σ'=[some (.ref a),some (.ref p),some (.int (0+(i:Int))),z3]/\Same H H'/\H' p=some (.lst ((dA M j).map V.int))) ⟨z3,rfl,s2,by rw [HG];exact h2⟩ ?_ ?_
   ·rintro j σ' H3 hj ⟨z3,rfl,s3,h3⟩
    have lh:(dA M j).length=ns.length:=by rw [HI,lm]
    have hs:=HH M (j:=j) (by omega)
    rw [lm] at hs
    have k1:((ns.length-2:Nat):Int)+(j:Int) * -1=((ns.length-2-j:Nat):Int):=by omega
    have k2:((ns.length-2:Nat):Int)+(j:Int) * -1+1=((ns.length-1-j:Nat):Int):=by omega
    refine ⟨_,rfl,_,rfl,p,_,_,_,rfl,rfl,SqL.of h3,AK k1 (by omega),_,rfl,_,rfl,_,_,rfl,rfl,p,_,_,_,rfl,rfl,SqL.of h3,AK k2 (by omega),_,_,rfl,rfl,_,rfl,_,rfl,p,_,_,ns.length-2-j,rfl,rfl,h3,?_,?_⟩
    ·exact lc k1 (by rw [List.length_map];omega)
    refine ⟨_,rfl,fT s3 hp,?_⟩
    rw [au,o9,hs]
   ·rintro σ' H3 ⟨z3,rfl,s3,h3⟩
    refine ⟨_,_,rfl,s3,?_⟩
    have:dA M (ns.length-1-i)=eQ (i+1) ns:=by
     rw [<- lm,HJ M (by omega),<- hM];rfl
    rw [<- this];exact h3
  ·rintro σ' H2 ⟨z2,z3,rfl,s2,h2⟩
   exact ⟨_,rfl,k p H2 s2 hp h2⟩
structure RootB (ns:List Int) (ε:Int) (up:Int->Int->Prop):Prop where
 e1:ε=1\/ε = -1
 r1:∀ p c,0<p->p<=c->up p c->sg (hv p c ns) = -ε
 r2:∀ p c,0<p->p<=c->¬ up p c->sg (hv p c ns)=ε\/sg (hv p c ns)=0
 r3:∀ p c p' c',0<p->p<=c->0<p'->p'<=c'->¬ up p c->p*c'<p'*c->sg (hv p' c' ns)=ε
 sc:∀ p c,0<c->(up (2*p) (2*c)↔up p c)
 top:¬ up 1 1
theorem HB (p c:Int) (l:List Int):sg (hv (2*p) (2*c) l)=sg (hv p c l):=by
 rw [nS];exact dS (Int.pow_pos (by decide))
def wD:Sp:=fun vs H Q _=>∃ (a:Addr) (ns:List Int) (e:Int) (n:Nat) (ε:Int) (up:Int->Int->Prop),vs=[.ref a,.int e,.int n]/\H a=some (.lst (ns.map V.int))/\1<=ns.length/\ns.length<=12/\AllB 60000 ns/\n<=4000/\RootB ns ε up/\e=sg (hv 1 1 ns) /\
 ∀ (p:Addr) (H':Hp) (pl:Nat),Same H H'->H p=none->H' p=some (.tup [.int pl,.int (2^n)])->pl<2^n->(pl=0\/up pl (2^n))->¬ up ((pl:Int)+1) (2^n)->Q (.ref p) H'
theorem EI {f:Addr} {fd:FuncData} (F:Fun K "halved" "halved" qe f fd) (T:Txt K mg) {Jd:Addr} {Ii:FuncData} (LW:Cal P w K mg base 1 "spread" ["row"] v9 Jd Ii) {iM:Addr} {iH:FuncData} (jd:Cal P w K mg base 1 "whole_sign" ["value"] kd iM iH) {Jo:Addr} {Ix:FuncData} (Ma:Cal P w K mg base 2 "moved" ["row"] wx Jo Ix):FnOk P w K mg base CX0 3 f fd ["row","end","steps"] wD:=by
 obtain ⟨Lh,FU,GV,Kl⟩:=LW
 obtain ⟨i9,iq,iy,iY⟩:=jd
 obtain ⟨Lu,Gf,G6,Kw⟩:=Ma
 refine F.ok sc_halved (fun vs H Q E h=>?_) (fun cdv A outer s H vs Q E hr h=>?_)
 ·obtain ⟨a,ns,e,n,ε,up,rfl,_⟩:=h
  rfl
 ·obtain ⟨a,ns,e,n,ε,up,rfl,hA,h1n,hln,hbn,hn,hB,he,k⟩:=h
  refine ⟨_,(ah (ap (i:=3) sc_halved.nd rfl (Or.inl rfl) ad)
   (ah (ap (i:=4) sc_halved.nd rfl (Or.inl rfl) ad)
   (ah (ap (i:=5) sc_halved.nd rfl (Or.inl rfl) (pv 1))
   (ah (ap (i:=6) sc_halved.nd rfl (Or.inl rfl) (pv 0))
   (ah (cZ PassesOwn.never rfl (jy rfl T.range_ (aa (pv 2) ac)) (aW (i:=7) sc_halved.nd rfl (Or.inl rfl))
     (ah (ap (i:=3) sc_halved.nd rfl (Or.inl rfl) (ai aI ad (pv 3)))
       (ah (ap (i:=4) sc_halved.nd rfl (Or.inl rfl) (ai aI ad (pv 4)))
       (ah (ap (i:=6) sc_halved.nd rfl (Or.inl rfl) (aq Lh (hr.mono) rfl FU GV Kl .nil aj (aa (pv 6) ac)))
       (ah (ap (i:=8) sc_halved.nd rfl (Or.inl rfl) (aq i9 (hr.mono) rfl iq iy iY .nil aj (aa (bT (J9 (K:=K) rfl rfl) (by rfl) T.sum_ PyProof.Rows.boot_sum (aa (pv 6) ac)) ac)))
       (al (aQ (PW.pt (ic (aH jA (pv 8) ad (aE _)) (ib (aH jA (pv 8) (pv 5) (aE _)))))
         (ah (ap (i:=3) sc_halved.nd rfl (Or.inl rfl) (ai bj (pv 3) ad))
           (al (ap (i:=6) sc_halved.nd rfl (Or.inl rfl) (aq Lu (hr.mono) rfl Gf G6 Kw .nil aj (aa (pv 6) ac)))))
         (al (ap (i:=5) sc_halved.nd rfl (Or.inl rfl) (pv 8))))))))))
   (al (aB (db (aa (pv 3) (aa (pv 4) ac)))))))))),?_⟩
  refine aA ?_
  refine aA ?_
  refine aA ⟨_,rfl,?_⟩
  refine aA ⟨_,rfl,?_⟩
  refine ⟨_,rfl,n,rfl,by omega,by omega,n5 (lo:=0) (n:=n) (fun i σ' H'=>∃ (p:Addr) (pl:Nat) (L:List Int) (z7 z8:Option V),σ'=[some (.ref a),some (.int e),some (.int n),some (.int pl),some (.int (2^i)),some (.int (sg (hv ((pl:Int)+1) (2^i) ns))),some (.ref p),z7,z8]/\Same H H'/\H' p=some (.lst (L.map V.int))/\L.length=ns.length/\AllB (60000+60*i) L/\(∀ p q:Int,2^i*hv p q L=hv (pl*q+p) (2^i*q) ns)/\pl<2^i/\(pl=0\/up pl (2^i))/\¬ up ((pl:Int)+1) (2^i)) ⟨a,0,ns,none,none,by rw [he];rfl,Same.refl _,hA,rfl,hbn,fun p q=>by rw [Int.pow_zero,Int.one_mul,Int.one_mul];show _=hv (0*q+p) q ns;rw [Int.zero_mul,Int.zero_add],by decide,.inl rfl,by rw [Int.pow_zero];exact hB.top⟩ ?_ ?_⟩
  ·rintro i σ' H1 hi ⟨p,pl,L,z7,z8,rfl,s1,h1,lL,bL,hval,hpl,hup,hnup⟩
   show cW (gY _ (iG 3)) _ _ _ _
   have b2i:Bits 4002 ((2:Int)^i):=kD (by omega)
   have p2i:=jw i
   have cpl:(pl:Int)<2^i:=by rw [ii];exact Int.ofNat_lt.mpr hpl
   have bpl:Bits 4002 (pl:Int):=b2i.of_le (by rw [ii];omega)
   refine aA ⟨_,rfl,_,_,rfl,rfl,⟨fJ,bpl.mono⟩,?_⟩
   refine aA ⟨_,rfl,_,_,rfl,rfl,⟨fJ,b2i.mono⟩,?_⟩
   refine aA ⟨_,rfl,p,L,rfl,h1,by omega,bL.mono (by omega),fun p2 H2 s2 hp2 e2=>?_⟩
   have t2:=s1.trans s2
   have lS:(cw L).length=ns.length:=by rw [mB,lL]
   have bS:AllB (60000+60*i+13) (cw L):=vT bL (by omega)
   have e2i:(2:Int)*2^i=2^(i+1):=by rw [Int.pow_succ,Int.mul_comm]
   have vS:∀ p q:Int,2^(i+1)*hv p q (cw L)=hv (((2*pl:Nat):Int)*q+p) (2^(i+1)*q) ns:=fun p q=>by
    have h3:=hval p (2*q)
    rw [<- zk] at h3
    have h4:(2:Int)^(i+1)*hv p q (cw L)=2^i*(2*hv p q (cw L)):=by rw [Int.pow_succ];grind
    rw [h4,h3]
    have h5:(pl:Int)*(2*q)+p=((2*pl:Nat):Int)*q+p:=by
     have:((2*pl:Nat):Int)=2*(pl:Int):=by omega
     rw [this];grind
    have h6:(2:Int)^i*(2*q)=2^(i+1)*q:=by rw [Int.pow_succ];grind
    rw [h5,h6]
   refine aA ⟨_,rfl,p2,cw L,rfl,SqL.of e2,_,rfl,?_⟩
   have p2i1:=jw (i+1)
   have ethere:sg (cw L).sum=sg (hv (((2*pl:Nat):Int)+1) (2^(i+1)) ns):=by
    have h3:=vS 1 1
    rw [Int.mul_one,Int.mul_one] at h3
    rw [<- zi,<- h3,dS p2i1]
   have c2pl:(((2*pl:Nat):Int)+1)<=2^(i+1):=by rw [<- e2i];omega
   have hold:sg (hv ((pl:Int)+1) (2^i) ns)=sg (hv (2*((pl:Int)+1)) (2^(i+1)) ns):=by rw [<- e2i,HB]
   have plc:(pl:Int)+1<=2^i:=by omega
   generalize hth:sg (cw L).sum=th at ethere
   show j7 _ _ _ _ _ _
   have epl:(2:Int)*(pl:Int)=((2*pl:Nat):Int):=by omega
   have n2i:2^(i+1)=2*2^i:=by rw [Nat.pow_succ,Nat.mul_comm]
   refine gD (fun σ' H'=>σ'=[some (.ref a),some (.int e),some (.int n),some (.int (2*(pl:Int))),some (.int (2*2^i)),some (.int (sg (hv ((pl:Int)+1) (2^i) ns))),some (.ref p2),some (.int (0+(i:Int))),some (.int th)]/\H2=H') ⟨by rw [<- hth];rfl,rfl⟩ ?_
   rintro σ' H' ⟨rfl,rfl⟩
   by_cases hu:up (((2*pl:Nat):Int)+1) (2^(i+1))
   ·
    have r1:=hB.r1 _ _ (by omega) c2pl hu
    rw [<- ethere] at r1
    have r2:=hB.r2 _ _ (by omega) plc hnup
    have n0:th≠0:=by rcases hB.e1 with z | z<;>omega
    have n1:th≠sg (hv ((pl:Int)+1) (2^i) ns):=by rcases hB.e1 with z | z<;>rcases r2 with y | y<;>omega
    refine kt (dX ⟨_,rfl,_,_,rfl,rfl,_,rfl,dq (fun _=>?_) (fun h0=>absurd h0 n0)⟩)
    refine ⟨_,rfl,_,rfl,_,_,rfl,rfl,_,rfl,dq (fun _=>?_) (fun h0=>absurd h0 n1)⟩
    refine aA ⟨_,rfl,_,_,rfl,rfl,?_⟩
    refine cO ⟨_,rfl,p2,cw L,rfl,e2,by omega,by omega,fun p3 H3 s3 hp3 e3=>?_⟩
    refine ⟨p3,2*pl+1,kN (cw L),some (.int (0+(i:Int))),some (.int th),?_,t2.trans s3,e3,by rw [yF,lS],(FC bS (by omega)).mono (by omega),fun p q=>?_,by omega,.inr ?_,?_⟩
    ·have q1:(2:Int)*(pl:Int)+1=((2*pl+1:Nat):Int):=by omega
     have q2:((2*pl+1:Nat):Int)+1=2*((pl:Int)+1):=by omega
     rw [q2,<- hold,<- q1,<- e2i];rfl
    ·rw [HC,vS]
     have:((2*pl:Nat):Int)*q+(p+q)=((2*pl+1:Nat):Int)*q+p:=by
      have:((2*pl+1:Nat):Int)=((2*pl:Nat):Int)+1:=by omega
      rw [this];grind
     rw [this]
    ·exact hu
    ·have q2:((2*pl+1:Nat):Int)+1=2*((pl:Int)+1):=by omega
     rw [q2,<- e2i,hB.sc _ _ p2i]
     exact hnup
   ·
    have r2:=hB.r2 _ _ (by omega) c2pl hu
    rw [<- ethere] at r2
    have r3:=hB.r3 _ _ ((pl:Int)+1) (2^i) (by omega) c2pl (by omega) plc hu (by
     have h7:(((2*pl:Nat):Int)+1)*2^i<(2*(pl:Int)+2)*2^i:=Int.mul_lt_mul_of_pos_right (by omega) p2i
     have h8:((pl:Int)+1)*2^(i+1)=(2*(pl:Int)+2)*2^i:=by rw [Int.pow_succ];grind
     omega)
    have low:∃ (p:Addr) (q:Nat) (L':List Int) (z7 z8:Option V),[some (V.ref a),some (V.int e),some (V.int n),some (V.int (2*(pl:Int))),some (V.int (2*2^i)),some (V.int th),some (V.ref p2),some (V.int (0+(i:Int))),some (V.int th)]=[some (.ref a),some (.int e),some (.int n),some (.int q),some (.int (2^(i+1))),some (.int (sg (hv ((q:Int)+1) (2^(i+1)) ns))),some (.ref p),z7,z8]/\Same H H2/\H2 p=some (.lst (L'.map V.int))/\L'.length=ns.length/\AllB (60000+60*(i+1)) L'/\(∀ p q':Int,2^(i+1)*hv p q' L'=hv (q*q'+p) (2^(i+1)*q') ns)/\q<2^(i+1)/\(q=0\/up q (2^(i+1)))/\¬ up ((q:Int)+1) (2^(i+1)):=by
     refine ⟨p2,2*pl,cw L,some (.int (0+(i:Int))),some (.int th),by rw [e2i,epl,ethere],t2,e2,lS,bS.mono (by omega),vS,by omega,?_,hu⟩
     rcases hup with z | z
     ·exact .inl (by omega)
     ·refine .inr ?_
      rw [<- epl,<- e2i,hB.sc _ _ p2i]
      exact z
    by_cases n0:th=0
    ·refine kt (dX ⟨_,rfl,_,_,rfl,rfl,_,rfl,dq (fun h0=>absurd n0 h0) (fun _=>?_)⟩)
     exact dU (cO ⟨_,rfl,low⟩)
    ·have n1:th=sg (hv ((pl:Int)+1) (2^i) ns):=by
      rcases r2 with z | z
      ·rw [z,r3]
      ·exact absurd z n0
     refine kt (dX ⟨_,rfl,_,_,rfl,rfl,_,rfl,dq (fun _=>?_) (fun h0=>absurd h0 n0)⟩)
     refine ⟨_,rfl,_,rfl,_,_,rfl,rfl,_,rfl,dq (fun h0=>absurd n1 h0) (fun _=>?_)⟩
     exact cO ⟨_,rfl,low⟩
  ·rintro σ' H1 ⟨p,pl,L,z7,z8,rfl,s1,h1,lL,bL,hval,hpl,hup,hnup⟩
   dsimp only
   refine aU ⟨_,rfl,_,rfl,by show 2<=sizeLine;decide,fun p' hp'=>?_⟩
   exact k p' _ pl (s1.then_new hp') (s1.free hp') au hpl hup hnup
structure RootU (ns:List Int) (l1 l2 h1 h2 ε:Int) (Up:Int->Int->Prop):Prop where
 e1:ε=1\/ε = -1
 r1:∀ x1 x2,0<x2->l1*x2<x1*l2->x1*h2<=h1*x2->Up x1 x2->sg (hv x1 x2 ns) = -ε
 r2:∀ x1 x2,0<x2->l1*x2<x1*l2->x1*h2<=h1*x2->¬ Up x1 x2->sg (hv x1 x2 ns)=ε\/sg (hv x1 x2 ns)=0
 r3:∀ x1 x2 y1 y2,0<x2->0<y2->l1*x2<x1*l2->y1*h2<=h1*y2->¬ Up x1 x2->x1*y2<y1*x2->sg (hv y1 y2 ns)=ε
 sc:∀ x1 x2 y1 y2,0<x2->0<y2->x1*y2=y1*x2->Up x1 x2->Up y1 y2
 low:Up l1 l2
 top:¬ Up h1 h2
structure EndsG (k:Nat) (l1 l2 h1 h2:Int):Prop where
 l2p:0<l2
 h2p:0<h2
 bl1:Bits k l1
 bl2:Bits k l2
 bh1:Bits k h1
 bh2:Bits k h2
 lt:l1*h2<h1*l2
 gl:Nat.gcd l1.natAbs l2.natAbs=1
 gh:Nat.gcd h1.natAbs h2.natAbs=1
theorem EndsG.mono {j k:Nat} {l1 l2 h1 h2:Int} (e:EndsG j l1 l2 h1 h2) (h:j<=k:=by decide):EndsG k l1 l2 h1 h2:=⟨e.l2p,e.h2p,e.bl1.mono h,e.bl2.mono h,e.bh1.mono h,e.bh2.mono h,e.lt,e.gl,e.gh⟩
structure NarP (l1 l2 h1 h2 w1 w2:Int) (Up:Int->Int->Prop) (kb:Nat) (n pl:Nat) (x1 x2 y1 y2:Int):Prop where
 ends:EndsG kb x1 x2 y1 y2
 ux:Up x1 x2
 uy:¬ Up y1 y2
 lo:l1*x2<=x1*l2
 hi:y1*h2<=h1*y2
 wide:(y1*x2-x1*y2)*w2<=w1*(x2*y2)
 pls:pl<2^n
 ex:x1*(l2*h2*2^n)=(l1*h2*2^n+(h1*l2-l1*h2)*pl)*x2
 ey:y1*(l2*h2*2^n)=(l1*h2*2^n+(h1*l2-l1*h2)*(pl+1))*y2
 big:∀ j:Nat,j<n->w1*(h2*l2)*2^j<(h1*l2-l1*h2)*w2
 fit:(h1*l2-l1*h2)*w2<=w1*(h2*l2)*2^n
theorem Cg {x1 x2 y1 y2:Int} (hx:0<x2) (hy:0<y2) (e:x1*y2=y1*x2) (l:List Int):sg (hv x1 x2 l)=sg (hv y1 y2 l):=by
 have h1:=nS y2 x1 x2 l
 have h2:=nS x2 y1 y2 l
 have e1:y2*x1=x2*y1:=by rw [Int.mul_comm y2,e,Int.mul_comm]
 rw [e1,Int.mul_comm y2 x2] at h1
 rw [h1] at h2
 have h3:=congrArg sg h2
 rw [dS (Int.pow_pos hy),dS (Int.pow_pos hx)] at h3
 exact h3
theorem cancel {a b c:Int} (hc:0<c) (h:a*c=b*c):a=b:=Int.eq_of_mul_eq_mul_right (Int.ne_of_gt hc) h
theorem gm {a b c:Int} (hc:0<c) (h:a*c<=b*c):a<=b:=Int.le_of_mul_le_mul_right h hc
theorem gk {a b c:Int} (hc:0<c) (h:a*c<b*c):a<b:=Int.lt_of_mul_lt_mul_right h (Int.le_of_lt hc)
theorem AN {l1 l2 h1 h2 r1 r2 x1 x2 pc pl:Int} (hr:0<r2) (er:r1*(h2*l2)=(h1*l2-l1*h2)*r2) (e:x1*(l2*r2*pc)=(l1*r2*pc+r1*l2*pl)*x2):x1*(l2*h2*pc)=(l1*h2*pc+(h1*l2-l1*h2)*pl)*x2:=by
 refine cancel hr ?_
 calc x1*(l2*h2*pc)*r2=(x1*(l2*r2*pc))*h2:=by grind
  _=(l1*r2*pc+r1*l2*pl)*x2*h2:=by rw [e]
  _=(l1*h2*pc*r2+(r1*(h2*l2))*pl)*x2:=by grind
  _=(l1*h2*pc*r2+((h1*l2-l1*h2)*r2)*pl)*x2:=by rw [er]
  _=(l1*h2*pc+(h1*l2-l1*h2)*pl)*x2*r2:=by grind
theorem yq {l1 l2 h1 h2 w1 w2 x1 x2 y1 y2 pc pl:Int} (hl:0<l2) (hh:0<h2) (hx:0<x2) (hy:0<y2) (hpc:0<pc) (hp0:0<=pl) (hp1:pl+1<=pc) (hD:0<h1*l2-l1*h2) (ex:x1*(l2*h2*pc)=(l1*h2*pc+(h1*l2-l1*h2)*pl)*x2) (ey:y1*(l2*h2*pc)=(l1*h2*pc+(h1*l2-l1*h2)*(pl+1))*y2) (fit:(h1*l2-l1*h2)*w2<=w1*(h2*l2)*pc):x1*y2<y1*x2/\l1*x2<=x1*l2/\y1*h2<=h1*y2/\(y1*x2-x1*y2)*w2<=w1*(x2*y2):=by
 have hlh:0<l2*h2:=Int.mul_pos hl hh
 have hM:0<l2*h2*pc:=Int.mul_pos hlh hpc
 have hxy:0<x2*y2:=Int.mul_pos hx hy
 have hd:(y1*x2-x1*y2)*(l2*h2*pc)=(h1*l2-l1*h2)*(x2*y2):=by
  calc (y1*x2-x1*y2)*(l2*h2*pc)=(y1*(l2*h2*pc))*x2-(x1*(l2*h2*pc))*y2:=by grind
   _=((l1*h2*pc+(h1*l2-l1*h2)*(pl+1))*y2)*x2-((l1*h2*pc+(h1*l2-l1*h2)*pl)*x2)*y2:=by rw [ex,ey]
   _=(h1*l2-l1*h2)*(x2*y2):=by grind
 have hi:y1*h2<=h1*y2:=by
  refine gm (c:=l2*pc) (Int.mul_pos hl hpc) ?_
  have e1:y1*h2*(l2*pc)=y1*(l2*h2*pc):=by grind
  have e2:h1*y2*(l2*pc)=(l1*h2*pc+(h1*l2-l1*h2)*pc)*y2:=by grind
  rw [e1,ey,e2]
  refine Int.mul_le_mul_of_nonneg_right ?_ (Int.le_of_lt hy)
  have:=Int.mul_le_mul_of_nonneg_left hp1 (Int.le_of_lt hD)
  omega
 generalize h1*l2-l1*h2=D at *
 refine ⟨?_,?_,hi,?_⟩
 ·have h3:0<(y1*x2-x1*y2)*(l2*h2*pc):=by rw [hd];exact Int.mul_pos hD hxy
  have h4:0<y1*x2-x1*y2:=gk hM (by rw [Int.zero_mul];exact h3)
  omega
 ·refine gm (c:=h2*pc) (Int.mul_pos hh hpc) ?_
  have e1:x1*l2*(h2*pc)=x1*(l2*h2*pc):=by grind
  have e2:l1*x2*(h2*pc)=l1*h2*pc*x2:=by grind
  rw [e1,ex,e2,Int.add_mul]
  have:0<=D*pl*x2:=Int.mul_nonneg (Int.mul_nonneg (Int.le_of_lt hD) hp0) (Int.le_of_lt hx)
  omega
 ·refine gm hM ?_
  have e1:(y1*x2-x1*y2)*w2*(l2*h2*pc)=((y1*x2-x1*y2)*(l2*h2*pc))*w2:=by grind
  have e2:w1*(x2*y2)*(l2*h2*pc)=w1*(h2*l2)*pc*(x2*y2):=by grind
  have e3:D*(x2*y2)*w2=D*w2*(x2*y2):=by grind
  rw [e1,hd,e2,e3]
  exact Int.mul_le_mul_of_nonneg_right fit (Int.le_of_lt hxy)
def mD (C:Addr):Sp:=fun vs H Q _=>∃ (a l h wd:Addr) (ns:List Int) (l1 l2 h1 h2 w1 w2:Int) (k kw:Nat) (ε:Int) (Up:Int->Int->Prop),vs=[.ref a,.ref l,.ref h,.ref wd]/\H a=some (.lst (ns.map V.int))/\Tr ns/\ns≠[]/\ns.length<=12/\AllB 1000 ns/\RA C H l l1 l2/\RA C H h h1 h2/\RA C H wd w1 w2/\EndsG k l1 l2 h1 h2/\0<w1/\0<w2/\Bits kw w1/\Bits kw w2/\k<=1400/\2*k+kw<=3900/\5*k+kw<=8900/\RootU ns l1 l2 h1 h2 ε Up /\
 ∀ (p x y:Addr) (H':Hp) (n pl:Nat) (x1 x2 y1 y2:Int),Same H H'->H p=none->H' p=some (.tup [.ref x,.ref y])->RA C H' x x1 x2->RA C H' y y1 y2->NarP l1 l2 h1 h2 w1 w2 Up (5*k+kw+4) n pl x1 x2 y1 y2->Q (.ref p) H'
theorem Ex {C f:Addr} {fd:FuncData} (F:Fun K "narrowed" "narrowed" pT f fd) (T:Txt K mg) (R:RCI K mg C) {tE:Addr} {sR:FuncData} (uY:MCal P w K mg base 4 C "minus" ["self","other"] (oT C) tE sR) {Ju:Addr} {ID:FuncData} (Mg:Cal P w K mg base 1 "halvings" ["reach","width"] (wC C) Ju ID) {Jv:Addr} {IE:FuncData} (Mh:Cal P w K mg base 3 "halved" ["row","end","steps"] wD Jv IE) {Ja:Addr} {Ie:FuncData} (LT:Cal P w K mg base 3 "stretched" ["row","low","reach"] (v5 C) Ja Ie) {fb:Addr} {eV:FuncData} (fh:Cal P w K mg base 2 "sign_at" ["row","ratio"] (g6 C) fb eV) {JB:Addr} {IK:FuncData} (Mo:Cal P w K mg base 5 "along" ["low","reach","place","pieces"] (wL C) JB IK):FnOk P w K mg base CX0 6 f fd ["row","low","high","width"] (mD C):=by
 obtain ⟨uI,rG,uk⟩:=uY
 obtain ⟨LC,Gm,Hc,KD⟩:=Mg
 obtain ⟨LD,Gn,Hd,KE⟩:=Mh
 obtain ⟨Lf,FS,GT,Kj⟩:=LT
 obtain ⟨fg,eT,eU,fe⟩:=fh
 obtain ⟨AU,yM,y0,AD⟩:=Mo
 refine F.ok sc_narrowed (fun vs H Q E h=>?_) (fun cdv A outer s H vs Q E hr h=>?_)
 ·obtain ⟨a,l,h,wd,ns,l1,l2,h1,h2,w1,w2,k,kw,ε,Up,rfl,_⟩:=h
  rfl
 ·obtain ⟨a,l,h,wd,ns,l1,l2,h1,h2,w1,w2,kb,kw,ε,Up,rfl,hA,hT,hne,hln,hbn,hl,hh,hw,en,hw1,hw2,bw1,bw2,hk1,hk2,hk3,hU,k⟩:=h
  refine ⟨_,(ah (ap (i:=4) sc_narrowed.nd rfl (Or.inl rfl) (cP (pv 2) R.cl rG uI (hr.mono) uk .nil aj (aa (pv 1) ac)))
   (ah (ap (i:=5) sc_narrowed.nd rfl (Or.inl rfl) (aq LC (hr.mono) rfl Gm Hc KD .nil aj (aa (pv 4) (aa (pv 3) ac))))
   (ah (aQ (aH cI (pv 5) ad (aE _))
     (al (aB (db (aa (pv 1) (aa (pv 2) ac)))))
     aR)
   (ah (ap (i:=6) sc_narrowed.nd rfl (Or.inl rfl) (aq LD (hr.mono) rfl Gn Hd KE .nil aj (aa (aq Lf (hr.mono) rfl FS GT Kj .nil aj (aa (pv 0) (aa (pv 1) (aa (pv 4) ac)))) (aa (aq fg (hr.mono) rfl eT eU fe .nil aj (aa (pv 0) (aa (pv 2) ac))) (aa (pv 5) ac)))))
   (al (aB (db (aa (aq AU (hr.mono) rfl yM y0 AD .nil aj (aa (pv 1) (aa (pv 4) (aa (aG (aS (K:=K) rfl) (pv 6) ad (fun _ _=>rfl)) (aa (aG (aS (K:=K) rfl) (pv 6) ad (fun _ _=>rfl)) ac))))) (aa (aq AU (hr.mono) rfl yM y0 AD .nil aj (aa (pv 1) (aa (pv 4) (aa (ai bj (aG (aS (K:=K) rfl) (pv 6) ad (fun _ _=>rfl)) ad) (aa (aG (aS (K:=K) rfl) (pv 6) ad (fun _ _=>rfl)) ac))))) ac))))))))),?_⟩
  obtain ⟨dl,hl'⟩:=id hl
  obtain ⟨dh,hh'⟩:=id hh
  obtain ⟨l2p,h2p,bl1,bl2,bh1,bh2,lt,_,_⟩:=id en
  refine aA ⟨_,rfl,h,dh,_,rfl,hh',cS _ _ yk.1 yk.2,_,rfl,h,l,h1,h2,l1,l2,kb,kb,rfl,hh,hl,bh1.mono (by omega),bh2,bl1.mono (by omega),bl2,by omega,h2p,l2p,fun r H1 s1 fr hr1=>?_⟩
  have d0:h2*l2≠0:=Int.ne_of_gt (Int.mul_pos h2p l2p)
  have er:=eJ (t:=h1*l2-l1*h2) d0
  have r2p:0<rb (h1*l2-l1*h2) (h2*l2):=cY d0
  have br1:Bits (2*kb+1) (rt (h1*l2-l1*h2) (h2*l2)):=eG d0 (Bits.sub ((bh1.mul bl2).mono (by omega)) ((bl1.mul bh2).mono (by omega)))
  have br2:Bits (2*kb+1) (rb (h1*l2-l1*h2) (h2*l2)):=dY d0 ((bh2.mul bl2).mono (by omega))
  generalize rt (h1*l2-l1*h2) (h2*l2)=r1 at *
  generalize rb (h1*l2-l1*h2) (h2*l2)=r2 at *
  have hD:0<h1*l2-l1*h2:=by omega
  have hhl:0<h2*l2:=Int.mul_pos h2p l2p
  have r1p:0<r1:=gk hhl (by rw [Int.zero_mul,er];exact Int.mul_pos hD r2p)
  have hA1:=s1 _ _ hA
  have hl1:=hl.same s1
  have hh1:=hh.same s1
  refine aA ⟨_,rfl,_,rfl,r,wd,r1,r2,w1,w2,2*kb+1,kw,rfl,hr1,hw.same s1,r2p,hw1,br1,br2.mono (by omega),bw1.mono (by omega),bw2,by omega,fun n hn hle hmin=>?_⟩
  have fit:(h1*l2-l1*h2)*w2<=w1*(h2*l2)*2^n:=by
   refine gm r2p ?_
   calc (h1*l2-l1*h2)*w2*r2=((h1*l2-l1*h2)*r2)*w2:=by grind
    _=r1*(h2*l2)*w2:=by rw [er]
    _=r1*w2*(h2*l2):=by grind
    _<=w1*r2*2^n*(h2*l2):=Int.mul_le_mul_of_nonneg_right hle (Int.le_of_lt hhl)
    _=w1*(h2*l2)*2^n*r2:=by grind
  have bigg:∀ j:Nat,j<n->w1*(h2*l2)*2^j<(h1*l2-l1*h2)*w2:=fun j hj=>by
   refine gk r2p ?_
   calc w1*(h2*l2)*2^j*r2=w1*r2*2^j*(h2*l2):=by grind
    _<r1*w2*(h2*l2):=Int.mul_lt_mul_of_pos_right (hmin j hj) hhl
    _=r1*(h2*l2)*w2:=by grind
    _=(h1*l2-l1*h2)*r2*w2:=by rw [er]
    _=(h1*l2-l1*h2)*w2*r2:=by grind
  refine bz ⟨_,rfl,_,_,rfl,rfl,_,rfl,aL (fun h0=>?_) (fun _=>?_)⟩
  ·obtain rfl:n=0:=by have:(n:Int)=0:=h0;omega
   refine aU ⟨_,rfl,_,rfl,by show 2<=sizeLine;decide,fun p hp=>?_⟩
   have sp:=Same.upd_new (o:=.tup [V.ref l,V.ref h]) hp
   have ex:l1*(l2*h2*2^0)=(l1*h2*2^0+(h1*l2-l1*h2)*((0:Nat):Int))*l2:=by rw [Int.pow_zero];show _=(_+_*0)*_;grind
   have ey:h1*(l2*h2*2^0)=(l1*h2*2^0+(h1*l2-l1*h2)*(((0:Nat):Int)+1))*h2:=by rw [Int.pow_zero];show _=(_+_*(0+1))*_;grind
   have nf:=yq (w1:=w1) (w2:=w2) (pc:=2^0) l2p h2p l2p h2p (jw 0) (Int.le_refl 0) (by decide) hD ex ey fit
   exact k p l h _ 0 0 l1 l2 h1 h2 (s1.then_new hp) (s1.free hp) au (hl1.same sp) (hh1.same sp) ⟨en.mono (by omega),hU.low,hU.top,Int.le_refl _,Int.le_refl _,nf.2.2.2,by decide,ex,ey,bigg,fit⟩
  refine aA ⟨_,rfl,_,rfl,_,rfl,a,l,r,ns,l1,l2,r1,r2,rfl,hA1,hl1,hr1,hT,hne,hln,hbn,l2p,r1p,r2p,bl1.mono hk1,bl2.mono hk1,br1.mono (by omega),br2.mono (by omega),fun m s0 s1' pm e0 e1 hs1 bS p2 H2 s2 hp2 eq2=>?_⟩
  have t2:=s1.trans s2
  refine ⟨_,rfl,_,rfl,a,h,ns,h1,h2,⟨rfl,t2 _ _ hA,hh.same t2,by omega,hbn.mono,bh1.mono (by omega),bh2.mono (by omega)⟩,fun H3 s3=>?_⟩
  have t3:=t2.trans s3
  have lp:0<l2*r2:=Int.mul_pos l2p r2p
  have top:(s0+s1')*h2=h1*m:=by
   refine cancel lp ?_
   calc (s0+s1')*h2*(l2*r2)=((s0*l2)*r2+(s1'*r2)*l2)*h2:=by grind
    _=(l1*m*r2+r1*m*l2)*h2:=by rw [e0,e1]
    _=m*(l1*r2*h2+r1*(h2*l2)):=by grind
    _=m*(l1*r2*h2+(h1*l2-l1*h2)*r2):=by rw [er]
    _=h1*m*(l2*r2):=by grind
  have pt:∀ p c:Int,0<p->p<=c->0<m*c/\l1*(m*c)<(s0*c+s1'*p)*l2/\(s0*c+s1'*p)*h2<=h1*(m*c):=fun p c hp hc=>by
   refine ⟨Int.mul_pos pm (by omega),?_,?_⟩
   ·have:(s0*c+s1'*p)*l2=l1*(m*c)+s1'*p*l2:=by
     calc (s0*c+s1'*p)*l2=(s0*l2)*c+s1'*p*l2:=by grind
      _=l1*m*c+s1'*p*l2:=by rw [e0]
      _=l1*(m*c)+s1'*p*l2:=by grind
    rw [this]
    have:=Int.mul_pos (Int.mul_pos hs1 hp) l2p
    omega
   ·have h3:s1'*p<=s1'*c:=Int.mul_le_mul_of_nonneg_left hc (Int.le_of_lt hs1)
    have h4:(s0*c+s1'*p)*h2<=(s0*c+s1'*c)*h2:=Int.mul_le_mul_of_nonneg_right (by omega) (Int.le_of_lt h2p)
    have h5:(s0*c+s1'*c)*h2=h1*(m*c):=by
     calc (s0*c+s1'*c)*h2=((s0+s1')*h2)*c:=by grind
      _=h1*m*c:=by rw [top]
      _=h1*(m*c):=by grind
    omega
  have vs:∀ p c:Int,sg (hv p c (bV m s0 s1' ns))=sg (hv (s0*c+s1'*p) (m*c) ns):=fun p c=>by
   rw [<- zj,dS pm]
  have hB:RootB (bV m s0 s1' ns) ε (fun p c=>Up (s0*c+s1'*p) (m*c)):=by
   refine ⟨hU.e1,fun p c hp hc hu=>?_,fun p c hp hc hu=>?_,fun p c p' c' hp hc hp' hc' hu hlt=>?_,fun p c hc=>?_,fun hu=>?_⟩
   ·rw [vs]
    obtain ⟨q1,q2,q3⟩:=pt p c hp hc
    exact hU.r1 _ _ q1 q2 q3 hu
   ·rw [vs]
    obtain ⟨q1,q2,q3⟩:=pt p c hp hc
    exact hU.r2 _ _ q1 q2 q3 hu
   ·rw [vs]
    obtain ⟨q1,q2,q3⟩:=pt p c hp hc
    obtain ⟨q1',q2',q3'⟩:=pt p' c' hp' hc'
    refine hU.r3 _ _ _ _ q1 q1' q2 q3' hu ?_
    have h3:s1'*m*(p*c')<s1'*m*(p'*c):=Int.mul_lt_mul_of_pos_left hlt (Int.mul_pos hs1 pm)
    have e3:(s0*c+s1'*p)*(m*c')=s0*c*(m*c')+s1'*m*(p*c'):=by grind
    have e4:(s0*c'+s1'*p')*(m*c)=s0*c*(m*c')+s1'*m*(p'*c):=by grind
    omega
   ·have g1:0<m*c:=Int.mul_pos pm hc
    have g2:0<m*(2*c):=Int.mul_pos pm (by omega)
    constructor
    ·exact hU.sc _ _ _ _ g2 g1 (by grind)
    ·exact hU.sc _ _ _ _ g1 g2 (by grind)
   ·refine hU.top (hU.sc _ _ _ _ (by rw [Int.mul_one];exact pm) h2p ?_ hu)
    rw [Int.mul_one,Int.mul_one,Int.mul_one];exact top
  have lstr:=jk m s0 s1' ns
  have hn1:1<=ns.length:=List.length_pos_iff.mpr hne
  refine ⟨_,rfl,p2,bV m s0 s1' ns,_,n,ε,_,rfl,s3 _ _ eq2,by omega,by omega,bS,by omega,hB,?_,fun p4 H4 pl s4 hp4 e4 hpl hup hnup=>?_⟩
  ·rw [vs]
   refine Cg h2p (by rw [Int.mul_one];exact pm) ?_ ns
   rw [Int.mul_one,Int.mul_one,Int.mul_one];exact top.symm
  have t4:=t3.trans s4
  have u4:=(s2.trans s3).trans s4
  have b2n:Bits (n+1) ((2:Int)^n):=kD (by omega)
  have cpl:(pl:Int)<2^n:=by rw [ii];exact Int.ofNat_lt.mpr hpl
  have bpl:Bits (n+1) (pl:Int):=b2n.of_le (by rw [ii];omega)
  have bpl1:Bits (n+1) ((pl:Int)+1):=b2n.of_le (by rw [ii];omega)
  have p2n:=jw n
  refine aU ⟨_,rfl,_,rfl,_,rfl,p4,_,_,_,rfl,rfl,SqT.of e4,rfl,_,rfl,p4,_,_,_,rfl,rfl,SqT.of e4,rfl,l,r,l1,l2,r1,r2,pl,2^n,kb,2*kb+1,n+1,rfl,hl.same t4,hr1.same u4,l2p,r2p,p2n,bl1,bl2,br1,br2,bpl,b2n,by omega,fun x H5 x1 x2 s5 hx hRx x2p ex bx1 bx2 gx=>?_⟩
  have e5:=s5 _ _ e4
  have t5:=t4.trans s5
  have u5:=u4.trans s5
  refine ⟨_,rfl,_,rfl,_,rfl,p4,_,_,_,rfl,rfl,SqT.of e5,rfl,_,_,rfl,rfl,_,rfl,p4,_,_,_,rfl,rfl,SqT.of e5,rfl,l,r,l1,l2,r1,r2,pl+1,2^n,kb,2*kb+1,n+1,rfl,hl.same t5,hr1.same u5,l2p,r2p,p2n,bl1,bl2,br1,br2,bpl1,b2n,by omega,fun y H6 y1 y2 s6 hy hRy y2p ey by1 by2 gy=>?_⟩
  refine ⟨by show 2<=sizeLine;decide,fun p hp=>?_⟩
  have sp:=Same.upd_new (o:=.tup [V.ref x,V.ref y]) hp
  have t6:=t5.trans s6
  have ex':=AN r2p er ex
  have ey':=AN r2p er ey
  have nf:=yq (w1:=w1) (w2:=w2) l2p h2p x2p y2p p2n (show (0:Int)<=(pl:Int) by omega) (by omega) hD ex' ey' fit
  have cross:∀ (q z1 z2:Int),z1*(l2*r2*2^n)=(l1*r2*2^n+r1*l2*q)*z2->(s0*2^n+s1'*q)*z2=z1*(m*2^n):=fun q z1 z2 ez=>by
   refine cancel lp ?_
   calc (s0*2^n+s1'*q)*z2*(l2*r2)=((s0*l2)*r2*2^n+(s1'*r2)*l2*q)*z2:=by grind
    _=(l1*m*r2*2^n+r1*m*l2*q)*z2:=by rw [e0,e1]
    _=m*((l1*r2*2^n+r1*l2*q)*z2):=by grind
    _=m*(z1*(l2*r2*2^n)):=by rw [ez]
    _=z1*(m*2^n)*(l2*r2):=by grind
  have hm2:0<m*2^n:=Int.mul_pos pm p2n
  refine k p x y _ n pl x1 x2 y1 y2 (t6.then_new hp) (t6.free hp) au ((hRx.same s6).same sp) (hRy.same sp) ⟨⟨x2p,y2p,bx1.mono (by omega),bx2.mono (by omega),by1.mono (by omega),by2.mono (by omega),nf.1,gx,gy⟩,?_,?_,nf.2.1,nf.2.2.1,nf.2.2.2,hpl,ex',ey',bigg,fit⟩
  ·rcases hup with z | z
   ·refine hU.sc _ _ _ _ l2p x2p ?_ hU.low
    rw [z] at ex'
    refine cancel (Int.mul_pos h2p p2n) ?_
    calc l1*x2*(h2*2^n)=(l1*h2*2^n+(h1*l2-l1*h2)*((0:Nat):Int))*x2:=by show _=(_+_*0)*_;grind
     _=x1*(l2*h2*2^n):=ex'.symm
     _=x1*l2*(h2*2^n):=by grind
   ·exact hU.sc _ _ _ _ hm2 x2p (cross _ _ _ ex) z
  ·intro hu
   exact hnup (hU.sc _ _ _ _ y2p hm2 (cross _ _ _ ey).symm hu)
theorem Eo {f:Addr} {fd:FuncData} (F:Fun K "refuse_high" "refuse_high" pM f fd) (T:Txt K mg):FnOk P w K mg base CX0 1 f fd ["height"] (fun vs H Q _=>∃ i:Int,vs=[.int i]/\i<=8/\Q .non H):=by
 obtain ⟨tH,hHIGHEST⟩:=T.HIGHEST_
 refine F.ok Ct (fun vs H Q E h=>?_) (fun cdv A outer s H vs Q E hr h=>?_)
 ·obtain ⟨i,rfl,_⟩:=h
  rfl
 ·obtain ⟨i,rfl,hi,k⟩:=h
  refine ⟨_,(al (aQ (aH dj (pv 0) (DU (v:=.int 8) rfl hHIGHEST ⟨_,rfl⟩) (aE _))
   (al ie)
   aR)),?_⟩
  refine kt ⟨_,rfl,_,_,rfl,rfl,_,rfl,aL (fun h=>absurd (show i>8 from h) (by omega)) (fun _=>?_)⟩
  exact k
structure NCI (K:PySem.W.Frag) (mg:Str->Option Value) (CN:Addr):Prop where
 cl:Cls K CN
 nP:NoAttr K CN "poly"
 nL:NoAttr K CN "low"
 nH:NoAttr K CN "high"
 mg:mg "Number"=some (.ref CN)
 ha:PySem.W.findIn K (.ref CN) "__class__"=some (some (.builtin "object.__class__"))
 hn:PySem.W.specialIn K (.builtin "object.__class__") "__get__"=some (some (.builtin "getset_descriptor.__get__"))
 ht:PySem.W.takesIn K (.builtin "object.__class__")=some true
 hm:PySem.W.mroIn K CN (.type "object")=some true
def gL (p l h:Addr):List (Str×V):=cH "high" (.ref h) (cH "low" (.ref l) (cH "poly" (.ref p) []))
theorem DP:¬ (("poly":Str)="high"):=by decide +kernel
theorem DK:¬ (("poly":Str)="low"):=by decide +kernel
theorem GE:¬ (("low":Str)="high"):=by decide +kernel
theorem oa (p l h:Addr):(gL p l h).lookup ("high":Str)=some (.ref h):=by unfold gL;rw [dH,if_pos rfl]
theorem zB (p l h:Addr):(gL p l h).lookup ("low":Str)=some (.ref l):=by unfold gL;rw [dH,if_neg GE,dH,if_pos rfl]
theorem n8 (p l h:Addr):(gL p l h).lookup ("poly":Str)=some (.ref p):=by unfold gL;rw [dH,if_neg DP,dH,if_neg DK,dH,if_pos rfl]
def NA (CN:Addr) (H:Hp) (x p l h:Addr):Prop:=∃ dx,H x=some (.ins CN dx (gL p l h))
theorem NA.same {CN:Addr} {H H':Hp} {x p l h:Addr} (n:NA CN H x p l h) (s:Same H H'):NA CN H' x p l h:=let ⟨dx,e⟩:=n;⟨dx,s _ _ e⟩
def jn (CN:Addr):Sp:=fun vs H Q _=>∃ (x dx r l h:Addr) (ns:List V),vs=[.ref x,.ref r,.ref l,.ref h]/\H x=some (.ins CN dx [])/\H r=some (.lst ns)/\∀ p,H p=none->Q .non (upd (upd H p (.lst ns)) x (.ins CN dx (gL p l h)))
theorem Fl {CN f:Addr} {fd:FuncData} (F:Fun K "__init__" "Number.__init__" qN f fd) (T:Txt K mg) (RN:NCI K mg CN):FnOk P w K mg base CX0 1 f fd ["self","row","low","high"] (jn CN):=by
 refine F.ok CQ (fun vs H Q E h=>?_) (fun cdv A outer s H vs Q E hr h=>?_)
 ·obtain ⟨x,dx,r,l,h,ns,rfl,_⟩:=h
  rfl
 ·obtain ⟨x,dx,r,l,h,ns,rfl,hx,hR,k⟩:=h
  refine ⟨_,(ah (kz (pv 0) (io (tY (K:=K) rfl) (by rfl) T.list_ PyProof.Rows.boot_list (aa (pv 1) ac)) rfl)
   (ah (kz (pv 0) (pv 2) rfl)
   (al (kz (pv 0) (pv 3) rfl)))),?_⟩
  refine ⟨_,rfl,r,_,rfl,.inl (SqL.of hR),fun p hp=>?_⟩
  have npx:x≠p:=aX hx hp
  refine ⟨_,rfl,x,CN,dx,_,rfl,by rw [upd_ne npx];exact hx,RN.cl,RN.nP,by show 0<1000;decide,?_⟩
  refine ⟨_,rfl,_,rfl,x,CN,dx,_,rfl,au,RN.cl,RN.nL,by show 1<1000;decide,?_⟩
  refine ⟨_,rfl,_,rfl,x,CN,dx,_,rfl,au,RN.cl,RN.nH,by show 2<1000;decide,?_⟩
  show Q .non (upd (upd (upd (upd H p _) x _) x _) x _)
  rw [ml,ml]
  exact k p hp
def wk:Sp:=fun vs H Q _=>∃ (a:Addr) (ns:List Int),vs=[.ref a]/\H a=some (.lst (ns.map V.int))/\ns.length<=1000/\AllB 300 ns/\∀ H',Same H H'->Q .non H'
theorem KQ:Bits 399 (10^60*10^60)/\(2:Int)^300<=10^60*10^60:=by
 constructor
 ·show ((10:Int)^60*10^60).natAbs<2^399;decide +kernel
 ·decide +kernel
theorem Ep {f:Addr} {fd:FuncData} (F:Fun K "refuse_great" "refuse_great" pN f fd) (T:Txt K mg):FnOk P w K mg base CX0 1 f fd ["row"] wk:=by
 refine F.ok sc_refuse_great (fun vs H Q E h=>?_) (fun cdv A outer s H vs Q E hr h=>?_)
 ·obtain ⟨a,ns,rfl,_⟩:=h
  rfl
 ·obtain ⟨a,ns,rfl,hA,hl,hb,k⟩:=h
  have big:=sizeLine_eq
  refine ⟨_,(ah (ap (i:=1) sc_refuse_great.nd rfl (Or.inr rfl) (ai aI (ai jz ad ad) (ai jz ad ad)))
   (al (aQ (Dz (bT (Ke (K:=K) rfl rfl) (by rfl) T.any_ PyProof.Rows.boot_any (aa (fm (own:=["value"]) (fr:=["limit"]) (js:=[1]) (by walk_at "comp_ok") rfl (eN (K:=K) rfl (pv 0)) (fun _ _ _ _=>(aW (i:=0) (show List.Nodup (["value","limit"]:List Str) from by decide +kernel) rfl (Or.inl rfl))) (fun _ _ _ _=>(fS np (bT gn (by rfl) T.abs_ PyProof.Rows.boot_abs (aa (pv 0) ac)) (pv 1) (aE _)))) ac)) (by intro _;rfl))
     (al ie)
     aR))),?_⟩
  have b6:Bits 1000000 ((10:Int)^60):=b60.mono
  refine aA ⟨_,_,rfl,rfl,⟨by decide,by decide,by decide⟩,_,_,rfl,rfl,⟨by decide,by decide,by decide⟩,_,_,rfl,rfl,⟨b6,b6⟩,?_⟩
  refine kt ⟨_,rfl,a,rfl,⟨_,SqL.of hA⟩,iV (K:=K) (a:=a) (xs:=ns.map V.int) (fun i ys σ' H'=>∃ (z0:Option V) (bs:List Bool),σ'=[z0,some (.int (10^60*10^60))]/\ys=bs.map V.bl/\bs.length=i/\(∀ x∈bs,x=false)/\H=H') (by rw [List.length_map];omega) ⟨none,[],rfl,rfl,rfl,(fun _ h=>nomatch h),rfl⟩ ?_ ?_ ?_⟩
  ·rintro i ys σ' H' _ ⟨z0,bs,rfl,rfl,rfl,_,rfl⟩
   exact ⟨SqL.of hA,by rw [List.length_map];exact Nat.le_refl _⟩
  ·rintro i x ys σ' H' hi ⟨z0,bs,rfl,rfl,rfl,hbs,rfl⟩
   obtain ⟨c,_,rfl,hc,_⟩:=gJ hi
   refine ⟨_,rfl,_,rfl,_,rfl,_,_,rfl,rfl,?_⟩
   refine ⟨_,bs++[false],rfl,?_,by rw [List.length_append];rfl,fun x hx=>?_,rfl⟩
   ·have hlt:¬ ((if c<0 then -c else c)≥10^60*10^60):=by
     have h1:c.natAbs<2^300:=hb c hc
     have h2:=KQ.2
     have h3:((2^300:Nat):Int)=(2:Int)^300:=by rw [Int.natCast_pow];rfl
     have h4:(c.natAbs:Int)<(2:Int)^300:=by rw [<- h3];exact Int.ofNat_lt.mpr h1
     generalize (2:Int)^300=X at h2 h4
     generalize (10:Int)^60*10^60=Y at h2 ⊢
     split<;>omega
    rw [List.map_append]
    show _++[V.bl (decide _)]=_
    rw [decide_eq_false hlt];rfl
   ·rcases List.mem_append.mp hx with h | h
    ·exact hbs x h
    ·exact List.mem_singleton.mp h
  rintro ys σ' H' p ⟨z0,bs,rfl,rfl,hbl,hbs,rfl⟩ hp
  refine ⟨p,bs,rfl,SqL.of au,?_⟩
  have e:bs.any id=false:=by
   rw [List.any_eq_false]
   intro x hx
   rw [hbs x hx];decide
  rw [e]
  refine ⟨_,rfl,dU ?_⟩
  exact k _ (Same.upd_new hp)
theorem Ce {x:Int} (h:x<0):sg x = -1:=by unfold sg;split<;>(try split)<;>omega
theorem Cd {x:Int} (h:0<x):sg x=1:=by unfold sg;split<;>(try split)<;>omega
theorem dZ:(¬ ("against":Str)="bottom")/\¬ ("against":Str)="top":=⟨by decide +kernel,by decide +kernel⟩
theorem b1k {k:Nat} (h:1<=k):Bits k (1:Int):=Bits.mono (j:=1) (by show (1:Int).natAbs<2^1;decide) h
theorem zL (t:Int):dv t 1=1:=by
 unfold dv
 rw [if_neg (by decide)]
 show ((Nat.gcd t.natAbs 1:Nat):Int)=1
 rw [Nat.gcd_one_right];rfl
theorem mS (t:Int):rt t 1=t:=by
 have h:=jt (t:=t) (b:=1) (by decide)
 rw [zL,Int.one_mul] at h
 exact h
theorem mW (t:Int):rb t 1=1:=by
 have h:=hJ (t:=t) (b:=1) (by decide)
 rw [zL,Int.one_mul] at h
 exact h
theorem zK {b:Int} (hb:0<b):dv 1 b=1:=by
 unfold dv
 rw [if_neg (by omega)]
 show ((Nat.gcd 1 b.natAbs:Nat):Int)=1
 rw [Nat.gcd_one_left];rfl
theorem xo {b:Int} (hb:0<b):rt 1 b=1:=by
 have h:=jt (t:=1) (b:=b) (by omega)
 rw [zK hb,Int.one_mul] at h
 exact h
theorem xA {b:Int} (hb:0<b):rb 1 b=b:=by
 have h:=hJ (t:=1) (b:=b) (by omega)
 rw [zK hb,Int.one_mul] at h
 exact h
theorem rK {CN:Addr} {H3:Hp} {q:Addr->Hp->Prop} {E:XK} {r l h:Addr} {ns:List V} (e3:H3 r=some (.lst ns)) (k:∀ (x p:Addr) (H':Hp),Same H3 H'->H3 x=none->NA CN H' x p l h->H' p=some (.lst ns)->H3 p=none->q x H'):∀ x dx:Addr,H3 x=none->H3 dx=none->dx≠x->jn CN (.ref x::([.ref r,.ref l,.ref h]++[])) (upd (upd H3 dx (.own x)) x (.ins CN dx [])) (fun v H2=>v=.non/\q x H2) E:=fun x dx nx ndx ne=>by
 have npx:r≠x:=aX e3 nx
 have npd:r≠dx:=aX e3 ndx
 refine ⟨x,dx,r,l,h,_,rfl,au,by rw [upd_ne npx,upd_ne npd];exact e3,fun q hq=>⟨rfl,?_⟩⟩
 have nqx:q≠x:=fun z=>by rw [z,au] at hq;cases hq
 have nqd:q≠dx:=fun z=>by rw [z,upd_ne ne,au] at hq;cases hq
 have hq3:H3 q=none:=by rw [upd_ne nqx,upd_ne nqd] at hq;exact hq
 refine k x q _ (fun c o ec=>?_) nx ⟨dx,au⟩ (by rw [upd_ne nqx,au]) hq3
 have ncx:c≠x:=aX ec nx
 have ncd:c≠dx:=aX ec ndx
 have e4:upd (upd H3 dx (.own x)) x (.ins CN dx []) c=some o:=by rw [upd_ne ncx,upd_ne ncd];exact ec
 rw [upd_ne ncx,upd_ne (aX e4 hq)]
 exact e4
theorem tN {xs ys:List Int} {x y:Nat} (hx:AllB x xs) (hy:AllB y ys):∀ i,AllB (x+i*(y+1)) (aT xs ys i).1/\AllB (x+i*(y+1)) (aT xs ys i).2
 | 0=>by rw [Nat.zero_mul];exact ⟨AllB.zeros,hx⟩
 | i+1=>by
   obtain ⟨h1,h2⟩:=tN hx hy i
   have e:x+(i+1)*(y+1)=x+i*(y+1)+y+1:=by rw [Nat.succ_mul];omega
   have hs:Bits y (((RM.cf ys (ys.length-1)).natAbs:Nat):Int):=uv (hy.cf _)
   rw [e]
   show AllB _ (cT ys (aT xs ys i) _).1/\AllB _ (cT ys (aT xs ys i) _).2
   unfold cT
   dsimp only
   constructor
   ·intro v hv
    rcases List.mem_or_eq_of_mem_set hv with h | rfl
    ·obtain ⟨u,hu,rfl⟩:=List.mem_map.mp h
     exact (hs.mul (h1 u hu)).mono (by omega)
    ·exact (km (h2.cf _)).mono (by omega)
   ·refine AllB.of_cf fun n=>?_
    rw [ot]
    by_cases hn:n<(scL (((RM.cf ys (ys.length-1)).natAbs:Nat):Int) (aT xs ys i).2).length-1
    ·rw [if_pos hn,bF]
     have m1:Bits (x+i*(y+1)+y) ((((RM.cf ys (ys.length-1)).natAbs:Nat):Int)*RM.cf (aT xs ys i).2 n):=by
      have:=hs.mul (h2.cf n);rwa [Nat.add_comm] at this
     refine m1.sub ?_
     by_cases hp:(xs.length+1-ys.length-1-i)<=n
     ·rw [if_pos hp]
      exact (km (h2.cf _)).mul (hy.cf _)
     ·rw [if_neg hp];exact Bits.zero
    ·rw [if_neg hn];exact Bits.zero
theorem kj {n:Nat} {l:List Int} (h:AllB n l):AllB n (ar l):=by
 intro y hy
 obtain ⟨x,hx,rfl⟩:=List.mem_map.mp hy
 obtain ⟨d,hd⟩:=iC hx
 by_cases hg:(aw l:Int)=0
 ·rw [hg,Int.ediv_zero];exact Bits.zero
 ·have e:x/(aw l:Int)=d:=by rw [hd];exact Int.mul_ediv_cancel_left d hg
  rw [e]
  refine (h x hx).of_le ?_
  rw [hd,Int.natAbs_mul]
  exact Nat.le_mul_of_pos_left _ (Int.natAbs_pos.mpr hg)
theorem o2 (l:List Int):(ar l).length=l.length:=List.length_map _
theorem xl (n:Nat) (o:List Int):Run n [] o:=by cases n with | zero=>rfl | succ n=>exact .inl rfl
theorem zH (n:Nat) (o:List Int):RM.Ends n [] o:=by cases n with | zero=>rfl | succ n=>exact .inl rfl
theorem gr8:gr 540 6=91260:=by decide
def Okr (xs:List Int):Prop:=Tr xs/\AllB 91260 xs/\xs.length<=7
theorem xk:∀ (n:Nat) (one other:List Int) (x y s:Nat),one.length=s+1->s<=6->other.length<=s->s<n->Tr one->Tr other->AllB x one->AllB y other->x+1<=gr 540 (6-s)->y+1<=gr 540 (6-s+1)->Run n one other/\RM.Ends n one other/\∀ xs∈bC n one other,Okr xs
 | 0,one,other,x,y,s,_,_,_,h,_,_,_,_,_,_=>absurd h (Nat.not_lt_zero _)
 | m+1,one,other,x,y,s,hl,hs8,hol,hsm,t1,t2,b1,b2,g1,g2=>by
   have hne:one≠[]:=fun z=>by rw [z] at hl;simp at hl
   have m1:gr 540 (6-s)<=91260:=by rw [<- gr8];exact fE 540 (by omega)
   have bo1:AllB 91260 one:=b1.mono (by omega)
   have bo2:AllB 91260 other:=by
    by_cases ho:other=[]
    ·rw [ho];exact AllB.nil
    ·have:=List.length_pos_iff.mpr ho
     have m2:gr 540 (6-s+1)<=91260:=by rw [<- gr8];exact fE 540 (by omega)
     exact b2.mono (by omega)
   have fit:Fit one other:=⟨t1,t2,91260,bo1,bo2,by rw [hl];omega,by omega⟩
   have eS:bC (m+1) one other=one::bC m other (nxt one other):=by
    show (if one=[] then [] else one::bC m other (nxt one other))=_
    rw [if_neg hne]
   have ok1:Okr one:=⟨t1,bo1,by omega⟩
   by_cases ho:other=[]
   ·subst ho
    refine ⟨.inr ⟨fit,xl _ _⟩,.inr (zH _ _),fun xs hx=>?_⟩
    rw [eS,kq] at hx
    rw [List.mem_singleton.mp hx];exact ok1
   ·have hop:=List.length_pos_iff.mpr ho
    obtain ⟨d,hd⟩:∃ d,other.length=d+1:=⟨other.length-1,by omega⟩
    have hN:aY one other=(s-d-1)+2:=by unfold aY;omega
    have e6:6-s+2+(s-d-1)=6-d+1:=by omega
    have rb:AllB (x+aY one other*(y+1)) (aN one other):=((tN b1 b2 (aY one other)).2).trim
    have nb:AllB (x+aY one other*(y+1)) (nxt one other):=by
     unfold nxt rst
     rw [if_neg ho,mz (fF _ _)]
     refine kj fun v hv=>?_
     obtain ⟨u,hu,rfl⟩:=List.mem_map.mp hv
     have:=(rb u hu).neg
     rwa [show -1*u = -u by omega]
    have nl:(nxt one other).length<=d:=by
     unfold nxt rst
     rw [if_neg ho,mz (fF _ _),o2,b9]
     have:=gf (a:=one) ho
     omega
    have nt:Tr (nxt one other):=fK (fj _)
    have jump:=sv 540 (6-s) (s-d-1)
    rw [e6] at jump
    have mm:=Nat.mul_le_mul_left (s-d-1+2) g2
    obtain ⟨r1,r2,r3⟩:=xk m other (nxt one other) y (x+aY one other*(y+1)) d hd (by omega) nl (by omega) t2 nt b2 nb (Nat.le_trans g2 (fE 540 (by omega))) (by rw [hN];omega)
    refine ⟨.inr ⟨fit,r1⟩,.inr r2,fun xs hx=>?_⟩
    rw [eS] at hx
    rcases List.mem_cons.mp hx with rfl | hx
    ·exact ok1
    ·exact r3 xs hx
theorem xt:∀ (n:Nat) (one other:List Int),(bC n one other).length<=n
 | 0,_,_=>Nat.le_refl _
 | n+1,one,other=>by
   show (if one=[] then [] else one::bC n other (nxt one other)).length<=n+1
   split
   ·exact Nat.zero_le _
   ·have:=xt n other (nxt one other)
    rw [List.length_cons];omega
theorem wZ {n:Nat} {xs:List Int} (h:AllB n xs) (hl:xs.length<=9):AllB (n+4) (slopeL xs):=by
 intro x hx
 obtain ⟨k,hk,rfl⟩:=List.mem_map.mp hx
 have hk':k<xs.length-1:=List.mem_range.mp hk
 have b1:Bits 4 ((k:Int)+1):=Nat.lt_of_le_of_lt (show ((k:Int)+1).natAbs<=8 by omega) (by decide)
 exact (b1.mul (h.cf (k+1))).mono (by omega)
theorem BW (xs:List Int):(slopeL xs).length=xs.length-1:=by unfold slopeL;rw [List.length_map,List.length_range]
theorem CY {kps:List Int} (ktr:Tr kps) (kb:AllB 530 kps) (kl:kps.length<=7):Run 9 (ar kps) (ar (slopeL kps))/\RM.Ends 9 (ar kps) (ar (slopeL kps))/\∀ xs∈bC 9 (ar kps) (ar (slopeL kps)),Okr xs:=by
 by_cases h0:kps=[]
 ·subst h0
  exact ⟨xl _ _,zH _ _,fun xs hx=>by
   have e:ar []=[]:=rfl
   rw [e,kq] at hx
   exact nomatch hx⟩
 ·have hl:=List.length_pos_iff.mpr h0
  obtain ⟨s,hs⟩:∃ s,kps.length=s+1:=⟨kps.length-1,by omega⟩
  refine xk 9 (ar kps) (ar (slopeL kps)) 530 534 s (by rw [o2,hs]) (by omega) (by rw [o2,BW,hs];omega) (by omega) (fK ktr) (fK (vv ktr)) (kj kb) (kj (wZ kb (by omega))) ?_ ?_
  ·exact Nat.le_trans (show 531<=gr 540 0 by decide) (fE 540 (Nat.zero_le _))
  ·exact Nat.le_trans (show 535<=gr 540 1 by decide) (fE 540 (by omega))
theorem ni {n:Nat} {l:List Int} (h:AllB n l):AllB n (aC l):=by
 unfold aC cz
 split
 ·intro y hy
  obtain ⟨x,hx,rfl⟩:=List.mem_map.mp hy
  exact (kj h x hx).neg
 ·exact kj h
theorem HL:∀ s:Nat,s<=8->1<=s->(s+3)*(gr 240 (8-s+1)+1)<=1000000
 | 0,_,h=>absurd h (by decide)
 | 1,_,_=>by show 4*(236400+1)<=1000000;decide
 | 2,_,_=>by show 5*(97920+1)<=1000000;decide
 | 3,_,_=>by show 6*(40560+1)<=1000000;decide
 | 4,_,_=>by show 7*(16800+1)<=1000000;decide
 | 5,_,_=>by show 8*(6960+1)<=1000000;decide
 | 6,_,_=>by show 9*(2880+1)<=1000000;decide
 | 7,_,_=>by show 10*(1200+1)<=1000000;decide
 | 8,_,_=>by show 11*(480+1)<=1000000;decide
 | n+9,h,_=>absurd h (by omega)
theorem xn:∀ (n:Nat) (one other:List Int) (x y s:Nat),one.length=s+1->s<=8->other.length<=s->s<n->Tr one->Tr other->AllB x one->AllB y other->x+1<=gr 240 (8-s)->y+1<=gr 240 (8-s+1)->jY n one other
 | 0,one,other,x,y,s,_,_,_,h,_,_,_,_,_,_=>absurd h (Nat.not_lt_zero _)
 | m+1,one,other,x,y,s,hl,hs8,hol,hsm,t1,t2,b1,b2,g1,g2=>by
   by_cases ho:other=[]
   ·exact .inl ho
   have hop:=List.length_pos_iff.mpr ho
   obtain ⟨d,hd⟩:∃ d,other.length=d+1:=⟨other.length-1,by omega⟩
   have hN:aY one other=(s-d-1)+2:=by unfold aY;omega
   have e6:8-s+2+(s-d-1)=8-d+1:=by omega
   have rb:AllB (x+aY one other*(y+1)) (aN one other):=((tN b1 b2 (aY one other)).2).trim
   have jump:=sv 240 (8-s) (s-d-1)
   rw [e6] at jump
   have mm:=Nat.mul_le_mul_left (s-d-1+2) g2
   have nl:=gf (a:=one) ho
   have m0:=fE 240 (show 8-s<=8-s+1 by omega)
   have fit:uK one other:=⟨t1,t2,gr 240 (8-s+1),b1.mono (by omega),b2.mono (by omega),by rw [hl];exact HL s hs8 (by omega),by omega⟩
   exact .inr ⟨fit,xn m other (aC (aN one other)) y (x+aY one other*(y+1)) d hd (by omega) (by rw [RM.plain_len];omega) (by omega) t2 (gC (fF _ _)) b2 (ni rb) (Nat.le_trans g2 (fE 240 (by omega))) (by
    rw [hN]
    generalize (s-d-1+2)*(y+1)=z at mm ⊢
    generalize (s-d-1+2)*gr 240 (8-s+1)=z2 at mm jump
    omega)⟩
structure Made (kp:List Int) (c:Int) (us:List (List Int×Nat)):Prop where
 is:kp=whl c us
 c0:c≠0
 bc:Bits 10 c
 use:Use us
 deg:dgs id us<=8
 one:2<=kp.length
 bits:AllB 230 (fP id us)
 more:AllB 230 (mor us 1)
theorem Made.len {kp:List Int} {c:Int} {us:List (List Int×Nat)} (h:Made kp c us):kp.length<=9/\(mor us 1).length<=9/\1<=(mor us 1).length/\AllB 241 kp:=by
 have ne:∀ p∈us,p.1≠[]:=fun p hp=>(h.use.pri p hp).pln.ne
 have h1:=(oe id us ne).1
 have h2:=(oe (·-1) us ne).1
 have h3:dgs (·-1) us<=dgs id us:=zQ us fun p _=>Nat.sub_le _ _
 have h4:=h.deg
 refine ⟨by rw [h.is,fi,b9];omega,by unfold mor;omega,by unfold mor;omega,?_⟩
 rw [h.is,fi]
 intro x hx
 obtain ⟨y,hy,rfl⟩:=List.mem_map.mp hx
 exact (h.bc.mul (h.bits y hy)).mono
theorem Made.slope {kp:List Int} {c:Int} {us:List (List Int×Nat)} (h:Made kp c us):AllB 234 (aC (slopeL kp)):=by
 have pl:=iR h.use id
 have hl:=h.len.1
 have e:slopeL kp=scL c (slopeL (fP id us)):=by
  rw [h.is]
  refine dL ?_ fun k _=>?_
  ·rw [b9,fZ,fZ,fi,b9]
  ·rw [bF,ei,ei,fi,bF];grind
 rw [e,kF h.c0 (gX pl.tr)]
 exact ni (wZ h.bits (by rw [h.is,fi,b9] at hl;exact hl))
def vY:Sp:=fun vs H Q _=>∃ (a:Addr) (kp:List Int) (c:Int) (us:List (List Int×Nat)),vs=[.ref a]/\H a=some (.lst (kp.map V.int))/\Made kp c us/\mkL H Q (flt us)
theorem D5 {f:Addr} {fd:FuncData} (F:Fun K "without_squares" "without_squares" pb f fd) (T:Txt K mg) {Jk:Addr} {Ir:FuncData} (L5:Cal P w K mg base 35 "part" ["row","divisor"] wn Jk Ir) {Jy:Addr} {IH:FuncData} (Ml:Cal P w K mg base 35 "common" ["first","second"] wH Jy IH) {sW:Addr} {sG:FuncData} (uN:Cal P w K mg base 1 "slope" ["row"] (sp1 slopeL) sW sG):FnOk P w K mg base CX0 36 f fd ["row"] vY:=by
 obtain ⟨Ln,Ga,G1,Kr⟩:=L5
 obtain ⟨LG,Gq,Hg,KH⟩:=Ml
 obtain ⟨uB,rM,r9,ud⟩:=uN
 refine F.ok Cl (fun vs H Q E h=>?_) (fun cdv A outer s H vs Q E hr h=>?_)
 ·obtain ⟨a,kp,c,us,rfl,_⟩:=h
  rfl
 ·obtain ⟨a,kp,c,us,rfl,hA,hM,k⟩:=h
  have hu:=hr.units
  have eW:=hM.is
  obtain ⟨tW,nW,pW⟩:=j4 hM.use hM.c0
  obtain ⟨lW,lM,lM1,bW⟩:=hM.len
  have hsl:=hM.slope
  have l2':=hM.one
  have eC:=va hM.use hM.c0 (by rw [<- eW];omega)
  obtain ⟨r1,r2⟩:=A5 hM.use hM.c0
  rw [<- eW] at tW nW pW eC r1 r2
  have lS:=fZ kp
  refine ⟨_,(ah (aQ (aH (jB (K:=K) rfl hu) (pv 0) (aZ ac) (aE _))
   (al (aB (aZ ac)))
   aR)
   (al (aB (aq Ln (hr.mono) rfl Ga G1 Kr .nil aj (aa (pv 0) (aa (aq LG (hr.mono) rfl Gq Hg KH .nil aj (aa (pv 0) (aa (aq uB (hr.mono) rfl rM r9 ud .nil aj (aa (pv 0) ac)) ac))) ac)))))),?_⟩
  refine bz ⟨_,rfl,Nat.zero_le _,fun p0 hp0=>?_⟩
  have s0:Same H (upd H p0 (.lst [])):=Same.upd_new hp0
  refine ⟨a,p0,kp,[],rfl,rfl,SqL.of (s0 _ _ hA),SqL.of au,_,rfl,aL (fun h0=>absurd h0 nW) (fun _=>?_)⟩
  generalize upd H p0 (.lst [])=H0 at s0 ⊢
  have hA0:=s0 _ _ hA
  refine aU ⟨_,rfl,_,rfl,_,rfl,a,kp,rfl,hA0,by omega,bW.mono,fun p1 H1 s1 hp1 e1=>?_⟩
  have t1:=s0.trans s1
  obtain ⟨s,hs⟩:∃ s,kp.length=s+1:=⟨kp.length-1,by omega⟩
  refine ⟨a,p1,kp,slopeL kp,20,rfl,t1 _ _ hA,e1,tW,gX tW,by omega,by omega,xn 20 (aC kp) (aC (slopeL kp)) 230 234 s (by rw [RM.plain_len];exact hs) (by omega) (by rw [RM.plain_len];omega) (by omega) (gC tW) (gC (gX tW)) (by rw [pW];exact hM.bits) hsl ?_ ?_,fun p2 H2 s2 hp2 e2=>?_⟩
  ·exact Nat.le_trans (show 231<=gr 240 0 by decide) (fE 240 (Nat.zero_le _))
  ·exact Nat.le_trans (show 235<=gr 240 1 by decide) (fE 240 (by omega))
  have e2':H2 p2=some (.lst ((mor us 1).map V.int)):=by rw [<- eC];exact e2
  have t2:=t1.trans s2
  refine ⟨a,p2,kp,_,241,rfl,t2 _ _ hA,e2',tW,(iR hM.use _).tr,bW,hM.more.mono,by have:(kp.length+2)*(241+1)<=11*242:=Nat.mul_le_mul_right _ (by omega);omega,by omega,(iR hM.use _).ne,r1,fun p3 H3 s3 hp3 e3=>?_⟩
  rw [r2] at e3
  exact k p3 H3 (t2.trans s3) (t2.free hp3) e3
structure Whl (fs:List (List Int)):Prop where
 fam:Fam fs
 l2:2<=(prQ fs).length
 l7:(prQ fs).length<=7
 bits:AllB 250 (prQ fs)
def cX (fs:List (List Int)):List (List Int):=bC 9 (ar (prQ fs)) (ar (slopeL (prQ fs)))
theorem mT {fs:List (List Int)} (hF:Fam fs) (hl:(prQ fs).length<=7) {t n t' n':Int} (hn:0<n) (hn':0<n') (hlt:t*n'<t'*n):((chS (sgs t n (cX fs))).1:Int)-(chS (sgs t' n' (cX fs))).1=bh (aJ fs) t n t' n':=by
 have:=J0 (N:=8) (c:=1) hF.fac hF.nd (by decide) (P:=prQ fs) hF.one.symm (by omega) (by omega) hn hn' hlt
 rw [Ak,Ak];exact this
theorem qP {fs:List (List Int)} (hF:Fam fs) (hl:(prQ fs).length<=7) (hb:AllB 250 (prQ fs)):Run 9 (ar (prQ fs)) (ar (slopeL (prQ fs)))/\(∀ xs∈cX fs,xs.length<=20/\AllB 95000 xs)/\(cX fs).length<=1000000:=by
 obtain ⟨r1,_,r3⟩:=CY hF.pln.tr (hb.mono) hl
 refine ⟨r1,fun xs hx=>?_,?_⟩
 ·obtain ⟨_,b,l⟩:=r3 xs hx
  exact ⟨by omega,b.mono⟩
 ·have:=xt 9 (ar (prQ fs)) (ar (slopeL (prQ fs)))
  show (bC 9 _ _).length<=_
  omega
def wu (C:Addr):Sp:=fun vs H Q _=>∃ (a l h:Addr) (fs:List (List Int)) (l1 l2 h1 h2:Int),vs=[.ref a,.ref l,.ref h]/\H a=some (.lst ((prQ fs).map V.int))/\Whl fs/\RA C H l l1 l2/\RA C H h h1 h2/\EndsG 250 l1 l2 h1 h2/\∀ H',Same H H'->Q (.int (bh (aJ fs) l1 l2 h1 h2)) H'
theorem EC {C f:Addr} {fd:FuncData} (F:Fun K "many_within" "many_within" pZ f fd) (T:Txt K mg) (R:RCI K mg C) {iQ:Addr} {iL:FuncData} (jh:MCal P w K mg base 2 C "against" ["self","other"] (kg C) iQ iL) {tf:Addr} {sK:FuncData} (uR:Cal P w K mg base 4 "count" ["row","low","high"] (oW C) tf sK) {ll:Addr} {lg:FuncData} (me:Cal P w K mg base 35 "row_of" ["polynomial"] mC ll lg):FnOk P w K mg base CX0 36 f fd ["simple","low","high"] (wu C):=by
 obtain ⟨gw,fW,gu⟩:=jh
 obtain ⟨uE,rP,si,ug⟩:=uR
 obtain ⟨lY,kQ,kZ,lI⟩:=me
 refine F.ok Cv (fun vs H Q E h=>?_) (fun cdv A outer s H vs Q E hr h=>?_)
 ·obtain ⟨a,l,h,fs,l1,l2,h1,h2,rfl,_⟩:=h
  rfl
 ·obtain ⟨a,l,h,fs,l1,l2,h1,h2,rfl,hA,hW,hl,hh,en,k⟩:=h
  refine ⟨_,(ah (aQ (aH np (cP (pv 1) R.cl fW gw (hr.mono) gu .nil aj (aa (pv 2) ac)) ad (aE _))
   (al (aB ad))
   aR)
   (al (aB (aq uE (hr.mono) rfl rP si ug .nil aj (aa (aq lY (hr.mono) rfl kQ kZ lI .nil aj (aa (pv 0) ac)) (aa (pv 1) (aa (pv 2) ac))))))),?_⟩
  have l7:=hW.l7
  obtain ⟨rn,rx,rl⟩:=qP hW.fam l7 hW.bits
  obtain ⟨dxl,hl'⟩:=id hl
  refine bz ⟨_,rfl,l,dxl,_,rfl,hl',cS _ _ dZ.1 dZ.2,_,rfl,l,h,l1,l2,h1,h2,rfl,hl,hh,en.bl1.mono,en.bl2.mono,en.bh1.mono,en.bh2.mono,_,_,rfl,rfl,_,rfl,aL (fun hge=>?_) (fun _=>?_)⟩
  ·have:sg (l1*h2-h1*l2) = -1:=Ce (by have:=en.lt;omega)
   rw [this] at hge
   exact absurd hge (by decide)
  refine aU ⟨_,rfl,a,prQ fs,9,rfl,hA,hW.fam.pln.tr,hW.bits.mono,by omega,by decide,rn,fun lr ps H1 s1 hl1 hnew el hR=>?_⟩
  refine ⟨_,rfl,_,rfl,lr,l,h,ps,cX fs,l1,l2,h1,h2,rfl,el,hR,hl.same s1,hh.same s1,en.bl1.mono,en.bl2.mono,en.bh1.mono,en.bh2.mono,rx,rl,fun H2 s2=>?_⟩
  have:=k H2 (s1.trans s2)
  rw [<- mT hW.fam l7 en.l2p en.h2p en.lt] at this
  exact this
theorem mV {Q:Hp->Prop} {H1 H2:Hp} (e:H1=H2) (h:Q H2):Q H1:=by rw [e];exact h
def wy (C:Addr):Sp:=fun vs H Q _=>∃ (p q:Addr) (t b u d:Int),vs=[.ref p,.ref q]/\RA C H p t b/\RA C H q u d/\Bits 900 t/\Bits 900 b/\Bits 900 u/\Bits 900 d/\0<b/\0<d/\mkR C H Q (t*d+u*b) (2*b*d)
theorem EB {C f:Addr} {fd:FuncData} (F:Fun K "middle" "middle" pY f fd) (T:Txt K mg) (R:RCI K mg C) {f_Ratio:Addr} {fd_Ratio:FuncData} {ds_Ratio:List Value} (ci:KCal P w K mg base 2 C "Ratio" ["self","top","bottom"] (da C) f_Ratio fd_Ratio ds_Ratio [.int 1]):FnOk P w K mg base CX0 4 f fd ["low","high"] (wy C):=by
 obtain ⟨bK,bJ,bH,b5,cV,cU⟩:=ci
 refine F.ok Cu (fun vs H Q E h=>?_) (fun cdv A outer s H vs Q E hr h=>?_)
 ·obtain ⟨p,q,t,b,u,d,rfl,_⟩:=h
  rfl
 ·obtain ⟨p,q,t,b,u,d,rfl,⟨dx,hp⟩,⟨dy,hq⟩,bt,bb,bu,bd,hb,hd,k⟩:=h
  have b2:Bits 2 (2:Int):=by show (2:Int).natAbs<2^2;decide
  have b2b:Bits 902 (2*b):=b2.mul bb |>.mono
  refine ⟨_,(al (aB (cc bJ bK (hr.mono) rfl bH b5 .nil aj (aa (ai bj (ai aI (aO (K:=K) rfl (pv 0) rfl) (aO (K:=K) rfl (pv 1) rfl)) (ai aI (aO (K:=K) rfl (pv 1) rfl) (aO (K:=K) rfl (pv 0) rfl))) (aa (ai aI (ai aI ad (aO (K:=K) rfl (pv 0) rfl)) (aO (K:=K) rfl (pv 1) rfl)) ac))))),?_⟩
  refine ⟨_,rfl,p,C,dx,_,_,rfl,hp,R.cl,R.nT,cR _ _,_,rfl,q,C,dy,_,_,rfl,hq,R.cl,R.nB,bX _ _,_,_,rfl,rfl,⟨bt.mono,bd.mono⟩,?_⟩
  refine ⟨_,rfl,q,C,dy,_,_,rfl,hq,R.cl,R.nT,cR _ _,_,rfl,p,C,dx,_,_,rfl,hp,R.cl,R.nB,bX _ _,_,_,rfl,rfl,⟨bu.mono,bb.mono⟩,_,_,rfl,rfl,?_⟩
  refine ⟨_,rfl,p,C,dx,_,_,rfl,hp,R.cl,R.nB,bX _ _,_,_,rfl,rfl,⟨b2.mono,bb.mono⟩,_,rfl,q,C,dy,_,_,rfl,hq,R.cl,R.nB,bX _ _,_,_,rfl,rfl,⟨b2b.mono,bd.mono⟩,?_⟩
  exact cM (Int.ne_of_gt (Int.mul_pos (by omega) hd)) ((b2b.mul bd).mono) k
theorem zc {os:List Int} {l j k:Nat} (h1:isB os l j) (h2:isB os l k):j=k:=by
 rcases Nat.lt_trichotomy j k with z | z | z
 ·obtain ⟨x,hx,h⟩:=h2.2 j z
  have:=h1.1 x hx
  omega
 ·exact z
 ·obtain ⟨x,hx,h⟩:=h1.2 k z
  have:=h2.1 x hx
  omega
theorem Av {ns:List Int} (h:AllB 250 ns) (hp:0<ao ns) {kb:Nat} (hB:isB (ns.take (ns.length-1)) (ao ns).natAbs kb):kb<=252:=by
 rcases Nat.lt_or_ge kb 253 with z | z
 ·omega
 ·obtain ⟨x,hx,h2⟩:=hB.2 252 (by omega)
  have h3:x.natAbs<2^250:=h x (List.mem_of_mem_take hx)
  have h4:2^250<=2^252-1:=by decide +kernel
  have h5:2^252-1<=(2^252-1)*(ao ns).natAbs:=Nat.le_mul_of_pos_right _ (by omega)
  omega
def NL (H H':Hp):Prop:=∀ c o,H c=some o->(∀ xs,o≠.lst xs)->H' c=some o
theorem NL.of {H H':Hp} (s:Same H H'):NL H H':=fun c o e _=>s c o e
theorem NL.upd {H:Hp} {p:Addr} {xs:List V} {o:HO} (hp:H p=some (.lst xs)):NL H (upd H p o):=fun c o' e hn=>by
 have:c≠p:=fun z=>by rw [z,hp] at e;exact hn xs (Option.some.inj e).symm
 rw [upd_ne this];exact e
theorem NL.trans {H1 H2 H3:Hp} (a:NL H1 H2) (b:NL H2 H3):NL H1 H3:=fun c o e hn=>b c o (a c o e hn) hn
theorem RA.nl {C:Addr} {H H':Hp} {p:Addr} {t b:Int} (h:RA C H p t b) (s:NL H H'):RA C H' p t b:=let ⟨dx,e⟩:=h;⟨dx,s _ _ e (fun _=>by simp)⟩
structure Cel where
 q:Addr
 lo:Addr
 hi:Addr
 l1:Int
 l2:Int
 h1:Int
 h2:Int
 d:Nat
def VV (fs:List (List Int)) (t n:Int):Int:=(chS (sgs t n (cX fs))).1
def Cel.cn (x:Cel) (fs:List (List Int)):Int:=bh (aJ fs) x.l1 x.l2 x.h1 x.h2
def Cel.inn (x:Cel) (s:List Int):Prop:=0<ak s x.l1 x.l2/\ak s x.h1 x.h2<=0
structure WtH (C:Addr) (H:Hp) (fs:List (List Int)) (kb:Nat) (x:Cel):Prop where
 tup:H x.q=some (.tup [.ref x.lo,.ref x.hi,.int (VV fs x.l1 x.l2),.int (VV fs x.h1 x.h2)])
 lo:RA C H x.lo x.l1 x.l2
 hi:RA C H x.hi x.h1 x.h2
 dy:Dya (2^kb) x.d x.l1 x.l2 x.h1 x.h2
 dd:x.d<=kb+201
theorem WtH.nl {C:Addr} {H H':Hp} {fs:List (List Int)} {kb:Nat} {x:Cel} (h:WtH C H fs kb x) (s:NL H H'):WtH C H' fs kb x:=⟨s _ _ h.tup (fun _=>by simp),h.lo.nl s,h.hi.nl s,h.dy,h.dd⟩
structure FdH (C:Addr) (H:Hp) (fs:List (List Int)) (kb:Nat) (x:Cel):Prop where
 tup:H x.q=some (.tup [.ref x.lo,.ref x.hi])
 lo:RA C H x.lo x.l1 x.l2
 hi:RA C H x.hi x.h1 x.h2
 dy:Dya (2^kb) x.d x.l1 x.l2 x.h1 x.h2
 dd:x.d<=kb+201
 one:x.cn fs=1
theorem FdH.nl {C:Addr} {H H':Hp} {fs:List (List Int)} {kb:Nat} {x:Cel} (h:FdH C H fs kb x) (s:NL H H'):FdH C H' fs kb x:=⟨s _ _ h.tup (fun _=>by simp),h.lo.nl s,h.hi.nl s,h.dy,h.dd,h.one⟩
theorem og {kb d:Nat} {l1 l2 h1 h2:Int} (h:Dya (2^kb) d l1 l2 h1 h2) (hk:kb<=252) (hd:d<=kb+201):Bits 710 l1/\Bits 710 l2/\Bits 710 h1/\Bits 710 h2:=by
 obtain ⟨⟨a,b⟩,c,e⟩:=h.bits
 have hp:2^(kb+d)<2^710:=(Nat.pow_lt_pow_iff_right (by decide)).mpr (by omega)
 exact ⟨Nat.lt_of_le_of_lt a hp,Nat.lt_of_le_of_lt b hp,Nat.lt_of_le_of_lt c hp,Nat.lt_of_le_of_lt e hp⟩
theorem JP {kb d:Nat} {l1 l2 h1 h2:Int} (h:Dya (2^kb) d l1 l2 h1 h2) (hk:kb<=252) (hd:d<=kb+201):EndsG 710 l1 l2 h1 h2:=by
 obtain ⟨a,b,c,e⟩:=og h hk hd
 exact ⟨h.l2p,h.h2p,a,b,c,e,h.lt (Int.pow_pos (by decide)),h.gl,h.gh⟩
def wgt (fs:List (List Int)) (kb:Nat) (x:Cel):Nat:=1+2*((x.cn fs).toNat*(kb+201-x.d))
def dP (fs:List (List Int)) (kb:Nat) (ws:List Cel):Nat:=(ws.map (wgt fs kb)).sum
theorem ji (fs:List (List Int)) (kb:Nat) (ws:List Cel) (x:Cel):dP fs kb (ws++[x])=dP fs kb ws+wgt fs kb x:=by
 unfold dP;rw [List.map_append,List.sum_append];simp
theorem oy (fs:List (List Int)) (kb:Nat):∀ ws:List Cel,ws.length<=dP fs kb ws
 | []=>Nat.le_refl _
 | x::ws=>by
   have:=oy fs kb ws
   show ws.length+1<=wgt fs kb x+dP fs kb ws
   unfold wgt;omega
def qs (ws:List Cel):List V:=ws.map fun x=>V.ref x.q
theorem mX (ws:List Cel) (x:Cel):qs (ws++[x])=qs ws++[V.ref x.q]:=by unfold qs;rw [List.map_append];rfl
theorem Ad (l1 l2 h1 h2:Int):∀ ls:List (List Int),bh ls l1 l2 h1 h2<=ls.length
 | []=>Int.le_refl _
 | l::ls=>by
   rw [c8]
   have:=Ad l1 l2 h1 h2 ls
   rw [List.length_cons]
   split<;>omega
theorem vU:∀ fs:List (List Int),(aJ fs).length<=2*fs.length
 | []=>Nat.le_refl _
 | f::fs=>by
   have:=vU fs
   show (spF f++aJ fs).length<=2*(fs.length+1)
   rw [List.length_append]
   have h2:(spF f).length<=2:=by
    unfold spF
    rw [List.length_append]
    split<;>split<;>simp
   omega
theorem IX {fs:List (List Int)} (h:Fam fs):fs.length+1<=(prQ fs).length:=by
 have hp:=h.pri
 rw [h.prd]
 generalize hs:fs.map ag=ss at hp
 have e:fs.length=ss.length:=by rw [<- hs,List.length_map]
 rw [e]
 clear e hs h
 induction ss with
 | nil=>simp [prd]
 | cons s ss ih =>
   have h1:=ih fun x hx=>hp x (List.mem_cons_of_mem _ hx)
   have h2:=hp s (List.mem_cons_self ..)
   have h3:Pln (prd ss):=ig ss fun x hx=>(hp x (List.mem_cons_of_mem _ hx)).pln
   have h4:=bI h2.pln.ne h3.ne
   have h5:=h2.two
   show ss.length+1+1<=(af s (prd ss)).length
   omega
def cov (s:List Int) (xs:List Cel):Prop:=∃ x∈xs,x.inn s
theorem cov_snoc {s:List Int} {xs:List Cel} {x:Cel}:cov s (xs++[x])↔cov s xs\/x.inn s:=by
 constructor
 ·rintro ⟨y,hy,h⟩
  rcases List.mem_append.mp hy with z | z
  ·exact .inl ⟨y,z,h⟩
  ·rw [List.mem_singleton.mp z] at h;exact .inr h
 ·rintro (⟨y,hy,h⟩ | h)
  ·exact ⟨y,List.mem_append_left _ hy,h⟩
  ·exact ⟨x,by simp,h⟩
def wI (C:Addr):Sp:=fun vs H Q _=>∃ (a:Addr) (fs:List (List Int)),vs=[.ref a]/\H a=some (.lst ((prQ fs).map V.int))/\Whl fs /\
 ∀ (kb:Nat) (p:Addr) (ys:List Cel) (H':Hp),kb<=252->isB ((prQ fs).take ((prQ fs).length-1)) (ao (prQ fs)).natAbs kb->Same H H'->H p=none->H' p=some (.lst (qs ys))->(∀ y∈ys,FdH C H' fs kb y)->(∀ s∈aJ fs,cov s ys)->ys.length<=12000->Q (.ref p) H'
theorem EU {C f:Addr} {fd:FuncData} (F:Fun K "cells" "cells" qp f fd) (T:Txt K mg) (R:RCI K mg C) {gd:Addr} {ga:FuncData} (gz:Cal P w K mg base 1 "degree" ["row"] jo gd ga) {ll:Addr} {lg:FuncData} (me:Cal P w K mg base 35 "row_of" ["polynomial"] mC ll lg) {f_Ratio:Addr} {fd_Ratio:FuncData} {ds_Ratio:List Value} (ci:KCal P w K mg base 2 C "Ratio" ["self","top","bottom"] (da C) f_Ratio fd_Ratio ds_Ratio [.int 1]) {lu:Addr} {lj:FuncData} (mh:Cal P w K mg base 1 "bound" ["row"] (mF K) lu lj) {tq:Addr} {sM:FuncData} (uT:Cal P w K mg base 3 "changes" ["row","ratio"] (oX C) tq sM) {Jp:Addr} {Iy:FuncData} (Mb:Cal P w K mg base 4 "middle" ["low","high"] (wy C) Jp Iy):FnOk P w K mg base CX0 36 f fd ["row"] (wI C):=by
 obtain ⟨dO,dG,dJ,dN⟩:=gz
 obtain ⟨lY,kQ,kZ,lI⟩:=me
 obtain ⟨bK,bJ,bH,b5,cV,cU⟩:=ci
 obtain ⟨jc,iw,iB,i7⟩:=mh
 obtain ⟨j3,jJ,jL,jS⟩:=uT
 obtain ⟨Lv,Gg,G7,Kx⟩:=Mb
 refine F.ok sc_cells (fun vs H Q E h=>?_) (fun cdv A outer s H vs Q E hr h=>?_)
 ·obtain ⟨a,fs,rfl,_⟩:=h
  rfl
 ·obtain ⟨a,fs,rfl,hA,hW,k⟩:=h
  have big:=sizeLine_eq
  have hP:=hW.fam.pln
  have l7:=hW.l7
  have l2':=hW.l2
  have hml:((prQ fs).map V.int).length=(prQ fs).length:=List.length_map _
  obtain ⟨rn,rx,rl⟩:=qP hW.fam l7 hW.bits
  refine ⟨_,(ah (aQ (aH c7 (aq dO (hr.mono) rfl dG dJ dN .nil aj (aa (pv 0) ac)) ad (aE _))
   (al (aB (aZ ac)))
   aR)
   (ah (ap (i:=1) sc_cells.nd rfl (Or.inl rfl) (aq lY (hr.mono) rfl kQ kZ lI .nil aj (aa (pv 0) ac)))
   (ah (ap (i:=2) sc_cells.nd rfl (Or.inl rfl) (cc bJ bK (hr.mono) rfl bH cV cU aj (aa (aq jc (hr.mono) rfl iw iB i7 .nil aj (aa (pv 0) ac)) ac)))
   (ah (ap (i:=3) sc_cells.nd rfl (Or.inl rfl) (cc bJ bK (hr.mono) rfl bH cV cU aj (aa (bQ bM (aq jc (hr.mono) rfl iw iB i7 .nil aj (aa (pv 0) ac))) ac)))
   (ah (ap (i:=4) sc_cells.nd rfl (Or.inl rfl) (aZ (aa (db (aa (pv 3) (aa (pv 2) (aa (aq j3 (hr.mono) rfl jJ jL jS .nil aj (aa (pv 1) (aa (pv 3) ac))) (aa (aq j3 (hr.mono) rfl jJ jL jS .nil aj (aa (pv 1) (aa (pv 2) ac))) ac))))) ac)))
   (ah (ap (i:=5) sc_cells.nd rfl (Or.inl rfl) (aZ ac))
   (ah (fO PassesOwn.never (aH dj (bT (df (K:=K) rfl) (by rfl) T.len_ PySem.boot_len (aa (pv 4) ac)) ad (aE _))
     (ah (ap (i:=6) sc_cells.nd rfl (Or.inl rfl) (xZ PySem.F.plainAttrs_list PySem.F.slot_list_pop PySem.F.type_list_pop FB (pv 4)))
       (ah (ap (i:=7) sc_cells.nd rfl (Or.inl rfl) (ai b7 (aG (aS (K:=K) rfl) (pv 6) ad (fun _ _=>rfl)) (aG (aS (K:=K) rfl) (pv 6) ad (fun _ _=>rfl))))
       (ah (aQ (aH cI (pv 7) ad (aE _))
         (al (gE (kH PySem.F.plainAttrs_list PySem.F.slot_list_append PySem.F.type_list_append kM (pv 5) (aa (db (aa (aG (aS (K:=K) rfl) (pv 6) ad (fun _ _=>rfl)) (aa (aG (aS (K:=K) rfl) (pv 6) ad (fun _ _=>rfl)) ac))) ac))))
         aR)
       (al (aQ (aH dj (pv 7) ad (aE _))
         (ah (ap (i:=8) sc_cells.nd rfl (Or.inl rfl) (aq Lv (hr.mono) rfl Gg G7 Kx .nil aj (aa (aG (aS (K:=K) rfl) (pv 6) ad (fun _ _=>rfl)) (aa (aG (aS (K:=K) rfl) (pv 6) ad (fun _ _=>rfl)) ac))))
           (ah (ap (i:=9) sc_cells.nd rfl (Or.inl rfl) (aq j3 (hr.mono) rfl jJ jL jS .nil aj (aa (pv 1) (aa (pv 8) ac))))
           (ah (gE (kH PySem.F.plainAttrs_list PySem.F.slot_list_append PySem.F.type_list_append kM (pv 4) (aa (db (aa (pv 8) (aa (aG (aS (K:=K) rfl) (pv 6) ad (fun _ _=>rfl)) (aa (pv 9) (aa (aG (aS (K:=K) rfl) (pv 6) ad (fun _ _=>rfl)) ac))))) ac)))
           (al (gE (kH PySem.F.plainAttrs_list PySem.F.slot_list_append PySem.F.type_list_append kM (pv 4) (aa (db (aa (aG (aS (K:=K) rfl) (pv 6) ad (fun _ _=>rfl)) (aa (pv 8) (aa (aG (aS (K:=K) rfl) (pv 6) ad (fun _ _=>rfl)) (aa (pv 9) ac))))) ac)))))))
         aR))))))
   (al (aB (pv 5)))))))))),?_⟩
  refine bz ⟨_,rfl,a,_,rfl,hA,_,_,rfl,rfl,_,rfl,aL (fun h0=>absurd (show (((prQ fs).map V.int).length:Int)-1<1 from h0) (by rw [hml];omega)) (fun _=>?_)⟩
  refine aA ⟨_,rfl,a,prQ fs,9,rfl,hA,hP.tr,hW.bits.mono,by omega,by decide,rn,fun pc ps H1 s1 hpc hnew ec hR=>?_⟩
  have hR':RwH H1 ps (cX fs):=hR
  refine aA ⟨_,rfl,a,prQ fs,rfl,SqL.of (s1 _ _ hA),hP.tr,hP.ne,by omega,hW.bits.mono,fun kb H2 hkb hB s2=>cM (t:=((2^kb:Nat):Int)) (b:=1) (by decide) (b1k (by decide)) fun ph H3 s3 hph hRh=>?_⟩
  rw [mS,mW] at hRh
  have t3:=(s1.trans s2).trans s3
  refine aA ⟨_,rfl,a,prQ fs,rfl,SqL.of (t3 _ _ hA),hP.tr,hP.ne,by omega,hW.bits.mono,fun kb' H4 hkb' hB' s4=>?_⟩
  obtain rfl:=zc hB hB'
  refine ⟨_,rfl,cM (t := -((2^kb:Nat):Int)) (b:=1) (by decide) (b1k (by decide)) fun pl H5 s5 hpl hRl=>?_⟩
  rw [mS,mW] at hRl
  have hk:=Av hW.bits hP.pos hB
  have eB:((2^kb:Nat):Int)=(2:Int)^kb:=by rw [Int.natCast_pow];rfl
  rw [eB] at hRh hRl
  have B0:(0:Int)<2^kb:=Int.pow_pos (by decide)
  have t5:=(t3.trans s4).trans s5
  have u5:=(s2.trans s3).trans (s4.trans s5)
  have ec5:=u5 _ _ ec
  have hR5:=hR'.same u5
  have hRh5:=hRh.same (s4.trans s5)
  have dy0:Dya (2^kb) 0 (-(2^kb)) 1 (2^kb) 1:=Dya.start
  obtain ⟨b1,b2,b3,b4⟩:=og dy0 hk (by omega)
  refine aA ⟨_,rfl,_,rfl,_,rfl,_,rfl,pc,pl,ps,cX fs,_,_,rfl,ec5,hR5,hRl,b1.mono,b2.mono,rx,rl,fun H6 s6=>?_⟩
  refine ⟨_,rfl,_,rfl,pc,ph,ps,cX fs,_,_,rfl,s6 _ _ ec5,hR5.same s6,hRh5.same s6,b3.mono,b4.mono,rx,rl,fun H7 s7=>⟨by show 4<=sizeLine;omega,fun q0 hq0=>⟨by show 1<=sizeLine;omega,fun pw hpw=>?_⟩⟩⟩
  have u7:=s6.trans s7
  have ec7:=u7 _ _ ec5
  have hR7:=hR5.same u7
  have hRl7:=hRl.same u7
  have hRh7:=hRh5.same u7
  have t7:=t5.trans u7
  have w7:Same H7 (upd H7 q0 (.tup [.ref pl,.ref ph,.int (VV fs (-(2^kb)) 1),.int (VV fs (2^kb) 1)])):=Same.upd_new hq0
  have e8:upd H7 q0 (.tup [.ref pl,.ref ph,.int (VV fs (-(2^kb)) 1),.int (VV fs (2^kb) 1)]) q0=some (.tup [.ref pl,.ref ph,.int (VV fs (-(2^kb)) 1),.int (VV fs (2^kb) 1)]):=au
  have hpw':upd H7 q0 (.tup [.ref pl,.ref ph,.int (VV fs (-(2^kb)) 1),.int (VV fs (2^kb) 1)]) pw=none:=hpw
  refine aA ⟨Nat.zero_le _,fun pf hpf=>?_⟩
  have hpf':upd (upd H7 q0 (.tup [.ref pl,.ref ph,.int (VV fs (-(2^kb)) 1),.int (VV fs (2^kb) 1)])) pw (.lst [V.ref q0]) pf=none:=hpf
  show cW _ _ _ _ _
  refine gD (fun σ' H'=>σ'=[some (.ref a),some (.ref pc),some (.ref ph),some (.ref pl),some (.ref pw),some (.ref pf),none,none,none,none]/\upd (upd (upd H7 q0 (.tup [.ref pl,.ref ph,.int (VV fs (-(2^kb)) 1),.int (VV fs (2^kb) 1)])) pw (.lst [V.ref q0])) pf (.lst [])=H') ⟨rfl,rfl⟩ ?_
  rintro σ' H10 ⟨rfl,eH10⟩
  generalize upd H7 q0 (.tup [.ref pl,.ref ph,.int (VV fs (-(2^kb)) 1),.int (VV fs (2^kb) 1)])=H8 at w7 e8 hpw' hpf' eH10
  have sw:Same H8 (upd H8 pw (.lst [V.ref q0])):=Same.upd_new hpw'
  have sf:Same (upd H8 pw (.lst [V.ref q0])) H10:=by rw [<- eH10];exact Same.upd_new hpf'
  have s810:=sw.trans sf
  have fw:H8 pw=none:=hpw'
  have ff:H8 pf=none:=sw.free hpf'
  have nwf:pw≠pf:=aX (au (H:=H8) (o:=.lst [V.ref q0])) hpf'
  have ew10:H10 pw=some (.lst [V.ref q0]):=sf _ _ au
  have ef10:H10 pf=some (.lst []):=by rw [<- eH10];exact au
  have x0w:WtH C H10 fs kb ⟨q0,pl,ph,-(2^kb),1,2^kb,1,0⟩:=⟨s810 _ _ e8,hRl7.same (w7.trans s810),hRh7.same (w7.trans s810),dy0,Nat.zero_le _⟩
  have cov0:∀ s∈aJ fs,cov s [⟨q0,pl,ph,-(2^kb),1,2^kb,1,0⟩]:=fun s hs=>by
   obtain ⟨z1,z2⟩:=vX hW.fam.fac hW.fam.nd (B:=2^kb) (Nat.pow_pos (by decide)) hB.1 hs
   rw [eB] at z1 z2
   exact ⟨_,List.mem_singleton.mpr rfl,z2,Int.le_of_lt z1⟩
  clear eH10 sw sf
  have hsp:=vU fs
  have hfl:=IX hW.fam
  have hm0:dP fs kb [⟨q0,pl,ph,-(2^kb),1,2^kb,1,0⟩]<=11000:=by
   show wgt fs kb _+0<=11000
   unfold wgt
   have h1:=Ad (-(2^kb)) 1 (2^kb) 1 (aJ fs)
   have h2:(Cel.cn ⟨q0,pl,ph,-(2^kb),1,2^kb,1,0⟩ fs).toNat<=12:=by
    show (bh (aJ fs) (-(2^kb)) 1 (2^kb) 1).toNat<=12
    omega
   have h3:=Nat.mul_le_mul h2 (show kb+201-0<=453 by omega)
   have h4:(kb+201-(Cel.mk q0 pl ph (-(2^kb)) 1 (2^kb) 1 0).d)=kb+201-0:=rfl
   rw [h4]
   omega
  refine ⟨fun m σ' H'=>∃ (ws ys:List Cel) (z6 z7 z8 z9:Option V),m=dP fs kb ws/\σ'=[some (.ref a),some (.ref pc),some (.ref ph),some (.ref pl),some (.ref pw),some (.ref pf),z6,z7,z8,z9]/\Same H8 H'/\H' pw=some (.lst (qs ws))/\H' pf=some (.lst (qs ys))/\(∀ x∈ws,WtH C H' fs kb x)/\(∀ y∈ys,FdH C H' fs kb y)/\(∀ s∈aJ fs,cov s ws\/cov s ys)/\ys.length+m<=11000,
   ⟨_,[⟨q0,pl,ph,-(2^kb),1,2^kb,1,0⟩],[],none,none,none,none,rfl,rfl,s810,ew10,ef10,fun x hx=>by rw [List.mem_singleton.mp hx];exact x0w,(fun y hy=>nomatch hy),fun s hs=>.inl (cov0 s hs),by show 0+_<=_;omega⟩,?_⟩
  clear hm0 cov0 x0w ew10 ef10 s810
  rintro m σ' H' ⟨ws,ys,z6,z7,z8,z9,rfl,rfl,sm,ew,ef,hws,hys,hcov,hlen⟩
  have hwl:=oy fs kb ws
  have hql:(qs ws).length=ws.length:=List.length_map _
  refine ⟨_,rfl,pw,_,rfl,.inl (SqL.of ew),_,_,rfl,rfl,_,rfl,aL (fun hgt=>?_) (fun hle=>?_)⟩
  rotate_left
  ·
   have h0:ws=[]:=List.length_eq_zero_iff.mp (by have:¬ ((qs ws).length:Int)>0:=hle;rw [hql] at this;omega)
   subst h0
   refine ⟨_,rfl,k kb pf ys H' hk hB (t7.trans (w7.trans sm)) ((t7.trans w7).free ff) ef hys (fun s hs=>?_) (by omega)⟩
   rcases hcov s hs with ⟨x,hx,_⟩ | z
   ·cases hx
   ·exact z
  ·have hne:ws≠[]:=fun z=>by rw [z] at hql;have:((qs ws).length:Int)>0:=hgt;rw [z] at this;exact absurd this (by decide)
   obtain ⟨ws',x,rfl⟩:∃ ws' x,ws=ws'++[x]:=⟨ws.dropLast,ws.getLast hne,(List.dropLast_concat_getLast hne).symm⟩
   rw [ji] at hlen
   rw [mX] at ew
   have hx:=hws x (by simp)
   have hw':∀ y∈ws',WtH C H' fs kb y:=fun y hy=>hws y (by simp [hy])
   clear hws hql hgt hne
   have hwl:=oy fs kb ws'
   refine ⟨fun σ'' H''=>∃ m',m'<dP fs kb (ws'++[x])/\∃ (ws ys:List Cel) (z6 z7 z8 z9:Option V),m'=dP fs kb ws/\σ''=[some (.ref a),some (.ref pc),some (.ref ph),some (.ref pl),some (.ref pw),some (.ref pf),z6,z7,z8,z9]/\Same H8 H''/\H'' pw=some (.lst (qs ws))/\H'' pf=some (.lst (qs ys))/\(∀ x∈ws,WtH C H'' fs kb x)/\(∀ y∈ys,FdH C H'' fs kb y)/\(∀ s∈aJ fs,cov s ws\/cov s ys)/\ys.length+m'<=11000,fun _ _ h=>h,?_⟩
   rw [ji]
   refine aA ⟨_,rfl,.inl ⟨rfl,_,SqL.of ew⟩,pw,_,V.ref x.q,rfl,rfl,ew,by rw [List.length_append];simp,?_⟩
   rw [List.dropLast_concat]
   have ew1:upd H' pw (.lst (qs ws')) pw=some (.lst (qs ws')):=au
   have ef1:upd H' pw (.lst (qs ws')) pf=some (.lst (qs ys)):=by rw [upd_ne (Ne.symm nwf)];exact ef
   have n1:NL H' (upd H' pw (.lst (qs ws'))):=NL.upd ew
   have sm1:Same H8 (upd H' pw (.lst (qs ws'))):=fT sm fw
   generalize upd H' pw (.lst (qs ws'))=K1 at ew1 ef1 n1 sm1 ⊢
   have hx1:=hx.nl n1
   have hw1:∀ y∈ws',WtH C K1 fs kb y:=fun y hy=>(hw' y hy).nl n1
   have hy1:∀ y∈ys,FdH C K1 fs kb y:=fun y hy=>(hys y hy).nl n1
   clear hw' hys ew ef sm n1 hx
   refine aA ⟨_,rfl,x.q,_,_,_,rfl,rfl,SqT.of hx1.tup,rfl,_,rfl,x.q,_,_,_,rfl,rfl,SqT.of hx1.tup,rfl,_,_,rfl,rfl,?_⟩
   have ecn:VV fs x.l1 x.l2-VV fs x.h1 x.h2=x.cn fs:=mT hW.fam l7 hx1.dy.l2p hx1.dy.h2p (hx1.dy.lt B0)
   dsimp only
   rw [ecn]
   have cn0:0<=x.cn fs:=ly _ _ _ _ _
   refine dW (fun σ' H'=>∃ ys:List Cel,σ'=[some (.ref a),some (.ref pc),some (.ref ph),some (.ref pl),some (.ref pw),some (.ref pf),some (.ref x.q),some (.int (x.cn fs)),z8,z9]/\Same H8 H'/\H' pw=some (.lst (qs ws'))/\H' pf=some (.lst (qs ys))/\WtH C H' fs kb x/\(∀ y∈ws',WtH C H' fs kb y)/\(∀ y∈ys,FdH C H' fs kb y)/\(∀ s∈aJ fs,cov s ws'\/(x.cn fs≠1/\x.inn s)\/cov s ys)/\ys.length+dP fs kb ws'+(if x.cn fs=1 then 0 else wgt fs kb x)<=11000) ?_ ?_
   case refine_2 =>
    intro rest
    refine ⟨_,rfl,_,_,rfl,rfl,_,rfl,aL (fun h1=>?_) (fun h1=>?_)⟩
    ·have h1':x.cn fs=1:=h1
     refine xy ⟨_,rfl,.inl ⟨rfl,_,SqL.of ef1⟩,_,rfl,x.q,_,_,_,rfl,rfl,SqT.of hx1.tup,rfl,_,rfl,x.q,_,_,_,rfl,rfl,SqT.of hx1.tup,rfl,by show 2<=sizeLine;omega,fun p hp=>?_⟩
     have s2:Same K1 (upd K1 p (.tup [V.ref x.lo,V.ref x.hi])):=Same.upd_new hp
     have e2:upd K1 p (.tup [V.ref x.lo,V.ref x.hi]) p=some (.tup [V.ref x.lo,V.ref x.hi]):=au
     generalize upd K1 p (.tup [V.ref x.lo,V.ref x.hi])=K2 at s2 e2 ⊢
     have ef2:=s2 _ _ ef1
     have hyl:(qs ys).length=ys.length:=List.length_map _
     refine ⟨pf,_,_,rfl,rfl,ef2,by rw [hyl];omega,?_⟩
     have n3:NL K1 (upd K2 pf (.lst (qs ys++[V.ref p]))):=(NL.of s2).trans (NL.upd ef2)
     have n4:NL K2 (upd K2 pf (.lst (qs ys++[V.ref p]))):=NL.upd ef2
     refine rest _ _ ⟨ys++[⟨p,x.lo,x.hi,x.l1,x.l2,x.h1,x.h2,x.d⟩],rfl,fT (sm1.trans s2) ff,by rw [upd_ne nwf];exact s2 _ _ ew1,by rw [au,mX],hx1.nl n3,fun y hy=>(hw1 y hy).nl n3,fun y hy=>?_,fun s hs=>?_,?_⟩
     ·rcases List.mem_append.mp hy with z | z
      ·exact (hy1 y z).nl n3
      ·rw [List.mem_singleton.mp z]
       exact ⟨n4 _ _ e2 (fun _=>by simp),hx1.lo.nl n3,hx1.hi.nl n3,hx1.dy,hx1.dd,h1'⟩
     ·rcases hcov s hs with z | z
      ·rcases cov_snoc.mp z with z | z
       ·exact .inl z
       ·exact .inr (.inr (cov_snoc.mpr (.inr z)))
      ·exact .inr (.inr (cov_snoc.mpr (.inl z)))
     ·rw [if_pos h1',List.length_append]
      show ys.length+1+_+0<=_
      have:1<=wgt fs kb x:=by unfold wgt;omega
      omega
    ·have h1':¬ x.cn fs=1:=h1
     refine rest _ _ ⟨ys,rfl,sm1,ew1,ef1,hx1,hw1,hy1,fun s hs=>?_,by rw [if_neg h1'];omega⟩
     rcases hcov s hs with z | z
     ·rcases cov_snoc.mp z with z | z
      ·exact .inl z
      ·exact .inr (.inl ⟨h1',z⟩)
     ·exact .inr (.inr z)
   clear hcov hlen hy1 hw1 hx1 ef1 ew1 sm1 ys
   rintro σ' K3 ⟨ys,rfl,sm1,ew1,ef1,hx1,hw1,hy1,hcov,hlen⟩
   refine ⟨_,rfl,_,_,rfl,rfl,_,rfl,aL (fun h2=>?_) (fun h2=>?_)⟩
   rotate_left
   ·
    have h2':¬ x.cn fs>1:=h2
    refine ⟨dP fs kb ws',by unfold wgt;omega,ws',ys,_,_,_,_,rfl,rfl,sm1,ew1,ef1,hw1,hy1,fun s hs=>?_,by split at hlen<;>omega⟩
    rcases hcov s hs with z | ⟨z1,z2⟩ | z
    ·exact .inl z
    ·have:1<=x.cn fs:=Ac hs z2
     omega
    ·exact .inr z
   have h2':x.cn fs>1:=h2
   rw [if_neg (show ¬ x.cn fs=1 by omega)] at hlen
   have hdl:x.d<kb+201:=Nat.not_le.mp fun z=>by
    have:x.cn fs<=1:=Dya.few hW.fam.fac hW.fam.nd hx1.dy z
    omega
   obtain ⟨c1,c2,c3,c4⟩:=og hx1.dy hk hx1.dd
   refine aA ⟨_,rfl,x.q,_,_,_,rfl,rfl,SqT.of hx1.tup,rfl,_,rfl,x.q,_,_,_,rfl,rfl,SqT.of hx1.tup,rfl,x.lo,x.hi,_,_,_,_,rfl,hx1.lo,hx1.hi,c1.mono,c2.mono,c3.mono,c4.mono,hx1.dy.l2p,hx1.dy.h2p,fun pm K4 s4 hpm hRm=>?_⟩
   have n0:2*x.l2*x.h2≠0:=Int.ne_of_gt (Int.mul_pos (by have:=hx1.dy.l2p;omega) hx1.dy.h2p)
   obtain ⟨dl,dr⟩:=hx1.dy.half (cY n0) (ku n0) (eJ n0)
   generalize rt (x.l1*x.h2+x.h1*x.l2) (2*x.l2*x.h2)=m1 at hRm dl dr
   generalize rb (x.l1*x.h2+x.h1*x.l2) (2*x.l2*x.h2)=m2 at hRm dl dr
   have hx4:=hx1.nl (NL.of s4)
   obtain ⟨g1,g2,g3,g4⟩:=og dl hk (by omega)
   have sm4:=sm1.trans s4
   refine aA ⟨_,rfl,_,rfl,pc,pm,ps,cX fs,m1,m2,rfl,sm4 _ _ (w7 _ _ ec7),hR7.same (w7.trans sm4),hRm,g3.mono,g4.mono,rx,rl,fun K5 s5=>?_⟩
   have hx5:=hx4.nl (NL.of s5)
   have u5:=s4.trans s5
   refine ju ⟨_,rfl,.inl ⟨rfl,_,SqL.of (u5 _ _ ew1)⟩,_,rfl,_,rfl,x.q,_,_,_,rfl,rfl,SqT.of hx5.tup,rfl,_,rfl,_,rfl,x.q,_,_,_,rfl,rfl,SqT.of hx5.tup,rfl,by show 4<=sizeLine;omega,fun q1 hq1=>?_⟩
   have s6:Same K5 (upd K5 q1 (.tup [V.ref pm,V.ref x.hi,V.int (VV fs m1 m2),V.int (VV fs x.h1 x.h2)])):=Same.upd_new hq1
   have e6:upd K5 q1 (.tup [V.ref pm,V.ref x.hi,V.int (VV fs m1 m2),V.int (VV fs x.h1 x.h2)]) q1=some (.tup [V.ref pm,V.ref x.hi,V.int (VV fs m1 m2),V.int (VV fs x.h1 x.h2)]):=au
   refine mV (H2:=upd K5 q1 (.tup [V.ref pm,V.ref x.hi,V.int (VV fs m1 m2),V.int (VV fs x.h1 x.h2)])) rfl ?_
   generalize upd K5 q1 (.tup [V.ref pm,V.ref x.hi,V.int (VV fs m1 m2),V.int (VV fs x.h1 x.h2)])=K6 at s6 e6 ⊢
   have u6:=u5.trans s6
   have ew6:=u6 _ _ ew1
   have ef6:=u6 _ _ ef1
   have hql:(qs ws').length=ws'.length:=List.length_map _
   refine ⟨pw,_,_,rfl,rfl,ew6,by rw [hql];omega,?_⟩
   have ew7:upd K6 pw (.lst (qs ws'++[V.ref q1])) pw=some (.lst (qs ws'++[V.ref q1])):=au
   have ef7:upd K6 pw (.lst (qs ws'++[V.ref q1])) pf=some (.lst (qs ys)):=by rw [upd_ne (Ne.symm nwf)];exact ef6
   have n7:NL K6 (upd K6 pw (.lst (qs ws'++[V.ref q1]))):=NL.upd ew6
   have sm7:Same H8 (upd K6 pw (.lst (qs ws'++[V.ref q1]))):=fT (sm1.trans u6) fw
   generalize upd K6 pw (.lst (qs ws'++[V.ref q1]))=K7 at ew7 ef7 n7 sm7 ⊢
   have m5:NL K5 K7:=(NL.of s6).trans n7
   have hx7:=hx5.nl m5
   refine xy ⟨_,rfl,.inl ⟨rfl,_,SqL.of ew7⟩,_,rfl,x.q,_,_,_,rfl,rfl,SqT.of hx7.tup,rfl,_,rfl,_,rfl,x.q,_,_,_,rfl,rfl,SqT.of hx7.tup,rfl,_,rfl,by show 4<=sizeLine;omega,fun q2 hq2=>?_⟩
   have s8:Same K7 (upd K7 q2 (.tup [V.ref x.lo,V.ref pm,V.int (VV fs x.l1 x.l2),V.int (VV fs m1 m2)])):=Same.upd_new hq2
   have e8':upd K7 q2 (.tup [V.ref x.lo,V.ref pm,V.int (VV fs x.l1 x.l2),V.int (VV fs m1 m2)]) q2=some (.tup [V.ref x.lo,V.ref pm,V.int (VV fs x.l1 x.l2),V.int (VV fs m1 m2)]):=au
   refine mV (H2:=upd K7 q2 (.tup [V.ref x.lo,V.ref pm,V.int (VV fs x.l1 x.l2),V.int (VV fs m1 m2)])) rfl ?_
   generalize upd K7 q2 (.tup [V.ref x.lo,V.ref pm,V.int (VV fs x.l1 x.l2),V.int (VV fs m1 m2)])=K8 at s8 e8' ⊢
   have ew8:=s8 _ _ ew7
   have hql8:(qs ws'++[V.ref q1]).length=ws'.length+1:=by rw [List.length_append,hql];rfl
   refine ⟨pw,_,_,rfl,rfl,ew8,by rw [hql8];omega,?_⟩
   have n9:NL K8 (upd K8 pw (.lst ((qs ws'++[V.ref q1])++[V.ref q2]))):=NL.upd ew8
   have m7:NL K7 (upd K8 pw (.lst ((qs ws'++[V.ref q1])++[V.ref q2]))):=(NL.of s8).trans n9
   have m6:=n7.trans m7
   have mm5:=m5.trans m7
   have m3:=(NL.of u5).trans mm5
   have ladd:x.cn fs=(Cel.mk q2 x.lo pm x.l1 x.l2 m1 m2 (x.d+1)).cn fs+(Cel.mk q1 pm x.hi m1 m2 x.h1 x.h2 (x.d+1)).cn fs:=J6 hW.fam.q dl.l2p dl.h2p dr.h2p (dl.lt B0) (dr.lt B0)
   have wl:wgt fs kb ⟨q1,pm,x.hi,m1,m2,x.h1,x.h2,x.d+1⟩+wgt fs kb ⟨q2,x.lo,pm,x.l1,x.l2,m1,m2,x.d+1⟩<wgt fs kb x:=by
    have p1:0<=(Cel.mk q2 x.lo pm x.l1 x.l2 m1 m2 (x.d+1)).cn fs:=ly _ _ _ _ _
    have p2:0<=(Cel.mk q1 pm x.hi m1 m2 x.h1 x.h2 (x.d+1)).cn fs:=ly _ _ _ _ _
    unfold wgt
    show 1+2*(_*(kb+201-(x.d+1)))+(1+2*(_*(kb+201-(x.d+1))))<_
    generalize (Cel.mk q2 x.lo pm x.l1 x.l2 m1 m2 (x.d+1)).cn fs=A at *
    generalize (Cel.mk q1 pm x.hi m1 m2 x.h1 x.h2 (x.d+1)).cn fs=B at *
    obtain ⟨A,rfl⟩:=Int.eq_ofNat_of_zero_le p1
    obtain ⟨B,rfl⟩:=Int.eq_ofNat_of_zero_le p2
    obtain ⟨t,ht⟩:∃ t,kb+201-x.d=t+1:=⟨kb+201-x.d-1,by omega⟩
    have ht':kb+201-(x.d+1)=t:=by omega
    have hc:(x.cn fs).toNat=A+B:=by omega
    rw [hc,ht,ht']
    show 1+2*(B*t)+(1+2*(A*t))<1+2*((A+B)*(t+1))
    have e1:(A+B)*(t+1)=A*t+B*t+(A+B):=by rw [Nat.mul_succ,Nat.add_mul]
    rw [e1]
    omega
   refine ⟨dP fs kb (ws'++[⟨q1,pm,x.hi,m1,m2,x.h1,x.h2,x.d+1⟩]++[⟨q2,x.lo,pm,x.l1,x.l2,m1,m2,x.d+1⟩]),by rw [ji,ji];omega,_,ys,_,_,_,_,rfl,rfl,fT (sm7.trans s8) fw,by rw [au,mX,mX],by rw [upd_ne (Ne.symm nwf)];exact s8 _ _ ef7,fun y hy=>?_,fun y hy=>(hy1 y hy).nl m3,fun s hs=>?_,by rw [ji,ji];omega⟩
   ·rcases List.mem_append.mp hy with z | z
    ·rcases List.mem_append.mp z with z | z
     ·exact (hw1 y z).nl m3
     ·rw [List.mem_singleton.mp z]
      exact ⟨m6 _ _ e6 (fun _=>by simp),(hRm.same s5).nl mm5,hx5.hi.nl mm5,dr,by show x.d+1<=_;omega⟩
    ·rw [List.mem_singleton.mp z]
     exact ⟨n9 _ _ e8' (fun _=>by simp),hx5.lo.nl mm5,(hRm.same s5).nl mm5,dl,by show x.d+1<=_;omega⟩
   ·rcases hcov s hs with z | ⟨_,z2⟩ | z
    ·exact .inl (cov_snoc.mpr (.inl (cov_snoc.mpr (.inl z))))
    ·rcases Int.lt_or_le 0 (ak s m1 m2) with v | v
     ·exact .inl (cov_snoc.mpr (.inl (cov_snoc.mpr (.inr ⟨v,z2.2⟩))))
     ·exact .inl (cov_snoc.mpr (.inr ⟨z2.1,v⟩))
    ·exact .inr z
theorem kX {ns:List Int} (h:ns≠[]):atI (ns.map V.int) (-1)=some (.int (ao ns)):=by
 obtain ⟨r,x,rfl⟩:=(cK ns).resolve_left h
 rw [dk];exact AJ r x
theorem kW {k:Nat} {ns:List Int} (h:AllB k ns):Bits k (ao ns):=h.cf _
def wE (C:Addr):Sp:=fun vs H Q _=>∃ (a:Addr) (fs:List (List Int)),vs=[.ref a]/\H a=some (.lst ((prQ fs).map V.int))/\Whl fs/\∀ (x:Addr) (H':Hp) (kb:Nat),kb<=252->isB ((prQ fs).take ((prQ fs).length-1)) (ao (prQ fs)).natAbs kb->Same H H'->H x=none->RA C H' x 1 (8*ao (prQ fs)*2^kb)->0<8*ao (prQ fs)*(2:Int)^kb->Bits 520 (8*ao (prQ fs)*(2:Int)^kb)->Q (.ref x) H'
theorem EJ {C f:Addr} {fd:FuncData} (F:Fun K "fine_width" "fine_width" qf f fd) (T:Txt K mg) (R:RCI K mg C) {f_Ratio:Addr} {fd_Ratio:FuncData} {ds_Ratio:List Value} (ci:KCal P w K mg base 2 C "Ratio" ["self","top","bottom"] (da C) f_Ratio fd_Ratio ds_Ratio [.int 1]) {lu:Addr} {lj:FuncData} (mh:Cal P w K mg base 1 "bound" ["row"] (mF K) lu lj):FnOk P w K mg base CX0 4 f fd ["whole"] (wE C):=by
 obtain ⟨bK,bJ,bH,b5,cV,cU⟩:=ci
 obtain ⟨jc,iw,iB,i7⟩:=mh
 refine F.ok Cw (fun vs H Q E h=>?_) (fun cdv A outer s H vs Q E hr h=>?_)
 ·obtain ⟨a,fs,rfl,_⟩:=h
  rfl
 ·obtain ⟨a,fs,rfl,hA,hW,k⟩:=h
  refine ⟨_,(al (aB (cc bJ bK (hr.mono) rfl bH b5 .nil aj (aa ad (aa (ai aI (ai aI ad (aG (ck (K:=K) rfl) (pv 0) (bQ bM ad) (fun _ _=>rfl))) (aq jc (hr.mono) rfl iw iB i7 .nil aj (aa (pv 0) ac))) ac))))),?_⟩
  have hP:=hW.fam.pln
  have l7:=hW.l7
  have hb:=hW.bits
  have b8:Bits 4 (8:Int):=by show (8:Int).natAbs<2^4;decide
  have hp:=hP.pos
  refine aU ⟨_,rfl,_,rfl,a,_,_,_,rfl,rfl,SqL.of hA,kX hP.ne,_,_,rfl,rfl,⟨b8.mono,(kW hb).mono⟩,_,rfl,a,prQ fs,rfl,SqL.of hA,hP.tr,hP.ne,by omega,hb.mono,fun kb H1 hkb hB s1=>?_⟩
  have hk:=Av hb hp hB
  have b2:Bits 253 ((2^kb:Nat):Int):=by
   show (((2^kb:Nat):Int)).natAbs<2^253
   rw [Int.natAbs_natCast]
   exact (Nat.pow_lt_pow_iff_right (by decide)).mpr (by omega)
  have b3:Bits 254 (8*ao (prQ fs)):=(b8.mul (kW hb)).mono
  have pk:(0:Int)<((2^kb:Nat):Int):=Int.ofNat_lt.mpr (Nat.pow_pos (by decide))
  have hD:0<8*ao (prQ fs)*((2^kb:Nat):Int):=Int.mul_pos (by omega) pk
  have bD:Bits 520 (8*ao (prQ fs)*((2^kb:Nat):Int)):=(b3.mul b2).mono
  refine ⟨_,_,rfl,rfl,⟨b3.mono,b2.mono⟩,cM (t:=1) (by omega) (bD.mono) fun x H2 s2 hx hR=>?_⟩
  rw [xo hD,xA hD] at hR
  have eB:((2^kb:Nat):Int)=(2:Int)^kb:=by rw [Int.natCast_pow];rfl
  rw [eB] at hR hD bD
  exact k x H2 kb hk hB (s1.trans s2) (s1.free hx) hR hD bD
def oV (C:Addr):Sp:=fun vs H Q _=>∃ (p:Addr) (t b:Int),vs=[.ref p]/\RA C H p t b/\0<b/\Bits 9000 b/\Q (.int (t/b)) H
theorem Fi {C f:Addr} {fd:FuncData} (F:Fun K "floor" "Ratio.floor" qL f fd) (T:Txt K mg) (R:RCI K mg C):FnOk P w K mg base CX0 1 f fd ["self"] (oV C):=by
 refine F.ok CO (fun vs H Q E h=>?_) (fun cdv A outer s H vs Q E hr h=>?_)
 ·obtain ⟨p,t,b,rfl,_⟩:=h
  rfl
 ·obtain ⟨p,t,b,rfl,⟨dx,hp⟩,hb,bb,k⟩:=h
  refine ⟨_,(al (aB (ai cQ (aO (K:=K) rfl (pv 0) rfl) (aO (K:=K) rfl (pv 0) rfl)))),?_⟩
  exact ⟨_,rfl,p,C,dx,_,_,rfl,hp,R.cl,R.nT,cR _ _,_,rfl,p,C,dx,_,_,rfl,hp,R.cl,R.nB,bX _ _,_,_,rfl,rfl,⟨hb,bb⟩,k⟩
theorem ny:¬ (("floor":Str)="bottom")/\¬ (("floor":Str)="top"):=⟨by decide +kernel,by decide +kernel⟩
theorem xE {a c:Int} (hc:0<c):rt a c/rb a c=a/c:=by
 have h0:c≠0:=by omega
 have e1:=jt (t:=a) h0
 have e2:=hJ (t:=a) h0
 have hp:0<dv a c:=by
  unfold dv
  rw [if_neg (by omega)]
  have:=jM (t:=a) h0
  omega
 have e3:dv a c*rt a c/(dv a c*rb a c)=rt a c/rb a c:=Int.mul_ediv_mul_of_pos _ _ hp
 rw [e1,e2] at e3
 exact e3.symm
def oO (C:Addr):Sp:=fun vs H Q _=>∃ (r:Addr) (c t b:Int),vs=[.int c,.ref r]/\RA C H r t b/\0<b/\Bits 10000 c/\Bits 10000 t/\Bits 8900 b/\∀ H',Same H H'->Q (.int (c*t/b)) H'
theorem D8 {C f:Addr} {fd:FuncData} (F:Fun K "times_floor" "times_floor" pi f fd) (T:Txt K mg) (R:RCI K mg C) {f_Ratio:Addr} {fd_Ratio:FuncData} {ds_Ratio:List Value} (ci:KCal P w K mg base 2 C "Ratio" ["self","top","bottom"] (da C) f_Ratio fd_Ratio ds_Ratio [.int 1]) {ge:Addr} {gb:FuncData} (gA:MCal P w K mg base 4 C "times" ["self","other"] (jm C) ge gb) {tF:Addr} {sS:FuncData} (uZ:MCal P w K mg base 1 C "floor" ["self"] (oV C) tF sS):FnOk P w K mg base CX0 5 f fd ["factor","ratio"] (oO C):=by
 obtain ⟨bK,bJ,bH,b5,cV,cU⟩:=ci
 obtain ⟨eu,d7,eo⟩:=gA
 obtain ⟨uJ,rH,ul⟩:=uZ
 refine F.ok Cn (fun vs H Q E h=>?_) (fun cdv A outer s H vs Q E hr h=>?_)
 ·obtain ⟨r,c,t,b,rfl,_⟩:=h
  rfl
 ·obtain ⟨r,c,t,b,rfl,hR,hb,bc,bt,bb,k⟩:=h
  refine ⟨_,(al (aB (xY (cP (cc bJ bK (hr.mono) rfl bH cV cU aj (aa (pv 0) ac)) R.cl d7 eu (hr.mono) eo .nil aj (aa (pv 1) ac)) R.cl rH uJ (hr.mono) ul .nil aj))),?_⟩
  refine aU ⟨_,rfl,cM (t:=c) (b:=1) (by decide) (b1k (by decide)) fun x H1 s1 hx hX=>?_⟩
  rw [mS,mW] at hX
  obtain ⟨dx,hX'⟩:=id hX
  refine ⟨x,dx,_,rfl,hX',cS _ _ du.1 du.2,_,rfl,x,r,c,1,t,b,1,8900,rfl,hX,hR.same s1,bc.mono,b1k (by decide),bt.mono,bb,by decide,by decide,hb,fun y H2 s2 hy hY=>?_⟩
  obtain ⟨dy,hY'⟩:=id hY
  have d0:1*b≠0:=by omega
  refine ⟨y,dy,_,rfl,hY',cS _ _ ny.1 ny.2,y,_,_,rfl,hY,cY d0,(dY d0 (by rw [Int.one_mul];exact bb)).mono,?_⟩
  rw [xE (show 0<1*b by omega),Int.one_mul]
  exact k H2 (s1.trans s2)
def vl (p:Int×Int):Rat:=(p.1:Rat)/(p.2:Rat)
theorem A7 {a b c d:Int} (hb:0<b) (hd:0<d) (h:¬ c*b<a*d):(a:Rat)/(b:Rat)<=(c:Rat)/(d:Rat):=Rat.not_lt.mp fun z=>h ((ia hd hb).mp z)
theorem ve {t b:Int} (hb:0<b):((rt t b:Int):Rat)/((rb t b:Int):Rat)=(t:Rat)/(b:Rat):=by
 have h0:b≠0:=by omega
 have hc:=eJ (t:=t) h0
 have hp:=cY (t:=t) h0
 have cb:(0:Rat)<(b:Rat):=Rat.intCast_lt_intCast.mpr hb
 have cr:(0:Rat)<((rb t b:Int):Rat):=Rat.intCast_lt_intCast.mpr hp
 have e1:((rt t b:Int):Rat)/((rb t b:Int):Rat)*((rb t b:Int):Rat)=((rt t b:Int):Rat):=Rat.div_mul_cancel (Rat.ne_of_gt cr)
 have e2:(t:Rat)/(b:Rat)*(b:Rat)=(t:Rat):=Rat.div_mul_cancel (Rat.ne_of_gt cb)
 have e3:((rt t b:Int):Rat)*(b:Rat)=(t:Rat)*((rb t b:Int):Rat):=by rw [<- Rat.intCast_mul,hc,Rat.intCast_mul]
 generalize ((rt t b:Int):Rat)/((rb t b:Int):Rat)=X at e1 ⊢
 generalize (t:Rat)/(b:Rat)=Y at e2 ⊢
 rw [<- e1,<- e2] at e3
 have hM:=Rat.mul_pos cr cb
 have e4:(((rb t b:Int):Rat)*(b:Rat))*X=(((rb t b:Int):Rat)*(b:Rat))*Y:=by grind
 exact Rat.le_antisymm (eI hM (by rw [e4];exact Rat.le_refl)) (eI hM (by rw [e4];exact Rat.le_refl))
theorem A6 {a b c d:Int} (hb:0<b) (hd:0<d):((a*c:Int):Rat)/((b*d:Int):Rat)=(a:Rat)/(b:Rat)*((c:Rat)/(d:Rat)):=by
 have cb:(0:Rat)<(b:Rat):=Rat.intCast_lt_intCast.mpr hb
 have cd:(0:Rat)<(d:Rat):=Rat.intCast_lt_intCast.mpr hd
 rw [Rat.intCast_mul,Rat.intCast_mul]
 have hM:=Rat.mul_pos cb cd
 have e1:(a:Rat)/(b:Rat)*(b:Rat)=(a:Rat):=Rat.div_mul_cancel (Rat.ne_of_gt cb)
 have e2:(c:Rat)/(d:Rat)*(d:Rat)=(c:Rat):=Rat.div_mul_cancel (Rat.ne_of_gt cd)
 have e3:(a:Rat)*(c:Rat)/((b:Rat)*(d:Rat))*((b:Rat)*(d:Rat))=(a:Rat)*(c:Rat):=Rat.div_mul_cancel (Rat.ne_of_gt hM)
 generalize (a:Rat)/(b:Rat)=X at e1 ⊢
 generalize (c:Rat)/(d:Rat)=Y at e2 ⊢
 generalize (a:Rat)*(c:Rat)/((b:Rat)*(d:Rat))=Z at e3 ⊢
 rw [<- e1,<- e2] at e3
 have e4:((b:Rat)*(d:Rat))*Z=((b:Rat)*(d:Rat))*(X*Y):=by grind
 exact Rat.le_antisymm (eI hM (by rw [e4];exact Rat.le_refl)) (eI hM (by rw [e4];exact Rat.le_refl))
theorem A8 {a b c d:Int} (hb:0<b) (hd:0<d):((a*d+c*b:Int):Rat)/((b*d:Int):Rat)=(a:Rat)/(b:Rat)+(c:Rat)/(d:Rat):=by
 have cb:(0:Rat)<(b:Rat):=Rat.intCast_lt_intCast.mpr hb
 have cd:(0:Rat)<(d:Rat):=Rat.intCast_lt_intCast.mpr hd
 rw [Rat.intCast_add,Rat.intCast_mul,Rat.intCast_mul,Rat.intCast_mul]
 have hM:=Rat.mul_pos cb cd
 have e1:(a:Rat)/(b:Rat)*(b:Rat)=(a:Rat):=Rat.div_mul_cancel (Rat.ne_of_gt cb)
 have e2:(c:Rat)/(d:Rat)*(d:Rat)=(c:Rat):=Rat.div_mul_cancel (Rat.ne_of_gt cd)
 have e3:((a:Rat)*(d:Rat)+(c:Rat)*(b:Rat))/((b:Rat)*(d:Rat))*((b:Rat)*(d:Rat))=(a:Rat)*(d:Rat)+(c:Rat)*(b:Rat):=Rat.div_mul_cancel (Rat.ne_of_gt hM)
 generalize ((a:Rat)*(d:Rat)+(c:Rat)*(b:Rat))/((b:Rat)*(d:Rat))=Z at e3 ⊢
 generalize (a:Rat)/(b:Rat)=X at e1 ⊢
 generalize (c:Rat)/(d:Rat)=Y at e2 ⊢
 rw [<- e1,<- e2] at e3
 have e4:((b:Rat)*(d:Rat))*Z=((b:Rat)*(d:Rat))*(X+Y):=by grind
 exact Rat.le_antisymm (eI hM (by rw [e4];exact Rat.le_refl)) (eI hM (by rw [e4];exact Rat.le_refl))
structure MaxP (x1 x2 y1 y2 p1 p2 q1 q2 m1 m2:Int):Prop where
 m2p:0<m2
 b1:Bits 6000 m1
 b2:Bits 6000 m2
 c1:vl (x1,x2)*vl (p1,p2)<=vl (m1,m2)
 c2:vl (x1,x2)*vl (q1,q2)<=vl (m1,m2)
 c3:vl (y1,y2)*vl (p1,p2)<=vl (m1,m2)
 c4:vl (y1,y2)*vl (q1,q2)<=vl (m1,m2)
 is:vl (m1,m2)=vl (x1,x2)*vl (p1,p2)\/vl (m1,m2)=vl (x1,x2)*vl (q1,q2)\/vl (m1,m2)=vl (y1,y2)*vl (p1,p2)\/vl (m1,m2)=vl (y1,y2)*vl (q1,q2)
structure TwoS (C:Addr) (H:Hp) (p q x y x' y':Addr) (x1 x2 y1 y2 p1 p2 q1 q2:Int):Prop where
 hp:H p=some (.tup [.ref x,.ref y])
 hq:H q=some (.tup [.ref x',.ref y'])
 hx:RA C H x x1 x2
 hy:RA C H y y1 y2
 hx':RA C H x' p1 p2
 hy':RA C H y' q1 q2
 e1:EndsG 1774 x1 x2 y1 y2
 e2:EndsG 4074 p1 p2 q1 q2
theorem TwoS.same {C:Addr} {H H':Hp} {p q x y x' y':Addr} {x1 x2 y1 y2 p1 p2 q1 q2:Int} (h:TwoS C H p q x y x' y' x1 x2 y1 y2 p1 p2 q1 q2) (s:Same H H'):TwoS C H' p q x y x' y' x1 x2 y1 y2 p1 p2 q1 q2:=⟨s _ _ h.hp,s _ _ h.hq,h.hx.same s,h.hy.same s,h.hx'.same s,h.hy'.same s,h.e1,h.e2⟩
def wa (C:Addr):Sp:=fun vs H Q _=>∃ (p q x y x' y':Addr) (x1 x2 y1 y2 p1 p2 q1 q2:Int),vs=[.ref p,.ref q]/\TwoS C H p q x y x' y' x1 x2 y1 y2 p1 p2 q1 q2/\∀ (t lo hi:Addr) (H':Hp) (m1 m2:Int),Same H H'->H t=none->H' t=some (.tup [.ref lo,.ref hi])->RA C H' hi m1 m2->MaxP x1 x2 y1 y2 p1 p2 q1 q2 m1 m2->Q (.ref t) H'
structure PrH (C:Addr) (H:Hp) (r:Addr) (m1 m2:Int) (v:Rat):Prop where
 ra:RA C H r m1 m2
 m2p:0<m2
 b1:Bits 6000 m1
 b2:Bits 6000 m2
 is:vl (m1,m2)=v
theorem PrH.same {C:Addr} {H H':Hp} {r:Addr} {m1 m2:Int} {v:Rat} (h:PrH C H r m1 m2 v) (s:Same H H'):PrH C H' r m1 m2 v:=⟨h.ra.same s,h.m2p,h.b1,h.b2,h.is⟩
theorem nc {C:Addr} {H:Hp} {r:Addr} {a b c d:Int} (hb:0<b) (hd:0<d) (ba:Bits 1774 a) (bb:Bits 1774 b) (bc:Bits 4074 c) (bd:Bits 4074 d) (h:RA C H r (rt (a*c) (b*d)) (rb (a*c) (b*d))):PrH C H r (rt (a*c) (b*d)) (rb (a*c) (b*d)) (vl (a,b)*vl (c,d)):=by
 have hp:0<b*d:=Int.mul_pos hb hd
 have h0:b*d≠0:=by omega
 refine ⟨h,cY h0,(eG h0 (ba.mul bc)).mono,(dY h0 (bb.mul bd)).mono,?_⟩
 show ((rt (a*c) (b*d):Int):Rat)/((rb (a*c) (b*d):Int):Rat)=_
 rw [ve hp,A6 hb hd];rfl
theorem Ee {C f:Addr} {fd:FuncData} (F:Fun K "span_product" "span_product" pD f fd) (T:Txt K mg) (R:RCI K mg C) {ge:Addr} {gb:FuncData} (gA:MCal P w K mg base 4 C "times" ["self","other"] (jm C) ge gb) {iQ:Addr} {iL:FuncData} (jh:MCal P w K mg base 2 C "against" ["self","other"] (kg C) iQ iL):FnOk P w K mg base CX0 5 f fd ["first","second"] (wa C):=by
 obtain ⟨eu,d7,eo⟩:=gA
 obtain ⟨gw,fW,gu⟩:=jh
 refine F.ok sc_span_product (fun vs H Q E h=>?_) (fun cdv A outer s H vs Q E hr h=>?_)
 ·obtain ⟨p,q,x,y,x',y',x1,x2,y1,y2,p1,p2,q1,q2,rfl,_⟩:=h
  rfl
 ·obtain ⟨p,q,x,y,x',y',x1,x2,y1,y2,p1,p2,q1,q2,rfl,h,k⟩:=h
  have big:=sizeLine_eq
  refine ⟨_,(ah (ap (i:=2) sc_span_product.nd rfl (Or.inl rfl) (cP (aG (aS (K:=K) rfl) (pv 0) ad (fun _ _=>rfl)) R.cl d7 eu (hr.mono) eo .nil aj (aa (aG (aS (K:=K) rfl) (pv 1) ad (fun _ _=>rfl)) ac)))
   (ah (ap (i:=3) sc_span_product.nd rfl (Or.inl rfl) (pv 2))
   (ah (cZ PassesOwn.never rfl (DL (K:=K) rfl (db (aa (cP (aG (aS (K:=K) rfl) (pv 0) ad (fun _ _=>rfl)) R.cl d7 eu (hr.mono) eo .nil aj (aa (aG (aS (K:=K) rfl) (pv 1) ad (fun _ _=>rfl)) ac)) (aa (cP (aG (aS (K:=K) rfl) (pv 0) ad (fun _ _=>rfl)) R.cl d7 eu (hr.mono) eo .nil aj (aa (aG (aS (K:=K) rfl) (pv 1) ad (fun _ _=>rfl)) ac)) (aa (cP (aG (aS (K:=K) rfl) (pv 0) ad (fun _ _=>rfl)) R.cl d7 eu (hr.mono) eo .nil aj (aa (aG (aS (K:=K) rfl) (pv 1) ad (fun _ _=>rfl)) ac)) ac))))) (aW (i:=4) sc_span_product.nd rfl (Or.inl rfl))
     (ah (aQ (aH c7 (cP (pv 4) R.cl fW gw (hr.mono) gu .nil aj (aa (pv 2) ac)) ad (aE _))
       (al (ap (i:=2) sc_span_product.nd rfl (Or.inl rfl) (pv 4)))
       aR)
       (al (aQ (aH dj (cP (pv 4) R.cl fW gw (hr.mono) gu .nil aj (aa (pv 3) ac)) ad (aE _))
         (al (ap (i:=3) sc_span_product.nd rfl (Or.inl rfl) (pv 4)))
         aR))))
   (al (aB (db (aa (pv 2) (aa (pv 3) ac)))))))),?_⟩
  have e1:=h.e1
  have e2:=h.e2
  obtain ⟨dx,hx0⟩:=id h.hx
  refine aA ⟨_,rfl,p,_,_,_,rfl,rfl,SqT.of h.hp,rfl,x,dx,_,rfl,hx0,cS _ _ du.1 du.2,_,rfl,q,_,_,_,rfl,rfl,SqT.of h.hq,rfl,x,x',x1,x2,p1,p2,1774,4074,rfl,h.hx,h.hx',e1.bl1.mono,e1.bl2,e2.bl1.mono,e2.bl2,by decide,e1.l2p,e2.l2p,fun r0 H1 s1 hr0 hR0=>?_⟩
  have P0:=nc e1.l2p e2.l2p e1.bl1 e1.bl2 e2.bl1 e2.bl2 hR0
  refine aA ⟨_,rfl,?_⟩
  have h1:=h.same s1
  obtain ⟨dx1,hx1⟩:=id h1.hx
  refine ⟨_,rfl,p,_,_,_,rfl,rfl,SqT.of h1.hp,rfl,x,dx1,_,rfl,hx1,cS _ _ du.1 du.2,_,rfl,q,_,_,_,rfl,rfl,SqT.of h1.hq,rfl,x,y',x1,x2,q1,q2,1774,4074,rfl,h1.hx,h1.hy',e1.bl1.mono,e1.bl2,e2.bh1.mono,e2.bh2,by decide,e1.l2p,e2.h2p,fun r1 H2 s2 hr1 hR1=>?_⟩
  have P1:=nc e1.l2p e2.h2p e1.bl1 e1.bl2 e2.bh1 e2.bh2 hR1
  have h2:=h1.same s2
  obtain ⟨dy2,hy2⟩:=id h2.hy
  refine ⟨_,rfl,p,_,_,_,rfl,rfl,SqT.of h2.hp,rfl,y,dy2,_,rfl,hy2,cS _ _ du.1 du.2,_,rfl,q,_,_,_,rfl,rfl,SqT.of h2.hq,rfl,y,x',y1,y2,p1,p2,1774,4074,rfl,h2.hy,h2.hx',e1.bh1.mono,e1.bh2,e2.bl1.mono,e2.bl2,by decide,e1.h2p,e2.l2p,fun r2 H3 s3 hr2 hR2=>?_⟩
  have P2:=nc e1.h2p e2.l2p e1.bh1 e1.bh2 e2.bl1 e2.bl2 hR2
  have h3:=h2.same s3
  obtain ⟨dy3,hy3⟩:=id h3.hy
  refine ⟨_,rfl,p,_,_,_,rfl,rfl,SqT.of h3.hp,rfl,y,dy3,_,rfl,hy3,cS _ _ du.1 du.2,_,rfl,q,_,_,_,rfl,rfl,SqT.of h3.hq,rfl,y,y',y1,y2,q1,q2,1774,4074,rfl,h3.hy,h3.hy',e1.bh1.mono,e1.bh2,e2.bh1.mono,e2.bh2,by decide,e1.h2p,e2.h2p,fun r3 H4 s4 hr3 hR3=>⟨by show 3<=sizeLine;omega,fun pt hpt=>?_⟩⟩
  have P3:=nc e1.h2p e2.h2p e1.bh1 e1.bh2 e2.bh1 e2.bh2 hR3
  have s5:Same H4 (upd H4 pt (.tup [V.ref r1,V.ref r2,V.ref r3])):=Same.upd_new hpt
  have q5:upd H4 pt (.tup [V.ref r1,V.ref r2,V.ref r3]) pt=some (.tup [V.ref r1,V.ref r2,V.ref r3]):=au
  refine mV (H2:=upd H4 pt (.tup [V.ref r1,V.ref r2,V.ref r3])) rfl ?_
  generalize upd H4 pt (.tup [V.ref r1,V.ref r2,V.ref r3])=H5 at s5 q5 ⊢
  have A0:=(P0.same s2).same (s3.trans (s4.trans s5))
  have A1:=P1.same (s3.trans (s4.trans s5))
  have A2:=P2.same (s4.trans s5)
  have A3:=P3.same s5
  have t5:=(s1.trans s2).trans (s3.trans (s4.trans s5))
  clear P0 P1 P2 P3 hR0 hR1 hR2 hR3
  have get:∀ (i:Nat) (z:V),[V.ref r1,V.ref r2,V.ref r3][i]?=some z->∃ (r:Addr) (t b:Int) (v:Rat),z=.ref r/\PrH C H5 r t b v/\[vl (x1,x2)*vl (p1,p2),vl (x1,x2)*vl (q1,q2),vl (y1,y2)*vl (p1,p2),vl (y1,y2)*vl (q1,q2)].take (i+1+1)=[vl (x1,x2)*vl (p1,p2),vl (x1,x2)*vl (q1,q2),vl (y1,y2)*vl (p1,p2),vl (y1,y2)*vl (q1,q2)].take (i+1)++[v]:=fun i z hz=>by
   match i,hz with
   | 0,hz=>exact ⟨r1,_,_,_,(Option.some.inj hz).symm,A1,rfl⟩
   | 1,hz=>exact ⟨r2,_,_,_,(Option.some.inj hz).symm,A2,rfl⟩
   | 2,hz=>exact ⟨r3,_,_,_,(Option.some.inj hz).symm,A3,rfl⟩
  generalize hV:[vl (x1,x2)*vl (p1,p2),vl (x1,x2)*vl (q1,q2),vl (y1,y2)*vl (p1,p2),vl (y1,y2)*vl (q1,q2)]=W at get
  refine ⟨pt,rfl,⟨_,SqT.of q5⟩,HZ (K:=K) (a:=pt) (xs:=[V.ref r1,V.ref r2,V.ref r3]) (fun i σ' H'=>∃ (lo g:Addr) (l1 l2 g1 g2:Int) (vo vg:Rat) (z4:Option V),σ'=[some (.ref p),some (.ref q),some (.ref lo),some (.ref g),z4]/\H5=H'/\PrH C H5 lo l1 l2 vo/\PrH C H5 g g1 g2 vg/\vg∈W.take (i+1)/\∀ v∈W.take (i+1),v<=vg)
   ⟨r0,r0,_,_,_,_,_,_,none,rfl,rfl,A0,A0,by rw [<- hV];exact List.mem_singleton.mpr rfl,fun v hv=>by rw [<- hV] at hv;rw [List.mem_singleton.mp hv];exact Rat.le_refl⟩ ?_ ?_ ?_⟩
  ·rintro i σ' H' _ ⟨lo,g,l1,l2,g1,g2,vo,vg,z4,rfl,rfl,_⟩
   exact SqT.of q5
  ·rintro i z σ' H' hi ⟨lo,g,l1,l2,g1,g2,vo,vg,z4,rfl,rfl,Po,Pg,hmem,hall⟩
   obtain ⟨r,t,b,v,rfl,Pr,ht⟩:=get i z hi
   obtain ⟨dr,hr'⟩:=id Pr.ra
   dsimp only
   refine dW (fun σ' H'=>∃ (lo:Addr) (l1 l2:Int) (vo:Rat),σ'=[some (.ref p),some (.ref q),some (.ref lo),some (.ref g),some (.ref r)]/\H5=H'/\PrH C H5 lo l1 l2 vo) ?_ ?_
   case refine_2 =>
    intro rest
    refine ⟨_,rfl,r,dr,_,rfl,hr',cS _ _ dZ.1 dZ.2,_,rfl,r,lo,t,b,l1,l2,rfl,Pr.ra,Po.ra,Pr.b1.mono,Pr.b2.mono,Po.b1.mono,Po.b2.mono,_,_,rfl,rfl,_,rfl,aL (fun _=>?_) (fun _=>?_)⟩
    ·exact ⟨_,rfl,rest _ _ ⟨r,t,b,v,rfl,rfl,Pr⟩⟩
    ·exact rest _ _ ⟨lo,l1,l2,vo,rfl,rfl,Po⟩
   rintro σ' H' ⟨lo',l1',l2',vo',rfl,rfl,Po'⟩
   refine ⟨_,rfl,r,dr,_,rfl,hr',cS _ _ dZ.1 dZ.2,_,rfl,r,g,t,b,g1,g2,rfl,Pr.ra,Pg.ra,Pr.b1.mono,Pr.b2.mono,Pg.b1.mono,Pg.b2.mono,_,_,rfl,rfl,_,rfl,aL (fun h0=>?_) (fun h0=>?_)⟩
   ·have h0':sg (t*g2-g1*b)>0:=h0
    have hlt:g1*b<t*g2:=Int.not_le.mp fun z=>by
     have:sg (t*g2-g1*b)<=0:=by unfold sg;split<;>(try split)<;>omega
     omega
    have hv:vg<v:=by
     rw [<- Pg.is,<- Pr.is]
     exact (ia Pg.m2p Pr.m2p).mpr hlt
    refine ⟨_,rfl,lo',r,l1',l2',t,b,vo',v,_,rfl,rfl,Po',Pr,by rw [ht];simp,fun u hu=>?_⟩
    rw [ht] at hu
    rcases List.mem_append.mp hu with z | z
    ·exact Rat.le_trans (hall u z) (Rat.le_of_lt hv)
    ·rw [List.mem_singleton.mp z];exact Rat.le_refl
   ·have h0':¬ sg (t*g2-g1*b)>0:=h0
    have hle:v<=vg:=by
     rw [<- Pg.is,<- Pr.is]
     refine A7 Pr.m2p Pg.m2p fun z=>h0' ?_
     have z':g1*b<t*g2:=z
     have:sg (t*g2-g1*b)=1:=Cd (by omega)
     omega
    refine ⟨lo',g,l1',l2',g1,g2,vo',vg,_,rfl,rfl,Po',Pg,by rw [ht];exact List.mem_append_left _ hmem,fun u hu=>?_⟩
    rw [ht] at hu
    rcases List.mem_append.mp hu with z | z
    ·exact hall u z
    ·rw [List.mem_singleton.mp z];exact hle
  ·rintro σ' H' ⟨lo,g,l1,l2,g1,g2,vo,vg,z4,rfl,rfl,Po,Pg,hmem,hall⟩
   refine ⟨_,rfl,_,rfl,by show 2<=sizeLine;omega,fun t ht=>?_⟩
   have s6:Same H5 (upd H5 t (.tup [V.ref lo,V.ref g])):=Same.upd_new ht
   refine k t lo g _ g1 g2 (t5.trans s6) (t5.free ht) au (Pg.ra.same s6) ⟨Pg.m2p,Pg.b1,Pg.b2,?_,?_,?_,?_,?_⟩
   all_goals rw [Pg.is]
   ·exact hall _ (by rw [<- hV];exact List.mem_cons_self ..)
   ·exact hall _ (by rw [<- hV];exact List.mem_cons_of_mem _ (List.mem_cons_self ..))
   ·exact hall _ (by rw [<- hV];exact List.mem_cons_of_mem _ (List.mem_cons_of_mem _ (List.mem_cons_self ..)))
   ·exact hall _ (by rw [<- hV];exact List.mem_cons_of_mem _ (List.mem_cons_of_mem _ (List.mem_cons_of_mem _ (List.mem_cons_self ..))))
   ·rw [<- hV] at hmem
    rcases List.mem_cons.mp hmem with z | z
    ·exact .inl z
    rcases List.mem_cons.mp z with z | z
    ·exact .inr (.inl z)
    rcases List.mem_cons.mp z with z | z
    ·exact .inr (.inr (.inl z))
    ·exact .inr (.inr (.inr (List.mem_singleton.mp z)))
structure SqR (x1 x2 y1 y2 p1 p2 q1 q2 t1 t2 m1 m2:Int):Prop where
 mx:MaxP x1 x2 y1 y2 p1 p2 q1 q2 m1 m2
 t2p:0<t2
 bt:Bits 6000 t1
 sum:vl (t1,t2)=vl (y1,y2)+vl (q1,q2)
def v7 (C:Addr):Sp:=fun vs H Q _=>∃ (a p q x y x' y':Addr) (ns:List Int) (x1 x2 y1 y2 p1 p2 q1 q2:Int),vs=[.ref a,.ref p,.ref q]/\H a=some (.lst (ns.map V.int))/\Pln ns/\AllB 250 ns/\TwoS C H p q x y x' y' x1 x2 y1 y2 p1 p2 q1 q2/\∀ t1 t2 m1 m2:Int,SqR x1 x2 y1 y2 p1 p2 q1 q2 t1 t2 m1 m2->mkL H Q (aC [ao ns*m1/m2,-(ao ns*t1/t2),ao ns])
theorem Ec {C f:Addr} {fd:FuncData} (F:Fun K "square_of" "square_of" pB f fd) (T:Txt K mg) (R:RCI K mg C) {sV:Addr} {sF:FuncData} (uM:Cal P w K mg base 5 "times_floor" ["factor","ratio"] (oO C) sV sF) {tD:Addr} {sQ:FuncData} (uX:MCal P w K mg base 4 C "plus" ["self","other"] (oR C) tD sQ) {Je:Addr} {Ij:FuncData} (LX:Cal P w K mg base 5 "span_product" ["first","second"] (wa C) Je Ij) {iO:Addr} {iJ:FuncData} (jf:Cal P w K mg base 34 "plain" ["row"] ke iO iJ):FnOk P w K mg base CX0 35 f fd ["whole","span","other"] (v7 C):=by
 obtain ⟨ox,nK,nN,ow⟩:=uM
 obtain ⟨uH,rF,uj⟩:=uX
 obtain ⟨Li,FV,GW,Km⟩:=LX
 obtain ⟨gv,fX,f8,gt⟩:=jf
 refine F.ok sc_square_of (fun vs H Q E h=>?_) (fun cdv A outer s H vs Q E hr h=>?_)
 ·obtain ⟨a,p,q,x,y,x',y',ns,x1,x2,y1,y2,p1,p2,q1,q2,rfl,_⟩:=h
  rfl
 ·obtain ⟨a,p,q,x,y,x',y',ns,x1,x2,y1,y2,p1,p2,q1,q2,rfl,hA,hP,hb,h,k⟩:=h
  have big:=sizeLine_eq
  refine ⟨_,(ah (ap (i:=3) sc_square_of.nd rfl (Or.inl rfl) (aG (ck (K:=K) rfl) (pv 0) (bQ bM ad) (fun _ _=>rfl)))
   (ah (ap (i:=4) sc_square_of.nd rfl (Or.inl rfl) (aq ox (hr.mono) rfl nK nN ow .nil aj (aa (pv 3) (aa (cP (aG (aS (K:=K) rfl) (pv 1) ad (fun _ _=>rfl)) R.cl rF uH (hr.mono) uj .nil aj (aa (aG (aS (K:=K) rfl) (pv 2) ad (fun _ _=>rfl)) ac)) ac))))
   (al (aB (aq gv (hr.mono) rfl fX f8 gt .nil aj (aa (aZ (aa (aq ox (hr.mono) rfl nK nN ow .nil aj (aa (pv 3) (aa (aG (aS (K:=K) rfl) (aq Li (hr.mono) rfl FV GW Km .nil aj (aa (pv 1) (aa (pv 2) ac))) ad (fun _ _=>rfl)) ac))) (aa (bQ bM (pv 4)) (aa (pv 3) ac)))) ac)))))),?_⟩
  have e1:=h.e1
  have e2:=h.e2
  have bl:=kW hb
  have lp:=hP.pos
  refine aA ⟨_,rfl,_,rfl,a,_,_,_,rfl,rfl,SqL.of hA,kX hP.ne,?_⟩
  obtain ⟨dy,hy0⟩:=id h.hy
  have hp2:0<y2*q2:=Int.mul_pos e1.h2p e2.h2p
  have h0:y2*q2≠0:=by omega
  have bsum:Bits 5850 (y1*q2+q1*y2):=by
   have a1:Bits 5848 (y1*q2):=e1.bh1.mul e2.bh2
   have a2:Bits 5848 (q1*y2):=(e2.bh1.mul e1.bh2).mono
   exact (a1.add a2).mono
  refine aA ⟨_,rfl,_,rfl,p,_,_,_,rfl,rfl,SqT.of h.hp,rfl,y,dy,_,rfl,hy0,cS _ _ nr.1 nr.2,_,rfl,q,_,_,_,rfl,rfl,SqT.of h.hq,rfl,y,y',y1,y2,q1,q2,1774,4074,rfl,h.hy,h.hy',e1.bh1.mono,e1.bh2,e2.bh1.mono,e2.bh2,by decide,e1.h2p,e2.h2p,fun r H1 s1 hr0 hR=>?_⟩
  refine ⟨r,ao ns,_,_,rfl,hR,cY h0,bl.mono,(eG h0 bsum).mono,(dY h0 (e1.bh2.mul e2.bh2)).mono,fun H2 s2=>?_⟩
  have t2:=s1.trans s2
  have h2:=h.same t2
  refine aU ⟨_,rfl,_,rfl,_,rfl,p,q,x,y,x',y',x1,x2,y1,y2,p1,p2,q1,q2,rfl,h2,fun t lo hi H3 m1 m2 s3 ht et hm mx=>?_⟩
  refine ⟨t,_,_,_,rfl,rfl,SqT.of et,rfl,hi,ao ns,m1,m2,rfl,hm,mx.m2p,bl.mono,mx.b1.mono,mx.b2.mono,fun H4 s4=>?_⟩
  refine ⟨_,rfl,_,rfl,_,rfl,by show 3<=sizeLine;omega,fun pl hpl=>?_⟩
  have t4:=(t2.trans s3).trans s4
  have trl:Tr [ao ns*m1/m2,-(ao ns*rt (y1*q2+q1*y2) (y2*q2)/rb (y1*q2+q1*y2) (y2*q2)),ao ns]:=(tr_snoc (r:=[ao ns*m1/m2,-(ao ns*rt (y1*q2+q1*y2) (y2*q2)/rb (y1*q2+q1*y2) (y2*q2))])).mpr (by omega)
  refine ⟨pl,[ao ns*m1/m2,-(ao ns*rt (y1*q2+q1*y2) (y2*q2)/rb (y1*q2+q1*y2) (y2*q2)),ao ns],rfl,au,trl,by show 3<=1000000;decide,fun p5 H5 s5 hp5 e5=>?_⟩
  have t5:=(t4.then_new (o:=.lst _) hpl).trans s5
  refine k _ _ m1 m2 ⟨mx,cY h0,(eG h0 bsum).mono,?_⟩ p5 H5 t5 ((t4.then_new hpl).free hp5) e5
  show ((rt (y1*q2+q1*y2) (y2*q2):Int):Rat)/((rb (y1*q2+q1*y2) (y2*q2):Int):Rat)=_
  rw [ve hp2,A8 e1.h2p e2.h2p];rfl
theorem oI {t n t' n':Int}:∀ {ls:List (List Int)},(∀ l∈ls,ak l t n=ak l t' n')->spr t n ls=spr t' n' ls
 | [],_=>rfl
 | l::ls,h=>by
   show -ak l t n*spr t n ls = -ak l t' n'*spr t' n' ls
   rw [h l (List.mem_cons_self ..),oI fun x hx=>h x (List.mem_cons_of_mem _ hx)]
theorem oH {t n:Int}:∀ {ls:List (List Int)},(∀ l∈ls,ak l t n≠0)->spr t n ls=1\/spr t n ls = -1
 | [],_=>.inl rfl
 | l::ls,h=>by
   have h1:=h l (List.mem_cons_self ..)
   have h2:=oH (ls:=ls) fun x hx=>h x (List.mem_cons_of_mem _ hx)
   show -ak l t n*spr t n ls=1 \/ -ak l t n*spr t n ls = -1
   rcases dm l t n with z | z | z
   ·rw [z];omega
   ·exact absurd z h1
   ·rw [z];omega
theorem o0 {l:List Int} (hl:Spt l) {t n t' n':Int} (hn:0<n) (hn':0<n') (h:t*n'<=t'*n) (hs:0<ak l t' n'):0<ak l t n:=by
 rcases Int.lt_or_le 0 (ak l t n) with z | z
 ·exact z
 ·exfalso
  rcases Int.lt_or_eq_of_le h with y | y
  ·have:=dR hl hn hn' y z;omega
  ·rw [g7 l hn hn' y] at z;omega
theorem mJ {l:List Int} (hl:Spt l) {l1 l2 h1 h2 x1 x2:Int} (l2p:0<l2) (h2p:0<h2) (x2p:0<x2) (lt:l1*h2<h1*l2) (hno:¬ (0<ak l l1 l2/\ak l h1 h2<=0)) (hx:l1*x2<x1*l2) (hx':x1*h2<=h1*x2):ak l x1 x2=ak l h1 h2/\ak l h1 h2≠0:=by
 rcases Int.lt_or_le 0 (ak l l1 l2) with z | z
 ·have h3:0<ak l h1 h2:=by
   rcases Int.lt_or_le 0 (ak l h1 h2) with y | y
   ·exact y
   ·exact absurd ⟨z,y⟩ hno
  have h4:=o0 hl x2p h2p hx' h3
  rcases dm l x1 x2 with y | y | y<;>rcases dm l h1 h2 with w | w | w<;>omega
 ·have e1:=dR hl l2p x2p hx z
  have e2:=dR hl l2p h2p lt z
  omega
theorem C0 {fs pre post:List (List Int)} {s:List Int} {c l1 l2 h1 h2:Int} (hF:∀ f∈fs,eD f) (hc:c≠0) (hsp:aJ fs=pre++s::post) (l2p:0<l2) (h2p:0<h2) (lt:l1*h2<h1*l2) (hin:0<ak s l1 l2/\ak s h1 h2<=0) (hno:∀ x∈pre++post,¬ (0<ak x l1 l2/\ak x h1 h2<=0)) :
 ∃ ε,RootU (af [c] (aP [1] (fs.map ag))) l1 l2 h1 h2 ε (fun x1 x2=>0<ak s x1 x2):=by
 have hS:∀ x∈aJ fs,Spt x:=fun x hx=>c9 hF hx
 have hs:Spt s:=hS s (by rw [hsp];simp)
 have ho:∀ x∈pre++post,Spt x:=fun x hx=>hS x (by rw [hsp];simp at hx ⊢;rcases hx with h | h<;>simp [h])
 have val:∀ x1 x2,0<x2->l1*x2<x1*l2->x1*h2<=h1*x2->sg (hv x1 x2 (af [c] (aP [1] (fs.map ag))))=sg c*spr h1 h2 (pre++post) * -ak s x1 x2:=fun x1 x2 x2p a b=>by
  rw [kA x2p hF,hsp,jl]
  show sg c*(spr x1 x2 pre*(-ak s x1 x2*spr x1 x2 post))=_
  have e:spr x1 x2 (pre++post)=spr h1 h2 (pre++post):=oI fun y hy=>(mJ (ho y hy) l2p h2p x2p lt (hno y hy) a b).1
  rw [<- e,jl];grind
 have hu:=oH (t:=h1) (n:=h2) (ls:=pre++post) fun y hy=>(mJ (ho y hy) l2p h2p h2p lt (hno y hy) lt (Int.le_refl _)).2
 have hsg:sg c=1\/sg c = -1:=by
  rcases Int.lt_or_gt_of_ne hc with z | z
  ·right;unfold sg;rw [if_pos z]
  ·left;unfold sg;rw [if_neg (by omega),if_pos z]
 have e1:sg c*spr h1 h2 (pre++post)=1\/sg c*spr h1 h2 (pre++post) = -1:=by
  rcases hsg with z | z<;>rcases hu with y | y<;>rw [z,y]<;>decide
 generalize sg c*spr h1 h2 (pre++post)=ε at val e1
 refine ⟨ε,e1,fun x1 x2 x2p a b hU=>?_,fun x1 x2 x2p a b hU=>?_,fun x1 x2 y1 y2 x2p y2p a b hU hlt=>?_,fun x1 x2 y1 y2 x2p y2p e hU=>?_,hin.1,fun z=>?_⟩
 ·rw [val x1 x2 x2p a b]
  rcases dm s x1 x2 with z | z | z
  ·rw [z];omega
  ·rw [z] at hU;exact absurd hU (by decide)
  ·rw [z] at hU;exact absurd hU (by decide)
 ·rw [val x1 x2 x2p a b]
  rcases dm s x1 x2 with z | z | z
  ·exact absurd (show 0<ak s x1 x2 by omega) hU
  ·rw [z];right;omega
  ·rw [z];left;omega
 ·have hU':ak s x1 x2<=0:=Int.not_lt.mp hU
  have z:=dR hs x2p y2p hlt hU'
  have a':l1*y2<y1*l2:=by
   refine gk x2p ?_
   have q1:=Int.mul_lt_mul_of_pos_right a y2p
   have q2:=Int.mul_lt_mul_of_pos_right hlt l2p
   have e2:l1*y2*x2=l1*x2*y2:=by grind
   have e3:x1*l2*y2=x1*y2*l2:=by grind
   have e4:y1*l2*x2=y1*x2*l2:=by grind
   omega
  rw [val y1 y2 y2p a' b,z];omega
 ·show 0<ak s y1 y2
  rw [<- g7 s x2p y2p e];exact hU
 ·have z':0<ak s h1 h2:=z
  omega
def fY (f0:List Int):List Int:=if cf f0 1=0 then ag f0 else []
structure Nar1 (fs:List (List Int)) (s0:List Int) (l1 l2 h1 h2 x1 x2 y1 y2:Int) (kb:Nat):Prop where
 ends:EndsG 1774 x1 x2 y1 y2
 ux:0<ak s0 x1 x2
 uy:ak s0 y1 y2<=0
 lo:l1*x2<=x1*l2
 hi:y1*h2<=h1*y2
 wide:(y1*x2-x1*y2)*(8*ao (prQ fs)*2^kb)<=1*(x2*y2)
def wB (C:Addr):Sp:=fun vs H Q _=>∃ (a p x y:Addr) (fs:List (List Int)) (f0 s0:List Int) (l1 l2 h1 h2 x1 x2 y1 y2:Int) (kb:Nat),vs=[.ref a,.ref p]/\H a=some (.lst ((prQ fs).map V.int))/\H p=some (.tup [.ref x,.ref y])/\RA C H x x1 x2/\RA C H y y1 y2/\Whl fs/\OneS fs f0 s0 l1 l2 h1 h2/\Nar1 fs s0 l1 l2 h1 h2 x1 x2 y1 y2 kb/\mkL H Q (fY f0)
theorem EE {C f:Addr} {fd:FuncData} (F:Fun K "line_of" "line_of" qa f fd) (T:Txt K mg) (R:RCI K mg C) {f_Ratio:Addr} {fd_Ratio:FuncData} {ds_Ratio:List Value} (ci:KCal P w K mg base 2 C "Ratio" ["self","top","bottom"] (da C) f_Ratio fd_Ratio ds_Ratio [.int 1]) {sV:Addr} {sF:FuncData} (uM:Cal P w K mg base 5 "times_floor" ["factor","ratio"] (oO C) sV sF) {iQ:Addr} {iL:FuncData} (jh:MCal P w K mg base 2 C "against" ["self","other"] (kg C) iQ iL) {fb:Addr} {eV:FuncData} (fh:Cal P w K mg base 2 "sign_at" ["row","ratio"] (g6 C) fb eV):FnOk P w K mg base CX0 6 f fd ["whole","span"] (wB C):=by
 obtain ⟨bK,bJ,bH,b5,cV,cU⟩:=ci
 obtain ⟨ox,nK,nN,ow⟩:=uM
 obtain ⟨gw,fW,gu⟩:=jh
 obtain ⟨fg,eT,eU,fe⟩:=fh
 refine F.ok sc_line_of (fun vs H Q E h=>?_) (fun cdv A outer s H vs Q E hr h=>?_)
 ·obtain ⟨a,p,x,y,fs,f0,s0,l1,l2,h1,h2,x1,x2,y1,y2,kb,rfl,_⟩:=h
  rfl
 ·obtain ⟨a,p,x,y,fs,f0,s0,l1,l2,h1,h2,x1,x2,y1,y2,kb,rfl,hA,hp,hx,hy,hW,hO,hN,k⟩:=h
  refine ⟨_,(ah (ap (i:=2) sc_line_of.nd rfl (Or.inl rfl) (cc bJ bK (hr.mono) rfl bH b5 .nil aj (aa (aq ox (hr.mono) rfl nK nN ow .nil aj (aa (aG (ck (K:=K) rfl) (pv 0) (bQ bM ad) (fun _ _=>rfl)) (aa (aG (aS (K:=K) rfl) (pv 1) ad (fun _ _=>rfl)) ac))) (aa (aG (ck (K:=K) rfl) (pv 0) (bQ bM ad) (fun _ _=>rfl)) ac))))
   (ah (aQ (PW.pt (ic (aH dj (cP (pv 2) R.cl fW gw (hr.mono) gu .nil aj (aa (aG (aS (K:=K) rfl) (pv 1) ad (fun _ _=>rfl)) ac)) ad (aE _)) (ib (aH cI (aq fg (hr.mono) rfl eT eU fe .nil aj (aa (pv 0) (aa (pv 2) ac))) ad (aE _)))))
     (al (aB (aZ (aa (bQ bM (aO (K:=K) rfl (pv 2) rfl)) (aa (aO (K:=K) rfl (pv 2) rfl) ac)))))
     aR)
   (al (aB (aZ ac))))),?_⟩
  have big:=sizeLine_eq
  have en:=hN.ends
  have hb:=hW.bits
  have hP:=hW.fam.pln
  have l7:=hW.l7
  have bl:=kW hb
  have lp:=hP.pos
  have B1:(1:Int)<=2^kb:=by have:=Int.pow_pos (n:=2) (m:=kb) (by decide);omega
  refine aA ⟨_,rfl,_,rfl,a,_,_,_,rfl,rfl,SqL.of hA,kX hP.ne,_,rfl,p,_,_,_,rfl,rfl,SqT.of hp,rfl,y,ao (prQ fs),y1,y2,rfl,hy,en.h2p,bl.mono,en.bh1.mono,en.bh2.mono,fun H1 s1=>?_⟩
  have bm:Bits 2300 (ao (prQ fs)*y1/y2):=Bits.of_le ((bl.mul en.bh1).mono (k:=2300) (by decide)) (Int.natAbs_ediv_le_natAbs _ _)
  have l0:ao (prQ fs)≠0:=by omega
  have two:(fY f0=[-(rt (ao (prQ fs)*y1/y2) (ao (prQ fs))),rb (ao (prQ fs)*y1/y2) (ao (prQ fs))]/\x1*rb (ao (prQ fs)*y1/y2) (ao (prQ fs))<rt (ao (prQ fs)*y1/y2) (ao (prQ fs))*x2/\hv (rt (ao (prQ fs)*y1/y2) (ao (prQ fs))) (rb (ao (prQ fs)*y1/y2) (ao (prQ fs))) (prQ fs)=0)\/(fY f0=[]/\(x1*rb (ao (prQ fs)*y1/y2) (ao (prQ fs))<rt (ao (prQ fs)*y1/y2) (ao (prQ fs))*x2->hv (rt (ao (prQ fs)*y1/y2) (ao (prQ fs))) (rb (ao (prQ fs)*y1/y2) (ao (prQ fs))) (prQ fs)≠0)):=by
   obtain ⟨u,e,b,σ,rfl,rfl,hb1,hNS,hc⟩:=hO.cases
   rcases hc with ⟨rfl,rfl⟩ | ⟨hσ,he⟩
   ·left
    have e0:fY [u,0,b]=ag [u,0,b]:=if_pos rfl
    rw [e0]
    exact hO.line en.l2p en.h2p B1 hN.ux hN.uy en.lt hN.wide
   ·right
    refine ⟨if_neg (show ¬ e=0 by omega),fun hlt=>?_⟩
    have hpos:=cY (t:=ao (prQ fs)*y1/y2) l0
    have hc:=eJ (t:=ao (prQ fs)*y1/y2) l0
    have hfl:ao (prQ fs)*y1/y2*y2<=ao (prQ fs)*y1:=Int.ediv_mul_le _ (by have:=en.h2p;omega)
    generalize rt (ao (prQ fs)*y1/y2) (ao (prQ fs))=m1 at *
    generalize rb (ao (prQ fs)*y1/y2) (ao (prQ fs))=m2 at *
    generalize ao (prQ fs)*y1/y2=Z at *
    have my:m1*y2<=y1*m2:=by
     refine gm lp ?_
     have:=Int.mul_le_mul_of_nonneg_right hfl (Int.le_of_lt hpos)
     have e1:m1*y2*ao (prQ fs)=Z*y2*m2:=by rw [Int.mul_right_comm,hc];grind
     have e2:y1*m2*ao (prQ fs)=ao (prQ fs)*y1*m2:=by grind
     omega
    refine hO.none rfl hNS he hpos ?_ ?_
    ·refine gk en.l2p ?_
     have q1:=Int.mul_le_mul_of_nonneg_right hN.lo (Int.le_of_lt hpos)
     have q2:=Int.mul_lt_mul_of_pos_right hlt hO.l2p
     have e1:l1*m2*x2=l1*x2*m2:=by grind
     have e2:x1*l2*m2=x1*m2*l2:=by grind
     have e3:m1*l2*x2=m1*x2*l2:=by grind
     omega
    ·refine gm en.h2p ?_
     have q1:=Int.mul_le_mul_of_nonneg_right hN.hi (Int.le_of_lt hpos)
     have q2:=Int.mul_le_mul_of_nonneg_right my (Int.le_of_lt hO.h2p)
     have e1:m1*h2*y2=m1*y2*h2:=by grind
     have e2:y1*m2*h2=y1*h2*m2:=by grind
     have e3:h1*m2*y2=h1*y2*m2:=by grind
     omega
  generalize ao (prQ fs)*y1/y2=m at bm two ⊢
  refine ⟨_,rfl,_,rfl,a,_,_,_,rfl,rfl,SqL.of (s1 _ _ hA),kX hP.ne,cM l0 (bl.mono) fun r H2 s2 hr2 hR=>?_⟩
  have t2:=s1.trans s2
  obtain ⟨dr,hR'⟩:=id hR
  have sgl:∀ c d:Int,sg (c-d)>0↔d<c:=fun c d=>by
   unfold sg;split<;>(try split)<;>constructor<;>intro z<;>omega
  refine bz (dX ⟨_,rfl,r,dr,_,rfl,hR',cS _ _ dZ.1 dZ.2,_,rfl,p,_,_,_,rfl,rfl,SqT.of (t2 _ _ hp),rfl,r,x,_,_,x1,x2,rfl,hR,hx.same t2,(eG l0 bm).mono,(dY l0 bl).mono,en.bl1.mono,en.bl2.mono,_,_,rfl,rfl,_,rfl,aL (fun h0=>?_) (fun h0=>?_)⟩)
  ·have h0':=(sgl _ _).mp h0
   refine ⟨_,rfl,_,rfl,a,r,prQ fs,_,_,⟨rfl,t2 _ _ hA,hR,by omega,hb.mono,(eG l0 bm).mono,(dY l0 bl).mono⟩,fun H3 s3=>⟨_,_,rfl,rfl,_,rfl,aL (fun h3=>?_) (fun h3=>?_)⟩⟩
   ·have h3':sg (hv (rt m (ao (prQ fs))) (rb m (ao (prQ fs))) (prQ fs))=0:=h3
    rcases two with ⟨z1,_,_⟩ | ⟨_,z2⟩
    ·have hR3:=s3 _ _ hR'
     refine aU ⟨_,rfl,r,C,dr,_,_,rfl,hR3,R.cl,R.nT,cR _ _,_,rfl,_,rfl,r,C,dr,_,_,rfl,hR3,R.cl,R.nB,bX _ _,by show 2<=sizeLine;omega,fun q hq=>?_⟩
     refine k q _ ((t2.trans s3).then_new hq) ((t2.trans s3).free hq) ?_
     rw [au,z1];rfl
    ·exact absurd ((o6 _).mp h3') (z2 h0')
   ·rcases two with ⟨_,_,z3⟩ | ⟨z1,_⟩
    ·exact absurd ((o6 _).mpr z3) h3
    ·exact aU ⟨Nat.zero_le _,fun q hq=>k q _ ((t2.trans s3).then_new hq) ((t2.trans s3).free hq) (by rw [au,z1];rfl)⟩
  ·rcases two with ⟨_,z2,_⟩ | ⟨z1,_⟩
   ·exact absurd ((sgl _ _).mpr z2) h0
   ·exact dU (aU ⟨Nat.zero_le _,fun q hq=>k q _ (t2.then_new hq) (t2.free hq) (by rw [au,z1];rfl)⟩)
theorem xu {fs:List (List Int)} {l1 l2 h1 h2:Int} (hF:Fam fs) (l2p:0<l2) (h2p:0<h2) (lt:l1*h2<h1*l2) (h:bh (aJ fs) l1 l2 h1 h2=1):∃ s ε,s∈aJ fs/\0<ak s l1 l2/\ak s h1 h2<=0/\RootU (prQ fs) l1 l2 h1 h2 ε (fun t n=>0<ak s t n):=by
 obtain ⟨pre,s,post,e,hin,hno⟩:=lx h
 obtain ⟨ε,hr⟩:=C0 (c:=1) hF.q (by decide) e l2p h2p lt hin hno
 rw [show af [1] (aP [1] (fs.map ag))=prQ fs from hF.one] at hr
 exact ⟨s,ε,by rw [e];simp,hin.1,hin.2,hr⟩
theorem wV {i j:Nat} {a b:List Int} {n:Nat} (ha:AllB i a) (hb:AllB j b):∀ m,Bits (i+j+m) (sm a b n m)
 | 0=>Bits.zero
 | m+1=>by
   rw [sm]
   refine (wV ha hb m).add ?_
   unfold tm
   split
   ·exact ((ha.cf m).mul (hb.cf _)).mono (by omega)
   ·exact Bits.zero
theorem ip {i j k:Nat} {a b:List Int} (ha:AllB i a) (hb:AllB j b) (hk:i+j+a.length<=k):AllB k (af a b):=AllB.of_cf fun n=>by
 rw [aM];exact (wV ha hb a.length).mono hk
def wG:Sp:=fun vs H Q _=>∃ (a b:Addr) (xs ys:List Int) (n:Nat),vs=[.ref b,.ref a]/\H a=some (.lst (xs.map V.int))/\H b=some (.lst (ys.map V.int))/\ys≠[]/\AllB n xs/\AllB n ys/\(xs.length+2)*(n+1)<=1000000/\ys.length<=1000000/\∀ H',Same H H'->Q (.bl (decide (aN xs ys=[]))) H'
theorem EK {f:Addr} {fd:FuncData} (F:Fun K "divides" "divides" qg f fd) (T:Txt K mg) {iP:Addr} {iK:FuncData} (jg:Cal P w K mg base 2 "divided" ["first","second"] kf iP iK):FnOk P w K mg base CX0 3 f fd ["divisor","row"] wG:=by
 obtain ⟨jb,iu,iA,i6⟩:=jg
 refine F.ok Cy (fun vs H Q E h=>?_) (fun cdv A outer s H vs Q E hr h=>?_)
 ·obtain ⟨a,b,xs,ys,n,rfl,_⟩:=h
  rfl
 ·obtain ⟨a,b,xs,ys,nb,rfl,hA,hB,hy,bx,by',hsz,hyn,k⟩:=h
  have hu:=hr.units
  refine ⟨_,(al (aB (fS (jB (K:=K) rfl hu) (aG (aS (K:=K) rfl) (aq jb (hr.mono) rfl iu iA i6 .nil aj (aa (pv 1) (aa (pv 0) ac))) ad (fun _ _=>rfl)) (aZ ac) (aE _)))),?_⟩
  refine aU ⟨_,rfl,_,rfl,a,b,xs,ys,nb,rfl,hA,hB,hy,bx,by',hsz,hyn,fun t q r H1 sm1 ht hq hr' _ _ _ et eq er=>?_⟩
  refine ⟨t,_,_,_,rfl,rfl,SqT.of et,rfl,Nat.zero_le _,fun p hp=>?_⟩
  exact ⟨r,p,_,[],rfl,rfl,SqL.of (by rw [upd_ne (aX er hp)];exact er),SqL.of au,k _ (sm1.then_new hp)⟩
theorem g8 {f:List Int} (h:FacG f):AllB 62 (ag f)/\(ag f).length<=3:=by
 obtain ⟨u,e,b,rfl,h1,h2,h3,h4,h5,h6,_⟩:=h
 have sm:∀ {x:Int} {n:Nat},x.natAbs<n->n<=2^62->Bits 62 x:=fun h1 h2=>Nat.lt_of_lt_of_le h1 h2
 have hr:AllB 62 (aK u e b)/\(aK u e b).length<=3:=by
  unfold aK
  split
  ·refine ⟨fun x hx=>?_,by show 2<=3;decide⟩
   rcases List.mem_cons.mp hx with rfl | hx
   ·exact sm (n:=1000000001) (by omega) (by decide)
   ·rw [List.mem_singleton.mp hx];exact sm (n:=1001) (by omega) (by decide)
  ·refine ⟨fun x hx=>?_,Nat.le_refl _⟩
   have u1:u.natAbs<=1000000000:=by omega
   have uu:(u*u).natAbs<=1000000000*1000000000:=by rw [Int.natAbs_mul];exact Nat.mul_le_mul u1 u1
   have bu:(b*u).natAbs<=1000*1000000000:=by rw [Int.natAbs_mul];exact Nat.mul_le_mul (by omega) u1
   have bb:(b*b).natAbs<=1000*1000:=by rw [Int.natAbs_mul];exact Nat.mul_le_mul (by omega) (by omega)
   have e2 : -2*b*u = -2*(b*u):=Int.mul_assoc _ _ _
   rw [e2] at hx
   generalize u*u=A at *
   generalize b*u=B at *
   generalize b*b=D at *
   rcases List.mem_cons.mp hx with rfl | hx
   ·exact sm (n:=2000000000000000000) (by omega) (by decide)
   rcases List.mem_cons.mp hx with rfl | hx
   ·exact sm (n:=2000000000001) (by omega) (by decide)
   ·rw [List.mem_singleton.mp hx];exact sm (n:=1000001) (by omega) (by decide)
 exact ⟨ni hr.1,by show (aC _).length<=3;rw [RM.plain_len];exact hr.2⟩
theorem Bb {gs:List (List Int)} (h:Fam gs) (hl:gs.length<=2):AllB 250 (prQ gs):=by
 have one:AllB 1 ([1]:List Int):=fun x hx=>by rw [List.mem_singleton.mp hx];exact b1k (by decide)
 rw [h.prd]
 match gs,hl with
 | [],_=>exact one.mono
 | [f],_ =>
   obtain ⟨b,l⟩:=g8 (h.fac f (by simp))
   show AllB 250 (af (ag f) [1])
   rw [cJ];exact b.mono
 | [f,f'],_ =>
   obtain ⟨b,l⟩:=g8 (h.fac f (by simp))
   obtain ⟨b',l'⟩:=g8 (h.fac f' (by simp))
   show AllB 250 (af (ag f) (af (ag f') [1]))
   rw [cJ]
   exact (ip b b' (Nat.le_refl _)).mono (by omega)
theorem BR {fs:List (List Int)} {u e b σ l1 l2 h1 h2 x1 x2 y1 y2 p1 p2 q1 q2 t1 t2 m1 m2:Int} {kb:Nat} (hO:OneS fs [u,e,b] [u,e,b,σ] l1 l2 h1 h2) (hW:Whl fs) (he:0<e) (hσ:σ=1\/σ = -1) (hB:isB ((prQ fs).take ((prQ fs).length-1)) (ao (prQ fs)).natAbs kb) (N1:Nar1 fs [u,e,b,σ] l1 l2 h1 h2 x1 x2 y1 y2 kb)
 (E2:EndsG 4074 p1 p2 q1 q2) (up:0<ak [u,e,b,-σ] p1 p2) (uq:ak [u,e,b,-σ] q1 q2<=0) (wide:(q1*p2-p1*q2)*(8*ao (prQ fs)*2^kb)<=1*(p2*q2)) (hS:SqR x1 x2 y1 y2 p1 p2 q1 q2 t1 t2 m1 m2):aC [ao (prQ fs)*m1/m2,-(ao (prQ fs)*t1/t2),ao (prQ fs)]=ag [u,e,b]:=by
 have hF:=hW.fam
 have hL:=hF.pln.pos
 have B1:(1:Int)<=2^kb:=by have:=Int.pow_pos (n:=2) (m:=kb) (by decide);omega
 have eB:((2^kb:Nat):Int)=(2:Int)^kb:=by rw [Int.natCast_pow];rfl
 have mem0:[u,e,b,σ]∈aJ fs:=List.mem_flatMap.mpr ⟨_,hO.mem,hO.sp⟩
 have mem1:[u,e,b,-σ]∈aJ fs:=List.mem_flatMap.mpr ⟨_,hO.mem,by rw [j9 he];rcases hσ with rfl | rfl<;>simp⟩
 have bd:∀ s∈aJ fs,ak s (2^kb) 1<0/\0<ak s (-(2^kb)) 1:=fun s hs=>by
  have:=vX hF.fac hF.nd (B:=2^kb) (Nat.pow_pos (by decide)) hB.1 hs
  rw [eB] at this
  exact this
 have en:=N1.ends
 obtain ⟨a1,a2,a3,a4⟩:=yn (c9 hF.q mem0) B1 (show 1<=ao (prQ fs) by omega) (bd _ mem0) en.l2p en.h2p N1.ux N1.uy en.lt N1.wide
 obtain ⟨c1,c2,c3,c4⟩:=yn (c9 hF.q mem1) B1 (show 1<=ao (prQ fs) by omega) (bd _ mem1) E2.l2p E2.h2p up uq E2.lt wide
 have mx:=hS.mx
 have i1:=mx.c1
 have i2:=mx.c2
 have i3:=mx.c3
 have i4:=mx.c4
 have im:=mx.is
 have is:=hS.sum
 unfold vl at i1 i2 i3 i4 im is
 dsimp only at i1 i2 i3 i4 im is
 rcases hσ with rfl | rfl
 ·exact vR hF hO.mem he rfl B1 (oB en.l2p en.h2p E2.l2p E2.h2p N1.ux N1.uy up uq) a3 c3 a4 c4 a1 a2 c1 c2 i1 i2 i3 i4 im hS.t2p mx.m2p is rfl
 ·skip
  exact vR hF hO.mem he rfl B1 (oB E2.l2p E2.h2p en.l2p en.h2p up uq N1.ux N1.uy) c3 a3 c4 a4 c1 c2 a1 a2 (by rw [Rat.mul_comm];exact i1) (by rw [Rat.mul_comm];exact i3) (by rw [Rat.mul_comm];exact i2) (by rw [Rat.mul_comm];exact i4) (by
   rcases im with z | z | z | z
   ·exact .inl (by rw [z,Rat.mul_comm])
   ·exact .inr (.inr (.inl (by rw [z,Rat.mul_comm])))
   ·exact .inr (.inl (by rw [z,Rat.mul_comm]))
   ·exact .inr (.inr (.inr (by rw [z,Rat.mul_comm])))) hS.t2p mx.m2p (by rw [is,Rat.add_comm]) rfl
theorem JQ {fs:List (List Int)} {f0:List Int} (hF:Fam fs) (hm:f0∈fs):aN (prQ fs) (ag f0)=[]:=by
 obtain ⟨pre,post,e⟩:=List.append_of_mem (List.mem_map_of_mem (f:=ag) hm)
 have hp:=hF.pri
 have hP:=hF.pln
 have e0:=hF.prd
 rw [e] at hp e0
 have hq:Pln (RM.prd (pre++post)):=ig _ fun s hs=>(hp s (by simp at hs ⊢;rcases hs with z | z<;>simp [z])).pln
 have hs:Pln (ag f0):=(hp _ (by simp)).pln
 rw [kC] at e0
 exact (x5 hP.tr hP.ne hs hq (by rw [hP.plain,e0])).1
def wz (C:Addr):Sp:=fun vs H Q _=>∃ (a l h:Addr) (fs:List (List Int)) (f0 s0:List Int) (l1 l2 h1 h2:Int),vs=[.ref a,.ref l,.ref h]/\H a=some (.lst ((prQ fs).map V.int))/\RA C H l l1 l2/\RA C H h h1 h2/\Whl fs/\OneS fs f0 s0 l1 l2 h1 h2/\bh (aJ fs) l1 l2 h1 h2=1/\EndsG 250 l1 l2 h1 h2/\mkL H Q (ag f0)
theorem EF {C f:Addr} {fd:FuncData} (F:Fun K "least" "least" qb f fd) (T:Txt K mg) {iO:Addr} {iJ:FuncData} (jf:Cal P w K mg base 34 "plain" ["row"] ke iO iJ) {gd:Addr} {ga:FuncData} (gz:Cal P w K mg base 1 "degree" ["row"] jo gd ga) {Jw:Addr} {IF:FuncData} (Mi:Cal P w K mg base 4 "fine_width" ["whole"] (wE C) Jw IF) {ln:Addr} {li:FuncData} (mf:Cal P w K mg base 6 "narrowed" ["row","low","high","width"] (mD C) ln li) {Js:Addr} {IB:FuncData} (Me:Cal P w K mg base 6 "line_of" ["whole","span"] (wB C) Js IB) {Jz:Addr} {II:FuncData} (Mm:Cal P w K mg base 36 "cells" ["row"] (wI C) Jz II) {Jc:Addr} {Ih:FuncData} (LV:Cal P w K mg base 35 "square_of" ["whole","span","other"] (v7 C) Jc Ih) {Jx:Addr} {IG:FuncData} (Mj:Cal P w K mg base 3 "divides" ["divisor","row"] wG Jx IG) {tf:Addr} {sK:FuncData} (uR:Cal P w K mg base 4 "count" ["row","low","high"] (oW C) tf sK) {ll:Addr} {lg:FuncData} (me:Cal P w K mg base 35 "row_of" ["polynomial"] mC ll lg):FnOk P w K mg base CX0 37 f fd ["row","low","high"] (wz C):=by
 obtain ⟨gv,fX,f8,gt⟩:=jf
 obtain ⟨dO,dG,dJ,dN⟩:=gz
 obtain ⟨LE,Go,He,KF⟩:=Mi
 obtain ⟨j2,jI,jK,jR⟩:=mf
 obtain ⟨Lz,Gj,Ha,KA⟩:=Me
 obtain ⟨LH,Gr,Hh,KI⟩:=Mm
 obtain ⟨Lg,FT,GU,Kk⟩:=LV
 obtain ⟨LF,Gp,Hf,KG⟩:=Mj
 obtain ⟨uE,rP,si,ug⟩:=uR
 obtain ⟨lY,kQ,kZ,lI⟩:=me
 refine F.ok sc_least (fun vs H Q E h=>?_) (fun cdv A outer s H vs Q E hr h=>?_)
 ·obtain ⟨a,l,h,fs,f0,s0,l1,l2,h1,h2,rfl,_⟩:=h
  rfl
 ·obtain ⟨a,l,h,fs,f0,s0,l1,l2,h1,h2,rfl,hA,hl,hh,hW,hO,hcn,en,k⟩:=h
  have hu:=hr.units
  have big:=sizeLine_eq
  have hF:=hW.fam
  have hP:=hF.pln
  have l7:=hW.l7
  have l2':=hW.l2
  have hml:((prQ fs).map V.int).length=(prQ fs).length:=List.length_map _
  have pf0:=eY (hF.fac f0 hO.mem)
  have hL:=hP.pos
  refine ⟨_,(ah (ap (i:=3) sc_least.nd rfl (Or.inl rfl) (aq gv (hr.mono) rfl fX f8 gt .nil aj (aa (pv 0) ac)))
   (ah (aQ (aH c7 (aq dO (hr.mono) rfl dG dJ dN .nil aj (aa (pv 3) ac)) ad (aE _))
     (al (aB (pv 3)))
     aR)
   (ah (ap (i:=4) sc_least.nd rfl (Or.inl rfl) (aq LE (hr.mono) rfl Go He KF .nil aj (aa (pv 3) ac)))
   (ah (ap (i:=5) sc_least.nd rfl (Or.inl rfl) (aq j2 (hr.mono) rfl jI jK jR .nil aj (aa (pv 3) (aa (pv 1) (aa (pv 2) (aa (pv 4) ac))))))
   (ah (ap (i:=6) sc_least.nd rfl (Or.inl rfl) (aq Lz (hr.mono) rfl Gj Ha KA .nil aj (aa (pv 3) (aa (pv 5) ac))))
   (ah (aQ (aH (kI (K:=K) rfl hu) (pv 6) (aZ ac) (aE _))
     (al (aB (pv 6)))
     aR)
   (ah (aQ (aH cI (aq dO (hr.mono) rfl dG dJ dN .nil aj (aa (pv 3) ac)) ad (aE _))
     (al (aB (pv 3)))
     aR)
   (ah (cZ PassesOwn.never rfl (eN (K:=K) rfl (aq LH (hr.mono) rfl Gr Hh KI .nil aj (aa (pv 3) ac))) (aW (i:=7) sc_least.nd rfl (Or.inl rfl))
     (ah (ap (i:=8) sc_least.nd rfl (Or.inl rfl) (aq Lg (hr.mono) rfl FT GU Kk .nil aj (aa (pv 3) (aa (pv 5) (aa (aq j2 (hr.mono) rfl jI jK jR .nil aj (aa (pv 3) (aa (aG (aS (K:=K) rfl) (pv 7) ad (fun _ _=>rfl)) (aa (aG (aS (K:=K) rfl) (pv 7) ad (fun _ _=>rfl)) (aa (pv 4) ac))))) ac)))))
       (al (aQ (PW.pt (ic (m8 (aq LF (hr.mono) rfl Gp Hf KG .nil aj (aa (pv 8) (aa (pv 3) ac)))) (ib (aH cI (aq uE (hr.mono) rfl rP si ug .nil aj (aa (aq lY (hr.mono) rfl kQ kZ lI .nil aj (aa (pv 8) ac)) (aa (pv 1) (aa (pv 2) ac)))) ad (aE _)))))
         (al (aB (pv 8)))
         aR))))
   (al (aB (pv 3))))))))))),?_⟩
  refine aA ⟨_,rfl,a,prQ fs,rfl,hA,hP.tr,by omega,fun p H1 s1 hp e1=>?_⟩
  rw [hP.plain] at e1
  refine bz ⟨_,rfl,p,_,rfl,e1,_,_,rfl,rfl,_,rfl,aL (fun h0=>?_) (fun h0=>?_)⟩
  ·have h0':((prQ fs).map V.int).length-(1:Int)<2:=h0
   rw [hml] at h0'
   have e:=u3 hF hO.mem (by have:=pf0.two;omega)
   rw [e] at e1
   exact ⟨_,rfl,k p H1 s1 hp e1⟩
  refine aA ⟨_,rfl,p,fs,rfl,e1,hW,fun wd H2 kb hk hB s2 hwd hWd hD bD=>?_⟩
  have t2:=s1.trans s2
  have e2:=s2 _ _ e1
  obtain ⟨sx,ε,hsx,hx1,hx2,ru⟩:=xu hF en.l2p en.h2p en.lt hcn
  obtain rfl:=hO.only sx hsx hx1 hx2
  refine aA ⟨_,rfl,_,rfl,_,rfl,_,rfl,p,l,h,wd,prQ fs,l1,l2,h1,h2,1,8*ao (prQ fs)*2^kb,250,520,ε,_,rfl,e2,hP.tr,hP.ne,by omega,hW.bits.mono,hl.same t2,hh.same t2,hWd,en,by decide,hD,b1k (by decide),bD,by decide,by decide,by decide,ru,fun ps x y H3 n pl x1 x2 y1 y2 s3 hps e3 hx hy nar=>?_⟩
  have t3:=t2.trans s3
  have ep3:=s3 _ _ e2
  have N1:Nar1 fs sx l1 l2 h1 h2 x1 x2 y1 y2 kb:=⟨nar.ends,nar.ux,Int.not_lt.mp nar.uy,nar.lo,nar.hi,nar.wide⟩
  refine aA ⟨_,rfl,_,rfl,p,ps,x,y,fs,f0,sx,l1,l2,h1,h2,x1,x2,y1,y2,kb,rfl,ep3,e3,hx,hy,hW,hO,N1,fun pl' H4 s4 hpl e4=>?_⟩
  refine bz ⟨_,rfl,Nat.zero_le _,fun p0 hp0=>?_⟩
  have s5:=Same.upd_new (o:=.lst []) hp0
  obtain ⟨u,e,b,σ,rfl,rfl,hb1,hNS,hc⟩:=hO.cases
  have hne:ag [u,e,b]≠[]:=pf0.pln.ne
  refine ⟨pl',p0,fY [u,e,b],[],rfl,rfl,SqL.of (s5 _ _ e4),SqL.of au,_,rfl,dq (fun h3=>?_) (fun h3=>?_)⟩
  ·have h3':fY [u,e,b]≠[]:=h3
   have e0:fY [u,e,b]=ag [u,e,b]:=by
    by_cases z:e=0
    ·exact if_pos z
    ·exact absurd (if_neg z) h3'
   rw [e0] at e4
   exact ⟨_,rfl,k pl' _ (t3.trans (s4.trans s5)) (t3.free hpl) (s5 _ _ e4)⟩
  have h3':fY [u,e,b]=[]:=h3
  have he:0<e:=by
   rcases hc with ⟨_,rfl⟩ | ⟨_,he⟩
   ·exact absurd ((if_pos rfl:fY [u,0,b]=ag [u,0,b]).symm.trans h3') hne
   ·exact he
  have hσ:σ=1\/σ = -1:=by
   rcases hc with ⟨z,_⟩ | ⟨z,_⟩
   ·exact .inl z
   ·exact z
  have hl3:(ag [u,e,b]).length=3:=by
   obtain ⟨g,A0,A1,A2,_,eS,_⟩:=o3 (u:=u) hb1 (show e≠0 by omega)
   rw [eS];rfl
  generalize upd H4 p0 (.lst [])=H5 at s5 ⊢
  have u5:=s3.trans (s4.trans s5)
  have ep5:=u5 _ _ e2
  refine bz ⟨_,rfl,p,_,rfl,ep5,_,_,rfl,rfl,_,rfl,aL (fun h0=>?_) (fun _=>?_)⟩
  ·have h0':(((prQ fs).map V.int).length:Int)-1=2:=h0
   rw [hml] at h0'
   have eW:=u3 hF hO.mem (by omega)
   rw [eW] at ep5
   exact ⟨_,rfl,k p H5 (t2.trans u5) hp ep5⟩
  refine ⟨_,rfl,p,fs,rfl,ep5,hW,fun kb' pc ys H6 hk' hB' s6 hpc ec hys hcov hyl=>?_⟩
  obtain rfl:=zc hB hB'
  have t5:=t2.trans u5
  have u6:=u5.trans s6
  have hsp1:[u,e,b,-σ]∈aJ fs:=List.mem_flatMap.mpr ⟨_,hO.mem,by rw [j9 he];rcases hσ with rfl | rfl<;>simp⟩
  have hql:(qs ys).length=ys.length:=List.length_map _
  refine ⟨pc,rfl,⟨_,SqL.of ec⟩,n6 (K:=K) (a:=pc) (xs:=qs ys) (fun i σ' H'=>∃ (z7 z8:Option V),σ'=[some (.ref a),some (.ref l),some (.ref h),some (.ref p),some (.ref wd),some (.ref ps),some (.ref pl'),z7,z8]/\Same H6 H'/\∀ (j:Nat) (c:Cel),j<i->ys[j]?=some c->¬ c.inn [u,e,b,-σ]) ⟨none,none,rfl,Same.refl _,fun j c hj=>absurd hj (Nat.not_lt_zero _)⟩ ?_ ?_ ?_⟩
  ·rintro i σ' H' _ ⟨z7,z8,rfl,sm,_⟩
   exact SqL.of (sm _ _ ec)
  ·rintro i z σ' H' hi ⟨z7,z8,rfl,sm,hno⟩
   have hil:i<ys.length:=by
    apply Classical.byContradiction
    intro hn
    rw [List.getElem?_eq_none_iff.mpr (by rw [hql];omega)] at hi
    cases hi
   have ey:ys[i]?=some ys[i]:=List.getElem?_eq_getElem hil
   have hz:z=V.ref ys[i].q:=by
    unfold qs at hi
    rw [List.getElem?_map,ey] at hi
    exact (Option.some.inj hi).symm
   subst hz
   generalize hc0:ys[i]=c at *
   have hcf:=(hys c (by rw [<- hc0];exact List.getElem_mem hil)).nl (NL.of sm)
   have dE:=JP hcf.dy hk hcf.dd
   obtain ⟨fx,sx',hO2⟩:=D4 hF dE.l2p dE.h2p dE.lt hcf.one
   obtain ⟨sc,εc,hsc,hcx1,hcx2,ruc⟩:=xu hF dE.l2p dE.h2p dE.lt hcf.one
   have esc:=hO2.only sc hsc hcx1 hcx2
   have u7:=u6.trans sm
   have t7:=t2.trans u7
   refine aA ⟨_,rfl,_,rfl,_,rfl,_,rfl,c.q,_,_,_,rfl,rfl,SqT.of hcf.tup,rfl,_,rfl,c.q,_,_,_,rfl,rfl,SqT.of hcf.tup,rfl,_,rfl,p,c.lo,c.hi,wd,prQ fs,c.l1,c.l2,c.h1,c.h2,1,8*ao (prQ fs)*2^kb,710,520,εc,_,rfl,u7 _ _ e2,hP.tr,hP.ne,by omega,hW.bits.mono,hcf.lo,hcf.hi,hWd.same u7,dE,by decide,hD,b1k (by decide),bD,by decide,by decide,by decide,ruc,fun ps' x' y' H7 n' pl7 p1 p2 q1 q2 s7 hps' e7 hx' hy' nar'=>?_⟩
   have u8:=u7.trans s7
   have v8:=(s4.trans s5).trans (s6.trans (sm.trans s7))
   have tw:TwoS C H7 ps ps' x y x' y' x1 x2 y1 y2 p1 p2 q1 q2:=⟨v8 _ _ e3,e7,hx.same v8,hy.same v8,hx',hy',nar.ends,nar'.ends⟩
   refine ⟨p,ps,ps',x,y,x',y',prQ fs,x1,x2,y1,y2,p1,p2,q1,q2,rfl,u8 _ _ e2,hP,hW.bits,tw,fun t1 t2' m1 m2 hS psq H8 s8 hpsq e8=>?_⟩
   have bl:=kW hW.bits
   have trE:Tr [ao (prQ fs)*m1/m2,-(ao (prQ fs)*t1/t2'),ao (prQ fs)]:=(tr_snoc (r:=[ao (prQ fs)*m1/m2,-(ao (prQ fs)*t1/t2')])).mpr (by omega)
   have hPE:=eK trE (by simp)
   have hlE:(aC [ao (prQ fs)*m1/m2,-(ao (prQ fs)*t1/t2'),ao (prQ fs)]).length=3:=RM.plain_len _
   have bE:AllB 6300 (aC [ao (prQ fs)*m1/m2,-(ao (prQ fs)*t1/t2'),ao (prQ fs)]):=by
    refine ni fun v hv=>?_
    rcases List.mem_cons.mp hv with rfl | hv
    ·exact Bits.of_le ((bl.mul hS.mx.b1).mono (k:=6300) (by decide)) (Int.natAbs_ediv_le_natAbs _ _)
    rcases List.mem_cons.mp hv with rfl | hv
    ·exact (Bits.of_le ((bl.mul hS.bt).mono (k:=6300) (by decide)) (Int.natAbs_ediv_le_natAbs _ _)).neg
    ·rw [List.mem_singleton.mp hv];exact bl.mono
   have fell:c.inn [u,e,b,-σ]->aC [ao (prQ fs)*m1/m2,-(ao (prQ fs)*t1/t2'),ao (prQ fs)]=ag [u,e,b]:=fun hin=>by
    have ex:=hO2.only _ hsp1 hin.1 hin.2
    have e9:sc=[u,e,b,-σ]:=by rw [esc,ex]
    have ux:=nar'.ux
    have uy:=Int.not_lt.mp nar'.uy
    rw [e9] at ux uy
    exact BR hO hW he hσ hB N1 nar'.ends ux uy nar'.wide hS
   generalize aC [ao (prQ fs)*m1/m2,-(ao (prQ fs)*t1/t2'),ao (prQ fs)]=Es at e8 hPE hlE bE fell
   have u9:=u8.trans s8
   have t9:=t2.trans u9
   have next:∀ H',Same H8 H'->¬ c.inn [u,e,b,-σ]->∃ (z7 z8:Option V),[some (V.ref a),some (V.ref l),some (V.ref h),some (V.ref p),some (V.ref wd),some (V.ref ps),some (V.ref pl'),some (V.ref c.q),some (V.ref psq)]=[some (V.ref a),some (V.ref l),some (V.ref h),some (V.ref p),some (V.ref wd),some (V.ref ps),some (V.ref pl'),z7,z8]/\Same H6 H'/\∀ (j:Nat) (c:Cel),j<i+1->ys[j]?=some c->¬ c.inn [u,e,b,-σ]:=fun H' s' hn=>⟨_,_,rfl,sm.trans (s7.trans (s8.trans s')),fun j c' hj ej=>by
    rcases Nat.lt_or_eq_of_le (Nat.lt_succ_iff.mp hj) with v | v
    ·exact hno j c' v ej
    ·subst v
     rw [ey,<- hc0] at ej
     rw [<- Option.some.inj ej,hc0];exact hn⟩
   refine dX ⟨_,rfl,_,rfl,p,psq,prQ fs,Es,6300,rfl,u9 _ _ e2,e8,hPE.ne,hW.bits.mono,bE,by have:((prQ fs).length+2)*(6300+1)<=9*6301:=Nat.mul_le_mul_right _ (by omega);omega,by omega,fun H9 s9=>?_⟩
   refine ⟨_,rfl,aL (fun hd=>?_) (fun hd=>?_)⟩
   ·have hd':aN (prQ fs) Es=[]:=hd
    obtain ⟨gs,hG,hgl,hEg,hone,hfel⟩:∃ gs,Fam gs/\gs.length<=2/\Es=prQ gs/\(bh (aJ gs) l1 l2 h1 h2=1->Es=ag [u,e,b])/\(c.inn [u,e,b,-σ]->bh (aJ gs) l1 l2 h1 h2=1):=by
     by_cases hin:c.inn [u,e,b,-σ]
     ·have hG:=hF.single hO.mem
      exact ⟨[[u,e,b]],hG,by simp,by rw [m9 hG];exact fell hin,fun _=>fell hin,fun _=>hO.cnt⟩
     ·obtain ⟨gs,g1,_,g3,g4,g5⟩:=hO.sq hl3 hPE hlE (tI hPE.ne hPE.tr hd')
      exact ⟨gs,g1,g3,g4,g5,fun z=>absurd z hin⟩
    have bG:=Bb hG hgl
    obtain ⟨rn,rx,rl⟩:=qP hG (by rw [<- hEg];omega) bG
    rw [<- hEg] at rn bG
    refine ⟨_,rfl,psq,Es,9,rfl,s9 _ _ e8,hPE.tr,bE.mono,by omega,by decide,rn,fun lr rs H10 s10 hlr hnew el hR=>?_⟩
    have t10:=(t9.trans s9).trans s10
    have hR':RwH H10 rs (cX gs):=by unfold cX;rw [<- hEg];exact hR
    refine ⟨_,rfl,_,rfl,lr,l,h,rs,cX gs,l1,l2,h1,h2,rfl,el,hR',hl.same t10,hh.same t10,en.bl1.mono,en.bl2.mono,en.bh1.mono,en.bh2.mono,rx,rl,fun H11 s11=>⟨_,_,rfl,rfl,_,rfl,aL (fun h4=>?_) (fun h4=>?_)⟩⟩
    ·have h4':((chS (sgs l1 l2 (cX gs))).1:Int)-(chS (sgs h1 h2 (cX gs))).1=1:=h4
     rw [mT hG (by rw [<- hEg];omega) en.l2p en.h2p en.lt] at h4'
     rw [hone h4'] at e8
     have w11:=s9.trans (s10.trans s11)
     refine aU ⟨_,rfl,?_⟩
     exact k psq H11 (t9.trans w11) ((t2.trans u8).free hpsq) (w11 _ _ e8)
    ·have h4':¬ ((chS (sgs l1 l2 (cX gs))).1:Int)-(chS (sgs h1 h2 (cX gs))).1=1:=h4
     rw [mT hG (by rw [<- hEg];omega) en.l2p en.h2p en.lt] at h4'
     exact next _ (s9.trans (s10.trans s11)) fun z=>h4' (hfel z)
   ·have hd':¬ aN (prQ fs) Es=[]:=hd
    refine dU (next _ s9 fun z=>hd' ?_)
    rw [fell z];exact JQ hF hO.mem
  ·rintro σ' H' ⟨z7,z8,rfl,sm,hno⟩
   obtain ⟨c,hc1,hc2⟩:=hcov _ hsp1
   obtain ⟨j,hj,ej⟩:=List.mem_iff_getElem.mp hc1
   exact absurd hc2 (hno j c (by rw [hql];exact hj) (by rw [<- ej];exact List.getElem?_eq_getElem hj))
structure OneW (fs:List (List Int)) (f0 s0:List Int) (l1 l2 h1 h2:Int):Prop where
 whl:Whl fs
 one:OneS fs f0 s0 l1 l2 h1 h2
 cnt:bh (aJ fs) l1 l2 h1 h2=1
 en:EndsG 250 l1 l2 h1 h2
def wt (C CN:Addr):Sp:=fun vs H Q _=>∃ (a l h:Addr) (fs:List (List Int)) (f0 s0:List Int) (l1 l2 h1 h2:Int),vs=[.ref a,.ref l,.ref h]/\H a=some (.lst ((prQ fs).map V.int))/\RA C H l l1 l2/\RA C H h h1 h2/\OneW fs f0 s0 l1 l2 h1 h2/\∀ (x q:Addr) (H':Hp),Same H H'->H x=none->NA CN H' x q l h->H' q=some (.lst ((ag f0).map V.int))->H q=none->Q (.ref x) H'
theorem Ev {C CN f:Addr} {fd:FuncData} (F:Fun K "number_in" "number_in" pR f fd) (T:Txt K mg) (R:RCI K mg C) {Jt:Addr} {IC:FuncData} (Mf:Cal P w K mg base 37 "least" ["row","low","high"] (wz C) Jt IC) {fb:Addr} {eV:FuncData} (fh:Cal P w K mg base 2 "sign_at" ["row","ratio"] (g6 C) fb eV) {ln:Addr} {li:FuncData} (mf:Cal P w K mg base 6 "narrowed" ["row","low","high","width"] (mD C) ln li) {tE:Addr} {sR:FuncData} (uY:MCal P w K mg base 4 C "minus" ["self","other"] (oT C) tE sR) {ge:Addr} {gb:FuncData} (gA:MCal P w K mg base 4 C "times" ["self","other"] (jm C) ge gb) {f_Ratio:Addr} {fd_Ratio:FuncData} {ds_Ratio:List Value} (ci:KCal P w K mg base 2 C "Ratio" ["self","top","bottom"] (da C) f_Ratio fd_Ratio ds_Ratio [.int 1]) {f_Number:Addr} {fd_Number:FuncData} {ds_Number:List Value} (mi:KCal P w K mg base 1 CN "Number" ["self","row","low","high"] (jn CN) f_Number fd_Number ds_Number []):FnOk P w K mg base CX0 38 f fd ["simple","low","high"] (wt C CN):=by
 obtain ⟨LA,Gk,Hb,KC⟩:=Mf
 obtain ⟨fg,eT,eU,fe⟩:=fh
 obtain ⟨j2,jI,jK,jR⟩:=mf
 obtain ⟨uI,rG,uk⟩:=uY
 obtain ⟨eu,d7,eo⟩:=gA
 obtain ⟨bK,bJ,bH,b5,cV,cU⟩:=ci
 obtain ⟨md,lV,kT,lN,AI,zR⟩:=mi
 refine F.ok sc_number_in (fun vs H Q E h=>?_) (fun cdv A outer s H vs Q E hr h=>?_)
 ·obtain ⟨a,l,h,fs,f0,s0,l1,l2,h1,h2,rfl,_⟩:=h
  rfl
 ·obtain ⟨a,l,h,fs,f0,s0,l1,l2,h1,h2,rfl,hA,hl,hh,hN,k⟩:=h
  refine ⟨_,(ah (ap (i:=3) sc_number_in.nd rfl (Or.inl rfl) (aq LA (hr.mono) rfl Gk Hb KC .nil aj (aa (pv 0) (aa (pv 1) (aa (pv 2) ac)))))
   (ah (ap (i:=4) sc_number_in.nd rfl (Or.inl rfl) (db (aa (pv 1) (aa (pv 2) ac))))
   (ah (fO PassesOwn.never (aH cI (aq fg (hr.mono) rfl eT eU fe .nil aj (aa (pv 3) (aa (aG (aS (K:=K) rfl) (pv 4) ad (fun _ _=>rfl)) ac))) ad (aE _))
     (ah (ap (i:=5) sc_number_in.nd rfl (Or.inl rfl) (cP (cP (aG (aS (K:=K) rfl) (pv 4) ad (fun _ _=>rfl)) R.cl rG uI (hr.mono) uk .nil aj (aa (aG (aS (K:=K) rfl) (pv 4) ad (fun _ _=>rfl)) ac)) R.cl d7 eu (hr.mono) eo .nil aj (aa (cc bJ bK (hr.mono) rfl bH b5 .nil aj (aa ad (aa ad ac))) ac)))
       (al (ap (i:=4) sc_number_in.nd rfl (Or.inl rfl) (aq j2 (hr.mono) rfl jI jK jR .nil aj (aa (pv 3) (aa (aG (aS (K:=K) rfl) (pv 4) ad (fun _ _=>rfl)) (aa (aG (aS (K:=K) rfl) (pv 4) ad (fun _ _=>rfl)) (aa (pv 5) ac)))))))))
   (al (aB (cc lV md (hr.mono) rfl kT lN .nil aj (aa (pv 3) (aa (aG (aS (K:=K) rfl) (pv 4) ad (fun _ _=>rfl)) (aa (aG (aS (K:=K) rfl) (pv 4) ad (fun _ _=>rfl)) ac))))))))),?_⟩
  obtain ⟨bS,lS⟩:=g8 (hN.one.fam.fac f0 hN.one.mem)
  refine aA ⟨_,rfl,_,rfl,_,rfl,a,l,h,fs,f0,s0,l1,l2,h1,h2,rfl,hA,hl,hh,hN.whl,hN.one,hN.cnt,hN.en,fun p H1 s1 hp e1=>?_⟩
  refine aA ⟨_,rfl,_,rfl,by show 2<=sizeLine;decide,fun ps hps=>?_⟩
  have s2:=s1.then_new (o:=.tup [V.ref l,V.ref h]) hps
  have q2:upd H1 ps (.tup [V.ref l,V.ref h]) ps=some (.tup [V.ref l,V.ref h]):=au
  have e2:=(Same.upd_new (o:=.tup [V.ref l,V.ref h]) hps) _ _ e1
  generalize upd H1 ps (.tup [V.ref l,V.ref h])=H2 at s2 q2 e2 ⊢
  refine ⟨fun m σ' H'=>m=0/\(∃ z5:Option V,σ'=[some (.ref a),some (.ref l),some (.ref h),some (.ref p),some (.ref ps),z5])/\H2=H',⟨0,rfl,⟨none,rfl⟩,rfl⟩,?_⟩
  rintro m σ' H' ⟨rfl,⟨z5,rfl⟩,rfl⟩
  refine ⟨_,rfl,_,rfl,ps,_,_,_,rfl,rfl,SqT.of q2,rfl,p,l,ag f0,l1,l2,⟨rfl,e2,hl.same s2,by omega,bS.mono,hN.en.bl1.mono,hN.en.bl2.mono⟩,fun H3 s3=>⟨_,_,rfl,rfl,_,rfl,aL (fun h0=>absurd h0 hN.one.low) (fun _=>?_)⟩⟩
  have q3:=s3 _ _ q2
  have e3:=s3 _ _ e2
  have t3:=s2.trans s3
  dsimp only
  refine aU ⟨_,rfl,_,rfl,ps,_,_,_,rfl,rfl,SqT.of q3,rfl,_,rfl,ps,_,_,_,rfl,rfl,SqT.of q3,rfl,rK e3 fun x q H4 s4 hx hNA hq hqn=>?_⟩
  exact k x q H4 (t3.trans s4) (t3.free hx) hNA hq (t3.free hqn)
def oS (C CN:Addr):Sp:=fun vs H Q _=>∃ (a l h:Addr) (kp:List Int) (c:Int) (us:List (List Int×Nat)) (fs:List (List Int)) (f0 s0:List Int) (l1 l2 h1 h2:Int),vs=[.ref a,.ref l,.ref h]/\H a=some (.lst (kp.map V.int))/\RA C H l l1 l2/\RA C H h h1 h2/\Made kp c us/\flt us=prQ fs/\OneW fs f0 s0 l1 l2 h1 h2/\∀ (x q:Addr) (H':Hp),Same H H'->H x=none->NA CN H' x q l h->H' q=some (.lst ((ag f0).map V.int))->H q=none->Q (.ref x) H'
theorem Ew {C CN f:Addr} {dV:Value} {fd:FuncData} (F:FunD K "number" "number" jq dV f fd) (T:Txt K mg) (R:RCI K mg C) {Ji:Addr} {Io:FuncData} (L3:Cal P w K mg base 1 "refuse_high" ["height"] (fun vs H Q _=>∃ i:Int,vs=[.int i]/\i<=8/\Q .non H) Ji Io) {gd:Addr} {ga:FuncData} (gz:Cal P w K mg base 1 "degree" ["row"] jo gd ga) {f_Ratio:Addr} {fd_Ratio:FuncData} {ds_Ratio:List Value} (ci:KCal P w K mg base 2 C "Ratio" ["self","top","bottom"] (da C) f_Ratio fd_Ratio ds_Ratio [.int 1]) {lu:Addr} {lj:FuncData} (mh:Cal P w K mg base 1 "bound" ["row"] (mF K) lu lj) {IZ:Addr} {Ib:FuncData} (LQ:Cal P w K mg base 36 "without_squares" ["row"] vY IZ Ib) {Jq:Addr} {Iz:FuncData} (Mc:Cal P w K mg base 36 "many_within" ["simple","low","high"] (wu C) Jq Iz) {Jj:Addr} {Iq:FuncData} (L4:Cal P w K mg base 1 "refuse_great" ["row"] wk Jj Iq) {Jl:Addr} {Iu:FuncData} (L6:Cal P w K mg base 38 "number_in" ["simple","low","high"] (wt C CN) Jl Iu):FnOk P w K mg base CX0 39 f fd ["row","low","high"] (oS C CN):=by
 obtain ⟨Ll,FY,GZ,Kp⟩:=L3
 obtain ⟨dO,dG,dJ,dN⟩:=gz
 obtain ⟨bK,bJ,bH,b5,cV,cU⟩:=ci
 obtain ⟨jc,iw,iB,i7⟩:=mh
 obtain ⟨Lc,FP,GQ,Kg⟩:=LQ
 obtain ⟨Lx,Gh,G8,Ky⟩:=Mc
 obtain ⟨Lm,FZ,G0,Kq⟩:=L4
 obtain ⟨Lo,Gb,G2,Ks⟩:=L6
 refine F.ok sc_number (fun vs H Q E h=>?_) (fun cdv A outer s H vs Q E hr h=>?_)
 ·obtain ⟨a,l,h,kp,c,us,fs,f0,s0,l1,l2,h1,h2,rfl,_⟩:=h
  rfl
 ·obtain ⟨a,l,h,kp,c,us,fs,f0,s0,l1,l2,h1,h2,rfl,hA,hl,hh,hM,hfl,hN,k⟩:=h
  have l9:=hM.len.1
  have l2':=hM.one
  have l7:=hN.whl.l7
  have hml:(kp.map V.int).length=kp.length:=List.length_map _
  refine ⟨_,(ah (gE (aq Ll (hr.mono) rfl FY GZ Kp .nil aj (aa (aq dO (hr.mono) rfl dG dJ dN .nil aj (aa (pv 0) ac)) ac)))
   (ah (aQ (aH c7 (aq dO (hr.mono) rfl dG dJ dN .nil aj (aa (pv 0) ac)) ad (aE _))
     (al ie)
     aR)
   (ah (ap (i:=3) sc_number.nd rfl (Or.inl rfl) (rc (aH x8 (pv 1) xX (aE _)) (cc bJ bK (hr.mono) rfl bH cV cU aj (aa (bQ bM (aq jc (hr.mono) rfl iw iB i7 .nil aj (aa (pv 0) ac))) ac)) (pv 1)))
   (ah (ap (i:=4) sc_number.nd rfl (Or.inl rfl) (rc (aH x8 (pv 2) xX (aE _)) (cc bJ bK (hr.mono) rfl bH cV cU aj (aa (aq jc (hr.mono) rfl iw iB i7 .nil aj (aa (pv 0) ac)) ac)) (pv 2)))
   (ah (ap (i:=5) sc_number.nd rfl (Or.inl rfl) (aq Lc (hr.mono) rfl FP GQ Kg .nil aj (aa (pv 0) ac)))
   (ah (ap (i:=6) sc_number.nd rfl (Or.inl rfl) (aq Lx (hr.mono) rfl Gh G8 Ky .nil aj (aa (pv 5) (aa (pv 3) (aa (pv 4) ac)))))
   (ah (aQ (aH jA (pv 6) ad (aE _))
     (al ie)
     aR)
   (ah (gE (aq Lm (hr.mono) rfl FZ G0 Kq .nil aj (aa (pv 5) ac)))
   (al (aB (aq Lo (hr.mono) rfl Gb G2 Ks .nil aj (aa (pv 5) (aa (pv 3) (aa (pv 4) ac)))))))))))))),?_⟩
  refine ju ⟨_,rfl,a,_,rfl,hA,_,rfl,by rw [hml];omega,?_⟩
  refine bz ⟨_,rfl,a,_,rfl,hA,_,_,rfl,rfl,_,rfl,aL (fun h0=>absurd (show ((kp.map V.int).length:Int)-1<1 from h0) (by rw [hml];omega)) (fun _=>?_)⟩
  refine aA ⟨_,rfl,rfl,_,rfl,?_⟩
  rw [decide_eq_false (by simp)]
  refine dU ⟨_,rfl,?_⟩
  refine aA ⟨_,rfl,rfl,_,rfl,?_⟩
  rw [decide_eq_false (by simp)]
  refine dU ⟨_,rfl,?_⟩
  refine aA ⟨_,rfl,a,kp,c,us,rfl,hA,hM,fun pw H1 s1 hpw e1=>?_⟩
  rw [hfl] at e1
  refine aA ⟨_,rfl,_,rfl,_,rfl,pw,l,h,fs,l1,l2,h1,h2,rfl,e1,hN.whl,hl.same s1,hh.same s1,hN.en,fun H2 s2=>?_⟩
  rw [hN.cnt]
  have e2:=s2 _ _ e1
  have t2:=s1.trans s2
  refine bz ⟨_,rfl,_,_,rfl,rfl,_,rfl,dq (fun h=>absurd rfl h) (fun _=>?_)⟩
  refine ju ⟨_,rfl,pw,prQ fs,rfl,e2,by omega,hN.whl.bits.mono,fun H3 s3=>?_⟩
  have t3:=t2.trans s3
  refine aU ⟨_,rfl,_,rfl,_,rfl,pw,l,h,fs,f0,s0,l1,l2,h1,h2,rfl,s3 _ _ e2,hl.same t3,hh.same t3,hN,fun x q H4 s4 hx hNA hq hqn=>?_⟩
  exact k x q H4 (t3.trans s4) (t3.free hx) hNA hq (t3.free hqn)
def NU (kb:Nat) (C CN:Addr) (H:Hp) (x:Addr) (ns:List Int) (l1 l2 h1 h2 ε:Int) (Up:Int->Int->Prop):Prop:=∃ q l h,NA CN H x q l h/\H q=some (.lst (ns.map V.int))/\RA C H l l1 l2/\RA C H h h1 h2/\EndsG kb l1 l2 h1 h2/\RootU ns l1 l2 h1 h2 ε Up
theorem NU.same {kb:Nat} {C CN:Addr} {H H':Hp} {x:Addr} {ns:List Int} {l1 l2 h1 h2 ε:Int} {Up:Int->Int->Prop} (n:NU kb C CN H x ns l1 l2 h1 h2 ε Up) (s:Same H H'):NU kb C CN H' x ns l1 l2 h1 h2 ε Up:=let ⟨q,l,h,a,e,c,d,en⟩:=n;⟨q,l,h,a.same s,s _ _ e,c.same s,d.same s,en⟩
theorem RootU.sub {ns:List Int} {l1 l2 h1 h2 ε:Int} {Up:Int->Int->Prop} (r:RootU ns l1 l2 h1 h2 ε Up) (l2p:0<l2) (h2p:0<h2) {x1 x2 y1 y2:Int} (x2p:0<x2) (y2p:0<y2) (ux:Up x1 x2) (uy:¬ Up y1 y2) (lo:l1*x2<=x1*l2) (hi:y1*h2<=h1*y2):RootU ns x1 x2 y1 y2 ε Up:=by
 have gl:∀ z1 z2:Int,0<z2->x1*z2<z1*x2->l1*z2<z1*l2:=fun z1 z2 hz h=>by
  refine gk x2p ?_
  have h3:=Int.mul_le_mul_of_nonneg_right lo (Int.le_of_lt hz)
  have h4:=Int.mul_lt_mul_of_pos_right h l2p
  have e1:l1*x2*z2=l1*z2*x2:=by grind
  have e2:x1*l2*z2=x1*z2*l2:=by grind
  have e3:z1*x2*l2=z1*l2*x2:=by grind
  omega
 have gh:∀ z1 z2:Int,0<z2->z1*y2<=y1*z2->z1*h2<=h1*z2:=fun z1 z2 hz h=>by
  refine gm y2p ?_
  have h3:=Int.mul_le_mul_of_nonneg_right hi (Int.le_of_lt hz)
  have h4:=Int.mul_le_mul_of_nonneg_right h (Int.le_of_lt h2p)
  have e1:z1*y2*h2=z1*h2*y2:=by grind
  have e2:y1*z2*h2=y1*h2*z2:=by grind
  have e3:h1*y2*z2=h1*z2*y2:=by grind
  omega
 exact ⟨r.e1,fun z1 z2 hz h1 h2=>r.r1 z1 z2 hz (gl z1 z2 hz h1) (gh z1 z2 hz h2),fun z1 z2 hz h1 h2=>r.r2 z1 z2 hz (gl z1 z2 hz h1) (gh z1 z2 hz h2),fun z1 z2 w1 w2 hz hw h1 h2=>r.r3 z1 z2 w1 w2 hz hw (gl z1 z2 hz h1) (gh w1 w2 hw h2),r.sc,ux,uy⟩
structure Nrw (C CN:Addr) (H:Hp) (vs:List V) (x wd:Addr) (ns:List Int) (l1 l2 h1 h2 ε:Int) (Up:Int->Int->Prop) (w1 w2:Int) (kb kw:Nat):Prop where
 vs:vs=[.ref x,.ref wd]
 nu:NU kb C CN H x ns l1 l2 h1 h2 ε Up
 tr:Tr ns
 ne:ns≠[]
 len:ns.length<=12
 bits:AllB 1000 ns
 wd:RA C H wd w1 w2
 w1p:0<w1
 w2p:0<w2
 b1:Bits kw w1
 b2:Bits kw w2
 k1:kb<=1400
 k2:2*kb+kw<=3900
 k3:5*kb+kw<=8900
def wc (C CN:Addr):Sp:=fun vs H Q _=>∃ (x wd:Addr) (ns:List Int) (l1 l2 h1 h2 ε:Int) (Up:Int->Int->Prop) (w1 w2:Int) (kb kw:Nat),Nrw C CN H vs x wd ns l1 l2 h1 h2 ε Up w1 w2 kb kw /\
 ∀ (p y z:Addr) (H':Hp) (n pl:Nat) (x1 x2 y1 y2:Int),Same H H'->H p=none->H' p=some (.tup [.ref y,.ref z])->RA C H' y x1 x2->RA C H' z y1 y2->NarP l1 l2 h1 h2 w1 w2 Up (5*kb+kw+4) n pl x1 x2 y1 y2->Q (.ref p) H'
theorem Ef {C CN f:Addr} {fd:FuncData} (F:Fun K "span_of" "span_of" pE f fd) (T:Txt K mg) (R:RCI K mg C) (RN:NCI K mg CN) {ln:Addr} {li:FuncData} (mf:Cal P w K mg base 6 "narrowed" ["row","low","high","width"] (mD C) ln li):FnOk P w K mg base CX0 7 f fd ["one","width"] (wc C CN):=by
 obtain ⟨j2,jI,jK,jR⟩:=mf
 refine F.ok Co (fun vs H Q E h=>?_) (fun cdv A outer s H vs Q E hr h=>?_)
 ·obtain ⟨x,wd,ns,l1,l2,h1,h2,ε,Up,w1,w2,kb,kw,hn,_⟩:=h
  rw [hn.vs];rfl
 ·obtain ⟨x,wd,ns,l1,l2,h1,h2,ε,Up,w1,w2,kb,kw,⟨rfl,⟨q,l,h,⟨dx,hx⟩,hq,hl,hh,en,ru⟩,tr,ne,len,bs,hw,p1,p2,b1,b2,k1,k2,k3⟩,k⟩:=h
  refine ⟨_,(al (aB (aq j2 (hr.mono) rfl jI jK jR .nil aj (aa (aO (K:=K) rfl (pv 0) rfl) (aa (aO (K:=K) rfl (pv 0) rfl) (aa (aO (K:=K) rfl (pv 0) rfl) (aa (pv 1) ac))))))),?_⟩
  exact aU ⟨_,rfl,x,CN,dx,_,_,rfl,hx,RN.cl,RN.nP,n8 _ _ _,_,rfl,x,CN,dx,_,_,rfl,hx,RN.cl,RN.nL,zB _ _ _,_,rfl,x,CN,dx,_,_,rfl,hx,RN.cl,RN.nH,oa _ _ _,_,rfl,q,l,h,wd,ns,l1,l2,h1,h2,w1,w2,kb,kw,ε,Up,rfl,hq,tr,ne,len,bs,hl,hh,hw,en,p1,p2,b1,b2,k1,k2,k3,ru,k⟩
def wq (C CN:Addr):Sp:=fun vs H Q _=>∃ (x wd:Addr) (ns:List Int) (l1 l2 h1 h2 ε:Int) (Up:Int->Int->Prop) (w1 w2:Int) (kb kw:Nat),Nrw C CN H vs x wd ns l1 l2 h1 h2 ε Up w1 w2 kb kw /\
 ∀ (y:Addr) (H':Hp) (n pl:Nat) (x1 x2 y1 y2:Int),Same H H'->H y=none->NU (5*kb+kw+4) C CN H' y ns x1 x2 y1 y2 ε Up->NarP l1 l2 h1 h2 w1 w2 Up (5*kb+kw+4) n pl x1 x2 y1 y2->Q (.ref y) H'
theorem Ey {C CN f:Addr} {fd:FuncData} (F:Fun K "narrow" "narrow" pU f fd) (T:Txt K mg) (R:RCI K mg C) (RN:NCI K mg CN) {Jf:Addr} {Ik:FuncData} (LY:Cal P w K mg base 7 "span_of" ["one","width"] (wc C CN) Jf Ik) {f_Number:Addr} {fd_Number:FuncData} {ds_Number:List Value} (mi:KCal P w K mg base 1 CN "Number" ["self","row","low","high"] (jn CN) f_Number fd_Number ds_Number []):FnOk P w K mg base CX0 8 f fd ["one","width"] (wq C CN):=by
 obtain ⟨Lj,FW,GX,Kn⟩:=LY
 obtain ⟨md,lV,kT,lN,AI,zR⟩:=mi
 refine F.ok sc_narrow (fun vs H Q E h=>?_) (fun cdv A outer s H vs Q E hr h=>?_)
 ·obtain ⟨x,wd,ns,l1,l2,h1,h2,ε,Up,w1,w2,kb,kw,hn,_⟩:=h
  rw [hn.vs];rfl
 ·obtain ⟨x,wd,ns,l1,l2,h1,h2,ε,Up,w1,w2,kb,kw,hn,k⟩:=h
  obtain rfl:=hn.vs
  refine ⟨_,(ah (ap (i:=2) sc_narrow.nd rfl (Or.inl rfl) (aq Lj (hr.mono) rfl FW GX Kn .nil aj (aa (pv 0) (aa (pv 1) ac))))
   (al (aB (cc lV md (hr.mono) rfl kT lN .nil aj (aa (aO (K:=K) rfl (pv 0) rfl) (aa (aG (aS (K:=K) rfl) (pv 2) ad (fun _ _=>rfl)) (aa (aG (aS (K:=K) rfl) (pv 2) ad (fun _ _=>rfl)) ac))))))),?_⟩
  refine aA ⟨_,rfl,_,rfl,x,wd,ns,l1,l2,h1,h2,ε,Up,w1,w2,kb,kw,hn,fun p y z H1 n pl x1 x2 y1 y2 s1 hp e1 hy hz nar=>?_⟩
  obtain ⟨q,l,h,⟨dx,hx⟩,hq,hl,hh,en,ru⟩:=hn.nu.same s1
  refine aU ⟨_,rfl,x,CN,dx,_,_,rfl,hx,RN.cl,RN.nP,n8 _ _ _,_,rfl,p,_,_,_,rfl,rfl,SqT.of e1,rfl,_,rfl,p,_,_,_,rfl,rfl,SqT.of e1,rfl,rK hq fun y' q' H2 s2 hy' hN' hq' _=>?_⟩
  exact k y' H2 n pl x1 x2 y1 y2 (s1.trans s2) (s1.free hy') ⟨q',y,z,hN',hq',hy.same s2,hz.same s2,nar.ends,ru.sub en.l2p en.h2p nar.ends.l2p nar.ends.h2p nar.ux nar.uy nar.lo nar.hi⟩ nar
theorem CZ {fs pre post:List (List Int)} {s:List Int} {c l1 l2 h1 h2:Int} (hF:∀ f∈fs,eD f) (hc:c≠0) (hsp:aJ fs=pre++s::post) (l2p:0<l2) (h2p:0<h2) (lt:l1*h2<h1*l2) (hno:∀ x∈pre++post,¬ (0<ak x l1 l2/\ak x h1 h2<=0)) :
 ∃ ε:Int,(ε=1\/ε = -1)/\∀ x1 x2,0<x2->l1*x2<x1*l2->x1*h2<=h1*x2->sg (hv x1 x2 (af [c] (aP [1] (fs.map ag)))) = -ε*ak s x1 x2:=by
 have hS:∀ x∈aJ fs,Spt x:=fun x hx=>c9 hF hx
 have ho:∀ x∈pre++post,Spt x:=fun x hx=>hS x (by rw [hsp];simp at hx ⊢;rcases hx with h | h<;>simp [h])
 have hu:=oH (t:=h1) (n:=h2) (ls:=pre++post) fun y hy=>(mJ (ho y hy) l2p h2p h2p lt (hno y hy) lt (Int.le_refl _)).2
 have hsg:sg c=1\/sg c = -1:=by
  rcases Int.lt_or_gt_of_ne hc with z | z
  ·right;unfold sg;rw [if_pos z]
  ·left;unfold sg;rw [if_neg (by omega),if_pos z]
 refine ⟨sg c*spr h1 h2 (pre++post),?_,fun x1 x2 x2p a b=>?_⟩
 ·rcases hsg with z | z<;>rcases hu with y | y<;>rw [z,y]<;>decide
 ·rw [kA x2p hF,hsp,jl]
  show sg c*(spr x1 x2 pre*(-ak s x1 x2*spr x1 x2 post))=_
  have e:spr x1 x2 (pre++post)=spr h1 h2 (pre++post):=oI fun y hy=>(mJ (ho y hy) l2p h2p x2p lt (hno y hy) a b).1
  rw [<- e,jl];grind
structure NSg (kb:Nat) (C CN:Addr) (H:Hp) (x:Addr) (ns:List Int) (l1 l2 h1 h2 ε:Int) (s:List Int):Prop where
 nu:NU kb C CN H x ns l1 l2 h1 h2 ε (fun t n=>0<ak s t n)
 spt:Spt s
 sgn:∀ x1 x2,0<x2->l1*x2<x1*l2->x1*h2<=h1*x2->sg (hv x1 x2 ns) = -ε*ak s x1 x2
theorem NSg.same {kb:Nat} {C CN:Addr} {H H':Hp} {x:Addr} {ns:List Int} {l1 l2 h1 h2 ε:Int} {s:List Int} (n:NSg kb C CN H x ns l1 l2 h1 h2 ε s) (sm:Same H H'):NSg kb C CN H' x ns l1 l2 h1 h2 ε s:=⟨n.nu.same sm,n.spt,n.sgn⟩
def wJ (C CN:Addr):Sp:=fun vs H Q _=>∃ (x:Addr) (ns:List Int) (l1 l2 h1 h2 ε τ:Int) (s:List Int),vs=[.ref x,.int (-ε*τ)]/\NSg 2000 C CN H x ns l1 l2 h1 h2 ε s/\ns.length<=20/\AllB 1000 ns/\(τ=0\/τ=1\/τ = -1/\ak s h1 h2 = -1)/\∀ H',Same H H'->Q (.int τ) H'
theorem EW {C CN f:Addr} {fd:FuncData} (F:Fun K "beside" "beside" qr f fd) (T:Txt K mg) (R:RCI K mg C) (RN:NCI K mg CN) {fb:Addr} {eV:FuncData} (fh:Cal P w K mg base 2 "sign_at" ["row","ratio"] (g6 C) fb eV):FnOk P w K mg base CX0 3 f fd ["one","sign"] (wJ C CN):=by
 obtain ⟨fg,eT,eU,fe⟩:=fh
 refine F.ok CC (fun vs H Q E h=>?_) (fun cdv A outer s H vs Q E hr h=>?_)
 ·obtain ⟨x,ns,l1,l2,h1,h2,ε,τ,s,rfl,_⟩:=h
  rfl
 ·obtain ⟨x,ns,l1,l2,h1,h2,ε,τ,sp,rfl,hN,nl,nb,hτ,k⟩:=h
  obtain ⟨q,l,h,⟨dx,hx⟩,hq,hl,hh,en,ru⟩:=id hN.nu
  refine ⟨_,(ah (aQ (aH cI (pv 1) ad (aE _))
   (al (aB ad))
   aR)
   (ah (aQ (aH cI (pv 1) (aq fg (hr.mono) rfl eT eU fe .nil aj (aa (aO (K:=K) rfl (pv 0) rfl) (aa (aO (K:=K) rfl (pv 0) rfl) ac))) (aE _))
     (al (aB (bQ bM ad)))
     aR)
   (al (aB ad)))),?_⟩
  have e1:=ru.e1
  have hs:=hN.sgn h1 h2 en.h2p en.lt (Int.le_refl _)
  have htop:ak sp h1 h2<=0:=Int.not_lt.mp ru.top
  have hc:=dm sp h1 h2
  refine bz ⟨_,rfl,_,_,rfl,rfl,_,rfl,aL (fun h0=>?_) (fun h0=>?_)⟩
  ·have h0' : -ε*τ=0:=h0
   have e:τ=0:=by rcases e1 with rfl | rfl<;>omega
   subst e
   exact k H (Same.refl _)
  have h0':¬ -ε*τ=0:=h0
  refine bz ⟨_,rfl,_,rfl,x,CN,dx,_,_,rfl,hx,RN.cl,RN.nP,n8 _ _ _,_,rfl,x,CN,dx,_,_,rfl,hx,RN.cl,RN.nH,oa _ _ _,q,h,ns,h1,h2,⟨rfl,hq,hh,nl,nb.mono,en.bh1.mono,en.bh2.mono⟩,fun H1 s1=>⟨_,_,rfl,rfl,_,rfl,aL (fun he=>?_) (fun hne=>?_)⟩⟩
  ·have he' : -ε*τ=sg (hv h1 h2 ns):=he
   rw [hs] at he'
   have e:τ = -1:=by
    rcases hτ with rfl | rfl | ⟨rfl,_⟩
    ·exact absurd (Int.mul_zero _) h0'
    ·rcases e1 with rfl | rfl<;>omega
    ·rfl
   subst e
   exact aU ⟨_,rfl,k H1 s1⟩
  ·have hne':¬ -ε*τ=sg (hv h1 h2 ns):=hne
   rw [hs] at hne'
   have e:τ=1:=by
    rcases hτ with rfl | rfl | ⟨rfl,z⟩
    ·exact absurd (Int.mul_zero _) h0'
    ·rfl
    ·rw [z] at hne';exact absurd rfl hne'
   subst e
   exact aU (k H1 s1)
def wM (C CN:Addr):Sp:=fun vs H Q _=>∃ (x r:Addr) (ns:List Int) (l1 l2 h1 h2 ε u d:Int) (s:List Int),vs=[.ref x,.ref r]/\NSg 2000 C CN H x ns l1 l2 h1 h2 ε s/\ns.length<=20/\AllB 1000 ns/\RA C H r u d/\0<d/\Bits 3000 u/\Bits 3000 d/\∀ H',Same H H'->Q (.int (ak s u d)) H'
theorem EY {C CN f:Addr} {fd:FuncData} (F:Fun K "against" "against" qu f fd) (T:Txt K mg) (R:RCI K mg C) (RN:NCI K mg CN) {iQ:Addr} {iL:FuncData} (jh:MCal P w K mg base 2 C "against" ["self","other"] (kg C) iQ iL) {JA:Addr} {IJ:FuncData} (Mn:Cal P w K mg base 3 "beside" ["one","sign"] (wJ C CN) JA IJ) {fb:Addr} {eV:FuncData} (fh:Cal P w K mg base 2 "sign_at" ["row","ratio"] (g6 C) fb eV):FnOk P w K mg base CX0 4 f fd ["one","ratio"] (wM C CN):=by
 obtain ⟨gw,fW,gu⟩:=jh
 obtain ⟨LI,Gs,Hi,KJ⟩:=Mn
 obtain ⟨fg,eT,eU,fe⟩:=fh
 refine F.ok CF (fun vs H Q E h=>?_) (fun cdv A outer s H vs Q E hr h=>?_)
 ·obtain ⟨x,r,ns,l1,l2,h1,h2,ε,u,d,s,rfl,_⟩:=h
  rfl
 ·obtain ⟨x,r,ns,l1,l2,h1,h2,ε,u,d,sp,rfl,hN,nl,nb,hR,hd,bu,bd,k⟩:=h
  obtain ⟨q,l,h,⟨dx,hx⟩,hq,hl,hh,en,ru⟩:=id hN.nu
  obtain ⟨dr,hr'⟩:=id hR
  refine ⟨_,(ah (aQ (aH rj (cP (pv 1) R.cl fW gw (hr.mono) gu .nil aj (aa (aO (K:=K) rfl (pv 0) rfl) ac)) ad (aE _))
   (al (aB ad))
   aR)
   (ah (aQ (aH dj (cP (pv 1) R.cl fW gw (hr.mono) gu .nil aj (aa (aO (K:=K) rfl (pv 0) rfl) ac)) ad (aE _))
     (al (aB (bQ bM ad)))
     aR)
   (al (aB (aq LI (hr.mono) rfl Gs Hi KJ .nil aj (aa (pv 0) (aa (aq fg (hr.mono) rfl eT eU fe .nil aj (aa (aO (K:=K) rfl (pv 0) rfl) (aa (pv 1) ac))) ac))))))),?_⟩
  have htop:ak sp h1 h2<=0:=Int.not_lt.mp ru.top
  have sgp:∀ c:Int,sg c>0↔0<c:=fun c=>by unfold sg;split<;>(try split)<;>constructor<;>intro z<;>omega
  refine bz ⟨_,rfl,r,dr,_,rfl,hr',cS _ _ dZ.1 dZ.2,_,rfl,x,CN,dx,_,_,rfl,hx,RN.cl,RN.nL,zB _ _ _,r,l,u,d,l1,l2,rfl,hR,hl,bu.mono,bd.mono,en.bl1.mono,en.bl2.mono,_,_,rfl,rfl,_,rfl,aL (fun h0=>?_) (fun h0=>?_)⟩
  ·have h3:u*l2<=l1*d:=Int.not_lt.mp fun z=>by have:=(sgp (u*l2-l1*d)).mpr (by omega);have h0':sg (u*l2-l1*d)<=0:=h0;omega
   have h4:=o0 hN.spt hd en.l2p h3 ru.low
   have e:ak sp u d=1:=by rcases dm sp u d with z | z | z<;>omega
   rw [e] at k
   exact aU (k H (Same.refl _))
  have h3:l1*d<u*l2:=Int.not_le.mp fun z=>h0 (show sg (u*l2-l1*d)<=0 from Int.not_lt.mp fun y=>by have:=(sgp (u*l2-l1*d)).mp y;omega)
  refine bz ⟨_,rfl,r,dr,_,rfl,hr',cS _ _ dZ.1 dZ.2,_,rfl,x,CN,dx,_,_,rfl,hx,RN.cl,RN.nH,oa _ _ _,r,h,u,d,h1,h2,rfl,hR,hh,bu.mono,bd.mono,en.bh1.mono,en.bh2.mono,_,_,rfl,rfl,_,rfl,aL (fun h0'=>?_) (fun h0'=>?_)⟩
  ·have h4:=(sgp (u*h2-h1*d)).mp h0'
   have e:=dR hN.spt en.h2p hd (show h1*d<u*h2 by omega) htop
   rw [e] at k
   exact aU ⟨_,rfl,k H (Same.refl _)⟩
  have h4:u*h2<=h1*d:=Int.not_lt.mp fun z=>h0' ((sgp (u*h2-h1*d)).mpr (by omega))
  have hs:=hN.sgn u d hd h3 h4
  refine aU ⟨_,rfl,_,rfl,x,CN,dx,_,_,rfl,hx,RN.cl,RN.nP,n8 _ _ _,_,rfl,q,r,ns,u,d,⟨rfl,hq,hR,nl,nb.mono,bu.mono,bd.mono⟩,fun H1 s1=>?_⟩
  rw [hs]
  refine ⟨x,ns,l1,l2,h1,h2,ε,ak sp u d,sp,rfl,hN.same s1,nl,nb,?_,fun H2 s2=>k H2 (s1.trans s2)⟩
  rcases dm sp u d with z | z | z
  ·exact .inr (.inl z)
  ·exact .inl z
  ·refine .inr (.inr ⟨z,?_⟩)
   rcases Int.lt_or_eq_of_le h4 with y | y
   ·exact dR hN.spt hd en.h2p y (by omega)
   ·rw [<- g7 sp hd en.h2p y];exact z
theorem NU.mono {j k:Nat} {C CN:Addr} {H:Hp} {x:Addr} {ns:List Int} {l1 l2 h1 h2 ε:Int} {Up:Int->Int->Prop} (n:NU j C CN H x ns l1 l2 h1 h2 ε Up) (h:j<=k:=by decide):NU k C CN H x ns l1 l2 h1 h2 ε Up:=let ⟨q,l,hh,a,e,c,d,en,ru⟩:=n;⟨q,l,hh,a,e,c,d,en.mono h,ru⟩
def jX (s:List Int) (D m:Int):Prop:=0<=ak s m D/\ak s (m+1) D<0
theorem BP {s:List Int} (hs:Spt s) {D m m':Int} (hD:0<D) (h:jX s D m) (h':jX s D m'):m=m':=by
 have key:∀ a b:Int,jX s D a->jX s D b->¬ a<b:=fun a b ha hb z=>by
  have:=mK hs (t:=a+1) (n:=D) (t':=b) (n':=D) hD hD (Int.mul_le_mul_of_nonneg_right (by omega) (Int.le_of_lt hD)) (by have:=ha.2;omega)
  rcases Int.lt_or_eq_of_le (show a+1<=b by omega) with y | y
  ·have h3:=dR hs hD hD (Int.mul_lt_mul_of_pos_right y hD) (by have:=ha.2;omega)
   have:=hb.1
   omega
  ·have:=ha.2
   rw [y] at this
   have:=hb.1
   omega
 have:=key m m' h h'
 have:=key m' m h' h
 omega
def v6 (C CN:Addr):Sp:=fun vs H Q _=>∃ (x:Addr) (ns:List Int) (l1 l2 h1 h2 ε D:Int) (s:List Int),vs=[.ref x,.int D]/\NSg 40 C CN H x ns l1 l2 h1 h2 ε s/\Tr ns/\ns≠[]/\ns.length<=12/\AllB 1000 ns/\0<D/\Bits 210 D/\∀ (m:Int) (H':Hp),Same H H'->jX s D m->Bits 900 m->Q (.int m) H'
theorem Eb {C CN f:Addr} {fd:FuncData} (F:Fun K "steps" "steps" pA f fd) (T:Txt K mg) (R:RCI K mg C) (RN:NCI K mg CN) {Jm:Addr} {Iv:FuncData} (L8:Cal P w K mg base 8 "narrow" ["one","width"] (wq C CN) Jm Iv) {f_Ratio:Addr} {fd_Ratio:FuncData} {ds_Ratio:List Value} (ci:KCal P w K mg base 2 C "Ratio" ["self","top","bottom"] (da C) f_Ratio fd_Ratio ds_Ratio [.int 1]) {ge:Addr} {gb:FuncData} (gA:MCal P w K mg base 4 C "times" ["self","other"] (jm C) ge gb) {tF:Addr} {sS:FuncData} (uZ:MCal P w K mg base 1 C "floor" ["self"] (oV C) tF sS) {JC:Addr} {IL:FuncData} (Mp:Cal P w K mg base 4 "against" ["one","ratio"] (wM C CN) JC IL):FnOk P w K mg base CX0 9 f fd ["one","bottom"] (v6 C CN):=by
 obtain ⟨Lr,Gd,G4,Ku⟩:=L8
 obtain ⟨bK,bJ,bH,b5,cV,cU⟩:=ci
 obtain ⟨eu,d7,eo⟩:=gA
 obtain ⟨uJ,rH,ul⟩:=uZ
 obtain ⟨LJ,Gu,Hj,KK⟩:=Mp
 refine F.ok sc_steps (fun vs H Q E h=>?_) (fun cdv A outer s H vs Q E hr h=>?_)
 ·obtain ⟨x,ns,l1,l2,h1,h2,ε,D,s,rfl,_⟩:=h
  rfl
 ·obtain ⟨x,ns,l1,l2,h1,h2,ε,D,sp,rfl,hN,hT,hne,hl12,hb,hD,bD,k⟩:=h
  refine ⟨_,(ah (ap (i:=2) sc_steps.nd rfl (Or.inl rfl) (aq Lr (hr.mono) rfl Gd G4 Ku .nil aj (aa (pv 0) (aa (cc bJ bK (hr.mono) rfl bH b5 .nil aj (aa ad (aa (pv 1) ac))) ac))))
   (ah (ap (i:=3) sc_steps.nd rfl (Or.inl rfl) (xY (cP (aO (K:=K) rfl (pv 2) rfl) R.cl d7 eu (hr.mono) eo .nil aj (aa (cc bJ bK (hr.mono) rfl bH cV cU aj (aa (pv 1) ac)) ac)) R.cl rH uJ (hr.mono) ul .nil aj))
   (ah (aQ (aH c7 (aq LJ (hr.mono) rfl Gu Hj KK .nil aj (aa (pv 2) (aa (cc bJ bK (hr.mono) rfl bH b5 .nil aj (aa (pv 3) (aa (pv 1) ac))) ac))) ad (aE _))
     (al (aB (ai b7 (pv 3) ad)))
     aR)
   (al (aB (pv 3)))))),?_⟩
  refine aA ⟨_,rfl,_,rfl,cM (t:=1) (b:=D) (by omega) (bD.mono) fun r H1 s1 hr1 hR1=>?_⟩
  rw [xo hD,xA hD] at hR1
  obtain ⟨_,_,_,_,_,_,_,en0,ru0⟩:=id hN.nu
  refine ⟨x,r,ns,l1,l2,h1,h2,ε,_,1,D,40,210,⟨rfl,hN.nu.same s1,hT,hne,hl12,hb,hR1,by decide,hD,b1k (by decide),bD,by decide,by decide,by decide⟩,fun y H2 n pl x1 x2 y1 y2 s2 hy hNU nar=>?_⟩
  have t2:=s1.trans s2
  have hN2:NSg 2000 C CN H2 y ns x1 x2 y1 y2 ε sp:=by
   refine ⟨hNU.mono,hN.spt,fun z1 z2 hz a b=>hN.sgn z1 z2 hz ?_ ?_⟩
   ·refine gk nar.ends.l2p ?_
    have q1:=Int.mul_le_mul_of_nonneg_right nar.lo (Int.le_of_lt hz)
    have q2:=Int.mul_lt_mul_of_pos_right a en0.l2p
    have e1:l1*z2*x2=l1*x2*z2:=by grind
    have e2:x1*l2*z2=x1*z2*l2:=by grind
    have e3:z1*l2*x2=z1*x2*l2:=by grind
    omega
   ·refine gm nar.ends.h2p ?_
    have q1:=Int.mul_le_mul_of_nonneg_right nar.hi (Int.le_of_lt hz)
    have q2:=Int.mul_le_mul_of_nonneg_right b (Int.le_of_lt en0.h2p)
    have e1:z1*h2*y2=z1*y2*h2:=by grind
    have e2:y1*h2*z2=y1*z2*h2:=by grind
    have e3:h1*z2*y2=h1*y2*z2:=by grind
    omega
  obtain ⟨q,l,h,⟨dy,hy2⟩,hq,hl,hh,en,ru⟩:=id hNU
  obtain ⟨dh,hh'⟩:=id hh
  refine aA ⟨_,rfl,y,CN,dy,_,_,rfl,hy2,RN.cl,RN.nH,oa _ _ _,h,dh,_,rfl,hh',cS _ _ du.1 du.2,_,rfl,cM (t:=D) (b:=1) (by decide) (b1k (by decide)) fun r3 H3 s3 hr3 hR3=>?_⟩
  rw [mS,mW] at hR3
  refine ⟨h,r3,y1,y2,D,1,414,1,rfl,hh.same s3,hR3,en.bh1.mono,en.bh2,bD.mono,b1k (by decide),by decide,en.h2p,by decide,fun r4 H4 s4 hr4 hR4=>?_⟩
  obtain ⟨d4,hR4'⟩:=id hR4
  have y2p:=en.h2p
  have x2p:=en.l2p
  have d0:y2*1≠0:=by omega
  refine ⟨r4,d4,_,rfl,hR4',cS _ _ ny.1 ny.2,r4,_,_,rfl,hR4,cY d0,(dY d0 (by rw [Int.mul_one];exact en.bh2)).mono,?_⟩
  rw [xE (show 0<y2*1 by omega),Int.mul_one]
  have bm:Bits 700 (y1*D/y2):=Bits.of_le ((en.bh1.mul bD).mono (k:=700) (by decide)) (Int.natAbs_ediv_le_natAbs _ _)
  have f1:y1*D/y2*y2<=y1*D:=Int.ediv_mul_le _ (by omega)
  have f2:y1*D<(y1*D/y2+1)*y2:=Int.lt_mul_of_ediv_lt y2p (by omega)
  generalize y1*D/y2=m at bm f1 f2 ⊢
  have up1:ak sp (m+1) D = -1:=dR hN.spt y2p hD f2 (Int.not_lt.mp nar.uy)
  have wide:=nar.wide
  rw [Int.one_mul] at wide
  have lo1:(m-1)*x2<=x1*D:=by
   refine gm y2p ?_
   have q1:=Int.mul_le_mul_of_nonneg_right f1 (Int.le_of_lt x2p)
   have e1:(m-1)*x2*y2=m*y2*x2-x2*y2:=by grind
   have e2:(y1*x2-x1*y2)*D=y1*D*x2-x1*D*y2:=by grind
   omega
  have low1:0<ak sp (m-1) D:=o0 hN.spt hD x2p lo1 nar.ux
  have t4:=s3.trans s4
  have D0:D≠0:=by omega
  refine bz ⟨_,rfl,_,rfl,_,rfl,cM (t:=m) (b:=D) (by omega) (bD.mono) fun r5 H5 s5 hr5 hR5=>?_⟩
  refine ⟨y,r5,ns,x1,x2,y1,y2,ε,_,_,sp,rfl,hN2.same (t4.trans s5),by omega,hb,hR5,cY D0,(eG D0 bm).mono,(dY D0 bD).mono,fun H6 s6=>?_⟩
  have ec:ak sp (rt m D) (rb m D)=ak sp m D:=g7 sp (cY D0) hD (eJ D0)
  rw [ec]
  have t6:=(t2.trans t4).trans (s5.trans s6)
  refine ⟨_,_,rfl,rfl,_,rfl,aL (fun h0=>?_) (fun h0=>?_)⟩
  ·have h0':ak sp m D<0:=h0
   refine aU ⟨_,rfl,_,_,rfl,rfl,k (m-1) H6 t6 ⟨by omega,by rw [Int.sub_add_cancel];exact h0'⟩ ?_⟩
   have b1:Bits 700 (1:Int):=b1k (by decide)
   exact (bm.sub b1).mono
  ·have h0':¬ ak sp m D<0:=h0
   exact aU ⟨_,rfl,k m H6 t6 ⟨by omega,by omega⟩ (bm.mono)⟩
theorem Fd {f:Addr} {fd:FuncData} (F:Fun K "_law_cell_at" "_law_cell_at" qG f fd) (T:Txt K mg):FnOk P w K mg base CX0 1 f fd ["_law_script","_law_k"] (jp K):=by
 refine F.ok CI (fun vs H Q E h=>?_) (fun cdv A outer s H vs Q E hr h=>?_)
 ·obtain ⟨a,ns,k,rfl,_⟩:=h
  rfl
 ·obtain ⟨a,ns,n,rfl,hS,k⟩:=h
  refine ⟨_,(ah (aQ (aH c7 (pv 1) (bT (df (K:=K) rfl) (by rfl) T.len_ PySem.boot_len (aa (pv 0) ac)) (aE _))
   (al (aB (aG (ck (K:=K) rfl) (pv 0) (pv 1) (fun _ _=>rfl))))
   aR)
   (al (aB ad))),?_⟩
  refine ⟨_,rfl,_,rfl,a,_,rfl,.inl hS,_,_,rfl,rfl,_,rfl,?_⟩
  refine aL (fun h1=>?_) (fun h1=>?_)
  ·rw [List.length_map] at h1
   have h2:n<ns.length:=by omega
   refine ⟨_,rfl,_,rfl,a,_,_,_,rfl,rfl,hS,jU (v:=.int (ns.getD n 0)) ?_,k⟩
   rw [List.getElem?_map,List.getElem?_eq_getElem h2]
   simp [List.getD,h2]
  ·rw [List.length_map] at h1
   have h2:ns.length<=n:=by omega
   have e:ns.getD n 0=0:=by simp [List.getD,List.getElem?_eq_none_iff.mpr h2]
   rw [e] at k
   exact k
def oN:Sp:=fun vs H Q _=>∃ i:Int,vs=[.int i]/\Q (.bl true) H
theorem E4 {f:Addr} {fd:FuncData} (F:Fun K "_law_whole" "_law_whole" qx f fd) (T:Txt K mg):FnOk P w K mg base CX0 1 f fd ["_law_found"] oN:=by
 refine F.ok CG (fun vs H Q E h=>?_) (fun cdv A outer s H vs Q E hr h=>?_)
 ·obtain ⟨i,rfl,_⟩:=h
  rfl
 ·obtain ⟨i,rfl,k⟩:=h
  refine ⟨_,(al (aB (x4 (bT (Au (K:=K) rfl) (by rfl) T.isinstance_ PyProof.Rows.boot_isinstance (aa (pv 0) (aa (x3 (v:=.ty "int") (by rfl) T.int_ PyProof.Rows.boot_int (by rfl)) ac))) (q8 (DS (bT (Au (K:=K) rfl) (by rfl) T.isinstance_ PyProof.Rows.boot_isinstance (aa (pv 0) (aa (x3 (v:=.ty "bool") (by rfl) T.bool_ PyProof.Rows.boot_bool (by rfl)) ac)))))))),?_⟩
  refine aU (xz (xw ⟨_,rfl,za (.int i) (k:=true) (by rfl) ⟨_,rfl,mU ?_⟩⟩))
  refine Df (xw ⟨_,rfl,za (.int i) (k:=false) (by rfl) ⟨_,rfl,?_⟩⟩)
  exact k
def WT (H:Hp) (p:Addr) (u v w d:Int):Prop:=H p=some (.tup [.int u,.int v,.int w,.int d])
structure WOk (u v w d:Int):Prop where
 bu:Bits 21 u
 bv:Bits 21 v
 w1:0<w
 w12:w<=12
 d2:2<=d
 d13:d<=13
 ns:NSq d
theorem WOk.bw {u v w d:Int} (h:WOk u v w d):Bits 4 w:=by show w.natAbs<2^4;have:=h.w1;have:=h.w12;omega
theorem WOk.bd {u v w d:Int} (h:WOk u v w d):Bits 4 d:=by show d.natAbs<2^4;have:=h.d2;have:=h.d13;omega
def we:Sp:=fun vs H Q _=>∃ u v d:Int,vs=[.int u,.int v,.int d]/\Bits 100000 u/\Bits 100000 v/\Bits 10 d/\Q (.int (sgq u v d)) H
theorem E7 {f:Addr} {fd:FuncData} (F:Fun K "_law_sign" "_law_sign" qA f fd) (T:Txt K mg):FnOk P w K mg base CX0 1 f fd ["_law_u","_law_v","_law_d"] we:=by
 refine F.ok CH (fun vs H Q E h=>?_) (fun cdv A outer s H vs Q E hr h=>?_)
 ·obtain ⟨u,v,d,rfl,_⟩:=h
  rfl
 ·obtain ⟨u,v,d,rfl,bu,bv,bd,k⟩:=h
  refine ⟨_,(ah (aQ (PW.pt (ic (aH np (pv 0) ad (aE _)) (ib (aH np (pv 1) ad (aE _)))))
   (al (aB (io ou (by rfl) T.int_ PyProof.Rows.boot_int (aa (DR (fS dj (pv 0) ad (aE _)) (q8 (fS dj (pv 1) ad (aE _)))) ac))))
   aR)
   (ah (aQ (PW.pt (ic (aH rj (pv 0) ad (aE _)) (ib (aH rj (pv 1) ad (aE _)))))
     (al (aB (bQ bM ad)))
     aR)
   (ah (aQ (aH dj (pv 0) ad (aE _))
     (al (aB (ai b7 ad (ai aI ad (io ou (by rfl) T.int_ PyProof.Rows.boot_int (aa (fS c7 (ai aI (pv 0) (pv 0)) (ai aI (ai aI (pv 2) (pv 1)) (pv 1)) (aE _)) ac))))))
     aR)
   (al (aB (ai b7 ad (ai aI ad (io ou (by rfl) T.int_ PyProof.Rows.boot_int (aa (fS dj (ai aI (pv 0) (pv 0)) (ai aI (ai aI (pv 2) (pv 1)) (pv 1)) (aE _)) ac))))))))),?_⟩
  have bdv:Bits 100010 (d*v):=(bd.mul bv).mono
  by_cases h1:0<=u/\0<=v
  ·refine bz (dX ⟨_,rfl,_,_,rfl,rfl,_,rfl,aL (fun _=>?_) (fun z=>absurd (show u≥0 from h1.1) z)⟩)
   refine ⟨_,rfl,_,_,rfl,rfl,_,rfl,aL (fun _=>?_) (fun z=>absurd (show v≥0 from h1.2) z)⟩
   refine aU (Dd ⟨_,rfl,_,_,rfl,rfl,_,rfl,?_⟩)
   unfold sgq at k
   rw [if_pos h1] at k
   by_cases h2:0<u
   ·rw [decide_eq_true (show u>0 from h2)]
    refine mU (.inr ⟨_,rfl,?_⟩)
    rw [if_pos (.inl h2)] at k
    exact k
   ·rw [decide_eq_false (show ¬ u>0 from h2)]
    refine dU ⟨_,rfl,_,_,rfl,rfl,.inr ⟨_,rfl,?_⟩⟩
    by_cases h3:0<v
    ·rw [if_pos (.inr h3)] at k
     rw [decide_eq_true (show v>0 from h3)]
     exact k
    ·rw [if_neg (by omega)] at k
     rw [decide_eq_false (show ¬ v>0 from h3)]
     exact k
  unfold sgq at k
  rw [if_neg h1] at k
  have go:∀ {A B:Prop},B->(if (decide (u≥0))=true then (if (decide (v≥0))=true then A else B) else B):=fun {A B} b=>by
   by_cases a1:u≥0
   ·rw [if_pos (decide_eq_true a1),if_neg (by rw [decide_eq_false (fun z=>h1 ⟨a1,z⟩)];decide)];exact b
   ·rw [if_neg (by rw [decide_eq_false a1];decide)];exact b
  refine bz (dX ⟨_,rfl,_,_,rfl,rfl,_,rfl,aL (fun a1=>?_) (fun a1=>?_)⟩)
  ·refine ⟨_,rfl,_,_,rfl,rfl,_,rfl,aL (fun a2=>absurd ⟨a1,a2⟩ h1) (fun _=>?_)⟩
   by_cases h2:u<=0/\v<=0
   ·rw [if_pos h2] at k
    refine bz (dX ⟨_,rfl,_,_,rfl,rfl,_,rfl,aL (fun _=>?_) (fun z=>absurd h2.1 z)⟩)
    refine ⟨_,rfl,_,_,rfl,rfl,_,rfl,aL (fun _=>?_) (fun z=>absurd h2.2 z)⟩
    exact aU ⟨_,rfl,k⟩
   rw [if_neg h2] at k
   have a1':0<=u:=a1
   have up:0<u:=by omega
   rw [if_pos up] at k
   refine bz (dX ⟨_,rfl,_,_,rfl,rfl,_,rfl,aL (fun z=>absurd (show u<=0 from z) (by omega)) (fun _=>dU ?_)⟩)
   refine bz ⟨_,rfl,_,_,rfl,rfl,_,rfl,aL (fun _=>?_) (fun z=>absurd (show u>0 from up) z)⟩
   refine aU ⟨_,rfl,_,rfl,_,_,rfl,rfl,⟨bu.mono,bu.mono⟩,_,rfl,_,rfl,_,_,rfl,rfl,⟨bd.mono,bv.mono⟩,_,rfl,_,_,rfl,rfl,⟨bdv.mono,bv.mono⟩,_,_,rfl,rfl,.inr ⟨_,rfl,?_⟩⟩
   by_cases h3:u*u<d*v*v
   ·rw [if_pos h3] at k
    rw [decide_eq_true h3]
    exact ⟨_,_,rfl,rfl,⟨fJ,rk⟩,_,_,rfl,rfl,k⟩
   ·rw [if_neg h3] at k
    rw [decide_eq_false h3]
    exact ⟨_,_,rfl,rfl,⟨fJ,Bits.zero⟩,_,_,rfl,rfl,k⟩
  ·have a1':¬ 0<=u:=a1
   refine dU ?_
   by_cases h2:u<=0/\v<=0
   ·rw [if_pos h2] at k
    refine bz (dX ⟨_,rfl,_,_,rfl,rfl,_,rfl,aL (fun _=>?_) (fun z=>absurd h2.1 z)⟩)
    refine ⟨_,rfl,_,_,rfl,rfl,_,rfl,aL (fun _=>?_) (fun z=>absurd h2.2 z)⟩
    exact aU ⟨_,rfl,k⟩
   rw [if_neg h2,if_neg (by omega)] at k
   refine bz (dX ⟨_,rfl,_,_,rfl,rfl,_,rfl,aL (fun _=>?_) (fun z=>absurd (show u<=0 by omega) z)⟩)
   refine ⟨_,rfl,_,_,rfl,rfl,_,rfl,aL (fun z=>absurd (show v<=0 from z) (by omega)) (fun _=>?_)⟩
   refine bz ⟨_,rfl,_,_,rfl,rfl,_,rfl,aL (fun z=>absurd (show u>0 from z) (by omega)) (fun _=>?_)⟩
   refine aU ⟨_,rfl,_,rfl,_,_,rfl,rfl,⟨bu.mono,bu.mono⟩,_,rfl,_,rfl,_,_,rfl,rfl,⟨bd.mono,bv.mono⟩,_,rfl,_,_,rfl,rfl,⟨bdv.mono,bv.mono⟩,_,_,rfl,rfl,.inr ⟨_,rfl,?_⟩⟩
   by_cases h3:u*u>d*v*v
   ·rw [if_pos h3] at k
    rw [decide_eq_true h3]
    exact ⟨_,_,rfl,rfl,⟨fJ,rk⟩,_,_,rfl,rfl,k⟩
   ·rw [if_neg h3] at k
    rw [decide_eq_false h3]
    exact ⟨_,_,rfl,rfl,⟨fJ,Bits.zero⟩,_,_,rfl,rfl,k⟩
def wF:Sp:=fun vs H Q _=>∃ x y:Int,vs=[.int x,.int y]/\0<=x/\0<=y/\Q (.int (Nat.gcd x.natAbs y.natAbs:Nat)) H
theorem Fc {f:Addr} {fd:FuncData} (F:Fun K "_law_divisor" "_law_divisor" qF f fd) (T:Txt K mg):FnOk P w K mg base CX0 1 f fd ["_law_one","_law_other"] wF:=by
 refine F.ok sc__law_divisor (fun vs H Q E h=>?_) (fun cdv A outer s H vs Q E hr h=>?_)
 ·obtain ⟨a,b,rfl,_⟩:=h
  rfl
 ·obtain ⟨a,b,rfl,ha,h0,k⟩:=h
  refine ⟨_,(ah (fO PassesOwn.never (aH jA (pv 1) ad (aE _))
   (ah (ap (i:=2) sc__law_divisor.nd rfl (Or.inl rfl) (ai cD (pv 0) (pv 1)))
     (ah (ap (i:=0) sc__law_divisor.nd rfl (Or.inl rfl) (pv 1))
     (al (ap (i:=1) sc__law_divisor.nd rfl (Or.inl rfl) (pv 2))))))
   (al (aB (pv 0)))),?_⟩
  refine ⟨fun m σ' H'=>∃ (x y:Int) (z:Option V),σ'=[some (.int x),some (.int y),z]/\H=H'/\0<=x/\0<=y/\y.natAbs=m/\Nat.gcd x.natAbs y.natAbs=Nat.gcd a.natAbs b.natAbs,⟨_,_,_,none,rfl,rfl,ha,h0,rfl,rfl⟩,?_⟩
  rintro m σ' H' ⟨x,y,z,rfl,rfl,hx,hy,rfl,hg⟩
  refine ⟨_,rfl,_,_,rfl,rfl,_,rfl,?_⟩
  refine dq (fun hn=>?_) (fun h0=>?_)
  ·have hp:0<y:=by have:y≠0:=hn;omega
   refine ⟨fun σ'' H''=>∃ m',m'<y.natAbs/\∃ (x' y':Int) (z:Option V),σ''=[some (.int x'),some (.int y'),z]/\H=H''/\0<=x'/\0<=y'/\y'.natAbs=m'/\Nat.gcd x'.natAbs y'.natAbs=Nat.gcd a.natAbs b.natAbs,fun _ _ h=>h,?_⟩
   refine ⟨_,rfl,_,rfl,_,_,rfl,rfl,hp,?_⟩
   refine ⟨_,rfl,?_⟩
   refine ⟨_,rfl,?_⟩
   have h1:=Int.emod_nonneg x (Int.ne_of_gt hp)
   have h2:=Int.emod_lt_of_pos x hp
   exact ⟨(x%y).natAbs,by omega,y,x%y,_,rfl,rfl,hy,h1,rfl,by rw [zp hx hp];exact hg⟩
  ·have e:(y:Int)=0:=h0
   subst e
   refine ⟨_,rfl,?_⟩
   have e2:(x:Int)=((Nat.gcd a.natAbs b.natAbs:Nat):Int):=by
    rw [<- hg]
    show x=((Nat.gcd x.natAbs 0:Nat):Int)
    rw [Nat.gcd_zero_right];omega
   rw [e2]
   exact k
def wm:Sp:=fun vs H Q _=>∃ (a:Addr) (ns:List Int),vs=[.ref a]/\H a=some (.lst (ns.map V.int))/\Tr ns/\ns≠[]/\0<ao ns/\ns.length<=100/\AllB 8000 ns/\mkL H Q (aC ns)
theorem kE {ns:List Int} (hT:Tr ns) (hne:ns≠[]) (hp:0<ao ns):0<(aw ns:Int)/\aC ns=ar ns:=by
 have hs:=mL (l:=ns)
 have hlast:ao ns=(aw ns:Int)*ao (ar ns):=by
  have h5:cf (scL (aw ns:Int) (ar ns)) (ns.length-1)=(aw ns:Int)*cf (ar ns) (ns.length-1):=bF _ _ _
  rw [hs] at h5
  have h6:(ar ns).length=ns.length:=List.length_map _
  unfold ao
  rw [h6];exact h5
 have g0:(0:Int)<=(aw ns:Int):=by omega
 have gp:0<(aw ns:Int):=by
  refine Classical.byContradiction fun z=>?_
  have:(aw ns:Int)=0:=by omega
  rw [this,Int.zero_mul] at hlast
  omega
 refine ⟨gp,?_⟩
 unfold aC cz
 rw [if_neg (fun z=>?_)]
 have:=Int.mul_neg_of_pos_of_neg gp z
 omega
theorem E9 {f:Addr} {fd:FuncData} (F:Fun K "_law_plain" "_law_plain" qC f fd) (T:Txt K mg) {JL:Addr} {IU:FuncData} (Mz:Cal P w K mg base 1 "_law_divisor" ["_law_one","_law_other"] wF JL IU):FnOk P w K mg base CX0 2 f fd ["_law_row"] wm:=by
 obtain ⟨LO,Gz,Ho,KP⟩:=Mz
 refine F.ok sc__law_plain (fun vs H Q E h=>?_) (fun cdv A outer s H vs Q E hr h=>?_)
 ·obtain ⟨a,ns,rfl,_⟩:=h
  rfl
 ·obtain ⟨a,ns,rfl,hA,hT,hne,hp,hl,hb,k⟩:=h
  have big:=sizeLine_eq
  have hS:=SqL.of (K:=K) hA
  refine ⟨_,(ah (ap (i:=1) sc__law_plain.nd rfl (Or.inr rfl) ad)
   (ah (cZ PassesOwn.never rfl (eN (K:=K) rfl (pv 0)) (aW (i:=2) sc__law_plain.nd rfl (Or.inl rfl))
     (al (ap (i:=1) sc__law_plain.nd rfl (Or.inr rfl) (aq LO (hr.mono) rfl Gz Ho KP .nil aj (aa (pv 1) (aa (bT gn (by rfl) T.abs_ PyProof.Rows.boot_abs (aa (pv 2) ac)) ac))))))
   (ah (aQ (aH c7 (aG (ck (K:=K) rfl) (pv 0) (bQ bM ad) (fun _ _=>rfl)) ad (aE _))
     (al (ap (i:=1) sc__law_plain.nd rfl (Or.inr rfl) (bQ bM (pv 1))))
     aR)
   (al (aB (fm (own:=["_law_one"]) (fr:=["_law_by"]) (js:=[1]) (by walk_at "comp_ok") rfl (eN (K:=K) rfl (pv 0)) (fun _ _ _ _=>(aW (i:=0) (show List.Nodup (["_law_one","_law_by"]:List Str) from by decide +kernel) rfl (Or.inl rfl))) (fun _ _ _ _=>(ai cQ (pv 0) (pv 1))))))))),?_⟩
  refine aA ?_
  refine ⟨_,rfl,a,rfl,⟨_,hS⟩,n6 (K:=K) (a:=a) (xs:=ns.map V.int) (fun i σ' H'=>∃ z:Option V,σ'=[some (.ref a),some (.int (aw (ns.take i):Nat)),z]/\H=H') ⟨none,rfl,rfl⟩ (fun i σ' H' _ ⟨z,_,e⟩=>by rw [<- e];exact hS) ?_ ?_⟩
  ·rintro i y σ' H' hi ⟨z,rfl,rfl⟩
   obtain ⟨n,en,rfl,_,_⟩:=gJ hi
   refine cO ⟨_,rfl,_,rfl,_,rfl,_,_,rfl,by omega,by split<;>omega,?_⟩
   have e3:ns.take (i+1)=ns.take i++[n]:=by rw [List.take_add_one,en];rfl
   refine ⟨some (.int n),?_,rfl⟩
   have e4:(if n<0 then -n else n).natAbs=n.natAbs:=by split<;>omega
   rw [e3,zq,Int.natAbs_natCast,e4]
   rfl
  ·rintro σ' H' ⟨z,rfl,rfl⟩
   rw [List.length_map,List.take_length]
   dsimp only
   obtain ⟨gp,ep⟩:=kE hT hne hp
   refine bz ⟨_,rfl,_,rfl,a,_,_,_,rfl,rfl,hS,kX hne,_,_,rfl,rfl,_,rfl,aL (fun z=>absurd (show ao ns<0 from z) (by omega)) (fun _=>?_)⟩
   have bg:Bits 9000 (aw ns:Int):=by
    obtain ⟨x,hx,hx0⟩:∃ x∈ns,x≠0:=by
     obtain ⟨r,x,e⟩:=(cK ns).resolve_left hne
     refine ⟨x,by rw [e];simp,fun z=>?_⟩
     rw [e,dk,z] at hp;exact absurd hp (by decide)
    have hd:=iC hx
    exact ((hb x hx).mono (show 8000<=9000 by decide)).of_le (Nat.le_of_dvd (by omega) (Int.natAbs_dvd_natAbs.mpr hd))
   refine aU ⟨_,rfl,a,rfl,⟨_,hS⟩,iV (K:=K) (a:=a) (xs:=ns.map V.int) (fun i ys σ' H'=>∃ z0:Option V,σ'=[z0,some (.int (aw ns:Nat))]/\ys=((ns.take i).map fun x=>x/(aw ns:Int)).map V.int/\H=H') (by rw [List.length_map];omega) ⟨none,rfl,rfl,rfl⟩ ?_ ?_ ?_⟩
   ·rintro i ys σ' H' _ ⟨z0,rfl,rfl,rfl⟩
    exact ⟨hS,by rw [List.length_map,List.length_map,List.length_take];exact Nat.min_le_left _ _⟩
   ·rintro i x ys σ' H' hi ⟨z0,rfl,rfl,rfl⟩
    obtain ⟨c,ec,rfl,hc,_⟩:=gJ hi
    refine ⟨_,rfl,_,rfl,_,_,rfl,rfl,⟨gp,bg⟩,?_⟩
    refine ⟨_,rfl,?_,rfl⟩
    rw [List.take_add_one,ec]
    simp only [Option.toList_some,List.map_append,List.map_cons,List.map_nil]
   ·rintro ys σ' H' q ⟨z0,rfl,rfl,rfl⟩ hq
    refine k q _ (Same.upd_new hq) hq ?_
    rw [au,List.length_map,List.take_length,ep]
    rfl
theorem vt {a b c:Int} (h:c≠0):Tr [a,b,c]:=(tr_snoc (r:=[a,b])).mpr h
theorem vw {a b:Int} (h:b≠0):Tr [a,b]:=(tr_snoc (r:=[a])).mpr h
def cN (u v w d:Int):List Int:=if v=0 then aC [-u,w] else aC [u*u-d*v*v,-2*u*w,w*w]
def UpW (u v w d:Int):Int->Int->Prop:=fun x1 x2=>0<sgq (u*x2-x1*w) (v*x2) d
def cj (u v d m:Int):Int:=if 0<v then u else if v<0 then u+v*d-m else u-1-m
def cE (u v d m:Int):Int:=if 0<v then u+v*d+m else if v<0 then u else u+m/3
structure SpE (u v w d m l1 l2 h1 h2:Int):Prop where
 l2p:0<l2
 h2p:0<h2
 bl1:Bits 40 l1
 bl2:Bits 40 l2
 bh1:Bits 40 h1
 bh2:Bits 40 h2
 gl:Nat.gcd l1.natAbs l2.natAbs=1
 gh:Nat.gcd h1.natAbs h2.natAbs=1
 el:l1*w=cj u v d m*l2
 eh:h1*w=cE u v d m*h2
theorem vQ {v d m:Int} (hv:0<v) (hd:2<=d) (hm:0<=m):d*v*v<(v*d+m)*(v*d+m):=by
 have h1:0<v*v:=Int.mul_pos hv hv
 have h2:d*(v*v)<d*(d*(v*v)):=by
  have:1*(d*(v*v))<d*(d*(v*v)):=Int.mul_lt_mul_of_pos_right (by omega) (Int.mul_pos (by omega) h1)
  omega
 have h3:0<=v*d:=Int.mul_nonneg (by omega) (by omega)
 have h4:v*d*(v*d)<=(v*d+m)*(v*d+m):=by
  have:=Int.mul_nonneg h3 hm
  have:=Int.mul_nonneg hm hm
  have e:(v*d+m)*(v*d+m)=v*d*(v*d)+(v*d*m)+(v*d*m)+m*m:=by grind
  omega
 have e1:d*v*v=d*(v*v):=by grind
 have e2:v*d*(v*d)=d*(d*(v*v)):=by grind
 omega
theorem oz {u v w d m l1 l2 h1 h2:Int} (hW:WOk u v w d) (hm0:0<=m) (hm:m<60) (hE:SpE u v w d m l1 l2 h1 h2):EndsG 40 l1 l2 h1 h2/\(0<v->u*l2<=l1*w)/\(v<0->h1*w<=u*h2)/\UpW u v w d l1 l2/\¬ UpW u v w d h1 h2:=by
 have hw:=hW.w1
 have hd2:=hW.d2
 obtain ⟨l2p,h2p,bl1,bl2,bh1,bh2,gl,gh,el,eh⟩:=hE
 have Al:u*l2-l1*w=(u-cj u v d m)*l2:=by rw [el];grind
 have Ah:u*h2-h1*w=(u-cE u v d m)*h2:=by rw [eh];grind
 have lo_sg:sgq (u*l2-l1*w) (v*l2) d=sgq (u-cj u v d m) v d:=by
  rw [Al,Int.mul_comm _ l2,Int.mul_comm v l2,w9 l2p]
 have hi_sg:sgq (u*h2-h1*w) (v*h2) d=sgq (u-cE u v d m) v d:=by
  rw [Ah,Int.mul_comm _ h2,Int.mul_comm v h2,w9 h2p]
 have lt_N:cj u v d m<cE u v d m:=by
  unfold cj cE
  rcases Int.lt_trichotomy v 0 with z | z | z
  ·rw [if_neg (show ¬ 0<v by omega),if_pos z,if_neg (show ¬ 0<v by omega),if_pos z]
   have:v*d<0:=Int.mul_neg_of_neg_of_pos z (by omega)
   omega
  ·subst z
   rw [if_neg (by decide),if_neg (by decide),if_neg (by decide),if_neg (by decide)]
   omega
  ·rw [if_pos z,if_pos z]
   have:0<v*d:=Int.mul_pos z (by omega)
   omega
 have lt:l1*h2<h1*l2:=by
  refine gk hw ?_
  have e1:l1*h2*w=cj u v d m*(l2*h2):=by rw [show l1*h2*w=l1*w*h2 by grind,el];grind
  have e2:h1*l2*w=cE u v d m*(l2*h2):=by rw [show h1*l2*w=h1*w*l2 by grind,eh];grind
  rw [e1,e2]
  exact Int.mul_lt_mul_of_pos_right lt_N (Int.mul_pos l2p h2p)
 have en:EndsG 40 l1 l2 h1 h2:=⟨l2p,h2p,bl1,bl2,bh1,bh2,lt,gl,gh⟩
 refine ⟨en,fun hv=>?_,fun hv=>?_,?_⟩
 ·have:cj u v d m=u:=by unfold cj;rw [if_pos hv]
  rw [el,this];exact Int.le_refl _
 ·have:cE u v d m=u:=by unfold cE;rw [if_neg (by omega),if_pos hv]
  rw [eh,this];exact Int.le_refl _
 rcases Int.lt_trichotomy v 0 with vn | vn | vn
 ·have eL:cj u v d m=u+v*d-m:=by unfold cj;rw [if_neg (by omega),if_pos vn]
  have eH:cE u v d m=u:=by unfold cE;rw [if_neg (by omega),if_pos vn]
  have nv:0 < -v:=by omega
  have vd:v*d<0:=Int.mul_neg_of_neg_of_pos vn (by omega)
  have sqm:=vQ nv hd2 hm0
  have lo1:sgq (u-cj u v d m) v d=1:=by
   rw [eL,mO (by omega) vn]
   have q1:(u-(u+v*d-m))*(u-(u+v*d-m))=(-v*d+m)*(-v*d+m):=by grind
   have q2:d * -v * -v=d*v*v:=by grind
   rw [q2] at sqm
   rw [q1,if_neg (by omega)]
  have hi1:sgq (u-cE u v d m) v d = -1:=by rw [eH,Int.sub_self];exact hI (Int.le_refl _) (by omega) (.inr vn)
  exact ⟨by show 0<sgq _ _ _;rw [lo_sg,lo1];decide,by show ¬ 0<sgq _ _ _;rw [hi_sg,hi1];decide⟩
 ·subst vn
  have eL:cj u 0 d m=u-1-m:=by unfold cj;rw [if_neg (by decide),if_neg (by decide)]
  have eH:cE u 0 d m=u+m/3:=by unfold cE;rw [if_neg (by decide),if_neg (by decide)]
  refine ⟨?_,?_⟩
  ·show 0<sgq _ _ _
   rw [lo_sg,eL,g9 (by omega) (Int.le_refl _) (.inl (by omega))];decide
  ·show ¬ 0<sgq _ _ _
   rw [hi_sg,eH]
   rcases Int.lt_or_eq_of_le (show u-(u+m/3)<=0 by omega) with z | z
   ·rw [hI (by omega) (Int.le_refl _) (.inl z)];decide
   ·rw [z,o5];decide
 ·have eL:cj u v d m=u:=by unfold cj;rw [if_pos vn]
  have eH:cE u v d m=u+v*d+m:=by unfold cE;rw [if_pos vn]
  have vd:0<v*d:=Int.mul_pos vn (by omega)
  have sqm:=vQ vn hd2 hm0
  have lo1:sgq (u-cj u v d m) v d=1:=by rw [eL,Int.sub_self];exact g9 (Int.le_refl _) (by omega) (.inr vn)
  have hi1:sgq (u-cE u v d m) v d = -1:=by
   rw [eH,mP (by omega) vn]
   have q1:(u-(u+v*d+m))*(u-(u+v*d+m))=(v*d+m)*(v*d+m):=by grind
   rw [q1,if_pos (by omega)]
  exact ⟨by show 0<sgq _ _ _;rw [lo_sg,lo1];decide,by show ¬ 0<sgq _ _ _;rw [hi_sg,hi1];decide⟩
def oU:Sp:=fun vs H Q _=>∃ (p:Addr) (u v w d:Int),vs=[.ref p]/\WT H p u v w d/\WOk u v w d/\mkL H Q (cN u v w d)
theorem Fb {f:Addr} {fd:FuncData} (F:Fun K "_law_least" "_law_least" qE f fd) (T:Txt K mg) {JJ:Addr} {IS:FuncData} (Mw:Cal P w K mg base 2 "_law_plain" ["_law_row"] wm JJ IS):FnOk P w K mg base CX0 3 f fd ["_law_worth_here"] oU:=by
 obtain ⟨AX,yP,y7,AG⟩:=Mw
 refine F.ok sc__law_least (fun vs H Q E h=>?_) (fun cdv A outer s H vs Q E hr h=>?_)
 ·obtain ⟨p,u,v,w,d,rfl,_⟩:=h
  rfl
 ·obtain ⟨p,u,v,w,d,rfl,hp,hW,k⟩:=h
  have hw:=hW.w1
  refine ⟨_,(ah (fQ (pv 0) (ik rfl (cC (aW (i:=1) sc__law_least.nd rfl (Or.inl rfl)) (cC (aW (i:=2) sc__law_least.nd rfl (Or.inl rfl)) (cC (aW (i:=3) sc__law_least.nd rfl (Or.inl rfl)) (cC (aW (i:=4) sc__law_least.nd rfl (Or.inl rfl)) ij))))))
   (ah (aQ (aH cI (pv 2) ad (aE _))
     (al (aB (aq AX (hr.mono) rfl yP y7 AG .nil aj (aa (aZ (aa (bQ bM (pv 1)) (aa (pv 3) ac))) ac))))
     aR)
   (al (aB (aq AX (hr.mono) rfl yP y7 AG .nil aj (aa (aZ (aa (ai b7 (ai aI (pv 1) (pv 1)) (ai aI (ai aI (pv 4) (pv 2)) (pv 2))) (aa (ai aI (ai aI (bQ bM ad) (pv 1)) (pv 3)) (aa (ai aI (pv 3) (pv 3)) ac)))) ac)))))),?_⟩
  refine ⟨_,rfl,p,_,rfl,SqT.of hp,rfl,_,_,rfl,_,_,rfl,_,_,rfl,_,_,rfl,rfl,?_⟩
  dsimp only
  refine gD (fun σ' H'=>σ'=[some (.ref p),some (.int u),some (.int v),some (.int w),some (.int d)]/\H=H') ⟨rfl,rfl⟩ ?_
  rintro σ' H' ⟨rfl,rfl⟩
  refine bz ⟨_,rfl,_,_,rfl,rfl,_,rfl,aL (fun h0=>?_) (fun h0=>?_)⟩
  ·have h0':v=0:=h0
   refine aU ⟨_,rfl,_,rfl,_,rfl,by show 2<=sizeLine;decide,fun q hq=>?_⟩
   have s1:Same H (upd H q (.lst [V.int (-u),V.int w])):=Same.upd_new hq
   refine ⟨q,[-u,w],rfl,au,vw (by omega),by simp,hw,by show 2<=100;decide,fun x hx=>?_,fun y H' s' hy e=>?_⟩
   ·simp only [List.mem_cons,List.not_mem_nil,or_false] at hx
    rcases hx with rfl | rfl
    ·exact hW.bu.neg.mono
    ·exact hW.bw.mono
   ·refine k y H' (s1.trans s') (s1.free hy) ?_
    unfold cN
    rw [if_pos h0'];exact e
  ·have h0':¬ v=0:=h0
   have b2:Bits 1000000 (-2:Int):=Bits.mono (j:=2) (by show (-2:Int).natAbs<2^2;decide) (by decide)
   have bdv:Bits 30 (d*v):=(hW.bd.mul hW.bv).mono
   have b2u:Bits 30 (-2*u):=by
    have:Bits 2 (-2:Int):=by show (-2:Int).natAbs<2^2;decide
    exact (this.mul hW.bu).mono
   have ww:0<w*w:=Int.mul_pos hw hw
   refine aU ⟨_,rfl,_,rfl,_,_,rfl,rfl,⟨hW.bu.mono,hW.bu.mono⟩,_,rfl,_,rfl,_,_,rfl,rfl,⟨hW.bd.mono,hW.bv.mono⟩,_,rfl,_,_,rfl,rfl,⟨bdv.mono,hW.bv.mono⟩,_,_,rfl,rfl,?_⟩
   refine ⟨_,rfl,_,rfl,_,_,rfl,rfl,⟨b2,hW.bu.mono⟩,_,rfl,_,_,rfl,rfl,⟨b2u.mono,hW.bw.mono⟩,?_⟩
   refine ⟨_,rfl,_,rfl,_,_,rfl,rfl,⟨hW.bw.mono,hW.bw.mono⟩,by show 3<=sizeLine;decide,fun q hq=>?_⟩
   have s1:Same H (upd H q (.lst [V.int (u*u-d*v*v),V.int (-2*u*w),V.int (w*w)])):=Same.upd_new hq
   refine ⟨q,[u*u-d*v*v,-2*u*w,w*w],rfl,au,vt (by omega),by simp,ww,by show 3<=100;decide,fun x hx=>?_,fun y H' s' hy e=>?_⟩
   ·simp only [List.mem_cons,List.not_mem_nil,or_false] at hx
    rcases hx with rfl | rfl | rfl
    ·exact Bits.mono (Bits.sub (k:=60) ((hW.bu.mul hW.bu).mono) ((bdv.mul hW.bv).mono)) (by decide)
    ·exact (b2u.mul hW.bw).mono
    ·exact (hW.bw.mul hW.bw).mono
   ·refine k y H' (s1.trans s') (s1.free hy) ?_
    unfold cN
    rw [if_neg h0'];exact e
theorem gI {x m:Int} (h:0<m):0<=x%m/\x%m<m:=⟨Int.emod_nonneg _ (Int.ne_of_gt h),Int.emod_lt_of_pos _ h⟩
theorem dQ {k:Int} (h0:0<=k) (h:k<2^12):Bits 9000 k:=Bits.mono (j:=12) (by show k.natAbs<2^12;omega) (by decide)
def wK:Sp:=fun vs H Q _=>∃ c:Int,vs=[.int c]/\∀ z:Int,Bits 21 z->Q (.int z) H
theorem Fe {f:Addr} {fd:FuncData} (F:Fun K "_law_amount" "_law_amount" qH f fd) (T:Txt K mg):FnOk P w K mg base CX0 1 f fd ["_law_cell"] wK:=by
 refine F.ok CJ (fun vs H Q E h=>?_) (fun cdv A outer s H vs Q E hr h=>?_)
 ·obtain ⟨c,rfl,_⟩:=h
  rfl
 ·obtain ⟨c,rfl,k⟩:=h
  refine ⟨_,(ah (aQ (aH cI (ai cD (pv 0) ad) ad (aE _))
   (al (aB (ai b7 (ai cD (ai cQ (pv 0) ad) (ai bj (ai aI ad (ai jz ad ad)) ad)) (ai jz ad ad))))
   aR)
   (al (aB (ai b7 (ai cD (ai cQ (pv 0) ad) ad) ad)))),?_⟩
  refine bz ⟨_,rfl,_,_,rfl,rfl,(by show (0:Int)<4;decide),_,_,rfl,rfl,_,rfl,aL (fun _=>?_) (fun _=>?_)⟩
  ·have b6:Bits 1000000 ((10:Int)^6):=Bits.mono (j:=21) (by show ((10:Int)^6).natAbs<2^21;decide) (by decide)
   refine aU ⟨_,rfl,_,_,rfl,rfl,⟨by show (0:Int)<4;decide,dQ (by decide) (by decide)⟩,_,_,rfl,rfl,⟨by decide,by decide,by decide⟩,_,_,rfl,rfl,⟨fJ,b6⟩,_,_,rfl,rfl,_,_,rfl,rfl,(by show (0:Int)<2*10^6+1;decide),_,_,rfl,rfl,⟨by decide,by decide,by decide⟩,_,_,rfl,rfl,k _ ?_⟩
   obtain ⟨m0,m1⟩:=gI (x:=c/4) (m:=2*10^6+1) (by decide)
   show (c/4%(2*10^6+1)-10^6).natAbs<2^21
   omega
  ·refine aU ⟨_,rfl,_,_,rfl,rfl,⟨by show (0:Int)<4;decide,dQ (by decide) (by decide)⟩,_,_,rfl,rfl,(by show (0:Int)<21;decide),_,_,rfl,rfl,k _ ?_⟩
   obtain ⟨m0,m1⟩:=gI (x:=c/4) (m:=21) (by decide)
   show (c/4%21-10).natAbs<2^21
   omega
def vZ (K:PySem.W.Frag):Sp:=fun vs H Q _=>∃ (a:Addr) (ns:List Int),vs=[.ref a,.int 0]/\SqL K H a (ns.map V.int)/\∀ (p:Addr) (H':Hp) (u v w d:Int),Same H H'->H p=none->WT H' p u v w d->WOk u v w d->Q (.ref p) H'
theorem C4 {v:V} (h:v∈[V.int 2,V.int 3,V.int 5,V.int 6,V.int 7,V.int 10,V.int 11,V.int 13]):∃ d:Int,v=.int d/\2<=d/\d<=13/\NSq d:=by
 simp only [List.mem_cons,List.not_mem_nil,or_false] at h
 rcases h with rfl | rfl | rfl | rfl | rfl | rfl | rfl | rfl
 ·exact ⟨_,rfl,by decide,by decide,gF (n:=1) (d:=2) (by decide) (by decide)⟩
 ·exact ⟨_,rfl,by decide,by decide,gF (n:=1) (d:=3) (by decide) (by decide)⟩
 ·exact ⟨_,rfl,by decide,by decide,gF (n:=2) (d:=5) (by decide) (by decide)⟩
 ·exact ⟨_,rfl,by decide,by decide,gF (n:=2) (d:=6) (by decide) (by decide)⟩
 ·exact ⟨_,rfl,by decide,by decide,gF (n:=2) (d:=7) (by decide) (by decide)⟩
 ·exact ⟨_,rfl,by decide,by decide,gF (n:=3) (d:=10) (by decide) (by decide)⟩
 ·exact ⟨_,rfl,by decide,by decide,gF (n:=3) (d:=11) (by decide) (by decide)⟩
 ·exact ⟨_,rfl,by decide,by decide,gF (n:=3) (d:=13) (by decide) (by decide)⟩
theorem E3 {f:Addr} {fd:FuncData} (F:Fun K "_law_worth" "_law_worth" qw f fd) (T:Txt K mg) {JM:Addr} {IV:FuncData} (MA:Cal P w K mg base 1 "_law_amount" ["_law_cell"] wK JM IV) {tz:Addr} {sP:FuncData} (uW:Cal P w K mg base 1 "_law_cell_at" ["_law_script","_law_k"] (jp K) tz sP):FnOk P w K mg base CX0 2 f fd ["_law_script","_law_k"] (vZ K):=by
 obtain ⟨AY,yQ,y8,AH⟩:=MA
 obtain ⟨fH,fy,fz,fG⟩:=uW
 refine F.ok sc__law_worth (fun vs H Q E h=>?_) (fun cdv A outer s H vs Q E hr h=>?_)
 ·obtain ⟨a,ns,rfl,_⟩:=h
  rfl
 ·obtain ⟨a,ns,rfl,hS,k⟩:=h
  refine ⟨_,(ah (ap (i:=2) sc__law_worth.nd rfl (Or.inl rfl) (ai aI (aq AY (hr.mono) rfl yQ y8 AH .nil aj (aa (aq fH (hr.mono) rfl fy fz fG .nil aj (aa (pv 0) (aa (ai bj (pv 1) ad) ac))) ac)) (io ou (by rfl) T.int_ PyProof.Rows.boot_int (aa (fS dj (ai cD (aq fH (hr.mono) rfl fy fz fG .nil aj (aa (pv 0) (aa (ai bj (pv 1) ad) ac))) ad) ad (aE _)) ac))))
   (ah (ap (i:=3) sc__law_worth.nd rfl (Or.inl rfl) (aq fH (hr.mono) rfl fy fz fG .nil aj (aa (pv 0) (aa (ai bj (pv 1) ad) ac))))
   (al (aB (db (aa (aq AY (hr.mono) rfl yQ y8 AH .nil aj (aa (aq fH (hr.mono) rfl fy fz fG .nil aj (aa (pv 0) (aa (pv 1) ac))) ac)) (aa (pv 2) (aa (ai bj ad (ai cD (ai cQ (pv 3) ad) ad)) (aa (aG (ck (K:=K) rfl) (aZ (aa ad (aa ad (aa ad (aa ad (aa ad (aa ad (aa ad (aa ad ac))))))))) (ai cD (pv 3) ad) (fun _ _=>rfl)) ac))))))))),?_⟩
  refine aA ⟨_,rfl,_,rfl,_,_,rfl,rfl,a,ns,1,rfl,hS,_,rfl,fun z hz=>?_⟩
  have b1:Bits 1000000 (if decide (ns.getD 1 0%5>0)=true then (1:Int) else 0):=by split;exact rk;exact Bits.zero
  refine ⟨_,rfl,_,rfl,_,_,rfl,rfl,a,ns,1,rfl,hS,_,_,rfl,rfl,(by show (0:Int)<5;decide),_,_,rfl,rfl,.inr ⟨_,rfl,_,_,rfl,rfl,⟨hz.mono,b1⟩,?_⟩⟩
  have bv:Bits 21 (z*(if decide (ns.getD 1 0%5>0)=true then (1:Int) else 0)):=by
   split
   ·rw [Int.mul_one];exact hz
   ·rw [Int.mul_zero];exact Bits.zero
  show cW _ _ _ _ _
  generalize z*(if decide (ns.getD 1 0%5>0)=true then (1:Int) else 0)=v at bv
  refine gD (fun σ' H'=>∃ v:Int,σ'=[some (.ref a),some (.int 0),some (.int v),none]/\H=H'/\Bits 21 v) ⟨_,rfl,rfl,?_⟩ ?_
  ·split
   ·rw [Int.mul_one];exact hz
   ·rw [Int.mul_zero];exact Bits.zero
  rintro σ' H' ⟨v,rfl,rfl,bv⟩
  refine aA ⟨_,rfl,_,rfl,_,_,rfl,rfl,a,ns,2,rfl,hS,?_⟩
  refine aU ⟨_,rfl,_,rfl,a,ns,0,rfl,hS,_,rfl,fun u bu=>?_⟩
  refine ⟨_,rfl,_,rfl,_,_,rfl,rfl,⟨by show (0:Int)<8;decide,dQ (by decide) (by decide)⟩,_,_,rfl,rfl,(by show (0:Int)<12;decide),_,_,rfl,rfl,by show 8<=sizeLine;decide,fun p hp=>?_⟩
  obtain ⟨x,hx,ex⟩:=uo (xs:=[V.int 2,V.int 3,V.int 5,V.int 6,V.int 7,V.int 10,V.int 11,V.int 13]) (n:=8) rfl (by decide) (ns.getD 2 0)
  obtain ⟨d,rfl,hd2,hd13,hns⟩:=C4 hx
  have s1:Same H (upd H p (.lst [V.int 2,V.int 3,V.int 5,V.int 6,V.int 7,V.int 10,V.int 11,V.int 13])):=Same.upd_new hp
  refine ⟨_,rfl,_,_,rfl,rfl,(by show (0:Int)<8;decide),p,_,_,_,rfl,rfl,SqL.of au,ex,by show 4<=sizeLine;decide,fun q hq=>?_⟩
  obtain ⟨m0,m1⟩:=gI (x:=ns.getD 2 0/8) (m:=12) (by decide)
  exact k q _ u v _ d (s1.then_new hq) (s1.free hq) au ⟨bu,bv,by omega,by omega,hd2,hd13,hns⟩
def wb (C:Addr):Sp:=fun vs H Q _=>∃ (p:Addr) (u v w d m:Int),vs=[.ref p,.int m]/\WT H p u v w d/\WOk u v w d/\0<=m/\m<60/\∀ (t l h:Addr) (H':Hp) (l1 l2 h1 h2:Int),Same H H'->H t=none->H' t=some (.tup [.ref l,.ref h])->RA C H' l l1 l2->RA C H' h h1 h2->SpE u v w d m l1 l2 h1 h2->Q (.ref t) H'
theorem E6 {C f:Addr} {fd:FuncData} (F:Fun K "_law_span" "_law_span" qz f fd) (T:Txt K mg) (R:RCI K mg C) {f_Ratio:Addr} {fd_Ratio:FuncData} {ds_Ratio:List Value} (ci:KCal P w K mg base 2 C "Ratio" ["self","top","bottom"] (da C) f_Ratio fd_Ratio ds_Ratio [.int 1]):FnOk P w K mg base CX0 4 f fd ["_law_worth_here","_law_more"] (wb C):=by
 obtain ⟨bK,bJ,bH,b5,cV,cU⟩:=ci
 refine F.ok sc__law_span (fun vs H Q E h=>?_) (fun cdv A outer s H vs Q E hr h=>?_)
 ·obtain ⟨p,u,v,w,d,m,rfl,_⟩:=h
  rfl
 ·obtain ⟨p,u,v,w,d,m,rfl,hp,hW,hm0,hm,k⟩:=h
  have hw:=hW.w1
  have w0:w≠0:=by omega
  refine ⟨_,(ah (fQ (pv 0) (ik rfl (cC (aW (i:=2) sc__law_span.nd rfl (Or.inl rfl)) (cC (aW (i:=3) sc__law_span.nd rfl (Or.inl rfl)) (cC (aW (i:=4) sc__law_span.nd rfl (Or.inl rfl)) (cC (aW (i:=5) sc__law_span.nd rfl (Or.inl rfl)) ij))))))
   (ah (aQ (aH dj (pv 3) ad (aE _))
     (al (aB (db (aa (cc bJ bK (hr.mono) rfl bH b5 .nil aj (aa (pv 2) (aa (pv 4) ac))) (aa (cc bJ bK (hr.mono) rfl bH b5 .nil aj (aa (ai bj (ai bj (pv 2) (ai aI (pv 3) (pv 5))) (pv 1)) (aa (pv 4) ac))) ac)))))
     aR)
   (ah (aQ (aH c7 (pv 3) ad (aE _))
     (al (aB (db (aa (cc bJ bK (hr.mono) rfl bH b5 .nil aj (aa (ai b7 (ai bj (pv 2) (ai aI (pv 3) (pv 5))) (pv 1)) (aa (pv 4) ac))) (aa (cc bJ bK (hr.mono) rfl bH b5 .nil aj (aa (pv 2) (aa (pv 4) ac))) ac)))))
     aR)
   (al (aB (db (aa (cc bJ bK (hr.mono) rfl bH b5 .nil aj (aa (ai b7 (ai b7 (pv 2) ad) (pv 1)) (aa (pv 4) ac))) (aa (cc bJ bK (hr.mono) rfl bH b5 .nil aj (aa (ai bj (pv 2) (ai cQ (pv 1) ad)) (aa (pv 4) ac))) ac)))))))),?_⟩
  refine ⟨_,rfl,p,_,rfl,SqT.of hp,rfl,_,_,rfl,_,_,rfl,_,_,rfl,_,_,rfl,rfl,?_⟩
  dsimp only
  refine gD (fun σ' H'=>σ'=[some (.ref p),some (.int m),some (.int u),some (.int v),some (.int w),some (.int d)]/\H=H') ⟨rfl,rfl⟩ ?_
  rintro σ' H' ⟨rfl,rfl⟩
  have bw9:Bits 9000 w:=hW.bw.mono
  have bvd:Bits 30 (v*d):=(hW.bv.mul hW.bd).mono
  have bN:∀ x:Int,Bits 35 x->Bits 40 (rt x w)/\Bits 40 (rb x w):=fun x hx=>⟨(eG w0 hx).mono,(dY w0 hW.bw).mono⟩
  have fin:∀ (x y:Int),x=cj u v d m->y=cE u v d m->Bits 35 x->Bits 35 y->SpE u v w d m (rt x w) (rb x w) (rt y w) (rb y w):=fun x y ex ey bx by'=>⟨cY w0,cY w0,(bN x bx).1,(bN x bx).2,(bN y by').1,(bN y by').2,ku w0,ku w0,by rw [<- ex];exact eJ w0,by rw [<- ey];exact eJ w0⟩
  have b60:Bits 30 m:=by show m.natAbs<2^30;omega
  have bu30:Bits 30 u:=hW.bu.mono
  have bs1:Bits 35 (u+v*d+m):=Bits.mono (Bits.add (k:=31) (Bits.add bu30 bvd) (b60.mono)) (by decide)
  have bs2:Bits 35 (u+v*d-m):=Bits.mono (Bits.sub (k:=31) (Bits.add bu30 bvd) (b60.mono)) (by decide)
  have bs3:Bits 35 (u-1-m):=Bits.mono (Bits.sub (k:=31) (Bits.sub bu30 (b1k (by decide))) (b60.mono)) (by decide)
  have b3:Bits 30 (m/3):=by show (m/3).natAbs<2^30;omega
  have bs4:Bits 35 (u+m/3):=Bits.mono (Bits.add bu30 b3) (by decide)
  have bu35:Bits 35 u:=hW.bu.mono
  refine bz ⟨_,rfl,_,_,rfl,rfl,_,rfl,aL (fun h0=>?_) (fun h0=>?_)⟩
  ·have h0':0<v:=h0
   refine aU ⟨_,rfl,_,rfl,cM (t:=u) w0 bw9 fun l H1 s1 hl hRl=>?_⟩
   refine ⟨_,rfl,_,rfl,_,rfl,_,_,rfl,rfl,⟨hW.bv.mono,hW.bd.mono⟩,_,_,rfl,rfl,_,rfl,_,_,rfl,rfl,_,rfl,cM (t:=u+v*d+m) w0 bw9 fun h H2 s2 hh hRh=>?_⟩
   refine ⟨by show 2<=sizeLine;decide,fun q hq=>?_⟩
   have sq:=Same.upd_new (o:=.tup [V.ref l,V.ref h]) hq
   have t2:=s1.trans s2
   exact k q l h _ _ _ _ _ (t2.then_new hq) (t2.free hq) au ((hRl.same s2).same sq) (hRh.same sq) (fin _ _ (by unfold cj;rw [if_pos h0']) (by unfold cE;rw [if_pos h0']) bu35 bs1)
  have h0':¬ 0<v:=h0
  refine bz ⟨_,rfl,_,_,rfl,rfl,_,rfl,aL (fun h1=>?_) (fun h1=>?_)⟩
  ·have h1':v<0:=h1
   refine aU ⟨_,rfl,_,rfl,_,rfl,_,_,rfl,rfl,⟨hW.bv.mono,hW.bd.mono⟩,_,_,rfl,rfl,_,rfl,_,_,rfl,rfl,_,rfl,cM (t:=u+v*d-m) w0 bw9 fun l H1 s1 hl hRl=>?_⟩
   refine ⟨_,rfl,_,rfl,cM (t:=u) w0 bw9 fun h H2 s2 hh hRh=>?_⟩
   refine ⟨by show 2<=sizeLine;decide,fun q hq=>?_⟩
   have sq:=Same.upd_new (o:=.tup [V.ref l,V.ref h]) hq
   have t2:=s1.trans s2
   exact k q l h _ _ _ _ _ (t2.then_new hq) (t2.free hq) au ((hRl.same s2).same sq) (hRh.same sq) (fin _ _ (by unfold cj;rw [if_neg h0',if_pos h1']) (by unfold cE;rw [if_neg h0',if_pos h1']) bs2 bu35)
  have h1':¬ v<0:=h1
  refine aU ⟨_,rfl,_,_,rfl,rfl,_,rfl,_,_,rfl,rfl,_,rfl,cM (t:=u-1-m) w0 bw9 fun l H1 s1 hl hRl=>?_⟩
  refine ⟨_,rfl,_,rfl,_,_,rfl,rfl,⟨by show (0:Int)<3;decide,dQ (by decide) (by decide)⟩,_,_,rfl,rfl,_,rfl,cM (t:=u+m/3) w0 bw9 fun h H2 s2 hh hRh=>?_⟩
  refine ⟨by show 2<=sizeLine;decide,fun q hq=>?_⟩
  have sq:=Same.upd_new (o:=.tup [V.ref l,V.ref h]) hq
  have t2:=s1.trans s2
  exact k q l h _ _ _ _ _ (t2.then_new hq) (t2.free hq) au ((hRl.same s2).same sq) (hRh.same sq) (fin _ _ (by unfold cj;rw [if_neg h0',if_neg h1']) (by unfold cE;rw [if_neg h0',if_neg h1']) bs3 bs4)
def v4:Sp:=fun vs H Q _=>∃ (a b:Addr) (xs ys:List Int),vs=[.ref a,.ref b]/\H a=some (.lst (xs.map V.int))/\H b=some (.lst (ys.map V.int))/\xs≠[]/\ys≠[]/\xs.length<=1000/\ys.length<=1000/\AllB 1000000 xs/\AllB 1000000 ys/\mkL H Q (af xs ys)
theorem E5 {f:Addr} {fd:FuncData} (F:Fun K "_law_times" "_law_times" qy f fd) (T:Txt K mg):FnOk P w K mg base CX0 1 f fd ["_law_one","_law_other"] v4:=by
 refine F.ok sc__law_times (fun vs H Q E h=>?_) (fun cdv A outer s H vs Q E hr h=>?_)
 ·obtain ⟨a,b,xs,ys,rfl,_⟩:=h
  rfl
 ·obtain ⟨a,b,xs,ys,rfl,hA,hB,hx0,hy0,hx,hy,bx,by',k⟩:=h
  have big:=sizeLine_eq
  refine ⟨_,(ah (ap (i:=2) sc__law_times.nd rfl (Or.inl rfl) (ai rh (aZ (aa ad ac)) (ai b7 (ai bj (bT (df (K:=K) rfl) (by rfl) T.len_ PySem.boot_len (aa (pv 0) ac)) (bT (df (K:=K) rfl) (by rfl) T.len_ PySem.boot_len (aa (pv 1) ac))) ad)))
   (ah (cZ PassesOwn.never rfl (jy rfl T.range_ (aa (bT (df (K:=K) rfl) (by rfl) T.len_ PySem.boot_len (aa (pv 0) ac)) ac)) (aW (i:=3) sc__law_times.nd rfl (Or.inl rfl))
     (al (cZ PassesOwn.never rfl (jy rfl T.range_ (aa (bT (df (K:=K) rfl) (by rfl) T.len_ PySem.boot_len (aa (pv 1) ac)) ac)) (aW (i:=4) sc__law_times.nd rfl (Or.inl rfl))
       (al (fQ (ai bj (aG (ck (K:=K) rfl) (pv 2) (ai bj (pv 3) (pv 4)) (fun _ _=>rfl)) (ai aI (aG (ck (K:=K) rfl) (pv 0) (pv 3) (fun _ _=>rfl)) (aG (ck (K:=K) rfl) (pv 1) (pv 4) (fun _ _=>rfl)))) (kG (pv 2) (ai bj (pv 3) (pv 4)) kn))))))
   (al (aB (pv 2))))),?_⟩
  have hlx:(xs.map V.int).length=xs.length:=List.length_map _
  have hly:(ys.map V.int).length=ys.length:=List.length_map _
  obtain ⟨la,ea⟩:∃ la,xs.length=la+1:=⟨xs.length-1,by have:=List.length_pos_iff.mpr hx0;omega⟩
  obtain ⟨lb,eb⟩:∃ lb,ys.length=lb+1:=⟨ys.length-1,by have:=List.length_pos_iff.mpr hy0;omega⟩
  have en:((xs.map V.int).length:Int)+((ys.map V.int).length:Int)-1=((la+lb+1:Nat):Int):=by rw [hlx,hly];omega
  refine aA ⟨by show 1<=sizeLine;omega,fun p2 hp2=>?_⟩
  have s0:=Same.upd_new (o:=.lst [V.int 0]) hp2
  refine ⟨_,rfl,a,_,rfl,.inl (SqL.of (s0 _ _ hA)),_,rfl,b,_,rfl,.inl (SqL.of (s0 _ _ hB)),_,_,rfl,rfl,_,_,rfl,rfl,?_⟩
  dsimp only
  rw [en]
  refine ⟨p2,_,_,rfl,rfl,au,by omega,by omega,by show 1*_<=_;omega,fun p hp=>?_⟩
  rw [show ((la+lb+1:Nat):Int).toNat=la+lb+1 from rfl,qQ]
  have s4:=s0.then_new (o:=.lst ((List.replicate (la+lb+1) (0:Int)).map V.int)) hp
  have hp0:=s0.free hp
  have npa:a≠p:=aX hA hp0
  have npb:b≠p:=aX hB hp0
  have hp4:upd (upd H p2 (.lst [V.int 0])) p (.lst ((List.replicate (la+lb+1) (0:Int)).map V.int)) p=some (.lst ((List.replicate (la+lb+1) (0:Int)).map V.int)):=au
  generalize upd (upd H p2 (.lst [V.int 0])) p (.lst ((List.replicate (la+lb+1) (0:Int)).map V.int))=H4 at s4 hp4 ⊢
  refine ⟨_,rfl,a,_,rfl,.inl (SqL.of (s4 _ _ hA)),_,rfl,by rw [hlx];omega,by rw [hlx];omega,?_⟩
  rw [hlx]
  refine n5 (lo:=0) (n:=xs.length) (fun j σ' H'=>∃ (acc:List Int) (z3 z4:Option V),σ'=[some (.ref a),some (.ref b),some (.ref p),z3,z4]/\SameB p H4 H'/\H' p=some (.lst (acc.map V.int))/\acc.length=la+lb+1/\∀ n,n<acc.length->cf acc n=sm xs ys n j)
   ⟨List.replicate (la+lb+1) 0,none,none,rfl,SameB.refl _ _,hp4,by simp,fun n _=>by rw [lC];rfl⟩ ?_ ?_
  ·rintro j σ' H' hjl ⟨acc,z3,z4,rfl,sb,hpa,hal,hac⟩
   have hA':=sb _ _ npa (s4 _ _ hA)
   have hB':=sb _ _ npb (s4 _ _ hB)
   refine ⟨_,rfl,b,_,rfl,.inl (SqL.of hB'),_,rfl,by rw [hly];omega,by rw [hly];omega,?_⟩
   rw [hly]
   refine n5 (lo:=0) (n:=ys.length) (fun i σ' H'=>∃ (acc:List Int) (z4:Option V),σ'=[some (.ref a),some (.ref b),some (.ref p),some (.int (0+(j:Int))),z4]/\SameB p H4 H'/\H' p=some (.lst (acc.map V.int))/\acc.length=la+lb+1/\∀ n,n<acc.length->cf acc n=sm xs ys n j+(if j<=n/\n-j<i then tm xs ys n j else 0))
    ⟨acc,z4,rfl,sb,hpa,hal,yA hac⟩ ?_ ?_
   ·rintro i σ' H' hil ⟨acc,z4,rfl,sb,hpa,hal,hac⟩
    have hA':=sb _ _ npa (s4 _ _ hA)
    have hB':=sb _ _ npb (s4 _ _ hB)
    have hji:j+i<acc.length:=by omega
    have eji:(0+((j:Nat):Int))+(0+((i:Nat):Int))=((j+i:Nat):Int):=by omega
    have e0:∀ x:Nat,(0:Int)+((x:Nat):Int)=((x:Nat):Int):=fun x=>by omega
    refine ⟨_,rfl,_,rfl,_,rfl,_,_,rfl,rfl,p,_,_,_,rfl,rfl,SqL.of hpa,jT eji hji,_,rfl,_,rfl,a,_,_,_,rfl,rfl,SqL.of hA',jT (e0 j) hjl,_,rfl,_,rfl,b,_,_,_,rfl,rfl,SqL.of hB',jT (e0 i) hil,_,_,rfl,rfl,⟨bx.cf j,by'.cf i⟩,_,_,rfl,rfl,_,rfl,_,rfl,_,rfl,_,_,rfl,rfl,p,_,_,j+i,rfl,rfl,hpa,lc eji (by rw [List.length_map];exact hji),?_⟩
    exact ⟨acc.set (j+i) (cf acc (j+i)+cf xs j*cf ys i),_,rfl,sb.then_upd,by rw [au,nJ],by rw [List.length_set];exact hal,yz hjl hil hji hac⟩
   ·rintro σ' H' ⟨acc,z4,rfl,sb,hpa,hal,hac⟩
    exact ⟨acc,_,_,rfl,sb,hpa,hal,yC hac⟩
  ·rintro σ' H' ⟨acc,z3,z4,rfl,sb,hpa,hal,hac⟩
   refine ⟨_,rfl,k p H' (fun b' o e=>sb b' o (aX e hp0) (s4 b' o e)) hp0 ?_⟩
   rw [hpa]
   have e:acc=af xs ys:=by
    apply dL
    ·rw [hal];unfold af;rw [if_neg (by intro z;exact z.elim hx0 hy0),List.length_map,List.length_range];omega
    ·intro n _
     rw [aM,yD (by omega) hac]
   rw [e]
theorem rV {u v w d:Int} (hd:0<d):cN u v w d=ag [u,d*v*v,w]:=by
 unfold cN
 show _=aC (aK u (d*v*v) w)
 unfold aK
 by_cases hv:v=0
 ·subst hv
  rw [if_pos rfl,if_pos (by omega)]
 ·have he:d*v*v≠0:=Int.mul_ne_zero (Int.mul_ne_zero (by omega) hv) hv
  rw [if_neg hv,if_neg he]
  have : -2*u*w = -2*w*u:=by grind
  rw [this]
theorem kB (a:List (List Int)):∀ b:List (List Int),prd (b++a)=af (prd b) (prd a)
 | []=>by show prd a=af [1] (prd a);rw [kL]
 | s::b=>by
   show af s (prd (b++a))=af (af s (prd b)) (prd a)
   rw [kB a b,gH]
def usP (s:List Int) (m:Nat) (rs:List (List Int)):List (List Int×Nat):=(s,m)::rs.map fun f=>(ag f,1)
theorem mj (g:Nat->Nat) (hg:g 1=1):∀ rs:List (List Int),fP g (rs.map fun f=>(ag f,1))=prd (rs.map ag)
 | []=>rfl
 | f::rs=>by
   show af (pw (ag f) (g 1)) (fP g (rs.map fun f=>(ag f,1)))=af (ag f) (prd (rs.map ag))
   rw [mj g hg rs,hg,fN]
theorem vj:∀ rs:List (List Int),fP (·-1) (rs.map fun f=>(ag f,1))=[1]
 | []=>rfl
 | f::rs=>by
   show af (pw (ag f) 0) (fP (·-1) (rs.map fun f=>(ag f,1)))=[1]
   rw [vj rs]
   show af [1] [1]=[1]
   rfl
structure Pad (u v w d l1 l2:Int) (m:Nat) (A B D:List (List Int)) (c:Int):Prop where
 m:m=1\/m=2
 a:A=[]\/A=[[l1,0,l2]]
 b:B=[]\/∃ far:Int,(u.natAbs:Int)+(v.natAbs:Int)*d+100<=far/\far<=100000000/\(B=[[-far,0,1]]\/B=[[far,0,1]])
 d:D=[]\/∃ k:Int,1<=k/\k<=7/\D=[[0,-k,1]]
 c0:c≠0
 bc:Bits 10 c
theorem nM {t b:Int} (hb:0<b) (hg:Nat.gcd t.natAbs b.natAbs=1):ag [t,0,b]=[-t,b]:=by
 have hr:aK t 0 b=[-t,b]:=by unfold aK;rw [if_pos rfl]
 show aC (aK t 0 b)=_
 rw [hr]
 refine Pln.plain ⟨vw (by omega),by simp,?_,hb⟩
 show aw [-t,b]=1
 unfold aw
 rw [gK,gK,nZ,Nat.gcd_zero_left,Int.natAbs_neg];exact hg
theorem jD (t:Int):ag [t,0,1]=[-t,1]:=nM (by decide) (Nat.gcd_one_right _)
theorem rq {k:Int} (hk:1<=k):ag [0,-k,1]=[k,0,1]:=by
 have hr:aK 0 (-k) 1=[k,0,1]:=by unfold aK;rw [if_neg (by omega)];simp
 show aC (aK 0 (-k) 1)=_
 rw [hr]
 refine Pln.plain ⟨vt (by decide),by simp,?_,(by decide:(0:Int)<1)⟩
 show aw [k,0,1]=1
 unfold aw
 rw [gK,gK,gK,nZ]
 exact Nat.gcd_one_right _
theorem yS {u b u' b':Int} (hb:1<=b) (hb':1<=b') (h:u*b'≠u'*b):ag [u,0,b]≠ag [u',0,b']:=fun z=>by
 obtain ⟨g,A0,A1,hg,eS,e0,e1,_,_⟩:=mN (u:=u) hb
 obtain ⟨g',A0',A1',hg',eS',e0',e1',_,_⟩:=mN (u:=u') hb'
 rw [eS,eS'] at z
 simp at z
 obtain ⟨rfl,rfl⟩:=z
 apply h
 have q:u=g * -A0:=by grind
 have q':u'=g' * -A0:=by grind
 rw [q,q',e1,e1'];grind
theorem sU {t b:Int} (h1:t.natAbs<=1000000000) (h2:1<=b) (h3:b<=1000):FacG [t,0,b]:=⟨t,0,b,rfl,by omega,by omega,by decide,by decide,h2,h3,.inl (Int.le_refl _)⟩
theorem IY {k:Int} (h1:1<=k) (h2:k<=7):FacG [0,-k,1]:=⟨0,-k,1,rfl,by decide,by decide,by omega,by omega,by decide,by decide,.inl (by omega)⟩
theorem jW {k:Nat} {x:Int} (h:Bits k x):x.natAbs<2^k:=h
theorem jN {u v w d:Int} (hW:WOk u v w d):FacG [u,d*v*v,w]:=by
 have h1:=jW hW.bu
 have h2:=jW hW.bv
 have e1:(2:Nat)^21=2097152:=rfl
 have hvv:(v*v).natAbs<=2097152*2097152:=by rw [Int.natAbs_mul];exact Nat.mul_le_mul (by omega) (by omega)
 have hd:(d*(v*v)).natAbs<=13*(2097152*2097152):=by rw [Int.natAbs_mul];exact Nat.mul_le_mul (by have:=hW.d2;have:=hW.d13;omega) hvv
 have e2:d*v*v=d*(v*v):=Int.mul_assoc _ _ _
 have hn:=yg hW.ns v
 rw [e2] at hn ⊢
 exact ⟨u,d*(v*v),w,rfl,by omega,by omega,by omega,by omega,by have:=hW.w1;omega,by have:=hW.w12;omega,hn⟩
theorem GC {u v w d m l1 l2 h1 h2:Int} (hW:WOk u v w d) (hm0:0<=m) (hm:m<60) (hE:SpE u v w d m l1 l2 h1 h2):l2<=12/\(l1.natAbs:Int)<=(u.natAbs:Int)+(v.natAbs:Int)*d+61/\(h1.natAbs:Int)<=((u.natAbs:Int)+(v.natAbs:Int)*d+61)/\(u.natAbs:Int)+(v.natAbs:Int)*d<=90000000:=by
 have hw:=hW.w1
 have hw12:=hW.w12
 have h1':=jW hW.bu
 have h2':=jW hW.bv
 have e1:(2:Nat)^21=2097152:=rfl
 have hvd:(v.natAbs:Int)*d<=2097152*13:=Int.mul_le_mul (by omega) hW.d13 (by have:=hW.d2;omega) (by decide)
 have nvd:0<=(v.natAbs:Int)*d:=Int.mul_nonneg (by omega) (by have:=hW.d2;omega)
 have red:∀ {t b N:Int},0<b->Nat.gcd t.natAbs b.natAbs=1->t*w=N*b->b<=w/\t.natAbs<=N.natAbs:=fun {t b N} hb hg e=>by
  have e':t.natAbs*w.natAbs=N.natAbs*b.natAbs:=by
   have:=congrArg Int.natAbs e
   rwa [Int.natAbs_mul,Int.natAbs_mul] at this
  have hd:b.natAbs∣w.natAbs:=Nat.Coprime.dvd_of_dvd_mul_left (k:=b.natAbs) (m:=t.natAbs) (by rw [Nat.Coprime,Nat.gcd_comm];exact hg) ⟨N.natAbs,by rw [e',Nat.mul_comm]⟩
  have hle:=Nat.le_of_dvd (by omega) hd
  refine ⟨by omega,?_⟩
  have:t.natAbs*w.natAbs<=N.natAbs*w.natAbs:=by rw [e'];exact Nat.mul_le_mul_left _ hle
  exact Nat.le_of_mul_le_mul_right this (by omega)
 obtain ⟨a1,a2⟩:=red hE.l2p hE.gl hE.el
 obtain ⟨b1,b2⟩:=red hE.h2p hE.gh hE.eh
 have vd:(v*d).natAbs=v.natAbs*d.natAbs:=Int.natAbs_mul _ _
 have vd2:((v.natAbs*d.natAbs:Nat):Int)=(v.natAbs:Int)*d:=by rw [Int.natCast_mul];have:=hW.d2;congr 1;omega
 have c1:((cj u v d m).natAbs:Int)<=(u.natAbs:Int)+(v.natAbs:Int)*d+61:=by
  unfold cj
  split
  ·omega
  ·split<;>omega
 have c2:((cE u v d m).natAbs:Int)<=(u.natAbs:Int)+(v.natAbs:Int)*d+61:=by
  unfold cE
  split
  ·omega
  ·split<;>omega
 exact ⟨by omega,by omega,by omega,by omega⟩
theorem rg {L:List (List Int)} {k n:Nat} (hk:1<=k) (hn:1<=n) (h:L=[]\/∃ f,L=[f]/\AllB k (ag f)/\(ag f).length<=n/\ag f≠[]):AllB k (prd (L.map ag))/\(prd (L.map ag)).length<=n/\prd (L.map ag)≠[]:=by
 rcases h with rfl | ⟨f,rfl,b,l,ne⟩
 ·exact ⟨fun x hx=>by rw [List.mem_singleton.mp hx];exact b1k hk,hn,by show ([1]:List Int)≠[];simp⟩
 ·have:prd ([f].map ag)=ag f:=cJ _
  rw [this];exact ⟨b,l,ne⟩
theorem gq {k n:Nat} {x:Int} (h:x.natAbs<n) (hn:n<=2^k):Bits k x:=Nat.lt_of_lt_of_le h hn
theorem jV {k:Nat} {x y:Int} (h1:Bits k x) (h2:Bits k y):AllB k [x,y]:=fun z hz=>by
 rcases List.mem_cons.mp hz with rfl | hz
 ·exact h1
 ·rw [List.mem_singleton.mp hz];exact h2
theorem DX {u v w d m l1 l2 h1 h2 c:Int} {mm:Nat} {A B D:List (List Int)} (hW:WOk u v w d) (hm0:0<=m) (hm:m<60) (hE:SpE u v w d m l1 l2 h1 h2) (hP:Pad u v w d l1 l2 mm A B D c) :
 Made (whl c (usP (ag [u,d*v*v,w]) mm (A++(B++D)))) c (usP (ag [u,d*v*v,w]) mm (A++(B++D)))/\flt (usP (ag [u,d*v*v,w]) mm (A++(B++D)))=prQ ([u,d*v*v,w]::(A++(B++D)))/\OneW ([u,d*v*v,w]::(A++(B++D))) [u,d*v*v,w] [u,d*v*v,w,cu v] l1 l2 h1 h2:=by
 obtain ⟨s1,s2,s3,s4⟩:=GC hW hm0 hm hE
 obtain ⟨en,ol,oh,lU,hU⟩:=oz hW hm0 hm hE
 have hw:=hW.w1
 have hw12:=hW.w12
 have l2p:=hE.l2p
 have h2p:=hE.h2p
 have nvd:0<=(v.natAbs:Int)*d:=Int.mul_nonneg (by omega) (by have:=hW.d2;omega)
 have fA:∀ f∈A,FacG f/\ag f=[-l1,l2]/\f=[l1,0,l2]:=fun f hf=>by
  rcases hP.a with rfl | rfl
  ·cases hf
  ·rw [List.mem_singleton.mp hf];exact ⟨sU (by omega) (by omega) (by omega),nM l2p hE.gl,rfl⟩
 have fB:∀ f∈B,FacG f/\∃ t:Int,f=[t,0,1]/\ag f=[-t,1]/\(u.natAbs:Int)+(v.natAbs:Int)*d+100<=(t.natAbs:Int)/\(t.natAbs:Int)<=100000000:=fun f hf=>by
  rcases hP.b with rfl | ⟨far,g1,g2,rfl | rfl⟩
  ·cases hf
  ·rw [List.mem_singleton.mp hf];exact ⟨sU (by omega) (by decide) (by decide),-far,rfl,jD _,by omega,by omega⟩
  ·rw [List.mem_singleton.mp hf];exact ⟨sU (by omega) (by decide) (by decide),far,rfl,jD _,by omega,by omega⟩
 have fD:∀ f∈D,FacG f/\∃ k:Int,1<=k/\k<=7/\f=[0,-k,1]/\ag f=[k,0,1]:=fun f hf=>by
  rcases hP.d with rfl | ⟨k,g1,g2,rfl⟩
  ·cases hf
  ·rw [List.mem_singleton.mp hf];exact ⟨IY g1 g2,k,g1,g2,rfl,rq g1⟩
 have f0:=jN hW
 have fR:∀ f∈A++(B++D),FacG f:=fun f hf=>by
  rcases List.mem_append.mp hf with z | z
  ·exact (fA f z).1
  rcases List.mem_append.mp z with z | z
  ·exact (fB f z).1
  ·exact (fD f z).1
 have nA:(A.map ag).Nodup:=by rcases hP.a with rfl | rfl<;>simp
 have nB:(B.map ag).Nodup:=by rcases hP.b with rfl | ⟨far,_,_,rfl | rfl⟩<;>simp
 have nD:(D.map ag).Nodup:=by rcases hP.d with rfl | ⟨k,_,_,rfl⟩<;>simp
 have dAB:∀ f∈A,∀ g∈B,ag f≠ag g:=fun f hf g hg z=>by
  obtain ⟨t,_,e2,e3,_⟩:=(fB g hg).2
  rw [(fA f hf).2.1,e2] at z
  simp at z
  omega
 have dAD:∀ f∈A,∀ g∈D,ag f≠ag g:=fun f hf g hg z=>by
  obtain ⟨k,_,_,_,e2⟩:=(fD g hg).2
  rw [(fA f hf).2.1,e2] at z
  simp at z
 have dBD:∀ f∈B,∀ g∈D,ag f≠ag g:=fun f hf g hg z=>by
  obtain ⟨t,_,e2,_⟩:=(fB f hf).2
  obtain ⟨k,_,_,_,e3⟩:=(fD g hg).2
  rw [e2,e3] at z
  simp at z
 have d0:∀ f∈A++(B++D),ag [u,d*v*v,w]≠ag f:=fun f hf=>by
  by_cases hv:v=0
  ·subst hv
   have e0:d*0*0=0:=by omega
   rw [e0]
   have eL:cj u 0 d m=u-1-m:=by unfold cj;rw [if_neg (by decide),if_neg (by decide)]
   rcases List.mem_append.mp hf with z | z
   ·rw [(fA f z).2.2]
    refine yS (by omega) (by omega) fun y=>?_
    have:=hE.el
    rw [eL] at this
    have q:(u-1-m)*l2=u*l2-(1+m)*l2:=by grind
    have:=Int.mul_pos (show 0<1+m by omega) l2p
    omega
   rcases List.mem_append.mp z with z | z
   ·obtain ⟨t,e1,_,e3,_⟩:=(fB f z).2
    rw [e1]
    refine yS (by omega) (by decide) fun y=>?_
    rw [Int.mul_one] at y
    have y2:u.natAbs=t.natAbs*w.natAbs:=by rw [y,Int.natAbs_mul]
    have y3:t.natAbs*1<=t.natAbs*w.natAbs:=Nat.mul_le_mul_left _ (by omega)
    omega
   ·obtain ⟨k,_,_,_,e2⟩:=(fD f z).2
    rw [e2]
    intro y
    have:=mN (u:=u) (b:=w) (by omega)
    obtain ⟨_,A0,A1,_,eS,_⟩:=this
    rw [eS] at y
    simp at y
  ·have he:0<d*v*v:=by
    rw [Int.mul_assoc]
    refine Int.mul_pos (by have:=hW.d2;omega) ?_
    rcases Int.lt_or_gt_of_ne hv with z | z
    ·exact Int.mul_pos_of_neg_of_neg z z
    ·exact Int.mul_pos z z
   obtain ⟨g,A0,A1,A2,hg,eS,e0,e1,e2,hA⟩:=o3 (u:=u) (b:=w) (by omega) (show d*v*v≠0 by omega)
   rw [eS]
   rcases List.mem_append.mp hf with z | z
   ·rw [(fA f z).2.1];intro y;simp at y
   rcases List.mem_append.mp z with z | z
   ·obtain ⟨t,_,e3,_⟩:=(fB f z).2
    rw [e3];intro y;simp at y
   ·obtain ⟨k,k1,_,_,e3⟩:=(fD f z).2
    rw [e3]
    intro y
    simp at y
    obtain ⟨rfl,rfl,rfl⟩:=y
    have u0:u=0:=by
     have:w*u=0:=by
      have q : -2*w*u = -2*(w*u):=Int.mul_assoc _ _ _
      omega
     rcases Int.mul_eq_zero.mp this with y | y
     ·omega
     ·exact y
    subst u0
    have:=Int.mul_pos hg (show 0<A0 by omega)
    omega
 have nR:((A++(B++D)).map ag).Nodup:=by
  rw [List.map_append,List.map_append]
  refine List.nodup_append.mpr ⟨nA,List.nodup_append.mpr ⟨nB,nD,?_⟩,?_⟩
  ·intro x hx y hy
   obtain ⟨f,hf,rfl⟩:=List.mem_map.mp hx
   obtain ⟨g,hg,rfl⟩:=List.mem_map.mp hy
   exact dBD f hf g hg
  ·intro x hx y hy
   obtain ⟨f,hf,rfl⟩:=List.mem_map.mp hx
   rcases List.mem_append.mp hy with z | z
   ·obtain ⟨g,hg,rfl⟩:=List.mem_map.mp z
    exact dAB f hf g hg
   ·obtain ⟨g,hg,rfl⟩:=List.mem_map.mp z
    exact dAD f hf g hg
 have hF:Fam ([u,d*v*v,w]::(A++(B++D))):=by
  refine ⟨fun f hf=>?_,?_⟩
  ·rcases List.mem_cons.mp hf with z | z
   ·rw [z];exact f0
   ·exact fR f z
  ·rw [List.map_cons]
   refine List.nodup_cons.mpr ⟨fun z=>?_,nR⟩
   obtain ⟨f,hf,e⟩:=List.mem_map.mp z
   exact d0 f hf e.symm
 have hno:∀ x∈aJ (A++(B++D)),¬ (0<ak x l1 l2/\ak x h1 h2<=0):=fun x hx=>by
  obtain ⟨f,hf,hsf⟩:=List.mem_flatMap.mp hx
  rcases List.mem_append.mp hf with z | z
  ·rw [(fA f z).2.2,j8] at hsf
   rw [List.mem_singleton.mp hsf]
   rintro ⟨y,_⟩
   have:=side_line.mp y
   have e:l2*l1=l1*l2:=Int.mul_comm _ _
   omega
  rcases List.mem_append.mp z with z | z
  ·obtain ⟨t,e1,_,e3,_⟩:=(fB f z).2
   rw [e1,j8] at hsf
   rw [List.mem_singleton.mp hsf]
   rintro ⟨y1,y2⟩
   have z1:=side_line.mp y1
   have z2:¬ 1*h1<t*h2:=fun y=>by have:=side_line.mpr y;omega
   rcases Int.lt_or_le 0 t with w1 | w1
   ·have:=Int.mul_le_mul_of_nonneg_left (show 1<=h2 by omega) (Int.le_of_lt w1)
    omega
   ·have:=Int.mul_le_mul_of_nonneg_left (show 1<=l2 by omega) (show 0 <= -t by omega)
    have e : -t*l2 = -(t*l2):=Int.neg_mul _ _
    omega
  ·obtain ⟨k,k1,_,e2,_⟩:=(fD f z).2
   rw [e2] at hsf
   have:spF [0,-k,1]=[]:=by
    show (if 0 <= -k then _ else [])++(if 0 < -k then _ else [])=[]
    rw [if_neg (by omega),if_neg (by omega)];rfl
   rw [this] at hsf
   cases hsf
 obtain ⟨hO,hcn⟩:=yc hW.ns hF l2p h2p en.lt lU hU ol oh hno
 obtain ⟨bS,lS⟩:=g8 f0
 have pS:=eY f0
 have lS2:=pS.two
 obtain ⟨bA,lA,neA⟩:=rg (L:=A) (k:=31) (n:=2) (by decide) (by decide) (by
  rcases hP.a with z | z
  ·exact .inl z
  ·refine .inr ⟨_,z,?_⟩
   rw [nM l2p hE.gl]
   exact ⟨jV (gq (n:=100000000) (by omega) (by decide)) (gq (n:=13) (by omega) (by decide)),Nat.le_refl _,by simp⟩)
 obtain ⟨bB,lB,neB⟩:=rg (L:=B) (k:=28) (n:=2) (by decide) (by decide) (by
  rcases hP.b with z | ⟨far,g1,g2,z | z⟩
  ·exact .inl z
  ·refine .inr ⟨_,z,?_⟩
   rw [jD]
   exact ⟨jV (gq (n:=100000001) (by omega) (by decide)) (b1k (by decide)),Nat.le_refl _,by simp⟩
  ·refine .inr ⟨_,z,?_⟩
   rw [jD]
   exact ⟨jV (gq (n:=100000001) (by omega) (by decide)) (b1k (by decide)),Nat.le_refl _,by simp⟩)
 obtain ⟨bD,lD,neD⟩:=rg (L:=D) (k:=4) (n:=3) (by decide) (by decide) (by
  rcases hP.d with z | ⟨k,g1,g2,z⟩
  ·exact .inl z
  ·refine .inr ⟨_,z,?_⟩
   rw [rq g1]
   refine ⟨fun x hx=>?_,Nat.le_refl _,by simp⟩
   rcases List.mem_cons.mp hx with rfl | hx
   ·exact gq (n:=8) (by omega) (by decide)
   rcases List.mem_cons.mp hx with rfl | hx
   ·exact Bits.zero
   ·rw [List.mem_singleton.mp hx];exact b1k (by decide))
 have eR:prd ((A++(B++D)).map ag)=af (prd (A.map ag)) (af (prd (B.map ag)) (prd (D.map ag))):=by
  rw [List.map_append,List.map_append,kB,kB]
 have bBD:=ip bB bD (Nat.le_refl _)
 have lBD:=bI neB neD
 have neBD:=jH neB neD
 have bR:=ip bA bBD (Nat.le_refl _)
 have lR:=bI neA neBD
 have neR:=jH neA neBD
 rw [<- eR] at bR lR neR
 have bR':AllB 67 (prd ((A++(B++D)).map ag)):=bR.mono (by omega)
 have lR':(prd ((A++(B++D)).map ag)).length<=5:=by omega
 have nR1:=List.length_pos_iff.mpr neR
 have eW:prQ ([u,d*v*v,w]::(A++(B++D)))=af (ag [u,d*v*v,w]) (prd ((A++(B++D)).map ag)):=by rw [hF.prd];rfl
 have eP:fP id (usP (ag [u,d*v*v,w]) mm (A++(B++D)))=af (pw (ag [u,d*v*v,w]) mm) (prd ((A++(B++D)).map ag)):=by
  show af (pw (ag [u,d*v*v,w]) mm) (fP id _)=_
  rw [mj id rfl]
 have eM:mor (usP (ag [u,d*v*v,w]) mm (A++(B++D))) 1=pw (ag [u,d*v*v,w]) (mm-1):=by
  show af (pw (ag [u,d*v*v,w]) (mm-1)) (fP (·-1) _)=_
  rw [vj,cJ]
 have eF:flt (usP (ag [u,d*v*v,w]) mm (A++(B++D)))=prQ ([u,d*v*v,w]::(A++(B++D))):=by
  rw [eW]
  show af (pw (ag [u,d*v*v,w]) 1) (fP rm _)=_
  rw [mj rm rfl,fN]
 have use:Use (usP (ag [u,d*v*v,w]) mm (A++(B++D))):=by
  refine ⟨fun p hp=>?_,fun p hp=>?_,?_⟩
  ·rcases List.mem_cons.mp hp with z | z
   ·rw [z];exact pS
   ·obtain ⟨f,hf,rfl⟩:=List.mem_map.mp z
    exact eY (fR f hf)
  ·rcases List.mem_cons.mp hp with z | z
   ·rw [z];show 1<=mm;rcases hP.m with y | y<;>omega
   ·obtain ⟨f,hf,rfl⟩:=List.mem_map.mp z
    exact Nat.le_refl _
  ·have:=hF.nd
   have e:(usP (ag [u,d*v*v,w]) mm (A++(B++D))).map (·.1)=([u,d*v*v,w]::(A++(B++D))).map ag:=by
    show ag [u,d*v*v,w]::((A++(B++D)).map fun f=>(ag f,1)).map (·.1)=ag [u,d*v*v,w]::(A++(B++D)).map ag
    rw [List.map_map];rfl
   rw [e];exact this
 have pwb:∀ n,n<=2->AllB 127 (pw (ag [u,d*v*v,w]) n)/\(pw (ag [u,d*v*v,w]) n).length=1+n*((ag [u,d*v*v,w]).length-1)/\pw (ag [u,d*v*v,w]) n≠[]:=fun n hn=>by
  refine ⟨?_,(mY pS.pln.ne n).1,(mY pS.pln.ne n).2⟩
  match n,hn with
  | 0,_=>exact fun x hx=>by rw [List.mem_singleton.mp hx];exact b1k (by decide)
  | 1,_=>rw [fN];exact bS.mono
  | 2,_ =>
    show AllB 127 (af (ag [u,d*v*v,w]) (af (ag [u,d*v*v,w]) [1]))
    rw [cJ]
    exact ip bS bS (by omega)
 have hmm:1<=mm/\mm<=2:=by rcases hP.m with y | y<;>omega
 obtain ⟨q1,q2,q3⟩:=pwb mm hmm.2
 have q4:mm*((ag [u,d*v*v,w]).length-1)<=2*2:=Nat.mul_le_mul hmm.2 (by omega)
 have q5:1*1<=mm*((ag [u,d*v*v,w]).length-1):=Nat.mul_le_mul hmm.1 (by omega)
 have lP:=bI q3 neR
 rw [<- eP] at lP
 have kl:(whl c (usP (ag [u,d*v*v,w]) mm (A++(B++D)))).length=(fP id (usP (ag [u,d*v*v,w]) mm (A++(B++D)))).length:=by rw [fi,b9]
 have dg:=(oe id (usP (ag [u,d*v*v,w]) mm (A++(B++D))) fun p hp=>(use.pri p hp).pln.ne).1
 have lW:=bI pS.pln.ne neR
 rw [<- eW] at lW
 refine ⟨⟨rfl,hP.c0,hP.bc,use,by omega,by omega,?_,?_⟩,eF,⟨⟨hF,by omega,by omega,?_⟩,hO,hcn,en.mono⟩⟩
 ·rw [eP];exact ip q1 bR' (by omega)
 ·rw [eM];exact (pwb (mm-1) (by omega)).1.mono
 ·rw [eW];exact ip bS bR' (by omega)
def wo (C:Addr):Sp:=fun vs H Q _=>∃ (p t l h:Addr) (u v w d l1 l2 cell:Int),vs=[.ref p,.ref t,.int cell]/\WT H p u v w d/\WOk u v w d/\H t=some (.tup [.ref l,.ref h])/\RA C H l l1 l2/\0<l2/\Bits 40 l1/\Bits 40 l2/\Nat.gcd l1.natAbs l2.natAbs=1/\∀ (mm:Nat) (A B D:List (List Int)) (c:Int),Pad u v w d l1 l2 mm A B D c->mkL H Q (whl c (usP (ag [u,d*v*v,w]) mm (A++(B++D))))
theorem BV {k:Int} (h0:0<=k) (h:k<2^20):Bits 9000 k:=Bits.mono (j:=20) (by show k.natAbs<2^20;omega) (by decide)
structure Got (X:List Int):Prop where
 ne:X≠[]
 len:X.length<=20
 bits:AllB 600 X
theorem Got.mul {X Y:List Int} {k n:Nat} (h:Got X) (ne:Y≠[]) (l:Y.length<=3) (b:AllB 64 Y) (hk:AllB k X) (hn:X.length<=n) (h1:k+n+64<=600) (h2:n+3<=20):Got (af X Y)/\AllB (k+n+64) (af X Y)/\(af X Y).length<=n+2:=by
 have hl:=bI h.ne ne
 have hb:=ip (k:=k+n+64) hk b (by omega)
 have:=List.length_pos_iff.mpr ne
 exact ⟨⟨jH h.ne ne,by omega,hb.mono h1⟩,hb,by omega⟩
theorem Fa {C f:Addr} {fd:FuncData} (F:Fun K "_law_padded" "_law_padded" qD f fd) (T:Txt K mg) (R:RCI K mg C) {tx:Addr} {sO:FuncData} (uV:Cal P w K mg base 3 "_law_least" ["_law_worth_here"] oU tx sO) {JF:Addr} {IO:FuncData} (Ms:Cal P w K mg base 1 "_law_times" ["_law_one","_law_other"] v4 JF IO):FnOk P w K mg base CX0 4 f fd ["_law_worth_here","_law_span_here","_law_cell"] (wo C):=by
 obtain ⟨uG,rR,sk,ui⟩:=uV
 obtain ⟨ma,kS,k9,lK⟩:=Ms
 refine F.ok sc__law_padded (fun vs H Q E h=>?_) (fun cdv A outer s H vs Q E hr h=>?_)
 ·obtain ⟨p,t,l,h,u,v,w,d,l1,l2,cell,rfl,_⟩:=h
  rfl
 ·obtain ⟨p,t,l,h,u,v,w,d,l1,l2,cell,rfl,hp,hW,ht,hl,l2p,bl1,bl2,gl,k⟩:=h
  have big:=sizeLine_eq
  refine ⟨_,(ah (fQ (pv 0) (ik rfl (cC (aW (i:=3) sc__law_padded.nd rfl (Or.inl rfl)) (cC (aW (i:=4) sc__law_padded.nd rfl (Or.inl rfl)) (cC (aW (i:=5) sc__law_padded.nd rfl (Or.inl rfl)) (cC (aW (i:=6) sc__law_padded.nd rfl (Or.inl rfl)) ij))))))
   (ah (ap (i:=7) sc__law_padded.nd rfl (Or.inl rfl) (aq uG (hr.mono) rfl rR sk ui .nil aj (aa (pv 0) ac)))
   (ah (aQ (aH cI (ai cD (pv 2) ad) ad (aE _))
     (al (ap (i:=7) sc__law_padded.nd rfl (Or.inl rfl) (aq ma (hr.mono) rfl kS k9 lK .nil aj (aa (pv 7) (aa (pv 7) ac)))))
     aR)
   (ah (aQ (aH cI (ai cD (ai cQ (pv 2) ad) ad) ad (aE _))
     (al (ap (i:=7) sc__law_padded.nd rfl (Or.inl rfl) (aq ma (hr.mono) rfl kS k9 lK .nil aj (aa (pv 7) (aa (aZ (aa (bQ bM (aO (K:=K) rfl (aG (aS (K:=K) rfl) (pv 1) ad (fun _ _=>rfl)) rfl)) (aa (aO (K:=K) rfl (aG (aS (K:=K) rfl) (pv 1) ad (fun _ _=>rfl)) rfl) ac))) ac)))))
     aR)
   (ah (ap (i:=8) sc__law_padded.nd rfl (Or.inl rfl) (ai bj (ai bj (ai bj (bT gn (by rfl) T.abs_ PyProof.Rows.boot_abs (aa (pv 3) ac)) (ai aI (bT gn (by rfl) T.abs_ PyProof.Rows.boot_abs (aa (pv 4) ac)) (pv 6))) ad) (ai cD (ai cQ (pv 2) ad) ad)))
   (ah (aQ (aH cI (ai cD (ai cQ (pv 2) ad) ad) ad (aE _))
     (al (ap (i:=7) sc__law_padded.nd rfl (Or.inl rfl) (aq ma (hr.mono) rfl kS k9 lK .nil aj (aa (pv 7) (aa (aZ (aa (pv 8) (aa ad ac))) ac)))))
     aR)
   (ah (aQ (aH cI (ai cD (ai cQ (pv 2) ad) ad) ad (aE _))
     (al (ap (i:=7) sc__law_padded.nd rfl (Or.inl rfl) (aq ma (hr.mono) rfl kS k9 lK .nil aj (aa (pv 7) (aa (aZ (aa (bQ bM (pv 8)) (aa ad ac))) ac)))))
     aR)
   (ah (aQ (aH cI (ai cD (ai cQ (pv 2) ad) ad) ad (aE _))
     (al (ap (i:=7) sc__law_padded.nd rfl (Or.inl rfl) (aq ma (hr.mono) rfl kS k9 lK .nil aj (aa (pv 7) (aa (aZ (aa (ai bj ad (ai cD (ai cQ (pv 2) ad) ad)) (aa ad (aa ad ac)))) ac)))))
     aR)
   (al (aB (fm (own:=["_law_one"]) (fr:=["_law_cell"]) (js:=[2]) (by walk_at "comp_ok") rfl (eN (K:=K) rfl (pv 7)) (fun _ _ _ _=>(aW (i:=0) (show List.Nodup (["_law_one","_law_cell"]:List Str) from by decide +kernel) rfl (Or.inl rfl))) (fun _ _ _ _=>(ai aI (pv 0) (aG (ck (K:=K) rfl) (aZ (aa ad (aa (bQ bM ad) (aa ad (aa (bQ bM ad) ac))))) (ai cD (ai cQ (pv 1) ad) ad) (fun _ _=>rfl))))))))))))))),?_⟩
  refine ⟨_,rfl,p,_,rfl,SqT.of hp,rfl,_,_,rfl,_,_,rfl,_,_,rfl,_,_,rfl,rfl,?_⟩
  dsimp only
  refine gD (fun σ' H'=>σ'=[some (.ref p),some (.ref t),some (.int cell),some (.int u),some (.int v),some (.int w),some (.int d),none,none]/\H=H') ⟨rfl,rfl⟩ ?_
  rintro σ' H' ⟨rfl,rfl⟩
  refine aA ⟨_,rfl,p,u,v,w,d,rfl,hp,hW,fun q0 H1 s1 hq0 e1=>?_⟩
  rw [rV (by have:=hW.d2;omega)] at e1
  obtain ⟨bS,lS⟩:=g8 (jN hW)
  have pS:=(eY (jN hW)).pln
  have g0:Got (ag [u,d*v*v,w]):=⟨pS.ne,by omega,bS.mono⟩
  generalize hs:ag [u,d*v*v,w]=S at e1 bS lS g0 pS k
  show cW _ _ _ _ _
  refine dW (fun σ' H'=>∃ (q:Addr) (mm:Nat),σ'=[some (.ref p),some (.ref t),some (.int cell),some (.int u),some (.int v),some (.int w),some (.int d),some (.ref q),none]/\Same H H'/\H q=none/\H' q=some (.lst ((pw S mm).map V.int))/\(mm=1\/mm=2)/\Got (pw S mm)/\AllB 130 (pw S mm)/\(pw S mm).length<=5) ?_ ?_
  case refine_2 =>
   intro rest
   refine ⟨_,rfl,_,_,rfl,rfl,(by show (0:Int)<3;decide),_,_,rfl,rfl,_,rfl,aL (fun _=>?_) (fun _=>?_)⟩
   ·refine cO ⟨_,rfl,_,rfl,q0,q0,S,S,rfl,e1,e1,pS.ne,pS.ne,by omega,by omega,bS.mono,bS.mono,fun q' H2 s2 hq' e2=>?_⟩
    have e:af S S=pw S 2:=by show _=af S (af S [1]);rw [cJ]
    obtain ⟨m1,m2,m3⟩:=g0.mul pS.ne lS (bS.mono) bS lS (by decide) (by decide)
    rw [e] at e2 m1 m2 m3
    exact rest _ _ ⟨q',2,rfl,s1.trans s2,s1.free hq',e2,.inr rfl,m1,m2.mono,by omega⟩
   ·refine rest _ _ ⟨q0,1,rfl,s1,hq0,by rw [fN];exact e1,.inl rfl,by rw [fN];exact g0,by rw [fN];exact bS.mono,by rw [fN];omega⟩
  clear e1 hq0 s1 q0
  rintro σ' H2 ⟨q,mm,rfl,s2,hq,e2,hmm,g2,b2,n2⟩
  refine dW (fun σ' H'=>∃ (q:Addr) (A:List (List Int)),σ'=[some (.ref p),some (.ref t),some (.int cell),some (.int u),some (.int v),some (.int w),some (.int d),some (.ref q),none]/\Same H H'/\H q=none/\H' q=some (.lst ((af (pw S mm) (prd (A.map ag))).map V.int))/\(A=[]\/A=[[l1,0,l2]])/\Got (af (pw S mm) (prd (A.map ag)))/\AllB 200 (af (pw S mm) (prd (A.map ag)))/\(af (pw S mm) (prd (A.map ag))).length<=7) ?_ ?_
  case refine_2 =>
   intro rest
   refine ⟨_,rfl,_,_,rfl,rfl,⟨by show (0:Int)<3;decide,dQ (by decide) (by decide)⟩,_,_,rfl,rfl,(by show (0:Int)<3;decide),_,_,rfl,rfl,_,rfl,aL (fun _=>?_) (fun _=>?_)⟩
   ·have ht2:=s2 _ _ ht
    obtain ⟨dl,hl2⟩:=hl.same s2
    refine cO ⟨_,rfl,_,rfl,t,_,_,_,rfl,rfl,SqT.of ht2,rfl,l,C,dl,_,_,rfl,hl2,R.cl,R.nT,cR _ _,_,rfl,_,rfl,t,_,_,_,rfl,rfl,SqT.of ht2,rfl,l,C,dl,_,_,rfl,hl2,R.cl,R.nB,bX _ _,by show 2<=sizeLine;omega,fun ql hql=>?_⟩
    have s3:Same H2 (upd H2 ql (.lst [V.int (-l1),V.int l2])):=Same.upd_new hql
    have bY:AllB 64 [-l1,l2]:=jV (bl1.neg.mono) (bl2.mono)
    refine ⟨q,ql,pw S mm,[-l1,l2],rfl,s3 _ _ e2,au,g2.ne,by simp,by omega,by show 2<=1000;decide,g2.bits.mono,bY.mono,fun q' H4 s4 hq' e4=>?_⟩
    have e:[-l1,l2]=prd (([[l1,0,l2]]:List (List Int)).map ag):=by
     show _=af (ag [l1,0,l2]) [1]
     rw [cJ,nM l2p gl]
    obtain ⟨m1,m2,m3⟩:=g2.mul (Y:=[-l1,l2]) (by simp) (by show 2<=3;decide) bY b2 n2 (by decide) (by decide)
    rw [e] at e4 m1 m2 m3
    exact rest _ _ ⟨q',[[l1,0,l2]],rfl,(s2.trans s3).trans s4,(s2.trans s3).free hq',e4,.inr rfl,m1,m2.mono,m3⟩
   ·have e:af (pw S mm) (prd (([]:List (List Int)).map ag))=pw S mm:=cJ _
    exact rest _ _ ⟨q,[],rfl,s2,hq,by rw [e];exact e2,.inl rfl,by rw [e];exact g2,by rw [e];exact b2.mono,by rw [e];omega⟩
  clear e2 hq s2 q g2 b2 n2
  rintro σ' H2 ⟨q,A1,rfl,s2,hq,e2,hA1,g2,b2,n2⟩
  generalize hX:af (pw S mm) (prd (A1.map ag))=X at e2 g2 b2 n2
  have h1':=jW hW.bu
  have h2':=jW hW.bv
  have bau:Bits 1000 ((u.natAbs:Nat):Int):=gq (n:=2^21) (by rw [Int.natAbs_natCast];exact h1') (Nat.pow_le_pow_right (by decide) (by decide))
  have bav:Bits 1000 ((v.natAbs:Nat):Int):=gq (n:=2^21) (by rw [Int.natAbs_natCast];exact h2') (Nat.pow_le_pow_right (by decide) (by decide))
  refine aA ⟨_,rfl,_,rfl,_,rfl,_,rfl,_,rfl,_,_,rfl,rfl,⟨by rw [lQ];exact bav.mono,hW.bd.mono⟩,_,_,rfl,rfl,_,_,rfl,rfl,_,rfl,_,_,rfl,rfl,⟨by show (0:Int)<9;decide,dQ (by decide) (by decide)⟩,_,_,rfl,rfl,(by show (0:Int)<50;decide),_,_,rfl,rfl,?_⟩
  show cW _ _ _ _ _
  refine gD (fun σ' H'=>∃ far:Int,σ'=[some (.ref p),some (.ref t),some (.int cell),some (.int u),some (.int v),some (.int w),some (.int d),some (.ref q),some (.int far)]/\H2=H'/\(u.natAbs:Int)+(v.natAbs:Int)*d+100<=far/\far<=100000000) ⟨_,rfl,rfl,?_⟩ ?_
  ·rw [lQ,lQ]
   obtain ⟨m0,m1⟩:=gI (x:=cell/9) (m:=50) (by decide)
   have e21:(2:Nat)^21=2097152:=rfl
   have hvd:(v.natAbs:Int)*d<=2097152*13:=Int.mul_le_mul (by omega) hW.d13 (by have:=hW.d2;omega) (by decide)
   omega
  rintro σ' H3 ⟨far,rfl,rfl,f1,f2⟩
  have nvd:0<=(v.natAbs:Int)*d:=Int.mul_nonneg (by omega) (by have:=hW.d2;omega)
  have bfar:Bits 64 far:=gq (n:=100000001) (by omega) (by decide)
  have b1':Bits 64 (1:Int):=b1k (by decide)
  refine dW (fun σ' H'=>∃ (q:Addr) (B:List (List Int)),σ'=[some (.ref p),some (.ref t),some (.int cell),some (.int u),some (.int v),some (.int w),some (.int d),some (.ref q),some (.int far)]/\Same H H'/\H q=none/\H' q=some (.lst ((af X (prd (B.map ag))).map V.int))/\(B=[]\/(B=[[-far,0,1]]/\cell/450%3=1))/\Got (af X (prd (B.map ag)))/\AllB 280 (af X (prd (B.map ag)))/\(af X (prd (B.map ag))).length<=9) ?_ ?_
  case refine_2 =>
   intro rest
   refine ⟨_,rfl,_,_,rfl,rfl,⟨by show (0:Int)<450;decide,dQ (by decide) (by decide)⟩,_,_,rfl,rfl,(by show (0:Int)<3;decide),_,_,rfl,rfl,_,rfl,aL (fun h0=>?_) (fun _=>?_)⟩
   ·refine cO ⟨_,rfl,_,rfl,by show 2<=sizeLine;omega,fun ql hql=>?_⟩
    have s3:Same H2 (upd H2 ql (.lst [V.int far,V.int 1])):=Same.upd_new hql
    have bY:AllB 64 [far,1]:=jV bfar b1'
    refine ⟨q,ql,X,[far,1],rfl,s3 _ _ e2,au,g2.ne,by simp,by omega,by show 2<=1000;decide,g2.bits.mono,bY.mono,fun q' H4 s4 hq' e4=>?_⟩
    have e:[far,1]=prd (([[-far,0,1]]:List (List Int)).map ag):=by
     show _=af (ag [-far,0,1]) [1]
     rw [cJ,jD,Int.neg_neg]
    obtain ⟨m1,m2,m3⟩:=g2.mul (Y:=[far,1]) (by simp) (by show 2<=3;decide) bY b2 n2 (by decide) (by decide)
    rw [e] at e4 m1 m2 m3
    exact rest _ _ ⟨q',[[-far,0,1]],rfl,(s2.trans s3).trans s4,(s2.trans s3).free hq',e4,.inr ⟨rfl,h0⟩,m1,m2.mono,m3⟩
   ·have e:af X (prd (([]:List (List Int)).map ag))=X:=cJ _
    exact rest _ _ ⟨q,[],rfl,s2,hq,by rw [e];exact e2,.inl rfl,by rw [e];exact g2,by rw [e];exact b2.mono,by rw [e];omega⟩
  clear e2 hq s2 q
  rintro σ' H2 ⟨q,B1,rfl,s2,hq,e2,hB1,g3,b3,n3⟩
  refine dW (fun σ' H'=>∃ (q:Addr) (B:List (List Int)),σ'=[some (.ref p),some (.ref t),some (.int cell),some (.int u),some (.int v),some (.int w),some (.int d),some (.ref q),some (.int far)]/\Same H H'/\H q=none/\H' q=some (.lst ((af X (prd (B.map ag))).map V.int))/\(B=[]\/(B=[[-far,0,1]]\/B=[[far,0,1]]))/\Got (af X (prd (B.map ag)))/\AllB 280 (af X (prd (B.map ag)))/\(af X (prd (B.map ag))).length<=9) ?_ ?_
  case refine_2 =>
   intro rest
   refine ⟨_,rfl,_,_,rfl,rfl,⟨by show (0:Int)<450;decide,dQ (by decide) (by decide)⟩,_,_,rfl,rfl,(by show (0:Int)<3;decide),_,_,rfl,rfl,_,rfl,aL (fun h0=>?_) (fun _=>?_)⟩
   ·have h0':cell/450%3=2:=h0
    have eB:B1=[]:=by
     rcases hB1 with z | ⟨_,z⟩
     ·exact z
     ·omega
    subst eB
    have eX:af X (prd (([]:List (List Int)).map ag))=X:=cJ _
    rw [eX] at e2
    refine cO ⟨_,rfl,_,rfl,_,rfl,by show 2<=sizeLine;omega,fun ql hql=>?_⟩
    have s3:Same H2 (upd H2 ql (.lst [V.int (-far),V.int 1])):=Same.upd_new hql
    have bY:AllB 64 [-far,1]:=jV bfar.neg b1'
    refine ⟨q,ql,X,[-far,1],rfl,s3 _ _ e2,au,g2.ne,by simp,by omega,by show 2<=1000;decide,g2.bits.mono,bY.mono,fun q' H4 s4 hq' e4=>?_⟩
    have e:[-far,1]=prd (([[far,0,1]]:List (List Int)).map ag):=by
     show _=af (ag [far,0,1]) [1]
     rw [cJ,jD]
    obtain ⟨m1,m2,m3⟩:=g2.mul (Y:=[-far,1]) (by simp) (by show 2<=3;decide) bY b2 n2 (by decide) (by decide)
    rw [e] at e4 m1 m2 m3
    exact rest _ _ ⟨q',[[far,0,1]],rfl,(s2.trans s3).trans s4,(s2.trans s3).free hq',e4,.inr (.inr rfl),m1,m2.mono,m3⟩
   ·exact rest _ _ ⟨q,B1,rfl,s2,hq,e2,by rcases hB1 with z | ⟨z,_⟩;exact .inl z;exact .inr (.inl z),g3,b3,n3⟩
  clear e2 hq s2 q g3 b3 n3 hB1 g2 b2 n2
  rintro σ' H2 ⟨q,B1',rfl,s2,hq,e2,hB,g2,b2,n2⟩
  generalize hY:af X (prd (B1'.map ag))=Y at e2 g2 b2 n2
  refine dW (fun σ' H'=>∃ (q:Addr) (D:List (List Int)),σ'=[some (.ref p),some (.ref t),some (.int cell),some (.int u),some (.int v),some (.int w),some (.int d),some (.ref q),some (.int far)]/\Same H H'/\H q=none/\H' q=some (.lst ((af Y (prd (D.map ag))).map V.int))/\(D=[]\/∃ k:Int,1<=k/\k<=7/\D=[[0,-k,1]])/\Got (af Y (prd (D.map ag)))) ?_ ?_
  case refine_2 =>
   intro rest
   refine ⟨_,rfl,_,_,rfl,rfl,⟨by show (0:Int)<1350;decide,dQ (by decide) (by decide)⟩,_,_,rfl,rfl,(by show (0:Int)<2;decide),_,_,rfl,rfl,_,rfl,aL (fun h0=>?_) (fun _=>?_)⟩
   ·obtain ⟨m0,m1⟩:=gI (x:=cell/2700) (m:=7) (by decide)
    refine cO ⟨_,rfl,_,rfl,_,_,rfl,rfl,⟨by show (0:Int)<2700;decide,dQ (by decide) (by decide)⟩,_,_,rfl,rfl,(by show (0:Int)<7;decide),_,_,rfl,rfl,by show 3<=sizeLine;omega,fun ql hql=>?_⟩
    have s3:Same H2 (upd H2 ql (.lst [V.int (1+cell/2700%7),V.int 0,V.int 1])):=Same.upd_new hql
    have bY:AllB 64 [1+cell/2700%7,0,1]:=fun x hx=>by
     rcases List.mem_cons.mp hx with rfl | hx
     ·exact gq (n:=9) (by omega) (by decide)
     rcases List.mem_cons.mp hx with rfl | hx
     ·exact Bits.zero
     ·rw [List.mem_singleton.mp hx];exact b1'
    refine ⟨q,ql,Y,[1+cell/2700%7,0,1],rfl,s3 _ _ e2,au,g2.ne,by simp,by omega,by show 3<=1000;decide,g2.bits.mono,bY.mono,fun q' H4 s4 hq' e4=>?_⟩
    have e:[1+cell/2700%7,0,1]=prd (([[0,-(1+cell/2700%7),1]]:List (List Int)).map ag):=by
     show _=af (ag [0,-(1+cell/2700%7),1]) [1]
     rw [cJ,rq (by omega)]
    obtain ⟨m1',_,_⟩:=g2.mul (Y:=[1+cell/2700%7,0,1]) (by simp) (by show 3<=3;decide) bY b2 n2 (by decide) (by decide)
    rw [e] at e4 m1'
    exact rest _ _ ⟨q',_,rfl,(s2.trans s3).trans s4,(s2.trans s3).free hq',e4,.inr ⟨_,by omega,by omega,rfl⟩,m1'⟩
   ·have e:af Y (prd (([]:List (List Int)).map ag))=Y:=cJ _
    exact rest _ _ ⟨q,[],rfl,s2,hq,by rw [e];exact e2,.inl rfl,by rw [e];exact g2⟩
  clear e2 hq s2 q g2 b2 n2
  rintro σ' H2 ⟨q,D1,rfl,s2,hq,e2,hD,g2⟩
  generalize hZ:af Y (prd (D1.map ag))=Z at e2 g2
  have g2l:=g2.len
  obtain ⟨x,hx,ex⟩:=uo (xs:=[V.int 1,V.int (-1),V.int 6,V.int (-35)]) (n:=4) rfl (by decide) (cell/18900)
  obtain ⟨c,rfl,hc0,hcb⟩:∃ c:Int,x=.int c/\c≠0/\Bits 10 c:=by
   simp only [List.mem_cons,List.not_mem_nil,or_false] at hx
   rcases hx with rfl | rfl | rfl | rfl
   ·exact ⟨_,rfl,by decide,by show (1:Int).natAbs<2^10;decide⟩
   ·exact ⟨_,rfl,by decide,by show (-1:Int).natAbs<2^10;decide⟩
   ·exact ⟨_,rfl,by decide,by show (6:Int).natAbs<2^10;decide⟩
   ·exact ⟨_,rfl,by decide,by show (-35:Int).natAbs<2^10;decide⟩
  refine aU ⟨_,rfl,q,rfl,⟨_,SqL.of e2⟩,iV (K:=K) (a:=q) (xs:=Z.map V.int) (fun i ys σ' H'=>∃ (z0:Option V),σ'=[z0,some (.int cell)]/\ys=(scL c (Z.take i)).map V.int/\Same H2 H') (by rw [List.length_map];omega) ⟨none,rfl,rfl,Same.refl _⟩ ?_ ?_ ?_⟩
  ·rintro i ys σ' H' _ ⟨z0,rfl,rfl,sm⟩
   exact ⟨SqL.of (sm _ _ e2),by rw [List.length_map,b9,List.length_take];exact Nat.min_le_left _ _⟩
  ·rintro i x ys σ' H' hi ⟨z0,rfl,rfl,sm⟩
   obtain ⟨y,_,rfl,hm,et⟩:=gJ hi
   refine ⟨_,rfl,_,rfl,_,rfl,by show 4<=sizeLine;omega,fun ql hql=>?_⟩
   refine ⟨_,rfl,_,_,rfl,rfl,⟨by show (0:Int)<18900;decide,BV (by decide) (by decide)⟩,_,_,rfl,rfl,(by show (0:Int)<4;decide),ql,_,_,_,rfl,rfl,SqL.of au,ex,_,_,rfl,rfl,⟨(g2.bits y hm).mono,hcb.mono⟩,_,rfl,?_,sm.then_new hql⟩
   rw [et]
   simp [scL,Int.mul_comm]
  ·rintro ys σ' H' pz ⟨z0,rfl,rfl,sm⟩ hpz
   refine k mm A1 B1' D1 c ⟨hmm,hA1,?_,hD,hc0,hcb⟩ pz _ (s2.trans (sm.then_new hpz)) ((s2.trans sm).free hpz) ?_
   ·rcases hB with z | z
    ·exact .inl z
    ·exact .inr ⟨far,f1,f2,z⟩
   ·rw [au,List.length_map,List.take_length]
    have e:whl c (usP S mm (A1++(B1'++D1)))=scL c Z:=by
     rw [fi]
     have:fP id (usP S mm (A1++(B1'++D1)))=Z:=by
      show af (pw S mm) (fP id _)=_
      rw [mj id rfl,List.map_append,List.map_append,kB,kB,<- hZ,<- hY,<- hX,gH,gH]
     rw [this]
    rw [e]
def wj:Sp:=fun vs H Q _=>∃ (m:Int) (p:Addr) (u v w d D:Int),vs=[.int m,.ref p,.int D]/\WT H p u v w d/\WOk u v w d/\Bits 900 m/\Bits 210 D/\0<=sgq (u*D-m*w) (v*D) d/\sgq (u*D-(m+1)*w) (v*D) d<0/\Q (.bl true) H
theorem E8 {f:Addr} {fd:FuncData} (F:Fun K "_law_right" "_law_right" qB f fd) (T:Txt K mg) {tu:Addr} {sN:FuncData} (uU:Cal P w K mg base 1 "_law_whole" ["_law_found"] oN tu sN) {JH:Addr} {IQ:FuncData} (Mu:Cal P w K mg base 1 "_law_sign" ["_law_u","_law_v","_law_d"] we JH IQ):FnOk P w K mg base CX0 3 f fd ["_law_m","_law_worth_here","_law_bottom"] wj:=by
 obtain ⟨uF,rQ,sj,uh⟩:=uU
 obtain ⟨AV,yN,y4,AE⟩:=Mu
 refine F.ok sc__law_right (fun vs H Q E h=>?_) (fun cdv A outer s H vs Q E hr h=>?_)
 ·obtain ⟨m,p,u,v,w,d,D,rfl,_⟩:=h
  rfl
 ·obtain ⟨m,p,u,v,w,d,D,rfl,hp,hW,bm,bD,h1,h2,k⟩:=h
  refine ⟨_,(ah (aQ (qW (m8 (aq uF (hr.mono) rfl rQ sj uh .nil aj (aa (pv 0) ac))))
   (al (aB rd))
   aR)
   (ah (fQ (pv 1) (ik rfl (cC (aW (i:=3) sc__law_right.nd rfl (Or.inl rfl)) (cC (aW (i:=4) sc__law_right.nd rfl (Or.inl rfl)) (cC (aW (i:=5) sc__law_right.nd rfl (Or.inl rfl)) (cC (aW (i:=6) sc__law_right.nd rfl (Or.inl rfl)) ij))))))
   (ah (aQ (aH c7 (aq AV (hr.mono) rfl yN y4 AE .nil aj (aa (ai b7 (ai aI (pv 3) (pv 2)) (ai aI (pv 0) (pv 5))) (aa (ai aI (pv 4) (pv 2)) (aa (pv 6) ac)))) ad (aE _))
     (al (aB rd))
     aR)
   (al (aB (fS c7 (aq AV (hr.mono) rfl yN y4 AE .nil aj (aa (ai b7 (ai aI (pv 3) (pv 2)) (ai aI (ai bj (pv 0) ad) (pv 5))) (aa (ai aI (pv 4) (pv 2)) (aa (pv 6) ac)))) ad (aE _))))))),?_⟩
  have buD:Bits 300 (u*D):=(hW.bu.mul bD).mono
  have bvD:Bits 300 (v*D):=(hW.bv.mul bD).mono
  have bmw:Bits 950 (m*w):=(bm.mul hW.bw).mono
  have b1:Bits 900 (1:Int):=b1k (by decide)
  have bm1:Bits 901 (m+1):=bm.add b1
  have bmw1:Bits 950 ((m+1)*w):=(bm1.mul hW.bw).mono
  have q1:Bits 951 (u*D-m*w):=(buD.mono).sub bmw
  have q2:Bits 951 (u*D-(m+1)*w):=(buD.mono).sub bmw1
  refine bz (qS ⟨_,rfl,m,rfl,⟨_,rfl,dU ?_⟩⟩)
  refine ⟨_,rfl,p,_,rfl,SqT.of hp,rfl,_,_,rfl,_,_,rfl,_,_,rfl,_,_,rfl,rfl,?_⟩
  dsimp only
  refine gD (fun σ' H'=>σ'=[some (.int m),some (.ref p),some (.int D),some (.int u),some (.int v),some (.int w),some (.int d)]/\H=H') ⟨rfl,rfl⟩ ?_
  rintro σ' H' ⟨rfl,rfl⟩
  refine bz ⟨_,rfl,_,rfl,_,_,rfl,rfl,⟨hW.bu.mono,bD.mono⟩,_,rfl,_,rfl,_,_,rfl,rfl,⟨bm.mono,hW.bw.mono⟩,_,_,rfl,rfl,_,rfl,_,rfl,_,_,rfl,rfl,⟨hW.bv.mono,bD.mono⟩,_,rfl,_,_,_,rfl,q1.mono,bvD.mono,hW.bd.mono,_,_,rfl,rfl,_,rfl,aL (fun h0=>absurd h1 (Int.not_le.mpr h0)) (fun _=>?_)⟩
  refine aU ⟨_,rfl,_,rfl,_,_,rfl,rfl,⟨hW.bu.mono,bD.mono⟩,_,rfl,_,_,rfl,rfl,_,rfl,_,_,rfl,rfl,⟨bm1.mono,hW.bw.mono⟩,_,_,rfl,rfl,_,rfl,_,rfl,_,_,rfl,rfl,⟨hW.bv.mono,bD.mono⟩,_,rfl,_,_,_,rfl,q2.mono,bvD.mono,hW.bd.mono,_,_,rfl,rfl,?_⟩
  show Q (.bl (decide (sgq (u*D-(m+1)*w) (v*D) d<0))) H
  rw [decide_eq_true h2]
  exact k
theorem A4 {u v w d m l1 l2 h1 h2:Int} (hW:WOk u v w d) (hm0:0<=m) (hm:m<60) (hE:SpE u v w d m l1 l2 h1 h2):∃ ε:Int,Spt [u,d*v*v,w,cu v]/\RootU (cN u v w d) l1 l2 h1 h2 ε (fun t n=>0<ak [u,d*v*v,w,cu v] t n)/\∀ x1 x2,0<x2->l1*x2<x1*l2->x1*h2<=h1*x2->sg (hv x1 x2 (cN u v w d)) = -ε*ak [u,d*v*v,w,cu v] x1 x2:=by
 obtain ⟨en,ol,oh,lU,hU⟩:=oz hW hm0 hm hE
 have hF:Fam [[u,d*v*v,w]]:=⟨fun f hf=>by rw [List.mem_singleton.mp hf];exact jN hW,by simp⟩
 obtain ⟨hO,hc⟩:=yc hW.ns hF hE.l2p hE.h2p en.lt lU hU ol oh (fun x hx=>nomatch hx)
 obtain ⟨pre,s,post,e,hin,hno⟩:=lx hc
 have es:=hO.only s (by rw [e];simp) hin.1 hin.2
 have hsp:Spt s:=c9 hF.q (by rw [e];simp)
 obtain ⟨ε,e1,hs⟩:=CZ (c:=1) hF.q (by decide) e hE.l2p hE.h2p en.lt hno
 rw [show af [1] (aP [1] ([[u,d*v*v,w]].map ag))=cN u v w d from hF.one.trans ((m9 hF).trans (rV (by have:=hW.d2;omega)).symm)] at hs
 rw [<- es]
 refine ⟨ε,hsp,⟨e1,fun x1 x2 p a b up=>?_,fun x1 x2 p a b up=>?_,fun x1 x2 y1 y2 p q a b up lt=>?_,fun x1 x2 y1 y2 p q eq up=>?_,hin.1,fun z=>?_⟩,hs⟩
 ·have up':0<ak s x1 x2:=up
  have:ak s x1 x2=1:=by rcases dm s x1 x2 with z | z | z<;>omega
  rw [hs x1 x2 p a b,this];omega
 ·have up':¬ 0<ak s x1 x2:=up
  rw [hs x1 x2 p a b]
  rcases dm s x1 x2 with z | z | z
  ·omega
  ·right;rw [z];omega
  ·left;rw [z];omega
 ·have up':¬ 0<ak s x1 x2:=up
  have ha:l1*y2<y1*l2:=by
   refine gk p ?_
   have q1:=Int.mul_lt_mul_of_pos_right a q
   have q2:=Int.mul_lt_mul_of_pos_right lt hE.l2p
   have e1:l1*y2*x2=l1*x2*y2:=by grind
   have e2:x1*l2*y2=x1*y2*l2:=by grind
   have e3:y1*l2*x2=y1*x2*l2:=by grind
   omega
  rw [hs y1 y2 q ha b,dR hsp p q lt (Int.not_lt.mp up')];omega
 ·show 0<ak s y1 y2
  rw [<- g7 s p q eq];exact up
 ·have z':0<ak s h1 h2:=z
  have:=hin.2
  omega
theorem EG {C CN f:Addr} {fd:FuncData} (F:Fun K "law" "law" qc f fd) (T:Txt K mg) (R:RCI K mg C) (RN:NCI K mg CN) {JE:Addr} {IN:FuncData} (Mr:Cal P w K mg base 2 "_law_worth" ["_law_script","_law_k"] (vZ K) JE IN) {JG:Addr} {IP:FuncData} (Mt:Cal P w K mg base 4 "_law_span" ["_law_worth_here","_law_more"] (wb C) JG IP) {tz:Addr} {sP:FuncData} (uW:Cal P w K mg base 1 "_law_cell_at" ["_law_script","_law_k"] (jp K) tz sP) {tx:Addr} {sO:FuncData} (uV:Cal P w K mg base 3 "_law_least" ["_law_worth_here"] oU tx sO) {f_Number:Addr} {fd_Number:FuncData} {ds_Number:List Value} (mi:KCal P w K mg base 1 CN "Number" ["self","row","low","high"] (jn CN) f_Number fd_Number ds_Number []) {f_number:Addr} {fd_number:FuncData} {ds_number:List Value} (L7:CalE P w K mg base 39 "number" ["row","low","high"] (oS C CN) f_number fd_number ds_number [.non,.non]) {JK:Addr} {IT:FuncData} (Mx:Cal P w K mg base 4 "_law_padded" ["_law_worth_here","_law_span_here","_law_cell"] (wo C) JK IT) {Jb:Addr} {Ig:FuncData} (LU:Cal P w K mg base 9 "steps" ["one","bottom"] (v6 C CN) Jb Ig) {JI:Addr} {IR:FuncData} (Mv:Cal P w K mg base 3 "_law_right" ["_law_m","_law_worth_here","_law_bottom"] wj JI IR) {tu:Addr} {sN:FuncData} (uU:Cal P w K mg base 1 "_law_whole" ["_law_found"] oN tu sN):FnOk P w K mg base CX0 40 f fd ["_law_script"] (mE K):=by
 obtain ⟨LL,Gw,Hl,KM⟩:=Mr
 obtain ⟨LM,Gx,Hm,KN⟩:=Mt
 obtain ⟨fH,fy,fz,fG⟩:=uW
 obtain ⟨uG,rR,sk,ui⟩:=uV
 obtain ⟨md,lV,kT,lN,AI,zR⟩:=mi
 obtain ⟨Lq,Gc,G3,Kt,MG,MF⟩:=L7
 obtain ⟨LN,Gy,Hn,KO⟩:=Mx
 obtain ⟨uA,rL,r8,uc⟩:=LU
 obtain ⟨AW,yO,y6,AF⟩:=Mv
 obtain ⟨uF,rQ,sj,uh⟩:=uU
 refine F.ok sc_law (fun vs H Q E h=>?_) (fun cdv A outer s H vs Q E hr h=>?_)
 ·obtain ⟨a,ns,rfl,_⟩:=h
  rfl
 ·obtain ⟨a,ns,rfl,hS,hlen,k⟩:=h
  have big:=sizeLine_eq
  refine ⟨_,(ah (ap (i:=1) sc_law.nd rfl (Or.inl rfl) (aq LL (hr.mono) rfl Gw Hl KM .nil aj (aa (pv 0) (aa ad ac))))
   (ah (ap (i:=2) sc_law.nd rfl (Or.inl rfl) (aq LM (hr.mono) rfl Gx Hm KN .nil aj (aa (pv 1) (aa (ai cD (aq fH (hr.mono) rfl fy fz fG .nil aj (aa (pv 0) (aa ad ac))) ad) ac))))
   (ah (ap (i:=3) sc_law.nd rfl (Or.inl rfl) (cc lV md (hr.mono) rfl kT lN .nil aj (aa (aq uG (hr.mono) rfl rR sk ui .nil aj (aa (pv 1) ac)) (aa (aG (aS (K:=K) rfl) (pv 2) ad (fun _ _=>rfl)) (aa (aG (aS (K:=K) rfl) (pv 2) ad (fun _ _=>rfl)) ac)))))
   (ah (aQ (aH cI (ai cD (aq fH (hr.mono) rfl fy fz fG .nil aj (aa (pv 0) (aa ad ac))) ad) ad (aE _))
     (al (ap (i:=3) sc_law.nd rfl (Or.inl rfl) (aq Lq (hr.mono) rfl Gc G3 Kt .nil aj (aa (aq LN (hr.mono) rfl Gy Hn KO .nil aj (aa (pv 1) (aa (pv 2) (aa (ai cQ (aq fH (hr.mono) rfl fy fz fG .nil aj (aa (pv 0) (aa ad ac))) ad) ac)))) (aa (aG (aS (K:=K) rfl) (pv 2) ad (fun _ _=>rfl)) (aa (aG (aS (K:=K) rfl) (pv 2) ad (fun _ _=>rfl)) ac))))))
     aR)
   (ah (ap (i:=4) sc_law.nd rfl (Or.inl rfl) (aq fH (hr.mono) rfl fy fz fG .nil aj (aa (pv 0) (aa ad ac))))
   (ah (ap (i:=5) sc_law.nd rfl (Or.inl rfl) (ai bj ad (ai cD (ai cQ (pv 4) ad) (aG (ck (K:=K) rfl) (aZ (aa ad (aa (ai jz ad ad) (aa (ai jz ad ad) ac)))) (ai cD (pv 4) ad) (fun _ _=>rfl)))))
   (ah (aQ (aH cI (ai cD (aq fH (hr.mono) rfl fy fz fG .nil aj (aa (pv 0) (aa ad ac))) ad) ad (aE _))
     (al (ap (i:=5) sc_law.nd rfl (Or.inl rfl) (ai aI (aG (aS (K:=K) rfl) (pv 1) ad (fun _ _=>rfl)) (ai bj ad (ai cD (pv 4) ad)))))
     aR)
   (ah (ap (i:=6) sc_law.nd rfl (Or.inl rfl) (aq uA (hr.mono) rfl rL r8 uc .nil aj (aa (pv 3) (aa (pv 5) ac))))
   (ah (aQ (PW.pt (xM (qW (m8 (aq AW (hr.mono) rfl yO y6 AF .nil aj (aa (pv 6) (aa (pv 1) (aa (pv 5) ac)))))) (xL (qW (m8 (aq AW (hr.mono) rfl yO y6 AF .nil aj (aa (aq uA (hr.mono) rfl rL r8 uc .nil aj (aa (pv 3) (aa ad ac))) (aa (pv 1) (aa ad ac)))))))))
     (al (aB rd))
     aR)
   (ah (ap (i:=7) sc_law.nd rfl (Or.inl rfl) (aq uA (hr.mono) rfl rL r8 uc .nil aj (aa (pv 3) (aa (pv 5) ac))))
   (al (aB (x4 (aq uF (hr.mono) rfl rQ sj uh .nil aj (aa (pv 7) ac)) (q8 (fS cI (pv 7) (pv 6) (aE _)))))))))))))))),?_⟩
  refine aA ⟨_,rfl,a,ns,rfl,hS,fun p H1 u v w d s1 hp1 hp hW=>?_⟩
  obtain ⟨m0,m1⟩:=gI (x:=ns.getD 3 0) (m:=60) (by decide)
  refine aA ⟨_,rfl,_,rfl,a,ns,3,rfl,s1.seq hS,_,_,rfl,rfl,(by show (0:Int)<60;decide),p,u,v,w,d,_,rfl,hp,hW,m0,m1,fun t l h H2 l1 l2 h1 h2 s2 ht et hl hh hE=>?_⟩
  have t2:=s1.trans s2
  have hp2:=s2 _ _ hp
  obtain ⟨en,_⟩:=oz hW m0 m1 hE
  obtain ⟨ε,hsp,hru,hsg⟩:=A4 hW m0 m1 hE
  have eLs:cN u v w d=ag [u,d*v*v,w]:=rV (by have:=hW.d2;omega)
  have mk:∀ {H':Hp} {x q:Addr},Same H2 H'->NA CN H' x q l h->H' q=some (.lst ((cN u v w d).map V.int))->NSg 40 C CN H' x (cN u v w d) l1 l2 h1 h2 ε [u,d*v*v,w,cu v]:=fun sm na e=>⟨⟨_,_,_,na,e,hl.same sm,hh.same sm,en,hru⟩,hsp,hsg⟩
  have gT:Tr (cN u v w d)/\cN u v w d≠[]/\(cN u v w d).length<=12/\AllB 1000 (cN u v w d):=by
   obtain ⟨bS,lS⟩:=g8 (jN hW)
   have pS:=(eY (jN hW)).pln
   rw [eLs];exact ⟨pS.tr,pS.ne,by omega,bS.mono⟩
  have sd:∀ {D m:Int},0<D->jX [u,d*v*v,w,cu v] D m->0<=sgq (u*D-m*w) (v*D) d/\sgq (u*D-(m+1)*w) (v*D) d<0:=fun hD st=>by
   have h1:=st.1
   have h2:=st.2
   rw [B3 hW.ns hD] at h1 h2
   exact ⟨h1,h2⟩
  refine aA ⟨_,rfl,p,u,v,w,d,rfl,hp2,hW,fun b H3 s3 hb eb=>?_⟩
  have et3:=s3 _ _ et
  refine ⟨_,rfl,t,_,_,_,rfl,rfl,SqT.of et3,rfl,_,rfl,t,_,_,_,rfl,rfl,SqT.of et3,rfl,rK eb fun x q H4 s4 hx hNA hq hqn=>?_⟩
  have u4:=s3.trans s4
  have t4:=t2.trans u4
  show cW _ _ _ _ _
  refine dW (fun σ' H'=>∃ x:Addr,σ'=[some (.ref a),some (.ref p),some (.ref t),some (.ref x),none,none,none,none]/\Same H2 H'/\NSg 40 C CN H' x (cN u v w d) l1 l2 h1 h2 ε [u,d*v*v,w,cu v]) ?_ ?_
  case refine_2 =>
   intro rest
   refine ⟨_,rfl,a,ns,4,rfl,t4.seq hS,_,_,rfl,rfl,(by show (0:Int)<2;decide),_,_,rfl,rfl,_,rfl,aL (fun _=>?_) (fun _=>?_)⟩
   ·have et4:=u4 _ _ et
    refine cO ⟨_,rfl,_,rfl,_,rfl,a,ns,4,rfl,t4.seq hS,_,_,rfl,rfl,⟨by show (0:Int)<2;decide,dQ (by decide) (by decide)⟩,p,t,l,h,u,v,w,d,l1,l2,_,rfl,u4 _ _ hp2,hW,et4,hl.same u4,hE.l2p,hE.bl1,hE.bl2,hE.gl,fun mm A1 B1 D1 c hPad pk H5 s5 hpk ek=>?_⟩
    obtain ⟨hM,hfl,hOW⟩:=DX hW m0 m1 hE hPad
    generalize whl c (usP (ag [u,d*v*v,w]) mm (A1++(B1++D1)))=kp at ek hM
    have u5:=u4.trans s5
    have et5:=u5 _ _ et
    refine ⟨_,rfl,t,_,_,_,rfl,rfl,SqT.of et5,rfl,_,rfl,t,_,_,_,rfl,rfl,SqT.of et5,rfl,pk,l,h,kp,c,_,_,_,_,l1,l2,h1,h2,rfl,ek,hl.same u5,hh.same u5,hM,hfl,hOW,fun x q H6 s6 hx hNA hq hqn=>?_⟩
    rw [<- eLs] at hq
    exact rest _ _ ⟨x,rfl,u5.trans s6,mk (u5.trans s6) hNA hq⟩
   ·exact rest _ _ ⟨x,rfl,u4,mk u4 hNA hq⟩
  clear hq hNA hqn hx t4 u4 s4 et3 s3 eb hb
  rintro σ' H5 ⟨x,rfl,u5,hN⟩
  have t5:=t2.trans u5
  have hp5:=u5 _ _ hp2
  refine aA ⟨_,rfl,a,ns,5,rfl,t5.seq hS,?_⟩
  generalize ns.getD 5 0=c
  refine aA ⟨_,rfl,_,_,rfl,rfl,⟨by show (0:Int)<3;decide,dQ (by decide) (by decide)⟩,_,_,rfl,rfl,⟨by decide,by decide,by decide⟩,_,_,rfl,rfl,⟨by decide,by decide,by decide⟩,by show 3<=sizeLine;decide,fun pw hpw=>?_⟩
  obtain ⟨vz,hvz,evz⟩:=uo (xs:=[V.int 30,V.int (10^9),V.int (10^60)]) (n:=3) rfl (by decide) c
  obtain ⟨z,rfl,hz0,hz1⟩:∃ z:Int,vz=.int z/\30<=z/\z<=10^60:=by
   simp only [List.mem_cons,List.not_mem_nil,or_false] at hvz
   rcases hvz with rfl | rfl | rfl
   ·exact ⟨_,rfl,by decide,by decide +kernel⟩
   ·exact ⟨_,rfl,by decide +kernel,by decide +kernel⟩
   ·exact ⟨_,rfl,by decide +kernel,Int.le_refl _⟩
  have s7:Same H5 (upd H5 pw (.lst [V.int 30,V.int (10^9),V.int (10^60)])):=Same.upd_new hpw
  obtain ⟨r0,r1⟩:=gI (x:=c/3) (m:=z) (by omega)
  have b60:Bits 205 ((10:Int)^60):=by show ((10:Int)^60).natAbs<2^205;decide +kernel
  have bB:Bits 210 (1+c/3%z):=by
   refine (b60.mono (k:=210) (by decide)).of_le ?_
   omega
  refine ⟨_,rfl,_,_,rfl,rfl,(by show (0:Int)<3;decide),pw,_,_,_,rfl,rfl,SqL.of au,evz,_,_,rfl,rfl,(by show (0:Int)<z;omega),_,_,rfl,rfl,?_⟩
  refine mV (H2:=upd H5 pw (.lst [V.int 30,V.int (10^9),V.int (10^60)])) rfl ?_
  generalize upd H5 pw (.lst [V.int 30,V.int (10^9),V.int (10^60)])=H6 at s7 ⊢
  have hp6:=s7 _ _ hp5
  have t6:=t5.trans s7
  show cW _ _ _ _ _
  refine dW (fun σ' H'=>∃ D:Int,σ'=[some (.ref a),some (.ref p),some (.ref t),some (.ref x),some (.int c),some (.int D),none,none]/\H6=H'/\0<D/\Bits 210 D) ?_ ?_
  case refine_2 =>
   intro rest
   refine ⟨_,rfl,a,ns,6,rfl,t6.seq hS,_,_,rfl,rfl,(by show (0:Int)<4;decide),_,_,rfl,rfl,_,rfl,aL (fun _=>?_) (fun _=>?_)⟩
   ·obtain ⟨e0,e1⟩:=gI (x:=c) (m:=100) (by decide)
    have b1:Bits 10 (1+c%100):=by show (1+c%100).natAbs<2^10;omega
    have bD:Bits 210 (w*(1+c%100)):=(hW.bw.mul b1).mono
    refine cO ⟨_,rfl,p,_,_,_,rfl,rfl,SqT.of hp6,rfl,_,rfl,_,_,rfl,rfl,(by show (0:Int)<100;decide),_,_,rfl,rfl,_,_,rfl,rfl,⟨hW.bw.mono,b1.mono⟩,rest _ _ ⟨_,rfl,rfl,Int.mul_pos hW.w1 (by omega),bD⟩⟩
   ·exact rest _ _ ⟨_,rfl,rfl,by omega,bB⟩
  rintro σ' H' ⟨D,rfl,rfl,hD,bD⟩
  clear bB b60 r0 r1 hz0 hz1 evz hvz hpw
  have hN6:=hN.same s7
  refine aA ⟨_,rfl,_,rfl,x,cN u v w d,l1,l2,h1,h2,ε,D,[u,d*v*v,w,cu v],rfl,hN6,gT.1,gT.2.1,gT.2.2.1,gT.2.2.2,hD,bD,fun m H7 s8 st bm=>?_⟩
  obtain ⟨g1,g2⟩:=sd hD st
  have hp7:=s8 _ _ hp6
  refine bz (De (qS ⟨_,rfl,_,rfl,_,rfl,m,p,u,v,w,d,D,rfl,hp7,hW,bm,bD,g1,g2,⟨_,rfl,dU ?_⟩⟩))
  refine qS ⟨_,rfl,x,cN u v w d,l1,l2,h1,h2,ε,1,[u,d*v*v,w,cu v],rfl,hN6.same s8,gT.1,gT.2.1,gT.2.2.1,gT.2.2.2,by decide,b1k (by decide),fun m1' H8 s9 st1 bm1=>?_⟩
  obtain ⟨g3,g4⟩:=sd (by decide) st1
  have t8:=s8.trans s9
  refine ⟨_,rfl,m1',p,u,v,w,d,1,rfl,s9 _ _ hp7,hW,bm1,b1k (by decide),g3,g4,⟨_,rfl,dU ?_⟩⟩
  refine aA ⟨_,rfl,_,rfl,x,cN u v w d,l1,l2,h1,h2,ε,D,[u,d*v*v,w,cu v],rfl,hN6.same t8,gT.1,gT.2.1,gT.2.2.1,gT.2.2.2,hD,bD,fun m' H9 s10 st' bm'=>?_⟩
  have em:=BP hsp hD st' st
  subst em
  refine aU (xz ⟨_,rfl,m',rfl,⟨_,rfl,mU ?_⟩⟩)
  refine ⟨_,rfl,_,rfl,_,_,rfl,rfl,?_⟩
  have e:decide (m'=m')=true:=decide_eq_true rfl
  show Q (.bl (decide (m'=m'))) H9
  rw [e]
  exact k H9
end
def FnL (K:PySem.W.Frag) (n:Str) (st:Stmt):Prop:=∃ f fd,PySem.W.nsIn K mainGlobals n=some (some (.ref f))/\Fun K n n st f fd
def MtL (K:PySem.W.Frag) (C:Addr) (n q:Str) (st:Stmt):Prop:=∃ f fd,PySem.W.findIn K (.ref C) n=some (some (.ref f))/\PySem.W.isFn K (.ref f)=true/\Fun K n q st f fd
structure ClL (K:PySem.W.Frag) (n:Str) (C:Addr):Prop where
 a:PySem.W.nsIn K mainGlobals n=some (some (.ref C))
 pg:PySem.W.plainGet K C Str.empty=true
 hd:PySem.W.hasDictIn K C=true
 po:PySem.W.plainOver K C=true
 sa:PySem.W.findIn K (.ref C) "__setattr__"=some (some (.builtin "object.__setattr__"))
 mkr:PySem.W.makesIn K C=true
 kc:PySem.W.keepIn K (.ref C)=true
 ha:PySem.W.findIn K (.ref C) "__class__"=some (some (.builtin "object.__class__"))
 hn:PySem.W.specialIn K (.builtin "object.__class__") "__get__"=some (some (.builtin "getset_descriptor.__get__"))
 ht:PySem.W.takesIn K (.builtin "object.__class__")=some true
 hm:PySem.W.mroIn K C (.type "object")=some true
section
variable {P:Program} {w:World} {K:PySem.W.Frag} {mg:Str->Option Value} {h base:Heap} {n q:Str} {st:Stmt} {f C:Addr} {oc kV dc pm cd ct:Value} {od an:Option Addr} {sl:Array (Option Value)} {fd:FuncData} {k:Nat} {ps:List Str} {sp:Sp}
theorem fnL (a:PySem.W.nsIn K mainGlobals n=some (some (.ref f))) (l:K.lookup f=some ⟨oc,od,.func (PySem.W.fnOf n n (dB st) (de st) (aD st) .none kV dc pm an cd ct),sl⟩) (c:PySem.W.codeIn K cd n=true) (k:PySem.W.keepIn K (.ref f)=true):FnL K n st:=⟨_,_,a,zt l c k⟩
theorem mtL (a:PySem.W.findIn K (.ref C) n=some (some (.ref f))) (i:PySem.W.isFn K (.ref f)=true) (l:K.lookup f=some ⟨oc,od,.func (PySem.W.fnOf n q (dB st) (de st) (aD st) .none kV dc pm an cd ct),sl⟩) (c:PySem.W.codeIn K cd q=true) (k:PySem.W.keepIn K (.ref f)=true):MtL K C n q st:=⟨_,_,a,i,zt l c k⟩
def Bx (P:Program) (w:World) (base:Heap):Prop:=P=P/\w=w/\base=base
def BdR (n q:Str) (st:Stmt) (ps:List Str):Prop:=∀ (kV doc pm:Value) (an:Option Addr) (cdv ct:Value) (us:List Value),us.length=ps.length->bindArgs (PySem.W.fnOf n q (dB st) (de st) (aD st) .none kV doc pm an cdv ct) ⟨us,[]⟩=pure (ps.zip us)
theorem cal (_:Bx P w base) (X:K.In h) (G:h.Ns mainGlobals mg) (a:PySem.W.nsIn K mainGlobals n=some (some (.ref f))) (F:Fun K n n st f fd) (o:FnOk P w K mg base CX0 k f fd ps sp) (b:BdR n n st ps):Cal P w K mg base k n ps sp f fd:=⟨o,PySem.W.mg_of X G a,F.kp,F.binds b⟩
theorem kO (_:Bx P w base) (a:PySem.W.findIn K (.ref C) n=some (some (.ref f))) (i:PySem.W.isFn K (.ref f)=true) (F:Fun K n q st f fd) (o:FnOk P w K mg base CX0 k f fd ps sp) (b:BdR n q st ps):MCal P w K mg base k C n ps sp f fd:=⟨o,⟨a,i,F.kp⟩,F.binds b⟩
theorem us1 {A:List Value->Prop} (h:∀ a,A [a]):∀ us:List Value,us.length=1->A us
 | [a],_=>h a
theorem us2 {A:List Value->Prop} (h:∀ a b,A [a,b]):∀ us:List Value,us.length=2->A us
 | [a,b],_=>h a b
theorem us3 {A:List Value->Prop} (h:∀ a b c,A [a,b,c]):∀ us:List Value,us.length=3->A us
 | [a,b,c],_=>h a b c
theorem us4 {A:List Value->Prop} (h:∀ a b c d,A [a,b,c,d]):∀ us:List Value,us.length=4->A us
 | [a,b,c,d],_=>h a b c d
end
theorem all_mk {l:PySem.W.OpenLaw} {w:World} {K:PySem.W.Frag} {h:Heap} {mg:Str->Option Value} {fa CC1 CC2 f4 dt4 f53 dt53:Addr} (X:K.In h) (G:h.Ns mainGlobals mg) (hfa:mg "law"=some (.ref fa))
 {od4 an4 odt4 od53 an53 odt53:Option Addr} {sl4 slt4 sl53 slt53:Array (Option Value)} {oc4 kV4 dc4 pm4 cd4 ct4 oct4 oc53 kV53 dc53 pm53 cd53 ct53 oct53:Value} {nt4:Nat} {tk4_0:Tok} {nt53:Nat} {tk_HIGHEST:Tok}
 (cc1:ClL K "Ratio" CC1)
 (n1_top:PySem.W.findIn K (.ref CC1) "top"=some none)
 (n1_bottom:PySem.W.findIn K (.ref CC1) "bottom"=some none)
 (cc2:ClL K "Number" CC2)
 (n2_poly:PySem.W.findIn K (.ref CC2) "poly"=some none)
 (n2_low:PySem.W.findIn K (.ref CC2) "low"=some none)
 (n2_high:PySem.W.findIn K (.ref CC2) "high"=some none)
 (a4:PySem.W.findIn K (.ref CC1) "__init__"=some (some (.ref f4))) (i4:PySem.W.isFn K (.ref f4)=true)
 (l4:K.lookup f4=some ⟨oc4,od4,.func (PySem.W.fnOf "__init__" "Ratio.__init__" (dB jr) (de jr) (aD jr) (.ref dt4) kV4 dc4 pm4 an4 cd4 ct4),sl4⟩) (c4:PySem.W.codeIn K cd4 "Ratio.__init__"=true) (k4:PySem.W.keepIn K (.ref f4)=true)
 (t4:K.lookup dt4=some ⟨oct4,odt4,.seq #[.int 1 tk4_0] nt4,slt4⟩)
 (a53:PySem.W.nsIn K mainGlobals "number"=some (some (.ref f53)))
 (l53:K.lookup f53=some ⟨oc53,od53,.func (PySem.W.fnOf "number" "number" (dB jq) (de jq) (aD jq) (.ref dt53) kV53 dc53 pm53 an53 cd53 ct53),sl53⟩) (c53:PySem.W.codeIn K cd53 "number"=true) (k53:PySem.W.keepIn K (.ref f53)=true)
 (t53:K.lookup dt53=some ⟨oct53,odt53,.seq #[.none,.none] nt53,slt53⟩)
 (aI_HIGHEST:PySem.W.nsIn K mainGlobals "HIGHEST"=some (some (.int 8 tk_HIGHEST)))
 (z0:PySem.W.nsIn K mainGlobals "abs"=some none)
 (z1:PySem.W.nsIn K mainGlobals "len"=some none)
 (z2:PySem.W.nsIn K mainGlobals "max"=some none)
 (z3:PySem.W.nsIn K mainGlobals "range"=some none)
 (z4:PySem.W.nsIn K mainGlobals "enumerate"=some none)
 (z5:PySem.W.nsIn K mainGlobals "reversed"=some none)
 (z6:PySem.W.nsIn K mainGlobals "list"=some none)
 (z7:PySem.W.nsIn K mainGlobals "sum"=some none)
 (z8:PySem.W.nsIn K mainGlobals "any"=some none)
 (z9:PySem.W.nsIn K mainGlobals "isinstance"=some none)
 (z10:PySem.W.nsIn K mainGlobals "int"=some none)
 (z11:PySem.W.nsIn K mainGlobals "bool"=some none)
 (l1:FnL K "shared_by_two" pH)
 (l2:FnL K "shared" pI)
 (l3:FnL K "whole_sign" pd)
 (l5:MtL K CC1 "against" "Ratio.against" qM)
 (l6:FnL K "poly" pO)
 (l7:FnL K "degree" qi)
 (l8:FnL K "coefficient" qm)
 (l9:FnL K "taken" pj)
 (l10:FnL K "slope" pF)
 (l11:FnL K "shrunk" mR)
 (l12:FnL K "plain" pP)
 (l13:FnL K "scaled" pJ)
 (l14:FnL K "lowered" p8)
 (l15:FnL K "divided" qh)
 (l16:FnL K "value_parts" pe)
 (l17:FnL K "sign_at" pG)
 (l18:FnL K "row_from" pL)
 (l19:FnL K "row_of" pK)
 (l20:FnL K "changes" qo)
 (l21:FnL K "count" qj)
 (l22:FnL K "bound" qq)
 (l23:FnL K "common" qk)
 (l24:FnL K "part" pQ)
 (l25:FnL K "refuse_high" pM)
 (l26:FnL K "without_squares" pb)
 (l27:MtL K CC2 "__init__" "Number.__init__" qN)
 (l28:FnL K "fine_width" qf)
 (l29:MtL K CC1 "floor" "Ratio.floor" qL)
 (l30:FnL K "middle" pY)
 (l31:FnL K "cells" qp)
 (l32:FnL K "divides" qg)
 (l33:FnL K "added" qv)
 (l34:FnL K "multiplied" pV)
 (l35:MtL K CC1 "plus" "Ratio.plus" qJ)
 (l36:MtL K CC1 "minus" "Ratio.minus" qK)
 (l37:MtL K CC1 "times" "Ratio.times" qI)
 (l38:FnL K "times_floor" pi)
 (l39:FnL K "span_product" pD)
 (l40:FnL K "square_of" pB)
 (l41:FnL K "line_of" qa)
 (l42:FnL K "halvings" qd)
 (l43:FnL K "stretched" px)
 (l44:FnL K "spread" pC)
 (l45:FnL K "moved" pX)
 (l46:FnL K "halved" qe)
 (l47:FnL K "along" qt)
 (l48:FnL K "narrowed" pT)
 (l49:FnL K "many_within" pZ)
 (l50:FnL K "refuse_great" pN)
 (l51:FnL K "least" qb)
 (l52:FnL K "number_in" pR)
 (l54:FnL K "span_of" pE)
 (l55:FnL K "narrow" pU)
 (l56:FnL K "beside" qr)
 (l57:FnL K "against" qu)
 (l58:FnL K "steps" pA)
 (l59:FnL K "_law_cell_at" qG)
 (l60:FnL K "_law_whole" qx)
 (l61:FnL K "_law_divisor" qF)
 (l62:FnL K "_law_sign" qA)
 (l63:FnL K "_law_plain" qC)
 (l64:FnL K "_law_least" qE)
 (l65:FnL K "_law_amount" qH)
 (l66:FnL K "_law_worth" qw)
 (l67:FnL K "_law_span" qz)
 (l68:FnL K "_law_times" qy)
 (l69:FnL K "_law_padded" qD)
 (l70:FnL K "_law_right" qB)
 (l71:FnL K "law" qc)
 (hTr:l.prog.given.tree=none)
 : ∃ fd:FuncData,(∀ (s:Shared) (v:Value),BindsTo s fd ⟨[v],[]⟩ [("_law_script",v)])/\∀ base:Heap,K.In base->base.Ns mainGlobals mg->base.NoSeer->FnOk l.prog w K mg base CX0 40 fa fd ["_law_script"] (mE K):=by
 obtain ⟨_,_,a1,F1⟩:=l1
 obtain ⟨_,_,a2,F2⟩:=l2
 obtain ⟨_,_,a3,F3⟩:=l3
 obtain ⟨_,_,a5,i5,F5⟩:=l5
 obtain ⟨_,_,a6,F6⟩:=l6
 obtain ⟨_,_,a7,F7⟩:=l7
 obtain ⟨_,_,a8,F8⟩:=l8
 obtain ⟨_,_,a9,F9⟩:=l9
 obtain ⟨_,_,a10,F10⟩:=l10
 obtain ⟨_,_,a11,F11⟩:=l11
 obtain ⟨_,_,a12,F12⟩:=l12
 obtain ⟨_,_,a13,F13⟩:=l13
 obtain ⟨_,_,a14,F14⟩:=l14
 obtain ⟨_,_,a15,F15⟩:=l15
 obtain ⟨_,_,a16,F16⟩:=l16
 obtain ⟨_,_,a17,F17⟩:=l17
 obtain ⟨_,_,a18,F18⟩:=l18
 obtain ⟨_,_,a19,F19⟩:=l19
 obtain ⟨_,_,a20,F20⟩:=l20
 obtain ⟨_,_,a21,F21⟩:=l21
 obtain ⟨_,_,a22,F22⟩:=l22
 obtain ⟨_,_,a23,F23⟩:=l23
 obtain ⟨_,_,a24,F24⟩:=l24
 obtain ⟨_,_,a25,F25⟩:=l25
 obtain ⟨_,_,a26,F26⟩:=l26
 obtain ⟨_,_,a27,i27,F27⟩:=l27
 obtain ⟨_,_,a28,F28⟩:=l28
 obtain ⟨_,_,a29,i29,F29⟩:=l29
 obtain ⟨_,_,a30,F30⟩:=l30
 obtain ⟨_,_,a31,F31⟩:=l31
 obtain ⟨_,_,a32,F32⟩:=l32
 obtain ⟨_,_,a33,F33⟩:=l33
 obtain ⟨_,_,a34,F34⟩:=l34
 obtain ⟨_,_,a35,i35,F35⟩:=l35
 obtain ⟨_,_,a36,i36,F36⟩:=l36
 obtain ⟨_,_,a37,i37,F37⟩:=l37
 obtain ⟨_,_,a38,F38⟩:=l38
 obtain ⟨_,_,a39,F39⟩:=l39
 obtain ⟨_,_,a40,F40⟩:=l40
 obtain ⟨_,_,a41,F41⟩:=l41
 obtain ⟨_,_,a42,F42⟩:=l42
 obtain ⟨_,_,a43,F43⟩:=l43
 obtain ⟨_,_,a44,F44⟩:=l44
 obtain ⟨_,_,a45,F45⟩:=l45
 obtain ⟨_,_,a46,F46⟩:=l46
 obtain ⟨_,_,a47,F47⟩:=l47
 obtain ⟨_,_,a48,F48⟩:=l48
 obtain ⟨_,_,a49,F49⟩:=l49
 obtain ⟨_,_,a50,F50⟩:=l50
 obtain ⟨_,_,a51,F51⟩:=l51
 obtain ⟨_,_,a52,F52⟩:=l52
 obtain ⟨_,_,a54,F54⟩:=l54
 obtain ⟨_,_,a55,F55⟩:=l55
 obtain ⟨_,_,a56,F56⟩:=l56
 obtain ⟨_,_,a57,F57⟩:=l57
 obtain ⟨_,_,a58,F58⟩:=l58
 obtain ⟨_,_,a59,F59⟩:=l59
 obtain ⟨_,_,a60,F60⟩:=l60
 obtain ⟨_,_,a61,F61⟩:=l61
 obtain ⟨_,_,a62,F62⟩:=l62
 obtain ⟨_,_,a63,F63⟩:=l63
 obtain ⟨_,_,a64,F64⟩:=l64
 obtain ⟨_,_,a65,F65⟩:=l65
 obtain ⟨_,_,a66,F66⟩:=l66
 obtain ⟨_,_,a67,F67⟩:=l67
 obtain ⟨_,_,a68,F68⟩:=l68
 obtain ⟨_,_,a69,F69⟩:=l69
 obtain ⟨_,_,a70,F70⟩:=l70
 obtain ⟨_,fdL,a71,F71⟩:=l71
 cases hfa.symm.trans (PySem.W.mg_of X G a71)
 have T:Txt K mg:=⟨PySem.W.mg_none_of X G z0,PySem.W.mg_none_of X G z1,PySem.W.mg_none_of X G z2,PySem.W.mg_none_of X G z3,PySem.W.mg_none_of X G z4,PySem.W.mg_none_of X G z5,PySem.W.mg_none_of X G z6,PySem.W.mg_none_of X G z7,PySem.W.mg_none_of X G z8,PySem.W.mg_none_of X G z9,PySem.W.mg_none_of X G z10,PySem.W.mg_none_of X G z11,⟨_,PySem.W.mg_of X G aI_HIGHEST⟩⟩
 have R1:RCI K mg CC1:=⟨⟨cc1.pg,cc1.hd,cc1.po,cc1.sa⟩,n1_top,n1_bottom,PySem.W.mg_of X G cc1.a,cc1.ha,cc1.hn,cc1.ht,cc1.hm⟩
 have R2:NCI K mg CC2:=⟨⟨cc2.pg,cc2.hd,cc2.po,cc2.sa⟩,n2_poly,n2_low,n2_high,PySem.W.mg_of X G cc2.a,cc2.ha,cc2.hn,cc2.ht,cc2.hm⟩
 have F4:=zu (st:=jr) l4 c4 k4
 have b4:=FunD.bindsD (ps:=["self","top","bottom"]) (ds:=[]) (tup:=[.int 1 tk4_0]) 3 F4 t4 rfl rfl fun _ _ _ _ _ _=>us3 fun _ _ _=>⟨_,rfl,rfl⟩
 have bD4:=FunD.bindsD (ps:=["self","top","bottom"]) (ds:=[.int 1 tk4_0]) (tup:=[.int 1 tk4_0]) 2 F4 t4 rfl rfl fun _ _ _ _ _ _=>us2 fun _ _=>⟨_,rfl,rfl⟩
 have F53:=zu (st:=jq) l53 c53 k53
 have b53:=FunD.bindsD (ps:=["row","low","high"]) (ds:=[]) (tup:=[.none,.none]) 3 F53 t53 rfl rfl fun _ _ _ _ _ _=>us3 fun _ _ _=>⟨_,rfl,rfl⟩
 have bD53:=FunD.bindsD (ps:=["row","low","high"]) (ds:=[.none,.none]) (tup:=[.none,.none]) 1 F53 t53 rfl rfl fun _ _ _ _ _ _=>us1 fun _=>⟨_,rfl,rfl⟩
 obtain ⟨_,_,_,_,_,_,_,_,_,e,_,_⟩:=F71.ex
 refine ⟨fdL,fun s v=>.of_eq (by rw [e];rfl),fun base KB GB hNS=>?_⟩
 have Z:Bx l.prog w base:=⟨rfl,rfl,rfl⟩
 have C1:=cal Z X G a1 F1 (Ej F1 T) fun _ _ _ _ _ _=>us2 fun _ _=>rfl
 have C2:=cal Z X G a2 F2 (Ek F2 T C1) fun _ _ _ _ _ _=>us1 fun _=>rfl
 have C3:=cal Z X G a3 F3 (D6 F3 T) fun _ _ _ _ _ _=>us1 fun _=>rfl
 have K1:KCal l.prog w K mg base 2 CC1 "Ratio" ["self","top","bottom"] (da CC1) _ _ _ [.int 1]:=⟨Fk F4 T R1 C1,⟨cc1.mkr,a4,i4,cc1.kc⟩,PySem.W.mg_of X G cc1.a,b4,bD4,.cons ⟨_,rfl⟩ .nil⟩
 have C5:=kO Z a5 i5 F5 (Fj F5 T R1 C3) fun _ _ _ _ _ _=>us2 fun _ _=>rfl
 have C6:=cal Z X G a6 F6 (Er F6 T) fun _ _ _ _ _ _=>us1 fun _=>rfl
 have C7:=cal Z X G a7 F7 (EO F7 T) fun _ _ _ _ _ _=>us1 fun _=>rfl
 have C8:=cal Z X G a8 F8 (ES F8 T) fun _ _ _ _ _ _=>us2 fun _ _=>rfl
 have C9:=cal Z X G a9 F9 (D9 F9 T C6 C8) fun _ _ _ _ _ _=>us2 fun _ _=>rfl
 have C10:=cal Z X G a10 F10 (Eg F10 T) fun _ _ _ _ _ _=>us1 fun _=>rfl
 have C11:=cal Z X G a11 F11 (Ei F11 T hNS hTr C2) fun _ _ _ _ _ _=>us1 fun _=>rfl
 have C12:=cal Z X G a12 F12 (Et F12 T C11) fun _ _ _ _ _ _=>us1 fun _=>rfl
 have C13:=cal Z X G a13 F13 (El F13 T) fun _ _ _ _ _ _=>us2 fun _ _=>rfl
 have C14:=cal Z X G a14 F14 (ED F14 T) fun _ _ _ _ _ _=>us4 fun _ _ _ _=>rfl
 have C15:=cal Z X G a15 F15 (EN F15 T C3 C7 C13 C14 C6) fun _ _ _ _ _ _=>us2 fun _ _=>rfl
 have C16:=cal Z X G a16 F16 (D7 F16 T) fun _ _ _ _ _ _=>us3 fun _ _ _=>rfl
 have C17:=cal Z X G a17 F17 (Eh F17 T R1 C16 C3) fun _ _ _ _ _ _=>us2 fun _ _=>rfl
 have C18:=cal Z X G a18 F18 (En F18 T C11 C15 C9) fun _ _ _ _ _ _=>us2 fun _ _=>rfl
 have C19:=cal Z X G a19 F19 (Em F19 T C18 C10) fun _ _ _ _ _ _=>us1 fun _=>rfl
 have C20:=cal Z X G a20 F20 (ET F20 T R1 C17) fun _ _ _ _ _ _=>us2 fun _ _=>rfl
 have C21:=cal Z X G a21 F21 (EQ F21 T R1 C20) fun _ _ _ _ _ _=>us3 fun _ _ _=>rfl
 have C22:=cal Z X G a22 F22 (EV F22 T) fun _ _ _ _ _ _=>us1 fun _=>rfl
 have C23:=cal Z X G a23 F23 (ER F23 T C12 C15) fun _ _ _ _ _ _=>us2 fun _ _=>rfl
 have C24:=cal Z X G a24 F24 (Eu F24 T C15 C12) fun _ _ _ _ _ _=>us2 fun _ _=>rfl
 have C25:=cal Z X G a25 F25 (Eo F25 T) fun _ _ _ _ _ _=>us1 fun _=>rfl
 have C26:=cal Z X G a26 F26 (D5 F26 T C24 C23 C10) fun _ _ _ _ _ _=>us1 fun _=>rfl
 have b27:Binds K _ ["self","row","low","high"] []:=F27.binds (fun _ _ _ _ _ _=>us4 fun _ _ _ _=>rfl)
 have K2:KCal l.prog w K mg base 1 CC2 "Number" ["self","row","low","high"] (jn CC2) _ _ _ []:=⟨Fl F27 T R2,⟨cc2.mkr,a27,i27,cc2.kc⟩,PySem.W.mg_of X G cc2.a,b27,b27,.nil⟩
 have C28:=cal Z X G a28 F28 (EJ F28 T R1 K1 C22) fun _ _ _ _ _ _=>us1 fun _=>rfl
 have C29:=kO Z a29 i29 F29 (Fi F29 T R1) fun _ _ _ _ _ _=>us1 fun _=>rfl
 have C30:=cal Z X G a30 F30 (EB F30 T R1 K1) fun _ _ _ _ _ _=>us2 fun _ _=>rfl
 have C31:=cal Z X G a31 F31 (EU F31 T R1 C7 C19 K1 C22 C20 C30) fun _ _ _ _ _ _=>us1 fun _=>rfl
 have C32:=cal Z X G a32 F32 (EK F32 T C15) fun _ _ _ _ _ _=>us2 fun _ _=>rfl
 have C33:=cal Z X G a33 F33 (EZ F33 T C6 C8) fun _ _ _ _ _ _=>us2 fun _ _=>rfl
 have C34:=cal Z X G a34 F34 (Ez F34 T) fun _ _ _ _ _ _=>us2 fun _ _=>rfl
 have C35:=kO Z a35 i35 F35 (Fg F35 T R1 K1) fun _ _ _ _ _ _=>us2 fun _ _=>rfl
 have C36:=kO Z a36 i36 F36 (Fh F36 T R1 K1) fun _ _ _ _ _ _=>us2 fun _ _=>rfl
 have C37:=kO Z a37 i37 F37 (Ff F37 T R1 K1) fun _ _ _ _ _ _=>us2 fun _ _=>rfl
 have C38:=cal Z X G a38 F38 (D8 F38 T R1 K1 C37 C29) fun _ _ _ _ _ _=>us2 fun _ _=>rfl
 have C39:=cal Z X G a39 F39 (Ee F39 T R1 C37 C5) fun _ _ _ _ _ _=>us2 fun _ _=>rfl
 have C40:=cal Z X G a40 F40 (Ec F40 T R1 C38 C35 C39 C12) fun _ _ _ _ _ _=>us3 fun _ _ _=>rfl
 have C41:=cal Z X G a41 F41 (EE F41 T R1 K1 C38 C5 C17) fun _ _ _ _ _ _=>us2 fun _ _=>rfl
 have C42:=cal Z X G a42 F42 (EH F42 T R1) fun _ _ _ _ _ _=>us2 fun _ _=>rfl
 have C43:=cal Z X G a43 F43 (Ea F43 T R1 C2 C33 C34 C6) fun _ _ _ _ _ _=>us3 fun _ _ _=>rfl
 have C44:=cal Z X G a44 F44 (Ed F44 T) fun _ _ _ _ _ _=>us1 fun _=>rfl
 have C45:=cal Z X G a45 F45 (EA F45 T C7) fun _ _ _ _ _ _=>us1 fun _=>rfl
 have C46:=cal Z X G a46 F46 (EI F46 T C44 C3 C45) fun _ _ _ _ _ _=>us3 fun _ _ _=>rfl
 have C47:=cal Z X G a47 F47 (EX F47 T R1 C35 C37 K1) fun _ _ _ _ _ _=>us4 fun _ _ _ _=>rfl
 have C48:=cal Z X G a48 F48 (Ex F48 T R1 C36 C42 C46 C43 C17 C47) fun _ _ _ _ _ _=>us4 fun _ _ _ _=>rfl
 have C49:=cal Z X G a49 F49 (EC F49 T R1 C5 C21 C19) fun _ _ _ _ _ _=>us3 fun _ _ _=>rfl
 have C50:=cal Z X G a50 F50 (Ep F50 T) fun _ _ _ _ _ _=>us1 fun _=>rfl
 have C51:=cal Z X G a51 F51 (EF F51 T C12 C7 C28 C48 C41 C31 C40 C32 C21 C19) fun _ _ _ _ _ _=>us3 fun _ _ _=>rfl
 have C52:=cal Z X G a52 F52 (Ev F52 T R1 C51 C17 C48 C36 C37 K1 K2) fun _ _ _ _ _ _=>us3 fun _ _ _=>rfl
 have C53:CalE l.prog w K mg base 39 "number" ["row","low","high"] (oS CC1 CC2) _ _ _ [.non,.non]:=⟨Ew F53 T R1 C25 C7 K1 C22 C26 C49 C50 C52,PySem.W.mg_of X G a53,k53,b53,bD53,.cons rfl (.cons rfl (.nil))⟩
 have C54:=cal Z X G a54 F54 (Ef F54 T R1 R2 C48) fun _ _ _ _ _ _=>us2 fun _ _=>rfl
 have C55:=cal Z X G a55 F55 (Ey F55 T R1 R2 C54 K2) fun _ _ _ _ _ _=>us2 fun _ _=>rfl
 have C56:=cal Z X G a56 F56 (EW F56 T R1 R2 C17) fun _ _ _ _ _ _=>us2 fun _ _=>rfl
 have C57:=cal Z X G a57 F57 (EY F57 T R1 R2 C5 C56 C17) fun _ _ _ _ _ _=>us2 fun _ _=>rfl
 have C58:=cal Z X G a58 F58 (Eb F58 T R1 R2 C55 K1 C37 C29 C57) fun _ _ _ _ _ _=>us2 fun _ _=>rfl
 have C59:=cal Z X G a59 F59 (Fd F59 T) fun _ _ _ _ _ _=>us2 fun _ _=>rfl
 have C60:=cal Z X G a60 F60 (E4 F60 T) fun _ _ _ _ _ _=>us1 fun _=>rfl
 have C61:=cal Z X G a61 F61 (Fc F61 T) fun _ _ _ _ _ _=>us2 fun _ _=>rfl
 have C62:=cal Z X G a62 F62 (E7 F62 T) fun _ _ _ _ _ _=>us3 fun _ _ _=>rfl
 have C63:=cal Z X G a63 F63 (E9 F63 T C61) fun _ _ _ _ _ _=>us1 fun _=>rfl
 have C64:=cal Z X G a64 F64 (Fb F64 T C63) fun _ _ _ _ _ _=>us1 fun _=>rfl
 have C65:=cal Z X G a65 F65 (Fe F65 T) fun _ _ _ _ _ _=>us1 fun _=>rfl
 have C66:=cal Z X G a66 F66 (E3 F66 T C65 C59) fun _ _ _ _ _ _=>us2 fun _ _=>rfl
 have C67:=cal Z X G a67 F67 (E6 F67 T R1 K1) fun _ _ _ _ _ _=>us2 fun _ _=>rfl
 have C68:=cal Z X G a68 F68 (E5 F68 T) fun _ _ _ _ _ _=>us2 fun _ _=>rfl
 have C69:=cal Z X G a69 F69 (Fa F69 T R1 C64 C68) fun _ _ _ _ _ _=>us3 fun _ _ _=>rfl
 have C70:=cal Z X G a70 F70 (E8 F70 T C60 C62) fun _ _ _ _ _ _=>us3 fun _ _ _=>rfl
 exact EG F71 T R1 R2 C66 C67 C59 C64 K2 C53 C69 C58 C70 C60
theorem walk {l:PySem.W.OpenLaw} {q:Program} {loose:List Str} {XP:(Str->Option Value)->Heap->Prop} {YP:World->Heap->Prop} {d:DefRec} {K:Params->PySem.W.Frag} (hi:PyProof.Rows.importsNone q=true) (hn:l.most=some 63) (hdf:d.params.defaults=[])
 (hY:∀ (w:World) (h:Heap),YP w h->(K w.params).In h)
 (F:∀ (w:World) (mg:Str->Option Value) (fa:Addr) (h:Heap),(K w.params).In h->h.Ns mainGlobals mg->mg d.name=some (.ref fa) ->
   ∃ fd:FuncData,(∀ (s:Shared) (u:Value),BindsTo s fd ⟨[u],[]⟩ [("_law_script",u)])/\∀ base:Heap,(K w.params).In base->base.Ns mainGlobals mg->base.NoSeer->FnOk l.prog w (K w.params) mg base CX0 40 fa fd ["_law_script"] (mE (K w.params))) :
 PySem.W.WalkO q loose XP YP l.row.toRowW d [] (fun f vs=>PySem.call f vs) :=
 L2.walk_ofS (n:=63) (k:=40) (x:="_law_script") (CX:=fun _=>CX0) (sp:=fun w=>mE (K w.params)) hi hn (by decide) hdf ⟨rfl,by decide,by decide⟩ hY F (fun _ _ a ns hl _ hS=>⟨a,ns,rfl,hS,hl,fun _=>rfl⟩) fun _ _ _ _ _ z=>z
section
end
end R71
open PySem PySem.W PyProof.Rows
set_option maxRecDepth 100000 in
set_option maxHeartbeats 0 in
theorem PySem.Challenge.cw_rootspan_k71_steps_holds : PySem.Challenge.rw_rootspan_k71_steps.Holds := by
 w_on;o_law;k_head;(case hw=>w_witness2)
 k_fill
 refine R71.walk (l:=PySem.Challenge.rw_rootspan_k71_steps) (by decide +kernel) rfl rfl (fun w h Y=>PySem.W.kIn_of Y) ?F
 case F =>
  intro w mg fa h KX G hmg
  refine' R71.all_mk KX G hmg ?cc1 ?n1_top ?n1_bottom ?cc2 ?n2_poly ?n2_low ?n2_high ?a4 ?i4 ?l4 ?c4 ?k4 ?t4 ?a53 ?l53 ?c53 ?k53 ?t53 ?aI_HIGHEST ?_ ?_ ?_ ?_ ?_ ?_ ?_ ?_ ?_ ?_ ?_ ?_ ?_ ?_ ?_ ?_ ?_ ?_ ?_ ?_ ?_ ?_ ?_ ?_ ?_ ?_ ?_ ?_ ?_ ?_ ?_ ?_ ?_ ?_ ?_ ?_ ?_ ?_ ?_ ?_ ?_ ?_ ?_ ?_ ?_ ?_ ?_ ?_ ?_ ?_ ?_ ?_ ?_ ?_ ?_ ?_ ?_ ?_ ?_ ?_ ?_ ?_ ?_ ?_ ?_ ?_ ?_ ?_ ?_ ?_ ?_ ?_ ?_ ?_ ?_ ?_ ?_ ?_ ?_ ?_ ?_ rfl
  (case cc1=>apply R71.ClL.mk<;>k_is)
  (case n1_top=>k_is)
  (case n1_bottom=>k_is)
  (case cc2=>apply R71.ClL.mk<;>k_is)
  (case n2_poly=>k_is)
  (case n2_low=>k_is)
  (case n2_high=>k_is)
  (case a4=>k_is)
  (case i4=>k_is)
  (case l4=>k_is)
  (case c4=>k_is)
  (case k4=>k_is)
  (case t4=>k_is)
  (case a53=>k_is)
  (case l53=>k_is)
  (case c53=>k_is)
  (case k53=>k_is)
  (case t53=>k_is)
  (case aI_HIGHEST=>k_is)
  all_goals first | (apply R71.fnL<;>k_is) | (apply R71.mtL<;>k_is) | k_is
