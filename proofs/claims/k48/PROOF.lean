import PyProof.Rows.All
import Wide.All
import OpenK.AllK
import Wide.FinOn
import Lean
import PyProof.EqAt
import PyProof.EqKinds
import PyProof.TupleCall
import PySem.Challenge.RW_rootspan_k48_side_of_a_polynomial
set_option Elab.async false
set_option linter.all false
set_option maxRecDepth 100000
local macro_rules | `(tactic| omega)=>`(tactic| first | lia | omega (splitDisjunctions:=true))
namespace PySem.W.Fast
def tw6371362586635471945:=()
def tw209737910279879660:=()
def tw1338828726260150842:=()
def tw13742581655674448598:=()
def tw14786307304877647653:=()
def tw10708996410935250308:=()
def tw3679913340226462353:=()
def tw14833917278011056226:=()
def tw9059700726418039454:=()
def tw12261777464439313183:=()
def tw4689868244893297355:=()
def tw5801373121162698053:=()
def tw15361411212926307275:=()
def tw4020182647857505493:=()
def tw15981329964836140627:=()
def tw2772500949369233369:=()
def tw6627329138428560444:=()
def tw11181705706606040960:=()
def tw18217929711334186806:=()
def tw4460508527247634028:=()
def tw17491464145020973486:=()
def tw12087599607392671929:=()
def tw5282711377492895639:=()
def tw7177726246699873584:=()
def tw10642813708500909276:=()
def tw726724037983584668:=()
def tw4222887743614703989:=()
def tw12098506283751421302:=()
def tw13119661091087220375:=()
def tw969635261148519843:=()
def tw3729923168242533109:=()
def tw6060803368772762643:=()
def tw17653155565561831057:=()
def tw6477310287357494983:=()
def tw14283078951398398795:=()
def tw15517326209655469064:=()
def tw11354657178308910066:=()
def tw11258520480225119821:=()
def tw17434244510371280558:=()
def tw6474405060873052115:=()
def tw5965816862567905542:=()
def tw3148977025147314706:=()
def tw12281103645345028532:=()
def tw5570765978022609420:=()
def tw603379845395112832:=()
def tw2517744087231012304:=()
def tw16681381918045060645:=()
def tw15835814476819685336:=()
def tw7116982908164785929:=()
def tw4222545404536711064:=()
def tw2859344822113772983:=()
def tw9059056584389727012:=()
def tw1482678234024270233:=()
def tw15937615303908434976:=()
def tw1004805777754913966:=()
def tw13547048034424618442:=()
def tw16016576923190568245:=()
def tw2257044780201523232:=()
def tw16511065872520617467:=()
def tw13900481135409565503:=()
def tw14268346720799152895:=()
def tw10109575089037696126:=()
def tw1038175063514232173:=()
def tw9272074198842629947:=()
def tw1933617606721554679:=()
def tw16247934495366221701:=()
def tw3136719744135274543:=()
def tw1851888973329440296:=()
def tw12229110459891751135:=()
def tw16727577729342238241:=()
def tw7091226694842491603:=()
def tw12743425557919494854:=()
def tw17744921298632815026:=()
def tw420217586990099467:=()
def tw7216640484815878698:=()
def tw8804387702922394531:=()
def tw16363982595422727116:=()
def tw15490454901972116111:=()
def tw15812114290406587654:=()
def tw10752035084765765796:=()
def tw7628925109575900786:=()
def tw3155247823341771594:=()
def tw17534757857195583722:=()
def tw10948244987383935187:=()
def tw2095249552190219397:=()
def tw14137573806048619340:=()
def tw9492612672169625341:=()
def tw1888296395759500122:=()
def tw167350942662168501:=()
def tw4856930012018015489:=()
def tw10483359743049617852:=()
def tw11033256910148816760:=()
def tw15304455912550706526:=()
def tw10797104049939348920:=()
def tw5562005528088912277:=()
def tw15810685170598271832:=()
def tw11721346328521744343:=()
def tw9153903439156640404:=()
def tw17779085738090807786:=()
def tw13561116211765027988:=()
def tw6954179232253737442:=()
def tw9313056842453938314:=()
def tw337422897991784313:=()
def tw10342347500277346125:=()
def tw11681062908674279447:=()
def tw657886736612384256:=()
def tw9197536736006022273:=()
def tw17449112660145897325:=()
def tw11767754425568382032:=()
def tw11964910972718927857:=()
def tw2694976146748822236:=()
def tw11134611502950231525:=()
def tw13097351459721844168:=()
def tw11671207278627682233:=()
def tw11459122913053402470:=()
def tw14262078334974230513:=()
def tw10529858744250039880:=()
def tw6189317981307300311:=()
def tw11039839572691240301:=()
def tw1315262185473096711:=()
def tw9010397381683525240:=()
def tw5087295389292644856:=()
def tw2988011869662256827:=()
def tw3784630263077794187:=()
def tw3898072050143271657:=()
def tw8568278727793299006:=()
def tw12935593218903656918:=()
def tw7138443503410895135:=()
def tw2574265397967973622:=()
def tw15616876166468548123:=()
def tw2803996180503302621:=()
def tw11151832291708923846:=()
def tw84729270336502562:=()
def tw12016313685787735983:=()
def tw4929419666816378040:=()
def tw6331063364655320787:=()
def tw11613361422046058508:=()
def tw1753770810881704081:=()
def tw3744250607532445292:=()
def tw16997279475320046632:=()
def tw13651539832133981639:=()
def tw10030581188623108232:=()
def tw13303689933136355757:=()
def tw7426800827622560224:=()
def tw17688478361382029126:=()
def tw2524871713183896666:=()
def tw8801191472932510438:=()
def tw11732607934566716114:=()
def tw7671866573272688226:=()
def tw2491660740101905749:=()
def tw14333292635537187587:=()
def tw8039447859033086332:=()
def tw4932221213521664793:=()
def tw12949495574330748853:=()
def tw13848212677889634285:=()
def tw8707748439976422233:=()
def tw7242163433922750073:=()
def tw10052117427464247452:=()
def tw14997055758801403182:=()
def tw4981921858414384013:=()
def tw10814822276225868430:=()
def tw96401981367818918:=()
def tw10734956508255099256:=()
def tw1902271315590041812:=()
def tw12651279712860903552:=()
def tw11865824839985132525:=()
def tw13401662505011484324:=()
def tw6998618645680137182:=()
def tw9471192885744109950:=()
def tw13992100555642041697:=()
def tw11547330209406463545:=()
def tw17924798058224892723:=()
def tw22966198708530930:=()
def tw12326334598807078868:=()
def tw3457676965435839777:=()
def tw4311827042943541016:=()
def tw1978789815225594691:=()
def tw13377274269367554164:=()
def tw16519963552485883658:=()
def tw496061120090225804:=()
def tw16897216222522551493:=()
def tw6965271639050082923:=()
def tw6997095088758417990:=()
def tw11177078235378090555:=()
def tw18391509173586712109:=()
def tw1901733405456424484:=()
def tw10534390645067527068:=()
def tw16456224225879022641:=()
def tw14146179883992119984:=()
def tw4394323326702349557:=()
def tw15812159819304018071:=()
def tw7329974471900355809:=()
def tw9519980053834844874:=()
def tw18286430158560771805:=()
def tw18385607704151490740:=()
def tw17542723391523212316:=()
def tw6594839694580746455:=()
def tw8877642316383639615:=()
def tw11244628404098133646:=()
def tw5565249444680207361:=()
def tw15069698360032022896:=()
def tw14133744597180433663:=()
def tw16688422199126408375:=()
def tw11905856134690062959:=()
def tw14935773009503569177:=()
def tw13531346522380271305:=()
def tw6110033212490511944:=()
def tw18318856738572424603:=()
def tw11709381653756578909:=()
end PySem.W.Fast
namespace L2
open PySem PySem.Spec PyProof.Rows
abbrev Key:=Sum Int Str
def vx:Key->Value->Bool
 | .inl k,v=>Value.isInt k v
 | .inr x,v=>Value.isStrOf x v
def Dp (w:World):Key->Int
 | .inl k=>hashInt k
 | .inr x=>hashStr w x
theorem eG:∀ {k:Key} {v:Value},vx k v=true->(∃ i t,k=Sum.inl i/\v=Value.int i t)\/(∃ x t,k=Sum.inr x/\v=Value.str x t)
 | .inl i,v,h=>by
   obtain ⟨t,e⟩:=Value.isInt_shape (k:=i) (v:=v) h
   exact .inl ⟨i,t,rfl,e⟩
 | .inr x,v,h=>by
   obtain ⟨t,e⟩:=Value.isStrOf_shape (x:=x) (v:=v) h
   exact .inr ⟨x,t,rfl,e⟩
theorem Do (a b:Int):decide ((Sum.inl a:Key)=Sum.inl b)=(a == b):=by
 by_cases e:a=b
 ·subst e;simp
 ·have h:¬ (Sum.inl a:Key)=Sum.inl b:=fun q=>e (Sum.inl.inj q)
  rw [decide_eq_false h]
  exact (beq_eq_false_iff_ne.mpr e).symm
theorem Dl (a b:Str):decide ((Sum.inr a:Key)=Sum.inr b)=decide (a=b):=by
 by_cases e:a=b
 ·subst e;simp
 ·have h:¬ (Sum.inr a:Key)=Sum.inr b:=fun q=>e (Sum.inr.inj q)
  rw [decide_eq_false h,decide_eq_false e]
theorem Dn (a:Int) (b:Str):decide ((Sum.inl a:Key)=Sum.inr b)=false:=decide_eq_false (fun q=>nomatch q)
theorem Dm (a:Str) (b:Int):decide ((Sum.inr a:Key)=Sum.inl b)=false:=decide_eq_false (fun q=>nomatch q)
def oX (prog:Program) (w:World):PySem.KeyKind prog w Key where
 is:=vx
 hash:=Dp w
 inj:=fun v a b ha hb=>by
  rcases eG ha with ⟨i,t,rfl,rfl⟩ | ⟨x,t,rfl,rfl⟩
  ·rcases eG hb with ⟨j,u,rfl,e⟩ | ⟨y,u,rfl,e⟩
   ·injection e with e1 _;rw [e1]
   ·exact nomatch e
  ·rcases eG hb with ⟨j,u,rfl,e⟩ | ⟨y,u,rfl,e⟩
   ·exact nomatch e
   ·injection e with e1 _;rw [e1]
 byValue:=fun k v h=>by
  rcases eG h with ⟨i,t,rfl,rfl⟩ | ⟨x,t,rfl,rfl⟩<;>rfl
 pyHash:=fun hv h=>by
  rcases eG hv with ⟨i,t,rfl,rfl⟩ | ⟨x,t,rfl,rfl⟩
  ·exact wpAny_pyHash_int h
  ·exact wpAny_pyHash_str h
 eqBool:=fun hu hv h=>by
  rcases eG hu with ⟨i,t,rfl,rfl⟩ | ⟨x,t,rfl,rfl⟩
  ·rcases eG hv with ⟨j,u,rfl,rfl⟩ | ⟨y,u,rfl,rfl⟩
   ·rw [Do] at h;exact wpAny_eqBool_int h
   ·rw [Dn] at h;exact SeqAt.EqAt.int_str i t y u _ _ _ _ h
  ·rcases eG hv with ⟨j,u,rfl,rfl⟩ | ⟨y,u,rfl,rfl⟩
   ·rw [Dm] at h;exact SeqAt.EqAt.str_int x t j u _ _ _ _ h
   ·rw [Dl] at h;exact wpAny_eqBool_str h
 «strs»:=fun k x t v h=>by
  rcases eG h with ⟨i,u,rfl,e⟩ | ⟨y,u,rfl,e⟩
  ·exact nomatch e
  ·injection e with e1 _
   subst e1
   cases v<;>rfl
end L2
namespace L2
open PySem PySem.Spec PyProof.Rows
inductive V where
 | non | bl (b:Bool) | int (i:Int) | str (x:Str) | byt (b:Array UInt8) | flt (b:UInt64) | ref (a:Addr) | ty (n:String)
 deriving DecidableEq
def RelV:V->Value->Prop
 | .non,u=>u=Value.none
 | .bl b,u=>u=Value.bool b
 | .int i,u=>∃ t,u=Value.int i t
 | .str x,u=>∃ t,u=Value.str x t
 | .byt b,u=>∃ t,u=Value.bytes b t
 | .flt b,u=>∃ t,u=Value.float b t
 | .ref a,u=>u=Value.ref a
 | .ty n,u=>u=Value.type n
abbrev Vals:List V->List Value->Prop:=Paired RelV
theorem Vals.length {xs:List V} {us:List Value} (r:Vals xs us):xs.length=us.length:=Paired.length r
theorem Vals.get:∀ {xs:List V} {us:List Value} {i:Nat} {x:V},Vals xs us->xs[i]?=some x->∃ u,us[i]?=some u/\RelV x u
 | _,_,_,_,.nil,e=>by simp at e
 | _,_,0,_,.cons r _,e=>by simp at e;subst e;exact ⟨_,rfl,r⟩
 | _,_,i+1,x,.cons _ t,e=>by
   obtain ⟨u,h1,h2⟩:=Vals.get (i:=i) (x:=x) t (by simpa using e)
   exact ⟨u,by simpa using h1,h2⟩
theorem Vals.set {x:V} {u:Value} (r:RelV x u):∀ {xs:List V} {us:List Value} (i:Nat),Vals xs us->Vals (xs.set i x) (us.set i u)
 | _,_,_,.nil=>.nil
 | _,_,0,.cons _ t=>.cons r t
 | _,_,i+1,.cons q t=>.cons q (Vals.set r i t)
theorem Vals.append:∀ {xs ys:List V} {us ws:List Value},Vals xs us->Vals ys ws->Vals (xs++ys) (us++ws)
 | _,_,_,_,.nil,s=>s
 | _,_,_,_,.cons r t,s=>.cons r (Vals.append t s)
theorem Vals.take:∀ {xs:List V} {us:List Value} (n:Nat),Vals xs us->Vals (xs.take n) (us.take n)
 | _,_,0,_=>.nil
 | _,_,_+1,.nil=>.nil
 | _,_,n+1,.cons r t=>.cons r (Vals.take n t)
theorem Vals.drop:∀ {xs:List V} {us:List Value} (n:Nat),Vals xs us->Vals (xs.drop n) (us.drop n)
 | _,_,0,r=>r
 | _,_,_+1,.nil=>.nil
 | _,_,n+1,.cons _ t=>Vals.drop n t
theorem Vals.none_of:∀ {xs:List V} {us:List Value} {i:Nat},Vals xs us->xs[i]?=none->us[i]?=none:=fun {xs us i} r e=>by
 have h1:=r.length
 have h2:xs.length<=i:=List.getElem?_eq_none_iff.mp e
 exact List.getElem?_eq_none_iff.mpr (by omega)
def RelO:Option V->Option Value->Prop
 | some v,some u=>RelV v u
 | none,none=>True
 | _,_=>False
def KV {κ:Type}:List (κ×V)->List (κ×Value)->Prop:=Paired fun (p:κ×V) (q:κ×Value)=>p.1=q.1/\RelV p.2 q.2
def kV:Key->V
 | .inl i=>.int i
 | .inr x=>.str x
inductive HO where
 | lst (xs:List V)
 | tup (xs:List V)
 | dK (kvs:List (Key×V)) | dT (kvs:List (List Key×V))
 | set (S:Int->Bool) (n:Nat)
 | ins (C dx:Addr) (fs:List (Str×V))
 | own (x:Addr)
 | xd (fs:List (Str×V))
 | met (f x:Addr)
 | rng (lo hi:Int)
 | frz (o:Obj) (u:HO)
 | tbl (ps:Array Value)
 | ext (φ:Heap->Prop)
abbrev Hp:=Addr->Option HO
def upd (H:Hp) (a:Addr) (o:HO):Hp:=fun b=>if b=a then some o else H b
theorem ao {H:Hp} {a:Addr} {o:HO}:upd H a o a=some o:=by unfold upd;rw [if_pos rfl]
theorem upd_ne {H:Hp} {a b:Addr} {o:HO} (h:b≠a):upd H a o b=H b:=by unfold upd;rw [if_neg h]
theorem j0 {H:Hp} {a:Addr} {o u:HO}:upd (upd H a o) a u=upd H a u:=by
 funext b;unfold upd;split<;>rfl
theorem aR {H:Hp} {a b:Addr} {o:HO} (h:H a=some o) (h':H b=none):a≠b:=by
 intro e;subst e;rw [h] at h';cases h'
section
variable (P:Program) (w:World)
def ObjOk (H:Hp) (h:Heap) (a:Addr):HO->Prop
 | .lst xs=>xs.length<=sizeLine/\∃ (its:List Value) (n:Nat),Vals xs its/\h.get? a=some { cls:=.type "list",data:=.seq its.toArray n }
 | .tup xs=>xs.length<=sizeLine/\∃ its:List Value,Vals xs its/\IsTup h a its.toArray
 | .dK kvs=>kvs.length<=sizeLine/\(a == sysModules)=false/\∃ vs,KV kvs vs/\h.DictOf (oX P w) a vs
 | .dT kvs=>kvs.length<=sizeLine/\(a == sysModules)=false/\∃ xs:List (List Key×Addr×Value),
  Paired (fun (p:List Key×V) (q:List Key×Addr×Value)=>p.1=q.1/\H q.2.1=some (.tup (p.1.map kV))/\RelV p.2 q.2.2) kvs xs /\
  ∃ o es ep,h.get? a=some o/\o.ExactDict/\o.data=.dict es ep/\es.toList=xs.map (entryOfKey (tupleKind (oX P w)))/\(xs.map (·.1)).Nodup
 | .set S n=>h.SetOf (intKind P w) a S n
 | .ins C dx fs=>H dx=some (.own a)/\fs.length<=1000/\dx≠a/\h.get? a=some (PySem.W.instObj C dx) /\
  ∃ mA,h.Ns1 dx mA/\(∀ f,RelO (fs.lookup f) (mA f))/\PySem.Within mA (fs.map (·.1))
 | .own _=>∃ o,h.get? a=some o
 | .xd fs=>∃ mA,h.Ns1 a mA/\∀ f,RelO (fs.lookup f) (mA f)
 | .rng lo hi=>∃ t u v,h.get? a=some { cls:=.type "range",data:=.fields #[.int lo t,.int hi u,.int 1 v] }
 | .frz o u=>h.get? a=some o/\ObjOk H h a u
 | .tbl ps=>h.get? a=some { cls:=.none,data:=.fields ps }
 | .met f x=>h.get? a=some (PySem.W.methodObj (.ref f) (.ref x))
 | .ext φ=>φ h/\(∃ o,h.get? a=some o)/\∀ h1 h2:Heap,φ h1->(∀ o,h1.get? a=some o->h2.get? a=some o)->φ h2
def HOk (H:Hp) (h:Heap):Prop:=∀ a o,H a=some o->ObjOk P w H h a o
end
section
variable {P:Program} {w:World} {H H':Hp} {h h':Heap} {a:Addr} {o:HO}
theorem ObjOk.lt (x:ObjOk P w H h a o):a<h.objs.size:=by
 cases o with
 | lst xs=>obtain ⟨_,_,_,_,e⟩:=x;exact Heap.lt_size e
 | tup xs=>obtain ⟨_,_,_,p⟩:=x;exact p.lt
 | dK kvs=>obtain ⟨_,_,_,_,o,_,_,e,_⟩:=x;exact Heap.lt_size e
 | dT kvs=>obtain ⟨_,_,_,_,o,_,_,e,_⟩:=x;exact Heap.lt_size e
 | set S n=>obtain ⟨o,_,_,_,e,_⟩:=x;exact Heap.lt_size e
 | ins C dx fs=>obtain ⟨_,_,_,e,_⟩:=x;exact Heap.lt_size e
 | own y=>obtain ⟨_,e⟩:=x;exact Heap.lt_size e
 | xd fs=>obtain ⟨_,⟨_,_,_,e,_⟩,_⟩:=x;exact Heap.lt_size e
 | rng lo hi=>obtain ⟨_,_,_,e⟩:=x;exact Heap.lt_size e
 | frz ob u=>obtain ⟨e,_⟩:=x;exact Heap.lt_size e
 | tbl ps=>exact Heap.lt_size (show h.get? a=some _ from x)
 | met f y=>exact Heap.lt_size (show h.get? a=some _ from x)
 | ext φ=>obtain ⟨_,⟨_,e⟩,_⟩:=x;exact Heap.lt_size e
theorem Paired.mapP {α β:Type} {F G:α->β->Prop}:∀ {l₁:List α} {l₂:List β},Paired F l₁ l₂->(∀ a b,F a b->G a b)->Paired G l₁ l₂
 | _,_,.nil,_=>.nil
 | _,_,.cons r t,f=>.cons (f _ _ r) (Paired.mapP t f)
theorem ObjOk.stay (x:ObjOk P w H h a o) (k:∀ b u,(b=a\/H b=some (.own a))->h.get? b=some u->h'.get? b=some u)
 (ho:∀ b,H b=some (.own a)->H' b=some (.own a)) (ht:∀ b xs,H b=some (.tup xs)->H' b=some (.tup xs)):ObjOk P w H' h' a o:=by
 induction o with
 | lst xs=>obtain ⟨z,its,n,r,e⟩:=x;exact ⟨z,its,n,r,k _ _ (.inl rfl) e⟩
 | tup xs=>obtain ⟨z,its,r,ob,e,c⟩:=x;exact ⟨z,its,r,ob,k _ _ (.inl rfl) e,c⟩
 | dK kvs=>obtain ⟨z,y,vs,r,ob,es,ep,e,c⟩:=x;exact ⟨z,y,vs,r,ob,es,ep,k _ _ (.inl rfl) e,c⟩
 | dT kvs =>
   obtain ⟨z,y,xs,r,ob,es,ep,e,c⟩:=x
   exact ⟨z,y,xs,Paired.mapP r fun p q z=>⟨z.1,ht _ _ z.2.1,z.2.2⟩,ob,es,ep,k _ _ (.inl rfl) e,c⟩
 | set S n=>obtain ⟨ob,es,ep,t,e,c⟩:=x;exact ⟨ob,es,ep,t,k _ _ (.inl rfl) e,c⟩
 | ins C dx fs =>
   obtain ⟨d,z,ne,e,mA,⟨od,es,ep,e2,c⟩,r⟩:=x
   exact ⟨ho _ d,z,ne,k _ _ (.inl rfl) e,mA,⟨od,es,ep,k _ _ (.inr d) e2,c⟩,r⟩
 | own y=>obtain ⟨ob,e⟩:=x;exact ⟨ob,k _ _ (.inl rfl) e⟩
 | xd fs=>obtain ⟨mA,⟨od,es,ep,e,c⟩,r⟩:=x;exact ⟨mA,⟨od,es,ep,k _ _ (.inl rfl) e,c⟩,r⟩
 | rng lo hi=>obtain ⟨t,u,v,e⟩:=x;exact ⟨t,u,v,k _ _ (.inl rfl) e⟩
 | frz ob u ih=>obtain ⟨e,q⟩:=x;exact ⟨k _ _ (.inl rfl) e,ih q⟩
 | tbl ps =>
   have e:h.get? a=some { cls:=.none,data:=.fields ps }:=x
   show h'.get? a=some { cls:=.none,data:=.fields ps }
   exact k a _ (.inl rfl) e
 | met f y =>
   have e:h.get? a=some (PySem.W.methodObj (.ref f) (.ref y)):=x
   show h'.get? a=some (PySem.W.methodObj (.ref f) (.ref y))
   exact k a _ (.inl rfl) e
 | ext φ=>obtain ⟨p,⟨o,e⟩,st⟩:=x;exact ⟨st _ _ p fun o q=>k _ _ (.inl rfl) q,⟨o,k _ _ (.inl rfl) e⟩,st⟩
theorem HOk.lt (x:HOk P w H h) (e:H a=some o):a<h.objs.size:=(x a o e).lt
theorem HOk.fresh (x:HOk P w H h) (e:h.objs.size<=a):H a=none:=by
 cases q:H a with
 | none=>rfl
 | some u=>exact absurd (Nat.lt_of_lt_of_le (x.lt q) e) (Nat.lt_irrefl _)
theorem HOk.kept (x:HOk P w H h) (k:∀ b u,h.get? b=some u->h'.get? b=some u):HOk P w H h':=fun a o e =>
 (x a o e).stay (fun b u _ q=>k b u q) (fun _ q=>q) fun _ _ q=>q
theorem HOk.laid (x:HOk P w H h) (k:∀ b u,h.get? b=some u->h'.get? b=some u) (hp:h.objs.size<=a) (new:ObjOk P w (upd H a o) h' a o):HOk P w (upd H a o) h':=fun b u e=>by
 have hn:=x.fresh hp
 by_cases hb:b=a
 ·subst hb;rw [ao] at e;cases e;exact new
 ·rw [upd_ne hb] at e
  exact (x b u e).stay (fun c v _ q=>k c v q) (fun c q=>by rw [upd_ne (aR q hn)];exact q) fun c xs q=>by rw [upd_ne (aR q hn)];exact q
end
def Rd (H:Hp) (a:Addr) (u:HO):Prop:=H a=some u\/∃ o,H a=some (.frz o u)
theorem Rd.of {H:Hp} {a:Addr} {u:HO} (h:H a=some u):Rd H a u:=.inl h
theorem Rd.ok {P:Program} {w:World} {H:Hp} {h:Heap} {a:Addr} {u:HO} (r:Rd H a u) (x:HOk P w H h):ObjOk P w H h a u:=by
 rcases r with r | ⟨o,r⟩
 ·exact x a u r
 ·obtain ⟨_,q⟩:=x a _ r
  exact q
def Mut:Option HO->Prop
 | some (.lst _)=>True
 | some (.dK _)=>True
 | some (.dT _)=>True
 | some (.set _ _)=>True
 | some (.ins _ _ _)=>True
 | some (.ext _)=>True
 | _=>False
section
variable {P:Program} {w:World} {H:Hp} {h h':Heap} {x e:Addr} {o':HO}
theorem HOk.write (ok:HOk P w H h) (mu:Mut (H x)) (he:e=x\/H e=some (.own x)) (k:∀ b u,b≠e->h.get? b=some u->h'.get? b=some u) (heo:∃ u,h'.get? e=some u)
 (new:ObjOk P w (upd H x o') h' x o'):HOk P w (upd H x o') h':=fun b u q=>by
 have nown:∀ c y,H c=some (.own y)->c≠x:=fun c y r z=>by subst z;rw [r] at mu;exact mu
 have ntup:∀ c xs,H c=some (.tup xs)->c≠x:=fun c xs r z=>by subst z;rw [r] at mu;exact mu
 by_cases hb:b=x
 ·subst hb;rw [ao] at q;cases q;exact new
 ·rw [upd_ne hb] at q
  by_cases hbe:b=e
  ·have q':H b=some (.own x):=by
    rcases he with z | z
    ·exact absurd (hbe.trans z) hb
    ·rw [hbe];exact z
   rw [q] at q';cases q'
   obtain ⟨v,hv⟩:=heo
   exact ⟨v,by rw [hbe];exact hv⟩
  ·refine (ok b u q).stay (fun c v hc r=>k c v ?_ r) (fun c r=>by rw [upd_ne (nown c b r)];exact r) fun c xs r=>by rw [upd_ne (ntup c xs r)];exact r
   rcases hc with rfl | hc
   ·exact hbe
   ·rintro rfl
    rcases he with z | z
    ·exact nown c b hc z
    ·rw [hc] at z;cases z;exact hb rfl
end
structure Un (fs ex:List Addr) (H H':Hp) (h h':Heap):Prop where
 keep:∀ b o,h.get? b=some o->H b=none->b∉fs->b∉ex->h'.get? b=some o
 slot:∀ b o,h.get? b=some o->H b=none->b∈fs->b∉ex->∃ sl,h'.get? b=some { o with slots:=sl }
 free:∀ b o,h.get? b=some o->H b=none->b∉ex->H' b=none
 there:∀ b o,h.get? b=some o->b∉ex->∃ o',h'.get? b=some o'
 tups:∀ b xs,H b=some (.tup xs)->H' b=some (.tup xs)
 frzs:∀ b o u,H b=some (.frz o u)->H' b=some (.frz o u)
 tbls:∀ b ps,H b=some (.tbl ps)->∃ more,H' b=some (.tbl (ps++more))
section
variable {fs fs' ex ex':List Addr} {H H1 H2:Hp} {h h1 h2 h':Heap} {a x e:Addr} {o:HO}
theorem Un.any (u:Un fs ex H H1 h h1) {b:Addr} {ob:Obj} (q:h.get? b=some ob) (n:H b=none) (hx:b∉ex):∃ sl,h1.get? b=some { ob with slots:=sl }:=by
 by_cases hb:b∈fs
 ·exact u.slot b ob q n hb hx
 ·exact ⟨ob.slots,u.keep b ob q n hb hx⟩
theorem Un.trans (a:Un fs ex H H1 h h1) (b:Un fs ex H1 H2 h1 h2):Un fs ex H H2 h h2 where
 keep:=fun c ob q n hc hx=>b.keep c ob (a.keep c ob q n hc hx) (a.free c ob q n hx) hc hx
 slot:=fun c ob q n hc hx=>by
  obtain ⟨sl,e1⟩:=a.slot c ob q n hc hx
  obtain ⟨sl',e2⟩:=b.slot c _ e1 (a.free c ob q n hx) hc hx
  exact ⟨sl',e2⟩
 free:=fun c ob q n hx=>by
  obtain ⟨o',e1⟩:=a.there c ob q hx
  exact b.free c o' e1 (a.free c ob q n hx) hx
 there:=fun c ob q hx=>by
  obtain ⟨o',e1⟩:=a.there c ob q hx
  exact b.there c o' e1 hx
 tups:=fun c xs q=>b.tups c xs (a.tups c xs q)
 frzs:=fun c ob xs q=>b.frzs c ob xs (a.frzs c ob xs q)
 tbls:=fun c ps q=>by
  obtain ⟨m1,e1⟩:=a.tbls c ps q
  obtain ⟨m2,e2⟩:=b.tbls c _ e1
  exact ⟨m1++m2,by rw [e2,Array.append_assoc]⟩
theorem Un.kept (k:∀ b u,h.get? b=some u->h'.get? b=some u):Un fs ex H H h h' :=
 ⟨fun b ob q _ _ _=>k b ob q,fun b ob q _ _ _=>⟨ob.slots,k b ob q⟩,fun _ _ _ n _=>n,fun b ob q _=>⟨ob,k b ob q⟩,fun _ _ q=>q,fun _ _ _ q=>q,fun _ ps q=>⟨#[],by rw [q];simp⟩⟩
theorem Un.refl:Un fs ex H H h h:=Un.kept fun _ _ q=>q
theorem Un.laid (k:∀ b u,h.get? b=some u->h'.get? b=some u) (hp:h.objs.size<=a) (hn:H a=none):Un fs ex H (upd H a o) h h' where
 keep:=fun b u q _ _ _=>k b u q
 slot:=fun b u q _ _ _=>⟨u.slots,k b u q⟩
 free:=fun b u q n _=>by rw [upd_ne (Nat.ne_of_lt (Nat.lt_of_lt_of_le (Heap.lt_size q) hp))];exact n
 there:=fun b u q _=>⟨u,k b u q⟩
 tups:=fun b xs q=>by rw [upd_ne (aR q hn)];exact q
 frzs:=fun b u xs q=>by rw [upd_ne (aR q hn)];exact q
 tbls:=fun b ps q=>⟨#[],by rw [upd_ne (aR q hn),q];simp⟩
theorem Un.write (mu:Mut (H x)) (he:e=x\/H e=some (.own x)) (k:∀ b u,b≠e->h.get? b=some u->h'.get? b=some u) (heo:∃ u,h'.get? e=some u):Un fs ex H (upd H x o) h h':=by
 have hx:∀ b,H b=none->b≠x:=fun b n z=>by subst z;rw [n] at mu;exact mu
 have hb:∀ b,H b=none->b≠e:=fun b n z=>by
  subst z
  rcases he with r | r
  ·exact hx b n r
  ·rw [n] at r;cases r
 have hm:∀ b u,H b=some u->¬ Mut (some u)->b≠x:=fun b u q nm z=>by subst z;rw [q] at mu;exact nm mu
 refine ⟨fun b u q n _ _=>k b u (hb b n) q,fun b u q n _ _=>⟨u.slots,k b u (hb b n) q⟩,fun b u q n _=>by rw [upd_ne (hx b n)];exact n,fun b u q _=>?_,
  fun b xs q=>by rw [upd_ne (hm b _ q fun z=>z)];exact q,fun b u xs q=>by rw [upd_ne (hm b _ q fun z=>z)];exact q,fun b ps q=>⟨#[],by rw [upd_ne (hm b _ q fun z=>z),q];simp⟩⟩
 by_cases hbe:b=e
 ·subst hbe;exact heo
 ·exact ⟨u,k b u hbe q⟩
theorem Un.mono (u:Un fs ex H H1 h h1) (hs:∀ b∈fs,b∈fs') (hx:∀ b∈ex,b∈ex'):Un fs' ex' H H1 h h1 :=
 ⟨fun b ob q n hb he=>u.keep b ob q n (fun z=>hb (hs b z)) fun z=>he (hx b z),fun _ _ q n _ he=>u.any q n fun z=>he (hx _ z),fun b ob q n he=>u.free b ob q n fun z=>he (hx b z),fun b ob q he=>u.there b ob q fun z=>he (hx b z),u.tups,u.frzs,u.tbls⟩
end
def trk (h:Heap) (H:Hp):List Addr:=(List.range h.objs.size).filter fun a=>(H a).isSome
def dQ (h:Heap) (H:Hp):Heap:=PySem.W.hideAll h (trk h H)
theorem Ef (h:Heap) (H:Hp):(dQ h H).objs.size=h.objs.size:=PySem.W.hideAll_size _ _
theorem Eg {h:Heap} {H:Hp} {b:Addr} {o:Obj} (e:h.get? b=some o) (n:H b=none):(dQ h H).get? b=some o :=
 PySem.W.hideAll_get _ e fun hm=>by
  have q:(H b).isSome=true:=(List.mem_filter.mp hm).2
  rw [n] at q;simp at q
theorem BV {h:Heap} {H:Hp} {b:Addr} {o:Obj} (e:(dQ h H).get? b=some o):h.get? b=some o/\H b=none:=by
 have e':h.get? b=some o:=PySem.W.of_hideAll (trk h H) e
 refine ⟨e',?_⟩
 cases q:H b with
 | none=>rfl
 | some x =>
   have hm:b∈trk h H:=List.mem_filter.mpr ⟨List.mem_range.mpr (Heap.lt_size e'),by simp [q]⟩
   have z:(dQ h H).get? b=none:=PySem.W.hideAll_none (trk h H) hm
   rw [z] at e;cases e
def Hh (g h:Heap) (L:Addr):List (Addr×Obj):=(List.range h.objs.size).filterMap fun a=>if a=L\/(g.get? a).isSome=true then none else (h.get? a).map fun o=>(a,o)
def rest (g h:Heap) (L d:Addr):List (Addr×Obj):=(Hh g h L).filter fun p=>decide (p.1≠d)
end L2
namespace L2
open PySem PySem.Spec PyProof.Rows
structure Mod (K:PySem.W.Frag) (mg:Str->Option Value) (base:Heap):Prop where
 kin:K.In base
 glob:base.Ns mainGlobals mg
 blt:∃ mb,base.Ns builtinsNs mb/\∀ x:Str,x≠"__name__"->mb x=bootBuiltins x
 nolimit:base.NoLimit
structure Cx where
 prog:Program
 w:World
 K:PySem.W.Frag
 mg:Str->Option Value
 base:Heap
 A:Around
 N:List Str
 s₀:Shared
 H₀:Hp
 env:Env
 outer:List Env
 stack:List Env
 ex:List Addr
 fn:Str->Bool
 calm:Bool
 pn:List (Addr×Obj)
 xe:Value->Shared->Prop
def frs (l:List Env):List Addr:=l.filterMap (·.frame)
abbrev Cx.fs (X:Cx):List Addr:=frs X.outer
def Vis (sc:Scope) (x:Str):Prop:=sc.names.lookup x=some .local\/sc.names.lookup x=some .cell\/sc.names.lookup x=some .free
def Loc (sc:Scope) (x:Str):Prop:=sc.names.lookup x=some .local\/sc.names.lookup x=some .cell
def Hn (env:Env) (h:Heap) (m:Str->Option Value) (x:Str) (u:Value):Prop :=
 (env.kindOf x=some .local/\m x=some u)\/((env.kindOf x=some .cell\/env.kindOf x=some .free)/\∃ c,env.cells.lookup x=some c/\h.IsCell c (some u))
structure Cx.Ok (X:Cx):Prop where
 mod:Mod X.K X.mg X.base
 kind:X.env.scope.kind=.function
 glob:X.env.globals=mainGlobals
 blt:X.env.builtins=builtinsNs
 above:X.s₀.heap.objs.size<=X.env.locals
 inj:∀ x y c,X.env.cells.lookup x=some c->X.env.cells.lookup y=some c->x=y
 has:∀ x,(X.env.kindOf x=some .cell\/X.env.kindOf x=some .free)->∃ c,X.env.cells.lookup x=some c
 cab:∀ x c,X.fn x=true->X.env.cells.lookup x=some c->X.s₀.heap.objs.size<=c
 hd:X.calm=true->X.A.handled=none
 frames:X.A.frames=some X.stack
 stk:X.stack=X.outer\/(X.stack=X.env::X.outer/\X.env.frame=some X.env.locals)
 exf:∀ b∈X.ex,b≠X.env.locals/\∀ x c,X.env.cells.lookup x=some c->c≠b
 bs:∀ b o,X.base.get? b=some o->X.s₀.heap.get? b=some o/\X.H₀ b=none
 bsz:X.base.objs.size<=X.s₀.heap.objs.size
 noex:∀ b o,X.base.get? b=some o->b∉X.ex
 exfs:∀ b∈X.ex,b∉X.fs
 funs:X.s₀.heap.FunFrames X.base X.outer
 frf:∀ b∈X.fs,X.H₀ b=none
structure Inv (X:Cx) (pins:List (Addr×Obj)) (σ:List (Option V)) (H:Hp) (s:Shared):Prop where
 ok:X.Ok
 os:s.os=X.s₀.os
 bare:AllBare s.gens
 base:Un X.fs X.ex X.H₀ H X.s₀.heap s.heap
 loc:∃ m,s.heap.Ns X.env.locals m/\∀ (i:Nat) (x:Str) (v:V),X.N[i]?=some x->σ[i]?=some (some v)->Vis X.env.scope x->∃ u,RelV v u/\Hn X.env s.heap m x u
 cell:∀ x c,X.env.cells.lookup x=some c->∃ v,s.heap.IsCell c v
 free:H X.env.locals=none
 freeC:∀ x c,X.env.cells.lookup x=some c->H c=none
 pin:∀ p∈X.pn++pins,s.heap.get? p.1=some p.2/\H p.1=none/\p.1≠X.env.locals/\p.1∉X.fs/\∀ v,p.2.data≠.cell v
 hok:HOk X.prog X.w H s.heap
 len:σ.length=X.N.length
section
variable {X:Cx} {pins:List (Addr×Obj)} {σ:List (Option V)} {H H':Hp} {s:Shared} {h':Heap}
theorem Cx.Ok.nofr (ok:X.Ok) {b:Addr} {o:Obj} (e:X.base.get? b=some o):b∉X.fs:=fun hb=>by
 have:=(ok.funs.mem hb).1
 rw [e] at this;cases this
theorem Inv.bs (I:Inv X pins σ H s):∀ b o,X.base.get? b=some o->s.heap.get? b=some o/\H b=none:=fun b o e =>
 ⟨I.base.keep b o (I.ok.bs b o e).1 (I.ok.bs b o e).2 (I.ok.nofr e) (I.ok.noex b o e),I.base.free b o (I.ok.bs b o e).1 (I.ok.bs b o e).2 (I.ok.noex b o e)⟩
theorem Inv.bk (I:Inv X pins σ H s):∀ b o,X.base.get? b=some o->s.heap.get? b=some o:=fun b o e=>(I.bs b o e).1
theorem Inv.mod (I:Inv X pins σ H s):Mod X.K X.mg X.base:=I.ok.mod
theorem Inv.kIn (I:Inv X pins σ H s):X.K.In s.heap:=I.ok.mod.kin.keeps I.bk
theorem Inv.nolimit (I:Inv X pins σ H s):s.heap.NoLimit:=I.ok.mod.nolimit.keeps I.bk
theorem Inv.fr (I:Inv X pins σ H s):∃ m,Fr X.base X.env.locals s.heap m :=
 let ⟨m,hn,_⟩:=I.loc
 ⟨m,hn,I.bk,Nat.le_trans I.ok.bsz I.ok.above⟩
theorem Inv.lt (I:Inv X pins σ H s):X.env.locals<s.heap.objs.size:=let ⟨_,hn,_⟩:=I.loc;hn.lt
theorem Inv.sz (I:Inv X pins σ H s):X.s₀.heap.objs.size<=s.heap.objs.size:=Nat.le_trans I.ok.above (Nat.le_of_lt I.lt)
theorem Inv.nofs (I:Inv X pins σ H s) {a:Addr} (h:s.heap.objs.size<=a):a∉X.fs:=fun hb=>by
 obtain ⟨_,o,ho,_⟩:=I.ok.funs.mem hb
 exact absurd (Nat.lt_of_lt_of_le (Heap.lt_size ho) (Nat.le_trans I.sz h)) (Nat.lt_irrefl _)
theorem Inv.cne (I:Inv X pins σ H s):∀ x c,X.env.cells.lookup x=some c->c≠X.env.locals:=fun x c e z=>by
 obtain ⟨v,o,ho,hd⟩:=I.cell x c e
 obtain ⟨m,⟨o',es,ep,ho',hd',_⟩,_⟩:=I.loc
 rw [z,ho'] at ho;cases ho;rw [hd'] at hd;cases hd
theorem Inv.funs (I:Inv X pins σ H s):s.heap.FunFrames X.base X.outer:=by
 have all:∀ (l:List Env),(∀ b∈frs l,b∈X.fs)->X.s₀.heap.FunFrames X.base l->s.heap.FunFrames X.base l:=by
  intro l
  induction l with
  | nil=>intro _ _;trivial
  | cons env r ih =>
    intro hs hl
    obtain ⟨hk,⟨L,o,hf,hn,ho,hd⟩,hr⟩:=hl
    have hL:L∈X.fs:=hs L (by unfold frs;rw [List.filterMap_cons,hf];exact List.mem_cons_self)
    obtain ⟨sl,e⟩:=I.base.slot L o ho (I.ok.frf L hL) hL fun z=>I.ok.exfs L z hL
    exact ⟨hk,⟨L,_,hf,hn,e,hd⟩,ih (fun b hb=>hs b (by unfold frs;rw [List.filterMap_cons,hf];exact List.mem_cons_of_mem _ hb)) hr⟩
 exact all X.outer (fun _ hb=>hb) I.ok.funs
theorem Inv.stack (I:Inv X pins σ H s):s.heap.FunFrames X.base X.stack:=by
 rcases I.ok.stk with e | ⟨e,hf⟩
 ·rw [e];exact I.funs
 ·rw [e]
  obtain ⟨m,hn,_⟩:=I.loc
  refine .cons (by rw [I.ok.kind];decide) hf hn ?_ I.funs
  exact Heap.get?_none_of_le (Nat.le_trans I.ok.bsz I.ok.above)
theorem Inv.stkSub (I:Inv X pins σ H s):∀ b∈frs X.stack,b∈X.env.locals::X.fs:=fun b hb=>by
 rcases I.ok.stk with e | ⟨e,hf⟩
 ·rw [e] at hb;exact List.mem_cons_of_mem _ hb
 ·rw [e] at hb
  unfold frs at hb
  rw [List.filterMap_cons,hf] at hb
  exact hb
theorem Inv.stkFree (I:Inv X pins σ H s):∀ b∈frs X.stack,H b=none:=fun b hb=>by
 rcases List.mem_cons.mp (I.stkSub b hb) with e | hb
 ·rw [e];exact I.free
 ·obtain ⟨_,o,ho,_⟩:=I.ok.funs.mem hb
  exact I.base.free b o ho (I.ok.frf b hb) fun z=>I.ok.exfs b z hb
theorem Inv.step {g':Array GenState} {t':Nat} {d':Drawn} {ch:List Addr} (I:Inv X pins σ H s)
 (hch:∀ b∈ch,(b∈X.ex\/X.s₀.heap.objs.size<=b)/\b≠X.env.locals/\(∀ x c,X.env.cells.lookup x=some c->c≠b)/\∀ p∈X.pn++pins,p.1≠b)
 (keep:∀ b o,b≠X.env.locals->b∉X.fs->b∉ch->s.heap.get? b=some o->H b=none->h'.get? b=some o)
 (slot:∀ b o,b≠X.env.locals->b∈X.fs->b∉ch->s.heap.get? b=some o->H b=none->∃ sl,h'.get? b=some { o with slots:=sl }) (free:∀ b o,b∉ch->s.heap.get? b=some o->H b=none->H' b=none)
 (there:∀ b o,b∉ch->s.heap.get? b=some o->∃ o',h'.get? b=some o')
 (tups:∀ b xs,H b=some (.tup xs)->H' b=some (.tup xs)) (frzs:∀ b o u,H b=some (.frz o u)->H' b=some (.frz o u)) (tbls:∀ b ps,H b=some (.tbl ps)->∃ more,H' b=some (.tbl (ps++more)))
 (ns:∀ m,s.heap.Ns X.env.locals m->h'.Ns X.env.locals m) (hok:HOk X.prog X.w H' h') (hg:AllBare g') :
 Inv X pins σ H' { s with heap:=h',gens:=g',drawn:=d',toks:=t' }:=by
 have neL:∀ b o,X.s₀.heap.get? b=some o->b≠X.env.locals:=fun b o e=>Nat.ne_of_lt (Nat.lt_of_lt_of_le (Heap.lt_size e) I.ok.above)
 have neC:∀ b o,X.s₀.heap.get? b=some o->b∉X.ex->b∉ch:=fun b o e hx hb=>by
  rcases (hch b hb).1 with z | z
  ·exact hx z
  ·exact absurd (Nat.lt_of_lt_of_le (Heap.lt_size e) z) (Nat.lt_irrefl _)
 have cellK:∀ x c,X.env.cells.lookup x=some c->∀ v,s.heap.IsCell c v->h'.IsCell c v:=fun x c e v ⟨o,ho,hd⟩=>by
  have nch:c∉ch:=fun z=>(hch c z).2.2.1 x c e rfl
  by_cases hc:c∈X.fs
  ·obtain ⟨sl,q⟩:=slot c o (I.cne x c e) hc nch ho (I.freeC x c e)
   exact ⟨_,q,hd⟩
  ·exact ⟨o,keep c o (I.cne x c e) hc nch ho (I.freeC x c e),hd⟩
 refine ⟨I.ok,I.os,hg,⟨fun b o e n hb hx=>?_,fun b o e n hb hx=>?_,fun b o e n hx=>?_,fun b o e hx=>?_,fun b xs e=>tups b xs (I.base.tups b xs e),fun b o xs e=>frzs b o xs (I.base.frzs b o xs e),fun b ps e=>?_⟩,?_,fun x c e=>?_,?_,fun x c e=>?_,fun p hp=>?_,hok,I.len⟩
 ·exact keep b o (neL b o e) hb (neC b o e hx) (I.base.keep b o e n hb hx) (I.base.free b o e n hx)
 ·obtain ⟨sl,e1⟩:=I.base.slot b o e n hb hx
  obtain ⟨sl',e2⟩:=slot b _ (neL b o e) hb (neC b o e hx) e1 (I.base.free b o e n hx)
  exact ⟨sl',e2⟩
 ·obtain ⟨o',e1⟩:=I.base.there b o e hx
  exact free b o' (neC b o e hx) e1 (I.base.free b o e n hx)
 ·obtain ⟨o',e1⟩:=I.base.there b o e hx
  exact there b o' (neC b o e hx) e1
 ·obtain ⟨m1,e1⟩:=I.base.tbls b ps e
  obtain ⟨m2,e2⟩:=tbls b _ e1
  exact ⟨m1++m2,by rw [e2,Array.append_assoc]⟩
 ·obtain ⟨m,hn,hl⟩:=I.loc
  refine ⟨m,ns m hn,fun i x v e1 e2 e3=>?_⟩
  obtain ⟨u,r,l⟩:=hl i x v e1 e2 e3
  refine ⟨u,r,?_⟩
  rcases l with l | ⟨k,c,e,z⟩
  ·exact .inl l
  ·exact .inr ⟨k,c,e,cellK x c e _ z⟩
 ·obtain ⟨v,z⟩:=I.cell x c e
  exact ⟨v,cellK x c e v z⟩
 ·obtain ⟨m,⟨o,_,_,ho,_⟩,_⟩:=I.loc
  exact free _ o (fun z=>(hch _ z).2.1 rfl) ho I.free
 ·obtain ⟨v,o,ho,hd⟩:=I.cell x c e
  exact free c o (fun z=>(hch c z).2.2.1 x c e rfl) ho (I.freeC x c e)
 ·obtain ⟨e,n,ne,nf,d⟩:=I.pin p hp
  have nch:p.1∉ch:=fun z=>(hch p.1 z).2.2.2 p hp rfl
  exact ⟨keep p.1 p.2 ne nf nch e n,free p.1 p.2 nch e n,ne,nf,d⟩
theorem Inv.un {t':Nat} (I:Inv X pins σ H s) (u:Un X.fs [] H H' s.heap h') (hok:HOk X.prog X.w H' h'):Inv X pins σ H' { s with heap:=h',toks:=t' }:=by
 obtain ⟨m,⟨o,es,ep,ho,r⟩,_⟩:=id I.loc
 obtain ⟨sl,hL⟩:=u.any ho I.free (by simp)
 exact I.step (g':=s.gens) (d':=s.drawn) (ch:=[]) (fun _ z=>nomatch z) (fun b o _ hb _ e n=>u.keep b o e n hb (by simp)) (fun b o _ hb _ e n=>u.slot b o e n hb (by simp)) (fun b o _ e n=>u.free b o e n (by simp)) (fun b o _ e=>u.there b o e (by simp)) u.tups u.frzs u.tbls (fun m' hm=>by
  obtain ⟨o',es',ep',ho',r'⟩:=hm
  rw [ho] at ho';cases ho'
  exact ⟨_,es',ep',hL,r'⟩) hok I.bare
theorem Inv.call {g':Array GenState} {t':Nat} {d':Drawn} {ch:List Addr} (I:Inv X pins σ H s) (u:Un (frs X.stack) ch H H' s.heap h') (hok:HOk X.prog X.w H' h') (hg:AllBare g')
 (hch:∀ b∈ch,(b∈X.ex\/X.s₀.heap.objs.size<=b)/\b≠X.env.locals/\(∀ x c,X.env.cells.lookup x=some c->c≠b)/\∀ p∈X.pn++pins,p.1≠b) :
 Inv X pins σ H' { s with heap:=h',gens:=g',drawn:=d',toks:=t' }:=by
 obtain ⟨m,⟨o,es,ep,ho,r⟩,_⟩:=id I.loc
 obtain ⟨sl,hL⟩:=u.any ho I.free fun z=>(hch _ z).2.1 rfl
 exact I.step (ch:=ch) hch (fun b o hL hb hc e n=>u.keep b o e n (fun z=>(List.mem_cons.mp (I.stkSub b z)).elim hL hb) hc) (fun b o _ _ hc e n=>u.any e n hc) (fun b o hc e n=>u.free b o e n hc) (fun b o hc e=>u.there b o e hc) u.tups u.frzs u.tbls (fun m' hm=>by
  obtain ⟨o',es',ep',ho',r'⟩:=hm
  rw [ho] at ho';cases ho'
  exact ⟨_,es',ep',hL,r'⟩) hok hg
theorem Inv.turned {t':Nat} {it:Addr} (I:Inv X pins σ H s) (k:∀ b o,b≠it->s.heap.get? b=some o->h'.get? b=some o) (hn:H it=none) (hL:it≠X.env.locals)
 (h1:it∈X.ex\/X.s₀.heap.objs.size<=it) (h2:∀ x c,X.env.cells.lookup x=some c->c≠it) (h3:∀ p∈X.pn++pins,p.1≠it):Inv X pins σ H { s with heap:=h',toks:=t' }:=by
 have nit:∀ b u,H b=some u->b≠it:=fun b u e z=>by rw [z,hn] at e;cases e
 refine I.step (g':=s.gens) (d':=s.drawn) (ch:=[it]) (fun b hb=>?_) (fun b o _ _ hc e _=>k b o (fun z=>hc (by simp [z])) e) (fun b o _ _ hc e _=>⟨o.slots,k b o (fun z=>hc (by simp [z])) e⟩) (fun _ _ _ _ n=>n)
  (fun b o hc e=>⟨o,k b o (fun z=>hc (by simp [z])) e⟩) (fun _ _ e=>e) (fun _ _ _ e=>e) (fun b ps e=>⟨#[],by rw [e];simp⟩) (fun m hm=>?_) (fun b u e=>?_) I.bare
 ·have e:b=it:=by simpa using hb
  subst e
  exact ⟨h1,hL,h2,h3⟩
 ·obtain ⟨o,es,ep,ho,r⟩:=hm
  exact ⟨o,es,ep,k _ o (Ne.symm hL) ho,r⟩
 ·refine (I.hok b u e).stay (fun c v hc q=>k c v ?_ q) (fun _ q=>q) fun _ _ q=>q
  rcases hc with z | z
  ·rw [z];exact nit b u e
  ·exact nit c _ z
theorem Inv.tok (I:Inv X pins σ H s) (t:Nat):Inv X pins σ H { s with toks:=t }:=I.un (h':=s.heap) (t':=t) Un.refl I.hok
theorem Inv.kept {t':Nat} (I:Inv X pins σ H s) (k:∀ b u,s.heap.get? b=some u->h'.get? b=some u):Inv X pins σ H { s with heap:=h',toks:=t' }:=I.un (Un.kept k) (I.hok.kept k)
theorem Inv.laid {a:Addr} {o:HO} {t':Nat} (I:Inv X pins σ H s) (k:∀ b u,s.heap.get? b=some u->h'.get? b=some u) (hp:s.heap.objs.size<=a) (new:ObjOk X.prog X.w (upd H a o) h' a o) :
 Inv X pins σ (upd H a o) { s with heap:=h',toks:=t' }:=I.un (Un.laid k hp (I.hok.fresh hp)) (I.hok.laid k hp new)
theorem Inv.write {x e:Addr} {o:HO} {t':Nat} (I:Inv X pins σ H s) (mu:Mut (H x)) (he:e=x\/H e=some (.own x)) (k:∀ b u,b≠e->s.heap.get? b=some u->h'.get? b=some u) (heo:∃ u,h'.get? e=some u)
 (new:ObjOk X.prog X.w (upd H x o) h' x o):Inv X pins σ (upd H x o) { s with heap:=h',toks:=t' }:=I.un (Un.write mu he k heo) (I.hok.write mu he k heo new)
theorem Inv.pins_of {pins':List (Addr×Obj)} (I:Inv X pins σ H s) (h:∀ p∈pins',s.heap.get? p.1=some p.2/\H p.1=none/\p.1≠X.env.locals/\p.1∉X.fs/\∀ v,p.2.data≠.cell v):Inv X pins' σ H s :=
 ⟨I.ok,I.os,I.bare,I.base,I.loc,I.cell,I.free,I.freeC,fun p hp=>(List.mem_append.mp hp).elim (fun z=>I.pin p (List.mem_append_left _ z)) (h p),I.hok,I.len⟩
theorem uF {N:List Str} (hN:N.Nodup) {i j:Nat} {x:Str} (a:N[i]?=some x) (b:N[j]?=some x):i=j:=by
 obtain ⟨h1,e1⟩:=List.getElem?_eq_some_iff.mp a
 obtain ⟨h2,e2⟩:=List.getElem?_eq_some_iff.mp b
 exact (List.getElem_inj hN).mp (e1.trans e2.symm)
theorem yi {M:Model} {A:Around} {E:Value->Shared->Prop} {i:Nat} {x:Str} {v:V} {u:Value} {Q:Unit->Shared->Prop} (I:Inv X pins σ H s) (hN:X.N.Nodup) (hi:X.N[i]?=some x) (hx:Loc X.env.scope x) (r:RelV v u)
 (h:∀ s',Inv X pins (σ.set i (some v)) H s'->(∃ a,Heap.SameBut a s.heap s'.heap/\(a=X.env.locals\/X.env.cells.lookup x=some a))->Q () s') (hf:X.fn x=true\/X.env.scope.names.lookup x=some .local:=by first | exact .inl rfl | exact .inr rfl | assumption):wpAny M A (storeName X.env x u) Q E s:=by
 obtain ⟨m,hn,hl⟩:=id I.loc
 have hcls:(X.env.scope.kind == .class || (X.env.scope.kind == .module&&X.env.locals != X.env.globals))=false:=by rw [I.ok.kind];rfl
 have hiσ:i<σ.length:=by rw [I.len];exact (List.getElem?_eq_some_iff.mp hi).1
 have cne:=I.cne
 have tracked:∀ {a:Addr} {h':Heap},(∃ o,s.heap.get? a=some o/\H a=none)->Heap.SameBut a s.heap h'->HOk X.prog X.w H h':=fun {a h'} ha hs b ob e=>by
  obtain ⟨_,_,hfree⟩:=ha
  refine (I.hok b ob e).stay (fun c w' hc q=>(hs.2 c ?_).trans q) (fun _ q=>q) fun _ _ q=>q
  rintro rfl
  rcases hc with rfl | hc
  ·rw [hfree] at e;cases e
  ·rw [hfree] at hc;cases hc
 rcases hx with hk | hk
 ·refine wpAny_storeName_local hk hn (fun h' hn' hs=>?_) hcls
  obtain ⟨oL,_,_,hoL,_⟩:=id hn
  refine h _ ⟨I.ok,I.os,I.bare,⟨fun b o e n hb hx=>?_,fun b o e n hb hx=>?_,I.base.free,fun b o e hx=>?_,I.base.tups,I.base.frzs,I.base.tbls⟩,⟨_,hn',fun j y v' e1 e2 e3=>?_⟩,fun y c e=>?_,I.free,I.freeC,fun p hp=>?_,tracked ⟨oL,hoL,I.free⟩ hs,by simpa using I.len⟩ ⟨_,hs,.inl rfl⟩
  ·exact (hs.2 b (Nat.ne_of_lt (Nat.lt_of_lt_of_le (Heap.lt_size e) I.ok.above))).trans (I.base.keep b o e n hb hx)
  ·obtain ⟨sl,e1⟩:=I.base.slot b o e n hb hx
   exact ⟨sl,(hs.2 b (Nat.ne_of_lt (Nat.lt_of_lt_of_le (Heap.lt_size e) I.ok.above))).trans e1⟩
  ·obtain ⟨o',e1⟩:=I.base.there b o e hx
   exact ⟨o',(hs.2 b (Nat.ne_of_lt (Nat.lt_of_lt_of_le (Heap.lt_size e) I.ok.above))).trans e1⟩
  ·by_cases hj:j=i
   ·subst hj
    rw [hi] at e1;cases e1
    rw [List.getElem?_set_self hiσ] at e2
    cases e2
    exact ⟨u,r,.inl ⟨hk,by simp⟩⟩
   ·rw [List.getElem?_set_ne (Ne.symm hj)] at e2
    obtain ⟨u',r',q⟩:=hl j y v' e1 e2 e3
    refine ⟨u',r',?_⟩
    rcases q with ⟨k,e⟩ | ⟨k,c,e,z⟩
    ·refine .inl ⟨k,?_⟩
     have:y≠x:=fun e=>hj (uF hN e1 (e ▸ hi))
     simp [this,e]
    ·exact .inr ⟨k,c,e,z.sameBut hs (cne y c e)⟩
  ·obtain ⟨w',z⟩:=I.cell y c e
   exact ⟨w',z.sameBut hs (cne y c e)⟩
  ·obtain ⟨e,n,ne,nf,d⟩:=I.pin p hp
   exact ⟨(hs.2 p.1 ne).trans e,n,ne,nf,d⟩
 ·have hfn:X.fn x=true:=by
   rcases hf with z | z
   ·exact z
   ·rw [z] at hk;cases hk
  obtain ⟨c,hc⟩:=I.ok.has x (.inl hk)
  obtain ⟨w',z⟩:=I.cell x c hc
  refine wpAny_storeName_cell I.ok.kind hk hc z (fun h' hc' hs=>?_)
  obtain ⟨oc,hoc,hocd⟩:=id z
  refine h { s with heap:=h' } ⟨I.ok,I.os,I.bare,⟨fun b o e n hb hx=>?_,fun b o e n hb hx=>?_,I.base.free,fun b o e hx=>?_,I.base.tups,I.base.frzs,I.base.tbls⟩,⟨m,hn.sameBut hs (Ne.symm (cne x c hc)),fun j y v' e1 e2 e3=>?_⟩,fun y c' e=>?_,I.free,I.freeC,fun p hp=>?_,tracked ⟨oc,hoc,I.freeC x c hc⟩ hs,by simpa using I.len⟩ ⟨c,hs,.inr hc⟩
  ·exact (hs.2 b (Nat.ne_of_lt (Nat.lt_of_lt_of_le (Heap.lt_size e) (I.ok.cab x c hfn hc)))).trans (I.base.keep b o e n hb hx)
  ·obtain ⟨sl,e1⟩:=I.base.slot b o e n hb hx
   exact ⟨sl,(hs.2 b (Nat.ne_of_lt (Nat.lt_of_lt_of_le (Heap.lt_size e) (I.ok.cab x c hfn hc)))).trans e1⟩
  ·obtain ⟨o',e1⟩:=I.base.there b o e hx
   exact ⟨o',(hs.2 b (Nat.ne_of_lt (Nat.lt_of_lt_of_le (Heap.lt_size e) (I.ok.cab x c hfn hc)))).trans e1⟩
  ·by_cases hj:j=i
   ·subst hj
    rw [hi] at e1;cases e1
    rw [List.getElem?_set_self hiσ] at e2
    cases e2
    exact ⟨u,r,.inr ⟨.inl hk,c,hc,hc'⟩⟩
   ·rw [List.getElem?_set_ne (Ne.symm hj)] at e2
    obtain ⟨u',r',q⟩:=hl j y v' e1 e2 e3
    refine ⟨u',r',?_⟩
    rcases q with q | ⟨k,c',e,z'⟩
    ·exact .inl q
    ·refine .inr ⟨k,c',e,z'.sameBut hs ?_⟩
     rintro rfl
     exact hj (uF hN e1 (I.ok.inj _ _ _ e hc ▸ hi))
  ·by_cases hcc:c'=c
   ·subst hcc;exact ⟨_,hc'⟩
   ·obtain ⟨w2,z2⟩:=I.cell y c' e
    exact ⟨w2,z2.sameBut hs hcc⟩
  ·obtain ⟨e,n,ne,nf,d⟩:=I.pin p hp
   refine ⟨(hs.2 p.1 ?_).trans e,n,ne,nf,d⟩
   intro q
   rw [q,hoc] at e
   have q':oc=p.2:=Option.some.inj e
   exact d w' (by rw [<- q'];exact hocd)
theorem j6 {M:Model} {A:Around} {E:Value->Shared->Prop} {i:Nat} {x:Str} {v:V} {u:Value} {Q:Unit->Shared->Prop} (I:Inv X pins σ H s) (hN:X.N.Nodup) (hi:X.N[i]?=some x) (hx:Loc X.env.scope x) (r:RelV v u)
 (h:∀ s',Inv X pins (σ.set i (some v)) H s'->Q () s') (hf:X.fn x=true\/X.env.scope.names.lookup x=some .local:=by first | exact .inl rfl | exact .inr rfl | assumption):wpAny M A (storeName X.env x u) Q E s :=
 yi I hN hi hx r (fun s' I' _=>h s' I') hf
theorem Inv.call' {s':Shared} {ch:List Addr} (I:Inv X pins σ H s) (ho:s'.os=s.os) (u:Un (frs X.stack) ch H H' s.heap s'.heap) (hok:HOk X.prog X.w H' s'.heap) (hg:AllBare s'.gens)
 (hch:∀ b∈ch,(b∈X.ex\/X.s₀.heap.objs.size<=b)/\b≠X.env.locals/\(∀ x c,X.env.cells.lookup x=some c->c≠b)/\∀ p∈X.pn++pins,p.1≠b):Inv X pins σ H' s':=by
 obtain ⟨h',g',d',t',o'⟩:=s'
 have e:o'=s.os:=ho
 subst e
 exact I.call (g':=g') (t':=t') (d':=d') u hok hg hch
end
abbrev XK:=Value->Option Addr->Hp->Prop
abbrev St:=List (Option V)
abbrev VK:=V->Hp->Prop
abbrev TE:=St->Hp->VK->Prop
abbrev TT:=St->Hp->(Bool->Hp->Prop)->Prop
abbrev TA:=St->Hp->(List V->Hp->Prop)->Prop
structure c7 where
 nx:St->Hp->Prop
 rt:VK
 bk:St->Hp->Prop:=fun _ _=>False
 ct:St->Hp->Prop:=fun _ _=>False
abbrev TS:=c7->St->Hp->Prop
def EP (X:Cx) (pins:List (Addr×Obj)) (σ:St) (Q:VK) (u:Value) (s':Shared):Prop:=∃ v H',Inv X pins σ H' s'/\RelV v u/\Q v H'
def TP (X:Cx) (pins:List (Addr×Obj)) (σ:St) (Q:Bool->Hp->Prop) (b:Bool) (s':Shared):Prop:=∃ H',Inv X pins σ H' s'/\Q b H'
def AP (X:Cx) (pins:List (Addr×Obj)) (σ:St) (Q:List V->Hp->Prop) (us:List Value) (s':Shared):Prop:=∃ vs H',Inv X pins σ H' s'/\Vals vs us/\Q vs H'
def SP (X:Cx) (pins:List (Addr×Obj)) (D:c7) (f:Flow) (s':Shared):Prop :=
 match f with
 | .next=>∃ σ' H',Inv X pins σ' H' s'/\D.nx σ' H'
 | .brk=>∃ σ' H',Inv X pins σ' H' s'/\D.bk σ' H'
 | .cont=>∃ σ' H',Inv X pins σ' H' s'/\D.ct σ' H'
 | .ret u=>∃ v σ' H',Inv X pins σ' H' s'/\RelV v u/\D.rt v H'
def PE (X:Cx) (e:Expr) (t:TE):Prop :=
 ∀ (pins:List (Addr×Obj)) (s:Shared) (σ:St) (H:Hp) (Q:VK),Inv X pins σ H s->t σ H Q->wpAny (model X.prog X.w) X.A (eval e X.env) (EP X pins σ Q) X.xe s
def PT (X:Cx) (e:Expr) (t:TT):Prop :=
 ∀ (pins:List (Addr×Obj)) (s:Shared) (σ:St) (H:Hp) (Q:Bool->Hp->Prop),Inv X pins σ H s->t σ H Q->wpAny (model X.prog X.w) X.A (isTrue e X.env (eval e X.env)) (TP X pins σ Q) X.xe s
def PW (X:Cx) (e:Expr) (t:TT):Prop :=
 ∀ (whole:Sem Value) (pins:List (Addr×Obj)) (s:Shared) (σ:St) (H:Hp) (Q:Bool->Hp->Prop),Inv X pins σ H s->t σ H Q->wpAny (model X.prog X.w) X.A (isTrue e X.env whole) (TP X pins σ Q) X.xe s
theorem PW.pt {X:Cx} {e:Expr} {t:TT} (h:PW X e t):PT X e t:=h _
def PA (X:Cx) (es:List Expr) (t:TA):Prop :=
 ∀ (pos:Pos) (pins:List (Addr×Obj)) (s:Shared) (σ:St) (H:Hp) (Q:List V->Hp->Prop),Inv X pins σ H s->t σ H Q->wpAny (model X.prog X.w) X.A (spliced (backTo pos (starEach es X.env))) (AP X pins σ Q) X.xe s
def PS (X:Cx) (st:Stmt) (t:TS):Prop :=
 ∀ (pins:List (Addr×Obj)) (s:Shared) (σ:St) (H:Hp) (D:c7),Inv X pins σ H s->t D σ H->wpAny (model X.prog X.w) X.A (exec st X.env) (SP X pins D) X.xe s
def PSs (X:Cx) (st:List Stmt) (t:TS):Prop :=
 ∀ (pins:List (Addr×Obj)) (s:Shared) (σ:St) (H:Hp) (D:c7),Inv X pins σ H s->t D σ H->wpAny (model X.prog X.w) X.A (execs st X.env) (SP X pins D) X.xe s
theorem thn {α:Type} {t:Sem α} {Q Q':α->Shared->Prop} {M:Model} {A:Around} {E:Value->Shared->Prop} {s:Shared} (h:wpAny M A t Q E s) (hQ:∀ a s,Q a s->Q' a s):wpAny M A t Q' E s:=wpAny_mono h hQ fun _ _ x=>x
end L2
namespace L2
open PySem PySem.Spec PyProof.Rows
section
variable {X:Cx}
def rm (i:Nat):TE:=fun σ H Q=>∃ v,σ[i]?=some (some v)/\Q v H
def tC (v:V):TE:=fun _ H Q=>Q v H
theorem Ax {i:Nat} {x:Str} {pos:Pos} (hN:X.N[i]?=some x) (hv:Vis X.env.scope x) (hd:(x == ("__debug__":Str))=false:=by decide) (hcd:(x == ("__classdict__":Str))=false:=by decide):PE X (.Name x pos) (rm i):=by
 intro pins s σ H Q I h
 obtain ⟨v,e,h⟩:=h
 obtain ⟨m,hn,hl⟩:=I.loc
 obtain ⟨u,r,l⟩:=hl i x v hN e hv
 have fin:EP X pins σ Q u s:=⟨v,H,I,r,h⟩
 rcases l with ⟨hk,hm⟩ | ⟨hk,c,hc,hcell⟩
 ·exact wpAny_Name (wpAny_loadName_local I.ok.kind hk hn hm fin) hd
 ·rcases hk with hk | hk
  ·exact wpAny_Name (wpAny_loadName_cell I.ok.kind hk hc hcell fin) hd
  ·exact wpAny_Name (wpAny_loadName_free I.ok.kind hk hc hcell fin hcd) hd
theorem ac {i j pos}:PE X (.Constant (.int i) j pos) (tC (.int i)):=fun _ _ _ H _ I h=>wpAny_Constant_int ⟨.int i,H,I.tok _,⟨_,rfl⟩,h⟩
theorem AE {b j pos}:PE X (.Constant (.bool b) j pos) (tC (.bl b)):=fun _ _ _ H _ I h=>Constant_bool ⟨.bl b,H,I,rfl,h⟩
theorem um {j pos}:PE X (.Constant .none j pos) (tC .non):=fun _ _ _ H _ I h=>Constant_none ⟨.non,H,I,rfl,h⟩
def Gl (X:Cx) (x:Str):Prop:=X.env.kindOf x=some .globalImplicit
theorem o7 {E:Value->Shared->Prop} {pins:List (Addr×Obj)} {s:Shared} {σ:St} {H:Hp} {x:Str} {u:Value} {pos:Pos} {Q:Value->Shared->Prop} (I:Inv X pins σ H s) (hg:Gl X x) (hm:X.mg x=some u) (h:Q u s)
 (hd:(x == ("__debug__":Str))=false:=by decide):wpAny (model X.prog X.w) X.A (eval (.Name x pos) X.env) Q E s :=
 Calls.Name_function_global I.ok.kind hg (Calls.loadGlobal_global (by rw [I.ok.glob];exact I.mod.glob.keeps I.bk) hm h) hd
theorem eu {E:Value->Shared->Prop} {pins:List (Addr×Obj)} {s:Shared} {σ:St} {H:Hp} {x:Str} {u:Value} {pos:Pos} {Q:Value->Shared->Prop} (I:Inv X pins σ H s) (hg:Gl X x) (hm:X.mg x=none) (hv:bootBuiltins x=some u) (h:Q u s)
 (hn:x≠"__name__":=by decide) (hd:(x == ("__debug__":Str))=false:=by decide):wpAny (model X.prog X.w) X.A (eval (.Name x pos) X.env) Q E s:=by
 obtain ⟨mb,h1,h2⟩:=I.mod.blt
 exact Calls.Name_function_global I.ok.kind hg (Calls.loadGlobal_builtin (by rw [I.ok.glob];exact I.mod.glob.keeps I.bk) hm (by rw [I.ok.blt];exact h1.keeps I.bk) ((h2 x hn).trans hv) h) hd
theorem AC {x:Str} {v:V} {u:Value} {pos:Pos} (hg:Gl X x) (hm:X.mg x=some u) (r:RelV v u) (hd:(x == ("__debug__":Str))=false:=by decide):PE X (.Name x pos) (tC v) :=
 fun _ _ _ H _ I h=>o7 I hg hm ⟨v,H,I,r,h⟩ hd
theorem uq {x:Str} {v:V} {u:Value} {pos:Pos} (hg:Gl X x) (hm:X.mg x=none) (hv:bootBuiltins x=some u) (r:RelV v u) (hn:x≠"__name__":=by decide) (hd:(x == ("__debug__":Str))=false:=by decide):PE X (.Name x pos) (tC v) :=
 fun _ _ _ H _ I h=>eu I hg hm hv ⟨v,H,I,r,h⟩ hn hd
variable {a b:Expr} {ta tb:TE} {pos:Pos}
def tB (t:TE):TT:=fun σ H Q=>t σ H fun x H1=>∃ c,x=.bl c/\Q c H1
theorem ox {e:Expr} {t:TE} (h:PE X e t) (he:∀ whole,isTrue e X.env whole=(do let v <- whole;standAt e.pos;holding [v] (truthy v)):=by intro _;rfl):PT X e (tB t):=by
 intro pins s σ H Q I hw
 refine isTrue_plain (thn (h pins s σ H _ I hw) fun v s1 ⟨x,H1,I1,r1,q1⟩=>?_) (he _)
 obtain ⟨d,rfl,q⟩:=q1
 cases r1
 exact wpAny_truthy_bool ⟨H1,I1,q⟩
variable {tA tB':TT} {rest:List Expr}
def rF (t u:TT):TT:=fun σ H Q=>t σ H fun c H1=>if c=true then u σ H1 Q else Q false H1
def tOr (t u:TT):TT:=fun σ H Q=>t σ H fun c H1=>if c=true then Q true H1 else u σ H1 Q
def rA (t:TT):TT:=fun σ H Q=>t σ H fun c H1=>Q (!c) H1
theorem d9 (ha:PT X a tA):PW X (.BoolOp .And [a] pos) tA:=by
 intro wh pins s σ H Q I h
 refine isTrue_and (thn (ha pins s σ H Q I h) fun c s1 e=>?_)
 cases c with
 | true=>exact isTrue_and_nil e
 | false=>exact e
theorem tZ (ha:PT X a tA):PW X (.BoolOp .Or [a] pos) tA:=by
 intro wh pins s σ H Q I h
 refine isTrue_or (thn (ha pins s σ H Q I h) fun c s1 e=>?_)
 cases c with
 | false=>exact isTrue_or_nil e
 | true=>exact e
theorem ee (ha:PT X a tA) (hb:PW X (.BoolOp .And (b::rest) pos) tB'):PW X (.BoolOp .And (a::b::rest) pos) (rF tA tB'):=by
 intro wh pins s σ H Q I h
 refine isTrue_and (thn (ha pins s σ H _ I h) fun c s1 ⟨H1,I1,q1⟩=>?_)
 cases c with
 | true=>exact hb wh pins s1 σ H1 Q I1 q1
 | false=>exact ⟨H1,I1,q1⟩
theorem ou (ha:PT X a tA) (hb:PW X (.BoolOp .Or (b::rest) pos) tB'):PW X (.BoolOp .Or (a::b::rest) pos) (tOr tA tB'):=by
 intro wh pins s σ H Q I h
 refine isTrue_or (thn (ha pins s σ H _ I h) fun c s1 ⟨H1,I1,q1⟩=>?_)
 cases c with
 | true=>exact ⟨H1,I1,q1⟩
 | false=>exact hb wh pins s1 σ H1 Q I1 q1
theorem uc (ha:PT X a tA):PT X (.UnaryOp .Not a pos) (rA tA):=by
 intro pins s σ H Q I h
 exact isTrue_not (ha pins s σ H (fun c H1=>Q (!c) H1) I h)
def rE (ta tb:TE):TE:=fun σ H Q=>ta σ H fun x H1=>∃ c,x=.bl c/\if c=true then tb σ H1 Q else Q (.bl false) H1
def rq (ta tb:TE):TE:=fun σ H Q=>ta σ H fun x H1=>∃ c,x=.bl c/\if c=true then Q (.bl true) H1 else tb σ H1 Q
def rz (ta:TE):TE:=fun σ H Q=>ta σ H fun x H1=>∃ c,x=.bl c/\Q (.bl (!c)) H1
theorem oE {op} {t:TE} (h:PE X a t):PE X (.BoolOp op [a] pos) t:=fun pins s σ H Q I hw=>BoolOp_one (h pins s σ H Q I hw)
theorem oG (ha:PE X a ta) (hb:PE X (.BoolOp .And (b::rest) pos) tb):PE X (.BoolOp .And (a::b::rest) pos) (rE ta tb):=by
 intro pins s σ H Q I h
 refine BoolOp_and (thn (ha pins s σ H _ I h) fun v s1 ⟨x,H1,I1,r1,q1⟩=>?_)
 obtain ⟨c,rfl,q1⟩:=q1
 cases r1
 refine wpAny_truthy_bool ?_
 cases c with
 | true=>exact hb pins s1 σ H1 Q I1 q1
 | false=>exact ⟨.bl false,H1,I1,rfl,q1⟩
theorem Ay (ha:PE X a ta) (hb:PE X (.BoolOp .Or (b::rest) pos) tb):PE X (.BoolOp .Or (a::b::rest) pos) (rq ta tb):=by
 intro pins s σ H Q I h
 refine BoolOp_or (thn (ha pins s σ H _ I h) fun v s1 ⟨x,H1,I1,r1,q1⟩=>?_)
 obtain ⟨c,rfl,q1⟩:=q1
 cases r1
 refine wpAny_truthy_bool ?_
 cases c with
 | false=>exact hb pins s1 σ H1 Q I1 q1
 | true=>exact ⟨.bl true,H1,I1,rfl,q1⟩
theorem Az (ha:PE X a ta):PE X (.UnaryOp .Not a pos) (rz ta):=by
 intro pins s σ H Q I h
 refine UnaryOp_ (thn (ha pins s σ H _ I h) fun v s1 ⟨x,H1,I1,r1,q1⟩=>?_)
 obtain ⟨c,rfl,q1⟩:=q1
 cases r1
 exact not_of (wpAny_truthy_bool ⟨.bl (!c),H1,I1,rfl,q1⟩)
def tIf (t:TT) (ta tb:TE):TE:=fun σ H Q=>t σ H fun c H1=>if c=true then ta σ H1 Q else tb σ H1 Q
theorem oF {c:Expr} (hc:PT X c tA) (ha:PE X a ta) (hb:PE X b tb):PE X (.IfExp c a b pos) (tIf tA ta tb):=by
 intro pins s σ H Q I h
 refine wpAny_IfExp (thn (hc pins s σ H _ I h) fun d s1 ⟨H1,I1,q1⟩=>?_)
 cases d with
 | true=>exact ha pins s1 σ H1 Q I1 q1
 | false=>exact hb pins s1 σ H1 Q I1 q1
end
end L2
namespace L2
open PySem PySem.Spec PyProof.Rows
def SqL (K:PySem.W.Frag) (H:Hp) (a:Addr) (xs:List V):Prop :=
 Rd H a (.lst xs) \/
  ∃ (o:Obj) (its:Array Value) (n:Nat),K.lookup a=some o/\o.cls=.type "list"/\o.dict=none/\o.data=.seq its n/\its.size<=sizeLine/\Vals xs its.toList
def SqT (K:PySem.W.Frag) (H:Hp) (a:Addr) (xs:List V):Prop :=
 Rd H a (.tup xs) \/
  ∃ (o:Obj) (its:Array Value) (n:Nat),K.lookup a=some o/\o.cls=.type "tuple"/\o.data=.seq its n/\its.size<=sizeLine/\Vals xs its.toList
def Hj:Value->Option V
 | .none=>some .non
 | .bool b=>some (.bl b)
 | .int i _=>some (.int i)
 | .str x _=>some (.str x)
 | .bytes b _=>some (.byt b)
 | .float b _=>some (.flt b)
 | .ref a=>some (.ref a)
 | .type n=>some (.ty n)
 | _=>none
theorem RelV.abs {x:V} {u:Value} (r:RelV x u):Hj u=some x:=by
 cases x with
 | non=>cases r;rfl
 | bl _=>cases r;rfl
 | int _=>obtain ⟨t,rfl⟩:=r;rfl
 | str _=>obtain ⟨t,rfl⟩:=r;rfl
 | byt _=>obtain ⟨t,rfl⟩:=r;rfl
 | flt _=>obtain ⟨t,rfl⟩:=r;rfl
 | ref _=>cases r;rfl
 | ty _=>cases r;rfl
theorem RelV.inj {x y:V} {u:Value} (r:RelV x u) (q:RelV y u):x=y:=Option.some.inj (r.abs.symm.trans q.abs)
theorem Vals.inj:∀ {xs ys:List V} {us:List Value},Vals xs us->Vals ys us->xs=ys
 | _,_,_,.nil,.nil=>rfl
 | _,_,_,.cons r t,.cons r' t'=>by rw [r.inj r',Vals.inj t t']
section
variable {X:Cx} {pins:List (Addr×Obj)} {σ:St} {H:Hp} {s:Shared} {a:Addr} {xs ys:List V}
theorem SqL.of {K:PySem.W.Frag} (h:H a=some (.lst xs)):SqL K H a xs:=.inl (.inl h)
theorem SqT.of {K:PySem.W.Frag} (h:H a=some (.tup xs)):SqT K H a xs:=.inl (.inl h)
theorem Inv.list (I:Inv X pins σ H s) (h:SqL X.K H a xs):∃ its:List Value,Vals xs its/\PlainL s.heap a its.toArray/\xs.length<=sizeLine:=by
 rcases h with h | ⟨o,its,n,hk,hc,hd,hs,hz,r⟩
 ·obtain ⟨z,its,n,r,e⟩:=h.ok I.hok
  exact ⟨its,r,⟨_,n,e,rfl,rfl,rfl⟩,z⟩
 ·refine ⟨its.toList,r,⟨o,n,I.kIn a o hk,hc,hd,by simpa using hs⟩,?_⟩
  have e:=r.length
  simp only [Array.length_toList] at e
  omega
theorem Inv.tuple (I:Inv X pins σ H s) (h:SqT X.K H a xs):∃ its:List Value,Vals xs its/\IsTup s.heap a its.toArray/\xs.length<=sizeLine:=by
 rcases h with h | ⟨o,its,n,hk,hc,hs,hz,r⟩
 ·obtain ⟨z,its,r,p⟩:=h.ok I.hok
  exact ⟨its,r,p,z⟩
 ·refine ⟨its.toList,r,⟨o,I.kIn a o hk,hc,n,by simpa using hs⟩,?_⟩
  have e:=r.length
  simp only [Array.length_toList] at e
  omega
theorem Inv.list_inj (I:Inv X pins σ H s) (h:SqL X.K H a xs) (h':SqL X.K H a ys):xs=ys:=by
 obtain ⟨its,r,⟨o,n,e,_,_,d⟩,_⟩:=I.list h
 obtain ⟨its',r',⟨o',n',e',_,_,d'⟩,_⟩:=I.list h'
 rw [e] at e';cases e'
 rw [d] at d'
 injection d' with d1 _
 have:its=its':=by simpa using congrArg Array.toList d1
 subst this
 exact r.inj r'
end
abbrev Cx.wish (X:Cx) (E:Value->Shared->Prop):Cx:={ X with xe:=E }
abbrev Cx.nox (X:Cx):Cx:=X.wish fun _ _=>False
theorem Cx.Ok.wish {X:Cx} (ok:X.Ok) (E:Value->Shared->Prop):(X.wish E).Ok :=
 ⟨ok.mod,ok.kind,ok.glob,ok.blt,ok.above,ok.inj,ok.has,ok.cab,ok.hd,ok.frames,ok.stk,ok.exf,ok.bs,ok.bsz,ok.noex,ok.exfs,ok.funs,ok.frf⟩
theorem Cx.Ok.unwish {X:Cx} {E:Value->Shared->Prop} (ok:(X.wish E).Ok):X.Ok :=
 ⟨ok.mod,ok.kind,ok.glob,ok.blt,ok.above,ok.inj,ok.has,ok.cab,ok.hd,ok.frames,ok.stk,ok.exf,ok.bs,ok.bsz,ok.noex,ok.exfs,ok.funs,ok.frf⟩
section
variable {X:Cx} {pins:List (Addr×Obj)} {σ:St} {H:Hp} {s:Shared} {E:Value->Shared->Prop}
theorem Inv.wish (I:Inv X pins σ H s) (E:Value->Shared->Prop):Inv (X.wish E) pins σ H s:=⟨I.ok.wish E,I.os,I.bare,I.base,I.loc,I.cell,I.free,I.freeC,I.pin,I.hok,I.len⟩
theorem Inv.unwish (I:Inv (X.wish E) pins σ H s):Inv X pins σ H s:=⟨I.ok.unwish,I.os,I.bare,I.base,I.loc,I.cell,I.free,I.freeC,I.pin,I.hok,I.len⟩
theorem SP.unwish {D:c7} {f:Flow} {s':Shared} (h:SP (X.wish E) pins D f s'):SP X pins D f s':=by
 cases f with
 | next=>obtain ⟨σ',H',I,q⟩:=h;exact ⟨σ',H',I.unwish,q⟩
 | brk=>obtain ⟨σ',H',I,q⟩:=h;exact ⟨σ',H',I.unwish,q⟩
 | cont=>obtain ⟨σ',H',I,q⟩:=h;exact ⟨σ',H',I.unwish,q⟩
 | ret u=>obtain ⟨v,σ',H',I,r,q⟩:=h;exact ⟨v,σ',H',I.unwish,r,q⟩
theorem PE.nox {e:Expr} {t:TE} (h:PE X.nox e t):PE X e t:=fun pins s σ H Q I hw =>
 wpAny_mono (h pins s σ H Q (I.wish _) hw) (fun _ _ ⟨v,H',I',r,q⟩=>⟨v,H',I'.unwish,r,q⟩) fun _ _ z=>False.elim z
theorem PT.nox {e:Expr} {t:TT} (h:PT X.nox e t):PT X e t:=fun pins s σ H Q I hw =>
 wpAny_mono (h pins s σ H Q (I.wish _) hw) (fun _ _ ⟨H',I',q⟩=>⟨H',I'.unwish,q⟩) fun _ _ z=>False.elim z
theorem PSs.nox {st:List Stmt} {t:TS} (h:PSs X.nox st t):PSs X st t:=fun pins s σ H D I hw =>
 wpAny_mono (h pins s σ H D (I.wish _) hw) (fun _ _ q=>q.unwish) fun _ _ z=>False.elim z
end
section
variable {X:Cx} {st:Stmt} {rest:List Stmt} {t u:TS} {e:Expr} {te:TE} {pos:Pos}
def rB:TS:=fun D σ H=>D.nx σ H
def cS (t u:TS):TS:=fun D σ H=>t { D with nx:=u D } σ H
theorem aW:PSs X [] rB:=fun _ _ σ H _ I h=>wpAny_execs_nil ⟨σ,H,I,h⟩
theorem af (h1:PS X st t) (h2:PSs X rest u):PSs X (st::rest) (cS t u):=by
 intro pins s σ H D I h
 refine wpAny_execs_cons (thn (h1 pins s σ H { D with nx:=u D } I h) fun f s1 q=>?_)
 cases f with
 | next =>
   obtain ⟨σ',H',I',q⟩:=q
   exact h2 pins s1 σ' H' D I' q
 | ret v=>exact q
 | brk=>exact q
 | cont=>exact q
theorem ai (h1:PS X st t):PSs X [st] t:=by
 intro pins s σ H D I h
 refine wpAny_execs_cons (thn (h1 pins s σ H D I h) fun f s1 q=>?_)
 cases f with
 | next=>exact wpAny_execs_nil q
 | ret v=>exact q
 | brk=>exact q
 | cont=>exact q
theorem Inv.quiet {pins:List (Addr×Obj)} {σ:St} {H:Hp} {s:Shared} (I:Inv X pins σ H s):interactive X.env=false:=by simp [interactive,I.ok.kind]
def lR (te:TE):TS:=fun D σ H=>te σ H fun _ H1=>D.nx σ H1
theorem eW (he:PE X e te) (hs:swapsWith e none pos.line X.env=pure false:=by rfl):PS X (.Expr e pos) (lR te):=by
 intro pins s σ H D I h
 exact wpAny_Expr_any (thn (he pins s σ H _ I h) fun v s1 ⟨x,H1,I1,r1,q1⟩=>⟨σ,H1,I1,q1⟩) I.quiet hs
def rp (te:TE):TS:=fun D σ H=>te σ H D.rt
theorem au (he:PE X e te):PS X (.Return (some e) pos) (rp te):=by
 intro pins s σ H D I h
 exact wpAny_Return_some (thn (he pins s σ H _ I h) fun v s1 ⟨x,H1,I1,r1,q1⟩=>⟨x,σ,H1,I1,r1,q1⟩)
def iB (c:TT) (t u:TS):TS:=fun D σ H=>c σ H fun b H1=>if b=true then t D σ H1 else u D σ H1
theorem aV {c:Expr} {a b:List Stmt} {tc:TT} (hc:PT X c tc) (ha:PSs X a t) (hb:PSs X b u):PS X (.If c a b pos) (iB tc t u):=by
 intro pins s σ H D I h
 refine wpAny_If (thn (hc pins s σ H _ I h) fun d s1 ⟨H1,I1,q1⟩=>?_)
 cases d with
 | true=>exact ha pins s1 σ H1 D I1 q1
 | false=>exact hb pins s1 σ H1 D I1 q1
def x8:TS:=fun _ _ _=>False
theorem fR:PS X st x8:=fun _ _ _ _ _ _ h=>h.elim
end
abbrev TG:=V->St->Hp->(St->Hp->Prop)->Prop
abbrev TGs:=List V->St->Hp->(St->Hp->Prop)->Prop
def PG (X:Cx) (target:Expr) (t:TG):Prop :=
 ∀ (pins:List (Addr×Obj)) (s:Shared) (σ:St) (H:Hp) (v:V) (u:Value) (Q:St->Hp->Prop),Inv X pins σ H s->RelV v u->t v σ H Q ->
   wpAny (model X.prog X.w) X.A (assign target X.env u) (fun _ s'=>∃ σ' H',Inv X pins σ' H' s'/\Q σ' H') X.xe s
def PGs (X:Cx) (ts:List Expr) (t:TGs):Prop :=
 ∀ (pins:List (Addr×Obj)) (s:Shared) (σ:St) (H:Hp) (vs:List V) (us:List Value) (Q:St->Hp->Prop),Inv X pins σ H s->Vals vs us->t vs σ H Q ->
   wpAny (model X.prog X.w) X.A (assignInOrder ((assignEach ts X.env).map (·.2)) us) (fun _ s'=>∃ σ' H',Inv X pins σ' H' s'/\Q σ' H') X.xe s
abbrev qH:=V->V->V->Hp->(Hp->Prop)->Prop
def xh (X:Cx) (t:qH):Prop :=
 ∀ (pins:List (Addr×Obj)) (s:Shared) (σ:St) (H:Hp) (o i v:V) (ov iv u:Value) (Q:Hp->Prop),Inv X pins σ H s->RelV o ov->RelV i iv->RelV v u->t o i v H Q ->
   wpAny (model X.prog X.w) X.A (setItem ov iv u) (fun _ s'=>∃ H',Inv X pins σ H' s'/\Q H') X.xe s
section
variable {X:Cx} {pos:Pos}
def gj (i:Nat):TG:=fun v σ H Q=>Q (σ.set i (some v)) H
theorem aQ {i:Nat} {x:Str} (hN:X.N.Nodup) (hi:X.N[i]?=some x) (hx:Loc X.env.scope x) (hf:X.fn x=true\/X.env.scope.names.lookup x=some .local:=by first | exact .inl rfl | exact .inr rfl | assumption):PG X (.Name x pos) (gj i):=by
 intro pins s σ H v u Q I r h
 exact wpAny_assign_Name (j6 I hN hi hx r (fun s' I'=>⟨_,H,I',h⟩) hf)
def Ex:TGs:=fun vs σ H Q=>vs=[]/\Q σ H
def Ey (t:TG) (u:TGs):TGs:=fun vs σ H Q=>∃ v r,vs=v::r/\t v σ H fun σ' H'=>u r σ' H' Q
theorem ib:PGs X [] Ex:=by
 intro pins s σ H vs us Q I r h
 obtain ⟨e,h⟩:=h
 subst e
 cases r
 exact assignInOrder_nil ⟨σ,H,I,h⟩
theorem cw {e:Expr} {es:List Expr} {t:TG} {u:TGs} (h1:PG X e t) (h2:PGs X es u)
 (hs:(assignEach (e::es) X.env).map (·.2)=assign e X.env::(assignEach es X.env).map (·.2):=by rfl):PGs X (e::es) (Ey t u):=by
 intro pins s σ H vs us Q I r h
 obtain ⟨v,vr,e1,h⟩:=h
 subst e1
 cases r with
 | cons r rr =>
   rw [hs]
   refine assignInOrder_cons (thn (h1 pins s σ H _ _ _ I r h) fun _ s1 ⟨σ1,H1,I1,q1⟩=>?_)
   exact h2 pins s1 σ1 H1 _ _ Q I1 rr q1
def Ev (K:PySem.W.Frag) (n:Nat) (t:TGs):TG:=fun v σ H Q=>∃ a xs,v=.ref a/\SqT K H a xs/\xs.length=n/\t xs σ H Q
theorem ic {es:List Expr} {k:Nat} {t:TGs} {n:Nat} (hc:X.calm=true) (h:PGs X es t)
 (hn:(assignEach es X.env).length=n:=by rfl) (hst:(assignEach es X.env).findIdx? (·.1)=none:=by rfl):PG X (.Tuple es k pos) (Ev X.K n t):=by
 intro pins s σ H v u Q I r hw
 obtain ⟨a,xs,e1,hq,hl,hw⟩:=hw
 subst e1
 cases r
 obtain ⟨its,rv,ht,hz⟩:=I.tuple hq
 refine assign_Tuple_tuple (I.ok.hd hc) ht (by simp [hn,<- hl,rv.length]) hst fun h' hx=>?_
 have I1:Inv X pins σ H { s with heap:=h' }:=I.kept (t':=s.toks) fun b o e=>hx b o (Nat.ne_of_lt (Heap.lt_size e)) e
 exact h pins _ σ H xs _ Q I1 (by simpa using rv) hw
def Ew (to ti:TE) (t:qH):TG:=fun v σ H Q=>to σ H fun o H1=>ti σ H1 fun i H2=>t o i v H2 fun H3=>Q σ H3
theorem iY {o i:Expr} {to ti:TE} {t:qH} (ho:PE X o to) (hi:PE X i ti) (hs:xh X t)
 (ha:∀ v,assign (.Subscript o i pos) X.env v=(do
   let ov <- holding [v] (eval o X.env)
   let iv <- holding [v,ov] (eval i X.env)
   standAt pos
   holding [v,ov,iv] (setItem ov iv v)
   release [v,ov,iv] []):=by intro _;rfl):PG X (.Subscript o i pos) (Ew to ti t):=by
 intro pins s σ H v u Q I r h
 rw [ha]
 refine wpAny_bind (wpAny_holding (thn (ho pins s σ H _ I h) fun ov s1 ⟨x,H1,I1,r1,q1⟩=>?_))
 refine wpAny_bind (wpAny_holding (thn (hi pins s1 σ H1 _ I1 q1) fun iv s2 ⟨y,H2,I2,r2,q2⟩=>?_))
 refine wpAny_bind (wpAny_standAt (wpAny_bind (wpAny_holding (thn (hs pins s2 σ H2 x y v ov iv u _ I2 r1 r2 r q2) fun _ s3 ⟨H3,I3,q3⟩=>?_))))
 exact wpAny_release ⟨σ,H3,I3,q3⟩
def fL (te:TE) (g:TG):TS:=fun D σ H=>te σ H fun x H1=>g x σ H1 D.nx
theorem eX {tg e:Expr} {te:TE} {g:TG} (he:PE X e te) (hg:PG X tg g) (hs:swapsWithSole [tg] e pos.line X.env=pure false:=by rfl) (hw:swappedStores [tg] e X.env=pure none:=by rfl)
 (h1:(assignEach [tg] X.env).map (·.2)=[assign tg X.env]:=by rfl):PS X (.Assign [tg] e pos) (fL te g):=by
 intro pins s σ H D I h
 refine wpAny_Assign_stores (thn (he pins s σ H _ I h) fun v s1 ⟨x,H1,I1,r1,q1⟩=>?_) hs hw
 rw [h1]
 exact thn (hg pins s1 σ H1 x v _ I1 r1 q1) fun _ s2 q=>q
theorem aj {i:Nat} {x:Str} {e:Expr} {te:TE} {pos':Pos} (hN:X.N.Nodup) (hi:X.N[i]?=some x) (hx:Loc X.env.scope x) (he:PE X e te) (hs:swapsWith e (some (.Name x pos')) pos.line X.env=pure false:=by rfl) (hf:X.fn x=true\/X.env.scope.names.lookup x=some .local:=by first | exact .inl rfl | exact .inr rfl | assumption) :
 PS X (.Assign [.Name x pos'] e pos) (fL te (gj i)):=by
 intro pins s σ H D I h
 refine wpAny_Assign_Name (thn (he pins s σ H _ I h) fun v s1 ⟨y,H1,I1,r1,q1⟩=>?_) hs
 exact j6 I1 hN hi hx r1 (fun s2 I2=>⟨_,H1,I2,q1⟩) hf
def x5 (i j:Nat) (ta:TA):TS:=fun D σ H=>ta σ H fun vs H1=>∃ v w,vs=[v,w]/\D.nx ((σ.set i (some v)).set j (some w)) H1
theorem Ac {i j:Nat} {x y:Str} {a b:Expr} {ta:TA} {px py pt:Pos} {kt k2 pt2} (hc:X.calm=true) (hN:X.N.Nodup) (hi:X.N[i]?=some x) (hj:X.N[j]?=some y) (hij:i≠j)
 (hx:X.env.scope.names.lookup x=some .local) (hy:X.env.scope.names.lookup y=some .local) (ha:PA X [a,b] ta)
 (hw:swappedStores [.Tuple [.Name x px,.Name y py] kt pt] (.Tuple [a,b] k2 pt2) X.env=pure (some [x,y]))
 (hs:swapsWithSole [.Tuple [.Name x px,.Name y py] kt pt] (.Tuple [a,b] k2 pt2) pos.line X.env=pure false:=by rfl) :
 PS X (.Assign [.Tuple [.Name x px,.Name y py] kt pt] (.Tuple [a,b] k2 pt2) pos) (x5 i j ta):=by
 intro pins s σ H D I h
 rw [exec_Assign_arm]
 refine wpAny_bind (wpAny_standAt ?_)
 rw [hs]
 refine wpAny_bind (wpAny_pure ?_)
 rw [if_neg (by decide)]
 refine wpAny_bind (Tuple_ (thn (ha _ pins s σ H _ I h) fun us s1 ⟨vs,H1,I1,r1,q1⟩=>?_))
 obtain ⟨v,w,e1,q1⟩:=q1
 subst e1
 obtain ⟨u1,u2,rfl,rv,rw'⟩:∃ u1 u2,us=[u1,u2]/\RelV v u1/\RelV w u2:=by
  cases r1 with
  | cons p q =>
    cases q with
    | cons p' q' =>
      cases q'
      exact ⟨_,_,rfl,p,p'⟩
 refine wpAny_newObj_type ?_ (by show 2<=sizeLine;decide)
 have I2:Inv X pins σ H1 { s1 with heap:=s1.heap.push { cls:=.type "tuple",data:=.seq [u1,u2].toArray } }:=I1.kept (t':=s1.toks) fun b o e=>Heap.get?_push_of_some _ e
 rw [hw]
 refine wpAny_bind (wpAny_pure ?_)
 show wpAny (model X.prog X.w) X.A (do rule "assign.swapped-stores";let items <- unpackItems (.ref s1.heap.objs.size) 2 none;assignInOrder [fun v=>bindName X.env y v,fun v=>bindName X.env x v] items.reverse;pure Flow.next) _ _ _
 refine wpAny_bind (wpAny_rule (wpAny_bind (unpackItems_tuple (items:=#[u1,u2]) (I.ok.hd hc) (IsTup.new s1.heap _) fun h' hx'=>?_)))
 have I3:=I2.kept (h':=h') (t':=s1.toks) fun b o e=>hx' b o (Nat.ne_of_lt (Heap.lt_size e)) e
 show wpAny _ _ (assignInOrder [fun v=>bindName X.env y v,fun v=>bindName X.env x v] [u2,u1] >>= fun _=>pure Flow.next) _ _ _
 refine wpAny_bind (assignInOrder_cons (wpAny_bindName (j6 I3 hN hj (.inl hy) rw' (fun s2 I4=>?_) (.inr hy))))
 refine assignInOrder_cons (wpAny_bindName (j6 I4 hN hi (.inl hx) rv (fun s3 I5=>assignInOrder_nil (wpAny_pure ?_)) (.inr hx)))
 rw [List.set_comm _ _ (Ne.symm hij)] at I5
 exact ⟨_,H1,I5,q1⟩
end
section
variable {X:Cx} {pos:Pos}
def xY (c:TT) (tb:TS):TS:=fun D σ H=>∃ W:Nat->St->Hp->Prop,(∃ m,W m σ H)/\∀ m σ H,W m σ H ->
 c σ H fun b H1=>if b=true then ∃ N:St->Hp->Prop,(∀ σ' H',N σ' H'->∃ m',m'<m/\W m' σ' H')/\tb { D with nx:=N,ct:=N,bk:=D.nx } σ H1 else D.nx σ H1
theorem ek {c:Expr} {body:List Stmt} {tc:TT} {tb:TS} (hp:PassesOwn (model X.prog X.w) X.A X.env X.xe) (hc:PT X c tc) (hb:PSs X body tb):PS X (.While c body [] pos) (xY tc tb):=by
 intro pins s σ H D I h
 obtain ⟨W,⟨m0,w0⟩,turn⟩:=h
 refine wpAny_While (codeAny_whileLoop (fun n s'=>∃ σ' H',Inv X pins σ' H' s'/\W n σ' H') ?_ m0 ⟨σ,H,I,w0⟩)
 rintro n s1 ⟨σ1,H1,I1,w1⟩
 refine wpAny_passesOwn hp (thn (hc pins s1 σ1 H1 _ I1 (turn n σ1 H1 w1)) fun b s2 ⟨H2,I2,q2⟩=>?_)
 cases b with
 | true =>
   obtain ⟨N,hN,q2⟩:=q2
   rw [if_pos rfl]
   refine wpAny_passesOwn hp (thn (hb pins s2 σ1 H2 _ I2 q2) fun f s3 q3=>?_)
   cases f with
   | next =>
     obtain ⟨σ3,H3,I3,n3⟩:=q3
     obtain ⟨m',hm,w3⟩:=hN σ3 H3 n3
     exact ⟨m',hm,σ3,H3,I3,w3⟩
   | cont =>
     obtain ⟨σ3,H3,I3,n3⟩:=q3
     obtain ⟨m',hm,w3⟩:=hN σ3 H3 n3
     exact ⟨m',hm,σ3,H3,I3,w3⟩
   | brk=>exact q3
   | ret v=>exact q3
 | false =>
   rw [if_neg Bool.false_ne_true]
   exact wpAny_execs_nil ⟨σ1,H2,I2,q2⟩
end
structure It where
 go:Nat->Hp->Prop
 yld:Nat->Hp->V->Hp->Prop
 stop:Nat->Hp->Prop
def d5 (X:Cx) (pins:List (Addr×Obj)) (H:Hp) (b:Addr):Prop :=
 H b=none/\b≠X.env.locals/\b∉X.fs/\(b∈X.ex\/X.s₀.heap.objs.size<=b)/\(∀ x c,X.env.cells.lookup x=some c->c≠b)/\∀ p∈X.pn++pins,p.1≠b
theorem Inv.fpOk {X:Cx} {pins:List (Addr×Obj)} {σ:St} {H H':Hp} {s:Shared} {b:Addr} (I:Inv X pins σ H s) (hb:s.heap.objs.size<=b) (hn:H' b=none):d5 X pins H' b:=by
 refine ⟨hn,Nat.ne_of_gt (Nat.lt_of_lt_of_le I.lt hb),I.nofs hb,.inr (Nat.le_trans I.sz hb),fun x c e z=>?_,fun p hp z=>?_⟩
 ·obtain ⟨v,q⟩:=I.cell x c e
  exact absurd (Nat.lt_of_lt_of_le q.lt (by rw [z];exact hb)) (Nat.lt_irrefl _)
 ·exact absurd (Nat.lt_of_lt_of_le (Heap.lt_size (I.pin p hp).1) (by rw [z];exact hb)) (Nat.lt_irrefl _)
structure Turn (P:Program) (w:World) (K:PySem.W.Frag) (tg:Expr) (J:It) (fp:List Addr) (it:Addr) (tn:Nat->Heap->Prop):Prop where
 mem:it∈fp
 obj:∀ i h,tn i h->∀ b∈fp,∃ o,h.get? b=some o/\∀ v,o.data≠.cell v
 keep:∀ i h h',tn i h->(∀ b∈fp,∀ o,h.get? b=some o->h'.get? b=some o)->tn i h'
 item:∀ (X:Cx),X.prog=P->X.w=w->X.K=K->X.calm=true->∀ (i:Nat) (pins:List (Addr×Obj)) (s:Shared) (σ:St) (H:Hp) (E:Value->Shared->Prop),Inv X pins σ H s->(∀ b∈fp,d5 X pins H b)->tn i s.heap->J.go i H ->
  wpAny (model P w) X.A (pyNext (.ref it)) (fun r s1=>∃ u,r=some u /\
   wpAny (model P w) X.A (letOwnedTupleGo tg (.ref it) u) (fun _ s2=>∃ x H',Inv X pins σ H' s2/\RelV x u/\J.yld i H x H'/\tn (i+1) s2.heap/\∀ b∈fp,H' b=none) E s1) E s
 done:∀ (X:Cx),X.prog=P->X.w=w->X.K=K->X.calm=true->∀ (i:Nat) (pins:List (Addr×Obj)) (s:Shared) (σ:St) (H:Hp) (E:Value->Shared->Prop),Inv X pins σ H s->(∀ b∈fp,d5 X pins H b)->tn i s.heap->J.stop i H ->
  wpAny (model P w) X.A (pyNext (.ref it)) (fun r s1=>r=none/\Inv X pins σ H s1) E s
 self:∀ (A:Around) (i:Nat) (s:Shared) (Q:Value->Shared->Prop) (E:Value->Shared->Prop),tn i s.heap->Q (.ref it) s->wpAny (model P w) A (pyIter (.ref it)) Q E s
abbrev TI:=St->Hp->(It->Hp->Prop)->Prop
def PIE (X:Cx) (pins:List (Addr×Obj)) (σ:St) (tg:Expr) (R:It->Hp->Prop) (itv:Value) (s2:Shared):Prop :=
 ∃ (it:Addr) (fp:List Addr) (tn:Nat->Heap->Prop) (J:It) (H':Hp),itv=.ref it/\Inv X pins σ H' s2/\Turn X.prog X.w X.K tg J fp it tn/\tn 0 s2.heap/\(∀ b∈fp,d5 X pins H' b)/\R J H'
def PI (X:Cx) (tg iter:Expr) (wi:TI):Prop :=
 ∀ (pins:List (Addr×Obj)) (s:Shared) (σ:St) (H:Hp) (R:It->Hp->Prop),Inv X pins σ H s->wi σ H R ->
   wpAny (model X.prog X.w) X.A (eval iter X.env) (fun v s1=>wpAny (model X.prog X.w) X.A (pyIter v) (PIE X pins σ tg R) X.xe s1) X.xe s
theorem lj {M:Model} {A:Around} {E:Value->Shared->Prop} {s:Shared} {tg:Expr} {it:Addr} {u:Value} {o:Obj} {n:String} {vs:Array Value} {Q:Unit->Shared->Prop} (ho:s.heap.get? it=some o) (hc:o.cls=.type n) (hd:o.data=.fields vs)
 (hn:["enumerate","zip","dict_itemiterator","dict_reverseitemiterator","odict_iterator","itertools.zip_longest","itertools.pairwise"].contains n=false) (hQ:Q () s):wpAny M A (letOwnedTupleGo tg (.ref it) u) Q E s:=by
 unfold letOwnedTupleGo
 cases tg<;>first
  | exact wpAny_pure hQ
  | (cases u<;>first
      | exact wpAny_pure hQ
      | (refine wpAny_bind (wpAny_load ho ?_)
         rw [hc,hd]
         show wpAny M A (if (["enumerate","zip","dict_itemiterator","dict_reverseitemiterator","odict_iterator","itertools.zip_longest","itertools.pairwise"].contains n&&vs[0]? == some (rawInt _))=true then _ else _) Q E s
         rw [if_neg (by intro h;rw [hn,Bool.false_and] at h;cases h)]
         exact wpAny_pure hQ))
def Itl (K:PySem.W.Frag) (a:Addr):It :=
 ⟨fun i H=>∃ xs x,SqL K H a xs/\xs[i]?=some x,fun i H x H'=>H'=H/\∀ xs,SqL K H a xs->xs[i]?=some x,fun i H=>∃ xs,SqL K H a xs/\xs.length<=i⟩
def Itr (lo:Int) (n:Nat):It:=⟨fun i _=>i<n,fun i H x H'=>H'=H/\x=.int (lo+i),fun i _=>n<=i⟩
theorem xE {P:Program} {w:World} {K:PySem.W.Frag} {tg:Expr} (a it:Addr):Turn P w K tg (Itl K a) [it] it (fun i h=>h.IsListIter it a i) where
 mem:=by simp
 obj:=fun i h st b hb=>by
  have e:b=it:=by simpa using hb
  subst e
  obtain ⟨o,e,c,d⟩:=st
  exact ⟨o,e,fun v z=>by rw [d] at z;cases z⟩
 keep:=fun i h h' st k=>st.at fun o e=>k it (by simp) o e
 item:=by
  intro X hP hw hK hc i pins s σ H E I hf st hg
  subst hP hw hK
  obtain ⟨xs,x,hq,hx⟩:=hg
  obtain ⟨its,rv,p,hz⟩:=I.list hq
  obtain ⟨u,hu,ru⟩:=rv.get hx
  obtain ⟨f0,f1,f2,f3,f4,f5⟩:=hf it (by simp)
  refine wpAny_pyNext_list_item st p.isList (x:=u) (by simpa using hu) fun h' st' sb=>?_
  have I1:Inv X pins σ H { s with heap:=h' }:=I.turned (t':=s.toks) (fun b o hb e=>(sb.2 b hb).trans e) f0 f1 f3 f4 f5
  obtain ⟨o,e,c,d⟩:=id st'
  exact ⟨u,rfl,lj (s:={ s with heap:=h' }) e c d (by decide) ⟨x,H,I1,ru,⟨rfl,fun ys hy=>by rw [I.list_inj hy hq];exact hx⟩,st',fun b hb=>(hf b hb).1⟩⟩
 done:=by
  intro X hP hw hK hc i pins s σ H E I hf st hg
  subst hP hw hK
  obtain ⟨xs,hq,hx⟩:=hg
  obtain ⟨its,rv,p,hz⟩:=I.list hq
  obtain ⟨f0,f1,f2,f3,f4,f5⟩:=hf it (by simp)
  have hl:=rv.length
  exact wpAny_pyNext_list_end (I.ok.hd hc) st p.isList (by simp;omega) fun h' eb=>⟨rfl,I.turned (t':=s.toks) (fun b o hb e=>eb b o hb e) f0 f1 f3 f4 f5⟩
 self:=fun _ _ _ _ _ st h=>wpAny_pyIter_listiter st h
theorem xD {P:Program} {w:World} {K:PySem.W.Frag} {tg:Expr} (it:Addr) (lo:Int) (n:Nat):Turn P w K tg (Itr lo n) [it] it (fun i h=>IsRangeIter h it (lo+(i:Nat)*1) ((n:Int)-(i:Nat)) 1) where
 mem:=by simp
 obj:=fun i h st b hb=>by
  have e:b=it:=by simpa using hb
  subst e
  exact ⟨_,st,fun v z=>by
   have z':Data.fields _=Data.cell v:=z
   cases z'⟩
 keep:=fun i h h' st k=>k it (by simp) _ st
 item:=by
  intro X hP hw hK hc i pins s σ H E I hf st hg
  subst hP hw hK
  obtain ⟨f0,f1,f2,f3,f4,f5⟩:=hf it (by simp)
  have W:=Walks.range (prog:=X.prog) (w:=X.w) (I.ok.hd hc) it lo 1 n
  refine W.item i s _ _ hg st fun v h' tk hv st' kk=>?_
  obtain ⟨t,rfl⟩:=hv
  have I1:Inv X pins σ H { s with heap:=h',toks:=tk }:=I.turned (fun b o hb e=>kk b o (by simpa using hb) e) f0 f1 f3 f4 f5
  refine ⟨_,rfl,lj (s:={ s with heap:=h',toks:=tk }) (n:="range_iterator") st' rfl rfl (by decide) ⟨.int (lo+i),H,I1,⟨t,?_⟩,⟨rfl,rfl⟩,st',fun b hb=>(hf b hb).1⟩⟩
  rw [Int.mul_one]
 done:=by
  intro X hP hw hK hc i pins s σ H E I hf st hg
  subst hP hw hK
  obtain ⟨f0,f1,f2,f3,f4,f5⟩:=hf it (by simp)
  exact wpAny_pyNext_range_end (I.ok.hd hc) st (by have:n<=i:=hg;omega) fun h' eb=>⟨rfl,I.turned (t':=s.toks) (fun b o hb e=>eb b o hb e) f0 f1 f3 f4 f5⟩
 self:=fun _ _ _ _ _ st h=>wpAny_pyIter_rangeiter st h
end L2
namespace L2
open PySem PySem.Spec PyProof.Rows
section
variable {X:Cx} {tg:Expr}
def vL (K:PySem.W.Frag) (tl:TE):TI:=fun σ H R=>tl σ H fun x H1=>∃ a,x=.ref a/\(∃ xs,SqL K H1 a xs)/\R (Itl K a) H1
theorem Av {l:Expr} {tl:TE} (hl:PE X l tl):PI X tg l (vL X.K tl):=by
 intro pins s σ H R I h
 refine thn (hl pins s σ H _ I h) fun v s1 ⟨x,H1,I1,r1,q1⟩=>?_
 obtain ⟨a,e,⟨xs,hq⟩,q⟩:=q1
 subst e
 cases r1
 obtain ⟨its,rv,p,hz⟩:=I1.list hq
 refine wpAny_pyIter_list p.isList ?_
 refine ⟨s1.heap.objs.size,[s1.heap.objs.size],_,_,H1,rfl,I1.kept (t':=s1.toks) fun b o e=>Heap.get?_push_of_some _ e,xE a _,⟨_,Heap.get?_push_size _ rfl,rfl,rfl⟩,fun b hb=>?_,q⟩
 have e:b=s1.heap.objs.size:=by simpa using hb
 subst e
 exact I1.fpOk (Nat.le_refl _) (I1.hok.fresh (Nat.le_refl _))
theorem tS {pins:List (Addr×Obj)} {σ:St} {H:Hp} {s:Shared} {R:It->Hp->Prop} {E:Value->Shared->Prop} {lo hi:Int} {t u v:Tok} {tk:Nat} (I:Inv X pins σ H s) (h1 : -(2^62)<=lo) (h2:lo<2^62) (h3 : -(2^62)<=hi) (h4:hi<2^62)
 (q:R (Itr lo (hi-lo).toNat) H):wpAny (model X.prog X.w) X.A (pyIter (.ref s.heap.objs.size)) (PIE X pins σ tg R) E { s with heap:=s.heap.push { cls:=.type "range",data:=.fields #[.int lo t,.int hi u,.int 1 v] },toks:=tk }:=by
 refine wpAny_pyIter_range (IsRange.new ..) (small_one h1 h2 h3 h4) ?_
 have I1:Inv X pins σ H { s with heap:=s.heap.push { cls:=.type "range",data:=.fields #[.int lo t,.int hi u,.int 1 v] },toks:=tk }:=I.kept fun b o e=>Heap.get?_push_of_some _ e
 refine ⟨(s.heap.push { cls:=.type "range",data:=.fields #[.int lo t,.int hi u,.int 1 v] }).objs.size,[(s.heap.push { cls:=.type "range",data:=.fields #[.int lo t,.int hi u,.int 1 v] }).objs.size],_,_,H,rfl,
  I1.kept (t':=tk) fun b o e=>Heap.get?_push_of_some _ e,xD _ lo (hi-lo).toNat,?_,fun b hb=>?_,q⟩
 ·have e1:lo+((0:Nat):Int)*1=lo:=by simp
  have e2:(((hi-lo).toNat:Nat):Int)-((0:Nat):Int)=Builtin.Range.rangeSize lo hi 1:=by rw [rangeSize_one];split<;>omega
  show IsRangeIter _ _ (lo+((0:Nat):Int)*1) ((((hi-lo).toNat:Nat):Int)-((0:Nat):Int)) 1
  rw [e1,e2]
  exact Heap.get?_push_size _ rfl
 ·have e:b=(s.heap.push { cls:=.type "range",data:=.fields #[.int lo t,.int hi u,.int 1 v] }).objs.size:=by simpa using hb
  subst e
  exact I1.fpOk (Nat.le_refl _) (I1.hok.fresh (Nat.le_refl _))
def D9 (ta:TA):TI:=fun σ H R=>ta σ H fun vs H1=>∃ j:Int,vs=[.int j] /\ -(2^62)<=j/\j<2^62/\R (Itr 0 j.toNat) H1
def D8 (ta:TA):TI:=fun σ H R=>ta σ H fun vs H1=>∃ i j:Int,vs=[.int i,.int j]/\(-(2^62)<=i/\i<2^62 /\ -(2^62)<=j/\j<2^62)/\R (Itr i (j-i).toNat) H1
theorem fb {a:Expr} {ta:TA} {p pos:Pos} (hg:Gl X "range") (hm:X.mg "range"=none) (ha:PA X [a] ta) (hs:starEach [a] X.env=[(false,eval a X.env)]:=by rfl):PI X tg (.Call (.Name "range" p) [a] [] pos) (D9 ta):=by
 intro pins s σ H R I h
 refine Call_ (eu I hg hm boot_range (PyProof.Rows.callWith_type1 (thn (ha pos pins s σ H _ I h) fun us s1 ⟨vs,H1,I1,r1,q1⟩=>?_) hs rfl))
 obtain ⟨j,e,q1,q2,q⟩:=q1
 subst e
 cases r1 with
 | cons r rr =>
   cases rr
   obtain ⟨t,rfl⟩:=r
   exact call_range_1 (tS I1 (by omega) (by omega) q1 q2 (by simpa using q))
theorem Au {a b:Expr} {ta:TA} {p pos:Pos} (hg:Gl X "range") (hm:X.mg "range"=none) (ha:PA X [a,b] ta) (hs:starEach [a,b] X.env=[(false,eval a X.env),(false,eval b X.env)]:=by rfl) (hs2:starEach [b] X.env=[(false,eval b X.env)]:=by rfl) :
 PI X tg (.Call (.Name "range" p) [a,b] [] pos) (D8 ta):=by
 intro pins s σ H R I h
 refine Call_ (eu I hg hm boot_range (PyProof.Rows.callWith_type1 (thn (ha pos pins s σ H _ I h) fun us s1 ⟨vs,H1,I1,r1,q1⟩=>?_) (by rw [hs,hs2]) (by rw [hs2];rfl)))
 obtain ⟨i,j,e,⟨q1,q2,q3,q4⟩,q⟩:=q1
 subst e
 cases r1 with
 | cons r rr =>
   cases rr with
   | cons r' rr =>
     cases rr
     obtain ⟨t,rfl⟩:=r
     obtain ⟨t',rfl⟩:=r'
     exact call_range_2 (tS I1 q1 q2 q3 q4 q)
def yc (wi:TI) (g:TG) (tb:TS):TS:=fun D σ H=>wi σ H fun J H1=>∃ W:Nat->Nat->St->Hp->Prop,(∃ m,W 0 m σ H1)/\∀ i m σ H,W i m σ H ->
 (J.stop i H/\D.nx σ H)\/(J.go i H/\∃ N:St->Hp->Prop,(∀ σ' H',N σ' H'->∃ m',m'<m/\W (i+1) m' σ' H')/\∀ x H',J.yld i H x H'->g x σ H' fun σ2 H2=>tb { D with nx:=N,ct:=N,bk:=D.nx } σ2 H2)
def kC (fp:List Addr) (h:Heap):List (Addr×Obj):=fp.filterMap fun b=>(h.get? b).map fun o=>(b,o)
theorem kP {fp:List Addr} {h:Heap} {b:Addr} {o:Obj} (hb:b∈fp) (e:h.get? b=some o):(b,o)∈kC fp h:=List.mem_filterMap.mpr ⟨b,hb,by rw [e];rfl⟩
theorem BU {fp:List Addr} {h:Heap} {p:Addr×Obj} (hp:p∈kC fp h):p.1∈fp/\h.get? p.1=some p.2:=by
 obtain ⟨b,hb,e⟩:=List.mem_filterMap.mp hp
 cases q:h.get? b with
 | none=>rw [q] at e;cases e
 | some o =>
   rw [q] at e
   have e':(b,o)=p:=Option.some.inj e
   subst e'
   exact ⟨hb,q⟩
theorem Inv.pinned {pins:List (Addr×Obj)} {σ:St} {H:Hp} {s:Shared} {fp:List Addr} (I:Inv X pins σ H s) (hf:∀ b∈fp,d5 X pins H b) (ho:∀ b∈fp,∃ o,s.heap.get? b=some o/\∀ v,o.data≠.cell v):Inv X (pins++kC fp s.heap) σ H s :=
 I.pins_of fun p hp=>(List.mem_append.mp hp).elim (fun z=>I.pin p (List.mem_append_right _ z)) fun z=>by
  obtain ⟨hb,e⟩:=BU z
  obtain ⟨f0,f1,f2,_⟩:=hf p.1 hb
  obtain ⟨o,e',d⟩:=ho p.1 hb
  rw [e] at e';cases e'
  exact ⟨e,f0,f1,f2,d⟩
theorem Inv.unpinned {pins pl:List (Addr×Obj)} {σ:St} {H:Hp} {s:Shared} (I:Inv X (pins++pl) σ H s):Inv X pins σ H s:=I.pins_of fun p hp=>I.pin p (List.mem_append_right _ (List.mem_append_left _ hp))
theorem cv {iter:Expr} {body:List Stmt} {wi:TI} {g:TG} {tb:TS} {pos:Pos} (hp:PassesOwn (model X.prog X.w) X.A X.env X.xe) (hc:X.calm=true) (hi:PI X tg iter wi) (hg:PG X tg g) (hb:PSs X body tb)
 (hs:∀ x,foldedSetIterable iter X.env x=pure x:=by intro _;rfl):PS X (.For tg iter body [] pos) (yc wi g tb):=by
 intro pins s σ H D I h
 refine wpAny_For (thn (hi pins s σ H _ I h) fun v s1 h1=>thn h1 fun itv s2 h2=>?_) hs
 obtain ⟨it,fp,tn,J,H2,e,I2,T,st2,f2,W,⟨m0,w0⟩,turn⟩:=h2
 subst e
 have stat:∀ {H':Hp},(∀ b∈fp,H' b=none)->∀ b∈fp,d5 X pins H' b:=fun hn b hb=>⟨hn b hb,(f2 b hb).2⟩
 refine codeAny_forLoop_any (fun n s'=>∃ i σ' H',Inv X pins σ' H' s'/\tn i s'.heap/\(∀ b∈fp,H' b=none)/\W i n σ' H') ?_ m0 ⟨0,σ,H2,I2,st2,fun b hb=>(f2 b hb).1,w0⟩
 rintro n s3 ⟨i,σ3,H3,I3,st3,fr3,w3⟩
 rcases turn i n σ3 H3 w3 with ⟨stop,qn⟩ | ⟨go,N,hN,step⟩
 ·refine wpAny_passesOwn hp (thn (T.done X rfl rfl rfl hc i pins s3 σ3 H3 X.xe I3 (stat fr3) st3 stop) fun r s4 ⟨hr,I4⟩=>?_)
  subst hr
  exact wpAny_execs_nil ⟨σ3,H3,I4,qn⟩
 ·refine wpAny_passesOwn hp (thn (T.item X rfl rfl rfl hc i pins s3 σ3 H3 X.xe I3 (stat fr3) st3 go) fun r s4 ⟨u,hr,h4⟩=>?_)
  subst hr
  refine wpAny_passesOwn hp (thn h4 fun _ s5 ⟨x,H5,I5,r5,y5,st5,fr5⟩=>?_)
  have I5':=I5.pinned (stat fr5) (T.obj _ _ st5)
  refine wpAny_passesOwn hp (thn (hg _ s5 σ3 H5 x u _ I5' r5 (step x H5 y5)) fun _ s6 ⟨σ6,H6,I6,q6⟩=>?_)
  refine wpAny_passesOwn hp (thn (hb _ s6 σ6 H6 _ I6 q6) fun f s7 q7=>?_)
  have again:∀ {σ7:St} {H7:Hp},Inv X (pins++kC fp s5.heap) σ7 H7 s7->N σ7 H7->∃ m,m<n/\∃ i σ' H',Inv X pins σ' H' s7/\tn i s7.heap/\(∀ b∈fp,H' b=none)/\W i m σ' H':=fun {σ7 H7} I7 n7=>by
   obtain ⟨m',hm,w7⟩:=hN σ7 H7 n7
   refine ⟨m',hm,i+1,σ7,H7,I7.unpinned,T.keep _ _ _ st5 fun b hb o e=>(I7.pin (b,o) (List.mem_append_right _ (List.mem_append_right _ (kP hb e)))).1,fun b hb=>?_,w7⟩
   obtain ⟨o,e,d⟩:=T.obj _ _ st5 b hb
   exact (I7.pin (b,o) (List.mem_append_right _ (List.mem_append_right _ (kP hb e)))).2.1
  cases f with
  | next=>obtain ⟨σ7,H7,I7,n7⟩:=q7;exact again I7 n7
  | cont=>obtain ⟨σ7,H7,I7,n7⟩:=q7;exact again I7 n7
  | brk=>obtain ⟨σ7,H7,I7,q7⟩:=q7;exact ⟨σ7,H7,I7.unpinned,q7⟩
  | ret v=>obtain ⟨x7,σ7,H7,I7,r7,q7⟩:=q7;exact ⟨x7,σ7,H7,I7.unpinned,r7,q7⟩
end
theorem pG {K:PySem.W.Frag} {a:Addr} {xs:List V} {g:TG} {tb:TS} {D:c7} {σ:St} {H:Hp} (Pv:Nat->St->Hp->Prop) (h0:Pv 0 σ H) (hl:∀ i σ H,i<=xs.length->Pv i σ H->SqL K H a xs)
 (hs:∀ i x σ H,xs[i]?=some x->Pv i σ H->g x σ H fun σ2 H2=>tb { D with nx:=Pv (i+1),ct:=Pv (i+1),bk:=D.nx } σ2 H2) (hd:∀ σ H,Pv xs.length σ H->D.nx σ H) :
 ∃ W:Nat->Nat->St->Hp->Prop,(∃ m,W 0 m σ H)/\∀ i m σ H,W i m σ H ->
   ((Itl K a).stop i H/\D.nx σ H)\/((Itl K a).go i H/\∃ N:St->Hp->Prop,(∀ σ' H',N σ' H'->∃ m',m'<m/\W (i+1) m' σ' H')/\∀ x H',(Itl K a).yld i H x H'->g x σ H' fun σ2 H2=>tb { D with nx:=N,ct:=N,bk:=D.nx } σ2 H2):=by
 refine ⟨fun i m σ H=>m=xs.length-i/\i<=xs.length/\Pv i σ H,⟨xs.length,by simp,Nat.zero_le _,h0⟩,?_⟩
 rintro i m σ H ⟨rfl,hi,p⟩
 have q:=hl i σ H hi p
 by_cases hlt:i<xs.length
 ·refine .inr ⟨⟨xs,xs[i],q,by simp [hlt]⟩,Pv (i+1),fun σ' H' p'=>⟨xs.length-(i+1),by omega,rfl,hlt,p'⟩,fun x H' y=>?_⟩
  obtain ⟨e,y⟩:=y
  subst e
  exact hs i x σ _ (y xs q) p
 ·have e:i=xs.length:=by omega
  subst e
  exact .inl ⟨⟨xs,q,Nat.le_refl _⟩,hd σ H p⟩
theorem im {lo:Int} {n:Nat} {g:TG} {tb:TS} {D:c7} {σ:St} {H:Hp} (Pv:Nat->St->Hp->Prop) (h0:Pv 0 σ H)
 (hs:∀ i σ H,i<n->Pv i σ H->g (.int (lo+i)) σ H fun σ2 H2=>tb { D with nx:=Pv (i+1),ct:=Pv (i+1),bk:=D.nx } σ2 H2) (hd:∀ σ H,Pv n σ H->D.nx σ H) :
 ∃ W:Nat->Nat->St->Hp->Prop,(∃ m,W 0 m σ H)/\∀ i m σ H,W i m σ H ->
   ((Itr lo n).stop i H/\D.nx σ H)\/((Itr lo n).go i H/\∃ N:St->Hp->Prop,(∀ σ' H',N σ' H'->∃ m',m'<m/\W (i+1) m' σ' H')/\∀ x H',(Itr lo n).yld i H x H'->g x σ H' fun σ2 H2=>tb { D with nx:=N,ct:=N,bk:=D.nx } σ2 H2):=by
 refine ⟨fun i m σ H=>m=n-i/\i<=n/\Pv i σ H,⟨n,by simp,Nat.zero_le _,h0⟩,?_⟩
 rintro i m σ H ⟨rfl,hi,p⟩
 by_cases hlt:i<n
 ·refine .inr ⟨hlt,Pv (i+1),fun σ' H' p'=>⟨n-(i+1),by omega,rfl,hlt,p'⟩,fun x H' y=>?_⟩
  obtain ⟨e,y⟩:=y
  subst e y
  exact hs i σ _ hlt p
 ·have e:i=n:=by omega
  subst e
  exact .inl ⟨Nat.le_refl _,hd σ H p⟩
end L2
namespace L2
open PySem PySem.Spec PyProof.Rows
abbrev R2:=V->V->Hp->VK->Prop
def OpR (X:Cx) (f:Value->Value->Sem Value) (r:R2):Prop :=
 ∀ (pins:List (Addr×Obj)) (s:Shared) (σ:St) (H:Hp) (x y:V) (v u:Value) (Q:VK),Inv X pins σ H s->RelV x v->RelV y u->r x y H Q ->
   wpAny (model X.prog X.w) X.A (f v u) (EP X pins σ Q) X.xe s
def UnR (X:Cx) (f:Value->Sem Value) (r:V->Hp->VK->Prop):Prop :=
 ∀ (pins:List (Addr×Obj)) (s:Shared) (σ:St) (H:Hp) (x:V) (v:Value) (Q:VK),Inv X pins σ H s->RelV x v->r x H Q ->
   wpAny (model X.prog X.w) X.A (f v) (EP X pins σ Q) X.xe s
def CallR (X:Cx) (f:Value) (r:List V->Hp->VK->Prop):Prop :=
 ∀ (pins:List (Addr×Obj)) (s:Shared) (σ:St) (H:Hp) (xs:List V) (us:List Value) (Q:VK),Inv X pins σ H s->Vals xs us->r xs H Q ->
   wpAny (model X.prog X.w) X.A (call f us) (EP X pins σ Q) X.xe s
def Hk (X:Cx) (r:V->Hp->(Bool->Hp->Prop)->Prop):Prop :=
 ∀ (pins:List (Addr×Obj)) (s:Shared) (σ:St) (H:Hp) (x:V) (v:Value) (Q:Bool->Hp->Prop),Inv X pins σ H s->RelV x v->r x H Q ->
   wpAny (model X.prog X.w) X.A (truthy v) (TP X pins σ Q) X.xe s
def tOp (r:R2) (ta tb:TE):TE:=fun σ H Q=>ta σ H fun x H1=>tb σ H1 fun y H2=>r x y H2 Q
def tUn (r:V->Hp->VK->Prop) (ta:TE):TE:=fun σ H Q=>ta σ H fun x H1=>r x H1 Q
def rI (C:Int->Int->Prop) (g:Int->Int->V):R2:=fun x y H Q=>∃ i j,x=.int i/\y=.int j/\C i j/\Q (g i j) H
def rI0 (g:Int->Int->V):R2:=fun x y H Q=>∃ i j,x=.int i/\y=.int j/\Q (g i j) H
def rU (g:Int->V):V->Hp->VK->Prop:=fun x H Q=>∃ i,x=.int i/\Q (g i) H
section
variable {X:Cx} {a b c:Expr} {ta tb tc:TE} {pos:Pos}
theorem qs (ha:PE X a ta) (hb:PE X b tb) {pins:List (Addr×Obj)} {s:Shared} {σ:St} {H:Hp} {R:V->V->Hp->Prop} (I:Inv X pins σ H s)
 (h:ta σ H fun x H1=>tb σ H1 fun y H2=>R x y H2) {Q:Value->Shared->Prop} {f:Value->Value->Sem Value}
 (hf:∀ v u s2 x y H2,Inv X pins σ H2 s2->RelV x v->RelV y u->R x y H2->wpAny (model X.prog X.w) X.A (f v u) Q X.xe s2) :
 wpAny (model X.prog X.w) X.A (eval a X.env) (fun v s₁=>wpAny (model X.prog X.w) X.A (eval b X.env) (fun u s₂=>wpAny (model X.prog X.w) X.A (f v u) Q X.xe s₂) X.xe s₁) X.xe s:=by
 refine thn (ha pins s σ H _ I h) fun v s1 ⟨x,H1,I1,r1,q1⟩=>?_
 refine thn (hb pins s1 σ H1 _ I1 q1) fun u s2 ⟨y,H2,I2,r2,q2⟩=>?_
 exact hf v u s2 x y H2 I2 r1 r2 q2
theorem ag {op:Operator} {r:R2} (ho:OpR X (binaryOp op) r) (ha:PE X a ta) (hb:PE X b tb):PE X (.BinOp a op b pos) (tOp r ta tb):=by
 intro pins s σ H Q I h
 exact wpAny_BinOp (qs ha hb I h fun v u s2 x y H2 I2 rx ry q=>ho pins s2 σ H2 x y v u Q I2 rx ry q)
theorem bJ {op:UnaryOp} {r:V->Hp->VK->Prop} (ho:UnR X (unaryOp op) r) (ha:PE X a ta):PE X (.UnaryOp op a pos) (tUn r ta):=by
 intro pins s σ H Q I h
 exact UnaryOp_ (thn (ha pins s σ H _ I h) fun v s1 ⟨x,H1,I1,r1,q1⟩=>ho pins s1 σ H1 x v Q I1 r1 q1)
theorem opI {f:Value->Value->Sem Value} {C:Int->Int->Prop} {g:Int->Int->Int}
 (rule:∀ (i j:Int) (t u:Tok) (s:Shared) (Q:Value->Shared->Prop) (E:Value->Shared->Prop),C i j->Q (.int (g i j) s.toks) { s with toks:=s.toks+1 }->wpAny (model X.prog X.w) X.A (f (.int i t) (.int j u)) Q E s) :
 OpR X f (rI C fun i j=>.int (g i j)):=by
 intro pins s σ H x y v u Q I rx ry h
 obtain ⟨i,j,rfl,rfl,hc,q⟩:=h
 obtain ⟨t,rfl⟩:=rx
 obtain ⟨t',rfl⟩:=ry
 exact rule i j t t' s _ _ hc ⟨.int (g i j),H,I.tok _,⟨_,rfl⟩,q⟩
theorem uz {f:Value->Value->Sem Value} {g:Int->Int->Int}
 (rule:∀ (i j:Int) (t u:Tok) (s:Shared) (Q:Value->Shared->Prop) (E:Value->Shared->Prop),Q (.int (g i j) s.toks) { s with toks:=s.toks+1 }->wpAny (model X.prog X.w) X.A (f (.int i t) (.int j u)) Q E s) :
 OpR X f (rI0 fun i j=>.int (g i j)):=by
 intro pins s σ H x y v u Q I rx ry h
 obtain ⟨i,j,rfl,rfl,q⟩:=h
 obtain ⟨t,rfl⟩:=rx
 obtain ⟨t',rfl⟩:=ry
 exact rule i j t t' s _ _ ⟨.int (g i j),H,I.tok _,⟨_,rfl⟩,q⟩
theorem ii {f:Value->Value->Sem Value} {g:Int->Int->Bool}
 (rule:∀ (i j:Int) (t u:Tok) (s:Shared) (Q:Value->Shared->Prop) (E:Value->Shared->Prop),Q (.bool (g i j)) s->wpAny (model X.prog X.w) X.A (f (.int i t) (.int j u)) Q E s) :
 OpR X f (rI0 fun i j=>.bl (g i j)):=by
 intro pins s σ H x y v u Q I rx ry h
 obtain ⟨i,j,rfl,rfl,q⟩:=h
 obtain ⟨t,rfl⟩:=rx
 obtain ⟨t',rfl⟩:=ry
 exact rule i j t t' s _ _ ⟨.bl (g i j),H,I,rfl,q⟩
def IV (i j:Int):Prop:=0<=j/\j<=1000000/\i.natAbs<2^64
def CMul (i j:Int):Prop:=(-(2^64)<i/\i<2^64)\/(-(2^64)<j/\j<2^64)
theorem CMul.ok {i j:Int} (h:CMul i j):IntMulOk i j:=by
 rcases h with ⟨h1,h2⟩ | ⟨h1,h2⟩
 ·exact .of_left (intBits_le_64 h1 h2)
 ·exact .of_right (intBits_le_64 h1 h2)
theorem bh:OpR X (binaryOp .Add) (rI0 fun i j=>.int (i+j)):=uz fun _ _ _ _ _ _ _ q=>add_int q
theorem bK:OpR X (binaryOp .Sub) (rI0 fun i j=>.int (i-j)):=uz fun _ _ _ _ _ _ _ q=>sub_int q
theorem AI:OpR X (binaryOp .Mod) (rI (fun _ j=>0<j) fun i j=>.int (i%j)):=opI fun i j _ _ _ _ _ hc q=>by
 have h1:(0:Int)<j:=hc
 exact mod_int' (by omega) (by rw [Int.fmod_eq_emod_of_nonneg i (by omega)];exact q)
theorem ie:OpR X (binaryOp .Pow) (rI IV fun i j=>.int (i^j.toNat)):=opI fun _ _ _ _ _ _ _ hc q=>pow_int_small hc.1 hc.2.1 hc.2.2 q
theorem unI {f:Value->Sem Value} {g:Int->Int}
 (rule:∀ (i:Int) (t:Tok) (s:Shared) (Q:Value->Shared->Prop) (E:Value->Shared->Prop),Q (.int (g i) s.toks) { s with toks:=s.toks+1 }->wpAny (model X.prog X.w) X.A (f (.int i t)) Q E s) :
 UnR X f (rU fun i=>.int (g i)):=by
 intro pins s σ H x v Q I rx h
 obtain ⟨i,rfl,q⟩:=h
 obtain ⟨t,rfl⟩:=rx
 exact rule i t s _ _ ⟨.int (g i),H,I.tok _,⟨_,rfl⟩,q⟩
theorem bI:UnR X (unaryOp .USub) (rU fun i=>.int (-i)):=unI fun _ _ _ _ _ q=>neg_int q
end
section
variable {X:Cx} {a b c:Expr} {ta tb tc:TE} {pos:Pos}
theorem EA {pins:List (Addr×Obj)} {σ:St} {H:Hp} {s:Shared} {Q:VK} {k k':Bool} (I:Inv X pins σ H s) (q:Q (.bl k) H) (e:k=k'):EP X pins σ Q (.bool k') s:=by
 subst e
 exact ⟨.bl k,H,I,rfl,q⟩
theorem da:OpR X (compareOp .Lt) (rI0 fun i j=>.bl (decide (i<j))):=ii fun _ _ _ _ _ _ _ q=>lt_int q
theorem uu:OpR X (compareOp .LtE) (rI0 fun i j=>.bl (decide (i<=j))):=ii fun _ _ _ _ _ _ _ q=>le_int q
theorem dk:OpR X (compareOp .Gt) (rI0 fun i j=>.bl (decide (j<i))):=ii fun _ _ _ _ _ _ _ q=>gt_int q
theorem kF:OpR X (compareOp .GtE) (rI0 fun i j=>.bl (decide (j<=i))):=ii fun _ _ _ _ _ _ _ q=>ge_int q
theorem uv:OpR X (compareOp .Is) (fun x y H Q=>y=.non/\Q (.bl (decide (x=.non))) H):=by
 intro pins s σ H x y v u Q I rx ry h
 obtain ⟨rfl,q⟩:=h
 cases ry
 refine is_none_gen (EA I q ?_)
 cases x<;>first
  | (cases rx;rfl)
  | (obtain ⟨t,rfl⟩:=rx;rfl)
theorem OpR.or {f:Value->Value->Sem Value} {r r':R2} (h:OpR X f r) (h':OpR X f r'):OpR X f (fun x y H Q=>r x y H Q\/r' x y H Q):=by
 intro pins s σ H x y v u Q I rx ry q
 rcases q with q | q
 ·exact h pins s σ H x y v u Q I rx ry q
 ·exact h' pins s σ H x y v u Q I rx ry q
theorem aA (b:Expr) {op:CmpOp} (h:op≠.In:=by decide) (h2:op≠.NotIn:=by decide):behindInMarks op b=false:=by
 have e1:(op == CmpOp.In)=false:=by cases op<;>first | rfl | exact absurd rfl h
 have e2:(op == CmpOp.NotIn)=false:=by cases op<;>first | rfl | exact absurd rfl h2
 cases b<;>simp [behindInMarks,e1,e2]
theorem eo {op:CmpOp} {r:R2} (ho:OpR X (compareOp op) r) (ha:PE X a ta) (hb:PE X b tb) (hm:behindInMarks op b=false):PE X (.Compare a [op] [b] pos) (tOp r ta tb):=by
 intro pins s σ H Q I h
 exact wpAny_Compare1 (qs ha hb I h fun v u s2 x y H2 I2 rx ry q=>ho pins s2 σ H2 x y v u Q I2 rx ry q) hm
def x3 (t:TE):TT:=fun σ H Q=>t σ H fun x H'=>∃ k,x=.bl k/\Q k H'
theorem aE {op:CmpOp} {r:R2} (ho:OpR X (compareOp op) r) (ha:PE X a ta) (hb:PE X b tb) (hm:behindInMarks op b=false):PT X (.Compare a [op] [b] pos) (x3 (tOp r ta tb)):=by
 intro pins s σ H Q I h
 refine wpAny_isTrue_Compare1 (thn (ha pins s σ H _ I h) fun v s1 ⟨x,H1,I1,r1,q1⟩=>thn (hb pins s1 σ H1 _ I1 q1) fun u s2 ⟨y,H2,I2,r2,q2⟩ =>
  thn (ho pins s2 σ H2 x y v u _ I2 r1 r2 q2) fun c s3 ⟨z,H3,I3,r3,k,e,q3⟩=>?_) hm
 subst e
 cases r3
 exact wpAny_truthy_bool ⟨H3,I3,q3⟩
def xg (K:PySem.W.Frag) (x:V) (H:Hp) (k:Bool):Prop :=
 match x with
 | .non=>k=false
 | .bl b=>k=b
 | .int i=>k=(i != 0)
 | .str y=>y.length<=sizeLine/\k=((y.length:Int) != 0)
 | .byt y=>y.size<=sizeLine/\k=((y.size:Int) != 0)
 | .ref p=>(∃ xs,SqL K H p xs/\k=!xs.isEmpty)\/(∃ xs,SqT K H p xs/\k=!xs.isEmpty)\/∃ kvs,H p=some (.dK kvs)/\k=!kvs.isEmpty
 | _=>False
theorem DZ {κ:Type} {kvs:List (κ×V)} {vs:List (κ×Value)} (r:KV kvs vs):(!vs.isEmpty)=!kvs.isEmpty:=by
 cases r<;>rfl
theorem vI {xs:List V} {its:List Value} (r:Vals xs its):(!its.toArray.isEmpty)=!xs.isEmpty:=by
 cases r<;>simp
theorem jg:(sizeLine:Nat)<2^63:=by rw [sizeLine_eq];decide
theorem xG:Hk X (fun x H Q=>∃ k,xg X.K x H k/\Q k H):=by
 intro pins s σ H x v Q I rx h
 obtain ⟨k,e,q⟩:=h
 have hl:=jg
 have hs:sizeLine=16777216:=sizeLine_eq
 cases x with
 | non =>
   cases rx
   have e':k=false:=e
   subst e'
   exact truthy_none ⟨H,I,q⟩
 | bl b =>
   cases rx
   have e':k=b:=e
   subst e'
   exact wpAny_truthy_bool ⟨H,I,q⟩
 | int i =>
   obtain ⟨t,rfl⟩:=rx
   have e':k=(i != 0):=e
   subst e'
   exact PySem.P.truthy_int ⟨H,I,q⟩
 | str y =>
   obtain ⟨t,rfl⟩:=rx
   obtain ⟨hy,e'⟩:y.length<=sizeLine/\k=((y.length:Int) != 0):=e
   subst e'
   exact PySem.P.truthy_str (by omega) ⟨H,I.tok _,q⟩
 | byt y =>
   obtain ⟨t,rfl⟩:=rx
   obtain ⟨hy,e'⟩:y.size<=sizeLine/\k=((y.size:Int) != 0):=e
   subst e'
   exact PySem.W.truthy_bytes (by omega) ⟨H,I.tok _,q⟩
 | ref p =>
   cases rx
   have e':(∃ xs,SqL X.K H p xs/\k=!xs.isEmpty)\/(∃ xs,SqT X.K H p xs/\k=!xs.isEmpty)\/∃ kvs,H p=some (.dK kvs)/\k=!kvs.isEmpty:=e
   rcases e' with ⟨xs,hx,e'⟩ | ⟨xs,hx,e'⟩ | ⟨kvs,hx,e'⟩
   ·subst e'
    obtain ⟨its,r,pl,hz⟩:=I.list hx
    have hlen:=r.length
    exact wpAny_truthy_list pl.isList (by simp only [List.size_toArray];omega) ⟨H,I.tok _,by rw [vI r];exact q⟩
   ·subst e'
    obtain ⟨its,r,pl,hz⟩:=I.tuple hx
    have hlen:=r.length
    exact truthy_tuple pl (by simp only [List.size_toArray];omega) ⟨H,I.tok _,by rw [vI r];exact q⟩
   ·subst e'
    obtain ⟨hz,hS,vs,r,m⟩:kvs.length<=sizeLine/\(p == sysModules)=false/\∃ vs,KV kvs vs/\s.heap.DictOf (oX X.prog X.w) p vs:=I.hok p _ hx
    have hlen:kvs.length=vs.length:=Paired.length r
    exact wpAny_truthy_dict hS m (by omega) ⟨H,I.tok _,by rw [DZ r];exact q⟩
 | _=>exact (show False from e).elim
theorem Ab (ha:PE X a ta) (he:∀ whole,isTrue a X.env whole=(do let v <- whole;standAt a.pos;holding [v] (truthy v))) :
 PT X a (fun σ H Q=>ta σ H fun x H'=>∃ k,xg X.K x H' k/\Q k H'):=by
 intro pins s σ H Q I h
 exact isTrue_plain (thn (ha pins s σ H _ I h) fun v s1 ⟨x,H1,I1,r1,q1⟩=>xG pins s1 σ H1 x v Q I1 r1 q1) (he _)
theorem eQ {x:V} {us:List Value} (r:Vals [x] us):∃ u,us=[u]/\RelV x u:=by
 cases r with
 | cons r1 r2=>cases r2;exact ⟨_,rfl,r1⟩
theorem xy {x y:V} {us:List Value} (r:Vals [x,y] us):∃ u w',us=[u,w']/\RelV x u/\RelV y w':=by
 cases r with
 | cons r1 r2 =>
   cases r2 with
   | cons r3 r4=>cases r4;exact ⟨_,_,rfl,r1,r3⟩
theorem gE:CallR X (.builtin "abs") (fun xs H Q=>∃ i,xs=[.int i]/\Q (.int (if i<0 then -i else i)) H):=by
 intro pins s σ H xs us Q I r h
 obtain ⟨i,rfl,q⟩:=h
 obtain ⟨u,rfl,t,rfl⟩:=eQ r
 exact call_abs_int fun u tk=>⟨.int (if i<0 then -i else i),H,I.tok _,⟨_,rfl⟩,q⟩
theorem wN (hc:X.calm=true):CallR X (.builtin "max") (fun xs H Q=>∃ i j,xs=[.int i,.int j]/\Q (.int (if j>i then j else i)) H):=by
 intro pins s σ H xs us Q I r h
 obtain ⟨i,j,rfl,q⟩:=h
 obtain ⟨u,w',rfl,⟨t,rfl⟩,⟨t',rfl⟩⟩:=xy r
 refine max_two_ints (I.ok.hd hc) fun h' tk k=>⟨_,H,I.kept k,?_,q⟩
 by_cases hj:j>i
 ·rw [if_pos hj,if_pos hj];exact ⟨_,rfl⟩
 ·rw [if_neg hj,if_neg hj];exact ⟨_,rfl⟩
theorem lD:CallR X (.type "int") (fun xs H Q=>(∃ i,xs=[.int i]/\Q (.int i) H)\/∃ k,xs=[.bl k]/\Q (.int (if k then 1 else 0)) H):=by
 intro pins s σ H xs us Q I r h
 rcases h with ⟨i,rfl,q⟩ | ⟨k,rfl,q⟩
 ·obtain ⟨u,rfl,t,rfl⟩:=eQ r
  exact call_int_int ⟨.int i,H,I,⟨_,rfl⟩,q⟩
 ·obtain ⟨u,rfl,r1⟩:=eQ r
  cases r1
  exact call_int_bool ⟨.int (if k then 1 else 0),H,I.tok _,⟨_,rfl⟩,q⟩
end
end L2
namespace L2
open PySem PySem.Spec PyProof.Rows
structure ObjM (h:Heap) (x dx C:Addr) (mA:Str->Option Value):Prop where
 obj:h.get? x=some (PySem.W.instObj C dx)
 ns:h.Ns1 dx mA
 ne:dx≠x
theorem Dg {h:Heap} {dx:Addr} {mA:Str->Option Value} (n:h.Ns1 dx mA):∃ od,h.get? dx=some od/\∀ name,PySem.W.lookIn name od=some (mA name):=by
 obtain ⟨o,es,ep,ho,hd,hk,_,hm⟩:=n
 refine ⟨o,ho,fun name=>?_⟩
 have e:=hm name
 unfold nsFind findBy at e
 rw [<- Array.find?_toList] at e
 unfold PySem.W.lookIn
 rw [hd]
 dsimp only
 split
 ·rename_i y q
  rw [q] at e
  exact congrArg some e
 ·rename_i q
  rw [q] at e
  have a:es.toList.any (·.refKey)=false:=by
   rw [List.any_eq_false]
   intro y hy
   obtain ⟨z,t,hkey⟩:=hk y (Array.mem_toList_iff.mp hy)
   simp [DictEntry.refKey,hkey]
  have a':¬ es.toList.any (·.refKey)=true:=by rw [a];exact Bool.false_ne_true
  rw [if_neg a']
  exact congrArg some e
theorem ObjM.look {h:Heap} {x dx C:Addr} {mA:Str->Option Value} (I:ObjM h x dx C mA):∃ od,PySem.W.InstAt h x (PySem.W.instObj C dx) C (some od)/\∀ name,PySem.W.lookIn name od=some (mA name) :=
 let ⟨od,ho,hl⟩:=Dg I.ns
 ⟨od,⟨I.obj,rfl,rfl,ho⟩,hl⟩
section
variable {prog:Program} {w:World} {A:Around} {E:Value->Shared->Prop} {s:Shared} {K:PySem.W.Frag} {x dx C f:Addr} {mA:Str->Option Value} {name:Str} {v:Value}
theorem Eo {expr:Bool} {Q:Value->Shared->Prop} (X:K.In s.heap) (I:ObjM s.heap x dx C mA) (hg:PySem.W.plainGet K C name=true) (hh:PySem.W.hasDictIn K C=true)
 (ha:PySem.W.findIn K (.ref C) name=some none) (hv:mA name=some v) (hv':PySem.W.handedIn v=true) (h:Q v { s with toks:=s.toks+1 }) :
 wpAny (model prog w) A (getAttr (.ref x) name expr) Q E s:=by
 obtain ⟨od,J,hl⟩:=I.look
 exact PySem.W.get_value X J (PySem.W.plainGet_of hg).1 (PySem.W.findObj_own hh ha rfl (by rw [hl,hv])) hv' h
theorem En {pl:Sem Bool} {Q:Value×List Value->Shared->Prop} (X:K.In s.heap) (I:ObjM s.heap x dx C mA) (hg:PySem.W.plainGet K C name=true)
 (hf:PySem.W.findIn K (.ref C) name=some (some (.ref f))) (ht:PySem.W.isFn K (.ref f)=true) (hv:mA name=none) (h:Q (.ref f,[.ref x]) s) :
 wpAny (model prog w) A (getMethod (.ref x) name pl) Q E s:=by
 obtain ⟨od,J,hl⟩:=I.look
 exact PySem.W.method_fn X J (PySem.W.plainGet_of hg).1 (PySem.W.plainGet_of hg).2 hf (beq_iff_eq.mp ht) (by show (PySem.W.lookIn name od).map (·.isSome)=some false;rw [hl,hv];rfl) h
theorem mD {ns:List Str} {Q:Unit->Shared->Prop} (X:K.In s.heap) (I:ObjM s.heap x dx C mA)
 (hs:PySem.W.findIn K (.ref C) "__setattr__"=some (some (.builtin "object.__setattr__"))) (hp:PySem.W.plainOver K C=true) (ht:PySem.W.takerIn K C name=some none) (hh:PySem.W.hasDictIn K C=true)
 (hw:PySem.Within mA ns) (hsz:ns.length<=sizeLine)
 (h:∀ h',ObjM h' x dx C (fun y=>if y=name then some v else mA y)->Heap.SameBut dx s.heap h'->Q () { s with heap:=h',toks:=s.toks+2 }) :
 wpAny (model prog w) A (setAttr (.ref x) name v) Q E s:=by
 obtain ⟨od,J,hl⟩:=I.look
 refine PySem.W.set_plain X J hs (PySem.W.osa_open (s:={ s with toks:=s.toks+1 }) (r:=none) X J hp ht fun b=>?_)
 obtain ⟨cd,hc,hd'⟩:=PySem.W.any_some hh
 have hx:s.heap.get? x=some ⟨.ref C,some dx,.plain,#[]⟩:=I.obj
 refine wpAny_bind (wpAny_pure (wpAny_bind (wpAny_bind (wpAny_loadPart hx (wpAny_bind (PySem.W.Looks.here (s:={ s with toks:=s.toks+1 }) (PySem.W.looks_clsIn X hc) ?_))))))
 rw [hd']
 refine wpAny_pure (a:=some dx) (wpAny_bind (wpAny_pure (wpAny_bind ?_)))
 refine wpAny_nsSet1 (s:={ s with toks:=s.toks+1 }) I.ns fun h' hn2 hs2=>?_
 obtain ⟨oD,esD,epD,hoD,hdD,hcD⟩:=hn2.count (PySem.Within.cons name v hw)
 refine wpAny_bind (wpAny_lookBehind hoD (by rw [hdD];exact pastItsLine_dict (Nat.le_trans hcD (by rw [List.length_cons];omega))) ?_)
 exact wpAny_pure (h _ ⟨(hs2.2 _ (Ne.symm I.ne)).trans I.obj,hn2,I.ne⟩ hs2)
theorem Cs {R:Result->Shared->Prop} {vs:List Value} {kw:List (Str×Value)} (X:K.In s.heap) (hm:PySem.W.makesIn K C=true)
 (hi:PySem.W.findIn K (.ref C) "__init__"=some (some (.ref f))) (hf:PySem.W.typeIn K (.ref f)=some (.type "function"))
 (h:codeAny (model prog w) (A.under (.builtin "type.__call__" ⟨.ref C::vs,kw⟩)) (.call (.ref f) ⟨.ref (s.heap.objs.size+1)::vs,kw⟩) (PySem.W.InitBack (s.heap.objs.size+1) R)
   { s with heap:=(s.heap.push PySem.W.emptyDict).push (PySem.W.instObj C s.heap.objs.size) }) :
 codeAny (model prog w) A (.call (.ref C) ⟨vs,kw⟩) R s:=by
 obtain ⟨hh,g,d,t,os⟩:=s
 exact PySem.W.make_core (PySem.W.makes_of X hm) (PySem.W.looks_findIn X hi) (fun self=>PySem.W.bind_fn X self hf) (.inl rfl) h
end
def cj (f:Str) (v:V):List (Str×V)->List (Str×V)
 | []=>[(f,v)]
 | (g,x)::r=>if g=f then (g,v)::r else (g,x)::cj f v r
theorem cZ (f g:Str) (v:V):∀ fs:List (Str×V),(cj f v fs).lookup g=if g=f then some v else fs.lookup g
 | []=>by
   show List.lookup g [(f,v)]=_
   by_cases h:g=f
   ·have hb:(g == f)=true:=beq_iff_eq.mpr h
    simp only [List.lookup,hb,if_pos h]
   ·have hb:(g == f)=false:=beq_eq_false_iff_ne.mpr h
    simp only [List.lookup,hb,if_neg h]
 | (k,x)::r=>by
   have ih:=cZ f g v r
   rw [show cj f v ((k,x)::r)=(if k=f then (k,v)::r else (k,x)::cj f v r) from rfl]
   by_cases hk:k=f
   ·rw [if_pos hk]
    by_cases h:g=k
    ·have hb:(g == k)=true:=beq_iff_eq.mpr h
     simp only [List.lookup,hb,if_pos (h.trans hk)]
    ·have hb:(g == k)=false:=beq_eq_false_iff_ne.mpr h
     simp only [List.lookup,hb,if_neg (fun e:g=f=>h (e.trans hk.symm))]
   ·rw [if_neg hk]
    by_cases h:g=k
    ·have hb:(g == k)=true:=beq_iff_eq.mpr h
     simp only [List.lookup,hb,if_neg (fun e:g=f=>hk (h.symm.trans e))]
    ·have hb:(g == k)=false:=beq_eq_false_iff_ne.mpr h
     simp only [List.lookup,hb]
     exact ih
theorem pd (f:Str) (v:V):∀ fs:List (Str×V),f∈(cj f v fs).map (·.1)/\∀ g,g∈fs.map (·.1)->g∈(cj f v fs).map (·.1)
 | []=>⟨by simp [cj],fun g h=>by simp at h⟩
 | (k,x)::r=>by
   obtain ⟨i1,i2⟩:=pd f v r
   rw [show cj f v ((k,x)::r)=(if k=f then (k,v)::r else (k,x)::cj f v r) from rfl]
   by_cases hk:k=f
   ·rw [if_pos hk]
    subst hk
    exact ⟨by simp,fun g h=>by simpa using h⟩
   ·rw [if_neg hk]
    refine ⟨?_,fun g h=>?_⟩
    ·rw [List.map_cons]
     exact List.mem_cons_of_mem _ i1
    ·rw [List.map_cons] at h ⊢
     rcases List.mem_cons.mp h with e | e
     ·exact List.mem_cons.mpr (.inl e)
     ·exact List.mem_cons_of_mem _ (i2 g e)
theorem vm (f:Str) (v:V):∀ fs:List (Str×V),(cj f v fs).length<=fs.length+1
 | []=>by simp [cj]
 | (k,x)::r=>by
   have ih:=vm f v r
   rw [show cj f v ((k,x)::r)=(if k=f then (k,v)::r else (k,x)::cj f v r) from rfl]
   by_cases hk:k=f
   ·rw [if_pos hk,List.length_cons,List.length_cons];omega
   ·rw [if_neg hk,List.length_cons,List.length_cons];omega
theorem RelO.some_of {v:V} {o:Option Value} (r:RelO (some v) o):∃ u,o=some u/\RelV v u:=by
 cases o with
 | none=>exact (show False from r).elim
 | some u=>exact ⟨u,rfl,r⟩
theorem RelO.none_of {o:Option Value} (r:RelO none o):o=none:=by
 cases o with
 | none=>rfl
 | some u=>exact (show False from r).elim
theorem Eh {v:V} {u:Value} (r:RelV v u):PySem.W.handedIn u=true:=by
 cases v with
 | non=>cases (show u=Value.none from r);rfl
 | bl b=>cases (show u=Value.bool b from r);rfl
 | int i=>obtain ⟨t,e⟩:=(show ∃ t,u=Value.int i t from r);cases e;rfl
 | str x=>obtain ⟨t,e⟩:=(show ∃ t,u=Value.str x t from r);cases e;rfl
 | byt b=>obtain ⟨t,e⟩:=(show ∃ t,u=Value.bytes b t from r);cases e;rfl
 | flt b=>obtain ⟨t,e⟩:=(show ∃ t,u=Value.float b t from r);cases e;rfl
 | ref a=>cases (show u=Value.ref a from r);rfl
 | ty n=>cases (show u=Value.type n from r);rfl
section
variable {P:Program} {w:World} {H H':Hp} {h h':Heap} {a C dx:Addr} {fs fs':List (Str×V)}
theorem k8 (hok:HOk P w H h) (e:H a=some (.ins C dx fs)):∃ mA,ObjM h a dx C mA/\(∀ f,RelO (fs.lookup f) (mA f))/\PySem.Within mA (fs.map (·.1))/\fs.length<=1000/\H dx=some (.own a):=by
 obtain ⟨d,z,ne,ob,mA,n,r,q⟩:=(show ObjOk P w H h a (.ins C dx fs) from hok a _ e)
 exact ⟨mA,⟨ob,n,ne⟩,r,q,z,d⟩
end
structure Cls (K:PySem.W.Frag) (C:Addr):Prop where
 pg:PySem.W.plainGet K C Str.empty=true
 hd:PySem.W.hasDictIn K C=true
 po:PySem.W.plainOver K C=true
 sa:PySem.W.findIn K (.ref C) "__setattr__"=some (some (.builtin "object.__setattr__"))
theorem Cls.get {K:PySem.W.Frag} {C:Addr} (c:Cls K C) (f:Str):PySem.W.plainGet K C f=true:=c.pg
def NoAttr (K:PySem.W.Frag) (C:Addr) (f:Str):Prop:=PySem.W.findIn K (.ref C) f=some none
theorem NoAttr.taker {K:PySem.W.Frag} {C:Addr} {f:Str} (n:NoAttr K C f):PySem.W.takerIn K C f=some none:=by
 unfold PySem.W.takerIn
 rw [show PySem.W.findIn K (.ref C) f=some none from n]
 rfl
structure Meth (K:PySem.W.Frag) (C:Addr) (m:Str) (f:Addr):Prop where
 at_:PySem.W.findIn K (.ref C) m=some (some (.ref f))
 fn:PySem.W.isFn K (.ref f)=true
 kp:PySem.W.keepIn K (.ref f)=true
section
variable {X:Cx} {pins:List (Addr×Obj)} {σ:St} {H:Hp} {s:Shared} {a C dx:Addr} {fs:List (Str×V)} {f:Str} {v:V} {A:Around} {E:Value->Shared->Prop}
theorem Em {b:Bool} {Q:Value->Shared->Prop} (I:Inv X pins σ H s) (e:H a=some (.ins C dx fs)) (c:Cls X.K C) (n:NoAttr X.K C f) (l:fs.lookup f=some v)
 (h:∀ u s',Inv X pins σ H s'->RelV v u->Q u s'):wpAny (model X.prog X.w) A (getAttr (.ref a) f b) Q E s:=by
 obtain ⟨mA,O,r,_,_,_⟩:=k8 I.hok e
 obtain ⟨u,hu,ru⟩:=RelO.some_of (v:=v) (o:=mA f) (by rw [<- l];exact r f)
 exact Eo I.kIn O (c.get f) c.hd n hu (Eh ru) (h u _ (I.tok _) ru)
theorem v3 {m:Str} {g:Addr} {pl:Sem Bool} {Q:Value×List Value->Shared->Prop} (I:Inv X pins σ H s) (e:H a=some (.ins C dx fs)) (c:Cls X.K C) (k:Meth X.K C m g) (l:fs.lookup m=none)
 (h:Q (.ref g,[.ref a]) s):wpAny (model X.prog X.w) A (getMethod (.ref a) m pl) Q E s:=by
 obtain ⟨mA,O,r,_,_,_⟩:=k8 I.hok e
 have hn:mA m=none:=RelO.none_of (by rw [<- l];exact r m)
 exact En I.kIn O (c.get m) k.at_ k.fn hn h
theorem yO {y:V} {u:Value} {Q:Unit->Shared->Prop} (I:Inv X pins σ H s) (e:H a=some (.ins C dx fs)) (c:Cls X.K C) (n:NoAttr X.K C f) (hl:fs.length<1000) (ry:RelV y u)
 (h:∀ s',Inv X pins σ (upd H a (.ins C dx (cj f y fs))) s'->Q () s'):wpAny (model X.prog X.w) A (setAttr (.ref a) f u) Q E s:=by
 obtain ⟨mA,O,r,wi,_,ho⟩:=k8 I.hok e
 have hz:(fs.map (·.1)).length<=sizeLine:=by rw [List.length_map,sizeLine_eq];omega
 refine mD I.kIn O c.sa c.po n.taker c.hd wi hz fun h' O' sb=>h _ ?_
 have hd:∃ o,h'.get? dx=some o:=let ⟨o,_,_,e',_⟩:=O'.ns;⟨o,e'⟩
 refine I.write (x:=a) (e:=dx) (by rw [e];exact True.intro) (.inr ho) (fun b q hb z=>(sb.2 b hb).trans z) hd ?_
 refine ⟨by rw [upd_ne O.ne];exact ho,?_,O.ne,O'.obj,_,O'.ns,fun g=>?_,fun g hg=>?_⟩
 ·have:=vm f y fs;omega
 ·show RelO ((cj f y fs).lookup g) (if g=f then some u else mA g)
  rw [cZ]
  by_cases q:g=f
  ·rw [if_pos q,if_pos q];exact ry
  ·rw [if_neg q,if_neg q];exact r g
 ·by_cases q:g=f
  ·rw [q];exact (pd f y fs).1
  ·refine (pd f y fs).2 g (wi g fun z=>hg ?_)
   show (if g=f then some u else mA g)=none
   rw [if_neg q];exact z
theorem Inv.made (I:Inv X pins σ H s):Inv X pins σ (upd (upd H s.heap.objs.size (.own (s.heap.objs.size+1))) (s.heap.objs.size+1) (.ins C s.heap.objs.size []))
 { s with heap:=(s.heap.push PySem.W.emptyDict).push (PySem.W.instObj C s.heap.objs.size) }:=by
 have e1:(s.heap.push PySem.W.emptyDict).get? s.heap.objs.size=some PySem.W.emptyDict:=Heap.get?_push_size s.heap rfl
 have e2:((s.heap.push PySem.W.emptyDict).push (PySem.W.instObj C s.heap.objs.size)).get? (s.heap.objs.size+1)=some (PySem.W.instObj C s.heap.objs.size):=by
  have:=Heap.get?_push_size (s.heap.push PySem.W.emptyDict) (o:=PySem.W.instObj C s.heap.objs.size) rfl
  rwa [Heap.size_push] at this
 have e3:(s.heap.push PySem.W.emptyDict).Ns s.heap.objs.size (fun _=>none):=⟨PySem.W.emptyDict,#[],_,e1,rfl,(fun e he=>absurd he (by simp)),fun _=>rfl⟩
 have I1:=I.laid (a:=s.heap.objs.size) (o:=.own (s.heap.objs.size+1)) (h':=s.heap.push PySem.W.emptyDict) (t':=s.toks) (fun b u q=>Heap.get?_push_of_some _ q) (Nat.le_refl _) ⟨_,e1⟩
 refine I1.laid (a:=s.heap.objs.size+1) (o:=.ins C s.heap.objs.size []) (t':=s.toks) (fun b u q=>Heap.get?_push_of_some _ q) (Nat.le_of_eq (Heap.size_push _ _)) ?_
 have ne:s.heap.objs.size≠s.heap.objs.size+1:=Nat.ne_of_lt (Nat.lt_succ_self _)
 refine ⟨by rw [upd_ne ne,ao],Nat.zero_le _,ne,e2,fun _=>none,(Heap.Ns1.of_empty e3).at fun o q=>Heap.get?_push_of_some _ q,fun _=>True.intro,fun y hy=>absurd rfl hy⟩
theorem Hb {prog:Program} {w:World} {env:Env} {e:Expr} {f:Str} {pos:Pos} {s:Shared} {Q:Value->Shared->Prop} (hb:attributeBase e f env (eval e env)=eval e env)
 (h:wpAny (model prog w) A (eval e env) (fun o s₁=>wpAny (model prog w) A (getAttr o f true) Q E s₁) E s):wpAny (model prog w) A (eval (.Attribute e f pos) env) Q E s :=
 Attribute_any_ h (by rw [arm_eval_Attribute,hb])
end
def rD (K:PySem.W.Frag) (ta:TE) (f:Str):TE:=fun σ H Q=>ta σ H fun x H1=>∃ a C dx fs v,x=.ref a/\H1 a=some (.ins C dx fs)/\Cls K C/\NoAttr K C f/\fs.lookup f=some v/\Q v H1
def zn (K:PySem.W.Frag) (ta tv:TE) (f:Str):TS:=fun D σ H=>tv σ H fun y H1=>ta σ H1 fun x H2=>∃ a C dx fs,x=.ref a/\H2 a=some (.ins C dx fs)/\Cls K C/\NoAttr K C f/\fs.length<1000 /\
 D.nx σ (upd H2 a (.ins C dx (cj f y fs)))
section
variable {X:Cx} {o e value:Expr} {f:Str} {pos pos' tpos:Pos} {ta tv:TE}
theorem AD (he:PE X e ta) (hb:attributeBase e f X.env (eval e X.env)=eval e X.env):PE X (.Attribute e f pos) (rD X.K ta f):=by
 intro pins s σ H Q I h
 refine Hb hb (thn (he pins s σ H _ I h) fun u s1 ⟨x,H1,I1,rx,a,C,dx,fs,v,ex,ea,c,n,l,q⟩=>?_)
 subst ex
 obtain rfl:u=Value.ref a:=rx
 exact Em I1 ea c n l fun u' s2 I2 ru=>⟨v,H1,I2,ru,q⟩
theorem iW (ha:PE X o ta) (hv:PE X value tv) (hs:swapsWith value (some (.Attribute o f pos')) pos.line X.env=pure false):PS X (.Assign [.Attribute o f pos'] value pos) (zn X.K ta tv f):=by
 intro pins s σ H D I h
 refine plainObj_wpAny_Assign_Attribute (thn (hv pins s σ H _ I h) fun u s1 ⟨y,H1,I1,ry,q⟩=>thn (ha pins s1 σ H1 _ I1 q) fun ov s2 ⟨x,H2,I2,rx,a,C,dx,fs,ex,ea,c,n,l,q2⟩=>?_) hs
 subst ex
 obtain rfl:ov=Value.ref a:=rx
 exact yO I2 ea c n l ry fun s3 I3=>⟨σ,_,I3,q2⟩
end
section
variable {X:Cx} {pins:List (Addr×Obj)} {σ:St} {H:Hp} {s:Shared} {A:Around} {E:Value->Shared->Prop} {Q:Value->Shared->Prop} {c:Value} {b:Bool}
inductive TyOf (K:PySem.W.Frag) (H:Hp):V->Value->Prop where
 | non:TyOf K H .non (.type "NoneType")
 | bl (x:Bool):TyOf K H (.bl x) (.type "bool")
 | int (i:Int):TyOf K H (.int i) (.type "int")
 | str (x:Str):TyOf K H (.str x) (.type "str")
 | flt (x:UInt64):TyOf K H (.flt x) (.type "float")
 | lst {a:Addr} {xs:List V} (e:H a=some (.lst xs)):TyOf K H (.ref a) (.type "list")
 | frz {a:Addr} {o:Obj} {xs:List V} (e:H a=some (.frz o (.lst xs))):TyOf K H (.ref a) (.type "list")
 | tup {a:Addr} {xs:List V} (e:H a=some (.tup xs)):TyOf K H (.ref a) (.type "tuple")
 | dK {a:Addr} {kvs:List (Key×V)} (e:H a=some (.dK kvs)):TyOf K H (.ref a) (.type "dict")
 | dT {a:Addr} {kvs:List (List Key×V)} (e:H a=some (.dT kvs)):TyOf K H (.ref a) (.type "dict")
 | ins {a C dx:Addr} {fs:List (Str×V)} (e:H a=some (.ins C dx fs)) (cl:Cls K C) (ha:PySem.W.findIn K (.ref C) "__class__"=some (some (.builtin "object.__class__")))
  (hn:PySem.W.specialIn K (.builtin "object.__class__") "__get__"=some (some (.builtin "getset_descriptor.__get__"))) (htk:PySem.W.takesIn K (.builtin "object.__class__")=some true)
  (hm:PySem.W.mroIn K C (.type "object")=some true):TyOf K H (.ref a) (.ref C)
theorem DY {x:V} {u t:Value} (I:Inv X pins σ H s) (rx:RelV x u) (ty:TyOf X.K H x t) (e:PySem.W.kitOne X.K t c=some b) (h:∀ tk,Q (.bool b) { s with toks:=tk }) :
 wpAny (model X.prog X.w) A (call (.builtin "isinstance") [u,c]) Q E s:=by
 cases ty with
 | non=>cases (show u=Value.none from rx);exact PySem.W.kia_one PySem.W.kitx_none I.kIn True.intro e (fun z=>nomatch z) h
 | bl y=>cases (show u=Value.bool y from rx);exact PySem.W.kia_one PySem.W.kitx_bool I.kIn True.intro e (fun z=>nomatch z) h
 | int i=>obtain ⟨t,q⟩:=(show ∃ t,u=Value.int i t from rx);cases q;exact PySem.W.kia_one PySem.W.kitx_int I.kIn True.intro e (fun z=>nomatch z) h
 | str y=>obtain ⟨t,q⟩:=(show ∃ t,u=Value.str y t from rx);cases q;exact PySem.W.kia_one PySem.W.kitx_str I.kIn True.intro e (fun z=>nomatch z) h
 | flt y=>obtain ⟨t,q⟩:=(show ∃ t,u=Value.float y t from rx);cases q;exact PySem.W.kia_one PySem.W.kitx_float I.kIn True.intro e (fun z=>nomatch z) h
 | @lst a xs ea =>
   cases (show u=Value.ref a from rx)
   obtain ⟨_,_,n,_,h1⟩:=(show ObjOk X.prog X.w H s.heap a (.lst xs) from I.hok a _ ea)
   exact PySem.W.kia_one PySem.W.kitx_list I.kIn ⟨_,h1,rfl⟩ e (fun z=>nomatch z) h
 | @frz a ob xs ea =>
   cases (show u=Value.ref a from rx)
   obtain ⟨_,_,_,n,_,h1⟩:=(show ObjOk X.prog X.w H s.heap a (.frz ob (.lst xs)) from I.hok a _ ea)
   exact PySem.W.kia_one PySem.W.kitx_list I.kIn ⟨_,h1,rfl⟩ e (fun z=>nomatch z) h
 | @tup a xs ea =>
   cases (show u=Value.ref a from rx)
   obtain ⟨_,_,_,p⟩:=(show ObjOk X.prog X.w H s.heap a (.tup xs) from I.hok a _ ea)
   obtain ⟨o,h1,h2,_⟩:=p
   exact PySem.W.kia_one PySem.W.kitx_tuple I.kIn ⟨o,h1,h2⟩ e (fun z=>nomatch z) h
 | @dK a kvs ea =>
   cases (show u=Value.ref a from rx)
   obtain ⟨_,_,vs,_,p⟩:=(show ObjOk X.prog X.w H s.heap a (.dK kvs) from I.hok a _ ea)
   obtain ⟨o,es,ep,h1,h2,_⟩:=p
   exact PySem.W.kia_one PySem.W.kitx_dict I.kIn ⟨o,h1,h2.1⟩ e (fun z=>nomatch z) h
 | @dT a kvs ea =>
   cases (show u=Value.ref a from rx)
   obtain ⟨_,_,xs,_,o,es,ep,h1,h2,_⟩:=(show ObjOk X.prog X.w H s.heap a (.dT kvs) from I.hok a _ ea)
   exact PySem.W.kia_one PySem.W.kitx_dict I.kIn ⟨o,h1,h2.1⟩ e (fun z=>nomatch z) h
 | @ins a C dx fs ea cl ha hn htk hm =>
   cases (show u=Value.ref a from rx)
   obtain ⟨mA,O,_⟩:=k8 I.hok ea
   obtain ⟨od,J,_⟩:=O.look
   exact PySem.W.kia_one (PySem.W.kitx_own (cl.get _) cl.hd ha hn htk hm) I.kIn J e (fun z=>nomatch z) h
end
end L2
namespace L2
open PySem PySem.Spec PyProof.Rows
structure Room (k:Nat) (A:Around):Prop where
 hd:A.handled=none
 dp:A.depth+3*k+5<recursionLimit
 un:A.units+16*k+200<cLine
theorem Room.mono {j k:Nat} {A:Around} (r:Room k A) (h:j<=k:=by decide):Room j A:=⟨r.hd,by have:=r.dp;omega,by have:=r.un;omega⟩
theorem Room.deeper {k:Nat} {A:Around} (r:Room (k+1) A) (env:Env):Room k (A.deeper env) :=
 ⟨r.hd,by have:=r.dp;show A.depth+1+3*k+5<_;omega,by have:=r.un;show A.units+3+16*k+200<_;omega⟩
theorem Room.in1 {k:Nat} {A:Around} (r:Room (k+1) A):Room k A.in1 :=
 ⟨r.hd,by have:=r.dp;show A.depth+3*k+5<_;omega,by have:=r.un;show A.units+1+16*k+200<_;omega⟩
theorem Ct {A:Around} {C:Addr} {us:List Value} {kw:List (Str×Value)}:(A.under (.builtin "type.__call__" ⟨.ref C::us,kw⟩)).depth=A.depth+1:=by
 first | rfl | simp [Around.under,Code.weight,Code.isCreation,Code.isGuard,Code.isCaller,Code.frames,Code.isFrame,guardIds]
theorem Cr {A:Around} {C:Addr} {us:List Value} {kw:List (Str×Value)}:(A.under (.builtin "type.__call__" ⟨.ref C::us,kw⟩)).units=A.units+1:=by
 first | rfl | simp [Around.under,Code.cUnits,Code.frames,Code.isFrame]
theorem Room.make {k:Nat} {A:Around} (r:Room (k+1) A) (C:Addr) (us:List Value) (kw:List (Str×Value)):Room k (A.under (.builtin "type.__call__" ⟨.ref C::us,kw⟩)) :=
 ⟨r.hd,by have:=r.dp;rw [Ct];omega,by have:=r.un;rw [Cr];omega⟩
theorem Room.depth {k:Nat} {A:Around} (r:Room k A):A.depth<recursionLimit:=by have:=r.dp;omega
theorem Room.units {k:Nat} {A:Around} (r:Room k A):A.units+64<cLine:=by have:=r.un;omega
def lQ:TA:=fun _ H Q=>Q [] H
def lT (ta:TE) (tr:TA):TA:=fun σ H Q=>ta σ H fun x H1=>tr σ H1 fun xs H2=>Q (x::xs) H2
section
variable {X:Cx} {e:Expr} {es:List Expr} {te:TE} {t:TA} {pos:Pos}
theorem ab:PA X [] lQ:=fun _ _ _ _ H Q I h=>Calls.spliced_nil ⟨[],H,I,.nil,h⟩
theorem aa (ha:PE X e te) (hr:PA X es t) (hs:starEach (e::es) X.env=(false,eval e X.env)::starEach es X.env:=by rfl):PA X (e::es) (lT te t):=by
 intro pos pins s σ H Q I h
 rw [hs]
 show wpAny _ _ (spliced ((false,eval e X.env)::backTo pos (starEach es X.env))) _ _ s
 refine Calls.spliced_cons (thn (ha pins s σ H _ I h) fun u s1 ⟨x,H1,I1,r1,q1⟩=>?_)
 exact thn (hr pos pins s1 σ H1 _ I1 q1) fun us s2 ⟨xs,H2,I2,r2,q2⟩=>⟨x::xs,H2,I2,.cons r1 r2,q2⟩
def xZ (t:TA):TE:=fun σ H Q=>t σ H fun xs H1=>xs.length<=sizeLine/\∀ p,H1 p=none->Q (.ref p) (upd H1 p (.tup xs))
def yb (t:TA):TE:=fun σ H Q=>t σ H fun xs H1=>xs.length<=sizeLine/\∀ p,H1 p=none->Q (.ref p) (upd H1 p (.lst xs))
theorem dG {x1} (h:PA X es t):PE X (.Tuple es x1 pos) (xZ t):=by
 intro pins s σ H Q I hq
 refine wpAny_Tuple_spliced (thn (h pos pins s σ H _ I hq) fun us s1 ⟨xs,H1,I1,r,z,q⟩=>⟨by rw [<- r.length];exact z,?_⟩)
 have hf:H1 s1.heap.objs.size=none:=I1.hok.fresh (Nat.le_refl _)
 refine ⟨.ref s1.heap.objs.size,upd H1 s1.heap.objs.size (.tup xs),I1.laid (t':=s1.toks) (fun b u e=>Heap.get?_push_of_some _ e) (Nat.le_refl _) ?_,rfl,q _ hf⟩
 exact ⟨z,us,r,⟨_,Heap.get?_push_size _ rfl,rfl,_,rfl⟩⟩
theorem bj (h:PA X es t):PE X (.List es pos) (yb t):=by
 intro pins s σ H Q I hq
 refine wpAny_List_spliced (thn (h pos pins s σ H _ I hq) fun us s1 ⟨xs,H1,I1,r,z,q⟩=>⟨by rw [<- r.length];exact z,?_⟩)
 have hf:H1 s1.heap.objs.size=none:=I1.hok.fresh (Nat.le_refl _)
 refine ⟨.ref s1.heap.objs.size,upd H1 s1.heap.objs.size (.lst xs),I1.laid (t':=s1.toks) (fun b u e=>Heap.get?_push_of_some _ e) (Nat.le_refl _) ?_,rfl,q _ hf⟩
 exact ⟨z,us,0,r,Heap.get?_push_size _ rfl⟩
end
abbrev Sp:=List V->Hp->VK->XK->Prop
abbrev CXT:=List Env->Hp->Shared->XK->Value->Shared->Prop
structure Env0 (P:Program) (w:World) (K:PySem.W.Frag) (mg:Str->Option Value) (base:Heap) (A:Around) (outer:List Env) (s:Shared) (H:Hp):Prop where
 frames:A.frames=some outer
 mod:Mod K mg base
 bs:∀ b o,base.get? b=some o->s.heap.get? b=some o/\H b=none
 bsz:base.objs.size<=s.heap.objs.size
 funs:s.heap.FunFrames base outer
 frf:∀ b∈frs outer,H b=none
 hok:HOk P w H s.heap
 bare:AllBare s.gens
def CE (outer:List Env) (P:Program) (w:World) (H:Hp) (s:Shared) (Q:VK) (u:Value) (s':Shared):Prop :=
 ∃ v H',s'.os=s.os/\AllBare s'.gens/\Un (frs outer) [] H H' s.heap s'.heap/\HOk P w H' s'.heap/\RelV v u/\Q v H'
def CR (CX:CXT) (outer:List Env) (P:Program) (w:World) (H:Hp) (s:Shared) (Q:VK) (E:XK) (r:Result) (s':Shared):Prop :=
 match r with
 | .ok (.ret u)=>CE outer P w H s Q u s'
 | .ok _=>False
 | .error e=>CX outer H s E e s'
structure FnOk (P:Program) (w:World) (K:PySem.W.Frag) (mg:Str->Option Value) (base:Heap) (CX:CXT) (k:Nat) (f:Addr) (fd:FuncData) (ps:List Str) (sp:Sp):Prop where
 len:∀ vs H Q E,sp vs H Q E->vs.length=ps.length
 run:∀ (A:Around) (outer:List Env) (s:Shared) (H:Hp) (args:Args) (us:List Value) (vs:List V) (Q:VK) (E:XK),Room k A->Env0 P w K mg base A outer s H->BindsTo s fd args (ps.zip us)->Vals vs us->sp vs H Q E ->
  codeAny (model P w) A (.call (.ref f) args) (CR CX outer P w H s Q E) s
theorem FnOk.mono {P:Program} {w:World} {K:PySem.W.Frag} {mg:Str->Option Value} {base:Heap} {CX:CXT} {j k:Nat} {f:Addr} {fd:FuncData} {ps:List Str} {sp:Sp} (F:FnOk P w K mg base CX j f fd ps sp) (h:j<=k:=by decide) :
 FnOk P w K mg base CX k f fd ps sp:=⟨F.len,fun A outer s H args us vs Q E hr=>F.run A outer s H args us vs Q E (hr.mono h)⟩
theorem Env0.make {P:Program} {w:World} {K:PySem.W.Frag} {mg:Str->Option Value} {base:Heap} {A:Around} {outer:List Env} {s:Shared} {H:Hp} (e:Env0 P w K mg base A outer s H) (C:Addr) (us:List Value) (kw:List (Str×Value)) :
 Env0 P w K mg base (A.under (.builtin "type.__call__" ⟨.ref C::us,kw⟩)) outer s H:=⟨by first | exact e.frames | (simpa [Around.under,Code.envs,Code.isFrame,pushEnvs] using e.frames),e.mod,e.bs,e.bsz,e.funs,e.frf,e.hok,e.bare⟩
section
variable {X:Cx} {pins:List (Addr×Obj)} {σ:St} {H:Hp} {s s':Shared}
theorem Inv.env0 (I:Inv X pins σ H s):Env0 X.prog X.w X.K X.mg X.base X.A X.stack s H :=
 ⟨I.ok.frames,I.ok.mod,I.bs,Nat.le_trans I.ok.bsz I.sz,I.stack,I.stkFree,I.hok,I.bare⟩
theorem Inv.after {Q:VK} {u:Value} (I:Inv X pins σ H s) (h:CE X.stack X.prog X.w H s Q u s'):EP X pins σ Q u s':=by
 obtain ⟨v,H',os,bare,un,hok,r,q⟩:=h
 obtain ⟨hh,g,d,t,os'⟩:=s'
 obtain rfl:os'=s.os:=os
 exact ⟨v,H',I.call (h':=hh) (g':=g) (d':=d) (t':=t) (ch:=[]) un hok bare (fun b z=>absurd z (by simp)),r,q⟩
end
def ye (sp:Sp) (dvs:List V) (E:XK) (t:TA):TE:=fun σ H Q=>t σ H fun vs H1=>sp (vs++dvs) H1 Q E
def rC (C:Addr) (m:Str) (sp:Sp) (dvs:List V) (E:XK) (ta:TE) (t:TA):TE:=fun σ H Q=>ta σ H fun x H1=>∃ a dx fs,x=.ref a/\H1 a=some (.ins C dx fs)/\fs.lookup m=none /\
 t σ H1 fun vs H2=>sp (x::(vs++dvs)) H2 Q E
def x9 (C:Addr) (sp:Sp) (dvs:List V) (E:XK) (t:TA):TE:=fun σ H Q=>t σ H fun vs H1=>∀ x dx,H1 x=none->H1 dx=none->dx≠x ->
 sp (.ref x::(vs++dvs)) (upd (upd H1 dx (.own x)) x (.ins C dx [])) (fun v H2=>v=.non/\Q (.ref x) H2) E
def Binds (K:PySem.W.Frag) (fd:FuncData) (ps:List Str) (ds:List Value):Prop :=
 ∀ (s:Shared) (us:List Value),K.In s.heap->(us++ds).length=ps.length->BindsTo s fd ⟨us,[]⟩ (ps.zip (us++ds))
theorem Binds.all {K:PySem.W.Frag} {fd:FuncData} {ps:List Str} (h:∀ us:List Value,us.length=ps.length->bindArgs fd ⟨us,[]⟩=pure (ps.zip us)):Binds K fd ps []:=fun s us _ hl=>by
 rw [List.append_nil] at hl ⊢
 exact .of_eq (h us hl)
def gJ (CX:CXT) (X:Cx) (E:XK):Prop:=∀ (pins:List (Addr×Obj)) (σ:St) (H:Hp) (s:Shared) (e:Value) (s':Shared),Inv X pins σ H s->CX X.stack H s E e s'->X.xe e s'
section
variable {X:Cx} {CX:CXT} {k:Nat} {f C:Addr} {fd:FuncData} {ps:List Str} {sp:Sp} {dvs:List V} {ds:List Value} {E:XK} {x m:Str} {p pos apos:Pos} {e o:Expr} {es:List Expr} {ta:TE} {t:TA}
theorem oa {pins:List (Addr×Obj)} {σ:St} {H:Hp} {s:Shared} {Q:VK} {us:List Value} {vs:List V} (F:FnOk X.prog X.w X.K X.mg X.base CX k f fd ps sp) (hr:Room k X.A) (hb:Binds X.K fd ps ds) (hd:Vals dvs ds) (hx:gJ CX X E)
 (I:Inv X pins σ H s) (r:Vals vs us) (h:sp (vs++dvs) H Q E):wpAny (model X.prog X.w) X.A (call (.ref f) us) (EP X pins σ Q) X.xe s:=by
 have r2:Vals (vs++dvs) (us++ds):=r.append hd
 have hl:(us++ds).length=ps.length:=by rw [<- r2.length];exact F.len _ _ _ _ h
 refine wpAny_call (codeAny_mono (F.run X.A X.stack s H ⟨us,[]⟩ (us++ds) (vs++dvs) Q E hr I.env0 (hb s us I.kIn hl) r2 h) fun r s' hq=>?_)
 cases r with
 | error e=>exact hx pins σ H s e s' I hq
 | ok fl =>
   cases fl with
   | ret u=>exact I.after hq
   | next=>exact False.elim hq
   | brk=>exact False.elim hq
   | cont=>exact False.elim hq
theorem al (F:FnOk X.prog X.w X.K X.mg X.base CX k f fd ps sp) (hr:Room k X.A) (hg:Gl X x) (hm:X.mg x=some (.ref f)) (hk:PySem.W.keepIn X.K (.ref f)=true) (hb:Binds X.K fd ps ds) (hd:Vals dvs ds) (hx:gJ CX X E)
 (ha:PA X (e::es) t) (hdb:(x == ("__debug__":Str))=false:=by decide) (he:starEach (e::es) X.env=(false,eval e X.env)::starEach es X.env:=by rfl) (hpl:(backTo pos (starEach es X.env)).any (·.1)=false:=by rfl) :
 PE X (.Call (.Name x p) (e::es) [] pos) (ye sp dvs E t):=by
 intro pins s σ H Q I h
 refine wpAny_Call_Name_kw (o7 I hg hm ?_ hdb)
 refine PySem.W.callWith_K (h₀:=X.base) I.ok.mod.kin hk (thn (ha pos pins s σ H _ I h) fun us s1 ⟨vs,H1,I1,r,q⟩=>⟨I1.kIn,?_⟩) he hpl
 exact oa F hr hb hd hx I1 r q
theorem fc {pl:Sem Bool} (he:PE X o ta) (c:Cls X.K C) (hm:Meth X.K C m f) (F:FnOk X.prog X.w X.K X.mg X.base CX k f fd ps sp) (hr:Room k X.A) (hb:Binds X.K fd ps ds) (hd:Vals dvs ds) (hx:gJ CX X E) (ha:PA X (e::es) t)
 (hst:starEach (e::es) X.env=(false,eval e X.env)::starEach es X.env:=by rfl) (hpl:(backTo pos (starEach es X.env)).any (·.1)=false:=by rfl)
 (ht:eval (.Call (.Attribute o m apos) (e::es) [] pos) X.env=(do
   let ov <- eval o X.env
   standAt apos.atName
   let (f,first) <- holding [ov] (getMethod ov m pl)
   callWith pos f first (backTo pos (starEach (e::es) X.env)) (backToKw pos (keywordEach [] X.env))):=by rfl) :
 PE X (.Call (.Attribute o m apos) (e::es) [] pos) (rC C m sp dvs E ta t):=by
 intro pins s σ H Q I h
 refine PySem.W.methodCall_KW (pl:=pl) (thn (he pins s σ H _ I h) fun u s1 ⟨x,H1,I1,rx,a,dx,fs,ex,ea,l,q⟩=>?_) ht
 subst ex
 obtain rfl:u=Value.ref a:=rx
 refine v3 I1 ea c hm l ?_
 refine PySem.W.callWith_K (first:=[.ref a]) (h₀:=X.base) I.ok.mod.kin hm.kp (thn (ha pos pins s1 σ H1 _ I1 q) fun us s2 ⟨vs,H2,I2,r,q2⟩=>⟨I2.kIn,?_⟩) hst hpl
 exact oa (us:=.ref a::us) (vs:=.ref a::vs) F hr hb hd hx I2 (.cons rfl r) q2
theorem AA {pl:Sem Bool} (he:PE X o ta) (c:Cls X.K C) (hm:Meth X.K C m f) (F:FnOk X.prog X.w X.K X.mg X.base CX k f fd ps sp) (hr:Room k X.A) (hb:Binds X.K fd ps ds) (hd:Vals dvs ds) (hx:gJ CX X E)
 (ht:eval (.Call (.Attribute o m apos) [] [] pos) X.env=(do
   let ov <- eval o X.env
   standAt apos.atName
   let (f,first) <- holding [ov] (getMethod ov m pl)
   callWith pos f first (backTo pos (starEach [] X.env)) (backToKw pos (keywordEach [] X.env))):=by rfl) :
 PE X (.Call (.Attribute o m apos) [] [] pos) (rC C m sp dvs E ta lQ):=by
 intro pins s σ H Q I h
 refine PySem.W.methodCall_KW (pl:=pl) (thn (he pins s σ H _ I h) fun u s1 ⟨x,H1,I1,rx,a,dx,fs,ex,ea,l,q⟩=>?_) ht
 subst ex
 obtain rfl:u=Value.ref a:=rx
 refine v3 I1 ea c hm l ?_
 exact PySem.W.callWith_K0 (first:=[.ref a]) I1.kIn hm.kp (oa (us:=[.ref a]) (vs:=[.ref a]) F hr hb hd hx I1 (.cons rfl .nil) q)
structure Mk (K:PySem.W.Frag) (C f:Addr):Prop where
 makes:PySem.W.makesIn K C=true
 init:PySem.W.findIn K (.ref C) "__init__"=some (some (.ref f))
 fn:PySem.W.isFn K (.ref f)=true
 kp:PySem.W.keepIn K (.ref C)=true
theorem zp {pins:List (Addr×Obj)} {σ:St} {H:Hp} {s:Shared} {Q:VK} {us:List Value} {vs:List V} (M:Mk X.K C f) (F:FnOk X.prog X.w X.K X.mg X.base CX k f fd ps sp) (hr:Room (k+1) X.A) (hb:Binds X.K fd ps ds) (hd:Vals dvs ds)
 (hx:gJ CX X E) (I:Inv X pins σ H s) (r:Vals vs us)
 (h:∀ x dx,H x=none->H dx=none->dx≠x->sp (.ref x::(vs++dvs)) (upd (upd H dx (.own x)) x (.ins C dx [])) (fun v H2=>v=.non/\Q (.ref x) H2) E) :
 wpAny (model X.prog X.w) X.A (call (.ref C) us) (EP X pins σ Q) X.xe s:=by
 have hq:=h (s.heap.objs.size+1) s.heap.objs.size (I.hok.fresh (Nat.le_succ _)) (I.hok.fresh (Nat.le_refl _)) (Nat.ne_of_lt (Nat.lt_succ_self _))
 have I2:=Inv.made (C:=C) I
 have r2:Vals (V.ref (s.heap.objs.size+1)::(vs++dvs)) (Value.ref (s.heap.objs.size+1)::(us++ds)):=.cons rfl (r.append hd)
 have hl:(Value.ref (s.heap.objs.size+1)::us++ds).length=ps.length:=by
  have e:=r2.length
  rw [F.len _ _ _ _ hq] at e
  exact e.symm
 refine wpAny_call (Cs (f:=f) I.kIn M.makes M.init (beq_iff_eq.mp M.fn) (codeAny_mono (F.run _ X.stack _ _ ⟨Value.ref (s.heap.objs.size+1)::us,[]⟩ (Value.ref (s.heap.objs.size+1)::(us++ds)) _ _ E (hr.make C us [])
  (I2.env0.make C us []) (hb _ (Value.ref (s.heap.objs.size+1)::us) I2.kIn hl) r2 hq) fun r s' hq'=>?_))
 cases r with
 | error e=>exact hx pins σ _ _ e s' I2 hq'
 | ok fl =>
   cases fl with
   | ret u =>
     obtain ⟨v,H',I3,rv,ev,q3⟩:=I2.after hq'
     subst ev
     exact ⟨rv,⟨V.ref (s.heap.objs.size+1),H',I3,rfl,q3⟩⟩
   | next=>exact False.elim hq'
   | brk=>exact False.elim hq'
   | cont=>exact False.elim hq'
theorem cD (M:Mk X.K C f) (F:FnOk X.prog X.w X.K X.mg X.base CX k f fd ps sp) (hr:Room (k+1) X.A) (hg:Gl X x) (hm:X.mg x=some (.ref C)) (hb:Binds X.K fd ps ds) (hd:Vals dvs ds) (hx:gJ CX X E)
 (ha:PA X (e::es) t) (hdb:(x == ("__debug__":Str))=false:=by decide) (he:starEach (e::es) X.env=(false,eval e X.env)::starEach es X.env:=by rfl) (hpl:(backTo pos (starEach es X.env)).any (·.1)=false:=by rfl) :
 PE X (.Call (.Name x p) (e::es) [] pos) (x9 C sp dvs E t):=by
 intro pins s σ H Q I h
 refine wpAny_Call_Name_kw (o7 I hg hm ?_ hdb)
 refine PySem.W.callWith_K (h₀:=X.base) I.ok.mod.kin M.kp (thn (ha pos pins s σ H _ I h) fun us s1 ⟨vs,H1,I1,r,q⟩=>⟨I1.kIn,?_⟩) he hpl
 exact zp M F hr hb hd hx I1 r q
end
section
variable {X:Cx} {CX:CXT} {k:Nat} {f C:Addr} {fd:FuncData} {ps ks:List Str} {sp:Sp} {E:XK} {x m:Str} {p pos apos kpos:Pos} {e o:Expr} {es:List Expr} {kws:List Keyword} {te ta:TE} {t tk:TA} {nm:Option Str}
variable {g:List Value->List Value->List Value} {gV:List V->List V->List V}
end
structure FnScope (N P:List Str) (sc:Scope):Prop where
 kind:sc.kind=.function
 co:sc.isCoroutine=false
 gen:sc.isGenerator=false
 nd:N.Nodup
 pre:N.take P.length=P
 par:∀ x∈P,sc.names.lookup x=some .local\/sc.names.lookup x=some .cell
 nofree:∀ y∈sc.names,y.2≠.free
theorem wQ {kindOf:Str->Option NameKind} {x:Str}:∀ {binds:List (Str×Value)} {m:Str->Option Value},(∀ v,(x,v)∉binds)->bindL kindOf binds m x=m x
 | [],_,_=>rfl
 | (n,v)::r,m,h=>by
   unfold bindL
   rw [wQ fun w hw=>h w (List.mem_cons_of_mem _ hw)]
   split
   ·have:x≠n:=by rintro rfl;exact h v List.mem_cons_self
    simp [this]
   ·rfl
theorem wS {kindOf:Str->Option NameKind} {x:Str}:∀ {binds:List (Str×Value)} {m:Str->Option Value},(∀ v,(x,v)∉binds)->bindC kindOf binds m x=m x
 | [],_,_=>rfl
 | (n,v)::r,m,h=>by
   unfold bindC
   rw [wS fun w hw=>h w (List.mem_cons_of_mem _ hw)]
   split
   ·rfl
   ·have:x≠n:=by rintro rfl;exact h v List.mem_cons_self
    simp [this]
theorem wR {kindOf:Str->Option NameKind} {x:Str} {v:Value}:∀ {P:List Str} {vs:List Value} {i:Nat} {m:Str->Option Value},P.Nodup->P[i]?=some x->vs[i]?=some v->kindOf x=some .local ->
 bindL kindOf (P.zip vs) m x=some v
 | [],_,_,_,_,h,_,_=>by simp at h
 | _::_,[],_,_,_,_,h,_=>by simp at h
 | p::P,w::vs,0,m,nd,h1,h2,hk=>by
   simp at h1 h2;subst h1;subst h2
   show bindL kindOf ((p,w)::P.zip vs) m p=_
   unfold bindL
   rw [wQ fun v hv=>(List.nodup_cons.mp nd).1 (List.of_mem_zip hv).1,if_pos hk]
   simp
 | p::P,w::vs,i+1,m,nd,h1,h2,hk=>by
   show bindL kindOf ((p,w)::P.zip vs) m x=_
   unfold bindL
   exact wR (i:=i) (List.nodup_cons.mp nd).2 (by simpa using h1) (by simpa using h2) hk
theorem wT {kindOf:Str->Option NameKind} {x:Str} {v:Value}:∀ {P:List Str} {vs:List Value} {i:Nat} {m:Str->Option Value},P.Nodup->P[i]?=some x->vs[i]?=some v->kindOf x≠some .local ->
 bindC kindOf (P.zip vs) m x=some v
 | [],_,_,_,_,h,_,_=>by simp at h
 | _::_,[],_,_,_,_,h,_=>by simp at h
 | p::P,w::vs,0,m,nd,h1,h2,hk=>by
   simp at h1 h2;subst h1;subst h2
   show bindC kindOf ((p,w)::P.zip vs) m p=_
   unfold bindC
   rw [wS fun v hv=>(List.nodup_cons.mp nd).1 (List.of_mem_zip hv).1,if_neg hk]
   simp
 | p::P,w::vs,i+1,m,nd,h1,h2,hk=>by
   show bindC kindOf ((p,w)::P.zip vs) m x=_
   unfold bindC
   exact wT (i:=i) (List.nodup_cons.mp nd).2 (by simpa using h1) (by simpa using h2) hk
def start (N:List Str) (vs:List V):St:=vs.map some++List.replicate (N.length-vs.length) none
def gB (CX:CXT) (P:Program) (w:World) (K:PySem.W.Frag) (mg:Str->Option Value) (base:Heap) (N:List Str) (qual:Str) (scope:Scope) (f:Addr) (cd:Value) (A:Around) (outer:List Env) (s:Shared) (H:Hp) (E:XK):Cx where
 prog:=P
 w:=w
 K:=K
 mg:=mg
 base:=base
 A:=A.deeper (envOfC qual scope s.heap.objs.size f cd)
 N:=N
 s₀:=s
 H₀:=H
 env:=envOfC qual scope s.heap.objs.size f cd
 outer:=outer
 stack:=envOfC qual scope s.heap.objs.size f cd::outer
 ex:=[]
 calm:=true
 fn:=fun _=>true
 pn:=[]
 xe:=fun e s'=>wpAny (model P w) (A.deeper (envOfC qual scope s.heap.objs.size f cd)) (leaving (envOfC qual scope s.heap.objs.size f cd) e) (fun _ s''=>CX outer H s E e s'') (fun e' s''=>CX outer H s E e' s'') s'
theorem wM {sc:Scope} {n:Nat} {x:Str} (h:sc.names.lookup x=some .cell):∃ c,(cellsFrom n sc.names []).lookup x=some c:=by
 have q:=PySem.W.cellsFrom_some sc.names n [] (.inl h)
 exact Option.isSome_iff_exists.mp q
theorem D0 {CX:CXT} {P:Program} {w:World} {K:PySem.W.Frag} {mg:Str->Option Value} {base:Heap} {N ps:List Str} {qual:Str} {scope:Scope} {f:Addr} {cd:Value} {A:Around} {outer:List Env} {s s1:Shared} {H:Hp} {E:XK} {us:List Value} {vs:List V}
 (S:FnScope N ps scope) (hd:A.handled=none) (e0:Env0 P w K mg base A outer s H) (hl:vs.length=ps.length) (r:Vals vs us)
 (x:InCallC s s.heap.objs.size (bindL (envOfC qual scope s.heap.objs.size f cd).kindOf (ps.zip us) fun _=>none) (cellsFrom (s.heap.objs.size+1) scope.names []) (bindC (envOfC qual scope s.heap.objs.size f cd).kindOf (ps.zip us) fun _=>none) s1) :
 Inv (gB CX P w K mg base N qual scope f cd A outer s H E) [] (start N vs) H s1:=by
 have hpl:ps.length<=N.length:=by have:=congrArg List.length S.pre;rw [List.length_take] at this;omega
 obtain ⟨h1,tk,rfl,hk⟩:=x.done
 have noA:∀ b:Addr,b∉(gB CX P w K mg base N qual scope f cd A outer s H E).ex:=fun b z=>absurd (show b∈([]:List Addr) from z) (by simp)
 refine ⟨⟨e0.mod,S.kind,rfl,rfl,Nat.le_refl _,fun y z c h1 h2=>?_,fun y hy=>?_,fun y c _ h=>?_,fun _=>hd,Around.frames_deeper e0.frames,.inr ⟨rfl,rfl⟩,fun b z=>absurd z (noA b),e0.bs,e0.bsz,fun b _ _=>noA b,fun b z=>absurd z (noA b),e0.funs,e0.frf⟩,
  rfl,e0.bare,Un.kept hk,⟨_,x.toInCall.ns,fun i y v h1 h2 h3=>?_⟩,fun y c h=>⟨_,x.cell y c h⟩,e0.hok.fresh (Nat.le_refl _),fun y c h=>?_,fun p hp=>absurd (show p∈([]:List (Addr×Obj)) from hp) (by simp),e0.hok.kept hk,?_⟩
 ·exact name_of_addr x.apart (PySem.mem_of_lookup h1) (PySem.mem_of_lookup h2)
 ·have hy:scope.names.lookup y=some .cell\/scope.names.lookup y=some .free:=hy
  rcases hy with hy | hy
  ·exact wM hy
  ·exact absurd rfl (S.nofree _ (PySem.mem_of_lookup hy))
 ·exact Nat.le_of_lt (x.above y c (PySem.mem_of_lookup h))
 ·have hi:i<vs.length:=by
   unfold start at h2
   by_cases hi:i<vs.length
   ·exact hi
   ·rw [List.getElem?_append_right (by simpa using hi)] at h2
    rw [List.getElem?_replicate] at h2
    split at h2<;>cases h2
  have ha:vs[i]?=some v:=by
   unfold start at h2
   rw [List.getElem?_append_left (by simpa using hi),List.getElem?_map] at h2
   cases e:vs[i]? with
   | none=>rw [e] at h2;cases h2
   | some a=>rw [e] at h2;cases h2;rfl
  obtain ⟨u,hu,rv⟩:=r.get ha
  have hp:ps[i]?=some y:=by
   rw [<- S.pre,List.getElem?_take_of_lt (by omega)];exact h1
  have ndP:ps.Nodup:=by rw [<- S.pre];exact S.nd.sublist (List.take_sublist _ _)
  refine ⟨u,rv,?_⟩
  rcases S.par y (List.mem_of_getElem? hp) with k | k
  ·exact .inl ⟨k,wR ndP hp hu k⟩
  ·obtain ⟨c,e⟩:=wM (n:=s.heap.objs.size+1) k
   refine .inr ⟨.inl k,c,e,?_⟩
   have q:=x.cell y c e
   rw [wT ndP hp hu (by show scope.names.lookup y≠_;rw [k];decide)] at q
   exact q
 ·exact e0.hok.fresh (Nat.le_of_lt (x.above y c (PySem.mem_of_lookup h)))
 ·unfold start
  show _=N.length
  rw [List.length_append,List.length_map,List.length_replicate]
  omega
theorem we {CX:CXT} {P:Program} {w:World} {K:PySem.W.Frag} {mg:Str->Option Value} {base:Heap} {k:Nat} {f:Addr} {name qual:Str} {params:Arguments} {body:List Stmt} {scope:Scope} {dV kV doc pm cdv ct oc:Value} {an od:Option Addr}
 {osl:Array (Option Value)} {N ps:List Str} {sp:Sp} (lk:K.lookup f=some ⟨oc,od,.func (PySem.W.fnOf name qual params body scope dV kV doc pm an cdv ct),osl⟩) (hcd:PySem.W.codeIn K cdv qual=true) (S:FnScope N ps scope)
 (len:∀ vs H Q E,sp vs H Q E->vs.length=ps.length)
 (hbody:∀ (A:Around) (outer:List Env) (s:Shared) (H:Hp) (vs:List V) (Q:VK) (E:XK),Room k (A.deeper (envOfC qual scope s.heap.objs.size f cdv))->sp vs H Q E ->
   ∃ t,PSs (gB CX P w K mg base N qual scope f cdv A outer s H E) body t/\t { nx:=fun _ H'=>Q .non H',rt:=Q } (start N vs) H) :
 FnOk P w K mg base CX (k+1) f (PySem.W.fnOf name qual params body scope dV kV doc pm an cdv ct) ps sp:=by
 refine ⟨len,fun A outer s H args us vs Q E hr e0 hb r hsp=>?_⟩
 have hl:=len _ _ _ _ hsp
 have KX:K.In s.heap:=e0.mod.kin.keeps fun b o e=>(e0.bs b o e).1
 have lim:s.heap.NoLimit:=e0.mod.nolimit.keeps fun b o e=>(e0.bs b o e).1
 have hkind:∀ y∈ps.zip us,scope.names.lookup y.1=some .local\/(scope.names.lookup y.1=some .cell/\((cellsFrom (s.heap.objs.size+1) scope.names []).lookup y.1).isSome=true):=fun ⟨n,v⟩ hy=>by
  rcases S.par n (List.of_mem_zip hy).1 with q | q
  ·exact .inl q
  ·exact .inr ⟨q,PySem.W.cellsFrom_some _ _ _ (.inl q)⟩
 refine codeAny_call_function hr.depth (KX _ _ lk) rfl S.co S.gen rfl (PySem.W.codeRec_of KX hcd) (hb _ _ _ _ ?_)
 refine wpAny_newFunctionEnv_cells S.kind hkind fun env he s1 x=>?_
 subst he
 refine ⟨lim.keeps x.toInCall.keep,codeAny_func ?_⟩
 obtain ⟨t,ht,hq⟩:=hbody A outer s H vs Q E (hr.deeper _) hsp
 have I:Inv (gB CX P w K mg base N qual scope f cdv A outer s H E) [] (start N vs) H s1:=D0 S hr.hd e0 hl r x
 refine wpAny_mono (ht [] s1 (start N vs) H _ I hq) (fun fl s' hs=>?_) fun e s' hs=>hs
 have fin:∀ {σ':St} {H':Hp} {v:V} {u:Value},Inv (gB CX P w K mg base N qual scope f cdv A outer s H E) [] σ' H' s'->RelV v u->Q v H'->CE outer P w H s Q u s' :=
  fun {σ' H' v u} J rv q=>⟨v,H',J.os,J.bare,J.base,J.hok,rv,q⟩
 cases fl with
 | ret u =>
   obtain ⟨v,σ',H',J,rv,q⟩:=hs
   exact fin J rv q
 | next =>
   obtain ⟨σ',H',J,q⟩:=hs
   exact fin (v:=V.non) (u:=Value.none) J rfl q
 | brk =>
   obtain ⟨_,_,_,q⟩:=hs
   exact False.elim q
 | cont =>
   obtain ⟨_,_,_,q⟩:=hs
   exact False.elim q
end L2
namespace L2
open PySem PySem.Spec PyProof.Rows
section
variable {X:Cx} {x:Str} {p pos:Pos} {e:Expr} {es:List Expr} {t:TA} {id T:String} {r:List V->Hp->VK->Prop}
def tCB (r:List V->Hp->VK->Prop) (t:TA):TE:=fun σ H Q=>t σ H fun vs H1=>r vs H1 Q
theorem bA (hc:CallR X (.builtin id) r) (hg:Gl X x) (hm:X.mg x=none) (hv:bootBuiltins x=some (.builtin id)) (ha:PA X (e::es) t) (hn:x≠"__name__":=by decide) (hdb:(x == ("__debug__":Str))=false:=by decide)
 (he:starEach (e::es) X.env=(false,eval e X.env)::starEach es X.env:=by rfl) (hpl:(backTo pos (starEach es X.env)).any (·.1)=false:=by rfl):PE X (.Call (.Name x p) (e::es) [] pos) (tCB r t):=by
 intro pins s σ H Q I h
 refine wpAny_Call_Name_kw (eu I hg hm hv ?_ hn hdb)
 exact PyProof.Rows.callWith_builtin1 (thn (ha pos pins s σ H _ I h) fun us s1 ⟨vs,H1,I1,r1,q1⟩=>hc pins s1 σ H1 vs us Q I1 r1 q1) he hpl
theorem fe (hc:CallR X (.type T) r) (hg:Gl X x) (hm:X.mg x=none) (hv:bootBuiltins x=some (.type T)) (ha:PA X (e::es) t) (hn:x≠"__name__":=by decide) (hdb:(x == ("__debug__":Str))=false:=by decide)
 (he:starEach (e::es) X.env=(false,eval e X.env)::starEach es X.env:=by rfl) (hpl:(backTo pos (starEach es X.env)).any (·.1)=false:=by rfl):PE X (.Call (.Name x p) (e::es) [] pos) (tCB r t):=by
 intro pins s σ H Q I h
 refine wpAny_Call_Name_kw (eu I hg hm hv ?_ hn hdb)
 exact PyProof.Rows.callWith_type1 (thn (ha pos pins s σ H _ I h) fun us s1 ⟨vs,H1,I1,r1,q1⟩=>hc pins s1 σ H1 vs us Q I1 r1 q1) he hpl
end
end L2
namespace HT
open PySem PyProof.Rows
section
open PySem.SeqAt
open PySem.AutoSeq1 (wpAny_loadPart')
open PySem.MeetsSeq PySem.MeetsSeq2 PySem.MeetsSeq3
end
section
variable {prog:Program} {w:World} {A:Around} {E:Value->Shared->Prop} {s:Shared}
def sIx (n d:Nat):Option Int->Nat
 | none=>d
 | some v=>if v<0 then (v+(n:Int)).toNat else min v.toNat n
theorem sIx_none (n d:Nat):sIx n d none=d:=rfl
theorem sIx_nat (n d k:Nat):sIx n d (some (k:Int))=min k n:=by
 show (if (k:Int)<0 then ((k:Int)+(n:Int)).toNat else min (k:Int).toNat n)=min k n
 rw [if_neg (by omega),Int.toNat_natCast]
end
end HT
namespace L2
open PySem PySem.Spec PyProof.Rows
abbrev TO:=St->Hp->(Option Int->Hp->Prop)->Prop
def PO (X:Cx) (e:Option Expr) (t:TO):Prop :=
 ∀ (pins:List (Addr×Obj)) (s:Shared) (σ:St) (H:Hp) (Q:Option Int->Hp->Prop),Inv X pins σ H s->t σ H Q ->
   wpAny (model X.prog X.w) X.A (evalPart e X.env) (fun u s'=>∃ o H',Inv X pins σ H' s'/\IsPart u o/\Q o H') X.xe s
def x6:TO:=fun _ H Q=>Q none H
def x4 (t:TE):TO:=fun σ H Q=>t σ H fun x H1=>∃ i,x=.int i/\Q (some i) H1
theorem kZ {ns:List Int}:∀ {us:List Value},Vals (ns.map V.int) us->IntsAre us ns:=by
 induction ns with
 | nil=>intro us r;rw [List.map_nil] at r;cases r;exact .nil
 | cons n ns ih =>
   intro us r
   rw [List.map_cons] at r
   cases r with
   | cons r1 r2 =>
     obtain ⟨t,e⟩:=r1
     subst e
     exact .cons n t (ih r2)
section
variable {X:Cx} {e:Expr} {te:TE} {lo hi:Option Expr} {tl th:TO} {pos p2:Pos}
theorem kB:PO X none x6:=by
 intro pins s σ H Q I h
 rw [evalPart_none]
 exact wpAny_pure ⟨none,H,I,.none,h⟩
theorem kA (h:PE X e te):PO X (some e) (x4 te):=by
 intro pins s σ H Q I hw
 rw [evalPart_some]
 refine thn (h pins s σ H _ I hw) fun u s1 ⟨x,H1,I1,r1,q1⟩=>?_
 obtain ⟨i,rfl,q⟩:=q1
 obtain ⟨t,rfl⟩:=r1
 exact ⟨some i,H1,I1,.int i t,q⟩
def SlR (X:Cx) (r:V->Option Int->Option Int->Hp->VK->Prop):Prop :=
 ∀ (pins:List (Addr×Obj)) (s:Shared) (σ:St) (H:Hp) (x:V) (v vl vu:Value) (lo hi:Option Int) (sl:Addr) (Q:VK),Inv X pins σ H s->RelV x v->s.heap.IsSliceOf sl vl vu .none->IsPart vl lo->IsPart vu hi->r x lo hi H Q ->
   ∃ T id,typeLookup (.type T) "__getitem__"=pure (some (.builtin id))/\s.TypeIs v T/\wpAny (model X.prog X.w) X.A (getItem v (.ref sl)) (EP X pins σ Q) X.xe s
theorem SlR.or {r r':V->Option Int->Option Int->Hp->VK->Prop} (h:SlR X r) (h':SlR X r'):SlR X (fun x lo hi H Q=>r x lo hi H Q\/r' x lo hi H Q):=by
 intro pins s σ H x v vl vu lo hi sl Q I rx hs pl pu q
 rcases q with q | q
 ·exact h pins s σ H x v vl vu lo hi sl Q I rx hs pl pu q
 ·exact h' pins s σ H x v vl vu lo hi sl Q I rx hs pl pu q
def tSl (r:V->Option Int->Option Int->Hp->VK->Prop) (te:TE) (tl th:TO):TE:=fun σ H Q=>te σ H fun x H1=>tl σ H1 fun l H2=>th σ H2 fun u H3=>r x l u H3 Q
theorem kD {r:V->Option Int->Option Int->Hp->VK->Prop} (hr:SlR X r) (he:PE X e te) (hl:PO X lo tl) (hu:PO X hi th):PE X (.Subscript e (.Slice lo hi none p2) pos) (tSl r te tl th):=by
 intro pins s σ H Q I h
 refine Subscript_ (thn (he pins s σ H _ I h) fun v s1 ⟨x,H1,I1,r1,q1⟩=>?_)
 refine wpAny_Slice (thn (hl pins s1 σ H1 _ I1 q1) fun vl s2 ⟨l,H2,I2,pl,q2⟩=>thn (hu pins s2 σ H2 _ I2 q2) fun vu s3 ⟨u,H3,I3,pu,q3⟩=>?_)
 rw [evalPart_none]
 refine wpAny_pure ?_
 have I4:Inv X pins σ H3 { s3 with heap:=s3.heap.push { cls:=.type "slice",data:=.fields #[vl,vu,.none] } }:=I3.kept (t':=s3.toks) fun b ob q=>Heap.get?_push_of_some _ q
 obtain ⟨T,id,hT,ht,hg⟩:=hr pins { s3 with heap:=s3.heap.push { cls:=.type "slice",data:=.fields #[vl,vu,.none] } } σ H3 x v vl vu l u s3.heap.objs.size Q I4 r1 (Heap.IsSliceOf.new ..) pl pu q3
 show wpAny (model X.prog X.w) X.A (subscriptTail e (.Slice lo hi none p2) v (.ref s3.heap.objs.size)) (EP X pins σ Q) X.xe { s3 with heap:=s3.heap.push { cls:=.type "slice",data:=.fields #[vl,vu,.none] } }
 exact tail_any (ops:=[.ref s3.heap.objs.size,v]) ht hT hg (by with_unfolding_all rfl)
def fA (xs:List V) (lo hi:Option Int):List V:=(xs.drop (HT.sIx xs.length 0 lo)).take (HT.sIx xs.length xs.length hi-HT.sIx xs.length 0 lo)
theorem Gh (xs:List V) (lo hi:Option Int):(fA xs lo hi).length<=xs.length:=by
 unfold fA
 rw [List.length_take,List.length_drop]
 omega
end
end L2
namespace L2
open PySem PySem.Spec PyProof.Rows
def ixN (n:Nat) (i:Int):Option Nat:=if 0<=i then (if i<n then some i.toNat else none) else if -(n:Int)<=i then some (i+n).toNat else none
def atI {α:Type} (xs:List α) (i:Int):Option α:=(ixN xs.length i).bind fun j=>xs[j]?
theorem vG {n:Nat} {i:Int} {j:Nat} (h:ixN n i=some j):seqIndex? i n=some j/\j<n /\ -(n:Int)<=i/\i<n:=by
 unfold ixN at h
 by_cases h0:0<=i
 ·rw [if_pos h0] at h
  by_cases h1:i<n
  ·rw [if_pos h1] at h
   have e:i.toNat=j:=Option.some.inj h
   exact ⟨by rw [seqIndex_of h0 h1,e],by omega,by omega,h1⟩
  ·rw [if_neg h1] at h;cases h
 ·rw [if_neg h0] at h
  by_cases h1 : -(n:Int)<=i
  ·rw [if_pos h1] at h
   have e:(i+n).toNat=j:=Option.some.inj h
   exact ⟨by rw [seqIndex_neg (by omega) h1,e],by omega,h1,by omega⟩
  ·rw [if_neg h1] at h;cases h
theorem w6 {α:Type} {xs:List α} {i:Int} {v:α} (h:atI xs i=some v):∃ j,seqIndex? i xs.length=some j/\xs[j]?=some v/\j<xs.length /\ -(xs.length:Int)<=i/\i<xs.length:=by
 unfold atI at h
 cases e:ixN xs.length i with
 | none=>rw [e] at h;cases h
 | some j =>
   rw [e] at h
   obtain ⟨h1,h2,h3,h4⟩:=vG e
   exact ⟨j,h1,h,h2,h3,h4⟩
theorem iu {α:Type} {xs:List α} {j:Nat} {v:α} (h:xs[j]?=some v):atI xs (j:Int)=some v:=by
 have hj:j<xs.length:=(List.getElem?_eq_some_iff.mp h).1
 have e:ixN xs.length (j:Int)=some j:=by
  unfold ixN
  rw [if_pos (by omega),if_pos (by omega)];simp
 unfold atI;rw [e];exact h
theorem qF {α:Type} (xs:List α) (v:α):atI (xs++[v]) (-1)=some v:=by
 have hl:(xs++[v]).length=xs.length+1:=by simp
 have e:ixN (xs++[v]).length (-1)=some xs.length:=by
  unfold ixN
  rw [hl,if_neg (by decide),if_pos (by omega)]
  congr 1
  omega
 unfold atI
 rw [e]
 show (xs++[v])[xs.length]?=some v
 simp
def Hl (b:Expr):Prop:=∀ o i,subscripted b false o i=operate [o,i] (getItem o i)
def IxR (X:Cx) (r:R2):Prop :=
 ∀ (value slice:Expr) (pins:List (Addr×Obj)) (s:Shared) (σ:St) (H:Hp) (x y:V) (v u:Value) (Q:VK),Inv X pins σ H s->RelV x v->RelV y u->r x y H Q ->
   subscripted slice false v u=operate [v,u] (getItem v u)->wpAny (model X.prog X.w) X.A (subscriptTail value slice v u) (EP X pins σ Q) X.xe s
def MtR (X:Cx) (id:String) (r:V->List V->Hp->VK->Prop):Prop :=
 ∀ (pins:List (Addr×Obj)) (s:Shared) (σ:St) (H:Hp) (x:V) (xs:List V) (v:Value) (us:List Value) (Q:VK),Inv X pins σ H s->RelV x v->Vals xs us->r x xs H Q ->
   wpAny (model X.prog X.w) X.A (call (.builtin id) (v::us)) (EP X pins σ Q) X.xe s
section
variable {X:Cx} {a b:Expr} {ta tb:TE} {pos:Pos}
theorem IxR.or {r r':R2} (h:IxR X r) (h':IxR X r'):IxR X (fun x y H Q=>r x y H Q\/r' x y H Q):=by
 intro value slice pins s σ H x y v u Q I rx ry q hs
 rcases q with q | q
 ·exact h value slice pins s σ H x y v u Q I rx ry q hs
 ·exact h' value slice pins s σ H x y v u Q I rx ry q hs
theorem MtR.or {id:String} {r r':V->List V->Hp->VK->Prop} (h:MtR X id r) (h':MtR X id r'):MtR X id (fun x xs H Q=>r x xs H Q\/r' x xs H Q):=by
 intro pins s σ H x xs v us Q I rx rs q
 rcases q with q | q
 ·exact h pins s σ H x xs v us Q I rx rs q
 ·exact h' pins s σ H x xs v us Q I rx rs q
theorem aM {r:R2} (hr:IxR X r) (ha:PE X a ta) (hb:PE X b tb) (hs:Hl b):PE X (.Subscript a b pos) (tOp r ta tb):=by
 intro pins s σ H Q I h
 exact Subscript_ (qs ha hb I h fun v u s2 x y H2 I2 rx ry q=>hr a b pins s2 σ H2 x y v u Q I2 rx ry q (hs _ _))
def tX (K:PySem.W.Frag):R2:=fun x y H Q=>∃ p xs i v,x=.ref p/\y=.int i/\SqL K H p xs/\atI xs i=some v/\Q v H
def tW (K:PySem.W.Frag):R2:=fun x y H Q=>∃ p xs i v,x=.ref p/\y=.int i/\SqT K H p xs/\atI xs i=some v/\Q v H
theorem DX:IxR X (tX X.K):=by
 intro value slice pins s σ H x y v u Q I rx ry h hs
 obtain ⟨p,xs,i,z,rfl,rfl,hq,he,q⟩:=h
 cases rx
 obtain ⟨t,rfl⟩:=ry
 obtain ⟨its,r,pl,hz⟩:=I.list hq
 obtain ⟨j,h1,h2,h3,h4,h5⟩:=w6 he
 obtain ⟨w,ew,rw'⟩:=r.get h2
 have hl:=r.length
 have hn:=jg
 have fin:EP X pins σ Q w s:=⟨z,H,I,rw',q⟩
 by_cases h0:0<=i
 ·have hj:i.toNat=j:=by
   rw [seqIndex_of h0 h5] at h1
   exact Option.some.inj h1
  exact item_listR pl.isList h0 (by omega) (by rw [hj];simpa using ew) fin hs
 ·have hj:(i+(its.toArray.size:Int)).toNat=j:=by
   rw [seqIndex_neg (by omega) h4] at h1
   rw [List.size_toArray,<- hl]
   exact Option.some.inj h1
  exact subscriptTail_builtinR (x:=w) pl.isList.typeIs slot_list_getitem.lookup
   (wpAny_getItem_list_neg (Q:=fun r s'=>r=w/\EP X pins σ Q r s') pl.isList (by omega) (by rw [List.size_toArray]<;>omega) (by omega) (by rw [hj];simpa using ew) ⟨rfl,fin⟩) hs
theorem DW:IxR X (tW X.K):=by
 intro value slice pins s σ H x y v u Q I rx ry h hs
 obtain ⟨p,xs,i,z,rfl,rfl,hq,he,q⟩:=h
 cases rx
 obtain ⟨t,rfl⟩:=ry
 obtain ⟨its,r,pl,hz⟩:=I.tuple hq
 obtain ⟨j,h1,h2,h3,h4,h5⟩:=w6 he
 obtain ⟨w,ew,rw'⟩:=r.get h2
 have hl:=r.length
 have hn:=jg
 have fin:EP X pins σ Q w s:=⟨z,H,I,rw',q⟩
 exact subscriptTail_builtinR (x:=w) pl.typeIs slot_tuple_getitem.lookup
  (getItem_tuple (j:=j) (Q:=fun r s'=>r=w/\EP X pins σ Q r s') pl (by omega) (by omega) (by rw [List.size_toArray,<- hl];exact h1) (by simpa using ew) ⟨rfl,fin⟩) hs
theorem Cq (its:List Value) (n j:Nat) (u:Value):Obj.mapSeq (·.setIfInBounds j u) { cls:=.type "list",data:=.seq its.toArray n }={ cls:=.type "list",data:=.seq (its.set j u).toArray n }:=by
 simp [Obj.mapSeq]
theorem Inv.lst {pins:List (Addr×Obj)} {σ:St} {H:Hp} {s:Shared} {p:Addr} {xs:List V} (I:Inv X pins σ H s) (h:H p=some (.lst xs)) :
 ∃ (its:List Value) (n:Nat),Vals xs its/\s.heap.get? p=some { cls:=.type "list",data:=.seq its.toArray n }/\xs.length<=sizeLine:=by
 obtain ⟨z,its,n,r,e⟩:=I.hok p _ h
 exact ⟨its,n,r,e,z⟩
theorem Inv.lstUpd {pins:List (Addr×Obj)} {σ:St} {H:Hp} {s:Shared} {p:Addr} {xs ys:List V} {its its':List Value} {n n':Nat} {f:Obj->Obj} (I:Inv X pins σ H s) (h:H p=some (.lst xs))
 (ho:s.heap.get? p=some { cls:=.type "list",data:=.seq its.toArray n }) (hf:f { cls:=.type "list",data:=.seq its.toArray n }={ cls:=.type "list",data:=.seq its'.toArray n' }) (r:Vals ys its') (hz:ys.length<=sizeLine) (t:Nat) :
 Inv X pins σ (upd H p (.lst ys)) { s with heap:=s.heap.update p f,toks:=t }:=by
 have e:(s.heap.update p f).get? p=some { cls:=.type "list",data:=.seq its'.toArray n' }:=by
  rw [Heap.get?_update_self f ho (by rw [hf]<;>rfl),hf]
 refine I.write (x:=p) (e:=p) (by rw [h];trivial) (.inl rfl) (fun b u hb q=>(Heap.get?_update_other _ _ (Ne.symm hb)).trans q) ⟨_,e⟩ ?_
 exact ⟨hz,its',n',r,e⟩
def zS:V->V->V->Hp->(Hp->Prop)->Prop:=fun o i v H Q=>∃ p xs k j,o=.ref p/\i=.int k/\H p=some (.lst xs)/\ixN xs.length k=some j/\Q (upd H p (.lst (xs.set j v)))
theorem iR:xh X zS:=by
 intro pins s σ H o i v ov iv u Q I ro ri rv h
 obtain ⟨p,xs,k,j,rfl,rfl,hp,hj,q⟩:=h
 cases ro
 obtain ⟨t,rfl⟩:=ri
 obtain ⟨its,n,r,ho,hz⟩:=I.lst hp
 obtain ⟨h1,h2,h3,h4⟩:=vG hj
 have hl:=r.length
 have hn:=jg
 have I':Inv X pins σ (upd H p (.lst (xs.set j v))) { s with heap:=s.heap.update p (Obj.mapSeq (·.setIfInBounds j u)) } :=
  I.lstUpd hp ho (Cq its n j u) (r.set rv j) (by rw [List.length_set];exact hz) s.toks
 by_cases h0:0<=k
 ·have hk:k.toNat=j:=by
   rw [seqIndex_of h0 h4] at h1
   exact Option.some.inj h1
  exact PySem.W.ki_setAt ho h0 (by omega) (by rw [List.size_toArray,<- hl];exact h4) (by rw [hk];exact ⟨_,I',q⟩)
 ·have hk:(k+(its.toArray.size:Int)).toNat=j:=by
   rw [seqIndex_neg (by omega) h3] at h1
   rw [List.size_toArray,<- hl]
   exact Option.some.inj h1
  exact PySem.W.ki_setBack ho (by omega) (by rw [List.size_toArray,<- hl];exact h3) (by omega) (by rw [hk];exact ⟨_,I',q⟩)
theorem yw (lo hi:Option Int) (n:Nat):(sliceBounds lo hi none n).1=((HT.sIx n 0 lo:Nat):Int)/\(sliceBounds lo hi none n).2.1=((HT.sIx n n hi:Nat):Int)/\(sliceBounds lo hi none n).2.2=1:=by
 refine ⟨?_,?_,rfl⟩
 ·cases lo with
  | none=>simp [sliceBounds,HT.sIx]
  | some i =>
    simp only [sliceBounds,HT.sIx,Option.getD_none,show (1:Int)>0 by decide,if_true]
    by_cases h:i<0
    ·simp only [h,if_true]<;>omega
    ·simp only [h,if_false]<;>omega
 ·cases hi with
  | none=>simp [sliceBounds,HT.sIx]
  | some i =>
    simp only [sliceBounds,HT.sIx,Option.getD_none,show (1:Int)>0 by decide,if_true]
    by_cases h:i<0
    ·simp only [h,if_true]<;>omega
    ·simp only [h,if_false]<;>omega
theorem yx (its:List Value) (lo hi:Option Int):slicePick its.toArray lo hi none=((its.drop (HT.sIx its.length 0 lo)).take (HT.sIx its.length its.length hi-HT.sIx its.length 0 lo)).toArray:=by
 obtain ⟨h1,h2,h3⟩:=yw lo hi its.toArray.size
 unfold slicePick
 rw [h1,h2,h3]
 simp only [sliceRange_one,pick_run,List.size_toArray]<;>rfl
def ot (K:PySem.W.Frag):V->Option Int->Option Int->Hp->VK->Prop:=fun x lo hi H Q=>∃ a xs,x=.ref a/\SqL K H a xs/\∀ p,H p=none->Q (.ref p) (upd H p (.lst (fA xs lo hi)))
theorem yy:SlR X (ot X.K):=by
 intro pins s σ H x v vl vu lo hi sl Q I rx hs pl pu h
 obtain ⟨a,xs,rfl,hx,q⟩:=h
 cases rx
 obtain ⟨its,r,ht,hz⟩:=I.list hx
 have hlen:=r.length
 refine ⟨"list",_,slot_list_getitem.lookup,ht.isList.typeIs,?_⟩
 refine wpAny_getItem_list_slice ht.isList hs pl pu .none (by simp) ?_ (by rw [List.size_toArray]<;>omega)
 rw [yx,<- hlen]
 refine ⟨.ref s.heap.objs.size,_,I.laid (t':=s.toks) (o:=.lst (fA xs lo hi)) (fun b ob q=>Heap.get?_push_of_some _ q) (Nat.le_refl _) ?_,rfl,q _ (I.hok.fresh (Nat.le_refl _))⟩
 exact ⟨Nat.le_trans (Gh xs lo hi) hz,_,0,(r.drop (HT.sIx xs.length 0 lo)).take (HT.sIx xs.length xs.length hi-HT.sIx xs.length 0 lo),Heap.get?_push_size _ rfl⟩
theorem Gv:CallR X (.builtin "len") (fun xs H Q=>∃ p ys,xs=[.ref p]/\(SqL X.K H p ys\/SqT X.K H p ys)/\Q (.int ys.length) H):=by
 intro pins s σ H xs us Q I r h
 obtain ⟨p,ys,rfl,hq,q⟩:=h
 obtain ⟨u,rfl,rx⟩:=eQ r
 cases rx
 have hn:=jg
 rcases hq with hq | hq
 ·obtain ⟨its,r',pl,hz⟩:=I.list hq
  have hlen:=r'.length
  exact Calls.call_len_list pl.isList (by simp only [List.size_toArray]<;>omega) ⟨.int ys.length,H,I.tok _,⟨s.toks+1,by rw [List.size_toArray,hlen]⟩,q⟩
 ·obtain ⟨its,r',pl,hz⟩:=I.tuple hq
  have hlen:=r'.length
  exact len_tuple pl (by simp only [List.size_toArray]<;>omega) ⟨.int ys.length,H,I.tok _,⟨s.toks+1,by rw [List.size_toArray,hlen]⟩,q⟩
theorem CallR.or {f:Value} {r r':List V->Hp->VK->Prop} (h:CallR X f r) (h':CallR X f r'):CallR X f (fun xs H Q=>r xs H Q\/r' xs H Q):=by
 intro pins s σ H xs us Q I rs q
 rcases q with q | q
 ·exact h pins s σ H xs us Q I rs q
 ·exact h' pins s σ H xs us Q I rs q
theorem Gu:CallR X (.type "list") (fun xs H Q=>∃ p ys,xs=[.ref p]/\(SqL X.K H p ys\/SqT X.K H p ys)/\∀ l,H l=none->Q (.ref l) (upd H l (.lst ys))):=by
 intro pins s σ H xs us Q I r h
 obtain ⟨p,ys,rfl,hq,q⟩:=h
 obtain ⟨u,rfl,rx⟩:=eQ r
 cases rx
 have fin:∀ (its:List Value),Vals ys its->ys.length<=sizeLine->∀ (h':Heap) (c':Nat),(∀ b o',s.heap.get? b=some o'->h'.get? b=some o') ->
  h'.get? s.heap.objs.size=some { cls:=.type "list",dict:=none,data:=.seq its.toArray c',slots:=#[] }->EP X pins σ Q (.ref s.heap.objs.size) { s with heap:=h' }:=fun its r' hz h' c' kp e =>
  ⟨.ref s.heap.objs.size,_,I.laid (t':=s.toks) kp (Nat.le_refl _) (show ObjOk X.prog X.w _ h' _ (.lst ys) from ⟨hz,its,c',r',e⟩),rfl,q _ (I.hok.fresh (Nat.le_refl _))⟩
 rcases hq with hq | hq
 ·obtain ⟨its,r',pl,hz⟩:=I.list hq
  have hlen:=r'.length
  obtain ⟨o,ho,hc,n,hd⟩:=pl.isList
  exact call_list_seq p (.inl rfl) ho hc hd (fun h' c' kp e=>fin its r' hz h' c' kp e) (by simp only [List.size_toArray]<;>omega)
 ·obtain ⟨its,r',pl,hz⟩:=I.tuple hq
  have hlen:=r'.length
  obtain ⟨o,ho,hc,n,hd⟩:=pl
  exact call_list_seq p (.inr rfl) ho hc hd (fun h' c' kp e=>fin its r' hz h' c' kp e) (by simp only [List.size_toArray]<;>omega)
def tyV (K:PySem.W.Frag) (T:String) (x:V) (H:Hp):Prop:=match x with
 | .str _=>T="str"
 | .int _=>T="int"
 | .ref p=>(T="list"/\∃ xs,SqL K H p xs)\/(T="tuple"/\∃ o,K.lookup p=some o/\o.cls=.type "tuple"/\o.dict=none) \/
  (T="dict"/\((∃ kvs,H p=some (.dK kvs))\/∃ kvs,H p=some (.dT kvs)))\/(T="set"/\∃ S n,H p=some (.set S n))
 | _=>False
theorem rf {pins:List (Addr×Obj)} {σ:St} {H:Hp} {s:Shared} {T:String} {x:V} {v:Value} (I:Inv X pins σ H s) (r:RelV x v) (ty:tyV X.K T x H) :
 s.TypeIs v T/\∀ a,v=.ref a->∃ ob,s.heap.get? a=some ob/\ob.dict=none:=by
 cases x with
 | str z =>
   obtain ⟨t,rfl⟩:=r
   cases (show T="str" from ty)
   exact ⟨typeIs_str s z t,fun _ e=>nomatch e⟩
 | int i =>
   obtain ⟨t,rfl⟩:=r
   cases (show T="int" from ty)
   exact ⟨typeIs_int s i t,fun _ e=>nomatch e⟩
 | ref p =>
   cases r
   rcases ty with ⟨rfl,xs,hq⟩ | ⟨rfl,o,hk,hc,hd⟩ | ⟨rfl,hk⟩ | ⟨rfl,S,n,hk⟩
   ·obtain ⟨its,_,pl,_⟩:=I.list hq
    refine ⟨pl.isList.typeIs,fun a e=>?_⟩
    cases e
    obtain ⟨o,n,e,c,hd,_⟩:=pl
    exact ⟨o,e,hd⟩
   ·refine ⟨⟨o,I.kIn p o hk,hc⟩,fun a e=>?_⟩
    cases e
    exact ⟨o,I.kIn _ o hk,hd⟩
   ·have z:∃ o,s.heap.get? p=some o/\o.ExactDict:=by
     rcases hk with ⟨kvs,hk⟩ | ⟨kvs,hk⟩
     ·obtain ⟨_,_,_,_,o,_,_,e,ex,_⟩:=I.hok p _ hk
      exact ⟨o,e,ex⟩
     ·obtain ⟨_,_,_,_,o,_,_,e,ex,_⟩:=I.hok p _ hk
      exact ⟨o,e,ex⟩
    obtain ⟨o,e,ex⟩:=z
    refine ⟨⟨o,e,ex.1⟩,fun a e2=>?_⟩
    cases e2
    exact ⟨o,e,ex.2.1⟩
   ·obtain ⟨o,_,_,_,e,ex,_⟩:=I.hok p _ hk
    refine ⟨⟨o,e,ex.1⟩,fun a e2=>?_⟩
    cases e2
    exact ⟨o,e,ex.2.1⟩
 | _=>exact False.elim ty
def yf (K:PySem.W.Frag) (T:String) (r:V->List V->Hp->VK->Prop) (to:TE):TE:=fun σ H Q=>to σ H fun x H1=>tyV K T x H1/\r x [] H1 Q
def tBM (K:PySem.W.Frag) (T:String) (r:V->List V->Hp->VK->Prop) (to:TE) (t:TA):TE:=fun σ H Q=>to σ H fun x H1=>tyV K T x H1/\t σ H1 fun xs H2=>r x xs H2 Q
variable {o e:Expr} {es:List Expr} {to:TE} {t:TA} {name:Str} {apos cpos:Pos} {T id:String} {r:V->List V->Hp->VK->Prop}
theorem uo (pa:PlainAttrs T) (slot:Slot T name id) (hty:typeOf (.builtin id)=pure (.type "method_descriptor")) (hm:MtR X id r) (ho:PE X o to)
 (hbase:attributeBase o name X.env (eval o X.env)=eval o X.env:=by rfl) (hline:(apos.endLine == cpos.line)=true:=by rfl):PE X (.Call (.Attribute o name apos) [] [] cpos) (yf X.K T r to):=by
 intro pins s σ H Q I h
 refine wpAny_Call_method0_late hbase hline (thn (ho pins s σ H _ I h) fun v s1 ⟨x,H1,I1,r1,ty,q1⟩=>?_)
 obtain ⟨h1,h2⟩:=rf I1 r1 ty
 exact ⟨T,id,pa,slot,hty,h1,h2,Calls.callWith_builtin rfl (PySem.evalArgs_none (hm pins s1 σ H1 x [] v [] Q I1 r1 .nil q1))⟩
theorem kE (pa:PlainAttrs T) (slot:Slot T name id) (hty:typeOf (.builtin id)=pure (.type "method_descriptor")) (hm:MtR X id r) (ho:PE X o to) (ha:PA X (e::es) t)
 (hbase:attributeBase o name X.env (eval o X.env)=eval o X.env:=by rfl)
 (hfew:((backTo cpos (starEach (e::es) X.env)).all (fun x=>!x.1)&&(backToKw cpos (keywordEach [] X.env)).all (fun x=>x.1.isSome)
   && decide ((e::es).length+([]:List Keyword).length+(if ([]:List Keyword).isEmpty then 0 else 1)<30))=true:=by rfl)
 (hline:(apos.endLine == cpos.line)=true:=by rfl) (hs:starEach (e::es) X.env=(false,eval e X.env)::starEach es X.env:=by rfl) (hplain:(backTo cpos (starEach es X.env)).any (·.1)=false:=by rfl) :
 PE X (.Call (.Attribute o name apos) (e::es) [] cpos) (tBM X.K T r to t):=by
 intro pins s σ H Q I h
 refine wpAny_Call_method_late hbase hfew hline rfl (thn (ho pins s σ H _ I h) fun v s1 ⟨x,H1,I1,r1,ty,q1⟩=>?_)
 obtain ⟨h1,h2⟩:=rf I1 r1 ty
 refine ⟨T,id,pa,slot,hty,h1,h2,?_⟩
 have hA:=ha cpos pins s1 σ H1 _ I1 q1
 rw [hs] at hA ⊢
 refine Calls.callWith_builtin (by show (false || (backTo cpos (starEach es X.env)).any (·.1))=false;rw [hplain]<;>rfl) (Calls.evalArgs_plain ?_)
 exact thn hA fun us s2 ⟨vs,H2,I2,r2,q2⟩=>hm pins s2 σ H2 x vs v us Q I2 r1 r2 q2
end
end L2
namespace L2
open PySem PySem.Spec PyProof.Rows
def MtM (X:Cx) (id:String) (r:V->List V->Hp->VK->Prop):Prop :=
 ∀ (pins:List (Addr×Obj)) (s:Shared) (σ:St) (H:Hp) (x:V) (xs:List V) (v:Value) (us:List Value) (Q:VK),Inv X pins σ H s->RelV x v->Vals xs us->r x xs H Q ->
   wpAny (model X.prog X.w) X.A (call (.builtin id) (v::us)) (EP X pins σ Q) X.xe s
theorem Vals.one:∀ {x:V} {us:List Value},Vals [x] us->∃ u,us=[u]/\RelV x u
 | _,_,.cons r .nil=>⟨_,rfl,r⟩
theorem Vals.two:∀ {x y:V} {us:List Value},Vals [x,y] us->∃ u v,us=[u,v]/\RelV x u/\RelV y v
 | _,_,_,.cons r (.cons q .nil)=>⟨_,_,rfl,r,q⟩
theorem Vals.zero:∀ {us:List Value},Vals [] us->us=[]
 | _,.nil=>rfl
theorem Vals.dropLast {xs:List V} {us:List Value} (h:Vals xs us):Vals xs.dropLast us.dropLast:=by
 induction h with
 | nil=>exact .nil
 | cons r t ih =>
   cases t with
   | nil=>exact .nil
   | cons q t'=>exact .cons r ih
theorem Vals.eraseIdx:∀ {xs:List V} {us:List Value} (i:Nat),Vals xs us->Vals (xs.eraseIdx i) (us.eraseIdx i)
 | _,_,_,.nil=>.nil
 | _,_,0,.cons _ t=>t
 | _,_,i+1,.cons r t=>.cons r (Vals.eraseIdx i t)
theorem Vals.reverse {xs:List V} {us:List Value} (h:Vals xs us):Vals xs.reverse us.reverse:=by
 induction h with
 | nil=>exact .nil
 | cons r t ih=>rw [List.reverse_cons,List.reverse_cons];exact Vals.append ih (.cons r .nil)
theorem Vals.rep {xs:List V} {us:List Value} (h:Vals xs us):∀ k:Nat,Vals (List.replicate k xs).flatten (List.replicate k us).flatten
 | 0=>.nil
 | k+1=>by
   rw [List.replicate_succ,List.replicate_succ,List.flatten_cons,List.flatten_cons]
   exact Vals.append h (Vals.rep h k)
theorem FY {α:Type} (l:List α):l.eraseIdx (l.length-1)=l.dropLast:=by
 induction l with
 | nil=>rfl
 | cons a r ih =>
   cases r with
   | nil=>rfl
   | cons b r =>
     have e:(a::b::r).length-1=((b::r).length-1)+1:=by
      have h1:(a::b::r).length=r.length+2:=rfl
      have h2:(b::r).length=r.length+1:=rfl
      omega
     rw [e,List.eraseIdx_cons_succ,ih]
     all_goals rfl
theorem wb (its:List Value):∀ (k:Nat) (acc:List Value),
 List.foldl (fun x1 x2=>x1++x2) acc.toArray (List.replicate k its.toArray)=(acc++(List.replicate k its).flatten).toArray
 | 0,acc=>by simp
 | k+1,acc=>by
   have e:acc.toArray++its.toArray=(acc++its).toArray:=by simp
   have e2:(acc++its)++(List.replicate k its).flatten=acc++(List.replicate (k+1) its).flatten:=by
    rw [List.replicate_succ,List.flatten_cons,List.append_assoc]
   rw [<- e2,<- wb its k (acc++its),<- e,List.replicate_succ,List.foldl_cons]
section
variable {X:Cx} {pins:List (Addr×Obj)} {σ:St} {H:Hp} {s:Shared} {l b:Addr} {xs ys zs:List V}
theorem Inv.lset {its its':List Value} {n:Nat} {f:Array Value->Array Value} {t':Nat} (I:Inv X pins σ H s) (hH:H l=some (.lst xs))
 (e:s.heap.get? l=some { cls:=.type "list",data:=.seq its.toArray n }) (hf:f its.toArray=its'.toArray) (hv:Vals ys its') (hz:ys.length<=sizeLine) :
 Inv X pins σ (upd H l (.lst ys)) { s with heap:=s.heap.update l (Obj.mapSeq f),toks:=t' }:=by
 have q:=PySem.IsL.update e f
 rw [hf] at q
 refine I.write (x:=l) (e:=l) (by rw [hH];exact trivial) (.inl rfl) (fun b' u hb hu=>(Heap.get?_update_other s.heap (Obj.mapSeq f) (Ne.symm hb)).trans hu) ⟨_,q⟩ ?_
 exact ⟨hz,its',_,hv,q⟩
theorem Inv.lnew {its:List Value} {t':Nat} (I:Inv X pins σ H s) (hv:Vals ys its) (hz:ys.length<=sizeLine) :
 Inv X pins σ (upd H s.heap.objs.size (.lst ys)) { s with heap:=s.heap.push { cls:=.type "list",data:=.seq its.toArray },toks:=t' } :=
 I.laid (fun _ _ q=>Heap.get?_push_of_some _ q) (Nat.le_refl _) ⟨hz,its,0,hv,Heap.get?_push_size _ rfl⟩
theorem Inv.fresh (I:Inv X pins σ H s):H s.heap.objs.size=none:=I.hok.fresh (Nat.le_refl _)
theorem Inv.lstM (I:Inv X pins σ H s) (hH:H l=some (.lst xs)):xs.length<=sizeLine/\∃ (its:List Value) (n:Nat),Vals xs its/\xs.length=its.length/\s.heap.get? l=some { cls:=.type "list",data:=.seq its.toArray n }:=by
 obtain ⟨z,its,n,r,e⟩:=I.hok l _ hH
 exact ⟨z,its,n,r,r.length,e⟩
theorem BZ {n:Nat} (h:n<=sizeLine):Builtin.List.listTooLong n=false:=by
 unfold Builtin.List.listTooLong
 exact decide_eq_false (by omega)
end
section
variable {X:Cx}
def zZ:V->List V->Hp->VK->Prop:=fun x vs H Q=>∃ l xs y,x=.ref l/\vs=[y]/\H l=some (.lst xs)/\xs.length<sizeLine/\Q .non (upd H l (.lst (xs++[y])))
theorem kN:MtM X "list.append" zZ:=by
 intro pins s σ H x vs v us Q I rx rv h
 obtain ⟨l,xs,y,rfl,rfl,hH,hz,q⟩:=h
 cases rx
 obtain ⟨u,rfl,ru⟩:=rv.one
 obtain ⟨z,its,n,r,hl,e⟩:=I.lstM hH
 refine call_meets F.slot_list_append ⟨_,e,rfl⟩ F.entry_list_append (F.args_list_append_2 _ _) (PySem.list_append l its.toArray n u (by rw [List.size_toArray];omega)) ⟨e,?_⟩
 refine ⟨.non,_,I.lset (its':=its++[u]) hH e (by simp) (r.append (.cons ru .nil)) ?_,rfl,q⟩
 rw [List.length_append,List.length_singleton]
 omega
def zV:V->List V->Hp->VK->Prop:=fun x vs H Q=>∃ l xs y,x=.ref l/\vs=[]/\H l=some (.lst xs)/\xs[xs.length-1]?=some y/\Q y (upd H l (.lst xs.dropLast))
theorem Ce:MtM X "list.pop" zV:=by
 intro pins s σ H x vs v us Q I rx rv h
 obtain ⟨l,xs,y,rfl,rfl,hH,hy,q⟩:=h
 cases rx
 have hus:=rv.zero
 subst hus
 obtain ⟨z,its,n,r,hl,e⟩:=I.lstM hH
 obtain ⟨u,hu,ru⟩:=r.get hy
 have hy':its.toArray[its.toArray.size-1]?=some u:=by
  show its.toArray[its.length-1]?=some u
  rw [<- Array.getElem?_toList,<- hl]
  exact hu
 refine call_meets F.slot_list_pop ⟨_,e,rfl⟩ F.entry_list_pop (F.args_list_pop_1 _) (MeetsSeq.list_pop_last l its.toArray n u hy' (by rw [List.size_toArray];omega)) ⟨e,?_⟩
 refine ⟨y,_,I.lset (its':=its.dropLast) hH e ?_ r.dropLast ?_,ru,q⟩
 ·show its.toArray.eraseIdxIfInBounds (its.toArray.size-1)=its.dropLast.toArray
  rw [List.size_toArray,List.eraseIdxIfInBounds_toArray,FY]
 ·rw [List.length_dropLast]
  omega
def zT:V->List V->Hp->VK->Prop:=fun x vs H Q=>∃ l xs,x=.ref l/\vs=[]/\H l=some (.lst xs)/\Q .non (upd H l (.lst xs.reverse))
theorem Cd:MtM X "list.reverse" zT:=by
 intro pins s σ H x vs v us Q I rx rv h
 obtain ⟨l,xs,rfl,rfl,hH,q⟩:=h
 cases rx
 have hus:=rv.zero
 subst hus
 obtain ⟨z,its,n,r,hl,e⟩:=I.lstM hH
 refine call_meets F.slot_list_reverse ⟨_,e,rfl⟩ F.entry_list_reverse (F.args_list_reverse_1 _) (AutoSeq1.list_reverse_list_0 l its.toArray n (by rw [List.size_toArray];omega)) ⟨e,?_⟩
 refine ⟨.non,_,I.lset (its':=its.reverse) hH e (by simp) r.reverse ?_,rfl,q⟩
 rw [List.length_reverse]
 omega
def zU:R2:=fun x y H Q=>∃ l k xs,x=.ref l/\y=.int k/\H l=some (.lst xs) /\ -(2^63)<=k/\k<2^63/\xs.length*k.toNat<=sizeLine /\
 ∀ p,H p=none->Q (.ref p) (upd H p (.lst (List.replicate k.toNat xs).flatten))
theorem Di {α:Type} (xs:List α) (k:Nat):(List.replicate k xs).flatten.length=k*xs.length:=by
 induction k with
 | zero=>simp
 | succ k ih=>rw [List.replicate_succ,List.flatten_cons,List.length_append,ih,Nat.succ_mul,Nat.add_comm]
theorem oJ:OpR X (binaryOp .Mult) zU:=by
 intro pins s σ H x y v u Q I rx ry h
 obtain ⟨l,k,xs,rfl,rfl,hH,h1,h2,hz,q⟩:=h
 cases rx
 obtain ⟨t,rfl⟩:=ry
 obtain ⟨z,its,n,r,hl,e⟩:=I.lstM hH
 have hlen:its.toArray.size*k.toNat<=sizeLine:=by rw [List.size_toArray,<- hl];exact hz
 have hcap:¬ its.toArray.size*k.toNat>(2^63-1)/8:=by
  have:(sizeLine:Nat)<=(2^63-1)/8:=by decide
  omega
 have hfit:¬ (!Builtin.List.listFitsIndex k)=true:=by
  rw [fitsIndex_both h1 h2]
  exact Bool.false_ne_true
 have hlong:¬ Builtin.List.listTooLong (its.toArray.size*k.toNat)=true:=by
  rw [BZ hlen]
  exact Bool.false_ne_true
 have hnew:List.foldl (fun x1 x2=>x1++x2) #[] (List.replicate (if its.toArray.isEmpty=true then 0 else k.toNat) its.toArray)=(List.replicate k.toNat its).flatten.toArray:=by
  have f0:∀ m:Nat,List.foldl (fun x1 x2=>x1++x2) #[] (List.replicate m its.toArray)=(List.replicate m its).flatten.toArray:=fun m=>by
   have:=wb its m []
   rw [List.nil_append] at this
   exact this
  rw [f0]
  cases its with
  | nil=>simp
  | cons a r'=>rw [if_neg (by simp)]
 refine wpAny_binaryOp_repeat_ref (T:="list") (U:="int") (by decide) ⟨_,e,rfl⟩ (fun s'=>typeIs_int s' k t) noFill_list_mul F.fills_int_mul F.slot_int_rmul repeat_list F.slot_int_index.lookup
  (call_meets F.slot_int_rmul (typeIs_int s k t) F.entry_int_rmul (F.args_int_rmul_2 _ _) (int___rmul___int_list k t l its.toArray n)
    ⟨e,rfl,⟨_,e,rfl⟩,call_meets F.slot_list_mul ⟨_,e,rfl⟩ F.entry_list_mul (F.args_list_mul_2 _ _) (AutoListH.list___mul___list_int_3 l its.toArray n k t hfit hcap hlong) ⟨e,?_⟩⟩)
 rw [hnew]
 exact ⟨.ref _,_,I.lnew (t':=s.toks) (r.rep k.toNat) (by rw [Di,Nat.mul_comm];exact hz),rfl,q _ I.fresh⟩
end
section
variable {prog:Program} {w:World} {A:Around} {E:Value->Shared->Prop} {s:Shared}
end
section
variable {X:Cx}
end
end L2
namespace Att
open PySem PySem.W PySem.Calls PyProof.Rows
theorem D1 {P:Params} {h:Heap}:∀ (ns:List Int) (vs:List Value),WellAll P h vs (ns.map WData.int)->IntsAre vs ns:=by
 intro ns
 induction ns with
 | nil =>
   intro vs w
   rw [List.map_nil] at w
   cases w
   exact .nil
 | cons n ns ih =>
   intro vs w
   rw [List.map_cons] at w
   cases w with
   | cons a b =>
     cases a
     exact .cons _ _ (ih _ b)
theorem yP {l:OpenLaw} {n:Nat} (hn:l.most=some n) {P:Params} {h:Heap} {args:List WData} {vals:List Value}
 (hpre:l.row.toRowW.claim.pre args=true) (hwl:WellAll P h vals args) :
 ∃ a vs ns,vals=[Value.ref a]/\args=[WData.list (ns.map WData.int)]/\h.get? a=some { cls:=.type "list",data:=.seq vs.toArray }/\IntsAre vs ns/\ns.length<=n:=by
 have hsh:WShape.hasAll [] args [.list .int]=true:=(pre_splitW hpre).1
 have hc:l.pre.holds [] { args:=args }=true:=(pre_splitW hpre).2
 obtain ⟨d,r,rfl,h1,h2⟩:=hasAllW_cons hsh
 obtain rfl:=hasAllW_nil h2
 obtain ⟨xs,rfl,h3⟩:=hasW_list h1
 obtain ⟨ns,rfl⟩:=items_int h3
 have hlen:ns.length<=n:=by
  unfold OpenLaw.pre at hc
  have h4:(WTm.not (.lt (.lit (.int (n:Int))) (.len (.arg 0)))).holds [] { args:=[.list (ns.map .int)] }=true:=by
   have h4:=(holds_andW hc).1
   rw [hn] at h4
   exact h4
  have h5:=condW_of h4 (w_not (w_lt w_lit (w_len_list (w_arg rfl))))
  rw [List.length_map] at h5
  refine Nat.le_of_not_lt fun q=>?_
  have q':(n:Int)<((ns.length:Nat):Int):=by omega
  first
   | (rw [decide_eq_true q'] at h5;exact absurd h5 (by decide))
   | (simp at h5;omega)
 cases hwl with
 | cons w1 w2 =>
   cases w2
   cases w1 with
   | list ho hall=>exact ⟨_,_,ns,rfl,rfl,ho,D1 ns _ hall,hlen⟩
theorem Ak (l:OpenLaw) (args:List WData):l.row.toRowW.claim.post args (.bool true) args=true :=
 postW_of (r:=l.row.toRowW) (X:=(true == true))
  (show WShape.has [] (.bool true) .bool=true by first | rfl | decide | simp [WShape.has,WShape.arms,WShape.armsAll])
  (show (WTm.eq .res (.lit (.bool true))).value [] { args:=args,res:=some (.bool true),after:=args }=some (.bool (true == true)) from w_eq_bool (w_res rfl) w_lit) rfl
theorem attach_call {l:OpenLaw} {n:Nat} {q:Program} {loose:List Str} {XP:(Str->Option Value)->Heap->Prop} {YP:World->Heap->Prop} {d:DefRec}
 (hn:l.most=some n) (hdf:d.params.defaults=[])
 (call:∀ (w:World) (s₀ s₁:Shared) (mg mb:Str->Option Value) (fa:Addr) (o:Obj) (pm cd doc:Value) (a:Addr) (vs:List Value) (ns:List Int),
   Ground q loose [] XP w s₀ mg mb s₁.heap->YP w s₁.heap ->
   s₁.heap.get? fa=some o->o.data=.func (docDef d.name d.params d.body d.scope pm cd doc)->s₁.heap.CodeRec cd d.name->mg d.name=some (.ref fa) ->
   s₁.heap.get? a=some { cls:=.type "list",data:=.seq vs.toArray }->IntsAre vs ns->ns.length<=n->s₁.gens=#[] ->
   codeAny (model l.prog w) callerA (.call (.ref fa) ⟨[.ref a],[]⟩) (fun r s'=>r=.ok (.ret (.bool true))/\OldK s₁.heap s'.heap/\s'.os=s₁.os/\AllBare s'.gens) s₁) :
 WalkO q loose XP YP l.row.toRowW d [] (fun f vs=>PySem.call f vs):=by
 intro w s₀ s₁ mg mb G Y fa o pm cd doc dV kV ho hd hcd hD hmg hg args vals as hpre hlay hrd hwl hlo
 obtain rfl:dV=.none:=Dflts.none hD hdf
 obtain rfl:kV=.none:=Dflts.noKw hD
 obtain ⟨a,vs,ns,rfl,rfl,hobj,hints,hlen⟩:=yP hn hpre hwl
 refine enter_call (codeAny_mono (call w s₀ s₁ mg mb fa o pm cd doc a vs ns G Y ho (fd_plain hd) hcd hmg hobj hints hlen hg) fun r s' hq=>?_)
 obtain ⟨rfl,h2,h3,h4⟩:=hq
 exact ⟨.inl ⟨.bool true,.bool true,[],rfl,fun _=>rfl,.bool true,Ak l _,fun _=>⟨List.Pairwise.nil,fun _ hm=>(nomatch hm)⟩⟩,h2,h3,h4⟩
section
variable {prog:Program} {w:World} {A:Around} {E:Value->Shared->Prop} {s:Shared} {K:Frag}
end
end Att
namespace L2
open PySem PySem.Spec PyProof.Rows
theorem rc:∀ {vs:List Value} {ns:List Int},IntsAre vs ns->Vals (ns.map V.int) vs
 | _,_,.nil=>.nil
 | _,_,.cons n t h=>.cons ⟨t,rfl⟩ (rc h)
def qI (H:Hp):Prop:=∀ b,H b=none\/∃ o xs,H b=some (.frz o (.lst xs))
end L2
namespace L2
open PySem PySem.Spec PyProof.Rows
end L2
namespace L2
open PySem PySem.Spec PyProof.Rows
def gd (s:Stmt) (j:Nat):Stmt:=match s with
 | .ClassDef _ _ _ body _ _ _ _ _ _ _=>body.getD j (.Pass ⟨0,0,0,0⟩)
 | _=>.Pass ⟨0,0,0,0⟩
def cQ (s:Stmt):Arguments:=match s with
 | .FunctionDef _ a _ _ _ _ _ _ _ _=>a
 | _=>{ posonlyargs:=[],args:=[],vararg:=none,kwonlyargs:=[],kw_defaults:=[],kwarg:=none,defaults:=[] }
def cG (s:Stmt):List Stmt:=match s with
 | .FunctionDef _ _ b _ _ _ _ _ _ _=>b
 | _=>[]
def aq (s:Stmt):Scope:=match s with
 | .FunctionDef _ _ _ _ _ _ sc _ _ _=>sc
 | _=>{ kind:=.function,names:=[],isGenerator:=false,isCoroutine:=false }
abbrev CX0:CXT:=fun _ _ _ _ _ _=>False
abbrev E0:XK:=fun _ _ _=>False
theorem ah {X:Cx}:gJ CX0 X E0:=fun _ _ _ _ _ _ _ h=>h.elim
structure Fun (K:PySem.W.Frag) (x qual:Str) (st:Stmt) (f:Addr) (fd:FuncData):Prop where
 ex:∃ (oc:Value) (od:Option Addr) (kV doc pm:Value) (an:Option Addr) (cdv ct:Value) (osl:Array (Option Value)),
  fd=PySem.W.fnOf x qual (cQ st) (cG st) (aq st) .none kV doc pm an cdv ct/\K.lookup f=some ⟨oc,od,.func fd,osl⟩/\PySem.W.codeIn K cdv qual=true
 kp:PySem.W.keepIn K (.ref f)=true
section
variable {P:Program} {w:World} {K:PySem.W.Frag} {mg:Str->Option Value} {base:Heap}
theorem Fun.ok {x qual:Str} {st:Stmt} {f:Addr} {fd:FuncData} {N ps:List Str} {k:Nat} {sp:Sp} (F:Fun K x qual st f fd) (S:FnScope N ps (aq st)) (len:∀ vs H Q E,sp vs H Q E->vs.length=ps.length)
 (hbody:∀ (cdv:Value) (A:Around) (outer:List Env) (s:Shared) (H:Hp) (vs:List V) (Q:VK) (E:XK),Room k (A.deeper (envOfC qual (aq st) s.heap.objs.size f cdv))->sp vs H Q E ->
   ∃ t,PSs (gB CX0 P w K mg base N qual (aq st) f cdv A outer s H E).nox (cG st) t/\t { nx:=fun _ H'=>Q .non H',rt:=Q } (start N vs) H):FnOk P w K mg base CX0 (k+1) f fd ps sp:=by
 obtain ⟨oc,od,kV,doc,pm,an,cdv,ct,osl,rfl,lk,hcd⟩:=F.ex
 refine we lk hcd S len fun A outer s H vs Q E hr hsp=>?_
 obtain ⟨t,h,q⟩:=hbody cdv A outer s H vs Q E hr hsp
 exact ⟨t,h.nox,q⟩
theorem Fun.binds {x qual:Str} {st:Stmt} {f:Addr} {fd:FuncData} {ps:List Str} (F:Fun K x qual st f fd)
 (h:∀ (kV doc pm:Value) (an:Option Addr) (cdv ct:Value) (us:List Value),us.length=ps.length->bindArgs (PySem.W.fnOf x qual (cQ st) (cG st) (aq st) .none kV doc pm an cdv ct) ⟨us,[]⟩=pure (ps.zip us)):Binds K fd ps []:=by
 obtain ⟨oc,od,kV,doc,pm,an,cdv,ct,osl,rfl,lk,hcd⟩:=F.ex
 exact .all (h kV doc pm an cdv ct)
theorem v8 {x qual:Str} {st:Stmt} {f:Addr} {oc:Value} {od an:Option Addr} {osl:Array (Option Value)} {kV doc pm cdv ct:Value} (l:K.lookup f=some ⟨oc,od,.func (PySem.W.fnOf x qual (cQ st) (cG st) (aq st) .none kV doc pm an cdv ct),osl⟩)
 (c:PySem.W.codeIn K cdv qual=true) (k:PySem.W.keepIn K (.ref f)=true):Fun K x qual st f (PySem.W.fnOf x qual (cQ st) (cG st) (aq st) .none kV doc pm an cdv ct):=⟨⟨oc,od,kV,doc,pm,an,cdv,ct,osl,rfl,l,c⟩,k⟩
end
section
variable {X:Cx}
theorem pv (i:Nat) {x:Str} {pos:Pos} (hN:X.N[i]?=some x:=by rfl) (hv:Vis X.env.scope x:=by first | exact Or.inl rfl | exact Or.inr (Or.inl rfl) | exact Or.inr (Or.inr rfl)) (hd:(x == ("__debug__":Str))=false:=by decide)
 (hcd:(x == ("__classdict__":Str))=false:=by decide):PE X (.Name x pos) (rm i):=Ax hN hv hd hcd
end
def Same (H H':Hp):Prop:=∀ b o,H b=some o->H' b=some o
theorem Same.refl (H:Hp):Same H H:=fun _ _ h=>h
theorem Same.trans {H H1 H2:Hp} (a:Same H H1) (b:Same H1 H2):Same H H2:=fun c o h=>b c o (a c o h)
theorem Same.free {H H':Hp} (e:Same H H') {l:Addr} (h:H' l=Option.none):H l=Option.none:=by
 cases q:H l with
 | none=>rfl
 | some o =>
   rw [e l o q] at h
   cases h
theorem Same.seq {K:PySem.W.Frag} {H H':Hp} {a:Addr} {xs:List V} (e:Same H H') (h:SqL K H a xs):SqL K H' a xs:=by
 rcases h with (h | ⟨o,h⟩) | h
 ·exact .inl (.inl (e _ _ h))
 ·exact .inl (.inr ⟨o,e _ _ h⟩)
 ·exact .inr h
end L2
set_option maxHeartbeats 4000000
namespace L2
open PySem PySem.Spec PyProof.Rows
def fz (X:Cx) (N:List Str) (scope:Scope) (cl:List (Str×Addr)) (C:Addr) (s₀:Shared) (H₀:Hp) (ex:List Addr):Cx where
 prog:=X.prog
 w:=X.w
 K:=X.K
 mg:=X.mg
 base:=X.base
 A:=X.A
 N:=N
 s₀:=s₀
 H₀:=H₀
 env:=compEnvC scope cl C X.env
 outer:=X.stack
 stack:=X.stack
 ex:=ex
 fn:=fun _=>false
 calm:=X.calm
 pn:=[]
 xe:=fun _ _=>False
structure CompOk (X:Cx) (fr:List Str) (js:List Nat) (scope:Scope) (cl:List (Str×Addr)):Prop where
 clos:closureFor scope X.env=pure cl
 cell:∀ y∈scope.names,y.2≠.cell
 kind:scope.kind=.function
 names:∀ y∈scope.names,y.2=.local->scope.names.lookup y.1=some .local
 clin:∀ p∈cl,X.env.cells.lookup p.1=some p.2
 has:scope.names.all (fun p=>p.2 != .free || (cl.lookup p.1).isSome)=true
 fre:Paired (fun (x:Str) (j:Nat)=>X.N[j]?=some x/\(X.env.scope.names.lookup x=some .cell\/X.env.scope.names.lookup x=some .free)/\scope.names.lookup x=some .free) fr js
theorem oi {env:Env} {x:Str} {k':NameKind}:∀ {names:List (Str×NameKind)},
 (names.map fun (n,k)=>if (k == NameKind.free&&env.scope.kind == .function&&env.kindOf n == some .cell) then (n,NameKind.cell) else (n,k)).lookup x=some k' ->
 ∃ k,names.lookup x=some k/\(k'=k\/(k=.free/\k'=.cell))
 | [],h=>by simp at h
 | (n,k)::r,h=>by
   have ih:=@oi env x k' r
   change List.lookup x ((if (k == NameKind.free&&env.scope.kind == .function&&env.kindOf n == some .cell)=true then (n,NameKind.cell) else (n,k))::_)=_ at h
   by_cases hc:(k == NameKind.free&&env.scope.kind == .function&&env.kindOf n == some .cell)=true
   ·rw [if_pos hc] at h
    cases hx:x == n with
    | true =>
      simp only [List.lookup_cons,hx] at h ⊢
      cases h
      refine ⟨k,rfl,.inr ⟨?_,rfl⟩⟩
      simp only [Bool.and_eq_true,beq_iff_eq] at hc
      exact hc.1.1
    | false =>
      simp only [List.lookup_cons,hx] at h ⊢
      exact ih h
   ·rw [if_neg hc] at h
    cases hx:x == n with
    | true =>
      simp only [List.lookup_cons,hx] at h ⊢
      cases h
      exact ⟨_,rfl,.inl rfl⟩
    | false =>
      simp only [List.lookup_cons,hx] at h ⊢
      exact ih h
theorem tO {env:Env} {x:Str}:∀ {names:List (Str×NameKind)},names.lookup x=some .free ->
 (names.map fun (n,k)=>if (k == NameKind.free&&env.scope.kind == .function&&env.kindOf n == some .cell) then (n,NameKind.cell) else (n,k)).lookup x=some .cell \/
 (names.map fun (n,k)=>if (k == NameKind.free&&env.scope.kind == .function&&env.kindOf n == some .cell) then (n,NameKind.cell) else (n,k)).lookup x=some .free
 | [],h=>by simp at h
 | (n,k)::r,h=>by
   have ih:=@tO env x r
   show List.lookup x ((if (k == NameKind.free&&env.scope.kind == .function&&env.kindOf n == some .cell)=true then (n,NameKind.cell) else (n,k))::_)=_\/List.lookup x ((if (k == NameKind.free&&env.scope.kind == .function&&env.kindOf n == some .cell)=true then (n,NameKind.cell) else (n,k))::_)=_
   by_cases hc:(k == NameKind.free&&env.scope.kind == .function&&env.kindOf n == some .cell)=true
   ·rw [if_pos hc]
    cases hx:x == n with
    | true=>simp only [List.lookup_cons,hx];exact .inl trivial
    | false=>simp only [List.lookup_cons,hx] at h ⊢;exact ih h
   ·rw [if_neg hc]
    cases hx:x == n with
    | true =>
      simp only [List.lookup_cons,hx] at h ⊢
      cases h
      exact .inr rfl
    | false=>simp only [List.lookup_cons,hx] at h ⊢;exact ih h
def gb (n:Nat) (js:List Nat) (σ:St):St:=List.replicate n none++js.map fun j=>(σ[j]?).join
def qR (n:Nat) (js:List Nat) (g:TG) (te:TE) (σ:St) (Q:VK) (J:It) (H1:Hp):Prop:=∃ W:Nat->Nat->List V->St->Hp->Prop,(∃ m,W 0 m [] (gb n js σ) H1) /\
 ∀ i m ys σ' H',W i m ys σ' H' ->
   (J.stop i H'/\∀ p,H' p=none->Q (.ref p) (upd H' p (.lst ys))) \/
   (J.go i H'/\ys.length<sizeLine/\∃ N:V->St->Hp->Prop,(∀ y σ'' H'',N y σ'' H''->∃ m',m'<m/\W (i+1) m' (ys++[y]) σ'' H'')/\∀ x H2,J.yld i H' x H2->g x σ' H2 fun σ3 H3=>te σ3 H3 fun y H4=>N y σ3 H4)
def yd (n:Nat) (js:List Nat) (wi:TI) (g:TG) (te:TE):TE:=fun σ H Q=>wi σ H fun J H1=>qR n js g te σ Q J H1
def HZ (X:Cx) (pins:List (Addr×Obj)) (σ:St) (Q:VK) (D C:Addr) (s':Shared):Prop :=
 ∃ H2,Inv X pins σ H2 s'/\Q (.ref D) H2/\H2 C=none/\C≠X.env.locals/\X.s₀.heap.objs.size<=C/\(∀ x c,X.env.cells.lookup x=some c->c≠C)/\(∀ p∈X.pn++pins,p.1≠C)/\∃ m,s'.heap.Ns C m
section
variable {X:Cx} {own fr:List Str} {js:List Nat} {scope:Scope} {cl:List (Str×Addr)} {elt target iter:Expr} {pos:Pos} {wi:TI} {g:TG} {te:TE}
theorem fD (O:CompOk X fr js scope cl) {x:Str} {c:Addr} (e:cl.lookup x=some c):X.env.cells.lookup x=some c:=O.clin (x,c) (PySem.mem_of_lookup e)
theorem wx {pins:List (Addr×Obj)} {σ:St} {H:Hp} {s:Shared} {fp:List Addr} {C:Addr} (O:CompOk X fr js scope cl) (I:Inv X pins σ H s) (hC:s.heap.objs.size<=C) (hf:∀ b∈fp,d5 X pins H b) (ho:∀ b∈fp,b<s.heap.objs.size) :
 (fz X (own++fr) scope cl C s H fp).Ok:=by
 refine ⟨I.ok.mod,O.kind,I.ok.glob,I.ok.blt,hC,fun x y c h1 h2=>I.ok.inj x y c (fD O h1) (fD O h2),fun x hx=>?_,fun x c h=>(by cases h),I.ok.hd,I.ok.frames,.inl rfl,fun b hb=>?_,I.bs,?_,fun b o e hb=>?_,fun b hb hb'=>?_,I.stack,I.stkFree⟩
 ·have key:scope.names.lookup x=some .free:=by
   have hx':(scope.names.map fun (n,k)=>if (k == NameKind.free&&X.env.scope.kind == .function&&X.env.kindOf n == some .cell) then (n,NameKind.cell) else (n,k)).lookup x=some .cell \/
    (scope.names.map fun (n,k)=>if (k == NameKind.free&&X.env.scope.kind == .function&&X.env.kindOf n == some .cell) then (n,NameKind.cell) else (n,k)).lookup x=some .free:=hx
   rcases hx' with h | h
   ·obtain ⟨k,e,z⟩:=oi h
    rcases z with z | ⟨z,_⟩
    ·subst z;exact absurd rfl (O.cell _ (PySem.mem_of_lookup e))
    ·subst z;exact e
   ·obtain ⟨k,e,z⟩:=oi h
    rcases z with z | ⟨_,z⟩
    ·subst z;exact e
    ·cases z
  have hm:=List.all_eq_true.mp O.has _ (PySem.mem_of_lookup key)
  have hs:(cl.lookup x).isSome=true:=by simpa using hm
  exact Option.isSome_iff_exists.mp hs
 ·obtain ⟨f0,f1,f2,f3,f4,f5⟩:=hf b hb
  exact ⟨Nat.ne_of_lt (Nat.lt_of_lt_of_le (ho b hb) hC),fun x c e=>f4 x c (fD O e)⟩
 ·exact Nat.le_trans I.ok.bsz I.sz
 ·obtain ⟨f0,f1,f2,f3,f4,f5⟩:=hf b hb
  rcases f3 with z | z
  ·exact I.ok.noex b o e z
  ·exact absurd (Nat.lt_of_lt_of_le (Heap.lt_size e) (Nat.le_trans I.ok.bsz z)) (Nat.lt_irrefl _)
 ·obtain ⟨f0,f1,f2,f3,f4,f5⟩:=hf b hb
  rcases List.mem_cons.mp (I.stkSub b hb') with z | z
  ·exact f1 z
  ·exact f2 z
theorem Paired.idx {α β:Type} {F:α->β->Prop}:∀ {l₁:List α} {l₂:List β},Paired F l₁ l₂->∀ (i:Nat) (a:α) (b:β),l₁[i]?=some a->l₂[i]?=some b->F a b
 | _,_,.nil,_,_,_,h,_=>by simp at h
 | _,_,.cons r _,0,a,b,h1,h2=>by simp at h1 h2;subst h1;subst h2;exact r
 | _,_,.cons _ t,i+1,a,b,h1,h2=>Paired.idx t i a b (by simpa using h1) (by simpa using h2)
theorem Gg {pins:List (Addr×Obj)} {σ:St} {H:Hp} {s s':Shared} {fp:List Addr} {C:Addr} {m:Str->Option Value} (O:CompOk X fr js scope cl) (hl:fr.length=js.length) (I:Inv X pins σ H s) (hC:s.heap.objs.size<=C) (hf:∀ b∈fp,d5 X pins H b)
 (ho:∀ b∈fp,b<s.heap.objs.size) (os:s'.os=s.os) (hg:s'.gens=s.gens) (old:∀ b o,s.heap.get? b=some o->s'.heap.get? b=some o) (hn:s'.heap.Ns C m) :
 Inv (fz X (own++fr) scope cl C s H fp) [] (gb own.length js σ) H s':=by
 refine ⟨wx O I hC hf ho,os,by rw [hg];exact I.bare,Un.kept old,⟨m,hn,fun i x v e1 e2 e3=>?_⟩,fun x c e=>?_,I.hok.fresh hC,fun x c e=>I.freeC x c (fD O e),fun p hp=>absurd (show p∈([]:List (Addr×Obj)) from hp) (by simp),I.hok.kept old,?_⟩
 ·unfold gb at e2
  have e1':(own++fr)[i]?=some x:=e1
  by_cases hi:i<own.length
  ·rw [List.getElem?_append_left (by simpa using hi),List.getElem?_replicate] at e2
   split at e2<;>cases e2
  ·have hi':own.length<=i:=Nat.le_of_not_lt hi
   rw [List.getElem?_append_right (by simpa using hi'),List.length_replicate,List.getElem?_map] at e2
   rw [List.getElem?_append_right hi'] at e1'
   cases ej:js[i-own.length]? with
   | none=>rw [ej] at e2;cases e2
   | some j =>
     rw [ej] at e2
     have e2':(σ[j]?).join=some v:=Option.some.inj e2
     have eσ:σ[j]?=some (some v):=by
      cases q:σ[j]? with
      | none=>rw [q] at e2';cases e2'
      | some o=>rw [q] at e2';simp at e2';rw [e2']
     obtain ⟨hN,hk,hs⟩:=Paired.idx O.fre _ x j e1' ej
     obtain ⟨mo,hmo,hlo⟩:=I.loc
     have vis:Vis X.env.scope x:=hk.elim (fun z=>.inr (.inl z)) fun z=>.inr (.inr z)
     obtain ⟨u,r,l⟩:=hlo j x v hN eσ vis
     refine ⟨u,r,.inr ⟨tO hs,?_⟩⟩
     have hm:=List.all_eq_true.mp O.has _ (PySem.mem_of_lookup hs)
     have hs':(cl.lookup x).isSome=true:=by simpa using hm
     obtain ⟨c,ec⟩:=Option.isSome_iff_exists.mp hs'
     refine ⟨c,ec,?_⟩
     rcases l with ⟨k,_⟩ | ⟨_,c',e',z⟩
     ·have k':X.env.scope.names.lookup x=some .local:=k
      rcases hk with q | q<;>(rw [q] at k';cases k')
     ·have:=fD O ec
      rw [e'] at this
      cases this
      obtain ⟨oc,hoc,hd⟩:=z
      exact ⟨oc,old _ _ hoc,hd⟩
 ·obtain ⟨v,oc,hoc,hd⟩:=I.cell x c (fD O e)
  exact ⟨v,oc,old _ _ hoc,hd⟩
 ·unfold gb
  show _=(own++fr).length
  rw [List.length_append,List.length_append,List.length_replicate,List.length_map,hl]
theorem Un.adopt {fs ex:List Addr} {H H1:Hp} {h h1:Heap} {a:Addr} {o:HO} (u:Un fs ex H H1 h h1) (ha:h.objs.size<=a) (hn:H a=none):Un fs ex H (upd H1 a o) h h1 where
 keep:=u.keep
 slot:=u.slot
 free:=fun b ob q n hx=>by rw [upd_ne (Nat.ne_of_lt (Nat.lt_of_lt_of_le (Heap.lt_size q) ha))];exact u.free b ob q n hx
 there:=u.there
 tups:=fun b xs q=>by rw [upd_ne (aR q hn)];exact u.tups b xs q
 frzs:=fun b ob xs q=>by rw [upd_ne (aR q hn)];exact u.frzs b ob xs q
 tbls:=fun b ps q=>by rw [upd_ne (aR q hn)];exact u.tbls b ps q
theorem HOk.adopt {P:Program} {w:World} {H:Hp} {h:Heap} {a:Addr} {o:HO} (x:HOk P w H h) (hn:H a=none) (new:ObjOk P w (upd H a o) h a o):HOk P w (upd H a o) h:=fun b u e=>by
 by_cases hb:b=a
 ·subst hb;rw [ao] at e;cases e;exact new
 ·rw [upd_ne hb] at e
  exact (x b u e).stay (fun c v _ q=>q) (fun c q=>by rw [upd_ne (aR q hn)];exact q) fun c xs q=>by rw [upd_ne (aR q hn)];exact q
theorem Gk {pins:List (Addr×Obj)} {σ:St} {H:Hp} {s:Shared} {fp:List Addr} {it:Addr} {tn:Nat->Heap->Prop} {J:It} {E:Value->Shared->Prop} {Q:VK} {RR:Value->Addr->Result->Shared->Prop} (O:CompOk X fr js scope cl) (hl:fr.length=js.length) (hcm:X.calm=true)
 (I:Inv X pins σ H s) (T:Turn X.prog X.w X.K target J fp it tn) (st:tn 0 s.heap) (hf:∀ b∈fp,d5 X pins H b)
 (hg:∀ C s₀ H₀ ex,PG (fz X (own++fr) scope cl C s₀ H₀ ex) target g) (he:∀ C s₀ H₀ ex,PE (fz X (own++fr) scope cl C s₀ H₀ ex) elt te)
 (W:Nat->Nat->List V->St->Hp->Prop) {m0:Nat} (w0:W 0 m0 [] (gb own.length js σ) H)
 (turn:∀ i m ys σ' H',W i m ys σ' H' ->
   (J.stop i H'/\∀ p,H' p=none->Q (.ref p) (upd H' p (.lst ys))) \/
   (J.go i H'/\ys.length<sizeLine/\∃ N:V->St->Hp->Prop,(∀ y σ'' H'',N y σ'' H''->∃ m',m'<m/\W (i+1) m' (ys++[y]) σ'' H'')/\∀ x H2,J.yld i H' x H2->g x σ' H2 fun σ3 H3=>te σ3 H3 fun y H4=>N y σ3 H4))
 (hRR:∀ D C s',HZ X pins σ Q D C s'->RR (.ref D) C (.ok .next) s') :
 wpAny (model X.prog X.w) X.A (newList []) (fun acc s₃=>wpAny (model X.prog X.w) X.A (newFunctionEnv scope X.env.globals cl [] X.env.qual none .none (some X.env)) (fun cenv s₄ =>
  codeAny (model X.prog X.w) X.A (.compStart (.ListComp elt [⟨target,iter,[],0⟩] scope pos) 0 (.ref it) acc { cenv with scope:=relabel scope X.env }) (RR acc cenv.locals) s₄) E s₃) E s:=by
 refine wpAny_newObj_type (wpAny_newFunctionEnv O.cell (by intro y hy;simp at hy) (fun h₁ hns₁ hsb₁=>?_) O.kind)
 dsimp only at hns₁ hsb₁ ⊢
 generalize hH2:s.heap.push { cls:=.type "list",dict:=none,data:=.seq ([]:List Value).toArray }=H2 at hns₁ hsb₁ ⊢
 have hCs:H2.objs.size=s.heap.objs.size+1:=by rw [<- hH2,Heap.size_push]
 have hDC:s.heap.objs.size≠H2.objs.size:=by rw [hCs];exact Nat.ne_of_lt (Nat.lt_succ_self _)
 have hCge:s.heap.objs.size<=H2.objs.size:=by rw [hCs];exact Nat.le_succ _
 have below:∀ b,b<s.heap.objs.size->b≠H2.objs.size/\b≠s.heap.objs.size:=fun b hb=>⟨by rw [hCs];exact Nat.ne_of_lt (Nat.lt_succ_of_lt hb),Nat.ne_of_lt hb⟩
 have old:∀ b o,s.heap.get? b=some o->h₁.get? b=some o:=fun b o e=>hsb₁.extBut b o (below b (Heap.lt_size e)).1 (Heap.get?_push_of_some _ (hH2 ▸ Heap.get?_push_of_some _ e))
 have hacc:h₁.get? s.heap.objs.size=some { cls:=.type "list",data:=.seq ([]:List Value).toArray 0 }:=hsb₁.extBut _ _ hDC (Heap.get?_push_of_some _ (hH2 ▸ Heap.get?_push_size _ rfl))
 have ho:∀ b∈fp,b<s.heap.objs.size:=fun b hb=>by obtain ⟨o,e,_⟩:=T.obj 0 _ st b hb;exact Heap.lt_size e
 generalize hDe:s.heap.objs.size=D at *
 generalize hCe:H2.objs.size=C at *
 let X':Cx:=fz X (own++fr) scope cl C s H fp
 have ok':X'.Ok:=wx O I (by rw [hDe];exact hCge) hf (by rw [hDe];exact ho)
 have hDfs:D∉X'.fs:=by
  intro z
  rcases List.mem_cons.mp (I.stkSub D z) with q | q
  ·exact absurd I.lt (by rw [<- q,hDe];exact Nat.lt_irrefl _)
  ·exact I.nofs (Nat.le_of_eq hDe) q
 have hDfp:∀ b∈fp,D≠b:=fun b hb z=>absurd (ho b hb) (by rw [z];exact Nat.lt_irrefl _)
 have hDcell:∀ x c,cl.lookup x=some c->c≠D:=fun x c e z=>by
  obtain ⟨v,q⟩:=I.cell x c (fD O e)
  exact absurd q.lt (by rw [z,hDe];exact Nat.lt_irrefl _)
 have fpok:∀ {H':Hp} {pins':List (Addr×Obj)},(∀ p∈pins',p.1=D)->(∀ b∈fp,H' b=none)->∀ b∈fp,d5 X' pins' H' b:=fun {H' pins'} hp hn b hb=>by
  obtain ⟨f0,f1,f2,f3,f4,f5⟩:=hf b hb
  refine ⟨hn b hb,(below b (ho b hb)).1,fun z=>?_,.inl hb,fun x c e=>f4 x c (fD O e),fun p hp'=>?_⟩
  ·rcases List.mem_cons.mp (I.stkSub b z) with q | q
   ·exact f1 q
   ·exact f2 q
  ·have hp'':p∈pins':=by simpa [X',fz] using hp'
   rw [hp p hp''];exact hDfp b hb
 have loop:∀ s₃:Shared,s₃={ s with heap:=h₁,toks:=s.toks+([]:List (Str×Value)).length } ->
  codeAny (model X.prog X.w) X.A (.compLoop (.ListComp elt [⟨target,iter,[],0⟩] scope pos) 0 (.ref it) (.ref D) (compEnvC scope cl C X.env)) (RR (.ref D) C) s₃:=by
  rintro s₃ rfl
  refine PySem.W.kcp_loop (fun k s'=>∃ i σ' H' ys its nn,Inv X' [] σ' H' s'/\tn i s'.heap/\(∀ b∈fp,H' b=none)/\H' D=none/\s'.heap.get? D=some { cls:=.type "list",data:=.seq (its:List Value).toArray nn }/\Vals ys its/\ys.length<=sizeLine/\W i k ys σ' H') ?_ m0
   ⟨0,_,H,[],[],0,Gg O hl I (by rw [hDe];exact hCge) hf (by rw [hDe];exact ho) rfl rfl (by intro b o e;exact old b o e) hns₁,T.keep _ _ _ st fun b _ o e=>old b o e,fun b hb=>(hf b hb).1,I.hok.fresh (Nat.le_of_eq hDe),hacc,.nil,Nat.zero_le _,w0⟩
  rintro k s' ⟨i,σ',H',ys,its,nn,I',st',hfn,hDn,hDo,rv,hz,w⟩
  have hlen:=rv.length
  have hpD:∀ p∈[(D,({ cls:=.type "list",data:=.seq its.toArray nn }:Obj))],p.1=D:=fun p hp=>by rw [List.mem_singleton.mp hp]
  have Ip:Inv X' [(D,({ cls:=.type "list",data:=.seq its.toArray nn }:Obj))] σ' H' s':=I'.pins_of fun p hp=>by
   rw [List.mem_singleton.mp hp]
   exact ⟨hDo,hDn,hDC,hDfs,fun v z=>by cases z⟩
  rcases turn i k ys σ' H' w with ⟨stop,fin⟩ | ⟨go,hlt,N,hN,step⟩
  ·refine wpAny_mono (T.done X' rfl rfl rfl hcm i _ s' σ' H' (fun _ _=>False) Ip (fpok hpD hfn) st' stop) (fun r s4 ⟨hr,I4⟩=>?_) fun _ _ z=>False.elim z
   subst hr
   refine hRR D C s4 ?_
   have hD4:s4.heap.get? D=some { cls:=.type "list",data:=.seq its.toArray nn }:=(I4.pin _ (List.mem_append_right _ (List.mem_singleton.mpr rfl))).1
   have un:Un (frs X.stack) fp H (upd H' D (.lst ys)) s.heap s4.heap:=Un.adopt I4.base (Nat.le_of_eq hDe) (I.hok.fresh (Nat.le_of_eq hDe))
   have hok:HOk X.prog X.w (upd H' D (.lst ys)) s4.heap:=HOk.adopt I4.hok hDn ⟨hz,its,nn,rv,hD4⟩
   refine ⟨upd H' D (.lst ys),I.call' I4.os un hok I4.bare fun b hb=>?_,fin D hDn,?_,?_,?_,fun x c e z=>?_,fun p hp z=>?_,?_⟩
   ·obtain ⟨f0,f1,f2,f3,f4,f5⟩:=hf b hb
    exact ⟨f3,f1,f4,f5⟩
   ·rw [upd_ne (Ne.symm hDC)]
    exact I4.free
   ·exact Nat.ne_of_gt (Nat.lt_of_lt_of_le I.lt (by rw [hDe];exact hCge))
   ·exact Nat.le_trans I.sz (by rw [hDe];exact hCge)
   ·obtain ⟨v,q⟩:=I.cell x c e
    exact absurd (Nat.lt_of_lt_of_le q.lt (by rw [hDe,z];exact hCge)) (Nat.lt_irrefl _)
   ·exact absurd (Nat.lt_of_lt_of_le (Heap.lt_size (I.pin p hp).1) (by rw [hDe,z];exact hCge)) (Nat.lt_irrefl _)
   ·obtain ⟨m',hn',_⟩:=I4.loc
    exact ⟨m',hn'⟩
  ·refine wpAny_mono (T.item X' rfl rfl rfl hcm i _ s' σ' H' (fun _ _=>False) Ip (fpok hpD hfn) st' go) (fun r s4 ⟨u,hr,h4⟩=>?_) fun _ _ z=>False.elim z
   subst hr
   refine wpAny_mono h4 (fun _ s5 ⟨x,H5,I5,r5,y5,st5,fr5⟩=>?_) fun _ _ z=>False.elim z
   have I5':=I5.pinned (fpok hpD fr5) (T.obj _ _ st5)
   refine wpAny_mono (hg C s H fp _ s5 σ' H5 x u _ I5' r5 (step x H5 y5)) (fun _ s6 ⟨σ6,H6,I6,q6⟩=>?_) fun _ _ z=>False.elim z
   refine wpAny_mono (he C s H fp _ s6 σ6 H6 _ I6 q6) (fun v s7 ⟨y,H7,I7,r7,n7⟩=>?_) fun _ _ z=>False.elim z
   obtain ⟨m',hm',w7⟩:=hN y σ6 H7 n7
   have hD7:=I7.pin (D,{ cls:=.type "list",data:=.seq its.toArray nn }) (List.mem_append_right _ (List.mem_append_left _ (List.mem_singleton.mpr rfl)))
   refine append_at hD7.1 (fun h8 sb hD8=>?_) (by rw [List.size_toArray,<- hlen];exact hz)
   have I7':Inv X' [] σ6 H7 s7:=I7.pins_of fun p hp=>absurd hp (by simp)
   have I8:Inv X' [] σ6 H7 { s7 with heap:=h8 }:=I7'.turned (t':=s7.toks) (it:=D) (fun b o hb e=>(sb.2 b hb).trans e) hD7.2.1 hDC (.inr (Nat.le_of_eq hDe)) hDcell (fun p hp=>absurd (show p∈([]:List (Addr×Obj)) from hp) (by simp))
   refine ⟨m',hm',i+1,σ6,H7,ys++[y],its++[v],nn+1,I8,T.keep _ _ _ st5 fun b hb o e=>?_,fun b hb=>?_,hD7.2.1,?_,rv.append (.cons r7 .nil),?_,w7⟩
   ·exact (sb.2 b (fun z=>hDfp b hb z.symm)).trans (I7.pin (b,o) (List.mem_append_right _ (List.mem_append_right _ (kP hb e)))).1
   ·obtain ⟨o,e,d⟩:=T.obj _ _ st5 b hb
    exact (I7.pin (b,o) (List.mem_append_right _ (List.mem_append_right _ (kP hb e)))).2.1
   ·rw [hD8,List.push_toArray]
   ·rw [List.length_append,List.length_singleton];exact hlt
 exact codeAny_compStart_list (loop _ rfl) (T.self _ 0 _ _ _ (T.keep _ _ _ st fun b _ o e=>old b o e) (loop _ rfl))
theorem dH (O:CompOk X fr js scope cl) (hcm:X.calm=true) (hi:PI X target iter wi) (hg:∀ C s₀ H₀ ex,PG (fz X (own++fr) scope cl C s₀ H₀ ex) target g) (he:∀ C s₀ H₀ ex,PE (fz X (own++fr) scope cl C s₀ H₀ ex) elt te)
 (hs:∀ x,foldedSetIterable iter X.env x=pure x:=by intro _;rfl):PE X (.ListComp elt [⟨target,iter,[],0⟩] scope pos) (yd own.length js wi g te):=by
 intro pins s σ H Q I h
 rw [eval_ListComp]
 refine wpAny_comprehension_free (use:=none) rfl hs O.clos O.kind O.names (thn (hi pins s σ H _ I h) fun x s1 h1=>thn h1 fun itv s2 h2=>?_)
 obtain ⟨it,fp,tn,J,H2,rfl,I2,T,st,hf,W,⟨m0,w0⟩,turn⟩:=h2
 refine Gk (RR:=fun acc C=>compPost (model X.prog X.w) X.A X.xe none (EP X pins σ Q) acc C) O (Paired.length O.fre) hcm I2 T st hf hg he W w0 turn ?_
 rintro D C s' ⟨H3,I3,q,c1,c2,c3,c4,c5,m,hn⟩
 exact ⟨m,hn,fun h' sb=>⟨.ref D,H3,I3.turned (t':=s'.toks) (it:=C) (fun b o hb e=>(sb.2 b hb).trans e) c1 c2 (.inr c3) c4 c5,rfl,q⟩⟩
end
theorem gC {n:Nat} {js:List Nat} {K:PySem.W.Frag} {a:Addr} {xs:List V} {g:TG} {te:TE} {σ0:St} {H:Hp} {Q:VK} (Pv:Nat->List V->St->Hp->Prop) (hz:xs.length<=sizeLine) (h0:Pv 0 [] (gb n js σ0) H) (hl:∀ i ys σ H,i<=xs.length->Pv i ys σ H->SqL K H a xs/\ys.length<=i)
 (hs:∀ i x ys σ H,xs[i]?=some x->Pv i ys σ H->g x σ H fun σ2 H2=>te σ2 H2 fun y H3=>Pv (i+1) (ys++[y]) σ2 H3) (hd:∀ ys σ H p,Pv xs.length ys σ H->H p=none->Q (.ref p) (upd H p (.lst ys))) :
 qR n js g te σ0 Q (Itl K a) H:=by
 refine ⟨fun i m ys σ H=>m=xs.length-i/\i<=xs.length/\Pv i ys σ H,⟨xs.length,by simp,Nat.zero_le _,h0⟩,?_⟩
 rintro i m ys σ H ⟨rfl,hi,p⟩
 obtain ⟨q,hy⟩:=hl i ys σ H hi p
 by_cases hlt:i<xs.length
 ·refine .inr ⟨⟨xs,xs[i],q,by simp [hlt]⟩,by omega,fun y σ'' H''=>Pv (i+1) (ys++[y]) σ'' H'',fun y σ' H' p'=>⟨xs.length-(i+1),by omega,rfl,hlt,p'⟩,fun x H' y=>?_⟩
  obtain ⟨e,y⟩:=y
  subst e
  exact hs i x ys σ _ (y xs q) p
 ·have e:i=xs.length:=by omega
  subst e
  exact .inl ⟨⟨xs,q,Nat.le_refl _⟩,fun r hr=>hd ys σ H r p hr⟩
theorem qm {k:Nat} {js:List Nat} {lo:Int} {n:Nat} {g:TG} {te:TE} {σ0:St} {H:Hp} {Q:VK} (Pv:Nat->List V->St->Hp->Prop) (hz:n<=sizeLine) (h0:Pv 0 [] (gb k js σ0) H) (hl:∀ i ys σ H,i<=n->Pv i ys σ H->ys.length<=i)
 (hs:∀ i ys σ H,i<n->Pv i ys σ H->g (.int (lo+i)) σ H fun σ2 H2=>te σ2 H2 fun y H3=>Pv (i+1) (ys++[y]) σ2 H3) (hd:∀ ys σ H p,Pv n ys σ H->H p=none->Q (.ref p) (upd H p (.lst ys))) :
 qR k js g te σ0 Q (Itr lo n) H:=by
 refine ⟨fun i m ys σ H=>m=n-i/\i<=n/\Pv i ys σ H,⟨n,by simp,Nat.zero_le _,h0⟩,?_⟩
 rintro i m ys σ H ⟨rfl,hi,p⟩
 have hy:=hl i ys σ H hi p
 by_cases hlt:i<n
 ·refine .inr ⟨hlt,by omega,fun y σ'' H''=>Pv (i+1) (ys++[y]) σ'' H'',fun y σ' H' p'=>⟨n-(i+1),by omega,rfl,hlt,p'⟩,fun x H' y=>?_⟩
  obtain ⟨e,y⟩:=y
  subst e y
  exact hs i ys σ _ hlt p
 ·have e:i=n:=by omega
  subst e
  exact .inl ⟨Nat.le_refl _,fun r hr=>hd ys σ H r p hr⟩
end L2
namespace L2
open PySem PySem.Spec PyProof.Rows
def Bits (k:Nat) (i:Int):Prop:=i.natAbs<2^k
theorem Bits.mono {j k:Nat} {i:Int} (h:Bits j i) (hk:j<=k:=by decide):Bits k i:=Nat.lt_of_lt_of_le h (Nat.pow_le_pow_right (by decide) hk)
theorem Bits.mul {j k:Nat} {a b:Int} (ha:Bits j a) (hb:Bits k b):Bits (j+k) (a*b):=by
 unfold Bits at *
 rw [Int.natAbs_mul,Nat.pow_add]
 exact Nat.mul_lt_mul_of_lt_of_lt ha hb
theorem Bits.add {k:Nat} {a b:Int} (ha:Bits k a) (hb:Bits k b):Bits (k+1) (a+b):=by
 unfold Bits at *
 have:=Int.natAbs_add_le a b
 rw [Nat.pow_succ];omega
theorem Bits.neg {k:Nat} {a:Int} (ha:Bits k a):Bits k (-a):=by unfold Bits at *;rwa [Int.natAbs_neg]
theorem Bits.sub {k:Nat} {a b:Int} (ha:Bits k a) (hb:Bits k b):Bits (k+1) (a-b):=by rw [Int.sub_eq_add_neg];exact ha.add hb.neg
theorem Bits.of_le {k:Nat} {a b:Int} (hb:Bits k b) (h:a.natAbs<=b.natAbs):Bits k a:=Nat.lt_of_le_of_lt h hb
theorem Bits.zero {k:Nat}:Bits k 0:=Nat.pow_pos (by decide)
theorem Bits.log {k:Nat} {i:Int} (h:Bits k i) (hk:0<k):i.natAbs.log2<k:=by
 by_cases h0:i.natAbs=0
 ·rw [h0];simpa using hk
 ·exact (Nat.log2_lt h0).mpr h
theorem Bits.int {k:Nat} {i:Int} (h:Bits k i) (hk:k<=1000000):Builtin.Int.intBits i<=2^20:=by
 have e:(2:Nat)^20=1048576:=by decide
 unfold Builtin.Int.intBits
 split
 ·exact Nat.zero_le _
 ·rename_i hn
  have h0:i.natAbs≠0:=by
   intro z
   have:i=0:=Int.natAbs_eq_zero.mp z
   exact hn (by simp [this])
  have:=(Nat.log2_lt h0).mpr h
  omega
section
variable {X:Cx} {a b:Expr} {ta tb:TE} {pos:Pos}
def IW (i j:Int):Prop:=Bits 1000000 i/\Bits 1000000 j
theorem aD:OpR X (binaryOp .Mult) (rI IW fun i j=>.int (i*j)):=opI fun _ _ _ _ _ _ _ hc q=>mul_int q (.of_bits (hc.1.int (Nat.le_refl _)) (hc.2.int (Nat.le_refl _)))
theorem cM:OpR X (binaryOp .Mod) (rI (fun _ j=>0<j) fun i j=>.int (i%j)):=AI
def IX (_ j:Int):Prop:=0<j/\Bits 9000 j
theorem dm:OpR X (binaryOp .FloorDiv) (rI IX fun i j=>.int (i/j)):=opI fun i j _ _ _ _ _ hc q=>by
 refine floordiv_int (Int.ne_of_gt hc.1) ?_ (.inl (PyProof.noPylong_of_log2 (hc.2.log (by decide))))
 rw [Int.fdiv_eq_ediv_of_nonneg _ (Int.le_of_lt hc.1)]
 exact q
def IY (_ j:Int):Prop:=j≠0/\Bits 9000 j
theorem uw:OpR X (binaryOp .FloorDiv) (rI IY fun i j=>.int (i.fdiv j)):=opI fun _ _ _ _ _ _ _ hc q=>floordiv_int hc.1 q (.inl (PyProof.noPylong_of_log2 (hc.2.log (by decide))))
theorem cI:OpR X (compareOp .Eq) (rI0 fun i j=>.bl (decide (i=j))):=ii fun _ _ _ _ _ _ _ q=>eq_int (by rw [Bool.beq_eq_decide_eq];exact q)
theorem ig:OpR X (compareOp .NotEq) (rI0 fun i j=>.bl (!decide (i=j))):=ii fun _ _ _ _ _ _ _ q=>ne_int (by rw [bne,Bool.beq_eq_decide_eq];exact q)
def tY (K:PySem.W.Frag):R2:=fun x y H Q=>∃ (a b:Addr) (ns ms:List Int),x=.ref a/\y=.ref b/\SqL K H a (ns.map V.int)/\SqL K H b (ms.map V.int)/\Q (.bl (decide (ns=ms))) H
def tU (K:PySem.W.Frag):R2:=fun x y H Q=>∃ (a b:Addr) (ns ms:List Int),x=.ref a/\y=.ref b/\SqL K H a (ns.map V.int)/\SqL K H b (ms.map V.int)/\Q (.bl (!decide (ns=ms))) H
theorem AK (hu:X.A.units+64<cLine):OpR X (compareOp .Eq) (tY X.K):=by
 intro pins s σ H x y v u Q I rx ry h
 obtain ⟨a,b,ns,ms,rfl,rfl,ha,hb,q⟩:=h
 cases rx;cases ry
 obtain ⟨i1,r1,p1,_⟩:=I.list ha
 obtain ⟨i2,r2,p2,_⟩:=I.list hb
 exact PySem.W.eq_intsK p1.isList (kZ r1) p2.isList (kZ r2) hu ⟨.bl _,H,I,rfl,q⟩
theorem AH (hu:X.A.units+64<cLine):OpR X (compareOp .NotEq) (tU X.K):=by
 intro pins s σ H x y v u Q I rx ry h
 obtain ⟨a,b,ns,ms,rfl,rfl,ha,hb,q⟩:=h
 cases rx;cases ry
 obtain ⟨i1,r1,p1,_⟩:=I.list ha
 obtain ⟨i2,r2,p2,_⟩:=I.list hb
 exact PySem.W.ne_intsK p1.isList (kZ r1) p2.isList (kZ r2) hu ⟨.bl _,H,I,rfl,q⟩
def iV (K:PySem.W.Frag):List V->Hp->VK->Prop:=fun xs H Q=>∃ (x:V) (t c:Value) (n:V) (k:Bool),xs=[x,n]/\RelV n c/\(∀ u,RelV n u->u=c)/\TyOf K H x t/\PySem.W.kitOne K t c=some k/\Q (.bl k) H
theorem Gw:CallR X (.builtin "isinstance") (iV X.K):=by
 intro pins s σ H xs us Q I r h
 obtain ⟨x,t,c,n,k,rfl,rn,hn,ty,e,q⟩:=h
 obtain ⟨u1,u2,rfl,r1,r2⟩:=r.two
 obtain rfl:=hn u2 r2
 exact DY I r1 ty e fun tk=>⟨.bl k,H,I.tok tk,rfl,q⟩
theorem vH {K:PySem.W.Frag} {H:Hp} {Q:VK} {x:V} {n:String} {t:Value} {k:Bool} (ty:TyOf K H x t) (e:PySem.W.kitOne K t (.type n)=some k) (q:Q (.bl k) H):iV K [x,.ty n] H Q :=
 ⟨x,t,.type n,.ty n,k,rfl,rfl,fun _ h=>h,ty,e,q⟩
end
section
variable {D:c7} {σ:St} {H:Hp} {Q:VK} {t u:TS} {te ta tb:TE} {c:TT} {i:Nat} {v:V} {r:R2}
theorem zH (P:St->Hp->Prop) (h1:∀ σ' H',P σ' H'->u D σ' H') (h2:(∀ σ' H',P σ' H'->u D σ' H')->t { D with nx:=u D } σ H):cS t u D σ H:=h2 h1
theorem iU (P:St->Hp->Prop) (h:P σ H) (h1:∀ σ' H',P σ' H'->u D σ' H'):u D σ H:=h1 σ H h
theorem ap (h:te σ H fun x H1=>u D (σ.set i (some x)) H1):cS (fL te (gj i)) u D σ H:=h
theorem hJ (h:te σ H fun _ H1=>u D σ H1):cS (lR te) u D σ H:=h
theorem bC {t1:TS} (h:c σ H fun b H1=>if b=true then t1 { D with nx:=u D } σ H1 else u D σ H1):cS (iB c t1 rB) u D σ H:=h
theorem tR {K:PySem.W.Frag} {n:V} (h:ta σ H fun x H1=>iV K [x,n] H1 Q):tCB (iV K) (lT ta (lT (tC n) lQ)) σ H Q:=h
theorem ku {t1 t2:TS} (P:St->Hp->Prop) (h1:∀ σ' H',P σ' H'->u D σ' H') (h2:(∀ σ' H',P σ' H'->u D σ' H')->c σ H fun b H1=>if b=true then t1 { D with nx:=u D } σ H1 else t2 { D with nx:=u D } σ H1):cS (iB c t1 t2) u D σ H:=h2 h1
theorem cV (h:te σ H fun x H1=>D.nx (σ.set i (some x)) H1):fL te (gj i) D σ H:=h
theorem aU (h:te σ H D.rt):rp te D σ H:=h
theorem iT (h:c σ H fun b H1=>if b=true then t D σ H1 else u D σ H1):iB c t u D σ H:=h
theorem tQ {K:Bool->Hp->Prop} {tt:TT} (h:tt σ H fun k H1=>K (!k) H1):rA tt σ H K:=h
theorem cW {K:Bool->Hp->Prop} {t1 t2:TT} (h:t1 σ H fun k H1=>if k=true then t2 σ H1 K else K false H1):rF t1 t2 σ H K:=h
theorem tP {K:Bool->Hp->Prop} {t1 t2:TT} (h:t1 σ H fun k H1=>if k=true then K true H1 else t2 σ H1 K):tOr t1 t2 σ H K:=h
theorem om (h:ta σ H fun x H1=>∃ k,x=.bl k/\if k=true then tb σ H1 Q else Q (.bl false) H1):rE ta tb σ H Q:=h
theorem zD (h:ta σ H fun x H1=>∃ k,x=.bl k/\if k=true then Q (.bl true) H1 else tb σ H1 Q):rq ta tb σ H Q:=h
theorem zE (h:ta σ H fun x H1=>∃ k,x=.bl k/\Q (.bl (!k)) H1):rz ta σ H Q:=h
theorem zF {tt:TT} (h:tt σ H fun k H1=>if k=true then ta σ H1 Q else tb σ H1 Q):tIf tt ta tb σ H Q:=h
theorem oj {A B:Prop} (h:A):if true=true then A else B:=by rw [if_pos rfl];exact h
theorem c9 {A B:Prop} (h:B):if false=true then A else B:=by rw [if_neg Bool.false_ne_true];exact h
theorem aJ {p A B:Prop} [Decidable p] (h1:p->A) (h2:¬ p->B):if decide p=true then A else B:=by
 by_cases hp:p
 ·rw [if_pos (decide_eq_true hp)];exact h1 hp
 ·rw [if_neg (by rw [decide_eq_false hp];exact Bool.false_ne_true)];exact h2 hp
theorem cC {p A B:Prop} [Decidable p] (h1:¬ p->A) (h2:p->B):if (!decide p)=true then A else B:=by
 by_cases hp:p
 ·rw [if_neg (by rw [decide_eq_true hp];exact Bool.false_ne_true)];exact h2 hp
 ·rw [if_pos (by rw [decide_eq_false hp];rfl)];exact h1 hp
end
structure Cal (P:Program) (w:World) (K:PySem.W.Frag) (mg:Str->Option Value) (base:Heap) (k:Nat) (x:Str) (ps:List Str) (sp:Sp) (f:Addr) (fd:FuncData):Prop where
 ok:FnOk P w K mg base CX0 k f fd ps sp
 mg:mg x=some (.ref f)
 kp:PySem.W.keepIn K (.ref f)=true
 bd:Binds K fd ps []
theorem Same.upd_new {H:Hp} {p:Addr} {o:HO} (h:H p=none):Same H (upd H p o):=fun b u e=>by rw [upd_ne (aR e h)];exact e
theorem Same.then_new {H H1:Hp} {p:Addr} {o:HO} (s:Same H H1) (h:H1 p=none):Same H (upd H1 p o):=s.trans (Same.upd_new h)
theorem Same.ne {H H1:Hp} {a p:Addr} {o:HO} (s:Same H H1) (e:H a=some o) (h:H1 p=none):a≠p:=aR (s a o e) h
end L2
namespace L2
open PySem PySem.Spec PyProof.Rows
section
variable {X:Cx} {K:PySem.W.Frag}
theorem bY (h:X.K=K):IxR X (tX K):=by subst h;exact DX
theorem cb (h:X.K=K):IxR X (tW K):=by subst h;exact DW
theorem kj (h:X.K=K):SlR X (ot K):=by subst h;exact yy
def zY (K:PySem.W.Frag):List V->Hp->VK->Prop:=fun xs H Q=>∃ p ys,xs=[.ref p]/\(SqL K H p ys\/SqT K H p ys)/\Q (.int ys.length) H
theorem cE (h:X.K=K):CallR X (.builtin "len") (zY K):=by subst h;exact Gv
def zX (K:PySem.W.Frag):List V->Hp->VK->Prop:=fun xs H Q=>∃ p ys,xs=[.ref p]/\(SqL K H p ys\/SqT K H p ys)/\∀ l,H l=none->Q (.ref l) (upd H l (.lst ys))
theorem lC (h:X.K=K):CallR X (.type "list") (zX K):=by subst h;exact Gu
theorem iZ (h:X.K=K) (hu:X.A.units+64<cLine):OpR X (compareOp .Eq) (tY K):=by subst h;exact AK hu
theorem ff (h:X.K=K) (hu:X.A.units+64<cLine):OpR X (compareOp .NotEq) (tU K):=by subst h;exact AH hu
theorem wO (h:X.K=K):CallR X (.builtin "isinstance") (iV K):=by subst h;exact Gw
theorem dj {tg l:Expr} {tl:TE} (h:X.K=K) (hl:PE X l tl):PI X tg l (vL K tl):=by subst h;exact Av hl
theorem aO {e:Expr} {ta:TE} {f:Str} {pos:Pos} (h:X.K=K) (he:PE X e ta) (hb:attributeBase e f X.env (eval e X.env)=eval e X.env):PE X (.Attribute e f pos) (rD K ta f):=by subst h;exact AD he hb
end
end L2
namespace L2
open PySem PySem.Spec PyProof.Rows
def Ite (K:PySem.W.Frag) (a:Addr):It :=
 ⟨fun i H=>∃ xs x,SqL K H a xs/\xs[i]?=some x,fun i H x H'=>∃ v p,x=.ref p/\H p=none/\H'=upd H p (.tup [.int i,v])/\∀ xs,SqL K H a xs->xs[i]?=some v,fun i H=>∃ xs,SqL K H a xs/\xs.length<=i⟩
theorem xF {P:Program} {w:World} {K:PySem.W.Frag} {es:List Expr} {x1:Nat} {tp:Pos} (a e it:Addr) (hne:e≠it):Turn P w K (.Tuple es x1 tp) (Ite K a) [e,it] e (fun i h=>(∃ old,IsEnum h e it (i:Int) old)/\h.IsListIter it a i) where
 mem:=by simp
 obj:=fun i h st b hb=>by
  obtain ⟨⟨old,he⟩,hi⟩:=st
  rcases List.mem_cons.mp hb with rfl | hb
  ·exact ⟨_,he,fun v z=>by cases z⟩
  ·have q:b=it:=by simpa using hb
   subst q
   obtain ⟨o,e,c,d⟩:=hi
   exact ⟨o,e,fun v z=>by rw [d] at z;cases z⟩
 keep:=fun i h h' st k=>by
  obtain ⟨⟨old,he⟩,hi⟩:=st
  exact ⟨⟨old,k e (by simp) _ he⟩,hi.at fun o q=>k it (by simp) o q⟩
 item:=by
  intro X hP hw hK hc i pins s σ H E I hf st hg
  subst hP hw hK
  obtain ⟨⟨old,he⟩,hi⟩:=st
  obtain ⟨xs,x,hq,hx⟩:=hg
  obtain ⟨its,rv,p,hz⟩:=I.list hq
  obtain ⟨u,hu,ru⟩:=rv.get hx
  refine wpAny_pyNext_enum_item he hi p.isList (x:=u) (by simpa using hu) hne fun h' out hit' htup hsz kk=>?_
  have hfp:H s.heap.objs.size=none:=I.hok.fresh (Nat.le_refl _)
  have nfp:∀ b o,H b=some o->b≠e/\b≠it:=fun b o q=>⟨fun z=>(by rw [z,(hf e (by simp)).1] at q;cases q),fun z=>(by rw [z,(hf it (by simp)).1] at q;cases q)⟩
  have I1:Inv X pins σ (upd H s.heap.objs.size (.tup [.int i,x])) { s with heap:=h',toks:=s.toks+1 }:=by
   refine I.step (g':=s.gens) (d':=s.drawn) (ch:=[e,it]) (fun b hb=>?_) (fun b o _ _ hc q _=>kk b o (fun z=>hc (by simp [z])) (fun z=>hc (by simp [z])) q)
    (fun b o _ _ hc q _=>⟨o.slots,kk b o (fun z=>hc (by simp [z])) (fun z=>hc (by simp [z])) q⟩) (fun b o _ q n=>by rw [upd_ne (Nat.ne_of_lt (Heap.lt_size q))];exact n)
    (fun b o hc q=>⟨o,kk b o (fun z=>hc (by simp [z])) (fun z=>hc (by simp [z])) q⟩) (fun b ys q=>by rw [upd_ne (aR q hfp)];exact q) (fun b o ys q=>by rw [upd_ne (aR q hfp)];exact q)
    (fun b ps q=>⟨#[],by rw [upd_ne (aR q hfp),q];simp⟩) (fun m hm=>?_) (fun b o q=>?_) I.bare
   ·obtain ⟨f0,f1,f2,f3,f4,f5⟩:=hf b hb
    exact ⟨f3,f1,f4,f5⟩
   ·obtain ⟨o,es',ep',ho,r⟩:=hm
    exact ⟨o,es',ep',kk _ o (Ne.symm (hf e (by simp)).2.1) (Ne.symm (hf it (by simp)).2.1) ho,r⟩
   ·by_cases hb:b=s.heap.objs.size
    ·subst hb
     rw [ao] at q
     cases q
     exact ⟨by show 2<=sizeLine;decide,[.int i s.toks,u],.cons ⟨_,rfl⟩ (.cons ru .nil),⟨_,htup,rfl,_,rfl⟩⟩
    ·rw [upd_ne hb] at q
     refine (I.hok b o q).stay (fun c v hc z=>?_) (fun c z=>by rw [upd_ne (aR z hfp)];exact z) fun c ys z=>by rw [upd_ne (aR z hfp)];exact z
     rcases hc with rfl | hc
     ·exact kk c v (nfp c o q).1 (nfp c o q).2 z
     ·exact kk c v (nfp c _ hc).1 (nfp c _ hc).2 z
  refine ⟨_,rfl,wpAny_letOwnedTupleGo_enum out fun h'' he'' sb=>?_⟩
  obtain ⟨f0,f1,f2,f3,f4,f5⟩:=hf e (by simp)
  have hen:upd H s.heap.objs.size (.tup [.int i,x]) e=none:=by
   rw [upd_ne (Nat.ne_of_lt (Heap.lt_size he))];exact f0
  have I2:=I1.turned (h':=h'') (t':=s.toks+1) (it:=e) (fun b o hb q=>(sb.2 b hb).trans q) hen f1 f3 f4 f5
  refine ⟨.ref s.heap.objs.size,_,I2,rfl,⟨x,_,rfl,hfp,rfl,fun ys hy=>by rw [I.list_inj hy hq];exact hx⟩,⟨⟨u,?_⟩,hit'.at fun o q=>(sb.2 it (Ne.symm hne)).trans q⟩,fun b hb=>?_⟩
  ·have:((i+1:Nat):Int)=(i:Int)+1:=by omega
   rw [this];exact he''
  ·have hlt:b<s.heap.objs.size:=by
    rcases List.mem_cons.mp hb with rfl | hb
    ·exact Heap.lt_size he
    ·have q:b=it:=by simpa using hb
     subst q
     obtain ⟨o,e1,_⟩:=hi
     exact Heap.lt_size e1
   rw [upd_ne (Nat.ne_of_lt hlt)]
   exact (hf b hb).1
 done:=by
  intro X hP hw hK hc i pins s σ H E I hf st hg
  subst hP hw hK
  obtain ⟨⟨old,he⟩,hi⟩:=st
  obtain ⟨xs,hq,hx⟩:=hg
  obtain ⟨its,rv,p,hz⟩:=I.list hq
  obtain ⟨f0,f1,f2,f3,f4,f5⟩:=hf it (by simp)
  have hl:=rv.length
  exact wpAny_pyNext_enum_end (I.ok.hd hc) he hi p.isList (by simp;omega) fun h' eb=>⟨rfl,I.turned (t':=s.toks) (fun b o hb e=>eb b o hb e) f0 f1 f3 f4 f5⟩
 self:=fun _ _ _ _ _ st h=>by
  obtain ⟨⟨old,he⟩,hi⟩:=st
  exact wpAny_pyIter_enum he h
section
variable {X:Cx}
def Eb (K:PySem.W.Frag) (ta:TA):TI:=fun σ H R=>ta σ H fun vs H1=>∃ a,vs=[.ref a]/\(∃ xs,SqL K H1 a xs)/\R (Ite K a) H1
theorem oC {es:List Expr} {x1:Nat} {tp:Pos} {a:Expr} {ta:TA} {p pos:Pos} (hg:Gl X "enumerate") (hm:X.mg "enumerate"=none) (ha:PA X [a] ta) (hs:starEach [a] X.env=[(false,eval a X.env)]:=by rfl):PI X (.Tuple es x1 tp) (.Call (.Name "enumerate" p) [a] [] pos) (Eb X.K ta):=by
 intro pins s σ H R I h
 refine Call_ (eu I hg hm boot_enumerate (PyProof.Rows.callWith_type1 (thn (ha pos pins s σ H _ I h) fun us s1 ⟨vs,H1,I1,r1,q1⟩=>?_) hs rfl))
 obtain ⟨a',e,⟨xs,hq⟩,q⟩:=q1
 subst e
 obtain ⟨u,rfl,ru⟩:=r1.one
 cases ru
 obtain ⟨its,rv,pl,hz⟩:=I1.list hq
 refine call_enumerate_list pl.isList fun h' he hit hsz hk=>?_
 have I2:Inv X pins σ H1 { s1 with heap:=h' }:=I1.kept (t':=s1.toks) hk
 refine wpAny_pyIter_enum he ?_
 refine ⟨s1.heap.objs.size+1,[s1.heap.objs.size+1,s1.heap.objs.size],_,_,H1,rfl,I2,xF a' _ _ (Nat.succ_ne_self _),⟨⟨_,he⟩,hit⟩,fun b hb=>?_,q⟩
 have hb':s1.heap.objs.size<=b:=by
  rcases List.mem_cons.mp hb with rfl | hb
  ·exact Nat.le_succ _
  ·have q:b=s1.heap.objs.size:=by simpa using hb
   subst q;exact Nat.le_refl _
 exact I1.fpOk hb' (I1.hok.fresh hb')
end
theorem pH {K:PySem.W.Frag} {a:Addr} {xs:List V} {g:TG} {tb:TS} {D:c7} {σ:St} {H:Hp} (Pv:Nat->St->Hp->Prop) (h0:Pv 0 σ H) (hl:∀ i σ H,i<=xs.length->Pv i σ H->SqL K H a xs)
 (hs:∀ i x σ H p,xs[i]?=some x->Pv i σ H->H p=none->g (.ref p) σ (upd H p (.tup [.int i,x])) fun σ2 H2=>tb { D with nx:=Pv (i+1),ct:=Pv (i+1),bk:=D.nx } σ2 H2) (hd:∀ σ H,Pv xs.length σ H->D.nx σ H) :
 ∃ W:Nat->Nat->St->Hp->Prop,(∃ m,W 0 m σ H)/\∀ i m σ H,W i m σ H ->
   ((Ite K a).stop i H/\D.nx σ H)\/((Ite K a).go i H/\∃ N:St->Hp->Prop,(∀ σ' H',N σ' H'->∃ m',m'<m/\W (i+1) m' σ' H')/\∀ x H',(Ite K a).yld i H x H'->g x σ H' fun σ2 H2=>tb { D with nx:=N,ct:=N,bk:=D.nx } σ2 H2):=by
 refine ⟨fun i m σ H=>m=xs.length-i/\i<=xs.length/\Pv i σ H,⟨xs.length,by simp,Nat.zero_le _,h0⟩,?_⟩
 rintro i m σ H ⟨rfl,hi,p⟩
 have q:=hl i σ H hi p
 by_cases hlt:i<xs.length
 ·refine .inr ⟨⟨xs,xs[i],q,by simp [hlt]⟩,Pv (i+1),fun σ' H' p'=>⟨xs.length-(i+1),by omega,rfl,hlt,p'⟩,fun x H' y=>?_⟩
  obtain ⟨v,r,rfl,hr,rfl,y⟩:=y
  exact hs i v σ _ r (y xs q) p hr
 ·have e:i=xs.length:=by omega
  subst e
  exact .inl ⟨⟨xs,q,Nat.le_refl _⟩,hd σ H p⟩
def Itv (K:PySem.W.Frag) (a:Addr) (xs:List V):It :=
 ⟨fun i H=>SqL K H a xs/\i<xs.length,fun i H x H'=>H'=H/\xs[xs.length-1-i]?=some x,fun i H=>xs.length<=i⟩
theorem xB {P:Program} {w:World} {K:PySem.W.Frag} {tg:Expr} (a it:Addr) (xs:List V):Turn P w K tg (Itv K a xs) [it] it (fun i h=>i<=xs.length/\h.IsRevIter it a ((xs.length:Int)-1-i)) where
 mem:=by simp
 obj:=fun i h st b hb=>by
  have e:b=it:=by simpa using hb
  subst e
  obtain ⟨_,o,e,c,d⟩:=st
  exact ⟨o,e,fun v z=>by rw [d] at z;cases z⟩
 keep:=fun i h h' st k=>⟨st.1,st.2.at fun o e=>k it (by simp) o e⟩
 item:=by
  intro X hP hw hK hc i pins s σ H E I hf st hg
  subst hP hw hK
  obtain ⟨hq,hlt⟩:=hg
  obtain ⟨its,rv,p,hz⟩:=I.list hq
  have hl:=rv.length
  obtain ⟨x,hx⟩:∃ x,xs[xs.length-1-i]?=some x:=⟨_,List.getElem?_eq_getElem (by omega)⟩
  obtain ⟨u,hu,ru⟩:=rv.get hx
  obtain ⟨f0,f1,f2,f3,f4,f5⟩:=hf it (by simp)
  have e1:(xs.length:Int)-1-i=((xs.length-1-i:Nat):Int):=by omega
  have hit:=st.2
  rw [e1] at hit
  refine wpAny_pyNext_rev_item hit p.isList (x:=u) (by simpa using hu) fun h' st' sb=>?_
  have I1:Inv X pins σ H { s with heap:=h' }:=I.turned (t':=s.toks) (fun b o hb e=>(sb.2 b hb).trans e) f0 f1 f3 f4 f5
  obtain ⟨o,e,c,d⟩:=id st'
  refine ⟨u,rfl,lj (s:={ s with heap:=h' }) e c d (by decide) ⟨x,H,I1,ru,⟨rfl,hx⟩,⟨hlt,?_⟩,fun b hb=>(hf b hb).1⟩⟩
  have e2:(xs.length:Int)-1-((i+1:Nat):Int)=((xs.length-1-i:Nat):Int)-1:=by omega
  rw [e2];exact st'
 done:=by
  intro X hP hw hK hc i pins s σ H E I hf st hg
  subst hP hw hK
  obtain ⟨f0,f1,f2,f3,f4,f5⟩:=hf it (by simp)
  have hle:xs.length<=i:=hg
  have e1:(xs.length:Int)-1-i = -1:=by have:=st.1;omega
  have hit:=st.2
  rw [e1] at hit
  exact wpAny_pyNext_rev_end (I.ok.hd hc) hit fun h' eb=>⟨rfl,I.turned (t':=s.toks) (fun b o hb e=>eb b o hb e) f0 f1 f3 f4 f5⟩
 self:=fun _ _ _ _ _ st h=>wpAny_pyIter_revIter st.2 h
section
variable {X:Cx} {tg:Expr}
def Ea (K:PySem.W.Frag) (ta:TA):TI:=fun σ H R=>ta σ H fun vs H1=>∃ a xs,vs=[.ref a]/\SqL K H1 a xs/\R (Itv K a xs) H1
theorem oB {a:Expr} {ta:TA} {p pos:Pos} (hg:Gl X "reversed") (hm:X.mg "reversed"=none) (ha:PA X [a] ta) (hs:starEach [a] X.env=[(false,eval a X.env)]:=by rfl):PI X tg (.Call (.Name "reversed" p) [a] [] pos) (Ea X.K ta):=by
 intro pins s σ H R I h
 refine Call_ (eu I hg hm boot_reversed (PyProof.Rows.callWith_type1 (thn (ha pos pins s σ H _ I h) fun us s1 ⟨vs,H1,I1,r1,q1⟩=>?_) hs rfl))
 obtain ⟨a',xs,e,hq,q⟩:=q1
 subst e
 obtain ⟨u,rfl,ru⟩:=r1.one
 cases ru
 obtain ⟨its,rv,pl,hz⟩:=I1.list hq
 have hl:=rv.length
 refine call_reversed_list pl.isList ?_
 have hit:(s1.heap.push (revObj a' ((its.toArray.size:Int)-1))).IsRevIter s1.heap.objs.size a' ((xs.length:Int)-1-((0:Nat):Int)):=by
  have e1:(xs.length:Int)-1-((0:Nat):Int)=(its.toArray.size:Int)-1:=by rw [List.size_toArray];omega
  rw [e1]
  exact ⟨_,Heap.get?_push_size _ rfl,rfl,rfl⟩
 have I2:Inv X pins σ H1 { s1 with heap:=s1.heap.push (revObj a' ((its.toArray.size:Int)-1)) }:=I1.kept (t':=s1.toks) fun b o e=>Heap.get?_push_of_some _ e
 refine wpAny_pyIter_revIter (s:={ s1 with heap:=s1.heap.push (revObj a' ((its.toArray.size:Int)-1)) }) hit ?_
 refine ⟨s1.heap.objs.size,[s1.heap.objs.size],_,_,H1,rfl,I2,xB a' _ xs,⟨Nat.zero_le _,hit⟩,fun b hb=>?_,q⟩
 have e:b=s1.heap.objs.size:=by simpa using hb
 subst e
 exact I1.fpOk (Nat.le_refl _) (I1.hok.fresh (Nat.le_refl _))
end
theorem pF {K:PySem.W.Frag} {a:Addr} {xs:List V} {g:TG} {tb:TS} {D:c7} {σ:St} {H:Hp} (Pv:Nat->St->Hp->Prop) (h0:Pv 0 σ H) (hl:∀ i σ H,i<=xs.length->Pv i σ H->SqL K H a xs)
 (hs:∀ i x σ H,i<xs.length->xs[xs.length-1-i]?=some x->Pv i σ H->g x σ H fun σ2 H2=>tb { D with nx:=Pv (i+1),ct:=Pv (i+1),bk:=D.nx } σ2 H2) (hd:∀ σ H,Pv xs.length σ H->D.nx σ H) :
 ∃ W:Nat->Nat->St->Hp->Prop,(∃ m,W 0 m σ H)/\∀ i m σ H,W i m σ H ->
   ((Itv K a xs).stop i H/\D.nx σ H)\/((Itv K a xs).go i H/\∃ N:St->Hp->Prop,(∀ σ' H',N σ' H'->∃ m',m'<m/\W (i+1) m' σ' H')/\∀ x H',(Itv K a xs).yld i H x H'->g x σ H' fun σ2 H2=>tb { D with nx:=N,ct:=N,bk:=D.nx } σ2 H2):=by
 refine ⟨fun i m σ H=>m=xs.length-i/\i<=xs.length/\Pv i σ H,⟨xs.length,by simp,Nat.zero_le _,h0⟩,?_⟩
 rintro i m σ H ⟨rfl,hi,p⟩
 by_cases hlt:i<xs.length
 ·refine .inr ⟨⟨hl i σ H hi p,hlt⟩,Pv (i+1),fun σ' H' p'=>⟨xs.length-(i+1),by omega,rfl,hlt,p'⟩,fun x H' y=>?_⟩
  obtain ⟨e,y⟩:=y
  subst e
  exact hs i x σ _ hlt y p
 ·have e:i=xs.length:=by omega
  subst e
  exact .inl ⟨Nat.le_refl _,hd σ H p⟩
end L2
namespace L2
open PySem PySem.Spec PyProof.Rows
structure FunD (K:PySem.W.Frag) (x qual:Str) (st:Stmt) (dV:Value) (f:Addr) (fd:FuncData):Prop where
 ex:∃ (oc:Value) (od:Option Addr) (kV doc pm:Value) (an:Option Addr) (cdv ct:Value) (osl:Array (Option Value)),
  fd=PySem.W.fnOf x qual (cQ st) (cG st) (aq st) dV kV doc pm an cdv ct/\K.lookup f=some ⟨oc,od,.func fd,osl⟩/\PySem.W.codeIn K cdv qual=true
 kp:PySem.W.keepIn K (.ref f)=true
section
variable {P:Program} {w:World} {K:PySem.W.Frag} {mg:Str->Option Value} {base:Heap}
theorem FunD.ok {x qual:Str} {st:Stmt} {dV:Value} {f:Addr} {fd:FuncData} {N ps:List Str} {k:Nat} {sp:Sp} (F:FunD K x qual st dV f fd) (S:FnScope N ps (aq st)) (len:∀ vs H Q E,sp vs H Q E->vs.length=ps.length)
 (hbody:∀ (cdv:Value) (A:Around) (outer:List Env) (s:Shared) (H:Hp) (vs:List V) (Q:VK) (E:XK),Room k (A.deeper (envOfC qual (aq st) s.heap.objs.size f cdv))->sp vs H Q E ->
   ∃ t,PSs (gB CX0 P w K mg base N qual (aq st) f cdv A outer s H E).nox (cG st) t/\t { nx:=fun _ H'=>Q .non H',rt:=Q } (start N vs) H):FnOk P w K mg base CX0 (k+1) f fd ps sp:=by
 obtain ⟨oc,od,kV,doc,pm,an,cdv,ct,osl,rfl,lk,hcd⟩:=F.ex
 refine we lk hcd S len fun A outer s H vs Q E hr hsp=>?_
 obtain ⟨t,h,q⟩:=hbody cdv A outer s H vs Q E hr hsp
 exact ⟨t,h.nox,q⟩
theorem FunD.binds {x qual:Str} {st:Stmt} {dV:Value} {f:Addr} {fd:FuncData} {ps:List Str} (F:FunD K x qual st dV f fd)
 (h:∀ (kV doc pm:Value) (an:Option Addr) (cdv ct:Value) (us:List Value),us.length=ps.length->bindArgs (PySem.W.fnOf x qual (cQ st) (cG st) (aq st) dV kV doc pm an cdv ct) ⟨us,[]⟩=pure (ps.zip us)):Binds K fd ps []:=by
 obtain ⟨oc,od,kV,doc,pm,an,cdv,ct,osl,rfl,lk,hcd⟩:=F.ex
 exact .all (h kV doc pm an cdv ct)
theorem FunD.bindsD {x qual:Str} {st:Stmt} {T:Addr} {f:Addr} {fd:FuncData} {ps:List Str} {ds tup:List Value} {o:Obj} {n:Nat} (m:Nat) (F:FunD K x qual st (.ref T) f fd) (lo:K.lookup T=some o) (hs:o.data=.seq tup.toArray n) (hm:m+ds.length=ps.length)
 (h:∀ (kV doc pm:Value) (an:Option Addr) (cdv ct:Value) (us:List Value),us.length=m->∃ k:Option (Array Value)->Sem (List (Str×Value)),
   bindArgs (PySem.W.fnOf x qual (cQ st) (cG st) (aq st) (.ref T) kV doc pm an cdv ct) ⟨us,[]⟩=seqItems? (.ref T) >>= k/\k (some tup.toArray)=pure (ps.zip (us++ds))):Binds K fd ps ds:=by
 obtain ⟨oc,od,kV,doc,pm,an,cdv,ct,osl,rfl,lk,hcd⟩:=F.ex
 intro s us KX hl
 rw [List.length_append] at hl
 obtain ⟨k,h1,h2⟩:=h kV doc pm an cdv ct us (by omega)
 exact PySem.W.binds_K (k:=k) KX rfl lo hs h1 h2
theorem v9 {x qual:Str} {st:Stmt} {f:Addr} {oc:Value} {od an:Option Addr} {osl:Array (Option Value)} {dV kV doc pm cdv ct:Value} (l:K.lookup f=some ⟨oc,od,.func (PySem.W.fnOf x qual (cQ st) (cG st) (aq st) dV kV doc pm an cdv ct),osl⟩)
 (c:PySem.W.codeIn K cdv qual=true) (k:PySem.W.keepIn K (.ref f)=true):FunD K x qual st dV f (PySem.W.fnOf x qual (cQ st) (cG st) (aq st) dV kV doc pm an cdv ct):=⟨⟨oc,od,kV,doc,pm,an,cdv,ct,osl,rfl,l,c⟩,k⟩
end
structure MCal (P:Program) (w:World) (K:PySem.W.Frag) (mg:Str->Option Value) (base:Heap) (k:Nat) (C:Addr) (m:Str) (ps:List Str) (sp:Sp) (f:Addr) (fd:FuncData):Prop where
 ok:FnOk P w K mg base CX0 k f fd ps sp
 mt:Meth K C m f
 bd:Binds K fd ps []
structure KCal (P:Program) (w:World) (K:PySem.W.Frag) (mg:Str->Option Value) (base:Heap) (k:Nat) (C:Addr) (x:Str) (ps:List Str) (sp:Sp) (f:Addr) (fd:FuncData) (ds:List Value) (dvs:List V):Prop where
 ok:FnOk P w K mg base CX0 k f fd ps sp
 mkr:Mk K C f
 mg:mg x=some (.ref C)
 bd:Binds K fd ps []
 bdD:Binds K fd ps ds
 vd:Vals dvs ds
end L2
namespace L2
open PySem PySem.Spec PyProof.Rows
section
variable {prog:Program} {w:World} {A:Around} {E:Value->Shared->Prop} {s:Shared}
end
section
variable {X:Cx} {K:PySem.W.Frag}
end
end L2
namespace L2
open PySem PySem.Spec PyProof.Rows
section
variable {P:Program} {w:World} {K:PySem.W.Frag} {mg:Str->Option Value} {base:Heap} {N:List Str} {qual:Str} {scope:Scope} {f:Addr} {cd:Value} {A:Around} {outer:List Env} {s:Shared} {H:Hp} {E:XK} {pins:List (Addr×Obj)} {σ:St} {H1:Hp} {s1:Shared}
end
end L2
namespace L2
open PySem PySem.Spec PyProof.Rows
def iy (lo:Int) (n:Nat):It:=⟨fun i _=>i<n,fun i H x H'=>H'=H/\x=.int (lo+i * -1),fun i _=>n<=i⟩
theorem xC {P:Program} {w:World} {K:PySem.W.Frag} {tg:Expr} (it:Addr) (lo:Int) (n:Nat):Turn P w K tg (iy lo n) [it] it (fun i h=>IsRangeIter h it (lo+(i:Nat) * -1) ((n:Int)-(i:Nat)) (-1)) where
 mem:=by simp
 obj:=fun i h st b hb=>by
  have e:b=it:=by simpa using hb
  subst e
  exact ⟨_,st,fun v z=>by
   have z':Data.fields _=Data.cell v:=z
   cases z'⟩
 keep:=fun i h h' st k=>k it (by simp) _ st
 item:=by
  intro X hP hw hK hc i pins s σ H E I hf st hg
  subst hP hw hK
  obtain ⟨f0,f1,f2,f3,f4,f5⟩:=hf it (by simp)
  have W:=Walks.range (prog:=X.prog) (w:=X.w) (I.ok.hd hc) it lo (-1) n
  refine W.item i s _ _ hg st fun v h' tk hv st' kk=>?_
  obtain ⟨t,rfl⟩:=hv
  have I1:Inv X pins σ H { s with heap:=h',toks:=tk }:=I.turned (fun b o hb e=>kk b o (by simpa using hb) e) f0 f1 f3 f4 f5
  exact ⟨_,rfl,lj (s:={ s with heap:=h',toks:=tk }) (n:="range_iterator") st' rfl rfl (by decide) ⟨.int (lo+i * -1),H,I1,⟨t,rfl⟩,⟨rfl,rfl⟩,st',fun b hb=>(hf b hb).1⟩⟩
 done:=by
  intro X hP hw hK hc i pins s σ H E I hf st hg
  subst hP hw hK
  obtain ⟨f0,f1,f2,f3,f4,f5⟩:=hf it (by simp)
  exact wpAny_pyNext_range_end (I.ok.hd hc) st (by have:n<=i:=hg;omega) fun h' eb=>⟨rfl,I.turned (t':=s.toks) (fun b o hb e=>eb b o hb e) f0 f1 f3 f4 f5⟩
 self:=fun _ _ _ _ _ st h=>wpAny_pyIter_rangeiter st h
theorem tT (a b:Int):Builtin.Range.rangeSize a b (-1)=if b<a then a-b else 0:=by
 unfold Builtin.Range.rangeSize
 rw [if_neg (by decide)]
 show (if a>b then (a-b-1)/1+1 else 0)=_
 rw [Int.ediv_one]
 split<;>omega
theorem yo {a b:Int} (ha : -(2^61)<=a) (ha':a<2^61) (hb : -(2^61)<=b) (hb':b<2^61):Builtin.Range.small a b (-1)=true:=by
 unfold Builtin.Range.small
 rw [tT]
 simp only [Builtin.Range.rangeFitsLong,Bool.and_eq_true,Bool.or_eq_true,decide_eq_true_eq,beq_iff_eq,show ¬ ((-1:Int)>0) by decide,if_false]
 split<;>omega
section
variable {X:Cx} {tg:Expr}
theorem zQ {pins:List (Addr×Obj)} {σ:St} {H:Hp} {s:Shared} {R:It->Hp->Prop} {E:Value->Shared->Prop} {lo hi:Int} {t u v:Tok} {tk:Nat} (I:Inv X pins σ H s) (h1 : -(2^61)<=lo) (h2:lo<2^61) (h3 : -(2^61)<=hi) (h4:hi<2^61)
 (q:R (iy lo (lo-hi).toNat) H):wpAny (model X.prog X.w) X.A (pyIter (.ref s.heap.objs.size)) (PIE X pins σ tg R) E { s with heap:=s.heap.push { cls:=.type "range",data:=.fields #[.int lo t,.int hi u,.int (-1) v] },toks:=tk }:=by
 refine wpAny_pyIter_range (IsRange.new ..) (yo h1 h2 h3 h4) ?_
 have I1:Inv X pins σ H { s with heap:=s.heap.push { cls:=.type "range",data:=.fields #[.int lo t,.int hi u,.int (-1) v] },toks:=tk }:=I.kept fun b o e=>Heap.get?_push_of_some _ e
 refine ⟨(s.heap.push { cls:=.type "range",data:=.fields #[.int lo t,.int hi u,.int (-1) v] }).objs.size,[(s.heap.push { cls:=.type "range",data:=.fields #[.int lo t,.int hi u,.int (-1) v] }).objs.size],_,_,H,rfl,
  I1.kept (t':=tk) fun b o e=>Heap.get?_push_of_some _ e,xC _ lo (lo-hi).toNat,?_,fun b hb=>?_,q⟩
 ·have e1:lo+((0:Nat):Int) * -1=lo:=by simp
  have e2:(((lo-hi).toNat:Nat):Int)-((0:Nat):Int)=Builtin.Range.rangeSize lo hi (-1):=by rw [tT];split<;>omega
  show IsRangeIter _ _ (lo+((0:Nat):Int) * -1) ((((lo-hi).toNat:Nat):Int)-((0:Nat):Int)) (-1)
  rw [e1,e2]
  exact Heap.get?_push_size _ rfl
 ·have e:b=(s.heap.push { cls:=.type "range",data:=.fields #[.int lo t,.int hi u,.int (-1) v] }).objs.size:=by simpa using hb
  subst e
  exact I1.fpOk (Nat.le_refl _) (I1.hok.fresh (Nat.le_refl _))
def D7 (ta:TA):TI:=fun σ H R=>ta σ H fun vs H1=>∃ i j:Int,vs=[.int i,.int j,.int (-1)]/\(-(2^61)<=i/\i<2^61 /\ -(2^61)<=j/\j<2^61)/\R (iy i (i-j).toNat) H1
theorem ul {a b c:Expr} {ta:TA} {p pos:Pos} (hg:Gl X "range") (hm:X.mg "range"=none) (ha:PA X [a,b,c] ta) (hs:starEach [a,b,c] X.env=[(false,eval a X.env),(false,eval b X.env),(false,eval c X.env)]:=by rfl) (hs2:starEach [b,c] X.env=[(false,eval b X.env),(false,eval c X.env)]:=by rfl) :
 PI X tg (.Call (.Name "range" p) [a,b,c] [] pos) (D7 ta):=by
 intro pins s σ H R I h
 refine Call_ (eu I hg hm boot_range (PyProof.Rows.callWith_type1 (thn (ha pos pins s σ H _ I h) fun us s1 ⟨vs,H1,I1,r1,q1⟩=>?_) (by rw [hs,hs2]) (by rw [hs2];rfl)))
 obtain ⟨i,j,e,⟨q1,q2,q3,q4⟩,q⟩:=q1
 subst e
 cases r1 with
 | cons r rr =>
   cases rr with
   | cons r' rr =>
     cases rr with
     | cons r'' rr =>
       cases rr
       obtain ⟨t,rfl⟩:=r
       obtain ⟨t',rfl⟩:=r'
       obtain ⟨t'',rfl⟩:=r''
       exact call_range_3 (by decide) (zQ I1 q1 q2 q3 q4 q) (Or.inl (PyProof.noPylong_small (by decide)))
end
theorem wa {lo:Int} {n:Nat} {g:TG} {tb:TS} {D:c7} {σ:St} {H:Hp} (Pv:Nat->St->Hp->Prop) (h0:Pv 0 σ H)
 (hs:∀ i σ H,i<n->Pv i σ H->g (.int (lo+i * -1)) σ H fun σ2 H2=>tb { D with nx:=Pv (i+1),ct:=Pv (i+1),bk:=D.nx } σ2 H2) (hd:∀ σ H,Pv n σ H->D.nx σ H) :
 ∃ W:Nat->Nat->St->Hp->Prop,(∃ m,W 0 m σ H)/\∀ i m σ H,W i m σ H ->
   ((iy lo n).stop i H/\D.nx σ H)\/((iy lo n).go i H/\∃ N:St->Hp->Prop,(∀ σ' H',N σ' H'->∃ m',m'<m/\W (i+1) m' σ' H')/\∀ x H',(iy lo n).yld i H x H'->g x σ H' fun σ2 H2=>tb { D with nx:=N,ct:=N,bk:=D.nx } σ2 H2):=by
 refine ⟨fun i m σ H=>m=n-i/\i<=n/\Pv i σ H,⟨n,by simp,Nat.zero_le _,h0⟩,?_⟩
 rintro i m σ H ⟨rfl,hi,p⟩
 by_cases hlt:i<n
 ·refine .inr ⟨hlt,Pv (i+1),fun σ' H' p'=>⟨n-(i+1),by omega,rfl,hlt,p'⟩,fun x H' y=>?_⟩
  obtain ⟨e,y⟩:=y
  subst e y
  exact hs i σ _ hlt p
 ·have e:i=n:=by omega
  subst e
  exact .inl ⟨Nat.le_refl _,hd σ H p⟩
end L2
namespace L2
open PySem PySem.Spec PyProof.Rows
section
variable {X:Cx} {K:PySem.W.Frag}
end
end L2
namespace L2
open PySem PySem.Spec PyProof.Rows
theorem Dj {P:Program} {w:World} {K:PySem.W.Frag} {mg mb:Str->Option Value} {CX:CXT} {k:Nat} {fa a:Addr} {fd:FuncData} {x:Str} {sp:Sp} {s₁:Shared} {vs:List Value} {ns:List Int}
 (KX:K.In s₁.heap) (hns:s₁.heap.Ns mainGlobals mg) (hb:s₁.heap.Ns builtinsNs mb) (hbb:∀ x:Str,x≠"__name__"->mb x=bootBuiltins x) (hlim:s₁.heap.NoLimit) (hse:s₁.heap.NoSeer) (hg:s₁.gens=#[])
 (ha:s₁.heap.get? a=some { cls:=.type "list",data:=.seq vs.toArray }) (hi:IntsAre vs ns) (hl:ns.length<=sizeLine) (hr:Room k callerA)
 (F:∀ base:Heap,K.In base->base.Ns mainGlobals mg->base.NoSeer->FnOk P w K mg base CX k fa fd [x] sp) (hbind:∀ (s:Shared) (u:Value),BindsTo s fd ⟨[u],[]⟩ [(x,u)])
 (hsp:∀ H:Hp,qI H->SqL K H a (ns.map V.int)->sp [.ref a] H (fun v _=>v=.bl true) fun _ _ _=>False)
 (hCX:∀ H e s',CX [] H s₁ (fun _ _ _=>False) e s'->False) :
 codeAny (model P w) callerA (.call (.ref fa) ⟨[.ref a],[]⟩) (fun r s'=>r=.ok (.ret (.bool true))/\OldK s₁.heap s'.heap/\s'.os=s₁.os/\AllBare s'.gens) s₁:=by
 have rv:=rc hi
 have lenV:=hi.length
 have core:∀ H:Hp,qI H->SqL K H a (ns.map V.int)->HOk P w H s₁.heap->(∀ b,H b≠none->b=a)->(H a≠none->K.lookup a=none) ->
  codeAny (model P w) callerA (.call (.ref fa) ⟨[.ref a],[]⟩) (fun r s'=>r=.ok (.ret (.bool true))/\OldK s₁.heap s'.heap/\s'.os=s₁.os/\AllBare s'.gens) s₁:=by
  intro H hO hS hok hA hK
  have base_of:∀ {b:Addr} {o:Obj},s₁.heap.get? b=some o->H b=none->(dQ s₁.heap H).get? b=some o:=fun e n=>Eg e n
  have noA:∀ {b:Addr} {o:Obj} {es:Array DictEntry} {ep:Nat},s₁.heap.get? b=some o->o.data=.dict es ep->H b=none:=fun {b o es ep} e d=>by
   cases q:H b with
   | none=>rfl
   | some u =>
     have e':b=a:=hA b (by rw [q];simp)
     subst e'
     rw [ha] at e;cases e
     have d':Data.seq vs.toArray _=Data.dict es ep:=d
     cases d'
  have nsK:∀ {b:Addr} {m:Str->Option Value},s₁.heap.Ns b m->(dQ s₁.heap H).Ns b m:=fun {b m} ⟨o,es,ep,e,d,r⟩=>⟨o,es,ep,base_of e (noA e d),d,r⟩
  have hKb:K.In (dQ s₁.heap H):=fun b o e=>base_of (KX b o e) (by
   cases q:H b with
   | none=>rfl
   | some u =>
     have e':b=a:=hA b (by rw [q];simp)
     subst e'
     rw [hK (by rw [q];simp)] at e;cases e)
  have hM:Mod K mg (dQ s₁.heap H):=⟨hKb,nsK hns,⟨mb,nsK hb,hbb⟩,let ⟨mc,h1,h2⟩:=hlim;⟨mc,nsK h1,h2⟩⟩
  have hSb:(dQ s₁.heap H).NoSeer:=by
   obtain ⟨⟨mc,c1,c2,c3⟩,⟨mm,m1,m2⟩,⟨mb',b1,b2⟩,⟨mg',bm,ob,g1,g2,g3,g4,g5⟩⟩:=hse
   refine ⟨⟨mc,nsK c1,c2,c3⟩,⟨mm,nsK m1,m2⟩,⟨mb',nsK b1,b2⟩,⟨mg',bm,ob,nsK g1,g2,base_of g3 ?_,g4,g5⟩⟩
   cases q:H bm with
   | none=>rfl
   | some u =>
     have e':bm=a:=hA bm (by rw [q];simp)
     rw [e',ha] at g3
     cases g3
     exact absurd (Value.type.inj g4) (by decide)
  have e0:Env0 P w K mg (dQ s₁.heap H) callerA [] s₁ H:=⟨rfl,hM,fun b o e=>BV e,Nat.le_of_eq (Ef _ _),trivial,fun b hb=>absurd (show b∈([]:List Addr) from hb) (by simp),hok,.of_eq hg⟩
  refine codeAny_mono ((F _ hKb (nsK hns) hSb).run callerA [] s₁ H ⟨[.ref a],[]⟩ [.ref a] [.ref a] _ _ hr e0 (hbind s₁ (.ref a)) (.cons rfl .nil) (hsp H hO hS)) fun r s' h=>?_
  cases r with
  | error e=>exact (hCX H e s' h).elim
  | ok fl =>
    cases fl with
    | next=>exact False.elim h
    | brk=>exact False.elim h
    | cont=>exact False.elim h
    | ret u =>
      obtain ⟨v,H',os,bare,un,hok',r',q⟩:=h
      have q':v=.bl true:=q
      subst q'
      obtain rfl:u=Value.bool true:=r'
      refine ⟨rfl,OldK.of_keep fun b o e=>?_,os,bare⟩
      cases q:H b with
      | none=>exact un.keep b o e q (by intro z;exact absurd (show b∈([]:List Addr) from z) (by simp)) (by simp)
      | some u =>
        rcases hO b with z | ⟨ob,xs,z⟩
        ·rw [q] at z;cases z
        ·have z2:=un.frzs b ob _ z
         obtain ⟨e1,_⟩:=hok b _ z
         obtain ⟨e2,_⟩:=hok' b _ z2
         rw [e] at e1;cases e1
         exact e2
 cases hk:K.lookup a with
 | some o =>
   have e:=KX a o hk
   rw [ha] at e
   cases e
   refine core (fun _=>none) (fun _=>.inl rfl) (.inr ⟨_,vs.toArray,_,hk,rfl,rfl,rfl,by rw [List.size_toArray,lenV];exact hl,by simpa using rv⟩) (fun b u z=>by have z':(none:Option HO)=some u:=z;cases z') (fun b z=>absurd rfl z) fun z=>absurd rfl z
 | none =>
   refine core (fun b=>if b=a then some (.frz { cls:=.type "list",data:=.seq vs.toArray } (.lst (ns.map V.int))) else none) (fun b=>?_) (.inl (.inr ⟨{ cls:=.type "list",data:=.seq vs.toArray },if_pos rfl⟩)) (fun b u z=>?_) (fun b z=>?_) fun _=>hk
   ·by_cases hb:b=a
    ·exact .inr ⟨_,_,if_pos hb⟩
    ·exact .inl (if_neg hb)
   ·by_cases hb:b=a
    ·have z':=(if_pos hb).symm.trans z
     cases z'
     subst hb
     exact ⟨ha,by rw [List.length_map];exact hl,vs,_,rv,ha⟩
    ·have z':=(if_neg hb).symm.trans z
     cases z'
   ·by_cases hb:b=a
    ·exact hb
    ·exact absurd (if_neg hb) z
theorem walk_ofS {l:PySem.W.OpenLaw} {n k:Nat} {q:Program} {loose:List Str} {XP:(Str->Option Value)->Heap->Prop} {YP:World->Heap->Prop} {d:DefRec} {K:Params->PySem.W.Frag} {CX:World->CXT} {sp:World->Sp} {x:Str}
 (hi:PyProof.Rows.importsNone q=true) (hn:l.most=some n) (hn2:n<=sizeLine) (hdf:d.params.defaults=[]) (hr:Room k callerA)
 (hY:∀ (w:World) (h:Heap),YP w h->(K w.params).In h)
 (F:∀ (w:World) (mg:Str->Option Value) (fa:Addr) (h:Heap),(K w.params).In h->h.Ns mainGlobals mg->mg d.name=some (.ref fa) ->
   ∃ fd:FuncData,(∀ (s:Shared) (u:Value),BindsTo s fd ⟨[u],[]⟩ [(x,u)]) /\
     ∀ base:Heap,(K w.params).In base->base.Ns mainGlobals mg->base.NoSeer->FnOk l.prog w (K w.params) mg base (CX w) k fa fd [x] (sp w))
 (hsp:∀ (w:World) (H:Hp) (a:Addr) (ns:List Int),ns.length<=n->qI H->SqL (K w.params) H a (ns.map V.int)->sp w [.ref a] H (fun v _=>v=.bl true) fun _ _ _=>False)
 (hCX:∀ (w:World) (H:Hp) (s:Shared) (e:Value) (s':Shared),CX w [] H s (fun _ _ _=>False) e s'->False) :
 PySem.W.WalkO q loose XP YP l.row.toRowW d [] (fun f vs=>PySem.call f vs):=by
 refine Att.attach_call hn hdf fun w s₀ s₁ mg mb fa o pm cd doc a vs ns G Y ho hd hcd hmg hobj hints hlen hg=>?_
 have KX:=hY w _ Y
 obtain ⟨fd,hb,hF⟩:=F w mg fa _ KX G.T.g hmg
 exact Dj KX G.T.g G.T.b G.T.builtins G.T.nolimit (G.T.seer hi) hg hobj hints (Nat.le_trans hlen hn2) hr hF hb (fun H hO hS=>hsp w H a ns hlen hO hS) fun H e s'=>hCX w H s₁ e s'
end L2
namespace L2
open PySem PySem.Spec PyProof.Rows
section
variable {X:Cx} {e:Env} {l:List Env}
theorem zA {pins:List (Addr×Obj)} {σ:St} {H:Hp} {s:Shared} (hs:X.base.NoSeer) (ht:X.prog.given.tree=none) (hd:X.A.depth+100<recursionLimit) (hst:X.stack=e::l) (h1:e.scope.isGenerator=false) (h2:e.scope.isCoroutine=false) (h3:e.builtins=builtinsNs) (h4:e.globals=mainGlobals) (I:Inv X pins σ H s):PylongRoom (model X.prog X.w) X.A s :=
 PylongRoom.of (I.ok.mod.nolimit.keeps I.bk) hd (SeerAt.of (hs.keeps I.bk) ht (by rw [I.ok.frames,hst]) h1 h2 h3 h4)
theorem AJ (hs:X.base.NoSeer) (ht:X.prog.given.tree=none) (hd:X.A.depth+100<recursionLimit) (hst:X.stack=e::l) (h1:e.scope.isGenerator=false) (h2:e.scope.isCoroutine=false) (h3:e.builtins=builtinsNs) (h4:e.globals=mainGlobals):OpR X (binaryOp .FloorDiv) (rI (fun _ j=>0<j) fun i j=>.int (i/j)):=by
 intro pins s σ H x y v u Q I rx ry h
 obtain ⟨i,j,rfl,rfl,hj,q⟩:=h
 obtain ⟨t,rfl⟩:=rx
 obtain ⟨t',rfl⟩:=ry
 have hj':(0:Int)<j:=hj
 refine floordiv_int (Int.ne_of_gt hj') ?_ (.inr (zA hs ht hd hst h1 h2 h3 h4 I))
 rw [Int.fdiv_eq_ediv_of_nonneg _ (Int.le_of_lt hj')]
 exact ⟨.int (i/j),H,I.tok _,⟨_,rfl⟩,q⟩
end
end L2
namespace L2
open PySem PySem.Spec PyProof.Rows
theorem Hd (a v:Value):argsOk "max" ⟨[a],[(Str.ofString "default",v)]⟩:=by unfold argsOk;kernel_rfl
def Top (val:Nat->Int) (n:Nat) (M:Int):Prop:=(∃ i,i<n/\val i=M)/\∀ i,i<n->val i<=M
theorem Top.more {val:Nat->Int} {n:Nat} {M:Int} (h:Top val n M) (hn:val n>M):Top val (n+1) (val n) :=
 ⟨⟨n,by omega,rfl⟩,fun i hi=>by
   by_cases e:i=n
   ·subst e;exact Int.le_refl _
   ·have:=h.2 i (by omega);omega⟩
theorem Top.less {val:Nat->Int} {n:Nat} {M:Int} (h:Top val n M) (hn:¬ val n>M):Top val (n+1) M :=
 ⟨let ⟨i,hi,e⟩:=h.1;⟨i,by omega,e⟩,fun i hi=>by
  by_cases e:i=n
  ·subst e;omega
  ·exact h.2 i (by omega)⟩
section
variable {prog:Program} {w:World} {A:Around} {R:Result->Shared->Prop} {I S:Addr} {fp wr:List Addr} {n:Nat} {P:Nat->Value->Prop} {St:Nat->Heap->Prop} {val:Nat->Int} {d:Value}
theorem kR:(toString "max"++toString ".loop":String)="max.loop":=by decide
theorem Cm (W:Walks prog w A.in1 I fp wr n P St) (hval:∀ i v,P i v->∃ t,v=.int (val i) t) (hSf:S∉fp) :
 ∀ (k j:Nat) (s:Shared) (m:Int) (t:Tok) (c:Nat),n-j=k->j<=n->St j s.heap->Top val j m ->
 s.heap.get? S=some { cls:=.type "list",dict:=none,data:=.seq #[.int m t,.int m t] c,slots:=#[] } ->
 (∀ M t h' tk,Top val n M->(∀ b o,b∉wr->b≠S->s.heap.get? b=some o->h'.get? b=some o)->R (.ok (.ret (.int M t))) { s with heap:=h',toks:=tk }) ->
 codeAny (model prog w) A (.builtin "max.loop" ⟨[.ref I,.none,.ref S],[("default",d)]⟩) R s:=by
 have hSw:S∉wr:=fun h=>hSf (W.sub _ h)
 have cm:=CmpOf.ints_gt (prog:=prog) (w:=w) (A:=A.in1) (P:=fun i v=>∃ t,v=.int (val i) t) val (fun _ _ h=>h)
 intro k
 induction k with
 | zero =>
   intro j s m t c hk hj hst hT hS hR
   have hin:j=n:=by omega
   subst hin
   refine codeAny_builtin F.entry_max_loop ?_
   rw [Around.under_plainId F.plain_max_loop _]
   refine wpAny_bind (wpAny_seqItems hS rfl ?_)
   show wpAny _ A.in1 (tryCatch (pyNext (.ref I)) _ >>= _) _ _ s
   refine wpAny_bind (wpAny_tryCatch (W.done s _ _ hst fun h' tk hk'=>?_))
   show wpAny _ A.in1 (updateSeq S (fun _=>#[]) >>= _) _ _ _
   refine wpAny_bind (wpAny_updateSeq (hk' S _ hSw hS) rfl (wpAny_bind (wpAny_letGo (wpAny_pure ?_))))
   exact hR m t _ tk hT fun b o hb hbS e=>(Heap.get?_update_other _ _ (Ne.symm hbS)).trans (hk' b o hb e)
 | succ k ih =>
   intro j s m t c hk hj hst hT hS hR
   have hlt:j<n:=by omega
   refine codeAny_builtin F.entry_max_loop ?_
   rw [Around.under_plainId F.plain_max_loop _]
   refine wpAny_bind (wpAny_seqItems hS rfl ?_)
   show wpAny _ A.in1 (tryCatch (pyNext (.ref I)) _ >>= _) _ _ s
   refine wpAny_bind (wpAny_tryCatch (W.item j s _ _ hlt hst fun v h' tk hP hst' hk'=>?_))
   have hS':=hk' S _ hSw hS
   obtain ⟨u,rfl⟩:=hval j v hP
   obtain ⟨i0,_,e0⟩:=hT.1
   show wpAny _ A.in1 (tryCatch (holding [_,_] (richCompare .Gt (.int (val j) u) (.int m t) >>= _)) _ >>= _) _ _ _
   refine wpAny_bind (wpAny_tryCatch (wpAny_holding (wpAny_bind (cm j i0 _ _ _ _ _ ⟨u,rfl⟩ ⟨t,by rw [e0]⟩ ?_))))
   refine wpAny_bind (wpAny_holding (wpAny_truthy_bool ?_))
   refine wpAny_bind (wpAny_letGo (wpAny_pure ?_))
   show wpAny _ A.in1 (if decide (val j>val i0)=true then _ else _) _ _ _
   rw [e0]
   by_cases hb:val j>m
   ·rw [decide_eq_true hb]
    simp only [if_true]
    refine wpAny_bind ?_
    refine wpAny_updateSeq hS' rfl (wpAny_bind (wpAny_letGo ?_))
    rw [kR]
    refine wpAny_pure ⟨plainId_quiet F.plain_max_loop _,ih (j+1) _ (val j) u _ (by omega) hlt (W.frame _ _ _ hst' fun b hbf o e=>?_) (hT.more hb) (Heap.get?_update_self _ hS' rfl) fun M t' h'' tk'' hM hk''=>?_⟩
    ·exact (Heap.get?_update_other _ _ (fun h:S=b=>hSf (h ▸ hbf))).trans e
    ·exact hR M t' h'' tk'' hM fun b o hbw hbS e=>hk'' b o hbw hbS ((Heap.get?_update_other _ _ (Ne.symm hbS)).trans (hk' b o hbw e))
   ·rw [decide_eq_false hb]
    simp only [Bool.false_eq_true,if_false]
    refine wpAny_bind (wpAny_letGo ?_)
    rw [kR]
    refine wpAny_pure ⟨plainId_quiet F.plain_max_loop _,ih (j+1) _ m t c (by omega) hlt hst' (hT.less hb) hS' fun M t' h'' tk'' hM hk''=>?_⟩
    exact hR M t' h'' tk'' hM fun b o hbw hbS e=>hk'' b o hbw hbS (hk' b o hbw e)
theorem Cn (W:Walks prog w A.in1 I fp wr n P St) (hval:∀ i v,P i v->∃ t,v=.int (val i) t) (hSf:S∉fp) {s:Shared} {c:Nat} (hst:St 0 s.heap)
 (hS:s.heap.get? S=some { cls:=.type "list",dict:=none,data:=.seq #[] c,slots:=#[] })
 (h0:n=0->∀ h' tk,(∀ b o,b∉wr->b≠S->s.heap.get? b=some o->h'.get? b=some o)->R (.ok (.ret d)) { s with heap:=h',toks:=tk })
 (hR:∀ M t h' tk,Top val n M->(∀ b o,b∉wr->b≠S->s.heap.get? b=some o->h'.get? b=some o)->R (.ok (.ret (.int M t))) { s with heap:=h',toks:=tk }) :
 codeAny (model prog w) A (.builtin "max.loop" ⟨[.ref I,.none,.ref S],[("default",d)]⟩) R s:=by
 have hSw:S∉wr:=fun h=>hSf (W.sub _ h)
 refine codeAny_builtin F.entry_max_loop ?_
 rw [Around.under_plainId F.plain_max_loop _]
 refine wpAny_bind (wpAny_seqItems hS rfl ?_)
 show wpAny _ A.in1 (tryCatch (pyNext (.ref I)) _ >>= _) _ _ s
 by_cases hn:n=0
 ·subst hn
  refine wpAny_bind (wpAny_tryCatch (W.done s _ _ hst fun h' tk hk'=>?_))
  refine wpAny_bind (wpAny_rule (wpAny_pure ?_))
  exact h0 rfl h' tk fun b o hb _ e=>hk' b o hb e
 ·refine wpAny_bind (wpAny_tryCatch (W.item 0 s _ _ (by omega) hst fun v h' tk hP hst' hk'=>?_))
  have hS':=hk' S _ hSw hS
  obtain ⟨u,rfl⟩:=hval 0 v hP
  show wpAny _ A.in1 (updateSeq S (fun _=>#[.int (val 0) u,.int (val 0) u]) >>= _) _ _ _
  refine wpAny_bind (wpAny_updateSeq hS' rfl ?_)
  rw [kR]
  refine wpAny_pure ⟨plainId_quiet F.plain_max_loop _,Cm W hval hSf _ 1 _ (val 0) u _ rfl (by omega) (W.frame _ _ _ hst' fun b hbf o e=>?_) ⟨⟨0,by omega,rfl⟩,fun i hi=>?_⟩ (Heap.get?_update_self _ hS' rfl) fun M t h'' tk'' hM hk''=>?_⟩
  ·exact (Heap.get?_update_other _ _ (fun h:S=b=>hSf (h ▸ hbf))).trans e
  ·have:i=0:=by omega
   subst this;exact Int.le_refl _
  ·exact hR M t h'' tk'' hM fun b o hbw hbS e=>hk'' b o hbw hbS ((Heap.get?_update_other _ _ (Ne.symm hbS)).trans (hk' b o hbw e))
end
section
variable {prog:Program} {w:World} {A:Around} {E:Value->Shared->Prop} {s:Shared} {l:Addr} {xs:Array (Int×Tok)} {d:Value}
theorem Gs {Q:Value->Shared->Prop} (hh:A.handled=none) (hl:s.heap.IsList l (intItems xs))
 (h0:xs.size=0->∀ h' tk,(∀ b o,s.heap.get? b=some o->h'.get? b=some o)->Q d { s with heap:=h',toks:=tk })
 (h:∀ M t h' tk,Top (numAt xs) xs.size M->(∀ b o,s.heap.get? b=some o->h'.get? b=some o)->Q (.int M t) { s with heap:=h',toks:=tk }) :
 wpAny (model prog w) A (call (.builtin "max") [.ref l] [("default",d)]) Q E s:=by
 refine wpAny_call (codeAny_call_builtin F.plain_max F.entry_max ?_)
 simp only [checkBuiltinCall,F.kind_max]
 have key:wpAny (model prog w) A.in1 (Builtin.«max» ⟨[.ref l],[("default",d)]⟩) (fun fin s'=>match fin with
  | .done f=>(match (Except.ok f:Result) with | .ok (.ret v)=>Q v s' | .ok _=>False | .error e=>E e s')
  | .again c'=>c'.quiet=true/\codeAny (model prog w) A c' (fun r s'=>match r with | .ok (.ret v)=>Q v s' | .ok _=>False | .error e=>E e s') s') E s:=by
  show wpAny _ A.in1 (Builtin.Builtins.bindParams "max" ["key","default"] 0 ⟨[],[("default",d)]⟩ >>= _) _ _ s
  refine wpAny_bind (wpAny_of_eq (show Builtin.Builtins.bindParams "max" ["key","default"] 0 ⟨[],[("default",d)]⟩=pure [none,some d] from rfl) ?_)
  refine wpAny_bind (wpAny_pure ?_)
  refine wpAny_bind (iter_intList hl fun s₂ e st hfp hlI=>?_)
  subst e
  refine wpAny_bind (wpAny_newObj_type ?_)
  rw [kR]
  have W:=Walks.list (prog:=prog) (w:=w) (A:=A.in1) hh _ l hlI (intItems xs)
  have sz:(intItems xs).size=xs.size:=by simp [intItems]
  refine wpAny_pure ⟨plainId_quiet F.plain_max_loop _,Cn W (val:=numAt xs) (fun i v=>intItems_at) (fun hm=>Nat.lt_irrefl _ (hfp _ hm)) (W.frame _ _ _ st fun b _ o e=>Heap.get?_push_of_some _ e) (Heap.get?_push_size _ rfl) (fun hn h' tk hk=>?_) fun M t h' tk hM hk=>?_⟩
  ·exact h0 (sz ▸ hn) h' tk (old_kept fun b o hb e=>hk b o hb (Nat.ne_of_lt (Heap.lt_size e)) (Heap.get?_push_of_some _ e))
  ·exact h M t h' tk (sz ▸ hM) (old_kept fun b o hb e=>hk b o hb (Nat.ne_of_lt (Heap.lt_size e)) (Heap.get?_push_of_some _ e))
 cases hsig:Manifest.signature? "max" with
 | none=>exact wpAny_pure key
 | some sig =>
   have ha':Bind.checkArgs "max" sig ⟨[.ref l],[("default",d)]⟩=pure ():=by simpa only [argsOk,hsig] using Hd (.ref l) d
   simp only [ha']
   exact wpAny_pure key
end
def tV (K:PySem.W.Frag):R2:=fun x y H Q=>∃ (p:Addr) (ns:List Int),x=.ref p/\SqL K H p (ns.map V.int)/\(ns=[]->Q y H)/\∀ M,M∈ns->(∀ a∈ns,a<=M)->Q (.int M) H
theorem vK:∀ {ns:List Int} {us:List Value},Vals (ns.map V.int) us->∃ ts:List (Int×Tok),us.toArray=intItems ts.toArray/\ts.map (·.1)=ns
 | [],_,h=>by cases h;exact ⟨[],by simp [intItems],rfl⟩
 | n::ns,_,h=>by
   cases h with
   | cons r rr =>
     obtain ⟨t,rfl⟩:=r
     obtain ⟨ts,e1,e2⟩:=vK rr
     refine ⟨(n,t)::ts,?_,by rw [List.map_cons,e2]⟩
     have e3:=congrArg Array.toList e1
     simp only [intItems,List.map_toArray] at e3 ⊢
     simpa using e3
theorem xP {ts:List (Int×Tok)} {M:Int} (h:Top (numAt ts.toArray) ts.toArray.size M):M∈ts.map (·.1)/\∀ a∈ts.map (·.1),a<=M:=by
 have g:∀ (i:Nat) (hi:i<ts.length),numAt ts.toArray i=(ts[i]).1:=fun i hi=>by simp [numAt,hi]
 obtain ⟨⟨i,hi,e⟩,h2⟩:=h
 have hi':i<ts.length:=by simpa using hi
 constructor
 ·rw [<- e,g i hi'];exact List.mem_map.mpr ⟨_,List.getElem_mem hi',rfl⟩
 ·intro a ha
  obtain ⟨p,hp,rfl⟩:=List.mem_map.mp ha
  obtain ⟨j,hj,rfl⟩:=List.getElem_of_mem hp
  rw [<- g j hj];exact h2 j (by simpa using hj)
section
variable {X:Cx} {K:PySem.W.Frag} {e ed:Expr} {ta td:TE} {p pos kp:Pos}
theorem AB (hK:X.K=K) (hc:X.calm=true) (hg:Gl X "max") (hm:X.mg "max"=none) (ha:PE X e ta) (hd:PE X ed td)
 (he:starEach [e] X.env=(false,eval e X.env)::starEach [] X.env:=by rfl):PE X (.Call (.Name "max" p) [e] [⟨some "default",ed,kp⟩] pos) (tOp (tV K) ta td):=by
 subst hK
 intro pins s σ H Q I h
 refine wpAny_Call_Name_kw (eu I hg hm boot_max ?_ (by decide) (by decide))
 refine callWith_kw (thn (aa ha ab he pos pins s σ H (fun vs H1=>match vs with | [x]=>td σ H1 fun y H2=>tV X.K x y H2 Q | _=>False) I h) fun us s1 ⟨vs,H1,I1,r1,q1⟩=>?_) (by rw [he];rfl) (by rw [he];rfl) rfl rfl
 obtain ⟨x,rfl⟩:∃ x,vs=[x]:=by
  match vs,q1 with
  | [x],_=>exact ⟨x,rfl⟩
 obtain ⟨u,rfl,ru⟩:=eQ r1
 refine kws_cons (thn (hd pins s1 σ H1 _ I1 q1) fun v s2 ⟨y,H2,I2,ry,q2⟩=>kws_nil ?_)
 obtain ⟨a,ns,rfl,hq,k0,k1⟩:=q2
 cases ru
 obtain ⟨its,r',pl,hz⟩:=I2.list hq
 obtain ⟨ts,e1,e2⟩:=vK r'
 have il:=pl.isList
 rw [e1] at il
 refine Gs (I2.ok.hd hc) il (fun h0 h' tk k=>⟨y,H2,I2.kept k,ry,k0 ?_⟩) fun M t h' tk hM k=>⟨.int M,H2,I2.kept k,⟨t,rfl⟩,?_⟩
 ·have:ts=[]:=by simpa using h0
  rw [<- e2,this];rfl
 ·obtain ⟨m1,m2⟩:=xP hM
  rw [e2] at m1 m2
  exact k1 M m1 m2
end
theorem wP:∀ {bs:List Bool} {us:List Value},Vals (bs.map V.bl) us->us=bs.map Value.bool
 | [],_,h=>by cases h;rfl
 | b::bs,_,h=>by
   cases h with
   | cons r rr =>
     cases r
     rw [wP rr];rfl
theorem Hf (bs:List Bool):(List.range bs.length).any (fun i=>bs.getD i false)=bs.any id:=by
 rw [Bool.eq_iff_iff,List.any_eq_true,List.any_eq_true]
 constructor
 ·rintro ⟨i,hi,e⟩
  have hi':=List.mem_range.mp hi
  refine ⟨bs[i],List.getElem_mem hi',?_⟩
  simpa [List.getD,List.getElem?_eq_getElem hi'] using e
 ·rintro ⟨b,hb,e⟩
  obtain ⟨i,hi,rfl⟩:=List.getElem_of_mem hb
  refine ⟨i,List.mem_range.mpr hi,?_⟩
  simpa [List.getD,List.getElem?_eq_getElem hi] using e
theorem Gx {X:Cx} {K:PySem.W.Frag} (hK:X.K=K) (hc:X.calm=true):CallR X (.builtin "any") (fun xs H Q=>∃ (p:Addr) (bs:List Bool),xs=[.ref p]/\SqL K H p (bs.map V.bl)/\Q (.bl (bs.any id)) H):=by
 subst hK
 intro pins s σ H xs us Q I r h
 obtain ⟨p,bs,rfl,hq,q⟩:=h
 obtain ⟨u,rfl,rx⟩:=eQ r
 cases rx
 obtain ⟨its,r',pl,hz⟩:=I.list hq
 have e:=wP r'
 subst e
 have hl:=pl.isList
 have hlt:p<s.heap.objs.size:=by obtain ⟨_,e,_⟩:=hl;exact Heap.lt_size e
 refine call_any_walk (wpAny_pyIter_list hl ?_)
 refine ⟨_,_,_,_,_,_,fun i=>bs.getD i false,rfl,Walks.list (A:=X.A.in1) (I.ok.hd hc) _ p (Nat.ne_of_lt hlt) _,⟨⟨_,Heap.get?_push_size _ rfl,rfl,rfl⟩,hl.push _⟩,fun i v s' Q' E' hP hQ=>?_,fun h' tk hk=>?_⟩
 ·have e:v=.bool (bs.getD i false):=by
   have hP':((bs.map Value.bool).toArray)[i]?=some v:=hP
   simp only [List.getElem?_toArray,List.getElem?_map,Option.map_eq_some_iff] at hP'
   obtain ⟨b,hb,rfl⟩:=hP'
   simp [List.getD,hb]
  subst e
  exact wpAny_truthy_bool hQ
 ·refine ⟨.bl (bs.any id),H,I.kept (old_kept hk),?_,q⟩
  show Value.bool _=Value.bool _
  rw [<- Hf bs]
  simp
end L2
namespace L2
open PySem PySem.Spec PyProof.Rows
def gY:Sp:=fun _ _ _ _=>False
end L2
namespace L2
open PySem PySem.Spec PyProof.Rows
section
variable {X:Cx}
end
theorem vJ:∀ {ns:List Int} {us:List Value},Vals (ns.map V.int) us->∃ l:List (Int×Tok),us=l.map (fun p=>Value.int p.1 p.2)/\l.map (·.1)=ns
 | [],_,h=>by cases h;exact ⟨[],rfl,rfl⟩
 | n::ns,_,h=>by
   cases h with
   | cons r rr =>
     obtain ⟨t,rfl⟩:=r
     obtain ⟨l,rfl,e⟩:=vJ rr
     exact ⟨(n,t)::l,rfl,by rw [List.map_cons,e]⟩
theorem ue:∀ (l:List (Int×Tok)) (n:Nat),n<=l.length->preSum (numAt l.toArray) n=((l.take n).map (·.1)).sum
 | l,0,_=>rfl
 | l,n+1,h=>by
   rw [preSum,ue l n (by omega),List.take_add_one,List.getElem?_eq_getElem (by omega)]
   unfold numAt
   rw [List.getElem?_toArray,List.getElem?_eq_getElem (by omega),Option.toList_some,List.map_append,List.sum_append]
   show _=_+(l[n].1+0)
   rw [Int.add_zero];rfl
theorem Gr {X:Cx} {K:PySem.W.Frag} (hK:X.K=K) (hc:X.calm=true):CallR X (.builtin "sum") (fun xs H Q=>∃ (p:Addr) (ns:List Int),xs=[.ref p]/\SqL K H p (ns.map V.int)/\Q (.int ns.sum) H):=by
 subst hK
 intro pins s σ H xs us Q I r h
 obtain ⟨p,ns,rfl,hq,q⟩:=h
 obtain ⟨u,rfl,rx⟩:=eQ r
 cases rx
 obtain ⟨its,r',pl,hz⟩:=I.list hq
 obtain ⟨l,rfl,e⟩:=vJ r'
 have hl:s.heap.IsList p (intItems l.toArray):=by
  have h1:=pl.isList
  have e2:(l.map (fun p=>Value.int p.1 p.2)).toArray=intItems l.toArray:=by unfold intItems;simp
  rw [<- e2];exact h1
 refine sum_intListG (I.ok.hd hc) hl fun h' tk t' hk=>⟨.int ns.sum,H,I.kept hk,⟨t',?_⟩,q⟩
 have e3:preSum (numAt l.toArray) l.toArray.size=ns.sum:=by
  rw [List.size_toArray,ue l l.length (Nat.le_refl _),List.take_length,e]
 rw [e3]
structure CalE (P:Program) (w:World) (K:PySem.W.Frag) (mg:Str->Option Value) (base:Heap) (k:Nat) (x:Str) (ps:List Str) (sp:Sp) (f:Addr) (fd:FuncData) (ds:List Value) (dvs:List V):Prop where
 ok:FnOk P w K mg base CX0 k f fd ps sp
 mg:mg x=some (.ref f)
 kp:PySem.W.keepIn K (.ref f)=true
 bn:Binds K fd ps []
 bd:Binds K fd ps ds
 vd:Vals dvs ds
end L2
namespace L2
open PySem PySem.Spec PyProof.Rows
section
variable {X:Cx} {K:PySem.W.Frag}
end
end L2
namespace L2
open PySem PySem.Spec PyProof.Rows
def bg:Nat:=67000000
section
variable {X:Cx} {K:PySem.W.Frag}
end
end L2
namespace L2
open PySem PySem.Spec PyProof.Rows
section
variable {X:Cx} {K:PySem.W.Frag}
end
end L2
namespace RM
def cf (l:List Int) (k:Nat):Int:=l.getD k 0
theorem b7 (k:Nat):cf [] k=0:=by simp [cf]
theorem wI (x:Int) (l:List Int):cf (x::l) 0=x:=rfl
theorem ly (x:Int) (l:List Int) (k:Nat):cf (x::l) (k+1)=cf l k:=rfl
theorem bH {l:List Int} {k:Nat} (h:l.length<=k):cf l k=0:=by
 unfold cf;rw [List.getD,List.getElem?_eq_none_iff.mpr h];rfl
theorem cR {l:List Int} {k:Nat} (h:k<l.length):cf l k=l[k]:=by
 unfold cf;rw [List.getD,List.getElem?_eq_getElem h];rfl
theorem wK {l:List Int} {k:Nat} {x:Int} (h:l[k]?=some x):cf l k=x:=by
 unfold cf;rw [List.getD,h];rfl
theorem gf {l:List Int} {k:Nat} (h:k<l.length):l[k]?=some (cf l k):=by
 rw [cR h,List.getElem?_eq_getElem h]
theorem wL {l r:List Int} {k:Nat} (h:k<l.length):cf (l++r) k=cf l k:=by
 unfold cf;rw [List.getD,List.getD,List.getElem?_append_left h]
theorem jF {l r:List Int} {k:Nat} (h:l.length<=k):cf (l++r) k=cf r (k-l.length):=by
 unfold cf;rw [List.getD,List.getD,List.getElem?_append_right h]
theorem jC {l:List Int} {j k:Nat} {x:Int} (h:j<l.length):cf (l.set j x) k=if k=j then x else cf l k:=by
 unfold cf;rw [List.getD,List.getD,List.getElem?_set]
 by_cases e:j=k
 ·subst e;simp [h]
 ·rw [if_neg e,if_neg (fun z=>e z.symm)]
theorem jD (n k:Nat):cf (List.replicate n 0) k=0:=by
 unfold cf;rw [List.getD,List.getElem?_replicate];split<;>rfl
theorem jE (f:Nat->Int) (n k:Nat):cf ((List.range n).map f) k=if k<n then f k else 0:=by
 unfold cf;rw [List.getD,List.getElem?_map]
 by_cases h:k<n
 ·rw [if_pos h,List.getElem?_range h];rfl
 ·rw [if_neg h,List.getElem?_eq_none_iff.mpr (by simpa using h)];rfl
theorem dC {a b:List Int} (hl:a.length=b.length) (h:∀ k,k<a.length->cf a k=cf b k):a=b:=by
 apply List.ext_getElem hl
 intro k h1 h2
 rw [<- cR h1,<- cR h2];exact h k h1
def trim (l:List Int):List Int:=(l.reverse.dropWhile (· == 0)).reverse
theorem j3 (l:List Int):trim (l++[0])=trim l:=by
 unfold trim;rw [List.reverse_append];rfl
theorem iA (l:List Int) {x:Int} (h:x≠0):trim (l++[x])=l++[x]:=by
 unfold trim
 rw [List.reverse_append]
 show ((x::l.reverse).dropWhile (· == 0)).reverse=_
 rw [List.dropWhile_cons_of_neg (by simpa using h)]
 simp
def Tr (l:List Int):Prop:=∀ n,l.length=n+1->cf l n≠0
theorem ck (l:List Int):l=[]\/∃ r x,l=r++[x]:=by
 cases h:l.reverse with
 | nil=>left;simpa using h
 | cons x r=>right;exact ⟨r.reverse,x,by rw [<- List.reverse_reverse l,h];simp⟩
theorem io (r:List Int) (x:Int):cf (r++[x]) r.length=x:=by
 rw [jF (Nat.le_refl _),Nat.sub_self];rfl
theorem lP:Tr []:=fun n h=>by simp at h
theorem tr_snoc {r:List Int} {x:Int}:Tr (r++[x])↔x≠0:=by
 constructor
 ·intro h
  have:=h r.length (by simp)
  rwa [io] at this
 ·intro h n hn
  have e:n=r.length:=by simp at hn;omega
  subst e
  rwa [io]
theorem j2:∀ (n:Nat) (l:List Int),l.length=n->Tr (trim l)/\(trim l).length<=l.length/\∀ k,cf (trim l) k=cf l k
 | 0,l,h=>by
   have:l=[]:=List.length_eq_zero_iff.mp h
   subst this
   exact ⟨lP,Nat.le_refl _,fun _=>rfl⟩
 | n+1,l,h=>by
   rcases ck l with rfl | ⟨r,x,rfl⟩
   ·simp at h
   ·by_cases hx:x=0
    ·subst hx
     obtain ⟨h1,h2,h3⟩:=j2 n r (by simpa using h)
     rw [j3]
     refine ⟨h1,by rw [List.length_append];exact Nat.le_trans h2 (Nat.le_add_right _ _),fun k=>?_⟩
     rw [h3]
     by_cases hk:k<r.length
     ·rw [wL hk]
     ·rw [jF (Nat.le_of_not_lt hk),bH (Nat.le_of_not_lt hk)]
      cases e:k-r.length with
      | zero=>rfl
      | succ j=>rw [ly,b7]
    ·rw [iA r hx]
     exact ⟨tr_snoc.mpr hx,Nat.le_refl _,fun _=>rfl⟩
theorem di (l:List Int):Tr (trim l):=(j2 _ l rfl).1
theorem o5 (l:List Int):(trim l).length<=l.length:=(j2 _ l rfl).2.1
theorem dU (l:List Int) (k:Nat):cf (trim l) k=cf l k:=(j2 _ l rfl).2.2 k
theorem lK {l:List Int} (h:Tr l):trim l=l:=by
 rcases ck l with rfl | ⟨r,x,rfl⟩
 ·rfl
 ·exact iA r (tr_snoc.mp h)
theorem gw {a b:List Int} (ha:Tr a) (hb:Tr b) (h:∀ k,cf a k=cf b k):a=b:=by
 have le:∀ {a b:List Int},Tr a->(∀ k,cf a k=cf b k)->a.length<=b.length:=fun {a b} ha h=>by
  cases e:a.length with
  | zero=>exact Nat.zero_le _
  | succ n =>
    apply Classical.byContradiction
    intro hn
    exact ha n e (by rw [h n,bH (by omega)])
 have hl:a.length=b.length:=Nat.le_antisymm (le ha h) (le hb fun k=>(h k).symm)
 exact dC hl fun k _=>h k
theorem xH {l:List Int} {n:Nat} (hn:n<l.length) (h:cf l n=0):trim (l.take (n+1))=trim (l.take n):=by
 rw [List.take_add_one,gf hn,h]
 exact j3 _
theorem xI {l:List Int} {n:Nat} (hn:n<l.length) (h:cf l n≠0):trim (l.take (n+1))=l.take (n+1):=by
 rw [List.take_add_one,gf hn]
 exact iA _ h
end RM
namespace RM
def dN (f:Int) (a b:List Int):List Int:=(List.range (max a.length b.length)).map fun k=>cf a k+f*cf b k
theorem fC (f:Int) (a b:List Int) (k:Nat):cf (dN f a b) k=cf a k+f*cf b k:=by
 unfold dN
 rw [jE]
 by_cases h:k<max a.length b.length
 ·rw [if_pos h]
 ·have h1:a.length<=k:=by omega
  have h2:b.length<=k:=by omega
  rw [if_neg h,bH h1,bH h2];simp
def fG (a b:List Int):List Int:=trim (dN 1 a b)
def bM (a b:List Int):List Int:=trim (dN (-1) a b)
def tm (a b:List Int) (n i:Nat):Int:=if i<=n then cf a i*cf b (n-i) else 0
def sm (a b:List Int) (n:Nat):Nat->Int
 | 0=>0
 | j+1=>sm a b n j+tm a b n j
def aw (a b:List Int) (n:Nat):Int:=sm a b n a.length
def ad (a b:List Int):List Int:=if a=[]\/b=[] then [] else (List.range (a.length+b.length-1)).map (aw a b)
theorem xQ {a b:List Int} {n i:Nat} (h:a.length<=i):tm a b n i=0:=by
 unfold tm;split
 ·rw [bH h,Int.zero_mul]
 ·rfl
theorem j5 {a b:List Int} {n i:Nat} (h:b.length<=n-i):tm a b n i=0:=by
 unfold tm;split
 ·rw [bH h,Int.mul_zero]
 ·rfl
theorem iH {a b:List Int} {n:Nat}:∀ {j:Nat},(∀ i,i<j->tm a b n i=0)->sm a b n j=0
 | 0,_=>rfl
 | j+1,h=>by
   rw [sm,iH fun i hi=>h i (Nat.lt_succ_of_lt hi),h j (Nat.lt_succ_self _)];rfl
theorem uR {a b:List Int} {n:Nat} (h:a.length+b.length<=n+1):aw a b n=0:=by
 apply iH
 intro i hi
 exact j5 (by omega)
theorem i6 {a b:List Int} {la lb:Nat} (ha:a.length=la+1) (hb:b.length=lb+1):aw a b (la+lb)=cf a la*cf b lb:=by
 unfold aw
 rw [ha,sm,iH fun i hi=>j5 (by omega)]
 unfold tm
 rw [if_pos (Nat.le_add_right _ _),Nat.add_sub_cancel_left,Int.zero_add]
theorem aG (a b:List Int) (n:Nat):cf (ad a b) n=aw a b n:=by
 unfold ad
 by_cases h:a=[]\/b=[]
 ·rw [if_pos h,b7]
  symm
  apply iH
  intro i hi
  rcases h with rfl | rfl
  ·simp at hi
  ·exact j5 (Nat.zero_le _)
 ·rw [if_neg h,jE]
  by_cases hn:n<a.length+b.length-1
  ·rw [if_pos hn]
  ·rw [if_neg hn,uR (by omega)]
theorem fK {a b:List Int} (ha:Tr a) (hb:Tr b):Tr (ad a b):=by
 intro n hn
 rw [aG]
 by_cases h:a=[]\/b=[]
 ·unfold ad at hn;rw [if_pos h] at hn;simp at hn
 ·have h1:a≠[]:=fun z=>h (.inl z)
  have h2:b≠[]:=fun z=>h (.inr z)
  obtain ⟨la,ea⟩:∃ la,a.length=la+1:=⟨a.length-1,by have:=List.length_pos_iff.mpr h1;omega⟩
  obtain ⟨lb,eb⟩:∃ lb,b.length=lb+1:=⟨b.length-1,by have:=List.length_pos_iff.mpr h2;omega⟩
  unfold ad at hn
  rw [if_neg h,List.length_map,List.length_range] at hn
  have e:n=la+lb:=by omega
  subst e
  rw [i6 ea eb]
  exact Int.mul_ne_zero (ha la ea) (hb lb eb)
theorem uS {a b acc:List Int} {j k:Nat} (hj:j<a.length) (hk:k<b.length) (hl:j+k<acc.length)
 (h:∀ n,n<acc.length->cf acc n=sm a b n j+(if j<=n/\n-j<k then tm a b n j else 0)) :
 ∀ n,n<(acc.set (j+k) (cf acc (j+k)+cf a j*cf b k)).length->cf (acc.set (j+k) (cf acc (j+k)+cf a j*cf b k)) n=sm a b n j+(if j<=n/\n-j<k+1 then tm a b n j else 0):=by
 intro n hn
 rw [List.length_set] at hn
 rw [jC hl]
 by_cases e:n=j+k
 ·subst e
  rw [if_pos rfl,h _ hl,if_neg (by omega),if_pos ⟨by omega,by omega⟩]
  unfold tm
  rw [if_pos (by omega),Nat.add_sub_cancel_left,Int.add_zero]
 ·rw [if_neg e,h n hn]
  congr 1
  by_cases h1:j<=n/\n-j<k
  ·rw [if_pos h1,if_pos ⟨h1.1,by omega⟩]
  ·rw [if_neg h1,if_neg (by omega)]
theorem uU {a b acc:List Int} {j:Nat} (h:∀ n,n<acc.length->cf acc n=sm a b n j+(if j<=n/\n-j<b.length then tm a b n j else 0)):∀ n,n<acc.length->cf acc n=sm a b n (j+1):=by
 intro n hn
 rw [h n hn,sm]
 congr 1
 by_cases h1:j<=n/\n-j<b.length
 ·rw [if_pos h1]
 ·rw [if_neg h1]
  by_cases h2:j<=n
  ·rw [j5 (by omega)]
  ·unfold tm;rw [if_neg h2]
theorem uT {a b acc:List Int} {j:Nat} (h:∀ n,n<acc.length->cf acc n=sm a b n j):∀ n,n<acc.length->cf acc n=sm a b n j+(if j<=n/\n-j<0 then tm a b n j else 0):=by
 intro n hn
 rw [if_neg (by omega),Int.add_zero];exact h n hn
theorem uV {a b acc:List Int} (hl:a.length+b.length<=acc.length+1) (h:∀ n,n<acc.length->cf acc n=sm a b n a.length) (n:Nat):cf acc n=aw a b n:=by
 by_cases hn:n<acc.length
 ·exact h n hn
 ·rw [bH (Nat.le_of_not_lt hn),uR (by omega)]
end RM
namespace RM
theorem Hi (a b:List Int):trim ((List.range (max a.length b.length)).map fun k=>cf a k+cf b k)=fG a b:=by
 unfold fG dN
 congr 2;funext k;rw [Int.one_mul]
theorem yg (a b:List Int):trim ((List.range (max a.length b.length)).map fun k=>cf a k-cf b k)=bM a b:=by
 unfold bM dN
 congr 2;funext k;omega
end RM
namespace RM
def dv (t b:Int):Int:=if b<0 then -((Nat.gcd t.natAbs b.natAbs:Nat):Int) else ((Nat.gcd t.natAbs b.natAbs:Nat):Int)
def rt (t b:Int):Int:=t.fdiv (dv t b)
def rb (t b:Int):Int:=b.fdiv (dv t b)
theorem ik {t b:Int} (hb:b≠0):0<Nat.gcd t.natAbs b.natAbs:=Nat.gcd_pos_of_pos_right _ (Int.natAbs_pos.mpr hb)
theorem lv {t b:Int} (hb:b≠0):dv t b≠0:=by
 have:=@ik t b hb
 unfold dv;split<;>omega
theorem gz (t b:Int):(dv t b).natAbs=Nat.gcd t.natAbs b.natAbs:=by unfold dv;split<;>omega
theorem Gb (t b:Int):dv t b∣t:=Int.natAbs_dvd_natAbs.mp (by rw [gz];exact Nat.gcd_dvd_left _ _)
theorem Ga (t b:Int):dv t b∣b:=Int.natAbs_dvd_natAbs.mp (by rw [gz];exact Nat.gcd_dvd_right _ _)
theorem wf {a d:Int} (hd:d≠0) (h:d∣a):d*a.fdiv d=a:=by
 obtain ⟨c,rfl⟩:=h
 rw [Int.mul_fdiv_cancel_left c hd]
theorem hI {t b:Int} (hb:b≠0):dv t b*rt t b=t:=wf (lv hb) (Gb t b)
theorem fQ {t b:Int} (hb:b≠0):dv t b*rb t b=b:=wf (lv hb) (Ga t b)
theorem eS {t b:Int} (hb:b≠0):0<rb t b:=by
 have h1:=@fQ t b hb
 have h2:=@ik t b hb
 by_cases hn:b<0
 ·have hd:dv t b<0:=by unfold dv;rw [if_pos hn];omega
  apply Classical.byContradiction
  intro h
  have:0<=dv t b*rb t b:=Int.mul_nonneg_of_nonpos_of_nonpos (Int.le_of_lt hd) (by omega)
  omega
 ·have hd:0<dv t b:=by unfold dv;rw [if_neg hn];omega
  apply Classical.byContradiction
  intro h
  have:dv t b*rb t b<=0:=Int.mul_nonpos_of_nonneg_of_nonpos (Int.le_of_lt hd) (by omega)
  omega
theorem oq {t b:Int} (hb:b≠0):Nat.gcd (rt t b).natAbs (rb t b).natAbs=1:=by
 have h1:t.natAbs=Nat.gcd t.natAbs b.natAbs*(rt t b).natAbs:=by
  rw [<- gz,<- Int.natAbs_mul,hI hb]
 have h2:b.natAbs=Nat.gcd t.natAbs b.natAbs*(rb t b).natAbs:=by
  rw [<- gz,<- Int.natAbs_mul,fQ hb]
 have hp:=@ik t b hb
 have e:Nat.gcd t.natAbs b.natAbs=Nat.gcd t.natAbs b.natAbs*Nat.gcd (rt t b).natAbs (rb t b).natAbs:=by
  rw [<- Nat.gcd_mul_left,<- h1,<- h2]
 exact (Nat.eq_of_mul_eq_mul_left hp (by rw [Nat.mul_one];exact e)).symm
theorem h9 {t b:Int} (hb:b≠0):rt t b*b=t*rb t b:=by
 have e1:=@hI t b hb
 have e2:=@fQ t b hb
 calc rt t b*b=rt t b*(dv t b*rb t b):=by rw [e2]
  _=(dv t b*rt t b)*rb t b:=by rw [<- Int.mul_assoc,Int.mul_comm (rt t b)]
  _=t*rb t b:=by rw [e1]
theorem zu {t b:Int} (hb:b≠0):(rt t b).natAbs<=t.natAbs:=by
 have h1:t.natAbs=Nat.gcd t.natAbs b.natAbs*(rt t b).natAbs:=by rw [<- gz,<- Int.natAbs_mul,hI hb]
 rw [h1];exact Nat.le_mul_of_pos_left _ (ik hb)
theorem zK {t b:Int} (hb:b≠0):(rb t b).natAbs<=b.natAbs:=by
 have h1:b.natAbs=Nat.gcd t.natAbs b.natAbs*(rb t b).natAbs:=by rw [<- gz,<- Int.natAbs_mul,fQ hb]
 rw [h1];exact Nat.le_mul_of_pos_left _ (ik hb)
def sg (x:Int):Int:=if x<0 then -1 else if 0<x then 1 else 0
theorem mB (x:Int):sg (-x) = -sg x:=by unfold sg;split<;>split<;>(try split)<;>(try split)<;>omega
theorem mC {x p:Int} (hp:0<p):sg (x*p)=sg x:=by
 unfold sg
 by_cases h1:x<0
 ·rw [if_pos h1,if_pos (Int.mul_neg_of_neg_of_pos h1 hp)]
 ·by_cases h2:0<x
  ·have:=Int.mul_pos h2 hp
   rw [if_neg h1,if_pos h2,if_neg (by omega),if_pos this]
  ·obtain rfl:x=0:=by omega
   simp
end RM
namespace RM
def hv (t b:Int):List Int->Int
 | []=>0
 | v::l=>v*b^(l.length+1)+t*hv t b l
theorem lf (t b:Int):hv t b []=0:=rfl
theorem c6 (t b v:Int) (l:List Int):hv t b (v::l)=v*b^(l.length+1)+t*hv t b l:=rfl
def mb (a b:Int):Int->List Int->List Int
 | c,[]=>[c]
 | c,x::l=>(-a*x+c)::mb a b (b*x) l
theorem kQ (a b:Int):∀ (c:Int) (l:List Int),(mb a b c l).length=l.length+1
 | c,[]=>rfl
 | c,x::l=>by show (mb a b (b*x) l).length+1=_;rw [kQ];rfl
theorem gD (a b:Int):∀ (c:Int) (l:List Int) (k:Nat),cf (mb a b c l) k = -a*cf l k+(if k=0 then c else b*cf l (k-1))
 | c,[],0=>by show c=_;rw [b7];simp
 | c,[],k+1=>by show cf [] k=_;rw [b7,b7];simp [b7]
 | c,x::l,0=>rfl
 | c,x::l,k+1=>by
   show cf (mb a b (b*x) l) k=_
   rw [gD a b (b*x) l k,ly,if_neg (Nat.succ_ne_zero k)]
   cases k with
   | zero=>rfl
   | succ k=>rw [if_neg (Nat.succ_ne_zero k)];rfl
theorem vV (t u a b:Int):∀ (c:Int) (l:List Int),hv t u (mb a b c l)=c*u^(l.length+1)+(b*t-a*u)*hv t u l
 | c,[]=>by show c*u^1+t*0=c*u^1+(b*t-a*u)*0;simp
 | c,x::l=>by
   show (-a*x+c)*u^((mb a b (b*x) l).length+1)+t*hv t u (mb a b (b*x) l)=c*u^(l.length+1+1)+(b*t-a*u)*(x*u^(l.length+1)+t*hv t u l)
   rw [vV t u a b (b*x) l,kQ]
   generalize hv t u l=h
   rw [Int.pow_succ u (l.length+1)]
   generalize u^(l.length+1)=p
   grind
theorem Gq (x y:Int) (k:Nat):cf [x,y] k=if k=0 then x else if k=1 then y else 0:=by
 rcases k with _ | _ | k
 ·rfl
 ·rfl
 ·rw [if_neg (by omega),if_neg (by omega)];exact bH (by simp)
theorem iI (l:List Int) (x y:Int) (n:Nat):∀ j,sm l [x,y] n j=(if n<j then cf l n*x else 0)+(if 1<=n/\n-1<j then cf l (n-1)*y else 0)
 | 0=>by rw [if_neg (by omega),if_neg (by omega)];rfl
 | j+1=>by
   show sm l [x,y] n j+tm l [x,y] n j=_
   rw [iI l x y n j]
   unfold tm
   rw [Gq]
   grind
theorem Cb {a b:Int} {l:List Int} (h:l≠[]):ad l [-a,b]=mb a b 0 l:=by
 apply dC
 ·rw [kQ];unfold ad;rw [if_neg (by simp [h]),List.length_map,List.length_range];simp
 ·intro k _
  rw [aG,gD]
  unfold aw
  rw [iI]
  have e1:(if k<l.length then cf l k * -a else 0) = -a*cf l k:=by
   by_cases hk:k<l.length
   ·rw [if_pos hk,Int.mul_comm]
   ·rw [if_neg hk,bH (Nat.le_of_not_lt hk),Int.mul_zero]
  have e2:(if 1<=k/\k-1<l.length then cf l (k-1)*b else 0)=if k=0 then 0 else b*cf l (k-1):=by
   by_cases h0:k=0
   ·rw [if_neg (by omega),if_pos h0]
   ·rw [if_neg h0]
    by_cases hk:k-1<l.length
    ·rw [if_pos (by omega),Int.mul_comm]
    ·rw [if_neg (by omega),bH (Nat.le_of_not_lt hk),Int.mul_zero]
  rw [e1,e2]
theorem k9 (g t b:Int):∀ l:List Int,hv (g*t) (g*b) l=g^l.length*hv t b l
 | []=>by simp [lf]
 | v::l=>by
   rw [c6,c6,k9 g t b l,Int.mul_pow]
   show v*(g^(l.length+1)*b^(l.length+1))+g*t*(g^l.length*hv t b l)=g^(l.length+1)*(v*b^(l.length+1)+t*hv t b l)
   rw [Int.pow_succ g l.length]
   generalize b^(l.length+1)=p
   generalize g^l.length=q
   generalize hv t b l=h
   grind
theorem Aj {g:Int} (h:0<g) (n:Nat):0<g^n:=by
 induction n with
 | zero=>simp
 | succ n ih=>rw [Int.pow_succ];exact Int.mul_pos ih h
def At (l:List Int) (t b top bot:Int):Prop:=hv t b l*bot=top*b^l.length
theorem At.sign {l:List Int} {t b top bot:Int} (hb:0<b) (hbot:0<bot) (h:At l t b top bot):sg (hv t b l)=sg top:=by
 unfold At at h
 rw [<- mC (x:=hv t b l) hbot,h,mC (Aj hb _)]
theorem lc (t u c:Int):hv t u [c]=c*u:=by
 show c*u^1+t*0=c*u
 grind
theorem Gc (t b:Int) {l:List Int} {n:Nat} (h:n<l.length):hv t b (l.drop n)=cf l n*b^(l.length-n)+t*hv t b (l.drop (n+1)):=by
 rw [List.drop_eq_getElem_cons h,c6,List.length_drop,cR h]
 have e:l.length-(n+1)+1=l.length-n:=by omega
 rw [e]
end RM
namespace RM
def chF (z:Int×Int) (s:Int):Int×Int:=(if s*z.2<0 then z.1+1 else z.1,if s=0 then z.2 else s)
def chS (l:List Int):Int×Int:=l.foldl chF (0,0)
theorem wF (l:List Int) (s:Int):chS (l++[s])=chF (chS l) s:=by unfold chS;rw [List.foldl_append];rfl
theorem yK (x:Int):sg x=0↔x=0:=by unfold sg;split<;>(try split)<;>omega
theorem tD (x:Int):(x<0/\sg x = -1)\/(x=0/\sg x=0)\/(0<x/\sg x=1):=by unfold sg;split<;>(try split)<;>omega
theorem wG:∀ (n:Nat) (l:List Int),l.length=n->(∀ s∈l,s.natAbs<=1)->(chS l).2.natAbs<=1/\0<=(chS l).1/\(chS l).1<=l.length
 | n,l,hn,h=>by
   rcases ck l with rfl | ⟨r,s,rfl⟩
   ·decide
   ·have hr:r.length+1=n:=by rw [<- hn,List.length_append];rfl
    obtain ⟨i1,i2,i3⟩:=wG (n-1) r (by omega) (fun x hx=>h x (List.mem_append_left _ hx))
    have hs:=h s (by simp)
    rw [wF]
    unfold chF
    refine ⟨?_,?_,?_⟩
    ·dsimp only;split
     ·exact i1
     ·exact hs
    ·dsimp only;split<;>omega
    ·dsimp only;rw [List.length_append];show _<=((r.length+1:Nat):Int);split<;>omega
termination_by n=>n
theorem Go (l:List Int) (h:∀ s∈l,s.natAbs<=1):(chS l).2.natAbs<=1/\0<=(chS l).1/\(chS l).1<=l.length:=wG _ l rfl h
theorem tx (x:Int):(sg x).natAbs<=1:=by unfold sg;split<;>(try split)<;>decide
end RM
namespace RM
theorem sU {q q' b:List Int} {c l:Int} {p n:Nat} (h:∀ k,cf q' k=c*cf q k+(if k=p then l else 0)) :
 ∀ j,sm q' b n j=c*sm q b n j+(if p<j/\p<=n then l*cf b (n-p) else 0)
 | 0=>by rw [sm,sm,if_neg (by omega)];simp
 | j+1=>by
   rw [sm,sm,sU h j]
   unfold tm
   by_cases hj:j<=n
   ·rw [if_pos hj,if_pos hj,h j]
    by_cases e:j=p
    ·subst e
     rw [if_pos rfl,if_neg (by omega),if_pos ⟨by omega,hj⟩];grind
    ·rw [if_neg e]
     by_cases h2:p<j/\p<=n
     ·rw [if_pos h2,if_pos ⟨by omega,h2.2⟩];grind
     ·rw [if_neg h2,if_neg (by omega)];grind
   ·rw [if_neg hj,if_neg hj]
    by_cases h2:p<j/\p<=n
    ·rw [if_pos h2,if_pos ⟨by omega,h2.2⟩];grind
    ·rw [if_neg h2,if_neg (by omega)];grind
theorem Ca {q q' b:List Int} {c l:Int} {p n:Nat} (hl:q'.length=q.length) (hp:p<q.length) (h:∀ k,cf q' k=c*cf q k+(if k=p then l else 0)) :
 aw q' b n=c*aw q b n+(if p<=n then l*cf b (n-p) else 0):=by
 unfold aw
 rw [hl,sU h]
 by_cases h2:p<=n
 ·rw [if_pos h2,if_pos ⟨hp,h2⟩]
 ·rw [if_neg h2,if_neg (by omega)]
def scL (c:Int) (l:List Int):List Int:=l.map fun x=>c*x
theorem cz (c:Int) (l:List Int):(scL c l).length=l.length:=by unfold scL;rw [List.length_map]
theorem aX (c:Int) (l:List Int) (k:Nat):cf (scL c l) k=c*cf l k:=by
 by_cases h:k<l.length
 ·unfold cf scL;simp [h]
 ·rw [bH (by rw [cz];omega),bH (by omega)];simp
def fY (r b:List Int) (p:Nat) (l:Int):List Int:=(List.range (r.length-1)).map fun k=>cf r k-(if p<=k then l*cf b (k-p) else 0)
theorem vo (r b:List Int) (p:Nat) (l:Int):(fY r b p l).length=r.length-1:=by unfold fY;simp
theorem lB (r b:List Int) (p:Nat) (l:Int) (k:Nat):cf (fY r b p l) k=if k<r.length-1 then cf r k-(if p<=k then l*cf b (k-p) else 0) else 0:=by
 unfold fY;rw [jE]
theorem yL (x:Int):sg x*x=(x.natAbs:Int):=by unfold sg;split<;>(try split)<;>omega
def cA (b:List Int) (z:List Int×List Int) (i:Nat):List Int×List Int :=
 let s:Int:=((cf b (b.length-1)).natAbs:Int)
 let l:=sg (cf b (b.length-1))*cf z.2 (z.2.length-1)
 ((scL s z.1).set i l,fY (scL s z.2) b i l)
def aH (a b:List Int):Nat->List Int×List Int
 | 0=>(List.replicate (a.length+1-b.length) 0,a)
 | i+1=>cA b (aH a b i) (a.length+1-b.length-1-i)
structure DivInv (a b:List Int) (i:Nat):Prop where
 lq:(aH a b i).1.length=a.length+1-b.length
 lr:(aH a b i).2.length=a.length-i
 low:∀ k,k+i<a.length+1-b.length->cf (aH a b i).1 k=0
 eqn:∀ n,((cf b (b.length-1)).natAbs:Int)^i*cf a n=aw (aH a b i).1 b n+cf (aH a b i).2 n
theorem oQ {a b:List Int} {n:Nat} (h:∀ k,cf a k=0):aw a b n=0:=by
 apply iH;intro i _;unfold tm;rw [h i];simp
theorem gA {a b:List Int} (hb:b≠[]):∀ i,i<=a.length+1-b.length->DivInv a b i
 | 0,_=>⟨by simp [aH],by simp [aH],fun k _=>by show cf (List.replicate _ 0) k=0;rw [jD],fun n=>by
  show _=aw (List.replicate _ 0) b n+cf a n
  rw [oQ fun k=>jD _ _];simp⟩
 | i+1,hi=>by
   obtain ⟨lq,lr,low,eqn⟩:=gA (a:=a) hb i (by omega)
   have hbl:=List.length_pos_iff.mpr hb
   have e:aH a b (i+1)=cA b (aH a b i) (a.length+1-b.length-1-i):=rfl
   generalize hz:aH a b i=z at lq lr low eqn
   have hp:a.length+1-b.length-1-i<(scL ((cf b (b.length-1)).natAbs:Int) z.1).length:=by rw [cz,lq];omega
   have hq:∀ k,cf (cA b z (a.length+1-b.length-1-i)).1 k=((cf b (b.length-1)).natAbs:Int)*cf z.1 k+(if k=a.length+1-b.length-1-i then sg (cf b (b.length-1))*cf z.2 (z.2.length-1) else 0):=by
    intro k
    unfold cA
    dsimp only
    rw [jC hp,aX]
    by_cases h:k=a.length+1-b.length-1-i
    ·rw [if_pos h,if_pos h,low k (by omega)];simp
    ·rw [if_neg h,if_neg h];simp
   have hlq:(cA b z (a.length+1-b.length-1-i)).1.length=a.length+1-b.length:=by
    unfold cA;dsimp only;rw [List.length_set,cz,lq]
   refine ⟨?_,?_,?_,?_⟩
   ·rw [e,hz,hlq]
   ·rw [e,hz];unfold cA;dsimp only;rw [vo,cz,lr];omega
   ·intro k hk
    rw [e,hz,hq,if_neg (by omega),low k (by omega)];simp
   ·intro n
    rw [e,hz,Ca (by rw [hlq,lq]) (by rw [lq];omega) hq,Int.pow_succ]
    have en:=eqn n
    unfold cA
    dsimp only
    rw [lB,cz,aX,lr]
    by_cases h1:n<a.length-i-1
    ·rw [if_pos h1]
     by_cases h2:a.length+1-b.length-1-i<=n
     ·rw [if_pos h2];grind
     ·rw [if_neg h2];grind
    ·rw [if_neg h1]
     by_cases h3:n=a.length-i-1
     ·have h2:a.length+1-b.length-1-i<=n:=by omega
      have h4:n-(a.length+1-b.length-1-i)=b.length-1:=by omega
      rw [if_pos h2,h4]
      have sg:=yL (cf b (b.length-1))
      rw [<- h3]
      grind
     ·have h2:a.length+1-b.length-1-i<=n:=by omega
      have hc:cf z.2 n=0:=bH (by rw [lr];omega)
      rw [if_pos h2,bH (l:=b) (k:=n-(a.length+1-b.length-1-i)) (by omega)]
      grind
theorem wt {a b:List Int} (hb:b≠[]) (ha:Tr a) (hbt:Tr b):∀ i,i+1<=a.length+1-b.length->cf (aH a b (i+1)).1 (a.length+1-b.length-1)≠0
 | 0,h=>by
   obtain ⟨lq,lr,_,_⟩:=gA (a:=a) hb 0 (by omega)
   have hbl:=List.length_pos_iff.mpr hb
   show cf (cA b (aH a b 0) _).1 _≠0
   unfold cA
   dsimp only
   rw [jC (by rw [cz,lq];omega),if_pos (by omega)]
   have hb1:=hbt (b.length-1) (by omega)
   have ha1:=ha (a.length-1) (by omega)
   refine Int.mul_ne_zero ?_ ?_
   ·unfold sg;split<;>(try split)<;>omega
   ·rw [lr];exact ha1
 | i+1,h=>by
   have ih:=wt hb ha hbt i (by omega)
   obtain ⟨lq,lr,_,_⟩:=gA (a:=a) hb (i+1) (by omega)
   have hbl:=List.length_pos_iff.mpr hb
   show cf (cA b (aH a b (i+1)) _).1 _≠0
   unfold cA
   dsimp only
   rw [jC (by rw [cz,lq];omega),if_neg (by omega),aX]
   have hb1:=hbt (b.length-1) (by omega)
   refine Int.mul_ne_zero ?_ ih
   omega
def aP (a b:List Int):Nat:=a.length+1-b.length
def bB (a b:List Int):Int:=((cf b (b.length-1)).natAbs:Int)^aP a b
def bE (a b:List Int):List Int:=(aH a b (aP a b)).1
def aB (a b:List Int):List Int:=trim (aH a b (aP a b)).2
theorem fw {a b:List Int} (hb:b≠[]) (n:Nat):bB a b*cf a n=aw (bE a b) b n+cf (aB a b) n:=by
 unfold aB bE bB;rw [dU];exact (gA hb (aP a b) (Nat.le_refl _)).eqn n
theorem eM {a b:List Int} (hb:b≠[]):(aB a b).length<b.length:=by
 have h:=(gA (a:=a) hb (aP a b) (Nat.le_refl _)).lr
 have h2:=o5 (aH a b (aP a b)).2
 have hbl:=List.length_pos_iff.mpr hb
 unfold aB
 unfold aP at *
 omega
theorem lw {a b:List Int} (hb:b≠[]):(bE a b).length=aP a b:=(gA (a:=a) hb (aP a b) (Nat.le_refl _)).lq
theorem wq {a b:List Int} (hb:b≠[]) (ha:Tr a) (hbt:Tr b):Tr (bE a b):=by
 intro n hn
 rw [lw hb] at hn
 have h:=wt hb ha hbt n (by unfold aP at hn;omega)
 unfold bE
 rw [hn]
 have:a.length+1-b.length-1=n:=by unfold aP at hn;omega
 rwa [this] at h
theorem dR (a b:List Int):Tr (aB a b):=di _
end RM
namespace RM
theorem sX {a a' b b':List Int} {n:Nat} (h1:∀ k,cf a k=cf a' k) (h2:∀ k,cf b k=cf b' k):∀ j,sm a b n j=sm a' b' n j
 | 0=>rfl
 | j+1=>by rw [sm,sm,sX h1 h2 j];unfold tm;rw [h1 j,h2 (n-j)]
theorem sV {a b:List Int} {n:Nat}:∀ d,sm a b n (a.length+d)=aw a b n
 | 0=>rfl
 | d+1=>by rw [<- Nat.add_assoc,sm,sV d,xQ (by omega)];omega
theorem iJ {a b:List Int} {n N:Nat} (h:a.length<=N):sm a b n N=aw a b n:=by
 obtain ⟨d,rfl⟩:=Nat.exists_eq_add_of_le h
 exact sV d
theorem uQ {a a' b b':List Int} {n:Nat} (h1:∀ k,cf a k=cf a' k) (h2:∀ k,cf b k=cf b' k):aw a b n=aw a' b' n:=by
 rw [<- iJ (Nat.le_max_left a.length a'.length),<- iJ (Nat.le_max_right a.length a'.length)]
 exact sX h1 h2 _
theorem sT {a b c q:List Int} {x y:Int} {n:Nat} (h:∀ k,cf c k=x*cf a k+y*cf b k):∀ j,sm c q n j=x*sm a q n j+y*sm b q n j
 | 0=>by simp [sm]
 | j+1=>by
   rw [sm,sm,sm,sT h j];unfold tm;rw [h j]
   by_cases hj:j<=n
   ·rw [if_pos hj,if_pos hj,if_pos hj];grind
   ·rw [if_neg hj,if_neg hj,if_neg hj];grind
theorem dI {a b c q:List Int} {x y:Int} {n:Nat} (h:∀ k,cf c k=x*cf a k+y*cf b k):aw c q n=x*aw a q n+y*aw b q n:=by
 have h1:a.length<=a.length+b.length+c.length:=by omega
 have h2:b.length<=a.length+b.length+c.length:=by omega
 have h3:c.length<=a.length+b.length+c.length:=by omega
 rw [<- iJ h1,<- iJ h2,<- iJ h3]
 exact sT h _
theorem sS {a b b':List Int} {c:Int} {n:Nat} (h:∀ k,cf b' k=c*cf b k):∀ j,sm a b' n j=c*sm a b n j
 | 0=>by simp [sm]
 | j+1=>by
   rw [sm,sm,sS h j];unfold tm;rw [h (n-j)]
   by_cases hj:j<=n
   ·rw [if_pos hj,if_pos hj];grind
   ·rw [if_neg hj,if_neg hj];grind
theorem kL {a b b':List Int} {c:Int} {n:Nat} (h:∀ k,cf b' k=c*cf b k):aw a b' n=c*aw a b n:=sS h _
theorem fj (c:Int) (l:List Int) (n:Nat):aw [c] l n=c*cf l n:=by
 unfold aw
 show sm [c] l n 0+tm [c] l n 0=_
 unfold sm tm
 rw [if_pos (Nat.zero_le _),wI,Nat.sub_zero,Int.zero_add]
theorem oP {l:List Int} (ht:Tr l) (h:∀ k,cf l k=0):l=[]:=by
 refine Classical.byContradiction fun hne=>?_
 have hl:=List.length_pos_iff.mpr hne
 exact ht (l.length-1) (by omega) (h _)
theorem uO {d q:List Int} (hq:q≠[]) (hqt:Tr q) (h:∀ n,q.length<=n+1->aw d q n=0):∀ k,cf d k=0:=by
 have e:trim d=[]:=by
  refine Classical.byContradiction fun hne=>?_
  have hl:=List.length_pos_iff.mpr hne
  have hql:=List.length_pos_iff.mpr hq
  have ht:=di d ((trim d).length-1) (by omega)
  have hb:=hqt (q.length-1) (by omega)
  have h1:=h ((trim d).length-1+(q.length-1)) (by omega)
  rw [<- uQ (a:=trim d) (b:=q) (fun k=>dU d k) (fun _=>rfl),i6 (la:=(trim d).length-1) (lb:=q.length-1) (by omega) (by omega)] at h1
  exact Int.mul_ne_zero ht hb h1
 intro k
 rw [<- dU,e,b7]
theorem qj {a b:List Int} (hb:b≠[]) (hbt:Tr b):bB a b≠0:=by
 have hbl:=List.length_pos_iff.mpr hb
 have h:=hbt (b.length-1) (by omega)
 have h1:((cf b (b.length-1)).natAbs:Int)≠0:=by omega
 unfold bB
 generalize aP a b=n
 induction n with
 | zero=>rw [Int.pow_zero];decide
 | succ n ih=>rw [Int.pow_succ];exact Int.mul_ne_zero ih h1
end RM
namespace RM
def de (d:Nat) (l:List Int):Nat:=l.foldl (fun d v=>Nat.gcd d v.natAbs) d
def ar (l:List Int):Nat:=de 0 l
theorem Et (d:Nat):de d []=d:=rfl
theorem Eu (d:Nat) (v:Int) (l:List Int):de d (v::l)=de (Nat.gcd d v.natAbs) l:=rfl
theorem Es (d:Nat) (l:List Int) (v:Int):de d (l++[v])=Nat.gcd (de d l) v.natAbs:=by
 unfold de;rw [List.foldl_append];rfl
theorem v5 (l:List Int) (v:Int):ar (l++[v])=Nat.gcd (ar l) v.natAbs:=Es 0 l v
theorem wk {m:Nat}:∀ {l:List Int} {d:Nat},m∣de d l↔m∣d/\∀ v∈l,m∣v.natAbs
 | [],d=>by simp [Et]
 | v::l,d=>by
   rw [Eu,wk,Nat.dvd_gcd_iff]
   simp only [List.mem_cons,forall_eq_or_imp]
   exact ⟨fun ⟨⟨a,b⟩,c⟩=>⟨a,b,c⟩,fun ⟨a,b,c⟩=>⟨⟨a,b⟩,c⟩⟩
theorem dvd_gcdL {m:Nat} {l:List Int}:m∣ar l↔∀ v∈l,m∣v.natAbs:=by
 unfold ar;rw [wk];exact ⟨fun h=>h.2,fun h=>⟨Nat.dvd_zero m,h⟩⟩
theorem lu {l:List Int} {v:Int} (h:v∈l):ar l∣v.natAbs:=dvd_gcdL.mp (Nat.dvd_refl _) v h
theorem v6 (v:Int):ar [v]=v.natAbs:=by
 show Nat.gcd 0 v.natAbs=_;exact Nat.gcd_zero_left _
theorem v4 {a b:Int} (ha:0<=a) (hb:0<b):Nat.gcd b.natAbs (a%b).natAbs=Nat.gcd a.natAbs b.natAbs:=by
 have e:(a%b).natAbs=a.natAbs%b.natAbs:=by
  obtain ⟨x,rfl⟩:=Int.eq_ofNat_of_zero_le ha
  obtain ⟨y,rfl⟩:=Int.eq_ofNat_of_zero_le (Int.le_of_lt hb)
  rfl
 rw [e,Nat.gcd_comm,<- Nat.gcd_rec,Nat.gcd_comm]
end RM
namespace RM
def ak (l:List Int):List Int:=l.map fun x=>x/(ar l:Int)
def aN (l:List Int):Int:=cf l (l.length-1)
theorem cN (r:List Int) (x:Int):aN (r++[x])=x:=by
 unfold aN;rw [List.length_append];exact io r x
def b9 (l:List Int):List Int:=if aN l<0 then l.map fun x => -x else l
def av (l:List Int):List Int:=b9 (ak l)
theorem rg {c:Int->Int} (h0:∀ x,c x=0↔x=0):∀ (n:Nat) (l:List Int),l.length=n->trim (l.map c)=(trim l).map c
 | 0,l,h=>by rw [List.length_eq_zero_iff.mp h];rfl
 | n+1,l,h=>by
   rcases ck l with rfl | ⟨r,x,rfl⟩
   ·rfl
   ·rw [List.map_append]
    show trim (r.map c++[c x])=_
    by_cases hx:x=0
    ·subst hx
     rw [(h0 0).mpr rfl,j3,j3]
     exact rg h0 n r (by simpa using h)
    ·rw [iA r hx,iA _ (fun z=>hx ((h0 x).mp z)),List.map_append];rfl
def ix (l:List Int):Prop:=l=[]\/ar l=1
theorem iM {l:List Int} (h:ix l):ak l=l:=by
 rcases h with rfl | h
 ·rfl
 ·unfold ak;rw [h]
  conv=>rhs;rw [<- List.map_id l]
  apply List.map_congr_left
  intro x _
  show x/1=x
  exact Int.ediv_one x
theorem Er {l:List Int} {s:Int} (hs:s=1\/s = -1):ar (l.map fun x=>x*s)=ar l:=by
 have key:∀ m:Nat,m∣ar (l.map fun x=>x*s)↔m∣ar l:=by
  intro m
  rw [dvd_gcdL,dvd_gcdL]
  have e:∀ x:Int,(x*s).natAbs=x.natAbs:=fun x=>by
   rcases hs with rfl | rfl
   ·rw [Int.mul_one]
   ·rw [Int.mul_neg,Int.mul_one,Int.natAbs_neg]
  constructor
  ·intro h v hv
   have:=h (v*s) (List.mem_map.mpr ⟨v,hv,rfl⟩)
   rwa [e] at this
  ·intro h v hv
   obtain ⟨u,hu,rfl⟩:=List.mem_map.mp hv
   rw [e];exact h u hu
 exact Nat.dvd_antisymm ((key _).mp (Nat.dvd_refl _)) ((key _).mpr (Nat.dvd_refl _))
theorem Ag {l:List Int} (h:ix l):ix (l.map fun x => -x):=by
 rcases h with rfl | h
 ·exact .inl rfl
 ·right
  have e:(l.map fun x => -x)=l.map fun x=>x*(-1):=by
   apply List.map_congr_left;intro x _;omega
  rw [e,Er (.inr rfl),h]
theorem vw (l:List Int):aN (l.map fun x => -x) = -aN l:=by
 rcases ck l with rfl | ⟨r,x,rfl⟩
 ·rfl
 ·rw [List.map_append]
  show aN (r.map _++[-x])=_
  rw [cN,cN]
theorem Af {l:List Int} (h:ix l):ix (b9 l):=by
 unfold b9;split
 ·exact Ag h
 ·exact h
theorem xN {c:Int->Int} (h0:∀ x,c x=0↔x=0) {l:List Int} (h:Tr l):Tr (l.map c):=by
 rw [<- lK h,<- rg h0 _ l rfl];exact di _
theorem xK {l:List Int} (h:Tr l):Tr (b9 l):=by
 unfold b9;split
 ·exact xN (fun x=>by omega) h
 ·exact h
end RM
namespace RM
theorem v7 (c:Int):∀ (l:List Int) (d:Nat),de (c.natAbs*d) (scL c l)=c.natAbs*de d l
 | [],d=>rfl
 | v::l,d=>by
   show de (Nat.gcd (c.natAbs*d) (c*v).natAbs) (scL c l)=c.natAbs*de (Nat.gcd d v.natAbs) l
   rw [Int.natAbs_mul,Nat.gcd_mul_left,v7 c l]
theorem ln (c:Int) (l:List Int):ar (scL c l)=c.natAbs*ar l:=by
 have h:=v7 c l 0
 rw [Nat.mul_zero] at h
 exact h
theorem ga {l:List Int} {x:Int} (h:x∈l):(ar l:Int)∣x:=Int.ofNat_dvd_left.mpr (lu h)
theorem yA {c:Int} (hc:0<c) (l:List Int):ak (scL c l)=ak l:=by
 unfold ak
 rw [ln]
 unfold scL
 rw [List.map_map]
 refine List.map_congr_left fun x _=>?_
 show c*x/((c.natAbs*ar l:Nat):Int)=x/(ar l:Int)
 have e:((c.natAbs*ar l:Nat):Int)=c*(ar l:Int):=by rw [Int.natCast_mul];congr 1;omega
 rw [e,Int.mul_ediv_mul_of_pos _ _ hc]
theorem yB {c:Int} (hc:c<0) (l:List Int):ak (scL c l)=(ak l).map fun x => -x:=by
 unfold ak
 rw [ln]
 unfold scL
 rw [List.map_map,List.map_map]
 refine List.map_congr_left fun x hx=>?_
 show c*x/((c.natAbs*ar l:Nat):Int) = -(x/(ar l:Int))
 have e:((c.natAbs*ar l:Nat):Int)=(-c)*(ar l:Int):=by rw [Int.natCast_mul];congr 1;omega
 have e2:c*x=(-c)*(-x):=by rw [Int.neg_mul_neg]
 rw [e,e2,Int.mul_ediv_mul_of_pos _ _ (by omega:0 < -c),Int.neg_ediv_of_dvd (ga hx)]
theorem Am {m:List Int} (h:Tr m):b9 (m.map fun x => -x)=b9 m:=by
 rcases ck m with rfl | ⟨r,x,rfl⟩
 ·rfl
 have hx:x≠0:=tr_snoc.mp h
 have h1:=vw (r++[x])
 rw [cN] at h1
 unfold b9
 rw [h1,cN]
 by_cases hn:x<0
 ·rw [if_neg (by omega),if_pos hn]
 ·rw [if_pos (by omega),if_neg hn,List.map_map]
  rw [show ((fun x:Int => -x) ∘ fun x:Int => -x)=id from by funext y;simp]
  exact List.map_id _
theorem fJ {l:List Int} (h:Tr l):Tr (ak l):=by
 intro n hn
 have hl:l.length=n+1:=by rw [<- hn];unfold ak;rw [List.length_map]
 have hx:=h n hl
 have hm:cf l n∈l:=by rw [cR (by omega)];exact List.getElem_mem _
 have e:cf (ak l) n=cf l n/(ar l:Int):=by
  have h1:n<l.length:=by omega
  unfold ak cf
  simp [List.getD,h1]
 rw [e]
 intro z
 have d:=ga hm
 have:=Int.mul_ediv_cancel' d
 rw [z,Int.mul_zero] at this
 exact hx this.symm
theorem uk {c:Int} (hc:c≠0) {l:List Int} (h:Tr l):av (scL c l)=av l:=by
 unfold av
 by_cases hp:0<c
 ·rw [yA hp]
 ·rw [yB (by omega),Am (fJ h)]
theorem j4 {c:Int} (hc:c≠0) {l:List Int} (h:Tr l):Tr (scL c l):=by
 intro n hn
 rw [cz] at hn
 rw [aX]
 exact Int.mul_ne_zero hc (h n hn)
theorem Ap {a b:List Int} {x y:Int} (hx:x≠0) (hy:y≠0) (ha:Tr a) (hb:Tr b) (h:∀ k,x*cf a k=y*cf b k):av a=av b:=by
 have e:scL x a=scL y b:=gw (j4 hx ha) (j4 hy hb) fun k=>by rw [aX,aX,h k]
 rw [<- uk hx ha,e,uk hy hb]
end RM
namespace RM
def slopeL (l:List Int):List Int:=(List.range (l.length-1)).map fun (k:Nat)=>((k:Int)+1)*cf l (k+1)
def lp (l:List Int) (m i n:Nat):Int:=if n%m=0/\n/m<i then cf l (n/m) else 0
end RM
namespace RM
def rst (one other:List Int):List Int:=if other=[] then [] else aB one other
def nxt (one other:List Int):List Int:=ak (bM [] (rst one other))
def aL:Nat->List Int->List Int->List (List Int)
 | 0,_,_=>[]
 | n+1,one,other=>if one=[] then [] else one::aL n other (nxt one other)
theorem fO (n:Nat) (o:List Int):aL n [] o=[]:=by cases n with | zero=>rfl | succ n=>show (if ([]:List Int)=[] then _ else _)=_;rw [if_pos rfl]
theorem tu {c:Int} (hc:c≠0):ak [c]=[sg c]:=by
 unfold ak
 rw [v6]
 show [c/(c.natAbs:Int)]=_
 congr 1
 by_cases h:0<c
 ·have e:(c.natAbs:Int)=c:=by omega
  rw [e,Int.ediv_self hc]
  unfold sg;rw [if_neg (by omega),if_pos h]
 ·have e:(c.natAbs:Int) = -c:=by omega
  rw [e,Int.ediv_neg,Int.ediv_self hc]
  unfold sg;rw [if_pos (by omega)]
theorem lx {a b:List Int} (hb:b≠[]) (h1:b.length=1):aB a b=[]:=by
 have:=eM (a:=a) hb
 exact List.length_eq_zero_iff.mp (by omega)
theorem kG {one other:List Int} (hb:other≠[]) (h1:other.length=1):nxt one other=[]:=by
 unfold nxt rst
 rw [if_neg hb,lx hb h1];rfl
end RM
namespace RM
def up (f:Nat->Int) (n:Nat):Int:=if n=0 then 0 else f (n-1)
theorem sW (x:Int) (a b:List Int) (n:Nat):∀ j,sm (x::a) b n (j+1)=x*cf b n+(if n=0 then 0 else sm a b (n-1) j)
 | 0=>by
   show 0+tm (x::a) b n 0=_
   unfold tm
   rw [if_pos (Nat.zero_le _)]
   rw [wI,Nat.sub_zero]
   by_cases h:n=0
   ·rw [if_pos h];omega
   ·rw [if_neg h];show _=_+0;omega
 | j+1=>by
   show sm (x::a) b n (j+1)+tm (x::a) b n (j+1)=_
   rw [sW x a b n j]
   by_cases h:n=0
   ·rw [if_pos h,if_pos h]
    unfold tm
    rw [if_neg (by omega)];omega
   ·rw [if_neg h,if_neg h]
    show _=_+(sm a b (n-1) j+tm a b (n-1) j)
    have e:tm (x::a) b n (j+1)=tm a b (n-1) j:=by
     unfold tm
     rw [ly]
     by_cases h2:j+1<=n
     ·rw [if_pos h2,if_pos (by omega)]
      congr 2;omega
     ·rw [if_neg h2,if_neg (by omega)]
    rw [e];omega
theorem dq (x:Int) (a b:List Int) (n:Nat):aw (x::a) b n=x*cf b n+up (aw a b) n:=sW x a b n a.length
theorem dd (b:List Int) (n:Nat):aw [] b n=0:=rfl
theorem qr (x:Int) (a:List Int) (n:Nat):cf (x::a) n=(if n=0 then x else 0)+up (cf a) n:=by
 cases n with
 | zero=>show x=x+0;omega
 | succ n=>show cf a n=0+cf a n;omega
theorem oR (y:Int) (b:List Int):∀ (a:List Int) (n:Nat),aw a (y::b) n=y*cf a n+up (aw a b) n
 | [],n=>by
   rw [dd,b7]
   unfold up
   split
   ·simp
   ·rw [dd];simp
 | x::a,n=>by
   rw [dq,qr,qr]
   cases n with
   | zero =>
     show x*(y+0)+0=y*(x+0)+0
     simp only [Int.add_zero];exact Int.mul_comm _ _
   | succ n =>
     show x*(0+cf b n)+aw a (y::b) n=y*(0+cf a n)+aw (x::a) b n
     rw [oR y b a n,dq]
     simp only [Int.zero_add]
     omega
theorem uP:∀ (a:List Int) (n:Nat),aw a [] n=0
 | [],n=>rfl
 | x::a,n=>by
   rw [dq,b7]
   unfold up
   split
   ·simp
   ·rw [uP a];simp
theorem fk:∀ (a b:List Int) (n:Nat),aw a b n=aw b a n
 | [],b,n=>by rw [uP];rfl
 | x::a,b,n=>by
   rw [dq,oR]
   congr 1
   unfold up
   split
   ·rfl
   ·exact fk a b _
theorem B9 {a b c q:List Int} {x y:Int} {n:Nat} (h:∀ k,cf c k=x*cf a k+y*cf b k):aw q c n=x*aw q a n+y*aw q b n:=by
 rw [fk q c,dI h,fk q a,fk q b]
theorem lz (a:List Int) (n:Nat):cf (0::a) n=up (cf a) n:=by
 rw [qr];split<;>omega
theorem B8 (a b:List Int) (n:Nat):aw (0::a) b n=up (aw a b) n:=by
 rw [dq];omega
theorem ij:∀ (a b c:List Int) (n:Nat),aw (ad a b) c n=aw a (ad b c) n
 | [],b,c,n=>by
   rw [dd,oQ fun k=>by rw [aG,dd]]
 | x::a,b,c,n=>by
   rw [dq,aG]
   have e:∀ k,cf (ad (x::a) b) k=x*cf b k+1*cf (0::ad a b) k:=fun k=>by
    rw [aG,dq,lz,Int.one_mul]
    congr 1
    unfold up
    split
    ·rfl
    ·rw [aG]
   rw [dI e,B8,Int.one_mul]
   congr 1
   unfold up
   split
   ·rfl
   ·exact ij a b c _
end RM
namespace RM
def Dv (d p:List Int):Prop:=∃ (c:Int) (q:List Int),c≠0/\∀ n,c*cf p n=aw q d n
theorem Dv.refl (d:List Int):Dv d d:=⟨1,[1],by decide,fun n=>by rw [fj]⟩
theorem Dv.nil (d:List Int):Dv d []:=⟨1,[],by decide,fun n=>by rw [b7,dd];rfl⟩
theorem Dv.trans {d e p:List Int} (h1:Dv d e) (h2:Dv e p):Dv d p:=by
 obtain ⟨c1,q1,hc1,e1⟩:=h1
 obtain ⟨c2,q2,hc2,e2⟩:=h2
 refine ⟨c1*c2,ad q2 q1,Int.mul_ne_zero hc1 hc2,fun n=>?_⟩
 rw [ij,Int.mul_assoc,e2,<- kL (b':=ad q1 d) (fun k=>by rw [aG,e1])]
theorem Dv.up {d a b r q:List Int} {f:Int} (hf:f≠0) (h:∀ n,f*cf a n=aw q b n+cf r n) (hb:Dv d b) (hr:Dv d r):Dv d a:=by
 obtain ⟨c1,q1,hc1,e1⟩:=hb
 obtain ⟨c2,q2,hc2,e2⟩:=hr
 refine ⟨c1*c2*f,dN c1 (scL c2 (ad q q1)) q2,Int.mul_ne_zero (Int.mul_ne_zero hc1 hc2) hf,fun n=>?_⟩
 rw [dI (a:=ad q q1) (b:=q2) (x:=c2) (y:=c1) (fun k=>by rw [fC,aX]),ij,<- e2,kL (b:=b) (b':=ad q1 d) (c:=c1) (fun k=>by rw [aG,e1])]
 have:=h n
 grind
theorem Dv.down {d a b r q:List Int} {f:Int} (h:∀ n,f*cf a n=aw q b n+cf r n) (ha:Dv d a) (hb:Dv d b):Dv d r:=by
 obtain ⟨c1,q1,hc1,e1⟩:=ha
 obtain ⟨c2,q2,hc2,e2⟩:=hb
 refine ⟨c1*c2,dN (-c1) (scL (f*c2) q1) (ad q q2),Int.mul_ne_zero hc1 hc2,fun n=>?_⟩
 rw [dI (a:=q1) (b:=ad q q2) (x:=f*c2) (y := -c1) (fun k=>by rw [fC,aX]),ij,<- e1,kL (b:=b) (b':=ad q2 d) (c:=c2) (fun k=>by rw [aG,e2])]
 have:=h n
 grind
theorem Dv.prop_right {d p p':List Int} {x y:Int} (hx:x≠0) (h:∀ n,x*cf p' n=y*cf p n) (hd:Dv d p):Dv d p':=by
 obtain ⟨c,q,hc,e⟩:=hd
 refine ⟨c*x,scL y q,Int.mul_ne_zero hc hx,fun n=>?_⟩
 rw [dI (a:=q) (b:=[]) (x:=y) (y:=0) (fun k=>by rw [aX];simp),<- e]
 have:=h n
 grind
theorem Dv.prop_left {d d' p:List Int} {x y:Int} (hx:x≠0) (hy:y≠0) (h:∀ n,x*cf d' n=y*cf d n) (hd:Dv d p):Dv d' p :=
 Dv.trans (Dv.prop_right hy (fun n=>(h n).symm) (Dv.refl d')) hd
theorem eZ {l:List Int} (h:Tr l):∃ g:Int,g≠0/\∀ n,cf l n=g*cf (av l) n:=by
 by_cases hl:l=[]
 ·subst hl
  exact ⟨1,by decide,fun n=>by rw [b7];show 0=1*cf [] n;rw [b7];rfl⟩
 have hg:(ar l:Int)≠0:=by
  obtain ⟨r,x,rfl⟩:=(ck l).resolve_left hl
  have hx:x≠0:=tr_snoc.mp h
  have h1:0<ar (r++[x]):=Nat.pos_of_dvd_of_pos (lu (by simp:x∈r++[x])) (Int.natAbs_pos.mpr hx)
  omega
 have e1:∀ n,cf l n=(ar l:Int)*cf (ak l) n:=fun n=>by
  unfold ak
  by_cases hn:n<l.length
  ·rw [cR hn,cR (by rw [List.length_map];exact hn),List.getElem_map]
   exact (Int.mul_ediv_cancel' (ga (List.getElem_mem hn))).symm
  ·rw [bH (by omega),bH (by rw [List.length_map];omega),Int.mul_zero]
 unfold av b9
 split
 ·refine ⟨-(ar l:Int),by omega,fun n=>?_⟩
  have e2:cf ((ak l).map fun x => -x) n = -cf (ak l) n:=by
   by_cases hn:n<(ak l).length
   ·rw [cR hn,cR (by rw [List.length_map];exact hn),List.getElem_map]
   ·rw [bH (l:=ak l) (by omega),bH (l:=(ak l).map fun x => -x) (by rw [List.length_map];omega)];rfl
  rw [e1,e2];grind
 ·exact ⟨_,hg,e1⟩
theorem Dv.plain {d p:List Int} (hp:Tr p):Dv d (av p)↔Dv d p:=by
 obtain ⟨g,hg,e⟩:=eZ hp
 exact ⟨fun h=>Dv.prop_right (x:=1) (y:=g) (by decide) (fun n=>by rw [e];omega) h,fun h=>Dv.prop_right (x:=g) (y:=1) hg (fun n=>by rw [<- e];omega) h⟩
theorem plain_len (l:List Int):(av l).length=l.length:=by
 unfold av b9 ak
 split<;>simp
theorem rk {l:List Int} (h:Tr l):Tr (av l):=xK (fJ h)
def cL:Nat->List Int->List Int->List Int
 | 0,one,_=>one
 | n+1,one,other=>if other=[] then one else cL n other (av (aB one other))
theorem Gm (n:Nat) (one:List Int):cL n one []=one:=by cases n<;>rfl
theorem qo {n:Nat} {one other:List Int} (h:other≠[]):cL (n+1) one other=cL n other (av (aB one other)):=by
 show (if other=[] then one else cL n other (av (aB one other)))=_
 rw [if_neg h]
def Cop (a:List Int) (m:Nat):Prop:=∀ k:Nat,k∣m->(∀ n,(k:Int)∣cf a n)->k=1
theorem pE:∀ (N:Nat) (a b:List Int) (m:Nat),a.length+b.length<=N->Cop a m->Cop b m->(∀ n,(m:Int)∣aw a b n)->m=1
 | _,[],b,m,_,h1,_,_=>h1 m (Nat.dvd_refl _) fun n=>by rw [b7];exact Int.dvd_zero _
 | _,_::_,[],m,_,_,h2,_=>h2 m (Nat.dvd_refl _) fun n=>by rw [b7];exact Int.dvd_zero _
 | 0,_::_,_::_,_,h,_,_,_=>absurd h (by simp)
 | N+1,x::a,y::b,m,h,h1,h2,h3=>by
   have d1:Nat.gcd m x.natAbs=1:=by
    refine pE N a (y::b) _ (by simp at h ⊢;omega) (fun k hk hn=>h1 k (Nat.dvd_trans hk (Nat.gcd_dvd_left _ _)) fun n=>?_) (fun k hk=>h2 k (Nat.dvd_trans hk (Nat.gcd_dvd_left _ _))) fun n=>?_
    ·cases n with
     | zero=>exact Int.ofNat_dvd_left.mpr (Nat.dvd_trans hk (Nat.gcd_dvd_right _ _))
     | succ n=>exact hn n
    ·have e:=dq x a (y::b) (n+1)
     have g1:((Nat.gcd m x.natAbs:Nat):Int)∣aw (x::a) (y::b) (n+1):=Int.dvd_trans (Int.ofNat_dvd.mpr (Nat.gcd_dvd_left _ _)) (h3 _)
     have g2:((Nat.gcd m x.natAbs:Nat):Int)∣x*cf (y::b) (n+1):=Int.dvd_mul_of_dvd_left (Int.ofNat_dvd_left.mpr (Nat.gcd_dvd_right _ _))
     have e2:aw a (y::b) n=aw (x::a) (y::b) (n+1)-x*cf (y::b) (n+1):=by
      rw [e];show _=_+aw a (y::b) n-_;omega
     rw [e2];exact Int.dvd_sub g1 g2
   have d2:Nat.gcd m y.natAbs=1:=by
    refine pE N (x::a) b _ (by simp at h ⊢;omega) (fun k hk=>h1 k (Nat.dvd_trans hk (Nat.gcd_dvd_left _ _))) (fun k hk hn=>h2 k (Nat.dvd_trans hk (Nat.gcd_dvd_left _ _)) fun n=>?_) fun n=>?_
    ·cases n with
     | zero=>exact Int.ofNat_dvd_left.mpr (Nat.dvd_trans hk (Nat.gcd_dvd_right _ _))
     | succ n=>exact hn n
    ·have e:=oR y b (x::a) (n+1)
     have g1:((Nat.gcd m y.natAbs:Nat):Int)∣aw (x::a) (y::b) (n+1):=Int.dvd_trans (Int.ofNat_dvd.mpr (Nat.gcd_dvd_left _ _)) (h3 _)
     have g2:((Nat.gcd m y.natAbs:Nat):Int)∣y*cf (x::a) (n+1):=Int.dvd_mul_of_dvd_left (Int.ofNat_dvd_left.mpr (Nat.gcd_dvd_right _ _))
     have e2:aw (x::a) b n=aw (x::a) (y::b) (n+1)-y*cf (x::a) (n+1):=by
      rw [e];show _=_+aw (x::a) b n-_;omega
     rw [e2];exact Int.dvd_sub g1 g2
   have h0:=h3 0
   rw [dq] at h0
   have h0':m∣x.natAbs*y.natAbs:=by
    rw [<- Int.natAbs_mul]
    refine Int.ofNat_dvd_left.mp ?_
    have e:x*cf (y::b) 0+up (aw a (y::b)) 0=x*y:=by
     show x*y+0=x*y;omega
    rwa [e] at h0
   have h4:m∣y.natAbs:=Nat.Coprime.dvd_of_dvd_mul_left d1 h0'
   rw [Nat.gcd_eq_left h4] at d2
   exact d2
theorem Ck {l:List Int} {v:Int} (h:v∈l):∃ n,n<l.length/\cf l n=v:=by
 obtain ⟨n,hn,e⟩:=List.getElem_of_mem h
 exact ⟨n,hn,by rw [cR hn,e]⟩
theorem wz {a:List Int} {m:Nat} (h:ar a=1):Cop a m:=fun k _ hn=>by
 have:k∣ar a:=dvd_gcdL.mpr fun v hv=>by
  obtain ⟨n,_,rfl⟩:=Ck hv
  exact Int.ofNat_dvd_left.mp (hn n)
 rw [h] at this
 exact Nat.dvd_one.mp this
theorem Ai {a b:List Int} (ha:ar a=1) (hb:ar b=1):ar (ad a b)=1:=by
 refine pE _ a b _ (Nat.le_refl _) (wz ha) (wz hb) fun n=>?_
 rw [<- aG]
 by_cases hn:n<(ad a b).length
 ·rw [cR hn];exact ga (List.getElem_mem hn)
 ·rw [bH (by omega)];exact Int.dvd_zero _
structure Pln (l:List Int):Prop where
 tr:Tr l
 ne:l≠[]
 prim:ar l=1
 pos:0<aN l
theorem fm {l:List Int} (h:Tr l) (hne:l≠[]):aN l≠0:=by
 have:=List.length_pos_iff.mpr hne
 exact h (l.length-1) (by omega)
theorem Pln.plain {l:List Int} (h:Pln l):av l=l:=by
 unfold av
 rw [iM (.inr h.prim)]
 unfold b9
 rw [if_neg (by have:=h.pos;omega)]
theorem iL {l:List Int}:scL (ar l:Int) (ak l)=l:=by
 unfold scL ak
 rw [List.map_map]
 refine (List.map_congr_left (g:=id) fun x hx=>?_).trans (List.map_id _)
 exact Int.mul_ediv_cancel' (ga hx)
theorem eY {l:List Int} (h:Tr l) (hne:l≠[]):Pln (av l):=by
 have hg:0<ar l:=by
  obtain ⟨r,x,rfl⟩:=(ck l).resolve_left hne
  have hx:x≠0:=tr_snoc.mp h
  exact Nat.pos_of_dvd_of_pos (lu (by simp:x∈r++[x])) (Int.natAbs_pos.mpr hx)
 have h1:ar (ak l)=1:=by
  have e:=ln (ar l:Int) (ak l)
  rw [iL,Int.natAbs_natCast] at e
  exact Nat.eq_of_mul_eq_mul_left hg (by rw [<- e,Nat.mul_one])
 have hs:ak l≠[]:=fun z=>hne (by have:=congrArg List.length z;unfold ak at this;simpa using this)
 have hl:=fm (fJ h) hs
 have hp:ar (av l)=1:=by
  rcases Af (.inr h1:ix (ak l)) with z | z
  ·exact absurd (congrArg List.length z) (by
    have:=plain_len l
    unfold av at this
    rw [this]
    exact fun q=>hne (List.length_eq_zero_iff.mp q))
  ·exact z
 refine ⟨rk h,fun z=>hne (List.length_eq_zero_iff.mp (by rw [<- plain_len,z];rfl)),hp,?_⟩
 unfold av b9
 split
 ·rw [vw];omega
 ·omega
theorem bQ {a b:List Int} (ha:a≠[]) (hb:b≠[]):(ad a b).length=a.length+b.length-1:=by
 unfold ad
 rw [if_neg (fun z=>z.elim ha hb),List.length_map,List.length_range]
theorem Dk {a b:List Int} (ha:a≠[]) (hb:b≠[]):aN (ad a b)=aN a*aN b:=by
 have h1:=List.length_pos_iff.mpr ha
 have h2:=List.length_pos_iff.mpr hb
 unfold aN
 rw [bQ ha hb,aG]
 have e:a.length+b.length-1-1=(a.length-1)+(b.length-1):=by omega
 rw [e,i6 (by omega) (by omega)]
theorem Pln.mul {a b:List Int} (ha:Pln a) (hb:Pln b):Pln (ad a b):=by
 refine ⟨fK ha.tr hb.tr,fun z=>?_,Ai ha.prim hb.prim,by rw [Dk ha.ne hb.ne];exact Int.mul_pos ha.pos hb.pos⟩
 have h1:=List.length_pos_iff.mpr ha.ne
 have h2:=List.length_pos_iff.mpr hb.ne
 have:=bQ ha.ne hb.ne
 rw [z] at this
 simp at this
 omega
theorem Ar {p q d:List Int} {c:Int} (hc:c≠0) (hp:Tr p) (hpn:p≠[]) (hq:Tr q) (hd:Pln d) (h:∀ n,c*cf p n=aw q d n):ad (av q) d=av p:=by
 have hqn:q≠[]:=fun z=>by
  have h1:=List.length_pos_iff.mpr hpn
  have h2:=h (p.length-1)
  rw [z,dd] at h2
  exact Int.mul_ne_zero hc (hp (p.length-1) (by omega)) h2
 obtain ⟨g,hg,e⟩:=eZ hq
 have hm:=(eY hq hqn).mul hd
 rw [<- hm.plain]
 refine Ap hg hc hm.tr hp fun k=>?_
 rw [h,aG,dI (a:=av q) (b:=[]) (x:=g) (y:=0) (c:=q) (fun k=>by rw [e];simp),dd]
 simp
theorem Dv.trim {d p:List Int} (h:Dv d p):∃ (c:Int) (q:List Int),c≠0/\Tr q/\∀ n,c*cf p n=aw q d n:=by
 obtain ⟨c,q,hc,e⟩:=h
 exact ⟨c,RM.trim q,hc,di q,fun n=>by rw [e];exact (uQ (fun k=>dU q k) fun _=>rfl).symm⟩
theorem Dv.fellow {d p:List Int} (hd:Pln d) (hp:Tr p) (hpn:p≠[]) (h:Dv d p):∃ q,Pln q/\ad q d=av p:=by
 obtain ⟨c,q,hc,hq,e⟩:=h.trim
 have hqn:q≠[]:=fun z=>by
  have h1:=List.length_pos_iff.mpr hpn
  have h2:=e (p.length-1)
  rw [z,dd] at h2
  exact Int.mul_ne_zero hc (hp (p.length-1) (by omega)) h2
 exact ⟨av q,eY hq hqn,Ar hc hp hpn hq hd e⟩
theorem Pln.const {l:List Int} (h:Pln l) (h1:l.length=1):l=[1]:=by
 obtain ⟨x,rfl⟩:∃ x,l=[x]:=List.length_eq_one_iff.mp h1
 have h2:=h.prim
 rw [v6] at h2
 have h3:0<x:=h.pos
 have:x=1:=by omega
 rw [this]
theorem one_mul (l:List Int) (h:Tr l):ad [1] l=l:=by
 refine gw (fK (tr_snoc (r:=[]).mpr (by decide)) h) h fun k=>?_
 rw [aG,fj];omega
theorem An {a b:List Int} (ha:Pln a) (hb:Pln b) (h1:Dv a b) (h2:Dv b a):a=b:=by
 obtain ⟨q,hq,e⟩:=h1.fellow ha hb.tr hb.ne
 obtain ⟨r,hr,e'⟩:=h2.fellow hb ha.tr ha.ne
 rw [hb.plain] at e
 rw [ha.plain] at e'
 have l1:=bQ hq.ne ha.ne
 have l2:=bQ hr.ne hb.ne
 rw [e] at l1
 rw [e'] at l2
 have p1:=List.length_pos_iff.mpr hq.ne
 have p2:=List.length_pos_iff.mpr hr.ne
 have p3:=List.length_pos_iff.mpr ha.ne
 have hq1:=hq.const (by omega)
 rw [hq1,one_mul a ha.tr] at e
 exact e
theorem Dv.short {d r:List Int} (hd:d≠[]) (hdt:Tr d) (hr:Tr r) (hl:r.length<d.length) (h:Dv d r):r=[]:=by
 obtain ⟨c,q,hc,e⟩:=h
 have z:=uO hd hdt (d:=q) fun n hn=>by rw [<- e,bH (by omega),Int.mul_zero]
 refine oP hr fun k=>?_
 have h1:=e k
 rw [oQ z] at h1
 exact (Int.mul_eq_zero.mp h1).resolve_left hc
theorem Dv.rest {d p:List Int} (hd:d≠[]) (hdt:Tr d) (h:Dv d p):aB p d=[] :=
 Dv.short hd hdt (dR _ _) (eM hd) (Dv.down (fun n=>fw (a:=p) hd n) h (Dv.refl d))
theorem Dv.mul_right (a b:List Int):Dv b (ad a b):=⟨1,a,by decide,fun n=>by rw [aG];omega⟩
theorem Dv.mul_left (a b:List Int):Dv a (ad a b):=⟨1,b,by decide,fun n=>by rw [aG,fk];omega⟩
end RM
namespace RM
theorem Hg {l1 l2 r1 r2 pl pc a1 a2 c1 c2 x1 x2:Int} (ha:0<a2) (hc:0<c2) (e1:a1*pc=pl*a2) (e2:c1*(r2*a2)=r1*a1*c2) (e3:x1*(l2*c2)=(l1*c2+c1*l2)*x2) :
 x1*(l2*r2*pc)=(l1*r2*pc+r1*l2*pl)*x2:=by
 have h0:c2*a2≠0:=Int.ne_of_gt (Int.mul_pos hc ha)
 refine Int.eq_of_mul_eq_mul_right h0 ?_
 calc x1*(l2*r2*pc)*(c2*a2)=x1*(l2*c2)*(r2*pc*a2):=by grind
  _=(l1*c2+c1*l2)*x2*(r2*pc*a2):=by rw [e3]
  _=x2*(l1*c2*r2*pc*a2+l2*pc*(c1*(r2*a2))):=by grind
  _=x2*(l1*c2*r2*pc*a2+l2*pc*(r1*a1*c2)):=by rw [e2]
  _=x2*c2*(l1*r2*pc*a2+l2*r1*(a1*pc)):=by grind
  _=x2*c2*(l1*r2*pc*a2+l2*r1*(pl*a2)):=by rw [e1]
  _=(l1*r2*pc+r1*l2*pl)*x2*(c2*a2):=by grind
theorem Gz {l r:Int} (hl:0<l) (hr:0<r) {g:Nat} (hg:g=Nat.gcd l.natAbs r.natAbs):∃ l' r':Int,0<l'/\0<r'/\(0:Int)<g/\l=g*l'/\r=g*r'/\l*r/g=l*r'/\l*r'/l=r'/\l*r'/r=l'/\0<l*r':=by
 have g0:0<g:=by rw [hg];exact Nat.gcd_pos_of_pos_left _ (by omega)
 have gi:(0:Int)<g:=by omega
 obtain ⟨l',hl'⟩:(g:Int)∣l:=Int.natAbs_dvd_natAbs.mp (by rw [Int.natAbs_natCast,hg];exact Nat.gcd_dvd_left _ _)
 obtain ⟨r',hr'⟩:(g:Int)∣r:=Int.natAbs_dvd_natAbs.mp (by rw [Int.natAbs_natCast,hg];exact Nat.gcd_dvd_right _ _)
 have l0:0<l':=Int.lt_of_mul_lt_mul_left (a:=(g:Int)) (by rw [Int.mul_zero,<- hl'];exact hl) (Int.le_of_lt gi)
 have r0:0<r':=Int.lt_of_mul_lt_mul_left (a:=(g:Int)) (by rw [Int.mul_zero,<- hr'];exact hr) (Int.le_of_lt gi)
 refine ⟨l',r',l0,r0,gi,hl',hr',?_,?_,?_,Int.mul_pos hl r0⟩
 ·have e:l*r=(l*r')*g:=by
   calc l*r=l*(g*r'):=by rw [<- hr']
    _=(l*r')*g:=by grind
  rw [e];exact Int.mul_ediv_cancel _ (Int.ne_of_gt gi)
 ·exact Int.mul_ediv_cancel_left _ (Int.ne_of_gt hl)
 ·have e:l*r'=l'*r:=by
   calc l*r'=(g*l')*r':=by rw [<- hl']
    _=l'*(g*r'):=by grind
    _=l'*r:=by rw [<- hr']
  rw [e];exact Int.mul_ediv_cancel _ (Int.ne_of_gt hr)
end RM
namespace RM
def ca:List Int->List Int
 | []=>[]
 | v::l=>2^l.length*v::ca l
theorem j7:∀ l,(ca l).length=l.length
 | []=>rfl
 | v::l=>by show (ca l).length+1=_;rw [j7 l];rfl
theorem vP (p q:Int):∀ l,2*hv p q (ca l)=hv p (2*q) l
 | []=>by show 2*0=(0:Int);rfl
 | v::l=>by
   have ih:=vP p q l
   show 2*(2^l.length*v*q^((ca l).length+1)+p*hv p q (ca l))=v*(2*q)^(l.length+1)+p*hv p (2*q) l
   rw [j7,<- ih,Int.mul_pow,Int.pow_succ 2]
   grind
def suf:List Int->List Int
 | []=>[]
 | v::l=>(v+(suf l).headD 0)::suf l
theorem gT:∀ l,(suf l).length=l.length
 | []=>rfl
 | v::l=>by show (suf l).length+1=_;rw [gT l];rfl
theorem rJ (p q:Int):∀ l,hv (p+q) q l=(suf l).headD 0*q^l.length+p*hv (p+q) q ((suf l).tail)
 | []=>by show (0:Int)=0*q^0+p*0;omega
 | v::l=>by
   have ih:=rJ p q l
   show v*q^(l.length+1)+(p+q)*hv (p+q) q l=(v+(suf l).headD 0)*q^(l.length+1)+p*hv (p+q) q (suf l)
   cases hs:suf l with
   | nil =>
     have hl:l=[]:=by
      have:=gT l
      rw [hs] at this
      exact List.eq_nil_of_length_eq_zero this.symm
     subst hl
     show v*q^1+(p+q)*0=(v+0)*q^1+p*0
     grind
   | cons g r =>
     rw [hs] at ih
     have hl:r.length+1=l.length:=by have:=gT l;rw [hs] at this;exact this
     have ih':hv (p+q) q l=g*q^l.length+p*hv (p+q) q r:=ih
     show v*q^(l.length+1)+(p+q)*hv (p+q) q l=(v+g)*q^(l.length+1)+p*(g*q^(r.length+1)+(p+q)*hv (p+q) q r)
     rw [ih',hl,Int.pow_succ]
     grind
def cX:Nat->List Int->List Int
 | 0,m=>suf m
 | _+1,[]=>[]
 | i+1,c::m=>c::cX i m
theorem oH:∀ (i:Nat) (m:List Int),(cX i m).length=m.length
 | 0,m=>gT m
 | _+1,[]=>rfl
 | i+1,c::m=>by show (cX i m).length+1=_;rw [oH i m];rfl
def dJ (p q:Int):Nat->List Int->Int
 | 0,m=>hv (p+q) q m
 | _+1,[]=>0
 | i+1,c::m=>c*q^(m.length+1)+p*dJ p q i m
theorem u8 (p q:Int):∀ (i:Nat) (m:List Int),dJ p q (i+1) (cX i m)=dJ p q i m
 | 0,m=>by
   show dJ p q 1 (suf m)=hv (p+q) q m
   rw [rJ]
   cases hs:suf m with
   | nil =>
     show (0:Int)=0*q^m.length+p*hv (p+q) q []
     rw [lf];omega
   | cons g r =>
     have hl:r.length+1=m.length:=by have:=gT m;rw [hs] at this;exact this
     show g*q^(r.length+1)+p*hv (p+q) q r=g*q^m.length+p*hv (p+q) q r
     rw [hl]
 | i+1,[]=>rfl
 | i+1,c::m=>by
   show c*q^((cX i m).length+1)+p*dJ p q (i+1) (cX i m)=c*q^(m.length+1)+p*dJ p q i m
   rw [u8 p q i m,oH]
theorem va (p q:Int):∀ (i:Nat) (m:List Int),m.length<=i+1->dJ p q i m=hv p q m
 | 0,[],_=>rfl
 | 0,[c],_=>by
   show c*q^1+(p+q)*0=c*q^1+p*0
   omega
 | 0,_::_::_,h=>absurd h (by simp)
 | _+1,[],_=>rfl
 | i+1,c::m,h=>by
   show c*q^(m.length+1)+p*dJ p q i m=c*q^(m.length+1)+p*hv p q m
   rw [va p q i m (by simpa using h)]
def du:Nat->List Int->List Int
 | 0,l=>l
 | i+1,l=>cX i (du i l)
theorem kO:∀ (i:Nat) (l:List Int),(du i l).length=l.length
 | 0,_=>rfl
 | i+1,l=>by show (cX i (du i l)).length=_;rw [oH,kO i l]
theorem u9 (p q:Int):∀ (i:Nat) (l:List Int),dJ p q i (du i l)=hv (p+q) q l
 | 0,_=>rfl
 | i+1,l=>by show dJ p q (i+1) (cX i (du i l))=_;rw [u8,u9 p q i l]
def i8 (l:List Int):List Int:=du (l.length-1) l
theorem uZ (l:List Int):(i8 l).length=l.length:=kO _ _
theorem Ee (p q:Int) (l:List Int):hv p q (i8 l)=hv (p+q) q l:=by
 rw [<- u9 p q (l.length-1) l]
 exact (va p q (l.length-1) _ (by rw [uZ];omega)).symm
theorem vN:∀ l:List Int,hv 1 1 l=l.sum
 | []=>rfl
 | v::l=>by
   show v*1^(l.length+1)+1*hv 1 1 l=v+l.sum
   rw [vN l,Int.one_pow];omega
def bG (m s0 s1:Int):List Int->List Int
 | []=>[]
 | v::l=>mb (-s0) s1 (v*m^l.length) (bG m s0 s1 l)
theorem gW (m s0 s1:Int):∀ l,(bG m s0 s1 l).length=l.length
 | []=>rfl
 | v::l=>by show (mb _ _ _ _).length=_;rw [kQ,gW m s0 s1 l];rfl
theorem vO (m s0 s1 p q:Int):∀ l,m*hv p q (bG m s0 s1 l)=hv (s0*q+s1*p) (m*q) l
 | []=>by show m*0=(0:Int);omega
 | v::l=>by
   have ih:=vO m s0 s1 p q l
   show m*hv p q (mb (-s0) s1 (v*m^l.length) (bG m s0 s1 l))=v*(m*q)^(l.length+1)+(s0*q+s1*p)*hv (s0*q+s1*p) (m*q) l
   rw [vV,gW,<- ih,Int.mul_pow,Int.pow_succ m]
   grind
theorem rK (m s0 s1:Int):∀ l,cf (bG m s0 s1 l) (l.length-1)=cf l (l.length-1)*s1^(l.length-1)
 | []=>by show (0:Int)=0*_;omega
 | [v]=>by
   show cf (mb (-s0) s1 (v*m^0) []) 0=v*s1^0
   rw [gD,if_pos rfl,b7,Int.pow_zero,Int.pow_zero]
   omega
 | v::u::l=>by
   have ih:=rK m s0 s1 (u::l)
   show cf (mb (-s0) s1 _ (bG m s0 s1 (u::l))) (l.length+1)=cf (u::l) l.length*s1^(l.length+1)
   rw [gD,if_neg (by omega)]
   have e1:cf (bG m s0 s1 (u::l)) (l.length+1)=0:=bH (by rw [gW];exact Nat.le_refl _)
   have e2:cf (bG m s0 s1 (u::l)) (l.length+1-1)=cf (u::l) l.length*s1^l.length:=ih
   rw [e1,e2,Int.pow_succ]
   grind
theorem cu {x p:Int} (hp:0<p):sg (p*x)=sg x:=by rw [Int.mul_comm];exact mC hp
end RM
namespace RM
def sgq (u v d:Int):Int :=
 if 0<=u/\0<=v then (if 0<u\/0<v then 1 else 0)
 else if u<=0/\v<=0 then -1
 else if 0<u then (if u*u<d*v*v then -1 else 1)
 else (if u*u>d*v*v then -1 else 1)
def NSq (d:Int):Prop:=0<d/\∀ a b:Int,b≠0->a*a≠d*b*b
theorem BY (n d:Nat) (h1:n*n<d) (h2:d<(n+1)*(n+1)):∀ b a:Nat,0<b->a*a≠d*(b*b):=by
 intro b
 induction b using Nat.strongRecOn with
 | ind b ih =>
   intro a hb e
   have l1:n*b<a:=by
    refine Classical.byContradiction fun z=>?_
    have z':a<=n*b:=by omega
    have h3:=Nat.mul_le_mul z' z'
    have h4:n*n*(b*b)<d*(b*b):=Nat.mul_lt_mul_of_pos_right h1 (Nat.mul_pos hb hb)
    have e2:n*b*(n*b)=n*n*(b*b):=by grind
    omega
   have l2:a<(n+1)*b:=by
    refine Classical.byContradiction fun z=>?_
    have z':(n+1)*b<=a:=by omega
    have h3:=Nat.mul_le_mul z' z'
    have h4:d*(b*b)<(n+1)*(n+1)*(b*b):=Nat.mul_lt_mul_of_pos_right h2 (Nat.mul_pos hb hb)
    have e2:(n+1)*b*((n+1)*b)=(n+1)*(n+1)*(b*b):=by grind
    omega
   have e3:(n+1)*b=n*b+b:=by grind
   obtain ⟨c,hc⟩:∃ c,a=n*b+c:=⟨a-n*b,by omega⟩
   have hc0:0<c:=by omega
   have hcb:c<b:=by omega
   have l3:n*a<=d*b:=by
    have h5:n*a*a<=d*b*a:=by
     have h6:n*(a*a)=n*(d*(b*b)):=by rw [e]
     have h7:n*b*(d*b)<=a*(d*b):=Nat.mul_le_mul_right _ (Nat.le_of_lt l1)
     have e4:n*a*a=n*(a*a):=by grind
     have e5:n*(d*(b*b))=n*b*(d*b):=by grind
     have e6:d*b*a=a*(d*b):=by grind
     omega
    exact Nat.le_of_mul_le_mul_right h5 (by omega)
   obtain ⟨f,hf⟩:∃ f,d*b=n*a+f:=⟨d*b-n*a,by omega⟩
   refine ih c hcb f hc0 ?_
   have e7:(f:Int)=(d:Int)*b-n*a:=by
    have:=congrArg (fun z:Nat=>(z:Int)) hf
    simp only [Int.natCast_add,Int.natCast_mul] at this
    omega
   have e8:(c:Int)=(a:Int)-n*b:=by
    have:=congrArg (fun z:Nat=>(z:Int)) hc
    simp only [Int.natCast_add,Int.natCast_mul] at this
    omega
   have e9:(a:Int)*a=d*(b*b):=by
    have:=congrArg (fun z:Nat=>(z:Int)) e
    simp only [Int.natCast_mul] at this
    exact this
   have e10:(f:Int)*f=d*(c*c):=by
    rw [e7,e8]
    have:((d:Int)*b-n*a)*(d*b-n*a)-d*((a-n*b)*(a-n*b))=(d*(b*b)-a*a)*(d-n*n):=by grind
    rw [e9,Int.sub_self,Int.zero_mul] at this
    omega
   have e11:((f*f:Nat):Int)=((d*(c*c):Nat):Int):=by
    simp only [Int.natCast_mul];exact e10
   exact Int.ofNat.inj e11
theorem fh {n d:Nat} (h1:n*n<d) (h2:d<(n+1)*(n+1)):NSq d:=by
 refine ⟨by omega,fun a b hb e=>?_⟩
 refine BY n d h1 h2 b.natAbs a.natAbs (by omega) ?_
 have e1:((a.natAbs*a.natAbs:Nat):Int)=a*a:=Int.natAbs_mul_self
 have e2:((b.natAbs*b.natAbs:Nat):Int)=b*b:=Int.natAbs_mul_self
 have:((a.natAbs*a.natAbs:Nat):Int)=((d*(b.natAbs*b.natAbs):Nat):Int):=by
  rw [Int.natCast_mul (d) _,e1,e2,e,Int.mul_assoc]
 exact Int.ofNat.inj this
theorem iN (u v d:Int):sgq u v d=1\/sgq u v d=0\/sgq u v d = -1:=by
 unfold sgq
 split
 ·split
  ·exact .inl rfl
  ·exact .inr (.inl rfl)
 ·split
  ·exact .inr (.inr rfl)
  ·split<;>split<;>simp
theorem cB {u v d:Int} (hu:0<=u) (hv:0<=v) (h:0<u\/0<v):sgq u v d=1:=by unfold sgq;rw [if_pos ⟨hu,hv⟩,if_pos h]
theorem cn {u v d:Int} (hu:u<=0) (hv:v<=0) (h:u<0\/v<0):sgq u v d = -1:=by unfold sgq;rw [if_neg (by omega),if_pos ⟨hu,hv⟩]
theorem d7 {u v d:Int} (hu:0<u) (hv:v<0):sgq u v d=if u*u<d*v*v then -1 else 1:=by unfold sgq;rw [if_neg (by omega),if_neg (by omega),if_pos hu]
theorem d8 {u v d:Int} (hu:u<0) (hv:0<v):sgq u v d=if u*u>d*v*v then -1 else 1:=by unfold sgq;rw [if_neg (by omega),if_neg (by omega),if_neg (by omega)]
theorem iO (d:Int):sgq 0 0 d=0:=rfl
theorem o9 (u v:Int):(u=0/\v=0)\/(0<=u/\0<=v/\(0<u\/0<v))\/(u<=0/\v<=0/\(u<0\/v<0))\/(0<u/\v<0)\/(u<0/\0<v):=by omega
theorem g6 {g u v d:Int} (hg:0<g):sgq (g*u) (g*v) d=sgq u v d:=by
 have hp:∀ x:Int,0<x->0<g*x:=fun x h=>Int.mul_pos hg h
 have hn:∀ x:Int,x<0->g*x<0:=fun x h=>Int.mul_neg_of_pos_of_neg hg h
 have hz:∀ x:Int,0<=x->0<=g*x:=fun x h=>Int.mul_nonneg (Int.le_of_lt hg) h
 have hy:∀ x:Int,x<=0->g*x<=0:=fun x h=>Int.mul_nonpos_of_nonneg_of_nonpos (Int.le_of_lt hg) h
 have gg:0<g*g:=Int.mul_pos hg hg
 have e1:g*u*(g*u)=u*u*(g*g):=by grind
 have e2:d*(g*v)*(g*v)=d*v*v*(g*g):=by grind
 rcases o9 u v with ⟨rfl,rfl⟩ | ⟨a,b,c⟩ | ⟨a,b,c⟩ | ⟨a,b⟩ | ⟨a,b⟩
 ·rw [Int.mul_zero]
 ·rw [cB a b c,cB (hz _ a) (hz _ b) (c.elim (fun z=>.inl (hp _ z)) (fun z=>.inr (hp _ z)))]
 ·rw [cn a b c,cn (hy _ a) (hy _ b) (c.elim (fun z=>.inl (hn _ z)) (fun z=>.inr (hn _ z)))]
 ·rw [d7 a b,d7 (hp _ a) (hn _ b),e1,e2]
  by_cases z:u*u<d*v*v
  ·rw [if_pos z,if_pos (Int.mul_lt_mul_of_pos_right z gg)]
  ·rw [if_neg z,if_neg (fun y=>z (Int.lt_of_mul_lt_mul_right y (Int.le_of_lt gg)))]
 ·rw [d8 a b,d8 (hn _ a) (hp _ b),e1,e2]
  by_cases z:u*u>d*v*v
  ·rw [if_pos z,if_pos (Int.mul_lt_mul_of_pos_right z gg)]
  ·rw [if_neg z,if_neg (fun y=>z (Int.lt_of_mul_lt_mul_right y (Int.le_of_lt gg)))]
theorem cU {x y:Int} (h:(x<0/\y = -1)\/(x=0/\y=0)\/(0<x/\y=1)):sg x=y:=by unfold sg;split<;>(try split)<;>omega
theorem yH {a v d:Int} (hd:NSq d):sg (a*a-d*v*v)=sgq a v d*sgq a (-v) d:=by
 have sq:∀ x:Int,x≠0->0<x*x:=fun x h=>by
  rcases Int.lt_or_gt_of_ne h with z | z
  ·exact Int.mul_pos_of_neg_of_neg z z
  ·exact Int.mul_pos z z
 have ev:d*(-v)*(-v)=d*v*v:=by grind
 have hv0:v≠0->0<d*v*v:=fun h=>by rw [Int.mul_assoc];exact Int.mul_pos hd.1 (sq v h)
 have hne:v≠0->a*a≠d*v*v:=fun h=>hd.2 a v h
 rcases o9 a v with ⟨rfl,rfl⟩ | ⟨ha,hv,c⟩ | ⟨ha,hv,c⟩ | ⟨ha,hv⟩ | ⟨ha,hv⟩
 ·refine cU (.inr (.inl ⟨by simp,?_⟩));rw [iO];simp
 ·rw [cB ha hv c,Int.one_mul]
  by_cases hz:v=0
  ·subst hz
   have:0<a:=by omega
   rw [Int.neg_zero,cB ha (Int.le_refl _) (.inl this)]
   exact cU (.inr (.inr ⟨by have:=sq a (by omega);simp;exact this,rfl⟩))
  ·have vp:0<v:=by omega
   by_cases az:a=0
   ·subst az
    rw [cn (Int.le_refl _) (by omega) (.inr (by omega))]
    exact cU (.inl ⟨by have:=hv0 hz;omega,rfl⟩)
   ·rw [d7 (by omega) (by omega),ev]
    have:=hne hz
    split
    ·exact cU (.inl ⟨by omega,rfl⟩)
    ·exact cU (.inr (.inr ⟨by omega,rfl⟩))
 ·rw [cn ha hv c]
  by_cases hz:v=0
  ·subst hz
   have:a<0:=by omega
   rw [Int.neg_zero,cn ha (Int.le_refl _) (.inl this)]
   exact cU (.inr (.inr ⟨by have:=sq a (by omega);simp;exact this,rfl⟩))
  ·have vn:v<0:=by omega
   by_cases az:a=0
   ·subst az
    rw [cB (Int.le_refl _) (by omega) (.inr (by omega))]
    exact cU (.inl ⟨by have:=hv0 hz;omega,rfl⟩)
   ·rw [d8 (by omega) (by omega),ev]
    have:=hne hz
    split
    ·exact cU (.inr (.inr ⟨by omega,rfl⟩))
    ·exact cU (.inl ⟨by omega,rfl⟩)
 ·rw [d7 ha hv,cB (by omega) (by omega) (.inl ha),Int.mul_one]
  have:=hne (by omega)
  split
  ·exact cU (.inl ⟨by omega,rfl⟩)
  ·exact cU (.inr (.inr ⟨by omega,rfl⟩))
 ·rw [d8 ha hv,cn (by omega) (by omega) (.inl ha)]
  have:=hne (by omega)
  split
  ·exact cU (.inr (.inr ⟨by omega,rfl⟩))
  ·exact cU (.inl ⟨by omega,rfl⟩)
theorem rQ {x y:Int} (h:x<y) (hx:0<=x):x*x<y*y:=by
 have h1:x*x<=x*y:=Int.mul_le_mul_of_nonneg_left (Int.le_of_lt h) hx
 have h2:x*y<y*y:=Int.mul_lt_mul_of_pos_right h (by omega)
 omega
theorem yJ {a b v d:Int} (h:b<a) (hs:sgq a v d<=0):sgq b v d = -1:=by
 rcases o9 a v with ⟨rfl,rfl⟩ | ⟨ha,hv,c⟩ | ⟨ha,hv,c⟩ | ⟨ha,hv⟩ | ⟨ha,hv⟩
 ·exact cn (by omega) (Int.le_refl _) (.inl h)
 ·rw [cB ha hv c] at hs;exact absurd hs (by decide)
 ·exact cn (by omega) hv (.inl (by omega))
 ·rw [d7 ha hv] at hs
  by_cases z:a*a<d*v*v
  ·by_cases hb:b<=0
   ·exact cn hb (by omega) (.inr hv)
   ·rw [d7 (by omega) hv]
    have h1:b*b<a*a:=rQ h (by omega)
    rw [if_pos (by omega)]
  ·rw [if_neg z] at hs;exact absurd hs (by decide)
 ·rw [d8 ha hv] at hs
  by_cases z:a*a>d*v*v
  ·rw [d8 (by omega) hv]
   have h1:(-a)*(-a)<(-b)*(-b):=rQ (by omega) (by omega)
   have e1:(-a)*(-a)=a*a:=by grind
   have e2:(-b)*(-b)=b*b:=by grind
   rw [if_pos (by omega)]
  ·rw [if_neg z] at hs;exact absurd hs (by decide)
end RM
namespace RM
theorem pC {t n x y:Int}:∀ (a b c:List Int),a.length=c.length->b.length=c.length->(∀ k,cf c k=x*cf a k+y*cf b k)->hv t n c=x*hv t n a+y*hv t n b
 | [],[],[],_,_,_=>by simp [lf]
 | u::a,v::b,w::c,ha,hb,h=>by
   have h0:w=x*u+y*v:=h 0
   have ih:=pC (t:=t) (n:=n) (x:=x) (y:=y) a b c (by simpa using ha) (by simpa using hb) (fun k=>h (k+1))
   have la:a.length=c.length:=by simpa using ha
   have lb:b.length=c.length:=by simpa using hb
   rw [c6,c6,c6,ih,h0,la,lb]
   generalize n^(c.length+1)=p
   grind
 | [],_::_,[],_,h,_=>by simp at h
 | _::_,_,[],h,_,_=>by simp at h
 | [],_,_::_,h,_,_=>by simp at h
 | _::_,[],_::_,_,h,_=>by simp at h
theorem vQ (t n g:Int) (l:List Int):hv t n (scL g l)=g*hv t n l:=by
 have:=pC (t:=t) (n:=n) (x:=g) (y:=0) l l (scL g l) (by rw [cz]) (by rw [cz]) (fun k=>by rw [aX];simp)
 rw [this];simp
theorem vM (t n:Int):∀ (k:Nat) (l:List Int),hv t n (l++List.replicate k 0)=n^k*hv t n l
 | k,[]=>by
   rw [List.nil_append,lf,Int.mul_zero]
   induction k with
   | zero=>rfl
   | succ k ih=>rw [List.replicate_succ,c6,ih];simp
 | k,v::l=>by
   rw [List.cons_append,c6,vM t n k l,c6]
   have:(l++List.replicate k (0:Int)).length+1=l.length+1+k:=by simp;omega
   rw [this,Int.pow_add]
   generalize n^(l.length+1)=p
   generalize n^k=q
   grind
theorem Gp (l:List Int) (k j:Nat):cf (l++List.replicate k 0) j=cf l j:=by
 by_cases h:j<l.length
 ·rw [wL h]
 ·rw [jF (by omega),jD,bH (by omega)]
theorem pB (t n:Int) {b:List Int} (hb:b≠[]):∀ {a:List Int},a≠[]->n*hv t n (ad a b)=hv t n a*hv t n b
 | [x],_=>by
   have e:ad [x] b=scL x b:=by
    apply dC
    ·rw [bQ (by simp) hb,cz];simp
    ·intro k _;rw [aG,fj,aX]
   rw [e,vQ,lc]
   grind
 | x::y::a,_=>by
   have ih:=pB t n hb (a:=y::a) (by simp)
   have lm:(ad (x::y::a) b).length=(y::a).length+b.length:=by rw [bQ (by simp) hb,List.length_cons];omega
   have lm2:(ad (y::a) b).length+1=(y::a).length+b.length:=by
    rw [bQ (by simp) hb];have:=List.length_pos_iff.mpr hb;rw [List.length_cons];omega
   have e:=pC (t:=t) (n:=n) (x:=x) (y:=1) (b++List.replicate (y::a).length 0) (0::ad (y::a) b) (ad (x::y::a) b) (by rw [lm,List.length_append,List.length_replicate];omega) (by rw [lm,List.length_cons,lm2])
    (fun k=>by rw [aG,dq,Gp,lz];rw [Int.one_mul];congr 1;unfold up;split<;>first | rfl | rw [aG])
   rw [e,vM,c6 (v:=0),c6 (v:=x)]
   have:n*(x*(n^(y::a).length*hv t n b)+1*(0*n^((ad (y::a) b).length+1)+t*hv t n (ad (y::a) b)))=x*(n^(y::a).length*n)*hv t n b+t*(n*hv t n (ad (y::a) b)):=by grind
   rw [this,ih,<- Int.pow_succ]
   grind
def pr (t n:Int):List (List Int)->Int
 | []=>1
 | s::ss=>hv t n s*pr t n ss
def sl:List (List Int)->Nat
 | []=>0
 | s::ss=>s.length+sl ss
theorem uW {a b:List Int} (ha:a≠[]) (hb:b≠[]):ad a b≠[]:=fun z=>by
 have:=bQ ha hb
 rw [z] at this
 have h1:=List.length_pos_iff.mpr ha
 have h2:=List.length_pos_iff.mpr hb
 rw [List.length_nil] at this
 omega
def cF (acc:List Int) (ss:List (List Int)):List Int:=ss.foldl ad acc
theorem ud:∀ (ss:List (List Int)) (acc:List Int),acc≠[]->Tr acc->(∀ s∈ss,s≠[]/\Tr s)->cF acc ss≠[]/\Tr (cF acc ss)/\(cF acc ss).length+ss.length=acc.length+sl ss
 | [],acc,h1,h2,_=>⟨h1,h2,by simp [cF,sl]⟩
 | s::ss,acc,h1,h2,h3=>by
   have hs:=h3 s (List.mem_cons_self ..)
   obtain ⟨a,b,c⟩:=ud ss (ad acc s) (uW h1 hs.1) (fK h2 hs.2) (fun x hx=>h3 x (List.mem_cons_of_mem _ hx))
   refine ⟨a,b,?_⟩
   have l:=bQ h1 hs.1
   have p1:=List.length_pos_iff.mpr h1
   have p2:=List.length_pos_iff.mpr hs.1
   show (cF (ad acc s) ss).length+(ss.length+1)=acc.length+(s.length+sl ss)
   omega
theorem vT (t n:Int):∀ (ss:List (List Int)) (acc:List Int),acc≠[]->(∀ s∈ss,s≠[])->n^ss.length*hv t n (cF acc ss)=hv t n acc*pr t n ss
 | [],acc,_,_=>by show n^0*hv t n acc=hv t n acc*1;simp
 | s::ss,acc,h1,h3=>by
   have hs:=h3 s (List.mem_cons_self ..)
   have ih:=vT t n ss (ad acc s) (uW h1 hs) (fun x hx=>h3 x (List.mem_cons_of_mem _ hx))
   have e:=pB t n hs h1
   show n^(ss.length+1)*hv t n (cF (ad acc s) ss)=hv t n acc*(hv t n s*pr t n ss)
   rw [Int.pow_succ,Int.mul_comm _ n,Int.mul_assoc,ih,<- Int.mul_assoc,e,Int.mul_assoc]
end RM
namespace RM
theorem gU {r:List Int} (h:Tr r):bM [] r=scL (-1) r:=by
 refine gw (di _) (j4 (by decide) h) fun k=>?_
 unfold bM
 rw [dU,fC,aX,b7];omega
theorem Gf {a b:List Int} (hb:b≠[]) (hbt:Tr b):0<bB a b:=by
 have h:=qj (a:=a) hb hbt
 have h2:0<=bB a b:=by
  unfold bB
  generalize aP a b=n
  induction n with
  | zero=>rw [Int.pow_zero];decide
  | succ n ih=>rw [Int.pow_succ];exact Int.mul_nonneg ih (Int.natCast_nonneg _)
 omega
theorem tM {n:Nat} {one:List Int} (h:one≠[]) (hn:0<n):aL n one []=[one]:=by
 obtain ⟨m,rfl⟩:∃ m,n=m+1:=⟨n-1,by omega⟩
 show (if one=[] then [] else one::aL m [] (nxt one []))=_
 rw [if_neg h,fO]
def c7:Nat->List Int->List Int->Prop
 | 0,one,_=>one=[]
 | n+1,one,other=>one=[]\/c7 n other (nxt one other)
end RM
namespace RM
theorem fU (a:List Int):ad [] a=[]:=by unfold ad;rw [if_pos (.inl rfl)]
theorem fT (a:List Int):ad a []=[]:=by unfold ad;rw [if_pos (.inr rfl)]
theorem kM (a b:List Int):ad a b=ad b a:=by
 by_cases ha:a=[]
 ·rw [ha,fU,fT]
 by_cases hb:b=[]
 ·rw [hb,fU,fT]
 refine dC ?_ fun k _=>?_
 ·rw [bQ ha hb,bQ hb ha];omega
 ·rw [aG,aG,fk]
theorem oS {a b:List Int} (ha:a≠[]) (hb:b≠[]):ad a b≠[]:=fun z=>by
 have:=bQ ha hb
 rw [z,List.length_nil] at this
 have:=List.length_pos_iff.mpr ha
 have:=List.length_pos_iff.mpr hb
 omega
theorem oT (a b c:List Int):ad (ad a b) c=ad a (ad b c):=by
 by_cases ha:a=[]
 ·rw [ha,fU,fU,fU]
 by_cases hb:b=[]
 ·rw [hb,fU,fT,fU]
 by_cases hc:c=[]
 ·rw [hc,fT,fT,fT]
 have h1:=oS ha hb
 have h2:=oS hb hc
 refine dC ?_ fun k _=>?_
 ·have:=List.length_pos_iff.mpr hb
  rw [bQ h1 hc,bQ ha h2,bQ ha hb,bQ hb hc];omega
 ·rw [aG,aG,ij]
instance:Std.Commutative ad:=⟨kM⟩
instance:Std.Associative ad:=⟨oT⟩
theorem Cc (a:List Int):ad [1] a=a:=by
 by_cases ha:a=[]
 ·rw [ha,fT]
 refine dC ?_ fun k _=>?_
 ·rw [bQ (by simp) ha];simp
 ·rw [aG,fj];omega
theorem oU (a:List Int):ad a [1]=a:=by rw [kM,Cc]
theorem pln_one:Pln [1]:=⟨tr_snoc (r:=[]).mpr (by decide),by simp,by decide,by decide⟩
theorem uh {a:List Int} (h:Pln a):1<=a.length:=List.length_pos_iff.mpr h.ne
def Sim (a b:List Int):Prop:=∃ x y:Int,x≠0/\y≠0/\∀ n,x*cf a n=y*cf b n
theorem Sim.refl (a:List Int):Sim a a:=⟨1,1,by decide,by decide,fun _=>rfl⟩
theorem Sim.dv {a b d:List Int} (h:Sim a b) (hd:Dv d b):Dv d a:=by
 obtain ⟨x,y,hx,hy,e⟩:=h
 exact Dv.prop_right hx e hd
theorem Sim.symm {a b:List Int} (h:Sim a b):Sim b a:=by
 obtain ⟨x,y,hx,hy,e⟩:=h
 exact ⟨y,x,hy,hx,fun n=>(e n).symm⟩
theorem Dv.cancel {d a b:List Int} (hd:d≠[]) (ht:Tr d) (h:Dv (ad d a) (ad d b)):Dv a b:=by
 obtain ⟨c,q,hc,e⟩:=h
 have key:∀ k,cf (dN (-1) (scL c b) (ad q a)) k=0:=by
  refine uO hd ht fun n _=>?_
  rw [dI (a:=b) (b:=ad q a) (x:=c) (y := -1) (fun k=>by rw [fC,aX])]
  have e1:aw (ad q a) d n=aw q (ad d a) n:=by
   rw [<- aG,<- aG]
   congr 1
   rw [oT,kM a d]
  have e2:=e n
  rw [aG,fk] at e2
  rw [e1,<- e2];omega
 refine ⟨c,q,hc,fun n=>?_⟩
 have:=key n
 rw [fC,aX,aG] at this
 omega
def prd (ss:List (List Int)):List Int:=ss.foldr ad [1]
theorem wc:∀ (ss:List (List Int)) (acc:List Int),ss.foldl ad acc=ad acc (prd ss)
 | [],acc=>(oU acc).symm
 | s::ss,acc=>by
   show ss.foldl ad (ad acc s)=ad acc (ad s (prd ss))
   rw [wc ss,oT]
theorem oy:∀ (ss:List (List Int)),(∀ s∈ss,Pln s)->Pln (prd ss)
 | [],_=>pln_one
 | s::ss,h=>(h s (List.mem_cons_self ..)).mul (oy ss fun x hx=>h x (List.mem_cons_of_mem _ hx))
structure Pri (s:List Int):Prop where
 pln:Pln s
 two:2<=s.length
 or:∀ a b,Dv s (ad a b)->Dv s a\/Dv s b
theorem Pri.not_one {s:List Int} (h:Pri s):¬ Dv s [1]:=fun z=>by
 have:=Dv.short h.pln.ne h.pln.tr pln_one.tr (by have:=h.two;show 1<s.length;omega) z
 exact absurd this (by simp)
theorem Pri.prd {s:List Int} (h:Pri s):∀ ss:List (List Int),Dv s (prd ss)->∃ t∈ss,Dv s t
 | [],hd=>absurd hd h.not_one
 | t::ss,hd=>by
   rcases h.or t (RM.prd ss) hd with z | z
   ·exact ⟨t,List.mem_cons_self ..,z⟩
   ·obtain ⟨t',ht,z'⟩:=Pri.prd h ss z
    exact ⟨t',List.mem_cons_of_mem _ ht,z'⟩
theorem Pri.same {s t:List Int} (hs:Pri s) (ht:Pri t) (h:Dv s t):s=t:=by
 obtain ⟨q,hq,e⟩:=h.fellow hs.pln ht.pln.tr ht.pln.ne
 rw [ht.pln.plain] at e
 have l:=bQ hq.ne hs.pln.ne
 rw [e] at l
 have:=hs.two
 have:=uh hq
 rcases ht.or q s (e ▸ Dv.refl _) with z | z
 ·exact absurd (Dv.short ht.pln.ne ht.pln.tr hq.tr (by omega) z) hq.ne
 ·exact An hs.pln ht.pln h z
theorem qi:∀ (ps:List (List Int)) {E:List Int},(∀ p∈ps,Pri p)->Pln E->Dv E (prd ps)->E=[1]\/∃ p∈ps,Dv p E
 | [],E,_,hE,h=>by
   refine .inl (hE.const ?_)
   have:=uh hE
   refine Classical.byContradiction fun z=>?_
   have:=Dv.short hE.ne hE.tr pln_one.tr (by show 1<E.length;omega) h
   exact absurd this (by simp)
 | p::ps,E,hp,hE,h=>by
   obtain ⟨c,q,hc,e⟩:=h
   have P:=hp p (List.mem_cons_self ..)
   have d1:Dv p (ad q E):=Dv.prop_right (x:=1) (y:=c) (by decide) (fun n=>by
    show 1*cf (ad q E) n=c*cf (RM.prd (p::ps)) n
    rw [e,aG];omega) (Dv.mul_left p (prd ps))
   rcases P.or q E d1 with z | z
   ·obtain ⟨c',q',hc',e'⟩:=z
    have d2:Dv (ad p E) (ad p (prd ps)):=by
     refine ⟨c*c',q',Int.mul_ne_zero hc hc',fun n=>?_⟩
     have e1:=e n
     rw [show ad p (prd ps)=RM.prd (p::ps) from rfl]
     have e2:aw (ad q' p) E n=c'*aw q E n:=by
      have:=dI (a:=q) (b:=[]) (x:=c') (y:=0) (c:=ad q' p) (q:=E) (n:=n) (fun k=>by rw [aG,<- e'];simp)
      rw [this];simp
     rw [<- ij,e2,<- e1,Int.mul_comm c c',Int.mul_assoc]
    rcases qi ps (fun x hx=>hp x (List.mem_cons_of_mem _ hx)) hE (Dv.cancel P.pln.ne P.pln.tr d2) with w | ⟨t,ht,w⟩
    ·exact .inl w
    ·exact .inr ⟨t,List.mem_cons_of_mem _ ht,w⟩
   ·exact .inr ⟨p,List.mem_cons_self ..,z⟩
theorem qp (l:List Int) (n:Nat):cf (slopeL l) n=((n:Int)+1)*cf l (n+1):=by
 unfold slopeL
 rw [jE]
 by_cases h:n<l.length-1
 ·rw [if_pos h]
 ·rw [if_neg h,bH (l:=l) (by omega),Int.mul_zero]
theorem yu (x:Int) (a:List Int) (n:Nat):cf (slopeL (x::a)) n=1*cf a n+1*cf (0::slopeL a) n:=by
 rw [qp,ly,lz]
 cases n with
 | zero=>show (((0:Nat):Int)+1)*cf a 0=1*cf a 0+1*0;omega
 | succ n =>
   show (((n+1:Nat):Int)+1)*cf a (n+1)=1*cf a (n+1)+1*cf (slopeL a) n
   rw [qp]
   have:((n+1:Nat):Int)=(n:Int)+1:=by omega
   rw [this,Int.add_mul];omega
def pw (s:List Int):Nat->List Int
 | 0=>[1]
 | n+1=>ad s (pw s n)
def fP (g:Nat->Nat) (us:List (List Int×Nat)):List Int:=us.foldr (fun p acc=>ad (pw p.1 (g p.2)) acc) [1]
theorem Pri.pw {s t:List Int} (h:Pri s):∀ n,Dv s (pw t n)->0<n/\Dv s t
 | 0,hd=>absurd hd h.not_one
 | n+1,hd=>by
   refine ⟨by omega,?_⟩
   rcases h.or t (RM.pw t n) hd with z | z
   ·exact z
   ·exact (Pri.pw h n z).2
theorem Pri.fP {s:List Int} (h:Pri s) {g:Nat->Nat}:∀ us:List (List Int×Nat),Dv s (fP g us)->∃ p∈us,0<g p.2/\Dv s p.1
 | [],hd=>absurd hd h.not_one
 | p::us,hd=>by
   rcases h.or (RM.pw p.1 (g p.2)) (RM.fP g us) hd with z | z
   ·exact ⟨p,List.mem_cons_self ..,(h.pw _ z)⟩
   ·obtain ⟨q,hq,z'⟩:=Pri.fP h us z
    exact ⟨q,List.mem_cons_of_mem _ hq,z'⟩
structure Use (us:List (List Int×Nat)):Prop where
 pri:∀ p∈us,Pri p.1
 pos:∀ p∈us,1<=p.2
 nd:(us.map (·.1)).Nodup
theorem Use.tail {p:List Int×Nat} {us:List (List Int×Nat)} (h:Use (p::us)):Use us :=
 ⟨fun x hx=>h.pri x (List.mem_cons_of_mem _ hx),fun x hx=>h.pos x (List.mem_cons_of_mem _ hx),(List.nodup_cons.mp h.nd).2⟩
theorem jh (l:List Int):(slopeL l).length=l.length-1:=by unfold slopeL;simp
theorem lM {l:List Int} (h:Tr l):Tr (slopeL l):=fun n hn=>by
 rw [jh] at hn
 rw [qp]
 exact Int.mul_ne_zero (by omega) (h (n+1) (by omega))
theorem zB {s a b:List Int} (hs:s≠[]) (h:Dv s (ad a b)):Dv s (ad (aB a s) (aB b s)):=by
 have e1:=fun n=>fw (a:=a) hs n
 have e2:=fun n=>fw (a:=b) hs n
 have d1:Dv s (ad (aB a s) b):=by
  refine Dv.down (f:=bB a s) (q:=ad (bE a s) b) (b:=s) (fun n=>?_) h (Dv.refl _)
  rw [aG,aG]
  have l:=dI (a:=ad (bE a s) s) (b:=aB a s) (x:=1) (y:=1) (c:=scL (bB a s) a) (q:=b) (n:=n) (fun k=>by rw [aX,e1,aG];omega)
  have l2:=dI (a:=a) (b:=[]) (x:=bB a s) (y:=0) (c:=scL (bB a s) a) (q:=b) (n:=n) (fun k=>by rw [aX];simp)
  have l3:aw (ad (bE a s) s) b n=aw (ad (bE a s) b) s n:=by
   rw [<- aG,<- aG]
   congr 1
   ac_rfl
  rw [l2,l3] at l
  rw [dd] at l
  omega
 refine Dv.down (f:=bB b s) (q:=ad (aB a s) (bE b s)) (b:=s) (fun n=>?_) d1 (Dv.refl _)
 rw [aG,aG]
 have l:=B9 (a:=ad (bE b s) s) (b:=aB b s) (x:=1) (y:=1) (c:=scL (bB b s) b) (q:=aB a s) (n:=n) (fun k=>by rw [aX,e2,aG];omega)
 have l2:=kL (a:=aB a s) (b:=b) (b':=scL (bB b s) b) (c:=bB b s) (n:=n) (fun k=>by rw [aX])
 have l3:aw (aB a s) (ad (bE b s) s) n=aw (ad (aB a s) (bE b s)) s n:=by
  rw [<- aG,<- aG]
  congr 1
  ac_rfl
 rw [l2,l3] at l
 omega
theorem wn {s a:List Int} (hs:s≠[]) (ht:Tr s) (h:aB a s=[]):Dv s a :=
 ⟨bB a s,bE a s,qj hs ht,fun n=>by rw [fw hs,h,b7];omega⟩
def aI (u e b:Int):List Int:=if e=0 then [-u,b] else [u*u-e,-2*b*u,b*b]
theorem gR {u e b:Int} (hb:1<=b):Tr (aI u e b)/\2<=(aI u e b).length:=by
 unfold aI
 split
 ·exact ⟨(tr_snoc (r:=[-u])).mpr (by omega),by show 2<=2;decide⟩
 ·exact ⟨(tr_snoc (r:=[u*u-e,-2*b*u])).mpr (Int.mul_ne_zero (by omega) (by omega)),by show 2<=3;decide⟩
theorem uE {n e:Int} (hn:0<=n) (h1:n*n<e) (h2:e<(n+1)*(n+1)):∀ (k:Nat) (x y:Int),x.toNat<=k->0<x->0<=y->e*(x*x)=y*y->False
 | 0,x,y,hk,hx,_,_=>by omega
 | k+1,x,y,hk,hx,hy,h=>by
   have hxx:0<x*x:=Int.mul_pos hx hx
   have a1:n*x<y:=by
    refine Int.not_le.mp fun z=>?_
    have:=Int.mul_le_mul z z hy (Int.le_trans hy z)
    have:=Int.mul_lt_mul_of_pos_right h1 hxx
    have e1:n*x*(n*x)=n*n*(x*x):=by grind
    omega
   have a2:y<(n+1)*x:=by
    refine Int.not_le.mp fun z=>?_
    have z0:0<=(n+1)*x:=Int.mul_nonneg (by omega) (by omega)
    have:=Int.mul_le_mul z z z0 hy
    have:=Int.mul_lt_mul_of_pos_right h2 hxx
    have e1:(n+1)*x*((n+1)*x)=(n+1)*(n+1)*(x*x):=by grind
    omega
   have a3:(n+1)*x=n*x+x:=by rw [Int.add_mul];omega
   refine uE hn h1 h2 k (y-n*x) ((e*x-n*y).natAbs:Int) (by omega) (by omega) (by omega) ?_
   rw [Int.natAbs_mul_self' (e*x-n*y)]
   grind
def NS (e:Int):Prop:=e<=0\/∃ n:Int,0<=n/\n*n<e/\e<(n+1)*(n+1)
theorem NS.no {e x y:Int} (h:NS e) (he:e≠0) (hx:x≠0) (eq:x*x*e=y*y):False:=by
 rcases h with h | ⟨n,hn,h1,h2⟩
 ·have hxx:0<x*x:=by
   rcases Int.lt_or_gt_of_ne hx with z | z
   ·exact Int.mul_pos_of_neg_of_neg z z
   ·exact Int.mul_pos z z
  have:x*x*e<0:=Int.mul_neg_of_pos_of_neg hxx (by omega)
  have:0<=y*y:=by
   rcases Int.le_total 0 y with z | z
   ·exact Int.mul_nonneg z z
   ·exact Int.mul_nonneg_of_nonpos_of_nonpos z z
  omega
 ·refine uE hn h1 h2 _ (x.natAbs:Int) (y.natAbs:Int) (Nat.le_refl _) (by omega) (by omega) ?_
  rw [Int.natAbs_mul_self' x,Int.natAbs_mul_self' y,<- eq,Int.mul_comm]
theorem zN {u e b:Int} (hb:1<=b) (he:NS e) {p q:List Int} (h:Dv (aI u e b) (ad p q)):Dv (aI u e b) p\/Dv (aI u e b) q:=by
 obtain ⟨tr,l2⟩:=gR (u:=u) (e:=e) hb
 have hne:aI u e b≠[]:=fun z=>by rw [z] at l2;simp at l2
 by_cases hp:aB p (aI u e b)=[]
 ·exact .inl (wn hne tr hp)
 by_cases hq:aB q (aI u e b)=[]
 ·exact .inr (wn hne tr hq)
 exfalso
 have d:=zB hne h
 have t1:=dR p (aI u e b)
 have t2:=dR q (aI u e b)
 have n1:=eM (a:=p) hne
 have n2:=eM (a:=q) hne
 generalize aB p (aI u e b)=r1 at *
 generalize aB q (aI u e b)=r2 at *
 have lm:=bQ hp hq
 have p1:=List.length_pos_iff.mpr hp
 have p2:=List.length_pos_iff.mpr hq
 by_cases hs:(ad r1 r2).length<(aI u e b).length
 ·exact oS hp hq (Dv.short hne tr (fK t1 t2) hs d)
 by_cases h0:e=0
 ·have:(aI u e b).length=2:=by unfold aI;rw [if_pos h0];rfl
  omega
 have er:aI u e b=[u*u-e,-2*b*u,b*b]:=by unfold aI;rw [if_neg h0]
 rw [er] at hs n1 n2 d hne tr
 simp only [List.length_cons,List.length_nil] at hs n1 n2
 obtain ⟨α,β,rfl⟩:∃ α β,r1=[α,β]:=by
  match r1,(show r1.length=2 by omega) with
  | [α,β],_=>exact ⟨α,β,rfl⟩
 obtain ⟨γ,δ,rfl⟩:∃ γ δ,r2=[γ,δ]:=by
  match r2,(show r2.length=2 by omega) with
  | [γ,δ],_=>exact ⟨γ,δ,rfl⟩
 have hβ:β≠0:=(tr_snoc (r:=[α])).mp t1
 have hδ:δ≠0:=(tr_snoc (r:=[γ])).mp t2
 have em:ad [α,β] [γ,δ]=[α*γ,α*δ+β*γ,β*δ]:=by
  refine dC (by rw [lm];rfl) fun k hk=>?_
  rw [lm] at hk
  rw [aG]
  have hk':k<3:=hk
  have:k=0\/k=1\/k=2:=by omega
  rcases this with rfl | rfl | rfl
  ·show (0+(α*γ))+0=α*γ;omega
  ·show (0+(α*δ))+(β*γ)=α*δ+β*γ;omega
  ·show (0+α*cf [γ,δ] 2)+(β*δ)=β*δ
   have:cf [γ,δ] 2=0:=rfl
   rw [this];simp
 rw [em] at d
 have hr:=d.rest hne tr
 have eqn:=fun n=>fw (a:=[α*γ,α*δ+β*γ,β*δ]) hne n
 have hf:=qj (a:=[α*γ,α*δ+β*γ,β*δ]) hne tr
 have lq:=lw (a:=[α*γ,α*δ+β*γ,β*δ]) hne
 generalize bB [α*γ,α*δ+β*γ,β*δ] [u*u-e,-2*b*u,b*b]=f at *
 generalize bE [α*γ,α*δ+β*γ,β*δ] [u*u-e,-2*b*u,b*b]=Q at *
 rw [hr] at eqn
 have lq':Q.length=1:=lq
 obtain ⟨κ,rfl⟩:∃ κ,Q=[κ]:=List.length_eq_one_iff.mp lq'
 have g0:=eqn 0
 have g1:=eqn 1
 have g2:=eqn 2
 rw [fj,b7] at g0 g1 g2
 replace g0:f*(α*γ)=κ*(u*u-e)+0:=g0
 replace g1:f*(α*δ+β*γ)=κ*(-2*b*u)+0:=g1
 replace g2:f*(β*δ)=κ*(b*b)+0:=g2
 have hκ:κ≠0:=fun z=>by
  rw [z,Int.zero_mul] at g2
  exact Int.mul_ne_zero hf (Int.mul_ne_zero hβ hδ) (by omega)
 refine he.no h0 (x:=2*κ*b) (y:=f*(α*δ-β*γ)) (Int.mul_ne_zero (Int.mul_ne_zero (by decide) hκ) (by omega)) ?_
 have k1:f*(α*δ-β*γ)*(f*(α*δ-β*γ))=f*(α*δ+β*γ)*(f*(α*δ+β*γ))-4*((f*(α*γ))*(f*(β*δ))):=by grind
 rw [k1,g0,g1,g2]
 grind
theorem zM {u e b:Int} (hb:1<=b) (he:NS e):Pri (av (aI u e b)):=by
 obtain ⟨tr,l2⟩:=gR (u:=u) (e:=e) hb
 have hne:aI u e b≠[]:=fun z=>by rw [z] at l2;simp at l2
 obtain ⟨g,hg,eg⟩:=eZ tr
 have to:∀ p,Dv (av (aI u e b)) p->Dv (aI u e b) p:=fun p h=>Dv.prop_left (x:=1) (y:=g) (by decide) hg (fun n=>by rw [eg];omega) h
 have fr:∀ p,Dv (aI u e b) p->Dv (av (aI u e b)) p:=fun p h=>Dv.prop_left (x:=g) (y:=1) hg (by decide) (fun n=>by rw [<- eg];omega) h
 refine ⟨eY tr hne,by rw [plain_len];exact l2,fun p q h=>?_⟩
 exact (zN hb he (to _ h)).imp (fr _) (fr _)
end RM
namespace RM
def com (xs ys:List Int):List Int:=cL 20 (av xs) (av ys)
def eq1 (k m:Nat):Nat:=if m=k then 1 else 0
def AM (_:Nat):Nat:=1
def flt (us:List (List Int×Nat)):List Int:=fP AM us
variable {us:List (List Int×Nat)}
end RM
namespace RM
def aY (sq due:Int):Int:=if due<0\/due*due<sq then 1 else 0-(if sq<due*due then 1 else 0)
def aC (l:List Int) (t n:Int):Int:=if 0<cf l 3 then aY (cf l 1*n*n) (cf l 2*t-cf l 0*n) else 0-aY (cf l 1*n*n) (0-(cf l 2*t-cf l 0*n))
theorem cr (sq d:Int):(aY sq d=1/\(d<0\/d*d<sq))\/(aY sq d=0/\0<=d/\d*d=sq)\/(aY sq d = -1/\0<=d/\sq<d*d):=by
 unfold aY
 by_cases h:d<0\/d*d<sq
 ·rw [if_pos h];exact .inl ⟨rfl,h⟩
 ·rw [if_neg h]
  by_cases h2:sq<d*d
  ·rw [if_pos h2];exact .inr (.inr ⟨rfl,by omega,h2⟩)
  ·rw [if_neg h2];exact .inr (.inl ⟨rfl,by omega,by omega⟩)
structure Spt (l:List Int):Prop where
 is:∃ u e b s:Int,l=[u,e,b,s]/\0<=e/\1<=b/\(s=1\/s = -1)
theorem rP {x y:Int} (hx:0<=x) (h:x<y):x*x<y*y:=by
 have h1:x*x<=x*y:=Int.mul_le_mul_of_nonneg_left (Int.le_of_lt h) hx
 have h2:x*y<y*y:=Int.mul_lt_mul_of_pos_right h (by omega)
 omega
theorem rG {g sq d:Int} (hg:0<g):aY (sq*(g*g)) (g*d)=aY sq d:=by
 have hgg:0<g*g:=Int.mul_pos hg hg
 have e1:g*d*(g*d)=d*d*(g*g):=by grind
 have e2:(g*d<0)↔d<0:=by
  constructor
  ·intro h
   refine Int.not_le.mp fun z=>?_
   have:=Int.mul_nonneg (Int.le_of_lt hg) z
   omega
  ·intro h;exact Int.mul_neg_of_pos_of_neg hg h
 have e3:∀ x y:Int,(x*(g*g)<y*(g*g))↔x<y:=fun x y=>⟨fun h=>Int.lt_of_mul_lt_mul_right h (Int.le_of_lt hgg),fun h=>Int.mul_lt_mul_of_pos_right h hgg⟩
 unfold aY
 rw [e1]
 simp only [e2,e3]
theorem tf {g t n:Int} (l:List Int) (hg:0<g):aC l (g*t) (g*n)=aC l t n:=by
 have e1:cf l 1*(g*n)*(g*n)=cf l 1*n*n*(g*g):=by grind
 have e2:cf l 2*(g*t)-cf l 0*(g*n)=g*(cf l 2*t-cf l 0*n):=by grind
 have e3:0-g*(cf l 2*t-cf l 0*n)=g*(0-(cf l 2*t-cf l 0*n)):=by grind
 unfold aC
 rw [e1,e2,e3,rG hg,rG hg]
theorem tj {t n t' n':Int} (l:List Int) (hn:0<n) (hn':0<n') (e:t*n'=t'*n):aC l t n=aC l t' n':=by
 rw [<- tf (g:=n') l hn',<- tf (g:=n) (t:=t') l hn]
 have e1:n'*t=n*t':=by rw [Int.mul_comm,e,Int.mul_comm]
 rw [e1,Int.mul_comm n' n]
theorem kl (l:List Int) (t n:Int):aC l t n=1\/aC l t n=0\/aC l t n = -1:=by
 unfold aC
 split
 ·rcases cr (cf l 1*n*n) (cf l 2*t-cf l 0*n) with h | h | h<;>omega
 ·rcases cr (cf l 1*n*n) (0-(cf l 2*t-cf l 0*n)) with h | h | h<;>omega
theorem mv {l:List Int} (hl:Spt l) {t n t' n':Int} (hn:0<n) (hn':0<n') (h:t*n'<t'*n) (hs:aC l t n<=0):aC l t' n' = -1:=by
 obtain ⟨u,e,b,s,rfl,he,hb,hs1⟩:=hl
 have hlt:(b*t-u*n)*n'<(b*t'-u*n')*n:=by
  have h1:b*(t*n')<b*(t'*n):=Int.mul_lt_mul_of_pos_left h (by omega)
  have e1:(b*t-u*n)*n'=b*(t*n')-u*n*n':=by grind
  have e2:(b*t'-u*n')*n=b*(t'*n)-u*n*n':=by grind
  omega
 have hnn:0<n*n:=Int.mul_pos hn hn
 have hnn':0<n'*n':=Int.mul_pos hn' hn'
 rcases hs1 with rfl | rfl
 ·have z0:(0:Int)<1:=by decide
  have hs:aY (e*n*n) (b*t-u*n)<=0:=hs
  show aY (e*n'*n') (b*t'-u*n') = -1
  generalize b*t-u*n=a at *
  generalize b*t'-u*n'=a' at *
  have k1:0<=a/\e*n*n<=a*a:=by rcases cr (e*n*n) a with h | h | h<;>omega
  have k2:0<=a*n':=Int.mul_nonneg k1.1 (Int.le_of_lt hn')
  have k3:0<a':=Int.lt_of_mul_lt_mul_right (a:=n) (by omega) (Int.le_of_lt hn)
  have k4:=rP k2 hlt
  have k5:e*n*n*(n'*n')<=a*a*(n'*n'):=Int.mul_le_mul_of_nonneg_right k1.2 (Int.le_of_lt hnn')
  have k6:e*n'*n'*(n*n)<a'*a'*(n*n):=by
   have e1:e*n'*n'*(n*n)=e*n*n*(n'*n'):=by grind
   have e2:a'*a'*(n*n)=a'*n*(a'*n):=by grind
   have e3:a*a*(n'*n')=a*n'*(a*n'):=by grind
   omega
  have k7:=Int.lt_of_mul_lt_mul_right k6 (Int.le_of_lt hnn)
  rcases cr (e*n'*n') a' with h | h | h<;>omega
 ·have hs:0-aY (e*n*n) (0-(b*t-u*n))<=0:=hs
  show 0-aY (e*n'*n') (0-(b*t'-u*n')) = -1
  generalize ha:0-(b*t-u*n)=a at *
  generalize ha':0-(b*t'-u*n')=a' at *
  have hlt':a'*n<a*n':=by
   have e1:a'*n = -((b*t'-u*n')*n):=by rw [<- ha'];grind
   have e2:a*n' = -((b*t-u*n)*n'):=by rw [<- ha];grind
   omega
  have k1:a<0\/a*a<=e*n*n:=by rcases cr (e*n*n) a with h | h | h<;>omega
  have k2:a'<0\/a'*a'<e*n'*n':=by
   by_cases z:a'<0
   ·exact .inl z
   right
   have p1:0<=a'*n:=Int.mul_nonneg (by omega) (Int.le_of_lt hn)
   have p2:0<a:=Int.lt_of_mul_lt_mul_right (a:=n') (by omega) (Int.le_of_lt hn')
   have p3:=rP p1 hlt'
   have k5:a*a*(n'*n')<=e*n*n*(n'*n'):=Int.mul_le_mul_of_nonneg_right (by omega) (Int.le_of_lt hnn')
   have k6:a'*a'*(n*n)<e*n'*n'*(n*n):=by
    have e1:e*n'*n'*(n*n)=e*n*n*(n'*n'):=by grind
    have e2:a'*a'*(n*n)=a'*n*(a'*n):=by grind
    have e3:a*a*(n'*n')=a*n'*(a*n'):=by grind
    omega
   exact Int.lt_of_mul_lt_mul_right k6 (Int.le_of_lt hnn)
  rcases cr (e*n'*n') a' with h | h | h<;>omega
def spF (f:List Int):List (List Int):=(if 0<=cf f 1 then [[cf f 0,cf f 1,cf f 2,1]] else [])++(if 0<cf f 1 then [[cf f 0,cf f 1,cf f 2,-1]] else [])
def cs (fs:List (List Int)):List (List Int):=fs.flatMap spF
def spr (t n:Int):List (List Int)->Int
 | []=>1
 | l::ls => -aC l t n*spr t n ls
theorem rR (t n:Int):∀ a b,spr t n (a++b)=spr t n a*spr t n b
 | [],b=>by show _=1*_;rw [Int.one_mul];rfl
 | x::a,b=>by show _*spr t n (a++b)=_*_*_;rw [rR t n a b,Int.mul_assoc]
theorem yl {f l:List Int} {u e b:Int} (hf:f=[u,e,b]) (hb:1<=b) (h:l∈spF f):Spt l/\∃ s,l=[u,e,b,s]/\0<=e/\(s=1\/s = -1/\0<e):=by
 subst hf
 have hd:spF [u,e,b]=(if 0<=e then [[u,e,b,1]] else [])++(if 0<e then [[u,e,b,-1]] else []):=rfl
 rw [hd] at h
 rcases List.mem_append.mp h with h | h
 ·by_cases z:0<=e
  ·rw [if_pos z] at h
   obtain rfl:=List.mem_singleton.mp h
   exact ⟨⟨u,e,b,1,rfl,z,hb,.inl rfl⟩,1,rfl,z,.inl rfl⟩
  ·rw [if_neg z] at h;cases h
 ·by_cases z:0<e
  ·rw [if_pos z] at h
   obtain rfl:=List.mem_singleton.mp h
   exact ⟨⟨u,e,b,-1,rfl,by omega,hb,.inr rfl⟩,-1,rfl,by omega,.inr ⟨rfl,z⟩⟩
  ·rw [if_neg z] at h;cases h
theorem zL {u e b t n:Int} (hn:0<n):sg (hv t n (aI u e b))=spr t n (spF [u,e,b]):=by
 have hd:spF [u,e,b]=(if 0<=e then [[u,e,b,1]] else [])++(if 0<e then [[u,e,b,-1]] else []):=rfl
 rw [hd]
 by_cases h0:e=0
 ·subst h0
  have er:aI u 0 b=[-u,b]:=by unfold aI;rw [if_pos rfl]
  have ev:hv t n [-u,b]=n*(b*t-u*n):=by
   show -u*n^2+t*(b*n^1+t*0)=_
   grind
  rw [er,ev,cu hn,if_pos (Int.le_refl _),if_neg (by omega)]
  show _ = -aY (0*n*n) (b*t-u*n)*1
  generalize b*t-u*n=a
  rw [Int.zero_mul,Int.zero_mul]
  have:a<0\/a=0\/0<a:=by omega
  rcases this with h | h | h
  ·have h1:sg a = -1:=by unfold sg;rw [if_pos h]
   rcases cr 0 a with z | z | z<;>omega
  ·subst h
   rfl
  ·have h1:sg a=1:=by unfold sg;rw [if_neg (by omega),if_pos h]
   have h2:=Int.mul_pos h h
   rcases cr 0 a with z | z | z<;>omega
 ·have er:aI u e b=[u*u-e,-2*b*u,b*b]:=by unfold aI;rw [if_neg h0]
  have ev:hv t n [u*u-e,-2*b*u,b*b]=n*((b*t-u*n)*(b*t-u*n)-e*n*n):=by
   show (u*u-e)*n^3+t*((-2*b*u)*n^2+t*((b*b)*n^1+t*0))=_
   grind
  rw [er,ev,cu hn]
  by_cases hp:0<=e
  ·rw [if_pos hp,if_pos (by omega)]
   show _ = -aY (e*n*n) (b*t-u*n)*(-(0-aY (e*n*n) (0-(b*t-u*n)))*1)
   generalize b*t-u*n=a
   have hE:0<e*n*n:=Int.mul_pos (Int.mul_pos (by omega) hn) hn
   generalize e*n*n=E at *
   have e1:(0-a)*(0-a)=a*a:=by grind
   have h1:=cr E a
   have h2:=cr E (0-a)
   rw [e1] at h2
   have az:a=0->a*a=0:=fun z=>by rw [z];rfl
   have s3:(a*a<E/\sg (a*a-E) = -1)\/(a*a=E/\sg (a*a-E)=0)\/(E<a*a/\sg (a*a-E)=1):=by
    unfold sg
    split<;>(try split)<;>omega
   generalize a*a=q at *
   rcases h1 with ⟨x1,x2⟩ | ⟨x1,x2⟩ | ⟨x1,x2⟩<;>rcases h2 with ⟨y1,y2⟩ | ⟨y1,y2⟩ | ⟨y1,y2⟩<;>rw [x1,y1]<;>simp<;>omega
  ·rw [if_neg hp,if_neg (by omega)]
   have h1:0<=(b*t-u*n)*(b*t-u*n):=by
    rcases Int.le_total 0 (b*t-u*n) with z | z
    ·exact Int.mul_nonneg z z
    ·exact Int.mul_nonneg_of_nonpos_of_nonpos z z
   have h2:e*n*n<0:=by rw [Int.mul_assoc];exact Int.mul_neg_of_neg_of_pos (by omega) (Int.mul_pos hn hn)
   show sg _=1
   unfold sg
   rw [if_neg (by omega),if_pos (by omega)]
def aK (f:List Int):List Int:=av (aI (cf f 0) (cf f 1) (cf f 2))
theorem tz (x y:Int):sg (x*y)=sg x*sg y:=by
 rcases Int.lt_trichotomy x 0 with hx | hx | hx
 ·have h1:sg x = -1:=by unfold sg;rw [if_pos hx]
  have e:x*y = -((-x)*y):=by grind
  rw [e,mB,cu (by omega),h1];omega
 ·subst hx;rw [Int.zero_mul];show (0:Int)=0*_;rw [Int.zero_mul]
 ·have h1:sg x=1:=by unfold sg;rw [if_neg (by omega),if_pos hx]
  rw [cu hx,h1,Int.one_mul]
theorem oA {l:List Int} (h:Tr l) (hne:l≠[]) (hp:0<aN l):∃ g:Int,0<g/\l=scL g (av l):=by
 obtain ⟨g,hg,e⟩:=eZ h
 have e2:l=scL g (av l):=by
  apply dC
  ·rw [cz,plain_len]
  ·intro k _;rw [aX,e k]
 have hP:=eY h hne
 refine ⟨g,?_,e2⟩
 obtain ⟨r,x,er⟩:=(ck l).resolve_left hne
 have hx:aN l=cf l r.length:=by rw [er,cN,io]
 obtain ⟨r',x',er'⟩:=(ck (av l)).resolve_left hP.ne
 have hx':aN (av l)=cf (av l) r'.length:=by rw [er',cN,io]
 have hl:r.length=r'.length:=by
  have:=plain_len l
  have h1:=congrArg List.length er
  have h2:=congrArg List.length er'
  simp at h1 h2;omega
 have h3:=e r.length
 rw [<- hx,hl,<- hx'] at h3
 have h4:=hP.pos
 rw [h3] at hp
 rcases Int.lt_or_gt_of_ne hg with z | z
 ·have:=Int.mul_neg_of_neg_of_pos z h4
  omega
 ·exact z
theorem yC {u e b t n:Int} (hb:1<=b) (hn:0<n):sg (hv t n (aK [u,e,b]))=spr t n (spF [u,e,b]):=by
 obtain ⟨tr,l2⟩:=gR (u:=u) (e:=e) hb
 have hne:aI u e b≠[]:=fun z=>by rw [z] at l2;simp at l2
 have hlast:0<aN (aI u e b):=by
  unfold aI
  split
  ·show 0<aN ([-u]++[b]);rw [cN];omega
  ·show 0<aN ([u*u-e,-2*b*u]++[b*b]);rw [cN];exact Int.mul_pos (by omega) (by omega)
 obtain ⟨g,hg,eg⟩:=oA tr hne hlast
 rw [<- zL hn]
 show sg (hv t n (av (aI u e b)))=_
 have e3:hv t n (aI u e b)=g*hv t n (av (aI u e b)):=by
  calc hv t n (aI u e b)=hv t n (scL g (av (aI u e b))):=by rw [<- eg]
   _=_:=vQ _ _ _ _
 rw [e3,cu hg]
def gN (f:List Int):Prop:=∃ u e b:Int,f=[u,e,b]/\1<=b
theorem ug {t n:Int} (hn:0<n):∀ (fs:List (List Int)),(∀ f∈fs,gN f)->sg (pr t n (fs.map aK))=spr t n (cs fs)
 | [],_=>rfl
 | f::fs,h=>by
   obtain ⟨u,e,b,rfl,hb⟩:=h f (List.mem_cons_self ..)
   have ih:=ug (t:=t) hn fs fun x hx=>h x (List.mem_cons_of_mem _ hx)
   have e1:cs ([u,e,b]::fs)=spF [u,e,b]++cs fs:=by unfold cs;rw [List.flatMap_cons]
   show sg (hv t n (aK [u,e,b])*pr t n (fs.map aK))=_
   rw [tz,yC hb hn,ih,e1,rR]
theorem yD {f:List Int} (h:gN f):aK f≠[]/\Tr (aK f):=by
 obtain ⟨u,e,b,rfl,hb⟩:=h
 obtain ⟨tr,l2⟩:=gR (u:=u) (e:=e) hb
 refine ⟨fun z=>?_,rk tr⟩
 have:=plain_len (aI u e b)
 have z':av (aI u e b)=[]:=z
 rw [z'] at this;simp at this;omega
theorem Ad {t n c:Int} (hn:0<n) {fs:List (List Int)} (h:∀ f∈fs,gN f):sg (hv t n (ad [c] (cF [1] (fs.map aK))))=sg c*spr t n (cs fs):=by
 have hs:∀ s∈fs.map aK,s≠[]/\Tr s:=fun s hs=>by
  obtain ⟨x,hx,rfl⟩:=List.mem_map.mp hs
  exact yD (h x hx)
 obtain ⟨p1,p2,p3⟩:=ud (fs.map aK) [1] (by simp) ((tr_snoc (r:=[])).mpr (by decide)) hs
 have e1:=pB t n (a:=[c]) (b:=cF [1] (fs.map aK)) p1 (by simp)
 have e2:=vT t n (fs.map aK) [1] (by simp) fun s h=>(hs s h).1
 rw [lc] at e1 e2
 rw [<- ug hn fs h]
 have e3:hv t n (ad [c] (cF [1] (fs.map aK)))=c*hv t n (cF [1] (fs.map aK)):=by
  refine Int.eq_of_mul_eq_mul_left (Int.ne_of_gt hn) ?_
  rw [e1];grind
 rw [e3,tz]
 have e4:=congrArg sg e2
 rw [cu (Int.pow_pos hn),Int.one_mul,cu hn] at e4
 rw [e4]
end RM
namespace RM
def inS (l:List Int) (A B D:Int):Prop:=0<aC l A D/\aC l B D<=0
instance (l:List Int) (A B D:Int):Decidable (inS l A B D):=inferInstanceAs (Decidable (_/\_))
def FacG (f:List Int):Prop:=∃ u e b:Int,f=[u,e,b] /\ -1000000000<=u/\u<=1000000000 /\ -10000000000000000<=e/\e<=10000000000000000/\1<=b/\b<=1000/\NS e
theorem FacG.q {f:List Int} (h:FacG f):gN f:=by
 obtain ⟨u,e,b,rfl,_,_,_,_,h5,_⟩:=h
 exact ⟨u,e,b,rfl,h5⟩
theorem lW {fs:List (List Int)} (hF:∀ f∈fs,gN f) {l:List Int} (hl:l∈cs fs):Spt l:=by
 obtain ⟨f,hf,hm⟩:=List.mem_flatMap.mp hl
 obtain ⟨u,e,b,rfl,hb⟩:=hF f hf
 exact (yl rfl hb hm).1
end RM
namespace RM
def pv:List Int->Rat->Rat
 | [],_=>0
 | c::l,x=>(c:Rat)+x*pv l x
theorem ub:∀ (N:Nat) (a b c:List Int) (u v:Int) (x:Rat),a.length<=N->b.length<=N->c.length<=N->(∀ n,cf c n=u*cf a n+v*cf b n)->pv c x=(u:Rat)*pv a x+(v:Rat)*pv b x
 | 0,a,b,c,u,v,x,ha,hb,hc,_=>by
   rw [List.eq_nil_of_length_eq_zero (Nat.le_zero.mp ha),List.eq_nil_of_length_eq_zero (Nat.le_zero.mp hb),List.eq_nil_of_length_eq_zero (Nat.le_zero.mp hc)]
   show (0:Rat)=u*0+v*0
   grind
 | N+1,a,b,c,u,v,x,ha,hb,hc,h=>by
   have key:∀ l:List Int,l.length<=N+1->pv l x=(cf l 0:Rat)+x*pv l.tail x/\l.tail.length<=N/\∀ n,cf l.tail n=cf l (n+1):=fun l hl=>by
    cases l with
    | nil=>exact ⟨by show (0:Rat)=((0:Int):Rat)+x*0;grind,Nat.zero_le _,fun n=>by rw [b7];rfl⟩
    | cons y l=>exact ⟨rfl,by simpa using hl,fun n=>rfl⟩
   obtain ⟨a1,a2,a3⟩:=key a ha
   obtain ⟨b1,b2,b3⟩:=key b hb
   obtain ⟨c1,c2,c3⟩:=key c hc
   have ih:=ub N a.tail b.tail c.tail u v x a2 b2 c2 fun n=>by rw [a3,b3,c3,h]
   have h0:(cf c 0:Rat)=(u:Rat)*(cf a 0:Rat)+(v:Rat)*(cf b 0:Rat):=by rw [h 0,Rat.intCast_add,Rat.intCast_mul,Rat.intCast_mul]
   rw [a1,b1,c1,ih,h0];grind
theorem kz {a b c:List Int} {u v:Int} (x:Rat) (h:∀ n,cf c n=u*cf a n+v*cf b n):pv c x=(u:Rat)*pv a x+(v:Rat)*pv b x :=
 ub (a.length+b.length+c.length) a b c u v x (by omega) (by omega) (by omega) h
theorem ei {a c:List Int} {u:Int} (x:Rat) (h:∀ n,cf c n=u*cf a n):pv c x=(u:Rat)*pv a x:=by
 have:=kz (a:=a) (b:=[]) (c:=c) (u:=u) (v:=0) x fun n=>by rw [h n,Int.zero_mul,Int.add_zero]
 rw [this]
 show _+((0:Int):Rat)*0=_
 grind
theorem ky (x:Rat):∀ (a b c:List Int),(∀ n,cf c n=aw a b n)->pv c x=pv a x*pv b x
 | [],b,c,h=>by
   have:=ei (a:=[]) (c:=c) (u:=0) x fun n=>by rw [h n,dd];simp
   rw [this]
   show _=(0:Rat)*_
   show ((0:Int):Rat)*0=0*_
   grind
 | y::a,b,c,h=>by
   have ih:=ky x a b (ad a b) (aG a b)
   have:=kz (a:=b) (b:=0::ad a b) (c:=c) (u:=y) (v:=1) x fun n=>by
    rw [h n,dq,lz,Int.one_mul]
    congr 1
    unfold up
    split
    ·rfl
    ·rw [aG]
   rw [this]
   show (y:Rat)*pv b x+((1:Int):Rat)*(((0:Int):Rat)+x*pv (ad a b) x)=((y:Rat)+x*pv a x)*pv b x
   rw [ih];grind
theorem c8 {a b:Rat} (ha:0<a) (hb:0<b):0<a/b:=by
 rw [Rat.div_def]
 exact Rat.mul_pos ha (Rat.inv_pos.mpr hb)
def Bd (M v:Rat):Prop := -M<=v/\v<=M
theorem Bd.mul {M N u v:Rat} (h1:Bd M u) (h2:Bd N v):Bd (M*N) (u*v):=by
 obtain ⟨a,b⟩:=h1
 obtain ⟨c,d⟩:=h2
 have p1:0<=(M-u)*(N-v):=Rat.mul_nonneg (by grind) (by grind)
 have p2:0<=(M+u)*(N+v):=Rat.mul_nonneg (by grind) (by grind)
 have p3:0<=(M-u)*(N+v):=Rat.mul_nonneg (by grind) (by grind)
 have p4:0<=(M+u)*(N-v):=Rat.mul_nonneg (by grind) (by grind)
 constructor<;>grind
theorem Bd.add {M N u v:Rat} (h1:Bd M u) (h2:Bd N v):Bd (M+N) (u+v):=by
 obtain ⟨a,b⟩:=h1
 obtain ⟨c,d⟩:=h2
 constructor<;>grind
theorem Bd.mono {M N u:Rat} (h1:Bd M u) (h:M<=N):Bd N u:=by
 obtain ⟨a,b⟩:=h1
 constructor<;>grind
def Nice (f:Rat->Rat):Prop:=∀ R:Rat,0<=R->∃ M:Rat,0<=M/\(∀ x,Bd R x->Bd M (f x))/\∀ x y,Bd R x->Bd R y->x<=y->Bd (M*(y-x)) (f y-f x)
theorem db (c:Rat):Nice fun _=>c:=fun R _=>by
 rcases Rat.le_total (a:=0) (b:=c) with h | h
 ·exact ⟨c,h,fun x _=>⟨by grind,by grind⟩,fun x y _ _ hxy=>by
   have:=Rat.mul_nonneg h (show 0<=y-x by grind)
   exact ⟨by grind,by grind⟩⟩
 ·exact ⟨-c,by grind,fun x _=>⟨by grind,by grind⟩,fun x y _ _ hxy=>by
   have:=Rat.mul_nonneg (show 0 <= -c by grind) (show 0<=y-x by grind)
   exact ⟨by grind,by grind⟩⟩
theorem nice_id:Nice fun x=>x:=fun R hR=>by
 refine ⟨R+1,by grind,fun x h=>h.mono (by grind),fun x y _ _ hxy=>?_⟩
 have:=Rat.mul_nonneg hR (show 0<=y-x by grind)
 exact ⟨by grind,by grind⟩
theorem Nice.add {f g:Rat->Rat} (hf:Nice f) (hg:Nice g):Nice fun x=>f x+g x:=fun R hR=>by
 obtain ⟨M,m0,m1,m2⟩:=hf R hR
 obtain ⟨N,n0,n1,n2⟩:=hg R hR
 refine ⟨M+N,by grind,fun x h=>(m1 x h).add (n1 x h),fun x y hx hy hxy=>?_⟩
 have:=(m2 x y hx hy hxy).add (n2 x y hx hy hxy)
 have e1:M*(y-x)+N*(y-x)=(M+N)*(y-x):=by grind
 have e2:f y-f x+(g y-g x)=f y+g y-(f x+g x):=by grind
 rwa [e1,e2] at this
theorem Nice.mul {f g:Rat->Rat} (hf:Nice f) (hg:Nice g):Nice fun x=>f x*g x:=fun R hR=>by
 obtain ⟨M,m0,m1,m2⟩:=hf R hR
 obtain ⟨N,n0,n1,n2⟩:=hg R hR
 have p:=Rat.mul_nonneg m0 n0
 refine ⟨2*(M*N),by grind,fun x h=>((m1 x h).mul (n1 x h)).mono (by grind),fun x y hx hy hxy=>?_⟩
 have:=((m2 x y hx hy hxy).mul (n1 y hy)).add ((m1 x hx).mul (n2 x y hx hy hxy))
 have e1:M*(y-x)*N+M*(N*(y-x))=2*(M*N)*(y-x):=by grind
 have e2:(f y-f x)*g y+f x*(g y-g x)=f y*g y-f x*g x:=by grind
 rwa [e1,e2] at this
theorem cJ:∀ l:List Int,Nice (pv l)
 | []=>db 0
 | c::l=>(db (c:Rat)).add (nice_id.mul (cJ l))
theorem ua:∀ (l:List Int) (R:Rat),0<=R->∃ M:Rat,0<=M/\∀ x y,Bd R x->Bd R y->x<=y->Bd (M*((y-x)*(y-x))) (pv l y-pv l x-(y-x)*pv (slopeL l) x)
 | [],R,_=>⟨0,by grind,fun x y _ _ _=>by
  have e:pv [] y-pv [] x-(y-x)*pv (slopeL []) x=0:=by show (0:Rat)-0-(y-x)*0=0;grind
  rw [e];constructor<;>grind⟩
 | c::l,R,hR=>by
   obtain ⟨M,m0,m1⟩:=ua l R hR
   obtain ⟨N,n0,n1,n2⟩:=cJ l R hR
   have p:=Rat.mul_nonneg hR m0
   refine ⟨N+R*M,by grind,fun x y hx hy hxy=>?_⟩
   have hd:pv (slopeL (c::l)) x=pv l x+x*pv (slopeL l) x:=by
    have:=kz (a:=l) (b:=0::slopeL l) (c:=slopeL (c::l)) (u:=1) (v:=1) x fun n=>yu c l n
    rw [this]
    show ((1:Int):Rat)*pv l x+((1:Int):Rat)*(((0:Int):Rat)+x*pv (slopeL l) x)=_
    grind
   have hz:Bd (y-x) (y-x):=⟨by grind,by grind⟩
   have:=(hz.mul (n2 x y hx hy hxy)).add (hx.mul (m1 x y hx hy hxy))
   have e1:(y-x)*(N*(y-x))+R*(M*((y-x)*(y-x)))=(N+R*M)*((y-x)*(y-x)):=by grind
   have e2:(y-x)*(pv l y-pv l x)+x*(pv l y-pv l x-(y-x)*pv (slopeL l) x)=pv (c::l) y-pv (c::l) x-(y-x)*pv (slopeL (c::l)) x:=by
    rw [hd]
    show _=((c:Rat)+y*pv l y)-((c:Rat)+x*pv l x)-_
    grind
   rwa [e1,e2] at this
def sgR (v:Rat):Int:=if v<0 then -1 else if 0<v then 1 else 0
theorem bz (v:Rat):(v<0/\sgR v = -1)\/(v=0/\sgR v=0)\/(0<v/\sgR v=1):=by
 unfold sgR
 by_cases h:v<0
 ·exact .inl ⟨h,by rw [if_pos h]⟩
 ·by_cases h2:0<v
  ·exact .inr (.inr ⟨h2,by rw [if_neg h,if_pos h2]⟩)
  ·exact .inr (.inl ⟨by grind,by rw [if_neg h,if_neg h2]⟩)
def Sta (f:Rat->Rat) (x y:Rat):Prop:=sgR (f x)=sgR (f y)/\sgR (f x)≠0
theorem oO {f:Rat->Rat} {x y D:Rat} (h:¬ Sta f x y) (hd:Bd D (f y-f x)):Bd D (f x)/\Bd D (f y):=by
 obtain ⟨d1,d2⟩:=hd
 have key:(f x<=0/\0<=f y)\/(0<=f x/\f y<=0):=by
  rcases bz (f x) with ⟨a,b⟩ | ⟨a,b⟩ | ⟨a,b⟩<;>rcases bz (f y) with ⟨c,d⟩ | ⟨c,d⟩ | ⟨c,d⟩
  ·exact absurd ⟨by rw [b,d],by rw [b];decide⟩ h
  ·exact .inl ⟨by grind,by grind⟩
  ·exact .inl ⟨by grind,by grind⟩
  ·exact .inr ⟨by grind,by grind⟩
  ·exact .inl ⟨by grind,by grind⟩
  ·exact .inl ⟨by grind,by grind⟩
  ·exact .inr ⟨by grind,by grind⟩
  ·exact .inr ⟨by grind,by grind⟩
  ·exact absurd ⟨by rw [b,d],by rw [b];decide⟩ h
 rcases key with ⟨a,b⟩ | ⟨a,b⟩
 ·exact ⟨⟨by grind,by grind⟩,⟨by grind,by grind⟩⟩
 ·exact ⟨⟨by grind,by grind⟩,⟨by grind,by grind⟩⟩
inductive SRow:List (List Int)->Prop
 | last {c:Int} (h:c≠0):SRow [[c]]
 | two {a:List Int} {c:Int} (h:c≠0):SRow [a,[c]]
 | cons {a b c:List Int} {r:List (List Int)} {q:List Int} {α β:Rat} (hα:0<α) (hβ:0<β) (e:∀ x,α*pv a x=pv q x*pv b x-β*pv c x) (h:SRow (b::c::r)):SRow (a::b::c::r)
theorem ow (c:Int) (x:Rat):pv [c] x=(c:Rat):=by show (c:Rat)+x*0=c;grind
theorem bez:∀ {row:List (List Int)},SRow row->∀ a b r,row=a::b::r->∃ (A B:Rat->Rat) (k:Rat),Nice A/\Nice B/\k≠0/\∀ x,A x*pv a x+B x*pv b x=k
 | _,.last h,a,b,r,e=>by cases e
 | _,.two (c:=c) h,a,b,r,e=>by
   cases e
   refine ⟨fun _=>0,fun _=>1,(c:Rat),db 0,db 1,fun z=>h (Rat.intCast_inj.mp (by rw [z];rfl)),fun x=>?_⟩
   rw [ow];grind
 | _,.cons (a:=a0) (b:=b0) (c:=c) (q:=q) (α:=α) (β:=β) hα hβ eq h,a,b,r,e=>by
   cases e
   obtain ⟨A,B,k,nA,nB,hk,hAB⟩:=bez h _ _ _ rfl
   refine ⟨fun x=>(-α)*B x,fun x=>β*A x+B x*pv q x,β*k,(db (-α)).mul nB,((db β).mul nA).add (nB.mul (cJ q)),fun z=>?_,fun x=>?_⟩
   ·rcases Rat.mul_eq_zero.mp z with y | y
    ·grind
    ·exact hk y
   ·have h1:=hAB x
    have h2:=eq x
    have:(-α)*B x*pv a0 x+(β*A x+B x*pv q x)*pv b0 x=B x*(pv q x*pv b0 x-α*pv a0 x)+β*A x*pv b0 x:=by grind
    rw [this,h2]
    have:B x*(pv q x*pv b0 x-(pv q x*pv b0 x-β*pv c x))+β*A x*pv b0 x=β*(A x*pv b0 x+B x*pv c x):=by grind
    rw [this,h1]
theorem ur {a b:Rat->Rat} (na:Nice a) (nb:Nice b) {A B:Rat->Rat} {k:Rat} (nA:Nice A) (nB:Nice B) (hk:0<k) (hAB:∀ x,A x*a x+B x*b x=k\/A x*a x+B x*b x = -k) {R:Rat} (hR:0<=R) :
 ∃ (δ κ:Rat),0<δ/\0<κ/\∀ x y,Bd R x->Bd R y->x<y->y-x<=δ->¬ Sta a x y->Sta b x y/\(κ<=b x\/b x <= -κ)/\(κ<=b y\/b y <= -κ):=by
 obtain ⟨M1,p1,q1,r1⟩:=na R hR
 obtain ⟨M2,p2,q2,r2⟩:=nb R hR
 obtain ⟨M3,p3,q3,_⟩:=nA R hR
 obtain ⟨M4,p4,q4,_⟩:=nB R hR
 have h31:=Rat.mul_nonneg p3 p1
 have h42:=Rat.mul_nonneg p4 p2
 have hT:0<2*(M3*M1+M4*M2+1):=by grind
 have hT4:0<2*(M4+1):=by grind
 refine ⟨k/(2*(M3*M1+M4*M2+1)),k/(2*(M4+1)),c8 hk hT,c8 hk hT4,fun x y hx hy hxy hd hs=>?_⟩
 have hd':(y-x)*(2*(M3*M1+M4*M2+1))<=k:=by
  have:=Rat.mul_le_mul_of_nonneg_right hd (Rat.le_of_lt hT)
  rwa [Rat.div_mul_cancel (by grind)] at this
 have hyx:0<y-x:=by grind
 obtain ⟨a1,a2⟩:=oO hs (r1 x y hx hy (by grind))
 have hM1:0<=M1*(y-x):=Rat.mul_nonneg p1 (Rat.le_of_lt hyx)
 have far:∀ z,Bd R z->Bd (M1*(y-x)) (a z)->k/(2*(M4+1))<=b z\/b z <= -(k/(2*(M4+1))):=fun z hz ha=>by
  have e1:=(q3 z hz).mul ha
  have e2:2*(M3*(M1*(y-x)))<=k:=by
   have h1:=Rat.mul_nonneg h42 (Rat.le_of_lt hyx)
   grind
  have hB:(k<=2*(B z*b z))\/(2*(B z*b z) <= -k):=by
   obtain ⟨f1,f2⟩:=e1
   rcases hAB z with g | g
   ·left;grind
   ·right;grind
  rcases Rat.le_total (a:=k/(2*(M4+1))) (b:=b z) with g | g
  ·exact .inl g
  ·rcases Rat.le_total (a:=b z) (b := -(k/(2*(M4+1)))) with g2 | g2
   ·exact .inr g2
   ·exfalso
    have hb:Bd (k/(2*(M4+1))) (b z):=⟨g2,g⟩
    obtain ⟨f1,f2⟩:=(q4 z hz).mul hb
    have e3:2*(M4*(k/(2*(M4+1))))<k:=by
     have e4:k/(2*(M4+1))*(2*(M4+1))=k:=Rat.div_mul_cancel (by grind)
     have e5:=c8 hk hT4
     generalize k/(2*(M4+1))=w at *
     grind
    rcases hB with g3 | g3<;>grind
 refine ⟨Classical.byContradiction fun hs2=>?_,far x hx a1,far y hy a2⟩
 obtain ⟨b1,b2⟩:=oO hs2 (r2 x y hx hy (by grind))
 obtain ⟨e1,e2⟩:=(q3 x hx).mul a1
 obtain ⟨e3,e4⟩:=(q4 x hx).mul b1
 have hM:0<=(M3*M1+M4*M2)*(y-x):=Rat.mul_nonneg (by grind) (Rat.le_of_lt hyx)
 have e5:M3*(M1*(y-x))+M4*(M2*(y-x))=(M3*M1+M4*M2)*(y-x):=by grind
 have e6:(y-x)*(2*(M3*M1+M4*M2+1))=2*((M3*M1+M4*M2)*(y-x))+2*(y-x):=by grind
 rcases hAB x with g | g<;>grind
theorem qt {row:List (List Int)} (h:SRow row) {a b:List Int} {r:List (List Int)} (e:row=a::b::r):∃ (A B:Rat->Rat) (k:Rat),Nice A/\Nice B/\0<k/\∀ x,A x*pv a x+B x*pv b x=k\/A x*pv a x+B x*pv b x = -k:=by
 obtain ⟨A,B,k,nA,nB,hk,hAB⟩:=bez h a b r e
 rcases Rat.le_total (a:=0) (b:=k) with g | g
 ·exact ⟨A,B,k,nA,nB,by grind,fun x=>.inl (hAB x)⟩
 ·exact ⟨A,B,-k,nA,nB,by grind,fun x=>.inr (by rw [hAB x];grind)⟩
def vr:Int->List Int->Int
 | _,[]=>0
 | b,s::r=>(if s*b<0 then 1 else 0)+vr (if s=0 then b else s) r
theorem wE:∀ (l:List Int) (n b:Int),l.foldl chF (n,b)=(n+vr b l,(l.foldl chF (n,b)).2)
 | [],n,b=>by show (n,b)=(n+0,b);rw [Int.add_zero]
 | s::r,n,b=>by
   show r.foldl chF (chF (n,b) s)=(n+((if s*b<0 then 1 else 0)+vr (if s=0 then b else s) r),(r.foldl chF (chF (n,b) s)).2)
   have e:chF (n,b) s=(n+(if s*b<0 then 1 else 0),if s=0 then b else s):=by
    unfold chF
    by_cases h:s*b<0
    ·rw [if_pos h,if_pos h]
    ·rw [if_neg h,if_neg h,Int.add_zero]
   rw [e]
   have:=wE r (n+(if s*b<0 then 1 else 0)) (if s=0 then b else s)
   rw [Int.add_assoc] at this
   exact this
theorem wH (l:List Int):(chS l).1=vr 0 l:=by
 unfold chS
 rw [wE l 0 0]
 show 0+vr 0 l=_
 omega
def fI (s:Int):Prop:=s=1\/s=0\/s = -1
inductive Al:Int->List Int->List Int->Prop
 | nil {b:Int}:Al b [] []
 | stab {b s:Int} {r r':List Int} (h:s≠0) (t:Al s r r'):Al b (s::r) (s::r')
 | unst {b s s':Int} {r r':List Int} (h1:fI s) (h2:fI s') (t:Al (-b) r r'):Al b (s :: -b::r) (s' :: -b::r')
theorem lJ {b s:Int} (hb:b=1\/b = -1) (hs:fI s) (r:List Int):vr b (s :: -b::r)=1+vr (-b) r:=by
 have hb0:¬ (-b=0):=by omega
 rcases hs with rfl | rfl | rfl
 ·rcases hb with rfl | rfl<;>simp [vr]
 ·rcases hb with rfl | rfl<;>simp [vr]
 ·rcases hb with rfl | rfl<;>simp [vr]
theorem Al.vr:∀ {b:Int} {r r':List Int},Al b r r'->(b=1\/b = -1)->(∀ s∈r,fI s)->RM.vr b r=RM.vr b r'
 | _,_,_,.nil,_,_=>rfl
 | b,_,_,.stab (s:=s) (r:=r) (r':=r') h t,hb,hu=>by
   have hs:fI s:=hu s (List.mem_cons_self ..)
   have hs':s=1\/s = -1:=by rcases hs with z | z | z;exact .inl z;exact absurd z h;exact .inr z
   have ih:=Al.vr t hs' fun x hx=>hu x (List.mem_cons_of_mem _ hx)
   show _+RM.vr (if s=0 then b else s) r=_+RM.vr (if s=0 then b else s) r'
   rw [if_neg h,ih]
 | b,_,_,.unst h1 h2 t,hb,hu=>by
   have ih:=Al.vr t (by omega) fun x hx=>hu x (List.mem_cons_of_mem _ (List.mem_cons_of_mem _ hx))
   rw [lJ hb h1,lJ hb h2,ih]
def sgX (row:List (List Int)) (x:Rat):List Int:=row.map fun f=>sgR (pv f x)
theorem g7 (v:Rat):fI (sgR v):=by
 rcases bz v with ⟨_,h⟩ | ⟨_,h⟩ | ⟨_,h⟩<;>rw [h]
 ·exact .inr (.inr rfl)
 ·exact .inr (.inl rfl)
 ·exact .inl rfl
theorem tE (row:List (List Int)) (x:Rat):∀ s∈sgX row x,fI s:=fun s hs=>by
 obtain ⟨f,_,rfl⟩:=List.mem_map.mp hs
 exact g7 _
def xi (row:List (List Int)) (R:Rat):Prop:=∃ δ:Rat,0<δ/\∀ x y,Bd R x->Bd R y->x<y->y-x<=δ->∀ a r,row=a::r->Sta (pv a) x y->Al (sgR (pv a x)) (sgX r x) (sgX r y)
theorem yN {c:Int} (h:c≠0):sgR (c:Rat)≠0:=by
 rcases bz (c:Rat) with ⟨_,e⟩ | ⟨z,_⟩ | ⟨_,e⟩
 ·rw [e];decide
 ·exact absurd (Rat.intCast_inj.mp (by rw [z];rfl)) h
 ·rw [e];decide
theorem vk:∀ {row:List (List Int)},SRow row->∀ R:Rat,0<=R->xi row R/\xi row.tail R
 | _,.last h,R,_=>⟨⟨1,by grind,fun x y _ _ _ _ a r e _=>by cases e;exact .nil⟩,⟨1,by grind,fun x y _ _ _ _ a r e _=>by cases e⟩⟩
 | _,.two (c:=c) h,R,_=>by
   refine ⟨⟨1,by grind,fun x y _ _ _ _ a r e _=>?_⟩,⟨1,by grind,fun x y _ _ _ _ a r e _=>by cases e;exact .nil⟩⟩
   cases e
   show Al _ [sgR (pv [c] x)] [sgR (pv [c] y)]
   rw [ow,ow]
   exact .stab (yN h) .nil
 | _,.cons (a:=a) (b:=b) (c:=c) (r:=r) (q:=q) (α:=α) (β:=β) hα hβ eq h,R,hR=>by
   obtain ⟨⟨δ1,d1,l1⟩,⟨δ2,d2,l2⟩⟩:=vk h R hR
   refine ⟨?_,⟨δ1,d1,l1⟩⟩
   obtain ⟨A,B,k,nA,nB,hk,hAB⟩:=qt h rfl
   obtain ⟨δ3,κ,d3,hκ,l3⟩:=ur (cJ b) (cJ c) nA nB hk hAB hR
   obtain ⟨M,m0,m1,m2⟩:=cJ b R hR
   obtain ⟨N,n0,n1,_⟩:=cJ q R hR
   have hMN:=Rat.mul_nonneg n0 m0
   have hT:0<N*M+1:=by grind
   have hβκ:=Rat.mul_pos hβ hκ
   obtain ⟨δ,hδ,g1,g2,g3,g4⟩:∃ δ:Rat,0<δ/\δ<=δ1/\δ<=δ2/\δ<=δ3/\δ*(N*M+1)<=β*κ:=by
    have hw:=c8 hβκ hT
    have hw2:β*κ/(N*M+1)*(N*M+1)=β*κ:=Rat.div_mul_cancel (by grind)
    have two:∀ u v:Rat,0<u->0<v->∃ w:Rat,0<w/\w<=u/\w<=v:=fun u v hu hv=>by
     rcases Rat.le_total (a:=u) (b:=v) with z | z
     ·exact ⟨u,hu,Rat.le_refl,z⟩
     ·exact ⟨v,hv,z,Rat.le_refl⟩
    obtain ⟨u,hu,u1,u2⟩:=two δ1 δ2 d1 d2
    obtain ⟨v,hv,v1,v2⟩:=two u δ3 hu d3
    obtain ⟨w,hw',w1,w2⟩:=two v _ hv hw
    refine ⟨w,hw',by grind,by grind,by grind,?_⟩
    have:=Rat.mul_le_mul_of_nonneg_right w2 (Rat.le_of_lt hT)
    rwa [hw2] at this
   refine ⟨δ,hδ,fun x y hx hy hxy hd a' r' e sa=>?_⟩
   cases e
   show Al (sgR (pv a x)) (sgR (pv b x)::sgX (c::r) x) (sgR (pv b y)::sgX (c::r) y)
   by_cases sb:Sta (pv b) x y
   ·have t:=l1 x y hx hy hxy (by grind) b (c::r) rfl sb
    rw [<- sb.1]
    exact .stab sb.2 t
   ·obtain ⟨sc,c1,c2⟩:=l3 x y hx hy hxy (by grind) sb
    obtain ⟨b1,_⟩:=oO sb (m2 x y hx hy (by grind))
    have hyx:0<y-x:=by grind
    have hop:sgR (pv c x) = -sgR (pv a x):=by
     obtain ⟨f1,f2⟩:=(n1 x hx).mul b1
     have e1:=eq x
     have e2:N*(M*(y-x))<β*κ:=by
      have h1:(y-x)*(N*M+1)<=δ*(N*M+1):=Rat.mul_le_mul_of_nonneg_right hd (Rat.le_of_lt hT)
      grind
     rcases c1 with z | z
     ·have h2:β*κ<=β*pv c x:=Rat.mul_le_mul_of_nonneg_left z (Rat.le_of_lt hβ)
      have h3:α*pv a x<0:=by grind
      have h4:pv a x<0:=by
       rcases Rat.le_total (a:=0) (b:=pv a x) with w | w
       ·have:=Rat.mul_nonneg (Rat.le_of_lt hα) w;grind
       ·rcases bz (pv a x) with ⟨w2,_⟩ | ⟨w2,_⟩ | ⟨w2,_⟩
        ·exact w2
        ·rw [w2] at h3;grind
        ·grind
      rcases bz (pv c x) with ⟨w,_⟩ | ⟨w,_⟩ | ⟨_,w⟩
      ·grind
      ·grind
      ·rcases bz (pv a x) with ⟨_,v⟩ | ⟨v,_⟩ | ⟨v,_⟩
       ·rw [w,v];decide
       ·grind
       ·grind
     ·have h2:β*pv c x<=β*(-κ):=Rat.mul_le_mul_of_nonneg_left z (Rat.le_of_lt hβ)
      have h3:0<α*pv a x:=by grind
      have h4:0<pv a x:=by
       rcases bz (pv a x) with ⟨w2,_⟩ | ⟨w2,_⟩ | ⟨w2,_⟩
       ·have:=Rat.mul_nonneg (Rat.le_of_lt hα) (show 0 <= -pv a x by grind);grind
       ·rw [w2] at h3;grind
       ·exact w2
      rcases bz (pv c x) with ⟨_,w⟩ | ⟨w,_⟩ | ⟨w,_⟩
      ·rcases bz (pv a x) with ⟨v,_⟩ | ⟨v,_⟩ | ⟨_,v⟩
       ·grind
       ·grind
       ·rw [w,v]
      ·grind
      ·grind
    have hop':sgR (pv c y) = -sgR (pv a x):=by rw [<- sc.1];exact hop
    have t:Al (sgR (pv c x)) (sgX r x) (sgX r y):=l2 x y hx hy hxy (by grind) c r rfl sc
    rw [hop] at t
    show Al _ (_::sgR (pv c x)::sgX r x) (_::sgR (pv c y)::sgX r y)
    rw [hop,hop']
    exact .unst (g7 _) (g7 _) t
def chg (f:Rat->Rat) (x y:Rat):Int:=if sgR (f x)≠0/\sgR (f y)≠sgR (f x) then 1 else 0
def vrs (row:List (List Int)) (x:Rat):Int:=vr 0 (sgX row x)
theorem iz {s:Int} (r:List Int):vr 0 (s::r)=vr s r:=by
 show (if s*0<0 then 1 else 0)+vr (if s=0 then 0 else s) r=_
 rw [Int.mul_zero,if_neg (by decide),Int.zero_add]
 split
 ·rename_i h;rw [h]
 ·rfl
end RM
namespace RM
structure Cut (s:Rat->Int):Prop where
 u:∀ x,fI (s x)
 m:∀ x y,x<y->s x<=0->s y = -1
theorem He (q:Rat):∃ n:Nat,q<=(n:Rat):=by
 refine ⟨q.ceil.toNat,Rat.le_trans (Rat.le_ceil (x:=q)) ?_⟩
 have h:q.ceil<=(q.ceil.toNat:Int):=Int.self_le_toNat _
 have h2:=Rat.intCast_le_intCast.mpr h
 exact h2
theorem B6 (n:Nat):(n:Rat)<=2^n:=by
 induction n with
 | zero=>decide
 | succ n ih =>
   have h1:((1:Nat):Rat)<=2^n:=by
    have:(1:Nat)<=2^n:=Nat.pow_pos (by decide)
    have h2:((1:Nat):Rat)<=((2^n:Nat):Rat):=Rat.natCast_le_natCast.mpr this
    rwa [Rat.natCast_pow] at h2
   rw [Rat.pow_succ,Rat.natCast_add]
   grind
theorem f9 {n:Int} (hn:n≠0):(n:Rat)≠0:=fun z=>hn (Rat.intCast_inj.mp (show ((n:Int):Rat)=((0:Int):Rat) by rw [z];rfl))
theorem oM (q:Rat):(q.num:Rat)=q*((q.den:Int):Rat):=by
 have hd:((q.den:Int):Rat)≠0:=f9 (by have:=q.den_pos;omega)
 have hx:(q.num:Rat)/((q.den:Int):Rat)=q:=by
  have:=Rat.mkRat_self q
  rw [Rat.mkRat_eq_div] at this
  exact this
 have:=Rat.div_mul_cancel (a:=(q.num:Rat)) hd
 rw [hx] at this
 exact this.symm
theorem zO {t n:Int} (hn:0<n):((t:Rat)/(n:Rat)).num*n=t*(((t:Rat)/(n:Rat)).den:Int):=by
 have hn':(n:Rat)≠0:=f9 (by omega)
 have hq:(t:Rat)/(n:Rat)*(n:Rat)=(t:Rat):=Rat.div_mul_cancel hn'
 generalize (t:Rat)/(n:Rat)=q at hq ⊢
 apply Rat.intCast_inj.mp
 rw [Rat.intCast_mul,Rat.intCast_mul,oM q,<- hq]
 grind
theorem oo {t n t' n':Int} (hn:0<n) (hn':0<n'):(t:Rat)/(n:Rat)<(t':Rat)/(n':Rat)↔t*n'<t'*n:=by
 have p1:(0:Rat)<(n:Rat):=Rat.intCast_lt_intCast.mpr hn
 have p2:(0:Rat)<(n':Rat):=Rat.intCast_lt_intCast.mpr hn'
 have e1:(t:Rat)/(n:Rat)*(n:Rat)=(t:Rat):=Rat.div_mul_cancel (by grind)
 have e2:(t':Rat)/(n':Rat)*(n':Rat)=(t':Rat):=Rat.div_mul_cancel (by grind)
 generalize (t:Rat)/(n:Rat)=q at e1 ⊢
 generalize (t':Rat)/(n':Rat)=q' at e2 ⊢
 rw [<- Rat.intCast_lt_intCast,Rat.intCast_mul,Rat.intCast_mul,<- e1,<- e2]
 have p3:=Rat.mul_pos p1 p2
 have e3:q*(n:Rat)*(n':Rat)=q*((n:Rat)*(n':Rat)):=by grind
 have e4:q'*(n':Rat)*(n:Rat)=q'*((n:Rat)*(n':Rat)):=by grind
 rw [e3,e4]
 constructor
 ·intro h;exact Rat.mul_lt_mul_of_pos_right h p3
 ·intro h
  refine Rat.not_le.mp fun z=>?_
  have:=Rat.mul_le_mul_of_nonneg_right z (Rat.le_of_lt p3)
  grind
theorem kn {p v:Rat} (hp:0<p):sgR (p*v)=sgR v:=by
 rcases bz v with ⟨a,b⟩ | ⟨a,b⟩ | ⟨a,b⟩
 ·have:p*v<0:=by
   have:=Rat.mul_pos hp (show 0 < -v by grind);grind
  rcases bz (p*v) with ⟨_,d⟩ | ⟨c,d⟩ | ⟨c,d⟩
  ·rw [b,d]
  ·grind
  ·grind
 ·rw [a]
  have:p*0=0:=by grind
  rw [this]
 ·have:=Rat.mul_pos hp a
  rcases bz (p*v) with ⟨c,d⟩ | ⟨c,d⟩ | ⟨_,d⟩
  ·grind
  ·grind
  ·rw [b,d]
theorem tI (z:Int):sgR (z:Rat)=sg z:=by
 rcases bz (z:Rat) with ⟨a,b⟩ | ⟨a,b⟩ | ⟨a,b⟩
 ·have:z<0:=Rat.intCast_lt_intCast.mp a
  rw [b];unfold sg;rw [if_pos this]
 ·have:z=0:=Rat.intCast_inj.mp a
  rw [this];rfl
 ·have:0<z:=Rat.intCast_lt_intCast.mp a
  rw [b];unfold sg;rw [if_neg (by omega),if_pos this]
theorem vR {t n:Int} (hn:0<n):∀ l:List Int,(hv t n l:Rat)=(n:Rat)^l.length*pv l ((t:Rat)/(n:Rat))
 | []=>by show ((0:Int):Rat)=_*0;grind
 | c::l=>by
   have hn':(n:Rat)≠0:=f9 (by omega)
   have hq:(t:Rat)/(n:Rat)*(n:Rat)=(t:Rat):=Rat.div_mul_cancel hn'
   rw [c6,Rat.intCast_add,Rat.intCast_mul,Rat.intCast_mul,vR hn l,Rat.intCast_pow]
   show _=(n:Rat)^(l.length+1)*((c:Rat)+(t:Rat)/(n:Rat)*pv l ((t:Rat)/(n:Rat)))
   rw [Rat.pow_succ]
   generalize hqq:(t:Rat)/(n:Rat)=q at *
   rw [<- hq]
   grind
theorem iQ {t n:Int} (hn:0<n) (l:List Int):sg (hv t n l)=sgR (pv l ((t:Rat)/(n:Rat))):=by
 rw [<- tI,vR hn]
 exact kn (Rat.pow_pos (Rat.intCast_lt_intCast.mpr hn))
end RM
namespace RM
def Cop2 (a b:List Int):Prop:=∀ d,d≠[]->Tr d->Dv d a->Dv d b->d.length<=1
theorem BW {one other:List Int} (ho:other≠[]):∀ n,bB one other*cf one n=aw (bE one other) other n-(ar (bM [] (aB one other)):Int)*cf (nxt one other) n:=fun n=>by
 have h1:=fw (a:=one) ho n
 have e:nxt one other=ak (bM [] (aB one other)):=by unfold nxt rst;rw [if_neg ho]
 have h2:=congrArg (fun l=>cf l n) (iL (l:=bM [] (aB one other)))
 simp only [aX] at h2
 have h3:cf (bM [] (aB one other)) n = -cf (aB one other) n:=by
  rw [gU (dR _ _),aX];omega
 rw [e,h2,h3,h1];omega
theorem xL (one other:List Int):Tr (nxt one other):=by
 unfold nxt
 exact fJ (by unfold bM;exact di _)
theorem BX {one other:List Int} (ho:other≠[]):(nxt one other).length<other.length:=by
 have h1:=eM (a:=one) ho
 unfold nxt rst
 rw [if_neg ho,gU (dR _ _)]
 have h2:(ak (scL (-1) (aB one other))).length<=(scL (-1) (aB one other)).length:=by
  unfold ak;rw [List.length_map];exact Nat.le_refl _
 rw [cz] at h2
 omega
theorem o6 {l:List Int} (h:l.length<=1) (hne:l≠[]):∃ c,l=[c]:=List.length_eq_one_iff.mp (by have:=List.length_pos_iff.mpr hne;omega)
theorem tL:∀ (n:Nat) (one other:List Int),other.length<=n->Tr one->one≠[]->Tr other->Cop2 one other->SRow (aL (n+1) one other)
 | 0,one,other,hl,to,no,tt,hc=>by
   have e0:other=[]:=List.eq_nil_of_length_eq_zero (Nat.le_zero.mp hl)
   subst e0
   have h1:=hc one no to (Dv.refl _) (Dv.nil _)
   obtain ⟨c,rfl⟩:=o6 h1 no
   show SRow (if ([c]:List Int)=[] then _ else [c]::aL 0 [] (nxt [c] []))
   rw [if_neg no]
   exact .last (tr_snoc (r:=[]) |>.mp to)
 | n+1,one,other,hl,to,no,tt,hc=>by
   have e:aL (n+1+1) one other=one::aL (n+1) other (nxt one other):=by show (if one=[] then _ else _)=_;rw [if_neg no]
   rw [e]
   by_cases ho:other=[]
   ·subst ho
    have h1:=hc one no to (Dv.refl _) (Dv.nil _)
    obtain ⟨c,rfl⟩:=o6 h1 no
    rw [fO]
    exact .last (tr_snoc (r:=[]) |>.mp to)
   have hs:=BW (one:=one) ho
   have hlen:=BX (one:=one) ho
   have tn:=xL one other
   have fp:0<bB one other:=Gf ho tt
   by_cases hn:nxt one other=[]
   ·
    have hdv:Dv other one:=⟨bB one other,bE one other,by omega,fun k=>by rw [hs k,hn,b7];omega⟩
    have h1:=hc other ho tt hdv (Dv.refl _)
    obtain ⟨c,rfl⟩:=o6 h1 ho
    rw [hn,tM ho (by omega)]
    exact .two (tr_snoc (r:=[]) |>.mp tt)
   ·have hc2:Cop2 other (nxt one other):=fun d dn dt h1 h2=>by
     refine hc d dn dt ?_ h1
     refine Dv.up (f:=bB one other) (q:=bE one other) (r:=scL (-(ar (bM [] (aB one other)):Int)) (nxt one other)) (by omega) (fun k=>?_) h1 ?_
     ·rw [hs k,aX,Int.neg_mul];omega
     ·exact Dv.prop_right (x:=1) (y := -(ar (bM [] (aB one other)):Int)) (by decide) (fun k=>by rw [aX];omega) h2
    have ih:=tL n other (nxt one other) (by omega) tt ho tn hc2
    have e2:aL (n+1) other (nxt one other)=other::aL n (nxt one other) (nxt other (nxt one other)):=by show (if other=[] then _ else _)=_;rw [if_neg ho]
    have n1:0<n:=by
     have:=List.length_pos_iff.mpr hn
     omega
    obtain ⟨m,rfl⟩:∃ m,n=m+1:=⟨n-1,by omega⟩
    have e3:aL (m+1) (nxt one other) (nxt other (nxt one other))=nxt one other::aL m (nxt other (nxt one other)) (nxt (nxt one other) (nxt other (nxt one other))):=by show (if nxt one other=[] then _ else _)=_;rw [if_neg hn]
    rw [e2,e3] at ih ⊢
    have gp:0<(ar (bM [] (aB one other)):Int):=by
     rcases Nat.eq_zero_or_pos (ar (bM [] (aB one other))) with z | z
     ·exfalso
      apply hn
      refine oP tn fun k=>?_
      have e:nxt one other=ak (bM [] (aB one other)):=by unfold nxt rst;rw [if_neg ho]
      rw [e]
      unfold ak
      rw [z]
      unfold cf
      simp [List.getD]
      cases (bM [] (aB one other))[k]? with
      | none=>rfl
      | some v=>simp
     ·omega
    refine .cons (q:=bE one other) (α:=(bB one other:Rat)) (β:=((ar (bM [] (aB one other)):Int):Rat)) (Rat.intCast_lt_intCast.mpr fp) (Rat.intCast_lt_intCast.mpr gp) (fun x=>?_) ih
    have h1:=ei (a:=one) (c:=scL (bB one other) one) (u:=bB one other) x fun k=>aX _ _ _
    have h2:=ky x (bE one other) other (ad (bE one other) other) (aG _ _)
    have h3:=kz (a:=ad (bE one other) other) (b:=nxt one other) (c:=scL (bB one other) one) (u:=1) (v := -(ar (bM [] (aB one other)):Int)) x fun k=>by rw [aX,hs k,aG,Int.neg_mul];omega
    rw [<- h1,h3,h2,Rat.intCast_neg]
    show ((1:Int):Rat)*_+_=_
    grind
theorem Ae {ss:List (List Int)} (h:∀ s∈ss,Pri s):cF [1] ss=prd ss:=by
 unfold cF
 rw [wc,one_mul _ (oy ss fun s hs=>(h s hs).pln).tr]
theorem jv {f:List Int} (h:FacG f):Pri (aK f):=by
 obtain ⟨u,e,b,rfl,_,_,_,_,h5,_,h7⟩:=h
 exact zM h5 h7
theorem mw {l:List Int} (h:Tr l) (hne:l≠[]):0<(ar l:Int)/\Tr (ak l)/\ak l≠[]/\∀ n,cf l n=(ar l:Int)*cf (ak l) n:=by
 have e:=iL (l:=l)
 have ec:∀ n,cf l n=(ar l:Int)*cf (ak l) n:=fun n=>by
  have:=congrArg (fun z=>cf z n) e
  simp only [aX] at this
  exact this.symm
 have hl:(ak l).length=l.length:=by unfold ak;rw [List.length_map]
 refine ⟨?_,fJ h,fun z=>by rw [z] at hl;exact hne (List.eq_nil_of_length_eq_zero hl.symm),ec⟩
 rcases Nat.eq_zero_or_pos (ar l) with z | z
 ·exfalso
  refine hne (oP h fun k=>?_)
  rw [ec k,z];simp
 ·omega
theorem Cop2.shr {a b:List Int} (h:Cop2 a b) (ha:Tr a) (hna:a≠[]) (hb:Tr b):Cop2 (ak a) (ak b):=fun d dn dt h1 h2=>by
 obtain ⟨_,_,_,ea⟩:=mw ha hna
 refine h d dn dt (Dv.prop_right (x:=1) (y:=(ar a:Int)) (by decide) (fun n=>by rw [ea n];omega) h1) ?_
 by_cases hnb:b=[]
 ·rw [hnb];exact Dv.nil _
 ·obtain ⟨_,_,_,eb⟩:=mw hb hnb
  exact Dv.prop_right (x:=1) (y:=(ar b:Int)) (by decide) (fun n=>by rw [eb n];omega) h2
def sdR (l:List Int) (x:Rat):Int:=aC l x.num x.den
theorem dD (x:Rat):0<(x.den:Int):=by have:=x.den_pos;omega
theorem iS (l:List Int) {t n:Int} (hn:0<n):sdR l ((t:Rat)/(n:Rat))=aC l t n:=by
 unfold sdR
 exact tj l (dD _) hn (zO hn)
theorem tJ {l:List Int} (h:Spt l):Cut (sdR l):=by
 refine ⟨fun x=>?_,fun x y hxy hs=>?_⟩
 ·rcases kl l x.num x.den with z | z | z
  ·exact .inl z
  ·exact .inr (.inl z)
  ·exact .inr (.inr z)
 ·exact mv h (dD x) (dD y) ((Rat.lt_iff x y).mp hxy) hs
theorem Ge (x:Rat):(x.num:Rat)/((x.den:Int):Rat)=x:=by
 have:=Rat.mkRat_self x
 rw [Rat.mkRat_eq_div] at this
 exact this
def cH (ls:List (List Int)) (t n t' n':Int):Int:=(ls.map fun l=>if 0<aC l t n/\aC l t' n'<=0 then (1:Int) else 0).sum
def sgv (row:List (List Int)) (t n:Int):List Int:=row.map fun f=>sg (hv t n f)
theorem tw {t n:Int} (hn:0<n) (row:List (List Int)):sgv row t n=sgX row ((t:Rat)/(n:Rat)):=by
 unfold sgv sgX
 exact List.map_congr_left fun f _=>iQ hn f
end RM
namespace RM
theorem mr {δ:Rat} (hδ:0<δ) (w:Rat):∃ n:Nat,w<=2^n*δ:=by
 obtain ⟨n,hn⟩:=He (w/δ)
 refine ⟨n,?_⟩
 have h1:w/δ<=2^n:=Rat.le_trans hn (B6 n)
 have h2:=Rat.mul_le_mul_of_nonneg_right h1 (Rat.le_of_lt hδ)
 rwa [Rat.div_mul_cancel (by grind)] at h2
theorem fH (v:Rat):∃ w:Rat,0<=w/\Bd w v:=by
 rcases Rat.le_total (a:=0) (b:=v) with z | z
 ·exact ⟨v,z,by grind,by grind⟩
 ·exact ⟨-v,by grind,by grind,by grind⟩
theorem kK {s:Rat->Int} {ε:Rat} (hε:0<ε):∀ (n:Nat) (x y:Rat),x<y->0<s x->s y<=0->y-x<=2^n*ε->∃ x' y',x<=x'/\x'<y'/\y'<=y/\y'-x'<=ε/\0<s x'/\s y'<=0
 | 0,x,y,hxy,hx,hy,hd=>⟨x,y,Rat.le_refl,hxy,Rat.le_refl,by rw [Rat.pow_zero] at hd;grind,hx,hy⟩
 | n+1,x,y,hxy,hx,hy,hd=>by
   have m1:x<(x+y)/2:=by grind
   have m2:(x+y)/2<y:=by grind
   rw [Rat.pow_succ] at hd
   by_cases h:s ((x+y)/2)<=0
   ·obtain ⟨x',y',h1,h2,h3,h4⟩:=kK hε n x _ m1 hx h (by grind)
    exact ⟨x',y',h1,h2,by grind,h4⟩
   ·obtain ⟨x',y',h1,h2,h3,h4⟩:=kK hε n _ y m2 (by omega) hy (by grind)
    exact ⟨x',y',by grind,h2,h3,h4⟩
end RM
namespace RM
theorem uf {s:List Int}:∀ (pre post:List (List Int)),prd (pre++s::post)=ad s (prd (pre++post))
 | [],post=>rfl
 | t::pre,post=>by
   show ad t (prd (pre++s::post))=ad s (ad t (prd (pre++post)))
   rw [uf pre post];ac_rfl
theorem uA {l:List Int} (h:Pln l):ad [1] l=l:=one_mul l h.tr
theorem Gd {ss:List (List Int)} (hp:∀ s∈ss,Pri s) (hn:ss.Nodup) {E:List Int} (hE:Pln E) (hl:E.length=3) (hd:Dv E (prd ss)):E∈ss\/∃ p q,p∈ss/\q∈ss/\p≠q/\E=ad p q:=by
 have ne1:E≠[1]:=fun z=>by rw [z] at hl;cases hl
 obtain ⟨p,hpm,hpd⟩:=(qi ss hp hE hd).resolve_left ne1
 have pp:=hp p hpm
 obtain ⟨q,hq,eq⟩:=Dv.fellow pp.pln hE.tr hE.ne hpd
 rw [hE.plain] at eq
 have hlen:=bQ hq.ne pp.pln.ne
 rw [eq,hl] at hlen
 have l2:=pp.two
 have ql:=List.length_pos_iff.mpr hq.ne
 rcases Nat.lt_or_ge p.length 3 with z | z
 ·
  have lp:p.length=2:=by omega
  have lq:q.length=2:=by omega
  obtain ⟨pre,post,rfl⟩:=List.append_of_mem hpm
  have hd2:Dv (ad p q) (ad p (prd (pre++post))):=by
   rw [<- uf]
   have:ad p q=E:=by rw [<- eq];ac_rfl
   rw [this];exact hd
  have hd3:=Dv.cancel pp.pln.ne pp.pln.tr hd2
  have ho:∀ s∈pre++post,Pri s:=fun s hs=>hp s (by
   rcases List.mem_append.mp hs with w | w
   ·exact List.mem_append_left _ w
   ·exact List.mem_append_right _ (List.mem_cons_of_mem _ w))
  have nq1:q≠[1]:=fun w=>by rw [w] at lq;cases lq
  obtain ⟨p',hpm',hpd'⟩:=(qi (pre++post) ho hq hd3).resolve_left nq1
  have pp':=ho p' hpm'
  obtain ⟨r,hr,er⟩:=Dv.fellow pp'.pln hq.tr hq.ne hpd'
  rw [hq.plain] at er
  have hlen':=bQ hr.ne pp'.pln.ne
  rw [er,lq] at hlen'
  have l2':=pp'.two
  have rl:=List.length_pos_iff.mpr hr.ne
  have r1:=hr.const (by omega)
  rw [r1,uA pp'.pln] at er
  have hmem:p'∈pre++p::post:=by
   rcases List.mem_append.mp hpm' with w | w
   ·exact List.mem_append_left _ w
   ·exact List.mem_append_right _ (List.mem_cons_of_mem _ w)
  refine .inr ⟨p,p',hpm,hmem,fun w=>?_,?_⟩
  ·rw [List.nodup_append] at hn
   rcases List.mem_append.mp hpm' with y | y
   ·exact hn.2.2 p' y p (List.mem_cons_self ..) w.symm
   ·exact (List.nodup_cons.mp hn.2.1).1 (w ▸ y)
  ·rw [er,<- eq];ac_rfl
 ·left
  have q1:=hq.const (by omega)
  rw [q1,uA pp.pln] at eq
  rw [<- eq];exact hpm
theorem qh (u b:Int) (x:Rat):((b*x.num-u*(x.den:Int):Int):Rat)=((b:Rat)*x-(u:Rat))*((x.den:Int):Rat):=by
 rw [Rat.intCast_sub,Rat.intCast_mul,Rat.intCast_mul,oM x];grind
theorem B1 (u b:Int) (x:Rat):b*x.num-u*(x.den:Int)<0↔(b:Rat)*x-(u:Rat)<0:=by
 have hd:(0:Rat)<((x.den:Int):Rat):=Rat.intCast_lt_intCast.mpr (dD x)
 rw [<- Rat.intCast_lt_intCast,qh]
 constructor
 ·intro h
  refine Rat.not_le.mp fun z=>?_
  have:=Rat.mul_nonneg z (Rat.le_of_lt hd)
  have e:((0:Int):Rat)=0:=rfl
  grind
 ·intro h
  have:=Rat.mul_pos (show 0 < -((b:Rat)*x-(u:Rat)) by grind) hd
  have e:((0:Int):Rat)=0:=rfl
  grind
theorem rN (u e b:Int) (x:Rat):((b*x.num-u*(x.den:Int))*(b*x.num-u*(x.den:Int))<e*(x.den:Int)*(x.den:Int)↔((b:Rat)*x-(u:Rat))*((b:Rat)*x-(u:Rat))<(e:Rat))/\(e*(x.den:Int)*(x.den:Int)<(b*x.num-u*(x.den:Int))*(b*x.num-u*(x.den:Int))↔(e:Rat)<((b:Rat)*x-(u:Rat))*((b:Rat)*x-(u:Rat))):=by
 have hd:(0:Rat)<((x.den:Int):Rat):=Rat.intCast_lt_intCast.mpr (dD x)
 have hdd:=Rat.mul_pos hd hd
 have e1:(((b*x.num-u*(x.den:Int))*(b*x.num-u*(x.den:Int)):Int):Rat)=((b:Rat)*x-(u:Rat))*((b:Rat)*x-(u:Rat))*(((x.den:Int):Rat)*((x.den:Int):Rat)):=by rw [Rat.intCast_mul,qh];grind
 have e2:((e*(x.den:Int)*(x.den:Int):Int):Rat)=(e:Rat)*(((x.den:Int):Rat)*((x.den:Int):Rat)):=by rw [Rat.intCast_mul,Rat.intCast_mul];grind
 have key:∀ p q:Rat,(p*(((x.den:Int):Rat)*((x.den:Int):Rat))<q*(((x.den:Int):Rat)*((x.den:Int):Rat)))↔p<q:=fun p q=>⟨fun h=>Rat.not_le.mp fun z=>by
  have:=Rat.mul_le_mul_of_nonneg_right z (Rat.le_of_lt hdd)
  grind,fun h=>Rat.mul_lt_mul_of_pos_right h hdd⟩
 constructor
 ·rw [<- Rat.intCast_lt_intCast,e1,e2,key]
 ·rw [<- Rat.intCast_lt_intCast,e1,e2,key]
theorem rd {u e b:Int} (x:Rat):(0<sdR [u,e,b,1] x↔(b:Rat)*x-(u:Rat)<0\/((b:Rat)*x-(u:Rat))*((b:Rat)*x-(u:Rat))<(e:Rat)):=by
 have h:sdR [u,e,b,1] x=aY (e*(x.den:Int)*(x.den:Int)) (b*x.num-u*(x.den:Int)):=rfl
 rw [h,<- B1,<- (rN u e b x).1]
 rcases cr (e*(x.den:Int)*(x.den:Int)) (b*x.num-u*(x.den:Int)) with ⟨z,w⟩ | ⟨z,w⟩ | ⟨z,w⟩<;>rw [z]<;>omega
theorem re {u e b:Int} (x:Rat):(0<sdR [u,e,b,-1] x↔(b:Rat)*x-(u:Rat)<=0/\(e:Rat)<((b:Rat)*x-(u:Rat))*((b:Rat)*x-(u:Rat))):=by
 have h:sdR [u,e,b,-1] x=0-aY (e*(x.den:Int)*(x.den:Int)) (0-(b*x.num-u*(x.den:Int))):=rfl
 have e1:(0-(b*x.num-u*(x.den:Int)))*(0-(b*x.num-u*(x.den:Int)))=(b*x.num-u*(x.den:Int))*(b*x.num-u*(x.den:Int)):=by grind
 have hle:(b:Rat)*x-(u:Rat)<=0↔0<=0-(b*x.num-u*(x.den:Int)):=by
  have hd:(0:Rat)<((x.den:Int):Rat):=Rat.intCast_lt_intCast.mpr (dD x)
  have e3:=qh u b x
  constructor
  ·intro h
   have:¬ (0<b*x.num-u*(x.den:Int)):=fun z=>by
    have z':=Rat.intCast_lt_intCast.mpr z
    rw [e3] at z'
    have:=Rat.mul_nonneg (show 0 <= -((b:Rat)*x-(u:Rat)) by grind) (Rat.le_of_lt hd)
    have e:((0:Int):Rat)=0:=rfl
    grind
   omega
  ·intro h
   refine Rat.not_lt.mp fun z=>?_
   have:=Rat.mul_pos z hd
   rw [<- e3] at this
   have:=Rat.intCast_lt_intCast.mp (show ((0:Int):Rat)<_ from this)
   omega
 rw [h,hle,<- (rN u e b x).2]
 rcases cr (e*(x.den:Int)*(x.den:Int)) (0-(b*x.num-u*(x.den:Int))) with ⟨z,w⟩ | ⟨z,w⟩ | ⟨z,w⟩<;>rw [z]<;>rw [e1] at w<;>omega
structure Two (u e b x y x' y':Rat):Prop where
 xp:b*x-u<0\/(b*x-u)*(b*x-u)<e
 yp:0<=b*y-u/\e<=(b*y-u)*(b*y-u)
 xm:b*x'-u<=0/\e<(b*x'-u)*(b*x'-u)
 ym:0<b*y'-u\/(b*y'-u)*(b*y'-u)<=e
theorem zv {a c:Rat} (hc:0<=c) (h:a*a<c*c):a<c:=Rat.not_le.mp fun z=>by
 have:=Rat.mul_nonneg (show 0<=a-c by grind) (show 0<=a+c by grind)
 grind
theorem zw {a c:Rat} (hc:0<=c) (h:a*a<=c*c):a<=c:=Rat.not_lt.mp fun z=>by
 have:=Rat.mul_pos (show 0<a-c by grind) (show 0<a+c by grind)
 grind
theorem Two.sum {u e b x y x' y':Rat} (h:Two u e b x y x' y'):2*u<=b*(y+y')/\b*(x+x')<2*u:=by
 obtain ⟨xp,yp,xm,ym⟩:=h
 constructor
 ·rcases ym with z | z
  ·grind
  ·have : -(b*y'-u)<=b*y-u:=zw yp.1 (by grind)
   grind
 ·rcases xp with z | z
  ·grind
  ·have:b*x-u < -(b*x'-u):=zv (by grind) (by grind)
   grind
def mx (a b:Rat):Rat:=if a<b then b else a
theorem uM (a b:Rat):a<=mx a b:=by unfold mx;split<;>grind
theorem uL (a b:Rat):b<=mx a b:=by unfold mx;split<;>grind
theorem uN (a b:Rat):mx a b=a\/mx a b=b:=by unfold mx;split<;>simp
theorem bil {X Y X' Y' a a' m:Rat} (h1:X<=a) (h2:a<=Y) (h3:X'<=a') (h4:a'<=Y') (c1:X*X'<=m) (c2:X*Y'<=m) (c3:Y*X'<=m) (c4:Y*Y'<=m):a*a'<=m:=by
 have g1:X*a'<=m:=by
  rcases Rat.le_total (a:=0) (b:=X) with z | z
  ·have:=Rat.mul_nonneg z (show 0<=Y'-a' by grind);grind
  ·have:=Rat.mul_nonneg (show 0 <= -X by grind) (show 0<=a'-X' by grind);grind
 have g2:Y*a'<=m:=by
  rcases Rat.le_total (a:=0) (b:=Y) with z | z
  ·have:=Rat.mul_nonneg z (show 0<=Y'-a' by grind);grind
  ·have:=Rat.mul_nonneg (show 0 <= -Y by grind) (show 0<=a'-X' by grind);grind
 rcases Rat.le_total (a:=0) (b:=a') with z | z
 ·have:=Rat.mul_nonneg z (show 0<=Y-a by grind);grind
 ·have:=Rat.mul_nonneg (show 0 <= -a' by grind) (show 0<=a-X by grind);grind
theorem Two.prod {u e b x y x' y' m w N:Rat} (h:Two u e b x y x' y') (hb:0<b) (he:0<e) (hirr:∀ q:Rat,q*q≠e) (hxy:x<y) (hxy':x'<y') (hw:y-x<=w) (hw':y'-x'<=w) (n1:Bd N x) (n2:Bd N y) (n3:Bd N x') (n4:Bd N y')
 (c1:x*x'<=m) (c2:x*y'<=m) (c3:y*x'<=m) (c4:y*y'<=m) (hm:m=x*x'\/m=x*y'\/m=y*x'\/m=y*y'):u*u-e<b*b*m/\b*b*m<=u*u-e+2*(b*b)*(w*N):=by
 have hs:=h.sum
 obtain ⟨xp,yp,xm,ym⟩:=h
 have hbb:=Rat.mul_pos hb hb
 have scale:∀ a a':Rat,b*x-u<=a->a<=b*y-u->b*x'-u<=a'->a'<=b*y'-u->(a+u)*(a'+u)<=b*b*m:=fun a a' g1 g2 g3 g4=>by
  have e1:∀ p q:Rat,b*p*(b*q)=b*b*(p*q):=fun p q=>by grind
  have k:∀ p q:Rat,p*q<=m->b*p*(b*q)<=b*b*m:=fun p q hpq=>by rw [e1];exact Rat.mul_le_mul_of_nonneg_left hpq (Rat.le_of_lt hbb)
  exact bil (X:=b*x) (Y:=b*y) (X':=b*x') (Y':=b*y') (by grind) (by grind) (by grind) (by grind) (k _ _ c1) (k _ _ c2) (k _ _ c3) (k _ _ c4)
 constructor
 ·obtain ⟨a,a0,ae,ax,ay,am⟩:∃ a:Rat,0<=a/\a*a<e/\b*x-u<=a/\a<=b*y-u /\ -(b*y'-u)<=a/\a <= -(b*x'-u):=by
   have p1:=uM (b*x-u) (mx (-(b*y'-u)) 0)
   have p2:=uL (b*x-u) (mx (-(b*y'-u)) 0)
   have p3:=uM (-(b*y'-u)) 0
   have p4:=uL (-(b*y'-u)) 0
   have hX:b*x-u<=b*y-u:=by
    have:=Rat.mul_pos hb (show 0<y-x by grind);grind
   have hX':b*x'-u<=b*y'-u:=by
    have:=Rat.mul_pos hb (show 0<y'-x' by grind);grind
   have q1:=uN (b*x-u) (mx (-(b*y'-u)) 0)
   have q2:=uN (-(b*y'-u)) 0
   have hxm:=xm.1
   have hyp:=yp.1
   refine ⟨mx (b*x-u) (mx (-(b*y'-u)) 0),by grind,?_,p1,?_,by grind,?_⟩
   ·rcases q1 with z | z
    ·rw [z] at p2 ⊢
     rcases xp with w | w
     ·grind
     ·exact w
    ·rw [z]
     rcases q2 with z2 | z2
     ·rw [z2] at p4 ⊢
      have e1 : -(b*y'-u) * -(b*y'-u)=(b*y'-u)*(b*y'-u):=by grind
      rw [e1]
      rcases ym with w | w
      ·grind
      ·have:=hirr (b*y'-u)
       grind
     ·rw [z2];grind
   ·rcases q1 with z | z
    ·rw [z];exact hX
    ·rw [z]
     rcases q2 with z2 | z2
     ·rw [z2];grind
     ·rw [z2];exact hyp
   ·rcases q1 with z | z
    ·rw [z];grind
    ·rw [z]
     rcases q2 with z2 | z2
     ·rw [z2];grind
     ·rw [z2];grind
  have:=scale a (-a) ax ay (by grind) (by grind)
  grind
 ·obtain ⟨c,c0,ce,cx,cy,cm,cm'⟩:∃ c:Rat,0<=c/\e<=c*c/\b*x-u<=c/\c<=b*y-u /\ -(b*y'-u)<=c/\c <= -(b*x'-u):=by
   have hX:b*x-u<=b*y-u:=by
    have:=Rat.mul_pos hb (show 0<y-x by grind);grind
   have hX':b*x'-u<=b*y'-u:=by
    have:=Rat.mul_pos hb (show 0<y'-x' by grind);grind
   rcases Rat.le_total (a:=b*y-u) (b := -(b*x'-u)) with z | z
   ·exact ⟨b*y-u,yp.1,yp.2,hX,Rat.le_refl,by grind,z⟩
   ·refine ⟨-(b*x'-u),by grind,by grind,by grind,z,by grind,Rat.le_refl⟩
  have hbw:0<=b*w:=Rat.mul_nonneg (Rat.le_of_lt hb) (by grind)
  have side:∀ p q:Rat,b*x-u<=b*p-u->b*p-u<=b*y-u->b*x'-u<=b*q-u->b*q-u<=b*y'-u->Bd N p->b*b*(p*q)<=u*u-e+2*(b*b)*(w*N):=fun p q g1 g2 g3 g4 hp=>by
   have w1:b*(y-x)<=b*w:=Rat.mul_le_mul_of_nonneg_left hw (Rat.le_of_lt hb)
   have w2:b*(y'-x')<=b*w:=Rat.mul_le_mul_of_nonneg_left hw' (Rat.le_of_lt hb)
   have d1:Bd (b*w) (b*p-u-c):=⟨by grind,by grind⟩
   have d2:Bd (b*w) (b*q-u+c):=⟨by grind,by grind⟩
   have bN1:b*x'<=u-c/\u-c<=b*y':=⟨by grind,by grind⟩
   have k1 : -(b*N)<=b*x':=by
    have:=Rat.mul_le_mul_of_nonneg_left n3.1 (Rat.le_of_lt hb);grind
   have k2:b*y'<=b*N:=Rat.mul_le_mul_of_nonneg_left n4.2 (Rat.le_of_lt hb)
   have d3:Bd (b*N) (u-c):=⟨by grind,by grind⟩
   have d4:Bd (b*N) (b*p):=by
    obtain ⟨r1,r2⟩:=hp
    have s1:=Rat.mul_le_mul_of_nonneg_left r1 (Rat.le_of_lt hb)
    have s2:=Rat.mul_le_mul_of_nonneg_left r2 (Rat.le_of_lt hb)
    exact ⟨by grind,s2⟩
   obtain ⟨_,z1⟩:=d1.mul d3
   obtain ⟨_,z2⟩:=d2.mul d4
   have e1:b*b*(p*q)=(c+u)*(u-c)+((b*p-u-c)*(u-c)+(b*q-u+c)*(b*p)):=by grind
   have e2:b*w*(b*N)=b*b*(w*N):=by grind
   rw [e2] at z1 z2
   grind
  have hX:b*x-u<=b*y-u:=by
   have:=Rat.mul_pos hb (show 0<y-x by grind);grind
  have hX':b*x'-u<=b*y'-u:=by
   have:=Rat.mul_pos hb (show 0<y'-x' by grind);grind
  rcases hm with rfl | rfl | rfl | rfl
  ·exact side x x' Rat.le_refl hX Rat.le_refl hX' n1
  ·exact side x y' Rat.le_refl hX hX' Rat.le_refl n1
  ·exact side y x' hX Rat.le_refl Rat.le_refl hX' n2
  ·exact side y y' hX Rat.le_refl hX' Rat.le_refl n2
end RM
namespace RM
theorem Gn (ls:List (List Int)) (t n t' n':Int):0<=cH ls t n t' n':=by
 induction ls with
 | nil=>exact Int.le_refl _
 | cons l ls ih =>
   unfold cH at ih ⊢
   rw [List.map_cons,List.sum_cons];split<;>omega
theorem dS (l:List Int) (ls:List (List Int)) (t n t' n':Int):cH (l::ls) t n t' n'=(if 0<aC l t n/\aC l t' n'<=0 then 1 else 0)+cH ls t n t' n':=by unfold cH;rw [List.map_cons,List.sum_cons]
theorem wA {l1 l2 h1 h2:Int}:∀ {ls:List (List Int)},cH ls l1 l2 h1 h2=0->∀ x∈ls,¬ (0<aC x l1 l2/\aC x h1 h2<=0)
 | [],_,x,hx=>nomatch hx
 | l::ls,h,x,hx=>by
   rw [dS] at h
   have nn:=Gn ls l1 l2 h1 h2
   by_cases hl:0<aC l l1 l2/\aC l h1 h2<=0
   ·rw [if_pos hl] at h;omega
   ·rw [if_neg hl] at h
    rcases List.mem_cons.mp hx with rfl | z
    ·exact hl
    ·exact wA (by omega) x z
theorem wB {l1 l2 h1 h2:Int}:∀ {ls:List (List Int)},cH ls l1 l2 h1 h2=1->∃ pre s post,ls=pre++s::post/\(0<aC s l1 l2/\aC s h1 h2<=0)/\∀ x∈pre++post,¬ (0<aC x l1 l2/\aC x h1 h2<=0)
 | [],h=>by cases h
 | l::ls,h=>by
   rw [dS] at h
   by_cases hl:0<aC l l1 l2/\aC l h1 h2<=0
   ·rw [if_pos hl] at h
    exact ⟨[],l,ls,rfl,hl,wA (ls:=ls) (by omega)⟩
   ·rw [if_neg hl] at h
    obtain ⟨pre,s,post,rfl,e2,e3⟩:=wB (l1:=l1) (l2:=l2) (h1:=h1) (h2:=h2) (ls:=ls) (by omega)
    refine ⟨l::pre,s,post,rfl,e2,fun x hx=>?_⟩
    rcases List.mem_cons.mp hx with rfl | z
    ·exact hl
    ·exact e3 x z
structure Dya (B:Int) (d:Nat) (l1 l2 h1 h2:Int):Prop where
 l2p:0<l2
 h2p:0<h2
 gl:Nat.gcd l1.natAbs l2.natAbs=1
 gh:Nat.gcd h1.natAbs h2.natAbs=1
 at':∃ m:Int,0<=m/\m+1<=2^d/\l1*2^d=(2*m*B-B*2^d)*l2/\h1*2^d=(2*(m+1)*B-B*2^d)*h2
theorem wj {X l1 l2:Int} {d k:Nat} (l2p:0<l2) (g:Nat.gcd l1.natAbs l2.natAbs=1) (e:l1*2^d=X*l2) (hX:X.natAbs<=2^k) (hk:d<=k):l1.natAbs<=2^k/\l2.natAbs<=2^k:=by
 have e':l1.natAbs*2^d=X.natAbs*l2.natAbs:=by
  have:=congrArg Int.natAbs e
  rw [Int.natAbs_mul,Int.natAbs_mul,Int.natAbs_pow] at this
  exact this
 have hd:l2.natAbs∣2^d:=by
  refine Nat.Coprime.dvd_of_dvd_mul_left (k:=l2.natAbs) (m:=l1.natAbs) (by rw [Nat.Coprime,Nat.gcd_comm];exact g) ?_
  exact ⟨X.natAbs,by rw [e',Nat.mul_comm]⟩
 have p2:0<2^d:=Nat.pow_pos (by decide)
 have hle:=Nat.le_of_dvd p2 hd
 refine ⟨?_,Nat.le_trans hle (Nat.pow_le_pow_right (by decide) hk)⟩
 have h1:l1.natAbs*2^d<=X.natAbs*2^d:=by rw [e'];exact Nat.mul_le_mul_left _ hle
 exact Nat.le_trans (Nat.le_of_mul_le_mul_right h1 p2) hX
theorem uD {B D m:Int} {N:Nat} (hN:(N:Int)=B*D) (B0:0<B) (m0:0<=m) (m1:m<=D):(2*m*B-B*D).natAbs<=N:=by
 have k1:0<=m*B:=Int.mul_nonneg m0 (Int.le_of_lt B0)
 have k2:m*B<=D*B:=Int.mul_le_mul_of_nonneg_right m1 (Int.le_of_lt B0)
 have k4:D*B=B*D:=Int.mul_comm _ _
 have k5:2*m*B=2*(m*B):=Int.mul_assoc _ _ _
 rw [k5]
 generalize m*B=x at *
 generalize B*D=y at *
 omega
theorem Dya.bits {kb d:Nat} {l1 l2 h1 h2:Int} (h:Dya (2^kb) d l1 l2 h1 h2):(l1.natAbs<=2^(kb+d)/\l2.natAbs<=2^(kb+d))/\h1.natAbs<=2^(kb+d)/\h2.natAbs<=2^(kb+d):=by
 obtain ⟨l2p,h2p,gl,gh,m,m0,m1,e1,e2⟩:=h
 have B0:(0:Int)<2^kb:=Int.pow_pos (by decide)
 have eq:(((2:Nat)^(kb+d):Nat):Int)=2^kb*2^d:=by rw [Int.natCast_pow,Int.pow_add];rfl
 exact ⟨wj l2p gl e1 (uD eq B0 m0 (by omega)) (by omega),wj h2p gh e2 (uD eq B0 (by omega) m1) (by omega)⟩
theorem Dya.width {B:Int} {d:Nat} {l1 l2 h1 h2:Int} (h:Dya B d l1 l2 h1 h2):(h1*l2-l1*h2)*2^d=2*B*(l2*h2):=by
 obtain ⟨l2p,h2p,gl,gh,m,m0,m1,e1,e2⟩:=h
 grind
theorem Dya.lt {B:Int} (hB:0<B) {d:Nat} {l1 l2 h1 h2:Int} (h:Dya B d l1 l2 h1 h2):l1*h2<h1*l2:=by
 have w:=h.width
 have p:(0:Int)<2^d:=Int.pow_pos (by decide)
 have q:0<2*B*(l2*h2):=Int.mul_pos (by omega) (Int.mul_pos h.l2p h.h2p)
 rw [<- w] at q
 have:0<h1*l2-l1*h2:=Int.not_le.mp fun z=>by
  have:=Int.mul_nonpos_of_nonpos_of_nonneg z (Int.le_of_lt p)
  omega
 omega
theorem Dya.start {B:Int}:Dya B 0 (-B) 1 B 1:=⟨by decide,by decide,Nat.gcd_one_right _,Nat.gcd_one_right _,0,by decide,by decide,by grind,by grind⟩
theorem Dya.half {B:Int} {d:Nat} {l1 l2 h1 h2 c1 c2:Int} (h:Dya B d l1 l2 h1 h2) (c2p:0<c2) (gc:Nat.gcd c1.natAbs c2.natAbs=1) (e:c1*(2*l2*h2)=(l1*h2+h1*l2)*c2):Dya B (d+1) l1 l2 c1 c2/\Dya B (d+1) c1 c2 h1 h2:=by
 obtain ⟨l2p,h2p,gl,gh,m,m0,m1,e1,e2⟩:=h
 have ec:c1*2^(d+1)=(2*(2*m+1)*B-B*2^(d+1))*c2:=by
  have hp:0<l2*h2:=Int.mul_pos l2p h2p
  refine Int.eq_of_mul_eq_mul_right (a:=l2*h2) (by omega) ?_
  rw [Int.pow_succ]
  have q1:c1*(2^d*2)*(l2*h2)=c1*(2*l2*h2)*2^d:=by grind
  rw [q1,e]
  have q2:(l1*h2+h1*l2)*c2*2^d=(l1*2^d*h2+h1*2^d*l2)*c2:=by grind
  rw [q2,e1,e2]
  grind
 have p2:(2:Int)^(d+1)=2^d*2:=Int.pow_succ ..
 refine ⟨⟨l2p,c2p,gl,gc,2*m,by omega,by omega,?_,ec⟩,⟨c2p,h2p,gc,gh,2*m+1,by omega,by omega,ec,?_⟩⟩
 ·rw [p2,<- Int.mul_assoc,e1];grind
 ·rw [p2,<- Int.mul_assoc,e2];grind
end RM
namespace RM
def prQ (fs:List (List Int)):List Int:=cF [1] (fs.map aK)
structure Fam (fs:List (List Int)):Prop where
 fac:∀ f∈fs,FacG f
 nd:(fs.map aK).Nodup
variable {fs:List (List Int)}
theorem Fam.q (h:Fam fs):∀ f∈fs,gN f:=fun f hf=>(h.fac f hf).q
theorem Fam.pri (h:Fam fs):∀ s∈fs.map aK,Pri s:=fun s hs=>by
 obtain ⟨f,hf,rfl⟩:=List.mem_map.mp hs
 exact jv (h.fac f hf)
theorem Fam.prd (h:Fam fs):prQ fs=prd (fs.map aK):=Ae h.pri
theorem Fam.pln (h:Fam fs):Pln (prQ fs):=by rw [h.prd];exact oy _ fun s hs=>(h.pri s hs).pln
theorem Fam.one (h:Fam fs):ad [1] (prQ fs)=prQ fs:=one_mul _ h.pln.tr
theorem Fam.sign (h:Fam fs) {t n:Int} (hn:0<n):sg (hv t n (prQ fs))=spr t n (cs fs):=by
 have:=Ad (t:=t) (n:=n) (c:=1) hn h.q
 rw [show ad [1] (cF [1] (fs.map aK))=cF [1] (fs.map aK) from h.one] at this
 rw [show sg 1=1 from rfl,Int.one_mul] at this
 exact this
theorem lV {t n:Int}:∀ {ls:List (List Int)},spr t n ls=0->∃ s∈ls,aC s t n=0
 | [],h=>by cases h
 | l::ls,h=>by
   rcases Int.mul_eq_zero.mp (show -aC l t n*spr t n ls=0 from h) with z | z
   ·exact ⟨l,List.mem_cons_self ..,by omega⟩
   ·obtain ⟨s,hs,e⟩:=lV z
    exact ⟨s,List.mem_cons_of_mem _ hs,e⟩
theorem Fam.sub {fs gs:List (List Int)} (h:Fam fs) (s:gs.Sublist fs):Fam gs:=⟨fun f hf=>h.fac f (s.subset hf),h.nd.sublist (s.map _)⟩
theorem Fam.single (h:Fam fs) {f:List Int} (hf:f∈fs):Fam [f]:=h.sub (List.singleton_sublist.mpr hf)
theorem oz {f:List Int} (h:Fam [f]):prQ [f]=aK f:=by
 rw [h.prd]
 show ad (aK f) [1]=_
 exact oU _
structure OneS (fs:List (List Int)) (f0 s0:List Int) (l1 l2 h1 h2:Int):Prop where
 fam:Fam fs
 mem:f0∈fs
 sp:s0∈spF f0
 l2p:0<l2
 h2p:0<h2
 lt:l1*h2<h1*l2
 inn:0<aC s0 l1 l2/\aC s0 h1 h2<=0
 only:∀ s∈cs fs,0<aC s l1 l2->aC s h1 h2<=0->s=s0
variable {f0 s0:List Int} {l1 l2 h1 h2:Int}
theorem yz {s:List Int} (hs:Spt s) {t n t' n':Int} (hn:0<n) (hn':0<n') (h:t*n'<=t'*n) (hz:aC s t n<=0):aC s t' n'<=0:=by
 rcases Int.lt_or_eq_of_le h with w | w
 ·have:=mv hs hn hn' w hz;omega
 ·rw [<- tj s hn hn' w];exact hz
theorem OneS.zero (h:OneS fs f0 s0 l1 l2 h1 h2) {x1 x2:Int} (x2p:0<x2) (a:l1*x2<x1*l2) (b:x1*h2<=h1*x2) (z:hv x1 x2 (prQ fs)=0):aC s0 x1 x2=0:=by
 have hs:=h.fam.sign (t:=x1) (n:=x2) x2p
 rw [z] at hs
 obtain ⟨s,hm,hz⟩:=lV (show spr x1 x2 (cs fs)=0 from hs.symm)
 have hS:=lW h.fam.q hm
 have e:s=s0:=by
  refine h.only s hm (Int.not_le.mp fun w=>?_) (yz hS x2p h.h2p b (by omega))
  have:=mv hS h.l2p x2p a w
  omega
 rw [<- e];exact hz
theorem lZ {u e b:Int} {s:List Int} (h:s∈spF [u,e,b]):∃ σ:Int,s=[u,e,b,σ]/\(σ=1/\0<=e\/σ = -1/\0<e):=by
 unfold spF at h
 rcases List.mem_append.mp h with w | w
 ·split at w
  ·rename_i he
   exact ⟨1,List.mem_singleton.mp w,.inl ⟨rfl,he⟩⟩
  ·cases w
 ·split at w
  ·rename_i he
   exact ⟨-1,List.mem_singleton.mp w,.inr ⟨rfl,he⟩⟩
  ·cases w
theorem iK {u e b σ t n:Int} (hNS:NS e) (he:0<e) (hn:0<n):aC [u,e,b,σ] t n≠0:=fun z=>by
 unfold aC at z
 have key:∀ d:Int,aY (e*n*n) d=0->False:=fun d hd=>by
  rcases cr (e*n*n) d with ⟨c,_⟩ | ⟨_,_,c⟩ | ⟨c,_⟩
  ·omega
  ·exact hNS.no (x:=n) (y:=d) (by omega) (by omega) (by rw [c];grind)
  ·omega
 split at z
 ·exact key _ z
 ·exact key _ (by have:0-aY (e*n*n) (0-(b*t-u*n))=0:=z;show aY (e*n*n) (0-(b*t-u*n))=0;omega)
theorem Fh {u e b:Int} (h:FacG [u,e,b]):1<=b/\NS e:=by
 obtain ⟨u',e',b',he,_,_,_,_,h5,_,h7⟩:=h
 cases he;exact ⟨h5,h7⟩
theorem OneS.cases (h:OneS fs f0 s0 l1 l2 h1 h2):∃ u e b σ:Int,f0=[u,e,b]/\s0=[u,e,b,σ]/\1<=b/\NS e/\(σ=1/\e=0\/(σ=1\/σ = -1)/\0<e):=by
 obtain ⟨u,e,b,rfl,_⟩:=h.fam.fac f0 h.mem
 obtain ⟨hb,hn⟩:=Fh (h.fam.fac _ h.mem)
 obtain ⟨σ,rfl,hσ⟩:=lZ h.sp
 refine ⟨u,e,b,σ,rfl,rfl,hb,hn,?_⟩
 rcases hσ with ⟨a,c⟩ | ⟨a,c⟩
 ·rcases Int.lt_or_eq_of_le c with w | w
  ·exact .inr ⟨.inl a,w⟩
  ·exact .inl ⟨a,w.symm⟩
 ·exact .inr ⟨.inr a,c⟩
theorem OneS.none (h:OneS fs f0 s0 l1 l2 h1 h2) {u e b σ:Int} (ef:s0=[u,e,b,σ]) (hN:NS e) (he:0<e) {x1 x2:Int} (x2p:0<x2) (a:l1*x2<x1*l2) (c:x1*h2<=h1*x2):hv x1 x2 (prQ fs)≠0:=fun z=>by
 have:=h.zero x2p a c z
 rw [ef] at this
 exact iK hN he x2p this
end RM
namespace RM
theorem NS.irr {e:Int} (h:NS e) (he:0<e) (q:Rat):q*q≠(e:Rat):=fun z=>by
 have hn:=oM q
 have hd:=dD q
 refine h.no (x:=(q.den:Int)) (y:=q.num) (by omega) (by omega) ?_
 refine Rat.intCast_inj.mp ?_
 rw [Rat.intCast_mul,Rat.intCast_mul,Rat.intCast_mul,hn,<- z]
 grind
end RM
namespace RM
variable {fs:List (List Int)} {f0 s0:List Int} {l1 l2 h1 h2:Int}
theorem yn {u e b σ:Int} {f:List Int} (hf:gN f) (h:[u,e,b,σ]∈spF f):f=[u,e,b]:=by
 obtain ⟨u',e',b',rfl,_⟩:=hf
 obtain ⟨σ',eq,_⟩:=lZ h
 cases eq;rfl
theorem lY {u e b:Int} (he:0<e):spF [u,e,b]=[[u,e,b,1],[u,e,b,-1]]:=by
 show (if 0<=e then [[u,e,b,1]] else [])++(if 0<e then [[u,e,b,-1]] else [])=_
 rw [if_pos (by omega),if_pos he];rfl
theorem lX {u b:Int}:spF [u,0,b]=[[u,0,b,1]]:=by
 show (if (0:Int)<=0 then [[u,0,b,1]] else [])++(if (0:Int)<0 then [[u,0,b,-1]] else [])=_
 rw [if_pos (by decide),if_neg (by decide)];rfl
theorem iD (f:List Int):cs [f]=spF f:=by show spF f++[]=_;rw [List.append_nil]
theorem OneS.sq (h:OneS fs f0 s0 l1 l2 h1 h2) (hl0:(aK f0).length=3) {E:List Int} (hE:Pln E) (hl:E.length=3) (hd:Dv E (prQ fs)):∃ gs,Fam gs/\(∀ g∈gs,g∈fs)/\gs.length<=2/\E=prQ gs/\(cH (cs gs) l1 l2 h1 h2=1->E=aK f0):=by
 have hF:=h.fam
 have hs0:∀ gs:List (List Int),Fam gs->(∀ g∈gs,g∈fs)->cH (cs gs) l1 l2 h1 h2=1->f0∈gs:=fun gs hG hsub hc=>by
  obtain ⟨pre,s,post,eq,hin,_⟩:=wB hc
  have hm:s∈cs gs:=by rw [eq];simp
  obtain ⟨f,hf,hsf⟩:=List.mem_flatMap.mp hm
  have e1:=h.only s (List.mem_flatMap.mpr ⟨f,hsub f hf,hsf⟩) hin.1 hin.2
  obtain ⟨u,e,b,σ,ef,es,_⟩:=h.cases
  rw [e1,es] at hsf
  have:=yn (hG.q f hf) hsf
  rw [ef,<- this];exact hf
 rw [hF.prd] at hd
 rcases Gd hF.pri hF.nd hE hl hd with hm | ⟨p,q,hp,hq,hne,eE⟩
 ·obtain ⟨f,hf,rfl⟩:=List.mem_map.mp hm
  have hG:=hF.single hf
  refine ⟨[f],hG,fun g hg=>by rw [List.mem_singleton.mp hg];exact hf,by simp,(oz hG).symm,fun hc=>?_⟩
  have:=hs0 [f] hG (fun g hg=>by rw [List.mem_singleton.mp hg];exact hf) hc
  rw [List.mem_singleton.mp this]
 ·obtain ⟨f,hf,rfl⟩:=List.mem_map.mp hp
  obtain ⟨f',hf',rfl⟩:=List.mem_map.mp hq
  have hsub:∀ g∈[f,f'],g∈fs:=fun g hg=>by
   rcases List.mem_cons.mp hg with rfl | w
   ·exact hf
   ·rw [List.mem_singleton.mp w];exact hf'
  have hG:Fam [f,f']:=⟨fun g hg=>hF.fac g (hsub g hg),by simp;exact hne⟩
  have eP:E=prQ [f,f']:=by
   rw [hG.prd,eE]
   show _=ad (aK f) (ad (aK f') [1])
   rw [oU]
  refine ⟨[f,f'],hG,hsub,by simp,eP,fun hc=>?_⟩
  have hm:=hs0 [f,f'] hG hsub hc
  have n1:=(jv (hF.fac f hf))
  have n2:=(jv (hF.fac f' hf'))
  have hlen:=bQ n1.pln.ne n2.pln.ne
  rw [<- eE,hl] at hlen
  have t1:=n1.two
  have t2:=n2.two
  rcases List.mem_cons.mp hm with rfl | w
  ·omega
  ·rw [List.mem_singleton.mp w] at hl0;omega
theorem OneS.low (h:OneS fs f0 s0 l1 l2 h1 h2):sg (hv l1 l2 (aK f0))≠0:=by
 have hG:=h.fam.single h.mem
 rw [<- oz hG,hG.sign h.l2p,iD]
 obtain ⟨u,e,b,σ,rfl,rfl,hb,hN,hc⟩:=h.cases
 intro z
 obtain ⟨s,hs,hz⟩:=lV z
 have hin:=h.inn.1
 rcases hc with ⟨rfl,rfl⟩ | ⟨hσ,he⟩
 ·rw [lX] at hs
  rw [List.mem_singleton.mp hs] at hz
  omega
 ·obtain ⟨τ,rfl,_⟩:=lZ hs
  exact iK hN he h.l2p hz
end RM
namespace RM
theorem rM:∀ e:Nat,∃ n:Nat,n*n<=e/\e<(n+1)*(n+1)
 | 0=>⟨0,by decide,by decide⟩
 | e+1=>by
   obtain ⟨n,h1,h2⟩:=rM e
   by_cases h:e+1<(n+1)*(n+1)
   ·exact ⟨n,by omega,h⟩
   ·refine ⟨n+1,by omega,?_⟩
    have e1:(n+1+1)*(n+1+1)=(n+1)*(n+1)+2*(n+1)+1:=by grind
    omega
theorem oN {d:Int} (h:NSq d) (v:Int):NS (d*v*v):=by
 by_cases hv:v=0
 ·left;rw [hv];omega
 ·right
  have hp:0<d*v*v:=by
   rw [Int.mul_assoc]
   refine Int.mul_pos h.1 ?_
   rcases Int.lt_or_gt_of_ne hv with z | z
   ·exact Int.mul_pos_of_neg_of_neg z z
   ·exact Int.mul_pos z z
  obtain ⟨n,h1,h2⟩:=rM (d*v*v).toNat
  have h3:((n*n:Nat):Int)=(n:Int)*(n:Int):=Int.natCast_mul _ _
  have h4:(((n+1)*(n+1):Nat):Int)=((n:Int)+1)*((n:Int)+1):=by rw [Int.natCast_mul];rfl
  have ne:=h.2 (n:Int) v hv
  refine ⟨n,by omega,?_,?_⟩
  ·omega
  ·omega
def aS (v:Int):Int:=if v<0 then -1 else 1
theorem sZ {u v w d x1 x2:Int} (hd:NSq d) (x2p:0<x2):0<aC [u,d*v*v,w,aS v] x1 x2↔0<sgq (u*x2-x1*w) (v*x2) d:=by
 have eq:d*v*v*x2*x2=d*(v*x2)*(v*x2):=by grind
 have ne:v≠0->(u*x2-x1*w)*(u*x2-x1*w)≠d*(v*x2)*(v*x2):=fun hv=>hd.2 _ _ (Int.mul_ne_zero hv (by omega))
 unfold aC aS
 by_cases hv:v<0
 ·rw [if_pos hv,if_neg (show ¬ (0:Int)<cf [u,d*v*v,w,-1] 3 from (by decide:¬ (0:Int) < -1))]
  show 0<0-aY (d*v*v*x2*x2) (0-(w*x1-u*x2))↔_
  rw [eq]
  have eA:0-(w*x1-u*x2)=u*x2-x1*w:=by grind
  rw [eA]
  have hvx:v*x2<0:=Int.mul_neg_of_neg_of_pos hv x2p
  have hne:=ne (by omega)
  generalize u*x2-x1*w=A at *
  generalize v*x2=B at *
  rcases Int.lt_or_le 0 A with z | z
  ·rw [d7 z hvx]
   rcases cr (d*B*B) A with ⟨c,h1⟩ | ⟨c,_,h1⟩ | ⟨c,_,h1⟩
   ·rw [c,if_pos (by omega)];omega
   ·exact absurd h1 hne
   ·rw [c,if_neg (by omega)];omega
  ·rw [cn z (by omega) (.inr hvx)]
   rcases cr (d*B*B) A with ⟨c,h1⟩ | ⟨c,_,h1⟩ | ⟨c,h0,h1⟩
   ·rw [c];omega
   ·exact absurd h1 hne
   ·have:A=0:=by omega
    subst this
    have h5:0<d*B*B:=by rw [Int.mul_assoc];exact Int.mul_pos hd.1 (Int.mul_pos_of_neg_of_neg hvx hvx)
    omega
 ·rw [if_neg hv,if_pos (show (0:Int)<cf [u,d*v*v,w,1] 3 from (by decide:(0:Int)<1))]
  show 0<aY (d*v*v*x2*x2) (w*x1-u*x2)↔_
  rw [eq]
  have eA:w*x1-u*x2 = -(u*x2-x1*w):=by grind
  rw [eA]
  have hvx:0<=v*x2:=Int.mul_nonneg (by omega) (by omega)
  have hz:v=0->v*x2=0:=fun h=>by rw [h,Int.zero_mul]
  have hp:v≠0->0<v*x2:=fun h=>Int.mul_pos (by omega) x2p
  generalize u*x2-x1*w=A at *
  generalize v*x2=B at *
  have sqA : -A * -A=A*A:=by grind
  by_cases h0:v=0
  ·have hB:=hz h0
   subst hB
   have e0:d*0*0=0:=by omega
   rw [e0]
   rcases Int.lt_trichotomy A 0 with z | z | z
   ·rw [cn (by omega) (Int.le_refl _) (.inl z)]
    rcases cr 0 (-A) with ⟨c,h1 | h1⟩ | ⟨c,_,h1⟩ | ⟨c,_,h1⟩
    ·omega
    ·have:=Int.mul_pos_of_neg_of_neg z z;omega
    ·rw [c];omega
    ·rw [c]
   ·subst z
    have a1:aY 0 (-0)=0:=by decide
    rw [a1,iO]
   ·rw [cB (by omega) (Int.le_refl _) (.inl z)]
    unfold aY
    rw [if_pos (.inl (by omega))]
  ·have hB:=hp h0
   have hne:=ne h0
   have hpos:0<d*B*B:=by rw [Int.mul_assoc];exact Int.mul_pos hd.1 (Int.mul_pos hB hB)
   rcases Int.lt_or_le A 0 with z | z
   ·rw [d8 z hB]
    rcases cr (d*B*B) (-A) with ⟨c,h1 | h1⟩ | ⟨c,_,h1⟩ | ⟨c,_,h1⟩
    ·omega
    ·rw [c,if_neg (by omega)]
    ·exact absurd (by omega) hne
    ·rw [c,if_pos (by omega)]
   ·rw [cB z (by omega) (.inr hB)]
    have:aY (d*B*B) (-A)=1:=by
     unfold aY
     rw [if_pos]
     rcases Int.lt_or_eq_of_le z with y | y
     ·exact .inl (by omega)
     ·right;rw [<- y];omega
    rw [this]
theorem wC {l1 l2 h1 h2:Int}:∀ {ls:List (List Int)},(∀ x∈ls,¬ (0<aC x l1 l2/\aC x h1 h2<=0))->cH ls l1 l2 h1 h2=0
 | [],_=>rfl
 | l::ls,h=>by rw [dS,if_neg (h l (List.mem_cons_self ..)),wC fun x hx=>h x (List.mem_cons_of_mem _ hx)];rfl
theorem wD (l1 l2 h1 h2:Int):∀ a b:List (List Int),cH (a++b) l1 l2 h1 h2=cH a l1 l2 h1 h2+cH b l1 l2 h1 h2
 | [],b=>by rw [List.nil_append];show _=0+_;omega
 | x::a,b=>by rw [List.cons_append,dS,dS,wD l1 l2 h1 h2 a b];omega
theorem rT (f:List Int) (fs:List (List Int)):cs (f::fs)=spF f++cs fs:=rfl
theorem AL {u v w d l1 l2 h1 h2:Int} {rs:List (List Int)} (hd:NSq d) (hF:Fam ([u,d*v*v,w]::rs)) (l2p:0<l2) (h2p:0<h2) (lt:l1*h2<h1*l2) (lo:0<sgq (u*l2-l1*w) (v*l2) d) (hi:¬ 0<sgq (u*h2-h1*w) (v*h2) d) (ol:0<v->u*l2<=l1*w) (oh:v<0->h1*w<=u*h2) (hno:∀ x∈cs rs,¬ (0<aC x l1 l2/\aC x h1 h2<=0)) :
 OneS ([u,d*v*v,w]::rs) [u,d*v*v,w] [u,d*v*v,w,aS v] l1 l2 h1 h2/\cH (cs ([u,d*v*v,w]::rs)) l1 l2 h1 h2=1:=by
 have lo':=(sZ (u:=u) (v:=v) (w:=w) (d:=d) (x1:=l1) hd l2p).mpr lo
 have hi':aC [u,d*v*v,w,aS v] h1 h2<=0:=Int.not_lt.mp fun z=>hi ((sZ hd h2p).mp z)
 have key:aS v=1/\spF [u,d*v*v,w]=[[u,d*v*v,w,1]]/\v=0\/aS v=1/\spF [u,d*v*v,w]=[[u,d*v*v,w,1],[u,d*v*v,w,-1]]/\¬ (0<aC [u,d*v*v,w,-1] l1 l2/\aC [u,d*v*v,w,-1] h1 h2<=0)\/aS v = -1/\spF [u,d*v*v,w]=[[u,d*v*v,w,1],[u,d*v*v,w,-1]]/\¬ (0<aC [u,d*v*v,w,1] l1 l2/\aC [u,d*v*v,w,1] h1 h2<=0):=by
  by_cases hv:v=0
  ·left
   subst hv
   have e0:d*0*0=0:=by omega
   rw [e0]
   exact ⟨rfl,lX,rfl⟩
  ·have he:0<d*v*v:=by
    rw [Int.mul_assoc]
    refine Int.mul_pos hd.1 ?_
    rcases Int.lt_or_gt_of_ne hv with z | z
    ·exact Int.mul_pos_of_neg_of_neg z z
    ·exact Int.mul_pos z z
   right
   rcases Int.lt_or_gt_of_ne hv with z | z
   ·right
    refine ⟨by unfold aS;rw [if_pos z],lY he,fun hh=>?_⟩
    have h5:=oh z
    have:aC [u,d*v*v,w,1] h1 h2=1:=by
     unfold aC
     rw [if_pos (show (0:Int)<cf [u,d*v*v,w,1] 3 from (by decide:(0:Int)<1))]
     show aY (d*v*v*h2*h2) (w*h1-u*h2)=1
     unfold aY
     rw [if_pos]
     have e1:w*h1=h1*w:=Int.mul_comm _ _
     rcases Int.lt_or_eq_of_le h5 with y | y
     ·exact .inl (by omega)
     ·right
      have:w*h1-u*h2=0:=by omega
      rw [this,Int.zero_mul]
      exact Int.mul_pos (Int.mul_pos he h2p) h2p
    omega
   ·left
    refine ⟨by unfold aS;rw [if_neg (by omega)],lY he,fun hh=>?_⟩
    have h5:=ol z
    have:aC [u,d*v*v,w,-1] l1 l2 = -1:=by
     unfold aC
     rw [if_neg (show ¬ (0:Int)<cf [u,d*v*v,w,-1] 3 from (by decide:¬ (0:Int) < -1))]
     show 0-aY (d*v*v*l2*l2) (0-(w*l1-u*l2)) = -1
     have:aY (d*v*v*l2*l2) (0-(w*l1-u*l2))=1:=by
      unfold aY
      rw [if_pos]
      have e1:w*l1=l1*w:=Int.mul_comm _ _
      rcases Int.lt_or_eq_of_le h5 with y | y
      ·exact .inl (by omega)
      ·right
       have:0-(w*l1-u*l2)=0:=by omega
       rw [this,Int.zero_mul]
       exact Int.mul_pos (Int.mul_pos he l2p) l2p
     omega
    omega
 have c0:cH (cs rs) l1 l2 h1 h2=0:=wC hno
 have e0:cH [] l1 l2 h1 h2=0:=rfl
 refine ⟨⟨hF,List.mem_cons_self ..,?_,l2p,h2p,lt,⟨lo',hi'⟩,fun s hs a b=>?_⟩,?_⟩
 ·rcases key with ⟨k1,k2,_⟩ | ⟨k1,k2,_⟩ | ⟨k1,k2,_⟩<;>rw [k1,k2]<;>simp
 ·rw [rT] at hs
  rcases List.mem_append.mp hs with z | z
  ·rcases key with ⟨k1,k2,_⟩ | ⟨k1,k2,k3⟩ | ⟨k1,k2,k3⟩
   ·rw [k2] at z;rw [k1];exact List.mem_singleton.mp z
   ·rw [k2] at z
    rw [k1]
    rcases List.mem_cons.mp z with y | y
    ·exact y
    ·rw [List.mem_singleton.mp y] at a b;exact absurd ⟨a,b⟩ k3
   ·rw [k2] at z
    rw [k1]
    rcases List.mem_cons.mp z with y | y
    ·rw [y] at a b;exact absurd ⟨a,b⟩ k3
    ·exact List.mem_singleton.mp y
  ·exact absurd ⟨a,b⟩ (hno s z)
 ·rw [rT,wD,c0]
  rcases key with ⟨k1,k2,_⟩ | ⟨k1,k2,k3⟩ | ⟨k1,k2,k3⟩
  ·rw [k1] at lo' hi'
   rw [k2,dS,if_pos ⟨lo',hi'⟩,e0];rfl
  ·rw [k1] at lo' hi'
   rw [k2,dS,dS,if_pos ⟨lo',hi'⟩,if_neg k3,e0];rfl
  ·rw [k1] at lo' hi'
   rw [k2,dS,dS,if_neg k3,if_pos ⟨lo',hi'⟩,e0];rfl
end RM
namespace RM
end RM
namespace RM
theorem yt {S q Q g:Rat} (hQ:0<Q) (hq:q<=Q) (h:g<=S*q) (hg:0<g) (hq0:0<q):g<=S*Q:=by
 have hS:0<S:=Rat.not_le.mp fun z=>by
  have:=Rat.mul_le_mul_of_nonneg_right z (Rat.le_of_lt hq0)
  grind
 have:=Rat.mul_le_mul_of_nonneg_left hq (Rat.le_of_lt hS)
 grind
theorem ip {a b c:Rat} (hc:0<c) (h:a*c<=b*c):a<=b:=Rat.not_lt.mp fun z=>by
 have:=Rat.mul_lt_mul_of_pos_right z hc
 grind
theorem xT {F0 F1 q:List Int} {r:List (List Int)} (h:SRow (F0::F1::r)) {γ:Rat} (hγ:0<γ) (hd:∀ x,pv (slopeL F0) x*pv q x=γ*pv F1 x) {R:Rat} (hR:0<=R) :
 ∃ δ:Rat,0<δ/\∀ x y,Bd R x->Bd R y->x<y->y-x<=δ->sgR (pv F0 x)≠0->sgR (pv F0 y)≠0->vrs (F0::F1::r) x-vrs (F0::F1::r) y=sgR (pv q x)*chg (pv F0) x y:=by
 obtain ⟨⟨δ1,d1,l1⟩,⟨δ2,d2,l2⟩⟩:=vk h R hR
 obtain ⟨A,B,k,nA,nB,hk,hAB⟩:=qt h rfl
 obtain ⟨δ3,κ,d3,hκ,l3⟩:=ur (cJ F0) (cJ F1) nA nB hk hAB hR
 obtain ⟨M,m0,m1⟩:=ua F0 R hR
 obtain ⟨Mq,q0,q1,_⟩:=cJ q R hR
 have hγκ:=Rat.mul_pos hγ hκ
 have hQ:0<Mq+1:=by grind
 have hM:0<M+1:=by grind
 have hT:=Rat.mul_pos hM hQ
 obtain ⟨δ,hδ,g1,g2,g3,g4⟩:∃ δ:Rat,0<δ/\δ<=δ1/\δ<=δ2/\δ<=δ3/\δ*((M+1)*(Mq+1))<=γ*κ:=by
  have hw:=c8 hγκ hT
  have hw2:γ*κ/((M+1)*(Mq+1))*((M+1)*(Mq+1))=γ*κ:=Rat.div_mul_cancel (by grind)
  have two:∀ u v:Rat,0<u->0<v->∃ w:Rat,0<w/\w<=u/\w<=v:=fun u v hu hv=>by
   rcases Rat.le_total (a:=u) (b:=v) with z | z
   ·exact ⟨u,hu,Rat.le_refl,z⟩
   ·exact ⟨v,hv,z,Rat.le_refl⟩
  obtain ⟨u,hu,u1,u2⟩:=two δ1 δ2 d1 d2
  obtain ⟨v,hv,v1,v2⟩:=two u δ3 hu d3
  obtain ⟨w,hw',w1,w2⟩:=two v _ hv hw
  refine ⟨w,hw',by grind,by grind,by grind,?_⟩
  have:=Rat.mul_le_mul_of_nonneg_right w2 (Rat.le_of_lt hT)
  rwa [hw2] at this
 refine ⟨δ,hδ,fun x y hx hy hxy hyd nx ny=>?_⟩
 have e0:∀ z,vrs (F0::F1::r) z=vr (sgR (pv F0 z)) (sgX (F1::r) z):=fun z=>iz _
 have nz:∀ {v:Rat},sgR v≠0->sgR v=1\/sgR v = -1:=fun {v} hv=>by rcases g7 v with z | z | z;exact .inl z;exact absurd z hv;exact .inr z
 rw [e0,e0]
 by_cases s0:Sta (pv F0) x y
 ·have t:=(l1 x y hx hy hxy (by grind) F0 (F1::r) rfl s0).vr (nz s0.2) (tE _ _)
  rw [<- s0.1,t]
  unfold chg
  rw [if_neg (fun z=>z.2 s0.1.symm)];omega
 ·obtain ⟨s1,c1,c2⟩:=l3 x y hx hy hxy (by grind) s0
  have t:=(l2 x y hx hy hxy (by grind) F1 r rfl s1).vr (nz s1.2) (tE _ _)
  have hyx:0<y-x:=by grind
  obtain ⟨f1,f2⟩:=m1 x y hx hy (by grind)
  obtain ⟨b1,b2⟩:=q1 x hx
  have hdx:=hd x
  have ht2:(y-x)*(M+1)*(Mq+1)<=γ*κ:=by
   have:=Rat.mul_le_mul_of_nonneg_right hyd (Rat.le_of_lt hT)
   grind
  have hyy:0<(y-x)*(y-x):=Rat.mul_pos hyx hyx
  show vr (sgR (pv F0 x)) (sgR (pv F1 x)::sgX r x)-vr (sgR (pv F0 y)) (sgR (pv F1 y)::sgX r y)=_
  have hu:∀ (b s:Int) (l:List Int),s≠0->vr b (s::l)=(if s*b<0 then 1 else 0)+vr s l:=fun b s l hs=>by
   show _+vr (if s=0 then b else s) l=_
   rw [if_neg hs]
  have s1':sgR (pv F1 y)=sgR (pv F1 x):=s1.1.symm
  rw [s1',hu _ _ _ s1.2,hu _ _ _ s1.2,t]
  unfold chg
  generalize pv (slopeL F0) x=S at f1 f2 hdx
  have up:(y-x)*(M+1)<=S->pv F0 x<pv F0 y:=fun z=>by
   have:=Rat.mul_le_mul_of_nonneg_left z (Rat.le_of_lt hyx)
   grind
  have down:(y-x)*(M+1) <= -S->pv F0 y<pv F0 x:=fun z=>by
   have:=Rat.mul_le_mul_of_nonneg_left z (Rat.le_of_lt hyx)
   grind
  have key:∀ T qq:Rat,γ*κ<=T*qq->0<qq->qq<=Mq+1->(y-x)*(M+1)<=T:=fun T qq z1 z2 z3=>ip hQ (Rat.le_trans ht2 (yt hQ z3 z1 hγκ z2))
  have fin:∀ (D s:Int),sgR (pv F1 x)=D->(D=1\/D = -1)->sgR (pv q x)=s->(s=1\/s = -1)->(s*D=1->pv F0 x<pv F0 y)->(s*D = -1->pv F0 y<pv F0 x)->((if sgR (pv F1 x)*sgR (pv F0 x)<0 then 1 else 0)+vr (sgR (pv F1 x)) (sgX r y)-((if sgR (pv F1 x)*sgR (pv F0 y)<0 then 1 else 0)+vr (sgR (pv F1 x)) (sgX r y)):Int)=sgR (pv q x)*(if sgR (pv F0 x)≠0/\sgR (pv F0 y)≠sgR (pv F0 x) then 1 else 0):=fun D s eD hD es hs hup hdn=>by
   rw [eD,es]
   rcases bz (pv F0 x) with ⟨a1,a2⟩ | ⟨a1,a2⟩ | ⟨a1,a2⟩
   ·rcases bz (pv F0 y) with ⟨b1,b2⟩ | ⟨b1,b2⟩ | ⟨b1,b2⟩
    ·exact absurd ⟨by rw [a2,b2],by rw [a2];decide⟩ s0
    ·exact absurd b2 ny
    ·rw [a2,b2]
     rcases hD with rfl | rfl<;>rcases hs with rfl | rfl
     ·simp<;>omega
     ·have:=hdn (by decide);grind
     ·have:=hdn (by decide);grind
     ·simp<;>omega
   ·exact absurd a2 nx
   ·rcases bz (pv F0 y) with ⟨b1,b2⟩ | ⟨b1,b2⟩ | ⟨b1,b2⟩
    ·rw [a2,b2]
     rcases hD with rfl | rfl<;>rcases hs with rfl | rfl
     ·have:=hup (by decide);grind
     ·simp<;>omega
     ·simp<;>omega
     ·have:=hup (by decide);grind
    ·exact absurd b2 ny
    ·exact absurd ⟨by rw [a2,b2],by rw [a2];decide⟩ s0
  rcases c1 with z | z
  ·have h1:γ*κ<=γ*pv F1 x:=Rat.mul_le_mul_of_nonneg_left z (Rat.le_of_lt hγ)
   have eD:sgR (pv F1 x)=1:=by rcases bz (pv F1 x) with ⟨w,_⟩ | ⟨w,_⟩ | ⟨_,w⟩<;>grind
   rcases bz (pv q x) with ⟨w1,w2⟩ | ⟨w1,w2⟩ | ⟨w1,w2⟩
   ·refine fin 1 (-1) eD (.inl rfl) w2 (.inr rfl) (fun z=>by simp at z) (fun _=>down (key (-S) (-pv q x) ?_ (by grind) (by grind)))
    grind
   ·rw [w1] at hdx;grind
   ·refine fin 1 1 eD (.inl rfl) w2 (.inl rfl) (fun _=>up (key S (pv q x) ?_ w1 (by grind))) (fun z=>by simp at z)
    grind
  ·have h1:γ*κ<=γ*(-pv F1 x):=Rat.mul_le_mul_of_nonneg_left (by grind) (Rat.le_of_lt hγ)
   have eD:sgR (pv F1 x) = -1:=by rcases bz (pv F1 x) with ⟨_,w⟩ | ⟨w,_⟩ | ⟨w,_⟩<;>grind
   rcases bz (pv q x) with ⟨w1,w2⟩ | ⟨w1,w2⟩ | ⟨w1,w2⟩
   ·refine fin (-1) (-1) eD (.inr rfl) w2 (.inr rfl) (fun _=>up (key S (-pv q x) ?_ (by grind) (by grind))) (fun z=>by simp at z)
    grind
   ·rw [w1] at hdx;grind
   ·refine fin (-1) 1 eD (.inr rfl) w2 (.inl rfl) (fun z=>by simp at z) (fun _=>down (key (-S) (pv q x) ?_ w1 (by grind)))
    grind
theorem iq {C:Rat->Rat->Prop} {N:Rat->Prop} (hN:∀ a b,a<b->N a\/N b) (hadd:∀ x y z,x<y->y<z->N y->C x y->C y z->C x z) {δ a b:Rat} (h:∀ x y,a<=x->y<=b->x<y->y-x<=δ->N x->N y->C x y):∀ (n:Nat) (x y:Rat),a<=x->y<=b->x<y->N x->N y->y-x<=2^n*δ->C x y
 | 0,x,y,hx,hy,hxy,nx,ny,hd=>h x y hx hy hxy (by rw [Rat.pow_zero] at hd;grind) nx ny
 | n+1,x,y,hx,hy,hxy,nx,ny,hd=>by
   rw [Rat.pow_succ] at hd
   by_cases hm:N ((x+y)/2)
   ·have i1:=iq hN hadd h n x ((x+y)/2) hx (by grind) (by grind) nx hm (by grind)
    have i2:=iq hN hadd h n ((x+y)/2) y (by grind) hy (by grind) hm ny (by grind)
    exact hadd x _ y (by grind) (by grind) hm i1 i2
   ·have n1:N ((2*x+y)/3):=(hN ((2*x+y)/3) ((x+y)/2) (by grind)).resolve_right hm
    have n2:N ((x+2*y)/3):=(hN ((x+y)/2) ((x+2*y)/3) (by grind)).resolve_left hm
    have i1:=iq hN hadd h n x ((2*x+y)/3) hx (by grind) (by grind) nx n1 (by grind)
    have i2:=iq hN hadd h n ((2*x+y)/3) ((x+2*y)/3) (by grind) (by grind) (by grind) n1 n2 (by grind)
    have i3:=iq hN hadd h n ((x+2*y)/3) y (by grind) hy (by grind) n2 ny (by grind)
    exact hadd x _ y (by grind) (by grind) n1 i1 (hadd _ _ y (by grind) (by grind) n2 i2 i3)
theorem xU {F0 F1 q:List Int} {r:List (List Int)} (h:SRow (F0::F1::r)) {γ:Rat} (hγ:0<γ) (hd:∀ x,pv (slopeL F0) x*pv q x=γ*pv F1 x) {s:Rat->Int} (hs:Cut s) {ε:Int} (hε:ε=1\/ε = -1) {l k:Rat} (hlk:l<k) (hf:∀ x,l<=x->x<=k->sgR (pv F0 x)=ε*s x) (hl:s l=1) (hk:s k = -1)
 {τ:Int} {δ0:Rat} (hδ0:0<δ0) (hτ:∀ x y,l<=x->y<=k->x<y->y-x<=δ0->s x=1->s y = -1->sgR (pv q x)=τ):vrs (F0::F1::r) l-vrs (F0::F1::r) k=τ:=by
 obtain ⟨u,u0,u1⟩:=fH l
 obtain ⟨v,v0,v1⟩:=fH k
 have hbd:∀ x,l<=x->x<=k->Bd (u+v) x:=fun x a b=>by
  obtain ⟨c1,c2⟩:=u1
  obtain ⟨c3,c4⟩:=v1
  constructor<;>grind
 obtain ⟨δ1,d1,l1⟩:=xT h hγ hd (R:=u+v) (by grind)
 obtain ⟨δ,hδ,g1,g2⟩:∃ δ:Rat,0<δ/\δ<=δ0/\δ<=δ1:=by
  rcases Rat.le_total (a:=δ0) (b:=δ1) with z | z
  ·exact ⟨δ0,hδ0,Rat.le_refl,z⟩
  ·exact ⟨δ1,d1,z,Rat.le_refl⟩
 obtain ⟨n,hn⟩:=mr hδ (k-l)
 have res:=iq (C:=fun x y=>vrs (F0::F1::r) x-vrs (F0::F1::r) y=if s x=1/\s y = -1 then τ else 0) (N:=fun x=>s x≠0) (a:=l) (b:=k) (δ:=δ)
  (fun a b hab=>by
    by_cases z:s a=0
    ·right;rw [hs.m a b hab (by omega)];decide
    ·exact .inl z)
  (fun x y z hxy hyz hy c1 c2=>by
    rcases hs.u y with e | e | e
    ·have hx:s x=1:=by
      rcases hs.u x with a | a | a
      ·exact a
      ·have:=hs.m x y hxy (by omega);omega
      ·have:=hs.m x y hxy (by omega);omega
     rw [e] at c1 c2
     rw [hx] at c1 ⊢
     simp at c1 c2 ⊢
     omega
    ·exact absurd e hy
    ·have hz:=hs.m y z hyz (by omega)
     rw [e] at c1 c2
     rw [hz] at c2 ⊢
     simp at c1 c2 ⊢
     omega)
  (fun x y hx hy hxy hyd nx ny=>by
    have bx:=hbd x hx (by grind)
    have b_y:=hbd y (by grind) hy
    have fx:=hf x hx (by grind)
    have fy:=hf y (by grind) hy
    have ex0:sgR (pv F0 x)≠0:=by rw [fx];exact Int.mul_ne_zero (by omega) nx
    have ey0:sgR (pv F0 y)≠0:=by rw [fy];exact Int.mul_ne_zero (by omega) ny
    rw [l1 x y bx b_y hxy (by grind) ex0 ey0]
    unfold chg
    rcases hs.u x with a | a | a
    ·rcases hs.u y with b | b | b
     ·rw [if_neg (show ¬ (sgR (pv F0 x)≠0/\sgR (pv F0 y)≠sgR (pv F0 x)) from fun z=>z.2 (by rw [fx,fy,a,b])),if_neg (show ¬ (s x=1/\s y = -1) from fun z=>by omega)];omega
     ·exact absurd b ny
     ·rw [if_pos (show sgR (pv F0 x)≠0/\sgR (pv F0 y)≠sgR (pv F0 x) from ⟨ex0,by rw [fx,fy,a,b];rcases hε with rfl | rfl<;>decide⟩),if_pos ⟨a,b⟩,hτ x y hx hy hxy (by grind) a b];omega
    ·exact absurd a nx
    ·have b:=hs.m x y hxy (by omega)
     rw [if_neg (show ¬ (sgR (pv F0 x)≠0/\sgR (pv F0 y)≠sgR (pv F0 x)) from fun z=>z.2 (by rw [fx,fy,a,b])),if_neg (show ¬ (s x=1/\s y = -1) from fun z=>by omega)];omega)
  n l k Rat.le_refl Rat.le_refl hlk (by rw [hl];decide) (by rw [hk];decide) hn
 rw [res,if_pos ⟨hl,hk⟩]
end RM
namespace RM
def hpA (u v w d:Int):List Int->Int×Int×Int
 | []=>(0,0,1)
 | c::l=>((hpA u v w d l).1*u+(hpA u v w d l).2.1*v*d+c*(hpA u v w d l).2.2,(hpA u v w d l).1*v+(hpA u v w d l).2.1*u,(hpA u v w d l).2.2*w)
theorem li {u v w d:Int} (hw:0<w):∀ l,0<(hpA u v w d l).2.2
 | []=>by show (0:Int)<1;decide
 | c::l=>Int.mul_pos (li hw l) hw
theorem lg {u v w d:Int}:∀ l:List Int,∃ (b':Int) (F:Rat->Rat),Nice F/\(hpA u v w d l).2.1=b'*v/\∀ x:Rat,((hpA u v w d l).2.2:Rat)*pv l x=(w:Rat)*((((w:Rat)*x-u)*((w:Rat)*x-u)-(d:Rat)*v*v)*F x+((hpA u v w d l).1:Rat)+(b':Rat)*((w:Rat)*x-u))
 | []=>⟨0,fun _=>0,db 0,by show (0:Int)=0*v;omega,fun x=>by
  show ((1:Int):Rat)*0=(w:Rat)*(_*0+((0:Int):Rat)+((0:Int):Rat)*_)
  grind⟩
 | c::l=>by
   obtain ⟨b',F,nF,hb,hv⟩:=lg (u:=u) (v:=v) (w:=w) (d:=d) l
   refine ⟨(hpA u v w d l).1+b'*u,fun x=>F x*((w:Rat)*x)+(b':Rat),(nF.mul ((db (w:Rat)).mul nice_id)).add (db _),?_,fun x=>?_⟩
   ·show (hpA u v w d l).1*v+(hpA u v w d l).2.1*u=_
    rw [hb];grind
   ·have h:=hv x
    show (((hpA u v w d l).2.2*w:Int):Rat)*((c:Rat)+x*pv l x)=(w:Rat)*(_*(F x*((w:Rat)*x)+(b':Rat))+(((hpA u v w d l).1*u+(hpA u v w d l).2.1*v*d+c*(hpA u v w d l).2.2:Int):Rat)+(((hpA u v w d l).1+b'*u:Int):Rat)*_)
    rw [hb]
    simp only [Rat.intCast_add,Rat.intCast_mul]
    grind
theorem zx {z B:Rat} (hB:1<=B) (h:z*z<=B):Bd B z:=by
 constructor
 ·refine Rat.not_lt.mp fun y=>?_
  have:=Rat.mul_lt_mul_of_pos_right (show B < -z by grind) (show 0 < -z by grind)
  have:=Rat.mul_le_mul_of_nonneg_right hB (show 0 <= -z by grind)
  grind
 ·refine Rat.not_lt.mp fun y=>?_
  have:=Rat.mul_lt_mul_of_pos_right y (show 0<z by grind)
  have:=Rat.mul_le_mul_of_nonneg_right hB (show 0<=z by grind)
  grind
theorem vY {z:Rat} (hz:0<z) (h:1/4<=z*z):1/2<=z:=Rat.not_lt.mp fun y=>by
 have:=Rat.mul_lt_mul_of_pos_right y hz
 grind
theorem vZ {z:Rat} (h:z*z<=1/4):Bd (1/2) z:=by
 constructor
 ·refine Rat.not_lt.mp fun y=>?_
  have:=Rat.mul_lt_mul_of_pos_right (show 1/2 < -z by grind) (show 0 < -z by grind)
  grind
 ·refine Rat.not_lt.mp fun y=>?_
  have:=Rat.mul_lt_mul_of_pos_right y (show 0<z by grind)
  grind
theorem cK {a b:Int} (h:a<=b):(a:Rat)<=(b:Rat):=Rat.intCast_le_intCast.mpr h
theorem u7 {a b d:Int} (ha:0<a) (hd:0<=d) (hN:a*a≠d*b*b):∃ η:Rat,0<η/\∀ Z:Rat,Z<=0->Bd (1/4) (Z*Z-(d:Rat)*b*b)->(d*b*b<a*a->η<=a+Z)/\(a*a<d*b*b->η <= -(a+Z)):=by
 have hbb:0<=d*b*b:=by
  rw [Int.mul_assoc]
  refine Int.mul_nonneg hd ?_
  rcases Int.le_total 0 b with z | z
  ·exact Int.mul_nonneg z z
  ·exact Int.mul_nonneg_of_nonpos_of_nonpos z z
 have hB:(0:Rat)<=((d*b*b:Int):Rat):=cK (a:=0) hbb
 have ha':(1:Rat)<=(a:Rat):=cK (a:=1) (by omega)
 have eB:((d*b*b:Int):Rat)=(d:Rat)*b*b:=by simp only [Rat.intCast_mul]
 have eA:((a*a:Int):Rat)=(a:Rat)*a:=by simp only [Rat.intCast_mul]
 obtain ⟨G,hG⟩:∃ G:Rat,G=(a:Rat)+((d*b*b:Int):Rat)+1:=⟨_,rfl⟩
 have hGp:0<G:=by grind
 refine ⟨1/2/G,c8 (by grind) hGp,fun Z hZ hbd=>?_⟩
 have eη:1/2/G*G=1/2:=Rat.div_mul_cancel (by grind)
 have hη:=c8 (a:=1/2) (by grind) hGp
 generalize 1/2/G=η at eη hη
 obtain ⟨h1,h2⟩:=hbd
 obtain ⟨z1,z2⟩:=zx (z:=Z) (B:=((d*b*b:Int):Rat)+1) (by grind) (by rw [eB];grind)
 have aZ:0<(a:Rat)-Z:=by grind
 have aZ2:(a:Rat)-Z<=G:=by grind
 have prod:((a:Rat)+Z)*((a:Rat)-Z)=(a:Rat)*a-Z*Z:=by grind
 constructor
 ·intro hlt
  have h3:((d*b*b:Int):Rat)+1<=((a*a:Int):Rat):=by
   have:=cK (a:=d*b*b+1) (b:=a*a) (by omega)
   rwa [Rat.intCast_add] at this
  rw [eA,eB] at h3
  refine Rat.not_lt.mp fun y=>?_
  have q1:=Rat.mul_lt_mul_of_pos_right y aZ
  have q2:=Rat.mul_le_mul_of_nonneg_left aZ2 (Rat.le_of_lt hη)
  rw [prod] at q1
  rw [eη] at q2
  generalize (a:Rat)*a=A2 at *
  generalize (d:Rat)*b*b=D2 at *
  generalize Z*Z=Z2 at *
  generalize η*(a-Z)=E at *
  clear prod eη eA eB hB hG
  grind
 ·intro hlt
  have h3:((a*a:Int):Rat)+1<=((d*b*b:Int):Rat):=by
   have:=cK (a:=a*a+1) (b:=d*b*b) (by omega)
   rwa [Rat.intCast_add] at this
  rw [eA,eB] at h3
  refine Rat.not_lt.mp fun y=>?_
  have q1:=Rat.mul_lt_mul_of_pos_right y aZ
  have q2:=Rat.mul_le_mul_of_nonneg_left aZ2 (Rat.le_of_lt hη)
  have q3 : -((a:Rat)+Z)*(a-Z)=Z*Z-a*a:=by grind
  rw [q3] at q1
  rw [eη] at q2
  generalize (a:Rat)*a=A2 at *
  generalize (d:Rat)*b*b=D2 at *
  generalize Z*Z=Z2 at *
  generalize η*(a-Z)=E at *
  clear prod eη eA eB hB hG q3
  grind
theorem B5 {a b d:Int} (hd:NSq d) (h0:sgq a b d≠0):∃ η:Rat,0<η/\∀ Z:Rat,(b=0\/0<(b:Rat)*Z)->Bd (1/4) (Z*Z-(d:Rat)*b*b)->η<=(sgq a b d:Rat)*((a:Rat)+Z):=by
 have hd1:=hd.1
 by_cases hb:b=0
 ·subst hb
  refine ⟨1/2,by grind,fun Z _ hbd=>?_⟩
  obtain ⟨h1,h2⟩:=hbd
  obtain ⟨z1,z2⟩:=vZ (z:=Z) (by
   have:((0:Int):Rat)=0:=rfl
   rw [this] at h2;grind)
  rcases Int.lt_trichotomy a 0 with z | z | z
  ·rw [cn (by omega) (Int.le_refl _) (.inl z)]
   have:=cK (a:=a) (b := -1) (by omega)
   have e:((-1:Int):Rat) = -1:=rfl
   rw [e] at this ⊢;grind
  ·subst z;exact absurd (iO d) h0
  ·rw [cB (by omega) (Int.le_refl _) (.inl z)]
   have:=cK (a:=1) (b:=a) (by omega)
   have e:((1:Int):Rat)=1:=rfl
   rw [e] at this ⊢;grind
 ·have bb:1<=b*b:=by
   rcases Int.lt_or_gt_of_ne hb with z | z
   ·have:=Int.mul_pos_of_neg_of_neg z z;omega
   ·have:=Int.mul_pos z z;omega
  have dbb:1<=d*b*b:=by
   rw [Int.mul_assoc]
   have:=Int.mul_pos hd1 (show 0<b*b by omega)
   omega
  have eB:((d*b*b:Int):Rat)=(d:Rat)*b*b:=by simp only [Rat.intCast_mul]
  have dB:=cK dbb
  rw [eB] at dB
  have e1:((1:Int):Rat)=1:=rfl
  have e2:((-1:Int):Rat) = -1:=rfl
  rw [e1] at dB
  rcases Int.lt_or_gt_of_ne hb with z | z
  ·have zr:(b:Rat)<0:=Rat.intCast_lt_intCast.mpr z
   have sgnZ:∀ Z:Rat,(b=0\/0<(b:Rat)*Z)->Z<0:=fun Z h=>by
    rcases h with y | y
    ·exact absurd y hb
    ·refine Rat.not_le.mp fun x=>?_
     have:=Rat.mul_le_mul_of_nonneg_right (Rat.le_of_lt zr) x
     grind
   rcases Int.lt_or_le 0 a with y | y
   ·have hne:=hd.2 a b hb
    obtain ⟨η,hη,hh⟩:=u7 y (Int.le_of_lt hd1) hne
    refine ⟨η,hη,fun Z hZ hbd=>?_⟩
    obtain ⟨k1,k2⟩:=hh Z (Rat.le_of_lt (sgnZ Z hZ)) hbd
    rw [d7 y z]
    by_cases x:a*a<d*b*b
    ·rw [if_pos x,e2];have:=k2 x;grind
    ·rw [if_neg x,e1];have:=k1 (by omega);grind
   ·refine ⟨1/2,by grind,fun Z hZ hbd=>?_⟩
    have hz:=sgnZ Z hZ
    have:=vY (z := -Z) (by grind) (by obtain ⟨h1,h2⟩:=hbd;grind)
    rw [cn y (by omega) (.inr z),e2]
    have ya:=cK y
    have e0:((0:Int):Rat)=0:=rfl
    rw [e0] at ya;grind
  ·have zr:(0:Rat)<(b:Rat):=Rat.intCast_lt_intCast.mpr z
   have sgnZ:∀ Z:Rat,(b=0\/0<(b:Rat)*Z)->0<Z:=fun Z h=>by
    rcases h with y | y
    ·exact absurd y hb
    ·refine Rat.not_le.mp fun x=>?_
     have:=Rat.mul_le_mul_of_nonneg_left x (Rat.le_of_lt zr)
     grind
   rcases Int.lt_or_le a 0 with y | y
   ·have hne:=hd.2 a b hb
    obtain ⟨η,hη,hh⟩:=u7 (a := -a) (b:=b) (d:=d) (by omega) (Int.le_of_lt hd1) (by rw [Int.neg_mul_neg];exact hne)
    refine ⟨η,hη,fun Z hZ hbd=>?_⟩
    have hz:=sgnZ Z hZ
    obtain ⟨k1,k2⟩:=hh (-Z) (by grind) (by have : -Z * -Z=Z*Z:=by grind
                                           rw [this];exact hbd)
    rw [Int.neg_mul_neg] at k1 k2
    have en:((-a:Int):Rat) = -(a:Rat):=Rat.intCast_neg _
    rw [en] at k1 k2
    rw [d8 y z]
    by_cases x:a*a>d*b*b
    ·rw [if_pos x,e2];have:=k1 x;grind
    ·rw [if_neg x,e1];have:=k2 (by omega);grind
   ·refine ⟨1/2,by grind,fun Z hZ hbd=>?_⟩
    have hz:=sgnZ Z hZ
    have:=vY hz (by obtain ⟨h1,h2⟩:=hbd;grind)
    rw [cB y (by omega) (.inr z),e1]
    have ya:=cK y
    have e0:((0:Int):Rat)=0:=rfl
    rw [e0] at ya;grind
end RM
namespace RM
theorem f8 {v:Int} (h:0<v):(0:Rat)<(v:Rat):=Rat.intCast_lt_intCast.mpr h
theorem j1 {p q s t:Rat} (hp:0<=p) (hq:0<=q) (hs:0<s) (ht:0<t):∃ ε:Rat,0<ε/\ε*p<=s/\ε*q<=t:=by
 have k1:=c8 hs (show 0<p+1 by grind)
 have k2:=c8 ht (show 0<q+1 by grind)
 have f1:s/(p+1)*(p+1)=s:=Rat.div_mul_cancel (by grind)
 have f2:t/(q+1)*(q+1)=t:=Rat.div_mul_cancel (by grind)
 generalize s/(p+1)=A at *
 generalize t/(q+1)=C at *
 rcases Rat.le_total (a:=A) (b:=C) with z | z
 ·have:=Rat.mul_le_mul_of_nonneg_right z hq
  exact ⟨A,k1,by grind,by grind⟩
 ·have:=Rat.mul_le_mul_of_nonneg_right z hp
  exact ⟨C,k2,by grind,by grind⟩
theorem kJ {u v w d:Int} (hw:0<w) (hd:NSq d) {R ε:Rat} (hR:0<=R) (hε:0<ε):∃ δ:Rat,0<δ/\∀ x y:Rat,Bd R x->Bd R y->x<y->y-x<=δ->0<sdR [u,d*v*v,w,aS v] x->¬ 0<sdR [u,d*v*v,w,aS v] y->(v=0\/0<(v:Rat)*((w:Rat)*x-u))/\Bd ε (((w:Rat)*x-u)*((w:Rat)*x-u)-(d:Rat)*v*v):=by
 have hW:(1:Rat)<=(w:Rat):=cK (a:=1) (by omega)
 obtain ⟨U,U0,U1⟩:=fH (u:Rat)
 have hWR:=Rat.mul_nonneg (show (0:Rat)<=w by grind) hR
 obtain ⟨B,hB⟩:∃ B:Rat,B=(w:Rat)*R+U+1:=⟨_,rfl⟩
 have hB1:1<=B:=by grind
 obtain ⟨m,m0,m1,m2⟩:∃ m:Rat,0<m/\m<=1/2/\m*(2*B)<=ε:=by
  have h2:0<2*B:=by grind
  have hw:=c8 hε h2
  have hw2:ε/(2*B)*(2*B)=ε:=Rat.div_mul_cancel (by grind)
  rcases Rat.le_total (a:=ε/(2*B)) (b:=1/2) with z | z
  ·exact ⟨_,hw,z,by rw [hw2];exact Rat.le_refl⟩
  ·refine ⟨1/2,by grind,Rat.le_refl,?_⟩
   have:=Rat.mul_le_mul_of_nonneg_right z (Rat.le_of_lt h2)
   rw [hw2] at this;grind
 have eδ:m/(w:Rat)*(w:Rat)=m:=Rat.div_mul_cancel (by grind)
 refine ⟨m/(w:Rat),c8 m0 (by grind),fun x y hx hy hxy hyd sx sy=>?_⟩
 have bdX:∀ z:Rat,Bd R z->Bd B ((w:Rat)*z-u):=fun z hz=>by
  obtain ⟨a1,a2⟩:=hz
  obtain ⟨b1,b2⟩:=U1
  have c1:=Rat.mul_le_mul_of_nonneg_left a1 (show (0:Rat)<=w by grind)
  have c2:=Rat.mul_le_mul_of_nonneg_left a2 (show (0:Rat)<=w by grind)
  constructor<;>grind
 obtain ⟨X1,X2⟩:=bdX x hx
 obtain ⟨Y1,Y2⟩:=bdX y hy
 have hXY:(w:Rat)*x-u<(w:Rat)*y-u:=by
  have:=Rat.mul_lt_mul_of_pos_left hxy (show (0:Rat)<w by grind)
  grind
 have hYm:(w:Rat)*y-u<=(w:Rat)*x-u+m:=by
  have:=Rat.mul_le_mul_of_nonneg_right hyd (show (0:Rat)<=w by grind)
  rw [eδ] at this;grind
 have eE:((d*v*v:Int):Rat)=(d:Rat)*v*v:=by simp only [Rat.intCast_mul]
 have e1:v≠0->(1:Rat)<=(d:Rat)*v*v:=fun hv=>by
  rw [<- eE]
  refine cK (a:=1) ?_
  have:0<d*v*v:=by
   rw [Int.mul_assoc]
   refine Int.mul_pos hd.1 ?_
   rcases Int.lt_or_gt_of_ne hv with z | z
   ·exact Int.mul_pos_of_neg_of_neg z z
   ·exact Int.mul_pos z z
  omega
 by_cases hv:v<0
 ·have es:aS v = -1:=by unfold aS;rw [if_pos hv]
  rw [es] at sx sy
  rw [re,eE] at sx
  rw [re,eE] at sy
  have e1:=e1 (by omega)
  generalize (w:Rat)*x-u=X at *
  generalize (w:Rat)*y-u=Y at *
  generalize (d:Rat)*v*v=E at *
  obtain ⟨sx1,sx2⟩:=sx
  have vr:(v:Rat)<0:=Rat.intCast_lt_intCast.mpr hv
  have hX0:X<0:=Rat.not_le.mp fun z=>by
   have:X=0:=by grind
   subst this;grind
  have hY0:Y<=0:=Rat.not_lt.mp fun z=>by
   have q1 : -(1/2)<=X:=by grind
   have:=vZ (z:=X)
   have:=Rat.mul_le_mul_of_nonneg_left (show -X<=1/2 by grind) (show (0:Rat) <= -X by grind)
   grind
  have hYE:Y*Y<=E:=Rat.not_lt.mp fun z=>sy ⟨hY0,z⟩
  have q:=Rat.mul_le_mul_of_nonneg_left (show -X-Y<=2*B by grind) (show (0:Rat)<=Y-X by grind)
  have q2:=Rat.mul_le_mul_of_nonneg_right (show Y-X<=m by grind) (show (0:Rat)<=2*B by grind)
  have q3:(Y-X)*(-X-Y)=X*X-Y*Y:=by grind
  refine ⟨.inr ?_,?_,?_⟩
  ·have:=Rat.mul_pos (show 0 < -(v:Rat) by grind) (show 0 < -X by grind)
   grind
  ·grind
  ·grind
 ·have es:aS v=1:=by unfold aS;rw [if_neg hv]
  rw [es] at sx sy
  rw [rd,eE] at sx
  rw [rd,eE] at sy
  generalize (w:Rat)*x-u=X at *
  generalize (w:Rat)*y-u=Y at *
  have hY0:0<=Y:=Rat.not_lt.mp fun z=>sy (.inl z)
  have hYE:(d:Rat)*v*v<=Y*Y:=Rat.not_lt.mp fun z=>sy (.inr z)
  by_cases hv0:v=0
  ·have eV:(v:Rat)=0:=by rw [hv0];rfl
   rw [eV] at sx hYE ⊢
   have hX0:X<0:=by
    rcases sx with z | z
    ·exact z
    ·have:0<=X*X:=by
      rcases Rat.le_total (a:=0) (b:=X) with y | y
      ·exact Rat.mul_nonneg y y
      ·have:=Rat.mul_nonneg (show 0 <= -X by grind) (show 0 <= -X by grind);grind
     grind
   have q:=Rat.mul_le_mul_of_nonneg_left (show -X<=m by grind) (show (0:Rat) <= -X by grind)
   have q1:=Rat.mul_le_mul_of_nonneg_right (show -X<=m by grind) (Rat.le_of_lt m0)
   have q2:=Rat.mul_le_mul_of_nonneg_left (show m<=2*B by grind) (Rat.le_of_lt m0)
   have q4:=Rat.mul_nonneg (show 0 <= -X by grind) (show 0 <= -X by grind)
   refine ⟨.inl hv0,?_,?_⟩<;>grind
  ·have e1:=e1 hv0
   have vr:(0:Rat)<(v:Rat):=f8 (by omega)
   generalize (d:Rat)*v*v=E at *
   have hX0:0<X:=Rat.not_le.mp fun z=>by
    have:=Rat.mul_le_mul_of_nonneg_left (show Y<=1/2 by grind) hY0
    grind
   have hXE:X*X<E:=by
    rcases sx with z | z
    ·grind
    ·exact z
   have q:=Rat.mul_le_mul_of_nonneg_left (show X+Y<=2*B by grind) (show (0:Rat)<=Y-X by grind)
   have q2:=Rat.mul_le_mul_of_nonneg_right (show Y-X<=m by grind) (show (0:Rat)<=2*B by grind)
   have q3:(Y-X)*(X+Y)=Y*Y-X*X:=by grind
   refine ⟨.inr (Rat.mul_pos vr hX0),?_,?_⟩<;>grind
theorem uJ {u v w d:Int} (hw:0<w) (hd:NSq d) {q:List Int} (h0:sgq (hpA u v w d q).1 (hpA u v w d q).2.1 d≠0) {R:Rat} (hR:0<=R):∃ δ κ:Rat,0<δ/\0<κ/\∀ x y:Rat,Bd R x->Bd R y->x<y->y-x<=δ->0<sdR [u,d*v*v,w,aS v] x->¬ 0<sdR [u,d*v*v,w,aS v] y->κ<=(sgq (hpA u v w d q).1 (hpA u v w d q).2.1 d:Rat)*pv q x:=by
 obtain ⟨b',F,nF,hb,hv⟩:=lg (u:=u) (v:=v) (w:=w) (d:=d) q
 obtain ⟨η,hη,hn⟩:=B5 hd h0
 have mp:(0:Rat)<((hpA u v w d q).2.2:Rat):=Rat.intCast_lt_intCast.mpr (li hw q)
 have hτ:sgq (hpA u v w d q).1 (hpA u v w d q).2.1 d=1\/sgq (hpA u v w d q).1 (hpA u v w d q).2.1 d = -1:=by
  rcases iN (hpA u v w d q).1 (hpA u v w d q).2.1 d with z | z | z<;>omega
 generalize sgq (hpA u v w d q).1 (hpA u v w d q).2.1 d=τ at *
 generalize (hpA u v w d q).1=a at *
 generalize (hpA u v w d q).2.1=b at *
 generalize ((hpA u v w d q).2.2:Rat)=m at *
 have hW:(1:Rat)<=(w:Rat):=cK (a:=1) (by omega)
 obtain ⟨M,M0,hM,_⟩:=nF R hR
 have bb0:(0:Rat)<=(b':Rat)*b':=by
  rcases Rat.le_total (a:=0) (b:=(b':Rat)) with y | y
  ·exact Rat.mul_nonneg y y
  ·have:=Rat.mul_nonneg (show 0 <= -(b':Rat) by grind) (show 0 <= -(b':Rat) by grind);grind
 obtain ⟨ε,ε0,ε1,ε2⟩:=j1 bb0 M0 (show (0:Rat)<1/4 by grind) (show 0<η/2 by grind)
 obtain ⟨δ,δ0,hδ⟩:=kJ (u:=u) (v:=v) hw hd hR ε0
 have hκ:=c8 (Rat.mul_pos (show (0:Rat)<w by grind) (show 0<η/2 by grind)) mp
 have eκ:(w:Rat)*(η/2)/m*m=(w:Rat)*(η/2):=Rat.div_mul_cancel (by grind)
 refine ⟨δ,(w:Rat)*(η/2)/m,δ0,hκ,fun x y hx hy hxy hyd sx sy=>?_⟩
 generalize (w:Rat)*(η/2)/m=κ at *
 obtain ⟨p1,p2,p3⟩:=hδ x y hx hy hxy hyd sx sy
 have hvx:=hv x
 obtain ⟨F1,F2⟩:=hM x hx
 generalize (w:Rat)*x-u=X at *
 have nz:=hn ((b':Rat)*X) (by
  by_cases hb0:b=0
  ·exact .inl hb0
  ·right
   rcases p1 with z | z
   ·rw [z,Int.mul_zero] at hb;exact absurd hb hb0
   ·have:b'≠0:=fun y=>hb0 (by rw [hb,y,Int.zero_mul])
    have bb:(1:Rat)<=(b':Rat)*b':=by
     have:1<=b'*b':=by
      rcases Int.lt_or_gt_of_ne this with y | y
      ·have:=Int.mul_pos_of_neg_of_neg y y;omega
      ·have:=Int.mul_pos y y;omega
     have:=cK this
     rwa [Rat.intCast_mul] at this
    have:=Rat.mul_pos (show (0:Rat)<(b':Rat)*b' by grind) z
    rw [hb,Rat.intCast_mul];grind) (by
  rw [hb,Rat.intCast_mul]
  have q1:=Rat.mul_le_mul_of_nonneg_right p2 bb0
  have q2:=Rat.mul_le_mul_of_nonneg_right p3 bb0
  constructor<;>grind)
 have small : -(η/2)<=(τ:Rat)*((X*X-(d:Rat)*v*v)*F x):=by
  obtain ⟨t1,t2⟩:=Bd.mul ⟨p2,p3⟩ ⟨F1,F2⟩
  rcases hτ with z | z
  ·have:(τ:Rat)=1:=by rw [z];rfl
   rw [this];grind
  ·have:(τ:Rat) = -1:=by rw [z];rfl
   rw [this];grind
 have tot:η/2<=(τ:Rat)*((X*X-(d:Rat)*v*v)*F x+a+b'*X):=by
  generalize (X*X-(d:Rat)*v*v)*F x=G at *
  grind
 have:=Rat.mul_le_mul_of_nonneg_left tot (show (0:Rat)<=w by grind)
 have e2:(w:Rat)*((τ:Rat)*((X*X-(d:Rat)*v*v)*F x+a+b'*X))=(τ:Rat)*pv q x*m:=by
  have:(τ:Rat)*pv q x*m=(τ:Rat)*(m*pv q x):=by grind
  rw [this,hvx];grind
 rw [e2,<- eκ] at this
 exact ip mp this
end RM
namespace RM
theorem xX {p q:List Int} (hp:Pri p) (h:¬ Dv p q):Cop2 p (ad (slopeL p) q):=fun d dn dt h1 h2=>by
 refine Classical.byContradiction fun hl=>?_
 have p2:=hp.two
 obtain ⟨c,g,hc,gt,hg⟩:=h1.trim
 have gne:g≠[]:=fun z=>by
  subst z
  have:∀ n,cf p n=0:=fun n=>by
   have:=hg n
   rw [dd] at this
   exact (Int.mul_eq_zero.mp this).resolve_left hc
  exact fm hp.pln.tr hp.pln.ne (this _)
 have gl:=List.length_pos_iff.mpr gne
 have dl:=List.length_pos_iff.mpr dn
 have glt:g.length<p.length:=by
  have ht:=i6 (a:=g) (b:=d) (la:=g.length-1) (lb:=d.length-1) (by omega) (by omega)
  have nz:cf g (g.length-1)*cf d (d.length-1)≠0:=Int.mul_ne_zero (fm gt gne) (fm dt dn)
  rw [<- ht,<- hg] at nz
  have:g.length-1+(d.length-1)<p.length:=Classical.byContradiction fun z=>nz (by rw [bH (by omega),Int.mul_zero])
  omega
 have hm:Dv p (ad g d):=Dv.prop_right (x:=1) (y:=c) (by decide) (fun n=>by rw [aG,<- hg];omega) (Dv.refl p)
 rcases hp.or g d hm with z | z
 ·exact gne (Dv.short hp.pln.ne hp.pln.tr gt glt z)
 ·rcases hp.or _ _ (z.trans h2) with y | y
  ·have:=Dv.short hp.pln.ne hp.pln.tr (lM hp.pln.tr) (by rw [jh];omega) y
   have:=congrArg List.length this
   rw [jh] at this
   simp at this;omega
  ·exact h y
theorem kx (u e w:Int) (x:Rat):pv (aI u e w) x=if e=0 then (w:Rat)*x-u else ((w:Rat)*x-u)*((w:Rat)*x-u)-(e:Rat):=by
 unfold aI
 split
 ·show ((-u:Int):Rat)+x*((w:Rat)+x*0)=_
  rw [Rat.intCast_neg];grind
 ·show ((u*u-e:Int):Rat)+x*(((-2*w*u:Int):Rat)+x*(((w*w:Int):Rat)+x*0))=_
  have e2:((-2:Int):Rat) = -2:=rfl
  simp only [Rat.intCast_sub,Rat.intCast_mul,e2];grind
theorem FZ {u v w d:Int} (hw:0<w) (hd:NSq d) {q:List Int} (h:Dv (aK [u,d*v*v,w]) q) {l k:Rat} (hlk:l<k) (hl:0<sdR [u,d*v*v,w,aS v] l) (hk:¬ 0<sdR [u,d*v*v,w,aS v] k):sgq (hpA u v w d q).1 (hpA u v w d q).2.1 d=0:=by
 refine Classical.byContradiction fun h0=>?_
 obtain ⟨U,u0,u1⟩:=fH l
 obtain ⟨V,v0,v1⟩:=fH k
 have hR:0<=U+V:=by grind
 have hbd:∀ x,l<=x->x<=k->Bd (U+V) x:=fun x a b=>by
  obtain ⟨c1,c2⟩:=u1
  obtain ⟨c3,c4⟩:=v1
  constructor<;>grind
 obtain ⟨δ1,κ,d1,hκ,l1⟩:=uJ hw hd h0 hR
 have eE:((d*v*v:Int):Rat)=(d:Rat)*v*v:=by simp only [Rat.intCast_mul]
 obtain ⟨Γ,F,hΓ,nF,hq⟩:∃ (Γ:Rat) (F:Rat->Rat),Γ≠0/\Nice F/\∀ x,Γ*pv q x*(Γ*pv q x)=F x*(((w:Rat)*x-u)*((w:Rat)*x-u)-(d:Rat)*v*v):=by
  obtain ⟨c,g,hc,hg⟩:=h
  obtain ⟨m,hm,em⟩:=eZ (gR (u:=u) (e:=d*v*v) (show 1<=w by omega)).1
  have ep:∀ x,(m:Rat)*c*pv q x=pv g x*pv (aI u (d*v*v) w) x:=fun x=>by
   have h1:=ky x g (aK [u,d*v*v,w]) (ad g (aK [u,d*v*v,w])) (aG _ _)
   have h2:=ei (a:=q) (c:=ad g (aK [u,d*v*v,w])) (u:=c) x (fun n=>by rw [aG];exact (hg n).symm)
   have h3:=ei (a:=aK [u,d*v*v,w]) (c:=aI u (d*v*v) w) (u:=m) x em
   rw [h3]
   have:(m:Rat)*c*pv q x=(m:Rat)*((c:Rat)*pv q x):=by grind
   rw [this,<- h2,h1];grind
  have hne:(m:Rat)*c≠0:=fun z=>by
   rcases Rat.mul_eq_zero.mp z with y | y
   ·exact f9 hm y
   ·exact f9 hc y
  have nX:Nice fun x:Rat=>(w:Rat)*x-u:=by
   have:=((db (w:Rat)).mul nice_id).add (db (-(u:Rat)))
   have e:(fun x:Rat=>(w:Rat)*x + -(u:Rat))=fun x:Rat=>(w:Rat)*x-u:=by funext x;grind
   rwa [e] at this
  by_cases he:d*v*v=0
  ·refine ⟨_,fun x=>pv g x*pv g x,hne,(cJ g).mul (cJ g),fun x=>?_⟩
   have hx:=ep x
   rw [kx,if_pos he] at hx
   rw [hx,<- eE,he]
   have:((0:Int):Rat)=0:=rfl
   rw [this];grind
  ·refine ⟨_,fun x=>pv g x*pv g x*(((w:Rat)*x-u)*((w:Rat)*x-u) + -((d*v*v:Int):Rat)),hne,((cJ g).mul (cJ g)).mul ((nX.mul nX).add (db _)),fun x=>?_⟩
   have hx:=ep x
   rw [kx,if_neg he] at hx
   rw [hx,eE];grind
 obtain ⟨M,M0,hM,_⟩:=nF (U+V) hR
 have gg:0<Γ*κ*(Γ*κ):=by
  have hne:Γ*κ≠0:=fun z=>by rcases Rat.mul_eq_zero.mp z with y | y;exact hΓ y;grind
  generalize Γ*κ=t at *
  rcases Rat.le_total (a:=0) (b:=t) with y | y
  ·exact Rat.mul_pos (by grind) (by grind)
  ·have:=Rat.mul_pos (show 0 < -t by grind) (show 0 < -t by grind);grind
 obtain ⟨ε,ε0,ε1,_⟩:=j1 M0 (Rat.le_refl (a:=0)) (show 0<Γ*κ*(Γ*κ)/2 by grind) (show (0:Rat)<1 by grind)
 obtain ⟨δ2,d2,l2⟩:=kJ (u:=u) (v:=v) hw hd hR ε0
 obtain ⟨δ,hδ,g1,g2⟩:∃ δ:Rat,0<δ/\δ<=δ1/\δ<=δ2:=by
  rcases Rat.le_total (a:=δ1) (b:=δ2) with z | z
  ·exact ⟨δ1,d1,Rat.le_refl,z⟩
  ·exact ⟨δ2,d2,z,Rat.le_refl⟩
 obtain ⟨n,hn⟩:=mr hδ (k-l)
 obtain ⟨x,y,a1,a2,a3,a4,a5,a6⟩:=kK (s:=sdR [u,d*v*v,w,aS v]) hδ n l k hlk hl (by omega) hn
 have bx:=hbd x a1 (by grind)
 have b_y:=hbd y (by grind) a3
 have k1:=l1 x y bx b_y a2 (by grind) a5 (by omega)
 obtain ⟨_,k2,k3⟩:=l2 x y bx b_y a2 (by grind) a5 (by omega)
 obtain ⟨f1,f2⟩:=Bd.mul (hM x bx) ⟨k2,k3⟩
 have hqx:=hq x
 have hτ:sgq (hpA u v w d q).1 (hpA u v w d q).2.1 d=1\/sgq (hpA u v w d q).1 (hpA u v w d q).2.1 d = -1:=by
  rcases iN (hpA u v w d q).1 (hpA u v w d q).2.1 d with z | z | z<;>omega
 have sq:κ*κ<=pv q x*pv q x:=by
  generalize pv q x=t at *
  generalize sgq (hpA u v w d q).1 (hpA u v w d q).2.1 d=τ at *
  have e1:((1:Int):Rat)=1:=rfl
  have e2:((-1:Int):Rat) = -1:=rfl
  rcases hτ with rfl | rfl
  ·rw [e1] at k1
   have:=Rat.mul_le_mul_of_nonneg_left k1 (Rat.le_of_lt hκ)
   have:=Rat.mul_le_mul_of_nonneg_right k1 (show (0:Rat)<=t by grind)
   grind
  ·rw [e2] at k1
   have:=Rat.mul_le_mul_of_nonneg_left k1 (Rat.le_of_lt hκ)
   have:=Rat.mul_le_mul_of_nonneg_right k1 (show (0:Rat) <= -t by grind)
   grind
 have gg2:0<Γ*Γ:=by
  rcases Rat.le_total (a:=0) (b:=Γ) with y | y
  ·exact Rat.mul_pos (by grind) (by grind)
  ·have:=Rat.mul_pos (show 0 < -Γ by grind) (show 0 < -Γ by grind);grind
 have s3:=Rat.mul_le_mul_of_nonneg_left sq (Rat.le_of_lt gg2)
 have s4:Γ*Γ*(pv q x*pv q x)=Γ*pv q x*(Γ*pv q x):=by grind
 have s5:Γ*Γ*(κ*κ)=Γ*κ*(Γ*κ):=by grind
 rw [s4,s5,hqx] at s3
 generalize F x*(((w:Rat)*x-u)*((w:Rat)*x-u)-(d:Rat)*v*v)=G at *
 generalize Γ*κ*(Γ*κ)=T at *
 have:M*ε=ε*M:=by grind
 rw [this] at f2
 grind
end RM
namespace RM
theorem Aa {u v w d:Int} (hw:0<w) (hd:NSq d) {q:List Int} (ha:(hpA u v w d q).1=0) (hb0:(hpA u v w d q).2.1=0) {R ε:Rat} (hR:0<=R) (hε:0<ε):∃ δ:Rat,0<δ/\∀ x y:Rat,Bd R x->Bd R y->x<y->y-x<=δ->0<sdR [u,d*v*v,w,aS v] x->¬ 0<sdR [u,d*v*v,w,aS v] y->Bd ε (pv q x)/\Bd ε (pv (aI u (d*v*v) w) x):=by
 obtain ⟨b',F,nF,hb,hv⟩:=lg (u:=u) (v:=v) (w:=w) (d:=d) q
 have mp:(0:Rat)<((hpA u v w d q).2.2:Rat):=f8 (li hw q)
 rw [ha] at hv
 rw [hb0] at hb
 generalize ((hpA u v w d q).2.2:Rat)=m at *
 have W0:(0:Rat)<w:=f8 hw
 have eE:((d*v*v:Int):Rat)=(d:Rat)*v*v:=by simp only [Rat.intCast_mul]
 have z0:((0:Int):Rat)=0:=rfl
 obtain ⟨M,M0,hM,_⟩:=nF R hR
 obtain ⟨β,β0,hβ⟩:=fH (b':Rat)
 obtain ⟨C,hC⟩:∃ C:Rat,C=(w:Rat)*(M+β)/m:=⟨_,rfl⟩
 have eC:C*m=(w:Rat)*(M+β):=by rw [hC];exact Rat.div_mul_cancel (by grind)
 have C0:0<=C:=Rat.not_lt.mp fun z=>by
  have q1:=Rat.mul_lt_mul_of_pos_right z mp
  have q2:=Rat.mul_nonneg (Rat.le_of_lt W0) (show 0<=M+β by grind)
  grind
 obtain ⟨e1,he1,he2,he3⟩:∃ e1:Rat,0<e1/\e1<=ε/\e1<=1:=by
  rcases Rat.le_total (a:=ε) (b:=1) with z | z
  ·exact ⟨ε,hε,Rat.le_refl,z⟩
  ·exact ⟨1,by grind,z,Rat.le_refl⟩
 obtain ⟨t,t0,t1,t2⟩:=j1 C0 (show (0:Rat)<=1 by grind) hε he1
 have bdm:∀ v:Rat,Bd (t*C*m) (m*v)->Bd ε v:=fun v h=>by
  obtain ⟨h1,h2⟩:=h
  have k1:=Rat.mul_le_mul_of_nonneg_right t1 (Rat.le_of_lt mp)
  constructor
  ·refine ip mp ?_
   grind
  ·refine ip mp ?_
   grind
 have eT:t*C*m=(w:Rat)*(t*M+t*β):=by
  have:t*C*m=t*(C*m):=by grind
  rw [this,eC];grind
 by_cases hv0:v=0
 ·obtain ⟨δ,δ0,hδ⟩:=kJ (u:=u) (v:=v) hw hd hR (Rat.mul_pos t0 t0)
  refine ⟨δ,δ0,fun x y hx hy hxy hyd sx sy=>?_⟩
  obtain ⟨_,p2,p3⟩:=hδ x y hx hy hxy hyd sx sy
  have hvx:=hv x
  have hF:=hM x hx
  rw [kx,if_pos (by rw [hv0];omega)]
  have eV:(v:Rat)=0:=by rw [hv0];rfl
  rw [eV] at p2 p3 hvx
  generalize (w:Rat)*x-u=X at *
  have bX:Bd t X:=by
   constructor
   ·refine Rat.not_lt.mp fun z=>?_
    have:=Rat.mul_lt_mul_of_pos_right (show t < -X by grind) (show 0 < -X by grind)
    have:=Rat.mul_lt_mul_of_pos_left (show t < -X by grind) t0
    grind
   ·refine Rat.not_lt.mp fun z=>?_
    have:=Rat.mul_lt_mul_of_pos_right z (show 0<X by grind)
    have:=Rat.mul_lt_mul_of_pos_left z t0
    grind
  refine ⟨bdm _ ?_,bX.mono (by grind)⟩
  rw [hvx,z0,eT]
  have k1:=(bX.mul bX).mul hF
  have k2:=hβ.mul bX
  have k3:Bd (t*M+t*β) ((X*X-(d:Rat)*0*0)*F x+0+b'*X):=by
   obtain ⟨a1,a2⟩:=k1
   obtain ⟨c1,c2⟩:=k2
   have q1:=Rat.mul_le_mul_of_nonneg_right (show t*t<=t by have:=Rat.mul_le_mul_of_nonneg_left (show t<=1 by grind) (Rat.le_of_lt t0);grind) M0
   constructor<;>grind
  obtain ⟨a1,a2⟩:=k3
  have c1:=Rat.mul_le_mul_of_nonneg_left a1 (Rat.le_of_lt W0)
  have c2:=Rat.mul_le_mul_of_nonneg_left a2 (Rat.le_of_lt W0)
  constructor<;>grind
 ·have hb':b'=0:=(Int.mul_eq_zero.mp hb.symm).resolve_right hv0
  obtain ⟨δ,δ0,hδ⟩:=kJ (u:=u) (v:=v) hw hd hR t0
  refine ⟨δ,δ0,fun x y hx hy hxy hyd sx sy=>?_⟩
  obtain ⟨_,p2,p3⟩:=hδ x y hx hy hxy hyd sx sy
  have hvx:=hv x
  have hF:=hM x hx
  have he:¬ d*v*v=0:=fun z=>by
   rcases Int.mul_eq_zero.mp z with y | y
   ·rcases Int.mul_eq_zero.mp y with y | y
    ·have:=hd.1;omega
    ·exact hv0 y
   ·exact hv0 y
  rw [kx,if_neg he,eE]
  rw [hb',z0] at hvx
  generalize (w:Rat)*x-u=X at *
  generalize X*X-(d:Rat)*v*v=P at *
  refine ⟨bdm _ ?_,Bd.mono ⟨p2,p3⟩ (by grind)⟩
  rw [hvx,eT]
  obtain ⟨a1,a2⟩:=Bd.mul ⟨p2,p3⟩ hF
  have c1:=Rat.mul_le_mul_of_nonneg_left a1 (Rat.le_of_lt W0)
  have c2:=Rat.mul_le_mul_of_nonneg_left a2 (Rat.le_of_lt W0)
  have c3:=Rat.mul_nonneg (Rat.le_of_lt W0) (Rat.mul_nonneg (Rat.le_of_lt t0) β0)
  generalize P*F x=G at *
  constructor<;>grind
theorem yG {a b d:Int} (h:sgq a b d=0):a=0/\b=0:=by
 unfold sgq at h
 split at h
 ·split at h
  ·cases h
  ·omega
 ·split at h
  ·cases h
  ·split at h
   ·split at h<;>cases h
   ·split at h<;>cases h
theorem uC {one other:List Int} (ho:other≠[]) (h:Dv other one) (ht:Tr other):nxt one other=[]:=by
 unfold nxt rst
 rw [if_neg ho,h.rest ho ht];rfl
theorem zy {p G:List Int} (hp:Pln p) (tG:Tr G) (nG:G≠[]) (h:Dv p G) (N:Nat) :
 (aL (N+3) p G=[p,G]/\∃ c k:Int,c≠0/\k≠0/\∀ n,c*cf G n=k*cf p n)\/aL (N+3) p G=[p,G,scL (-1) p]:=by
 have hl:p.length<=G.length:=Nat.not_lt.mp fun z=>nG (Dv.short hp.ne hp.tr tG z h)
 have pl:=List.length_pos_iff.mpr hp.ne
 have r0:∀ (n:Nat) (a b:List Int),a≠[]->aL (n+1) a b=a::aL n b (nxt a b):=fun n a b ha=>by
  show (if a=[] then [] else a::aL n b (nxt a b))=_
  rw [if_neg ha]
 rcases Nat.lt_or_eq_of_le hl with z | z
 ·right
  have e1:aB p G=p:=by
   unfold aB
   have:aP p G=0:=by unfold aP;omega
   rw [this]
   exact lK hp.tr
  have e2:nxt p G=scL (-1) p:=by
   unfold nxt rst
   rw [if_neg nG,e1,gU hp.tr]
   refine iM (.inr ?_)
   rw [ln,hp.prim];rfl
  have n2:scL (-1) p≠[]:=fun y=>hp.ne (List.map_eq_nil_iff.mp y)
  have e3:nxt G (scL (-1) p)=[]:=uC n2 (Dv.prop_left (x:=1) (y := -1) (by decide) (by decide) (fun n=>by rw [aX];omega) h) (j4 (by decide) hp.tr)
  rw [r0 _ _ _ hp.ne,r0 _ _ _ nG,e2,r0 _ _ _ n2,e3,fO]
 ·left
  obtain ⟨c,g,hc,gt,hg⟩:=h.trim
  have gne:g≠[]:=fun y=>by
   subst y
   have:=hg (G.length-1)
   rw [dd] at this
   exact fm tG nG ((Int.mul_eq_zero.mp this).resolve_left hc)
  have gl:=List.length_pos_iff.mpr gne
  have g1:g.length=1:=by
   have ht:=i6 (a:=g) (b:=p) (la:=g.length-1) (lb:=p.length-1) (by omega) (by omega)
   have nz:cf g (g.length-1)*cf p (p.length-1)≠0:=Int.mul_ne_zero (fm gt gne) (fm hp.tr hp.ne)
   rw [<- ht,<- hg] at nz
   have:g.length-1+(p.length-1)<G.length:=Classical.byContradiction fun y=>nz (by rw [bH (by omega),Int.mul_zero])
   omega
  obtain ⟨k,rfl⟩:=List.length_eq_one_iff.mp g1
  have hk:k≠0:=fm gt gne
  have eq:∀ n,c*cf G n=k*cf p n:=fun n=>by rw [hg,fj]
  have e2:nxt p G=[]:=uC nG ⟨k,[c],hk,fun n=>by rw [fj,eq]⟩ tG
  refine ⟨?_,c,k,hc,hk,eq⟩
  rw [r0 _ _ _ hp.ne,r0 _ _ _ nG,e2,fO]
theorem xw {p G:List Int} (hp:Pln p) (tG:Tr G) (nG:G≠[]) (h:Dv p G) (N:Nat) {x y:Rat} (hx:sgR (pv p x)≠0) (hy:sgR (pv p y)≠0):vrs (aL (N+3) p G) x=vrs (aL (N+3) p G) y:=by
 have nz:∀ {v:Rat},sgR v≠0->sgR v=1\/sgR v = -1:=fun {v} hv=>by rcases g7 v with z | z | z;exact .inl z;exact absurd z hv;exact .inr z
 rcases zy hp tG nG h N with ⟨e,c,k,hc,hk,eq⟩ | e
 ·rw [e]
  have hG:∀ z,(c:Rat)*pv G z=(k:Rat)*pv p z:=fun z=>by
   have h1:=ei (a:=G) (c:=scL c G) (u:=c) z (fun n=>aX c G n)
   have h2:=ei (a:=p) (c:=scL c G) (u:=k) z (fun n=>by rw [aX];exact eq n)
   rw [<- h1,h2]
  obtain ⟨σ,hσ⟩:∃ σ:Int,∀ z,sgR (pv G z)=σ*sgR (pv p z):=by
   have key:∀ t:Rat,t≠0->∀ v:Rat,sgR (t*v)=sgR t*sgR v:=fun t ht v=>by
    rcases bz t with ⟨a,b⟩ | ⟨a,b⟩ | ⟨a,b⟩
    ·rcases bz v with ⟨a',b'⟩ | ⟨a',b'⟩ | ⟨a',b'⟩
     ·rw [b,b'];have:=Rat.mul_pos (show 0 < -t by grind) (show 0 < -v by grind)
      rcases bz (t*v) with ⟨q,_⟩ | ⟨q,_⟩ | ⟨_,q⟩
      ·grind
      ·grind
      ·rw [q];rfl
     ·rw [a',Rat.mul_zero]
      have:sgR 0=0:=by decide
      rw [this];omega
     ·rw [b,b'];have:=Rat.mul_pos (show 0 < -t by grind) a'
      rcases bz (t*v) with ⟨_,q⟩ | ⟨q,_⟩ | ⟨q,_⟩
      ·rw [q];rfl
      ·grind
      ·grind
    ·exact absurd a ht
    ·rw [b,kn a];omega
   have c0:=f9 hc
   have k0:=f9 hk
   refine ⟨sgR (c:Rat)*sgR (k:Rat),fun z=>?_⟩
   have h1:=congrArg sgR (hG z)
   rw [key _ c0,key _ k0] at h1
   have cc:sgR (c:Rat)*sgR (c:Rat)=1:=by
    rcases bz (c:Rat) with ⟨_,b⟩ | ⟨b,_⟩ | ⟨_,b⟩
    ·rw [b];decide
    ·exact absurd b c0
    ·rw [b];decide
   have:sgR (c:Rat)*(sgR (c:Rat)*sgR (pv G z))=sgR (c:Rat)*(sgR (k:Rat)*sgR (pv p z)):=by rw [h1]
   rw [<- Int.mul_assoc,cc,Int.one_mul] at this
   rw [this,Int.mul_assoc]
  have one:∀ z,sgR (pv p z)≠0->vrs [p,G] z=if σ<0 then 1 else 0:=fun z hz=>by
   show vr 0 (sgR (pv p z)::[sgR (pv G z)])=_
   rw [iz,hσ z]
   show (if σ*sgR (pv p z)*sgR (pv p z)<0 then 1 else 0)+vr _ []=_
   have:sgR (pv p z)*sgR (pv p z)=1:=by rcases nz hz with a | a<;>rw [a]<;>decide
   rw [Int.mul_assoc,this,Int.mul_one]
   show _+0=_
   omega
  rw [one x hx,one y hy]
 ·rw [e]
  have one:∀ z,sgR (pv p z)≠0->vrs [p,G,scL (-1) p] z=1:=fun z hz=>by
   have hn:sgR (pv (scL (-1) p) z) = -sgR (pv p z):=by
    rw [ei (a:=p) (c:=scL (-1) p) (u := -1) z (fun n=>aX _ _ n)]
    have e:((-1:Int):Rat) = -1:=rfl
    rw [e]
    rcases bz (pv p z) with ⟨a,b⟩ | ⟨a,b⟩ | ⟨a,b⟩<;>rcases bz (-1*pv p z) with ⟨a',b'⟩ | ⟨a',b'⟩ | ⟨a',b'⟩<;>rw [b,b']<;>grind
   show vr 0 (sgR (pv p z)::[sgR (pv G z),sgR (pv (scL (-1) p) z)])=_
   rw [iz,hn,lJ (nz hz) (g7 _)]
   rfl
  rw [one x hx,one y hy]
theorem vq {u v w d l1 l2 h1 h2:Int} (hd:NSq d) (hO:OneS [[u,d*v*v,w]] [u,d*v*v,w] [u,d*v*v,w,aS v] l1 l2 h1 h2):∃ ε:Int,(ε=1\/ε = -1)/\∀ x:Rat,(l1:Rat)/(l2:Rat)<=x->x<=(h1:Rat)/(h2:Rat)->sgR (pv (aK [u,d*v*v,w]) x)=ε*sdR [u,d*v*v,w,aS v] x:=by
 have hF:=hO.fam
 have sgn:∀ x:Rat,sgR (pv (aK [u,d*v*v,w]) x)=spr x.num x.den (spF [u,d*v*v,w]):=fun x=>by
  have h:=hF.sign (t:=x.num) (n:=(x.den:Int)) (dD x)
  rw [oz hF,iD,iQ (dD x),Ge] at h
  exact h
 by_cases hv:v=0
 ·subst hv
  have e0:d*0*0=0:=by omega
  rw [e0] at sgn ⊢
  refine ⟨-1,.inr rfl,fun x _ _=>?_⟩
  rw [sgn,lX]
  show -aC [u,0,w,1] x.num x.den*1 = -1*aC [u,0,w,1] x.num x.den
  omega
 ·have he:0<d*v*v:=by
   rw [Int.mul_assoc]
   refine Int.mul_pos hd.1 ?_
   rcases Int.lt_or_gt_of_ne hv with z | z
   ·exact Int.mul_pos_of_neg_of_neg z z
   ·exact Int.mul_pos z z
  have hns:=oN hd v
  have lt:=(oo hO.l2p hO.h2p).mpr hO.lt
  have keep:∀ σ:Int,[u,d*v*v,w,σ]∈spF [u,d*v*v,w]->σ≠aS v->∀ x:Rat,(l1:Rat)/(l2:Rat)<=x->x<=(h1:Rat)/(h2:Rat)->sdR [u,d*v*v,w,σ] x=sdR [u,d*v*v,w,σ] ((l1:Rat)/(l2:Rat)):=fun σ hm hσ x hx1 hx2=>by
   have hc:=tJ (lW hF.q (l:=[u,d*v*v,w,σ]) (by rw [iD];exact hm))
   have nzx:∀ z:Rat,sdR [u,d*v*v,w,σ] z≠0:=fun z=>iK hns he (dD z)
   have hno:¬ (0<sdR [u,d*v*v,w,σ] ((l1:Rat)/(l2:Rat))/\sdR [u,d*v*v,w,σ] ((h1:Rat)/(h2:Rat))<=0):=fun z=>by
    rw [iS _ hO.l2p,iS _ hO.h2p] at z
    have:=hO.only [u,d*v*v,w,σ] (by rw [iD];exact hm) z.1 z.2
    simp at this
    exact hσ this
   rcases hc.u ((l1:Rat)/(l2:Rat)) with a | a | a
   ·rw [a]
    have hh:sdR [u,d*v*v,w,σ] ((h1:Rat)/(h2:Rat))=1:=by
     rcases hc.u ((h1:Rat)/(h2:Rat)) with b | b | b
     ·exact b
     ·exact absurd b (nzx _)
     ·exact absurd ⟨by omega,by omega⟩ hno
    rcases hc.u x with b | b | b
    ·exact b
    ·exact absurd b (nzx _)
    ·rcases (show x<(h1:Rat)/(h2:Rat)\/x=(h1:Rat)/(h2:Rat) by grind) with c | c
     ·have:=hc.m _ _ c (by omega);omega
     ·rw [c] at b;omega
   ·exact absurd a (nzx _)
   ·rw [a]
    rcases (show (l1:Rat)/(l2:Rat)<x\/(l1:Rat)/(l2:Rat)=x by grind) with c | c
    ·exact hc.m _ _ c (by omega)
    ·rw [<- c];exact a
  have sp:=lY (u:=u) (b:=w) he
  have val:∀ x:Rat,sgR (pv (aK [u,d*v*v,w]) x)=sdR [u,d*v*v,w,1] x*sdR [u,d*v*v,w,-1] x:=fun x=>by
   rw [sgn,sp]
   show -aC [u,d*v*v,w,1] x.num x.den*(-aC [u,d*v*v,w,-1] x.num x.den*1)=aC [u,d*v*v,w,1] x.num x.den*aC [u,d*v*v,w,-1] x.num x.den
   rw [Int.mul_one,Int.neg_mul_neg]
  have unit:∀ σ:Int,sdR [u,d*v*v,w,σ] ((l1:Rat)/(l2:Rat))=1\/sdR [u,d*v*v,w,σ] ((l1:Rat)/(l2:Rat)) = -1:=fun σ=>by
   have:=iK (u:=u) (b:=w) (σ:=σ) (t:=((l1:Rat)/(l2:Rat)).num) hns he (dD ((l1:Rat)/(l2:Rat)))
   rcases kl [u,d*v*v,w,σ] ((l1:Rat)/(l2:Rat)).num ((l1:Rat)/(l2:Rat)).den with z | z | z
   ·exact .inl z
   ·exact absurd z this
   ·exact .inr z
  by_cases hn:v<0
  ·have es:aS v = -1:=by unfold aS;rw [if_pos hn]
   refine ⟨_,unit 1,fun x a b=>?_⟩
   rw [val,keep 1 (by rw [sp];simp) (by rw [es];decide) x a b,es]
  ·have es:aS v=1:=by unfold aS;rw [if_neg hn]
   refine ⟨_,unit (-1),fun x a b=>?_⟩
   rw [val,keep (-1) (by rw [sp];simp) (by rw [es];decide) x a b,es,Int.mul_comm]
theorem xW {u v w d l1 l2 h1 h2:Int} (hd:NSq d) (hw:0<w) (hO:OneS [[u,d*v*v,w]] [u,d*v*v,w] [u,d*v*v,w,aS v] l1 l2 h1 h2) {q:List Int} (tq:Tr q) {N:Nat} (hN:q.length+5<=N) (htop:sg (hv h1 h2 (aK [u,d*v*v,w]))≠0) :
 vr 0 (sgv (aL N (aK [u,d*v*v,w]) (ak (ad (slopeL (aK [u,d*v*v,w])) q))) l1 l2)-vr 0 (sgv (aL N (aK [u,d*v*v,w]) (ak (ad (slopeL (aK [u,d*v*v,w])) q))) h1 h2)=sgq (hpA u v w d q).1 (hpA u v w d q).2.1 d:=by
 have hP:=jv (hO.fam.fac _ hO.mem)
 have lt:=(oo hO.l2p hO.h2p).mpr hO.lt
 obtain ⟨ε,hε,hs⟩:=vq hd hO
 have sl:sdR [u,d*v*v,w,aS v] ((l1:Rat)/(l2:Rat))=1:=by
  rw [iS _ hO.l2p]
  have:=hO.inn.1
  rcases kl [u,d*v*v,w,aS v] l1 l2 with z | z | z<;>omega
 have sk:sdR [u,d*v*v,w,aS v] ((h1:Rat)/(h2:Rat)) = -1:=by
  rw [iQ hO.h2p,hs _ (Rat.le_of_lt lt) Rat.le_refl] at htop
  have h0:sdR [u,d*v*v,w,aS v] ((h1:Rat)/(h2:Rat))≠0:=fun z=>htop (by rw [z,Int.mul_zero])
  rw [iS _ hO.h2p] at h0 ⊢
  have:=hO.inn.2
  rcases kl [u,d*v*v,w,aS v] h1 h2 with z | z | z<;>omega
 have hsl:sgR (pv (aK [u,d*v*v,w]) ((l1:Rat)/(l2:Rat)))≠0:=by rw [hs _ Rat.le_refl (Rat.le_of_lt lt),sl];omega
 have hsk:sgR (pv (aK [u,d*v*v,w]) ((h1:Rat)/(h2:Rat)))≠0:=by rw [hs _ (Rat.le_of_lt lt) Rat.le_refl,sk];omega
 have hcut:Cut (sdR [u,d*v*v,w,aS v]):=tJ (lW hO.fam.q (by rw [iD];exact hO.sp))
 rw [tw hO.l2p,tw hO.h2p]
 show vrs _ _-vrs _ _=_
 have p2:=hP.two
 generalize hp:aK [u,d*v*v,w]=p at *
 by_cases hq:q=[]
 ·subst hq
  have e:ad (slopeL p) []=[]:=by unfold ad;rw [if_pos (.inr rfl)]
  have e2:ak ([]:List Int)=[]:=rfl
  rw [e,e2,tM hP.pln.ne (by omega)]
  show vr 0 [_]-vr 0 [_]=sgq 0 0 d
  rw [iz,iz,iO];rfl
 have sn:slopeL p≠[]:=fun z=>by have:=congrArg List.length z;rw [jh] at this;simp at this;omega
 have tF:Tr (ad (slopeL p) q):=fK (lM hP.pln.tr) tq
 have nF:ad (slopeL p) q≠[]:=fun z=>by
  have:=congrArg List.length z
  rw [bQ sn hq] at this
  have s1:=List.length_pos_iff.mpr sn
  have s2:=List.length_pos_iff.mpr hq
  simp at this;omega
 obtain ⟨g0,t0,n0,e0⟩:=mw tF nF
 by_cases hdv:Dv p q
 ·have z:=FZ (u:=u) (v:=v) hw hd (q:=q) (by rw [hp];exact hdv) lt (by rw [sl];decide) (by rw [sk];decide)
  rw [z]
  have hG:Dv p (ak (ad (slopeL p) q)):=Dv.prop_right (x:=(ar (ad (slopeL p) q):Int)) (y:=1) (by omega) (fun n=>by rw [<- e0 n,Int.one_mul]) (hdv.trans (Dv.mul_right (slopeL p) q))
  obtain ⟨M,rfl⟩:∃ M,N=M+3:=⟨N-3,by omega⟩
  rw [xw hP.pln t0 n0 hG M hsl hsk];omega
 ·have lF:(ak (ad (slopeL p) q)).length=p.length-1+q.length-1:=by
   unfold ak;rw [List.length_map,bQ sn hq,jh]
  have pl3:p.length<=3:=by
   rw [<- hp]
   show (av (aI _ _ _)).length<=3
   rw [plain_len]
   unfold aI
   split<;>simp
  obtain ⟨M,rfl⟩:∃ M,N=M+1+1:=⟨N-2,by omega⟩
  have cop:Cop2 p (ak (ad (slopeL p) q)):=by
   have:=(xX hP hdv).shr hP.pln.tr hP.pln.ne tF
   rwa [iM (.inr hP.pln.prim)] at this
  have hst:=tL (M+1) p (ak (ad (slopeL p) q)) (by omega) hP.pln.tr hP.pln.ne t0 cop
  have er:aL (M+1+1) p (ak (ad (slopeL p) q))=p::ak (ad (slopeL p) q)::aL M (nxt p (ak (ad (slopeL p) q))) (nxt (ak (ad (slopeL p) q)) (nxt p (ak (ad (slopeL p) q)))):=by
   show (if p=[] then _ else p::(if ak (ad (slopeL p) q)=[] then _ else _))=_
   rw [if_neg hP.pln.ne,if_neg n0]
  rw [er] at hst ⊢
  have g0':(0:Rat)<((ar (ad (slopeL p) q):Int):Rat):=f8 g0
  have hdd:∀ x,pv (slopeL p) x*pv q x=((ar (ad (slopeL p) q):Int):Rat)*pv (ak (ad (slopeL p) q)) x:=fun x=>by
   rw [<- ky x (slopeL p) q (ad (slopeL p) q) (aG _ _)]
   exact ei x e0
  obtain ⟨U,u0,u1⟩:=fH ((l1:Rat)/(l2:Rat))
  obtain ⟨V,v0,v1⟩:=fH ((h1:Rat)/(h2:Rat))
  have hbd:∀ x:Rat,(l1:Rat)/(l2:Rat)<=x->x<=(h1:Rat)/(h2:Rat)->Bd (U+V) x:=fun x a b=>by
   obtain ⟨c1,c2⟩:=u1
   obtain ⟨c3,c4⟩:=v1
   constructor<;>grind
  have h0:sgq (hpA u v w d q).1 (hpA u v w d q).2.1 d≠0:=fun z=>by
   obtain ⟨za,zb⟩:=yG z
   obtain ⟨A,B,k,nA,nB,hk,hAB⟩:=qt hst rfl
   have hR:0<=U+V:=by grind
   obtain ⟨M1,m1,a1,_⟩:=nA (U+V) hR
   obtain ⟨M2,m2,a2,_⟩:=(nB.mul (cJ (slopeL p))) (U+V) hR
   obtain ⟨m,hm,em⟩:=eZ (gR (u:=u) (e:=d*v*v) (show 1<=w by omega)).1
   have em':∀ x,pv (aI u (d*v*v) w) x=(m:Rat)*pv p x:=fun x=>by
    rw [<- hp]
    exact ei x em
   obtain ⟨ε',e0',e1',e2'⟩:=j1 (show 0<=M1 by exact m1) (show 0<=M2 by exact m2) (show 0<k/4 by grind) (show 0<((ar (ad (slopeL p) q):Int):Rat)*(k/4) from Rat.mul_pos g0' (by grind))
   obtain ⟨δ,δ0,hδ⟩:=Aa hw hd za zb hR e0'
   obtain ⟨n,hn⟩:=mr δ0 ((h1:Rat)/(h2:Rat)-(l1:Rat)/(l2:Rat))
   obtain ⟨x,y,b1,b2,b3,b4,b5,b6⟩:=kK (s:=sdR [u,d*v*v,w,aS v]) δ0 n _ _ lt (by rw [sl];decide) (by rw [sk];decide) hn
   have bx:=hbd x b1 (by grind)
   obtain ⟨c1,c2⟩:=hδ x y bx (hbd y (by grind) b3) b2 b4 b5 (by omega)
   have hpx:Bd ε' (pv p x):=by
    rw [em'] at c2
    obtain ⟨f1,f2⟩:=c2
    have hm1:(m:Rat) <= -1\/1<=(m:Rat):=by
     rcases Int.lt_or_gt_of_ne hm with y | y
     ·left;exact cK (b := -1) (by omega)
     ·right;exact cK (a:=1) (by omega)
    generalize pv p x=P at *
    rcases hm1 with y | y<;>constructor<;>refine Rat.not_lt.mp fun z=>?_
    ·have:=Rat.mul_le_mul_of_nonneg_right (show 1 <= -(m:Rat) by grind) (show 0 <= -P by grind);grind
    ·have:=Rat.mul_le_mul_of_nonneg_right (show 1 <= -(m:Rat) by grind) (show 0<=P by grind);grind
    ·have:=Rat.mul_le_mul_of_nonneg_right y (show 0 <= -P by grind);grind
    ·have:=Rat.mul_le_mul_of_nonneg_right y (show 0<=P by grind);grind
   obtain ⟨f1,f2⟩:=(a1 x bx).mul hpx
   obtain ⟨f3,f4⟩:=(a2 x bx).mul c1
   have hx:=hAB x
   have hdx:=hdd x
   generalize ((ar (ad (slopeL p) q):Int):Rat)=γ at *
   have e5:B x*pv (slopeL p) x*pv q x=γ*(B x*pv (ak (ad (slopeL p) q)) x):=by
    have:B x*pv (slopeL p) x*pv q x=B x*(pv (slopeL p) x*pv q x):=by grind
    rw [this,hdx];grind
   rw [e5] at f3 f4
   generalize B x*pv (ak (ad (slopeL p) q)) x=G at *
   generalize A x*pv p x=G1 at *
   have g1:G<=k/4:=ip g0' (by grind)
   have g2 : -(k/4)<=G:=ip g0' (by grind)
   rcases hx with z | z<;>grind
  obtain ⟨δ,κ,d1,hκ,l1'⟩:=uJ hw hd h0 (R:=U+V) (by grind)
  refine xU hst g0' hdd hcut hε lt hs sl sk d1 fun x y hx hy hxy hyd sx sy=>?_
  have k:=l1' x y (hbd x hx (by grind)) (hbd y (by grind) hy) hxy hyd (by omega) (by omega)
  rcases iN (hpA u v w d q).1 (hpA u v w d q).2.1 d with z | z | z
  ·rw [z] at k ⊢
   have e:((1:Int):Rat)=1:=rfl
   rw [e] at k
   rcases bz (pv q x) with ⟨a,_⟩ | ⟨a,_⟩ | ⟨_,a⟩
   ·grind
   ·grind
   ·exact a
  ·exact absurd z h0
  ·rw [z] at k ⊢
   have e:((-1:Int):Rat) = -1:=rfl
   rw [e] at k
   rcases bz (pv q x) with ⟨_,a⟩ | ⟨a,_⟩ | ⟨a,_⟩
   ·exact a
   ·grind
   ·grind
theorem xV {u v w d l1 l2 h1 h2:Int} (hd:NSq d) (hw:0<w) (hO:OneS [[u,d*v*v,w]] [u,d*v*v,w] [u,d*v*v,w,aS v] l1 l2 h1 h2) (q:List Int) (htop:sg (hv h1 h2 (aK [u,d*v*v,w]))=0):sg (hv h1 h2 q)=sgq (hpA u v w d q).1 (hpA u v w d q).2.1 d:=by
 have lt:=(oo hO.l2p hO.h2p).mpr hO.lt
 obtain ⟨ε,hε,hs⟩:=vq hd hO
 rw [iQ hO.h2p,hs _ (Rat.le_of_lt lt) Rat.le_refl,iS _ hO.h2p] at htop
 have h0:=(Int.mul_eq_zero.mp htop).resolve_left (by omega)
 have hv:v=0:=Classical.byContradiction fun hv=>by
  have he:0<d*v*v:=by
   rw [Int.mul_assoc]
   refine Int.mul_pos hd.1 ?_
   rcases Int.lt_or_gt_of_ne hv with z | z
   ·exact Int.mul_pos_of_neg_of_neg z z
   ·exact Int.mul_pos z z
  exact iK (oN hd v) he hO.h2p h0
 subst hv
 have e0:d*0*0=0:=by omega
 rw [e0] at h0
 have hs1:aY 0 (w*h1-u*h2)=0:=by
  have:aC [u,0,w,1] h1 h2=aY (0*h2*h2) (w*h1-u*h2):=by
   unfold aC
   rw [if_pos (show (0:Int)<cf [u,0,w,1] 3 from (by decide:(0:Int)<1))]
   rfl
  rw [Int.zero_mul,Int.zero_mul] at this
  rw [<- this];exact h0
 have due:w*h1=u*h2:=by
  rcases cr 0 (w*h1-u*h2) with ⟨c,_⟩ | ⟨_,_,h1⟩ | ⟨c,_⟩
  ·omega
  ·rcases Int.mul_eq_zero.mp h1 with z | z<;>omega
  ·omega
 obtain ⟨b',F,nF,hb,hval⟩:=lg (u:=u) (v:=0) (w:=w) (d:=d) q
 rw [Int.mul_zero] at hb
 have mp:(0:Rat)<((hpA u 0 w d q).2.2:Rat):=f8 (li hw q)
 have W0:(0:Rat)<w:=f8 hw
 have H0:(0:Rat)<h2:=f8 hO.h2p
 have hX:(w:Rat)*((h1:Rat)/(h2:Rat))-u=0:=by
  have h3:(h1:Rat)/(h2:Rat)*(h2:Rat)=h1:=Rat.div_mul_cancel (by grind)
  have h4:=congrArg (fun z:Int=>(z:Rat)) due
  simp only [Rat.intCast_mul] at h4
  have h5:((w:Rat)*((h1:Rat)/(h2:Rat))-u)*(h2:Rat)=0:=by grind
  exact (Rat.mul_eq_zero.mp h5).resolve_right (by grind)
 have hv:=hval ((h1:Rat)/(h2:Rat))
 rw [hX] at hv
 have z0:((0:Int):Rat)=0:=rfl
 rw [z0] at hv
 rw [iQ hO.h2p,<- kn mp,hv,hb]
 have e5:(w:Rat)*((0*0-(d:Rat)*0*0)*F ((h1:Rat)/(h2:Rat))+((hpA u 0 w d q).1:Rat)+(b':Rat)*0)=(w:Rat)*((hpA u 0 w d q).1:Rat):=by grind
 rw [e5,kn W0,tI]
 generalize (hpA u 0 w d q).1=a
 rcases Int.lt_trichotomy a 0 with z | z | z
 ·rw [cn (by omega) (Int.le_refl _) (.inl z)];unfold sg;rw [if_pos z]
 ·subst z;rw [iO];rfl
 ·rw [cB (by omega) (Int.le_refl _) (.inl z)];unfold sg;rw [if_neg (by omega),if_pos z]
theorem yI {d:Int} (hd:NSq d) (a b:Int):sgq (-a) (-b) d = -sgq a b d:=by
 unfold sgq
 by_cases h1:0<=a/\0<=b
 ·rw [if_pos h1]
  by_cases h2:0<a\/0<b
  ·rw [if_pos h2,if_neg (by omega),if_pos (by omega)]
  ·rw [if_neg h2,if_pos (by omega),if_neg (by omega)];rfl
 ·by_cases h3:a<=0/\b<=0
  ·rw [if_neg h1,if_pos h3,if_pos (by omega),if_pos (by omega)];rfl
  ·have e1 : -a * -a=a*a:=Int.neg_mul_neg _ _
   have e2:d * -b * -b=d*b*b:=by grind
   rw [if_neg h1,if_neg h3,if_neg (by omega),if_neg (by omega),e1,e2]
   have hne:=hd.2 a b (by omega)
   by_cases h4:0<a
   ·rw [if_pos h4,if_neg (by omega)]
    by_cases h5:a*a<d*b*b
    ·rw [if_pos h5,if_neg (by omega)];rfl
    ·rw [if_neg h5,if_pos (by omega)]
   ·rw [if_neg h4,if_pos (by omega)]
    by_cases h5:a*a<d*b*b
    ·rw [if_pos h5,if_neg (by omega)]
    ·rw [if_neg h5,if_pos (by omega)];rfl
theorem vX (u v w d:Int):∀ l:List Int,hpA u v w d (l.map fun x => -x)=(-(hpA u v w d l).1,-(hpA u v w d l).2.1,(hpA u v w d l).2.2)
 | []=>rfl
 | c::l=>by
   have ih:=vX u v w d l
   rw [List.map_cons]
   simp only [hpA]
   rw [ih]
   dsimp only
   rw [Prod.mk.injEq,Prod.mk.injEq]
   refine ⟨by grind,by grind,rfl⟩
end RM
open PySem.W in
local macro_rules | `(tactic| walk_at "comp_ok")=>`(tactic| exact ⟨by with_unfolding_all rfl,by decide +kernel,rfl,by decide +kernel,by repeat' (first | exact List.forall_mem_nil _ | refine List.forall_mem_cons.2 ⟨rfl,?_⟩),by rfl,by repeat' (first | exact .nil | refine .cons ⟨rfl,by first | exact Or.inl rfl | exact Or.inr rfl,rfl⟩ ?_)⟩)
namespace R48
open PySem L2 RM
def top (i:Nat):Stmt:=PySem.Challenge.pw_rootspan_k48_side_of_a_polynomial.main.body.getD i (.Pass ⟨0,0,0,0⟩)
abbrev mQ:Stmt:=top 10
abbrev mP:Stmt:=top 11
abbrev mF:Stmt:=top 12
abbrev g9:Stmt:=gd (top 13) 0
abbrev nZ:Stmt:=gd (top 13) 1
abbrev n5:Stmt:=gd (top 13) 2
abbrev nY:Stmt:=gd (top 13) 3
abbrev n8:Stmt:=gd (top 13) 5
abbrev n6:Stmt:=gd (top 13) 7
abbrev mW:Stmt:=top 15
abbrev np:Stmt:=top 16
abbrev nE:Stmt:=top 17
abbrev mI:Stmt:=top 18
abbrev nt:Stmt:=top 19
abbrev m5:Stmt:=top 20
abbrev mM:Stmt:=top 21
abbrev ko:Stmt:=top 22
abbrev mX:Stmt:=top 23
abbrev mG:Stmt:=top 24
abbrev mN:Stmt:=top 25
abbrev nl:Stmt:=top 27
abbrev mR:Stmt:=top 28
abbrev m8:Stmt:=top 29
abbrev mS:Stmt:=top 31
abbrev mT:Stmt:=top 32
abbrev nu:Stmt:=top 33
abbrev nq:Stmt:=top 34
abbrev nC:Stmt:=top 36
abbrev nw:Stmt:=top 37
abbrev m4:Stmt:=top 39
abbrev nh:Stmt:=top 40
abbrev mJ:Stmt:=top 41
abbrev ni:Stmt:=top 42
abbrev mL:Stmt:=top 43
abbrev m6:Stmt:=top 44
abbrev nD:Stmt:=top 45
abbrev nk:Stmt:=top 47
abbrev nr:Stmt:=top 48
abbrev mY:Stmt:=top 49
abbrev mE:Stmt:=top 50
abbrev nc:Stmt:=top 54
abbrev nj:Stmt:=top 55
abbrev m9:Stmt:=top 56
abbrev mK:Stmt:=top 57
abbrev mH:Stmt:=top 58
abbrev n9:Stmt:=gd (top 61) 0
abbrev g8:Stmt:=top 62
abbrev mU:Stmt:=top 63
abbrev mV:Stmt:=top 64
abbrev m7:Stmt:=top 65
abbrev mZ:Stmt:=top 66
abbrev mO:Stmt:=top 67
abbrev nV:Stmt:=top 69
abbrev nJ:Stmt:=top 70
abbrev nU:Stmt:=top 71
abbrev nN:Stmt:=top 72
abbrev nQ:Stmt:=top 73
abbrev nS:Stmt:=top 74
abbrev nK:Stmt:=top 75
abbrev nW:Stmt:=top 76
abbrev nI:Stmt:=top 77
abbrev nM:Stmt:=top 78
abbrev nR:Stmt:=top 79
abbrev nO:Stmt:=top 80
abbrev ng:Stmt:=top 81
theorem sc_shared:FnScope ["row","divisor","value"] ["row"] (aq mQ):=⟨rfl,rfl,rfl,by decide +kernel,rfl,by decide +kernel,by decide +kernel⟩
theorem sc_shared_by_two:FnScope ["one","other","greater","less","rest"] ["one","other"] (aq mP):=⟨rfl,rfl,rfl,by decide +kernel,rfl,by decide +kernel,by decide +kernel⟩
theorem yR:FnScope ["value"] ["value"] (aq mF):=⟨rfl,rfl,rfl,by decide +kernel,rfl,by decide +kernel,by decide +kernel⟩
theorem sc_Ratio___init__:FnScope ["self","top","bottom","divisor"] ["self","top","bottom"] (aq g9):=⟨rfl,rfl,rfl,by decide +kernel,rfl,by decide +kernel,by decide +kernel⟩
theorem zi:FnScope ["self","other"] ["self","other"] (aq nZ):=⟨rfl,rfl,rfl,by decide +kernel,rfl,by decide +kernel,by decide +kernel⟩
theorem zj:FnScope ["self","other"] ["self","other"] (aq n5):=⟨rfl,rfl,rfl,by decide +kernel,rfl,by decide +kernel,by decide +kernel⟩
theorem zh:FnScope ["self","other"] ["self","other"] (aq nY):=⟨rfl,rfl,rfl,by decide +kernel,rfl,by decide +kernel,by decide +kernel⟩
theorem zl:FnScope ["self","other"] ["self","other"] (aq n8):=⟨rfl,rfl,rfl,by decide +kernel,rfl,by decide +kernel,by decide +kernel⟩
theorem zk:FnScope ["self"] ["self"] (aq n6):=⟨rfl,rfl,rfl,by decide +kernel,rfl,by decide +kernel,by decide +kernel⟩
theorem sc_poly:FnScope ["row","length"] ["row"] (aq mW):=⟨rfl,rfl,rfl,by decide +kernel,rfl,by decide +kernel,by decide +kernel⟩
theorem y6:FnScope ["row"] ["row"] (aq np):=⟨rfl,rfl,rfl,by decide +kernel,rfl,by decide +kernel,by decide +kernel⟩
theorem sc_added:FnScope ["first","second","length"] ["first","second"] (aq nE):=⟨rfl,rfl,rfl,by decide +kernel,rfl,by decide +kernel,by decide +kernel⟩
theorem sc_taken:FnScope ["first","second","length"] ["first","second"] (aq mI):=⟨rfl,rfl,rfl,by decide +kernel,rfl,by decide +kernel,by decide +kernel⟩
theorem y8:FnScope ["row","place"] ["row","place"] (aq nt):=⟨rfl,rfl,rfl,by decide +kernel,rfl,by decide +kernel,by decide +kernel⟩
theorem sc_multiplied:FnScope ["first","second","product","j","one","k","other"] ["first","second"] (aq m5):=⟨rfl,rfl,rfl,by decide +kernel,rfl,by decide +kernel,by decide +kernel⟩
theorem yU:FnScope ["row"] ["row"] (aq mM):=⟨rfl,rfl,rfl,by decide +kernel,rfl,by decide +kernel,by decide +kernel⟩
theorem sc_shrunk:FnScope ["row","divisor"] ["row"] (aq ko):=⟨rfl,rfl,rfl,by decide +kernel,rfl,by decide +kernel,by decide +kernel⟩
theorem sc_plain:FnScope ["row","small"] ["row"] (aq mX):=⟨rfl,rfl,rfl,by decide +kernel,rfl,by decide +kernel,by decide +kernel⟩
theorem sc_value_parts:FnScope ["row","top","bottom","above","below","value"] ["row","top","bottom"] (aq mG):=⟨rfl,rfl,rfl,by decide +kernel,rfl,by decide +kernel,by decide +kernel⟩
theorem yV:FnScope ["row","ratio"] ["row","ratio"] (aq mN):=⟨rfl,rfl,rfl,by decide +kernel,rfl,by decide +kernel,by decide +kernel⟩
theorem sc_divided:FnScope ["first","second","size","sign","steps","factor","quotient","rest","place","lead"] ["first","second"] (aq nl):=⟨rfl,rfl,rfl,by decide +kernel,rfl,by decide +kernel,by decide +kernel⟩
theorem yX:FnScope ["row","factor"] ["row","factor"] (aq mR):=⟨rfl,rfl,rfl,by decide +kernel,rfl,by decide +kernel,by decide +kernel⟩
theorem sc_lowered:FnScope ["row","second","place","lead","kept","k","value"] ["row","second","place","lead"] (aq m8):=⟨rfl,rfl,rfl,by decide +kernel,rfl,by decide +kernel,by decide +kernel⟩
theorem yY:FnScope ["polynomial"] ["polynomial"] (aq mS):=⟨rfl,rfl,rfl,by decide +kernel,rfl,by decide +kernel,by decide +kernel⟩
theorem sc_row_from:FnScope ["first","second","row","one","other","rest"] ["first","second"] (aq mT):=⟨rfl,rfl,rfl,by decide +kernel,rfl,by decide +kernel,by decide +kernel⟩
theorem sc_changes:FnScope ["row","ratio","many","before","polynomial","sign"] ["row","ratio"] (aq nu):=⟨rfl,rfl,rfl,by decide +kernel,rfl,by decide +kernel,by decide +kernel⟩
theorem y7:FnScope ["row","low","high"] ["row","low","high"] (aq nq):=⟨rfl,rfl,rfl,by decide +kernel,rfl,by decide +kernel,by decide +kernel⟩
theorem sc_bound:FnScope ["row","last","greatest","size"] ["row"] (aq nC):=⟨rfl,rfl,rfl,by decide +kernel,rfl,by decide +kernel,by decide +kernel⟩
theorem y9:FnScope ["row","chain","high","low","waiting","found","cell","many","cut","there"] ["row"] (aq nw):=⟨rfl,rfl,rfl,by decide +kernel,rfl,by decide +kernel,by decide +kernel⟩
theorem sc_narrowed:FnScope ["row","low","high","width","reach","steps","found"] ["row","low","high","width"] (aq m4):=⟨rfl,rfl,rfl,by decide +kernel,rfl,by decide +kernel,by decide +kernel⟩
theorem sc_halvings:FnScope ["reach","width","wide","goal","steps"] ["reach","width"] (aq nh):=⟨rfl,rfl,rfl,by decide +kernel,rfl,by decide +kernel,by decide +kernel⟩
theorem sc_stretched:FnScope ["row","low","reach","bottom","start","step","found","power","value"] ["row","low","reach"] (aq mJ):=⟨rfl,rfl,rfl,by decide +kernel,rfl,by decide +kernel,by decide +kernel⟩
theorem sc_halved:FnScope ["row","end","steps","place","pieces","ahead","left","k","there"] ["row","end","steps"] (aq ni):=⟨rfl,rfl,rfl,by decide +kernel,rfl,by decide +kernel,by decide +kernel⟩
theorem sc_spread:FnScope ["row","found","factor","value"] ["row"] (aq mL):=⟨rfl,rfl,rfl,by decide +kernel,rfl,by decide +kernel,by decide +kernel⟩
theorem sc_moved:FnScope ["row","found","start","k"] ["row"] (aq m6):=⟨rfl,rfl,rfl,by decide +kernel,rfl,by decide +kernel,by decide +kernel⟩
theorem zc:FnScope ["low","reach","place","pieces"] ["low","reach","place","pieces"] (aq nD):=⟨rfl,rfl,rfl,by decide +kernel,rfl,by decide +kernel,by decide +kernel⟩
theorem y4:FnScope ["divisor","row"] ["divisor","row"] (aq nk):=⟨rfl,rfl,rfl,by decide +kernel,rfl,by decide +kernel,by decide +kernel⟩
theorem sc_common:FnScope ["first","second","one","other","rest"] ["first","second"] (aq nr):=⟨rfl,rfl,rfl,by decide +kernel,rfl,by decide +kernel,by decide +kernel⟩
theorem sc_part:FnScope ["row","divisor","found"] ["row","divisor"] (aq mY):=⟨rfl,rfl,rfl,by decide +kernel,rfl,by decide +kernel,by decide +kernel⟩
theorem yQ:FnScope ["row"] ["row"] (aq mE):=⟨rfl,rfl,rfl,by decide +kernel,rfl,by decide +kernel,by decide +kernel⟩
theorem sc_least:FnScope ["row","low","high","whole","width","span","line","cell","square"] ["row","low","high"] (aq nc):=⟨rfl,rfl,rfl,by decide +kernel,rfl,by decide +kernel,by decide +kernel⟩
theorem y3:FnScope ["whole"] ["whole"] (aq nj):=⟨rfl,rfl,rfl,by decide +kernel,rfl,by decide +kernel,by decide +kernel⟩
theorem sc_line_of:FnScope ["whole","span","found"] ["whole","span"] (aq m9):=⟨rfl,rfl,rfl,by decide +kernel,rfl,by decide +kernel,by decide +kernel⟩
theorem yT:FnScope ["whole","span","other","last","together"] ["whole","span","other"] (aq mK):=⟨rfl,rfl,rfl,by decide +kernel,rfl,by decide +kernel,by decide +kernel⟩
theorem yS:FnScope ["factor","ratio"] ["factor","ratio"] (aq mH):=⟨rfl,rfl,rfl,by decide +kernel,rfl,by decide +kernel,by decide +kernel⟩
theorem zm:FnScope ["self","row","low","high"] ["self","row","low","high"] (aq n9):=⟨rfl,rfl,rfl,by decide +kernel,rfl,by decide +kernel,by decide +kernel⟩
theorem sc_number:FnScope ["row","low","high","start","end","simple","many"] ["row","low","high"] (aq g8):=⟨rfl,rfl,rfl,by decide +kernel,rfl,by decide +kernel,by decide +kernel⟩
theorem yZ:FnScope ["height"] ["height"] (aq mU):=⟨rfl,rfl,rfl,by decide +kernel,rfl,by decide +kernel,by decide +kernel⟩
theorem sc_refuse_great:FnScope ["row","limit"] ["row"] (aq mV):=⟨rfl,rfl,rfl,by decide +kernel,rfl,by decide +kernel,by decide +kernel⟩
theorem y0:FnScope ["simple","low","high"] ["simple","low","high"] (aq m7):=⟨rfl,rfl,rfl,by decide +kernel,rfl,by decide +kernel,by decide +kernel⟩
theorem sc_number_in:FnScope ["simple","low","high","row","span","half"] ["simple","low","high"] (aq mZ):=⟨rfl,rfl,rfl,by decide +kernel,rfl,by decide +kernel,by decide +kernel⟩
theorem yW:FnScope ["row","one"] ["row","one"] (aq mO):=⟨rfl,rfl,rfl,by decide +kernel,rfl,by decide +kernel,by decide +kernel⟩
theorem zf:FnScope ["_law_script","_law_k"] ["_law_script","_law_k"] (aq nV):=⟨rfl,rfl,rfl,by decide +kernel,rfl,by decide +kernel,by decide +kernel⟩
theorem zd:FnScope ["_law_found"] ["_law_found"] (aq nJ):=⟨rfl,rfl,rfl,by decide +kernel,rfl,by decide +kernel,by decide +kernel⟩
theorem sc__law_divisor:FnScope ["_law_one","_law_other_here","_law_rest"] ["_law_one","_law_other_here"] (aq nU):=⟨rfl,rfl,rfl,by decide +kernel,rfl,by decide +kernel,by decide +kernel⟩
theorem ze:FnScope ["_law_u","_law_v","_law_d"] ["_law_u","_law_v","_law_d"] (aq nN):=⟨rfl,rfl,rfl,by decide +kernel,rfl,by decide +kernel,by decide +kernel⟩
theorem sc__law_plain:FnScope ["_law_row","_law_by","_law_one"] ["_law_row"] (aq nQ):=⟨rfl,rfl,rfl,by decide +kernel,rfl,by decide +kernel,by decide +kernel⟩
theorem sc__law_least:FnScope ["_law_worth_here","_law_u","_law_v","_law_w","_law_d"] ["_law_worth_here"] (aq nS):=⟨rfl,rfl,rfl,by decide +kernel,rfl,by decide +kernel,by decide +kernel⟩
theorem sc__law_times:FnScope ["_law_one","_law_other_here","_law_found","_law_k","_law_j"] ["_law_one","_law_other_here"] (aq nK):=⟨rfl,rfl,rfl,by decide +kernel,rfl,by decide +kernel,by decide +kernel⟩
theorem zg:FnScope ["_law_cell"] ["_law_cell"] (aq nW):=⟨rfl,rfl,rfl,by decide +kernel,rfl,by decide +kernel,by decide +kernel⟩
theorem sc__law_worth:FnScope ["_law_script","_law_k","_law_v","_law_cell"] ["_law_script","_law_k"] (aq nI):=⟨rfl,rfl,rfl,by decide +kernel,rfl,by decide +kernel,by decide +kernel⟩
theorem sc__law_span:FnScope ["_law_worth_here","_law_more","_law_u","_law_v","_law_w","_law_d"] ["_law_worth_here","_law_more"] (aq nM):=⟨rfl,rfl,rfl,by decide +kernel,rfl,by decide +kernel,by decide +kernel⟩
theorem sc__law_other:FnScope ["_law_script","_law_cell","_law_kq","_law_k","_law_more"] ["_law_script"] (aq nR):=⟨rfl,rfl,rfl,by decide +kernel,rfl,by decide +kernel,by decide +kernel⟩
theorem sc__law_side:FnScope ["_law_kq","_law_worth_here","_law_u","_law_v","_law_w","_law_d","_law_a","_law_b","_law_low","_law_k","_law_one"] ["_law_kq","_law_worth_here"] (aq nO):=⟨rfl,rfl,rfl,by decide +kernel,rfl,by decide +kernel,by decide +kernel⟩
theorem sc_law:FnScope ["_law_script","_law_worth_here","_law_span_here","_law_n","_law_kq","_law_due","_law_handed","_law_found","_law_mirrored"] ["_law_script"] (aq ng):=⟨rfl,rfl,rfl,by decide +kernel,rfl,by decide +kernel,by decide +kernel⟩
structure Txt (K:PySem.W.Frag) (mg:Str->Option Value):Prop where
 abs_:mg "abs"=none
 len_:mg "len"=none
 max_:mg "max"=none
 range_:mg "range"=none
 enumerate_:mg "enumerate"=none
 reversed_:mg "reversed"=none
 list_:mg "list"=none
 sum_:mg "sum"=none
 any_:mg "any"=none
 isinstance_:mg "isinstance"=none
 int_:mg "int"=none
 bool_:mg "bool"=none
 HIGHEST_:∃ t:Tok,mg "HIGHEST"=some (.int 8 t)
def ka (K:PySem.W.Frag):Sp:=fun vs H Q _=>∃ (a:Addr) (ns:List Int),vs=[.ref a]/\SqL K H a (ns.map V.int)/\ns.length<=63/\∀ H',Q (.bl true) H'
section
variable {P:Program} {w:World} {K:PySem.W.Frag} {mg:Str->Option Value} {base:Heap}
theorem og (n:Nat):(List.replicate n [V.int 0]).flatten=(List.replicate n (0:Int)).map V.int:=by
 induction n with
 | zero=>rfl
 | succ n ih=>rw [List.replicate_succ,List.flatten_cons,ih,List.replicate_succ];rfl
theorem jn {n j:Nat} {i:Int} (e:i=j) (h:j<n):ixN n i=some j:=by
 subst e;unfold ixN;rw [if_pos (Int.natCast_nonneg _),if_pos (by omega)];simp
theorem kS (l:List Int) (j:Nat) (x:Int):(l.map V.int).set j (.int x)=(l.set j x).map V.int:=by rw [List.map_set]
theorem ir {l:List Int} {j:Nat} {i:Int} (e:i=j) (h:j<l.length):atI (l.map V.int) i=some (.int (cf l j)):=by
 subst e
 exact iu (by rw [List.getElem?_map,gf h];rfl)
def SameB (p:Addr) (H H':Hp):Prop:=∀ b o,b≠p->H b=some o->H' b=some o
theorem SameB.refl (p:Addr) (H:Hp):SameB p H H:=fun _ _ _ h=>h
theorem SameB.then_new {p q:Addr} {H H1:Hp} {o:HO} (s:SameB p H H1) (h:H1 q=none):SameB p H (upd H1 q o):=fun b u n e=>by
 rw [upd_ne (aR (s b u n e) h)];exact s b u n e
theorem SameB.then_upd {p:Addr} {H H1:Hp} {o:HO} (s:SameB p H H1):SameB p H (upd H1 p o):=fun b u n e=>by
 rw [upd_ne n];exact s b u n e
def AllB (k:Nat) (l:List Int):Prop:=∀ x∈l,Bits k x
theorem AllB.cf {k:Nat} {l:List Int} (h:AllB k l) (n:Nat):Bits k (cf l n):=by
 by_cases hn:n<l.length
 ·rw [cR hn];exact h _ (List.getElem_mem hn)
 ·rw [bH (Nat.le_of_not_lt hn)];exact Bits.zero
theorem fi {H H2:Hp} {p:Addr} {o:HO} (s:Same H H2) (hp:H p=none):Same H (upd H2 p o):=fun b u e=>by rw [upd_ne (aR e hp)];exact s b u e
theorem Co (l:List Int) (x:Int):l.map V.int++[V.int x]=(l++[x]).map V.int:=by rw [List.map_append];rfl
def fB (ms:List Int) (lo hi:Option Int):List Int:=(ms.drop (HT.sIx ms.length 0 lo)).take (HT.sIx ms.length ms.length hi-HT.sIx ms.length 0 lo)
theorem qk (ms:List Int) (lo hi:Option Int):fA (ms.map V.int) lo hi=(fB ms lo hi).map V.int:=by
 unfold fA fB
 rw [List.length_map,<- List.map_drop,<- List.map_take]
theorem Gi {ms:List Int} {lo hi:Option Int} {x:Int} (h:x∈fB ms lo hi):x∈ms:=List.mem_of_mem_drop (List.mem_of_mem_take h)
theorem AllB.cut {k:Nat} {ms:List Int} {lo hi:Option Int} (h:AllB k ms):AllB k (fB ms lo hi):=fun x hx=>h x (Gi hx)
theorem AllB.app {k:Nat} {l r:List Int} (h1:AllB k l) (h2:AllB k r):AllB k (l++r):=fun x hx=>(List.mem_append.mp hx).elim (h1 x) (h2 x)
theorem AllB.zeros {k n:Nat}:AllB k (List.replicate n 0):=fun x hx=>by rw [List.eq_of_mem_replicate hx];exact Bits.zero
theorem AllB.mono {j k:Nat} {l:List Int} (h:AllB j l) (hk:j<=k:=by decide):AllB k l:=fun x hx=>(h x hx).mono hk
theorem AllB.nil {k:Nat}:AllB k []:=fun _ h=>nomatch h
theorem AllB.snoc {k:Nat} {l:List Int} {x:Int} (h:AllB k l) (hx:Bits k x):AllB k (l++[x]):=h.app fun y hy=>by rw [List.mem_singleton.mp hy];exact hx
theorem Cj {l:List Int} {x:Int} (h:x∈trim l):x∈l:=by
 unfold trim at h
 rw [List.mem_reverse] at h
 exact List.mem_reverse.mp ((List.dropWhile_sublist _).subset h)
theorem AllB.trim {k:Nat} {l:List Int} (h:AllB k l):AllB k (trim l):=fun x hx=>h x (Cj hx)
theorem fu {l:List Int} {i:Nat} {x:V} (h:(l.map V.int)[i]?=some x):∃ c,l[i]?=some c/\x=.int c/\c∈l/\l.take (i+1)=l.take i++[c]:=by
 rw [List.getElem?_map] at h
 cases e:l[i]? with
 | none=>rw [e] at h;cases h
 | some c=>rw [e] at h;exact ⟨c,rfl,(Option.some.inj h).symm,List.mem_of_getElem? e,by rw [List.take_add_one,e];rfl⟩
def mkL (H:Hp) (Q:VK) (r:List Int):Prop:=∀ (p:Addr) (H':Hp),Same H H'->H p=none->H' p=some (.lst (r.map V.int))->Q (.ref p) H'
def iE (K:PySem.W.Frag):Sp:=fun vs H Q _=>∃ (a:Addr) (ns:List Int),vs=[.ref a]/\SqL K H a (ns.map V.int)/\mkL H Q (trim ns)
def fM (K:PySem.W.Frag):Sp:=fun vs H Q _=>∃ (a:Addr) (ns:List Int) (k:Nat),vs=[.ref a,.int k]/\SqL K H a (ns.map V.int)/\Q (.int (ns.getD k 0)) H
def kg (K:PySem.W.Frag) (g:List Int->List Int->List Int):Sp:=fun vs H Q _=>∃ (a b:Addr) (xs ys:List Int),vs=[.ref a,.ref b]/\SqL K H a (xs.map V.int)/\SqL K H b (ys.map V.int)/\xs.length<=1000000/\ys.length<=1000000/\mkL H Q (g xs ys)
theorem vb (i j:Nat):(if ((j:Nat):Int)>((i:Nat):Int) then ((j:Nat):Int) else ((i:Nat):Int))=((max i j:Nat):Int):=by split<;>omega
theorem kh {n:Nat} (h:n<=sizeLine) : -(2^62)<=((n:Nat):Int)/\((n:Nat):Int)<2^62:=by have:=sizeLine_eq;omega
def RwH (H:Hp) (ps:List Addr) (xss:List (List Int)):Prop:=ps.length=xss.length/\∀ (i:Nat) (p:Addr) (xs:List Int),ps[i]?=some p->xss[i]?=some xs->H p=some (.lst (xs.map V.int))
theorem RwH.nil {H:Hp}:RwH H [] []:=⟨rfl,fun i p xs h=>by simp at h⟩
theorem RwH.same {H H':Hp} {ps:List Addr} {xss:List (List Int)} (h:RwH H ps xss) (s:Same H H'):RwH H' ps xss:=⟨h.1,fun i p xs a b=>s _ _ (h.2 i p xs a b)⟩
theorem RwH.snoc {H:Hp} {ps:List Addr} {xss:List (List Int)} {p:Addr} {xs:List Int} (h:RwH H ps xss) (hp:H p=some (.lst (xs.map V.int))):RwH H (ps++[p]) (xss++[xs]):=by
 refine ⟨by rw [List.length_append,List.length_append,h.1];rfl,fun i q ys a b=>?_⟩
 by_cases hi:i<ps.length
 ·rw [List.getElem?_append_left hi] at a
  rw [List.getElem?_append_left (by rw [<- h.1];exact hi)] at b
  exact h.2 i q ys a b
 ·rw [List.getElem?_append_right (by omega)] at a
  rw [List.getElem?_append_right (by rw [<- h.1];omega),<- h.1] at b
  by_cases h0:i-ps.length=0
  ·rw [h0] at a b
   obtain rfl:p=q:=by simpa using a
   obtain rfl:xs=ys:=by simpa using b
   exact hp
  ·rw [List.getElem?_eq_none_iff.mpr (by simp;omega)] at a
   cases a
theorem RwH.get {H:Hp} {ps:List Addr} {xss:List (List Int)} {i:Nat} (h:RwH H ps xss) (hi:i<xss.length):∃ p,ps[i]?=some p/\H p=some (.lst ((xss.getD i []).map V.int)):=by
 have hi':i<ps.length:=by rw [h.1];exact hi
 refine ⟨ps[i],List.getElem?_eq_getElem hi',h.2 i _ _ (List.getElem?_eq_getElem hi') ?_⟩
 rw [List.getElem?_eq_getElem hi];simp [List.getD,hi]
theorem RwH.of_get {H:Hp} {ps:List Addr} {xss:List (List Int)} {i:Nat} {x:V} (h:RwH H ps xss) (hx:(ps.map V.ref)[i]?=some x):∃ p xs,x=.ref p/\ps[i]?=some p/\xss[i]?=some xs/\H p=some (.lst (xs.map V.int))/\i<xss.length:=by
 rw [List.getElem?_map] at hx
 cases e:ps[i]? with
 | none=>rw [e] at hx;cases hx
 | some p =>
   rw [e] at hx
   have hi:i<ps.length:=(List.getElem?_eq_some_iff.mp e).1
   have hi':i<xss.length:=by rw [<- h.1];exact hi
   exact ⟨p,xss[i],(Option.some.inj hx).symm,rfl,List.getElem?_eq_getElem hi',h.2 i p _ e (List.getElem?_eq_getElem hi'),hi'⟩
theorem Cp (ps:List Addr) (p:Addr):ps.map V.ref++[V.ref p]=(ps++[p]).map V.ref:=by rw [List.map_append];rfl
def sp2:Sp:=fun vs H Q _=>∃ a b:Int,vs=[.int a,.int b]/\Q (.int (Nat.gcd a.natAbs b.natAbs:Nat)) H
theorem jN (i:Int):(if i<0 then -i else i)=(i.natAbs:Int):=by split<;>omega
theorem A0 {f:Addr} {fd:FuncData} (F:Fun K "shared_by_two" "shared_by_two" mP f fd) (T:Txt K mg):FnOk P w K mg base CX0 1 f fd ["one","other"] sp2:=by
 refine F.ok sc_shared_by_two (fun vs H Q E h=>?_) (fun cdv A outer s H vs Q E hr h=>?_)
 ·obtain ⟨a,b,rfl,_⟩:=h
  rfl
 ·obtain ⟨a,b,rfl,k⟩:=h
  refine ⟨_,(af (aj (i:=2) sc_shared_by_two.nd rfl (Or.inl rfl) (bA gE (by rfl) T.abs_ PyProof.Rows.boot_abs (aa (pv 0) ab)))
   (af (aj (i:=3) sc_shared_by_two.nd rfl (Or.inl rfl) (bA gE (by rfl) T.abs_ PyProof.Rows.boot_abs (aa (pv 1) ab)))
   (af (ek PassesOwn.never (aE ig (pv 3) ac (aA _))
     (af (aj (i:=4) sc_shared_by_two.nd rfl (Or.inl rfl) (ag cM (pv 2) (pv 3)))
       (af (aj (i:=2) sc_shared_by_two.nd rfl (Or.inl rfl) (pv 3))
       (ai (aj (i:=3) sc_shared_by_two.nd rfl (Or.inl rfl) (pv 4))))))
   (ai (au (pv 2)))))),?_⟩
  refine ⟨_,rfl,_,rfl,?_⟩
  refine ⟨_,rfl,_,rfl,?_⟩
  refine ⟨fun m σ' H'=>∃ (x y:Int) (z:Option V),σ'=[some (.int a),some (.int b),some (.int x),some (.int y),z]/\H=H'/\0<=x/\0<=y/\y.natAbs=m/\Nat.gcd x.natAbs y.natAbs=Nat.gcd a.natAbs b.natAbs,⟨_,_,_,none,rfl,rfl,?_,?_,rfl,?_⟩,?_⟩
  ·rw [jN];exact Int.natCast_nonneg _
  ·rw [jN];exact Int.natCast_nonneg _
  ·rw [jN,jN,Int.natAbs_natCast,Int.natAbs_natCast]
  ·rintro m σ' H' ⟨x,y,z,rfl,rfl,hx,hy,rfl,hg⟩
   refine ⟨_,rfl,_,_,rfl,rfl,_,rfl,?_⟩
   refine cC (fun hn=>?_) (fun h0=>?_)
   ·have hp:0<y:=by have:y≠0:=hn;omega
    refine ⟨fun σ'' H''=>∃ m',m'<y.natAbs/\∃ (x' y':Int) (z:Option V),σ''=[some (.int a),some (.int b),some (.int x'),some (.int y'),z]/\H=H''/\0<=x'/\0<=y'/\y'.natAbs=m'/\Nat.gcd x'.natAbs y'.natAbs=Nat.gcd a.natAbs b.natAbs,fun _ _ h=>h,?_⟩
    refine ⟨_,rfl,_,rfl,_,_,rfl,rfl,hp,?_⟩
    refine ⟨_,rfl,?_⟩
    refine ⟨_,rfl,?_⟩
    have h1:=Int.emod_nonneg x (Int.ne_of_gt hp)
    have h2:=Int.emod_lt_of_pos x hp
    exact ⟨(x%y).natAbs,by omega,y,x%y,_,rfl,rfl,hy,h1,rfl,by rw [v4 hx hp];exact hg⟩
   ·refine ⟨_,rfl,?_⟩
    have e:(y:Int)=0:=h0
    subst e
    have e2:(x:Int)=((Nat.gcd a.natAbs b.natAbs:Nat):Int):=by
     rw [<- hg]
     show x=((Nat.gcd x.natAbs 0:Nat):Int)
     rw [Nat.gcd_zero_right];omega
    rw [e2]
    exact k
def md (K:PySem.W.Frag):Sp:=fun vs H Q _=>∃ (a:Addr) (ns:List Int),vs=[.ref a]/\SqL K H a (ns.map V.int)/\Q (.int (ar ns:Nat)) H
theorem A1 {f:Addr} {fd:FuncData} (F:Fun K "shared" "shared" mQ f fd) (T:Txt K mg) {pX:Addr} {pL:FuncData} (qT:Cal P w K mg base 1 "shared_by_two" ["one","other"] sp2 pX pL):FnOk P w K mg base CX0 2 f fd ["row"] (md K):=by
 obtain ⟨qK,oZ,pf,qv⟩:=qT
 refine F.ok sc_shared (fun vs H Q E h=>?_) (fun cdv A outer s H vs Q E hr h=>?_)
 ·obtain ⟨a,ns,rfl,_⟩:=h
  rfl
 ·obtain ⟨a,ns,rfl,hS,k⟩:=h
  refine ⟨_,(af (aj (i:=1) sc_shared.nd rfl (Or.inl rfl) ac)
   (af (cv PassesOwn.never rfl (dj (K:=K) rfl (pv 0)) (aQ (i:=2) sc_shared.nd rfl (Or.inl rfl))
     (ai (aj (i:=1) sc_shared.nd rfl (Or.inl rfl) (al qK (hr.mono) rfl oZ pf qv .nil ah (aa (pv 1) (aa (pv 2) ab))))))
   (ai (au (pv 1))))),?_⟩
  refine ⟨_,rfl,a,rfl,⟨_,hS⟩,pG (K:=K) (a:=a) (xs:=ns.map V.int) (fun i σ' H'=>∃ z:Option V,σ'=[some (.ref a),some (.int (ar (ns.take i):Nat)),z]/\H=H') ⟨none,rfl,rfl⟩ (fun i σ' H' _ ⟨z,_,e⟩=>by rw [<- e];exact hS) ?_ ?_⟩
  ·rintro i y σ' H' hi ⟨z,rfl,rfl⟩
   rw [List.getElem?_map] at hi
   cases e:ns[i]? with
   | none=>rw [e] at hi;cases hi
   | some n =>
     rw [e] at hi
     obtain rfl:=Option.some.inj hi
     refine ⟨_,rfl,_,rfl,_,_,rfl,?_⟩
     have e3:ns.take (i+1)=ns.take i++[n]:=by rw [List.take_add_one,e];rfl
     refine ⟨some (.int n),?_,rfl⟩
     rw [e3,v5,Int.natAbs_natCast]
     rfl
  ·rintro σ' H' ⟨z,rfl,rfl⟩
   refine ⟨_,rfl,?_⟩
   rw [List.length_map,List.take_length]
   exact k
def eI (t b:Int):List (Str×V):=cj "bottom" (.int b) (cj "top" (.int t) [])
theorem xS:¬ (("top":Str)="bottom"):=by decide +kernel
theorem cg (t b:Int):(eI t b).lookup ("bottom":Str)=some (.int b):=by
 unfold eI;rw [cZ,if_pos rfl]
theorem cP (t b:Int):(eI t b).lookup ("top":Str)=some (.int t):=by
 unfold eI;rw [cZ,if_neg xS,cZ,if_pos rfl]
theorem gk (t b:Int) {m:Str} (h1:¬ m="bottom") (h2:¬ m="top"):(eI t b).lookup m=none:=by
 unfold eI;rw [cZ,if_neg h1,cZ,if_neg h2];rfl
structure RCI (K:PySem.W.Frag) (mg:Str->Option Value) (C:Addr):Prop where
 cl:Cls K C
 nT:NoAttr K C "top"
 nB:NoAttr K C "bottom"
 mg:mg "Ratio"=some (.ref C)
 ha:PySem.W.findIn K (.ref C) "__class__"=some (some (.builtin "object.__class__"))
 hn:PySem.W.specialIn K (.builtin "object.__class__") "__get__"=some (some (.builtin "getset_descriptor.__get__"))
 ht:PySem.W.takesIn K (.builtin "object.__class__")=some true
 hm:PySem.W.mroIn K C (.type "object")=some true
def RA (C:Addr) (H:Hp) (p:Addr) (t b:Int):Prop:=∃ dx,H p=some (.ins C dx (eI t b))
theorem RA.same {C:Addr} {H H':Hp} {p:Addr} {t b:Int} (h:RA C H p t b) (s:Same H H'):RA C H' p t b:=let ⟨dx,e⟩:=h;⟨dx,s _ _ e⟩
def mkR (C:Addr) (H:Hp) (Q:VK) (t b:Int):Prop:=∀ (x:Addr) (H':Hp),Same H H'->H x=none->RA C H' x (rt t b) (rb t b)->Q (.ref x) H'
def cT (C:Addr):Sp:=fun vs H Q _=>∃ (p dx:Addr) (t b:Int),vs=[.ref p,.int t,.int b]/\H p=some (.ins C dx [])/\b≠0/\Bits 9000 b/\Q .non (upd H p (.ins C dx (eI (rt t b) (rb t b))))
theorem cY {C:Addr} {H1:Hp} {q:Addr->Hp->Prop} {E:XK} {t b:Int} (hb:b≠0) (bb:Bits 9000 b) (h:∀ (x:Addr) (H':Hp),Same H1 H'->H1 x=none->RA C H' x (rt t b) (rb t b)->q x H'):∀ x dx:Addr,H1 x=none->H1 dx=none->dx≠x->cT C (.ref x::([.int t,.int b]++[])) (upd (upd H1 dx (.own x)) x (.ins C dx [])) (fun v H2=>v=.non/\q x H2) E:=fun x dx nx ndx ne=>by
 refine ⟨x,dx,t,b,rfl,ao,hb,bb,rfl,?_⟩
 rw [j0]
 have s0:Same H1 (upd (upd H1 dx (.own x)) x (.ins C dx (eI (rt t b) (rb t b)))):=fun c o e=>by
  rw [upd_ne (aR e nx),upd_ne (aR e ndx)];exact e
 exact h x _ s0 nx ⟨dx,ao⟩
theorem wo {t b:Int} (hb:b≠0) (bb:Bits 9000 b):Bits 9000 (dv t b):=bb.of_le (by rw [gz];exact Nat.le_of_dvd (Int.natAbs_pos.mpr hb) (Nat.gcd_dvd_right _ _))
theorem BS {C f:Addr} {dV:Value} {fd:FuncData} (F:FunD K "__init__" "Ratio.__init__" g9 dV f fd) (T:Txt K mg) (R:RCI K mg C) {pX:Addr} {pL:FuncData} (qT:Cal P w K mg base 1 "shared_by_two" ["one","other"] sp2 pX pL):FnOk P w K mg base CX0 2 f fd ["self","top","bottom"] (cT C):=by
 obtain ⟨qK,oZ,pf,qv⟩:=qT
 refine F.ok sc_Ratio___init__ (fun vs H Q E h=>?_) (fun cdv A outer s H vs Q E hr h=>?_)
 ·obtain ⟨p,dx,t,b,rfl,_⟩:=h
  rfl
 ·obtain ⟨p,dx,t,b,rfl,hp,hb,bb,k⟩:=h
  refine ⟨_,(af (aV (aE cI (pv 2) ac (aA _))
   (ai fR)
   aW)
   (af (aj (i:=3) sc_Ratio___init__.nd rfl (Or.inl rfl) (al qK (hr.mono) rfl oZ pf qv .nil ah (aa (pv 1) (aa (pv 2) ab))))
   (af (aV (aE da (pv 2) ac (aA _))
     (ai (aj (i:=3) sc_Ratio___init__.nd rfl (Or.inl rfl) (bJ bI (pv 3))))
     aW)
   (af (iW (pv 0) (ag uw (pv 1) (pv 3)) rfl)
   (ai (iW (pv 0) (ag uw (pv 2) (pv 3)) rfl)))))),?_⟩
  refine bC ⟨_,rfl,_,_,rfl,rfl,_,rfl,aJ (fun h=>absurd h hb) (fun _=>?_)⟩
  refine ap ⟨_,rfl,_,rfl,t,b,rfl,?_⟩
  refine ku (fun σ' H'=>H=H'/\σ'=[some (.ref p),some (.int t),some (.int b),some (.int (dv t b))]) ?_ ?_
  ·rintro σ' H' ⟨rfl,rfl⟩
   refine ⟨_,rfl,_,rfl,_,_,rfl,rfl,⟨lv hb,wo hb bb⟩,_,rfl,p,C,dx,_,rfl,hp,R.cl,R.nT,by show 0<1000;decide,?_⟩
   refine ⟨_,rfl,_,rfl,_,_,rfl,rfl,⟨lv hb,wo hb bb⟩,_,rfl,p,C,dx,_,rfl,ao,R.cl,R.nB,by show 1<1000;decide,?_⟩
   show Q .non (upd (upd H p _) p _)
   rw [j0]
   exact k
  ·intro rest
   refine ⟨_,rfl,_,_,rfl,rfl,_,rfl,?_⟩
   refine aJ (fun h=>?_) (fun h=>?_)
   ·refine ⟨_,rfl,_,rfl,rest _ _ ⟨rfl,?_⟩⟩
    have e:dv t b = -((Nat.gcd t.natAbs b.natAbs:Nat):Int):=by unfold dv;rw [if_pos h]
    rw [e];rfl
   ·refine rest _ _ ⟨rfl,?_⟩
    have e:dv t b=((Nat.gcd t.natAbs b.natAbs:Nat):Int):=by unfold dv;rw [if_neg h]
    rw [e];rfl
def iF:Sp:=fun vs H Q _=>∃ x:Int,vs=[.int x]/\Q (.int (sg x)) H
theorem AO {f:Addr} {fd:FuncData} (F:Fun K "whole_sign" "whole_sign" mF f fd) (T:Txt K mg):FnOk P w K mg base CX0 1 f fd ["value"] iF:=by
 refine F.ok yR (fun vs H Q E h=>?_) (fun cdv A outer s H vs Q E hr h=>?_)
 ·obtain ⟨x,rfl,_⟩:=h
  rfl
 ·obtain ⟨x,rfl,k⟩:=h
  refine ⟨_,(af (aV (aE da (pv 0) ac (aA _))
   (ai (au (bJ bI ac)))
   aW)
   (af (aV (aE dk (pv 0) ac (aA _))
     (ai (au ac))
     aW)
   (ai (au ac)))),?_⟩
  refine bC ⟨_,rfl,_,_,rfl,rfl,_,rfl,aJ (fun h=>?_) (fun h=>?_)⟩
  ·have e:sg x = -1:=by unfold sg;rw [if_pos h]
   rw [e] at k
   exact ⟨_,rfl,k⟩
  refine bC ⟨_,rfl,_,_,rfl,rfl,_,rfl,aJ (fun h'=>?_) (fun h'=>?_)⟩
  ·have e:sg x=1:=by unfold sg;rw [if_neg h,if_pos h']
   rw [e] at k
   exact k
  ·have e:sg x=0:=by unfold sg;rw [if_neg h,if_neg h']
   rw [e] at k
   exact k
def mq (C:Addr):Sp:=fun vs H Q _=>∃ (p q:Addr) (t b u d:Int),vs=[.ref p,.ref q]/\RA C H p t b/\RA C H q u d/\Bits 100000 t/\Bits 100000 b/\Bits 100000 u/\Bits 100000 d/\Q (.int (sg (t*d-u*b))) H
theorem BR {C f:Addr} {fd:FuncData} (F:Fun K "against" "Ratio.against" n8 f fd) (T:Txt K mg) (R:RCI K mg C) {gr:Addr} {gm:FuncData} (gO:Cal P w K mg base 1 "whole_sign" ["value"] iF gr gm):FnOk P w K mg base CX0 2 f fd ["self","other"] (mq C):=by
 obtain ⟨gK,fV,fZ,gG⟩:=gO
 refine F.ok zl (fun vs H Q E h=>?_) (fun cdv A outer s H vs Q E hr h=>?_)
 ·obtain ⟨p,q,t,b,u,d,rfl,_⟩:=h
  rfl
 ·obtain ⟨p,q,t,b,u,d,rfl,⟨dx,hp⟩,⟨dy,hq⟩,bt,bb,bu,bd,k⟩:=h
  refine ⟨_,(ai (au (al gK (hr.mono) rfl fV fZ gG .nil ah (aa (ag bK (ag aD (aO (K:=K) rfl (pv 0) rfl) (aO (K:=K) rfl (pv 1) rfl)) (ag aD (aO (K:=K) rfl (pv 1) rfl) (aO (K:=K) rfl (pv 0) rfl))) ab)))),?_⟩
  refine ⟨_,rfl,p,C,dx,_,_,rfl,hp,R.cl,R.nT,cP _ _,_,rfl,q,C,dy,_,_,rfl,hq,R.cl,R.nB,cg _ _,_,_,rfl,rfl,⟨bt.mono,bd.mono⟩,?_⟩
  exact ⟨_,rfl,q,C,dy,_,_,rfl,hq,R.cl,R.nT,cP _ _,_,rfl,p,C,dx,_,_,rfl,hp,R.cl,R.nB,cg _ _,_,_,rfl,rfl,⟨bu.mono,bb.mono⟩,_,_,rfl,rfl,_,rfl,k⟩
theorem A8 {f:Addr} {fd:FuncData} (F:Fun K "poly" "poly" mW f fd) (T:Txt K mg):FnOk P w K mg base CX0 1 f fd ["row"] (iE K):=by
 refine F.ok sc_poly (fun vs H Q E h=>?_) (fun cdv A outer s H vs Q E hr h=>?_)
 ·obtain ⟨a,ns,rfl,_⟩:=h
  rfl
 ·obtain ⟨a,ns,rfl,hS,k⟩:=h
  refine ⟨_,(af (aj (i:=1) sc_poly.nd rfl (Or.inl rfl) (bA (cE (K:=K) rfl) (by rfl) T.len_ PySem.boot_len (aa (pv 0) ab)))
   (af (ek PassesOwn.never (PW.pt (ee (aE dk (pv 1) ac (aA _)) (d9 (aE cI (aM (bY (K:=K) rfl) (pv 0) (ag bK (pv 1) ac) (fun _ _=>rfl)) ac (aA _)))))
     (ai (aj (i:=1) sc_poly.nd rfl (Or.inl rfl) (ag bK (pv 1) ac))))
   (ai (au (kD (kj (K:=K) rfl) (pv 0) kB (kA (pv 1))))))),?_⟩
  refine ⟨_,rfl,a,_,rfl,.inl hS,?_⟩
  refine ⟨fun m σ' H'=>∃ n:Nat,n<=ns.length/\σ'=[some (.ref a),some (.int n)]/\H=H'/\n=m/\trim (ns.take n)=trim ns,⟨_,ns.length,Nat.le_refl _,?_,rfl,rfl,?_⟩,?_⟩
  ·rw [List.length_map];rfl
  ·rw [List.take_length]
  ·rintro m σ' H' ⟨n,hn,rfl,rfl,rfl,ht⟩
   have fin:trim (ns.take n)=ns.take n->∃ v,([some (V.ref a),some (V.int n)]:St)[0]?=some (some v)/\∃ v_1,([some (V.ref a),some (V.int n)]:St)[1]?=some (some v_1)/\∃ i,v_1=V.int i/\ot K v none (some i) H Q:=fun h=>by
    refine ⟨_,rfl,_,rfl,n,rfl,a,_,rfl,hS,fun p hp=>k p _ (Same.upd_new hp) hp ?_⟩
    rw [ao,<- ht,h]
    have e:fA (ns.map V.int) none (some (n:Int))=(ns.take n).map V.int:=by
     unfold fA
     rw [HT.sIx_none,HT.sIx_nat,List.drop_zero,Nat.sub_zero,List.length_map,Nat.min_eq_left hn,List.map_take]
    rw [e]
   refine ⟨_,rfl,_,_,rfl,rfl,_,rfl,?_⟩
   refine aJ (fun hp=>?_) (fun hp=>?_)
   ·obtain ⟨j,rfl⟩:∃ j,n=j+1:=⟨n-1,by have:(0:Int)<n:=hp;omega⟩
    have hj:j<ns.length:=hn
    refine ⟨_,rfl,_,rfl,_,_,rfl,rfl,a,_,j,.int (cf ns j),rfl,?_,hS,iu ?_,_,_,rfl,rfl,_,rfl,?_⟩
    ·show V.int (((j+1:Nat):Int)-1)=V.int j
     congr 1;omega
    ·rw [List.getElem?_map,gf hj];rfl
    refine aJ (fun h0=>?_) (fun h0=>?_)
    ·refine ⟨fun σ'' H''=>∃ m',m'<j+1/\∃ n:Nat,n<=ns.length/\σ''=[some (.ref a),some (.int n)]/\H=H''/\n=m'/\trim (ns.take n)=trim ns,fun _ _ h=>h,?_⟩
     refine ⟨_,rfl,_,_,rfl,rfl,j,Nat.lt_succ_self _,j,Nat.le_of_lt hj,?_,rfl,rfl,?_⟩
     ·show [some (V.ref a),some (V.int (((j+1:Nat):Int)-1))]=[some (V.ref a),some (V.int j)]
      congr 4;omega
     ·rw [<- ht,xH hj h0]
    ·exact fin (xI hj h0)
   ·obtain rfl:n=0:=by have:¬ (0:Int)<n:=hp;omega
    exact fin (by rw [List.take_zero];rfl)
def iG:Sp:=fun vs H Q _=>∃ (a:Addr) (xs:List V),vs=[.ref a]/\H a=some (.lst xs)/\Q (.int ((xs.length:Int)-1)) H
theorem Br {f:Addr} {fd:FuncData} (F:Fun K "degree" "degree" np f fd) (T:Txt K mg):FnOk P w K mg base CX0 1 f fd ["row"] iG:=by
 refine F.ok y6 (fun vs H Q E h=>?_) (fun cdv A outer s H vs Q E hr h=>?_)
 ·obtain ⟨a,xs,rfl,_⟩:=h
  rfl
 ·obtain ⟨a,xs,rfl,hA,k⟩:=h
  refine ⟨_,(ai (au (ag bK (bA (cE (K:=K) rfl) (by rfl) T.len_ PySem.boot_len (aa (pv 0) ab)) ac))),?_⟩
  exact ⟨_,rfl,a,_,rfl,.inl (SqL.of hA),_,_,rfl,rfl,k⟩
theorem Bu {f:Addr} {fd:FuncData} (F:Fun K "coefficient" "coefficient" nt f fd) (T:Txt K mg):FnOk P w K mg base CX0 1 f fd ["row","place"] (fM K):=by
 refine F.ok y8 (fun vs H Q E h=>?_) (fun cdv A outer s H vs Q E hr h=>?_)
 ·obtain ⟨a,ns,k,rfl,_⟩:=h
  rfl
 ·obtain ⟨a,ns,n,rfl,hS,k⟩:=h
  refine ⟨_,(af (aV (aE da (pv 1) (bA (cE (K:=K) rfl) (by rfl) T.len_ PySem.boot_len (aa (pv 0) ab)) (aA _))
   (ai (au (aM (bY (K:=K) rfl) (pv 0) (pv 1) (fun _ _=>rfl))))
   aW)
   (ai (au ac))),?_⟩
  refine ⟨_,rfl,_,rfl,a,_,rfl,.inl hS,_,_,rfl,rfl,_,rfl,?_⟩
  refine aJ (fun h1=>?_) (fun h1=>?_)
  ·rw [List.length_map] at h1
   have h2:n<ns.length:=by omega
   refine ⟨_,rfl,_,rfl,a,_,_,_,rfl,rfl,hS,iu (v:=.int (ns.getD n 0)) ?_,k⟩
   rw [List.getElem?_map,List.getElem?_eq_getElem h2]
   simp [List.getD,h2]
  ·rw [List.length_map] at h1
   have h2:ns.length<=n:=by omega
   have e:ns.getD n 0=0:=by simp [List.getD,List.getElem?_eq_none_iff.mpr h2]
   rw [e] at k
   exact k
theorem AS {f:Addr} {fd:FuncData} (F:Fun K "taken" "taken" mI f fd) (T:Txt K mg) {gu:Addr} {gn:FuncData} (gP:Cal P w K mg base 1 "poly" ["row"] (iE K) gu gn) {qd:Addr} {pS:FuncData} (qZ:Cal P w K mg base 1 "coefficient" ["row","place"] (fM K) qd pS):FnOk P w K mg base CX0 2 f fd ["first","second"] (kg K bM):=by
 obtain ⟨gL,fW,f6,gH⟩:=gP
 obtain ⟨jS,jf,jm,jL⟩:=qZ
 refine F.ok sc_taken (fun vs H Q E h=>?_) (fun cdv A outer s H vs Q E hr h=>?_)
 ·obtain ⟨a,b,xs,ys,rfl,_⟩:=h
  rfl
 ·obtain ⟨a,b,xs,ys,rfl,hA,hB,hx,hy,k⟩:=h
  refine ⟨_,(af (aj (i:=2) sc_taken.nd rfl (Or.inl rfl) (bA (wN rfl) (by rfl) T.max_ PyProof.Rows.boot_max (aa (bA (cE (K:=K) rfl) (by rfl) T.len_ PySem.boot_len (aa (pv 0) ab)) (aa (bA (cE (K:=K) rfl) (by rfl) T.len_ PySem.boot_len (aa (pv 1) ab)) ab))))
   (ai (au (al gL (hr.mono) rfl fW f6 gH .nil ah (aa (dH (own:=["k"]) (fr:=["first","second"]) (js:=[0,1]) (by walk_at "comp_ok") rfl (fb rfl T.range_ (aa (pv 2) ab)) (fun _ _ _ _=>(aQ (i:=0) (show List.Nodup (["k","first","second"]:List Str) from by decide +kernel) rfl (Or.inl rfl))) (fun _ _ _ _=>(ag bK (al jS (hr.mono) rfl jf jm jL .nil ah (aa (pv 1) (aa (pv 0) ab))) (al jS (hr.mono) rfl jf jm jL .nil ah (aa (pv 2) (aa (pv 0) ab)))))) ab))))),?_⟩
  refine ⟨_,rfl,a,_,rfl,.inl hA,_,rfl,b,_,rfl,.inl hB,_,_,rfl,?_⟩
  rw [vb,List.length_map,List.length_map]
  have hz:max xs.length ys.length<=sizeLine:=by have:=sizeLine_eq;omega
  refine ⟨_,rfl,_,rfl,(kh hz).1,(kh hz).2,qm (lo:=0) (n:=max xs.length ys.length) (fun i zs σ' H'=>∃ z:Option V,σ'=[z,some (.ref a),some (.ref b)]/\zs=((List.range i).map fun k=>V.int (cf xs k-cf ys k))/\H=H') hz ⟨none,rfl,rfl,rfl⟩ ?_ ?_ ?_⟩
  ·rintro i zs σ' H' _ ⟨z,rfl,rfl,rfl⟩
   simp
  ·rintro i zs σ' H' hi ⟨z,rfl,rfl,rfl⟩
   refine ⟨_,rfl,_,rfl,a,xs,i,?_,hA,_,rfl,_,rfl,b,ys,i,?_,hB,_,_,rfl,rfl,_,rfl,?_,rfl⟩
   ·show [V.ref a,V.int (0+(i:Int))]=_
    rw [Int.zero_add]
   ·show [V.ref b,V.int (0+(i:Int))]=_
    rw [Int.zero_add]
   ·rw [List.range_succ,List.map_append];rfl
  ·rintro zs σ' H' p ⟨z,rfl,rfl,rfl⟩ hp
   refine ⟨p,(List.range (max xs.length ys.length)).map fun k=>cf xs k-cf ys k,rfl,SqL.of ?_,?_⟩
   ·rw [ao,List.map_map];rfl
   ·intro p' H' sm hp' e
    refine k p' H' ((Same.upd_new hp).trans sm) ((Same.upd_new hp).free hp') ?_
    rw [e,yg]
def sp1 (g:List Int->List Int):Sp:=fun vs H Q _=>∃ (a:Addr) (ns:List Int),vs=[.ref a]/\H a=some (.lst (ns.map V.int))/\ns.length<=100000/\AllB 100000 ns/\mkL H Q (g ns)
theorem B7 {k:Nat} {n:Nat} (h:n<2^k):Bits k (n:Int):=by show ((n:Int)).natAbs<2^k;rw [Int.natAbs_natCast];exact h
theorem yq {n:Nat} (h:n<=1000000):Bits 1000000 (n:Int):=(B7 (k:=20) (Nat.lt_of_le_of_lt h (by decide))).mono
theorem zP (f:Nat->V) (i:Nat):(List.range i).map f++[f i]=(List.range (i+1)).map f:=by rw [List.range_succ,List.map_append];rfl
theorem AW {f:Addr} {fd:FuncData} (F:Fun K "slope" "slope" mM f fd) (T:Txt K mg):FnOk P w K mg base CX0 1 f fd ["row"] (sp1 slopeL):=by
 refine F.ok yU (fun vs H Q E h=>?_) (fun cdv A outer s H vs Q E hr h=>?_)
 ·obtain ⟨a,ns,rfl,_⟩:=h
  rfl
 ·obtain ⟨a,ns,rfl,hA,hn,hb,k⟩:=h
  have big:=sizeLine_eq
  refine ⟨_,(ai (au (dH (own:=["k"]) (fr:=["row"]) (js:=[0]) (by walk_at "comp_ok") rfl (Au rfl T.range_ (aa ac (aa (bA (cE (K:=K) rfl) (by rfl) T.len_ PySem.boot_len (aa (pv 0) ab)) ab))) (fun _ _ _ _=>(aQ (i:=0) (show List.Nodup (["k","row"]:List Str) from by decide +kernel) rfl (Or.inl rfl))) (fun _ _ _ _=>(ag aD (pv 0) (aM (bY (K:=K) rfl) (pv 1) (pv 0) (fun _ _=>rfl))))))),?_⟩
  have hl:(ns.map V.int).length=ns.length:=List.length_map _
  refine aU ⟨_,rfl,a,_,rfl,.inl (SqL.of hA),1,_,rfl,⟨by decide,by decide,by rw [hl];omega,by rw [hl];omega⟩,qm (lo:=1) (fun i ys σ' H'=>∃ z:Option V,σ'=[z,some (.ref a)]/\ys=((List.range i).map fun (j:Nat)=>V.int (((j:Int)+1)*cf ns (j+1)))/\H=H') (by rw [hl];omega) ⟨none,rfl,rfl,rfl⟩ ?_ ?_ ?_⟩
  ·rintro i ys σ' H' _ ⟨z,rfl,rfl,rfl⟩
   simp
  ·rintro i ys σ' H' hi ⟨z,rfl,rfl,rfl⟩
   rw [hl] at hi
   have hi':i+1<ns.length:=by omega
   have e0:(1:Int)+(i:Int)=((i+1:Nat):Int):=by omega
   refine ⟨_,rfl,_,rfl,_,rfl,a,_,_,_,rfl,rfl,SqL.of hA,ir e0 hi',_,_,rfl,rfl,⟨by rw [e0];exact yq (by omega),(hb.cf _).mono⟩,_,rfl,?_,rfl⟩
   rw [<- zP]
   show _++[V.int ((1+(i:Int))*cf ns (i+1))]=_
   rw [Int.add_comm 1]
  ·rintro ys σ' H' p ⟨z,rfl,rfl,rfl⟩ hp
   refine k p _ (Same.upd_new hp) hp ?_
   have en:(((ns.map V.int).length:Int)-1).toNat=ns.length-1:=by rw [hl];omega
   rw [ao,en];unfold RM.slopeL;rw [List.map_map];rfl
def ma:Sp:=fun vs H Q _=>∃ (a:Addr) (ns:List Int),vs=[.ref a]/\H a=some (.lst (ns.map V.int))/\Tr ns/\ns.length<=1000000/\mkL H Q (ak ns)
theorem Ep {ns:List Int} (ht:Tr ns) (hne:ns≠[]):0<(ar ns:Int):=by
 obtain ⟨r,x,rfl⟩:=(ck ns).resolve_left hne
 have hx:x≠0:=tr_snoc.mp ht
 have hm:x∈r++[x]:=by simp
 have h1:0<ar (r++[x]):=Nat.pos_of_dvd_of_pos (lu hm) (Int.natAbs_pos.mpr hx)
 omega
theorem AZ {f:Addr} {fd:FuncData} (F:Fun K "shrunk" "shrunk" ko f fd) (T:Txt K mg) (hNS:base.NoSeer) (hTr:P.given.tree=none) {pY:Addr} {pM:FuncData} (qU:Cal P w K mg base 2 "shared" ["row"] (md K) pY pM):FnOk P w K mg base CX0 33 f fd ["row"] ma:=by
 obtain ⟨qL,o0,pi,qw⟩:=qU
 refine F.ok sc_shrunk (fun vs H Q E h=>?_) (fun cdv A outer s H vs Q E hr h=>?_)
 ·obtain ⟨a,ns,rfl,_⟩:=h
  rfl
 ·obtain ⟨a,ns,rfl,hA,ht,hn,k⟩:=h
  have big:=sizeLine_eq
  have hdp:(A.deeper (PyProof.Rows.envOfC (Str.ofString "shrunk") (aq ko) s.heap.objs.size f cdv)).depth+100<recursionLimit:=by have:=hr.dp;omega
  refine ⟨_,(af (aj (i:=1) sc_shrunk.nd rfl (Or.inr rfl) (al qL (hr.mono) rfl o0 pi qw .nil ah (aa (pv 0) ab)))
   (ai (au (dH (own:=["value"]) (fr:=["divisor"]) (js:=[1]) (by walk_at "comp_ok") rfl (dj (K:=K) rfl (pv 0)) (fun _ _ _ _=>(aQ (i:=0) (show List.Nodup (["value","divisor"]:List Str) from by decide +kernel) rfl (Or.inl rfl))) (fun _ _ _ _=>(ag (AJ hNS hTr hdp rfl rfl rfl rfl rfl) (pv 0) (pv 1))))))),?_⟩
  refine ap ⟨_,rfl,a,ns,rfl,SqL.of hA,?_⟩
  refine aU ⟨_,rfl,a,rfl,⟨_,SqL.of hA⟩,gC (K:=K) (a:=a) (xs:=ns.map V.int) (fun i ys σ' H'=>∃ (z0:Option V),σ'=[z0,some (.int (ar ns:Nat))]/\ys=((ns.take i).map fun x=>x/(ar ns:Int)).map V.int/\H=H') (by rw [List.length_map];omega) ⟨none,rfl,rfl,rfl⟩ ?_ ?_ ?_⟩
  ·rintro i ys σ' H' _ ⟨z0,rfl,rfl,rfl⟩
   exact ⟨SqL.of hA,by rw [List.length_map,List.length_map,List.length_take];exact Nat.min_le_left _ _⟩
  ·rintro i x ys σ' H' hi ⟨z0,rfl,rfl,rfl⟩
   rw [List.getElem?_map] at hi
   cases e:ns[i]? with
   | none=>rw [e] at hi;cases hi
   | some c =>
     rw [e] at hi
     obtain rfl:=Option.some.inj hi
     have g1:=Ep ht (fun z=>by rw [z] at e;simp at e)
     refine ⟨_,rfl,_,rfl,_,_,rfl,rfl,g1,_,rfl,?_,rfl⟩
     rw [List.take_add_one,e]
     simp
  ·rintro ys σ' H' p ⟨z0,rfl,rfl,rfl⟩ hp
   refine k p _ (Same.upd_new hp) hp ?_
   rw [ao,List.length_map,List.take_length]
   rfl
def j9:Sp:=fun vs H Q _=>∃ (a:Addr) (ns:List Int),vs=[.ref a]/\H a=some (.lst (ns.map V.int))/\Tr ns/\ns.length<=1000000/\mkL H Q (av ns)
theorem qD (r:List Int) (x:Int):atI ((r++[x]).map V.int) (-1)=some (.int x):=by
 rw [List.map_append];exact qF _ _
theorem A9 {f:Addr} {fd:FuncData} (F:Fun K "plain" "plain" mX f fd) (T:Txt K mg) {pW:Addr} {pK:FuncData} (qS:Cal P w K mg base 33 "shrunk" ["row"] ma pW pK):FnOk P w K mg base CX0 34 f fd ["row"] j9:=by
 obtain ⟨jP,jc,jj,jI⟩:=qS
 refine F.ok sc_plain (fun vs H Q E h=>?_) (fun cdv A outer s H vs Q E hr h=>?_)
 ·obtain ⟨a,ns,rfl,_⟩:=h
  rfl
 ·obtain ⟨a,ns,rfl,hA,ht,hn,k⟩:=h
  have big:=sizeLine_eq
  have hu:=hr.units
  refine ⟨_,(af (aj (i:=1) sc_plain.nd rfl (Or.inl rfl) (al jP (hr.mono) rfl jc jj jI .nil ah (aa (pv 0) ab)))
   (af (aV (PW.pt (ee (aE (ff (K:=K) rfl hu) (pv 1) (bj ab) (aA _)) (d9 (aE da (aM (bY (K:=K) rfl) (pv 1) (bJ bI ac) (fun _ _=>rfl)) ac (aA _)))))
     (ai (au (dH (own:=["value"]) (fr:=[]) (js:=[]) (by walk_at "comp_ok") rfl (dj (K:=K) rfl (pv 1)) (fun _ _ _ _=>(aQ (i:=0) (show List.Nodup (["value"]:List Str) from by decide +kernel) rfl (Or.inl rfl))) (fun _ _ _ _=>(bJ bI (pv 0))))))
     aW)
   (ai (au (pv 1))))),?_⟩
  refine ap ⟨_,rfl,a,ns,rfl,hA,ht,hn,fun p H1 s1 hp e1=>?_⟩
  have hsl:(ak ns).length=ns.length:=List.length_map _
  have done:b9 (ak ns)=ak ns->Q (.ref p) H1:=fun e=>k p H1 s1 hp (by rw [e1];show _=some (HO.lst ((b9 (ak ns)).map V.int));rw [e])
  refine ku (fun σ' H'=>σ'=[some (.ref a),some (.ref p)]/\Same H H'/\H' p=some (.lst ((ak ns).map V.int))/\b9 (ak ns)=ak ns) ?_ ?_
  ·rintro σ' H' ⟨rfl,s2,e2,e3⟩
   exact ⟨_,rfl,k p H' s2 hp (by rw [e2];show _=some (HO.lst ((b9 (ak ns)).map V.int));rw [e3])⟩
  intro rest
  refine cW ⟨_,rfl,Nat.zero_le _,fun q hq=>?_⟩
  have s2:Same H (upd H1 q (.lst [])):=s1.then_new hq
  have e2:upd H1 q (.lst []) p=some (.lst ((ak ns).map V.int)):=by rw [upd_ne (aR e1 hq)];exact e1
  refine ⟨p,q,ak ns,[],rfl,rfl,SqL.of e2,SqL.of ao,_,rfl,?_⟩
  refine cC (fun hne=>?_) (fun he=>?_)
  ·obtain ⟨r,x,er⟩:=(ck (ak ns)).resolve_left hne
   refine ⟨_,rfl,_,rfl,p,_,_,.int x,rfl,rfl,SqL.of e2,(by rw [er];exact qD r x),_,_,rfl,rfl,_,rfl,?_⟩
   have elast:aN (ak ns)=x:=by rw [er,cN]
   refine aJ (fun hx=>?_) (fun hx=>?_)
   ·have hx':x<0:=hx
    have epos:b9 (ak ns)=(ak ns).map fun x => -x:=by unfold b9;rw [elast,if_pos hx']
    refine aU ⟨_,rfl,p,rfl,⟨_,SqL.of e2⟩,gC (K:=K) (a:=p) (xs:=(ak ns).map V.int) (fun i ys σ' H'=>∃ (z0:Option V),σ'=[z0]/\ys=(((ak ns).take i).map fun x => -x).map V.int/\upd H1 q (.lst [])=H') (by rw [List.length_map,hsl];omega) ⟨none,rfl,rfl,rfl⟩ ?_ ?_ ?_⟩
    ·rintro i ys σ' H' _ ⟨z0,rfl,rfl,rfl⟩
     exact ⟨SqL.of e2,by rw [List.length_map,List.length_map,List.length_take];exact Nat.min_le_left _ _⟩
    ·rintro i x ys σ' H' hi ⟨z0,rfl,rfl,rfl⟩
     rw [List.getElem?_map] at hi
     cases e:(ak ns)[i]? with
     | none=>rw [e] at hi;cases hi
     | some c =>
       rw [e] at hi
       obtain rfl:=Option.some.inj hi
       refine ⟨_,rfl,_,rfl,_,rfl,?_,rfl⟩
       rw [List.take_add_one,e]
       simp
    ·rintro ys σ' H' p' ⟨z0,rfl,rfl,rfl⟩ hp'
     refine k p' _ (s2.then_new hp') (s2.free hp') ?_
     rw [ao,List.length_map,List.take_length]
     show _=some (HO.lst ((b9 (ak ns)).map V.int))
     rw [epos]
   ·exact rest _ _ ⟨rfl,s2,e2,by unfold b9;rw [elast,if_neg hx]⟩
  ·have he':ak ns=[]:=he
   exact rest _ _ ⟨rfl,s2,e2,by rw [he'];rfl⟩
def si:Sp:=fun vs H Q _=>∃ (a:Addr) (xs:List Int) (c:Int),vs=[.ref a,.int c]/\H a=some (.lst (xs.map V.int))/\xs.length<=1000000/\Bits 1000000 c/\AllB 1000000 xs/\mkL H Q (scL c xs)
theorem A3 {f:Addr} {fd:FuncData} (F:Fun K "scaled" "scaled" mR f fd) (T:Txt K mg):FnOk P w K mg base CX0 1 f fd ["row","factor"] si:=by
 refine F.ok yX (fun vs H Q E h=>?_) (fun cdv A outer s H vs Q E hr h=>?_)
 ·obtain ⟨a,xs,c,rfl,_⟩:=h
  rfl
 ·obtain ⟨a,xs,c,rfl,hA,hn,bc,bx,k⟩:=h
  have big:=sizeLine_eq
  refine ⟨_,(ai (au (dH (own:=["value"]) (fr:=["factor"]) (js:=[1]) (by walk_at "comp_ok") rfl (dj (K:=K) rfl (pv 0)) (fun _ _ _ _=>(aQ (i:=0) (show List.Nodup (["value","factor"]:List Str) from by decide +kernel) rfl (Or.inl rfl))) (fun _ _ _ _=>(ag aD (pv 1) (pv 0)))))),?_⟩
  refine aU ⟨_,rfl,a,rfl,⟨_,SqL.of hA⟩,gC (K:=K) (a:=a) (xs:=xs.map V.int) (fun i ys σ' H'=>∃ (z0:Option V),σ'=[z0,some (.int c)]/\ys=(scL c (xs.take i)).map V.int/\H=H') (by rw [List.length_map];omega) ⟨none,rfl,rfl,rfl⟩ ?_ ?_ ?_⟩
  ·rintro i ys σ' H' _ ⟨z0,rfl,rfl,rfl⟩
   exact ⟨SqL.of hA,by rw [List.length_map,cz,List.length_take];exact Nat.min_le_left _ _⟩
  ·rintro i x ys σ' H' hi ⟨z0,rfl,rfl,rfl⟩
   obtain ⟨y,_,rfl,hm,et⟩:=fu hi
   refine ⟨_,rfl,_,rfl,_,_,rfl,rfl,⟨bc,bx y hm⟩,_,rfl,?_,rfl⟩
   rw [et];simp [scL]
  ·rintro ys σ' H' p ⟨z0,rfl,rfl,rfl⟩ hp
   refine k p _ (Same.upd_new hp) hp ?_
   rw [ao,List.length_map,List.take_length]
theorem wy (ms:List Int):fB ms none (some (-1))=ms.take (ms.length-1):=by
 unfold fB
 rw [HT.sIx_none,List.drop_zero,Nat.sub_zero]
 congr 1
 show (if (-1:Int)<0 then ((-1:Int)+(ms.length:Int)).toNat else min (-1:Int).toNat ms.length)=_
 rw [if_pos (by decide)];omega
theorem wJ {ms:List Int} {n k:Nat}:cf (ms.take n) k=if k<n then cf ms k else 0:=by
 unfold cf
 by_cases h:k<n
 ·rw [if_pos h];simp [List.getD,List.getElem?_take,h]
 ·rw [if_neg h];simp [List.getD,List.getElem?_take,h]
def sG:Sp:=fun vs H Q _=>∃ (a b:Addr) (rs ys:List Int) (p:Nat) (l:Int),vs=[.ref a,.ref b,.int p,.int l]/\H a=some (.lst (rs.map V.int))/\H b=some (.lst (ys.map V.int))/\rs.length=p+ys.length/\ys≠[]/\Bits 1000000 l/\AllB 1000000 ys/\mkL H Q (fY rs ys p l)
theorem Bi {f:Addr} {fd:FuncData} (F:Fun K "lowered" "lowered" m8 f fd) (T:Txt K mg):FnOk P w K mg base CX0 1 f fd ["row","second","place","lead"] sG:=by
 refine F.ok sc_lowered (fun vs H Q E h=>?_) (fun cdv A outer s H vs Q E hr h=>?_)
 ·obtain ⟨a,b,rs,ys,p,l,rfl,_⟩:=h
  rfl
 ·obtain ⟨a,b,rs,ys,p,l,rfl,hA,hB,hl,hy,bl,by',k⟩:=h
  have hyl:=List.length_pos_iff.mpr hy
  refine ⟨_,(af (aj (i:=4) sc_lowered.nd rfl (Or.inl rfl) (kD (kj (K:=K) rfl) (pv 0) kB (kA (bJ bI ac))))
   (af (cv PassesOwn.never rfl (oC rfl T.enumerate_ (aa (kD (kj (K:=K) rfl) (pv 1) kB (kA (bJ bI ac))) ab)) (ic rfl (cw (aQ (i:=5) sc_lowered.nd rfl (Or.inl rfl)) (cw (aQ (i:=6) sc_lowered.nd rfl (Or.inl rfl)) ib)))
     (ai (eX (ag bK (aM (bY (K:=K) rfl) (pv 4) (ag bh (pv 2) (pv 5)) (fun _ _=>rfl)) (ag aD (pv 3) (pv 6))) (iY (pv 4) (ag bh (pv 2) (pv 5)) iR))))
   (ai (au (pv 4))))),?_⟩
  refine ap ⟨_,rfl,_,rfl,_,rfl,a,_,rfl,SqL.of hA,fun kp hkp=>?_⟩
  rw [qk,wy]
  have s1:=Same.upd_new (o:=.lst ((rs.take (rs.length-1)).map V.int)) hkp
  have nkb:b≠kp:=aR hB hkp
  refine ⟨_,rfl,_,rfl,_,rfl,b,_,rfl,SqL.of (s1 _ _ hB),fun p2 hp2=>?_⟩
  rw [qk,wy]
  have n2:kp≠p2:=aR ao hp2
  generalize hH2:upd (upd H kp (.lst ((rs.take (rs.length-1)).map V.int))) p2 (.lst ((ys.take (ys.length-1)).map V.int))=H2
  have hk2:H2 kp=some (.lst ((rs.take (rs.length-1)).map V.int)):=by rw [<- hH2,upd_ne n2,ao]
  have hq2:H2 p2=some (.lst ((ys.take (ys.length-1)).map V.int)):=by rw [<- hH2,ao]
  have s2:Same H H2:=by rw [<- hH2];exact s1.then_new hp2
  have lt:(rs.take (rs.length-1)).length=rs.length-1:=by rw [List.length_take];omega
  have lty:(ys.take (ys.length-1)).length=ys.length-1:=by rw [List.length_take];omega
  refine ⟨p2,rfl,⟨_,SqL.of hq2⟩,pH (K:=K) (a:=p2) (xs:=(ys.take (ys.length-1)).map V.int) (fun i σ' H'=>∃ (acc:List Int) (z5 z6:Option V),σ'=[some (.ref a),some (.ref b),some (.int p),some (.int l),some (.ref kp),z5,z6]/\SameB kp H2 H'/\H' kp=some (.lst (acc.map V.int))/\acc.length=rs.length-1/\∀ n,n<acc.length->cf acc n=cf rs n-(if p<=n/\n-p<i then l*cf ys (n-p) else 0))
   ⟨_,none,none,rfl,SameB.refl _ _,hk2,lt,fun n hn=>by rw [wJ,if_pos (by omega),if_neg (by omega)];omega⟩ ?_ ?_ ?_⟩
  ·rintro i σ' H' _ ⟨acc,z5,z6,rfl,sb,_⟩
   exact SqL.of (sb _ _ (Ne.symm n2) hq2)
  ·rintro i x σ' H' q hi ⟨acc,z5,z6,rfl,sb,hpa,hal,hac⟩ hq
   have hil:i<ys.length-1:=by
    apply Classical.byContradiction
    intro hn
    rw [List.getElem?_eq_none_iff.mpr (by rw [List.length_map,lty];omega)] at hi
    cases hi
   rw [List.getElem?_map,gf (by rw [lty];exact hil),wJ,if_pos hil] at hi
   obtain rfl:=Option.some.inj hi
   refine ⟨q,_,rfl,SqT.of ao,rfl,_,_,rfl,_,_,rfl,rfl,?_⟩
   have nqp:kp≠q:=aR hpa hq
   have hpa':upd H' q (.tup [.int i,.int (cf ys i)]) kp=some (.lst (acc.map V.int)):=by rw [upd_ne nqp];exact hpa
   have hpi:p+i<acc.length:=by omega
   have epi:((p:Nat):Int)+((i:Nat):Int)=((p+i:Nat):Int):=by omega
   refine ⟨_,rfl,_,rfl,_,rfl,_,_,rfl,rfl,kp,_,_,_,rfl,rfl,SqL.of hpa',ir epi hpi,_,rfl,_,rfl,_,_,rfl,rfl,⟨bl,by'.cf i⟩,_,_,rfl,rfl,_,rfl,_,rfl,_,rfl,_,_,rfl,rfl,kp,_,_,p+i,rfl,rfl,hpa',jn epi (by rw [List.length_map];exact hpi),?_⟩
   refine ⟨acc.set (p+i) (cf acc (p+i)-l*cf ys i),_,_,rfl,(sb.then_new hq).then_upd,by rw [ao,kS],by rw [List.length_set];exact hal,fun n hn=>?_⟩
   rw [List.length_set] at hn
   rw [jC hpi]
   by_cases e:n=p+i
   ·subst e
    rw [if_pos rfl,hac _ hpi,if_neg (by omega),if_pos (by omega),Nat.add_sub_cancel_left];omega
   ·rw [if_neg e,hac n hn]
    by_cases h1:p<=n/\n-p<i
    ·rw [if_pos h1,if_pos (by omega)]
    ·rw [if_neg h1,if_neg (by omega)]
  ·rintro σ' H' ⟨acc,z5,z6,rfl,sb,hpa,hal,hac⟩
   rw [List.length_map,lty] at hac
   refine ⟨_,rfl,k kp H' (fun b' o e=>sb b' o (aR e hkp) (s2 b' o e)) hkp ?_⟩
   rw [hpa]
   have e:acc=fY rs ys p l:=by
    apply dC
    ·rw [hal,vo]
    ·intro n hn
     have hn':n<rs.length-1:=by omega
     rw [hac n hn,lB,if_pos hn']
     by_cases h1:p<=n
     ·have h2:p<=n/\n-p<ys.length-1:=⟨h1,by omega⟩
      rw [if_pos h1,if_pos h2]
     ·have h2:¬ (p<=n/\n-p<ys.length-1):=fun z=>h1 z.1
      rw [if_neg h1,if_neg h2]
   rw [e]
theorem AllB.of_cf {k:Nat} {l:List Int} (h:∀ n,Bits k (RM.cf l n)):AllB k l:=fun x hx=>by
 obtain ⟨i,hi,rfl⟩:=List.mem_iff_getElem.mp hx
 have:=h i
 rwa [cR hi] at this
theorem qG {k:Nat} {x:Int} (h:Bits k x):Bits k ((x.natAbs:Nat):Int):=h.of_le (by rw [Int.natAbs_natCast];exact Nat.le_refl _)
theorem sg_bits {x:Int}:Bits 1 (sg x):=by
 show (sg x).natAbs<2^1
 unfold sg;split<;>(try split)<;>decide
theorem iP {k:Nat} {x y:Int} (h:Bits k y):Bits k (sg x*y):=h.of_le (by
 rw [Int.natAbs_mul]
 have h2:(sg x).natAbs<=1:=by unfold sg;split<;>(try split)<;>decide
 calc (sg x).natAbs*y.natAbs<=1*y.natAbs:=Nat.mul_le_mul_right _ h2
  _=y.natAbs:=Nat.one_mul _)
theorem wv {xs ys:List Int} {b:Nat} (hx:AllB b xs) (hy:AllB b ys):∀ i,AllB (b+i*(b+1)) (aH xs ys i).1/\AllB (b+i*(b+1)) (aH xs ys i).2
 | 0=>by rw [Nat.zero_mul];exact ⟨AllB.zeros,hx⟩
 | i+1=>by
   obtain ⟨h1,h2⟩:=wv hx hy i
   have e:b+(i+1)*(b+1)=b+i*(b+1)+b+1:=by rw [Nat.succ_mul];omega
   have hs:Bits b (((RM.cf ys (ys.length-1)).natAbs:Nat):Int):=qG (hy.cf _)
   rw [e]
   show AllB _ (cA ys (aH xs ys i) _).1/\AllB _ (cA ys (aH xs ys i) _).2
   unfold cA
   dsimp only
   constructor
   ·intro x hx
    rcases List.mem_or_eq_of_mem_set hx with h | rfl
    ·obtain ⟨y,hy',rfl⟩:=List.mem_map.mp h
     have:=hs.mul (h1 y hy')
     exact this.mono (by omega)
    ·exact (iP (h2.cf _)).mono (by omega)
   ·refine AllB.of_cf fun n=>?_
    rw [lB]
    by_cases hn:n<(scL (((RM.cf ys (ys.length-1)).natAbs:Nat):Int) (aH xs ys i).2).length-1
    ·rw [if_pos hn,aX]
     have m1:Bits (b+i*(b+1)+b) ((((RM.cf ys (ys.length-1)).natAbs:Nat):Int)*RM.cf (aH xs ys i).2 n):=by
      have:=hs.mul (h2.cf n);rwa [Nat.add_comm] at this
     refine m1.sub ?_
     by_cases hp:(xs.length+1-ys.length-1-i)<=n
     ·rw [if_pos hp]
      exact (iP (h2.cf _)).mul (hy.cf _)
     ·rw [if_neg hp];exact Bits.zero
    ·rw [if_neg hn];exact Bits.zero
theorem gF {k:Nat} {b:Int} (h:Bits k b):∀ n,Bits (k*n+1) (b^n)
 | 0=>by show ((b^0:Int)).natAbs<2^(k*0+1);rw [Int.pow_zero,Nat.mul_zero];decide
 | n+1=>by
   rw [Int.pow_succ]
   have:=(gF h n).mul h
   exact this.mono (by rw [Nat.mul_succ];omega)
def Ci (H:Hp) (Q:VK) (xs ys:List Int):Prop:=∀ (t q r:Addr) (H':Hp),Same H H'->H t=none->H q=none->H r=none->q≠r->q≠t->r≠t->H' t=some (.tup [.int (bB xs ys),.ref q,.ref r])->H' q=some (.lst ((bE xs ys).map V.int))->H' r=some (.lst ((aB xs ys).map V.int))->Q (.ref t) H'
def ke:Sp:=fun vs H Q _=>∃ (a b:Addr) (xs ys:List Int) (n:Nat),vs=[.ref a,.ref b]/\H a=some (.lst (xs.map V.int))/\H b=some (.lst (ys.map V.int))/\ys≠[]/\AllB n xs/\AllB n ys/\(xs.length+2)*(n+1)<=1000000/\ys.length<=1000000/\Ci H Q xs ys
theorem qC {l:List Int} (h:l≠[]):atI (l.map V.int) (-1)=some (.int (cf l (l.length-1))):=by
 obtain ⟨r,x,rfl⟩:=(ck l).resolve_left h
 have e:(r++[x]).length-1=r.length:=by simp
 rw [e,io,List.map_append];exact qF _ _
theorem Bq {f:Addr} {fd:FuncData} (F:Fun K "divided" "divided" nl f fd) (T:Txt K mg) {gr:Addr} {gm:FuncData} (gO:Cal P w K mg base 1 "whole_sign" ["value"] iF gr gm) {gv:Addr} {gq:FuncData} (gQ:Cal P w K mg base 1 "degree" ["row"] iG gv gq) {Fq:Addr} {EJ:FuncData} (Ij:Cal P w K mg base 1 "scaled" ["row","factor"] si Fq EJ) {Fz:Addr} {ER:FuncData} (Iv:Cal P w K mg base 1 "lowered" ["row","second","place","lead"] sG Fz ER) {gu:Addr} {gn:FuncData} (gP:Cal P w K mg base 1 "poly" ["row"] (iE K) gu gn):FnOk P w K mg base CX0 2 f fd ["first","second"] ke:=by
 obtain ⟨gK,fV,fZ,gG⟩:=gO
 obtain ⟨dF,dz,dA,dE⟩:=gQ
 obtain ⟨xj,vc,vy,wU⟩:=Ij
 obtain ⟨HD,CL,DF,GP⟩:=Iv
 obtain ⟨gL,fW,f6,gH⟩:=gP
 refine F.ok sc_divided (fun vs H Q E h=>?_) (fun cdv A outer s H vs Q E hr h=>?_)
 ·obtain ⟨a,b,xs,ys,n,rfl,_⟩:=h
  rfl
 ·obtain ⟨a,b,xs,ys,nb,rfl,hA,hB,hy,bx,by',hsz,hyn,k⟩:=h
  have big:=sizeLine_eq
  have hu:=hr.units
  have hyl:=List.length_pos_iff.mpr hy
  have hxl:xs.length<=1000000:=by
   have:=Nat.mul_le_mul_left (xs.length+2) (show 1<=nb+1 by omega)
   omega
  have bsz:∀ i,i<=xs.length->nb+i*(nb+1)<=1000000:=fun i hi=>by
   have h1:=Nat.mul_le_mul_right (nb+1) hi
   rw [Nat.add_mul] at hsz
   omega
  have hnb:nb<=1000000:=by have:=bsz 0 (Nat.zero_le _);omega
  refine ⟨_,(af (aV (aE (iZ (K:=K) rfl hu) (pv 1) (bj ab) (aA _))
   (ai fR)
   aW)
   (af (aj (i:=2) sc_divided.nd rfl (Or.inl rfl) (bA gE (by rfl) T.abs_ PyProof.Rows.boot_abs (aa (aM (bY (K:=K) rfl) (pv 1) (bJ bI ac) (fun _ _=>rfl)) ab)))
   (af (aj (i:=3) sc_divided.nd rfl (Or.inl rfl) (al gK (hr.mono) rfl fV fZ gG .nil ah (aa (aM (bY (K:=K) rfl) (pv 1) (bJ bI ac) (fun _ _=>rfl)) ab)))
   (af (aj (i:=4) sc_divided.nd rfl (Or.inl rfl) (ag bh (ag bK (al dF (hr.mono) rfl dz dA dE .nil ah (aa (pv 0) ab)) (al dF (hr.mono) rfl dz dA dE .nil ah (aa (pv 1) ab))) ac))
   (af (aj (i:=5) sc_divided.nd rfl (Or.inl rfl) ac)
   (af (aj (i:=6) sc_divided.nd rfl (Or.inl rfl) (ag oJ (bj (aa ac ab)) (pv 4)))
   (af (aj (i:=7) sc_divided.nd rfl (Or.inl rfl) (fe (lC (K:=K) rfl) (by rfl) T.list_ PyProof.Rows.boot_list (aa (pv 0) ab)))
   (af (cv PassesOwn.never rfl (ul rfl T.range_ (aa (ag bK (pv 4) ac) (aa (bJ bI ac) (aa (bJ bI ac) ab)))) (aQ (i:=8) sc_divided.nd rfl (Or.inl rfl))
     (af (aj (i:=9) sc_divided.nd rfl (Or.inl rfl) (ag aD (pv 3) (aM (bY (K:=K) rfl) (pv 7) (bJ bI ac) (fun _ _=>rfl))))
       (af (aj (i:=5) sc_divided.nd rfl (Or.inl rfl) (ag aD (pv 5) (pv 2)))
       (af (aj (i:=6) sc_divided.nd rfl (Or.inl rfl) (al xj (hr.mono) rfl vc vy wU .nil ah (aa (pv 6) (aa (pv 2) ab))))
       (af (eX (pv 9) (iY (pv 6) (pv 8) iR))
       (ai (aj (i:=7) sc_divided.nd rfl (Or.inl rfl) (al HD (hr.mono) rfl CL DF GP .nil ah (aa (al xj (hr.mono) rfl vc vy wU .nil ah (aa (pv 7) (aa (pv 2) ab))) (aa (pv 1) (aa (pv 8) (aa (pv 9) ab))))))))))))
   (ai (au (dG (aa (pv 5) (aa (pv 6) (aa (al gL (hr.mono) rfl fW f6 gH .nil ah (aa (pv 7) ab)) ab)))))))))))))),?_⟩
  refine bC ⟨_,rfl,Nat.zero_le _,fun p1 hp1=>?_⟩
  have s1:Same H (upd H p1 (.lst [])):=Same.upd_new hp1
  refine ⟨b,p1,ys,[],rfl,rfl,SqL.of (s1 _ _ hB),SqL.of ao,_,rfl,aJ (fun h0=>absurd h0 hy) (fun _=>?_)⟩
  generalize upd H p1 (.lst [])=H1 at s1 ⊢
  refine ap ⟨_,rfl,_,rfl,b,_,_,_,rfl,rfl,SqL.of (s1 _ _ hB),qC hy,_,rfl,?_⟩
  rw [jN]
  refine ap ⟨_,rfl,_,rfl,b,_,_,_,rfl,rfl,SqL.of (s1 _ _ hB),qC hy,_,rfl,?_⟩
  refine ap ⟨_,rfl,a,_,rfl,s1 _ _ hA,_,rfl,b,_,rfl,s1 _ _ hB,_,_,rfl,rfl,_,_,rfl,rfl,?_⟩
  dsimp only
  rw [List.length_map,List.length_map]
  have est:((xs.length:Int)-1-((ys.length:Int)-1)+1).toNat=aP xs ys:=by unfold aP;omega
  generalize hst:((xs.length:Int)-1-((ys.length:Int)-1)+1)=st at est ⊢
  refine ap ?_
  refine ap ⟨by show 1<=sizeLine;decide,fun p2 hp2=>⟨_,rfl,p2,_,_,rfl,rfl,ao,by omega,by omega,by show 1*_<=_;omega,fun q hq=>?_⟩⟩
  rw [est,og]
  have s2:=s1.then_new (o:=.lst [V.int 0]) hp2
  have s3:=s2.then_new (o:=.lst ((List.replicate (aP xs ys) (0:Int)).map V.int)) hq
  have fq:H q=none:=s2.free hq
  refine ap ⟨_,rfl,a,_,rfl,.inl (SqL.of (s3 _ _ hA)),fun r hr'=>?_⟩
  have hq3:upd (upd H1 p2 (.lst [V.int 0])) q (.lst ((List.replicate (aP xs ys) (0:Int)).map V.int)) q=some (.lst ((List.replicate (aP xs ys) (0:Int)).map V.int)):=ao
  have s4:=s3.then_new (o:=.lst (xs.map V.int)) hr'
  have fr:H r=none:=s3.free hr'
  have nqr:q≠r:=aR hq3 hr'
  generalize hH4:upd (upd (upd H1 p2 (.lst [V.int 0])) q (.lst ((List.replicate (aP xs ys) (0:Int)).map V.int))) r (.lst (xs.map V.int))=H4 at s4 ⊢
  have hq4:H4 q=some (.lst ((List.replicate (aP xs ys) (0:Int)).map V.int)):=by rw [<- hH4,upd_ne nqr];exact hq3
  have hr4:H4 r=some (.lst (xs.map V.int)):=by rw [<- hH4,ao]
  have hs:Bits nb (((cf ys (ys.length-1)).natAbs:Nat):Int):=qG (by'.cf _)
  refine ⟨_,rfl,_,_,rfl,rfl,_,rfl,_,rfl,st-1,-1,rfl,by omega,?_⟩
  have en:(st-1 - -1).toNat=aP xs ys:=by rw [<- est];congr 1;omega
  rw [en]
  refine wa (fun i σ' H'=>∃ (q r:Addr) (z8 z9:Option V),σ'=[some (.ref a),some (.ref b),some (.int ((cf ys (ys.length-1)).natAbs:Nat)),some (.int (sg (cf ys (ys.length-1)))),some (.int st),some (.int (((cf ys (ys.length-1)).natAbs:Int)^i)),some (.ref q),some (.ref r),z8,z9]/\Same H H'/\H q=none/\H r=none/\q≠r/\H' q=some (.lst ((aH xs ys i).1.map V.int))/\H' r=some (.lst ((aH xs ys i).2.map V.int)))
   ⟨q,r,none,none,rfl,s4,fq,fr,nqr,hq4,hr4⟩ ?_ ?_
  ·rintro i σ' H' hi ⟨q,r,z8,z9,rfl,sm,fq,fr,nqr,hq',hr'⟩
   obtain ⟨lq,lr,low,_⟩:=gA (a:=xs) hy i (Nat.le_of_lt hi)
   obtain ⟨bq,br⟩:=wv bx by' i
   have hix:i<xs.length:=by unfold aP at hi;omega
   have bi:=bsz i (Nat.le_of_lt hix)
   have rne:(aH xs ys i).2≠[]:=fun z=>by rw [z] at lr;simp at lr;omega
   have ep:st-1+(i:Int) * -1=((xs.length+1-ys.length-1-i:Nat):Int):=by unfold aP at hi est;omega
   refine ap ⟨_,rfl,_,rfl,_,rfl,r,_,_,_,rfl,rfl,SqL.of hr',qC rne,_,_,rfl,rfl,⟨sg_bits.mono,(br.cf _).mono bi⟩,?_⟩
   have bpow:Bits 1000000 (((cf ys (ys.length-1)).natAbs:Int)^i):=(gF hs i).mono (by
    have:=Nat.mul_le_mul_right i (show nb<=nb+1 by omega)
    rw [Nat.mul_comm (nb+1) i] at this
    have h2:=bsz (i+1) hix
    rw [Nat.succ_mul] at h2
    omega)
   refine ap ⟨_,rfl,_,rfl,_,_,rfl,rfl,⟨bpow,hs.mono hnb⟩,?_⟩
   dsimp only
   rw [<- Int.pow_succ]
   refine ap ⟨_,rfl,_,rfl,q,_,_,rfl,hq',by rw [lq];omega,hs.mono hnb,bq.mono bi,fun q1 H2 sm2 hq1 eq1=>?_⟩
   have fq1:H q1=none:=sm.free hq1
   have sm2':=sm.trans sm2
   have hpl:xs.length+1-ys.length-1-i<(scL ((cf ys (ys.length-1)).natAbs:Int) (aH xs ys i).1).length:=by rw [cz,lq];unfold aP at hi;omega
   refine ⟨_,rfl,_,rfl,_,rfl,q1,_,_,_,rfl,rfl,eq1,jn ep (by rw [List.length_map];exact hpl),?_⟩
   rw [kS]
   have sm3:Same H (upd H2 q1 (.lst (((scL ((cf ys (ys.length-1)).natAbs:Int) (aH xs ys i).1).set (xs.length+1-ys.length-1-i) (sg (cf ys (ys.length-1))*cf (aH xs ys i).2 ((aH xs ys i).2.length-1))).map V.int))):=fi sm2' fq1
   have nq1r:q1≠r:=fun z=>by rw [z,hr'] at hq1;cases hq1
   have hr3:upd H2 q1 (.lst (((scL ((cf ys (ys.length-1)).natAbs:Int) (aH xs ys i).1).set (xs.length+1-ys.length-1-i) (sg (cf ys (ys.length-1))*cf (aH xs ys i).2 ((aH xs ys i).2.length-1))).map V.int)) r=some (.lst ((aH xs ys i).2.map V.int)):=by rw [upd_ne (Ne.symm nq1r)];exact sm2 _ _ hr'
   have hq3:upd H2 q1 (.lst (((scL ((cf ys (ys.length-1)).natAbs:Int) (aH xs ys i).1).set (xs.length+1-ys.length-1-i) (sg (cf ys (ys.length-1))*cf (aH xs ys i).2 ((aH xs ys i).2.length-1))).map V.int)) q1=some (.lst (((scL ((cf ys (ys.length-1)).natAbs:Int) (aH xs ys i).1).set (xs.length+1-ys.length-1-i) (sg (cf ys (ys.length-1))*cf (aH xs ys i).2 ((aH xs ys i).2.length-1))).map V.int)):=ao
   generalize upd H2 q1 (.lst (((scL ((cf ys (ys.length-1)).natAbs:Int) (aH xs ys i).1).set (xs.length+1-ys.length-1-i) (sg (cf ys (ys.length-1))*cf (aH xs ys i).2 ((aH xs ys i).2.length-1))).map V.int))=H3 at sm3 hr3 hq3 ⊢
   refine ⟨_,rfl,_,rfl,r,_,_,rfl,hr3,by rw [lr];omega,hs.mono hnb,br.mono bi,fun r1 H5 sm5 hr1 er1=>?_⟩
   have sm35:=sm3.trans sm5
   refine ⟨_,rfl,_,rfl,_,rfl,r1,b,_,_,(xs.length+1-ys.length-1-i),sg (cf ys (ys.length-1))*cf (aH xs ys i).2 ((aH xs ys i).2.length-1),?_,er1,sm35 _ _ hB,?_,hy,(iP (br.cf _)).mono bi,by'.mono hnb,fun r2 H6 sm6 hr2 er2=>?_⟩
   ·rw [<- ep];rfl
   ·rw [cz,lr];unfold aP at hi;omega
   ·have nqr2:q1≠r2:=fun z=>by rw [<- z,sm5 _ _ hq3] at hr2;cases hr2
    exact ⟨q1,r2,_,_,rfl,sm35.trans sm6,fq1,sm35.free hr2,nqr2,sm6 _ _ (sm5 _ _ hq3),er2⟩
  ·rintro σ' H' ⟨q,r,z8,z9,rfl,sm,fq,fr,nqr,hq',hr'⟩
   refine ⟨_,rfl,_,rfl,_,rfl,r,_,rfl,SqL.of hr',fun r1 H2 sm2 hr1 er1=>⟨by show 3<=sizeLine;decide,fun t ht=>?_⟩⟩
   have nqr1:q≠r1:=fun z=>by rw [<- z,hq'] at hr1;cases hr1
   have ntq:q≠t:=aR (sm2 _ _ hq') ht
   have ntr:r1≠t:=aR er1 ht
   refine k t q r1 _ ((sm.trans sm2).then_new ht) ((sm.trans sm2).free ht) fq (sm.free hr1) nqr1 ntq ntr ao ?_ ?_
   ·rw [upd_ne ntq];exact sm2 _ _ hq'
   ·rw [upd_ne ntr];exact er1
def Vp (C:Addr) (H:Hp) (vs:List V) (a r:Addr) (ns:List Int) (t b:Int):Prop:=vs=[.ref a,.ref r]/\H a=some (.lst (ns.map V.int))/\RA C H r t b/\ns.length<=20/\AllB 1000 ns/\Bits 3000 t/\Bits 3000 b
def VpI (H:Hp) (vs:List V) (a:Addr) (ns:List Int) (t b:Int):Prop:=vs=[.ref a,.int t,.int b]/\H a=some (.lst (ns.map V.int))/\ns.length<=20/\AllB 1000 ns/\Bits 3000 t/\Bits 3000 b
def rY:Sp:=fun vs H Q _=>∃ (a:Addr) (ns:List Int) (t b:Int),VpI H vs a ns t b/\∀ (p:Addr) (H':Hp),Same H H'->H p=none->H' p=some (.tup [.int (hv t b ns),.int (b^ns.length)])->Q (.ref p) H'
theorem vW {t b:Int} (bt:Bits 3000 t) (bb:Bits 3000 b):∀ {l:List Int},AllB 1000 l->Bits (1001+3001*l.length) (hv t b l)
 | [],_=>by refine Bits.mono (j:=1) ?_ (by omega);show (0:Int).natAbs<2^1;decide
 | v::l,h=>by
   rw [c6]
   have h1:=h v (List.mem_cons_self ..)
   have h2:=vW bt bb (l:=l) fun x hx=>h x (List.mem_cons_of_mem _ hx)
   have e1:=(h1.mul (gF bb (l.length+1))).mono (k:=1001+3001*l.length+3000) (by omega)
   have e2:=(bt.mul h2).mono (k:=1001+3001*l.length+3000) (by omega)
   exact (e1.add e2).mono (by rw [List.length_cons];omega)
theorem AQ {f:Addr} {fd:FuncData} (F:Fun K "value_parts" "value_parts" mG f fd) (T:Txt K mg):FnOk P w K mg base CX0 1 f fd ["row","top","bottom"] rY:=by
 refine F.ok sc_value_parts (fun vs H Q E h=>?_) (fun cdv A outer s H vs Q E hr h=>?_)
 ·obtain ⟨a,ns,t,b,⟨rfl,_⟩,_⟩:=h
  rfl
 ·obtain ⟨a,ns,t,b,⟨rfl,hA,hn,hb,bt,bb⟩,k⟩:=h
  refine ⟨_,(af (aj (i:=3) sc_value_parts.nd rfl (Or.inl rfl) ac)
   (af (aj (i:=4) sc_value_parts.nd rfl (Or.inl rfl) ac)
   (af (cv PassesOwn.never rfl (oB rfl T.reversed_ (aa (pv 0) ab)) (aQ (i:=5) sc_value_parts.nd rfl (Or.inl rfl))
     (af (aj (i:=4) sc_value_parts.nd rfl (Or.inl rfl) (ag aD (pv 4) (pv 2)))
       (ai (aj (i:=3) sc_value_parts.nd rfl (Or.inl rfl) (ag bh (ag aD (pv 3) (pv 1)) (ag aD (pv 5) (pv 4)))))))
   (ai (au (dG (aa (pv 3) (aa (pv 4) ab)))))))),?_⟩
  have hl:(ns.map V.int).length=ns.length:=List.length_map _
  refine ap ?_
  refine ap ?_
  refine ⟨_,rfl,a,_,rfl,SqL.of hA,pF (K:=K) (a:=a) (xs:=ns.map V.int) (fun i σ' H'=>∃ z:Option V,σ'=[some (.ref a),some (.int t),some (.int b),some (.int (hv t b (ns.drop (ns.length-i)))),some (.int (b^i)),z]/\H=H') ⟨none,?_,rfl⟩ ?_ ?_ ?_⟩
  ·rw [Nat.sub_zero,List.drop_length,Int.pow_zero];rfl
  ·rintro i σ' H' _ ⟨z,rfl,rfl⟩
   exact SqL.of hA
  ·rintro i x σ' H' hi hx ⟨z,rfl,rfl⟩
   rw [hl] at hi hx
   obtain ⟨c,ec,rfl,hc,_⟩:=fu hx
   have hi':i<ns.length:=hi
   have e1:ns.length-(i+1)=ns.length-1-i:=by omega
   have hd:=Gc t b (l:=ns) (n:=ns.length-1-i) (by omega)
   have e2:ns.length-1-i+1=ns.length-i:=by omega
   have e3:ns.length-(ns.length-1-i)=i+1:=by omega
   rw [e2,e3,wK ec] at hd
   have bs:=vW bt bb (l:=ns.drop (ns.length-i)) fun x hx=>hb x (List.mem_of_mem_drop hx)
   rw [List.length_drop] at bs
   have bp:=gF bb i
   have bq:=gF bb (i+1)
   refine ⟨_,rfl,_,rfl,_,_,rfl,rfl,⟨bp.mono (by omega),bb.mono⟩,?_⟩
   refine ⟨_,rfl,_,rfl,_,_,rfl,rfl,⟨bs.mono (by omega),bt.mono⟩,_,rfl,_,rfl,_,_,rfl,rfl,⟨(hb c hc).mono,?_⟩,_,_,rfl,rfl,?_⟩
   ·show Bits 1000000 (b^i*b)
    rw [<- Int.pow_succ];exact bq.mono (by omega)
   refine ⟨some (.int c),?_,rfl⟩
   rw [e1,hd,Int.pow_succ b i,Int.add_comm,Int.mul_comm t]
   rfl
  ·rintro σ' H' ⟨z,rfl,rfl⟩
   rw [hl,Nat.sub_self,List.drop_zero]
   exact ⟨_,rfl,_,rfl,by show 2<=sizeLine;decide,fun p hp=>k p _ (Same.upd_new hp) hp ao⟩
def gX (C:Addr):Sp:=fun vs H Q _=>∃ (a r:Addr) (ns:List Int) (t b:Int),Vp C H vs a r ns t b/\∀ H',Same H H'->Q (.int (sg (hv t b ns))) H'
theorem AX {C f:Addr} {fd:FuncData} (F:Fun K "sign_at" "sign_at" mN f fd) (T:Txt K mg) (R:RCI K mg C) {Fj:Addr} {EC:FuncData} (Ib:Cal P w K mg base 1 "value_parts" ["row","top","bottom"] rY Fj EC) {gr:Addr} {gm:FuncData} (gO:Cal P w K mg base 1 "whole_sign" ["value"] iF gr gm):FnOk P w K mg base CX0 2 f fd ["row","ratio"] (gX C):=by
 obtain ⟨Hq,Cw,Dr,GC⟩:=Ib
 obtain ⟨gK,fV,fZ,gG⟩:=gO
 refine F.ok yV (fun vs H Q E h=>?_) (fun cdv A outer s H vs Q E hr h=>?_)
 ·obtain ⟨a,r,ns,t,b,⟨rfl,_⟩,_⟩:=h
  rfl
 ·obtain ⟨a,r,ns,t,b,hV,k⟩:=h
  obtain ⟨rfl,hA,⟨dx,hR⟩,hn,hbs,bt,bb⟩:=hV
  refine ⟨_,(ai (au (al gK (hr.mono) rfl fV fZ gG .nil ah (aa (aM (cb (K:=K) rfl) (al Hq (hr.mono) rfl Cw Dr GC .nil ah (aa (pv 0) (aa (aO (K:=K) rfl (pv 1) rfl) (aa (aO (K:=K) rfl (pv 1) rfl) ab)))) ac (fun _ _=>rfl)) ab)))),?_⟩
  refine ⟨_,rfl,_,rfl,r,C,dx,_,_,rfl,hR,R.cl,R.nT,cP _ _,_,rfl,r,C,dx,_,_,rfl,hR,R.cl,R.nB,cg _ _,a,ns,t,b,⟨rfl,hA,hn,hbs,bt,bb⟩,fun p H1 s1 hp e1=>?_⟩
  exact ⟨p,_,_,_,rfl,rfl,SqT.of e1,rfl,_,rfl,k H1 s1⟩
theorem b60:Bits 200 (10^60):=by show ((10:Int)^60).natAbs<2^200;decide +kernel
theorem w5 {xs:List V} {n:Int} (hn:n=xs.length) (h:0<n) (c:Int):∃ v,v∈xs/\atI xs (c%n)=some v:=by
 have h1:=Int.emod_nonneg c (Int.ne_of_gt h)
 have h2:=Int.emod_lt_of_pos c h
 obtain ⟨j,hj⟩:=Int.eq_ofNat_of_zero_le h1
 have hl:j<xs.length:=by omega
 refine ⟨xs[j],List.getElem_mem hl,?_⟩
 rw [hj]
 exact iu (by simp [hl])
def Fit (one other:List Int):Prop:=Tr one/\Tr other/\∃ n,AllB n one/\AllB n other/\(one.length+2)*(n+1)<=1000000/\other.length<=1000000
def Run:Nat->List Int->List Int->Prop
 | 0,one,_=>one=[]
 | n+1,one,other=>one=[]\/(Fit one other/\Run n other (nxt one other))
def u6 (H:Hp) (Q:VK) (xss:List (List Int)):Prop:=∀ (l:Addr) (ps:List Addr) (H':Hp),Same H H'->H l=none->(∀ p∈ps,H p=none/\p≠l)->H' l=some (.lst (ps.map V.ref))->RwH H' ps xss->Q (.ref l) H'
theorem RwH.upd_ne {H:Hp} {ps:List Addr} {xss:List (List Int)} {a:Addr} {o:HO} (h:RwH H ps xss) (hn:∀ p∈ps,p≠a):RwH (upd H a o) ps xss:=⟨h.1,fun i p xs e1 e2=>by rw [L2.upd_ne (hn p (List.mem_of_getElem? e1))];exact h.2 i p xs e1 e2⟩
def mf:Sp:=fun vs H Q _=>∃ (a b:Addr) (xs ys:List Int) (n:Nat),vs=[.ref a,.ref b]/\H a=some (.lst (xs.map V.int))/\H b=some (.lst (ys.map V.int))/\Tr xs/\Tr ys/\xs.length<=1000/\ys.length<=1000/\n<=1000/\Run n (ak xs) (ak ys)/\u6 H Q (aL n (ak xs) (ak ys))
theorem A5 {f:Addr} {fd:FuncData} (F:Fun K "row_from" "row_from" mT f fd) (T:Txt K mg) {pW:Addr} {pK:FuncData} (qS:Cal P w K mg base 33 "shrunk" ["row"] ma pW pK) {jy:Addr} {jq:FuncData} (jW:Cal P w K mg base 2 "divided" ["first","second"] ke jy jq) {Fl:Addr} {EE:FuncData} (Id:Cal P w K mg base 2 "taken" ["first","second"] (kg K bM) Fl EE):FnOk P w K mg base CX0 34 f fd ["first","second"] mf:=by
 obtain ⟨jP,jc,jj,jI⟩:=qS
 obtain ⟨jQ,jd,jk,jJ⟩:=jW
 obtain ⟨Hs,Cz,Dt,GE⟩:=Id
 refine F.ok sc_row_from (fun vs H Q E h=>?_) (fun cdv A outer s H vs Q E hr h=>?_)
 ·obtain ⟨a,b,xs,ys,n,rfl,_⟩:=h
  rfl
 ·obtain ⟨a,b,xs,ys,n,rfl,hA,hB,xtr,ytr,hx,hy,hn,hrun,k⟩:=h
  have big:=sizeLine_eq
  have hu:=hr.units
  refine ⟨_,(af (aj (i:=2) sc_row_from.nd rfl (Or.inl rfl) (bj ab))
   (af (aj (i:=3) sc_row_from.nd rfl (Or.inl rfl) (al jP (hr.mono) rfl jc jj jI .nil ah (aa (pv 0) ab)))
   (af (aj (i:=4) sc_row_from.nd rfl (Or.inl rfl) (al jP (hr.mono) rfl jc jj jI .nil ah (aa (pv 1) ab)))
   (af (ek PassesOwn.never (aE (ff (K:=K) rfl hu) (pv 3) (bj ab) (aA _))
     (af (eW (kE PySem.F.plainAttrs_list PySem.F.slot_list_append PySem.F.type_list_append kN (pv 2) (aa (pv 3) ab)))
       (af (aj (i:=5) sc_row_from.nd rfl (Or.inl rfl) (oF (aE (iZ (K:=K) rfl hu) (pv 4) (bj ab) (aA _)) (bj ab) (aM (cb (K:=K) rfl) (al jQ (hr.mono) rfl jd jk jJ .nil ah (aa (pv 3) (aa (pv 4) ab))) ac (fun _ _=>rfl))))
       (af (aj (i:=3) sc_row_from.nd rfl (Or.inl rfl) (pv 4))
       (ai (aj (i:=4) sc_row_from.nd rfl (Or.inl rfl) (al jP (hr.mono) rfl jc jj jI .nil ah (aa (al Hs (hr.mono) rfl Cz Dt GE .nil ah (aa (bj ab) (aa (pv 5) ab))) ab))))))))
   (ai (au (pv 2))))))),?_⟩
  refine ap ⟨Nat.zero_le _,fun l hl=>?_⟩
  have s1:=Same.upd_new (o:=.lst []) hl
  have hl1:upd H l (.lst []) l=some (.lst (([]:List Addr).map V.ref)):=ao
  generalize upd H l (.lst [])=H1 at s1 hl1 ⊢
  refine ap ⟨_,rfl,a,xs,rfl,s1 _ _ hA,xtr,by omega,fun p1 H2 sm2 hp1 e1=>?_⟩
  have s2:=s1.trans sm2
  refine ap ⟨_,rfl,b,ys,rfl,s2 _ _ hB,ytr,by omega,fun p2 H3 sm3 hp2 e2=>?_⟩
  have s3:=s2.trans sm3
  have n1l:p1≠l:=fun z=>by rw [z,hl1] at hp1;cases hp1
  have n2l:p2≠l:=fun z=>by rw [z,sm2 _ _ hl1] at hp2;cases hp2
  generalize ak xs=one' at hrun k e1
  generalize ak ys=other at hrun k e2
  refine ⟨fun m σ' H'=>∃ (po pt:Addr) (one other':List Int) (ps:List Addr) (acc:List (List Int)) (z5:Option V),σ'=[some (.ref a),some (.ref b),some (.ref l),some (.ref po),some (.ref pt),z5]/\Same H H'/\H' l=some (.lst (ps.map V.ref))/\RwH H' ps acc/\(∀ p∈ps,H p=none/\p≠l)/\H' po=some (.lst (one.map V.int))/\H' pt=some (.lst (other'.map V.int))/\H po=none/\H pt=none/\po≠l/\pt≠l/\Run m one other'/\acc++aL m one other'=aL n one' other/\ps.length+m<=1000,
   ⟨_,p1,p2,one',other,[],[],none,rfl,s3,sm3 _ _ (sm2 _ _ hl1),RwH.nil,(fun p hp=>nomatch hp),sm3 _ _ e1,e2,s1.free hp1,s2.free hp2,n1l,n2l,hrun,rfl,by show 0+n<=1000;omega⟩,?_⟩
  rintro m σ' H4 ⟨po,pt,one,other',ps,acc,z5,rfl,s4,hl4,hR4,hf4,ho4,ht4,fo,ft,nol,ntl,hrun4,hacc,hlen⟩
  refine ⟨_,rfl,Nat.zero_le _,fun q hq=>?_⟩
  have t5:=Same.upd_new (o:=.lst []) hq
  refine ⟨po,q,one,[],rfl,rfl,SqL.of (t5 _ _ ho4),SqL.of ao,_,rfl,cC (fun hne=>?_) (fun he=>?_)⟩
  rotate_left
  ·have he':one=[]:=he
   subst he'
   rw [fO,List.append_nil] at hacc
   refine ⟨_,rfl,k l ps _ (s4.trans t5) hl hf4 (t5 _ _ hl4) ?_⟩
   rw [<- hacc]
   exact hR4.same t5
  have hne':one≠[]:=hne
  obtain ⟨m1,rfl⟩:∃ m1,m=m1+1:=by
   cases m with
   | zero=>exact absurd hrun4 hne'
   | succ m1=>exact ⟨m1,rfl⟩
  obtain ⟨⟨otr,ttr,nb,bo,bt,hsz,htl⟩,hrun5⟩:=(show one=[]\/(Fit one other'/\Run m1 other' (nxt one other')) from hrun4).resolve_left hne'
  have hacc5:(acc++[one])++aL m1 other' (nxt one other')=aL n one' other:=by
   rw [<- hacc]
   show _=acc++(if one=[] then [] else one::aL m1 other' (nxt one other'))
   rw [if_neg hne',List.append_assoc];rfl
  generalize hH5:upd H4 q (.lst [])=H5 at t5 ⊢
  refine ⟨fun σ'' H''=>∃ m',m'<m1+1/\∃ (po pt:Addr) (one other':List Int) (ps:List Addr) (acc:List (List Int)) (z5:Option V),σ''=[some (.ref a),some (.ref b),some (.ref l),some (.ref po),some (.ref pt),z5]/\Same H H''/\H'' l=some (.lst (ps.map V.ref))/\RwH H'' ps acc/\(∀ p∈ps,H p=none/\p≠l)/\H'' po=some (.lst (one.map V.int))/\H'' pt=some (.lst (other'.map V.int))/\H po=none/\H pt=none/\po≠l/\pt≠l/\Run m' one other'/\acc++aL m' one other'=aL n one' other/\ps.length+m'<=1000,fun _ _ h=>h,?_⟩
  have hl5:=t5 _ _ hl4
  refine hJ ⟨_,rfl,.inl ⟨rfl,_,SqL.of hl5⟩,_,rfl,l,_,_,rfl,rfl,hl5,by rw [List.length_map];omega,?_⟩
  rw [Cp]
  have s6:Same H (upd H5 l (.lst ((ps++[po]).map V.ref))):=fi (s4.trans t5) hl
  have hl6:upd H5 l (.lst ((ps++[po]).map V.ref)) l=some (.lst ((ps++[po]).map V.ref)):=ao
  have hf6:∀ p∈ps++[po],H p=none/\p≠l:=fun p hp=>by
   rcases List.mem_append.mp hp with h | h
   ·exact hf4 p h
   ·rw [List.mem_singleton.mp h];exact ⟨fo,nol⟩
  have hR6:RwH (upd H5 l (.lst ((ps++[po]).map V.ref))) (ps++[po]) (acc++[one]):=((hR4.same t5).snoc (t5 _ _ ho4)).upd_ne fun p hp=>(hf6 p hp).2
  have ho6:upd H5 l (.lst ((ps++[po]).map V.ref)) po=some (.lst (one.map V.int)):=by rw [L2.upd_ne nol];exact t5 _ _ ho4
  have ht6:upd H5 l (.lst ((ps++[po]).map V.ref)) pt=some (.lst (other'.map V.int)):=by rw [L2.upd_ne ntl];exact t5 _ _ ht4
  generalize upd H5 l (.lst ((ps++[po]).map V.ref))=H6 at s6 hl6 hR6 ho6 ht6 ⊢
  refine zH (fun σ' H'=>∃ pr:Addr,σ'=[some (.ref a),some (.ref b),some (.ref l),some (.ref po),some (.ref pt),some (.ref pr)]/\Same H6 H'/\H' pr=some (.lst ((rst one other').map V.int))) ?_ ?_
  case refine_2 =>
   intro rest
   refine cV (zF ⟨_,rfl,Nat.zero_le _,fun q2 hq2=>?_⟩)
   have t7:=Same.upd_new (o:=.lst []) hq2
   refine ⟨pt,q2,other',[],rfl,rfl,SqL.of (t7 _ _ ht6),SqL.of ao,_,rfl,aJ (fun h0=>?_) (fun h0=>?_)⟩
   ·have h0':other'=[]:=h0
    refine ⟨Nat.zero_le _,fun q3 hq3=>rest _ _ ⟨q3,rfl,t7.then_new hq3,?_⟩⟩
    rw [ao];unfold rst;rw [if_pos h0'];rfl
   ·have h0':other'≠[]:=h0
    refine ⟨_,rfl,_,rfl,po,pt,one,other',nb,rfl,t7 _ _ ho6,t7 _ _ ht6,h0',bo,bt,hsz,htl,fun t q' r H8 sm8 _ _ _ _ _ _ et _ er=>?_⟩
    refine ⟨t,_,_,_,rfl,rfl,SqT.of et,rfl,rest _ _ ⟨r,rfl,t7.trans sm8,?_⟩⟩
    rw [er];unfold rst;rw [if_neg h0']
  rintro σ' H8 ⟨pr,rfl,t8,hr8⟩
  refine ap ⟨_,rfl,?_⟩
  refine cV ⟨Nat.zero_le _,fun q hq=>?_⟩
  have t9:=t8.then_new (o:=.lst []) hq
  have hrl:(rst one other').length<=1000000:=by
   unfold rst
   split
   ·exact Nat.zero_le _
   ·rename_i h0
    have:=eM (a:=one) h0
    omega
  refine ⟨_,rfl,q,pr,[],rst one other',rfl,SqL.of ao,SqL.of (by rw [L2.upd_ne (aR hr8 hq)];exact hr8),Nat.zero_le _,hrl,fun p9 H9 sm9 hp9 e9=>?_⟩
  have hsl:(bM [] (rst one other')).length<=1000000:=Nat.le_trans (o5 _) (by unfold dN;rw [List.length_map,List.length_range];exact Nat.max_le.mpr ⟨Nat.zero_le _,hrl⟩)
  refine ⟨p9,_,rfl,e9,di _,hsl,fun p10 H10 sm10 hp10 e10=>?_⟩
  have t10:Same H6 H10:=(t9.trans sm9).trans sm10
  have f10:H6 p10=none:=(t9.trans sm9).free hp10
  refine ⟨m1,Nat.lt_succ_self _,pt,p10,other',nxt one other',ps++[po],acc++[one],_,rfl,s6.trans t10,t10 _ _ hl6,hR6.same t10,hf6,t10 _ _ ht6,e10,ft,s6.free f10,ntl,(fun z=>by rw [z,hl6] at f10;cases f10),hrun5,hacc5,by rw [List.length_append];show ps.length+1+m1<=1000;omega⟩
def me:Sp:=fun vs H Q _=>∃ (a:Addr) (xs:List Int) (n:Nat),vs=[.ref a]/\H a=some (.lst (xs.map V.int))/\Tr xs/\AllB 90000 xs/\xs.length<=1000/\n<=1000/\Run n (ak xs) (ak (slopeL xs))/\u6 H Q (aL n (ak xs) (ak (slopeL xs)))
theorem rj {xs:List Int} (h:Tr xs):Tr (slopeL xs):=by
 intro n hn
 unfold slopeL at *
 rw [List.length_map,List.length_range] at hn
 rw [jE,if_pos (by omega)]
 exact Int.mul_ne_zero (by omega) (h (n+1) (by omega))
theorem A4 {f:Addr} {fd:FuncData} (F:Fun K "row_of" "row_of" mS f fd) (T:Txt K mg) {qa:Addr} {pO:FuncData} (qW:Cal P w K mg base 34 "row_from" ["first","second"] mf qa pO) {jw:Addr} {jo:FuncData} (jU:Cal P w K mg base 1 "slope" ["row"] (sp1 slopeL) jw jo):FnOk P w K mg base CX0 35 f fd ["polynomial"] me:=by
 obtain ⟨qN,o3,pz,qy⟩:=qW
 obtain ⟨jO,jb,ji,jH⟩:=jU
 refine F.ok yY (fun vs H Q E h=>?_) (fun cdv A outer s H vs Q E hr h=>?_)
 ·obtain ⟨a,xs,n,rfl,_⟩:=h
  rfl
 ·obtain ⟨a,xs,n,rfl,hA,xtr,bx,hx,hn,hrun,k⟩:=h
  refine ⟨_,(ai (au (al qN (hr.mono) rfl o3 pz qy .nil ah (aa (pv 0) (aa (al jO (hr.mono) rfl jb ji jH .nil ah (aa (pv 0) ab)) ab))))),?_⟩
  refine aU ⟨_,rfl,_,rfl,a,xs,rfl,hA,by omega,bx.mono,fun p H1 s1 hp e1=>?_⟩
  have hsl:(slopeL xs).length<=1000:=by unfold slopeL;rw [List.length_map,List.length_range];omega
  exact ⟨a,p,xs,slopeL xs,n,rfl,s1 _ _ hA,e1,xtr,rj xtr,hx,hsl,hn,hrun,fun l ps H' sm hl hf e r=>k l ps H' (s1.trans sm) (s1.free hl) (fun p hp=>⟨s1.free (hf p hp).1,(hf p hp).2⟩) e r⟩
def sgs (t b:Int) (xss:List (List Int)):List Int:=xss.map fun p=>sg (hv t b p)
def sP (C:Addr):Sp:=fun vs H Q _=>∃ (l r:Addr) (ps:List Addr) (xss:List (List Int)) (t b:Int),vs=[.ref l,.ref r]/\H l=some (.lst (ps.map V.ref))/\RwH H ps xss/\RA C H r t b/\Bits 300 t/\Bits 300 b/\(∀ xs∈xss,xs.length<=20/\AllB 1000 xs)/\xss.length<=1000000/\∀ H',Same H H'->Q (.int (chS (sgs t b xss)).1) H'
theorem yF (t b:Int) (xss:List (List Int)):∀ s∈sgs t b xss,s.natAbs<=1:=fun s hs=>by
 obtain ⟨x,_,rfl⟩:=List.mem_map.mp hs
 exact tx _
theorem yE {t b:Int} {xss:List (List Int)} {i:Nat} {xs:List Int} (h:xss[i]?=some xs):sgs t b (xss.take (i+1))=sgs t b (xss.take i)++[sg (hv t b xs)]:=by
 unfold sgs
 rw [List.take_add_one,h,List.map_append];rfl
theorem uB {x:Int} (h:x.natAbs<=1):Bits 1000000 x:=Bits.mono (j:=1) (Nat.lt_of_le_of_lt h (by decide)) (by decide)
theorem Bv {C f:Addr} {fd:FuncData} (F:Fun K "changes" "changes" nu f fd) (T:Txt K mg) (R:RCI K mg C) {eK:Addr} {eJ:FuncData} (eO:Cal P w K mg base 2 "sign_at" ["row","ratio"] (gX C) eK eJ):FnOk P w K mg base CX0 3 f fd ["row","ratio"] (sP C):=by
 obtain ⟨dY,dL,dO,dW⟩:=eO
 refine F.ok sc_changes (fun vs H Q E h=>?_) (fun cdv A outer s H vs Q E hr h=>?_)
 ·obtain ⟨l,r,ps,xss,t,b,rfl,_⟩:=h
  rfl
 ·obtain ⟨l,r,ps,xss,t,b,rfl,hL,hR,hRA,bt,bb,hb,hn,k⟩:=h
  refine ⟨_,(af (aj (i:=2) sc_changes.nd rfl (Or.inl rfl) ac)
   (af (aj (i:=3) sc_changes.nd rfl (Or.inl rfl) ac)
   (af (cv PassesOwn.never rfl (dj (K:=K) rfl (pv 0)) (aQ (i:=4) sc_changes.nd rfl (Or.inl rfl))
     (af (aj (i:=5) sc_changes.nd rfl (Or.inl rfl) (al dY (hr.mono) rfl dL dO dW .nil ah (aa (pv 4) (aa (pv 1) ab))))
       (af (aV (aE da (ag aD (pv 5) (pv 3)) ac (aA _))
         (ai (aj (i:=2) sc_changes.nd rfl (Or.inl rfl) (ag bh (pv 2) ac)))
         aW)
       (ai (aV (aE ig (pv 5) ac (aA _))
         (ai (aj (i:=3) sc_changes.nd rfl (Or.inl rfl) (pv 5)))
         aW)))))
   (ai (au (pv 2)))))),?_⟩
  have hpl:(ps.map V.ref).length=xss.length:=by rw [List.length_map,hR.1]
  refine ap ?_
  refine ap ?_
  refine ⟨_,rfl,l,rfl,⟨_,SqL.of hL⟩,pG (K:=K) (a:=l) (xs:=ps.map V.ref) (fun i σ' H'=>∃ (z4 z5:Option V),σ'=[some (.ref l),some (.ref r),some (.int (chS (sgs t b (xss.take i))).1),some (.int (chS (sgs t b (xss.take i))).2),z4,z5]/\Same H H') ⟨none,none,rfl,fun _ _ e=>e⟩ ?_ ?_ ?_⟩
  ·rintro i σ' H' _ ⟨z4,z5,rfl,sm⟩
   exact SqL.of (sm _ _ hL)
  ·rintro i x σ' H1 hi ⟨z4,z5,rfl,s1⟩
   obtain ⟨p,xs,rfl,ep,ex,hp,hlt⟩:=hR.of_get hi
   obtain ⟨hx1,hx2⟩:=hb xs (List.mem_of_getElem? ex)
   show cS (fL _ (gj 5)) _ _ _ _
   refine ap ⟨_,rfl,_,rfl,p,r,xs,t,b,⟨rfl,s1 _ _ hp,hRA.same s1,hx1,hx2,bt.mono,bb.mono⟩,fun H2 sm2=>?_⟩
   have s2:=s1.trans sm2
   obtain ⟨c1,c2,c3⟩:=Go _ (yF t b (xss.take i))
   rw [yE ex,wF]
   have hs:=tx (hv t b xs)
   generalize sg (hv t b xs)=s at hs ⊢
   generalize chS (sgs t b (xss.take i))=z at c1 ⊢
   obtain ⟨m,bf⟩:=z
   dsimp only
   refine ku (fun σ' H'=>σ'=[some (.ref l),some (.ref r),some (.int (if s*bf<0 then m+1 else m)),some (.int bf),some (.ref p),some (.int s)]/\H2=H') ?_ ?_
   case refine_2 =>
    intro rest
    refine ⟨_,rfl,_,rfl,_,_,rfl,rfl,⟨uB hs,uB c1⟩,_,_,rfl,rfl,_,rfl,aJ (fun h1=>?_) (fun h1=>?_)⟩
    ·refine cV ⟨_,rfl,_,_,rfl,rfl,rest _ _ ⟨?_,rfl⟩⟩
     rw [if_pos h1];rfl
    ·refine rest _ _ ⟨?_,rfl⟩
     rw [if_neg h1];rfl
   rintro σ' H' ⟨rfl,rfl⟩
   refine ⟨_,rfl,_,_,rfl,rfl,_,rfl,cC (fun h1=>?_) (fun h1=>?_)⟩
   ·refine cV ⟨_,rfl,some (.ref p),some (.int s),?_,s2⟩
    unfold chF
    have h1':¬ s=0:=h1
    rw [if_neg h1'];rfl
   ·refine ⟨some (.ref p),some (.int s),?_,s2⟩
    unfold chF
    have h1':s=0:=h1
    rw [if_pos h1']
  ·rintro σ' H' ⟨z4,z5,rfl,sm⟩
   rw [hpl,List.take_length]
   exact ⟨_,rfl,k H' sm⟩
def kf (C:Addr):Sp:=fun vs H Q _=>∃ (l r r2:Addr) (ps:List Addr) (xss:List (List Int)) (t b t2 b2:Int),vs=[.ref l,.ref r,.ref r2]/\H l=some (.lst (ps.map V.ref))/\RwH H ps xss/\RA C H r t b/\RA C H r2 t2 b2/\Bits 300 t/\Bits 300 b/\Bits 300 t2/\Bits 300 b2/\(∀ xs∈xss,xs.length<=20/\AllB 1000 xs)/\xss.length<=1000000/\∀ H',Same H H'->Q (.int ((chS (sgs t b xss)).1-(chS (sgs t2 b2 xss)).1)) H'
theorem Bs {C f:Addr} {fd:FuncData} (F:Fun K "count" "count" nq f fd) (T:Txt K mg) (R:RCI K mg C) {FH:Addr} {EZ:FuncData} (ID:Cal P w K mg base 3 "changes" ["row","ratio"] (sP C) FH EZ):FnOk P w K mg base CX0 4 f fd ["row","low","high"] (kf C):=by
 obtain ⟨xk,ve,vA,wV⟩:=ID
 refine F.ok y7 (fun vs H Q E h=>?_) (fun cdv A outer s H vs Q E hr h=>?_)
 ·obtain ⟨l,r,r2,ps,xss,t,b,t2,b2,rfl,_⟩:=h
  rfl
 ·obtain ⟨l,r,r2,ps,xss,t,b,t2,b2,rfl,hL,hR,h1,h2,bt,bb,bt2,bb2,hb,hn,k⟩:=h
  refine ⟨_,(ai (au (ag bK (al xk (hr.mono) rfl ve vA wV .nil ah (aa (pv 0) (aa (pv 1) ab))) (al xk (hr.mono) rfl ve vA wV .nil ah (aa (pv 0) (aa (pv 2) ab)))))),?_⟩
  refine aU ⟨_,rfl,_,rfl,l,r,ps,xss,t,b,rfl,hL,hR,h1,bt,bb,hb,hn,fun H1 s1=>?_⟩
  refine ⟨_,rfl,_,rfl,l,r2,ps,xss,t2,b2,rfl,s1 _ _ hL,hR.same s1,h2.same s1,bt2,bb2,hb,hn,fun H2 s2=>?_⟩
  exact ⟨_,_,rfl,rfl,k _ (s1.trans s2)⟩
theorem w9 (i:Int):(if i<0 then -i else i)=(i.natAbs:Int):=by split<;>omega
theorem Hc {l:List Int} (h:l≠[]):atI (l.map V.int) (-1)=some (.int (aN l)):=by
 obtain ⟨r,x,rfl⟩:=(ck l).resolve_left h
 rw [cN,List.map_append];exact qF _ _
theorem Gj {l:List Int}:fB l none (some (-1))=l.take (l.length-1):=by
 unfold fB
 rw [HT.sIx_none]
 have e:HT.sIx l.length l.length (some (-1))=l.length-1:=by
  unfold HT.sIx;simp;omega
 rw [e,List.drop_zero,Nat.sub_zero]
def isB (os:List Int) (l k:Nat):Prop:=(∀ x∈os,x.natAbs<=(2^k-1)*l)/\∀ j,j<k->∃ x∈os,(2^j-1)*l<x.natAbs
def mn (K:PySem.W.Frag):Sp:=fun vs H Q _=>∃ (a:Addr) (ns:List Int),vs=[.ref a]/\SqL K H a (ns.map V.int)/\Tr ns/\ns≠[]/\ns.length<=100000/\AllB 100000 ns /\
 ∀ (k:Nat) (H':Hp),k<=100000->isB (ns.take (ns.length-1)) (aN ns).natAbs k->Same H H'->Q (.int ((2^k:Nat):Int)) H'
theorem zW {os:List Int} {F:Int->Prop} (h:∀ g:Nat,(∀ x∈os,x.natAbs<=g)->(g=0\/∃ x∈os,x.natAbs=g)->F g) :
 (∀ M,M∈os.map (fun x=>(x.natAbs:Int))->(∀ a∈os.map (fun x=>(x.natAbs:Int)),a<=M)->F M)/\(os.map (fun x=>(x.natAbs:Int))=[]->F 0):=by
 constructor
 ·intro M hM ha
  obtain ⟨x,hx,rfl⟩:=List.mem_map.mp hM
  exact h x.natAbs (fun y hy=>Int.ofNat_le.mp (ha _ (List.mem_map.mpr ⟨y,hy,rfl⟩))) (.inr ⟨x,hx,rfl⟩)
 ·intro e
  have:os=[]:=List.map_eq_nil_iff.mp e
  subst this
  exact h 0 (fun x hx=>nomatch hx) (.inl rfl)
theorem By {f:Addr} {fd:FuncData} (F:Fun K "bound" "bound" nC f fd) (T:Txt K mg):FnOk P w K mg base CX0 1 f fd ["row"] (mn K):=by
 refine F.ok sc_bound (fun vs H Q E h=>?_) (fun cdv A outer s H vs Q E hr h=>?_)
 ·obtain ⟨a,ns,rfl,_⟩:=h
  rfl
 ·obtain ⟨a,ns,rfl,hA,ht,hne,hn,hb,k⟩:=h
  have big:=sizeLine_eq
  refine ⟨_,(af (aj (i:=1) sc_bound.nd rfl (Or.inl rfl) (bA gE (by rfl) T.abs_ PyProof.Rows.boot_abs (aa (aM (bY (K:=K) rfl) (pv 0) (bJ bI ac) (fun _ _=>rfl)) ab)))
   (af (aj (i:=2) sc_bound.nd rfl (Or.inl rfl) (AB (K:=K) rfl rfl (by rfl) T.max_ (dH (own:=["value"]) (fr:=[]) (js:=[]) (by walk_at "comp_ok") rfl (dj (K:=K) rfl (kD (kj (K:=K) rfl) (pv 0) kB (kA (bJ bI ac)))) (fun _ _ _ _=>(aQ (i:=0) (show List.Nodup (["value"]:List Str) from by decide +kernel) rfl (Or.inl rfl))) (fun _ _ _ _=>(bA gE (by rfl) T.abs_ PyProof.Rows.boot_abs (aa (pv 0) ab)))) ac))
   (af (aj (i:=3) sc_bound.nd rfl (Or.inl rfl) ac)
   (af (ek PassesOwn.never (aE da (ag aD (ag bK (pv 3) ac) (pv 1)) (pv 2) (aA _))
     (ai (aj (i:=3) sc_bound.nd rfl (Or.inl rfl) (ag aD ac (pv 3)))))
   (ai (au (pv 3))))))),?_⟩
  refine ap ⟨_,rfl,_,rfl,a,_,_,_,rfl,rfl,hA,Hc hne,_,rfl,?_⟩
  rw [w9]
  have hl0:aN ns≠0:=by
   obtain ⟨r,x,rfl⟩:=(ck ns).resolve_left hne
   rw [cN];exact tr_snoc.mp ht
  generalize hL:(aN ns).natAbs=L at k ⊢
  have hL1:1<=L:=by omega
  have bL:Bits 100000 (L:Int):=by
   obtain ⟨r,x,rfl⟩:=(ck ns).resolve_left hne
   rw [cN] at hL
   exact (hb x (by simp)).of_le (by omega)
  refine ap ⟨_,rfl,_,rfl,_,rfl,a,_,rfl,hA,fun p1 hp1=>?_⟩
  rw [qk,Gj]
  have s1:Same H (upd H p1 (.lst ((ns.take (ns.length-1)).map V.int))):=Same.upd_new hp1
  have q1:upd H p1 (.lst ((ns.take (ns.length-1)).map V.int)) p1=some (.lst ((ns.take (ns.length-1)).map V.int)):=ao
  generalize hO:ns.take (ns.length-1)=os at k s1 q1 ⊢
  generalize upd H p1 (.lst (os.map V.int))=H1 at s1 q1 ⊢
  have bO:AllB 100000 os:=fun x hx=>hb x (List.mem_of_mem_take (hO ▸ hx))
  have lO:os.length<=100000:=by rw [<- hO,List.length_take];omega
  refine ⟨p1,rfl,⟨_,SqL.of q1⟩,gC (K:=K) (a:=p1) (xs:=os.map V.int) (fun i ys σ' H'=>∃ (z0:Option V),σ'=[z0]/\ys=((os.take i).map fun x=>(x.natAbs:Int)).map V.int/\H1=H') (by rw [List.length_map];omega) ⟨none,rfl,rfl,rfl⟩ ?_ ?_ ?_⟩
  ·rintro i ys σ' H' _ ⟨z0,rfl,rfl,rfl⟩
   exact ⟨SqL.of q1,by rw [List.length_map,List.length_map,List.length_take];exact Nat.min_le_left _ _⟩
  ·rintro i x ys σ' H' hi ⟨z0,rfl,rfl,rfl⟩
   rw [List.getElem?_map] at hi
   cases e:os[i]? with
   | none=>rw [e] at hi;cases hi
   | some c =>
     rw [e] at hi
     obtain rfl:=Option.some.inj hi
     refine ⟨_,rfl,_,rfl,_,rfl,?_,rfl⟩
     rw [List.take_add_one,e,w9]
     simp
  ·rintro ys σ' H' p ⟨z0,rfl,rfl,rfl⟩ hp
   rw [List.length_map,List.take_length]
   have s2:Same H (upd H1 p (.lst ((os.map fun x=>(x.natAbs:Int)).map V.int))):=s1.then_new hp
   refine ⟨p,_,rfl,SqL.of ao,?_⟩
   generalize upd H1 p (.lst ((os.map fun x=>(x.natAbs:Int)).map V.int))=H2 at s2 ⊢
   refine And.symm (zW fun g hg1 hg2=>?_)
   have bg:g<2^100000:=by
    rcases hg2 with rfl | ⟨x,hx,rfl⟩
    ·exact Nat.pow_pos (by decide)
    ·exact bO x hx
   refine ap ?_
   refine ⟨fun m σ' H'=>∃ k0:Nat,σ'=[some (.ref a),some (.int L),some (.int g),some (.int ((2^k0:Nat):Int))]/\H2=H'/\2*g+2-2^k0=m/\2^k0<=2*g+1/\∀ j,j<k0->(2^j-1)*L<g,⟨_,0,rfl,rfl,rfl,by omega,fun j hj=>absurd hj (Nat.not_lt_zero _)⟩,?_⟩
   rintro m σ' H' ⟨k0,rfl,rfl,rfl,h2,h3⟩
   have hk0:k0<=100000:=by
    have e:2^k0<2^100001:=by rw [Nat.pow_succ 2 100000];omega
    have:=(Nat.pow_lt_pow_iff_right (a:=2) (by decide)).mp e
    omega
   have hp:1<=2^k0:=Nat.pow_pos (by decide)
   have bk:Bits 100002 ((2^k0:Nat):Int):=by
    show ((2^k0:Nat):Int).natAbs<_
    rw [Int.natAbs_natCast]
    exact (Nat.pow_lt_pow_iff_right (a:=2) (by decide)).mpr (by omega)
   have bk1:Bits 100002 (((2^k0:Nat):Int)-1):=bk.of_le (by omega)
   have cast:(((2^k0:Nat):Int)-1)*(L:Int)=(((2^k0-1)*L:Nat):Int):=by
    rw [Int.natCast_mul,Int.natCast_sub hp];rfl
   refine ⟨_,rfl,_,_,rfl,rfl,_,rfl,_,_,rfl,rfl,⟨bk1.mono,bL.mono⟩,_,rfl,_,_,rfl,rfl,_,rfl,?_⟩
   rw [cast]
   refine aJ (fun hlt=>?_) (fun hge=>?_)
   ·have hlt':(2^k0-1)*L<g:=by exact Int.ofNat_lt.mp hlt
    have h4:2^k0-1<g:=Nat.lt_of_le_of_lt (Nat.le_mul_of_pos_right _ hL1) hlt'
    refine ⟨fun σ'' H''=>∃ m',m'<2*g+2-2^k0/\∃ k0:Nat,σ''=[some (.ref a),some (.int L),some (.int g),some (.int ((2^k0:Nat):Int))]/\H2=H''/\2*g+2-2^k0=m'/\2^k0<=2*g+1/\∀ j,j<k0->(2^j-1)*L<g,fun _ _ h=>h,?_⟩
    refine ⟨_,rfl,_,_,rfl,rfl,⟨Bits.mono (j:=2) (by show (2:Int).natAbs<2^2;decide) (by decide),bk.mono⟩,?_⟩
    have e2:(2:Int)*((2^k0:Nat):Int)=((2^(k0+1):Nat):Int):=by rw [Nat.pow_succ];omega
    have e3:2^(k0+1)=2*2^k0:=by rw [Nat.pow_succ];omega
    refine ⟨2*g+2-2^(k0+1),by omega,k0+1,by rw [<- e2];rfl,rfl,rfl,by omega,fun j hj=>?_⟩
    by_cases ej:j=k0
    ·subst ej;exact hlt'
    ·exact h3 j (by omega)
   ·have hge':¬ (2^k0-1)*L<g:=fun z=>hge (Int.ofNat_lt.mpr z)
    refine ⟨_,rfl,k k0 H2 hk0 ⟨fun x hx=>Nat.le_trans (hg1 x hx) (by omega),fun j hj=>?_⟩ s2⟩
    have h5:=h3 j hj
    rcases hg2 with rfl | ⟨x,hx,e⟩
    ·exact absurd h5 (Nat.not_lt_zero _)
    ·exact ⟨x,hx,by rw [e];exact h5⟩
def xu (one other:List Int):Prop:=Tr one/\Tr other/\∃ n,AllB n one/\AllB n other/\(one.length+2)*(n+1)<=1000000/\other.length<=1000000
def iw:Nat->List Int->List Int->Prop
 | 0,_,other=>other=[]
 | n+1,one,other=>other=[]\/(xu one other/\iw n other (av (aB one other)))
def sO:Sp:=fun vs H Q _=>∃ (a b:Addr) (xs ys:List Int) (n:Nat),vs=[.ref a,.ref b]/\H a=some (.lst (xs.map V.int))/\H b=some (.lst (ys.map V.int))/\Tr xs/\Tr ys/\xs.length<=1000/\ys.length<=1000/\iw n (av xs) (av ys)/\mkL H Q (cL n (av xs) (av ys))
theorem Bt {f:Addr} {fd:FuncData} (F:Fun K "common" "common" nr f fd) (T:Txt K mg) {jx:Addr} {jp:FuncData} (jV:Cal P w K mg base 34 "plain" ["row"] j9 jx jp) {jy:Addr} {jq:FuncData} (jW:Cal P w K mg base 2 "divided" ["first","second"] ke jy jq):FnOk P w K mg base CX0 35 f fd ["first","second"] sO:=by
 obtain ⟨gM,fX,f7,gI⟩:=jV
 obtain ⟨jQ,jd,jk,jJ⟩:=jW
 refine F.ok sc_common (fun vs H Q E h=>?_) (fun cdv A outer s H vs Q E hr h=>?_)
 ·obtain ⟨a,b,xs,ys,n,rfl,_⟩:=h
  rfl
 ·obtain ⟨a,b,xs,ys,n,rfl,hA,hB,xtr,ytr,hx,hy,hrun,k⟩:=h
  have big:=sizeLine_eq
  have hu:=hr.units
  refine ⟨_,(af (aj (i:=2) sc_common.nd rfl (Or.inl rfl) (al gM (hr.mono) rfl fX f7 gI .nil ah (aa (pv 0) ab)))
   (af (aj (i:=3) sc_common.nd rfl (Or.inl rfl) (al gM (hr.mono) rfl fX f7 gI .nil ah (aa (pv 1) ab)))
   (af (ek PassesOwn.never (aE (ff (K:=K) rfl hu) (pv 3) (bj ab) (aA _))
     (af (aj (i:=4) sc_common.nd rfl (Or.inl rfl) (al gM (hr.mono) rfl fX f7 gI .nil ah (aa (aM (cb (K:=K) rfl) (al jQ (hr.mono) rfl jd jk jJ .nil ah (aa (pv 2) (aa (pv 3) ab))) ac (fun _ _=>rfl)) ab)))
       (af (aj (i:=2) sc_common.nd rfl (Or.inl rfl) (pv 3))
       (ai (aj (i:=3) sc_common.nd rfl (Or.inl rfl) (pv 4))))))
   (ai (au (pv 2)))))),?_⟩
  refine ap ⟨_,rfl,a,xs,rfl,hA,xtr,by omega,fun p1 H1 s1 hp1 e1=>?_⟩
  refine ap ⟨_,rfl,b,ys,rfl,s1 _ _ hB,ytr,by omega,fun p2 H2 sm2 hp2 e2=>?_⟩
  have s2:=s1.trans sm2
  generalize av xs=one' at hrun k e1
  generalize av ys=other' at hrun k e2
  refine ⟨fun m σ' H'=>∃ (po pt:Addr) (one other:List Int) (z4:Option V),σ'=[some (.ref a),some (.ref b),some (.ref po),some (.ref pt),z4]/\Same H H'/\H' po=some (.lst (one.map V.int))/\H' pt=some (.lst (other.map V.int))/\H po=none/\H pt=none/\iw m one other/\cL m one other=cL n one' other',
   ⟨_,p1,p2,one',other',none,rfl,s2,sm2 _ _ e1,e2,hp1,s1.free hp2,hrun,rfl⟩,?_⟩
  rintro m σ' H3 ⟨po,pt,one,other,z4,rfl,s3,ho,ht,fo,ft,hrun3,hcom⟩
  refine ⟨_,rfl,Nat.zero_le _,fun q hq=>?_⟩
  have t4:=Same.upd_new (o:=.lst []) hq
  refine ⟨pt,q,other,[],rfl,rfl,SqL.of (t4 _ _ ht),SqL.of ao,_,rfl,cC (fun hne=>?_) (fun he=>?_)⟩
  rotate_left
  ·have he':other=[]:=he
   subst he'
   rw [Gm] at hcom
   refine ⟨_,rfl,k po _ (s3.trans t4) fo ?_⟩
   rw [<- hcom]
   exact t4 _ _ ho
  have hne':other≠[]:=hne
  obtain ⟨m1,rfl⟩:∃ m1,m=m1+1:=by
   cases m with
   | zero=>exact absurd hrun3 hne'
   | succ m1=>exact ⟨m1,rfl⟩
  obtain ⟨⟨otr,ttr,nb,bo,bt,hsz,htl⟩,hrun5⟩:=(show other=[]\/(xu one other/\iw m1 other (av (aB one other))) from hrun3).resolve_left hne'
  have hcom5:cL m1 other (av (aB one other))=cL n one' other':=by
   rw [<- hcom]
   show _=if other=[] then one else cL m1 other (av (aB one other))
   rw [if_neg hne']
  generalize hH5:upd H3 q (.lst [])=H5 at t4 ⊢
  refine ⟨fun σ'' H''=>∃ m',m'<m1+1/\∃ (po pt:Addr) (one other:List Int) (z4:Option V),σ''=[some (.ref a),some (.ref b),some (.ref po),some (.ref pt),z4]/\Same H H''/\H'' po=some (.lst (one.map V.int))/\H'' pt=some (.lst (other.map V.int))/\H po=none/\H pt=none/\iw m' one other/\cL m' one other=cL n one' other',fun _ _ h=>h,?_⟩
  have hrl:(aB one other).length<=1000000:=by
   have:=eM (a:=one) hne'
   omega
  refine ap ⟨_,rfl,_,rfl,po,pt,one,other,nb,rfl,t4 _ _ ho,t4 _ _ ht,hne',bo,bt,hsz,htl,fun t q' r H8 sm8 _ _ _ _ _ _ et _ er=>?_⟩
  refine ⟨t,_,_,_,rfl,rfl,SqT.of et,rfl,r,_,rfl,er,dR _ _,hrl,fun p9 H9 sm9 hp9 e9=>?_⟩
  refine ap ⟨_,rfl,?_⟩
  refine ⟨_,rfl,?_⟩
  have t9:=(t4.trans sm8).trans sm9
  exact ⟨m1,Nat.lt_succ_self _,pt,p9,other,_,_,rfl,s3.trans t9,t9 _ _ ht,e9,ft,s3.free ((t4.trans sm8).free hp9),hrun5,hcom5⟩
def sw:Sp:=fun vs H Q _=>∃ (a b:Addr) (xs ys:List Int) (n:Nat),vs=[.ref a,.ref b]/\H a=some (.lst (xs.map V.int))/\H b=some (.lst (ys.map V.int))/\Tr xs/\Tr ys/\AllB n xs/\AllB n ys/\(xs.length+2)*(n+1)<=1000000/\ys.length<=1000000/\ys≠[]/\aB xs ys=[]/\mkL H Q (av (bE xs ys))
theorem Ba {f:Addr} {fd:FuncData} (F:Fun K "part" "part" mY f fd) (T:Txt K mg) {jy:Addr} {jq:FuncData} (jW:Cal P w K mg base 2 "divided" ["first","second"] ke jy jq) {jx:Addr} {jp:FuncData} (jV:Cal P w K mg base 34 "plain" ["row"] j9 jx jp):FnOk P w K mg base CX0 35 f fd ["row","divisor"] sw:=by
 obtain ⟨jQ,jd,jk,jJ⟩:=jW
 obtain ⟨gM,fX,f7,gI⟩:=jV
 refine F.ok sc_part (fun vs H Q E h=>?_) (fun cdv A outer s H vs Q E hr h=>?_)
 ·obtain ⟨a,b,xs,ys,n,rfl,_⟩:=h
  rfl
 ·obtain ⟨a,b,xs,ys,nb,rfl,hA,hB,xtr,ytr,bx,by',hsz,hyn,hy,hR,k⟩:=h
  have hu:=hr.units
  refine ⟨_,(af (aj (i:=2) sc_part.nd rfl (Or.inl rfl) (al jQ (hr.mono) rfl jd jk jJ .nil ah (aa (pv 0) (aa (pv 1) ab))))
   (af (aV (aE (ff (K:=K) rfl hu) (aM (cb (K:=K) rfl) (pv 2) ac (fun _ _=>rfl)) (bj ab) (aA _))
     (ai fR)
     aW)
   (ai (au (al gM (hr.mono) rfl fX f7 gI .nil ah (aa (aM (cb (K:=K) rfl) (pv 2) ac (fun _ _=>rfl)) ab)))))),?_⟩
  refine ap ⟨_,rfl,_,rfl,a,b,xs,ys,nb,rfl,hA,hB,hy,bx,by',hsz,hyn,fun t q r H1 sm1 ft fq fr _ _ _ et eq er=>?_⟩
  refine bC ⟨_,rfl,t,_,_,_,rfl,rfl,SqT.of et,rfl,Nat.zero_le _,fun p hp=>?_⟩
  have s2:=Same.upd_new (o:=.lst []) hp
  refine ⟨r,p,_,[],rfl,rfl,SqL.of (s2 _ _ er),SqL.of ao,_,rfl,cC (fun h=>absurd hR h) (fun h=>?_)⟩
  have lq:=lw (a:=xs) hy
  have hxl:xs.length<=1000000:=by
   have:=Nat.mul_le_mul_left (xs.length+2) (show 1<=nb+1 by omega)
   omega
  have hN:aP xs ys<=xs.length+1:=by unfold aP;omega
  have hN2:aP xs ys<=xs.length:=by
   have:=List.length_pos_iff.mpr hy
   unfold aP;omega
  exact ⟨_,rfl,t,_,_,_,rfl,rfl,SqT.of (s2 _ _ et),rfl,q,bE xs ys,rfl,s2 _ _ eq,wq hy xtr ytr,by omega,fun p' H' sm' hp' e'=>k p' H' ((sm1.then_new hp).trans sm') ((sm1.then_new hp).free hp') e'⟩
theorem BA {f:Addr} {fd:FuncData} (F:Fun K "added" "added" nE f fd) (T:Txt K mg) {gu:Addr} {gn:FuncData} (gP:Cal P w K mg base 1 "poly" ["row"] (iE K) gu gn) {qd:Addr} {pS:FuncData} (qZ:Cal P w K mg base 1 "coefficient" ["row","place"] (fM K) qd pS):FnOk P w K mg base CX0 2 f fd ["first","second"] (kg K fG):=by
 obtain ⟨gL,fW,f6,gH⟩:=gP
 obtain ⟨jS,jf,jm,jL⟩:=qZ
 refine F.ok sc_added (fun vs H Q E h=>?_) (fun cdv A outer s H vs Q E hr h=>?_)
 ·obtain ⟨a,b,xs,ys,rfl,_⟩:=h
  rfl
 ·obtain ⟨a,b,xs,ys,rfl,hA,hB,hx,hy,k⟩:=h
  refine ⟨_,(af (aj (i:=2) sc_added.nd rfl (Or.inl rfl) (bA (wN rfl) (by rfl) T.max_ PyProof.Rows.boot_max (aa (bA (cE (K:=K) rfl) (by rfl) T.len_ PySem.boot_len (aa (pv 0) ab)) (aa (bA (cE (K:=K) rfl) (by rfl) T.len_ PySem.boot_len (aa (pv 1) ab)) ab))))
   (ai (au (al gL (hr.mono) rfl fW f6 gH .nil ah (aa (dH (own:=["k"]) (fr:=["first","second"]) (js:=[0,1]) (by walk_at "comp_ok") rfl (fb rfl T.range_ (aa (pv 2) ab)) (fun _ _ _ _=>(aQ (i:=0) (show List.Nodup (["k","first","second"]:List Str) from by decide +kernel) rfl (Or.inl rfl))) (fun _ _ _ _=>(ag bh (al jS (hr.mono) rfl jf jm jL .nil ah (aa (pv 1) (aa (pv 0) ab))) (al jS (hr.mono) rfl jf jm jL .nil ah (aa (pv 2) (aa (pv 0) ab)))))) ab))))),?_⟩
  refine ⟨_,rfl,a,_,rfl,.inl hA,_,rfl,b,_,rfl,.inl hB,_,_,rfl,?_⟩
  rw [vb,List.length_map,List.length_map]
  have hz:max xs.length ys.length<=sizeLine:=by have:=sizeLine_eq;omega
  refine ⟨_,rfl,_,rfl,(kh hz).1,(kh hz).2,qm (lo:=0) (n:=max xs.length ys.length) (fun i zs σ' H'=>∃ z:Option V,σ'=[z,some (.ref a),some (.ref b)]/\zs=((List.range i).map fun k=>V.int (cf xs k+cf ys k))/\H=H') hz ⟨none,rfl,rfl,rfl⟩ ?_ ?_ ?_⟩
  ·rintro i zs σ' H' _ ⟨z,rfl,rfl,rfl⟩
   simp
  ·rintro i zs σ' H' hi ⟨z,rfl,rfl,rfl⟩
   refine ⟨_,rfl,_,rfl,a,xs,i,?_,hA,_,rfl,_,rfl,b,ys,i,?_,hB,_,_,rfl,rfl,_,rfl,?_,rfl⟩
   ·show [V.ref a,V.int (0+(i:Int))]=_
    rw [Int.zero_add]
   ·show [V.ref b,V.int (0+(i:Int))]=_
    rw [Int.zero_add]
   ·rw [List.range_succ,List.map_append];rfl
  ·rintro zs σ' H' p ⟨z,rfl,rfl,rfl⟩ hp
   refine ⟨p,(List.range (max xs.length ys.length)).map fun k=>cf xs k+cf ys k,rfl,SqL.of ?_,?_⟩
   ·rw [ao,List.map_map];rfl
   ·intro p' H' sm hp' e
    refine k p' H' ((Same.upd_new hp).trans sm) ((Same.upd_new hp).free hp') ?_
    rw [e,Hi]
def mj:Sp:=fun vs H Q _=>∃ (a b:Addr) (xs ys:List Int),vs=[.ref a,.ref b]/\H a=some (.lst (xs.map V.int))/\H b=some (.lst (ys.map V.int))/\xs.length<=1000000/\ys.length<=1000000/\AllB 1000000 xs/\AllB 1000000 ys/\mkL H Q (ad xs ys)
theorem Bf {f:Addr} {fd:FuncData} (F:Fun K "multiplied" "multiplied" m5 f fd) (T:Txt K mg):FnOk P w K mg base CX0 1 f fd ["first","second"] mj:=by
 refine F.ok sc_multiplied (fun vs H Q E h=>?_) (fun cdv A outer s H vs Q E hr h=>?_)
 ·obtain ⟨a,b,xs,ys,rfl,_⟩:=h
  rfl
 ·obtain ⟨a,b,xs,ys,rfl,hA,hB,hx,hy,bx,by',k⟩:=h
  have hu:=hr.units
  refine ⟨_,(af (aV (PW.pt (ou (aE (iZ (K:=K) rfl hu) (pv 0) (bj ab) (aA _)) (tZ (aE (iZ (K:=K) rfl hu) (pv 1) (bj ab) (aA _)))))
   (ai (au (bj ab)))
   aW)
   (af (aj (i:=2) sc_multiplied.nd rfl (Or.inl rfl) (ag oJ (bj (aa ac ab)) (ag bK (ag bh (bA (cE (K:=K) rfl) (by rfl) T.len_ PySem.boot_len (aa (pv 0) ab)) (bA (cE (K:=K) rfl) (by rfl) T.len_ PySem.boot_len (aa (pv 1) ab))) ac)))
   (af (cv PassesOwn.never rfl (oC rfl T.enumerate_ (aa (pv 0) ab)) (ic rfl (cw (aQ (i:=3) sc_multiplied.nd rfl (Or.inl rfl)) (cw (aQ (i:=4) sc_multiplied.nd rfl (Or.inl rfl)) ib)))
     (ai (cv PassesOwn.never rfl (oC rfl T.enumerate_ (aa (pv 1) ab)) (ic rfl (cw (aQ (i:=5) sc_multiplied.nd rfl (Or.inl rfl)) (cw (aQ (i:=6) sc_multiplied.nd rfl (Or.inl rfl)) ib)))
       (ai (eX (ag bh (aM (bY (K:=K) rfl) (pv 2) (ag bh (pv 3) (pv 5)) (fun _ _=>rfl)) (ag aD (pv 4) (pv 6))) (iY (pv 2) (ag bh (pv 3) (pv 5)) iR))))))
   (ai (au (pv 2)))))),?_⟩
  refine ⟨_,rfl,Nat.zero_le _,fun p1 hp1=>?_⟩
  have s1:Same H (upd H p1 (.lst [])):=Same.upd_new hp1
  refine ⟨a,p1,xs,[],rfl,rfl,SqL.of (s1 _ _ hA),SqL.of ao,_,rfl,?_⟩
  refine aJ (fun h0=>?_) (fun h0=>?_)
  ·refine oj ⟨Nat.zero_le _,fun p2 hp2=>k p2 _ (s1.then_new hp2) (s1.free hp2) ?_⟩
   rw [ao];unfold ad;rw [if_pos (.inl h0)];rfl
  refine ⟨_,rfl,Nat.zero_le _,fun p2 hp2=>?_⟩
  have s2:Same H (upd (upd H p1 (.lst [])) p2 (.lst [])):=s1.then_new hp2
  refine ⟨b,p2,ys,[],rfl,rfl,SqL.of (s2 _ _ hB),SqL.of ao,_,rfl,?_⟩
  refine aJ (fun h1=>?_) (fun h1=>?_)
  ·refine ⟨Nat.zero_le _,fun p3 hp3=>k p3 _ (s2.then_new hp3) (s2.free hp3) ?_⟩
   rw [ao];unfold ad;rw [if_pos (.inr h1)];rfl
  generalize upd (upd H p1 (.lst [])) p2 (.lst [])=H2 at s2 ⊢
  obtain ⟨la,ea⟩:∃ la,xs.length=la+1:=⟨xs.length-1,by have:=List.length_pos_iff.mpr h0;omega⟩
  obtain ⟨lb,eb⟩:∃ lb,ys.length=lb+1:=⟨ys.length-1,by have:=List.length_pos_iff.mpr h1;omega⟩
  refine ⟨(by show 1<=sizeLine;decide),fun p3 hp3=>?_⟩
  have s3:=s2.then_new (o:=.lst [V.int 0]) hp3
  have big:=sizeLine_eq
  refine ⟨_,rfl,a,_,rfl,.inl (SqL.of (s3 _ _ hA)),_,rfl,b,_,rfl,.inl (SqL.of (s3 _ _ hB)),_,_,rfl,rfl,_,_,rfl,rfl,p3,_,_,rfl,rfl,ao,?_,?_,?_,fun p hp=>?_⟩
  ·rw [List.length_map,List.length_map];omega
  ·rw [List.length_map,List.length_map];omega
  ·rw [List.length_map,List.length_map];show 1*_<=_;omega
  have en:(((xs.map V.int).length:Int)+((ys.map V.int).length:Int)-1).toNat=la+lb+1:=by rw [List.length_map,List.length_map];omega
  rw [en,og]
  have s4:=s3.then_new (o:=.lst ((List.replicate (la+lb+1) (0:Int)).map V.int)) hp
  have npa:a≠p:=s3.ne hA hp
  have npb:b≠p:=s3.ne hB hp
  generalize hH4:upd (upd H2 p3 (.lst [V.int 0])) p (.lst ((List.replicate (la+lb+1) (0:Int)).map V.int))=H4 at s4 ⊢
  have hp4:H4 p=some (.lst ((List.replicate (la+lb+1) (0:Int)).map V.int)):=by rw [<- hH4,ao]
  refine ⟨_,rfl,a,rfl,⟨_,SqL.of (s4 _ _ hA)⟩,pH (K:=K) (a:=a) (xs:=xs.map V.int) (fun j σ' H'=>∃ (acc:List Int) (z3 z4 z5 z6:Option V),σ'=[some (.ref a),some (.ref b),some (.ref p),z3,z4,z5,z6]/\SameB p H4 H'/\H' p=some (.lst (acc.map V.int))/\acc.length=la+lb+1/\∀ n,n<acc.length->cf acc n=sm xs ys n j)
   ⟨List.replicate (la+lb+1) 0,none,none,none,none,rfl,SameB.refl _ _,hp4,by simp,fun n _=>by rw [jD];rfl⟩ ?_ ?_ ?_⟩
  ·rintro j σ' H' _ ⟨acc,z3,z4,z5,z6,rfl,sb,_⟩
   exact SqL.of (sb _ _ npa (s4 _ _ hA))
  ·rintro j x σ' H' q hj ⟨acc,z3,z4,z5,z6,rfl,sb,hpa,hal,hac⟩ hq
   rw [List.getElem?_map] at hj
   have hjl:j<xs.length:=by
    apply Classical.byContradiction
    intro hn
    rw [List.getElem?_eq_none_iff.mpr (Nat.le_of_not_lt hn)] at hj
    cases hj
   rw [gf hjl] at hj
   obtain rfl:=Option.some.inj hj
   refine ⟨q,_,rfl,SqT.of ao,rfl,_,_,rfl,_,_,rfl,rfl,?_⟩
   have nqp:p≠q:=aR hpa hq
   have sb1:SameB p H4 (upd H' q (.tup [.int j,.int (cf xs j)])):=sb.then_new hq
   refine ⟨_,rfl,b,rfl,⟨_,SqL.of (sb1 _ _ npb (s4 _ _ hB))⟩,pH (K:=K) (a:=b) (xs:=ys.map V.int) (fun i σ' H'=>∃ (acc:List Int) (z5 z6:Option V),σ'=[some (.ref a),some (.ref b),some (.ref p),some (.int j),some (.int (cf xs j)),z5,z6]/\SameB p H4 H'/\H' p=some (.lst (acc.map V.int))/\acc.length=la+lb+1/\∀ n,n<acc.length->cf acc n=sm xs ys n j+(if j<=n/\n-j<i then tm xs ys n j else 0))
    ⟨acc,z5,z6,rfl,sb1,by rw [upd_ne nqp];exact hpa,hal,uT hac⟩ ?_ ?_ ?_⟩
   ·rintro i σ' H' _ ⟨acc,z5,z6,rfl,sb,_⟩
    exact SqL.of (sb _ _ npb (s4 _ _ hB))
   ·rintro i x σ' H' q hi ⟨acc,z5,z6,rfl,sb,hpa,hal,hac⟩ hq
    rw [List.getElem?_map] at hi
    have hil:i<ys.length:=by
     apply Classical.byContradiction
     intro hn
     rw [List.getElem?_eq_none_iff.mpr (Nat.le_of_not_lt hn)] at hi
     cases hi
    rw [gf hil] at hi
    obtain rfl:=Option.some.inj hi
    refine ⟨q,_,rfl,SqT.of ao,rfl,_,_,rfl,_,_,rfl,rfl,?_⟩
    have nqp:p≠q:=aR hpa hq
    have hpa':upd H' q (.tup [.int i,.int (cf ys i)]) p=some (.lst (acc.map V.int)):=by rw [upd_ne nqp];exact hpa
    have hji:j+i<acc.length:=by omega
    have eji:((j:Nat):Int)+((i:Nat):Int)=((j+i:Nat):Int):=by omega
    refine ⟨_,rfl,_,rfl,_,rfl,_,_,rfl,rfl,p,_,_,_,rfl,rfl,SqL.of hpa',ir eji hji,_,rfl,_,rfl,_,_,rfl,rfl,⟨bx.cf j,by'.cf i⟩,_,_,rfl,rfl,_,rfl,_,rfl,_,rfl,_,_,rfl,rfl,p,_,_,j+i,rfl,rfl,hpa',jn eji (by rw [List.length_map];exact hji),?_⟩
    refine ⟨acc.set (j+i) (cf acc (j+i)+cf xs j*cf ys i),_,_,rfl,(sb.then_new hq).then_upd,by rw [ao,kS],by rw [List.length_set];exact hal,uS hjl hil hji hac⟩
   ·rintro σ' H' ⟨acc,z5,z6,rfl,sb,hpa,hal,hac⟩
    rw [List.length_map] at hac
    exact ⟨acc,_,_,_,_,rfl,sb,hpa,hal,uU hac⟩
  ·rintro σ' H' ⟨acc,z3,z4,z5,z6,rfl,sb,hpa,hal,hac⟩
   rw [List.length_map] at hac
   refine ⟨_,rfl,k p H' (fun b' o e=>sb b' o (s3.ne e hp) (s4 b' o e)) (s3.free hp) ?_⟩
   rw [hpa]
   have e:acc=ad xs ys:=by
    apply dC
    ·rw [hal];unfold ad;rw [if_neg (by intro z;exact z.elim h0 h1),List.length_map,List.length_range];omega
    ·intro n _
     rw [aG,uV (by omega) hac]
   rw [e]
def su (C:Addr):Sp:=fun vs H Q _=>∃ (p q:Addr) (t b u d:Int) (i j:Nat),vs=[.ref p,.ref q]/\RA C H p t b/\RA C H q u d/\Bits 100000 t/\Bits i b/\Bits 100000 u/\Bits j d/\i+j<=9000/\0<b/\0<d/\mkR C H Q (t*d+u*b) (b*d)
theorem BO {C f:Addr} {fd:FuncData} (F:Fun K "plus" "Ratio.plus" nZ f fd) (T:Txt K mg) (R:RCI K mg C) {f_Ratio:Addr} {fd_Ratio:FuncData} {ds_Ratio:List Value} (cq:KCal P w K mg base 2 C "Ratio" ["self","top","bottom"] (cT C) f_Ratio fd_Ratio ds_Ratio [.int 1]):FnOk P w K mg base CX0 4 f fd ["self","other"] (su C):=by
 obtain ⟨bU,bT,bR,ci,dg,df⟩:=cq
 refine F.ok zi (fun vs H Q E h=>?_) (fun cdv A outer s H vs Q E hr h=>?_)
 ·obtain ⟨p,q,t,b,u,d,i,j,rfl,_⟩:=h
  rfl
 ·obtain ⟨p,q,t,b,u,d,i,j,rfl,⟨dx,hp⟩,⟨dy,hq⟩,bt,bb,bu,bd,hij,hb,hd,k⟩:=h
  have bb':Bits 1000000 b:=bb.mono (by omega)
  have bd':Bits 1000000 d:=bd.mono (by omega)
  refine ⟨_,(ai (au (cD bT bU (hr.mono) rfl bR ci .nil ah (aa (ag bh (ag aD (aO (K:=K) rfl (pv 0) rfl) (aO (K:=K) rfl (pv 1) rfl)) (ag aD (aO (K:=K) rfl (pv 1) rfl) (aO (K:=K) rfl (pv 0) rfl))) (aa (ag aD (aO (K:=K) rfl (pv 0) rfl) (aO (K:=K) rfl (pv 1) rfl)) ab))))),?_⟩
  refine ⟨_,rfl,p,C,dx,_,_,rfl,hp,R.cl,R.nT,cP _ _,_,rfl,q,C,dy,_,_,rfl,hq,R.cl,R.nB,cg _ _,_,_,rfl,rfl,⟨bt.mono,bd'⟩,?_⟩
  refine ⟨_,rfl,q,C,dy,_,_,rfl,hq,R.cl,R.nT,cP _ _,_,rfl,p,C,dx,_,_,rfl,hp,R.cl,R.nB,cg _ _,_,_,rfl,rfl,⟨bu.mono,bb'⟩,_,_,rfl,rfl,?_⟩
  refine ⟨_,rfl,p,C,dx,_,_,rfl,hp,R.cl,R.nB,cg _ _,_,rfl,q,C,dy,_,_,rfl,hq,R.cl,R.nB,cg _ _,_,_,rfl,rfl,⟨bb',bd'⟩,?_⟩
  exact cY (Int.ne_of_gt (Int.mul_pos hb hd)) ((bb.mul bd).mono hij) k
def ml (C:Addr):Sp:=fun vs H Q _=>∃ (p q:Addr) (t b u d:Int) (i j:Nat),vs=[.ref p,.ref q]/\RA C H p t b/\RA C H q u d/\Bits 100000 t/\Bits i b/\Bits 100000 u/\Bits j d/\i+j<=9000/\0<b/\0<d/\mkR C H Q (t*d-u*b) (b*d)
theorem BP {C f:Addr} {fd:FuncData} (F:Fun K "minus" "Ratio.minus" n5 f fd) (T:Txt K mg) (R:RCI K mg C) {f_Ratio:Addr} {fd_Ratio:FuncData} {ds_Ratio:List Value} (cq:KCal P w K mg base 2 C "Ratio" ["self","top","bottom"] (cT C) f_Ratio fd_Ratio ds_Ratio [.int 1]):FnOk P w K mg base CX0 4 f fd ["self","other"] (ml C):=by
 obtain ⟨bU,bT,bR,ci,dg,df⟩:=cq
 refine F.ok zj (fun vs H Q E h=>?_) (fun cdv A outer s H vs Q E hr h=>?_)
 ·obtain ⟨p,q,t,b,u,d,i,j,rfl,_⟩:=h
  rfl
 ·obtain ⟨p,q,t,b,u,d,i,j,rfl,⟨dx,hp⟩,⟨dy,hq⟩,bt,bb,bu,bd,hij,hb,hd,k⟩:=h
  have bb':Bits 1000000 b:=bb.mono (by omega)
  have bd':Bits 1000000 d:=bd.mono (by omega)
  refine ⟨_,(ai (au (cD bT bU (hr.mono) rfl bR ci .nil ah (aa (ag bK (ag aD (aO (K:=K) rfl (pv 0) rfl) (aO (K:=K) rfl (pv 1) rfl)) (ag aD (aO (K:=K) rfl (pv 1) rfl) (aO (K:=K) rfl (pv 0) rfl))) (aa (ag aD (aO (K:=K) rfl (pv 0) rfl) (aO (K:=K) rfl (pv 1) rfl)) ab))))),?_⟩
  refine ⟨_,rfl,p,C,dx,_,_,rfl,hp,R.cl,R.nT,cP _ _,_,rfl,q,C,dy,_,_,rfl,hq,R.cl,R.nB,cg _ _,_,_,rfl,rfl,⟨bt.mono,bd'⟩,?_⟩
  refine ⟨_,rfl,q,C,dy,_,_,rfl,hq,R.cl,R.nT,cP _ _,_,rfl,p,C,dx,_,_,rfl,hp,R.cl,R.nB,cg _ _,_,_,rfl,rfl,⟨bu.mono,bb'⟩,_,_,rfl,rfl,?_⟩
  refine ⟨_,rfl,p,C,dx,_,_,rfl,hp,R.cl,R.nB,cg _ _,_,rfl,q,C,dy,_,_,rfl,hq,R.cl,R.nB,cg _ _,_,_,rfl,rfl,⟨bb',bd'⟩,?_⟩
  exact cY (Int.ne_of_gt (Int.mul_pos hb hd)) ((bb.mul bd).mono hij) k
def j8 (C:Addr):Sp:=fun vs H Q _=>∃ (p q:Addr) (t b u d:Int) (i j:Nat),vs=[.ref p,.ref q]/\RA C H p t b/\RA C H q u d/\Bits 100000 t/\Bits i b/\Bits 100000 u/\Bits j d/\i+j<=9000/\0<b/\0<d/\mkR C H Q (t*u) (b*d)
theorem BN {C f:Addr} {fd:FuncData} (F:Fun K "times" "Ratio.times" nY f fd) (T:Txt K mg) (R:RCI K mg C) {f_Ratio:Addr} {fd_Ratio:FuncData} {ds_Ratio:List Value} (cq:KCal P w K mg base 2 C "Ratio" ["self","top","bottom"] (cT C) f_Ratio fd_Ratio ds_Ratio [.int 1]):FnOk P w K mg base CX0 4 f fd ["self","other"] (j8 C):=by
 obtain ⟨bU,bT,bR,ci,dg,df⟩:=cq
 refine F.ok zh (fun vs H Q E h=>?_) (fun cdv A outer s H vs Q E hr h=>?_)
 ·obtain ⟨p,q,t,b,u,d,i,j,rfl,_⟩:=h
  rfl
 ·obtain ⟨p,q,t,b,u,d,i,j,rfl,⟨dx,hp⟩,⟨dy,hq⟩,bt,bb,bu,bd,hij,hb,hd,k⟩:=h
  refine ⟨_,(ai (au (cD bT bU (hr.mono) rfl bR ci .nil ah (aa (ag aD (aO (K:=K) rfl (pv 0) rfl) (aO (K:=K) rfl (pv 1) rfl)) (aa (ag aD (aO (K:=K) rfl (pv 0) rfl) (aO (K:=K) rfl (pv 1) rfl)) ab))))),?_⟩
  refine ⟨_,rfl,p,C,dx,_,_,rfl,hp,R.cl,R.nT,cP _ _,_,rfl,q,C,dy,_,_,rfl,hq,R.cl,R.nT,cP _ _,_,_,rfl,rfl,⟨bt.mono,bu.mono⟩,?_⟩
  refine ⟨_,rfl,p,C,dx,_,_,rfl,hp,R.cl,R.nB,cg _ _,_,rfl,q,C,dy,_,_,rfl,hq,R.cl,R.nB,cg _ _,_,_,rfl,rfl,⟨bb.mono (by omega),bd.mono (by omega)⟩,?_⟩
  exact cY (Int.ne_of_gt (Int.mul_pos hb hd)) ((bb.mul bd).mono hij) k
theorem wp {l:List Int} {i:Nat} {c:Int} (hi:i<l.length) (e:l[l.length-1-i]?=some c):l.drop (l.length-(i+1))=c::l.drop (l.length-i):=by
 have h:l.length-(i+1)=l.length-1-i:=by omega
 rw [h,List.drop_eq_getElem_cons (by omega)]
 have h2:l.length-1-i+1=l.length-i:=by omega
 rw [h2]
 have h3:=List.getElem?_eq_getElem (l:=l) (i:=l.length-1-i) (by omega)
 rw [h3] at e
 rw [Option.some.inj e]
theorem ia (n:Nat):(0:Int)<2^n:=Int.pow_pos (by decide)
theorem fS (n:Nat):(2:Int)^n=((2^n:Nat):Int):=by rw [Int.natCast_pow];rfl
theorem iX {n k:Nat} (h:n<k):Bits k ((2:Int)^n):=by
 rw [fS]
 show (((2^n:Nat):Int)).natAbs<2^k
 rw [Int.natAbs_natCast]
 exact (Nat.pow_lt_pow_iff_right (by decide)).mpr h
theorem d6:Bits 1000000 (2:Int):=Bits.mono (j:=2) (by show (2:Int).natAbs<2^2;decide) (by decide)
theorem oK:Bits 1000000 (1:Int):=Bits.mono (j:=1) (by show (1:Int).natAbs<2^1;decide) (by decide)
def sJ (C:Addr):Sp:=fun vs H Q _=>∃ (r wd:Addr) (r1 r2 w1 w2:Int) (kr kw:Nat),vs=[.ref r,.ref wd]/\RA C H r r1 r2/\RA C H wd w1 w2/\0<r2/\0<w1/\Bits kr r1/\Bits 100000 r2/\Bits 100000 w1/\Bits kw w2/\kr+kw<=100000/\∀ n:Nat,n<=kr+kw->r1*w2<=w1*r2*2^n->(∀ j:Nat,j<n->w1*r2*2^j<r1*w2)->Q (.int n) H
theorem Bm {C f:Addr} {fd:FuncData} (F:Fun K "halvings" "halvings" nh f fd) (T:Txt K mg) (R:RCI K mg C):FnOk P w K mg base CX0 1 f fd ["reach","width"] (sJ C):=by
 refine F.ok sc_halvings (fun vs H Q E h=>?_) (fun cdv A outer s H vs Q E hr h=>?_)
 ·obtain ⟨r,wd,r1,r2,w1,w2,kr,kw,rfl,_⟩:=h
  rfl
 ·obtain ⟨r,wd,r1,r2,w1,w2,kr,kw,rfl,⟨dr,hR⟩,⟨dw,hW⟩,hr2,hw1,br1,br2,bw1,bw2,hkk,k⟩:=h
  refine ⟨_,(af (aj (i:=2) sc_halvings.nd rfl (Or.inl rfl) (ag aD (aO (K:=K) rfl (pv 0) rfl) (aO (K:=K) rfl (pv 1) rfl)))
   (af (aj (i:=3) sc_halvings.nd rfl (Or.inl rfl) (ag aD (aO (K:=K) rfl (pv 1) rfl) (aO (K:=K) rfl (pv 0) rfl)))
   (af (aj (i:=4) sc_halvings.nd rfl (Or.inl rfl) ac)
   (af (ek PassesOwn.never (aE dk (pv 2) (pv 3) (aA _))
     (af (aj (i:=3) sc_halvings.nd rfl (Or.inl rfl) (ag aD ac (pv 3)))
       (ai (aj (i:=4) sc_halvings.nd rfl (Or.inl rfl) (ag bh (pv 4) ac)))))
   (ai (au (pv 4))))))),?_⟩
  refine ap ⟨_,rfl,r,C,dr,_,_,rfl,hR,R.cl,R.nT,cP _ _,_,rfl,wd,C,dw,_,_,rfl,hW,R.cl,R.nB,cg _ _,_,_,rfl,rfl,⟨br1.mono (by omega),bw2.mono (by omega)⟩,?_⟩
  refine ap ⟨_,rfl,wd,C,dw,_,_,rfl,hW,R.cl,R.nT,cP _ _,_,rfl,r,C,dr,_,_,rfl,hR,R.cl,R.nB,cg _ _,_,_,rfl,rfl,⟨bw1.mono,br2.mono⟩,?_⟩
  have bW:Bits (kr+kw) (r1*w2):=br1.mul bw2
  have g0:0<w1*r2:=Int.mul_pos hw1 hr2
  refine ap ?_
  dsimp only
  generalize r1*w2=W at *
  generalize w1*r2=g at *
  show cS _ _ _ _ _
  have b0:∀ n:Nat,(∀ j:Nat,j<n->g*2^j<W)->n<=kr+kw:=fun n hn=>by
   rcases Nat.lt_or_ge (kr+kw) n with z | z
   ·have h1:=hn (kr+kw) z
    have h2:(2:Int)^(kr+kw)<=g*2^(kr+kw):=by
     have:=Int.mul_le_mul_of_nonneg_right (show (1:Int)<=g by omega) (Int.le_of_lt (ia (kr+kw)))
     omega
    have h3:W.natAbs<2^(kr+kw):=bW
    have h5:(W.natAbs:Int)<((2^(kr+kw):Nat):Int):=Int.ofNat_lt.mpr h3
    rw [<- fS] at h5
    generalize (2:Int)^(kr+kw)=Y at *
    omega
   ·exact z
  refine ⟨fun m σ' H'=>∃ n:Nat,σ'=[some (.ref r),some (.ref wd),some (.int W),some (.int (g*2^n)),some (.int n)]/\H=H'/\m=(W-g*2^n).toNat/\∀ j:Nat,j<n->g*2^j<W,⟨_,0,by rw [Int.pow_zero,Int.mul_one];rfl,rfl,rfl,fun j hj=>absurd hj (Nat.not_lt_zero _)⟩,?_⟩
  rintro m σ' H' ⟨n,rfl,rfl,rfl,hj⟩
  refine ⟨_,rfl,_,rfl,_,_,rfl,rfl,_,rfl,aJ (fun hgt=>?_) (fun hle=>?_)⟩
  ·have hgt':g*2^n<W:=hgt
   have gp:0<g*2^n:=Int.mul_pos g0 (ia n)
   have bg:Bits (kr+kw) (g*2^n):=bW.of_le (by omega)
   refine ⟨fun σ'' H''=>∃ m',m'<(W-g*2^n).toNat/\∃ n:Nat,σ''=[some (.ref r),some (.ref wd),some (.int W),some (.int (g*2^n)),some (.int n)]/\H=H''/\m'=(W-g*2^n).toNat/\∀ j:Nat,j<n->g*2^j<W,fun _ _ h=>h,?_⟩
   have e2:2*(g*2^n)=g*2^(n+1):=by rw [Int.pow_succ];grind
   refine ap ⟨_,rfl,_,_,rfl,rfl,⟨d6,bg.mono (by omega)⟩,?_⟩
   refine cV ⟨_,rfl,_,_,rfl,rfl,?_⟩
   refine ⟨(W-g*2^(n+1)).toNat,by rw [<- e2];omega,n+1,by rw [<- e2];rfl,rfl,rfl,fun j h'=>?_⟩
   by_cases ej:j=n
   ·subst ej;exact hgt'
   ·exact hj j (by omega)
  ·refine ⟨_,rfl,k n (b0 n hj) ?_ hj⟩
   have:¬ g*2^n<W:=hle
   omega
theorem fN {k:Nat} {t b:Int} (hb:b≠0) (h:Bits k t):Bits k (rt t b):=h.of_le (zu hb)
theorem eU {k:Nat} {t b:Int} (hb:b≠0) (h:Bits k b):Bits k (rb t b):=h.of_le (zK hb)
theorem uG:¬ (("plus":Str)="bottom")/\¬ (("plus":Str)="top"):=⟨by decide +kernel,by decide +kernel⟩
theorem uH:¬ (("minus":Str)="bottom")/\¬ (("minus":Str)="top"):=⟨by decide +kernel,by decide +kernel⟩
theorem kH:¬ (("times":Str)="bottom")/\¬ (("times":Str)="top"):=⟨by decide +kernel,by decide +kernel⟩
def sR (C:Addr):Sp:=fun vs H Q _=>∃ (l r:Addr) (l1 l2 r1 r2 pl pc:Int) (i j n:Nat),vs=[.ref l,.ref r,.int pl,.int pc]/\RA C H l l1 l2/\RA C H r r1 r2/\0<l2/\0<r2/\0<pc/\Bits i l1/\Bits i l2/\Bits j r1/\Bits j r2/\Bits n pl/\Bits n pc/\i+(j+n)<=9000 /\
 ∀ (x:Addr) (H':Hp) (x1 x2:Int),Same H H'->H x=none->RA C H' x x1 x2->0<x2->x1*(l2*r2*pc)=(l1*r2*pc+r1*l2*pl)*x2->Bits (i+(j+n)+1) x1->Bits (i+(j+n)+1) x2->Nat.gcd x1.natAbs x2.natAbs=1->Q (.ref x) H'
theorem Bz {C f:Addr} {fd:FuncData} (F:Fun K "along" "along" nD f fd) (T:Txt K mg) (R:RCI K mg C) {FW:Addr} {Ff:FuncData} (IS:MCal P w K mg base 4 C "plus" ["self","other"] (su C) FW Ff) {jB:Addr} {ju:FuncData} (jZ:MCal P w K mg base 4 C "times" ["self","other"] (j8 C) jB ju) {f_Ratio:Addr} {fd_Ratio:FuncData} {ds_Ratio:List Value} (cq:KCal P w K mg base 2 C "Ratio" ["self","top","bottom"] (cT C) f_Ratio fd_Ratio ds_Ratio [.int 1]):FnOk P w K mg base CX0 5 f fd ["low","reach","place","pieces"] (sR C):=by
 obtain ⟨HW,Cf,G7⟩:=IS
 obtain ⟨jT,i7,jM⟩:=jZ
 obtain ⟨bU,bT,bR,ci,dg,df⟩:=cq
 refine F.ok zc (fun vs H Q E h=>?_) (fun cdv A outer s H vs Q E hr h=>?_)
 ·obtain ⟨l,r,l1,l2,r1,r2,pl,pc,i,j,n,rfl,_⟩:=h
  rfl
 ·obtain ⟨l,r,l1,l2,r1,r2,pl,pc,i,j,n,rfl,hL,hR,hl2,hr2,hpc,bl1,bl2,br1,br2,bpl,bpc,hijn,k⟩:=h
  refine ⟨_,(ai (au (fc (pv 0) R.cl Cf HW (hr.mono) G7 .nil ah (aa (fc (pv 1) R.cl i7 jT (hr.mono) jM .nil ah (aa (cD bT bU (hr.mono) rfl bR ci .nil ah (aa (pv 2) (aa (pv 3) ab))) ab)) ab)))),?_⟩
  obtain ⟨dl,hl⟩:=id hL
  obtain ⟨dr,hrr⟩:=id hR
  have pc0:pc≠0:=Int.ne_of_gt hpc
  refine aU ⟨_,rfl,l,dl,_,rfl,hl,gk _ _ uG.1 uG.2,_,rfl,r,dr,_,rfl,hrr,gk _ _ kH.1 kH.2,_,rfl,_,rfl,cY pc0 (bpc.mono (by omega)) fun xa H1 s1 ha hRa=>?_⟩
  have a0:0<rb pl pc:=eS pc0
  have ba1:Bits n (rt pl pc):=fN pc0 bpl
  have ba2:Bits n (rb pl pc):=eU pc0 bpc
  have ea:=h9 (t:=pl) pc0
  generalize rt pl pc=a1 at *
  generalize rb pl pc=a2 at *
  refine ⟨r,xa,r1,r2,a1,a2,j,n,rfl,hR.same s1,hRa,br1.mono (by omega),br2,ba1.mono (by omega),ba2,by omega,hr2,a0,fun xc H2 s2 hc hRc=>?_⟩
  have d0:r2*a2≠0:=Int.ne_of_gt (Int.mul_pos hr2 a0)
  have c0:0<rb (r1*a1) (r2*a2):=eS d0
  have bc1:Bits (j+n) (rt (r1*a1) (r2*a2)):=fN d0 (br1.mul ba1)
  have bc2:Bits (j+n) (rb (r1*a1) (r2*a2)):=eU d0 (br2.mul ba2)
  have ec:=h9 (t:=r1*a1) d0
  generalize rt (r1*a1) (r2*a2)=c1 at *
  generalize rb (r1*a1) (r2*a2)=c2 at *
  have t2:=s1.trans s2
  refine ⟨l,xc,l1,l2,c1,c2,i,j+n,rfl,hL.same t2,hRc,bl1.mono (by omega),bl2,bc1.mono (by omega),bc2,hijn,hl2,c0,fun xx H3 s3 hx hRx=>?_⟩
  have x0:l2*c2≠0:=Int.ne_of_gt (Int.mul_pos hl2 c0)
  refine k xx H3 _ _ (t2.trans s3) (t2.free hx) hRx (eS x0) (Hg a0 c0 ea ec (h9 x0)) ?_ ?_ (oq x0)
  ·refine (fN x0 ?_)
   exact Bits.add (bl1.mul bc2) ((bc1.mul bl2).mono (by omega))
  ·exact (eU x0 (bl2.mul bc2)).mono (by omega)
theorem Cl {i j:Nat} {a b c:Int} {l:List Int} (hl:AllB i l) (ha:Bits j a) (hb:Bits j b) (hc:Bits (i+j) c):AllB (i+j+1) (mb a b c l):=AllB.of_cf fun n=>by
 rw [gD]
 refine Bits.add ?_ ?_
 ·exact (ha.neg.mul (hl.cf n)).mono (by omega)
 ·split
  ·exact hc
  ·exact (hb.mul (hl.cf (n-1))).mono (by omega)
theorem rL {kv j:Nat} {m s0 s1:Int} (hm:Bits j m) (h0:Bits j s0) (h1:Bits j s1):∀ {l:List Int},AllB kv l->AllB (kv+(j+1)*l.length+1) (bG m s0 s1 l)
 | [],_=>AllB.nil
 | v::l,h=>by
   have ih:=rL hm h0 h1 (l:=l) fun x hx=>h x (List.mem_cons_of_mem _ hx)
   have hv:=h v (List.mem_cons_self ..)
   have:=Cl (c:=v*m^l.length) ih h0.neg h1 ((hv.mul (gF hm l.length)).mono (by
    have:(j+1)*l.length=j*l.length+l.length:=by rw [Nat.add_mul,Nat.one_mul]
    omega))
   refine AllB.mono this ?_
   rw [List.length_cons,Nat.mul_add,Nat.mul_one];omega
theorem yh {a b c:Int} {l:List Int} (hne:l≠[]) (hT:Tr (mb a b c l)):fG (ad l [-a,b]) (trim [c])=mb a b c l:=by
 refine gw (di _) hT fun k=>?_
 unfold fG
 rw [dU,fC,dU,Int.one_mul,Cb hne,gD,gD]
 rcases k with _ | k
 ·show _+0+c=_+c
  omega
 ·rw [if_neg (by omega),if_neg (by omega)]
  show _+cf [] k=_
  rw [b7];omega
theorem xJ {m s0 s1:Int} (hs:0<s1) {l:List Int} (hne:l≠[]) (hl:Tr l):Tr (bG m s0 s1 l):=by
 have h1:=rK m s0 s1 l
 have hlen:=gW m s0 s1 l
 have hp:0<l.length:=List.length_pos_iff.mpr hne
 have h2:cf l (l.length-1)≠0:=hl _ (by omega)
 intro n hn
 have:n=l.length-1:=by omega
 subst this
 rw [h1]
 exact Int.mul_ne_zero h2 (Int.ne_of_gt (Int.pow_pos hs))
theorem xO {l:List Int} (hl:Tr l) {i:Nat} (h:i<l.length):Tr (l.drop i):=by
 intro n hn
 rw [List.length_drop] at hn
 have e:cf (l.drop i) n=cf l (i+n):=by
  unfold cf
  simp [List.getD]
 rw [e]
 exact hl _ (by omega)
def r8 (C:Addr):Sp:=fun vs H Q _=>∃ (a l r:Addr) (ns:List Int) (l1 l2 r1 r2:Int),vs=[.ref a,.ref l,.ref r]/\H a=some (.lst (ns.map V.int))/\RA C H l l1 l2/\RA C H r r1 r2/\Tr ns/\ns≠[]/\ns.length<=12/\AllB 1000 ns/\0<l2/\0<r1/\0<r2/\Bits 1400 l1/\Bits 1400 l2/\Bits 2900 r1/\Bits 2900 r2 /\
 ∀ m s0 s1:Int,0<m->s0*l2=l1*m->s1*r2=r1*m->0<s1->AllB 60000 (bG m s0 s1 ns)->mkL H Q (bG m s0 s1 ns)
theorem AT {C f:Addr} {fd:FuncData} (F:Fun K "stretched" "stretched" mJ f fd) (T:Txt K mg) (R:RCI K mg C) {pY:Addr} {pM:FuncData} (qU:Cal P w K mg base 2 "shared" ["row"] (md K) pY pM) {FK:Addr} {E3:FuncData} (IG:Cal P w K mg base 2 "added" ["first","second"] (kg K fG) FK E3) {qc:Addr} {pR:FuncData} (qY:Cal P w K mg base 1 "multiplied" ["first","second"] mj qc pR) {gu:Addr} {gn:FuncData} (gP:Cal P w K mg base 1 "poly" ["row"] (iE K) gu gn):FnOk P w K mg base CX0 3 f fd ["row","low","reach"] (r8 C):=by
 obtain ⟨qL,o0,pi,qw⟩:=qU
 obtain ⟨HM,CW,DO,GY⟩:=IG
 obtain ⟨qO,o4,pA,qz⟩:=qY
 obtain ⟨gL,fW,f6,gH⟩:=gP
 refine F.ok sc_stretched (fun vs H Q E h=>?_) (fun cdv A outer s H vs Q E hr h=>?_)
 ·obtain ⟨a,l,r,ns,l1,l2,r1,r2,rfl,_⟩:=h
  rfl
 ·obtain ⟨a,l,r,ns,l1,l2,r1,r2,rfl,hA,⟨dl,hL⟩,⟨dr,hR⟩,hT,hne,hln,hbn,hl2,hr1,hr2,bl1,bl2,br1,br2,k⟩:=h
  refine ⟨_,(af (aj (i:=3) sc_stretched.nd rfl (Or.inl rfl) (ag dm (ag aD (aO (K:=K) rfl (pv 1) rfl) (aO (K:=K) rfl (pv 2) rfl)) (al qL (hr.mono) rfl o0 pi qw .nil ah (aa (bj (aa (aO (K:=K) rfl (pv 1) rfl) (aa (aO (K:=K) rfl (pv 2) rfl) ab))) ab))))
   (af (aj (i:=4) sc_stretched.nd rfl (Or.inl rfl) (ag aD (aO (K:=K) rfl (pv 1) rfl) (ag dm (pv 3) (aO (K:=K) rfl (pv 1) rfl))))
   (af (aj (i:=5) sc_stretched.nd rfl (Or.inl rfl) (ag aD (aO (K:=K) rfl (pv 2) rfl) (ag dm (pv 3) (aO (K:=K) rfl (pv 2) rfl))))
   (af (aj (i:=6) sc_stretched.nd rfl (Or.inl rfl) (bj ab))
   (af (aj (i:=7) sc_stretched.nd rfl (Or.inl rfl) ac)
   (af (cv PassesOwn.never rfl (oB rfl T.reversed_ (aa (pv 0) ab)) (aQ (i:=8) sc_stretched.nd rfl (Or.inl rfl))
     (af (aj (i:=6) sc_stretched.nd rfl (Or.inl rfl) (al HM (hr.mono) rfl CW DO GY .nil ah (aa (al qO (hr.mono) rfl o4 pA qz .nil ah (aa (pv 6) (aa (bj (aa (pv 4) (aa (pv 5) ab))) ab))) (aa (al gL (hr.mono) rfl fW f6 gH .nil ah (aa (bj (aa (ag aD (pv 8) (pv 7)) ab)) ab)) ab))))
       (ai (aj (i:=7) sc_stretched.nd rfl (Or.inl rfl) (ag aD (pv 7) (pv 3))))))
   (ai (au (pv 6))))))))),?_⟩
  obtain ⟨l',r',pl',pr',pg,el,er,em,e1,e2,pm⟩:=Gz hl2 hr2 (g:=ar [l2,r2]) (by show Nat.gcd (Nat.gcd 0 l2.natAbs) r2.natAbs=_;rw [Nat.gcd_zero_left])
  have bg:Bits 9000 ((ar [l2,r2]:Nat):Int):=Bits.mono (j:=1400) (bl2.of_le (by rw [Int.natAbs_natCast];exact Nat.le_of_dvd (by omega) (by show Nat.gcd (Nat.gcd 0 l2.natAbs) r2.natAbs∣_;rw [Nat.gcd_zero_left];exact Nat.gcd_dvd_left _ _))) (by decide)
  have bl':Bits 1400 l':=bl2.of_le (by
   rw [el,Int.natAbs_mul]
   exact Nat.le_mul_of_pos_left _ (by omega))
  have br':Bits 2900 r':=br2.of_le (by
   rw [er,Int.natAbs_mul]
   exact Nat.le_mul_of_pos_left _ (by omega))
  refine ap ⟨_,rfl,l,C,dl,_,_,rfl,hL,R.cl,R.nB,cg _ _,_,rfl,r,C,dr,_,_,rfl,hR,R.cl,R.nB,cg _ _,_,_,rfl,rfl,⟨bl2.mono,br2.mono⟩,?_⟩
  refine ⟨_,rfl,l,C,dl,_,_,rfl,hL,R.cl,R.nB,cg _ _,_,rfl,r,C,dr,_,_,rfl,hR,R.cl,R.nB,cg _ _,by show 2<=sizeLine;decide,fun p0 hp0=>?_⟩
  have s0':=Same.upd_new (o:=.lst [V.int l2,V.int r2]) hp0
  refine ⟨p0,[l2,r2],rfl,SqL.of ao,_,_,rfl,rfl,⟨pg,bg⟩,?_⟩
  generalize upd H p0 (.lst [V.int l2,V.int r2])=H0 at s0' ⊢
  dsimp only
  rw [em]
  refine ap ⟨_,rfl,l,C,dl,_,_,rfl,s0' _ _ hL,R.cl,R.nT,cP _ _,_,rfl,_,rfl,l,C,dl,_,_,rfl,s0' _ _ hL,R.cl,R.nB,cg _ _,_,_,rfl,rfl,⟨hl2,bl2.mono⟩,?_⟩
  dsimp only
  rw [e1]
  refine ⟨_,_,rfl,rfl,⟨bl1.mono,br'.mono⟩,?_⟩
  refine ap ⟨_,rfl,r,C,dr,_,_,rfl,s0' _ _ hR,R.cl,R.nT,cP _ _,_,rfl,_,rfl,r,C,dr,_,_,rfl,s0' _ _ hR,R.cl,R.nB,cg _ _,_,_,rfl,rfl,⟨hr2,br2.mono⟩,?_⟩
  dsimp only
  rw [e2]
  refine ⟨_,_,rfl,rfl,⟨br1.mono,bl'.mono⟩,?_⟩
  have q0:l1*r'*l2=l1*(l2*r'):=by grind
  have q1:r1*l'*r2=r1*(l2*r'):=by
   calc r1*l'*r2=r1*l'*(((ar [l2,r2]:Nat):Int)*r'):=by rw [<- er]
    _=r1*((((ar [l2,r2]:Nat):Int)*l')*r'):=by grind
    _=r1*(l2*r'):=by rw [<- el]
  have q2:0<r1*l':=Int.mul_pos hr1 pl'
  have bm:Bits 4300 (l2*r'):=bl2.mul br'
  have bs0:Bits 4300 (l1*r'):=bl1.mul br'
  have bs1:Bits 4300 (r1*l'):=br1.mul bl'
  dsimp only
  generalize l2*r'=m at *
  generalize l1*r'=s0 at *
  generalize r1*l'=s1 at *
  have sb:∀ {l:List Int},AllB 1000 l->l.length<=12->AllB 60000 (bG m s0 s1 l):=fun {l} h hl=>(rL bm bs0 bs1 h).mono (by omega)
  refine ap ⟨Nat.zero_le _,fun p1 hp1=>?_⟩
  have s1':=s0'.then_new (o:=.lst []) hp1
  have h1:upd H0 p1 (.lst []) p1=some (.lst []):=ao
  have f1:H p1=none:=s0'.free hp1
  generalize upd H0 p1 (.lst [])=H1 at s1' h1 ⊢
  refine ap ?_
  have hl:(ns.map V.int).length=ns.length:=List.length_map _
  refine ⟨_,rfl,a,_,rfl,SqL.of (s1' _ _ hA),pF (K:=K) (a:=a) (xs:=ns.map V.int) (fun i σ' H'=>∃ (p:Addr) (z:Option V),σ'=[some (.ref a),some (.ref l),some (.ref r),some (.int m),some (.int s0),some (.int s1),some (.ref p),some (.int (m^i)),z]/\Same H H'/\H p=none/\H' p=some (.lst ((bG m s0 s1 (ns.drop (ns.length-i))).map V.int))) ⟨p1,none,by rw [Int.pow_zero];rfl,s1',f1,by rw [Nat.sub_zero,List.drop_length];exact h1⟩ ?_ ?_ ?_⟩
  ·rintro i σ' H' _ ⟨p,z,rfl,sm,_⟩
   exact SqL.of (sm _ _ hA)
  ·rintro i x σ' H2 hi hx ⟨p,z,rfl,s2,fp,e2'⟩
   rw [hl] at hi hx
   obtain ⟨c,ec,rfl,hc,_⟩:=fu hx
   have bc:=hbn c hc
   have hd:=wp hi ec
   have len:(ns.drop (ns.length-i)).length=i:=by rw [List.length_drop];omega
   have hbd:AllB 1000 (ns.drop (ns.length-i)):=fun x hx=>hbn x (List.mem_of_mem_drop hx)
   have aF:=sb hbd (by omega)
   have lF:(bG m s0 s1 (ns.drop (ns.length-i))).length=i:=by rw [gW,len]
   have bP:Bits 60000 (m^i):=(gF bm i).mono (by omega)
   have eF:fG (ad (bG m s0 s1 (ns.drop (ns.length-i))) [s0,s1]) (trim [c*m^i])=bG m s0 s1 (ns.drop (ns.length-(i+1))):=by
    have hT':Tr (bG m s0 s1 (ns.drop (ns.length-(i+1)))):=xJ q2 (by rw [hd];simp) (xO hT (by omega))
    rw [hd] at hT' ⊢
    have hT2:Tr (mb (-s0) s1 (c*m^i) (bG m s0 s1 (ns.drop (ns.length-i)))):=by
     have:bG m s0 s1 (c::ns.drop (ns.length-i))=mb (-s0) s1 (c*m^(ns.drop (ns.length-i)).length) (bG m s0 s1 (ns.drop (ns.length-i))):=rfl
     rw [this,len] at hT'
     exact hT'
    show _=mb (-s0) s1 (c*m^(ns.drop (ns.length-i)).length) (bG m s0 s1 (ns.drop (ns.length-i)))
    rw [len]
    by_cases hi0:i=0
    ·subst hi0
     have e0:bG m s0 s1 (ns.drop (ns.length-0))=[]:=by rw [Nat.sub_zero,List.drop_length];rfl
     rw [e0] at hT2 ⊢
     refine gw (di _) hT2 fun k=>?_
     unfold fG
     rw [dU,fC,aG,dU,Int.one_mul]
     show 0+_=_
     rw [Int.zero_add];rfl
    ·have hn':bG m s0 s1 (ns.drop (ns.length-i))≠[]:=fun z=>by rw [z] at lF;exact hi0 lF.symm
     have:=yh (a := -s0) (b:=s1) (c:=c*m^i) hn' hT2
     rw [Int.neg_neg] at this
     exact this
   show cS (fL _ (gj 6)) _ _ _ _
   have bs:AllB 4300 [s0,s1]:=fun x hx=>by
    simp only [List.mem_cons,List.not_mem_nil,or_false] at hx
    rcases hx with rfl | rfl
    ·exact bs0
    ·exact bs1
   generalize bG m s0 s1 (ns.drop (ns.length-i))=Fs at *
   refine ap ⟨_,rfl,_,rfl,_,rfl,by show 2<=sizeLine;decide,fun p3 hp3=>?_⟩
   have s3:=s2.then_new (o:=.lst ([s0,s1].map V.int)) hp3
   have e3:upd H2 p3 (.lst ([s0,s1].map V.int)) p=some (.lst (Fs.map V.int)):=(Same.upd_new hp3) _ _ e2'
   have h3:upd H2 p3 (.lst ([s0,s1].map V.int)) p3=some (.lst ([s0,s1].map V.int)):=ao
   refine ⟨p,p3,Fs,[s0,s1],rfl,e3,h3,by omega,by show 2<=1000000;decide,aF.mono,bs.mono,fun p4 H4 s4 hp4 e4=>?_⟩
   have t4:=s3.trans s4
   refine ⟨_,rfl,_,rfl,_,_,rfl,rfl,⟨bc.mono,bP.mono⟩,by show 1<=sizeLine;decide,fun p5 hp5=>?_⟩
   have s5:=t4.then_new (o:=.lst ([c*m^i].map V.int)) hp5
   have e5:upd H4 p5 (.lst ([c*m^i].map V.int)) p4=some (.lst ((ad Fs [s0,s1]).map V.int)):=(Same.upd_new hp5) _ _ e4
   have h5:upd H4 p5 (.lst ([c*m^i].map V.int)) p5=some (.lst ([c*m^i].map V.int)):=ao
   refine ⟨p5,[c*m^i],rfl,SqL.of h5,fun p6 H6 s6 hp6 e6=>?_⟩
   have t6:=s5.trans s6
   refine ⟨p4,p6,ad Fs [s0,s1],trim [c*m^i],rfl,SqL.of (s6 _ _ e5),SqL.of e6,?_,?_,fun p7 H7 s7 hp7 e7=>?_⟩
   ·have:(ad Fs [s0,s1]).length<=1000:=by
     unfold ad
     split
     ·exact Nat.zero_le _
     ·rw [List.length_map,List.length_range];show _+2-1<=_;omega
    omega
   ·have:=o5 [c*m^i]
    have:(trim [c*m^i]).length<=1:=this
    omega
   rw [eF] at e7
   refine cV ⟨_,rfl,_,rfl,_,_,rfl,rfl,⟨bP.mono,bm.mono⟩,?_⟩
   refine ⟨p7,some (.int c),?_,t6.trans s7,t6.free hp7,e7⟩
   rw [Int.pow_succ];rfl
  ·rintro σ' H' ⟨p,z,rfl,sm,fp,e⟩
   rw [hl,Nat.sub_self,List.drop_zero] at e
   exact ⟨_,rfl,k m s0 s1 pm q0 q1 q2 (sb hbn hln) p H' sm fp e⟩
def r9:Sp:=fun vs H Q _=>∃ (a:Addr) (ns:List Int),vs=[.ref a]/\H a=some (.lst (ns.map V.int))/\ns.length<=1000/\AllB 500000 ns/\mkL H Q (ca ns)
theorem AV {f:Addr} {fd:FuncData} (F:Fun K "spread" "spread" mL f fd) (T:Txt K mg):FnOk P w K mg base CX0 1 f fd ["row"] r9:=by
 refine F.ok sc_spread (fun vs H Q E h=>?_) (fun cdv A outer s H vs Q E hr h=>?_)
 ·obtain ⟨a,ns,rfl,_⟩:=h
  rfl
 ·obtain ⟨a,ns,rfl,hA,hn,hb,k⟩:=h
  have big:=sizeLine_eq
  refine ⟨_,(af (aj (i:=1) sc_spread.nd rfl (Or.inl rfl) (bj ab))
   (af (aj (i:=2) sc_spread.nd rfl (Or.inl rfl) ac)
   (af (cv PassesOwn.never rfl (oB rfl T.reversed_ (aa (pv 0) ab)) (aQ (i:=3) sc_spread.nd rfl (Or.inl rfl))
     (af (eW (kE PySem.F.plainAttrs_list PySem.F.slot_list_append PySem.F.type_list_append kN (pv 1) (aa (ag aD (pv 2) (pv 3)) ab)))
       (ai (aj (i:=2) sc_spread.nd rfl (Or.inl rfl) (ag aD ac (pv 2))))))
   (af (eW (uo PySem.F.plainAttrs_list PySem.F.slot_list_reverse PySem.F.type_list_reverse Cd (pv 1)))
   (ai (au (pv 1))))))),?_⟩
  refine ap ⟨Nat.zero_le _,fun p1 hp1=>?_⟩
  have s1':=Same.upd_new (o:=.lst []) hp1
  have h1:upd H p1 (.lst []) p1=some (.lst []):=ao
  generalize upd H p1 (.lst [])=H1 at s1' h1 ⊢
  refine ap ?_
  have hl:(ns.map V.int).length=ns.length:=List.length_map _
  refine ⟨_,rfl,a,_,rfl,SqL.of (s1' _ _ hA),pF (K:=K) (a:=a) (xs:=ns.map V.int) (fun i σ' H'=>∃ z:Option V,σ'=[some (.ref a),some (.ref p1),some (.int (2^i)),z]/\Same H H'/\H' p1=some (.lst ((ca (ns.drop (ns.length-i))).reverse.map V.int))) ⟨none,rfl,s1',by rw [Nat.sub_zero,List.drop_length];exact h1⟩ ?_ ?_ ?_⟩
  ·rintro i σ' H' _ ⟨z,rfl,sm,_⟩
   exact SqL.of (sm _ _ hA)
  ·rintro i x σ' H2 hi hx ⟨z,rfl,s2,h2⟩
   rw [hl] at hi hx
   obtain ⟨c,ec,rfl,hc,_⟩:=fu hx
   have hd:=wp hi ec
   have len:(ns.drop (ns.length-i)).length=i:=by rw [List.length_drop];omega
   show cS (lR _) _ _ _ _
   refine hJ ⟨_,rfl,.inl ⟨rfl,_,SqL.of h2⟩,_,rfl,_,rfl,_,_,rfl,rfl,⟨(iX (n:=i) (k:=1001) (by omega)).mono,(hb c hc).mono⟩,p1,_,_,rfl,rfl,h2,by rw [List.length_map,List.length_reverse,j7,len];omega,?_⟩
   refine cV ⟨_,rfl,_,_,rfl,rfl,⟨d6,(iX (n:=i) (k:=1001) (by omega)).mono⟩,?_⟩
   refine ⟨some (.int c),?_,fi s2 hp1,?_⟩
   ·show [some (V.ref a),some (V.ref p1),some (V.int (2*2^i)),some (V.int c)]=_
    rw [Int.pow_succ,Int.mul_comm]
   ·rw [ao,hd,Co]
    show some (HO.lst (((ca (ns.drop (ns.length-i))).reverse++[2^i*c]).map V.int))=some (HO.lst ((2^(ns.drop (ns.length-i)).length*c::ca (ns.drop (ns.length-i))).reverse.map V.int))
    rw [List.reverse_cons,len]
  ·rintro σ' H2 ⟨z,rfl,s2,h2⟩
   rw [hl,Nat.sub_self,List.drop_zero] at h2
   dsimp only
   refine hJ ⟨_,rfl,.inl ⟨rfl,_,SqL.of h2⟩,p1,_,rfl,rfl,h2,?_⟩
   refine ⟨_,rfl,k p1 _ (fi s2 hp1) hp1 ?_⟩
   rw [ao,<- List.map_reverse,List.reverse_reverse]
def cO (m:List Int) (j:Nat):List Int:=m.take (m.length-1-j)++suf (m.drop (m.length-1-j))
theorem oI:∀ (i:Nat) (m:List Int),cX i m=m.take i++suf (m.drop i)
 | 0,m=>by rw [List.take_zero,List.drop_zero];rfl
 | i+1,[]=>rfl
 | i+1,c::m=>by show c::cX i m=c::(m.take i++suf (m.drop i));rw [oI i m]
theorem Ek (m:List Int) (j:Nat):(cO m j).length=m.length:=by
 unfold cO
 rw [List.length_append,gT,<- List.length_append,List.take_append_drop]
theorem Ei (m:List Int):cO m 0=m:=by
 unfold cO
 rw [Nat.sub_zero]
 cases hd:m.drop (m.length-1) with
 | nil =>
   have:m.length-1=m.length\/True:=.inr trivial
   have h1:m.length<=m.length-1:=List.drop_eq_nil_iff.mp hd
   have:m=[]:=List.eq_nil_of_length_eq_zero (by omega)
   subst this;rfl
 | cons c r =>
   have hl:=congrArg List.length hd
   rw [List.length_drop,List.length_cons] at hl
   have:r=[]:=List.eq_nil_of_length_eq_zero (by omega)
   subst this
   show _++[c+0]=_
   rw [Int.add_zero,<- hd,List.take_append_drop]
theorem El (m:List Int) {i:Nat} (h:i+1<=m.length):cO m (m.length-1-i)=cX i m:=by
 unfold cO
 rw [oI]
 have:m.length-1-(m.length-1-i)=i:=by omega
 rw [this]
theorem Ej (m:List Int) {j:Nat} (h:j+2<=m.length):(cO m j).set (m.length-2-j) (cf (cO m j) (m.length-2-j)+cf (cO m j) (m.length-1-j))=cO m (j+1):=by
 have e1:m.length-1-(j+1)=m.length-2-j:=by omega
 have e2:m.length-1-j=m.length-2-j+1:=by omega
 have hk:m.length-2-j<m.length:=by omega
 unfold cO
 rw [e1,e2]
 generalize m.length-2-j=k at hk e2
 have hd:m.drop k=m[k]::m.drop (k+1):=List.drop_eq_getElem_cons hk
 have ht:m.take (k+1)=m.take k++[m[k]]:=by rw [List.take_add_one,List.getElem?_eq_getElem hk];rfl
 rw [hd,ht]
 have lt:(m.take k).length=k:=by rw [List.length_take];omega
 have c1:cf (m.take k++[m[k]]++suf (m.drop (k+1))) k=m[k]:=by
  rw [List.append_assoc,jF (by omega),lt,Nat.sub_self];rfl
 have c2:cf (m.take k++[m[k]]++suf (m.drop (k+1))) (k+1)=(suf (m.drop (k+1))).headD 0:=by
  rw [jF (by rw [List.length_append,lt];exact Nat.le_refl _),List.length_append,lt]
  show cf _ (k+1-(k+1))=_
  rw [Nat.sub_self]
  cases suf (m.drop (k+1)) with
  | nil=>rfl
  | cons _ _=>rfl
 rw [c1,c2]
 show _=m.take k++((m[k]+(suf (m.drop (k+1))).headD 0)::suf (m.drop (k+1)))
 rw [List.append_assoc,List.set_append_right _ _ (by omega),lt,Nat.sub_self]
 rfl
theorem rH {M:Nat}:∀ {l:List Int},(∀ x∈l,x.natAbs<=M)->∀ x∈suf l,x.natAbs<=l.length*M
 | [],_,x,hx=>nomatch hx
 | v::l,h,x,hx=>by
   have ih:=rH (l:=l) fun x hx=>h x (List.mem_cons_of_mem _ hx)
   have hv:=h v (List.mem_cons_self ..)
   have hh:((suf l).headD 0).natAbs<=l.length*M:=by
    cases hs:suf l with
    | nil=>show (0:Int).natAbs<=_;exact Nat.zero_le _
    | cons g r=>exact ih g (by rw [hs];exact List.mem_cons_self ..)
   rw [List.length_cons,Nat.add_mul,Nat.one_mul]
   rcases List.mem_cons.mp hx with e | e
   ·subst e;omega
   ·have:=ih x e;omega
theorem AF {i k:Nat} {m:List Int} (h:AllB i m) (hl:m.length<=16):AllB (i+4) (cX k m):=by
 rw [oI]
 refine AllB.app (fun x hx=>(h x (List.mem_of_mem_take hx)).mono (by omega)) fun x hx=>?_
 have h1:=rH (M:=2^i-1) (l:=m.drop k) (fun y hy=>by have:y.natAbs<2^i:=h y (List.mem_of_mem_drop hy);omega) x hx
 have h2:(m.drop k).length*(2^i-1)<=16*(2^i-1):=Nat.mul_le_mul_right _ (by rw [List.length_drop];omega)
 have h3:0<2^i:=Nat.pow_pos (by decide)
 show x.natAbs<2^(i+4)
 have h4:2^(i+4)=2^i*16:=by rw [Nat.pow_add]
 omega
theorem uY {i:Nat} {m:List Int} (h:AllB i m) (hl:m.length<=16):∀ n,AllB (i+4*n) (du n m)
 | 0=>h
 | n+1=>by
   have:=AF (k:=n) (uY h hl n) (by rw [kO];exact hl)
   exact this.mono (by omega)
theorem Ch {i:Nat} {m:List Int} (h:AllB i m) (hl:m.length<=12):AllB (i+44) (i8 m):=(uY h (by omega) _).mono (by omega)
theorem rS {i:Nat}:∀ {m:List Int},AllB i m->m.length<=12->AllB (i+13) (ca m)
 | [],_,_=>AllB.nil
 | v::m,h,hl=>by
   have ih:=rS (m:=m) (fun x hx=>h x (List.mem_cons_of_mem _ hx)) (by rw [List.length_cons] at hl;omega)
   intro x hx
   rcases List.mem_cons.mp hx with e | e
   ·subst e
    have:=(iX (n:=m.length) (k:=13) (by rw [List.length_cons] at hl;omega)).mul (h v (List.mem_cons_self ..))
    exact this.mono (by omega)
   ·exact ih x e
def sD:Sp:=fun vs H Q _=>∃ (a:Addr) (ns:List Int),vs=[.ref a]/\H a=some (.lst (ns.map V.int))/\1<=ns.length/\ns.length<=1000/\mkL H Q (i8 ns)
theorem mD (l:List Int) (k:Nat) (v:Int):(l.map V.int).set k (.int v)=(l.set k v).map V.int:=by rw [List.map_set]
theorem qE {l:List Int} {k:Nat} {j:Int} (e:j=(k:Int)) (h:k<l.length):atI (l.map V.int) j=some (.int (cf l k)):=by
 subst e
 refine iu ?_
 rw [List.getElem?_map,List.getElem?_eq_getElem h]
 show some (V.int l[k])=_
 rw [wK (List.getElem?_eq_getElem h)]
theorem Bg {f:Addr} {fd:FuncData} (F:Fun K "moved" "moved" m6 f fd) (T:Txt K mg) {gv:Addr} {gq:FuncData} (gQ:Cal P w K mg base 1 "degree" ["row"] iG gv gq):FnOk P w K mg base CX0 2 f fd ["row"] sD:=by
 obtain ⟨dF,dz,dA,dE⟩:=gQ
 refine F.ok sc_moved (fun vs H Q E h=>?_) (fun cdv A outer s H vs Q E hr h=>?_)
 ·obtain ⟨a,ns,rfl,_⟩:=h
  rfl
 ·obtain ⟨a,ns,rfl,hA,hn1,hn,k⟩:=h
  have big:=sizeLine_eq
  refine ⟨_,(af (aj (i:=1) sc_moved.nd rfl (Or.inl rfl) (fe (lC (K:=K) rfl) (by rfl) T.list_ PyProof.Rows.boot_list (aa (pv 0) ab)))
   (af (cv PassesOwn.never rfl (fb rfl T.range_ (aa (al dF (hr.mono) rfl dz dA dE .nil ah (aa (pv 0) ab)) ab)) (aQ (i:=2) sc_moved.nd rfl (Or.inl rfl))
     (ai (cv PassesOwn.never rfl (ul rfl T.range_ (aa (ag bK (al dF (hr.mono) rfl dz dA dE .nil ah (aa (pv 0) ab)) ac) (aa (ag bK (pv 2) ac) (aa (bJ bI ac) ab)))) (aQ (i:=3) sc_moved.nd rfl (Or.inl rfl))
       (ai (eX (ag bh (aM (bY (K:=K) rfl) (pv 1) (pv 3) (fun _ _=>rfl)) (aM (bY (K:=K) rfl) (pv 1) (ag bh (pv 3) ac) (fun _ _=>rfl))) (iY (pv 1) (pv 3) iR))))))
   (ai (au (pv 1))))),?_⟩
  refine ap ⟨_,rfl,a,_,rfl,.inl (SqL.of hA),fun p hp=>?_⟩
  have s1':=Same.upd_new (o:=.lst (ns.map V.int)) hp
  have h1:upd H p (.lst (ns.map V.int)) p=some (.lst (ns.map V.int)):=ao
  generalize upd H p (.lst (ns.map V.int))=H1 at s1' h1 ⊢
  have hl:(ns.map V.int).length=ns.length:=List.length_map _
  have ed:((ns.map V.int).length:Int)-1=((ns.length-1:Nat):Int):=by rw [hl];omega
  refine ⟨_,rfl,a,_,rfl,s1' _ _ hA,_,rfl,(by rw [ed];omega),(by rw [ed];omega),?_⟩
  rw [ed]
  refine im (lo:=0) (n:=ns.length-1) (fun i σ' H'=>∃ z2 z3:Option V,σ'=[some (.ref a),some (.ref p),z2,z3]/\Same H H'/\H' p=some (.lst ((du i ns).map V.int))) ⟨none,none,rfl,s1',h1⟩ ?_ ?_
  ·rintro i σ' H2 hi ⟨z2,z3,rfl,s2,h2⟩
   have lm:(du i ns).length=ns.length:=kO _ _
   generalize hM:du i ns=M at h2 lm
   refine ⟨_,rfl,a,_,rfl,s2 _ _ hA,_,_,rfl,rfl,_,rfl,_,_,rfl,rfl,_,rfl,((ns.length-2:Nat):Int),(i:Int)-1,?_,⟨by omega,by omega,by omega,by omega⟩,?_⟩
   ·rw [ed]
    have e1:((ns.length-1:Nat):Int)-1=((ns.length-2:Nat):Int):=by omega
    have e2:(0:Int)+(i:Int)-1=(i:Int)-1:=by omega
    dsimp only
    rw [e1,e2]
   have en:(((ns.length-2:Nat):Int)-((i:Int)-1)).toNat=ns.length-1-i:=by omega
   rw [en]
   refine wa (fun j σ' H'=>∃ z3:Option V,σ'=[some (.ref a),some (.ref p),some (.int (0+(i:Int))),z3]/\Same H H'/\H' p=some (.lst ((cO M j).map V.int))) ⟨z3,rfl,s2,by rw [Ei];exact h2⟩ ?_ ?_
   ·rintro j σ' H3 hj ⟨z3,rfl,s3,h3⟩
    have lh:(cO M j).length=ns.length:=by rw [Ek,lm]
    have hs:=Ej M (j:=j) (by omega)
    rw [lm] at hs
    have k1:((ns.length-2:Nat):Int)+(j:Int) * -1=((ns.length-2-j:Nat):Int):=by omega
    have k2:((ns.length-2:Nat):Int)+(j:Int) * -1+1=((ns.length-1-j:Nat):Int):=by omega
    refine ⟨_,rfl,_,rfl,p,_,_,_,rfl,rfl,SqL.of h3,qE k1 (by omega),_,rfl,_,rfl,_,_,rfl,rfl,p,_,_,_,rfl,rfl,SqL.of h3,qE k2 (by omega),_,_,rfl,rfl,_,rfl,_,rfl,p,_,_,ns.length-2-j,rfl,rfl,h3,?_,?_⟩
    ·exact jn k1 (by rw [List.length_map];omega)
    refine ⟨_,rfl,fi s3 hp,?_⟩
    rw [ao,mD,hs]
   ·rintro σ' H3 ⟨z3,rfl,s3,h3⟩
    refine ⟨_,_,rfl,s3,?_⟩
    have:cO M (ns.length-1-i)=du (i+1) ns:=by
     rw [<- lm,El M (by omega),<- hM];rfl
    rw [<- this];exact h3
  ·rintro σ' H2 ⟨z2,z3,rfl,s2,h2⟩
   exact ⟨_,rfl,k p H2 s2 hp h2⟩
structure RootB (ns:List Int) (ε:Int) (up:Int->Int->Prop):Prop where
 e1:ε=1\/ε = -1
 r1:∀ p c,0<p->p<=c->up p c->sg (hv p c ns) = -ε
 r2:∀ p c,0<p->p<=c->¬ up p c->sg (hv p c ns)=ε\/sg (hv p c ns)=0
 r3:∀ p c p' c',0<p->p<=c->0<p'->p'<=c'->¬ up p c->p*c'<p'*c->sg (hv p' c' ns)=ε
 sc:∀ p c,0<c->(up (2*p) (2*c)↔up p c)
 top:¬ up 1 1
theorem Ec (p c:Int) (l:List Int):sg (hv (2*p) (2*c) l)=sg (hv p c l):=by
 rw [k9];exact cu (Int.pow_pos (by decide))
def sK:Sp:=fun vs H Q _=>∃ (a:Addr) (ns:List Int) (e:Int) (n:Nat) (ε:Int) (up:Int->Int->Prop),vs=[.ref a,.int e,.int n]/\H a=some (.lst (ns.map V.int))/\1<=ns.length/\ns.length<=12/\AllB 60000 ns/\n<=4000/\RootB ns ε up/\e=sg (hv 1 1 ns) /\
 ∀ (p:Addr) (H':Hp) (pl:Nat),Same H H'->H p=none->H' p=some (.tup [.int pl,.int (2^n)])->pl<2^n->(pl=0\/up pl (2^n))->¬ up ((pl:Int)+1) (2^n)->Q (.ref p) H'
theorem Bn {f:Addr} {fd:FuncData} (F:Fun K "halved" "halved" ni f fd) (T:Txt K mg) {Fo:Addr} {EH:FuncData} (Ih:Cal P w K mg base 1 "spread" ["row"] r9 Fo EH) {gr:Addr} {gm:FuncData} (gO:Cal P w K mg base 1 "whole_sign" ["value"] iF gr gm) {Fx:Addr} {EO:FuncData} (Ir:Cal P w K mg base 2 "moved" ["row"] sD Fx EO):FnOk P w K mg base CX0 3 f fd ["row","end","steps"] sK:=by
 obtain ⟨Hv,CC,Dx,GH⟩:=Ih
 obtain ⟨gK,fV,fZ,gG⟩:=gO
 obtain ⟨HB,CJ,DD,GN⟩:=Ir
 refine F.ok sc_halved (fun vs H Q E h=>?_) (fun cdv A outer s H vs Q E hr h=>?_)
 ·obtain ⟨a,ns,e,n,ε,up,rfl,_⟩:=h
  rfl
 ·obtain ⟨a,ns,e,n,ε,up,rfl,hA,h1n,hln,hbn,hn,hB,he,k⟩:=h
  refine ⟨_,(af (aj (i:=3) sc_halved.nd rfl (Or.inl rfl) ac)
   (af (aj (i:=4) sc_halved.nd rfl (Or.inl rfl) ac)
   (af (aj (i:=5) sc_halved.nd rfl (Or.inl rfl) (pv 1))
   (af (aj (i:=6) sc_halved.nd rfl (Or.inl rfl) (pv 0))
   (af (cv PassesOwn.never rfl (fb rfl T.range_ (aa (pv 2) ab)) (aQ (i:=7) sc_halved.nd rfl (Or.inl rfl))
     (af (aj (i:=3) sc_halved.nd rfl (Or.inl rfl) (ag aD ac (pv 3)))
       (af (aj (i:=4) sc_halved.nd rfl (Or.inl rfl) (ag aD ac (pv 4)))
       (af (aj (i:=6) sc_halved.nd rfl (Or.inl rfl) (al Hv (hr.mono) rfl CC Dx GH .nil ah (aa (pv 6) ab)))
       (af (aj (i:=8) sc_halved.nd rfl (Or.inl rfl) (al gK (hr.mono) rfl fV fZ gG .nil ah (aa (bA (Gr (K:=K) rfl rfl) (by rfl) T.sum_ PyProof.Rows.boot_sum (aa (pv 6) ab)) ab)))
       (ai (aV (PW.pt (ee (aE ig (pv 8) ac (aA _)) (d9 (aE ig (pv 8) (pv 5) (aA _)))))
         (af (aj (i:=3) sc_halved.nd rfl (Or.inl rfl) (ag bh (pv 3) ac))
           (ai (aj (i:=6) sc_halved.nd rfl (Or.inl rfl) (al HB (hr.mono) rfl CJ DD GN .nil ah (aa (pv 6) ab)))))
         (ai (aj (i:=5) sc_halved.nd rfl (Or.inl rfl) (pv 8))))))))))
   (ai (au (dG (aa (pv 3) (aa (pv 4) ab)))))))))),?_⟩
  refine ap ?_
  refine ap ?_
  refine ap ⟨_,rfl,?_⟩
  refine ap ⟨_,rfl,?_⟩
  refine ⟨_,rfl,n,rfl,by omega,by omega,im (lo:=0) (n:=n) (fun i σ' H'=>∃ (p:Addr) (pl:Nat) (L:List Int) (z7 z8:Option V),σ'=[some (.ref a),some (.int e),some (.int n),some (.int pl),some (.int (2^i)),some (.int (sg (hv ((pl:Int)+1) (2^i) ns))),some (.ref p),z7,z8]/\Same H H'/\H' p=some (.lst (L.map V.int))/\L.length=ns.length/\AllB (60000+60*i) L/\(∀ p q:Int,2^i*hv p q L=hv (pl*q+p) (2^i*q) ns)/\pl<2^i/\(pl=0\/up pl (2^i))/\¬ up ((pl:Int)+1) (2^i)) ⟨a,0,ns,none,none,by rw [he];rfl,Same.refl _,hA,rfl,hbn,fun p q=>by rw [Int.pow_zero,Int.one_mul,Int.one_mul];show _=hv (0*q+p) q ns;rw [Int.zero_mul,Int.zero_add],by decide,.inl rfl,by rw [Int.pow_zero];exact hB.top⟩ ?_ ?_⟩
  ·rintro i σ' H1 hi ⟨p,pl,L,z7,z8,rfl,s1,h1,lL,bL,hval,hpl,hup,hnup⟩
   show cS (fL _ (gj 3)) _ _ _ _
   have b2i:Bits 4002 ((2:Int)^i):=iX (by omega)
   have p2i:=ia i
   have cpl:(pl:Int)<2^i:=by rw [fS];exact Int.ofNat_lt.mpr hpl
   have bpl:Bits 4002 (pl:Int):=b2i.of_le (by rw [fS];omega)
   refine ap ⟨_,rfl,_,_,rfl,rfl,⟨d6,bpl.mono⟩,?_⟩
   refine ap ⟨_,rfl,_,_,rfl,rfl,⟨d6,b2i.mono⟩,?_⟩
   refine ap ⟨_,rfl,p,L,rfl,h1,by omega,bL.mono (by omega),fun p2 H2 s2 hp2 e2=>?_⟩
   have t2:=s1.trans s2
   have lS:(ca L).length=ns.length:=by rw [j7,lL]
   have bS:AllB (60000+60*i+13) (ca L):=rS bL (by omega)
   have e2i:(2:Int)*2^i=2^(i+1):=by rw [Int.pow_succ,Int.mul_comm]
   have vS:∀ p q:Int,2^(i+1)*hv p q (ca L)=hv (((2*pl:Nat):Int)*q+p) (2^(i+1)*q) ns:=fun p q=>by
    have h3:=hval p (2*q)
    rw [<- vP] at h3
    have h4:(2:Int)^(i+1)*hv p q (ca L)=2^i*(2*hv p q (ca L)):=by rw [Int.pow_succ];grind
    rw [h4,h3]
    have h5:(pl:Int)*(2*q)+p=((2*pl:Nat):Int)*q+p:=by
     have:((2*pl:Nat):Int)=2*(pl:Int):=by omega
     rw [this];grind
    have h6:(2:Int)^i*(2*q)=2^(i+1)*q:=by rw [Int.pow_succ];grind
    rw [h5,h6]
   refine ap ⟨_,rfl,p2,ca L,rfl,SqL.of e2,_,rfl,?_⟩
   have p2i1:=ia (i+1)
   have ethere:sg (ca L).sum=sg (hv (((2*pl:Nat):Int)+1) (2^(i+1)) ns):=by
    have h3:=vS 1 1
    rw [Int.mul_one,Int.mul_one] at h3
    rw [<- vN,<- h3,cu p2i1]
   have c2pl:(((2*pl:Nat):Int)+1)<=2^(i+1):=by rw [<- e2i];omega
   have hold:sg (hv ((pl:Int)+1) (2^i) ns)=sg (hv (2*((pl:Int)+1)) (2^(i+1)) ns):=by rw [<- e2i,Ec]
   have plc:(pl:Int)+1<=2^i:=by omega
   generalize hth:sg (ca L).sum=th at ethere
   show iB _ _ _ _ _ _
   have epl:(2:Int)*(pl:Int)=((2*pl:Nat):Int):=by omega
   have n2i:2^(i+1)=2*2^i:=by rw [Nat.pow_succ,Nat.mul_comm]
   refine iU (fun σ' H'=>σ'=[some (.ref a),some (.int e),some (.int n),some (.int (2*(pl:Int))),some (.int (2*2^i)),some (.int (sg (hv ((pl:Int)+1) (2^i) ns))),some (.ref p2),some (.int (0+(i:Int))),some (.int th)]/\H2=H') ⟨by rw [<- hth];rfl,rfl⟩ ?_
   rintro σ' H' ⟨rfl,rfl⟩
   by_cases hu:up (((2*pl:Nat):Int)+1) (2^(i+1))
   ·
    have r1:=hB.r1 _ _ (by omega) c2pl hu
    rw [<- ethere] at r1
    have r2:=hB.r2 _ _ (by omega) plc hnup
    have n0:th≠0:=by rcases hB.e1 with z | z<;>omega
    have n1:th≠sg (hv ((pl:Int)+1) (2^i) ns):=by rcases hB.e1 with z | z<;>rcases r2 with y | y<;>omega
    refine iT (cW ⟨_,rfl,_,_,rfl,rfl,_,rfl,cC (fun _=>?_) (fun h0=>absurd h0 n0)⟩)
    refine ⟨_,rfl,_,rfl,_,_,rfl,rfl,_,rfl,cC (fun _=>?_) (fun h0=>absurd h0 n1)⟩
    refine ap ⟨_,rfl,_,_,rfl,rfl,?_⟩
    refine cV ⟨_,rfl,p2,ca L,rfl,e2,by omega,by omega,fun p3 H3 s3 hp3 e3=>?_⟩
    refine ⟨p3,2*pl+1,i8 (ca L),some (.int (0+(i:Int))),some (.int th),?_,t2.trans s3,e3,by rw [uZ,lS],(Ch bS (by omega)).mono (by omega),fun p q=>?_,by omega,.inr ?_,?_⟩
    ·have q1:(2:Int)*(pl:Int)+1=((2*pl+1:Nat):Int):=by omega
     have q2:((2*pl+1:Nat):Int)+1=2*((pl:Int)+1):=by omega
     rw [q2,<- hold,<- q1,<- e2i];rfl
    ·rw [Ee,vS]
     have:((2*pl:Nat):Int)*q+(p+q)=((2*pl+1:Nat):Int)*q+p:=by
      have:((2*pl+1:Nat):Int)=((2*pl:Nat):Int)+1:=by omega
      rw [this];grind
     rw [this]
    ·exact hu
    ·have q2:((2*pl+1:Nat):Int)+1=2*((pl:Int)+1):=by omega
     rw [q2,<- e2i,hB.sc _ _ p2i]
     exact hnup
   ·
    have r2:=hB.r2 _ _ (by omega) c2pl hu
    rw [<- ethere] at r2
    have r3:=hB.r3 _ _ ((pl:Int)+1) (2^i) (by omega) c2pl (by omega) plc hu (by
     have h7:(((2*pl:Nat):Int)+1)*2^i<(2*(pl:Int)+2)*2^i:=Int.mul_lt_mul_of_pos_right (by omega) p2i
     have h8:((pl:Int)+1)*2^(i+1)=(2*(pl:Int)+2)*2^i:=by rw [Int.pow_succ];grind
     omega)
    have low:∃ (p:Addr) (q:Nat) (L':List Int) (z7 z8:Option V),[some (V.ref a),some (V.int e),some (V.int n),some (V.int (2*(pl:Int))),some (V.int (2*2^i)),some (V.int th),some (V.ref p2),some (V.int (0+(i:Int))),some (V.int th)]=[some (.ref a),some (.int e),some (.int n),some (.int q),some (.int (2^(i+1))),some (.int (sg (hv ((q:Int)+1) (2^(i+1)) ns))),some (.ref p),z7,z8]/\Same H H2/\H2 p=some (.lst (L'.map V.int))/\L'.length=ns.length/\AllB (60000+60*(i+1)) L'/\(∀ p q':Int,2^(i+1)*hv p q' L'=hv (q*q'+p) (2^(i+1)*q') ns)/\q<2^(i+1)/\(q=0\/up q (2^(i+1)))/\¬ up ((q:Int)+1) (2^(i+1)):=by
     refine ⟨p2,2*pl,ca L,some (.int (0+(i:Int))),some (.int th),by rw [e2i,epl,ethere],t2,e2,lS,bS.mono (by omega),vS,by omega,?_,hu⟩
     rcases hup with z | z
     ·exact .inl (by omega)
     ·refine .inr ?_
      rw [<- epl,<- e2i,hB.sc _ _ p2i]
      exact z
    by_cases n0:th=0
    ·refine iT (cW ⟨_,rfl,_,_,rfl,rfl,_,rfl,cC (fun h0=>absurd n0 h0) (fun _=>?_)⟩)
     exact c9 (cV ⟨_,rfl,low⟩)
    ·have n1:th=sg (hv ((pl:Int)+1) (2^i) ns):=by
      rcases r2 with z | z
      ·rw [z,r3]
      ·exact absurd z n0
     refine iT (cW ⟨_,rfl,_,_,rfl,rfl,_,rfl,cC (fun _=>?_) (fun h0=>absurd h0 n0)⟩)
     refine ⟨_,rfl,_,rfl,_,_,rfl,rfl,_,rfl,cC (fun h0=>absurd n1 h0) (fun _=>?_)⟩
     exact cV ⟨_,rfl,low⟩
  ·rintro σ' H1 ⟨p,pl,L,z7,z8,rfl,s1,h1,lL,bL,hval,hpl,hup,hnup⟩
   dsimp only
   refine aU ⟨_,rfl,_,rfl,by show 2<=sizeLine;decide,fun p' hp'=>?_⟩
   exact k p' _ pl (s1.then_new hp') (s1.free hp') ao hpl hup hnup
structure RootU (ns:List Int) (l1 l2 h1 h2 ε:Int) (Up:Int->Int->Prop):Prop where
 e1:ε=1\/ε = -1
 r1:∀ x1 x2,0<x2->l1*x2<x1*l2->x1*h2<=h1*x2->Up x1 x2->sg (hv x1 x2 ns) = -ε
 r2:∀ x1 x2,0<x2->l1*x2<x1*l2->x1*h2<=h1*x2->¬ Up x1 x2->sg (hv x1 x2 ns)=ε\/sg (hv x1 x2 ns)=0
 r3:∀ x1 x2 y1 y2,0<x2->0<y2->l1*x2<x1*l2->y1*h2<=h1*y2->¬ Up x1 x2->x1*y2<y1*x2->sg (hv y1 y2 ns)=ε
 sc:∀ x1 x2 y1 y2,0<x2->0<y2->x1*y2=y1*x2->Up x1 x2->Up y1 y2
 low:Up l1 l2
 top:¬ Up h1 h2
structure EndsG (k:Nat) (l1 l2 h1 h2:Int):Prop where
 l2p:0<l2
 h2p:0<h2
 bl1:Bits k l1
 bl2:Bits k l2
 bh1:Bits k h1
 bh2:Bits k h2
 lt:l1*h2<h1*l2
 gl:Nat.gcd l1.natAbs l2.natAbs=1
 gh:Nat.gcd h1.natAbs h2.natAbs=1
theorem EndsG.mono {j k:Nat} {l1 l2 h1 h2:Int} (e:EndsG j l1 l2 h1 h2) (h:j<=k:=by decide):EndsG k l1 l2 h1 h2:=⟨e.l2p,e.h2p,e.bl1.mono h,e.bl2.mono h,e.bh1.mono h,e.bh2.mono h,e.lt,e.gl,e.gh⟩
structure NarP (l1 l2 h1 h2 w1 w2:Int) (Up:Int->Int->Prop) (kb:Nat) (n pl:Nat) (x1 x2 y1 y2:Int):Prop where
 ends:EndsG kb x1 x2 y1 y2
 ux:Up x1 x2
 uy:¬ Up y1 y2
 lo:l1*x2<=x1*l2
 hi:y1*h2<=h1*y2
 wide:(y1*x2-x1*y2)*w2<=w1*(x2*y2)
 pls:pl<2^n
 ex:x1*(l2*h2*2^n)=(l1*h2*2^n+(h1*l2-l1*h2)*pl)*x2
 ey:y1*(l2*h2*2^n)=(l1*h2*2^n+(h1*l2-l1*h2)*(pl+1))*y2
 big:∀ j:Nat,j<n->w1*(h2*l2)*2^j<(h1*l2-l1*h2)*w2
 fit:(h1*l2-l1*h2)*w2<=w1*(h2*l2)*2^n
theorem yM {x1 x2 y1 y2:Int} (hx:0<x2) (hy:0<y2) (e:x1*y2=y1*x2) (l:List Int):sg (hv x1 x2 l)=sg (hv y1 y2 l):=by
 have h1:=k9 y2 x1 x2 l
 have h2:=k9 x2 y1 y2 l
 have e1:y2*x1=x2*y1:=by rw [Int.mul_comm y2,e,Int.mul_comm]
 rw [e1,Int.mul_comm y2 x2] at h1
 rw [h1] at h2
 have h3:=congrArg sg h2
 rw [cu (Int.pow_pos hy),cu (Int.pow_pos hx)] at h3
 exact h3
theorem cancel {a b c:Int} (hc:0<c) (h:a*c=b*c):a=b:=Int.eq_of_mul_eq_mul_right (Int.ne_of_gt hc) h
theorem jG {a b c:Int} (hc:0<c) (h:a*c<=b*c):a<=b:=Int.le_of_mul_le_mul_right h hc
theorem fE {a b c:Int} (hc:0<c) (h:a*c<b*c):a<b:=Int.lt_of_mul_lt_mul_right h (Int.le_of_lt hc)
theorem w8 {l1 l2 h1 h2 r1 r2 x1 x2 pc pl:Int} (hr:0<r2) (er:r1*(h2*l2)=(h1*l2-l1*h2)*r2) (e:x1*(l2*r2*pc)=(l1*r2*pc+r1*l2*pl)*x2):x1*(l2*h2*pc)=(l1*h2*pc+(h1*l2-l1*h2)*pl)*x2:=by
 refine cancel hr ?_
 calc x1*(l2*h2*pc)*r2=(x1*(l2*r2*pc))*h2:=by grind
  _=(l1*r2*pc+r1*l2*pl)*x2*h2:=by rw [e]
  _=(l1*h2*pc*r2+(r1*(h2*l2))*pl)*x2:=by grind
  _=(l1*h2*pc*r2+((h1*l2-l1*h2)*r2)*pl)*x2:=by rw [er]
  _=(l1*h2*pc+(h1*l2-l1*h2)*pl)*x2*r2:=by grind
theorem uK {l1 l2 h1 h2 w1 w2 x1 x2 y1 y2 pc pl:Int} (hl:0<l2) (hh:0<h2) (hx:0<x2) (hy:0<y2) (hpc:0<pc) (hp0:0<=pl) (hp1:pl+1<=pc) (hD:0<h1*l2-l1*h2) (ex:x1*(l2*h2*pc)=(l1*h2*pc+(h1*l2-l1*h2)*pl)*x2) (ey:y1*(l2*h2*pc)=(l1*h2*pc+(h1*l2-l1*h2)*(pl+1))*y2) (fit:(h1*l2-l1*h2)*w2<=w1*(h2*l2)*pc):x1*y2<y1*x2/\l1*x2<=x1*l2/\y1*h2<=h1*y2/\(y1*x2-x1*y2)*w2<=w1*(x2*y2):=by
 have hlh:0<l2*h2:=Int.mul_pos hl hh
 have hM:0<l2*h2*pc:=Int.mul_pos hlh hpc
 have hxy:0<x2*y2:=Int.mul_pos hx hy
 have hd:(y1*x2-x1*y2)*(l2*h2*pc)=(h1*l2-l1*h2)*(x2*y2):=by
  calc (y1*x2-x1*y2)*(l2*h2*pc)=(y1*(l2*h2*pc))*x2-(x1*(l2*h2*pc))*y2:=by grind
   _=((l1*h2*pc+(h1*l2-l1*h2)*(pl+1))*y2)*x2-((l1*h2*pc+(h1*l2-l1*h2)*pl)*x2)*y2:=by rw [ex,ey]
   _=(h1*l2-l1*h2)*(x2*y2):=by grind
 have hi:y1*h2<=h1*y2:=by
  refine jG (c:=l2*pc) (Int.mul_pos hl hpc) ?_
  have e1:y1*h2*(l2*pc)=y1*(l2*h2*pc):=by grind
  have e2:h1*y2*(l2*pc)=(l1*h2*pc+(h1*l2-l1*h2)*pc)*y2:=by grind
  rw [e1,ey,e2]
  refine Int.mul_le_mul_of_nonneg_right ?_ (Int.le_of_lt hy)
  have:=Int.mul_le_mul_of_nonneg_left hp1 (Int.le_of_lt hD)
  omega
 generalize h1*l2-l1*h2=D at *
 refine ⟨?_,?_,hi,?_⟩
 ·have h3:0<(y1*x2-x1*y2)*(l2*h2*pc):=by rw [hd];exact Int.mul_pos hD hxy
  have h4:0<y1*x2-x1*y2:=fE hM (by rw [Int.zero_mul];exact h3)
  omega
 ·refine jG (c:=h2*pc) (Int.mul_pos hh hpc) ?_
  have e1:x1*l2*(h2*pc)=x1*(l2*h2*pc):=by grind
  have e2:l1*x2*(h2*pc)=l1*h2*pc*x2:=by grind
  rw [e1,ex,e2,Int.add_mul]
  have:0<=D*pl*x2:=Int.mul_nonneg (Int.mul_nonneg (Int.le_of_lt hD) hp0) (Int.le_of_lt hx)
  omega
 ·refine jG hM ?_
  have e1:(y1*x2-x1*y2)*w2*(l2*h2*pc)=((y1*x2-x1*y2)*(l2*h2*pc))*w2:=by grind
  have e2:w1*(x2*y2)*(l2*h2*pc)=w1*(h2*l2)*pc*(x2*y2):=by grind
  have e3:D*(x2*y2)*w2=D*w2*(x2*y2):=by grind
  rw [e1,hd,e2,e3]
  exact Int.mul_le_mul_of_nonneg_right fit (Int.le_of_lt hxy)
def mi (C:Addr):Sp:=fun vs H Q _=>∃ (a l h wd:Addr) (ns:List Int) (l1 l2 h1 h2 w1 w2:Int) (k kw:Nat) (ε:Int) (Up:Int->Int->Prop),vs=[.ref a,.ref l,.ref h,.ref wd]/\H a=some (.lst (ns.map V.int))/\Tr ns/\ns≠[]/\ns.length<=12/\AllB 1000 ns/\RA C H l l1 l2/\RA C H h h1 h2/\RA C H wd w1 w2/\EndsG k l1 l2 h1 h2/\0<w1/\0<w2/\Bits kw w1/\Bits kw w2/\k<=1400/\2*k+kw<=3900/\5*k+kw<=8900/\RootU ns l1 l2 h1 h2 ε Up /\
 ∀ (p x y:Addr) (H':Hp) (n pl:Nat) (x1 x2 y1 y2:Int),Same H H'->H p=none->H' p=some (.tup [.ref x,.ref y])->RA C H' x x1 x2->RA C H' y y1 y2->NarP l1 l2 h1 h2 w1 w2 Up (5*k+kw+4) n pl x1 x2 y1 y2->Q (.ref p) H'
theorem Be {C f:Addr} {fd:FuncData} (F:Fun K "narrowed" "narrowed" m4 f fd) (T:Txt K mg) (R:RCI K mg C) {qf:Addr} {pU:FuncData} (q8:MCal P w K mg base 4 C "minus" ["self","other"] (ml C) qf pU) {FC:Addr} {EU:FuncData} (Iy:Cal P w K mg base 1 "halvings" ["reach","width"] (sJ C) FC EU) {FD:Addr} {EV:FuncData} (Iz:Cal P w K mg base 3 "halved" ["row","end","steps"] sK FD EV) {Fm:Addr} {EF:FuncData} (Ie:Cal P w K mg base 3 "stretched" ["row","low","reach"] (r8 C) Fm EF) {eK:Addr} {eJ:FuncData} (eO:Cal P w K mg base 2 "sign_at" ["row","ratio"] (gX C) eK eJ) {FJ:Addr} {E2:FuncData} (IF:Cal P w K mg base 5 "along" ["low","reach","place","pieces"] (sR C) FJ E2):FnOk P w K mg base CX0 6 f fd ["row","low","high","width"] (mi C):=by
 obtain ⟨qP,oV,qA⟩:=q8
 obtain ⟨HG,CP,DI,GS⟩:=Iy
 obtain ⟨HH,CQ,DJ,GT⟩:=Iz
 obtain ⟨Ht,CA,Du,GF⟩:=Ie
 obtain ⟨dY,dL,dO,dW⟩:=eO
 obtain ⟨xn,vf,vB,wW⟩:=IF
 refine F.ok sc_narrowed (fun vs H Q E h=>?_) (fun cdv A outer s H vs Q E hr h=>?_)
 ·obtain ⟨a,l,h,wd,ns,l1,l2,h1,h2,w1,w2,k,kw,ε,Up,rfl,_⟩:=h
  rfl
 ·obtain ⟨a,l,h,wd,ns,l1,l2,h1,h2,w1,w2,kb,kw,ε,Up,rfl,hA,hT,hne,hln,hbn,hl,hh,hw,en,hw1,hw2,bw1,bw2,hk1,hk2,hk3,hU,k⟩:=h
  refine ⟨_,(af (aj (i:=4) sc_narrowed.nd rfl (Or.inl rfl) (fc (pv 2) R.cl oV qP (hr.mono) qA .nil ah (aa (pv 1) ab)))
   (af (aj (i:=5) sc_narrowed.nd rfl (Or.inl rfl) (al HG (hr.mono) rfl CP DI GS .nil ah (aa (pv 4) (aa (pv 3) ab))))
   (af (aV (aE cI (pv 5) ac (aA _))
     (ai (au (dG (aa (pv 1) (aa (pv 2) ab)))))
     aW)
   (af (aj (i:=6) sc_narrowed.nd rfl (Or.inl rfl) (al HH (hr.mono) rfl CQ DJ GT .nil ah (aa (al Ht (hr.mono) rfl CA Du GF .nil ah (aa (pv 0) (aa (pv 1) (aa (pv 4) ab)))) (aa (al dY (hr.mono) rfl dL dO dW .nil ah (aa (pv 0) (aa (pv 2) ab))) (aa (pv 5) ab)))))
   (ai (au (dG (aa (al xn (hr.mono) rfl vf vB wW .nil ah (aa (pv 1) (aa (pv 4) (aa (aM (cb (K:=K) rfl) (pv 6) ac (fun _ _=>rfl)) (aa (aM (cb (K:=K) rfl) (pv 6) ac (fun _ _=>rfl)) ab))))) (aa (al xn (hr.mono) rfl vf vB wW .nil ah (aa (pv 1) (aa (pv 4) (aa (ag bh (aM (cb (K:=K) rfl) (pv 6) ac (fun _ _=>rfl)) ac) (aa (aM (cb (K:=K) rfl) (pv 6) ac (fun _ _=>rfl)) ab))))) ab))))))))),?_⟩
  obtain ⟨dl,hl'⟩:=id hl
  obtain ⟨dh,hh'⟩:=id hh
  obtain ⟨l2p,h2p,bl1,bl2,bh1,bh2,lt,_,_⟩:=id en
  refine ap ⟨_,rfl,h,dh,_,rfl,hh',gk _ _ uH.1 uH.2,_,rfl,h,l,h1,h2,l1,l2,kb,kb,rfl,hh,hl,bh1.mono (by omega),bh2,bl1.mono (by omega),bl2,by omega,h2p,l2p,fun r H1 s1 fr hr1=>?_⟩
  have d0:h2*l2≠0:=Int.ne_of_gt (Int.mul_pos h2p l2p)
  have er:=h9 (t:=h1*l2-l1*h2) d0
  have r2p:0<rb (h1*l2-l1*h2) (h2*l2):=eS d0
  have br1:Bits (2*kb+1) (rt (h1*l2-l1*h2) (h2*l2)):=fN d0 (Bits.sub ((bh1.mul bl2).mono (by omega)) ((bl1.mul bh2).mono (by omega)))
  have br2:Bits (2*kb+1) (rb (h1*l2-l1*h2) (h2*l2)):=eU d0 ((bh2.mul bl2).mono (by omega))
  generalize rt (h1*l2-l1*h2) (h2*l2)=r1 at *
  generalize rb (h1*l2-l1*h2) (h2*l2)=r2 at *
  have hD:0<h1*l2-l1*h2:=by omega
  have hhl:0<h2*l2:=Int.mul_pos h2p l2p
  have r1p:0<r1:=fE hhl (by rw [Int.zero_mul,er];exact Int.mul_pos hD r2p)
  have hA1:=s1 _ _ hA
  have hl1:=hl.same s1
  have hh1:=hh.same s1
  refine ap ⟨_,rfl,_,rfl,r,wd,r1,r2,w1,w2,2*kb+1,kw,rfl,hr1,hw.same s1,r2p,hw1,br1,br2.mono (by omega),bw1.mono (by omega),bw2,by omega,fun n hn hle hmin=>?_⟩
  have fit:(h1*l2-l1*h2)*w2<=w1*(h2*l2)*2^n:=by
   refine jG r2p ?_
   calc (h1*l2-l1*h2)*w2*r2=((h1*l2-l1*h2)*r2)*w2:=by grind
    _=r1*(h2*l2)*w2:=by rw [er]
    _=r1*w2*(h2*l2):=by grind
    _<=w1*r2*2^n*(h2*l2):=Int.mul_le_mul_of_nonneg_right hle (Int.le_of_lt hhl)
    _=w1*(h2*l2)*2^n*r2:=by grind
  have bigg:∀ j:Nat,j<n->w1*(h2*l2)*2^j<(h1*l2-l1*h2)*w2:=fun j hj=>by
   refine fE r2p ?_
   calc w1*(h2*l2)*2^j*r2=w1*r2*2^j*(h2*l2):=by grind
    _<r1*w2*(h2*l2):=Int.mul_lt_mul_of_pos_right (hmin j hj) hhl
    _=r1*(h2*l2)*w2:=by grind
    _=(h1*l2-l1*h2)*r2*w2:=by rw [er]
    _=(h1*l2-l1*h2)*w2*r2:=by grind
  refine bC ⟨_,rfl,_,_,rfl,rfl,_,rfl,aJ (fun h0=>?_) (fun _=>?_)⟩
  ·obtain rfl:n=0:=by have:(n:Int)=0:=h0;omega
   refine aU ⟨_,rfl,_,rfl,by show 2<=sizeLine;decide,fun p hp=>?_⟩
   have sp:=Same.upd_new (o:=.tup [V.ref l,V.ref h]) hp
   have ex:l1*(l2*h2*2^0)=(l1*h2*2^0+(h1*l2-l1*h2)*((0:Nat):Int))*l2:=by rw [Int.pow_zero];show _=(_+_*0)*_;grind
   have ey:h1*(l2*h2*2^0)=(l1*h2*2^0+(h1*l2-l1*h2)*(((0:Nat):Int)+1))*h2:=by rw [Int.pow_zero];show _=(_+_*(0+1))*_;grind
   have nf:=uK (w1:=w1) (w2:=w2) (pc:=2^0) l2p h2p l2p h2p (ia 0) (Int.le_refl 0) (by decide) hD ex ey fit
   exact k p l h _ 0 0 l1 l2 h1 h2 (s1.then_new hp) (s1.free hp) ao (hl1.same sp) (hh1.same sp) ⟨en.mono (by omega),hU.low,hU.top,Int.le_refl _,Int.le_refl _,nf.2.2.2,by decide,ex,ey,bigg,fit⟩
  refine ap ⟨_,rfl,_,rfl,_,rfl,a,l,r,ns,l1,l2,r1,r2,rfl,hA1,hl1,hr1,hT,hne,hln,hbn,l2p,r1p,r2p,bl1.mono hk1,bl2.mono hk1,br1.mono (by omega),br2.mono (by omega),fun m s0 s1' pm e0 e1 hs1 bS p2 H2 s2 hp2 eq2=>?_⟩
  have t2:=s1.trans s2
  refine ⟨_,rfl,_,rfl,a,h,ns,h1,h2,⟨rfl,t2 _ _ hA,hh.same t2,by omega,hbn.mono,bh1.mono (by omega),bh2.mono (by omega)⟩,fun H3 s3=>?_⟩
  have t3:=t2.trans s3
  have lp:0<l2*r2:=Int.mul_pos l2p r2p
  have top:(s0+s1')*h2=h1*m:=by
   refine cancel lp ?_
   calc (s0+s1')*h2*(l2*r2)=((s0*l2)*r2+(s1'*r2)*l2)*h2:=by grind
    _=(l1*m*r2+r1*m*l2)*h2:=by rw [e0,e1]
    _=m*(l1*r2*h2+r1*(h2*l2)):=by grind
    _=m*(l1*r2*h2+(h1*l2-l1*h2)*r2):=by rw [er]
    _=h1*m*(l2*r2):=by grind
  have pt:∀ p c:Int,0<p->p<=c->0<m*c/\l1*(m*c)<(s0*c+s1'*p)*l2/\(s0*c+s1'*p)*h2<=h1*(m*c):=fun p c hp hc=>by
   refine ⟨Int.mul_pos pm (by omega),?_,?_⟩
   ·have:(s0*c+s1'*p)*l2=l1*(m*c)+s1'*p*l2:=by
     calc (s0*c+s1'*p)*l2=(s0*l2)*c+s1'*p*l2:=by grind
      _=l1*m*c+s1'*p*l2:=by rw [e0]
      _=l1*(m*c)+s1'*p*l2:=by grind
    rw [this]
    have:=Int.mul_pos (Int.mul_pos hs1 hp) l2p
    omega
   ·have h3:s1'*p<=s1'*c:=Int.mul_le_mul_of_nonneg_left hc (Int.le_of_lt hs1)
    have h4:(s0*c+s1'*p)*h2<=(s0*c+s1'*c)*h2:=Int.mul_le_mul_of_nonneg_right (by omega) (Int.le_of_lt h2p)
    have h5:(s0*c+s1'*c)*h2=h1*(m*c):=by
     calc (s0*c+s1'*c)*h2=((s0+s1')*h2)*c:=by grind
      _=h1*m*c:=by rw [top]
      _=h1*(m*c):=by grind
    omega
  have vs:∀ p c:Int,sg (hv p c (bG m s0 s1' ns))=sg (hv (s0*c+s1'*p) (m*c) ns):=fun p c=>by
   rw [<- vO,cu pm]
  have hB:RootB (bG m s0 s1' ns) ε (fun p c=>Up (s0*c+s1'*p) (m*c)):=by
   refine ⟨hU.e1,fun p c hp hc hu=>?_,fun p c hp hc hu=>?_,fun p c p' c' hp hc hp' hc' hu hlt=>?_,fun p c hc=>?_,fun hu=>?_⟩
   ·rw [vs]
    obtain ⟨q1,q2,q3⟩:=pt p c hp hc
    exact hU.r1 _ _ q1 q2 q3 hu
   ·rw [vs]
    obtain ⟨q1,q2,q3⟩:=pt p c hp hc
    exact hU.r2 _ _ q1 q2 q3 hu
   ·rw [vs]
    obtain ⟨q1,q2,q3⟩:=pt p c hp hc
    obtain ⟨q1',q2',q3'⟩:=pt p' c' hp' hc'
    refine hU.r3 _ _ _ _ q1 q1' q2 q3' hu ?_
    have h3:s1'*m*(p*c')<s1'*m*(p'*c):=Int.mul_lt_mul_of_pos_left hlt (Int.mul_pos hs1 pm)
    have e3:(s0*c+s1'*p)*(m*c')=s0*c*(m*c')+s1'*m*(p*c'):=by grind
    have e4:(s0*c'+s1'*p')*(m*c)=s0*c*(m*c')+s1'*m*(p'*c):=by grind
    omega
   ·have g1:0<m*c:=Int.mul_pos pm hc
    have g2:0<m*(2*c):=Int.mul_pos pm (by omega)
    constructor
    ·exact hU.sc _ _ _ _ g2 g1 (by grind)
    ·exact hU.sc _ _ _ _ g1 g2 (by grind)
   ·refine hU.top (hU.sc _ _ _ _ (by rw [Int.mul_one];exact pm) h2p ?_ hu)
    rw [Int.mul_one,Int.mul_one,Int.mul_one];exact top
  have lstr:=gW m s0 s1' ns
  have hn1:1<=ns.length:=List.length_pos_iff.mpr hne
  refine ⟨_,rfl,p2,bG m s0 s1' ns,_,n,ε,_,rfl,s3 _ _ eq2,by omega,by omega,bS,by omega,hB,?_,fun p4 H4 pl s4 hp4 e4 hpl hup hnup=>?_⟩
  ·rw [vs]
   refine yM h2p (by rw [Int.mul_one];exact pm) ?_ ns
   rw [Int.mul_one,Int.mul_one,Int.mul_one];exact top.symm
  have t4:=t3.trans s4
  have u4:=(s2.trans s3).trans s4
  have b2n:Bits (n+1) ((2:Int)^n):=iX (by omega)
  have cpl:(pl:Int)<2^n:=by rw [fS];exact Int.ofNat_lt.mpr hpl
  have bpl:Bits (n+1) (pl:Int):=b2n.of_le (by rw [fS];omega)
  have bpl1:Bits (n+1) ((pl:Int)+1):=b2n.of_le (by rw [fS];omega)
  have p2n:=ia n
  refine aU ⟨_,rfl,_,rfl,_,rfl,p4,_,_,_,rfl,rfl,SqT.of e4,rfl,_,rfl,p4,_,_,_,rfl,rfl,SqT.of e4,rfl,l,r,l1,l2,r1,r2,pl,2^n,kb,2*kb+1,n+1,rfl,hl.same t4,hr1.same u4,l2p,r2p,p2n,bl1,bl2,br1,br2,bpl,b2n,by omega,fun x H5 x1 x2 s5 hx hRx x2p ex bx1 bx2 gx=>?_⟩
  have e5:=s5 _ _ e4
  have t5:=t4.trans s5
  have u5:=u4.trans s5
  refine ⟨_,rfl,_,rfl,_,rfl,p4,_,_,_,rfl,rfl,SqT.of e5,rfl,_,_,rfl,rfl,_,rfl,p4,_,_,_,rfl,rfl,SqT.of e5,rfl,l,r,l1,l2,r1,r2,pl+1,2^n,kb,2*kb+1,n+1,rfl,hl.same t5,hr1.same u5,l2p,r2p,p2n,bl1,bl2,br1,br2,bpl1,b2n,by omega,fun y H6 y1 y2 s6 hy hRy y2p ey by1 by2 gy=>?_⟩
  refine ⟨by show 2<=sizeLine;decide,fun p hp=>?_⟩
  have sp:=Same.upd_new (o:=.tup [V.ref x,V.ref y]) hp
  have t6:=t5.trans s6
  have ex':=w8 r2p er ex
  have ey':=w8 r2p er ey
  have nf:=uK (w1:=w1) (w2:=w2) l2p h2p x2p y2p p2n (show (0:Int)<=(pl:Int) by omega) (by omega) hD ex' ey' fit
  have cross:∀ (q z1 z2:Int),z1*(l2*r2*2^n)=(l1*r2*2^n+r1*l2*q)*z2->(s0*2^n+s1'*q)*z2=z1*(m*2^n):=fun q z1 z2 ez=>by
   refine cancel lp ?_
   calc (s0*2^n+s1'*q)*z2*(l2*r2)=((s0*l2)*r2*2^n+(s1'*r2)*l2*q)*z2:=by grind
    _=(l1*m*r2*2^n+r1*m*l2*q)*z2:=by rw [e0,e1]
    _=m*((l1*r2*2^n+r1*l2*q)*z2):=by grind
    _=m*(z1*(l2*r2*2^n)):=by rw [ez]
    _=z1*(m*2^n)*(l2*r2):=by grind
  have hm2:0<m*2^n:=Int.mul_pos pm p2n
  refine k p x y _ n pl x1 x2 y1 y2 (t6.then_new hp) (t6.free hp) ao ((hRx.same s6).same sp) (hRy.same sp) ⟨⟨x2p,y2p,bx1.mono (by omega),bx2.mono (by omega),by1.mono (by omega),by2.mono (by omega),nf.1,gx,gy⟩,?_,?_,nf.2.1,nf.2.2.1,nf.2.2.2,hpl,ex',ey',bigg,fit⟩
  ·rcases hup with z | z
   ·refine hU.sc _ _ _ _ l2p x2p ?_ hU.low
    rw [z] at ex'
    refine cancel (Int.mul_pos h2p p2n) ?_
    calc l1*x2*(h2*2^n)=(l1*h2*2^n+(h1*l2-l1*h2)*((0:Nat):Int))*x2:=by show _=(_+_*0)*_;grind
     _=x1*(l2*h2*2^n):=ex'.symm
     _=x1*l2*(h2*2^n):=by grind
   ·exact hU.sc _ _ _ _ hm2 x2p (cross _ _ _ ex) z
  ·intro hu
   exact hnup (hU.sc _ _ _ _ y2p hm2 (cross _ _ _ ey).symm hu)
theorem A6 {f:Addr} {fd:FuncData} (F:Fun K "refuse_high" "refuse_high" mU f fd) (T:Txt K mg):FnOk P w K mg base CX0 1 f fd ["height"] (fun vs H Q _=>∃ i:Int,vs=[.int i]/\i<=8/\Q .non H):=by
 obtain ⟨tH,hHIGHEST⟩:=T.HIGHEST_
 refine F.ok yZ (fun vs H Q E h=>?_) (fun cdv A outer s H vs Q E hr h=>?_)
 ·obtain ⟨i,rfl,_⟩:=h
  rfl
 ·obtain ⟨i,rfl,hi,k⟩:=h
  refine ⟨_,(ai (aV (aE dk (pv 0) (AC (v:=.int 8) rfl hHIGHEST ⟨_,rfl⟩) (aA _))
   (ai fR)
   aW)),?_⟩
  refine iT ⟨_,rfl,_,_,rfl,rfl,_,rfl,aJ (fun h=>absurd (show i>8 from h) (by omega)) (fun _=>?_)⟩
  exact k
structure NCI (K:PySem.W.Frag) (mg:Str->Option Value) (CN:Addr):Prop where
 cl:Cls K CN
 nP:NoAttr K CN "poly"
 nL:NoAttr K CN "low"
 nH:NoAttr K CN "high"
 mg:mg "Number"=some (.ref CN)
 ha:PySem.W.findIn K (.ref CN) "__class__"=some (some (.builtin "object.__class__"))
 hn:PySem.W.specialIn K (.builtin "object.__class__") "__get__"=some (some (.builtin "getset_descriptor.__get__"))
 ht:PySem.W.takesIn K (.builtin "object.__class__")=some true
 hm:PySem.W.mroIn K CN (.type "object")=some true
def fv (p l h:Addr):List (Str×V):=cj "high" (.ref h) (cj "low" (.ref l) (cj "poly" (.ref p) []))
theorem Aw:¬ (("poly":Str)="high"):=by decide +kernel
theorem As:¬ (("poly":Str)="low"):=by decide +kernel
theorem Dh:¬ (("low":Str)="high"):=by decide +kernel
theorem pJ (p l h:Addr):(fv p l h).lookup ("high":Str)=some (.ref h):=by unfold fv;rw [cZ,if_pos rfl]
theorem Ez (p l h:Addr):(fv p l h).lookup ("low":Str)=some (.ref l):=by unfold fv;rw [cZ,if_neg Dh,cZ,if_pos rfl]
theorem pI (p l h:Addr):(fv p l h).lookup ("poly":Str)=some (.ref p):=by unfold fv;rw [cZ,if_neg Aw,cZ,if_neg As,cZ,if_pos rfl]
def NA (CN:Addr) (H:Hp) (x p l h:Addr):Prop:=∃ dx,H x=some (.ins CN dx (fv p l h))
theorem NA.same {CN:Addr} {H H':Hp} {x p l h:Addr} (n:NA CN H x p l h) (s:Same H H'):NA CN H' x p l h:=let ⟨dx,e⟩:=n;⟨dx,s _ _ e⟩
def kd (CN:Addr):Sp:=fun vs H Q _=>∃ (x dx r l h:Addr) (ns:List V),vs=[.ref x,.ref r,.ref l,.ref h]/\H x=some (.ins CN dx [])/\H r=some (.lst ns)/\∀ p,H p=none->Q .non (upd (upd H p (.lst ns)) x (.ins CN dx (fv p l h)))
theorem BT {CN f:Addr} {fd:FuncData} (F:Fun K "__init__" "Number.__init__" n9 f fd) (T:Txt K mg) (RN:NCI K mg CN):FnOk P w K mg base CX0 1 f fd ["self","row","low","high"] (kd CN):=by
 refine F.ok zm (fun vs H Q E h=>?_) (fun cdv A outer s H vs Q E hr h=>?_)
 ·obtain ⟨x,dx,r,l,h,ns,rfl,_⟩:=h
  rfl
 ·obtain ⟨x,dx,r,l,h,ns,rfl,hx,hR,k⟩:=h
  refine ⟨_,(af (iW (pv 0) (fe (lC (K:=K) rfl) (by rfl) T.list_ PyProof.Rows.boot_list (aa (pv 1) ab)) rfl)
   (af (iW (pv 0) (pv 2) rfl)
   (ai (iW (pv 0) (pv 3) rfl)))),?_⟩
  refine ⟨_,rfl,r,_,rfl,.inl (SqL.of hR),fun p hp=>?_⟩
  have npx:x≠p:=aR hx hp
  refine ⟨_,rfl,x,CN,dx,_,rfl,by rw [upd_ne npx];exact hx,RN.cl,RN.nP,by show 0<1000;decide,?_⟩
  refine ⟨_,rfl,_,rfl,x,CN,dx,_,rfl,ao,RN.cl,RN.nL,by show 1<1000;decide,?_⟩
  refine ⟨_,rfl,_,rfl,x,CN,dx,_,rfl,ao,RN.cl,RN.nH,by show 2<1000;decide,?_⟩
  show Q .non (upd (upd (upd (upd H p _) x _) x _) x _)
  rw [j0,j0]
  exact k p hp
def sj:Sp:=fun vs H Q _=>∃ (a:Addr) (ns:List Int),vs=[.ref a]/\H a=some (.lst (ns.map V.int))/\ns.length<=1000/\AllB 300 ns/\∀ H',Same H H'->Q .non H'
theorem Ha:Bits 399 (10^60*10^60)/\(2:Int)^300<=10^60*10^60:=by
 constructor
 ·show ((10:Int)^60*10^60).natAbs<2^399;decide +kernel
 ·decide +kernel
theorem A7 {f:Addr} {fd:FuncData} (F:Fun K "refuse_great" "refuse_great" mV f fd) (T:Txt K mg):FnOk P w K mg base CX0 1 f fd ["row"] sj:=by
 refine F.ok sc_refuse_great (fun vs H Q E h=>?_) (fun cdv A outer s H vs Q E hr h=>?_)
 ·obtain ⟨a,ns,rfl,_⟩:=h
  rfl
 ·obtain ⟨a,ns,rfl,hA,hl,hb,k⟩:=h
  have big:=sizeLine_eq
  refine ⟨_,(af (aj (i:=1) sc_refuse_great.nd rfl (Or.inr rfl) (ag aD (ag ie ac ac) (ag ie ac ac)))
   (ai (aV (Ab (bA (Gx (K:=K) rfl rfl) (by rfl) T.any_ PyProof.Rows.boot_any (aa (dH (own:=["value"]) (fr:=["limit"]) (js:=[1]) (by walk_at "comp_ok") rfl (dj (K:=K) rfl (pv 0)) (fun _ _ _ _=>(aQ (i:=0) (show List.Nodup (["value","limit"]:List Str) from by decide +kernel) rfl (Or.inl rfl))) (fun _ _ _ _=>(eo kF (bA gE (by rfl) T.abs_ PyProof.Rows.boot_abs (aa (pv 0) ab)) (pv 1) (aA _)))) ab)) (by intro _;rfl))
     (ai fR)
     aW))),?_⟩
  have b6:Bits 1000000 ((10:Int)^60):=b60.mono
  refine ap ⟨_,_,rfl,rfl,⟨by decide,by decide,by decide⟩,_,_,rfl,rfl,⟨by decide,by decide,by decide⟩,_,_,rfl,rfl,⟨b6,b6⟩,?_⟩
  refine iT ⟨_,rfl,a,rfl,⟨_,SqL.of hA⟩,gC (K:=K) (a:=a) (xs:=ns.map V.int) (fun i ys σ' H'=>∃ (z0:Option V) (bs:List Bool),σ'=[z0,some (.int (10^60*10^60))]/\ys=bs.map V.bl/\bs.length=i/\(∀ x∈bs,x=false)/\H=H') (by rw [List.length_map];omega) ⟨none,[],rfl,rfl,rfl,(fun _ h=>nomatch h),rfl⟩ ?_ ?_ ?_⟩
  ·rintro i ys σ' H' _ ⟨z0,bs,rfl,rfl,rfl,_,rfl⟩
   exact ⟨SqL.of hA,by rw [List.length_map];exact Nat.le_refl _⟩
  ·rintro i x ys σ' H' hi ⟨z0,bs,rfl,rfl,rfl,hbs,rfl⟩
   obtain ⟨c,_,rfl,hc,_⟩:=fu hi
   refine ⟨_,rfl,_,rfl,_,rfl,_,_,rfl,rfl,?_⟩
   refine ⟨_,bs++[false],rfl,?_,by rw [List.length_append];rfl,fun x hx=>?_,rfl⟩
   ·have hlt:¬ ((if c<0 then -c else c)≥10^60*10^60):=by
     have h1:c.natAbs<2^300:=hb c hc
     have h2:=Ha.2
     have h3:((2^300:Nat):Int)=(2:Int)^300:=by rw [Int.natCast_pow];rfl
     have h4:(c.natAbs:Int)<(2:Int)^300:=by rw [<- h3];exact Int.ofNat_lt.mpr h1
     generalize (2:Int)^300=X at h2 h4
     generalize (10:Int)^60*10^60=Y at h2 ⊢
     split<;>omega
    rw [List.map_append]
    show _++[V.bl (decide _)]=_
    rw [decide_eq_false hlt];rfl
   ·rcases List.mem_append.mp hx with h | h
    ·exact hbs x h
    ·exact List.mem_singleton.mp h
  rintro ys σ' H' p ⟨z0,bs,rfl,rfl,hbl,hbs,rfl⟩ hp
  refine ⟨p,bs,rfl,SqL.of ao,?_⟩
  have e:bs.any id=false:=by
   rw [List.any_eq_false]
   intro x hx
   rw [hbs x hx];decide
  rw [e]
  refine ⟨_,rfl,c9 ?_⟩
  exact k _ (Same.upd_new hp)
theorem mz {x:Int} (h:x<0):sg x = -1:=by unfold sg;split<;>(try split)<;>omega
theorem eR {x:Int} (h:0<x):sg x=1:=by unfold sg;split<;>(try split)<;>omega
theorem kI:(¬ ("against":Str)="bottom")/\¬ ("against":Str)="top":=⟨by decide +kernel,by decide +kernel⟩
theorem b1k {k:Nat} (h:1<=k):Bits k (1:Int):=Bits.mono (j:=1) (by show (1:Int).natAbs<2^1;decide) h
theorem wm (t:Int):dv t 1=1:=by
 unfold dv
 rw [if_neg (by decide)]
 show ((Nat.gcd t.natAbs 1:Nat):Int)=1
 rw [Nat.gcd_one_right];rfl
theorem zt (t:Int):rt t 1=t:=by
 have h:=hI (t:=t) (b:=1) (by decide)
 rw [wm,Int.one_mul] at h
 exact h
theorem zJ (t:Int):rb t 1=1:=by
 have h:=fQ (t:=t) (b:=1) (by decide)
 rw [wm,Int.one_mul] at h
 exact h
theorem wl {b:Int} (hb:0<b):dv 1 b=1:=by
 unfold dv
 rw [if_neg (by omega)]
 show ((Nat.gcd 1 b.natAbs:Nat):Int)=1
 rw [Nat.gcd_one_left];rfl
theorem zq {b:Int} (hb:0<b):rt 1 b=1:=by
 have h:=hI (t:=1) (b:=b) (by omega)
 rw [wl hb,Int.one_mul] at h
 exact h
theorem zI {b:Int} (hb:0<b):rb 1 b=b:=by
 have h:=fQ (t:=1) (b:=b) (by omega)
 rw [wl hb,Int.one_mul] at h
 exact h
theorem Cu {CN:Addr} {H3:Hp} {q:Addr->Hp->Prop} {E:XK} {r l h:Addr} {ns:List V} (e3:H3 r=some (.lst ns)) (k:∀ (x p:Addr) (H':Hp),Same H3 H'->H3 x=none->NA CN H' x p l h->H' p=some (.lst ns)->H3 p=none->q x H'):∀ x dx:Addr,H3 x=none->H3 dx=none->dx≠x->kd CN (.ref x::([.ref r,.ref l,.ref h]++[])) (upd (upd H3 dx (.own x)) x (.ins CN dx [])) (fun v H2=>v=.non/\q x H2) E:=fun x dx nx ndx ne=>by
 have npx:r≠x:=aR e3 nx
 have npd:r≠dx:=aR e3 ndx
 refine ⟨x,dx,r,l,h,_,rfl,ao,by rw [upd_ne npx,upd_ne npd];exact e3,fun q hq=>⟨rfl,?_⟩⟩
 have nqx:q≠x:=fun z=>by rw [z,ao] at hq;cases hq
 have nqd:q≠dx:=fun z=>by rw [z,upd_ne ne,ao] at hq;cases hq
 have hq3:H3 q=none:=by rw [upd_ne nqx,upd_ne nqd] at hq;exact hq
 refine k x q _ (fun c o ec=>?_) nx ⟨dx,ao⟩ (by rw [upd_ne nqx,ao]) hq3
 have ncx:c≠x:=aR ec nx
 have ncd:c≠dx:=aR ec ndx
 have e4:upd (upd H3 dx (.own x)) x (.ins CN dx []) c=some o:=by rw [upd_ne ncx,upd_ne ncd];exact ec
 rw [upd_ne ncx,upd_ne (aR e4 hq)]
 exact e4
structure SR (ns:List Int) (n1 n2:Nat) (xss:List (List Int)):Prop where
 pln:Pln ns
 l2:2<=ns.length
 l3:ns.length<=3
 bits:AllB 250 ns
 runC:iw n1 ns (av (slopeL ns))
 com:cL n1 ns (av (slopeL ns))=[1]
 n2le:n2<=1000
 run:Run n2 ns (ak (slopeL ns))
 row:aL n2 ns (ak (slopeL ns))=xss
 xb:∀ xs∈xss,xs.length<=20/\AllB 1000 xs
 xl:xss.length<=1000000
 irr:ns.length=3->∀ t b,0<b->hv t b ns≠0
theorem SR.shr {ns:List Int} {n1 n2:Nat} {xss:List (List Int)} (h:SR ns n1 n2 xss):ak ns=ns:=iM (.inr h.pln.prim)
theorem AG {ns:List Int} (h:Pln ns):aB ns [1]=[]/\av (bE ns [1])=ns:=by
 have dn:aB ns [1]=[]:=lx (by simp) rfl
 have tr1:Tr ([1]:List Int):=(tr_snoc (r:=[])).mpr (by decide)
 refine ⟨dn,?_⟩
 have hd:=fw (a:=ns) (b:=[1]) (by simp)
 have hF:bB ns [1]=1:=by
  unfold bB
  show ((1:Int).natAbs:Int)^_=1
  exact Int.one_pow
 have hc:∀ n,cf (bE ns [1]) n=cf ns n:=fun n=>by
  have h:=hd n
  rw [hF,dn,b7,fk,fj] at h
  omega
 have hq:bE ns [1]=ns:=gw (wq (by simp) h.tr tr1) h.tr hc
 rw [hq,h.plain]
def rV:Sp:=fun vs H Q _=>∃ (a:Addr) (ns:List Int) (n1 n2:Nat) (xss:List (List Int)),vs=[.ref a]/\H a=some (.lst (ns.map V.int))/\SR ns n1 n2 xss/\mkL H Q ns
theorem AN {f:Addr} {fd:FuncData} (F:Fun K "without_squares" "without_squares" mE f fd) (T:Txt K mg) {Fv:Addr} {EM:FuncData} (Im:Cal P w K mg base 35 "part" ["row","divisor"] sw Fv EM) {FG:Addr} {EY:FuncData} (IC:Cal P w K mg base 35 "common" ["first","second"] sO FG EY) {jw:Addr} {jo:FuncData} (jU:Cal P w K mg base 1 "slope" ["row"] (sp1 slopeL) jw jo):FnOk P w K mg base CX0 36 f fd ["row"] rV:=by
 obtain ⟨Hy,CG,DA,GK⟩:=Im
 obtain ⟨HK,CU,DM,GW⟩:=IC
 obtain ⟨jO,jb,ji,jH⟩:=jU
 refine F.ok yQ (fun vs H Q E h=>?_) (fun cdv A outer s H vs Q E hr h=>?_)
 ·obtain ⟨a,ns,n1,n2,xss,rfl,_⟩:=h
  rfl
 ·obtain ⟨a,ns,n1,n2,xss,rfl,hA,hS,k⟩:=h
  have hu:=hr.units
  have l3:=hS.l3
  have hne:=hS.pln.ne
  refine ⟨_,(af (aV (aE (iZ (K:=K) rfl hu) (pv 0) (bj ab) (aA _))
   (ai (au (bj ab)))
   aW)
   (ai (au (al Hy (hr.mono) rfl CG DA GK .nil ah (aa (pv 0) (aa (al HK (hr.mono) rfl CU DM GW .nil ah (aa (pv 0) (aa (al jO (hr.mono) rfl jb ji jH .nil ah (aa (pv 0) ab)) ab))) ab)))))),?_⟩
  refine bC ⟨_,rfl,Nat.zero_le _,fun p0 hp0=>?_⟩
  have s0:Same H (upd H p0 (.lst [])):=Same.upd_new hp0
  refine ⟨a,p0,ns,[],rfl,rfl,SqL.of (s0 _ _ hA),SqL.of ao,_,rfl,aJ (fun h0=>absurd h0 hne) (fun _=>?_)⟩
  generalize upd H p0 (.lst [])=H0 at s0 ⊢
  have hA0:=s0 _ _ hA
  refine aU ⟨_,rfl,_,rfl,_,rfl,a,ns,rfl,hA0,by omega,hS.bits.mono,fun p1 H1 s1 hp1 e1=>?_⟩
  have t1:=s0.trans s1
  have o1:AllB 250 ([1]:List Int):=fun x hx=>by rw [List.mem_singleton.mp hx];exact b1k (by decide)
  have tr1:Tr ([1]:List Int):=(tr_snoc (r:=[])).mpr (by decide)
  have lsl:(slopeL ns).length<=1000:=by unfold slopeL;simp;omega
  refine ⟨a,p1,ns,slopeL ns,n1,rfl,t1 _ _ hA,e1,hS.pln.tr,rj hS.pln.tr,by omega,lsl,by rw [hS.pln.plain];exact hS.runC,fun p2 H2 s2 hp2 e2=>?_⟩
  rw [hS.pln.plain,hS.com] at e2
  have t2:=t1.trans s2
  obtain ⟨dn,eq⟩:=AG hS.pln
  refine ⟨a,p2,ns,[1],250,rfl,t2 _ _ hA,e2,hS.pln.tr,tr1,hS.bits,o1,by have:(ns.length+2)*(250+1)<=5*251:=Nat.mul_le_mul_right _ (by omega);omega,by show 1<=1000000;decide,by simp,dn,fun p3 H3 s3 hp3 e3=>?_⟩
  rw [eq] at e3
  exact k p3 H3 (t2.trans s3) (t2.free hp3) e3
def sC (C:Addr):Sp:=fun vs H Q _=>∃ (a l h:Addr) (ns:List Int) (n1 n2:Nat) (xss:List (List Int)) (l1 l2 h1 h2:Int),vs=[.ref a,.ref l,.ref h]/\H a=some (.lst (ns.map V.int))/\SR ns n1 n2 xss/\RA C H l l1 l2/\RA C H h h1 h2/\EndsG 250 l1 l2 h1 h2/\∀ H',Same H H'->Q (.int ((chS (sgs l1 l2 xss)).1-(chS (sgs h1 h2 xss)).1)) H'
theorem Bh {C f:Addr} {fd:FuncData} (F:Fun K "many_within" "many_within" m7 f fd) (T:Txt K mg) (R:RCI K mg C) {qg:Addr} {pV:FuncData} (q9:MCal P w K mg base 2 C "against" ["self","other"] (mq C) qg pV) {jz:Addr} {jr:FuncData} (jX:Cal P w K mg base 4 "count" ["row","low","high"] (kf C) jz jr) {pZ:Addr} {pN:FuncData} (qV:Cal P w K mg base 35 "row_of" ["polynomial"] me pZ pN):FnOk P w K mg base CX0 36 f fd ["simple","low","high"] (sC C):=by
 obtain ⟨qQ,oW,qB⟩:=q9
 obtain ⟨jR,je,jl,jK⟩:=jX
 obtain ⟨qM,o2,pj,qx⟩:=qV
 refine F.ok y0 (fun vs H Q E h=>?_) (fun cdv A outer s H vs Q E hr h=>?_)
 ·obtain ⟨a,l,h,ns,n1,n2,xss,l1,l2,h1,h2,rfl,_⟩:=h
  rfl
 ·obtain ⟨a,l,h,ns,n1,n2,xss,l1,l2,h1,h2,rfl,hA,hS,hl,hh,en,k⟩:=h
  refine ⟨_,(af (aV (aE kF (fc (pv 1) R.cl oW qQ (hr.mono) qB .nil ah (aa (pv 2) ab)) ac (aA _))
   (ai (au ac))
   aW)
   (ai (au (al jR (hr.mono) rfl je jl jK .nil ah (aa (al qM (hr.mono) rfl o2 pj qx .nil ah (aa (pv 0) ab)) (aa (pv 1) (aa (pv 2) ab))))))),?_⟩
  have l3:=hS.l3
  obtain ⟨dxl,hl'⟩:=id hl
  refine bC ⟨_,rfl,l,dxl,_,rfl,hl',gk _ _ kI.1 kI.2,_,rfl,l,h,l1,l2,h1,h2,rfl,hl,hh,en.bl1.mono,en.bl2.mono,en.bh1.mono,en.bh2.mono,_,_,rfl,rfl,_,rfl,aJ (fun hge=>?_) (fun _=>?_)⟩
  ·have:sg (l1*h2-h1*l2) = -1:=mz (by have:=en.lt;omega)
   rw [this] at hge
   exact absurd hge (by decide)
  refine aU ⟨_,rfl,a,ns,n2,rfl,hA,hS.pln.tr,hS.bits.mono,by omega,hS.n2le,by rw [hS.shr];exact hS.run,fun lr ps H1 s1 hl1 hnew el hR=>?_⟩
  rw [hS.shr,hS.row] at hR
  refine ⟨_,rfl,_,rfl,lr,l,h,ps,xss,l1,l2,h1,h2,rfl,el,hR,hl.same s1,hh.same s1,en.bl1.mono,en.bl2.mono,en.bh1.mono,en.bh2.mono,hS.xb,hS.xl,fun H2 s2=>k H2 (s1.trans s2)⟩
def sL (C:Addr):Sp:=fun vs H Q _=>∃ (a:Addr) (ns:List Int),vs=[.ref a]/\H a=some (.lst (ns.map V.int))/\Pln ns/\ns.length<=3/\AllB 250 ns/\∀ (x:Addr) (H':Hp) (D:Int),Same H H'->H x=none->RA C H' x 1 D->0<D->Bits 520 D->Q (.ref x) H'
theorem Gy {ns:List Int} (h:AllB 250 ns) (hp:0<aN ns) {kb:Nat} (hB:isB (ns.take (ns.length-1)) (aN ns).natAbs kb):kb<=252:=by
 rcases Nat.lt_or_ge kb 253 with z | z
 ·omega
 ·obtain ⟨x,hx,h2⟩:=hB.2 252 (by omega)
  have h3:x.natAbs<2^250:=h x (List.mem_of_mem_take hx)
  have h4:2^250<=2^252-1:=by decide +kernel
  have h5:2^252-1<=(2^252-1)*(aN ns).natAbs:=Nat.le_mul_of_pos_right _ (by omega)
  omega
theorem kW {ns:List Int} (h:ns≠[]):atI (ns.map V.int) (-1)=some (.int (aN ns)):=by
 obtain ⟨r,x,rfl⟩:=(ck ns).resolve_left h
 rw [cN];exact qD r x
theorem o8 {k:Nat} {ns:List Int} (h:AllB k ns):Bits k (aN ns):=h.cf _
theorem Bo {C f:Addr} {fd:FuncData} (F:Fun K "fine_width" "fine_width" nj f fd) (T:Txt K mg) (R:RCI K mg C) {f_Ratio:Addr} {fd_Ratio:FuncData} {ds_Ratio:List Value} (cq:KCal P w K mg base 2 C "Ratio" ["self","top","bottom"] (cT C) f_Ratio fd_Ratio ds_Ratio [.int 1]) {qe:Addr} {pT:FuncData} (q5:Cal P w K mg base 1 "bound" ["row"] (mn K) qe pT):FnOk P w K mg base CX0 4 f fd ["whole"] (sL C):=by
 obtain ⟨bU,bT,bR,ci,dg,df⟩:=cq
 obtain ⟨lI,kU,kY,lG⟩:=q5
 refine F.ok y3 (fun vs H Q E h=>?_) (fun cdv A outer s H vs Q E hr h=>?_)
 ·obtain ⟨a,ns,rfl,_⟩:=h
  rfl
 ·obtain ⟨a,ns,rfl,hA,hP,hl,hb,k⟩:=h
  refine ⟨_,(ai (au (cD bT bU (hr.mono) rfl bR ci .nil ah (aa ac (aa (ag aD (ag aD ac (aM (bY (K:=K) rfl) (pv 0) (bJ bI ac) (fun _ _=>rfl))) (al lI (hr.mono) rfl kU kY lG .nil ah (aa (pv 0) ab))) ab))))),?_⟩
  have b8:Bits 4 (8:Int):=by show (8:Int).natAbs<2^4;decide
  have hp:=hP.pos
  refine aU ⟨_,rfl,_,rfl,a,_,_,_,rfl,rfl,SqL.of hA,kW hP.ne,_,_,rfl,rfl,⟨b8.mono,(o8 hb).mono⟩,_,rfl,a,ns,rfl,SqL.of hA,hP.tr,hP.ne,by omega,hb.mono,fun kb H1 hkb hB s1=>?_⟩
  have hk:=Gy hb hp hB
  have b2:Bits 253 ((2^kb:Nat):Int):=by
   show (((2^kb:Nat):Int)).natAbs<2^253
   rw [Int.natAbs_natCast]
   exact (Nat.pow_lt_pow_iff_right (by decide)).mpr (by omega)
  have b3:Bits 254 (8*aN ns):=(b8.mul (o8 hb)).mono
  have pk:(0:Int)<((2^kb:Nat):Int):=Int.ofNat_lt.mpr (Nat.pow_pos (by decide))
  have hD:0<8*aN ns*((2^kb:Nat):Int):=Int.mul_pos (by omega) pk
  have bD:Bits 520 (8*aN ns*((2^kb:Nat):Int)):=(b3.mul b2).mono
  refine ⟨_,_,rfl,rfl,⟨b3.mono,b2.mono⟩,cY (t:=1) (by omega) (bD.mono) fun x H2 s2 hx hR=>?_⟩
  rw [zq hD,zI hD] at hR
  exact k x H2 _ (s1.trans s2) (s1.free hx) hR hD bD
theorem Bw {f:Addr} {fd:FuncData} (F:Fun K "cells" "cells" nw f fd) (T:Txt K mg):FnOk P w K mg base CX0 1 f fd ["row"] gY:=F.ok y9 (fun _ _ _ _ h=>h.elim) (fun _ _ _ _ _ _ _ _ _ h=>h.elim)
theorem AU {f:Addr} {fd:FuncData} (F:Fun K "square_of" "square_of" mK f fd) (T:Txt K mg):FnOk P w K mg base CX0 1 f fd ["whole","span","other"] gY:=F.ok yT (fun _ _ _ _ h=>h.elim) (fun _ _ _ _ _ _ _ _ _ h=>h.elim)
theorem Bp {f:Addr} {fd:FuncData} (F:Fun K "divides" "divides" nk f fd) (T:Txt K mg):FnOk P w K mg base CX0 1 f fd ["divisor","row"] gY:=F.ok y4 (fun _ _ _ _ h=>h.elim) (fun _ _ _ _ _ _ _ _ _ h=>h.elim)
def sM (C:Addr):Sp:=fun vs H Q _=>∃ (p:Addr) (t b:Int),vs=[.ref p]/\RA C H p t b/\0<b/\Bits 9000 b/\Q (.int (t/b)) H
theorem BQ {C f:Addr} {fd:FuncData} (F:Fun K "floor" "Ratio.floor" n6 f fd) (T:Txt K mg) (R:RCI K mg C):FnOk P w K mg base CX0 1 f fd ["self"] (sM C):=by
 refine F.ok zk (fun vs H Q E h=>?_) (fun cdv A outer s H vs Q E hr h=>?_)
 ·obtain ⟨p,t,b,rfl,_⟩:=h
  rfl
 ·obtain ⟨p,t,b,rfl,⟨dx,hp⟩,hb,bb,k⟩:=h
  refine ⟨_,(ai (au (ag dm (aO (K:=K) rfl (pv 0) rfl) (aO (K:=K) rfl (pv 0) rfl)))),?_⟩
  exact ⟨_,rfl,p,C,dx,_,_,rfl,hp,R.cl,R.nT,cP _ _,_,rfl,p,C,dx,_,_,rfl,hp,R.cl,R.nB,cg _ _,_,_,rfl,rfl,⟨hb,bb⟩,k⟩
theorem uI:¬ (("floor":Str)="bottom")/\¬ (("floor":Str)="top"):=⟨by decide +kernel,by decide +kernel⟩
theorem zR {a c:Int} (hc:0<c):rt a c/rb a c=a/c:=by
 have h0:c≠0:=by omega
 have e1:=hI (t:=a) h0
 have e2:=fQ (t:=a) h0
 have hp:0<dv a c:=by
  unfold dv
  rw [if_neg (by omega)]
  have:=ik (t:=a) h0
  omega
 have e3:dv a c*rt a c/(dv a c*rb a c)=rt a c/rb a c:=Int.mul_ediv_mul_of_pos _ _ hp
 rw [e1,e2] at e3
 exact e3.symm
def r6 (C:Addr):Sp:=fun vs H Q _=>∃ (r:Addr) (c t b:Int),vs=[.int c,.ref r]/\RA C H r t b/\0<b/\Bits 10000 c/\Bits 10000 t/\Bits 8900 b/\∀ H',Same H H'->Q (.int (c*t/b)) H'
theorem AR {C f:Addr} {fd:FuncData} (F:Fun K "times_floor" "times_floor" mH f fd) (T:Txt K mg) (R:RCI K mg C) {f_Ratio:Addr} {fd_Ratio:FuncData} {ds_Ratio:List Value} (cq:KCal P w K mg base 2 C "Ratio" ["self","top","bottom"] (cT C) f_Ratio fd_Ratio ds_Ratio [.int 1]) {jB:Addr} {ju:FuncData} (jZ:MCal P w K mg base 4 C "times" ["self","other"] (j8 C) jB ju) {FX:Addr} {Fg:FuncData} (IT:MCal P w K mg base 1 C "floor" ["self"] (sM C) FX Fg):FnOk P w K mg base CX0 5 f fd ["factor","ratio"] (r6 C):=by
 obtain ⟨bU,bT,bR,ci,dg,df⟩:=cq
 obtain ⟨jT,i7,jM⟩:=jZ
 obtain ⟨HX,Cg,G8⟩:=IT
 refine F.ok yS (fun vs H Q E h=>?_) (fun cdv A outer s H vs Q E hr h=>?_)
 ·obtain ⟨r,c,t,b,rfl,_⟩:=h
  rfl
 ·obtain ⟨r,c,t,b,rfl,hR,hb,bc,bt,bb,k⟩:=h
  refine ⟨_,(ai (au (AA (fc (cD bT bU (hr.mono) rfl bR dg df ah (aa (pv 0) ab)) R.cl i7 jT (hr.mono) jM .nil ah (aa (pv 1) ab)) R.cl Cg HX (hr.mono) G8 .nil ah))),?_⟩
  refine aU ⟨_,rfl,cY (t:=c) (b:=1) (by decide) (b1k (by decide)) fun x H1 s1 hx hX=>?_⟩
  rw [zt,zJ] at hX
  obtain ⟨dx,hX'⟩:=id hX
  refine ⟨x,dx,_,rfl,hX',gk _ _ kH.1 kH.2,_,rfl,x,r,c,1,t,b,1,8900,rfl,hX,hR.same s1,bc.mono,b1k (by decide),bt.mono,bb,by decide,by decide,hb,fun y H2 s2 hy hY=>?_⟩
  obtain ⟨dy,hY'⟩:=id hY
  have d0:1*b≠0:=by omega
  refine ⟨y,dy,_,rfl,hY',gk _ _ uI.1 uI.2,y,_,_,rfl,hY,eS d0,(eU d0 (by rw [Int.one_mul];exact bb)).mono,?_⟩
  rw [zR (show 0<1*b by omega),Int.one_mul]
  exact k H2 (s1.trans s2)
def sH (C:Addr):Sp:=fun vs H Q _=>∃ (a p x y:Addr) (ns:List Int) (x1 x2 y1 y2:Int),vs=[.ref a,.ref p]/\H a=some (.lst (ns.map V.int))/\H p=some (.tup [.ref x,.ref y])/\RA C H x x1 x2/\RA C H y y1 y2/\EndsG 2000 x1 x2 y1 y2/\Pln ns/\ns.length<=3/\AllB 250 ns/\(∀ t b,0<b->hv t b ns≠0)/\mkL H Q []
theorem Bj {C f:Addr} {fd:FuncData} (F:Fun K "line_of" "line_of" m9 f fd) (T:Txt K mg) (R:RCI K mg C) {f_Ratio:Addr} {fd_Ratio:FuncData} {ds_Ratio:List Value} (cq:KCal P w K mg base 2 C "Ratio" ["self","top","bottom"] (cT C) f_Ratio fd_Ratio ds_Ratio [.int 1]) {Fk:Addr} {ED:FuncData} (Ic:Cal P w K mg base 5 "times_floor" ["factor","ratio"] (r6 C) Fk ED) {qg:Addr} {pV:FuncData} (q9:MCal P w K mg base 2 C "against" ["self","other"] (mq C) qg pV) {eK:Addr} {eJ:FuncData} (eO:Cal P w K mg base 2 "sign_at" ["row","ratio"] (gX C) eK eJ):FnOk P w K mg base CX0 6 f fd ["whole","span"] (sH C):=by
 obtain ⟨bU,bT,bR,ci,dg,df⟩:=cq
 obtain ⟨Hr,Cy,Ds,GD⟩:=Ic
 obtain ⟨qQ,oW,qB⟩:=q9
 obtain ⟨dY,dL,dO,dW⟩:=eO
 refine F.ok sc_line_of (fun vs H Q E h=>?_) (fun cdv A outer s H vs Q E hr h=>?_)
 ·obtain ⟨a,p,x,y,ns,x1,x2,y1,y2,rfl,_⟩:=h
  rfl
 ·obtain ⟨a,p,x,y,ns,x1,x2,y1,y2,rfl,hA,hp,hx,hy,en,hP,hl,hb,irr,k⟩:=h
  refine ⟨_,(af (aj (i:=2) sc_line_of.nd rfl (Or.inl rfl) (cD bT bU (hr.mono) rfl bR ci .nil ah (aa (al Hr (hr.mono) rfl Cy Ds GD .nil ah (aa (aM (bY (K:=K) rfl) (pv 0) (bJ bI ac) (fun _ _=>rfl)) (aa (aM (cb (K:=K) rfl) (pv 1) ac (fun _ _=>rfl)) ab))) (aa (aM (bY (K:=K) rfl) (pv 0) (bJ bI ac) (fun _ _=>rfl)) ab))))
   (af (aV (PW.pt (ee (aE dk (fc (pv 2) R.cl oW qQ (hr.mono) qB .nil ah (aa (aM (cb (K:=K) rfl) (pv 1) ac (fun _ _=>rfl)) ab)) ac (aA _)) (d9 (aE cI (al dY (hr.mono) rfl dL dO dW .nil ah (aa (pv 0) (aa (pv 2) ab))) ac (aA _)))))
     (ai (au (bj (aa (bJ bI (aO (K:=K) rfl (pv 2) rfl)) (aa (aO (K:=K) rfl (pv 2) rfl) ab)))))
     aW)
   (ai (au (bj ab))))),?_⟩
  have bl:=o8 hb
  have lp:=hP.pos
  refine ap ⟨_,rfl,_,rfl,a,_,_,_,rfl,rfl,SqL.of hA,kW hP.ne,_,rfl,p,_,_,_,rfl,rfl,SqT.of hp,rfl,y,aN ns,y1,y2,rfl,hy,en.h2p,bl.mono,en.bh1.mono,en.bh2.mono,fun H1 s1=>?_⟩
  have bm:Bits 2300 (aN ns*y1/y2):=Bits.of_le ((bl.mul en.bh1).mono (k:=2300) (by decide)) (Int.natAbs_ediv_le_natAbs _ _)
  generalize aN ns*y1/y2=m at bm ⊢
  have l0:aN ns≠0:=by omega
  refine ⟨_,rfl,_,rfl,a,_,_,_,rfl,rfl,SqL.of (s1 _ _ hA),kW hP.ne,cY l0 (bl.mono) fun r H2 s2 hr2 hR=>?_⟩
  have t2:=s1.trans s2
  obtain ⟨dr,hR'⟩:=id hR
  have fin:∀ H3,Same H2 H3->∀ q,H3 q=none->Q (.ref q) (upd H3 q (.lst [])):=fun H3 s3 q hq=>k q _ ((t2.trans s3).then_new hq) ((t2.trans s3).free hq) ao
  refine bC (cW ⟨_,rfl,r,dr,_,rfl,hR',gk _ _ kI.1 kI.2,_,rfl,p,_,_,_,rfl,rfl,SqT.of (t2 _ _ hp),rfl,r,x,_,_,x1,x2,rfl,hR,hx.same t2,(fN l0 bm).mono,(eU l0 bl).mono,en.bl1.mono,en.bl2.mono,_,_,rfl,rfl,_,rfl,aJ (fun _=>?_) (fun _=>?_)⟩)
  ·refine ⟨_,rfl,_,rfl,a,r,ns,_,_,⟨rfl,t2 _ _ hA,hR,by omega,hb.mono,(fN l0 bm).mono,(eU l0 bl).mono⟩,fun H3 s3=>⟨_,_,rfl,rfl,_,rfl,aJ (fun h0=>?_) (fun _=>?_)⟩⟩
   ·have h0':sg (hv (rt m (aN ns)) (rb m (aN ns)) ns)=0:=h0
    exact absurd ((yK _).mp h0') (irr _ _ (eS l0))
   ·exact aU ⟨Nat.zero_le _,fun q hq=>fin H3 s3 q hq⟩
  ·exact c9 (aU ⟨Nat.zero_le _,fun q hq=>fin H2 (Same.refl _) q hq⟩)
structure NumS (ns:List Int) (l1 l2 h1 h2 ε:Int) (Up:Int->Int->Prop) (n1 n2:Nat) (xss:List (List Int)):Prop where
 sr:SR ns n1 n2 xss
 en:EndsG 250 l1 l2 h1 h2
 ru:RootU ns l1 l2 h1 h2 ε Up
 one:((chS (sgs l1 l2 xss)).1:Int)-(chS (sgs h1 h2 xss)).1=1
 lo:sg (hv l1 l2 ns)≠0
def sE (C:Addr):Sp:=fun vs H Q _=>∃ (a l h:Addr) (ns:List Int) (l1 l2 h1 h2 ε:Int) (Up:Int->Int->Prop) (n1 n2:Nat) (xss:List (List Int)),vs=[.ref a,.ref l,.ref h]/\H a=some (.lst (ns.map V.int))/\RA C H l l1 l2/\RA C H h h1 h2/\NumS ns l1 l2 h1 h2 ε Up n1 n2 xss/\mkL H Q ns
theorem Bk {C f:Addr} {fd:FuncData} (F:Fun K "least" "least" nc f fd) (T:Txt K mg) {jx:Addr} {jp:FuncData} (jV:Cal P w K mg base 34 "plain" ["row"] j9 jx jp) {gv:Addr} {gq:FuncData} (gQ:Cal P w K mg base 1 "degree" ["row"] iG gv gq) {FE:Addr} {EW:FuncData} (IA:Cal P w K mg base 4 "fine_width" ["whole"] (sL C) FE EW) {qb:Addr} {pQ:FuncData} (qX:Cal P w K mg base 6 "narrowed" ["row","low","high","width"] (mi C) qb pQ) {FA:Addr} {ES:FuncData} (Iw:Cal P w K mg base 6 "line_of" ["whole","span"] (sH C) FA ES) {FI:Addr} {E1:FuncData} (IE:Cal P w K mg base 1 "cells" ["row"] gY FI E1) {Fn:Addr} {EG:FuncData} (Ig:Cal P w K mg base 1 "square_of" ["whole","span","other"] gY Fn EG) {FF:Addr} {EX:FuncData} (IB:Cal P w K mg base 1 "divides" ["divisor","row"] gY FF EX) {jz:Addr} {jr:FuncData} (jX:Cal P w K mg base 4 "count" ["row","low","high"] (kf C) jz jr) {pZ:Addr} {pN:FuncData} (qV:Cal P w K mg base 35 "row_of" ["polynomial"] me pZ pN):FnOk P w K mg base CX0 36 f fd ["row","low","high"] (sE C):=by
 obtain ⟨gM,fX,f7,gI⟩:=jV
 obtain ⟨dF,dz,dA,dE⟩:=gQ
 obtain ⟨HI,CS,DK,GU⟩:=IA
 obtain ⟨lH,kT,kX,lE⟩:=qX
 obtain ⟨HE,CM,DG,GQ⟩:=Iw
 obtain ⟨HL,CV,DN,GX⟩:=IE
 obtain ⟨Hu,CB,Dw,GG⟩:=Ig
 obtain ⟨HJ,CT,DL,GV⟩:=IB
 obtain ⟨jR,je,jl,jK⟩:=jX
 obtain ⟨qM,o2,pj,qx⟩:=qV
 refine F.ok sc_least (fun vs H Q E h=>?_) (fun cdv A outer s H vs Q E hr h=>?_)
 ·obtain ⟨a,l,h,ns,l1,l2,h1,h2,ε,Up,n1,n2,xss,rfl,_⟩:=h
  rfl
 ·obtain ⟨a,l,h,ns,l1,l2,h1,h2,ε,Up,n1,n2,xss,rfl,hA,hl,hh,hN,k⟩:=h
  have hu:=hr.units
  have hP:=hN.sr.pln
  have l3:=hN.sr.l3
  have l2':=hN.sr.l2
  have hml:(ns.map V.int).length=ns.length:=List.length_map _
  refine ⟨_,(af (aj (i:=3) sc_least.nd rfl (Or.inl rfl) (al gM (hr.mono) rfl fX f7 gI .nil ah (aa (pv 0) ab)))
   (af (aV (aE da (al dF (hr.mono) rfl dz dA dE .nil ah (aa (pv 3) ab)) ac (aA _))
     (ai (au (pv 3)))
     aW)
   (af (aj (i:=4) sc_least.nd rfl (Or.inl rfl) (al HI (hr.mono) rfl CS DK GU .nil ah (aa (pv 3) ab)))
   (af (aj (i:=5) sc_least.nd rfl (Or.inl rfl) (al lH (hr.mono) rfl kT kX lE .nil ah (aa (pv 3) (aa (pv 1) (aa (pv 2) (aa (pv 4) ab))))))
   (af (aj (i:=6) sc_least.nd rfl (Or.inl rfl) (al HE (hr.mono) rfl CM DG GQ .nil ah (aa (pv 3) (aa (pv 5) ab))))
   (af (aV (aE (ff (K:=K) rfl hu) (pv 6) (bj ab) (aA _))
     (ai (au (pv 6)))
     aW)
   (af (aV (aE cI (al dF (hr.mono) rfl dz dA dE .nil ah (aa (pv 3) ab)) ac (aA _))
     (ai (au (pv 3)))
     aW)
   (af (cv PassesOwn.never rfl (dj (K:=K) rfl (al HL (hr.mono) rfl CV DN GX .nil ah (aa (pv 3) ab))) (aQ (i:=7) sc_least.nd rfl (Or.inl rfl))
     (af (aj (i:=8) sc_least.nd rfl (Or.inl rfl) (al Hu (hr.mono) rfl CB Dw GG .nil ah (aa (pv 3) (aa (pv 5) (aa (al lH (hr.mono) rfl kT kX lE .nil ah (aa (pv 3) (aa (aM (cb (K:=K) rfl) (pv 7) ac (fun _ _=>rfl)) (aa (aM (cb (K:=K) rfl) (pv 7) ac (fun _ _=>rfl)) (aa (pv 4) ab))))) ab)))))
       (ai (aV (PW.pt (ee (ox (al HJ (hr.mono) rfl CT DL GV .nil ah (aa (pv 8) (aa (pv 3) ab)))) (d9 (aE cI (al jR (hr.mono) rfl je jl jK .nil ah (aa (al qM (hr.mono) rfl o2 pj qx .nil ah (aa (pv 8) ab)) (aa (pv 1) (aa (pv 2) ab)))) ac (aA _)))))
         (ai (au (pv 8)))
         aW))))
   (ai (au (pv 3))))))))))),?_⟩
  refine ap ⟨_,rfl,a,ns,rfl,hA,hP.tr,by omega,fun p H1 s1 hp e1=>?_⟩
  rw [hP.plain] at e1
  refine bC ⟨_,rfl,p,_,rfl,e1,_,_,rfl,rfl,_,rfl,aJ (fun _=>?_) (fun h0=>?_)⟩
  ·exact ⟨_,rfl,k p H1 s1 hp e1⟩
  rw [hml] at h0
  have hl3:ns.length=3:=by have:¬ ((ns.length:Int)-1<2):=h0;omega
  have irr:=hN.sr.irr hl3
  refine ap ⟨_,rfl,p,ns,rfl,e1,hP,l3,hN.sr.bits,fun wd H2 D s2 hwd hW hD bD=>?_⟩
  have t2:=s1.trans s2
  have e2:=s2 _ _ e1
  refine ap ⟨_,rfl,_,rfl,_,rfl,_,rfl,p,l,h,wd,ns,l1,l2,h1,h2,1,D,250,520,ε,Up,rfl,e2,hP.tr,hP.ne,by omega,hN.sr.bits.mono,hl.same t2,hh.same t2,hW,hN.en,by decide,hD,b1k (by decide),bD,by decide,by decide,by decide,hN.ru,fun ps x y H3 n pl x1 x2 y1 y2 s3 hps e3 hx hy nar=>?_⟩
  have t3:=t2.trans s3
  have ep3:=s3 _ _ e2
  refine ap ⟨_,rfl,_,rfl,p,ps,x,y,ns,x1,x2,y1,y2,rfl,ep3,e3,hx,hy,nar.ends.mono,hP,l3,hN.sr.bits,irr,fun pl' H4 s4 hpl e4=>?_⟩
  refine bC ⟨_,rfl,Nat.zero_le _,fun p0 hp0=>?_⟩
  have s5:=Same.upd_new (o:=.lst []) hp0
  refine ⟨pl',p0,[],[],rfl,rfl,SqL.of (s5 _ _ e4),SqL.of ao,_,rfl,cC (fun h0=>absurd rfl h0) (fun _=>?_)⟩
  generalize upd H4 p0 (.lst [])=H5 at s5 ⊢
  have u5:=s3.trans (s4.trans s5)
  have ep5:=u5 _ _ e2
  refine bC ⟨_,rfl,p,_,rfl,ep5,_,_,rfl,rfl,_,rfl,aJ (fun _=>?_) (fun h0=>?_)⟩
  ·exact ⟨_,rfl,k p H5 (t2.trans u5) hp ep5⟩
  ·rw [hml,hl3] at h0
   exact absurd (show ((3:Nat):Int)-1=2 by decide) h0
def sB (C CN:Addr):Sp:=fun vs H Q _=>∃ (a l h:Addr) (ns:List Int) (l1 l2 h1 h2 ε:Int) (Up:Int->Int->Prop) (n1 n2:Nat) (xss:List (List Int)),vs=[.ref a,.ref l,.ref h]/\H a=some (.lst (ns.map V.int))/\RA C H l l1 l2/\RA C H h h1 h2/\NumS ns l1 l2 h1 h2 ε Up n1 n2 xss/\∀ (x q:Addr) (H':Hp),Same H H'->H x=none->NA CN H' x q l h->H' q=some (.lst (ns.map V.int))->H q=none->Q (.ref x) H'
theorem Bb {C CN f:Addr} {fd:FuncData} (F:Fun K "number_in" "number_in" mZ f fd) (T:Txt K mg) (R:RCI K mg C) {FB:Addr} {ET:FuncData} (Ix:Cal P w K mg base 36 "least" ["row","low","high"] (sE C) FB ET) {eK:Addr} {eJ:FuncData} (eO:Cal P w K mg base 2 "sign_at" ["row","ratio"] (gX C) eK eJ) {qb:Addr} {pQ:FuncData} (qX:Cal P w K mg base 6 "narrowed" ["row","low","high","width"] (mi C) qb pQ) {qf:Addr} {pU:FuncData} (q8:MCal P w K mg base 4 C "minus" ["self","other"] (ml C) qf pU) {jB:Addr} {ju:FuncData} (jZ:MCal P w K mg base 4 C "times" ["self","other"] (j8 C) jB ju) {f_Ratio:Addr} {fd_Ratio:FuncData} {ds_Ratio:List Value} (cq:KCal P w K mg base 2 C "Ratio" ["self","top","bottom"] (cT C) f_Ratio fd_Ratio ds_Ratio [.int 1]) {f_Number:Addr} {fd_Number:FuncData} {ds_Number:List Value} (IU:KCal P w K mg base 1 CN "Number" ["self","row","low","high"] (kd CN) f_Number fd_Number ds_Number []):FnOk P w K mg base CX0 37 f fd ["simple","low","high"] (sB C CN):=by
 obtain ⟨HF,CO,DH,GR⟩:=Ix
 obtain ⟨dY,dL,dO,dW⟩:=eO
 obtain ⟨lH,kT,kX,lE⟩:=qX
 obtain ⟨qP,oV,qA⟩:=q8
 obtain ⟨jT,i7,jM⟩:=jZ
 obtain ⟨bU,bT,bR,ci,dg,df⟩:=cq
 obtain ⟨HY,Hm,De,G9,Ja,I0⟩:=IU
 refine F.ok sc_number_in (fun vs H Q E h=>?_) (fun cdv A outer s H vs Q E hr h=>?_)
 ·obtain ⟨a,l,h,ns,l1,l2,h1,h2,ε,Up,n1,n2,xss,rfl,_⟩:=h
  rfl
 ·obtain ⟨a,l,h,ns,l1,l2,h1,h2,ε,Up,n1,n2,xss,rfl,hA,hl,hh,hN,k⟩:=h
  refine ⟨_,(af (aj (i:=3) sc_number_in.nd rfl (Or.inl rfl) (al HF (hr.mono) rfl CO DH GR .nil ah (aa (pv 0) (aa (pv 1) (aa (pv 2) ab)))))
   (af (aj (i:=4) sc_number_in.nd rfl (Or.inl rfl) (dG (aa (pv 1) (aa (pv 2) ab))))
   (af (ek PassesOwn.never (aE cI (al dY (hr.mono) rfl dL dO dW .nil ah (aa (pv 3) (aa (aM (cb (K:=K) rfl) (pv 4) ac (fun _ _=>rfl)) ab))) ac (aA _))
     (af (aj (i:=5) sc_number_in.nd rfl (Or.inl rfl) (fc (fc (aM (cb (K:=K) rfl) (pv 4) ac (fun _ _=>rfl)) R.cl oV qP (hr.mono) qA .nil ah (aa (aM (cb (K:=K) rfl) (pv 4) ac (fun _ _=>rfl)) ab)) R.cl i7 jT (hr.mono) jM .nil ah (aa (cD bT bU (hr.mono) rfl bR ci .nil ah (aa ac (aa ac ab))) ab)))
       (ai (aj (i:=4) sc_number_in.nd rfl (Or.inl rfl) (al lH (hr.mono) rfl kT kX lE .nil ah (aa (pv 3) (aa (aM (cb (K:=K) rfl) (pv 4) ac (fun _ _=>rfl)) (aa (aM (cb (K:=K) rfl) (pv 4) ac (fun _ _=>rfl)) (aa (pv 5) ab)))))))))
   (ai (au (cD Hm HY (hr.mono) rfl De G9 .nil ah (aa (pv 3) (aa (aM (cb (K:=K) rfl) (pv 4) ac (fun _ _=>rfl)) (aa (aM (cb (K:=K) rfl) (pv 4) ac (fun _ _=>rfl)) ab))))))))),?_⟩
  have l3:=hN.sr.l3
  refine ap ⟨_,rfl,_,rfl,_,rfl,a,l,h,ns,l1,l2,h1,h2,ε,Up,n1,n2,xss,rfl,hA,hl,hh,hN,fun p H1 s1 hp e1=>?_⟩
  refine ap ⟨_,rfl,_,rfl,by show 2<=sizeLine;decide,fun ps hps=>?_⟩
  have s2:=s1.then_new (o:=.tup [V.ref l,V.ref h]) hps
  have q2:upd H1 ps (.tup [V.ref l,V.ref h]) ps=some (.tup [V.ref l,V.ref h]):=ao
  have e2:=(Same.upd_new (o:=.tup [V.ref l,V.ref h]) hps) _ _ e1
  generalize upd H1 ps (.tup [V.ref l,V.ref h])=H2 at s2 q2 e2 ⊢
  refine ⟨fun m σ' H'=>m=0/\(∃ z5:Option V,σ'=[some (.ref a),some (.ref l),some (.ref h),some (.ref p),some (.ref ps),z5])/\H2=H',⟨0,rfl,⟨none,rfl⟩,rfl⟩,?_⟩
  rintro m σ' H' ⟨rfl,⟨z5,rfl⟩,rfl⟩
  refine ⟨_,rfl,_,rfl,ps,_,_,_,rfl,rfl,SqT.of q2,rfl,p,l,ns,l1,l2,⟨rfl,e2,hl.same s2,by omega,hN.sr.bits.mono,hN.en.bl1.mono,hN.en.bl2.mono⟩,fun H3 s3=>⟨_,_,rfl,rfl,_,rfl,aJ (fun h0=>absurd h0 hN.lo) (fun _=>?_)⟩⟩
  have q3:=s3 _ _ q2
  have e3:=s3 _ _ e2
  have t3:=s2.trans s3
  dsimp only
  refine aU ⟨_,rfl,_,rfl,ps,_,_,_,rfl,rfl,SqT.of q3,rfl,_,rfl,ps,_,_,_,rfl,rfl,SqT.of q3,rfl,Cu e3 fun x q H4 s4 hx hNA hq hqn=>?_⟩
  exact k x q H4 (t3.trans s4) (t3.free hx) hNA hq (t3.free hqn)
def mh (C CN:Addr):Sp:=fun vs H Q _=>∃ (a l h:Addr) (ns:List Int) (l1 l2 h1 h2 ε:Int) (Up:Int->Int->Prop) (n1 n2:Nat) (xss:List (List Int)),vs=[.ref a,.ref l,.ref h]/\H a=some (.lst (ns.map V.int))/\RA C H l l1 l2/\RA C H h h1 h2/\NumS ns l1 l2 h1 h2 ε Up n1 n2 xss/\∀ (x q:Addr) (H':Hp),Same H H'->H x=none->NA CN H' x q l h->H' q=some (.lst (ns.map V.int))->H q=none->Q (.ref x) H'
theorem Bc {C CN f:Addr} {dV:Value} {fd:FuncData} (F:FunD K "number" "number" g8 dV f fd) (T:Txt K mg) (R:RCI K mg C) {Ft:Addr} {EK:FuncData} (Ik:Cal P w K mg base 1 "refuse_high" ["height"] (fun vs H Q _=>∃ i:Int,vs=[.int i]/\i<=8/\Q .non H) Ft EK) {gv:Addr} {gq:FuncData} (gQ:Cal P w K mg base 1 "degree" ["row"] iG gv gq) {f_Ratio:Addr} {fd_Ratio:FuncData} {ds_Ratio:List Value} (cq:KCal P w K mg base 2 C "Ratio" ["self","top","bottom"] (cT C) f_Ratio fd_Ratio ds_Ratio [.int 1]) {qe:Addr} {pT:FuncData} (q5:Cal P w K mg base 1 "bound" ["row"] (mn K) qe pT) {Fi:Addr} {EB:FuncData} (Ia:Cal P w K mg base 36 "without_squares" ["row"] rV Fi EB) {Fy:Addr} {EQ:FuncData} (Iu:Cal P w K mg base 36 "many_within" ["simple","low","high"] (sC C) Fy EQ) {Fu:Addr} {EL:FuncData} (Il:Cal P w K mg base 1 "refuse_great" ["row"] sj Fu EL) {Fw:Addr} {EN:FuncData} (Io:Cal P w K mg base 37 "number_in" ["simple","low","high"] (sB C CN) Fw EN):FnOk P w K mg base CX0 38 f fd ["row","low","high"] (mh C CN):=by
 obtain ⟨Hw,CD,Dy,GI⟩:=Ik
 obtain ⟨dF,dz,dA,dE⟩:=gQ
 obtain ⟨bU,bT,bR,ci,dg,df⟩:=cq
 obtain ⟨lI,kU,kY,lG⟩:=q5
 obtain ⟨Ho,Cv,Dq,GA⟩:=Ia
 obtain ⟨HC,CK,DE,GO⟩:=Iu
 obtain ⟨Hx,CF,Dz,GJ⟩:=Il
 obtain ⟨Hz,CH,DB,GL⟩:=Io
 refine F.ok sc_number (fun vs H Q E h=>?_) (fun cdv A outer s H vs Q E hr h=>?_)
 ·obtain ⟨a,l,h,ns,l1,l2,h1,h2,ε,Up,n1,n2,xss,rfl,_⟩:=h
  rfl
 ·obtain ⟨a,l,h,ns,l1,l2,h1,h2,ε,Up,n1,n2,xss,rfl,hA,hl,hh,hN,k⟩:=h
  have l3:=hN.sr.l3
  have l2':=hN.sr.l2
  have hml:(ns.map V.int).length=ns.length:=List.length_map _
  refine ⟨_,(af (eW (al Hw (hr.mono) rfl CD Dy GI .nil ah (aa (al dF (hr.mono) rfl dz dA dE .nil ah (aa (pv 0) ab)) ab)))
   (af (aV (aE da (al dF (hr.mono) rfl dz dA dE .nil ah (aa (pv 0) ab)) ac (aA _))
     (ai fR)
     aW)
   (af (aj (i:=3) sc_number.nd rfl (Or.inl rfl) (oF (aE uv (pv 1) um (aA _)) (cD bT bU (hr.mono) rfl bR dg df ah (aa (bJ bI (al lI (hr.mono) rfl kU kY lG .nil ah (aa (pv 0) ab))) ab)) (pv 1)))
   (af (aj (i:=4) sc_number.nd rfl (Or.inl rfl) (oF (aE uv (pv 2) um (aA _)) (cD bT bU (hr.mono) rfl bR dg df ah (aa (al lI (hr.mono) rfl kU kY lG .nil ah (aa (pv 0) ab)) ab)) (pv 2)))
   (af (aj (i:=5) sc_number.nd rfl (Or.inl rfl) (al Ho (hr.mono) rfl Cv Dq GA .nil ah (aa (pv 0) ab)))
   (af (aj (i:=6) sc_number.nd rfl (Or.inl rfl) (al HC (hr.mono) rfl CK DE GO .nil ah (aa (pv 5) (aa (pv 3) (aa (pv 4) ab)))))
   (af (aV (aE ig (pv 6) ac (aA _))
     (ai fR)
     aW)
   (af (eW (al Hx (hr.mono) rfl CF Dz GJ .nil ah (aa (pv 5) ab)))
   (ai (au (al Hz (hr.mono) rfl CH DB GL .nil ah (aa (pv 5) (aa (pv 3) (aa (pv 4) ab)))))))))))))),?_⟩
  refine hJ ⟨_,rfl,a,_,rfl,hA,_,rfl,by rw [hml];omega,?_⟩
  refine bC ⟨_,rfl,a,_,rfl,hA,_,_,rfl,rfl,_,rfl,aJ (fun h0=>absurd (show ((ns.map V.int).length:Int)-1<1 from h0) (by rw [hml];omega)) (fun _=>?_)⟩
  refine ap ⟨_,rfl,rfl,_,rfl,?_⟩
  rw [decide_eq_false (by simp)]
  refine c9 ⟨_,rfl,?_⟩
  refine ap ⟨_,rfl,rfl,_,rfl,?_⟩
  rw [decide_eq_false (by simp)]
  refine c9 ⟨_,rfl,?_⟩
  refine ap ⟨_,rfl,a,ns,n1,n2,xss,rfl,hA,hN.sr,fun pw H1 s1 hpw e1=>?_⟩
  refine ap ⟨_,rfl,_,rfl,_,rfl,pw,l,h,ns,n1,n2,xss,l1,l2,h1,h2,rfl,e1,hN.sr,hl.same s1,hh.same s1,hN.en,fun H2 s2=>?_⟩
  rw [hN.one]
  have e2:=s2 _ _ e1
  have t2:=s1.trans s2
  refine bC ⟨_,rfl,_,_,rfl,rfl,_,rfl,cC (fun h=>absurd rfl h) (fun _=>?_)⟩
  refine hJ ⟨_,rfl,pw,ns,rfl,e2,by omega,hN.sr.bits.mono,fun H3 s3=>?_⟩
  have t3:=t2.trans s3
  refine aU ⟨_,rfl,_,rfl,_,rfl,pw,l,h,ns,l1,l2,h1,h2,ε,Up,n1,n2,xss,rfl,s3 _ _ e2,hl.same t3,hh.same t3,hN,fun x q H4 s4 hx hNA hq hqn=>?_⟩
  exact k x q H4 (t3.trans s4) (t3.free hx) hNA hq (t3.free hqn)
theorem Ed (x y c0 c1 c2:Int):hv x y [c0,c1,c2]=(c0*(y*y)+c1*(x*y)+c2*(x*x))*y:=by
 show c0*y^3+x*(c1*y^2+x*(c2*y^1+x*0))=_
 have e2:y^2=y*y:=by rw [Int.pow_succ,Int.pow_succ,Int.pow_zero,Int.one_mul]
 have e3:y^3=y*y*y:=by rw [Int.pow_succ,e2]
 rw [e2,e3,Int.pow_succ,Int.pow_zero,Int.one_mul]
 grind
theorem vU (x y c0 c1:Int):hv x y [c0,c1]=(c0*y+c1*x)*y:=by
 show c0*y^2+x*(c1*y^1+x*0)=_
 have e2:y^2=y*y:=by rw [Int.pow_succ,Int.pow_succ,Int.pow_zero,Int.one_mul]
 rw [e2,Int.pow_succ,Int.pow_zero,Int.one_mul]
 grind
theorem ki (c0 c1 c2:Int):slopeL [c0,c1,c2]=[c1,2*c2]:=by
 show [(((0:Nat):Int)+1)*c1,(((1:Nat):Int)+1)*c2]=_
 simp
theorem rh {a b c:Int} (h:c≠0):Tr [a,b,c]:=(tr_snoc (r:=[a,b])).mpr h
theorem lN {a b:Int} (h:b≠0):Tr [a,b]:=(tr_snoc (r:=[a])).mpr h
theorem xR {l:List Int} (h:l.length=3):∃ a b c,l=[a,b,c]:=by
 match l,h with
 | [a,b,c],_=>exact ⟨a,b,c,rfl⟩
theorem ut {l:List Int} (h:l.length=2):∃ a b,l=[a,b]:=by
 match l,h with
 | [a,b],_=>exact ⟨a,b,rfl⟩
theorem Ao {r0 r1 r2:Int} (h:0<r2):∃ g c0 c1 c2:Int,0<g/\av [r0,r1,r2]=[c0,c1,c2]/\r0=g*c0/\r1=g*c1/\r2=g*c2/\0<c2/\Pln [c0,c1,c2]:=by
 have ht:Tr [r0,r1,r2]:=rh (by omega)
 have hp:=eY ht (by simp)
 obtain ⟨g,_,hg⟩:=eZ ht
 obtain ⟨c0,c1,c2,e⟩:=xR (l:=av [r0,r1,r2]) (by rw [RM.plain_len];rfl)
 rw [e] at hg hp
 have e2:r2=g*c2:=hg 2
 have cp:0<c2:=hp.pos
 have gp:0<g:=by
  refine Classical.byContradiction fun z=>?_
  have:=Int.mul_nonpos_of_nonpos_of_nonneg (show g<=0 by omega) (Int.le_of_lt cp)
  omega
 exact ⟨g,c0,c1,c2,gp,e,hg 0,hg 1,e2,cp,hp⟩
theorem ui {r0 r1:Int} (h:0<r1):∃ g c0 c1:Int,0<g/\av [r0,r1]=[c0,c1]/\r0=g*c0/\r1=g*c1/\0<c1/\Pln [c0,c1]:=by
 have ht:Tr [r0,r1]:=lN (by omega)
 have hp:=eY ht (by simp)
 obtain ⟨g,_,hg⟩:=eZ ht
 obtain ⟨c0,c1,e⟩:=ut (l:=av [r0,r1]) (by rw [RM.plain_len];rfl)
 rw [e] at hg hp
 have e2:r1=g*c1:=hg 1
 have cp:0<c1:=hp.pos
 have gp:0<g:=by
  refine Classical.byContradiction fun z=>?_
  have:=Int.mul_nonpos_of_nonpos_of_nonneg (show g<=0 by omega) (Int.le_of_lt cp)
  omega
 exact ⟨g,c0,c1,gp,e,hg 0,e2,cp,hp⟩
theorem ge {g c r:Int} {k:Nat} (hg:0<g) (e:r=g*c) (h:Bits k r):Bits k c:=h.of_le (by
 rw [e,Int.natAbs_mul]
 exact Nat.le_mul_of_pos_left _ (by omega))
theorem D6 (a c:Int):a*a*c=a*c*a:=by grind
theorem D5 (a0 a1 c1 c2:Int):a1*a1*c1-a1*c2*a0=(a1*c1-c2*a0)*a1:=by grind
theorem D4 (a0 a1 c0 c1 c2 G:Int):(a1*a1*c0-(a1*c1-c2*a0)*a0)*(G*G)=(G*a1)*(G*a1)*c0-(G*a1)*c1*(G*a0)+c2*(G*a0)*(G*a0):=by grind
theorem D3 (c0 c1 c2:Int):(2*c2)*(2*c2)*c0-(2*c2)*c1*c1+c2*c1*c1=c2*(4*c0*c2-c1*c1):=by grind
theorem zC {c0 c1 c2 a0 a1 G:Int} (hc:0<c2) (ha:0<a1) (hG:0<G) (e0:c1=G*a0) (e1:2*c2=G*a1) (hD:4*c0*c2<c1*c1):∃ ρ:Int,ρ<0/\aB [c0,c1,c2] [a0,a1]=[ρ]:=by
 have hb:([a0,a1]:List Int)≠[]:=by simp
 have hF:bB [c0,c1,c2] [a0,a1]=(a1.natAbs:Int)^2:=rfl
 have ha':(a1.natAbs:Int)=a1:=by omega
 have hF2:bB [c0,c1,c2] [a0,a1]=a1*a1:=by rw [hF,ha',Int.pow_succ,Int.pow_succ,Int.pow_zero,Int.one_mul]
 have hlq:(bE [c0,c1,c2] [a0,a1]).length=2:=lw hb
 have hlr:=eM (a:=[c0,c1,c2]) hb
 have heq:=fw (a:=[c0,c1,c2]) hb
 obtain ⟨q0,q1,eq⟩:=ut hlq
 rw [hF2,eq] at heq
 have m0:aw [q0,q1] [a0,a1] 0=q0*a0:=by show sm [q0,q1] [a0,a1] 0 2=_;rw [iI];simp [cf]
 have m1:aw [q0,q1] [a0,a1] 1=q1*a0+q0*a1:=by show sm [q0,q1] [a0,a1] 1 2=_;rw [iI];simp [cf]
 have m2:aw [q0,q1] [a0,a1] 2=q1*a1:=by show sm [q0,q1] [a0,a1] 2 2=_;rw [iI];simp [cf]
 have f0:=heq 0
 have f1:=heq 1
 have f2:=heq 2
 rw [m0] at f0
 rw [m1] at f1
 rw [m2] at f2
 have r1:cf (aB [c0,c1,c2] [a0,a1]) 1=0:=bH (by have:(aB [c0,c1,c2] [a0,a1]).length<2:=hlr;omega)
 have r2:cf (aB [c0,c1,c2] [a0,a1]) 2=0:=bH (by have:(aB [c0,c1,c2] [a0,a1]).length<2:=hlr;omega)
 rw [r1] at f1
 rw [r2] at f2
 have f0':a1*a1*c0=q0*a0+cf (aB [c0,c1,c2] [a0,a1]) 0:=f0
 have f1':a1*a1*c1=q1*a0+q0*a1:=by have:a1*a1*c1=q1*a0+q0*a1+0:=f1;omega
 have f2':a1*a1*c2=q1*a1:=by have:a1*a1*c2=q1*a1+0:=f2;omega
 have neg:cf (aB [c0,c1,c2] [a0,a1]) 0<0:=by
  generalize cf (aB [c0,c1,c2] [a0,a1]) 0=ρ at f0'
  have q1e:q1=a1*c2:=cancel ha (by rw [<- f2'];exact D6 _ _)
  have q0e:q0=a1*c1-c2*a0:=cancel ha (by
   have:q0*a1=a1*a1*c1-q1*a0:=by omega
   rw [this,q1e];exact D5 _ _ _ _)
  have ρe:ρ=a1*a1*c0-(a1*c1-c2*a0)*a0:=by rw [<- q0e];omega
  have key:ρ*(G*G)=c2*(4*c0*c2-c1*c1):=by
   calc ρ*(G*G)=(G*a1)*(G*a1)*c0-(G*a1)*c1*(G*a0)+c2*(G*a0)*(G*a0):=by rw [ρe];exact D4 _ _ _ _ _ _
    _=(2*c2)*(2*c2)*c0-(2*c2)*c1*c1+c2*c1*c1:=by rw [<- e0,<- e1]
    _=c2*(4*c0*c2-c1*c1):=D3 _ _ _
  have h3:ρ*(G*G)<0:=by rw [key];exact Int.mul_neg_of_pos_of_neg hc (by omega)
  exact fE (Int.mul_pos hG hG) (by rw [Int.zero_mul];exact h3)
 have hT:=dR [c0,c1,c2] [a0,a1]
 match hd:aB [c0,c1,c2] [a0,a1] with
 | []=>rw [hd] at neg;exact absurd neg (by show ¬ (0:Int)<0;decide)
 | [ρ]=>rw [hd] at neg;exact ⟨ρ,neg,rfl⟩
 | _::_::_=>rw [hd] at hlr;exact absurd hlr (by simp)
theorem Aq {ρ:Int} (h:ρ<0):av [ρ]=[1]/\ak (bM [] [ρ])=[1]:=by
 constructor
 ·refine Pln.const (eY ((tr_snoc (r:=[])).mpr (by omega)) (by simp)) (by rw [RM.plain_len];rfl)
 ·have e:bM [] [ρ]=[-ρ]:=by
   refine gw (di _) ((tr_snoc (r:=[])).mpr (by omega)) fun k=>?_
   unfold bM
   rw [dU,fC,b7]
   rcases k with _ | k
   ·show 0 + -1*ρ = -ρ
    omega
   ·show 0 + -1*cf [] k=cf [] k
    rw [b7];rfl
  rw [e,tu (by omega)]
  have:sg (-ρ)=1:=eR (by omega)
  rw [this]
theorem fF {k:Nat} (h:1<=k):AllB k ([1]:List Int):=fun x hx=>by rw [List.mem_singleton.mp hx];exact b1k h
theorem gS:Tr ([1]:List Int):=(tr_snoc (r:=[])).mpr (by decide)
theorem yj {c0 c1 c2:Int} (hP:Pln [c0,c1,c2]) (hb:AllB 250 [c0,c1,c2]) (hD:4*c0*c2<c1*c1) (irr:∀ t b,0<b->hv t b [c0,c1,c2]≠0):∃ a0 a1 G:Int,0<G/\c1=G*a0/\2*c2=G*a1/\0<a1/\SR [c0,c1,c2] 2 3 [[c0,c1,c2],[a0,a1],[1]]:=by
 have hc:0<c2:=hP.pos
 obtain ⟨G,a0,a1,hG,ep,e0,e1,ha,hPa⟩:=ui (r0:=c1) (r1:=2*c2) (by omega)
 have es:ak [c1,2*c2]=[a0,a1]:=by
  have h1:av [c1,2*c2]=ak [c1,2*c2]:=by
   unfold av b9
   have hl:0<aN (ak [c1,2*c2]):=by
    have h2:=iL (l:=[c1,2*c2])
    have h3:=congrArg (fun l=>cf l 1) h2
    have h4:(ar [c1,2*c2]:Int)*cf (ak [c1,2*c2]) 1=2*c2:=by
     have h5:cf (scL (ar [c1,2*c2]:Int) (ak [c1,2*c2])) 1=(ar [c1,2*c2]:Int)*cf (ak [c1,2*c2]) 1:=aX _ _ _
     rw [<- h5];exact h3
    have h6:aN (ak [c1,2*c2])=cf (ak [c1,2*c2]) 1:=by
     unfold aN
     have:(ak [c1,2*c2]).length=2:=by unfold ak;simp
     rw [this]
    rw [h6]
    refine Classical.byContradiction fun z=>?_
    have:=Int.mul_nonpos_of_nonneg_of_nonpos (show (0:Int)<=(ar [c1,2*c2]:Int) by omega) (show cf (ak [c1,2*c2]) 1<=0 by omega)
    omega
   rw [if_neg (by omega)]
  rw [<- h1];exact ep
 obtain ⟨ρ,hρ,er⟩:=zC hc ha hG e0 e1 hD
 obtain ⟨pn,sn⟩:=Aq hρ
 have hTa:Tr [a0,a1]:=lN (by omega)
 have b0:Bits 252 c1:=(hb c1 (by simp)).mono
 have b2:Bits 252 (2*c2):=by
  have:Bits 2 (2:Int):=by show (2:Int).natAbs<2^2;decide
  exact this.mul (hb c2 (by simp))
 have ba:AllB 252 [a0,a1]:=fun x hx=>by
  simp only [List.mem_cons,List.not_mem_nil,or_false] at hx
  rcases hx with rfl | rfl
  ·exact ge hG e0 b0
  ·exact ge hG e1 b2
 have dn:aB [a0,a1] [1]=[]:=lx (by simp) rfl
 refine ⟨a0,a1,G,hG,e0,e1,ha,hP,by show 2<=3;decide,by show 3<=3;decide,hb,?_,?_,by decide,?_,?_,?_,by show 3<=1000000;decide,fun _=>irr⟩
 ·rw [ki,ep]
  refine .inr ⟨⟨hP.tr,hTa,252,hb.mono,ba,by show (3+2)*(252+1)<=1000000;decide,by show 2<=1000000;decide⟩,?_⟩
  rw [er,pn]
  refine .inr ⟨⟨hTa,gS,252,ba,fF (by decide),by show (2+2)*(252+1)<=1000000;decide,by show 1<=1000000;decide⟩,?_⟩
  rw [dn];rfl
 ·rw [ki,ep,qo (by simp),er,pn,qo (by simp),dn]
  rfl
 ·rw [ki,es]
  have n1:nxt [c0,c1,c2] [a0,a1]=[1]:=by
   show ak (bM [] (rst [c0,c1,c2] [a0,a1]))=[1]
   have:rst [c0,c1,c2] [a0,a1]=[ρ]:=by
    unfold rst
    rw [if_neg (by simp)];exact er
   rw [this];exact sn
  refine .inr ⟨⟨hP.tr,hTa,252,hb.mono,ba,by show (3+2)*(252+1)<=1000000;decide,by show 2<=1000000;decide⟩,?_⟩
  rw [n1]
  refine .inr ⟨⟨hTa,gS,252,ba,fF (by decide),by show (2+2)*(252+1)<=1000000;decide,by show 1<=1000000;decide⟩,?_⟩
  rw [kG (by simp) rfl]
  exact .inr ⟨⟨gS,lP,252,fF (by decide),AllB.nil,by show (1+2)*(252+1)<=1000000;decide,Nat.zero_le _⟩,rfl⟩
 ·rw [ki,es]
  have n1:nxt [c0,c1,c2] [a0,a1]=[1]:=by
   show ak (bM [] (rst [c0,c1,c2] [a0,a1]))=[1]
   have:rst [c0,c1,c2] [a0,a1]=[ρ]:=by
    unfold rst
    rw [if_neg (by simp)];exact er
   rw [this];exact sn
  show (if ([c0,c1,c2]:List Int)=[] then [] else [c0,c1,c2]::aL 2 [a0,a1] (nxt [c0,c1,c2] [a0,a1]))=_
  rw [if_neg (by simp),n1]
  show [c0,c1,c2]::(if ([a0,a1]:List Int)=[] then [] else [a0,a1]::aL 1 [1] (nxt [a0,a1] [1]))=_
  rw [if_neg (by simp),kG (by simp) rfl]
  rfl
 ·intro xs hx
  simp only [List.mem_cons,List.not_mem_nil,or_false] at hx
  rcases hx with rfl | rfl | rfl
  ·exact ⟨by show 3<=20;decide,hb.mono⟩
  ·exact ⟨by show 2<=20;decide,ba.mono⟩
  ·exact ⟨by show 1<=20;decide,fF (by decide)⟩
theorem yk {c0 c1:Int} (hP:Pln [c0,c1]) (hb:AllB 250 [c0,c1]):SR [c0,c1] 1 2 [[c0,c1],[1]]:=by
 have hc:0<c1:=hP.pos
 have sl:slopeL [c0,c1]=[c1]:=by show [(((0:Nat):Int)+1)*c1]=[c1];simp
 have p1:av [c1]=[1]:=Pln.const (eY ((tr_snoc (r:=[])).mpr (by omega)) (by simp)) (by rw [RM.plain_len];rfl)
 have s1:ak [c1]=[1]:=by rw [tu (by omega),eR hc]
 have dn:aB [c0,c1] [1]=[]:=lx (by simp) rfl
 refine ⟨hP,by show 2<=2;decide,by show 2<=3;decide,hb,?_,?_,by decide,?_,?_,?_,by show 2<=1000000;decide,fun h=>absurd (show 2=3 from h) (by decide)⟩
 ·rw [sl,p1]
  refine .inr ⟨⟨hP.tr,gS,250,hb,fF (by decide),by show (2+2)*(250+1)<=1000000;decide,by show 1<=1000000;decide⟩,?_⟩
  rw [dn];rfl
 ·rw [sl,p1,qo (by simp),dn]
  rfl
 ·rw [sl,s1]
  refine .inr ⟨⟨hP.tr,gS,250,hb,fF (by decide),by show (2+2)*(250+1)<=1000000;decide,by show 1<=1000000;decide⟩,?_⟩
  rw [kG (by simp) rfl]
  exact .inr ⟨⟨gS,lP,250,fF (by decide),AllB.nil,by show (1+2)*(250+1)<=1000000;decide,Nat.zero_le _⟩,rfl⟩
 ·rw [sl,s1]
  show (if ([c0,c1]:List Int)=[] then [] else [c0,c1]::aL 1 [1] (nxt [c0,c1] [1]))=_
  rw [if_neg (by simp),kG (by simp) rfl]
  rfl
 ·intro xs hx
  simp only [List.mem_cons,List.not_mem_nil,or_false] at hx
  rcases hx with rfl | rfl
  ·exact ⟨by show 2<=20;decide,hb.mono⟩
  ·exact ⟨by show 1<=20;decide,fF (by decide)⟩
theorem BL {f:Addr} {fd:FuncData} (F:Fun K "_law_cell_at" "_law_cell_at" nV f fd) (T:Txt K mg):FnOk P w K mg base CX0 1 f fd ["_law_script","_law_k"] (fM K):=by
 refine F.ok zf (fun vs H Q E h=>?_) (fun cdv A outer s H vs Q E hr h=>?_)
 ·obtain ⟨a,ns,k,rfl,_⟩:=h
  rfl
 ·obtain ⟨a,ns,n,rfl,hS,k⟩:=h
  refine ⟨_,(af (aV (aE da (pv 1) (bA (cE (K:=K) rfl) (by rfl) T.len_ PySem.boot_len (aa (pv 0) ab)) (aA _))
   (ai (au (aM (bY (K:=K) rfl) (pv 0) (pv 1) (fun _ _=>rfl))))
   aW)
   (ai (au ac))),?_⟩
  refine ⟨_,rfl,_,rfl,a,_,rfl,.inl hS,_,_,rfl,rfl,_,rfl,?_⟩
  refine aJ (fun h1=>?_) (fun h1=>?_)
  ·rw [List.length_map] at h1
   have h2:n<ns.length:=by omega
   refine ⟨_,rfl,_,rfl,a,_,_,_,rfl,rfl,hS,iu (v:=.int (ns.getD n 0)) ?_,k⟩
   rw [List.getElem?_map,List.getElem?_eq_getElem h2]
   simp [List.getD,h2]
  ·rw [List.length_map] at h1
   have h2:ns.length<=n:=by omega
   have e:ns.getD n 0=0:=by simp [List.getD,List.getElem?_eq_none_iff.mpr h2]
   rw [e] at k
   exact k
def rX:Sp:=fun vs H Q _=>∃ i:Int,vs=[.int i]/\Q (.bl true) H
theorem BC {f:Addr} {fd:FuncData} (F:Fun K "_law_whole" "_law_whole" nJ f fd) (T:Txt K mg):FnOk P w K mg base CX0 1 f fd ["_law_found"] rX:=by
 refine F.ok zd (fun vs H Q E h=>?_) (fun cdv A outer s H vs Q E hr h=>?_)
 ·obtain ⟨i,rfl,_⟩:=h
  rfl
 ·obtain ⟨i,rfl,k⟩:=h
  refine ⟨_,(ai (au (oG (bA (wO (K:=K) rfl) (by rfl) T.isinstance_ PyProof.Rows.boot_isinstance (aa (pv 0) (aa (uq (v:=.ty "int") (by rfl) T.int_ PyProof.Rows.boot_int (by rfl)) ab))) (oE (Az (bA (wO (K:=K) rfl) (by rfl) T.isinstance_ PyProof.Rows.boot_isinstance (aa (pv 0) (aa (uq (v:=.ty "bool") (by rfl) T.bool_ PyProof.Rows.boot_bool (by rfl)) ab)))))))),?_⟩
  refine aU (om (tR ⟨_,rfl,vH (.int i) (k:=true) (by rfl) ⟨_,rfl,oj ?_⟩⟩))
  refine zE (tR ⟨_,rfl,vH (.int i) (k:=false) (by rfl) ⟨_,rfl,?_⟩⟩)
  exact k
def WT (H:Hp) (p:Addr) (u v w d:Int):Prop:=H p=some (.tup [.int u,.int v,.int w,.int d])
structure WOk (u v w d:Int):Prop where
 bu:Bits 21 u
 bv:Bits 21 v
 w1:0<w
 w12:w<=12
 d2:2<=d
 d13:d<=13
 ns:NSq d
theorem WOk.bw {u v w d:Int} (h:WOk u v w d):Bits 4 w:=by show w.natAbs<2^4;have:=h.w1;have:=h.w12;omega
theorem WOk.bd {u v w d:Int} (h:WOk u v w d):Bits 4 d:=by show d.natAbs<2^4;have:=h.d2;have:=h.d13;omega
def se:Sp:=fun vs H Q _=>∃ u v d:Int,vs=[.int u,.int v,.int d]/\Bits 100000 u/\Bits 100000 v/\Bits 10 d/\Q (.int (sgq u v d)) H
theorem BF {f:Addr} {fd:FuncData} (F:Fun K "_law_sign" "_law_sign" nN f fd) (T:Txt K mg):FnOk P w K mg base CX0 1 f fd ["_law_u","_law_v","_law_d"] se:=by
 refine F.ok ze (fun vs H Q E h=>?_) (fun cdv A outer s H vs Q E hr h=>?_)
 ·obtain ⟨u,v,d,rfl,_⟩:=h
  rfl
 ·obtain ⟨u,v,d,rfl,bu,bv,bd,k⟩:=h
  refine ⟨_,(af (aV (PW.pt (ee (aE kF (pv 0) ac (aA _)) (d9 (aE kF (pv 1) ac (aA _)))))
   (ai (au (fe lD (by rfl) T.int_ PyProof.Rows.boot_int (aa (Ay (eo dk (pv 0) ac (aA _)) (oE (eo dk (pv 1) ac (aA _)))) ab))))
   aW)
   (af (aV (PW.pt (ee (aE uu (pv 0) ac (aA _)) (d9 (aE uu (pv 1) ac (aA _)))))
     (ai (au (bJ bI ac)))
     aW)
   (af (aV (aE dk (pv 0) ac (aA _))
     (ai (au (ag bK ac (ag aD ac (fe lD (by rfl) T.int_ PyProof.Rows.boot_int (aa (eo da (ag aD (pv 0) (pv 0)) (ag aD (ag aD (pv 2) (pv 1)) (pv 1)) (aA _)) ab))))))
     aW)
   (ai (au (ag bK ac (ag aD ac (fe lD (by rfl) T.int_ PyProof.Rows.boot_int (aa (eo dk (ag aD (pv 0) (pv 0)) (ag aD (ag aD (pv 2) (pv 1)) (pv 1)) (aA _)) ab))))))))),?_⟩
  have bdv:Bits 100010 (d*v):=(bd.mul bv).mono
  by_cases h1:0<=u/\0<=v
  ·refine bC (cW ⟨_,rfl,_,_,rfl,rfl,_,rfl,aJ (fun _=>?_) (fun z=>absurd (show u≥0 from h1.1) z)⟩)
   refine ⟨_,rfl,_,_,rfl,rfl,_,rfl,aJ (fun _=>?_) (fun z=>absurd (show v≥0 from h1.2) z)⟩
   refine aU (zD ⟨_,rfl,_,_,rfl,rfl,_,rfl,?_⟩)
   unfold sgq at k
   rw [if_pos h1] at k
   by_cases h2:0<u
   ·rw [decide_eq_true (show u>0 from h2)]
    refine oj (.inr ⟨_,rfl,?_⟩)
    rw [if_pos (.inl h2)] at k
    exact k
   ·rw [decide_eq_false (show ¬ u>0 from h2)]
    refine c9 ⟨_,rfl,_,_,rfl,rfl,.inr ⟨_,rfl,?_⟩⟩
    by_cases h3:0<v
    ·rw [if_pos (.inr h3)] at k
     rw [decide_eq_true (show v>0 from h3)]
     exact k
    ·rw [if_neg (by omega)] at k
     rw [decide_eq_false (show ¬ v>0 from h3)]
     exact k
  unfold sgq at k
  rw [if_neg h1] at k
  have go:∀ {A B:Prop},B->(if (decide (u≥0))=true then (if (decide (v≥0))=true then A else B) else B):=fun {A B} b=>by
   by_cases a1:u≥0
   ·rw [if_pos (decide_eq_true a1),if_neg (by rw [decide_eq_false (fun z=>h1 ⟨a1,z⟩)];decide)];exact b
   ·rw [if_neg (by rw [decide_eq_false a1];decide)];exact b
  refine bC (cW ⟨_,rfl,_,_,rfl,rfl,_,rfl,aJ (fun a1=>?_) (fun a1=>?_)⟩)
  ·refine ⟨_,rfl,_,_,rfl,rfl,_,rfl,aJ (fun a2=>absurd ⟨a1,a2⟩ h1) (fun _=>?_)⟩
   by_cases h2:u<=0/\v<=0
   ·rw [if_pos h2] at k
    refine bC (cW ⟨_,rfl,_,_,rfl,rfl,_,rfl,aJ (fun _=>?_) (fun z=>absurd h2.1 z)⟩)
    refine ⟨_,rfl,_,_,rfl,rfl,_,rfl,aJ (fun _=>?_) (fun z=>absurd h2.2 z)⟩
    exact aU ⟨_,rfl,k⟩
   rw [if_neg h2] at k
   have a1':0<=u:=a1
   have up:0<u:=by omega
   rw [if_pos up] at k
   refine bC (cW ⟨_,rfl,_,_,rfl,rfl,_,rfl,aJ (fun z=>absurd (show u<=0 from z) (by omega)) (fun _=>c9 ?_)⟩)
   refine bC ⟨_,rfl,_,_,rfl,rfl,_,rfl,aJ (fun _=>?_) (fun z=>absurd (show u>0 from up) z)⟩
   refine aU ⟨_,rfl,_,rfl,_,_,rfl,rfl,⟨bu.mono,bu.mono⟩,_,rfl,_,rfl,_,_,rfl,rfl,⟨bd.mono,bv.mono⟩,_,rfl,_,_,rfl,rfl,⟨bdv.mono,bv.mono⟩,_,_,rfl,rfl,.inr ⟨_,rfl,?_⟩⟩
   by_cases h3:u*u<d*v*v
   ·rw [if_pos h3] at k
    rw [decide_eq_true h3]
    exact ⟨_,_,rfl,rfl,⟨d6,oK⟩,_,_,rfl,rfl,k⟩
   ·rw [if_neg h3] at k
    rw [decide_eq_false h3]
    exact ⟨_,_,rfl,rfl,⟨d6,Bits.zero⟩,_,_,rfl,rfl,k⟩
  ·have a1':¬ 0<=u:=a1
   refine c9 ?_
   by_cases h2:u<=0/\v<=0
   ·rw [if_pos h2] at k
    refine bC (cW ⟨_,rfl,_,_,rfl,rfl,_,rfl,aJ (fun _=>?_) (fun z=>absurd h2.1 z)⟩)
    refine ⟨_,rfl,_,_,rfl,rfl,_,rfl,aJ (fun _=>?_) (fun z=>absurd h2.2 z)⟩
    exact aU ⟨_,rfl,k⟩
   rw [if_neg h2,if_neg (by omega)] at k
   refine bC (cW ⟨_,rfl,_,_,rfl,rfl,_,rfl,aJ (fun _=>?_) (fun z=>absurd (show u<=0 by omega) z)⟩)
   refine ⟨_,rfl,_,_,rfl,rfl,_,rfl,aJ (fun z=>absurd (show v<=0 from z) (by omega)) (fun _=>?_)⟩
   refine bC ⟨_,rfl,_,_,rfl,rfl,_,rfl,aJ (fun z=>absurd (show u>0 from z) (by omega)) (fun _=>?_)⟩
   refine aU ⟨_,rfl,_,rfl,_,_,rfl,rfl,⟨bu.mono,bu.mono⟩,_,rfl,_,rfl,_,_,rfl,rfl,⟨bd.mono,bv.mono⟩,_,rfl,_,_,rfl,rfl,⟨bdv.mono,bv.mono⟩,_,_,rfl,rfl,.inr ⟨_,rfl,?_⟩⟩
   by_cases h3:u*u>d*v*v
   ·rw [if_pos h3] at k
    rw [decide_eq_true h3]
    exact ⟨_,_,rfl,rfl,⟨d6,oK⟩,_,_,rfl,rfl,k⟩
   ·rw [if_neg h3] at k
    rw [decide_eq_false h3]
    exact ⟨_,_,rfl,rfl,⟨d6,Bits.zero⟩,_,_,rfl,rfl,k⟩
def sN:Sp:=fun vs H Q _=>∃ x y:Int,vs=[.int x,.int y]/\0<=x/\0<=y/\Q (.int (Nat.gcd x.natAbs y.natAbs:Nat)) H
theorem BK {f:Addr} {fd:FuncData} (F:Fun K "_law_divisor" "_law_divisor" nU f fd) (T:Txt K mg):FnOk P w K mg base CX0 1 f fd ["_law_one","_law_other_here"] sN:=by
 refine F.ok sc__law_divisor (fun vs H Q E h=>?_) (fun cdv A outer s H vs Q E hr h=>?_)
 ·obtain ⟨a,b,rfl,_⟩:=h
  rfl
 ·obtain ⟨a,b,rfl,ha,h0,k⟩:=h
  refine ⟨_,(af (ek PassesOwn.never (aE ig (pv 1) ac (aA _))
   (af (aj (i:=2) sc__law_divisor.nd rfl (Or.inl rfl) (ag cM (pv 0) (pv 1)))
     (af (aj (i:=0) sc__law_divisor.nd rfl (Or.inl rfl) (pv 1))
     (ai (aj (i:=1) sc__law_divisor.nd rfl (Or.inl rfl) (pv 2))))))
   (ai (au (pv 0)))),?_⟩
  refine ⟨fun m σ' H'=>∃ (x y:Int) (z:Option V),σ'=[some (.int x),some (.int y),z]/\H=H'/\0<=x/\0<=y/\y.natAbs=m/\Nat.gcd x.natAbs y.natAbs=Nat.gcd a.natAbs b.natAbs,⟨_,_,_,none,rfl,rfl,ha,h0,rfl,rfl⟩,?_⟩
  rintro m σ' H' ⟨x,y,z,rfl,rfl,hx,hy,rfl,hg⟩
  refine ⟨_,rfl,_,_,rfl,rfl,_,rfl,?_⟩
  refine cC (fun hn=>?_) (fun h0=>?_)
  ·have hp:0<y:=by have:y≠0:=hn;omega
   refine ⟨fun σ'' H''=>∃ m',m'<y.natAbs/\∃ (x' y':Int) (z:Option V),σ''=[some (.int x'),some (.int y'),z]/\H=H''/\0<=x'/\0<=y'/\y'.natAbs=m'/\Nat.gcd x'.natAbs y'.natAbs=Nat.gcd a.natAbs b.natAbs,fun _ _ h=>h,?_⟩
   refine ⟨_,rfl,_,rfl,_,_,rfl,rfl,hp,?_⟩
   refine ⟨_,rfl,?_⟩
   refine ⟨_,rfl,?_⟩
   have h1:=Int.emod_nonneg x (Int.ne_of_gt hp)
   have h2:=Int.emod_lt_of_pos x hp
   exact ⟨(x%y).natAbs,by omega,y,x%y,_,rfl,rfl,hy,h1,rfl,by rw [v4 hx hp];exact hg⟩
  ·have e:(y:Int)=0:=h0
   subst e
   refine ⟨_,rfl,?_⟩
   have e2:(x:Int)=((Nat.gcd a.natAbs b.natAbs:Nat):Int):=by
    rw [<- hg]
    show x=((Nat.gcd x.natAbs 0:Nat):Int)
    rw [Nat.gcd_zero_right];omega
   rw [e2]
   exact k
def sv:Sp:=fun vs H Q _=>∃ (a:Addr) (ns:List Int),vs=[.ref a]/\H a=some (.lst (ns.map V.int))/\Tr ns/\ns≠[]/\0<aN ns/\ns.length<=100/\AllB 8000 ns/\mkL H Q (av ns)
theorem oA {ns:List Int} (hT:Tr ns) (hne:ns≠[]) (hp:0<aN ns):0<(ar ns:Int)/\av ns=ak ns:=by
 have hs:=iL (l:=ns)
 have hlast:aN ns=(ar ns:Int)*aN (ak ns):=by
  have h5:cf (scL (ar ns:Int) (ak ns)) (ns.length-1)=(ar ns:Int)*cf (ak ns) (ns.length-1):=aX _ _ _
  rw [hs] at h5
  have h6:(ak ns).length=ns.length:=List.length_map _
  unfold aN
  rw [h6];exact h5
 have g0:(0:Int)<=(ar ns:Int):=by omega
 have gp:0<(ar ns:Int):=by
  refine Classical.byContradiction fun z=>?_
  have:(ar ns:Int)=0:=by omega
  rw [this,Int.zero_mul] at hlast
  omega
 refine ⟨gp,?_⟩
 unfold av b9
 rw [if_neg (fun z=>?_)]
 have:=Int.mul_neg_of_pos_of_neg gp z
 omega
theorem BH {f:Addr} {fd:FuncData} (F:Fun K "_law_plain" "_law_plain" nQ f fd) (T:Txt K mg) {FU:Addr} {Fd:FuncData} (IQ:Cal P w K mg base 1 "_law_divisor" ["_law_one","_law_other_here"] sN FU Fd):FnOk P w K mg base CX0 2 f fd ["_law_row"] sv:=by
 obtain ⟨HV,Dd,DV,G6⟩:=IQ
 refine F.ok sc__law_plain (fun vs H Q E h=>?_) (fun cdv A outer s H vs Q E hr h=>?_)
 ·obtain ⟨a,ns,rfl,_⟩:=h
  rfl
 ·obtain ⟨a,ns,rfl,hA,hT,hne,hp,hl,hb,k⟩:=h
  have big:=sizeLine_eq
  have hS:=SqL.of (K:=K) hA
  refine ⟨_,(af (aj (i:=1) sc__law_plain.nd rfl (Or.inr rfl) ac)
   (af (cv PassesOwn.never rfl (dj (K:=K) rfl (pv 0)) (aQ (i:=2) sc__law_plain.nd rfl (Or.inl rfl))
     (ai (aj (i:=1) sc__law_plain.nd rfl (Or.inr rfl) (al HV (hr.mono) rfl Dd DV G6 .nil ah (aa (pv 1) (aa (bA gE (by rfl) T.abs_ PyProof.Rows.boot_abs (aa (pv 2) ab)) ab))))))
   (af (aV (aE da (aM (bY (K:=K) rfl) (pv 0) (bJ bI ac) (fun _ _=>rfl)) ac (aA _))
     (ai (aj (i:=1) sc__law_plain.nd rfl (Or.inr rfl) (bJ bI (pv 1))))
     aW)
   (ai (au (dH (own:=["_law_one"]) (fr:=["_law_by"]) (js:=[1]) (by walk_at "comp_ok") rfl (dj (K:=K) rfl (pv 0)) (fun _ _ _ _=>(aQ (i:=0) (show List.Nodup (["_law_one","_law_by"]:List Str) from by decide +kernel) rfl (Or.inl rfl))) (fun _ _ _ _=>(ag dm (pv 0) (pv 1))))))))),?_⟩
  refine ap ?_
  refine ⟨_,rfl,a,rfl,⟨_,hS⟩,pG (K:=K) (a:=a) (xs:=ns.map V.int) (fun i σ' H'=>∃ z:Option V,σ'=[some (.ref a),some (.int (ar (ns.take i):Nat)),z]/\H=H') ⟨none,rfl,rfl⟩ (fun i σ' H' _ ⟨z,_,e⟩=>by rw [<- e];exact hS) ?_ ?_⟩
  ·rintro i y σ' H' hi ⟨z,rfl,rfl⟩
   obtain ⟨n,en,rfl,_,_⟩:=fu hi
   refine cV ⟨_,rfl,_,rfl,_,rfl,_,_,rfl,by omega,by split<;>omega,?_⟩
   have e3:ns.take (i+1)=ns.take i++[n]:=by rw [List.take_add_one,en];rfl
   refine ⟨some (.int n),?_,rfl⟩
   have e4:(if n<0 then -n else n).natAbs=n.natAbs:=by split<;>omega
   rw [e3,v5,Int.natAbs_natCast,e4]
   rfl
  ·rintro σ' H' ⟨z,rfl,rfl⟩
   rw [List.length_map,List.take_length]
   dsimp only
   obtain ⟨gp,ep⟩:=oA hT hne hp
   refine bC ⟨_,rfl,_,rfl,a,_,_,_,rfl,rfl,hS,kW hne,_,_,rfl,rfl,_,rfl,aJ (fun z=>absurd (show aN ns<0 from z) (by omega)) (fun _=>?_)⟩
   have bg:Bits 9000 (ar ns:Int):=by
    obtain ⟨x,hx,hx0⟩:∃ x∈ns,x≠0:=by
     obtain ⟨r,x,e⟩:=(ck ns).resolve_left hne
     refine ⟨x,by rw [e];simp,fun z=>?_⟩
     rw [e,cN,z] at hp;exact absurd hp (by decide)
    have hd:=ga hx
    exact ((hb x hx).mono (show 8000<=9000 by decide)).of_le (Nat.le_of_dvd (by omega) (Int.natAbs_dvd_natAbs.mpr hd))
   refine aU ⟨_,rfl,a,rfl,⟨_,hS⟩,gC (K:=K) (a:=a) (xs:=ns.map V.int) (fun i ys σ' H'=>∃ z0:Option V,σ'=[z0,some (.int (ar ns:Nat))]/\ys=((ns.take i).map fun x=>x/(ar ns:Int)).map V.int/\H=H') (by rw [List.length_map];omega) ⟨none,rfl,rfl,rfl⟩ ?_ ?_ ?_⟩
   ·rintro i ys σ' H' _ ⟨z0,rfl,rfl,rfl⟩
    exact ⟨hS,by rw [List.length_map,List.length_map,List.length_take];exact Nat.min_le_left _ _⟩
   ·rintro i x ys σ' H' hi ⟨z0,rfl,rfl,rfl⟩
    obtain ⟨c,ec,rfl,hc,_⟩:=fu hi
    refine ⟨_,rfl,_,rfl,_,_,rfl,rfl,⟨gp,bg⟩,?_⟩
    refine ⟨_,rfl,?_,rfl⟩
    rw [List.take_add_one,ec]
    simp only [Option.toList_some,List.map_append,List.map_cons,List.map_nil]
   ·rintro ys σ' H' q ⟨z0,rfl,rfl,rfl⟩ hq
    refine k q _ (Same.upd_new hq) hq ?_
    rw [ao,List.length_map,List.take_length,ep]
    rfl
def aT (u v w d:Int):List Int:=if v=0 then av [-u,w] else av [u*u-d*v*v,-2*u*w,w*w]
def UpW (u v w d:Int):Int->Int->Prop:=fun x1 x2=>0<sgq (u*x2-x1*w) (v*x2) d
theorem Df {l1 l2 x1 x2 y1 y2:Int} (l2p:0<l2) (x2p:0<x2) (y2p:0<y2) (h1:l1*x2<x1*l2) (h2:x1*y2<y1*x2):l1*y2<y1*l2:=by
 refine fE x2p ?_
 have h3:=Int.mul_lt_mul_of_pos_right h1 y2p
 have h4:=Int.mul_lt_mul_of_pos_right h2 l2p
 have e1:l1*x2*y2=l1*y2*x2:=by grind
 have e2:x1*l2*y2=x1*y2*l2:=by grind
 have e3:y1*x2*l2=y1*l2*x2:=by grind
 omega
theorem xA {u v w d x1 x2 y1 y2:Int} (x2p:0<x2) (y2p:0<y2) (e:x1*y2=y1*x2):sgq (u*x2-x1*w) (v*x2) d=sgq (u*y2-y1*w) (v*y2) d:=by
 rw [<- g6 (g:=y2) y2p,<- g6 (g:=x2) (u:=u*y2-y1*w) x2p]
 have e1:y2*(u*x2-x1*w)=x2*(u*y2-y1*w):=by
  calc y2*(u*x2-x1*w)=u*x2*y2-(x1*y2)*w:=by grind
   _=u*x2*y2-(y1*x2)*w:=by rw [e]
   _=x2*(u*y2-y1*w):=by grind
 have e2:y2*(v*x2)=x2*(v*y2):=by grind
 rw [e1,e2]
theorem xz {u v w d x1 x2 y1 y2:Int} (hw:0<w) (x2p:0<x2) (y2p:0<y2) (h:x1*y2<y1*x2) (hs:sgq (u*x2-x1*w) (v*x2) d<=0):sgq (u*y2-y1*w) (v*y2) d = -1:=by
 rw [<- g6 (g:=y2) y2p] at hs
 rw [<- g6 (g:=x2) x2p]
 have e2:y2*(v*x2)=x2*(v*y2):=by grind
 rw [e2] at hs
 refine yJ ?_ hs
 have h3:=Int.mul_lt_mul_of_pos_right h hw
 have e3:y2*(u*x2-x1*w)=u*x2*y2-x1*y2*w:=by grind
 have e4:x2*(u*y2-y1*w)=u*x2*y2-y1*x2*w:=by grind
 omega
theorem oe {ns:List Int} {u v w d l1 l2 h1 h2 δ:Int} (hw:0<w) (l2p:0<l2) (hδ:δ=1\/δ = -1) (hs:∀ x1 x2,0<x2->l1*x2<x1*l2->x1*h2<=h1*x2->sg (hv x1 x2 ns) = -δ*sgq (u*x2-x1*w) (v*x2) d) (lo:UpW u v w d l1 l2) (hi:¬ UpW u v w d h1 h2) (h2p:0<h2):RootU ns l1 l2 h1 h2 δ (UpW u v w d):=by
 refine ⟨hδ,fun x1 x2 hx a b hu=>?_,fun x1 x2 hx a b hu=>?_,fun x1 x2 y1 y2 hx hy a b hu hlt=>?_,fun x1 x2 y1 y2 hx hy e hu=>?_,lo,hi⟩
 ·rw [hs x1 x2 hx a b]
  have hu':0<sgq (u*x2-x1*w) (v*x2) d:=hu
  have:sgq (u*x2-x1*w) (v*x2) d=1:=by rcases iN (u*x2-x1*w) (v*x2) d with z | z | z<;>omega
  rw [this];omega
 ·rw [hs x1 x2 hx a b]
  have hu':¬ 0<sgq (u*x2-x1*w) (v*x2) d:=hu
  rcases iN (u*x2-x1*w) (v*x2) d with z | z | z
  ·omega
  ·rw [z];exact .inr (by omega)
  ·rw [z];exact .inl (by omega)
 ·have hu':¬ 0<sgq (u*x2-x1*w) (v*x2) d:=hu
  rw [hs y1 y2 hy (Df l2p hx hy a hlt) b,xz hw hx hy hlt (by omega)]
  omega
 ·have hu':0<sgq (u*x2-x1*w) (v*x2) d:=hu
  show 0<sgq (u*y2-y1*w) (v*y2) d
  rw [<- xA hx hy e];exact hu'
def bV (u v d m:Int):Int:=if 0<v then u else if v<0 then u+v*d-m else u-1-m
def bZ (u v d m:Int):Int:=if 0<v then u+v*d+m else if v<0 then u else u+m/3
structure SpE (u v w d m l1 l2 h1 h2:Int):Prop where
 l2p:0<l2
 h2p:0<h2
 bl1:Bits 40 l1
 bl2:Bits 40 l2
 bh1:Bits 40 h1
 bh2:Bits 40 h2
 gl:Nat.gcd l1.natAbs l2.natAbs=1
 gh:Nat.gcd h1.natAbs h2.natAbs=1
 el:l1*w=bV u v d m*l2
 eh:h1*w=bZ u v d m*h2
theorem rO {v d m:Int} (hv:0<v) (hd:2<=d) (hm:0<=m):d*v*v<(v*d+m)*(v*d+m):=by
 have h1:0<v*v:=Int.mul_pos hv hv
 have h2:d*(v*v)<d*(d*(v*v)):=by
  have:1*(d*(v*v))<d*(d*(v*v)):=Int.mul_lt_mul_of_pos_right (by omega) (Int.mul_pos (by omega) h1)
  omega
 have h3:0<=v*d:=Int.mul_nonneg (by omega) (by omega)
 have h4:v*d*(v*d)<=(v*d+m)*(v*d+m):=by
  have:=Int.mul_nonneg h3 hm
  have:=Int.mul_nonneg hm hm
  have e:(v*d+m)*(v*d+m)=v*d*(v*d)+(v*d*m)+(v*d*m)+m*m:=by grind
  omega
 have e1:d*v*v=d*(v*v):=by grind
 have e2:v*d*(v*d)=d*(d*(v*v)):=by grind
 omega
theorem ra {u v w d m l1 l2 h1 h2:Int} (hW:WOk u v w d) (hm0:0<=m) (hm:m<60) (hE:SpE u v w d m l1 l2 h1 h2):EndsG 40 l1 l2 h1 h2/\(0<v->u*l2<=l1*w)/\(v<0->h1*w<=u*h2)/\∃ (ε:Int) (n1 n2:Nat) (xss:List (List Int)),NumS (aT u v w d) l1 l2 h1 h2 ε (UpW u v w d) n1 n2 xss:=by
 have hw:=hW.w1
 have hd2:=hW.d2
 obtain ⟨l2p,h2p,bl1,bl2,bh1,bh2,gl,gh,el,eh⟩:=hE
 have Al:u*l2-l1*w=(u-bV u v d m)*l2:=by rw [el];grind
 have Ah:u*h2-h1*w=(u-bZ u v d m)*h2:=by rw [eh];grind
 have lo_sg:sgq (u*l2-l1*w) (v*l2) d=sgq (u-bV u v d m) v d:=by
  rw [Al,Int.mul_comm _ l2,Int.mul_comm v l2,g6 l2p]
 have hi_sg:sgq (u*h2-h1*w) (v*h2) d=sgq (u-bZ u v d m) v d:=by
  rw [Ah,Int.mul_comm _ h2,Int.mul_comm v h2,g6 h2p]
 have lt_N:bV u v d m<bZ u v d m:=by
  unfold bV bZ
  rcases Int.lt_trichotomy v 0 with z | z | z
  ·rw [if_neg (show ¬ 0<v by omega),if_pos z,if_neg (show ¬ 0<v by omega),if_pos z]
   have:v*d<0:=Int.mul_neg_of_neg_of_pos z (by omega)
   omega
  ·subst z
   rw [if_neg (by decide),if_neg (by decide),if_neg (by decide),if_neg (by decide)]
   omega
  ·rw [if_pos z,if_pos z]
   have:0<v*d:=Int.mul_pos z (by omega)
   omega
 have lt:l1*h2<h1*l2:=by
  refine fE hw ?_
  have e1:l1*h2*w=bV u v d m*(l2*h2):=by rw [show l1*h2*w=l1*w*h2 by grind,el];grind
  have e2:h1*l2*w=bZ u v d m*(l2*h2):=by rw [show h1*l2*w=h1*w*l2 by grind,eh];grind
  rw [e1,e2]
  exact Int.mul_lt_mul_of_pos_right lt_N (Int.mul_pos l2p h2p)
 have en:EndsG 40 l1 l2 h1 h2:=⟨l2p,h2p,bl1,bl2,bh1,bh2,lt,gl,gh⟩
 refine ⟨en,fun hv=>?_,fun hv=>?_,?_⟩
 ·have:bV u v d m=u:=by unfold bV;rw [if_pos hv]
  rw [el,this];exact Int.le_refl _
 ·have:bZ u v d m=u:=by unfold bZ;rw [if_neg (by omega),if_pos hv]
  rw [eh,this];exact Int.le_refl _
 have gt_low:∀ x1 x2:Int,0<x2->l1*x2<x1*l2->bV u v d m*x2<x1*w:=fun x1 x2 hx h=>by
  refine fE l2p ?_
  have h3:=Int.mul_lt_mul_of_pos_right h hw
  have e1:bV u v d m*x2*l2=l1*x2*w:=by rw [show bV u v d m*x2*l2=bV u v d m*l2*x2 by grind,<- el];grind
  have e2:x1*w*l2=x1*l2*w:=by grind
  omega
 have le_high:∀ x1 x2:Int,0<x2->x1*h2<=h1*x2->x1*w<=bZ u v d m*x2:=fun x1 x2 hx h=>by
  refine jG h2p ?_
  have h3:=Int.mul_le_mul_of_nonneg_right h (Int.le_of_lt hw)
  have e1:bZ u v d m*x2*h2=h1*x2*w:=by rw [show bZ u v d m*x2*h2=bZ u v d m*h2*x2 by grind,<- eh];grind
  have e2:x1*w*h2=x1*h2*w:=by grind
  omega
 by_cases hv0:v=0
 ·
  subst hv0
  have eL:bV u 0 d m=u-1-m:=by unfold bV;rw [if_neg (by decide),if_neg (by decide)]
  have eH:bZ u 0 d m=u+m/3:=by unfold bZ;rw [if_neg (by decide),if_neg (by decide)]
  have eN:aT u 0 w d=av [-u,w]:=by unfold aT;rw [if_pos rfl]
  obtain ⟨g,c0,c1,gp,ep,e0,e1,cp,hP⟩:=ui (r0 := -u) (r1:=w) hw
  have bW:AllB 250 [c0,c1]:=fun x hx=>by
   simp only [List.mem_cons,List.not_mem_nil,or_false] at hx
   rcases hx with rfl | rfl
   ·exact (ge gp e0 hW.bu.neg).mono
   ·exact (ge gp e1 hW.bw).mono
  have sgv:∀ x1 x2:Int,0<x2->sg (hv x1 x2 [c0,c1]) = -sg (u*x2-x1*w):=fun x1 x2 hx=>by
   have e2:g*hv x1 x2 [c0,c1]=x2 * -(u*x2-x1*w):=by
    rw [vU,e1]
    have:g*((c0*x2+c1*x1)*x2)=((g*c0)*x2+(g*c1)*x1)*x2:=by grind
    rw [this,<- e0];grind
   rw [<- cu gp,e2,cu hx,mB]
  have sgz:∀ a b:Int,sgq a (0*b) d=sg a:=fun a b=>by
   rw [Int.zero_mul]
   rcases Int.lt_trichotomy a 0 with z | z | z
   ·rw [cn (by omega) (Int.le_refl _) (.inl z),mz z]
   ·subst z;rfl
   ·rw [cB (by omega) (Int.le_refl _) (.inl z),eR z]
  have lA:0<u*l2-l1*w:=by rw [Al,eL];exact Int.mul_pos (by omega) l2p
  have hA:u*h2-h1*w<=0:=by
   rw [Ah,eH]
   exact Int.mul_nonpos_of_nonpos_of_nonneg (by omega) (Int.le_of_lt h2p)
  have lU:UpW u 0 w d l1 l2:=by show 0<sgq _ _ _;rw [sgz,eR lA];decide
  have hU:¬ UpW u 0 w d h1 h2:=by
   show ¬ 0<sgq _ _ _
   rw [sgz]
   have:=tD (u*h2-h1*w)
   omega
  have s1:sg (hv l1 l2 [c0,c1]) = -1:=by rw [sgv l1 l2 l2p,eR lA]
  have o1:∀ x y:Int,0<y->sg (hv x y [1])=1:=fun x y hy=>by rw [lc,Int.one_mul];exact eR hy
  refine ⟨1,1,2,[[c0,c1],[1]],?_,?_,?_,?_,?_⟩
  ·rw [eN,ep];exact yk hP bW
  ·exact en.mono
  ·rw [eN,ep]
   refine oe hw l2p (.inl rfl) (fun x1 x2 hx _ _=>?_) lU hU h2p
   rw [sgv x1 x2 hx,sgz];omega
  ·have a1:(chS (sgs l1 l2 [[c0,c1],[1]])).1=1:=by
    show (chS [sg (hv l1 l2 [c0,c1]),sg (hv l1 l2 [1])]).1=1
    rw [s1,o1 _ _ l2p];decide
   have a2:(chS (sgs h1 h2 [[c0,c1],[1]])).1=0:=by
    show (chS [sg (hv h1 h2 [c0,c1]),sg (hv h1 h2 [1])]).1=0
    rw [sgv h1 h2 h2p,o1 _ _ h2p]
    rcases tD (u*h2-h1*w) with ⟨_,z⟩ | ⟨_,z⟩ | ⟨z,_⟩
    ·rw [z];decide
    ·rw [z];decide
    ·omega
   rw [a1,a2];decide
  ·rw [eN,ep,s1];decide
 ·
  have eN:aT u v w d=av [u*u-d*v*v,-2*u*w,w*w]:=by unfold aT;rw [if_neg hv0]
  have ww:0<w*w:=Int.mul_pos hw hw
  obtain ⟨g,c0,c1,c2,gp,ep,e0,e1,e2,cp,hP⟩:=Ao (r0:=u*u-d*v*v) (r1 := -2*u*w) (r2:=w*w) ww
  have dv:0<d*v*v:=by
   rw [Int.mul_assoc]
   refine Int.mul_pos (by omega) ?_
   rcases Int.lt_or_gt_of_ne hv0 with z | z
   ·exact Int.mul_pos_of_neg_of_neg z z
   ·exact Int.mul_pos z z
  have b0:Bits 250 (u*u-d*v*v):=Bits.mono (Bits.sub (k:=60) ((hW.bu.mul hW.bu).mono) (((hW.bd.mul hW.bv).mul hW.bv).mono)) (by decide)
  have b2:Bits 2 (-2:Int):=by show (-2:Int).natAbs<2^2;decide
  have bb1:Bits 250 (-2*u*w):=((b2.mul hW.bu).mul hW.bw).mono
  have bb2:Bits 250 (w*w):=(hW.bw.mul hW.bw).mono
  have bW:AllB 250 [c0,c1,c2]:=fun x hx=>by
   simp only [List.mem_cons,List.not_mem_nil,or_false] at hx
   rcases hx with rfl | rfl | rfl
   ·exact ge gp e0 b0
   ·exact ge gp e1 bb1
   ·exact ge gp e2 bb2
  have val:∀ x1 x2:Int,g*hv x1 x2 [c0,c1,c2]=x2*((u*x2-x1*w)*(u*x2-x1*w)-d*(v*x2)*(v*x2)):=fun x1 x2=>by
   rw [Ed]
   have:g*((c0*(x2*x2)+c1*(x1*x2)+c2*(x1*x1))*x2)=((g*c0)*(x2*x2)+(g*c1)*(x1*x2)+(g*c2)*(x1*x1))*x2:=by grind
   rw [this,<- e0,<- e1,<- e2]
   grind
  have sgv:∀ x1 x2:Int,0<x2->sg (hv x1 x2 [c0,c1,c2])=sgq (u*x2-x1*w) (v*x2) d*sgq (u*x2-x1*w) (-(v*x2)) d:=fun x1 x2 hx=>by
   rw [<- cu gp,val,cu hx,yH hW.ns]
  have irr:∀ t b,0<b->hv t b [c0,c1,c2]≠0:=fun t b hb z=>by
   have h3:=val t b
   rw [z,Int.mul_zero] at h3
   have h4:(u*b-t*w)*(u*b-t*w)-d*(v*b)*(v*b)=0:=by
    rcases Int.mul_eq_zero.mp h3.symm with y | y
    ·omega
    ·exact y
   exact hW.ns.2 (u*b-t*w) (v*b) (Int.mul_ne_zero hv0 (by omega)) (by omega)
  have hD:4*c0*c2<c1*c1:=by
   refine fE (c:=g*g) (Int.mul_pos gp gp) ?_
   have a1:4*c0*c2*(g*g)=4*((g*c0)*(g*c2)):=by grind
   have a2:c1*c1*(g*g)=(g*c1)*(g*c1):=by grind
   rw [a1,a2,<- e0,<- e1,<- e2]
   have a3:(-2*u*w)*(-2*u*w)-4*((u*u-d*v*v)*(w*w))=4*(d*v*v*(w*w)):=by grind
   have:=Int.mul_pos dv ww
   omega
  obtain ⟨a0,a1,G,hG,f0,f1,ha1,hSR⟩:=yj hP bW hD irr
  have sga:∀ x1 x2:Int,0<x2->sg (hv x1 x2 [a0,a1]) = -sg (u*x2-x1*w):=fun x1 x2 hx=>by
   have h3:(g*G)*hv x1 x2 [a0,a1]=(x2*(2*w)) * -(u*x2-x1*w):=by
    rw [vU]
    have:(g*G)*((a0*x2+a1*x1)*x2)=((g*(G*a0))*x2+(g*(G*a1))*x1)*x2:=by grind
    rw [this,<- f0,<- f1]
    have:g*(2*c2)=2*(g*c2):=by grind
    rw [this,<- e1,<- e2]
    grind
   rw [<- cu (Int.mul_pos gp hG),h3,cu (Int.mul_pos hx (by omega)),mB]
  have o1:∀ x y:Int,0<y->sg (hv x y [1])=1:=fun x y hy=>by rw [lc,Int.one_mul];exact eR hy
  have chE:∀ x y:Int,(chS (sgs x y [[c0,c1,c2],[a0,a1],[1]])).1=(chS [sg (hv x y [c0,c1,c2]),sg (hv x y [a0,a1]),sg (hv x y [1])]).1:=fun _ _=>rfl
  rcases Int.lt_or_gt_of_ne hv0 with vn | vn
  ·
   have eL:bV u v d m=u+v*d-m:=by unfold bV;rw [if_neg (by omega),if_pos vn]
   have eH:bZ u v d m=u:=by unfold bZ;rw [if_neg (by omega),if_pos vn]
   have nv:0 < -v:=by omega
   have vd:v*d<0:=Int.mul_neg_of_neg_of_pos vn (by omega)
   have sqm:=rO nv hd2 hm0
   have lo1:sgq (u-bV u v d m) v d=1:=by
    rw [eL,d7 (by omega) vn]
    have q1:(u-(u+v*d-m))*(u-(u+v*d-m))=(-v*d+m)*(-v*d+m):=by grind
    have q2:d * -v * -v=d*v*v:=by grind
    rw [q2] at sqm
    rw [q1,if_neg (by omega)]
   have hi1:sgq (u-bZ u v d m) v d = -1:=by rw [eH,Int.sub_self];exact cn (Int.le_refl _) (by omega) (.inr vn)
   have lA:0<u*l2-l1*w:=by rw [Al,eL];exact Int.mul_pos (by omega) l2p
   have hA:u*h2-h1*w=0:=by rw [Ah,eH,Int.sub_self,Int.zero_mul]
   have lU:UpW u v w d l1 l2:=by show 0<sgq _ _ _;rw [lo_sg,lo1];decide
   have hU:¬ UpW u v w d h1 h2:=by show ¬ 0<sgq _ _ _;rw [hi_sg,hi1];decide
   have sl:sg (hv l1 l2 [c0,c1,c2])=1:=by
    rw [sgv l1 l2 l2p,lo_sg,lo1,cB (by omega) (by have:=Int.mul_neg_of_neg_of_pos vn l2p;omega) (.inl lA)];rfl
   have sh:sg (hv h1 h2 [c0,c1,c2]) = -1:=by
    have:=Int.mul_neg_of_neg_of_pos vn h2p
    rw [sgv h1 h2 h2p,hi_sg,hi1,hA,cB (Int.le_refl _) (by omega) (.inr (by omega))];rfl
   refine ⟨-1,2,3,[[c0,c1,c2],[a0,a1],[1]],?_,?_,?_,?_,?_⟩
   ·rw [eN,ep];exact hSR
   ·exact en.mono
   ·rw [eN,ep]
    refine oe hw l2p (.inr rfl) (fun x1 x2 hx a b=>?_) lU hU h2p
    have h3:=le_high x1 x2 hx b
    rw [eH] at h3
    have h4:=Int.mul_neg_of_neg_of_pos vn hx
    rw [sgv x1 x2 hx,cB (u:=u*x2-x1*w) (v := -(v*x2)) (by omega) (by omega) (.inr (by omega))];omega
   ·rw [chE,chE,sl,sh,sga l1 l2 l2p,sga h1 h2 h2p,o1 _ _ l2p,o1 _ _ h2p,eR lA,hA];decide
   ·rw [eN,ep,sl];decide
  ·
   have eL:bV u v d m=u:=by unfold bV;rw [if_pos vn]
   have eH:bZ u v d m=u+v*d+m:=by unfold bZ;rw [if_pos vn]
   have vd:0<v*d:=Int.mul_pos vn (by omega)
   have sqm:=rO vn hd2 hm0
   have lo1:sgq (u-bV u v d m) v d=1:=by rw [eL,Int.sub_self];exact cB (Int.le_refl _) (by omega) (.inr vn)
   have hi1:sgq (u-bZ u v d m) v d = -1:=by
    rw [eH,d8 (by omega) vn]
    have q1:(u-(u+v*d+m))*(u-(u+v*d+m))=(v*d+m)*(v*d+m):=by grind
    rw [q1,if_pos (by omega)]
   have lA:u*l2-l1*w=0:=by rw [Al,eL,Int.sub_self,Int.zero_mul]
   have hA:u*h2-h1*w<0:=by rw [Ah,eH];exact Int.mul_neg_of_neg_of_pos (by omega) h2p
   have lU:UpW u v w d l1 l2:=by show 0<sgq _ _ _;rw [lo_sg,lo1];decide
   have hU:¬ UpW u v w d h1 h2:=by show ¬ 0<sgq _ _ _;rw [hi_sg,hi1];decide
   have sl:sg (hv l1 l2 [c0,c1,c2]) = -1:=by
    have:=Int.mul_pos vn l2p
    rw [sgv l1 l2 l2p,lo_sg,lo1,lA,cn (Int.le_refl _) (by omega) (.inr (by omega))];rfl
   have sh:sg (hv h1 h2 [c0,c1,c2])=1:=by
    have:=Int.mul_pos vn h2p
    rw [sgv h1 h2 h2p,hi_sg,hi1,cn (by omega) (by omega) (.inl hA)];rfl
   refine ⟨1,2,3,[[c0,c1,c2],[a0,a1],[1]],?_,?_,?_,?_,?_⟩
   ·rw [eN,ep];exact hSR
   ·exact en.mono
   ·rw [eN,ep]
    refine oe hw l2p (.inl rfl) (fun x1 x2 hx a b=>?_) lU hU h2p
    have h3:=gt_low x1 x2 hx a
    rw [eL] at h3
    have h4:=Int.mul_pos vn hx
    rw [sgv x1 x2 hx,cn (u:=u*x2-x1*w) (v := -(v*x2)) (by omega) (by omega) (.inl (by omega))];omega
   ·rw [chE,chE,sl,sh,sga l1 l2 l2p,sga h1 h2 h2p,o1 _ _ l2p,o1 _ _ h2p,lA,mz hA];decide
   ·rw [eN,ep,sl];decide
def sI:Sp:=fun vs H Q _=>∃ (p:Addr) (u v w d:Int),vs=[.ref p]/\WT H p u v w d/\WOk u v w d/\mkL H Q (aT u v w d)
theorem BJ {f:Addr} {fd:FuncData} (F:Fun K "_law_least" "_law_least" nS f fd) (T:Txt K mg) {FR:Addr} {Fa:FuncData} (IN:Cal P w K mg base 2 "_law_plain" ["_law_row"] sv FR Fa):FnOk P w K mg base CX0 3 f fd ["_law_worth_here"] sI:=by
 obtain ⟨xq,vh,vD,wY⟩:=IN
 refine F.ok sc__law_least (fun vs H Q E h=>?_) (fun cdv A outer s H vs Q E hr h=>?_)
 ·obtain ⟨p,u,v,w,d,rfl,_⟩:=h
  rfl
 ·obtain ⟨p,u,v,w,d,rfl,hp,hW,k⟩:=h
  have hw:=hW.w1
  refine ⟨_,(af (eX (pv 0) (ic rfl (cw (aQ (i:=1) sc__law_least.nd rfl (Or.inl rfl)) (cw (aQ (i:=2) sc__law_least.nd rfl (Or.inl rfl)) (cw (aQ (i:=3) sc__law_least.nd rfl (Or.inl rfl)) (cw (aQ (i:=4) sc__law_least.nd rfl (Or.inl rfl)) ib))))))
   (af (aV (aE cI (pv 2) ac (aA _))
     (ai (au (al xq (hr.mono) rfl vh vD wY .nil ah (aa (bj (aa (bJ bI (pv 1)) (aa (pv 3) ab))) ab))))
     aW)
   (ai (au (al xq (hr.mono) rfl vh vD wY .nil ah (aa (bj (aa (ag bK (ag aD (pv 1) (pv 1)) (ag aD (ag aD (pv 4) (pv 2)) (pv 2))) (aa (ag aD (ag aD (bJ bI ac) (pv 1)) (pv 3)) (aa (ag aD (pv 3) (pv 3)) ab)))) ab)))))),?_⟩
  refine ⟨_,rfl,p,_,rfl,SqT.of hp,rfl,_,_,rfl,_,_,rfl,_,_,rfl,_,_,rfl,rfl,?_⟩
  dsimp only
  refine iU (fun σ' H'=>σ'=[some (.ref p),some (.int u),some (.int v),some (.int w),some (.int d)]/\H=H') ⟨rfl,rfl⟩ ?_
  rintro σ' H' ⟨rfl,rfl⟩
  refine bC ⟨_,rfl,_,_,rfl,rfl,_,rfl,aJ (fun h0=>?_) (fun h0=>?_)⟩
  ·have h0':v=0:=h0
   refine aU ⟨_,rfl,_,rfl,_,rfl,by show 2<=sizeLine;decide,fun q hq=>?_⟩
   have s1:Same H (upd H q (.lst [V.int (-u),V.int w])):=Same.upd_new hq
   refine ⟨q,[-u,w],rfl,ao,lN (by omega),by simp,hw,by show 2<=100;decide,fun x hx=>?_,fun y H' s' hy e=>?_⟩
   ·simp only [List.mem_cons,List.not_mem_nil,or_false] at hx
    rcases hx with rfl | rfl
    ·exact hW.bu.neg.mono
    ·exact hW.bw.mono
   ·refine k y H' (s1.trans s') (s1.free hy) ?_
    unfold aT
    rw [if_pos h0'];exact e
  ·have h0':¬ v=0:=h0
   have b2:Bits 1000000 (-2:Int):=Bits.mono (j:=2) (by show (-2:Int).natAbs<2^2;decide) (by decide)
   have bdv:Bits 30 (d*v):=(hW.bd.mul hW.bv).mono
   have b2u:Bits 30 (-2*u):=by
    have:Bits 2 (-2:Int):=by show (-2:Int).natAbs<2^2;decide
    exact (this.mul hW.bu).mono
   have ww:0<w*w:=Int.mul_pos hw hw
   refine aU ⟨_,rfl,_,rfl,_,_,rfl,rfl,⟨hW.bu.mono,hW.bu.mono⟩,_,rfl,_,rfl,_,_,rfl,rfl,⟨hW.bd.mono,hW.bv.mono⟩,_,rfl,_,_,rfl,rfl,⟨bdv.mono,hW.bv.mono⟩,_,_,rfl,rfl,?_⟩
   refine ⟨_,rfl,_,rfl,_,_,rfl,rfl,⟨b2,hW.bu.mono⟩,_,rfl,_,_,rfl,rfl,⟨b2u.mono,hW.bw.mono⟩,?_⟩
   refine ⟨_,rfl,_,rfl,_,_,rfl,rfl,⟨hW.bw.mono,hW.bw.mono⟩,by show 3<=sizeLine;decide,fun q hq=>?_⟩
   have s1:Same H (upd H q (.lst [V.int (u*u-d*v*v),V.int (-2*u*w),V.int (w*w)])):=Same.upd_new hq
   refine ⟨q,[u*u-d*v*v,-2*u*w,w*w],rfl,ao,rh (by omega),by simp,ww,by show 3<=100;decide,fun x hx=>?_,fun y H' s' hy e=>?_⟩
   ·simp only [List.mem_cons,List.not_mem_nil,or_false] at hx
    rcases hx with rfl | rfl | rfl
    ·exact Bits.mono (Bits.sub (k:=60) ((hW.bu.mul hW.bu).mono) ((bdv.mul hW.bv).mono)) (by decide)
    ·exact (b2u.mul hW.bw).mono
    ·exact (hW.bw.mul hW.bw).mono
   ·refine k y H' (s1.trans s') (s1.free hy) ?_
    unfold aT
    rw [if_neg h0'];exact e
theorem i9 {x m:Int} (h:0<m):0<=x%m/\x%m<m:=⟨Int.emod_nonneg _ (Int.ne_of_gt h),Int.emod_lt_of_pos _ h⟩
theorem gZ {k:Int} (h0:0<=k) (h:k<2^12):Bits 9000 k:=Bits.mono (j:=12) (by show k.natAbs<2^12;omega) (by decide)
def sQ:Sp:=fun vs H Q _=>∃ c:Int,vs=[.int c]/\∀ z:Int,Bits 21 z->Q (.int z) H
theorem BM {f:Addr} {fd:FuncData} (F:Fun K "_law_amount" "_law_amount" nW f fd) (T:Txt K mg):FnOk P w K mg base CX0 1 f fd ["_law_cell"] sQ:=by
 refine F.ok zg (fun vs H Q E h=>?_) (fun cdv A outer s H vs Q E hr h=>?_)
 ·obtain ⟨c,rfl,_⟩:=h
  rfl
 ·obtain ⟨c,rfl,k⟩:=h
  refine ⟨_,(af (aV (aE cI (ag cM (pv 0) ac) ac (aA _))
   (ai (au (ag bK (ag cM (ag dm (pv 0) ac) (ag bh (ag aD ac (ag ie ac ac)) ac)) (ag ie ac ac))))
   aW)
   (ai (au (ag bK (ag cM (ag dm (pv 0) ac) ac) ac)))),?_⟩
  refine bC ⟨_,rfl,_,_,rfl,rfl,(by show (0:Int)<4;decide),_,_,rfl,rfl,_,rfl,aJ (fun _=>?_) (fun _=>?_)⟩
  ·have b6:Bits 1000000 ((10:Int)^6):=Bits.mono (j:=21) (by show ((10:Int)^6).natAbs<2^21;decide) (by decide)
   refine aU ⟨_,rfl,_,_,rfl,rfl,⟨by show (0:Int)<4;decide,gZ (by decide) (by decide)⟩,_,_,rfl,rfl,⟨by decide,by decide,by decide⟩,_,_,rfl,rfl,⟨d6,b6⟩,_,_,rfl,rfl,_,_,rfl,rfl,(by show (0:Int)<2*10^6+1;decide),_,_,rfl,rfl,⟨by decide,by decide,by decide⟩,_,_,rfl,rfl,k _ ?_⟩
   obtain ⟨m0,m1⟩:=i9 (x:=c/4) (m:=2*10^6+1) (by decide)
   show (c/4%(2*10^6+1)-10^6).natAbs<2^21
   omega
  ·refine aU ⟨_,rfl,_,_,rfl,rfl,⟨by show (0:Int)<4;decide,gZ (by decide) (by decide)⟩,_,_,rfl,rfl,(by show (0:Int)<21;decide),_,_,rfl,rfl,k _ ?_⟩
   obtain ⟨m0,m1⟩:=i9 (x:=c/4) (m:=21) (by decide)
   show (c/4%21-10).natAbs<2^21
   omega
def rW (K:PySem.W.Frag):Sp:=fun vs H Q _=>∃ (a:Addr) (ns:List Int),vs=[.ref a,.int 0]/\SqL K H a (ns.map V.int)/\∀ (p:Addr) (H':Hp) (u v w d:Int),Same H H'->H p=none->WT H' p u v w d->WOk u v w d->Q (.ref p) H'
theorem zz {v:V} (h:v∈[V.int 2,V.int 3,V.int 5,V.int 6,V.int 7,V.int 10,V.int 11,V.int 13]):∃ d:Int,v=.int d/\2<=d/\d<=13/\NSq d:=by
 simp only [List.mem_cons,List.not_mem_nil,or_false] at h
 rcases h with rfl | rfl | rfl | rfl | rfl | rfl | rfl | rfl
 ·exact ⟨_,rfl,by decide,by decide,fh (n:=1) (d:=2) (by decide) (by decide)⟩
 ·exact ⟨_,rfl,by decide,by decide,fh (n:=1) (d:=3) (by decide) (by decide)⟩
 ·exact ⟨_,rfl,by decide,by decide,fh (n:=2) (d:=5) (by decide) (by decide)⟩
 ·exact ⟨_,rfl,by decide,by decide,fh (n:=2) (d:=6) (by decide) (by decide)⟩
 ·exact ⟨_,rfl,by decide,by decide,fh (n:=2) (d:=7) (by decide) (by decide)⟩
 ·exact ⟨_,rfl,by decide,by decide,fh (n:=3) (d:=10) (by decide) (by decide)⟩
 ·exact ⟨_,rfl,by decide,by decide,fh (n:=3) (d:=11) (by decide) (by decide)⟩
 ·exact ⟨_,rfl,by decide,by decide,fh (n:=3) (d:=13) (by decide) (by decide)⟩
theorem BB {f:Addr} {fd:FuncData} (F:Fun K "_law_worth" "_law_worth" nI f fd) (T:Txt K mg) {FV:Addr} {Fe:FuncData} (IR:Cal P w K mg base 1 "_law_amount" ["_law_cell"] sQ FV Fe) {jA:Addr} {jt:FuncData} (jY:Cal P w K mg base 1 "_law_cell_at" ["_law_script","_law_k"] (fM K) jA jt):FnOk P w K mg base CX0 2 f fd ["_law_script","_law_k"] (rW K):=by
 obtain ⟨xt,vj,vF,w4⟩:=IR
 obtain ⟨dZ,dM,dP,dX⟩:=jY
 refine F.ok sc__law_worth (fun vs H Q E h=>?_) (fun cdv A outer s H vs Q E hr h=>?_)
 ·obtain ⟨a,ns,rfl,_⟩:=h
  rfl
 ·obtain ⟨a,ns,rfl,hS,k⟩:=h
  refine ⟨_,(af (aj (i:=2) sc__law_worth.nd rfl (Or.inl rfl) (ag aD (al xt (hr.mono) rfl vj vF w4 .nil ah (aa (al dZ (hr.mono) rfl dM dP dX .nil ah (aa (pv 0) (aa (ag bh (pv 1) ac) ab))) ab)) (fe lD (by rfl) T.int_ PyProof.Rows.boot_int (aa (eo dk (ag cM (al dZ (hr.mono) rfl dM dP dX .nil ah (aa (pv 0) (aa (ag bh (pv 1) ac) ab))) ac) ac (aA _)) ab))))
   (af (aj (i:=3) sc__law_worth.nd rfl (Or.inl rfl) (al dZ (hr.mono) rfl dM dP dX .nil ah (aa (pv 0) (aa (ag bh (pv 1) ac) ab))))
   (ai (au (dG (aa (al xt (hr.mono) rfl vj vF w4 .nil ah (aa (al dZ (hr.mono) rfl dM dP dX .nil ah (aa (pv 0) (aa (pv 1) ab))) ab)) (aa (pv 2) (aa (ag bh ac (ag cM (ag dm (pv 3) ac) ac)) (aa (aM (bY (K:=K) rfl) (bj (aa ac (aa ac (aa ac (aa ac (aa ac (aa ac (aa ac (aa ac ab))))))))) (ag cM (pv 3) ac) (fun _ _=>rfl)) ab))))))))),?_⟩
  refine ap ⟨_,rfl,_,rfl,_,_,rfl,rfl,a,ns,1,rfl,hS,_,rfl,fun z hz=>?_⟩
  have b1:Bits 1000000 (if decide (ns.getD 1 0%5>0)=true then (1:Int) else 0):=by split;exact oK;exact Bits.zero
  refine ⟨_,rfl,_,rfl,_,_,rfl,rfl,a,ns,1,rfl,hS,_,_,rfl,rfl,(by show (0:Int)<5;decide),_,_,rfl,rfl,.inr ⟨_,rfl,_,_,rfl,rfl,⟨hz.mono,b1⟩,?_⟩⟩
  have bv:Bits 21 (z*(if decide (ns.getD 1 0%5>0)=true then (1:Int) else 0)):=by
   split
   ·rw [Int.mul_one];exact hz
   ·rw [Int.mul_zero];exact Bits.zero
  show cS _ _ _ _ _
  generalize z*(if decide (ns.getD 1 0%5>0)=true then (1:Int) else 0)=v at bv
  refine iU (fun σ' H'=>∃ v:Int,σ'=[some (.ref a),some (.int 0),some (.int v),none]/\H=H'/\Bits 21 v) ⟨_,rfl,rfl,?_⟩ ?_
  ·split
   ·rw [Int.mul_one];exact hz
   ·rw [Int.mul_zero];exact Bits.zero
  rintro σ' H' ⟨v,rfl,rfl,bv⟩
  refine ap ⟨_,rfl,_,rfl,_,_,rfl,rfl,a,ns,2,rfl,hS,?_⟩
  refine aU ⟨_,rfl,_,rfl,a,ns,0,rfl,hS,_,rfl,fun u bu=>?_⟩
  refine ⟨_,rfl,_,rfl,_,_,rfl,rfl,⟨by show (0:Int)<8;decide,gZ (by decide) (by decide)⟩,_,_,rfl,rfl,(by show (0:Int)<12;decide),_,_,rfl,rfl,by show 8<=sizeLine;decide,fun p hp=>?_⟩
  obtain ⟨x,hx,ex⟩:=w5 (xs:=[V.int 2,V.int 3,V.int 5,V.int 6,V.int 7,V.int 10,V.int 11,V.int 13]) (n:=8) rfl (by decide) (ns.getD 2 0)
  obtain ⟨d,rfl,hd2,hd13,hns⟩:=zz hx
  have s1:Same H (upd H p (.lst [V.int 2,V.int 3,V.int 5,V.int 6,V.int 7,V.int 10,V.int 11,V.int 13])):=Same.upd_new hp
  refine ⟨_,rfl,_,_,rfl,rfl,(by show (0:Int)<8;decide),p,_,_,_,rfl,rfl,SqL.of ao,ex,by show 4<=sizeLine;decide,fun q hq=>?_⟩
  obtain ⟨m0,m1⟩:=i9 (x:=ns.getD 2 0/8) (m:=12) (by decide)
  exact k q _ u v _ d (s1.then_new hq) (s1.free hq) ao ⟨bu,bv,by omega,by omega,hd2,hd13,hns⟩
def sd (C:Addr):Sp:=fun vs H Q _=>∃ (p:Addr) (u v w d m:Int),vs=[.ref p,.int m]/\WT H p u v w d/\WOk u v w d/\0<=m/\m<60/\∀ (t l h:Addr) (H':Hp) (l1 l2 h1 h2:Int),Same H H'->H t=none->H' t=some (.tup [.ref l,.ref h])->RA C H' l l1 l2->RA C H' h h1 h2->SpE u v w d m l1 l2 h1 h2->Q (.ref t) H'
theorem BE {C f:Addr} {fd:FuncData} (F:Fun K "_law_span" "_law_span" nM f fd) (T:Txt K mg) (R:RCI K mg C) {f_Ratio:Addr} {fd_Ratio:FuncData} {ds_Ratio:List Value} (cq:KCal P w K mg base 2 C "Ratio" ["self","top","bottom"] (cT C) f_Ratio fd_Ratio ds_Ratio [.int 1]):FnOk P w K mg base CX0 4 f fd ["_law_worth_here","_law_more"] (sd C):=by
 obtain ⟨bU,bT,bR,ci,dg,df⟩:=cq
 refine F.ok sc__law_span (fun vs H Q E h=>?_) (fun cdv A outer s H vs Q E hr h=>?_)
 ·obtain ⟨p,u,v,w,d,m,rfl,_⟩:=h
  rfl
 ·obtain ⟨p,u,v,w,d,m,rfl,hp,hW,hm0,hm,k⟩:=h
  have hw:=hW.w1
  have w0:w≠0:=by omega
  refine ⟨_,(af (eX (pv 0) (ic rfl (cw (aQ (i:=2) sc__law_span.nd rfl (Or.inl rfl)) (cw (aQ (i:=3) sc__law_span.nd rfl (Or.inl rfl)) (cw (aQ (i:=4) sc__law_span.nd rfl (Or.inl rfl)) (cw (aQ (i:=5) sc__law_span.nd rfl (Or.inl rfl)) ib))))))
   (af (aV (aE dk (pv 3) ac (aA _))
     (ai (au (dG (aa (cD bT bU (hr.mono) rfl bR ci .nil ah (aa (pv 2) (aa (pv 4) ab))) (aa (cD bT bU (hr.mono) rfl bR ci .nil ah (aa (ag bh (ag bh (pv 2) (ag aD (pv 3) (pv 5))) (pv 1)) (aa (pv 4) ab))) ab)))))
     aW)
   (af (aV (aE da (pv 3) ac (aA _))
     (ai (au (dG (aa (cD bT bU (hr.mono) rfl bR ci .nil ah (aa (ag bK (ag bh (pv 2) (ag aD (pv 3) (pv 5))) (pv 1)) (aa (pv 4) ab))) (aa (cD bT bU (hr.mono) rfl bR ci .nil ah (aa (pv 2) (aa (pv 4) ab))) ab)))))
     aW)
   (ai (au (dG (aa (cD bT bU (hr.mono) rfl bR ci .nil ah (aa (ag bK (ag bK (pv 2) ac) (pv 1)) (aa (pv 4) ab))) (aa (cD bT bU (hr.mono) rfl bR ci .nil ah (aa (ag bh (pv 2) (ag dm (pv 1) ac)) (aa (pv 4) ab))) ab)))))))),?_⟩
  refine ⟨_,rfl,p,_,rfl,SqT.of hp,rfl,_,_,rfl,_,_,rfl,_,_,rfl,_,_,rfl,rfl,?_⟩
  dsimp only
  refine iU (fun σ' H'=>σ'=[some (.ref p),some (.int m),some (.int u),some (.int v),some (.int w),some (.int d)]/\H=H') ⟨rfl,rfl⟩ ?_
  rintro σ' H' ⟨rfl,rfl⟩
  have bw9:Bits 9000 w:=hW.bw.mono
  have bvd:Bits 30 (v*d):=(hW.bv.mul hW.bd).mono
  have bN:∀ x:Int,Bits 35 x->Bits 40 (rt x w)/\Bits 40 (rb x w):=fun x hx=>⟨(fN w0 hx).mono,(eU w0 hW.bw).mono⟩
  have fin:∀ (x y:Int),x=bV u v d m->y=bZ u v d m->Bits 35 x->Bits 35 y->SpE u v w d m (rt x w) (rb x w) (rt y w) (rb y w):=fun x y ex ey bx by'=>⟨eS w0,eS w0,(bN x bx).1,(bN x bx).2,(bN y by').1,(bN y by').2,oq w0,oq w0,by rw [<- ex];exact h9 w0,by rw [<- ey];exact h9 w0⟩
  have b60:Bits 30 m:=by show m.natAbs<2^30;omega
  have bu30:Bits 30 u:=hW.bu.mono
  have bs1:Bits 35 (u+v*d+m):=Bits.mono (Bits.add (k:=31) (Bits.add bu30 bvd) (b60.mono)) (by decide)
  have bs2:Bits 35 (u+v*d-m):=Bits.mono (Bits.sub (k:=31) (Bits.add bu30 bvd) (b60.mono)) (by decide)
  have bs3:Bits 35 (u-1-m):=Bits.mono (Bits.sub (k:=31) (Bits.sub bu30 (b1k (by decide))) (b60.mono)) (by decide)
  have b3:Bits 30 (m/3):=by show (m/3).natAbs<2^30;omega
  have bs4:Bits 35 (u+m/3):=Bits.mono (Bits.add bu30 b3) (by decide)
  have bu35:Bits 35 u:=hW.bu.mono
  refine bC ⟨_,rfl,_,_,rfl,rfl,_,rfl,aJ (fun h0=>?_) (fun h0=>?_)⟩
  ·have h0':0<v:=h0
   refine aU ⟨_,rfl,_,rfl,cY (t:=u) w0 bw9 fun l H1 s1 hl hRl=>?_⟩
   refine ⟨_,rfl,_,rfl,_,rfl,_,_,rfl,rfl,⟨hW.bv.mono,hW.bd.mono⟩,_,_,rfl,rfl,_,rfl,_,_,rfl,rfl,_,rfl,cY (t:=u+v*d+m) w0 bw9 fun h H2 s2 hh hRh=>?_⟩
   refine ⟨by show 2<=sizeLine;decide,fun q hq=>?_⟩
   have sq:=Same.upd_new (o:=.tup [V.ref l,V.ref h]) hq
   have t2:=s1.trans s2
   exact k q l h _ _ _ _ _ (t2.then_new hq) (t2.free hq) ao ((hRl.same s2).same sq) (hRh.same sq) (fin _ _ (by unfold bV;rw [if_pos h0']) (by unfold bZ;rw [if_pos h0']) bu35 bs1)
  have h0':¬ 0<v:=h0
  refine bC ⟨_,rfl,_,_,rfl,rfl,_,rfl,aJ (fun h1=>?_) (fun h1=>?_)⟩
  ·have h1':v<0:=h1
   refine aU ⟨_,rfl,_,rfl,_,rfl,_,_,rfl,rfl,⟨hW.bv.mono,hW.bd.mono⟩,_,_,rfl,rfl,_,rfl,_,_,rfl,rfl,_,rfl,cY (t:=u+v*d-m) w0 bw9 fun l H1 s1 hl hRl=>?_⟩
   refine ⟨_,rfl,_,rfl,cY (t:=u) w0 bw9 fun h H2 s2 hh hRh=>?_⟩
   refine ⟨by show 2<=sizeLine;decide,fun q hq=>?_⟩
   have sq:=Same.upd_new (o:=.tup [V.ref l,V.ref h]) hq
   have t2:=s1.trans s2
   exact k q l h _ _ _ _ _ (t2.then_new hq) (t2.free hq) ao ((hRl.same s2).same sq) (hRh.same sq) (fin _ _ (by unfold bV;rw [if_neg h0',if_pos h1']) (by unfold bZ;rw [if_neg h0',if_pos h1']) bs2 bu35)
  have h1':¬ v<0:=h1
  refine aU ⟨_,rfl,_,_,rfl,rfl,_,rfl,_,_,rfl,rfl,_,rfl,cY (t:=u-1-m) w0 bw9 fun l H1 s1 hl hRl=>?_⟩
  refine ⟨_,rfl,_,rfl,_,_,rfl,rfl,⟨by show (0:Int)<3;decide,gZ (by decide) (by decide)⟩,_,_,rfl,rfl,_,rfl,cY (t:=u+m/3) w0 bw9 fun h H2 s2 hh hRh=>?_⟩
  refine ⟨by show 2<=sizeLine;decide,fun q hq=>?_⟩
  have sq:=Same.upd_new (o:=.tup [V.ref l,V.ref h]) hq
  have t2:=s1.trans s2
  exact k q l h _ _ _ _ _ (t2.then_new hq) (t2.free hq) ao ((hRl.same s2).same sq) (hRh.same sq) (fin _ _ (by unfold bV;rw [if_neg h0',if_neg h1']) (by unfold bZ;rw [if_neg h0',if_neg h1']) bs3 bs4)
def rZ:Sp:=fun vs H Q _=>∃ (a b:Addr) (xs ys:List Int),vs=[.ref a,.ref b]/\H a=some (.lst (xs.map V.int))/\H b=some (.lst (ys.map V.int))/\xs≠[]/\ys≠[]/\xs.length<=1000/\ys.length<=1000/\AllB 1000000 xs/\AllB 1000000 ys/\mkL H Q (ad xs ys)
theorem BD {f:Addr} {fd:FuncData} (F:Fun K "_law_times" "_law_times" nK f fd) (T:Txt K mg):FnOk P w K mg base CX0 1 f fd ["_law_one","_law_other_here"] rZ:=by
 refine F.ok sc__law_times (fun vs H Q E h=>?_) (fun cdv A outer s H vs Q E hr h=>?_)
 ·obtain ⟨a,b,xs,ys,rfl,_⟩:=h
  rfl
 ·obtain ⟨a,b,xs,ys,rfl,hA,hB,hx0,hy0,hx,hy,bx,by',k⟩:=h
  have big:=sizeLine_eq
  refine ⟨_,(af (aj (i:=2) sc__law_times.nd rfl (Or.inl rfl) (ag oJ (bj (aa ac ab)) (ag bK (ag bh (bA (cE (K:=K) rfl) (by rfl) T.len_ PySem.boot_len (aa (pv 0) ab)) (bA (cE (K:=K) rfl) (by rfl) T.len_ PySem.boot_len (aa (pv 1) ab))) ac)))
   (af (cv PassesOwn.never rfl (fb rfl T.range_ (aa (bA (cE (K:=K) rfl) (by rfl) T.len_ PySem.boot_len (aa (pv 0) ab)) ab)) (aQ (i:=3) sc__law_times.nd rfl (Or.inl rfl))
     (ai (cv PassesOwn.never rfl (fb rfl T.range_ (aa (bA (cE (K:=K) rfl) (by rfl) T.len_ PySem.boot_len (aa (pv 1) ab)) ab)) (aQ (i:=4) sc__law_times.nd rfl (Or.inl rfl))
       (ai (eX (ag bh (aM (bY (K:=K) rfl) (pv 2) (ag bh (pv 3) (pv 4)) (fun _ _=>rfl)) (ag aD (aM (bY (K:=K) rfl) (pv 0) (pv 3) (fun _ _=>rfl)) (aM (bY (K:=K) rfl) (pv 1) (pv 4) (fun _ _=>rfl)))) (iY (pv 2) (ag bh (pv 3) (pv 4)) iR))))))
   (ai (au (pv 2))))),?_⟩
  have hlx:(xs.map V.int).length=xs.length:=List.length_map _
  have hly:(ys.map V.int).length=ys.length:=List.length_map _
  obtain ⟨la,ea⟩:∃ la,xs.length=la+1:=⟨xs.length-1,by have:=List.length_pos_iff.mpr hx0;omega⟩
  obtain ⟨lb,eb⟩:∃ lb,ys.length=lb+1:=⟨ys.length-1,by have:=List.length_pos_iff.mpr hy0;omega⟩
  have en:((xs.map V.int).length:Int)+((ys.map V.int).length:Int)-1=((la+lb+1:Nat):Int):=by rw [hlx,hly];omega
  refine ap ⟨by show 1<=sizeLine;omega,fun p2 hp2=>?_⟩
  have s0:=Same.upd_new (o:=.lst [V.int 0]) hp2
  refine ⟨_,rfl,a,_,rfl,.inl (SqL.of (s0 _ _ hA)),_,rfl,b,_,rfl,.inl (SqL.of (s0 _ _ hB)),_,_,rfl,rfl,_,_,rfl,rfl,?_⟩
  dsimp only
  rw [en]
  refine ⟨p2,_,_,rfl,rfl,ao,by omega,by omega,by show 1*_<=_;omega,fun p hp=>?_⟩
  rw [show ((la+lb+1:Nat):Int).toNat=la+lb+1 from rfl,og]
  have s4:=s0.then_new (o:=.lst ((List.replicate (la+lb+1) (0:Int)).map V.int)) hp
  have hp0:=s0.free hp
  have npa:a≠p:=aR hA hp0
  have npb:b≠p:=aR hB hp0
  have hp4:upd (upd H p2 (.lst [V.int 0])) p (.lst ((List.replicate (la+lb+1) (0:Int)).map V.int)) p=some (.lst ((List.replicate (la+lb+1) (0:Int)).map V.int)):=ao
  generalize upd (upd H p2 (.lst [V.int 0])) p (.lst ((List.replicate (la+lb+1) (0:Int)).map V.int))=H4 at s4 hp4 ⊢
  refine ⟨_,rfl,a,_,rfl,.inl (SqL.of (s4 _ _ hA)),_,rfl,by rw [hlx];omega,by rw [hlx];omega,?_⟩
  rw [hlx]
  refine im (lo:=0) (n:=xs.length) (fun j σ' H'=>∃ (acc:List Int) (z3 z4:Option V),σ'=[some (.ref a),some (.ref b),some (.ref p),z3,z4]/\SameB p H4 H'/\H' p=some (.lst (acc.map V.int))/\acc.length=la+lb+1/\∀ n,n<acc.length->cf acc n=sm xs ys n j)
   ⟨List.replicate (la+lb+1) 0,none,none,rfl,SameB.refl _ _,hp4,by simp,fun n _=>by rw [jD];rfl⟩ ?_ ?_
  ·rintro j σ' H' hjl ⟨acc,z3,z4,rfl,sb,hpa,hal,hac⟩
   have hA':=sb _ _ npa (s4 _ _ hA)
   have hB':=sb _ _ npb (s4 _ _ hB)
   refine ⟨_,rfl,b,_,rfl,.inl (SqL.of hB'),_,rfl,by rw [hly];omega,by rw [hly];omega,?_⟩
   rw [hly]
   refine im (lo:=0) (n:=ys.length) (fun i σ' H'=>∃ (acc:List Int) (z4:Option V),σ'=[some (.ref a),some (.ref b),some (.ref p),some (.int (0+(j:Int))),z4]/\SameB p H4 H'/\H' p=some (.lst (acc.map V.int))/\acc.length=la+lb+1/\∀ n,n<acc.length->cf acc n=sm xs ys n j+(if j<=n/\n-j<i then tm xs ys n j else 0))
    ⟨acc,z4,rfl,sb,hpa,hal,uT hac⟩ ?_ ?_
   ·rintro i σ' H' hil ⟨acc,z4,rfl,sb,hpa,hal,hac⟩
    have hA':=sb _ _ npa (s4 _ _ hA)
    have hB':=sb _ _ npb (s4 _ _ hB)
    have hji:j+i<acc.length:=by omega
    have eji:(0+((j:Nat):Int))+(0+((i:Nat):Int))=((j+i:Nat):Int):=by omega
    have e0:∀ x:Nat,(0:Int)+((x:Nat):Int)=((x:Nat):Int):=fun x=>by omega
    refine ⟨_,rfl,_,rfl,_,rfl,_,_,rfl,rfl,p,_,_,_,rfl,rfl,SqL.of hpa,ir eji hji,_,rfl,_,rfl,a,_,_,_,rfl,rfl,SqL.of hA',ir (e0 j) hjl,_,rfl,_,rfl,b,_,_,_,rfl,rfl,SqL.of hB',ir (e0 i) hil,_,_,rfl,rfl,⟨bx.cf j,by'.cf i⟩,_,_,rfl,rfl,_,rfl,_,rfl,_,rfl,_,_,rfl,rfl,p,_,_,j+i,rfl,rfl,hpa,jn eji (by rw [List.length_map];exact hji),?_⟩
    exact ⟨acc.set (j+i) (cf acc (j+i)+cf xs j*cf ys i),_,rfl,sb.then_upd,by rw [ao,kS],by rw [List.length_set];exact hal,uS hjl hil hji hac⟩
   ·rintro σ' H' ⟨acc,z4,rfl,sb,hpa,hal,hac⟩
    exact ⟨acc,_,_,rfl,sb,hpa,hal,uU hac⟩
  ·rintro σ' H' ⟨acc,z3,z4,rfl,sb,hpa,hal,hac⟩
   refine ⟨_,rfl,k p H' (fun b' o e=>sb b' o (aR e hp0) (s4 b' o e)) hp0 ?_⟩
   rw [hpa]
   have e:acc=ad xs ys:=by
    apply dC
    ·rw [hal];unfold ad;rw [if_neg (by intro z;exact z.elim hx0 hy0),List.length_map,List.length_range];omega
    ·intro n _
     rw [aG,uV (by omega) hac]
   rw [e]
theorem wu {xs ys:List Int} {x y:Nat} (hx:AllB x xs) (hy:AllB y ys):∀ i,AllB (x+i*(y+1)) (aH xs ys i).1/\AllB (x+i*(y+1)) (aH xs ys i).2
 | 0=>by rw [Nat.zero_mul];exact ⟨AllB.zeros,hx⟩
 | i+1=>by
   obtain ⟨h1,h2⟩:=wu hx hy i
   have e:x+(i+1)*(y+1)=x+i*(y+1)+y+1:=by rw [Nat.succ_mul];omega
   have hs:Bits y (((RM.cf ys (ys.length-1)).natAbs:Nat):Int):=qG (hy.cf _)
   rw [e]
   show AllB _ (cA ys (aH xs ys i) _).1/\AllB _ (cA ys (aH xs ys i) _).2
   unfold cA
   dsimp only
   constructor
   ·intro v hv
    rcases List.mem_or_eq_of_mem_set hv with h | rfl
    ·obtain ⟨u,hu,rfl⟩:=List.mem_map.mp h
     exact (hs.mul (h1 u hu)).mono (by omega)
    ·exact (iP (h2.cf _)).mono (by omega)
   ·refine AllB.of_cf fun n=>?_
    rw [lB]
    by_cases hn:n<(scL (((RM.cf ys (ys.length-1)).natAbs:Nat):Int) (aH xs ys i).2).length-1
    ·rw [if_pos hn,aX]
     have m1:Bits (x+i*(y+1)+y) ((((RM.cf ys (ys.length-1)).natAbs:Nat):Int)*RM.cf (aH xs ys i).2 n):=by
      have:=hs.mul (h2.cf n);rwa [Nat.add_comm] at this
     refine m1.sub ?_
     by_cases hp:(xs.length+1-ys.length-1-i)<=n
     ·rw [if_pos hp]
      exact (iP (h2.cf _)).mul (hy.cf _)
     ·rw [if_neg hp];exact Bits.zero
    ·rw [if_neg hn];exact Bits.zero
theorem km {n:Nat} {l:List Int} (h:AllB n l):AllB n (ak l):=by
 intro y hy
 obtain ⟨x,hx,rfl⟩:=List.mem_map.mp hy
 obtain ⟨d,hd⟩:=ga hx
 by_cases hg:(ar l:Int)=0
 ·rw [hg,Int.ediv_zero];exact Bits.zero
 ·have e:x/(ar l:Int)=d:=by rw [hd];exact Int.mul_ediv_cancel_left d hg
  rw [e]
  refine (h x hx).of_le ?_
  rw [hd,Int.natAbs_mul]
  exact Nat.le_mul_of_pos_left _ (Int.natAbs_pos.mpr hg)
theorem my (l:List Int):(ak l).length=l.length:=List.length_map _
theorem tK (n:Nat) (o:List Int):Run n [] o:=by cases n with | zero=>rfl | succ n=>exact .inl rfl
theorem yv {n:Nat} {xs:List Int} (h:AllB n xs) (hl:xs.length<=9):AllB (n+4) (slopeL xs):=by
 intro x hx
 obtain ⟨k,hk,rfl⟩:=List.mem_map.mp hx
 have hk':k<xs.length-1:=List.mem_range.mp hk
 have b1:Bits 4 ((k:Int)+1):=Nat.lt_of_le_of_lt (show ((k:Int)+1).natAbs<=8 by omega) (by decide)
 exact (b1.mul (h.cf (k+1))).mono (by omega)
theorem yr (xs:List Int):(slopeL xs).length=xs.length-1:=by unfold slopeL;rw [List.length_map,List.length_range]
theorem tN:∀ (n:Nat) (one other:List Int),(aL n one other).length<=n
 | 0,_,_=>Nat.le_refl _
 | n+1,one,other=>by
   show (if one=[] then [] else one::aL n other (nxt one other)).length<=n+1
   split
   ·exact Nat.zero_le _
   ·have:=tN n other (nxt one other)
    rw [List.length_cons];omega
theorem fg {one other:List Int} {x y:Nat} (b1:AllB x one) (b2:AllB y other):Tr (nxt one other)/\(nxt one other).length<=other.length-1/\AllB (x+aP one other*(y+1)) (nxt one other):=by
 by_cases ho:other=[]
 ·subst ho
  have e:nxt one []=[]:=by unfold nxt rst;rw [if_pos rfl];rfl
  rw [e]
  exact ⟨fun n hn=>by simp at hn,Nat.zero_le _,AllB.nil⟩
 ·have rb:AllB (x+aP one other*(y+1)) (aB one other):=((wu b1 b2 (aP one other)).2).trim
  refine ⟨fJ (di _),?_,?_⟩
  ·unfold nxt rst
   rw [if_neg ho,gU (dR _ _),my,cz]
   have:=eM (a:=one) ho
   omega
  ·unfold nxt rst
   rw [if_neg ho,gU (dR _ _)]
   refine km fun v hv=>?_
   obtain ⟨u,hu,rfl⟩:=List.mem_map.mp hv
   have:=(rb u hu).neg
   rwa [show -1*u = -u by omega]
theorem iC {n:Nat} {one other:List Int} {x y:Nat} (t1:Tr one) (t2:Tr other) (b1:AllB x one) (b2:AllB y other) (l1:one.length<=9) (l2:other.length<=9) (hx:x<=1000) (hy:y<=1000) (h:Run n other (nxt one other)/\∀ xs∈aL n other (nxt one other),xs.length<=20/\AllB 1000 xs):Run (n+1) one other/\∀ xs∈aL (n+1) one other,xs.length<=20/\AllB 1000 xs:=by
 by_cases ho:one=[]
 ·subst ho
  exact ⟨tK _ _,fun xs hx=>by rw [fO] at hx;exact nomatch hx⟩
 ·refine ⟨.inr ⟨⟨t1,t2,1000,b1.mono hx,b2.mono hy,by omega,by omega⟩,h.1⟩,fun xs hm=>?_⟩
  have e:aL (n+1) one other=one::aL n other (nxt one other):=by
   show (if one=[] then [] else one::aL n other (nxt one other))=_
   rw [if_neg ho]
  rw [e] at hm
  rcases List.mem_cons.mp hm with rfl | hm
  ·exact ⟨by omega,b1.mono hx⟩
  ·exact h.2 xs hm
theorem zo {p F:List Int} (hp:Tr p) (p2:2<=p.length) (pl:p.length<=3) (pb:AllB 48 p) (tF:Tr F) (lF:F.length<=9) (bF:AllB 125 F):Run 14 p F/\∀ xs∈aL 14 p F,xs.length<=20/\AllB 1000 xs:=by
 obtain ⟨t2,l2,b2⟩:=fg pb bF
 obtain ⟨B2,hB2,b2',B3,b3',hB3,B4,b4',hB4,l3,l4⟩:∃ B2,B2<=1000/\AllB B2 (nxt p F)/\∃ B3,AllB B3 (nxt F (nxt p F))/\B3<=1000/\∃ B4,AllB B4 (nxt (nxt p F) (nxt F (nxt p F)))/\B4<=1000/\(nxt F (nxt p F)).length<=9/\(nxt (nxt p F) (nxt F (nxt p F))).length<=1:=by
  rcases Nat.lt_or_ge p.length F.length with z | z
  ·have e0:aP p F=0:=by unfold aP;omega
   have nF:F≠[]:=fun y=>by subst y;simp at z
   have len2:(nxt p F).length=p.length:=by
    unfold nxt rst
    rw [if_neg nF,gU (dR _ _),my,cz]
    unfold aB
    rw [e0]
    show (trim p).length=_
    rw [lK hp]
   rw [e0,Nat.zero_mul] at b2
   obtain ⟨t3,l3,b3⟩:=fg bF b2
   obtain ⟨t4,l4,b4⟩:=fg b2 b3
   have d3:aP F (nxt p F)<=10-p.length:=by unfold aP;omega
   have m3:=Nat.mul_le_mul_right 49 d3
   by_cases q:(nxt F (nxt p F)).length=2
   ·have p3:p.length=3:=by omega
    rw [p3] at m3
    have d4:aP (nxt p F) (nxt F (nxt p F))=2:=by unfold aP;omega
    rw [d4] at b4
    exact ⟨48,by omega,b2,_,b3,by omega,_,b4,by omega,by omega,by omega⟩
   ·have e4:nxt (nxt p F) (nxt F (nxt p F))=[]:=List.length_eq_zero_iff.mp (by omega)
    refine ⟨48,by omega,b2,_,b3,?_,0,by rw [e4];exact AllB.nil,by omega,by omega,by rw [e4];exact Nat.zero_le _⟩
    have:(10-p.length)*49<=8*49:=Nat.mul_le_mul_right 49 (by omega)
    omega
  ·by_cases nF:F=[]
   ·subst nF
    have e2:nxt p []=[]:=by unfold nxt rst;rw [if_pos rfl];rfl
    have e3:nxt [] ([]:List Int)=[]:=by unfold nxt rst;rw [if_pos rfl];rfl
    rw [e2,e3,e3]
    exact ⟨0,by omega,AllB.nil,0,AllB.nil,by omega,0,AllB.nil,by omega,Nat.zero_le _,Nat.zero_le _⟩
   ·have fl:=List.length_pos_iff.mpr nF
    have d2:aP p F<=3:=by unfold aP;omega
    have m2:=Nat.mul_le_mul_right 126 d2
    have b2:=b2.mono (k:=426) (by omega)
    obtain ⟨t3,l3,b3⟩:=fg bF b2
    obtain ⟨t4,l4,b4⟩:=fg b2 b3
    have e4:nxt (nxt p F) (nxt F (nxt p F))=[]:=List.length_eq_zero_iff.mp (by omega)
    rw [e4]
    by_cases q:(nxt p F).length=2
    ·have d3:aP F (nxt p F)<=2:=by unfold aP;omega
     have m3:=Nat.mul_le_mul_right 427 d3
     exact ⟨426,by omega,b2,_,b3,by omega,0,AllB.nil,by omega,by omega,Nat.zero_le _⟩
    ·have e3:nxt F (nxt p F)=[]:=List.length_eq_zero_iff.mp (by omega)
     rw [e3]
     exact ⟨426,by omega,b2,0,AllB.nil,by omega,0,AllB.nil,by omega,Nat.zero_le _,Nat.zero_le _⟩
 obtain ⟨t3,l3',_⟩:=fg bF b2'
 obtain ⟨t4,l4',_⟩:=fg b2' b3'
 obtain ⟨t5,l5,_⟩:=fg b3' b4'
 have e5:nxt (nxt F (nxt p F)) (nxt (nxt p F) (nxt F (nxt p F)))=[]:=List.length_eq_zero_iff.mp (by omega)
 refine iC hp tF pb bF (by omega) lF (by omega) (by omega) (iC tF t2 bF b2' lF (by omega) (by omega) hB2 (iC t2 t3 b2' b3' (by omega) l3 hB2 hB3 (iC t3 t4 b3' b4' l3 (by omega) hB3 hB4 ?_)))
 rw [e5]
 exact iC t4 (fun n hn=>by simp at hn) b4' (AllB.nil (k:=0)) (by omega) (Nat.zero_le _) hB4 (by omega) ⟨tK _ _,fun xs hx=>by rw [fO] at hx;exact nomatch hx⟩
theorem uj {n:Nat} {l:List Int} (h:AllB n l):AllB n (av l):=by
 unfold av b9
 split
 ·intro y hy
  obtain ⟨x,hx,rfl⟩:=List.mem_map.mp hy
  exact (km h x hx).neg
 ·exact km h
theorem sY {i j:Nat} {a b:List Int} {n:Nat} (ha:AllB i a) (hb:AllB j b):∀ m,Bits (i+j+m) (sm a b n m)
 | 0=>Bits.zero
 | m+1=>by
   rw [sm]
   refine (sY ha hb m).add ?_
   unfold tm
   split
   ·exact ((ha.cf m).mul (hb.cf _)).mono (by omega)
   ·exact Bits.zero
theorem uX {i j k:Nat} {a b:List Int} (ha:AllB i a) (hb:AllB j b) (hk:i+j+a.length<=k):AllB k (ad a b):=AllB.of_cf fun n=>by
 rw [aG];exact (sY ha hb a.length).mono hk
theorem vt {u v w d:Int} (hd:0<d):aT u v w d=aK [u,d*v*v,w]:=by
 unfold aT
 show _=av (aI u (d*v*v) w)
 unfold aI
 by_cases hv:v=0
 ·subst hv
  rw [if_pos rfl,if_pos (by omega)]
 ·have he:d*v*v≠0:=Int.mul_ne_zero (Int.mul_ne_zero (by omega) hv) hv
  rw [if_neg hv,if_neg he]
  have : -2*u*w = -2*w*u:=by grind
  rw [this]
theorem xf {k:Nat} {x:Int} (h:Bits k x):x.natAbs<2^k:=h
theorem wg {u v w d:Int} (hW:WOk u v w d):FacG [u,d*v*v,w]:=by
 have h1:=xf hW.bu
 have h2:=xf hW.bv
 have e1:(2:Nat)^21=2097152:=rfl
 have hvv:(v*v).natAbs<=2097152*2097152:=by rw [Int.natAbs_mul];exact Nat.mul_le_mul (by omega) (by omega)
 have hd:(d*(v*v)).natAbs<=13*(2097152*2097152):=by rw [Int.natAbs_mul];exact Nat.mul_le_mul (by have:=hW.d2;have:=hW.d13;omega) hvv
 have e2:d*v*v=d*(v*v):=Int.mul_assoc _ _ _
 have hn:=oN hW.ns v
 rw [e2] at hn ⊢
 exact ⟨u,d*(v*v),w,rfl,by omega,by omega,by omega,by omega,by have:=hW.w1;omega,by have:=hW.w12;omega,hn⟩
theorem vv {u v w d:Int} (hW:WOk u v w d):Pln (aT u v w d)/\2<=(aT u v w d).length/\(aT u v w d).length<=3/\AllB 48 (aT u v w d):=by
 have hw:=hW.w1
 have hP:=jv (wg hW)
 rw [<- vt (by have:=hW.d2;omega)] at hP
 refine ⟨hP.pln,hP.two,?_,?_⟩
 ·unfold aT
  split<;>rw [RM.plain_len]<;>simp
 ·have bw:=hW.bw
  unfold aT
  split
  ·refine uj ?_
   intro x hx
   rcases List.mem_cons.mp hx with rfl | hx
   ·exact hW.bu.neg.mono
   ·rw [List.mem_singleton.mp hx];exact bw.mono
  ·refine uj ?_
   intro x hx
   have b2:Bits 2 (-2:Int):=by show (-2:Int).natAbs<2^2;decide
   rcases List.mem_cons.mp hx with rfl | hx
   ·have q1:Bits 47 (u*u):=(hW.bu.mul hW.bu).mono
    have q2:Bits 47 (d*v*v):=((hW.bd.mul hW.bv).mul hW.bv).mono
    exact q1.sub q2
   ·rcases List.mem_cons.mp hx with rfl | hx
    ·exact ((b2.mul hW.bu).mul bw).mono
    ·rw [List.mem_singleton.mp hx];exact (bw.mul bw).mono
theorem xv {u v w d m l1 l2 h1 h2:Int} (hW:WOk u v w d) (hm0:0<=m) (hm:m<60) (hE:SpE u v w d m l1 l2 h1 h2):OneS [[u,d*v*v,w]] [u,d*v*v,w] [u,d*v*v,w,aS v] l1 l2 h1 h2:=by
 obtain ⟨en,ol,oh,ε,n1,n2,xss,hNS⟩:=ra hW hm0 hm hE
 have hF:Fam [[u,d*v*v,w]]:=⟨fun f hf=>by rw [List.mem_singleton.mp hf];exact wg hW,by simp⟩
 exact (AL hW.ns hF hE.l2p hE.h2p en.lt hNS.ru.low hNS.ru.top ol oh (fun x hx=>nomatch hx)).1
def SdN (C CN:Addr) (H:Hp) (x:Addr) (u v w d l1 l2 h1 h2:Int):Prop:=∃ q l h,NA CN H x q l h/\H q=some (.lst ((aT u v w d).map V.int))/\RA C H l l1 l2/\RA C H h h1 h2/\EndsG 40 l1 l2 h1 h2/\OneS [[u,d*v*v,w]] [u,d*v*v,w] [u,d*v*v,w,aS v] l1 l2 h1 h2
theorem SdN.same {C CN:Addr} {H H':Hp} {x:Addr} {u v w d l1 l2 h1 h2:Int} (n:SdN C CN H x u v w d l1 l2 h1 h2) (s:Same H H'):SdN C CN H' x u v w d l1 l2 h1 h2:=by
 obtain ⟨q,l,h,⟨dx,a⟩,b,c,e,en,o⟩:=n
 exact ⟨q,l,h,⟨dx,s _ _ a⟩,s _ _ b,c.same s,e.same s,en,o⟩
def sf (C CN:Addr):Sp:=fun vs H Q _=>∃ (a x:Addr) (q:List Int) (u v w d l1 l2 h1 h2:Int),vs=[.ref a,.ref x]/\H a=some (.lst (q.map V.int))/\Tr q/\q.length<=8/\AllB 71 q/\WOk u v w d/\SdN C CN H x u v w d l1 l2 h1 h2/\∀ H',Same H H'->Q (.int (sgq (hpA u v w d q).1 (hpA u v w d q).2.1 d)) H'
theorem AY {C CN f:Addr} {fd:FuncData} (F:Fun K "side" "side" mO f fd) (T:Txt K mg) (R:RCI K mg C) (RN:NCI K mg CN) {eK:Addr} {eJ:FuncData} (eO:Cal P w K mg base 2 "sign_at" ["row","ratio"] (gX C) eK eJ) {jz:Addr} {jr:FuncData} (jX:Cal P w K mg base 4 "count" ["row","low","high"] (kf C) jz jr) {qa:Addr} {pO:FuncData} (qW:Cal P w K mg base 34 "row_from" ["first","second"] mf qa pO) {qc:Addr} {pR:FuncData} (qY:Cal P w K mg base 1 "multiplied" ["first","second"] mj qc pR) {jw:Addr} {jo:FuncData} (jU:Cal P w K mg base 1 "slope" ["row"] (sp1 slopeL) jw jo):FnOk P w K mg base CX0 36 f fd ["row","one"] (sf C CN):=by
 obtain ⟨dY,dL,dO,dW⟩:=eO
 obtain ⟨jR,je,jl,jK⟩:=jX
 obtain ⟨qN,o3,pz,qy⟩:=qW
 obtain ⟨qO,o4,pA,qz⟩:=qY
 obtain ⟨jO,jb,ji,jH⟩:=jU
 refine F.ok yW (fun vs H Q E h=>?_) (fun cdv A outer s H vs Q E hr h=>?_)
 ·obtain ⟨a,x,q,u,v,w,d,l1,l2,h1,h2,rfl,_⟩:=h
  rfl
 ·obtain ⟨a,x,q,u,v,w,d,l1,l2,h1,h2,rfl,hA,tq,lq,bq,hW,hN,k⟩:=h
  obtain ⟨po,l,h,⟨dx,hx⟩,hpo,hl,hh,en,hO⟩:=hN
  obtain ⟨pP,p2,p3,pb⟩:=vv hW
  have eL:aT u v w d=aK [u,d*v*v,w]:=vt (by have:=hW.d2;omega)
  refine ⟨_,(af (aV (aE cI (al dY (hr.mono) rfl dL dO dW .nil ah (aa (aO (K:=K) rfl (pv 1) rfl) (aa (aO (K:=K) rfl (pv 1) rfl) ab))) ac (aA _))
   (ai (au (al dY (hr.mono) rfl dL dO dW .nil ah (aa (pv 0) (aa (aO (K:=K) rfl (pv 1) rfl) ab)))))
   aW)
   (ai (au (al jR (hr.mono) rfl je jl jK .nil ah (aa (al qN (hr.mono) rfl o3 pz qy .nil ah (aa (aO (K:=K) rfl (pv 1) rfl) (aa (al qO (hr.mono) rfl o4 pA qz .nil ah (aa (al jO (hr.mono) rfl jb ji jH .nil ah (aa (aO (K:=K) rfl (pv 1) rfl) ab)) (aa (pv 0) ab))) ab))) (aa (aO (K:=K) rfl (pv 1) rfl) (aa (aO (K:=K) rfl (pv 1) rfl) ab))))))),?_⟩
  refine bC ⟨_,rfl,x,CN,dx,_,_,rfl,hx,RN.cl,RN.nP,pI _ _ _,_,rfl,x,CN,dx,_,_,rfl,hx,RN.cl,RN.nH,pJ _ _ _,po,h,aT u v w d,h1,h2,⟨rfl,hpo,hh,by omega,pb.mono,en.bh1.mono,en.bh2.mono⟩,fun H1 s1=>⟨_,_,rfl,rfl,_,rfl,aJ (fun h0=>?_) (fun h0=>?_)⟩⟩
  ·have h0':sg (hv h1 h2 (aT u v w d))=0:=h0
   rw [eL] at h0'
   refine aU ⟨_,rfl,_,rfl,x,CN,dx,_,_,rfl,s1 _ _ hx,RN.cl,RN.nH,pJ _ _ _,a,h,q,h1,h2,⟨rfl,s1 _ _ hA,hh.same s1,by omega,bq.mono,en.bh1.mono,en.bh2.mono⟩,fun H2 s2=>?_⟩
   rw [xV hW.ns hW.w1 hO q h0']
   exact k H2 (s1.trans s2)
  ·have h0':¬ sg (hv h1 h2 (aT u v w d))=0:=h0
   have hx1:=s1 _ _ hx
   have hpo1:=s1 _ _ hpo
   have bs:AllB 52 (slopeL (aT u v w d)):=yv pb (by omega)
   have lS:=yr (aT u v w d)
   have bF:AllB 125 (ad (slopeL (aT u v w d)) q):=uX bs bq (by omega)
   have tF:Tr (ad (slopeL (aT u v w d)) q):=fK (lM pP.tr) tq
   have lF:(ad (slopeL (aT u v w d)) q).length<=9:=by
    by_cases hq:q=[]
    ·subst hq
     have e:ad (slopeL (aT u v w d)) []=[]:=by unfold ad;rw [if_pos (.inr rfl)]
     rw [e];exact Nat.zero_le _
    ·rw [bQ (fun z=>by have:=congrArg List.length z;rw [lS] at this;simp at this;omega) hq,lS]
     omega
   obtain ⟨hrun,hrows⟩:=zo (F:=ak (ad (slopeL (aT u v w d)) q)) pP.tr p2 p3 pb (fJ tF) (by rw [my];exact lF) (km bF)
   have eP:ak (aT u v w d)=aT u v w d:=iM (.inr pP.prim)
   have tar:=xW hW.ns hW.w1 hO tq (N:=14) (by omega) (by rw [<- eL];exact h0')
   rw [<- eL] at tar
   refine aU ⟨_,rfl,x,CN,dx,_,_,rfl,hx1,RN.cl,RN.nP,pI _ _ _,_,rfl,x,CN,dx,_,_,rfl,hx1,RN.cl,RN.nP,pI _ _ _,po,_,rfl,hpo1,by omega,pb.mono,fun p1 H2 s2 hp1 e1=>?_⟩
   refine ⟨_,rfl,p1,a,_,q,rfl,e1,s2 _ _ (s1 _ _ hA),by omega,by omega,bs.mono,bq.mono,fun p4 H3 s3 hp4 e4=>?_⟩
   have t3:=s2.trans s3
   refine ⟨po,p4,_,_,14,rfl,t3 _ _ hpo1,e4,pP.tr,tF,by omega,by omega,by decide,by rw [eP];exact hrun,fun l0 ps H4 s4 hl0 hps e5 hR=>?_⟩
   have t4:=t3.trans s4
   rw [eP] at hR
   have hx4:=t4 _ _ hx1
   refine ⟨_,rfl,x,CN,dx,_,_,rfl,hx4,RN.cl,RN.nL,Ez _ _ _,_,rfl,x,CN,dx,_,_,rfl,hx4,RN.cl,RN.nH,pJ _ _ _,l0,l,h,ps,_,l1,l2,h1,h2,rfl,e5,hR,(hl.same s1).same t4,(hh.same s1).same t4,en.bl1.mono,en.bl2.mono,en.bh1.mono,en.bh2.mono,hrows,?_,fun H5 s5=>?_⟩
   ·have:=tN 14 (aT u v w d) (ak (ad (slopeL (aT u v w d)) q))
    omega
   ·rw [wH,wH]
    rw [show vr 0 (sgs l1 l2 (aL 14 (aT u v w d) (ak (ad (slopeL (aT u v w d)) q))))-vr 0 (sgs h1 h2 (aL 14 (aT u v w d) (ak (ad (slopeL (aT u v w d)) q))))=_ from tar]
    exact k H5 (s1.trans (t4.trans s5))
def sA (K:PySem.W.Frag):Sp:=fun vs H Q _=>∃ (a:Addr) (ns:List Int),vs=[.ref a]/\SqL K H a (ns.map V.int)/\∀ (p:Addr) (H':Hp) (q:List Int),Same H H'->H p=none->H' p=some (.lst (q.map V.int))->Tr q->q.length<=6->AllB 20 q->Q (.ref p) H'
theorem BI {f:Addr} {fd:FuncData} (F:Fun K "_law_other" "_law_other" nR f fd) (T:Txt K mg) {jA:Addr} {jt:FuncData} (jY:Cal P w K mg base 1 "_law_cell_at" ["_law_script","_law_k"] (fM K) jA jt):FnOk P w K mg base CX0 2 f fd ["_law_script"] (sA K):=by
 obtain ⟨dZ,dM,dP,dX⟩:=jY
 refine F.ok sc__law_other (fun vs H Q E h=>?_) (fun cdv A outer s H vs Q E hr h=>?_)
 ·obtain ⟨a,ns,rfl,_⟩:=h
  rfl
 ·obtain ⟨a,ns,rfl,hS,k⟩:=h
  have big:=sizeLine_eq
  have hu:=hr.units
  refine ⟨_,(af (aj (i:=1) sc__law_other.nd rfl (Or.inl rfl) (al dZ (hr.mono) rfl dM dP dX .nil ah (aa (pv 0) (aa ac ab))))
   (af (aj (i:=2) sc__law_other.nd rfl (Or.inl rfl) (bj ab))
   (af (cv PassesOwn.never rfl (fb rfl T.range_ (aa (ag cM (pv 1) ac) ab)) (aQ (i:=3) sc__law_other.nd rfl (Or.inl rfl))
     (af (aj (i:=4) sc__law_other.nd rfl (Or.inl rfl) (al dZ (hr.mono) rfl dM dP dX .nil ah (aa (pv 0) (aa (ag bh ac (pv 3)) ab))))
       (ai (eW (kE PySem.F.plainAttrs_list PySem.F.slot_list_append PySem.F.type_list_append kN (pv 2) (aa (aM (bY (K:=K) rfl) (bj (aa (ag bK (ag cM (pv 4) ac) ac) (aa (ag bK (ag cM (pv 4) (ag bh (ag aD ac (ag ie ac ac)) ac)) (ag ie ac ac)) ab))) (ag cM (ag dm (pv 1) ac) ac) (fun _ _=>rfl)) ab))))))
   (af (ek PassesOwn.never (PW.pt (ee (aE (ff (K:=K) rfl hu) (pv 2) (bj ab) (aA _)) (d9 (aE cI (aM (bY (K:=K) rfl) (pv 2) (bJ bI ac) (fun _ _=>rfl)) ac (aA _)))))
     (ai (eW (uo PySem.F.plainAttrs_list PySem.F.slot_list_pop PySem.F.type_list_pop Ce (pv 2)))))
   (ai (au (pv 2))))))),?_⟩
  refine ap ⟨_,rfl,a,ns,4,rfl,hS,?_⟩
  generalize ns.getD 4 0=c
  refine ap ⟨Nat.zero_le _,fun l hl=>?_⟩
  have s1:=Same.upd_new (o:=.lst []) hl
  have e1:upd H l (.lst []) l=some (.lst (([]:List Int).map V.int)):=ao
  generalize upd H l (.lst [])=H1 at s1 e1 ⊢
  obtain ⟨c0,c1⟩:=i9 (x:=c) (m:=7) (by decide)
  obtain ⟨n,hn⟩:∃ n:Nat,c%7=(n:Int):=⟨(c%7).toNat,by omega⟩
  refine ⟨_,rfl,_,_,rfl,rfl,(by show (0:Int)<7;decide),n,congrArg (fun z:Int=>[V.int z]) hn,by omega,by omega,im (lo:=0) (n:=n) (fun i σ' H'=>∃ (z3 z4:Option V) (q:List Int),σ'=[some (.ref a),some (.int c),some (.ref l),z3,z4]/\Same H H'/\H' l=some (.lst (q.map V.int))/\q.length=i/\AllB 20 q) ⟨none,none,[],rfl,s1,e1,rfl,AllB.nil⟩ ?_ ?_⟩
  ·rintro i σ' H2 hi ⟨z3,z4,q,rfl,s2,e2,hq,bq⟩
   refine ap ⟨_,rfl,_,rfl,_,_,rfl,rfl,a,ns,5+i,?_,s2.seq hS,?_⟩
   ·show [V.ref a,V.int (5+(0+(i:Int)))]=[V.ref a,V.int ((5+i:Nat):Int)]
    rw [show (5+(0+(i:Int)):Int)=((5+i:Nat):Int) by omega]
   generalize ns.getD (5+i) 0=m
   have b2:Bits 1000000 (2:Int):=Bits.mono (j:=2) (by show (2:Int).natAbs<2^2;decide) (by decide)
   have b6:Bits 1000000 ((10:Int)^6):=Bits.mono (j:=20) (by show ((10:Int)^6).natAbs<2^20;decide) (by decide)
   refine ⟨_,rfl,.inl ⟨rfl,_,SqL.of e2⟩,_,rfl,_,_,rfl,rfl,(by show (0:Int)<101;decide),_,_,rfl,rfl,_,rfl,_,_,rfl,rfl,⟨by decide,by decide,by decide⟩,_,_,rfl,rfl,⟨b2,b6⟩,_,_,rfl,rfl,_,_,rfl,rfl,(by show (0:Int)<2*10^6+1;decide),_,_,rfl,rfl,⟨by decide,by decide,by decide⟩,_,_,rfl,rfl,by show 2<=sizeLine;decide,fun pw hpw=>?_⟩
   obtain ⟨vz,hvz,evz⟩:=w5 (xs:=[V.int (m%101-50),V.int (m%(2*10^6+1)-10^6)]) (n:=2) rfl (by decide) (c/7)
   obtain ⟨x,rfl,bx⟩:∃ x:Int,vz=.int x/\Bits 20 x:=by
    simp only [List.mem_cons,List.not_mem_nil,or_false] at hvz
    rcases hvz with rfl | rfl
    ·refine ⟨_,rfl,?_⟩
     show (m%101-50).natAbs<2^20
     omega
    ·refine ⟨_,rfl,?_⟩
     show (m%(2*10^6+1)-10^6).natAbs<2^20
     omega
   have s3:Same H2 (upd H2 pw (.lst [V.int (m%101-50),V.int (m%(2*10^6+1)-10^6)])):=Same.upd_new hpw
   refine ⟨_,rfl,_,_,rfl,rfl,⟨by show (0:Int)<7;decide,gZ (by decide) (by decide)⟩,_,_,rfl,rfl,(by show (0:Int)<2;decide),pw,_,_,_,rfl,rfl,SqL.of ao,evz,l,_,_,rfl,rfl,s3 _ _ e2,by rw [List.length_map];omega,?_⟩
   refine ⟨some (.int (0+(i:Int))),some (.int m),q++[x],rfl,fi (s2.trans s3) hl,?_,?_,?_⟩
   ·rw [ao,List.map_append];rfl
   ·rw [List.length_append,hq];rfl
   ·intro y hy
    rcases List.mem_append.mp hy with z | z
    ·exact bq y z
    ·rw [List.mem_singleton.mp z];exact bx
  ·rintro σ' H2 ⟨z3,z4,q,rfl,s2,e2,hq,bq⟩
   refine ⟨fun m σ' H'=>∃ (q:List Int),σ'=[some (.ref a),some (.int c),some (.ref l),z3,z4]/\Same H H'/\H' l=some (.lst (q.map V.int))/\q.length<=6/\AllB 20 q/\m=q.length,⟨_,q,rfl,s2,e2,by omega,bq,rfl⟩,?_⟩
   clear s2 e2 hq bq q
   rintro m σ' H3 ⟨q,rfl,s3,e3,lq,bq,rfl⟩
   refine cW ⟨_,rfl,Nat.zero_le _,fun e he=>?_⟩
   have t3:=Same.upd_new (o:=.lst []) he
   refine ⟨l,e,q,[],rfl,rfl,SqL.of (t3 _ _ e3),SqL.of ao,_,rfl,cC (fun hne=>?_) (fun he'=>?_)⟩
   ·have hne':q≠[]:=hne
    obtain ⟨r,x,rfl⟩:=(ck q).resolve_left hne'
    have u3:=s3.trans t3
    have f3:=t3 _ _ e3
    generalize upd H3 e (.lst [])=H4 at u3 f3 ⊢
    refine ⟨_,rfl,_,rfl,l,_,_,_,rfl,rfl,SqL.of f3,qD r x,_,_,rfl,rfl,_,rfl,aJ (fun h0=>?_) (fun h0=>?_)⟩
    ·refine ⟨fun σ'' H''=>∃ m',m'<(r++[x]).length/\∃ (q:List Int),σ''=[some (.ref a),some (.int c),some (.ref l),z3,z4]/\Same H H''/\H'' l=some (.lst (q.map V.int))/\q.length<=6/\AllB 20 q/\m'=q.length,fun _ _ h=>h,?_⟩
     have ll:(r++[x]).length=r.length+1:=by rw [List.length_append];rfl
     refine ⟨_,rfl,.inl ⟨rfl,_,SqL.of f3⟩,l,_,.int x,rfl,rfl,f3,?_,?_⟩
     ·rw [List.length_map,ll,List.map_append]
      show ((r.map V.int)++[V.int x])[r.length]?=_
      rw [List.getElem?_append_right (by rw [List.length_map];exact Nat.le_refl _),List.length_map]
      simp
     ·refine ⟨r.length,by omega,r,rfl,fi u3 hl,?_,by omega,fun y hy=>bq y (List.mem_append_left _ hy),rfl⟩
      rw [ao,List.map_append]
      show some (HO.lst ((r.map V.int++[V.int x]).dropLast))=_
      rw [List.dropLast_concat]
    ·have h0':¬ x=0:=h0
     dsimp only
     exact ⟨_,rfl,k l H4 (r++[x]) u3 hl f3 (tr_snoc.mpr h0') lq bq⟩
   ·have he2:q=[]:=he'
    subst he2
    refine c9 ?_
    dsimp only
    exact ⟨_,rfl,k l _ [] (s3.trans t3) hl (t3 _ _ e3) (fun n hn=>by simp at hn) (Nat.zero_le _) AllB.nil⟩
theorem pD {u v w d:Int} (hW:WOk u v w d):∀ {l:List Int},AllB 71 l->Bits (80+30*l.length) (hpA u v w d l).1/\Bits (80+30*l.length) (hpA u v w d l).2.1/\Bits (1+4*l.length) (hpA u v w d l).2.2
 | [],_=>⟨Bits.zero,Bits.zero,by show (1:Int).natAbs<2^1;decide⟩
 | c::l,h=>by
   obtain ⟨h1,h2,h3⟩:=pD hW (l:=l) fun x hx=>h x (List.mem_cons_of_mem _ hx)
   have hc:=h c (List.mem_cons_self ..)
   have e:(c::l).length=l.length+1:=rfl
   rw [e]
   refine ⟨?_,?_,?_⟩
   ·have q1:Bits (80+30*l.length+26) ((hpA u v w d l).1*u):=(h1.mul hW.bu).mono (by omega)
    have q2:Bits (80+30*l.length+26) ((hpA u v w d l).2.1*v*d):=((h2.mul hW.bv).mul hW.bd).mono (by omega)
    have q3:Bits (80+30*l.length+27) (c*(hpA u v w d l).2.2):=(hc.mul h3).mono (by omega)
    exact ((q1.add q2).add q3).mono (by omega)
   ·have q1:Bits (80+30*l.length+26) ((hpA u v w d l).1*v):=(h1.mul hW.bv).mono (by omega)
    have q2:Bits (80+30*l.length+26) ((hpA u v w d l).2.1*u):=(h2.mul hW.bu).mono (by omega)
    exact (q1.add q2).mono (by omega)
   ·exact (h3.mul hW.bw).mono (by omega)
def sF:Sp:=fun vs H Q _=>∃ (a p:Addr) (q:List Int) (u v w d:Int),vs=[.ref a,.ref p]/\H a=some (.lst (q.map V.int))/\WT H p u v w d/\WOk u v w d/\q.length<=8/\AllB 71 q/\Q (.int (sgq (hpA u v w d q).1 (hpA u v w d q).2.1 d)) H
theorem BG {f:Addr} {fd:FuncData} (F:Fun K "_law_side" "_law_side" nO f fd) (T:Txt K mg) {FP:Addr} {E8:FuncData} (IL:Cal P w K mg base 1 "_law_sign" ["_law_u","_law_v","_law_d"] se FP E8):FnOk P w K mg base CX0 2 f fd ["_law_kq","_law_worth_here"] sF:=by
 obtain ⟨HR,Da,DS,G3⟩:=IL
 refine F.ok sc__law_side (fun vs H Q E h=>?_) (fun cdv A outer s H vs Q E hr h=>?_)
 ·obtain ⟨a,p,q,u,v,w,d,rfl,_⟩:=h
  rfl
 ·obtain ⟨a,p,q,u,v,w,d,rfl,hA,hp,hW,lq,bq,k⟩:=h
  have big:=sizeLine_eq
  have hl:(q.map V.int).length=q.length:=List.length_map _
  refine ⟨_,(af (eX (pv 1) (ic rfl (cw (aQ (i:=2) sc__law_side.nd rfl (Or.inl rfl)) (cw (aQ (i:=3) sc__law_side.nd rfl (Or.inl rfl)) (cw (aQ (i:=4) sc__law_side.nd rfl (Or.inl rfl)) (cw (aQ (i:=5) sc__law_side.nd rfl (Or.inl rfl)) ib))))))
   (af (aj (i:=6) sc__law_side.nd rfl (Or.inl rfl) ac)
   (af (aj (i:=7) sc__law_side.nd rfl (Or.inl rfl) ac)
   (af (aj (i:=8) sc__law_side.nd rfl (Or.inl rfl) ac)
   (af (cv PassesOwn.never rfl (fb rfl T.range_ (aa (bA (cE (K:=K) rfl) (by rfl) T.len_ PySem.boot_len (aa (pv 0) ab)) ab)) (aQ (i:=9) sc__law_side.nd rfl (Or.inl rfl))
     (af (aj (i:=10) sc__law_side.nd rfl (Or.inl rfl) (aM (bY (K:=K) rfl) (pv 0) (ag bK (ag bK (bA (cE (K:=K) rfl) (by rfl) T.len_ PySem.boot_len (aa (pv 0) ab)) ac) (pv 9)) (fun _ _=>rfl)))
       (af (Ac (i:=6) (j:=7) rfl sc__law_side.nd rfl rfl (by decide) rfl rfl (aa (ag bh (ag bh (ag aD (pv 6) (pv 2)) (ag aD (ag aD (pv 7) (pv 3)) (pv 5))) (ag aD (pv 10) (pv 8))) (aa (ag bh (ag aD (pv 6) (pv 3)) (ag aD (pv 7) (pv 2))) ab)) (by rfl))
       (ai (aj (i:=8) sc__law_side.nd rfl (Or.inl rfl) (ag aD (pv 8) (pv 4)))))))
   (ai (au (al HR (hr.mono) rfl Da DS G3 .nil ah (aa (pv 6) (aa (pv 7) (aa (pv 5) ab))))))))))),?_⟩
  refine ⟨_,rfl,p,_,rfl,SqT.of hp,rfl,_,_,rfl,_,_,rfl,_,_,rfl,_,_,rfl,rfl,?_⟩
  dsimp only
  refine iU (fun σ' H'=>σ'=[some (.ref a),some (.ref p),some (.int u),some (.int v),some (.int w),some (.int d),none,none,none,none,none]/\H=H') ⟨rfl,rfl⟩ ?_
  rintro σ' H' ⟨rfl,rfl⟩
  refine ap ?_
  refine ap ?_
  refine ap ?_
  refine ⟨_,rfl,a,_,rfl,.inl (SqL.of hA),q.length,congrArg (fun z:Nat=>[V.int (z:Int)]) hl,by omega,by omega,im (lo:=0) (n:=q.length) (fun i σ' H'=>∃ (z9 z10:Option V),σ'=[some (.ref a),some (.ref p),some (.int u),some (.int v),some (.int w),some (.int d),some (.int (hpA u v w d (q.drop (q.length-i))).1),some (.int (hpA u v w d (q.drop (q.length-i))).2.1),some (.int (hpA u v w d (q.drop (q.length-i))).2.2),z9,z10]/\H=H') ⟨none,none,by rw [Nat.sub_zero,List.drop_length];rfl,rfl⟩ ?_ ?_⟩
  ·rintro i σ' H' hi ⟨z9,z10,rfl,rfl⟩
   have hb:=pD hW (l:=q.drop (q.length-i)) fun x hx=>bq x (List.mem_of_mem_drop hx)
   have ld:(q.drop (q.length-i)).length=i:=by rw [List.length_drop];omega
   rw [ld] at hb
   obtain ⟨h1,h2,h3⟩:=hb
   have h1:=h1.mono (k:=400) (by omega)
   have h2:=h2.mono (k:=400) (by omega)
   have h3:=h3.mono (k:=400) (by omega)
   have hlt:q.length-(i+1)<q.length:=by omega
   have ec:q.drop (q.length-(i+1))=cf q (q.length-(i+1))::q.drop (q.length-i):=by
    rw [List.drop_eq_getElem_cons hlt,cR hlt,show q.length-(i+1)+1=q.length-i by omega]
   have bc:Bits 71 (cf q (q.length-(i+1))):=bq.cf _
   have eix:atI (q.map V.int) ((((q.map V.int).length:Nat):Int)-1-(0+(i:Int)))=some (.int (cf q (q.length-(i+1)))):=qE (k:=q.length-(i+1)) (by rw [hl];omega) hlt
   refine ap ⟨_,rfl,_,rfl,a,_,rfl,.inl (SqL.of hA),_,_,rfl,rfl,_,rfl,_,_,rfl,rfl,a,_,_,_,rfl,rfl,SqL.of hA,eix,?_⟩
   have eA:hpA u v w d (q.drop (q.length-(i+1)))=((hpA u v w d (q.drop (q.length-i))).1*u+(hpA u v w d (q.drop (q.length-i))).2.1*v*d+cf q (q.length-(i+1))*(hpA u v w d (q.drop (q.length-i))).2.2,(hpA u v w d (q.drop (q.length-i))).1*v+(hpA u v w d (q.drop (q.length-i))).2.1*u,(hpA u v w d (q.drop (q.length-i))).2.2*w):=by rw [ec];rfl
   rw [eA]
   generalize hpA u v w d (q.drop (q.length-i))=g at h1 h2 h3 ⊢
   obtain ⟨x,y,z⟩:=g
   dsimp only at h1 h2 h3 ⊢
   generalize cf q (q.length-(i+1))=c at bc ⊢
   have bu:=hW.bu
   have bv:=hW.bv
   have bw:=hW.bw
   have bd:=hW.bd
   have byv:Bits 430 (y*v):=(h2.mul bv).mono
   refine ⟨_,rfl,_,rfl,_,_,rfl,rfl,⟨h1.mono,bu.mono⟩,_,rfl,_,rfl,_,_,rfl,rfl,⟨h2.mono,bv.mono⟩,_,rfl,_,_,rfl,rfl,⟨byv.mono,bd.mono⟩,_,_,rfl,rfl,_,rfl,_,rfl,_,_,rfl,rfl,⟨bc.mono,h3.mono⟩,_,_,rfl,rfl,?_⟩
   refine ⟨_,rfl,_,rfl,_,_,rfl,rfl,⟨h1.mono,bv.mono⟩,_,rfl,_,rfl,_,_,rfl,rfl,⟨h2.mono,bu.mono⟩,_,_,rfl,rfl,_,_,rfl,?_⟩
   dsimp only
   refine cV ⟨_,rfl,_,rfl,_,_,rfl,rfl,⟨h3.mono,bw.mono⟩,?_⟩
   exact ⟨some (.int (0+(i:Int))),some (.int c),rfl,rfl⟩
  ·rintro σ' H' ⟨z9,z10,rfl,rfl⟩
   rw [Nat.sub_self,List.drop_zero]
   obtain ⟨h1,h2,h3⟩:=pD hW bq
   exact ⟨_,rfl,_,rfl,_,rfl,_,_,_,rfl,h1.mono (by omega),h2.mono (by omega),hW.bd.mono,k⟩
theorem xM {l:List Int} (h:Tr l):Tr (l.map fun x => -x):=fun n hn=>by
 rw [List.length_map] at hn
 have:=h n hn
 have e:(l.map fun x => -x)=scL (-1) l:=List.map_congr_left fun x _=>by omega
 rw [e,aX];omega
theorem zG {Q:Hp->Prop} {H1 H2:Hp} (e:H1=H2) (h:Q H2):Q H1:=by rw [e];exact h
theorem Bl {C CN f:Addr} {fd:FuncData} (F:Fun K "law" "law" ng f fd) (T:Txt K mg) (R:RCI K mg C) (RN:NCI K mg CN) {FL:Addr} {E4:FuncData} (IH:Cal P w K mg base 2 "_law_worth" ["_law_script","_law_k"] (rW K) FL E4) {FO:Addr} {E7:FuncData} (IK:Cal P w K mg base 4 "_law_span" ["_law_worth_here","_law_more"] (sd C) FO E7) {jA:Addr} {jt:FuncData} (jY:Cal P w K mg base 1 "_law_cell_at" ["_law_script","_law_k"] (fM K) jA jt) {f_number:Addr} {fd_number:FuncData} {ds_number:List Value} (Iq:CalE P w K mg base 38 "number" ["row","low","high"] (mh C CN) f_number fd_number ds_number [.non,.non]) {FT:Addr} {Fc:FuncData} (IP:Cal P w K mg base 3 "_law_least" ["_law_worth_here"] sI FT Fc) {FS:Addr} {Fb:FuncData} (IO:Cal P w K mg base 2 "_law_other" ["_law_script"] (sA K) FS Fb) {FN:Addr} {E6:FuncData} (IJ:Cal P w K mg base 1 "_law_times" ["_law_one","_law_other_here"] rZ FN E6) {FQ:Addr} {E9:FuncData} (IM:Cal P w K mg base 2 "_law_side" ["_law_kq","_law_worth_here"] sF FQ E9) {Fp:Addr} {EI:FuncData} (Ii:Cal P w K mg base 36 "side" ["row","one"] (sf C CN) Fp EI) {FM:Addr} {E5:FuncData} (II:Cal P w K mg base 1 "_law_whole" ["_law_found"] rX FM E5):FnOk P w K mg base CX0 39 f fd ["_law_script"] (ka K):=by
 obtain ⟨HN,CY,DP,GZ⟩:=IH
 obtain ⟨HQ,C4,DR,G2⟩:=IK
 obtain ⟨dZ,dM,dP,dX⟩:=jY
 obtain ⟨HA,CI,DC,GM,I9,IZ⟩:=Iq
 obtain ⟨xr,vi,vE,wZ⟩:=IP
 obtain ⟨HU,Dc,DU,G5⟩:=IO
 obtain ⟨HP,CZ,DQ,G0⟩:=IJ
 obtain ⟨HS,Db,DT,G4⟩:=IM
 obtain ⟨qJ,oY,pe,qu⟩:=Ii
 obtain ⟨xo,vg,vC,wX⟩:=II
 refine F.ok sc_law (fun vs H Q E h=>?_) (fun cdv A outer s H vs Q E hr h=>?_)
 ·obtain ⟨a,ns,rfl,_⟩:=h
  rfl
 ·obtain ⟨a,ns,rfl,hS,hlen,k⟩:=h
  have big:=sizeLine_eq
  have hu:=hr.units
  refine ⟨_,(af (aj (i:=1) sc_law.nd rfl (Or.inl rfl) (al HN (hr.mono) rfl CY DP GZ .nil ah (aa (pv 0) (aa ac ab))))
   (af (aj (i:=2) sc_law.nd rfl (Or.inl rfl) (al HQ (hr.mono) rfl C4 DR G2 .nil ah (aa (pv 1) (aa (ag cM (al dZ (hr.mono) rfl dM dP dX .nil ah (aa (pv 0) (aa ac ab))) ac) ab))))
   (af (aj (i:=3) sc_law.nd rfl (Or.inl rfl) (al HA (hr.mono) rfl CI DC GM .nil ah (aa (al xr (hr.mono) rfl vi vE wZ .nil ah (aa (pv 1) ab)) (aa (aM (cb (K:=K) rfl) (pv 2) ac (fun _ _=>rfl)) (aa (aM (cb (K:=K) rfl) (pv 2) ac (fun _ _=>rfl)) ab)))))
   (af (aj (i:=4) sc_law.nd rfl (Or.inl rfl) (al HU (hr.mono) rfl Dc DU G5 .nil ah (aa (pv 0) ab)))
   (af (aV (PW.pt (ee (aE (ff (K:=K) rfl hu) (pv 4) (bj ab) (aA _)) (d9 (aE cI (ag cM (ag dm (al dZ (hr.mono) rfl dM dP dX .nil ah (aa (pv 0) (aa ac ab))) ac) ac) ac (aA _)))))
     (ai (aj (i:=4) sc_law.nd rfl (Or.inl rfl) (al HP (hr.mono) rfl CZ DQ G0 .nil ah (aa (pv 4) (aa (al xr (hr.mono) rfl vi vE wZ .nil ah (aa (pv 1) ab)) ab)))))
     aW)
   (af (aj (i:=5) sc_law.nd rfl (Or.inl rfl) (al HS (hr.mono) rfl Db DT G4 .nil ah (aa (pv 4) (aa (pv 1) ab))))
   (af (aj (i:=6) sc_law.nd rfl (Or.inl rfl) (fe (lC (K:=K) rfl) (by rfl) T.list_ PyProof.Rows.boot_list (aa (pv 4) ab)))
   (af (aj (i:=7) sc_law.nd rfl (Or.inl rfl) (al qJ (hr.mono) rfl oY pe qu .nil ah (aa (pv 6) (aa (pv 3) ab))))
   (af (aj (i:=8) sc_law.nd rfl (Or.inl rfl) (al qJ (hr.mono) rfl oY pe qu .nil ah (aa (dH (own:=["_law_one"]) (fr:=[]) (js:=[]) (by walk_at "comp_ok") rfl (dj (K:=K) rfl (pv 4)) (fun _ _ _ _=>(aQ (i:=0) (show List.Nodup (["_law_one"]:List Str) from by decide +kernel) rfl (Or.inl rfl))) (fun _ _ _ _=>(bJ bI (pv 0)))) (aa (pv 3) ab))))
   (af (aV (PW.pt (ou (aE (ff (K:=K) rfl hu) (pv 6) (pv 4) (aA _)) (ou (uc (ox (al xo (hr.mono) rfl vg vC wX .nil ah (aa (pv 7) ab)))) (tZ (uc (ox (al xo (hr.mono) rfl vg vC wX .nil ah (aa (pv 8) ab))))))))
     (ai (au AE))
     aW)
   (af (eW (kE PySem.F.plainAttrs_list PySem.F.slot_list_append PySem.F.type_list_append kN (pv 6) (aa ac ab)))
   (ai (au (oG (eo cI (pv 7) (pv 5) (aA _)) (oG (eo cI (pv 8) (bJ bI (pv 5)) (aA _)) (oE (eo cI (al qJ (hr.mono) rfl oY pe qu .nil ah (aa (pv 4) (aa (pv 3) ab))) (pv 5) (aA _)))))))))))))))))),?_⟩
  refine ap ⟨_,rfl,a,ns,rfl,hS,fun p H1 u v w d s1 hp1 hp hW=>?_⟩
  obtain ⟨m0,m1⟩:=i9 (x:=ns.getD 3 0) (m:=60) (by decide)
  refine ap ⟨_,rfl,_,rfl,a,ns,3,rfl,s1.seq hS,_,_,rfl,rfl,(by show (0:Int)<60;decide),p,u,v,w,d,_,rfl,hp,hW,m0,m1,fun t l h H2 l1 l2 h1 h2 s2 ht et hl hh hE=>?_⟩
  have t2:=s1.trans s2
  have hp2:=s2 _ _ hp
  obtain ⟨en,ol,oh,ε,n1,n2,xss,hNS⟩:=ra hW m0 m1 hE
  have hO:=xv hW m0 m1 hE
  obtain ⟨pP,p2,p3,pb⟩:=vv hW
  refine ap ⟨_,rfl,p,u,v,w,d,rfl,hp2,hW,fun b H3 s3 hb eb=>?_⟩
  have et3:=s3 _ _ et
  refine ⟨_,rfl,t,_,_,_,rfl,rfl,SqT.of et3,rfl,_,rfl,t,_,_,_,rfl,rfl,SqT.of et3,rfl,b,l,h,_,l1,l2,h1,h2,ε,_,n1,n2,xss,rfl,eb,hl.same s3,hh.same s3,hNS,fun x q H4 s4 hx hNA hq hqn=>?_⟩
  have u4:=s3.trans s4
  have t4:=t2.trans u4
  have hN:SdN C CN H4 x u v w d l1 l2 h1 h2:=⟨q,l,h,hNA,hq,hl.same u4,hh.same u4,en,hO⟩
  have hp4:=u4 _ _ hp2
  clear hNS hq hNA hqn hx eb hb et3 s4 s3
  refine ap ⟨_,rfl,a,ns,rfl,t4.seq hS,fun pq H5 kq s5 hpq eq5 tq lq bq=>?_⟩
  have t5:=t4.trans s5
  have hp5:=s5 _ _ hp4
  have hN5:=hN.same s5
  have fq:H pq=none:=t4.free hpq
  show cS _ _ _ _ _
  refine ku (fun σ' H'=>∃ (pq:Addr) (kq:List Int),σ'=[some (.ref a),some (.ref p),some (.ref t),some (.ref x),some (.ref pq),none,none,none,none]/\Same H5 H'/\H' pq=some (.lst (kq.map V.int))/\Tr kq/\kq.length<=8/\AllB 71 kq) ?_ ?_
  case refine_2 =>
   intro rest
   refine cW ⟨_,rfl,Nat.zero_le _,fun e he=>?_⟩
   have s6:=Same.upd_new (o:=.lst []) he
   refine ⟨pq,e,kq,[],rfl,rfl,SqL.of (s6 _ _ eq5),SqL.of ao,_,rfl,cC (fun hne=>?_) (fun he'=>?_)⟩
   ·have hne':kq≠[]:=hne
    generalize upd H5 e (.lst [])=H6 at s6 ⊢
    refine ⟨_,rfl,a,ns,4,rfl,(t5.trans s6).seq hS,_,_,rfl,rfl,⟨by show (0:Int)<14;decide,gZ (by decide) (by decide)⟩,_,_,rfl,rfl,(by show (0:Int)<3;decide),_,_,rfl,rfl,_,rfl,aJ (fun _=>?_) (fun _=>?_)⟩
    ·refine cV ⟨_,rfl,_,rfl,p,u,v,w,d,rfl,s6 _ _ hp5,hW,fun b2 H7 s7 hb2 eb2=>?_⟩
     refine ⟨pq,b2,kq,aT u v w d,rfl,s7 _ _ (s6 _ _ eq5),eb2,hne',pP.ne,by omega,by omega,bq.mono,pb.mono,fun p8 H8 s8 hp8 e8=>?_⟩
     refine rest _ _ ⟨p8,_,rfl,s6.trans (s7.trans s8),e8,fK tq pP.tr,?_,?_⟩
     ·rw [bQ hne' pP.ne];omega
     ·rw [kM]
      exact uX pb bq (by omega)
    ·exact rest _ _ ⟨pq,kq,rfl,s6,s6 _ _ eq5,tq,by omega,bq.mono⟩
   ·exact c9 (rest _ _ ⟨pq,kq,rfl,s6,s6 _ _ eq5,tq,by omega,bq.mono⟩)
  clear bq lq tq eq5 fq hpq
  rintro σ' H6 ⟨pq,kq,rfl,s6,e6,tq,lq,bq⟩
  have hp6:=s6 _ _ hp5
  have hN6:=hN5.same s6
  refine ap ⟨_,rfl,_,rfl,pq,p,kq,u,v,w,d,rfl,e6,hp6,hW,lq,bq,?_⟩
  refine ap ⟨_,rfl,pq,_,rfl,.inl (SqL.of e6),fun ph hph=>?_⟩
  have s7:Same H6 (upd H6 ph (.lst (kq.map V.int))):=Same.upd_new hph
  have eh7:upd H6 ph (.lst (kq.map V.int)) ph=some (.lst (kq.map V.int)):=ao
  have npq:ph≠pq:=fun z=>by rw [z,e6] at hph;cases hph
  refine zG (H2:=upd H6 ph (.lst (kq.map V.int))) rfl ?_
  generalize upd H6 ph (.lst (kq.map V.int))=H7 at s7 eh7 ⊢
  have e7:=s7 _ _ e6
  have hN7:=hN6.same s7
  refine ap ⟨_,rfl,_,rfl,ph,x,kq,u,v,w,d,l1,l2,h1,h2,rfl,eh7,tq,lq,bq,hW,hN7,fun H8 s8=>?_⟩
  have e8:=s8 _ _ e7
  have eh8:=s8 _ _ eh7
  have hN8:=hN7.same s8
  have hS8:=SqL.of (K:=K) e8
  refine ap ⟨_,rfl,pq,rfl,⟨_,hS8⟩,gC (K:=K) (a:=pq) (xs:=kq.map V.int) (fun i ys σ' H'=>∃ z0:Option V,σ'=[z0]/\ys=((kq.take i).map fun x => -x).map V.int/\H8=H') (by rw [List.length_map];omega) ⟨none,rfl,rfl,rfl⟩ ?_ ?_ ?_⟩
  ·rintro i ys σ' H' _ ⟨z0,rfl,rfl,rfl⟩
   exact ⟨hS8,by rw [List.length_map,List.length_map,List.length_take];exact Nat.min_le_left _ _⟩
  ·rintro i y ys σ' H' hi ⟨z0,rfl,rfl,rfl⟩
   obtain ⟨c,ec,rfl,hc,_⟩:=fu hi
   refine ⟨_,rfl,_,rfl,?_⟩
   refine ⟨_,rfl,?_,rfl⟩
   rw [List.take_add_one,ec]
   simp only [Option.toList_some,List.map_append,List.map_cons,List.map_nil]
  ·rintro ys σ' H' pm ⟨z0,rfl,rfl,rfl⟩ hpm
   rw [List.length_map,List.take_length]
   have s9:Same H8 (upd H8 pm (.lst ((kq.map fun x => -x).map V.int))):=Same.upd_new hpm
   have em:upd H8 pm (.lst ((kq.map fun x => -x).map V.int)) pm=some (.lst ((kq.map fun x => -x).map V.int)):=ao
   generalize upd H8 pm (.lst ((kq.map fun x => -x).map V.int))=H9 at s9 em ⊢
   refine ⟨_,rfl,pm,x,_,u,v,w,d,l1,l2,h1,h2,rfl,em,xM tq,by rw [List.length_map];exact lq,?_,hW,hN8.same s9,fun H10 s10=>?_⟩
   ·intro y hy
    obtain ⟨c,hc,rfl⟩:=List.mem_map.mp hy
    exact (bq c hc).neg
   have t10:=s9.trans s10
   rw [vX]
   dsimp only
   rw [yI hW.ns]
   obtain ⟨τ,hτ⟩:∃ τ,sgq (hpA u v w d kq).1 (hpA u v w d kq).2.1 d=τ:=⟨_,rfl⟩
   rw [hτ]
   have e10:=t10 _ _ e8
   have eh10:=t10 _ _ eh8
   have u10:Same H6 H10:=s7.trans (s8.trans t10)
   refine bC (tP ⟨_,rfl,_,rfl,ph,pq,kq,kq,rfl,rfl,SqL.of eh10,SqL.of e10,_,rfl,cC (fun hne=>absurd rfl hne) (fun _=>?_)⟩)
   refine tP (tQ ⟨_,rfl,τ,rfl,⟨_,rfl,c9 ?_⟩⟩)
   refine tQ ⟨_,rfl,-τ,rfl,⟨_,rfl,c9 ?_⟩⟩
   refine hJ ⟨_,rfl,.inl ⟨rfl,_,SqL.of eh10⟩,ph,_,_,rfl,rfl,eh10,by rw [List.length_map];omega,?_⟩
   have u11:Same H6 (upd H10 ph (.lst (kq.map V.int++[V.int 1]))):=fi u10 hph
   generalize upd H10 ph (.lst (kq.map V.int++[V.int 1]))=H11 at u11 ⊢
   refine aU (om ⟨_,rfl,_,rfl,_,_,rfl,rfl,_,rfl,aJ (fun _=>?_) (fun z=>absurd rfl z)⟩)
   refine om ⟨_,rfl,_,rfl,_,rfl,_,_,rfl,rfl,_,rfl,aJ (fun _=>?_) (fun z=>absurd rfl z)⟩
   refine ⟨_,rfl,_,rfl,pq,x,kq,u,v,w,d,l1,l2,h1,h2,rfl,u11 _ _ e6,tq,lq,bq,hW,hN6.same u11,fun H12 s12=>?_⟩
   rw [hτ]
   refine ⟨_,rfl,_,_,rfl,rfl,?_⟩
   show Q (.bl (decide (τ=τ))) H12
   rw [decide_eq_true rfl]
   exact k H12
end
def FnL (K:PySem.W.Frag) (n:Str) (st:Stmt):Prop:=∃ f fd,PySem.W.nsIn K mainGlobals n=some (some (.ref f))/\Fun K n n st f fd
def MtL (K:PySem.W.Frag) (C:Addr) (n q:Str) (st:Stmt):Prop:=∃ f fd,PySem.W.findIn K (.ref C) n=some (some (.ref f))/\PySem.W.isFn K (.ref f)=true/\Fun K n q st f fd
structure ClL (K:PySem.W.Frag) (n:Str) (C:Addr):Prop where
 a:PySem.W.nsIn K mainGlobals n=some (some (.ref C))
 pg:PySem.W.plainGet K C Str.empty=true
 hd:PySem.W.hasDictIn K C=true
 po:PySem.W.plainOver K C=true
 sa:PySem.W.findIn K (.ref C) "__setattr__"=some (some (.builtin "object.__setattr__"))
 mkr:PySem.W.makesIn K C=true
 kc:PySem.W.keepIn K (.ref C)=true
 ha:PySem.W.findIn K (.ref C) "__class__"=some (some (.builtin "object.__class__"))
 hn:PySem.W.specialIn K (.builtin "object.__class__") "__get__"=some (some (.builtin "getset_descriptor.__get__"))
 ht:PySem.W.takesIn K (.builtin "object.__class__")=some true
 hm:PySem.W.mroIn K C (.type "object")=some true
section
variable {P:Program} {w:World} {K:PySem.W.Frag} {mg:Str->Option Value} {h base:Heap} {n q:Str} {st:Stmt} {f C:Addr} {oc kV dc pm cd ct:Value} {od an:Option Addr} {sl:Array (Option Value)} {fd:FuncData} {k:Nat} {ps:List Str} {sp:Sp}
theorem fnL (a:PySem.W.nsIn K mainGlobals n=some (some (.ref f))) (l:K.lookup f=some ⟨oc,od,.func (PySem.W.fnOf n n (cQ st) (cG st) (aq st) .none kV dc pm an cd ct),sl⟩) (c:PySem.W.codeIn K cd n=true) (k:PySem.W.keepIn K (.ref f)=true):FnL K n st:=⟨_,_,a,v8 l c k⟩
theorem mtL (a:PySem.W.findIn K (.ref C) n=some (some (.ref f))) (i:PySem.W.isFn K (.ref f)=true) (l:K.lookup f=some ⟨oc,od,.func (PySem.W.fnOf n q (cQ st) (cG st) (aq st) .none kV dc pm an cd ct),sl⟩) (c:PySem.W.codeIn K cd q=true) (k:PySem.W.keepIn K (.ref f)=true):MtL K C n q st:=⟨_,_,a,i,v8 l c k⟩
def Bx (P:Program) (w:World) (base:Heap):Prop:=P=P/\w=w/\base=base
def BdR (n q:Str) (st:Stmt) (ps:List Str):Prop:=∀ (kV doc pm:Value) (an:Option Addr) (cdv ct:Value) (us:List Value),us.length=ps.length->bindArgs (PySem.W.fnOf n q (cQ st) (cG st) (aq st) .none kV doc pm an cdv ct) ⟨us,[]⟩=pure (ps.zip us)
theorem cal (_:Bx P w base) (X:K.In h) (G:h.Ns mainGlobals mg) (a:PySem.W.nsIn K mainGlobals n=some (some (.ref f))) (F:Fun K n n st f fd) (o:FnOk P w K mg base CX0 k f fd ps sp) (b:BdR n n st ps):Cal P w K mg base k n ps sp f fd:=⟨o,PySem.W.mg_of X G a,F.kp,F.binds b⟩
theorem ja (_:Bx P w base) (a:PySem.W.findIn K (.ref C) n=some (some (.ref f))) (i:PySem.W.isFn K (.ref f)=true) (F:Fun K n q st f fd) (o:FnOk P w K mg base CX0 k f fd ps sp) (b:BdR n q st ps):MCal P w K mg base k C n ps sp f fd:=⟨o,⟨a,i,F.kp⟩,F.binds b⟩
theorem us1 {A:List Value->Prop} (h:∀ a,A [a]):∀ us:List Value,us.length=1->A us
 | [a],_=>h a
theorem us2 {A:List Value->Prop} (h:∀ a b,A [a,b]):∀ us:List Value,us.length=2->A us
 | [a,b],_=>h a b
theorem us3 {A:List Value->Prop} (h:∀ a b c,A [a,b,c]):∀ us:List Value,us.length=3->A us
 | [a,b,c],_=>h a b c
theorem us4 {A:List Value->Prop} (h:∀ a b c d,A [a,b,c,d]):∀ us:List Value,us.length=4->A us
 | [a,b,c,d],_=>h a b c d
end
theorem all_mk {l:PySem.W.OpenLaw} {w:World} {K:PySem.W.Frag} {h:Heap} {mg:Str->Option Value} {fa CC1 CC2 f4 dt4 f51 dt51:Addr} (X:K.In h) (G:h.Ns mainGlobals mg) (hfa:mg "law"=some (.ref fa))
 {od4 an4 odt4 od51 an51 odt51:Option Addr} {sl4 slt4 sl51 slt51:Array (Option Value)} {oc4 kV4 dc4 pm4 cd4 ct4 oct4 oc51 kV51 dc51 pm51 cd51 ct51 oct51:Value} {nt4:Nat} {tk4_0:Tok} {nt51:Nat} {tk_HIGHEST:Tok}
 (cc1:ClL K "Ratio" CC1)
 (n1_top:PySem.W.findIn K (.ref CC1) "top"=some none)
 (n1_bottom:PySem.W.findIn K (.ref CC1) "bottom"=some none)
 (cc2:ClL K "Number" CC2)
 (n2_poly:PySem.W.findIn K (.ref CC2) "poly"=some none)
 (n2_low:PySem.W.findIn K (.ref CC2) "low"=some none)
 (n2_high:PySem.W.findIn K (.ref CC2) "high"=some none)
 (a4:PySem.W.findIn K (.ref CC1) "__init__"=some (some (.ref f4))) (i4:PySem.W.isFn K (.ref f4)=true)
 (l4:K.lookup f4=some ⟨oc4,od4,.func (PySem.W.fnOf "__init__" "Ratio.__init__" (cQ g9) (cG g9) (aq g9) (.ref dt4) kV4 dc4 pm4 an4 cd4 ct4),sl4⟩) (c4:PySem.W.codeIn K cd4 "Ratio.__init__"=true) (k4:PySem.W.keepIn K (.ref f4)=true)
 (t4:K.lookup dt4=some ⟨oct4,odt4,.seq #[.int 1 tk4_0] nt4,slt4⟩)
 (a51:PySem.W.nsIn K mainGlobals "number"=some (some (.ref f51)))
 (l51:K.lookup f51=some ⟨oc51,od51,.func (PySem.W.fnOf "number" "number" (cQ g8) (cG g8) (aq g8) (.ref dt51) kV51 dc51 pm51 an51 cd51 ct51),sl51⟩) (c51:PySem.W.codeIn K cd51 "number"=true) (k51:PySem.W.keepIn K (.ref f51)=true)
 (t51:K.lookup dt51=some ⟨oct51,odt51,.seq #[.none,.none] nt51,slt51⟩)
 (aI_HIGHEST:PySem.W.nsIn K mainGlobals "HIGHEST"=some (some (.int 8 tk_HIGHEST)))
 (z0:PySem.W.nsIn K mainGlobals "abs"=some none)
 (z1:PySem.W.nsIn K mainGlobals "len"=some none)
 (z2:PySem.W.nsIn K mainGlobals "max"=some none)
 (z3:PySem.W.nsIn K mainGlobals "range"=some none)
 (z4:PySem.W.nsIn K mainGlobals "enumerate"=some none)
 (z5:PySem.W.nsIn K mainGlobals "reversed"=some none)
 (z6:PySem.W.nsIn K mainGlobals "list"=some none)
 (z7:PySem.W.nsIn K mainGlobals "sum"=some none)
 (z8:PySem.W.nsIn K mainGlobals "any"=some none)
 (z9:PySem.W.nsIn K mainGlobals "isinstance"=some none)
 (z10:PySem.W.nsIn K mainGlobals "int"=some none)
 (z11:PySem.W.nsIn K mainGlobals "bool"=some none)
 (l1:FnL K "shared_by_two" mP)
 (l2:FnL K "shared" mQ)
 (l3:FnL K "whole_sign" mF)
 (l5:MtL K CC1 "against" "Ratio.against" n8)
 (l6:FnL K "poly" mW)
 (l7:FnL K "degree" np)
 (l8:FnL K "coefficient" nt)
 (l9:FnL K "taken" mI)
 (l10:FnL K "slope" mM)
 (l11:FnL K "shrunk" ko)
 (l12:FnL K "plain" mX)
 (l13:FnL K "scaled" mR)
 (l14:FnL K "lowered" m8)
 (l15:FnL K "divided" nl)
 (l16:FnL K "value_parts" mG)
 (l17:FnL K "sign_at" mN)
 (l18:FnL K "row_from" mT)
 (l19:FnL K "row_of" mS)
 (l20:FnL K "changes" nu)
 (l21:FnL K "count" nq)
 (l22:FnL K "bound" nC)
 (l23:FnL K "common" nr)
 (l24:FnL K "part" mY)
 (l25:FnL K "refuse_high" mU)
 (l26:FnL K "without_squares" mE)
 (l27:MtL K CC2 "__init__" "Number.__init__" n9)
 (l28:FnL K "fine_width" nj)
 (l29:MtL K CC1 "floor" "Ratio.floor" n6)
 (l30:FnL K "cells" nw)
 (l31:FnL K "square_of" mK)
 (l32:FnL K "divides" nk)
 (l33:FnL K "added" nE)
 (l34:FnL K "multiplied" m5)
 (l35:MtL K CC1 "plus" "Ratio.plus" nZ)
 (l36:MtL K CC1 "minus" "Ratio.minus" n5)
 (l37:MtL K CC1 "times" "Ratio.times" nY)
 (l38:FnL K "times_floor" mH)
 (l39:FnL K "line_of" m9)
 (l40:FnL K "halvings" nh)
 (l41:FnL K "stretched" mJ)
 (l42:FnL K "spread" mL)
 (l43:FnL K "moved" m6)
 (l44:FnL K "halved" ni)
 (l45:FnL K "along" nD)
 (l46:FnL K "narrowed" m4)
 (l47:FnL K "many_within" m7)
 (l48:FnL K "refuse_great" mV)
 (l49:FnL K "least" nc)
 (l50:FnL K "number_in" mZ)
 (l52:FnL K "side" mO)
 (l53:FnL K "_law_cell_at" nV)
 (l54:FnL K "_law_whole" nJ)
 (l55:FnL K "_law_divisor" nU)
 (l56:FnL K "_law_sign" nN)
 (l57:FnL K "_law_plain" nQ)
 (l58:FnL K "_law_least" nS)
 (l59:FnL K "_law_amount" nW)
 (l60:FnL K "_law_worth" nI)
 (l61:FnL K "_law_span" nM)
 (l62:FnL K "_law_times" nK)
 (l63:FnL K "_law_other" nR)
 (l64:FnL K "_law_side" nO)
 (l65:FnL K "law" ng)
 (hTr:l.prog.given.tree=none)
 : ∃ fd:FuncData,(∀ (s:Shared) (v:Value),BindsTo s fd ⟨[v],[]⟩ [("_law_script",v)])/\∀ base:Heap,K.In base->base.Ns mainGlobals mg->base.NoSeer->FnOk l.prog w K mg base CX0 39 fa fd ["_law_script"] (ka K):=by
 obtain ⟨_,_,a1,F1⟩:=l1
 obtain ⟨_,_,a2,F2⟩:=l2
 obtain ⟨_,_,a3,F3⟩:=l3
 obtain ⟨_,_,a5,i5,F5⟩:=l5
 obtain ⟨_,_,a6,F6⟩:=l6
 obtain ⟨_,_,a7,F7⟩:=l7
 obtain ⟨_,_,a8,F8⟩:=l8
 obtain ⟨_,_,a9,F9⟩:=l9
 obtain ⟨_,_,a10,F10⟩:=l10
 obtain ⟨_,_,a11,F11⟩:=l11
 obtain ⟨_,_,a12,F12⟩:=l12
 obtain ⟨_,_,a13,F13⟩:=l13
 obtain ⟨_,_,a14,F14⟩:=l14
 obtain ⟨_,_,a15,F15⟩:=l15
 obtain ⟨_,_,a16,F16⟩:=l16
 obtain ⟨_,_,a17,F17⟩:=l17
 obtain ⟨_,_,a18,F18⟩:=l18
 obtain ⟨_,_,a19,F19⟩:=l19
 obtain ⟨_,_,a20,F20⟩:=l20
 obtain ⟨_,_,a21,F21⟩:=l21
 obtain ⟨_,_,a22,F22⟩:=l22
 obtain ⟨_,_,a23,F23⟩:=l23
 obtain ⟨_,_,a24,F24⟩:=l24
 obtain ⟨_,_,a25,F25⟩:=l25
 obtain ⟨_,_,a26,F26⟩:=l26
 obtain ⟨_,_,a27,i27,F27⟩:=l27
 obtain ⟨_,_,a28,F28⟩:=l28
 obtain ⟨_,_,a29,i29,F29⟩:=l29
 obtain ⟨_,_,a30,F30⟩:=l30
 obtain ⟨_,_,a31,F31⟩:=l31
 obtain ⟨_,_,a32,F32⟩:=l32
 obtain ⟨_,_,a33,F33⟩:=l33
 obtain ⟨_,_,a34,F34⟩:=l34
 obtain ⟨_,_,a35,i35,F35⟩:=l35
 obtain ⟨_,_,a36,i36,F36⟩:=l36
 obtain ⟨_,_,a37,i37,F37⟩:=l37
 obtain ⟨_,_,a38,F38⟩:=l38
 obtain ⟨_,_,a39,F39⟩:=l39
 obtain ⟨_,_,a40,F40⟩:=l40
 obtain ⟨_,_,a41,F41⟩:=l41
 obtain ⟨_,_,a42,F42⟩:=l42
 obtain ⟨_,_,a43,F43⟩:=l43
 obtain ⟨_,_,a44,F44⟩:=l44
 obtain ⟨_,_,a45,F45⟩:=l45
 obtain ⟨_,_,a46,F46⟩:=l46
 obtain ⟨_,_,a47,F47⟩:=l47
 obtain ⟨_,_,a48,F48⟩:=l48
 obtain ⟨_,_,a49,F49⟩:=l49
 obtain ⟨_,_,a50,F50⟩:=l50
 obtain ⟨_,_,a52,F52⟩:=l52
 obtain ⟨_,_,a53,F53⟩:=l53
 obtain ⟨_,_,a54,F54⟩:=l54
 obtain ⟨_,_,a55,F55⟩:=l55
 obtain ⟨_,_,a56,F56⟩:=l56
 obtain ⟨_,_,a57,F57⟩:=l57
 obtain ⟨_,_,a58,F58⟩:=l58
 obtain ⟨_,_,a59,F59⟩:=l59
 obtain ⟨_,_,a60,F60⟩:=l60
 obtain ⟨_,_,a61,F61⟩:=l61
 obtain ⟨_,_,a62,F62⟩:=l62
 obtain ⟨_,_,a63,F63⟩:=l63
 obtain ⟨_,_,a64,F64⟩:=l64
 obtain ⟨_,fdL,a65,F65⟩:=l65
 cases hfa.symm.trans (PySem.W.mg_of X G a65)
 have T:Txt K mg:=⟨PySem.W.mg_none_of X G z0,PySem.W.mg_none_of X G z1,PySem.W.mg_none_of X G z2,PySem.W.mg_none_of X G z3,PySem.W.mg_none_of X G z4,PySem.W.mg_none_of X G z5,PySem.W.mg_none_of X G z6,PySem.W.mg_none_of X G z7,PySem.W.mg_none_of X G z8,PySem.W.mg_none_of X G z9,PySem.W.mg_none_of X G z10,PySem.W.mg_none_of X G z11,⟨_,PySem.W.mg_of X G aI_HIGHEST⟩⟩
 have R1:RCI K mg CC1:=⟨⟨cc1.pg,cc1.hd,cc1.po,cc1.sa⟩,n1_top,n1_bottom,PySem.W.mg_of X G cc1.a,cc1.ha,cc1.hn,cc1.ht,cc1.hm⟩
 have R2:NCI K mg CC2:=⟨⟨cc2.pg,cc2.hd,cc2.po,cc2.sa⟩,n2_poly,n2_low,n2_high,PySem.W.mg_of X G cc2.a,cc2.ha,cc2.hn,cc2.ht,cc2.hm⟩
 have F4:=v9 (st:=g9) l4 c4 k4
 have b4:=FunD.bindsD (ps:=["self","top","bottom"]) (ds:=[]) (tup:=[.int 1 tk4_0]) 3 F4 t4 rfl rfl fun _ _ _ _ _ _=>us3 fun _ _ _=>⟨_,rfl,rfl⟩
 have bD4:=FunD.bindsD (ps:=["self","top","bottom"]) (ds:=[.int 1 tk4_0]) (tup:=[.int 1 tk4_0]) 2 F4 t4 rfl rfl fun _ _ _ _ _ _=>us2 fun _ _=>⟨_,rfl,rfl⟩
 have F51:=v9 (st:=g8) l51 c51 k51
 have b51:=FunD.bindsD (ps:=["row","low","high"]) (ds:=[]) (tup:=[.none,.none]) 3 F51 t51 rfl rfl fun _ _ _ _ _ _=>us3 fun _ _ _=>⟨_,rfl,rfl⟩
 have bD51:=FunD.bindsD (ps:=["row","low","high"]) (ds:=[.none,.none]) (tup:=[.none,.none]) 1 F51 t51 rfl rfl fun _ _ _ _ _ _=>us1 fun _=>⟨_,rfl,rfl⟩
 obtain ⟨_,_,_,_,_,_,_,_,_,e,_,_⟩:=F65.ex
 refine ⟨fdL,fun s v=>.of_eq (by rw [e];rfl),fun base KB GB hNS=>?_⟩
 have Z:Bx l.prog w base:=⟨rfl,rfl,rfl⟩
 have C1:=cal Z X G a1 F1 (A0 F1 T) fun _ _ _ _ _ _=>us2 fun _ _=>rfl
 have C2:=cal Z X G a2 F2 (A1 F2 T C1) fun _ _ _ _ _ _=>us1 fun _=>rfl
 have C3:=cal Z X G a3 F3 (AO F3 T) fun _ _ _ _ _ _=>us1 fun _=>rfl
 have K1:KCal l.prog w K mg base 2 CC1 "Ratio" ["self","top","bottom"] (cT CC1) _ _ _ [.int 1]:=⟨BS F4 T R1 C1,⟨cc1.mkr,a4,i4,cc1.kc⟩,PySem.W.mg_of X G cc1.a,b4,bD4,.cons ⟨_,rfl⟩ .nil⟩
 have C5:=ja Z a5 i5 F5 (BR F5 T R1 C3) fun _ _ _ _ _ _=>us2 fun _ _=>rfl
 have C6:=cal Z X G a6 F6 (A8 F6 T) fun _ _ _ _ _ _=>us1 fun _=>rfl
 have C7:=cal Z X G a7 F7 (Br F7 T) fun _ _ _ _ _ _=>us1 fun _=>rfl
 have C8:=cal Z X G a8 F8 (Bu F8 T) fun _ _ _ _ _ _=>us2 fun _ _=>rfl
 have C9:=cal Z X G a9 F9 (AS F9 T C6 C8) fun _ _ _ _ _ _=>us2 fun _ _=>rfl
 have C10:=cal Z X G a10 F10 (AW F10 T) fun _ _ _ _ _ _=>us1 fun _=>rfl
 have C11:=cal Z X G a11 F11 (AZ F11 T hNS hTr C2) fun _ _ _ _ _ _=>us1 fun _=>rfl
 have C12:=cal Z X G a12 F12 (A9 F12 T C11) fun _ _ _ _ _ _=>us1 fun _=>rfl
 have C13:=cal Z X G a13 F13 (A3 F13 T) fun _ _ _ _ _ _=>us2 fun _ _=>rfl
 have C14:=cal Z X G a14 F14 (Bi F14 T) fun _ _ _ _ _ _=>us4 fun _ _ _ _=>rfl
 have C15:=cal Z X G a15 F15 (Bq F15 T C3 C7 C13 C14 C6) fun _ _ _ _ _ _=>us2 fun _ _=>rfl
 have C16:=cal Z X G a16 F16 (AQ F16 T) fun _ _ _ _ _ _=>us3 fun _ _ _=>rfl
 have C17:=cal Z X G a17 F17 (AX F17 T R1 C16 C3) fun _ _ _ _ _ _=>us2 fun _ _=>rfl
 have C18:=cal Z X G a18 F18 (A5 F18 T C11 C15 C9) fun _ _ _ _ _ _=>us2 fun _ _=>rfl
 have C19:=cal Z X G a19 F19 (A4 F19 T C18 C10) fun _ _ _ _ _ _=>us1 fun _=>rfl
 have C20:=cal Z X G a20 F20 (Bv F20 T R1 C17) fun _ _ _ _ _ _=>us2 fun _ _=>rfl
 have C21:=cal Z X G a21 F21 (Bs F21 T R1 C20) fun _ _ _ _ _ _=>us3 fun _ _ _=>rfl
 have C22:=cal Z X G a22 F22 (By F22 T) fun _ _ _ _ _ _=>us1 fun _=>rfl
 have C23:=cal Z X G a23 F23 (Bt F23 T C12 C15) fun _ _ _ _ _ _=>us2 fun _ _=>rfl
 have C24:=cal Z X G a24 F24 (Ba F24 T C15 C12) fun _ _ _ _ _ _=>us2 fun _ _=>rfl
 have C25:=cal Z X G a25 F25 (A6 F25 T) fun _ _ _ _ _ _=>us1 fun _=>rfl
 have C26:=cal Z X G a26 F26 (AN F26 T C24 C23 C10) fun _ _ _ _ _ _=>us1 fun _=>rfl
 have b27:Binds K _ ["self","row","low","high"] []:=F27.binds (fun _ _ _ _ _ _=>us4 fun _ _ _ _=>rfl)
 have K2:KCal l.prog w K mg base 1 CC2 "Number" ["self","row","low","high"] (kd CC2) _ _ _ []:=⟨BT F27 T R2,⟨cc2.mkr,a27,i27,cc2.kc⟩,PySem.W.mg_of X G cc2.a,b27,b27,.nil⟩
 have C28:=cal Z X G a28 F28 (Bo F28 T R1 K1 C22) fun _ _ _ _ _ _=>us1 fun _=>rfl
 have C29:=ja Z a29 i29 F29 (BQ F29 T R1) fun _ _ _ _ _ _=>us1 fun _=>rfl
 have C30:=cal Z X G a30 F30 (Bw F30 T) fun _ _ _ _ _ _=>us1 fun _=>rfl
 have C31:=cal Z X G a31 F31 (AU F31 T) fun _ _ _ _ _ _=>us3 fun _ _ _=>rfl
 have C32:=cal Z X G a32 F32 (Bp F32 T) fun _ _ _ _ _ _=>us2 fun _ _=>rfl
 have C33:=cal Z X G a33 F33 (BA F33 T C6 C8) fun _ _ _ _ _ _=>us2 fun _ _=>rfl
 have C34:=cal Z X G a34 F34 (Bf F34 T) fun _ _ _ _ _ _=>us2 fun _ _=>rfl
 have C35:=ja Z a35 i35 F35 (BO F35 T R1 K1) fun _ _ _ _ _ _=>us2 fun _ _=>rfl
 have C36:=ja Z a36 i36 F36 (BP F36 T R1 K1) fun _ _ _ _ _ _=>us2 fun _ _=>rfl
 have C37:=ja Z a37 i37 F37 (BN F37 T R1 K1) fun _ _ _ _ _ _=>us2 fun _ _=>rfl
 have C38:=cal Z X G a38 F38 (AR F38 T R1 K1 C37 C29) fun _ _ _ _ _ _=>us2 fun _ _=>rfl
 have C39:=cal Z X G a39 F39 (Bj F39 T R1 K1 C38 C5 C17) fun _ _ _ _ _ _=>us2 fun _ _=>rfl
 have C40:=cal Z X G a40 F40 (Bm F40 T R1) fun _ _ _ _ _ _=>us2 fun _ _=>rfl
 have C41:=cal Z X G a41 F41 (AT F41 T R1 C2 C33 C34 C6) fun _ _ _ _ _ _=>us3 fun _ _ _=>rfl
 have C42:=cal Z X G a42 F42 (AV F42 T) fun _ _ _ _ _ _=>us1 fun _=>rfl
 have C43:=cal Z X G a43 F43 (Bg F43 T C7) fun _ _ _ _ _ _=>us1 fun _=>rfl
 have C44:=cal Z X G a44 F44 (Bn F44 T C42 C3 C43) fun _ _ _ _ _ _=>us3 fun _ _ _=>rfl
 have C45:=cal Z X G a45 F45 (Bz F45 T R1 C35 C37 K1) fun _ _ _ _ _ _=>us4 fun _ _ _ _=>rfl
 have C46:=cal Z X G a46 F46 (Be F46 T R1 C36 C40 C44 C41 C17 C45) fun _ _ _ _ _ _=>us4 fun _ _ _ _=>rfl
 have C47:=cal Z X G a47 F47 (Bh F47 T R1 C5 C21 C19) fun _ _ _ _ _ _=>us3 fun _ _ _=>rfl
 have C48:=cal Z X G a48 F48 (A7 F48 T) fun _ _ _ _ _ _=>us1 fun _=>rfl
 have C49:=cal Z X G a49 F49 (Bk F49 T C12 C7 C28 C46 C39 C30 C31 C32 C21 C19) fun _ _ _ _ _ _=>us3 fun _ _ _=>rfl
 have C50:=cal Z X G a50 F50 (Bb F50 T R1 C49 C17 C46 C36 C37 K1 K2) fun _ _ _ _ _ _=>us3 fun _ _ _=>rfl
 have C51:CalE l.prog w K mg base 38 "number" ["row","low","high"] (mh CC1 CC2) _ _ _ [.non,.non]:=⟨Bc F51 T R1 C25 C7 K1 C22 C26 C47 C48 C50,PySem.W.mg_of X G a51,k51,b51,bD51,.cons rfl (.cons rfl (.nil))⟩
 have C52:=cal Z X G a52 F52 (AY F52 T R1 R2 C17 C21 C18 C34 C10) fun _ _ _ _ _ _=>us2 fun _ _=>rfl
 have C53:=cal Z X G a53 F53 (BL F53 T) fun _ _ _ _ _ _=>us2 fun _ _=>rfl
 have C54:=cal Z X G a54 F54 (BC F54 T) fun _ _ _ _ _ _=>us1 fun _=>rfl
 have C55:=cal Z X G a55 F55 (BK F55 T) fun _ _ _ _ _ _=>us2 fun _ _=>rfl
 have C56:=cal Z X G a56 F56 (BF F56 T) fun _ _ _ _ _ _=>us3 fun _ _ _=>rfl
 have C57:=cal Z X G a57 F57 (BH F57 T C55) fun _ _ _ _ _ _=>us1 fun _=>rfl
 have C58:=cal Z X G a58 F58 (BJ F58 T C57) fun _ _ _ _ _ _=>us1 fun _=>rfl
 have C59:=cal Z X G a59 F59 (BM F59 T) fun _ _ _ _ _ _=>us1 fun _=>rfl
 have C60:=cal Z X G a60 F60 (BB F60 T C59 C53) fun _ _ _ _ _ _=>us2 fun _ _=>rfl
 have C61:=cal Z X G a61 F61 (BE F61 T R1 K1) fun _ _ _ _ _ _=>us2 fun _ _=>rfl
 have C62:=cal Z X G a62 F62 (BD F62 T) fun _ _ _ _ _ _=>us2 fun _ _=>rfl
 have C63:=cal Z X G a63 F63 (BI F63 T C53) fun _ _ _ _ _ _=>us1 fun _=>rfl
 have C64:=cal Z X G a64 F64 (BG F64 T C56) fun _ _ _ _ _ _=>us2 fun _ _=>rfl
 exact Bl F65 T R1 R2 C60 C61 C53 C51 C58 C63 C62 C64 C52 C54
theorem walk {l:PySem.W.OpenLaw} {q:Program} {loose:List Str} {XP:(Str->Option Value)->Heap->Prop} {YP:World->Heap->Prop} {d:DefRec} {K:Params->PySem.W.Frag} (hi:PyProof.Rows.importsNone q=true) (hn:l.most=some 63) (hdf:d.params.defaults=[])
 (hY:∀ (w:World) (h:Heap),YP w h->(K w.params).In h)
 (F:∀ (w:World) (mg:Str->Option Value) (fa:Addr) (h:Heap),(K w.params).In h->h.Ns mainGlobals mg->mg d.name=some (.ref fa) ->
   ∃ fd:FuncData,(∀ (s:Shared) (u:Value),BindsTo s fd ⟨[u],[]⟩ [("_law_script",u)])/\∀ base:Heap,(K w.params).In base->base.Ns mainGlobals mg->base.NoSeer->FnOk l.prog w (K w.params) mg base CX0 39 fa fd ["_law_script"] (ka (K w.params))) :
 PySem.W.WalkO q loose XP YP l.row.toRowW d [] (fun f vs=>PySem.call f vs) :=
 L2.walk_ofS (n:=63) (k:=39) (x:="_law_script") (CX:=fun _=>CX0) (sp:=fun w=>ka (K w.params)) hi hn (by decide) hdf ⟨rfl,by decide,by decide⟩ hY F (fun _ _ a ns hl _ hS=>⟨a,ns,rfl,hS,hl,fun _=>rfl⟩) fun _ _ _ _ _ z=>z
section
end
end R48
open PySem PySem.W PyProof.Rows
set_option maxRecDepth 100000 in
set_option maxHeartbeats 0 in
theorem PySem.Challenge.cw_rootspan_k48_side_of_a_polynomial_holds : PySem.Challenge.rw_rootspan_k48_side_of_a_polynomial.Holds := by
 w_on;o_law;k_head;(case hw=>w_witness2)
 k_fill
 refine R48.walk (l:=PySem.Challenge.rw_rootspan_k48_side_of_a_polynomial) (by decide +kernel) rfl rfl (fun w h Y=>PySem.W.kIn_of Y) ?F
 case F =>
  intro w mg fa h KX G hmg
  refine' R48.all_mk KX G hmg ?cc1 ?n1_top ?n1_bottom ?cc2 ?n2_poly ?n2_low ?n2_high ?a4 ?i4 ?l4 ?c4 ?k4 ?t4 ?a51 ?l51 ?c51 ?k51 ?t51 ?aI_HIGHEST ?_ ?_ ?_ ?_ ?_ ?_ ?_ ?_ ?_ ?_ ?_ ?_ ?_ ?_ ?_ ?_ ?_ ?_ ?_ ?_ ?_ ?_ ?_ ?_ ?_ ?_ ?_ ?_ ?_ ?_ ?_ ?_ ?_ ?_ ?_ ?_ ?_ ?_ ?_ ?_ ?_ ?_ ?_ ?_ ?_ ?_ ?_ ?_ ?_ ?_ ?_ ?_ ?_ ?_ ?_ ?_ ?_ ?_ ?_ ?_ ?_ ?_ ?_ ?_ ?_ ?_ ?_ ?_ ?_ ?_ ?_ ?_ ?_ ?_ ?_ rfl
  (case cc1=>apply R48.ClL.mk<;>k_is)
  (case n1_top=>k_is)
  (case n1_bottom=>k_is)
  (case cc2=>apply R48.ClL.mk<;>k_is)
  (case n2_poly=>k_is)
  (case n2_low=>k_is)
  (case n2_high=>k_is)
  (case a4=>k_is)
  (case i4=>k_is)
  (case l4=>k_is)
  (case c4=>k_is)
  (case k4=>k_is)
  (case t4=>k_is)
  (case a51=>k_is)
  (case l51=>k_is)
  (case c51=>k_is)
  (case k51=>k_is)
  (case t51=>k_is)
  (case aI_HIGHEST=>k_is)
  all_goals first | (apply R48.fnL<;>k_is) | (apply R48.mtL<;>k_is) | k_is
