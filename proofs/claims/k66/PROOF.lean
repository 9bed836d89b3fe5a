import PyProof.Rows.All
import Wide.All
import OpenK.AllK
import Wide.FinOn
import Lean
import PyProof.EqAt
import PyProof.EqKinds
import PyProof.TupleCall
import PySem.Challenge.RW_rootspan_k66_whole_no_text
set_option Elab.async false
set_option linter.all false
set_option maxRecDepth 100000
noncomputable section
namespace Al
def Nf:=@List.length_append
def Ng:=@Nat.le_refl
def Nh:=@List.length_map
def Ni:=@List.mem_cons
def Nj:=@List.length_cons
def Nk:=@Nat.le_trans
def Nl:=@List.append_assoc
def Nm:=@Nat.lt_of_lt_of_le
def Nn:=@Bool.false_ne_true
def No:=@List.mem_append
def Np:=@Bool.and_eq_true
def Nq:=@List.cons_append
def Nr:=@Nat.zero_le
def Nt:=@Nat.ne_of_lt
def Nu:=@List.mem_singleton
def Nv:=@List.size_toArray
def Nw:=@List.length_replicate
def Nx:=@List.not_mem_nil
def Ny:=@List.append_nil
def Nz:=@List.exists_cons_of_ne_nil
def NA:=@Nat.lt_irrefl
def NB:=@Bool.eq_iff_iff
def NC:=@List.forall_mem_cons
def ND:=@List.all_eq_true
def NE:=@List.length_drop
def NF:=@List.nil_append
def NG:=@Nat.lt_trans
def NH:=@List.mem_append_right
def NI:=@List.map_append
def NJ:=@Bool.or_eq_true
def NK:=@List.forall_mem_nil
def NL:=@Int.emod_nonneg
def NM:=@List.map_cons
def NO:=@List.replicate_succ
def NP:=@Int.emod_lt_of_pos
def NQ:=@List.mem_cons_of_mem
def NR:=@List.flatten_cons
def NS:=@List.lookup_cons
def NT:=@List.length_nil
def NU:=@List.takeWhile_cons
def NV:=@List.map_eq_nil_iff
def NW:=@Int.natAbs_natCast
def NY:=@List.mem_cons_self
def NZ:=@Nat.le_of_eq
def N0:=@Nat.pow_succ
def N1:=@Nat.lt_of_le_of_lt
def N2:=@Nat.le_of_succ_le_succ
def N3:=@List.mem_map
def N4:=@Nat.le_of_lt
def N5:=@List.reverse_append
def N6:=@List.drop_eq_nil_of_le
def N7:=@Int.zero_add
def N8:=@Option.isSome_iff_exists
def N9:=@List.length_take
def Oa:=@Int.toNat_natCast
def Ob:=@List.foldl_cons
def Oc:=@Nat.le_of_not_lt
def Od:=@Int.natAbs_mul
def Oe:=@List.length_eq_zero_iff
def Of:=@Nat.le_add_right
def Og:=@List.drop_eq_getElem_cons
def Oh:=@List.filterMap_cons
def Oi:=@List.length_singleton
def Oj:=@Nat.mul_le_mul_right
def Ol:=@List.head_eq_of_cons_eq
end Al
open Al
namespace PySem.W.Fast
def tw16799109063501467402:=()
def tw1581039642020574171:=()
def tw9942983788022655707:=()
def tw13481215700631066756:=()
def tw9614309922612200025:=()
def tw10399671558762211469:=()
def tw3790147032977619003:=()
def tw14357362595689627701:=()
def tw13314969133301579628:=()
def tw16795740515072148789:=()
def tw1610714064190998107:=()
def tw501001826900891433:=()
def tw6431530210105793487:=()
def tw3554650992133341639:=()
def tw7209059167265073593:=()
def tw15326529035779729310:=()
def tw2374778396393939915:=()
def tw7781261330320418277:=()
def tw2816714239486780091:=()
def tw16726307903808306430:=()
def tw875077687060630145:=()
def tw5243640731344242496:=()
def tw6136316428036163532:=()
def tw15243991440808319382:=()
def tw4009932056170365678:=()
def tw5715748668284259338:=()
def tw644212535044671994:=()
def tw5649300525027282221:=()
def tw15080189298016626188:=()
def tw17356579590407542467:=()
def tw15773761890042570664:=()
def tw13266596760805040747:=()
def tw662963276425604138:=()
def tw16210921498495041531:=()
def tw16135627613705934902:=()
def tw5865991780510795876:=()
def tw1186018660739327574:=()
def tw17826879055425756546:=()
def tw17888813780257186060:=()
def tw10864168447883046962:=()
def tw7074713654523864242:=()
def tw16549305201176688345:=()
def tw7051574697563644527:=()
def tw8406685856212332656:=()
def tw10657575875359681258:=()
def tw3246038277478526286:=()
def tw9973973223901768740:=()
def tw5989381464519372361:=()
def tw14216747777979287727:=()
def tw13465292391240382731:=()
def tw9950134026353974010:=()
def tw14674046811874242145:=()
def tw3382537897938970222:=()
def tw9755148709987738667:=()
def tw1361564833608519344:=()
def tw17700213210849526963:=()
def tw580233959399942021:=()
def tw16558148410815807268:=()
def tw7042694245338902563:=()
def tw14265766276113103817:=()
def tw752891849912226649:=()
def tw13627386552133617021:=()
def tw1651940257613030209:=()
def tw11613169703924820965:=()
def tw5034098502381852892:=()
def tw3960174021704549728:=()
def tw4088329766032112992:=()
def tw6441116350862841059:=()
def tw7644986229308746583:=()
def tw11022460742633928364:=()
def tw1918710612883620959:=()
def tw17694226462222872903:=()
def tw4945131973906498684:=()
def tw2336902154094654210:=()
def tw16586149771708523294:=()
def tw4674593860596190436:=()
def tw15351028196087215469:=()
def tw5847256449810610946:=()
def tw865146481365377039:=()
def tw12462925118363025072:=()
def tw6727923223138990671:=()
def tw10290807713804243478:=()
def tw4705166467629123611:=()
def tw9223956184146965283:=()
def tw2092628626656727798:=()
def tw7085894659945104183:=()
def tw13986599289802134754:=()
def tw5574810018405165446:=()
def tw7901446101441110401:=()
def tw7546001043852892226:=()
def tw3297859663843942951:=()
def tw15113197348942689010:=()
def tw12960995308358402841:=()
def tw6911125042999312384:=()
def tw1687032301304236307:=()
def tw7322600425276712867:=()
def tw15791335245378781664:=()
def tw3641312559930363676:=()
def tw2693481275508359045:=()
def tw718030717030101226:=()
def tw5264308963315273576:=()
def tw15104513675106472126:=()
def tw10969156485920400014:=()
def tw15327202861981535302:=()
def tw8287153406829040309:=()
def tw7387248438608916018:=()
def tw4450760576820360646:=()
def tw15432402624204485148:=()
def tw11032078046291922304:=()
def tw13327846199286960886:=()
def tw3279223355769732708:=()
def tw2723633688379869815:=()
def tw18293876664574486289:=()
def tw12242689756055457849:=()
def tw14032634535774701250:=()
def tw14174259851385571214:=()
def tw14644239630420301465:=()
def tw834745239882679643:=()
def tw2781011191417168899:=()
def tw9387609184323134623:=()
def tw968791283258555039:=()
def tw3009177568713024612:=()
def tw1504509223619839344:=()
def tw14854805711069436781:=()
def tw6789241656232064592:=()
def tw8647267199246267132:=()
def tw4125038725569622212:=()
def tw2792605364178193199:=()
def tw8216499334210093569:=()
def tw8846156418785474654:=()
def tw2933861864309640158:=()
def tw450141209409796171:=()
def tw2756407065320511769:=()
def tw15147550559282356108:=()
def tw3534960190838492587:=()
def tw2935743328227795845:=()
def tw15615887321242929470:=()
def tw11333891403471901412:=()
def tw16198008119634582969:=()
def tw10491722980014060489:=()
def tw9504109743779854483:=()
def tw2883435868514483140:=()
def tw1292062521666066009:=()
def tw11341516304066365045:=()
def tw1882085684501398130:=()
def tw9793808485381280519:=()
def tw16792543832942127712:=()
def tw7019964285041539795:=()
def tw12129646209914818082:=()
def tw18073214823245108660:=()
def tw16701649036061394940:=()
def tw18193209071947790868:=()
def tw7364692504124085567:=()
def tw17546582737718641513:=()
def tw9094117766648111584:=()
def tw12600297827476673768:=()
def tw9681179149712742164:=()
def tw9381441354955775632:=()
def tw13023466169738281113:=()
def tw4665953622757484512:=()
def tw14941093278474651802:=()
def tw2729908251398371248:=()
def tw6120405997456999448:=()
def tw4831601587040851208:=()
def tw16630737313294405150:=()
def tw15278089362479654263:=()
def tw17499262970444063291:=()
def tw17110632450684148227:=()
def tw15197256283066275841:=()
def tw7907729899580757695:=()
def tw14364521968287181342:=()
def tw14038257056557246720:=()
def tw3173559454507575559:=()
def tw9514516279609896837:=()
def tw5055341429565908551:=()
def tw14122876770017654186:=()
def tw16945216429077109677:=()
def tw10931223410168315991:=()
def tw11720309033641955270:=()
def tw8860378622825788326:=()
def tw9277511349384369496:=()
def tw17261350557501394119:=()
def tw3979263188809718185:=()
def tw13869838456579126422:=()
def tw5291506046415004556:=()
def tw6236447419629496907:=()
def tw5499067346586984139:=()
def tw15973235453037670585:=()
def tw1737833855741474253:=()
def tw11237267537285019823:=()
def tw11645681193714842851:=()
def tw12722929900754313183:=()
def tw18046196803239035560:=()
def tw4852753838627598831:=()
def tw6239150234875432070:=()
def tw6269296409281895046:=()
def tw9245812019126998386:=()
def tw2943482304611343144:=()
def tw13884927038255797817:=()
def tw15286319773398313447:=()
def tw16327240965273570697:=()
def tw15196730295214614051:=()
def tw7451367561258428381:=()
def tw7978544687682139878:=()
def tw9603343899933525866:=()
def tw10082103366925890111:=()
def tw15591230118459617975:=()
def tw1701235757502277089:=()
def tw5203735645055959248:=()
def tw11586902995827303472:=()
def tw10368035342437747278:=()
def tw9008407555622558686:=()
def tw5939381490572977803:=()
def tw13660102887532214893:=()
def tw57071744893137603:=()
def tw700670674373315336:=()
def tw4260431349142706912:=()
def tw11186313317765060714:=()
def tw13486816711039211390:=()
def tw17644322950368502730:=()
def tw681557937211073958:=()
def tw13437736571581427622:=()
def tw16597909146195435602:=()
def tw4835864870839611061:=()
def tw15728743558384205836:=()
def tw2028431671742080111:=()
def tw2863294884076874310:=()
def tw3398666564154873901:=()
def tw14016117746728625569:=()
def tw575084383533139041:=()
def tw7088270795556664203:=()
def tw14688116609789324264:=()
def tw8323557214640225693:=()
end PySem.W.Fast
namespace L2
open PySem PySem.Spec PyProof.Rows
abbrev Key:=Sum Int Str
noncomputable def yl:Key->Value->Bool
 |.inl k,v=>Value.isInt k v
 |.inr x,v=>Value.isStrOf x v
noncomputable def GT(w:World):Key->Int
 |.inl k=>hashInt k
 |.inr x=>hashStr w x
theorem gv:∀{k:Key} {v:Value},yl k v=true->(∃i t,k=Sum.inl i/\v=Value.int i t)\/(∃x t,k=Sum.inr x/\v=Value.str x t)
 |.inl i,v,h=>by obtain⟨t,e⟩:=Value.isInt_shape (k:=i) (v:=v) h;exact .inl ⟨i,t,rfl,e⟩
 |.inr x,v,h=>by obtain⟨t,e⟩:=Value.isStrOf_shape (x:=x) (v:=v) h;exact .inr ⟨x,t,rfl,e⟩
theorem GS(a b:Int):decide ((Sum.inl a:Key)=Sum.inl b)=(a == b):=by
 by_cases e:a=b
 ·subst e;simp
 ·have h:¬(Sum.inl a:Key)=Sum.inl b:=λq=>e (Sum.inl.inj q)
  rw[decide_eq_false h];exact(beq_eq_false_iff_ne.mpr e).symm
theorem GP(a b:Str):decide ((Sum.inr a:Key)=Sum.inr b)=decide (a=b):=by
 by_cases e:a=b
 ·subst e;simp
 ·have h:¬(Sum.inr a:Key)=Sum.inr b:=λq=>e (Sum.inr.inj q)
  rw[decide_eq_false h,decide_eq_false e]
theorem GR(a:Int)(b:Str):decide ((Sum.inl a:Key)=Sum.inr b)=false:=decide_eq_false (λq=>nomatch q)
theorem GQ(a:Str)(b:Int):decide ((Sum.inr a:Key)=Sum.inl b)=false:=decide_eq_false (λq=>nomatch q)
noncomputable def xF(prog:Program)(w:World):PySem.KeyKind prog w Key where
 is:=yl
 hash:=GT w
 inj:=λv a b ha hb=>by
  rcases gv ha with⟨i,t,rfl,rfl⟩ |⟨x,t,rfl,rfl⟩
  ·rcases gv hb with⟨j,u,rfl,e⟩ |⟨y,u,rfl,e⟩
   ·injection e with e1 _;rw[e1]
   ·exact nomatch e
  ·rcases gv hb with⟨j,u,rfl,e⟩ |⟨y,u,rfl,e⟩
   ·exact nomatch e
   ·injection e with e1 _;rw[e1]
 byValue:=λk v h=>by rcases gv h with⟨i,t,rfl,rfl⟩ |⟨x,t,rfl,rfl⟩<;>rfl
 pyHash:=λhv h=>by
  rcases gv hv with⟨i,t,rfl,rfl⟩ |⟨x,t,rfl,rfl⟩
  ·exact wpAny_pyHash_int h
  ·exact wpAny_pyHash_str h
 eqBool:=λhu hv h=>by
  rcases gv hu with⟨i,t,rfl,rfl⟩ |⟨x,t,rfl,rfl⟩
  ·rcases gv hv with⟨j,u,rfl,rfl⟩ |⟨y,u,rfl,rfl⟩
   ·rw[GS]at h;exact wpAny_eqBool_int h
   ·rw[GR]at h;exact SeqAt.EqAt.int_str i t y u _ _ _ _ h
  ·rcases gv hv with⟨j,u,rfl,rfl⟩ |⟨y,u,rfl,rfl⟩
   ·rw[GQ]at h;exact SeqAt.EqAt.str_int x t j u _ _ _ _ h
   ·rw[GP]at h;exact wpAny_eqBool_str h
 «strs»:=λk x t v h=>by
  rcases gv h with⟨i,u,rfl,e⟩ |⟨y,u,rfl,e⟩
  ·exact nomatch e
  ·injection e with e1 _
   subst e1;cases v<;>rfl
inductive V where
 |non |bl (b:Bool) |int (i:Int) |str (x:Str) |byt (b:Array UInt8) |flt (b:UInt64) |ref (a:Addr) |ty (n:String)
 deriving DecidableEq
noncomputable def RelV:V->Value->Prop
 |.non,u=>u=Value.none
 |.bl b,u=>u=Value.bool b
 |.int i,u=>∃t,u=Value.int i t
 |.str x,u=>∃t,u=Value.str x t
 |.byt b,u=>∃t,u=Value.bytes b t
 |.flt b,u=>∃t,u=Value.float b t
 |.ref a,u=>u=Value.ref a
 |.ty n,u=>u=Value.type n
abbrev Vals:List V->List Value->Prop:=Paired RelV
theorem Vals.length{xs:List V}{us:List Value}(r:Vals xs us):xs.length=us.length:=Paired.length r
theorem Vals.get:∀{xs:List V} {us:List Value} {i:Nat} {x:V},Vals xs us->xs[i]?=some x->∃u,us[i]?=some u/\RelV x u
 |_,_,_,_,.nil,e=>by simp at e
 |_,_,0,_,.cons r _,e=>by simp at e;subst e;exact⟨_,rfl,r⟩
 |_,_,i+1,x,.cons _ t,e=>by obtain⟨u,h1,h2⟩:=Vals.get (i:=i) (x:=x) t (by simpa using e);exact⟨u,by simpa using h1,h2⟩
theorem Vals.set{x:V}{u:Value}(r:RelV x u):∀{xs:List V} {us:List Value} (i:Nat),Vals xs us->Vals (xs.set i x) (us.set i u)
 |_,_,_,.nil=>.nil
 |_,_,0,.cons _ t=>.cons r t
 |_,_,i+1,.cons q t=>.cons q (Vals.set r i t)
theorem Vals.append:∀{xs ys:List V} {us ws:List Value},Vals xs us->Vals ys ws->Vals (xs++ys) (us++ws)
 |_,_,_,_,.nil,s=>s
 |_,_,_,_,.cons r t,s=>.cons r (Vals.append t s)
theorem Vals.take:∀{xs:List V} {us:List Value} (n:Nat),Vals xs us->Vals (xs.take n) (us.take n)
 |_,_,0,_=>.nil
 |_,_,_+1,.nil=>.nil
 |_,_,n+1,.cons r t=>.cons r (Vals.take n t)
theorem Vals.drop:∀{xs:List V} {us:List Value} (n:Nat),Vals xs us->Vals (xs.drop n) (us.drop n)
 |_,_,0,r=>r
 |_,_,_+1,.nil=>.nil
 |_,_,n+1,.cons _ t=>Vals.drop n t
theorem Vals.none_of:∀{xs:List V} {us:List Value} {i:Nat},Vals xs us->xs[i]?=none->us[i]?=none:=λ{xs us i} r e=>by have h1:=r.length;have h2:xs.length<=i:=List.getElem?_eq_none_iff.mp e;exact List.getElem?_eq_none_iff.mpr (by omega)
noncomputable def RelO:Option V->Option Value->Prop
 |some v,some u=>RelV v u
 |none,none=>True
 |_,_=>False
noncomputable def KV{κ:Type}:List (κ×V)->List (κ×Value)->Prop:=Paired λ(p:κ×V) (q:κ×Value)=>p.1=q.1/\RelV p.2 q.2
noncomputable def kV:Key->V
 |.inl i=>.int i
 |.inr x=>.str x
inductive HO where
 |lst (xs:List V)
 |tup (xs:List V)
 |dK (kvs:List (Key×V)) |dT (kvs:List (List Key×V))
 |set (S:Int->Bool) (n:Nat)
 |ins (C dx:Addr) (fs:List (Str×V))
 |own (x:Addr)
 |xd (fs:List (Str×V))
 |met (f x:Addr)
 |rng (lo hi:Int)
 |frz (o:Obj) (u:HO)
 |tbl (ps:Array Value)
 |ext (φ:Heap->Prop)
abbrev Hp:=Addr->Option HO
noncomputable def upd(H:Hp)(a:Addr)(o:HO):Hp:=λb=>if b=a then some o else H b
theorem aj{H:Hp}{a:Addr}{o:HO}:upd H a o a=some o:=by unfold upd;rw[if_pos rfl]
theorem upd_ne{H:Hp}{a b:Addr}{o:HO}(h:b≠a):upd H a o b=H b:=by unfold upd;rw[if_neg h]
theorem dw{H:Hp}{a:Addr}{o u:HO}:upd (upd H a o) a u=upd H a u:=by funext b;unfold upd;split<;>rfl
theorem bj{H:Hp}{a b:Addr}{o:HO}(h:H a=some o)(h':H b=none):a≠b:=by intro e;subst e;rw[h]at h';cases h'
section
variable (P:Program)(w:World)
noncomputable def ObjOk(H:Hp)(h:Heap)(a:Addr):HO->Prop
 |.lst xs=>xs.length<=sizeLine/\∃(its:List Value) (n:Nat),Vals xs its/\h.get? a=some { cls:=.type "list",data:=.seq its.toArray n }
 |.tup xs=>xs.length<=sizeLine/\∃its:List Value,Vals xs its/\IsTup h a its.toArray
 |.dK kvs=>kvs.length<=sizeLine/\(a == sysModules)=false/\∃vs,KV kvs vs/\h.DictOf (xF P w) a vs
 |.dT kvs=>kvs.length<=sizeLine/\(a == sysModules)=false/\∃xs:List (List Key×Addr×Value),
  Paired (λ(p:List Key×V) (q:List Key×Addr×Value)=>p.1=q.1/\H q.2.1=some (.tup (p.1.map kV))/\RelV p.2 q.2.2) kvs xs /\
  ∃o es ep,h.get? a=some o/\o.ExactDict/\o.data=.dict es ep/\es.toList=xs.map (entryOfKey (tupleKind (xF P w)))/\(xs.map (·.1)).Nodup
 |.set S n=>h.SetOf (intKind P w) a S n
 |.ins C dx fs=>H dx=some (.own a)/\fs.length<=1000/\dx≠a/\h.get? a=some (PySem.W.instObj C dx) /\
  ∃mA,h.Ns1 dx mA/\(∀f,RelO (fs.lookup f) (mA f))/\PySem.Within mA (fs.map (·.1))
 |.own _=>∃o,h.get? a=some o
 |.xd fs=>∃mA,h.Ns1 a mA/\∀f,RelO (fs.lookup f) (mA f)
 |.rng lo hi=>∃t u v,h.get? a=some { cls:=.type "range",data:=.fields #[.int lo t,.int hi u,.int 1 v] }
 |.frz o u=>h.get? a=some o/\ObjOk H h a u
 |.tbl ps=>h.get? a=some { cls:=.none,data:=.fields ps }
 |.met f x=>h.get? a=some (PySem.W.methodObj (.ref f) (.ref x))
 |.ext φ=>φ h/\(∃o,h.get? a=some o)/\∀h1 h2:Heap,φ h1->(∀o,h1.get? a=some o->h2.get? a=some o)->φ h2
def HOk(H:Hp)(h:Heap):Prop:=∀a o,H a=some o->ObjOk P w H h a o
end
section
variable {P:Program}{w:World}{H H':Hp}{h h':Heap}{a:Addr}{o:HO}
theorem ObjOk.lt(x:ObjOk P w H h a o):a<h.objs.size:=by
 cases o with
 |lst xs=>obtain⟨_,_,_,_,e⟩:=x;exact Heap.lt_size e
 |tup xs=>obtain⟨_,_,_,p⟩:=x;exact p.lt
 |dK kvs=>obtain⟨_,_,_,_,o,_,_,e,_⟩:=x;exact Heap.lt_size e
 |dT kvs=>obtain⟨_,_,_,_,o,_,_,e,_⟩:=x;exact Heap.lt_size e
 |set S n=>obtain⟨o,_,_,_,e,_⟩:=x;exact Heap.lt_size e
 |ins C dx fs=>obtain⟨_,_,_,e,_⟩:=x;exact Heap.lt_size e
 |own y=>obtain⟨_,e⟩:=x;exact Heap.lt_size e
 |xd fs=>obtain⟨_,⟨_,_,_,e,_⟩,_⟩:=x;exact Heap.lt_size e
 |rng lo hi=>obtain⟨_,_,_,e⟩:=x;exact Heap.lt_size e
 |frz ob u=>obtain⟨e,_⟩:=x;exact Heap.lt_size e
 |tbl ps=>exact Heap.lt_size (show h.get? a=some _ from x)
 |met f y=>exact Heap.lt_size (show h.get? a=some _ from x)
 |ext φ=>obtain⟨_,⟨_,e⟩,_⟩:=x;exact Heap.lt_size e
theorem Paired.mapP{α β:Type}{F G:α->β->Prop}:∀{l₁:List α} {l₂:List β},Paired F l₁ l₂->(∀a b,F a b->G a b)->Paired G l₁ l₂
 |_,_,.nil,_=>.nil
 |_,_,.cons r t,f=>.cons (f _ _ r) (Paired.mapP t f)
theorem ObjOk.stay(x:ObjOk P w H h a o)(k:∀b u,(b=a\/H b=some (.own a))->h.get? b=some u->h'.get? b=some u)
 (ho:∀b,H b=some (.own a)->H' b=some (.own a)) (ht:∀b xs,H b=some (.tup xs)->H' b=some (.tup xs)):ObjOk P w H' h' a o:=by
 induction o with
 |lst xs=>obtain⟨z,its,n,r,e⟩:=x;exact⟨z,its,n,r,k _ _ (.inl rfl) e⟩
 |tup xs=>obtain⟨z,its,r,ob,e,c⟩:=x;exact⟨z,its,r,ob,k _ _ (.inl rfl) e,c⟩
 |dK kvs=>obtain⟨z,y,vs,r,ob,es,ep,e,c⟩:=x;exact⟨z,y,vs,r,ob,es,ep,k _ _ (.inl rfl) e,c⟩
 |dT kvs =>obtain⟨z,y,xs,r,ob,es,ep,e,c⟩:=x;exact⟨z,y,xs,Paired.mapP r λp q z=>⟨z.1,ht _ _ z.2.1,z.2.2⟩,ob,es,ep,k _ _ (.inl rfl) e,c⟩
 |set S n=>obtain⟨ob,es,ep,t,e,c⟩:=x;exact⟨ob,es,ep,t,k _ _ (.inl rfl) e,c⟩
 |ins C dx fs =>obtain⟨d,z,ne,e,mA,⟨od,es,ep,e2,c⟩,r⟩:=x;exact⟨ho _ d,z,ne,k _ _ (.inl rfl) e,mA,⟨od,es,ep,k _ _ (.inr d) e2,c⟩,r⟩
 |own y=>obtain⟨ob,e⟩:=x;exact⟨ob,k _ _ (.inl rfl) e⟩
 |xd fs=>obtain⟨mA,⟨od,es,ep,e,c⟩,r⟩:=x;exact⟨mA,⟨od,es,ep,k _ _ (.inl rfl) e,c⟩,r⟩
 |rng lo hi=>obtain⟨t,u,v,e⟩:=x;exact⟨t,u,v,k _ _ (.inl rfl) e⟩
 |frz ob u ih=>obtain⟨e,q⟩:=x;exact⟨k _ _ (.inl rfl) e,ih q⟩
 |tbl ps =>have e:h.get? a=some { cls:=.none,data:=.fields ps }:=x;show h'.get? a=some { cls:=.none,data:=.fields ps };exact k a _ (.inl rfl) e
 |met f y =>have e:h.get? a=some (PySem.W.methodObj (.ref f) (.ref y)):=x;show h'.get? a=some (PySem.W.methodObj (.ref f) (.ref y));exact k a _ (.inl rfl) e
 |ext φ=>obtain⟨p,⟨o,e⟩,st⟩:=x;exact⟨st _ _ p λo q=>k _ _ (.inl rfl) q,⟨o,k _ _ (.inl rfl) e⟩,st⟩
theorem HOk.lt(x:HOk P w H h)(e:H a=some o):a<h.objs.size:=(x a o e).lt
theorem HOk.fresh(x:HOk P w H h)(e:h.objs.size<=a):H a=none:=by
 cases q:H a with
 |none=>rfl
 |some u=>exact absurd (Nm (x.lt q) e) (NA _)
theorem HOk.kept(x:HOk P w H h)(k:∀b u,h.get? b=some u->h'.get? b=some u):HOk P w H h':=λa o e =>(x a o e).stay (λb u _ q=>k b u q) (λ_ q=>q) λ_ _ q=>q
theorem HOk.laid(x:HOk P w H h)(k:∀b u,h.get? b=some u->h'.get? b=some u)(hp:h.objs.size<=a)(new:ObjOk P w (upd H a o) h' a o):HOk P w (upd H a o) h':=λb u e=>by
 have hn:=x.fresh hp;by_cases hb:b=a
 ·subst hb;rw[aj]at e;cases e;exact new
 ·rw[upd_ne hb]at e;exact(x b u e).stay (λc v _ q=>k c v q) (λc q=>by rw[upd_ne (bj q hn)];exact q) λc xs q=>by rw[upd_ne (bj q hn)];exact q
end
def Rd(H:Hp)(a:Addr)(u:HO):Prop:=H a=some u\/∃o,H a=some (.frz o u)
theorem Rd.of{H:Hp}{a:Addr}{u:HO}(h:H a=some u):Rd H a u:=.inl h
theorem Rd.ok{P:Program}{w:World}{H:Hp}{h:Heap}{a:Addr}{u:HO}(r:Rd H a u)(x:HOk P w H h):ObjOk P w H h a u:=by
 rcases r with r |⟨o,r⟩
 ·exact x a u r
 ·obtain⟨_,q⟩:=x a _ r;exact q
noncomputable def Mut:Option HO->Prop
 |some (.lst _)=>True
 |some (.dK _)=>True
 |some (.dT _)=>True
 |some (.set _ _)=>True
 |some (.ins _ _ _)=>True
 |some (.ext _)=>True
 |_=>False
section
variable {P:Program}{w:World}{H:Hp}{h h':Heap}{x e:Addr}{o':HO}
theorem HOk.write(ok:HOk P w H h)(mu:Mut (H x))(he:e=x\/H e=some (.own x))(k:∀b u,b≠e->h.get? b=some u->h'.get? b=some u)(heo:∃u,h'.get? e=some u)
 (new:ObjOk P w (upd H x o') h' x o'):HOk P w (upd H x o') h':=λb u q=>by
 have nown:∀c y,H c=some (.own y)->c≠x:=λc y r z=>by subst z;rw[r]at mu;exact mu
 have ntup:∀c xs,H c=some (.tup xs)->c≠x:=λc xs r z=>by subst z;rw[r]at mu;exact mu
 by_cases hb:b=x
 ·subst hb;rw[aj]at q;cases q;exact new
 ·rw[upd_ne hb]at q;by_cases hbe:b=e
  ·have q':H b=some (.own x):=by
    rcases he with z |z
    ·exact absurd (hbe.trans z) hb
    ·rw[hbe];exact z
   rw[q]at q';cases q';obtain⟨v,hv⟩:=heo;exact⟨v,by rw[hbe];exact hv⟩
  ·refine(ok b u q).stay (λc v hc r=>k c v ?_ r) (λc r=>by rw[upd_ne (nown c b r)];exact r) λc xs r=>by rw[upd_ne (ntup c xs r)];exact r
   rcases hc with rfl |hc
   ·exact hbe
   ·rintro rfl;rcases he with z |z
    ·exact nown c b hc z
    ·rw[hc]at z;cases z;exact hb rfl
end
structure Un(fs ex:List Addr)(H H':Hp)(h h':Heap):Prop where
 keep:∀b o,h.get? b=some o->H b=none->b∉fs->b∉ex->h'.get? b=some o
 slot:∀b o,h.get? b=some o->H b=none->b∈fs->b∉ex->∃sl,h'.get? b=some { o with slots:=sl }
 free:∀b o,h.get? b=some o->H b=none->b∉ex->H' b=none
 there:∀b o,h.get? b=some o->b∉ex->∃o',h'.get? b=some o'
 tups:∀b xs,H b=some (.tup xs)->H' b=some (.tup xs)
 frzs:∀b o u,H b=some (.frz o u)->H' b=some (.frz o u)
 tbls:∀b ps,H b=some (.tbl ps)->∃more,H' b=some (.tbl (ps++more))
section
variable {fs fs' ex ex':List Addr}{H H1 H2:Hp}{h h1 h2 h':Heap}{a x e:Addr}{o:HO}
theorem Un.any(u:Un fs ex H H1 h h1){b:Addr}{ob:Obj}(q:h.get? b=some ob)(n:H b=none)(hx:b∉ex):∃sl,h1.get? b=some { ob with slots:=sl }:=by
 by_cases hb:b∈fs
 ·exact u.slot b ob q n hb hx
 ·exact⟨ob.slots,u.keep b ob q n hb hx⟩
theorem Un.trans(a:Un fs ex H H1 h h1)(b:Un fs ex H1 H2 h1 h2):Un fs ex H H2 h h2 where
 keep:=λc ob q n hc hx=>b.keep c ob (a.keep c ob q n hc hx) (a.free c ob q n hx) hc hx
 slot:=λc ob q n hc hx=>by obtain⟨sl,e1⟩:=a.slot c ob q n hc hx;obtain⟨sl',e2⟩:=b.slot c _ e1 (a.free c ob q n hx) hc hx;exact⟨sl',e2⟩
 free:=λc ob q n hx=>by obtain⟨o',e1⟩:=a.there c ob q hx;exact b.free c o' e1 (a.free c ob q n hx) hx
 there:=λc ob q hx=>by obtain⟨o',e1⟩:=a.there c ob q hx;exact b.there c o' e1 hx
 tups:=λc xs q=>b.tups c xs (a.tups c xs q)
 frzs:=λc ob xs q=>b.frzs c ob xs (a.frzs c ob xs q)
 tbls:=λc ps q=>by obtain⟨m1,e1⟩:=a.tbls c ps q;obtain⟨m2,e2⟩:=b.tbls c _ e1;exact⟨m1++m2,by rw[e2,Array.append_assoc]⟩
theorem Un.kept(k:∀b u,h.get? b=some u->h'.get? b=some u):Un fs ex H H h h' :=
 ⟨λb ob q _ _ _=>k b ob q,λb ob q _ _ _=>⟨ob.slots,k b ob q⟩,λ_ _ _ n _=>n,λb ob q _=>⟨ob,k b ob q⟩,λ_ _ q=>q,λ_ _ _ q=>q,λ_ ps q=>⟨#[],by rw[q];simp⟩⟩
theorem Un.refl:Un fs ex H H h h:=Un.kept λ_ _ q=>q
theorem Un.laid(k:∀b u,h.get? b=some u->h'.get? b=some u)(hp:h.objs.size<=a)(hn:H a=none):Un fs ex H (upd H a o) h h' where
 keep:=λb u q _ _ _=>k b u q
 slot:=λb u q _ _ _=>⟨u.slots,k b u q⟩
 free:=λb u q n _=>by rw[upd_ne (Nt (Nm (Heap.lt_size q) hp))];exact n
 there:=λb u q _=>⟨u,k b u q⟩
 tups:=λb xs q=>by rw[upd_ne (bj q hn)];exact q
 frzs:=λb u xs q=>by rw[upd_ne (bj q hn)];exact q
 tbls:=λb ps q=>⟨#[],by rw[upd_ne (bj q hn),q];simp⟩
theorem Un.write(mu:Mut (H x))(he:e=x\/H e=some (.own x))(k:∀b u,b≠e->h.get? b=some u->h'.get? b=some u)(heo:∃u,h'.get? e=some u):Un fs ex H (upd H x o) h h':=by
 have hx:∀b,H b=none->b≠x:=λb n z=>by subst z;rw[n]at mu;exact mu
 have hb:∀b,H b=none->b≠e:=λb n z=>by
  subst z;rcases he with r |r
  ·exact hx b n r
  ·rw[n]at r;cases r
 have hm:∀b u,H b=some u->¬Mut (some u)->b≠x:=λb u q nm z=>by subst z;rw[q]at mu;exact nm mu
 refine⟨λb u q n _ _=>k b u (hb b n) q,λb u q n _ _=>⟨u.slots,k b u (hb b n) q⟩,λb u q n _=>by rw[upd_ne (hx b n)];exact n,λb u q _=>?_,
  λb xs q=>by rw[upd_ne (hm b _ q λz=>z)];exact q,λb u xs q=>by rw[upd_ne (hm b _ q λz=>z)];exact q,λb ps q=>⟨#[],by rw[upd_ne (hm b _ q λz=>z),q];simp⟩⟩
 by_cases hbe:b=e
 ·subst hbe;exact heo
 ·exact⟨u,k b u hbe q⟩
theorem Un.mono(u:Un fs ex H H1 h h1)(hs:∀b∈fs,b∈fs')(hx:∀b∈ex,b∈ex'):Un fs' ex' H H1 h h1 :=
 ⟨λb ob q n hb he=>u.keep b ob q n (λz=>hb (hs b z)) λz=>he (hx b z),λ_ _ q n _ he=>u.any q n λz=>he (hx _ z),λb ob q n he=>u.free b ob q n λz=>he (hx b z),λb ob q he=>u.there b ob q λz=>he (hx b z),u.tups,u.frzs,u.tbls⟩
end
noncomputable def trk(h:Heap)(H:Hp):List Addr:=(List.range h.objs.size).filter λa=>(H a).isSome
noncomputable def gw(h:Heap)(H:Hp):Heap:=PySem.W.hideAll h (trk h H)
theorem HQ(h:Heap)(H:Hp):(gw h H).objs.size=h.objs.size:=PySem.W.hideAll_size _ _
theorem HR{h:Heap}{H:Hp}{b:Addr}{o:Obj}(e:h.get? b=some o)(n:H b=none):(gw h H).get? b=some o :=
 PySem.W.hideAll_get _ e λhm=>by have q:(H b).isSome=true:=(List.mem_filter.mp hm).2;rw[n]at q;simp at q
theorem E6{h:Heap}{H:Hp}{b:Addr}{o:Obj}(e:(gw h H).get? b=some o):h.get? b=some o/\H b=none:=by
 have e':h.get? b=some o:=PySem.W.of_hideAll (trk h H) e;refine⟨e',?_⟩;cases q:H b with
 |none=>rfl
 |some x =>have hm:b∈trk h H:=List.mem_filter.mpr ⟨List.mem_range.mpr (Heap.lt_size e'),by simp[q]⟩;have z:(gw h H).get? b=none:=PySem.W.hideAll_none (trk h H) hm;rw[z]at e;cases e
noncomputable def Lk(g h:Heap)(L:Addr):List (Addr×Obj):=(List.range h.objs.size).filterMap λa=>if a=L\/(g.get? a).isSome=true then none else(h.get? a).map λo=>(a,o)
noncomputable def rest(g h:Heap)(L d:Addr):List (Addr×Obj):=(Lk g h L).filter λp=>decide (p.1≠d)
structure Mod(K:PySem.W.Frag)(mg:Str->Option Value)(base:Heap):Prop where
 kin:K.In base
 glob:base.Ns mainGlobals mg
 blt:∃mb,base.Ns builtinsNs mb/\∀x:Str,x≠"__name__"->mb x=bootBuiltins x
 nolimit:base.NoLimit
structure Cx where
 prog:Program
 w:World
 K:PySem.W.Frag
 mg:Str->Option Value
 base:Heap
 A:Around
 N:List Str
 s₀:Shared
 H₀:Hp
 env:Env
 outer:List Env
 stack:List Env
 ex:List Addr
 fn:Str->Bool
 calm:Bool
 pn:List (Addr×Obj)
 xe:Value->Shared->Prop
noncomputable def frs(l:List Env):List Addr:=l.filterMap (·.frame)
abbrev Cx.fs(X:Cx):List Addr:=frs X.outer
def Vis(sc:Scope)(x:Str):Prop:=sc.names.lookup x=some .local\/sc.names.lookup x=some .cell\/sc.names.lookup x=some .free
def Loc(sc:Scope)(x:Str):Prop:=sc.names.lookup x=some .local\/sc.names.lookup x=some .cell
noncomputable def Lz(env:Env)(h:Heap)(m:Str->Option Value)(x:Str)(u:Value):Prop :=
 (env.kindOf x=some .local/\m x=some u)\/((env.kindOf x=some .cell\/env.kindOf x=some .free)/\∃c,env.cells.lookup x=some c/\h.IsCell c (some u))
structure Cx.Ok(X:Cx):Prop where
 mod:Mod X.K X.mg X.base
 kind:X.env.scope.kind=.function
 glob:X.env.globals=mainGlobals
 blt:X.env.builtins=builtinsNs
 above:X.s₀.heap.objs.size<=X.env.locals
 inj:∀x y c,X.env.cells.lookup x=some c->X.env.cells.lookup y=some c->x=y
 has:∀x,(X.env.kindOf x=some .cell\/X.env.kindOf x=some .free)->∃c,X.env.cells.lookup x=some c
 cab:∀x c,X.fn x=true->X.env.cells.lookup x=some c->X.s₀.heap.objs.size<=c
 hd:X.calm=true->X.A.handled=none
 frames:X.A.frames=some X.stack
 stk:X.stack=X.outer\/(X.stack=X.env::X.outer/\X.env.frame=some X.env.locals)
 exf:∀b∈X.ex,b≠X.env.locals/\∀x c,X.env.cells.lookup x=some c->c≠b
 bs:∀b o,X.base.get? b=some o->X.s₀.heap.get? b=some o/\X.H₀ b=none
 bsz:X.base.objs.size<=X.s₀.heap.objs.size
 noex:∀b o,X.base.get? b=some o->b∉X.ex
 exfs:∀b∈X.ex,b∉X.fs
 funs:X.s₀.heap.FunFrames X.base X.outer
 frf:∀b∈X.fs,X.H₀ b=none
structure Inv(X:Cx)(pins:List (Addr×Obj))(σ:List (Option V))(H:Hp)(s:Shared):Prop where
 ok:X.Ok
 os:s.os=X.s₀.os
 bare:AllBare s.gens
 base:Un X.fs X.ex X.H₀ H X.s₀.heap s.heap
 loc:∃m,s.heap.Ns X.env.locals m/\∀(i:Nat) (x:Str) (v:V),X.N[i]?=some x->σ[i]?=some (some v)->Vis X.env.scope x->∃u,RelV v u/\Lz X.env s.heap m x u
 cell:∀x c,X.env.cells.lookup x=some c->∃v,s.heap.IsCell c v
 free:H X.env.locals=none
 freeC:∀x c,X.env.cells.lookup x=some c->H c=none
 pin:∀p∈X.pn++pins,s.heap.get? p.1=some p.2/\H p.1=none/\p.1≠X.env.locals/\p.1∉X.fs/\∀v,p.2.data≠.cell v
 hok:HOk X.prog X.w H s.heap
 len:σ.length=X.N.length
section
variable {X:Cx}{pins:List (Addr×Obj)}{σ:List (Option V)}{H H':Hp}{s:Shared}{h':Heap}
theorem Cx.Ok.nofr(ok:X.Ok){b:Addr}{o:Obj}(e:X.base.get? b=some o):b∉X.fs:=λhb=>by have:=(ok.funs.mem hb).1;rw[e]at this;cases this
theorem Inv.bs(I:Inv X pins σ H s):∀b o,X.base.get? b=some o->s.heap.get? b=some o/\H b=none:=λb o e =>⟨I.base.keep b o (I.ok.bs b o e).1 (I.ok.bs b o e).2 (I.ok.nofr e) (I.ok.noex b o e),I.base.free b o (I.ok.bs b o e).1 (I.ok.bs b o e).2 (I.ok.noex b o e)⟩
theorem Inv.bk(I:Inv X pins σ H s):∀b o,X.base.get? b=some o->s.heap.get? b=some o:=λb o e=>(I.bs b o e).1
theorem Inv.mod(I:Inv X pins σ H s):Mod X.K X.mg X.base:=I.ok.mod
theorem Inv.kIn(I:Inv X pins σ H s):X.K.In s.heap:=I.ok.mod.kin.keeps I.bk
theorem Inv.nolimit(I:Inv X pins σ H s):s.heap.NoLimit:=I.ok.mod.nolimit.keeps I.bk
theorem Inv.fr(I:Inv X pins σ H s):∃m,Fr X.base X.env.locals s.heap m :=
 let⟨m,hn,_⟩:=I.loc
 ⟨m,hn,I.bk,Nk I.ok.bsz I.ok.above⟩
theorem Inv.lt(I:Inv X pins σ H s):X.env.locals<s.heap.objs.size:=let⟨_,hn,_⟩:=I.loc;hn.lt
theorem Inv.sz(I:Inv X pins σ H s):X.s₀.heap.objs.size<=s.heap.objs.size:=Nk I.ok.above (N4 I.lt)
theorem Inv.nofs(I:Inv X pins σ H s){a:Addr}(h:s.heap.objs.size<=a):a∉X.fs:=λhb=>by obtain⟨_,o,ho,_⟩:=I.ok.funs.mem hb;exact absurd (Nm (Heap.lt_size ho) (Nk I.sz h)) (NA _)
theorem Inv.cne(I:Inv X pins σ H s):∀x c,X.env.cells.lookup x=some c->c≠X.env.locals:=λx c e z=>by obtain⟨v,o,ho,hd⟩:=I.cell x c e;obtain⟨m,⟨o',es,ep,ho',hd',_⟩,_⟩:=I.loc;rw[z,ho']at ho;cases ho;rw[hd']at hd;cases hd
theorem Inv.funs(I:Inv X pins σ H s):s.heap.FunFrames X.base X.outer:=by
 have all:∀(l:List Env),(∀b∈frs l,b∈X.fs)->X.s₀.heap.FunFrames X.base l->s.heap.FunFrames X.base l:=by
  intro l
  induction l with
  |nil=>intro _ _;trivial
  |cons env r ih =>
   intro hs hl;obtain⟨hk,⟨L,o,hf,hn,ho,hd⟩,hr⟩:=hl;have hL:L∈X.fs:=hs L (by unfold frs;rw[Oh,hf];exact NY);obtain⟨sl,e⟩:=I.base.slot L o ho (I.ok.frf L hL) hL λz=>I.ok.exfs L z hL
   exact⟨hk,⟨L,_,hf,hn,e,hd⟩,ih (λb hb=>hs b (by unfold frs;rw[Oh,hf];exact NQ _ hb)) hr⟩
 exact all X.outer (λ_ hb=>hb) I.ok.funs
theorem Inv.stack(I:Inv X pins σ H s):s.heap.FunFrames X.base X.stack:=by
 rcases I.ok.stk with e |⟨e,hf⟩
 ·rw[e];exact I.funs
 ·rw[e];obtain⟨m,hn,_⟩:=I.loc;refine .cons (by rw[I.ok.kind];decide) hf hn ?_ I.funs;exact Heap.get?_none_of_le (Nk I.ok.bsz I.ok.above)
theorem Inv.stkSub(I:Inv X pins σ H s):∀b∈frs X.stack,b∈X.env.locals::X.fs:=λb hb=>by
 rcases I.ok.stk with e |⟨e,hf⟩
 ·rw[e]at hb;exact NQ _ hb
 ·rw[e]at hb;unfold frs at hb
  rw[Oh,hf]at hb;exact hb
theorem Inv.stkFree(I:Inv X pins σ H s):∀b∈frs X.stack,H b=none:=λb hb=>by
 rcases Ni.mp (I.stkSub b hb)with e |hb
 ·rw[e];exact I.free
 ·obtain⟨_,o,ho,_⟩:=I.ok.funs.mem hb;exact I.base.free b o ho (I.ok.frf b hb) λz=>I.ok.exfs b z hb
theorem Inv.step{g':Array GenState}{t':Nat}{d':Drawn}{ch:List Addr}(I:Inv X pins σ H s)
 (hch:∀b∈ch,(b∈X.ex\/X.s₀.heap.objs.size<=b)/\b≠X.env.locals/\(∀x c,X.env.cells.lookup x=some c->c≠b)/\∀p∈X.pn++pins,p.1≠b)
 (keep:∀b o,b≠X.env.locals->b∉X.fs->b∉ch->s.heap.get? b=some o->H b=none->h'.get? b=some o)
 (slot:∀b o,b≠X.env.locals->b∈X.fs->b∉ch->s.heap.get? b=some o->H b=none->∃sl,h'.get? b=some { o with slots:=sl }) (free:∀b o,b∉ch->s.heap.get? b=some o->H b=none->H' b=none)
 (there:∀b o,b∉ch->s.heap.get? b=some o->∃o',h'.get? b=some o')
 (tups:∀b xs,H b=some (.tup xs)->H' b=some (.tup xs)) (frzs:∀b o u,H b=some (.frz o u)->H' b=some (.frz o u)) (tbls:∀b ps,H b=some (.tbl ps)->∃more,H' b=some (.tbl (ps++more)))
 (ns:∀m,s.heap.Ns X.env.locals m->h'.Ns X.env.locals m) (hok:HOk X.prog X.w H' h') (hg:AllBare g') :
 Inv X pins σ H' { s with heap:=h',gens:=g',drawn:=d',toks:=t' }:=by
 have neL:∀b o,X.s₀.heap.get? b=some o->b≠X.env.locals:=λb o e=>Nt (Nm (Heap.lt_size e) I.ok.above)
 have neC:∀b o,X.s₀.heap.get? b=some o->b∉X.ex->b∉ch:=λb o e hx hb=>by
  rcases(hch b hb).1 with z |z
  ·exact hx z
  ·exact absurd (Nm (Heap.lt_size e) z) (NA _)
 have cellK:∀x c,X.env.cells.lookup x=some c->∀v,s.heap.IsCell c v->h'.IsCell c v:=λx c e v ⟨o,ho,hd⟩=>by
  have nch:c∉ch:=λz=>(hch c z).2.2.1 x c e rfl
  by_cases hc:c∈X.fs
  ·obtain⟨sl,q⟩:=slot c o (I.cne x c e) hc nch ho (I.freeC x c e);exact⟨_,q,hd⟩
  ·exact⟨o,keep c o (I.cne x c e) hc nch ho (I.freeC x c e),hd⟩
 refine⟨I.ok,I.os,hg,⟨λb o e n hb hx=>?_,λb o e n hb hx=>?_,λb o e n hx=>?_,λb o e hx=>?_,λb xs e=>tups b xs (I.base.tups b xs e),λb o xs e=>frzs b o xs (I.base.frzs b o xs e),λb ps e=>?_⟩,?_,λx c e=>?_,?_,λx c e=>?_,λp hp=>?_,hok,I.len⟩
 ·exact keep b o (neL b o e) hb (neC b o e hx) (I.base.keep b o e n hb hx) (I.base.free b o e n hx)
 ·obtain⟨sl,e1⟩:=I.base.slot b o e n hb hx;obtain⟨sl',e2⟩:=slot b _ (neL b o e) hb (neC b o e hx) e1 (I.base.free b o e n hx);exact⟨sl',e2⟩
 ·obtain⟨o',e1⟩:=I.base.there b o e hx;exact free b o' (neC b o e hx) e1 (I.base.free b o e n hx)
 ·obtain⟨o',e1⟩:=I.base.there b o e hx;exact there b o' (neC b o e hx) e1
 ·obtain⟨m1,e1⟩:=I.base.tbls b ps e;obtain⟨m2,e2⟩:=tbls b _ e1;exact⟨m1++m2,by rw[e2,Array.append_assoc]⟩
 ·obtain⟨m,hn,hl⟩:=I.loc;refine⟨m,ns m hn,λi x v e1 e2 e3=>?_⟩;obtain⟨u,r,l⟩:=hl i x v e1 e2 e3;refine⟨u,r,?_⟩;rcases l with l |⟨k,c,e,z⟩
  ·exact .inl l
  ·exact .inr ⟨k,c,e,cellK x c e _ z⟩
 ·obtain⟨v,z⟩:=I.cell x c e;exact⟨v,cellK x c e v z⟩
 ·obtain⟨m,⟨o,_,_,ho,_⟩,_⟩:=I.loc;exact free _ o (λz=>(hch _ z).2.1 rfl) ho I.free
 ·obtain⟨v,o,ho,hd⟩:=I.cell x c e;exact free c o (λz=>(hch c z).2.2.1 x c e rfl) ho (I.freeC x c e)
 ·obtain⟨e,n,ne,nf,d⟩:=I.pin p hp;have nch:p.1∉ch:=λz=>(hch p.1 z).2.2.2 p hp rfl
  exact⟨keep p.1 p.2 ne nf nch e n,free p.1 p.2 nch e n,ne,nf,d⟩
theorem Inv.un{t':Nat}(I:Inv X pins σ H s)(u:Un X.fs [] H H' s.heap h')(hok:HOk X.prog X.w H' h'):Inv X pins σ H' { s with heap:=h',toks:=t' }:=by
 obtain⟨m,⟨o,es,ep,ho,r⟩,_⟩:=id I.loc;obtain⟨sl,hL⟩:=u.any ho I.free (by simp)
 exact I.step (g':=s.gens) (d':=s.drawn) (ch:=[]) (λ_ z=>nomatch z) (λb o _ hb _ e n=>u.keep b o e n hb (by simp)) (λb o _ hb _ e n=>u.slot b o e n hb (by simp)) (λb o _ e n=>u.free b o e n (by simp)) (λb o _ e=>u.there b o e (by simp)) u.tups u.frzs u.tbls (λm' hm=>by
  obtain⟨o',es',ep',ho',r'⟩:=hm;rw[ho]at ho';cases ho'
  exact⟨_,es',ep',hL,r'⟩) hok I.bare
theorem Inv.call{g':Array GenState}{t':Nat}{d':Drawn}{ch:List Addr}(I:Inv X pins σ H s)(u:Un (frs X.stack) ch H H' s.heap h')(hok:HOk X.prog X.w H' h')(hg:AllBare g')
 (hch:∀b∈ch,(b∈X.ex\/X.s₀.heap.objs.size<=b)/\b≠X.env.locals/\(∀x c,X.env.cells.lookup x=some c->c≠b)/\∀p∈X.pn++pins,p.1≠b) :
 Inv X pins σ H' { s with heap:=h',gens:=g',drawn:=d',toks:=t' }:=by
 obtain⟨m,⟨o,es,ep,ho,r⟩,_⟩:=id I.loc;obtain⟨sl,hL⟩:=u.any ho I.free λz=>(hch _ z).2.1 rfl
 exact I.step (ch:=ch) hch (λb o hL hb hc e n=>u.keep b o e n (λz=>(Ni.mp (I.stkSub b z)).elim hL hb) hc) (λb o _ _ hc e n=>u.any e n hc) (λb o hc e n=>u.free b o e n hc) (λb o hc e=>u.there b o e hc) u.tups u.frzs u.tbls (λm' hm=>by
  obtain⟨o',es',ep',ho',r'⟩:=hm;rw[ho]at ho';cases ho'
  exact⟨_,es',ep',hL,r'⟩) hok hg
theorem Inv.turned{t':Nat}{it:Addr}(I:Inv X pins σ H s)(k:∀b o,b≠it->s.heap.get? b=some o->h'.get? b=some o)(hn:H it=none)(hL:it≠X.env.locals)
 (h1:it∈X.ex\/X.s₀.heap.objs.size<=it) (h2:∀x c,X.env.cells.lookup x=some c->c≠it) (h3:∀p∈X.pn++pins,p.1≠it):Inv X pins σ H { s with heap:=h',toks:=t' }:=by
 have nit:∀b u,H b=some u->b≠it:=λb u e z=>by rw[z,hn]at e;cases e
 refine I.step (g':=s.gens) (d':=s.drawn) (ch:=[it]) (λb hb=>?_) (λb o _ _ hc e _=>k b o (λz=>hc (by simp[z])) e) (λb o _ _ hc e _=>⟨o.slots,k b o (λz=>hc (by simp[z])) e⟩) (λ_ _ _ _ n=>n)
  (λb o hc e=>⟨o,k b o (λz=>hc (by simp[z])) e⟩) (λ_ _ e=>e) (λ_ _ _ e=>e) (λb ps e=>⟨#[],by rw[e];simp⟩) (λm hm=>?_) (λb u e=>?_) I.bare
 ·have e:b=it:=by simpa using hb
  subst e;exact⟨h1,hL,h2,h3⟩
 ·obtain⟨o,es,ep,ho,r⟩:=hm;exact⟨o,es,ep,k _ o (Ne.symm hL) ho,r⟩
 ·refine(I.hok b u e).stay (λc v hc q=>k c v ?_ q) (λ_ q=>q) λ_ _ q=>q
  rcases hc with z |z
  ·rw[z];exact nit b u e
  ·exact nit c _ z
theorem Inv.tok(I:Inv X pins σ H s)(t:Nat):Inv X pins σ H { s with toks:=t }:=I.un (h':=s.heap) (t':=t) Un.refl I.hok
theorem Inv.kept{t':Nat}(I:Inv X pins σ H s)(k:∀b u,s.heap.get? b=some u->h'.get? b=some u):Inv X pins σ H { s with heap:=h',toks:=t' }:=I.un (Un.kept k) (I.hok.kept k)
theorem Inv.laid{a:Addr}{o:HO}{t':Nat}(I:Inv X pins σ H s)(k:∀b u,s.heap.get? b=some u->h'.get? b=some u)(hp:s.heap.objs.size<=a)(new:ObjOk X.prog X.w (upd H a o) h' a o) :
 Inv X pins σ (upd H a o) { s with heap:=h',toks:=t' }:=I.un (Un.laid k hp (I.hok.fresh hp)) (I.hok.laid k hp new)
theorem Inv.write{x e:Addr}{o:HO}{t':Nat}(I:Inv X pins σ H s)(mu:Mut (H x))(he:e=x\/H e=some (.own x))(k:∀b u,b≠e->s.heap.get? b=some u->h'.get? b=some u)(heo:∃u,h'.get? e=some u)
 (new:ObjOk X.prog X.w (upd H x o) h' x o):Inv X pins σ (upd H x o) { s with heap:=h',toks:=t' }:=I.un (Un.write mu he k heo) (I.hok.write mu he k heo new)
theorem Inv.pins_of{pins':List (Addr×Obj)}(I:Inv X pins σ H s)(h:∀p∈pins',s.heap.get? p.1=some p.2/\H p.1=none/\p.1≠X.env.locals/\p.1∉X.fs/\∀v,p.2.data≠.cell v):Inv X pins' σ H s :=
 ⟨I.ok,I.os,I.bare,I.base,I.loc,I.cell,I.free,I.freeC,λp hp=>(No.mp hp).elim (λz=>I.pin p (List.mem_append_left _ z)) (h p),I.hok,I.len⟩
theorem rV{N:List Str}(hN:N.Nodup){i j:Nat}{x:Str}(a:N[i]?=some x)(b:N[j]?=some x):i=j:=by obtain⟨h1,e1⟩:=List.getElem?_eq_some_iff.mp a;obtain⟨h2,e2⟩:=List.getElem?_eq_some_iff.mp b;exact(List.getElem_inj hN).mp (e1.trans e2.symm)
theorem Bs{M:Model}{A:Around}{E:Value->Shared->Prop}{i:Nat}{x:Str}{v:V}{u:Value}{Q:Unit->Shared->Prop}(I:Inv X pins σ H s)(hN:X.N.Nodup)(hi:X.N[i]?=some x)(hx:Loc X.env.scope x)(r:RelV v u)
 (h:∀s',Inv X pins (σ.set i (some v)) H s'->(∃a,Heap.SameBut a s.heap s'.heap/\(a=X.env.locals\/X.env.cells.lookup x=some a))->Q () s') (hf:X.fn x=true\/X.env.scope.names.lookup x=some .local:=by first |exact .inl rfl |exact .inr rfl |assumption):wpAny M A (storeName X.env x u) Q E s:=by
 obtain⟨m,hn,hl⟩:=id I.loc;have hcls:(X.env.scope.kind == .class || (X.env.scope.kind == .module&&X.env.locals != X.env.globals))=false:=by rw[I.ok.kind];rfl
 have hiσ:i<σ.length:=by rw[I.len];exact(List.getElem?_eq_some_iff.mp hi).1
 have cne:=I.cne
 have tracked:∀{a:Addr} {h':Heap},(∃o,s.heap.get? a=some o/\H a=none)->Heap.SameBut a s.heap h'->HOk X.prog X.w H h':=λ{a h'} ha hs b ob e=>by
  obtain⟨_,_,hfree⟩:=ha;refine(I.hok b ob e).stay (λc w' hc q=>(hs.2 c ?_).trans q) (λ_ q=>q) λ_ _ q=>q
  rintro rfl;rcases hc with rfl |hc
  ·rw[hfree]at e;cases e
  ·rw[hfree]at hc;cases hc
 rcases hx with hk |hk
 ·refine wpAny_storeName_local hk hn (λh' hn' hs=>?_) hcls;obtain⟨oL,_,_,hoL,_⟩:=id hn;refine h _ ⟨I.ok,I.os,I.bare,⟨λb o e n hb hx=>?_,λb o e n hb hx=>?_,I.base.free,λb o e hx=>?_,I.base.tups,I.base.frzs,I.base.tbls⟩,⟨_,hn',λj y v' e1 e2 e3=>?_⟩,λy c e=>?_,I.free,I.freeC,λp hp=>?_,tracked ⟨oL,hoL,I.free⟩ hs,by simpa using I.len⟩ ⟨_,hs,.inl rfl⟩
  ·exact(hs.2 b (Nt (Nm (Heap.lt_size e) I.ok.above))).trans (I.base.keep b o e n hb hx)
  ·obtain⟨sl,e1⟩:=I.base.slot b o e n hb hx;exact⟨sl,(hs.2 b (Nt (Nm (Heap.lt_size e) I.ok.above))).trans e1⟩
  ·obtain⟨o',e1⟩:=I.base.there b o e hx;exact⟨o',(hs.2 b (Nt (Nm (Heap.lt_size e) I.ok.above))).trans e1⟩
  ·by_cases hj:j=i
   ·subst hj;rw[hi]at e1;cases e1;rw[List.getElem?_set_self hiσ]at e2;cases e2;exact⟨u,r,.inl ⟨hk,by simp⟩⟩
   ·rw[List.getElem?_set_ne (Ne.symm hj)]at e2;obtain⟨u',r',q⟩:=hl j y v' e1 e2 e3;refine⟨u',r',?_⟩;rcases q with⟨k,e⟩ |⟨k,c,e,z⟩
    ·refine .inl ⟨k,?_⟩;have:y≠x:=λe=>hj (rV hN e1 (e ▸ hi))
     simp[this,e]
    ·exact .inr ⟨k,c,e,z.sameBut hs (cne y c e)⟩
  ·obtain⟨w',z⟩:=I.cell y c e;exact⟨w',z.sameBut hs (cne y c e)⟩
  ·obtain⟨e,n,ne,nf,d⟩:=I.pin p hp;exact⟨(hs.2 p.1 ne).trans e,n,ne,nf,d⟩
 ·have hfn:X.fn x=true:=by
   rcases hf with z |z
   ·exact z
   ·rw[z]at hk;cases hk
  obtain⟨c,hc⟩:=I.ok.has x (.inl hk);obtain⟨w',z⟩:=I.cell x c hc;refine wpAny_storeName_cell I.ok.kind hk hc z (λh' hc' hs=>?_);obtain⟨oc,hoc,hocd⟩:=id z;refine h { s with heap:=h' } ⟨I.ok,I.os,I.bare,⟨λb o e n hb hx=>?_,λb o e n hb hx=>?_,I.base.free,λb o e hx=>?_,I.base.tups,I.base.frzs,I.base.tbls⟩,⟨m,hn.sameBut hs (Ne.symm (cne x c hc)),λj y v' e1 e2 e3=>?_⟩,λy c' e=>?_,I.free,I.freeC,λp hp=>?_,tracked ⟨oc,hoc,I.freeC x c hc⟩ hs,by simpa using I.len⟩ ⟨c,hs,.inr hc⟩
  ·exact(hs.2 b (Nt (Nm (Heap.lt_size e) (I.ok.cab x c hfn hc)))).trans (I.base.keep b o e n hb hx)
  ·obtain⟨sl,e1⟩:=I.base.slot b o e n hb hx;exact⟨sl,(hs.2 b (Nt (Nm (Heap.lt_size e) (I.ok.cab x c hfn hc)))).trans e1⟩
  ·obtain⟨o',e1⟩:=I.base.there b o e hx;exact⟨o',(hs.2 b (Nt (Nm (Heap.lt_size e) (I.ok.cab x c hfn hc)))).trans e1⟩
  ·by_cases hj:j=i
   ·subst hj;rw[hi]at e1;cases e1;rw[List.getElem?_set_self hiσ]at e2;cases e2;exact⟨u,r,.inr ⟨.inl hk,c,hc,hc'⟩⟩
   ·rw[List.getElem?_set_ne (Ne.symm hj)]at e2;obtain⟨u',r',q⟩:=hl j y v' e1 e2 e3;refine⟨u',r',?_⟩;rcases q with q |⟨k,c',e,z'⟩
    ·exact .inl q
    ·refine .inr ⟨k,c',e,z'.sameBut hs ?_⟩;rintro rfl;exact hj (rV hN e1 (I.ok.inj _ _ _ e hc ▸ hi))
  ·by_cases hcc:c'=c
   ·subst hcc;exact⟨_,hc'⟩
   ·obtain⟨w2,z2⟩:=I.cell y c' e;exact⟨w2,z2.sameBut hs hcc⟩
  ·obtain⟨e,n,ne,nf,d⟩:=I.pin p hp;refine⟨(hs.2 p.1 ?_).trans e,n,ne,nf,d⟩;intro q;rw[q,hoc]at e;have q':oc=p.2:=Option.some.inj e;exact d w' (by rw[<- q'];exact hocd)
theorem qI{M:Model}{A:Around}{E:Value->Shared->Prop}{i:Nat}{x:Str}{v:V}{u:Value}{Q:Unit->Shared->Prop}(I:Inv X pins σ H s)(hN:X.N.Nodup)(hi:X.N[i]?=some x)(hx:Loc X.env.scope x)(r:RelV v u)
 (h:∀s',Inv X pins (σ.set i (some v)) H s'->Q () s') (hf:X.fn x=true\/X.env.scope.names.lookup x=some .local:=by first |exact .inl rfl |exact .inr rfl |assumption):wpAny M A (storeName X.env x u) Q E s :=
 Bs I hN hi hx r (λs' I' _=>h s' I') hf
theorem Inv.call'{s':Shared}{ch:List Addr}(I:Inv X pins σ H s)(ho:s'.os=s.os)(u:Un (frs X.stack) ch H H' s.heap s'.heap)(hok:HOk X.prog X.w H' s'.heap)(hg:AllBare s'.gens)
 (hch:∀b∈ch,(b∈X.ex\/X.s₀.heap.objs.size<=b)/\b≠X.env.locals/\(∀x c,X.env.cells.lookup x=some c->c≠b)/\∀p∈X.pn++pins,p.1≠b):Inv X pins σ H' s':=by
 obtain⟨h',g',d',t',o'⟩:=s';have e:o'=s.os:=ho;subst e;exact I.call (g':=g') (t':=t') (d':=d') u hok hg hch
end
abbrev XK:=Value->Option Addr->Hp->Prop
abbrev St:=List (Option V)
abbrev VK:=V->Hp->Prop
abbrev TE:=St->Hp->VK->Prop
abbrev TT:=St->Hp->(Bool->Hp->Prop)->Prop
abbrev TA:=St->Hp->(List V->Hp->Prop)->Prop
structure Ends where
 nx:St->Hp->Prop
 rt:VK
 bk:St->Hp->Prop:=λ_ _=>False
 ct:St->Hp->Prop:=λ_ _=>False
abbrev TS:=Ends->St->Hp->Prop
def EP(X:Cx)(pins:List (Addr×Obj))(σ:St)(Q:VK)(u:Value)(s':Shared):Prop:=∃v H',Inv X pins σ H' s'/\RelV v u/\Q v H'
def TP(X:Cx)(pins:List (Addr×Obj))(σ:St)(Q:Bool->Hp->Prop)(b:Bool)(s':Shared):Prop:=∃H',Inv X pins σ H' s'/\Q b H'
def AP(X:Cx)(pins:List (Addr×Obj))(σ:St)(Q:List V->Hp->Prop)(us:List Value)(s':Shared):Prop:=∃vs H',Inv X pins σ H' s'/\Vals vs us/\Q vs H'
noncomputable def SP(X:Cx)(pins:List (Addr×Obj))(D:Ends)(f:Flow)(s':Shared):Prop :=
 match f with
 |.next=>∃σ' H',Inv X pins σ' H' s'/\D.nx σ' H'
 |.brk=>∃σ' H',Inv X pins σ' H' s'/\D.bk σ' H'
 |.cont=>∃σ' H',Inv X pins σ' H' s'/\D.ct σ' H'
 |.ret u=>∃v σ' H',Inv X pins σ' H' s'/\RelV v u/\D.rt v H'
noncomputable def PE(X:Cx)(e:Expr)(t:TE):Prop :=
 ∀(pins:List (Addr×Obj)) (s:Shared) (σ:St) (H:Hp) (Q:VK),Inv X pins σ H s->t σ H Q->wpAny (model X.prog X.w) X.A (eval e X.env) (EP X pins σ Q) X.xe s
noncomputable def PT(X:Cx)(e:Expr)(t:TT):Prop :=
 ∀(pins:List (Addr×Obj)) (s:Shared) (σ:St) (H:Hp) (Q:Bool->Hp->Prop),Inv X pins σ H s->t σ H Q->wpAny (model X.prog X.w) X.A (isTrue e X.env (eval e X.env)) (TP X pins σ Q) X.xe s
noncomputable def PW(X:Cx)(e:Expr)(t:TT):Prop :=
 ∀(whole:Sem Value) (pins:List (Addr×Obj)) (s:Shared) (σ:St) (H:Hp) (Q:Bool->Hp->Prop),Inv X pins σ H s->t σ H Q->wpAny (model X.prog X.w) X.A (isTrue e X.env whole) (TP X pins σ Q) X.xe s
theorem PW.pt{X:Cx}{e:Expr}{t:TT}(h:PW X e t):PT X e t:=h _
noncomputable def PA(X:Cx)(es:List Expr)(t:TA):Prop :=
 ∀(pos:Pos) (pins:List (Addr×Obj)) (s:Shared) (σ:St) (H:Hp) (Q:List V->Hp->Prop),Inv X pins σ H s->t σ H Q->wpAny (model X.prog X.w) X.A (spliced (backTo pos (starEach es X.env))) (AP X pins σ Q) X.xe s
noncomputable def PS(X:Cx)(st:Stmt)(t:TS):Prop :=
 ∀(pins:List (Addr×Obj)) (s:Shared) (σ:St) (H:Hp) (D:Ends),Inv X pins σ H s->t D σ H->wpAny (model X.prog X.w) X.A (exec st X.env) (SP X pins D) X.xe s
noncomputable def PSs(X:Cx)(st:List Stmt)(t:TS):Prop :=
 ∀(pins:List (Addr×Obj)) (s:Shared) (σ:St) (H:Hp) (D:Ends),Inv X pins σ H s->t D σ H->wpAny (model X.prog X.w) X.A (execs st X.env) (SP X pins D) X.xe s
theorem thn{α:Type}{t:Sem α}{Q Q':α->Shared->Prop}{M:Model}{A:Around}{E:Value->Shared->Prop}{s:Shared}(h:wpAny M A t Q E s)(hQ:∀a s,Q a s->Q' a s):wpAny M A t Q' E s:=wpAny_mono h hQ λ_ _ x=>x
section
variable {X:Cx}
def vB(i:Nat):TE:=λσ H Q=>∃v,σ[i]?=some (some v)/\Q v H
def tC(v:V):TE:=λ_ H Q=>Q v H
theorem Dq{i:Nat}{x:Str}{pos:Pos}(hN:X.N[i]?=some x)(hv:Vis X.env.scope x)(hd:(x == ("__debug__":Str))=false:=by decide)(hcd:(x == ("__classdict__":Str))=false:=by decide):PE X (.Name x pos) (vB i):=by
 intro pins s σ H Q I h;obtain⟨v,e,h⟩:=h;obtain⟨m,hn,hl⟩:=I.loc;obtain⟨u,r,l⟩:=hl i x v hN e hv;have fin:EP X pins σ Q u s:=⟨v,H,I,r,h⟩;rcases l with⟨hk,hm⟩ |⟨hk,c,hc,hcell⟩
 ·exact wpAny_Name (wpAny_loadName_local I.ok.kind hk hn hm fin) hd
 ·rcases hk with hk |hk
  ·exact wpAny_Name (wpAny_loadName_cell I.ok.kind hk hc hcell fin) hd
  ·exact wpAny_Name (wpAny_loadName_free I.ok.kind hk hc hcell fin hcd) hd
theorem af{i j pos}:PE X (.Constant (.int i) j pos) (tC (.int i)):=λ_ _ _ H _ I h=>wpAny_Constant_int ⟨.int i,H,I.tok _,⟨_,rfl⟩,h⟩
theorem gk{b j pos}:PE X (.Constant (.bool b) j pos) (tC (.bl b)):=λ_ _ _ H _ I h=>Constant_bool ⟨.bl b,H,I,rfl,h⟩
theorem ad{x j pos}:PE X (.Constant (.str x) j pos) (tC (.str x)):=λ_ _ _ H _ I h=>Calls.Constant_str ⟨.str x,H,I.tok _,⟨_,rfl⟩,h⟩
def Gl(X:Cx)(x:Str):Prop:=X.env.kindOf x=some .globalImplicit
theorem iJ{E:Value->Shared->Prop}{pins:List (Addr×Obj)}{s:Shared}{σ:St}{H:Hp}{x:Str}{u:Value}{pos:Pos}{Q:Value->Shared->Prop}(I:Inv X pins σ H s)(hg:Gl X x)(hm:X.mg x=some u)(h:Q u s)
 (hd:(x == ("__debug__":Str))=false:=by decide):wpAny (model X.prog X.w) X.A (eval (.Name x pos) X.env) Q E s :=
 Calls.Name_function_global I.ok.kind hg (Calls.loadGlobal_global (by rw[I.ok.glob];exact I.mod.glob.keeps I.bk) hm h) hd
theorem nw{E:Value->Shared->Prop}{pins:List (Addr×Obj)}{s:Shared}{σ:St}{H:Hp}{x:Str}{u:Value}{pos:Pos}{Q:Value->Shared->Prop}(I:Inv X pins σ H s)(hg:Gl X x)(hm:X.mg x=none)(hv:bootBuiltins x=some u)(h:Q u s)
 (hn:x≠"__name__":=by decide) (hd:(x == ("__debug__":Str))=false:=by decide):wpAny (model X.prog X.w) X.A (eval (.Name x pos) X.env) Q E s:=by
 obtain⟨mb,h1,h2⟩:=I.mod.blt;exact Calls.Name_function_global I.ok.kind hg (Calls.loadGlobal_builtin (by rw[I.ok.glob];exact I.mod.glob.keeps I.bk) hm (by rw[I.ok.blt];exact h1.keeps I.bk) ((h2 x hn).trans hv) h) hd
theorem bU{x:Str}{v:V}{u:Value}{pos:Pos}(hg:Gl X x)(hm:X.mg x=some u)(r:RelV v u)(hd:(x == ("__debug__":Str))=false:=by decide):PE X (.Name x pos) (tC v) :=
 λ_ _ _ H _ I h=>iJ I hg hm ⟨v,H,I,r,h⟩ hd
theorem pD{x:Str}{v:V}{u:Value}{pos:Pos}(hg:Gl X x)(hm:X.mg x=none)(hv:bootBuiltins x=some u)(r:RelV v u)(hn:x≠"__name__":=by decide)(hd:(x == ("__debug__":Str))=false:=by decide):PE X (.Name x pos) (tC v) :=
 λ_ _ _ H _ I h=>nw I hg hm hv ⟨v,H,I,r,h⟩ hn hd
variable {a b:Expr}{ta tb:TE}{pos:Pos}
def tB(t:TE):TT:=λσ H Q=>t σ H λx H1=>∃c,x=.bl c/\Q c H1
theorem bS{e:Expr}{t:TE}(h:PE X e t)(he:∀whole,isTrue e X.env whole=(do let v <- whole;standAt e.pos;holding [v] (truthy v)):=by intro _;rfl):PT X e (tB t):=by intro pins s σ H Q I hw;refine isTrue_plain (thn (h pins s σ H _ I hw) λv s1 ⟨x,H1,I1,r1,q1⟩=>?_) (he _);obtain⟨d,rfl,q⟩:=q1;cases r1;exact wpAny_truthy_bool ⟨H1,I1,q⟩
variable {tA tB':TT}{rest:List Expr}
def qH(t u:TT):TT:=λσ H Q=>t σ H λc H1=>if c=true then u σ H1 Q else Q false H1
def vF(t:TT):TT:=λσ H Q=>t σ H λc H1=>Q (!c) H1
theorem cr(ha:PT X a tA):PW X (.BoolOp .And [a] pos) tA:=by
 intro wh pins s σ H Q I h;refine isTrue_and (thn (ha pins s σ H Q I h) λc s1 e=>?_);cases c with
 |true=>exact isTrue_and_nil e
 |false=>exact e
theorem bR(ha:PT X a tA)(hb:PW X (.BoolOp .And (b::rest) pos) tB'):PW X (.BoolOp .And (a::b::rest) pos) (qH tA tB'):=by
 intro wh pins s σ H Q I h;refine isTrue_and (thn (ha pins s σ H _ I h) λc s1 ⟨H1,I1,q1⟩=>?_);cases c with
 |true=>exact hb wh pins s1 σ H1 Q I1 q1
 |false=>exact⟨H1,I1,q1⟩
theorem gK(ha:PT X a tA):PT X (.UnaryOp .Not a pos) (vF tA):=by intro pins s σ H Q I h;exact isTrue_not (ha pins s σ H (λc H1=>Q (!c) H1) I h)
def vI(ta tb:TE):TE:=λσ H Q=>ta σ H λx H1=>∃c,x=.bl c/\if c=true then tb σ H1 Q else Q (.bl false) H1
def vD(ta tb:TE):TE:=λσ H Q=>ta σ H λx H1=>∃c,x=.bl c/\if c=true then Q (.bl true) H1 else tb σ H1 Q
def vE(ta:TE):TE:=λσ H Q=>ta σ H λx H1=>∃c,x=.bl c/\Q (.bl (!c)) H1
theorem bT{op}{t:TE}(h:PE X a t):PE X (.BoolOp op [a] pos) t:=λpins s σ H Q I hw=>BoolOp_one (h pins s σ H Q I hw)
theorem cu(ha:PE X a ta)(hb:PE X (.BoolOp .And (b::rest) pos) tb):PE X (.BoolOp .And (a::b::rest) pos) (vI ta tb):=by
 intro pins s σ H Q I h;refine BoolOp_and (thn (ha pins s σ H _ I h) λv s1 ⟨x,H1,I1,r1,q1⟩=>?_);obtain⟨c,rfl,q1⟩:=q1;cases r1;refine wpAny_truthy_bool ?_;cases c with
 |true=>exact hb pins s1 σ H1 Q I1 q1
 |false=>exact⟨.bl false,H1,I1,rfl,q1⟩
theorem gM(ha:PE X a ta)(hb:PE X (.BoolOp .Or (b::rest) pos) tb):PE X (.BoolOp .Or (a::b::rest) pos) (vD ta tb):=by
 intro pins s σ H Q I h;refine BoolOp_or (thn (ha pins s σ H _ I h) λv s1 ⟨x,H1,I1,r1,q1⟩=>?_);obtain⟨c,rfl,q1⟩:=q1;cases r1;refine wpAny_truthy_bool ?_;cases c with
 |false=>exact hb pins s1 σ H1 Q I1 q1
 |true=>exact⟨.bl true,H1,I1,rfl,q1⟩
theorem gN(ha:PE X a ta):PE X (.UnaryOp .Not a pos) (vE ta):=by intro pins s σ H Q I h;refine UnaryOp_ (thn (ha pins s σ H _ I h) λv s1 ⟨x,H1,I1,r1,q1⟩=>?_);obtain⟨c,rfl,q1⟩:=q1;cases r1;exact not_of (wpAny_truthy_bool ⟨.bl (!c),H1,I1,rfl,q1⟩)
def tIf(t:TT)(ta tb:TE):TE:=λσ H Q=>t σ H λc H1=>if c=true then ta σ H1 Q else tb σ H1 Q
theorem iy{c:Expr}(hc:PT X c tA)(ha:PE X a ta)(hb:PE X b tb):PE X (.IfExp c a b pos) (tIf tA ta tb):=by
 intro pins s σ H Q I h;refine wpAny_IfExp (thn (hc pins s σ H _ I h) λd s1 ⟨H1,I1,q1⟩=>?_);cases d with
 |true=>exact ha pins s1 σ H1 Q I1 q1
 |false=>exact hb pins s1 σ H1 Q I1 q1
end
noncomputable def SqL(K:PySem.W.Frag)(H:Hp)(a:Addr)(xs:List V):Prop :=
 Rd H a (.lst xs) \/
  ∃(o:Obj) (its:Array Value) (n:Nat),K.lookup a=some o/\o.cls=.type "list"/\o.dict=none/\o.data=.seq its n/\its.size<=sizeLine/\Vals xs its.toList
noncomputable def SqT(K:PySem.W.Frag)(H:Hp)(a:Addr)(xs:List V):Prop :=
 Rd H a (.tup xs) \/
  ∃(o:Obj) (its:Array Value) (n:Nat),K.lookup a=some o/\o.cls=.type "tuple"/\o.data=.seq its n/\its.size<=sizeLine/\Vals xs its.toList
noncomputable def Lm:Value->Option V
 |.none=>some .non
 |.bool b=>some (.bl b)
 |.int i _=>some (.int i)
 |.str x _=>some (.str x)
 |.bytes b _=>some (.byt b)
 |.float b _=>some (.flt b)
 |.ref a=>some (.ref a)
 |.type n=>some (.ty n)
 |_=>none
theorem RelV.abs{x:V}{u:Value}(r:RelV x u):Lm u=some x:=by
 cases x with
 |non=>cases r;rfl
 |bl _=>cases r;rfl
 |int _=>obtain⟨t,rfl⟩:=r;rfl
 |str _=>obtain⟨t,rfl⟩:=r;rfl
 |byt _=>obtain⟨t,rfl⟩:=r;rfl
 |flt _=>obtain⟨t,rfl⟩:=r;rfl
 |ref _=>cases r;rfl
 |ty _=>cases r;rfl
theorem RelV.inj{x y:V}{u:Value}(r:RelV x u)(q:RelV y u):x=y:=Option.some.inj (r.abs.symm.trans q.abs)
theorem Vals.inj:∀{xs ys:List V} {us:List Value},Vals xs us->Vals ys us->xs=ys
 |_,_,_,.nil,.nil=>rfl
 |_,_,_,.cons r t,.cons r' t'=>by rw[r.inj r',Vals.inj t t']
section
variable {X:Cx}{pins:List (Addr×Obj)}{σ:St}{H:Hp}{s:Shared}{a:Addr}{xs ys:List V}
theorem SqL.of{K:PySem.W.Frag}(h:H a=some (.lst xs)):SqL K H a xs:=.inl (.inl h)
theorem SqT.of{K:PySem.W.Frag}(h:H a=some (.tup xs)):SqT K H a xs:=.inl (.inl h)
theorem Inv.list(I:Inv X pins σ H s)(h:SqL X.K H a xs):∃its:List Value,Vals xs its/\PlainL s.heap a its.toArray/\xs.length<=sizeLine:=by
 rcases h with h |⟨o,its,n,hk,hc,hd,hs,hz,r⟩
 ·obtain⟨z,its,n,r,e⟩:=h.ok I.hok;exact⟨its,r,⟨_,n,e,rfl,rfl,rfl⟩,z⟩
 ·refine⟨its.toList,r,⟨o,n,I.kIn a o hk,hc,hd,by simpa using hs⟩,?_⟩;have e:=r.length;simp only[Array.length_toList]at e;omega
theorem Inv.tuple(I:Inv X pins σ H s)(h:SqT X.K H a xs):∃its:List Value,Vals xs its/\IsTup s.heap a its.toArray/\xs.length<=sizeLine:=by
 rcases h with h |⟨o,its,n,hk,hc,hs,hz,r⟩
 ·obtain⟨z,its,r,p⟩:=h.ok I.hok;exact⟨its,r,p,z⟩
 ·refine⟨its.toList,r,⟨o,I.kIn a o hk,hc,n,by simpa using hs⟩,?_⟩;have e:=r.length;simp only[Array.length_toList]at e;omega
theorem Inv.list_inj(I:Inv X pins σ H s)(h:SqL X.K H a xs)(h':SqL X.K H a ys):xs=ys:=by
 obtain⟨its,r,⟨o,n,e,_,_,d⟩,_⟩:=I.list h;obtain⟨its',r',⟨o',n',e',_,_,d'⟩,_⟩:=I.list h';rw[e]at e';cases e';rw[d]at d'
 injection d' with d1 _
 have:its=its':=by simpa using congrArg Array.toList d1
 subst this;exact r.inj r'
theorem Inv.tuple_inj(I:Inv X pins σ H s)(h:SqT X.K H a xs)(h':SqT X.K H a ys):xs=ys:=by
 obtain⟨its,r,⟨o,e,_,n,d⟩,_⟩:=I.tuple h;obtain⟨its',r',⟨o',e',_,n',d'⟩,_⟩:=I.tuple h';rw[e]at e';cases e';rw[d]at d'
 injection d' with d1 _
 have:its=its':=by simpa using congrArg Array.toList d1
 subst this;exact r.inj r'
end
abbrev Cx.wish(X:Cx)(E:Value->Shared->Prop):Cx:={ X with xe:=E }
abbrev Cx.nox(X:Cx):Cx:=X.wish λ_ _=>False
theorem Cx.Ok.wish{X:Cx}(ok:X.Ok)(E:Value->Shared->Prop):(X.wish E).Ok :=
 ⟨ok.mod,ok.kind,ok.glob,ok.blt,ok.above,ok.inj,ok.has,ok.cab,ok.hd,ok.frames,ok.stk,ok.exf,ok.bs,ok.bsz,ok.noex,ok.exfs,ok.funs,ok.frf⟩
theorem Cx.Ok.unwish{X:Cx}{E:Value->Shared->Prop}(ok:(X.wish E).Ok):X.Ok :=
 ⟨ok.mod,ok.kind,ok.glob,ok.blt,ok.above,ok.inj,ok.has,ok.cab,ok.hd,ok.frames,ok.stk,ok.exf,ok.bs,ok.bsz,ok.noex,ok.exfs,ok.funs,ok.frf⟩
section
variable {X:Cx}{pins:List (Addr×Obj)}{σ:St}{H:Hp}{s:Shared}{E:Value->Shared->Prop}
theorem Inv.wish(I:Inv X pins σ H s)(E:Value->Shared->Prop):Inv (X.wish E) pins σ H s:=⟨I.ok.wish E,I.os,I.bare,I.base,I.loc,I.cell,I.free,I.freeC,I.pin,I.hok,I.len⟩
theorem Inv.unwish(I:Inv (X.wish E) pins σ H s):Inv X pins σ H s:=⟨I.ok.unwish,I.os,I.bare,I.base,I.loc,I.cell,I.free,I.freeC,I.pin,I.hok,I.len⟩
theorem SP.unwish{D:Ends}{f:Flow}{s':Shared}(h:SP (X.wish E) pins D f s'):SP X pins D f s':=by
 cases f with
 |next=>obtain⟨σ',H',I,q⟩:=h;exact⟨σ',H',I.unwish,q⟩
 |brk=>obtain⟨σ',H',I,q⟩:=h;exact⟨σ',H',I.unwish,q⟩
 |cont=>obtain⟨σ',H',I,q⟩:=h;exact⟨σ',H',I.unwish,q⟩
 |ret u=>obtain⟨v,σ',H',I,r,q⟩:=h;exact⟨v,σ',H',I.unwish,r,q⟩
theorem PE.nox{e:Expr}{t:TE}(h:PE X.nox e t):PE X e t:=λpins s σ H Q I hw =>wpAny_mono (h pins s σ H Q (I.wish _) hw) (λ_ _ ⟨v,H',I',r,q⟩=>⟨v,H',I'.unwish,r,q⟩) λ_ _ z=>False.elim z
theorem PT.nox{e:Expr}{t:TT}(h:PT X.nox e t):PT X e t:=λpins s σ H Q I hw =>wpAny_mono (h pins s σ H Q (I.wish _) hw) (λ_ _ ⟨H',I',q⟩=>⟨H',I'.unwish,q⟩) λ_ _ z=>False.elim z
theorem PSs.nox{st:List Stmt}{t:TS}(h:PSs X.nox st t):PSs X st t:=λpins s σ H D I hw =>wpAny_mono (h pins s σ H D (I.wish _) hw) (λ_ _ q=>q.unwish) λ_ _ z=>False.elim z
end
section
variable {X:Cx}{st:Stmt}{rest:List Stmt}{t u:TS}{e:Expr}{te:TE}{pos:Pos}
def qE:TS:=λD σ H=>D.nx σ H
def bH(t u:TS):TS:=λD σ H=>t { D with nx:=u D } σ H
theorem ay:PSs X [] qE:=λ_ _ σ H _ I h=>wpAny_execs_nil ⟨σ,H,I,h⟩
theorem ah(h1:PS X st t)(h2:PSs X rest u):PSs X (st::rest) (bH t u):=by
 intro pins s σ H D I h;refine wpAny_execs_cons (thn (h1 pins s σ H { D with nx:=u D } I h) λf s1 q=>?_);cases f with
 |next =>obtain⟨σ',H',I',q⟩:=q;exact h2 pins s1 σ' H' D I' q
 |ret v=>exact q
 |brk=>exact q
 |cont=>exact q
theorem ae(h1:PS X st t):PSs X [st] t:=by
 intro pins s σ H D I h;refine wpAny_execs_cons (thn (h1 pins s σ H D I h) λf s1 q=>?_);cases f with
 |next=>exact wpAny_execs_nil q
 |ret v=>exact q
 |brk=>exact q
 |cont=>exact q
theorem Inv.quiet{pins:List (Addr×Obj)}{σ:St}{H:Hp}{s:Shared}(I:Inv X pins σ H s):interactive X.env=false:=by simp[interactive,I.ok.kind]
def qF(te:TE):TS:=λD σ H=>te σ H λ_ H1=>D.nx σ H1
theorem cH(he:PE X e te)(hs:swapsWith e none pos.line X.env=pure false:=by rfl):PS X (.Expr e pos) (qF te):=by intro pins s σ H D I h;exact wpAny_Expr_any (thn (he pins s σ H _ I h) λv s1 ⟨x,H1,I1,r1,q1⟩=>⟨σ,H1,I1,q1⟩) I.quiet hs
def qD(te:TE):TS:=λD σ H=>te σ H D.rt
theorem ai(he:PE X e te):PS X (.Return (some e) pos) (qD te):=by intro pins s σ H D I h;exact wpAny_Return_some (thn (he pins s σ H _ I h) λv s1 ⟨x,H1,I1,r1,q1⟩=>⟨x,σ,H1,I1,r1,q1⟩)
def mF(c:TT)(t u:TS):TS:=λD σ H=>c σ H λb H1=>if b=true then t D σ H1 else u D σ H1
theorem ar{c:Expr}{a b:List Stmt}{tc:TT}(hc:PT X c tc)(ha:PSs X a t)(hb:PSs X b u):PS X (.If c a b pos) (mF tc t u):=by
 intro pins s σ H D I h;refine wpAny_If (thn (hc pins s σ H _ I h) λd s1 ⟨H1,I1,q1⟩=>?_);cases d with
 |true=>exact ha pins s1 σ H1 D I1 q1
 |false=>exact hb pins s1 σ H1 D I1 q1
def Bi:TS:=λ_ _ _=>False
theorem C7:PS X st Bi:=λ_ _ _ _ _ _ h=>h.elim
end
abbrev TG:=V->St->Hp->(St->Hp->Prop)->Prop
noncomputable def PG(X:Cx)(target:Expr)(t:TG):Prop :=
 ∀(pins:List (Addr×Obj)) (s:Shared) (σ:St) (H:Hp) (v:V) (u:Value) (Q:St->Hp->Prop),Inv X pins σ H s->RelV v u->t v σ H Q ->
  wpAny (model X.prog X.w) X.A (assign target X.env u) (λ_ s'=>∃σ' H',Inv X pins σ' H' s'/\Q σ' H') X.xe s
abbrev uO:=V->V->V->Hp->(Hp->Prop)->Prop
noncomputable def Aa(X:Cx)(t:uO):Prop :=
 ∀(pins:List (Addr×Obj)) (s:Shared) (σ:St) (H:Hp) (o i v:V) (ov iv u:Value) (Q:Hp->Prop),Inv X pins σ H s->RelV o ov->RelV i iv->RelV v u->t o i v H Q ->
  wpAny (model X.prog X.w) X.A (setItem ov iv u) (λ_ s'=>∃H',Inv X pins σ H' s'/\Q H') X.xe s
section
variable {X:Cx}{pos:Pos}
def iN(i:Nat):TG:=λv σ H Q=>Q (σ.set i (some v)) H
theorem ix{i:Nat}{x:Str}(hN:X.N.Nodup)(hi:X.N[i]?=some x)(hx:Loc X.env.scope x)(hf:X.fn x=true\/X.env.scope.names.lookup x=some .local:=by first |exact .inl rfl |exact .inr rfl |assumption):PG X (.Name x pos) (iN i):=by intro pins s σ H v u Q I r h;exact wpAny_assign_Name (qI I hN hi hx r (λs' I'=>⟨_,H,I',h⟩) hf)
def Ii(to ti:TE)(t:uO):TG:=λv σ H Q=>to σ H λo H1=>ti σ H1 λi H2=>t o i v H2 λH3=>Q σ H3
theorem gj{o i:Expr}{to ti:TE}{t:uO}(ho:PE X o to)(hi:PE X i ti)(hs:Aa X t)
 (ha:∀v,assign (.Subscript o i pos) X.env v=(do
   let ov <- holding [v] (eval o X.env)
   let iv <- holding [v,ov] (eval i X.env)
   standAt pos
   holding [v,ov,iv] (setItem ov iv v)
   release [v,ov,iv] []):=by intro _;rfl):PG X (.Subscript o i pos) (Ii to ti t):=by
 intro pins s σ H v u Q I r h;rw[ha];refine wpAny_bind (wpAny_holding (thn (ho pins s σ H _ I h) λov s1 ⟨x,H1,I1,r1,q1⟩=>?_));refine wpAny_bind (wpAny_holding (thn (hi pins s1 σ H1 _ I1 q1) λiv s2 ⟨y,H2,I2,r2,q2⟩=>?_));refine wpAny_bind (wpAny_standAt (wpAny_bind (wpAny_holding (thn (hs pins s2 σ H2 x y v ov iv u _ I2 r1 r2 r q2) λ_ s3 ⟨H3,I3,q3⟩=>?_))));exact wpAny_release ⟨σ,H3,I3,q3⟩
def io(te:TE)(g:TG):TS:=λD σ H=>te σ H λx H1=>g x σ H1 D.nx
theorem gg{tg e:Expr}{te:TE}{g:TG}(he:PE X e te)(hg:PG X tg g)(hs:swapsWithSole [tg] e pos.line X.env=pure false:=by rfl)(hw:swappedStores [tg] e X.env=pure none:=by rfl)
 (h1:(assignEach [tg] X.env).map (·.2)=[assign tg X.env]:=by rfl):PS X (.Assign [tg] e pos) (io te g):=by
 intro pins s σ H D I h;refine wpAny_Assign_stores (thn (he pins s σ H _ I h) λv s1 ⟨x,H1,I1,r1,q1⟩=>?_) hs hw;rw[h1];exact thn (hg pins s1 σ H1 x v _ I1 r1 q1) λ_ s2 q=>q
theorem aF{i:Nat}{x:Str}{e:Expr}{te:TE}{pos':Pos}(hN:X.N.Nodup)(hi:X.N[i]?=some x)(hx:Loc X.env.scope x)(he:PE X e te)(hs:swapsWith e (some (.Name x pos')) pos.line X.env=pure false:=by rfl)(hf:X.fn x=true\/X.env.scope.names.lookup x=some .local:=by first |exact .inl rfl |exact .inr rfl |assumption) :
 PS X (.Assign [.Name x pos'] e pos) (io te (iN i)):=by
 intro pins s σ H D I h;refine wpAny_Assign_Name (thn (he pins s σ H _ I h) λv s1 ⟨y,H1,I1,r1,q1⟩=>?_) hs;exact qI I1 hN hi hx r1 (λs2 I2=>⟨_,H1,I2,q1⟩) hf
end
section
variable {X:Cx}{pos:Pos}
def Bb(c:TT)(tb:TS):TS:=λD σ H=>∃W:Nat->St->Hp->Prop,(∃m,W m σ H)/\∀m σ H,W m σ H ->
 c σ H λb H1=>if b=true then ∃N:St->Hp->Prop,(∀σ' H',N σ' H'->∃m',m'<m/\W m' σ' H')/\tb { D with nx:=N,ct:=N,bk:=D.nx } σ H1 else D.nx σ H1
theorem gL{c:Expr}{body:List Stmt}{tc:TT}{tb:TS}(hp:PassesOwn (model X.prog X.w) X.A X.env X.xe)(hc:PT X c tc)(hb:PSs X body tb):PS X (.While c body [] pos) (Bb tc tb):=by
 intro pins s σ H D I h;obtain⟨W,⟨m0,w0⟩,turn⟩:=h;refine wpAny_While (codeAny_whileLoop (λn s'=>∃σ' H',Inv X pins σ' H' s'/\W n σ' H') ?_ m0 ⟨σ,H,I,w0⟩);rintro n s1 ⟨σ1,H1,I1,w1⟩;refine wpAny_passesOwn hp (thn (hc pins s1 σ1 H1 _ I1 (turn n σ1 H1 w1)) λb s2 ⟨H2,I2,q2⟩=>?_);cases b with
 |true =>
  obtain⟨N,hN,q2⟩:=q2;rw[if_pos rfl];refine wpAny_passesOwn hp (thn (hb pins s2 σ1 H2 _ I2 q2) λf s3 q3=>?_);cases f with
  |next =>obtain⟨σ3,H3,I3,n3⟩:=q3;obtain⟨m',hm,w3⟩:=hN σ3 H3 n3;exact⟨m',hm,σ3,H3,I3,w3⟩
  |cont =>obtain⟨σ3,H3,I3,n3⟩:=q3;obtain⟨m',hm,w3⟩:=hN σ3 H3 n3;exact⟨m',hm,σ3,H3,I3,w3⟩
  |brk=>exact q3
  |ret v=>exact q3
 |false =>rw[if_neg Nn];exact wpAny_execs_nil ⟨σ1,H2,I2,q2⟩
end
structure It where
 go:Nat->Hp->Prop
 yld:Nat->Hp->V->Hp->Prop
 stop:Nat->Hp->Prop
noncomputable def fE(X:Cx)(pins:List (Addr×Obj))(H:Hp)(b:Addr):Prop :=
 H b=none/\b≠X.env.locals/\b∉X.fs/\(b∈X.ex\/X.s₀.heap.objs.size<=b)/\(∀x c,X.env.cells.lookup x=some c->c≠b)/\∀p∈X.pn++pins,p.1≠b
theorem Inv.fpOk{X:Cx}{pins:List (Addr×Obj)}{σ:St}{H H':Hp}{s:Shared}{b:Addr}(I:Inv X pins σ H s)(hb:s.heap.objs.size<=b)(hn:H' b=none):fE X pins H' b:=by
 refine⟨hn,Nat.ne_of_gt (Nm I.lt hb),I.nofs hb,.inr (Nk I.sz hb),λx c e z=>?_,λp hp z=>?_⟩
 ·obtain⟨v,q⟩:=I.cell x c e;exact absurd (Nm q.lt (by rw[z];exact hb)) (NA _)
 ·exact absurd (Nm (Heap.lt_size (I.pin p hp).1) (by rw[z];exact hb)) (NA _)
structure Turn(P:Program)(w:World)(K:PySem.W.Frag)(tg:Expr)(J:It)(fp:List Addr)(it:Addr)(tn:Nat->Heap->Prop):Prop where
 mem:it∈fp
 obj:∀i h,tn i h->∀b∈fp,∃o,h.get? b=some o/\∀v,o.data≠.cell v
 keep:∀i h h',tn i h->(∀b∈fp,∀o,h.get? b=some o->h'.get? b=some o)->tn i h'
 item:∀(X:Cx),X.prog=P->X.w=w->X.K=K->X.calm=true->∀(i:Nat) (pins:List (Addr×Obj)) (s:Shared) (σ:St) (H:Hp) (E:Value->Shared->Prop),Inv X pins σ H s->(∀b∈fp,fE X pins H b)->tn i s.heap->J.go i H ->
  wpAny (model P w) X.A (pyNext (.ref it)) (λr s1=>∃u,r=some u /\
   wpAny (model P w) X.A (letOwnedTupleGo tg (.ref it) u) (λ_ s2=>∃x H',Inv X pins σ H' s2/\RelV x u/\J.yld i H x H'/\tn (i+1) s2.heap/\∀b∈fp,H' b=none) E s1) E s
 done:∀(X:Cx),X.prog=P->X.w=w->X.K=K->X.calm=true->∀(i:Nat) (pins:List (Addr×Obj)) (s:Shared) (σ:St) (H:Hp) (E:Value->Shared->Prop),Inv X pins σ H s->(∀b∈fp,fE X pins H b)->tn i s.heap->J.stop i H ->
  wpAny (model P w) X.A (pyNext (.ref it)) (λr s1=>r=none/\Inv X pins σ H s1) E s
 self:∀(A:Around) (i:Nat) (s:Shared) (Q:Value->Shared->Prop) (E:Value->Shared->Prop),tn i s.heap->Q (.ref it) s->wpAny (model P w) A (pyIter (.ref it)) Q E s
abbrev TI:=St->Hp->(It->Hp->Prop)->Prop
noncomputable def PIE(X:Cx)(pins:List (Addr×Obj))(σ:St)(tg:Expr)(R:It->Hp->Prop)(itv:Value)(s2:Shared):Prop :=
 ∃(it:Addr) (fp:List Addr) (tn:Nat->Heap->Prop) (J:It) (H':Hp),itv=.ref it/\Inv X pins σ H' s2/\Turn X.prog X.w X.K tg J fp it tn/\tn 0 s2.heap/\(∀b∈fp,fE X pins H' b)/\R J H'
noncomputable def PI(X:Cx)(tg iter:Expr)(wi:TI):Prop :=
 ∀(pins:List (Addr×Obj)) (s:Shared) (σ:St) (H:Hp) (R:It->Hp->Prop),Inv X pins σ H s->wi σ H R ->
  wpAny (model X.prog X.w) X.A (eval iter X.env) (λv s1=>wpAny (model X.prog X.w) X.A (pyIter v) (PIE X pins σ tg R) X.xe s1) X.xe s
theorem nM{M:Model}{A:Around}{E:Value->Shared->Prop}{s:Shared}{tg:Expr}{it:Addr}{u:Value}{o:Obj}{n:String}{vs:Array Value}{Q:Unit->Shared->Prop}(ho:s.heap.get? it=some o)(hc:o.cls=.type n)(hd:o.data=.fields vs)
 (hn:["enumerate","zip","dict_itemiterator","dict_reverseitemiterator","odict_iterator","itertools.zip_longest","itertools.pairwise"].contains n=false) (hQ:Q () s):wpAny M A (letOwnedTupleGo tg (.ref it) u) Q E s:=by
 unfold letOwnedTupleGo
 cases tg<;>first
  |exact wpAny_pure hQ
  | (cases u<;>first
      |exact wpAny_pure hQ
      | (refine wpAny_bind (wpAny_load ho ?_)
         rw[hc,hd];show wpAny M A (if(["enumerate","zip","dict_itemiterator","dict_reverseitemiterator","odict_iterator","itertools.zip_longest","itertools.pairwise"].contains n&&vs[0]? == some (rawInt _))=true then _ else _) Q E s;rw[if_neg (by intro h;rw[hn,Bool.false_and]at h;cases h)]
         exact wpAny_pure hQ))
noncomputable def Itl(K:PySem.W.Frag)(a:Addr):It :=
 ⟨λi H=>∃xs x,SqL K H a xs/\xs[i]?=some x,λi H x H'=>H'=H/\∀xs,SqL K H a xs->xs[i]?=some x,λi H=>∃xs,SqL K H a xs/\xs.length<=i⟩
noncomputable def Itt(K:PySem.W.Frag)(a:Addr):It :=
 ⟨λi H=>∃xs x,SqT K H a xs/\xs[i]?=some x,λi H x H'=>H'=H/\∀xs,SqT K H a xs->xs[i]?=some x,λi H=>∃xs,SqT K H a xs/\xs.length<=i⟩
noncomputable def Itr(lo:Int)(n:Nat):It:=⟨λi _=>i<n,λi H x H'=>H'=H/\x=.int (lo+i),λi _=>n<=i⟩
theorem AS{P:Program}{w:World}{K:PySem.W.Frag}{tg:Expr}(a it:Addr):Turn P w K tg (Itl K a) [it] it (λi h=>h.IsListIter it a i) where
 mem:=by simp
 obj:=λi h st b hb=>by
  have e:b=it:=by simpa using hb
  subst e;obtain⟨o,e,c,d⟩:=st;exact⟨o,e,λv z=>by rw[d]at z;cases z⟩
 keep:=λi h h' st k=>st.at λo e=>k it (by simp) o e
 item:=by
  intro X hP hw hK hc i pins s σ H E I hf st hg;subst hP hw hK;obtain⟨xs,x,hq,hx⟩:=hg;obtain⟨its,rv,p,hz⟩:=I.list hq;obtain⟨u,hu,ru⟩:=rv.get hx;obtain⟨f0,f1,f2,f3,f4,f5⟩:=hf it (by simp);refine wpAny_pyNext_list_item st p.isList (x:=u) (by simpa using hu) λh' st' sb=>?_
  have I1:Inv X pins σ H { s with heap:=h' }:=I.turned (t':=s.toks) (λb o hb e=>(sb.2 b hb).trans e) f0 f1 f3 f4 f5;obtain⟨o,e,c,d⟩:=id st';exact⟨u,rfl,nM (s:={ s with heap:=h' }) e c d (by decide) ⟨x,H,I1,ru,⟨rfl,λys hy=>by rw[I.list_inj hy hq];exact hx⟩,st',λb hb=>(hf b hb).1⟩⟩
 done:=by intro X hP hw hK hc i pins s σ H E I hf st hg;subst hP hw hK;obtain⟨xs,hq,hx⟩:=hg;obtain⟨its,rv,p,hz⟩:=I.list hq;obtain⟨f0,f1,f2,f3,f4,f5⟩:=hf it (by simp);have hl:=rv.length;exact wpAny_pyNext_list_end (I.ok.hd hc) st p.isList (by simp;omega) λh' eb=>⟨rfl,I.turned (t':=s.toks) (λb o hb e=>eb b o hb e) f0 f1 f3 f4 f5⟩
 self:=λ_ _ _ _ _ st h=>wpAny_pyIter_listiter st h
theorem AN{P:Program}{w:World}{K:PySem.W.Frag}{tg:Expr}(a it:Addr):Turn P w K tg (Itt K a) [it] it (λi h=>h.IsTupleIter it a i) where
 mem:=by simp
 obj:=λi h st b hb=>by
  have e:b=it:=by simpa using hb
  subst e;obtain⟨o,e,c,d⟩:=st;exact⟨o,e,λv z=>by rw[d]at z;cases z⟩
 keep:=λi h h' st k=>st.at λo e=>k it (by simp) o e
 item:=by
  intro X hP hw hK hc i pins s σ H E I hf st hg;subst hP hw hK;obtain⟨xs,x,hq,hx⟩:=hg;obtain⟨its,rv,p,hz⟩:=I.tuple hq;obtain⟨u,hu,ru⟩:=rv.get hx;obtain⟨f0,f1,f2,f3,f4,f5⟩:=hf it (by simp);refine wpAny_pyNext_tuple_item st (show s.heap.IsTuple a its.toArray from p) (x:=u) (by simpa using hu) λh' st' sb=>?_
  have I1:Inv X pins σ H { s with heap:=h' }:=I.turned (t':=s.toks) (λb o hb e=>(sb.2 b hb).trans e) f0 f1 f3 f4 f5;obtain⟨o,e,c,d⟩:=id st';exact⟨u,rfl,nM (s:={ s with heap:=h' }) e c d (by decide) ⟨x,H,I1,ru,⟨rfl,λys hy=>by rw[I.tuple_inj hy hq];exact hx⟩,st',λb hb=>(hf b hb).1⟩⟩
 done:=by intro X hP hw hK hc i pins s σ H E I hf st hg;subst hP hw hK;obtain⟨xs,hq,hx⟩:=hg;obtain⟨its,rv,p,hz⟩:=I.tuple hq;obtain⟨f0,f1,f2,f3,f4,f5⟩:=hf it (by simp);have hl:=rv.length;exact wpAny_pyNext_tuple_end (I.ok.hd hc) st (show s.heap.IsTuple a its.toArray from p) (by simp;omega) λh' eb=>⟨rfl,I.turned (t':=s.toks) (λb o hb e=>eb b o hb e) f0 f1 f3 f4 f5⟩
 self:=λ_ _ _ _ _ st h=>wpAny_pyIter_tupleiter st h
theorem AR{P:Program}{w:World}{K:PySem.W.Frag}{tg:Expr}(it:Addr)(lo:Int)(n:Nat):Turn P w K tg (Itr lo n) [it] it (λi h=>IsRangeIter h it (lo+(i:Nat)*1) ((n:Int)-(i:Nat)) 1) where
 mem:=by simp
 obj:=λi h st b hb=>by
  have e:b=it:=by simpa using hb
  subst e
  exact⟨_,st,λv z=>by
   have z':Data.fields _=Data.cell v:=z
   cases z'⟩
 keep:=λi h h' st k=>k it (by simp) _ st
 item:=by
  intro X hP hw hK hc i pins s σ H E I hf st hg;subst hP hw hK;obtain⟨f0,f1,f2,f3,f4,f5⟩:=hf it (by simp);have W:=Walks.range (prog:=X.prog) (w:=X.w) (I.ok.hd hc) it lo 1 n;refine W.item i s _ _ hg st λv h' tk hv st' kk=>?_
  obtain⟨t,rfl⟩:=hv;have I1:Inv X pins σ H { s with heap:=h',toks:=tk }:=I.turned (λb o hb e=>kk b o (by simpa using hb) e) f0 f1 f3 f4 f5;refine⟨_,rfl,nM (s:={ s with heap:=h',toks:=tk }) (n:="range_iterator") st' rfl rfl (by decide) ⟨.int (lo+i),H,I1,⟨t,?_⟩,⟨rfl,rfl⟩,st',λb hb=>(hf b hb).1⟩⟩;rw[Int.mul_one]
 done:=by intro X hP hw hK hc i pins s σ H E I hf st hg;subst hP hw hK;obtain⟨f0,f1,f2,f3,f4,f5⟩:=hf it (by simp);exact wpAny_pyNext_range_end (I.ok.hd hc) st (by have:n<=i:=hg;omega) λh' eb=>⟨rfl,I.turned (t':=s.toks) (λb o hb e=>eb b o hb e) f0 f1 f3 f4 f5⟩
 self:=λ_ _ _ _ _ st h=>wpAny_pyIter_rangeiter st h
section
variable {X:Cx}{tg:Expr}
def yL(K:PySem.W.Frag)(tl:TE):TI:=λσ H R=>tl σ H λx H1=>∃a,x=.ref a/\(∃xs,SqL K H1 a xs)/\R (Itl K a) H1
def yK(K:PySem.W.Frag)(tl:TE):TI:=λσ H R=>tl σ H λx H1=>∃a,x=.ref a/\(∃xs,SqT K H1 a xs)/\R (Itt K a) H1
theorem Do{l:Expr}{tl:TE}(hl:PE X l tl):PI X tg l (yL X.K tl):=by
 intro pins s σ H R I h;refine thn (hl pins s σ H _ I h) λv s1 ⟨x,H1,I1,r1,q1⟩=>?_
 obtain⟨a,e,⟨xs,hq⟩,q⟩:=q1;subst e;cases r1;obtain⟨its,rv,p,hz⟩:=I1.list hq;refine wpAny_pyIter_list p.isList ?_;refine⟨s1.heap.objs.size,[s1.heap.objs.size],_,_,H1,rfl,I1.kept (t':=s1.toks) λb o e=>Heap.get?_push_of_some _ e,AS a _,⟨_,Heap.get?_push_size _ rfl,rfl,rfl⟩,λb hb=>?_,q⟩;have e:b=s1.heap.objs.size:=by simpa using hb
 subst e;exact I1.fpOk (Ng _) (I1.hok.fresh (Ng _))
theorem Dk{l:Expr}{tl:TE}(hl:PE X l tl):PI X tg l (yK X.K tl):=by
 intro pins s σ H R I h;refine thn (hl pins s σ H _ I h) λv s1 ⟨x,H1,I1,r1,q1⟩=>?_
 obtain⟨a,e,⟨xs,hq⟩,q⟩:=q1;subst e;cases r1;obtain⟨its,rv,p,hz⟩:=I1.tuple hq;refine wpAny_pyIter_tuple (show s1.heap.IsTuple a its.toArray from p) ?_;refine⟨s1.heap.objs.size,[s1.heap.objs.size],_,_,H1,rfl,I1.kept (t':=s1.toks) λb o e=>Heap.get?_push_of_some _ e,AN a _,⟨_,Heap.get?_push_size _ rfl,rfl,rfl⟩,λb hb=>?_,q⟩;have e:b=s1.heap.objs.size:=by simpa using hb
 subst e;exact I1.fpOk (Ng _) (I1.hok.fresh (Ng _))
theorem CJ{pins:List (Addr×Obj)}{σ:St}{H:Hp}{s:Shared}{R:It->Hp->Prop}{E:Value->Shared->Prop}{lo hi:Int}{t u v:Tok}{tk:Nat}(I:Inv X pins σ H s)(h1 : -(2^62)<=lo)(h2:lo<2^62)(h3 : -(2^62)<=hi)(h4:hi<2^62)
 (q:R (Itr lo (hi-lo).toNat) H):wpAny (model X.prog X.w) X.A (pyIter (.ref s.heap.objs.size)) (PIE X pins σ tg R) E { s with heap:=s.heap.push { cls:=.type "range",data:=.fields #[.int lo t,.int hi u,.int 1 v] },toks:=tk }:=by
 refine wpAny_pyIter_range (IsRange.new ..) (small_one h1 h2 h3 h4) ?_;have I1:Inv X pins σ H { s with heap:=s.heap.push { cls:=.type "range",data:=.fields #[.int lo t,.int hi u,.int 1 v] },toks:=tk }:=I.kept λb o e=>Heap.get?_push_of_some _ e
 refine⟨(s.heap.push { cls:=.type "range",data:=.fields #[.int lo t,.int hi u,.int 1 v] }).objs.size,[(s.heap.push { cls:=.type "range",data:=.fields #[.int lo t,.int hi u,.int 1 v] }).objs.size],_,_,H,rfl,
  I1.kept (t':=tk) λb o e=>Heap.get?_push_of_some _ e,AR _ lo (hi-lo).toNat,?_,λb hb=>?_,q⟩
 ·have e1:lo+((0:Nat):Int)*1=lo:=by simp
  have e2:(((hi-lo).toNat:Nat):Int)-((0:Nat):Int)=Builtin.Range.rangeSize lo hi 1:=by rw[rangeSize_one];split<;>omega
  show IsRangeIter _ _ (lo+((0:Nat):Int)*1) ((((hi-lo).toNat:Nat):Int)-((0:Nat):Int)) 1;rw[e1,e2];exact Heap.get?_push_size _ rfl
 ·have e:b=(s.heap.push { cls:=.type "range",data:=.fields #[.int lo t,.int hi u,.int 1 v] }).objs.size:=by simpa using hb
  subst e;exact I1.fpOk (Ng _) (I1.hok.fresh (Ng _))
def HP(ta:TA):TI:=λσ H R=>ta σ H λvs H1=>∃j:Int,vs=[.int j] /\ -(2^62)<=j/\j<2^62/\R (Itr 0 j.toNat) H1
theorem wL{a:Expr}{ta:TA}{p pos:Pos}(hg:Gl X "range")(hm:X.mg "range"=none)(ha:PA X [a] ta)(hs:starEach [a] X.env=[(false,eval a X.env)]:=by rfl):PI X tg (.Call (.Name "range" p) [a] [] pos) (HP ta):=by
 intro pins s σ H R I h;refine Call_ (nw I hg hm boot_range (PyProof.Rows.callWith_type1 (thn (ha pos pins s σ H _ I h) λus s1 ⟨vs,H1,I1,r1,q1⟩=>?_) hs rfl));obtain⟨j,e,q1,q2,q⟩:=q1;subst e;cases r1 with
 |cons r rr =>cases rr;obtain⟨t,rfl⟩:=r;exact call_range_1 (CJ I1 (by omega) (by omega) q1 q2 (by simpa using q))
def Bk(wi:TI)(g:TG)(tb:TS):TS:=λD σ H=>wi σ H λJ H1=>∃W:Nat->Nat->St->Hp->Prop,(∃m,W 0 m σ H1)/\∀i m σ H,W i m σ H ->
 (J.stop i H/\D.nx σ H)\/(J.go i H/\∃N:St->Hp->Prop,(∀σ' H',N σ' H'->∃m',m'<m/\W (i+1) m' σ' H')/\∀x H',J.yld i H x H'->g x σ H' λσ2 H2=>tb { D with nx:=N,ct:=N,bk:=D.nx } σ2 H2)
noncomputable def pC(fp:List Addr)(h:Heap):List (Addr×Obj):=fp.filterMap λb=>(h.get? b).map λo=>(b,o)
theorem pQ{fp:List Addr}{h:Heap}{b:Addr}{o:Obj}(hb:b∈fp)(e:h.get? b=some o):(b,o)∈pC fp h:=List.mem_filterMap.mpr ⟨b,hb,by rw[e];rfl⟩
theorem E5{fp:List Addr}{h:Heap}{p:Addr×Obj}(hp:p∈pC fp h):p.1∈fp/\h.get? p.1=some p.2:=by
 obtain⟨b,hb,e⟩:=List.mem_filterMap.mp hp;cases q:h.get? b with
 |none=>rw[q]at e;cases e
 |some o =>rw[q]at e;have e':(b,o)=p:=Option.some.inj e;subst e';exact⟨hb,q⟩
theorem Inv.pinned{pins:List (Addr×Obj)}{σ:St}{H:Hp}{s:Shared}{fp:List Addr}(I:Inv X pins σ H s)(hf:∀b∈fp,fE X pins H b)(ho:∀b∈fp,∃o,s.heap.get? b=some o/\∀v,o.data≠.cell v):Inv X (pins++pC fp s.heap) σ H s :=
 I.pins_of λp hp=>(No.mp hp).elim (λz=>I.pin p (NH _ z)) λz=>by obtain⟨hb,e⟩:=E5 z;obtain⟨f0,f1,f2,_⟩:=hf p.1 hb;obtain⟨o,e',d⟩:=ho p.1 hb;rw[e]at e';cases e';exact⟨e,f0,f1,f2,d⟩
theorem Inv.unpinned{pins pl:List (Addr×Obj)}{σ:St}{H:Hp}{s:Shared}(I:Inv X (pins++pl) σ H s):Inv X pins σ H s:=I.pins_of λp hp=>I.pin p (NH _ (List.mem_append_left _ hp))
theorem mS{iter:Expr}{body:List Stmt}{wi:TI}{g:TG}{tb:TS}{pos:Pos}(hp:PassesOwn (model X.prog X.w) X.A X.env X.xe)(hc:X.calm=true)(hi:PI X tg iter wi)(hg:PG X tg g)(hb:PSs X body tb)
 (hs:∀x,foldedSetIterable iter X.env x=pure x:=by intro _;rfl):PS X (.For tg iter body [] pos) (Bk wi g tb):=by
 intro pins s σ H D I h;refine wpAny_For (thn (hi pins s σ H _ I h) λv s1 h1=>thn h1 λitv s2 h2=>?_) hs;obtain⟨it,fp,tn,J,H2,e,I2,T,st2,f2,W,⟨m0,w0⟩,turn⟩:=h2;subst e;have stat:∀{H':Hp},(∀b∈fp,H' b=none)->∀b∈fp,fE X pins H' b:=λhn b hb=>⟨hn b hb,(f2 b hb).2⟩
 refine codeAny_forLoop_any (λn s'=>∃i σ' H',Inv X pins σ' H' s'/\tn i s'.heap/\(∀b∈fp,H' b=none)/\W i n σ' H') ?_ m0 ⟨0,σ,H2,I2,st2,λb hb=>(f2 b hb).1,w0⟩;rintro n s3 ⟨i,σ3,H3,I3,st3,fr3,w3⟩;rcases turn i n σ3 H3 w3 with⟨stop,qn⟩ |⟨go,N,hN,step⟩
 ·refine wpAny_passesOwn hp (thn (T.done X rfl rfl rfl hc i pins s3 σ3 H3 X.xe I3 (stat fr3) st3 stop) λr s4 ⟨hr,I4⟩=>?_);subst hr;exact wpAny_execs_nil ⟨σ3,H3,I4,qn⟩
 ·refine wpAny_passesOwn hp (thn (T.item X rfl rfl rfl hc i pins s3 σ3 H3 X.xe I3 (stat fr3) st3 go) λr s4 ⟨u,hr,h4⟩=>?_);subst hr;refine wpAny_passesOwn hp (thn h4 λ_ s5 ⟨x,H5,I5,r5,y5,st5,fr5⟩=>?_);have I5':=I5.pinned (stat fr5) (T.obj _ _ st5);refine wpAny_passesOwn hp (thn (hg _ s5 σ3 H5 x u _ I5' r5 (step x H5 y5)) λ_ s6 ⟨σ6,H6,I6,q6⟩=>?_);refine wpAny_passesOwn hp (thn (hb _ s6 σ6 H6 _ I6 q6) λf s7 q7=>?_)
  have again:∀{σ7:St} {H7:Hp},Inv X (pins++pC fp s5.heap) σ7 H7 s7->N σ7 H7->∃m,m<n/\∃i σ' H',Inv X pins σ' H' s7/\tn i s7.heap/\(∀b∈fp,H' b=none)/\W i m σ' H':=λ{σ7 H7} I7 n7=>by obtain⟨m',hm,w7⟩:=hN σ7 H7 n7;refine⟨m',hm,i+1,σ7,H7,I7.unpinned,T.keep _ _ _ st5 λb hb o e=>(I7.pin (b,o) (NH _ (NH _ (pQ hb e)))).1,λb hb=>?_,w7⟩;obtain⟨o,e,d⟩:=T.obj _ _ st5 b hb;exact(I7.pin (b,o) (NH _ (NH _ (pQ hb e)))).2.1
  cases f with
  |next=>obtain⟨σ7,H7,I7,n7⟩:=q7;exact again I7 n7
  |cont=>obtain⟨σ7,H7,I7,n7⟩:=q7;exact again I7 n7
  |brk=>obtain⟨σ7,H7,I7,q7⟩:=q7;exact⟨σ7,H7,I7.unpinned,q7⟩
  |ret v=>obtain⟨x7,σ7,H7,I7,r7,q7⟩:=q7;exact⟨x7,σ7,H7,I7.unpinned,r7,q7⟩
end
theorem Iu{K:PySem.W.Frag}{a:Addr}{xs:List V}{g:TG}{tb:TS}{D:Ends}{σ:St}{H:Hp}(Pv:Nat->St->Hp->Prop)(h0:Pv 0 σ H)(hl:∀i σ H,i<=xs.length->Pv i σ H->SqL K H a xs)
 (hs:∀i x σ H,xs[i]?=some x->Pv i σ H->g x σ H λσ2 H2=>tb { D with nx:=Pv (i+1),ct:=Pv (i+1),bk:=D.nx } σ2 H2) (hd:∀σ H,Pv xs.length σ H->D.nx σ H) :
 ∃W:Nat->Nat->St->Hp->Prop,(∃m,W 0 m σ H)/\∀i m σ H,W i m σ H ->
  ((Itl K a).stop i H/\D.nx σ H)\/((Itl K a).go i H/\∃N:St->Hp->Prop,(∀σ' H',N σ' H'->∃m',m'<m/\W (i+1) m' σ' H')/\∀x H',(Itl K a).yld i H x H'->g x σ H' λσ2 H2=>tb { D with nx:=N,ct:=N,bk:=D.nx } σ2 H2):=by
 refine⟨λi m σ H=>m=xs.length-i/\i<=xs.length/\Pv i σ H,⟨xs.length,by simp,Nr _,h0⟩,?_⟩;rintro i m σ H ⟨rfl,hi,p⟩;have q:=hl i σ H hi p;by_cases hlt:i<xs.length
 ·refine .inr ⟨⟨xs,xs[i],q,by simp[hlt]⟩,Pv (i+1),λσ' H' p'=>⟨xs.length-(i+1),by omega,rfl,hlt,p'⟩,λx H' y=>?_⟩;obtain⟨e,y⟩:=y;subst e;exact hs i x σ _ (y xs q) p
 ·have e:i=xs.length:=by omega
  subst e;exact .inl ⟨⟨xs,q,Ng _⟩,hd σ H p⟩
theorem yV{K:PySem.W.Frag}{a:Addr}{xs:List V}{g:TG}{tb:TS}{D:Ends}{σ:St}{H:Hp}(Pv:Nat->St->Hp->Prop)(h0:Pv 0 σ H)(hl:∀i σ H,i<=xs.length->Pv i σ H->SqT K H a xs)
 (hs:∀i x σ H,xs[i]?=some x->Pv i σ H->g x σ H λσ2 H2=>tb { D with nx:=Pv (i+1),ct:=Pv (i+1),bk:=D.nx } σ2 H2) (hd:∀σ H,Pv xs.length σ H->D.nx σ H) :
 ∃W:Nat->Nat->St->Hp->Prop,(∃m,W 0 m σ H)/\∀i m σ H,W i m σ H ->
  ((Itt K a).stop i H/\D.nx σ H)\/((Itt K a).go i H/\∃N:St->Hp->Prop,(∀σ' H',N σ' H'->∃m',m'<m/\W (i+1) m' σ' H')/\∀x H',(Itt K a).yld i H x H'->g x σ H' λσ2 H2=>tb { D with nx:=N,ct:=N,bk:=D.nx } σ2 H2):=by
 refine⟨λi m σ H=>m=xs.length-i/\i<=xs.length/\Pv i σ H,⟨xs.length,by simp,Nr _,h0⟩,?_⟩;rintro i m σ H ⟨rfl,hi,p⟩;have q:=hl i σ H hi p;by_cases hlt:i<xs.length
 ·refine .inr ⟨⟨xs,xs[i],q,by simp[hlt]⟩,Pv (i+1),λσ' H' p'=>⟨xs.length-(i+1),by omega,rfl,hlt,p'⟩,λx H' y=>?_⟩;obtain⟨e,y⟩:=y;subst e;exact hs i x σ _ (y xs q) p
 ·have e:i=xs.length:=by omega
  subst e;exact .inl ⟨⟨xs,q,Ng _⟩,hd σ H p⟩
theorem Is{lo:Int}{n:Nat}{g:TG}{tb:TS}{D:Ends}{σ:St}{H:Hp}(Pv:Nat->St->Hp->Prop)(h0:Pv 0 σ H)
 (hs:∀i σ H,i<n->Pv i σ H->g (.int (lo+i)) σ H λσ2 H2=>tb { D with nx:=Pv (i+1),ct:=Pv (i+1),bk:=D.nx } σ2 H2) (hd:∀σ H,Pv n σ H->D.nx σ H) :
 ∃W:Nat->Nat->St->Hp->Prop,(∃m,W 0 m σ H)/\∀i m σ H,W i m σ H ->
  ((Itr lo n).stop i H/\D.nx σ H)\/((Itr lo n).go i H/\∃N:St->Hp->Prop,(∀σ' H',N σ' H'->∃m',m'<m/\W (i+1) m' σ' H')/\∀x H',(Itr lo n).yld i H x H'->g x σ H' λσ2 H2=>tb { D with nx:=N,ct:=N,bk:=D.nx } σ2 H2):=by
 refine⟨λi m σ H=>m=n-i/\i<=n/\Pv i σ H,⟨n,by simp,Nr _,h0⟩,?_⟩;rintro i m σ H ⟨rfl,hi,p⟩;by_cases hlt:i<n
 ·refine .inr ⟨hlt,Pv (i+1),λσ' H' p'=>⟨n-(i+1),by omega,rfl,hlt,p'⟩,λx H' y=>?_⟩;obtain⟨e,y⟩:=y;subst e y;exact hs i σ _ hlt p
 ·have e:i=n:=by omega
  subst e;exact .inl ⟨Ng _,hd σ H p⟩
abbrev R2:=V->V->Hp->VK->Prop
noncomputable def OpR(X:Cx)(f:Value->Value->Sem Value)(r:R2):Prop :=
 ∀(pins:List (Addr×Obj)) (s:Shared) (σ:St) (H:Hp) (x y:V) (v u:Value) (Q:VK),Inv X pins σ H s->RelV x v->RelV y u->r x y H Q ->
  wpAny (model X.prog X.w) X.A (f v u) (EP X pins σ Q) X.xe s
noncomputable def UnR(X:Cx)(f:Value->Sem Value)(r:V->Hp->VK->Prop):Prop :=
 ∀(pins:List (Addr×Obj)) (s:Shared) (σ:St) (H:Hp) (x:V) (v:Value) (Q:VK),Inv X pins σ H s->RelV x v->r x H Q ->
  wpAny (model X.prog X.w) X.A (f v) (EP X pins σ Q) X.xe s
noncomputable def cR(X:Cx)(f:Value)(r:List V->Hp->VK->Prop):Prop :=
 ∀(pins:List (Addr×Obj)) (s:Shared) (σ:St) (H:Hp) (xs:List V) (us:List Value) (Q:VK),Inv X pins σ H s->Vals xs us->r xs H Q ->
  wpAny (model X.prog X.w) X.A (call f us) (EP X pins σ Q) X.xe s
def tOp(r:R2)(ta tb:TE):TE:=λσ H Q=>ta σ H λx H1=>tb σ H1 λy H2=>r x y H2 Q
def tUn(r:V->Hp->VK->Prop)(ta:TE):TE:=λσ H Q=>ta σ H λx H1=>r x H1 Q
def rI(C:Int->Int->Prop)(g:Int->Int->V):R2:=λx y H Q=>∃i j,x=.int i/\y=.int j/\C i j/\Q (g i j) H
def rI0(g:Int->Int->V):R2:=λx y H Q=>∃i j,x=.int i/\y=.int j/\Q (g i j) H
noncomputable def rU(g:Int->V):V->Hp->VK->Prop:=λx H Q=>∃i,x=.int i/\Q (g i) H
section
variable {X:Cx}{a b c:Expr}{ta tb tc:TE}{pos:Pos}
theorem uB(ha:PE X a ta)(hb:PE X b tb){pins:List (Addr×Obj)}{s:Shared}{σ:St}{H:Hp}{R:V->V->Hp->Prop}(I:Inv X pins σ H s)
 (h:ta σ H λx H1=>tb σ H1 λy H2=>R x y H2) {Q:Value->Shared->Prop} {f:Value->Value->Sem Value}
 (hf:∀v u s2 x y H2,Inv X pins σ H2 s2->RelV x v->RelV y u->R x y H2->wpAny (model X.prog X.w) X.A (f v u) Q X.xe s2) :
 wpAny (model X.prog X.w) X.A (eval a X.env) (λv s₁=>wpAny (model X.prog X.w) X.A (eval b X.env) (λu s₂=>wpAny (model X.prog X.w) X.A (f v u) Q X.xe s₂) X.xe s₁) X.xe s:=by
 refine thn (ha pins s σ H _ I h) λv s1 ⟨x,H1,I1,r1,q1⟩=>?_
 refine thn (hb pins s1 σ H1 _ I1 q1) λu s2 ⟨y,H2,I2,r2,q2⟩=>?_
 exact hf v u s2 x y H2 I2 r1 r2 q2
theorem aq{op:Operator}{r:R2}(ho:OpR X (binaryOp op) r)(ha:PE X a ta)(hb:PE X b tb):PE X (.BinOp a op b pos) (tOp r ta tb):=by intro pins s σ H Q I h;exact wpAny_BinOp (uB ha hb I h λv u s2 x y H2 I2 rx ry q=>ho pins s2 σ H2 x y v u Q I2 rx ry q)
theorem ft{op:UnaryOp}{r:V->Hp->VK->Prop}(ho:UnR X (unaryOp op) r)(ha:PE X a ta):PE X (.UnaryOp op a pos) (tUn r ta):=by intro pins s σ H Q I h;exact UnaryOp_ (thn (ha pins s σ H _ I h) λv s1 ⟨x,H1,I1,r1,q1⟩=>ho pins s1 σ H1 x v Q I1 r1 q1)
theorem opI{f:Value->Value->Sem Value}{C:Int->Int->Prop}{g:Int->Int->Int}
 (rule:∀(i j:Int) (t u:Tok) (s:Shared) (Q:Value->Shared->Prop) (E:Value->Shared->Prop),C i j->Q (.int (g i j) s.toks) { s with toks:=s.toks+1 }->wpAny (model X.prog X.w) X.A (f (.int i t) (.int j u)) Q E s) :
 OpR X f (rI C λi j=>.int (g i j)):=by
 intro pins s σ H x y v u Q I rx ry h;obtain⟨i,j,rfl,rfl,hc,q⟩:=h;obtain⟨t,rfl⟩:=rx;obtain⟨t',rfl⟩:=ry;exact rule i j t t' s _ _ hc ⟨.int (g i j),H,I.tok _,⟨_,rfl⟩,q⟩
theorem xg{f:Value->Value->Sem Value}{g:Int->Int->Int}
 (rule:∀(i j:Int) (t u:Tok) (s:Shared) (Q:Value->Shared->Prop) (E:Value->Shared->Prop),Q (.int (g i j) s.toks) { s with toks:=s.toks+1 }->wpAny (model X.prog X.w) X.A (f (.int i t) (.int j u)) Q E s) :
 OpR X f (rI0 λi j=>.int (g i j)):=by
 intro pins s σ H x y v u Q I rx ry h;obtain⟨i,j,rfl,rfl,q⟩:=h;obtain⟨t,rfl⟩:=rx;obtain⟨t',rfl⟩:=ry;exact rule i j t t' s _ _ ⟨.int (g i j),H,I.tok _,⟨_,rfl⟩,q⟩
theorem lC{f:Value->Value->Sem Value}{g:Int->Int->Bool}
 (rule:∀(i j:Int) (t u:Tok) (s:Shared) (Q:Value->Shared->Prop) (E:Value->Shared->Prop),Q (.bool (g i j)) s->wpAny (model X.prog X.w) X.A (f (.int i t) (.int j u)) Q E s) :
 OpR X f (rI0 λi j=>.bl (g i j)):=by
 intro pins s σ H x y v u Q I rx ry h;obtain⟨i,j,rfl,rfl,q⟩:=h;obtain⟨t,rfl⟩:=rx;obtain⟨t',rfl⟩:=ry;exact rule i j t t' s _ _ ⟨.bl (g i j),H,I,rfl,q⟩
def MN(i j:Int):Prop:=0<=j/\j<=1000000/\i.natAbs<2^64
def CMul(i j:Int):Prop:=(-(2^64)<i/\i<2^64)\/(-(2^64)<j/\j<2^64)
theorem CMul.ok{i j:Int}(h:CMul i j):IntMulOk i j:=by
 rcases h with⟨h1,h2⟩ |⟨h1,h2⟩
 ·exact .of_left (intBits_le_64 h1 h2)
 ·exact .of_right (intBits_le_64 h1 h2)
theorem dj:OpR X (binaryOp .Add) (rI0 λi j=>.int (i+j)):=xg λ_ _ _ _ _ _ _ q=>add_int q
theorem gl:OpR X (binaryOp .Sub) (rI0 λi j=>.int (i-j)):=xg λ_ _ _ _ _ _ _ q=>sub_int q
theorem DA:OpR X (binaryOp .Mult) (rI CMul λi j=>.int (i*j)):=opI λ_ _ _ _ _ _ _ hc q=>mul_int q hc.ok
theorem DB:OpR X (binaryOp .Mod) (rI (λ_ j=>0<j) λi j=>.int (i%j)):=opI λi j _ _ _ _ _ hc q=>by have h1:(0:Int)<j:=hc;exact mod_int' (by omega) (by rw[Int.fmod_eq_emod_of_nonneg i (by omega)];exact q)
theorem w6:OpR X (binaryOp .Pow) (rI MN λi j=>.int (i^j.toNat)):=opI λ_ _ _ _ _ _ _ hc q=>pow_int_small hc.1 hc.2.1 hc.2.2 q
theorem unI{f:Value->Sem Value}{g:Int->Int}
 (rule:∀(i:Int) (t:Tok) (s:Shared) (Q:Value->Shared->Prop) (E:Value->Shared->Prop),Q (.int (g i) s.toks) { s with toks:=s.toks+1 }->wpAny (model X.prog X.w) X.A (f (.int i t)) Q E s) :
 UnR X f (rU λi=>.int (g i)):=by
 intro pins s σ H x v Q I rx h;obtain⟨i,rfl,q⟩:=h;obtain⟨t,rfl⟩:=rx;exact rule i t s _ _ ⟨.int (g i),H,I.tok _,⟨_,rfl⟩,q⟩
theorem fj:UnR X (unaryOp .USub) (rU λi=>.int (-i)):=unI λ_ _ _ _ _ q=>neg_int q
end
noncomputable def vW:V->V->Bool
 |.non,.non=>true |.non,.int _=>true |.int _,.non=>true |.non,.bl _=>true |.bl _,.non=>true |.non,.str _=>true |.str _,.non=>true
 |.int _,.int _=>true |.bl _,.bl _=>true |.str _,.str _=>true |.byt _,.byt _=>true
 |.int _,.str _=>true |.str _,.int _=>true |.bl _,.str _=>true |.str _,.bl _=>true
 |_,_=>false
def rEq:R2:=λx y H Q=>vW x y=true/\Q (.bl (decide (x=y))) H
def rNe:R2:=λx y H Q=>vW x y=true/\Q (.bl (!decide (x=y))) H
theorem zo{i j:Int}:decide (V.int i=V.int j)=(i == j):=by rw[NB];simp
theorem zq{i j:Bool}:decide (V.bl i=V.bl j)=(i == j):=by rw[NB];simp
theorem zn{i j:Str}:decide (V.str i=V.str j)=(i == j):=by rw[NB];simp
theorem zp{i j:Array UInt8}:decide (V.byt i=V.byt j)=(i.toList == j.toList):=by rw[NB];cases i;cases j;simp
section
variable {X:Cx}{a b c:Expr}{ta tb tc:TE}{pos:Pos}
theorem bx{pins:List (Addr×Obj)}{σ:St}{H:Hp}{s:Shared}{Q:VK}{k k':Bool}(I:Inv X pins σ H s)(q:Q (.bl k) H)(e:k=k'):EP X pins σ Q (.bool k') s:=by subst e;exact⟨.bl k,H,I,rfl,q⟩
theorem aK:OpR X (compareOp .Eq) rEq:=by
 intro pins s σ H x y v u Q I rx ry h;obtain⟨hs,q⟩:=h;cases x with
 |non =>
  cases rx;cases y with
  |non=>cases ry;exact PySem.EqNone.eq_none_none (bx I q (by simp))
  |bl j=>cases ry;exact PySem.EqNone.eq_none_bool (bx I q (by simp))
  |int j=>obtain⟨t',rfl⟩:=ry;exact PySem.EqNone.eq_none_int (bx I q (by simp))
  |str j=>obtain⟨t',rfl⟩:=ry;exact PySem.EqNone.eq_none_str (bx I q (by simp))
  |_=>exact absurd (show false=true from hs) Nn
 |bl i =>
  cases rx;cases y with
  |non=>cases ry;exact PySem.EqNone.eq_bool_none (bx I q (by simp))
  |bl j=>cases ry;exact eq_bool (bx I q zq)
  |str j=>obtain⟨t',rfl⟩:=ry;exact PySem.EqMixed.eq_bool_str (bx I q (by simp))
  |_=>exact absurd (show false=true from hs) Nn
 |int i =>
  obtain⟨t,rfl⟩:=rx;cases y with
  |non=>cases ry;exact PySem.EqNone.eq_int_none (bx I q (by simp))
  |int j=>obtain⟨t',rfl⟩:=ry;exact eq_int (bx I q zo)
  |str j=>obtain⟨t',rfl⟩:=ry;exact PySem.EqMixed.eq_int_str (bx I q (by simp))
  |_=>exact absurd (show false=true from hs) Nn
 |str i =>
  obtain⟨t,rfl⟩:=rx;cases y with
  |non=>cases ry;exact PySem.EqNone.eq_str_none (bx I q (by simp))
  |bl j=>cases ry;exact PySem.EqMixed.eq_str_bool (bx I q (by simp))
  |int j=>obtain⟨t',rfl⟩:=ry;exact PySem.EqMixed.eq_str_int (bx I q (by simp))
  |str j=>obtain⟨t',rfl⟩:=ry;exact eq_str (bx I q zn)
  |_=>exact absurd (show false=true from hs) Nn
 |byt i =>
  obtain⟨t,rfl⟩:=rx;cases y with
  |byt j=>obtain⟨t',rfl⟩:=ry;exact PySem.W.eq_bytes (bx I q zp)
  |_=>exact absurd (show false=true from hs) Nn
 |_=>cases y<;>exact absurd (show false=true from hs) Nn
theorem lB:OpR X (compareOp .NotEq) rNe:=by
 intro pins s σ H x y v u Q I rx ry h;obtain⟨hs,q⟩:=h;cases x with
 |non =>
  cases rx;cases y with
  |non=>cases ry;exact PySem.EqNone.ne_none_none (bx I q (by simp))
  |bl j=>cases ry;exact PySem.EqNone.ne_none_bool (bx I q (by simp))
  |int j=>obtain⟨t',rfl⟩:=ry;exact PySem.EqNone.ne_none_int (bx I q (by simp))
  |str j=>obtain⟨t',rfl⟩:=ry;exact PySem.EqNone.ne_none_str (bx I q (by simp))
  |_=>exact absurd (show false=true from hs) Nn
 |bl i =>
  cases rx;cases y with
  |non=>cases ry;exact PySem.EqNone.ne_bool_none (bx I q (by simp))
  |bl j=>cases ry;exact ne_bool (bx I q (congrArg not zq))
  |str j=>obtain⟨t',rfl⟩:=ry;exact PySem.EqMixed.ne_bool_str (bx I q (by simp))
  |_=>exact absurd (show false=true from hs) Nn
 |int i =>
  obtain⟨t,rfl⟩:=rx;cases y with
  |non=>cases ry;exact PySem.EqNone.ne_int_none (bx I q (by simp))
  |int j=>obtain⟨t',rfl⟩:=ry;exact ne_int (bx I q (congrArg not zo))
  |str j=>obtain⟨t',rfl⟩:=ry;exact PySem.EqMixed.ne_int_str (bx I q (by simp))
  |_=>exact absurd (show false=true from hs) Nn
 |str i =>
  obtain⟨t,rfl⟩:=rx;cases y with
  |non=>cases ry;exact PySem.EqNone.ne_str_none (bx I q (by simp))
  |bl j=>cases ry;exact PySem.EqMixed.ne_str_bool (bx I q (by simp))
  |int j=>obtain⟨t',rfl⟩:=ry;exact PySem.EqMixed.ne_str_int (bx I q (by simp))
  |str j=>obtain⟨t',rfl⟩:=ry;exact ne_str (bx I q (congrArg not zn))
  |_=>exact absurd (show false=true from hs) Nn
 |byt i =>
  obtain⟨t,rfl⟩:=rx;cases y with
  |byt j=>obtain⟨t',rfl⟩:=ry;exact PySem.W.ne_bytes (bx I q (congrArg not zp))
  |_=>exact absurd (show false=true from hs) Nn
 |_=>cases y<;>exact absurd (show false=true from hs) Nn
theorem cW:OpR X (compareOp .Lt) (rI0 λi j=>.bl (decide (i<j))):=lC λ_ _ _ _ _ _ _ q=>lt_int q
theorem DC:OpR X (compareOp .LtE) (rI0 λi j=>.bl (decide (i<=j))):=lC λ_ _ _ _ _ _ _ q=>le_int q
theorem iA:OpR X (compareOp .Gt) (rI0 λi j=>.bl (decide (j<i))):=lC λ_ _ _ _ _ _ _ q=>gt_int q
theorem xb:OpR X (compareOp .GtE) (rI0 λi j=>.bl (decide (j<=i))):=lC λ_ _ _ _ _ _ _ q=>ge_int q
theorem gO:OpR X (compareOp .In) (λx y H Q=>∃i j,x=.str i/\y=.str j/\Q (.bl (!(Builtin.Str.occurrences j i 0 j.length 1).isEmpty)) H):=by intro pins s σ H x y v u Q I rx ry h;obtain⟨i,j,rfl,rfl,q⟩:=h;obtain⟨t,rfl⟩:=rx;obtain⟨t',rfl⟩:=ry;exact in_str (bx I q rfl)
theorem ap(b:Expr){op:CmpOp}(h:op≠.In:=by decide)(h2:op≠.NotIn:=by decide):behindInMarks op b=false:=by
 have e1:(op == CmpOp.In)=false:=by cases op<;>first |rfl |exact absurd rfl h
 have e2:(op == CmpOp.NotIn)=false:=by cases op<;>first |rfl |exact absurd rfl h2
 cases b<;>simp[behindInMarks,e1,e2]
theorem bf{op:CmpOp}{r:R2}(ho:OpR X (compareOp op) r)(ha:PE X a ta)(hb:PE X b tb)(hm:behindInMarks op b=false):PE X (.Compare a [op] [b] pos) (tOp r ta tb):=by intro pins s σ H Q I h;exact wpAny_Compare1 (uB ha hb I h λv u s2 x y H2 I2 rx ry q=>ho pins s2 σ H2 x y v u Q I2 rx ry q) hm
def vC(t:TE):TT:=λσ H Q=>t σ H λx H'=>∃k,x=.bl k/\Q k H'
theorem ao{op:CmpOp}{r:R2}(ho:OpR X (compareOp op) r)(ha:PE X a ta)(hb:PE X b tb)(hm:behindInMarks op b=false):PT X (.Compare a [op] [b] pos) (vC (tOp r ta tb)):=by
 intro pins s σ H Q I h
 refine wpAny_isTrue_Compare1 (thn (ha pins s σ H _ I h) λv s1 ⟨x,H1,I1,r1,q1⟩=>thn (hb pins s1 σ H1 _ I1 q1) λu s2 ⟨y,H2,I2,r2,q2⟩ =>thn (ho pins s2 σ H2 x y v u _ I2 r1 r2 q2) λc s3 ⟨z,H3,I3,r3,k,e,q3⟩=>?_) hm
 subst e;cases r3;exact wpAny_truthy_bool ⟨H3,I3,q3⟩
theorem lO:(sizeLine:Nat)<2^63:=by rw[sizeLine_eq];decide
theorem bi:OpR X (binaryOp .Add) (λx y H Q=>∃i j,x=.str i/\y=.str j/\i.length+j.length<=sizeLine/\Q (.str (i++j)) H):=by intro pins s σ H x y v u Q I rx ry h;obtain⟨i,j,rfl,rfl,hz,q⟩:=h;obtain⟨t,rfl⟩:=rx;obtain⟨t',rfl⟩:=ry;exact add_str (λt' tk=>⟨.str (i++j),H,I.tok _,⟨_,rfl⟩,q⟩) hz
theorem fF{x:V}{us:List Value}(r:Vals [x] us):∃u,us=[u]/\RelV x u:=by
 cases r with
 |cons r1 r2=>cases r2;exact⟨_,rfl,r1⟩
theorem AL{x y:V}{us:List Value}(r:Vals [x,y] us):∃u w',us=[u,w']/\RelV x u/\RelV y w':=by
 cases r with
 |cons r1 r2 =>
  cases r2 with
  |cons r3 r4=>cases r4;exact⟨_,_,rfl,r1,r3⟩
theorem oG:cR X (.builtin "abs") (λxs H Q=>∃i,xs=[.int i]/\Q (.int (if i<0 then -i else i)) H):=by intro pins s σ H xs us Q I r h;obtain⟨i,rfl,q⟩:=h;obtain⟨u,rfl,t,rfl⟩:=fF r;exact call_abs_int λu tk=>⟨.int (if i<0 then -i else i),H,I.tok _,⟨_,rfl⟩,q⟩
theorem zy(hc:X.calm=true):cR X (.builtin "max") (λxs H Q=>∃i j,xs=[.int i,.int j]/\Q (.int (if j>i then j else i)) H):=by
 intro pins s σ H xs us Q I r h;obtain⟨i,j,rfl,q⟩:=h;obtain⟨u,w',rfl,⟨t,rfl⟩,⟨t',rfl⟩⟩:=AL r;refine max_two_ints (I.ok.hd hc) λh' tk k=>⟨_,H,I.kept k,?_,q⟩
 by_cases hj:j>i
 ·rw[if_pos hj,if_pos hj];exact⟨_,rfl⟩
 ·rw[if_neg hj,if_neg hj];exact⟨_,rfl⟩
theorem ci:cR X (.type "int") (λxs H Q=>(∃i,xs=[.int i]/\Q (.int i) H)\/∃k,xs=[.bl k]/\Q (.int (if k then 1 else 0)) H):=by
 intro pins s σ H xs us Q I r h;rcases h with⟨i,rfl,q⟩ |⟨k,rfl,q⟩
 ·obtain⟨u,rfl,t,rfl⟩:=fF r;exact call_int_int ⟨.int i,H,I,⟨_,rfl⟩,q⟩
 ·obtain⟨u,rfl,r1⟩:=fF r;cases r1;exact call_int_bool ⟨.int (if k then 1 else 0),H,I.tok _,⟨_,rfl⟩,q⟩
theorem lU:cR X (.type "str") (λxs H Q=>∃i,xs=[.int i]/\i.natAbs.log2<1920/\Q (.str (toString i)) H):=by intro pins s σ H xs us Q I r h;obtain⟨i,rfl,hz,q⟩:=h;obtain⟨u,rfl,t,rfl⟩:=fF r;exact PySem.P.str_of_int hz ⟨.str _,H,I.tok _,⟨_,rfl⟩,q⟩
end
structure ObjM(h:Heap)(x dx C:Addr)(mA:Str->Option Value):Prop where
 obj:h.get? x=some (PySem.W.instObj C dx)
 ns:h.Ns1 dx mA
 ne:dx≠x
theorem yd{h:Heap}{dx:Addr}{mA:Str->Option Value}(n:h.Ns1 dx mA):∃od,h.get? dx=some od/\∀name,PySem.W.lookIn name od=some (mA name):=by
 obtain⟨o,es,ep,ho,hd,hk,_,hm⟩:=n;refine⟨o,ho,λname=>?_⟩;have e:=hm name;unfold nsFind findBy at e
 rw[<- Array.find?_toList]at e;unfold PySem.W.lookIn;rw[hd];dsimp only
 split
 ·rename_i y q
  rw[q]at e;exact congrArg some e
 ·rename_i q
  rw[q]at e
  have a:es.toList.any (·.refKey)=false:=by rw[List.any_eq_false];intro y hy;obtain⟨z,t,hkey⟩:=hk y (Array.mem_toList_iff.mp hy);simp[DictEntry.refKey,hkey]
  have a':¬es.toList.any (·.refKey)=true:=by rw[a];exact Nn
  rw[if_neg a'];exact congrArg some e
theorem ObjM.look{h:Heap}{x dx C:Addr}{mA:Str->Option Value}(I:ObjM h x dx C mA):∃od,PySem.W.InstAt h x (PySem.W.instObj C dx) C (some od)/\∀name,PySem.W.lookIn name od=some (mA name) :=
 let⟨od,ho,hl⟩:=yd I.ns
 ⟨od,⟨I.obj,rfl,rfl,ho⟩,hl⟩
section
variable {prog:Program}{w:World}{A:Around}{E:Value->Shared->Prop}{s:Shared}{K:PySem.W.Frag}{x dx C f:Addr}{mA:Str->Option Value}{name:Str}{v:Value}
theorem Ic{expr:Bool}{Q:Value->Shared->Prop}(X:K.In s.heap)(I:ObjM s.heap x dx C mA)(hg:PySem.W.plainGet K C name=true)(hh:PySem.W.hasDictIn K C=true)
 (ha:PySem.W.findIn K (.ref C) name=some none) (hv:mA name=some v) (hv':PySem.W.handedIn v=true) (h:Q v { s with toks:=s.toks+1 }) :
 wpAny (model prog w) A (getAttr (.ref x) name expr) Q E s:=by
 obtain⟨od,J,hl⟩:=I.look;exact PySem.W.get_value X J (PySem.W.plainGet_of hg).1 (PySem.W.findObj_own hh ha rfl (by rw[hl,hv])) hv' h
theorem Ib{pl:Sem Bool}{Q:Value×List Value->Shared->Prop}(X:K.In s.heap)(I:ObjM s.heap x dx C mA)(hg:PySem.W.plainGet K C name=true)
 (hf:PySem.W.findIn K (.ref C) name=some (some (.ref f))) (ht:PySem.W.isFn K (.ref f)=true) (hv:mA name=none) (h:Q (.ref f,[.ref x]) s) :
 wpAny (model prog w) A (getMethod (.ref x) name pl) Q E s:=by
 obtain⟨od,J,hl⟩:=I.look;exact PySem.W.method_fn X J (PySem.W.plainGet_of hg).1 (PySem.W.plainGet_of hg).2 hf (beq_iff_eq.mp ht) (by show(PySem.W.lookIn name od).map (·.isSome)=some false;rw[hl,hv];rfl) h
theorem BG{ns:List Str}{Q:Unit->Shared->Prop}(X:K.In s.heap)(I:ObjM s.heap x dx C mA)
 (hs:PySem.W.findIn K (.ref C) "__setattr__"=some (some (.builtin "object.__setattr__"))) (hp:PySem.W.plainOver K C=true) (ht:PySem.W.takerIn K C name=some none) (hh:PySem.W.hasDictIn K C=true)
 (hw:PySem.Within mA ns) (hsz:ns.length<=sizeLine)
 (h:∀h',ObjM h' x dx C (λy=>if y=name then some v else mA y)->Heap.SameBut dx s.heap h'->Q () { s with heap:=h',toks:=s.toks+2 }) :
 wpAny (model prog w) A (setAttr (.ref x) name v) Q E s:=by
 obtain⟨od,J,hl⟩:=I.look;refine PySem.W.set_plain X J hs (PySem.W.osa_open (s:={ s with toks:=s.toks+1 }) (r:=none) X J hp ht λb=>?_);obtain⟨cd,hc,hd'⟩:=PySem.W.any_some hh;have hx:s.heap.get? x=some ⟨.ref C,some dx,.plain,#[]⟩:=I.obj;refine wpAny_bind (wpAny_pure (wpAny_bind (wpAny_bind (wpAny_loadPart hx (wpAny_bind (PySem.W.Looks.here (s:={ s with toks:=s.toks+1 }) (PySem.W.looks_clsIn X hc) ?_))))));rw[hd'];refine wpAny_pure (a:=some dx) (wpAny_bind (wpAny_pure (wpAny_bind ?_)));refine wpAny_nsSet1 (s:={ s with toks:=s.toks+1 }) I.ns λh' hn2 hs2=>?_
 obtain⟨oD,esD,epD,hoD,hdD,hcD⟩:=hn2.count (PySem.Within.cons name v hw);refine wpAny_bind (wpAny_lookBehind hoD (by rw[hdD];exact pastItsLine_dict (Nk hcD (by rw[Nj];omega))) ?_);exact wpAny_pure (h _ ⟨(hs2.2 _ (Ne.symm I.ne)).trans I.obj,hn2,I.ne⟩ hs2)
theorem FQ{R:Result->Shared->Prop}{vs:List Value}{kw:List (Str×Value)}(X:K.In s.heap)(hm:PySem.W.makesIn K C=true)
 (hi:PySem.W.findIn K (.ref C) "__init__"=some (some (.ref f))) (hf:PySem.W.typeIn K (.ref f)=some (.type "function"))
 (h:codeAny (model prog w) (A.under (.builtin "type.__call__" ⟨.ref C::vs,kw⟩)) (.call (.ref f) ⟨.ref (s.heap.objs.size+1)::vs,kw⟩) (PySem.W.InitBack (s.heap.objs.size+1) R)
   { s with heap:=(s.heap.push PySem.W.emptyDict).push (PySem.W.instObj C s.heap.objs.size) }) :
 codeAny (model prog w) A (.call (.ref C) ⟨vs,kw⟩) R s:=by
 obtain⟨hh,g,d,t,os⟩:=s;exact PySem.W.make_core (PySem.W.makes_of X hm) (PySem.W.looks_findIn X hi) (λself=>PySem.W.bind_fn X self hf) (.inl rfl) h
end
noncomputable def aR(f:Str)(v:V):List (Str×V)->List (Str×V)
 | []=>[(f,v)]
 | (g,x)::r=>if g=f then(g,v)::r else(g,x)::aR f v r
theorem aZ(f g:Str)(v:V):∀fs:List (Str×V),(aR f v fs).lookup g=if g=f then some v else fs.lookup g
 | []=>by
  show List.lookup g [(f,v)]=_;by_cases h:g=f
  ·have hb:(g == f)=true:=beq_iff_eq.mpr h;simp only[List.lookup,hb,if_pos h]
  ·have hb:(g == f)=false:=beq_eq_false_iff_ne.mpr h;simp only[List.lookup,hb,if_neg h]
 | (k,x)::r=>by
  have ih:=aZ f g v r;rw[show aR f v ((k,x)::r)=(if k=f then(k,v)::r else(k,x)::aR f v r)from rfl];by_cases hk:k=f
  ·rw[if_pos hk];by_cases h:g=k
   ·have hb:(g == k)=true:=beq_iff_eq.mpr h;simp only[List.lookup,hb,if_pos (h.trans hk)]
   ·have hb:(g == k)=false:=beq_eq_false_iff_ne.mpr h;simp only[List.lookup,hb,if_neg (λe:g=f=>h (e.trans hk.symm))]
  ·rw[if_neg hk];by_cases h:g=k
   ·have hb:(g == k)=true:=beq_iff_eq.mpr h;simp only[List.lookup,hb,if_neg (λe:g=f=>hk (h.symm.trans e))]
   ·have hb:(g == k)=false:=beq_eq_false_iff_ne.mpr h;simp only[List.lookup,hb];exact ih
theorem sS(f:Str)(v:V):∀fs:List (Str×V),f∈(aR f v fs).map (·.1)/\∀g,g∈fs.map (·.1)->g∈(aR f v fs).map (·.1)
 | []=>⟨by simp[aR],λg h=>by simp at h⟩
 | (k,x)::r=>by
  obtain⟨i1,i2⟩:=sS f v r;rw[show aR f v ((k,x)::r)=(if k=f then(k,v)::r else(k,x)::aR f v r)from rfl];by_cases hk:k=f
  ·rw[if_pos hk];subst hk;exact⟨by simp,λg h=>by simpa using h⟩
  ·rw[if_neg hk];refine⟨?_,λg h=>?_⟩
   ·rw[NM];exact NQ _ i1
   ·rw[NM]at h ⊢;rcases Ni.mp h with e |e
    ·exact Ni.mpr (.inl e)
    ·exact NQ _ (i2 g e)
theorem sP(f:Str)(v:V):∀fs:List (Str×V),(aR f v fs).length<=fs.length+1
 | []=>by simp[aR]
 | (k,x)::r=>by
  have ih:=sP f v r;rw[show aR f v ((k,x)::r)=(if k=f then(k,v)::r else(k,x)::aR f v r)from rfl];by_cases hk:k=f
  ·rw[if_pos hk,Nj,Nj];omega
  ·rw[if_neg hk,Nj,Nj];omega
theorem RelO.some_of{v:V}{o:Option Value}(r:RelO (some v) o):∃u,o=some u/\RelV v u:=by
 cases o with
 |none=>exact(show False from r).elim
 |some u=>exact⟨u,rfl,r⟩
theorem RelO.none_of{o:Option Value}(r:RelO none o):o=none:=by
 cases o with
 |none=>rfl
 |some u=>exact(show False from r).elim
theorem yM{v:V}{u:Value}(r:RelV v u):PySem.W.handedIn u=true:=by
 cases v with
 |non=>cases(show u=Value.none from r);rfl
 |bl b=>cases(show u=Value.bool b from r);rfl
 |int i=>obtain⟨t,e⟩:=(show ∃t,u=Value.int i t from r);cases e;rfl
 |str x=>obtain⟨t,e⟩:=(show ∃t,u=Value.str x t from r);cases e;rfl
 |byt b=>obtain⟨t,e⟩:=(show ∃t,u=Value.bytes b t from r);cases e;rfl
 |flt b=>obtain⟨t,e⟩:=(show ∃t,u=Value.float b t from r);cases e;rfl
 |ref a=>cases(show u=Value.ref a from r);rfl
 |ty n=>cases(show u=Value.type n from r);rfl
section
variable {P:Program}{w:World}{H H':Hp}{h h':Heap}{a C dx:Addr}{fs fs':List (Str×V)}
theorem qe(hok:HOk P w H h)(e:H a=some (.ins C dx fs)):∃mA,ObjM h a dx C mA/\(∀f,RelO (fs.lookup f) (mA f))/\PySem.Within mA (fs.map (·.1))/\fs.length<=1000/\H dx=some (.own a):=by obtain⟨d,z,ne,ob,mA,n,r,q⟩:=(show ObjOk P w H h a (.ins C dx fs)from hok a _ e);exact⟨mA,⟨ob,n,ne⟩,r,q,z,d⟩
end
structure Cls(K:PySem.W.Frag)(C:Addr):Prop where
 pg:PySem.W.plainGet K C Str.empty=true
 hd:PySem.W.hasDictIn K C=true
 po:PySem.W.plainOver K C=true
 sa:PySem.W.findIn K (.ref C) "__setattr__"=some (some (.builtin "object.__setattr__"))
theorem Cls.get{K:PySem.W.Frag}{C:Addr}(c:Cls K C)(f:Str):PySem.W.plainGet K C f=true:=c.pg
def NoAttr(K:PySem.W.Frag)(C:Addr)(f:Str):Prop:=PySem.W.findIn K (.ref C) f=some none
theorem NoAttr.taker{K:PySem.W.Frag}{C:Addr}{f:Str}(n:NoAttr K C f):PySem.W.takerIn K C f=some none:=by unfold PySem.W.takerIn;rw[show PySem.W.findIn K (.ref C) f=some none from n];rfl
structure Meth(K:PySem.W.Frag)(C:Addr)(m:Str)(f:Addr):Prop where
 at_:PySem.W.findIn K (.ref C) m=some (some (.ref f))
 fn:PySem.W.isFn K (.ref f)=true
 kp:PySem.W.keepIn K (.ref f)=true
section
variable {X:Cx}{pins:List (Addr×Obj)}{σ:St}{H:Hp}{s:Shared}{a C dx:Addr}{fs:List (Str×V)}{f:Str}{v:V}{A:Around}{E:Value->Shared->Prop}
theorem Ia{b:Bool}{Q:Value->Shared->Prop}(I:Inv X pins σ H s)(e:H a=some (.ins C dx fs))(c:Cls X.K C)(n:NoAttr X.K C f)(l:fs.lookup f=some v)
 (h:∀u s',Inv X pins σ H s'->RelV v u->Q u s'):wpAny (model X.prog X.w) A (getAttr (.ref a) f b) Q E s:=by
 obtain⟨mA,O,r,_,_,_⟩:=qe I.hok e;obtain⟨u,hu,ru⟩:=RelO.some_of (v:=v) (o:=mA f) (by rw[<- l];exact r f);exact Ic I.kIn O (c.get f) c.hd n hu (yM ru) (h u _ (I.tok _) ru)
theorem tI{m:Str}{g:Addr}{pl:Sem Bool}{Q:Value×List Value->Shared->Prop}(I:Inv X pins σ H s)(e:H a=some (.ins C dx fs))(c:Cls X.K C)(k:Meth X.K C m g)(l:fs.lookup m=none)
 (h:Q (.ref g,[.ref a]) s):wpAny (model X.prog X.w) A (getMethod (.ref a) m pl) Q E s:=by
 obtain⟨mA,O,r,_,_,_⟩:=qe I.hok e;have hn:mA m=none:=RelO.none_of (by rw[<- l];exact r m);exact Ib I.kIn O (c.get m) k.at_ k.fn hn h
theorem BF{y:V}{u:Value}{Q:Unit->Shared->Prop}(I:Inv X pins σ H s)(e:H a=some (.ins C dx fs))(c:Cls X.K C)(n:NoAttr X.K C f)(hl:fs.length<1000)(ry:RelV y u)
 (h:∀s',Inv X pins σ (upd H a (.ins C dx (aR f y fs))) s'->Q () s'):wpAny (model X.prog X.w) A (setAttr (.ref a) f u) Q E s:=by
 obtain⟨mA,O,r,wi,_,ho⟩:=qe I.hok e;have hz:(fs.map (·.1)).length<=sizeLine:=by rw[Nh,sizeLine_eq];omega
 refine BG I.kIn O c.sa c.po n.taker c.hd wi hz λh' O' sb=>h _ ?_
 have hd:∃o,h'.get? dx=some o:=let⟨o,_,_,e',_⟩:=O'.ns;⟨o,e'⟩;refine I.write (x:=a) (e:=dx) (by rw[e];exact True.intro) (.inr ho) (λb q hb z=>(sb.2 b hb).trans z) hd ?_;refine⟨by rw[upd_ne O.ne];exact ho,?_,O.ne,O'.obj,_,O'.ns,λg=>?_,λg hg=>?_⟩
 ·have:=sP f y fs;omega
 ·show RelO ((aR f y fs).lookup g) (if g=f then some u else mA g);rw[aZ];by_cases q:g=f
  ·rw[if_pos q,if_pos q];exact ry
  ·rw[if_neg q,if_neg q];exact r g
 ·by_cases q:g=f
  ·rw[q];exact(sS f y fs).1
  ·refine(sS f y fs).2 g (wi g λz=>hg ?_);show(if g=f then some u else mA g)=none;rw[if_neg q];exact z
theorem Inv.made(I:Inv X pins σ H s):Inv X pins σ (upd (upd H s.heap.objs.size (.own (s.heap.objs.size+1))) (s.heap.objs.size+1) (.ins C s.heap.objs.size []))
 { s with heap:=(s.heap.push PySem.W.emptyDict).push (PySem.W.instObj C s.heap.objs.size) }:=by
 have e1:(s.heap.push PySem.W.emptyDict).get? s.heap.objs.size=some PySem.W.emptyDict:=Heap.get?_push_size s.heap rfl
 have e2:((s.heap.push PySem.W.emptyDict).push (PySem.W.instObj C s.heap.objs.size)).get? (s.heap.objs.size+1)=some (PySem.W.instObj C s.heap.objs.size):=by
  have:=Heap.get?_push_size (s.heap.push PySem.W.emptyDict) (o:=PySem.W.instObj C s.heap.objs.size) rfl
  rwa [Heap.size_push]at this
 have e3:(s.heap.push PySem.W.emptyDict).Ns s.heap.objs.size (λ_=>none):=⟨PySem.W.emptyDict,#[],_,e1,rfl,(λe he=>absurd he (by simp)),λ_=>rfl⟩;have I1:=I.laid (a:=s.heap.objs.size) (o:=.own (s.heap.objs.size+1)) (h':=s.heap.push PySem.W.emptyDict) (t':=s.toks) (λb u q=>Heap.get?_push_of_some _ q) (Ng _) ⟨_,e1⟩;refine I1.laid (a:=s.heap.objs.size+1) (o:=.ins C s.heap.objs.size []) (t':=s.toks) (λb u q=>Heap.get?_push_of_some _ q) (NZ (Heap.size_push _ _)) ?_;have ne:s.heap.objs.size≠s.heap.objs.size+1:=Nt (Nat.lt_succ_self _);refine⟨by rw[upd_ne ne,aj],Nr _,ne,e2,λ_=>none,(Heap.Ns1.of_empty e3).at λo q=>Heap.get?_push_of_some _ q,λ_=>True.intro,λy hy=>absurd rfl hy⟩
theorem zV{prog:Program}{w:World}{env:Env}{e:Expr}{f:Str}{pos:Pos}{s:Shared}{Q:Value->Shared->Prop}(hb:attributeBase e f env (eval e env)=eval e env)
 (h:wpAny (model prog w) A (eval e env) (λo s₁=>wpAny (model prog w) A (getAttr o f true) Q E s₁) E s):wpAny (model prog w) A (eval (.Attribute e f pos) env) Q E s :=
 Attribute_any_ h (by rw[arm_eval_Attribute,hb])
end
def vH(K:PySem.W.Frag)(ta:TE)(f:Str):TE:=λσ H Q=>ta σ H λx H1=>∃a C dx fs v,x=.ref a/\H1 a=some (.ins C dx fs)/\Cls K C/\NoAttr K C f/\fs.lookup f=some v/\Q v H1
def Co(K:PySem.W.Frag)(ta tv:TE)(f:Str):TS:=λD σ H=>tv σ H λy H1=>ta σ H1 λx H2=>∃a C dx fs,x=.ref a/\H2 a=some (.ins C dx fs)/\Cls K C/\NoAttr K C f/\fs.length<1000 /\
 D.nx σ (upd H2 a (.ins C dx (aR f y fs)))
section
variable {X:Cx}{o e value:Expr}{f:Str}{pos pos' tpos:Pos}{ta tv:TE}
theorem Ds(he:PE X e ta)(hb:attributeBase e f X.env (eval e X.env)=eval e X.env):PE X (.Attribute e f pos) (vH X.K ta f):=by intro pins s σ H Q I h;refine zV hb (thn (he pins s σ H _ I h) λu s1 ⟨x,H1,I1,rx,a,C,dx,fs,v,ex,ea,c,n,l,q⟩=>?_);subst ex;obtain rfl:u=Value.ref a:=rx;exact Ia I1 ea c n l λu' s2 I2 ru=>⟨v,H1,I2,ru,q⟩
theorem bB(ha:PE X o ta)(hv:PE X value tv)(hs:swapsWith value (some (.Attribute o f pos')) pos.line X.env=pure false):PS X (.Assign [.Attribute o f pos'] value pos) (Co X.K ta tv f):=by intro pins s σ H D I h;refine plainObj_wpAny_Assign_Attribute (thn (hv pins s σ H _ I h) λu s1 ⟨y,H1,I1,ry,q⟩=>thn (ha pins s1 σ H1 _ I1 q) λov s2 ⟨x,H2,I2,rx,a,C,dx,fs,ex,ea,c,n,l,q2⟩=>?_) hs;subst ex;obtain rfl:ov=Value.ref a:=rx;exact BF I2 ea c n l ry λs3 I3=>⟨σ,_,I3,q2⟩
end
section
variable {X:Cx}{pins:List (Addr×Obj)}{σ:St}{H:Hp}{s:Shared}{A:Around}{E:Value->Shared->Prop}{Q:Value->Shared->Prop}{c:Value}{b:Bool}
inductive TyOf(K:PySem.W.Frag)(H:Hp):V->Value->Prop where
 |non:TyOf K H .non (.type "NoneType")
 |bl (x:Bool):TyOf K H (.bl x) (.type "bool")
 |int (i:Int):TyOf K H (.int i) (.type "int")
 |str (x:Str):TyOf K H (.str x) (.type "str")
 |flt (x:UInt64):TyOf K H (.flt x) (.type "float")
 |lst {a:Addr} {xs:List V} (e:H a=some (.lst xs)):TyOf K H (.ref a) (.type "list")
 |frz {a:Addr} {o:Obj} {xs:List V} (e:H a=some (.frz o (.lst xs))):TyOf K H (.ref a) (.type "list")
 |tup {a:Addr} {xs:List V} (e:H a=some (.tup xs)):TyOf K H (.ref a) (.type "tuple")
 |dK {a:Addr} {kvs:List (Key×V)} (e:H a=some (.dK kvs)):TyOf K H (.ref a) (.type "dict")
 |dT {a:Addr} {kvs:List (List Key×V)} (e:H a=some (.dT kvs)):TyOf K H (.ref a) (.type "dict")
 |ins {a C dx:Addr} {fs:List (Str×V)} (e:H a=some (.ins C dx fs)) (cl:Cls K C) (ha:PySem.W.findIn K (.ref C) "__class__"=some (some (.builtin "object.__class__")))
  (hn:PySem.W.specialIn K (.builtin "object.__class__") "__get__"=some (some (.builtin "getset_descriptor.__get__"))) (htk:PySem.W.takesIn K (.builtin "object.__class__")=some true)
  (hm:PySem.W.mroIn K C (.type "object")=some true):TyOf K H (.ref a) (.ref C)
theorem Ho{x:V}{u t:Value}(I:Inv X pins σ H s)(rx:RelV x u)(ty:TyOf X.K H x t)(e:PySem.W.kitOne X.K t c=some b)(h:∀tk,Q (.bool b) { s with toks:=tk }) :
 wpAny (model X.prog X.w) A (call (.builtin "isinstance") [u,c]) Q E s:=by
 cases ty with
 |non=>cases(show u=Value.none from rx);exact PySem.W.kia_one PySem.W.kitx_none I.kIn True.intro e (λz=>nomatch z) h
 |bl y=>cases(show u=Value.bool y from rx);exact PySem.W.kia_one PySem.W.kitx_bool I.kIn True.intro e (λz=>nomatch z) h
 |int i=>obtain⟨t,q⟩:=(show ∃t,u=Value.int i t from rx);cases q;exact PySem.W.kia_one PySem.W.kitx_int I.kIn True.intro e (λz=>nomatch z) h
 |str y=>obtain⟨t,q⟩:=(show ∃t,u=Value.str y t from rx);cases q;exact PySem.W.kia_one PySem.W.kitx_str I.kIn True.intro e (λz=>nomatch z) h
 |flt y=>obtain⟨t,q⟩:=(show ∃t,u=Value.float y t from rx);cases q;exact PySem.W.kia_one PySem.W.kitx_float I.kIn True.intro e (λz=>nomatch z) h
 | @lst a xs ea =>cases(show u=Value.ref a from rx);obtain⟨_,_,n,_,h1⟩:=(show ObjOk X.prog X.w H s.heap a (.lst xs)from I.hok a _ ea);exact PySem.W.kia_one PySem.W.kitx_list I.kIn ⟨_,h1,rfl⟩ e (λz=>nomatch z) h
 | @frz a ob xs ea =>cases(show u=Value.ref a from rx);obtain⟨_,_,_,n,_,h1⟩:=(show ObjOk X.prog X.w H s.heap a (.frz ob (.lst xs))from I.hok a _ ea);exact PySem.W.kia_one PySem.W.kitx_list I.kIn ⟨_,h1,rfl⟩ e (λz=>nomatch z) h
 | @tup a xs ea =>cases(show u=Value.ref a from rx);obtain⟨_,_,_,p⟩:=(show ObjOk X.prog X.w H s.heap a (.tup xs)from I.hok a _ ea);obtain⟨o,h1,h2,_⟩:=p;exact PySem.W.kia_one PySem.W.kitx_tuple I.kIn ⟨o,h1,h2⟩ e (λz=>nomatch z) h
 | @dK a kvs ea =>cases(show u=Value.ref a from rx);obtain⟨_,_,vs,_,p⟩:=(show ObjOk X.prog X.w H s.heap a (.dK kvs)from I.hok a _ ea);obtain⟨o,es,ep,h1,h2,_⟩:=p;exact PySem.W.kia_one PySem.W.kitx_dict I.kIn ⟨o,h1,h2.1⟩ e (λz=>nomatch z) h
 | @dT a kvs ea =>cases(show u=Value.ref a from rx);obtain⟨_,_,xs,_,o,es,ep,h1,h2,_⟩:=(show ObjOk X.prog X.w H s.heap a (.dT kvs)from I.hok a _ ea);exact PySem.W.kia_one PySem.W.kitx_dict I.kIn ⟨o,h1,h2.1⟩ e (λz=>nomatch z) h
 | @ins a C dx fs ea cl ha hn htk hm =>cases(show u=Value.ref a from rx);obtain⟨mA,O,_⟩:=qe I.hok ea;obtain⟨od,J,_⟩:=O.look;exact PySem.W.kia_one (PySem.W.kitx_own (cl.get _) cl.hd ha hn htk hm) I.kIn J e (λz=>nomatch z) h
end
structure Room(k:Nat)(A:Around):Prop where
 hd:A.handled=none
 dp:A.depth+3*k+5<recursionLimit
 un:A.units+16*k+200<cLine
theorem Room.mono{j k:Nat}{A:Around}(r:Room k A)(h:j<=k:=by decide):Room j A:=⟨r.hd,by have:=r.dp;omega,by have:=r.un;omega⟩
theorem Room.deeper{k:Nat}{A:Around}(r:Room (k+1) A)(env:Env):Room k (A.deeper env) :=
 ⟨r.hd,by have:=r.dp;show A.depth+1+3*k+5<_;omega,by have:=r.un;show A.units+3+16*k+200<_;omega⟩
theorem Room.in1{k:Nat}{A:Around}(r:Room (k+1) A):Room k A.in1 :=
 ⟨r.hd,by have:=r.dp;show A.depth+3*k+5<_;omega,by have:=r.un;show A.units+1+16*k+200<_;omega⟩
theorem FR{A:Around}{C:Addr}{us:List Value}{kw:List (Str×Value)}:(A.under (.builtin "type.__call__" ⟨.ref C::us,kw⟩)).depth=A.depth+1:=by first |rfl |simp[Around.under,Code.weight,Code.isCreation,Code.isGuard,Code.isCaller,Code.frames,Code.isFrame,guardIds]
theorem FP{A:Around}{C:Addr}{us:List Value}{kw:List (Str×Value)}:(A.under (.builtin "type.__call__" ⟨.ref C::us,kw⟩)).units=A.units+1:=by first |rfl |simp[Around.under,Code.cUnits,Code.frames,Code.isFrame]
theorem Room.make{k:Nat}{A:Around}(r:Room (k+1) A)(C:Addr)(us:List Value)(kw:List (Str×Value)):Room k (A.under (.builtin "type.__call__" ⟨.ref C::us,kw⟩)) :=
 ⟨r.hd,by have:=r.dp;rw[FR];omega,by have:=r.un;rw[FP];omega⟩
theorem Room.depth{k:Nat}{A:Around}(r:Room k A):A.depth<recursionLimit:=by have:=r.dp;omega
theorem Room.units{k:Nat}{A:Around}(r:Room k A):A.units+64<cLine:=by have:=r.un;omega
def mE:TA:=λ_ H Q=>Q [] H
def ey(ta:TE)(tr:TA):TA:=λσ H Q=>ta σ H λx H1=>tr σ H1 λxs H2=>Q (x::xs) H2
section
variable {X:Cx}{e:Expr}{es:List Expr}{te:TE}{t:TA}{pos:Pos}
theorem ac:PA X [] mE:=λ_ _ _ _ H Q I h=>Calls.spliced_nil ⟨[],H,I,.nil,h⟩
theorem aa(ha:PE X e te)(hr:PA X es t)(hs:starEach (e::es) X.env=(false,eval e X.env)::starEach es X.env:=by rfl):PA X (e::es) (ey te t):=by intro pos pins s σ H Q I h;rw[hs];show wpAny _ _ (spliced ((false,eval e X.env)::backTo pos (starEach es X.env))) _ _ s;refine Calls.spliced_cons (thn (ha pins s σ H _ I h) λu s1 ⟨x,H1,I1,r1,q1⟩=>?_);exact thn (hr pos pins s1 σ H1 _ I1 q1) λus s2 ⟨xs,H2,I2,r2,q2⟩=>⟨x::xs,H2,I2,.cons r1 r2,q2⟩
def qC(t:TA):TE:=λσ H Q=>t σ H λxs H1=>xs.length<=sizeLine/\∀p,H1 p=none->Q (.ref p) (upd H1 p (.tup xs))
def il(t:TA):TE:=λσ H Q=>t σ H λxs H1=>xs.length<=sizeLine/\∀p,H1 p=none->Q (.ref p) (upd H1 p (.lst xs))
theorem bq{x1}(h:PA X es t):PE X (.Tuple es x1 pos) (qC t):=by intro pins s σ H Q I hq;refine wpAny_Tuple_spliced (thn (h pos pins s σ H _ I hq) λus s1 ⟨xs,H1,I1,r,z,q⟩=>⟨by rw[<- r.length];exact z,?_⟩);have hf:H1 s1.heap.objs.size=none:=I1.hok.fresh (Ng _);refine⟨.ref s1.heap.objs.size,upd H1 s1.heap.objs.size (.tup xs),I1.laid (t':=s1.toks) (λb u e=>Heap.get?_push_of_some _ e) (Ng _) ?_,rfl,q _ hf⟩;exact⟨z,us,r,⟨_,Heap.get?_push_size _ rfl,rfl,_,rfl⟩⟩
theorem aO(h:PA X es t):PE X (.List es pos) (il t):=by intro pins s σ H Q I hq;refine wpAny_List_spliced (thn (h pos pins s σ H _ I hq) λus s1 ⟨xs,H1,I1,r,z,q⟩=>⟨by rw[<- r.length];exact z,?_⟩);have hf:H1 s1.heap.objs.size=none:=I1.hok.fresh (Ng _);refine⟨.ref s1.heap.objs.size,upd H1 s1.heap.objs.size (.lst xs),I1.laid (t':=s1.toks) (λb u e=>Heap.get?_push_of_some _ e) (Ng _) ?_,rfl,q _ hf⟩;exact⟨z,us,0,r,Heap.get?_push_size _ rfl⟩
end
abbrev Sp:=List V->Hp->VK->XK->Prop
abbrev CXT:=List Env->Hp->Shared->XK->Value->Shared->Prop
structure Env0(P:Program)(w:World)(K:PySem.W.Frag)(mg:Str->Option Value)(base:Heap)(A:Around)(outer:List Env)(s:Shared)(H:Hp):Prop where
 frames:A.frames=some outer
 mod:Mod K mg base
 bs:∀b o,base.get? b=some o->s.heap.get? b=some o/\H b=none
 bsz:base.objs.size<=s.heap.objs.size
 funs:s.heap.FunFrames base outer
 frf:∀b∈frs outer,H b=none
 hok:HOk P w H s.heap
 bare:AllBare s.gens
noncomputable def CE(outer:List Env)(P:Program)(w:World)(H:Hp)(s:Shared)(Q:VK)(u:Value)(s':Shared):Prop :=
 ∃v H',s'.os=s.os/\AllBare s'.gens/\Un (frs outer) [] H H' s.heap s'.heap/\HOk P w H' s'.heap/\RelV v u/\Q v H'
noncomputable def CR(CX:CXT)(outer:List Env)(P:Program)(w:World)(H:Hp)(s:Shared)(Q:VK)(E:XK)(r:Result)(s':Shared):Prop :=
 match r with
 |.ok (.ret u)=>CE outer P w H s Q u s'
 |.ok _=>False
 |.error e=>CX outer H s E e s'
structure FnOk(P:Program)(w:World)(K:PySem.W.Frag)(mg:Str->Option Value)(base:Heap)(CX:CXT)(k:Nat)(f:Addr)(fd:FuncData)(ps:List Str)(sp:Sp):Prop where
 len:∀vs H Q E,sp vs H Q E->vs.length=ps.length
 run:∀(A:Around) (outer:List Env) (s:Shared) (H:Hp) (args:Args) (us:List Value) (vs:List V) (Q:VK) (E:XK),Room k A->Env0 P w K mg base A outer s H->BindsTo s fd args (ps.zip us)->Vals vs us->sp vs H Q E ->
  codeAny (model P w) A (.call (.ref f) args) (CR CX outer P w H s Q E) s
theorem FnOk.mono{P:Program}{w:World}{K:PySem.W.Frag}{mg:Str->Option Value}{base:Heap}{CX:CXT}{j k:Nat}{f:Addr}{fd:FuncData}{ps:List Str}{sp:Sp}(F:FnOk P w K mg base CX j f fd ps sp)(h:j<=k:=by decide) :
 FnOk P w K mg base CX k f fd ps sp:=⟨F.len,λA outer s H args us vs Q E hr=>F.run A outer s H args us vs Q E (hr.mono h)⟩
theorem Env0.make{P:Program}{w:World}{K:PySem.W.Frag}{mg:Str->Option Value}{base:Heap}{A:Around}{outer:List Env}{s:Shared}{H:Hp}(e:Env0 P w K mg base A outer s H)(C:Addr)(us:List Value)(kw:List (Str×Value)) :
 Env0 P w K mg base (A.under (.builtin "type.__call__" ⟨.ref C::us,kw⟩)) outer s H:=⟨by first |exact e.frames | (simpa[Around.under,Code.envs,Code.isFrame,pushEnvs]using e.frames),e.mod,e.bs,e.bsz,e.funs,e.frf,e.hok,e.bare⟩
section
variable {X:Cx}{pins:List (Addr×Obj)}{σ:St}{H:Hp}{s s':Shared}
theorem Inv.env0(I:Inv X pins σ H s):Env0 X.prog X.w X.K X.mg X.base X.A X.stack s H :=
 ⟨I.ok.frames,I.ok.mod,I.bs,Nk I.ok.bsz I.sz,I.stack,I.stkFree,I.hok,I.bare⟩
theorem Inv.after{Q:VK}{u:Value}(I:Inv X pins σ H s)(h:CE X.stack X.prog X.w H s Q u s'):EP X pins σ Q u s':=by obtain⟨v,H',os,bare,un,hok,r,q⟩:=h;obtain⟨hh,g,d,t,os'⟩:=s';obtain rfl:os'=s.os:=os;exact⟨v,H',I.call (h':=hh) (g':=g) (d':=d) (t':=t) (ch:=[]) un hok bare (λb z=>absurd z (by simp)),r,q⟩
end
def qG(sp:Sp)(dvs:List V)(E:XK)(t:TA):TE:=λσ H Q=>t σ H λvs H1=>sp (vs++dvs) H1 Q E
def vG(C:Addr)(m:Str)(sp:Sp)(dvs:List V)(E:XK)(ta:TE)(t:TA):TE:=λσ H Q=>ta σ H λx H1=>∃a dx fs,x=.ref a/\H1 a=some (.ins C dx fs)/\fs.lookup m=none /\
 t σ H1 λvs H2=>sp (x::(vs++dvs)) H2 Q E
def Bj(C:Addr)(sp:Sp)(dvs:List V)(E:XK)(t:TA):TE:=λσ H Q=>t σ H λvs H1=>∀x dx,H1 x=none->H1 dx=none->dx≠x ->
 sp (.ref x::(vs++dvs)) (upd (upd H1 dx (.own x)) x (.ins C dx [])) (λv H2=>v=.non/\Q (.ref x) H2) E
noncomputable def Binds(K:PySem.W.Frag)(fd:FuncData)(ps:List Str)(ds:List Value):Prop :=
 ∀(s:Shared) (us:List Value),K.In s.heap->(us++ds).length=ps.length->BindsTo s fd ⟨us,[]⟩ (ps.zip (us++ds))
theorem Binds.all{K:PySem.W.Frag}{fd:FuncData}{ps:List Str}(h:∀us:List Value,us.length=ps.length->bindArgs fd ⟨us,[]⟩=pure (ps.zip us)):Binds K fd ps []:=λs us _ hl=>by rw[Ny]at hl ⊢;exact .of_eq (h us hl)
def gD(CX:CXT)(X:Cx)(E:XK):Prop:=∀(pins:List (Addr×Obj)) (σ:St) (H:Hp) (s:Shared) (e:Value) (s':Shared),Inv X pins σ H s->CX X.stack H s E e s'->X.xe e s'
section
variable {X:Cx}{CX:CXT}{k:Nat}{f C:Addr}{fd:FuncData}{ps:List Str}{sp:Sp}{dvs:List V}{ds:List Value}{E:XK}{x m:Str}{p pos apos:Pos}{e o:Expr}{es:List Expr}{ta:TE}{t:TA}
theorem pw{pins:List (Addr×Obj)}{σ:St}{H:Hp}{s:Shared}{Q:VK}{us:List Value}{vs:List V}(F:FnOk X.prog X.w X.K X.mg X.base CX k f fd ps sp)(hr:Room k X.A)(hb:Binds X.K fd ps ds)(hd:Vals dvs ds)(hx:gD CX X E)
 (I:Inv X pins σ H s) (r:Vals vs us) (h:sp (vs++dvs) H Q E):wpAny (model X.prog X.w) X.A (call (.ref f) us) (EP X pins σ Q) X.xe s:=by
 have r2:Vals (vs++dvs) (us++ds):=r.append hd;have hl:(us++ds).length=ps.length:=by rw[<- r2.length];exact F.len _ _ _ _ h
 refine wpAny_call (codeAny_mono (F.run X.A X.stack s H ⟨us,[]⟩ (us++ds) (vs++dvs) Q E hr I.env0 (hb s us I.kIn hl) r2 h) λr s' hq=>?_);cases r with
 |error e=>exact hx pins σ H s e s' I hq
 |ok fl =>
  cases fl with
  |ret u=>exact I.after hq
  |next=>exact False.elim hq
  |brk=>exact False.elim hq
  |cont=>exact False.elim hq
theorem aw(F:FnOk X.prog X.w X.K X.mg X.base CX k f fd ps sp)(hr:Room k X.A)(hg:Gl X x)(hm:X.mg x=some (.ref f))(hk:PySem.W.keepIn X.K (.ref f)=true)(hb:Binds X.K fd ps ds)(hd:Vals dvs ds)(hx:gD CX X E)
 (ha:PA X (e::es) t) (hdb:(x == ("__debug__":Str))=false:=by decide) (he:starEach (e::es) X.env=(false,eval e X.env)::starEach es X.env:=by rfl) (hpl:(backTo pos (starEach es X.env)).any (·.1)=false:=by rfl) :
 PE X (.Call (.Name x p) (e::es) [] pos) (qG sp dvs E t):=by
 intro pins s σ H Q I h;refine wpAny_Call_Name_kw (iJ I hg hm ?_ hdb);refine PySem.W.callWith_K (h₀:=X.base) I.ok.mod.kin hk (thn (ha pos pins s σ H _ I h) λus s1 ⟨vs,H1,I1,r,q⟩=>⟨I1.kIn,?_⟩) he hpl;exact pw F hr hb hd hx I1 r q
theorem cM{pl:Sem Bool}(he:PE X o ta)(c:Cls X.K C)(hm:Meth X.K C m f)(F:FnOk X.prog X.w X.K X.mg X.base CX k f fd ps sp)(hr:Room k X.A)(hb:Binds X.K fd ps ds)(hd:Vals dvs ds)(hx:gD CX X E)(ha:PA X (e::es) t)
 (hst:starEach (e::es) X.env=(false,eval e X.env)::starEach es X.env:=by rfl) (hpl:(backTo pos (starEach es X.env)).any (·.1)=false:=by rfl)
 (ht:eval (.Call (.Attribute o m apos) (e::es) [] pos) X.env=(do
   let ov <- eval o X.env
   standAt apos.atName
   let(f,first) <- holding [ov] (getMethod ov m pl)
   callWith pos f first (backTo pos (starEach (e::es) X.env)) (backToKw pos (keywordEach [] X.env))):=by rfl) :
 PE X (.Call (.Attribute o m apos) (e::es) [] pos) (vG C m sp dvs E ta t):=by
 intro pins s σ H Q I h;refine PySem.W.methodCall_KW (pl:=pl) (thn (he pins s σ H _ I h) λu s1 ⟨x,H1,I1,rx,a,dx,fs,ex,ea,l,q⟩=>?_) ht;subst ex;obtain rfl:u=Value.ref a:=rx;refine tI I1 ea c hm l ?_;refine PySem.W.callWith_K (first:=[.ref a]) (h₀:=X.base) I.ok.mod.kin hm.kp (thn (ha pos pins s1 σ H1 _ I1 q) λus s2 ⟨vs,H2,I2,r,q2⟩=>⟨I2.kIn,?_⟩) hst hpl;exact pw (us:=.ref a::us) (vs:=.ref a::vs) F hr hb hd hx I2 (.cons rfl r) q2
theorem bo{pl:Sem Bool}(he:PE X o ta)(c:Cls X.K C)(hm:Meth X.K C m f)(F:FnOk X.prog X.w X.K X.mg X.base CX k f fd ps sp)(hr:Room k X.A)(hb:Binds X.K fd ps ds)(hd:Vals dvs ds)(hx:gD CX X E)
 (ht:eval (.Call (.Attribute o m apos) [] [] pos) X.env=(do
   let ov <- eval o X.env
   standAt apos.atName
   let(f,first) <- holding [ov] (getMethod ov m pl)
   callWith pos f first (backTo pos (starEach [] X.env)) (backToKw pos (keywordEach [] X.env))):=by rfl) :
 PE X (.Call (.Attribute o m apos) [] [] pos) (vG C m sp dvs E ta mE):=by
 intro pins s σ H Q I h;refine PySem.W.methodCall_KW (pl:=pl) (thn (he pins s σ H _ I h) λu s1 ⟨x,H1,I1,rx,a,dx,fs,ex,ea,l,q⟩=>?_) ht;subst ex;obtain rfl:u=Value.ref a:=rx;refine tI I1 ea c hm l ?_;exact PySem.W.callWith_K0 (first:=[.ref a]) I1.kIn hm.kp (pw (us:=[.ref a]) (vs:=[.ref a]) F hr hb hd hx I1 (.cons rfl .nil) q)
structure Mk(K:PySem.W.Frag)(C f:Addr):Prop where
 makes:PySem.W.makesIn K C=true
 init:PySem.W.findIn K (.ref C) "__init__"=some (some (.ref f))
 fn:PySem.W.isFn K (.ref f)=true
 kp:PySem.W.keepIn K (.ref C)=true
theorem Cp{pins:List (Addr×Obj)}{σ:St}{H:Hp}{s:Shared}{Q:VK}{us:List Value}{vs:List V}(M:Mk X.K C f)(F:FnOk X.prog X.w X.K X.mg X.base CX k f fd ps sp)(hr:Room (k+1) X.A)(hb:Binds X.K fd ps ds)(hd:Vals dvs ds)
 (hx:gD CX X E) (I:Inv X pins σ H s) (r:Vals vs us)
 (h:∀x dx,H x=none->H dx=none->dx≠x->sp (.ref x::(vs++dvs)) (upd (upd H dx (.own x)) x (.ins C dx [])) (λv H2=>v=.non/\Q (.ref x) H2) E) :
 wpAny (model X.prog X.w) X.A (call (.ref C) us) (EP X pins σ Q) X.xe s:=by
 have hq:=h (s.heap.objs.size+1) s.heap.objs.size (I.hok.fresh (Nat.le_succ _)) (I.hok.fresh (Ng _)) (Nt (Nat.lt_succ_self _));have I2:=Inv.made (C:=C) I;have r2:Vals (V.ref (s.heap.objs.size+1)::(vs++dvs)) (Value.ref (s.heap.objs.size+1)::(us++ds)):=.cons rfl (r.append hd)
 have hl:(Value.ref (s.heap.objs.size+1)::us++ds).length=ps.length:=by have e:=r2.length;rw[F.len _ _ _ _ hq]at e;exact e.symm
 refine wpAny_call (FQ (f:=f) I.kIn M.makes M.init (beq_iff_eq.mp M.fn) (codeAny_mono (F.run _ X.stack _ _ ⟨Value.ref (s.heap.objs.size+1)::us,[]⟩ (Value.ref (s.heap.objs.size+1)::(us++ds)) _ _ E (hr.make C us [])
  (I2.env0.make C us []) (hb _ (Value.ref (s.heap.objs.size+1)::us) I2.kIn hl) r2 hq) λr s' hq'=>?_))
 cases r with
 |error e=>exact hx pins σ _ _ e s' I2 hq'
 |ok fl =>
  cases fl with
  |ret u =>obtain⟨v,H',I3,rv,ev,q3⟩:=I2.after hq';subst ev;exact⟨rv,⟨V.ref (s.heap.objs.size+1),H',I3,rfl,q3⟩⟩
  |next=>exact False.elim hq'
  |brk=>exact False.elim hq'
  |cont=>exact False.elim hq'
theorem di(M:Mk X.K C f)(F:FnOk X.prog X.w X.K X.mg X.base CX k f fd ps sp)(hr:Room (k+1) X.A)(hg:Gl X x)(hm:X.mg x=some (.ref C))(hb:Binds X.K fd ps ds)(hd:Vals dvs ds)(hx:gD CX X E)
 (ha:PA X (e::es) t) (hdb:(x == ("__debug__":Str))=false:=by decide) (he:starEach (e::es) X.env=(false,eval e X.env)::starEach es X.env:=by rfl) (hpl:(backTo pos (starEach es X.env)).any (·.1)=false:=by rfl) :
 PE X (.Call (.Name x p) (e::es) [] pos) (Bj C sp dvs E t):=by
 intro pins s σ H Q I h;refine wpAny_Call_Name_kw (iJ I hg hm ?_ hdb);refine PySem.W.callWith_K (h₀:=X.base) I.ok.mod.kin M.kp (thn (ha pos pins s σ H _ I h) λus s1 ⟨vs,H1,I1,r,q⟩=>⟨I1.kIn,?_⟩) he hpl;exact Cp M F hr hb hd hx I1 r q
end
section
variable {X:Cx}{CX:CXT}{k:Nat}{f C:Addr}{fd:FuncData}{ps ks:List Str}{sp:Sp}{E:XK}{x m:Str}{p pos apos kpos:Pos}{e o:Expr}{es:List Expr}{kws:List Keyword}{te ta:TE}{t tk:TA}{nm:Option Str}
variable {g:List Value->List Value->List Value}{gV:List V->List V->List V}
end
structure FnScope(N P:List Str)(sc:Scope):Prop where
 kind:sc.kind=.function
 co:sc.isCoroutine=false
 gen:sc.isGenerator=false
 nd:N.Nodup
 pre:N.take P.length=P
 par:∀x∈P,sc.names.lookup x=some .local\/sc.names.lookup x=some .cell
 nofree:∀y∈sc.names,y.2≠.free
theorem zC{kindOf:Str->Option NameKind}{x:Str}:∀{binds:List (Str×Value)} {m:Str->Option Value},(∀v,(x,v)∉binds)->bindL kindOf binds m x=m x
 | [],_,_=>rfl
 | (n,v)::r,m,h=>by
  unfold bindL;rw[zC λw hw=>h w (NQ _ hw)];split
  ·have:x≠n:=by rintro rfl;exact h v NY
   simp[this]
  ·rfl
theorem zE{kindOf:Str->Option NameKind}{x:Str}:∀{binds:List (Str×Value)} {m:Str->Option Value},(∀v,(x,v)∉binds)->bindC kindOf binds m x=m x
 | [],_,_=>rfl
 | (n,v)::r,m,h=>by
  unfold bindC;rw[zE λw hw=>h w (NQ _ hw)];split
  ·rfl
  ·have:x≠n:=by rintro rfl;exact h v NY
   simp[this]
theorem zD{kindOf:Str->Option NameKind}{x:Str}{v:Value}:∀{P:List Str} {vs:List Value} {i:Nat} {m:Str->Option Value},P.Nodup->P[i]?=some x->vs[i]?=some v->kindOf x=some .local ->
 bindL kindOf (P.zip vs) m x=some v
 | [],_,_,_,_,h,_,_=>by simp at h
 |_::_,[],_,_,_,_,h,_=>by simp at h
 |p::P,w::vs,0,m,nd,h1,h2,hk=>by
  simp at h1 h2;subst h1;subst h2
  show bindL kindOf ((p,w)::P.zip vs) m p=_;unfold bindL;rw[zC λv hv=>(List.nodup_cons.mp nd).1 (List.of_mem_zip hv).1,if_pos hk];simp
 |p::P,w::vs,i+1,m,nd,h1,h2,hk=>by show bindL kindOf ((p,w)::P.zip vs) m x=_;unfold bindL;exact zD (i:=i) (List.nodup_cons.mp nd).2 (by simpa using h1) (by simpa using h2) hk
theorem zF{kindOf:Str->Option NameKind}{x:Str}{v:Value}:∀{P:List Str} {vs:List Value} {i:Nat} {m:Str->Option Value},P.Nodup->P[i]?=some x->vs[i]?=some v->kindOf x≠some .local ->
 bindC kindOf (P.zip vs) m x=some v
 | [],_,_,_,_,h,_,_=>by simp at h
 |_::_,[],_,_,_,_,h,_=>by simp at h
 |p::P,w::vs,0,m,nd,h1,h2,hk=>by
  simp at h1 h2;subst h1;subst h2
  show bindC kindOf ((p,w)::P.zip vs) m p=_;unfold bindC;rw[zE λv hv=>(List.nodup_cons.mp nd).1 (List.of_mem_zip hv).1,if_neg hk];simp
 |p::P,w::vs,i+1,m,nd,h1,h2,hk=>by show bindC kindOf ((p,w)::P.zip vs) m x=_;unfold bindC;exact zF (i:=i) (List.nodup_cons.mp nd).2 (by simpa using h1) (by simpa using h2) hk
noncomputable def start(N:List Str)(vs:List V):St:=vs.map some++List.replicate (N.length-vs.length) none
noncomputable def bz(CX:CXT)(P:Program)(w:World)(K:PySem.W.Frag)(mg:Str->Option Value)(base:Heap)(N:List Str)(qual:Str)(scope:Scope)(f:Addr)(cd:Value)(A:Around)(outer:List Env)(s:Shared)(H:Hp)(E:XK):Cx where
 prog:=P
 w:=w
 K:=K
 mg:=mg
 base:=base
 A:=A.deeper (envOfC qual scope s.heap.objs.size f cd)
 N:=N
 s₀:=s
 H₀:=H
 env:=envOfC qual scope s.heap.objs.size f cd
 outer:=outer
 stack:=envOfC qual scope s.heap.objs.size f cd::outer
 ex:=[]
 calm:=true
 fn:=λ_=>true
 pn:=[]
 xe:=λe s'=>wpAny (model P w) (A.deeper (envOfC qual scope s.heap.objs.size f cd)) (leaving (envOfC qual scope s.heap.objs.size f cd) e) (λ_ s''=>CX outer H s E e s'') (λe' s''=>CX outer H s E e' s'') s'
theorem zv{sc:Scope}{n:Nat}{x:Str}(h:sc.names.lookup x=some .cell):∃c,(cellsFrom n sc.names []).lookup x=some c:=by have q:=PySem.W.cellsFrom_some sc.names n [] (.inl h);exact N8.mp q
theorem yG{CX:CXT}{P:Program}{w:World}{K:PySem.W.Frag}{mg:Str->Option Value}{base:Heap}{N ps:List Str}{qual:Str}{scope:Scope}{f:Addr}{cd:Value}{A:Around}{outer:List Env}{s s1:Shared}{H:Hp}{E:XK}{us:List Value}{vs:List V}
 (S:FnScope N ps scope) (hd:A.handled=none) (e0:Env0 P w K mg base A outer s H) (hl:vs.length=ps.length) (r:Vals vs us)
 (x:InCallC s s.heap.objs.size (bindL (envOfC qual scope s.heap.objs.size f cd).kindOf (ps.zip us) λ_=>none) (cellsFrom (s.heap.objs.size+1) scope.names []) (bindC (envOfC qual scope s.heap.objs.size f cd).kindOf (ps.zip us) λ_=>none) s1) :
 Inv (bz CX P w K mg base N qual scope f cd A outer s H E) [] (start N vs) H s1:=by
 have hpl:ps.length<=N.length:=by have:=congrArg List.length S.pre;rw[N9]at this;omega
 obtain⟨h1,tk,rfl,hk⟩:=x.done;have noA:∀b:Addr,b∉(bz CX P w K mg base N qual scope f cd A outer s H E).ex:=λb z=>absurd (show b∈([]:List Addr)from z) (by simp)
 refine⟨⟨e0.mod,S.kind,rfl,rfl,Ng _,λy z c h1 h2=>?_,λy hy=>?_,λy c _ h=>?_,λ_=>hd,Around.frames_deeper e0.frames,.inr ⟨rfl,rfl⟩,λb z=>absurd z (noA b),e0.bs,e0.bsz,λb _ _=>noA b,λb z=>absurd z (noA b),e0.funs,e0.frf⟩,
  rfl,e0.bare,Un.kept hk,⟨_,x.toInCall.ns,λi y v h1 h2 h3=>?_⟩,λy c h=>⟨_,x.cell y c h⟩,e0.hok.fresh (Ng _),λy c h=>?_,λp hp=>absurd (show p∈([]:List (Addr×Obj))from hp) (by simp),e0.hok.kept hk,?_⟩
 ·exact name_of_addr x.apart (PySem.mem_of_lookup h1) (PySem.mem_of_lookup h2)
 ·have hy:scope.names.lookup y=some .cell\/scope.names.lookup y=some .free:=hy;rcases hy with hy |hy
  ·exact zv hy
  ·exact absurd rfl (S.nofree _ (PySem.mem_of_lookup hy))
 ·exact N4 (x.above y c (PySem.mem_of_lookup h))
 ·have hi:i<vs.length:=by
   unfold start at h2
   by_cases hi:i<vs.length
   ·exact hi
   ·rw[List.getElem?_append_right (by simpa using hi)]at h2;rw[List.getElem?_replicate]at h2;split at h2<;>cases h2
  have ha:vs[i]?=some v:=by
   unfold start at h2
   rw[List.getElem?_append_left (by simpa using hi),List.getElem?_map]at h2;cases e:vs[i]? with
   |none=>rw[e]at h2;cases h2
   |some a=>rw[e]at h2;cases h2;rfl
  obtain⟨u,hu,rv⟩:=r.get ha
  have hp:ps[i]?=some y:=by rw[<- S.pre,List.getElem?_take_of_lt (by omega)];exact h1
  have ndP:ps.Nodup:=by rw[<- S.pre];exact S.nd.sublist (List.take_sublist _ _)
  refine⟨u,rv,?_⟩;rcases S.par y (List.mem_of_getElem? hp)with k |k
  ·exact .inl ⟨k,zD ndP hp hu k⟩
  ·obtain⟨c,e⟩:=zv (n:=s.heap.objs.size+1) k;refine .inr ⟨.inl k,c,e,?_⟩;have q:=x.cell y c e;rw[zF ndP hp hu (by show scope.names.lookup y≠_;rw[k];decide)]at q;exact q
 ·exact e0.hok.fresh (N4 (x.above y c (PySem.mem_of_lookup h)))
 ·unfold start;show _=N.length;rw[Nf,Nh,Nw];omega
theorem qg{CX:CXT}{P:Program}{w:World}{K:PySem.W.Frag}{mg:Str->Option Value}{base:Heap}{k:Nat}{f:Addr}{name qual:Str}{params:Arguments}{body:List Stmt}{scope:Scope}{dV kV doc pm cdv ct oc:Value}{an od:Option Addr}
 {osl:Array (Option Value)} {N ps:List Str} {sp:Sp} (lk:K.lookup f=some ⟨oc,od,.func (PySem.W.fnOf name qual params body scope dV kV doc pm an cdv ct),osl⟩) (hcd:PySem.W.codeIn K cdv qual=true) (S:FnScope N ps scope)
 (len:∀vs H Q E,sp vs H Q E->vs.length=ps.length)
 (hbody:∀(A:Around) (outer:List Env) (s:Shared) (H:Hp) (vs:List V) (Q:VK) (E:XK),Room k (A.deeper (envOfC qual scope s.heap.objs.size f cdv))->sp vs H Q E ->
   ∃t,PSs (bz CX P w K mg base N qual scope f cdv A outer s H E) body t/\t { nx:=λ_ H'=>Q .non H',rt:=Q } (start N vs) H) :
 FnOk P w K mg base CX (k+1) f (PySem.W.fnOf name qual params body scope dV kV doc pm an cdv ct) ps sp:=by
 refine⟨len,λA outer s H args us vs Q E hr e0 hb r hsp=>?_⟩;have hl:=len _ _ _ _ hsp;have KX:K.In s.heap:=e0.mod.kin.keeps λb o e=>(e0.bs b o e).1
 have lim:s.heap.NoLimit:=e0.mod.nolimit.keeps λb o e=>(e0.bs b o e).1
 have hkind:∀y∈ps.zip us,scope.names.lookup y.1=some .local\/(scope.names.lookup y.1=some .cell/\((cellsFrom (s.heap.objs.size+1) scope.names []).lookup y.1).isSome=true):=λ⟨n,v⟩ hy=>by
  rcases S.par n (List.of_mem_zip hy).1 with q |q
  ·exact .inl q
  ·exact .inr ⟨q,PySem.W.cellsFrom_some _ _ _ (.inl q)⟩
 refine codeAny_call_function hr.depth (KX _ _ lk) rfl S.co S.gen rfl (PySem.W.codeRec_of KX hcd) (hb _ _ _ _ ?_);refine wpAny_newFunctionEnv_cells S.kind hkind λenv he s1 x=>?_
 subst he;refine⟨lim.keeps x.toInCall.keep,codeAny_func ?_⟩;obtain⟨t,ht,hq⟩:=hbody A outer s H vs Q E (hr.deeper _) hsp;have I:Inv (bz CX P w K mg base N qual scope f cdv A outer s H E) [] (start N vs) H s1:=yG S hr.hd e0 hl r x;refine wpAny_mono (ht [] s1 (start N vs) H _ I hq) (λfl s' hs=>?_) λe s' hs=>hs
 have fin:∀{σ':St} {H':Hp} {v:V} {u:Value},Inv (bz CX P w K mg base N qual scope f cdv A outer s H E) [] σ' H' s'->RelV v u->Q v H'->CE outer P w H s Q u s' :=
  λ{σ' H' v u} J rv q=>⟨v,H',J.os,J.bare,J.base,J.hok,rv,q⟩
 cases fl with
 |ret u =>obtain⟨v,σ',H',J,rv,q⟩:=hs;exact fin J rv q
 |next =>obtain⟨σ',H',J,q⟩:=hs;exact fin (v:=V.non) (u:=Value.none) J rfl q
 |brk =>obtain⟨_,_,_,q⟩:=hs;exact False.elim q
 |cont =>obtain⟨_,_,_,q⟩:=hs;exact False.elim q
section
variable {X:Cx}{x:Str}{p pos:Pos}{e:Expr}{es:List Expr}{t:TA}{id T:String}{r:List V->Hp->VK->Prop}
def tCB(r:List V->Hp->VK->Prop)(t:TA):TE:=λσ H Q=>t σ H λvs H1=>r vs H1 Q
theorem aP(hc:cR X (.builtin id) r)(hg:Gl X x)(hm:X.mg x=none)(hv:bootBuiltins x=some (.builtin id))(ha:PA X (e::es) t)(hn:x≠"__name__":=by decide)(hdb:(x == ("__debug__":Str))=false:=by decide)
 (he:starEach (e::es) X.env=(false,eval e X.env)::starEach es X.env:=by rfl) (hpl:(backTo pos (starEach es X.env)).any (·.1)=false:=by rfl):PE X (.Call (.Name x p) (e::es) [] pos) (tCB r t):=by
 intro pins s σ H Q I h;refine wpAny_Call_Name_kw (nw I hg hm hv ?_ hn hdb);exact PyProof.Rows.callWith_builtin1 (thn (ha pos pins s σ H _ I h) λus s1 ⟨vs,H1,I1,r1,q1⟩=>hc pins s1 σ H1 vs us Q I1 r1 q1) he hpl
theorem bn(hc:cR X (.type T) r)(hg:Gl X x)(hm:X.mg x=none)(hv:bootBuiltins x=some (.type T))(ha:PA X (e::es) t)(hn:x≠"__name__":=by decide)(hdb:(x == ("__debug__":Str))=false:=by decide)
 (he:starEach (e::es) X.env=(false,eval e X.env)::starEach es X.env:=by rfl) (hpl:(backTo pos (starEach es X.env)).any (·.1)=false:=by rfl):PE X (.Call (.Name x p) (e::es) [] pos) (tCB r t):=by
 intro pins s σ H Q I h;refine wpAny_Call_Name_kw (nw I hg hm hv ?_ hn hdb);exact PyProof.Rows.callWith_type1 (thn (ha pos pins s σ H _ I h) λus s1 ⟨vs,H1,I1,r1,q1⟩=>hc pins s1 σ H1 vs us Q I1 r1 q1) he hpl
end
end L2
namespace HT
open PySem PyProof.Rows
section
open PySem.SeqAt
open PySem.AutoSeq1 (wpAny_loadPart')
open PySem.MeetsSeq PySem.MeetsSeq2 PySem.MeetsSeq3
end
section
variable {prog:Program}{w:World}{A:Around}{E:Value->Shared->Prop}{s:Shared}
noncomputable def sIx(n d:Nat):Option Int->Nat
 |none=>d
 |some v=>if v<0 then(v+(n:Int)).toNat else min v.toNat n
theorem sIx_none(n d:Nat):sIx n d none=d:=rfl
theorem sIx_nat(n d k:Nat):sIx n d (some (k:Int))=min k n:=by show(if(k:Int)<0 then((k:Int)+(n:Int)).toNat else min (k:Int).toNat n)=min k n;rw[if_neg (by omega),Oa]
end
end HT
namespace L2
open PySem PySem.Spec PyProof.Rows
abbrev TO:=St->Hp->(Option Int->Hp->Prop)->Prop
noncomputable def PO(X:Cx)(e:Option Expr)(t:TO):Prop :=
 ∀(pins:List (Addr×Obj)) (s:Shared) (σ:St) (H:Hp) (Q:Option Int->Hp->Prop),Inv X pins σ H s->t σ H Q ->
  wpAny (model X.prog X.w) X.A (evalPart e X.env) (λu s'=>∃o H',Inv X pins σ H' s'/\IsPart u o/\Q o H') X.xe s
noncomputable def Bh:TO:=λ_ H Q=>Q none H
noncomputable def Bg(t:TE):TO:=λσ H Q=>t σ H λx H1=>∃i,x=.int i/\Q (some i) H1
theorem yH{ns:List Int}:∀{us:List Value},Vals (ns.map V.int) us->IntsAre us ns:=by
 induction ns with
 |nil=>intro us r;rw[List.map_nil]at r;cases r;exact .nil
 |cons n ns ih =>
  intro us r;rw[NM]at r;cases r with
  |cons r1 r2 =>obtain⟨t,e⟩:=r1;subst e;exact .cons n t (ih r2)
section
variable {X:Cx}{e:Expr}{te:TE}{lo hi:Option Expr}{tl th:TO}{pos p2:Pos}
theorem rO:PO X none Bh:=by intro pins s σ H Q I h;rw[evalPart_none];exact wpAny_pure ⟨none,H,I,.none,h⟩
theorem gh(h:PE X e te):PO X (some e) (Bg te):=by
 intro pins s σ H Q I hw;rw[evalPart_some];refine thn (h pins s σ H _ I hw) λu s1 ⟨x,H1,I1,r1,q1⟩=>?_
 obtain⟨i,rfl,q⟩:=q1;obtain⟨t,rfl⟩:=r1;exact⟨some i,H1,I1,.int i t,q⟩
noncomputable def SlR(X:Cx)(r:V->Option Int->Option Int->Hp->VK->Prop):Prop :=
 ∀(pins:List (Addr×Obj)) (s:Shared) (σ:St) (H:Hp) (x:V) (v vl vu:Value) (lo hi:Option Int) (sl:Addr) (Q:VK),Inv X pins σ H s->RelV x v->s.heap.IsSliceOf sl vl vu .none->IsPart vl lo->IsPart vu hi->r x lo hi H Q ->
  ∃T id,typeLookup (.type T) "__getitem__"=pure (some (.builtin id))/\s.TypeIs v T/\wpAny (model X.prog X.w) X.A (getItem v (.ref sl)) (EP X pins σ Q) X.xe s
def tSl(r:V->Option Int->Option Int->Hp->VK->Prop)(te:TE)(tl th:TO):TE:=λσ H Q=>te σ H λx H1=>tl σ H1 λl H2=>th σ H2 λu H3=>r x l u H3 Q
theorem lw{r:V->Option Int->Option Int->Hp->VK->Prop}(hr:SlR X r)(he:PE X e te)(hl:PO X lo tl)(hu:PO X hi th):PE X (.Subscript e (.Slice lo hi none p2) pos) (tSl r te tl th):=by
 intro pins s σ H Q I h;refine Subscript_ (thn (he pins s σ H _ I h) λv s1 ⟨x,H1,I1,r1,q1⟩=>?_);refine wpAny_Slice (thn (hl pins s1 σ H1 _ I1 q1) λvl s2 ⟨l,H2,I2,pl,q2⟩=>thn (hu pins s2 σ H2 _ I2 q2) λvu s3 ⟨u,H3,I3,pu,q3⟩=>?_);rw[evalPart_none];refine wpAny_pure ?_;have I4:Inv X pins σ H3 { s3 with heap:=s3.heap.push { cls:=.type "slice",data:=.fields #[vl,vu,.none] } }:=I3.kept (t':=s3.toks) λb ob q=>Heap.get?_push_of_some _ q
 obtain⟨T,id,hT,ht,hg⟩:=hr pins { s3 with heap:=s3.heap.push { cls:=.type "slice",data:=.fields #[vl,vu,.none] } } σ H3 x v vl vu l u s3.heap.objs.size Q I4 r1 (Heap.IsSliceOf.new ..) pl pu q3;show wpAny (model X.prog X.w) X.A (subscriptTail e (.Slice lo hi none p2) v (.ref s3.heap.objs.size)) (EP X pins σ Q) X.xe { s3 with heap:=s3.heap.push { cls:=.type "slice",data:=.fields #[vl,vu,.none] } };exact tail_any (ops:=[.ref s3.heap.objs.size,v]) ht hT hg (by with_unfolding_all rfl)
noncomputable def g9(xs:List V)(lo hi:Option Int):List V:=(xs.drop (HT.sIx xs.length 0 lo)).take (HT.sIx xs.length xs.length hi-HT.sIx xs.length 0 lo)
theorem J1(xs:List V)(lo hi:Option Int):(g9 xs lo hi).length<=xs.length:=by unfold g9;rw[N9,NE];omega
end
noncomputable def ixN(n:Nat)(i:Int):Option Nat:=if 0<=i then(if i<n then some i.toNat else none)else if -(n:Int)<=i then some (i+n).toNat else none
noncomputable def atI{α:Type}(xs:List α)(i:Int):Option α:=(ixN xs.length i).bind λj=>xs[j]?
theorem yD{n:Nat}{i:Int}{j:Nat}(h:ixN n i=some j):seqIndex? i n=some j/\j<n /\ -(n:Int)<=i/\i<n:=by
 unfold ixN at h
 by_cases h0:0<=i
 ·rw[if_pos h0]at h;by_cases h1:i<n
  ·rw[if_pos h1]at h;have e:i.toNat=j:=Option.some.inj h;exact⟨by rw[seqIndex_of h0 h1,e],by omega,by omega,h1⟩
  ·rw[if_neg h1]at h;cases h
 ·rw[if_neg h0]at h;by_cases h1 : -(n:Int)<=i
  ·rw[if_pos h1]at h;have e:(i+n).toNat=j:=Option.some.inj h;exact⟨by rw[seqIndex_neg (by omega) h1,e],by omega,h1,by omega⟩
  ·rw[if_neg h1]at h;cases h
theorem uN{α:Type}{xs:List α}{i:Int}{v:α}(h:atI xs i=some v):∃j,seqIndex? i xs.length=some j/\xs[j]?=some v/\j<xs.length /\ -(xs.length:Int)<=i/\i<xs.length:=by
 unfold atI at h
 cases e:ixN xs.length i with
 |none=>rw[e]at h;cases h
 |some j =>rw[e]at h;obtain⟨h1,h2,h3,h4⟩:=yD e;exact⟨j,h1,h,h2,h3,h4⟩
theorem jD{α:Type}{xs:List α}{j:Nat}{v:α}(h:xs[j]?=some v):atI xs (j:Int)=some v:=by
 have hj:j<xs.length:=(List.getElem?_eq_some_iff.mp h).1
 have e:ixN xs.length (j:Int)=some j:=by unfold ixN;rw[if_pos (by omega),if_pos (by omega)];simp
 unfold atI;rw[e];exact h
theorem zX{α:Type}(xs:List α)(v:α):atI (xs++[v]) (-1)=some v:=by
 have hl:(xs++[v]).length=xs.length+1:=by simp
 have e:ixN (xs++[v]).length (-1)=some xs.length:=by
  unfold ixN;rw[hl,if_neg (by decide),if_pos (by omega)]
  congr 1
  omega
 unfold atI;rw[e];show(xs++[v])[xs.length]?=some v;simp
def Ln(b:Expr):Prop:=∀o i,subscripted b false o i=operate [o,i] (getItem o i)
noncomputable def IxR(X:Cx)(r:R2):Prop :=
 ∀(value slice:Expr) (pins:List (Addr×Obj)) (s:Shared) (σ:St) (H:Hp) (x y:V) (v u:Value) (Q:VK),Inv X pins σ H s->RelV x v->RelV y u->r x y H Q ->
  subscripted slice false v u=operate [v,u] (getItem v u)->wpAny (model X.prog X.w) X.A (subscriptTail value slice v u) (EP X pins σ Q) X.xe s
noncomputable def MtR(X:Cx)(id:String)(r:V->List V->Hp->VK->Prop):Prop :=
 ∀(pins:List (Addr×Obj)) (s:Shared) (σ:St) (H:Hp) (x:V) (xs:List V) (v:Value) (us:List Value) (Q:VK),Inv X pins σ H s->RelV x v->Vals xs us->r x xs H Q ->
  wpAny (model X.prog X.w) X.A (call (.builtin id) (v::us)) (EP X pins σ Q) X.xe s
section
variable {X:Cx}{a b:Expr}{ta tb:TE}{pos:Pos}
theorem aA{r:R2}(hr:IxR X r)(ha:PE X a ta)(hb:PE X b tb)(hs:Ln b):PE X (.Subscript a b pos) (tOp r ta tb):=by intro pins s σ H Q I h;exact Subscript_ (uB ha hb I h λv u s2 x y H2 I2 rx ry q=>hr a b pins s2 σ H2 x y v u Q I2 rx ry q (hs _ _))
def wl(K:PySem.W.Frag):R2:=λx y H Q=>∃p xs i v,x=.ref p/\y=.int i/\SqL K H p xs/\atI xs i=some v/\Q v H
def wk(K:PySem.W.Frag):R2:=λx y H Q=>∃p xs i v,x=.ref p/\y=.int i/\SqT K H p xs/\atI xs i=some v/\Q v H
def CV:R2:=λx y H Q=>∃z i c,x=.str z/\y=.int i/\z.length<=sizeLine/\atI z.cps.toList i=some c/\Q (.str ⟨#[c]⟩) H
theorem Hn:IxR X (wl X.K):=by
 intro value slice pins s σ H x y v u Q I rx ry h hs;obtain⟨p,xs,i,z,rfl,rfl,hq,he,q⟩:=h;cases rx;obtain⟨t,rfl⟩:=ry;obtain⟨its,r,pl,hz⟩:=I.list hq;obtain⟨j,h1,h2,h3,h4,h5⟩:=uN he;obtain⟨w,ew,rw'⟩:=r.get h2;have hl:=r.length;have hn:=lO;have fin:EP X pins σ Q w s:=⟨z,H,I,rw',q⟩;by_cases h0:0<=i
 ·have hj:i.toNat=j:=by rw[seqIndex_of h0 h5]at h1;exact Option.some.inj h1
  exact item_listR pl.isList h0 (by omega) (by rw[hj];simpa using ew) fin hs
 ·have hj:(i+(its.toArray.size:Int)).toNat=j:=by rw[seqIndex_neg (by omega) h4]at h1;rw[Nv,<- hl];exact Option.some.inj h1
  exact subscriptTail_builtinR (x:=w) pl.isList.typeIs slot_list_getitem.lookup
   (wpAny_getItem_list_neg (Q:=λr s'=>r=w/\EP X pins σ Q r s') pl.isList (by omega) (by rw[Nv]<;>omega) (by omega) (by rw[hj];simpa using ew) ⟨rfl,fin⟩) hs
theorem Hm:IxR X (wk X.K):=by
 intro value slice pins s σ H x y v u Q I rx ry h hs;obtain⟨p,xs,i,z,rfl,rfl,hq,he,q⟩:=h;cases rx;obtain⟨t,rfl⟩:=ry;obtain⟨its,r,pl,hz⟩:=I.tuple hq;obtain⟨j,h1,h2,h3,h4,h5⟩:=uN he;obtain⟨w,ew,rw'⟩:=r.get h2;have hl:=r.length;have hn:=lO;have fin:EP X pins σ Q w s:=⟨z,H,I,rw',q⟩
 exact subscriptTail_builtinR (x:=w) pl.typeIs slot_tuple_getitem.lookup
  (getItem_tuple (j:=j) (Q:=λr s'=>r=w/\EP X pins σ Q r s') pl (by omega) (by omega) (by rw[Nv,<- hl];exact h1) (by simpa using ew) ⟨rfl,fin⟩) hs
theorem bJ:IxR X CV:=by
 intro value slice pins s σ H x y v u Q I rx ry h hs;obtain⟨z,i,c,rfl,rfl,hz,he,q⟩:=h;obtain⟨t,rfl⟩:=rx;obtain⟨t',rfl⟩:=ry;obtain⟨j,h1,h2,h3,h4,h5⟩:=uN he;have hl:z.cps.toList.length=z.length:=by simp[Str.length]
 rw[hl]at h1 h4 h5;have hn:=lO
 exact tail_any (typeIs_str s z t) slot_str_getitem.lookup (getItem_str (c:=c) (by
  have e1:decide (i < -(2^63:Int))=false:=decide_eq_false (by omega);have e2:decide (i≥2^63)=false:=decide_eq_false (by omega)
  rw[e1,e2,Bool.or_false]) (by rw[h1];simpa using h2) ⟨.str ⟨#[c]⟩,H,I.tok _,⟨_,rfl⟩,q⟩) hs
theorem FO(its:List Value)(n j:Nat)(u:Value):Obj.mapSeq (·.setIfInBounds j u) { cls:=.type "list",data:=.seq its.toArray n }={ cls:=.type "list",data:=.seq (its.set j u).toArray n }:=by simp[Obj.mapSeq]
theorem Inv.lst{pins:List (Addr×Obj)}{σ:St}{H:Hp}{s:Shared}{p:Addr}{xs:List V}(I:Inv X pins σ H s)(h:H p=some (.lst xs)) :
 ∃(its:List Value) (n:Nat),Vals xs its/\s.heap.get? p=some { cls:=.type "list",data:=.seq its.toArray n }/\xs.length<=sizeLine:=by
 obtain⟨z,its,n,r,e⟩:=I.hok p _ h;exact⟨its,n,r,e,z⟩
theorem Inv.lstUpd{pins:List (Addr×Obj)}{σ:St}{H:Hp}{s:Shared}{p:Addr}{xs ys:List V}{its its':List Value}{n n':Nat}{f:Obj->Obj}(I:Inv X pins σ H s)(h:H p=some (.lst xs))
 (ho:s.heap.get? p=some { cls:=.type "list",data:=.seq its.toArray n }) (hf:f { cls:=.type "list",data:=.seq its.toArray n }={ cls:=.type "list",data:=.seq its'.toArray n' }) (r:Vals ys its') (hz:ys.length<=sizeLine) (t:Nat) :
 Inv X pins σ (upd H p (.lst ys)) { s with heap:=s.heap.update p f,toks:=t }:=by
 have e:(s.heap.update p f).get? p=some { cls:=.type "list",data:=.seq its'.toArray n' }:=by rw[Heap.get?_update_self f ho (by rw[hf]<;>rfl),hf]
 refine I.write (x:=p) (e:=p) (by rw[h];trivial) (.inl rfl) (λb u hb q=>(Heap.get?_update_other _ _ (Ne.symm hb)).trans q) ⟨_,e⟩ ?_;exact⟨hz,its',n',r,e⟩
noncomputable def CP:V->V->V->Hp->(Hp->Prop)->Prop:=λo i v H Q=>∃p xs k j,o=.ref p/\i=.int k/\H p=some (.lst xs)/\ixN xs.length k=some j/\Q (upd H p (.lst (xs.set j v)))
theorem fH:Aa X CP:=by
 intro pins s σ H o i v ov iv u Q I ro ri rv h;obtain⟨p,xs,k,j,rfl,rfl,hp,hj,q⟩:=h;cases ro;obtain⟨t,rfl⟩:=ri;obtain⟨its,n,r,ho,hz⟩:=I.lst hp;obtain⟨h1,h2,h3,h4⟩:=yD hj;have hl:=r.length;have hn:=lO
 have I':Inv X pins σ (upd H p (.lst (xs.set j v))) { s with heap:=s.heap.update p (Obj.mapSeq (·.setIfInBounds j u)) } :=
  I.lstUpd hp ho (FO its n j u) (r.set rv j) (by rw[List.length_set];exact hz) s.toks
 by_cases h0:0<=k
 ·have hk:k.toNat=j:=by rw[seqIndex_of h0 h4]at h1;exact Option.some.inj h1
  exact PySem.W.ki_setAt ho h0 (by omega) (by rw[Nv,<- hl];exact h4) (by rw[hk];exact⟨_,I',q⟩)
 ·have hk:(k+(its.toArray.size:Int)).toNat=j:=by rw[seqIndex_neg (by omega) h3]at h1;rw[Nv,<- hl];exact Option.some.inj h1
  exact PySem.W.ki_setBack ho (by omega) (by rw[Nv,<- hl];exact h3) (by omega) (by rw[hk];exact⟨_,I',q⟩)
theorem Bz(lo hi:Option Int)(n:Nat):(sliceBounds lo hi none n).1=((HT.sIx n 0 lo:Nat):Int)/\(sliceBounds lo hi none n).2.1=((HT.sIx n n hi:Nat):Int)/\(sliceBounds lo hi none n).2.2=1:=by
 refine⟨?_,?_,rfl⟩
 ·cases lo with
  |none=>simp[sliceBounds,HT.sIx]
  |some i =>
   simp only[sliceBounds,HT.sIx,Option.getD_none,show(1:Int)>0 by decide,if_true];by_cases h:i<0
   ·simp only[h,if_true]<;>omega
   ·simp only[h,if_false]<;>omega
 ·cases hi with
  |none=>simp[sliceBounds,HT.sIx]
  |some i =>
   simp only[sliceBounds,HT.sIx,Option.getD_none,show(1:Int)>0 by decide,if_true];by_cases h:i<0
   ·simp only[h,if_true]<;>omega
   ·simp only[h,if_false]<;>omega
theorem BA(its:List Value)(lo hi:Option Int):slicePick its.toArray lo hi none=((its.drop (HT.sIx its.length 0 lo)).take (HT.sIx its.length its.length hi-HT.sIx its.length 0 lo)).toArray:=by obtain⟨h1,h2,h3⟩:=Bz lo hi its.toArray.size;unfold slicePick;rw[h1,h2,h3];simp only[sliceRange_one,pick_run,Nv]<;>rfl
noncomputable def rG(K:PySem.W.Frag):V->Option Int->Option Int->Hp->VK->Prop:=λx lo hi H Q=>∃a xs,x=.ref a/\SqL K H a xs/\∀p,H p=none->Q (.ref p) (upd H p (.lst (g9 xs lo hi)))
theorem BB:SlR X (rG X.K):=by intro pins s σ H x v vl vu lo hi sl Q I rx hs pl pu h;obtain⟨a,xs,rfl,hx,q⟩:=h;cases rx;obtain⟨its,r,ht,hz⟩:=I.list hx;have hlen:=r.length;refine⟨"list",_,slot_list_getitem.lookup,ht.isList.typeIs,?_⟩;refine wpAny_getItem_list_slice ht.isList hs pl pu .none (by simp) ?_ (by rw[Nv]<;>omega);rw[BA,<- hlen];refine⟨.ref s.heap.objs.size,_,I.laid (t':=s.toks) (o:=.lst (g9 xs lo hi)) (λb ob q=>Heap.get?_push_of_some _ q) (Ng _) ?_,rfl,q _ (I.hok.fresh (Ng _))⟩;exact⟨Nk (J1 xs lo hi) hz,_,0,(r.drop (HT.sIx xs.length 0 lo)).take (HT.sIx xs.length xs.length hi-HT.sIx xs.length 0 lo),Heap.get?_push_size _ rfl⟩
noncomputable def gy:V->Bool
 |.non=>true
 |.bl _=>true
 |.int _=>true
 |.str _=>true
 |_=>false
noncomputable def eqV:V->V->Bool
 |.non,.non=>true
 |.bl a,.bl b=>a == b
 |.bl a,.int b=>(if a then 1 else 0) == b
 |.int a,.bl b=>a == (if b then 1 else 0)
 |.int a,.int b=>a == b
 |.str a,.str b=>a == b
 |_,_=>false
theorem JS{A:Around}{s:Shared}{y x:V}{u v:Value}(ry:RelV y u)(rx:RelV x v)(fy:gy y=true)(fx:gy x=true):SeqAt.EqAt A s u v (eqV y x):=by
 cases y with
 |non =>
  cases ry;cases x with
  |non=>cases rx;exact SeqAt.EqAt.same _
  |bl b=>cases rx;exact SeqAt.EqAt.none_bool b
  |int b=>obtain⟨t,rfl⟩:=rx;exact SeqAt.EqAt.none_int b t
  |str b=>obtain⟨t,rfl⟩:=rx;exact SeqAt.EqAt.none_str b t
  |_=>exact absurd (show false=true from fx) Nn
 |bl a =>
  cases ry;cases x with
  |non=>cases rx;exact SeqAt.EqAt.bool_none a
  |bl b=>cases rx;exact SeqAt.EqAt.bool_bool a b
  |int b=>obtain⟨t,rfl⟩:=rx;exact SeqAt.EqAt.bool_int a b t
  |str b=>obtain⟨t,rfl⟩:=rx;exact SeqAt.EqAt.bool_str a b t
  |_=>exact absurd (show false=true from fx) Nn
 |int a =>
  obtain⟨t',rfl⟩:=ry;cases x with
  |non=>cases rx;exact SeqAt.EqAt.int_none a t'
  |bl b=>cases rx;exact SeqAt.EqAt.int_bool a t' b
  |int b=>obtain⟨t,rfl⟩:=rx;exact SeqAt.EqAt.int_int a t' b t
  |str b=>obtain⟨t,rfl⟩:=rx;exact SeqAt.EqAt.int_str a t' b t
  |_=>exact absurd (show false=true from fx) Nn
 |str a =>
  obtain⟨t',rfl⟩:=ry;cases x with
  |non=>cases rx;exact SeqAt.EqAt.str_none a t'
  |bl b=>cases rx;exact SeqAt.EqAt.str_bool a t' b
  |int b=>obtain⟨t,rfl⟩:=rx;exact SeqAt.EqAt.str_int a t' b t
  |str b=>obtain⟨t,rfl⟩:=rx;exact SeqAt.EqAt.str_str a t' b t
  |_=>exact absurd (show false=true from fx) Nn
 |_=>exact absurd (show false=true from fy) Nn
noncomputable def eqU(x:V)(u:Value):Bool:=match u with
 |.none=>eqV .non x
 |.bool b=>eqV (.bl b) x
 |.int i _=>eqV (.int i) x
 |.str z _=>eqV (.str z) x
 |_=>false
theorem zi{x y:V}{u:Value}(r:RelV y u)(f:gy y=true):eqU x u=eqV y x:=by
 cases y with
 |non=>cases r;rfl
 |bl b=>cases r;rfl
 |int i=>obtain⟨t,rfl⟩:=r;rfl
 |str z=>obtain⟨t,rfl⟩:=r;rfl
 |_=>exact absurd (show false=true from f) Nn
theorem oO{x:V}:∀{xs:List V} {us:List Value},Vals xs us->xs.all gy=true->us.any (eqU x)=xs.any λy=>eqV y x
 |_,_,.nil,_=>rfl
 |y::xs,u::us,.cons r t,f=>by rw[List.all_cons,Np]at f;rw[List.any_cons,List.any_cons,zi r f.1,oO t f.2]
theorem mW{A:Around}{s:Shared}{x:V}{v:Value}(rx:RelV x v)(fx:gy x=true):∀{xs:List V} {us:List Value},Vals xs us->xs.all gy=true->∀u∈us,SeqAt.EqAt A s u v (eqU x u)
 |_,_,.nil,_=>λu hu=>by cases hu
 |y::xs,u::us,.cons r t,f=>λu' hu=>by
  rw[List.all_cons,Np]at f;rcases Ni.mp hu with rfl |hu
  ·rw[zi r f.1];exact JS r rx f.1 fx
  ·exact mW rx fx t f.2 u' hu
noncomputable def inV(x:V)(xs:List V):Bool:=xs.any λy=>eqV y x
def rIn(K:PySem.W.Frag)(neg:Bool):R2:=λx y H Q=>∃p xs,y=.ref p/\(SqL K H p xs\/SqT K H p xs)/\gy x=true/\xs.all gy=true/\Q (.bl (if neg then !inV x xs else inV x xs)) H
theorem xa:OpR X (compareOp .In) (rIn X.K false):=by
 intro pins s σ H x y v u Q I rx ry h;obtain⟨p,xs,rfl,hq,fx,fs,q⟩:=h;cases ry;rcases hq with hq |hq
 ·obtain⟨its,r,pl,hz⟩:=I.list hq;refine SeqAt.in_listAt (eqU x) pl.isList (λw hw=>mW rx fx r fs w (by simpa using hw)) ⟨.bl _,H,I,rfl,?_⟩;rw[show its.toArray.any (eqU x)=its.any (eqU x) by simp,oO r fs];exact q
 ·obtain⟨its,r,pl,hz⟩:=I.tuple hq;refine SeqAt.in_tupleAt (eqU x) pl (λw hw=>mW rx fx r fs w (by simpa using hw)) ⟨.bl _,H,I,rfl,?_⟩;rw[show its.toArray.any (eqU x)=its.any (eqU x) by simp,oO r fs];exact q
theorem Dz:OpR X (compareOp .NotIn) (rIn X.K true):=by
 intro pins s σ H x y v u Q I rx ry h;obtain⟨p,xs,rfl,hq,fx,fs,q⟩:=h;cases ry;rcases hq with hq |hq
 ·obtain⟨its,r,pl,hz⟩:=I.list hq;refine SeqAt.notIn_listAt (eqU x) pl.isList (λw hw=>mW rx fx r fs w (by simpa using hw)) ⟨.bl _,H,I,rfl,?_⟩;rw[show its.toArray.any (eqU x)=its.any (eqU x) by simp,oO r fs];exact q
 ·obtain⟨its,r,pl,hz⟩:=I.tuple hq;refine SeqAt.notIn_tupleAt (eqU x) pl (λw hw=>mW rx fx r fs w (by simpa using hw)) ⟨.bl _,H,I,rfl,?_⟩;rw[show its.toArray.any (eqU x)=its.any (eqU x) by simp,oO r fs];exact q
theorem Ki:cR X (.builtin "len") (λxs H Q=>∃p ys,xs=[.ref p]/\(SqL X.K H p ys\/SqT X.K H p ys)/\Q (.int ys.length) H):=by
 intro pins s σ H xs us Q I r h;obtain⟨p,ys,rfl,hq,q⟩:=h;obtain⟨u,rfl,rx⟩:=fF r;cases rx;have hn:=lO;rcases hq with hq |hq
 ·obtain⟨its,r',pl,hz⟩:=I.list hq;have hlen:=r'.length;exact Calls.call_len_list pl.isList (by simp only[Nv]<;>omega) ⟨.int ys.length,H,I.tok _,⟨s.toks+1,by rw[Nv,hlen]⟩,q⟩
 ·obtain⟨its,r',pl,hz⟩:=I.tuple hq;have hlen:=r'.length;exact len_tuple pl (by simp only[Nv]<;>omega) ⟨.int ys.length,H,I.tok _,⟨s.toks+1,by rw[Nv,hlen]⟩,q⟩
theorem dL:cR X (.builtin "len") (λxs H Q=>∃z,xs=[.str z]/\z.length<=sizeLine/\Q (.int z.length) H):=by intro pins s σ H xs us Q I r h;obtain⟨z,rfl,hz,q⟩:=h;obtain⟨u,rfl,t,rfl⟩:=fF r;have hn:=lO;exact len_str (by omega) ⟨.int z.length,H,I.tok _,⟨_,rfl⟩,q⟩
theorem Kg:cR X (.type "list") (λxs H Q=>∃p ys,xs=[.ref p]/\(SqL X.K H p ys\/SqT X.K H p ys)/\∀l,H l=none->Q (.ref l) (upd H l (.lst ys))):=by
 intro pins s σ H xs us Q I r h;obtain⟨p,ys,rfl,hq,q⟩:=h;obtain⟨u,rfl,rx⟩:=fF r;cases rx
 have fin:∀(its:List Value),Vals ys its->ys.length<=sizeLine->∀(h':Heap) (c':Nat),(∀b o',s.heap.get? b=some o'->h'.get? b=some o') ->
  h'.get? s.heap.objs.size=some { cls:=.type "list",dict:=none,data:=.seq its.toArray c',slots:=#[] }->EP X pins σ Q (.ref s.heap.objs.size) { s with heap:=h' }:=λits r' hz h' c' kp e =>
  ⟨.ref s.heap.objs.size,_,I.laid (t':=s.toks) kp (Ng _) (show ObjOk X.prog X.w _ h' _ (.lst ys)from⟨hz,its,c',r',e⟩),rfl,q _ (I.hok.fresh (Ng _))⟩
 rcases hq with hq |hq
 ·obtain⟨its,r',pl,hz⟩:=I.list hq;have hlen:=r'.length;obtain⟨o,ho,hc,n,hd⟩:=pl.isList;exact call_list_seq p (.inl rfl) ho hc hd (λh' c' kp e=>fin its r' hz h' c' kp e) (by simp only[Nv]<;>omega)
 ·obtain⟨its,r',pl,hz⟩:=I.tuple hq;have hlen:=r'.length;obtain⟨o,ho,hc,n,hd⟩:=pl;exact call_list_seq p (.inr rfl) ho hc hd (λh' c' kp e=>fin its r' hz h' c' kp e) (by simp only[Nv]<;>omega)
def tyV(K:PySem.W.Frag)(T:String)(x:V)(H:Hp):Prop:=match x with
 |.str _=>T="str"
 |.int _=>T="int"
 |.ref p=>(T="list"/\∃xs,SqL K H p xs)\/(T="tuple"/\∃o,K.lookup p=some o/\o.cls=.type "tuple"/\o.dict=none) \/
  (T="dict"/\((∃kvs,H p=some (.dK kvs))\/∃kvs,H p=some (.dT kvs)))\/(T="set"/\∃S n,H p=some (.set S n))
 |_=>False
theorem vo{pins:List (Addr×Obj)}{σ:St}{H:Hp}{s:Shared}{T:String}{x:V}{v:Value}(I:Inv X pins σ H s)(r:RelV x v)(ty:tyV X.K T x H) :
 s.TypeIs v T/\∀a,v=.ref a->∃ob,s.heap.get? a=some ob/\ob.dict=none:=by
 cases x with
 |str z =>obtain⟨t,rfl⟩:=r;cases(show T="str" from ty);exact⟨typeIs_str s z t,λ_ e=>nomatch e⟩
 |int i =>obtain⟨t,rfl⟩:=r;cases(show T="int" from ty);exact⟨typeIs_int s i t,λ_ e=>nomatch e⟩
 |ref p =>
  cases r;rcases ty with⟨rfl,xs,hq⟩ |⟨rfl,o,hk,hc,hd⟩ |⟨rfl,hk⟩ |⟨rfl,S,n,hk⟩
  ·obtain⟨its,_,pl,_⟩:=I.list hq;refine⟨pl.isList.typeIs,λa e=>?_⟩;cases e;obtain⟨o,n,e,c,hd,_⟩:=pl;exact⟨o,e,hd⟩
  ·refine⟨⟨o,I.kIn p o hk,hc⟩,λa e=>?_⟩;cases e;exact⟨o,I.kIn _ o hk,hd⟩
  ·have z:∃o,s.heap.get? p=some o/\o.ExactDict:=by
    rcases hk with⟨kvs,hk⟩ |⟨kvs,hk⟩
    ·obtain⟨_,_,_,_,o,_,_,e,ex,_⟩:=I.hok p _ hk;exact⟨o,e,ex⟩
    ·obtain⟨_,_,_,_,o,_,_,e,ex,_⟩:=I.hok p _ hk;exact⟨o,e,ex⟩
   obtain⟨o,e,ex⟩:=z;refine⟨⟨o,e,ex.1⟩,λa e2=>?_⟩;cases e2;exact⟨o,e,ex.2.1⟩
  ·obtain⟨o,_,_,_,e,ex,_⟩:=I.hok p _ hk;refine⟨⟨o,e,ex.1⟩,λa e2=>?_⟩;cases e2;exact⟨o,e,ex.2.1⟩
 |_=>exact False.elim ty
def Bo(K:PySem.W.Frag)(T:String)(r:V->List V->Hp->VK->Prop)(to:TE):TE:=λσ H Q=>to σ H λx H1=>tyV K T x H1/\r x [] H1 Q
def tBM(K:PySem.W.Frag)(T:String)(r:V->List V->Hp->VK->Prop)(to:TE)(t:TA):TE:=λσ H Q=>to σ H λx H1=>tyV K T x H1/\t σ H1 λxs H2=>r x xs H2 Q
variable {o e:Expr}{es:List Expr}{to:TE}{t:TA}{name:Str}{apos cpos:Pos}{T id:String}{r:V->List V->Hp->VK->Prop}
theorem Dv(pa:PlainAttrs T)(slot:Slot T name id)(hty:typeOf (.builtin id)=pure (.type "method_descriptor"))(hm:MtR X id r)(ho:PE X o to)
 (hbase:attributeBase o name X.env (eval o X.env)=eval o X.env:=by rfl) (hline:(apos.endLine == cpos.line)=true:=by rfl):PE X (.Call (.Attribute o name apos) [] [] cpos) (Bo X.K T r to):=by
 intro pins s σ H Q I h;refine wpAny_Call_method0_late hbase hline (thn (ho pins s σ H _ I h) λv s1 ⟨x,H1,I1,r1,ty,q1⟩=>?_);obtain⟨h1,h2⟩:=vo I1 r1 ty;exact⟨T,id,pa,slot,hty,h1,h2,Calls.callWith_builtin rfl (PySem.evalArgs_none (hm pins s1 σ H1 x [] v [] Q I1 r1 .nil q1))⟩
theorem lx(pa:PlainAttrs T)(slot:Slot T name id)(hty:typeOf (.builtin id)=pure (.type "method_descriptor"))(hm:MtR X id r)(ho:PE X o to)(ha:PA X (e::es) t)
 (hbase:attributeBase o name X.env (eval o X.env)=eval o X.env:=by rfl)
 (hfew:((backTo cpos (starEach (e::es) X.env)).all (λx=>!x.1)&&(backToKw cpos (keywordEach [] X.env)).all (λx=>x.1.isSome)
   && decide ((e::es).length+([]:List Keyword).length+(if([]:List Keyword).isEmpty then 0 else 1)<30))=true:=by rfl)
 (hline:(apos.endLine == cpos.line)=true:=by rfl) (hs:starEach (e::es) X.env=(false,eval e X.env)::starEach es X.env:=by rfl) (hplain:(backTo cpos (starEach es X.env)).any (·.1)=false:=by rfl) :
 PE X (.Call (.Attribute o name apos) (e::es) [] cpos) (tBM X.K T r to t):=by
 intro pins s σ H Q I h;refine wpAny_Call_method_late hbase hfew hline rfl (thn (ho pins s σ H _ I h) λv s1 ⟨x,H1,I1,r1,ty,q1⟩=>?_);obtain⟨h1,h2⟩:=vo I1 r1 ty;refine⟨T,id,pa,slot,hty,h1,h2,?_⟩;have hA:=ha cpos pins s1 σ H1 _ I1 q1;rw[hs]at hA ⊢;refine Calls.callWith_builtin (by show(false || (backTo cpos (starEach es X.env)).any (·.1))=false;rw[hplain]<;>rfl) (Calls.evalArgs_plain ?_);exact thn hA λus s2 ⟨vs,H2,I2,r2,q2⟩=>hm pins s2 σ H2 x vs v us Q I2 r1 r2 q2
end
noncomputable def MtM(X:Cx)(id:String)(r:V->List V->Hp->VK->Prop):Prop :=
 ∀(pins:List (Addr×Obj)) (s:Shared) (σ:St) (H:Hp) (x:V) (xs:List V) (v:Value) (us:List Value) (Q:VK),Inv X pins σ H s->RelV x v->Vals xs us->r x xs H Q ->
  wpAny (model X.prog X.w) X.A (call (.builtin id) (v::us)) (EP X pins σ Q) X.xe s
theorem Vals.one:∀{x:V} {us:List Value},Vals [x] us->∃u,us=[u]/\RelV x u
 |_,_,.cons r .nil=>⟨_,rfl,r⟩
theorem Vals.two:∀{x y:V} {us:List Value},Vals [x,y] us->∃u v,us=[u,v]/\RelV x u/\RelV y v
 |_,_,_,.cons r (.cons q .nil)=>⟨_,_,rfl,r,q⟩
theorem Vals.zero:∀{us:List Value},Vals [] us->us=[]
 |_,.nil=>rfl
theorem Vals.dropLast{xs:List V}{us:List Value}(h:Vals xs us):Vals xs.dropLast us.dropLast:=by
 induction h with
 |nil=>exact .nil
 |cons r t ih =>
  cases t with
  |nil=>exact .nil
  |cons q t'=>exact .cons r ih
theorem Vals.reverse{xs:List V}{us:List Value}(h:Vals xs us):Vals xs.reverse us.reverse:=by
 induction h with
 |nil=>exact .nil
 |cons r t ih=>rw[List.reverse_cons,List.reverse_cons];exact Vals.append ih (.cons r .nil)
theorem Vals.rep{xs:List V}{us:List Value}(h:Vals xs us):∀k:Nat,Vals (List.replicate k xs).flatten (List.replicate k us).flatten
 |0=>.nil
 |k+1=>by rw[NO,NO,NR,NR];exact Vals.append h (Vals.rep h k)
theorem yX(its:List Value):∀(k:Nat) (acc:List Value),
 List.foldl (λx1 x2=>x1++x2) acc.toArray (List.replicate k its.toArray)=(acc++(List.replicate k its).flatten).toArray
 |0,acc=>by simp
 |k+1,acc=>by
  have e:acc.toArray++its.toArray=(acc++its).toArray:=by simp
  have e2:(acc++its)++(List.replicate k its).flatten=acc++(List.replicate (k+1) its).flatten:=by rw[NO,NR,Nl]
  rw[<- e2,<- yX its k (acc++its),<- e,NO,Ob]
section
variable {X:Cx}{pins:List (Addr×Obj)}{σ:St}{H:Hp}{s:Shared}{l b:Addr}{xs ys zs:List V}
theorem Inv.lset{its its':List Value}{n:Nat}{f:Array Value->Array Value}{t':Nat}(I:Inv X pins σ H s)(hH:H l=some (.lst xs))
 (e:s.heap.get? l=some { cls:=.type "list",data:=.seq its.toArray n }) (hf:f its.toArray=its'.toArray) (hv:Vals ys its') (hz:ys.length<=sizeLine) :
 Inv X pins σ (upd H l (.lst ys)) { s with heap:=s.heap.update l (Obj.mapSeq f),toks:=t' }:=by
 have q:=PySem.IsL.update e f;rw[hf]at q;refine I.write (x:=l) (e:=l) (by rw[hH];exact trivial) (.inl rfl) (λb' u hb hu=>(Heap.get?_update_other s.heap (Obj.mapSeq f) (Ne.symm hb)).trans hu) ⟨_,q⟩ ?_;exact⟨hz,its',_,hv,q⟩
theorem Inv.lnew{its:List Value}{t':Nat}(I:Inv X pins σ H s)(hv:Vals ys its)(hz:ys.length<=sizeLine) :
 Inv X pins σ (upd H s.heap.objs.size (.lst ys)) { s with heap:=s.heap.push { cls:=.type "list",data:=.seq its.toArray },toks:=t' } :=
 I.laid (λ_ _ q=>Heap.get?_push_of_some _ q) (Ng _) ⟨hz,its,0,hv,Heap.get?_push_size _ rfl⟩
theorem Inv.fresh(I:Inv X pins σ H s):H s.heap.objs.size=none:=I.hok.fresh (Ng _)
theorem Inv.lstM(I:Inv X pins σ H s)(hH:H l=some (.lst xs)):xs.length<=sizeLine/\∃(its:List Value) (n:Nat),Vals xs its/\xs.length=its.length/\s.heap.get? l=some { cls:=.type "list",data:=.seq its.toArray n }:=by obtain⟨z,its,n,r,e⟩:=I.hok l _ hH;exact⟨z,its,n,r,r.length,e⟩
theorem Fe{n:Nat}(h:n<=sizeLine):Builtin.List.listTooLong n=false:=by unfold Builtin.List.listTooLong;exact decide_eq_false (by omega)
end
section
variable {X:Cx}
noncomputable def CW:V->List V->Hp->VK->Prop:=λx vs H Q=>∃l xs y,x=.ref l/\vs=[y]/\H l=some (.lst xs)/\xs.length<sizeLine/\Q .non (upd H l (.lst (xs++[y])))
theorem pL:MtM X "list.append" CW:=by intro pins s σ H x vs v us Q I rx rv h;obtain⟨l,xs,y,rfl,rfl,hH,hz,q⟩:=h;cases rx;obtain⟨u,rfl,ru⟩:=rv.one;obtain⟨z,its,n,r,hl,e⟩:=I.lstM hH;refine call_meets F.slot_list_append ⟨_,e,rfl⟩ F.entry_list_append (F.args_list_append_2 _ _) (PySem.list_append l its.toArray n u (by rw[Nv];omega)) ⟨e,?_⟩;refine⟨.non,_,I.lset (its':=its++[u]) hH e (by simp) (r.append (.cons ru .nil)) ?_,rfl,q⟩;rw[Nf,Oi];omega
noncomputable def CQ:V->List V->Hp->VK->Prop:=λx vs H Q=>∃l xs,x=.ref l/\vs=[]/\H l=some (.lst xs)/\Q .non (upd H l (.lst xs.reverse))
theorem Fs:MtM X "list.reverse" CQ:=by intro pins s σ H x vs v us Q I rx rv h;obtain⟨l,xs,rfl,rfl,hH,q⟩:=h;cases rx;have hus:=rv.zero;subst hus;obtain⟨z,its,n,r,hl,e⟩:=I.lstM hH;refine call_meets F.slot_list_reverse ⟨_,e,rfl⟩ F.entry_list_reverse (F.args_list_reverse_1 _) (AutoSeq1.list_reverse_list_0 l its.toArray n (by rw[Nv];omega)) ⟨e,?_⟩;refine⟨.non,_,I.lset (its':=its.reverse) hH e (by simp) r.reverse ?_,rfl,q⟩;rw[List.length_reverse];omega
def rH:R2:=λx y H Q=>∃l b xs zs,x=.ref l/\y=.ref b/\H l=some (.lst xs)/\H b=some (.lst zs)/\xs.length+zs.length<=sizeLine/\∀p,H p=none->Q (.ref p) (upd H p (.lst (xs++zs)))
theorem rS:OpR X (binaryOp .Add) rH:=by
 intro pins s σ H x y v u Q I rx ry h;obtain⟨l,b,xs,zs,rfl,rfl,hH,hB,hz,q⟩:=h;cases rx;cases ry;obtain⟨z,its,n,r,hl,e⟩:=I.lstM hH;obtain⟨z2,its2,n2,r2,hl2,e2⟩:=I.lstM hB;refine PySem.P.add_list e e2 ?_ (by rw[Nv,Nv];omega);have ea:its.toArray++its2.toArray=(its++its2).toArray:=by simp
 rw[ea];exact⟨.ref _,_,I.lnew (t':=s.toks) (r.append r2) (by rw[Nf];omega),rfl,q _ I.fresh⟩
def CS:R2:=λx y H Q=>∃l k xs,x=.ref l/\y=.int k/\H l=some (.lst xs) /\ -(2^63)<=k/\k<2^63/\xs.length*k.toNat<=sizeLine /\
 ∀p,H p=none->Q (.ref p) (upd H p (.lst (List.replicate k.toNat xs).flatten))
theorem GK{α:Type}(xs:List α)(k:Nat):(List.replicate k xs).flatten.length=k*xs.length:=by
 induction k with
 |zero=>simp
 |succ k ih=>rw[NO,NR,Nf,ih,Nat.succ_mul,Nat.add_comm]
theorem w5:OpR X (binaryOp .Mult) CS:=by
 intro pins s σ H x y v u Q I rx ry h;obtain⟨l,k,xs,rfl,rfl,hH,h1,h2,hz,q⟩:=h;cases rx;obtain⟨t,rfl⟩:=ry;obtain⟨z,its,n,r,hl,e⟩:=I.lstM hH;have hlen:its.toArray.size*k.toNat<=sizeLine:=by rw[Nv,<- hl];exact hz
 have hcap:¬its.toArray.size*k.toNat>(2^63-1)/8:=by
  have:(sizeLine:Nat)<=(2^63-1)/8:=by decide
  omega
 have hfit:¬(!Builtin.List.listFitsIndex k)=true:=by rw[fitsIndex_both h1 h2];exact Nn
 have hlong:¬Builtin.List.listTooLong (its.toArray.size*k.toNat)=true:=by rw[Fe hlen];exact Nn
 have hnew:List.foldl (λx1 x2=>x1++x2) #[] (List.replicate (if its.toArray.isEmpty=true then 0 else k.toNat) its.toArray)=(List.replicate k.toNat its).flatten.toArray:=by
  have f0:∀m:Nat,List.foldl (λx1 x2=>x1++x2) #[] (List.replicate m its.toArray)=(List.replicate m its).flatten.toArray:=λm=>by have:=yX its m [];rw[NF]at this;exact this
  rw[f0];cases its with
  |nil=>simp
  |cons a r'=>rw[if_neg (by simp)]
 refine wpAny_binaryOp_repeat_ref (T:="list") (U:="int") (by decide) ⟨_,e,rfl⟩ (λs'=>typeIs_int s' k t) noFill_list_mul F.fills_int_mul F.slot_int_rmul repeat_list F.slot_int_index.lookup
  (call_meets F.slot_int_rmul (typeIs_int s k t) F.entry_int_rmul (F.args_int_rmul_2 _ _) (int___rmul___int_list k t l its.toArray n)
    ⟨e,rfl,⟨_,e,rfl⟩,call_meets F.slot_list_mul ⟨_,e,rfl⟩ F.entry_list_mul (F.args_list_mul_2 _ _) (AutoListH.list___mul___list_int_3 l its.toArray n k t hfit hcap hlong) ⟨e,?_⟩⟩)
 rw[hnew];exact⟨.ref _,_,I.lnew (t':=s.toks) (r.rep k.toNat) (by rw[GK,Nat.mul_comm];exact hz),rfl,q _ I.fresh⟩
end
section
variable {prog:Program}{w:World}{A:Around}{E:Value->Shared->Prop}{s:Shared}
end
section
variable {X:Cx}
end
end L2
namespace Att
open PySem PySem.W PySem.Calls PyProof.Rows
theorem HA{P:Params}{h:Heap}:∀(ns:List Int) (vs:List Value),WellAll P h vs (ns.map WData.int)->IntsAre vs ns:=by
 intro ns
 induction ns with
 |nil =>intro vs w;rw[List.map_nil]at w;cases w;exact .nil
 |cons n ns ih =>
  intro vs w;rw[NM]at w;cases w with
  |cons a b =>cases a;exact .cons _ _ (ih _ b)
theorem BH{l:OpenLaw}{n:Nat}(hn:l.most=some n){P:Params}{h:Heap}{args:List WData}{vals:List Value}
 (hpre:l.row.toRowW.claim.pre args=true) (hwl:WellAll P h vals args) :
 ∃a vs ns,vals=[Value.ref a]/\args=[WData.list (ns.map WData.int)]/\h.get? a=some { cls:=.type "list",data:=.seq vs.toArray }/\IntsAre vs ns/\ns.length<=n:=by
 have hsh:WShape.hasAll [] args [.list .int]=true:=(pre_splitW hpre).1;have hc:l.pre.holds [] { args:=args }=true:=(pre_splitW hpre).2;obtain⟨d,r,rfl,h1,h2⟩:=hasAllW_cons hsh;obtain rfl:=hasAllW_nil h2;obtain⟨xs,rfl,h3⟩:=hasW_list h1;obtain⟨ns,rfl⟩:=items_int h3
 have hlen:ns.length<=n:=by
  unfold OpenLaw.pre at hc
  have h4:(WTm.not (.lt (.lit (.int (n:Int))) (.len (.arg 0)))).holds [] { args:=[.list (ns.map .int)] }=true:=by have h4:=(holds_andW hc).1;rw[hn]at h4;exact h4
  have h5:=condW_of h4 (w_not (w_lt w_lit (w_len_list (w_arg rfl))));rw[Nh]at h5;refine Oc λq=>?_
  have q':(n:Int)<((ns.length:Nat):Int):=by omega
  first
   | (rw[decide_eq_true q']at h5;exact absurd h5 (by decide))
   | (simp at h5;omega)
 cases hwl with
 |cons w1 w2 =>
  cases w2;cases w1 with
  |list ho hall=>exact⟨_,_,ns,rfl,rfl,ho,HA ns _ hall,hlen⟩
theorem Dd(l:OpenLaw)(args:List WData):l.row.toRowW.claim.post args (.bool true) args=true :=
 postW_of (r:=l.row.toRowW) (X:=(true == true))
  (show WShape.has [] (.bool true) .bool=true by first |rfl |decide |simp[WShape.has,WShape.arms,WShape.armsAll])
  (show(WTm.eq .res (.lit (.bool true))).value [] { args:=args,res:=some (.bool true),after:=args }=some (.bool (true == true))from w_eq_bool (w_res rfl) w_lit) rfl
theorem attach_call{l:OpenLaw}{n:Nat}{q:Program}{loose:List Str}{XP:(Str->Option Value)->Heap->Prop}{YP:World->Heap->Prop}{d:DefRec}
 (hn:l.most=some n) (hdf:d.params.defaults=[])
 (call:∀(w:World) (s₀ s₁:Shared) (mg mb:Str->Option Value) (fa:Addr) (o:Obj) (pm cd doc:Value) (a:Addr) (vs:List Value) (ns:List Int),
   Ground q loose [] XP w s₀ mg mb s₁.heap->YP w s₁.heap ->
   s₁.heap.get? fa=some o->o.data=.func (docDef d.name d.params d.body d.scope pm cd doc)->s₁.heap.CodeRec cd d.name->mg d.name=some (.ref fa) ->
   s₁.heap.get? a=some { cls:=.type "list",data:=.seq vs.toArray }->IntsAre vs ns->ns.length<=n->s₁.gens=#[] ->
   codeAny (model l.prog w) callerA (.call (.ref fa) ⟨[.ref a],[]⟩) (λr s'=>r=.ok (.ret (.bool true))/\OldK s₁.heap s'.heap/\s'.os=s₁.os/\AllBare s'.gens) s₁) :
 WalkO q loose XP YP l.row.toRowW d [] (λf vs=>PySem.call f vs):=by
 intro w s₀ s₁ mg mb G Y fa o pm cd doc dV kV ho hd hcd hD hmg hg args vals as hpre hlay hrd hwl hlo;obtain rfl:dV=.none:=Dflts.none hD hdf;obtain rfl:kV=.none:=Dflts.noKw hD;obtain⟨a,vs,ns,rfl,rfl,hobj,hints,hlen⟩:=BH hn hpre hwl;refine enter_call (codeAny_mono (call w s₀ s₁ mg mb fa o pm cd doc a vs ns G Y ho (fd_plain hd) hcd hmg hobj hints hlen hg) λr s' hq=>?_);obtain⟨rfl,h2,h3,h4⟩:=hq;exact⟨.inl ⟨.bool true,.bool true,[],rfl,λ_=>rfl,.bool true,Dd l _,λ_=>⟨List.Pairwise.nil,λ_ hm=>(nomatch hm)⟩⟩,h2,h3,h4⟩
section
variable {prog:Program}{w:World}{A:Around}{E:Value->Shared->Prop}{s:Shared}{K:Frag}
end
end Att
namespace L2
open PySem PySem.Spec PyProof.Rows
theorem vn:∀{vs:List Value} {ns:List Int},IntsAre vs ns->Vals (ns.map V.int) vs
 |_,_,.nil=>.nil
 |_,_,.cons n t h=>.cons ⟨t,rfl⟩ (vn h)
def uQ(H:Hp):Prop:=∀b,H b=none\/∃o xs,H b=some (.frz o (.lst xs))
theorem GN{P:Program}{w:World}{K:PySem.W.Frag}{mg mb:Str->Option Value}{CX:CXT}{k:Nat}{fa a:Addr}{fd:FuncData}{x:Str}{sp:Sp}{s₁:Shared}{vs:List Value}{ns:List Int}
 (KX:K.In s₁.heap) (hns:s₁.heap.Ns mainGlobals mg) (hb:s₁.heap.Ns builtinsNs mb) (hbb:∀x:Str,x≠"__name__"->mb x=bootBuiltins x) (hlim:s₁.heap.NoLimit) (hg:s₁.gens=#[])
 (ha:s₁.heap.get? a=some { cls:=.type "list",data:=.seq vs.toArray }) (hi:IntsAre vs ns) (hl:ns.length<=sizeLine) (hr:Room k callerA)
 (F:∀base:Heap,K.In base->base.Ns mainGlobals mg->FnOk P w K mg base CX k fa fd [x] sp) (hbind:∀(s:Shared) (u:Value),BindsTo s fd ⟨[u],[]⟩ [(x,u)])
 (hsp:∀H:Hp,uQ H->SqL K H a (ns.map V.int)->sp [.ref a] H (λv _=>v=.bl true) λ_ _ _=>False)
 (hCX:∀H e s',CX [] H s₁ (λ_ _ _=>False) e s'->False) :
 codeAny (model P w) callerA (.call (.ref fa) ⟨[.ref a],[]⟩) (λr s'=>r=.ok (.ret (.bool true))/\OldK s₁.heap s'.heap/\s'.os=s₁.os/\AllBare s'.gens) s₁:=by
 have rv:=vn hi;have lenV:=hi.length
 have core:∀H:Hp,uQ H->SqL K H a (ns.map V.int)->HOk P w H s₁.heap->(∀b,H b≠none->b=a)->(H a≠none->K.lookup a=none) ->
  codeAny (model P w) callerA (.call (.ref fa) ⟨[.ref a],[]⟩) (λr s'=>r=.ok (.ret (.bool true))/\OldK s₁.heap s'.heap/\s'.os=s₁.os/\AllBare s'.gens) s₁:=by
  intro H hO hS hok hA hK;have base_of:∀{b:Addr} {o:Obj},s₁.heap.get? b=some o->H b=none->(gw s₁.heap H).get? b=some o:=λe n=>HR e n
  have noA:∀{b:Addr} {o:Obj} {es:Array DictEntry} {ep:Nat},s₁.heap.get? b=some o->o.data=.dict es ep->H b=none:=λ{b o es ep} e d=>by
   cases q:H b with
   |none=>rfl
   |some u =>have e':b=a:=hA b (by rw[q];simp);subst e';rw[ha]at e;cases e;have d':Data.seq vs.toArray _=Data.dict es ep:=d;cases d'
  have nsK:∀{b:Addr} {m:Str->Option Value},s₁.heap.Ns b m->(gw s₁.heap H).Ns b m:=λ{b m} ⟨o,es,ep,e,d,r⟩=>⟨o,es,ep,base_of e (noA e d),d,r⟩
  have hKb:K.In (gw s₁.heap H):=λb o e=>base_of (KX b o e) (by
   cases q:H b with
   |none=>rfl
   |some u =>
    have e':b=a:=hA b (by rw[q];simp);subst e'
    rw[hK (by rw[q];simp)]at e;cases e)
  have hM:Mod K mg (gw s₁.heap H):=⟨hKb,nsK hns,⟨mb,nsK hb,hbb⟩,let⟨mc,h1,h2⟩:=hlim;⟨mc,nsK h1,h2⟩⟩;have e0:Env0 P w K mg (gw s₁.heap H) callerA [] s₁ H:=⟨rfl,hM,λb o e=>E6 e,NZ (HQ _ _),trivial,λb hb=>absurd (show b∈([]:List Addr)from hb) (by simp),hok,.of_eq hg⟩;refine codeAny_mono ((F _ hKb (nsK hns)).run callerA [] s₁ H ⟨[.ref a],[]⟩ [.ref a] [.ref a] _ _ hr e0 (hbind s₁ (.ref a)) (.cons rfl .nil) (hsp H hO hS)) λr s' h=>?_
  cases r with
  |error e=>exact(hCX H e s' h).elim
  |ok fl =>
   cases fl with
   |next=>exact False.elim h
   |brk=>exact False.elim h
   |cont=>exact False.elim h
   |ret u =>
    obtain⟨v,H',os,bare,un,hok',r',q⟩:=h;have q':v=.bl true:=q;subst q';obtain rfl:u=Value.bool true:=r';refine⟨rfl,OldK.of_keep λb o e=>?_,os,bare⟩;cases q:H b with
    |none=>exact un.keep b o e q (by intro z;exact absurd (show b∈([]:List Addr)from z) (by simp)) (by simp)
    |some u =>
     rcases hO b with z |⟨ob,xs,z⟩
     ·rw[q]at z;cases z
     ·have z2:=un.frzs b ob _ z;obtain⟨e1,_⟩:=hok b _ z;obtain⟨e2,_⟩:=hok' b _ z2;rw[e]at e1;cases e1;exact e2
 cases hk:K.lookup a with
 |some o =>have e:=KX a o hk;rw[ha]at e;cases e;refine core (λ_=>none) (λ_=>.inl rfl) (.inr ⟨_,vs.toArray,_,hk,rfl,rfl,rfl,by rw[Nv,lenV];exact hl,by simpa using rv⟩) (λb u z=>by have z':(none:Option HO)=some u:=z;cases z') (λb z=>absurd rfl z) λz=>absurd rfl z
 |none =>
  refine core (λb=>if b=a then some (.frz { cls:=.type "list",data:=.seq vs.toArray } (.lst (ns.map V.int)))else none) (λb=>?_) (.inl (.inr ⟨{ cls:=.type "list",data:=.seq vs.toArray },if_pos rfl⟩)) (λb u z=>?_) (λb z=>?_) λ_=>hk
  ·by_cases hb:b=a
   ·exact .inr ⟨_,_,if_pos hb⟩
   ·exact .inl (if_neg hb)
  ·by_cases hb:b=a
   ·have z':=(if_pos hb).symm.trans z;cases z';subst hb;exact⟨ha,by rw[Nh];exact hl,vs,_,rv,ha⟩
   ·have z':=(if_neg hb).symm.trans z;cases z'
  ·by_cases hb:b=a
   ·exact hb
   ·exact absurd (if_neg hb) z
theorem walk_of{l:PySem.W.OpenLaw}{n k:Nat}{q:Program}{loose:List Str}{XP:(Str->Option Value)->Heap->Prop}{YP:World->Heap->Prop}{d:DefRec}{K:Params->PySem.W.Frag}{CX:World->CXT}{sp:World->Sp}{x:Str}
 (hn:l.most=some n) (hn2:n<=sizeLine) (hdf:d.params.defaults=[]) (hr:Room k callerA)
 (hY:∀(w:World) (h:Heap),YP w h->(K w.params).In h)
 (F:∀(w:World) (mg:Str->Option Value) (fa:Addr) (h:Heap),(K w.params).In h->h.Ns mainGlobals mg->mg d.name=some (.ref fa) ->
   ∃fd:FuncData,(∀(s:Shared) (u:Value),BindsTo s fd ⟨[u],[]⟩ [(x,u)]) /\
    ∀base:Heap,(K w.params).In base->base.Ns mainGlobals mg->FnOk l.prog w (K w.params) mg base (CX w) k fa fd [x] (sp w))
 (hsp:∀(w:World) (H:Hp) (a:Addr) (ns:List Int),ns.length<=n->uQ H->SqL (K w.params) H a (ns.map V.int)->sp w [.ref a] H (λv _=>v=.bl true) λ_ _ _=>False)
 (hCX:∀(w:World) (H:Hp) (s:Shared) (e:Value) (s':Shared),CX w [] H s (λ_ _ _=>False) e s'->False) :
 PySem.W.WalkO q loose XP YP l.row.toRowW d [] (λf vs=>PySem.call f vs):=by
 refine Att.attach_call hn hdf λw s₀ s₁ mg mb fa o pm cd doc a vs ns G Y ho hd hcd hmg hobj hints hlen hg=>?_
 have KX:=hY w _ Y;obtain⟨fd,hb,hF⟩:=F w mg fa _ KX G.T.g hmg;exact GN KX G.T.g G.T.b G.T.builtins G.T.nolimit hg hobj hints (Nk hlen hn2) hr hF hb (λH hO hS=>hsp w H a ns hlen hO hS) λH e s'=>hCX w H s₁ e s'
noncomputable def bp(s:Stmt)(j:Nat):Stmt:=match s with
 |.ClassDef _ _ _ body _ _ _ _ _ _ _=>body.getD j (.Pass ⟨0,0,0,0⟩)
 |_=>.Pass ⟨0,0,0,0⟩
noncomputable def az(s:Stmt):Arguments:=match s with
 |.FunctionDef _ a _ _ _ _ _ _ _ _=>a
 |_=>{ posonlyargs:=[],args:=[],vararg:=none,kwonlyargs:=[],kw_defaults:=[],kwarg:=none,defaults:=[] }
noncomputable def ax(s:Stmt):List Stmt:=match s with
 |.FunctionDef _ _ b _ _ _ _ _ _ _=>b
 |_=>[]
noncomputable def ag(s:Stmt):Scope:=match s with
 |.FunctionDef _ _ _ _ _ _ sc _ _ _=>sc
 |_=>{ kind:=.function,names:=[],isGenerator:=false,isCoroutine:=false }
abbrev CX0:CXT:=λ_ _ _ _ _ _=>False
abbrev E0:XK:=λ_ _ _=>False
theorem am{X:Cx}:gD CX0 X E0:=λ_ _ _ _ _ _ _ h=>h.elim
structure Fun(K:PySem.W.Frag)(x qual:Str)(st:Stmt)(f:Addr)(fd:FuncData):Prop where
 ex:∃(oc:Value) (od:Option Addr) (kV doc pm:Value) (an:Option Addr) (cdv ct:Value) (osl:Array (Option Value)),
  fd=PySem.W.fnOf x qual (az st) (ax st) (ag st) .none kV doc pm an cdv ct/\K.lookup f=some ⟨oc,od,.func fd,osl⟩/\PySem.W.codeIn K cdv qual=true
 kp:PySem.W.keepIn K (.ref f)=true
section
variable {P:Program}{w:World}{K:PySem.W.Frag}{mg:Str->Option Value}{base:Heap}
theorem Fun.ok{x qual:Str}{st:Stmt}{f:Addr}{fd:FuncData}{N ps:List Str}{k:Nat}{sp:Sp}(F:Fun K x qual st f fd)(S:FnScope N ps (ag st))(len:∀vs H Q E,sp vs H Q E->vs.length=ps.length)
 (hbody:∀(cdv:Value) (A:Around) (outer:List Env) (s:Shared) (H:Hp) (vs:List V) (Q:VK) (E:XK),Room k (A.deeper (envOfC qual (ag st) s.heap.objs.size f cdv))->sp vs H Q E ->
   ∃t,PSs (bz CX0 P w K mg base N qual (ag st) f cdv A outer s H E).nox (ax st) t/\t { nx:=λ_ H'=>Q .non H',rt:=Q } (start N vs) H):FnOk P w K mg base CX0 (k+1) f fd ps sp:=by
 obtain⟨oc,od,kV,doc,pm,an,cdv,ct,osl,rfl,lk,hcd⟩:=F.ex;refine qg lk hcd S len λA outer s H vs Q E hr hsp=>?_
 obtain⟨t,h,q⟩:=hbody cdv A outer s H vs Q E hr hsp;exact⟨t,h.nox,q⟩
theorem Fun.binds{x qual:Str}{st:Stmt}{f:Addr}{fd:FuncData}{ps:List Str}(F:Fun K x qual st f fd)
 (h:∀(kV doc pm:Value) (an:Option Addr) (cdv ct:Value) (us:List Value),us.length=ps.length->bindArgs (PySem.W.fnOf x qual (az st) (ax st) (ag st) .none kV doc pm an cdv ct) ⟨us,[]⟩=pure (ps.zip us)):Binds K fd ps []:=by
 obtain⟨oc,od,kV,doc,pm,an,cdv,ct,osl,rfl,lk,hcd⟩:=F.ex;exact .all (h kV doc pm an cdv ct)
theorem aB{x qual:Str}{st:Stmt}{f:Addr}{oc:Value}{od an:Option Addr}{osl:Array (Option Value)}{kV doc pm cdv ct:Value}(l:K.lookup f=some ⟨oc,od,.func (PySem.W.fnOf x qual (az st) (ax st) (ag st) .none kV doc pm an cdv ct),osl⟩)
 (c:PySem.W.codeIn K cdv qual=true) (k:PySem.W.keepIn K (.ref f)=true):Fun K x qual st f (PySem.W.fnOf x qual (az st) (ax st) (ag st) .none kV doc pm an cdv ct):=⟨⟨oc,od,kV,doc,pm,an,cdv,ct,osl,rfl,l,c⟩,k⟩
end
section
variable {X:Cx}
theorem pv(i:Nat){x:Str}{pos:Pos}(hN:X.N[i]?=some x:=by rfl)(hv:Vis X.env.scope x:=by first |exact Or.inl rfl |exact Or.inr (Or.inl rfl) |exact Or.inr (Or.inr rfl))(hd:(x == ("__debug__":Str))=false:=by decide)
 (hcd:(x == ("__classdict__":Str))=false:=by decide):PE X (.Name x pos) (vB i):=Dq hN hv hd hcd
end
def Same(H H':Hp):Prop:=∀b o,H b=some o->H' b=some o
theorem Same.refl(H:Hp):Same H H:=λ_ _ h=>h
theorem Same.trans{H H1 H2:Hp}(a:Same H H1)(b:Same H1 H2):Same H H2:=λc o h=>b c o (a c o h)
theorem Same.free{H H':Hp}(e:Same H H'){l:Addr}(h:H' l=Option.none):H l=Option.none:=by
 cases q:H l with
 |none=>rfl
 |some o =>rw[e l o q]at h;cases h
theorem Same.seq{K:PySem.W.Frag}{H H':Hp}{a:Addr}{xs:List V}(e:Same H H')(h:SqL K H a xs):SqL K H' a xs:=by
 rcases h with(h |⟨o,h⟩) |h
 ·exact .inl (.inl (e _ _ h))
 ·exact .inl (.inr ⟨o,e _ _ h⟩)
 ·exact .inr h
end L2
set_option maxHeartbeats 4000000
namespace L2
open PySem PySem.Spec PyProof.Rows
noncomputable def gZ(X:Cx)(N:List Str)(scope:Scope)(cl:List (Str×Addr))(C:Addr)(s₀:Shared)(H₀:Hp)(ex:List Addr):Cx where
 prog:=X.prog
 w:=X.w
 K:=X.K
 mg:=X.mg
 base:=X.base
 A:=X.A
 N:=N
 s₀:=s₀
 H₀:=H₀
 env:=compEnvC scope cl C X.env
 outer:=X.stack
 stack:=X.stack
 ex:=ex
 fn:=λ_=>false
 calm:=X.calm
 pn:=[]
 xe:=λ_ _=>False
structure CompOk(X:Cx)(fr:List Str)(js:List Nat)(scope:Scope)(cl:List (Str×Addr)):Prop where
 clos:closureFor scope X.env=pure cl
 cell:∀y∈scope.names,y.2≠.cell
 kind:scope.kind=.function
 names:∀y∈scope.names,y.2=.local->scope.names.lookup y.1=some .local
 clin:∀p∈cl,X.env.cells.lookup p.1=some p.2
 has:scope.names.all (λp=>p.2 != .free || (cl.lookup p.1).isSome)=true
 fre:Paired (λ(x:Str) (j:Nat)=>X.N[j]?=some x/\(X.env.scope.names.lookup x=some .cell\/X.env.scope.names.lookup x=some .free)/\scope.names.lookup x=some .free) fr js
theorem rD{env:Env}{x:Str}{k':NameKind}:∀{names:List (Str×NameKind)},
 (names.map λ(n,k)=>if(k == NameKind.free&&env.scope.kind == .function&&env.kindOf n == some .cell)then(n,NameKind.cell)else(n,k)).lookup x=some k' ->
 ∃k,names.lookup x=some k/\(k'=k\/(k=.free/\k'=.cell))
 | [],h=>by simp at h
 | (n,k)::r,h=>by
  have ih:=@rD env x k' r;change List.lookup x ((if(k == NameKind.free&&env.scope.kind == .function&&env.kindOf n == some .cell)=true then(n,NameKind.cell)else(n,k))::_)=_ at h
  by_cases hc:(k == NameKind.free&&env.scope.kind == .function&&env.kindOf n == some .cell)=true
  ·rw[if_pos hc]at h;cases hx:x == n with
   |true =>simp only[NS,hx]at h ⊢;cases h;refine⟨k,rfl,.inr ⟨?_,rfl⟩⟩;simp only[Np,beq_iff_eq]at hc;exact hc.1.1
   |false =>simp only[NS,hx]at h ⊢;exact ih h
  ·rw[if_neg hc]at h;cases hx:x == n with
   |true =>simp only[NS,hx]at h ⊢;cases h;exact⟨_,rfl,.inl rfl⟩
   |false =>simp only[NS,hx]at h ⊢;exact ih h
theorem wa{env:Env}{x:Str}:∀{names:List (Str×NameKind)},names.lookup x=some .free ->
 (names.map λ(n,k)=>if(k == NameKind.free&&env.scope.kind == .function&&env.kindOf n == some .cell)then(n,NameKind.cell)else(n,k)).lookup x=some .cell \/
 (names.map λ(n,k)=>if(k == NameKind.free&&env.scope.kind == .function&&env.kindOf n == some .cell)then(n,NameKind.cell)else(n,k)).lookup x=some .free
 | [],h=>by simp at h
 | (n,k)::r,h=>by
  have ih:=@wa env x r;show List.lookup x ((if(k == NameKind.free&&env.scope.kind == .function&&env.kindOf n == some .cell)=true then(n,NameKind.cell)else(n,k))::_)=_\/List.lookup x ((if(k == NameKind.free&&env.scope.kind == .function&&env.kindOf n == some .cell)=true then(n,NameKind.cell)else(n,k))::_)=_;by_cases hc:(k == NameKind.free&&env.scope.kind == .function&&env.kindOf n == some .cell)=true
  ·rw[if_pos hc];cases hx:x == n with
   |true=>simp only[NS,hx];exact .inl trivial
   |false=>simp only[NS,hx]at h ⊢;exact ih h
  ·rw[if_neg hc];cases hx:x == n with
   |true =>simp only[NS,hx]at h ⊢;cases h;exact .inr rfl
   |false=>simp only[NS,hx]at h ⊢;exact ih h
noncomputable def iM(n:Nat)(js:List Nat)(σ:St):St:=List.replicate n none++js.map λj=>(σ[j]?).join
def u9(n:Nat)(js:List Nat)(g:TG)(te:TE)(σ:St)(Q:VK)(J:It)(H1:Hp):Prop:=∃W:Nat->Nat->List V->St->Hp->Prop,(∃m,W 0 m [] (iM n js σ) H1) /\
 ∀i m ys σ' H',W i m ys σ' H' ->
  (J.stop i H'/\∀p,H' p=none->Q (.ref p) (upd H' p (.lst ys))) \/
  (J.go i H'/\ys.length<sizeLine/\∃N:V->St->Hp->Prop,(∀y σ'' H'',N y σ'' H''->∃m',m'<m/\W (i+1) m' (ys++[y]) σ'' H'')/\∀x H2,J.yld i H' x H2->g x σ' H2 λσ3 H3=>te σ3 H3 λy H4=>N y σ3 H4)
def Bm(n:Nat)(js:List Nat)(wi:TI)(g:TG)(te:TE):TE:=λσ H Q=>wi σ H λJ H1=>u9 n js g te σ Q J H1
noncomputable def Mf(X:Cx)(pins:List (Addr×Obj))(σ:St)(Q:VK)(D C:Addr)(s':Shared):Prop :=
 ∃H2,Inv X pins σ H2 s'/\Q (.ref D) H2/\H2 C=none/\C≠X.env.locals/\X.s₀.heap.objs.size<=C/\(∀x c,X.env.cells.lookup x=some c->c≠C)/\(∀p∈X.pn++pins,p.1≠C)/\∃m,s'.heap.Ns C m
section
variable {X:Cx}{own fr:List Str}{js:List Nat}{scope:Scope}{cl:List (Str×Addr)}{elt target iter:Expr}{pos:Pos}{wi:TI}{g:TG}{te:TE}
theorem hJ(O:CompOk X fr js scope cl){x:Str}{c:Addr}(e:cl.lookup x=some c):X.env.cells.lookup x=some c:=O.clin (x,c) (PySem.mem_of_lookup e)
theorem zr{pins:List (Addr×Obj)}{σ:St}{H:Hp}{s:Shared}{fp:List Addr}{C:Addr}(O:CompOk X fr js scope cl)(I:Inv X pins σ H s)(hC:s.heap.objs.size<=C)(hf:∀b∈fp,fE X pins H b)(ho:∀b∈fp,b<s.heap.objs.size) :
 (gZ X (own++fr) scope cl C s H fp).Ok:=by
 refine⟨I.ok.mod,O.kind,I.ok.glob,I.ok.blt,hC,λx y c h1 h2=>I.ok.inj x y c (hJ O h1) (hJ O h2),λx hx=>?_,λx c h=>(by cases h),I.ok.hd,I.ok.frames,.inl rfl,λb hb=>?_,I.bs,?_,λb o e hb=>?_,λb hb hb'=>?_,I.stack,I.stkFree⟩
 ·have key:scope.names.lookup x=some .free:=by
   have hx':(scope.names.map λ(n,k)=>if(k == NameKind.free&&X.env.scope.kind == .function&&X.env.kindOf n == some .cell)then(n,NameKind.cell)else(n,k)).lookup x=some .cell \/
    (scope.names.map λ(n,k)=>if(k == NameKind.free&&X.env.scope.kind == .function&&X.env.kindOf n == some .cell)then(n,NameKind.cell)else(n,k)).lookup x=some .free:=hx
   rcases hx' with h |h
   ·obtain⟨k,e,z⟩:=rD h;rcases z with z |⟨z,_⟩
    ·subst z;exact absurd rfl (O.cell _ (PySem.mem_of_lookup e))
    ·subst z;exact e
   ·obtain⟨k,e,z⟩:=rD h;rcases z with z |⟨_,z⟩
    ·subst z;exact e
    ·cases z
  have hm:=ND.mp O.has _ (PySem.mem_of_lookup key);have hs:(cl.lookup x).isSome=true:=by simpa using hm
  exact N8.mp hs
 ·obtain⟨f0,f1,f2,f3,f4,f5⟩:=hf b hb;exact⟨Nt (Nm (ho b hb) hC),λx c e=>f4 x c (hJ O e)⟩
 ·exact Nk I.ok.bsz I.sz
 ·obtain⟨f0,f1,f2,f3,f4,f5⟩:=hf b hb;rcases f3 with z |z
  ·exact I.ok.noex b o e z
  ·exact absurd (Nm (Heap.lt_size e) (Nk I.ok.bsz z)) (NA _)
 ·obtain⟨f0,f1,f2,f3,f4,f5⟩:=hf b hb;rcases Ni.mp (I.stkSub b hb')with z |z
  ·exact f1 z
  ·exact f2 z
theorem Paired.idx{α β:Type}{F:α->β->Prop}:∀{l₁:List α} {l₂:List β},Paired F l₁ l₂->∀(i:Nat) (a:α) (b:β),l₁[i]?=some a->l₂[i]?=some b->F a b
 |_,_,.nil,_,_,_,h,_=>by simp at h
 |_,_,.cons r _,0,a,b,h1,h2=>by simp at h1 h2;subst h1;subst h2;exact r
 |_,_,.cons _ t,i+1,a,b,h1,h2=>Paired.idx t i a b (by simpa using h1) (by simpa using h2)
theorem JY{pins:List (Addr×Obj)}{σ:St}{H:Hp}{s s':Shared}{fp:List Addr}{C:Addr}{m:Str->Option Value}(O:CompOk X fr js scope cl)(hl:fr.length=js.length)(I:Inv X pins σ H s)(hC:s.heap.objs.size<=C)(hf:∀b∈fp,fE X pins H b)
 (ho:∀b∈fp,b<s.heap.objs.size) (os:s'.os=s.os) (hg:s'.gens=s.gens) (old:∀b o,s.heap.get? b=some o->s'.heap.get? b=some o) (hn:s'.heap.Ns C m) :
 Inv (gZ X (own++fr) scope cl C s H fp) [] (iM own.length js σ) H s':=by
 refine⟨zr O I hC hf ho,os,by rw[hg];exact I.bare,Un.kept old,⟨m,hn,λi x v e1 e2 e3=>?_⟩,λx c e=>?_,I.hok.fresh hC,λx c e=>I.freeC x c (hJ O e),λp hp=>absurd (show p∈([]:List (Addr×Obj))from hp) (by simp),I.hok.kept old,?_⟩
 ·unfold iM at e2
  have e1':(own++fr)[i]?=some x:=e1;by_cases hi:i<own.length
  ·rw[List.getElem?_append_left (by simpa using hi),List.getElem?_replicate]at e2;split at e2<;>cases e2
  ·have hi':own.length<=i:=Oc hi;rw[List.getElem?_append_right (by simpa using hi'),Nw,List.getElem?_map]at e2;rw[List.getElem?_append_right hi']at e1';cases ej:js[i-own.length]? with
   |none=>rw[ej]at e2;cases e2
   |some j =>
    rw[ej]at e2;have e2':(σ[j]?).join=some v:=Option.some.inj e2
    have eσ:σ[j]?=some (some v):=by
     cases q:σ[j]? with
     |none=>rw[q]at e2';cases e2'
     |some o=>rw[q]at e2';simp at e2';rw[e2']
    obtain⟨hN,hk,hs⟩:=Paired.idx O.fre _ x j e1' ej;obtain⟨mo,hmo,hlo⟩:=I.loc;have vis:Vis X.env.scope x:=hk.elim (λz=>.inr (.inl z)) λz=>.inr (.inr z)
    obtain⟨u,r,l⟩:=hlo j x v hN eσ vis;refine⟨u,r,.inr ⟨wa hs,?_⟩⟩;have hm:=ND.mp O.has _ (PySem.mem_of_lookup hs);have hs':(cl.lookup x).isSome=true:=by simpa using hm
    obtain⟨c,ec⟩:=N8.mp hs';refine⟨c,ec,?_⟩;rcases l with⟨k,_⟩ |⟨_,c',e',z⟩
    ·have k':X.env.scope.names.lookup x=some .local:=k;rcases hk with q |q<;>(rw[q]at k';cases k')
    ·have:=hJ O ec;rw[e']at this;cases this;obtain⟨oc,hoc,hd⟩:=z;exact⟨oc,old _ _ hoc,hd⟩
 ·obtain⟨v,oc,hoc,hd⟩:=I.cell x c (hJ O e);exact⟨v,oc,old _ _ hoc,hd⟩
 ·unfold iM;show _=(own++fr).length;rw[Nf,Nf,Nw,Nh,hl]
theorem Un.adopt{fs ex:List Addr}{H H1:Hp}{h h1:Heap}{a:Addr}{o:HO}(u:Un fs ex H H1 h h1)(ha:h.objs.size<=a)(hn:H a=none):Un fs ex H (upd H1 a o) h h1 where
 keep:=u.keep
 slot:=u.slot
 free:=λb ob q n hx=>by rw[upd_ne (Nt (Nm (Heap.lt_size q) ha))];exact u.free b ob q n hx
 there:=u.there
 tups:=λb xs q=>by rw[upd_ne (bj q hn)];exact u.tups b xs q
 frzs:=λb ob xs q=>by rw[upd_ne (bj q hn)];exact u.frzs b ob xs q
 tbls:=λb ps q=>by rw[upd_ne (bj q hn)];exact u.tbls b ps q
theorem HOk.adopt{P:Program}{w:World}{H:Hp}{h:Heap}{a:Addr}{o:HO}(x:HOk P w H h)(hn:H a=none)(new:ObjOk P w (upd H a o) h a o):HOk P w (upd H a o) h:=λb u e=>by
 by_cases hb:b=a
 ·subst hb;rw[aj]at e;cases e;exact new
 ·rw[upd_ne hb]at e;exact(x b u e).stay (λc v _ q=>q) (λc q=>by rw[upd_ne (bj q hn)];exact q) λc xs q=>by rw[upd_ne (bj q hn)];exact q
theorem J6{pins:List (Addr×Obj)}{σ:St}{H:Hp}{s:Shared}{fp:List Addr}{it:Addr}{tn:Nat->Heap->Prop}{J:It}{E:Value->Shared->Prop}{Q:VK}{RR:Value->Addr->Result->Shared->Prop}(O:CompOk X fr js scope cl)(hl:fr.length=js.length)(hcm:X.calm=true)
 (I:Inv X pins σ H s) (T:Turn X.prog X.w X.K target J fp it tn) (st:tn 0 s.heap) (hf:∀b∈fp,fE X pins H b)
 (hg:∀C s₀ H₀ ex,PG (gZ X (own++fr) scope cl C s₀ H₀ ex) target g) (he:∀C s₀ H₀ ex,PE (gZ X (own++fr) scope cl C s₀ H₀ ex) elt te)
 (W:Nat->Nat->List V->St->Hp->Prop) {m0:Nat} (w0:W 0 m0 [] (iM own.length js σ) H)
 (turn:∀i m ys σ' H',W i m ys σ' H' ->
   (J.stop i H'/\∀p,H' p=none->Q (.ref p) (upd H' p (.lst ys))) \/
   (J.go i H'/\ys.length<sizeLine/\∃N:V->St->Hp->Prop,(∀y σ'' H'',N y σ'' H''->∃m',m'<m/\W (i+1) m' (ys++[y]) σ'' H'')/\∀x H2,J.yld i H' x H2->g x σ' H2 λσ3 H3=>te σ3 H3 λy H4=>N y σ3 H4))
 (hRR:∀D C s',Mf X pins σ Q D C s'->RR (.ref D) C (.ok .next) s') :
 wpAny (model X.prog X.w) X.A (newList []) (λacc s₃=>wpAny (model X.prog X.w) X.A (newFunctionEnv scope X.env.globals cl [] X.env.qual none .none (some X.env)) (λcenv s₄ =>
  codeAny (model X.prog X.w) X.A (.compStart (.ListComp elt [⟨target,iter,[],0⟩] scope pos) 0 (.ref it) acc { cenv with scope:=relabel scope X.env }) (RR acc cenv.locals) s₄) E s₃) E s:=by
 refine wpAny_newObj_type (wpAny_newFunctionEnv O.cell (by intro y hy;simp at hy) (λh₁ hns₁ hsb₁=>?_) O.kind);dsimp only at hns₁ hsb₁ ⊢
 generalize hH2:s.heap.push { cls:=.type "list",dict:=none,data:=.seq ([]:List Value).toArray }=H2 at hns₁ hsb₁ ⊢
 have hCs:H2.objs.size=s.heap.objs.size+1:=by rw[<- hH2,Heap.size_push]
 have hDC:s.heap.objs.size≠H2.objs.size:=by rw[hCs];exact Nt (Nat.lt_succ_self _)
 have hCge:s.heap.objs.size<=H2.objs.size:=by rw[hCs];exact Nat.le_succ _
 have below:∀b,b<s.heap.objs.size->b≠H2.objs.size/\b≠s.heap.objs.size:=λb hb=>⟨by rw[hCs];exact Nt (Nat.lt_succ_of_lt hb),Nt hb⟩
 have old:∀b o,s.heap.get? b=some o->h₁.get? b=some o:=λb o e=>hsb₁.extBut b o (below b (Heap.lt_size e)).1 (Heap.get?_push_of_some _ (hH2 ▸ Heap.get?_push_of_some _ e))
 have hacc:h₁.get? s.heap.objs.size=some { cls:=.type "list",data:=.seq ([]:List Value).toArray 0 }:=hsb₁.extBut _ _ hDC (Heap.get?_push_of_some _ (hH2 ▸ Heap.get?_push_size _ rfl));have ho:∀b∈fp,b<s.heap.objs.size:=λb hb=>by obtain⟨o,e,_⟩:=T.obj 0 _ st b hb;exact Heap.lt_size e
 generalize hDe:s.heap.objs.size=D at *
 generalize hCe:H2.objs.size=C at *
 let X':Cx:=gZ X (own++fr) scope cl C s H fp
 have ok':X'.Ok:=zr O I (by rw[hDe];exact hCge) hf (by rw[hDe];exact ho)
 have hDfs:D∉X'.fs:=by
  intro z;rcases Ni.mp (I.stkSub D z)with q |q
  ·exact absurd I.lt (by rw[<- q,hDe];exact NA _)
  ·exact I.nofs (NZ hDe) q
 have hDfp:∀b∈fp,D≠b:=λb hb z=>absurd (ho b hb) (by rw[z];exact NA _)
 have hDcell:∀x c,cl.lookup x=some c->c≠D:=λx c e z=>by obtain⟨v,q⟩:=I.cell x c (hJ O e);exact absurd q.lt (by rw[z,hDe];exact NA _)
 have fpok:∀{H':Hp} {pins':List (Addr×Obj)},(∀p∈pins',p.1=D)->(∀b∈fp,H' b=none)->∀b∈fp,fE X' pins' H' b:=λ{H' pins'} hp hn b hb=>by
  obtain⟨f0,f1,f2,f3,f4,f5⟩:=hf b hb;refine⟨hn b hb,(below b (ho b hb)).1,λz=>?_,.inl hb,λx c e=>f4 x c (hJ O e),λp hp'=>?_⟩
  ·rcases Ni.mp (I.stkSub b z)with q |q
   ·exact f1 q
   ·exact f2 q
  ·have hp'':p∈pins':=by simpa[X',gZ]using hp'
   rw[hp p hp''];exact hDfp b hb
 have loop:∀s₃:Shared,s₃={ s with heap:=h₁,toks:=s.toks+([]:List (Str×Value)).length } ->
  codeAny (model X.prog X.w) X.A (.compLoop (.ListComp elt [⟨target,iter,[],0⟩] scope pos) 0 (.ref it) (.ref D) (compEnvC scope cl C X.env)) (RR (.ref D) C) s₃:=by
  rintro s₃ rfl
  refine PySem.W.kcp_loop (λk s'=>∃i σ' H' ys its nn,Inv X' [] σ' H' s'/\tn i s'.heap/\(∀b∈fp,H' b=none)/\H' D=none/\s'.heap.get? D=some { cls:=.type "list",data:=.seq (its:List Value).toArray nn }/\Vals ys its/\ys.length<=sizeLine/\W i k ys σ' H') ?_ m0
   ⟨0,_,H,[],[],0,JY O hl I (by rw[hDe];exact hCge) hf (by rw[hDe];exact ho) rfl rfl (by intro b o e;exact old b o e) hns₁,T.keep _ _ _ st λb _ o e=>old b o e,λb hb=>(hf b hb).1,I.hok.fresh (NZ hDe),hacc,.nil,Nr _,w0⟩
  rintro k s' ⟨i,σ',H',ys,its,nn,I',st',hfn,hDn,hDo,rv,hz,w⟩;have hlen:=rv.length;have hpD:∀p∈[(D,({ cls:=.type "list",data:=.seq its.toArray nn }:Obj))],p.1=D:=λp hp=>by rw[Nu.mp hp]
  have Ip:Inv X' [(D,({ cls:=.type "list",data:=.seq its.toArray nn }:Obj))] σ' H' s':=I'.pins_of λp hp=>by rw[Nu.mp hp];exact⟨hDo,hDn,hDC,hDfs,λv z=>by cases z⟩
  rcases turn i k ys σ' H' w with⟨stop,fin⟩ |⟨go,hlt,N,hN,step⟩
  ·refine wpAny_mono (T.done X' rfl rfl rfl hcm i _ s' σ' H' (λ_ _=>False) Ip (fpok hpD hfn) st' stop) (λr s4 ⟨hr,I4⟩=>?_) λ_ _ z=>False.elim z
   subst hr;refine hRR D C s4 ?_;have hD4:s4.heap.get? D=some { cls:=.type "list",data:=.seq its.toArray nn }:=(I4.pin _ (NH _ (Nu.mpr rfl))).1;have un:Un (frs X.stack) fp H (upd H' D (.lst ys)) s.heap s4.heap:=Un.adopt I4.base (NZ hDe) (I.hok.fresh (NZ hDe));have hok:HOk X.prog X.w (upd H' D (.lst ys)) s4.heap:=HOk.adopt I4.hok hDn ⟨hz,its,nn,rv,hD4⟩;refine⟨upd H' D (.lst ys),I.call' I4.os un hok I4.bare λb hb=>?_,fin D hDn,?_,?_,?_,λx c e z=>?_,λp hp z=>?_,?_⟩
   ·obtain⟨f0,f1,f2,f3,f4,f5⟩:=hf b hb;exact⟨f3,f1,f4,f5⟩
   ·rw[upd_ne (Ne.symm hDC)];exact I4.free
   ·exact Nat.ne_of_gt (Nm I.lt (by rw[hDe];exact hCge))
   ·exact Nk I.sz (by rw[hDe];exact hCge)
   ·obtain⟨v,q⟩:=I.cell x c e;exact absurd (Nm q.lt (by rw[hDe,z];exact hCge)) (NA _)
   ·exact absurd (Nm (Heap.lt_size (I.pin p hp).1) (by rw[hDe,z];exact hCge)) (NA _)
   ·obtain⟨m',hn',_⟩:=I4.loc;exact⟨m',hn'⟩
  ·refine wpAny_mono (T.item X' rfl rfl rfl hcm i _ s' σ' H' (λ_ _=>False) Ip (fpok hpD hfn) st' go) (λr s4 ⟨u,hr,h4⟩=>?_) λ_ _ z=>False.elim z
   subst hr;refine wpAny_mono h4 (λ_ s5 ⟨x,H5,I5,r5,y5,st5,fr5⟩=>?_) λ_ _ z=>False.elim z
   have I5':=I5.pinned (fpok hpD fr5) (T.obj _ _ st5);refine wpAny_mono (hg C s H fp _ s5 σ' H5 x u _ I5' r5 (step x H5 y5)) (λ_ s6 ⟨σ6,H6,I6,q6⟩=>?_) λ_ _ z=>False.elim z
   refine wpAny_mono (he C s H fp _ s6 σ6 H6 _ I6 q6) (λv s7 ⟨y,H7,I7,r7,n7⟩=>?_) λ_ _ z=>False.elim z
   obtain⟨m',hm',w7⟩:=hN y σ6 H7 n7;have hD7:=I7.pin (D,{ cls:=.type "list",data:=.seq its.toArray nn }) (NH _ (List.mem_append_left _ (Nu.mpr rfl)));refine append_at hD7.1 (λh8 sb hD8=>?_) (by rw[Nv,<- hlen];exact hz);have I7':Inv X' [] σ6 H7 s7:=I7.pins_of λp hp=>absurd hp (by simp)
   have I8:Inv X' [] σ6 H7 { s7 with heap:=h8 }:=I7'.turned (t':=s7.toks) (it:=D) (λb o hb e=>(sb.2 b hb).trans e) hD7.2.1 hDC (.inr (NZ hDe)) hDcell (λp hp=>absurd (show p∈([]:List (Addr×Obj))from hp) (by simp));refine⟨m',hm',i+1,σ6,H7,ys++[y],its++[v],nn+1,I8,T.keep _ _ _ st5 λb hb o e=>?_,λb hb=>?_,hD7.2.1,?_,rv.append (.cons r7 .nil),?_,w7⟩
   ·exact(sb.2 b (λz=>hDfp b hb z.symm)).trans (I7.pin (b,o) (NH _ (NH _ (pQ hb e)))).1
   ·obtain⟨o,e,d⟩:=T.obj _ _ st5 b hb;exact(I7.pin (b,o) (NH _ (NH _ (pQ hb e)))).2.1
   ·rw[hD8,List.push_toArray]
   ·rw[Nf,Oi];exact hlt
 exact codeAny_compStart_list (loop _ rfl) (T.self _ 0 _ _ _ (T.keep _ _ _ st λb _ o e=>old b o e) (loop _ rfl))
theorem wO(O:CompOk X fr js scope cl)(hcm:X.calm=true)(hi:PI X target iter wi)(hg:∀C s₀ H₀ ex,PG (gZ X (own++fr) scope cl C s₀ H₀ ex) target g)(he:∀C s₀ H₀ ex,PE (gZ X (own++fr) scope cl C s₀ H₀ ex) elt te)
 (hs:∀x,foldedSetIterable iter X.env x=pure x:=by intro _;rfl):PE X (.ListComp elt [⟨target,iter,[],0⟩] scope pos) (Bm own.length js wi g te):=by
 intro pins s σ H Q I h;rw[eval_ListComp];refine wpAny_comprehension_free (use:=none) rfl hs O.clos O.kind O.names (thn (hi pins s σ H _ I h) λx s1 h1=>thn h1 λitv s2 h2=>?_);obtain⟨it,fp,tn,J,H2,rfl,I2,T,st,hf,W,⟨m0,w0⟩,turn⟩:=h2;refine J6 (RR:=λacc C=>compPost (model X.prog X.w) X.A X.xe none (EP X pins σ Q) acc C) O (Paired.length O.fre) hcm I2 T st hf hg he W w0 turn ?_;rintro D C s' ⟨H3,I3,q,c1,c2,c3,c4,c5,m,hn⟩;exact⟨m,hn,λh' sb=>⟨.ref D,H3,I3.turned (t':=s'.toks) (it:=C) (λb o hb e=>(sb.2 b hb).trans e) c1 c2 (.inr c3) c4 c5,rfl,q⟩⟩
end
theorem J5{k:Nat}{js:List Nat}{lo:Int}{n:Nat}{g:TG}{te:TE}{σ0:St}{H:Hp}{Q:VK}(Pv:Nat->List V->St->Hp->Prop)(hz:n<=sizeLine)(h0:Pv 0 [] (iM k js σ0) H)(hl:∀i ys σ H,i<=n->Pv i ys σ H->ys.length<=i)
 (hs:∀i ys σ H,i<n->Pv i ys σ H->g (.int (lo+i)) σ H λσ2 H2=>te σ2 H2 λy H3=>Pv (i+1) (ys++[y]) σ2 H3) (hd:∀ys σ H p,Pv n ys σ H->H p=none->Q (.ref p) (upd H p (.lst ys))) :
 u9 k js g te σ0 Q (Itr lo n) H:=by
 refine⟨λi m ys σ H=>m=n-i/\i<=n/\Pv i ys σ H,⟨n,by simp,Nr _,h0⟩,?_⟩;rintro i m ys σ H ⟨rfl,hi,p⟩;have hy:=hl i ys σ H hi p;by_cases hlt:i<n
 ·refine .inr ⟨hlt,by omega,λy σ'' H''=>Pv (i+1) (ys++[y]) σ'' H'',λy σ' H' p'=>⟨n-(i+1),by omega,rfl,hlt,p'⟩,λx H' y=>?_⟩;obtain⟨e,y⟩:=y;subst e y;exact hs i ys σ _ hlt p
 ·have e:i=n:=by omega
  subst e;exact .inl ⟨Ng _,λr hr=>hd ys σ H r p hr⟩
def Bits(k:Nat)(i:Int):Prop:=i.natAbs<2^k
theorem Bits.mono{j k:Nat}{i:Int}(h:Bits j i)(hk:j<=k:=by decide):Bits k i:=Nm h (Nat.pow_le_pow_right (by decide) hk)
theorem Bits.mul{j k:Nat}{a b:Int}(ha:Bits j a)(hb:Bits k b):Bits (j+k) (a*b):=by
 unfold Bits at *
 rw[Od,Nat.pow_add];exact Nat.mul_lt_mul_of_lt_of_lt ha hb
theorem Bits.add{k:Nat}{a b:Int}(ha:Bits k a)(hb:Bits k b):Bits (k+1) (a+b):=by
 unfold Bits at *
 have:=Int.natAbs_add_le a b;rw[N0];omega
theorem Bits.neg{k:Nat}{a:Int}(ha:Bits k a):Bits k (-a):=by unfold Bits at *;rwa [Int.natAbs_neg]
theorem Bits.sub{k:Nat}{a b:Int}(ha:Bits k a)(hb:Bits k b):Bits (k+1) (a-b):=by rw[Int.sub_eq_add_neg];exact ha.add hb.neg
theorem Bits.of_le{k:Nat}{a b:Int}(hb:Bits k b)(h:a.natAbs<=b.natAbs):Bits k a:=N1 h hb
theorem Bits.zero{k:Nat}:Bits k 0:=Nat.pow_pos (by decide)
theorem Bits.log{k:Nat}{i:Int}(h:Bits k i)(hk:0<k):i.natAbs.log2<k:=by
 by_cases h0:i.natAbs=0
 ·rw[h0];simpa using hk
 ·exact(Nat.log2_lt h0).mpr h
theorem Bits.int{k:Nat}{i:Int}(h:Bits k i)(hk:k<=1000000):Builtin.Int.intBits i<=2^20:=by
 have e:(2:Nat)^20=1048576:=by decide
 unfold Builtin.Int.intBits;split
 ·exact Nr _
 ·rename_i hn
  have h0:i.natAbs≠0:=by intro z;have:i=0:=Int.natAbs_eq_zero.mp z;exact hn (by simp[this])
  have:=(Nat.log2_lt h0).mpr h;omega
section
variable {X:Cx}{a b:Expr}{ta tb:TE}{pos:Pos}
def MO(i j:Int):Prop:=Bits 1000000 i/\Bits 1000000 j
theorem pG:OpR X (binaryOp .Mult) (rI MO λi j=>.int (i*j)):=opI λ_ _ _ _ _ _ _ hc q=>mul_int q (.of_bits (hc.1.int (Ng _)) (hc.2.int (Ng _)))
theorem bD:OpR X (binaryOp .Mod) (rI (λ_ j=>0<j) λi j=>.int (i%j)):=DB
def MP(_ j:Int):Prop:=0<j/\Bits 9000 j
theorem cX:OpR X (binaryOp .FloorDiv) (rI MP λi j=>.int (i/j)):=opI λi j _ _ _ _ _ hc q=>by refine floordiv_int (Int.ne_of_gt hc.1) ?_ (.inl (PyProof.noPylong_of_log2 (hc.2.log (by decide))));rw[Int.fdiv_eq_ediv_of_nonneg _ (Int.le_of_lt hc.1)];exact q
def MQ(_ j:Int):Prop:=j≠0/\Bits 9000 j
theorem xf:OpR X (binaryOp .FloorDiv) (rI MQ λi j=>.int (i.fdiv j)):=opI λ_ _ _ _ _ _ _ hc q=>floordiv_int hc.1 q (.inl (PyProof.noPylong_of_log2 (hc.2.log (by decide))))
theorem bM:OpR X (compareOp .Eq) (rI0 λi j=>.bl (decide (i=j))):=lC λ_ _ _ _ _ _ _ q=>eq_int (by rw[Bool.beq_eq_decide_eq];exact q)
theorem w9:OpR X (compareOp .NotEq) (rI0 λi j=>.bl (!decide (i=j))):=lC λ_ _ _ _ _ _ _ q=>ne_int (by rw[bne,Bool.beq_eq_decide_eq];exact q)
def wq(K:PySem.W.Frag):R2:=λx y H Q=>∃(a b:Addr) (ns ms:List Int),x=.ref a/\y=.ref b/\SqL K H a (ns.map V.int)/\SqL K H b (ms.map V.int)/\Q (.bl (decide (ns=ms))) H
theorem DE(hu:X.A.units+64<cLine):OpR X (compareOp .Eq) (wq X.K):=by intro pins s σ H x y v u Q I rx ry h;obtain⟨a,b,ns,ms,rfl,rfl,ha,hb,q⟩:=h;cases rx;cases ry;obtain⟨i1,r1,p1,_⟩:=I.list ha;obtain⟨i2,r2,p2,_⟩:=I.list hb;exact PySem.W.eq_intsK p1.isList (yH r1) p2.isList (yH r2) hu ⟨.bl _,H,I,rfl,q⟩
noncomputable def iu(K:PySem.W.Frag):List V->Hp->VK->Prop:=λxs H Q=>∃(x:V) (t c:Value) (n:V) (k:Bool),xs=[x,n]/\RelV n c/\(∀u,RelV n u->u=c)/\TyOf K H x t/\PySem.W.kitOne K t c=some k/\Q (.bl k) H
theorem Kj:cR X (.builtin "isinstance") (iu X.K):=by intro pins s σ H xs us Q I r h;obtain⟨x,t,c,n,k,rfl,rn,hn,ty,e,q⟩:=h;obtain⟨u1,u2,rfl,r1,r2⟩:=r.two;obtain rfl:=hn u2 r2;exact Ho I r1 ty e λtk=>⟨.bl k,H,I.tok tk,rfl,q⟩
theorem tz{K:PySem.W.Frag}{H:Hp}{Q:VK}{x:V}{n:String}{t:Value}{k:Bool}(ty:TyOf K H x t)(e:PySem.W.kitOne K t (.type n)=some k)(q:Q (.bl k) H):iu K [x,.ty n] H Q :=
 ⟨x,t,.type n,.ty n,k,rfl,rfl,λ_ h=>h,ty,e,q⟩
theorem yE{K:PySem.W.Frag}{H:Hp}{Q:VK}{x:V}{C:Addr}{t:Value}{k:Bool}(ty:TyOf K H x t)(e:PySem.W.kitOne K t (.ref C)=some k)(q:Q (.bl k) H):iu K [x,.ref C] H Q :=
 ⟨x,t,.ref C,.ref C,k,rfl,rfl,λ_ h=>h,ty,e,q⟩
end
section
variable {D:Ends}{σ:St}{H:Hp}{Q:VK}{t u:TS}{te ta tb:TE}{c:TT}{i:Nat}{v:V}{r:R2}
theorem mO(P:St->Hp->Prop)(h1:∀σ' H',P σ' H'->u D σ' H')(h2:(∀σ' H',P σ' H'->u D σ' H')->t { D with nx:=u D } σ H):bH t u D σ H:=h2 h1
theorem cU(P:St->Hp->Prop)(h:P σ H)(h1:∀σ' H',P σ' H'->u D σ' H'):u D σ H:=h1 σ H h
theorem aN(h:te σ H λx H1=>u D (σ.set i (some x)) H1):bH (io te (iN i)) u D σ H:=h
theorem df(h:te σ H λ_ H1=>u D σ H1):bH (qF te) u D σ H:=h
theorem aD{t1:TS}(h:c σ H λb H1=>if b=true then t1 { D with nx:=u D } σ H1 else u D σ H1):bH (mF c t1 qE) u D σ H:=h
theorem cT{K:PySem.W.Frag}{n:V}(h:ta σ H λx H1=>iu K [x,n] H1 Q):tCB (iu K) (ey ta (ey (tC n) mE)) σ H Q:=h
theorem cA{t1 t2:TS}(P:St->Hp->Prop)(h1:∀σ' H',P σ' H'->u D σ' H')(h2:(∀σ' H',P σ' H'->u D σ' H')->c σ H λb H1=>if b=true then t1 { D with nx:=u D } σ H1 else t2 { D with nx:=u D } σ H1):bH (mF c t1 t2) u D σ H:=h2 h1
theorem cp(h:te σ H λx H1=>D.nx (σ.set i (some x)) H1):io te (iN i) D σ H:=h
theorem au(h:te σ H D.rt):qD te D σ H:=h
theorem pA(h:te σ H λ_ H1=>D.nx σ H1):qF te D σ H:=h
theorem py(h:D.nx σ H):qE D σ H:=h
theorem dA(h:c σ H λb H1=>if b=true then t D σ H1 else u D σ H1):mF c t u D σ H:=h
theorem wc{K:Bool->Hp->Prop}(h:te σ H λx H'=>∃k,x=.bl k/\K k H'):tB te σ H K:=h
theorem ba{K:Bool->Hp->Prop}{b:Bool}(h:K b H):∃k,V.bl b=.bl k/\K k H:=⟨b,rfl,h⟩
theorem gJ{K:Bool->Hp->Prop}{tt:TT}(h:tt σ H λk H1=>K (!k) H1):vF tt σ H K:=h
theorem bQ{K:Bool->Hp->Prop}{t1 t2:TT}(h:t1 σ H λk H1=>if k=true then t2 σ H1 K else K false H1):qH t1 t2 σ H K:=h
theorem cq(h:ta σ H λx H1=>∃k,x=.bl k/\if k=true then tb σ H1 Q else Q (.bl false) H1):vI ta tb σ H Q:=h
theorem gI(h:ta σ H λx H1=>∃k,x=.bl k/\if k=true then Q (.bl true) H1 else tb σ H1 Q):vD ta tb σ H Q:=h
theorem rE(h:ta σ H λx H1=>∃k,x=.bl k/\Q (.bl (!k)) H1):vE ta σ H Q:=h
theorem aJ{A B:Prop}(h:A):if true=true then A else B:=by rw[if_pos rfl];exact h
theorem aI{A B:Prop}(h:B):if false=true then A else B:=by rw[if_neg Nn];exact h
theorem aC{p A B:Prop}[Decidable p](h1:p->A)(h2:¬p->B):if decide p=true then A else B:=by
 by_cases hp:p
 ·rw[if_pos (decide_eq_true hp)];exact h1 hp
 ·rw[if_neg (by rw[decide_eq_false hp];exact Nn)];exact h2 hp
theorem lm{p A B:Prop}[Decidable p](h1:¬p->A)(h2:p->B):if(!decide p)=true then A else B:=by
 by_cases hp:p
 ·rw[if_neg (by rw[decide_eq_true hp];exact Nn)];exact h2 hp
 ·rw[if_pos (by rw[decide_eq_false hp];rfl)];exact h1 hp
end
structure Cal(P:Program)(w:World)(K:PySem.W.Frag)(mg:Str->Option Value)(base:Heap)(k:Nat)(x:Str)(ps:List Str)(sp:Sp)(f:Addr)(fd:FuncData):Prop where
 ok:FnOk P w K mg base CX0 k f fd ps sp
 mg:mg x=some (.ref f)
 kp:PySem.W.keepIn K (.ref f)=true
 bd:Binds K fd ps []
theorem Same.upd_new{H:Hp}{p:Addr}{o:HO}(h:H p=none):Same H (upd H p o):=λb u e=>by rw[upd_ne (bj e h)];exact e
theorem Same.then_new{H H1:Hp}{p:Addr}{o:HO}(s:Same H H1)(h:H1 p=none):Same H (upd H1 p o):=s.trans (Same.upd_new h)
theorem Same.ne{H H1:Hp}{a p:Addr}{o:HO}(s:Same H H1)(e:H a=some o)(h:H1 p=none):a≠p:=bj (s a o e) h
section
variable {X:Cx}{K:PySem.W.Frag}
theorem aH(h:X.K=K):IxR X (wl K):=by subst h;exact Hn
theorem yC(h:X.K=K):IxR X (wk K):=by subst h;exact Hm
theorem vS(h:X.K=K):SlR X (rG K):=by subst h;exact BB
noncomputable def CU(K:PySem.W.Frag):List V->Hp->VK->Prop:=λxs H Q=>∃p ys,xs=[.ref p]/\(SqL K H p ys\/SqT K H p ys)/\Q (.int ys.length) H
theorem fC(h:X.K=K):cR X (.builtin "len") (CU K):=by subst h;exact Ki
noncomputable def CT(K:PySem.W.Frag):List V->Hp->VK->Prop:=λxs H Q=>∃p ys,xs=[.ref p]/\(SqL K H p ys\/SqT K H p ys)/\∀l,H l=none->Q (.ref l) (upd H l (.lst ys))
theorem Kh(h:X.K=K):cR X (.type "list") (CT K):=by subst h;exact Kg
theorem DD(h:X.K=K)(hu:X.A.units+64<cLine):OpR X (compareOp .Eq) (wq K):=by subst h;exact DE hu
theorem dM(h:X.K=K):cR X (.builtin "isinstance") (iu K):=by subst h;exact Kj
theorem Dn{tg l:Expr}{tl:TE}(h:X.K=K)(hl:PE X l tl):PI X tg l (yL K tl):=by subst h;exact Do hl
theorem wK{tg l:Expr}{tl:TE}(h:X.K=K)(hl:PE X l tl):PI X tg l (yK K tl):=by subst h;exact Dk hl
theorem aS{e:Expr}{ta:TE}{f:Str}{pos:Pos}(h:X.K=K)(he:PE X e ta)(hb:attributeBase e f X.env (eval e X.env)=eval e X.env):PE X (.Attribute e f pos) (vH K ta f):=by subst h;exact Ds he hb
end
section
variable {X:Cx}
end
section
variable {X:Cx}{tg:Expr}
end
structure FunD(K:PySem.W.Frag)(x qual:Str)(st:Stmt)(dV:Value)(f:Addr)(fd:FuncData):Prop where
 ex:∃(oc:Value) (od:Option Addr) (kV doc pm:Value) (an:Option Addr) (cdv ct:Value) (osl:Array (Option Value)),
  fd=PySem.W.fnOf x qual (az st) (ax st) (ag st) dV kV doc pm an cdv ct/\K.lookup f=some ⟨oc,od,.func fd,osl⟩/\PySem.W.codeIn K cdv qual=true
 kp:PySem.W.keepIn K (.ref f)=true
section
variable {P:Program}{w:World}{K:PySem.W.Frag}{mg:Str->Option Value}{base:Heap}
theorem FunD.ok{x qual:Str}{st:Stmt}{dV:Value}{f:Addr}{fd:FuncData}{N ps:List Str}{k:Nat}{sp:Sp}(F:FunD K x qual st dV f fd)(S:FnScope N ps (ag st))(len:∀vs H Q E,sp vs H Q E->vs.length=ps.length)
 (hbody:∀(cdv:Value) (A:Around) (outer:List Env) (s:Shared) (H:Hp) (vs:List V) (Q:VK) (E:XK),Room k (A.deeper (envOfC qual (ag st) s.heap.objs.size f cdv))->sp vs H Q E ->
   ∃t,PSs (bz CX0 P w K mg base N qual (ag st) f cdv A outer s H E).nox (ax st) t/\t { nx:=λ_ H'=>Q .non H',rt:=Q } (start N vs) H):FnOk P w K mg base CX0 (k+1) f fd ps sp:=by
 obtain⟨oc,od,kV,doc,pm,an,cdv,ct,osl,rfl,lk,hcd⟩:=F.ex;refine qg lk hcd S len λA outer s H vs Q E hr hsp=>?_
 obtain⟨t,h,q⟩:=hbody cdv A outer s H vs Q E hr hsp;exact⟨t,h.nox,q⟩
theorem FunD.binds{x qual:Str}{st:Stmt}{dV:Value}{f:Addr}{fd:FuncData}{ps:List Str}(F:FunD K x qual st dV f fd)
 (h:∀(kV doc pm:Value) (an:Option Addr) (cdv ct:Value) (us:List Value),us.length=ps.length->bindArgs (PySem.W.fnOf x qual (az st) (ax st) (ag st) dV kV doc pm an cdv ct) ⟨us,[]⟩=pure (ps.zip us)):Binds K fd ps []:=by
 obtain⟨oc,od,kV,doc,pm,an,cdv,ct,osl,rfl,lk,hcd⟩:=F.ex;exact .all (h kV doc pm an cdv ct)
theorem FunD.bindsD{x qual:Str}{st:Stmt}{T:Addr}{f:Addr}{fd:FuncData}{ps:List Str}{ds tup:List Value}{o:Obj}{n:Nat}(m:Nat)(F:FunD K x qual st (.ref T) f fd)(lo:K.lookup T=some o)(hs:o.data=.seq tup.toArray n)(hm:m+ds.length=ps.length)
 (h:∀(kV doc pm:Value) (an:Option Addr) (cdv ct:Value) (us:List Value),us.length=m->∃k:Option (Array Value)->Sem (List (Str×Value)),
   bindArgs (PySem.W.fnOf x qual (az st) (ax st) (ag st) (.ref T) kV doc pm an cdv ct) ⟨us,[]⟩=seqItems? (.ref T) >>= k/\k (some tup.toArray)=pure (ps.zip (us++ds))):Binds K fd ps ds:=by
 obtain⟨oc,od,kV,doc,pm,an,cdv,ct,osl,rfl,lk,hcd⟩:=F.ex;intro s us KX hl;rw[Nf]at hl;obtain⟨k,h1,h2⟩:=h kV doc pm an cdv ct us (by omega);exact PySem.W.binds_K (k:=k) KX rfl lo hs h1 h2
theorem Ij{x qual:Str}{st:Stmt}{f:Addr}{oc:Value}{od an:Option Addr}{osl:Array (Option Value)}{dV kV doc pm cdv ct:Value}(l:K.lookup f=some ⟨oc,od,.func (PySem.W.fnOf x qual (az st) (ax st) (ag st) dV kV doc pm an cdv ct),osl⟩)
 (c:PySem.W.codeIn K cdv qual=true) (k:PySem.W.keepIn K (.ref f)=true):FunD K x qual st dV f (PySem.W.fnOf x qual (az st) (ax st) (ag st) dV kV doc pm an cdv ct):=⟨⟨oc,od,kV,doc,pm,an,cdv,ct,osl,rfl,l,c⟩,k⟩
end
structure MCal(P:Program)(w:World)(K:PySem.W.Frag)(mg:Str->Option Value)(base:Heap)(k:Nat)(C:Addr)(m:Str)(ps:List Str)(sp:Sp)(f:Addr)(fd:FuncData):Prop where
 ok:FnOk P w K mg base CX0 k f fd ps sp
 mt:Meth K C m f
 bd:Binds K fd ps []
structure KCal(P:Program)(w:World)(K:PySem.W.Frag)(mg:Str->Option Value)(base:Heap)(k:Nat)(C:Addr)(x:Str)(ps:List Str)(sp:Sp)(f:Addr)(fd:FuncData)(ds:List Value)(dvs:List V):Prop where
 ok:FnOk P w K mg base CX0 k f fd ps sp
 mkr:Mk K C f
 mg:mg x=some (.ref C)
 bd:Binds K fd ps []
 bdD:Binds K fd ps ds
 vd:Vals dvs ds
section
variable {prog:Program}{w:World}{A:Around}{E:Value->Shared->Prop}{s:Shared}
end
section
variable {X:Cx}{K:PySem.W.Frag}
end
noncomputable def CXW(P:Program)(w:World):CXT:=λouter H s E e s'=>∃(ea:Addr) (cls a0:Value) (B:Heap) (H':Hp),e=.ref ea/\s'.os=s.os/\AllBare s'.gens/\Un (frs outer) [] H H' s.heap s'.heap/\HOk P w H' s'.heap /\
 Heap.FlyingW B outer ea cls a0 s'.heap/\(∀b o,s.heap.get? b=some o->b∉frs outer->∃o',s'.heap.get? b=some o'/\B.get? b=some o')/\(∀b x,H' b=some x->∃o',s'.heap.get? b=some o'/\B.get? b=some o')/\H' ea=none/\s.heap.get? ea=none/\E cls none H'
theorem Un.back{fs:List Addr}{H H1:Hp}{h h1 h2:Heap}(u:Un fs [] H H1 h h1)(k:∀b o,h.get? b=some o->b∉fs->∃o',h1.get? b=some o'/\h2.get? b=some o')
 (hf:∀b∈fs,H b=none) (hd:∀b∈fs,∀o,h1.get? b=some o->∀vs,o.data≠.fields vs) (sl:h1.UpToSlots h2):Un fs [] H H1 h h2 where
 keep:=λb o e n hb hx=>by obtain⟨o',e1,e2⟩:=k b o e hb;rw[u.keep b o e n hb hx]at e1;cases e1;exact e2
 slot:=λb o e n hb hx=>by obtain⟨s1,e1⟩:=u.slot b o e n hb hx;obtain⟨s2,e2⟩:=sl b _ e1 (hd b hb _ e1);exact⟨s2,e2⟩
 free:=u.free
 there:=λb o e hx=>by
  by_cases hb:b∈fs
  ·obtain⟨s1,e1⟩:=u.slot b o e (hf b hb) hb hx;obtain⟨s2,e2⟩:=sl b _ e1 (hd b hb _ e1);exact⟨_,e2⟩
  ·obtain⟨o',_,e2⟩:=k b o e hb;exact⟨o',e2⟩
 tups:=u.tups
 frzs:=u.frzs
 tbls:=u.tbls
theorem HOk.back{P:Program}{w:World}{H:Hp}{h h' B:Heap}(x:HOk P w H h)(k:∀b y,H b=some y->∃o',h.get? b=some o'/\B.get? b=some o')(st:B.StaysIn h'):HOk P w H h':=λa o e=>by
 refine(x a o e).stay (λb u hb q=>?_) (λ_ z=>z) λ_ _ z=>z
 have hn:∃y,H b=some y:=by
  rcases hb with rfl |hb
  ·exact⟨_,e⟩
  ·exact⟨_,hb⟩
 obtain⟨y,hy⟩:=hn;obtain⟨o',e1,e2⟩:=k b y hy;rw[q]at e1;cases e1;exact st _ _ e2
theorem E7{P:Program}{w:World}{H:Hp}{h:Heap}{a:Addr}{o:HO}(x:ObjOk P w H h a o):∃u,h.get? a=some u:=by
 induction o with
 |lst xs=>obtain⟨_,_,_,_,e⟩:=x;exact⟨_,e⟩
 |tup xs=>obtain⟨z,its,r,ob,e,c⟩:=x;exact⟨_,e⟩
 |dK kvs=>obtain⟨z,y,vs,r,ob,es,ep,e,c⟩:=x;exact⟨_,e⟩
 |dT kvs=>obtain⟨z,y,xs,r,ob,es,ep,e,c⟩:=x;exact⟨_,e⟩
 |set S n=>obtain⟨ob,es,ep,t,e,c⟩:=x;exact⟨_,e⟩
 |ins C dx fs=>obtain⟨d,z,ne,e,_⟩:=x;exact⟨_,e⟩
 |own y=>obtain⟨ob,e⟩:=x;exact⟨_,e⟩
 |xd fs=>obtain⟨mA,⟨od,es,ep,e,c⟩,r⟩:=x;exact⟨_,e⟩
 |rng lo hi=>obtain⟨t,u,v,e⟩:=x;exact⟨_,e⟩
 |frz ob u ih=>exact⟨_,x.1⟩
 |tbl ps=>exact⟨_,x⟩
 |met f y=>exact⟨_,x⟩
 |ext φ=>obtain⟨p,⟨o,e⟩,st⟩:=x;exact⟨_,e⟩
theorem yS{env:Env}{outer:List Env}{L:Addr}(h:env.frame=some L):frs (env::outer)=L::frs outer:=by unfold frs;rw[Oh,h]
section
variable {P:Program}{w:World}{K:PySem.W.Frag}{mg:Str->Option Value}{base:Heap}{N:List Str}{qual:Str}{scope:Scope}{f:Addr}{cd:Value}{A:Around}{outer:List Env}{s:Shared}{H:Hp}{E:XK}{pins:List (Addr×Obj)}{σ:St}{H1:Hp}{s1:Shared}
theorem Il(I:Inv (bz (CXW P w) P w K mg base N qual scope f cd A outer s H E) pins σ H1 s1):∀b∈frs outer,∀o,s1.heap.get? b=some o->∀vs,o.data≠.fields vs:=λb hb o e=>by obtain⟨_,o',e',hd⟩:=I.funs.mem hb;have e'':s1.heap.get? b=some o':=e';rw[e]at e'';cases e'';exact hd
theorem AC{E':XK}{e:Value}{s2:Shared}(I:Inv (bz (CXW P w) P w K mg base N qual scope f cd A outer s H E) pins σ H1 s1)(h:CXW P w (bz (CXW P w) P w K mg base N qual scope f cd A outer s H E).stack H1 s1 E' e s2)(hE:∀c d H',E' c d H'->E c d H') :
 (bz (CXW P w) P w K mg base N qual scope f cd A outer s H E).xe e s2:=by
 obtain⟨ea,cls,a0,B,H2,rfl,os,bare,un,hok,fl,b1,b2,he,hn,hE'⟩:=h;have J:Inv (bz (CXW P w) P w K mg base N qual scope f cd A outer s H E) pins σ H2 s2:=I.call' os un hok bare (λb hb=>nomatch hb);have hfrm:(envOfC qual scope s.heap.objs.size f cd).frame=some s.heap.objs.size:=rfl;have efr:frs (envOfC qual scope s.heap.objs.size f cd::outer)=s.heap.objs.size::frs outer:=yS hfrm
 have b1':∀b o,s.heap.get? b=some o->b∉frs outer->∃o',s2.heap.get? b=some o'/\B.get? b=some o':=λb o q hb=>by
  obtain⟨o',q'⟩:=I.base.there b o q (λz=>nomatch z);refine b1 b o' q' ?_;show b∉frs (envOfC qual scope s.heap.objs.size f cd::outer);rw[efr];intro z;rcases Ni.mp z with z |z
  ·exact absurd (Heap.lt_size q) (by rw[z];exact NA _)
  ·exact hb z
 refine wpAny_leaves_onW (L:=s.heap.objs.size) I.ok.frames hfrm fl λh'' fl' up=>?_
 refine⟨ea,cls,a0,B,H2,rfl,J.os,J.bare,?_,J.hok.back b2 fl'.1,fl',λb o q hb=>?_,λb x q=>?_,he,?_,hE _ _ _ hE'⟩
 ·exact J.base.back (λb o q hb=>let⟨o',q1,q2⟩:=b1' b o q hb;⟨o',q1,fl'.1 _ _ q2⟩) I.ok.frf (Il J) up
 ·obtain⟨o',q1,q2⟩:=b1' b o q hb;exact⟨o',fl'.1 _ _ q2,q2⟩
 ·obtain⟨o',q1,q2⟩:=b2 b x q;exact⟨o',fl'.1 _ _ q2,q2⟩
 ·cases q:s.heap.get? ea with
  |none=>rfl
  |some o=>obtain⟨o',q'⟩:=I.base.there ea o q (λz=>nomatch z);rw[hn]at q';cases q'
end
section
variable {P:Program}{w:World}{K:PySem.W.Frag}{mg:Str->Option Value}{base:Heap}
end
section
variable {X:Cx}{pins:List (Addr×Obj)}{σ:St}{H1 H2:Hp}{s1 s2:Shared}
theorem zx{B h3:Heap}{ea:Addr}{cls a0:Value}(I:Inv X pins σ H1 s1)(os:s2.os=s1.os)(bare:AllBare s2.gens)(un:Un (frs X.stack) [] H1 H2 s1.heap s2.heap)(hok:HOk X.prog X.w H2 s2.heap)(fl:Heap.FlyingW B X.stack ea cls a0 s2.heap)
 (b1:∀b o,s1.heap.get? b=some o->b∉frs X.stack->∃o',s2.heap.get? b=some o'/\B.get? b=some o') (b2:∀b x,H2 b=some x->∃o',s2.heap.get? b=some o'/\B.get? b=some o') (st:B.StaysIn h3) (up:s2.heap.UpToSlots h3) :
 Inv X pins σ H2 { s2 with heap:=h3 }:=by
 refine I.call' (s':={ s2 with heap:=h3 }) (ch:=[]) os (un.back (λb o q hb=>let⟨o',q1,q2⟩:=b1 b o q hb;⟨o',q1,st _ _ q2⟩) I.stkFree (λb hb o e=>?_) up) (hok.back b2 st) bare (λb hb=>nomatch hb);obtain⟨_,o',e',hd⟩:=fl.2.2.1.mem hb;rw[e]at e';cases e';exact hd
end
section
variable {X:Cx}{CX:CXT}{k:Nat}{f C:Addr}{fd:FuncData}{ps:List Str}{sp:Sp}{dvs:List V}{ds:List Value}{E:XK}{x m:Str}{p pos apos:Pos}{e o:Expr}{es:List Expr}{ta:TE}{t:TA}{pins:List (Addr×Obj)}{σ:St}
def zZ(CX:CXT)(X:Cx)(pins:List (Addr×Obj))(σ:St)(E:XK):Prop:=∀(H:Hp) (s:Shared) (e:Value) (s':Shared),Inv X pins σ H s->CX X.stack H s E e s'->X.xe e s'
theorem Cr{H:Hp}{s:Shared}{Q:VK}{us:List Value}{vs:List V}(F:FnOk X.prog X.w X.K X.mg X.base CX k f fd ps sp)(hr:Room k X.A)(hb:Binds X.K fd ps ds)(hd:Vals dvs ds)(hx:zZ CX X pins σ E)
 (I:Inv X pins σ H s) (r:Vals vs us) (h:sp (vs++dvs) H Q E):wpAny (model X.prog X.w) X.A (call (.ref f) us) (EP X pins σ Q) X.xe s:=by
 have r2:Vals (vs++dvs) (us++ds):=r.append hd;have hl:(us++ds).length=ps.length:=by rw[<- r2.length];exact F.len _ _ _ _ h
 refine wpAny_call (codeAny_mono (F.run X.A X.stack s H ⟨us,[]⟩ (us++ds) (vs++dvs) Q E hr I.env0 (hb s us I.kIn hl) r2 h) λr s' hq=>?_);cases r with
 |error e=>exact hx H s e s' I hq
 |ok fl =>
  cases fl with
  |ret u=>exact I.after hq
  |next=>exact False.elim hq
  |brk=>exact False.elim hq
  |cont=>exact False.elim hq
end
abbrev cxH(X:Cx)(ea:Addr)(oe:Obj):Cx:={ X with A:=X.A.mark (some (.ref ea)),calm:=false,pn:=(ea,oe)::X.pn,xe:=λ_ _=>False }
section
variable {X:Cx}{pins:List (Addr×Obj)}{σ:St}{H:Hp}{s:Shared}{ea:Addr}{oe:Obj}
theorem Inv.held(I:Inv X pins σ H s)(he:s.heap.get? ea=some oe)(hn:H ea=none)(hL:ea≠X.env.locals)(hf:ea∉X.fs)(hd:∀v,oe.data≠.cell v):Inv (cxH X ea oe) pins σ H s:=by
 have ok:=I.ok
 exact⟨⟨ok.mod,ok.kind,ok.glob,ok.blt,ok.above,ok.inj,ok.has,ok.cab,(λz=>nomatch z),ok.frames,ok.stk,ok.exf,ok.bs,ok.bsz,ok.noex,ok.exfs,ok.funs,ok.frf⟩,I.os,I.bare,I.base,I.loc,I.cell,I.free,I.freeC,
  λp hp=>by
   rcases Ni.mp hp with rfl |hp
   ·exact⟨he,hn,hL,hf,hd⟩
   ·exact I.pin p hp,I.hok,I.len⟩
theorem Inv.unheld(ok:X.Ok)(I:Inv (cxH X ea oe) pins σ H s):Inv X pins σ H s :=
 ⟨ok,I.os,I.bare,I.base,I.loc,I.cell,I.free,I.freeC,λp hp=>I.pin p (NQ _ hp),I.hok,I.len⟩
theorem HW{M:Model}{A:Around}{E:Value->Shared->Prop}{i:Nat}{x:Str}{pos:Pos}{Q:Unit->Shared->Prop}(I:Inv X pins σ H s)(hN:X.N.Nodup)(hi:X.N[i]?=some x)(hk:X.env.scope.names.lookup x=some .local)
 (h:∀s',Inv X pins (σ.set i none) H s'->Q () s'):wpAny M A (do bindName X.env x .none;unbindBehindTheSuite X.env x pos) Q E s:=by
 obtain⟨m,hn,hl⟩:=id I.loc;have hcls:(X.env.scope.kind == .class || (X.env.scope.kind == .module&&X.env.locals != X.env.globals))=false:=by rw[I.ok.kind];rfl
 have hiσ:i<σ.length:=by rw[I.len];exact(List.getElem?_eq_some_iff.mp hi).1
 have cne:=I.cne
 have tracked:∀{a:Addr} {h':Heap},(∃o,s.heap.get? a=some o/\H a=none)->Heap.SameBut a s.heap h'->HOk X.prog X.w H h':=λ{a h'} ha hs b ob e=>by
  obtain⟨_,_,hfree⟩:=ha;refine(I.hok b ob e).stay (λc w' hc q=>(hs.2 c ?_).trans q) (λ_ q=>q) λ_ _ q=>q
  rintro rfl;rcases hc with rfl |hc
  ·rw[hfree]at e;cases e
  ·rw[hfree]at hc;cases hc
 refine wpAny_nameGoes_keeps hk hn hcls λh' v hn' hs=>?_
 obtain⟨oL,_,_,hoL,_⟩:=id hn;refine h _ ⟨I.ok,I.os,I.bare,⟨λb o e n hb hx=>?_,λb o e n hb hx=>?_,I.base.free,λb o e hx=>?_,I.base.tups,I.base.frzs,I.base.tbls⟩,⟨_,hn',λj y v' e1 e2 e3=>?_⟩,λy c e=>?_,I.free,I.freeC,λp hp=>?_,tracked ⟨oL,hoL,I.free⟩ hs,by simpa using I.len⟩
 ·exact(hs.2 b (Nt (Nm (Heap.lt_size e) I.ok.above))).trans (I.base.keep b o e n hb hx)
 ·obtain⟨sl,e1⟩:=I.base.slot b o e n hb hx;exact⟨sl,(hs.2 b (Nt (Nm (Heap.lt_size e) I.ok.above))).trans e1⟩
 ·obtain⟨o',e1⟩:=I.base.there b o e hx;exact⟨o',(hs.2 b (Nt (Nm (Heap.lt_size e) I.ok.above))).trans e1⟩
 ·by_cases hj:j=i
  ·subst hj;rw[List.getElem?_set_self hiσ]at e2;cases e2
  ·rw[List.getElem?_set_ne (Ne.symm hj)]at e2;obtain⟨u',r',q⟩:=hl j y v' e1 e2 e3;refine⟨u',r',?_⟩;rcases q with⟨k,e⟩ |⟨k,c,e,z⟩
   ·refine .inl ⟨k,?_⟩;have:y≠x:=λe=>hj (rV hN e1 (e ▸ hi))
    simp[this,e]
   ·exact .inr ⟨k,c,e,z.sameBut hs (cne y c e)⟩
 ·obtain⟨w',z⟩:=I.cell y c e;exact⟨w',z.sameBut hs (cne y c e)⟩
 ·obtain⟨e,n,ne,nf,d⟩:=I.pin p hp;exact⟨(hs.2 p.1 ne).trans e,n,ne,nf,d⟩
theorem tH(I:Inv (cxH X ea oe) pins σ H s):s.heap.get? ea=some oe:=(I.pin (ea,oe) (NY ..)).1
end
section
variable {X:Cx}{k:Nat}{f C R:Addr}{fd:FuncData}{ps:List Str}{sp:Sp}{dvs:List V}{ds:List Value}{m r n:Str}{pos apos cpos epos np hpos:Pos}{e o:Expr}{es:List Expr}{ta:TE}{t:TA}{i:Nat}{b₀:Stmt}{suite:List Stmt}{th:Addr->Obj->TS}
end
open PySem PySem.Spec PyProof.Rows PySem.W PySem.Calls PySem.Builtin PySem.Builtin.ObjectAttr PySem.Builtin.Getset_descriptor
section
variable {prog:Program}{w:World}{A:Around}{E:Value->Shared->Prop}{s:Shared}{K:Frag}{x D:Addr}{M:Model}{h:Heap}
theorem JP{a g:Value}{name:Str}(X:K.In h)(ha:findIn K (.ref D) name=some (some a))(hg:specialIn K a "__get__"=some (some g))(ht:takesIn K a=some true):Looks M h (find (.ref x) (.ref D) name) (.bind g a):=by have L1:=looks_findIn (M:=M) X ha;have L2:Looks M h (getOf (some a)) (some g):=looks_specialIn X hg;have L3:=looks_takesIn (M:=M) X ht;exact L1.andThen (L2.andThen ((show Looks M h (dataDescriptor? (some a) (some g)) (some (g,a))from L3.andThen .now).andThen (Looks.tag .now)))
theorem JQ{R:Result->Shared->Prop}{tp:Value}(X:K.In s.heap)(L0:Looks (model prog w) s.heap (typeOf (.ref x)) (.ref D))(hm:mroIn K D (.type "object")=some true)
 (h:R (.ok (.ret (.ref D))) s):codeAny (model prog w) A (.call (.builtin "getset_descriptor.__get__") ⟨[.builtin "object.__class__",.ref x,tp],[]⟩) R s:=by
 obtain⟨hh,g,dr,t,os⟩:=s;have L1:=looks_mroIn (M:=model prog w) X hm;refine codeAny_call_builtin KF.slot_gs.plain KF.entry_gs (KF.slot_gs.check _ _ _ _ _ _ _ _ KF.type_class (KF.args_gs _ _ _) ?_);unfold Builtin.«getset_descriptor.__get__» descrGet;rw[dga_obj];refine wpAny_bind (wpAny_pure ?_);unfold descrGetter descrCheckInstance descrNameAndClass isInstance;simp only[KF.owner_class]
 repeat lk
 refine⟨Code.quiet_builtin _ (by decide +kernel),codeAny_builtin KF.entry_class ?_⟩;unfold Builtin.«object.__class__» shownTypeOf
 repeat lk
 exact h
theorem ze{nameV:Value}{Q:Unit->Shared->Prop}{g:Array GenState}{d:Drawn}{t:Nat}{os:OsState}(X:K.In h)(LT:Looks M h (typeOf (.ref x)) (.ref D))(hmB:mroIn K D (.type "BaseException")=some true)(hq:Q () ⟨h,g,d,t,os⟩) :
 wpAny M A (checkBuiltinCall "BaseException.__getattribute__" ⟨[.ref x,nameV],[]⟩) Q E ⟨h,g,d,t,os⟩:=by
 have hk:builtinKind "BaseException.__getattribute__"=some .slot:=by decide +kernel
 have hsplit:splitId "BaseException.__getattribute__"=some ("BaseException","__getattribute__"):=by decide +kernel
 have ha:=F.args_bexc_ga (.ref x) nameV;have LI:Looks M h (isInstance (.ref x) (.type "BaseException")) true:=LT.andThen (looks_mroIn X hmB);simp only[checkBuiltinCall,hk,hsplit];refine wpAny_bind (LI.at ?_)
 repeat (first |assumption |wp_step)
theorem JR{Q:Option Value->Shared->Prop}(hga:findIn K (.ref D) "__getattribute__"=some (some (.builtin "BaseException.__getattribute__")))(hgn:findIn K (.ref D) "__getattr__"=some none)(hmB:mroIn K D (.type "BaseException")=some true)(ha:findIn K (.ref D) "__class__"=some (some (.builtin "object.__class__")))
 (hn:specialIn K (.builtin "object.__class__") "__get__"=some (some (.builtin "getset_descriptor.__get__"))) (htk:takesIn K (.builtin "object.__class__")=some true) (hm:mroIn K D (.type "object")=some true)
 (X:K.In s.heap) (LT:Looks (model prog w) s.heap (typeOf (.ref x)) (.ref D)) (h:Q (some (.ref D)) { s with toks:=s.toks+1 }):wpAny (model prog w) A (getAttr? (.ref x) "__class__") Q E s:=by
 obtain⟨hh,g,d,t,os⟩:=s;have L1:=looks_findIn (M:=model prog w) X hga;have LF:Looks (model prog w) hh (find (.ref x) (.ref D) "__class__") (.bind (.builtin "getset_descriptor.__get__") (.builtin "object.__class__")):=JP X ha hn htk;have L2:=looks_findIn (M:=model prog w) X hgn;have f3:=F.excAttr_ValueError.ga.bind (.ref x);have hx2:(Value.builtin "BaseException.__getattribute__" == Value.builtin "object.__getattribute__")=false:=by decide +kernel
 have hx1:(onTheHeap (Value.ref D)&&Value.builtin "BaseException.__getattribute__" == Value.builtin "object.__getattribute__")=false:=by rw[hx2];rfl
 unfold getAttr? getAttrBy? getAttrBy;refine wpAny_bind (wpAny_mkText (wpAny_bind (wpAny_attempt (wpAny_holding (wpAny_bind (LT.at (wpAny_bind (L1.at ?_))))))));dsimp only
 rw[if_neg (by rw[hx1];exact Nn)];unfold getAttrByItsOwn
 repeat (any_goals (first |assumption | (with_reducible refine wpAny_bind (L2.at ?_)) | (with_reducible refine L2.at ?_) |wp_step))
 refine codeAny_call_builtin F.excAttr_ValueError.ga.plain F.entry_bexc_ga (ze X LT hmB ?_)
 repeat (any_goals (first |assumption | (with_reducible refine wpAny_bind (LT.at ?_)) | (with_reducible refine LT.at ?_) | (with_reducible refine wpAny_bind (LF.at ?_)) | (with_reducible refine LF.at ?_) |wp_step))
 refine JQ X LT hm ?_
 repeat (any_goals (first |assumption |wp_step))
theorem GO{oe:Obj}(hc:oe.cls=.ref D)(hcl:(clsIn K D).isSome=true)(hga:findIn K (.ref D) "__getattribute__"=some (some (.builtin "BaseException.__getattribute__")))(hgn:findIn K (.ref D) "__getattr__"=some none)(hmB:mroIn K D (.type "BaseException")=some true)(ha:findIn K (.ref D) "__class__"=some (some (.builtin "object.__class__")))
 (hn:specialIn K (.builtin "object.__class__") "__get__"=some (some (.builtin "getset_descriptor.__get__"))) (htk:takesIn K (.builtin "object.__class__")=some true) (hm:mroIn K D (.type "object")=some true) :
 KitX K (.ref x) (.ref D) (λh=>h.get? x=some oe) where
 ty:=λ_ _ _ I=>hc ▸ (Looks.ld I).andThen .now
 it:=λ_ _ X _=>by
  obtain⟨cdD,hcD⟩:=N8.mp hcl;unfold clsIn at hcD
  split at hcD
  ·rename_i c' d' cd' sl' ho
   intro A' Q' E' s' k q;unfold isType loadHead;exact wpAny_bind (wpAny_loadPart (k _ _ (X _ _ ho)) (wpAny_pure q))
  ·cases hcD
 ne:=λh tp dd its n sl X htp=>by
  obtain⟨cdD,hcD⟩:=N8.mp hcl;refine Bool.eq_false_iff.mpr λq=>?_
  have e:D=tp:=Value.ref.inj (beq_iff_eq.mp q);subst e;unfold clsIn at hcD
  split at hcD
  ·rename_i c' d' cd' sl' ho
   have z:=(X _ _ ho).symm.trans htp;cases z
  ·cases hcD
 ca:=λX I k=>JR hga hgn hmB ha hn htk hm X (hc ▸ (Looks.ld I).andThen .now) k
end
theorem J7{K:PySem.W.Frag}{C:Addr}{b:Value}{k:Bool}(h:mroIn K C b=some k):(clsIn K C).isSome=true:=by
 unfold mroIn at h
 cases e:clsIn K C with
 |none=>rw[e]at h;cases h
 |some _=>rfl
structure ECls(K:PySem.W.Frag)(D:Addr):Prop where
 cl:(clsIn K D).isSome=true
 ga:findIn K (.ref D) "__getattribute__"=some (some (.builtin "BaseException.__getattribute__"))
 gn:findIn K (.ref D) "__getattr__"=some none
 mB:mroIn K D (.type "BaseException")=some true
 ha:findIn K (.ref D) "__class__"=some (some (.builtin "object.__class__"))
 hn:specialIn K (.builtin "object.__class__") "__get__"=some (some (.builtin "getset_descriptor.__get__"))
 ht:takesIn K (.builtin "object.__class__")=some true
 hm:mroIn K D (.type "object")=some true
noncomputable def lX(lo:Int)(n:Nat):It:=⟨λi _=>i<n,λi H x H'=>H'=H/\x=.int (lo+i * -1),λi _=>n<=i⟩
theorem AQ{P:Program}{w:World}{K:PySem.W.Frag}{tg:Expr}(it:Addr)(lo:Int)(n:Nat):Turn P w K tg (lX lo n) [it] it (λi h=>IsRangeIter h it (lo+(i:Nat) * -1) ((n:Int)-(i:Nat)) (-1)) where
 mem:=by simp
 obj:=λi h st b hb=>by
  have e:b=it:=by simpa using hb
  subst e
  exact⟨_,st,λv z=>by
   have z':Data.fields _=Data.cell v:=z
   cases z'⟩
 keep:=λi h h' st k=>k it (by simp) _ st
 item:=by
  intro X hP hw hK hc i pins s σ H E I hf st hg;subst hP hw hK;obtain⟨f0,f1,f2,f3,f4,f5⟩:=hf it (by simp);have W:=Walks.range (prog:=X.prog) (w:=X.w) (I.ok.hd hc) it lo (-1) n;refine W.item i s _ _ hg st λv h' tk hv st' kk=>?_
  obtain⟨t,rfl⟩:=hv;have I1:Inv X pins σ H { s with heap:=h',toks:=tk }:=I.turned (λb o hb e=>kk b o (by simpa using hb) e) f0 f1 f3 f4 f5;exact⟨_,rfl,nM (s:={ s with heap:=h',toks:=tk }) (n:="range_iterator") st' rfl rfl (by decide) ⟨.int (lo+i * -1),H,I1,⟨t,rfl⟩,⟨rfl,rfl⟩,st',λb hb=>(hf b hb).1⟩⟩
 done:=by intro X hP hw hK hc i pins s σ H E I hf st hg;subst hP hw hK;obtain⟨f0,f1,f2,f3,f4,f5⟩:=hf it (by simp);exact wpAny_pyNext_range_end (I.ok.hd hc) st (by have:n<=i:=hg;omega) λh' eb=>⟨rfl,I.turned (t':=s.toks) (λb o hb e=>eb b o hb e) f0 f1 f3 f4 f5⟩
 self:=λ_ _ _ _ _ st h=>wpAny_pyIter_rangeiter st h
theorem wg(a b:Int):Builtin.Range.rangeSize a b (-1)=if b<a then a-b else 0:=by unfold Builtin.Range.rangeSize;rw[if_neg (by decide)];show(if a>b then(a-b-1)/1+1 else 0)=_;rw[Int.ediv_one];split<;>omega
theorem Bx{a b:Int}(ha : -(2^61)<=a)(ha':a<2^61)(hb : -(2^61)<=b)(hb':b<2^61):Builtin.Range.small a b (-1)=true:=by unfold Builtin.Range.small;rw[wg];simp only[Builtin.Range.rangeFitsLong,Np,NJ,decide_eq_true_eq,beq_iff_eq,show ¬((-1:Int)>0) by decide,if_false];split<;>omega
section
variable {X:Cx}{tg:Expr}
theorem CI{pins:List (Addr×Obj)}{σ:St}{H:Hp}{s:Shared}{R:It->Hp->Prop}{E:Value->Shared->Prop}{lo hi:Int}{t u v:Tok}{tk:Nat}(I:Inv X pins σ H s)(h1 : -(2^61)<=lo)(h2:lo<2^61)(h3 : -(2^61)<=hi)(h4:hi<2^61)
 (q:R (lX lo (lo-hi).toNat) H):wpAny (model X.prog X.w) X.A (pyIter (.ref s.heap.objs.size)) (PIE X pins σ tg R) E { s with heap:=s.heap.push { cls:=.type "range",data:=.fields #[.int lo t,.int hi u,.int (-1) v] },toks:=tk }:=by
 refine wpAny_pyIter_range (IsRange.new ..) (Bx h1 h2 h3 h4) ?_;have I1:Inv X pins σ H { s with heap:=s.heap.push { cls:=.type "range",data:=.fields #[.int lo t,.int hi u,.int (-1) v] },toks:=tk }:=I.kept λb o e=>Heap.get?_push_of_some _ e
 refine⟨(s.heap.push { cls:=.type "range",data:=.fields #[.int lo t,.int hi u,.int (-1) v] }).objs.size,[(s.heap.push { cls:=.type "range",data:=.fields #[.int lo t,.int hi u,.int (-1) v] }).objs.size],_,_,H,rfl,
  I1.kept (t':=tk) λb o e=>Heap.get?_push_of_some _ e,AQ _ lo (lo-hi).toNat,?_,λb hb=>?_,q⟩
 ·have e1:lo+((0:Nat):Int) * -1=lo:=by simp
  have e2:(((lo-hi).toNat:Nat):Int)-((0:Nat):Int)=Builtin.Range.rangeSize lo hi (-1):=by rw[wg];split<;>omega
  show IsRangeIter _ _ (lo+((0:Nat):Int) * -1) ((((lo-hi).toNat:Nat):Int)-((0:Nat):Int)) (-1);rw[e1,e2];exact Heap.get?_push_size _ rfl
 ·have e:b=(s.heap.push { cls:=.type "range",data:=.fields #[.int lo t,.int hi u,.int (-1) v] }).objs.size:=by simpa using hb
  subst e;exact I1.fpOk (Ng _) (I1.hok.fresh (Ng _))
def HN(ta:TA):TI:=λσ H R=>ta σ H λvs H1=>∃i j:Int,vs=[.int i,.int j,.int (-1)]/\(-(2^61)<=i/\i<2^61 /\ -(2^61)<=j/\j<2^61)/\R (lX i (i-j).toNat) H1
theorem Dm{a b c:Expr}{ta:TA}{p pos:Pos}(hg:Gl X "range")(hm:X.mg "range"=none)(ha:PA X [a,b,c] ta)(hs:starEach [a,b,c] X.env=[(false,eval a X.env),(false,eval b X.env),(false,eval c X.env)]:=by rfl)(hs2:starEach [b,c] X.env=[(false,eval b X.env),(false,eval c X.env)]:=by rfl) :
 PI X tg (.Call (.Name "range" p) [a,b,c] [] pos) (HN ta):=by
 intro pins s σ H R I h;refine Call_ (nw I hg hm boot_range (PyProof.Rows.callWith_type1 (thn (ha pos pins s σ H _ I h) λus s1 ⟨vs,H1,I1,r1,q1⟩=>?_) (by rw[hs,hs2]) (by rw[hs2];rfl)));obtain⟨i,j,e,⟨q1,q2,q3,q4⟩,q⟩:=q1;subst e;cases r1 with
 |cons r rr =>
  cases rr with
  |cons r' rr =>
   cases rr with
   |cons r'' rr =>cases rr;obtain⟨t,rfl⟩:=r;obtain⟨t',rfl⟩:=r';obtain⟨t'',rfl⟩:=r'';exact call_range_3 (by decide) (CI I1 q1 q2 q3 q4 q) (Or.inl (PyProof.noPylong_small (by decide)))
end
theorem yW{lo:Int}{n:Nat}{g:TG}{tb:TS}{D:Ends}{σ:St}{H:Hp}(Pv:Nat->St->Hp->Prop)(h0:Pv 0 σ H)
 (hs:∀i σ H,i<n->Pv i σ H->g (.int (lo+i * -1)) σ H λσ2 H2=>tb { D with nx:=Pv (i+1),ct:=Pv (i+1),bk:=D.nx } σ2 H2) (hd:∀σ H,Pv n σ H->D.nx σ H) :
 ∃W:Nat->Nat->St->Hp->Prop,(∃m,W 0 m σ H)/\∀i m σ H,W i m σ H ->
  ((lX lo n).stop i H/\D.nx σ H)\/((lX lo n).go i H/\∃N:St->Hp->Prop,(∀σ' H',N σ' H'->∃m',m'<m/\W (i+1) m' σ' H')/\∀x H',(lX lo n).yld i H x H'->g x σ H' λσ2 H2=>tb { D with nx:=N,ct:=N,bk:=D.nx } σ2 H2):=by
 refine⟨λi m σ H=>m=n-i/\i<=n/\Pv i σ H,⟨n,by simp,Nr _,h0⟩,?_⟩;rintro i m σ H ⟨rfl,hi,p⟩;by_cases hlt:i<n
 ·refine .inr ⟨hlt,Pv (i+1),λσ' H' p'=>⟨n-(i+1),by omega,rfl,hlt,p'⟩,λx H' y=>?_⟩;obtain⟨e,y⟩:=y;subst e y;exact hs i σ _ hlt p
 ·have e:i=n:=by omega
  subst e;exact .inl ⟨Ng _,hd σ H p⟩
end L2
theorem PyProof.Rows.boot_ValueError:PySem.bootBuiltins "ValueError"=some (.type "ValueError"):=by decide +kernel
namespace L2
open PySem PySem.Spec PyProof.Rows
section
variable {X:Cx}{CX:CXT}{k:Nat}{f C R:Addr}{fd:FuncData}{ps:List Str}{sp:Sp}{dvs:List V}{ds:List Value}{m r n x:Str}{p pos apos cpos epos np hpos:Pos}{e o ex:Expr}{es:List Expr}{ta:TE}{t:TA}{i:Nat}{b₀:Stmt}{suite:List Stmt}{th:Addr->Obj->TS}{tx:XK->TE}
noncomputable def mP(K:PySem.W.Frag)(ea:Addr)(oe:Obj):List V->Hp->VK->Prop:=λxs H Q=>∃(D:Addr) (c:Value) (y:V) (k:Bool),xs=[.ref ea,y]/\RelV y c/\(∀u,RelV y u->u=c)/\oe.cls=.ref D/\ECls K D/\PySem.W.kitOne K (.ref D) c=some k/\Q (.bl k) H
theorem ql{X:Cx}{ea:Addr}{oe:Obj}:cR (cxH X ea oe) (.builtin "isinstance") (mP X.K ea oe):=by intro pins s σ H xs us Q I r h;obtain⟨D,c,y,k,rfl,_,hy,hc,T,e,q⟩:=h;obtain⟨u1,u2,rfl,r1,r2⟩:=r.two;obtain rfl:u1=Value.ref ea:=r1;obtain rfl:=hy u2 r2;exact PySem.W.kia_one (GO hc T.cl T.ga T.gn T.mB T.ha T.hn T.ht T.hm) I.kIn (tH I) e (λz=>nomatch z) λtk=>⟨.bl k,H,I.tok tk,rfl,q⟩
theorem tE{K:PySem.W.Frag}{ea D C:Addr}{oe:Obj}{H:Hp}{Q:VK}{k:Bool}(hc:oe.cls=.ref D)(T:ECls K D)(e:PySem.W.kitOne K (.ref D) (.ref C)=some k)(q:Q (.bl k) H):mP K ea oe [.ref ea,.ref C] H Q:=⟨D,.ref C,.ref C,k,rfl,rfl,λ_ z=>z,hc,T,e,q⟩
theorem Hv{K:PySem.W.Frag}{ea D:Addr}{n:String}{oe:Obj}{H:Hp}{Q:VK}{k:Bool}(hc:oe.cls=.ref D)(T:ECls K D)(e:PySem.W.kitOne K (.ref D) (.type n)=some k)(q:Q (.bl k) H):mP K ea oe [.ref ea,.ty n] H Q:=⟨D,.type n,.ty n,k,rfl,rfl,λ_ z=>z,hc,T,e,q⟩
theorem pz{K:PySem.W.Frag}{ea:Addr}{oe:Obj}{σ:St}{H:Hp}{Q:VK}{te:TE}{y:V}(h:te σ H λx H1=>mP K ea oe [x,y] H1 Q):tCB (mP K ea oe) (ey te (ey (tC y) mE)) σ H Q:=h
end
section
variable {X:Cx}{R R2:Addr}{r r2 n n2:Str}{pos epos np hpos np2 hpos2:Pos}{ex:Expr}{i i2:Nat}{b₀ b₂:Stmt}{suite suite2:List Stmt}{th th2:Addr->Obj->TS}{tx:XK->TE}
end
section
variable {X:Cx}{K:PySem.W.Frag}
end
section
variable {X:Cx}
noncomputable def CM:V->List V->Hp->VK->Prop:=λx vs H Q=>∃(z:Str) (i:Int),x=.str z/\vs=[.int i]/\PadOk i=true/\Q (.str (PySem.Txt.zfill z i)) H
theorem Fm:MtM X "str.zfill" CM:=by intro pins s σ H x vs v us Q I rx rv h;obtain⟨z,i,rfl,rfl,hp,q⟩:=h;obtain⟨t,rfl⟩:=rx;obtain⟨u,rfl,ru⟩:=rv.one;obtain⟨t2,rfl⟩:=ru;exact PySem.SC.zfill hp λt' k=>⟨.str _,H,I.tok _,⟨_,rfl⟩,q⟩
theorem vK:∀{zs:List Str} {us:List Value},Vals (zs.map V.str) us->∃l:List (Str×Tok),us=strValues l/\l.map (·.1)=zs
 | [],_,h=>by cases h;exact⟨[],rfl,rfl⟩
 |z::zs,_,h=>by
  cases h with
  |cons r rr =>obtain⟨t,rfl⟩:=r;obtain⟨l,rfl,e⟩:=vK rr;exact⟨(z,t)::l,rfl,by rw[NM,e]⟩
noncomputable def wj(K:PySem.W.Frag):V->List V->Hp->VK->Prop:=λx vs H Q=>∃(sep:Str) (a:Addr) (zs:List Str),x=.str sep/\vs=[.ref a]/\SqL K H a (zs.map V.str)/\zs.foldl (λn z=>n+z.length+sep.length) 0<=sizeLine/\(Builtin.Str.glued sep zs).length<=sizeLine/\Q (.str (Builtin.Str.glued sep zs)) H
theorem Fw:MtM X "str.join" (wj X.K):=by
 intro pins s σ H x vs v us Q I rx rv h;obtain⟨sep,a,zs,rfl,rfl,ha,h1,h2,q⟩:=h;obtain⟨t,rfl⟩:=rx;obtain⟨u,rfl,ru⟩:=rv.one;cases ru;obtain⟨its,r,pl,_⟩:=I.list ha;obtain⟨l,rfl,e⟩:=vK r
 have hl:Builtin.Str.tooLong (Array.foldl (λn z=>n+z.length+sep.length) 0 (List.map (λx=>x.fst) l).toArray)=false:=by unfold Builtin.Str.tooLong;rw[e];simp only[List.foldl_toArray',List.foldl_toArray,decide_eq_false_iff_not];omega
 refine call_meets F.slot_str_join (typeIs_str s sep t) F.entry_str_join (F.args_str_join_2 _ _) (meets_str_join_list sep t a l hl) ⟨pl.isList,?_⟩;unfold joinMade;split
 ·rename_i p
  have e':zs=[p.1]:=by rw[<- e];rfl
  subst e';refine⟨.str _,H,I,⟨p.2,rfl⟩,?_⟩;have e3:Builtin.Str.glued sep [p.1]=p.1:=rfl;rw[e3]at q;exact q
 ·rw[e];exact⟨h2,⟨.str _,H,I.tok _,⟨_,rfl⟩,q⟩⟩
theorem Fv{K:PySem.W.Frag}(h:X.K=K):MtM X "str.join" (wj K):=by subst h;exact Fw
end
end L2
namespace RM
open PySem
theorem ofS(s:String):Str.ofString s=⟨(s.toList.map Char.toNat).toArray⟩:=by unfold Str.ofString;rw[cpsOfBytes_string]
noncomputable def al(n:Nat):List Nat:=(Nat.toDigits 10 n).map Char.toNat
theorem qc(n:Nat):Str.ofString (toString (n:Int))=⟨(al n).toArray⟩:=by rw[ofS];show(⟨(((Nat.repr n)).toList.map Char.toNat).toArray⟩:Str)=_;unfold Nat.repr al;rw[String.toList_ofList]
theorem HB(n:Nat):Str.ofString (toString (Int.negSucc n))=⟨(45::al (n+1)).toArray⟩:=by rw[ofS];show(⟨((("-"++Nat.repr (n+1))).toList.map Char.toNat).toArray⟩:Str)=_;unfold Nat.repr al;rw[String.toList_append,String.toList_ofList,String.toList_ofList];rfl
theorem zl:∀d,d<10->(Nat.digitChar d).toNat=48+d:=by decide
theorem fv{n:Nat}(h:n<10):al n=[48+n]:=by unfold al;rw[Nat.toDigits_of_lt_base h];show[_]=_;rw[zl n h]
theorem iD{n:Nat}(h:10<=n):al n=al (n/10)++[48+n%10]:=by unfold al;rw[Nat.toDigits_of_base_le (by decide) h,NI];show _++[_]=_;rw[zl _ (Nat.mod_lt _ (by decide))]
noncomputable def pad:Nat->Nat->List Nat
 |0,_=>[]
 |k+1,r=>pad k (r/10)++[48+r%10]
theorem wT:∀(k r:Nat),(pad k r).length=k
 |0,_=>rfl
 |k+1,r=>by show(pad k (r/10)++[_]).length=_;rw[Nf,wT k];rfl
theorem xk{q:Nat}(hq:0<q):∀(k r:Nat),r<10^k->al (q*10^k+r)=al q++pad k r
 |0,r,h=>by
  have e:r=0:=by simpa using h
  subst e;show al (q*1+0)=al q++[];rw[Nat.mul_one,Nat.add_zero,Ny]
 |k+1,r,h=>by
  have hp:1<=10^k:=Nat.pow_pos (by decide);have e1:q*10^(k+1)+r=10*(q*10^k)+r:=by rw[N0];grind
  have h2:1<=q*10^k:=Nat.mul_le_mul hq hp;rw[e1,iD (by omega)];have e2:(10*(q*10^k)+r)/10=q*10^k+r/10:=by omega
  have e3:(10*(q*10^k)+r)%10=r%10:=by omega
  have h3:r/10<10^k:=by rw[N0]at h;omega
  rw[e2,e3,xk hq k (r/10) h3,Nl];rfl
theorem wS:∀k,pad k 0=List.replicate k 48
 |0=>rfl
 |k+1=>by show pad k (0/10)++[48+0%10]=_;rw[Nat.zero_div,wS k,List.replicate_succ']
theorem mT:∀(k r:Nat),r<10^(k+1)->(al r).length<=k+1/\pad (k+1) r=List.replicate (k+1-(al r).length) 48++al r
 |0,r,h=>by
  have h':r<10:=by simpa using h
  rw[fv h'];refine⟨Ng _,?_⟩;show pad 0 (r/10)++[48+r%10]=_;rw[Nat.mod_eq_of_lt h'];rfl
 |k+1,r,h=>by
  by_cases h':r<10
  ·rw[fv h'];refine⟨by show 1<=k+1+1;omega,?_⟩;show pad (k+1) (r/10)++[48+r%10]=List.replicate (k+1) 48++[48+r];rw[Nat.mod_eq_of_lt h',Nat.div_eq_of_lt h',wS]
  ·have h3:r/10<10^(k+1):=by rw[N0]at h;omega
   obtain⟨i1,i2⟩:=mT k (r/10) h3;rw[iD (by omega)];refine⟨by rw[Nf];show _+1<=_;omega,?_⟩;show pad (k+1) (r/10)++[48+r%10]=_;rw[i2,Nf,Nl];have e:k+1+1-((al (r/10)).length+[48+r%10].length)=k+1-(al (r/10)).length:=by show k+1+1-((al (r/10)).length+1)=_;omega
   rw[e]
theorem xm:∀(n m:Nat),m<=n->∀c∈al m,48<=c
 |0,m,h=>by
  have e:m=0:=by omega
  subst e;rw[fv (by decide)];intro c hc;rw[Nu.mp hc];omega
 |n+1,m,h=>by
  intro c hc;by_cases h':m<10
  ·rw[fv h']at hc;rw[Nu.mp hc];omega
  ·rw[iD (by omega)]at hc;rcases No.mp hc with hc |hc
   ·exact xm n (m/10) (by omega) c hc
   ·rw[Nu.mp hc];omega
theorem Av{r:Nat}(h:r<10^64):PySem.Txt.zfill (Str.ofString (toString (r:Int))) 64=⟨(pad 64 r).toArray⟩:=by
 obtain⟨i1,i2⟩:=mT 63 r h;rw[qc];unfold PySem.Txt.zfill;have hl:(⟨(al r).toArray⟩:Str).length=(al r).length:=by unfold Str.length;simp
 rw[hl];by_cases h6:(64:Int)<=((al r).length:Nat)
 ·rw[if_pos h6,i2];have e:63+1-(al r).length=0:=by omega
  rw[e];rfl
 ·rw[if_neg h6];unfold zfilled
  have hc:∀c,(⟨(al r).toArray⟩:Str).cps[0]?=some c->48<=c:=λc e=>by
   have e':(al r)[0]?=some c:=by simpa using e
   exact xm r r (Ng _) c (List.mem_of_getElem? e')
  split
  ·rename_i e
   have:=hc _ e;omega
  ·rename_i e
   have:=hc _ e;omega
  ·unfold Builtin.Str.padded;rw[i2];have e:Int.toNat 64-(al r).length=63+1-(al r).length:=rfl;rw[e];generalize 63+1-(al r).length=m;generalize al r=l;refine congrArg Str.mk ?_;simp
theorem Kf(a b:List Nat):(⟨a.toArray⟩:Str)++(⟨b.toArray⟩:Str)=⟨(a++b).toArray⟩:=by show(⟨a.toArray++b.toArray⟩:Str)=_;refine congrArg Str.mk ?_;simp
theorem yR:∀(ls:List (List Nat)) (a:List Nat),(List.foldl (λacc (p:Str)=>acc++(Str.ofString "").cps++p.cps) a.toArray (ls.map λl=>(⟨l.toArray⟩:Str)))=(a++ls.flatten).toArray
 | [],a=>by simp
 |l::ls,a=>by
  rw[NM,Ob]
  have e:a.toArray++(Str.ofString "").cps++l.toArray=(a++l).toArray:=by rw[ofS];simp
  show List.foldl _ (a.toArray++(Str.ofString "").cps++l.toArray) _=_;rw[e,yR ls (a++l),NR,Nl]
theorem yQ(ls:List (List Nat)):Builtin.Str.glued (Str.ofString "") (ls.map λl=>(⟨l.toArray⟩:Str))=⟨ls.flatten.toArray⟩:=by
 unfold Builtin.Str.glued;cases ls with
 |nil=>rfl
 |cons l ls =>refine congrArg Str.mk ?_;show List.foldl _ l.toArray ((List.map _ (l::ls)).drop 1)=_;rw[NM,List.drop_succ_cons,List.drop_zero,yR,NR]
end RM
namespace L2
open PySem PySem.Spec PyProof.Rows
def Top(val:Nat->Int)(n:Nat)(M:Int):Prop:=(∃i,i<n/\val i=M)/\∀i,i<n->val i<=M
theorem Top.more{val:Nat->Int}{n:Nat}{M:Int}(h:Top val n M)(hn:val n>M):Top val (n+1) (val n) :=
 ⟨⟨n,by omega,rfl⟩,λi hi=>by
   by_cases e:i=n
   ·subst e;exact Int.le_refl _
   ·have:=h.2 i (by omega);omega⟩
theorem Top.less{val:Nat->Int}{n:Nat}{M:Int}(h:Top val n M)(hn:¬val n>M):Top val (n+1) M :=
 ⟨let⟨i,hi,e⟩:=h.1;⟨i,by omega,e⟩,λi hi=>by
  by_cases e:i=n
  ·subst e;omega
  ·exact h.2 i (by omega)⟩
section
variable {prog:Program}{w:World}{A:Around}{R:Result->Shared->Prop}{I S:Addr}{fp wr:List Addr}{n:Nat}{P:Nat->Value->Prop}{St:Nat->Heap->Prop}{val:Nat->Int}{d:Value}
end
section
variable {prog:Program}{w:World}{A:Around}{E:Value->Shared->Prop}{s:Shared}{l:Addr}{xs:Array (Int×Tok)}{d:Value}
end
section
variable {X:Cx}{K:PySem.W.Frag}{e ed:Expr}{ta td:TE}{p pos kp:Pos}
end
theorem zB:∀{bs:List Bool} {us:List Value},Vals (bs.map V.bl) us->us=bs.map Value.bool
 | [],_,h=>by cases h;rfl
 |b::bs,_,h=>by
  cases h with
  |cons r rr =>cases r;rw[zB rr];rfl
section
variable {X:Cx}
noncomputable def CO:V->Option Int->Option Int->Hp->VK->Prop:=λx lo hi H Q=>∃z,x=.str z/\z.length<=sizeLine/\Q (.str (Txt.slice z lo hi)) H
theorem pq:SlR X CO:=by
 intro pins s σ H x v vl vu lo hi sl Q I rx hs pl pu h;obtain⟨z,rfl,hz,q⟩:=h;obtain⟨t,rfl⟩:=rx;obtain⟨o,ho,hc,hd⟩:=hs;refine⟨"str",_,F.slot_str_getitem.lookup,typeIs_str _ _ _,?_⟩;cases pl with
 |none =>
  cases pu with
  |none=>exact wpAny_getItem_str_slice (l:=none) (u:=none) (st:=none) ⟨o,ho,hc,hd⟩ rfl (post_val_or_str ⟨Nk (Txt.slice_le z _ _) hz,λt' k=>⟨.str _,H,I.tok _,⟨_,rfl⟩,q⟩⟩)
  |int j uj=>exact wpAny_getItem_str_slice (l:=none) (u:=some (j,uj)) (st:=none) ⟨o,ho,hc,hd⟩ rfl (post_val_or_str ⟨Nk (Txt.slice_le z _ _) hz,λt' k=>⟨.str _,H,I.tok _,⟨_,rfl⟩,q⟩⟩)
 |int i ui =>
  cases pu with
  |none=>exact wpAny_getItem_str_slice (l:=some (i,ui)) (u:=none) (st:=none) ⟨o,ho,hc,hd⟩ rfl (post_val_or_str ⟨Nk (Txt.slice_le z _ _) hz,λt' k=>⟨.str _,H,I.tok _,⟨_,rfl⟩,q⟩⟩)
  |int j uj=>exact wpAny_getItem_str_slice (l:=some (i,ui)) (u:=some (j,uj)) (st:=none) ⟨o,ho,hc,hd⟩ rfl (post_val_or_str ⟨Nk (Txt.slice_le z _ _) hz,λt' k=>⟨.str _,H,I.tok _,⟨_,rfl⟩,q⟩⟩)
end
noncomputable def Its(z:Str):It:=⟨λi _=>i<z.cps.size,λi H x H'=>H'=H/\∃c,z.cps[i]?=some c/\x=.str ⟨#[c]⟩,λi _=>z.cps.size<=i⟩
theorem AO{P:Program}{w:World}{K:PySem.W.Frag}{tg:Expr}(z:Str)(t:Tok)(it:Addr):Turn P w K tg (Its z) [it] it (λi h=>h.IsStrIter it "str_ascii_iterator" z t i) where
 mem:=by simp
 obj:=λi h st b hb=>by
  have e:b=it:=by simpa using hb
  subst e;obtain⟨o,e,c,d⟩:=st;exact⟨o,e,λv z=>by rw[d]at z;cases z⟩
 keep:=λi h h' st k=>let⟨o,ho,r⟩:=st;⟨o,k it (by simp) o ho,r⟩
 item:=by
  intro X hP hw hK hc i pins s σ H E I hf st hg;subst hP hw hK;obtain⟨f0,f1,f2,f3,f4,f5⟩:=hf it (by simp);have hi:i<z.cps.size:=hg;have hx:z.cps[i]?=some z.cps[i]:=by simp[hi]
  refine wpAny_pyNext_ascii_item st hx λh' st' sb=>?_
  have I1:Inv X pins σ H { s with heap:=h',toks:=s.toks+1 }:=I.turned (t':=s.toks+1) (λb o hb e=>(sb.2 b hb).trans e) f0 f1 f3 f4 f5;obtain⟨o,e,c,d⟩:=id st';exact⟨_,rfl,nM (s:={ s with heap:=h',toks:=s.toks+1 }) e c d (by decide) ⟨.str ⟨#[z.cps[i]]⟩,H,I1,⟨_,rfl⟩,⟨rfl,_,hx,rfl⟩,st',λb hb=>(hf b hb).1⟩⟩
 done:=by intro X hP hw hK hc i pins s σ H E I hf st hg;subst hP hw hK;obtain⟨f0,f1,f2,f3,f4,f5⟩:=hf it (by simp);have hi:z.cps.size<=i:=hg;exact wpAny_pyNext_ascii_end (I.ok.hd hc) st (by simp[hi]) λh' eb=>⟨rfl,I.turned (t':=s.toks) (λb o hb e=>eb b o hb e) f0 f1 f3 f4 f5⟩
 self:=λ_ _ _ _ _ st h=>wpAny_pyIter_striter_ascii st h
def HM(tl:TE):TI:=λσ H R=>tl σ H λx H1=>∃z,x=.str z/\z.cps.all (·<128)=true/\R (Its z) H1
section
variable {X:Cx}{tg:Expr}{K:PySem.W.Frag}
theorem Dl{l:Expr}{tl:TE}(hl:PE X l tl):PI X tg l (HM tl):=by
 intro pins s σ H R I h;refine thn (hl pins s σ H _ I h) λv s1 ⟨x,H1,I1,r1,q1⟩=>?_
 obtain⟨z,e,ha,q⟩:=q1;subst e;obtain⟨t,rfl⟩:=r1;refine wpAny_pyIter_ascii ha ?_;refine⟨s1.heap.objs.size,[s1.heap.objs.size],_,_,H1,rfl,I1.kept (t':=s1.toks) λb o e=>Heap.get?_push_of_some _ e,AO z t _,⟨_,Heap.get?_push_size _ rfl,rfl,rfl⟩,λb hb=>?_,q⟩;have e:b=s1.heap.objs.size:=by simpa using hb
 subst e;exact I1.fpOk (Ng _) (I1.hok.fresh (Ng _))
theorem J3{k:Nat}{js:List Nat}{z:Str}{g:TG}{te:TE}{σ0:St}{H:Hp}{Q:VK}(Pv:Nat->List V->St->Hp->Prop)(hz:z.cps.size<=sizeLine)(h0:Pv 0 [] (iM k js σ0) H)(hl:∀i ys σ H,i<=z.cps.size->Pv i ys σ H->ys.length<=i)
 (hs:∀i c ys σ H,z.cps[i]?=some c->Pv i ys σ H->g (.str ⟨#[c]⟩) σ H λσ2 H2=>te σ2 H2 λy H3=>Pv (i+1) (ys++[y]) σ2 H3) (hd:∀ys σ H p,Pv z.cps.size ys σ H->H p=none->Q (.ref p) (upd H p (.lst ys))) :
 u9 k js g te σ0 Q (Its z) H:=by
 refine⟨λi m ys σ H=>m=z.cps.size-i/\i<=z.cps.size/\Pv i ys σ H,⟨z.cps.size,by simp,Nr _,h0⟩,?_⟩;rintro i m ys σ H ⟨rfl,hi,p⟩;have hy:=hl i ys σ H hi p;by_cases hlt:i<z.cps.size
 ·refine .inr ⟨hlt,by omega,λy σ'' H''=>Pv (i+1) (ys++[y]) σ'' H'',λy σ' H' p'=>⟨z.cps.size-(i+1),by omega,rfl,hlt,p'⟩,λx H' y=>?_⟩;obtain⟨e,c,hc,y⟩:=y;subst e y;exact hs i c ys σ _ hc p
 ·have e:i=z.cps.size:=by omega
  subst e;exact .inl ⟨Ng _,λr hr=>hd ys σ H r p hr⟩
theorem bG(h:X.K=K):OpR X (compareOp .In) (rIn K false):=by subst h;exact xa
theorem w8(h:X.K=K):OpR X (compareOp .NotIn) (rIn K true):=by subst h;exact Dz
theorem lV:cR X (.type "int") (λxs H Q=>∃(z:Str) (n:Int),xs=[.str z]/\z.length<=640/\PySem.intText? z=some n/\Q (.int n) H):=by intro pins s σ H xs us Q I r h;obtain⟨z,n,rfl,hl,hn,q⟩:=h;obtain⟨u,rfl,rx⟩:=fF r;obtain⟨t,rfl⟩:=rx;exact PySem.W.KIN.call_text hn hl ⟨.int n,H,I.tok _,⟨_,rfl⟩,q⟩
theorem Li(bs:List Bool):(List.range bs.length).all (λi=>bs.getD i false)=bs.all id:=by
 rw[NB,ND,ND];constructor
 ·intro h b hb;obtain⟨i,hi,rfl⟩:=List.getElem_of_mem hb;have:=h i (List.mem_range.mpr hi);simpa[List.getD,List.getElem?_eq_getElem hi]using this
 ·intro h i hi;have hi':=List.mem_range.mp hi;have:=h bs[i] (List.getElem_mem hi');simpa[List.getD,List.getElem?_eq_getElem hi']using this
end
theorem Kk{X:Cx}{K:PySem.W.Frag}(hK:X.K=K)(hc:X.calm=true):cR X (.builtin "all") (λxs H Q=>∃(p:Addr) (bs:List Bool),xs=[.ref p]/\SqL K H p (bs.map V.bl)/\Q (.bl (bs.all id)) H):=by
 subst hK;intro pins s σ H xs us Q I r h;obtain⟨p,bs,rfl,hq,q⟩:=h;obtain⟨u,rfl,rx⟩:=fF r;cases rx;obtain⟨its,r',pl,hz⟩:=I.list hq;have e:=zB r';subst e;have hl:=pl.isList;have hlt:p<s.heap.objs.size:=by obtain⟨_,e,_⟩:=hl;exact Heap.lt_size e
 refine call_all_walk (wpAny_pyIter_list hl ?_);refine⟨_,_,_,_,_,_,λi=>bs.getD i false,rfl,Walks.list (A:=X.A.in1) (I.ok.hd hc) _ p (Nt hlt) _,⟨⟨_,Heap.get?_push_size _ rfl,rfl,rfl⟩,hl.push _⟩,λi v s' Q' E' hP hQ=>?_,λh' tk hk=>?_⟩
 ·have e:v=.bool (bs.getD i false):=by have hP':((bs.map Value.bool).toArray)[i]?=some v:=hP;simp only[List.getElem?_toArray,List.getElem?_map,Option.map_eq_some_iff]at hP';obtain⟨b,hb,rfl⟩:=hP';simp[List.getD,hb]
  subst e;exact wpAny_truthy_bool hQ
 ·refine⟨.bl (bs.all id),H,I.kept (old_kept hk),?_,q⟩;show Value.bool _=Value.bool _;rw[<- Li bs];simp
def KD(h h':Heap):Prop:=∀b o,h.get? b=some o->∃o',h'.get? b=some o'/\o'.dict=o.dict
theorem KD.refl(h:Heap):KD h h:=λ_ o e=>⟨o,e,rfl⟩
theorem KD.trans{a b c:Heap}(x:KD a b)(y:KD b c):KD a c:=λp o e=>by obtain⟨o1,e1,d1⟩:=x p o e;obtain⟨o2,e2,d2⟩:=y p o1 e1;exact⟨o2,e2,d2.trans d1⟩
theorem KD.push(h:Heap)(o:Obj):KD h (h.push o):=λb u e=>⟨u,Heap.get?_push_of_some _ e,rfl⟩
def uP(f:Obj->Obj):Prop:=∀o:Obj,o.isFreed=false->(f o).isFreed=false/\(f o).dict=o.dict
theorem KD.upd(h:Heap)(a:Addr){f:Obj->Obj}(hf:uP f):KD h (h.update a f):=λb u e=>by
 by_cases z:a=b
 ·subst z;obtain⟨h1,h2⟩:=hf u (Heap.get?_some_iff.mp e).2;exact⟨f u,Heap.get?_update_self f e h1,h2⟩
 ·exact⟨u,(Heap.get?_update_other h f z).trans e,rfl⟩
inductive Mild{α:Type}:Sem α->Prop
 |pure (a:α):Mild (.pure a)
 |unsupported (x:String):Mild (.unsupported x)
 |rule {t:String} {k:Unit->Sem α}:(∀u,Mild (k u))->Mild (.rule t k)
 |at{p:Pos} {k:Unit->Sem α}:(∀u,Mild (k u))->Mild (.at p k)
 |load {a:Addr} {p:Option Value} {k:Obj->Sem α}:(∀o,Mild (k o))->Mild (.load a p k)
 |update {a:Addr} {p:Option Value} {f:Obj->Obj} {k:Unit->Sem α}:uP f->(∀u,Mild (k u))->Mild (.update a p f k)
 |alloc {o:Obj} {k:Addr->Sem α}:(∀a,Mild (k a))->Mild (.alloc o k)
 |stack {k:List (Code×Pos)->Sem α}:(∀l,Mild (k l))->Mild (.stack k)
theorem bK{α β:Type}{t:Sem α}{f:α->Sem β}(ht:Mild t)(hf:∀a,Mild (f a)):Mild (t >>= f):=by
 show Mild (t.bind f)
 induction ht with
 |pure a=>exact hf a
 |unsupported x=>exact .unsupported x
 |rule _ ih=>exact .rule ih
 | «at» _ ih=>exact .at ih
 |load _ ih=>exact .load ih
 |update s _ ih=>exact .update s ih
 |alloc _ ih=>exact .alloc ih
 |stack _ ih=>exact .stack ih
theorem fA{α:Type}(a:α):Mild (pure a:Sem α):=.pure a
theorem AE{α:Type}(M:Model)(Γ:PySem.Ctx){h0:Heap}{t:Sem α}(m:Mild t){Q:α->Pos->Shared->Prop}{E E':Value->Pos->Shared->Prop}:∀{p:Pos} {s:Shared},KD h0 s.heap->Sem.wp M Γ t Q E p s->Sem.wp M Γ t (λa p' s'=>Q a p' s'/\KD h0 s'.heap) E' p s:=by
 induction m with
 |pure a=>intro p s hk h;rw[Sem.wp]at h ⊢;exact⟨h,hk⟩
 |unsupported x=>intro p s hk h;rw[Sem.wp]at h;exact h.elim
 |rule _ ih=>intro p s hk h;rw[Sem.wp]at h ⊢;exact ih () hk h
 | «at» _ ih=>intro p s hk h;rw[Sem.wp]at h ⊢;exact ih () hk h
 |load _ ih =>intro p s hk h;rw[Sem.wp]at h ⊢;obtain⟨o,e,h⟩:=h;exact⟨o,e,ih o hk h⟩
 |update sf _ ih =>intro p s hk h;rw[Sem.wp]at h ⊢;exact⟨h.1,ih () (hk.trans (KD.upd s.heap _ sf)) h.2⟩
 |alloc _ ih =>intro p s hk h;rw[Sem.wp]at h ⊢;exact ih _ (hk.trans (KD.push s.heap _)) h
 |stack _ ih=>intro p s hk h;rw[Sem.wp]at h ⊢;exact ih _ hk h
theorem mx{α:Type}{M:Model}{A:Around}{t:Sem α}{Q:α->Shared->Prop}{E E':Value->Shared->Prop}{s:Shared}(m:Mild t)(h:wpAny M A t Q E s):wpAny M A t (λa s'=>Q a s'/\KD s.heap s'.heap) E' s:=λΓ p hΓ =>AE M Γ m (KD.refl _) (h Γ p hΓ)
theorem Bw(f:Array Value->Array Value):uP (Obj.mapFields f):=λo h=>by
 unfold Obj.mapFields;split
 ·exact⟨rfl,rfl⟩
 ·exact⟨h,rfl⟩
theorem sw(a:Addr):Mild (load a):=.load λ_=>.pure _
theorem FJ(v:Value):Mild (fieldsOf v):=by
 unfold fieldsOf;split
 ·refine bK (sw _) λo=>?_
  split<;>constructor
 ·constructor
theorem pO(v:Value)(i:Nat):Mild (field v i):=by
 unfold field;refine bK (FJ v) λvs=>?_
 split<;>constructor
theorem sv(v:Value)(i:Nat)(x:Value):Mild (setField v i x):=by
 unfold setField;split
 ·unfold updateField;refine bK (sw _) λo=>?_
  split
  ·split
   ·exact .update (Bw _) λ_=>fA _
   ·constructor
  ·constructor
 ·constructor
theorem ss(e:Value)(fr:Option Addr):Mild (setFlight e fr):=by
 unfold setFlight;refine bK (pO e 1) λtb=>?_
 split
 ·exact sv _ _ _
 ·constructor
theorem sr:Mild (stack:Sem (List (Code×Pos))):=.stack λ_=>.pure _
theorem xH:∀l:List Env,Mild (readyFrames l)
 | []=>fA _
 |env::outer=>by
  unfold readyFrames;split
  ·refine bK (sw _) λo=>?_
   split
   ·constructor
   ·refine bK ?_ λim=>bK ?_ λbk=>bK ?_ λ_=>xH outer
    ·unfold behindIsImport;split
     ·constructor
     ·split
      ·constructor
      ·exact bK (pO _ _) λ_=>fA _
    ·unfold keptBack;split
     ·split
      ·constructor
      ·refine bK ?_ λb=>fA _
       unfold underTheClaimsCaller;exact bK sr λ_=>fA _
     ·constructor
    ·exact .update (λo h=>⟨by obtain⟨a,b,c,d⟩:=o;cases c<;>first |rfl |exact h,rfl⟩) λ_=>fA _
  ·constructor
theorem FI(env:Env):Mild (PySem.frameOf env):=by
 unfold PySem.frameOf frameEnvs;refine bK ?_ λl=>bK ?_ λo=>?_
 ·exact bK sr λ_=>fA _
 ·generalize l.dropWhile _=l';unfold frameObject;split
  ·constructor
  ·exact bK (xH _) λ_=>fA _
 ·split<;>constructor
theorem FK(f:Addr)(b:Bool):Mild (entryPlaceOf f b):=by
 unfold entryPlaceOf;refine bK sr λl=>?_
 split<;>constructor
theorem FG(ty:String)(vs:List Value):Mild (newFields ty vs):=by
 have as':∀dt:Data,Mild (newObjAsIs (.type ty) dt none):=λdt=>by
  unfold newObjAsIs;refine bK (.alloc λ_=>.pure _) λa=>?_
  exact fA _
 unfold newFields newObj;dsimp only
 split
 ·exact bK (.unsupported _) λ_=>as' _
 ·exact as' _
theorem FH(a b c d e:Value)(pl:List Value):Mild (EntryCells.newEntry a b c d e pl):=FG _ _
theorem xG(e hd:Value)(env:Env)(f:Addr):Mild (do setField e 1 (<- EntryCells.newEntry hd (<- PySem.frameOf env) .none (rawInt f) .none (<- entryPlaceOf f (hd != .none))):Sem Unit) :=
 bK (FI env) λfr=>bK (FK _ _) λpl=>bK (FH _ _ _ _ _ _) λne=>sv _ _ _
theorem xI(e:Value)(env:Env):Mild (noteFrame e env):=by
 unfold noteFrame;split
 ·refine bK (pO _ _) λhd=>?_
  dsimp only
  split
  ·refine bK (pO _ _) λx=>?_
   split
   ·exact fA _
   ·exact bK (sv _ _ _) λ_=>xG _ _ _ _
  ·exact xG _ _ _ _
 ·constructor
theorem xJ(env:Env)(e:Value):Mild (leaving env e):=bK (xI e env) λ_=>ss e none
open PySem PySem.Spec PyProof.Rows PySem.W PySem.Calls PySem.Builtin PySem.Builtin.ObjectAttr
noncomputable def mC:List Value:=[.type "ValueError",.type "Exception",.type "BaseException",.type "object"]
noncomputable def iB:List Value->Bool
 |.ref _::r=>r == mC ||iB r
 |_=>false
theorem vk(self:Value):∀{l:List Value},iB l=true->refuseLoop self "__setattr__" l=pure ()
 |.ref c::r,e=>by
  rw[refuseLoop_ref];rcases Bool.or_eq_true_iff.mp (show(r == mC ||iB r)=true from e)with q |q
  ·rw[beq_iff_eq.mp q];exact PySem.F.store_ValueError.passes self
  ·exact vk self q
theorem vm:∀{l:List Value},iB l=true->l.contains (.type "object")=true
 |.ref c::r,e=>by
  rcases Bool.or_eq_true_iff.mp (show(r == mC ||iB r)=true from e)with q |q
  ·rw[beq_iff_eq.mp q];rfl
  ·rw[List.contains_cons,vm q,Bool.or_true]
structure XCls(K:Frag)(C:Addr):Prop where
 ve:∃cd,clsIn K C=some cd/\iB cd.mro=true/\cd.hasDict=true
 sa:findIn K (.ref C) "__setattr__"=some (some (.builtin "object.__setattr__"))
noncomputable def qy(K:Frag)(C:Addr):Bool:=(match clsIn K C with |some cd=>iB cd.mro&&cd.hasDict |none=>false)&&findIn K (.ref C) "__setattr__" == some (some (.builtin "object.__setattr__"))
theorem XCls.of{K:Frag}{C:Addr}(h:qy K C=true):XCls K C:=by
 unfold qy at h
 obtain⟨h1,h2⟩:=Bool.and_eq_true_iff.mp h;refine⟨?_,beq_iff_eq.mp h2⟩;cases e:clsIn K C with
 |none=>rw[e]at h1;cases h1
 |some cd=>rw[e]at h1;obtain⟨a,b⟩:=Bool.and_eq_true_iff.mp h1;exact⟨cd,rfl,a,b⟩
section
variable {prog:Program}{w:World}{A:Around}{E:Value->Shared->Prop}{s:Shared}{K:Frag}{x C:Addr}
theorem Ax{ox:Obj}{vs:Array Value}{name:Str}{v:Value}{Q:Unit->Shared->Prop}(X:K.In s.heap)(T:XCls K C)(hx:s.heap.get? x=some ox)(hc:ox.cls=.ref C)(hd:ox.dict=none)(hf:ox.data=.fields vs)(hn:findIn K (.ref C) name=some none)
 (h:∀h' tk,h'.get? x=some { ox with dict:=some s.heap.objs.size }->h'.Ns1 s.heap.objs.size (λy=>if y=name then some v else none)->(∀b o,b≠x->s.heap.get? b=some o->h'.get? b=some o)->Q () { s with heap:=h',toks:=tk }) :
 wpAny (model prog w) A (setAttr (.ref x) name v) Q E s:=by
 obtain⟨hh,g,d,t,os⟩:=s;obtain⟨cd,hcd,hve,hdict⟩:=T.ve;have I:PySem.W.InstAt hh x ox C none:=⟨hx,hc,by unfold notCls;rw[hf],by rw[hd];trivial⟩;refine set_plain X I T.sa ?_;show codeAny _ _ (.call (.builtin "object.__setattr__") ⟨[.ref x,.str name t,v],[]⟩) _ ⟨hh,g,d,t+1,os⟩;have SF:=PySem.F.store_object
 have ne:cd.mro.isEmpty=false:=by
  cases q:cd.mro with
  |nil=>rw[q]at hve;cases hve
  |cons _ _=>rfl
 have sub:Looks (model prog w) hh (isInstance (.ref x) (.type "object")) true:=I.type.andThen (looks_mroIn X (by unfold mroIn;rw[hcd,Option.bind_some,if_neg (by rw[ne];decide),vm hve]));refine codeAny_call_builtin SF.slot.plain SF.entry (@check_slot (model prog w) _ _ _ "object.__setattr__" "object" "__setattr__" (.ref x) [.str name t,v] [] _ SF.kind SF.split sub (SF.args (.ref x) (.str name t) v) ?_);have hm:Looks (model prog w) hh (mroOf (.ref C)) cd.mro:=(looks_clsIn X hcd).andThen .now;rw[osa_eq,refuse_eq];refine wpAny_bind (wpAny_bind (I.type.here (wpAny_bind (hm.here ?_))));rw[vk _ hve];refine wpAny_pure (wpAny_bind (I.type.here (wpAny_bind (Looks.here (s:=⟨hh,g,d,t+1,os⟩) (looks_findIn X hn) (wpAny_bind (wpAny_pure ?_))))));show wpAny _ _ (storeInOwnDict (.ref x) (.ref C) (.str name t) name v false) _ _ _;unfold storeInOwnDict;refine wpAny_bind (wpAny_pure ?_);show wpAny _ _ (ownDictForStores (.ref x) >>= _) _ _ _;have hxs:x≠hh.objs.size:=Nt (Heap.lt_size hx);have hx1:(hh.push { cls:=.type "dict",data:=.dict #[] }).get? x=some ox:=Heap.get?_push_of_some _ hx;show wpAny _ _ (instanceDict x true >>= _) _ _ _;unfold instanceDict;refine wpAny_bind (wpAny_bind (wpAny_loadPart hx ?_));rw[hc,hd,hf];refine wpAny_bind (Looks.here (s:=⟨hh,g,d,t+1,os⟩) (looks_clsIn X hcd) ?_);rw[hdict];have td:typeHasDict (.ref C)=true:=by rfl
 rw[if_neg (by decide),td];dsimp only
 rw[if_neg (by decide)];refine wpAny_bind (wpAny_alloc' (wpAny_bind (wpAny_update' hx1 (wpAny_pure ?_))));have hgd:((hh.push { cls:=.type "dict",data:=.dict #[] }).update x λo=>{ o with dict:=some hh.objs.size }).get? hh.objs.size=some { cls:=.type "dict",data:=.dict #[] }:=(Heap.get?_update_other _ _ hxs).trans (Heap.get?_push_size _ rfl);have hnd:((hh.push { cls:=.type "dict",data:=.dict #[] }).update x λo=>{ o with dict:=some hh.objs.size }).Ns hh.objs.size (λ_=>none):=⟨_,#[],_,hgd,rfl,λe he=>absurd he (by simp),λ_=>rfl⟩;show wpAny _ _ (storeInDict hh.objs.size (.str name t) name v) _ _ _;unfold storeInDict newKeyGuard;refine wpAny_bind (wpAny_pure (wpAny_bind (wpAny_nsSet1 (Heap.Ns1.of_empty hnd) λh' hn' hs=>?_)));obtain⟨oD,esD,epD,hoD,hdD,hcD⟩:=hn'.count (Within.cons name v Within.nil);have hlen:esD.size<=sizeLine:=Nk hcD (by rw[Nj,NT,sizeLine_eq];omega);refine wpAny_bind (wpAny_lookBehind hoD (by rw[hdD];exact pastItsLine_dict (Nat.le_succ_of_le hlen)) (wpAny_pure ?_));refine h h' _ ?_ hn' λb o hb e=>?_
 ·refine(hs.2 x hxs).trans (Heap.get?_update_self _ hx1 ?_);have fr:=(Heap.get?_some_iff.mp hx).2;obtain⟨oc,od,odt,osl⟩:=ox;cases odt<;>first |rfl |exact fr
 ·exact(hs.2 b (Nt (Heap.lt_size e))).trans ((Heap.get?_update_other _ _ (Ne.symm hb)).trans (Heap.get?_push_of_some _ e))
theorem Ay{ox:Obj}{dx:Addr}{vs:Array Value}{mA:Str->Option Value}{name:Str}{v:Value}{expr:Bool}{Q:Value->Shared->Prop}(X:K.In s.heap)(T:XCls K C)(Te:ECls K C)(hx:s.heap.get? x=some ox)(hc:ox.cls=.ref C)(hd:ox.dict=some dx)(hf:ox.data=.fields vs)(hn:findIn K (.ref C) name=some none)(hns:s.heap.Ns1 dx mA)(hv:mA name=some v)(hh:handedIn v=true)
 (h:Q v { s with toks:=s.toks+1 }):wpAny (model prog w) A (getAttr (.ref x) name expr) Q E s:=by
 obtain⟨hp,g,d,t,os⟩:=s;obtain⟨cd,hcd,hve,hdict⟩:=T.ve;obtain⟨od,hod,hlk⟩:=yd hns;have I:PySem.W.InstAt hp x ox C (some od):=⟨hx,hc,by unfold notCls;rw[hf],by rw[hd];exact hod⟩;have LT:=I.type (M:=model prog w);have L1:=looks_findIn (M:=model prog w) X Te.ga;have L2:=looks_findIn (M:=model prog w) X Te.gn
 have ff:findObj K C (some od) name=some (.value v):=by unfold findObj;rw[hcd,hn,Option.bind_some,Option.bind_some];show(PySem.W.ownOf cd (some od) name).bind _=_;unfold PySem.W.ownOf;rw[if_pos hdict];show(lookIn name od).bind _=_;rw[hlk,hv];rfl
 have LF:=looks_find (M:=model prog w) X I ff;have f3:=F.excAttr_ValueError.ga.bind (.ref x);have hx2:(Value.builtin "BaseException.__getattribute__" == Value.builtin "object.__getattribute__")=false:=by decide +kernel
 have hx1:(onTheHeap (Value.ref C)&&Value.builtin "BaseException.__getattribute__" == Value.builtin "object.__getattribute__")=false:=by rw[hx2];rfl
 have ho:=handedOut_of hh;unfold getAttr getAttrBy;refine wpAny_bind (wpAny_mkText (wpAny_holding (wpAny_bind (LT.at (wpAny_bind (L1.at ?_))))));dsimp only
 rw[if_neg (by rw[hx1];exact Nn)];unfold getAttrByItsOwn
 repeat (any_goals (first |assumption | (with_reducible refine wpAny_bind (L2.at ?_)) | (with_reducible refine L2.at ?_) |wp_step))
 have hb:(expr&&onTheHeap (Value.builtin "BaseException.__getattribute__"))=false:=by cases expr<;>rfl
 rw[if_neg (by rw[hb];exact Nn)]
 repeat (any_goals (first |assumption |wp_step))
 refine codeAny_call_builtin F.excAttr_ValueError.ga.plain F.entry_bexc_ga (ze X LT Te.mB ?_)
 repeat (any_goals (first |assumption | (with_reducible refine wpAny_bind (LT.at ?_)) | (with_reducible refine LT.at ?_) | (with_reducible refine wpAny_bind (LF.at ?_)) | (with_reducible refine LF.at ?_) |wp_step))
end
section
variable {prog:Program}{w:World}{A:Around}{E:Value->Shared->Prop}{h:Heap}{g:Array GenState}{d:Drawn}{t:Nat}{os:OsState}
variable {nm q:Str}{C N fI:Addr}{bs bm bmB:List Value}{hdct:Bool}{sn:List Str}{sub:List Value}{ab:Bool}{col:Option Bool}{dd:Option Addr}{k0 k1 k2 k3 k5:Option Value}{B newId initId:String}{mN:Str->Option Value}{oI:Obj}{rest:List Value}
noncomputable def cn(C t:Addr):Obj:={ cls:=.ref C,data:=.fields #[.ref t,.none,.none,.none,.bool false,.none] }
theorem Aw(F:ExcBaseFacts B newId initId bmB)(T:OwnTail h bmB bm){Q:Fin->Shared->Prop}(hC:h.get? C=some (excClassObj nm q C N bs bm hdct sn sub ab col dd k0 k1 k2 k3 k5 newId))(hn:h.Ns N mN)(hi:mN "__init__"=some (.ref fI))(hfI:h.get? fI=some oI)(hfc:oI.cls=.type "function")(hrest:rest.length<=sizeLine)
 (hq:wpAny (model prog w) A (call (.ref fI) (.ref (h.objs.size+1)::rest)) (λr s'=>r=.none/\Q (.done (.ret (.ref (h.objs.size+1)))) s') E ⟨(h.push { cls:=.type "tuple",data:=.seq rest.toArray }).push (cn C h.objs.size),g,d,t,os⟩) :
 wpAny (model prog w) A (Builtin.«type.__call__» ⟨.ref C::rest,[]⟩) Q E ⟨h,g,d,t,os⟩:=by
 have kk:∀b o,h.get? b=some o->((h.push { cls:=.type "tuple",data:=.seq rest.toArray }).push (cn C h.objs.size)).get? b=some o:=λb o e=>Heap.get?_push_of_some _ (Heap.get?_push_of_some _ e)
 have g0:((h.push { cls:=.type "tuple",data:=.seq rest.toArray }).push (cn C h.objs.size)).get? (h.objs.size+1)=some (cn C h.objs.size):=by
  have:=Heap.get?_push_size (h.push { cls:=.type "tuple",data:=.seq rest.toArray }) (o:=cn C h.objs.size) rfl
  rwa [Heap.size_push]at this
 have cC:(Value.ref C::bm).contains (.ref C)=true:=by simp
 repeat (first |with_reducible refine wpAny_loadPart_at hC ?_ |with_reducible refine wpAny_madeBy_exc hC ?_ |wp_step)
 refine codeAny_call_builtin_code (Code.quiet_builtin _ F.quiet) (wpAny_check_new_subT F T hC (codeAny_exc_new_subT F T hC ?_ hrest));have hC':=kk _ _ hC;have hn':=hn.keeps kk;have T':=T.keeps kk;have hf':=kk _ _ hfI;show wpAny _ _ _ _ _ ⟨(h.push { cls:=.type "tuple",data:=.seq rest.toArray }).push (cn C h.objs.size),g,d,t,os⟩;generalize (h.push { cls:=.type "tuple",data:=.seq rest.toArray }).push (cn C h.objs.size)=h2 at *
 unfold cn at g0
 unfold isInstance
 repeat (first |with_reducible refine wpAny_loadPart_at g0 ?_ | (with_reducible refine wpAny_isSubtype_exc hC' ?_;rw[cC]) |wp_step)
 show wpAny _ _ (typeLookup (.ref C) _) _ _ _;refine wpAny_typeLookup_tail hC' hn' T' F.mroIs F.init.lookup ?_;rw[hi];refine wpAny_holding (wpAny_bind ?_);unfold bindSpecial;refine wpAny_bind (wpAny_typeOf (T:="function") ⟨_,hf',hfc⟩ ?_);rw[if_pos (by decide)];refine wpAny_pure (wpAny_bind (wpAny_mono hq (λr s' hr=>?_) λ_ _ z=>z));obtain⟨rfl,z⟩:=hr
 wp_walk
 exact z
theorem AD(F:ExcBaseFacts B newId initId bmB)(T:OwnTail h bmB bm){Q:Value->Shared->Prop}(hC:h.get? C=some (excClassObj nm q C N bs bm hdct sn sub ab col dd k0 k1 k2 k3 k5 newId))(hn:h.Ns N mN)(hi:mN "__init__"=some (.ref fI))(hfI:h.get? fI=some oI)(hfc:oI.cls=.type "function")(hrest:rest.length<=sizeLine)
 (hq:wpAny (model prog w) (A.under (.builtin "type.__call__" ⟨.ref C::rest,[]⟩)) (call (.ref fI) (.ref (h.objs.size+1)::rest)) (λr s'=>r=.none/\Q (.ref (h.objs.size+1)) s') E ⟨(h.push { cls:=.type "tuple",data:=.seq rest.toArray }).push (cn C h.objs.size),g,d,t,os⟩) :
 wpAny (model prog w) A (call (.ref C) rest) Q E ⟨h,g,d,t,os⟩:=by
 have a1:=tc_lookup;have a2:=tc_bind (.ref C);have hT:(⟨h,g,d,t,os⟩:Shared).TypeIs (.ref C) "type":=⟨_,hC,rfl⟩;refine wpAny_call (codeAny_of_tree ?_);show wpAny _ _ (callAny (.ref C) _) _ _ _
 repeat (any_goals (first |assumption |with_reducible refine wpAny_loadPart_at hC ?_ |wp_step))
 refine⟨rfl,codeAny_call_builtin_at (Code.quiet_builtin _ (by decide +kernel)) entry_typeCall (wpAny_check_type_call_sub hC (Aw F T hC hn hi hfI hfc hrest ?_))⟩;exact hq
end
section
variable {M:Model}{A:Around}{E:Value->Shared->Prop}{s:Shared}{env:Env}
variable {nm q:Str}{C N:Addr}{bs bm:List Value}{hdct:Bool}{sn:List Str}{sub:List Value}{ab:Bool}{col:Option Bool}{dd:Option Addr}{k0 k1 k2 k3 k5:Option Value}{newId:String}
theorem CK{x:Sem Value}{Q:Flow->Shared->Prop}(hbase:bm.contains (.type "BaseException")=true)(hh:A.handled=none)
 (hx:wpAny M A x (λv s1=>∃e t d,v=.ref e/\s1.heap.get? C=some (excClassObj nm q C N bs bm hdct sn sub ab col dd k0 k1 k2 k3 k5 newId)/\s1.heap.get? e=some { cn C t with dict:=d }/\E (.ref e) s1) E s) :
 wpAny M A (raiseStmt env (some x) none) Q E s:=by
 have cB:(Value.ref C::bm).contains (.type "BaseException")=true:=by rw[List.contains_cons,hbase,Bool.or_true]
 unfold raiseStmt;refine wpAny_bind (wpAny_mono hx (λv s1 h1=>?_) λ_ _ z=>z);obtain⟨e,t,d,rfl,hC,he,hE⟩:=h1;obtain⟨hp,g,d',tk,os⟩:=s1;unfold cn at he
 repeat (first |with_reducible refine wpAny_loadPart_at he ?_ |with_reducible refine wpAny_loadPart_at hC ?_ | (with_reducible refine wpAny_isSubtype_exc hC ?_;rw[cB]) |wp_step)
 exact wpAny_raiseNew_none hh hE
end
noncomputable def CXV(P:Program)(w:World):CXT:=λouter H s E e s'=>∃d:Option Addr,CXW P w outer H s (λc _ H'=>E c d H') e s'/\∃ea ob,e=.ref ea/\s'.heap.get? ea=some ob/\ob.dict=d
noncomputable def EX(C a:Addr)(d:Option Addr):HO:=.ext λh=>∃t,h.get? a=some { cn C t with dict:=d }
theorem zf{P:Program}{w:World}{H:Hp}{h:Heap}{C a t:Addr}{d:Option Addr}(e:h.get? a=some { cn C t with dict:=d }):ObjOk P w H h a (EX C a d):=⟨⟨t,e⟩,⟨_,e⟩,λh1 h2 ⟨t',e'⟩ k=>⟨t',k _ e'⟩⟩
section
variable {P:Program}{w:World}{K:PySem.W.Frag}{mg:Str->Option Value}{base:Heap}{N:List Str}{qual:Str}{scope:Scope}{f:Addr}{cd:Value}{A:Around}{outer:List Env}{s:Shared}{H:Hp}{E:XK}{pins:List (Addr×Obj)}{σ:St}{H1:Hp}{s1:Shared}
theorem Az{e C:Addr}{oe:Obj}{vs:Array Value}{a0:Value}(I:Inv (bz (CXV P w) P w K mg base N qual scope f cd A outer s H E) pins σ H1 s1)(he:s1.heap.get? e=some oe)(hc:oe.cls=.ref C)(hd:oe.data=.fields vs)(h0:vs[0]?=some a0)(h1:vs[1]?=some .none)(hn:H1 e=none)(hs:s.heap.get? e=none)(hE:E (.ref C) oe.dict H1) :
 (bz (CXV P w) P w K mg base N qual scope f cd A outer s H E).xe (.ref e) s1:=by
 have hst:=I.stack;have hfree:=I.stkFree;have hfrm:(envOfC qual scope s.heap.objs.size f cd).frame=some s.heap.objs.size:=rfl;have efr:frs (envOfC qual scope s.heap.objs.size f cd::outer)=s.heap.objs.size::frs outer:=yS hfrm;have hin:∀env∈(envOfC qual scope s.heap.objs.size f cd::outer),∀b,env.frame=some b->b∈e::frs (envOfC qual scope s.heap.objs.size f cd::outer):=λenv hv b hb=>NQ _ (List.mem_filterMap.mpr ⟨env,hv,hb⟩)
 have b1:∀b o,s.heap.get? b=some o->b∉frs outer->∃o',s1.heap.get? b=some o'/\(PySem.W.hideAll s1.heap (e::frs (envOfC qual scope s.heap.objs.size f cd::outer))).get? b=some o':=λb o q hb=>by
  obtain⟨o',q'⟩:=I.base.there b o q (λz=>nomatch z);refine⟨o',q',PySem.W.hideAll_get _ q' λz=>?_⟩;rw[efr]at z;rcases Ni.mp z with z |z
  ·rw[z,hs]at q;cases q
  ·rcases Ni.mp z with z |z
   ·exact absurd (Heap.lt_size q) (by rw[z];exact NA _)
   ·exact hb z
 have b2:∀b x,H1 b=some x->∃o',s1.heap.get? b=some o'/\(PySem.W.hideAll s1.heap (e::frs (envOfC qual scope s.heap.objs.size f cd::outer))).get? b=some o':=λb x q=>by
  obtain⟨o',q'⟩:∃o',s1.heap.get? b=some o':=E7 (I.hok b x q);refine⟨o',q',PySem.W.hideAll_get _ q' λz=>?_⟩;rcases Ni.mp z with z |z
  ·rw[z,hn]at q;cases q
  ·rw[hfree b z]at q;cases q
 have hB:(PySem.W.hideAll s1.heap (e::frs (envOfC qual scope s.heap.objs.size f cd::outer))).get? e=none:=PySem.W.hideAll_none _ (NY ..)
 have fd:∀b∈frs outer,∀o,s1.heap.get? b=some o->∀ws,o.data≠.fields ws:=λb hb o q=>by obtain⟨_,o',q',hdd⟩:=I.funs.mem hb;have q'':s1.heap.get? b=some o':=q';rw[q]at q'';cases q'';exact hdd
 refine wpAny_mono (mx (E':=λ_ _=>False) (xJ _ _) (wpAny_leaving_firstW (L:=s.heap.objs.size) (a0:=a0) I.ok.frames (PySem.W.funFrames_hide hst hin) hfrm he (λb o q=>PySem.W.of_hideAll _ q) hB hd h1 h0 (Q:=λ_ s''=>∃h'',s''={ s1 with heap:=h'' }/\Heap.FlyingW (PySem.W.hideAll s1.heap (e::frs (envOfC qual scope s.heap.objs.size f cd::outer))) outer e oe.cls a0 h''/\s1.heap.UpToSlots h'') (E:=λ_ _=>False) λh' hL=>?_)) (λ_ s'' hq=>?_) (λ_ _ z=>z.elim)
 ·obtain⟨k1,⟨_,_,k2⟩,k3,k4⟩:=hL;exact⟨h',rfl,⟨k1,hB,k2,k3⟩,k4⟩
 ·obtain⟨⟨h'',rfl,fl,up⟩,kd⟩:=hq;obtain⟨o',eo',od'⟩:=kd e oe he;rw[hc]at fl;refine⟨oe.dict,⟨e,.ref C,a0,_,H1,rfl,I.os,I.bare,?_,I.hok.back b2 fl.1,fl,λb o q hb=>?_,λb x q=>?_,hn,hs,hE⟩,e,o',rfl,eo',od'⟩
  ·exact I.base.back (λb o q hb=>let⟨o',q1,q2⟩:=b1 b o q hb;⟨o',q1,fl.1 _ _ q2⟩) I.ok.frf fd up
  ·obtain⟨o',q1,q2⟩:=b1 b o q hb;exact⟨o',fl.1 _ _ q2,q2⟩
  ·obtain⟨o',q1,q2⟩:=b2 b x q;exact⟨o',fl.1 _ _ q2,q2⟩
theorem AB{E':XK}{e:Value}{s2:Shared}(I:Inv (bz (CXV P w) P w K mg base N qual scope f cd A outer s H E) pins σ H1 s1)(h:CXV P w (bz (CXV P w) P w K mg base N qual scope f cd A outer s H E).stack H1 s1 E' e s2)(hE:∀c d H',E' c d H'->E c d H') :
 (bz (CXV P w) P w K mg base N qual scope f cd A outer s H E).xe e s2:=by
 obtain⟨d,hW,ea,ob,rfl,eo,ed⟩:=h;have I':Inv (bz (CXW P w) P w K mg base N qual scope f cd A outer s H (λc _ H'=>E c d H')) pins σ H1 s1:=(I.wish (bz (CXW P w) P w K mg base N qual scope f cd A outer s H (λc _ H'=>E c d H')).xe);have x:=AC (E':=λc _ H'=>E' c d H') I' hW (λc _ H' z=>hE c d H' z);have x':wpAny (model P w) (A.deeper (envOfC qual scope s.heap.objs.size f cd)) (leaving (envOfC qual scope s.heap.objs.size f cd) (.ref ea)) (λ_ s''=>CXW P w outer H s (λc _ H'=>E c d H') (.ref ea) s'') (λe' s''=>CXW P w outer H s (λc _ H'=>E c d H') e' s'') s2:=x;refine wpAny_mono (mx (E':=λ_ _=>False) (xJ _ _) x') (λ_ s'' hq=>?_) (λ_ _ z=>z.elim);obtain⟨h1,kd⟩:=hq;obtain⟨o',eo',od'⟩:=kd ea ob eo;exact⟨d,h1,ea,o',rfl,eo',od'.trans ed⟩
theorem bh{E':XK}(hE:∀c d H',E' c d H'->E c d H'):gD (CXV P w) (bz (CXV P w) P w K mg base N qual scope f cd A outer s H E) E':=λ_ _ _ _ _ _ I h=>AB I h hE
theorem wR{X:Cx}:gD (CXV X.prog X.w) X E0:=λ_ _ _ _ _ _ _ h=>by obtain⟨_,h,_⟩:=h;obtain⟨_,_,_,_,_,_,_,_,_,_,_,_,_,_,_,z⟩:=h;exact z.elim
end
section
variable {X:Cx}{pins:List (Addr×Obj)}{σ:St}{H:Hp}{s:Shared}{a C:Addr}{f:Str}
theorem Hz{h':Heap}{tk:Nat}{t:Addr}{y:V}{u:Value}(I:Inv X pins σ H s)(e:H a=some (EX C a none))(ry:RelV y u)(ha:h'.get? a=some { cn C t with dict:=some s.heap.objs.size })(hn:h'.Ns1 s.heap.objs.size (λg=>if g=f then some u else none))(k:∀b o,b≠a->s.heap.get? b=some o->h'.get? b=some o) :
 Inv X pins σ (upd (upd H s.heap.objs.size (.xd [(f,y)])) a (EX C a (some s.heap.objs.size))) { s with heap:=h',toks:=tk }:=by
 have fr:H s.heap.objs.size=none:=I.hok.fresh (Ng _);have nd:a≠s.heap.objs.size:=bj e fr;have other:∀b,b≠a->b≠s.heap.objs.size->upd (upd H s.heap.objs.size (.xd [(f,y)])) a (EX C a (some s.heap.objs.size)) b=H b:=λb h1 h2=>by rw[upd_ne h1,upd_ne h2]
 have na:∀b o,H b=some o->(∀φ,o≠.ext φ)->b≠a:=λb o q h1 z=>by rw[z,e]at q;exact h1 _ (Option.some.inj q).symm
 have ns:∀b o,s.heap.get? b=some o->b≠s.heap.objs.size:=λb o q=>Nt (Heap.lt_size q)
 have nf:∀b o,H b=some o->b≠s.heap.objs.size:=λb o q=>bj q fr
 refine I.un ⟨λb o q n _ _=>k b o (λz=>by rw[z,e]at n;cases n) q,λb o q n _ _=>⟨o.slots,k b o (λz=>by rw[z,e]at n;cases n) q⟩,λb o q n _=>?_,λb o q _=>?_,λb xs q=>?_,λb o u q=>?_,λb ps q=>⟨#[],?_⟩⟩ λb o q=>?_
 ·rw[other b (λz=>by rw[z,e]at n;cases n) (ns b o q)];exact n
 ·by_cases z:b=a
  ·exact⟨_,by rw[z];exact ha⟩
  ·exact⟨o,k b o z q⟩
 ·rw[other b (na b _ q λφ z=>by cases z) (nf b _ q)];exact q
 ·rw[other b (na b _ q λφ z=>by cases z) (nf b _ q)];exact q
 ·rw[other b (na b _ q λφ z=>by cases z) (nf b _ q),Array.append_empty];exact q
 ·by_cases z:b=a
  ·subst z;rw[aj]at q;cases q;exact zf ha
  ·rw[upd_ne z]at q;by_cases z2:b=s.heap.objs.size
   ·subst z2;rw[aj]at q;cases q;refine⟨_,hn,λg=>?_⟩;by_cases zg:g=f
    ·subst zg;rw[if_pos rfl];show RelO (List.lookup g [(g,y)]) (some u);simp only[List.lookup,beq_self_eq_true];exact ry
    ·rw[if_neg zg];have:(g == f)=false:=beq_false_of_ne zg;show RelO (List.lookup g [(f,y)]) none;simp only[List.lookup,this];trivial
   ·rw[upd_ne z2]at q;refine(I.hok b o q).stay (λc v hc r=>k c v ?_ r) (λc r=>?_) λc xs r=>?_
    ·rcases hc with rfl |hc
     ·exact z
     ·exact na c _ hc λφ z=>by cases z
    ·rw[other c (na c _ r λφ z=>by cases z) (nf c _ r)];exact r
    ·rw[other c (na c _ r λφ z=>by cases z) (nf c _ r)];exact r
end
def sXf(K:PySem.W.Frag)(ta tv:TE)(f:Str):TS:=λD σ H=>tv σ H λy H1=>ta σ H1 λx H2=>∃a C,x=.ref a/\H2 a=some (EX C a none)/\XCls K C/\NoAttr K C f/\∀dx,H2 dx=none->dx≠a->D.nx σ (upd (upd H2 dx (.xd [(f,y)])) a (EX C a (some dx)))
section
variable {X:Cx}{o value:Expr}{f:Str}{pos pos':Pos}{ta tv:TE}
theorem C2(ha:PE X o ta)(hv:PE X value tv)(hs:swapsWith value (some (.Attribute o f pos')) pos.line X.env=pure false):PS X (.Assign [.Attribute o f pos'] value pos) (sXf X.K ta tv f):=by intro pins s σ H D I h;refine plainObj_wpAny_Assign_Attribute (thn (hv pins s σ H _ I h) λu s1 ⟨y,H1,I1,ry,q⟩=>thn (ha pins s1 σ H1 _ I1 q) λov s2 ⟨x,H2,I2,rx,a,C,ex,ea,c,n,q2⟩=>?_) hs;subst ex;obtain rfl:ov=Value.ref a:=rx;obtain⟨⟨t,et⟩,_,_⟩:=(show ObjOk X.prog X.w H2 s2.heap a (EX C a none)from I2.hok a _ ea);have fr:H2 s2.heap.objs.size=none:=I2.hok.fresh (Ng _);refine Ax I2.kIn c et rfl rfl rfl n λh' tk e1 e2 e3=>⟨σ,_,Hz (t:=t) I2 ea ry e1 e2 e3,q2 _ fr (Ne.symm (bj ea fr))⟩
end
def o8(C:Addr)(f:Str):Sp:=λvs H Q _=>∃(e:Addr) (v:V),vs=[.ref e,v]/\H e=some (EX C e none)/\∀dx,H dx=none->dx≠e->Q .non (upd (upd H dx (.xd [(f,v)])) e (EX C e (some dx)))
structure OwnX(x:Str)(C fI:Addr)(bmB:List Value)(newId:String)(mg:Str->Option Value)(h:Heap):Prop where
 bound:mg x=some (.ref C)
 obj:∃bm N nm q bs hdct sn sub ab col dd k0 k1 k2 k3 k5 mN,h.get? C=some (excClassObj nm q C N bs bm hdct sn sub ab col dd k0 k1 k2 k3 k5 newId)/\h.Ns N mN/\mN "__init__"=some (.ref fI)/\OwnTail h bmB bm
 fn:∃oI,h.get? fI=some oI/\oI.cls=.type "function"
def Bf(E:XK)(c:Value)(f:Str)(t:TA):TS:=λ_ σ H=>t σ H λvs H1=>∃v,vs=[v]/\∀dx,H1 dx=none->E c (some dx) (upd H1 dx (.xd [(f,v)]))
section
variable {X:Cx}{pins:List (Addr×Obj)}{σ:St}{H:Hp}{s:Shared}{a:Addr}{φ:Heap->Prop}
theorem Inv.untrack{H':Hp}{s':Shared}(I:Inv X pins σ H s)(e:H a=some (.ext φ))(J:Inv X pins σ H' s')(hn:H' a=none):Inv X pins σ (λb=>if b=a then none else H b) s:=by
 have other:∀b,b≠a->(if b=a then none else H b)=H b:=λb h1=>if_neg h1
 have na:∀b o,H b=some o->(∀φ,o≠.ext φ)->b≠a:=λb o q h1 z=>by rw[z,e]at q;exact h1 _ (Option.some.inj q).symm
 refine⟨I.ok,I.os,I.bare,⟨I.base.keep,I.base.slot,λb o q n hx=>?_,I.base.there,λb xs q=>?_,λb o u q=>?_,λb ps q=>?_⟩,I.loc,I.cell,?_,λx c q=>?_,λp hp=>?_,λb o q=>?_,I.len⟩
 ·show(if b=a then none else H b)=none;split
  ·rfl
  ·exact I.base.free b o q n hx
 ·have z:b≠a:=λz=>by have:=J.base.tups b xs q;rw[z,hn]at this;cases this
  rw[other b z];exact I.base.tups b xs q
 ·have z:b≠a:=λz=>by have:=J.base.frzs b o u q;rw[z,hn]at this;cases this
  rw[other b z];exact I.base.frzs b o u q
 ·have z:b≠a:=λz=>by obtain⟨m,this⟩:=J.base.tbls b ps q;rw[z,hn]at this;cases this
  rw[other b z];exact I.base.tbls b ps q
 ·show(if X.env.locals=a then none else H X.env.locals)=none;split
  ·rfl
  ·exact I.free
 ·show(if c=a then none else H c)=none;split
  ·rfl
  ·exact I.freeC x c q
 ·obtain⟨h1,h2,h3⟩:=I.pin p hp;refine⟨h1,?_,h3⟩;show(if p.1=a then none else H p.1)=none;split
  ·rfl
  ·exact h2
 ·have q':(if b=a then none else H b)=some o:=q;by_cases z:b=a
  ·rw[if_pos z]at q';cases q'
  ·rw[if_neg z]at q';refine(I.hok b o q').stay (λ_ _ _ r=>r) (λc r=>?_) λc xs r=>?_
   ·rw[other c (na c _ r λφ z=>by cases z)];exact r
   ·rw[other c (na c _ r λφ z=>by cases z)];exact r
end
section
variable {P:Program}{w:World}{K:PySem.W.Frag}{mg:Str->Option Value}{base:Heap}{N:List Str}{qual:Str}{scope:Scope}{f:Addr}{cd:Value}{A:Around}{outer:List Env}{s:Shared}{H:Hp}{E:XK}
theorem lu{x att:Str}{C fI:Addr}{bmB:List Value}{Bn newId initId:String}{np cpos pos:Pos}{e:Expr}{t:TA}{fd:FuncData}{ps:List Str}{k:Nat}(hg:Gl (bz (CXV P w) P w K mg base N qual scope f cd A outer s H E) x)(O:OwnX x C fI bmB newId mg base)(FB:ExcBaseFacts Bn newId initId bmB)
 (F:FnOk P w K mg base CX0 k fI fd ps (o8 C att)) (hr:Room (k+1) (bz (CXV P w) P w K mg base N qual scope f cd A outer s H E).A) (hb:Binds K fd ps []) (hk:PySem.W.keepIn K (.ref C)=true) (ha:PA (bz (CXV P w) P w K mg base N qual scope f cd A outer s H E) [e] t)
 (hdb:(x == ("__debug__":Str))=false:=by decide) (he:starEach [e] (envOfC qual scope s.heap.objs.size f cd)=(false,eval e (envOfC qual scope s.heap.objs.size f cd))::starEach [] (envOfC qual scope s.heap.objs.size f cd):=by rfl) (hpl:(backTo cpos (starEach [] (envOfC qual scope s.heap.objs.size f cd))).any (·.1)=false:=by rfl) :
 PS (bz (CXV P w) P w K mg base N qual scope f cd A outer s H E) (.Raise (some (.Call (.Name x np) [e] [] cpos)) none pos) (Bf E (.ref C) att t):=by
 intro pins s1 σ H1 D I h;obtain⟨tl,NN,nm,q,bs,hdct,sn,sub,ab,col,dd,k0,k1,k2,k3,k5,mN,hC,hN,hi,T⟩:=O.obj;obtain⟨oI,hfI,hfc⟩:=O.fn;rw[arm_exec_Raise];refine wpAny_bind (wpAny_standAt ?_);refine CK (C:=C) (nm:=nm) (q:=q) (N:=NN) (bs:=bs) (bm:=tl) (hdct:=hdct) (sn:=sn) (sub:=sub) (ab:=ab) (col:=col) (dd:=dd) (k0:=k0) (k1:=k1) (k2:=k2) (k3:=k3) (k5:=k5) (newId:=newId) (T.hasType FB.hasBase) (I.ok.hd rfl) ?_;refine wpAny_bind (wpAny_mono ?_ (λv s3 h3=>wpAny_bind (wpAny_standAt (wpAny_pure h3))) λ_ _ z=>z);refine wpAny_Call_Name_kw (iJ I hg O.bound ?_ hdb);refine PySem.W.callWith_K (h₀:=base) I.ok.mod.kin hk (thn (ha cpos pins s1 σ H1 _ I h) λus s2 ⟨vs,H2,I2,r,v,ev,q2⟩=>⟨I2.kIn,?_⟩) he hpl;subst ev;obtain⟨hh,g,d,tt,os⟩:=s2;have hlen:us.length<=sizeLine:=by rw[<- r.length];show 1<=sizeLine;decide
 show wpAny _ _ (call (.ref C) us) _ _ ⟨hh,g,d,tt,os⟩;refine AD FB (T.keeps I2.bk) (I2.bk _ _ hC) (hN.keeps I2.bk) hi (I2.bk _ _ hfI) hfc hlen ?_
 have ge:((hh.push { cls:=.type "tuple",data:=.seq us.toArray }).push (cn C hh.objs.size)).get? (hh.objs.size+1)=some (cn C hh.objs.size):=by
  have:=Heap.get?_push_size (hh.push { cls:=.type "tuple",data:=.seq us.toArray }) (o:=cn C hh.objs.size) rfl
  rwa [Heap.size_push]at this
 have I3:Inv (bz (CXV P w) P w K mg base N qual scope f cd A outer s H E) pins σ (upd H2 (hh.objs.size+1) (EX C (hh.objs.size+1) none)) ⟨(hh.push { cls:=.type "tuple",data:=.seq us.toArray }).push (cn C hh.objs.size),g,d,tt,os⟩ :=
  I2.laid (a:=hh.objs.size+1) (o:=EX C (hh.objs.size+1) none) (t':=tt) (λb u z=>Heap.get?_push_of_some _ (Heap.get?_push_of_some _ z)) (Nat.le_succ _) (zf (t:=hh.objs.size) ge)
 have fr:H2 (hh.objs.size+1)=none:=I2.hok.fresh (Nat.le_succ _);generalize hea:hh.objs.size+1=ea at ge I3 fr ⊢
 generalize (hh.push { cls:=.type "tuple",data:=.seq us.toArray }).push (cn C hh.objs.size)=h3 at ge I3 ⊢
 have sp0:o8 C att [V.ref ea,v] (upd H2 ea (EX C ea none)) (λv' H'=>v'=.non/\∃dx,H2 dx=none/\dx≠ea/\H'=upd (upd (upd H2 ea (EX C ea none)) dx (.xd [(att,v)])) ea (EX C ea (some dx))) E0 :=
  ⟨ea,v,rfl,aj,λdx h1 h2=>⟨rfl,dx,by rwa [upd_ne h2]at h1,h2,rfl⟩⟩
 have r2:Vals [V.ref ea,v] (Value.ref ea::us):=.cons rfl r
 have hl:(Value.ref ea::us++[]).length=ps.length:=by have z:=r2.length;rw[F.len _ _ _ _ sp0]at z;rw[Ny];exact z.symm
 have hbb:=hb _ (Value.ref ea::us) I3.kIn hl;rw[Ny]at hbb;refine wpAny_call (codeAny_mono (F.run _ (bz (CXV P w) P w K mg base N qual scope f cd A outer s H E).stack _ _ ⟨Value.ref ea::us,[]⟩ (Value.ref ea::us) _ _ E0 (hr.make C us []) (I3.env0.make C us []) hbb r2 sp0) λr' s' hq'=>?_);cases r' with
 |error e'=>exact(show False from hq').elim
 |ok fl =>
  cases fl with
  |ret u =>
   obtain⟨v',H',I4,rv,ev,dx,hdx,hde,eH⟩:=I3.after hq';subst ev;subst eH;refine⟨rv,?_⟩;obtain⟨⟨t4,et4⟩,_,_⟩:=(show ObjOk P w _ s'.heap ea (EX C ea (some dx))from I4.hok ea _ aj)
   have sn':s.heap.get? ea=none:=by
    cases z:s.heap.get? ea with
    |none=>rfl
    |some o =>obtain⟨o',z'⟩:=I2.base.there ea o z (λz=>nomatch z);exact absurd (Heap.lt_size z') (by rw[<- hea];show ¬hh.objs.size+1<hh.objs.size;omega)
   have I5:=I4.untrack (a:=ea) aj I2 fr
   have eH5:(λb=>if b=ea then none else upd (upd (upd H2 ea (EX C ea none)) dx (.xd [(att,v)])) ea (EX C ea (some dx)) b)=upd H2 dx (.xd [(att,v)]):=funext λb=>by
    by_cases z:b=ea
    ·rw[if_pos z,z,upd_ne (Ne.symm hde),fr]
    ·rw[if_neg z,upd_ne z];by_cases z2:b=dx
     ·rw[z2,aj,aj]
     ·rw[upd_ne z2,upd_ne z,upd_ne z2]
   rw[eH5]at I5;refine⟨ea,t4,some dx,rfl,I5.bk _ _ hC,et4,?_⟩;exact Az I5 et4 rfl rfl rfl rfl (by rw[upd_ne (Ne.symm hde)];exact fr) sn' (q2 dx hdx)
  |next=>exact(show False from hq').elim
  |brk=>exact(show False from hq').elim
  |cont=>exact(show False from hq').elim
end
section
variable {P:Program}{w:World}{K:PySem.W.Frag}{mg:Str->Option Value}{base:Heap}
theorem Fun.okV{x qual:Str}{st:Stmt}{f:Addr}{fd:FuncData}{N ps:List Str}{k:Nat}{sp:Sp}(F:Fun K x qual st f fd)(S:FnScope N ps (ag st))(len:∀vs H Q E,sp vs H Q E->vs.length=ps.length)
 (hbody:∀(cdv:Value) (A:Around) (outer:List Env) (s:Shared) (H:Hp) (vs:List V) (Q:VK) (E:XK),Room k (A.deeper (envOfC qual (ag st) s.heap.objs.size f cdv))->sp vs H Q E ->
   ∃t,PSs (bz (CXV P w) P w K mg base N qual (ag st) f cdv A outer s H E) (ax st) t/\t { nx:=λ_ H'=>Q .non H',rt:=Q } (start N vs) H):FnOk P w K mg base (CXV P w) (k+1) f fd ps sp:=by
 obtain⟨oc,od,kV,doc,pm,an,cdv,ct,osl,rfl,lk,hcd⟩:=F.ex;exact qg lk hcd S len λA outer s H vs Q E hr hsp=>hbody cdv A outer s H vs Q E hr hsp
theorem FunD.okV{x qual:Str}{st:Stmt}{dV:Value}{f:Addr}{fd:FuncData}{N ps:List Str}{k:Nat}{sp:Sp}(F:FunD K x qual st dV f fd)(S:FnScope N ps (ag st))(len:∀vs H Q E,sp vs H Q E->vs.length=ps.length)
 (hbody:∀(cdv:Value) (A:Around) (outer:List Env) (s:Shared) (H:Hp) (vs:List V) (Q:VK) (E:XK),Room k (A.deeper (envOfC qual (ag st) s.heap.objs.size f cdv))->sp vs H Q E ->
   ∃t,PSs (bz (CXV P w) P w K mg base N qual (ag st) f cdv A outer s H E) (ax st) t/\t { nx:=λ_ H'=>Q .non H',rt:=Q } (start N vs) H):FnOk P w K mg base (CXV P w) (k+1) f fd ps sp:=by
 obtain⟨oc,od,kV,doc,pm,an,cdv,ct,osl,rfl,lk,hcd⟩:=F.ex;exact qg lk hcd S len λA outer s H vs Q E hr hsp=>hbody cdv A outer s H vs Q E hr hsp
end
section
variable {P:Program}{w:World}{K:PySem.W.Frag}{mg:Str->Option Value}{base:Heap}{N:List Str}{qual:Str}{scope:Scope}{f:Addr}{cd:Value}{A:Around}{outer:List Env}{s:Shared}{H:Hp}{E:XK}
end
def PXV(X:Cx)(x:Expr)(tx:XK->TE):Prop:=∀(W:Value->Shared->Prop) (pins:List (Addr×Obj)) (σ:St) (s:Shared) (H:Hp) (Q:VK) (E:XK),zZ (CXV X.prog X.w) (X.wish W) pins σ E->Inv (X.wish W) pins σ H s->tx E σ H Q ->
 wpAny (model X.prog X.w) X.A (eval x X.env) (EP (X.wish W) pins σ Q) W s
def Ar(K:PySem.W.Frag)(R:Addr)(i:Nat)(th:Addr->Obj->TS)(D:Ends)(σ:St):XK:=λcls d H'=>PySem.W.exmOne K cls (.ref R)=some true /\
 ∀ea oe vs,oe.cls=cls->oe.dict=d->oe.data=.fields vs->H' ea=none->th ea oe { nx:=λσ'' H''=>D.nx (σ''.set i none) H'',rt:=λ_ _=>False,bk:=λ_ _=>False,ct:=λ_ _=>False } (σ.set i (some (.ref ea))) H'
def Be(K:PySem.W.Frag)(tx:XK->TE)(R:Addr)(i:Nat)(th:Addr->Obj->TS):TS:=λD σ H=>tx (Ar K R i th D σ) σ H λ_ H'=>D.nx σ H'
section
variable {X:Cx}{k:Nat}{f R R2:Addr}{fd:FuncData}{ps:List Str}{sp:Sp}{dvs:List V}{ds:List Value}{r r2 n n2 x:Str}{p pos epos np hpos np2 hpos2:Pos}{e ex:Expr}{es:List Expr}{t:TA}{i i2:Nat}{b₀ b₂:Stmt}{suite suite2:List Stmt}{th th2:Addr->Obj->TS}{tx:XK->TE}
theorem CY(F:FnOk X.prog X.w X.K X.mg X.base (CXV X.prog X.w) k f fd ps sp)(hr:Room k X.A)(hg:∀W,Gl (X.wish W) x)(hm:X.mg x=some (.ref f))(hk:PySem.W.keepIn X.K (.ref f)=true)(hb:Binds X.K fd ps ds)(hd:Vals dvs ds)
 (ha:∀W,PA (X.wish W) (e::es) t) (hdb:(x == ("__debug__":Str))=false:=by decide) (he:starEach (e::es) X.env=(false,eval e X.env)::starEach es X.env:=by rfl) (hpl:(backTo pos (starEach es X.env)).any (·.1)=false:=by rfl) :
 PXV X (.Call (.Name x p) (e::es) [] pos) (λE=>qG sp dvs E t):=by
 intro W pins σ s H Q E hx I h;refine wpAny_Call_Name_kw (iJ (X:=X.wish W) I (hg W) hm ?_ hdb);refine PySem.W.callWith_K (h₀:=X.base) I.ok.mod.kin hk (thn (ha W pos pins s σ H _ I h) λus s1 ⟨vs,H1,I1,r,q⟩=>⟨I1.kIn,?_⟩) he hpl;exact Cr (X:=X.wish W) F hr hb hd hx I1 r q
theorem Ke{L:Addr}{pins:List (Addr×Obj)}{σ:St}{H1 H2:Hp}{s1 s2:Shared}{B:Heap}{ea:Addr}{cls a0:Value}{d:Option Addr}{hs:List ExceptHandler}{Q:Flow->Shared->Prop}(hstk:X.stack=X.env::X.outer)(hfr:X.env.frame=some L)(I1:Inv X pins σ H1 s1)(os:s2.os=s1.os)(bare:AllBare s2.gens)(un:Un (frs X.stack) [] H1 H2 s1.heap s2.heap)(hok:HOk X.prog X.w H2 s2.heap)(fl:Heap.FlyingW B X.stack ea cls a0 s2.heap)
 (b1:∀b o,s1.heap.get? b=some o->b∉frs X.stack->∃o',s2.heap.get? b=some o'/\B.get? b=some o') (b2:∀b x,H2 b=some x->∃o',s2.heap.get? b=some o'/\B.get? b=some o') (hea:H2 ea=none) (hnew:s1.heap.get? ea=none) (hd:∃ob,s2.heap.get? ea=some ob/\ob.dict=d)
 (k:∀h4 oe vs,Heap.FlyingW B (X.env::X.outer) ea cls a0 h4->oe.cls=cls->oe.dict=d->oe.data=.fields vs->Inv (cxH X ea oe) pins σ H2 { s2 with heap:=h4 }->(∀h5,B.StaysIn h5->h4.UpToSlots h5->Inv X pins σ H2 { s2 with heap:=h5 })->wpAny (model X.prog X.w) X.A (handleBy (.ref ea) X.env hs) Q X.xe { s2 with heap:=h4 }) :
 wpAny (model X.prog X.w) X.A (noteFrame (.ref ea) X.env) (λ_ s₂=>wpAny (model X.prog X.w) X.A (setFlight (.ref ea) none) (λ_ s₃=>wpAny (model X.prog X.w) X.A (handleBy (.ref ea) X.env hs) Q X.xe s₃) X.xe s₂) X.xe s2:=by
 obtain⟨ob,eob,dob⟩:=hd;have fl0:Heap.FlyingW B (X.env::X.outer) ea cls a0 s2.heap:=by rw[<- hstk];exact fl
 refine wpAny_mono (mx (E':=λ_ _=>False) (xI _ _) (wpAny_looks_onW (E:=λ_ _=>False) (L:=L) (Q:=λ_ s'=>∃h3,s'={ s2 with heap:=h3 }/\Heap.HeldW B (X.env::X.outer) ea cls a0 L h3/\s2.heap.UpToSlots h3) (by rw[I1.ok.frames,hstk]) hfr fl0 λh3 hd3 up3=>⟨h3,rfl,hd3,up3⟩)) (λ_ s' hq=>?_) λ_ _ z=>z.elim
 obtain⟨⟨h3,rfl,hd3,up3⟩,kd3⟩:=hq;obtain⟨o3,e3,d3⟩:=kd3 ea ob eob;refine wpAny_mono (mx (E':=λ_ _=>False) (ss _ _) (wpAny_landsW (E:=λ_ _=>False) (Q:=λ_ s'=>∃h4,s'={ s2 with heap:=h4 }/\Heap.FlyingW B (X.env::X.outer) ea cls a0 h4/\h3.UpToSlots h4) hd3 λh4 fl4 up4=>⟨h4,rfl,fl4,up4⟩)) (λ_ s' hq=>?_) λ_ _ z=>z.elim
 obtain⟨⟨h4,rfl,fl4,up4⟩,kd4⟩:=hq;obtain⟨o4,e4,d4⟩:=kd4 ea o3 e3;have up04:=up3.trans up4;have J4:Inv X pins σ H2 { s2 with heap:=h4 }:=zx I1 os bare un hok fl b1 b2 fl4.1 up04
 have neL:ea≠X.env.locals:=λz=>by obtain⟨mm,hn',_⟩:=I1.loc;obtain⟨oL,_,_,hoL,_⟩:=hn';rw[<- z,hnew]at hoL;cases hoL
 have neF:ea∉X.fs:=λz=>by obtain⟨_,o',e',_⟩:=I1.funs.mem z;rw[hnew]at e';cases e'
 obtain⟨oe4,vs4,ge4,ce4,de4,_⟩:=fl4.first;have e4':h4.get? ea=some o4:=e4;have eo:oe4=o4:=Option.some.inj (ge4.symm.trans e4');exact k h4 oe4 vs4 fl4 ce4 (by rw[eo];exact(d4.trans d3).trans dob) de4 (J4.held ge4 hea neL neF (λv z=>by rw[de4]at z;cases z)) λh5 st up5=>zx I1 os bare un hok fl b1 b2 st (up04.trans up5)
theorem Bq{pins:List (Addr×Obj)}{σ:St}{H2:Hp}{s2:Shared}{D:Ends}{B h4:Heap}{ea:Addr}{cls a0:Value}{d:Option Addr}{oe4:Obj}(hok0:X.Ok)(fl4:Heap.FlyingW B (X.env::X.outer) ea cls a0 h4)(hc4:h4.get? ea=some oe4)(hd4:oe4.dict=d)(J:∀h5,B.StaysIn h5->h4.UpToSlots h5->Inv X pins σ H2 { s2 with heap:=h5 })
 (hea:H2 ea=none) (neL:ea≠X.env.locals) (neF:ea∉X.fs) (hN:X.N.Nodup) (hi:X.N[i]?=some n) (hk:X.env.scope.names.lookup n=some .local) (hsu:∀ea oe,PSs (cxH X ea oe) (b₀::suite) (th ea oe))
 (hth:∀ea oe vs,oe.cls=cls->oe.dict=d->oe.data=.fields vs->H2 ea=none->th ea oe { nx:=λσ'' H''=>D.nx (σ''.set i none) H'',rt:=λ_ _=>False,bk:=λ_ _=>False,ct:=λ_ _=>False } (σ.set i (some (.ref ea))) H2) :
 wpAny (model X.prog X.w) (X.A.mark (some (.ref ea))) (setFlight (.ref ea) none) (λ_ s5=>∃oe5,Inv (cxH X ea oe5) pins σ H2 s5/\th ea oe5 { nx:=λσ'' H''=>D.nx (σ''.set i none) H'',rt:=λ_ _=>False,bk:=λ_ _=>False,ct:=λ_ _=>False } (σ.set i (some (.ref ea))) H2) (λ_ _=>False) { s2 with heap:=h4 }:=by
 refine wpAny_mono (mx (E':=λ_ _=>False) (ss _ _) (lands_againW (s:={ s2 with heap:=h4 }) (E:=λ_ _=>False) (Q:=λ_ s'=>∃h5,s'={ s2 with heap:=h5 }/\Heap.FlyingW B (X.env::X.outer) ea cls a0 h5/\h4.UpToSlots h5) fl4 λh5 fl5 up5=>⟨h5,rfl,fl5,up5⟩)) (λ_ s' hq=>?_) λ_ _ z=>z.elim
 obtain⟨⟨h5,rfl,fl5,up5⟩,kd5⟩:=hq;obtain⟨o5,e5,d5⟩:=kd5 ea oe4 hc4;obtain⟨oe5,vs5,ge5,ce5,de5,_⟩:=fl5.first;have e5':h5.get? ea=some o5:=e5;have eo:oe5=o5:=Option.some.inj (ge5.symm.trans e5');exact⟨oe5,(J h5 fl5.1 up5).held ge5 hea neL neF (λv z=>by rw[de5]at z;cases z),hth ea oe5 vs5 ce5 (by rw[eo];exact d5.trans hd4) de5 hea⟩
theorem Br{pins:List (Addr×Obj)}{H2:Hp}{s5:Shared}{σ:St}{D:Ends}{ea:Addr}{oe5:Obj}(ok:X.Ok)(hN:X.N.Nodup)(hi:X.N[i]?=some n)(hk:X.env.scope.names.lookup n=some .local)(hsu:∀ea oe,PSs (cxH X ea oe) (b₀::suite) (th ea oe))(I5:Inv (cxH X ea oe5) pins σ H2 s5)
 (ht:th ea oe5 { nx:=λσ'' H''=>D.nx (σ''.set i none) H'',rt:=λ_ _=>False,bk:=λ_ _=>False,ct:=λ_ _=>False } (σ.set i (some (.ref ea))) H2) {Q:Flow->Shared->Prop} {E:Value->Shared->Prop}
 (k:∀s7,(∃σ' H',Inv X pins σ' H' s7/\D.nx (σ'.set i none) H')->Q .next s7) (s6:Shared) (I6:Inv (cxH X ea oe5) pins (σ.set i (some (.ref ea))) H2 s6):wpAny (model X.prog X.w) (X.A.mark (some (.ref ea))) (execs (b₀::suite) X.env) Q E s6:=by
 refine wpAny_mono (hsu ea oe5 pins s6 _ H2 _ I6 ht) (λfw s7 hs7=>?_) λ_ _ z=>z.elim
 cases fw with
 |next =>obtain⟨σ',H',I7,q7⟩:=hs7;exact k s7 ⟨σ',H',Inv.unheld ok I7,q7⟩
 |ret u=>obtain⟨_,_,_,_,_,z⟩:=hs7;exact z.elim
 |brk=>obtain⟨_,_,_,z⟩:=hs7;exact z.elim
 |cont=>obtain⟨_,_,_,z⟩:=hs7;exact z.elim
theorem C3{L:Addr}(hstk:X.stack=X.env::X.outer)(hfr:X.env.frame=some L)(hx:PXV X ex tx)
 (hg:∀ea oe,Gl (cxH X ea oe) r) (hR:X.mg r=some (.ref R)) (hN:X.N.Nodup) (hi:X.N[i]?=some n) (hk:X.env.scope.names.lookup n=some .local) (hsu:∀ea oe,PSs (cxH X ea oe) (b₀::suite) (th ea oe))
 (hsw:swapsWith ex none epos.line X.env=pure false:=by rfl) (hdb:(r == ("__debug__":Str))=false:=by decide) :
 PS X (.Try [.Expr ex epos] [.ExceptHandler (some (.Name r np)) (some n) (b₀::suite) hpos] [] [] pos) (Be X.K tx R i th):=by
 intro pins s σ H D I h;refine wpAny_Try_except ?_;generalize hW:(λe s₁=>wpAny (model X.prog X.w) X.A (noteFrame e X.env) (λ_ s₂=>wpAny (model X.prog X.w) X.A (setFlight e none) (λ_ s₃=>wpAny (model X.prog X.w) X.A (handleBy e X.env [.ExceptHandler (some (.Name r np)) (some n) (b₀::suite) hpos]) (SP X pins D) X.xe s₃) X.xe s₂) X.xe s₁:Value->Shared->Prop)=W;refine wpAny_execs_cons ?_;refine wpAny_Expr_any (wpAny_mono (hx W pins σ s H (λ_ H'=>D.nx σ H') (Ar X.K R i th D σ) ?_ (I.wish W) h) (λv s1 hv=>?_) λ_ _ x=>x) I.quiet hsw
 rotate_left
 ·obtain⟨x,H1,I1,r1,q1⟩:=hv;exact wpAny_execs_nil (wpAny_execs_nil ⟨σ,H1,I1.unwish,q1⟩)
 intro H1 s1 ev s2 I1w hcx;have I1:=I1w.unwish;obtain⟨d,⟨ea,cls,a0,B,H2,rfl,os,bare,un,hok,fl,b1,b2,hea,hnew,hhit,hth⟩,ea',ob,eea,eob,dob⟩:=hcx;cases eea;show W (.ref ea) s2;rw[<- hW];refine Ke hstk hfr I1 os bare un hok fl b1 b2 hea hnew ⟨ob,eob,dob⟩ λh4 oe4 vs4 fl4 ce4 dd4 de4 K4 J=>?_
 have ge4:h4.get? ea=some oe4:=tH K4;have pe:=K4.pin (ea,oe4) (NY ..);have LT:PySem.W.Looks (model X.prog X.w) h4 (typeOf (.ref ea)) cls:=by rw[<- ce4];exact(PySem.W.Looks.ld ge4).andThen .now
 refine wpAny_handleBy_cons (codeAny_handlers_test (iJ K4 (hg ea oe4) hR ((PySem.W.exm_one K4.kIn LT hhit).here ?_) hdb)) (λz=>nomatch z);show codeAny _ _ _ _ _;refine codeAny_handlers_suite_as (wpAny_mono (Bq I.ok fl4 ge4 dd4 J hea pe.2.2.1 pe.2.2.2.1 hN hi hk hsu hth) (λ_ s5 ⟨oe5,K5,ht⟩=>?_) λ_ _ z=>z.elim);refine qI (X:=cxH X ea oe5) (v:=.ref ea) K5 hN hi (.inl hk) rfl (λs6 I6=>?_) (.inr hk);refine Br I.ok hN hi hk hsu K5 ht (λs7 ⟨σ',H',I7,q7⟩=>?_) s6 I6;show wpAny _ _ _ _ _ _;exact HW I7 hN hi hk λs8 I8=>⟨_,H',I8,q7⟩
end
def Ba(K:PySem.W.Frag)(ea:Addr)(oe:Obj)(ta:TE)(f:Str):TE:=λσ H Q=>ta σ H λx H1=>∃(D dx:Addr) (vs:Array Value) (fs:List (Str×V)) (v:V),x=.ref ea/\oe.cls=.ref D/\oe.dict=some dx/\oe.data=.fields vs/\XCls K D/\ECls K D/\NoAttr K D f/\H1 dx=some (.xd fs)/\fs.lookup f=some v/\Q v H1
theorem wN{X:Cx}{ea:Addr}{oe:Obj}{e:Expr}{f:Str}{pos:Pos}{ta:TE}(he:PE (cxH X ea oe) e ta)(hb:attributeBase e f X.env (eval e X.env)=eval e X.env):PE (cxH X ea oe) (.Attribute e f pos) (Ba X.K ea oe ta f):=by intro pins s σ H Q I h;refine zV hb (thn (he pins s σ H _ I h) λu s1 ⟨x,H1,I1,rx,D,dx,vs,fs,v,ex,hc,hd,hf,T,Te,n,hx,l,q⟩=>?_);subst ex;obtain rfl:u=Value.ref ea:=rx;obtain⟨mA,hns,hr⟩:=(show ObjOk X.prog X.w H1 s1.heap dx (.xd fs)from I1.hok dx _ hx);obtain⟨u',hu,ru⟩:=RelO.some_of (v:=v) (o:=mA f) (by rw[<- l];exact hr f);exact Ay I1.kIn T Te (tH I1) hc hd hf n hns hu (yM ru) ⟨v,H1,I1.tok _,ru,q⟩
noncomputable def ur(K:PySem.W.Frag)(C fI:Addr)(bmB:List Value)(newId:String):Bool:=match K.lookup C with
 |some ⟨.type "type",_,.cls cd,sl⟩=>(match cd.mro,sl.toList with
  |.ref C'::bm,[_,_,_,_,some (.builtin n),_]=>C' == C&&n == newId&&!cd.hasDel&&PySem.W.tailIn K bmB bm&&PySem.W.nsOkIn K cd.ns&&PySem.W.nsIn K cd.ns "__init__" == some (some (.ref fI))&&PySem.W.typeIn K (.ref fI) == some (.type "function")
  |_,_=>false)
 |_=>false
theorem Fd{K:PySem.W.Frag}{h:Heap}{N:Addr}{mN:Str->Option Value}{x:Str}{v:Value}(X:K.In h)(G:h.Ns N mN)(e:PySem.W.nsIn K N x=some (some v)):mN x=some v:=by
 obtain⟨ob,es,ep,hob,hdat,_,hfind⟩:=G;unfold PySem.W.nsIn at e
 cases hl:K.lookup N with
 |none=>rw[hl]at e;cases e
 |some oo =>
  obtain rfl:ob=oo:=Option.some.inj (hob.symm.trans (X _ _ hl));obtain⟨c1,c2,c3,c4⟩:=ob;have hdat':c3=.dict es ep:=hdat;subst hdat';rw[hl]at e;dsimp only at e
  have hf:=hfind x;unfold nsFind findBy at hf
  rw[<- Array.find?_toList]at hf;cases hq:es.toList.find? (·.key.isStr x)with
  |none =>
   rw[hq]at e;dsimp only at e
   split at e<;>cases e
  |some en =>rw[hq]at e hf;rw[<- hf];exact Option.some.inj e
theorem Dx{K:PySem.W.Frag}{h₀:Heap}{mg:Str->Option Value}{x:Str}{C fI:Addr}{bmB:List Value}{newId:String}(X:K.In h₀)(G:h₀.Ns mainGlobals mg)(e:PySem.W.nsIn K mainGlobals x=some (some (.ref C)))(q:ur K C fI bmB newId=true):OwnX x C fI bmB newId mg h₀:=by
 unfold ur at q
 split at q
 ·rename_i dd cd sl ho
  split at q
  ·rename_i C' bm k0 k1 k2 k3 n k5 hm hs
   simp only[Np,beq_iff_eq,Bool.not_eq_true']at q;obtain⟨⟨⟨⟨⟨⟨rfl,rfl⟩,hdel⟩,ht⟩,hok⟩,hni⟩,hfn⟩:=q;obtain⟨nm,bs,mro,ns,qn,hd,sn,sub,ab,col,del⟩:=cd;dsimp only at hm hdel hok hni
   subst hm hdel
   have hsl:sl=#[k0,k1,k2,k3,some (.builtin n),k5]:=by
    obtain⟨l⟩:=sl;simp only at hs
    rw[hs]
   subst hsl;refine⟨PySem.W.mg_of X G e,⟨bm,ns,nm,qn,bs,hd,sn,sub,ab,col,dd,k0,k1,k2,k3,k5,_,X _ _ ho,.of_isNs (PySem.W.isNs_of_in X hok),Fd X (.of_isNs (PySem.W.isNs_of_in X hok)) hni,PySem.W.tail_of_in X ht⟩,?_⟩;obtain⟨oI,h1,h2⟩:=Option.map_eq_some_iff.mp (show(K.lookup fI).map (·.cls)=some (.type "function")from hfn);exact⟨oI,X _ _ h1,h2⟩
  ·cases q
 ·cases q
structure CalV(P:Program)(w:World)(K:PySem.W.Frag)(mg:Str->Option Value)(base:Heap)(k:Nat)(x:Str)(ps:List Str)(sp:Sp)(f:Addr)(fd:FuncData):Prop where
 ok:FnOk P w K mg base (CXV P w) k f fd ps sp
 mg:mg x=some (.ref f)
 kp:PySem.W.keepIn K (.ref f)=true
 bd:Binds K fd ps []
structure MCalV(P:Program)(w:World)(K:PySem.W.Frag)(mg:Str->Option Value)(base:Heap)(k:Nat)(C:Addr)(m:Str)(ps:List Str)(sp:Sp)(f:Addr)(fd:FuncData):Prop where
 ok:FnOk P w K mg base (CXV P w) k f fd ps sp
 mt:Meth K C m f
 bd:Binds K fd ps []
structure XCal(P:Program)(w:World)(K:PySem.W.Frag)(mg:Str->Option Value)(base:Heap)(k:Nat)(C:Addr)(x att:Str)(ps:List Str)(f:Addr)(fd:FuncData):Prop where
 ok:FnOk P w K mg base CX0 k f fd ps (o8 C att)
 ow:OwnX x C f mC "ValueError.__new__" mg base
 kp:PySem.W.keepIn K (.ref C)=true
 bd:Binds K fd ps []
 xc:XCls K C
 ec:ECls K C
 na:NoAttr K C att
variable {X:Cx}
theorem wZ:OpR X (binaryOp .Mult) (λx y H Q=>∃(i:Str) (n:Int),x=.str i/\y=.int n/\i.length=1/\0<=n/\n<=1000/\Q (.str (Txt.mul i n)) H):=by intro pins s σ H x y v u Q I rx ry h;obtain⟨i,n,rfl,rfl,hl,h0,h1,q⟩:=h;obtain⟨t,rfl⟩:=rx;obtain⟨t',rfl⟩:=ry;exact PySem.W.KXi.mul hl (by decide) (by omega) (by omega) λt' k _ _=>⟨.str (Txt.mul i n),H,I.tok _,⟨_,rfl⟩,q⟩
inductive SL:List Expr->List Str->Prop
 |nil:SL [] []
 |cons {x:Str} {j:Nat} {pos:Pos} {es:List Expr} {xs:List Str} (h:SL es xs):SL (.Constant (.str x) j pos::es) (x::xs)
def ik(xs:List Str):TA:=λ_ H Q=>Q (xs.map V.str) H
theorem pE{es:List Expr}{xs:List Str}(h:SL es xs):PA X es (ik xs):=by
 induction h with
 |nil=>exact ac
 | @cons x j pos es xs h ih =>have:=aa (X:=X) (e:=.Constant (.str x) j pos) ad ih (by simp only[starEach]);intro pos pins s σ H Q I hh;exact this pos pins s σ H Q I hh
theorem CZ{K:PySem.W.Frag}{a:Expr}{ta:TE}{es:List Expr}{xs:List Str}{k:Nat}{pos pos':Pos}(hK:X.K=K)(ha:PE X a ta)(h:SL es xs):PT X (.Compare a [.In] [.Tuple es k pos'] pos) (vC (tOp (rIn K false) ta (qC (ik xs)))) :=
 ao (by subst hK;exact xa) ha (bq (pE h)) rfl
theorem C5{i:Nat}{x:Str}{es:List Expr}{xs:List Str}{pos pos' pos2:Pos}(hN:X.N.Nodup)(hi:X.N[i]?=some x)(hx:Loc X.env.scope x)(h:SL es xs)(hs:swapsWith (.List es pos2) (some (.Name x pos')) pos.line X.env=pure false:=by rfl)(hf:X.fn x=true\/X.env.scope.names.lookup x=some .local:=by first |exact .inl rfl |exact .inr rfl |assumption):PS X (.Assign [.Name x pos'] (.List es pos2) pos) (io (il (ik xs)) (iN i)) :=
 aF hN hi hx (aO (pE h)) hs hf
theorem Dt{a:Expr}{ta:TE}{es:List Expr}{xs:List Str}{pos pos2:Pos}(ha:PE X a ta)(h:SL es xs):PE X (.BinOp a .Add (.List es pos2) pos) (tOp rH ta (il (ik xs))):=aq rS ha (aO (pE h))
structure PSz(X:Cx)(st:List Stmt)(t:TS):Prop where
 h:PSs X st t
section
variable {X:Cx}{i:Nat}{x:Str}{a:Expr}{ta:TE}{es:List Expr}{xs:List Str}{rest:List Stmt}{u:TS}{pos pos' pos2 pos3:Pos}
theorem rL{st:List Stmt}{t:TS}(h:PSs X st t):PSz X st t:=⟨h⟩
theorem wx(hN:X.N.Nodup)(hi:X.N[i]?=some x)(hx:Loc X.env.scope x)(h:SL es xs)(hr:PSz X rest u)(hf:X.fn x=true\/X.env.scope.names.lookup x=some .local:=by first |exact .inl rfl |exact .inr rfl |assumption):PSz X (.Assign [.Name x pos'] (.List es pos2) pos::rest) (bH (io (il (ik xs)) (iN i)) u) :=
 ⟨ah (C5 hN hi hx h rfl hf) hr.h⟩
theorem wy(hN:X.N.Nodup)(hi:X.N[i]?=some x)(hx:Loc X.env.scope x)(ha:PE X a ta)(h:SL es xs)(hr:PSz X rest u)(hf:X.fn x=true\/X.env.scope.names.lookup x=some .local:=by first |exact .inl rfl |exact .inr rfl |assumption):PSz X (.Assign [.Name x pos'] (.BinOp a .Add (.List es pos2) pos3) pos::rest) (bH (io (tOp rH ta (il (ik xs))) (iN i)) u) :=
 ⟨ah (aF hN hi hx (Dt ha h) rfl hf) hr.h⟩
end
section
variable {P:Program}{w:World}{K:PySem.W.Frag}{mg:Str->Option Value}{base:Heap}
theorem Fun.okZ{x qual:Str}{st:Stmt}{f:Addr}{fd:FuncData}{N ps:List Str}{k:Nat}{sp:Sp}(F:Fun K x qual st f fd)(S:FnScope N ps (ag st))(len:∀vs H Q E,sp vs H Q E->vs.length=ps.length)
 (hbody:∀(cdv:Value) (A:Around) (outer:List Env) (s:Shared) (H:Hp) (vs:List V) (Q:VK) (E:XK),Room k (A.deeper (envOfC qual (ag st) s.heap.objs.size f cdv))->sp vs H Q E ->
   ∃t,PSz (bz CX0 P w K mg base N qual (ag st) f cdv A outer s H E).nox (ax st) t/\t { nx:=λ_ H'=>Q .non H',rt:=Q } (start N vs) H):FnOk P w K mg base CX0 (k+1) f fd ps sp :=
 F.ok S len λcdv A outer s H vs Q E hr hsp=>(hbody cdv A outer s H vs Q E hr hsp).elim λt h=>⟨t,h.1.h,h.2⟩
end
structure RoomH(k:Nat)(A:Around):Prop where
 dp:A.depth+3*k+5<recursionLimit
 un:A.units+16*k+200<cLine
theorem RoomH.mono{j k:Nat}{A:Around}(r:RoomH k A)(h:j<=k:=by decide):RoomH j A:=⟨by have:=r.dp;omega,by have:=r.un;omega⟩
theorem RoomH.deeper{k:Nat}{A:Around}(r:RoomH (k+1) A)(env:Env):RoomH k (A.deeper env) :=
 ⟨by have:=r.dp;show A.depth+1+3*k+5<_;omega,by have:=r.un;show A.units+3+16*k+200<_;omega⟩
theorem Room.held{k:Nat}{A:Around}(r:Room k A)(v:Option Value):RoomH k (A.mark v):=⟨r.dp,r.un⟩
structure FnOkH(P:Program)(w:World)(K:PySem.W.Frag)(mg:Str->Option Value)(base:Heap)(k:Nat)(f:Addr)(fd:FuncData)(ps:List Str)(sp:Sp):Prop where
 len:∀vs H Q E,sp vs H Q E->vs.length=ps.length
 run:∀(A:Around) (outer:List Env) (s:Shared) (H:Hp) (args:Args) (us:List Value) (vs:List V) (Q:VK) (E:XK),RoomH k A->Env0 P w K mg base A outer s H->BindsTo s fd args (ps.zip us)->Vals vs us->sp vs H Q E ->
  codeAny (model P w) A (.call (.ref f) args) (CR CX0 outer P w H s Q E) s
abbrev cxN(P:Program)(w:World)(K:PySem.W.Frag)(mg:Str->Option Value)(base:Heap)(N:List Str)(qual:Str)(scope:Scope)(f:Addr)(cd:Value)(A:Around)(outer:List Env)(s:Shared)(H:Hp)(E:XK):Cx :=
 { bz CX0 P w K mg base N qual scope f cd A outer s H E with calm:=false,xe:=λ_ _=>False }
theorem Iv{P:Program}{w:World}{K:PySem.W.Frag}{mg:Str->Option Value}{base:Heap}{k:Nat}{f:Addr}{name qual:Str}{params:Arguments}{body:List Stmt}{scope:Scope}{dV kV doc pm cdv ct oc:Value}{an od:Option Addr}
 {osl:Array (Option Value)} {N ps:List Str} {sp:Sp} (lk:K.lookup f=some ⟨oc,od,.func (PySem.W.fnOf name qual params body scope dV kV doc pm an cdv ct),osl⟩) (hcd:PySem.W.codeIn K cdv qual=true) (S:FnScope N ps scope)
 (len:∀vs H Q E,sp vs H Q E->vs.length=ps.length)
 (hbody:∀(A:Around) (outer:List Env) (s:Shared) (H:Hp) (vs:List V) (Q:VK) (E:XK),RoomH k (A.deeper (envOfC qual scope s.heap.objs.size f cdv))->sp vs H Q E ->
   ∃t,PSs (cxN P w K mg base N qual scope f cdv A outer s H E) body t/\t { nx:=λ_ H'=>Q .non H',rt:=Q } (start N vs) H) :
 FnOkH P w K mg base (k+1) f (PySem.W.fnOf name qual params body scope dV kV doc pm an cdv ct) ps sp:=by
 refine⟨len,λA outer s H args us vs Q E hr e0 hb r hsp=>?_⟩;have hl:=len _ _ _ _ hsp;have KX:K.In s.heap:=e0.mod.kin.keeps λb o e=>(e0.bs b o e).1
 have lim:s.heap.NoLimit:=e0.mod.nolimit.keeps λb o e=>(e0.bs b o e).1
 have hkind:∀y∈ps.zip us,scope.names.lookup y.1=some .local\/(scope.names.lookup y.1=some .cell/\((cellsFrom (s.heap.objs.size+1) scope.names []).lookup y.1).isSome=true):=λ⟨n,v⟩ hy=>by
  rcases S.par n (List.of_mem_zip hy).1 with q |q
  ·exact .inl q
  ·exact .inr ⟨q,PySem.W.cellsFrom_some _ _ _ (.inl q)⟩
 have hdep:A.depth<recursionLimit:=by have:=hr.dp;omega
 refine codeAny_call_function hdep (KX _ _ lk) rfl S.co S.gen rfl (PySem.W.codeRec_of KX hcd) (hb _ _ _ _ ?_);refine wpAny_newFunctionEnv_cells S.kind hkind λenv he s1 x=>?_
 subst he;refine⟨lim.keeps x.toInCall.keep,codeAny_func ?_⟩;obtain⟨t,ht,hq⟩:=hbody A outer s H vs Q E (hr.deeper _) hsp;have e1:Env0 P w K mg base { A with handled:=none } outer s H:=⟨e0.frames,e0.mod,e0.bs,e0.bsz,e0.funs,e0.frf,e0.hok,e0.bare⟩;have I0:Inv (bz CX0 P w K mg base N qual scope f cdv { A with handled:=none } outer s H E) [] (start N vs) H s1:=yG S rfl e1 hl r x
 have I:Inv (cxN P w K mg base N qual scope f cdv A outer s H E) [] (start N vs) H s1 :=
  ⟨⟨I0.ok.mod,I0.ok.kind,I0.ok.glob,I0.ok.blt,I0.ok.above,I0.ok.inj,I0.ok.has,I0.ok.cab,(λz=>nomatch z),Around.frames_deeper e0.frames,I0.ok.stk,I0.ok.exf,I0.ok.bs,I0.ok.bsz,I0.ok.noex,I0.ok.exfs,I0.ok.funs,I0.ok.frf⟩,I0.os,I0.bare,I0.base,I0.loc,I0.cell,I0.free,I0.freeC,I0.pin,I0.hok,I0.len⟩
 refine wpAny_mono (ht [] s1 (start N vs) H _ I hq) (λfl s' hs=>?_) λe s' hs=>hs.elim
 have fin:∀{σ':St} {H':Hp} {v:V} {u:Value},Inv (cxN P w K mg base N qual scope f cdv A outer s H E) [] σ' H' s'->RelV v u->Q v H'->CE outer P w H s Q u s' :=
  λ{σ' H' v u} J rv q=>⟨v,H',J.os,J.bare,J.base,J.hok,rv,q⟩
 cases fl with
 |ret u =>obtain⟨v,σ',H',J,rv,q⟩:=hs;exact fin J rv q
 |next =>obtain⟨σ',H',J,q⟩:=hs;exact fin (v:=V.non) (u:=Value.none) J rfl q
 |brk =>obtain⟨_,_,_,q⟩:=hs;exact False.elim q
 |cont =>obtain⟨_,_,_,q⟩:=hs;exact False.elim q
section
variable {P:Program}{w:World}{K:PySem.W.Frag}{mg:Str->Option Value}{base:Heap}
theorem Fun.okH{x qual:Str}{st:Stmt}{f:Addr}{fd:FuncData}{N ps:List Str}{k:Nat}{sp:Sp}(F:Fun K x qual st f fd)(S:FnScope N ps (ag st))(len:∀vs H Q E,sp vs H Q E->vs.length=ps.length)
 (hbody:∀(cdv:Value) (A:Around) (outer:List Env) (s:Shared) (H:Hp) (vs:List V) (Q:VK) (E:XK),RoomH k (A.deeper (envOfC qual (ag st) s.heap.objs.size f cdv))->sp vs H Q E ->
   ∃t,PSs (cxN P w K mg base N qual (ag st) f cdv A outer s H E) (ax st) t/\t { nx:=λ_ H'=>Q .non H',rt:=Q } (start N vs) H):FnOkH P w K mg base (k+1) f fd ps sp:=by
 obtain⟨oc,od,kV,doc,pm,an,cdv,ct,osl,rfl,lk,hcd⟩:=F.ex;exact Iv lk hcd S len λA outer s H vs Q E hr hsp=>hbody cdv A outer s H vs Q E hr hsp
end
section
variable {X:Cx}{k:Nat}{f C:Addr}{fd:FuncData}{ps:List Str}{sp:Sp}{dvs:List V}{ds:List Value}{E:XK}{x m:Str}{p pos apos:Pos}{e o:Expr}{es:List Expr}{ta:TE}{t:TA}
theorem Cq{pins:List (Addr×Obj)}{σ:St}{H:Hp}{s:Shared}{Q:VK}{us:List Value}{vs:List V}(F:FnOkH X.prog X.w X.K X.mg X.base k f fd ps sp)(hr:RoomH k X.A)(hb:Binds X.K fd ps ds)(hd:Vals dvs ds)
 (I:Inv X pins σ H s) (r:Vals vs us) (h:sp (vs++dvs) H Q E):wpAny (model X.prog X.w) X.A (call (.ref f) us) (EP X pins σ Q) X.xe s:=by
 have r2:Vals (vs++dvs) (us++ds):=r.append hd;have hl:(us++ds).length=ps.length:=by rw[<- r2.length];exact F.len _ _ _ _ h
 refine wpAny_call (codeAny_mono (F.run X.A X.stack s H ⟨us,[]⟩ (us++ds) (vs++dvs) Q E hr I.env0 (hb s us I.kIn hl) r2 h) λr s' hq=>?_);cases r with
 |error e=>exact False.elim hq
 |ok fl =>
  cases fl with
  |ret u=>exact I.after hq
  |next=>exact False.elim hq
  |brk=>exact False.elim hq
  |cont=>exact False.elim hq
theorem Du(F:FnOkH X.prog X.w X.K X.mg X.base k f fd ps sp)(hr:RoomH k X.A)(hg:Gl X x)(hm:X.mg x=some (.ref f))(hk:PySem.W.keepIn X.K (.ref f)=true)(hb:Binds X.K fd ps ds)(hd:Vals dvs ds)
 (ha:PA X (e::es) t) (hdb:(x == ("__debug__":Str))=false:=by decide) (he:starEach (e::es) X.env=(false,eval e X.env)::starEach es X.env:=by rfl) (hpl:(backTo pos (starEach es X.env)).any (·.1)=false:=by rfl) :
 PE X (.Call (.Name x p) (e::es) [] pos) (qG sp dvs E t):=by
 intro pins s σ H Q I h;refine wpAny_Call_Name_kw (iJ I hg hm ?_ hdb);refine PySem.W.callWith_K (h₀:=X.base) I.ok.mod.kin hk (thn (ha pos pins s σ H _ I h) λus s1 ⟨vs,H1,I1,r,q⟩=>⟨I1.kIn,?_⟩) he hpl;exact Cq F hr hb hd I1 r q
end
theorem FnOkH.toFn{P:Program}{w:World}{K:PySem.W.Frag}{mg:Str->Option Value}{base:Heap}{k:Nat}{f:Addr}{fd:FuncData}{ps:List Str}{sp:Sp}(F:FnOkH P w K mg base k f fd ps sp):FnOk P w K mg base CX0 k f fd ps sp :=
 ⟨F.len,λA outer s H args us vs Q E hr=>F.run A outer s H args us vs Q E ⟨hr.dp,hr.un⟩⟩
structure CalH(P:Program)(w:World)(K:PySem.W.Frag)(mg:Str->Option Value)(base:Heap)(k:Nat)(x:Str)(ps:List Str)(sp:Sp)(f:Addr)(fd:FuncData):Prop where
 ok:FnOkH P w K mg base k f fd ps sp
 mg:mg x=some (.ref f)
 kp:PySem.W.keepIn K (.ref f)=true
 bd:Binds K fd ps []
end L2
namespace RM
noncomputable def cf(l:List Int)(k:Nat):Int:=l.getD k 0
theorem Ka(k:Nat):cf [] k=0:=by simp[cf]
theorem J8(x:Int)(l:List Int)(k:Nat):cf (x::l) (k+1)=cf l k:=rfl
theorem eY{l:List Int}{k:Nat}(h:l.length<=k):cf l k=0:=by unfold cf;rw[List.getD,List.getElem?_eq_none_iff.mpr h];rfl
theorem oF{l:List Int}{k:Nat}(h:k<l.length):cf l k=l[k]:=by unfold cf;rw[List.getD,List.getElem?_eq_getElem h];rfl
theorem qf{l:List Int}{k:Nat}(h:k<l.length):l[k]?=some (cf l k):=by rw[oF h,List.getElem?_eq_getElem h]
theorem zt{l r:List Int}{k:Nat}(h:k<l.length):cf (l++r) k=cf l k:=by unfold cf;rw[List.getD,List.getD,List.getElem?_append_left h]
theorem uA{l r:List Int}{k:Nat}(h:l.length<=k):cf (l++r) k=cf r (k-l.length):=by unfold cf;rw[List.getD,List.getD,List.getElem?_append_right h]
theorem J9(n k:Nat):cf (List.replicate n 0) k=0:=by unfold cf;rw[List.getD,List.getElem?_replicate];split<;>rfl
theorem qk(f:Nat->Int)(n k:Nat):cf ((List.range n).map f) k=if k<n then f k else 0:=by
 unfold cf;rw[List.getD,List.getElem?_map];by_cases h:k<n
 ·rw[if_pos h,List.getElem?_range h];rfl
 ·rw[if_neg h,List.getElem?_eq_none_iff.mpr (by simpa using h)];rfl
theorem JO{a b:List Int}(hl:a.length=b.length)(h:∀k,k<a.length->cf a k=cf b k):a=b:=by apply List.ext_getElem hl;intro k h1 h2;rw[<- oF h1,<- oF h2];exact h k h1
noncomputable def trim(l:List Int):List Int:=(l.reverse.dropWhile (· == 0)).reverse
theorem vt(l:List Int):trim (l++[0])=trim l:=by unfold trim;rw[N5];rfl
theorem vv(l:List Int){x:Int}(h:x≠0):trim (l++[x])=l++[x]:=by unfold trim;rw[N5];show((x::l.reverse).dropWhile (· == 0)).reverse=_;rw[List.dropWhile_cons_of_neg (by simpa using h)];simp
def Tr(l:List Int):Prop:=∀n,l.length=n+1->cf l n≠0
theorem vQ(l:List Int):l=[]\/∃r x,l=r++[x]:=by
 cases h:l.reverse with
 |nil=>left;simpa using h
 |cons x r=>right;exact⟨r.reverse,x,by rw[<- List.reverse_reverse l,h];simp⟩
theorem uz(r:List Int)(x:Int):cf (r++[x]) r.length=x:=by rw[uA (Ng _),Nat.sub_self];rfl
theorem AX:Tr []:=λn h=>by simp at h
theorem tr_snoc{r:List Int}{x:Int}:Tr (r++[x])↔x≠0:=by
 constructor
 ·intro h;have:=h r.length (by simp)
  rwa [uz]at this
 ·intro h n hn;have e:n=r.length:=by simp at hn;omega
  subst e
  rwa [uz]
theorem o0:∀(n:Nat) (l:List Int),l.length=n->Tr (trim l)/\(trim l).length<=l.length/\∀k,cf (trim l) k=cf l k
 |0,l,h=>by have:l=[]:=Oe.mp h;subst this;exact⟨AX,Ng _,λ_=>rfl⟩
 |n+1,l,h=>by
  rcases vQ l with rfl |⟨r,x,rfl⟩
  ·simp at h
  ·by_cases hx:x=0
   ·subst hx;obtain⟨h1,h2,h3⟩:=o0 n r (by simpa using h);rw[vt];refine⟨h1,by rw[Nf];exact Nk h2 (Of _ _),λk=>?_⟩;rw[h3];by_cases hk:k<r.length
    ·rw[zt hk]
    ·rw[uA (Oc hk),eY (Oc hk)];cases e:k-r.length with
     |zero=>rfl
     |succ j=>rw[J8,Ka]
   ·rw[vv r hx];exact⟨tr_snoc.mpr hx,Ng _,λ_=>rfl⟩
theorem ic(l:List Int):Tr (trim l):=(o0 _ l rfl).1
theorem yi(l:List Int):(trim l).length<=l.length:=(o0 _ l rfl).2.1
theorem oE(l:List Int)(k:Nat):cf (trim l) k=cf l k:=(o0 _ l rfl).2.2 k
theorem zh{a b:List Int}(ha:Tr a)(hb:Tr b)(h:∀k,cf a k=cf b k):a=b:=by
 have le:∀{a b:List Int},Tr a->(∀k,cf a k=cf b k)->a.length<=b.length:=λ{a b} ha h=>by
  cases e:a.length with
  |zero=>exact Nr _
  |succ n =>apply Classical.byContradiction;intro hn;exact ha n e (by rw[h n,eY (by omega)])
 have hl:a.length=b.length:=Nat.le_antisymm (le ha h) (le hb λk=>(h k).symm);exact JO hl λk _=>h k
theorem AV{l:List Int}{n:Nat}(hn:n<l.length)(h:cf l n=0):trim (l.take (n+1))=trim (l.take n):=by rw[List.take_add_one,qf hn,h];exact vt _
theorem AW{l:List Int}{n:Nat}(hn:n<l.length)(h:cf l n≠0):trim (l.take (n+1))=l.take (n+1):=by rw[List.take_add_one,qf hn];exact vv _ h
noncomputable def pW(f:Int)(a b:List Int):List Int:=(List.range (max a.length b.length)).map λk=>cf a k+f*cf b k
theorem Kb(f:Int)(a b:List Int)(k:Nat):cf (pW f a b) k=cf a k+f*cf b k:=by
 unfold pW;rw[qk];by_cases h:k<max a.length b.length
 ·rw[if_pos h]
 ·have h1:a.length<=k:=by omega
  have h2:b.length<=k:=by omega
  rw[if_neg h,eY h1,eY h2];simp
noncomputable def fD(a b:List Int):List Int:=trim (pW 1 a b)
noncomputable def tm(a b:List Int)(n i:Nat):Int:=if i<=n then cf a i*cf b (n-i)else 0
noncomputable def sm(a b:List Int)(n:Nat):Nat->Int
 |0=>0
 |j+1=>sm a b n j+tm a b n j
theorem Ll(a b:List Int):trim ((List.range (max a.length b.length)).map λk=>cf a k+cf b k)=fD a b:=by
 unfold fD pW
 congr 2;funext k;rw[Int.one_mul]
noncomputable def dv(t b:Int):Int:=if b<0 then -((Nat.gcd t.natAbs b.natAbs:Nat):Int)else((Nat.gcd t.natAbs b.natAbs:Nat):Int)
noncomputable def rt(t b:Int):Int:=t.fdiv (dv t b)
noncomputable def rb(t b:Int):Int:=b.fdiv (dv t b)
theorem nN{t b:Int}(hb:b≠0):0<Nat.gcd t.natAbs b.natAbs:=Nat.gcd_pos_of_pos_right _ (Int.natAbs_pos.mpr hb)
theorem qj{t b:Int}(hb:b≠0):dv t b≠0:=by have:=@nN t b hb;unfold dv;split<;>omega
theorem jt(t b:Int):(dv t b).natAbs=Nat.gcd t.natAbs b.natAbs:=by unfold dv;split<;>omega
theorem JV(t b:Int):dv t b∣t:=Int.natAbs_dvd_natAbs.mp (by rw[jt];exact Nat.gcd_dvd_left _ _)
theorem JU(t b:Int):dv t b∣b:=Int.natAbs_dvd_natAbs.mp (by rw[jt];exact Nat.gcd_dvd_right _ _)
theorem za{a d:Int}(hd:d≠0)(h:d∣a):d*a.fdiv d=a:=by obtain⟨c,rfl⟩:=h;rw[Int.mul_fdiv_cancel_left c hd]
theorem rC{t b:Int}(hb:b≠0):dv t b*rt t b=t:=za (qj hb) (JV t b)
theorem pB{t b:Int}(hb:b≠0):dv t b*rb t b=b:=za (qj hb) (JU t b)
theorem we{t b:Int}(hb:b≠0):0<rb t b:=by
 have h1:=@pB t b hb;have h2:=@nN t b hb;by_cases hn:b<0
 ·have hd:dv t b<0:=by unfold dv;rw[if_pos hn];omega
  apply Classical.byContradiction;intro h;have:0<=dv t b*rb t b:=Int.mul_nonneg_of_nonpos_of_nonpos (Int.le_of_lt hd) (by omega);omega
 ·have hd:0<dv t b:=by unfold dv;rw[if_neg hn];omega
  apply Classical.byContradiction;intro h;have:dv t b*rb t b<=0:=Int.mul_nonpos_of_nonneg_of_nonpos (Int.le_of_lt hd) (by omega);omega
theorem CL{t b:Int}(hb:b≠0):Nat.gcd (rt t b).natAbs (rb t b).natAbs=1:=by
 have h1:t.natAbs=Nat.gcd t.natAbs b.natAbs*(rt t b).natAbs:=by rw[<- jt,<- Od,rC hb]
 have h2:b.natAbs=Nat.gcd t.natAbs b.natAbs*(rb t b).natAbs:=by rw[<- jt,<- Od,pB hb]
 have hp:=@nN t b hb
 have e:Nat.gcd t.natAbs b.natAbs=Nat.gcd t.natAbs b.natAbs*Nat.gcd (rt t b).natAbs (rb t b).natAbs:=by rw[<- Nat.gcd_mul_left,<- h1,<- h2]
 exact(Nat.eq_of_mul_eq_mul_left hp (by rw[Nat.mul_one];exact e)).symm
theorem Cs{t b:Int}(hb:b≠0):(rt t b).natAbs<=t.natAbs:=by
 have h1:t.natAbs=Nat.gcd t.natAbs b.natAbs*(rt t b).natAbs:=by rw[<- jt,<- Od,rC hb]
 rw[h1];exact Nat.le_mul_of_pos_left _ (nN hb)
theorem CH{t b:Int}(hb:b≠0):(rb t b).natAbs<=b.natAbs:=by
 have h1:b.natAbs=Nat.gcd t.natAbs b.natAbs*(rb t b).natAbs:=by rw[<- jt,<- Od,pB hb]
 rw[h1];exact Nat.le_mul_of_pos_left _ (nN hb)
noncomputable def sg(x:Int):Int:=if x<0 then -1 else if 0<x then 1 else 0
theorem zu(a b:List Int)(n:Nat):cf (fD a b) n=cf a n+cf b n:=by unfold fD;rw[oE,Kb,Int.one_mul]
open PySem PySem.NumText PySem.Builtin PySem.Builtin.Str
noncomputable def stL(l:List Nat):Str:=⟨l.toArray⟩
theorem fk(l:List Nat):(stL l).cps.toList=l:=rfl
theorem ak(l:List Nat):(stL l).length=l.length:=by unfold stL Str.length;simp
theorem vL(l:List Nat):(stL l).cps.size=l.length:=by unfold stL;simp
theorem aG(a b:List Nat):stL a++stL b=stL (a++b):=Kf a b
theorem stL_inj{a b:List Nat}:stL a=stL b↔a=b:=⟨λh=>congrArg (λz:Str=>z.cps.toList) h,λh=>by rw[h]⟩
theorem txt_nat(n:Nat):Str.ofString (toString (n:Int))=stL (al n):=qc n
theorem rz(l:List Nat){a b:Nat}(hab:a<=b)(hb:b<=l.length):Txt.slice (stL l) (some (a:Int)) (some (b:Int))=stL ((l.drop a).take (b-a)):=by
 unfold Txt.slice;have hl:b<=(stL l).length:=by rw[ak];exact hb
 split
 ·rename_i h
  have e:(strSliceIndices (some (a:Int)) (some (b:Int)) 1 (stL l).length).length=(stL l).length:=by simpa using h
  rw[StrLaws.strSliceIndices_plain hab hl,Nh,List.length_range,ak]at e;have ha:a=0:=by omega
  have hb':b=l.length:=by omega
  subst ha;subst hb';rw[List.drop_zero,Nat.sub_zero,List.take_length]
 ·rw[StrLaws.sliced_plain (stL l) hab hl];rfl
noncomputable def isD(c:Nat):Bool:=decide (48<=c)&&decide (c<=57)
noncomputable def isA(c:Nat):Bool:=decide (97<=c)&&decide (c<=122)
theorem nK(c:Nat):decide (c∈(Str.ofString "0123456789").cps.toList)=isD c:=by
 have e:(Str.ofString "0123456789").cps.toList=[48,49,50,51,52,53,54,55,56,57]:=by decide +kernel
 rw[e,NB,decide_eq_true_eq];unfold isD;simp only[Ni,Nx,or_false,Np,decide_eq_true_eq];omega
theorem nJ(c:Nat):decide (c∈(Str.ofString "abcdefghijklmnopqrstuvwxyz").cps.toList)=isA c:=by
 have e:(Str.ofString "abcdefghijklmnopqrstuvwxyz").cps.toList=[97,98,99,100,101,102,103,104,105,106,107,108,109,110,111,112,113,114,115,116,117,118,119,120,121,122]:=by decide +kernel
 rw[e,NB,decide_eq_true_eq];unfold isA;simp only[Ni,Nx,or_false,Np,decide_eq_true_eq];omega
theorem iC(n:Nat):al n≠[]:=by
 by_cases h:n<10
 ·rw[fv h];simp
 ·rw[iD (by omega)];simp
theorem xn:∀(n m:Nat),m<=n->∀c∈al m,isD c=true
 |0,m,h=>by
  have e:m=0:=by omega
  subst e;rw[fv (by decide)];intro c hc;rw[Nu.mp hc];decide
 |n+1,m,h=>by
  intro c hc;by_cases h':m<10
  ·rw[fv h']at hc;rw[Nu.mp hc];unfold isD;simp only[Np,decide_eq_true_eq];omega
  ·rw[iD (by omega)]at hc;rcases No.mp hc with hc |hc
   ·exact xn n (m/10) (by omega) c hc
   ·rw[Nu.mp hc];have:=Nat.mod_lt m (show 0<10 by decide);unfold isD;simp only[Np,decide_eq_true_eq];omega
theorem gP(n:Nat):∀c∈al n,isD c=true:=xn n n (Ng _)
theorem xl:∀(n m:Nat),m<=n->1<=m->∃c r,al m=c::r/\c≠48
 |0,m,h,h1=>by omega
 |n+1,m,h,h1=>by
  by_cases h':m<10
  ·exact⟨48+m,[],fv h',by omega⟩
  ·obtain⟨c,r,e,hc⟩:=xl n (m/10) (by omega) (by omega);rw[iD (by omega),e];exact⟨c,r++[48+m%10],rfl,hc⟩
theorem xj(n:Nat)(hl:(al n).length<=4300):PySem.intText? (stL (al n))=some (n:Int):=by
 have hd:AllDigits (stL (al n)).cps.toList:=λc hc=>by
  rw[fk]at hc;have:=gP n c hc;unfold isD at this
  simpa using this
 have e:=intText_digits hd (by rw[fk];exact iC n) (by rw[ak];exact hl);rw[fk]at e;rw[e];have:digitsVal (al n)=n:=PySem.W.KIN.val_back n;rw[this]
noncomputable def tmT(size k:Nat):List Nat:=if k=0 then al size else(if size=1 then[]else al size++[42])++(120::if k=1 then[]else 94::al k)
noncomputable def ptT(l:List Int):Nat->List Nat
 |0=>[]
 |n+1=>(if cf l n=0 then[]else[32,if cf l n<0 then 45 else 43,32]++tmT (cf l n).natAbs n)++ptT l n
noncomputable def plT(l:List Int):List Nat:=if l=[]then[48]else(if cf l (l.length-1)<0 then[45]else[])++tmT (cf l (l.length-1)).natAbs (l.length-1)++ptT l (l.length-1)
noncomputable def xu:List Nat->Nat
 | []=>0
 |c::r=>if isD c then((c::r).takeWhile isD).length else if isA c then((c::r).takeWhile isA).length else 1
theorem qA(p:Nat->Bool):∀l:List Nat,(l.takeWhile p).length<=l.length
 | []=>Ng _
 |c::r=>by
  rw[NU];split
  ·have:=qA p r;simp;omega
  ·simp
noncomputable def mkF:Nat->List Nat->List (List Nat)
 |0,_=>[]
 |n+1,l=>if l=[]then[]else(if l.head?=some 32 then[]else[l.take (xu l)])++mkF n (l.drop (xu l))
noncomputable def MR(l:List Nat):List (List Nat):=mkF l.length l
noncomputable def tmM(size k:Nat):List (List Nat):=if k=0 then[al size]else(if size=1 then[]else[al size,[42]])++([120]::if k=1 then[]else[[94],al k])
noncomputable def ptM(l:List Int):Nat->List (List Nat)
 |0=>[]
 |n+1=>(if cf l n=0 then[]else[if cf l n<0 then 45 else 43]::tmM (cf l n).natAbs n)++ptM l n
noncomputable def plM(l:List Int):List (List Nat):=if l=[]then[[48]]else(if cf l (l.length-1)<0 then[[45]]else[])++tmM (cf l (l.length-1)).natAbs (l.length-1)++ptM l (l.length-1)
def Bl(b:List Nat):Prop:=b=[]\/∃r,b=32::r
theorem Bl.no{b:List Nat}(h:Bl b)(p:Nat->Bool)(hp:p 32=false):∀c∈b.head?,p c=false:=by
 rcases h with rfl |⟨r,rfl⟩
 ·intro c hc;simp at hc
 ·intro c hc;have:c=32:=by simpa using hc.symm
  rw[this];exact hp
noncomputable def mln:List Nat->Nat
 | []=>0
 |c::r=>if isD c then((c::r).takeWhile isD).length else if isA c then((c::r).takeWhile isA).length else if c=46/\r.head?=some 46 then 2 else 1
theorem dY(c:Nat)(r:List Nat):mln (c::r)=if isD c then((c::r).takeWhile isD).length else if isA c then((c::r).takeWhile isA).length else if c=46/\r.head?=some 46 then 2 else 1:=rfl
theorem lG(c:Nat)(r:List Nat):1<=mln (c::r):=by
 rw[dY];by_cases h1:isD c=true
 ·rw[if_pos h1,NU,if_pos h1];simp
 ·rw[if_neg h1];by_cases h2:isA c=true
  ·rw[if_pos h2,NU,if_pos h2];simp
  ·rw[if_neg h2];split<;>decide
theorem sj(l:List Nat):mln l<=l.length:=by
 cases l with
 |nil=>exact Ng _
 |cons c r =>
  rw[dY];split
  ·exact qA _ _
  ·split
   ·exact qA _ _
   ·split
    ·rename_i h
     cases r with
     |nil=>simp at h
     |cons d r=>simp
    ·simp
noncomputable def mkP:Nat->Nat->List Nat->List (List Nat×Nat)
 |0,_,_=>[]
 |n+1,i,l=>if l=[]then[]else(if l.head?=some 32 then[]else[(l.take (mln l),i)])++mkP n (i+mln l) (l.drop (mln l))
theorem pN:∀n i,mkP n i []=[]
 |0,_=>rfl
 |n+1,i=>by show(if([]:List Nat)=[]then[]else _)=_;rw[if_pos rfl]
theorem xD:∀(n i:Nat) (l:List Nat),l.length<=n->mkP (n+1) i l=mkP n i l
 |0,i,l,h=>by have e:l=[]:=Oe.mp (by omega);rw[e,pN,pN]
 |n+1,i,l,h=>by
  by_cases hl:l=[]
  ·rw[hl,pN,pN]
  ·obtain⟨c,r,rfl⟩:=Nz hl;have:=lG c r;show(if c::r=[]then[]else _++mkP (n+1) _ _)=(if c::r=[]then[]else _++mkP n _ _);rw[xD n _ _ (by rw[NE];omega)]
theorem xE{l:List Nat}{i:Nat}:∀{n:Nat},l.length<=n->mkP n i l=mkP l.length i l
 |0,h=>by have:l.length=0:=by omega
          rw[this]
 |n+1,h=>by
  by_cases e:l.length=n+1
  ·rw[e]
  ·rw[xD n i l (by omega)];exact xE (by omega)
noncomputable def mks(i:Nat)(l:List Nat):List (List Nat×Nat):=mkP l.length i l
theorem lH(i:Nat):mks i []=[]:=rfl
theorem iE(i c:Nat)(r:List Nat):mks i (c::r)=(if c=32 then[]else[((c::r).take (mln (c::r)),i)])++mks (i+mln (c::r)) ((c::r).drop (mln (c::r))):=by
 have h1:=lG c r;show(if c::r=[]then[]else(if(c::r).head?=some 32 then[]else _)++mkP r.length _ _)=_;rw[if_neg (by simp)]
 congr 1
 ·by_cases h:c=32
  ·rw[if_pos h,if_pos (by rw[h];rfl)]
  ·rw[if_neg h,if_neg (by simpa using h)]
 ·refine xE ?_;rw[NE,Nj];omega
noncomputable def glu(a b:Nat):Bool:=(isD a&&isD b) || (isA a&&isA b) || (decide (a=46)&&decide (b=46))
def dq(T X:List Nat):Prop:=∀a b,T.getLast?=some a->X.head?=some b->glu a b=false
theorem vq{p:Nat->Bool}{T X:List Nat}(h:∀a b,T.getLast?=some a->X.head?=some b->p a=true->p b=false)(hT:T≠[]):((T++X).takeWhile p).length=(T.takeWhile p).length:=by
 rw[List.takeWhile_append];by_cases e:(T.takeWhile p).length=T.length
 ·rw[if_pos e];have hall:T.takeWhile p=T:=(List.takeWhile_prefix p).eq_of_length e
  have hp:∀x∈T,p x=true:=λx hx=>by have:=ND.mp (List.all_takeWhile (l:=T) (p:=p)) x (by rw[hall];exact hx);exact this
  have hl:p (T.getLast hT)=true:=hp _ (List.getLast_mem hT)
  have:X.takeWhile p=[]:=by
   cases X with
   |nil=>rfl
   |cons b r =>rw[NU,if_neg];rw[h (T.getLast hT) b (List.getLast?_eq_some_getLast hT) rfl hl];decide
  rw[this,Ny,hall]
 ·rw[if_neg e]
theorem FC{T X:List Nat}(hT:T≠[])(h:dq T X):mln (T++X)=mln T:=by
 have g1:=vq (p:=isD) (λa b ha hb hp=>by have:=h a b ha hb;unfold glu at this;rw[hp]at this;simp at this;exact this.1.1) hT;have g2:=vq (p:=isA) (λa b ha hb hp=>by have:=h a b ha hb;unfold glu at this;rw[hp]at this;simp at this;exact this.1.2) hT;obtain⟨c,r,rfl⟩:=Nz hT;rw[Nq]at g1 g2 ⊢;rw[dY,dY,g1,g2]
 have g3:(c=46/\(r++X).head?=some 46)↔(c=46/\r.head?=some 46):=by
  cases r with
  |cons d r=>exact Iff.rfl
  |nil =>
   constructor
   ·rintro⟨rfl,hx⟩;have:=h 46 46 rfl hx;exact absurd this (by decide)
   ·rintro⟨_,z⟩;cases z
 simp only[g3]
theorem xA:∀(n i:Nat) (T X:List Nat),T.length<=n->dq T X->mks i (T++X)=mks i T++mks (i+T.length) X
 |n,i,[],X,_,_=>by rw[lH];rfl
 |0,i,c::r,X,h,_=>absurd h (by simp)
 |n+1,i,c::r,X,h,g=>by
  have hT:c::r≠[]:=by simp
  have m1:=FC hT g;have m2:=lG c r;have m3:=sj (c::r);rw[Nq]at m1 ⊢;rw[iE,iE,m1,<- Nq,List.take_append_of_le_length m3,List.drop_append_of_le_length m3,Nl]
  congr 1
  rw[xA n _ _ X (by rw[NE];simp at h ⊢;omega) (λa b ha hb=>g a b (by
   have hne:(c::r).drop (mln (c::r))≠[]:=λz=>by rw[z]at ha;cases ha
   rw[List.getLast?_drop]at ha;split at ha
   ·cases ha
   ·exact ha) hb)]
  congr 2
  rw[NE];omega
theorem xB{T X:List Nat}(i:Nat)(g:dq T X):mks i (T++X)=mks i T++mks (i+T.length) X:=xA _ i T X (Ng _) g
theorem sk(X:List Nat):∀(g i:Nat),mks i (List.replicate g 32++X)=mks (i+g) X
 |0,i=>rfl
 |g+1,i=>by
  rw[NO,Nq,iE];have e:mln (32::(List.replicate g 32++X))=1:=by rw[dY];rfl
  rw[e,if_pos rfl,NF];show mks (i+1) (List.replicate g 32++X)=_;rw[sk X g (i+1)]
  congr 1;omega
structure WfM(m:List Nat):Prop where
 ne:m≠[]
 asc:∀c∈m,c<128
 nb:m.head?≠some 32
 one:mln m=m.length
theorem FD{m:List Nat}(h:WfM m)(i:Nat):mks i m=[(m,i)]:=by obtain⟨c,r,rfl⟩:=Nz h.ne;rw[iE,h.one,List.take_length,List.drop_length,lH,Ny,if_neg];intro z;exact h.nb (by rw[z];rfl)
theorem Fg{T X:List Nat}{g:Nat}(h:0<g\/dq T X):dq T (List.replicate g 32++X):=by
 intro a b ha hb;cases g with
 |zero=>exact(h.resolve_left (by omega)) a b ha hb
 |succ g =>rw[NO,Nq]at hb;cases hb;unfold glu;simp[isD,isA]
theorem xv{T m:List Nat}{g:Nat}(h:WfM m)(hg:0<g\/dq T m):mks 0 (T++List.replicate g 32++m)=mks 0 T++[(m,T.length+g)]:=by rw[Nl,xB 0 (Fg hg),sk,FD h,Nat.zero_add]
theorem xz(T:List Nat)(g:Nat):mks 0 (T++List.replicate g 32)=mks 0 T:=by
 have h:dq T (List.replicate g 32++[]):=by
  intro a b ha hb;cases g with
  |zero=>cases hb
  |succ g =>rw[NO,Nq]at hb;cases hb;unfold glu;simp[isD,isA]
 have:=xB 0 h;rw[sk,Ny,lH,Ny]at this;exact this
theorem vh(n:Nat):WfM (al n):=by
 have hd:=gP n;obtain⟨c,r,e⟩:=Nz (iC n);have hc:isD c=true:=hd c (by rw[e];simp);refine⟨iC n,λc hc=>?_,?_,?_⟩
 ·have:=hd c hc;unfold isD at this
  simp at this;omega
 ·rw[e];intro z;cases z;exact absurd hc (by decide)
 ·rw[e,dY,if_pos hc,<- e]
  have:∀l:List Nat,(∀c∈l,isD c=true)->l.takeWhile isD=l:=λl=>by
   induction l with
   |nil=>intro _;rfl
   |cons a l ih=>intro h;rw[NU,if_pos (h a (by simp)),ih λc hc=>h c (by simp[hc])]
  rw[this _ hd]
instance:DecidablePred WfM:=λm=>decidable_of_iff (m≠[]/\(∀c∈m,c<128)/\m.head?≠some 32/\mln m=m.length) ⟨λh=>⟨h.1,h.2.1,h.2.2.1,h.2.2.2⟩,λh=>⟨h.ne,h.asc,h.nb,h.one⟩⟩
theorem xw:∀(n i:Nat) (l:List Nat),l.length<=n->∀u∈mks i l,u.1≠[]/\u.1.length<=l.length/\∀c∈u.1,c∈l
 |n,i,[],_=>λu hu=>by rw[lH]at hu;cases hu
 |0,i,c::r,h=>absurd h (by simp)
 |n+1,i,c::r,h=>λu hu=>by
  have m2:=lG c r;rw[iE]at hu;rcases No.mp hu with hu |hu
  ·by_cases hc:c=32
   ·rw[if_pos hc]at hu;cases hu
   ·rw[if_neg hc]at hu;rw[Nu.mp hu];refine⟨λz=>?_,by simp only[N9];omega,λc hc=>List.mem_of_mem_take hc⟩;have:=congrArg List.length z;simp at this;omega
  ·obtain⟨h1,h2,h3⟩:=xw n _ _ (by rw[NE];simp at h ⊢;omega) u hu;refine⟨h1,?_,λc hc=>List.mem_of_mem_drop (h3 c hc)⟩;rw[NE]at h2;omega
theorem FE{i:Nat}{l:List Nat}:∀u∈mks i l,u.1≠[]/\u.1.length<=l.length/\∀c∈u.1,c∈l:=xw _ i l (Ng _)
theorem xy:∀(n i:Nat) (l:List Nat),l.length<=n->(mks i l).length<=l.length
 |n,i,[],_=>by rw[lH];exact Ng _
 |0,i,c::r,h=>absurd h (by simp)
 |n+1,i,c::r,h=>by
  have m2:=lG c r;have:=xy n (i+mln (c::r)) ((c::r).drop (mln (c::r))) (by rw[NE];simp at h ⊢;omega);rw[iE,Nf];rw[NE]at this;have h5:=sj (c::r);split
  ·simp only[NT];omega
  ·simp only[Oi];omega
theorem FF(i:Nat)(l:List Nat):(mks i l).length<=l.length:=xy _ i l (Ng _)
theorem HL{a b len:Nat}(h:len<=b):strSliceIndices (some (a:Int)) (some (b:Int)) 1 len=strSliceIndices (some (a:Int)) (some (len:Int)) 1 len:=by
 have h1:¬((a:Int)<0):=by omega
 have h2:¬((b:Int)<0):=by omega
 have h3:¬((len:Int)<0):=by omega
 have e1:max (0:Int) (min (b:Int) (len:Int))=len:=by omega
 have e2:max (0:Int) (min (len:Int) (len:Int))=len:=by omega
 simp only[strSliceIndices,h1,h2,h3,if_false,e1,e2,show((1:Int)>0)=True from by simp,if_true]
theorem gT:Str.ofString ".."=stL [46,46]:=by decide +kernel
theorem By{l:List Nat}{i:Nat}(hi:i<l.length):Txt.slice (stL l) (some (i:Int)) (some ((i:Int)+2))=Str.ofString ".."↔(l[i]=46/\(l.drop (i+1)).head?=some 46):=by
 have hd:l.drop i=l[i]::l.drop (i+1):=Og hi;rw[show(i:Int)+2=((i+2:Nat):Int) by omega,gT];by_cases h:i+2<=l.length
 ·rw[rz l (by omega) h,stL_inj,hd,show i+2-i=2 by omega];cases hr:l.drop (i+1)with
  |nil =>have:=congrArg List.length hr;rw[NE]at this;simp at this;omega
  |cons c r =>show[l[i],c]=[46,46]↔l[i]=46/\some c=some 46;simp
 ·have e:Txt.slice (stL l) (some (i:Int)) (some ((i+2:Nat):Int))=Txt.slice (stL l) (some (i:Int)) (some (l.length:Int)):=by unfold Txt.slice;rw[ak,HL (by omega)]
  rw[e,rz l (by omega) (Ng _),stL_inj,hd];have hr:l.drop (i+1)=[]:=N6 (by omega);rw[hr,show l.length-i=1 by omega];show[l[i]]=[46,46]↔_;simp
abbrev Mk:=List Nat×Nat
noncomputable def mhd:List Mk->List Nat
 | []=>[]
 |u::_=>u.1
noncomputable def mbg(e:Nat):List Mk->Nat
 | []=>e
 |u::_=>u.2
noncomputable def isN(m:List Nat):Bool:=decide (m≠[])&&m.all isD&&(decide (m=[48]) ||decide (m.head?≠some 48))
noncomputable def isE(m:List Nat):Bool:=decide (m.length=1)&&m.all λc=>decide (48<=c)&&decide (c<=56)
inductive PSt |p0 |p1 |pm |pe |pn |px |pd
 deriving DecidableEq
noncomputable def PSt.opn:PSt->Bool
 |.p0 |.p1 |.pm |.pe=>true
 |_=>false
noncomputable def nxt(s:PSt)(m:List Nat):Option PSt:=match s with
 |.p0=>if isN m then some .pn else if m=[120]then some .px else if m=[45]then some .p1 else none
 |.p1=>if isN m then some .pn else if m=[120]then some .px else none
 |.pm=>if m=[120]then some .px else none
 |.pe=>if isE m then some .pd else none
 |.pn=>if m=[42]then some .pm else if m=[43]\/m=[45]then some .p1 else none
 |.px=>if m=[94]then some .pe else if m=[43]\/m=[45]then some .p1 else none
 |.pd=>if m=[43]\/m=[45]then some .p1 else none
structure Cfg where
 st:PSt
 row:Nat->Int
 sg:Int
 many:Int
 k:Nat
noncomputable def Cfg.fin(c:Cfg):Nat->Int:=λn=>c.row n+if n=c.k then c.sg*c.many else 0
noncomputable def Cfg.put(c:Cfg)(m:List Nat)(s:PSt):Cfg :=
 if m=[43]\/m=[45]then⟨s,c.fin,if m=[45]then -1 else 1,0,0⟩
 else if m=[120]then⟨s,c.row,c.sg,if c.st=.pm then c.many else 1,1⟩
 else if m=[42]\/m=[94]then{ c with st:=s }
 else if c.st=.pe then⟨s,c.row,c.sg,c.many,digitsVal m⟩
 else⟨s,c.row,c.sg,digitsVal m,c.k⟩
noncomputable def mgo(c:Cfg):List Mk->Cfg×List Mk
 | []=>(c,[])
 |u::us=>match nxt c.st u.1 with
  |none=>(c,u::us)
  |some s=>mgo (c.put u.1 s) us
noncomputable def aQ:List Mk->List Mk ⊕ (Nat×List Mk)
 | []=>.inl []
 |u::us=>if u.1=[120]then(match us with
    | []=>.inr (1,[])
    |v::us2=>if v.1=[94]then(match us2 with
       | []=>.inl []
       |w::us3=>if isE w.1 then .inr (digitsVal w.1,us3)else .inl (w::us3))
     else .inr (1,v::us2))
  else .inl (u::us)
noncomputable def aY:List Mk->List Mk ⊕ (Nat×Nat×List Mk)
 | []=>.inl []
 |u::us=>if isN u.1 then(match us with
    | []=>.inr (digitsVal u.1,0,[])
    |v::us2=>if v.1=[42]then(match aQ us2 with
       |.inl r=>.inl r
       |.inr (k,r)=>.inr (digitsVal u.1,k,r))
     else .inr (digitsVal u.1,0,v::us2))
  else(match aQ (u::us)with
   |.inl r=>.inl r
   |.inr (k,r)=>.inr (1,k,r))
theorem Hs{m:List Nat}(h:isN m=true):m≠[120]/\m≠[43]/\m≠[45]/\m≠[42]/\m≠[94]:=by refine⟨?_,?_,?_,?_,?_⟩<;>(rintro rfl;exact absurd h (by decide))
theorem Hw{m:List Nat}(h:isE m=true):m≠[120]/\m≠[43]/\m≠[45]/\m≠[42]/\m≠[94]:=by refine⟨?_,?_,?_,?_,?_⟩<;>(rintro rfl;exact absurd h (by decide))
theorem eE{c:Cfg}{u:Mk}{us:List Mk}{s:PSt}(h:nxt c.st u.1=some s):mgo c (u::us)=mgo (c.put u.1 s) us:=by show(match nxt c.st u.1 with |none=>_ |some s=>_)=_;rw[h]
theorem iF{c:Cfg}{u:Mk}{us:List Mk}(h:nxt c.st u.1=none):mgo c (u::us)=(c,u::us):=by show(match nxt c.st u.1 with |none=>_ |some s=>_)=_;rw[h]
def Bad(r:Cfg×List Mk):Prop:=r.1.st.opn=true
def Lft(s:PSt)(us:List Mk):Prop:=(s=.px/\mhd us≠[94])\/s=.pd
theorem rP{c:Cfg}{us:List Mk}(hs:c.st=.pm\/((c.st=.p1\/(c.st=.p0/\mhd us≠[45]))/\isN (mhd us)=false)) :
 (∀r,aQ us=.inl r->Bad (mgo c us)/\(mgo c us).2=r)/\∀k r,aQ us=.inr (k,r)->∃s,Lft s r/\k<=8/\mgo c us=mgo ⟨s,c.row,c.sg,if c.st=.pm then c.many else 1,k⟩ r:=by
 have hop:c.st.opn=true:=by rcases hs with h |⟨h |⟨h,_⟩,_⟩<;>rw[h]<;>rfl
 cases us with
 |nil =>refine⟨λr h=>?_,λk r h=>nomatch h⟩;cases h;exact⟨hop,rfl⟩
 |cons u us =>
  by_cases hu:u.1=[120]
  ·have hn:nxt c.st u.1=some .px:=by rw[hu];rcases hs with h |⟨h |⟨h,_⟩,_⟩<;>rw[h]<;>decide
   rw[eE hn]
   have hp:c.put u.1 .px=⟨.px,c.row,c.sg,if c.st=.pm then c.many else 1,1⟩:=by unfold Cfg.put;rw[hu,if_neg (by decide),if_pos rfl]
   rw[hp];show(∀r,(if u.1=[120]then _ else _)=Sum.inl r->_)/\_;cases us with
   |nil =>
    have e:aQ [u]=.inr (1,[]):=by simp[aQ,hu]
    refine⟨λr h=>?_,λk r h=>?_⟩
    ·rw[if_pos hu]at h;cases h
    ·rw[e]at h;cases h;exact⟨.px,.inl ⟨rfl,by decide⟩,by decide,rfl⟩
   |cons v us =>
    by_cases hv:v.1=[94]
    ·have hn2:nxt PSt.px v.1=some .pe:=by rw[hv];decide
     rw[eE (c:=⟨.px,c.row,c.sg,if c.st=.pm then c.many else 1,1⟩) hn2]
     have hp2:(⟨.px,c.row,c.sg,if c.st=.pm then c.many else 1,1⟩:Cfg).put v.1 .pe=⟨.pe,c.row,c.sg,if c.st=.pm then c.many else 1,1⟩:=by unfold Cfg.put;rw[hv,if_neg (by decide),if_neg (by decide),if_pos (by decide)]
     rw[hp2];cases us with
     |nil =>
      have e:aQ [u,v]=.inl []:=by simp[aQ,hu,hv]
      refine⟨λr h=>?_,λk r h=>?_⟩
      ·have h':aQ [u,v]=.inl r:=h;rw[e]at h';cases h';exact⟨rfl,rfl⟩
      ·rw[e]at h;cases h
     |cons w us =>
      by_cases hw:isE w.1=true
      ·have e:aQ (u::v::w::us)=.inr (digitsVal w.1,us):=by simp[aQ,hu,hv,hw]
       have hn3:nxt PSt.pe w.1=some .pd:=by show(if isE w.1=true then _ else _)=_;rw[if_pos hw]
       obtain⟨x1,x2,x3,x4,x5⟩:=Hw hw;rw[eE (c:=⟨.pe,c.row,c.sg,if c.st=.pm then c.many else 1,1⟩) hn3]
       have hp3:(⟨.pe,c.row,c.sg,if c.st=.pm then c.many else 1,1⟩:Cfg).put w.1 .pd=⟨.pd,c.row,c.sg,if c.st=.pm then c.many else 1,digitsVal w.1⟩:=by unfold Cfg.put;rw[if_neg (by simp[x2,x3]),if_neg x1,if_neg (by simp[x4,x5]),if_pos rfl]
       rw[hp3];refine⟨λr h=>?_,λk r h=>?_⟩
       ·have h':aQ (u::v::w::us)=.inl r:=h;rw[e]at h';cases h'
       ·rw[e]at h;cases h;refine⟨.pd,.inr rfl,?_,rfl⟩;obtain⟨m,n⟩:=w;dsimp only at hw ⊢
        match m,hw with
        | [a],hw =>
         unfold isE at hw
         simp at hw
         show 0*10+(a-48)<=8;omega
        | [],hw=>exact absurd hw (by decide)
        |a::b::m,hw =>
         unfold isE at hw
         simp at hw
      ·have e:aQ (u::v::w::us)=.inl (w::us):=by simp[aQ,hu,hv,hw]
       have hn3:nxt PSt.pe w.1=none:=by show(if isE w.1=true then _ else _)=_;rw[if_neg hw]
       rw[iF (c:=⟨.pe,c.row,c.sg,if c.st=.pm then c.many else 1,1⟩) hn3];refine⟨λr h=>?_,λk r h=>?_⟩
       ·have h':aQ (u::v::w::us)=.inl r:=h;rw[e]at h';cases h';exact⟨rfl,rfl⟩
       ·rw[e]at h;cases h
    ·have e:aQ (u::v::us)=.inr (1,v::us):=by simp[aQ,hu,hv]
     refine⟨λr h=>?_,λk r h=>?_⟩
     ·have h':aQ (u::v::us)=.inl r:=h;rw[e]at h';cases h'
     ·rw[e]at h;cases h;exact⟨.px,.inl ⟨rfl,hv⟩,by decide,rfl⟩
  ·have e:aQ (u::us)=.inl (u::us):=by simp[aQ,hu]
   have hn:nxt c.st u.1=none:=by
    rcases hs with h |⟨h |⟨h,h3⟩,h2⟩
    ·rw[h];show(if u.1=[120]then _ else _)=_;rw[if_neg hu]
    ·have h2':¬isN u.1=true:=by have:isN u.1=false:=h2;rw[this];decide
     rw[h];show(if isN u.1=true then _ else _)=_;rw[if_neg h2',if_neg hu]
    ·have h2':¬isN u.1=true:=by have:isN u.1=false:=h2;rw[this];decide
     rw[h];show(if isN u.1=true then _ else _)=_;rw[if_neg h2',if_neg hu,if_neg (show ¬u.1=[45]from h3)]
   rw[iF hn];refine⟨λr h=>?_,λk r h=>?_⟩
   ·rw[e]at h;cases h;exact⟨hop,rfl⟩
   ·rw[e]at h;cases h
def Lf2(s:PSt)(us:List Mk):Prop:=(s=.pn/\mhd us≠[42])\/Lft s us
theorem ig{c:Cfg}{us:List Mk}(hs:c.st=.p1\/(c.st=.p0/\mhd us≠[45]))(hk:c.k=0) :
 (∀r,aY us=.inl r->Bad (mgo c us)/\(mgo c us).2=r)/\∀n k r,aY us=.inr (n,k,r)->∃s,Lf2 s r/\k<=8/\mgo c us=mgo ⟨s,c.row,c.sg,n,k⟩ r:=by
 have hop:c.st.opn=true:=by rcases hs with h |⟨h,_⟩<;>rw[h]<;>rfl
 have hnm:c.st≠.pm:=by rcases hs with h |⟨h,_⟩<;>rw[h]<;>decide
 have hne:c.st≠.pe:=by rcases hs with h |⟨h,_⟩<;>rw[h]<;>decide
 cases us with
 |nil =>refine⟨λr h=>?_,λn k r h=>nomatch h⟩;cases h;exact⟨hop,rfl⟩
 |cons u us =>
  by_cases hu:isN u.1=true
  ·have hn:nxt c.st u.1=some .pn:=by rcases hs with h |⟨h,_⟩<;>rw[h]<;>(show(if isN u.1=true then _ else _)=_;rw[if_pos hu])
   obtain⟨x1,x2,x3,x4,x5⟩:=Hs hu;rw[eE hn]
   have hp:c.put u.1 .pn=⟨.pn,c.row,c.sg,digitsVal u.1,0⟩:=by unfold Cfg.put;rw[if_neg (by simp[x2,x3]),if_neg x1,if_neg (by simp[x4,x5]),if_neg hne,hk]
   rw[hp];cases us with
   |nil =>
    have e:aY [u]=.inr (digitsVal u.1,0,[]):=by simp[aY,hu]
    refine⟨λr h=>?_,λn k r h=>?_⟩
    ·rw[e]at h;cases h
    ·rw[e]at h;cases h;exact⟨.pn,.inl ⟨rfl,by decide⟩,by decide,rfl⟩
   |cons v us =>
    by_cases hv:v.1=[42]
    ·have hn2:nxt PSt.pn v.1=some .pm:=by rw[hv];decide
     rw[eE (c:=⟨.pn,c.row,c.sg,digitsVal u.1,0⟩) hn2]
     have hp2:(⟨.pn,c.row,c.sg,digitsVal u.1,0⟩:Cfg).put v.1 .pm=⟨.pm,c.row,c.sg,digitsVal u.1,0⟩:=by unfold Cfg.put;rw[hv,if_neg (by decide),if_neg (by decide),if_pos (by decide)]
     rw[hp2];have G:=rP (c:=⟨.pm,c.row,c.sg,digitsVal u.1,0⟩) (us:=us) (.inl rfl)
     have e:aY (u::v::us)=match aQ us with
      |.inl r=>.inl r
      |.inr (k,r)=>.inr (digitsVal u.1,k,r):=by
      simp only[aY,hu,hv,if_true]
     rw[e];cases hP:aQ us with
     |inl r0 =>refine⟨λr h=>?_,λn k r h=>nomatch h⟩;cases h;exact G.1 _ hP
     |inr kr =>obtain⟨k0,r0⟩:=kr;refine⟨λr h=>(nomatch h),λn k r h=>?_⟩;cases h;obtain⟨s,hl,h8,e2⟩:=G.2 _ _ hP;exact⟨s,.inr hl,h8,e2⟩
    ·have e:aY (u::v::us)=.inr (digitsVal u.1,0,v::us):=by simp[aY,hu,hv]
     refine⟨λr h=>?_,λn k r h=>?_⟩
     ·rw[e]at h;cases h
     ·rw[e]at h;cases h;exact⟨.pn,.inl ⟨rfl,hv⟩,by decide,rfl⟩
  ·have hu':isN u.1=false:=by simpa using hu
   have G:=rP (c:=c) (us:=u::us) (.inr ⟨hs,hu'⟩)
   have e:aY (u::us)=match aQ (u::us)with
    |.inl r=>.inl r
    |.inr (k,r)=>.inr (1,k,r):=by
    show(if isN u.1=true then _ else _)=_;rw[if_neg hu]
   rw[e];cases hP:aQ (u::us)with
   |inl r0 =>refine⟨λr h=>?_,λn k r h=>nomatch h⟩;cases h;exact G.1 _ hP
   |inr kr =>obtain⟨k0,r0⟩:=kr;refine⟨λr h=>(nomatch h),λn k r h=>?_⟩;cases h;obtain⟨s,hl,h8,e2⟩:=G.2 _ _ hP;rw[if_neg hnm]at e2;exact⟨s,.inr hl,h8,e2⟩
theorem pY{c:Cfg}{us:List Mk}(hl:Lf2 c.st us):(∀u r,us=u::r->(u.1=[43]\/u.1=[45])->mgo c us=mgo ⟨.p1,c.fin,if u.1=[45]then -1 else 1,0,0⟩ r)/\(mhd us≠[43]->mhd us≠[45]->mgo c us=(c,us)):=by
 have hst:c.st=.pn\/c.st=.px\/c.st=.pd:=by rcases hl with⟨h,_⟩ |⟨h,_⟩ |h<;>simp[h]
 refine⟨λu r e hu=>?_,λh1 h2=>?_⟩
 ·subst e
  have hn:nxt c.st u.1=some .p1:=by rcases hst with h |h |h<;>rw[h]<;>rcases hu with z |z<;>rw[z]<;>decide
  rw[eE hn];unfold Cfg.put;rw[if_pos hu]
 ·cases us with
  |nil=>rfl
  |cons u r =>
   refine iF ?_;have h3:¬(u.1=[43]\/u.1=[45]):=by rintro(z |z);exact h1 z;exact h2 z
   rcases hl with⟨h,z⟩ |⟨h,z⟩ |h
   ·rw[h];show(if u.1=[42]then _ else _)=_;rw[if_neg (show ¬u.1=[42]from z),if_neg h3]
   ·rw[h];show(if u.1=[94]then _ else _)=_;rw[if_neg (show ¬u.1=[94]from z),if_neg h3]
   ·rw[h];show(if _ then _ else _)=_;rw[if_neg h3]
theorem sQ{s:PSt}{us:List Mk}(h:Lf2 s us):s.opn=false:=by rcases h with⟨h,_⟩ |⟨h,_⟩ |h<;>rw[h]<;>rfl
noncomputable def cfg0:Cfg:=⟨.p0,λ_=>0,1,0,0⟩
theorem y6{us:List Mk}{u:Mk}(h:u.1=[45]):mgo cfg0 (u::us)=mgo ⟨.p1,λ_=>0,-1,0,0⟩ us:=by
 have hn:nxt cfg0.st u.1=some .p1:=by rw[h];decide
 rw[eE hn];unfold Cfg.put;rw[if_pos (.inr h),if_pos h]
 congr 2
 funext n
 unfold Cfg.fin;show(0:Int)+(if n=0 then 1*0 else 0)=0;split<;>rfl
theorem zk:∀(m:List Nat) (a:Nat),(∀c∈m,isD c=true)->m.foldl (λacc c=>acc*10+(c-48)) a<(a+1)*10^m.length
 | [],a,_=>by show a<(a+1)*1;omega
 |c::m,a,h=>by
  have h2:isD c=true:=h c (by simp);unfold isD at h2
  simp at h2
  have:=zk m (a*10+(c-48)) λx hx=>h x (by simp[hx])
  rw[Ob,Nj,N0];refine Nm this ?_;rw[show(a+1)*(10^m.length*10)=((a+1)*10)*10^m.length by rw[Nat.mul_assoc,Nat.mul_comm (10^m.length) 10]];exact Oj _ (by omega)
theorem zj(m:List Nat)(h:∀c∈m,isD c=true):digitsVal m<10^m.length:=by have:=zk m 0 h;rw[Nat.zero_add,Nat.one_mul]at this;exact this
theorem wW{us r:List Mk}{k:Nat}(h:aQ us=.inr (k,r)):k<=8:=by obtain⟨s,_,h8,_⟩:=(rP (c:=⟨.pm,λ_=>0,1,0,0⟩) (us:=us) (.inl rfl)).2 k r h;exact h8
theorem lQ{m:List Nat}(h:isN m=true):∀c∈m,isD c=true:=by
 unfold isN at h
 simp only[Np]at h;exact ND.mp h.1.2
theorem Hx{m:List Nat}(h:isE m=true):m≠[]/\∀c∈m,isD c=true:=by
 refine⟨?_,?_⟩
 ·rintro rfl;exact absurd h (by decide)
 ·unfold isE at h
  simp only[Np]at h;intro c hc;have:=ND.mp h.2 c hc;simp only[Np,decide_eq_true_eq]at this;unfold isD;simp only[Np,decide_eq_true_eq];omega
theorem oB{m:List Nat}(h:∀c∈m,isD c=true)(hn:m≠[])(hl:m.length<=4300):PySem.intText? (stL m)=some ((digitsVal m:Nat):Int):=by
 have hd:AllDigits (stL m).cps.toList:=λc hc=>by
  rw[fk]at hc;have:=h c hc;unfold isD at this
  simpa using this
 have e:=intText_digits hd (by rw[fk];exact hn) (by rw[ak];exact hl);rw[fk]at e;exact e
theorem dv_bits{m:List Nat}(h:∀c∈m,isD c=true)(hl:m.length<=300):digitsVal m<2^1000:=by
 have h1:=zj m h;have h2:10^m.length<=10^300:=Nat.pow_le_pow_right (by decide) hl;have h3:10^300<2^1000:=by decide +kernel
 omega
theorem wV{us r:List Mk}{k:Nat}(h:aQ us=.inr (k,r)):r.length<us.length:=by
 unfold aQ at h
 split at h
 ·cases h
 ·split at h
  ·split at h
   ·cases h;simp
   ·split at h
    ·split at h
     ·cases h
     ·split at h
      ·cases h;simp;omega
      ·cases h
    ·cases h;simp
  ·cases h
theorem Dw{us r:List Mk}{n k:Nat}(h:aY us=.inr (n,k,r)):r.length<us.length:=by
 cases us with
 |nil=>cases h
 |cons u us =>
  by_cases hu:isN u.1=true
  ·cases us with
   |nil =>rw[show aY [u]=.inr (digitsVal u.1,0,[]) by simp[aY,hu]]at h;cases h;simp
   |cons v us =>
    by_cases hv:v.1=[42]
    ·cases hP:aQ us with
     |inl r0 =>rw[show aY (u::v::us)=.inl r0 by simp only[aY,hu,hv,if_true,hP]]at h;cases h
     |inr kr =>obtain⟨k0,r0⟩:=kr;rw[show aY (u::v::us)=.inr (digitsVal u.1,k0,r0) by simp only[aY,hu,hv,if_true,hP]]at h;cases h;have:=wV hP;simp only[Nj];omega
    ·rw[show aY (u::v::us)=.inr (digitsVal u.1,0,v::us) by simp[aY,hu,hv]]at h;cases h;simp
  ·cases hP:aQ (u::us)with
   |inl r0 =>
    have e:aY (u::us)=.inl r0:=by show(if isN u.1=true then _ else _)=_;rw[if_neg hu,hP]
    rw[e]at h;cases h
   |inr kr =>
    obtain⟨k0,r0⟩:=kr
    have e:aY (u::us)=.inr (1,k0,r0):=by show(if isN u.1=true then _ else _)=_;rw[if_neg hu,hP]
    rw[e]at h;cases h;exact wV hP
inductive PT where
 |whole (n:Nat) |named (w:List Nat) |given (kp:List Int) (l h:Int×Int)
 |minus (t:PT) |power (t:PT) (k:Nat) |rooted (t:PT) (k:Nat)
 |sum (a b:PT) |less (a b:PT) |times (a b:PT) |over (a b:PT)
abbrev Res(α:Type):=List Mk ⊕ (α×List Mk)
noncomputable def wSqrt:List Nat:=[115,113,114,116]
noncomputable def wCbrt:List Nat:=[99,98,114,116]
noncomputable def wRoot:List Nat:=[114,111,111,116]
noncomputable def bu(m:List Nat):Bool:=decide (m≠[])&&m.all isA&&decide (m.length<=8)&&!decide (m∈[[120],wSqrt,wCbrt,wRoot])
noncomputable def cS(c:Cfg):List Int:=trim ((List.range 9).map c.fin)
noncomputable def dC(us:List Mk):Res (List Int):=if(mgo cfg0 us).1.st.opn then .inl (mgo cfg0 us).2 else .inr (cS (mgo cfg0 us).1,(mgo cfg0 us).2)
noncomputable def cN(us:List Mk):Res Nat:=if isN (mhd us)then .inr (digitsVal (mhd us),us.tail)else .inl us
noncomputable def cO(t:Int)(us:List Mk):Res (Int×Int):=if mhd us=[47]then(if mhd us.tail=[48]then .inl us.tail else match cN us.tail with
    |.inl r=>.inl r
    |.inr (m,r)=>.inr ((t,(m:Int)),r))
 else .inr ((t,1),us)
noncomputable def dB(sg:Int)(us:List Mk):Res (Int×Int):=match cN us with
 |.inl r=>.inl r
 |.inr (n,r)=>cO (sg*(n:Int)) r
noncomputable def bF(us:List Mk):Res (Int×Int):=if mhd us=[45]then dB (-1) us.tail else dB 1 us
noncomputable def aW{α:Type}(m:List Nat)(us:List Mk)(k:List Mk->Res α):Res α:=if mhd us=m then k us.tail else .inl us
noncomputable def aM{α β:Type}(r:Res α)(k:α->List Mk->Res β):Res β:=match r with
 |.inl x=>.inl x
 |.inr (a,us)=>k a us
noncomputable def bE(ok:Bool)(us:List Mk):Res PT:=if ok then aW [40] us λu1=>aM (dC u1) λkp u2=>aW [44] u2 λu3=>aM (bF u3) λl u4=>aW [46,46] u4 λu5=>aM (bF u5) λh u6=>aW [41] u6 λu7=>.inr (.given kp l h,u7)else .inl us
noncomputable def pBr(S:Option (List Mk->Res PT))(us:List Mk):Res PT:=match S with
 |none=>.inl us
 |some S=>aW [40] us λu1=>aM (S u1) λt u2=>aW [41] u2 λu3=>.inr (t,u3)
noncomputable def br(S:Option (List Mk->Res PT))(us:List Mk):Res PT :=
 if isN (mhd us)then .inr (.whole (digitsVal (mhd us)),us.tail)
 else if bu (mhd us)then .inr (.named (mhd us),us.tail)
 else if mhd us=wSqrt then aM (pBr S us.tail) λt r=>.inr (.rooted t 2,r)
 else if mhd us=wCbrt then aM (pBr S us.tail) λt r=>.inr (.rooted t 3,r)
 else if mhd us=wRoot then bE S.isSome us.tail
 else pBr S us
noncomputable def dR(t:PT)(us:List Mk):Res PT:=if mhd us=[94]then(if isE (mhd us.tail)then .inr (.power t (digitsVal (mhd us.tail)),us.tail.tail)else .inl us.tail)else .inr (t,us)
noncomputable def bZ(S:Option (List Mk->Res PT))(us:List Mk):Res PT:=aM (br S us) dR
noncomputable def aX(S:Option (List Mk->Res PT))(us:List Mk):Res PT:=if mhd us=[45]then aM (bZ S us.tail) λt r=>.inr (.minus t,r)else bZ S us
noncomputable def aT(F:List Mk->Res PT)(a b:List Nat)(f g:PT->PT->PT):Nat->PT->List Mk->Res PT
 |0,t,us=>.inr (t,us)
 |n+1,t,us=>if mhd us=a then aM (F us.tail) λt2 r=>aT F a b f g n (f t t2) r
  else if mhd us=b then aM (F us.tail) λt2 r=>aT F a b f g n (g t t2) r
  else .inr (t,us)
noncomputable def aU(S:Option (List Mk->Res PT))(us:List Mk):Res PT:=aM (aX S us) λt r=>aT (aX S) [42] [47] .times .over r.length t r
noncomputable def bY(S:Option (List Mk->Res PT))(us:List Mk):Res PT:=aM (aU S us) λt r=>aT (aU S) [43] [45] .sum .less r.length t r
noncomputable def pS:Nat->List Mk->Res PT
 |0=>bY none
 |n+1=>bY (some (pS n))
def Sh{α:Type}(us:List Mk)(r:Res α):Prop:=∀a x,r=.inr (a,x)->x.length<us.length
def Le{α:Type}(us:List Mk)(r:Res α):Prop:=∀a x,r=.inr (a,x)->x.length<=us.length
theorem mV{us:List Mk}(h:mhd us≠[]):us.tail.length<us.length:=by
 cases us with
 |nil=>exact absurd rfl h
 |cons u us=>simp
theorem jT{α:Type}{m:List Nat}{us:List Mk}{k:List Mk->Res α}(hm:m≠[])(h:Le us.tail (k us.tail)):Sh us (aW m us k):=λa x e=>by
 unfold aW at e
 split at e
 ·rename_i hh
  have h1:=h a x e;have h2:=mV (us:=us) (by rw[hh];exact hm);omega
 ·cases e
theorem gu{α β:Type}{us:List Mk}{r:Res α}{k:α->List Mk->Res β}(h1:Le us r)(h2:∀a x,Le x (k a x)):Le us (aM r k):=λb y e=>by
 unfold aM at e
 split at e
 ·cases e
 ·rename_i a x
  have:=h1 a x rfl;have:=h2 a x b y e;omega
theorem rB{α β:Type}{us:List Mk}{r:Res α}{k:α->List Mk->Res β}(h1:Sh us r)(h2:∀a x,Le x (k a x)):Sh us (aM r k):=λb y e=>by
 unfold aM at e
 split at e
 ·cases e
 ·rename_i a x
  have:=h1 a x rfl;have:=h2 a x b y e;omega
theorem Sh.le{α:Type}{us:List Mk}{r:Res α}(h:Sh us r):Le us r:=λa x e=>N4 (h a x e)
theorem eM{α:Type}{us:List Mk}{a:α}:Le us (.inr (a,us):Res α):=λb x e=>by cases e;exact Ng _
theorem mD(us:List Mk):us.tail.length<=us.length:=by cases us<;>simp
theorem nv{α:Type}{us:List Mk}{r:Res α}(h:Le us.tail r):Le us r:=λa x e=>Nk (h a x e) (mD us)
theorem GM{α:Type}{us v:List Mk}:Le us (.inl v:Res α):=λa x e=>by cases e
theorem vT(us:List Mk):Sh us (cN us):=λa x e=>by
 unfold cN at e
 split at e
 ·rename_i h
  cases e;exact mV λz=>by rw[z]at h;exact absurd h (by decide)
 ·cases e
theorem xO:∀(us:List Mk) (c:Cfg),(mgo c us).2.length<=us.length
 | [],c=>Ng _
 |u::us,c=>by
  cases h:nxt c.st u.1 with
  |none=>rw[iF h];exact Ng _
  |some s=>rw[eE h];exact Nat.le_succ_of_le (xO us _)
theorem yj(us:List Mk):Le us (dC us):=λa x e=>by
 unfold dC at e
 split at e
 ·cases e
 ·cases e;exact xO us cfg0
theorem yk(t:Int)(us:List Mk):Le us (cO t us):=λa x e=>by
 unfold cO at e
 split at e
 ·split at e
  ·cases e
  ·split at e
   ·cases e
   ·rename_i m r hw
    cases e;have:=vT us.tail _ _ hw;have:=mD us;omega
 ·cases e;exact Ng _
theorem sR(us:List Mk):Le us (bF us):=by
 have top:∀(sg:Int) (v:List Mk),Le v (dB sg v):=λsg v a x e=>by
  unfold dB at e
  split at e
  ·cases e
  ·rename_i n r hw
   have:=vT v _ _ hw;have:=yk _ r a x e;omega
 unfold bF;split
 ·exact nv (top _ _)
 ·exact top _ _
theorem BC(ok:Bool)(us:List Mk):Sh us (bE ok us):=by
 unfold bE;split
 ·refine jT (by decide) (gu (yj _) λkp x=>(jT (by decide) (gu (sR _) λl y=>(jT (by decide) (gu (sR _) λh z=>(jT (by decide) eM).le)).le)).le)
 ·exactλa x e=>by cases e
theorem rA{S:Option (List Mk->Res PT)}(hS:∀F,S=some F->∀us,Sh us (F us))(us:List Mk):Sh us (pBr S us):=by
 unfold pBr;cases S with
 |none=>exactλa x e=>by cases e
 |some F=>exact jT (by decide) (gu (hS F rfl _).le λt x=>(jT (by decide) eM).le)
theorem BD{S:Option (List Mk->Res PT)}(hS:∀F,S=some F->∀us,Sh us (F us))(us:List Mk):Sh us (br S us):=by
 have tl:∀{r:Res PT},mhd us≠[]->Le us.tail r->Sh us r:=λ{r} h1 h2 a x e=>by have:=h2 a x e;have:=mV h1;omega
 unfold br;split
 ·rename_i h
  exact tl (λz=>by rw[z]at h;exact absurd h (by decide)) eM
 split
 ·rename_i h
  exact tl (λz=>by rw[z]at h;exact absurd h (by decide)) eM
 split
 ·rename_i h
  exact tl (by rw[h];decide) (gu (rA hS _).le λ_ _=>eM)
 split
 ·rename_i h
  exact tl (by rw[h];decide) (gu (rA hS _).le λ_ _=>eM)
 split
 ·rename_i h
  exact tl (by rw[h];decide) (BC _ _).le
 ·exact rA hS us
theorem jV{S:Option (List Mk->Res PT)}(hS:∀F,S=some F->∀us,Sh us (F us))(us:List Mk):Sh us (aX S us):=by
 have hp:∀v,Sh v (bZ S v):=λv=>rB (BD hS v) λt x=>by
  unfold dR;split
  ·split
   ·exact nv (nv eM)
   ·exact GM
  ·exact eM
 unfold aX;split
 ·rename_i h
  refineλa x e=>?_
  have h1:=gu (hp us.tail).le (λt r=>eM (a:=PT.minus t) (us:=r)) a x e;have h2:=mV (us:=us) (by rw[h];decide);omega
 ·exact hp us
theorem pZ{F:List Mk->Res PT}(hF:∀us,Sh us (F us))(a b:List Nat)(f g:PT->PT->PT):∀(n:Nat) (t:PT) (us:List Mk),Le us (aT F a b f g n t us)
 |0,t,us=>eM
 |n+1,t,us=>by
  unfold aT;split
  ·exact nv (gu (hF _).le λt2 r=>pZ hF a b f g n _ r)
  split
  ·exact nv (gu (hF _).le λt2 r=>pZ hF a b f g n _ r)
  ·exact eM
theorem jU{S:Option (List Mk->Res PT)}(hS:∀F,S=some F->∀us,Sh us (F us))(us:List Mk):Sh us (aU S us):=rB (jV hS us) λt r=>pZ (jV hS) _ _ _ _ _ t r
theorem vU{S:Option (List Mk->Res PT)}(hS:∀F,S=some F->∀us,Sh us (F us))(us:List Mk):Sh us (bY S us):=rB (jU hS us) λt r=>pZ (jU hS) _ _ _ _ _ t r
theorem vV:∀(n:Nat) (us:List Mk),Sh us (pS n us)
 |0,us=>vU (S:=none) (λF h=>by cases h) us
 |n+1,us=>vU (λF h=>by cases h;exact vV n) us
theorem nh{F:List Mk->Res PT}(hF:∀us,Sh us (F us))(a b:List Nat)(f g:PT->PT->PT)(ha:a≠[])(hb:b≠[]):∀(n m:Nat) (t:PT) (us:List Mk),us.length<=n->us.length<=m->aT F a b f g n t us=aT F a b f g m t us
 |0,m,t,us,hn,hm=>by
  have:us=[]:=Oe.mp (by omega);subst this;cases m with
  |zero=>rfl
  |succ m =>unfold aT;rw[if_neg (λz=>ha z.symm),if_neg (λz=>hb z.symm)]
 |n+1,0,t,us,hn,hm=>by have:us=[]:=Oe.mp (by omega);subst this;show(if mhd []=a then _ else if mhd []=b then _ else _)=_;rw[if_neg (λz=>ha z.symm),if_neg (λz=>hb z.symm)];rfl
 |n+1,m+1,t,us,hn,hm=>by
  have key:∀(h:PT->PT->PT),mhd us≠[]->aM (F us.tail) (λt2 r=>aT F a b f g n (h t t2) r)=aM (F us.tail) (λt2 r=>aT F a b f g m (h t t2) r):=λh hne=>by
   have h1:=mV hne;cases e:F us.tail with
   |inl x=>rfl
   |inr y =>obtain⟨t2,r⟩:=y;have h2:=hF us.tail t2 r e;exact nh hF a b f g ha hb n m (h t t2) r (by omega) (by omega)
  show(if mhd us=a then _ else if mhd us=b then _ else _)=(if mhd us=a then _ else if mhd us=b then _ else _);by_cases h1:mhd us=a
  ·rw[if_pos h1,if_pos h1];exact key f (by rw[h1];exact ha)
  ·rw[if_neg h1,if_neg h1];by_cases h2:mhd us=b
   ·rw[if_pos h2,if_pos h2];exact key g (by rw[h2];exact hb)
   ·rw[if_neg h2,if_neg h2]
noncomputable def So:Nat->Option (List Mk->Res PT)
 |0=>none
 |n+1=>some (pS n)
theorem iz:∀n,pS n=bY (So n)
 |0=>rfl
 |n+1=>rfl
theorem hZ(n:Nat):∀F,So n=some F->∀us,Sh us (F us):=λF h us=>by
 cases n with
 |zero=>cases h
 |succ n=>cases h;exact vV n us
theorem ni{F:List Mk->Res PT}{a b:List Nat}{f g:PT->PT->PT}{t:PT}{us:List Mk}(h1:mhd us≠a)(h2:mhd us≠b):∀{n:Nat},aT F a b f g n t us=.inr (t,us)
 |0=>rfl
 |n+1=>by unfold aT;rw[if_neg h1,if_neg h2]
theorem yc{F:List Mk->Res PT}{a b:List Nat}{f g:PT->PT->PT}{t t2:PT}{u:Mk}{us r:List Mk}(h:u.1=a)(e:F us=.inr (t2,r)):aT F a b f g (u::us).length t (u::us)=aT F a b f g us.length (f t t2) r:=by show(if mhd (u::us)=a then aM (F us) _ else _)=_;rw[if_pos (show mhd (u::us)=a from h),e];rfl
theorem yb{F:List Mk->Res PT}{a b:List Nat}{f g:PT->PT->PT}{t t2:PT}{u:Mk}{us r:List Mk}(hn:a≠b)(h:u.1=b)(e:F us=.inr (t2,r)):aT F a b f g (u::us).length t (u::us)=aT F a b f g us.length (g t t2) r:=by show(if mhd (u::us)=a then _ else if mhd (u::us)=b then aM (F us) _ else _)=_;rw[if_neg (λz=>hn (z.symm.trans h)),if_pos (show mhd (u::us)=b from h),e];rfl
structure Rd(n r:Nat)(us:List Mk)(t:PT):Prop where
 r4:4<=r->∀rest,br (So n) (us++rest)=.inr (t,rest)
 r3:3<=r->∀rest,mhd rest≠[94]->bZ (So n) (us++rest)=.inr (t,rest)
 r2:2<=r->∀rest,mhd rest≠[94]->aX (So n) (us++rest)=.inr (t,rest)
 r1:1<=r->∀rest,mhd rest≠[94]->aU (So n) (us++rest)=aT (aX (So n)) [42] [47] .times .over rest.length t rest
 r0:∀rest,mhd rest≠[94]->mhd rest≠[42]->mhd rest≠[47]->bY (So n) (us++rest)=aT (aU (So n)) [43] [45] .sum .less rest.length t rest
theorem xL{us:List Mk}(h:us≠[])(rest:List Mk):mhd (us++rest)=mhd us:=by
 cases us with
 |nil=>exact absurd rfl h
 |cons u us=>rfl
theorem CF{n:Nat}{us:List Mk}{t:PT}(h:∀rest,mhd rest≠[94]->mhd rest≠[42]->mhd rest≠[47]->bY (So n) (us++rest)=aT (aU (So n)) [43] [45] .sum .less rest.length t rest):Rd n 0 us t:=⟨λz=>absurd z (by omega),λz=>absurd z (by omega),λz=>absurd z (by omega),λz=>absurd z (by omega),h⟩
theorem up1{n:Nat}{us:List Mk}{t:PT}(h:∀rest,mhd rest≠[94]->aU (So n) (us++rest)=aT (aX (So n)) [42] [47] .times .over rest.length t rest):∀rest,mhd rest≠[94]->mhd rest≠[42]->mhd rest≠[47]->bY (So n) (us++rest)=aT (aU (So n)) [43] [45] .sum .less rest.length t rest:=λrest h1 h2 h3=>by unfold bY;rw[h rest h1,ni h2 h3];rfl
theorem CD{n:Nat}{us:List Mk}{t:PT}(h:∀rest,mhd rest≠[94]->aU (So n) (us++rest)=aT (aX (So n)) [42] [47] .times .over rest.length t rest):Rd n 1 us t:=⟨λz=>absurd z (by omega),λz=>absurd z (by omega),λz=>absurd z (by omega),λ_=>h,up1 h⟩
theorem up2{n:Nat}{us:List Mk}{t:PT}(h:∀rest,mhd rest≠[94]->aX (So n) (us++rest)=.inr (t,rest)):∀rest,mhd rest≠[94]->aU (So n) (us++rest)=aT (aX (So n)) [42] [47] .times .over rest.length t rest:=λrest h1=>by unfold aU;rw[h rest h1];rfl
theorem CC{n:Nat}{us:List Mk}{t:PT}(h:∀rest,mhd rest≠[94]->aX (So n) (us++rest)=.inr (t,rest)):Rd n 2 us t:=⟨λz=>absurd z (by omega),λz=>absurd z (by omega),λ_=>h,λ_=>up2 h,up1 (up2 h)⟩
theorem up3{n:Nat}{us:List Mk}{t:PT}(hu:us≠[])(hm:mhd us≠[45])(h:∀rest,mhd rest≠[94]->bZ (So n) (us++rest)=.inr (t,rest)):∀rest,mhd rest≠[94]->aX (So n) (us++rest)=.inr (t,rest):=λrest h1=>by unfold aX;rw[if_neg (by rw[xL hu];exact hm)];exact h rest h1
theorem Cz{n:Nat}{us:List Mk}{t:PT}(hu:us≠[])(hm:mhd us≠[45])(h:∀rest,mhd rest≠[94]->bZ (So n) (us++rest)=.inr (t,rest)):Rd n 3 us t:=⟨λz=>absurd z (by omega),λ_=>h,λ_=>up3 hu hm h,λ_=>up2 (up3 hu hm h),up1 (up2 (up3 hu hm h))⟩
theorem up4{n:Nat}{us:List Mk}{t:PT}(h:∀rest,br (So n) (us++rest)=.inr (t,rest)):∀rest,mhd rest≠[94]->bZ (So n) (us++rest)=.inr (t,rest):=λrest h1=>by unfold bZ;rw[h rest];show dR t rest=_;unfold dR;rw[if_neg h1]
theorem lq{n:Nat}{us:List Mk}{t:PT}(hu:us≠[])(hm:mhd us≠[45])(h:∀rest,br (So n) (us++rest)=.inr (t,rest)):Rd n 4 us t:=⟨λ_=>h,λ_=>up4 h,λ_=>up3 hu hm (up4 h),λ_=>up2 (up3 hu hm (up4 h)),up1 (up2 (up3 hu hm (up4 h)))⟩
theorem Jh(n:Nat):∀us,Sh us (aX (So n) us):=jV (hZ n)
theorem Dc(n:Nat):∀us,Sh us (aU (So n) us):=jU (hZ n)
theorem Rd.prod{n r:Nat}{us:List Mk}{t:PT}(h:Rd n r us t)(hr:1<=r)(rest:List Mk)(h1:mhd rest≠[94])(h2:mhd rest≠[42])(h3:mhd rest≠[47]):aU (So n) (us++rest)=.inr (t,rest):=by rw[h.r1 hr rest h1,ni h2 h3]
theorem Cv{n r s:Nat}{us vs:List Mk}{t x:PT}{u:Mk}{f:PT->PT->PT}(hu:(u.1=[42]/\f=.times)\/(u.1=[47]/\f=.over))(h1:Rd n r us t)(hr:1<=r)(h2:Rd n s vs x)(hs:2<=s):Rd n 1 (us++u::vs) (f t x):=CD λrest hn=>by
 have e2:=h2.r2 hs rest hn;rw[Nl,Nq,h1.r1 hr _ (by show u.1≠[94];rcases hu with h |h<;>rw[h.1]<;>decide)]
 have e3:aT (aX (So n)) [42] [47] .times .over (u::(vs++rest)).length t (u::(vs++rest))=aT (aX (So n)) [42] [47] .times .over (vs++rest).length (f t x) rest:=by
  rcases hu with⟨h,rfl⟩ |⟨h,rfl⟩
  ·exact yc h e2
  ·exact yb (by decide) h e2
 rw[e3];exact nh (Jh n) _ _ _ _ (by decide) (by decide) _ _ _ _ (by rw[Nf];omega) (Ng _)
theorem Cy{n r s:Nat}{us vs:List Mk}{t x:PT}{u:Mk}{f:PT->PT->PT}(hu:(u.1=[43]/\f=.sum)\/(u.1=[45]/\f=.less))(h1:Rd n r us t)(h2:Rd n s vs x)(hs:1<=s):Rd n 0 (us++u::vs) (f t x):=CF λrest hn hm hd=>by
 have e2:=h2.prod hs rest hn hm hd;have hu':u.1≠[94]/\u.1≠[42]/\u.1≠[47]:=by rcases hu with h |h<;>rw[h.1]<;>decide
 rw[Nl,Nq,h1.r0 (u::(vs++rest)) hu'.1 hu'.2.1 hu'.2.2]
 have e3:aT (aU (So n)) [43] [45] .sum .less (u::(vs++rest)).length t (u::(vs++rest))=aT (aU (So n)) [43] [45] .sum .less (vs++rest).length (f t x) rest:=by
  rcases hu with⟨h,rfl⟩ |⟨h,rfl⟩
  ·exact yc h e2
  ·exact yb (by decide) h e2
 rw[e3];exact nh (Dc n) _ _ _ _ (by decide) (by decide) _ _ _ _ (by rw[Nf];omega) (Ng _)
theorem rF{n r:Nat}{us:List Mk}{t:PT}{u v:Mk}(hu:u.1=[40])(hv:v.1=[41])(h:Rd n r us t)(rest:List Mk):pBr (So (n+1)) (u::(us++v::rest))=.inr (t,rest):=by show aW [40] (u::(us++v::rest)) (λu1=>aM (pS n u1) λt u2=>aW [41] u2 λu3=>.inr (t,u3))=_;unfold aW;rw[if_pos (show mhd (u::(us++v::rest))=[40]from hu)];show aM (pS n (us++v::rest)) _=_;have hm:mhd (v::rest)=[41]:=hv;rw[iz,h.r0 _ (by rw[hm];decide) (by rw[hm];decide) (by rw[hm];decide),ni (by rw[hm];decide) (by rw[hm];decide)];show(if mhd (v::rest)=[41]then _ else _)=_;rw[if_pos hm];rfl
theorem Lb{S:Option (List Mk->Res PT)}{u:Mk}{us:List Mk}(h:u.1=[40]):br S (u::us)=pBr S (u::us):=by unfold br;rw[show mhd (u::us)=[40]from h,if_neg (by decide),if_neg (by decide),if_neg (by decide),if_neg (by decide),if_neg (by decide)]
theorem K3{S:Option (List Mk->Res PT)}{u:Mk}{us:List Mk}(h:u.1=wSqrt):br S (u::us)=aM (pBr S us) λt r=>.inr (.rooted t 2,r):=by unfold br;rw[show mhd (u::us)=wSqrt from h,if_neg (by decide),if_neg (by decide),if_pos rfl];rfl
theorem Ld{S:Option (List Mk->Res PT)}{u:Mk}{us:List Mk}(h:u.1=wCbrt):br S (u::us)=aM (pBr S us) λt r=>.inr (.rooted t 3,r):=by unfold br;rw[show mhd (u::us)=wCbrt from h,if_neg (by decide),if_neg (by decide),if_neg (by decide),if_pos rfl];rfl
theorem La{S:Option (List Mk->Res PT)}{u:Mk}{us:List Mk}(h:u.1=wRoot):br S (u::us)=bE S.isSome us:=by unfold br;rw[show mhd (u::us)=wRoot from h,if_neg (by decide),if_neg (by decide),if_neg (by decide),if_neg (by decide),if_pos rfl];rfl
noncomputable def kc(c:Nat):Nat:=if isD c then 1 else if isA c then 2 else if c=46 then 3 else 0
noncomputable def kdm(m:List Nat):Nat:=match m with
 | []=>0
 |c::_=>kc c
theorem HY{a b:Nat}(h:glu a b=true):kc a=kc b/\kc a≠0:=by
 unfold glu at h
 unfold kc;simp only[NJ,Np,decide_eq_true_eq]at h;rcases h with(h |h) |h
 ·rw[h.1,h.2];exact⟨rfl,by rw[if_pos rfl];decide⟩
 ·have d:∀{c},isA c=true->isD c=false:=λ{c} hc=>by
   unfold isA at hc;unfold isD
   simp only[Np,decide_eq_true_eq]at hc;rw[decide_eq_false (show ¬c<=57 by omega),Bool.and_false]
  rw[h.1,h.2,d h.1,d h.2];exact⟨rfl,λz=>by cases z⟩
 ·rw[h.1,h.2];decide
structure WfK(m:List Nat):Prop where
 wf:WfM m
 on:∀c∈m,kc c=kdm m
def Apt(a b:List Nat):Prop:=kdm a=0\/kdm b=0\/kdm a≠kdm b
theorem Fh{a b:List Nat}(ha:WfK a)(h:Apt a b):dq a b:=λx y hx hy=>by
 cases e:glu x y with
 |false=>rfl
 |true =>
  obtain⟨h1,h2⟩:=HY e;have h3:=ha.on x (List.mem_of_getLast? hx)
  have h4:kdm b=kc y:=by
   cases b with
   |nil=>cases hy
   |cons z b=>cases hy;rfl
  rcases h with h |h |h
  ·exact absurd (h3.trans h) h2
  ·exact absurd (h1.trans (h4.symm.trans h)) h2
  ·exact absurd (h3.symm.trans (h1.trans h4.symm)) h
noncomputable def Sp:List (List Nat)->Prop
 | []=>True
 | [_]=>True
 |a::b::r=>Apt a b/\Sp (b::r)
theorem fm{a:List Nat}{r:List (List Nat)}(h:kdm a=0)(hr:Sp r):Sp (a::r):=by
 cases r with
 |nil=>trivial
 |cons b r=>exact⟨.inl h,hr⟩
theorem ip{s:List Nat}(hs:kdm s=0):∀{a b:List (List Nat)},Sp a->Sp b->Sp (a++s::b)
 | [],b,_,hb=>fm hs hb
 | [x],b,_,hb=>⟨.inr (.inl hs),fm hs hb⟩
 |x::y::r,b,ha,hb=>⟨ha.1,ip hs (a:=y::r) ha.2 hb⟩
theorem nI(n:Nat):isN (al n)=true:=by
 have h1:=iC n;have h2:=gP n;unfold isN;rw[decide_eq_true h1,ND.mpr h2];by_cases h:n=0
 ·subst h;decide +kernel
 ·obtain⟨c,r,e,hc⟩:=xl n n (Ng _) (by omega);rw[e,decide_eq_true (show(c::r).head?≠some 48 fromλz=>hc (by injection z)),Bool.or_true];rfl
theorem lT(n:Nat)(h:(al n).length<=4300):digitsVal (al n)=n:=by
 have h1:=xj n h;rw[oB (gP n) (iC n) h]at h1
 injection h1 with h1
 exact Int.ofNat.inj h1
theorem qz(n:Nat):WfK (al n):=⟨vh n,λc hc=>by
 obtain⟨x,r,e⟩:=Nz (iC n);have h1:=gP n c hc;have h2:=gP n x (by rw[e];simp);rw[e];show kc c=kc x
 unfold kc;rw[h1,h2];rfl⟩
theorem ny(n:Nat):kdm (al n)=1:=by obtain⟨x,r,e⟩:=Nz (iC n);have h2:=gP n x (by rw[e];simp);rw[e];show kc x=1;unfold kc;rw[h2];rfl
theorem vr{p:Nat->Bool}:∀{l:List Nat},(∀c∈l,p c=true)->l.takeWhile p=l
 | [],_=>rfl
 |x::l,h=>by rw[NU,if_pos (h x (by simp)),vr λc hc=>h c (by simp[hc])]
theorem mz{m:List Nat}(hn:m≠[])(h:∀c∈m,isA c=true):WfK m:=by
 have d:∀{c},isA c=true->isD c=false:=λ{c} hc=>by
  unfold isA at hc;unfold isD
  simp only[Np,decide_eq_true_eq]at hc;rw[decide_eq_false (show ¬c<=57 by omega),Bool.and_false]
 obtain⟨x,r,rfl⟩:=Nz hn;have hx:=h x (by simp);refine⟨⟨hn,λc hc=>?_,λz=>?_,?_⟩,λc hc=>?_⟩
 ·have:=h c hc;unfold isA at this
  simp only[Np,decide_eq_true_eq]at this;omega
 ·injection z with z
  rw[z]at hx;exact absurd hx (by decide)
 ·rw[dY,d hx,if_neg (by decide),if_pos hx,vr h]
 ·show kc c=kc x;unfold kc;rw[h c hc,hx,d (h c hc),d hx];rfl
def qu(x:Int×Int):Prop:=x.2≠0/\x.1.natAbs<2^64/\x.2.natAbs<2^64
noncomputable def PT.ok:PT->Prop
 |.whole _=>True |.named _=>True |.given _ l h=>qu l/\qu h
 |.minus t=>t.ok |.power t _=>t.ok |.rooted t _=>t.ok
 |.sum a b=>a.ok/\b.ok |.less a b=>a.ok/\b.ok |.times a b=>a.ok/\b.ok |.over a b=>a.ok/\b.ok
inductive Gr:Nat->Nat->List (List Nat)->PT->Prop where
 |whole (n:Nat) (h:(al n).length<=4300):Gr 4 0 [al n] (.whole n)
 |named (w:List Nat) (h:bu w=true):Gr 4 0 [w] (.named w)
 |given (ms:List (List Nat)) (kp:List Int) (l h:Int×Int) (h1:Sp (wRoot::ms)) (h2:∀m∈ms,WfK m/\m.length<=4300) (h3:∀us rest:List Mk,us.map (·.1)=ms->bE true (us++rest)=.inr (.given kp l h,rest)) (h4:qu l/\qu h):Gr 4 1 (wRoot::ms) (.given kp l h)
 |brk {r d:Nat} {ms:List (List Nat)} {t:PT} (h:Gr r d ms t):Gr 4 (d+1) ([40]::(ms++[[41]])) t
 |sq {r d:Nat} {ms:List (List Nat)} {t:PT} (h:Gr r d ms t):Gr 4 (d+1) (wSqrt::[40]::(ms++[[41]])) (.rooted t 2)
 |cb {r d:Nat} {ms:List (List Nat)} {t:PT} (h:Gr r d ms t):Gr 4 (d+1) (wCbrt::[40]::(ms++[[41]])) (.rooted t 3)
 |power {d:Nat} {ms:List (List Nat)} {t:PT} {k:Nat} (h:Gr 4 d ms t) (hk:k<=8):Gr 3 d (ms++[[94],al k]) (.power t k)
 |minus {r d:Nat} {ms:List (List Nat)} {t:PT} (h:Gr r d ms t) (hr:3<=r):Gr 2 d ([45]::ms) (.minus t)
 |mul {r d s e:Nat} {a b:List (List Nat)} {t x:PT} {m:List Nat} {f:PT->PT->PT} (hm:(m=[42]/\f=.times)\/(m=[47]/\f=.over)) (h1:Gr r d a t) (hr:1<=r) (h2:Gr s e b x) (hs:2<=s):Gr 1 (max d e) (a++m::b) (f t x)
 |add {r d s e:Nat} {a b:List (List Nat)} {t x:PT} {m:List Nat} {f:PT->PT->PT} (hm:(m=[43]/\f=.sum)\/(m=[45]/\f=.less)) (h1:Gr r d a t) (h2:Gr s e b x) (hs:1<=s):Gr 0 (max d e) (a++m::b) (f t x)
theorem Gr.ne{r d:Nat}{ms:List (List Nat)}{t:PT}(h:Gr r d ms t):ms≠[]:=by cases h<;>simp
theorem p9{w:List Nat}(h:bu w=true):w≠[]/\∀c∈w,isA c=true:=by
 unfold bu at h
 simp only[Np,decide_eq_true_eq,ND]at h;exact⟨h.1.1.1,h.1.1.2⟩
theorem oC{n c:Nat}(h:isD c=false):al n≠[c]:=λz=>by have:=gP n c (by rw[z];simp);rw[h]at this;cases this
theorem Gr.fst{r d:Nat}{ms:List (List Nat)}{t:PT}(h:Gr r d ms t):3<=r->ms.head?≠some [45]:=by
 induction h with
 |whole n=>exactλ_ z=>oC (by decide) (Option.some.inj z)
 |named w h=>exactλ_ z=>by rw[Option.some.inj z]at h;exact absurd h (by decide)
 |given=>exactλ_ z=>absurd (Option.some.inj z) (by decide)
 |brk=>exactλ_ z=>absurd (Option.some.inj z) (by decide)
 |sq=>exactλ_ z=>absurd (Option.some.inj z) (by decide)
 |cb=>exactλ_ z=>absurd (Option.some.inj z) (by decide)
 |power h _ ih =>intro _ z;obtain⟨x,r,rfl⟩:=Nz h.ne;exact ih (by decide) z
 |minus=>exactλz=>absurd z (by decide)
 |mul=>exactλz=>absurd z (by decide)
 |add=>exactλz=>absurd z (by decide)
theorem Gr.wfk{r d:Nat}{ms:List (List Nat)}{t:PT}(h:Gr r d ms t):Sp ms/\∀m∈ms,WfK m:=by
 have sy:∀c∈[40,41,42,43,45,47,94],WfK [c]/\kdm [c]=0:=by intro c hc;simp only[Ni,Nx,or_false]at hc;rcases hc with rfl |rfl |rfl |rfl |rfl |rfl |rfl<;>exact⟨⟨⟨by decide,by decide,by decide,by decide⟩,by decide⟩,by decide⟩
 have pr:∀{ms:List (List Nat)},(Sp ms/\∀m∈ms,WfK m)->Sp ([40]::(ms++[[41]]))/\∀m∈[40]::(ms++[[41]]),WfK m:=λ{ms} ih=>by
  refine⟨fm (by decide) (ip (by decide) ih.1 (b:=[]) trivial),λm hm=>?_⟩;simp only[Ni,No,Nx,or_false]at hm;rcases hm with rfl |hm |rfl
  ·exact(sy 40 (by simp)).1
  ·exact ih.2 m hm
  ·exact(sy 41 (by simp)).1
 induction h with
 |whole n=>exact⟨trivial,λm hm=>by rw[Nu.mp hm];exact qz n⟩
 |named w h=>exact⟨trivial,λm hm=>by rw[Nu.mp hm];exact mz (p9 h).1 (p9 h).2⟩
 |given ms kp l h h1 h2 h3 h4=>exact⟨h1,λm hm=>by
  rcases Ni.mp hm with rfl |hm
  ·exact mz (by decide) (by decide)
  ·exact(h2 m hm).1⟩
 |brk h ih=>exact pr ih
 |sq h ih=>exact⟨⟨.inr (.inl (by decide)),(pr ih).1⟩,λm hm=>by
  rcases Ni.mp hm with rfl |hm
  ·exact mz (by decide) (by decide)
  ·exact(pr ih).2 m hm⟩
 |cb h ih=>exact⟨⟨.inr (.inl (by decide)),(pr ih).1⟩,λm hm=>by
  rcases Ni.mp hm with rfl |hm
  ·exact mz (by decide) (by decide)
  ·exact(pr ih).2 m hm⟩
 |power h hk ih=>exact⟨ip (by decide) ih.1 (b:=[_]) trivial,λm hm=>by
  simp only[Ni,No,Nx,or_false]at hm;rcases hm with hm |rfl |rfl
  ·exact ih.2 m hm
  ·exact(sy 94 (by simp)).1
  ·exact qz _⟩
 |minus h hr ih=>exact⟨fm (by decide) ih.1,λm hm=>by
  rcases Ni.mp hm with rfl |hm
  ·exact(sy 45 (by simp)).1
  ·exact ih.2 m hm⟩
 |mul hm h1 hr h2 hs i1 i2 =>
  rename_i m f
  have hk:WfK m/\kdm m=0:=by rcases hm with⟨rfl,_⟩ |⟨rfl,_⟩<;>exact sy _ (by simp)
  exact⟨ip hk.2 i1.1 i2.1,λz hz=>by
   simp only[Ni,No]at hz;rcases hz with hz |rfl |hz
   ·exact i1.2 z hz
   ·exact hk.1
   ·exact i2.2 z hz⟩
 |add hm h1 h2 hs i1 i2 =>
  rename_i m f
  have hk:WfK m/\kdm m=0:=by rcases hm with⟨rfl,_⟩ |⟨rfl,_⟩<;>exact sy _ (by simp)
  exact⟨ip hk.2 i1.1 i2.1,λz hz=>by
   simp only[Ni,No]at hz;rcases hz with hz |rfl |hz
   ·exact i1.2 z hz
   ·exact hk.1
   ·exact i2.2 z hz⟩
theorem dE{α β:Type}{f:α->β}{l:List α}{a b:List β}(h:l.map f=a++b):∃x y,l=x++y/\x.map f=a/\y.map f=b:=List.map_eq_append_iff.mp h
theorem map_cons{α β:Type}{f:α->β}{l:List α}{a:β}{b:List β}(h:l.map f=a::b):∃x y,l=x::y/\f x=a/\y.map f=b:=List.map_eq_cons_iff.mp h
theorem dD{α β:Type}{f:α->β}{l:List α}{a:β}(h:l.map f=[a]):∃x,l=[x]/\f x=a:=by obtain⟨x,y,rfl,h1,h2⟩:=map_cons h;rw[NV.mp h2];exact⟨x,rfl,h1⟩
theorem yF{k:Nat}(h:k<=8):isE (al k)=true/\digitsVal (al k)=k:=by
 have:∀k,k<9->isE (al k)=true/\digitsVal (al k)=k:=by decide +kernel
 exact this k (by omega)
theorem Gr.rd{r d:Nat}{ms:List (List Nat)}{t:PT}(h:Gr r d ms t):∀{n:Nat} {us:List Mk},d<=n->us.map (·.1)=ms->Rd n r us t:=by
 induction h with
 |whole k hk =>
  intro n us _ hu;obtain⟨x,rfl,hx⟩:=dD hu;refine lq (by simp) (show x.1≠[45] by rw[hx];exact oC (by decide)) λrest=>?_
  show br (So n) (x::rest)=_;unfold br;rw[show mhd (x::rest)=al k from hx,nI,if_pos rfl,lT k hk];rfl
 |named w hw =>
  intro n us _ hu;obtain⟨x,rfl,hx⟩:=dD hu;have hx':x.1=w:=hx;refine lq (by simp) (show x.1≠[45]fromλz=>by rw[<- hx',z]at hw;exact absurd hw (by decide)) λrest=>?_
  show br (So n) (x::rest)=_;unfold br
  have hN:isN w=false:=by
   cases e:isN w with
   |false=>rfl
   |true =>
    obtain⟨c,r,rfl⟩:=Nz (p9 hw).1;have h1:=lQ e c (by simp);have h2:=(p9 hw).2 c (by simp);unfold isA at h2;unfold isD at h1
    simp only[Np,decide_eq_true_eq]at h1 h2;omega
  rw[show mhd (x::rest)=w from hx,hN,if_neg (by decide),hw,if_pos rfl];rfl
 |given ms kp l h h1 h2 h3 h4 =>
  intro n us hd hu;obtain⟨x,y,rfl,hx,hy⟩:=map_cons hu;refine lq (by simp) (show x.1≠[45] by rw[hx];decide) λrest=>?_
  rw[Nq,La hx];cases n with
  |zero=>omega
  |succ n=>exact h3 y rest hy
 |brk h ih =>
  intro n us hd hu;obtain⟨x,y,rfl,hx,hy⟩:=map_cons hu;obtain⟨a,b,rfl,ha,hb⟩:=dE hy;obtain⟨v,rfl,hv⟩:=dD hb;refine lq (by simp) (show x.1≠[45] by rw[hx];decide) λrest=>?_
  cases n with
  |zero=>omega
  |succ n =>rw[Nq,Nl,Lb hx];exact rF hx hv (ih (by omega) ha) rest
 |sq h ih =>
  intro n us hd hu;obtain⟨x0,y0,rfl,hx0,hy0⟩:=map_cons hu;obtain⟨x,y,rfl,hx,hy⟩:=map_cons hy0;obtain⟨a,b,rfl,ha,hb⟩:=dE hy;obtain⟨v,rfl,hv⟩:=dD hb;refine lq (by simp) (show x0.1≠[45] by rw[hx0];decide) λrest=>?_
  cases n with
  |zero=>omega
  |succ n =>rw[Nq,Nq,Nl,K3 hx0,List.singleton_append,rF hx hv (ih (by omega) ha) rest];rfl
 |cb h ih =>
  intro n us hd hu;obtain⟨x0,y0,rfl,hx0,hy0⟩:=map_cons hu;obtain⟨x,y,rfl,hx,hy⟩:=map_cons hy0;obtain⟨a,b,rfl,ha,hb⟩:=dE hy;obtain⟨v,rfl,hv⟩:=dD hb;refine lq (by simp) (show x0.1≠[45] by rw[hx0];decide) λrest=>?_
  cases n with
  |zero=>omega
  |succ n =>rw[Nq,Nq,Nl,Ld hx0,List.singleton_append,rF hx hv (ih (by omega) ha) rest];rfl
 |power h hk ih =>
  rename_i k
  intro n us hd hu;obtain⟨a,b,rfl,ha,hb⟩:=dE hu;obtain⟨x,y,rfl,hx,hy⟩:=map_cons hb;obtain⟨v,rfl,hv⟩:=dD hy;have hne:a≠[]:=λz=>h.ne (by rw[<- ha,z];rfl)
  have hf:=h.fst (by decide);refine Cz (by simp) ?_ λrest _=>?_
  ·rw[xL hne];obtain⟨w,z,rfl⟩:=Nz hne
   exactλe=>hf (by rw[<- ha,NM];exact congrArg some e)
  ·unfold bZ;rw[Nl,(ih hd ha).r4 (by decide)];show dR _ (x::v::rest)=_;unfold dR;obtain⟨e1,e2⟩:=yF hk;rw[if_pos (show mhd (x::v::rest)=[94]from hx)];show(if isE (mhd (v::rest))then(Sum.inr (PT.power _ (digitsVal (mhd (v::rest))),rest):Res PT)else _)=_;rw[show mhd (v::rest)=al k from hv,e1,if_pos rfl,e2]
 |minus h hr ih =>
  intro n us hd hu;obtain⟨x,y,rfl,hx,hy⟩:=map_cons hu;refine CC λrest hn=>?_
  unfold aX;rw[if_pos (show mhd (x::y++rest)=[45]from hx)];show aM (bZ _ (y++rest)) _=_;rw[(ih hd hy).r3 hr rest hn];rfl
 |mul hm h1 hr h2 hs i1 i2 =>intro n us hd hu;obtain⟨a,b,rfl,ha,hb⟩:=dE hu;obtain⟨x,y,rfl,hx,hy⟩:=map_cons hb;exact Cv (by rw[hx];exact hm) (i1 (Nk (Nat.le_max_left _ _) hd) ha) hr (i2 (Nk (Nat.le_max_right _ _) hd) hy) hs
 |add hm h1 h2 hs i1 i2 =>intro n us hd hu;obtain⟨a,b,rfl,ha,hb⟩:=dE hu;obtain⟨x,y,rfl,hx,hy⟩:=map_cons hb;exact Cy (by rw[hx];exact hm) (i1 (Nk (Nat.le_max_left _ _) hd) ha) (i2 (Nk (Nat.le_max_right _ _) hd) hy) hs
noncomputable def PT.hgt:PT->Nat
 |.whole _=>1 |.named _=>1 |.given _ _ _=>1
 |.minus t=>t.hgt+1 |.power t _=>t.hgt+1 |.rooted t _=>t.hgt+1
 |.sum a b=>max a.hgt b.hgt+1 |.less a b=>max a.hgt b.hgt+1 |.times a b=>max a.hgt b.hgt+1 |.over a b=>max a.hgt b.hgt+1
theorem Gr.ok{r d:Nat}{ms:List (List Nat)}{t:PT}(h:Gr r d ms t):t.ok:=by
 induction h with
 |whole n=>trivial
 |named w=>trivial
 |given ms kp l h h1 h2 h3 h4=>exact h4
 |brk h ih=>exact ih
 |sq h ih=>exact ih
 |cb h ih=>exact ih
 |power h hk ih=>exact ih
 |minus h hr ih=>exact ih
 |mul hm h1 hr h2 hs i1 i2=>rcases hm with⟨_,rfl⟩ |⟨_,rfl⟩<;>exact⟨i1,i2⟩
 |add hm h1 h2 hs i1 i2=>rcases hm with⟨_,rfl⟩ |⟨_,rfl⟩<;>exact⟨i1,i2⟩
theorem Gr.hgt{r d:Nat}{ms:List (List Nat)}{t:PT}(h:Gr r d ms t):t.hgt<=ms.length:=by
 induction h with
 |whole n=>exact Ng _
 |named w=>exact Ng _
 |given ms=>show 1<=_;simp
 |brk h ih=>simp;omega
 |sq h ih=>unfold PT.hgt;simp;omega
 |cb h ih=>unfold PT.hgt;simp;omega
 |power h hk ih=>unfold PT.hgt;simp;omega
 |minus h hr ih=>unfold PT.hgt;simp;omega
 |mul hm h1 hr h2 hs i1 i2 =>
  rw[Nf,Nj];rcases hm with⟨_,rfl⟩ |⟨_,rfl⟩
  ·show max _ _+1<=_;omega
  ·show max _ _+1<=_;omega
 |add hm h1 h2 hs i1 i2 =>
  rw[Nf,Nj];rcases hm with⟨_,rfl⟩ |⟨_,rfl⟩
  ·show max _ _+1<=_;omega
  ·show max _ _+1<=_;omega
theorem rT{n:Nat}(h:n<100):(al n).length<=4300:=by
 have:∀n,n<100->(al n).length<=2:=by decide +kernel
 have:=this n h;omega
theorem Dj{x p k:Mk}{K:Nat}{r:List Mk}(hK:K<=8)(h1:x.1=[120])(h2:p.1=[94])(h3:k.1=al K):aQ (x::p::k::r)=.inr (K,r):=by obtain⟨e1,e2⟩:=yF hK;simp[aQ,h1,h2,h3,e1,e2]
noncomputable def g3(A K B:Nat)(n:Nat):Int:=(if n=K then -(A:Int)else 0)+(if n=1 then 1 else 0)+(if n=0 then -(B:Int)else 0)
noncomputable def g4(C:Option Nat)(n:Nat):Int:=match C with
 |none=>0
 |some c=>if n=c then 3 else 0
noncomputable def mN:Option Nat->List (List Nat)
 |none=>[]
 |some n=>[[47],al n]
theorem Df{v:Mk}{t:Int}{r:List Mk}(h:v.1≠[47]):cO t (v::r)=.inr ((t,1),v::r):=by unfold cO;rw[if_neg (show ¬mhd (v::r)=[47]from h)]
theorem sy1:∀c∈[40,41,42,43,44,45,47,94],WfK [c]/\kdm [c]=0:=by intro c hc;simp only[Ni,Nx,or_false]at hc;rcases hc with rfl |rfl |rfl |rfl |rfl |rfl |rfl |rfl<;>exact⟨⟨⟨by decide,by decide,by decide,by decide⟩,by decide⟩,by decide⟩
theorem AG:WfK [46,46]:=⟨⟨by decide,by decide,by decide,by decide⟩,by decide⟩
theorem AF:WfK [120]:=mz (by decide) (by decide)
theorem lD:∀(k n:Nat),n<10^(k+1)->(al n).length<=k+1
 |0,n,h=>by rw[fv (by omega)];exact Ng _
 |k+1,n,h=>by
  by_cases h0:n<10
  ·rw[fv h0];simp
  ·rw[iD (by omega),Nf];have:=lD k (n/10) (by rw[N0]at h;omega);show _+1<=_;omega
theorem pJ{n:Nat}(h:n<10^15):(al n).length<=4300:=by have:=lD 14 n h;omega
theorem Fc{n:Nat}(h:1<=n)(hl:n<10^15):al n≠[48]:=λz=>by
 have e:=lT n (pJ hl);rw[z]at e;have:digitsVal [48]=0:=by decide
 omega
theorem wt{a:Mk}{A:Nat}{r:List Mk}(hA:A<10^15)(h:a.1=al A):cN (a::r)=.inr (A,r):=by unfold cN;rw[show mhd (a::r)=al A from h,nI,if_pos rfl,lT A (pJ hA)];rfl
theorem De{s m:Mk}{M:Nat}{t:Int}{r:List Mk}(hM:M<10^15)(h0:1<=M)(hs:s.1=[47])(h:m.1=al M):cO t (s::m::r)=.inr ((t,(M:Int)),r):=by unfold cO;rw[if_pos (show mhd (s::m::r)=[47]from hs)];rw[List.tail_cons,if_neg (show ¬mhd (m::r)=[48]fromλz=>Fc h0 hM (h.symm.trans z)),wt hM h]
noncomputable def rk:PT->Nat
 |.whole _=>4 |.named _=>4 |.given _ _ _=>4 |.rooted _ _=>4 |.power _ _=>3 |.minus _=>2
 |.times _ _=>1 |.over _ _=>1 |.sum _ _=>0 |.less _ _=>0
noncomputable def wn(r:Nat)(t:PT)(l:List Nat):List Nat:=if rk t<r then 40::(l++[41])else l
noncomputable def wd(r:Nat)(t:PT)(d:Nat):Nat:=if rk t<r then d+1 else d
noncomputable def inT(i:Int):List Nat:=if i<0 then 45::al i.natAbs else al i.natAbs
noncomputable def frT(x:Int×Int):List Nat:=inT x.1++if x.2=1 then[]else 47::al x.2.natAbs
noncomputable def nrF(x:Int×Int):Int×Int:=(rt x.1 x.2,rb x.1 x.2)
noncomputable def tx:PT->List Nat
 |.whole n=>al n
 |.named w=>w
 |.given kp l h=>wRoot++40::(plT kp++44::32::(frT (nrF l)++46::46::(frT (nrF h)++[41])))
 |.minus t=>45::wn 3 t (tx t)
 |.power t k=>wn 4 t (tx t)++94::al k
 |.rooted t k=>(if k=2 then wSqrt else wCbrt)++40::(tx t++[41])
 |.sum a b=>tx a++32::43::32::wn 1 b (tx b)
 |.less a b=>tx a++32::45::32::wn 1 b (tx b)
 |.times a b=>wn 1 a (tx a)++42::wn 2 b (tx b)
 |.over a b=>wn 1 a (tx a)++47::wn 2 b (tx b)
noncomputable def dep:PT->Nat
 |.whole _=>0 |.named _=>0 |.given _ _ _=>1
 |.minus t=>wd 3 t (dep t) |.power t _=>wd 4 t (dep t) |.rooted t _=>dep t+1
 |.sum a b=>max (dep a) (wd 1 b (dep b)) |.less a b=>max (dep a) (wd 1 b (dep b))
 |.times a b=>max (wd 1 a (dep a)) (wd 2 b (dep b)) |.over a b=>max (wd 1 a (dep a)) (wd 2 b (dep b))
structure OkF(x:Int×Int):Prop where
 nz:x.2≠0
 t:x.1.natAbs<10^12
 b:x.2.natAbs<10^12
structure OkG(kp:List Int)(l h:Int×Int):Prop where
 tr:Tr kp
 len:kp.length<=9
 bd:∀k,(cf kp k).natAbs<10^15
 l:OkF l
 h:OkF h
theorem OkF.nr{x:Int×Int}(o:OkF x):(nrF x).1.natAbs<10^12/\1<=(nrF x).2/\(nrF x).2.natAbs<10^12 :=
 ⟨N1 (Cs o.nz) o.t,we o.nz,N1 (CH o.nz) o.b⟩
theorem xo{x:Int×Int}(h:x.2≠0):nrF (nrF x)=nrF x:=by
 have g:=CL (t:=x.1) h;have p:=we (t:=x.1) h;have nz:rb x.1 x.2≠0:=by omega
 have e:dv (rt x.1 x.2) (rb x.1 x.2)=1:=by unfold dv;rw[if_neg (by omega),g];rfl
 have e1:=rC (t:=rt x.1 x.2) nz;have e2:=pB (t:=rt x.1 x.2) nz;rw[e,Int.one_mul]at e1 e2;show(rt (rt x.1 x.2) (rb x.1 x.2),rb (rt x.1 x.2) (rb x.1 x.2))=(rt x.1 x.2,rb x.1 x.2);rw[e1,e2]
noncomputable def nrm:PT->PT
 |.given kp l h=>.given kp (nrF l) (nrF h)
 |.minus t=>.minus (nrm t) |.power t k=>.power (nrm t) k |.rooted t k=>.rooted (nrm t) k
 |.sum a b=>.sum (nrm a) (nrm b) |.less a b=>.less (nrm a) (nrm b) |.times a b=>.times (nrm a) (nrm b) |.over a b=>.over (nrm a) (nrm b)
 |t=>t
theorem gQ(t:PT):rk (nrm t)=rk t:=by cases t<;>rfl
theorem dW:∀t:PT,(nrm t).hgt=t.hgt
 |.whole _=>rfl |.named _=>rfl |.given _ _ _=>rfl
 |.minus t=>congrArg (·+1) (dW t) |.power t _=>congrArg (·+1) (dW t) |.rooted t _=>congrArg (·+1) (dW t)
 |.sum a b=>by show max _ _+1=max _ _+1;rw[dW a,dW b]
 |.less a b=>by show max _ _+1=max _ _+1;rw[dW a,dW b]
 |.times a b=>by show max _ _+1=max _ _+1;rw[dW a,dW b]
 |.over a b=>by show max _ _+1=max _ _+1;rw[dW a,dW b]
noncomputable def OkT:PT->Prop
 |.whole n=>n<10^30
 |.named w=>bu w=true
 |.given kp l h=>OkG kp l h
 |.minus t=>OkT t
 |.power t k=>OkT t/\k<=8
 |.rooted t k=>OkT t/\(k=2\/k=3)
 |.sum a b=>OkT a/\OkT b |.less a b=>OkT a/\OkT b |.times a b=>OkT a/\OkT b |.over a b=>OkT a/\OkT b
inductive Jn:List (List Nat)->List Nat->Prop
 |nil:Jn [] []
 |cons (g:Nat) (m:List Nat) {ms:List (List Nat)} {l:List Nat} (h:Jn ms l):Jn (m::ms) (List.replicate g 32++(m++l))
theorem Jn.app{a b:List (List Nat)}{x y:List Nat}(h:Jn a x)(k:Jn b y):Jn (a++b) (x++y):=by
 induction h with
 |nil=>exact k
 |cons g m h ih=>rw[Nq,Nl,Nl];exact .cons g m ih
theorem Jn.mk(m:List Nat){ms:List (List Nat)}{l:List Nat}(h:Jn ms l):Jn (m::ms) (m++l):=.cons 0 m h
theorem Jn.one(m:List Nat):Jn [m] m:=by have:=Jn.mk m .nil;rw[Ny]at this;exact this
theorem Jn.lead{ms:List (List Nat)}{l:List Nat}(h:Jn ms l)(hn:ms≠[]):Jn ms (32::l):=by
 cases h with
 |nil=>exact absurd rfl hn
 |cons g m h=>exact .cons (g+1) m h
theorem Bt{a:List Nat}{r:List (List Nat)}(h:Sp (a::r)):Sp r:=by
 cases r with
 |nil=>trivial
 |cons b r=>exact h.2
theorem vM:∀{y:List (List Nat)} {z m:List Nat} {r:List (List Nat)},Sp (y++z::m::r)->Apt z m
 | [],_,_,_,h=>h.1
 |_::_,_,_,_,h=>vM (Bt h)
theorem Hj{ms:List (List Nat)}{l:List Nat}(h:Jn ms l):∀(X:List Nat) (ms0:List (List Nat)),(mks 0 X).map (·.1)=ms0->((ms0=[]/\X=[])\/∃y z,ms0=y++[z]/\X.getLast?=z.getLast?)->Sp (ms0++ms)->(∀m∈ms0++ms,WfK m)->(mks 0 (X++l)).map (·.1)=ms0++ms:=by
 induction h with
 |nil=>intro X ms0 h _ _ _;rw[Ny,Ny];exact h
 |cons g m h ih =>
  rename_i ms l
  intro X ms0 hX hL hS hW;have wm:=hW m (by simp)
  have ng:dq X m:=by
   rcases hL with⟨_,rfl⟩ |⟨y,z,rfl,hz⟩
   ·exactλa b h=>by cases h
   ·intro a b h1 h2;rw[Nl]at hS;exact Fh (hW z (by simp)) (vM hS) a b (by rw[<- hz];exact h1) h2
  have e:X++(List.replicate g 32++(m++l))=(X++List.replicate g 32++m)++l:=by simp only[Nl]
  rw[e,ih (X++List.replicate g 32++m) (ms0++[m]) (by rw[xv wm.wf (.inr ng),NI,hX];rfl) (.inr ⟨ms0,m,rfl,?_⟩) (by rw[Nl];exact hS) (by rw[Nl];exact hW),Nl];rfl;rw[List.getLast?_append];obtain⟨c,r,rfl⟩:=Nz wm.wf.ne;cases e:(c::r).getLast? with
  |none=>simp at e
  |some v=>rfl
theorem Hl{ms:List (List Nat)}{l:List Nat}(h:Jn ms l)(hW:∀m∈ms,WfK m):∀c∈l,c<128:=by
 induction h with
 |nil=>intro c hc;cases hc
 |cons g m h ih =>
  intro c hc;simp only[No,List.mem_replicate]at hc;rcases hc with hc |hc |hc
  ·rw[hc.2];decide
  ·exact(hW m (by simp)).wf.asc c hc
  ·exact ih (λm hm=>hW m (by simp[hm])) c hc
theorem wJ{k:Nat}{us rest:List Mk}(h1:1<=k)(hk:k<=8)(hu:us.map (·.1)=[120]::if k=1 then[]else[[94],al k])(h94:mhd rest≠[94]):aQ (us++rest)=.inr (k,rest):=by
 obtain⟨x,u,rfl,qx,hu⟩:=map_cons hu;have qx':x.1=[120]:=qx;by_cases e:k=1
 ·rw[if_pos e]at hu;rw[NV.mp hu,Nq,NF];cases rest with
  |nil=>simp[aQ,qx',e]
  |cons v r=>simp[aQ,qx',e,show ¬v.1=[94]from h94]
 ·rw[if_neg e]at hu;obtain⟨p,u,rfl,qp,hu⟩:=map_cons hu;obtain⟨w,rfl,qw⟩:=dD hu;exact Dj (r:=rest) hk qx qp qw
theorem qB{size k:Nat}{us rest:List Mk}(hs:size<10^15)(hk:k<=8)(hu:us.map (·.1)=tmM size k)(h42:mhd rest≠[42])(h94:mhd rest≠[94]):aY (us++rest)=.inr (size,k,rest):=by
 unfold tmM at hu
 have ln:=pJ hs;by_cases h0:k=0
 ·rw[if_pos h0]at hu;obtain⟨b,rfl,qb⟩:=dD hu;have qb':b.1=al size:=qb;cases rest with
  |nil=>simp[aY,qb',nI,lT size ln,h0]
  |cons v r=>simp[aY,qb',nI,lT size ln,h0,show ¬v.1=[42]from h42]
 rw[if_neg h0]at hu;by_cases h1:size=1
 ·rw[if_pos h1,NF]at hu;have hp:=wJ (rest:=rest) (by omega) hk hu h94;obtain⟨x,u,rfl,qx,_⟩:=map_cons hu;have qx':x.1=[120]:=qx;have e0:isN [120]=false:=by decide
  rw[Nq]at hp ⊢;simp[aY,qx',e0,hp,h1]
 ·rw[if_neg h1]at hu;obtain⟨a,u,rfl,qa,hu⟩:=map_cons hu;obtain⟨s,u,rfl,qs,hu⟩:=map_cons hu;have qa':a.1=al size:=qa;have qs':s.1=[42]:=qs;have hp:=wJ (rest:=rest) (by omega) hk hu h94;simp[aY,qa',nI,qs',hp,lT size ln]
theorem BE{x:Int}:(if([if x<0 then 45 else 43]:List Nat)=[45]then(-1:Int)else 1)*((x.natAbs:Nat):Int)=x:=by
 by_cases h:x<0
 ·rw[if_pos h,if_pos rfl];omega
 ·rw[if_neg h,if_neg (by decide)];omega
theorem rK{l:List Int}{v:Mk}{r:List Mk}(hv:v.1=[44]):∀(n:Nat) (us:List Mk),us.map (·.1)=ptM l n->mhd (us++v::r)≠[42]/\mhd (us++v::r)≠[94]
 |0,us,h=>by have:us=[]:=NV.mp h;subst this;show v.1≠[42]/\v.1≠[94];rw[hv];decide
 |n+1,us,h=>by
  unfold ptM at h
  by_cases e:cf l n=0
  ·rw[if_pos e,NF]at h;exact rK hv n us h
  ·rw[if_neg e,Nq]at h;obtain⟨s,u,rfl,qs,_⟩:=map_cons h;have qs':s.1=[if cf l n<0 then 45 else 43]:=qs;show s.1≠[42]/\s.1≠[94];rw[qs'];split<;>decide
theorem rJ{l:List Int}(hl:∀k,(cf l k).natAbs<10^15){v:Mk}{r:List Mk}(hv:v.1=[44]):∀(n:Nat) (us:List Mk) (c:Cfg),n<=9->us.map (·.1)=ptM l n->Lf2 c.st (us++v::r)->∃c':Cfg,mgo c (us++v::r)=(c',v::r)/\c'.st.opn=false/\∀k,c'.fin k=c.fin k+if k<n then cf l k else 0
 |0,us,c,_,h,hc=>by
  have:us=[]:=NV.mp h;subst this;refine⟨c,(pY hc).2 ?_ ?_,sQ hc,λk=>by rw[if_neg (Nat.not_lt_zero k),Int.add_zero]⟩
  ·show v.1≠[43];rw[hv];decide
  ·show v.1≠[45];rw[hv];decide
 |n+1,us,c,hn,h,hc=>by
  unfold ptM at h
  by_cases e:cf l n=0
  ·rw[if_pos e,NF]at h;obtain⟨c',e1,e2,e3⟩:=rJ hl hv n us c (by omega) h hc;refine⟨c',e1,e2,λk=>?_⟩;rw[e3 k];by_cases hk:k=n
   ·subst hk;rw[if_neg (NA _),if_pos (by omega),e]
   ·by_cases h1:k<n
    ·rw[if_pos h1,if_pos (by omega)]
    ·rw[if_neg h1,if_neg (by omega)]
  ·rw[if_neg e,Nq]at h;obtain⟨s,u,rfl,qs,h⟩:=map_cons h;obtain⟨a,b,rfl,ha,hb⟩:=dE h;have qs':s.1=[if cf l n<0 then 45 else 43]:=qs
   have q2:s.1=[43]\/s.1=[45]:=by
    rw[qs'];split
    ·exact .inr rfl
    ·exact .inl rfl
   obtain⟨d1,d2⟩:=rK (r:=r) hv n b hb;rw[Nq]at hc ⊢;rw[(pY hc).1 s _ rfl q2,Nl];obtain⟨s1,l1,_,e1⟩:=(ig (c:=⟨.p1,c.fin,if s.1=[45]then -1 else 1,0,0⟩) (us:=a++(b++v::r)) (.inl rfl) rfl).2 _ n _ (qB (hl n) (by omega) ha d1 d2);rw[e1];obtain⟨c',e2,e3,e4⟩:=rJ hl hv n b ⟨s1,c.fin,if s.1=[45]then -1 else 1,((cf l n).natAbs:Nat),n⟩ (by omega) hb l1;refine⟨c',e2,e3,λk=>?_⟩;rw[e4 k];show(c.fin k+if k=n then(if s.1=[45]then(-1:Int)else 1)*(((cf l n).natAbs:Nat):Int)else 0)+_=_;rw[qs',BE];by_cases hk:k=n
   ·subst hk;rw[if_pos rfl,if_neg (NA _),if_pos (by omega),Int.add_zero]
   ·rw[if_neg hk];by_cases h1:k<n
    ·rw[if_pos h1,if_pos (by omega),Int.add_zero]
    ·rw[if_neg h1,if_neg (by omega),Int.add_zero]
theorem vx{size k:Nat}{us rest:List Mk}(hu:us.map (·.1)=tmM size k):mhd (us++rest)≠[45]:=by
 unfold tmM at hu
 by_cases h0:k=0
 ·rw[if_pos h0]at hu;obtain⟨b,rfl,qb⟩:=dD hu;show b.1≠[45];rw[show b.1=al size from qb];exact oC (by decide)
 rw[if_neg h0]at hu;by_cases h1:size=1
 ·rw[if_pos h1,NF]at hu;obtain⟨x,u,rfl,qx,_⟩:=map_cons hu;show x.1≠[45];rw[show x.1=[120]from qx];decide
 ·rw[if_neg h1]at hu;obtain⟨a,u,rfl,qa,hu⟩:=map_cons hu;show a.1≠[45];rw[show a.1=al size from qa];exact oC (by decide)
theorem Dg{kp:List Int}(hk:Tr kp)(hn:kp.length<=9)(hl:∀k,(cf kp k).natAbs<10^15){us:List Mk}{v:Mk}{r:List Mk}(hu:us.map (·.1)=plM kp)(hv:v.1=[44]):dC (us++v::r)=.inr (kp,v::r):=by
 have fin:∀{c:Cfg},mgo cfg0 (us++v::r)=(c,v::r)->c.st.opn=false->(∀k,c.fin k=cf kp k)->dC (us++v::r)=.inr (kp,v::r):=λ{c} h1 h2 h3=>by
  have ekp:cS c=kp:=by
   refine zh (ic _) hk λk=>?_
   unfold cS;rw[oE,qk];split
   ·exact h3 k
   ·exact(eY (by omega)).symm
  unfold dC;rw[h1,if_neg (by rw[h2];decide),ekp]
 unfold plM at hu
 by_cases h0:kp=[]
 ·rw[if_pos h0]at hu;have hu':us.map (·.1)=tmM 0 0:=hu;have n42:mhd (v::r)≠[42]:=by show v.1≠[42];rw[hv];decide
  have n94:mhd (v::r)≠[94]:=by show v.1≠[94];rw[hv];decide
  obtain⟨s1,l1,_,e1⟩:=(ig (c:=cfg0) (us:=us++v::r) (.inr ⟨rfl,vx hu'⟩) rfl).2 0 0 _ (qB (by decide) (by decide) hu' n42 n94);have e2:=(pY (c:=⟨s1,cfg0.row,cfg0.sg,((0:Nat):Int),0⟩) l1).2 (by show v.1≠[43];rw[hv];decide) (by show v.1≠[45];rw[hv];decide);refine fin (e1.trans e2) (sQ l1) λk=>?_
  rw[h0];show(0:Int)+(if k=0 then(1:Int)*((0:Nat):Int)else 0)=0;split<;>rfl
 rw[if_neg h0]at hu;have hpos:=List.length_pos_iff.mpr h0;obtain⟨d,hd⟩:∃d,kp.length=d+1:=⟨kp.length-1,by omega⟩;have hd1:kp.length-1=d:=by omega
 rw[hd1,Nl]at hu;obtain⟨p,u,rfl,hp,hu⟩:=dE hu;obtain⟨a,b,rfl,ha,hb⟩:=dE hu;obtain⟨d1,d2⟩:=rK (r:=r) hv d b hb;have tr:=qB (rest:=b++v::r) (hl d) (by omega) ha d1 d2
 have go:∃sg:Int,sg*((cf kp d).natAbs:Nat)=cf kp d/\∃s1,Lf2 s1 (b++v::r)/\mgo cfg0 (p++(a++(b++v::r)))=mgo ⟨s1,λ_=>0,sg,((cf kp d).natAbs:Nat),d⟩ (b++v::r):=by
  by_cases hs:cf kp d<0
  ·rw[if_pos hs]at hp;obtain⟨m,rfl,qm⟩:=dD hp;refine⟨-1,by omega,?_⟩;obtain⟨s1,l1,_,e1⟩:=(ig (c:=⟨.p1,λ_=>0,-1,0,0⟩) (us:=a++(b++v::r)) (.inl rfl) rfl).2 _ d _ tr;exact⟨s1,l1,by rw[List.singleton_append,y6 qm,e1]⟩
  ·rw[if_neg hs]at hp;rw[NV.mp hp];refine⟨1,by omega,?_⟩;obtain⟨s1,l1,_,e1⟩:=(ig (c:=cfg0) (us:=a++(b++v::r)) (.inr ⟨rfl,vx ha⟩) rfl).2 _ d _ tr;exact⟨s1,l1,e1⟩
 obtain⟨sg,hsg,s1,l1,e1⟩:=go;obtain⟨c',e2,e3,e4⟩:=rJ hl hv d b ⟨s1,λ_=>0,sg,((cf kp d).natAbs:Nat),d⟩ (by omega) hb l1;rw[Nl,Nl]at fin ⊢;refine fin (e1.trans e2) e3 λk=>?_
 rw[e4 k];show((0:Int)+if k=d then sg*((cf kp d).natAbs:Nat)else 0)+_=_;rw[hsg,N7];by_cases hk:k=d
 ·subst hk;rw[if_pos rfl,if_neg (NA _),Int.add_zero]
 ·rw[if_neg hk];by_cases h1:k<d
  ·rw[if_pos h1,N7]
  ·rw[if_neg h1,eY (by omega)];rfl
noncomputable def frM(x:Int×Int):List (List Nat):=(if x.1<0 then[[45]]else[])++al x.1.natAbs::if x.2=1 then[]else[[47],al x.2.natAbs]
theorem wM{x:Int×Int}(hb:x.1.natAbs<10^15)(h2:1<=x.2)(h3:x.2.natAbs<10^15){us:List Mk}{v:Mk}{r:List Mk}(hu:us.map (·.1)=frM x)(hv:v.1≠[47]):bF (us++v::r)=.inr (x,v::r):=by
 obtain⟨p,q⟩:=x;unfold frM at hu
 obtain⟨y,z,rfl,hy,hz⟩:=dE hu;obtain⟨a,u,rfl,qa,hz⟩:=map_cons hz;have qa':a.1=al p.natAbs:=qa;have h2':1<=q:=h2;have h3':q.natAbs<10^15:=h3
 have ov:∀t:Int,cO t (u++v::r)=.inr ((t,q),v::r):=λt=>by
  by_cases h:q=1
  ·rw[if_pos (show(p,q).2=1 from h)]at hz;rw[NV.mp hz,h];exact Df hv
  ·rw[if_neg (show ¬(p,q).2=1 from h)]at hz;obtain⟨s,w,rfl,qs,hz⟩:=map_cons hz;obtain⟨m,rfl,qm⟩:=dD hz;have qm':m.1=al q.natAbs:=qm;have e:((q.natAbs:Nat):Int)=q:=by omega
   have:=De (t:=t) (r:=v::r) h3' (by omega) qs qm';rw[e]at this;exact this
 have tp:∀sg:Int,sg*((p.natAbs:Nat):Int)=p->dB sg (a::(u++v::r))=.inr ((p,q),v::r):=λsg hs=>by unfold dB;rw[wt hb qa];show cO (sg*((p.natAbs:Nat):Int)) (u++v::r)=_;rw[hs,ov]
 unfold bF;by_cases hs:p<0
 ·rw[if_pos (show(p,q).1<0 from hs)]at hy;obtain⟨m,rfl,qm⟩:=dD hy;rw[Nl,if_pos (show mhd ([m]++(a::u++v::r))=[45]from qm)];exact tp (-1) (by omega)
 ·rw[if_neg (show ¬(p,q).1<0 from hs)]at hy;rw[NV.mp hy,NF,if_neg (show ¬mhd (a::u++v::r)=[45]fromλz=>oC (by decide) (qa'.symm.trans z))];exact tp 1 (by omega)
def Gm(m:List Nat):Prop:=WfK m/\m.length<=4300
theorem gm1{c:Nat}(h:c∈[40,41,42,43,44,45,47,94]):Gm [c]:=⟨(sy1 c h).1,by show 1<=4300;decide⟩
theorem gmn{n:Nat}(h:n<10^15):Gm (al n):=⟨qz n,pJ h⟩
theorem gmx:Gm [120]:=⟨AF,by decide⟩
theorem yN{s k:Nat}(hs:s<10^15)(hk:k<10^15):∀m∈tmM s k,Gm m:=by
 intro m hm;unfold tmM at hm
 split at hm
 ·rw[Nu.mp hm];exact gmn hs
 rcases No.mp hm with hm |hm
 ·split at hm
  ·cases hm
  ·simp only[Ni,Nx,or_false]at hm;rcases hm with rfl |rfl
   ·exact gmn hs
   ·exact gm1 (by simp)
 ·rcases Ni.mp hm with rfl |hm
  ·exact gmx
  ·split at hm
   ·cases hm
   ·simp only[Ni,Nx,or_false]at hm;rcases hm with rfl |rfl
    ·exact gm1 (by simp)
    ·exact gmn hk
theorem yO{l:List Int}(hl:∀k,(cf l k).natAbs<10^15):∀n,n<=9->∀m∈ptM l n,Gm m
 |0,_,m,hm=>by cases hm
 |n+1,hn,m,hm=>by
  unfold ptM at hm
  rcases No.mp hm with hm |hm
  ·split at hm
   ·cases hm
   ·rcases Ni.mp hm with rfl |hm
    ·split<;>exact gm1 (by simp)
    ·exact yN (hl n) (by omega) m hm
  ·exact yO hl n (by omega) m hm
theorem HX{kp:List Int}(hn:kp.length<=9)(hl:∀k,(cf kp k).natAbs<10^15):∀m∈plM kp,Gm m:=by
 intro m hm;unfold plM at hm
 split at hm
 ·rw[Nu.mp hm];exact gmn (n:=0) (by decide)
 rcases No.mp hm with hm |hm
 ·rcases No.mp hm with hm |hm
  ·split at hm
   ·rw[Nu.mp hm];exact gm1 (by simp)
   ·cases hm
  ·exact yN (hl _) (by omega) m hm
 ·exact yO hl _ (by omega) m hm
theorem yP{x:Int×Int}(hb:x.1.natAbs<10^15)(h2:x.2.natAbs<10^15):∀m∈frM x,Gm m:=by
 intro m hm;unfold frM at hm
 rcases No.mp hm with hm |hm
 ·split at hm
  ·rw[Nu.mp hm];exact gm1 (by simp)
  ·cases hm
 ·rcases Ni.mp hm with rfl |hm
  ·exact gmn hb
  ·split at hm
   ·cases hm
   ·simp only[Ni,Nx,or_false]at hm;rcases hm with rfl |rfl
    ·exact gm1 (by simp)
    ·exact gmn h2
theorem qJ(s k:Nat):Sp (tmM s k):=by
 unfold tmM
 have hx:Sp ([120]::if k=1 then[]else[[94],al k]):=by
  split
  ·trivial
  ·exact⟨.inr (.inl (by decide)),fm (by decide) trivial⟩
 split
 ·trivial
 split
 ·exact hx
 ·exact⟨.inr (.inl (by decide)),fm (by decide) hx⟩
theorem qK(l:List Int):∀(n:Nat) {a:List (List Nat)},Sp a->Sp (a++ptM l n)
 |0,a,h=>by show Sp (a++[]);rw[Ny];exact h
 |n+1,a,h=>by
  unfold ptM;by_cases e:cf l n=0
  ·rw[if_pos e,NF];exact qK l n h
  ·rw[if_neg e,<- Nl];exact qK l n (ip (by split<;>decide) h (qJ _ _))
theorem Bu(kp:List Int):Sp (plM kp):=by
 unfold plM;split
 ·trivial
 ·refine qK kp _ ?_;split
  ·exact fm (by decide) (qJ _ _)
  ·exact qJ _ _
theorem vN{x:Int×Int}{m:List Nat}{r:List (List Nat)}(hm:kdm m≠1)(hr:Sp (m::r)):Sp (frM x++m::r):=by
 have h1:Sp ((al x.1.natAbs::if x.2=1 then[]else[[47],al x.2.natAbs])++m::r):=by
  split
  ·exact⟨.inr (.inr (by rw[ny];exactλz=>hm z.symm)),hr⟩
  ·exact⟨.inr (.inl (by decide)),fm (by decide) ⟨.inr (.inr (by rw[ny];exactλz=>hm z.symm)),hr⟩⟩
 unfold frM;rw[Nl];split
 ·exact fm (by decide) h1
 ·exact h1
theorem Bv{x:Int×Int}{r:List (List Nat)}(hr:Sp (frM x++r)):Sp ([46,46]::(frM x++r)):=by
 unfold frM at hr ⊢
 by_cases h:x.1<0
 ·rw[if_pos h]at hr ⊢;exact⟨.inr (.inl (by decide)),hr⟩
 ·rw[if_neg h]at hr ⊢;exact⟨.inr (.inr (by rw[ny];decide)),hr⟩
theorem AZ(s k:Nat):tmM s k≠[]:=by
 unfold tmM;split
 ·simp
 ·split<;>simp
theorem yz(s k:Nat):Jn (tmM s k) (tmT s k):=by
 unfold tmM tmT;by_cases h0:k=0
 ·rw[if_pos h0,if_pos h0];exact .one _
 rw[if_neg h0,if_neg h0];refine Jn.app ?_ ?_
 ·by_cases h1:s=1
  ·rw[if_pos h1,if_pos h1];exact .nil
  ·rw[if_neg h1,if_neg h1];exact .mk _ (.one _)
 ·by_cases h1:k=1
  ·rw[if_pos h1,if_pos h1];exact .one [120]
  ·rw[if_neg h1,if_neg h1];exact .mk [120] (.mk [94] (.one _))
theorem yA(l:List Int):∀n,Jn (ptM l n) (ptT l n)
 |0=>.nil
 |n+1=>by
  unfold ptM ptT;refine Jn.app ?_ (yA l n);by_cases e:cf l n=0
  ·rw[if_pos e,if_pos e];exact .nil
  ·rw[if_neg e,if_neg e];exact Jn.cons 1 [if cf l n<0 then 45 else 43] ((yz _ n).lead (AZ _ _))
theorem Hi(kp:List Int):Jn (plM kp) (plT kp):=by
 unfold plM plT;by_cases h0:kp=[]
 ·rw[if_pos h0,if_pos h0];exact .one _
 rw[if_neg h0,if_neg h0];refine Jn.app (Jn.app ?_ (yz _ _)) (yA _ _);split
 ·exact .one _
 ·exact .nil
theorem yB(x:Int×Int):Jn (frM x) (frT x):=by
 unfold frM frT inT
 have h1:Jn (al x.1.natAbs::if x.2=1 then[]else[[47],al x.2.natAbs]) (al x.1.natAbs++if x.2=1 then[]else 47::al x.2.natAbs):=by
  split
  ·rw[Ny];exact .one _
  ·exact .mk _ (.mk [47] (.one _))
 split
 ·exact(Jn.app (.one [45]) h1:Jn ([[45]]++_) ([45]++(al x.1.natAbs++if x.2=1 then[]else 47::al x.2.natAbs)))
 ·exact h1
theorem Ik(x:Int×Int):frM x≠[]:=by unfold frM;simp
noncomputable def gvM(kp:List Int)(l h:Int×Int):List (List Nat):=[40]::(plM kp++[44]::(frM l++[46,46]::(frM h++[[41]])))
theorem cP{n:Nat}(h:n<10^12):n<10^15:=NG h (by decide)
theorem HV{kp:List Int}{l' h':Int×Int}(g:OkG kp l' h'):Gr 4 1 (wRoot::gvM kp (nrF l') (nrF h')) (.given kp (nrF l') (nrF h')):=by
 obtain⟨l1,l2,l3⟩:=g.l.nr;obtain⟨h1,h2,h3⟩:=g.h.nr;have tr:=g.tr;have len:=g.len;have bd:=g.bd;generalize nrF l'=l at l1 l2 l3 ⊢
 generalize nrF h'=h at h1 h2 h3 ⊢
 refine .given _ kp l h ?_ ?_ ?_ ⟨⟨by omega,NG l1 (by decide),NG l3 (by decide)⟩,by omega,NG h1 (by decide),NG h3 (by decide)⟩
 ·refine⟨.inr (.inl (by decide)),fm (by decide) (ip (by decide) (Bu kp) ?_)⟩;exact vN (by decide) (Bv (vN (by decide) (r:=[]) trivial))
 ·intro m hm;unfold gvM at hm
  simp only[Ni,No,Nx,or_false]at hm;rcases hm with rfl |hm |rfl |hm |rfl |hm |rfl
  ·exact gm1 (by simp)
  ·exact HX len bd m hm
  ·exact gm1 (by simp)
  ·exact yP (cP l1) (cP l3) m hm
  ·exact⟨AG,by decide⟩
  ·exact yP (cP h1) (cP h3) m hm
  ·exact gm1 (by simp)
 ·intro us rest hu;obtain⟨o,u,rfl,qo,hu⟩:=map_cons hu;obtain⟨y,z,rfl,hy,hz⟩:=dE hu;obtain⟨v,u,rfl,qv,hu⟩:=map_cons hz;obtain⟨a,z,rfl,ha,hz⟩:=dE hu;obtain⟨dd,u,rfl,qd,hu⟩:=map_cons hz;obtain⟨b,e,rfl,hb,he⟩:=dE hu;obtain⟨w,rfl,qw⟩:=dD he;unfold bE;rw[if_pos rfl];unfold aW;simp only[Nq,Nl,NF];rw[if_pos (show mhd (o::_)=[40]from qo)];simp only[List.tail_cons];rw[Dg tr len bd hy qv];show(if mhd (v::_)=[44]then aM (bF (a++dd::(b++w::rest))) _ else _)=_;rw[if_pos (show mhd (v::_)=[44]from qv),wM (cP l1) l2 (cP l3) ha (by rw[show dd.1=[46,46]from qd];decide)];show(if mhd (dd::_)=[46,46]then aM (bF (b++w::rest)) _ else _)=_;rw[if_pos (show mhd (dd::_)=[46,46]from qd),wM (cP h1) h2 (cP h3) hb (by rw[show w.1=[41]from qw];decide)];show(if mhd (w::rest)=[41]then _ else _)=_;rw[if_pos (show mhd (w::rest)=[41]from qw)];rfl
theorem Hk(kp:List Int)(l h:Int×Int):Jn (wRoot::gvM kp (nrF l) (nrF h)) (tx (.given kp l h)) :=
 Jn.mk wRoot (Jn.mk [40] ((Hi kp).app (Jn.mk [44] (Jn.lead ((yB (nrF l)).app (Jn.mk [46,46] ((yB (nrF h)).app (.one [41])))) (by have:=Ik (nrF l);simp[this])))))
theorem gF{r:Nat}{t:PT}(hr:r<=4)(h:∃ms,Gr (rk t) (dep t) ms (nrm t)/\Jn ms (tx t)):∃ms r',Gr r' (wd r t (dep t)) ms (nrm t)/\r<=r'/\Jn ms (wn r t (tx t)):=by
 obtain⟨ms,g,j⟩:=h;unfold wn wd;by_cases e:rk t<r
 ·rw[if_pos e,if_pos e];exact⟨_,4,.brk g,hr,Jn.mk [40] (j.app (.one [41]))⟩
 ·rw[if_neg e,if_neg e];exact⟨ms,rk t,g,by omega,j⟩
theorem HU{r d:Nat}{ms:List (List Nat)}{t:PT}(h:Gr r d ms t):r<=4:=by cases h<;>decide
theorem d7:∀{t:PT},OkT t->∃ms,Gr (rk t) (dep t) ms (nrm t)/\Jn ms (tx t)
 |.whole n,h=>⟨_,.whole n (by have:=lD 29 n h;omega),.one _⟩
 |.named w,h=>⟨_,.named w h,.one _⟩
 |.given kp l h,g=>⟨_,HV g,Hk kp l h⟩
 |.minus t,h=>by obtain⟨ms,r,g,hr,j⟩:=gF (r:=3) (by decide) (d7 (t:=t) h);exact⟨_,.minus g hr,.mk [45] j⟩
 |.power t k,h=>by
  obtain⟨ms,r,g,hr,j⟩:=gF (r:=4) (by decide) (d7 (t:=t) h.1)
  have e:r=4:=by have:=HU g;omega
  subst e;exact⟨_,.power g h.2,j.app (.mk [94] (.one _))⟩
 |.rooted t k,h=>by
  obtain⟨ms,g,j⟩:=d7 (t:=t) h.1;rcases h.2 with rfl |rfl
  ·exact⟨_,.sq g,Jn.mk wSqrt (Jn.mk [40] (j.app (.one [41])))⟩
  ·exact⟨_,.cb g,Jn.mk wCbrt (Jn.mk [40] (j.app (.one [41])))⟩
 |.sum a b,h=>by obtain⟨ms,g,j⟩:=d7 (t:=a) h.1;obtain⟨ms2,r,g2,hr,j2⟩:=gF (r:=1) (by decide) (d7 (t:=b) h.2);exact⟨_,.add (.inl ⟨rfl,rfl⟩) g g2 hr,j.app (Jn.cons 1 [43] (j2.lead g2.ne))⟩
 |.less a b,h=>by obtain⟨ms,g,j⟩:=d7 (t:=a) h.1;obtain⟨ms2,r,g2,hr,j2⟩:=gF (r:=1) (by decide) (d7 (t:=b) h.2);exact⟨_,.add (.inr ⟨rfl,rfl⟩) g g2 hr,j.app (Jn.cons 1 [45] (j2.lead g2.ne))⟩
 |.times a b,h=>by obtain⟨ms,r0,g,hr0,j⟩:=gF (r:=1) (by decide) (d7 (t:=a) h.1);obtain⟨ms2,r,g2,hr,j2⟩:=gF (r:=2) (by decide) (d7 (t:=b) h.2);exact⟨_,.mul (.inl ⟨rfl,rfl⟩) g hr0 g2 hr,j.app (Jn.mk [42] j2)⟩
 |.over a b,h=>by obtain⟨ms,r0,g,hr0,j⟩:=gF (r:=1) (by decide) (d7 (t:=a) h.1);obtain⟨ms2,r,g2,hr,j2⟩:=gF (r:=2) (by decide) (d7 (t:=b) h.2);exact⟨_,.mul (.inr ⟨rfl,rfl⟩) g hr0 g2 hr,j.app (Jn.mk [47] j2)⟩
theorem AM{t:PT}(h:OkT t):(nrm t).ok/\(∀c∈tx t,c<128)/\∃ms,Gr (rk t) (dep t) ms (nrm t)/\(mks 0 (tx t)).map (·.1)=ms:=by obtain⟨ms,g,j⟩:=d7 h;obtain⟨w1,w2⟩:=g.wfk;exact⟨g.ok,Hl j w2,ms,g,Hj j [] [] rfl (.inl ⟨rfl,rfl⟩) w1 w2⟩
theorem OkF.nrF{x:Int×Int}(o:OkF x):OkF (nrF x):=⟨by have:=o.nr.2.1;omega,o.nr.1,o.nr.2.2⟩
theorem dU:∀{t:PT},OkT t->OkT (nrm t)/\tx (nrm t)=tx t
 |.whole _,h=>⟨h,rfl⟩
 |.named _,h=>⟨h,rfl⟩
 |.given kp l h,o=>by have g:OkG kp l h:=o;refine⟨(⟨g.tr,g.len,g.bd,g.l.nrF,g.h.nrF⟩:OkG kp (RM.nrF l) (RM.nrF h)),?_⟩;show wRoot++40::(plT kp++44::32::(frT (RM.nrF (RM.nrF l))++46::46::(frT (RM.nrF (RM.nrF h))++[41])))=_;rw[xo g.l.nz,xo g.h.nz];rfl
 |.minus t,h=>by obtain⟨a,b⟩:=dU (t:=t) h;exact⟨a,by show 45::wn 3 (nrm t) (tx (nrm t))=45::wn 3 t (tx t);unfold wn;rw[b,gQ]⟩
 |.power t k,h=>by obtain⟨a,b⟩:=dU (t:=t) h.1;exact⟨⟨a,h.2⟩,by show wn 4 (nrm t) (tx (nrm t))++_=wn 4 t (tx t)++_;unfold wn;rw[b,gQ]⟩
 |.rooted t k,h=>by obtain⟨a,b⟩:=dU (t:=t) h.1;exact⟨⟨a,h.2⟩,by show _++40::(tx (nrm t)++[41])=_++40::(tx t++[41]);rw[b]⟩
 |.sum x y,h=>by obtain⟨a,b⟩:=dU (t:=x) h.1;obtain⟨a2,b2⟩:=dU (t:=y) h.2;exact⟨⟨a,a2⟩,by show tx (nrm x)++32::43::32::wn 1 (nrm y) (tx (nrm y))=tx x++32::43::32::wn 1 y (tx y);unfold wn;rw[b,b2,gQ]⟩
 |.less x y,h=>by obtain⟨a,b⟩:=dU (t:=x) h.1;obtain⟨a2,b2⟩:=dU (t:=y) h.2;exact⟨⟨a,a2⟩,by show tx (nrm x)++32::45::32::wn 1 (nrm y) (tx (nrm y))=tx x++32::45::32::wn 1 y (tx y);unfold wn;rw[b,b2,gQ]⟩
 |.times x y,h=>by obtain⟨a,b⟩:=dU (t:=x) h.1;obtain⟨a2,b2⟩:=dU (t:=y) h.2;exact⟨⟨a,a2⟩,by show wn 1 (nrm x) (tx (nrm x))++42::wn 2 (nrm y) (tx (nrm y))=wn 1 x (tx x)++42::wn 2 y (tx y);unfold wn;rw[b,b2,gQ,gQ]⟩
 |.over x y,h=>by obtain⟨a,b⟩:=dU (t:=x) h.1;obtain⟨a2,b2⟩:=dU (t:=y) h.2;exact⟨⟨a,a2⟩,by show wn 1 (nrm x) (tx (nrm x))++47::wn 2 (nrm y) (tx (nrm y))=wn 1 x (tx x)++47::wn 2 y (tx y);unfold wn;rw[b,b2,gQ,gQ]⟩
inductive TSt |bg |st |wo |gi |li |at |be |po(s:PSt) |fr(h:Bool)(k:Nat)
 deriving DecidableEq
abbrev TC2:=TSt×Nat
noncomputable def eR(m:List Nat):Bool:=decide (m=[43]) ||decide (m=[45]) ||decide (m=[42]) ||decide (m=[47])
noncomputable def dS(d:Nat)(c:TC2):Option TC2:=if d<10 then some c else none
noncomputable def nAt(d:Nat)(m:List Nat)(e:Option TC2):Option TC2 :=
 if m=[40]then dS d (.bg,d+1)else if isN m ||bu m then some (.at,d)else if m=wSqrt\/m=wCbrt then some (.wo,d)else if m=wRoot then some (.gi,d)else e
noncomputable def dX(d:Nat)(m:List Nat):Option TC2:=if eR m then some (.bg,d)else if m=[41]/\0<d then some (.at,d-1)else none
noncomputable def nFr(h:Bool)(k d:Nat)(m:List Nat):Option TC2 :=
 if k=0 then(if m=[45]then some (.fr h 1,d)else if isN m then some (.fr h 2,d)else none)
 else if k=1 then(if isN m then some (.fr h 2,d)else none)
 else if k=3 then(if isN m/\m≠[48]then some (.fr h 4,d)else none)
 else if m=[47]/\k=2 then some (.fr h 3,d)
 else if m=[46,46]/\h=false then some (.fr true 0,d)
 else if m=[41]/\h=true/\0<d then some (.at,d-1)else none
noncomputable def tnx(c:TC2)(m:List Nat):Option TC2:=match c.1 with
 |.bg=>nAt c.2 m (if m=[45]then some (.st,c.2)else none)
 |.st=>nAt c.2 m none
 |.wo=>if m=[40]then dS c.2 (.bg,c.2+1)else none
 |.gi=>if m=[40]then dS c.2 (.po .p0,c.2+1)else none
 |.li=>if isE m then some (.be,c.2)else none
 |.at=>if m=[94]then some (.li,c.2)else dX c.2 m
 |.be=>dX c.2 m
 |.po s=>match nxt s m with
  |some s'=>some (.po s',c.2)
  |none=>if m=[44]/\s.opn=false then some (.fr false 0,c.2)else none
 |.fr h k=>nFr h k c.2 m
noncomputable def tgo(c:TC2):List Mk->TC2×List Mk
 | []=>(c,[])
 |u::us=>match tnx c u.1 with
  |none=>(c,u::us)
  |some c'=>tgo c' us
noncomputable def bW(c:TC2):Bool:=(decide (c.1=.at) ||decide (c.1=.be))&&decide (c.2=0)
theorem ie{c c':TC2}{u:Mk}{us:List Mk}(h:tnx c u.1=some c'):tgo c (u::us)=tgo c' us:=by show(match tnx c u.1 with |none=>_ |some c'=>_)=_;rw[h]
theorem jN{c:TC2}{u:Mk}{us:List Mk}(h:tnx c u.1=none):tgo c (u::us)=(c,u::us):=by show(match tnx c u.1 with |none=>_ |some c'=>_)=_;rw[h]
def Bd(c:TC2)(us r:List Mk):Prop:=(tgo c us).2=r/\(r≠[]\/bW (tgo c us).1=false)
theorem zH{c c':TC2}{us r' r:List Mk}(h:tgo c us=tgo c' r')(b:Bd c' r' r):Bd c us r:=by unfold Bd;rw[h];exact b
theorem zG{c:TC2}{us:List Mk}(h:∀u r,us=u::r->tnx c u.1=none)(hf:bW c=false):Bd c us us:=by
 cases us with
 |nil=>exact⟨rfl,.inr hf⟩
 |cons u r =>unfold Bd;rw[jN (h u r rfl)];exact⟨rfl,.inl (by simp)⟩
theorem xK{us:List Mk}{m:List Nat}(h:mhd us=m)(hm:m≠[]):∃u r,us=u::r/\u.1=m/\us.tail=r:=by
 cases us with
 |nil=>exact absurd h.symm hm
 |cons u r=>exact⟨u,r,rfl,h,rfl⟩
theorem dG{c c':TC2}{us:List Mk}{m:List Nat}(h:mhd us=m)(hm:m≠[])(hn:tnx c m=some c'):tgo c us=tgo c' us.tail:=by obtain⟨u,r,rfl,e,_⟩:=xK h hm;exact ie (by rw[e];exact hn)
structure Ps{α:Type}(c:TC2)(X:TSt->List Mk->Prop)(d:Nat)(us:List Mk)(res:Res α):Prop where
 bad:∀r,res=.inl r->Bd c us r
 good:∀a r,res=.inr (a,r)->∃s,X s r/\tgo c us=tgo (s,d) r
theorem dg{α:Type}{c c':TC2}{X:TSt->List Mk->Prop}{d:Nat}{us r:List Mk}{res:Res α}(h:tgo c us=tgo c' r)(p:Ps c' X d r res):Ps c X d us res :=
 ⟨λx e=>zH h (p.bad x e),λa x e=>let⟨s,hx,g⟩:=p.good a x e;⟨s,hx,h.trans g⟩⟩
theorem iw{α:Type}{c:TC2}{X:TSt->List Mk->Prop}{d:Nat}{us:List Mk}(h:∀u r,us=u::r->tnx c u.1=none)(hf:bW c=false):Ps (α:=α) c X d us (.inl us) :=
 ⟨λr e=>(by cases e;exact zG h hf),λa r e=>(by cases e)⟩
theorem dQ{α:Type}{s:TSt}{X:TSt->List Mk->Prop}{d:Nat}{us:List Mk}{a:α}(h:X s us):Ps (s,d) X d us (.inr (a,us):Res α) :=
 ⟨λr e=>(by cases e),λa r e=>(by cases e;exact⟨s,h,rfl⟩)⟩
theorem fq{α β:Type}{c:TC2}{X Y:TSt->List Mk->Prop}{d d2:Nat}{us:List Mk}{res:Res α}{k:α->List Mk->Res β}(p:Ps c X d us res)(h:∀a r s,res=.inr (a,r)->X s r->Ps (s,d) Y d2 r (k a r)):Ps c Y d2 us (aM res k):=by
 cases e:res with
 |inl x=>exact⟨λr z=>by cases z;exact p.bad x e,λa r z=>by cases z⟩
 |inr y =>obtain⟨a,r⟩:=y;obtain⟨s,hx,g⟩:=p.good a r e;exact dg g (h a r s e hx)
theorem lr{α:Type}{c c':TC2}{X:TSt->List Mk->Prop}{d:Nat}{us:List Mk}{m:List Nat}{k:List Mk->Res α}(hm:m≠[])(h1:tnx c m=some c')(h2:∀u r,us=u::r->u.1≠m->tnx c u.1=none)(hf:bW c=false)(p:mhd us=m->Ps c' X d us.tail (k us.tail)):Ps c X d us (aW m us k):=by
 unfold aW;by_cases h:mhd us=m
 ·rw[if_pos h];exact dg (dG h hm h1) (p h)
 ·rw[if_neg h];exact iw (λu r e=>h2 u r e (λz=>h (by rw[e];exact z))) hf
theorem wI:∀(us:List Mk) (c:Cfg) (d:Nat),tgo (.po c.st,d) us=tgo (.po (mgo c us).1.st,d) (mgo c us).2/\∀u r,(mgo c us).2=u::r->nxt (mgo c us).1.st u.1=none
 | [],c,d=>⟨rfl,λu r e=>by cases e⟩
 |u::us,c,d=>by
  cases h:nxt c.st u.1 with
  |none =>rw[iF h];exact⟨rfl,λv r e=>by cases e;exact h⟩
  |some s =>
   rw[eE h]
   have e:(c.put u.1 s).st=s:=by
    unfold Cfg.put;split
    ·rfl
    ·split
     ·rfl
     ·split
      ·rfl
      ·split<;>rfl
   have ih:=wI us (c.put u.1 s) d;rw[e]at ih;refine⟨?_,ih.2⟩
   have hn:tnx (.po c.st,d) u.1=some (.po s,d):=by show(match nxt c.st u.1 with |some s'=>_ |none=>_)=_;rw[h]
   rw[ie hn];exact ih.1
def ExP(s:TSt)(r:List Mk):Prop:=∃p:PSt,s=.po p/\p.opn=false/\∀u x,r=u::x->nxt p u.1=none
theorem C4(us:List Mk)(d:Nat):Ps (.po .p0,d) ExP d us (dC us):=by
 have h:=wI us cfg0 d;have e0:cfg0.st=.p0:=rfl;rw[e0]at h;unfold dC;split
 ·rename_i ho
  refine⟨λr e=>?_,λa r e=>by cases e⟩;cases e;refine zH h.1 (zG (λu r e=>?_) rfl);show(match nxt (mgo cfg0 us).1.st u.1 with |some s'=>_ |none=>_)=_;rw[h.2 u r e];show(if u.1=[44]/\(mgo cfg0 us).1.st.opn=false then _ else _)=_;rw[if_neg (λz=>by rw[ho]at z;cases z.2)]
 ·rename_i ho
  refine⟨λr e=>(by cases e),λa r e=>?_⟩;cases e;exact⟨_,⟨_,rfl,by simpa using ho,h.2⟩,h.1⟩
def ExF(h:Bool)(s:TSt)(r:List Mk):Prop:=(s=.fr h 2/\mhd r≠[47])\/s=.fr h 4
theorem Hu:∀{m:List Nat},isN m=true->m≠[45]/\m≠[47]:=λ{m} h=>by refine⟨?_,?_⟩<;>(rintro rfl;exact absurd h (by decide))
theorem C6(h:Bool)(t:Int)(us:List Mk)(d:Nat):Ps (.fr h 2,d) (ExF h) d us (cO t us):=by
 unfold cO;by_cases e:mhd us=[47]
 ·rw[if_pos e];have g:tgo (.fr h 2,d) us=tgo (.fr h 3,d) us.tail:=dG e (by decide) (by show nFr h 2 d [47]=_;unfold nFr;rw[if_neg (by decide),if_neg (by decide),if_neg (by decide),if_pos ⟨rfl,rfl⟩]);refine dg g ?_
  have n3:∀m,tnx (.fr h 3,d) m=if isN m/\m≠[48]then some (.fr h 4,d)else none:=λm=>by show nFr h 3 d m=_;unfold nFr;rw[if_neg (by decide),if_neg (by decide),if_pos rfl]
  by_cases e2:mhd us.tail=[48]
  ·rw[if_pos e2];refine iw (λu r eu=>?_) rfl;rw[n3,if_neg (λz=>z.2 (by rw[eu]at e2;exact e2))]
  ·rw[if_neg e2];unfold cN;by_cases e3:isN (mhd us.tail)=true
   ·rw[if_pos e3];have g2:tgo (.fr h 3,d) us.tail=tgo (.fr h 4,d) us.tail.tail:=dG rfl (λz=>by rw[z]at e3;exact absurd e3 (by decide)) (by rw[n3,if_pos ⟨e3,e2⟩]);exact dg g2 (dQ (.inr rfl))
   ·rw[if_neg e3];refine iw (λu r eu=>?_) rfl;rw[n3,if_neg (λz=>e3 (by rw[eu];exact z.1))]
 ·rw[if_neg e];exact dQ (.inl ⟨rfl,e⟩)
theorem wz(h:Bool)(sg:Int)(k:Nat)(us:List Mk)(d:Nat)(hk:∀m,isN m=true->tnx (.fr h k,d) m=some (.fr h 2,d))(hn:∀u r,us=u::r->isN u.1=false->tnx (.fr h k,d) u.1=none):Ps (.fr h k,d) (ExF h) d us (dB sg us):=by
 unfold dB cN;by_cases e:isN (mhd us)=true
 ·rw[if_pos e];exact dg (dG rfl (λz=>by rw[z]at e;exact absurd e (by decide)) (hk _ e)) (C6 h _ _ d)
 ·rw[if_neg e];refine iw (λu r eu=>hn u r eu ?_) rfl;have:¬isN u.1=true:=λz=>e (by rw[eu];exact z)
  simpa using this
theorem wD(h:Bool)(us:List Mk)(d:Nat):Ps (.fr h 0,d) (ExF h) d us (bF us):=by
 have n0:∀m,tnx (.fr h 0,d) m=if m=[45]then some (.fr h 1,d)else if isN m then some (.fr h 2,d)else none:=λm=>by show nFr h 0 d m=_;unfold nFr;rw[if_pos rfl]
 have n1:∀m,tnx (.fr h 1,d) m=if isN m then some (.fr h 2,d)else none:=λm=>by show nFr h 1 d m=_;unfold nFr;rw[if_neg (by decide),if_pos rfl]
 unfold bF;by_cases e:mhd us=[45]
 ·rw[if_pos e];refine dg (dG e (by decide) (by rw[n0,if_pos rfl])) ?_;exact wz h _ 1 _ d (λm z=>by rw[n1,if_pos z]) (λu r _ z=>by rw[n1,if_neg (by rw[z];decide)])
 ·rw[if_neg e];refine wz h _ 0 _ d (λm z=>by rw[n0,if_neg (Hu z).1,if_pos z]) (λu r eu z=>?_);rw[n0,if_neg (λy=>e (by rw[eu];exact y)),if_neg (by rw[z];decide)]
def ExA(s:TSt)(_:List Mk):Prop:=s=.at
theorem zd{h:Bool}{s:TSt}{r:List Mk}{d:Nat}(x:ExF h s r):bW (s,d)=false/\∀m,(∀u y,r=u::y->m=u.1)->r≠[]->tnx (s,d) m=if m=[46,46]/\h=false then some (.fr true 0,d)else if m=[41]/\h=true/\0<d then some (.at,d-1)else none:=by
 rcases x with⟨rfl,x⟩ |rfl
 ·refine⟨rfl,λm hm hr=>?_⟩;show nFr h 2 d m=_;unfold nFr;rw[if_neg (by decide),if_neg (by decide),if_neg (by decide)];obtain⟨u,y,e⟩:=Nz hr;rw[if_neg (λz=>x (by rw[e];show u.1=_;rw[<- hm u y e];exact z.1))]
 ·refine⟨rfl,λm _ _=>?_⟩;show nFr h 4 d m=_;unfold nFr;rw[if_neg (by decide),if_neg (by decide),if_neg (by decide),if_neg (λz=>by cases z.2)]
theorem C9(n:Nat)(d:Nat)(hd:d+n=10)(us:List Mk):Ps (.gi,d) ExA d us (bE (So n).isSome us):=by
 have ng:∀m,tnx (.gi,d) m=if m=[40]then dS d (.po .p0,d+1)else none:=λm=>rfl
 cases n with
 |zero =>
  show Ps _ _ _ us (.inl us);refine iw (λu r e=>?_) rfl;rw[ng];unfold dS;split
  ·rw[if_neg (by omega)]
  ·rfl
 |succ n =>
  show Ps (.gi,d) ExA d us (bE true us);unfold bE;rw[if_pos rfl];refine lr (by decide) (c':=(.po .p0,d+1)) ?_ (λu r e z=>by rw[ng,if_neg z]) rfl λ_=>?_
  ·rw[ng,if_pos rfl];unfold dS;rw[if_pos (by omega)]
  refine fq (C4 _ (d+1)) λkp r s _ ⟨p,es,ho,hn⟩=>?_
  subst es
  have np:∀m,nxt p m=none->tnx (.po p,d+1) m=if m=[44]then some (.fr false 0,d+1)else none:=λm z=>by
   show(match nxt p m with |some s'=>_ |none=>_)=_;rw[z];show(if m=[44]/\p.opn=false then _ else _)=_;by_cases y:m=[44]
   ·rw[if_pos ⟨y,ho⟩,if_pos y]
   ·rw[if_neg (λx=>y x.1),if_neg y]
  have n44:nxt p [44]=none:=by cases p<;>first |rfl |cases ho
  refine lr (by decide) (c':=(.fr false 0,d+1)) (by rw[np _ n44,if_pos rfl]) (λu x e z=>by rw[np _ (hn u x e),if_neg z]) rfl λ_=>?_
  refine fq (wD false _ (d+1)) λl r s _ x=>?_
  obtain⟨f1,f2⟩:=zd (d:=d+1) x;refine lr (by decide) (c':=(.fr true 0,d+1)) ?_ (λu y e z=>?_) f1 λ_=>?_
  ·rcases x with⟨rfl,_⟩ |rfl<;>rfl
  ·rw[f2 u.1 (λv w e2=>by rw[e]at e2;cases e2;rfl) (by rw[e];simp),if_neg (λy=>z y.1),if_neg (λy=>by cases y.2.1)]
  refine fq (wD true _ (d+1)) λh r s _ x=>?_
  obtain⟨f1,f2⟩:=zd (d:=d+1) x;refine lr (by decide) (c':=(.at,d)) ?_ (λu y e z=>?_) f1 λ_=>?_
  ·rcases x with⟨rfl,_⟩ |rfl
   ·show nFr true 2 (d+1) [41]=_;unfold nFr;rw[if_neg (by decide),if_neg (by decide),if_neg (by decide),if_neg (by decide),if_neg (by decide),if_pos ⟨rfl,rfl,by omega⟩];rfl
   ·show nFr true 4 (d+1) [41]=_;unfold nFr;rw[if_neg (by decide),if_neg (by decide),if_neg (by decide),if_neg (by decide),if_neg (by decide),if_pos ⟨rfl,rfl,by omega⟩];rfl
  ·rw[f2 u.1 (λv w e2=>by rw[e]at e2;cases e2;rfl) (by rw[e];simp),if_neg (λy=>by cases y.2),if_neg (λy=>z y.1)]
  exact dQ rfl
def ExW(s:TSt)(r:List Mk):Prop:=(s=.at/\mhd r≠[94])\/s=.be
def ExR(s:TSt)(r:List Mk):Prop:=ExW s r/\mhd r≠[42]/\mhd r≠[47]
def ExS(s:TSt)(r:List Mk):Prop:=ExR s r/\mhd r≠[43]/\mhd r≠[45]
theorem zc{s:TSt}{u:Mk}{r:List Mk}{d:Nat}(x:ExW s (u::r)):tnx (s,d) u.1=dX d u.1:=by
 rcases x with⟨rfl,x⟩ |rfl
 ·show(if u.1=[94]then _ else _)=_;rw[if_neg (show ¬u.1=[94]from x)]
 ·rfl
theorem uq{s:TSt}{u:Mk}{r:List Mk}{d:Nat}(x:ExS s (u::r)):tnx (s,d) u.1=if u.1=[41]/\0<d then some (.at,d-1)else none:=by
 rw[zc x.1.1];unfold dX
 have h:eR u.1=false:=by unfold eR;rw[decide_eq_false (show ¬u.1=[43]from x.2.1),decide_eq_false (show ¬u.1=[45]from x.2.2),decide_eq_false (show ¬u.1=[42]from x.1.2.1),decide_eq_false (show ¬u.1=[47]from x.1.2.2)];rfl
 rw[h,if_neg (by decide)]
theorem wF{n d:Nat}(hd:d+n=10){s0:TSt}(h1:tnx (s0,d) [40]=dS d (.bg,d+1))(hf:bW (s0,d)=false)(us:List Mk)(h2:∀u r,us=u::r->u.1≠[40]->tnx (s0,d) u.1=none)(hS:∀m,n=m+1->∀us,Ps (.bg,d+1) ExS (d+1) us (pS m us)):Ps (s0,d) ExA d us (pBr (So n) us):=by
 cases n with
 |zero =>
  show Ps _ _ _ us (.inl us);refine iw (λu r e=>?_) hf;by_cases z:u.1=[40]
  ·rw[z,h1];unfold dS;rw[if_neg (by omega)]
  ·exact h2 u r e z
 |succ n =>
  show Ps (s0,d) ExA d us (aW [40] us λu1=>aM (pS n u1) λt u2=>aW [41] u2 λu3=>.inr (t,u3));refine lr (by decide) (c':=(.bg,d+1)) (by rw[h1];unfold dS;rw[if_pos (by omega)]) h2 hf λ_=>?_
  refine fq (hS n rfl _) λt r s _ x=>?_
  have hf2:bW (s,d+1)=false:=by unfold bW;rw[decide_eq_false (show ¬(s,d+1).2=0 from Nat.succ_ne_zero d),Bool.and_false]
  refine lr (by decide) (c':=(.at,d)) ?_ (λu y e z=>?_) hf2 λ_=>?_
  ·have:tnx (s,d+1) [41]=dX (d+1) [41]:=by
    rcases x.1.1 with⟨rfl,_⟩ |rfl
    ·show(if([41]:List Nat)=[94]then some (TSt.li,d+1)else dX (d+1) [41])=_;rw[if_neg (by decide)]
    ·rfl
   rw[this];unfold dX;rw[if_neg (by decide),if_pos ⟨rfl,by omega⟩];rfl
  ·subst e;rw[uq x,if_neg (λy=>z y.1)]
  exact dQ rfl
theorem Fk{m:List Nat}(h:bu m=true):m≠[40]/\m≠[45]:=by refine⟨?_,?_⟩<;>(rintro rfl;exact absurd h (by decide))
theorem Fl{m:List Nat}(h:isN m=true):m≠[40]/\m≠[45]:=by refine⟨?_,?_⟩<;>(rintro rfl;exact absurd h (by decide))
theorem Da{n d:Nat}(hd:d+n=10){s0:TSt}{e0:List Nat->Option TC2}(hs:∀m,tnx (s0,d) m=nAt d m (e0 m))(hf:bW (s0,d)=false)(us:List Mk)(he:∀u r,us=u::r->e0 u.1=none)(hS:∀m,n=m+1->∀us,Ps (.bg,d+1) ExS (d+1) us (pS m us)):Ps (s0,d) ExA d us (br (So n) us):=by
 unfold br;by_cases a1:isN (mhd us)=true
 ·rw[if_pos a1];refine dg (dG (c':=(.at,d)) rfl (λz=>by rw[z]at a1;exact absurd a1 (by decide)) ?_) (dQ rfl);rw[hs];unfold nAt;rw[if_neg (Fl a1).1,if_pos (by rw[a1];rfl)]
 rw[if_neg a1];by_cases a2:bu (mhd us)=true
 ·rw[if_pos a2];refine dg (dG (c':=(.at,d)) rfl (λz=>by rw[z]at a2;exact absurd a2 (by decide)) ?_) (dQ rfl);rw[hs];unfold nAt;rw[if_neg (Fk a2).1,if_pos (by rw[a2,Bool.or_true])]
 rw[if_neg a2]
 have nb:¬(isN (mhd us) ||bu (mhd us))=true:=λz=>by
  rcases(NJ _ _).mp z with y |y
  ·exact a1 y
  ·exact a2 y
 have wo:∀(w:List Nat),(w=wSqrt\/w=wCbrt)->mhd us=w->∀k:PT->PT,Ps (s0,d) ExA d us (aM (pBr (So n) us.tail) λt r=>.inr (k t,r)):=λw hw e k=>by
  refine dg (dG (c':=(.wo,d)) e (by rcases hw with rfl |rfl<;>decide) ?_) ?_
  ·rw[hs];unfold nAt;rw[e]at nb;rw[if_neg (by rcases hw with rfl |rfl<;>decide),if_neg nb,if_pos hw]
  ·refine fq (wF hd (s0:=.wo) rfl rfl _ (λu r _ z=>?_) hS) λt r s _ x=>?_
   ·show(if u.1=[40]then _ else _)=_;rw[if_neg z]
   ·have:s=.at:=x;subst this;exact dQ rfl
 by_cases a3:mhd us=wSqrt
 ·rw[if_pos a3];exact wo _ (.inl rfl) a3 _
 rw[if_neg a3];by_cases a4:mhd us=wCbrt
 ·rw[if_pos a4];exact wo _ (.inr rfl) a4 _
 rw[if_neg a4];by_cases a5:mhd us=wRoot
 ·rw[if_pos a5];refine dg (dG (c':=(.gi,d)) a5 (by decide) ?_) (C9 n d hd _);rw[hs];unfold nAt;rw[a5]at nb;rw[if_neg (by decide),if_neg nb,if_neg (by decide),if_pos rfl]
 rw[if_neg a5];refine wF hd (by rw[hs];unfold nAt;rw[if_pos rfl]) hf us (λu r e z=>?_) hS;rw[hs];unfold nAt;have em:mhd us=u.1:=by rw[e];rfl
 rw[em]at nb a3 a4 a5;rw[if_neg z,if_neg nb,if_neg (λy=>y.elim a3 a4),if_neg a5];exact he u r e
theorem C8(t:PT)(us:List Mk)(d:Nat):Ps (.at,d) ExW d us (dR t us):=by
 unfold dR;by_cases e:mhd us=[94]
 ·rw[if_pos e];refine dg (dG (c':=(.li,d)) e (by decide) (by show(if([94]:List Nat)=[94]then some (TSt.li,d)else dX d [94])=_;rw[if_pos rfl])) ?_;have nl:∀m,tnx (.li,d) m=if isE m then some (.be,d)else none:=λm=>rfl
  by_cases e2:isE (mhd us.tail)=true
  ·rw[if_pos e2];exact dg (dG (c':=(.be,d)) rfl (λz=>by rw[z]at e2;exact absurd e2 (by decide)) (by rw[nl,if_pos e2])) (dQ (.inr rfl))
  ·rw[if_neg e2];refine iw (λu r eu=>?_) rfl;rw[nl,if_neg (λz=>e2 (by rw[eu];exact z))]
 ·rw[if_neg e];exact dQ (.inl ⟨rfl,e⟩)
theorem wC{n d:Nat}(hd:d+n=10){s0:TSt}{e0:List Nat->Option TC2}(hs:∀m,tnx (s0,d) m=nAt d m (e0 m))(hf:bW (s0,d)=false)(us:List Mk)(he:∀u r,us=u::r->e0 u.1=none)(hS:∀m,n=m+1->∀us,Ps (.bg,d+1) ExS (d+1) us (pS m us)):Ps (s0,d) ExW d us (bZ (So n) us) :=
 fq (Da hd hs hf us he hS) λt r s _ x=>by have:s=.at:=x;subst this;exact C8 t r d
theorem wE{n d:Nat}(hd:d+n=10)(us:List Mk)(hS:∀m,n=m+1->∀us,Ps (.bg,d+1) ExS (d+1) us (pS m us)):Ps (.bg,d) ExW d us (aX (So n) us):=by
 unfold aX;by_cases e:mhd us=[45]
 ·rw[if_pos e];refine dg (dG (c':=(.st,d)) e (by decide) ?_) ?_
  ·show nAt d [45] (if([45]:List Nat)=[45]then _ else _)=_;unfold nAt;rw[if_neg (by decide),if_neg (by decide),if_neg (by decide),if_neg (by decide),if_pos rfl]
  ·exact fq (wC hd (s0:=.st) (e0:=λ_=>none) (λm=>rfl) rfl _ (λ_ _ _=>rfl) hS) λt r s _ x=>dQ x
 ·rw[if_neg e];refine wC hd (s0:=.bg) (e0:=λm=>if m=[45]then some (.st,d)else none) (λm=>rfl) rfl us (λu r eu=>?_) hS;show(if u.1=[45]then _ else _)=_;rw[if_neg (λz=>e (by rw[eu];exact z))]
theorem rN{F:List Mk->Res PT}{a b:List Nat}{f g:PT->PT->PT}{d:Nat}{X:TSt->List Mk->Prop}(hX:∀s r,X s r->ExW s r)(ha:eR a=true)(hb:eR b=true)(hF:∀us,Ps (.bg,d) X d us (F us))(hsh:∀us,Sh us (F us)):∀(n:Nat) (t:PT) (us:List Mk) (s:TSt),us.length<=n->X s us->Ps (s,d) (λs r=>X s r/\mhd r≠a/\mhd r≠b) d us (aT F a b f g n t us)
 |0,t,us,s,hn,x=>by have:us=[]:=Oe.mp (by omega);subst this;exact dQ ⟨x,λz=>by rw[<- z]at ha;exact absurd ha (by decide),λz=>by rw[<- z]at hb;exact absurd hb (by decide)⟩
 |n+1,t,us,s,hn,x=>by
  have step:∀(m:List Nat) (hm:eR m=true) (e:mhd us=m) (k:PT->PT->PT),Ps (s,d) (λs r=>X s r/\mhd r≠a/\mhd r≠b) d us (aM (F us.tail) λt2 r=>aT F a b f g n (k t t2) r):=λm hm e k=>by
   have hne:m≠[]:=λz=>by rw[z]at hm;exact absurd hm (by decide)
   obtain⟨u,r,rfl,e1,e2⟩:=xK e hne;refine dg (dG (c':=(.bg,d)) e hne ?_) ?_
   ·have:=zc (d:=d) (hX _ _ x);rw[e1]at this;rw[this];unfold dX;rw[if_pos hm]
   ·refine fq (hF _) λt2 r2 s2 er x2=>?_
    have:=hsh _ t2 r2 er;exact rN hX ha hb hF hsh n _ r2 s2 (by rw[Nj]at hn;rw[List.tail_cons]at this;omega) x2
  show Ps _ _ _ us (if mhd us=a then _ else if mhd us=b then _ else _);by_cases e1:mhd us=a
  ·rw[if_pos e1];exact step a ha e1 f
  ·rw[if_neg e1];by_cases e2:mhd us=b
   ·rw[if_pos e2];exact step b hb e2 g
   ·rw[if_neg e2];exact dQ ⟨x,e1,e2⟩
theorem wB{n d:Nat}(hd:d+n=10)(us:List Mk)(hS:∀m,n=m+1->∀us,Ps (.bg,d+1) ExS (d+1) us (pS m us)):Ps (.bg,d) ExR d us (aU (So n) us) :=
 fq (wE hd us hS) λt r s _ x=>rN (X:=ExW) (λ_ _ h=>h) (by decide) (by decide) (λus=>wE hd us hS) (jV (hZ n)) _ t r s (Ng _) x
theorem wA{n d:Nat}(hd:d+n=10)(us:List Mk)(hS:∀m,n=m+1->∀us,Ps (.bg,d+1) ExS (d+1) us (pS m us)):Ps (.bg,d) ExS d us (bY (So n) us) :=
 fq (wB hd us hS) λt r s _ x=>rN (X:=ExR) (λ_ _ h=>h.1) (by decide) (by decide) (λus=>wB hd us hS) (jU (hZ n)) _ t r s (Ng _) x
theorem rM:∀(n d:Nat),d+n=10->∀us,Ps (.bg,d) ExS d us (pS n us)
 |0,d,hd,us=>by rw[iz];exact wA hd us (λm e=>by cases e)
 |n+1,d,hd,us=>by rw[iz];exact wA hd us (λm e us=>by cases e;exact rM n (d+1) (by omega) us)
noncomputable def lA(us:List Mk):Res PT:=aM (pS 10 us) λt r=>if r=[]then .inr (t,[])else .inl r
theorem zY{us:List Mk}(h:(tgo (.bg,0) us).2≠[]\/bW (tgo (.bg,0) us).1=false):lA us=.inl (tgo (.bg,0) us).2:=by
 have p:=rM 10 0 rfl us;unfold lA;cases e:pS 10 us with
 |inl r =>show Sum.inl r=_;rw[(p.bad r e).1]
 |inr y =>
  obtain⟨t,r⟩:=y;obtain⟨s,x,g⟩:=p.good t r e;show(if r=[]then _ else _)=_;cases r with
  |nil =>
   exfalso;rw[g]at h;rcases h with z |z
   ·exact z rfl
   ·have:bW (s,0)=true:=by rcases x.1.1 with⟨rfl,_⟩ |rfl<;>rfl
    rw[show(tgo (s,0) []).1=(s,0)from rfl,this]at z;cases z
  |cons u r =>rw[if_neg (by simp),g,jN (by rw[uq x,if_neg (λz=>absurd z.2 (by omega))])]
theorem Lg{us:List Mk}(h:(tgo (.bg,0) us).2=[])(hf:bW (tgo (.bg,0) us).1=true):∃t,lA us=.inr (t,[]):=by
 have p:=rM 10 0 rfl us;unfold lA;cases e:pS 10 us with
 |inl r =>
  exfalso;have b:=p.bad r e;rcases b.2 with z |z
  ·exact z (b.1.symm.trans h)
  ·rw[hf]at z;cases z
 |inr y =>
  obtain⟨t,r⟩:=y;obtain⟨s,x,g⟩:=p.good t r e;cases r with
  |nil=>exact⟨t,rfl⟩
  |cons u r =>exfalso;rw[g,jN (by rw[uq x,if_neg (λz=>absurd z.2 (by omega))])]at h;cases h
def Mb(us:List Mk):Prop:=∀u∈us,u.1.length<=12
theorem Mb.tail{us:List Mk}(h:Mb us):Mb us.tail:=λu hu=>h u (List.mem_of_mem_tail hu)
theorem Mb.sub{us r:List Mk}(h:Mb us)(s:∀u∈r,u∈us):Mb r:=λu hu=>h u (s u hu)
theorem pP{us:List Mk}(h:Mb us):(mhd us).length<=12:=by
 cases us with
 |nil=>exact Nr _
 |cons u r=>exact h u (by simp)
theorem oY{m:List Nat}(h:isN m=true)(hl:m.length<=12):digitsVal m<10^12 :=
 Nm (zj m (lQ h)) (Nat.pow_le_pow_right (by decide) hl)
theorem jM{α:Type}{m:List Nat}{us:List Mk}{k:List Mk->Res α}{x:α×List Mk}(h:aW m us k=.inr x):mhd us=m/\k us.tail=.inr x:=by
 unfold aW at h
 split at h
 ·rename_i e;exact⟨e,h⟩
 ·cases h
theorem eZ{α β:Type}{res:Res α}{k:α->List Mk->Res β}{x:β×List Mk}(h:aM res k=.inr x):∃a r,res=.inr (a,r)/\k a r=.inr x:=by
 cases res with
 |inl y=>cases h
 |inr y=>exact⟨y.1,y.2,rfl,h⟩
def Sf(us r:List Mk):Prop:=∀u∈r,u∈us
theorem cz(us:List Mk):Sf us us.tail:=λ_ h=>List.mem_of_mem_tail h
theorem Sf.trans{a b c:List Mk}(h:Sf a b)(k:Sf b c):Sf a c:=λu hu=>h u (k u hu)
theorem JT{m:List Nat}(h:isN m=true)(h0:m≠[48]):digitsVal m≠0:=by
 have hD:=lQ h;unfold isN at h
 simp only[Np,NJ,decide_eq_true_eq]at h;obtain⟨⟨hn,_⟩,h2⟩:=h;rcases h2 with h2 |h2
 ·exact absurd h2 h0
 ·obtain⟨c,r,rfl⟩:=Nz hn;have hc:=hD c (by simp);unfold isD at hc
  simp only[Np,decide_eq_true_eq]at hc;have h48:c≠48:=λz=>h2 (by rw[z];rfl)
  have key:∀(r:List Nat) (a:Nat),1<=a->1<=r.foldl (λacc c=>acc*10+(c-48)) a:=λr=>by
   induction r with
   |nil=>intro a ha;exact ha
   |cons x r ih=>intro a ha;exact ih (a*10+(x-48)) (Nk (show 1<=a*10 by omega) (Of _ _))
  have:=key r (0*10+(c-48)) (by omega);intro z;have e:digitsVal (c::r)=r.foldl (λacc c=>acc*10+(c-48)) (0*10+(c-48)):=rfl;rw[e]at z;omega
theorem Dy{t:Int}(ht:t.natAbs<10^12){us r:List Mk}{x:Int×Int}(hb:Mb us)(h:cO t us=.inr (x,r)):OkF x/\Sf us r/\r.length<=us.length:=by
 have hl:=yk t us x r h;unfold cO at h
 split at h
 ·split at h
  ·cases h
  ·rename_i e1 e2
   unfold cN at h
   by_cases e3:isN (mhd us.tail)=true
   ·rw[if_pos e3]at h;cases h;have v:=oY e3 (pP hb.tail);have n0:=JT e3 e2;refine⟨⟨by show((digitsVal (mhd us.tail):Nat):Int)≠0;omega,ht,by show((digitsVal (mhd us.tail):Nat):Int).natAbs<10^12;rw[NW];exact v⟩,(cz us).trans (cz _),hl⟩
   ·rw[if_neg e3]at h;cases h
 ·cases h;exact⟨⟨by show(1:Int)≠0;decide,ht,by show(1:Int).natAbs<10^12;decide⟩,λ_ z=>z,hl⟩
theorem yT{us r:List Mk}{x:Int×Int}(hb:Mb us)(h:bF us=.inr (x,r)):OkF x/\Sf us r/\r.length<=us.length:=by
 have hl:=sR us x r h
 have top:∀(sg:Int) (v:List Mk),(sg=1\/sg = -1)->Mb v->dB sg v=.inr (x,r)->OkF x/\Sf v r:=λsg v hs hv e=>by
  unfold dB cN at e
  by_cases e3:isN (mhd v)=true
  ·rw[if_pos e3]at e;have vb:=oY e3 (pP hv);obtain⟨a,b,_⟩:=Dy (by rcases hs with rfl |rfl<;>omega) hv.tail e;exact⟨a,(cz v).trans b⟩
  ·rw[if_neg e3]at e;cases e
 unfold bF at h
 split at h
 ·obtain⟨a,b⟩:=top _ _ (.inr rfl) hb.tail h;exact⟨a,(cz us).trans b,hl⟩
 ·obtain⟨a,b⟩:=top _ _ (.inl rfl) hb h;exact⟨a,b,hl⟩
def CB(i:Nat)(c:Cfg):Prop:=(∀k,(c.row k).natAbs<=i*10^12)/\c.many.natAbs<=10^12/\(c.sg=1\/c.sg = -1)
theorem CB.fin{i:Nat}{c:Cfg}(h:CB i c)(k:Nat):(c.fin k).natAbs<=(i+1)*10^12:=by
 obtain⟨h1,h2,h3⟩:=h;have:=h1 k;unfold Cfg.fin;have e:(i+1)*10^12=i*10^12+10^12:=by rw[Nat.add_mul,Nat.one_mul]
 rw[e];split
 ·rcases h3 with z |z<;>rw[z]<;>omega
 ·omega
theorem E8{s s':PSt}{m:List Nat}(h:nxt s m=some s')(h1:¬(m=[43]\/m=[45]))(h2:m≠[120])(h3:¬(m=[42]\/m=[94]))(h4:s≠.pe):isN m=true:=by
 have h45:¬m=[45]:=λz=>h1 (.inr z)
 by_cases e:isN m=true
 ·exact e
 exfalso;cases s with
 |p0 =>have h:(if isN m=true then some PSt.pn else if m=[120]then some PSt.px else if m=[45]then some PSt.p1 else none)=some s':=h;rw[if_neg e,if_neg h2,if_neg h45]at h;cases h
 |p1 =>have h:(if isN m=true then some PSt.pn else if m=[120]then some PSt.px else none)=some s':=h;rw[if_neg e,if_neg h2]at h;cases h
 |pm =>have h:(if m=[120]then some PSt.px else none)=some s':=h;rw[if_neg h2]at h;cases h
 |pe=>exact h4 rfl
 |pn =>have h:(if m=[42]then some PSt.pm else if m=[43]\/m=[45]then some PSt.p1 else none)=some s':=h;rw[if_neg (λz=>h3 (.inl z)),if_neg h1]at h;cases h
 |px =>have h:(if m=[94]then some PSt.pe else if m=[43]\/m=[45]then some PSt.p1 else none)=some s':=h;rw[if_neg (λz=>h3 (.inr z)),if_neg h1]at h;cases h
 |pd =>have h:(if m=[43]\/m=[45]then some PSt.p1 else none)=some s':=h;rw[if_neg h1]at h;cases h
theorem Kc{i:Nat}{c:Cfg}{m:List Nat}{s:PSt}(h:CB i c)(hn:nxt c.st m=some s)(hl:m.length<=12):CB (i+1) (c.put m s):=by
 have hf:=h.fin;obtain⟨h1,h2,h3⟩:=h;have e:(i+1)*10^12=i*10^12+10^12:=by rw[Nat.add_mul,Nat.one_mul]
 have r1:∀k,(c.row k).natAbs<=(i+1)*10^12:=λk=>Nk (h1 k) (by rw[e];exact Of _ _)
 unfold Cfg.put;by_cases a1:m=[43]\/m=[45]
 ·rw[if_pos a1];exact⟨hf,Nr _,by show(if m=[45]then(-1:Int)else 1)=1\/(if m=[45]then(-1:Int)else 1) = -1;split;exact .inr rfl;exact .inl rfl⟩
 rw[if_neg a1];by_cases a2:m=[120]
 ·rw[if_pos a2];refine⟨r1,?_,h3⟩;show(if c.st=.pm then c.many else 1).natAbs<=_;split
  ·exact h2
  ·decide
 rw[if_neg a2];by_cases a3:m=[42]\/m=[94]
 ·rw[if_pos a3];exact⟨r1,h2,h3⟩
 rw[if_neg a3];by_cases a4:c.st=.pe
 ·rw[if_pos a4];exact⟨r1,h2,h3⟩
 rw[if_neg a4];refine⟨r1,?_,h3⟩;show((digitsVal m:Nat):Int).natAbs<=_;rw[NW];exact N4 (oY (E8 hn a1 a2 a3 a4) hl)
theorem zw:∀(us:List Mk) (c:Cfg) (i:Nat),Mb us->CB i c->CB (i+us.length) (mgo c us).1
 | [],c,i,_,h=>h
 |u::us,c,i,hb,h=>by
  cases e:nxt c.st u.1 with
  |none =>rw[iF e];refine⟨λk=>Nk (h.1 k) (Oj _ (Of _ _)),h.2⟩
  |some s =>rw[eE e];have:=zw us (c.put u.1 s) (i+1) (λv hv=>hb v (by simp[hv])) (Kc h e (hb u (by simp)));rw[Nj,show i+(us.length+1)=i+1+us.length by omega];exact this
theorem xM:∀(us:List Mk) (c:Cfg),Sf us (mgo c us).2
 | [],c=>λ_ z=>z
 |u::us,c=>by
  cases e:nxt c.st u.1 with
  |none=>rw[iF e];exactλ_ z=>z
  |some s=>rw[eE e];exactλv hv=>by simp[xM us _ v hv]
theorem A1{us r:List Mk}{kp:List Int}(hb:Mb us)(hl:us.length<=200)(h:dC us=.inr (kp,r)):Tr kp/\kp.length<=9/\(∀k,(cf kp k).natAbs<10^15)/\Sf us r/\r.length<=us.length:=by
 have hle:=yj us kp r h;unfold dC at h
 split at h
 ·cases h
 ·cases h;have c0:CB 0 cfg0:=⟨λk=>by show(0:Int).natAbs<=_;decide,by decide,.inl rfl⟩;have cb:=zw us cfg0 0 hb c0;refine⟨ic _,?_,λk=>?_,xM us cfg0,hle⟩
  ·have:=yi ((List.range 9).map (mgo cfg0 us).1.fin);unfold cS;rw[Nh,List.length_range]at this;exact this
  ·unfold cS;rw[oE,qk];split
   ·have:=cb.fin k;have:(0+us.length+1)*10^12<=201*10^12:=Oj _ (by omega);have:(201:Nat)*10^12<10^15:=by decide
    omega
   ·decide
theorem lE{n:Nat}(h:n<10^15):(al n).length<=15:=lD 14 n h
theorem vw{s k:Nat}(hs:s<10^15)(hk:k<10):(tmT s k).length<=20:=by
 have h1:=lE hs;have h2:=lD 0 k hk;unfold tmT;split
 ·omega
 ·rw[Nf,Nj];split<;>split<;>simp<;>omega
theorem wv{l:List Int}(h:∀k,(cf l k).natAbs<10^15):∀n,n<10->(ptT l n).length<=30*n
 |0,_=>Nr _
 |n+1,hn=>by
  have ih:=wv h n (by omega);have h1:=vw (h n) (k:=n) (by omega);unfold ptT;rw[Nf];split
  ·simp;omega
  ·rw[Nf];simp;omega
theorem Di{l:List Int}(h:∀k,(cf l k).natAbs<10^15)(hn:l.length<=9):(plT l).length<=300:=by
 unfold plT;split
 ·decide
 ·have h1:=vw (h (l.length-1)) (k:=l.length-1) (by omega);have h2:=wv h (l.length-1) (by omega);rw[Nf,Nf];split<;>simp<;>omega
theorem yU{x:Int×Int}(h1:x.1.natAbs<10^12)(h2:x.2.natAbs<10^12):(frT x).length<=40:=by have e1:=lE (cP h1);have e2:=lE (cP h2);unfold frT inT;rw[Nf];split<;>split<;>simp<;>omega
structure PF(n k c:Nat)(us r:List Mk)(t:PT):Prop where
 ok:OkT t
 dp:wd k t (dep t)<=n
 hg:2*t.hgt+r.length<=us.length+c
 ln:(tx t).length+1000*r.length<=1000*us.length
 sf:Sf us r
 lt:r.length<us.length
theorem AJ{k k':Nat}(h:k<=k')(t:PT)(d:Nat):wd k t d<=wd k' t d:=by
 unfold wd;split
 ·rw[if_pos (by omega)];exact Ng _
 ·split<;>omega
theorem PF.mon{n k k' c c':Nat}{us r:List Mk}{t:PT}(h:PF n k' c us r t)(hk:k<=k')(hc:c<=c'):PF n k c' us r t:=⟨h.ok,Nk (AJ hk t _) h.dp,by have:=h.hg;omega,h.ln,h.sf,h.lt⟩
theorem el{us:List Mk}(h:mhd us≠[]):us.tail.length+1=us.length:=by
 cases us with
 |nil=>exact absurd rfl h
 |cons u r=>rfl
theorem my(k:Nat)(t:PT)(l:List Nat):(wn k t l).length<=l.length+2:=by unfold wn;split<;>simp
theorem HZ{us r:List Mk}{t:PT}{b:Bool}(hb:Mb us)(hl:us.length<=200)(h:bE b us=.inr (t,r)):OkT t/\t.hgt=1/\rk t=4/\dep t=1/\b=true/\(tx t).length<=1000/\Sf us r/\r.length<us.length:=by
 unfold bE at h
 cases b with
 |false=>cases h
 |true =>
  rw[if_pos rfl]at h;obtain⟨e1,h⟩:=jM h;obtain⟨kp,r1,h1,h⟩:=eZ h;have l1:=el (us:=us) (by rw[e1];decide);obtain⟨tr,len,bd,s1,q1⟩:=A1 hb.tail (by omega) h1;have b1:=hb.tail.sub s1;obtain⟨e2,h⟩:=jM h;obtain⟨l,r2,h2,h⟩:=eZ h;obtain⟨o2,s2,q2⟩:=yT b1.tail h2;have b2:=b1.tail.sub s2;obtain⟨e3,h⟩:=jM h;obtain⟨hh,r3,h3,h⟩:=eZ h;obtain⟨o3,s3,q3⟩:=yT b2.tail h3;obtain⟨e4,h⟩:=jM h;cases h;have t1:=mD r1;have t2:=mD r2;have t3:=mD r3;have p1:=Di bd len;have p2:=yU o2.nr.1 o2.nr.2.2;have p3:=yU o3.nr.1 o3.nr.2.2;have w4:wRoot.length=4:=rfl;refine⟨(⟨tr,len,bd,o2,o3⟩:OkG kp l hh),rfl,rfl,rfl,rfl,?_,?_,by omega⟩
  ·show(wRoot++40::(plT kp++44::32::(frT (nrF l)++46::46::(frT (nrF hh)++[41])))).length<=1000;simp only[Nf,Nj,NT,w4];omega
  ·exact(cz us).trans (s1.trans ((cz r1).trans (s2.trans ((cz r2).trans (s3.trans (cz r3))))))
theorem zA{n:Nat}{us r:List Mk}{t:PT}(hb:Mb us)(hl:us.length<=200)(hS:∀m,n=m+1->∀us r t,Mb us->us.length<=200->pS m us=.inr (t,r)->PF m 0 2 us r t)(h:pBr (So n) us=.inr (t,r)):OkT t/\dep t+1<=n/\2*t.hgt+r.length<=us.length/\(tx t).length+1000*r.length+2000<=1000*us.length/\Sf us r/\r.length<us.length:=by
 cases n with
 |zero=>cases h
 |succ n =>
  have h:aW [40] us (λu1=>aM (pS n u1) λt u2=>aW [41] u2 λu3=>.inr (t,u3))=.inr (t,r):=h;obtain⟨e1,h⟩:=jM h;obtain⟨t',r1,h1,h⟩:=eZ h;obtain⟨e2,h⟩:=jM h;cases h;have l1:=el (us:=us) (by rw[e1];decide);have l2:=el (us:=r1) (by rw[e2];decide);have p:=hS n rfl us.tail r1 t hb.tail (by omega) h1;have:=p.hg;have:=p.ln;have d:=p.dp;unfold wd at d
  rw[if_neg (by omega)]at d;refine⟨p.ok,by omega,by omega,by omega,(cz us).trans (p.sf.trans (cz r1)),by have:=p.lt;omega⟩
theorem vj{t:PT}(h:rk t=4)(d:Nat):wd 4 t d=d:=by unfold wd;rw[if_neg (by omega)]
theorem vi{t:PT}{k:Nat}(h:rk t=k){d:Nat}:wd k t d=d:=by unfold wd;rw[if_neg (by omega)]
theorem AK(k:Nat)(t:PT)(d:Nat):wd k t d<=d+1:=by unfold wd;split<;>omega
theorem K0{n:Nat}{us r:List Mk}{t:PT}(hb:Mb us)(hl:us.length<=200)(hS:∀m,n=m+1->∀us r t,Mb us->us.length<=200->pS m us=.inr (t,r)->PF m 0 2 us r t)(h:br (So n) us=.inr (t,r)):PF n 4 1 us r t:=by
 unfold br at h
 by_cases a1:isN (mhd us)=true
 ·rw[if_pos a1]at h;cases h;have l1:=el (us:=us) (λz=>by rw[z]at a1;exact absurd a1 (by decide));have v:=oY a1 (pP hb);have nl:=lE (cP v);exact⟨NG v (by decide),Nr _,by show 2*1+_<=_;omega,by show(al _).length+_<=_;omega,cz us,by omega⟩
 rw[if_neg a1]at h;by_cases a2:bu (mhd us)=true
 ·rw[if_pos a2]at h;cases h;have l1:=el (us:=us) (λz=>by rw[z]at a2;exact absurd a2 (by decide));have v:=pP hb;exact⟨a2,Nr _,by show 2*1+_<=_;omega,by show(mhd us).length+_<=_;omega,cz us,by omega⟩
 rw[if_neg a2]at h
 have wo:∀(w:List Nat) (k:Nat),(k=2\/k=3)->w≠[]->mhd us=w->(aM (pBr (So n) us.tail) λt r=>.inr (.rooted t k,r))=.inr (t,r)->PF n 4 1 us r t:=λw k hk hw e h=>by
  obtain⟨t',r1,h1,h⟩:=eZ h;cases h;have l1:=el (us:=us) (by rw[e];exact hw);obtain⟨b1,b2,b3,b4,b5,b6⟩:=zA hb.tail (by omega) hS h1;have ww:(if k=2 then wSqrt else wCbrt).length=4:=by rcases hk with rfl |rfl<;>rfl
  refine⟨⟨b1,hk⟩,by rw[vj rfl];exact b2,by show 2*(t'.hgt+1)+_<=_;omega,?_,(cz us).trans b5,by omega⟩;show((if k=2 then wSqrt else wCbrt)++40::(tx t'++[41])).length+_<=_;rw[Nf,Nj,Nf,ww];show 4+(_+1+1)+_<=_;omega
 by_cases a3:mhd us=wSqrt
 ·rw[if_pos a3]at h;exact wo _ 2 (.inl rfl) (by decide) a3 h
 rw[if_neg a3]at h;by_cases a4:mhd us=wCbrt
 ·rw[if_pos a4]at h;exact wo _ 3 (.inr rfl) (by decide) a4 h
 rw[if_neg a4]at h;by_cases a5:mhd us=wRoot
 ·rw[if_pos a5]at h;have l1:=el (us:=us) (by rw[a5];decide);obtain⟨g1,g2,g3,g4,g5,g6,g7,g8⟩:=HZ hb.tail (by omega) h;refine⟨g1,?_,by omega,by omega,(cz us).trans g7,by omega⟩;rw[vj g3,g4];cases n with
  |zero=>cases g5
  |succ n=>omega
 rw[if_neg a5]at h;obtain⟨b1,b2,b3,b4,b5,b6⟩:=zA hb hl hS h;exact⟨b1,Nk (AK _ _ _) b2,by omega,by omega,b5,b6⟩
theorem wH{n:Nat}{us r:List Mk}{t:PT}(hb:Mb us)(hl:us.length<=200)(hS:∀m,n=m+1->∀us r t,Mb us->us.length<=200->pS m us=.inr (t,r)->PF m 0 2 us r t)(h:bZ (So n) us=.inr (t,r)):PF n 3 1 us r t:=by
 obtain⟨t',r1,h1,h⟩:=eZ h;have p:=K0 hb hl hS h1;unfold dR at h
 split at h
 ·rename_i e
  split at h
  ·rename_i e2
   cases h;have l1:=el (us:=r1) (by rw[e];decide);have l2:=el (us:=r1.tail) (λz=>by rw[z]at e2;exact absurd e2 (by decide))
   have hk:digitsVal (mhd r1.tail)<=8:=by
    have:∀c:Nat,48<=c->c<=56->digitsVal [c]<=8:=λc a b=>by show 0*10+(c-48)<=8;omega
    unfold isE at e2
    match mhd r1.tail,e2 with
    | [c],e2 =>simp only[List.all_cons,List.all_nil,Np,decide_eq_true_eq]at e2;exact this c e2.2.1.1 e2.2.1.2
   have nl:=lD 0 (digitsVal (mhd r1.tail)) (by omega);have:=p.hg;have:=p.ln;have:=my 4 t' (tx t');refine⟨⟨p.ok,hk⟩,?_,by show 2*(t'.hgt+1)+_<=_;omega,?_,p.sf.trans ((cz r1).trans (cz _)),by have:=p.lt;omega⟩
   ·show wd 3 (.power t' _) (wd 4 t' (dep t'))<=n;unfold wd;rw[if_neg (by show ¬3<3;omega)];exact p.dp
   ·show(wn 4 t' (tx t')++94::al _).length+_<=_;rw[Nf,Nj];omega
  ·cases h
 ·cases h;exact p.mon (by decide) (Ng _)
theorem zb{n:Nat}{us r:List Mk}{t:PT}(hb:Mb us)(hl:us.length<=200)(hS:∀m,n=m+1->∀us r t,Mb us->us.length<=200->pS m us=.inr (t,r)->PF m 0 2 us r t)(h:aX (So n) us=.inr (t,r)):PF n 2 2 us r t:=by
 unfold aX at h
 split at h
 ·rename_i e
  obtain⟨t',r1,h1,h⟩:=eZ h;cases h;have l1:=el (us:=us) (by rw[e];decide);have p:=wH hb.tail (by omega) hS h1;have:=p.hg;have:=p.ln;have:=my 3 t' (tx t');refine⟨p.ok,?_,by show 2*(t'.hgt+1)+_<=_;omega,by show(wn 3 t' (tx t')).length+1+_<=_;omega,(cz us).trans p.sf,by have:=p.lt;omega⟩;show wd 2 (.minus t') (wd 3 t' (dep t'))<=n;unfold wd;rw[if_neg (by show ¬2<2;omega)];exact p.dp
 ·exact(wH hb hl hS h).mon (by decide) (by decide)
theorem sM{n k:Nat}{F:List Mk->Res PT}{a b:List Nat}{f g:PT->PT->PT}(ha:a≠[])(hb2:b≠[])(hF:∀us r t,Mb us->us.length<=200->F us=.inr (t,r)->PF n (k+1) 2 us r t)(hc:∀q,(q=f\/q=g)->∀x y,OkT x->OkT y->wd k x (dep x)<=n->wd (k+1) y (dep y)<=n->OkT (q x y)/\wd k (q x y) (dep (q x y))<=n/\(q x y).hgt=max x.hgt y.hgt+1/\(tx (q x y)).length<=(tx x).length+(tx y).length+10):∀(m:Nat) (us0 us r:List Mk) (t t':PT),Mb us0->us0.length<=200->PF n k 2 us0 us t->aT F a b f g m t us=.inr (t',r)->PF n k 2 us0 r t'
 |0,us0,us,r,t,t',hb,hl,p,h=>by cases h;exact p
 |m+1,us0,us,r,t,t',hb,hl,p,h=>by
  have hlu:=p.lt
  have step:∀q,(q=f\/q=g)->mhd us≠[]->aM (F us.tail) (λt2 r=>aT F a b f g m (q t t2) r)=.inr (t',r)->PF n k 2 us0 r t':=λq hq e h=>by obtain⟨t2,r1,h1,h⟩:=eZ h;have l1:=el e;have p2:=hF us.tail r1 t2 (hb.sub p.sf).tail (by omega) h1;obtain⟨c1,c2,c3,c4⟩:=hc q hq t t2 p.ok p2.ok p.dp p2.dp;have x1:=p.hg;have x2:=p2.hg;have y1:=p.ln;have y2:=p2.ln;have z1:=p2.lt;refine sM ha hb2 hF hc m us0 r1 r (q t t2) t' hb hl ⟨c1,c2,?_,by omega,p.sf.trans ((cz us).trans p2.sf),by omega⟩ h;rw[c3];omega
  have h:(if mhd us=a then aM (F us.tail) (λt2 r=>aT F a b f g m (f t t2) r)else if mhd us=b then aM (F us.tail) (λt2 r=>aT F a b f g m (g t t2) r)else .inr (t,us))=.inr (t',r):=h;by_cases e1:mhd us=a
  ·rw[if_pos e1]at h;exact step f (.inl rfl) (by rw[e1];exact ha) h
  ·rw[if_neg e1]at h;by_cases e2:mhd us=b
   ·rw[if_pos e2]at h;exact step g (.inr rfl) (by rw[e2];exact hb2) h
   ·rw[if_neg e2]at h;cases h;exact p
theorem wG{n:Nat}{us r:List Mk}{t:PT}(hb:Mb us)(hl:us.length<=200)(hS:∀m,n=m+1->∀us r t,Mb us->us.length<=200->pS m us=.inr (t,r)->PF m 0 2 us r t)(h:aU (So n) us=.inr (t,r)):PF n 1 2 us r t:=by
 obtain⟨t',r1,h1,h⟩:=eZ h;refine sM (by decide) (by decide) (λus r t hb hl h=>zb hb hl hS h) ?_ _ us r1 r t' t hb hl ((zb hb hl hS h1).mon (by decide) (Ng _)) h;intro q hq x y ox oy dx dy;have a:=my 1 x (tx x);have b:=my 2 y (tx y);have dx:wd 1 x (dep x)<=n:=dx;have dy:wd 2 y (dep y)<=n:=dy;rcases hq with rfl |rfl
 ·refine⟨⟨ox,oy⟩,?_,rfl,?_⟩
  ·rw[vi (t:=.times x y) (k:=1) rfl];show max (wd 1 x (dep x)) (wd 2 y (dep y))<=n;omega
  ·show(wn 1 x (tx x)++42::wn 2 y (tx y)).length<=_;rw[Nf,Nj];omega
 ·refine⟨⟨ox,oy⟩,?_,rfl,?_⟩
  ·rw[vi (t:=.over x y) (k:=1) rfl];show max (wd 1 x (dep x)) (wd 2 y (dep y))<=n;omega
  ·show(wn 1 x (tx x)++47::wn 2 y (tx y)).length<=_;rw[Nf,Nj];omega
theorem vJ{n:Nat}{us r:List Mk}{t:PT}(hb:Mb us)(hl:us.length<=200)(hS:∀m,n=m+1->∀us r t,Mb us->us.length<=200->pS m us=.inr (t,r)->PF m 0 2 us r t)(h:bY (So n) us=.inr (t,r)):PF n 0 2 us r t:=by
 obtain⟨t',r1,h1,h⟩:=eZ h;refine sM (by decide) (by decide) (λus r t hb hl h=>wG hb hl hS h) ?_ _ us r1 r t' t hb hl ((wG hb hl hS h1).mon (by decide) (Ng _)) h;intro q hq x y ox oy dx dy;have b:=my 1 y (tx y);have e0:∀(z:PT) (d:Nat),wd 0 z d=d:=λz d=>by unfold wd;rw[if_neg (by omega)]
 have dx:wd 0 x (dep x)<=n:=dx;have dy:wd 1 y (dep y)<=n:=dy;rw[e0]at dx;rcases hq with rfl |rfl
 ·refine⟨⟨ox,oy⟩,?_,rfl,?_⟩
  ·rw[e0];show max (dep x) (wd 1 y (dep y))<=n;omega
  ·show(tx x++32::43::32::wn 1 y (tx y)).length<=_;simp only[Nf,Nj];omega
 ·refine⟨⟨ox,oy⟩,?_,rfl,?_⟩
  ·rw[e0];show max (dep x) (wd 1 y (dep y))<=n;omega
  ·show(tx x++32::45::32::wn 1 y (tx y)).length<=_;simp only[Nf,Nj];omega
theorem wU:∀(n:Nat) (us r:List Mk) (t:PT),Mb us->us.length<=200->pS n us=.inr (t,r)->PF n 0 2 us r t
 |0,us,r,t,hb,hl,h=>by rw[iz]at h;exact vJ hb hl (λm e=>by cases e) h
 |n+1,us,r,t,hb,hl,h=>by rw[iz]at h;exact vJ hb hl (λm e us r t hb hl h=>by cases e;exact wU n us r t hb hl h) h
theorem Lj{us:List Mk}{t:PT}(hb:Mb us)(hl:us.length<=110)(h:lA us=.inr (t,[])):OkT t/\dep t<=10/\t.hgt<=60/\(tx t).length<=110000:=by
 obtain⟨t',r,h1,h⟩:=eZ h;by_cases e:r=[]
 ·rw[if_pos e]at h;cases h;have p:=wU 10 us r t hb (by omega) h1;have a:=p.hg;have b:=p.ln;have d:=p.dp;unfold wd at d
  rw[if_neg (by omega)]at d;exact⟨p.ok,d,by omega,by omega⟩
 ·rw[if_neg e]at h;cases h
end RM
namespace L2
open PySem PySem.Spec PyProof.Rows
structure PCI(K:PySem.W.Frag)(mg:Str->Option Value)(C:Addr)(x:Str)(fs:List Str):Prop where
 cl:Cls K C
 na:∀f∈fs,NoAttr K C f
 mg:mg x=some (.ref C)
 ha:PySem.W.findIn K (.ref C) "__class__"=some (some (.builtin "object.__class__"))
 hn:PySem.W.specialIn K (.builtin "object.__class__") "__get__"=some (some (.builtin "getset_descriptor.__get__"))
 ht:PySem.W.takesIn K (.builtin "object.__class__")=some true
 hm:PySem.W.mroIn K C (.type "object")=some true
structure RawC(K:PySem.W.Frag)(mg:Str->Option Value)(x:Str)(st:Stmt)(ps:List Str)(f:Addr)(fd:FuncData):Prop where
 fn:Fun K x x st f fd
 mg:mg x=some (.ref f)
 kp:PySem.W.keepIn K (.ref f)=true
 bd:Binds K fd ps []
theorem RawC.calV{P:Program}{w:World}{K:PySem.W.Frag}{mg:Str->Option Value}{base:Heap}{k:Nat}{x:Str}{st:Stmt}{ps:List Str}{sp:Sp}{f:Addr}{fd:FuncData}(r:RawC K mg x st ps f fd)(o:FnOk P w K mg base (CXV P w) k f fd ps sp):CalV P w K mg base k x ps sp f fd:=⟨o,r.mg,r.kp,r.bd⟩
theorem RawC.cal{P:Program}{w:World}{K:PySem.W.Frag}{mg:Str->Option Value}{base:Heap}{k:Nat}{x:Str}{st:Stmt}{ps:List Str}{sp:Sp}{f:Addr}{fd:FuncData}(r:RawC K mg x st ps f fd)(o:FnOk P w K mg base CX0 k f fd ps sp):Cal P w K mg base k x ps sp f fd:=⟨o,r.mg,r.kp,r.bd⟩
def cm(C:Addr)(f1:Str):Sp:=λvs H Q _=>∃(x dx:Addr) (a:V),vs=[.ref x,a]/\H x=some (.ins C dx [])/\Q .non (upd H x (.ins C dx (aR f1 a [])))
def aV(C:Addr)(f1 f2:Str):Sp:=λvs H Q _=>∃(x dx:Addr) (a b:V),vs=[.ref x,a,b]/\H x=some (.ins C dx [])/\Q .non (upd H x (.ins C dx (aR f2 b (aR f1 a []))))
theorem sx{C:Addr}{f1:Str}{H1:Hp}{q:Addr->Hp->Prop}{E:XK}{a:V}(h:∀(x:Addr) (H':Hp) (dx:Addr),Same H1 H'->H1 x=none->H' x=some (.ins C dx (aR f1 a []))->q x H'):∀x dx:Addr,H1 x=none->H1 dx=none->dx≠x->cm C f1 (.ref x::([a]++[])) (upd (upd H1 dx (.own x)) x (.ins C dx [])) (λv H2=>v=.non/\q x H2) E:=λx dx nx ndx ne=>by refine⟨x,dx,a,rfl,aj,rfl,h x _ dx ?_ nx aj⟩;intro b o e;rw[upd_ne (bj e nx),upd_ne (bj e nx),upd_ne (bj e ndx)];exact e
theorem lI{C:Addr}{f1 f2:Str}{H1:Hp}{q:Addr->Hp->Prop}{E:XK}{a b:V}(h:∀(x:Addr) (H':Hp) (dx:Addr),Same H1 H'->H1 x=none->H' x=some (.ins C dx (aR f2 b (aR f1 a [])))->q x H'):∀x dx:Addr,H1 x=none->H1 dx=none->dx≠x->aV C f1 f2 (.ref x::([a,b]++[])) (upd (upd H1 dx (.own x)) x (.ins C dx [])) (λv H2=>v=.non/\q x H2) E:=λx dx nx ndx ne=>by refine⟨x,dx,a,b,rfl,aj,rfl,h x _ dx ?_ nx aj⟩;intro b o e;rw[upd_ne (bj e nx),upd_ne (bj e nx),upd_ne (bj e ndx)];exact e
section
variable {X:Cx}{a b:Expr}{ta tb:TE}{pos:Pos}
end
section
variable {X:Cx}{o e:Expr}{to te:TE}{apos cpos p1 p2:Pos}{j1 j2:Nat}
end
structure RawM(K:PySem.W.Frag)(C:Addr)(m q:Str)(st:Stmt)(ps:List Str)(f:Addr)(fd:FuncData):Prop where
 fn:Fun K m q st f fd
 mt:Meth K C m f
 bd:Binds K fd ps []
theorem RawM.mcal{P:Program}{w:World}{K:PySem.W.Frag}{mg:Str->Option Value}{base:Heap}{k:Nat}{C:Addr}{m q:Str}{st:Stmt}{ps:List Str}{sp:Sp}{f:Addr}{fd:FuncData}(r:RawM K C m q st ps f fd)(o:FnOk P w K mg base CX0 k f fd ps sp):MCal P w K mg base k C m ps sp f fd:=⟨o,r.mt,r.bd⟩
noncomputable def nG(K:PySem.W.Frag)(as:List Addr):Bool:=as.zipIdx.all λa=>as.zipIdx.all λb=>PySem.W.kitOne K (.ref a.1) (.ref b.1) == some (a.2 == b.2)
theorem Hr{K:PySem.W.Frag}{as:List Addr}(h:nG K as=true){i j:Nat}{a b:Addr}(ha:as[i]?=some a)(hb:as[j]?=some b):PySem.W.kitOne K (.ref a) (.ref b)=some (i == j):=by
 unfold nG at h
 rw[ND]at h;have h1:=h (a,i) (List.mem_zipIdx_iff_getElem?.mpr ha);rw[ND]at h1;exact eq_of_beq (h1 (b,j) (List.mem_zipIdx_iff_getElem?.mpr hb))
noncomputable def p8(K:PySem.W.Frag)(p:Addr)(as:List Addr):Bool:=as.all λa=>PySem.W.kitOne K (.ref a) (.ref p) == some true
theorem Hq{K:PySem.W.Frag}{p:Addr}{as:List Addr}(h:p8 K p as=true){a:Addr}(ha:a∈as):PySem.W.kitOne K (.ref a) (.ref p)=some true:=by
 unfold p8 at h
 rw[ND]at h;exact eq_of_beq (h a ha)
end L2
namespace RM
theorem Ig{a b:Int}(ha:0<=a)(hb:0<b):Nat.gcd b.natAbs (a%b).natAbs=Nat.gcd a.natAbs b.natAbs:=by
 have e:(a%b).natAbs=a.natAbs%b.natAbs:=by obtain⟨x,rfl⟩:=Int.eq_ofNat_of_zero_le ha;obtain⟨y,rfl⟩:=Int.eq_ofNat_of_zero_le (Int.le_of_lt hb);rfl
 rw[e,Nat.gcd_comm,<- Nat.gcd_rec,Nat.gcd_comm]
end RM
open PySem.W in
local macro_rules | `(tactic|walk_at "comp_ok")=>`(tactic|exact⟨by with_unfolding_all rfl,by decide +kernel,rfl,by decide +kernel,by repeat' (first |exact NK _ |refine NC.2 ⟨rfl,?_⟩),by rfl,by repeat' (first |exact .nil |refine .cons ⟨rfl,by first |exact Or.inl rfl |exact Or.inr rfl,rfl⟩ ?_)⟩)
namespace R66
open PySem L2 RM
noncomputable def top(i:Nat):Stmt:=PySem.Challenge.pw_rootspan_k66_whole_no_text.main.body.getD i (.Pass ⟨0,0,0,0⟩)
abbrev lf:Stmt:=bp (top 5) 0
abbrev kf:Stmt:=top 12
abbrev kg:Stmt:=top 13
abbrev jZ:Stmt:=top 14
abbrev kj:Stmt:=top 15
abbrev ki:Stmt:=top 16
abbrev kh:Stmt:=top 17
abbrev jY:Stmt:=top 19
abbrev jW:Stmt:=top 21
abbrev la:Stmt:=bp (top 22) 0
abbrev kZ:Stmt:=bp (top 22) 8
abbrev ke:Stmt:=top 24
abbrev kl:Stmt:=top 25
abbrev kn:Stmt:=top 26
abbrev km:Stmt:=top 27
abbrev kL:Stmt:=bp (top 30) 0
abbrev fU:Stmt:=bp (top 30) 2
abbrev ll:Stmt:=bp (top 31) 0
abbrev gf:Stmt:=bp (top 31) 2
abbrev lg:Stmt:=bp (top 32) 0
abbrev gb:Stmt:=bp (top 32) 2
abbrev lh:Stmt:=bp (top 33) 0
abbrev gc:Stmt:=bp (top 33) 2
abbrev kN:Stmt:=bp (top 34) 0
abbrev fW:Stmt:=bp (top 34) 2
abbrev lj:Stmt:=bp (top 35) 0
abbrev gd:Stmt:=bp (top 35) 2
abbrev kM:Stmt:=bp (top 36) 0
abbrev fV:Stmt:=bp (top 36) 2
abbrev lc:Stmt:=bp (top 37) 0
abbrev fZ:Stmt:=bp (top 37) 2
abbrev lb:Stmt:=bp (top 38) 0
abbrev fY:Stmt:=bp (top 38) 2
abbrev kO:Stmt:=bp (top 39) 0
abbrev fX:Stmt:=bp (top 39) 2
abbrev fJ:Stmt:=top 40
abbrev fR:Stmt:=top 41
abbrev fS:Stmt:=top 42
abbrev fT:Stmt:=top 43
abbrev fP:Stmt:=top 44
abbrev ka:Stmt:=top 45
abbrev jX:Stmt:=top 46
abbrev kY:Stmt:=bp (top 50) 0
abbrev kQ:Stmt:=bp (top 50) 1
abbrev kX:Stmt:=bp (top 50) 2
abbrev kP:Stmt:=bp (top 50) 3
abbrev kR:Stmt:=bp (top 50) 4
abbrev kW:Stmt:=bp (top 50) 5
abbrev kT:Stmt:=bp (top 50) 6
abbrev kU:Stmt:=bp (top 50) 7
abbrev kS:Stmt:=bp (top 50) 8
abbrev j9:Stmt:=top 51
abbrev fo:Stmt:=top 52
abbrev fK:Stmt:=top 53
abbrev fM:Stmt:=top 54
abbrev fL:Stmt:=top 55
abbrev j8:Stmt:=top 56
abbrev fO:Stmt:=top 57
abbrev fN:Stmt:=top 58
abbrev j6:Stmt:=top 59
abbrev j3:Stmt:=top 60
abbrev j4:Stmt:=top 61
abbrev j5:Stmt:=top 62
abbrev j7:Stmt:=top 63
abbrev j0:Stmt:=top 64
abbrev kJ:Stmt:=top 66
abbrev kq:Stmt:=top 67
abbrev kG:Stmt:=top 68
abbrev kv:Stmt:=top 69
abbrev kA:Stmt:=top 70
abbrev kB:Stmt:=top 71
abbrev kC:Stmt:=top 72
abbrev kD:Stmt:=top 73
abbrev ko:Stmt:=top 74
abbrev kH:Stmt:=top 75
abbrev kz:Stmt:=top 76
abbrev kt:Stmt:=top 77
abbrev ku:Stmt:=top 78
abbrev kE:Stmt:=top 79
abbrev kK:Stmt:=top 80
abbrev kF:Stmt:=top 81
abbrev kI:Stmt:=top 82
abbrev ky:Stmt:=top 83
abbrev fQ:Stmt:=top 84
theorem Cj:FnScope ["self","at"] ["self","at"] (ag lf):=⟨rfl,rfl,rfl,by decide +kernel,rfl,by decide +kernel,by decide +kernel⟩
theorem sc_marks_of:FnScope ["text","found","at","end"] ["text"] (ag kf):=⟨rfl,rfl,rfl,by decide +kernel,rfl,by decide +kernel,by decide +kernel⟩
theorem sc_mark_end:FnScope ["text","at","signs"] ["text","at"] (ag kg):=⟨rfl,rfl,rfl,by decide +kernel,rfl,by decide +kernel,by decide +kernel⟩
theorem sc_run_end:FnScope ["text","at","signs","end"] ["text","at","signs"] (ag jZ):=⟨rfl,rfl,rfl,by decide +kernel,rfl,by decide +kernel,by decide +kernel⟩
theorem BS:FnScope ["word"] ["word"] (ag kj):=⟨rfl,rfl,rfl,by decide +kernel,rfl,by decide +kernel,by decide +kernel⟩
theorem BP:FnScope ["word"] ["word"] (ag ki):=⟨rfl,rfl,rfl,by decide +kernel,rfl,by decide +kernel,by decide +kernel⟩
theorem BO:FnScope ["word","signs"] ["word","signs"] (ag kh):=⟨rfl,rfl,rfl,by decide +kernel,rfl,by decide +kernel,by decide +kernel⟩
theorem sc_shared_by_two:FnScope ["one","other","greater","less","rest"] ["one","other"] (ag jY):=⟨rfl,rfl,rfl,by decide +kernel,rfl,by decide +kernel,by decide +kernel⟩
theorem sc_whole_text:FnScope ["value","chunk","rest","pieces"] ["value"] (ag jW):=⟨rfl,rfl,rfl,by decide +kernel,rfl,by decide +kernel,by decide +kernel⟩
theorem sc_Ratio___init__:FnScope ["self","top","bottom","divisor"] ["self","top","bottom"] (ag la):=⟨rfl,rfl,rfl,by decide +kernel,rfl,by decide +kernel,by decide +kernel⟩
theorem Cg:FnScope ["self"] ["self"] (ag kZ):=⟨rfl,rfl,rfl,by decide +kernel,rfl,by decide +kernel,by decide +kernel⟩
theorem sc_poly:FnScope ["row","length"] ["row"] (ag ke):=⟨rfl,rfl,rfl,by decide +kernel,rfl,by decide +kernel,by decide +kernel⟩
theorem BU:FnScope ["row"] ["row"] (ag kl):=⟨rfl,rfl,rfl,by decide +kernel,rfl,by decide +kernel,by decide +kernel⟩
theorem sc_added:FnScope ["first","second","length"] ["first","second"] (ag kn):=⟨rfl,rfl,rfl,by decide +kernel,rfl,by decide +kernel,by decide +kernel⟩
theorem BV:FnScope ["row","place"] ["row","place"] (ag km):=⟨rfl,rfl,rfl,by decide +kernel,rfl,by decide +kernel,by decide +kernel⟩
theorem B4:FnScope ["self","value"] ["self","value"] (ag kL):=⟨rfl,rfl,rfl,by decide +kernel,rfl,by decide +kernel,by decide +kernel⟩
theorem vX:FnScope ["self"] ["self"] (ag fU):=⟨rfl,rfl,rfl,by decide +kernel,rfl,by decide +kernel,by decide +kernel⟩
theorem Cn:FnScope ["self","row","low","high"] ["self","row","low","high"] (ag ll):=⟨rfl,rfl,rfl,by decide +kernel,rfl,by decide +kernel,by decide +kernel⟩
theorem v8:FnScope ["self"] ["self"] (ag gf):=⟨rfl,rfl,rfl,by decide +kernel,rfl,by decide +kernel,by decide +kernel⟩
theorem Ck:FnScope ["self","word"] ["self","word"] (ag lg):=⟨rfl,rfl,rfl,by decide +kernel,rfl,by decide +kernel,by decide +kernel⟩
theorem v5:FnScope ["self"] ["self"] (ag gb):=⟨rfl,rfl,rfl,by decide +kernel,rfl,by decide +kernel,by decide +kernel⟩
theorem Cl:FnScope ["self","one"] ["self","one"] (ag lh):=⟨rfl,rfl,rfl,by decide +kernel,rfl,by decide +kernel,by decide +kernel⟩
theorem v6:FnScope ["self"] ["self"] (ag gc):=⟨rfl,rfl,rfl,by decide +kernel,rfl,by decide +kernel,by decide +kernel⟩
theorem B6:FnScope ["self","one","other"] ["self","one","other"] (ag kN):=⟨rfl,rfl,rfl,by decide +kernel,rfl,by decide +kernel,by decide +kernel⟩
theorem vZ:FnScope ["self"] ["self"] (ag fW):=⟨rfl,rfl,rfl,by decide +kernel,rfl,by decide +kernel,by decide +kernel⟩
theorem Cm:FnScope ["self","one","other"] ["self","one","other"] (ag lj):=⟨rfl,rfl,rfl,by decide +kernel,rfl,by decide +kernel,by decide +kernel⟩
theorem v7:FnScope ["self"] ["self"] (ag gd):=⟨rfl,rfl,rfl,by decide +kernel,rfl,by decide +kernel,by decide +kernel⟩
theorem B5:FnScope ["self","one","other"] ["self","one","other"] (ag kM):=⟨rfl,rfl,rfl,by decide +kernel,rfl,by decide +kernel,by decide +kernel⟩
theorem vY:FnScope ["self"] ["self"] (ag fV):=⟨rfl,rfl,rfl,by decide +kernel,rfl,by decide +kernel,by decide +kernel⟩
theorem Ci:FnScope ["self","one","other"] ["self","one","other"] (ag lc):=⟨rfl,rfl,rfl,by decide +kernel,rfl,by decide +kernel,by decide +kernel⟩
theorem v4:FnScope ["self"] ["self"] (ag fZ):=⟨rfl,rfl,rfl,by decide +kernel,rfl,by decide +kernel,by decide +kernel⟩
theorem Ch:FnScope ["self","one","exponent"] ["self","one","exponent"] (ag lb):=⟨rfl,rfl,rfl,by decide +kernel,rfl,by decide +kernel,by decide +kernel⟩
theorem v0:FnScope ["self"] ["self"] (ag fY):=⟨rfl,rfl,rfl,by decide +kernel,rfl,by decide +kernel,by decide +kernel⟩
theorem B7:FnScope ["self","one","exponent"] ["self","one","exponent"] (ag kO):=⟨rfl,rfl,rfl,by decide +kernel,rfl,by decide +kernel,by decide +kernel⟩
theorem sc_Rooted_text:FnScope ["self","word"] ["self"] (ag fX):=⟨rfl,rfl,rfl,by decide +kernel,rfl,by decide +kernel,by decide +kernel⟩
theorem BI:FnScope ["tree","bare"] ["tree","bare"] (ag fJ):=⟨rfl,rfl,rfl,by decide +kernel,rfl,by decide +kernel,by decide +kernel⟩
theorem BQ:FnScope ["tree"] ["tree"] (ag fR):=⟨rfl,rfl,rfl,by decide +kernel,rfl,by decide +kernel,by decide +kernel⟩
theorem BR:FnScope ["tree"] ["tree"] (ag fS):=⟨rfl,rfl,rfl,by decide +kernel,rfl,by decide +kernel,by decide +kernel⟩
theorem BT:FnScope ["tree"] ["tree"] (ag fT):=⟨rfl,rfl,rfl,by decide +kernel,rfl,by decide +kernel,by decide +kernel⟩
theorem sc_product_text:FnScope ["one","mark","other","ahead"] ["one","mark","other"] (ag fP):=⟨rfl,rfl,rfl,by decide +kernel,rfl,by decide +kernel,by decide +kernel⟩
theorem sc_poly_text:FnScope ["row","found","place"] ["row"] (ag ka):=⟨rfl,rfl,rfl,by decide +kernel,rfl,by decide +kernel,by decide +kernel⟩
theorem sc_term_text:FnScope ["size","place","end"] ["size","place"] (ag jX):=⟨rfl,rfl,rfl,by decide +kernel,rfl,by decide +kernel,by decide +kernel⟩
theorem Cf:FnScope ["self","text"] ["self","text"] (ag kY):=⟨rfl,rfl,rfl,by decide +kernel,rfl,by decide +kernel,by decide +kernel⟩
theorem B8:FnScope ["self"] ["self"] (ag kQ):=⟨rfl,rfl,rfl,by decide +kernel,rfl,by decide +kernel,by decide +kernel⟩
theorem Ce:FnScope ["self"] ["self"] (ag kX):=⟨rfl,rfl,rfl,by decide +kernel,rfl,by decide +kernel,by decide +kernel⟩
theorem sc_Reading_step:FnScope ["self","mark"] ["self"] (ag kP):=⟨rfl,rfl,rfl,by decide +kernel,rfl,by decide +kernel,by decide +kernel⟩
theorem B9:FnScope ["self","mark"] ["self","mark"] (ag kR):=⟨rfl,rfl,rfl,by decide +kernel,rfl,by decide +kernel,by decide +kernel⟩
theorem Cd:FnScope ["self","mark"] ["self","mark"] (ag kW):=⟨rfl,rfl,rfl,by decide +kernel,rfl,by decide +kernel,by decide +kernel⟩
theorem Cb:FnScope ["self"] ["self"] (ag kT):=⟨rfl,rfl,rfl,by decide +kernel,rfl,by decide +kernel,by decide +kernel⟩
theorem Cc:FnScope ["self"] ["self"] (ag kU):=⟨rfl,rfl,rfl,by decide +kernel,rfl,by decide +kernel,by decide +kernel⟩
theorem Ca:FnScope ["self"] ["self"] (ag kS):=⟨rfl,rfl,rfl,by decide +kernel,rfl,by decide +kernel,by decide +kernel⟩
theorem sc_read:FnScope ["text","reading","tree"] ["text"] (ag j9):=⟨rfl,rfl,rfl,by decide +kernel,rfl,by decide +kernel,by decide +kernel⟩
theorem sc_read_sum:FnScope ["reading","tree"] ["reading"] (ag fo):=⟨rfl,rfl,rfl,by decide +kernel,rfl,by decide +kernel,by decide +kernel⟩
theorem sc_read_product:FnScope ["reading","tree"] ["reading"] (ag fK):=⟨rfl,rfl,rfl,by decide +kernel,rfl,by decide +kernel,by decide +kernel⟩
theorem BL:FnScope ["reading"] ["reading"] (ag fM):=⟨rfl,rfl,rfl,by decide +kernel,rfl,by decide +kernel,by decide +kernel⟩
theorem sc_read_power:FnScope ["reading","tree"] ["reading"] (ag fL):=⟨rfl,rfl,rfl,by decide +kernel,rfl,by decide +kernel,by decide +kernel⟩
theorem BM:FnScope ["reading"] ["reading"] (ag j8):=⟨rfl,rfl,rfl,by decide +kernel,rfl,by decide +kernel,by decide +kernel⟩
theorem BN:FnScope ["reading"] ["reading"] (ag fO):=⟨rfl,rfl,rfl,by decide +kernel,rfl,by decide +kernel,by decide +kernel⟩
theorem sc_read_brackets:FnScope ["reading","tree"] ["reading"] (ag fN):=⟨rfl,rfl,rfl,by decide +kernel,rfl,by decide +kernel,by decide +kernel⟩
theorem sc_read_given:FnScope ["reading","row","low","high"] ["reading"] (ag j6):=⟨rfl,rfl,rfl,by decide +kernel,rfl,by decide +kernel,by decide +kernel⟩
theorem sc_read_terms:FnScope ["reading","row"] ["reading"] (ag j3):=⟨rfl,rfl,rfl,by decide +kernel,rfl,by decide +kernel,by decide +kernel⟩
theorem sc_read_term:FnScope ["reading","sign","value"] ["reading","sign"] (ag j4):=⟨rfl,rfl,rfl,by decide +kernel,rfl,by decide +kernel,by decide +kernel⟩
theorem BK:FnScope ["reading"] ["reading"] (ag j5):=⟨rfl,rfl,rfl,by decide +kernel,rfl,by decide +kernel,by decide +kernel⟩
theorem sc_read_fraction:FnScope ["reading","sign","top"] ["reading"] (ag j7):=⟨rfl,rfl,rfl,by decide +kernel,rfl,by decide +kernel,by decide +kernel⟩
theorem BJ:FnScope ["reading"] ["reading"] (ag j0):=⟨rfl,rfl,rfl,by decide +kernel,rfl,by decide +kernel,by decide +kernel⟩
theorem B3:FnScope ["_law_script","_law_k"] ["_law_script","_law_k"] (ag kJ):=⟨rfl,rfl,rfl,by decide +kernel,rfl,by decide +kernel,by decide +kernel⟩
theorem BW:FnScope ["_law_found"] ["_law_found"] (ag kq):=⟨rfl,rfl,rfl,by decide +kernel,rfl,by decide +kernel,by decide +kernel⟩
theorem B1:FnScope ["_law_mark_here"] ["_law_mark_here"] (ag kG):=⟨rfl,rfl,rfl,by decide +kernel,rfl,by decide +kernel,by decide +kernel⟩
theorem BY:FnScope ["_law_mark_here"] ["_law_mark_here"] (ag kv):=⟨rfl,rfl,rfl,by decide +kernel,rfl,by decide +kernel,by decide +kernel⟩
theorem sc__law_next_in_poly:FnScope ["_law_state","_law_mark_here","_law_kind_here"] ["_law_state","_law_mark_here"] (ag kA):=⟨rfl,rfl,rfl,by decide +kernel,rfl,by decide +kernel,by decide +kernel⟩
theorem sc__law_next_in_fraction:FnScope ["_law_state","_law_mark_here","_law_kind_here"] ["_law_state","_law_mark_here"] (ag kB):=⟨rfl,rfl,rfl,by decide +kernel,rfl,by decide +kernel,by decide +kernel⟩
theorem sc__law_next:FnScope ["_law_state","_law_mark_here","_law_kind_here"] ["_law_state","_law_mark_here"] (ag kC):=⟨rfl,rfl,rfl,by decide +kernel,rfl,by decide +kernel,by decide +kernel⟩
theorem BZ:FnScope ["_law_state"] ["_law_state"] (ag kD):=⟨rfl,rfl,rfl,by decide +kernel,rfl,by decide +kernel,by decide +kernel⟩
theorem sc__law_wild:FnScope ["_law_state","_law_cell_here","_law_some_here"] ["_law_state","_law_cell_here"] (ag ko):=⟨rfl,rfl,rfl,by decide +kernel,rfl,by decide +kernel,by decide +kernel⟩
theorem sc__law_glued:FnScope ["_law_text","_law_mark_here","_law_signs"] ["_law_text","_law_mark_here"] (ag kH):=⟨rfl,rfl,rfl,by decide +kernel,rfl,by decide +kernel,by decide +kernel⟩
theorem sc__law_put:FnScope ["_law_at","_law_mark_here","_law_gap","_law_state"] ["_law_at","_law_mark_here","_law_gap"] (ag kz):=⟨rfl,rfl,rfl,by decide +kernel,rfl,by decide +kernel,by decide +kernel⟩
theorem sc__law_some_in_root:FnScope ["_law_state","_law_many","_law_few","_law_next_one"] ["_law_state","_law_many","_law_few"] (ag kt):=⟨rfl,rfl,rfl,by decide +kernel,rfl,by decide +kernel,by decide +kernel⟩
theorem BX:FnScope ["_law_state","_law_many","_law_few","_law_word"] ["_law_state","_law_many","_law_few","_law_word"] (ag ku):=⟨rfl,rfl,rfl,by decide +kernel,rfl,by decide +kernel,by decide +kernel⟩
theorem sc__law_mark:FnScope ["_law_at","_law_cell_here","_law_wild_here","_law_way","_law_turn","_law_many","_law_word","_law_some_here","_law_mark_here"] ["_law_at","_law_cell_here","_law_wild_here","_law_way"] (ag kE):=⟨rfl,rfl,rfl,by decide +kernel,rfl,by decide +kernel,by decide +kernel⟩
theorem sc__law_any:FnScope ["_law_cell_here","_law_some_here"] ["_law_cell_here"] (ag kK):=⟨rfl,rfl,rfl,by decide +kernel,rfl,by decide +kernel,by decide +kernel⟩
theorem B0:FnScope ["_law_state"] ["_law_state"] (ag kF):=⟨rfl,rfl,rfl,by decide +kernel,rfl,by decide +kernel,by decide +kernel⟩
theorem B2:FnScope ["_law_at"] ["_law_at"] (ag kI):=⟨rfl,rfl,rfl,by decide +kernel,rfl,by decide +kernel,by decide +kernel⟩
theorem sc__law_refused:FnScope ["_law_text","_law_place","_law_told","e","_law_alone"] ["_law_text","_law_place"] (ag ky):=⟨rfl,rfl,rfl,by decide +kernel,rfl,by decide +kernel,by decide +kernel⟩
theorem sc_law:FnScope ["_law_script","_law_at","_law_wild_here","_law_way","_law_cell_here","_law_mark_here","_law_gap","_law_turn","_law_text","_law_tree","_law_back"] ["_law_script"] (ag fQ):=⟨rfl,rfl,rfl,by decide +kernel,rfl,by decide +kernel,by decide +kernel⟩
structure Txt(K:PySem.W.Frag)(mg:Str->Option Value):Prop where
 len_:mg "len"=none
 all_:mg "all"=none
 abs_:mg "abs"=none
 str_:mg "str"=none
 max_:mg "max"=none
 range_:mg "range"=none
 list_:mg "list"=none
 isinstance_:mg "isinstance"=none
 int_:mg "int"=none
 bool_:mg "bool"=none
 ValueError_:mg "ValueError"=none
 LONGEST_:∃t:Tok,mg "LONGEST"=some (.int 8 t)
 DEEPEST_:∃t:Tok,mg "DEEPEST"=some (.int 10 t)
 FIGURES_:∃t:Tok,mg "FIGURES"=some (.str "0123456789" t)
 LETTERS_:∃t:Tok,mg "LETTERS"=some (.str "abcdefghijklmnopqrstuvwxyz" t)
 WORDS_:∃a:Addr,mg "WORDS"=some (.ref a)/\∀H,SqT K H a [.str "x",.str "sqrt",.str "cbrt",.str "root"]
 EXPONENTS_:∃a:Addr,mg "EXPONENTS"=some (.ref a)/\∀H,SqT K H a [.str "0",.str "1",.str "2",.str "3",.str "4",.str "5",.str "6",.str "7",.str "8"]
structure EXC(K:PySem.W.Frag)(mg:Str->Option Value)(base:Heap)(CNoText CRootError CNoName CNoRow:Addr):Prop where
 mgNoText:mg "NoText"=some (.ref CNoText)
 mgRootError:mg "RootError"=some (.ref CRootError)
 mgNoName:mg "NoName"=some (.ref CNoName)
 mgNoRow:mg "NoRow"=some (.ref CNoRow)
 hit_NoText_RootError:PySem.W.exmOne K (.ref CNoText) (.ref CRootError)=some true
 is_NoText_ValueError:PySem.W.kitOne K (.ref CNoText) (.type "ValueError")=some true
 is_NoText_NoName:PySem.W.kitOne K (.ref CNoText) (.ref CNoName)=some false
 is_NoText_NoRow:PySem.W.kitOne K (.ref CNoText) (.ref CNoRow)=some false
 is_NoText_NoText:PySem.W.kitOne K (.ref CNoText) (.ref CNoText)=some true
section
variable {P:Program}{w:World}{K:PySem.W.Frag}{mg:Str->Option Value}{base:Heap}
def pj(K:PySem.W.Frag):Sp:=λvs H Q _=>∃(a:Addr) (ns:List Int),vs=[.ref a]/\SqL K H a (ns.map V.int)/\ns.length<=63/\∀H',Q (.bl true) H'
theorem v9(n:Nat):(List.replicate n [V.int 0]).flatten=(List.replicate n (0:Int)).map V.int:=by
 induction n with
 |zero=>rfl
 |succ n ih=>rw[NO,NR,ih,NO];rfl
theorem zW{l:List Int}{j:Nat}{i:Int}(e:i=j)(h:j<l.length):atI (l.map V.int) i=some (.int (cf l j)):=by subst e;exact jD (by rw[List.getElem?_map,qf h];rfl)
def SameB(p:Addr)(H H':Hp):Prop:=∀b o,b≠p->H b=some o->H' b=some o
theorem SameB.refl(p:Addr)(H:Hp):SameB p H H:=λ_ _ _ h=>h
theorem SameB.then_new{p q:Addr}{H H1:Hp}{o:HO}(s:SameB p H H1)(h:H1 q=none):SameB p H (upd H1 q o):=λb u n e=>by rw[upd_ne (bj (s b u n e) h)];exact s b u n e
def AllB(k:Nat)(l:List Int):Prop:=∀x∈l,Bits k x
theorem AllB.cf{k:Nat}{l:List Int}(h:AllB k l)(n:Nat):Bits k (cf l n):=by
 by_cases hn:n<l.length
 ·rw[oF hn];exact h _ (List.getElem_mem hn)
 ·rw[eY (Oc hn)];exact Bits.zero
theorem mU{H H2:Hp}{p:Addr}{o:HO}(s:Same H H2)(hp:H p=none):Same H (upd H2 p o):=λb u e=>by rw[upd_ne (bj e hp)];exact s b u e
noncomputable def fB(ms:List Int)(lo hi:Option Int):List Int:=(ms.drop (HT.sIx ms.length 0 lo)).take (HT.sIx ms.length ms.length hi-HT.sIx ms.length 0 lo)
theorem J0(ms:List Int)(lo hi:Option Int):g9 (ms.map V.int) lo hi=(fB ms lo hi).map V.int:=by unfold g9 fB;rw[Nh,<- List.map_drop,<- List.map_take]
theorem J2(ms:List Int)(lo hi:Option Int):(fB ms lo hi).length<=ms.length:=by unfold fB;rw[N9,NE];omega
theorem AllB.app{k:Nat}{l r:List Int}(h1:AllB k l)(h2:AllB k r):AllB k (l++r):=λx hx=>(No.mp hx).elim (h1 x) (h2 x)
theorem AllB.mono{j k:Nat}{l:List Int}(h:AllB j l)(hk:j<=k:=by decide):AllB k l:=λx hx=>(h x hx).mono hk
theorem AllB.nil{k:Nat}:AllB k []:=λ_ h=>nomatch h
theorem AllB.snoc{k:Nat}{l:List Int}{x:Int}(h:AllB k l)(hx:Bits k x):AllB k (l++[x]):=h.app λy hy=>by rw[Nu.mp hy];exact hx
theorem FL{l:List Int}{x:Int}(h:x∈trim l):x∈l:=by
 unfold trim at h
 rw[List.mem_reverse]at h;exact List.mem_reverse.mp ((List.dropWhile_sublist _).subset h)
theorem AllB.trim{k:Nat}{l:List Int}(h:AllB k l):AllB k (trim l):=λx hx=>h x (FL hx)
theorem Ie{l:List Int}{i:Nat}{x:V}(h:(l.map V.int)[i]?=some x):∃c,l[i]?=some c/\x=.int c/\c∈l/\l.take (i+1)=l.take i++[c]:=by
 rw[List.getElem?_map]at h;cases e:l[i]? with
 |none=>rw[e]at h;cases h
 |some c=>rw[e]at h;exact⟨c,rfl,(Option.some.inj h).symm,List.mem_of_getElem? e,by rw[List.take_add_one,e];rfl⟩
def mkL(H:Hp)(Q:VK)(r:List Int):Prop:=∀(p:Addr) (H':Hp),Same H H'->H p=none->H' p=some (.lst (r.map V.int))->Q (.ref p) H'
def o9(K:PySem.W.Frag):Sp:=λvs H Q _=>∃(a:Addr) (ns:List Int),vs=[.ref a]/\SqL K H a (ns.map V.int)/\mkL H Q (trim ns)
def jS(K:PySem.W.Frag):Sp:=λvs H Q _=>∃(a:Addr) (ns:List Int) (k:Nat),vs=[.ref a,.int k]/\SqL K H a (ns.map V.int)/\Q (.int (ns.getD k 0)) H
def rs(K:PySem.W.Frag)(g:List Int->List Int->List Int):Sp:=λvs H Q _=>∃(a b:Addr) (xs ys:List Int),vs=[.ref a,.ref b]/\SqL K H a (xs.map V.int)/\SqL K H b (ys.map V.int)/\xs.length<=1000000/\ys.length<=1000000/\mkL H Q (g xs ys)
theorem FM(i j:Nat):(if((j:Nat):Int)>((i:Nat):Int)then((j:Nat):Int)else((i:Nat):Int))=((max i j:Nat):Int):=by split<;>omega
theorem vR{n:Nat}(h:n<=sizeLine) : -(2^62)<=((n:Nat):Int)/\((n:Nat):Int)<2^62:=by have:=sizeLine_eq;omega
def RwH(H:Hp)(ps:List Addr)(xss:List (List Int)):Prop:=ps.length=xss.length/\∀(i:Nat) (p:Addr) (xs:List Int),ps[i]?=some p->xss[i]?=some xs->H p=some (.lst (xs.map V.int))
theorem RwH.nil{H:Hp}:RwH H [] []:=⟨rfl,λi p xs h=>by simp at h⟩
theorem RwH.same{H H':Hp}{ps:List Addr}{xss:List (List Int)}(h:RwH H ps xss)(s:Same H H'):RwH H' ps xss:=⟨h.1,λi p xs a b=>s _ _ (h.2 i p xs a b)⟩
theorem RwH.snoc{H:Hp}{ps:List Addr}{xss:List (List Int)}{p:Addr}{xs:List Int}(h:RwH H ps xss)(hp:H p=some (.lst (xs.map V.int))):RwH H (ps++[p]) (xss++[xs]):=by
 refine⟨by rw[Nf,Nf,h.1];rfl,λi q ys a b=>?_⟩;by_cases hi:i<ps.length
 ·rw[List.getElem?_append_left hi]at a;rw[List.getElem?_append_left (by rw[<- h.1];exact hi)]at b;exact h.2 i q ys a b
 ·rw[List.getElem?_append_right (by omega)]at a;rw[List.getElem?_append_right (by rw[<- h.1];omega),<- h.1]at b;by_cases h0:i-ps.length=0
  ·rw[h0]at a b;obtain rfl:p=q:=by simpa using a
   obtain rfl:xs=ys:=by simpa using b
   exact hp
  ·rw[List.getElem?_eq_none_iff.mpr (by simp;omega)]at a;cases a
theorem RwH.get{H:Hp}{ps:List Addr}{xss:List (List Int)}{i:Nat}(h:RwH H ps xss)(hi:i<xss.length):∃p,ps[i]?=some p/\H p=some (.lst ((xss.getD i []).map V.int)):=by
 have hi':i<ps.length:=by rw[h.1];exact hi
 refine⟨ps[i],List.getElem?_eq_getElem hi',h.2 i _ _ (List.getElem?_eq_getElem hi') ?_⟩;rw[List.getElem?_eq_getElem hi];simp[List.getD,hi]
theorem FN(ps:List Addr)(p:Addr):ps.map V.ref++[V.ref p]=(ps++[p]).map V.ref:=by rw[NI];rfl
theorem jE(i:Int):(if i<0 then -i else i)=(i.natAbs:Int):=by split<;>omega
theorem Lc{l:List Int}(h:l≠[]):atI (l.map V.int) (-1)=some (.int (cf l (l.length-1))):=by
 obtain⟨r,x,rfl⟩:=(vQ l).resolve_left h;have e:(r++[x]).length-1=r.length:=by simp
 rw[e,uz,NI];exact zX _ _
theorem D0{f:Addr}{fd:FuncData}(F:Fun K "poly" "poly" ke f fd)(T:Txt K mg):FnOk P w K mg base CX0 1 f fd ["row"] (o9 K):=by
 refine F.ok sc_poly (λvs H Q E h=>?_) (λcdv A outer s H vs Q E hr h=>?_)
 ·obtain⟨a,ns,rfl,_⟩:=h;rfl
 ·obtain⟨a,ns,rfl,hS,k⟩:=h
  refine⟨_,(ah (aF (i:=1) sc_poly.nd rfl (Or.inl rfl) (aP (fC (K:=K) rfl) (by rfl) T.len_ PySem.boot_len (aa (pv 0) ac)))
   (ah (gL PassesOwn.never (PW.pt (bR (ao iA (pv 1) af (ap _)) (cr (ao bM (aA (aH (K:=K) rfl) (pv 0) (aq gl (pv 1) af) (λ_ _=>rfl)) af (ap _)))))
     (ae (aF (i:=1) sc_poly.nd rfl (Or.inl rfl) (aq gl (pv 1) af))))
   (ae (ai (lw (vS (K:=K) rfl) (pv 0) rO (gh (pv 1))))))),?_⟩
  refine⟨_,rfl,a,_,rfl,.inl hS,?_⟩;refine⟨λm σ' H'=>∃n:Nat,n<=ns.length/\σ'=[some (.ref a),some (.int n)]/\H=H'/\n=m/\trim (ns.take n)=trim ns,⟨_,ns.length,Ng _,?_,rfl,rfl,?_⟩,?_⟩
  ·rw[Nh];rfl
  ·rw[List.take_length]
  ·rintro m σ' H' ⟨n,hn,rfl,rfl,rfl,ht⟩
   have fin:trim (ns.take n)=ns.take n->∃v,([some (V.ref a),some (V.int n)]:St)[0]?=some (some v)/\∃v_1,([some (V.ref a),some (V.int n)]:St)[1]?=some (some v_1)/\∃i,v_1=V.int i/\rG K v none (some i) H Q:=λh=>by
    refine⟨_,rfl,_,rfl,n,rfl,a,_,rfl,hS,λp hp=>k p _ (Same.upd_new hp) hp ?_⟩;rw[aj,<- ht,h]
    have e:g9 (ns.map V.int) none (some (n:Int))=(ns.take n).map V.int:=by unfold g9;rw[HT.sIx_none,HT.sIx_nat,List.drop_zero,Nat.sub_zero,Nh,Nat.min_eq_left hn,List.map_take]
    rw[e]
   refine⟨_,rfl,_,_,rfl,rfl,_,rfl,?_⟩;refine aC (λhp=>?_) (λhp=>?_)
   ·obtain⟨j,rfl⟩:∃j,n=j+1:=⟨n-1,by have:(0:Int)<n:=hp;omega⟩;have hj:j<ns.length:=hn;refine⟨_,rfl,_,rfl,_,_,rfl,rfl,a,_,j,.int (cf ns j),rfl,?_,hS,jD ?_,_,_,rfl,rfl,_,rfl,?_⟩
    ·show V.int (((j+1:Nat):Int)-1)=V.int j
     congr 1;omega
    ·rw[List.getElem?_map,qf hj];rfl
    refine aC (λh0=>?_) (λh0=>?_)
    ·refine⟨λσ'' H''=>∃m',m'<j+1/\∃n:Nat,n<=ns.length/\σ''=[some (.ref a),some (.int n)]/\H=H''/\n=m'/\trim (ns.take n)=trim ns,λ_ _ h=>h,?_⟩;refine⟨_,rfl,_,_,rfl,rfl,j,Nat.lt_succ_self _,j,N4 hj,?_,rfl,rfl,?_⟩
     ·show[some (V.ref a),some (V.int (((j+1:Nat):Int)-1))]=[some (V.ref a),some (V.int j)]
      congr 4;omega
     ·rw[<- ht,AV hj h0]
    ·exact fin (AW hj h0)
   ·obtain rfl:n=0:=by have:¬(0:Int)<n:=hp;omega
    exact fin (by rw[List.take_zero];rfl)
theorem Eb{f:Addr}{fd:FuncData}(F:Fun K "coefficient" "coefficient" km f fd)(T:Txt K mg):FnOk P w K mg base CX0 1 f fd ["row","place"] (jS K):=by
 refine F.ok BV (λvs H Q E h=>?_) (λcdv A outer s H vs Q E hr h=>?_)
 ·obtain⟨a,ns,k,rfl,_⟩:=h;rfl
 ·obtain⟨a,ns,n,rfl,hS,k⟩:=h
  refine⟨_,(ah (ar (ao cW (pv 1) (aP (fC (K:=K) rfl) (by rfl) T.len_ PySem.boot_len (aa (pv 0) ac)) (ap _))
   (ae (ai (aA (aH (K:=K) rfl) (pv 0) (pv 1) (λ_ _=>rfl))))
   ay)
   (ae (ai af))),?_⟩
  refine⟨_,rfl,_,rfl,a,_,rfl,.inl hS,_,_,rfl,rfl,_,rfl,?_⟩;refine aC (λh1=>?_) (λh1=>?_)
  ·rw[Nh]at h1;have h2:n<ns.length:=by omega
   refine⟨_,rfl,_,rfl,a,_,_,_,rfl,rfl,hS,jD (v:=.int (ns.getD n 0)) ?_,k⟩;rw[List.getElem?_map,List.getElem?_eq_getElem h2];simp[List.getD,h2]
  ·rw[Nh]at h1;have h2:ns.length<=n:=by omega
   have e:ns.getD n 0=0:=by simp[List.getD,List.getElem?_eq_none_iff.mpr h2]
   rw[e]at k;exact k
theorem Ec{f:Addr}{fd:FuncData}(F:Fun K "added" "added" kn f fd)(T:Txt K mg){t6:Addr}{tM:FuncData}(vc:Cal P w K mg base 1 "poly" ["row"] (o9 K) t6 tM){Ju:Addr}{IN:FuncData}(Ms:Cal P w K mg base 1 "coefficient" ["row","place"] (jS K) Ju IN):FnOk P w K mg base CX0 2 f fd ["first","second"] (rs K fD):=by
 obtain⟨oP,mX,nA,oH⟩:=vc;obtain⟨Ak,xY,yv,zP⟩:=Ms;refine F.ok sc_added (λvs H Q E h=>?_) (λcdv A outer s H vs Q E hr h=>?_)
 ·obtain⟨a,b,xs,ys,rfl,_⟩:=h;rfl
 ·obtain⟨a,b,xs,ys,rfl,hA,hB,hx,hy,k⟩:=h
  refine⟨_,(ah (aF (i:=2) sc_added.nd rfl (Or.inl rfl) (aP (zy rfl) (by rfl) T.max_ PyProof.Rows.boot_max (aa (aP (fC (K:=K) rfl) (by rfl) T.len_ PySem.boot_len (aa (pv 0) ac)) (aa (aP (fC (K:=K) rfl) (by rfl) T.len_ PySem.boot_len (aa (pv 1) ac)) ac))))
   (ae (ai (aw oP (hr.mono) rfl mX nA oH .nil am (aa (wO (own:=["k"]) (fr:=["first","second"]) (js:=[0,1]) (by walk_at "comp_ok") rfl (wL rfl T.range_ (aa (pv 2) ac)) (λ_ _ _ _=>(ix (i:=0) (show List.Nodup (["k","first","second"]:List Str)from by decide +kernel) rfl (Or.inl rfl))) (λ_ _ _ _=>(aq dj (aw Ak (hr.mono) rfl xY yv zP .nil am (aa (pv 1) (aa (pv 0) ac))) (aw Ak (hr.mono) rfl xY yv zP .nil am (aa (pv 2) (aa (pv 0) ac)))))) ac))))),?_⟩
  refine⟨_,rfl,a,_,rfl,.inl hA,_,rfl,b,_,rfl,.inl hB,_,_,rfl,?_⟩;rw[FM,Nh,Nh];have hz:max xs.length ys.length<=sizeLine:=by have:=sizeLine_eq;omega
  refine⟨_,rfl,_,rfl,(vR hz).1,(vR hz).2,J5 (lo:=0) (n:=max xs.length ys.length) (λi zs σ' H'=>∃z:Option V,σ'=[z,some (.ref a),some (.ref b)]/\zs=((List.range i).map λk=>V.int (cf xs k+cf ys k))/\H=H') hz ⟨none,rfl,rfl,rfl⟩ ?_ ?_ ?_⟩
  ·rintro i zs σ' H' _ ⟨z,rfl,rfl,rfl⟩;simp
  ·rintro i zs σ' H' hi ⟨z,rfl,rfl,rfl⟩;refine⟨_,rfl,_,rfl,a,xs,i,?_,hA,_,rfl,_,rfl,b,ys,i,?_,hB,_,_,rfl,rfl,_,rfl,?_,rfl⟩
   ·show[V.ref a,V.int (0+(i:Int))]=_;rw[N7]
   ·show[V.ref b,V.int (0+(i:Int))]=_;rw[N7]
   ·rw[List.range_succ,NI];rfl
  ·rintro zs σ' H' p ⟨z,rfl,rfl,rfl⟩ hp;refine⟨p,(List.range (max xs.length ys.length)).map λk=>cf xs k+cf ys k,rfl,SqL.of ?_,?_⟩
   ·rw[aj,List.map_map];rfl
   ·intro p' H' sm hp' e;refine k p' H' ((Same.upd_new hp).trans sm) ((Same.upd_new hp).free hp') ?_;rw[e,Ll]
def Pla(l:List Nat):Prop:=(∀c∈l,c<128)/\l.length<=300
theorem Pla.drop{l:List Nat}(h:Pla l)(n:Nat):Pla (l.drop n):=⟨λc hc=>h.1 c (List.mem_of_mem_drop hc),by rw[NE];have:=h.2;omega⟩
theorem fc{l:List Nat}{i:Nat}{c:Nat}{j:Int}(e:j=i)(h:l[i]?=some c):atI (stL l).cps.toList j=some c:=by subst e;exact jD h
def SgP(z:Str)(p:Nat->Bool):Prop:=∀c,decide (c∈z.cps.toList)=p c
def qV:Sp:=λvs H Q _=>∃(l:List Nat) (i:Nat) (z:Str) (p:Nat->Bool),vs=[.str (stL l),.int i,.str z]/\Pla l/\i<=l.length/\SgP z p/\Q (.int ((i+((l.drop i).takeWhile p).length:Nat):Int)) H
theorem DJ{f:Addr}{fd:FuncData}(F:Fun K "run_end" "run_end" jZ f fd)(T:Txt K mg):FnOk P w K mg base CX0 1 f fd ["text","at","signs"] qV:=by
 refine F.ok sc_run_end (λvs H Q E h=>?_) (λcdv A outer s H vs Q E hr h=>?_)
 ·obtain⟨l,i,z,p,rfl,_⟩:=h;rfl
 ·obtain⟨l,i,z,p,rfl,hl,hi,hz,k⟩:=h;have big:=sizeLine_eq;have hl2:=hl.2
  refine⟨_,(ah (aF (i:=3) sc_run_end.nd rfl (Or.inl rfl) (pv 1))
   (ah (gL PassesOwn.never (PW.pt (bR (ao cW (pv 3) (aP dL (by rfl) T.len_ PySem.boot_len (aa (pv 0) ac)) (ap _)) (cr (ao gO (aA bJ (pv 0) (pv 3) (λ_ _=>rfl)) (pv 2) (by rfl)))))
     (ae (aF (i:=3) sc_run_end.nd rfl (Or.inl rfl) (aq dj (pv 3) af))))
   (ae (ai (pv 3))))),?_⟩
  refine aN ⟨_,rfl,?_⟩;refine⟨λm σ' H'=>∃e:Nat,m+e=l.length/\σ'=[some (.str (stL l)),some (.int i),some (.str z),some (.int (e:Int))]/\H=H'/\e+((l.drop e).takeWhile p).length=i+((l.drop i).takeWhile p).length,⟨l.length-i,i,by omega,rfl,rfl,rfl⟩,?_⟩;rintro m σ' H' ⟨e,hm,rfl,rfl,he⟩;refine bQ ⟨_,rfl,_,rfl,_,rfl,by rw[ak];omega,_,_,rfl,rfl,_,rfl,aC (λh1=>?_) (λh1=>?_)⟩
  rotate_left
  ·rw[ak]at h1;have h1':l.length<=e:=by have:¬(e:Int)<(l.length:Int):=h1;omega
   refine⟨_,rfl,?_⟩;rw[<- he,N6 h1']at k;exact k
  rw[ak]at h1;have h1':e<l.length:=by have:(e:Int)<(l.length:Int):=h1;omega
  have hg:l[e]?=some l[e]:=List.getElem?_eq_getElem h1';have hd:l.drop e=l[e]::l.drop (e+1):=Og h1';refine⟨_,rfl,_,rfl,_,_,_,rfl,rfl,by rw[ak];omega,fc rfl hg,_,rfl,_,_,rfl,rfl,_,rfl,?_⟩;rw[StrLaws.found_one,hz];by_cases hp:p l[e]=true
  ·rw[hp];refine aJ ?_;refine⟨λσ'' H''=>∃m',m'<m/\∃e:Nat,m'+e=l.length/\σ''=[some (.str (stL l)),some (.int i),some (.str z),some (.int (e:Int))]/\H=H''/\e+((l.drop e).takeWhile p).length=i+((l.drop i).takeWhile p).length,λ_ _ h=>h,?_⟩;refine cp ⟨_,rfl,_,_,rfl,rfl,m-1,by omega,e+1,by omega,rfl,rfl,?_⟩;rw[<- he,hd,NU,if_pos hp,Nj];omega
  ·have hp':p l[e]=false:=by simpa using hp
   rw[hp'];refine aI ?_;refine⟨_,rfl,?_⟩;rw[<- he,hd,NU,if_neg hp]at k;exact k
theorem y7:SgP (Str.ofString "0123456789") isD:=nK
theorem yh:SgP (Str.ofString "abcdefghijklmnopqrstuvwxyz") isA:=nJ
def rf:Sp:=λvs H Q _=>∃(l:List Nat) (i:Nat),vs=[.str (stL l),.int i]/\Pla l/\i<l.length/\∀H',Same H H'->Q (.int ((i+mln (l.drop i):Nat):Int)) H'
theorem D2{f:Addr}{fd:FuncData}(F:Fun K "mark_end" "mark_end" kg f fd)(T:Txt K mg){Jk:Addr}{IE:FuncData}(Mi:Cal P w K mg base 1 "run_end" ["text","at","signs"] qV Jk IE):FnOk P w K mg base CX0 2 f fd ["text","at"] rf:=by
 obtain⟨LB,FT,GW,Km⟩:=Mi;obtain⟨tF,hFIGURES⟩:=T.FIGURES_;obtain⟨tL,hLETTERS⟩:=T.LETTERS_;refine F.ok sc_mark_end (λvs H Q E h=>?_) (λcdv A outer s H vs Q E hr h=>?_)
 ·obtain⟨l,i,rfl,_⟩:=h;rfl
 ·obtain⟨l,i,rfl,hl,hi,k⟩:=h;have big:=sizeLine_eq;have hl2:=hl.2;have hg:l[i]?=some l[i]:=List.getElem?_eq_getElem hi;have hd:l.drop i=l[i]::l.drop (i+1):=Og hi
  refine⟨_,(ah (mS PassesOwn.never rfl (wK (K:=K) rfl (bq (aa (bU (v:=.str "0123456789") rfl hFIGURES ⟨_,rfl⟩) (aa (bU (v:=.str "abcdefghijklmnopqrstuvwxyz") rfl hLETTERS ⟨_,rfl⟩) ac)))) (ix (i:=2) sc_mark_end.nd rfl (Or.inl rfl))
   (ae (ar (ao gO (aA bJ (pv 0) (pv 1) (λ_ _=>rfl)) (pv 2) (by rfl))
     (ae (ai (aw LB (hr.mono) rfl FT GW Km .nil am (aa (pv 0) (aa (pv 1) (aa (pv 2) ac))))))
     ay)))
   (ah (ar (ao aK (lw pq (pv 0) (gh (pv 1)) (gh (aq dj (pv 1) af))) ad (ap _))
     (ae (ai (aq dj (pv 1) af)))
     ay)
   (ae (ai (aq dj (pv 1) af))))),?_⟩
  refine⟨by show 2<=sizeLine;decide,λpt hpt=>?_⟩;have s1:=Same.upd_new (o:=.tup [V.str (Str.ofString "0123456789"),V.str (Str.ofString "abcdefghijklmnopqrstuvwxyz")]) hpt;have e1:upd H pt (.tup [V.str (Str.ofString "0123456789"),V.str (Str.ofString "abcdefghijklmnopqrstuvwxyz")]) pt=some (.tup [V.str (Str.ofString "0123456789"),V.str (Str.ofString "abcdefghijklmnopqrstuvwxyz")]):=aj;generalize upd H pt (.tup [V.str (Str.ofString "0123456789"),V.str (Str.ofString "abcdefghijklmnopqrstuvwxyz")])=H1 at s1 e1 ⊢
  refine⟨pt,rfl,⟨_,SqT.of e1⟩,yV (K:=K) (a:=pt) (xs:=[V.str (Str.ofString "0123456789"),V.str (Str.ofString "abcdefghijklmnopqrstuvwxyz")]) (λj σ' H'=>∃z2:Option V,σ'=[some (.str (stL l)),some (.int i),z2]/\H1=H'/\(1<=j->isD l[i]=false)/\(2<=j->isA l[i]=false)) ⟨none,rfl,rfl,(λh=>absurd h (by decide)),(λh=>absurd h (by decide))⟩ ?_ ?_ ?_⟩
  ·rintro j σ' H' _ ⟨z2,rfl,rfl,_⟩;exact SqT.of e1
  ·rintro j x σ' H' hj ⟨z2,rfl,rfl,c1,c2⟩;have hj2:j<2:=(List.getElem?_eq_some_iff.mp hj).1;have:j=0\/j=1:=by omega
   rcases this with rfl |rfl
   ·obtain rfl:V.str (Str.ofString "0123456789")=x:=Option.some.inj hj;refine dA ⟨_,rfl,_,rfl,_,_,_,rfl,rfl,by rw[ak];omega,fc rfl hg,_,rfl,_,_,rfl,rfl,_,rfl,?_⟩;rw[StrLaws.found_one,nK];by_cases hp:isD l[i]=true
    ·rw[hp];refine aJ ⟨_,rfl,_,rfl,_,rfl,l,i,_,isD,rfl,hl,by omega,y7,?_⟩;have:=k H1 s1;rw[hd,dY,if_pos hp,<- hd]at this;exact this
    ·have hp':isD l[i]=false:=by simpa using hp
     rw[hp'];exact aI ⟨_,rfl,rfl,λ_=>rfl,λh=>absurd h (by decide)⟩
   ·obtain rfl:V.str (Str.ofString "abcdefghijklmnopqrstuvwxyz")=x:=Option.some.inj hj;refine dA ⟨_,rfl,_,rfl,_,_,_,rfl,rfl,by rw[ak];omega,fc rfl hg,_,rfl,_,_,rfl,rfl,_,rfl,?_⟩;rw[StrLaws.found_one,nJ];by_cases hp:isA l[i]=true
    ·rw[hp];refine aJ ⟨_,rfl,_,rfl,_,rfl,l,i,_,isA,rfl,hl,by omega,yh,?_⟩;have:=k H1 s1;rw[hd,dY,if_neg (by rw[c1 (by decide)];decide),if_pos hp,<- hd]at this;exact this
    ·have hp':isA l[i]=false:=by simpa using hp
     rw[hp'];exact aI ⟨_,rfl,rfl,λ_=>c1 (by decide),λ_=>rfl⟩
  ·rintro σ' H' ⟨z2,rfl,rfl,c1,c2⟩;have d1:=c1 (by decide);have d2:=c2 (by decide);dsimp only
   have hd2:mln (l.drop i)=if l[i]=46/\(l.drop (i+1)).head?=some 46 then 2 else 1:=by rw[hd,dY,if_neg (by rw[d1];decide),if_neg (by rw[d2];decide)]
   have hsl:=By hi;refine aD ⟨_,rfl,_,rfl,_,rfl,_,rfl,_,_,rfl,rfl,_,rfl,_,rfl,by rw[ak];omega,rfl,_,rfl,aC (λz=>?_) (λz=>?_)⟩
   ·have z2:=hsl.mp (V.str.inj z);rw[if_pos z2]at hd2;refine⟨_,rfl,_,_,rfl,rfl,?_⟩;have:=k H1 s1;rw[hd2]at this;exact this
   ·have z2:¬_:=λy=>z (congrArg V.str (hsl.mpr y))
    rw[if_neg z2]at hd2;refine⟨_,rfl,_,_,rfl,rfl,?_⟩;have:=k H1 s1;rw[hd2]at this;exact this
def MkH(H:Hp)(qs:List Addr)(ms:List Mk):Prop:=qs.length=ms.length/\∀(i:Nat) (q:Addr) (m:Mk),qs[i]?=some q->ms[i]?=some m->H q=some (.tup [.str (stL m.1),.int m.2])
theorem MkH.nil{H:Hp}:MkH H [] []:=⟨rfl,λi q p h _=>by simp at h⟩
theorem MkH.same{H H':Hp}{qs ms}(h:MkH H qs ms)(s:Same H H'):MkH H' qs ms:=⟨h.1,λi q p e1 e2=>s _ _ (h.2 i q p e1 e2)⟩
theorem MkH.upd{H:Hp}{qs ms}{a:Addr}{xs:List V}{o:HO}(h:MkH H qs ms)(ha:H a=some (.lst xs)):MkH (L2.upd H a o) qs ms:=⟨h.1,λi q p e1 e2=>by
 have e:=h.2 i q p e1 e2;have nq:q≠a:=λz=>by rw[z,ha]at e;cases e
 rw[L2.upd_ne nq];exact e⟩
theorem MkH.snoc{H:Hp}{qs:List Addr}{ls:List Mk}{q:Addr}{m:List Nat}{n:Nat}(h:MkH H qs ls)(h1:H q=some (.tup [.str (stL m),.int n])):MkH H (qs++[q]) (ls++[(m,n)]):=by
 refine⟨by rw[Nf,Nf,h.1];rfl,λi q' p e1 e2=>?_⟩;by_cases hi:i<ls.length
 ·rw[List.getElem?_append_left (by rw[h.1];exact hi)]at e1;rw[List.getElem?_append_left hi]at e2;exact h.2 i q' p e1 e2
 ·rw[List.getElem?_append_right (by rw[h.1];omega),h.1]at e1;rw[List.getElem?_append_right (by omega)]at e2
  have hz:i-ls.length=0:=by
   cases hd:i-ls.length with
   |zero=>rfl
   |succ d=>rw[hd]at e2;simp at e2
  rw[hz]at e1 e2;obtain rfl:=Option.some.inj e1;obtain rfl:=Option.some.inj e2;exact h1
def re:Sp:=λvs H Q _=>∃l:List Nat,vs=[.str (stL l)]/\Pla l/\∀(p:Addr) (H':Hp) (qs:List Addr),Same H H'->H p=none->H' p=some (.lst (qs.map V.ref))->MkH H' qs (mks 0 l)->Q (.ref p) H'
theorem D1{f:Addr}{fd:FuncData}(F:Fun K "marks_of" "marks_of" kf f fd)(T:Txt K mg){Js:Addr}{IL:FuncData}(Mq:Cal P w K mg base 2 "mark_end" ["text","at"] rf Js IL):FnOk P w K mg base CX0 3 f fd ["text"] re:=by
 obtain⟨LJ,FZ,G2,Ks⟩:=Mq;refine F.ok sc_marks_of (λvs H Q E h=>?_) (λcdv A outer s H vs Q E hr h=>?_)
 ·obtain⟨l,rfl,_⟩:=h;rfl
 ·obtain⟨l,rfl,hl,k⟩:=h;have big:=sizeLine_eq;have hl2:=hl.2
  refine⟨_,(ah (aF (i:=1) sc_marks_of.nd rfl (Or.inl rfl) (aO ac))
   (ah (aF (i:=2) sc_marks_of.nd rfl (Or.inl rfl) af)
   (ah (gL PassesOwn.never (ao cW (pv 2) (aP dL (by rfl) T.len_ PySem.boot_len (aa (pv 0) ac)) (ap _))
     (ah (aF (i:=3) sc_marks_of.nd rfl (Or.inl rfl) (aw LJ (hr.mono) rfl FZ G2 Ks .nil am (aa (pv 0) (aa (pv 2) ac))))
       (ah (ar (ao lB (aA bJ (pv 0) (pv 2) (λ_ _=>rfl)) ad (ap _))
         (ae (cH (lx PySem.F.plainAttrs_list PySem.F.slot_list_append PySem.F.type_list_append pL (pv 1) (aa (bq (aa (lw pq (pv 0) (gh (pv 2)) (gh (pv 3))) (aa (pv 2) ac))) ac))))
         ay)
       (ae (aF (i:=2) sc_marks_of.nd rfl (Or.inl rfl) (pv 3))))))
   (ae (ai (pv 1)))))),?_⟩
  refine aN ⟨Nr _,λpf hpf=>?_⟩;have s0:Same H (upd H pf (.lst [])):=Same.upd_new hpf;have q0:upd H pf (.lst []) pf=some (.lst (([]:List Addr).map V.ref)):=aj;generalize upd H pf (.lst [])=H0 at s0 q0 ⊢
  refine aN ?_;refine⟨λm σ' H'=>∃(e:Nat) (qs:List Addr) (ms:List Mk) (z3:Option V),m+e=l.length/\σ'=[some (.str (stL l)),some (.ref pf),some (.int (e:Int)),z3]/\Same H H'/\H' pf=some (.lst (qs.map V.ref))/\MkH H' qs ms/\ms++mks e (l.drop e)=mks 0 l,⟨l.length,0,[],[],none,rfl,rfl,s0,q0,MkH.nil,rfl⟩,?_⟩;rintro m σ' H1 ⟨e,qs,ms,z3,hm,rfl,s1,e1,hM,hms⟩;refine⟨_,rfl,_,rfl,_,rfl,by rw[ak];omega,_,_,rfl,rfl,_,rfl,aC (λh1=>?_) (λh1=>?_)⟩
  rotate_left
  ·rw[ak]at h1;have h1':l.length<=e:=by have:¬(e:Int)<(l.length:Int):=h1;omega
   rw[N6 h1',lH,Ny]at hms;exact⟨_,rfl,k pf H1 qs s1 hpf e1 (hms ▸ hM)⟩
  rw[ak]at h1;have h1':e<l.length:=by have:(e:Int)<(l.length:Int):=h1;omega
  have hg:l[e]?=some l[e]:=List.getElem?_eq_getElem h1';have hd:l.drop e=l[e]::l.drop (e+1):=Og h1';have hmp:1<=mln (l.drop e):=by rw[hd];exact lG _ _
  have hml:mln (l.drop e)<=l.length-e:=by have:=sj (l.drop e);rw[NE]at this;exact this
  have hmsl:ms.length<=l.length:=by have h2:=congrArg List.length hms;rw[Nf]at h2;have h3:(mks 0 l).length<=l.length:=FF _ _;omega
  refine⟨λσ'' H''=>∃m',m'<m/\∃(e:Nat) (qs:List Addr) (ms:List Mk) (z3:Option V),m'+e=l.length/\σ''=[some (.str (stL l)),some (.ref pf),some (.int (e:Int)),z3]/\Same H H''/\H'' pf=some (.lst (qs.map V.ref))/\MkH H'' qs ms/\ms++mks e (l.drop e)=mks 0 l,λ_ _ h=>h,?_⟩;refine aN ⟨_,rfl,_,rfl,l,e,rfl,hl,h1',λH2 sm2=>?_⟩;have e2:=sm2 _ _ e1;have hM2:=hM.same sm2;have s2:=s1.trans sm2;have hmc:=iE e l[e] (l.drop (e+1));rw[<- hd,List.drop_drop]at hmc;rw[hmc]at hms;refine cA (λσ' H'=>∃(qs:List Addr) (ms:List Mk),σ'=[some (.str (stL l)),some (.ref pf),some (.int (e:Int)),some (.int ((e+mln (l.drop e):Nat):Int))]/\Same H H'/\H' pf=some (.lst (qs.map V.ref))/\MkH H' qs ms/\ms++mks (e+mln (l.drop e)) (l.drop (e+mln (l.drop e)))=mks 0 l) ?_ ?_
  case refine_2 =>
   intro rest;refine⟨_,rfl,_,rfl,_,_,_,rfl,rfl,by rw[ak];omega,fc rfl hg,rfl,_,rfl,lm (λh2=>?_) (λh2=>?_)⟩
   ·have h2':l[e]≠32:=λz=>h2 (by rw[z];decide +kernel)
    rw[if_neg h2']at hms;refine pA ⟨_,rfl,.inl ⟨rfl,_,SqL.of e2⟩,_,rfl,_,rfl,_,rfl,_,rfl,_,rfl,_,rfl,by rw[ak];omega,_,rfl,by show 2<=sizeLine;decide,λpt hpt=>?_⟩;have hsl:=rz l (a:=e) (b:=e+mln (l.drop e)) (by omega) (by omega);rw[Nat.add_sub_cancel_left]at hsl;have u3:=Same.upd_new (o:=.tup [V.str (Txt.slice (stL l) (some (e:Int)) (some ((e+mln (l.drop e):Nat):Int))),V.int (e:Int)]) hpt;have ept:upd H2 pt (.tup [V.str (Txt.slice (stL l) (some (e:Int)) (some ((e+mln (l.drop e):Nat):Int))),V.int (e:Int)]) pt=some (.tup [V.str (stL ((l.drop e).take (mln (l.drop e)))),V.int (e:Int)]):=by rw[aj,hsl]
    generalize upd H2 pt (.tup [V.str (Txt.slice (stL l) (some (e:Int)) (some ((e+mln (l.drop e):Nat):Int))),V.int (e:Int)])=H3 at u3 ept ⊢
    have e3:=u3 _ _ e2;refine⟨pf,_,_,rfl,rfl,e3,by rw[Nh,hM.1];omega,rest _ _ ⟨qs++[pt],ms++[((l.drop e).take (mln (l.drop e)),e)],rfl,mU (s2.trans u3) hpf,by rw[aj,FN],((hM2.same u3).snoc ept).upd e3,?_⟩⟩;rw[Nl];exact hms
   ·have h2':l[e]=32:=by
     have z:V.str ⟨#[l[e]]⟩=V.str (Str.ofString " "):=h2;have z2:([l[e]]:List Nat)=(Str.ofString " ").cps.toList:=congrArg (λs:Str=>s.cps.toList) (V.str.inj z);have z3:(Str.ofString " ").cps.toList=[32]:=by decide +kernel
     rw[z3]at z2;exact Ol z2
    rw[if_pos h2',NF]at hms;exact rest _ _ ⟨qs,ms,rfl,s2,e2,hM2,hms⟩
  rintro σ' H3 ⟨qs,ms,rfl,s3,e3,hM3,hms3⟩;refine cp ⟨_,rfl,m-mln (l.drop e),by omega,e+mln (l.drop e),qs,ms,_,by omega,rfl,s3,e3,hM3,hms3⟩
theorem lK:(Str.ofString "x":Str)=stL [120]:=by decide +kernel
theorem iI:(Str.ofString "^":Str)=stL [94]:=by decide +kernel
theorem dF:(Str.ofString "*":Str)=stL [42]:=by decide +kernel
theorem iH:(Str.ofString "":Str)=stL []:=by decide +kernel
theorem eJ:(Str.ofString "0":Str)=stL [48]:=by decide +kernel
theorem gt:(Str.ofString "-":Str)=stL [45]:=by decide +kernel
theorem lL:(Str.ofString "+":Str)=stL [43]:=by decide +kernel
structure QC(K:PySem.W.Frag)(mg:Str->Option Value)(C:Addr):Prop where
 cl:Cls K C
 n1:NoAttr K C "marks"
 n2:NoAttr K C "end"
 n3:NoAttr K C "done"
 n4:NoAttr K C "depth"
 mg:mg "Reading"=some (.ref C)
theorem xq:¬(("marks":Str)="end"):=by decide +kernel
theorem rZ:¬(("marks":Str)="done"):=by decide +kernel
theorem rY:¬(("marks":Str)="depth"):=by decide +kernel
theorem r9:¬(("end":Str)="done"):=by decide +kernel
theorem r8:¬(("end":Str)="depth"):=by decide +kernel
theorem sd:¬(("done":Str)="depth"):=by decide +kernel
theorem mQ{f:Str}{v:V}{fs:List (Str×V)}{n:Nat}(h:fs.length<n):(aR f v fs).length<n+1:=by have:=sP f v fs;omega
noncomputable def fdl(pm:Addr)(e:Nat×Nat)(d:Int):List (Str×V):=aR "depth" (.int (e.2:Nat)) (aR "done" (.int d) (aR "end" (.int (e.1:Nat)) (aR "marks" (.ref pm) [])))
theorem nO(pm:Addr)(e:Nat×Nat)(d:Int):(fdl pm e d).lookup ("marks":Str)=some (.ref pm):=by unfold fdl;rw[aZ,if_neg rY,aZ,if_neg rZ,aZ,if_neg xq,aZ,if_pos rfl]
theorem iO(pm:Addr)(e:Nat×Nat)(d:Int):(fdl pm e d).lookup ("done":Str)=some (.int d):=by unfold fdl;rw[aZ,if_neg sd,aZ,if_pos rfl]
theorem IB(pm:Addr)(e:Nat×Nat)(d:Int):(fdl pm e d).lookup ("end":Str)=some (.int (e.1:Nat)):=by unfold fdl;rw[aZ,if_neg r8,aZ,if_neg r9,aZ,if_pos rfl]
theorem cg(pm:Addr)(e:Nat×Nat)(d:Int){m:Str}(h1:¬m="marks")(h2:¬m="end")(h3:¬m="done")(h4:¬m="depth"):(fdl pm e d).lookup m=none:=by unfold fdl;rw[aZ,if_neg h4,aZ,if_neg h3,aZ,if_neg h2,aZ,if_neg h1];rfl
theorem nQ(pm:Addr)(e:Nat×Nat)(d:Int):fdl pm e d=([(Str.ofString "marks",V.ref pm),(Str.ofString "end",V.int (e.1:Nat)),(Str.ofString "done",V.int d),(Str.ofString "depth",V.int (e.2:Nat))]:List (Str×V)):=by unfold fdl;show aR "depth" _ (aR "done" _ (if("marks":Str)="end" then _ else _))=_;rw[if_neg xq];show aR "depth" _ (if("marks":Str)="done" then _ else _::(if("end":Str)="done" then _ else _))=_;rw[if_neg rZ,if_neg r9];show(if("marks":Str)="depth" then _ else _::(if("end":Str)="depth" then _ else _::(if("done":Str)="depth" then _ else _)))=_;rw[if_neg rY,if_neg r8,if_neg sd];rfl
theorem y8(pm:Addr)(e:Nat×Nat)(d d':Int):aR "done" (.int d') (fdl pm e d)=fdl pm e d':=by rw[nQ,nQ];show(if("marks":Str)="done" then _ else _::(if("end":Str)="done" then _ else _::(if("done":Str)="done" then _ else _)))=_;rw[if_neg rZ,if_neg r9,if_pos rfl]
theorem qi(pm:Addr)(e:Nat×Nat)(d:Int):(fdl pm e d).length<1000:=by rw[nQ];show 4<1000;decide
def RdA(C:Addr)(H:Hp)(p:Addr)(e:Nat×Nat)(us:List Mk):Prop:=∃(dx pm:Addr) (qs:List Addr) (ts:List Mk) (d:Nat),H p=some (.ins C dx (fdl pm e d))/\H pm=some (.lst (qs.map V.ref))/\MkH H qs ts/\ts.drop d=us/\d<=ts.length/\∀u∈ts,u.1≠[]/\u.1.length<=300/\∀c∈u.1,c<128
theorem RdA.same{C:Addr}{H H':Hp}{p:Addr}{e:Nat×Nat}{us:List Mk}(h:RdA C H p e us)(s:Same H H'):RdA C H' p e us:=by obtain⟨dx,pm,qs,ts,d,h1,h2,h3,h4⟩:=h;exact⟨dx,pm,qs,ts,d,s _ _ h1,s _ _ h2,h3.same s,h4⟩
theorem RdA.is{C:Addr}{H:Hp}{p:Addr}{e:Nat×Nat}{us:List Mk}(h:RdA C H p e us):∀u∈us,u.1≠[]/\u.1.length<=300/\∀c∈u.1,c<128:=by obtain⟨dx,pm,qs,ts,d,h1,h2,h3,h4,h5,h6⟩:=h;intro u hu;rw[<- h4]at hu;exact h6 u (List.mem_of_mem_drop hu)
theorem MkH.upd_ins{H:Hp}{qs ms}{a C dx:Addr}{fs:List (Str×V)}{o:HO}(h:MkH H qs ms)(ha:H a=some (.ins C dx fs)):MkH (L2.upd H a o) qs ms:=⟨h.1,λi q p e1 e2=>by
 have e:=h.2 i q p e1 e2;have nq:q≠a:=λz=>by rw[z,ha]at e;cases e
 rw[L2.upd_ne nq];exact e⟩
theorem uw{ts us:List Mk}{u:Mk}{d:Nat}(h:ts.drop d=u::us):d<ts.length/\ts[d]?=some u/\ts.drop (d+1)=us:=by
 have hl:d<ts.length:=by have:=congrArg List.length h;rw[NE,Nj]at this;omega
 rw[Og hl]at h;refine⟨hl,?_,(List.cons.inj h).2⟩;rw[List.getElem?_eq_getElem hl,(List.cons.inj h).1]
theorem ux{ts:List Mk}{d:Nat}(h:ts.drop d=[])(hd:d<=ts.length):d=ts.length:=by have:=List.drop_eq_nil_iff.mp h;omega
theorem RdA.put{C:Addr}{H:Hp}{p pm dx:Addr}{e:Nat×Nat}{qs:List Addr}{ts us:List Mk}{u:Mk}{d:Nat}(h1:H p=some (.ins C dx (fdl pm e d)))(h2:H pm=some (.lst (qs.map V.ref)))(h3:MkH H qs ts)(h4:ts.drop d=u::us)(h6:∀u∈ts,u.1≠[]/\u.1.length<=300/\∀c∈u.1,c<128):SameB p H (upd H p (.ins C dx (fdl pm e ((d+1:Nat):Int))))/\RdA C (upd H p (.ins C dx (fdl pm e ((d+1:Nat):Int)))) p e us:=by
 have np:pm≠p:=λz=>by rw[z,h1]at h2;cases h2
 obtain⟨g1,g2,g3⟩:=uw h4;exact⟨λb o hb eo=>by rw[upd_ne hb];exact eo,dx,pm,qs,ts,d+1,aj,by rw[upd_ne np];exact h2,h3.upd_ins h1,g3,by omega,h6⟩
theorem MkH.at{H:Hp}{qs:List Addr}{ts:List Mk}{u:Mk}{d:Nat}(h:MkH H qs ts)(hd:ts[d]?=some u):∃(q:Addr),atI (qs.map V.ref) (d:Int)=some (.ref q)/\H q=some (.tup [.str (stL u.1),.int u.2]):=by
 have hq:d<qs.length:=by rw[h.1];exact(List.getElem?_eq_some_iff.mp hd).1
 exact⟨qs[d],jD (by rw[List.getElem?_map,List.getElem?_eq_getElem hq];rfl),h.2 d qs[d] u (List.getElem?_eq_getElem hq) hd⟩
def dc(C:Addr):Sp:=λvs H Q _=>∃(p:Addr) (e:Nat×Nat) (us:List Mk),vs=[.ref p]/\RdA C H p e us/\Q (.str (stL (mhd us))) H
theorem EF{C f:Addr}{fd:FuncData}(F:Fun K "seen" "Reading.seen" kQ f fd)(T:Txt K mg)(R:QC K mg C):FnOk P w K mg base CX0 1 f fd ["self"] (dc C):=by
 refine F.ok B8 (λvs H Q E h=>?_) (λcdv A outer s H vs Q E hr h=>?_)
 ·obtain⟨p,e,us,rfl,_⟩:=h;rfl
 ·obtain⟨p,e,us,rfl,⟨dx,pm,qs,ts,d,h1,h2,h3,h4,h5,h6⟩,k⟩:=h;have hql:(qs.map V.ref).length=ts.length:=by rw[Nh,h3.1]
  refine⟨_,(ah (ar (ao bM (aS (K:=K) rfl (pv 0) rfl) (aP (fC (K:=K) rfl) (by rfl) T.len_ PySem.boot_len (aa (aS (K:=K) rfl (pv 0) rfl) ac)) (ap _))
   (ae (ai ad))
   ay)
   (ae (ai (aA (yC (K:=K) rfl) (aA (aH (K:=K) rfl) (aS (K:=K) rfl (pv 0) rfl) (aS (K:=K) rfl (pv 0) rfl) (λ_ _=>rfl)) af (λ_ _=>rfl))))),?_⟩
  refine aD ⟨_,rfl,p,C,dx,_,_,rfl,h1,R.cl,R.n3,iO _ _ _,_,rfl,p,C,dx,_,_,rfl,h1,R.cl,R.n1,nO _ _ _,pm,_,rfl,.inl (SqL.of h2),_,_,rfl,rfl,_,rfl,aC (λh4'=>?_) (λh4'=>?_)⟩
  ·rw[hql]at h4';have h5':d=ts.length:=by have:(d:Int)=(ts.length:Int):=h4';omega
   have:us=[]:=by rw[<- h4];exact N6 (by omega)
   subst this;have k':Q (.str (stL [])) H:=k;rw[<- iH]at k';exact k'
  ·rw[hql]at h4';have h5':¬(d:Int)=(ts.length:Int):=h4';cases us with
   |nil=>exact absurd (ux h4 h5) (by omega)
   |cons u us =>obtain⟨g1,g2,g3⟩:=uw h4;obtain⟨q,e1,e2⟩:=h3.at g2;exact⟨_,rfl,p,C,dx,_,_,rfl,h1,R.cl,R.n1,nO _ _ _,_,rfl,p,C,dx,_,_,rfl,h1,R.cl,R.n3,iO _ _ _,pm,_,_,_,rfl,rfl,SqL.of h2,e1,q,_,_,_,rfl,rfl,SqT.of e2,rfl,k⟩
def gH(C:Addr):Sp:=λvs H Q _=>∃(p:Addr) (e:Nat×Nat) (us:List Mk),vs=[.ref p]/\RdA C H p e us/\Q (.int (mbg e.1 us:Nat)) H
theorem EL{C f:Addr}{fd:FuncData}(F:Fun K "begin" "Reading.begin" kX f fd)(T:Txt K mg)(R:QC K mg C):FnOk P w K mg base CX0 1 f fd ["self"] (gH C):=by
 refine F.ok Ce (λvs H Q E h=>?_) (λcdv A outer s H vs Q E hr h=>?_)
 ·obtain⟨p,e,us,rfl,_⟩:=h;rfl
 ·obtain⟨p,e,us,rfl,⟨dx,pm,qs,ts,d,h1,h2,h3,h4,h5,h6⟩,k⟩:=h;have hql:(qs.map V.ref).length=ts.length:=by rw[Nh,h3.1]
  refine⟨_,(ah (ar (ao bM (aS (K:=K) rfl (pv 0) rfl) (aP (fC (K:=K) rfl) (by rfl) T.len_ PySem.boot_len (aa (aS (K:=K) rfl (pv 0) rfl) ac)) (ap _))
   (ae (ai (aS (K:=K) rfl (pv 0) rfl)))
   ay)
   (ae (ai (aA (yC (K:=K) rfl) (aA (aH (K:=K) rfl) (aS (K:=K) rfl (pv 0) rfl) (aS (K:=K) rfl (pv 0) rfl) (λ_ _=>rfl)) af (λ_ _=>rfl))))),?_⟩
  refine aD ⟨_,rfl,p,C,dx,_,_,rfl,h1,R.cl,R.n3,iO _ _ _,_,rfl,p,C,dx,_,_,rfl,h1,R.cl,R.n1,nO _ _ _,pm,_,rfl,.inl (SqL.of h2),_,_,rfl,rfl,_,rfl,aC (λh4'=>?_) (λh4'=>?_)⟩
  ·rw[hql]at h4';have h5':d=ts.length:=by have:(d:Int)=(ts.length:Int):=h4';omega
   have:us=[]:=by rw[<- h4];exact N6 (by omega)
   subst this;exact⟨_,rfl,p,C,dx,_,_,rfl,h1,R.cl,R.n2,IB _ _ _,k⟩
  ·rw[hql]at h4';have h5':¬(d:Int)=(ts.length:Int):=h4';cases us with
   |nil=>exact absurd (ux h4 h5) (by omega)
   |cons u us =>obtain⟨g1,g2,g3⟩:=uw h4;obtain⟨q,e1,e2⟩:=h3.at g2;exact⟨_,rfl,p,C,dx,_,_,rfl,h1,R.cl,R.n1,nO _ _ _,_,rfl,p,C,dx,_,_,rfl,h1,R.cl,R.n3,iO _ _ _,pm,_,_,_,rfl,rfl,SqL.of h2,e1,q,_,_,_,rfl,rfl,SqT.of e2,rfl,k⟩
theorem bI:¬(("seen":Str)="marks")/\¬(("seen":Str)="end")/\¬(("seen":Str)="done")/\¬(("seen":Str)="depth"):=by decide +kernel
theorem cD:¬(("begin":Str)="marks")/\¬(("begin":Str)="end")/\¬(("begin":Str)="done")/\¬(("begin":Str)="depth"):=by decide +kernel
theorem cI:¬(("step":Str)="marks")/\¬(("step":Str)="end")/\¬(("step":Str)="done")/\¬(("step":Str)="depth"):=by decide +kernel
theorem bN:¬(("passes":Str)="marks")/\¬(("passes":Str)="end")/\¬(("passes":Str)="done")/\¬(("passes":Str)="depth"):=by decide +kernel
theorem dk:¬(("demand":Str)="marks")/\¬(("demand":Str)="end")/\¬(("demand":Str)="done")/\¬(("demand":Str)="depth"):=by decide +kernel
theorem Fj:¬(("finish":Str)="marks")/\¬(("finish":Str)="end")/\¬(("finish":Str)="done")/\¬(("finish":Str)="depth"):=by decide +kernel
def eC(C:Addr):Sp:=λvs H Q _=>∃(p:Addr) (e:Nat×Nat) (u:Mk) (us:List Mk),vs=[.ref p]/\RdA C H p e (u::us)/\∀H',SameB p H H'->RdA C H' p e us->Q (.str (stL u.1)) H'
theorem EE{C f:Addr}{fd:FuncData}(F:Fun K "step" "Reading.step" kP f fd)(T:Txt K mg)(R:QC K mg C){bP:Addr}{bO:FuncData}(bL:MCal P w K mg base 1 C "seen" ["self"] (dc C) bP bO):FnOk P w K mg base CX0 2 f fd ["self"] (eC C):=by
 obtain⟨ck,cc,cj⟩:=bL;refine F.ok sc_Reading_step (λvs H Q E h=>?_) (λcdv A outer s H vs Q E hr h=>?_)
 ·obtain⟨p,e,u,us,rfl,_⟩:=h;rfl
 ·obtain⟨p,e,u,us,rfl,hA,k⟩:=h;obtain⟨dx,pm,qs,ts,d,h1,h2,h3,h4,h5,h6⟩:=id hA
  refine⟨_,(ah (aF (i:=1) sc_Reading_step.nd rfl (Or.inl rfl) (bo (pv 0) R.cl cc ck (hr.mono) cj .nil am))
   (ah (bB (pv 0) (aq dj (aS (K:=K) rfl (pv 0) rfl) af) rfl)
   (ae (ai (pv 1))))),?_⟩
  refine aN ⟨_,rfl,p,dx,_,rfl,h1,cg _ _ _ bI.1 bI.2.1 bI.2.2.1 bI.2.2.2,p,e,_,rfl,hA,?_⟩;refine⟨_,rfl,p,C,dx,_,_,rfl,h1,R.cl,R.n3,iO _ _ _,_,_,rfl,rfl,_,rfl,p,C,dx,_,rfl,h1,R.cl,R.n3,qi _ _ _,?_⟩;obtain⟨sb,ra⟩:=RdA.put h1 h2 h3 h4 h6;have e2:aR "done" (V.int ((d:Int)+1)) (fdl pm e d)=fdl pm e ((d+1:Nat):Int):=y8 _ _ _ _;refine⟨_,rfl,?_⟩;have:=k _ sb ra;rw[<- e2]at this;exact this
def dP(C:Addr):Sp:=λvs H Q _=>∃(p:Addr) (e:Nat×Nat) (us:List Mk) (m:List Nat),vs=[.ref p,.str (stL m)]/\RdA C H p e us/\m≠[]/\(∀u r,us=u::r->u.1=m->∀H',SameB p H H'->RdA C H' p e r->Q (.bl true) H')/\(mhd us≠m->Q (.bl false) H)
theorem EG{C f:Addr}{fd:FuncData}(F:Fun K "passes" "Reading.passes" kR f fd)(T:Txt K mg)(R:QC K mg C){bP:Addr}{bO:FuncData}(bL:MCal P w K mg base 1 C "seen" ["self"] (dc C) bP bO):FnOk P w K mg base CX0 2 f fd ["self","mark"] (dP C):=by
 obtain⟨ck,cc,cj⟩:=bL;refine F.ok B9 (λvs H Q E h=>?_) (λcdv A outer s H vs Q E hr h=>?_)
 ·obtain⟨p,e,us,m,rfl,_⟩:=h;rfl
 ·obtain⟨p,e,us,m,rfl,hA,hm,k1,k2⟩:=h;obtain⟨dx,pm,qs,ts,d,h1,h2,h3,h4,h5,h6⟩:=id hA
  refine⟨_,(ah (ar (ao lB (bo (pv 0) R.cl cc ck (hr.mono) cj .nil am) (pv 1) (ap _))
   (ae (ai gk))
   ay)
   (ah (bB (pv 0) (aq dj (aS (K:=K) rfl (pv 0) rfl) af) rfl)
   (ae (ai gk)))),?_⟩
  refine aD ⟨_,rfl,p,dx,_,rfl,h1,cg _ _ _ bI.1 bI.2.1 bI.2.2.1 bI.2.2.2,p,e,us,rfl,hA,_,rfl,rfl,_,rfl,lm (λh4=>?_) (λh4'=>?_)⟩
  ·exact k2 λz=>h4 (by rw[z])
  ·have h5':mhd us=m:=stL_inj.mp (V.str.inj h4');refine⟨_,rfl,p,C,dx,_,_,rfl,h1,R.cl,R.n3,iO _ _ _,_,_,rfl,rfl,_,rfl,p,C,dx,_,rfl,h1,R.cl,R.n3,qi _ _ _,?_⟩;cases us with
   |nil=>exact absurd h5'.symm hm
   |cons u us =>obtain⟨sb,ra⟩:=RdA.put h1 h2 h3 h4 h6;have e2:aR "done" (V.int ((d:Int)+1)) (fdl pm e d)=fdl pm e ((d+1:Nat):Int):=y8 _ _ _ _;have:=k1 u us rfl h5' _ sb ra;rw[<- e2]at this;exact this
def XAt(CN p:Addr)(E:XK)(H:Hp)(n:Nat):Prop:=∀(H':Hp) (dx:Addr),SameB p H H'->H' dx=some (.xd [(("at":Str),V.int (n:Int))])->E (.ref CN) (some dx) H'
theorem EU{CNoText f:Addr}{fd:FuncData}(F:Fun K "__init__" "NoText.__init__" lf f fd)(T:Txt K mg)(hX:XCls K CNoText)(hN:NoAttr K CNoText "at"):FnOk P w K mg base CX0 1 f fd ["self","at"] (o8 CNoText "at"):=by
 refine F.ok Cj (λvs H Q E h=>?_) (λcdv A outer s H vs Q E hr h=>?_)
 ·obtain⟨e,v,rfl,_⟩:=h;rfl
 ·obtain⟨e,v,rfl,he,k⟩:=h;refine⟨_,(ae (C2 (pv 0) (pv 1) rfl)),?_⟩;exact⟨_,rfl,_,rfl,e,CNoText,rfl,he,hX,hN,λdx h1 h2=>k dx h1 h2⟩
theorem SameB.new{p:Addr}{H:Hp}{dx:Addr}{o:HO}(h:H dx=none):SameB p H (upd H dx o):=λb o' _ e=>by rw[upd_ne (λz=>by rw[z,h]at e;cases e)];exact e
def jR(C CN:Addr):Sp:=λvs H Q E=>∃(p:Addr) (e:Nat×Nat) (us:List Mk) (m:List Nat),vs=[.ref p,.str (stL m)]/\RdA C H p e us/\m≠[]/\(∀u r,us=u::r->u.1=m->∀H',SameB p H H'->RdA C H' p e r->Q .non H')/\(mhd us≠m->XAt CN p E H (mbg e.1 us))
theorem EK{C CNoText f:Addr}{fd:FuncData}(F:Fun K "demand" "Reading.demand" kW f fd)(T:Txt K mg)(R:QC K mg C){cw:Addr}{cv:FuncData}(bV:MCal P w K mg base 2 C "passes" ["self","mark"] (dP C) cw cv){eX:Addr}{eV:FuncData}(fi:MCal P w K mg base 1 C "begin" ["self"] (gH C) eX eV){dI:Addr}{dH:FuncData}(C_NoText:XCal P w K mg base 1 CNoText "NoText" "at" ["self","at"] dI dH):FnOk P w K mg base (CXV P w) 3 f fd ["self","mark"] (jR C CNoText):=by
 obtain⟨cG,cE,cF⟩:=bV;obtain⟨fh,eD,fb⟩:=fi;refine F.okV Cd (λvs H Q E h=>?_) (λcdv A outer s H vs Q E hr h=>?_)
 ·obtain⟨p,e,us,m,rfl,_⟩:=h;rfl
 ·obtain⟨p,e,us,m,rfl,hA,hm,k1,k2⟩:=h;obtain⟨dx,pm,qs,ts,d,h1,h2,h3,h4,h5,h6⟩:=id hA
  refine⟨_,(ae (ar (gK (bS (cM (pv 0) R.cl cE cG (hr.mono) cF .nil am (aa (pv 1) ac))))
   (ae (lu (C:=CNoText) rfl C_NoText.ow PySem.F.excBase_ValueError C_NoText.ok (hr.mono) C_NoText.bd C_NoText.kp (aa (bo (pv 0) R.cl eD fh (hr.mono) fb .nil am) ac)))
   ay)),?_⟩
  refine dA (gJ ⟨_,rfl,p,dx,_,rfl,h1,cg _ _ _ bN.1 bN.2.1 bN.2.2.1 bN.2.2.2,_,rfl,p,e,us,m,rfl,hA,hm,λu r eu em H' sb ra=>⟨_,rfl,aI (k1 u r eu em H' sb ra)⟩,λz=>⟨_,rfl,aJ ?_⟩⟩);exact⟨_,rfl,p,dx,_,rfl,h1,cg _ _ _ cD.1 cD.2.1 cD.2.2.1 cD.2.2.2,p,e,us,rfl,hA,_,rfl,λd hd=>k2 z _ d (SameB.new hd) aj⟩
def rl(C CN:Addr):Sp:=λvs H Q E=>∃(p:Addr) (e:Nat×Nat) (us:List Mk),vs=[.ref p]/\RdA C H p e us/\(us=[]->Q .non H)/\(us≠[]->XAt CN p E H (mbg e.1 us))
theorem EI{C CNoText f:Addr}{fd:FuncData}(F:Fun K "finish" "Reading.finish" kT f fd)(T:Txt K mg)(R:QC K mg C){eX:Addr}{eV:FuncData}(fi:MCal P w K mg base 1 C "begin" ["self"] (gH C) eX eV){dI:Addr}{dH:FuncData}(C_NoText:XCal P w K mg base 1 CNoText "NoText" "at" ["self","at"] dI dH):FnOk P w K mg base (CXV P w) 3 f fd ["self"] (rl C CNoText):=by
 obtain⟨fh,eD,fb⟩:=fi;refine F.okV Cb (λvs H Q E h=>?_) (λcdv A outer s H vs Q E hr h=>?_)
 ·obtain⟨p,e,us,rfl,_⟩:=h;rfl
 ·obtain⟨p,e,us,rfl,hA,k1,k2⟩:=h;obtain⟨dx,pm,qs,ts,d,h1,h2,h3,h4,h5,h6⟩:=id hA;have hql:(qs.map V.ref).length=ts.length:=by rw[Nh,h3.1]
  refine⟨_,(ae (ar (ao cW (aS (K:=K) rfl (pv 0) rfl) (aP (fC (K:=K) rfl) (by rfl) T.len_ PySem.boot_len (aa (aS (K:=K) rfl (pv 0) rfl) ac)) (ap _))
   (ae (lu (C:=CNoText) rfl C_NoText.ow PySem.F.excBase_ValueError C_NoText.ok (hr.mono) C_NoText.bd C_NoText.kp (aa (bo (pv 0) R.cl eD fh (hr.mono) fb .nil am) ac)))
   ay)),?_⟩
  refine dA ⟨_,rfl,p,C,dx,_,_,rfl,h1,R.cl,R.n3,iO _ _ _,_,rfl,p,C,dx,_,_,rfl,h1,R.cl,R.n1,nO _ _ _,pm,_,rfl,.inl (SqL.of h2),_,_,rfl,rfl,_,rfl,aC (λh4'=>?_) (λh4'=>?_)⟩
  ·rw[hql]at h4';have h4'':(d:Int)<(ts.length:Int):=h4';refine⟨_,rfl,p,dx,_,rfl,h1,cg _ _ _ cD.1 cD.2.1 cD.2.2.1 cD.2.2.2,p,e,us,rfl,hA,_,rfl,λd' hd=>k2 (λz=>?_) _ d' (SameB.new hd) aj⟩;rw[z]at h4;have:=ux h4 h5;omega
  ·rw[hql]at h4';have h4'':¬(d:Int)<(ts.length:Int):=h4';refine k1 ?_;rw[<- h4];exact N6 (by omega)
def qT(C:Addr):Sp:=λvs H Q _=>∃(p dx:Addr) (l:List Nat),vs=[.ref p,.str (stL l)]/\H p=some (.ins C dx [])/\Pla l/\∀(H':Hp),SameB p H H'->RdA C H' p (l.length,0) (mks 0 l)->Q .non H'
theorem EM{C f:Addr}{fd:FuncData}(F:Fun K "__init__" "Reading.__init__" kY f fd)(T:Txt K mg)(R:QC K mg C){Jr:Addr}{IK:FuncData}(Mp:Cal P w K mg base 3 "marks_of" ["text"] re Jr IK):FnOk P w K mg base CX0 4 f fd ["self","text"] (qT C):=by
 obtain⟨LH,FY,G1,Kr⟩:=Mp;refine F.ok Cf (λvs H Q E h=>?_) (λcdv A outer s H vs Q E hr h=>?_)
 ·obtain⟨p,dx,l,rfl,_⟩:=h;rfl
 ·obtain⟨p,dx,l,rfl,h1,hl,k⟩:=h;have big:=sizeLine_eq;have hl2:=hl.2
  refine⟨_,(ah (bB (pv 0) (aw LH (hr.mono) rfl FY G1 Kr .nil am (aa (pv 1) ac)) rfl)
   (ah (bB (pv 0) (aP dL (by rfl) T.len_ PySem.boot_len (aa (pv 1) ac)) rfl)
   (ah (bB (pv 0) af rfl)
   (ae (bB (pv 0) af rfl))))),?_⟩
  refine⟨_,rfl,l,rfl,hl,λpm H1 qs s1 hpm e1 hM=>?_⟩;have hp1:=s1 _ _ h1;have np:pm≠p:=λz=>by rw[z,h1]at hpm;cases hpm
  refine⟨_,rfl,p,C,dx,_,rfl,hp1,R.cl,R.n1,by show 0<1000;decide,?_⟩;refine⟨_,rfl,_,rfl,by rw[ak];omega,_,rfl,p,C,dx,_,rfl,aj,R.cl,R.n2,by show 1<1000;decide,?_⟩;rw[dw];refine⟨_,rfl,p,C,dx,_,rfl,aj,R.cl,R.n3,mQ (n:=999) (mQ (n:=998) (by show 0<998;decide)),?_⟩;rw[dw];refine⟨_,rfl,p,C,dx,_,rfl,aj,R.cl,R.n4,mQ (n:=999) (mQ (n:=998) (mQ (n:=997) (by show 0<997;decide))),?_⟩;rw[dw];refine k _ (λb o hb eo=>by rw[upd_ne hb];exact s1 _ _ eo) ⟨dx,pm,qs,_,0,?_,by rw[upd_ne np];exact e1,hM.upd_ins hp1,rfl,Nr _,λu hu=>?_⟩
  ·rw[aj,ak];rfl
  ·obtain⟨g1,g2,g3⟩:=FE u hu;exact⟨g1,by omega,λc hc=>hl.1 c (g3 c hc)⟩
theorem SameB.trans{p:Addr}{H H1 H2:Hp}(a:SameB p H H1)(b:SameB p H1 H2):SameB p H H2:=λx o hx e=>b x o hx (a x o hx e)
theorem _root_.L2.Same.toB{p:Addr}{H H1:Hp}(a:Same H H1):SameB p H H1:=λx o _ e=>a x o e
theorem SameB.free{p b:Addr}{H H1:Hp}(a:SameB p H H1)(hp:H p≠none)(hb:H1 b=none)(hp1:H1 p≠none):H b=none:=by
 cases e:H b with
 |none=>rfl
 |some o =>
  by_cases z:b=p
  ·subst z;exact absurd hb hp1
  ·rw[a b o z e]at hb;cases hb
theorem RdA.isS{C:Addr}{H:Hp}{p:Addr}{e:Nat×Nat}{us:List Mk}(h:RdA C H p e us):H p≠none:=by obtain⟨dx,pm,qs,ts,d,h1,_⟩:=h;rw[h1];simp
theorem RdA.lst_ne{C:Addr}{H:Hp}{p a:Addr}{e:Nat×Nat}{us:List Mk}{xs:List V}(h:RdA C H p e us)(ha:H a=some (.lst xs)):a≠p:=λz=>by obtain⟨dx,pm,qs,ts,d,h1,_⟩:=h;rw[z,h1]at ha;cases ha
theorem RdA.ins{C:Addr}{H:Hp}{p:Addr}{e:Nat×Nat}{us:List Mk}(h:RdA C H p e us):∃(dx pm:Addr) (d:Int),H p=some (.ins C dx (fdl pm e d)):=by obtain⟨dx,pm,qs,ts,d,h1,_⟩:=h;exact⟨dx,pm,d,h1⟩
theorem XAt.step{CN p:Addr}{E:XK}{H H1:Hp}{n:Nat}(h:XAt CN p E H n)(s:SameB p H H1):XAt CN p E H1 n:=λH' dx s' e=>h H' dx (s.trans s') e
def pi:Sp:=λvs H Q _=>∃(l:List Nat) (z:Str) (p:Nat->Bool),vs=[.str (stL l),.str z]/\(∀c∈l,c<128)/\l.length<=1000/\SgP z p/\(l=[]->Q (.bl false) H)/\(l≠[]->∀H',Same H H'->Q (.bl (l.all p)) H')
theorem D3{f:Addr}{fd:FuncData}(F:Fun K "made_of" "made_of" kh f fd)(T:Txt K mg):FnOk P w K mg base CX0 1 f fd ["word","signs"] pi:=by
 refine F.ok BO (λvs H Q E h=>?_) (λcdv A outer s H vs Q E hr h=>?_)
 ·obtain⟨l,z,p,rfl,_⟩:=h;rfl
 ·obtain⟨l,z,p,rfl,ha,hl,hz,k1,k2⟩:=h;have big:=sizeLine_eq;refine⟨_,(ae (ai (cu (bf lB (pv 0) ad (ap _)) (bT (aP (Kk (K:=K) rfl rfl) (by rfl) T.all_ PyProof.Rows.boot_all (aa (wO (own:=["sign"]) (fr:=["signs"]) (js:=[1]) (by walk_at "comp_ok") rfl (Dl (pv 0)) (λ_ _ _ _=>(ix (i:=0) (show List.Nodup (["sign","signs"]:List Str)from by decide +kernel) rfl (Or.inl rfl))) (λ_ _ _ _=>(bf gO (pv 0) (pv 1) (by rfl)))) ac)))))),?_⟩;refine au (cq ⟨_,rfl,rfl,_,rfl,lm (λh0=>?_) (λh0=>?_)⟩)
  rotate_left
  ·have h0':l=[]:=by have:stL l=Str.ofString "":=V.str.inj h0;rw[iH]at this;exact stL_inj.mp this
   exact k1 h0'
  have h0':l≠[]:=λe=>h0 (by rw[e,<- iH])
  have hasc:(stL l).cps.all (·<128)=true:=by rw[show(stL l).cps.all (·<128)=l.all (·<128) by unfold stL;simp,ND];intro c hc;exact decide_eq_true (ha c hc)
  refine⟨_,rfl,_,rfl,hasc,J3 (λi ys σ' H'=>∃z0:Option V,σ'=[z0,some (.str z)]/\ys=((l.take i).map p).map V.bl/\H=H') (by rw[vL];omega) ⟨none,rfl,rfl,rfl⟩ ?_ ?_ ?_⟩
  ·rintro i ys σ' H' _ ⟨z0,rfl,rfl,rfl⟩;rw[Nh,Nh,N9];exact Nat.min_le_left _ _
  ·rintro i c ys σ' H' hc ⟨z0,rfl,rfl,rfl⟩;have hc':l[i]?=some c:=by unfold stL at hc;simpa using hc
   refine⟨_,rfl,_,rfl,_,_,rfl,rfl,_,rfl,?_,rfl⟩;rw[StrLaws.found_one,hz,List.take_add_one,hc'];simp
  ·rintro ys σ' H' q ⟨z0,rfl,rfl,rfl⟩ hq;rw[vL,List.take_length];refine⟨q,l.map p,rfl,SqL.of aj,?_⟩;have:=k2 h0' _ (Same.upd_new (o:=.lst ((l.map p).map V.bl)) hq);rw[show(l.map p).all id=l.all p by rw[List.all_map];rfl];exact this
def ir:Sp:=λvs H Q _=>∃l:List Nat,vs=[.str (stL l)]/\(∀c∈l,c<128)/\l.length<=1000/\∀H',Same H H'->Q (.bl (isN l)) H'
theorem D5{f:Addr}{fd:FuncData}(F:Fun K "is_whole" "is_whole" ki f fd)(T:Txt K mg){t7:Addr}{tN:FuncData}(vf:Cal P w K mg base 1 "made_of" ["word","signs"] pi t7 tN):FnOk P w K mg base CX0 2 f fd ["word"] ir:=by
 obtain⟨uX,sJ,tj,uI⟩:=vf;obtain⟨tF,hFIGURES⟩:=T.FIGURES_;refine F.ok BP (λvs H Q E h=>?_) (λcdv A outer s H vs Q E hr h=>?_)
 ·obtain⟨l,rfl,_⟩:=h;rfl
 ·obtain⟨l,rfl,ha,hl,k⟩:=h;have big:=sizeLine_eq;refine⟨_,(ae (ai (cu (aw uX (hr.mono) rfl sJ tj uI .nil am (aa (pv 0) (aa (bU (v:=.str "0123456789") rfl hFIGURES ⟨_,rfl⟩) ac))) (bT (gM (bf aK (pv 0) ad (ap _)) (bT (bf lB (aA bJ (pv 0) af (λ_ _=>rfl)) ad (ap _)))))))),?_⟩;refine au (cq ⟨_,rfl,l,_,isD,rfl,ha,hl,y7,λz=>⟨_,rfl,aI ?_⟩,λhn H1 s1=>⟨_,rfl,?_⟩⟩)
  ·subst z;exact k H (Same.refl _)
  have hk:=k H1 s1;cases h0:l.all isD with
  |false =>refine aI ?_;rw[show isN l=false by unfold isN;rw[h0];simp]at hk;exact hk
  |true =>
   refine aJ (gI ⟨_,rfl,rfl,_,rfl,aC (λh1=>?_) (λh1=>?_)⟩)
   ·have h1':l=[48]:=by have:stL l=Str.ofString "0":=V.str.inj h1;rw[eJ]at this;exact stL_inj.mp this
    rw[h1',show isN [48]=true by decide]at hk;exact hk
   ·have h1':l≠[48]:=λz=>h1 (by rw[z,<- eJ])
    obtain⟨c,r,rfl⟩:=Nz hn;refine⟨_,rfl,_,_,c,rfl,rfl,by rw[ak];omega,fc (i:=0) rfl rfl,rfl,?_⟩
    have hN:isN (c::r)=decide (c≠48):=by unfold isN;rw[h0,decide_eq_true hn,decide_eq_false h1'];simp
    have hne:(V.str ⟨#[c]⟩=V.str (Str.ofString "0"))↔c=48:=by
     rw[eJ];constructor
     ·intro z;have z2:([c]:List Nat)=[48]:=congrArg (λs:Str=>s.cps.toList) (V.str.inj z);exact Ol z2
     ·intro z;rw[z];rfl
    rw[hN]at hk;by_cases hc:c=48
    ·rw[decide_eq_true (hne.mpr hc)];rw[decide_eq_false (not_not_intro hc)]at hk;exact hk
    ·rw[decide_eq_false (λz=>hc (hne.mp z))];rw[decide_eq_true hc]at hk;exact hk
theorem cx(a b:List Nat):eqV (.str (stL a)) (.str (stL b))=decide (a=b):=by
 rw[NB,decide_eq_true_eq];constructor
 ·intro h;have:(stL a == stL b)=true:=h;exact stL_inj.mp (beq_iff_eq.mp this)
 ·intro h;rw[h];show(stL b == stL b)=true;exact beq_self_eq_true _
theorem HG(m:List Nat):inV (.str (stL m)) [.str (Str.ofString "0"),.str (Str.ofString "1"),.str (Str.ofString "2"),.str (Str.ofString "3"),.str (Str.ofString "4"),.str (Str.ofString "5"),.str (Str.ofString "6"),.str (Str.ofString "7"),.str (Str.ofString "8")]=isE m:=by
 have e:([.str (Str.ofString "0"),.str (Str.ofString "1"),.str (Str.ofString "2"),.str (Str.ofString "3"),.str (Str.ofString "4"),.str (Str.ofString "5"),.str (Str.ofString "6"),.str (Str.ofString "7"),.str (Str.ofString "8")]:List V)=[.str (stL [48]),.str (stL [49]),.str (stL [50]),.str (stL [51]),.str (stL [52]),.str (stL [53]),.str (stL [54]),.str (stL [55]),.str (stL [56])]:=by congr 1
 rw[e];show(eqV (.str (stL [48])) (.str (stL m)) || (eqV (.str (stL [49])) (.str (stL m)) || (eqV (.str (stL [50])) (.str (stL m)) || (eqV (.str (stL [51])) (.str (stL m)) || (eqV (.str (stL [52])) (.str (stL m)) || (eqV (.str (stL [53])) (.str (stL m)) || (eqV (.str (stL [54])) (.str (stL m)) || (eqV (.str (stL [55])) (.str (stL m)) || (eqV (.str (stL [56])) (.str (stL m)) ||false)))))))))=_;rw[cx,cx,cx,cx,cx,cx,cx,cx,cx,NB];unfold isE
 match m with
 | []=>simp
 | [c] =>simp only[NJ,decide_eq_true_eq,Np,List.cons.injEq,and_true,Oi,List.all_cons,List.all_nil,Bool.and_true,Bool.or_false,true_and];omega
 |a::b::m=>simp
theorem tG:∀m:List Nat,inV (.str (stL m)) [.str (Str.ofString "+"),.str (Str.ofString "-")]=(decide (m=[43]) ||decide (m=[45])):=λm=>by
 rw[lL,gt];show(eqV (.str (stL [43])) (.str (stL m)) || (eqV (.str (stL [45])) (.str (stL m)) ||false))=_;rw[cx,cx,Bool.or_false];have h1:decide ([43]=m)=decide (m=[43]):=by rw[decide_eq_decide];exact eq_comm
 have h2:decide ([45]=m)=decide (m=[45]):=by rw[decide_eq_decide];exact eq_comm
 rw[h1,h2]
def jP(C CN:Addr):Sp:=λvs H Q E=>∃(p:Addr) (e:Nat×Nat) (us:List Mk),vs=[.ref p]/\RdA C H p e us/\(∀u r,us=u::r->isE u.1=true->∀H',SameB p H H'->RdA C H' p e r->Q (.int (NumText.digitsVal u.1:Nat)) H')/\(isE (mhd us)=false->XAt CN p E H (mbg e.1 us))
theorem DU{C CNoText f:Addr}{fd:FuncData}(F:Fun K "read_exponent" "read_exponent" j8 f fd)(T:Txt K mg)(R:QC K mg C){bP:Addr}{bO:FuncData}(bL:MCal P w K mg base 1 C "seen" ["self"] (dc C) bP bO){cK:Addr}{cJ:FuncData}(cy:MCal P w K mg base 2 C "step" ["self"] (eC C) cK cJ){eX:Addr}{eV:FuncData}(fi:MCal P w K mg base 1 C "begin" ["self"] (gH C) eX eV){dI:Addr}{dH:FuncData}(C_NoText:XCal P w K mg base 1 CNoText "NoText" "at" ["self","at"] dI dH):FnOk P w K mg base (CXV P w) 3 f fd ["reading"] (jP C CNoText):=by
 obtain⟨ck,cc,cj⟩:=bL;obtain⟨du,dm,dn⟩:=cy;obtain⟨fh,eD,fb⟩:=fi;obtain⟨aEXPONENTS,hEXPONENTS,sEXP⟩:=T.EXPONENTS_;refine F.okV BM (λvs H Q E h=>?_) (λcdv A outer s H vs Q E hr h=>?_)
 ·obtain⟨p,e,us,rfl,_⟩:=h;rfl
 ·obtain⟨p,e,us,rfl,hA,k1,k2⟩:=h;obtain⟨dx,pm,d,h1⟩:=hA.ins
  refine⟨_,(ah (ar (ao (w8 (K:=K) rfl) (bo (pv 0) R.cl cc ck (hr.mono) cj .nil am) (bU (v:=.ref aEXPONENTS) rfl hEXPONENTS rfl) (by rfl))
   (ae (lu (C:=CNoText) rfl C_NoText.ow PySem.F.excBase_ValueError C_NoText.ok (hr.mono) C_NoText.bd C_NoText.kp (aa (bo (pv 0) R.cl eD fh (hr.mono) fb .nil am) ac)))
   ay)
   (ae (ai (bn lV (by rfl) T.int_ PyProof.Rows.boot_int (aa (bo (pv 0) R.cl dm du (hr.mono) dn .nil am) ac))))),?_⟩
  refine aD ⟨_,rfl,p,dx,_,rfl,h1,cg _ _ _ bI.1 bI.2.1 bI.2.2.1 bI.2.2.2,p,e,us,rfl,hA,aEXPONENTS,_,rfl,.inr (sEXP _),rfl,by decide,_,rfl,?_⟩;rw[HG];cases hE:isE (mhd us)with
  |false =>refine aJ ?_;exact⟨_,rfl,p,dx,_,rfl,h1,cg _ _ _ cD.1 cD.2.1 cD.2.2.1 cD.2.2.2,p,e,us,rfl,hA,_,rfl,λd hd=>k2 hE _ d (SameB.new hd) aj⟩
  |true =>
   refine aI ?_;cases us with
   |nil=>exact absurd hE (by decide)
   |cons u r =>have hu:=hA.is u (by simp);refine⟨_,rfl,p,dx,_,rfl,h1,cg _ _ _ cI.1 cI.2.1 cI.2.2.1 cI.2.2.2,p,e,u,r,rfl,hA,λH' sb ra=>?_⟩;have hD:=Hx (m:=u.1) hE;exact⟨_,(NumText.digitsVal u.1:Nat),rfl,by rw[ak];omega,oB hD.2 hD.1 (by omega),k1 u r rfl hE H' sb ra⟩
def qX(C CN:Addr):Sp:=λvs H Q E=>∃(p:Addr) (e:Nat×Nat) (us:List Mk),vs=[.ref p]/\RdA C H p e us/\(∀k r,aQ us=.inr (k,r)->∀H',SameB p H H'->RdA C H' p e r->Q (.int (k:Nat)) H')/\(∀r,aQ us=.inl r->XAt CN p E H (mbg e.1 r))
theorem DQ{C CNoText f:Addr}{fd:FuncData}(F:Fun K "read_place" "read_place" j5 f fd)(T:Txt K mg)(R:QC K mg C){jm:Addr}{iY:FuncData}(jI:MCalV P w K mg base 3 C "demand" ["self","mark"] (jR C CNoText) jm iY){cw:Addr}{cv:FuncData}(bV:MCal P w K mg base 2 C "passes" ["self","mark"] (dP C) cw cv){jd:Addr}{iP:FuncData}(jF:CalV P w K mg base 3 "read_exponent" ["reading"] (jP C CNoText) jd iP):FnOk P w K mg base (CXV P w) 4 f fd ["reading"] (qX C CNoText):=by
 obtain⟨ib,gR,hU⟩:=jI;obtain⟨cG,cE,cF⟩:=bV;obtain⟨uU,sF,sY,uF⟩:=jF;refine F.okV BK (λvs H Q E h=>?_) (λcdv A outer s H vs Q E hr h=>?_)
 ·obtain⟨p,e,us,rfl,_⟩:=h;rfl
 ·obtain⟨p,e,us,rfl,hA,k1,k2⟩:=h;obtain⟨dx,pm,d,h1⟩:=hA.ins
  refine⟨_,(ah (cH (cM (pv 0) R.cl gR ib (hr.mono) hU .nil (bh (λ_ _ _ z=>z)) (aa ad ac)))
   (ah (ar (bS (cM (pv 0) R.cl cE cG (hr.mono) cF .nil am (aa ad ac)))
     (ae (ai (aw uU (hr.mono) rfl sF sY uF .nil (bh (λ_ _ _ z=>z)) (aa (pv 0) ac))))
     ay)
   (ae (ai af)))),?_⟩
  refine df ⟨_,rfl,p,dx,_,rfl,h1,cg _ _ _ dk.1 dk.2.1 dk.2.2.1 dk.2.2.2,p,e,us,[120],by rw[<- lK];rfl,hA,by decide,λu r eu em H1 sb1 ra1=>?_,λz=>?_⟩
  rotate_left
  ·refine k2 us ?_;cases us with
   |nil=>rfl
   |cons u r=>simp[aQ,show ¬u.1=[120]from z]
  subst eu;obtain⟨dx1,pm1,d1,h11⟩:=ra1.ins;refine aD ⟨_,rfl,p,dx1,_,rfl,h11,cg _ _ _ bN.1 bN.2.1 bN.2.2.1 bN.2.2.2,p,e,r,[94],by rw[<- iI];rfl,ra1,by decide,λv r2 ev em2 H2 sb2 ra2=>⟨_,rfl,aJ ?_⟩,λz=>⟨_,rfl,aI ?_⟩⟩
  ·subst ev;have sb:=sb1.trans sb2;refine⟨_,rfl,p,e,r2,rfl,ra2,λw r3 ew hE H3 sb3 ra3=>?_,λhE=>?_⟩
   ·subst ew;exact k1 (NumText.digitsVal w.1) r3 (by simp[aQ,em,em2,hE]) H3 (sb.trans sb3) ra3
   ·refine XAt.step (k2 r2 ?_) sb;cases r2 with
    |nil=>simp[aQ,em,em2]
    |cons w r3=>simp[aQ,em,em2,show isE w.1=false from hE]
  ·refine k1 1 r ?_ H1 sb1 ra1;cases r with
   |nil=>simp[aQ,em]
   |cons v r2=>simp[aQ,em,show ¬v.1=[94]from z]
theorem gm{n:Nat}(h:n<2^1000):Bits 1000 (n:Int):=by show((n:Int)).natAbs<2^1000;rw[NW];exact h
noncomputable def mono(k:Nat)(v:Int):List Int:=trim (List.replicate k 0++[v])
theorem uy(k:Nat)(v:Int)(n:Nat):cf (mono k v) n=if n=k then v else 0:=by
 unfold mono;rw[oE];by_cases h:n<k
 ·rw[zt (by rw[Nw];exact h),J9,if_neg (by omega)]
 ·rw[uA (by rw[Nw];omega),Nw];by_cases h2:n=k
  ·rw[if_pos h2,h2,Nat.sub_self];rfl
  ·rw[if_neg h2];exact eY (by show 1<=n-k;omega)
theorem pM{k:Nat}(hk:k<=8)(v:Int):(mono k v).length<=9:=by have:=yi (List.replicate k 0++[v]);rw[Nf,Nw]at this;have e1:([v]:List Int).length=1:=rfl;unfold mono;omega
def qP(C CN:Addr):Sp:=λvs H Q E=>∃(p:Addr) (e:Nat×Nat) (us:List Mk) (sign:Int),vs=[.ref p,.int sign]/\RdA C H p e us/\(sign=1\/sign = -1)/\(∀n k r,aY us=.inr (n,k,r)->∀(q:Addr) (H':Hp),SameB p H H'->RdA C H' p e r->H q=none->H' q=some (.lst ((mono k (sign*(n:Nat))).map V.int))->Q (.ref q) H')/\(∀r,aY us=.inl r->XAt CN p E H (mbg e.1 r))
theorem DM{C CNoText f:Addr}{fd:FuncData}(F:Fun K "read_term" "read_term" j4 f fd)(T:Txt K mg)(R:QC K mg C){gB:Addr}{gz:FuncData}(gE:Cal P w K mg base 2 "is_whole" ["word"] ir gB gz){bP:Addr}{bO:FuncData}(bL:MCal P w K mg base 1 C "seen" ["self"] (dc C) bP bO){cK:Addr}{cJ:FuncData}(cy:MCal P w K mg base 2 C "step" ["self"] (eC C) cK cJ){cw:Addr}{cv:FuncData}(bV:MCal P w K mg base 2 C "passes" ["self","mark"] (dP C) cw cv){Jp:Addr}{II:FuncData}(Mn:CalV P w K mg base 4 "read_place" ["reading"] (qX C CNoText) Jp II){t6:Addr}{tM:FuncData}(vc:Cal P w K mg base 1 "poly" ["row"] (o9 K) t6 tM):FnOk P w K mg base (CXV P w) 5 f fd ["reading","sign"] (qP C CNoText):=by
 obtain⟨oQ,mY,nC,oJ⟩:=gE;obtain⟨ck,cc,cj⟩:=bL;obtain⟨du,dm,dn⟩:=cy;obtain⟨cG,cE,cF⟩:=bV;obtain⟨Ah,xV,yr,zM⟩:=Mn;obtain⟨oP,mX,nA,oH⟩:=vc;refine F.okV sc_read_term (λvs H Q E h=>?_) (λcdv A outer s H vs Q E hr h=>?_)
 ·obtain⟨p,e,us,sign,rfl,_⟩:=h;rfl
 ·obtain⟨p,e,us,sign,rfl,hA,hsg,k1,k2⟩:=h;have big:=sizeLine_eq;obtain⟨dx,pm,d,h1⟩:=hA.ins
  refine⟨_,(ah (ar (gK (bS (aw oQ (hr.mono) rfl mY nC oJ .nil am (aa (bo (pv 0) R.cl cc ck (hr.mono) cj .nil am) ac))))
   (ae (ai (aw oP (hr.mono) rfl mX nA oH .nil am (aa (aq rS (aq w5 (aO (aa af ac)) (aw Ah (hr.mono) rfl xV yr zM .nil (bh (λ_ _ _ z=>z)) (aa (pv 0) ac))) (aO (aa (pv 1) ac))) ac))))
   ay)
   (ah (aF (i:=2) sc_read_term.nd rfl (Or.inl rfl) (aq pG (pv 1) (bn lV (by rfl) T.int_ PyProof.Rows.boot_int (aa (bo (pv 0) R.cl dm du (hr.mono) dn .nil am) ac))))
   (ah (ar (bS (cM (pv 0) R.cl cE cG (hr.mono) cF .nil am (aa ad ac)))
     (ae (ai (aw oP (hr.mono) rfl mX nA oH .nil am (aa (aq rS (aq w5 (aO (aa af ac)) (aw Ah (hr.mono) rfl xV yr zM .nil (bh (λ_ _ _ z=>z)) (aa (pv 0) ac))) (aO (aa (pv 2) ac))) ac))))
     ay)
   (ae (ai (aw oP (hr.mono) rfl mX nA oH .nil am (aa (aO (aa (pv 2) ac)) ac))))))),?_⟩
  have hm:(∀c∈mhd us,c<128)/\(mhd us).length<=1000:=by
   cases us with
   |nil=>exact⟨λc hc=>(nomatch hc),Nr _⟩
   |cons u r =>have hu:=hA.is u (by simp);exact⟨hu.2.2,by show u.1.length<=1000;omega⟩
  refine aD (gJ ⟨_,rfl,p,dx,_,rfl,h1,cg _ _ _ bI.1 bI.2.1 bI.2.2.1 bI.2.2.2,p,e,us,rfl,hA,mhd us,rfl,hm.1,hm.2,λH1 s1=>⟨_,rfl,?_⟩⟩);have hA1:=hA.same s1;cases hN:isN (mhd us)with
  |false =>
   refine aJ ?_
   have tl:∀r,aQ us=.inl r->aY us=.inl r:=λr h=>by
    cases us with
    |nil=>exact(by cases h;rfl)
    |cons u us =>show(if isN u.1=true then _ else _)=_;rw[if_neg (by rw[show isN u.1=false from hN];decide),h]
   have tr:∀k r,aQ us=.inr (k,r)->aY us=.inr (1,k,r):=λk r h=>by
    cases us with
    |nil=>cases h
    |cons u us =>show(if isN u.1=true then _ else _)=_;rw[if_neg (by rw[show isN u.1=false from hN];decide),h]
   refine au ⟨by show 1<=sizeLine;decide,λp2 hp2=>?_⟩;have u2:=Same.upd_new (o:=.lst [V.int 0]) hp2;have ep2:upd H1 p2 (.lst [V.int 0]) p2=some (.lst [V.int 0]):=aj;generalize upd H1 p2 (.lst [V.int 0])=H2 at u2 ep2 ⊢
   have hA2:=hA1.same u2;refine⟨_,rfl,p,e,us,rfl,hA2,λk r hP H3 sb3 ra3=>?_,λr hP=>(k2 r (tl r hP)).step (s1.trans u2).toB⟩;have hk8:=wW hP;have ep3:=sb3 _ _ (hA2.lst_ne ep2) ep2;refine⟨p2,(k:Int),_,rfl,rfl,ep3,by omega,by omega,by rw[Oa];show 1*k<=sizeLine;omega,λp4 hp4=>?_⟩;rw[Oa,v9];have u4:=Same.upd_new (o:=.lst ((List.replicate k (0:Int)).map V.int)) hp4;have ep4:upd H3 p4 (.lst ((List.replicate k (0:Int)).map V.int)) p4=some (.lst ((List.replicate k (0:Int)).map V.int)):=aj;generalize upd H3 p4 (.lst ((List.replicate k (0:Int)).map V.int))=H4 at u4 ep4 ⊢
   refine⟨_,rfl,by show 1<=sizeLine;decide,λp5 hp5=>?_⟩;have u5:=Same.upd_new (o:=.lst [V.int sign]) hp5;have ep5:upd H4 p5 (.lst [V.int sign]) p5=some (.lst [V.int sign]):=aj;generalize upd H4 p5 (.lst [V.int sign])=H5 at u5 ep5 ⊢
   refine⟨p4,p5,_,_,rfl,rfl,u5 _ _ ep4,ep5,by rw[Nh,Nw];show k+1<=sizeLine;omega,λp6 hp6=>?_⟩;rw[show(List.replicate k (0:Int)).map V.int++[V.int sign]=(List.replicate k 0++[sign]).map V.int by rw[NI];rfl];have u6:=Same.upd_new (o:=.lst ((List.replicate k 0++[sign]).map V.int)) hp6;refine⟨p6,_,rfl,SqL.of aj,λq H7 s7 hq eq=>?_⟩;have sAll:Same H3 H7:=((u4.trans u5).trans u6).trans s7;have sB:SameB p H H7:=((s1.trans u2).toB.trans sb3).trans sAll.toB;refine k1 1 k r (tr k r hP) q H7 sB (ra3.same sAll) ?_ ?_
   ·have f3:H3 q=none:=((u4.trans u5).trans u6).free hq;exact(s1.trans u2).free (sb3.free hA2.isS f3 ra3.isS)
   ·rw[eq];show _=some (HO.lst ((trim (List.replicate k 0++[sign*((1:Nat):Int)])).map V.int));rw[show sign*((1:Nat):Int)=sign by omega]
  |true =>
   refine aI ?_;cases us with
   |nil=>exact absurd hN (by decide)
   |cons u us =>
   have hN':isN u.1=true:=hN;have hu:=hA.is u (by simp);have hD:=lQ hN';obtain⟨dx1,pm1,d1,h11⟩:=hA1.ins;refine aN ⟨_,rfl,_,rfl,p,dx1,_,rfl,h11,cg _ _ _ cI.1 cI.2.1 cI.2.2.1 cI.2.2.2,p,e,u,us,rfl,hA1,λH2 sb2 ra2=>?_⟩;have bsz:Bits 1000 ((NumText.digitsVal u.1:Nat):Int):=gm (dv_bits hD hu.2.1)
   have bsg:Bits 2 sign:=by show sign.natAbs<2^2;rcases hsg with rfl |rfl<;>decide
   refine⟨_,((NumText.digitsVal u.1:Nat):Int),rfl,by rw[ak];omega,oB hD hu.1 (by omega),_,_,rfl,rfl,⟨bsg.mono,bsz.mono⟩,?_⟩;obtain⟨dx2,pm2,d2,h12⟩:=ra2.ins;have hb:SameB p H H2:=s1.toB.trans sb2;generalize hn:NumText.digitsVal u.1=n;refine aD ⟨_,rfl,p,dx2,_,rfl,h12,cg _ _ _ bN.1 bN.2.1 bN.2.2.1 bN.2.2.2,p,e,us,[42],by rw[<- dF];rfl,ra2,by decide,λv r2 ev em H3 sb3 ra3=>⟨_,rfl,aJ ?_⟩,λz=>⟨_,rfl,aI ?_⟩⟩
   ·subst ev;have eTl:∀r,aQ r2=.inl r->aY (u::v::r2)=.inl r:=λr h=>by simp only[aY,hN',em,if_true,h]
    have eTr:∀k r,aQ r2=.inr (k,r)->aY (u::v::r2)=.inr (n,k,r):=λk r h=>by simp only[aY,hN',em,if_true,h,hn]
    refine au ⟨by show 1<=sizeLine;decide,λp2 hp2=>?_⟩;have u2:=Same.upd_new (o:=.lst [V.int 0]) hp2;have ep2:upd H3 p2 (.lst [V.int 0]) p2=some (.lst [V.int 0]):=aj;generalize upd H3 p2 (.lst [V.int 0])=H4 at u2 ep2 ⊢
    have hA4:=ra3.same u2;have hb4:SameB p H H4:=(hb.trans sb3).trans u2.toB;refine⟨_,rfl,p,e,r2,rfl,hA4,λk r hP H5 sb5 ra5=>?_,λr hP=>(k2 r (eTl r hP)).step hb4⟩;have hk8:=wW hP;have ep3:=sb5 _ _ (hA4.lst_ne ep2) ep2;refine⟨p2,(k:Int),_,rfl,rfl,ep3,by omega,by omega,by rw[Oa];show 1*k<=sizeLine;omega,λp4 hp4=>?_⟩;rw[Oa,v9];have u4:=Same.upd_new (o:=.lst ((List.replicate k (0:Int)).map V.int)) hp4;have ep4:upd H5 p4 (.lst ((List.replicate k (0:Int)).map V.int)) p4=some (.lst ((List.replicate k (0:Int)).map V.int)):=aj;generalize upd H5 p4 (.lst ((List.replicate k (0:Int)).map V.int))=H6 at u4 ep4 ⊢
    refine⟨_,rfl,by show 1<=sizeLine;decide,λp5 hp5=>?_⟩;have u5:=Same.upd_new (o:=.lst [V.int (sign*n)]) hp5;have ep5:upd H6 p5 (.lst [V.int (sign*n)]) p5=some (.lst [V.int (sign*n)]):=aj;generalize upd H6 p5 (.lst [V.int (sign*n)])=H7 at u5 ep5 ⊢
    refine⟨p4,p5,_,_,rfl,rfl,u5 _ _ ep4,ep5,by rw[Nh,Nw];show k+1<=sizeLine;omega,λp6 hp6=>?_⟩;rw[show(List.replicate k (0:Int)).map V.int++[V.int (sign*n)]=(List.replicate k 0++[sign*(n:Int)]).map V.int by rw[NI];rfl];have u6:=Same.upd_new (o:=.lst ((List.replicate k 0++[sign*(n:Int)]).map V.int)) hp6;refine⟨p6,_,rfl,SqL.of aj,λq H9 s9 hq eq=>?_⟩;have sAll:Same H5 H9:=((u4.trans u5).trans u6).trans s9;refine k1 n k r (eTr k r hP) q H9 (hb4.trans (sb5.trans sAll.toB)) (ra5.same sAll) ?_ eq;have f5:H5 q=none:=((u4.trans u5).trans u6).free hq;exact hb4.free hA.isS (sb5.free hA4.isS f5 ra5.isS) hA4.isS
   ·have eT:aY (u::us)=.inr (n,0,us):=by
     cases us with
     |nil=>simp[aY,hN',hn]
     |cons v r2=>simp[aY,hN',hn,show ¬v.1=[42]from z]
    refine au ⟨_,rfl,by show 1<=sizeLine;decide,λp5 hp5=>?_⟩;have u5:=Same.upd_new (o:=.lst [V.int (sign*n)]) hp5;refine⟨p5,[sign*(n:Int)],rfl,SqL.of aj,λq H7 s7 hq eq=>?_⟩;have sAll:=u5.trans s7;refine k1 n 0 us eT q H7 (hb.trans sAll.toB) (ra2.same sAll) (hb.free hA.isS (u5.free hq) ra2.isS) ?_;rw[eq];rfl
theorem GL{row:List Int}(ht:Tr row)(h:∀k,9<=k->cf row k=0):row.length<=9:=by
 refine Classical.byContradiction λz=>?_
 exact ht (row.length-1) (by omega) (h _ (by omega))
def TmI(C p:Addr)(e:Nat×Nat)(us0:List Mk)(H:Hp)(m:Nat)(σ':St)(H':Hp):Prop:=∃(q:Addr) (row:List Int) (us:List Mk) (c:Cfg),m=us.length/\σ'=[some (.ref p),some (.ref q)]/\SameB p H H'/\RdA C H' p e us/\H q=none/\H' q=some (.lst (row.map V.int))/\Tr row/\row.length<=9/\(∀n,cf row n=c.fin n)/\Lf2 c.st us/\mgo cfg0 us0=mgo c us
def qO(C CN:Addr):Sp:=λvs H Q E=>∃(p:Addr) (e:Nat×Nat) (us:List Mk),vs=[.ref p]/\RdA C H p e us/\(∀c r,mgo cfg0 us=(c,r)->c.st.opn=false->∀(q:Addr) (H':Hp) (row:List Int),SameB p H H'->RdA C H' p e r->H q=none->H' q=some (.lst (row.map V.int))->Tr row->row.length<=9->(∀n,cf row n=c.fin n)->Q (.ref q) H')/\(∀c r,mgo cfg0 us=(c,r)->c.st.opn=true->XAt CN p E H (mbg e.1 r))
theorem DL{C CNoText f:Addr}{fd:FuncData}(F:Fun K "read_terms" "read_terms" j3 f fd)(T:Txt K mg)(R:QC K mg C){Jo:Addr}{IH:FuncData}(Mm:CalV P w K mg base 5 "read_term" ["reading","sign"] (qP C CNoText) Jo IH){cw:Addr}{cv:FuncData}(bV:MCal P w K mg base 2 C "passes" ["self","mark"] (dP C) cw cv){bP:Addr}{bO:FuncData}(bL:MCal P w K mg base 1 C "seen" ["self"] (dc C) bP bO){Jv:Addr}{IP:FuncData}(Mt:Cal P w K mg base 2 "added" ["first","second"] (rs K fD) Jv IP){cK:Addr}{cJ:FuncData}(cy:MCal P w K mg base 2 C "step" ["self"] (eC C) cK cJ):FnOk P w K mg base (CXV P w) 6 f fd ["reading"] (qO C CNoText):=by
 obtain⟨Af,xS,yp,zK⟩:=Mm;obtain⟨cG,cE,cF⟩:=bV;obtain⟨ck,cc,cj⟩:=bL;obtain⟨LM,Gb,G5,Kv⟩:=Mt;obtain⟨du,dm,dn⟩:=cy;refine F.okV sc_read_terms (λvs H Q E h=>?_) (λcdv A outer s H vs Q E hr h=>?_)
 ·obtain⟨p,e,us,rfl,_⟩:=h;rfl
 ·obtain⟨p,e,us0,rfl,hA,k1,k2⟩:=h;have big:=sizeLine_eq;obtain⟨dx,pm,d,h1⟩:=hA.ins
  have hbad:∀(c:Cfg) (us r:List Mk),mgo cfg0 us0=mgo c us->Bad (mgo c us)/\(mgo c us).2=r->XAt CNoText p E H (mbg e.1 r):=λc us r e1 h=>by rw[<- h.2];exact k2 (mgo c us).1 (mgo c us).2 e1 h.1
  refine⟨_,(ah (aF (i:=1) sc_read_terms.nd rfl (Or.inl rfl) (aw Af (hr.mono) rfl xS yp zK .nil (bh (λ_ _ _ z=>z)) (aa (pv 0) (aa (iy (bS (cM (pv 0) R.cl cE cG (hr.mono) cF .nil am (aa ad ac))) (ft fj af) af) ac))))
   (ah (gL PassesOwn.leaving (ao (bG (K:=K) rfl) (bo (pv 0) R.cl cc ck (hr.mono) cj .nil am) (bq (aa ad (aa ad ac))) (by rfl))
     (ae (aF (i:=1) sc_read_terms.nd rfl (Or.inl rfl) (aw LM (hr.mono) rfl Gb G5 Kv .nil am (aa (pv 1) (aa (aw Af (hr.mono) rfl xS yp zK .nil (bh (λ_ _ _ z=>z)) (aa (pv 0) (aa (iy (ao aK (bo (pv 0) R.cl dm du (hr.mono) dn .nil am) ad (ap _)) af (ft fj af)) ac))) ac))))))
   (ae (ai (pv 1))))),?_⟩
  refine mO (λσ' H'=>∃m,TmI C p e us0 H m σ' H') ?_ (λrest=>?_)
  rotate_left
  ·refine cp ⟨_,rfl,_,rfl,p,dx,_,rfl,h1,cg _ _ _ bN.1 bN.2.1 bN.2.2.1 bN.2.2.2,p,e,us0,[45],by rw[<- gt];rfl,hA,by decide,λu r eu em H1 sb ra=>⟨_,rfl,aJ ?_⟩,λh4=>⟨_,rfl,aI ?_⟩⟩
   ·subst eu;have e1:=y6 (us:=r) em;have G:=ig (c:=⟨.p1,λ_=>0,-1,0,0⟩) (us:=r) (.inl rfl) rfl;refine⟨_,rfl,p,e,r,-1,rfl,ra,.inr rfl,λn k r2 hP q H' sb' ra' hq eq=>?_,λr2 hP=>(hbad _ _ _ e1 (G.1 r2 hP)).step sb⟩;obtain⟨s',hl,h8,e2⟩:=G.2 n k r2 hP;exact rest _ _ ⟨_,q,_,r2,_,rfl,rfl,sb.trans sb',ra',sb.free hA.isS hq ra.isS,eq,ic _,pM h8 _,λm=>by rw[uy];show _=0+_;rw[N7],hl,e1.trans e2⟩
   ·have G:=ig (c:=cfg0) (us:=us0) (.inr ⟨rfl,h4⟩) rfl;refine⟨p,e,us0,1,rfl,hA,.inl rfl,λn k r2 hP q H' sb' ra' hq eq=>?_,λr2 hP=>hbad _ _ _ rfl (G.1 r2 hP)⟩;obtain⟨s',hl,h8,e2⟩:=G.2 n k r2 hP;exact rest _ _ ⟨_,q,_,r2,_,rfl,rfl,sb',ra',hq,eq,ic _,pM h8 _,λm=>by rw[uy];show _=0+_;rw[N7];rfl,hl,e2⟩
  rintro σ' H1 ⟨m0,hI⟩;refine⟨λm σ' H'=>TmI C p e us0 H m σ' H',⟨m0,hI⟩,?_⟩;clear hI;rintro m σ' H2 ⟨q,row,us,c,rfl,rfl,sb2,ra2,hq,eq,trr,hr9,hcf,hl,hgo⟩;obtain⟨dx2,pm2,d2,h12⟩:=ra2.ins;refine⟨_,rfl,p,dx2,_,rfl,h12,cg _ _ _ bI.1 bI.2.1 bI.2.2.1 bI.2.2.2,p,e,us,rfl,ra2,by show 2<=sizeLine;decide,λpt hpt=>?_⟩;have u3:=Same.upd_new (o:=.tup [V.str (Str.ofString "+"),V.str (Str.ofString "-")]) hpt;refine⟨pt,_,rfl,.inr (SqT.of aj),rfl,by decide,_,rfl,?_⟩;generalize upd H2 pt (.tup [V.str (Str.ofString "+"),V.str (Str.ofString "-")])=H3 at u3 ⊢
  have ra3:=ra2.same u3;have sb3:SameB p H H3:=sb2.trans u3.toB;have eq3:=u3 _ _ eq;obtain⟨L1,L2'⟩:=pY hl;show if(inV (.str (stL (mhd us))) [.str (Str.ofString "+"),.str (Str.ofString "-")])=true then _ else _
  rw[tG];by_cases hs:mhd us=[43]\/mhd us=[45]
  rotate_left
  ·have hs1:mhd us≠[43]:=λz=>hs (.inl z)
   have hs2:mhd us≠[45]:=λz=>hs (.inr z)
   rw[decide_eq_false hs1,decide_eq_false hs2];refine aI ?_;have e9:=L2' hs1 hs2;exact⟨_,rfl,k1 c us (hgo.trans e9) (sQ hl) q H3 row sb3 ra3 hq eq3 trr hr9 hcf⟩
  rw[show(decide (mhd us=[43]) ||decide (mhd us=[45]))=true by rcases hs with z |z<;>simp[z]];refine aJ ?_;cases us with
  |nil=>rcases hs with z |z<;>cases z
  |cons u us =>
  have hs':u.1=[43]\/u.1=[45]:=hs;have e4:=hgo.trans (L1 u us rfl hs');refine⟨λσ'' H''=>∃m',m'<(u::us).length/\TmI C p e us0 H m' σ'' H'',λ_ _ h=>h,?_⟩;obtain⟨dx3,pm3,d3,h13⟩:=ra3.ins;have G:=ig (c:=⟨.p1,c.fin,if u.1=[45]then -1 else 1,0,0⟩) (us:=us) (.inl rfl) rfl;refine cp ⟨_,rfl,_,rfl,_,rfl,p,dx3,_,rfl,h13,cg _ _ _ cI.1 cI.2.1 cI.2.2.1 cI.2.2.2,p,e,u,us,rfl,ra3,λH4 sb4 ra4=>⟨rfl,_,rfl,?_⟩⟩;have eq4:=sb4 _ _ (ra3.lst_ne eq3) eq3;have sbb:=sb3.trans sb4
  have fin:∀(sg:Int),(if u.1=[45]then -1 else 1)=sg->∀n k r2,aY us=.inr (n,k,r2)->∀(q2:Addr) (H5:Hp),SameB p H4 H5->RdA C H5 p e r2->H4 q2=none->H5 q2=some (.lst ((mono k (sg*(n:Nat))).map V.int))->∀(q3:Addr) (H6:Hp),Same H5 H6->H5 q3=none->H6 q3=some (.lst ((fD row (mono k (sg*(n:Nat)))).map V.int))->∃m',m'<(u::us).length/\TmI C p e us0 H m' [some (.ref p),some (.ref q3)] H6:=λsg hsg n k r2 hP q2 H5 sb5 ra5 hq2 eq2 q3 H6 s6 hq3 eq6=>by
   obtain⟨s',hl',h8,e5⟩:=G.2 n k r2 hP;have hlt:=Dw hP;refine⟨r2.length,by rw[Nj];omega,q3,_,r2,_,rfl,rfl,(sbb.trans sb5).trans s6.toB,ra5.same s6,?_,eq6,ic _,?_,λm=>?_,hl',e4.trans e5⟩
   ·exact sbb.free hA.isS (sb5.free ra4.isS hq3 ra5.isS) ra4.isS
   ·refine GL (ic _) λj hj=>?_
    have m9:=pM h8 (sg*(n:Nat));show cf (fD _ _) j=0;rw[zu,eY (by omega),eY (by omega)];rfl
   ·show cf (fD _ _) m=c.fin m+_;rw[zu,hcf,uy,<- hsg]
  have m9:∀k v,k<=8->(mono k v).length<=1000000:=λk v h=>by have:=pM h v;omega
  by_cases hn:u.1=[45]
  ·rw[hn];refine aC (λz=>absurd (stL_inj.mp ((V.str.inj z).trans lL)) (by decide)) (λ_=>?_);refine⟨_,rfl,p,e,us,-1,rfl,ra4,.inr rfl,λn k r2 hP q2 H5 sb5 ra5 hq2 eq2=>?_,λr2 hP=>(hbad _ _ _ e4 (G.1 r2 hP)).step sbb⟩;obtain⟨_,_,h8,_⟩:=G.2 n k r2 hP;exact⟨q,q2,row,_,rfl,SqL.of (sb5 _ _ (ra4.lst_ne eq4) eq4),SqL.of eq2,by omega,m9 _ _ h8,λq3 H6 s6 hq3 eq6=>fin (-1) (by rw[if_pos hn]) n k r2 hP q2 H5 sb5 ra5 hq2 eq2 q3 H6 s6 hq3 eq6⟩
  ·have hp:=hs'.resolve_right hn;rw[hp];refine aC (λ_=>?_) (λz=>absurd (by rw[<- lL]) z);refine⟨p,e,us,1,rfl,ra4,.inl rfl,λn k r2 hP q2 H5 sb5 ra5 hq2 eq2=>?_,λr2 hP=>(hbad _ _ _ e4 (G.1 r2 hP)).step sbb⟩;obtain⟨_,_,h8,_⟩:=G.2 n k r2 hP;exact⟨q,q2,row,_,rfl,SqL.of (sb5 _ _ (ra4.lst_ne eq4) eq4),SqL.of eq2,by omega,m9 _ _ h8,λq3 H6 s6 hq3 eq6=>fin 1 (by rw[if_neg hn]) n k r2 hP q2 H5 sb5 ra5 hq2 eq2 q3 H6 s6 hq3 eq6⟩
def sp2:Sp:=λvs H Q _=>∃a b:Int,vs=[.int a,.int b]/\Q (.int (Nat.gcd a.natAbs b.natAbs:Nat)) H
theorem qr(i:Int):(if i<0 then -i else i)=(i.natAbs:Int):=by split<;>omega
theorem DI{f:Addr}{fd:FuncData}(F:Fun K "shared_by_two" "shared_by_two" jY f fd)(T:Txt K mg):FnOk P w K mg base CX0 1 f fd ["one","other"] sp2:=by
 refine F.ok sc_shared_by_two (λvs H Q E h=>?_) (λcdv A outer s H vs Q E hr h=>?_)
 ·obtain⟨a,b,rfl,_⟩:=h;rfl
 ·obtain⟨a,b,rfl,k⟩:=h
  refine⟨_,(ah (aF (i:=2) sc_shared_by_two.nd rfl (Or.inl rfl) (aP oG (by rfl) T.abs_ PyProof.Rows.boot_abs (aa (pv 0) ac)))
   (ah (aF (i:=3) sc_shared_by_two.nd rfl (Or.inl rfl) (aP oG (by rfl) T.abs_ PyProof.Rows.boot_abs (aa (pv 1) ac)))
   (ah (gL PassesOwn.never (ao w9 (pv 3) af (ap _))
     (ah (aF (i:=4) sc_shared_by_two.nd rfl (Or.inl rfl) (aq bD (pv 2) (pv 3)))
       (ah (aF (i:=2) sc_shared_by_two.nd rfl (Or.inl rfl) (pv 3))
       (ae (aF (i:=3) sc_shared_by_two.nd rfl (Or.inl rfl) (pv 4))))))
   (ae (ai (pv 2)))))),?_⟩
  refine⟨_,rfl,_,rfl,?_⟩;refine⟨_,rfl,_,rfl,?_⟩;refine⟨λm σ' H'=>∃(x y:Int) (z:Option V),σ'=[some (.int a),some (.int b),some (.int x),some (.int y),z]/\H=H'/\0<=x/\0<=y/\y.natAbs=m/\Nat.gcd x.natAbs y.natAbs=Nat.gcd a.natAbs b.natAbs,⟨_,_,_,none,rfl,rfl,?_,?_,rfl,?_⟩,?_⟩
  ·rw[qr];exact Int.natCast_nonneg _
  ·rw[qr];exact Int.natCast_nonneg _
  ·rw[qr,qr,NW,NW]
  ·rintro m σ' H' ⟨x,y,z,rfl,rfl,hx,hy,rfl,hg⟩;refine⟨_,rfl,_,_,rfl,rfl,_,rfl,?_⟩;refine lm (λhn=>?_) (λh0=>?_)
   ·have hp:0<y:=by have:y≠0:=hn;omega
    refine⟨λσ'' H''=>∃m',m'<y.natAbs/\∃(x' y':Int) (z:Option V),σ''=[some (.int a),some (.int b),some (.int x'),some (.int y'),z]/\H=H''/\0<=x'/\0<=y'/\y'.natAbs=m'/\Nat.gcd x'.natAbs y'.natAbs=Nat.gcd a.natAbs b.natAbs,λ_ _ h=>h,?_⟩;refine⟨_,rfl,_,rfl,_,_,rfl,rfl,hp,?_⟩;refine⟨_,rfl,?_⟩;refine⟨_,rfl,?_⟩;have h1:=NL x (Int.ne_of_gt hp);have h2:=NP x hp;exact⟨(x%y).natAbs,by omega,y,x%y,_,rfl,rfl,hy,h1,rfl,by rw[Ig hx hp];exact hg⟩
   ·refine⟨_,rfl,?_⟩;have e:(y:Int)=0:=h0;subst e
    have e2:(x:Int)=((Nat.gcd a.natAbs b.natAbs:Nat):Int):=by rw[<- hg];show x=((Nat.gcd x.natAbs 0:Nat):Int);rw[Nat.gcd_zero_right];omega
    rw[e2];exact k
noncomputable def gx(t b:Int):List (Str×V):=aR "bottom" (.int b) (aR "top" (.int t) [])
theorem A2:¬(("top":Str)="bottom"):=by decide +kernel
theorem y4(t b:Int):(gx t b).lookup ("bottom":Str)=some (.int b):=by unfold gx;rw[aZ,if_pos rfl]
theorem yZ(t b:Int):(gx t b).lookup ("top":Str)=some (.int t):=by unfold gx;rw[aZ,if_neg A2,aZ,if_pos rfl]
structure RCI(K:PySem.W.Frag)(mg:Str->Option Value)(C:Addr):Prop where
 cl:Cls K C
 nT:NoAttr K C "top"
 nB:NoAttr K C "bottom"
 mg:mg "Ratio"=some (.ref C)
 ha:PySem.W.findIn K (.ref C) "__class__"=some (some (.builtin "object.__class__"))
 hn:PySem.W.specialIn K (.builtin "object.__class__") "__get__"=some (some (.builtin "getset_descriptor.__get__"))
 ht:PySem.W.takesIn K (.builtin "object.__class__")=some true
 hm:PySem.W.mroIn K C (.type "object")=some true
def RA(C:Addr)(H:Hp)(p:Addr)(t b:Int):Prop:=∃dx,H p=some (.ins C dx (gx t b))
theorem RA.same{C:Addr}{H H':Hp}{p:Addr}{t b:Int}(h:RA C H p t b)(s:Same H H'):RA C H' p t b:=let⟨dx,e⟩:=h;⟨dx,s _ _ e⟩
def mK(C:Addr):Sp:=λvs H Q _=>∃(p dx:Addr) (t b:Int),vs=[.ref p,.int t,.int b]/\H p=some (.ins C dx [])/\b≠0/\Bits 9000 b/\Q .non (upd H p (.ins C dx (gx (rt t b) (rb t b))))
theorem xP{C:Addr}{H1:Hp}{q:Addr->Hp->Prop}{E:XK}{t b:Int}(hb:b≠0)(bb:Bits 9000 b)(h:∀(x:Addr) (H':Hp),Same H1 H'->H1 x=none->RA C H' x (rt t b) (rb t b)->q x H'):∀x dx:Addr,H1 x=none->H1 dx=none->dx≠x->mK C (.ref x::([.int t,.int b]++[])) (upd (upd H1 dx (.own x)) x (.ins C dx [])) (λv H2=>v=.non/\q x H2) E:=λx dx nx ndx ne=>by
 refine⟨x,dx,t,b,rfl,aj,hb,bb,rfl,?_⟩;rw[dw]
 have s0:Same H1 (upd (upd H1 dx (.own x)) x (.ins C dx (gx (rt t b) (rb t b)))):=λc o e=>by rw[upd_ne (bj e nx),upd_ne (bj e ndx)];exact e
 exact h x _ s0 nx ⟨dx,aj⟩
theorem dv_bits{t b:Int}(hb:b≠0)(bb:Bits 9000 b):Bits 9000 (dv t b):=bb.of_le (by rw[jt];exact Nat.le_of_dvd (Int.natAbs_pos.mpr hb) (Nat.gcd_dvd_right _ _))
theorem EO{C f:Addr}{dV:Value}{fd:FuncData}(F:FunD K "__init__" "Ratio.__init__" la dV f fd)(T:Txt K mg)(R:RCI K mg C){Jj:Addr}{ID:FuncData}(Mh:Cal P w K mg base 1 "shared_by_two" ["one","other"] sp2 Jj ID):FnOk P w K mg base CX0 2 f fd ["self","top","bottom"] (mK C):=by
 obtain⟨LA,FS,GV,Kl⟩:=Mh;refine F.ok sc_Ratio___init__ (λvs H Q E h=>?_) (λcdv A outer s H vs Q E hr h=>?_)
 ·obtain⟨p,dx,t,b,rfl,_⟩:=h;rfl
 ·obtain⟨p,dx,t,b,rfl,hp,hb,bb,k⟩:=h
  refine⟨_,(ah (ar (ao bM (pv 2) af (ap _))
   (ae C7)
   ay)
   (ah (aF (i:=3) sc_Ratio___init__.nd rfl (Or.inl rfl) (aw LA (hr.mono) rfl FS GV Kl .nil am (aa (pv 1) (aa (pv 2) ac))))
   (ah (ar (ao cW (pv 2) af (ap _))
     (ae (aF (i:=3) sc_Ratio___init__.nd rfl (Or.inl rfl) (ft fj (pv 3))))
     ay)
   (ah (bB (pv 0) (aq xf (pv 1) (pv 3)) rfl)
   (ae (bB (pv 0) (aq xf (pv 2) (pv 3)) rfl)))))),?_⟩
  refine aD ⟨_,rfl,_,_,rfl,rfl,_,rfl,aC (λh=>absurd h hb) (λ_=>?_)⟩;refine aN ⟨_,rfl,_,rfl,t,b,rfl,?_⟩;refine cA (λσ' H'=>H=H'/\σ'=[some (.ref p),some (.int t),some (.int b),some (.int (dv t b))]) ?_ ?_
  ·rintro σ' H' ⟨rfl,rfl⟩;refine⟨_,rfl,_,rfl,_,_,rfl,rfl,⟨qj hb,dv_bits hb bb⟩,_,rfl,p,C,dx,_,rfl,hp,R.cl,R.nT,by show 0<1000;decide,?_⟩;refine⟨_,rfl,_,rfl,_,_,rfl,rfl,⟨qj hb,dv_bits hb bb⟩,_,rfl,p,C,dx,_,rfl,aj,R.cl,R.nB,by show 1<1000;decide,?_⟩;show Q .non (upd (upd H p _) p _);rw[dw];exact k
  ·intro rest;refine⟨_,rfl,_,_,rfl,rfl,_,rfl,?_⟩;refine aC (λh=>?_) (λh=>?_)
   ·refine⟨_,rfl,_,rfl,rest _ _ ⟨rfl,?_⟩⟩;have e:dv t b = -((Nat.gcd t.natAbs b.natAbs:Nat):Int):=by unfold dv;rw[if_pos h]
    rw[e];rfl
   ·refine rest _ _ ⟨rfl,?_⟩;have e:dv t b=((Nat.gcd t.natAbs b.natAbs:Nat):Int):=by unfold dv;rw[if_neg h]
    rw[e];rfl
theorem Ex{CWhole f:Addr}{fd:FuncData}(F:Fun K "__init__" "Whole.__init__" kL f fd)(T:Txt K mg)(R:PCI K mg CWhole "Whole" ["value"]):FnOk P w K mg base CX0 1 f fd ["self","value"] (cm CWhole "value"):=by
 refine F.ok B4 (λvs H Q E h=>?_) (λcdv A outer s H vs Q E hr h=>?_)
 ·obtain⟨x,dx,a,rfl,_⟩:=h;rfl
 ·obtain⟨x,dx,a,rfl,h1,k⟩:=h;refine⟨_,(ae (bB (pv 0) (pv 1) rfl)),?_⟩;exact⟨_,rfl,_,rfl,x,CWhole,dx,_,rfl,h1,R.cl,R.na _ (by simp),by show 0<1000;decide,k⟩
theorem EW{CNamed f:Addr}{fd:FuncData}(F:Fun K "__init__" "Named.__init__" lg f fd)(T:Txt K mg)(R:PCI K mg CNamed "Named" ["word"]):FnOk P w K mg base CX0 1 f fd ["self","word"] (cm CNamed "word"):=by
 refine F.ok Ck (λvs H Q E h=>?_) (λcdv A outer s H vs Q E hr h=>?_)
 ·obtain⟨x,dx,a,rfl,_⟩:=h;rfl
 ·obtain⟨x,dx,a,rfl,h1,k⟩:=h;refine⟨_,(ae (bB (pv 0) (pv 1) rfl)),?_⟩;exact⟨_,rfl,_,rfl,x,CNamed,dx,_,rfl,h1,R.cl,R.na _ (by simp),by show 0<1000;decide,k⟩
structure GCI(K:PySem.W.Frag)(mg:Str->Option Value)(CGiven:Addr):Prop where
 cl:Cls K CGiven
 nP:NoAttr K CGiven "poly"
 nL:NoAttr K CGiven "low"
 nH:NoAttr K CGiven "high"
 mg:mg "Given"=some (.ref CGiven)
 ha:PySem.W.findIn K (.ref CGiven) "__class__"=some (some (.builtin "object.__class__"))
 hn:PySem.W.specialIn K (.builtin "object.__class__") "__get__"=some (some (.builtin "getset_descriptor.__get__"))
 ht:PySem.W.takesIn K (.builtin "object.__class__")=some true
 hm:PySem.W.mroIn K CGiven (.type "object")=some true
noncomputable def d8(p l h:Addr):List (Str×V):=aR "high" (.ref h) (aR "low" (.ref l) (aR "poly" (.ref p) []))
theorem Dp:¬(("poly":Str)="high"):=by decide +kernel
theorem Dh:¬(("poly":Str)="low"):=by decide +kernel
theorem GJ:¬(("low":Str)="high"):=by decide +kernel
theorem Iy(p l h:Addr):(d8 p l h).lookup ("high":Str)=some (.ref h):=by unfold d8;rw[aZ,if_pos rfl]
theorem Ix(p l h:Addr):(d8 p l h).lookup ("low":Str)=some (.ref l):=by unfold d8;rw[aZ,if_neg GJ,aZ,if_pos rfl]
theorem Iw(p l h:Addr):(d8 p l h).lookup ("poly":Str)=some (.ref p):=by unfold d8;rw[aZ,if_neg Dp,aZ,if_neg Dh,aZ,if_pos rfl]
def GA(CGiven:Addr)(H:Hp)(x p l h:Addr):Prop:=∃dx,H x=some (.ins CGiven dx (d8 p l h))
theorem GA.same{CGiven:Addr}{H H':Hp}{x p l h:Addr}(n:GA CGiven H x p l h)(s:Same H H'):GA CGiven H' x p l h:=let⟨dx,e⟩:=n;⟨dx,s _ _ e⟩
def pp(CGiven:Addr):Sp:=λvs H Q _=>∃(x dx r l h:Addr) (ns:List V),vs=[.ref x,.ref r,.ref l,.ref h]/\H x=some (.ins CGiven dx [])/\H r=some (.lst ns)/\∀p,H p=none->Q .non (upd (upd H p (.lst ns)) x (.ins CGiven dx (d8 p l h)))
theorem E4{CGiven f:Addr}{fd:FuncData}(F:Fun K "__init__" "Given.__init__" ll f fd)(T:Txt K mg)(RG:GCI K mg CGiven):FnOk P w K mg base CX0 1 f fd ["self","row","low","high"] (pp CGiven):=by
 refine F.ok Cn (λvs H Q E h=>?_) (λcdv A outer s H vs Q E hr h=>?_)
 ·obtain⟨x,dx,r,l,h,ns,rfl,_⟩:=h;rfl
 ·obtain⟨x,dx,r,l,h,ns,rfl,hx,hR,k⟩:=h
  refine⟨_,(ah (bB (pv 0) (bn (Kh (K:=K) rfl) (by rfl) T.list_ PyProof.Rows.boot_list (aa (pv 1) ac)) rfl)
   (ah (bB (pv 0) (pv 2) rfl)
   (ae (bB (pv 0) (pv 3) rfl)))),?_⟩
  refine⟨_,rfl,r,_,rfl,.inl (SqL.of hR),λp hp=>?_⟩;have npx:x≠p:=bj hx hp;refine⟨_,rfl,x,CGiven,dx,_,rfl,by rw[upd_ne npx];exact hx,RG.cl,RG.nP,by show 0<1000;decide,?_⟩;refine⟨_,rfl,_,rfl,x,CGiven,dx,_,rfl,aj,RG.cl,RG.nL,by show 1<1000;decide,?_⟩;refine⟨_,rfl,_,rfl,x,CGiven,dx,_,rfl,aj,RG.cl,RG.nH,by show 2<1000;decide,?_⟩;show Q .non (upd (upd (upd (upd H p _) x _) x _) x _);rw[dw,dw];exact k p hp
theorem EZ{CMinus f:Addr}{fd:FuncData}(F:Fun K "__init__" "Minus.__init__" lh f fd)(T:Txt K mg)(R:PCI K mg CMinus "Minus" ["one"]):FnOk P w K mg base CX0 1 f fd ["self","one"] (cm CMinus "one"):=by
 refine F.ok Cl (λvs H Q E h=>?_) (λcdv A outer s H vs Q E hr h=>?_)
 ·obtain⟨x,dx,a,rfl,_⟩:=h;rfl
 ·obtain⟨x,dx,a,rfl,h1,k⟩:=h;refine⟨_,(ae (bB (pv 0) (pv 1) rfl)),?_⟩;exact⟨_,rfl,_,rfl,x,CMinus,dx,_,rfl,h1,R.cl,R.na _ (by simp),by show 0<1000;decide,k⟩
theorem EB{CSum f:Addr}{fd:FuncData}(F:Fun K "__init__" "Sum.__init__" kN f fd)(T:Txt K mg)(R:PCI K mg CSum "Sum" ["one","other"]):FnOk P w K mg base CX0 1 f fd ["self","one","other"] (aV CSum "one" "other"):=by
 refine F.ok B6 (λvs H Q E h=>?_) (λcdv A outer s H vs Q E hr h=>?_)
 ·obtain⟨x,dx,a,b,rfl,_⟩:=h;rfl
 ·obtain⟨x,dx,a,b,rfl,h1,k⟩:=h
  refine⟨_,(ah (bB (pv 0) (pv 1) rfl)
   (ae (bB (pv 0) (pv 2) rfl))),?_⟩
  refine⟨_,rfl,_,rfl,x,CSum,dx,_,rfl,h1,R.cl,R.na _ (by simp),by show 0<1000;decide,?_⟩;refine⟨_,rfl,_,rfl,x,CSum,dx,_,rfl,aj,R.cl,R.na _ (by simp),by show 1<1000;decide,?_⟩;rw[dw];exact k
theorem E2{CLess f:Addr}{fd:FuncData}(F:Fun K "__init__" "Less.__init__" lj f fd)(T:Txt K mg)(R:PCI K mg CLess "Less" ["one","other"]):FnOk P w K mg base CX0 1 f fd ["self","one","other"] (aV CLess "one" "other"):=by
 refine F.ok Cm (λvs H Q E h=>?_) (λcdv A outer s H vs Q E hr h=>?_)
 ·obtain⟨x,dx,a,b,rfl,_⟩:=h;rfl
 ·obtain⟨x,dx,a,b,rfl,h1,k⟩:=h
  refine⟨_,(ah (bB (pv 0) (pv 1) rfl)
   (ae (bB (pv 0) (pv 2) rfl))),?_⟩
  refine⟨_,rfl,_,rfl,x,CLess,dx,_,rfl,h1,R.cl,R.na _ (by simp),by show 0<1000;decide,?_⟩;refine⟨_,rfl,_,rfl,x,CLess,dx,_,rfl,aj,R.cl,R.na _ (by simp),by show 1<1000;decide,?_⟩;rw[dw];exact k
theorem Ez{CTimes f:Addr}{fd:FuncData}(F:Fun K "__init__" "Times.__init__" kM f fd)(T:Txt K mg)(R:PCI K mg CTimes "Times" ["one","other"]):FnOk P w K mg base CX0 1 f fd ["self","one","other"] (aV CTimes "one" "other"):=by
 refine F.ok B5 (λvs H Q E h=>?_) (λcdv A outer s H vs Q E hr h=>?_)
 ·obtain⟨x,dx,a,b,rfl,_⟩:=h;rfl
 ·obtain⟨x,dx,a,b,rfl,h1,k⟩:=h
  refine⟨_,(ah (bB (pv 0) (pv 1) rfl)
   (ae (bB (pv 0) (pv 2) rfl))),?_⟩
  refine⟨_,rfl,_,rfl,x,CTimes,dx,_,rfl,h1,R.cl,R.na _ (by simp),by show 0<1000;decide,?_⟩;refine⟨_,rfl,_,rfl,x,CTimes,dx,_,rfl,aj,R.cl,R.na _ (by simp),by show 1<1000;decide,?_⟩;rw[dw];exact k
theorem ET{COver f:Addr}{fd:FuncData}(F:Fun K "__init__" "Over.__init__" lc f fd)(T:Txt K mg)(R:PCI K mg COver "Over" ["one","other"]):FnOk P w K mg base CX0 1 f fd ["self","one","other"] (aV COver "one" "other"):=by
 refine F.ok Ci (λvs H Q E h=>?_) (λcdv A outer s H vs Q E hr h=>?_)
 ·obtain⟨x,dx,a,b,rfl,_⟩:=h;rfl
 ·obtain⟨x,dx,a,b,rfl,h1,k⟩:=h
  refine⟨_,(ah (bB (pv 0) (pv 1) rfl)
   (ae (bB (pv 0) (pv 2) rfl))),?_⟩
  refine⟨_,rfl,_,rfl,x,COver,dx,_,rfl,h1,R.cl,R.na _ (by simp),by show 0<1000;decide,?_⟩;refine⟨_,rfl,_,rfl,x,COver,dx,_,rfl,aj,R.cl,R.na _ (by simp),by show 1<1000;decide,?_⟩;rw[dw];exact k
theorem ER{CPower f:Addr}{fd:FuncData}(F:Fun K "__init__" "Power.__init__" lb f fd)(T:Txt K mg)(R:PCI K mg CPower "Power" ["one","power"]):FnOk P w K mg base CX0 1 f fd ["self","one","exponent"] (aV CPower "one" "power"):=by
 refine F.ok Ch (λvs H Q E h=>?_) (λcdv A outer s H vs Q E hr h=>?_)
 ·obtain⟨x,dx,a,b,rfl,_⟩:=h;rfl
 ·obtain⟨x,dx,a,b,rfl,h1,k⟩:=h
  refine⟨_,(ah (bB (pv 0) (pv 1) rfl)
   (ae (bB (pv 0) (pv 2) rfl))),?_⟩
  refine⟨_,rfl,_,rfl,x,CPower,dx,_,rfl,h1,R.cl,R.na _ (by simp),by show 0<1000;decide,?_⟩;refine⟨_,rfl,_,rfl,x,CPower,dx,_,rfl,aj,R.cl,R.na _ (by simp),by show 1<1000;decide,?_⟩;rw[dw];exact k
theorem ED{CRooted f:Addr}{fd:FuncData}(F:Fun K "__init__" "Rooted.__init__" kO f fd)(T:Txt K mg)(R:PCI K mg CRooted "Rooted" ["one","power"]):FnOk P w K mg base CX0 1 f fd ["self","one","exponent"] (aV CRooted "one" "power"):=by
 refine F.ok B7 (λvs H Q E h=>?_) (λcdv A outer s H vs Q E hr h=>?_)
 ·obtain⟨x,dx,a,b,rfl,_⟩:=h;rfl
 ·obtain⟨x,dx,a,b,rfl,h1,k⟩:=h
  refine⟨_,(ah (bB (pv 0) (pv 1) rfl)
   (ae (bB (pv 0) (pv 2) rfl))),?_⟩
  refine⟨_,rfl,_,rfl,x,CRooted,dx,_,rfl,h1,R.cl,R.na _ (by simp),by show 0<1000;decide,?_⟩;refine⟨_,rfl,_,rfl,x,CRooted,dx,_,rfl,aj,R.cl,R.na _ (by simp),by show 1<1000;decide,?_⟩;rw[dw];exact k
structure TC where
 wh:Addr
 na:Addr
 gi:Addr
 mi:Addr
 su:Addr
 le:Addr
 ti:Addr
 ov:Addr
 po:Addr
 ro:Addr
 ra:Addr
noncomputable def f1(a:Str)(x:V):List (Str×V):=aR a x []
noncomputable def f2(a b:Str)(x y:V):List (Str×V):=aR b y (aR a x [])
noncomputable def PtH(tc:TC)(av:Addr)(H:Hp):PT->Addr->Prop
 |.whole n,q=>q≠av/\∃dx,H q=some (.ins tc.wh dx (f1 "value" (.int (n:Int))))
 |.named w,q=>q≠av/\∃dx,H q=some (.ins tc.na dx (f1 "word" (.str (stL w))))
 |.given kp l h,q=>q≠av/\∃dx pk pl ph,H q=some (.ins tc.gi dx (d8 pk pl ph))/\pk≠av/\H pk=some (.lst (kp.map V.int))/\pl≠av/\RA tc.ra H pl (rt l.1 l.2) (rb l.1 l.2)/\ph≠av/\RA tc.ra H ph (rt h.1 h.2) (rb h.1 h.2)
 |.minus t,q=>q≠av/\∃dx p,H q=some (.ins tc.mi dx (f1 "one" (.ref p)))/\PtH tc av H t p
 |.power t k,q=>q≠av/\∃dx p,H q=some (.ins tc.po dx (f2 "one" "power" (.ref p) (.int (k:Int))))/\PtH tc av H t p
 |.rooted t k,q=>q≠av/\∃dx p,H q=some (.ins tc.ro dx (f2 "one" "power" (.ref p) (.int (k:Int))))/\PtH tc av H t p
 |.sum a b,q=>q≠av/\∃dx p r,H q=some (.ins tc.su dx (f2 "one" "other" (.ref p) (.ref r)))/\PtH tc av H a p/\PtH tc av H b r
 |.less a b,q=>q≠av/\∃dx p r,H q=some (.ins tc.le dx (f2 "one" "other" (.ref p) (.ref r)))/\PtH tc av H a p/\PtH tc av H b r
 |.times a b,q=>q≠av/\∃dx p r,H q=some (.ins tc.ti dx (f2 "one" "other" (.ref p) (.ref r)))/\PtH tc av H a p/\PtH tc av H b r
 |.over a b,q=>q≠av/\∃dx p r,H q=some (.ins tc.ov dx (f2 "one" "other" (.ref p) (.ref r)))/\PtH tc av H a p/\PtH tc av H b r
theorem PtH.sb{tc:TC}{av:Addr}{H H':Hp}(s:SameB av H H'):∀{t:PT} {q:Addr},PtH tc av H t q->PtH tc av H' t q
 |.whole n,q,⟨a,dx,e⟩=>⟨a,dx,s _ _ a e⟩
 |.named w,q,⟨a,dx,e⟩=>⟨a,dx,s _ _ a e⟩
 |.given kp l h,q,⟨a,dx,pk,pl,ph,e,a1,e1,a2,⟨d2,e2⟩,a3,⟨d3,e3⟩⟩=>⟨a,dx,pk,pl,ph,s _ _ a e,a1,s _ _ a1 e1,a2,⟨d2,s _ _ a2 e2⟩,a3,⟨d3,s _ _ a3 e3⟩⟩
 |.minus t,q,⟨a,dx,p,e,h⟩=>⟨a,dx,p,s _ _ a e,PtH.sb s h⟩
 |.power t k,q,⟨a,dx,p,e,h⟩=>⟨a,dx,p,s _ _ a e,PtH.sb s h⟩
 |.rooted t k,q,⟨a,dx,p,e,h⟩=>⟨a,dx,p,s _ _ a e,PtH.sb s h⟩
 |.sum _ _,q,⟨a,dx,p,r,e,h1,h2⟩=>⟨a,dx,p,r,s _ _ a e,PtH.sb s h1,PtH.sb s h2⟩
 |.less _ _,q,⟨a,dx,p,r,e,h1,h2⟩=>⟨a,dx,p,r,s _ _ a e,PtH.sb s h1,PtH.sb s h2⟩
 |.times _ _,q,⟨a,dx,p,r,e,h1,h2⟩=>⟨a,dx,p,r,s _ _ a e,PtH.sb s h1,PtH.sb s h2⟩
 |.over _ _,q,⟨a,dx,p,r,e,h1,h2⟩=>⟨a,dx,p,r,s _ _ a e,PtH.sb s h1,PtH.sb s h2⟩
theorem PtH.same{tc:TC}{av:Addr}{H H':Hp}{t:PT}{q:Addr}(h:PtH tc av H t q)(s:Same H H'):PtH tc av H' t q:=h.sb s.toB
def spP(C CN:Addr)(tc:TC)(p:List Mk->Res PT)(n:Nat):Sp:=λvs H Q E=>∃(pr:Addr) (e:Nat×Nat) (us:List Mk),vs=[.ref pr]/\RdA C H pr e us/\e.2+n=10/\(∀t r,p us=.inr (t,r)->∀(q:Addr) (H':Hp),SameB pr H H'->RdA C H' pr e r->PtH tc pr H' t q->H q=none->Q (.ref q) H')/\(∀r,p us=.inl r->XAt CN pr E H (mbg e.1 r))
def vO:Sp:=λ_ _ _ _=>False
noncomputable def spS(C CN:Addr)(tc:TC):Nat->Sp
 |0=>vO
 |n+1=>spP C CN tc (pS n) n
theorem tJ(pm:Addr)(e:Nat×Nat)(d:Int):(fdl pm e d).lookup ("depth":Str)=some (.int (e.2:Nat)):=by unfold fdl;rw[aZ,if_pos rfl]
theorem y9(pm:Addr)(e:Nat×Nat)(d:Int)(q:Nat):aR "depth" (.int (q:Nat)) (fdl pm e d)=fdl pm (e.1,q) d:=by rw[nQ,nQ];show(if("marks":Str)="depth" then _ else _::(if("end":Str)="depth" then _ else _::(if("done":Str)="depth" then _ else _::(if("depth":Str)="depth" then _ else _))))=_;rw[if_neg rY,if_neg r8,if_neg sd,if_pos rfl]
theorem RdA.dep{C:Addr}{H:Hp}{p pm dx:Addr}{e:Nat×Nat}{qs:List Addr}{ts us:List Mk}{d q:Nat}(h1:H p=some (.ins C dx (fdl pm e d)))(h2:H pm=some (.lst (qs.map V.ref)))(h3:MkH H qs ts)(h4:ts.drop d=us)(h5:d<=ts.length)(h6:∀u∈ts,u.1≠[]/\u.1.length<=300/\∀c∈u.1,c<128):SameB p H (upd H p (.ins C dx (fdl pm (e.1,q) d)))/\RdA C (upd H p (.ins C dx (fdl pm (e.1,q) d))) p (e.1,q) us:=by
 have np:pm≠p:=λz=>by rw[z,h1]at h2;cases h2
 exact⟨λb o hb eo=>by rw[upd_ne hb];exact eo,dx,pm,qs,ts,d,aj,by rw[upd_ne np];exact h2,h3.upd_ins h1,h4,h5,h6⟩
theorem nt:(Str.ofString "(":Str)=stL [40]:=by decide +kernel
theorem lN:(Str.ofString ")":Str)=stL [41]:=by decide +kernel
theorem yg:(Str.ofString ",":Str)=stL [44]:=by decide +kernel
theorem gS:(Str.ofString "/":Str)=stL [47]:=by decide +kernel
theorem nj:(Str.ofString "sqrt":Str)=stL wSqrt:=by decide +kernel
theorem nu:(Str.ofString "cbrt":Str)=stL wCbrt:=by decide +kernel
theorem pU:(Str.ofString "root":Str)=stL wRoot:=by decide +kernel
theorem rW:¬(("enter":Str)="marks")/\¬(("enter":Str)="end")/\¬(("enter":Str)="done")/\¬(("enter":Str)="depth"):=by decide +kernel
theorem xp:¬(("leave":Str)="marks")/\¬(("leave":Str)="end")/\¬(("leave":Str)="done")/\¬(("leave":Str)="depth"):=by decide +kernel
def jQ(C CN:Addr):Sp:=λvs H Q E=>∃(p:Addr) (e:Nat×Nat) (us:List Mk),vs=[.ref p]/\RdA C H p e us/\e.2<=10/\(e.2<10->mhd us=[40]->∀H',SameB p H H'->RdA C H' p (e.1,e.2+1) us.tail->Q .non H')/\(e.2<10->mhd us≠[40]->XAt CN p E H (mbg e.1 us))/\(e.2=10->XAt CN p E H (mbg e.1 us))
theorem EJ{C CNoText f:Addr}{fd:FuncData}(F:Fun K "enter" "Reading.enter" kU f fd)(T:Txt K mg)(R:QC K mg C){jm:Addr}{iY:FuncData}(jI:MCalV P w K mg base 3 C "demand" ["self","mark"] (jR C CNoText) jm iY){eX:Addr}{eV:FuncData}(fi:MCal P w K mg base 1 C "begin" ["self"] (gH C) eX eV){dI:Addr}{dH:FuncData}(C_NoText:XCal P w K mg base 1 CNoText "NoText" "at" ["self","at"] dI dH):FnOk P w K mg base (CXV P w) 4 f fd ["self"] (jQ C CNoText):=by
 obtain⟨ib,gR,hU⟩:=jI;obtain⟨fh,eD,fb⟩:=fi;obtain⟨tD,hDEEPEST⟩:=T.DEEPEST_;refine F.okV Cc (λvs H Q E h=>?_) (λcdv A outer s H vs Q E hr h=>?_)
 ·obtain⟨p,e,us,rfl,_⟩:=h;rfl
 ·obtain⟨p,e,us,rfl,hA,he,k1,k2,k3⟩:=h;obtain⟨dx,pm,qs,ts,d,h1,h2,h3,h4,h5,h6⟩:=id hA
  refine⟨_,(ah (ar (ao bM (aS (K:=K) rfl (pv 0) rfl) (bU (v:=.int 10) rfl hDEEPEST ⟨_,rfl⟩) (ap _))
   (ae (lu (C:=CNoText) rfl C_NoText.ow PySem.F.excBase_ValueError C_NoText.ok (hr.mono) C_NoText.bd C_NoText.kp (aa (bo (pv 0) R.cl eD fh (hr.mono) fb .nil am) ac)))
   ay)
   (ah (cH (cM (pv 0) R.cl gR ib (hr.mono) hU .nil (bh (λ_ _ _ z=>z)) (aa ad ac)))
   (ae (bB (pv 0) (aq dj (aS (K:=K) rfl (pv 0) rfl) af) rfl)))),?_⟩
  refine aD ⟨_,rfl,p,C,dx,_,_,rfl,h1,R.cl,R.n4,tJ _ _ _,_,_,rfl,rfl,_,rfl,aC (λh=>?_) (λh=>?_)⟩
  ·have h':((e.2:Nat):Int)=10:=h;exact⟨_,rfl,p,dx,_,rfl,h1,cg _ _ _ cD.1 cD.2.1 cD.2.2.1 cD.2.2.2,p,e,us,rfl,hA,_,rfl,λd' hd=>k3 (by omega) _ d' (SameB.new hd) aj⟩
  ·have h':¬((e.2:Nat):Int)=10:=h;have he':e.2<10:=by omega
   refine df ⟨_,rfl,p,dx,_,rfl,h1,cg _ _ _ dk.1 dk.2.1 dk.2.2.1 dk.2.2.2,p,e,us,[40],by rw[<- nt];rfl,hA,by decide,λu r eu em H1 sb1 ra1=>?_,λz=>k2 he' z⟩;subst eu;obtain⟨dx1,pm1,qs1,ts1,d1,g1,g2,g3,g4,g5,g6⟩:=id ra1;refine⟨_,rfl,p,C,dx1,_,_,rfl,g1,R.cl,R.n4,tJ _ _ _,_,_,rfl,rfl,_,rfl,p,C,dx1,_,rfl,g1,R.cl,R.n4,qi _ _ _,?_⟩;obtain⟨sb,ra⟩:=RdA.dep (q:=e.2+1) g1 g2 g3 g4 g5 g6;have e2:aR "depth" (V.int (((e.2:Nat):Int)+1)) (fdl pm1 e d1)=fdl pm1 (e.1,e.2+1) d1:=y9 _ _ _ _;rw[e2];exact k1 he' em _ (sb1.trans sb) ra
def jO(C CN:Addr):Sp:=λvs H Q E=>∃(p:Addr) (e:Nat×Nat) (us:List Mk),vs=[.ref p]/\RdA C H p (e.1,e.2+1) us/\(mhd us=[41]->∀H',SameB p H H'->RdA C H' p e us.tail->Q .non H')/\(mhd us≠[41]->XAt CN p E H (mbg e.1 us))
theorem EH{C CNoText f:Addr}{fd:FuncData}(F:Fun K "leave" "Reading.leave" kS f fd)(T:Txt K mg)(R:QC K mg C){jm:Addr}{iY:FuncData}(jI:MCalV P w K mg base 3 C "demand" ["self","mark"] (jR C CNoText) jm iY):FnOk P w K mg base (CXV P w) 4 f fd ["self"] (jO C CNoText):=by
 obtain⟨ib,gR,hU⟩:=jI;refine F.okV Ca (λvs H Q E h=>?_) (λcdv A outer s H vs Q E hr h=>?_)
 ·obtain⟨p,e,us,rfl,_⟩:=h;rfl
 ·obtain⟨p,e,us,rfl,hA,k1,k2⟩:=h;obtain⟨dx,pm,qs,ts,d,h1,h2,h3,h4,h5,h6⟩:=id hA
  refine⟨_,(ah (cH (cM (pv 0) R.cl gR ib (hr.mono) hU .nil (bh (λ_ _ _ z=>z)) (aa ad ac)))
   (ae (bB (pv 0) (aq gl (aS (K:=K) rfl (pv 0) rfl) af) rfl))),?_⟩
  refine df ⟨_,rfl,p,dx,_,rfl,h1,cg _ _ _ dk.1 dk.2.1 dk.2.2.1 dk.2.2.2,p,_,us,[41],by rw[<- lN];rfl,hA,by decide,λu r eu em H1 sb1 ra1=>?_,λz=>k2 z⟩;subst eu;obtain⟨dx1,pm1,qs1,ts1,d1,g1,g2,g3,g4,g5,g6⟩:=id ra1;refine⟨_,rfl,p,C,dx1,_,_,rfl,g1,R.cl,R.n4,tJ _ _ _,_,_,rfl,rfl,_,rfl,p,C,dx1,_,rfl,g1,R.cl,R.n4,qi _ _ _,?_⟩;obtain⟨sb,ra⟩:=RdA.dep (q:=e.2) g1 g2 g3 g4 g5 g6
  have e2:aR "depth" (V.int (((e.2+1:Nat):Int)-1)) (fdl pm1 (e.1,e.2+1) d1)=fdl pm1 (e.1,e.2) d1:=by rw[show((e.2+1:Nat):Int)-1=(e.2:Nat) by omega];exact y9 _ _ _ _
  rw[e2];exact k1 em _ (sb1.trans sb) ra
theorem fno{pm:Addr}{e:Nat×Nat}{d:Int}{m:Str}(h:¬m="marks"/\¬m="end"/\¬m="done"/\¬m="depth"):(fdl pm e d).lookup m=none:=cg _ _ _ h.1 h.2.1 h.2.2.1 h.2.2.2
theorem RdA.mh{C:Addr}{H:Hp}{p:Addr}{e:Nat×Nat}{us:List Mk}(h:RdA C H p e us):(∀c∈mhd us,c<128)/\(mhd us).length<=300:=by
 cases us with
 |nil=>exact⟨λc hc=>(nomatch hc),by decide⟩
 |cons u r=>obtain⟨_,a,b⟩:=h.is u (by simp);exact⟨b,a⟩
theorem HC(m:List Nat):inV (.str (stL m)) [.str (Str.ofString "x"),.str (Str.ofString "sqrt"),.str (Str.ofString "cbrt"),.str (Str.ofString "root")]=decide (m∈[[120],wSqrt,wCbrt,wRoot]):=by
 rw[lK,nj,nu,pU];show(eqV (.str (stL [120])) (.str (stL m)) || (eqV (.str (stL wSqrt)) (.str (stL m)) || (eqV (.str (stL wCbrt)) (.str (stL m)) || (eqV (.str (stL wRoot)) (.str (stL m)) ||false))))=_;rw[cx,cx,cx,cx,Bool.or_false,NB];simp only[NJ,decide_eq_true_eq,Ni,Nx,or_false];constructor
 ·rintro(h |h |h |h)
  ·exact .inl h.symm
  ·exact .inr (.inl h.symm)
  ·exact .inr (.inr (.inl h.symm))
  ·exact .inr (.inr (.inr h.symm))
 ·rintro(h |h |h |h)
  ·exact .inl h.symm
  ·exact .inr (.inl h.symm)
  ·exact .inr (.inr (.inl h.symm))
  ·exact .inr (.inr (.inr h.symm))
def mJ:Sp:=λvs H Q _=>∃l:List Nat,vs=[.str (stL l)]/\(∀c∈l,c<128)/\l.length<=1000/\∀H',Same H H'->Q (.bl (bu l)) H'
theorem D8{f:Addr}{fd:FuncData}(F:Fun K "is_name" "is_name" kj f fd)(T:Txt K mg){t7:Addr}{tN:FuncData}(vf:Cal P w K mg base 1 "made_of" ["word","signs"] pi t7 tN):FnOk P w K mg base CX0 2 f fd ["word"] mJ:=by
 obtain⟨uX,sJ,tj,uI⟩:=vf;obtain⟨tF,hLETTERS⟩:=T.LETTERS_;obtain⟨tL,hLONGEST⟩:=T.LONGEST_;obtain⟨aWORDS,hWORDS,sWORDS⟩:=T.WORDS_;refine F.ok BS (λvs H Q E h=>?_) (λcdv A outer s H vs Q E hr h=>?_)
 ·obtain⟨l,rfl,_⟩:=h;rfl
 ·obtain⟨l,rfl,ha,hl,k⟩:=h;have big:=sizeLine_eq;refine⟨_,(ae (ai (cu (aw uX (hr.mono) rfl sJ tj uI .nil am (aa (pv 0) (aa (bU (v:=.str "abcdefghijklmnopqrstuvwxyz") rfl hLETTERS ⟨_,rfl⟩) ac))) (cu (bf DC (aP dL (by rfl) T.len_ PySem.boot_len (aa (pv 0) ac)) (bU (v:=.int 8) rfl hLONGEST ⟨_,rfl⟩) (ap _)) (bT (bf (w8 (K:=K) rfl) (pv 0) (bU (v:=.ref aWORDS) rfl hWORDS rfl) (by rfl))))))),?_⟩;refine au (cq ⟨_,rfl,l,_,isA,rfl,ha,hl,yh,λz=>⟨_,rfl,aI ?_⟩,λhn H1 s1=>⟨_,rfl,?_⟩⟩)
  ·subst z;exact k H (Same.refl _)
  have hk:=k H1 s1;cases h0:l.all isA with
  |false =>refine aI ?_;rw[show bu l=false by unfold bu;rw[h0];simp]at hk;exact hk
  |true =>
   refine aJ (cq ⟨_,rfl,_,rfl,by rw[ak];omega,_,_,rfl,rfl,_,rfl,aC (λh8=>?_) (λh8=>?_)⟩)
   ·rw[ak]at h8;have h8':l.length<=8:=by have:(l.length:Int)<=8:=h8;omega
    refine⟨_,rfl,aWORDS,_,rfl,.inr (sWORDS _),rfl,by decide,?_⟩;show Q (.bl (!(inV (.str (stL l)) [.str (Str.ofString "x"),.str (Str.ofString "sqrt"),.str (Str.ofString "cbrt"),.str (Str.ofString "root")]))) H1;rw[HC];unfold bu at hk
    rw[decide_eq_true hn,h0,decide_eq_true h8']at hk;exact hk
   ·rw[ak]at h8;have h8':¬l.length<=8:=by have:¬(l.length:Int)<=8:=h8;omega
    unfold bu at hk
    rw[decide_eq_false h8']at hk;simp at hk
    exact hk
def qS(C CN:Addr):Sp:=λvs H Q E=>∃(p:Addr) (e:Nat×Nat) (us:List Mk),vs=[.ref p]/\RdA C H p e us/\(∀n r,cN us=.inr (n,r)->n<2^1000->∀H',SameB p H H'->RdA C H' p e r->Q (.int (n:Nat)) H')/\(∀r,cN us=.inl r->XAt CN p E H (mbg e.1 r))
theorem DK{C CNoText f:Addr}{fd:FuncData}(F:Fun K "read_whole" "read_whole" j0 f fd)(T:Txt K mg)(R:QC K mg C){gB:Addr}{gz:FuncData}(gE:Cal P w K mg base 2 "is_whole" ["word"] ir gB gz){bP:Addr}{bO:FuncData}(bL:MCal P w K mg base 1 C "seen" ["self"] (dc C) bP bO){eX:Addr}{eV:FuncData}(fi:MCal P w K mg base 1 C "begin" ["self"] (gH C) eX eV){cK:Addr}{cJ:FuncData}(cy:MCal P w K mg base 2 C "step" ["self"] (eC C) cK cJ){dI:Addr}{dH:FuncData}(C_NoText:XCal P w K mg base 1 CNoText "NoText" "at" ["self","at"] dI dH):FnOk P w K mg base (CXV P w) 3 f fd ["reading"] (qS C CNoText):=by
 obtain⟨oQ,mY,nC,oJ⟩:=gE;obtain⟨ck,cc,cj⟩:=bL;obtain⟨fh,eD,fb⟩:=fi;obtain⟨du,dm,dn⟩:=cy;refine F.okV BJ (λvs H Q E h=>?_) (λcdv A outer s H vs Q E hr h=>?_)
 ·obtain⟨p,e,us,rfl,_⟩:=h;rfl
 ·obtain⟨p,e,us,rfl,hA,k1,k2⟩:=h;have big:=sizeLine_eq;obtain⟨dx,pm,d,h1⟩:=hA.ins;obtain⟨ma,ml⟩:=hA.mh
  refine⟨_,(ah (ar (gK (bS (aw oQ (hr.mono) rfl mY nC oJ .nil am (aa (bo (pv 0) R.cl cc ck (hr.mono) cj .nil am) ac))))
   (ae (lu (C:=CNoText) rfl C_NoText.ow PySem.F.excBase_ValueError C_NoText.ok (hr.mono) C_NoText.bd C_NoText.kp (aa (bo (pv 0) R.cl eD fh (hr.mono) fb .nil am) ac)))
   ay)
   (ae (ai (bn lV (by rfl) T.int_ PyProof.Rows.boot_int (aa (bo (pv 0) R.cl dm du (hr.mono) dn .nil am) ac))))),?_⟩
  refine aD (gJ ⟨_,rfl,p,dx,_,rfl,h1,fno bI,p,e,us,rfl,hA,mhd us,rfl,ma,by omega,λH1 s1=>⟨_,rfl,?_⟩⟩);have hA1:=hA.same s1;obtain⟨dx1,pm1,d1,h11⟩:=hA1.ins;cases hN:isN (mhd us)with
  |false =>refine aJ ?_;exact⟨_,rfl,p,dx1,_,rfl,h11,fno cD,p,e,us,rfl,hA1,_,rfl,λd hd=>k2 us (by unfold cN;rw[hN];rfl) _ d (s1.toB.trans (SameB.new hd)) aj⟩
  |true =>
   refine aI ?_;cases us with
   |nil=>exact absurd hN (by decide)
   |cons u r =>have hN':isN u.1=true:=hN;have hu:=hA.is u (by simp);have hD':=lQ (m:=u.1) hN';refine au ⟨_,rfl,p,dx1,_,rfl,h11,fno cI,p,e,u,r,rfl,hA1,λH2 sb2 ra2=>?_⟩;exact⟨_,((NumText.digitsVal u.1:Nat):Int),rfl,by rw[ak];omega,oB hD' hu.1 (by omega),k1 (NumText.digitsVal u.1) r (by unfold cN;rw[hN];rfl) (RM.dv_bits hD' hu.2.1) H2 (s1.toB.trans sb2) ra2⟩
theorem Ht{m:List Nat}(h:isN m=true)(h0:m≠[48]):NumText.digitsVal m≠0:=by
 unfold isN at h
 simp only[Np,NJ,decide_eq_true_eq]at h;obtain⟨⟨hn,hd⟩,hz |hz⟩:=h
 ·exact absurd hz h0
 ·obtain⟨c,r,rfl⟩:=Nz hn;have hc:isD c=true:=ND.mp hd c (by simp);have hc0:c≠48:=λz=>hz (by rw[z];rfl)
  have hcp:0<c-48:=by
   unfold isD at hc
   simp only[Np,decide_eq_true_eq]at hc;exact Nat.sub_pos_of_lt (Nat.lt_of_le_of_ne hc.1 (Ne.symm hc0))
  have mono:∀(l:List Nat) (a:Nat),0<a->0<l.foldl (λacc c=>acc*10+(c-48)) a:=λl=>by
   induction l with
   |nil=>exactλa ha=>ha
   |cons x l ih=>exactλa ha=>ih _ (Nm (Nat.mul_pos ha (by decide)) (Of _ _))
  show(List.foldl (λacc c=>acc*10+(c-48)) 0 (c::r))≠0;have:=mono r (0*10+(c-48)) (by rw[Nat.zero_mul,Nat.zero_add];exact hcp);rw[Ob];exact Nat.ne_of_gt this
def rj(C CN CR:Addr):Sp:=λvs H Q E=>∃(p:Addr) (e:Nat×Nat) (us:List Mk),vs=[.ref p]/\RdA C H p e us/\(∀x r,bF us=.inr (x,r)->x.2≠0->∀(q:Addr) (H':Hp),SameB p H H'->RdA C H' p e r->RA CR H' q (rt x.1 x.2) (rb x.1 x.2)->H q=none->Q (.ref q) H')/\(∀r,bF us=.inl r->XAt CN p E H (mbg e.1 r))
theorem DS{C CRatio CNoText f:Addr}{fd:FuncData}(F:Fun K "read_fraction" "read_fraction" j7 f fd)(T:Txt K mg)(R:QC K mg C){cw:Addr}{cv:FuncData}(bV:MCal P w K mg base 2 C "passes" ["self","mark"] (dP C) cw cv){Jl:Addr}{IF:FuncData}(Mj:CalV P w K mg base 3 "read_whole" ["reading"] (qS C CNoText) Jl IF){ud:Addr}{tT:FuncData}{uu:List Value}(As:KCal P w K mg base 2 CRatio "Ratio" ["self","top","bottom"] (mK CRatio) ud tT uu [.int 1]){bP:Addr}{bO:FuncData}(bL:MCal P w K mg base 1 C "seen" ["self"] (dc C) bP bO){eX:Addr}{eV:FuncData}(fi:MCal P w K mg base 1 C "begin" ["self"] (gH C) eX eV){dI:Addr}{dH:FuncData}(C_NoText:XCal P w K mg base 1 CNoText "NoText" "at" ["self","at"] dI dH):FnOk P w K mg base (CXV P w) 4 f fd ["reading"] (rj C CNoText CRatio):=by
 obtain⟨cG,cE,cF⟩:=bV;obtain⟨Ae,xR,yo,zJ⟩:=Mj;obtain⟨Aq,Ac,ya,KQ,KZ,JX⟩:=As;obtain⟨ck,cc,cj⟩:=bL;obtain⟨fh,eD,fb⟩:=fi;refine F.okV sc_read_fraction (λvs H Q E h=>?_) (λcdv A outer s H vs Q E hr h=>?_)
 ·obtain⟨p,e,us,rfl,_⟩:=h;rfl
 ·obtain⟨p,e,us,rfl,hA,k1,k2⟩:=h;have big:=sizeLine_eq;obtain⟨dx,pm,d,h1⟩:=hA.ins
  refine⟨_,(ah (aF (i:=1) sc_read_fraction.nd rfl (Or.inl rfl) (iy (bS (cM (pv 0) R.cl cE cG (hr.mono) cF .nil am (aa ad ac))) (ft fj af) af))
   (ah (aF (i:=2) sc_read_fraction.nd rfl (Or.inl rfl) (aq pG (pv 1) (aw Ae (hr.mono) rfl xR yo zJ .nil (bh (λ_ _ _ z=>z)) (aa (pv 0) ac))))
   (ah (ar (gK (bS (cM (pv 0) R.cl cE cG (hr.mono) cF .nil am (aa ad ac))))
     (ae (ai (di Ac Aq (hr.mono) rfl ya KZ JX am (aa (pv 2) ac))))
     ay)
   (ah (ar (ao aK (bo (pv 0) R.cl cc ck (hr.mono) cj .nil am) ad (ap _))
     (ae (lu (C:=CNoText) rfl C_NoText.ow PySem.F.excBase_ValueError C_NoText.ok (hr.mono) C_NoText.bd C_NoText.kp (aa (bo (pv 0) R.cl eD fh (hr.mono) fb .nil am) ac)))
     ay)
   (ae (ai (di Ac Aq (hr.mono) rfl ya KQ .nil am (aa (pv 2) (aa (aw Ae (hr.mono) rfl xR yo zJ .nil (bh (λ_ _ _ z=>z)) (aa (pv 0) ac)) ac))))))))),?_⟩
  refine mO (λσ' H'=>∃(sg:Int) (us1:List Mk),σ'=[some (.ref p),some (.int sg),none]/\SameB p H H'/\RdA C H' p e us1/\bF us=dB sg us1/\(sg=1\/sg = -1)) ?_ (λrest=>?_)
  rotate_left
  ·refine cp ⟨_,rfl,p,dx,_,rfl,h1,fno bN,p,e,us,[45],by rw[<- gt];rfl,hA,by decide,λu r eu em H1 sb ra=>⟨_,rfl,aJ ⟨_,rfl,?_⟩⟩,λh4=>⟨_,rfl,aI ?_⟩⟩
   ·subst eu;exact rest _ _ ⟨-1,r,rfl,sb,ra,by unfold bF;rw[if_pos (show mhd (u::r)=[45]from em)];rfl,.inr rfl⟩
   ·exact rest _ _ ⟨1,us,rfl,SameB.refl _ _,hA,by unfold bF;rw[if_neg h4],.inl rfl⟩
  rintro σ' H1 ⟨sg,us1,rfl,sb1,ra1,eF,hsg⟩
  have bs:Bits 2 sg:=by show sg.natAbs<2^2;rcases hsg with rfl |rfl<;>decide
  refine aN ⟨_,rfl,_,rfl,p,e,us1,rfl,ra1,λn r hw hb H2 sb2 ra2=>⟨_,_,rfl,rfl,⟨bs.mono,(gm hb).mono⟩,?_⟩,λr hw=>XAt.step (k2 r (by rw[eF];unfold dB;rw[hw])) sb1⟩;have eF2:bF us=cO (sg*(n:Int)) r:=by rw[eF];unfold dB;rw[hw]
  have sb12:=sb1.trans sb2;obtain⟨dx2,pm2,d2,h12⟩:=ra2.ins;have bt:Bits 2000 (sg*(n:Int)):=(bs.mul (gm hb)).mono;refine aD (gJ ⟨_,rfl,p,dx2,_,rfl,h12,fno bN,p,e,r,[47],by rw[<- gS];rfl,ra2,by decide,λu r2 eu em H3 sb3 ra3=>⟨_,rfl,aI ?_⟩,λh4=>⟨_,rfl,aJ ?_⟩⟩)
  rotate_left
  ·refine au ⟨_,rfl,xP (t:=sg*(n:Int)) (b:=1) (by decide) (Bits.mono (j:=1) (by show(1:Int).natAbs<2^1;decide) (by decide)) λq H4 s4 hq hR=>?_⟩;exact k1 (sg*(n:Int),1) r (by rw[eF2];unfold cO;rw[if_neg h4]) (show(1:Int)≠0 by decide) q H4 (sb12.trans s4.toB) (ra2.same s4) hR (sb12.free hA.isS hq ra2.isS)
  subst eu
  have eF3:bF us=if mhd r2=[48]then .inl r2 else match cN r2 with
   |.inl r=>.inl r
   |.inr (m,r)=>.inr ((sg*(n:Int),(m:Int)),r):=by
   rw[eF2];unfold cO;rw[if_pos (show mhd (u::r2)=[47]from em)];rfl
  have sb13:=sb12.trans sb3;obtain⟨dx3,pm3,d3,h13⟩:=ra3.ins;refine aD ⟨_,rfl,p,dx3,_,rfl,h13,fno bI,p,e,r2,rfl,ra3,rfl,_,rfl,aC (λh0=>?_) (λh0=>?_)⟩
  ·have h0':mhd r2=[48]:=stL_inj.mp ((V.str.inj h0).trans eJ);exact⟨_,rfl,p,dx3,_,rfl,h13,fno cD,p,e,r2,rfl,ra3,_,rfl,λd hd=>(XAt.step (k2 r2 (by rw[eF3,if_pos h0'])) sb13) _ d (SameB.new hd) aj⟩
  ·have h0':mhd r2≠[48]:=λz=>h0 (by rw[z,<- eJ])
   refine au ⟨_,rfl,_,rfl,p,e,r2,rfl,ra3,λm r3 hw3 hb3 H4 sb4 ra4=>?_,λr3 hw3=>XAt.step (k2 r3 (by rw[eF3,if_neg h0',hw3])) sb13⟩;have sb14:=sb13.trans sb4
   have hm0:(m:Int)≠0:=by
    unfold cN at hw3
    split at hw3
    ·rename_i hN
     cases hw3;have:=Ht hN h0';omega
    ·cases hw3
   refine xP (t:=sg*(n:Int)) (b:=(m:Int)) hm0 ((gm hb3).mono) λq H5 s5 hq hR=>?_
   exact k1 (sg*(n:Int),(m:Int)) r3 (by rw[eF3,if_neg h0',hw3]) hm0 q H5 (sb14.trans s5.toB) (ra4.same s5) hR (sb14.free hA.isS hq ra4.isS)
theorem gT:(Str.ofString "..":Str)=stL [46,46]:=by decide +kernel
theorem Ct{row:List Int}{c:Cfg}(h1:Tr row)(h2:row.length<=9)(h3:∀n,cf row n=c.fin n):row=cS c:=by
 refine zh h1 (ic _) λk=>?_
 unfold cS;rw[oE,qk];split
 ·exact h3 k
 ·exact eY (by omega)
def GtH(CG CR av:Addr)(H:Hp)(kp:List Int)(l h:Int×Int)(q:Addr):Prop:=q≠av/\∃dx pk pl ph,H q=some (.ins CG dx (d8 pk pl ph))/\pk≠av/\H pk=some (.lst (kp.map V.int))/\pl≠av/\RA CR H pl (rt l.1 l.2) (rb l.1 l.2)/\ph≠av/\RA CR H ph (rt h.1 h.2) (rb h.1 h.2)
def mL(C CN CG CR:Addr):Sp:=λvs H Q E=>∃(pr:Addr) (e:Nat×Nat) (us:List Mk),vs=[.ref pr]/\RdA C H pr e us/\e.2<=10/\(∀kp l h r,bE (decide (e.2<10)) us=.inr (.given kp l h,r)->∀(q:Addr) (H':Hp),SameB pr H H'->RdA C H' pr e r->GtH CG CR pr H' kp l h q->H q=none->Q (.ref q) H')/\(∀r,bE (decide (e.2<10)) us=.inl r->XAt CN pr E H (mbg e.1 r))
theorem RdA.nn{C:Addr}{H:Hp}{p q:Addr}{e:Nat×Nat}{us:List Mk}(h:RdA C H p e us)(hq:H q=none):q≠p:=λz=>by obtain⟨dx,pm,d,h1⟩:=h.ins;rw[z,h1]at hq;cases hq
theorem RA.sb{C p0:Addr}{H H':Hp}{p:Addr}{t b:Int}(h:RA C H p t b)(s:SameB p0 H H')(n:p≠p0):RA C H' p t b:=let⟨dx,e⟩:=h;⟨dx,s _ _ n e⟩
theorem ly{α:Type}{m:List Nat}{us:List Mk}{k:List Mk->Res α}(h:mhd us=m):aW m us k=k us.tail:=if_pos h
theorem lz{α:Type}{m:List Nat}{us:List Mk}{k:List Mk->Res α}(h:mhd us≠m):aW m us k=.inl us:=if_neg h
theorem DR{C CRatio CGiven CNoText f:Addr}{fd:FuncData}(F:Fun K "read_given" "read_given" j6 f fd)(T:Txt K mg)(R:QC K mg C){jl:Addr}{iX:FuncData}(jH:MCalV P w K mg base 4 C "enter" ["self"] (jQ C CNoText) jl iX){Jm:Addr}{IG:FuncData}(Ml:CalV P w K mg base 6 "read_terms" ["reading"] (qO C CNoText) Jm IG){jm:Addr}{iY:FuncData}(jI:MCalV P w K mg base 3 C "demand" ["self","mark"] (jR C CNoText) jm iY){Jq:Addr}{IJ:FuncData}(Mo:CalV P w K mg base 4 "read_fraction" ["reading"] (rj C CNoText CRatio) Jq IJ){jk:Addr}{iW:FuncData}(jG:MCalV P w K mg base 4 C "leave" ["self"] (jO C CNoText) jk iW){um:Addr}{t0:FuncData}{uv:List Value}(Au:KCal P w K mg base 1 CGiven "Given" ["self","row","low","high"] (pp CGiven) um t0 uv []):FnOk P w K mg base (CXV P w) 7 f fd ["reading"] (mL C CNoText CGiven CRatio):=by
 obtain⟨u8,si,uM⟩:=jH;obtain⟨LC,FU,GX,Kn⟩:=Ml;obtain⟨ib,gR,hU⟩:=jI;obtain⟨Ai,xW,yt,zN⟩:=Mo;obtain⟨u0,sh,uL⟩:=jG;obtain⟨Me,Ly,GC,KY,Nd,M2⟩:=Au;refine F.okV sc_read_given (λvs H Q E h=>?_) (λcdv A outer s H vs Q E hr h=>?_)
 ·obtain⟨p,e,us,rfl,_⟩:=h;rfl
 ·obtain⟨p,e,us,rfl,hA,he,k1,k2⟩:=h;obtain⟨dx,pm,d,h1⟩:=hA.ins
  refine⟨_,(ah (cH (bo (pv 0) R.cl si u8 (hr.mono) uM .nil (bh (λ_ _ _ z=>z))))
   (ah (aF (i:=1) sc_read_given.nd rfl (Or.inl rfl) (aw LC (hr.mono) rfl FU GX Kn .nil (bh (λ_ _ _ z=>z)) (aa (pv 0) ac)))
   (ah (cH (cM (pv 0) R.cl gR ib (hr.mono) hU .nil (bh (λ_ _ _ z=>z)) (aa ad ac)))
   (ah (aF (i:=2) sc_read_given.nd rfl (Or.inl rfl) (aw Ai (hr.mono) rfl xW yt zN .nil (bh (λ_ _ _ z=>z)) (aa (pv 0) ac)))
   (ah (cH (cM (pv 0) R.cl gR ib (hr.mono) hU .nil (bh (λ_ _ _ z=>z)) (aa ad ac)))
   (ah (aF (i:=3) sc_read_given.nd rfl (Or.inl rfl) (aw Ai (hr.mono) rfl xW yt zN .nil (bh (λ_ _ _ z=>z)) (aa (pv 0) ac)))
   (ah (cH (bo (pv 0) R.cl sh u0 (hr.mono) uL .nil (bh (λ_ _ _ z=>z))))
   (ae (ai (di Ly Me (hr.mono) rfl GC KY .nil am (aa (pv 1) (aa (pv 2) (aa (pv 3) ac))))))))))))),?_⟩
  refine df ⟨_,rfl,p,dx,_,rfl,h1,fno rW,p,e,us,rfl,hA,he,λlt em H1 sb1 ra1=>?_,λlt em=>k2 us (by unfold bE;rw[decide_eq_true lt,if_pos rfl];exact lz em),λeq=>k2 us (by unfold bE;rw[decide_eq_false (by omega),if_neg (by decide)])⟩
  have eG:bE (decide (e.2<10)) us=aM (dC us.tail) λkp u2=>aW [44] u2 λu3=>aM (bF u3) λl u4=>aW [46,46] u4 λu5=>aM (bF u5) λh u6=>aW [41] u6 λu7=>.inr (.given kp l h,u7):=by unfold bE;rw[decide_eq_true lt,if_pos rfl];exact ly em
  have bad:∀{H':Hp} {r:List Mk},SameB p H H'->bE (decide (e.2<10)) us=.inl r->XAt CNoText p E H' (mbg e.1 r):=λs z=>XAt.step (k2 _ z) s
  refine aN ⟨_,rfl,p,(e.1,e.2+1),us.tail,rfl,ra1,λc r hgo hop q H2 row sb2 ra2 hq eq trr h9 hcf=>?_,λc r hgo hop=>bad sb1 (by rw[eG];unfold dC;rw[hgo,if_pos hop];rfl)⟩;have hrow:=Ct trr h9 hcf;subst hrow
  have e2:bE (decide (e.2<10)) us=aW [44] r λu3=>aM (bF u3) λl u4=>aW [46,46] u4 λu5=>aM (bF u5) λh u6=>aW [41] u6 λu7=>.inr (.given (cS c) l h,u7):=by rw[eG];unfold dC;rw[hgo,if_neg (by rw[hop];decide)];rfl
  have sb12:=sb1.trans sb2;obtain⟨dx2,pm2,d2,h12⟩:=ra2.ins;refine df ⟨_,rfl,p,dx2,_,rfl,h12,fno dk,p,_,r,[44],by rw[<- yg];rfl,ra2,by decide,λu r3 eu em3 H3 sb3 ra3=>?_,λz=>bad sb12 (by rw[e2];exact lz z)⟩
  have e3:bE (decide (e.2<10)) us=aM (bF r3) λl u4=>aW [46,46] u4 λu5=>aM (bF u5) λh u6=>aW [41] u6 λu7=>.inr (.given (cS c) l h,u7):=by rw[e2];rw[ly (by rw[eu];exact em3)];rw[eu];rfl
  have sb13:=sb12.trans sb3;have eq3:=sb3 _ _ (ra2.lst_ne eq) eq;refine aN ⟨_,rfl,p,_,r3,rfl,ra3,λx r4 hx x0 pl H4 sb4 ra4 hR4 hpl=>?_,λr4 hx=>bad sb13 (by rw[e3,hx];rfl)⟩
  have e4:bE (decide (e.2<10)) us=aW [46,46] r4 λu5=>aM (bF u5) λh u6=>aW [41] u6 λu7=>.inr (.given (cS c) x h,u7):=by rw[e3,hx];rfl
  have npl:=ra3.nn hpl;have sb14:=sb13.trans sb4;have eq4:=sb4 _ _ (ra3.lst_ne eq3) eq3;obtain⟨dx4,pm4,d4,h14⟩:=ra4.ins;refine df ⟨_,rfl,p,dx4,_,rfl,h14,fno dk,p,_,r4,[46,46],by rw[<- gT];rfl,ra4,by decide,λu5 r5 eu5 em5 H5 sb5 ra5=>?_,λz=>bad sb14 (by rw[e4];exact lz z)⟩
  have e5:bE (decide (e.2<10)) us=aM (bF r5) λh u6=>aW [41] u6 λu7=>.inr (.given (cS c) x h,u7):=by rw[e4];rw[ly (by rw[eu5];exact em5)];rw[eu5];rfl
  have sb15:=sb14.trans sb5;have eq5:=sb5 _ _ (ra4.lst_ne eq4) eq4;have hR5:=hR4.sb sb5 npl;refine aN ⟨_,rfl,p,_,r5,rfl,ra5,λy r6 hy y0 ph H6 sb6 ra6 hR6 hph=>?_,λr6 hy=>bad sb15 (by rw[e5,hy];rfl)⟩
  have e6:bE (decide (e.2<10)) us=aW [41] r6 λu7=>.inr (.given (cS c) x y,u7):=by rw[e5,hy];rfl
  have nph:=ra5.nn hph;have sb16:=sb15.trans sb6;have eq6:=sb6 _ _ (ra5.lst_ne eq5) eq5;have hR6':=hR5.sb sb6 npl;obtain⟨dx6,pm6,d6,h16⟩:=ra6.ins;refine df ⟨_,rfl,p,dx6,_,rfl,h16,fno xp,p,e,r6,rfl,ra6,λem7 H7 sb7 ra7=>?_,λz=>bad sb16 (by rw[e6];exact lz z)⟩
  have e7:bE (decide (e.2<10)) us=.inr (.given (cS c) x y,r6.tail):=by rw[e6];exact ly em7
  have sb17:=sb16.trans sb7;have eq7:=sb7 _ _ (ra6.lst_ne eq6) eq6;have hR7:=hR6'.sb sb7 npl;have hS7:=hR6.sb sb7 nph;refine au ⟨_,rfl,_,rfl,_,rfl,λz dz hz hdz nez=>?_⟩
  have s8:Same H7 (upd (upd H7 dz (.own z)) z (.ins CGiven dz [])):=λb o e=>by rw[upd_ne (bj e hz),upd_ne (bj e hdz)];exact e
  refine⟨z,dz,q,pl,ph,_,rfl,aj,s8 _ _ eq7,λpk hpk=>⟨rfl,?_⟩⟩;have s9:=Same.upd_new (o:=.lst ((cS c).map V.int)) hpk;have nzk:pk≠z:=λe=>by rw[e,aj]at hpk;cases hpk
  have s10:Same H7 (upd (upd (upd (upd H7 dz (.own z)) z (.ins CGiven dz [])) pk (.lst ((cS c).map V.int))) z (.ins CGiven dz (d8 pk pl ph))):=λb o e=>by rw[upd_ne (bj e hz)];exact(s8.trans s9) _ _ e
  have nk:pk≠p:=λe=>by obtain⟨_,_,_,h17⟩:=ra7.ins;rw[e,s8 _ _ h17]at hpk;cases hpk
  exact k1 _ _ _ _ e7 z _ (sb17.trans s10.toB) (ra7.same s10) ⟨ra7.nn hz,dz,pk,pl,ph,aj,nk,by rw[upd_ne nzk];exact aj,npl,hR7.same s10,nph,hS7.same s10⟩ (sb17.free hA.isS hz ra7.isS)
theorem Fi{f:Addr}{fd:FuncData}(F:Fun K "read_sum" "read_sum" fo f fd){k:Nat}:FnOk P w K mg base (CXV P w) (k+1) f fd ["reading"] vO:=F.okV sc_read_sum (λ_ _ _ _ h=>h.elim) (λ_ _ _ _ _ _ _ _ _ h=>h.elim)
theorem wX(m:Nat)(us:List Mk):pBr (So (m+1)) us=aW [40] us λu1=>aM (pS m u1) λt u2=>aW [41] u2 λu3=>.inr (t,u3):=rfl
theorem DV{tc:TC}{n:Nat}{C CNoText f:Addr}{fd:FuncData}(F:Fun K "read_brackets" "read_brackets" fN f fd)(T:Txt K mg)(R:QC K mg C){jl:Addr}{iX:FuncData}(jH:MCalV P w K mg base 4 C "enter" ["self"] (jQ C CNoText) jl iX){jk:Addr}{iW:FuncData}(jG:MCalV P w K mg base 4 C "leave" ["self"] (jO C CNoText) jk iW){gW:Addr}{gU:FuncData}(C_read_sum:CalV P w K mg base (6*n+6) "read_sum" ["reading"] (spS C CNoText tc n) gW gU):FnOk P w K mg base (CXV P w) (6*n+7) f fd ["reading"] (spP C CNoText tc (pBr (So n)) n):=by
 obtain⟨u8,si,uM⟩:=jH;obtain⟨u0,sh,uL⟩:=jG;obtain⟨uR,sA,sV,uC⟩:=C_read_sum;refine F.okV sc_read_brackets (λvs H Q E h=>?_) (λcdv A outer s H vs Q E hr h=>?_)
 ·obtain⟨p,e,us,rfl,_⟩:=h;rfl
 ·obtain⟨p,e,us,rfl,hA,he,k1,k2⟩:=h;obtain⟨dx,pm,d,h1⟩:=hA.ins
  refine⟨_,(ah (cH (bo (pv 0) R.cl si u8 (hr.mono (by omega)) uM .nil (bh (λ_ _ _ z=>z))))
   (ah (aF (i:=1) sc_read_brackets.nd rfl (Or.inl rfl) (aw uR (hr.mono (by omega)) rfl sA sV uC .nil (bh (λ_ _ _ z=>z)) (aa (pv 0) ac)))
   (ah (cH (bo (pv 0) R.cl sh u0 (hr.mono (by omega)) uL .nil (bh (λ_ _ _ z=>z))))
   (ae (ai (pv 1)))))),?_⟩
  cases n with
  |zero=>exact df ⟨_,rfl,p,dx,_,rfl,h1,fno rW,p,e,us,rfl,hA,by omega,λlt=>absurd lt (by omega),λlt=>absurd lt (by omega),λ_=>k2 us rfl⟩
  |succ m =>
   refine df ⟨_,rfl,p,dx,_,rfl,h1,fno rW,p,e,us,rfl,hA,by omega,λlt em H1 sb1 ra1=>?_,λlt em=>k2 us (by rw[wX];exact lz em),λz=>absurd z (by omega)⟩;have eB:pBr (So (m+1)) us=aM (pS m us.tail) λt u2=>aW [41] u2 λu3=>.inr (t,u3):=by rw[wX];exact ly em
   refine aN ⟨_,rfl,p,(e.1,e.2+1),us.tail,rfl,ra1,by show e.2+1+m=10;omega,λt r ht q H2 sb2 ra2 hT hq=>?_,λr ht=>XAt.step (k2 r (by rw[eB,ht];rfl)) sb1⟩;obtain⟨dx2,pm2,d2,h12⟩:=ra2.ins;have e2:pBr (So (m+1)) us=aW [41] r λu3=>.inr (t,u3):=by rw[eB,ht];rfl
   refine df ⟨_,rfl,p,dx2,_,rfl,h12,fno xp,p,e,r,rfl,ra2,λem3 H3 sb3 ra3=>?_,λz=>XAt.step (k2 r (by rw[e2];exact lz z)) (sb1.trans sb2)⟩;exact⟨_,rfl,k1 t r.tail (by rw[e2];exact ly em3) q H3 ((sb1.trans sb2).trans sb3) ra3 (hT.sb sb3) (sb1.free hA.isS hq ra1.isS)⟩
theorem DW{tc:TC}{n:Nat}{C CWhole CNamed CRooted CGiven CRatio CNoText f:Addr}{fd:FuncData}(F:Fun K "read_atom" "read_atom" fO f fd)(T:Txt K mg)(R:QC K mg C)(ew:tc.wh=CWhole)(en:tc.na=CNamed)(er:tc.ro=CRooted)(eg:tc.gi=CGiven)(ea:tc.ra=CRatio){gB:Addr}{gz:FuncData}(gE:Cal P w K mg base 2 "is_whole" ["word"] ir gB gz){bP:Addr}{bO:FuncData}(bL:MCal P w K mg base 1 C "seen" ["self"] (dc C) bP bO){jg:Addr}{iS:FuncData}{ju:List Value}(lZ:KCal P w K mg base 1 CWhole "Whole" ["self","value"] (cm CWhole "value") jg iS ju []){cK:Addr}{cJ:FuncData}(cy:MCal P w K mg base 2 C "step" ["self"] (eC C) cK cJ){ot:Addr}{n6:FuncData}(oV:Cal P w K mg base 2 "is_name" ["word"] mJ ot n6){jp:Addr}{ja:FuncData}{jA:List Value}(mr:KCal P w K mg base 1 CNamed "Named" ["self","word"] (cm CNamed "word") jp ja jA []){cw:Addr}{cv:FuncData}(bV:MCal P w K mg base 2 C "passes" ["self","mark"] (dP C) cw cv){jj:Addr}{iV:FuncData}{jx:List Value}(mf:KCal P w K mg base 1 CRooted "Rooted" ["self","one","exponent"] (aV CRooted "one" "power") jj iV jx []){oh:Addr}{nV:FuncData}(oT:CalV P w K mg base 7 "read_given" ["reading"] (mL C CNoText CGiven CRatio) oh nV){oj:Addr}{nX:FuncData}(C_read_brackets:CalV P w K mg base (6*n+7) "read_brackets" ["reading"] (spP C CNoText tc (pBr (So n)) n) oj nX):FnOk P w K mg base (CXV P w) (6*n+8) f fd ["reading"] (spP C CNoText tc (br (So n)) n):=by
 obtain⟨oQ,mY,nC,oJ⟩:=gE;obtain⟨ck,cc,cj⟩:=bL;obtain⟨LZ,Lo,Gp,KL,M3,MS⟩:=lZ;obtain⟨du,dm,dn⟩:=cy;obtain⟨LL,Ga,G4,Ku⟩:=oV;obtain⟨Ma,Lv,Gx,KT,Na,MZ⟩:=mr;obtain⟨cG,cE,cF⟩:=bV;obtain⟨Ao,Ab,x9,zT,M6,MV⟩:=mf;obtain⟨LD,FV,GY,Ko⟩:=oT;obtain⟨uV,sG,sZ,uG⟩:=C_read_brackets;subst ew en er eg ea;refine F.okV BN (λvs H Q E h=>?_) (λcdv A outer s H vs Q E hr h=>?_)
 ·obtain⟨p,e,us,rfl,_⟩:=h;rfl
 ·obtain⟨p,e,us,rfl,hA,he,k1,k2⟩:=h;have big:=sizeLine_eq;obtain⟨dx,pm,d,h1⟩:=hA.ins;obtain⟨ma,ml⟩:=hA.mh
  refine⟨_,(ah (ar (bS (aw oQ (hr.mono (by omega)) rfl mY nC oJ .nil am (aa (bo (pv 0) R.cl cc ck (hr.mono (by omega)) cj .nil am) ac)))
   (ae (ai (di Lo LZ (hr.mono (by omega)) rfl Gp KL .nil am (aa (bn lV (by rfl) T.int_ PyProof.Rows.boot_int (aa (bo (pv 0) R.cl dm du (hr.mono (by omega)) dn .nil am) ac)) ac))))
   ay)
   (ah (ar (bS (aw LL (hr.mono (by omega)) rfl Ga G4 Ku .nil am (aa (bo (pv 0) R.cl cc ck (hr.mono (by omega)) cj .nil am) ac)))
     (ae (ai (di Lv Ma (hr.mono (by omega)) rfl Gx KT .nil am (aa (bo (pv 0) R.cl dm du (hr.mono (by omega)) dn .nil am) ac))))
     ay)
   (ah (ar (bS (cM (pv 0) R.cl cE cG (hr.mono (by omega)) cF .nil am (aa ad ac)))
     (ae (ai (di Ab Ao (hr.mono (by omega)) rfl x9 zT .nil am (aa (aw uV (hr.mono (by omega)) rfl sG sZ uG .nil (bh (λ_ _ _ z=>z)) (aa (pv 0) ac)) (aa af ac)))))
     ay)
   (ah (ar (bS (cM (pv 0) R.cl cE cG (hr.mono (by omega)) cF .nil am (aa ad ac)))
     (ae (ai (di Ab Ao (hr.mono (by omega)) rfl x9 zT .nil am (aa (aw uV (hr.mono (by omega)) rfl sG sZ uG .nil (bh (λ_ _ _ z=>z)) (aa (pv 0) ac)) (aa af ac)))))
     ay)
   (ah (ar (bS (cM (pv 0) R.cl cE cG (hr.mono (by omega)) cF .nil am (aa ad ac)))
     (ae (ai (aw LD (hr.mono (by omega)) rfl FV GY Ko .nil (bh (λ_ _ _ z=>z)) (aa (pv 0) ac))))
     ay)
   (ae (ai (aw uV (hr.mono (by omega)) rfl sG sZ uG .nil (bh (λ_ _ _ z=>z)) (aa (pv 0) ac))))))))),?_⟩
  refine aD ⟨_,rfl,p,dx,_,rfl,h1,fno bI,p,e,us,rfl,hA,mhd us,rfl,ma,by omega,λH1 s1=>⟨_,rfl,?_⟩⟩;have hA1:=hA.same s1;obtain⟨dx1,pm1,d1,h11⟩:=hA1.ins;cases hN:isN (mhd us)with
  |true =>
   refine aJ ?_;cases us with
   |nil=>exact absurd hN (by decide)
   |cons u r =>have hN':isN u.1=true:=hN;have hu:=hA.is u (by simp);have hD':=lQ (m:=u.1) hN';refine⟨_,rfl,p,dx1,_,rfl,h11,fno cI,p,e,u,r,rfl,hA1,λH2 sb2 ra2=>?_⟩;refine⟨_,((NumText.digitsVal u.1:Nat):Int),rfl,by rw[ak];omega,oB hD' hu.1 (by omega),sx (a:=.int ((NumText.digitsVal u.1:Nat):Int)) λx H3 dx3 s3 hx ex=>?_⟩;have sb:=(s1.toB.trans sb2);exact k1 (.whole (NumText.digitsVal u.1)) r (by unfold br;rw[hN];rfl) x H3 (sb.trans s3.toB) (ra2.same s3) ⟨ra2.nn hx,dx3,ex⟩ (sb.free hA.isS hx ra2.isS)
  |false =>
  refine aI ?_;refine aD ⟨_,rfl,p,dx1,_,rfl,h11,fno bI,p,e,us,rfl,hA1,mhd us,rfl,ma,by omega,λH2 s2=>⟨_,rfl,?_⟩⟩;have hA2:=hA1.same s2;have s12:=s1.trans s2;obtain⟨dx2,pm2,d2,h12⟩:=hA2.ins;cases hM:bu (mhd us)with
  |true =>
   refine aJ ?_;cases us with
   |nil=>exact absurd hM (by decide)
   |cons u r =>
    refine⟨_,rfl,p,dx2,_,rfl,h12,fno cI,p,e,u,r,rfl,hA2,λH3 sb3 ra3=>?_⟩;refine sx (a:=.str (stL u.1)) λx H4 dx4 s4 hx ex=>?_
    have sb:=(s12.toB.trans sb3);exact k1 (.named u.1) r (by unfold br;rw[hN,hM];rfl) x H4 (sb.trans s4.toB) (ra3.same s4) ⟨ra3.nn hx,dx4,ex⟩ (sb.free hA.isS hx ra3.isS)
  |false =>
  refine aI ?_
  have eA:br (So n) us=if mhd us=wSqrt then aM (pBr (So n) us.tail) λt r=>.inr (.rooted t 2,r)
   else if mhd us=wCbrt then aM (pBr (So n) us.tail) λt r=>.inr (.rooted t 3,r)
   else if mhd us=wRoot then bE (So n).isSome us.tail
   else pBr (So n) us:=by
   unfold br;rw[hN,hM];rfl
  have rooted:∀(k:Nat) (H3:Hp) (r:List Mk),SameB p H H3->RdA C H3 p e r->br (So n) us=aM (pBr (So n) r) (λt r=>.inr (.rooted t k,r))->spP C CNoText tc (pBr (So n)) n [.ref p] H3 (λv H4=>∃a,v=.ref a/\∀x dx:Addr,H4 x=none->H4 dx=none->dx≠x->aV tc.ro "one" "power" (.ref x::([.ref a,.int (k:Nat)]++[])) (upd (upd H4 dx (.own x)) x (.ins tc.ro dx [])) (λv H5=>v=.non/\Q (.ref x) H5) E) E:=λk H3 r sb3 ra3 eK=>by refine⟨p,e,r,rfl,ra3,he,λt r4 ht q H4 sb4 ra4 hT hq=>⟨q,rfl,lI (a:=.ref q) (b:=.int (k:Nat)) λx H5 dx5 s5 hx ex=>?_⟩,λr4 ht=>XAt.step (k2 r4 (by rw[eK,ht];rfl)) sb3⟩;have sb:=sb3.trans sb4;exact k1 (.rooted t k) r4 (by rw[eK,ht];rfl) x H5 (sb.trans s5.toB) (ra4.same s5) ⟨ra4.nn hx,dx5,q,ex,hT.same s5⟩ (sb.free hA.isS hx ra4.isS)
  refine aD ⟨_,rfl,p,dx2,_,rfl,h12,fno bN,p,e,us,wSqrt,by rw[<- nj];rfl,hA2,by decide,λu r eu em H3 sb3 ra3=>⟨_,rfl,aJ ?_⟩,λh4=>⟨_,rfl,aI ?_⟩⟩
  ·subst eu;have sb:=s12.toB.trans sb3;obtain⟨p',e',us',z1,z2,z3,z4,z5⟩:=rooted 2 H3 r sb ra3 (by rw[eA,if_pos (show mhd (u::r)=wSqrt from em)];rfl);refine⟨_,rfl,p',e',us',z1,z2,z3,λt r4 ht q H4 a b c d=>?_,z5⟩;obtain⟨_,z,w⟩:=z4 t r4 ht q H4 a b c d;cases z;exact w
  refine aD ⟨_,rfl,p,dx2,_,rfl,h12,fno bN,p,e,us,wCbrt,by rw[<- nu];rfl,hA2,by decide,λu r eu em H3 sb3 ra3=>⟨_,rfl,aJ ?_⟩,λh5=>⟨_,rfl,aI ?_⟩⟩
  ·subst eu;have sb:=s12.toB.trans sb3;obtain⟨p',e',us',z1,z2,z3,z4,z5⟩:=rooted 3 H3 r sb ra3 (by rw[eA,if_neg h4,if_pos (show mhd (u::r)=wCbrt from em)];rfl);refine⟨_,rfl,p',e',us',z1,z2,z3,λt r4 ht q H4 a b c d=>?_,z5⟩;obtain⟨_,z,w⟩:=z4 t r4 ht q H4 a b c d;cases z;exact w
  refine aD ⟨_,rfl,p,dx2,_,rfl,h12,fno bN,p,e,us,wRoot,by rw[<- pU];rfl,hA2,by decide,λu r eu em H3 sb3 ra3=>⟨_,rfl,aJ ?_⟩,λh6=>⟨_,rfl,aI ?_⟩⟩
  ·subst eu;have sb:=s12.toB.trans sb3
   have eG:br (So n) (u::r)=bE (decide (e.2<10)) r:=by
    rw[eA,if_neg h4,if_neg h5,if_pos (show mhd (u::r)=wRoot from em)];show bE (So n).isSome r=_
    congr 1
    cases n with
    |zero=>rw[decide_eq_false (by omega)];rfl
    |succ m=>rw[decide_eq_true (by omega)];rfl
   refine⟨_,rfl,p,e,r,rfl,ra3,by omega,λkp l h r4 hg q H4 sb4 ra4 hT hq=>k1 (.given kp l h) r4 (by rw[eG,hg]) q H4 (sb.trans sb4) ra4 hT (sb.free hA.isS hq ra3.isS),λr4 hg=>XAt.step (k2 r4 (by rw[eG,hg])) sb⟩
  ·have eB:br (So n) us=pBr (So n) us:=by rw[eA,if_neg h4,if_neg h5,if_neg h6]
   exact⟨_,rfl,p,e,us,rfl,hA2,he,λt r ht q H4 sb4 ra4 hT hq=>k1 t r (by rw[eB,ht]) q H4 (s12.toB.trans sb4) ra4 hT (s12.toB.free hA.isS hq hA2.isS),λr ht=>XAt.step (k2 r (by rw[eB,ht])) s12.toB⟩
theorem DP{tc:TC}{n:Nat}{C CPower CNoText f:Addr}{fd:FuncData}(F:Fun K "read_power" "read_power" fL f fd)(T:Txt K mg)(R:QC K mg C)(ew:tc.po=CPower){ol:Addr}{nY:FuncData}(C_read_atom:CalV P w K mg base (6*n+8) "read_atom" ["reading"] (spP C CNoText tc (br (So n)) n) ol nY){cw:Addr}{cv:FuncData}(bV:MCal P w K mg base 2 C "passes" ["self","mark"] (dP C) cw cv){jd:Addr}{iP:FuncData}(jF:CalV P w K mg base 3 "read_exponent" ["reading"] (jP C CNoText) jd iP){jn:Addr}{iZ:FuncData}{jy:List Value}(mj:KCal P w K mg base 1 CPower "Power" ["self","one","exponent"] (aV CPower "one" "power") jn iZ jy []):FnOk P w K mg base (CXV P w) (6*n+9) f fd ["reading"] (spP C CNoText tc (bZ (So n)) n):=by
 obtain⟨LE,FW,GZ,Kp⟩:=C_read_atom;obtain⟨cG,cE,cF⟩:=bV;obtain⟨uU,sF,sY,uF⟩:=jF;obtain⟨L8,Ls,Gv,KR,M8,MX⟩:=mj;subst ew;refine F.okV sc_read_power (λvs H Q E h=>?_) (λcdv A outer s H vs Q E hr h=>?_)
 ·obtain⟨p,e,us,rfl,_⟩:=h;rfl
 ·obtain⟨p,e,us,rfl,hA,he,k1,k2⟩:=h
  refine⟨_,(ah (aF (i:=1) sc_read_power.nd rfl (Or.inl rfl) (aw LE (hr.mono (by omega)) rfl FW GZ Kp .nil (bh (λ_ _ _ z=>z)) (aa (pv 0) ac)))
   (ah (ar (bS (cM (pv 0) R.cl cE cG (hr.mono (by omega)) cF .nil am (aa ad ac)))
     (ae (ai (di Ls L8 (hr.mono (by omega)) rfl Gv KR .nil am (aa (pv 1) (aa (aw uU (hr.mono (by omega)) rfl sF sY uF .nil (bh (λ_ _ _ z=>z)) (aa (pv 0) ac)) ac)))))
     ay)
   (ae (ai (pv 1))))),?_⟩
  refine aN ⟨_,rfl,p,e,us,rfl,hA,he,λt r ht q H1 sb1 ra1 hT hq=>?_,λr ht=>k2 r (by unfold bZ;rw[ht];rfl)⟩;have eP:bZ (So n) us=dR t r:=by unfold bZ;rw[ht];rfl
  obtain⟨dx1,pm1,d1,h11⟩:=ra1.ins;refine aD ⟨_,rfl,p,dx1,_,rfl,h11,fno bN,p,e,r,[94],by rw[<- iI];rfl,ra1,by decide,λu r2 eu em H2 sb2 ra2=>⟨_,rfl,aJ ?_⟩,λh4=>⟨_,rfl,aI ?_⟩⟩
  ·subst eu;have sb:=sb1.trans sb2
   have eL:bZ (So n) us=if isE (mhd r2)then .inr (.power t (NumText.digitsVal (mhd r2)),r2.tail)else .inl r2:=by rw[eP];unfold dR;rw[if_pos (show mhd (u::r2)=[94]from em)];rfl
   refine⟨_,rfl,_,rfl,p,e,r2,rfl,ra2,λu3 r3 eu3 hE H3 sb3 ra3=>lI (a:=.ref q) (b:=.int (NumText.digitsVal u3.1:Nat)) λx H4 dx4 s4 hx ex=>?_,λhE=>XAt.step (k2 r2 (by rw[eL,hE];rfl)) sb⟩;subst eu3;have sbb:=sb.trans sb3;exact k1 (.power t (NumText.digitsVal u3.1)) r3 (by rw[eL,show isE (mhd (u3::r3))=true from hE];rfl) x H4 (sbb.trans s4.toB) (ra3.same s4) ⟨ra3.nn hx,dx4,q,ex,((hT.sb sb2).sb sb3).same s4⟩ (sbb.free hA.isS hx ra3.isS)
  ·exact⟨_,rfl,k1 t r (by rw[eP];unfold dR;rw[if_neg h4]) q H1 sb1 ra1 hT hq⟩
theorem DT{tc:TC}{n:Nat}{C CMinus CNoText f:Addr}{fd:FuncData}(F:Fun K "read_factor" "read_factor" fM f fd)(T:Txt K mg)(R:QC K mg C)(ew:tc.mi=CMinus){cw:Addr}{cv:FuncData}(bV:MCal P w K mg base 2 C "passes" ["self","mark"] (dP C) cw cv){jq:Addr}{jb:FuncData}{jB:List Value}(mv:KCal P w K mg base 1 CMinus "Minus" ["self","one"] (cm CMinus "one") jq jb jB []){og:Addr}{nU:FuncData}(C_read_power:CalV P w K mg base (6*n+9) "read_power" ["reading"] (spP C CNoText tc (bZ (So n)) n) og nU):FnOk P w K mg base (CXV P w) (6*n+10) f fd ["reading"] (spP C CNoText tc (aX (So n)) n):=by
 obtain⟨cG,cE,cF⟩:=bV;obtain⟨Mc,Lw,Gy,KU,Nb,M0⟩:=mv;obtain⟨Ag,xT,yq,zL⟩:=C_read_power;subst ew;refine F.okV BL (λvs H Q E h=>?_) (λcdv A outer s H vs Q E hr h=>?_)
 ·obtain⟨p,e,us,rfl,_⟩:=h;rfl
 ·obtain⟨p,e,us,rfl,hA,he,k1,k2⟩:=h;obtain⟨dx,pm,d,h1⟩:=hA.ins
  refine⟨_,(ah (ar (bS (cM (pv 0) R.cl cE cG (hr.mono (by omega)) cF .nil am (aa ad ac)))
   (ae (ai (di Lw Mc (hr.mono (by omega)) rfl Gy KU .nil am (aa (aw Ag (hr.mono (by omega)) rfl xT yq zL .nil (bh (λ_ _ _ z=>z)) (aa (pv 0) ac)) ac))))
   ay)
   (ae (ai (aw Ag (hr.mono (by omega)) rfl xT yq zL .nil (bh (λ_ _ _ z=>z)) (aa (pv 0) ac))))),?_⟩
  refine aD ⟨_,rfl,p,dx,_,rfl,h1,fno bN,p,e,us,[45],by rw[<- gt];rfl,hA,by decide,λu r eu em H1 sb1 ra1=>⟨_,rfl,aJ ?_⟩,λh4=>⟨_,rfl,aI ?_⟩⟩
  ·subst eu
   have eF:aX (So n) (u::r)=aM (bZ (So n) r) λt r=>.inr (.minus t,r):=by unfold aX;rw[if_pos (show mhd (u::r)=[45]from em)];rfl
   refine⟨_,rfl,p,e,r,rfl,ra1,he,λt r2 ht q H2 sb2 ra2 hT hq=>sx (a:=.ref q) λx H3 dx3 s3 hx ex=>?_,λr2 ht=>XAt.step (k2 r2 (by rw[eF,ht];rfl)) sb1⟩;have sb:=sb1.trans sb2;exact k1 (.minus t) r2 (by rw[eF,ht];rfl) x H3 (sb.trans s3.toB) (ra2.same s3) ⟨ra2.nn hx,dx3,q,ex,hT.same s3⟩ (sb.free hA.isS hx ra2.isS)
  ·have eF:aX (So n) us=bZ (So n) us:=by unfold aX;rw[if_neg h4]
   exact⟨_,rfl,p,e,us,rfl,hA,he,λt r ht q H4 sb4 ra4 hT hq=>k1 t r (by rw[eF,ht]) q H4 sb4 ra4 hT hq,λr ht=>k2 r (by rw[eF,ht])⟩
theorem HE:∀m:List Nat,inV (.str (stL m)) [.str (Str.ofString "*"),.str (Str.ofString "/")]=(decide (m=[42]) ||decide (m=[47])):=λm=>by
 rw[dF,gS];show(eqV (.str (stL [42])) (.str (stL m)) || (eqV (.str (stL [47])) (.str (stL m)) ||false))=_;rw[cx,cx,Bool.or_false];have h1:decide ([42]=m)=decide (m=[42]):=by rw[decide_eq_decide];exact eq_comm
 have h2:decide ([47]=m)=decide (m=[47]):=by rw[decide_eq_decide];exact eq_comm
 rw[h1,h2]
def LpI(C:Addr)(tc:TC)(p:Addr)(e:Nat×Nat)(res:Res PT)(F:List Mk->Res PT)(a b:List Nat)(f g:PT->PT->PT)(H:Hp)(m:Nat)(σ':St)(H':Hp):Prop:=∃(q:Addr) (t:PT) (us:List Mk),m=us.length/\σ'=[some (.ref p),some (.ref q)]/\SameB p H H'/\RdA C H' p e us/\H q=none/\PtH tc p H' t q/\res=aT F a b f g us.length t us
theorem DO{tc:TC}{n:Nat}{C CTimes COver CNoText f:Addr}{fd:FuncData}(F:Fun K "read_product" "read_product" fK f fd)(T:Txt K mg)(R:QC K mg C)(ew:tc.ti=CTimes)(en:tc.ov=COver){oi:Addr}{nW:FuncData}(C_read_factor:CalV P w K mg base (6*n+10) "read_factor" ["reading"] (spP C CNoText tc (aX (So n)) n) oi nW){bP:Addr}{bO:FuncData}(bL:MCal P w K mg base 1 C "seen" ["self"] (dc C) bP bO){cK:Addr}{cJ:FuncData}(cy:MCal P w K mg base 2 C "step" ["self"] (eC C) cK cJ){jh:Addr}{iT:FuncData}{jv:List Value}(md:KCal P w K mg base 1 CTimes "Times" ["self","one","other"] (aV CTimes "one" "other") jh iT jv []){jo:Addr}{i0:FuncData}{jz:List Value}(mn:KCal P w K mg base 1 COver "Over" ["self","one","other"] (aV COver "one" "other") jo i0 jz []):FnOk P w K mg base (CXV P w) (6*n+10+1) f fd ["reading"] (spP C CNoText tc (aU (So n)) n):=by
 obtain⟨uT,sD,sX,uE⟩:=C_read_factor;obtain⟨ck,cc,cj⟩:=bL;obtain⟨du,dm,dn⟩:=cy;obtain⟨L4,Lp,Gq,KM,M4,MT⟩:=md;obtain⟨L9,Lu,Gw,KS,M9,MY⟩:=mn;subst ew en;refine F.okV sc_read_product (λvs H Q E h=>?_) (λcdv A outer s H vs Q E hr h=>?_)
 ·obtain⟨p,e,us,rfl,_⟩:=h;rfl
 ·obtain⟨p,e,us0,rfl,hA,he,k1,k2⟩:=h
  refine⟨_,(ah (aF (i:=1) sc_read_product.nd rfl (Or.inl rfl) (aw uT (hr.mono (by omega)) rfl sD sX uE .nil (bh (λ_ _ _ z=>z)) (aa (pv 0) ac)))
   (ah (gL PassesOwn.leaving (ao (bG (K:=K) rfl) (bo (pv 0) R.cl cc ck (hr.mono (by omega)) cj .nil am) (bq (aa ad (aa ad ac))) (by rfl))
     (ae (ar (ao aK (bo (pv 0) R.cl dm du (hr.mono (by omega)) dn .nil am) ad (ap _))
       (ae (aF (i:=1) sc_read_product.nd rfl (Or.inl rfl) (di Lp L4 (hr.mono (by omega)) rfl Gq KM .nil am (aa (pv 1) (aa (aw uT (hr.mono (by omega)) rfl sD sX uE .nil (bh (λ_ _ _ z=>z)) (aa (pv 0) ac)) ac)))))
       (ae (aF (i:=1) sc_read_product.nd rfl (Or.inl rfl) (di Lu L9 (hr.mono (by omega)) rfl Gw KS .nil am (aa (pv 1) (aa (aw uT (hr.mono (by omega)) rfl sD sX uE .nil (bh (λ_ _ _ z=>z)) (aa (pv 0) ac)) ac))))))))
   (ae (ai (pv 1))))),?_⟩
  refine mO (λσ' H'=>∃m,LpI C tc p e (aU (So n) us0) (aX (So n)) [42] [47] .times .over H m σ' H') ?_ (λrest=>?_)
  rotate_left
  ·exact cp ⟨_,rfl,p,e,us0,rfl,hA,he,λt r ht q H1 sb1 ra1 hT hq=>rest _ _ ⟨_,q,t,r,rfl,rfl,sb1,ra1,hq,hT,by unfold aU;rw[ht];rfl⟩,λr ht=>k2 r (by unfold aU;rw[ht];rfl)⟩
  rintro σ' H1 ⟨m0,hI⟩;refine⟨λm σ' H'=>LpI C tc p e (aU (So n) us0) (aX (So n)) [42] [47] .times .over H m σ' H',⟨m0,hI⟩,?_⟩;clear hI;rintro m σ' H2 ⟨q,t,us,rfl,rfl,sb2,ra2,hq,hT,eq⟩;obtain⟨dx2,pm2,d2,h12⟩:=ra2.ins;refine⟨_,rfl,p,dx2,_,rfl,h12,fno bI,p,e,us,rfl,ra2,by show 2<=sizeLine;decide,λpt hpt=>?_⟩;have u3:=Same.upd_new (o:=.tup [V.str (Str.ofString "*"),V.str (Str.ofString "/")]) hpt;refine⟨pt,_,rfl,.inr (SqT.of aj),rfl,by decide,_,rfl,?_⟩;generalize upd H2 pt (.tup [V.str (Str.ofString "*"),V.str (Str.ofString "/")])=H3 at u3 ⊢
  have ra3:=ra2.same u3;have sb3:SameB p H H3:=sb2.trans u3.toB;have hT3:=hT.same u3;show if(inV (.str (stL (mhd us))) [.str (Str.ofString "*"),.str (Str.ofString "/")])=true then _ else _
  rw[HE];by_cases hs:mhd us=[42]\/mhd us=[47]
  rotate_left
  ·have hs1:mhd us≠[42]:=λz=>hs (.inl z)
   have hs2:mhd us≠[47]:=λz=>hs (.inr z)
   rw[decide_eq_false hs1,decide_eq_false hs2];refine aI ?_;exact⟨_,rfl,k1 t us (by rw[eq];exact ni hs1 hs2) q H3 sb3 ra3 hT3 hq⟩
  rw[show(decide (mhd us=[42]) ||decide (mhd us=[47]))=true by rcases hs with z |z<;>simp[z]];refine aJ ?_;cases us with
  |nil=>rcases hs with z |z<;>cases z
  |cons u us =>
  refine⟨λσ'' H''=>∃m',m'<(u::us).length/\LpI C tc p e (aU (So n) us0) (aX (So n)) [42] [47] .times .over H m' σ'' H'',λ_ _ h=>h,?_⟩;obtain⟨dx3,pm3,d3,h13⟩:=ra3.ins;refine⟨_,rfl,p,dx3,_,rfl,h13,fno cI,p,e,u,us,rfl,ra3,λH4 sb4 ra4=>⟨rfl,_,rfl,?_⟩⟩;have sbb:=sb3.trans sb4;have hT4:=hT3.sb sb4
  have go:∀(h:PT->PT->PT),aU (So n) us0=aM (aX (So n) us) (λt2 r=>aT (aX (So n)) [42] [47] .times .over us.length (h t t2) r)->∀t2 r,aX (So n) us=.inr (t2,r)->aU (So n) us0=aT (aX (So n)) [42] [47] .times .over r.length (h t t2) r/\r.length<(u::us).length:=λh e1 t2 r e2=>by have l1:=jV (hZ n) us t2 r e2;refine⟨?_,by rw[Nj];omega⟩;rw[e1,e2];exact nh (jV (hZ n)) _ _ _ _ (by decide) (by decide) _ _ _ _ (by omega) (Ng _)
  by_cases hp:u.1=[42]
  ·rw[hp];refine aC (λ_=>?_) (λz=>absurd (by rw[<- dF]) z)
   have e1:aU (So n) us0=aM (aX (So n) us) (λt2 r=>aT (aX (So n)) [42] [47] .times .over us.length (PT.times t t2) r):=by rw[eq];exact if_pos (show mhd (u::us)=[42]from hp)
   refine cp ⟨_,rfl,_,rfl,p,e,us,rfl,ra4,he,λt2 r2 ht2 q2 H5 sb5 ra5 hT5 hq2=>lI (a:=.ref q) (b:=.ref q2) λx H6 dx6 s6 hx ex=>?_,λr2 ht2=>XAt.step (k2 r2 (by rw[e1,ht2];rfl)) sbb⟩;obtain⟨e3,lt⟩:=go _ e1 t2 r2 ht2;exact⟨_,lt,x,.times t t2,r2,rfl,rfl,(sbb.trans sb5).trans s6.toB,ra5.same s6,(sbb.trans sb5).free hA.isS hx ra5.isS,⟨ra5.nn hx,dx6,q,q2,ex,(hT4.sb sb5).same s6,hT5.same s6⟩,e3⟩
  ·have hb:=hs.resolve_left hp;have hb':u.1=[47]:=hb;rw[hb'];refine aC (λz=>absurd (stL_inj.mp ((V.str.inj z).trans dF)) (by decide)) (λ_=>?_)
   have e1:aU (So n) us0=aM (aX (So n) us) (λt2 r=>aT (aX (So n)) [42] [47] .times .over us.length (PT.over t t2) r):=by rw[eq];exact(if_neg (show ¬mhd (u::us)=[42]from hp)).trans (if_pos hb)
   refine cp ⟨_,rfl,_,rfl,p,e,us,rfl,ra4,he,λt2 r2 ht2 q2 H5 sb5 ra5 hT5 hq2=>lI (a:=.ref q) (b:=.ref q2) λx H6 dx6 s6 hx ex=>?_,λr2 ht2=>XAt.step (k2 r2 (by rw[e1,ht2];rfl)) sbb⟩;obtain⟨e3,lt⟩:=go _ e1 t2 r2 ht2;exact⟨_,lt,x,.over t t2,r2,rfl,rfl,(sbb.trans sb5).trans s6.toB,ra5.same s6,(sbb.trans sb5).free hA.isS hx ra5.isS,⟨ra5.nn hx,dx6,q,q2,ex,(hT4.sb sb5).same s6,hT5.same s6⟩,e3⟩
theorem DN{tc:TC}{n:Nat}{C CSum CLess CNoText f:Addr}{fd:FuncData}(F:Fun K "read_sum" "read_sum" fo f fd)(T:Txt K mg)(R:QC K mg C)(ew:tc.su=CSum)(en:tc.le=CLess){oa:Addr}{nR:FuncData}(C_read_product:CalV P w K mg base (6*n+11) "read_product" ["reading"] (spP C CNoText tc (aU (So n)) n) oa nR){bP:Addr}{bO:FuncData}(bL:MCal P w K mg base 1 C "seen" ["self"] (dc C) bP bO){cK:Addr}{cJ:FuncData}(cy:MCal P w K mg base 2 C "step" ["self"] (eC C) cK cJ){ji:Addr}{iU:FuncData}{jw:List Value}(me:KCal P w K mg base 1 CSum "Sum" ["self","one","other"] (aV CSum "one" "other") ji iU jw []){jr:Addr}{jc:FuncData}{jC:List Value}(mw:KCal P w K mg base 1 CLess "Less" ["self","one","other"] (aV CLess "one" "other") jr jc jC []):FnOk P w K mg base (CXV P w) (6*n+11+1) f fd ["reading"] (spP C CNoText tc (bY (So n)) n):=by
 obtain⟨uS,sC,sW,uD⟩:=C_read_product;obtain⟨ck,cc,cj⟩:=bL;obtain⟨du,dm,dn⟩:=cy;obtain⟨L5,Lq,Gs,KN,M5,MU⟩:=me;obtain⟨Md,Lx,Gz,KW,Nc,M1⟩:=mw;subst ew en;refine F.okV sc_read_sum (λvs H Q E h=>?_) (λcdv A outer s H vs Q E hr h=>?_)
 ·obtain⟨p,e,us,rfl,_⟩:=h;rfl
 ·obtain⟨p,e,us0,rfl,hA,he,k1,k2⟩:=h
  refine⟨_,(ah (aF (i:=1) sc_read_sum.nd rfl (Or.inl rfl) (aw uS (hr.mono (by omega)) rfl sC sW uD .nil (bh (λ_ _ _ z=>z)) (aa (pv 0) ac)))
   (ah (gL PassesOwn.leaving (ao (bG (K:=K) rfl) (bo (pv 0) R.cl cc ck (hr.mono (by omega)) cj .nil am) (bq (aa ad (aa ad ac))) (by rfl))
     (ae (ar (ao aK (bo (pv 0) R.cl dm du (hr.mono (by omega)) dn .nil am) ad (ap _))
       (ae (aF (i:=1) sc_read_sum.nd rfl (Or.inl rfl) (di Lq L5 (hr.mono (by omega)) rfl Gs KN .nil am (aa (pv 1) (aa (aw uS (hr.mono (by omega)) rfl sC sW uD .nil (bh (λ_ _ _ z=>z)) (aa (pv 0) ac)) ac)))))
       (ae (aF (i:=1) sc_read_sum.nd rfl (Or.inl rfl) (di Lx Md (hr.mono (by omega)) rfl Gz KW .nil am (aa (pv 1) (aa (aw uS (hr.mono (by omega)) rfl sC sW uD .nil (bh (λ_ _ _ z=>z)) (aa (pv 0) ac)) ac))))))))
   (ae (ai (pv 1))))),?_⟩
  refine mO (λσ' H'=>∃m,LpI C tc p e (bY (So n) us0) (aU (So n)) [43] [45] .sum .less H m σ' H') ?_ (λrest=>?_)
  rotate_left
  ·exact cp ⟨_,rfl,p,e,us0,rfl,hA,he,λt r ht q H1 sb1 ra1 hT hq=>rest _ _ ⟨_,q,t,r,rfl,rfl,sb1,ra1,hq,hT,by unfold bY;rw[ht];rfl⟩,λr ht=>k2 r (by unfold bY;rw[ht];rfl)⟩
  rintro σ' H1 ⟨m0,hI⟩;refine⟨λm σ' H'=>LpI C tc p e (bY (So n) us0) (aU (So n)) [43] [45] .sum .less H m σ' H',⟨m0,hI⟩,?_⟩;clear hI;rintro m σ' H2 ⟨q,t,us,rfl,rfl,sb2,ra2,hq,hT,eq⟩;obtain⟨dx2,pm2,d2,h12⟩:=ra2.ins;refine⟨_,rfl,p,dx2,_,rfl,h12,fno bI,p,e,us,rfl,ra2,by show 2<=sizeLine;decide,λpt hpt=>?_⟩;have u3:=Same.upd_new (o:=.tup [V.str (Str.ofString "+"),V.str (Str.ofString "-")]) hpt;refine⟨pt,_,rfl,.inr (SqT.of aj),rfl,by decide,_,rfl,?_⟩;generalize upd H2 pt (.tup [V.str (Str.ofString "+"),V.str (Str.ofString "-")])=H3 at u3 ⊢
  have ra3:=ra2.same u3;have sb3:SameB p H H3:=sb2.trans u3.toB;have hT3:=hT.same u3;show if(inV (.str (stL (mhd us))) [.str (Str.ofString "+"),.str (Str.ofString "-")])=true then _ else _
  rw[tG];by_cases hs:mhd us=[43]\/mhd us=[45]
  rotate_left
  ·have hs1:mhd us≠[43]:=λz=>hs (.inl z)
   have hs2:mhd us≠[45]:=λz=>hs (.inr z)
   rw[decide_eq_false hs1,decide_eq_false hs2];refine aI ?_;exact⟨_,rfl,k1 t us (by rw[eq];exact ni hs1 hs2) q H3 sb3 ra3 hT3 hq⟩
  rw[show(decide (mhd us=[43]) ||decide (mhd us=[45]))=true by rcases hs with z |z<;>simp[z]];refine aJ ?_;cases us with
  |nil=>rcases hs with z |z<;>cases z
  |cons u us =>
  refine⟨λσ'' H''=>∃m',m'<(u::us).length/\LpI C tc p e (bY (So n) us0) (aU (So n)) [43] [45] .sum .less H m' σ'' H'',λ_ _ h=>h,?_⟩;obtain⟨dx3,pm3,d3,h13⟩:=ra3.ins;refine⟨_,rfl,p,dx3,_,rfl,h13,fno cI,p,e,u,us,rfl,ra3,λH4 sb4 ra4=>⟨rfl,_,rfl,?_⟩⟩;have sbb:=sb3.trans sb4;have hT4:=hT3.sb sb4
  have go:∀(h:PT->PT->PT),bY (So n) us0=aM (aU (So n) us) (λt2 r=>aT (aU (So n)) [43] [45] .sum .less us.length (h t t2) r)->∀t2 r,aU (So n) us=.inr (t2,r)->bY (So n) us0=aT (aU (So n)) [43] [45] .sum .less r.length (h t t2) r/\r.length<(u::us).length:=λh e1 t2 r e2=>by have l1:=jU (hZ n) us t2 r e2;refine⟨?_,by rw[Nj];omega⟩;rw[e1,e2];exact nh (jU (hZ n)) _ _ _ _ (by decide) (by decide) _ _ _ _ (by omega) (Ng _)
  by_cases hp:u.1=[43]
  ·rw[hp];refine aC (λ_=>?_) (λz=>absurd (by rw[<- lL]) z)
   have e1:bY (So n) us0=aM (aU (So n) us) (λt2 r=>aT (aU (So n)) [43] [45] .sum .less us.length (PT.sum t t2) r):=by rw[eq];exact if_pos (show mhd (u::us)=[43]from hp)
   refine cp ⟨_,rfl,_,rfl,p,e,us,rfl,ra4,he,λt2 r2 ht2 q2 H5 sb5 ra5 hT5 hq2=>lI (a:=.ref q) (b:=.ref q2) λx H6 dx6 s6 hx ex=>?_,λr2 ht2=>XAt.step (k2 r2 (by rw[e1,ht2];rfl)) sbb⟩;obtain⟨e3,lt⟩:=go _ e1 t2 r2 ht2;exact⟨_,lt,x,.sum t t2,r2,rfl,rfl,(sbb.trans sb5).trans s6.toB,ra5.same s6,(sbb.trans sb5).free hA.isS hx ra5.isS,⟨ra5.nn hx,dx6,q,q2,ex,(hT4.sb sb5).same s6,hT5.same s6⟩,e3⟩
  ·have hb:=hs.resolve_left hp;have hb':u.1=[45]:=hb;rw[hb'];refine aC (λz=>absurd (stL_inj.mp ((V.str.inj z).trans lL)) (by decide)) (λ_=>?_)
   have e1:bY (So n) us0=aM (aU (So n) us) (λt2 r=>aT (aU (So n)) [43] [45] .sum .less us.length (PT.less t t2) r):=by rw[eq];exact(if_neg (show ¬mhd (u::us)=[43]from hp)).trans (if_pos hb)
   refine cp ⟨_,rfl,_,rfl,p,e,us,rfl,ra4,he,λt2 r2 ht2 q2 H5 sb5 ra5 hT5 hq2=>lI (a:=.ref q) (b:=.ref q2) λx H6 dx6 s6 hx ex=>?_,λr2 ht2=>XAt.step (k2 r2 (by rw[e1,ht2];rfl)) sbb⟩;obtain⟨e3,lt⟩:=go _ e1 t2 r2 ht2;exact⟨_,lt,x,.less t t2,r2,rfl,rfl,(sbb.trans sb5).trans s6.toB,ra5.same s6,(sbb.trans sb5).free hA.isS hx ra5.isS,⟨ra5.nn hx,dx6,q,q2,ex,(hT4.sb sb5).same s6,hT5.same s6⟩,e3⟩
theorem Bp{C CWhole CNamed CGiven CMinus CSum CLess CTimes COver CPower CRooted CRatio CNoText:Addr}(T:Txt K mg)(R:QC K mg C){jl:Addr}{iX:FuncData}(jH:MCalV P w K mg base 4 C "enter" ["self"] (jQ C CNoText) jl iX){jk:Addr}{iW:FuncData}(jG:MCalV P w K mg base 4 C "leave" ["self"] (jO C CNoText) jk iW){gB:Addr}{gz:FuncData}(gE:Cal P w K mg base 2 "is_whole" ["word"] ir gB gz){bP:Addr}{bO:FuncData}(bL:MCal P w K mg base 1 C "seen" ["self"] (dc C) bP bO){jg:Addr}{iS:FuncData}{ju:List Value}(lZ:KCal P w K mg base 1 CWhole "Whole" ["self","value"] (cm CWhole "value") jg iS ju []){cK:Addr}{cJ:FuncData}(cy:MCal P w K mg base 2 C "step" ["self"] (eC C) cK cJ){ot:Addr}{n6:FuncData}(oV:Cal P w K mg base 2 "is_name" ["word"] mJ ot n6){jp:Addr}{ja:FuncData}{jA:List Value}(mr:KCal P w K mg base 1 CNamed "Named" ["self","word"] (cm CNamed "word") jp ja jA []){cw:Addr}{cv:FuncData}(bV:MCal P w K mg base 2 C "passes" ["self","mark"] (dP C) cw cv){jj:Addr}{iV:FuncData}{jx:List Value}(mf:KCal P w K mg base 1 CRooted "Rooted" ["self","one","exponent"] (aV CRooted "one" "power") jj iV jx []){oh:Addr}{nV:FuncData}(oT:CalV P w K mg base 7 "read_given" ["reading"] (mL C CNoText CGiven CRatio) oh nV){jd:Addr}{iP:FuncData}(jF:CalV P w K mg base 3 "read_exponent" ["reading"] (jP C CNoText) jd iP){jn:Addr}{iZ:FuncData}{jy:List Value}(mj:KCal P w K mg base 1 CPower "Power" ["self","one","exponent"] (aV CPower "one" "power") jn iZ jy []){jq:Addr}{jb:FuncData}{jB:List Value}(mv:KCal P w K mg base 1 CMinus "Minus" ["self","one"] (cm CMinus "one") jq jb jB []){jh:Addr}{iT:FuncData}{jv:List Value}(md:KCal P w K mg base 1 CTimes "Times" ["self","one","other"] (aV CTimes "one" "other") jh iT jv []){jo:Addr}{i0:FuncData}{jz:List Value}(mn:KCal P w K mg base 1 COver "Over" ["self","one","other"] (aV COver "one" "other") jo i0 jz []){ji:Addr}{iU:FuncData}{jw:List Value}(me:KCal P w K mg base 1 CSum "Sum" ["self","one","other"] (aV CSum "one" "other") ji iU jw []){jr:Addr}{jc:FuncData}{jC:List Value}(mw:KCal P w K mg base 1 CLess "Less" ["self","one","other"] (aV CLess "one" "other") jr jc jC []){oj:Addr}{nX:FuncData}(C_read_brackets:RawC K mg "read_brackets" fN ["reading"] oj nX){ol:Addr}{nY:FuncData}(C_read_atom:RawC K mg "read_atom" fO ["reading"] ol nY){og:Addr}{nU:FuncData}(C_read_power:RawC K mg "read_power" fL ["reading"] og nU){oi:Addr}{nW:FuncData}(C_read_factor:RawC K mg "read_factor" fM ["reading"] oi nW){oa:Addr}{nR:FuncData}(C_read_product:RawC K mg "read_product" fK ["reading"] oa nR){gW:Addr}{gU:FuncData}(C_read_sum:RawC K mg "read_sum" fo ["reading"] gW gU):∀n,CalV P w K mg base (6*n+12) "read_sum" ["reading"] (spP C CNoText ⟨CWhole,CNamed,CGiven,CMinus,CSum,CLess,CTimes,COver,CPower,CRooted,CRatio⟩ (pS n) n) gW gU:=by
 obtain⟨tc,htc⟩:∃tc:TC,tc=⟨CWhole,CNamed,CGiven,CMinus,CSum,CLess,CTimes,COver,CPower,CRooted,CRatio⟩:=⟨_,rfl⟩;rw[<- htc]
 have step:∀n,CalV P w K mg base (6*n+6) "read_sum" ["reading"] (spS C CNoText tc n) gW gU->CalV P w K mg base (6*n+12) "read_sum" ["reading"] (spP C CNoText tc (pS n) n) gW gU:=λn h=>by have B:=C_read_brackets.calV (DV C_read_brackets.fn T R jH jG h);have A:=C_read_atom.calV (DW C_read_atom.fn T R (by rw[htc]) (by rw[htc]) (by rw[htc]) (by rw[htc]) (by rw[htc]) gE bL lZ cy oV mr bV mf oT B);have Po:=C_read_power.calV (DP C_read_power.fn T R (by rw[htc]) A bV jF mj);have Fa:=C_read_factor.calV (DT C_read_factor.fn T R (by rw[htc]) bV mv Po);have Pr:=C_read_product.calV (DO C_read_product.fn T R (by rw[htc]) (by rw[htc]) Fa bL cy md mn);have Su:=C_read_sum.calV (DN C_read_sum.fn T R (by rw[htc]) (by rw[htc]) Pr bL cy me mw);rw[iz];exact Su
 intro n
 induction n with
 |zero=>exact step 0 (C_read_sum.calV (Fi C_read_sum.fn (k:=5)))
 |succ n ih=>exact step (n+1) ih
noncomputable def cV(us:List Mk):Res PT:=aM (pS 10 us) λt r=>if r=[]then .inr (t,[])else .inl r
def pc(CN:Addr)(tc:TC):Sp:=λvs H Q E=>∃l:List Nat,vs=[.str (stL l)]/\Pla l/\(∀t,cV (mks 0 l)=.inr (t,[])->∀(q av:Addr) (H':Hp),Same H H'->PtH tc av H' t q->H q=none->Q (.ref q) H')/\(∀r,cV (mks 0 l)=.inl r->∀(H':Hp) (d:Addr),Same H H'->H' d=some (.xd [(("at":Str),V.int (mbg l.length r:Nat))])->E (.ref CN) (some d) H')
theorem DX{C CWhole CNamed CGiven CMinus CSum CLess CTimes COver CPower CRooted CRatio CNoText f:Addr}{fd:FuncData}(F:Fun K "read" "read" j9 f fd)(T:Txt K mg)(R:QC K mg C){JN:Addr}{Jg:FuncData}{JW:List Value}(MM:KCal P w K mg base 4 C "Reading" ["self","text"] (qT C) JN Jg JW []){JM:Addr}{Jf:FuncData}(ML:MCalV P w K mg base 3 C "finish" ["self"] (rl C CNoText) JM Jf){jl:Addr}{iX:FuncData}(jH:MCalV P w K mg base 4 C "enter" ["self"] (jQ C CNoText) jl iX){jk:Addr}{iW:FuncData}(jG:MCalV P w K mg base 4 C "leave" ["self"] (jO C CNoText) jk iW){gB:Addr}{gz:FuncData}(gE:Cal P w K mg base 2 "is_whole" ["word"] ir gB gz){bP:Addr}{bO:FuncData}(bL:MCal P w K mg base 1 C "seen" ["self"] (dc C) bP bO){jg:Addr}{iS:FuncData}{ju:List Value}(lZ:KCal P w K mg base 1 CWhole "Whole" ["self","value"] (cm CWhole "value") jg iS ju []){cK:Addr}{cJ:FuncData}(cy:MCal P w K mg base 2 C "step" ["self"] (eC C) cK cJ){ot:Addr}{n6:FuncData}(oV:Cal P w K mg base 2 "is_name" ["word"] mJ ot n6){jp:Addr}{ja:FuncData}{jA:List Value}(mr:KCal P w K mg base 1 CNamed "Named" ["self","word"] (cm CNamed "word") jp ja jA []){cw:Addr}{cv:FuncData}(bV:MCal P w K mg base 2 C "passes" ["self","mark"] (dP C) cw cv){jj:Addr}{iV:FuncData}{jx:List Value}(mf:KCal P w K mg base 1 CRooted "Rooted" ["self","one","exponent"] (aV CRooted "one" "power") jj iV jx []){oh:Addr}{nV:FuncData}(oT:CalV P w K mg base 7 "read_given" ["reading"] (mL C CNoText CGiven CRatio) oh nV){jd:Addr}{iP:FuncData}(jF:CalV P w K mg base 3 "read_exponent" ["reading"] (jP C CNoText) jd iP){jn:Addr}{iZ:FuncData}{jy:List Value}(mj:KCal P w K mg base 1 CPower "Power" ["self","one","exponent"] (aV CPower "one" "power") jn iZ jy []){jq:Addr}{jb:FuncData}{jB:List Value}(mv:KCal P w K mg base 1 CMinus "Minus" ["self","one"] (cm CMinus "one") jq jb jB []){jh:Addr}{iT:FuncData}{jv:List Value}(md:KCal P w K mg base 1 CTimes "Times" ["self","one","other"] (aV CTimes "one" "other") jh iT jv []){jo:Addr}{i0:FuncData}{jz:List Value}(mn:KCal P w K mg base 1 COver "Over" ["self","one","other"] (aV COver "one" "other") jo i0 jz []){ji:Addr}{iU:FuncData}{jw:List Value}(me:KCal P w K mg base 1 CSum "Sum" ["self","one","other"] (aV CSum "one" "other") ji iU jw []){jr:Addr}{jc:FuncData}{jC:List Value}(mw:KCal P w K mg base 1 CLess "Less" ["self","one","other"] (aV CLess "one" "other") jr jc jC []){oj:Addr}{nX:FuncData}(C_read_brackets:RawC K mg "read_brackets" fN ["reading"] oj nX){ol:Addr}{nY:FuncData}(C_read_atom:RawC K mg "read_atom" fO ["reading"] ol nY){og:Addr}{nU:FuncData}(C_read_power:RawC K mg "read_power" fL ["reading"] og nU){oi:Addr}{nW:FuncData}(C_read_factor:RawC K mg "read_factor" fM ["reading"] oi nW){oa:Addr}{nR:FuncData}(C_read_product:RawC K mg "read_product" fK ["reading"] oa nR){gW:Addr}{gU:FuncData}(C_read_sum:RawC K mg "read_sum" fo ["reading"] gW gU):FnOk P w K mg base (CXV P w) 73 f fd ["text"] (pc CNoText ⟨CWhole,CNamed,CGiven,CMinus,CSum,CLess,CTimes,COver,CPower,CRooted,CRatio⟩):=by
 have C_read_sum:=Bp T R jH jG gE bL lZ cy oV mr bV mf oT jF mj mv md mn me mw C_read_brackets C_read_atom C_read_power C_read_factor C_read_product C_read_sum 10;obtain⟨L7,Lr,Gu,KP,M7,MW⟩:=MM;obtain⟨L6,Fz,KO⟩:=ML;obtain⟨uR,sA,sV,uC⟩:=C_read_sum;refine F.okV sc_read (λvs H Q E h=>?_) (λcdv A outer s H vs Q E hr h=>?_)
 ·obtain⟨l,rfl,_⟩:=h;rfl
 ·obtain⟨l,rfl,hl,k1,k2⟩:=h
  refine⟨_,(ah (aF (i:=1) sc_read.nd rfl (Or.inl rfl) (di Lr L7 (hr.mono) rfl Gu KP .nil am (aa (pv 0) ac)))
   (ah (aF (i:=2) sc_read.nd rfl (Or.inl rfl) (aw uR (hr.mono) rfl sA sV uC .nil (bh (λ_ _ _ z=>z)) (aa (pv 1) ac)))
   (ah (cH (bo (pv 1) R.cl Fz L6 (hr.mono) KO .nil (bh (λ_ _ _ z=>z))))
   (ae (ai (pv 2)))))),?_⟩
  refine aN ⟨_,rfl,λx dx hx hdx hne=>⟨x,dx,l,rfl,aj,hl,λH2 sb ra=>⟨rfl,?_⟩⟩⟩;have s2:Same H H2:=λb o e=>sb b o (bj e hx) (by rw[upd_ne (bj e hx),upd_ne (bj e hdx)];exact e)
  have toS:∀{H3:Hp},SameB x H2 H3->Same H H3:=λsb3 b o e=>sb3 b o (bj e hx) (s2 b o e)
  refine aN ⟨_,rfl,x,(l.length,0),mks 0 l,rfl,ra,rfl,λt r ht q H3 sb3 ra3 hT hq=>?_,λr ht H' d sb' ed=>k2 r (by unfold cV;rw[ht];rfl) H' d (toS sb') ed⟩;have eA:cV (mks 0 l)=if r=[]then .inr (t,[])else .inl r:=by unfold cV;rw[ht];rfl
  obtain⟨dx3,pm3,d3,h13⟩:=ra3.ins;refine df ⟨_,rfl,x,dx3,_,rfl,h13,fno Fj,x,(l.length,0),r,rfl,ra3,λz=>?_,λz H' d sb' ed=>k2 r (by rw[eA,if_neg z]) H' d (toS (sb3.trans sb')) ed⟩;exact⟨_,rfl,k1 t (by rw[eA,if_pos z]) q x H3 (toS sb3) hT (s2.free hq)⟩
noncomputable def txt(v:Int):Str:=Str.ofString (toString v)
theorem db(n:Nat):txt (n:Int)=stL (al n):=qc n
theorem vp{v:Int}(h:v<0):txt v=stL (45::al v.natAbs):=by
 cases v with
 |ofNat n=>exact absurd h (by simp)
 |negSucc n=>exact HB n
theorem rT{n k:Nat}(h:n<10^(k+1)):(al n).length<=k+1:=(mT k n h).1
theorem ye{n k:Nat}(h:n<2^k)(hk:0<k):n.log2<k:=by
 by_cases h0:n=0
 ·subst h0;simpa using hk
 ·exact(Nat.log2_lt h0).mpr h
theorem yY:∀(ls:List (List Nat)) (n:Nat),(ls.map stL).foldl (λn z=>n+z.length+(Str.ofString "").length) n=n+ls.flatten.length
 | [],n=>by simp
 |l::ls,n=>by
  rw[NM,Ob,yY ls];have e1:(stL l).length=l.length:=by unfold stL Str.length;simp
  have e2:(Str.ofString "").length=0:=by decide
  rw[e1,e2,NR,Nf];omega
def gG:Sp:=λvs H Q _=>∃v:Int,vs=[.int v]/\Bits 1000 v/\∀H',Same H H'->Q (.str (txt v)) H'
theorem IA{zs:List (List Nat)}(h:∀l∈zs,l.length<=400):zs.flatten.length<=400*zs.length:=by
 induction zs with
 |nil=>exact Nr _
 |cons l zs ih =>
  rw[NR,Nf,Nj];have h1:=h l (NY ..);have h2:=ih λx hx=>h x (NQ _ hx)
  omega
theorem DG{f:Addr}{fd:FuncData}(F:Fun K "whole_text" "whole_text" jW f fd)(T:Txt K mg):FnOk P w K mg base CX0 1 f fd ["value"] gG:=by
 refine F.ok sc_whole_text (λvs H Q E h=>?_) (λcdv A outer s H vs Q E hr h=>?_)
 ·obtain⟨v,rfl,_⟩:=h;rfl
 ·obtain⟨v,rfl,bv,k⟩:=h;have big:=sizeLine_eq
  refine⟨_,(ah (aF (i:=1) sc_whole_text.nd rfl (Or.inl rfl) (aq w6 af af))
   (ah (aF (i:=2) sc_whole_text.nd rfl (Or.inl rfl) (aP oG (by rfl) T.abs_ PyProof.Rows.boot_abs (aa (pv 0) ac)))
   (ah (aF (i:=3) sc_whole_text.nd rfl (Or.inl rfl) (aO ac))
   (ah (gL PassesOwn.never (ao xb (pv 2) (pv 1) (ap _))
     (ah (cH (lx PySem.F.plainAttrs_list PySem.F.slot_list_append PySem.F.type_list_append pL (pv 3) (aa (lx PySem.F.plainAttrs_str PySem.F.slot_str_zfill PySem.F.type_str_zfill Fm (bn lU (by rfl) T.str_ PyProof.Rows.boot_str (aa (aq bD (pv 2) (pv 1)) ac)) (aa af ac)) ac)))
       (ae (aF (i:=2) sc_whole_text.nd rfl (Or.inl rfl) (aq cX (pv 2) (pv 1))))))
   (ah (cH (lx PySem.F.plainAttrs_list PySem.F.slot_list_append PySem.F.type_list_append pL (pv 3) (aa (bn lU (by rfl) T.str_ PyProof.Rows.boot_str (aa (pv 2) ac)) ac)))
   (ah (ar (ao cW (pv 0) af (ap _))
     (ae (cH (lx PySem.F.plainAttrs_list PySem.F.slot_list_append PySem.F.type_list_append pL (pv 3) (aa ad ac))))
     ay)
   (ah (cH (Dv PySem.F.plainAttrs_list PySem.F.slot_list_reverse PySem.F.type_list_reverse Fs (pv 3)))
   (ae (ai (lx PySem.F.plainAttrs_str PySem.F.slot_str_join PySem.F.type_str_join (Fv (K:=K) rfl) ad (aa (pv 3) ac))))))))))),?_⟩
  refine aN ⟨_,_,rfl,rfl,⟨by decide,by decide,by decide⟩,?_⟩;show bH _ _ _ _ _;refine cU (λσ' H'=>∃c:Nat,σ'=[some (.int v),some (.int (c:Int)),none,none]/\H=H'/\c=10^64) ⟨10^64,rfl,rfl,rfl⟩ ?_;rintro σ' H' ⟨c,rfl,rfl,hc⟩;have c0:2<=c:=by rw[hc];decide +kernel
  have bc:Bits 300 (c:Int):=by rw[hc];show(((10^64:Nat):Int)).natAbs<2^300;decide +kernel
  refine aN ⟨_,rfl,_,rfl,?_⟩;rw[jE];refine aN ⟨Nr _,λpl hpl=>?_⟩;have s1:=Same.upd_new (o:=.lst []) hpl;have h1:upd H pl (.lst []) pl=some (.lst ((([]:List (List Nat)).map stL).map V.str)):=aj;generalize upd H pl (.lst [])=H1 at s1 h1 ⊢
  refine⟨λm σ' H'=>∃zs:List (List Nat),σ'=[some (.int v),some (.int (c:Int)),some (.int (m:Int)),some (.ref pl)]/\Same H H'/\H' pl=some (.lst ((zs.map stL).map V.str))/\al v.natAbs=al m++zs.reverse.flatten/\m*2^zs.length<=v.natAbs/\(0<m\/zs=[])/\∀l∈zs,l.length<=400,
   ⟨v.natAbs,[],rfl,s1,h1,by simp,by simp,.inr rfl,λl hl=>nomatch hl⟩,?_⟩
  rintro m σ' H2 ⟨zs,rfl,s2,h2,hnum,hle,hm0,hzl⟩
  have bm:m<2^1000:=by have:=Nat.le_mul_of_pos_right m (Nat.pow_pos (n:=zs.length) (show 0<2 by decide));exact N1 (Nk this hle) bv
  have fit:0<m->zs.length<1000:=λhm=>by have h3:=Nat.le_mul_of_pos_left (2^zs.length) hm;have h4:2^zs.length<2^1000:=N1 (Nk h3 hle) bv;exact(Nat.pow_lt_pow_iff_right (by decide)).mp h4
  refine⟨_,rfl,_,rfl,_,_,rfl,rfl,_,rfl,aC (λhge=>?_) (λhlt=>?_)⟩
  ·have hge':c<=m:=by have:((c:Nat):Int)<=(m:Int):=hge;omega
   refine⟨λσ'' H''=>∃m',m'<m/\∃zs:List (List Nat),σ''=[some (.int v),some (.int (c:Int)),some (.int (m':Int)),some (.ref pl)]/\Same H H''/\H'' pl=some (.lst ((zs.map stL).map V.str))/\al v.natAbs=al m'++zs.reverse.flatten/\m'*2^zs.length<=v.natAbs/\(0<m'\/zs=[])/\∀l∈zs,l.length<=400,λ_ _ h=>h,?_⟩;have hzs:=fit (by omega);have hmod:m%c<c:=Nat.mod_lt _ (by omega);have emod:((m:Nat):Int)%((c:Nat):Int)=((m%c:Nat):Int):=rfl;have ediv:((m:Nat):Int)/((c:Nat):Int)=((m/c:Nat):Int):=rfl;have hm64:m%c<10^64:=by rw[<- hc];exact hmod
   refine df ⟨_,rfl,.inl ⟨rfl,_,SqL.of h2⟩,_,rfl,_,rfl,_,_,rfl,rfl,(by show(0:Int)<(c:Int);omega),_,rfl,?_,rfl,_,_,rfl,rfl,(by decide +kernel),pl,_,_,rfl,rfl,h2,by rw[Nh,Nh];omega,?_⟩
   ·rw[emod,NW];exact NG (ye (k:=1000) (N1 (Nat.mod_le _ _) bm) (by decide)) (by decide)
   rw[emod,Av hm64];have e5:(zs.map stL).map V.str++[V.str ⟨(pad 64 (m%c)).toArray⟩]=((zs++[pad 64 (m%c)]).map stL).map V.str:=by rw[NI,NI];rfl
   rw[e5];refine cp ⟨_,rfl,_,rfl,_,_,rfl,rfl,⟨by show(0:Int)<(c:Int);omega,bc.mono⟩,?_⟩;have hdlt:m/c<m:=Nat.div_lt_self (by omega) (by omega);have hd1:1<=m/c:=(Nat.one_le_div_iff (by omega)).mpr hge';refine⟨m/c,hdlt,zs++[pad 64 (m%c)],rfl,mU s2 hpl,aj,?_,?_,.inl hd1,?_⟩
   ·rw[hnum,N5];show al m++_=al (m/c)++(pad 64 (m%c)++zs.reverse.flatten);rw[<- Nl,<- xk (by omega) 64 (m%c) hm64,<- hc];have e6:m/c*c+m%c=m:=by rw[Nat.mul_comm];exact Nat.div_add_mod m c
    rw[e6]
   ·rw[Nf];show m/c*2^(zs.length+1)<=v.natAbs;refine Nk ?_ hle
    have h7:m/c*2<=m:=by have:=Nat.div_mul_le_self m c;have h8:=Nat.mul_le_mul_left (m/c) c0;omega
    rw[N0]
    calc m/c*(2^zs.length*2)=m/c*2*2^zs.length:=by grind
     _<=m*2^zs.length:=Oj _ h7
   ·intro l hl;rcases No.mp hl with h |h
    ·exact hzl l h
    ·rw[Nu.mp h,wT];decide
  ·have hzs:zs.length<1000:=by
    rcases hm0 with h |h
    ·exact fit h
    ·rw[h];decide
   have hlt':m<10^64:=by have:¬((c:Nat):Int)<=(m:Int):=hlt;rw[<- hc];omega
   dsimp only
   refine df ⟨_,rfl,.inl ⟨rfl,_,SqL.of h2⟩,_,rfl,_,rfl,?_,pl,_,_,rfl,rfl,h2,by rw[Nh,Nh];omega,?_⟩
   ·rw[NW];exact NG (ye (k:=1000) bm (by decide)) (by decide)
   have e5:(zs.map stL).map V.str++[V.str (Str.ofString (toString (m:Int)))]=((zs++[al m]).map stL).map V.str:=by rw[NI,NI,qc];rfl
   rw[e5];have s3:Same H (upd H2 pl (.lst (((zs++[al m]).map stL).map V.str))):=mU s2 hpl;have h3:upd H2 pl (.lst (((zs++[al m]).map stL).map V.str)) pl=some (.lst (((zs++[al m]).map stL).map V.str)):=aj;generalize upd H2 pl (.lst (((zs++[al m]).map stL).map V.str))=H3 at s3 h3 ⊢
   have hml:(al m).length<=64:=rT (k:=63) hlt';refine cA (λσ' H'=>∃ys:List (List Nat),σ'=[some (.int v),some (.int (c:Int)),some (.int (m:Int)),some (.ref pl)]/\Same H H'/\H' pl=some (.lst ((ys.map stL).map V.str))/\stL ys.reverse.flatten=txt v/\ys.length<=1002/\∀l∈ys,l.length<=400) ?_ ?_
   case refine_2 =>
    intro rest;refine⟨_,rfl,_,_,rfl,rfl,_,rfl,aC (λhn=>?_) (λhn=>?_)⟩
    ·refine pA ⟨_,rfl,.inl ⟨rfl,_,SqL.of h3⟩,pl,_,_,rfl,rfl,h3,by rw[Nh,Nh,Nf];show zs.length+1<_;omega,?_⟩
     have e6:((zs++[al m]).map stL).map V.str++[V.str (Str.ofString "-")]=((zs++[al m]++[[45]]).map stL).map V.str:=by
      have e7:Str.ofString "-"=stL [45]:=by rw[ofS];rfl
      rw[e7];simp only[NI,NM,List.map_nil]
     refine rest _ _ ⟨zs++[al m]++[[45]],rfl,mU s3 hpl,by rw[aj,e6],?_,by rw[Nf,Nf];show zs.length+1+1<=_;omega,?_⟩
     ·rw[N5,N5];show stL ([45]++(al m++zs.reverse.flatten))=_;rw[<- hnum,vp hn];rfl
     ·intro l hl;rcases No.mp hl with h |h
      ·rcases No.mp h with h |h
       ·exact hzl l h
       ·rw[Nu.mp h];omega
      ·rw[Nu.mp h];decide
    ·refine rest _ _ ⟨zs++[al m],rfl,s3,h3,?_,by rw[Nf];show zs.length+1<=_;omega,?_⟩
     ·rw[N5];show stL (al m++zs.reverse.flatten)=_;rw[<- hnum,<- db];have:((v.natAbs:Nat):Int)=v:=by have:¬v<0:=hn;omega
      rw[this]
     ·intro l hl;rcases No.mp hl with h |h
      ·exact hzl l h
      ·rw[Nu.mp h];omega
   rintro σ' H4 ⟨ys,rfl,s4,h4,htx,hyl,hyz⟩;refine df ⟨_,rfl,.inl ⟨rfl,_,SqL.of h4⟩,pl,_,rfl,rfl,h4,?_⟩;rw[<- List.map_reverse,<- List.map_reverse];have s5:Same H (upd H4 pl (.lst ((ys.reverse.map stL).map V.str))):=mU s4 hpl;have hfl:ys.reverse.flatten.length<=400*1002:=Nk (IA (λl hl=>hyz l (List.mem_reverse.mp hl))) (by rw[List.length_reverse];omega);refine au ⟨rfl,_,rfl,Str.ofString "",pl,ys.reverse.map stL,rfl,rfl,SqL.of aj,?_,?_,?_⟩
   ·rw[yY];omega
   ·have e:Builtin.Str.glued (Str.ofString "") (ys.reverse.map stL)=stL ys.reverse.flatten:=yQ _;rw[e];have:(stL ys.reverse.flatten).length=ys.reverse.flatten.length:=by unfold stL Str.length;simp
    omega
   ·have e:Builtin.Str.glued (Str.ofString "") (ys.reverse.map stL)=stL ys.reverse.flatten:=yQ _;rw[e,htx];exact k _ s5
def rp:Sp:=λvs H Q _=>∃(a:Addr) (xs:List V),vs=[.ref a]/\H a=some (.lst xs)/\Q (.int ((xs.length:Int)-1)) H
theorem Ea{f:Addr}{fd:FuncData}(F:Fun K "degree" "degree" kl f fd)(T:Txt K mg):FnOk P w K mg base CX0 1 f fd ["row"] rp:=by
 refine F.ok BU (λvs H Q E h=>?_) (λcdv A outer s H vs Q E hr h=>?_)
 ·obtain⟨a,xs,rfl,_⟩:=h;rfl
 ·obtain⟨a,xs,rfl,hA,k⟩:=h;refine⟨_,(ae (ai (aq gl (aP (fC (K:=K) rfl) (by rfl) T.len_ PySem.boot_len (aa (pv 0) ac)) af))),?_⟩;exact⟨_,rfl,a,_,rfl,.inl (SqL.of hA),_,_,rfl,rfl,k⟩
theorem yf:(Str.ofString "x^":Str)=stL [120,94]:=by decide +kernel
theorem gs:(Str.ofString " - ":Str)=stL [32,45,32]:=by decide +kernel
theorem gq:(Str.ofString " + ":Str)=stL [32,43,32]:=by decide +kernel
theorem pI{n:Nat}(h:n<2^1000):(al n).length<=1000:=rT (k:=999) (Nm h (by decide +kernel))
theorem o6{n k:Nat}(h:n<2^1000)(hk:k<2^1000):(tmT n k).length<=2010:=by
 have h1:=pI h;have h2:=pI hk;unfold tmT;split
 ·omega
 ·rw[Nf,Nj];split<;>split<;>simp<;>omega
def qN:Sp:=λvs H Q _=>∃n k:Nat,vs=[.int (n:Int),.int (k:Int)]/\n<2^1000/\k<2^1000/\∀H',Same H H'->Q (.str (stL (tmT n k))) H'
theorem DH{f:Addr}{fd:FuncData}(F:Fun K "term_text" "term_text" jX f fd)(T:Txt K mg){eW:Addr}{eU:FuncData}(eh:Cal P w K mg base 1 "whole_text" ["value"] gG eW eU):FnOk P w K mg base CX0 2 f fd ["size","place"] qN:=by
 obtain⟨fg,eI,eO,e8⟩:=eh;refine F.ok sc_term_text (λvs H Q E h=>?_) (λcdv A outer s H vs Q E hr h=>?_)
 ·obtain⟨n,k,rfl,_⟩:=h;rfl
 ·obtain⟨n,p,rfl,hn,hp,k⟩:=h;have big:=sizeLine_eq;have l1:=pI hn;have l2:=pI hp
  refine⟨_,(ah (ar (ao bM (pv 1) af (ap _))
   (ae (ai (aw fg (hr.mono) rfl eI eO e8 .nil am (aa (pv 0) ac))))
   ay)
   (ah (aF (i:=2) sc_term_text.nd rfl (Or.inl rfl) (iy (ao bM (pv 1) af (ap _)) ad (aq bi ad (aw fg (hr.mono) rfl eI eO e8 .nil am (aa (pv 1) ac)))))
   (ah (ar (ao bM (pv 0) af (ap _))
     (ae (ai (pv 2)))
     ay)
   (ae (ai (aq bi (aq bi (aw fg (hr.mono) rfl eI eO e8 .nil am (aa (pv 0) ac)) ad) (pv 2))))))),?_⟩
  refine aD ⟨_,rfl,_,_,rfl,rfl,_,rfl,aC (λh0=>?_) (λh0=>?_)⟩
  ·have h0':p=0:=by have:(p:Int)=0:=h0;omega
   refine⟨_,rfl,_,rfl,gm hn,λH' sm=>?_⟩;rw[db];have:=k H' sm;unfold tmT at this
   rw[if_pos h0']at this;exact this
  have h0':¬p=0:=by have:¬(p:Int)=0:=h0;omega
  have kk:∀H',Same H H'->∀z,z=stL ((if n=1 then[]else al n++[42])++(120::if p=1 then[]else 94::al p))->Q (.str z) H':=λH' sm z e=>by
   have:=k H' sm;unfold tmT at this
   rw[if_neg h0']at this;rw[e];exact this
  by_cases h1:p=1
  ·refine aN ⟨_,rfl,_,_,rfl,rfl,_,rfl,aC (λ_=>?_) (λz=>absurd (show(p:Int)=1 by omega) z)⟩;refine aD ⟨_,rfl,_,_,rfl,rfl,_,rfl,aC (λh2=>?_) (λh2=>?_)⟩
   ·have h2':n=1:=by have:(n:Int)=1:=h2;omega
    exact⟨_,rfl,kk _ (λ_ _ e=>e) _ (by rw[if_pos h2',if_pos h1];exact lK)⟩
   ·have h2':¬n=1:=by have:¬(n:Int)=1:=h2;omega
    refine⟨_,rfl,_,rfl,gm hn,λH1 sm=>?_⟩;refine⟨_,_,rfl,rfl,?_,_,rfl,_,_,rfl,rfl,?_,kk _ sm _ ?_⟩
    ·rw[db,dF,ak,ak];simp;omega
    ·rw[db,dF,aG,lK,ak,ak];simp;omega
    ·rw[if_neg h2',if_pos h1,db,dF,aG,lK,aG]
  ·refine aN ⟨_,rfl,_,_,rfl,rfl,_,rfl,aC (λz=>absurd (by have:(p:Int)=1:=z;omega) h1) (λ_=>?_)⟩;refine⟨_,rfl,_,rfl,gm hp,λH1 s1=>?_⟩;refine⟨_,_,rfl,rfl,?_,?_⟩
   ·rw[db,yf,ak,ak];simp;omega
   have ee:Str.ofString "x^"++txt (p:Int)=stL (120::94::al p):=by rw[db,yf,aG];rfl
   rw[ee];refine aD ⟨_,rfl,_,_,rfl,rfl,_,rfl,aC (λh2=>?_) (λh2=>?_)⟩
   ·have h2':n=1:=by have:(n:Int)=1:=h2;omega
    exact⟨_,rfl,kk _ s1 _ (by rw[if_pos h2',if_neg h1];rfl)⟩
   ·have h2':¬n=1:=by have:¬(n:Int)=1:=h2;omega
    refine⟨_,rfl,_,rfl,gm hn,λH2 sm=>?_⟩;refine⟨_,_,rfl,rfl,?_,_,rfl,_,_,rfl,rfl,?_,kk _ (s1.trans sm) _ ?_⟩
    ·rw[db,dF,ak,ak];simp;omega
    ·rw[db,dF,aG,ak,ak];simp;omega
    ·rw[if_neg h2',if_neg h1,db,dF,aG,aG]
theorem wu{l:List Int}(h:AllB 1000 l):∀n,n<2^1000->(ptT l n).length<=2020*n
 |0,_=>Nr _
 |n+1,hn=>by
  have ih:=wu h n (by omega);have h1:=o6 (n:=(cf l n).natAbs) (k:=n) (h.cf n) (by omega);unfold ptT;rw[Nf];split
  ·simp;omega
  ·rw[Nf];simp;omega
def mH:Sp:=λvs H Q _=>∃(a:Addr) (ns:List Int),vs=[.ref a]/\H a=some (.lst (ns.map V.int))/\ns.length<=60/\AllB 1000 ns/\∀H',Same H H'->Q (.str (stL (plT ns))) H'
theorem DZ{f:Addr}{fd:FuncData}(F:Fun K "poly_text" "poly_text" ka f fd)(T:Txt K mg){Ji:Addr}{IC:FuncData}(Mg:Cal P w K mg base 2 "term_text" ["size","place"] qN Ji IC){Jt:Addr}{IM:FuncData}(Mr:Cal P w K mg base 1 "degree" ["row"] rp Jt IM):FnOk P w K mg base CX0 3 f fd ["row"] mH:=by
 obtain⟨Ad,xQ,yn,zI⟩:=Mg;obtain⟨Aj,xX,yu,zO⟩:=Mr;refine F.ok sc_poly_text (λvs H Q E h=>?_) (λcdv A outer s H vs Q E hr h=>?_)
 ·obtain⟨a,ns,rfl,_⟩:=h;rfl
 ·obtain⟨a,ns,rfl,hA,hn,hb,k⟩:=h;have big:=sizeLine_eq;have hu:=hr.units;have p60:60<2^1000:=by decide +kernel
  refine⟨_,(ah (ar (ao (DD (K:=K) rfl hu) (pv 0) (aO ac) (ap _))
   (ae (ai ad))
   ay)
   (ah (aF (i:=1) sc_poly_text.nd rfl (Or.inl rfl) (iy (ao cW (aA (aH (K:=K) rfl) (pv 0) (ft fj af) (λ_ _=>rfl)) af (ap _)) ad ad))
   (ah (aF (i:=1) sc_poly_text.nd rfl (Or.inl rfl) (aq bi (pv 1) (aw Ad (hr.mono) rfl xQ yn zI .nil am (aa (aP oG (by rfl) T.abs_ PyProof.Rows.boot_abs (aa (aA (aH (K:=K) rfl) (pv 0) (ft fj af) (λ_ _=>rfl)) ac)) (aa (aw Aj (hr.mono) rfl xX yu zO .nil am (aa (pv 0) ac)) ac)))))
   (ah (mS PassesOwn.never rfl (Dm rfl T.range_ (aa (aq gl (aw Aj (hr.mono) rfl xX yu zO .nil am (aa (pv 0) ac)) af) (aa (ft fj af) (aa (ft fj af) ac)))) (ix (i:=2) sc_poly_text.nd rfl (Or.inl rfl))
     (ae (ar (ao w9 (aA (aH (K:=K) rfl) (pv 0) (pv 2) (λ_ _=>rfl)) af (ap _))
       (ae (aF (i:=1) sc_poly_text.nd rfl (Or.inl rfl) (aq bi (aq bi (pv 1) (iy (ao cW (aA (aH (K:=K) rfl) (pv 0) (pv 2) (λ_ _=>rfl)) af (ap _)) ad ad)) (aw Ad (hr.mono) rfl xQ yn zI .nil am (aa (aP oG (by rfl) T.abs_ PyProof.Rows.boot_abs (aa (aA (aH (K:=K) rfl) (pv 0) (pv 2) (λ_ _=>rfl)) ac)) (aa (pv 2) ac))))))
       ay)))
   (ae (ai (pv 1))))))),?_⟩
  refine aD ⟨_,rfl,Nr _,λp1 hp1=>?_⟩;have s1:Same H (upd H p1 (.lst [])):=Same.upd_new hp1;refine⟨a,p1,ns,[],rfl,rfl,SqL.of (s1 _ _ hA),SqL.of aj,_,rfl,aC (λh0=>?_) (λh0=>?_)⟩
  ·have h0':ns=[]:=h0;have:=k _ s1;unfold plT at this
   rw[if_pos h0',<- eJ]at this;exact this
  have h0':ns≠[]:=h0;generalize upd H p1 (.lst [])=H1 at s1 ⊢
  have hl:=List.length_pos_iff.mpr h0';obtain⟨d,hd⟩:∃d,ns.length=d+1:=⟨ns.length-1,by omega⟩;have hd1:ns.length-1=d:=by omega
  have kk:∀H',Same H H'->Q (.str (stL ((if cf ns d<0 then[45]else[])++tmT (cf ns d).natAbs d++ptT ns d))) H':=λH' sm=>by
   have:=k H' sm;unfold plT at this
   rw[if_neg h0',hd1]at this;exact this
  have lt1:=o6 (n:=(cf ns d).natAbs) (k:=d) (hb.cf d) (by omega);have lp:=wu hb d (by omega);have aL:atI (ns.map V.int) (-1)=some (.int (cf ns d)):=by rw[Lc h0',hd1]
  refine aN ⟨_,rfl,_,rfl,a,_,_,_,rfl,rfl,SqL.of (s1 _ _ hA),aL,_,_,rfl,rfl,_,rfl,aC (λh=>?_) (λh=>?_)⟩
  ·show bH _ _ _ _ _;refine cU (λσ' H'=>∃pre:List Nat,σ'=[some (.ref a),some (.str (stL pre)),none]/\Same H H'/\pre=if cf ns d<0 then[45]else[]) ⟨[45],by rw[<- gt];rfl,s1,by rw[if_pos h]⟩ ?_;rintro σ' H2 ⟨pre,rfl,s2,hpre⟩;have hpl:pre.length<=1:=by rw[hpre];split<;>simp
   refine aN ⟨_,rfl,_,rfl,_,rfl,a,_,_,_,rfl,rfl,SqL.of (s2 _ _ hA),aL,_,rfl,?_⟩;rw[jE];refine⟨_,rfl,a,_,rfl,s2 _ _ hA,(cf ns d).natAbs,d,?_,hb.cf d,by omega,λH3 sm3=>?_⟩
   ·rw[Nh,hd];have:((d+1:Nat):Int)-1=(d:Int):=by omega
    rw[this];rfl
   refine⟨_,_,rfl,rfl,by rw[ak,ak];omega,?_⟩;rw[aG];have s3:=s2.trans sm3;refine⟨_,rfl,a,_,rfl,s3 _ _ hA,_,_,rfl,rfl,_,rfl,_,rfl,(d:Int)-1,-1,?_,by omega,?_⟩
   ·rw[Nh,hd];show[V.int (((d+1:Nat):Int)-1-1),V.int (-1),V.int (-1)]=_;rw[show((d+1:Nat):Int)-1-1=(d:Int)-1 by omega]
   have en:((d:Int)-1 - -1).toNat=d:=by omega
   rw[en];refine yW (λi σ' H'=>∃(z2:Option V) (fs:List Nat),σ'=[some (.ref a),some (.str (stL fs)),z2]/\Same H H'/\fs++ptT ns (d-i)=pre++tmT (cf ns d).natAbs d++ptT ns d) ⟨none,_,rfl,s3,rfl⟩ ?_ ?_
   ·rintro i σ' H4 hi ⟨z2,fs,rfl,s4,hfs⟩;have ei:(d:Int)-1+(i:Int) * -1=((d-i-1:Nat):Int):=by omega
    obtain⟨e,he⟩:∃e,d-i=e+1:=⟨d-i-1,by omega⟩;have he1:d-i-1=e:=by omega
    have he2:d-(i+1)=e:=by omega
    rw[he1]at ei;rw[he2]
    have hfl:fs.length<=200000:=by have:=congrArg List.length hfs;rw[Nf,Nf,Nf]at this;omega
    have aE:atI (ns.map V.int) ((d:Int)-1+(i:Int) * -1)=some (.int (cf ns e)):=zW ei (by omega);have lt2:=o6 (n:=(cf ns e).natAbs) (k:=e) (hb.cf e) (by omega);refine dA ⟨_,rfl,_,rfl,a,_,_,_,rfl,rfl,SqL.of (s4 _ _ hA),aE,_,_,rfl,rfl,_,rfl,lm (λh1=>?_) (λh1=>?_)⟩
    ·have h1':¬cf ns e=0:=h1
     have hpt:ptT ns (d-i)=([32,if cf ns e<0 then 45 else 43,32]++tmT (cf ns e).natAbs e)++ptT ns e:=by rw[he];show(if cf ns e=0 then _ else _)++_=_;rw[if_neg h1']
     rw[hpt]at hfs;refine cp ⟨_,rfl,_,rfl,_,rfl,a,_,_,_,rfl,rfl,SqL.of (s4 _ _ hA),aE,_,_,rfl,rfl,_,rfl,aC (λh2=>?_) (λh2=>?_)⟩
     ·refine⟨_,_,rfl,rfl,by rw[gs,ak,ak];simp;omega,_,rfl,_,rfl,a,_,_,_,rfl,rfl,SqL.of (s4 _ _ hA),aE,_,rfl,_,rfl,(cf ns e).natAbs,e,by rw[jE,ei];rfl,hb.cf e,by omega,λH5 sm5=>?_⟩;refine⟨_,_,rfl,rfl,by rw[gs,aG,ak,ak];simp;omega,_,fs++[32,45,32]++tmT (cf ns e).natAbs e,by rw[gs,aG,aG];rfl,s4.trans sm5,?_⟩;rw[if_pos h2]at hfs;rw[<- hfs];simp
     ·refine⟨_,_,rfl,rfl,by rw[gq,ak,ak];simp;omega,_,rfl,_,rfl,a,_,_,_,rfl,rfl,SqL.of (s4 _ _ hA),aE,_,rfl,_,rfl,(cf ns e).natAbs,e,by rw[jE,ei];rfl,hb.cf e,by omega,λH5 sm5=>?_⟩;refine⟨_,_,rfl,rfl,by rw[gq,aG,ak,ak];simp;omega,_,fs++[32,43,32]++tmT (cf ns e).natAbs e,by rw[gq,aG,aG];rfl,s4.trans sm5,?_⟩;rw[if_neg h2]at hfs;rw[<- hfs];simp
    ·have h1':cf ns e=0:=h1;refine⟨_,fs,rfl,s4,?_⟩;rw[<- hfs,he];show _=fs++((if cf ns e=0 then[]else _)++ptT ns e);rw[if_pos h1',NF]
   ·rintro σ' H4 ⟨z2,fs,rfl,s4,hfs⟩;rw[Nat.sub_self]at hfs;have hfs':fs=pre++tmT (cf ns d).natAbs d++ptT ns d:=by rw[<- hfs];exact(Ny fs).symm
    refine⟨_,rfl,?_⟩;rw[hfs',hpre];exact kk _ s4
  ·show bH _ _ _ _ _;refine cU (λσ' H'=>∃pre:List Nat,σ'=[some (.ref a),some (.str (stL pre)),none]/\Same H H'/\pre=if cf ns d<0 then[45]else[]) ⟨[],by rw[<- iH];rfl,s1,by rw[if_neg h]⟩ ?_;rintro σ' H2 ⟨pre,rfl,s2,hpre⟩;have hpl:pre.length<=1:=by rw[hpre];split<;>simp
   refine aN ⟨_,rfl,_,rfl,_,rfl,a,_,_,_,rfl,rfl,SqL.of (s2 _ _ hA),aL,_,rfl,?_⟩;rw[jE];refine⟨_,rfl,a,_,rfl,s2 _ _ hA,(cf ns d).natAbs,d,?_,hb.cf d,by omega,λH3 sm3=>?_⟩
   ·rw[Nh,hd];have:((d+1:Nat):Int)-1=(d:Int):=by omega
    rw[this];rfl
   refine⟨_,_,rfl,rfl,by rw[ak,ak];omega,?_⟩;rw[aG];have s3:=s2.trans sm3;refine⟨_,rfl,a,_,rfl,s3 _ _ hA,_,_,rfl,rfl,_,rfl,_,rfl,(d:Int)-1,-1,?_,by omega,?_⟩
   ·rw[Nh,hd];show[V.int (((d+1:Nat):Int)-1-1),V.int (-1),V.int (-1)]=_;rw[show((d+1:Nat):Int)-1-1=(d:Int)-1 by omega]
   have en:((d:Int)-1 - -1).toNat=d:=by omega
   rw[en];refine yW (λi σ' H'=>∃(z2:Option V) (fs:List Nat),σ'=[some (.ref a),some (.str (stL fs)),z2]/\Same H H'/\fs++ptT ns (d-i)=pre++tmT (cf ns d).natAbs d++ptT ns d) ⟨none,_,rfl,s3,rfl⟩ ?_ ?_
   ·rintro i σ' H4 hi ⟨z2,fs,rfl,s4,hfs⟩;have ei:(d:Int)-1+(i:Int) * -1=((d-i-1:Nat):Int):=by omega
    obtain⟨e,he⟩:∃e,d-i=e+1:=⟨d-i-1,by omega⟩;have he1:d-i-1=e:=by omega
    have he2:d-(i+1)=e:=by omega
    rw[he1]at ei;rw[he2]
    have hfl:fs.length<=200000:=by have:=congrArg List.length hfs;rw[Nf,Nf,Nf]at this;omega
    have aE:atI (ns.map V.int) ((d:Int)-1+(i:Int) * -1)=some (.int (cf ns e)):=zW ei (by omega);have lt2:=o6 (n:=(cf ns e).natAbs) (k:=e) (hb.cf e) (by omega);refine dA ⟨_,rfl,_,rfl,a,_,_,_,rfl,rfl,SqL.of (s4 _ _ hA),aE,_,_,rfl,rfl,_,rfl,lm (λh1=>?_) (λh1=>?_)⟩
    ·have h1':¬cf ns e=0:=h1
     have hpt:ptT ns (d-i)=([32,if cf ns e<0 then 45 else 43,32]++tmT (cf ns e).natAbs e)++ptT ns e:=by rw[he];show(if cf ns e=0 then _ else _)++_=_;rw[if_neg h1']
     rw[hpt]at hfs;refine cp ⟨_,rfl,_,rfl,_,rfl,a,_,_,_,rfl,rfl,SqL.of (s4 _ _ hA),aE,_,_,rfl,rfl,_,rfl,aC (λh2=>?_) (λh2=>?_)⟩
     ·refine⟨_,_,rfl,rfl,by rw[gs,ak,ak];simp;omega,_,rfl,_,rfl,a,_,_,_,rfl,rfl,SqL.of (s4 _ _ hA),aE,_,rfl,_,rfl,(cf ns e).natAbs,e,by rw[jE,ei];rfl,hb.cf e,by omega,λH5 sm5=>?_⟩;refine⟨_,_,rfl,rfl,by rw[gs,aG,ak,ak];simp;omega,_,fs++[32,45,32]++tmT (cf ns e).natAbs e,by rw[gs,aG,aG];rfl,s4.trans sm5,?_⟩;rw[if_pos h2]at hfs;rw[<- hfs];simp
     ·refine⟨_,_,rfl,rfl,by rw[gq,ak,ak];simp;omega,_,rfl,_,rfl,a,_,_,_,rfl,rfl,SqL.of (s4 _ _ hA),aE,_,rfl,_,rfl,(cf ns e).natAbs,e,by rw[jE,ei];rfl,hb.cf e,by omega,λH5 sm5=>?_⟩;refine⟨_,_,rfl,rfl,by rw[gq,aG,ak,ak];simp;omega,_,fs++[32,43,32]++tmT (cf ns e).natAbs e,by rw[gq,aG,aG];rfl,s4.trans sm5,?_⟩;rw[if_neg h2]at hfs;rw[<- hfs];simp
    ·have h1':cf ns e=0:=h1;refine⟨_,fs,rfl,s4,?_⟩;rw[<- hfs,he];show _=fs++((if cf ns e=0 then[]else _)++ptT ns e);rw[if_pos h1',NF]
   ·rintro σ' H4 ⟨z2,fs,rfl,s4,hfs⟩;rw[Nat.sub_self]at hfs;have hfs':fs=pre++tmT (cf ns d).natAbs d++ptT ns d:=by rw[<- hfs];exact(Ny fs).symm
    refine⟨_,rfl,?_⟩;rw[hfs',hpre];exact kk _ s4
inductive Kd |wh |na |gi |mi |su |le |ti |ov |po |ro
 deriving DecidableEq
noncomputable def kdP:PT->Kd
 |.whole _=>.wh |.named _=>.na |.given _ _ _=>.gi |.minus _=>.mi |.sum _ _=>.su |.less _ _=>.le |.times _ _=>.ti |.over _ _=>.ov |.power _ _=>.po |.rooted _ _=>.ro
noncomputable def TC.at(tc:TC):Kd->Addr
 |.wh=>tc.wh |.na=>tc.na |.gi=>tc.gi |.mi=>tc.mi |.su=>tc.su |.le=>tc.le |.ti=>tc.ti |.ov=>tc.ov |.po=>tc.po |.ro=>tc.ro
theorem A4:¬(("text":Str)="value"):=by decide +kernel
theorem A3:¬(("text":Str)="word"):=by decide +kernel
theorem ij:¬(("text":Str)="one"):=by decide +kernel
theorem o7:¬(("text":Str)="other"):=by decide +kernel
theorem vA:¬(("text":Str)="power"):=by decide +kernel
theorem A6:¬(("text":Str)="poly"):=by decide +kernel
theorem A7:¬(("text":Str)="low"):=by decide +kernel
theorem A8:¬(("text":Str)="high"):=by decide +kernel
theorem uo{a b:Str}(h:¬b=a)(x:V):(f1 a x).lookup b=none:=by unfold f1;rw[aZ,if_neg h];rfl
theorem lS{a c b:Str}(h:¬b=a)(h2:¬b=c)(x y:V):(f2 a c x y).lookup b=none:=by unfold f2;rw[aZ,if_neg h2,aZ,if_neg h];rfl
theorem PtH.ins{tc:TC}{av:Addr}{H:Hp}:∀{t:PT} {q:Addr},PtH tc av H t q->∃(dx:Addr) (fs:List (Str×V)),H q=some (.ins (tc.at (kdP t)) dx fs)/\fs.lookup ("text":Str)=none
 |.whole _,_,⟨_,dx,e⟩=>⟨dx,_,e,uo A4 _⟩
 |.named _,_,⟨_,dx,e⟩=>⟨dx,_,e,uo A3 _⟩
 |.given _ _ _,_,⟨_,dx,pk,pl,ph,e,_⟩=>⟨dx,_,e,by unfold d8;rw[aZ,if_neg A8,aZ,if_neg A7,aZ,if_neg A6];rfl⟩
 |.minus _,_,⟨_,dx,_,e,_⟩=>⟨dx,_,e,uo ij _⟩
 |.power _ _,_,⟨_,dx,_,e,_⟩=>⟨dx,_,e,lS ij vA _ _⟩
 |.rooted _ _,_,⟨_,dx,_,e,_⟩=>⟨dx,_,e,lS ij vA _ _⟩
 |.sum _ _,_,⟨_,dx,_,_,e,_⟩=>⟨dx,_,e,lS ij o7 _ _⟩
 |.less _ _,_,⟨_,dx,_,_,e,_⟩=>⟨dx,_,e,lS ij o7 _ _⟩
 |.times _ _,_,⟨_,dx,_,_,e,_⟩=>⟨dx,_,e,lS ij o7 _ _⟩
 |.over _ _,_,⟨_,dx,_,_,e,_⟩=>⟨dx,_,e,lS ij o7 _ _⟩
def dO(tc:TC)(κ:Kd)(n:Nat):Sp:=λvs H Q _=>∃(av q:Addr) (t:PT),vs=[.ref q]/\kdP t=κ/\PtH tc av H t q/\OkT t/\t.hgt<=n/\(tx t).length<=110000/\∀H',Same H H'->Q (.str (stL (tx t))) H'
def TxA(P:Program)(w:World)(K:PySem.W.Frag)(mg:Str->Option Value)(base:Heap)(tc:TC)(k n:Nat):Prop:=∀κ,Cls K (tc.at κ)/\∃ps f fd,MCal P w K mg base k (tc.at κ) "text" ps (dO tc κ n) f fd
def Bc(tc:TC)(n:Nat)(ta:TE):TE:=λσ H Q=>ta σ H λx H1=>∃(av q:Addr) (t:PT),x=.ref q/\PtH tc av H1 t q/\OkT t/\t.hgt<=n/\(tx t).length<=110000/\∀H',Same H1 H'->Q (.str (stL (tx t))) H'
theorem lv{X:Cx}{o:Expr}{ta:TE}{apos pos:Pos}{tc:TC}{k n:Nat}{pl:Sem Bool}(he:PE X o ta)(D:TxA X.prog X.w X.K X.mg X.base tc k n)(hr:Room k X.A)
 (ht:eval (.Call (.Attribute o "text" apos) [] [] pos) X.env=(do
   let ov <- eval o X.env
   standAt apos.atName
   let(f,first) <- holding [ov] (getMethod ov "text" pl)
   callWith pos f first (backTo pos (starEach [] X.env)) (backToKw pos (keywordEach [] X.env))):=by rfl) :
 PE X (.Call (.Attribute o "text" apos) [] [] pos) (Bc tc n ta):=by
 intro pins s σ H Q I h;refine PySem.W.methodCall_KW (pl:=pl) (thn (he pins s σ H _ I h) λu s1 ⟨x,H1,I1,rx,av,a,t,ex,hP,hO,hh,hl,q⟩=>?_) ht;subst ex;obtain rfl:u=Value.ref a:=rx;obtain⟨c,ps,f,fd,M⟩:=D (kdP t);obtain⟨dx,fs,ea,l⟩:=hP.ins;refine tI I1 ea c M.mt l ?_;exact PySem.W.callWith_K0 (first:=[.ref a]) I1.kIn M.mt.kp (pw (us:=[.ref a]) (vs:=[.ref a]) (E:=λ_ _ _=>False) M.ok hr M.bd .nil am I1 (.cons rfl .nil) ⟨av,a,t,rfl,rfl,hP,hO,hh,hl,q⟩)
structure CA(K:PySem.W.Frag)(C:Addr):Prop where
 cl:Cls K C
 ha:PySem.W.findIn K (.ref C) "__class__"=some (some (.builtin "object.__class__"))
 hn:PySem.W.specialIn K (.builtin "object.__class__") "__get__"=some (some (.builtin "getset_descriptor.__get__"))
 ht:PySem.W.takesIn K (.builtin "object.__class__")=some true
 hm:PySem.W.mroIn K C (.type "object")=some true
theorem _root_.L2.PCI.ca{C:Addr}{x:Str}{fs:List Str}(r:PCI K mg C x fs):CA K C:=⟨r.cl,r.ha,r.hn,r.ht,r.hm⟩
theorem GCI.ca{C:Addr}(r:GCI K mg C):CA K C:=⟨r.cl,r.ha,r.hn,r.ht,r.hm⟩
structure CsA(K:PySem.W.Frag)(tc:TC):Prop where
 ca:∀κ,CA K (tc.at κ)
 ii:∀κ κ':Kd,PySem.W.kitOne K (.ref (tc.at κ)) (.ref (tc.at κ'))=some (decide (κ=κ'))
theorem eQ{tc:TC}(A:CsA K tc){av:Addr}{H:Hp}{t:PT}{q:Addr}(h:PtH tc av H t q)(κ:Kd){C:Addr}(e:tc.at κ=C){Q:VK}(k:Q (.bl (decide (kdP t=κ))) H):iu K [.ref q,.ref C] H Q:=by obtain⟨dx,fs,ea,_⟩:=h.ins;have a:=A.ca (kdP t);subst e;exact yE (.ins ea a.cl a.ha a.hn a.ht a.hm) (A.ii _ _) k
def fG(tc:TC)(r:Nat):Sp:=λvs H Q _=>∃(av q:Addr) (t:PT),vs=[.ref q]/\PtH tc av H t q/\Q (.bl (decide (rk t=r))) H
theorem D6{tc:TC}{CSum CLess f:Addr}{fd:FuncData}(F:Fun K "is_sum" "is_sum" fR f fd)(T:Txt K mg)(RSum:PCI K mg CSum "Sum" ["one","other"])(RLess:PCI K mg CLess "Less" ["one","other"])(e1:tc.su=CSum)(e2:tc.le=CLess)(A:CsA K tc):FnOk P w K mg base CX0 1 f fd ["tree"] (fG tc 0):=by
 refine F.ok BQ (λvs H Q E h=>?_) (λcdv A' outer s H vs Q E hr h=>?_)
 ·obtain⟨av,q,t,rfl,_⟩:=h;rfl
 ·obtain⟨av,q,t,rfl,hP,k⟩:=h;refine⟨_,(ae (ai (gM (aP (dM (K:=K) rfl) (by rfl) T.isinstance_ PyProof.Rows.boot_isinstance (aa (pv 0) (aa (bU (v:=.ref CSum) rfl RSum.mg rfl) ac))) (bT (aP (dM (K:=K) rfl) (by rfl) T.isinstance_ PyProof.Rows.boot_isinstance (aa (pv 0) (aa (bU (v:=.ref CLess) rfl RLess.mg rfl) ac))))))),?_⟩;refine au (gI (cT ⟨_,rfl,eQ A hP .su e1 ⟨_,rfl,?_⟩⟩));cases t with
  |sum a b=>exact aJ k
  |less a b=>exact aI (cT ⟨_,rfl,eQ A hP .le e2 k⟩)
  |_=>exact aI (cT ⟨_,rfl,eQ A hP .le e2 k⟩)
theorem D7{tc:TC}{CTimes COver f:Addr}{fd:FuncData}(F:Fun K "is_product" "is_product" fS f fd)(T:Txt K mg)(RTimes:PCI K mg CTimes "Times" ["one","other"])(ROver:PCI K mg COver "Over" ["one","other"])(e1:tc.ti=CTimes)(e2:tc.ov=COver)(A:CsA K tc):FnOk P w K mg base CX0 1 f fd ["tree"] (fG tc 1):=by
 refine F.ok BR (λvs H Q E h=>?_) (λcdv A' outer s H vs Q E hr h=>?_)
 ·obtain⟨av,q,t,rfl,_⟩:=h;rfl
 ·obtain⟨av,q,t,rfl,hP,k⟩:=h;refine⟨_,(ae (ai (gM (aP (dM (K:=K) rfl) (by rfl) T.isinstance_ PyProof.Rows.boot_isinstance (aa (pv 0) (aa (bU (v:=.ref CTimes) rfl RTimes.mg rfl) ac))) (bT (aP (dM (K:=K) rfl) (by rfl) T.isinstance_ PyProof.Rows.boot_isinstance (aa (pv 0) (aa (bU (v:=.ref COver) rfl ROver.mg rfl) ac))))))),?_⟩;refine au (gI (cT ⟨_,rfl,eQ A hP .ti e1 ⟨_,rfl,?_⟩⟩));cases t with
  |times a b=>exact aJ k
  |over a b=>exact aI (cT ⟨_,rfl,eQ A hP .ov e2 k⟩)
  |_=>exact aI (cT ⟨_,rfl,eQ A hP .ov e2 k⟩)
theorem D9{tc:TC}{CWhole CNamed CGiven CRooted f:Addr}{fd:FuncData}(F:Fun K "is_atom" "is_atom" fT f fd)(T:Txt K mg)(RWhole:PCI K mg CWhole "Whole" ["value"])(RNamed:PCI K mg CNamed "Named" ["word"])(RGiven:GCI K mg CGiven)(RRooted:PCI K mg CRooted "Rooted" ["one","power"])(e1:tc.wh=CWhole)(e2:tc.na=CNamed)(e3:tc.gi=CGiven)(e4:tc.ro=CRooted)(A:CsA K tc):FnOk P w K mg base CX0 1 f fd ["tree"] (fG tc 4):=by
 refine F.ok BT (λvs H Q E h=>?_) (λcdv A' outer s H vs Q E hr h=>?_)
 ·obtain⟨av,q,t,rfl,_⟩:=h;rfl
 ·obtain⟨av,q,t,rfl,hP,k⟩:=h;refine⟨_,(ae (ai (gM (aP (dM (K:=K) rfl) (by rfl) T.isinstance_ PyProof.Rows.boot_isinstance (aa (pv 0) (aa (bU (v:=.ref CWhole) rfl RWhole.mg rfl) ac))) (gM (aP (dM (K:=K) rfl) (by rfl) T.isinstance_ PyProof.Rows.boot_isinstance (aa (pv 0) (aa (bU (v:=.ref CNamed) rfl RNamed.mg rfl) ac))) (gM (aP (dM (K:=K) rfl) (by rfl) T.isinstance_ PyProof.Rows.boot_isinstance (aa (pv 0) (aa (bU (v:=.ref CGiven) rfl RGiven.mg rfl) ac))) (bT (aP (dM (K:=K) rfl) (by rfl) T.isinstance_ PyProof.Rows.boot_isinstance (aa (pv 0) (aa (bU (v:=.ref CRooted) rfl RRooted.mg rfl) ac))))))))),?_⟩;refine au (gI (cT ⟨_,rfl,eQ A hP .wh e1 ⟨_,rfl,?_⟩⟩));by_cases h1:kdP t=.wh
  ·rw[decide_eq_true h1];rw[decide_eq_true (show rk t=4 by cases t<;>first |rfl |cases h1)]at k;exact aJ k
  rw[decide_eq_false h1];refine aI (gI (cT ⟨_,rfl,eQ A hP .na e2 ⟨_,rfl,?_⟩⟩));by_cases h2:kdP t=.na
  ·rw[decide_eq_true h2];rw[decide_eq_true (show rk t=4 by cases t<;>first |rfl |cases h2)]at k;exact aJ k
  rw[decide_eq_false h2];refine aI (gI (cT ⟨_,rfl,eQ A hP .gi e3 ⟨_,rfl,?_⟩⟩));by_cases h3:kdP t=.gi
  ·rw[decide_eq_true h3];rw[decide_eq_true (show rk t=4 by cases t<;>first |rfl |cases h3)]at k;exact aJ k
  rw[decide_eq_false h3];refine aI (cT ⟨_,rfl,eQ A hP .ro e4 ?_⟩)
  rw[show decide (kdP t=Kd.ro)=decide (rk t=4) by
   cases t with
   |whole=>exact absurd rfl h1
   |named=>exact absurd rfl h2
   |given=>exact absurd rfl h3
   |_=>rfl]
  exact k
theorem jL(v:Int):txt v=stL (inT v):=by
 unfold inT;by_cases h:v<0
 ·rw[if_pos h,vp h]
 ·rw[if_neg h];have:v=((v.natAbs:Nat):Int):=by omega
  rw[this,db];rfl
def iq(tc:TC)(n:Nat):Sp:=λvs H Q _=>∃(av q:Addr) (t:PT) (b:Bool),vs=[.ref q,.bl b]/\PtH tc av H t q/\OkT t/\t.hgt<=n/\(tx t).length<=110000/\∀H',Same H H'->Q (.str (stL (if b then tx t else 40::(tx t++[41])))) H'
theorem DF{tc:TC}{k n:Nat}{f:Addr}{fd:FuncData}(F:Fun K "within" "within" fJ f fd)(T:Txt K mg)(D_text:TxA P w K mg base tc k n):FnOk P w K mg base CX0 (k+1) f fd ["tree","bare"] (iq tc n):=by
 refine F.ok BI (λvs H Q E h=>?_) (λcdv A outer s H vs Q E hr h=>?_)
 ·obtain⟨av,q,t,b,rfl,_⟩:=h;rfl
 ·obtain⟨av,q,t,b,rfl,hP,hO,hh,hl,kk⟩:=h;have big:=sizeLine_eq
  refine⟨_,(ah (ar (bS (pv 1))
   (ae (ai (lv (pv 0) D_text (hr.mono (by omega)))))
   ay)
   (ae (ai (aq bi (aq bi ad (lv (pv 0) D_text (hr.mono (by omega)))) ad)))),?_⟩
  refine aD ⟨_,rfl,b,rfl,?_⟩;cases b with
  |true=>exact aJ (au ⟨_,rfl,av,q,t,rfl,hP,hO,hh,hl,kk⟩)
  |false =>
   refine aI (au ⟨_,rfl,av,q,t,rfl,hP,hO,hh,hl,λH' s'=>⟨_,_,rfl,rfl,?_,_,_,rfl,rfl,?_,?_⟩⟩)
   ·rw[nt,ak,ak];simp;omega
   ·rw[nt,lN,aG,ak,ak];simp;omega
   ·rw[nt,lN,aG,aG];have:=kk H' s';rw[if_neg (by decide)]at this;exact this
theorem jK{t:PT}{r:Nat}{b:Bool}(h:b=decide (r<=rk t))(l:List Nat):(if b then l else 40::(l++[41]))=wn r t l:=by
 unfold wn;by_cases e:rk t<r
 ·rw[if_pos e,h,decide_eq_false (by omega),if_neg (by decide)]
 ·rw[if_neg e,h,decide_eq_true (by omega),if_pos rfl]
theorem jJ(t:PT)(r:Nat)(l:List Nat):l.length<=(wn r t l).length/\(wn r t l).length<=l.length+2:=by
 unfold wn;split
 ·simp;omega
 ·simp
theorem Cu(t:PT):rk t<=4:=by cases t<;>simp[rk]
def qY(tc:TC)(n:Nat):Sp:=λvs H Q _=>∃(av q q2:Addr) (t t2:PT) (m:Nat),vs=[.ref q,.str (stL [m]),.ref q2]/\PtH tc av H t q/\PtH tc av H t2 q2/\OkT t/\OkT t2/\t.hgt<=n/\t2.hgt<=n/\(wn 1 t (tx t)++m::wn 2 t2 (tx t2)).length<=110000/\∀H',Same H H'->Q (.str (stL (wn 1 t (tx t)++m::wn 2 t2 (tx t2)))) H'
theorem rk3(t:PT)(h:¬rk t=4):decide (kdP t=.po)=decide (3<=rk t):=by cases t<;>first |rfl |exact absurd rfl h
theorem DY{tc:TC}{k n:Nat}{f:Addr}{fd:FuncData}(F:Fun K "product_text" "product_text" fP f fd)(T:Txt K mg)(hk:1<=k){cZ:Addr}{cY:FuncData}(C_within:Cal P w K mg base (k+1) "within" ["tree","bare"] (iq tc n) cZ cY){gC:Addr}{gA:FuncData}(C_is_sum:Cal P w K mg base 1 "is_sum" ["tree"] (fG tc 0) gC gA){oq:Addr}{n5:FuncData}(C_is_product:Cal P w K mg base 1 "is_product" ["tree"] (fG tc 1) oq n5):FnOk P w K mg base CX0 (k+2) f fd ["one","mark","other"] (qY tc n):=by
 obtain⟨ef,dZ,d0,d9⟩:=C_within;obtain⟨lY,lJ,lP,lW⟩:=C_is_sum;obtain⟨LK,F0,G3,Kt⟩:=C_is_product;refine F.ok sc_product_text (λvs H Q E h=>?_) (λcdv A outer s H vs Q E hr h=>?_)
 ·obtain⟨av,q,q2,t,t2,m,rfl,_⟩:=h;rfl
 ·obtain⟨av,q,q2,t,t2,m,rfl,hP,hP2,hO,hO2,hh,hh2,hl,kk⟩:=h;have big:=sizeLine_eq;obtain⟨a1,a2⟩:=jJ t 1 (tx t);obtain⟨b1,b2⟩:=jJ t2 2 (tx t2);rw[Nf,Nj]at hl
  refine⟨_,(ah (aF (i:=3) sc_product_text.nd rfl (Or.inl rfl) (aw ef (hr.mono (by omega)) rfl dZ d0 d9 .nil am (aa (pv 0) (aa (gN (aw lY (hr.mono (by omega)) rfl lJ lP lW .nil am (aa (pv 0) ac))) ac))))
   (ae (ai (aq bi (aq bi (pv 3) (pv 1)) (aw ef (hr.mono (by omega)) rfl dZ d0 d9 .nil am (aa (pv 2) (aa (cu (gN (aw lY (hr.mono (by omega)) rfl lJ lP lW .nil am (aa (pv 2) ac))) (bT (gN (aw LK (hr.mono (by omega)) rfl F0 G3 Kt .nil am (aa (pv 2) ac))))) ac))))))),?_⟩
  refine aN ⟨_,rfl,_,rfl,av,q,t,rfl,hP,_,rfl,av,q,t,_,rfl,hP,hO,hh,by omega,λH1 s1=>?_⟩;rw[jK (t:=t) (r:=1) (b:=!decide (rk t=0)) (by rw[<- decide_not,decide_eq_decide];omega)];refine au ⟨_,rfl,_,rfl,_,_,rfl,rfl,?_,_,rfl,?_⟩
  ·rw[ak];show _+(stL [m]).length<=_;rw[ak];simp;omega
  have fin:∀(b:Bool),b=decide (2<=rk t2)->∀H2,Same H1 H2->(∃i j:Str,V.str (stL (wn 1 t (tx t))++stL [m])=.str i/\V.str (stL (if b then tx t2 else 40::(tx t2++[41])))=.str j/\i.length+j.length<=sizeLine/\Q (.str (i++j)) H2):=λb hb H2 s2=>by
   rw[jK hb];refine⟨_,_,rfl,rfl,?_,?_⟩
   ·rw[aG,ak,ak];simp;omega
   ·rw[aG,aG,Nl];exact kk H2 (s1.trans s2)
  refine cq ⟨_,rfl,av,q2,t2,rfl,hP2.same s1,_,rfl,_,rfl,?_⟩;by_cases h0:rk t2=0
  ·rw[decide_eq_true h0];exact aI ⟨av,q2,t2,false,rfl,hP2.same s1,hO2,hh2,by omega,fin false (by rw[h0];rfl)⟩
  ·rw[decide_eq_false h0];exact aJ ⟨_,rfl,av,q2,t2,rfl,hP2.same s1,_,rfl,av,q2,t2,_,rfl,hP2.same s1,hO2,hh2,by omega,fin (!decide (rk t2=1)) (by rw[<- decide_not,decide_eq_decide];omega)⟩
theorem oA(a:Str)(x:V):(f1 a x).lookup a=some x:=by unfold f1;rw[aZ,if_pos rfl]
theorem gX(a b:Str)(x y:V):(f2 a b x y).lookup b=some y:=by unfold f2;rw[aZ,if_pos rfl]
theorem gY{a b:Str}(h:¬a=b)(x y:V):(f2 a b x y).lookup a=some x:=by unfold f2;rw[aZ,if_neg h,aZ,if_pos rfl]
theorem pF:¬(("one":Str)="power"):=by decide +kernel
theorem pH:¬(("one":Str)="other"):=by decide +kernel
theorem AllB.of_cf{k:Nat}{l:List Int}(h:∀n,Bits k (RM.cf l n)):AllB k l:=λx hx=>by obtain⟨i,hi,e⟩:=List.getElem_of_mem hx;have:=h i;rw[oF hi,e]at this;exact this
theorem mM{x:Int}(h:x.natAbs<10^15):Bits 1000 x:=Bits.mono (j:=64) (NG h (by decide)) (by decide)
theorem A5:¬(("text":Str)="top"):=by decide +kernel
theorem A9:¬(("text":Str)="bottom"):=by decide +kernel
theorem y3(t b:Int):(gx t b).lookup ("text":Str)=none:=by unfold gx;rw[aZ,if_neg A9,aZ,if_neg A5];rfl
theorem yJ{v:Int}(h:v.natAbs<10^12):(inT v).length<=16:=by
 have:=lE (cP h);unfold inT;split
 ·rw[Nj];omega
 ·omega
def mG(C:Addr):Sp:=λvs H Q _=>∃(r:Addr) (t b:Int),vs=[.ref r]/\RA C H r t b/\t.natAbs<10^12/\1<=b/\b.natAbs<10^12/\∀H',Same H H'->Q (.str (stL (frT (t,b)))) H'
theorem EN{CRatio f:Addr}{fd:FuncData}(F:Fun K "text" "Ratio.text" kZ f fd)(T:Txt K mg)(RRatio:RCI K mg CRatio){eW:Addr}{eU:FuncData}(eh:Cal P w K mg base 1 "whole_text" ["value"] gG eW eU):FnOk P w K mg base CX0 2 f fd ["self"] (mG CRatio):=by
 obtain⟨fg,eI,eO,e8⟩:=eh;refine F.ok Cg (λvs H Q E h=>?_) (λcdv A outer s H vs Q E hr h=>?_)
 ·obtain⟨r,t,b,rfl,_⟩:=h;rfl
 ·obtain⟨r,t,b,rfl,⟨dx,hr'⟩,ht,hb,hb',kk⟩:=h;have big:=sizeLine_eq;have l1:=yJ ht
  refine⟨_,(ah (ar (ao bM (aS (K:=K) rfl (pv 0) rfl) af (ap _))
   (ae (ai (aw fg (hr.mono) rfl eI eO e8 .nil am (aa (aS (K:=K) rfl (pv 0) rfl) ac))))
   ay)
   (ae (ai (aq bi (aq bi (aw fg (hr.mono) rfl eI eO e8 .nil am (aa (aS (K:=K) rfl (pv 0) rfl) ac)) ad) (aw fg (hr.mono) rfl eI eO e8 .nil am (aa (aS (K:=K) rfl (pv 0) rfl) ac)))))),?_⟩
  refine aD ⟨_,rfl,r,CRatio,dx,_,_,rfl,hr',RRatio.cl,RRatio.nB,y4 _ _,_,_,rfl,rfl,_,rfl,aC (λh1=>?_) (λh1=>?_)⟩
  ·have h1':b=1:=h1;refine au ⟨_,rfl,r,CRatio,dx,_,_,rfl,hr',RRatio.cl,RRatio.nT,yZ _ _,t,rfl,mM (cP ht),λH1 s1=>?_⟩;have:=kk H1 s1;unfold frT at this
   rw[if_pos (show(t,b).2=1 from h1'),Ny]at this;rw[jL];exact this
  ·have h1':¬b=1:=h1;have l2:=lE (cP hb');refine au ⟨_,rfl,r,CRatio,dx,_,_,rfl,hr',RRatio.cl,RRatio.nT,yZ _ _,t,rfl,mM (cP ht),λH1 s1=>?_⟩;refine⟨_,_,rfl,rfl,?_,_,rfl,r,CRatio,dx,_,_,rfl,s1 _ _ hr',RRatio.cl,RRatio.nB,y4 _ _,b,rfl,mM (cP hb'),λH2 s2=>⟨_,_,rfl,rfl,?_,?_⟩⟩
   ·rw[jL,gS,ak,ak];simp;omega
   ·have l3:=yJ hb';rw[jL,jL,gS,aG,ak,ak];simp;omega
   ·have:=kk H2 (s1.trans s2);unfold frT at this
    rw[if_neg (show ¬(t,b).2=1 from h1')]at this;rw[jL,jL,gS,aG,aG,Nl];have e:inT b=al b.natAbs:=by unfold inT;rw[if_neg (by omega)]
    rw[e];exact this
theorem Ew{tc:TC}{k n:Nat}{CWhole f:Addr}{fd:FuncData}(F:Fun K "text" "Whole.text" fU f fd)(T:Txt K mg)(RWhole:PCI K mg CWhole "Whole" ["value"])(e:tc.wh=CWhole){eW:Addr}{eU:FuncData}(eh:Cal P w K mg base 1 "whole_text" ["value"] gG eW eU):FnOk P w K mg base CX0 (k+3) f fd ["self"] (dO tc .wh (n+1)):=by
 obtain⟨fg,eI,eO,e8⟩:=eh;refine F.ok vX (λvs H Q E h=>?_) (λcdv A outer s H vs Q E hr h=>?_)
 ·obtain⟨av,q,t,rfl,_⟩:=h;rfl
 ·obtain⟨av,q,t,rfl,hκ,hP,hO,hh,hl,kk⟩:=h;refine⟨_,(ae (ai (aw fg (hr.mono (by omega)) rfl eI eO e8 .nil am (aa (aS (K:=K) rfl (pv 0) rfl) ac)))),?_⟩;cases t with
  |whole m =>
   obtain⟨_,dx,hq⟩:=hP;rw[e]at hq;refine au ⟨_,rfl,q,CWhole,dx,_,_,rfl,hq,RWhole.cl,RWhole.na "value" (by simp),oA _ _,(m:Int),rfl,?_,λH' s'=>?_⟩
   ·exact gm (NG (show m<10^30 from hO) (by decide +kernel))
   ·rw[db];exact kk H' s'
  |_=>cases hκ
theorem EV{tc:TC}{k n:Nat}{CNamed f:Addr}{fd:FuncData}(F:Fun K "text" "Named.text" gb f fd)(T:Txt K mg)(RNamed:PCI K mg CNamed "Named" ["word"])(e:tc.na=CNamed):FnOk P w K mg base CX0 (k+3) f fd ["self"] (dO tc .na (n+1)):=by
 refine F.ok v5 (λvs H Q E h=>?_) (λcdv A outer s H vs Q E hr h=>?_)
 ·obtain⟨av,q,t,rfl,_⟩:=h;rfl
 ·obtain⟨av,q,t,rfl,hκ,hP,hO,hh,hl,kk⟩:=h;refine⟨_,(ae (ai (aS (K:=K) rfl (pv 0) rfl))),?_⟩;cases t with
  |named m =>obtain⟨_,dx,hq⟩:=hP;rw[e]at hq;exact au ⟨_,rfl,q,CNamed,dx,_,_,rfl,hq,RNamed.cl,RNamed.na "word" (by simp),oA _ _,kk H (Same.refl _)⟩
  |_=>cases hκ
theorem iG:(Str.ofString "root(":Str)=stL (wRoot++[40]):=by decide +kernel
theorem lM:(Str.ofString ", ":Str)=stL [44,32]:=by decide +kernel
theorem E3{tc:TC}{k n:Nat}{CGiven CRatio f:Addr}{fd:FuncData}(F:Fun K "text" "Given.text" gf f fd)(T:Txt K mg)(RGiven:GCI K mg CGiven)(RRatio:RCI K mg CRatio)(e:tc.gi=CGiven)(ea:tc.ra=CRatio)(hk:1<=k){om:Addr}{nZ:FuncData}(oU:Cal P w K mg base 3 "poly_text" ["row"] mH om nZ){oz:Addr}{n9:FuncData}(oX:MCal P w K mg base 2 CRatio "text" ["self"] (mG CRatio) oz n9):FnOk P w K mg base CX0 (k+3) f fd ["self"] (dO tc .gi (n+1)):=by
 obtain⟨LG,FX,G0,Kq⟩:=oU;obtain⟨Ap,xt,zU⟩:=oX;refine F.ok v8 (λvs H Q E h=>?_) (λcdv A outer s H vs Q E hr h=>?_)
 ·obtain⟨av,q,t,rfl,_⟩:=h;rfl
 ·obtain⟨av,q,t,rfl,hκ,hP,hO,hh,hl,kk⟩:=h;have big:=sizeLine_eq;refine⟨_,(ae (ai (aq bi (aq bi (aq bi (aq bi (aq bi (aq bi ad (aw LG (hr.mono (by omega)) rfl FX G0 Kq .nil am (aa (aS (K:=K) rfl (pv 0) rfl) ac))) ad) (bo (aS (K:=K) rfl (pv 0) rfl) RRatio.cl xt Ap (hr.mono (by omega)) zU .nil am)) ad) (bo (aS (K:=K) rfl (pv 0) rfl) RRatio.cl xt Ap (hr.mono (by omega)) zU .nil am)) ad))),?_⟩;cases t with
  |given kp l h =>
   obtain⟨_,dx,pk,pl,ph,hq,_,ek,_,hRl,_,hRh⟩:=hP;rw[e]at hq;rw[ea]at hRl hRh;have g:OkG kp l h:=hO;obtain⟨o1,o2,o3⟩:=g.l.nr;obtain⟨u1,u2,u3⟩:=g.h.nr;have hL:RA CRatio H pl (nrF l).1 (nrF l).2:=hRl;have hH:RA CRatio H ph (nrF h).1 (nrF h).2:=hRh
   have hl':(plT kp).length+(frT (nrF l)).length+(frT (nrF h)).length<=110000:=by have:(wRoot++40::(plT kp++44::32::(frT (nrF l)++46::46::(frT (nrF h)++[41])))).length<=110000:=hl;simp only[Nf,Nj]at this;omega
   have e9:tx (.given kp l h)=wRoot++[40]++plT kp++[44,32]++frT (nrF l)++[46,46]++frT (nrF h)++[41]:=by show wRoot++40::(plT kp++44::32::(frT (nrF l)++46::46::(frT (nrF h)++[41])))=_;simp only[Nl,Nq,NF]
   rw[e9]at kk;clear hRl hRh hl e9;generalize nrF l=l at o1 o2 o3 hL hl' kk
   generalize nrF h=h at u1 u2 u3 hH hl' kk
   obtain⟨l1,l2⟩:=l;obtain⟨h1,h2⟩:=h;have w4:wRoot.length=4:=rfl;refine au ⟨_,rfl,q,CGiven,dx,_,_,rfl,hq,RGiven.cl,RGiven.nP,Iw _ _ _,pk,kp,rfl,ek,Nk g.len (by decide),AllB.of_cf (λi=>mM (g.bd i)),λH1 s1=>⟨_,_,rfl,rfl,?_,_,_,rfl,rfl,?_,_,rfl,q,CGiven,dx,_,_,rfl,s1 _ _ hq,RGiven.cl,RGiven.nL,Ix _ _ _,?_⟩⟩
   ·rw[iG,ak,ak,Nf,w4];show 4+1+_<=_;omega
   ·rw[iG,lM,aG,ak,ak,Nf,Nf,w4];show 4+1+_+2<=_;omega
   obtain⟨dl,eL⟩:=hL;obtain⟨dh,eH⟩:=hH;refine⟨pl,dl,_,rfl,s1 _ _ eL,y3 _ _,pl,l1,l2,rfl,⟨dl,s1 _ _ eL⟩,o1,o2,o3,λH2 s2=>⟨_,_,rfl,rfl,?_,_,_,rfl,rfl,?_,_,rfl,q,CGiven,dx,_,_,rfl,s2 _ _ (s1 _ _ hq),RGiven.cl,RGiven.nH,Iy _ _ _,?_⟩⟩
   ·rw[iG,lM,aG,aG,ak,ak];simp only[Nf,Nj,NT,w4];omega
   ·rw[iG,lM,gT,aG,aG,aG,ak,ak];simp only[Nf,Nj,NT,w4];omega
   have s12:=s1.trans s2;refine⟨ph,dh,_,rfl,s12 _ _ eH,y3 _ _,ph,h1,h2,rfl,⟨dh,s12 _ _ eH⟩,u1,u2,u3,λH3 s3=>⟨_,_,rfl,rfl,?_,_,_,rfl,rfl,?_,?_⟩⟩
   ·rw[iG,lM,gT,aG,aG,aG,aG,ak,ak];simp only[Nf,Nj,NT,w4];omega
   ·rw[iG,lM,gT,lN,aG,aG,aG,aG,aG,ak,ak];simp only[Nf,Nj,NT,w4];omega
   ·rw[iG,lM,gT,lN,aG,aG,aG,aG,aG,aG];exact kk H3 (s12.trans s3)
  |_=>cases hκ
theorem EY{tc:TC}{k n:Nat}{CMinus CPower f:Addr}{fd:FuncData}(F:Fun K "text" "Minus.text" gc f fd)(T:Txt K mg)(RMinus:PCI K mg CMinus "Minus" ["one"])(RPower:PCI K mg CPower "Power" ["one","power"])(e:tc.mi=CMinus)(ep:tc.po=CPower)(A:CsA K tc){cZ:Addr}{cY:FuncData}(C_within:Cal P w K mg base (k+1) "within" ["tree","bare"] (iq tc n) cZ cY){jf:Addr}{iR:FuncData}(C_is_atom:Cal P w K mg base 1 "is_atom" ["tree"] (fG tc 4) jf iR):FnOk P w K mg base CX0 (k+3) f fd ["self"] (dO tc .mi (n+1)):=by
 obtain⟨ef,dZ,d0,d9⟩:=C_within;obtain⟨uY,sK,tq,uJ⟩:=C_is_atom;refine F.ok v6 (λvs H Q E h=>?_) (λcdv A' outer s H vs Q E hr h=>?_)
 ·obtain⟨av,q,t,rfl,_⟩:=h;rfl
 ·obtain⟨av,q,t,rfl,hκ,hP,hO,hh,hl,kk⟩:=h;have big:=sizeLine_eq;refine⟨_,(ae (ai (aq bi ad (aw ef (hr.mono (by omega)) rfl dZ d0 d9 .nil am (aa (aS (K:=K) rfl (pv 0) rfl) (aa (gM (aw uY (hr.mono (by omega)) rfl sK tq uJ .nil am (aa (aS (K:=K) rfl (pv 0) rfl) ac)) (bT (aP (dM (K:=K) rfl) (by rfl) T.isinstance_ PyProof.Rows.boot_isinstance (aa (aS (K:=K) rfl (pv 0) rfl) (aa (bU (v:=.ref CPower) rfl RPower.mg rfl) ac))))) ac)))))),?_⟩;cases t with
  |minus t =>
   obtain⟨_,dx,p,hq,hP1⟩:=hP;rw[e]at hq;have hO':OkT t:=hO;have hh':t.hgt<=n:=N2 hh;obtain⟨a1,a2⟩:=jJ t 3 (tx t);have hl':(wn 3 t (tx t)).length+1<=110000:=hl
   have fin:∀(b:Bool),b=decide (3<=rk t)->∀H2,Same H H2->(∃i j:Str,V.str (Str.ofString "-")=.str i/\V.str (stL (if b then tx t else 40::(tx t++[41])))=.str j/\i.length+j.length<=sizeLine/\Q (.str (i++j)) H2):=λb hb H2 s2=>by
    rw[jK hb,gt];refine⟨_,_,rfl,rfl,?_,?_⟩
    ·rw[ak,ak];simp;omega
    ·rw[aG];exact kk H2 s2
   refine au ⟨_,rfl,q,CMinus,dx,_,_,rfl,hq,RMinus.cl,RMinus.na "one" (by simp),oA _ _,gI ⟨_,rfl,q,CMinus,dx,_,_,rfl,hq,RMinus.cl,RMinus.na "one" (by simp),oA _ _,av,p,t,rfl,hP1,_,rfl,?_⟩⟩;by_cases h4:rk t=4
   ·rw[decide_eq_true h4];exact aJ ⟨av,p,t,true,rfl,hP1,hO',hh',by omega,fin true (by rw[h4];rfl)⟩
   ·rw[decide_eq_false h4];exact aI (cT ⟨_,rfl,q,CMinus,dx,_,_,rfl,hq,RMinus.cl,RMinus.na "one" (by simp),oA _ _,eQ A hP1 .po ep ⟨av,p,t,_,rfl,hP1,hO',hh',by omega,fin _ (rk3 t h4)⟩⟩)
  |_=>cases hκ
theorem EQ{tc:TC}{k n:Nat}{CPower f:Addr}{fd:FuncData}(F:Fun K "text" "Power.text" fY f fd)(T:Txt K mg)(RPower:PCI K mg CPower "Power" ["one","power"])(e:tc.po=CPower){cZ:Addr}{cY:FuncData}(C_within:Cal P w K mg base (k+1) "within" ["tree","bare"] (iq tc n) cZ cY){jf:Addr}{iR:FuncData}(C_is_atom:Cal P w K mg base 1 "is_atom" ["tree"] (fG tc 4) jf iR){eW:Addr}{eU:FuncData}(eh:Cal P w K mg base 1 "whole_text" ["value"] gG eW eU):FnOk P w K mg base CX0 (k+3) f fd ["self"] (dO tc .po (n+1)):=by
 obtain⟨ef,dZ,d0,d9⟩:=C_within;obtain⟨uY,sK,tq,uJ⟩:=C_is_atom;obtain⟨fg,eI,eO,e8⟩:=eh;refine F.ok v0 (λvs H Q E h=>?_) (λcdv A' outer s H vs Q E hr h=>?_)
 ·obtain⟨av,q,t,rfl,_⟩:=h;rfl
 ·obtain⟨av,q,t,rfl,hκ,hP,hO,hh,hl,kk⟩:=h;have big:=sizeLine_eq;refine⟨_,(ae (ai (aq bi (aq bi (aw ef (hr.mono (by omega)) rfl dZ d0 d9 .nil am (aa (aS (K:=K) rfl (pv 0) rfl) (aa (aw uY (hr.mono (by omega)) rfl sK tq uJ .nil am (aa (aS (K:=K) rfl (pv 0) rfl) ac)) ac))) ad) (aw fg (hr.mono (by omega)) rfl eI eO e8 .nil am (aa (aS (K:=K) rfl (pv 0) rfl) ac))))),?_⟩;cases t with
  |power t m =>
   obtain⟨_,dx,p,hq,hP1⟩:=hP;rw[e]at hq;obtain⟨hO',hm⟩:OkT t/\m<=8:=hO;have hh':t.hgt<=n:=N2 hh;obtain⟨a1,a2⟩:=jJ t 4 (tx t);have hl':(wn 4 t (tx t)++94::al m).length<=110000:=hl;rw[Nf,Nj]at hl';refine au ⟨_,rfl,q,CPower,dx,_,_,rfl,hq,RPower.cl,RPower.na "one" (by simp),gY pF _ _,_,rfl,q,CPower,dx,_,_,rfl,hq,RPower.cl,RPower.na "one" (by simp),gY pF _ _,av,p,t,rfl,hP1,av,p,t,_,rfl,hP1,hO',hh',by omega,λH1 s1=>?_⟩;rw[jK (t:=t) (r:=4) (b:=decide (rk t=4)) (by have:=Cu t;rw[decide_eq_decide];omega)];refine⟨_,_,rfl,rfl,?_,_,rfl,q,CPower,dx,_,_,rfl,s1 _ _ hq,RPower.cl,RPower.na "power" (by simp),gX _ _ _ _,(m:Int),rfl,?_,λH2 s2=>⟨_,_,rfl,rfl,?_,?_⟩⟩
   ·rw[iI,ak,ak];simp;omega
   ·exact mM (by omega)
   ·rw[iI,db,aG,ak,ak];simp;omega
   ·rw[iI,db,aG,aG,Nl];exact kk H2 (s1.trans s2)
  |_=>cases hκ
theorem EC{tc:TC}{k n:Nat}{CRooted f:Addr}{fd:FuncData}(F:Fun K "text" "Rooted.text" fX f fd)(T:Txt K mg)(RRooted:PCI K mg CRooted "Rooted" ["one","power"])(e:tc.ro=CRooted){cZ:Addr}{cY:FuncData}(C_within:Cal P w K mg base (k+1) "within" ["tree","bare"] (iq tc n) cZ cY):FnOk P w K mg base CX0 (k+3) f fd ["self"] (dO tc .ro (n+1)):=by
 obtain⟨ef,dZ,d0,d9⟩:=C_within;refine F.ok sc_Rooted_text (λvs H Q E h=>?_) (λcdv A' outer s H vs Q E hr h=>?_)
 ·obtain⟨av,q,t,rfl,_⟩:=h;rfl
 ·obtain⟨av,q,t,rfl,hκ,hP,hO,hh,hl,kk⟩:=h;have big:=sizeLine_eq
  refine⟨_,(ah (aF (i:=1) sc_Rooted_text.nd rfl (Or.inl rfl) (iy (ao bM (aS (K:=K) rfl (pv 0) rfl) af (ap _)) ad ad))
   (ae (ai (aq bi (pv 1) (aw ef (hr.mono (by omega)) rfl dZ d0 d9 .nil am (aa (aS (K:=K) rfl (pv 0) rfl) (aa gk ac))))))),?_⟩
  cases t with
  |rooted t m =>
   obtain⟨_,dx,p,hq,hP1⟩:=hP;rw[e]at hq;obtain⟨hO',hm⟩:OkT t/\(m=2\/m=3):=hO;have hh':t.hgt<=n:=N2 hh;have w1:wSqrt.length=4:=rfl;have w2:wCbrt.length=4:=rfl
   have hl':(tx t).length+6<=110000:=by have:((if m=2 then wSqrt else wCbrt)++40::(tx t++[41])).length<=110000:=hl;simp only[Nf,Nj,NT]at this;split at this<;>omega
   refine aN ⟨_,rfl,q,CRooted,dx,_,_,rfl,hq,RRooted.cl,RRooted.na "power" (by simp),gX _ _ _ _,_,_,rfl,rfl,_,rfl,aC (λh2=>?_) (λh2=>?_)⟩
   ·have h2':m=2:=by have:(m:Int)=2:=h2;omega
    refine au ⟨_,rfl,_,rfl,q,CRooted,dx,_,_,rfl,hq,RRooted.cl,RRooted.na "one" (by simp),gY pF _ _,av,p,t,false,rfl,hP1,hO',hh',by omega,λH1 s1=>⟨_,_,rfl,rfl,?_,?_⟩⟩
    ·rw[nj,ak,ak,if_neg (by decide)];simp;omega
    ·rw[nj,aG,if_neg (by decide)];have:=kk H1 s1;unfold tx at this
     rw[if_pos h2']at this;exact this
   ·have h2':¬m=2:=λz=>h2 (by show(m:Int)=2;omega)
    refine au ⟨_,rfl,_,rfl,q,CRooted,dx,_,_,rfl,hq,RRooted.cl,RRooted.na "one" (by simp),gY pF _ _,av,p,t,false,rfl,hP1,hO',hh',by omega,λH1 s1=>⟨_,_,rfl,rfl,?_,?_⟩⟩
    ·rw[nu,ak,ak,if_neg (by decide)];simp;omega
    ·rw[nu,aG,if_neg (by decide)];have:=kk H1 s1;unfold tx at this
     rw[if_neg h2']at this;exact this
  |_=>cases hκ
theorem EA{tc:TC}{k n:Nat}{CSum f:Addr}{fd:FuncData}(F:Fun K "text" "Sum.text" fW f fd)(T:Txt K mg)(RSum:PCI K mg CSum "Sum" ["one","other"])(e:tc.su=CSum)(D_text:TxA P w K mg base tc k n){cZ:Addr}{cY:FuncData}(C_within:Cal P w K mg base (k+1) "within" ["tree","bare"] (iq tc n) cZ cY){gC:Addr}{gA:FuncData}(C_is_sum:Cal P w K mg base 1 "is_sum" ["tree"] (fG tc 0) gC gA):FnOk P w K mg base CX0 (k+3) f fd ["self"] (dO tc .su (n+1)):=by
 obtain⟨ef,dZ,d0,d9⟩:=C_within;obtain⟨lY,lJ,lP,lW⟩:=C_is_sum;refine F.ok vZ (λvs H Q E h=>?_) (λcdv A' outer s H vs Q E hr h=>?_)
 ·obtain⟨av,q,t,rfl,_⟩:=h;rfl
 ·obtain⟨av,q,t,rfl,hκ,hP,hO,hh,hl,kk⟩:=h;have big:=sizeLine_eq;refine⟨_,(ae (ai (aq bi (aq bi (lv (aS (K:=K) rfl (pv 0) rfl) D_text (hr.mono (by omega))) ad) (aw ef (hr.mono (by omega)) rfl dZ d0 d9 .nil am (aa (aS (K:=K) rfl (pv 0) rfl) (aa (gN (aw lY (hr.mono (by omega)) rfl lJ lP lW .nil am (aa (aS (K:=K) rfl (pv 0) rfl) ac))) ac)))))),?_⟩;cases t with
  |sum t1 t2 =>
   obtain⟨_,dx,p,r,hq,hP1,hP2⟩:=hP;rw[e]at hq;obtain⟨hO1,hO2⟩:OkT t1/\OkT t2:=hO;have hm:max t1.hgt t2.hgt<=n:=N2 hh;obtain⟨a1,a2⟩:=jJ t2 1 (tx t2);have hl':(tx t1++32::43::32::wn 1 t2 (tx t2)).length<=110000:=hl;simp only[Nf,Nj]at hl';refine au ⟨_,rfl,q,CSum,dx,_,_,rfl,hq,RSum.cl,RSum.na "one" (by simp),gY pH _ _,av,p,t1,rfl,hP1,hO1,by omega,by omega,λH1 s1=>⟨_,_,rfl,rfl,?_,_,rfl,q,CSum,dx,_,_,rfl,s1 _ _ hq,RSum.cl,RSum.na "other" (by simp),gX _ _ _ _,_,rfl,q,CSum,dx,_,_,rfl,s1 _ _ hq,RSum.cl,RSum.na "other" (by simp),gX _ _ _ _,av,r,t2,rfl,hP2.same s1,_,rfl,av,r,t2,_,rfl,hP2.same s1,hO2,by omega,by omega,λH2 s2=>?_⟩⟩
   ·rw[gq,ak,ak];simp;omega
   rw[jK (t:=t2) (r:=1) (b:=!decide (rk t2=0)) (by rw[<- decide_not,decide_eq_decide];omega)];refine⟨_,_,rfl,rfl,?_,?_⟩
   ·rw[gq,aG,ak,ak];simp;omega
   ·rw[gq,aG,aG,Nl];exact kk H2 (s1.trans s2)
  |_=>cases hκ
theorem E1{tc:TC}{k n:Nat}{CLess f:Addr}{fd:FuncData}(F:Fun K "text" "Less.text" gd f fd)(T:Txt K mg)(RLess:PCI K mg CLess "Less" ["one","other"])(e:tc.le=CLess)(D_text:TxA P w K mg base tc k n){cZ:Addr}{cY:FuncData}(C_within:Cal P w K mg base (k+1) "within" ["tree","bare"] (iq tc n) cZ cY){gC:Addr}{gA:FuncData}(C_is_sum:Cal P w K mg base 1 "is_sum" ["tree"] (fG tc 0) gC gA):FnOk P w K mg base CX0 (k+3) f fd ["self"] (dO tc .le (n+1)):=by
 obtain⟨ef,dZ,d0,d9⟩:=C_within;obtain⟨lY,lJ,lP,lW⟩:=C_is_sum;refine F.ok v7 (λvs H Q E h=>?_) (λcdv A' outer s H vs Q E hr h=>?_)
 ·obtain⟨av,q,t,rfl,_⟩:=h;rfl
 ·obtain⟨av,q,t,rfl,hκ,hP,hO,hh,hl,kk⟩:=h;have big:=sizeLine_eq;refine⟨_,(ae (ai (aq bi (aq bi (lv (aS (K:=K) rfl (pv 0) rfl) D_text (hr.mono (by omega))) ad) (aw ef (hr.mono (by omega)) rfl dZ d0 d9 .nil am (aa (aS (K:=K) rfl (pv 0) rfl) (aa (gN (aw lY (hr.mono (by omega)) rfl lJ lP lW .nil am (aa (aS (K:=K) rfl (pv 0) rfl) ac))) ac)))))),?_⟩;cases t with
  |less t1 t2 =>
   obtain⟨_,dx,p,r,hq,hP1,hP2⟩:=hP;rw[e]at hq;obtain⟨hO1,hO2⟩:OkT t1/\OkT t2:=hO;have hm:max t1.hgt t2.hgt<=n:=N2 hh;obtain⟨a1,a2⟩:=jJ t2 1 (tx t2);have hl':(tx t1++32::45::32::wn 1 t2 (tx t2)).length<=110000:=hl;simp only[Nf,Nj]at hl';refine au ⟨_,rfl,q,CLess,dx,_,_,rfl,hq,RLess.cl,RLess.na "one" (by simp),gY pH _ _,av,p,t1,rfl,hP1,hO1,by omega,by omega,λH1 s1=>⟨_,_,rfl,rfl,?_,_,rfl,q,CLess,dx,_,_,rfl,s1 _ _ hq,RLess.cl,RLess.na "other" (by simp),gX _ _ _ _,_,rfl,q,CLess,dx,_,_,rfl,s1 _ _ hq,RLess.cl,RLess.na "other" (by simp),gX _ _ _ _,av,r,t2,rfl,hP2.same s1,_,rfl,av,r,t2,_,rfl,hP2.same s1,hO2,by omega,by omega,λH2 s2=>?_⟩⟩
   ·rw[gs,ak,ak];simp;omega
   rw[jK (t:=t2) (r:=1) (b:=!decide (rk t2=0)) (by rw[<- decide_not,decide_eq_decide];omega)];refine⟨_,_,rfl,rfl,?_,?_⟩
   ·rw[gs,aG,ak,ak];simp;omega
   ·rw[gs,aG,aG,Nl];exact kk H2 (s1.trans s2)
  |_=>cases hκ
theorem Ey{tc:TC}{k n:Nat}{CTimes f:Addr}{fd:FuncData}(F:Fun K "text" "Times.text" fV f fd)(T:Txt K mg)(RTimes:PCI K mg CTimes "Times" ["one","other"])(e:tc.ti=CTimes){je:Addr}{iQ:FuncData}(C_product_text:Cal P w K mg base (k+2) "product_text" ["one","mark","other"] (qY tc n) je iQ):FnOk P w K mg base CX0 (k+3) f fd ["self"] (dO tc .ti (n+1)):=by
 obtain⟨uW,sI,tf,uH⟩:=C_product_text;refine F.ok vY (λvs H Q E h=>?_) (λcdv A' outer s H vs Q E hr h=>?_)
 ·obtain⟨av,q,t,rfl,_⟩:=h;rfl
 ·obtain⟨av,q,t,rfl,hκ,hP,hO,hh,hl,kk⟩:=h;refine⟨_,(ae (ai (aw uW (hr.mono (by omega)) rfl sI tf uH .nil am (aa (aS (K:=K) rfl (pv 0) rfl) (aa ad (aa (aS (K:=K) rfl (pv 0) rfl) ac)))))),?_⟩;cases t with
  |times t1 t2 =>obtain⟨_,dx,p,r,hq,hP1,hP2⟩:=hP;rw[e]at hq;obtain⟨hO1,hO2⟩:OkT t1/\OkT t2:=hO;have hm:max t1.hgt t2.hgt<=n:=N2 hh;exact au ⟨_,rfl,q,CTimes,dx,_,_,rfl,hq,RTimes.cl,RTimes.na "one" (by simp),gY pH _ _,_,rfl,q,CTimes,dx,_,_,rfl,hq,RTimes.cl,RTimes.na "other" (by simp),gX _ _ _ _,av,p,r,t1,t2,42,by rw[<- dF];rfl,hP1,hP2,hO1,hO2,by omega,by omega,hl,kk⟩
  |_=>cases hκ
theorem ES{tc:TC}{k n:Nat}{COver f:Addr}{fd:FuncData}(F:Fun K "text" "Over.text" fZ f fd)(T:Txt K mg)(ROver:PCI K mg COver "Over" ["one","other"])(e:tc.ov=COver){je:Addr}{iQ:FuncData}(C_product_text:Cal P w K mg base (k+2) "product_text" ["one","mark","other"] (qY tc n) je iQ):FnOk P w K mg base CX0 (k+3) f fd ["self"] (dO tc .ov (n+1)):=by
 obtain⟨uW,sI,tf,uH⟩:=C_product_text;refine F.ok v4 (λvs H Q E h=>?_) (λcdv A' outer s H vs Q E hr h=>?_)
 ·obtain⟨av,q,t,rfl,_⟩:=h;rfl
 ·obtain⟨av,q,t,rfl,hκ,hP,hO,hh,hl,kk⟩:=h;refine⟨_,(ae (ai (aw uW (hr.mono (by omega)) rfl sI tf uH .nil am (aa (aS (K:=K) rfl (pv 0) rfl) (aa ad (aa (aS (K:=K) rfl (pv 0) rfl) ac)))))),?_⟩;cases t with
  |over t1 t2 =>obtain⟨_,dx,p,r,hq,hP1,hP2⟩:=hP;rw[e]at hq;obtain⟨hO1,hO2⟩:OkT t1/\OkT t2:=hO;have hm:max t1.hgt t2.hgt<=n:=N2 hh;exact au ⟨_,rfl,q,COver,dx,_,_,rfl,hq,ROver.cl,ROver.na "one" (by simp),gY pH _ _,_,rfl,q,COver,dx,_,_,rfl,hq,ROver.cl,ROver.na "other" (by simp),gX _ _ _ _,av,p,r,t1,t2,47,by rw[<- gS];rfl,hP1,hP2,hO1,hO2,by omega,by omega,hl,kk⟩
  |_=>cases hκ
theorem HS(t:PT):1<=t.hgt:=by cases t<;>exact Nat.le_add_left _ _
theorem b0{tc:TC}{κ:Kd}{vs:List V}{H:Hp}{Q:VK}{E:XK}(h:dO tc κ 0 vs H Q E):False:=by obtain⟨av,q,t,_,_,_,_,hh,_⟩:=h;have:=HS t;omega
theorem A0{tc:TC}{CWhole CNamed CGiven CMinus CSum CLess CTimes COver CPower CRooted CRatio:Addr}(T:Txt K mg)(RRatio:RCI K mg CRatio)(RWhole:PCI K mg CWhole "Whole" ["value"])(RNamed:PCI K mg CNamed "Named" ["word"])(RGiven:GCI K mg CGiven)(RMinus:PCI K mg CMinus "Minus" ["one"])(RSum:PCI K mg CSum "Sum" ["one","other"])(RLess:PCI K mg CLess "Less" ["one","other"])(RTimes:PCI K mg CTimes "Times" ["one","other"])(ROver:PCI K mg COver "Over" ["one","other"])(RPower:PCI K mg CPower "Power" ["one","power"])(RRooted:PCI K mg CRooted "Rooted" ["one","power"])(et:tc=⟨CWhole,CNamed,CGiven,CMinus,CSum,CLess,CTimes,COver,CPower,CRooted,CRatio⟩)(A:CsA K tc){eW:Addr}{eU:FuncData}(eh:Cal P w K mg base 1 "whole_text" ["value"] gG eW eU){om:Addr}{nZ:FuncData}(oU:Cal P w K mg base 3 "poly_text" ["row"] mH om nZ){oz:Addr}{n9:FuncData}(oX:MCal P w K mg base 2 CRatio "text" ["self"] (mG CRatio) oz n9){gC:Addr}{gA:FuncData}(C_is_sum:RawC K mg "is_sum" fR ["tree"] gC gA){oq:Addr}{n5:FuncData}(C_is_product:RawC K mg "is_product" fS ["tree"] oq n5){jf:Addr}{iR:FuncData}(C_is_atom:RawC K mg "is_atom" fT ["tree"] jf iR){cZ:Addr}{cY:FuncData}(C_within:RawC K mg "within" fJ ["tree","bare"] cZ cY){je:Addr}{iQ:FuncData}(C_product_text:RawC K mg "product_text" fP ["one","mark","other"] je iQ){t9:Addr}{tP:FuncData}(C_Whole_text:RawM K CWhole "text" "Whole.text" fU ["self"] t9 tP){ul:Addr}{tZ:FuncData}(C_Given_text:RawM K CGiven "text" "Given.text" gf ["self"] ul tZ){ug:Addr}{tW:FuncData}(C_Named_text:RawM K CNamed "text" "Named.text" gb ["self"] ug tW){uh:Addr}{tX:FuncData}(C_Minus_text:RawM K CMinus "text" "Minus.text" gc ["self"] uh tX){ub:Addr}{tR:FuncData}(C_Sum_text:RawM K CSum "text" "Sum.text" fW ["self"] ub tR){uk:Addr}{tY:FuncData}(C_Less_text:RawM K CLess "text" "Less.text" gd ["self"] uk tY){ua:Addr}{tQ:FuncData}(C_Times_text:RawM K CTimes "text" "Times.text" fV ["self"] ua tQ){uf:Addr}{tV:FuncData}(C_Over_text:RawM K COver "text" "Over.text" fZ ["self"] uf tV){ue:Addr}{tU:FuncData}(C_Power_text:RawM K CPower "text" "Power.text" fY ["self"] ue tU){uc:Addr}{tS:FuncData}(C_Rooted_text:RawM K CRooted "text" "Rooted.text" fX ["self"] uc tS):∀n,TxA P w K mg base tc (3*n+1) n:=by
 subst et;have S:=C_is_sum.cal (P:=P) (w:=w) (base:=base) (D6 (tc:=⟨CWhole,CNamed,CGiven,CMinus,CSum,CLess,CTimes,COver,CPower,CRooted,CRatio⟩) C_is_sum.fn T RSum RLess rfl rfl A);have Pr:=C_is_product.cal (P:=P) (w:=w) (base:=base) (D7 (tc:=⟨CWhole,CNamed,CGiven,CMinus,CSum,CLess,CTimes,COver,CPower,CRooted,CRatio⟩) C_is_product.fn T RTimes ROver rfl rfl A);have At:=C_is_atom.cal (P:=P) (w:=w) (base:=base) (D9 (tc:=⟨CWhole,CNamed,CGiven,CMinus,CSum,CLess,CTimes,COver,CPower,CRooted,CRatio⟩) C_is_atom.fn T RWhole RNamed RGiven RRooted rfl rfl rfl rfl A);intro n
 induction n with
 |zero =>
  intro κ;refine⟨(A.ca κ).cl,?_⟩;cases κ with
  |wh=>exact⟨_,_,_,C_Whole_text.mcal (C_Whole_text.fn.ok vX (λ_ _ _ _ h=>(b0 h).elim) (λ_ _ _ _ _ _ _ _ _ h=>(b0 h).elim))⟩
  |na=>exact⟨_,_,_,C_Named_text.mcal (C_Named_text.fn.ok v5 (λ_ _ _ _ h=>(b0 h).elim) (λ_ _ _ _ _ _ _ _ _ h=>(b0 h).elim))⟩
  |gi=>exact⟨_,_,_,C_Given_text.mcal (C_Given_text.fn.ok v8 (λ_ _ _ _ h=>(b0 h).elim) (λ_ _ _ _ _ _ _ _ _ h=>(b0 h).elim))⟩
  |mi=>exact⟨_,_,_,C_Minus_text.mcal (C_Minus_text.fn.ok v6 (λ_ _ _ _ h=>(b0 h).elim) (λ_ _ _ _ _ _ _ _ _ h=>(b0 h).elim))⟩
  |su=>exact⟨_,_,_,C_Sum_text.mcal (C_Sum_text.fn.ok vZ (λ_ _ _ _ h=>(b0 h).elim) (λ_ _ _ _ _ _ _ _ _ h=>(b0 h).elim))⟩
  |le=>exact⟨_,_,_,C_Less_text.mcal (C_Less_text.fn.ok v7 (λ_ _ _ _ h=>(b0 h).elim) (λ_ _ _ _ _ _ _ _ _ h=>(b0 h).elim))⟩
  |ti=>exact⟨_,_,_,C_Times_text.mcal (C_Times_text.fn.ok vY (λ_ _ _ _ h=>(b0 h).elim) (λ_ _ _ _ _ _ _ _ _ h=>(b0 h).elim))⟩
  |ov=>exact⟨_,_,_,C_Over_text.mcal (C_Over_text.fn.ok v4 (λ_ _ _ _ h=>(b0 h).elim) (λ_ _ _ _ _ _ _ _ _ h=>(b0 h).elim))⟩
  |po=>exact⟨_,_,_,C_Power_text.mcal (C_Power_text.fn.ok v0 (λ_ _ _ _ h=>(b0 h).elim) (λ_ _ _ _ _ _ _ _ _ h=>(b0 h).elim))⟩
  |ro=>exact⟨_,_,_,C_Rooted_text.mcal (C_Rooted_text.fn.ok sc_Rooted_text (λ_ _ _ _ h=>(b0 h).elim) (λ_ _ _ _ _ _ _ _ _ h=>(b0 h).elim))⟩
 |succ n D =>
  have W:=C_within.cal (DF C_within.fn T D);have Pt:=C_product_text.cal (DY C_product_text.fn T (by omega) W S Pr);intro κ;refine⟨(A.ca κ).cl,?_⟩;rw[show 3*(n+1)+1=3*n+1+3 by omega];cases κ with
  |wh=>exact⟨_,_,_,C_Whole_text.mcal (Ew C_Whole_text.fn T RWhole rfl eh)⟩
  |na=>exact⟨_,_,_,C_Named_text.mcal (EV C_Named_text.fn T RNamed rfl)⟩
  |gi=>exact⟨_,_,_,C_Given_text.mcal (E3 C_Given_text.fn T RGiven RRatio rfl rfl (by omega) oU oX)⟩
  |mi=>exact⟨_,_,_,C_Minus_text.mcal (EY C_Minus_text.fn T RMinus RPower rfl rfl A W At)⟩
  |su=>exact⟨_,_,_,C_Sum_text.mcal (EA C_Sum_text.fn T RSum rfl D W S)⟩
  |le=>exact⟨_,_,_,C_Less_text.mcal (E1 C_Less_text.fn T RLess rfl D W S)⟩
  |ti=>exact⟨_,_,_,C_Times_text.mcal (Ey C_Times_text.fn T RTimes rfl Pt)⟩
  |ov=>exact⟨_,_,_,C_Over_text.mcal (ES C_Over_text.fn T ROver rfl Pt)⟩
  |po=>exact⟨_,_,_,C_Power_text.mcal (EQ C_Power_text.fn T RPower rfl W At eh)⟩
  |ro=>exact⟨_,_,_,C_Rooted_text.mcal (EC C_Rooted_text.fn T RRooted rfl W)⟩
theorem Hy{CWhole CNamed CGiven CMinus CSum CLess CTimes COver CPower CRooted:Addr}(h:nG K [CWhole,CNamed,CGiven,CMinus,CSum,CLess,CTimes,COver,CPower,CRooted]=true)(CRatio:Addr)(κ κ':Kd):PySem.W.kitOne K (.ref ((⟨CWhole,CNamed,CGiven,CMinus,CSum,CLess,CTimes,COver,CPower,CRooted,CRatio⟩:TC).at κ)) (.ref ((⟨CWhole,CNamed,CGiven,CMinus,CSum,CLess,CTimes,COver,CPower,CRooted,CRatio⟩:TC).at κ'))=some (decide (κ=κ')):=by
 have key:∀κ:Kd,∃i,[CWhole,CNamed,CGiven,CMinus,CSum,CLess,CTimes,COver,CPower,CRooted][i]?=some ((⟨CWhole,CNamed,CGiven,CMinus,CSum,CLess,CTimes,COver,CPower,CRooted,CRatio⟩:TC).at κ)/\i=(match κ with |.wh=>0 |.na=>1 |.gi=>2 |.mi=>3 |.su=>4 |.le=>5 |.ti=>6 |.ov=>7 |.po=>8 |.ro=>9):=λκ=>by cases κ<;>exact⟨_,rfl,rfl⟩
 obtain⟨i,ei,hi⟩:=key κ;obtain⟨j,ej,hj⟩:=key κ';rw[Hr h ei ej,hi,hj];cases κ<;>cases κ'<;>rfl
theorem lR(m:List Nat):∀xs:List (List Nat),inV (.str (stL m)) (xs.map λx=>V.str (stL x))=decide (m∈xs)
 | []=>by simp[inV]
 |x::xs=>by
  show(eqV (.str (stL x)) (.str (stL m)) ||inV (.str (stL m)) (xs.map λx=>V.str (stL x)))=_;rw[cx,lR m xs,NB];simp only[NJ,decide_eq_true_eq,Ni];constructor
  ·rintro(h |h)
   ·exact .inl h.symm
   ·exact .inr h
  ·rintro(h |h)
   ·exact .inl h.symm
   ·exact .inr h
theorem Iz(xs:List (List Nat)):(xs.map λx=>V.str (stL x)).all gy=true:=by rw[List.all_map];exact ND.mpr λ_ _=>rfl
noncomputable def kSP:List (List Nat):=[[43],[45],[42],[47],[94],[40],[41],[44],[46,46],[115,113,114,116],[99,98,114,116],[114,111,111,116],[120]]
theorem Hh:List.map V.str [Str.ofString "+",Str.ofString "-",Str.ofString "*",Str.ofString "/",Str.ofString "^",Str.ofString "(",Str.ofString ")",Str.ofString ",",Str.ofString "..",Str.ofString "sqrt",Str.ofString "cbrt",Str.ofString "root",Str.ofString "x"]=kSP.map λx=>V.str (stL x):=by
 have e:[Str.ofString "+",Str.ofString "-",Str.ofString "*",Str.ofString "/",Str.ofString "^",Str.ofString "(",Str.ofString ")",Str.ofString ",",Str.ofString "..",Str.ofString "sqrt",Str.ofString "cbrt",Str.ofString "root",Str.ofString "x"]=kSP.map stL:=by decide +kernel
 rw[e,List.map_map];rfl
theorem Cw{m:List Nat}{xs:List Str}{L:List (List Nat)}{H:Hp}{Q:V->Hp->Prop}(e:List.map V.str xs=L.map λx=>V.str (stL x))(hl:xs.length<=sizeLine)(h:∀pt H1,Same H H1->H1 pt=some (.tup (L.map λx=>V.str (stL x)))->Q (.bl (decide (m∈L))) H1):qC (ik xs) [] H λy H2=>rIn K false (.str (stL m)) y H2 Q:=by
 refine⟨by rw[Nh];exact hl,λpt hpt=>?_⟩;have u1:=Same.upd_new (o:=.tup (List.map V.str xs)) hpt;have e1:upd H pt (.tup (List.map V.str xs)) pt=some (.tup (L.map λx=>V.str (stL x))):=by rw[aj,e]
 generalize upd H pt (.tup (List.map V.str xs))=H1 at u1 e1 ⊢
 refine⟨pt,_,rfl,.inr (SqT.of e1),rfl,Iz _,?_⟩;show Q (.bl (inV _ _)) H1;rw[lR];exact h pt H1 u1 e1
noncomputable def iK:List Nat:=[110,117,109,98,101,114]
noncomputable def nF:List Nat:=[110,111,110,101]
noncomputable def iL:List Nat:=[110,97,109,101]
theorem pV:Str.ofString "number"=stL iK:=by decide +kernel
theorem sN:Str.ofString "none"=stL nF:=by decide +kernel
theorem sO:Str.ofString "name"=stL iL:=by decide +kernel
def KdM(m k:List Nat):Prop:=(k=iK↔isN m=true)/\(k=iL↔bu m=true)/\∀x∈kSP,(k=x↔m=x)
theorem AH{c:Nat}{r:List Nat}(h:WfM (c::r))(hc:isD c=true):(c::r).all isD=true:=by have h1:=h.one;rw[dY,if_pos hc]at h1;have h2:(c::r).takeWhile isD=c::r:=(List.takeWhile_prefix isD).eq_of_length h1;have:=List.all_takeWhile (l:=c::r) (p:=isD);rw[h2]at this;exact this
theorem AI{c:Nat}{r:List Nat}(h:WfM (c::r))(hc:isA c=true)(hd:isD c=false):(c::r).all isA=true:=by have h1:=h.one;rw[dY,if_neg (by rw[hd];decide),if_pos hc]at h1;have h2:(c::r).takeWhile isA=c::r:=(List.takeWhile_prefix isA).eq_of_length h1;have:=List.all_takeWhile (l:=c::r) (p:=isA);rw[h2]at this;exact this
theorem sT{m k:List Nat}(h1:m∉kSP)(hk:k∉kSP):∀x∈kSP,(k=x↔m=x):=λx hx=>⟨λz=>absurd hx (by rw[<- z];exact hk),λz=>absurd hx (by rw[<- z];exact h1)⟩
theorem sU{m:List Nat}(h1:m∉kSP)(h2:isN m=false)(h3:bu m=false):KdM m nF:=⟨by rw[h2];decide,by rw[h3];decide,sT h1 (by decide)⟩
theorem GU{m:List Nat}(h1:m∉kSP)(h2:isN m=false)(h3:bu m=true):KdM m iL:=⟨by rw[h2];decide,by rw[h3];decide,sT h1 (by decide)⟩
theorem ny{m:List Nat}(h1:m∉kSP)(h2:isN m=true)(h3:bu m=false):KdM m iK:=⟨by rw[h2];decide,by rw[h3];decide,sT h1 (by decide)⟩
theorem rX{c:Nat}{r:List Nat}(h:isA c=false):bu (c::r)=false:=by unfold bu;simp[h]
theorem zm{c:Nat}(h:isD c=true):isA c=false:=by
 unfold isD at h;unfold isA
 simp only[Np,decide_eq_true_eq]at h;rw[decide_eq_false (show ¬97<=c by omega),Bool.false_and]
def mI:Sp:=λvs H Q _=>∃m:List Nat,vs=[.str (stL m)]/\WfM m/\m.length<=1000/\∀k H',Same H H'->KdM m k->Q (.str (stL k)) H'
theorem Er{f:Addr}{fd:FuncData}(F:Fun K "_law_kind" "_law_kind" kG f fd)(T:Txt K mg):FnOk P w K mg base CX0 1 f fd ["_law_mark_here"] mI:=by
 refine F.ok B1 (λvs H Q E h=>?_) (λcdv A outer s H vs Q E hr h=>?_)
 ·obtain⟨m,rfl,_⟩:=h;rfl
 ·obtain⟨m,rfl,hm,hl,kk⟩:=h;have big:=sizeLine_eq;obtain⟨c,r,rfl⟩:=Nz hm.ne;have hg:(c::r)[0]?=some c:=rfl
  refine⟨_,(ah (ar (CZ (K:=K) rfl (pv 0) (.cons (.cons (.cons (.cons (.cons (.cons (.cons (.cons (.cons (.cons (.cons (.cons (.cons .nil))))))))))))))
   (ae (ai (pv 0)))
   ay)
   (ah (ar (ao gO (aA bJ (pv 0) af (λ_ _=>rfl)) ad (by rfl))
     (ae (ai (aA (aH (K:=K) rfl) (aO (aa ad (aa ad ac))) (bn ci (by rfl) T.int_ PyProof.Rows.boot_int (aa (cu (bf aK (aA bJ (pv 0) af (λ_ _=>rfl)) ad (ap _)) (bT (bf lB (pv 0) ad (ap _)))) ac)) (λ_ _=>rfl))))
     ay)
   (ah (ar (PW.pt (bR (ao gO (aA bJ (pv 0) af (λ_ _=>rfl)) ad (by rfl)) (cr (ao cW (aP dL (by rfl) T.len_ PySem.boot_len (aa (pv 0) ac)) af (ap _)))))
     (ae (ai ad))
     ay)
   (ae (ai ad))))),?_⟩
  refine aD ⟨_,rfl,Cw (K:=K) Hh (by decide) λpt H1 u1 e1=>⟨_,rfl,?_⟩⟩;refine aC (λh1=>?_) (λh1=>?_)
  ·refine⟨_,rfl,kk (c::r) H1 u1 ⟨?_,?_,λc _=>Iff.rfl⟩⟩
   ·have:∀m∈kSP,(m=iK↔isN m=true):=by decide
    exact this _ h1
   ·have:∀m∈kSP,(m=iL↔bu m=true):=by decide
    exact this _ h1
  refine aD ⟨_,rfl,_,_,_,rfl,rfl,by rw[ak];omega,fc rfl hg,_,_,rfl,rfl,_,rfl,?_⟩;rw[StrLaws.found_one,nK];cases hD:isD c with
  |true =>
   refine aJ ?_;have hall:=AH hm hD;refine au ⟨by show 2<=sizeLine;decide,λp2 hp2=>?_⟩;have u2:=u1.then_new (o:=.lst [V.str (Str.ofString "number"),V.str (Str.ofString "none")]) hp2
   have fin:∀b:Bool,(b=true↔(c=48/\c::r≠[48]))->∃v,atI [V.str (Str.ofString "number"),V.str (Str.ofString "none")] (if b=true then 1 else 0)=some v/\Q v (upd H1 p2 (.lst [V.str (Str.ofString "number"),V.str (Str.ofString "none")])):=λb hb=>by
    cases b with
    |true =>refine⟨_,rfl,?_⟩;have hb':=hb.mp rfl;rw[sN];refine kk nF _ u2 (sU h1 ?_ (rX (zm hD)));unfold isN;rw[decide_eq_false hb'.2,hall,hb'.1];simp
    |false =>
     refine⟨_,rfl,?_⟩;have hb':¬(c=48/\c::r≠[48]):=λz=>by have:=hb.mpr z;cases this
     rw[pV];refine kk iK _ u2 (ny h1 ?_ (rX (zm hD)));unfold isN;rw[hall];by_cases h48:c=48
     ·have:c::r=[48]:=Classical.byContradiction λz=>hb' ⟨h48,z⟩
      rw[this];decide
     ·simp[h48]
   have h0:(V.str ⟨#[c]⟩=V.str (Str.ofString "0"))↔c=48:=by
    rw[eJ];constructor
    ·intro z;have z2:([c]:List Nat)=[48]:=congrArg (λs:Str=>s.cps.toList) (V.str.inj z);exact Ol z2
    ·intro z;rw[z];rfl
   refine cq ⟨_,rfl,_,_,c,rfl,rfl,by rw[ak];omega,fc rfl hg,rfl,_,rfl,aC (λz=>?_) (λz=>?_)⟩
   ·have hc:=h0.mp z;obtain⟨v,ev,qv⟩:=fin (decide (c::r≠[48])) (by rw[decide_eq_true_eq];exact⟨λy=>⟨hc,y⟩,λy=>y.2⟩)
    have e0:(!decide (V.str (stL (c::r))=V.str (Str.ofString "0")))=decide (c::r≠[48]):=by
     by_cases y:c::r=[48]
     ·rw[decide_eq_true (by rw[y,<- eJ]),decide_eq_false (not_not_intro y)];rfl
     ·rw[decide_eq_false (λx=>y (stL_inj.mp ((V.str.inj x).trans eJ))),decide_eq_true y];rfl
    refine⟨_,rfl,rfl,.inr ⟨_,rfl,p2,_,_,_,rfl,rfl,SqL.of aj,?_,qv⟩⟩;rw[e0];exact ev
   ·have hc:c≠48:=λy=>z (h0.mpr y)
    obtain⟨v,ev,qv⟩:=fin false ⟨λy=>(nomatch y),λy=>absurd y.1 hc⟩;exact .inr ⟨_,rfl,p2,_,_,_,rfl,rfl,SqL.of aj,ev,qv⟩
  |false =>
   refine aI ?_
   have hN:isN (c::r)=false:=by unfold isN;simp[hD]
   refine aD (bQ ⟨_,rfl,_,_,_,rfl,rfl,by rw[ak];omega,fc rfl hg,_,_,rfl,rfl,_,rfl,?_⟩);rw[StrLaws.found_one,nJ];cases hA:isA c with
   |true =>
    have hall:=AI hm hA hD;refine aJ ⟨_,rfl,_,rfl,by rw[ak];omega,_,_,rfl,rfl,_,rfl,aC (λhlt=>?_) (λhlt=>?_)⟩
    ·refine au ?_;show Q _ _;rw[sO];refine kk iL H1 u1 (GU h1 hN ?_);have hl8:(c::r).length<=8:=by rw[ak]at hlt;omega
     unfold bu;rw[hall,decide_eq_true hl8,decide_eq_true (show c::r≠[] by simp),decide_eq_false (λz=>h1 ?_)]
     ·rfl
     ·have:∀x∈[[120],wSqrt,wCbrt,wRoot],x∈kSP:=by decide
      exact this _ z
    ·refine au ?_;show Q _ _;rw[sN];refine kk nF H1 u1 (sU h1 hN ?_);have hl8:¬(c::r).length<=8:=by rw[ak]at hlt;omega
     unfold bu;rw[decide_eq_false hl8];simp
   |false =>refine aI (aI (au ?_));show Q _ _;rw[sN];exact kk nF H1 u1 (sU h1 hN (rX hA))
def pb:Sp:=λvs H Q _=>∃m:List Nat,vs=[.str (stL m)]/\m.length<=1000/\Q (.bl (isE m)) H
theorem HH(c:Nat):decide (c∈(Str.ofString "012345678").cps.toList)=(decide (48<=c)&&decide (c<=56)):=by
 have e:(Str.ofString "012345678").cps.toList=[48,49,50,51,52,53,54,55,56]:=by decide +kernel
 rw[e,NB,decide_eq_true_eq];simp only[Ni,Nx,or_false,Np,decide_eq_true_eq];omega
theorem Eh{f:Addr}{fd:FuncData}(F:Fun K "_law_small" "_law_small" kv f fd)(T:Txt K mg):FnOk P w K mg base CX0 1 f fd ["_law_mark_here"] pb:=by
 refine F.ok BY (λvs H Q E h=>?_) (λcdv A outer s H vs Q E hr h=>?_)
 ·obtain⟨m,rfl,_⟩:=h;rfl
 ·obtain⟨m,rfl,hl,kk⟩:=h;have big:=sizeLine_eq;refine⟨_,(ae (ai (cu (bf bM (aP dL (by rfl) T.len_ PySem.boot_len (aa (pv 0) ac)) af (ap _)) (bT (bf gO (pv 0) ad (by rfl)))))),?_⟩;refine au (cq ⟨_,rfl,_,rfl,by rw[ak];omega,_,_,rfl,rfl,_,rfl,aC (λh1=>?_) (λh1=>?_)⟩)
  ·rw[ak]at h1;have h1':m.length=1:=by have:(m.length:Int)=1:=h1;omega
   match m,h1' with
   | [c],_ =>
    refine⟨_,rfl,_,_,rfl,rfl,?_⟩;have e1:isE [c]=(decide (48<=c)&&decide (c<=56)):=by unfold isE;simp
    rw[e1]at kk;rw[show stL [c]=⟨#[c]⟩from rfl,StrLaws.found_one,HH];exact kk
  ·rw[ak]at h1;have h1':¬m.length=1:=by have:¬(m.length:Int)=1:=h1;omega
   have e1:isE m=false:=by unfold isE;rw[decide_eq_false h1'];rfl
   rw[e1]at kk;exact kk
noncomputable def psS:PSt->Str
 |.p0=>Str.ofString "p0"
 |.p1=>Str.ofString "p1"
 |.pm=>Str.ofString "pm"
 |.pe=>Str.ofString "pe"
 |.pn=>Str.ofString "pn"
 |.px=>Str.ofString "px"
 |.pd=>Str.ofString "pd"
noncomputable def tsS:TSt->Str
 |.bg=>Str.ofString "begin" |.st=>Str.ofString "start" |.wo=>Str.ofString "word" |.gi=>Str.ofString "given" |.li=>Str.ofString "lift" |.at=>Str.ofString "atom" |.be=>Str.ofString "behind"
 |.po s=>psS s
 |.fr h k=>stL [if h then 104 else 108,48+k]
theorem cQ(a b:V)(c:Bool):atI [a,b] (if c=true then(1:Int)else 0)=some (if c=true then b else a):=by cases c<;>rfl
theorem da{m l:List Nat}{z:Str}(h:z=stL l):(V.str (stL m)=V.str z)↔m=l:=by rw[h];exact⟨λe=>stL_inj.mp (V.str.inj e),λe=>by rw[e]⟩
theorem mR{s s':PSt}(h:s≠s'):V.str (psS s)≠V.str (psS s'):=λe=>by have:=V.str.inj e;revert this;cases s<;>cases s'<;>first |exact absurd rfl h |decide +kernel
theorem HK(s:PSt):inV (.str (psS s)) [.str (Str.ofString "p0"),.str (Str.ofString "p1")]=(decide (s=.p0) ||decide (s=.p1)):=by cases s<;>decide +kernel
def q5:Sp:=λvs H Q _=>∃(st:PSt) (m:List Nat),vs=[.str (psS st),.str (stL m)]/\WfM m/\m.length<=1000/\(∀s' H',Same H H'->nxt st m=some s'->Q (.str (psS s')) H')/\(∀H',Same H H'->nxt st m=none->(m≠[44]\/st.opn=true)->Q (.str (Str.ofString "")) H')/\(∀H',Same H H'->nxt st m=none->m=[44]->st.opn=false->Q (.str (Str.ofString "l0")) H')
theorem Ek{f:Addr}{fd:FuncData}(F:Fun K "_law_next_in_poly" "_law_next_in_poly" kA f fd)(T:Txt K mg){ou:Addr}{n8:FuncData}(oW:Cal P w K mg base 1 "_law_kind" ["_law_mark_here"] mI ou n8){t8:Addr}{tO:FuncData}(vg:Cal P w K mg base 1 "_law_small" ["_law_mark_here"] pb t8 tO):FnOk P w K mg base CX0 2 f fd ["_law_state","_law_mark_here"] q5:=by
 obtain⟨oR,mZ,nD,oK⟩:=oW;obtain⟨uZ,sL,tu,uK⟩:=vg;refine F.ok sc__law_next_in_poly (λvs H Q E h=>?_) (λcdv A outer s H vs Q E hr h=>?_)
 ·obtain⟨st,m,rfl,_⟩:=h;rfl
 ·obtain⟨st,m,rfl,hm,hl,k1,k2,k3⟩:=h;have big:=sizeLine_eq
  refine⟨_,(ah (aF (i:=2) sc__law_next_in_poly.nd rfl (Or.inl rfl) (aw oR (hr.mono) rfl mZ nD oK .nil am (aa (pv 1) ac)))
   (ah (ar (ao (bG (K:=K) rfl) (pv 0) (bq (aa ad (aa ad ac))) (by rfl))
     (ah (ar (ao aK (pv 2) ad (ap _))
       (ae (ai ad))
       ay)
       (ah (ar (ao aK (pv 2) ad (ap _))
         (ae (ai ad))
         ay)
       (ae (ai (aA (aH (K:=K) rfl) (aO (aa ad (aa ad ac))) (bn ci (by rfl) T.int_ PyProof.Rows.boot_int (aa (cu (bf aK (pv 2) ad (ap _)) (bT (bf aK (pv 0) ad (ap _)))) ac)) (λ_ _=>rfl))))))
     ay)
   (ah (ar (ao aK (pv 0) ad (ap _))
     (ae (ai (aA (aH (K:=K) rfl) (aO (aa ad (aa ad ac))) (bn ci (by rfl) T.int_ PyProof.Rows.boot_int (aa (bf aK (pv 2) ad (ap _)) ac)) (λ_ _=>rfl))))
     ay)
   (ah (ar (ao aK (pv 0) ad (ap _))
     (ae (ai (aA (aH (K:=K) rfl) (aO (aa ad (aa ad ac))) (bn ci (by rfl) T.int_ PyProof.Rows.boot_int (aa (aw uZ (hr.mono) rfl sL tu uK .nil am (aa (pv 1) ac)) ac)) (λ_ _=>rfl))))
     ay)
   (ah (ar (PW.pt (bR (ao aK (pv 2) ad (ap _)) (cr (ao aK (pv 0) ad (ap _)))))
     (ae (ai ad))
     ay)
   (ah (ar (PW.pt (bR (ao aK (pv 2) ad (ap _)) (cr (ao aK (pv 0) ad (ap _)))))
     (ae (ai ad))
     ay)
   (ah (ar (ao (bG (K:=K) rfl) (pv 2) (bq (aa ad (aa ad ac))) (by rfl))
     (ae (ai ad))
     ay)
   (ae (ai (aA (aH (K:=K) rfl) (aO (aa ad (aa ad ac))) (bn ci (by rfl) T.int_ PyProof.Rows.boot_int (aa (bf aK (pv 2) ad (ap _)) ac)) (λ_ _=>rfl))))))))))),?_⟩
  refine aN ⟨_,rfl,m,rfl,hm,hl,λk H1 s1 hk=>?_⟩;have kx:∀c∈[43,45,42,94,120,44],(k=[c]↔m=[c]):=λc hc=>hk.2.2 [c] (by simp only[Ni,Nx,or_false]at hc;rcases hc with rfl |rfl |rfl |rfl |rfl |rfl<;>decide)
  have e44:(V.str (stL k)=V.str (Str.ofString ","))↔m=[44]:=(da yg).trans (kx 44 (by decide));have e120:(V.str (stL k)=V.str (Str.ofString "x"))↔m=[120]:=(da lK).trans (kx 120 (by decide));have e45:(V.str (stL k)=V.str (Str.ofString "-"))↔m=[45]:=(da gt).trans (kx 45 (by decide));have e42:(V.str (stL k)=V.str (Str.ofString "*"))↔m=[42]:=(da dF).trans (kx 42 (by decide));have e94:(V.str (stL k)=V.str (Str.ofString "^"))↔m=[94]:=(da iI).trans (kx 94 (by decide));have eN:(V.str (stL k)=V.str (Str.ofString "number"))↔isN m=true:=(da pV).trans hk.1
  have eS:(decide (k=[43]) ||decide (k=[45]))=decide (m=[43]\/m=[45]):=by rw[NB,NJ,decide_eq_true_eq,decide_eq_true_eq,decide_eq_true_eq,kx 43 (by decide),kx 45 (by decide)]
  show bH _ _ _ _ _;refine cU (λσ' H'=>σ'=[some (.str (psS st)),some (.str (stL m)),some (.str (stL k))]/\Same H H') ⟨rfl,s1⟩ ?_;clear s1 H1;rintro σ' H1 ⟨rfl,s1⟩;refine aD ⟨_,rfl,by show 2<=sizeLine;decide,λpt hpt=>?_⟩;have u2:=s1.then_new (o:=.tup [V.str (Str.ofString "p0"),V.str (Str.ofString "p1")]) hpt;refine⟨pt,_,rfl,.inr (SqT.of aj),rfl,by decide,_,rfl,?_⟩;generalize upd H1 pt (.tup [V.str (Str.ofString "p0"),V.str (Str.ofString "p1")])=H2 at u2 ⊢
  show if inV (.str (psS st)) [.str (Str.ofString "p0"),.str (Str.ofString "p1")]=true then _ else _
  rw[HK];clear s1 hpt;by_cases h01:st=.p0\/st=.p1
  ·rw[show(decide (st=.p0) ||decide (st=.p1))=true by rcases h01 with z |z<;>simp[z]];refine aJ ?_;refine aD ⟨_,rfl,rfl,_,rfl,aC (λz=>?_) (λz=>?_)⟩
   ·have hN:=eN.mp z;refine au (k1 .pn H2 u2 ?_);rcases h01 with rfl |rfl<;>(show(if isN m=true then _ else _)=_;rw[if_pos hN])
   have hN:¬isN m=true:=λy=>z (eN.mpr y)
   refine aD ⟨_,rfl,rfl,_,rfl,aC (λz=>?_) (λz=>?_)⟩
   ·have hx:=e120.mp z;refine au (k1 .px H2 u2 ?_);rcases h01 with rfl |rfl<;>(show(if isN m=true then _ else _)=_;rw[if_neg hN,if_pos hx])
   have hx:¬m=[120]:=λy=>z (e120.mpr y)
   refine au ⟨by show 2<=sizeLine;decide,λp2 hp2=>?_⟩;have u3:=u2.then_new (o:=.lst [V.str (Str.ofString ""),V.str (Str.ofString "p1")]) hp2;refine cq ⟨_,rfl,rfl,_,rfl,aC (λz=>?_) (λz=>?_)⟩
   ·have h45:=e45.mp z;refine⟨_,rfl,rfl,.inr ⟨_,rfl,p2,_,_,_,rfl,rfl,SqL.of aj,cQ _ _ _,?_⟩⟩;rcases h01 with rfl |rfl
    ·show Q (if decide (V.str (psS .p0)=V.str (psS .p0))=true then _ else _) _;rw[decide_eq_true rfl];refine k1 .p1 _ u3 ?_;show(if isN m=true then _ else _)=_;rw[if_neg hN,if_neg hx,if_pos h45]
    ·show Q (if decide (V.str (psS .p1)=V.str (psS .p0))=true then _ else _) _;rw[decide_eq_false (mR (s:=.p1) (s':=.p0) (by decide))];refine k2 _ u3 ?_ (.inr rfl);show(if isN m=true then _ else _)=_;rw[if_neg hN,if_neg hx]
   ·have h45:¬m=[45]:=λy=>z (e45.mpr y)
    refine .inr ⟨_,rfl,p2,_,_,_,rfl,rfl,SqL.of aj,cQ _ _ _,?_⟩;refine k2 _ u3 ?_ (.inr (by rcases h01 with rfl |rfl<;>rfl));rcases h01 with rfl |rfl
    ·show(if isN m=true then _ else _)=_;rw[if_neg hN,if_neg hx,if_neg h45]
    ·show(if isN m=true then _ else _)=_;rw[if_neg hN,if_neg hx]
  have h0:st≠.p0:=λz=>h01 (.inl z)
  have h1:st≠.p1:=λz=>h01 (.inr z)
  rw[show(decide (st=.p0) ||decide (st=.p1))=false by simp[h0,h1]];refine aI ?_;refine aD ⟨_,rfl,rfl,_,rfl,aC (λz=>?_) (λz=>?_)⟩
  ·obtain rfl:st=.pm:=Classical.byContradiction λy=>mR (s':=.pm) y z
   refine au ⟨by show 2<=sizeLine;decide,λp2 hp2=>?_⟩;have u3:=u2.then_new (o:=.lst [V.str (Str.ofString ""),V.str (Str.ofString "px")]) hp2;refine⟨_,rfl,rfl,.inr ⟨_,rfl,p2,_,_,_,rfl,rfl,SqL.of aj,cQ _ _ _,?_⟩⟩;by_cases hx:m=[120]
   ·rw[decide_eq_true (e120.mpr hx)];refine k1 .px _ u3 ?_;show(if m=[120]then _ else _)=_;rw[if_pos hx]
   ·rw[decide_eq_false (λy=>hx (e120.mp y))];refine k2 _ u3 ?_ (.inr rfl);show(if m=[120]then _ else _)=_;rw[if_neg hx]
  have hpm:st≠.pm:=λy=>z (by rw[y];rfl)
  refine aD ⟨_,rfl,rfl,_,rfl,aC (λz=>?_) (λz=>?_)⟩
  ·obtain rfl:st=.pe:=Classical.byContradiction λy=>mR (s':=.pe) y z
   refine au ⟨by show 2<=sizeLine;decide,λp2 hp2=>?_⟩;have u3:=u2.then_new (o:=.lst [V.str (Str.ofString ""),V.str (Str.ofString "pd")]) hp2;refine⟨_,rfl,m,rfl,hl,.inr ⟨_,rfl,p2,_,_,_,rfl,rfl,SqL.of aj,cQ _ _ _,?_⟩⟩;cases hE:isE m with
   |true =>refine k1 .pd _ u3 ?_;show(if isE m=true then _ else _)=_;rw[if_pos hE]
   |false =>refine k2 _ u3 ?_ (.inr rfl);show(if isE m=true then _ else _)=_;rw[if_neg (by rw[hE];decide)]
  have hpe:st≠.pe:=λy=>z (by rw[y];rfl)
  have h3:st=.pn\/st=.px\/st=.pd:=by
   cases st
   ·exact absurd rfl h0
   ·exact absurd rfl h1
   ·exact absurd rfl hpm
   ·exact absurd rfl hpe
   ·exact .inl rfl
   ·exact .inr (.inl rfl)
   ·exact .inr (.inr rfl)
  have nS:m=[43]\/m=[45]->nxt st m=some .p1:=λy=>by rcases h3 with rfl |rfl |rfl<;>rcases y with rfl |rfl<;>decide
  have nn:(st=.pn->m≠[42])->(st=.px->m≠[94])->¬(m=[43]\/m=[45])->nxt st m=none:=λa b c=>by
   rcases h3 with rfl |rfl |rfl
   ·show(if m=[42]then _ else _)=_;rw[if_neg (a rfl),if_neg c]
   ·show(if m=[94]then _ else _)=_;rw[if_neg (b rfl),if_neg c]
   ·show(if _ then _ else _)=_;rw[if_neg c]
  refine cA (λσ' H'=>σ'=[some (.str (psS st)),some (.str (stL m)),some (.str (stL k))]/\H2=H'/\(st=.pn->m≠[42])) ?_ (λrest=>bQ ⟨_,rfl,rfl,_,rfl,aC (λzz=>⟨_,rfl,rfl,_,rfl,aC (λy=>?_) (λy=>?_)⟩) (λzz=>?_)⟩)
  rotate_left
  ·obtain rfl:st=.pn:=Classical.byContradiction λx=>mR (s':=.pn) x y
   refine au (k1 .pm H2 u2 ?_);show(if m=[42]then _ else _)=_;rw[if_pos (e42.mp zz)]
  ·exact rest _ _ ⟨rfl,rfl,λx=>absurd (by rw[x];rfl) y⟩
  ·exact rest _ _ ⟨rfl,rfl,λ_ x=>zz (e42.mpr x)⟩
  rintro σ' H' ⟨rfl,rfl,hn1⟩;refine cA (λσ' H'=>σ'=[some (.str (psS st)),some (.str (stL m)),some (.str (stL k))]/\H2=H'/\(st=.px->m≠[94])) ?_ (λrest=>bQ ⟨_,rfl,rfl,_,rfl,aC (λzz=>⟨_,rfl,rfl,_,rfl,aC (λy=>?_) (λy=>?_)⟩) (λzz=>?_)⟩)
  rotate_left
  ·obtain rfl:st=.px:=Classical.byContradiction λx=>mR (s':=.px) x y
   refine au (k1 .pe H2 u2 ?_);show(if m=[94]then _ else _)=_;rw[if_pos (e94.mp zz)]
  ·exact rest _ _ ⟨rfl,rfl,λx=>absurd (by rw[x];rfl) y⟩
  ·exact rest _ _ ⟨rfl,rfl,λ_ x=>zz (e94.mpr x)⟩
  rintro σ' H' ⟨rfl,rfl,hn2⟩;refine aD ⟨_,rfl,by show 2<=sizeLine;decide,λpt hpt=>?_⟩;have u3:=u2.then_new (o:=.tup [V.str (Str.ofString "+"),V.str (Str.ofString "-")]) hpt;refine⟨pt,_,rfl,.inr (SqT.of aj),rfl,by decide,_,rfl,?_⟩;generalize upd H2 pt (.tup [V.str (Str.ofString "+"),V.str (Str.ofString "-")])=H3 at u3 ⊢
  show if inV (.str (stL k)) [.str (Str.ofString "+"),.str (Str.ofString "-")]=true then _ else _
  rw[tG,eS];refine aC (λz=>au (k1 .p1 H3 u3 (nS z))) (λz=>?_);refine au ⟨by show 2<=sizeLine;decide,λp2 hp2=>?_⟩;have u4:=u3.then_new (o:=.lst [V.str (Str.ofString ""),V.str (Str.ofString "l0")]) hp2;refine⟨_,rfl,rfl,.inr ⟨_,rfl,p2,_,_,_,rfl,rfl,SqL.of aj,cQ _ _ _,?_⟩⟩;have hno:=nn hn1 hn2 z;have ho:st.opn=false:=by rcases h3 with rfl |rfl |rfl<;>rfl
  by_cases h44:m=[44]
  ·rw[decide_eq_true (e44.mpr h44)];exact k3 _ u4 hno h44 ho
  ·rw[decide_eq_false (λy=>h44 (e44.mp y))];exact k2 _ u4 hno (.inl h44)
noncomputable def glT(T m:List Nat):Bool:=match T.getLast?,m.head? with
 |some a,some b=>glu a b
 |_,_=>false
theorem Ff{T m:List Nat}(h:glT T m=false):dq T m:=λa b ha hb=>by
 unfold glT at h
 rw[ha,hb]at h;exact h
theorem yI(c:Nat):decide (c∈(Str.ofString ".").cps.toList)=decide (c=46):=by
 have e:(Str.ofString ".").cps.toList=[46]:=by decide +kernel
 rw[e];simp
theorem Lf{l:List Nat}{a:Nat}(h:l.getLast?=some a):atI (stL l).cps.toList (-1)=some a:=by
 have hne:l≠[]:=λz=>by rw[z]at h;cases h
 have e:l=l.dropLast++[a]:=by rw[List.getLast?_eq_some_getLast hne]at h;rw[<- Option.some.inj h];exact(List.dropLast_concat_getLast hne).symm
 rw[fk,e];exact zX _ _
def rh:Sp:=λvs H Q _=>∃T m:List Nat,vs=[.str (stL T),.str (stL m)]/\m≠[]/\T.length<=1000/\m.length<=1000/\∀H',Same H H'->Q (.bl (glT T m)) H'
theorem Es{f:Addr}{fd:FuncData}(F:Fun K "_law_glued" "_law_glued" kH f fd)(T:Txt K mg):FnOk P w K mg base CX0 1 f fd ["_law_text","_law_mark_here"] rh:=by
 refine F.ok sc__law_glued (λvs H Q E h=>?_) (λcdv A outer s H vs Q E hr h=>?_)
 ·obtain⟨l,m,rfl,_⟩:=h;rfl
 ·obtain⟨l,m,rfl,hm,hl,hml,kk⟩:=h;have big:=sizeLine_eq;obtain⟨b,r,rfl⟩:=Nz hm;have hg:(b::r)[0]?=some b:=rfl
  refine⟨_,(ah (ar (ao aK (pv 0) ad (ap _))
   (ae (ai gk))
   ay)
   (ah (mS PassesOwn.never rfl (wK (K:=K) rfl (bq (aa ad (aa ad (aa ad ac))))) (ix (i:=2) sc__law_glued.nd rfl (Or.inl rfl))
     (ae (ar (PW.pt (bR (ao gO (aA bJ (pv 0) (ft fj af) (λ_ _=>rfl)) (pv 2) (by rfl)) (cr (ao gO (aA bJ (pv 1) af (λ_ _=>rfl)) (pv 2) (by rfl)))))
       (ae (ai gk))
       ay)))
   (ae (ai gk)))),?_⟩
  refine aD ⟨_,rfl,rfl,_,rfl,aC (λz=>?_) (λz=>?_)⟩
  ·have hl0:l=[]:=stL_inj.mp ((V.str.inj z).trans iH);subst hl0;exact au (kk H (Same.refl _))
  have hl0:l≠[]:=λy=>z (by rw[y,<- iH])
  obtain⟨a,ha⟩:∃a,l.getLast?=some a:=⟨_,List.getLast?_eq_some_getLast hl0⟩;have hG:glT l (b::r)=glu a b:=by unfold glT;rw[ha];rfl
  rw[hG]at kk;have hat:=Lf ha;refine⟨by show 3<=sizeLine;decide,λpt hpt=>?_⟩;have s1:=Same.upd_new (o:=.tup [V.str (Str.ofString "0123456789"),V.str (Str.ofString "abcdefghijklmnopqrstuvwxyz"),V.str (Str.ofString ".")]) hpt;have e1:upd H pt (.tup [V.str (Str.ofString "0123456789"),V.str (Str.ofString "abcdefghijklmnopqrstuvwxyz"),V.str (Str.ofString ".")]) pt=some (.tup [V.str (Str.ofString "0123456789"),V.str (Str.ofString "abcdefghijklmnopqrstuvwxyz"),V.str (Str.ofString ".")]):=aj;generalize upd H pt (.tup [V.str (Str.ofString "0123456789"),V.str (Str.ofString "abcdefghijklmnopqrstuvwxyz"),V.str (Str.ofString ".")])=H1 at s1 e1 ⊢
  refine⟨pt,rfl,⟨_,SqT.of e1⟩,yV (K:=K) (a:=pt) (xs:=[V.str (Str.ofString "0123456789"),V.str (Str.ofString "abcdefghijklmnopqrstuvwxyz"),V.str (Str.ofString ".")]) (λj σ' H'=>∃z2:Option V,σ'=[some (.str (stL l)),some (.str (stL (b::r))),z2]/\H1=H'/\(1<=j->(isD a&&isD b)=false)/\(2<=j->(isA a&&isA b)=false)/\(3<=j->(decide (a=46)&&decide (b=46))=false)) ⟨none,rfl,rfl,(λh=>absurd h (by decide)),(λh=>absurd h (by decide)),(λh=>absurd h (by decide))⟩ ?_ ?_ ?_⟩
  ·rintro j σ' H' _ ⟨z2,rfl,rfl,_⟩;exact SqT.of e1
  ·rintro j x σ' H' hj ⟨z2,rfl,rfl,c1,c2,c3⟩;have hj2:j<3:=(List.getElem?_eq_some_iff.mp hj).1;have:j=0\/j=1\/j=2:=by omega
   rcases this with rfl |rfl |rfl
   ·obtain rfl:V.str (Str.ofString "0123456789")=x:=Option.some.inj hj;refine dA (bQ ⟨_,rfl,_,rfl,_,_,_,rfl,rfl,by rw[ak];omega,hat,_,rfl,_,_,rfl,rfl,_,rfl,?_⟩);rw[StrLaws.found_one,nK];cases hp:isD a with
    |false =>
     have e:(isD a&&isD b)=false:=by rw[hp];rfl
     exact aI (aI ⟨_,rfl,rfl,λ_=>rfl,λh=>absurd h (by decide),λh=>absurd h (by decide)⟩)
    |true =>
     refine aJ ⟨_,rfl,_,_,_,rfl,rfl,by rw[ak];omega,fc rfl hg,_,rfl,_,_,rfl,rfl,_,rfl,?_⟩;rw[StrLaws.found_one,nK];cases hq:isD b with
     |false =>
      have e:(isD a&&isD b)=false:=by rw[hp,hq];rfl
      exact aI ⟨_,rfl,rfl,λ_=>rfl,λh=>absurd h (by decide),λh=>absurd h (by decide)⟩
     |true =>
      have e:glu a b=true:=by unfold glu;rw[show(isD a&&isD b)=true by rw[hp,hq];rfl];simp
      rw[e]at kk;exact aJ (au (kk H1 s1))
   ·obtain rfl:V.str (Str.ofString "abcdefghijklmnopqrstuvwxyz")=x:=Option.some.inj hj;refine dA (bQ ⟨_,rfl,_,rfl,_,_,_,rfl,rfl,by rw[ak];omega,hat,_,rfl,_,_,rfl,rfl,_,rfl,?_⟩);rw[StrLaws.found_one,nJ];cases hp:isA a with
    |false =>
     have e:(isA a&&isA b)=false:=by rw[hp];rfl
     exact aI (aI ⟨_,rfl,rfl,λ_=>c1 (by decide),λ_=>rfl,λh=>absurd h (by decide)⟩)
    |true =>
     refine aJ ⟨_,rfl,_,_,_,rfl,rfl,by rw[ak];omega,fc rfl hg,_,rfl,_,_,rfl,rfl,_,rfl,?_⟩;rw[StrLaws.found_one,nJ];cases hq:isA b with
     |false =>
      have e:(isA a&&isA b)=false:=by rw[hp,hq];rfl
      exact aI ⟨_,rfl,rfl,λ_=>c1 (by decide),λ_=>rfl,λh=>absurd h (by decide)⟩
     |true =>
      have e:glu a b=true:=by unfold glu;rw[show(isA a&&isA b)=true by rw[hp,hq];rfl];simp
      rw[e]at kk;exact aJ (au (kk H1 s1))
   ·obtain rfl:V.str (Str.ofString ".")=x:=Option.some.inj hj;refine dA (bQ ⟨_,rfl,_,rfl,_,_,_,rfl,rfl,by rw[ak];omega,hat,_,rfl,_,_,rfl,rfl,_,rfl,?_⟩);rw[StrLaws.found_one,yI];cases hp:decide (a=46)with
    |false =>
     have e:(decide (a=46)&&decide (b=46))=false:=by rw[hp];rfl
     exact aI (aI ⟨_,rfl,rfl,λ_=>c1 (by decide),λ_=>c2 (by decide),λ_=>rfl⟩)
    |true =>
     refine aJ ⟨_,rfl,_,_,_,rfl,rfl,by rw[ak];omega,fc rfl hg,_,rfl,_,_,rfl,rfl,_,rfl,?_⟩;rw[StrLaws.found_one,yI];cases hq:decide (b=46)with
     |false =>
      have e:(decide (a=46)&&decide (b=46))=false:=by rw[hp,hq];rfl
      exact aI ⟨_,rfl,rfl,λ_=>c1 (by decide),λ_=>c2 (by decide),λ_=>rfl⟩
     |true =>
      have e:glu a b=true:=by unfold glu;rw[show(decide (a=46)&&decide (b=46))=true by rw[hp,hq];rfl];simp
      rw[e]at kk;exact aJ (au (kk H1 s1))
  ·rintro σ' H' ⟨z2,rfl,rfl,c1,c2,c3⟩
   have e:glu a b=false:=by unfold glu;rw[c1 (by decide),c2 (by decide),c3 (by decide)];rfl
   rw[e]at kk;dsimp only
   exact au (kk H1 s1)
inductive NX |no |op |cl |to(s:TSt)
noncomputable def NX.str:NX->Str
 |.no=>Str.ofString "" |.op=>Str.ofString "open" |.cl=>Str.ofString "close" |.to s=>tsS s
noncomputable def nfR(h:Bool)(k:Nat)(m:List Nat):NX :=
 if k=0\/k=1 then(if m=[45]/\k=0 then .to (.fr h 1)else if isN m then .to (.fr h 2)else .no)
 else if k=3 then(if isN m/\m≠[48]then .to (.fr h 4)else .no)
 else if m=[47]/\k=2 then .to (.fr h 3)
 else if m=[46,46]/\h=false then .to (.fr true 0)
 else if m=[41]/\h=true then .cl else .no
theorem dJ{c d:Nat}{z:Str}(h:z=⟨#[d]⟩):(V.str ⟨#[c]⟩=V.str z)↔c=d:=by
 rw[h];constructor
 ·intro e;have e2:([c]:List Nat)=[d]:=congrArg (λs:Str=>s.cps.toList) (V.str.inj e);exact Ol e2
 ·intro e;rw[e]
theorem c_0:Str.ofString "0"=⟨#[48]⟩:=by decide +kernel
theorem c_2:Str.ofString "2"=⟨#[50]⟩:=by decide +kernel
theorem c_3:Str.ofString "3"=⟨#[51]⟩:=by decide +kernel
theorem c_l:Str.ofString "l"=⟨#[108]⟩:=by decide +kernel
theorem c_h:Str.ofString "h"=⟨#[104]⟩:=by decide +kernel
theorem c_p:Str.ofString "p"=⟨#[112]⟩:=by decide +kernel
theorem HF:∀k:Nat,k<5->inV (.str ⟨#[48+k]⟩) [.str (Str.ofString "0"),.str (Str.ofString "1")]=(decide (k=0) ||decide (k=1)):=by decide +kernel
noncomputable def hc(h:Bool):Nat:=if h then 104 else 108
theorem Ir(h:Bool):(⟨#[hc h]⟩:Str)++Str.ofString "1"=tsS (.fr h 1):=by cases h<;>decide +kernel
theorem Iq(h:Bool):(⟨#[hc h]⟩:Str)++Str.ofString "2"=tsS (.fr h 2):=by cases h<;>decide +kernel
theorem Io(h:Bool):(⟨#[hc h]⟩:Str)++Str.ofString "3"=tsS (.fr h 3):=by cases h<;>decide +kernel
theorem Im(h:Bool):(⟨#[hc h]⟩:Str)++Str.ofString "4"=tsS (.fr h 4):=by cases h<;>decide +kernel
theorem pX(c:Nat)(z:Str)(h:z.length=1):(⟨#[c]⟩:Str).length+z.length<=sizeLine:=by rw[h];show 2<=sizeLine;decide
theorem GI:Str.ofString "h0"=tsS (.fr true 0):=by decide +kernel
structure KE(m kd:List Nat):Prop where
 n:(V.str (stL kd)=V.str (Str.ofString "number"))↔isN m=true
 nm:(V.str (stL kd)=V.str (Str.ofString "name"))↔bu m=true
 min:(V.str (stL kd)=V.str (Str.ofString "-"))↔m=[45]
 sl:(V.str (stL kd)=V.str (Str.ofString "/"))↔m=[47]
 dd:(V.str (stL kd)=V.str (Str.ofString ".."))↔m=[46,46]
 cl:(V.str (stL kd)=V.str (Str.ofString ")"))↔m=[41]
 op:(V.str (stL kd)=V.str (Str.ofString "("))↔m=[40]
 ht:(V.str (stL kd)=V.str (Str.ofString "^"))↔m=[94]
 rt:(V.str (stL kd)=V.str (Str.ofString "root"))↔m=wRoot
 ops:(decide (kd∈[[43],[45],[42],[47]]))=eR m
 nn:(decide (kd∈[iK,iL]))=(isN m ||bu m)
 wd:(decide (kd∈[wSqrt,wCbrt,wRoot]))=decide (m=wSqrt\/m=wCbrt\/m=wRoot)
theorem ym{m kd:List Nat}(h:KdM m kd):KE m kd:=by
 have x:∀y,y∈kSP->(kd=y↔m=y):=h.2.2;refine⟨(da pV).trans h.1,(da sO).trans h.2.1,(da gt).trans (x _ (by decide)),(da gS).trans (x _ (by decide)),(da gT).trans (x _ (by decide)),(da lN).trans (x _ (by decide)),(da nt).trans (x _ (by decide)),(da iI).trans (x _ (by decide)),(da pU).trans (x _ (by decide)),?_,?_,?_⟩
 ·unfold eR;rw[NB];simp only[Ni,Nx,or_false,NJ,decide_eq_true_eq];rw[x [43] (by decide),x [45] (by decide),x [42] (by decide),x [47] (by decide),or_assoc,or_assoc]
 ·rw[NB];simp only[Ni,Nx,or_false,NJ,decide_eq_true_eq];rw[h.1,h.2.1]
 ·rw[NB];simp only[Ni,Nx,or_false,decide_eq_true_eq];rw[x wSqrt (by decide),x wCbrt (by decide),x wRoot (by decide)]
def q9:Sp:=λvs H Q _=>∃(h:Bool) (k:Nat) (m:List Nat),vs=[.str (tsS (.fr h k)),.str (stL m)]/\k<5/\WfM m/\m.length<=1000/\∀H',Same H H'->Q (.str (nfR h k m).str) H'
theorem El{f:Addr}{fd:FuncData}(F:Fun K "_law_next_in_fraction" "_law_next_in_fraction" kB f fd)(T:Txt K mg){ou:Addr}{n8:FuncData}(oW:Cal P w K mg base 1 "_law_kind" ["_law_mark_here"] mI ou n8):FnOk P w K mg base CX0 2 f fd ["_law_state","_law_mark_here"] q9:=by
 obtain⟨oR,mZ,nD,oK⟩:=oW;refine F.ok sc__law_next_in_fraction (λvs H Q E h=>?_) (λcdv A outer s H vs Q E hr h=>?_)
 ·obtain⟨h,k,m,rfl,_⟩:=h;rfl
 ·obtain⟨h,k,m,rfl,hk5,hm,hl,kk⟩:=h;have big:=sizeLine_eq
  refine⟨_,(ah (aF (i:=2) sc__law_next_in_fraction.nd rfl (Or.inl rfl) (aw oR (hr.mono) rfl mZ nD oK .nil am (aa (pv 1) ac)))
   (ah (ar (ao (bG (K:=K) rfl) (aA bJ (pv 0) af (λ_ _=>rfl)) (bq (aa ad (aa ad ac))) (by rfl))
     (ah (ar (PW.pt (bR (ao aK (pv 2) ad (ap _)) (cr (ao aK (aA bJ (pv 0) af (λ_ _=>rfl)) ad (ap _)))))
       (ae (ai (aq bi (aA bJ (pv 0) af (λ_ _=>rfl)) ad)))
       ay)
       (ae (ai (aA (aH (K:=K) rfl) (aO (aa ad (aa (aq bi (aA bJ (pv 0) af (λ_ _=>rfl)) ad) ac))) (bn ci (by rfl) T.int_ PyProof.Rows.boot_int (aa (bf aK (pv 2) ad (ap _)) ac)) (λ_ _=>rfl)))))
     ay)
   (ah (ar (ao aK (aA bJ (pv 0) af (λ_ _=>rfl)) ad (ap _))
     (ae (ai (aA (aH (K:=K) rfl) (aO (aa ad (aa (aq bi (aA bJ (pv 0) af (λ_ _=>rfl)) ad) ac))) (bn ci (by rfl) T.int_ PyProof.Rows.boot_int (aa (cu (bf aK (pv 2) ad (ap _)) (bT (bf lB (pv 1) ad (ap _)))) ac)) (λ_ _=>rfl))))
     ay)
   (ah (ar (PW.pt (bR (ao aK (pv 2) ad (ap _)) (cr (ao aK (aA bJ (pv 0) af (λ_ _=>rfl)) ad (ap _)))))
     (ae (ai (aq bi (aA bJ (pv 0) af (λ_ _=>rfl)) ad)))
     ay)
   (ah (ar (PW.pt (bR (ao aK (pv 2) ad (ap _)) (cr (ao aK (aA bJ (pv 0) af (λ_ _=>rfl)) ad (ap _)))))
     (ae (ai ad))
     ay)
   (ae (ai (aA (aH (K:=K) rfl) (aO (aa ad (aa ad ac))) (bn ci (by rfl) T.int_ PyProof.Rows.boot_int (aa (cu (bf aK (pv 2) ad (ap _)) (bT (bf aK (aA bJ (pv 0) af (λ_ _=>rfl)) ad (ap _)))) ac)) (λ_ _=>rfl))))))))),?_⟩
  refine aN ⟨_,rfl,m,rfl,hm,hl,λkd H1 s1 hk=>?_⟩;have e:=ym hk;have z2:(stL [hc h,48+k]).length<=sizeLine:=by rw[ak];show 2<=sizeLine;decide
  have a0:atI (stL [hc h,48+k]).cps.toList 0=some (hc h):=rfl;have a1:atI (stL [hc h,48+k]).cps.toList 1=some (48+k):=rfl;have n1:(Str.ofString "1").length=1:=by decide +kernel
  have n2:(Str.ofString "2").length=1:=by decide +kernel
  have n3:(Str.ofString "3").length=1:=by decide +kernel
  have n4:(Str.ofString "4").length=1:=by decide +kernel
  show bH _ _ _ _ _;refine cU (λσ' H'=>σ'=[some (.str (stL [hc h,48+k])),some (.str (stL m)),some (.str (stL kd))]/\Same H H') ⟨rfl,s1⟩ ?_;clear s1 H1;rintro σ' H1 ⟨rfl,s1⟩;refine aD ⟨_,rfl,_,_,48+k,rfl,rfl,z2,a1,by show 2<=sizeLine;decide,λpt hpt=>?_⟩;have u2:=s1.then_new (o:=.tup [V.str (Str.ofString "0"),V.str (Str.ofString "1")]) hpt;refine⟨pt,_,rfl,.inr (SqT.of aj),rfl,by decide,_,rfl,?_⟩;generalize upd H1 pt (.tup [V.str (Str.ofString "0"),V.str (Str.ofString "1")])=H2 at u2 ⊢
  show if inV (.str ⟨#[48+k]⟩) [.str (Str.ofString "0"),.str (Str.ofString "1")]=true then _ else _
  rw[HF k hk5];clear s1 hpt;by_cases h01:k=0\/k=1
  ·rw[show(decide (k=0) ||decide (k=1))=true by rcases h01 with z |z<;>simp[z]];refine aJ ?_;refine cA (λσ' H'=>σ'=[some (.str (stL [hc h,48+k])),some (.str (stL m)),some (.str (stL kd))]/\H2=H'/\¬(m=[45]/\k=0)) ?_ (λrest=>bQ ⟨_,rfl,rfl,_,rfl,aC (λzz=>⟨_,rfl,_,_,48+k,rfl,rfl,z2,a1,rfl,_,rfl,aC (λy=>?_) (λy=>?_)⟩) (λzz=>?_)⟩)
   rotate_left
   ·have hm45:=e.min.mp zz;have hk0:k=0:=by have:=(dJ c_0).mp y;omega
    refine au ⟨_,rfl,_,_,hc h,rfl,rfl,z2,a0,_,_,rfl,rfl,pX _ _ n1,?_⟩;rw[Ir];have:=kk H2 u2;unfold nfR at this
    rw[if_pos h01,if_pos (show m=[45]/\k=0 from⟨hm45,hk0⟩)]at this;exact this
   ·exact rest _ _ ⟨rfl,rfl,λx=>y ((dJ c_0).mpr (by rw[x.2]))⟩
   ·exact rest _ _ ⟨rfl,rfl,λx=>zz (e.min.mpr x.1)⟩
   rintro σ' H' ⟨rfl,rfl,hn⟩;refine au ⟨_,rfl,_,_,hc h,rfl,rfl,z2,a0,_,_,rfl,rfl,pX _ _ n2,by show 2<=sizeLine;decide,λp2 hp2=>?_⟩;have:=kk _ (u2.then_new (o:=.lst [V.str (Str.ofString ""),V.str (⟨#[hc h]⟩++Str.ofString "2")]) hp2);unfold nfR at this
   rw[if_pos h01,if_neg hn]at this;refine⟨_,rfl,rfl,.inr ⟨_,rfl,p2,_,_,_,rfl,rfl,SqL.of aj,cQ _ _ _,?_⟩⟩;by_cases hN:isN m=true
   ·rw[decide_eq_true (e.n.mpr hN),if_pos rfl];rw[if_pos hN]at this;show Q (V.str (⟨#[hc h]⟩++Str.ofString "2")) _;rw[Iq h]at this ⊢;exact this
   ·rw[decide_eq_false (λy=>hN (e.n.mp y)),if_neg (by decide)];rw[if_neg hN]at this;exact this
  rw[show(decide (k=0) ||decide (k=1))=false by rw[decide_eq_false (λz=>h01 (.inl z)),decide_eq_false (λz=>h01 (.inr z))];rfl];refine aI ?_;refine aD ⟨_,rfl,_,_,48+k,rfl,rfl,z2,a1,rfl,_,rfl,aC (λz=>?_) (λz=>?_)⟩
  ·have hk3:k=3:=by have:=(dJ c_3).mp z;omega
   refine au ⟨_,rfl,_,_,hc h,rfl,rfl,z2,a0,_,_,rfl,rfl,pX _ _ n4,by show 2<=sizeLine;decide,λp2 hp2=>?_⟩;have:=kk _ (u2.then_new (o:=.lst [V.str (Str.ofString ""),V.str (⟨#[hc h]⟩++Str.ofString "4")]) hp2);unfold nfR at this
   rw[if_neg h01,if_pos hk3]at this;refine cq ⟨_,rfl,rfl,_,rfl,aC (λzz=>?_) (λzz=>?_)⟩
   ·have hN:=e.n.mp zz;refine⟨_,rfl,rfl,.inr ⟨_,rfl,p2,_,_,_,rfl,rfl,SqL.of aj,cQ _ _ _,?_⟩⟩;by_cases h0:m=[48]
    ·rw[decide_eq_true (show V.str (stL m)=V.str (Str.ofString "0") by rw[h0,<- eJ])];rw[if_neg (λx=>x.2 h0)]at this;exact this
    ·rw[decide_eq_false (λx=>h0 (stL_inj.mp ((V.str.inj x).trans eJ)))];rw[if_pos ⟨hN,h0⟩]at this;show Q (V.str (⟨#[hc h]⟩++Str.ofString "4")) _;rw[Im h]at this ⊢;exact this
   ·refine .inr ⟨_,rfl,p2,_,_,_,rfl,rfl,SqL.of aj,cQ _ _ _,?_⟩;rw[if_neg (λx=>zz (e.n.mpr x.1))]at this;exact this
  have hk3:¬k=3:=λy=>z ((dJ c_3).mpr (by rw[y]))
  have k5:=kk H2 u2;unfold nfR at k5
  rw[if_neg h01,if_neg hk3]at k5;refine cA (λσ' H'=>σ'=[some (.str (stL [hc h,48+k])),some (.str (stL m)),some (.str (stL kd))]/\H2=H'/\¬(m=[47]/\k=2)) ?_ (λrest=>bQ ⟨_,rfl,rfl,_,rfl,aC (λzz=>⟨_,rfl,_,_,48+k,rfl,rfl,z2,a1,rfl,_,rfl,aC (λy=>?_) (λy=>?_)⟩) (λzz=>?_)⟩)
  rotate_left
  ·have hm47:=e.sl.mp zz;have hk2:k=2:=by have:=(dJ c_2).mp y;omega
   refine au ⟨_,rfl,_,_,hc h,rfl,rfl,z2,a0,_,_,rfl,rfl,pX _ _ n3,?_⟩;rw[Io];rw[if_pos ⟨hm47,hk2⟩]at k5;exact k5
  ·exact rest _ _ ⟨rfl,rfl,λx=>y ((dJ c_2).mpr (by rw[x.2]))⟩
  ·exact rest _ _ ⟨rfl,rfl,λx=>zz (e.sl.mpr x.1)⟩
  rintro σ' H' ⟨rfl,rfl,hn⟩;rw[if_neg hn]at k5;refine cA (λσ' H'=>σ'=[some (.str (stL [hc h,48+k])),some (.str (stL m)),some (.str (stL kd))]/\H2=H'/\¬(m=[46,46]/\h=false)) ?_ (λrest=>bQ ⟨_,rfl,rfl,_,rfl,aC (λzz=>⟨_,rfl,_,_,hc h,rfl,rfl,z2,a0,rfl,_,rfl,aC (λy=>?_) (λy=>?_)⟩) (λzz=>?_)⟩)
  rotate_left
  ·have hmd:=e.dd.mp zz
   have hh:h=false:=by
    have:=(dJ c_l).mp y;cases h with
    |true=>exact absurd this (by decide)
    |false=>rfl
   rw[if_pos ⟨hmd,hh⟩]at k5;refine au ?_;show Q (V.str (Str.ofString "h0")) _;rw[GI];exact k5
  ·exact rest _ _ ⟨rfl,rfl,λx=>y ((dJ c_l).mpr (by rw[x.2];rfl))⟩
  ·exact rest _ _ ⟨rfl,rfl,λx=>zz (e.dd.mpr x.1)⟩
  rintro σ' H' ⟨rfl,rfl,hn2⟩;clear k5;refine au ⟨by show 2<=sizeLine;decide,λp2 hp2=>?_⟩;have:=kk _ (u2.then_new (o:=.lst [V.str (Str.ofString ""),V.str (Str.ofString "close")]) hp2);unfold nfR at this
  rw[if_neg h01,if_neg hk3,if_neg hn,if_neg hn2]at this;refine cq ⟨_,rfl,rfl,_,rfl,aC (λzz=>?_) (λzz=>?_)⟩
  ·have hm41:=e.cl.mp zz;refine⟨_,rfl,_,_,hc h,rfl,rfl,z2,a0,rfl,.inr ⟨_,rfl,p2,_,_,_,rfl,rfl,SqL.of aj,cQ _ _ _,?_⟩⟩;cases h with
   |true =>rw[decide_eq_true ((dJ (c:=hc true) c_h).mpr rfl)];rw[if_pos ⟨hm41,rfl⟩]at this;exact this
   |false =>rw[decide_eq_false (λx=>absurd ((dJ (c:=hc false) c_h).mp x) (by decide))];rw[if_neg (λx=>by cases x.2)]at this;exact this
  ·refine .inr ⟨_,rfl,p2,_,_,_,rfl,rfl,SqL.of aj,cQ _ _ _,?_⟩;rw[if_neg (λx=>zz (e.cl.mpr x.1))]at this;exact this
noncomputable def fz(m:List Nat)(e:NX):NX:=if m=[40]then .op else if isN m ||bu m then .to .at else if m=wSqrt\/m=wCbrt\/m=wRoot then(if m=wRoot then .to .gi else .to .wo)else e
noncomputable def gp(m:List Nat):NX:=if eR m then .to .bg else if m=[41]then .cl else .no
noncomputable def nxR(s:TSt)(m:List Nat):NX:=match s with
 |.bg=>fz m (if m=[45]then .to .st else .no)
 |.st=>fz m .no
 |.wo=>if m=[40]then .op else .no
 |.gi=>if m=[40]then .op else .no
 |.li=>if isE m then .to .be else .no
 |.at=>if m=[94]then .to .li else gp m
 |.be=>gp m
 |.po s=>match nxt s m with
  |some s'=>.to (.po s')
  |none=>if m=[44]/\s.opn=false then .to (.fr false 0)else .no
 |.fr h k=>nfR h k m
noncomputable def tsW:TSt->Prop
 |.fr _ k=>k<5
 |_=>True
noncomputable def nxD(s:TSt)(d:Nat):NX->Option TC2
 |.no=>none
 |.op=>if d<10 then some (if s=.gi then .po .p0 else .bg,d+1)else none
 |.cl=>if 0<d then some (.at,d-1)else none
 |.to s'=>some (s',d)
theorem AY(s:TSt)(d:Nat)(m:List Nat)(h:tsW s):tnx (s,d) m=nxD s d (nxR s m):=by
 have atm:∀(s:TSt) (e:NX) (e':Option TC2),s≠.gi->e'=nxD s d e->nAt d m e'=nxD s d (fz m e):=λs e e' hs he=>by
  unfold nAt fz dS;by_cases a1:m=[40]
  ·rw[if_pos a1,if_pos a1];show _=(if d<10 then some (if s=TSt.gi then TSt.po .p0 else TSt.bg,d+1)else none);rw[if_neg hs]
  rw[if_neg a1,if_neg a1];by_cases a2:(isN m ||bu m)=true
  ·rw[if_pos a2,if_pos a2];rfl
  rw[if_neg a2,if_neg a2];by_cases a3:m=wSqrt\/m=wCbrt
  ·have n3:¬m=wRoot:=λz=>by rcases a3 with y |y<;>(rw[y]at z;exact absurd z (by decide))
   rw[if_pos a3,if_pos (a3.elim .inl (λz=>.inr (.inl z))),if_neg n3];rfl
  rw[if_neg a3];by_cases a4:m=wRoot
  ·rw[if_pos a4,if_pos (.inr (.inr a4)),if_pos a4];rfl
  ·rw[if_neg a4,if_neg (λz=>z.elim (λy=>a3 (.inl y)) (λy=>y.elim (λx=>a3 (.inr x)) a4))];exact he
 have edd:∀s:TSt,dX d m=nxD s d (gp m):=λs=>by
  unfold dX gp;by_cases a1:eR m=true
  ·rw[if_pos a1,if_pos a1];rfl
  rw[if_neg a1,if_neg a1];by_cases a2:m=[41]
  ·rw[if_pos a2];show _=if 0<d then _ else _
   by_cases a3:0<d
   ·rw[if_pos ⟨a2,a3⟩,if_pos a3]
   ·rw[if_neg (λz=>a3 z.2),if_neg a3]
  ·rw[if_neg (λz=>a2 z.1),if_neg a2];rfl
 cases s with
 |bg=>exact atm .bg _ _ (by decide) (by by_cases a:m=[45];rw[if_pos a,if_pos a];rfl;rw[if_neg a,if_neg a];rfl)
 |st=>exact atm .st _ _ (by decide) rfl
 |wo =>
  show(if m=[40]then dS d (.bg,d+1)else none)=nxD .wo d (if m=[40]then .op else .no);by_cases a:m=[40]
  ·rw[if_pos a,if_pos a];rfl
  ·rw[if_neg a,if_neg a];rfl
 |gi =>
  show(if m=[40]then dS d (.po .p0,d+1)else none)=nxD .gi d (if m=[40]then .op else .no);by_cases a:m=[40]
  ·rw[if_pos a,if_pos a];rfl
  ·rw[if_neg a,if_neg a];rfl
 |li =>
  show(if isE m then some (TSt.be,d)else none)=nxD .li d (if isE m then .to .be else .no);by_cases a:isE m=true
  ·rw[if_pos a,if_pos a];rfl
  ·rw[if_neg a,if_neg a];rfl
 | «at» =>
  show(if m=[94]then some (TSt.li,d)else dX d m)=nxD .at d (if m=[94]then .to .li else gp m);by_cases a:m=[94]
  ·rw[if_pos a,if_pos a];rfl
  ·rw[if_neg a,if_neg a];exact edd .at
 |be=>exact edd .be
 |po p =>
  show(match nxt p m with |some s'=>some (TSt.po s',d) |none=>if m=[44]/\p.opn=false then some (TSt.fr false 0,d)else none)=nxD (.po p) d (match nxt p m with |some s'=>.to (.po s') |none=>if m=[44]/\p.opn=false then .to (.fr false 0)else .no);cases nxt p m with
  |some s'=>rfl
  |none =>
   by_cases a:m=[44]/\p.opn=false
   ·show(if m=[44]/\p.opn=false then _ else _)=nxD _ d (if m=[44]/\p.opn=false then _ else _);rw[if_pos a,if_pos a];rfl
   ·show(if m=[44]/\p.opn=false then _ else _)=nxD _ d (if m=[44]/\p.opn=false then _ else _);rw[if_neg a,if_neg a];rfl
 |fr b k =>
  have hk:k<5:=h;show nFr b k d m=nxD (.fr b k) d (nfR b k m)
  have endF:∀k:Nat,(if m=[46,46]/\b=false then some (TSt.fr true 0,d)else if m=[41]/\b=true/\0<d then some (TSt.at,d-1)else none)=nxD (.fr b k) d (if m=[46,46]/\b=false then .to (.fr true 0)else if m=[41]/\b=true then .cl else .no):=λk=>by
   by_cases c:m=[46,46]/\b=false
   ·rw[if_pos c,if_pos c];rfl
   rw[if_neg c,if_neg c];by_cases g:m=[41]/\b=true
   ·rw[if_pos g];show _=if 0<d then some (TSt.at,d-1)else none
    by_cases hd:0<d
    ·rw[if_pos ⟨g.1,g.2,hd⟩,if_pos hd]
    ·rw[if_neg (λz=>hd z.2.2),if_neg hd]
   ·rw[if_neg (λz=>g ⟨z.1,z.2.1⟩),if_neg g];rfl
  unfold nFr nfR;have:k=0\/k=1\/k=2\/k=3\/k=4:=by omega
  rcases this with rfl |rfl |rfl |rfl |rfl
  ·show(if m=[45]then some (TSt.fr b 1,d)else if isN m=true then some (TSt.fr b 2,d)else none)=nxD (.fr b 0) d (if m=[45]/\(0:Nat)=0 then .to (.fr b 1)else if isN m=true then .to (.fr b 2)else .no);by_cases a:m=[45]
   ·rw[if_pos a,if_pos (show m=[45]/\(0:Nat)=0 from⟨a,rfl⟩)];rfl
   ·rw[if_neg a,if_neg (show ¬(m=[45]/\(0:Nat)=0)fromλz=>a z.1)];by_cases c:isN m=true
    ·rw[if_pos c,if_pos c];rfl
    ·rw[if_neg c,if_neg c];rfl
  ·show(if isN m=true then some (TSt.fr b 2,d)else none)=nxD (.fr b 1) d (if m=[45]/\(1:Nat)=0 then .to (.fr b 1)else if isN m=true then .to (.fr b 2)else .no);rw[if_neg (show ¬(m=[45]/\(1:Nat)=0)fromλz=>by cases z.2)];by_cases c:isN m=true
   ·rw[if_pos c,if_pos c];rfl
   ·rw[if_neg c,if_neg c];rfl
  ·show(if m=[47]/\(2:Nat)=2 then some (TSt.fr b 3,d)else if m=[46,46]/\b=false then some (TSt.fr true 0,d)else if m=[41]/\b=true/\0<d then some (TSt.at,d-1)else none)=nxD (.fr b 2) d (if m=[47]/\(2:Nat)=2 then .to (.fr b 3)else if m=[46,46]/\b=false then .to (.fr true 0)else if m=[41]/\b=true then .cl else .no);by_cases a:m=[47]/\(2:Nat)=2
   ·rw[if_pos a,if_pos a];rfl
   ·rw[if_neg a,if_neg a];exact endF 2
  ·show(if isN m=true/\m≠[48]then some (TSt.fr b 4,d)else none)=nxD (.fr b 3) d (if isN m=true/\m≠[48]then .to (.fr b 4)else .no);by_cases c:isN m=true/\m≠[48]
   ·rw[if_pos c,if_pos c];rfl
   ·rw[if_neg c,if_neg c];rfl
  ·show(if m=[47]/\(4:Nat)=2 then some (TSt.fr b 3,d)else if m=[46,46]/\b=false then some (TSt.fr true 0,d)else if m=[41]/\b=true/\0<d then some (TSt.at,d-1)else none)=nxD (.fr b 4) d (if m=[47]/\(4:Nat)=2 then .to (.fr b 3)else if m=[46,46]/\b=false then .to (.fr true 0)else if m=[41]/\b=true then .cl else .no);have a:¬(m=[47]/\(4:Nat)=2):=λz=>by cases z.2
   rw[if_neg a,if_neg a];exact endF 4
noncomputable def bas:TSt->Bool
 |.po _=>false |.fr _ _=>false |_=>true
theorem HI{s:TSt}(h:bas s=true):inV (.str (tsS s)) [.str (Str.ofString "begin"),.str (Str.ofString "start")]=(decide (s=.bg) ||decide (s=.st)):=by
 cases s with
 |po p=>cases h
 |fr b k=>cases h
 |_=>decide +kernel
theorem HD{s:TSt}(h:bas s=true):inV (.str (tsS s)) [.str (Str.ofString "word"),.str (Str.ofString "given")]=(decide (s=.wo) ||decide (s=.gi)):=by
 cases s with
 |po p=>cases h
 |fr b k=>cases h
 |_=>decide +kernel
theorem tw{s s':TSt}(h:bas s=true)(h':bas s'=true):(V.str (tsS s)=V.str (tsS s'))↔s=s':=by
 constructor
 ·intro e;have e2:=V.str.inj e;revert e2;cases s with
  |po p=>cases h
  |fr b k=>cases h
  |_ =>
   cases s' with
   |po p=>cases h'
   |fr b k=>cases h'
   |_=>first | (intro _;rfl) | (intro e;exact absurd e (by decide +kernel))
 ·intro e;rw[e]
theorem AU{s:TSt}(h:bas s=true):∃c,atI (tsS s).cps.toList 0=some c/\c≠112/\(tsS s).length≠2/\(tsS s).length<=10:=by
 cases s with
 |po p=>cases h
 |fr b k=>cases h
 |bg=>exact⟨98,by decide +kernel⟩
 |st=>exact⟨115,by decide +kernel⟩
 |wo=>exact⟨119,by decide +kernel⟩
 |gi=>exact⟨103,by decide +kernel⟩
 |li=>exact⟨108,by decide +kernel⟩
 | «at»=>exact⟨97,by decide +kernel⟩
 |be=>exact⟨98,by decide +kernel⟩
theorem Db(p:PSt):atI (psS p).cps.toList 0=some 112/\(psS p).length<=10:=by cases p<;>decide +kernel
theorem GH:Str.ofString "l0"=tsS (.fr false 0):=by decide +kernel
theorem GD:([V.str (Str.ofString "sqrt"),V.str (Str.ofString "cbrt"),V.str (Str.ofString "root")]:List V)=[wSqrt,wCbrt,wRoot].map λx=>V.str (stL x):=by rw[nj,nu,pU];rfl
theorem GG:([V.str (Str.ofString "number"),V.str (Str.ofString "name")]:List V)=[iK,iL].map λx=>V.str (stL x):=by rw[pV,sO];rfl
theorem GF:([V.str (Str.ofString "+"),V.str (Str.ofString "-"),V.str (Str.ofString "*"),V.str (Str.ofString "/")]:List V)=[[43],[45],[42],[47]].map λx=>V.str (stL x):=by rw[lL,gt,dF,gS];rfl
def qZ:Sp:=λvs H Q _=>∃(s:TSt) (m:List Nat),vs=[.str (tsS s),.str (stL m)]/\tsW s/\WfM m/\m.length<=1000/\∀H',Same H H'->Q (.str (nxR s m).str) H'
theorem Em{f:Addr}{fd:FuncData}(F:Fun K "_law_next" "_law_next" kC f fd)(T:Txt K mg){JC:Addr}{IW:FuncData}(MB:Cal P w K mg base 2 "_law_next_in_poly" ["_law_state","_law_mark_here"] q5 JC IW){JD:Addr}{IX:FuncData}(MC:Cal P w K mg base 2 "_law_next_in_fraction" ["_law_state","_law_mark_here"] q9 JD IX){ou:Addr}{n8:FuncData}(oW:Cal P w K mg base 1 "_law_kind" ["_law_mark_here"] mI ou n8){t8:Addr}{tO:FuncData}(vg:Cal P w K mg base 1 "_law_small" ["_law_mark_here"] pb t8 tO):FnOk P w K mg base CX0 3 f fd ["_law_state","_law_mark_here"] qZ:=by
 obtain⟨LQ,Gf,G9,Kz⟩:=MB;obtain⟨LR,Gg,Ha,KA⟩:=MC;obtain⟨oR,mZ,nD,oK⟩:=oW;obtain⟨uZ,sL,tu,uK⟩:=vg;refine F.ok sc__law_next (λvs H Q E h=>?_) (λcdv A outer s H vs Q E hr h=>?_)
 ·obtain⟨s,m,rfl,_⟩:=h;rfl
 ·obtain⟨st,m,rfl,hw,hm,hl,kk⟩:=h;have big:=sizeLine_eq
  refine⟨_,(ah (ar (ao aK (aA bJ (pv 0) af (λ_ _=>rfl)) ad (ap _))
   (ae (ai (aw LQ (hr.mono) rfl Gf G9 Kz .nil am (aa (pv 0) (aa (pv 1) ac)))))
   ay)
   (ah (ar (ao bM (aP dL (by rfl) T.len_ PySem.boot_len (aa (pv 0) ac)) af (ap _))
     (ae (ai (aw LR (hr.mono) rfl Gg Ha KA .nil am (aa (pv 0) (aa (pv 1) ac)))))
     ay)
   (ah (aF (i:=2) sc__law_next.nd rfl (Or.inl rfl) (aw oR (hr.mono) rfl mZ nD oK .nil am (aa (pv 1) ac)))
   (ah (ar (ao (bG (K:=K) rfl) (pv 0) (bq (aa ad (aa ad ac))) (by rfl))
     (ah (ar (ao aK (pv 2) ad (ap _))
       (ae (ai ad))
       ay)
       (ah (ar (ao (bG (K:=K) rfl) (pv 2) (bq (aa ad (aa ad ac))) (by rfl))
         (ae (ai ad))
         ay)
       (ah (ar (ao (bG (K:=K) rfl) (pv 2) (bq (aa ad (aa ad (aa ad ac)))) (by rfl))
         (ae (ai (aA (aH (K:=K) rfl) (aO (aa ad (aa ad ac))) (bn ci (by rfl) T.int_ PyProof.Rows.boot_int (aa (bf aK (pv 2) ad (ap _)) ac)) (λ_ _=>rfl))))
         ay)
       (ae (ai (aA (aH (K:=K) rfl) (aO (aa ad (aa ad ac))) (bn ci (by rfl) T.int_ PyProof.Rows.boot_int (aa (cu (bf aK (pv 2) ad (ap _)) (bT (bf aK (pv 0) ad (ap _)))) ac)) (λ_ _=>rfl)))))))
     ay)
   (ah (ar (ao (bG (K:=K) rfl) (pv 0) (bq (aa ad (aa ad ac))) (by rfl))
     (ae (ai (aA (aH (K:=K) rfl) (aO (aa ad (aa ad ac))) (bn ci (by rfl) T.int_ PyProof.Rows.boot_int (aa (bf aK (pv 2) ad (ap _)) ac)) (λ_ _=>rfl))))
     ay)
   (ah (ar (ao aK (pv 0) ad (ap _))
     (ae (ai (aA (aH (K:=K) rfl) (aO (aa ad (aa ad ac))) (bn ci (by rfl) T.int_ PyProof.Rows.boot_int (aa (aw uZ (hr.mono) rfl sL tu uK .nil am (aa (pv 1) ac)) ac)) (λ_ _=>rfl))))
     ay)
   (ah (ar (PW.pt (bR (ao aK (pv 2) ad (ap _)) (cr (ao aK (pv 0) ad (ap _)))))
     (ae (ai ad))
     ay)
   (ah (ar (ao (bG (K:=K) rfl) (pv 2) (bq (aa ad (aa ad (aa ad (aa ad ac))))) (by rfl))
     (ae (ai ad))
     ay)
   (ae (ai (aA (aH (K:=K) rfl) (aO (aa ad (aa ad ac))) (bn ci (by rfl) T.int_ PyProof.Rows.boot_int (aa (bf aK (pv 2) ad (ap _)) ac)) (λ_ _=>rfl)))))))))))),?_⟩
  by_cases hp:∃p,st=.po p
  ·obtain⟨p,rfl⟩:=hp;obtain⟨a1,a2⟩:=Db p;refine aD ⟨_,rfl,_,_,112,rfl,rfl,by show(psS p).length<=sizeLine;omega,a1,rfl,_,rfl,aC (λ_=>?_) (λz=>absurd ((dJ c_p).mpr rfl) z)⟩;refine au ⟨_,rfl,_,rfl,p,m,rfl,hm,hl,λs' H' s1 hn=>?_,λH' s1 hn ho=>?_,λH' s1 hn h44 ho=>?_⟩
   ·have:=kk H' s1;unfold nxR at this
    simp only[hn]at this;exact this
   ·have:=kk H' s1;unfold nxR at this
    simp only[hn]at this;rw[if_neg (λz=>by rcases ho with y |y;exact y z.1;rw[y]at z;cases z.2)]at this;exact this
   ·have:=kk H' s1;unfold nxR at this
    simp only[hn]at this;rw[if_pos (show m=[44]/\p.opn=false from⟨h44,ho⟩)]at this;rw[GH];exact this
  by_cases hf:∃b k,st=.fr b k
  ·obtain⟨b,k,rfl⟩:=hf;have z2:(stL [hc b,48+k]).length<=sizeLine:=by rw[ak];show 2<=sizeLine;decide
   refine aD ⟨_,rfl,_,_,hc b,rfl,rfl,z2,rfl,rfl,_,rfl,aC (λz=>absurd ((dJ c_p).mp z) (by cases b<;>decide)) (λ_=>?_)⟩;refine aD ⟨_,rfl,_,rfl,z2,_,_,rfl,rfl,_,rfl,aC (λ_=>?_) (λz=>absurd (by show((stL [hc b,48+k]).length:Int)=2;rw[ak];rfl) z)⟩;exact au ⟨_,rfl,_,rfl,b,k,m,rfl,hw,hm,hl,kk⟩
  have hb:bas st=true:=by
   cases st with
   |po p=>exact absurd ⟨p,rfl⟩ hp
   |fr b k=>exact absurd ⟨b,k,rfl⟩ hf
   |_=>rfl
  obtain⟨c,a1,a2,a3,a4⟩:=AU hb;refine aD ⟨_,rfl,_,_,c,rfl,rfl,by show(tsS st).length<=sizeLine;omega,a1,rfl,_,rfl,aC (λz=>absurd ((dJ c_p).mp z) a2) (λ_=>?_)⟩;refine aD ⟨_,rfl,_,rfl,by show(tsS st).length<=sizeLine;omega,_,_,rfl,rfl,_,rfl,aC (λz=>absurd (by have:((tsS st).length:Int)=2:=z;omega) a3) (λ_=>?_)⟩;refine aN ⟨_,rfl,m,rfl,hm,hl,λkd H1 s1 hk=>?_⟩;have e:=ym hk;show bH _ _ _ _ _;refine cU (λσ' H'=>σ'=[some (.str (tsS st)),some (.str (stL m)),some (.str (stL kd))]/\Same H H') ⟨rfl,s1⟩ ?_;clear s1 H1;rintro σ' H1 ⟨rfl,s1⟩;refine aD ⟨_,rfl,by show 2<=sizeLine;decide,λpt hpt=>?_⟩;have u2:=s1.then_new (o:=.tup [V.str (Str.ofString "begin"),V.str (Str.ofString "start")]) hpt;refine⟨pt,_,rfl,.inr (SqT.of aj),rfl,by decide,_,rfl,?_⟩;generalize upd H1 pt (.tup [V.str (Str.ofString "begin"),V.str (Str.ofString "start")])=H2 at u2 ⊢
  show if inV (.str (tsS st)) [.str (Str.ofString "begin"),.str (Str.ofString "start")]=true then _ else _
  rw[HI hb];clear s1 hpt;by_cases hbs:st=.bg\/st=.st
  ·rw[show(decide (st=.bg) ||decide (st=.st))=true by rcases hbs with z |z<;>simp[z]];refine aJ ?_
   have kk':∀H',Same H H'->Q (.str (fz m (if m=[45]/\st=.bg then .to .st else .no)).str) H':=λH' s'=>by
    have:=kk H' s';rcases hbs with rfl |rfl
    ·unfold nxR at this
     simp only at this
     rw[show(if m=[45]/\TSt.bg=TSt.bg then NX.to .st else .no)=(if m=[45]then NX.to .st else .no) by simp];exact this
    ·unfold nxR at this
     simp only at this
     rw[if_neg (λz=>by cases z.2)];exact this
   refine aD ⟨_,rfl,rfl,_,rfl,aC (λz=>?_) (λz=>?_)⟩
   ·have:=kk' H2 u2;unfold fz at this
    rw[if_pos (e.op.mp z)]at this;exact au this
   have h40:¬m=[40]:=λy=>z (e.op.mpr y)
   refine aD ⟨_,rfl,by show 2<=sizeLine;decide,λpt hpt=>?_⟩;have u3:=u2.then_new (o:=.tup [V.str (Str.ofString "number"),V.str (Str.ofString "name")]) hpt;refine⟨pt,_,rfl,.inr (SqT.of aj),rfl,by decide,_,rfl,?_⟩;generalize upd H2 pt (.tup [V.str (Str.ofString "number"),V.str (Str.ofString "name")])=H3 at u3 ⊢
   show if inV (.str (stL kd)) [.str (Str.ofString "number"),.str (Str.ofString "name")]=true then _ else _
   rw[GG,lR,e.nn];by_cases hn:(isN m ||bu m)=true
   ·rw[hn];refine aJ (au ?_);have:=kk' H3 u3;unfold fz at this
    rw[if_neg h40,if_pos hn]at this;exact this
   rw[show(isN m ||bu m)=false by simpa using hn];refine aI ?_;refine aD ⟨_,rfl,by show 3<=sizeLine;decide,λpt2 hpt2=>?_⟩;have u4:=u3.then_new (o:=.tup [V.str (Str.ofString "sqrt"),V.str (Str.ofString "cbrt"),V.str (Str.ofString "root")]) hpt2;refine⟨pt2,_,rfl,.inr (SqT.of aj),rfl,by decide,_,rfl,?_⟩;generalize upd H3 pt2 (.tup [V.str (Str.ofString "sqrt"),V.str (Str.ofString "cbrt"),V.str (Str.ofString "root")])=H4 at u4 ⊢
   show if inV (.str (stL kd)) [.str (Str.ofString "sqrt"),.str (Str.ofString "cbrt"),.str (Str.ofString "root")]=true then _ else _
   rw[GD,lR,e.wd];refine aC (λhw3=>?_) (λhw3=>?_)
   ·refine au ⟨by show 2<=sizeLine;decide,λp2 hp2=>?_⟩;have:=kk' _ (u4.then_new (o:=.lst [V.str (Str.ofString "word"),V.str (Str.ofString "given")]) hp2);unfold fz at this
    rw[if_neg h40,if_neg hn,if_pos hw3]at this;refine⟨_,rfl,rfl,.inr ⟨_,rfl,p2,_,_,_,rfl,rfl,SqL.of aj,cQ _ _ _,?_⟩⟩;by_cases hr5:m=wRoot
    ·rw[decide_eq_true (e.rt.mpr hr5)];rw[if_pos hr5]at this;exact this
    ·rw[decide_eq_false (λy=>hr5 (e.rt.mp y))];rw[if_neg hr5]at this;exact this
   ·refine au ⟨by show 2<=sizeLine;decide,λp2 hp2=>?_⟩;have:=kk' _ (u4.then_new (o:=.lst [V.str (Str.ofString ""),V.str (Str.ofString "start")]) hp2);unfold fz at this
    rw[if_neg h40,if_neg hn,if_neg hw3]at this;refine cq ⟨_,rfl,rfl,_,rfl,aC (λz=>?_) (λz=>?_)⟩
    ·refine⟨_,rfl,rfl,.inr ⟨_,rfl,p2,_,_,_,rfl,rfl,SqL.of aj,cQ _ _ _,?_⟩⟩;by_cases hg:st=.bg
     ·rw[decide_eq_true (show V.str (tsS st)=V.str (Str.ofString "begin") by rw[hg];rfl)];rw[if_pos ⟨e.min.mp z,hg⟩]at this;exact this
     ·rw[decide_eq_false (p:=V.str (tsS st)=V.str (Str.ofString "begin")) (λy=>hg ((tw hb (s':=.bg) rfl).mp y))];rw[if_neg (λy=>hg y.2)]at this;exact this
    ·refine .inr ⟨_,rfl,p2,_,_,_,rfl,rfl,SqL.of aj,cQ _ _ _,?_⟩;rw[if_neg (λy=>z (e.min.mpr y.1))]at this;exact this
  have nbg:st≠.bg:=λz=>hbs (.inl z)
  have nst:st≠.st:=λz=>hbs (.inr z)
  rw[show(decide (st=.bg) ||decide (st=.st))=false by rw[decide_eq_false nbg,decide_eq_false nst];rfl];refine aI ?_;refine aD ⟨_,rfl,by show 2<=sizeLine;decide,λpt hpt=>?_⟩;have u3:=u2.then_new (o:=.tup [V.str (Str.ofString "word"),V.str (Str.ofString "given")]) hpt;refine⟨pt,_,rfl,.inr (SqT.of aj),rfl,by decide,_,rfl,?_⟩;generalize upd H2 pt (.tup [V.str (Str.ofString "word"),V.str (Str.ofString "given")])=H3 at u3 ⊢
  show if inV (.str (tsS st)) [.str (Str.ofString "word"),.str (Str.ofString "given")]=true then _ else _
  rw[HD hb];by_cases hwg:st=.wo\/st=.gi
  ·rw[show(decide (st=.wo) ||decide (st=.gi))=true by rcases hwg with z |z<;>simp[z]];refine aJ (au ⟨by show 2<=sizeLine;decide,λp2 hp2=>?_⟩);have:=kk _ (u3.then_new (o:=.lst [V.str (Str.ofString ""),V.str (Str.ofString "open")]) hp2);have er:nxR st m=if m=[40]then .op else .no:=by rcases hwg with rfl |rfl<;>rfl
   rw[er]at this;refine⟨_,rfl,rfl,.inr ⟨_,rfl,p2,_,_,_,rfl,rfl,SqL.of aj,cQ _ _ _,?_⟩⟩;by_cases h40:m=[40]
   ·rw[decide_eq_true (e.op.mpr h40)];rw[if_pos h40]at this;exact this
   ·rw[decide_eq_false (λy=>h40 (e.op.mp y))];rw[if_neg h40]at this;exact this
  have nwo:st≠.wo:=λz=>hwg (.inl z)
  have ngi:st≠.gi:=λz=>hwg (.inr z)
  rw[show(decide (st=.wo) ||decide (st=.gi))=false by rw[decide_eq_false nwo,decide_eq_false ngi];rfl];refine aI ?_;refine aD ⟨_,rfl,rfl,_,rfl,aC (λz=>?_) (λz=>?_)⟩
  ·obtain rfl:st=.li:=(tw hb (s':=.li) rfl).mp z;refine au ⟨by show 2<=sizeLine;decide,λp2 hp2=>?_⟩;have:=kk _ (u3.then_new (o:=.lst [V.str (Str.ofString ""),V.str (Str.ofString "behind")]) hp2);have er:nxR .li m=if isE m then .to .be else .no:=rfl
   rw[er]at this;refine⟨_,rfl,m,rfl,hl,.inr ⟨_,rfl,p2,_,_,_,rfl,rfl,SqL.of aj,cQ _ _ _,?_⟩⟩;cases hE:isE m with
   |true =>rw[hE,if_pos rfl]at this;exact this
   |false =>rw[hE,if_neg (by decide)]at this;exact this
  have nli:st≠.li:=λy=>z (by rw[y];rfl)
  have hab:st=.at\/st=.be:=by
   cases st with
   |po p=>cases hb
   |fr b k=>cases hb
   |bg=>exact absurd rfl nbg
   |st=>exact absurd rfl nst
   |wo=>exact absurd rfl nwo
   |gi=>exact absurd rfl ngi
   |li=>exact absurd rfl nli
   | «at»=>exact .inl rfl
   |be=>exact .inr rfl
  refine cA (λσ' H'=>σ'=[some (.str (tsS st)),some (.str (stL m)),some (.str (stL kd))]/\H3=H'/\¬(m=[94]/\st=.at)) ?_ (λrest=>bQ ⟨_,rfl,rfl,_,rfl,aC (λzz=>⟨_,rfl,rfl,_,rfl,aC (λy=>?_) (λy=>?_)⟩) (λzz=>?_)⟩)
  rotate_left
  ·obtain rfl:st=.at:=(tw hb (s':=.at) rfl).mp y;have:=kk H3 u3;rw[show nxR .at m=if m=[94]then .to .li else gp m from rfl,if_pos (e.ht.mp zz)]at this;exact au this
  ·exact rest _ _ ⟨rfl,rfl,λx=>y (by rw[x.2];rfl)⟩
  ·exact rest _ _ ⟨rfl,rfl,λx=>zz (e.ht.mpr x.1)⟩
  rintro σ' H' ⟨rfl,rfl,hn94⟩
  have er:nxR st m=gp m:=by
   rcases hab with rfl |rfl
   ·show(if m=[94]then _ else _)=_;rw[if_neg (λx=>hn94 ⟨x,rfl⟩)]
   ·rfl
  rw[er]at kk;refine aD ⟨_,rfl,by show 4<=sizeLine;decide,λpt2 hpt2=>?_⟩;have u4:=u3.then_new (o:=.tup [V.str (Str.ofString "+"),V.str (Str.ofString "-"),V.str (Str.ofString "*"),V.str (Str.ofString "/")]) hpt2;refine⟨pt2,_,rfl,.inr (SqT.of aj),rfl,by decide,_,rfl,?_⟩;generalize upd H3 pt2 (.tup [V.str (Str.ofString "+"),V.str (Str.ofString "-"),V.str (Str.ofString "*"),V.str (Str.ofString "/")])=H4 at u4 ⊢
  show if inV (.str (stL kd)) [.str (Str.ofString "+"),.str (Str.ofString "-"),.str (Str.ofString "*"),.str (Str.ofString "/")]=true then _ else _
  rw[GF,lR,e.ops];unfold gp at kk
  cases ho:eR m with
  |true =>refine aJ (au ?_);have:=kk H4 u4;rw[ho,if_pos rfl]at this;exact this
  |false =>
   refine aI (au ⟨by show 2<=sizeLine;decide,λp2 hp2=>?_⟩);have:=kk _ (u4.then_new (o:=.lst [V.str (Str.ofString ""),V.str (Str.ofString "close")]) hp2);rw[ho,if_neg (by decide)]at this;refine⟨_,rfl,rfl,.inr ⟨_,rfl,p2,_,_,_,rfl,rfl,SqL.of aj,cQ _ _ _,?_⟩⟩;by_cases h41:m=[41]
   ·rw[decide_eq_true (e.cl.mpr h41)];rw[if_pos h41]at this;exact this
   ·rw[decide_eq_false (λy=>h41 (e.cl.mp y))];rw[if_neg h41]at this;exact this
theorem b60:Bits 200 (10^60):=by show((10:Int)^60).natAbs<2^200;decide +kernel
theorem b30:Bits 100 (10^30):=by show((10:Int)^30).natAbs<2^100;decide +kernel
theorem hV{xs:List V}{n:Int}(hn:n=xs.length)(h:0<n)(c:Int):∃v,v∈xs/\atI xs (c%n)=some v:=by
 have h1:=NL c (Int.ne_of_gt h);have h2:=NP c h;obtain⟨j,hj⟩:=Int.eq_ofNat_of_zero_le h1;have hl:j<xs.length:=by omega
 refine⟨xs[j],List.getElem_mem hl,?_⟩;rw[hj];exact jD (by simp[hl])
def MkT(z:Str):Prop:=WfM z.cps.toList/\z.cps.toList.length<=12
instance:DecidablePred MkT:=λz=>inferInstanceAs (Decidable (_/\_))
theorem lF(z:Str):stL z.cps.toList=z:=by cases z;simp[stL]
theorem xC(n:Nat)(h:n<10^9):MkT (stL (al n)):=by refine⟨by rw[fk];exact vh n,?_⟩;rw[fk];have:=(mT 8 n h).1;omega
theorem ba{b:Bool}{A B:Prop}(hA:A)(hB:B):if b=true then A else B:=by
 cases b
 ·rw[if_neg (by decide)];exact hB
 ·rw[if_pos rfl];exact hA
theorem cL{X:Cx}{s:Stmt}{t:TS}{rest:List Stmt}{u:TS}(h:PS X s t)(hr:PSz X rest u):PSz X (s::rest) (bH t u):=⟨ah h hr.h⟩
def q8:Sp:=λvs H Q _=>∃s:Str,vs=[.str s]/\∀z H',Same H H'->MkT z->Q (.str z) H'
theorem Ft:MkT (Str.ofString "0")/\MkT (Str.ofString "9")/\MkT (Str.ofString "007")/\MkT (Str.ofString "x")/\MkT (Str.ofString "-"):=by decide +kernel
def ia(z:Str):Prop:=MkT z/\z.cps.toList.length<=2
instance:DecidablePred ia:=λz=>inferInstanceAs (Decidable (_/\_))
theorem Fu:ia (Str.ofString "x")/\ia (Str.ofString ",")/\ia (Str.ofString "..")/\ia (Str.ofString ")")/\ia (Str.ofString "(")/\ia (Str.ofString "1"):=by decide +kernel
theorem En{f:Addr}{fd:FuncData}(F:Fun K "_law_near" "_law_near" kD f fd)(T:Txt K mg):FnOk P w K mg base CX0 1 f fd ["_law_state"] q8:=by
 refine F.ok BZ (λvs H Q E h=>?_) (λcdv A outer s H vs Q E hr h=>?_)
 ·obtain⟨s,rfl,_⟩:=h;rfl
 ·obtain⟨s,rfl,kk⟩:=h;obtain⟨m1,m2,m3,m4,m5⟩:=Ft
  refine⟨_,(ah (ar (ao (bG (K:=K) rfl) (pv 0) (bq (aa ad (aa ad ac))) (by rfl))
   (ae (ai ad))
   ay)
   (ah (ar (ao (bG (K:=K) rfl) (pv 0) (bq (aa ad (aa ad ac))) (by rfl))
     (ae (ai ad))
     ay)
   (ah (ar (ao (bG (K:=K) rfl) (pv 0) (bq (aa ad (aa ad (aa ad (aa ad ac))))) (by rfl))
     (ae (ai ad))
     ay)
   (ah (ar (ao aK (pv 0) ad (ap _))
     (ae (ai ad))
     ay)
   (ae (ai ad)))))),?_⟩
  refine aD ⟨_,rfl,by show 2<=sizeLine;decide,λpt hpt=>⟨pt,_,rfl,.inr (SqT.of aj),rfl,by decide,_,rfl,ba (au (kk _ _ (Same.upd_new hpt) m1)) ?_⟩⟩;have u1:=Same.upd_new (o:=.tup [V.str (Str.ofString "l3"),V.str (Str.ofString "h3")]) hpt;generalize upd H pt (.tup [V.str (Str.ofString "l3"),V.str (Str.ofString "h3")])=H1 at u1 ⊢
  clear hpt;refine aD ⟨_,rfl,by show 2<=sizeLine;decide,λpt hpt=>⟨pt,_,rfl,.inr (SqT.of aj),rfl,by decide,_,rfl,ba (au (kk _ _ (u1.then_new hpt) m2)) ?_⟩⟩;have u2:=u1.then_new (o:=.tup [V.str (Str.ofString "lift"),V.str (Str.ofString "pe")]) hpt;generalize upd H1 pt (.tup [V.str (Str.ofString "lift"),V.str (Str.ofString "pe")])=H2 at u2 ⊢
  clear hpt;refine aD ⟨_,rfl,by show 4<=sizeLine;decide,λpt hpt=>⟨pt,_,rfl,.inr (SqT.of aj),rfl,by decide,_,rfl,ba (au (kk _ _ (u2.then_new hpt) m3)) ?_⟩⟩;have u3:=u2.then_new (o:=.tup [V.str (Str.ofString "begin"),V.str (Str.ofString "p1"),V.str (Str.ofString "l0"),V.str (Str.ofString "h0")]) hpt;generalize upd H2 pt (.tup [V.str (Str.ofString "begin"),V.str (Str.ofString "p1"),V.str (Str.ofString "l0"),V.str (Str.ofString "h0")])=H3 at u3 ⊢
  clear hpt;refine aD ⟨_,rfl,rfl,_,rfl,ba (au (kk _ _ u3 m4)) ?_⟩;exact au (kk _ _ u3 m5)
def rg:Sp:=λvs H Q _=>∃s:Str,vs=[.str s]/\∀z H',Same H H'->ia z->Q (.str z) H'
theorem Ep{f:Addr}{fd:FuncData}(F:Fun K "_law_last" "_law_last" kF f fd)(T:Txt K mg):FnOk P w K mg base CX0 1 f fd ["_law_state"] rg:=by
 refine F.ok B0 (λvs H Q E h=>?_) (λcdv A outer s H vs Q E hr h=>?_)
 ·obtain⟨s,rfl,_⟩:=h;rfl
 ·obtain⟨s,rfl,kk⟩:=h;obtain⟨m1,m2,m3,m4,m5,m6⟩:=Fu
  refine⟨_,(ah (ar (ao (bG (K:=K) rfl) (pv 0) (bq (aa ad (aa ad (aa ad ac)))) (by rfl))
   (ae (ai ad))
   ay)
   (ah (ar (ao (bG (K:=K) rfl) (pv 0) (bq (aa ad (aa ad (aa ad ac)))) (by rfl))
     (ae (ai ad))
     ay)
   (ah (ar (ao (bG (K:=K) rfl) (pv 0) (bq (aa ad (aa ad ac))) (by rfl))
     (ae (ai ad))
     ay)
   (ah (ar (ao (bG (K:=K) rfl) (pv 0) (bq (aa ad (aa ad (aa ad (aa ad ac))))) (by rfl))
     (ae (ai ad))
     ay)
   (ah (ar (ao (bG (K:=K) rfl) (pv 0) (bq (aa ad (aa ad ac))) (by rfl))
     (ae (ai ad))
     ay)
   (ae (ai ad))))))),?_⟩
  refine aD ⟨_,rfl,by show 3<=sizeLine;decide,λpt hpt=>⟨pt,_,rfl,.inr (SqT.of aj),rfl,by decide,_,rfl,ba (au (kk _ _ (Same.upd_new hpt) m1)) ?_⟩⟩;have u1:=Same.upd_new (o:=.tup [V.str (Str.ofString "p0"),V.str (Str.ofString "p1"),V.str (Str.ofString "pm")]) hpt;generalize upd H pt (.tup [V.str (Str.ofString "p0"),V.str (Str.ofString "p1"),V.str (Str.ofString "pm")])=H1 at u1 ⊢
  clear hpt;refine aD ⟨_,rfl,by show 3<=sizeLine;decide,λpt hpt=>⟨pt,_,rfl,.inr (SqT.of aj),rfl,by decide,_,rfl,ba (au (kk _ _ (u1.then_new hpt) m2)) ?_⟩⟩;have u2:=u1.then_new (o:=.tup [V.str (Str.ofString "pn"),V.str (Str.ofString "px"),V.str (Str.ofString "pd")]) hpt;generalize upd H1 pt (.tup [V.str (Str.ofString "pn"),V.str (Str.ofString "px"),V.str (Str.ofString "pd")])=H2 at u2 ⊢
  clear hpt;refine aD ⟨_,rfl,by show 2<=sizeLine;decide,λpt hpt=>⟨pt,_,rfl,.inr (SqT.of aj),rfl,by decide,_,rfl,ba (au (kk _ _ (u2.then_new hpt) m3)) ?_⟩⟩;have u3:=u2.then_new (o:=.tup [V.str (Str.ofString "l2"),V.str (Str.ofString "l4")]) hpt;generalize upd H2 pt (.tup [V.str (Str.ofString "l2"),V.str (Str.ofString "l4")])=H3 at u3 ⊢
  clear hpt;refine aD ⟨_,rfl,by show 4<=sizeLine;decide,λpt hpt=>⟨pt,_,rfl,.inr (SqT.of aj),rfl,by decide,_,rfl,ba (au (kk _ _ (u3.then_new hpt) m4)) ?_⟩⟩;have u4:=u3.then_new (o:=.tup [V.str (Str.ofString "h2"),V.str (Str.ofString "h4"),V.str (Str.ofString "atom"),V.str (Str.ofString "behind")]) hpt;generalize upd H3 pt (.tup [V.str (Str.ofString "h2"),V.str (Str.ofString "h4"),V.str (Str.ofString "atom"),V.str (Str.ofString "behind")])=H4 at u4 ⊢
  clear hpt;refine aD ⟨_,rfl,by show 2<=sizeLine;decide,λpt hpt=>⟨pt,_,rfl,.inr (SqT.of aj),rfl,by decide,_,rfl,ba (au (kk _ _ (u4.then_new hpt) m5)) ?_⟩⟩;have u5:=u4.then_new (o:=.tup [V.str (Str.ofString "word"),V.str (Str.ofString "given")]) hpt;generalize upd H4 pt (.tup [V.str (Str.ofString "word"),V.str (Str.ofString "given")])=H5 at u5 ⊢
  clear hpt;exact au (kk _ _ u5 m6)
theorem Fy:∀z∈[Str.ofString "+",Str.ofString "-",Str.ofString "*",Str.ofString "/",Str.ofString "^",Str.ofString "(",Str.ofString ")",Str.ofString ",",Str.ofString "..",Str.ofString "sqrt",Str.ofString "cbrt",Str.ofString "root",Str.ofString "x",Str.ofString "0",Str.ofString "1",Str.ofString "2",Str.ofString "8",Str.ofString "9",Str.ofString "10"],MkT z:=by decide +kernel
theorem Fx:∀z∈[Str.ofString "120",Str.ofString "007",Str.ofString "a",Str.ofString "b",Str.ofString "xx",Str.ofString "abcdefgh",Str.ofString "abcdefghi",Str.ofString "sqrtx",Str.ofString ".",Str.ofString "A",Str.ofString "$",Str.ofString "\n",Str.ofString "_",Str.ofString "="],MkT z:=by decide +kernel
theorem Fn:∀z∈[Str.ofString "007",Str.ofString "00",Str.ofString "08",Str.ofString "9",Str.ofString "12",Str.ofString "abcdefghi",Str.ofString "0",Str.ofString "roots"],MkT z:=by decide +kernel
theorem Fp:∀z∈[Str.ofString "+",Str.ofString "-",Str.ofString "*",Str.ofString "/",Str.ofString "^",Str.ofString "(",Str.ofString ")",Str.ofString ",",Str.ofString "..",Str.ofString "sqrt",Str.ofString "cbrt",Str.ofString "root",Str.ofString "x",Str.ofString ".",Str.ofString "A"],MkT z:=by decide +kernel
theorem Fo:∀z∈[Str.ofString "abcdefgh",Str.ofString "sqrtx",Str.ofString "$",Str.ofString "\n",Str.ofString "xx",Str.ofString "8",Str.ofString "_",Str.ofString "="],MkT z:=by decide +kernel
def rq:Sp:=λvs H Q _=>∃c:Int,vs=[.int c]/\∀z H',Same H H'->MkT z->Q (.str z) H'
theorem Ev{f:Addr}{fd:FuncData}(F:Fun K "_law_any" "_law_any" kK f fd)(T:Txt K mg):FnOk P w K mg base CX0 1 f fd ["_law_cell_here"] rq:=by
 refine F.okZ sc__law_any (λvs H Q E h=>?_) (λcdv A outer s H vs Q E hr h=>?_)
 ·obtain⟨c,rfl,_⟩:=h;rfl
 ·obtain⟨c,rfl,kk⟩:=h;have big:=sizeLine_eq;refine⟨_,(wx (i:=1) sc__law_any.nd rfl (Or.inl rfl) (.cons (.cons (.cons (.cons (.cons (.cons (.cons (.cons (.cons (.cons (.cons (.cons (.cons (.cons (.cons (.cons (.cons (.cons (.cons .nil))))))))))))))))))) (wy (i:=1) sc__law_any.nd rfl (Or.inl rfl) (pv 1) (.cons (.cons (.cons (.cons (.cons (.cons (.cons (.cons (.cons (.cons (.cons (.cons (.cons (.cons .nil)))))))))))))) (rL (ae (ai (aA (aH (K:=K) rfl) (pv 1) (aq bD (pv 0) af) (λ_ _=>rfl))))))),?_⟩;have h1:=Fy;have h2:=Fx;refine aN ⟨by rw[Nh];show 19<=sizeLine;decide,λp1 hp1=>?_⟩;have hn1:([Str.ofString "+",Str.ofString "-",Str.ofString "*",Str.ofString "/",Str.ofString "^",Str.ofString "(",Str.ofString ")",Str.ofString ",",Str.ofString "..",Str.ofString "sqrt",Str.ofString "cbrt",Str.ofString "root",Str.ofString "x",Str.ofString "0",Str.ofString "1",Str.ofString "2",Str.ofString "8",Str.ofString "9",Str.ofString "10"]:List Str).length=19:=rfl;have hn2:([Str.ofString "120",Str.ofString "007",Str.ofString "a",Str.ofString "b",Str.ofString "xx",Str.ofString "abcdefgh",Str.ofString "abcdefghi",Str.ofString "sqrtx",Str.ofString ".",Str.ofString "A",Str.ofString "$",Str.ofString "\n",Str.ofString "_",Str.ofString "="]:List Str).length=14:=rfl;generalize [Str.ofString "+",Str.ofString "-",Str.ofString "*",Str.ofString "/",Str.ofString "^",Str.ofString "(",Str.ofString ")",Str.ofString ",",Str.ofString "..",Str.ofString "sqrt",Str.ofString "cbrt",Str.ofString "root",Str.ofString "x",Str.ofString "0",Str.ofString "1",Str.ofString "2",Str.ofString "8",Str.ofString "9",Str.ofString "10"]=L1 at h1 hn1 ⊢
  have s1:=Same.upd_new (o:=.lst (L1.map V.str)) hp1;have e1:upd H p1 (.lst (L1.map V.str)) p1=some (.lst (L1.map V.str)):=aj;generalize upd H p1 (.lst (L1.map V.str))=H1 at s1 e1 ⊢
  refine aN ⟨_,rfl,by rw[Nh];show 14<=sizeLine;decide,λp2 hp2=>?_⟩;generalize [Str.ofString "120",Str.ofString "007",Str.ofString "a",Str.ofString "b",Str.ofString "xx",Str.ofString "abcdefgh",Str.ofString "abcdefghi",Str.ofString "sqrtx",Str.ofString ".",Str.ofString "A",Str.ofString "$",Str.ofString "\n",Str.ofString "_",Str.ofString "="]=L2 at h2 hn2 ⊢
  have s2:=s1.then_new (o:=.lst (L2.map V.str)) hp2;have e2:upd H1 p2 (.lst (L2.map V.str)) p2=some (.lst (L2.map V.str)):=aj;have e1':=(Same.upd_new (o:=.lst (L2.map V.str)) hp2) _ _ e1;generalize upd H1 p2 (.lst (L2.map V.str))=H2 at s2 e2 e1' ⊢
  refine⟨p1,p2,_,_,rfl,rfl,e1',e2,by rw[Nh,Nh,hn1,hn2];decide,λp3 hp3=>?_⟩;have s3:=s2.then_new (o:=.lst (L1.map V.str++L2.map V.str)) hp3;have hlen:(L1.map V.str++L2.map V.str).length=33:=by rw[Nf,Nh,Nh,hn1,hn2]
  obtain⟨v,hv,ev⟩:=hV (xs:=L1.map V.str++L2.map V.str) (n:=33) (by rw[hlen];rfl) (by decide) (c);refine au ⟨_,rfl,_,rfl,_,_,rfl,rfl,(by show(0:Int)<33;decide),p3,_,_,_,rfl,rfl,SqL.of aj,ev,?_⟩;rcases No.mp hv with hv |hv
  ·obtain⟨z,hz,rfl⟩:=N3.mp hv;exact kk z _ s3 (h1 z hz)
  ·obtain⟨z,hz,rfl⟩:=N3.mp hv;exact kk z _ s3 (h2 z hz)
def qL:Sp:=λvs H Q _=>∃(s:Str) (c:Int),vs=[.str s,.int c]/\∀z H',Same H H'->MkT z->Q (.str z) H'
theorem Ed{f:Addr}{fd:FuncData}(F:Fun K "_law_wild" "_law_wild" ko f fd)(T:Txt K mg){JF:Addr}{IZ:FuncData}(ME:Cal P w K mg base 1 "_law_near" ["_law_state"] q8 JF IZ):FnOk P w K mg base CX0 2 f fd ["_law_state","_law_cell_here"] qL:=by
 obtain⟨LU,Gi,Hc,KG⟩:=ME;refine F.okZ sc__law_wild (λvs H Q E h=>?_) (λcdv A outer s H vs Q E hr h=>?_)
 ·obtain⟨s,c,rfl,_⟩:=h;rfl
 ·obtain⟨s',c,rfl,kk⟩:=h;have big:=sizeLine_eq;have sm:∀n:Int,0<=n->n<1000->Bits 9000 n:=λn a b=>Bits.mono (j:=10) (by show n.natAbs<2^10;omega) (by decide)
  refine⟨_,cL (ar (ao bM (aq bD (pv 1) af) af (ap _)) (ae (ai (aw LU (hr.mono) rfl Gi Hc KG .nil am (aa (pv 0) ac)))) ay)
   (cL (ar (ao bM (aq bD (pv 1) af) af (ap _))
     (ae (ai (aA (aH (K:=K) rfl) (aO (pE (.cons (.cons (.cons (.cons (.cons (.cons (.cons (.cons .nil)))))))))) (aq bD (aq cX (pv 1) af) af) (λ_ _=>rfl))))
     ay) (wx (i:=2) sc__law_wild.nd rfl (Or.inl rfl) (.cons (.cons (.cons (.cons (.cons (.cons (.cons (.cons (.cons (.cons (.cons (.cons (.cons (.cons (.cons .nil))))))))))))))) (wy (i:=2) sc__law_wild.nd rfl (Or.inl rfl) (pv 2) (.cons (.cons (.cons (.cons (.cons (.cons (.cons (.cons .nil)))))))) (rL (ae (ai (aA (aH (K:=K) rfl) (pv 2) (aq bD (aq cX (pv 1) af) af) (λ_ _=>rfl)))))))),?_⟩
  have h1:=Fp;have h2:=Fo;have h3:=Fn;refine aD ⟨_,rfl,_,_,rfl,rfl,(by show(0:Int)<3;decide),_,_,rfl,rfl,_,rfl,ba (au ⟨_,rfl,_,rfl,λz H' s' hz=>kk z H' s' hz⟩) ?_⟩;refine aD ⟨_,rfl,_,_,rfl,rfl,(by show(0:Int)<3;decide),_,_,rfl,rfl,_,rfl,ba (au ⟨by rw[Nh];show 8<=sizeLine;decide,λp hp=>?_⟩) ?_⟩
  ·obtain⟨v,hv,ev⟩:=hV (xs:=List.map V.str [Str.ofString "007",Str.ofString "00",Str.ofString "08",Str.ofString "9",Str.ofString "12",Str.ofString "abcdefghi",Str.ofString "0",Str.ofString "roots"]) (n:=8) rfl (by decide) (c/3);refine⟨_,rfl,_,_,rfl,rfl,⟨by decide,sm 3 (by decide) (by decide)⟩,_,_,rfl,rfl,(by show(0:Int)<8;decide),p,_,_,_,rfl,rfl,SqL.of aj,ev,?_⟩;obtain⟨z,hz,rfl⟩:=N3.mp hv;exact kk z _ (Same.upd_new hp) (h3 z hz)
  refine aN ⟨by rw[Nh];show 15<=sizeLine;decide,λp1 hp1=>?_⟩;have hn1:([Str.ofString "+",Str.ofString "-",Str.ofString "*",Str.ofString "/",Str.ofString "^",Str.ofString "(",Str.ofString ")",Str.ofString ",",Str.ofString "..",Str.ofString "sqrt",Str.ofString "cbrt",Str.ofString "root",Str.ofString "x",Str.ofString ".",Str.ofString "A"]:List Str).length=15:=rfl;have hn2:([Str.ofString "abcdefgh",Str.ofString "sqrtx",Str.ofString "$",Str.ofString "\n",Str.ofString "xx",Str.ofString "8",Str.ofString "_",Str.ofString "="]:List Str).length=8:=rfl;generalize [Str.ofString "+",Str.ofString "-",Str.ofString "*",Str.ofString "/",Str.ofString "^",Str.ofString "(",Str.ofString ")",Str.ofString ",",Str.ofString "..",Str.ofString "sqrt",Str.ofString "cbrt",Str.ofString "root",Str.ofString "x",Str.ofString ".",Str.ofString "A"]=L1 at h1 hn1 ⊢
  have s1:=Same.upd_new (o:=.lst (L1.map V.str)) hp1;have e1:upd H p1 (.lst (L1.map V.str)) p1=some (.lst (L1.map V.str)):=aj;generalize upd H p1 (.lst (L1.map V.str))=H1 at s1 e1 ⊢
  refine aN ⟨_,rfl,by rw[Nh];show 8<=sizeLine;decide,λp2 hp2=>?_⟩;generalize [Str.ofString "abcdefgh",Str.ofString "sqrtx",Str.ofString "$",Str.ofString "\n",Str.ofString "xx",Str.ofString "8",Str.ofString "_",Str.ofString "="]=L2 at h2 hn2 ⊢
  have s2:=s1.then_new (o:=.lst (L2.map V.str)) hp2;have e2:upd H1 p2 (.lst (L2.map V.str)) p2=some (.lst (L2.map V.str)):=aj;have e1':=(Same.upd_new (o:=.lst (L2.map V.str)) hp2) _ _ e1;generalize upd H1 p2 (.lst (L2.map V.str))=H2 at s2 e2 e1' ⊢
  refine⟨p1,p2,_,_,rfl,rfl,e1',e2,by rw[Nh,Nh,hn1,hn2];decide,λp3 hp3=>?_⟩;have s3:=s2.then_new (o:=.lst (L1.map V.str++L2.map V.str)) hp3;have hlen:(L1.map V.str++L2.map V.str).length=23:=by rw[Nf,Nh,Nh,hn1,hn2]
  obtain⟨v,hv,ev⟩:=hV (xs:=L1.map V.str++L2.map V.str) (n:=23) (by rw[hlen];rfl) (by decide) (c/3);refine au ⟨_,rfl,_,rfl,_,_,rfl,rfl,⟨by decide,sm 3 (by decide) (by decide)⟩,_,_,rfl,rfl,(by show(0:Int)<23;decide),p3,_,_,_,rfl,rfl,SqL.of aj,ev,?_⟩;rcases No.mp hv with hv |hv
  ·obtain⟨z,hz,rfl⟩:=N3.mp hv;exact kk z _ s3 (h1 z hz)
  ·obtain⟨z,hz,rfl⟩:=N3.mp hv;exact kk z _ s3 (h2 z hz)
def LAt(H:Hp)(pa:Addr)(T:List Nat)(st:TSt)(d:Nat)(b:Int):Prop:=H pa=some (.lst [.str (stL T),.str (tsS st),.int d,.int b])
theorem HJ(s:TSt):inV (.str (tsS s)) [.str (Str.ofString "atom"),.str (Str.ofString "behind")]=(decide (s=.at) ||decide (s=.be)):=by
 cases s with
 |po p=>cases p<;>decide +kernel
 |fr b k =>rw[show Str.ofString "atom"=stL [97,116,111,109] by decide +kernel,show Str.ofString "behind"=stL [98,101,104,105,110,100] by decide +kernel];show inV (.str (stL [hc b,48+k])) ([[97,116,111,109],[98,101,104,105,110,100]].map λx=>V.str (stL x))=_;rw[lR];rw[decide_eq_false (show ¬TSt.fr b k=.at fromλz=>by cases z),decide_eq_false (show ¬TSt.fr b k=.be fromλz=>by cases z)];exact decide_eq_false (by simp)
 |_=>decide +kernel
def rm:Sp:=λvs H Q _=>∃(pa:Addr) (T:List Nat) (st:TSt) (d:Nat) (b:Int),vs=[.ref pa]/\LAt H pa T st d b/\∀H',Same H H'->Q (.bl (bW (st,d))) H'
theorem Et{f:Addr}{fd:FuncData}(F:Fun K "_law_ended" "_law_ended" kI f fd)(T:Txt K mg):FnOk P w K mg base CX0 1 f fd ["_law_at"] rm:=by
 refine F.ok B2 (λvs H Q E h=>?_) (λcdv A outer s H vs Q E hr h=>?_)
 ·obtain⟨pa,l,st,d,b,rfl,_⟩:=h;rfl
 ·obtain⟨pa,l,st,d,b,rfl,hA,kk⟩:=h;have a1:∀{z0 z1 z2 z3:V},atI [z0,z1,z2,z3] 1=some z1:=rfl;have a2:∀{z0 z1 z2 z3:V},atI [z0,z1,z2,z3] 2=some z2:=rfl;refine⟨_,(ae (ai (cu (bf (bG (K:=K) rfl) (aA (aH (K:=K) rfl) (pv 0) af (λ_ _=>rfl)) (bq (aa ad (aa ad ac))) (by rfl)) (bT (bf bM (aA (aH (K:=K) rfl) (pv 0) af (λ_ _=>rfl)) af (ap _)))))),?_⟩;refine au (cq ⟨_,rfl,pa,_,_,_,rfl,rfl,SqL.of hA,a1,by show 2<=sizeLine;decide,λpt hpt=>?_⟩);have u1:=Same.upd_new (o:=.tup [V.str (Str.ofString "atom"),V.str (Str.ofString "behind")]) hpt;refine⟨pt,_,rfl,.inr (SqT.of aj),rfl,by decide,_,rfl,?_⟩;have hA1:LAt _ pa l st d b:=u1 _ _ hA;generalize upd H pt (.tup [V.str (Str.ofString "atom"),V.str (Str.ofString "behind")])=H1 at u1 hA1 ⊢
  show if inV (.str (tsS st)) [.str (Str.ofString "atom"),.str (Str.ofString "behind")]=true then _ else _
  rw[HJ];have q:=kk H1 u1;unfold bW at q
  dsimp only at q
  generalize (decide (st=.at) ||decide (st=.be))=bb at q ⊢
  cases bb
  ·exact q
  ·refine aJ ⟨_,rfl,pa,_,_,_,rfl,rfl,SqL.of hA1,a2,_,_,rfl,rfl,?_⟩;have e:decide ((d:Int)=0)=decide (d=0):=by rw[decide_eq_decide];omega
   rw[Bool.true_and]at q;show Q (.bl (decide ((d:Int)=0))) H1;rw[e];exact q
theorem bC{X:Cx}{c:Const}{j:Nat}{p:Pos}{es:List Expr}{te:TE}{t:TA}(ha:PE X (.Constant c j p) te)(hr:PA X es t):PA X (.Constant c j p::es) (ey te t):=aa ha hr (by simp only[starEach])
theorem bX{X:Cx}{x:Str}{p:Pos}{es:List Expr}{te:TE}{t:TA}(ha:PE X (.Name x p) te)(hr:PA X es t):PA X (.Name x p::es) (ey te t):=aa ha hr (by simp only[starEach])
theorem rR{X:Cx}{a b:Expr}{p:Pos}{es:List Expr}{te:TE}{t:TA}(ha:PE X (.Subscript a b p) te)(hr:PA X es t):PA X (.Subscript a b p::es) (ey te t):=aa ha hr (by simp only[starEach])
def Som(H:Hp)(p:Addr):Prop:=∃xs:List V,H p=some (.lst xs)/\xs≠[]/\xs.length<=9/\∀x∈xs,∃z,x=.str z/\MkT z
theorem vP{H:Hp}{p:Addr}{xs:List Str}(hn:xs≠[])(hl:xs.length<=9)(h:∀z∈xs,MkT z):Som (upd H p (.lst (xs.map V.str))) p :=
 ⟨_,aj,λz=>hn (NV.mp z),by rw[Nh];exact hl,λx hx=>by
  obtain⟨z,hz,rfl⟩:=N3.mp hx
  exact⟨z,rfl,h z hz⟩⟩
theorem dN{p:Str->Prop}{a:Str}(h:p a):∀z∈[a],p z:=λz hz=>by simp only[Ni,Nx,or_false]at hz;subst hz;exact h
theorem bA{p:Str->Prop}{a:Str}{xs:List Str}(h:p a)(hx:∀z∈xs,p z):∀z∈a::xs,p z:=λz hz=>by
 rcases Ni.mp hz with rfl |hz
 ·exact h
 ·exact hx z hz
theorem oN(a b:Str)(c:Bool):atI [V.str a,V.str b] (if c=true then(1:Int)else 0)=some (V.str (if c=true then b else a)):=by cases c<;>rfl
theorem qh:∀n,n<10->PySem.intText? (stL (al n))=some (n:Int)/\MkT (stL (al n))/\(stL (al n)).length<=640:=λn h=>by have hl:(al n).length<=9:=(mT 8 n (NG h (by decide +kernel))).1;exact⟨xj n (by omega),xC n (NG h (by decide +kernel)),by rw[ak];omega⟩
theorem pT{q:Nat}(h:q<10^20):((q:Int)).natAbs.log2<1920:=by
 rw[NW];by_cases h0:q=0
 ·subst h0;decide
 ·exact(Nat.log2_lt h0).mpr (NG h (by decide +kernel))
theorem se:MkT (Str.ofString "x")/\MkT (Str.ofString "-")/\MkT (Str.ofString "+")/\MkT (Str.ofString ",")/\MkT (Str.ofString "*")/\MkT (Str.ofString "^")/\MkT (Str.ofString "0")/\MkT (Str.ofString "/")/\MkT (Str.ofString "..")/\MkT (Str.ofString ")")/\MkT (Str.ofString "(")/\MkT (Str.ofString "sqrt")/\MkT (Str.ofString "cbrt")/\MkT (Str.ofString "root"):=by decide +kernel
def qQ:Sp:=λvs H Q _=>∃(a b:Nat) (many:Str) (n:Nat),vs=[.str (stL [a,b]),.str many,.str (stL (al n))]/\MkT many/\1<=n/\n<=9/\∀q H',Same H H'->Som H' q->Q (.ref q) H'
theorem pK{c:Bool}{x y:Str}(hx:MkT x)(hy:MkT y):MkT (if c=true then x else y):=by cases c<;>assumption
theorem Ef{f:Addr}{fd:FuncData}(F:Fun K "_law_some_in_root" "_law_some_in_root" kt f fd)(T:Txt K mg):FnOk P w K mg base CX0 1 f fd ["_law_state","_law_many","_law_few"] qQ:=by
 refine F.ok sc__law_some_in_root (λvs H Q E h=>?_) (λcdv A outer s H vs Q E hr h=>?_)
 ·obtain⟨a,b,many,n,rfl,_⟩:=h;rfl
 ·obtain⟨a,b,many,n,rfl,hm,hn1,hn9,kk⟩:=h;have big:=sizeLine_eq;obtain⟨m1,m2,m3,m4,m5,m6,m7,m8,m9,m10,m11,m12,m13,m14⟩:=se;obtain⟨f1,f2,f3⟩:=qh n (by omega);obtain⟨g1,g2,g3⟩:=qh (n-1) (by omega);have z2:(stL [a,b]).length<=sizeLine:=by rw[ak];show 2<=sizeLine;decide
  have fin:∀{H0 H1:Hp} {p:Addr} {xs:List Str},Same H H1->H1 p=none->xs≠[]->xs.length<=9->(∀z∈xs,MkT z)->Q (.ref p) (upd H1 p (.lst (xs.map V.str))):=λ{H0 H1 p xs} s1 hp h1 h2 h3=>kk _ _ (s1.then_new hp) (vP h1 h2 h3)
  have sH:Same H H:=λ_ _ e=>e
  refine⟨_,(ah (ar (ao (bG (K:=K) rfl) (pv 0) (bq (bC ad (bC ad ac))) (by rfl))
   (ae (ai (aO (bX (pv 1) (bC ad (bC ad (rR (aA (aH (K:=K) rfl) (aO (bC ad (bC ad ac))) (bn ci (by rfl) T.int_ PyProof.Rows.boot_int (aa (bf aK (pv 0) ad (ap _)) ac)) (λ_ _=>rfl)) ac)))))))
   ay)
   (ah (ar (ao aK (pv 0) ad (ap _))
     (ae (ai (aO (bC ad ac))))
     ay)
   (ah (ar (ao aK (pv 0) ad (ap _))
     (ae (ai (aO (aa (bn lU (by rfl) T.str_ PyProof.Rows.boot_str (aa (aq gl (bn lV (by rfl) T.int_ PyProof.Rows.boot_int (bX (pv 2) ac)) af) ac)) (bX (pv 2) ac)))))
     ay)
   (ah (ar (ao aK (aA bJ (pv 0) af (λ_ _=>rfl)) ad (ap _))
     (ae (ai (aO (bC ad (bC ad (bC ad (rR (aA (aH (K:=K) rfl) (aO (bC ad (bC ad (bC ad ac)))) (aq dj (bn ci (by rfl) T.int_ PyProof.Rows.boot_int (aa (bf aK (pv 0) ad (ap _)) ac)) (aq pG af (bn ci (by rfl) T.int_ PyProof.Rows.boot_int (aa (bf aK (pv 0) ad (ap _)) ac)))) (λ_ _=>rfl)) ac)))))))
     ay)
   (ah (ar (ao aK (aA bJ (pv 0) af (λ_ _=>rfl)) ad (ap _))
     (ae (ai (aO (bX (pv 1) (bC ad (bX (pv 1) ac))))))
     ay)
   (ah (ar (ao aK (aA bJ (pv 0) af (λ_ _=>rfl)) ad (ap _))
     (ae (ai (aO (bX (pv 2) (bX (pv 2) (bX (pv 2) (bX (pv 2) (bC ad ac))))))))
     ay)
   (ah (ar (ao aK (aA bJ (pv 0) af (λ_ _=>rfl)) ad (ap _))
     (ae (ai (aO (bX (pv 2) ac))))
     ay)
   (ah (aF (i:=3) sc__law_some_in_root.nd rfl (Or.inl rfl) (aA (aH (K:=K) rfl) (aO (bC ad (bC ad ac))) (bn ci (by rfl) T.int_ PyProof.Rows.boot_int (aa (bf aK (aA bJ (pv 0) af (λ_ _=>rfl)) ad (ap _)) ac)) (λ_ _=>rfl)))
   (ah (ar (ao aK (aA bJ (pv 0) af (λ_ _=>rfl)) ad (ap _))
     (ae (ai (aO (bC ad (bX (pv 3) (bX (pv 3) ac))))))
     ay)
   (ae (ai (aO (bX (pv 3) ac))))))))))))),?_⟩
  refine aD ⟨_,rfl,by show 2<=sizeLine;decide,λpt hpt=>⟨pt,_,rfl,.inr (SqT.of aj),rfl,by decide,_,rfl,ba (au ⟨_,rfl,by show 2<=sizeLine;decide,λp2 hp2=>⟨_,rfl,rfl,.inr ⟨_,rfl,p2,_,_,_,rfl,rfl,SqL.of aj,oN _ _ _,by show 4<=sizeLine;decide,λp3 hp3=>?_⟩⟩⟩) ?_⟩⟩
  ·exact fin (H0:=H) (xs:=[many,Str.ofString "x",Str.ofString "x",_]) ((Same.upd_new hpt).then_new hp2) hp3 (by simp) (by show 4<=9;decide) (bA hm (bA m1 (bA m1 (dN (pK m1 m2)))))
  have u1:=Same.upd_new (o:=.tup [V.str (Str.ofString "p0"),V.str (Str.ofString "p1")]) hpt;generalize upd H pt (.tup [V.str (Str.ofString "p0"),V.str (Str.ofString "p1")])=H1 at u1 ⊢
  clear hpt;refine aD ⟨_,rfl,rfl,_,rfl,ba (au ⟨by show 1<=sizeLine;decide,λp hp=>fin (H0:=H) (xs:=[_]) u1 hp (by simp) (by show 1<=9;decide) (dN m1)⟩) ?_⟩;refine aD ⟨_,rfl,rfl,_,rfl,ba (au ⟨_,rfl,_,_,rfl,f3,f1,_,_,rfl,rfl,((n-1:Nat):Int),by show[V.int ((n:Int)-1)]=_;rw[show(n:Int)-1=((n-1:Nat):Int) by omega],pT (by omega),_,rfl,by show 2<=sizeLine;decide,λp hp=>?_⟩) ?_⟩
  ·rw[RM.txt_nat];exact fin (H0:=H) (xs:=[_,_]) u1 hp (by simp) (by show 2<=9;decide) (bA g2 (dN f2))
  refine aD ⟨_,rfl,_,_,a,rfl,rfl,z2,rfl,rfl,_,rfl,ba (au ⟨by show 3<=sizeLine;decide,λp2 hp2=>⟨_,rfl,rfl,.inr ⟨_,rfl,_,rfl,rfl,.inr ⟨_,rfl,?_⟩⟩⟩⟩) ?_⟩
  ·have k3:∀(c1 c2:Bool),(c1=true->c2=false)->∃z:Str,MkT z/\atI [V.str (Str.ofString "*"),V.str (Str.ofString "^"),V.str (Str.ofString ",")] ((if c1=true then(1:Int)else 0)+2*(if c2=true then(1:Int)else 0))=some (V.str z):=λc1 c2 h=>by
    cases c1<;>cases c2
    ·exact⟨_,m5,rfl⟩
    ·exact⟨_,m4,rfl⟩
    ·exact⟨_,m6,rfl⟩
    ·exact absurd (h rfl) (by decide)
   obtain⟨z,hz,ez⟩:=k3 (decide (V.str (stL [a,b])=V.str (Str.ofString "px"))) (decide (V.str (stL [a,b])=V.str (Str.ofString "pd"))) (λh=>by
    have h1:=of_decide_eq_true h;rw[h1]
    decide +kernel)
   refine⟨_,_,rfl,rfl,⟨Bits.mono (j:=2) (by show(2:Int).natAbs<2^2;decide) (by decide),Bits.mono (j:=2) (by split;show(1:Int).natAbs<2^2;decide;show(0:Int).natAbs<2^2;decide) (by decide)⟩,_,_,rfl,rfl,p2,_,_,_,rfl,rfl,SqL.of aj,ez,by show 4<=sizeLine;decide,λp3 hp3=>?_⟩;exact fin (H0:=H) (xs:=[_,_,_,_]) (u1.then_new hp2) hp3 (by simp) (by show 4<=9;decide) (bA m3 (bA m2 (bA m4 (dN hz))))
  refine aD ⟨_,rfl,_,_,b,rfl,rfl,z2,rfl,rfl,_,rfl,ba (au ⟨_,rfl,_,rfl,by show 3<=sizeLine;decide,λp hp=>fin (H0:=H) (xs:=[_,_,_]) u1 hp (by simp) (by show 3<=9;decide) (bA hm (bA m2 (dN hm)))⟩) ?_⟩;refine aD ⟨_,rfl,_,_,b,rfl,rfl,z2,rfl,rfl,_,rfl,ba (au ⟨_,rfl,_,rfl,_,rfl,_,rfl,by show 5<=sizeLine;decide,λp hp=>fin (H0:=H) (xs:=[_,_,_,_,_]) u1 hp (by simp) (by show 5<=9;decide) (bA f2 (bA f2 (bA f2 (bA f2 (dN m7)))))⟩) ?_⟩;refine aD ⟨_,rfl,_,_,b,rfl,rfl,z2,rfl,rfl,_,rfl,ba (au ⟨_,rfl,by show 1<=sizeLine;decide,λp hp=>fin (H0:=H) (xs:=[_]) u1 hp (by simp) (by show 1<=9;decide) (dN f2)⟩) ?_⟩;refine aN ⟨by show 2<=sizeLine;decide,λp2 hp2=>⟨_,rfl,_,_,a,rfl,rfl,z2,rfl,rfl,.inr ⟨_,rfl,p2,_,_,_,rfl,rfl,SqL.of aj,oN _ _ _,?_⟩⟩⟩;refine cU (λσ' H'=>∃z:Str,σ'=[some (.str (stL [a,b])),some (.str many),some (.str (stL (al n))),some (.str z)]/\Same H H'/\MkT z) ⟨_,rfl,u1.then_new hp2,pK m10 m9⟩ ?_;rintro σ' H2 ⟨z,rfl,u2,hz⟩;refine aD ⟨_,rfl,_,_,b,rfl,rfl,z2,rfl,rfl,_,rfl,ba (au ⟨_,rfl,_,rfl,by show 3<=sizeLine;decide,λp hp=>fin (H0:=H) (xs:=[_,_,_]) u2 hp (by simp) (by show 3<=9;decide) (bA m8 (bA hz (dN hz)))⟩) ?_⟩;exact au ⟨_,rfl,by show 1<=sizeLine;decide,λp hp=>fin (H0:=H) (xs:=[_]) u2 hp (by simp) (by show 1<=9;decide) (dN hz)⟩
structure PAz(X:Cx)(es:List Expr)(t:TA):Prop where
 h:PA X es t
theorem wP{X:Cx}:PAz X [] mE:=⟨ac⟩
theorem fu{X:Cx}{c:Const}{j:Nat}{p:Pos}{es:List Expr}{te:TE}{t:TA}(ha:PE X (.Constant c j p) te)(hr:PAz X es t):PAz X (.Constant c j p::es) (ey te t):=⟨bC ha hr.h⟩
theorem rQ{X:Cx}{x:Str}{p:Pos}{es:List Expr}{te:TE}{t:TA}(ha:PE X (.Name x p) te)(hr:PAz X es t):PAz X (.Name x p::es) (ey te t):=⟨bX ha hr.h⟩
theorem wQ{X:Cx}{a b:Expr}{p:Pos}{es:List Expr}{te:TE}{t:TA}(ha:PE X (.Subscript a b p) te)(hr:PAz X es t):PAz X (.Subscript a b p::es) (ey te t):=⟨rR ha hr.h⟩
theorem Dr{X:Cx}{es:List Expr}{t:TA}{pos:Pos}(h:PAz X es t):PE X (.List es pos) (il t):=aO h.h
theorem C0{X:Cx}{es:List Expr}{t:TA}{pos pos':Pos}(h:PAz X es t):PSz X [.Return (some (.List es pos)) pos'] (qD (il t)):=⟨ae (ai (aO h.h))⟩
def qR:Sp:=λvs H Q _=>∃(x:List Nat) (many word:Str) (n:Nat),vs=[.str (stL x),.str many,.str (stL (al n)),.str word]/\x.length<=100/\MkT many/\MkT word/\1<=n/\n<=9/\∀q H',Same H H'->Som H' q->Q (.ref q) H'
theorem Eg{f:Addr}{fd:FuncData}(F:Fun K "_law_some" "_law_some" ku f fd)(T:Txt K mg){Jy:Addr}{IS:FuncData}(Mw:Cal P w K mg base 1 "_law_some_in_root" ["_law_state","_law_many","_law_few"] qQ Jy IS):FnOk P w K mg base CX0 2 f fd ["_law_state","_law_many","_law_few","_law_word"] qR:=by
 obtain⟨LO,Gd,G7,Kx⟩:=Mw;refine F.okZ BX (λvs H Q E h=>?_) (λcdv A outer s H vs Q E hr h=>?_)
 ·obtain⟨x,many,word,n,rfl,_⟩:=h;rfl
 ·obtain⟨x,many,word,n,rfl,hx,hm,hw,hn1,hn9,kk⟩:=h;have big:=sizeLine_eq;obtain⟨m1,m2,m3,m4,m5,m6,m7,m8,m9,m10,m11,m12,m13,m14⟩:=se;obtain⟨f1,f2,f3⟩:=qh n (by omega);obtain⟨g1,g2,g3⟩:=qh (n-1) (by omega);have fin:∀{H0 H1:Hp} {p:Addr} {xs:List Str},Same H H1->H1 p=none->xs≠[]->xs.length<=9->(∀z∈xs,MkT z)->Q (.ref p) (upd H1 p (.lst (xs.map V.str))):=λ{H0 H1 p xs} s1 hp h1 h2 h3=>kk _ _ (s1.then_new hp) (vP h1 h2 h3)
  have sH:Same H H:=λ_ _ e=>e
  have hxl:(stL x).length<=sizeLine:=by rw[ak];omega
  refine⟨_,(cL (ar (ao bM (aP dL (by rfl) T.len_ PySem.boot_len (bX (pv 0) ac)) af (ap _))
   (ae (ai (aw LO (hr.mono) rfl Gd G7 Kx .nil am (bX (pv 0) (bX (pv 1) (bX (pv 2) ac))))))
   ay)
   (cL (ar (ao (bG (K:=K) rfl) (pv 0) (bq (bC ad (bC ad ac))) (by rfl))
     (ae (ai (Dr (rQ (pv 1) (fu ad (rQ (pv 3) (fu ad (fu ad (fu ad (rQ (pv 1) (wQ (aA (aH (K:=K) rfl) (aO (bC ad (bC ad ac))) (bn ci (by rfl) T.int_ PyProof.Rows.boot_int (aa (bf aK (pv 0) ad (ap _)) ac)) (λ_ _=>rfl)) wP)))))))))))
     ay)
   (cL (ar (ao (bG (K:=K) rfl) (pv 0) (bq (bC ad (bC ad ac))) (by rfl))
     (ae (ai (aO (bC ad ac))))
     ay)
   (cL (ar (ao aK (pv 0) ad (ap _))
     (ae (ai (aO (aa (bn lU (by rfl) T.str_ PyProof.Rows.boot_str (aa (aq gl (bn lV (by rfl) T.int_ PyProof.Rows.boot_int (bX (pv 2) ac)) af) ac)) (bX (pv 2) ac)))))
     ay)
   (C0 (fu ad (fu ad (fu ad (fu ad (fu ad (fu ad (wQ (aA (aH (K:=K) rfl) (aO (bC ad (bC ad ac))) (bn ci (by rfl) T.int_ PyProof.Rows.boot_int (aa (bf aK (pv 0) ad (ap _)) ac)) (λ_ _=>rfl)) wP)))))))))))),?_⟩
  refine aD ⟨_,rfl,_,rfl,hxl,_,_,rfl,rfl,_,rfl,aC (λh2=>?_) (λ_=>?_)⟩
  ·have h2':((stL x).length:Int)=2:=h2;rw[ak]at h2'
   match x,h2' with
   | [a,b],_=>exact au ⟨_,rfl,_,rfl,_,rfl,a,b,many,n,rfl,hm,hn1,hn9,kk⟩
   | [],h=>exact absurd h (by decide)
   | [_],h =>have h:((1:Nat):Int)=2:=h;omega
   |_::_::_::y,h =>have h:((y.length+1+1+1:Nat):Int)=2:=h;omega
  refine aD ⟨_,rfl,by show 2<=sizeLine;decide,λpt hpt=>⟨pt,_,rfl,.inr (SqT.of aj),rfl,by decide,_,rfl,ba (au ⟨_,rfl,_,rfl,_,rfl,by show 2<=sizeLine;decide,λp2 hp2=>⟨_,rfl,rfl,.inr ⟨_,rfl,p2,_,_,_,rfl,rfl,SqL.of aj,oN _ _ _,by show 8<=sizeLine;decide,λp3 hp3=>?_⟩⟩⟩) ?_⟩⟩
  ·exact fin (H0:=H) (xs:=[many,Str.ofString "(",word,Str.ofString "sqrt",Str.ofString "root",Str.ofString "cbrt",many,_]) ((Same.upd_new hpt).then_new hp2) hp3 (by simp) (by show 8<=9;decide) (bA hm (bA m11 (bA hw (bA m12 (bA m14 (bA m13 (bA hm (dN (pK m11 m2)))))))))
  have u1:=Same.upd_new (o:=.tup [V.str (Str.ofString "begin"),V.str (Str.ofString "start")]) hpt;generalize upd H pt (.tup [V.str (Str.ofString "begin"),V.str (Str.ofString "start")])=H1 at u1 ⊢
  clear hpt;refine aD ⟨_,rfl,by show 2<=sizeLine;decide,λpt hpt=>⟨pt,_,rfl,.inr (SqT.of aj),rfl,by decide,_,rfl,ba (au ⟨by show 1<=sizeLine;decide,λp hp=>fin (H0:=H) (xs:=[_]) (u1.then_new hpt) hp (by simp) (by show 1<=9;decide) (dN m11)⟩) ?_⟩⟩;have u2:=u1.then_new (o:=.tup [V.str (Str.ofString "word"),V.str (Str.ofString "given")]) hpt;generalize upd H1 pt (.tup [V.str (Str.ofString "word"),V.str (Str.ofString "given")])=H2 at u2 ⊢
  clear hpt;refine aD ⟨_,rfl,rfl,_,rfl,ba (au ⟨_,rfl,_,_,rfl,f3,f1,_,_,rfl,rfl,((n-1:Nat):Int),by show[V.int ((n:Int)-1)]=_;rw[show(n:Int)-1=((n-1:Nat):Int) by omega],pT (by omega),_,rfl,by show 2<=sizeLine;decide,λp hp=>?_⟩) ?_⟩
  ·rw[RM.txt_nat];exact fin (H0:=H) (xs:=[_,_]) u2 hp (by simp) (by show 2<=9;decide) (bA g2 (dN f2))
  refine au ⟨by show 2<=sizeLine;decide,λp2 hp2=>⟨_,rfl,rfl,.inr ⟨_,rfl,p2,_,_,_,rfl,rfl,SqL.of aj,oN _ _ _,by show 7<=sizeLine;decide,λp3 hp3=>?_⟩⟩⟩;exact fin (H0:=H) (xs:=[Str.ofString "+",Str.ofString "-",Str.ofString "*",Str.ofString "/",Str.ofString ")",Str.ofString ")",_]) (u2.then_new hp2) hp3 (by simp) (by show 7<=9;decide) (bA m3 (bA m2 (bA m5 (bA m8 (bA m10 (bA m10 (dN (pK m10 m6))))))))
theorem JZ(t:Int):(∃w:List Nat,Txt.slice (Str.ofString "abcdefgh") none (some (1+t%4))=stL w/\w.length<=4/\MkT (stL (wRoot++w)))/\∃w:List Nat,Txt.slice (Str.ofString "abcdefgh") (some (t%8)) none=stL w/\MkT (stL w):=by
 constructor
 ·have h0:=NL t (b:=4) (by decide);have h1:=NP t (b:=4) (by decide);have h:t%4=0\/t%4=1\/t%4=2\/t%4=3:=by omega
  rcases h with h |h |h |h<;>rw[h]
  ·exact⟨[97],by decide +kernel,by decide,by decide +kernel⟩
  ·exact⟨[97,98],by decide +kernel,by decide,by decide +kernel⟩
  ·exact⟨[97,98,99],by decide +kernel,by decide,by decide +kernel⟩
  ·exact⟨[97,98,99,100],by decide +kernel,by decide,by decide +kernel⟩
 ·have h0:=NL t (b:=8) (by decide);have h1:=NP t (b:=8) (by decide);have h:t%8=0\/t%8=1\/t%8=2\/t%8=3\/t%8=4\/t%8=5\/t%8=6\/t%8=7:=by omega
  rcases h with h |h |h |h |h |h |h |h<;>rw[h]
  ·exact⟨[97,98,99,100,101,102,103,104],by decide +kernel,by decide +kernel⟩
  ·exact⟨[98,99,100,101,102,103,104],by decide +kernel,by decide +kernel⟩
  ·exact⟨[99,100,101,102,103,104],by decide +kernel,by decide +kernel⟩
  ·exact⟨[100,101,102,103,104],by decide +kernel,by decide +kernel⟩
  ·exact⟨[101,102,103,104],by decide +kernel,by decide +kernel⟩
  ·exact⟨[102,103,104],by decide +kernel,by decide +kernel⟩
  ·exact⟨[103,104],by decide +kernel,by decide +kernel⟩
  ·exact⟨[104],by decide +kernel,by decide +kernel⟩
theorem GE:Str.ofString "root"=stL wRoot:=by decide +kernel
theorem AT(st:TSt):(tsS st).cps.toList.length<=10:=by
 cases st with
 |po p=>cases p<;>decide +kernel
 |fr b k=>show 2<=10;decide
 |_=>decide +kernel
theorem FA:∀z∈[Str.ofString "(",Str.ofString "sqrt",Str.ofString "("],MkT z:=by decide +kernel
theorem Fq:MkT (Str.ofString "a")/\MkT (Str.ofString "b")/\MkT (Str.ofString "xx"):=by decide +kernel
def rc:Sp:=λvs H Q _=>∃(pa:Addr) (T:List Nat) (st:TSt) (d:Nat) (b c wd way:Int),vs=[.ref pa,.int c,.int wd,.int way]/\LAt H pa T st d b/\0<=wd/\wd<=40/\∀z H',Same H H'->MkT z->Q (.str z) H'
theorem Eo{f:Addr}{fd:FuncData}(F:Fun K "_law_mark" "_law_mark" kE f fd)(T:Txt K mg){Jw:Addr}{IQ:FuncData}(Mu:Cal P w K mg base 2 "_law_wild" ["_law_state","_law_cell_here"] qL Jw IQ){Jz:Addr}{IT:FuncData}(Mx:Cal P w K mg base 2 "_law_some" ["_law_state","_law_many","_law_few","_law_word"] qR Jz IT):FnOk P w K mg base CX0 3 f fd ["_law_at","_law_cell_here","_law_wild_here","_law_way"] rc:=by
 obtain⟨LN,Gc,G6,Kw⟩:=Mu;obtain⟨LP,Ge,G8,Ky⟩:=Mx;refine F.okZ sc__law_mark (λvs H Q E h=>?_) (λcdv A outer s H vs Q E hr h=>?_)
 ·obtain⟨pa,l,st,d,b,c,wd,way,rfl,_⟩:=h;rfl
 ·obtain⟨pa,l,st,d,b,c,wd,way,rfl,hA,hw,hw2,kk⟩:=h;have bw:Bits 9000 wd:=Bits.mono (j:=6) (by show wd.natAbs<2^6;omega) (by decide);have sm:∀n:Int,0<=n->n<10000->Bits 9000 n:=λn a b=>Bits.mono (j:=14) (by show n.natAbs<2^14;omega) (by decide)
  have big:=sizeLine_eq;have a1:∀{z0 z1 z2 z3:V},atI [z0,z1,z2,z3] 1=some z1:=rfl;have a2:∀{z0 z1 z2 z3:V},atI [z0,z1,z2,z3] 2=some z2:=rfl;obtain⟨m1,m2,m3,m4,m5,m6,m7,m8,m9,m10,m11,m12,m13,m14⟩:=se;obtain⟨v1,v2,v3⟩:=Fq
  refine⟨_,(cL (ar (PW.pt (bR (ao iA (pv 2) af (ap _)) (cr (ao bM (aq bD (pv 1) (pv 2)) af (ap _)))))
   (ae (ai (aw LN (hr.mono) rfl Gc G6 Kw .nil am (aa (aA (aH (K:=K) rfl) (pv 0) af (λ_ _=>rfl)) (aa (aq cX (pv 1) (pv 2)) ac)))))
   ay)
   (cL (aF (i:=4) sc__law_mark.nd rfl (Or.inl rfl) (aq bD (aq pG (aq dj af (aq bD (pv 1) af)) af) af))
   (cL (aF (i:=5) sc__law_mark.nd rfl (Or.inl rfl) (bn lU (by rfl) T.str_ PyProof.Rows.boot_str (aa (aq bD (aq cX (pv 4) af) (aA (aH (K:=K) rfl) (aO (aa af (aa af (aa (aq w6 af af) ac)))) (aq bD (pv 4) af) (λ_ _=>rfl))) ac)))
   (cL (aF (i:=6) sc__law_mark.nd rfl (Or.inl rfl) (aA (aH (K:=K) rfl) (aO (aa ad (aa ad (aa ad (aa (aq bi ad (lw pq ad rO (gh (aq dj af (aq bD (pv 4) af))))) (aa (lw pq ad (gh (aq bD (pv 4) af)) rO) ac)))))) (aq bD (aq cX (pv 4) af) af) (λ_ _=>rfl)))
   (cL (aF (i:=7) sc__law_mark.nd rfl (Or.inl rfl) (aw LP (hr.mono) rfl Ge G8 Ky .nil am (aa (aA (aH (K:=K) rfl) (pv 0) af (λ_ _=>rfl)) (aa (pv 5) (aa (bn lU (by rfl) T.str_ PyProof.Rows.boot_str (aa (aq dj af (aq bD (aq cX (pv 4) af) af)) ac)) (aa (pv 6) ac))))))
   (cL (aF (i:=8) sc__law_mark.nd rfl (Or.inl rfl) (aA (aH (K:=K) rfl) (pv 7) (aq bD (aq cX (pv 4) af) (aP (fC (K:=K) rfl) (by rfl) T.len_ PySem.boot_len (aa (pv 7) ac))) (λ_ _=>rfl)))
   (cL (ar (PW.pt (bR (ao (bG (K:=K) rfl) (aA (aH (K:=K) rfl) (pv 0) af (λ_ _=>rfl)) (bq (aa ad (aa ad ac))) (by rfl)) (bR (ao bM (pv 3) af (ap _)) (cr (ao iA (aq bD (aq cX (pv 4) af) af) af (ap _))))))
     (ae (aF (i:=8) sc__law_mark.nd rfl (Or.inl rfl) (aA (aH (K:=K) rfl) (aO (aa ad (aa ad (aa ad ac)))) (aq bD (aq cX (pv 4) af) af) (λ_ _=>rfl))))
     ay)
   (cL (ar (PW.pt (bR (ao (bG (K:=K) rfl) (aA (aH (K:=K) rfl) (pv 0) af (λ_ _=>rfl)) (bq (aa ad (aa ad ac))) (by rfl)) (cr (ao bM (pv 3) af (ap _)))))
     (ae (aF (i:=8) sc__law_mark.nd rfl (Or.inl rfl) ad))
     ay)
   (cL (ar (PW.pt (bR (ao aK (pv 8) ad (ap _)) (cr (ao bM (aA (aH (K:=K) rfl) (pv 0) af (λ_ _=>rfl)) af (ap _)))))
     (ae (ai ad))
     ay)
   (cL (ar (PW.pt (bR (ao (bG (K:=K) rfl) (pv 8) (bq (aa ad (aa ad (aa ad (aa ad ac))))) (by rfl)) (bR (ao bM (aA (aH (K:=K) rfl) (pv 0) af (λ_ _=>rfl)) af (ap _)) (cr (ao iA (aq bD (aq cX (pv 4) af) af) af (ap _))))))
     (ae (ai (pv 5)))
     ay)
   (rL (ae (ai (pv 8)))))))))))))),?_⟩
  refine cA (λσ' H'=>σ'=[some (.ref pa),some (.int c),some (.int wd),some (.int way),none,none,none,none,none]/\H=H') ?_ (λrest=>bQ ⟨_,rfl,_,_,rfl,rfl,_,rfl,aC (λz=>⟨_,rfl,_,rfl,_,_,rfl,rfl,z,_,_,rfl,rfl,_,rfl,aC (λy=>?_) (λy=>?_)⟩) (λz=>?_)⟩)
  rotate_left
  ·exact au ⟨_,rfl,pa,_,_,_,rfl,rfl,SqL.of hA,a1,_,rfl,_,rfl,_,_,rfl,rfl,⟨z,bw⟩,_,_,rfl,λz H' s' hz=>kk z H' s' hz⟩
  ·exact rest _ _ ⟨rfl,rfl⟩
  ·exact rest _ _ ⟨rfl,rfl⟩
  rintro σ' H' ⟨rfl,rfl⟩
  have bt:Bits 100 ((1+c%2147483646):Int):=by show(1+c%2147483646:Int).natAbs<2^100;have:=NL c (b:=2147483646) (by decide);have:=NP c (b:=2147483646) (by decide);omega
  refine aN ⟨_,rfl,_,_,rfl,rfl,(by show(0:Int)<2147483646;decide),_,_,rfl,rfl,_,_,rfl,rfl,⟨bt.mono,Bits.mono (j:=20) (by show(48271:Int).natAbs<2^20;decide) (by decide)⟩,_,_,rfl,rfl,(by show(0:Int)<2147483647;decide),?_⟩;have ht0:=NL ((1+c%2147483646)*48271) (b:=2147483647) (by decide);dsimp only
  generalize (1+c%2147483646)*48271%2147483647=t at ht0 ⊢
  show bH _ _ _ _ _;refine aN ⟨_,rfl,_,_,rfl,rfl,⟨by decide,sm 7 (by decide) (by decide)⟩,_,_,rfl,rfl,⟨by decide,by decide,by decide⟩,by show 3<=sizeLine;decide,λp hp=>?_⟩;have s1:=Same.upd_new (o:=.lst [V.int 10,V.int 12,V.int (10^9)]) hp;obtain⟨v,hv,ev⟩:=hV (xs:=[V.int 10,V.int 12,V.int (10^9)]) (n:=3) rfl (by decide) t
  obtain⟨n,rfl,hn0,hn1⟩:∃n:Int,v=.int n/\0<n/\n<=10^9:=by
   simp only[Ni,Nx,or_false]at hv;rcases hv with rfl |rfl |rfl
   ·exact⟨_,rfl,by decide,by decide +kernel⟩
   ·exact⟨_,rfl,by decide,by decide +kernel⟩
   ·exact⟨_,rfl,by decide +kernel,Int.le_refl _⟩
  have hr0:=NL (t/7) (b:=n) (by omega);have hr1:=NP (t/7) hn0;obtain⟨q,hq⟩:∃q:Nat,t/7%n=(q:Int):=⟨(t/7%n).toNat,by omega⟩
  have hq2:q<10^9:=by
   have:(q:Int)<10^9:=by rw[<- hq];omega
   omega
  refine⟨_,rfl,_,_,rfl,rfl,(by show(0:Int)<3;decide),p,_,_,_,rfl,rfl,SqL.of aj,ev,_,_,rfl,rfl,hn0,?_⟩;refine⟨(q:Int),by show[V.int (t/7%n)]=_;rw[hq],pT (NG hq2 (by decide +kernel)),?_⟩;rw[RM.txt_nat];have mq:=xC q hq2;generalize stL (al q)=many at mq ⊢
  show bH _ _ _ _ _;refine cU (λσ' H'=>σ'=[some (.ref pa),some (.int c),some (.int wd),some (.int way),some (.int t),some (.str many),none,none,none]/\Same H H') ⟨rfl,s1⟩ ?_;clear s1 hp ev;rintro σ' H1 ⟨rfl,s1⟩;obtain⟨⟨w1,e1,l1,k1⟩,⟨w2,e2,k2⟩⟩:=JZ t;have zz:(Str.ofString "abcdefgh").length<=sizeLine:=by show 8<=sizeLine;decide
  refine aN ⟨_,rfl,_,_,rfl,rfl,(by show(0:Int)<4;decide),_,_,rfl,rfl,_,rfl,_,rfl,zz,?_⟩;rw[e1,GE];refine⟨_,_,rfl,rfl,by rw[ak,ak];show 4+_<=_;omega,?_⟩;rw[aG];refine⟨_,rfl,_,_,rfl,rfl,(by show(0:Int)<8;decide),_,rfl,_,rfl,zz,?_⟩;rw[e2];refine⟨by show 5<=sizeLine;decide,λp hp=>?_⟩;obtain⟨v,hv,ev⟩:=hV (xs:=[V.str (Str.ofString "a"),V.str (Str.ofString "b"),V.str (Str.ofString "xx"),V.str (stL (wRoot++w1)),V.str (stL w2)]) (n:=5) rfl (by decide) (t/3)
  obtain⟨word,rfl,hwd⟩:∃z,v=.str z/\MkT z:=by
   simp only[Ni,Nx,or_false]at hv;rcases hv with rfl |rfl |rfl |rfl |rfl
   ·exact⟨_,rfl,v1⟩
   ·exact⟨_,rfl,v2⟩
   ·exact⟨_,rfl,v3⟩
   ·exact⟨_,rfl,k1⟩
   ·exact⟨_,rfl,k2⟩
  refine⟨_,rfl,_,_,rfl,rfl,⟨by decide,sm 3 (by decide) (by decide)⟩,_,_,rfl,rfl,(by show(0:Int)<5;decide),p,_,_,_,rfl,rfl,SqL.of aj,ev,?_⟩;show bH _ _ _ _ _;refine cU (λσ' H'=>σ'=[some (.ref pa),some (.int c),some (.int wd),some (.int way),some (.int t),some (.str many),some (.str word),none,none]/\Same H H') ⟨rfl,s1.then_new hp⟩ ?_;clear s1 hp ev hv H1;rintro σ' H1 ⟨rfl,s1⟩;have g0:=NL (t/5) (b:=9) (by decide);have g1:=NP (t/5) (b:=9) (by decide);obtain⟨r,hrr⟩:∃r:Nat,1+t/5%9=(r:Int):=⟨(1+t/5%9).toNat,by omega⟩;refine aN ⟨_,rfl,pa,_,_,_,rfl,rfl,SqL.of (s1 _ _ hA),a1,_,rfl,_,rfl,_,_,rfl,rfl,⟨by decide,sm 5 (by decide) (by decide)⟩,_,_,rfl,rfl,(by show(0:Int)<9;decide),_,_,rfl,rfl,(r:Int),by show[V.int (1+t/5%9)]=_;rw[hrr],pT (q:=r) (N1 (show r<=9 by omega) (by decide +kernel)),?_⟩;rw[RM.txt_nat];refine⟨_,rfl,(tsS st).cps.toList,many,word,r,by rw[lF];rfl,Nk (AT st) (by decide),mq,hwd,by omega,by omega,λps H2 s2 hS=>?_⟩;show bH _ _ _ _ _;refine cU (λσ' H'=>∃p,σ'=[some (.ref pa),some (.int c),some (.int wd),some (.int way),some (.int t),some (.str many),some (.str word),some (.ref p),none]/\Same H H'/\Som H' p) ⟨ps,rfl,s1.trans s2,hS⟩ ?_;clear hS s2 s1 H2 H1;rintro σ' H1 ⟨ps,rfl,s1,hS⟩;obtain⟨xs,hx,hne,hl9,hxs⟩:=hS;have hpos:(0:Int)<(xs.length:Int):=by have:=List.length_pos_iff.mpr hne;omega
  obtain⟨v,hv,ev⟩:=hV (xs:=xs) (n:=(xs.length:Int)) rfl hpos (t/45);obtain⟨z,rfl,hz⟩:=hxs v hv;refine aN ⟨_,rfl,_,rfl,_,_,rfl,rfl,⟨by decide,sm 45 (by decide) (by decide)⟩,_,rfl,ps,_,rfl,.inl (SqL.of hx),_,_,rfl,rfl,hpos,ps,_,_,_,rfl,rfl,SqL.of hx,ev,?_⟩;show bH _ _ _ _ _;refine cU (λσ' H'=>∃z,σ'=[some (.ref pa),some (.int c),some (.int wd),some (.int way),some (.int t),some (.str many),some (.str word),some (.ref ps),some (.str z)]/\Same H H'/\MkT z) ⟨z,rfl,s1,hz⟩ ?_;clear hz ev hv hx hxs hne hpos hl9 s1 H1;rintro σ' H1 ⟨z,rfl,s1,hz⟩;refine cA (λσ' H'=>∃z,σ'=[some (.ref pa),some (.int c),some (.int wd),some (.int way),some (.int t),some (.str many),some (.str word),some (.ref ps),some (.str z)]/\Same H H'/\MkT z) ?_ (λrest=>bQ ⟨_,rfl,pa,_,_,_,rfl,rfl,SqL.of (s1 _ _ hA),a1,by show 2<=sizeLine;decide,λpt hpt=>⟨pt,_,rfl,.inr (SqT.of aj),rfl,by decide,_,rfl,ba (bQ ⟨_,rfl,_,_,rfl,rfl,_,rfl,ba ⟨_,rfl,_,_,rfl,rfl,⟨by decide,sm 450 (by decide) (by decide)⟩,_,_,rfl,rfl,(by show(0:Int)<4;decide),_,_,rfl,rfl,_,rfl,ba ?_ (rest _ _ ⟨z,rfl,s1.then_new hpt,hz⟩)⟩ (rest _ _ ⟨z,rfl,s1.then_new hpt,hz⟩)⟩) (rest _ _ ⟨z,rfl,s1.then_new hpt,hz⟩)⟩⟩)
  rotate_left
  ·refine cp ⟨by show 3<=sizeLine;decide,λp3 hp3=>?_⟩;obtain⟨v,hv,ev⟩:=hV (xs:=List.map V.str [Str.ofString "(",Str.ofString "sqrt",Str.ofString "("]) (n:=3) rfl (by decide) (t/1800);obtain⟨y,hy,rfl⟩:=N3.mp hv;exact⟨_,rfl,_,_,rfl,rfl,⟨by decide,sm 1800 (by decide) (by decide)⟩,_,_,rfl,rfl,(by show(0:Int)<3;decide),p3,_,_,_,rfl,rfl,SqL.of aj,ev,rest _ _ ⟨y,rfl,(s1.then_new hpt).then_new hp3,FA y hy⟩⟩
  clear hz s1 H1;rintro σ' H1 ⟨z,rfl,s1,hz⟩;refine cA (λσ' H'=>∃z,σ'=[some (.ref pa),some (.int c),some (.int wd),some (.int way),some (.int t),some (.str many),some (.str word),some (.ref ps),some (.str z)]/\Same H H'/\MkT z) ?_ (λrest=>bQ ⟨_,rfl,pa,_,_,_,rfl,rfl,SqL.of (s1 _ _ hA),a1,by show 2<=sizeLine;decide,λpt hpt=>⟨pt,_,rfl,.inr (SqT.of aj),rfl,by decide,_,rfl,ba ⟨_,rfl,_,_,rfl,rfl,_,rfl,ba (cp (rest _ _ ⟨_,rfl,s1.then_new hpt,m14⟩)) (rest _ _ ⟨z,rfl,s1.then_new hpt,hz⟩)⟩ (rest _ _ ⟨z,rfl,s1.then_new hpt,hz⟩)⟩⟩);clear hz s1 H1;rintro σ' H1 ⟨z,rfl,s1,hz⟩;refine cA (λσ' H'=>∃z,σ'=[some (.ref pa),some (.int c),some (.int wd),some (.int way),some (.int t),some (.str many),some (.str word),some (.ref ps),some (.str z)]/\Same H H'/\MkT z) ?_ (λrest=>bQ ⟨_,rfl,rfl,_,rfl,ba ⟨_,rfl,pa,_,_,_,rfl,rfl,SqL.of (s1 _ _ hA),a2,_,_,rfl,rfl,_,rfl,ba (au (kk _ _ s1 m3)) (rest _ _ ⟨z,rfl,s1,hz⟩)⟩ (rest _ _ ⟨z,rfl,s1,hz⟩)⟩);clear hz s1 H1;rintro σ' H1 ⟨z,rfl,s1,hz⟩;refine cA (λσ' H'=>∃z,σ'=[some (.ref pa),some (.int c),some (.int wd),some (.int way),some (.int t),some (.str many),some (.str word),some (.ref ps),some (.str z)]/\Same H H'/\MkT z) ?_ (λrest=>bQ ⟨_,rfl,by show 4<=sizeLine;decide,λpt hpt=>⟨pt,_,rfl,.inr (SqT.of aj),rfl,by decide,_,rfl,ba (bQ ⟨_,rfl,pa,_,_,_,rfl,rfl,SqL.of ((s1.then_new hpt) _ _ hA),a2,_,_,rfl,rfl,_,rfl,ba ⟨_,rfl,_,_,rfl,rfl,⟨by decide,sm 5400 (by decide) (by decide)⟩,_,_,rfl,rfl,(by show(0:Int)<4;decide),_,_,rfl,rfl,_,rfl,ba (au ⟨_,rfl,kk _ _ (s1.then_new hpt) mq⟩) (rest _ _ ⟨z,rfl,s1.then_new hpt,hz⟩)⟩ (rest _ _ ⟨z,rfl,s1.then_new hpt,hz⟩)⟩) (rest _ _ ⟨z,rfl,s1.then_new hpt,hz⟩)⟩⟩);clear hz s1 H1;rintro σ' H1 ⟨z,rfl,s1,hz⟩;exact au ⟨_,rfl,kk z H1 s1 hz⟩
theorem E9{s s':TSt}{m:List Nat}(h:nxR s m=.to s'):tsW s':=by cases s<;>simp only[nxR,fz,gp,nfR]at h<;>(repeat' split at h)<;>first | (cases h;exact True.intro) | (cases h;show _<5;decide) |cases h
theorem oZ(s:TSt):tsS s≠Str.ofString ""/\tsS s≠Str.ofString "open"/\tsS s≠Str.ofString "close"/\(tsS s=Str.ofString "given"->s=.gi):=by
 cases s with
 |po p=>cases p<;>decide +kernel
 |fr b k =>
  have key:∀{z:Str} {y:List Nat},z=stL y->y.length≠2->tsS (.fr b k)≠z:=λ{z y} e hl he=>by rw[e]at he;have:=stL_inj.mp (show stL [hc b,48+k]=stL y from he);rw[<- this]at hl;exact hl rfl
  exact⟨key (y:=[]) (by decide +kernel) (by decide),key (y:=[111,112,101,110]) (by decide +kernel) (by decide),key (y:=[99,108,111,115,101]) (by decide +kernel) (by decide),λz=>absurd z (key (y:=[103,105,118,101,110]) (by decide +kernel) (by decide))⟩
 |_=>decide +kernel
theorem xh(x:NX):(V.str x.str=V.str (Str.ofString "open"))↔x=.op:=by
 cases x with
 |no=>exact⟨λe=>absurd (V.str.inj e) (by decide +kernel),λe=>by cases e⟩
 |op=>exact⟨λ_=>rfl,λ_=>rfl⟩
 |cl=>exact⟨λe=>absurd (V.str.inj e) (by decide +kernel),λe=>by cases e⟩
 |to s=>exact⟨λe=>absurd (V.str.inj e) (oZ s).2.1,λe=>by cases e⟩
theorem xi(x:NX):(V.str x.str=V.str (Str.ofString "close"))↔x=.cl:=by
 cases x with
 |no=>exact⟨λe=>absurd (V.str.inj e) (by decide +kernel),λe=>by cases e⟩
 |cl=>exact⟨λ_=>rfl,λ_=>rfl⟩
 |op=>exact⟨λe=>absurd (V.str.inj e) (by decide +kernel),λe=>by cases e⟩
 |to s=>exact⟨λe=>absurd (V.str.inj e) (oZ s).2.2.1,λe=>by cases e⟩
theorem ut(a b:Str):eqV (.str a) (.str b)=decide (a=b):=by have h:=cx a.cps.toList b.cps.toList;rw[lF,lF]at h;rw[h,decide_eq_decide];exact⟨λe=>by rw[<- lF a,<- lF b,e],λe=>by rw[e]⟩
theorem Fb(x:NX):inV (.str x.str) [.str (Str.ofString ""),.str (Str.ofString "open"),.str (Str.ofString "close")]=(match x with |.to _=>false |_=>true):=by
 cases x with
 |to s =>obtain⟨a1,a2,a3,_⟩:=oZ s;show(eqV (.str (Str.ofString "")) (.str (tsS s)) || (eqV (.str (Str.ofString "open")) (.str (tsS s)) || (eqV (.str (Str.ofString "close")) (.str (tsS s)) ||false)))=false;rw[ut,ut,ut,decide_eq_false (Ne.symm a1),decide_eq_false (Ne.symm a2),decide_eq_false (Ne.symm a3)];rfl
 |_=>decide +kernel
theorem wb{D:Ends}{σ:St}{H:Hp}{t1 t2:TS}{c1 c2:TT}(b1 b2:Bool)(e1:∀G:Bool->Hp->Prop,G b1 H->c1 σ H G)(e2:∀G:Bool->Hp->Prop,G b2 H->c2 σ H G)(h1:b1=true->b2=true->t1 D σ H)(h2:b1=false\/b2=false->t2 D σ H):mF (qH c1 c2) t1 t2 D σ H:=by
 refine dA (bQ (e1 _ ?_));cases hb1:b1 with
 |false=>exact aI (aI (h2 (.inl hb1)))
 |true =>
  refine aJ (e2 _ ?_);cases hb2:b2 with
  |true=>exact aJ (h1 hb1 hb2)
  |false=>exact aI (h2 (.inr hb2))
def SamE(pa:Addr)(H H':Hp):Prop:=∀a o,a≠pa->H a=some o->H' a=some o
theorem SamE.of{H H':Hp}{pa:Addr}(s:Same H H'):SamE pa H H':=λa o _ e=>s a o e
theorem SamE.trans{H H1 H2:Hp}{pa:Addr}(a:SamE pa H H1)(b:SamE pa H1 H2):SamE pa H H2:=λx o h1 e=>b x o h1 (a x o h1 e)
theorem SamE.upd{H:Hp}{pa:Addr}{o:HO}:SamE pa H (L2.upd H pa o):=λx o' h1 e=>by rw[L2.upd_ne h1];exact e
theorem xr:∀n:Nat,n<=2->Txt.mul (Str.ofString " ") (n:Int)=stL (List.replicate n 32)
 |0,_=>by decide +kernel
 |1,_=>by decide +kernel
 |2,_=>by decide +kernel
 |n+3,h=>absurd h (by omega)
noncomputable def Stp(st:TSt)(d:Nat)(b:Int)(m:List Nat)(at_:Nat)(st':TSt)(d':Nat)(b':Int):Prop :=
 tsW st'/\((b<0/\tnx (st,d) m=some (st',d')/\b'=b)\/(b<0/\tnx (st,d) m=none/\st'=st/\d'=d/\b'=at_)\/(0<=b/\st'=st/\d'=d/\b'=b))
def qW:Sp:=λvs H Q _=>∃(pa:Addr) (T:List Nat) (st:TSt) (d:Nat) (b:Int) (m:List Nat) (gap:Nat),vs=[.ref pa,.str (stL m),.int gap]/\LAt H pa T st d b/\tsW st/\WfM m/\m.length<=30/\T.length<=400/\gap<=2/\∀(H':Hp) (st':TSt) (d':Nat) (b':Int) (g:Nat),SamE pa H H'->g<=2->(g<=gap\/g=1)->(0<g\/dq T m)->Stp st d b m (T.length+g) st' d' b'->LAt H' pa (T++List.replicate g 32++m) st' d' b'->Q .non H'
theorem Ej{f:Addr}{fd:FuncData}(F:Fun K "_law_put" "_law_put" kz f fd)(T:Txt K mg){JI:Addr}{Jb:FuncData}(MH:Cal P w K mg base 1 "_law_glued" ["_law_text","_law_mark_here"] rh JI Jb){JE:Addr}{IY:FuncData}(MD:Cal P w K mg base 3 "_law_next" ["_law_state","_law_mark_here"] qZ JE IY):FnOk P w K mg base CX0 4 f fd ["_law_at","_law_mark_here","_law_gap"] qW:=by
 obtain⟨LX,Gn,Hf,KJ⟩:=MH;obtain⟨LS,Gh,Hb,KC⟩:=MD;refine F.ok sc__law_put (λvs H Q E h=>?_) (λcdv A outer s H vs Q E hr h=>?_)
 ·obtain⟨pa,l,st,d,b,m,gap,rfl,_⟩:=h;rfl
 ·obtain⟨pa,l,st,d,b,m,gap,rfl,hA,hw,hm,hml,hl,hgap,kk⟩:=h;have big:=sizeLine_eq
  refine⟨_,(ah (ar (bS (aw LX (hr.mono) rfl Gn Hf KJ .nil am (aa (aA (aH (K:=K) rfl) (pv 0) af (λ_ _=>rfl)) (aa (pv 1) ac))))
   (ae (aF (i:=2) sc__law_put.nd rfl (Or.inl rfl) af))
   ay)
   (ah (gg (aq bi (aA (aH (K:=K) rfl) (pv 0) af (λ_ _=>rfl)) (aq wZ ad (pv 2))) (gj (pv 0) af fH))
   (ah (ar (ao cW (aA (aH (K:=K) rfl) (pv 0) af (λ_ _=>rfl)) af (ap _))
     (ah (aF (i:=3) sc__law_put.nd rfl (Or.inl rfl) (aw LS (hr.mono) rfl Gh Hb KC .nil am (aa (aA (aH (K:=K) rfl) (pv 0) af (λ_ _=>rfl)) (aa (pv 1) ac))))
       (ae (ar (PW.pt (bR (ao aK (pv 3) ad (ap _)) (cr (ao cW (aA (aH (K:=K) rfl) (pv 0) af (λ_ _=>rfl)) af (ap _)))))
         (ah (gg (aq dj (aA (aH (K:=K) rfl) (pv 0) af (λ_ _=>rfl)) af) (gj (pv 0) af fH))
           (ae (gg (aA (aH (K:=K) rfl) (aO (aa ad (aa ad ac))) (bn ci (by rfl) T.int_ PyProof.Rows.boot_int (aa (bf aK (aA (aH (K:=K) rfl) (pv 0) af (λ_ _=>rfl)) ad (ap _)) ac)) (λ_ _=>rfl)) (gj (pv 0) af fH))))
         (ae (ar (PW.pt (bR (ao aK (pv 3) ad (ap _)) (cr (ao iA (aA (aH (K:=K) rfl) (pv 0) af (λ_ _=>rfl)) af (ap _)))))
           (ah (gg (aq gl (aA (aH (K:=K) rfl) (pv 0) af (λ_ _=>rfl)) af) (gj (pv 0) af fH))
             (ae (gg ad (gj (pv 0) af fH))))
           (ae (ar (ao (bG (K:=K) rfl) (pv 3) (bq (aa ad (aa ad (aa ad ac)))) (by rfl))
             (ae (gg (aP dL (by rfl) T.len_ PySem.boot_len (aa (aA (aH (K:=K) rfl) (pv 0) af (λ_ _=>rfl)) ac)) (gj (pv 0) af fH)))
             (ae (gg (pv 3) (gj (pv 0) af fH))))))))))
     ay)
   (ae (gg (aq bi (aA (aH (K:=K) rfl) (pv 0) af (λ_ _=>rfl)) (pv 1)) (gj (pv 0) af fH)))))),?_⟩
  have a0:∀{z0 z1 z2 z3:V},atI [z0,z1,z2,z3] 0=some z0:=rfl;have a1:∀{z0 z1 z2 z3:V},atI [z0,z1,z2,z3] 1=some z1:=rfl;have a2:∀{z0 z1 z2 z3:V},atI [z0,z1,z2,z3] 2=some z2:=rfl;have a3:∀{z0 z1 z2 z3:V},atI [z0,z1,z2,z3] 3=some z3:=rfl;refine cA (λσ' H'=>∃g:Nat,σ'=[some (.ref pa),some (.str (stL m)),some (.int g),none]/\Same H H'/\g<=2/\(g<=gap\/g=1)/\(0<g\/dq l m)) ?_ (λrest=>⟨_,rfl,pa,_,_,_,rfl,rfl,SqL.of hA,a0,_,rfl,l,m,rfl,hm.ne,by omega,by omega,λH1 s1=>⟨_,rfl,?_⟩⟩)
  rotate_left
  ·cases hg:glT l m with
   |true=>exact aJ (cp (rest _ _ ⟨1,rfl,s1,by decide,.inr rfl,.inl (by decide)⟩))
   |false=>exact aI (rest _ _ ⟨gap,rfl,s1,hgap,.inl (Ng _),.inr (Ff hg)⟩)
  rintro σ' H1 ⟨g,rfl,s1,hg1,hg2,hgl⟩;have hA1:LAt H1 pa l st d b:=s1 _ _ hA;have eb:=xr g (by omega);refine mO (λσ' H'=>σ'=[some (.ref pa),some (.str (stL m)),some (.int g),none]/\SamE pa H H'/\LAt H' pa (l++List.replicate g 32) st d b) ?_ (λrest=>?_)
  rotate_left
  ·refine⟨_,rfl,pa,_,_,_,rfl,rfl,SqL.of hA1,a0,_,rfl,_,_,rfl,rfl,rfl,by omega,by omega,_,_,rfl,rfl,by rw[eb,ak,ak,Nw];omega,_,rfl,pa,_,_,0,rfl,rfl,hA1,rfl,?_⟩;rw[eb,aG];exact rest _ _ ⟨rfl,(SamE.of s1).trans SamE.upd,aj⟩
  clear hA1 s1 H1;rintro σ' H1 ⟨rfl,s1,hA1⟩;refine cA (λσ' H'=>∃(z3:Option V) (st':TSt) (d':Nat) (b':Int),σ'=[some (.ref pa),some (.str (stL m)),some (.int g),z3]/\SamE pa H H'/\Stp st d b m (l.length+g) st' d' b'/\LAt H' pa (l++List.replicate g 32) st' d' b') ?_ (λrest=>⟨_,rfl,pa,_,_,_,rfl,rfl,SqL.of hA1,a3,_,_,rfl,rfl,_,rfl,aC (λhb=>?_) (λhb=>?_)⟩)
  rotate_left
  ·have hb':b<0:=hb;refine aN ⟨_,rfl,pa,_,_,_,rfl,rfl,SqL.of hA1,a1,_,rfl,st,m,rfl,hw,hm,by omega,λH2 s2=>?_⟩;have hA2:LAt H2 pa (l++List.replicate g 32) st d b:=s2 _ _ hA1;have hn:=AY st d m hw;have hwx:∀s',nxR st m=.to s'->tsW s':=λs' h=>E9 h
   generalize nxR st m=x at hn hwx ⊢
   have s3:=s1.trans (SamE.of s2);clear s2 hA1 s1 H1;refine wb (decide (V.str x.str=V.str (Str.ofString "open"))) (decide ((d:Int)<10)) (λG h=>⟨_,rfl,rfl,_,rfl,h⟩) (λG h=>⟨_,rfl,pa,_,_,_,rfl,rfl,SqL.of hA2,a2,_,_,rfl,rfl,_,rfl,h⟩) (λz1 z2=>?_) (λz1=>?_)
   ·have hx:=(xh x).mp (of_decide_eq_true z1);have hd:d<10:=by have:(d:Int)<10:=of_decide_eq_true z2;omega
    subst hx
    have hn':tnx (st,d) m=some (if st=.gi then .po .p0 else .bg,d+1):=by rw[hn];show(if d<10 then _ else _)=_;rw[if_pos hd]
    refine⟨_,rfl,pa,_,_,_,rfl,rfl,SqL.of hA2,a2,_,_,rfl,rfl,_,rfl,pa,_,_,2,rfl,rfl,hA2,rfl,?_⟩;have e3:upd H2 pa (.lst ([V.str (stL (l++List.replicate g 32)),V.str (tsS st),V.int d,V.int b].set 2 (V.int ((d:Int)+1)))) pa=some (.lst [V.str (stL (l++List.replicate g 32)),V.str (tsS st),V.int ((d:Int)+1),V.int b]):=aj;have s4:SamE pa H (upd H2 pa (.lst ([V.str (stL (l++List.replicate g 32)),V.str (tsS st),V.int d,V.int b].set 2 (V.int ((d:Int)+1))))):=s3.trans SamE.upd;generalize upd H2 pa (.lst ([V.str (stL (l++List.replicate g 32)),V.str (tsS st),V.int d,V.int b].set 2 (V.int ((d:Int)+1))))=H3 at e3 s4 ⊢
    refine⟨by show 2<=sizeLine;decide,λp2 hp2=>?_⟩;have u4:=Same.upd_new (o:=.lst [V.str (Str.ofString "begin"),V.str (Str.ofString "p0")]) hp2;have e4:=u4 _ _ e3;refine⟨_,rfl,pa,_,_,_,rfl,rfl,SqL.of e4,a1,rfl,.inr ⟨_,rfl,p2,_,_,_,rfl,rfl,SqL.of aj,oN _ _ _,_,rfl,pa,_,_,1,rfl,rfl,e4,rfl,?_⟩⟩;refine rest _ _ ⟨_,(if st=.gi then .po .p0 else .bg),d+1,b,rfl,(s4.trans (SamE.of u4)).trans SamE.upd,⟨by split<;>exact True.intro,.inl ⟨hb',hn',rfl⟩⟩,?_⟩
    have es:(if decide (V.str (tsS st)=V.str (Str.ofString "given"))=true then Str.ofString "p0" else Str.ofString "begin")=tsS (if st=.gi then .po .p0 else .bg):=by
     by_cases hg:st=.gi
     ·rw[if_pos hg,if_pos (decide_eq_true (by rw[hg];rfl))];rfl
     ·rw[if_neg hg,if_neg (λz=>hg ((oZ st).2.2.2 (V.str.inj (of_decide_eq_true z))))];rfl
    show upd _ pa _ pa=_;rw[es,aj];rfl
   refine wb (decide (V.str x.str=V.str (Str.ofString "close"))) (decide ((d:Int)>0)) (λG h=>⟨_,rfl,rfl,_,rfl,h⟩) (λG h=>⟨_,rfl,pa,_,_,_,rfl,rfl,SqL.of hA2,a2,_,_,rfl,rfl,_,rfl,h⟩) (λy1 y2=>?_) (λy1=>?_)
   ·have hx:=(xi x).mp (of_decide_eq_true y1);have hd:0<d:=by have:(d:Int)>0:=of_decide_eq_true y2;omega
    subst hx
    have hn':tnx (st,d) m=some (.at,d-1):=by rw[hn];show(if 0<d then _ else _)=_;rw[if_pos hd]
    refine⟨_,rfl,pa,_,_,_,rfl,rfl,SqL.of hA2,a2,_,_,rfl,rfl,_,rfl,pa,_,_,2,rfl,rfl,hA2,rfl,?_⟩;have e3:upd H2 pa (.lst ([V.str (stL (l++List.replicate g 32)),V.str (tsS st),V.int d,V.int b].set 2 (V.int ((d:Int)-1)))) pa=some (.lst [V.str (stL (l++List.replicate g 32)),V.str (tsS st),V.int ((d:Int)-1),V.int b]):=aj;have s4:SamE pa H (upd H2 pa (.lst ([V.str (stL (l++List.replicate g 32)),V.str (tsS st),V.int d,V.int b].set 2 (V.int ((d:Int)-1))))):=s3.trans SamE.upd;generalize upd H2 pa (.lst ([V.str (stL (l++List.replicate g 32)),V.str (tsS st),V.int d,V.int b].set 2 (V.int ((d:Int)-1))))=H3 at e3 s4 ⊢
    refine⟨_,rfl,pa,_,_,1,rfl,rfl,e3,rfl,?_⟩;refine rest _ _ ⟨_,.at,d-1,b,rfl,s4.trans SamE.upd,⟨True.intro,.inl ⟨hb',hn',rfl⟩⟩,?_⟩;show upd _ pa _ pa=_;rw[aj,show(d:Int)-1=((d-1:Nat):Int) by omega];rfl
   refine dA ⟨_,rfl,by show 3<=sizeLine;decide,λpt hpt=>?_⟩;have u5:=Same.upd_new (o:=.tup [V.str (Str.ofString ""),V.str (Str.ofString "open"),V.str (Str.ofString "close")]) hpt;refine⟨pt,_,rfl,.inr (SqT.of aj),rfl,by decide,_,rfl,?_⟩;have hA5:LAt _ pa (l++List.replicate g 32) st d b:=u5 _ _ hA2;have s5:=s3.trans (SamE.of u5);generalize upd H2 pt (.tup [V.str (Str.ofString ""),V.str (Str.ofString "open"),V.str (Str.ofString "close")])=H5 at s5 hA5 u5 ⊢
   show if inV (.str x.str) [.str (Str.ofString ""),.str (Str.ofString "open"),.str (Str.ofString "close")]=true then _ else _
   rw[Fb];cases hx:x with
   |to s' =>rw[hx]at hn;refine aI ⟨_,rfl,_,rfl,pa,_,_,1,rfl,rfl,hA5,rfl,?_⟩;exact rest _ _ ⟨_,s',d,b,rfl,s5.trans SamE.upd,⟨hwx s' hx,.inl ⟨hb',hn,rfl⟩⟩,aj⟩
   |no =>rw[hx]at hn;refine aJ ⟨_,rfl,pa,_,_,_,rfl,rfl,SqL.of hA5,a0,_,rfl,by rw[ak,Nf,Nw];omega,_,rfl,pa,_,_,3,rfl,rfl,hA5,rfl,?_⟩;rw[ak,Nf,Nw];exact rest _ _ ⟨_,st,d,_,rfl,s5.trans SamE.upd,⟨hw,.inr (.inl ⟨hb',hn,rfl,rfl,rfl⟩)⟩,aj⟩
   |op =>
    have hd:¬d<10:=λhd=>by
     rcases z1 with z |z
     ·exact(of_decide_eq_false z) ((xh x).mpr hx)
     ·exact(of_decide_eq_false z) (by omega)
    rw[hx]at hn;have hn':tnx (st,d) m=none:=by rw[hn];show(if d<10 then _ else _)=_;rw[if_neg hd]
    refine aJ ⟨_,rfl,pa,_,_,_,rfl,rfl,SqL.of hA5,a0,_,rfl,by rw[ak,Nf,Nw];omega,_,rfl,pa,_,_,3,rfl,rfl,hA5,rfl,?_⟩;rw[ak,Nf,Nw];exact rest _ _ ⟨_,st,d,_,rfl,s5.trans SamE.upd,⟨hw,.inr (.inl ⟨hb',hn',rfl,rfl,rfl⟩)⟩,aj⟩
   |cl =>
    have hd:¬0<d:=λhd=>by
     rcases y1 with z |z
     ·exact(of_decide_eq_false z) ((xi x).mpr hx)
     ·exact(of_decide_eq_false z) (by omega)
    rw[hx]at hn;have hn':tnx (st,d) m=none:=by rw[hn];show(if 0<d then _ else _)=_;rw[if_neg hd]
    refine aJ ⟨_,rfl,pa,_,_,_,rfl,rfl,SqL.of hA5,a0,_,rfl,by rw[ak,Nf,Nw];omega,_,rfl,pa,_,_,3,rfl,rfl,hA5,rfl,?_⟩;rw[ak,Nf,Nw];exact rest _ _ ⟨_,st,d,_,rfl,s5.trans SamE.upd,⟨hw,.inr (.inl ⟨hb',hn',rfl,rfl,rfl⟩)⟩,aj⟩
  ·have hb':¬b<0:=hb;exact rest _ _ ⟨_,st,d,b,rfl,s1,⟨hw,.inr (.inr ⟨by omega,rfl,rfl,rfl⟩)⟩,hA1⟩
  rintro σ' H2 ⟨z3,st',d',b',rfl,s2,hS,hA2⟩;refine⟨_,rfl,pa,_,_,_,rfl,rfl,SqL.of hA2,a0,_,rfl,_,_,rfl,rfl,by rw[ak,ak,Nf,Nw];omega,_,rfl,pa,_,_,0,rfl,rfl,hA2,rfl,?_⟩;rw[aG];exact kk _ st' d' b' g (s2.trans SamE.upd) hg1 hg2 hgl hS aj
theorem Eu{f:Addr}{fd:FuncData}(F:Fun K "_law_cell" "_law_cell" kJ f fd)(T:Txt K mg):FnOk P w K mg base CX0 1 f fd ["_law_script","_law_k"] (jS K):=by
 refine F.ok B3 (λvs H Q E h=>?_) (λcdv A outer s H vs Q E hr h=>?_)
 ·obtain⟨a,ns,k,rfl,_⟩:=h;rfl
 ·obtain⟨a,ns,n,rfl,hS,k⟩:=h
  refine⟨_,(ah (ar (ao cW (pv 1) (aP (fC (K:=K) rfl) (by rfl) T.len_ PySem.boot_len (aa (pv 0) ac)) (ap _))
   (ae (ai (aA (aH (K:=K) rfl) (pv 0) (pv 1) (λ_ _=>rfl))))
   ay)
   (ae (ai af))),?_⟩
  refine⟨_,rfl,_,rfl,a,_,rfl,.inl hS,_,_,rfl,rfl,_,rfl,?_⟩;refine aC (λh1=>?_) (λh1=>?_)
  ·rw[Nh]at h1;have h2:n<ns.length:=by omega
   refine⟨_,rfl,_,rfl,a,_,_,_,rfl,rfl,hS,jD (v:=.int (ns.getD n 0)) ?_,k⟩;rw[List.getElem?_map,List.getElem?_eq_getElem h2];simp[List.getD,h2]
  ·rw[Nh]at h1;have h2:ns.length<=n:=by omega
   have e:ns.getD n 0=0:=by simp[List.getD,List.getElem?_eq_none_iff.mpr h2]
   rw[e]at k;exact k
def qM:Sp:=λvs H Q _=>∃i:Int,vs=[.int i]/\Q (.bl true) H
theorem Ee{f:Addr}{fd:FuncData}(F:Fun K "_law_whole" "_law_whole" kq f fd)(T:Txt K mg):FnOkH P w K mg base 1 f fd ["_law_found"] qM:=by
 refine F.okH BW (λvs H Q E h=>?_) (λcdv A outer s H vs Q E hr h=>?_)
 ·obtain⟨i,rfl,_⟩:=h;rfl
 ·obtain⟨i,rfl,k⟩:=h;refine⟨_,(ae (ai (cu (aP (dM (K:=K) rfl) (by rfl) T.isinstance_ PyProof.Rows.boot_isinstance (aa (pv 0) (aa (pD (v:=.ty "int") (by rfl) T.int_ PyProof.Rows.boot_int (by rfl)) ac))) (bT (gN (aP (dM (K:=K) rfl) (by rfl) T.isinstance_ PyProof.Rows.boot_isinstance (aa (pv 0) (aa (pD (v:=.ty "bool") (by rfl) T.bool_ PyProof.Rows.boot_bool (by rfl)) ac)))))))),?_⟩;refine au (cq (cT ⟨_,rfl,tz (.int i) (k:=true) (by rfl) ⟨_,rfl,aJ ?_⟩⟩));refine rE (cT ⟨_,rfl,tz (.int i) (k:=false) (by rfl) ⟨_,rfl,?_⟩⟩);exact k
theorem vz{u:Mk}{c' c'':TC2}(h2:tnx c' u.1=some c''):∀{ps:List Mk} {c:TC2},tgo c ps=(c',[])->tgo c (ps++[u])=(c'',[])
 | [],c,h=>by have:c=c':=congrArg Prod.fst h;subst this;exact(ie h2).trans rfl
 |v::ps,c,h=>by
  cases e:tnx c v.1 with
  |none=>rw[jN e]at h;cases h
  |some x =>rw[ie e]at h;rw[Nq,ie e];exact vz h2 h
theorem vy{u:Mk}{c':TC2}{r:List Mk}(h2:tnx c' u.1=none):∀{ps:List Mk} {c:TC2},tgo c ps=(c',[])->tgo c (ps++u::r)=(c',u::r)
 | [],c,h=>by have:c=c':=congrArg Prod.fst h;subst this;exact jN h2
 |v::ps,c,h=>by
  cases e:tnx c v.1 with
  |none=>rw[jN e]at h;cases h
  |some x =>rw[ie e]at h;rw[Nq,ie e];exact vy h2 h
def LInv(T:List Nat)(st:TSt)(d:Nat)(b:Int)(n:Nat):Prop:=tsW st/\(mks 0 T).length<=n/\Mb (mks 0 T)/\∃ps:List Mk,tgo (.bg,0) ps=((st,d),[])/\(b<0->mks 0 T=ps)/\(0<=b->∃(m:List Nat) (r:List Mk) (k:Nat),b=k/\mks 0 T=ps++(m,k)::r/\tnx (st,d) m=none)
theorem LInv.start:LInv [] .bg 0 (-1) 0:=⟨True.intro,Ng _,(λu hu=>by cases hu),[],rfl,λ_=>rfl,λh=>absurd h (by decide)⟩
theorem LInv.put{T m:List Nat}{st st':TSt}{d d':Nat}{b b':Int}{n g:Nat}(h:LInv T st d b n)(hm:WfM m)(hl:m.length<=12)(hg:0<g\/dq T m)(hS:Stp st d b m (T.length+g) st' d' b'):LInv (T++List.replicate g 32++m) st' d' b' (n+1):=by
 obtain⟨h0,hn,hb0,ps,e1,h1,h2⟩:=h;obtain⟨hw,hS⟩:=hS;have hp:=xv hm hg;refine⟨hw,by rw[hp,Nf];exact Nat.succ_le_succ hn,?_,?_⟩
 ·rw[hp];intro u hu;rcases No.mp hu with hu |hu
  ·exact hb0 u hu
  ·have:u=(m,T.length+g):=by simpa using hu
   rw[this];exact hl
 rcases hS with⟨hb,hn,rfl⟩ |⟨hb,hn,rfl,rfl,rfl⟩ |⟨hb,rfl,rfl,rfl⟩
 ·exact⟨ps++[(m,T.length+g)],vz (u:=(m,T.length+g)) hn e1,λ_=>by rw[hp,h1 hb],λz=>absurd z (by omega)⟩
 ·exact⟨ps,e1,λz=>absurd z (by omega),λ_=>⟨m,[],T.length+g,rfl,by rw[hp,h1 hb],hn⟩⟩
 ·refine⟨ps,e1,λz=>absurd z (by omega),λ_=>?_⟩;obtain⟨m0,r,k,eb,e4,hn⟩:=h2 hb;exact⟨m0,r++[(m,T.length+g)],k,eb,by rw[hp,e4,Nl];rfl,hn⟩
theorem wY(us:List Mk):cV us=lA us:=rfl
theorem LInv.bad{T:List Nat}{st:TSt}{d:Nat}{b:Int}{n:Nat}(k:Nat)(h:LInv T st d b n)(hb:0<=b):∃r,cV (mks 0 (T++List.replicate k 32))=.inl r/\∀e,((mbg e r:Nat):Int)=b:=by
 obtain⟨h0,hn,hb0,ps,e1,h1,h2⟩:=h;obtain⟨m0,r,j,eb,e4,hn⟩:=h2 hb
 have e5:tgo (.bg,0) (mks 0 (T++List.replicate k 32))=((st,d),(m0,j)::r):=by rw[xz,e4];exact vy (u:=(m0,j)) hn e1
 refine⟨(m0,j)::r,?_,λe=>by rw[eb];rfl⟩;rw[wY,zY (.inl (by rw[e5];simp)),e5]
theorem LInv.good{T:List Nat}{st:TSt}{d:Nat}{b:Int}{n:Nat}(k:Nat)(h:LInv T st d b n)(hb:b<0):tgo (.bg,0) (mks 0 (T++List.replicate k 32))=((st,d),[])/\(mks 0 (T++List.replicate k 32)).length<=n/\Mb (mks 0 (T++List.replicate k 32)):=by obtain⟨h0,hn,hb0,ps,e1,h1,h2⟩:=h;rw[xz];exact⟨by rw[h1 hb];exact e1,hn,hb0⟩
theorem LInv.early{T:List Nat}{st:TSt}{d:Nat}{b:Int}{n:Nat}(k:Nat)(h:LInv T st d b n)(hb:b<0)(hf:bW (st,d)=false):cV (mks 0 (T++List.replicate k 32))=.inl []:=by obtain⟨e,_,_⟩:=h.good k hb;rw[wY,zY (.inr (by rw[e];exact hf)),e]
theorem LInv.read{T:List Nat}{st:TSt}{d:Nat}{b:Int}{n:Nat}(k:Nat)(h:LInv T st d b n)(hb:b<0)(hf:bW (st,d)=true)(hn:n<=110):∃t,cV (mks 0 (T++List.replicate k 32))=.inr (t,[])/\OkT t/\dep t<=10/\t.hgt<=60/\(tx t).length<=110000:=by obtain⟨e,e2,e3⟩:=h.good k hb;obtain⟨t,et⟩:=Lg (by rw[e]) (by rw[e];exact hf);exact⟨t,et,Lj e3 (by omega) et⟩
theorem LInv.mono{T:List Nat}{st:TSt}{d:Nat}{b:Int}{n m:Nat}(h:LInv T st d b n)(hn:n<=m:=by decide):LInv T st d b m:=⟨h.1,Nk h.2.1 hn,h.2.2⟩
def qU:Sp:=λvs H Q _=>∃(l:List Nat) (b:Int) (r:List Mk),vs=[.str (stL l),.int b]/\Pla l/\cV (mks 0 l)=.inl r/\((mbg l.length r:Nat):Int)=b/\∀H',Same H H'->Q (.bl true) H'
theorem Ei{CWhole CNamed CGiven CMinus CSum CLess CTimes COver CPower CRooted CRatio f:Addr}{fd:FuncData}(F:Fun K "_law_refused" "_law_refused" ky f fd)(T:Txt K mg){CNoText CRootError CNoName CNoRow:Addr}(XE:EXC K mg base CNoText CRootError CNoName CNoRow){t5:Addr}{tK:FuncData}(va:CalV P w K mg base 73 "read" ["text"] (pc CNoText ⟨CWhole,CNamed,CGiven,CMinus,CSum,CLess,CTimes,COver,CPower,CRooted,CRatio⟩) t5 tK){Jx:Addr}{IR:FuncData}(Mv:CalH P w K mg base 1 "_law_whole" ["_law_found"] qM Jx IR){dI:Addr}{dH:FuncData}(C_NoText:XCal P w K mg base 1 CNoText "NoText" "at" ["self","at"] dI dH):FnOk P w K mg base CX0 74 f fd ["_law_text","_law_place"] qU:=by
 obtain⟨qt,pR,p7,qq⟩:=va;obtain⟨GH__law_whole,m__law_whole,k__law_whole,b__law_whole⟩:=Mv;have G__law_whole:=GH__law_whole.toFn;refine F.ok sc__law_refused (λvs H Q E h=>?_) (λcdv A outer s H vs Q E hr h=>?_)
 ·obtain⟨l,b,r,rfl,_⟩:=h;rfl
 ·obtain⟨l,b,r,rfl,hl,hbad,hb,k⟩:=h;subst hb
  refine⟨_,(ah (aF (i:=2) sc__law_refused.nd rfl (Or.inl rfl) gk)
   (ah (C3 rfl rfl (CY qt (hr.mono) (λ_=>rfl) pR p7 qq .nil (λ_=>(aa (pv 0) ac))) (λ_ _=>rfl) XE.mgRootError sc__law_refused.nd (i:=3) rfl rfl (λea oe=>(ah (aF (i:=4) sc__law_refused.nd rfl (Or.inl rfl) (cu (aP ql (by rfl) T.isinstance_ PyProof.Rows.boot_isinstance (aa (pv 3) (aa (pD (v:=.ty "ValueError") (by rfl) T.ValueError_ PyProof.Rows.boot_ValueError (by rfl)) ac))) (cu (gN (aP ql (by rfl) T.isinstance_ PyProof.Rows.boot_isinstance (aa (pv 3) (aa (bU (v:=.ref CNoName) rfl XE.mgNoName rfl) ac)))) (bT (gN (aP ql (by rfl) T.isinstance_ PyProof.Rows.boot_isinstance (aa (pv 3) (aa (bU (v:=.ref CNoRow) rfl XE.mgNoRow rfl) ac))))))))
     (ae (aF (i:=2) sc__law_refused.nd rfl (Or.inl rfl) (cu (aP ql (by rfl) T.isinstance_ PyProof.Rows.boot_isinstance (aa (pv 3) (aa (bU (v:=.ref CNoText) rfl XE.mgNoText rfl) ac))) (cu (pv 4) (cu (Du (E:=E0) GH__law_whole ((hr.mono).held _) rfl m__law_whole k__law_whole b__law_whole .nil (aa (wN (pv 3) rfl) ac)) (bT (bf bM (wN (pv 3) rfl) (pv 1) (ap _)))))))))))
   (ae (ai (pv 2))))),?_⟩
  refine aN ?_;refine⟨_,rfl,l,rfl,hl,λt ht=>?_,λr' hr' H' dx s' ed=>⟨XE.hit_NoText_RootError,λea oe vs ce de fe he=>?_⟩⟩
  ·rw[hbad]at ht;cases ht
  rw[hbad]at hr';cases hr';have lk:([(("at":Str),V.int ((mbg l.length r:Nat):Int))]:List (Str×V)).lookup ("at":Str)=some (V.int ((mbg l.length r:Nat):Int)):=by simp[List.lookup]
  refine aN (cq (pz ⟨_,rfl,Hv ce C_NoText.ec XE.is_NoText_ValueError ⟨_,rfl,aJ ?_⟩⟩));refine cq (rE (pz ⟨_,rfl,tE ce C_NoText.ec XE.is_NoText_NoName ⟨_,rfl,⟨_,rfl,aJ ?_⟩⟩⟩));refine rE (pz ⟨_,rfl,tE ce C_NoText.ec XE.is_NoText_NoRow ⟨_,rfl,?_⟩⟩);refine cp (cq (pz ⟨_,rfl,tE ce C_NoText.ec XE.is_NoText_NoText ⟨_,rfl,aJ ?_⟩⟩));refine cq ⟨_,rfl,_,rfl,aJ ?_⟩;refine cq ⟨_,rfl,_,dx,vs,_,_,rfl,ce,de,fe,C_NoText.xc,C_NoText.ec,C_NoText.na,ed,lk,?_⟩;refine⟨_,rfl,_,rfl,aJ ?_⟩;refine⟨_,rfl,_,dx,vs,_,_,rfl,ce,de,fe,C_NoText.xc,C_NoText.ec,C_NoText.na,ed,lk,_,rfl,_,_,rfl,rfl,?_⟩;refine⟨_,rfl,?_⟩;have q:=k H' s';simpa using q
theorem Lh{d rk:Nat}{ms:List (List Nat)}{t:PT}{us:List Mk}(g:Gr rk d ms t)(hd:d<=10)(hu:us.map (·.1)=ms):cV us=.inr (t,[]):=by have h:=(g.rd hd hu).r0 [] (by decide) (by decide) (by decide);rw[Ny,<- iz]at h;unfold cV;rw[h];rfl
def LWI(H1:Hp)(pa:Addr)(N L:Nat)(H':Hp):Prop:=SamE pa H1 H'/\∃(T:List Nat) (st:TSt) (d:Nat) (b:Int),LAt H' pa T st d b/\LInv T st d b N/\(∀c∈T,c<128)/\T.length<=L
theorem LWI.put{H1 H H':Hp}{pa:Addr}{N L:Nat}{T m:List Nat}{st st':TSt}{d d':Nat}{b b':Int}{g:Nat}(s:SamE pa H1 H)(hI:LInv T st d b N)(ha:∀c∈T,c<128)(hm:WfM m)(hml:m.length<=12)(s2:SamE pa H H')(hl:T.length+m.length+g<=L)(hgl:0<g\/dq T m)(hS:Stp st d b m (T.length+g) st' d' b')(hA:LAt H' pa (T++List.replicate g 32++m) st' d' b'):LWI H1 pa (N+1) L H':=by
 refine⟨s.trans s2,_,_,_,_,hA,hI.put hm hml hgl hS,λc hc=>?_,?_⟩
 ·rcases No.mp hc with hc |hc
  ·rcases No.mp hc with hc |hc
   ·exact ha c hc
   ·rw[List.eq_of_mem_replicate hc];decide
  ·exact hm.asc c hc
 ·rw[Nf,Nf,Nw];omega
theorem LWI.mono{H1 H':Hp}{pa:Addr}{N L M J:Nat}(h:LWI H1 pa N L H')(hN:N<=M)(hL:L<=J:=by decide):LWI H1 pa M J H':=by obtain⟨s,T,st,d,b,a1,a2,a3,a4⟩:=h;exact⟨s,T,st,d,b,a1,a2.mono hN,a3,by omega⟩
theorem LWI.same{H1 H H':Hp}{pa:Addr}{N L:Nat}(h:LWI H1 pa N L H)(s:Same H H'):LWI H1 pa N L H':=by obtain⟨s0,T,st,d,b,a1,a2⟩:=h;exact⟨s0.trans (SamE.of s),T,st,d,b,s _ _ a1,a2⟩
theorem Ih(c:Int):∃g:Nat,g<=2/\(if c*69621%65539%5-3>0 then c*69621%65539%5-3 else 0)=(g:Int):=by
 have h0:=NL (c*69621%65539) (b:=5) (by decide);have h1:=NP (c*69621%65539) (b:=5) (by decide);generalize c*69621%65539%5=x at h0 h1 ⊢
 by_cases h:x-3>0
 ·exact⟨1,by decide,by rw[if_pos h];omega⟩
 ·exact⟨0,by decide,by rw[if_neg h];rfl⟩
theorem MkT.ex{z:Str}(h:MkT z):∃m,z=stL m/\WfM m/\m.length<=12:=⟨z.cps.toList,(lF z).symm,h.1,h.2⟩
theorem D4{CWhole CNamed CGiven CMinus CSum CLess CTimes COver CPower CRooted CRatio CPart CNoText f:Addr}{fd:FuncData}(F:Fun K "law" "law" fQ f fd)(T:Txt K mg)(RRatio:RCI K mg CRatio)(RWhole:PCI K mg CWhole "Whole" ["value"])(RNamed:PCI K mg CNamed "Named" ["word"])(RGiven:GCI K mg CGiven)(RMinus:PCI K mg CMinus "Minus" ["one"])(RSum:PCI K mg CSum "Sum" ["one","other"])(RLess:PCI K mg CLess "Less" ["one","other"])(RTimes:PCI K mg CTimes "Times" ["one","other"])(ROver:PCI K mg COver "Over" ["one","other"])(RPower:PCI K mg CPower "Power" ["one","power"])(RRooted:PCI K mg CRooted "Rooted" ["one","power"])(RPart:PCI K mg CPart "Part" [])(xN:nG K [CWhole,CNamed,CGiven,CMinus,CSum,CLess,CTimes,COver,CPower,CRooted]=true)(xU:p8 K CPart [CWhole,CNamed,CGiven,CMinus,CSum,CLess,CTimes,COver,CPower,CRooted]=true){JK:Addr}{Jd:FuncData}(MJ:Cal P w K mg base 1 "_law_cell" ["_law_script","_law_k"] (jS K) JK Jd){JG:Addr}{I9:FuncData}(MF:Cal P w K mg base 3 "_law_mark" ["_law_at","_law_cell_here","_law_wild_here","_law_way"] rc JG I9){JL:Addr}{Je:FuncData}(MK:Cal P w K mg base 1 "_law_any" ["_law_cell_here"] rq JL Je){JB:Addr}{IV:FuncData}(MA:Cal P w K mg base 4 "_law_put" ["_law_at","_law_mark_here","_law_gap"] qW JB IV){JJ:Addr}{Jc:FuncData}(MI:Cal P w K mg base 1 "_law_ended" ["_law_at"] rm JJ Jc){JH:Addr}{Ja:FuncData}(MG:Cal P w K mg base 1 "_law_last" ["_law_state"] rg JH Ja){JA:Addr}{IU:FuncData}(Mz:Cal P w K mg base 74 "_law_refused" ["_law_text","_law_place"] qU JA IU){t5:Addr}{tK:FuncData}(va:CalV P w K mg base 73 "read" ["text"] (pc CNoText ⟨CWhole,CNamed,CGiven,CMinus,CSum,CLess,CTimes,COver,CPower,CRooted,CRatio⟩) t5 tK){jg:Addr}{iS:FuncData}{ju:List Value}(lZ:KCal P w K mg base 1 CWhole "Whole" ["self","value"] (cm CWhole "value") jg iS ju []){jp:Addr}{ja:FuncData}{jA:List Value}(mr:KCal P w K mg base 1 CNamed "Named" ["self","word"] (cm CNamed "word") jp ja jA []){um:Addr}{t0:FuncData}{uv:List Value}(Au:KCal P w K mg base 1 CGiven "Given" ["self","row","low","high"] (pp CGiven) um t0 uv []){ud:Addr}{tT:FuncData}{uu:List Value}(As:KCal P w K mg base 2 CRatio "Ratio" ["self","top","bottom"] (mK CRatio) ud tT uu [.int 1]){jq:Addr}{jb:FuncData}{jB:List Value}(mv:KCal P w K mg base 1 CMinus "Minus" ["self","one"] (cm CMinus "one") jq jb jB []){jn:Addr}{iZ:FuncData}{jy:List Value}(mj:KCal P w K mg base 1 CPower "Power" ["self","one","exponent"] (aV CPower "one" "power") jn iZ jy []){jj:Addr}{iV:FuncData}{jx:List Value}(mf:KCal P w K mg base 1 CRooted "Rooted" ["self","one","exponent"] (aV CRooted "one" "power") jj iV jx []){ji:Addr}{iU:FuncData}{jw:List Value}(me:KCal P w K mg base 1 CSum "Sum" ["self","one","other"] (aV CSum "one" "other") ji iU jw []){jr:Addr}{jc:FuncData}{jC:List Value}(mw:KCal P w K mg base 1 CLess "Less" ["self","one","other"] (aV CLess "one" "other") jr jc jC []){jh:Addr}{iT:FuncData}{jv:List Value}(md:KCal P w K mg base 1 CTimes "Times" ["self","one","other"] (aV CTimes "one" "other") jh iT jv []){jo:Addr}{i0:FuncData}{jz:List Value}(mn:KCal P w K mg base 1 COver "Over" ["self","one","other"] (aV COver "one" "other") jo i0 jz []){eW:Addr}{eU:FuncData}(eh:Cal P w K mg base 1 "whole_text" ["value"] gG eW eU){om:Addr}{nZ:FuncData}(oU:Cal P w K mg base 3 "poly_text" ["row"] mH om nZ){oz:Addr}{n9:FuncData}(oX:MCal P w K mg base 2 CRatio "text" ["self"] (mG CRatio) oz n9){gC:Addr}{gA:FuncData}(C_is_sum:RawC K mg "is_sum" fR ["tree"] gC gA){oq:Addr}{n5:FuncData}(C_is_product:RawC K mg "is_product" fS ["tree"] oq n5){jf:Addr}{iR:FuncData}(C_is_atom:RawC K mg "is_atom" fT ["tree"] jf iR){cZ:Addr}{cY:FuncData}(C_within:RawC K mg "within" fJ ["tree","bare"] cZ cY){je:Addr}{iQ:FuncData}(C_product_text:RawC K mg "product_text" fP ["one","mark","other"] je iQ){t9:Addr}{tP:FuncData}(C_Whole_text:RawM K CWhole "text" "Whole.text" fU ["self"] t9 tP){ul:Addr}{tZ:FuncData}(C_Given_text:RawM K CGiven "text" "Given.text" gf ["self"] ul tZ){ug:Addr}{tW:FuncData}(C_Named_text:RawM K CNamed "text" "Named.text" gb ["self"] ug tW){uh:Addr}{tX:FuncData}(C_Minus_text:RawM K CMinus "text" "Minus.text" gc ["self"] uh tX){ub:Addr}{tR:FuncData}(C_Sum_text:RawM K CSum "text" "Sum.text" fW ["self"] ub tR){uk:Addr}{tY:FuncData}(C_Less_text:RawM K CLess "text" "Less.text" gd ["self"] uk tY){ua:Addr}{tQ:FuncData}(C_Times_text:RawM K CTimes "text" "Times.text" fV ["self"] ua tQ){uf:Addr}{tV:FuncData}(C_Over_text:RawM K COver "text" "Over.text" fZ ["self"] uf tV){ue:Addr}{tU:FuncData}(C_Power_text:RawM K CPower "text" "Power.text" fY ["self"] ue tU){uc:Addr}{tS:FuncData}(C_Rooted_text:RawM K CRooted "text" "Rooted.text" fX ["self"] uc tS):FnOk P w K mg base CX0 183 f fd ["_law_script"] (pj K):=by
 have AA:CsA K ⟨CWhole,CNamed,CGiven,CMinus,CSum,CLess,CTimes,COver,CPower,CRooted,CRatio⟩:=⟨λκ=>by
  cases κ with
  |wh=>exact RWhole.ca
  |na=>exact RNamed.ca
  |gi=>exact RGiven.ca
  |mi=>exact RMinus.ca
  |su=>exact RSum.ca
  |le=>exact RLess.ca
  |ti=>exact RTimes.ca
  |ov=>exact ROver.ca
  |po=>exact RPower.ca
  |ro=>exact RRooted.ca,Hy xN CRatio⟩
 have UU:∀κ:Kd,PySem.W.kitOne K (.ref ((⟨CWhole,CNamed,CGiven,CMinus,CSum,CLess,CTimes,COver,CPower,CRooted,CRatio⟩:TC).at κ)) (.ref CPart)=some true:=λκ=>Hq xU (by cases κ<;>simp[TC.at])
 have D_text:=A0 (tc:=⟨CWhole,CNamed,CGiven,CMinus,CSum,CLess,CTimes,COver,CPower,CRooted,CRatio⟩) T RRatio RWhole RNamed RGiven RMinus RSum RLess RTimes ROver RPower RRooted rfl AA eh oU oX C_is_sum C_is_product C_is_atom C_within C_product_text C_Whole_text C_Given_text C_Named_text C_Minus_text C_Sum_text C_Less_text C_Times_text C_Over_text C_Power_text C_Rooted_text 60;obtain⟨oS,nc,nE,oM⟩:=MJ;obtain⟨LV,Gj,Hd,KH⟩:=MF;obtain⟨LY,Go,Hg,KK⟩:=MK;obtain⟨Am,x6,yx,zR⟩:=MA;obtain⟨An,x8,yy,zS⟩:=MI;obtain⟨LW,Gk,He,KI⟩:=MG;obtain⟨Al,xZ,yw,zQ⟩:=Mz;obtain⟨qt,pR,p7,qq⟩:=va;refine F.ok sc_law (λvs H Q E h=>?_) (λcdv A outer s H vs Q E hr h=>?_)
 ·obtain⟨a,ns,rfl,_⟩:=h;rfl
 ·obtain⟨a,ns,rfl,hS,hlen,k⟩:=h;have big:=sizeLine_eq;have sm:∀n:Int,0<=n->n<1000->Bits 9000 n:=λn a b=>Bits.mono (j:=10) (by show n.natAbs<2^10;omega) (by decide)
  refine⟨_,(ah (aF (i:=1) sc_law.nd rfl (Or.inl rfl) (aO (aa ad (aa ad (aa af (aa (ft fj af) ac))))))
   (ah (aF (i:=2) sc_law.nd rfl (Or.inl rfl) (aA (aH (K:=K) rfl) (aO (aa af (aa af (aa af ac)))) (aq bD (aw oS (hr.mono) rfl nc nE oM .nil am (aa (pv 0) (aa af ac))) af) (λ_ _=>rfl)))
   (ah (aF (i:=3) sc_law.nd rfl (Or.inl rfl) (aq bD (aq cX (aw oS (hr.mono) rfl nc nE oM .nil am (aa (pv 0) (aa af ac))) af) af))
   (ah (mS PassesOwn.never rfl (Dn (K:=K) rfl (lw (vS (K:=K) rfl) (pv 0) (gh af) (gh af))) (ix (i:=4) sc_law.nd rfl (Or.inl rfl))
     (ah (aF (i:=5) sc_law.nd rfl (Or.inl rfl) (aw LV (hr.mono) rfl Gj Hd KH .nil am (aa (pv 1) (aa (pv 4) (aa (pv 2) (aa (pv 3) ac))))))
       (ah (aF (i:=6) sc_law.nd rfl (Or.inl rfl) (aP (zy rfl) (by rfl) T.max_ PyProof.Rows.boot_max (aa af (aa (aq gl (aq bD (aq bD (aq DA (pv 4) af) af) af) af) ac))))
       (ah (ar (ao bM (aq bD (aq cX (aw oS (hr.mono) rfl nc nE oM .nil am (aa (pv 0) (aa af ac))) af) af) af (ap _))
         (ah (aF (i:=5) sc_law.nd rfl (Or.inl rfl) (aw LY (hr.mono) rfl Go Hg KK .nil am (aa (pv 4) ac)))
           (ae (aF (i:=6) sc_law.nd rfl (Or.inl rfl) (aq bD (aq cX (pv 4) af) af))))
         ay)
       (ae (ar (ao cW (aq dj (aP dL (by rfl) T.len_ PySem.boot_len (aa (aA (aH (K:=K) rfl) (pv 1) af (λ_ _=>rfl)) ac)) (aP dL (by rfl) T.len_ PySem.boot_len (aa (pv 5) ac))) af (ap _))
         (ae (cH (aw Am (hr.mono) rfl x6 yx zR .nil am (aa (pv 1) (aa (pv 5) (aa (pv 6) ac))))))
         ay))))))
   (ah (mS PassesOwn.never rfl (wL rfl T.range_ (aa af ac)) (ix (i:=7) sc_law.nd rfl (Or.inl rfl))
     (ae (ar (PW.pt (bR (ao iA (aq bD (aw oS (hr.mono) rfl nc nE oM .nil am (aa (pv 0) (aa af ac))) af) af (ap _)) (bR (ao cW (aA (aH (K:=K) rfl) (pv 1) af (λ_ _=>rfl)) af (ap _)) (cr (gK (bS (aw An (hr.mono) rfl x8 yy zS .nil am (aa (pv 1) ac))))))))
       (ae (cH (aw Am (hr.mono) rfl x6 yx zR .nil am (aa (pv 1) (aa (aw LW (hr.mono) rfl Gk He KI .nil am (aa (aA (aH (K:=K) rfl) (pv 1) af (λ_ _=>rfl)) ac)) (aa af ac))))))
       ay)))
   (ah (aF (i:=8) sc_law.nd rfl (Or.inl rfl) (aq bi (aA (aH (K:=K) rfl) (pv 1) af (λ_ _=>rfl)) (aq wZ ad (aq bD (aq cX (aw oS (hr.mono) rfl nc nE oM .nil am (aa (pv 0) (aa af ac))) af) af))))
   (ah (ar (PW.pt (bR (ao cW (aA (aH (K:=K) rfl) (pv 1) af (λ_ _=>rfl)) af (ap _)) (cr (gK (bS (aw An (hr.mono) rfl x8 yy zS .nil am (aa (pv 1) ac)))))))
     (ae (gg (aP dL (by rfl) T.len_ PySem.boot_len (aa (pv 8) ac)) (gj (pv 1) af fH)))
     ay)
   (ah (ar (ao xb (aA (aH (K:=K) rfl) (pv 1) af (λ_ _=>rfl)) af (ap _))
     (ae (ai (cu (aw Al (hr.mono) rfl xZ yw zQ .nil am (aa (pv 8) (aa (aA (aH (K:=K) rfl) (pv 1) af (λ_ _=>rfl)) ac))) (bT (aw Al (hr.mono) rfl xZ yw zQ .nil am (aa (pv 8) (aa (aA (aH (K:=K) rfl) (pv 1) af (λ_ _=>rfl)) ac)))))))
     ay)
   (ah (aF (i:=9) sc_law.nd rfl (Or.inl rfl) (aw qt (hr.mono) rfl pR p7 qq .nil wR (aa (pv 8) ac)))
   (ah (ar (gK (bS (aP (dM (K:=K) rfl) (by rfl) T.isinstance_ PyProof.Rows.boot_isinstance (aa (pv 9) (aa (bU (v:=.ref CPart) rfl RPart.mg rfl) ac)))))
     (ae (ai gk))
     ay)
   (ah (aF (i:=10) sc_law.nd rfl (Or.inl rfl) (lv (pv 9) D_text (hr.mono (by omega))))
   (ah (ar (gK (bS (aP (dM (K:=K) rfl) (by rfl) T.isinstance_ PyProof.Rows.boot_isinstance (aa (pv 10) (aa (pD (v:=.ty "str") (by rfl) T.str_ PyProof.Rows.boot_str (by rfl)) ac)))))
     (ae (ai gk))
     ay)
   (ae (ai (gM (bf iA (aP dL (by rfl) T.len_ PySem.boot_len (aa (pv 10) ac)) af (ap _)) (bT (bf aK (lv (aw qt (hr.mono) rfl pR p7 qq .nil wR (aa (pv 10) ac)) D_text (hr.mono (by omega))) (pv 10) (ap _)))))))))))))))))),?_⟩
  refine aN ⟨_,rfl,by show 4<=sizeLine;decide,λpa hpa=>?_⟩;have s2:=Same.upd_new (o:=.lst [.str (Str.ofString ""),.str (Str.ofString "begin"),.int 0,.int (-1)]) hpa;have e2:upd H pa (.lst [.str (Str.ofString ""),.str (Str.ofString "begin"),.int 0,.int (-1)]) pa=some (.lst [.str (Str.ofString ""),.str (Str.ofString "begin"),.int 0,.int (-1)]):=aj;generalize upd H pa (.lst [.str (Str.ofString ""),.str (Str.ofString "begin"),.int 0,.int (-1)])=H2 at s2 e2 ⊢
  have hA0:LAt H2 pa [] .bg 0 (-1):=by show H2 pa=_;rw[e2,iH];rfl
  have a0:∀{z0 z1 z2 z3:V},atI [z0,z1,z2,z3] 0=some z0:=rfl;have a1:∀{z0 z1 z2 z3:V},atI [z0,z1,z2,z3] 1=some z1:=rfl;have a3:∀{z0 z1 z2 z3:V},atI [z0,z1,z2,z3] 3=some z3:=rfl;refine aN ⟨by show 3<=sizeLine;decide,λp3 hp3=>?_⟩;have u3:=Same.upd_new (o:=.lst [V.int 0,V.int 8,V.int 40]) hp3;obtain⟨v,hv,ev⟩:=hV (xs:=[V.int 0,V.int 8,V.int 40]) (n:=3) rfl (by decide) (ns.getD 0 0)
  obtain⟨wd,rfl,hw0,hw1⟩:∃z:Int,v=.int z/\0<=z/\z<=40:=by
   simp only[Ni,Nx,or_false]at hv;rcases hv with rfl |rfl |rfl
   ·exact⟨_,rfl,by decide,by decide⟩
   ·exact⟨_,rfl,by decide,by decide⟩
   ·exact⟨_,rfl,by decide,by decide⟩
  refine⟨_,rfl,a,ns,0,rfl,(s2.trans u3).seq hS,_,_,rfl,rfl,(by show(0:Int)<3;decide),p3,_,_,_,rfl,rfl,SqL.of aj,ev,?_⟩;show bH _ _ _ _ _;refine cU (λσ' H'=>σ'=[some (.ref a),some (.ref pa),some (.int wd),none,none,none,none,none,none,none,none]/\Same H2 H') ⟨rfl,u3⟩ ?_;clear u3 hp3 ev hv;rintro σ' H3 ⟨rfl,s3⟩;refine aN ⟨_,rfl,a,ns,0,rfl,(s2.trans s3).seq hS,_,_,rfl,rfl,⟨by decide,sm 3 (by decide) (by decide)⟩,_,_,rfl,rfl,(by show(0:Int)<3;decide),?_⟩;dsimp only
  generalize ns.getD 0 0/3%3=way;show bH _ _ _ _ _;refine cU (λσ' H'=>σ'=[some (.ref a),some (.ref pa),some (.int wd),some (.int way),none,none,none,none,none,none,none]/\H3=H') ⟨rfl,rfl⟩ ?_;rintro σ' H4 ⟨rfl,rfl⟩;have hA3:LAt H3 pa [] .bg 0 (-1):=s3 _ _ hA0;refine⟨_,rfl,2,rfl,64,rfl,a,_,rfl,(s2.trans s3).seq hS,λp5 hp5=>?_⟩;rw[J0];have s5:=Same.upd_new (o:=.lst ((fB ns (some 2) (some 64)).map V.int)) hp5;have e5:upd H3 p5 (.lst ((fB ns (some 2) (some 64)).map V.int)) p5=some (.lst ((fB ns (some 2) (some 64)).map V.int)):=aj;have n5a:p5≠pa:=(bj hA3 hp5).symm;generalize upd H3 p5 (.lst ((fB ns (some 2) (some 64)).map V.int))=H5 at s5 e5 ⊢
  have hcs:(fB ns (some 2) (some 64)).length<=63:=Nk (J2 ns _ _) hlen;generalize fB ns (some 2) (some 64)=cs at e5 hcs ⊢
  have keep:∀{H':Hp},SamE pa H5 H'->Same H H':=λ{H'} q b o e=>q b o (λz=>by rw[z,hpa]at e;cases e) (s5 _ _ (s3 _ _ (s2 _ _ e)))
  refine⟨p5,rfl,⟨_,SqL.of e5⟩,Iu (K:=K) (a:=p5) (xs:=cs.map V.int) (λi σ' H'=>∃(z4 z5 z6:Option V),σ'=[some (.ref a),some (.ref pa),some (.int wd),some (.int way),z4,z5,z6,none,none,none,none]/\LWI H5 pa i 131 H') ⟨none,none,none,rfl,λ_ _ _ e=>e,[],.bg,0,-1,s5 _ _ hA3,LInv.start,λ_ h=>(nomatch h),Nr _⟩ ?_ ?_ ?_⟩
  ·rintro i σ' H6 _ ⟨z4,z5,z6,rfl,hW⟩;exact SqL.of (hW.1 _ _ n5a e5)
  ·rintro i x σ' H6 hx ⟨z4,z5,z6,rfl,hW⟩;obtain⟨c,_,rfl,_,_⟩:=Ie hx;obtain⟨sE,T',st,d,b,hA,hI,has,hTl⟩:=hW;show bH _ _ _ _ _;refine aN ⟨_,rfl,_,rfl,_,rfl,_,rfl,pa,T',st,d,b,c,wd,way,rfl,hA,hw0,hw1,λz H7 s7 hz=>?_⟩;show bH _ _ _ _ _;obtain⟨g,hg,eg⟩:=Ih c;refine aN ⟨_,rfl,_,_,rfl,rfl,.inr ⟨by decide,by decide⟩,_,_,rfl,rfl,(by show(0:Int)<65539;decide),_,_,rfl,rfl,(by show(0:Int)<5;decide),_,_,rfl,rfl,_,_,rfl,?_⟩;refine cU (u:=bH _ _) (λσ' H'=>∃(z:Str) (g:Nat),σ'=[some (.ref a),some (.ref pa),some (.int wd),some (.int way),some (.int c),some (.str z),some (.int (g:Int)),none,none,none,none]/\Same H6 H'/\MkT z/\g<=2) ⟨z,g,by rw[<- eg];rfl,s7,hz,hg⟩ ?_;clear hz hg eg s7 H7;rintro σ' H7 ⟨z,g,rfl,s7,hz,hg⟩;refine cA (λσ' H'=>∃(z:Str) (g:Nat),σ'=[some (.ref a),some (.ref pa),some (.int wd),some (.int way),some (.int c),some (.str z),some (.int (g:Int)),none,none,none,none]/\Same H6 H'/\MkT z/\g<=2) ?_ (λrest=>⟨_,rfl,a,ns,0,rfl,((keep sE).trans s7).seq hS,_,_,rfl,rfl,⟨by decide,sm 9 (by decide) (by decide)⟩,_,_,rfl,rfl,(by show(0:Int)<2;decide),_,_,rfl,rfl,_,rfl,ba ?_ (rest _ _ ⟨z,g,rfl,s7,hz,hg⟩)⟩)
   rotate_left
   ·refine aN ⟨_,rfl,c,rfl,λy H8 s8 hy=>?_⟩;have g0:=NL (c/33) (b:=3) (by decide);have g1:=NP (c/33) (b:=3) (by decide);refine cp ⟨_,rfl,_,_,rfl,rfl,⟨by decide,sm 33 (by decide) (by decide)⟩,_,_,rfl,rfl,(by show(0:Int)<3;decide),?_⟩;obtain⟨q,hq⟩:∃q:Nat,c/33%3=(q:Int):=⟨(c/33%3).toNat,by omega⟩;exact rest _ _ ⟨y,q,by rw[<- hq];rfl,s7.trans s8,hy,by omega⟩
   clear hz hg s7 H7;rintro σ' H7 ⟨z,g,rfl,s7,hz,hg⟩;obtain⟨m,rfl,hwf,hm12⟩:=hz.ex;have hA7:LAt H7 pa T' st d b:=s7 _ _ hA;refine dA ⟨_,rfl,pa,_,_,_,rfl,rfl,SqL.of hA7,a0,_,rfl,by rw[ak];omega,_,rfl,_,rfl,by rw[ak];omega,_,_,rfl,rfl,_,_,rfl,rfl,_,rfl,aC (λhlt=>?_) (λ_=>?_)⟩
   ·rw[ak,ak]at hlt;have hlt':T'.length+m.length<130:=by omega
    refine pA ⟨_,rfl,_,rfl,_,rfl,pa,T',st,d,b,m,g,rfl,hA7,hI.1,hwf,by omega,by omega,hg,λH9 st' d' b' g' s9 hg' hg2 hgl hSt hA9=>?_⟩;exact⟨_,_,_,rfl,LWI.put (sE.trans (SamE.of s7)) hI has hwf hm12 s9 (by omega) hgl hSt hA9⟩
   ·exact py ⟨_,_,_,rfl,(LWI.same ⟨sE,T',st,d,b,hA,hI,has,hTl⟩ s7).mono (Nat.le_succ _) (Ng _)⟩
  ·rintro σ' H6 ⟨z4,z5,z6,rfl,hW⟩;rw[Nh]at hW
   replace hW:=hW.mono (show cs.length<=63 by omega) (Ng _)
   dsimp only
   refine⟨40,rfl,by decide,by decide,Is (lo:=0) (λi σ' H'=>∃z7:Option V,σ'=[some (.ref a),some (.ref pa),some (.int wd),some (.int way),z4,z5,z6,z7,none,none,none]/\LWI H5 pa (63+i) (131+3*i) H') ⟨none,rfl,hW⟩ ?_ ?_⟩
   ·rintro i σ' H7 hi ⟨z7,rfl,hW⟩;have hi':i<40:=hi;dsimp only
    have hW0:=hW;obtain⟨sE,T',st,d,b,hA,hI,has,hTl⟩:=hW;have stay:∀{H8:Hp} (z7:Option V),Same H7 H8->∃z7':Option V,[some (.ref a),some (.ref pa),some (.int wd),some (.int way),z4,z5,z6,z7,none,none,none]=[some (.ref a),some (.ref pa),some (.int wd),some (.int way),z4,z5,z6,z7',none,none,none]/\LWI H5 pa (63+(i+1)) (131+3*(i+1)) H8:=λ{H8} z7 s8=>⟨z7,rfl,(hW0.same s8).mono (by omega) (by omega)⟩
    refine dA (bQ ⟨_,rfl,a,ns,1,rfl,(keep sE).seq hS,_,_,rfl,rfl,(by show(0:Int)<4;decide),_,_,rfl,rfl,_,rfl,ba (bQ ⟨_,rfl,pa,_,_,_,rfl,rfl,SqL.of hA,a3,_,_,rfl,rfl,_,rfl,ba (gJ ⟨_,rfl,pa,T',st,d,b,rfl,hA,λH8 s8=>⟨_,rfl,?_⟩⟩) ?_⟩) ?_⟩)
    ·have hA8:LAt H8 pa T' st d b:=s8 _ _ hA;cases bW (st,d)with
     |true=>exact aI (py (stay _ s8))
     |false =>refine aJ (pA ⟨_,rfl,_,rfl,pa,_,_,_,rfl,rfl,SqL.of hA8,a1,_,rfl,λz H9 s9 hz=>?_⟩);have hz2:=hz.2;obtain⟨m,rfl,hwf,hm12⟩:=hz.1.ex;rw[fk]at hz2;refine⟨pa,T',st,d,b,m,0,rfl,s9 _ _ hA8,hI.1,hwf,by omega,by omega,by decide,λH10 st' d' b' g' s10 hg' hg2 hgl hSt hA10=>?_⟩;exact⟨_,rfl,LWI.put (sE.trans (SamE.of (s8.trans s9))) hI has hwf hm12 s10 (by omega) hgl hSt hA10⟩
    ·exact py (stay _ (Same.refl _))
    ·exact py (stay _ (Same.refl _))
   ·rintro σ' H7 ⟨z7,rfl,hW⟩;dsimp only
    replace hW:LWI H5 pa 103 251 H7:=hW
    obtain⟨sE,T',st,d,b,hA,hI,has,hTl⟩:=hW;have m0:=NL (ns.getD 1 0/4) (b:=3) (by decide);have m1:=NP (ns.getD 1 0/4) (b:=3) (by decide);obtain⟨n,en⟩:∃n:Nat,ns.getD 1 0/4%3=(n:Int):=⟨(ns.getD 1 0/4%3).toNat,by omega⟩;have hn2:n<=2:=by omega
    have em:Txt.mul (Str.ofString " ") (ns.getD 1 0/4%3)=stL (List.replicate n 32):=by rw[en];exact xr n hn2
    refine aN ⟨_,rfl,pa,_,_,_,rfl,rfl,SqL.of hA,a0,_,rfl,a,ns,1,rfl,(keep sE).seq hS,_,_,rfl,rfl,⟨by decide,sm 4 (by decide) (by decide)⟩,_,_,rfl,rfl,(by show(0:Int)<3;decide),_,_,rfl,rfl,rfl,m0,by omega,_,_,rfl,rfl,by rw[em,ak,ak,Nw];omega,?_⟩;rw[em,aG];have hTT:(T'++List.replicate n 32).length<=253:=by rw[Nf,Nw];omega
    have hPl:Pla (T'++List.replicate n 32):=⟨λc hc=>by
     rcases No.mp hc with hc |hc
     ·exact has c hc
     ·rw[List.eq_of_mem_replicate hc];decide,by omega⟩
    have hbadI:=λhb=>hI.bad n hb
    have hearI:=λhb hf=>hI.early n hb hf
    have hreaI:=λhb hf=>hI.read n hb hf (by decide)
    generalize T'++List.replicate n 32=TT at hTT hPl hbadI hearI hreaI ⊢
    show bH _ _ _ _ _;refine cU (λσ' H'=>σ'=[some (.ref a),some (.ref pa),some (.int wd),some (.int way),z4,z5,z6,z7,some (.str (stL TT)),none,none]/\H7=H') ⟨rfl,rfl⟩ ?_;rintro σ' H8 ⟨rfl,rfl⟩;refine cA (λσ' H'=>σ'=[some (.ref a),some (.ref pa),some (.int wd),some (.int way),z4,z5,z6,z7,some (.str (stL TT)),none,none]/\((∃(b':Int) (r:List Mk),H' pa=some (.lst [.str (stL T'),.str (tsS st),.int d,.int b'])/\0<=b'/\cV (mks 0 TT)=.inl r/\((mbg TT.length r:Nat):Int)=b')\/(b<0/\LAt H' pa T' st d b/\bW (st,d)=true))) ?_ (λrest=>bQ ⟨_,rfl,pa,_,_,_,rfl,rfl,SqL.of hA,a3,_,_,rfl,rfl,_,rfl,aC (λhb=>?_) (λhb=>?_)⟩)
    rotate_left
    ·have hb':b<0:=hb;refine gJ ⟨_,rfl,pa,T',st,d,b,rfl,hA,λH8 s8=>⟨_,rfl,?_⟩⟩;have hA8:LAt H8 pa T' st d b:=s8 _ _ hA;cases hf:bW (st,d)with
     |true=>exact aI (rest _ _ ⟨rfl,.inr ⟨hb',hA8,hf⟩⟩)
     |false =>refine aJ ⟨_,rfl,_,rfl,by rw[ak];omega,_,rfl,pa,_,_,3,rfl,rfl,hA8,rfl,?_⟩;rw[ak];exact rest _ _ ⟨rfl,.inl ⟨_,[],aj,by omega,hearI hb' hf,rfl⟩⟩
    ·have hb':0<=b:=by have:¬b<0:=hb;omega
     obtain⟨r,g1,g2⟩:=hbadI hb';exact rest _ _ ⟨rfl,.inl ⟨b,r,hA,hb',g1,g2 _⟩⟩
    rintro σ' H9 ⟨rfl,hC⟩;rcases hC with⟨b',r,e9,hb',g1,g3⟩ |⟨hb,hA9,hf⟩
    ·refine aD ⟨_,rfl,pa,_,_,_,rfl,rfl,SqL.of e9,a3,_,_,rfl,rfl,_,rfl,aC (λ_=>?_) (λz=>absurd hb' z)⟩;refine au (cq ⟨_,rfl,_,rfl,pa,_,_,_,rfl,rfl,SqL.of e9,a3,TT,b',r,rfl,hPl,g1,g3,λH10 s10=>⟨_,rfl,aJ ?_⟩⟩);exact⟨_,rfl,_,rfl,pa,_,_,_,rfl,rfl,SqL.of (s10 _ _ e9),a3,TT,b',r,rfl,hPl,g1,g3,λH11 _=>k _⟩
    ·refine aD ⟨_,rfl,pa,_,_,_,rfl,rfl,SqL.of hA9,a3,_,_,rfl,rfl,_,rfl,aC (λz=>absurd (show(0:Int)<=b from z) (by omega)) (λ_=>?_)⟩;obtain⟨t,et,tok,tdep,thgt,tlen⟩:=hreaI hb hf;have no:∀r,cV (mks 0 TT)=.inl r->False:=λr hr=>by rw[et]at hr;cases hr
     refine aN ⟨_,rfl,TT,rfl,hPl,λt' ht' q av H10 s10 hP hq=>?_,λr hr=>(no r hr).elim⟩;rw[et]at ht';cases ht';obtain⟨dx,fs,hin,_⟩:=hP.ins;have ca:=AA.ca (kdP t);refine aD (gJ (wc (cT ⟨_,rfl,yE (.ins hin ca.cl ca.ha ca.hn ca.ht ca.hm) (k:=true) (UU (kdP t)) ⟨_,rfl,aI ?_⟩⟩)));refine aN ⟨_,rfl,av,q,t,rfl,hP,tok,thgt,tlen,λH11 s11=>?_⟩;refine aD (gJ (wc (cT ⟨_,rfl,tz (.str _) (k:=true) (by rfl) ⟨_,rfl,aI ?_⟩⟩)));obtain⟨_,asc,ms,gr,hm⟩:=AM tok;have ra:=Lh gr tdep hm;obtain⟨nok,ntx⟩:=dU tok;have no2:∀r,cV (mks 0 (tx t))=.inl r->False:=λr hr=>by rw[ra]at hr;cases hr
     refine au (gI ⟨_,rfl,_,rfl,by rw[ak];omega,_,_,rfl,rfl,_,rfl,aC (λ_=>k _) (λh200=>?_)⟩)
     have hl200:(tx t).length<=200:=by have:¬(((stL (tx t)).length:Int)>200):=h200;rw[ak]at this;omega
     refine⟨_,rfl,tx t,rfl,⟨asc,by omega⟩,λt' ht' q' av' H12 s12 hP' hq'=>?_,λr hr=>(no2 r hr).elim⟩;rw[ra]at ht';cases ht';refine⟨av',q',nrm t,rfl,hP',nok,by rw[dW];exact thgt,by rw[ntx];exact tlen,λH13 s13=>⟨_,rfl,rfl,?_⟩⟩;show Q (.bl (decide (V.str (stL (tx (nrm t)))=V.str (stL (tx t))))) H13;rw[ntx,decide_eq_true rfl];exact k _
end
theorem all_mk{l:PySem.W.OpenLaw}{w:World}{K:PySem.W.Frag}{h:Heap}{mg:Str->Option Value}{fa CC1 CRatio CPart CWhole CNamed CGiven CMinus CSum CLess CTimes COver CPower CRooted CNoText CRootError CNoName CNoRow f1 f2 dt2 f3 f4 f5 f6 f7 f8 f9 f10 f11 f12 f13 f14 f15 f16 f17 f18 f19 f20 f21 f22 f23 f24 f25 f26 f27 f28 f29 f30 f31 f32 f33 f34 f35 f36 f37 f38 f39 f40 f41 f42 f43 f44 f45 f46 f47 f48 f49 f50 f51 f52 f53 f54 f55 f56 f57 f58 f59 f60 f61 f62 f63 f64 f65 f66 f67 f68 f69 f70 f71 f72 f73 f74 f75 f76 f77 f78 f79 f80 f81 f82 f83 f84 tp_WORDS tp_EXPONENTS:Addr}(X:K.In h)(G:h.Ns mainGlobals mg)(hfa:mg "law"=some (.ref fa))
 {od1 an1 od2 an2 odt2 od3 an3 od4 an4 od5 an5 od6 an6 od7 an7 od8 an8 od9 an9 od10 an10 od11 an11 od12 an12 od13 an13 od14 an14 od15 an15 od16 an16 od17 an17 od18 an18 od19 an19 od20 an20 od21 an21 od22 an22 od23 an23 od24 an24 od25 an25 od26 an26 od27 an27 od28 an28 od29 an29 od30 an30 od31 an31 od32 an32 od33 an33 od34 an34 od35 an35 od36 an36 od37 an37 od38 an38 od39 an39 od40 an40 od41 an41 od42 an42 od43 an43 od44 an44 od45 an45 od46 an46 od47 an47 od48 an48 od49 an49 od50 an50 od51 an51 od52 an52 od53 an53 od54 an54 od55 an55 od56 an56 od57 an57 od58 an58 od59 an59 od60 an60 od61 an61 od62 an62 od63 an63 od64 an64 od65 an65 od66 an66 od67 an67 od68 an68 od69 an69 od70 an70 od71 an71 od72 an72 od73 an73 od74 an74 od75 an75 od76 an76 od77 an77 od78 an78 od79 an79 od80 an80 od81 an81 od82 an82 od83 an83 od84 an84 odtp_WORDS odtp_EXPONENTS:Option Addr} {sl1 sl2 slt2 sl3 sl4 sl5 sl6 sl7 sl8 sl9 sl10 sl11 sl12 sl13 sl14 sl15 sl16 sl17 sl18 sl19 sl20 sl21 sl22 sl23 sl24 sl25 sl26 sl27 sl28 sl29 sl30 sl31 sl32 sl33 sl34 sl35 sl36 sl37 sl38 sl39 sl40 sl41 sl42 sl43 sl44 sl45 sl46 sl47 sl48 sl49 sl50 sl51 sl52 sl53 sl54 sl55 sl56 sl57 sl58 sl59 sl60 sl61 sl62 sl63 sl64 sl65 sl66 sl67 sl68 sl69 sl70 sl71 sl72 sl73 sl74 sl75 sl76 sl77 sl78 sl79 sl80 sl81 sl82 sl83 sl84 sltp_WORDS sltp_EXPONENTS:Array (Option Value)} {oc1 kV1 dc1 pm1 cd1 ct1 oc2 kV2 dc2 pm2 cd2 ct2 oct2 oc3 kV3 dc3 pm3 cd3 ct3 oc4 kV4 dc4 pm4 cd4 ct4 oc5 kV5 dc5 pm5 cd5 ct5 oc6 kV6 dc6 pm6 cd6 ct6 oc7 kV7 dc7 pm7 cd7 ct7 oc8 kV8 dc8 pm8 cd8 ct8 oc9 kV9 dc9 pm9 cd9 ct9 oc10 kV10 dc10 pm10 cd10 ct10 oc11 kV11 dc11 pm11 cd11 ct11 oc12 kV12 dc12 pm12 cd12 ct12 oc13 kV13 dc13 pm13 cd13 ct13 oc14 kV14 dc14 pm14 cd14 ct14 oc15 kV15 dc15 pm15 cd15 ct15 oc16 kV16 dc16 pm16 cd16 ct16 oc17 kV17 dc17 pm17 cd17 ct17 oc18 kV18 dc18 pm18 cd18 ct18 oc19 kV19 dc19 pm19 cd19 ct19 oc20 kV20 dc20 pm20 cd20 ct20 oc21 kV21 dc21 pm21 cd21 ct21 oc22 kV22 dc22 pm22 cd22 ct22 oc23 kV23 dc23 pm23 cd23 ct23 oc24 kV24 dc24 pm24 cd24 ct24 oc25 kV25 dc25 pm25 cd25 ct25 oc26 kV26 dc26 pm26 cd26 ct26 oc27 kV27 dc27 pm27 cd27 ct27 oc28 kV28 dc28 pm28 cd28 ct28 oc29 kV29 dc29 pm29 cd29 ct29 oc30 kV30 dc30 pm30 cd30 ct30 oc31 kV31 dc31 pm31 cd31 ct31 oc32 kV32 dc32 pm32 cd32 ct32 oc33 kV33 dc33 pm33 cd33 ct33 oc34 kV34 dc34 pm34 cd34 ct34 oc35 kV35 dc35 pm35 cd35 ct35 oc36 kV36 dc36 pm36 cd36 ct36 oc37 kV37 dc37 pm37 cd37 ct37 oc38 kV38 dc38 pm38 cd38 ct38 oc39 kV39 dc39 pm39 cd39 ct39 oc40 kV40 dc40 pm40 cd40 ct40 oc41 kV41 dc41 pm41 cd41 ct41 oc42 kV42 dc42 pm42 cd42 ct42 oc43 kV43 dc43 pm43 cd43 ct43 oc44 kV44 dc44 pm44 cd44 ct44 oc45 kV45 dc45 pm45 cd45 ct45 oc46 kV46 dc46 pm46 cd46 ct46 oc47 kV47 dc47 pm47 cd47 ct47 oc48 kV48 dc48 pm48 cd48 ct48 oc49 kV49 dc49 pm49 cd49 ct49 oc50 kV50 dc50 pm50 cd50 ct50 oc51 kV51 dc51 pm51 cd51 ct51 oc52 kV52 dc52 pm52 cd52 ct52 oc53 kV53 dc53 pm53 cd53 ct53 oc54 kV54 dc54 pm54 cd54 ct54 oc55 kV55 dc55 pm55 cd55 ct55 oc56 kV56 dc56 pm56 cd56 ct56 oc57 kV57 dc57 pm57 cd57 ct57 oc58 kV58 dc58 pm58 cd58 ct58 oc59 kV59 dc59 pm59 cd59 ct59 oc60 kV60 dc60 pm60 cd60 ct60 oc61 kV61 dc61 pm61 cd61 ct61 oc62 kV62 dc62 pm62 cd62 ct62 oc63 kV63 dc63 pm63 cd63 ct63 oc64 kV64 dc64 pm64 cd64 ct64 oc65 kV65 dc65 pm65 cd65 ct65 oc66 kV66 dc66 pm66 cd66 ct66 oc67 kV67 dc67 pm67 cd67 ct67 oc68 kV68 dc68 pm68 cd68 ct68 oc69 kV69 dc69 pm69 cd69 ct69 oc70 kV70 dc70 pm70 cd70 ct70 oc71 kV71 dc71 pm71 cd71 ct71 oc72 kV72 dc72 pm72 cd72 ct72 oc73 kV73 dc73 pm73 cd73 ct73 oc74 kV74 dc74 pm74 cd74 ct74 oc75 kV75 dc75 pm75 cd75 ct75 oc76 kV76 dc76 pm76 cd76 ct76 oc77 kV77 dc77 pm77 cd77 ct77 oc78 kV78 dc78 pm78 cd78 ct78 oc79 kV79 dc79 pm79 cd79 ct79 oc80 kV80 dc80 pm80 cd80 ct80 oc81 kV81 dc81 pm81 cd81 ct81 oc82 kV82 dc82 pm82 cd82 ct82 oc83 kV83 dc83 pm83 cd83 ct83 oc84 kV84 dc84 pm84 cd84 ct84:Value} {nt2:Nat} {tk2_0:Tok} {tk_LONGEST:Tok} {tk_DEEPEST:Tok} {tk_FIGURES:Tok} {tk_LETTERS:Tok} {ntp_WORDS:Nat} {tk_WORDS_0 tk_WORDS_1 tk_WORDS_2 tk_WORDS_3:Tok} {ntp_EXPONENTS:Nat} {tk_EXPONENTS_0 tk_EXPONENTS_1 tk_EXPONENTS_2 tk_EXPONENTS_3 tk_EXPONENTS_4 tk_EXPONENTS_5 tk_EXPONENTS_6 tk_EXPONENTS_7 tk_EXPONENTS_8:Tok}
 (aC1:PySem.W.nsIn K mainGlobals "Reading"=some (some (.ref CC1)))
 (pg1:PySem.W.plainGet K CC1 Str.empty=true)
 (hd1:PySem.W.hasDictIn K CC1=true)
 (po1:PySem.W.plainOver K CC1=true)
 (sa1:PySem.W.findIn K (.ref CC1) "__setattr__"=some (some (.builtin "object.__setattr__")))
 (mk1:PySem.W.makesIn K CC1=true)
 (kc1:PySem.W.keepIn K (.ref CC1)=true)
 (n1_marks:PySem.W.findIn K (.ref CC1) "marks"=some none)
 (n1_end:PySem.W.findIn K (.ref CC1) "end"=some none)
 (n1_done:PySem.W.findIn K (.ref CC1) "done"=some none)
 (n1_depth:PySem.W.findIn K (.ref CC1) "depth"=some none)
 (aC2:PySem.W.nsIn K mainGlobals "Ratio"=some (some (.ref CRatio)))
 (pg2:PySem.W.plainGet K CRatio Str.empty=true)
 (hd2:PySem.W.hasDictIn K CRatio=true)
 (po2:PySem.W.plainOver K CRatio=true)
 (sa2:PySem.W.findIn K (.ref CRatio) "__setattr__"=some (some (.builtin "object.__setattr__")))
 (mk2:PySem.W.makesIn K CRatio=true)
 (kc2:PySem.W.keepIn K (.ref CRatio)=true)
 (n2_top:PySem.W.findIn K (.ref CRatio) "top"=some none)
 (n2_bottom:PySem.W.findIn K (.ref CRatio) "bottom"=some none)
 (ha2:PySem.W.findIn K (.ref CRatio) "__class__"=some (some (.builtin "object.__class__")))
 (hn2:PySem.W.specialIn K (.builtin "object.__class__") "__get__"=some (some (.builtin "getset_descriptor.__get__")))
 (ht2:PySem.W.takesIn K (.builtin "object.__class__")=some true)
 (hm2:PySem.W.mroIn K CRatio (.type "object")=some true)
 (aC3:PySem.W.nsIn K mainGlobals "Part"=some (some (.ref CPart)))
 (pg3:PySem.W.plainGet K CPart Str.empty=true)
 (hd3:PySem.W.hasDictIn K CPart=true)
 (po3:PySem.W.plainOver K CPart=true)
 (sa3:PySem.W.findIn K (.ref CPart) "__setattr__"=some (some (.builtin "object.__setattr__")))
 (mk3:PySem.W.makesIn K CPart=true)
 (kc3:PySem.W.keepIn K (.ref CPart)=true)
 (ha3:PySem.W.findIn K (.ref CPart) "__class__"=some (some (.builtin "object.__class__")))
 (hn3:PySem.W.specialIn K (.builtin "object.__class__") "__get__"=some (some (.builtin "getset_descriptor.__get__")))
 (ht3:PySem.W.takesIn K (.builtin "object.__class__")=some true)
 (hm3:PySem.W.mroIn K CPart (.type "object")=some true)
 (aC4:PySem.W.nsIn K mainGlobals "Whole"=some (some (.ref CWhole)))
 (pg4:PySem.W.plainGet K CWhole Str.empty=true)
 (hd4:PySem.W.hasDictIn K CWhole=true)
 (po4:PySem.W.plainOver K CWhole=true)
 (sa4:PySem.W.findIn K (.ref CWhole) "__setattr__"=some (some (.builtin "object.__setattr__")))
 (mk4:PySem.W.makesIn K CWhole=true)
 (kc4:PySem.W.keepIn K (.ref CWhole)=true)
 (n4_value:PySem.W.findIn K (.ref CWhole) "value"=some none)
 (ha4:PySem.W.findIn K (.ref CWhole) "__class__"=some (some (.builtin "object.__class__")))
 (hn4:PySem.W.specialIn K (.builtin "object.__class__") "__get__"=some (some (.builtin "getset_descriptor.__get__")))
 (ht4:PySem.W.takesIn K (.builtin "object.__class__")=some true)
 (hm4:PySem.W.mroIn K CWhole (.type "object")=some true)
 (aC5:PySem.W.nsIn K mainGlobals "Named"=some (some (.ref CNamed)))
 (pg5:PySem.W.plainGet K CNamed Str.empty=true)
 (hd5:PySem.W.hasDictIn K CNamed=true)
 (po5:PySem.W.plainOver K CNamed=true)
 (sa5:PySem.W.findIn K (.ref CNamed) "__setattr__"=some (some (.builtin "object.__setattr__")))
 (mk5:PySem.W.makesIn K CNamed=true)
 (kc5:PySem.W.keepIn K (.ref CNamed)=true)
 (n5_word:PySem.W.findIn K (.ref CNamed) "word"=some none)
 (ha5:PySem.W.findIn K (.ref CNamed) "__class__"=some (some (.builtin "object.__class__")))
 (hn5:PySem.W.specialIn K (.builtin "object.__class__") "__get__"=some (some (.builtin "getset_descriptor.__get__")))
 (ht5:PySem.W.takesIn K (.builtin "object.__class__")=some true)
 (hm5:PySem.W.mroIn K CNamed (.type "object")=some true)
 (aC6:PySem.W.nsIn K mainGlobals "Given"=some (some (.ref CGiven)))
 (pg6:PySem.W.plainGet K CGiven Str.empty=true)
 (hd6:PySem.W.hasDictIn K CGiven=true)
 (po6:PySem.W.plainOver K CGiven=true)
 (sa6:PySem.W.findIn K (.ref CGiven) "__setattr__"=some (some (.builtin "object.__setattr__")))
 (mk6:PySem.W.makesIn K CGiven=true)
 (kc6:PySem.W.keepIn K (.ref CGiven)=true)
 (n6_poly:PySem.W.findIn K (.ref CGiven) "poly"=some none)
 (n6_low:PySem.W.findIn K (.ref CGiven) "low"=some none)
 (n6_high:PySem.W.findIn K (.ref CGiven) "high"=some none)
 (ha6:PySem.W.findIn K (.ref CGiven) "__class__"=some (some (.builtin "object.__class__")))
 (hn6:PySem.W.specialIn K (.builtin "object.__class__") "__get__"=some (some (.builtin "getset_descriptor.__get__")))
 (ht6:PySem.W.takesIn K (.builtin "object.__class__")=some true)
 (hm6:PySem.W.mroIn K CGiven (.type "object")=some true)
 (aC7:PySem.W.nsIn K mainGlobals "Minus"=some (some (.ref CMinus)))
 (pg7:PySem.W.plainGet K CMinus Str.empty=true)
 (hd7:PySem.W.hasDictIn K CMinus=true)
 (po7:PySem.W.plainOver K CMinus=true)
 (sa7:PySem.W.findIn K (.ref CMinus) "__setattr__"=some (some (.builtin "object.__setattr__")))
 (mk7:PySem.W.makesIn K CMinus=true)
 (kc7:PySem.W.keepIn K (.ref CMinus)=true)
 (n7_one:PySem.W.findIn K (.ref CMinus) "one"=some none)
 (ha7:PySem.W.findIn K (.ref CMinus) "__class__"=some (some (.builtin "object.__class__")))
 (hn7:PySem.W.specialIn K (.builtin "object.__class__") "__get__"=some (some (.builtin "getset_descriptor.__get__")))
 (ht7:PySem.W.takesIn K (.builtin "object.__class__")=some true)
 (hm7:PySem.W.mroIn K CMinus (.type "object")=some true)
 (aC8:PySem.W.nsIn K mainGlobals "Sum"=some (some (.ref CSum)))
 (pg8:PySem.W.plainGet K CSum Str.empty=true)
 (hd8:PySem.W.hasDictIn K CSum=true)
 (po8:PySem.W.plainOver K CSum=true)
 (sa8:PySem.W.findIn K (.ref CSum) "__setattr__"=some (some (.builtin "object.__setattr__")))
 (mk8:PySem.W.makesIn K CSum=true)
 (kc8:PySem.W.keepIn K (.ref CSum)=true)
 (n8_one:PySem.W.findIn K (.ref CSum) "one"=some none)
 (n8_other:PySem.W.findIn K (.ref CSum) "other"=some none)
 (ha8:PySem.W.findIn K (.ref CSum) "__class__"=some (some (.builtin "object.__class__")))
 (hn8:PySem.W.specialIn K (.builtin "object.__class__") "__get__"=some (some (.builtin "getset_descriptor.__get__")))
 (ht8:PySem.W.takesIn K (.builtin "object.__class__")=some true)
 (hm8:PySem.W.mroIn K CSum (.type "object")=some true)
 (aC9:PySem.W.nsIn K mainGlobals "Less"=some (some (.ref CLess)))
 (pg9:PySem.W.plainGet K CLess Str.empty=true)
 (hd9:PySem.W.hasDictIn K CLess=true)
 (po9:PySem.W.plainOver K CLess=true)
 (sa9:PySem.W.findIn K (.ref CLess) "__setattr__"=some (some (.builtin "object.__setattr__")))
 (mk9:PySem.W.makesIn K CLess=true)
 (kc9:PySem.W.keepIn K (.ref CLess)=true)
 (n9_one:PySem.W.findIn K (.ref CLess) "one"=some none)
 (n9_other:PySem.W.findIn K (.ref CLess) "other"=some none)
 (ha9:PySem.W.findIn K (.ref CLess) "__class__"=some (some (.builtin "object.__class__")))
 (hn9:PySem.W.specialIn K (.builtin "object.__class__") "__get__"=some (some (.builtin "getset_descriptor.__get__")))
 (ht9:PySem.W.takesIn K (.builtin "object.__class__")=some true)
 (hm9:PySem.W.mroIn K CLess (.type "object")=some true)
 (aC10:PySem.W.nsIn K mainGlobals "Times"=some (some (.ref CTimes)))
 (pg10:PySem.W.plainGet K CTimes Str.empty=true)
 (hd10:PySem.W.hasDictIn K CTimes=true)
 (po10:PySem.W.plainOver K CTimes=true)
 (sa10:PySem.W.findIn K (.ref CTimes) "__setattr__"=some (some (.builtin "object.__setattr__")))
 (mk10:PySem.W.makesIn K CTimes=true)
 (kc10:PySem.W.keepIn K (.ref CTimes)=true)
 (n10_one:PySem.W.findIn K (.ref CTimes) "one"=some none)
 (n10_other:PySem.W.findIn K (.ref CTimes) "other"=some none)
 (ha10:PySem.W.findIn K (.ref CTimes) "__class__"=some (some (.builtin "object.__class__")))
 (hn10:PySem.W.specialIn K (.builtin "object.__class__") "__get__"=some (some (.builtin "getset_descriptor.__get__")))
 (ht10:PySem.W.takesIn K (.builtin "object.__class__")=some true)
 (hm10:PySem.W.mroIn K CTimes (.type "object")=some true)
 (aC11:PySem.W.nsIn K mainGlobals "Over"=some (some (.ref COver)))
 (pg11:PySem.W.plainGet K COver Str.empty=true)
 (hd11:PySem.W.hasDictIn K COver=true)
 (po11:PySem.W.plainOver K COver=true)
 (sa11:PySem.W.findIn K (.ref COver) "__setattr__"=some (some (.builtin "object.__setattr__")))
 (mk11:PySem.W.makesIn K COver=true)
 (kc11:PySem.W.keepIn K (.ref COver)=true)
 (n11_one:PySem.W.findIn K (.ref COver) "one"=some none)
 (n11_other:PySem.W.findIn K (.ref COver) "other"=some none)
 (ha11:PySem.W.findIn K (.ref COver) "__class__"=some (some (.builtin "object.__class__")))
 (hn11:PySem.W.specialIn K (.builtin "object.__class__") "__get__"=some (some (.builtin "getset_descriptor.__get__")))
 (ht11:PySem.W.takesIn K (.builtin "object.__class__")=some true)
 (hm11:PySem.W.mroIn K COver (.type "object")=some true)
 (aC12:PySem.W.nsIn K mainGlobals "Power"=some (some (.ref CPower)))
 (pg12:PySem.W.plainGet K CPower Str.empty=true)
 (hd12:PySem.W.hasDictIn K CPower=true)
 (po12:PySem.W.plainOver K CPower=true)
 (sa12:PySem.W.findIn K (.ref CPower) "__setattr__"=some (some (.builtin "object.__setattr__")))
 (mk12:PySem.W.makesIn K CPower=true)
 (kc12:PySem.W.keepIn K (.ref CPower)=true)
 (n12_one:PySem.W.findIn K (.ref CPower) "one"=some none)
 (n12_power:PySem.W.findIn K (.ref CPower) "power"=some none)
 (ha12:PySem.W.findIn K (.ref CPower) "__class__"=some (some (.builtin "object.__class__")))
 (hn12:PySem.W.specialIn K (.builtin "object.__class__") "__get__"=some (some (.builtin "getset_descriptor.__get__")))
 (ht12:PySem.W.takesIn K (.builtin "object.__class__")=some true)
 (hm12:PySem.W.mroIn K CPower (.type "object")=some true)
 (aC13:PySem.W.nsIn K mainGlobals "Rooted"=some (some (.ref CRooted)))
 (pg13:PySem.W.plainGet K CRooted Str.empty=true)
 (hd13:PySem.W.hasDictIn K CRooted=true)
 (po13:PySem.W.plainOver K CRooted=true)
 (sa13:PySem.W.findIn K (.ref CRooted) "__setattr__"=some (some (.builtin "object.__setattr__")))
 (mk13:PySem.W.makesIn K CRooted=true)
 (kc13:PySem.W.keepIn K (.ref CRooted)=true)
 (n13_one:PySem.W.findIn K (.ref CRooted) "one"=some none)
 (n13_power:PySem.W.findIn K (.ref CRooted) "power"=some none)
 (ha13:PySem.W.findIn K (.ref CRooted) "__class__"=some (some (.builtin "object.__class__")))
 (hn13:PySem.W.specialIn K (.builtin "object.__class__") "__get__"=some (some (.builtin "getset_descriptor.__get__")))
 (ht13:PySem.W.takesIn K (.builtin "object.__class__")=some true)
 (hm13:PySem.W.mroIn K CRooted (.type "object")=some true)
 (aENoText:PySem.W.nsIn K mainGlobals "NoText"=some (some (.ref CNoText)))
 (aERootError:PySem.W.nsIn K mainGlobals "RootError"=some (some (.ref CRootError)))
 (aENoName:PySem.W.nsIn K mainGlobals "NoName"=some (some (.ref CNoName)))
 (aENoRow:PySem.W.nsIn K mainGlobals "NoRow"=some (some (.ref CNoRow)))
 (e0NoText:PySem.W.findIn K (.ref CNoText) "__getattribute__"=some (some (.builtin "BaseException.__getattribute__")))
 (e1NoText:PySem.W.findIn K (.ref CNoText) "__getattr__"=some none)
 (e2NoText:PySem.W.mroIn K CNoText (.type "BaseException")=some true)
 (e3NoText:PySem.W.findIn K (.ref CNoText) "__class__"=some (some (.builtin "object.__class__")))
 (e4NoText:PySem.W.specialIn K (.builtin "object.__class__") "__get__"=some (some (.builtin "getset_descriptor.__get__")))
 (e5NoText:PySem.W.takesIn K (.builtin "object.__class__")=some true)
 (e6NoText:PySem.W.mroIn K CNoText (.type "object")=some true)
 (yXNoText:ur K CNoText f19 mC "ValueError.__new__"=true)
 (yCNoText:qy K CNoText=true)
 (yKNoText:PySem.W.keepIn K (.ref CNoText)=true)
 (yNNoText:PySem.W.findIn K (.ref CNoText) "at"=some none)
 (xh_NoText_RootError:PySem.W.exmOne K (.ref CNoText) (.ref CRootError)=some true)
 (xi_NoText_ValueError:PySem.W.kitOne K (.ref CNoText) (.type "ValueError")=some true)
 (xi_NoText_NoName:PySem.W.kitOne K (.ref CNoText) (.ref CNoName)=some false)
 (xi_NoText_NoRow:PySem.W.kitOne K (.ref CNoText) (.ref CNoRow)=some false)
 (xi_NoText_NoText:PySem.W.kitOne K (.ref CNoText) (.ref CNoText)=some true)
 (xN:nG K [CWhole,CNamed,CGiven,CMinus,CSum,CLess,CTimes,COver,CPower,CRooted]=true)
 (xU:p8 K CPart [CWhole,CNamed,CGiven,CMinus,CSum,CLess,CTimes,COver,CPower,CRooted]=true)
 (a1:PySem.W.nsIn K mainGlobals "shared_by_two"=some (some (.ref f1)))
 (l1:K.lookup f1=some ⟨oc1,od1,.func (PySem.W.fnOf "shared_by_two" "shared_by_two" (az jY) (ax jY) (ag jY) .none kV1 dc1 pm1 an1 cd1 ct1),sl1⟩) (c1:PySem.W.codeIn K cd1 "shared_by_two"=true) (k1:PySem.W.keepIn K (.ref f1)=true)
 (a2:PySem.W.findIn K (.ref CRatio) "__init__"=some (some (.ref f2))) (i2:PySem.W.isFn K (.ref f2)=true)
 (l2:K.lookup f2=some ⟨oc2,od2,.func (PySem.W.fnOf "__init__" "Ratio.__init__" (az la) (ax la) (ag la) (.ref dt2) kV2 dc2 pm2 an2 cd2 ct2),sl2⟩) (c2:PySem.W.codeIn K cd2 "Ratio.__init__"=true) (k2:PySem.W.keepIn K (.ref f2)=true)
 (t2:K.lookup dt2=some ⟨oct2,odt2,.seq #[.int 1 tk2_0] nt2,slt2⟩)
 (a3:PySem.W.findIn K (.ref CWhole) "__init__"=some (some (.ref f3))) (i3:PySem.W.isFn K (.ref f3)=true)
 (l3:K.lookup f3=some ⟨oc3,od3,.func (PySem.W.fnOf "__init__" "Whole.__init__" (az kL) (ax kL) (ag kL) .none kV3 dc3 pm3 an3 cd3 ct3),sl3⟩) (c3:PySem.W.codeIn K cd3 "Whole.__init__"=true) (k3:PySem.W.keepIn K (.ref f3)=true)
 (a4:PySem.W.findIn K (.ref CNamed) "__init__"=some (some (.ref f4))) (i4:PySem.W.isFn K (.ref f4)=true)
 (l4:K.lookup f4=some ⟨oc4,od4,.func (PySem.W.fnOf "__init__" "Named.__init__" (az lg) (ax lg) (ag lg) .none kV4 dc4 pm4 an4 cd4 ct4),sl4⟩) (c4:PySem.W.codeIn K cd4 "Named.__init__"=true) (k4:PySem.W.keepIn K (.ref f4)=true)
 (a5:PySem.W.findIn K (.ref CGiven) "__init__"=some (some (.ref f5))) (i5:PySem.W.isFn K (.ref f5)=true)
 (l5:K.lookup f5=some ⟨oc5,od5,.func (PySem.W.fnOf "__init__" "Given.__init__" (az ll) (ax ll) (ag ll) .none kV5 dc5 pm5 an5 cd5 ct5),sl5⟩) (c5:PySem.W.codeIn K cd5 "Given.__init__"=true) (k5:PySem.W.keepIn K (.ref f5)=true)
 (a6:PySem.W.findIn K (.ref CMinus) "__init__"=some (some (.ref f6))) (i6:PySem.W.isFn K (.ref f6)=true)
 (l6:K.lookup f6=some ⟨oc6,od6,.func (PySem.W.fnOf "__init__" "Minus.__init__" (az lh) (ax lh) (ag lh) .none kV6 dc6 pm6 an6 cd6 ct6),sl6⟩) (c6:PySem.W.codeIn K cd6 "Minus.__init__"=true) (k6:PySem.W.keepIn K (.ref f6)=true)
 (a7:PySem.W.findIn K (.ref CSum) "__init__"=some (some (.ref f7))) (i7:PySem.W.isFn K (.ref f7)=true)
 (l7:K.lookup f7=some ⟨oc7,od7,.func (PySem.W.fnOf "__init__" "Sum.__init__" (az kN) (ax kN) (ag kN) .none kV7 dc7 pm7 an7 cd7 ct7),sl7⟩) (c7:PySem.W.codeIn K cd7 "Sum.__init__"=true) (k7:PySem.W.keepIn K (.ref f7)=true)
 (a8:PySem.W.findIn K (.ref CLess) "__init__"=some (some (.ref f8))) (i8:PySem.W.isFn K (.ref f8)=true)
 (l8:K.lookup f8=some ⟨oc8,od8,.func (PySem.W.fnOf "__init__" "Less.__init__" (az lj) (ax lj) (ag lj) .none kV8 dc8 pm8 an8 cd8 ct8),sl8⟩) (c8:PySem.W.codeIn K cd8 "Less.__init__"=true) (k8:PySem.W.keepIn K (.ref f8)=true)
 (a9:PySem.W.findIn K (.ref CTimes) "__init__"=some (some (.ref f9))) (i9:PySem.W.isFn K (.ref f9)=true)
 (l9:K.lookup f9=some ⟨oc9,od9,.func (PySem.W.fnOf "__init__" "Times.__init__" (az kM) (ax kM) (ag kM) .none kV9 dc9 pm9 an9 cd9 ct9),sl9⟩) (c9:PySem.W.codeIn K cd9 "Times.__init__"=true) (k9:PySem.W.keepIn K (.ref f9)=true)
 (a10:PySem.W.findIn K (.ref COver) "__init__"=some (some (.ref f10))) (i10:PySem.W.isFn K (.ref f10)=true)
 (l10:K.lookup f10=some ⟨oc10,od10,.func (PySem.W.fnOf "__init__" "Over.__init__" (az lc) (ax lc) (ag lc) .none kV10 dc10 pm10 an10 cd10 ct10),sl10⟩) (c10:PySem.W.codeIn K cd10 "Over.__init__"=true) (k10:PySem.W.keepIn K (.ref f10)=true)
 (a11:PySem.W.findIn K (.ref CPower) "__init__"=some (some (.ref f11))) (i11:PySem.W.isFn K (.ref f11)=true)
 (l11:K.lookup f11=some ⟨oc11,od11,.func (PySem.W.fnOf "__init__" "Power.__init__" (az lb) (ax lb) (ag lb) .none kV11 dc11 pm11 an11 cd11 ct11),sl11⟩) (c11:PySem.W.codeIn K cd11 "Power.__init__"=true) (k11:PySem.W.keepIn K (.ref f11)=true)
 (a12:PySem.W.findIn K (.ref CRooted) "__init__"=some (some (.ref f12))) (i12:PySem.W.isFn K (.ref f12)=true)
 (l12:K.lookup f12=some ⟨oc12,od12,.func (PySem.W.fnOf "__init__" "Rooted.__init__" (az kO) (ax kO) (ag kO) .none kV12 dc12 pm12 an12 cd12 ct12),sl12⟩) (c12:PySem.W.codeIn K cd12 "Rooted.__init__"=true) (k12:PySem.W.keepIn K (.ref f12)=true)
 (a13:PySem.W.nsIn K mainGlobals "poly"=some (some (.ref f13)))
 (l13:K.lookup f13=some ⟨oc13,od13,.func (PySem.W.fnOf "poly" "poly" (az ke) (ax ke) (ag ke) .none kV13 dc13 pm13 an13 cd13 ct13),sl13⟩) (c13:PySem.W.codeIn K cd13 "poly"=true) (k13:PySem.W.keepIn K (.ref f13)=true)
 (a14:PySem.W.nsIn K mainGlobals "coefficient"=some (some (.ref f14)))
 (l14:K.lookup f14=some ⟨oc14,od14,.func (PySem.W.fnOf "coefficient" "coefficient" (az km) (ax km) (ag km) .none kV14 dc14 pm14 an14 cd14 ct14),sl14⟩) (c14:PySem.W.codeIn K cd14 "coefficient"=true) (k14:PySem.W.keepIn K (.ref f14)=true)
 (a15:PySem.W.nsIn K mainGlobals "added"=some (some (.ref f15)))
 (l15:K.lookup f15=some ⟨oc15,od15,.func (PySem.W.fnOf "added" "added" (az kn) (ax kn) (ag kn) .none kV15 dc15 pm15 an15 cd15 ct15),sl15⟩) (c15:PySem.W.codeIn K cd15 "added"=true) (k15:PySem.W.keepIn K (.ref f15)=true)
 (a16:PySem.W.nsIn K mainGlobals "run_end"=some (some (.ref f16)))
 (l16:K.lookup f16=some ⟨oc16,od16,.func (PySem.W.fnOf "run_end" "run_end" (az jZ) (ax jZ) (ag jZ) .none kV16 dc16 pm16 an16 cd16 ct16),sl16⟩) (c16:PySem.W.codeIn K cd16 "run_end"=true) (k16:PySem.W.keepIn K (.ref f16)=true)
 (a17:PySem.W.nsIn K mainGlobals "mark_end"=some (some (.ref f17)))
 (l17:K.lookup f17=some ⟨oc17,od17,.func (PySem.W.fnOf "mark_end" "mark_end" (az kg) (ax kg) (ag kg) .none kV17 dc17 pm17 an17 cd17 ct17),sl17⟩) (c17:PySem.W.codeIn K cd17 "mark_end"=true) (k17:PySem.W.keepIn K (.ref f17)=true)
 (a18:PySem.W.nsIn K mainGlobals "marks_of"=some (some (.ref f18)))
 (l18:K.lookup f18=some ⟨oc18,od18,.func (PySem.W.fnOf "marks_of" "marks_of" (az kf) (ax kf) (ag kf) .none kV18 dc18 pm18 an18 cd18 ct18),sl18⟩) (c18:PySem.W.codeIn K cd18 "marks_of"=true) (k18:PySem.W.keepIn K (.ref f18)=true)
 (a19:PySem.W.findIn K (.ref CNoText) "__init__"=some (some (.ref f19)))
 (l19:K.lookup f19=some ⟨oc19,od19,.func (PySem.W.fnOf "__init__" "NoText.__init__" (az lf) (ax lf) (ag lf) .none kV19 dc19 pm19 an19 cd19 ct19),sl19⟩) (c19:PySem.W.codeIn K cd19 "NoText.__init__"=true) (k19:PySem.W.keepIn K (.ref f19)=true)
 (a20:PySem.W.findIn K (.ref CC1) "__init__"=some (some (.ref f20))) (i20:PySem.W.isFn K (.ref f20)=true)
 (l20:K.lookup f20=some ⟨oc20,od20,.func (PySem.W.fnOf "__init__" "Reading.__init__" (az kY) (ax kY) (ag kY) .none kV20 dc20 pm20 an20 cd20 ct20),sl20⟩) (c20:PySem.W.codeIn K cd20 "Reading.__init__"=true) (k20:PySem.W.keepIn K (.ref f20)=true)
 (a21:PySem.W.findIn K (.ref CC1) "seen"=some (some (.ref f21))) (i21:PySem.W.isFn K (.ref f21)=true)
 (l21:K.lookup f21=some ⟨oc21,od21,.func (PySem.W.fnOf "seen" "Reading.seen" (az kQ) (ax kQ) (ag kQ) .none kV21 dc21 pm21 an21 cd21 ct21),sl21⟩) (c21:PySem.W.codeIn K cd21 "Reading.seen"=true) (k21:PySem.W.keepIn K (.ref f21)=true)
 (a22:PySem.W.findIn K (.ref CC1) "begin"=some (some (.ref f22))) (i22:PySem.W.isFn K (.ref f22)=true)
 (l22:K.lookup f22=some ⟨oc22,od22,.func (PySem.W.fnOf "begin" "Reading.begin" (az kX) (ax kX) (ag kX) .none kV22 dc22 pm22 an22 cd22 ct22),sl22⟩) (c22:PySem.W.codeIn K cd22 "Reading.begin"=true) (k22:PySem.W.keepIn K (.ref f22)=true)
 (a23:PySem.W.findIn K (.ref CC1) "step"=some (some (.ref f23))) (i23:PySem.W.isFn K (.ref f23)=true)
 (l23:K.lookup f23=some ⟨oc23,od23,.func (PySem.W.fnOf "step" "Reading.step" (az kP) (ax kP) (ag kP) .none kV23 dc23 pm23 an23 cd23 ct23),sl23⟩) (c23:PySem.W.codeIn K cd23 "Reading.step"=true) (k23:PySem.W.keepIn K (.ref f23)=true)
 (a24:PySem.W.findIn K (.ref CC1) "passes"=some (some (.ref f24))) (i24:PySem.W.isFn K (.ref f24)=true)
 (l24:K.lookup f24=some ⟨oc24,od24,.func (PySem.W.fnOf "passes" "Reading.passes" (az kR) (ax kR) (ag kR) .none kV24 dc24 pm24 an24 cd24 ct24),sl24⟩) (c24:PySem.W.codeIn K cd24 "Reading.passes"=true) (k24:PySem.W.keepIn K (.ref f24)=true)
 (a25:PySem.W.findIn K (.ref CC1) "demand"=some (some (.ref f25))) (i25:PySem.W.isFn K (.ref f25)=true)
 (l25:K.lookup f25=some ⟨oc25,od25,.func (PySem.W.fnOf "demand" "Reading.demand" (az kW) (ax kW) (ag kW) .none kV25 dc25 pm25 an25 cd25 ct25),sl25⟩) (c25:PySem.W.codeIn K cd25 "Reading.demand"=true) (k25:PySem.W.keepIn K (.ref f25)=true)
 (a26:PySem.W.findIn K (.ref CC1) "enter"=some (some (.ref f26))) (i26:PySem.W.isFn K (.ref f26)=true)
 (l26:K.lookup f26=some ⟨oc26,od26,.func (PySem.W.fnOf "enter" "Reading.enter" (az kU) (ax kU) (ag kU) .none kV26 dc26 pm26 an26 cd26 ct26),sl26⟩) (c26:PySem.W.codeIn K cd26 "Reading.enter"=true) (k26:PySem.W.keepIn K (.ref f26)=true)
 (a27:PySem.W.findIn K (.ref CC1) "leave"=some (some (.ref f27))) (i27:PySem.W.isFn K (.ref f27)=true)
 (l27:K.lookup f27=some ⟨oc27,od27,.func (PySem.W.fnOf "leave" "Reading.leave" (az kS) (ax kS) (ag kS) .none kV27 dc27 pm27 an27 cd27 ct27),sl27⟩) (c27:PySem.W.codeIn K cd27 "Reading.leave"=true) (k27:PySem.W.keepIn K (.ref f27)=true)
 (a28:PySem.W.findIn K (.ref CC1) "finish"=some (some (.ref f28))) (i28:PySem.W.isFn K (.ref f28)=true)
 (l28:K.lookup f28=some ⟨oc28,od28,.func (PySem.W.fnOf "finish" "Reading.finish" (az kT) (ax kT) (ag kT) .none kV28 dc28 pm28 an28 cd28 ct28),sl28⟩) (c28:PySem.W.codeIn K cd28 "Reading.finish"=true) (k28:PySem.W.keepIn K (.ref f28)=true)
 (a29:PySem.W.nsIn K mainGlobals "made_of"=some (some (.ref f29)))
 (l29:K.lookup f29=some ⟨oc29,od29,.func (PySem.W.fnOf "made_of" "made_of" (az kh) (ax kh) (ag kh) .none kV29 dc29 pm29 an29 cd29 ct29),sl29⟩) (c29:PySem.W.codeIn K cd29 "made_of"=true) (k29:PySem.W.keepIn K (.ref f29)=true)
 (a30:PySem.W.nsIn K mainGlobals "is_whole"=some (some (.ref f30)))
 (l30:K.lookup f30=some ⟨oc30,od30,.func (PySem.W.fnOf "is_whole" "is_whole" (az ki) (ax ki) (ag ki) .none kV30 dc30 pm30 an30 cd30 ct30),sl30⟩) (c30:PySem.W.codeIn K cd30 "is_whole"=true) (k30:PySem.W.keepIn K (.ref f30)=true)
 (a31:PySem.W.nsIn K mainGlobals "is_name"=some (some (.ref f31)))
 (l31:K.lookup f31=some ⟨oc31,od31,.func (PySem.W.fnOf "is_name" "is_name" (az kj) (ax kj) (ag kj) .none kV31 dc31 pm31 an31 cd31 ct31),sl31⟩) (c31:PySem.W.codeIn K cd31 "is_name"=true) (k31:PySem.W.keepIn K (.ref f31)=true)
 (a32:PySem.W.nsIn K mainGlobals "read_whole"=some (some (.ref f32)))
 (l32:K.lookup f32=some ⟨oc32,od32,.func (PySem.W.fnOf "read_whole" "read_whole" (az j0) (ax j0) (ag j0) .none kV32 dc32 pm32 an32 cd32 ct32),sl32⟩) (c32:PySem.W.codeIn K cd32 "read_whole"=true) (k32:PySem.W.keepIn K (.ref f32)=true)
 (a33:PySem.W.nsIn K mainGlobals "read_fraction"=some (some (.ref f33)))
 (l33:K.lookup f33=some ⟨oc33,od33,.func (PySem.W.fnOf "read_fraction" "read_fraction" (az j7) (ax j7) (ag j7) .none kV33 dc33 pm33 an33 cd33 ct33),sl33⟩) (c33:PySem.W.codeIn K cd33 "read_fraction"=true) (k33:PySem.W.keepIn K (.ref f33)=true)
 (a34:PySem.W.nsIn K mainGlobals "read_exponent"=some (some (.ref f34)))
 (l34:K.lookup f34=some ⟨oc34,od34,.func (PySem.W.fnOf "read_exponent" "read_exponent" (az j8) (ax j8) (ag j8) .none kV34 dc34 pm34 an34 cd34 ct34),sl34⟩) (c34:PySem.W.codeIn K cd34 "read_exponent"=true) (k34:PySem.W.keepIn K (.ref f34)=true)
 (a35:PySem.W.nsIn K mainGlobals "read_place"=some (some (.ref f35)))
 (l35:K.lookup f35=some ⟨oc35,od35,.func (PySem.W.fnOf "read_place" "read_place" (az j5) (ax j5) (ag j5) .none kV35 dc35 pm35 an35 cd35 ct35),sl35⟩) (c35:PySem.W.codeIn K cd35 "read_place"=true) (k35:PySem.W.keepIn K (.ref f35)=true)
 (a36:PySem.W.nsIn K mainGlobals "read_term"=some (some (.ref f36)))
 (l36:K.lookup f36=some ⟨oc36,od36,.func (PySem.W.fnOf "read_term" "read_term" (az j4) (ax j4) (ag j4) .none kV36 dc36 pm36 an36 cd36 ct36),sl36⟩) (c36:PySem.W.codeIn K cd36 "read_term"=true) (k36:PySem.W.keepIn K (.ref f36)=true)
 (a37:PySem.W.nsIn K mainGlobals "read_terms"=some (some (.ref f37)))
 (l37:K.lookup f37=some ⟨oc37,od37,.func (PySem.W.fnOf "read_terms" "read_terms" (az j3) (ax j3) (ag j3) .none kV37 dc37 pm37 an37 cd37 ct37),sl37⟩) (c37:PySem.W.codeIn K cd37 "read_terms"=true) (k37:PySem.W.keepIn K (.ref f37)=true)
 (a38:PySem.W.nsIn K mainGlobals "read_given"=some (some (.ref f38)))
 (l38:K.lookup f38=some ⟨oc38,od38,.func (PySem.W.fnOf "read_given" "read_given" (az j6) (ax j6) (ag j6) .none kV38 dc38 pm38 an38 cd38 ct38),sl38⟩) (c38:PySem.W.codeIn K cd38 "read_given"=true) (k38:PySem.W.keepIn K (.ref f38)=true)
 (a39:PySem.W.nsIn K mainGlobals "read_brackets"=some (some (.ref f39)))
 (l39:K.lookup f39=some ⟨oc39,od39,.func (PySem.W.fnOf "read_brackets" "read_brackets" (az fN) (ax fN) (ag fN) .none kV39 dc39 pm39 an39 cd39 ct39),sl39⟩) (c39:PySem.W.codeIn K cd39 "read_brackets"=true) (k39:PySem.W.keepIn K (.ref f39)=true)
 (a40:PySem.W.nsIn K mainGlobals "read_atom"=some (some (.ref f40)))
 (l40:K.lookup f40=some ⟨oc40,od40,.func (PySem.W.fnOf "read_atom" "read_atom" (az fO) (ax fO) (ag fO) .none kV40 dc40 pm40 an40 cd40 ct40),sl40⟩) (c40:PySem.W.codeIn K cd40 "read_atom"=true) (k40:PySem.W.keepIn K (.ref f40)=true)
 (a41:PySem.W.nsIn K mainGlobals "read_power"=some (some (.ref f41)))
 (l41:K.lookup f41=some ⟨oc41,od41,.func (PySem.W.fnOf "read_power" "read_power" (az fL) (ax fL) (ag fL) .none kV41 dc41 pm41 an41 cd41 ct41),sl41⟩) (c41:PySem.W.codeIn K cd41 "read_power"=true) (k41:PySem.W.keepIn K (.ref f41)=true)
 (a42:PySem.W.nsIn K mainGlobals "read_factor"=some (some (.ref f42)))
 (l42:K.lookup f42=some ⟨oc42,od42,.func (PySem.W.fnOf "read_factor" "read_factor" (az fM) (ax fM) (ag fM) .none kV42 dc42 pm42 an42 cd42 ct42),sl42⟩) (c42:PySem.W.codeIn K cd42 "read_factor"=true) (k42:PySem.W.keepIn K (.ref f42)=true)
 (a43:PySem.W.nsIn K mainGlobals "read_product"=some (some (.ref f43)))
 (l43:K.lookup f43=some ⟨oc43,od43,.func (PySem.W.fnOf "read_product" "read_product" (az fK) (ax fK) (ag fK) .none kV43 dc43 pm43 an43 cd43 ct43),sl43⟩) (c43:PySem.W.codeIn K cd43 "read_product"=true) (k43:PySem.W.keepIn K (.ref f43)=true)
 (a44:PySem.W.nsIn K mainGlobals "read_sum"=some (some (.ref f44)))
 (l44:K.lookup f44=some ⟨oc44,od44,.func (PySem.W.fnOf "read_sum" "read_sum" (az fo) (ax fo) (ag fo) .none kV44 dc44 pm44 an44 cd44 ct44),sl44⟩) (c44:PySem.W.codeIn K cd44 "read_sum"=true) (k44:PySem.W.keepIn K (.ref f44)=true)
 (a45:PySem.W.nsIn K mainGlobals "read"=some (some (.ref f45)))
 (l45:K.lookup f45=some ⟨oc45,od45,.func (PySem.W.fnOf "read" "read" (az j9) (ax j9) (ag j9) .none kV45 dc45 pm45 an45 cd45 ct45),sl45⟩) (c45:PySem.W.codeIn K cd45 "read"=true) (k45:PySem.W.keepIn K (.ref f45)=true)
 (a46:PySem.W.nsIn K mainGlobals "whole_text"=some (some (.ref f46)))
 (l46:K.lookup f46=some ⟨oc46,od46,.func (PySem.W.fnOf "whole_text" "whole_text" (az jW) (ax jW) (ag jW) .none kV46 dc46 pm46 an46 cd46 ct46),sl46⟩) (c46:PySem.W.codeIn K cd46 "whole_text"=true) (k46:PySem.W.keepIn K (.ref f46)=true)
 (a47:PySem.W.nsIn K mainGlobals "degree"=some (some (.ref f47)))
 (l47:K.lookup f47=some ⟨oc47,od47,.func (PySem.W.fnOf "degree" "degree" (az kl) (ax kl) (ag kl) .none kV47 dc47 pm47 an47 cd47 ct47),sl47⟩) (c47:PySem.W.codeIn K cd47 "degree"=true) (k47:PySem.W.keepIn K (.ref f47)=true)
 (a48:PySem.W.nsIn K mainGlobals "term_text"=some (some (.ref f48)))
 (l48:K.lookup f48=some ⟨oc48,od48,.func (PySem.W.fnOf "term_text" "term_text" (az jX) (ax jX) (ag jX) .none kV48 dc48 pm48 an48 cd48 ct48),sl48⟩) (c48:PySem.W.codeIn K cd48 "term_text"=true) (k48:PySem.W.keepIn K (.ref f48)=true)
 (a49:PySem.W.nsIn K mainGlobals "poly_text"=some (some (.ref f49)))
 (l49:K.lookup f49=some ⟨oc49,od49,.func (PySem.W.fnOf "poly_text" "poly_text" (az ka) (ax ka) (ag ka) .none kV49 dc49 pm49 an49 cd49 ct49),sl49⟩) (c49:PySem.W.codeIn K cd49 "poly_text"=true) (k49:PySem.W.keepIn K (.ref f49)=true)
 (a50:PySem.W.findIn K (.ref CRatio) "text"=some (some (.ref f50))) (i50:PySem.W.isFn K (.ref f50)=true)
 (l50:K.lookup f50=some ⟨oc50,od50,.func (PySem.W.fnOf "text" "Ratio.text" (az kZ) (ax kZ) (ag kZ) .none kV50 dc50 pm50 an50 cd50 ct50),sl50⟩) (c50:PySem.W.codeIn K cd50 "Ratio.text"=true) (k50:PySem.W.keepIn K (.ref f50)=true)
 (a51:PySem.W.nsIn K mainGlobals "is_sum"=some (some (.ref f51)))
 (l51:K.lookup f51=some ⟨oc51,od51,.func (PySem.W.fnOf "is_sum" "is_sum" (az fR) (ax fR) (ag fR) .none kV51 dc51 pm51 an51 cd51 ct51),sl51⟩) (c51:PySem.W.codeIn K cd51 "is_sum"=true) (k51:PySem.W.keepIn K (.ref f51)=true)
 (a52:PySem.W.nsIn K mainGlobals "is_product"=some (some (.ref f52)))
 (l52:K.lookup f52=some ⟨oc52,od52,.func (PySem.W.fnOf "is_product" "is_product" (az fS) (ax fS) (ag fS) .none kV52 dc52 pm52 an52 cd52 ct52),sl52⟩) (c52:PySem.W.codeIn K cd52 "is_product"=true) (k52:PySem.W.keepIn K (.ref f52)=true)
 (a53:PySem.W.nsIn K mainGlobals "is_atom"=some (some (.ref f53)))
 (l53:K.lookup f53=some ⟨oc53,od53,.func (PySem.W.fnOf "is_atom" "is_atom" (az fT) (ax fT) (ag fT) .none kV53 dc53 pm53 an53 cd53 ct53),sl53⟩) (c53:PySem.W.codeIn K cd53 "is_atom"=true) (k53:PySem.W.keepIn K (.ref f53)=true)
 (a54:PySem.W.nsIn K mainGlobals "within"=some (some (.ref f54)))
 (l54:K.lookup f54=some ⟨oc54,od54,.func (PySem.W.fnOf "within" "within" (az fJ) (ax fJ) (ag fJ) .none kV54 dc54 pm54 an54 cd54 ct54),sl54⟩) (c54:PySem.W.codeIn K cd54 "within"=true) (k54:PySem.W.keepIn K (.ref f54)=true)
 (a55:PySem.W.nsIn K mainGlobals "product_text"=some (some (.ref f55)))
 (l55:K.lookup f55=some ⟨oc55,od55,.func (PySem.W.fnOf "product_text" "product_text" (az fP) (ax fP) (ag fP) .none kV55 dc55 pm55 an55 cd55 ct55),sl55⟩) (c55:PySem.W.codeIn K cd55 "product_text"=true) (k55:PySem.W.keepIn K (.ref f55)=true)
 (a56:PySem.W.findIn K (.ref CWhole) "text"=some (some (.ref f56))) (i56:PySem.W.isFn K (.ref f56)=true)
 (l56:K.lookup f56=some ⟨oc56,od56,.func (PySem.W.fnOf "text" "Whole.text" (az fU) (ax fU) (ag fU) .none kV56 dc56 pm56 an56 cd56 ct56),sl56⟩) (c56:PySem.W.codeIn K cd56 "Whole.text"=true) (k56:PySem.W.keepIn K (.ref f56)=true)
 (a57:PySem.W.findIn K (.ref CGiven) "text"=some (some (.ref f57))) (i57:PySem.W.isFn K (.ref f57)=true)
 (l57:K.lookup f57=some ⟨oc57,od57,.func (PySem.W.fnOf "text" "Given.text" (az gf) (ax gf) (ag gf) .none kV57 dc57 pm57 an57 cd57 ct57),sl57⟩) (c57:PySem.W.codeIn K cd57 "Given.text"=true) (k57:PySem.W.keepIn K (.ref f57)=true)
 (a58:PySem.W.findIn K (.ref CNamed) "text"=some (some (.ref f58))) (i58:PySem.W.isFn K (.ref f58)=true)
 (l58:K.lookup f58=some ⟨oc58,od58,.func (PySem.W.fnOf "text" "Named.text" (az gb) (ax gb) (ag gb) .none kV58 dc58 pm58 an58 cd58 ct58),sl58⟩) (c58:PySem.W.codeIn K cd58 "Named.text"=true) (k58:PySem.W.keepIn K (.ref f58)=true)
 (a59:PySem.W.findIn K (.ref CMinus) "text"=some (some (.ref f59))) (i59:PySem.W.isFn K (.ref f59)=true)
 (l59:K.lookup f59=some ⟨oc59,od59,.func (PySem.W.fnOf "text" "Minus.text" (az gc) (ax gc) (ag gc) .none kV59 dc59 pm59 an59 cd59 ct59),sl59⟩) (c59:PySem.W.codeIn K cd59 "Minus.text"=true) (k59:PySem.W.keepIn K (.ref f59)=true)
 (a60:PySem.W.findIn K (.ref CSum) "text"=some (some (.ref f60))) (i60:PySem.W.isFn K (.ref f60)=true)
 (l60:K.lookup f60=some ⟨oc60,od60,.func (PySem.W.fnOf "text" "Sum.text" (az fW) (ax fW) (ag fW) .none kV60 dc60 pm60 an60 cd60 ct60),sl60⟩) (c60:PySem.W.codeIn K cd60 "Sum.text"=true) (k60:PySem.W.keepIn K (.ref f60)=true)
 (a61:PySem.W.findIn K (.ref CLess) "text"=some (some (.ref f61))) (i61:PySem.W.isFn K (.ref f61)=true)
 (l61:K.lookup f61=some ⟨oc61,od61,.func (PySem.W.fnOf "text" "Less.text" (az gd) (ax gd) (ag gd) .none kV61 dc61 pm61 an61 cd61 ct61),sl61⟩) (c61:PySem.W.codeIn K cd61 "Less.text"=true) (k61:PySem.W.keepIn K (.ref f61)=true)
 (a62:PySem.W.findIn K (.ref CTimes) "text"=some (some (.ref f62))) (i62:PySem.W.isFn K (.ref f62)=true)
 (l62:K.lookup f62=some ⟨oc62,od62,.func (PySem.W.fnOf "text" "Times.text" (az fV) (ax fV) (ag fV) .none kV62 dc62 pm62 an62 cd62 ct62),sl62⟩) (c62:PySem.W.codeIn K cd62 "Times.text"=true) (k62:PySem.W.keepIn K (.ref f62)=true)
 (a63:PySem.W.findIn K (.ref COver) "text"=some (some (.ref f63))) (i63:PySem.W.isFn K (.ref f63)=true)
 (l63:K.lookup f63=some ⟨oc63,od63,.func (PySem.W.fnOf "text" "Over.text" (az fZ) (ax fZ) (ag fZ) .none kV63 dc63 pm63 an63 cd63 ct63),sl63⟩) (c63:PySem.W.codeIn K cd63 "Over.text"=true) (k63:PySem.W.keepIn K (.ref f63)=true)
 (a64:PySem.W.findIn K (.ref CPower) "text"=some (some (.ref f64))) (i64:PySem.W.isFn K (.ref f64)=true)
 (l64:K.lookup f64=some ⟨oc64,od64,.func (PySem.W.fnOf "text" "Power.text" (az fY) (ax fY) (ag fY) .none kV64 dc64 pm64 an64 cd64 ct64),sl64⟩) (c64:PySem.W.codeIn K cd64 "Power.text"=true) (k64:PySem.W.keepIn K (.ref f64)=true)
 (a65:PySem.W.findIn K (.ref CRooted) "text"=some (some (.ref f65))) (i65:PySem.W.isFn K (.ref f65)=true)
 (l65:K.lookup f65=some ⟨oc65,od65,.func (PySem.W.fnOf "text" "Rooted.text" (az fX) (ax fX) (ag fX) .none kV65 dc65 pm65 an65 cd65 ct65),sl65⟩) (c65:PySem.W.codeIn K cd65 "Rooted.text"=true) (k65:PySem.W.keepIn K (.ref f65)=true)
 (a66:PySem.W.nsIn K mainGlobals "_law_cell"=some (some (.ref f66)))
 (l66:K.lookup f66=some ⟨oc66,od66,.func (PySem.W.fnOf "_law_cell" "_law_cell" (az kJ) (ax kJ) (ag kJ) .none kV66 dc66 pm66 an66 cd66 ct66),sl66⟩) (c66:PySem.W.codeIn K cd66 "_law_cell"=true) (k66:PySem.W.keepIn K (.ref f66)=true)
 (a67:PySem.W.nsIn K mainGlobals "_law_whole"=some (some (.ref f67)))
 (l67:K.lookup f67=some ⟨oc67,od67,.func (PySem.W.fnOf "_law_whole" "_law_whole" (az kq) (ax kq) (ag kq) .none kV67 dc67 pm67 an67 cd67 ct67),sl67⟩) (c67:PySem.W.codeIn K cd67 "_law_whole"=true) (k67:PySem.W.keepIn K (.ref f67)=true)
 (a68:PySem.W.nsIn K mainGlobals "_law_kind"=some (some (.ref f68)))
 (l68:K.lookup f68=some ⟨oc68,od68,.func (PySem.W.fnOf "_law_kind" "_law_kind" (az kG) (ax kG) (ag kG) .none kV68 dc68 pm68 an68 cd68 ct68),sl68⟩) (c68:PySem.W.codeIn K cd68 "_law_kind"=true) (k68:PySem.W.keepIn K (.ref f68)=true)
 (a69:PySem.W.nsIn K mainGlobals "_law_small"=some (some (.ref f69)))
 (l69:K.lookup f69=some ⟨oc69,od69,.func (PySem.W.fnOf "_law_small" "_law_small" (az kv) (ax kv) (ag kv) .none kV69 dc69 pm69 an69 cd69 ct69),sl69⟩) (c69:PySem.W.codeIn K cd69 "_law_small"=true) (k69:PySem.W.keepIn K (.ref f69)=true)
 (a70:PySem.W.nsIn K mainGlobals "_law_next_in_poly"=some (some (.ref f70)))
 (l70:K.lookup f70=some ⟨oc70,od70,.func (PySem.W.fnOf "_law_next_in_poly" "_law_next_in_poly" (az kA) (ax kA) (ag kA) .none kV70 dc70 pm70 an70 cd70 ct70),sl70⟩) (c70:PySem.W.codeIn K cd70 "_law_next_in_poly"=true) (k70:PySem.W.keepIn K (.ref f70)=true)
 (a71:PySem.W.nsIn K mainGlobals "_law_next_in_fraction"=some (some (.ref f71)))
 (l71:K.lookup f71=some ⟨oc71,od71,.func (PySem.W.fnOf "_law_next_in_fraction" "_law_next_in_fraction" (az kB) (ax kB) (ag kB) .none kV71 dc71 pm71 an71 cd71 ct71),sl71⟩) (c71:PySem.W.codeIn K cd71 "_law_next_in_fraction"=true) (k71:PySem.W.keepIn K (.ref f71)=true)
 (a72:PySem.W.nsIn K mainGlobals "_law_next"=some (some (.ref f72)))
 (l72:K.lookup f72=some ⟨oc72,od72,.func (PySem.W.fnOf "_law_next" "_law_next" (az kC) (ax kC) (ag kC) .none kV72 dc72 pm72 an72 cd72 ct72),sl72⟩) (c72:PySem.W.codeIn K cd72 "_law_next"=true) (k72:PySem.W.keepIn K (.ref f72)=true)
 (a73:PySem.W.nsIn K mainGlobals "_law_near"=some (some (.ref f73)))
 (l73:K.lookup f73=some ⟨oc73,od73,.func (PySem.W.fnOf "_law_near" "_law_near" (az kD) (ax kD) (ag kD) .none kV73 dc73 pm73 an73 cd73 ct73),sl73⟩) (c73:PySem.W.codeIn K cd73 "_law_near"=true) (k73:PySem.W.keepIn K (.ref f73)=true)
 (a74:PySem.W.nsIn K mainGlobals "_law_wild"=some (some (.ref f74)))
 (l74:K.lookup f74=some ⟨oc74,od74,.func (PySem.W.fnOf "_law_wild" "_law_wild" (az ko) (ax ko) (ag ko) .none kV74 dc74 pm74 an74 cd74 ct74),sl74⟩) (c74:PySem.W.codeIn K cd74 "_law_wild"=true) (k74:PySem.W.keepIn K (.ref f74)=true)
 (a75:PySem.W.nsIn K mainGlobals "_law_glued"=some (some (.ref f75)))
 (l75:K.lookup f75=some ⟨oc75,od75,.func (PySem.W.fnOf "_law_glued" "_law_glued" (az kH) (ax kH) (ag kH) .none kV75 dc75 pm75 an75 cd75 ct75),sl75⟩) (c75:PySem.W.codeIn K cd75 "_law_glued"=true) (k75:PySem.W.keepIn K (.ref f75)=true)
 (a76:PySem.W.nsIn K mainGlobals "_law_put"=some (some (.ref f76)))
 (l76:K.lookup f76=some ⟨oc76,od76,.func (PySem.W.fnOf "_law_put" "_law_put" (az kz) (ax kz) (ag kz) .none kV76 dc76 pm76 an76 cd76 ct76),sl76⟩) (c76:PySem.W.codeIn K cd76 "_law_put"=true) (k76:PySem.W.keepIn K (.ref f76)=true)
 (a77:PySem.W.nsIn K mainGlobals "_law_some_in_root"=some (some (.ref f77)))
 (l77:K.lookup f77=some ⟨oc77,od77,.func (PySem.W.fnOf "_law_some_in_root" "_law_some_in_root" (az kt) (ax kt) (ag kt) .none kV77 dc77 pm77 an77 cd77 ct77),sl77⟩) (c77:PySem.W.codeIn K cd77 "_law_some_in_root"=true) (k77:PySem.W.keepIn K (.ref f77)=true)
 (a78:PySem.W.nsIn K mainGlobals "_law_some"=some (some (.ref f78)))
 (l78:K.lookup f78=some ⟨oc78,od78,.func (PySem.W.fnOf "_law_some" "_law_some" (az ku) (ax ku) (ag ku) .none kV78 dc78 pm78 an78 cd78 ct78),sl78⟩) (c78:PySem.W.codeIn K cd78 "_law_some"=true) (k78:PySem.W.keepIn K (.ref f78)=true)
 (a79:PySem.W.nsIn K mainGlobals "_law_mark"=some (some (.ref f79)))
 (l79:K.lookup f79=some ⟨oc79,od79,.func (PySem.W.fnOf "_law_mark" "_law_mark" (az kE) (ax kE) (ag kE) .none kV79 dc79 pm79 an79 cd79 ct79),sl79⟩) (c79:PySem.W.codeIn K cd79 "_law_mark"=true) (k79:PySem.W.keepIn K (.ref f79)=true)
 (a80:PySem.W.nsIn K mainGlobals "_law_any"=some (some (.ref f80)))
 (l80:K.lookup f80=some ⟨oc80,od80,.func (PySem.W.fnOf "_law_any" "_law_any" (az kK) (ax kK) (ag kK) .none kV80 dc80 pm80 an80 cd80 ct80),sl80⟩) (c80:PySem.W.codeIn K cd80 "_law_any"=true) (k80:PySem.W.keepIn K (.ref f80)=true)
 (a81:PySem.W.nsIn K mainGlobals "_law_last"=some (some (.ref f81)))
 (l81:K.lookup f81=some ⟨oc81,od81,.func (PySem.W.fnOf "_law_last" "_law_last" (az kF) (ax kF) (ag kF) .none kV81 dc81 pm81 an81 cd81 ct81),sl81⟩) (c81:PySem.W.codeIn K cd81 "_law_last"=true) (k81:PySem.W.keepIn K (.ref f81)=true)
 (a82:PySem.W.nsIn K mainGlobals "_law_ended"=some (some (.ref f82)))
 (l82:K.lookup f82=some ⟨oc82,od82,.func (PySem.W.fnOf "_law_ended" "_law_ended" (az kI) (ax kI) (ag kI) .none kV82 dc82 pm82 an82 cd82 ct82),sl82⟩) (c82:PySem.W.codeIn K cd82 "_law_ended"=true) (k82:PySem.W.keepIn K (.ref f82)=true)
 (a83:PySem.W.nsIn K mainGlobals "_law_refused"=some (some (.ref f83)))
 (l83:K.lookup f83=some ⟨oc83,od83,.func (PySem.W.fnOf "_law_refused" "_law_refused" (az ky) (ax ky) (ag ky) .none kV83 dc83 pm83 an83 cd83 ct83),sl83⟩) (c83:PySem.W.codeIn K cd83 "_law_refused"=true) (k83:PySem.W.keepIn K (.ref f83)=true)
 (a84:PySem.W.nsIn K mainGlobals "law"=some (some (.ref f84)))
 (l84:K.lookup f84=some ⟨oc84,od84,.func (PySem.W.fnOf "law" "law" (az fQ) (ax fQ) (ag fQ) .none kV84 dc84 pm84 an84 cd84 ct84),sl84⟩) (c84:PySem.W.codeIn K cd84 "law"=true) (k84:PySem.W.keepIn K (.ref f84)=true)
 (z0:PySem.W.nsIn K mainGlobals "len"=some none)
 (z1:PySem.W.nsIn K mainGlobals "all"=some none)
 (z2:PySem.W.nsIn K mainGlobals "abs"=some none)
 (z3:PySem.W.nsIn K mainGlobals "str"=some none)
 (z4:PySem.W.nsIn K mainGlobals "max"=some none)
 (z5:PySem.W.nsIn K mainGlobals "range"=some none)
 (z6:PySem.W.nsIn K mainGlobals "list"=some none)
 (z7:PySem.W.nsIn K mainGlobals "isinstance"=some none)
 (z8:PySem.W.nsIn K mainGlobals "int"=some none)
 (z9:PySem.W.nsIn K mainGlobals "bool"=some none)
 (z10:PySem.W.nsIn K mainGlobals "ValueError"=some none)
 (aI_LONGEST:PySem.W.nsIn K mainGlobals "LONGEST"=some (some (.int 8 tk_LONGEST)))
 (aI_DEEPEST:PySem.W.nsIn K mainGlobals "DEEPEST"=some (some (.int 10 tk_DEEPEST)))
 (aI_FIGURES:PySem.W.nsIn K mainGlobals "FIGURES"=some (some (.str "0123456789" tk_FIGURES)))
 (aI_LETTERS:PySem.W.nsIn K mainGlobals "LETTERS"=some (some (.str "abcdefghijklmnopqrstuvwxyz" tk_LETTERS)))
 (aI_WORDS:PySem.W.nsIn K mainGlobals "WORDS"=some (some (.ref tp_WORDS)))
 (lI_WORDS:K.lookup tp_WORDS=some ⟨.type "tuple",odtp_WORDS,.seq #[.str "x" tk_WORDS_0,.str "sqrt" tk_WORDS_1,.str "cbrt" tk_WORDS_2,.str "root" tk_WORDS_3] ntp_WORDS,sltp_WORDS⟩)
 (aI_EXPONENTS:PySem.W.nsIn K mainGlobals "EXPONENTS"=some (some (.ref tp_EXPONENTS)))
 (lI_EXPONENTS:K.lookup tp_EXPONENTS=some ⟨.type "tuple",odtp_EXPONENTS,.seq #[.str "0" tk_EXPONENTS_0,.str "1" tk_EXPONENTS_1,.str "2" tk_EXPONENTS_2,.str "3" tk_EXPONENTS_3,.str "4" tk_EXPONENTS_4,.str "5" tk_EXPONENTS_5,.str "6" tk_EXPONENTS_6,.str "7" tk_EXPONENTS_7,.str "8" tk_EXPONENTS_8] ntp_EXPONENTS,sltp_EXPONENTS⟩)
 : ∃fd:FuncData,(∀(s:Shared) (v:Value),BindsTo s fd ⟨[v],[]⟩ [("_law_script",v)])/\∀base:Heap,K.In base->base.Ns mainGlobals mg->FnOk l.prog w K mg base CX0 183 fa fd ["_law_script"] (pj K):=by
 have e:=hfa.symm.trans (PySem.W.mg_of X G a84);cases e;have T:Txt K mg:=⟨PySem.W.mg_none_of X G z0,PySem.W.mg_none_of X G z1,PySem.W.mg_none_of X G z2,PySem.W.mg_none_of X G z3,PySem.W.mg_none_of X G z4,PySem.W.mg_none_of X G z5,PySem.W.mg_none_of X G z6,PySem.W.mg_none_of X G z7,PySem.W.mg_none_of X G z8,PySem.W.mg_none_of X G z9,PySem.W.mg_none_of X G z10,⟨_,PySem.W.mg_of X G aI_LONGEST⟩,⟨_,PySem.W.mg_of X G aI_DEEPEST⟩,⟨_,PySem.W.mg_of X G aI_FIGURES⟩,⟨_,PySem.W.mg_of X G aI_LETTERS⟩,⟨_,PySem.W.mg_of X G aI_WORDS,λH=>.inr ⟨_,_,_,lI_WORDS,rfl,rfl,by show 4<=sizeLine;decide,.cons ⟨_,rfl⟩ (.cons ⟨_,rfl⟩ (.cons ⟨_,rfl⟩ (.cons ⟨_,rfl⟩ (.nil))))⟩⟩,⟨_,PySem.W.mg_of X G aI_EXPONENTS,λH=>.inr ⟨_,_,_,lI_EXPONENTS,rfl,rfl,by show 9<=sizeLine;decide,.cons ⟨_,rfl⟩ (.cons ⟨_,rfl⟩ (.cons ⟨_,rfl⟩ (.cons ⟨_,rfl⟩ (.cons ⟨_,rfl⟩ (.cons ⟨_,rfl⟩ (.cons ⟨_,rfl⟩ (.cons ⟨_,rfl⟩ (.cons ⟨_,rfl⟩ (.nil)))))))))⟩⟩⟩;have R1:QC K mg CC1:=⟨⟨pg1,hd1,po1,sa1⟩,n1_marks,n1_end,n1_done,n1_depth,PySem.W.mg_of X G aC1⟩;have R2:RCI K mg CRatio:=⟨⟨pg2,hd2,po2,sa2⟩,n2_top,n2_bottom,PySem.W.mg_of X G aC2,ha2,hn2,ht2,hm2⟩;have R3:PCI K mg CPart "Part" []:=⟨⟨pg3,hd3,po3,sa3⟩,NK _,PySem.W.mg_of X G aC3,ha3,hn3,ht3,hm3⟩;have R4:PCI K mg CWhole "Whole" ["value"]:=⟨⟨pg4,hd4,po4,sa4⟩,NC.mpr ⟨n4_value,NK _⟩,PySem.W.mg_of X G aC4,ha4,hn4,ht4,hm4⟩;have R5:PCI K mg CNamed "Named" ["word"]:=⟨⟨pg5,hd5,po5,sa5⟩,NC.mpr ⟨n5_word,NK _⟩,PySem.W.mg_of X G aC5,ha5,hn5,ht5,hm5⟩;have R6:GCI K mg CGiven:=⟨⟨pg6,hd6,po6,sa6⟩,n6_poly,n6_low,n6_high,PySem.W.mg_of X G aC6,ha6,hn6,ht6,hm6⟩;have R7:PCI K mg CMinus "Minus" ["one"]:=⟨⟨pg7,hd7,po7,sa7⟩,NC.mpr ⟨n7_one,NK _⟩,PySem.W.mg_of X G aC7,ha7,hn7,ht7,hm7⟩;have R8:PCI K mg CSum "Sum" ["one","other"]:=⟨⟨pg8,hd8,po8,sa8⟩,NC.mpr ⟨n8_one,NC.mpr ⟨n8_other,NK _⟩⟩,PySem.W.mg_of X G aC8,ha8,hn8,ht8,hm8⟩;have R9:PCI K mg CLess "Less" ["one","other"]:=⟨⟨pg9,hd9,po9,sa9⟩,NC.mpr ⟨n9_one,NC.mpr ⟨n9_other,NK _⟩⟩,PySem.W.mg_of X G aC9,ha9,hn9,ht9,hm9⟩;have R10:PCI K mg CTimes "Times" ["one","other"]:=⟨⟨pg10,hd10,po10,sa10⟩,NC.mpr ⟨n10_one,NC.mpr ⟨n10_other,NK _⟩⟩,PySem.W.mg_of X G aC10,ha10,hn10,ht10,hm10⟩;have R11:PCI K mg COver "Over" ["one","other"]:=⟨⟨pg11,hd11,po11,sa11⟩,NC.mpr ⟨n11_one,NC.mpr ⟨n11_other,NK _⟩⟩,PySem.W.mg_of X G aC11,ha11,hn11,ht11,hm11⟩;have R12:PCI K mg CPower "Power" ["one","power"]:=⟨⟨pg12,hd12,po12,sa12⟩,NC.mpr ⟨n12_one,NC.mpr ⟨n12_power,NK _⟩⟩,PySem.W.mg_of X G aC12,ha12,hn12,ht12,hm12⟩;have R13:PCI K mg CRooted "Rooted" ["one","power"]:=⟨⟨pg13,hd13,po13,sa13⟩,NC.mpr ⟨n13_one,NC.mpr ⟨n13_power,NK _⟩⟩,PySem.W.mg_of X G aC13,ha13,hn13,ht13,hm13⟩;have F1:=aB (st:=jY) l1 c1 k1;have b1:=F1.binds (ps:=["one","other"]) λ_ _ _ _ _ _ us hl=>match us,hl with | [_,_],_=>rfl
 have F2:=Ij (st:=la) l2 c2 k2;have b2:=FunD.bindsD (ps:=["self","top","bottom"]) (ds:=[]) (tup:=[.int 1 tk2_0]) 3 F2 t2 rfl rfl λ_ _ _ _ _ _ us hl=>match us,hl with | [_,_,_],_=>⟨_,rfl,rfl⟩
 have bD2:=FunD.bindsD (ps:=["self","top","bottom"]) (ds:=[.int 1 tk2_0]) (tup:=[.int 1 tk2_0]) 2 F2 t2 rfl rfl λ_ _ _ _ _ _ us hl=>match us,hl with | [_,_],_=>⟨_,rfl,rfl⟩
 have F3:=aB (st:=kL) l3 c3 k3;have b3:=F3.binds (ps:=["self","value"]) λ_ _ _ _ _ _ us hl=>match us,hl with | [_,_],_=>rfl
 have F4:=aB (st:=lg) l4 c4 k4;have b4:=F4.binds (ps:=["self","word"]) λ_ _ _ _ _ _ us hl=>match us,hl with | [_,_],_=>rfl
 have F5:=aB (st:=ll) l5 c5 k5;have b5:=F5.binds (ps:=["self","row","low","high"]) λ_ _ _ _ _ _ us hl=>match us,hl with | [_,_,_,_],_=>rfl
 have F6:=aB (st:=lh) l6 c6 k6;have b6:=F6.binds (ps:=["self","one"]) λ_ _ _ _ _ _ us hl=>match us,hl with | [_,_],_=>rfl
 have F7:=aB (st:=kN) l7 c7 k7;have b7:=F7.binds (ps:=["self","one","other"]) λ_ _ _ _ _ _ us hl=>match us,hl with | [_,_,_],_=>rfl
 have F8:=aB (st:=lj) l8 c8 k8;have b8:=F8.binds (ps:=["self","one","other"]) λ_ _ _ _ _ _ us hl=>match us,hl with | [_,_,_],_=>rfl
 have F9:=aB (st:=kM) l9 c9 k9;have b9:=F9.binds (ps:=["self","one","other"]) λ_ _ _ _ _ _ us hl=>match us,hl with | [_,_,_],_=>rfl
 have F10:=aB (st:=lc) l10 c10 k10;have b10:=F10.binds (ps:=["self","one","other"]) λ_ _ _ _ _ _ us hl=>match us,hl with | [_,_,_],_=>rfl
 have F11:=aB (st:=lb) l11 c11 k11;have b11:=F11.binds (ps:=["self","one","exponent"]) λ_ _ _ _ _ _ us hl=>match us,hl with | [_,_,_],_=>rfl
 have F12:=aB (st:=kO) l12 c12 k12;have b12:=F12.binds (ps:=["self","one","exponent"]) λ_ _ _ _ _ _ us hl=>match us,hl with | [_,_,_],_=>rfl
 have F13:=aB (st:=ke) l13 c13 k13;have b13:=F13.binds (ps:=["row"]) λ_ _ _ _ _ _ us hl=>match us,hl with | [_],_=>rfl
 have F14:=aB (st:=km) l14 c14 k14;have b14:=F14.binds (ps:=["row","place"]) λ_ _ _ _ _ _ us hl=>match us,hl with | [_,_],_=>rfl
 have F15:=aB (st:=kn) l15 c15 k15;have b15:=F15.binds (ps:=["first","second"]) λ_ _ _ _ _ _ us hl=>match us,hl with | [_,_],_=>rfl
 have F16:=aB (st:=jZ) l16 c16 k16;have b16:=F16.binds (ps:=["text","at","signs"]) λ_ _ _ _ _ _ us hl=>match us,hl with | [_,_,_],_=>rfl
 have F17:=aB (st:=kg) l17 c17 k17;have b17:=F17.binds (ps:=["text","at"]) λ_ _ _ _ _ _ us hl=>match us,hl with | [_,_],_=>rfl
 have F18:=aB (st:=kf) l18 c18 k18;have b18:=F18.binds (ps:=["text"]) λ_ _ _ _ _ _ us hl=>match us,hl with | [_],_=>rfl
 have F19:=aB (st:=lf) l19 c19 k19;have b19:=F19.binds (ps:=["self","at"]) λ_ _ _ _ _ _ us hl=>match us,hl with | [_,_],_=>rfl
 have F20:=aB (st:=kY) l20 c20 k20;have b20:=F20.binds (ps:=["self","text"]) λ_ _ _ _ _ _ us hl=>match us,hl with | [_,_],_=>rfl
 have F21:=aB (st:=kQ) l21 c21 k21;have b21:=F21.binds (ps:=["self"]) λ_ _ _ _ _ _ us hl=>match us,hl with | [_],_=>rfl
 have F22:=aB (st:=kX) l22 c22 k22;have b22:=F22.binds (ps:=["self"]) λ_ _ _ _ _ _ us hl=>match us,hl with | [_],_=>rfl
 have F23:=aB (st:=kP) l23 c23 k23;have b23:=F23.binds (ps:=["self"]) λ_ _ _ _ _ _ us hl=>match us,hl with | [_],_=>rfl
 have F24:=aB (st:=kR) l24 c24 k24;have b24:=F24.binds (ps:=["self","mark"]) λ_ _ _ _ _ _ us hl=>match us,hl with | [_,_],_=>rfl
 have F25:=aB (st:=kW) l25 c25 k25;have b25:=F25.binds (ps:=["self","mark"]) λ_ _ _ _ _ _ us hl=>match us,hl with | [_,_],_=>rfl
 have F26:=aB (st:=kU) l26 c26 k26;have b26:=F26.binds (ps:=["self"]) λ_ _ _ _ _ _ us hl=>match us,hl with | [_],_=>rfl
 have F27:=aB (st:=kS) l27 c27 k27;have b27:=F27.binds (ps:=["self"]) λ_ _ _ _ _ _ us hl=>match us,hl with | [_],_=>rfl
 have F28:=aB (st:=kT) l28 c28 k28;have b28:=F28.binds (ps:=["self"]) λ_ _ _ _ _ _ us hl=>match us,hl with | [_],_=>rfl
 have F29:=aB (st:=kh) l29 c29 k29;have b29:=F29.binds (ps:=["word","signs"]) λ_ _ _ _ _ _ us hl=>match us,hl with | [_,_],_=>rfl
 have F30:=aB (st:=ki) l30 c30 k30;have b30:=F30.binds (ps:=["word"]) λ_ _ _ _ _ _ us hl=>match us,hl with | [_],_=>rfl
 have F31:=aB (st:=kj) l31 c31 k31;have b31:=F31.binds (ps:=["word"]) λ_ _ _ _ _ _ us hl=>match us,hl with | [_],_=>rfl
 have F32:=aB (st:=j0) l32 c32 k32;have b32:=F32.binds (ps:=["reading"]) λ_ _ _ _ _ _ us hl=>match us,hl with | [_],_=>rfl
 have F33:=aB (st:=j7) l33 c33 k33;have b33:=F33.binds (ps:=["reading"]) λ_ _ _ _ _ _ us hl=>match us,hl with | [_],_=>rfl
 have F34:=aB (st:=j8) l34 c34 k34;have b34:=F34.binds (ps:=["reading"]) λ_ _ _ _ _ _ us hl=>match us,hl with | [_],_=>rfl
 have F35:=aB (st:=j5) l35 c35 k35;have b35:=F35.binds (ps:=["reading"]) λ_ _ _ _ _ _ us hl=>match us,hl with | [_],_=>rfl
 have F36:=aB (st:=j4) l36 c36 k36;have b36:=F36.binds (ps:=["reading","sign"]) λ_ _ _ _ _ _ us hl=>match us,hl with | [_,_],_=>rfl
 have F37:=aB (st:=j3) l37 c37 k37;have b37:=F37.binds (ps:=["reading"]) λ_ _ _ _ _ _ us hl=>match us,hl with | [_],_=>rfl
 have F38:=aB (st:=j6) l38 c38 k38;have b38:=F38.binds (ps:=["reading"]) λ_ _ _ _ _ _ us hl=>match us,hl with | [_],_=>rfl
 have F39:=aB (st:=fN) l39 c39 k39;have b39:=F39.binds (ps:=["reading"]) λ_ _ _ _ _ _ us hl=>match us,hl with | [_],_=>rfl
 have F40:=aB (st:=fO) l40 c40 k40;have b40:=F40.binds (ps:=["reading"]) λ_ _ _ _ _ _ us hl=>match us,hl with | [_],_=>rfl
 have F41:=aB (st:=fL) l41 c41 k41;have b41:=F41.binds (ps:=["reading"]) λ_ _ _ _ _ _ us hl=>match us,hl with | [_],_=>rfl
 have F42:=aB (st:=fM) l42 c42 k42;have b42:=F42.binds (ps:=["reading"]) λ_ _ _ _ _ _ us hl=>match us,hl with | [_],_=>rfl
 have F43:=aB (st:=fK) l43 c43 k43;have b43:=F43.binds (ps:=["reading"]) λ_ _ _ _ _ _ us hl=>match us,hl with | [_],_=>rfl
 have F44:=aB (st:=fo) l44 c44 k44;have b44:=F44.binds (ps:=["reading"]) λ_ _ _ _ _ _ us hl=>match us,hl with | [_],_=>rfl
 have F45:=aB (st:=j9) l45 c45 k45;have b45:=F45.binds (ps:=["text"]) λ_ _ _ _ _ _ us hl=>match us,hl with | [_],_=>rfl
 have F46:=aB (st:=jW) l46 c46 k46;have b46:=F46.binds (ps:=["value"]) λ_ _ _ _ _ _ us hl=>match us,hl with | [_],_=>rfl
 have F47:=aB (st:=kl) l47 c47 k47;have b47:=F47.binds (ps:=["row"]) λ_ _ _ _ _ _ us hl=>match us,hl with | [_],_=>rfl
 have F48:=aB (st:=jX) l48 c48 k48;have b48:=F48.binds (ps:=["size","place"]) λ_ _ _ _ _ _ us hl=>match us,hl with | [_,_],_=>rfl
 have F49:=aB (st:=ka) l49 c49 k49;have b49:=F49.binds (ps:=["row"]) λ_ _ _ _ _ _ us hl=>match us,hl with | [_],_=>rfl
 have F50:=aB (st:=kZ) l50 c50 k50;have b50:=F50.binds (ps:=["self"]) λ_ _ _ _ _ _ us hl=>match us,hl with | [_],_=>rfl
 have F51:=aB (st:=fR) l51 c51 k51;have b51:=F51.binds (ps:=["tree"]) λ_ _ _ _ _ _ us hl=>match us,hl with | [_],_=>rfl
 have F52:=aB (st:=fS) l52 c52 k52;have b52:=F52.binds (ps:=["tree"]) λ_ _ _ _ _ _ us hl=>match us,hl with | [_],_=>rfl
 have F53:=aB (st:=fT) l53 c53 k53;have b53:=F53.binds (ps:=["tree"]) λ_ _ _ _ _ _ us hl=>match us,hl with | [_],_=>rfl
 have F54:=aB (st:=fJ) l54 c54 k54;have b54:=F54.binds (ps:=["tree","bare"]) λ_ _ _ _ _ _ us hl=>match us,hl with | [_,_],_=>rfl
 have F55:=aB (st:=fP) l55 c55 k55;have b55:=F55.binds (ps:=["one","mark","other"]) λ_ _ _ _ _ _ us hl=>match us,hl with | [_,_,_],_=>rfl
 have F56:=aB (st:=fU) l56 c56 k56;have b56:=F56.binds (ps:=["self"]) λ_ _ _ _ _ _ us hl=>match us,hl with | [_],_=>rfl
 have F57:=aB (st:=gf) l57 c57 k57;have b57:=F57.binds (ps:=["self"]) λ_ _ _ _ _ _ us hl=>match us,hl with | [_],_=>rfl
 have F58:=aB (st:=gb) l58 c58 k58;have b58:=F58.binds (ps:=["self"]) λ_ _ _ _ _ _ us hl=>match us,hl with | [_],_=>rfl
 have F59:=aB (st:=gc) l59 c59 k59;have b59:=F59.binds (ps:=["self"]) λ_ _ _ _ _ _ us hl=>match us,hl with | [_],_=>rfl
 have F60:=aB (st:=fW) l60 c60 k60;have b60:=F60.binds (ps:=["self"]) λ_ _ _ _ _ _ us hl=>match us,hl with | [_],_=>rfl
 have F61:=aB (st:=gd) l61 c61 k61;have b61:=F61.binds (ps:=["self"]) λ_ _ _ _ _ _ us hl=>match us,hl with | [_],_=>rfl
 have F62:=aB (st:=fV) l62 c62 k62;have b62:=F62.binds (ps:=["self"]) λ_ _ _ _ _ _ us hl=>match us,hl with | [_],_=>rfl
 have F63:=aB (st:=fZ) l63 c63 k63;have b63:=F63.binds (ps:=["self"]) λ_ _ _ _ _ _ us hl=>match us,hl with | [_],_=>rfl
 have F64:=aB (st:=fY) l64 c64 k64;have b64:=F64.binds (ps:=["self"]) λ_ _ _ _ _ _ us hl=>match us,hl with | [_],_=>rfl
 have F65:=aB (st:=fX) l65 c65 k65;have b65:=F65.binds (ps:=["self"]) λ_ _ _ _ _ _ us hl=>match us,hl with | [_],_=>rfl
 have F66:=aB (st:=kJ) l66 c66 k66;have b66:=F66.binds (ps:=["_law_script","_law_k"]) λ_ _ _ _ _ _ us hl=>match us,hl with | [_,_],_=>rfl
 have F67:=aB (st:=kq) l67 c67 k67;have b67:=F67.binds (ps:=["_law_found"]) λ_ _ _ _ _ _ us hl=>match us,hl with | [_],_=>rfl
 have F68:=aB (st:=kG) l68 c68 k68;have b68:=F68.binds (ps:=["_law_mark_here"]) λ_ _ _ _ _ _ us hl=>match us,hl with | [_],_=>rfl
 have F69:=aB (st:=kv) l69 c69 k69;have b69:=F69.binds (ps:=["_law_mark_here"]) λ_ _ _ _ _ _ us hl=>match us,hl with | [_],_=>rfl
 have F70:=aB (st:=kA) l70 c70 k70;have b70:=F70.binds (ps:=["_law_state","_law_mark_here"]) λ_ _ _ _ _ _ us hl=>match us,hl with | [_,_],_=>rfl
 have F71:=aB (st:=kB) l71 c71 k71;have b71:=F71.binds (ps:=["_law_state","_law_mark_here"]) λ_ _ _ _ _ _ us hl=>match us,hl with | [_,_],_=>rfl
 have F72:=aB (st:=kC) l72 c72 k72;have b72:=F72.binds (ps:=["_law_state","_law_mark_here"]) λ_ _ _ _ _ _ us hl=>match us,hl with | [_,_],_=>rfl
 have F73:=aB (st:=kD) l73 c73 k73;have b73:=F73.binds (ps:=["_law_state"]) λ_ _ _ _ _ _ us hl=>match us,hl with | [_],_=>rfl
 have F74:=aB (st:=ko) l74 c74 k74;have b74:=F74.binds (ps:=["_law_state","_law_cell_here"]) λ_ _ _ _ _ _ us hl=>match us,hl with | [_,_],_=>rfl
 have F75:=aB (st:=kH) l75 c75 k75;have b75:=F75.binds (ps:=["_law_text","_law_mark_here"]) λ_ _ _ _ _ _ us hl=>match us,hl with | [_,_],_=>rfl
 have F76:=aB (st:=kz) l76 c76 k76;have b76:=F76.binds (ps:=["_law_at","_law_mark_here","_law_gap"]) λ_ _ _ _ _ _ us hl=>match us,hl with | [_,_,_],_=>rfl
 have F77:=aB (st:=kt) l77 c77 k77;have b77:=F77.binds (ps:=["_law_state","_law_many","_law_few"]) λ_ _ _ _ _ _ us hl=>match us,hl with | [_,_,_],_=>rfl
 have F78:=aB (st:=ku) l78 c78 k78;have b78:=F78.binds (ps:=["_law_state","_law_many","_law_few","_law_word"]) λ_ _ _ _ _ _ us hl=>match us,hl with | [_,_,_,_],_=>rfl
 have F79:=aB (st:=kE) l79 c79 k79;have b79:=F79.binds (ps:=["_law_at","_law_cell_here","_law_wild_here","_law_way"]) λ_ _ _ _ _ _ us hl=>match us,hl with | [_,_,_,_],_=>rfl
 have F80:=aB (st:=kK) l80 c80 k80;have b80:=F80.binds (ps:=["_law_cell_here"]) λ_ _ _ _ _ _ us hl=>match us,hl with | [_],_=>rfl
 have F81:=aB (st:=kF) l81 c81 k81;have b81:=F81.binds (ps:=["_law_state"]) λ_ _ _ _ _ _ us hl=>match us,hl with | [_],_=>rfl
 have F82:=aB (st:=kI) l82 c82 k82;have b82:=F82.binds (ps:=["_law_at"]) λ_ _ _ _ _ _ us hl=>match us,hl with | [_],_=>rfl
 have F83:=aB (st:=ky) l83 c83 k83;have b83:=F83.binds (ps:=["_law_text","_law_place"]) λ_ _ _ _ _ _ us hl=>match us,hl with | [_,_],_=>rfl
 have F84:=aB (st:=fQ) l84 c84 k84;have b84:=F84.binds (ps:=["_law_script"]) λ_ _ _ _ _ _ us hl=>match us,hl with | [_],_=>rfl
 refine⟨PySem.W.fnOf "law" "law" (az fQ) (ax fQ) (ag fQ) .none kV84 dc84 pm84 an84 cd84 ct84,λs v=>.of_eq rfl,λbase KB GB=>?_⟩;have XE:EXC K mg base CNoText CRootError CNoName CNoRow:=⟨PySem.W.mg_of X G aENoText,PySem.W.mg_of X G aERootError,PySem.W.mg_of X G aENoName,PySem.W.mg_of X G aENoRow,xh_NoText_RootError,xi_NoText_ValueError,xi_NoText_NoName,xi_NoText_NoRow,xi_NoText_NoText⟩;have C1:Cal l.prog w K mg base 1 "shared_by_two" ["one","other"] sp2 _ _:=⟨DI F1 T  ,PySem.W.mg_of X G a1,k1,b1⟩;have K2:KCal l.prog w K mg base 2 CRatio "Ratio" ["self","top","bottom"] (mK CRatio) _ _ _ [.int 1]:=⟨EO F2 T R2 C1,⟨mk2,a2,i2,kc2⟩,PySem.W.mg_of X G aC2,b2,bD2,.cons ⟨_,rfl⟩ .nil⟩;have K4:KCal l.prog w K mg base 1 CWhole "Whole" ["self","value"] (cm CWhole "value") _ _ _ []:=⟨Ex F3 T R4 ,⟨mk4,a3,i3,kc4⟩,PySem.W.mg_of X G aC4,b3,b3,.nil⟩;have K5:KCal l.prog w K mg base 1 CNamed "Named" ["self","word"] (cm CNamed "word") _ _ _ []:=⟨EW F4 T R5 ,⟨mk5,a4,i4,kc5⟩,PySem.W.mg_of X G aC5,b4,b4,.nil⟩;have K6:KCal l.prog w K mg base 1 CGiven "Given" ["self","row","low","high"] (pp CGiven) _ _ _ []:=⟨E4 F5 T R6 ,⟨mk6,a5,i5,kc6⟩,PySem.W.mg_of X G aC6,b5,b5,.nil⟩;have K7:KCal l.prog w K mg base 1 CMinus "Minus" ["self","one"] (cm CMinus "one") _ _ _ []:=⟨EZ F6 T R7 ,⟨mk7,a6,i6,kc7⟩,PySem.W.mg_of X G aC7,b6,b6,.nil⟩;have K8:KCal l.prog w K mg base 1 CSum "Sum" ["self","one","other"] (aV CSum "one" "other") _ _ _ []:=⟨EB F7 T R8 ,⟨mk8,a7,i7,kc8⟩,PySem.W.mg_of X G aC8,b7,b7,.nil⟩;have K9:KCal l.prog w K mg base 1 CLess "Less" ["self","one","other"] (aV CLess "one" "other") _ _ _ []:=⟨E2 F8 T R9 ,⟨mk9,a8,i8,kc9⟩,PySem.W.mg_of X G aC9,b8,b8,.nil⟩;have K10:KCal l.prog w K mg base 1 CTimes "Times" ["self","one","other"] (aV CTimes "one" "other") _ _ _ []:=⟨Ez F9 T R10 ,⟨mk10,a9,i9,kc10⟩,PySem.W.mg_of X G aC10,b9,b9,.nil⟩;have K11:KCal l.prog w K mg base 1 COver "Over" ["self","one","other"] (aV COver "one" "other") _ _ _ []:=⟨ET F10 T R11 ,⟨mk11,a10,i10,kc11⟩,PySem.W.mg_of X G aC11,b10,b10,.nil⟩;have K12:KCal l.prog w K mg base 1 CPower "Power" ["self","one","exponent"] (aV CPower "one" "power") _ _ _ []:=⟨ER F11 T R12 ,⟨mk12,a11,i11,kc12⟩,PySem.W.mg_of X G aC12,b11,b11,.nil⟩;have K13:KCal l.prog w K mg base 1 CRooted "Rooted" ["self","one","exponent"] (aV CRooted "one" "power") _ _ _ []:=⟨ED F12 T R13 ,⟨mk13,a12,i12,kc13⟩,PySem.W.mg_of X G aC13,b12,b12,.nil⟩;have C13:Cal l.prog w K mg base 1 "poly" ["row"] (o9 K) _ _:=⟨D0 F13 T  ,PySem.W.mg_of X G a13,k13,b13⟩;have C14:Cal l.prog w K mg base 1 "coefficient" ["row","place"] (jS K) _ _:=⟨Eb F14 T  ,PySem.W.mg_of X G a14,k14,b14⟩;have C15:Cal l.prog w K mg base 2 "added" ["first","second"] (rs K fD) _ _:=⟨Ec F15 T  C13 C14,PySem.W.mg_of X G a15,k15,b15⟩;have C16:Cal l.prog w K mg base 1 "run_end" ["text","at","signs"] qV _ _:=⟨DJ F16 T  ,PySem.W.mg_of X G a16,k16,b16⟩;have C17:Cal l.prog w K mg base 2 "mark_end" ["text","at"] rf _ _:=⟨D2 F17 T  C16,PySem.W.mg_of X G a17,k17,b17⟩;have C18:Cal l.prog w K mg base 3 "marks_of" ["text"] re _ _:=⟨D1 F18 T  C17,PySem.W.mg_of X G a18,k18,b18⟩;have C19:XCal l.prog w K mg base 1 CNoText "NoText" "at" ["self","at"] _ _:=⟨EU F19 T (XCls.of yCNoText) yNNoText,Dx KB GB aENoText yXNoText,yKNoText,b19,XCls.of yCNoText,⟨J7 e6NoText,e0NoText,e1NoText,e2NoText,e3NoText,e4NoText,e5NoText,e6NoText⟩,yNNoText⟩;have K1:KCal l.prog w K mg base 4 CC1 "Reading" ["self","text"] (qT CC1) _ _ _ []:=⟨EM F20 T R1 C18,⟨mk1,a20,i20,kc1⟩,PySem.W.mg_of X G aC1,b20,b20,.nil⟩;have C21:MCal l.prog w K mg base 1 CC1 "seen" ["self"] (dc CC1) _ _:=⟨EF F21 T R1 ,⟨a21,i21,k21⟩,b21⟩;have C22:MCal l.prog w K mg base 1 CC1 "begin" ["self"] (gH CC1) _ _:=⟨EL F22 T R1 ,⟨a22,i22,k22⟩,b22⟩;have C23:MCal l.prog w K mg base 2 CC1 "step" ["self"] (eC CC1) _ _:=⟨EE F23 T R1 C21,⟨a23,i23,k23⟩,b23⟩;have C24:MCal l.prog w K mg base 2 CC1 "passes" ["self","mark"] (dP CC1) _ _:=⟨EG F24 T R1 C21,⟨a24,i24,k24⟩,b24⟩;have C25:MCalV l.prog w K mg base 3 CC1 "demand" ["self","mark"] (jR CC1 CNoText) _ _:=⟨EK F25 T R1 C24 C22 C19,⟨a25,i25,k25⟩,b25⟩;have C26:MCalV l.prog w K mg base 4 CC1 "enter" ["self"] (jQ CC1 CNoText) _ _:=⟨EJ F26 T R1 C25 C22 C19,⟨a26,i26,k26⟩,b26⟩;have C27:MCalV l.prog w K mg base 4 CC1 "leave" ["self"] (jO CC1 CNoText) _ _:=⟨EH F27 T R1 C25,⟨a27,i27,k27⟩,b27⟩;have C28:MCalV l.prog w K mg base 3 CC1 "finish" ["self"] (rl CC1 CNoText) _ _:=⟨EI F28 T R1 C22 C19,⟨a28,i28,k28⟩,b28⟩;have C29:Cal l.prog w K mg base 1 "made_of" ["word","signs"] pi _ _:=⟨D3 F29 T  ,PySem.W.mg_of X G a29,k29,b29⟩;have C30:Cal l.prog w K mg base 2 "is_whole" ["word"] ir _ _:=⟨D5 F30 T  C29,PySem.W.mg_of X G a30,k30,b30⟩;have C31:Cal l.prog w K mg base 2 "is_name" ["word"] mJ _ _:=⟨D8 F31 T  C29,PySem.W.mg_of X G a31,k31,b31⟩;have C32:CalV l.prog w K mg base 3 "read_whole" ["reading"] (qS CC1 CNoText) _ _:=⟨DK F32 T  R1 C30 C21 C22 C23 C19,PySem.W.mg_of X G a32,k32,b32⟩;have C33:CalV l.prog w K mg base 4 "read_fraction" ["reading"] (rj CC1 CNoText CRatio) _ _:=⟨DS F33 T  R1 C24 C32 K2 C21 C22 C19,PySem.W.mg_of X G a33,k33,b33⟩;have C34:CalV l.prog w K mg base 3 "read_exponent" ["reading"] (jP CC1 CNoText) _ _:=⟨DU F34 T  R1 C21 C23 C22 C19,PySem.W.mg_of X G a34,k34,b34⟩;have C35:CalV l.prog w K mg base 4 "read_place" ["reading"] (qX CC1 CNoText) _ _:=⟨DQ F35 T  R1 C25 C24 C34,PySem.W.mg_of X G a35,k35,b35⟩;have C36:CalV l.prog w K mg base 5 "read_term" ["reading","sign"] (qP CC1 CNoText) _ _:=⟨DM F36 T  R1 C30 C21 C23 C24 C35 C13,PySem.W.mg_of X G a36,k36,b36⟩;have C37:CalV l.prog w K mg base 6 "read_terms" ["reading"] (qO CC1 CNoText) _ _:=⟨DL F37 T  R1 C36 C24 C21 C15 C23,PySem.W.mg_of X G a37,k37,b37⟩;have C38:CalV l.prog w K mg base 7 "read_given" ["reading"] (mL CC1 CNoText CGiven CRatio) _ _:=⟨DR F38 T  R1 C26 C37 C25 C33 C27 K6,PySem.W.mg_of X G a38,k38,b38⟩;have C39:RawC K mg "read_brackets" fN ["reading"] _ _:=⟨F39,PySem.W.mg_of X G a39,k39,b39⟩;have C40:RawC K mg "read_atom" fO ["reading"] _ _:=⟨F40,PySem.W.mg_of X G a40,k40,b40⟩;have C41:RawC K mg "read_power" fL ["reading"] _ _:=⟨F41,PySem.W.mg_of X G a41,k41,b41⟩;have C42:RawC K mg "read_factor" fM ["reading"] _ _:=⟨F42,PySem.W.mg_of X G a42,k42,b42⟩;have C43:RawC K mg "read_product" fK ["reading"] _ _:=⟨F43,PySem.W.mg_of X G a43,k43,b43⟩;have C44:RawC K mg "read_sum" fo ["reading"] _ _:=⟨F44,PySem.W.mg_of X G a44,k44,b44⟩;have C45:CalV l.prog w K mg base 73 "read" ["text"] (pc CNoText ⟨CWhole,CNamed,CGiven,CMinus,CSum,CLess,CTimes,COver,CPower,CRooted,CRatio⟩) _ _:=⟨DX F45 T  R1 K1 C28 C26 C27 C30 C21 K4 C23 C31 K5 C24 K13 C38 C34 K12 K7 K10 K11 K8 K9 C39 C40 C41 C42 C43 C44,PySem.W.mg_of X G a45,k45,b45⟩;have C46:Cal l.prog w K mg base 1 "whole_text" ["value"] gG _ _:=⟨DG F46 T  ,PySem.W.mg_of X G a46,k46,b46⟩;have C47:Cal l.prog w K mg base 1 "degree" ["row"] rp _ _:=⟨Ea F47 T  ,PySem.W.mg_of X G a47,k47,b47⟩;have C48:Cal l.prog w K mg base 2 "term_text" ["size","place"] qN _ _:=⟨DH F48 T  C46,PySem.W.mg_of X G a48,k48,b48⟩;have C49:Cal l.prog w K mg base 3 "poly_text" ["row"] mH _ _:=⟨DZ F49 T  C48 C47,PySem.W.mg_of X G a49,k49,b49⟩;have C50:MCal l.prog w K mg base 2 CRatio "text" ["self"] (mG CRatio) _ _:=⟨EN F50 T R2 C46,⟨a50,i50,k50⟩,b50⟩;have C51:RawC K mg "is_sum" fR ["tree"] _ _:=⟨F51,PySem.W.mg_of X G a51,k51,b51⟩;have C52:RawC K mg "is_product" fS ["tree"] _ _:=⟨F52,PySem.W.mg_of X G a52,k52,b52⟩;have C53:RawC K mg "is_atom" fT ["tree"] _ _:=⟨F53,PySem.W.mg_of X G a53,k53,b53⟩;have C54:RawC K mg "within" fJ ["tree","bare"] _ _:=⟨F54,PySem.W.mg_of X G a54,k54,b54⟩;have C55:RawC K mg "product_text" fP ["one","mark","other"] _ _:=⟨F55,PySem.W.mg_of X G a55,k55,b55⟩;have C56:RawM K CWhole "text" "Whole.text" fU ["self"] _ _:=⟨F56,⟨a56,i56,k56⟩,b56⟩;have C57:RawM K CGiven "text" "Given.text" gf ["self"] _ _:=⟨F57,⟨a57,i57,k57⟩,b57⟩;have C58:RawM K CNamed "text" "Named.text" gb ["self"] _ _:=⟨F58,⟨a58,i58,k58⟩,b58⟩;have C59:RawM K CMinus "text" "Minus.text" gc ["self"] _ _:=⟨F59,⟨a59,i59,k59⟩,b59⟩;have C60:RawM K CSum "text" "Sum.text" fW ["self"] _ _:=⟨F60,⟨a60,i60,k60⟩,b60⟩;have C61:RawM K CLess "text" "Less.text" gd ["self"] _ _:=⟨F61,⟨a61,i61,k61⟩,b61⟩;have C62:RawM K CTimes "text" "Times.text" fV ["self"] _ _:=⟨F62,⟨a62,i62,k62⟩,b62⟩;have C63:RawM K COver "text" "Over.text" fZ ["self"] _ _:=⟨F63,⟨a63,i63,k63⟩,b63⟩;have C64:RawM K CPower "text" "Power.text" fY ["self"] _ _:=⟨F64,⟨a64,i64,k64⟩,b64⟩;have C65:RawM K CRooted "text" "Rooted.text" fX ["self"] _ _:=⟨F65,⟨a65,i65,k65⟩,b65⟩;have C66:Cal l.prog w K mg base 1 "_law_cell" ["_law_script","_law_k"] (jS K) _ _:=⟨Eu F66 T  ,PySem.W.mg_of X G a66,k66,b66⟩;have C67:CalH l.prog w K mg base 1 "_law_whole" ["_law_found"] qM _ _:=⟨Ee F67 T  ,PySem.W.mg_of X G a67,k67,b67⟩;have C68:Cal l.prog w K mg base 1 "_law_kind" ["_law_mark_here"] mI _ _:=⟨Er F68 T  ,PySem.W.mg_of X G a68,k68,b68⟩;have C69:Cal l.prog w K mg base 1 "_law_small" ["_law_mark_here"] pb _ _:=⟨Eh F69 T  ,PySem.W.mg_of X G a69,k69,b69⟩;have C70:Cal l.prog w K mg base 2 "_law_next_in_poly" ["_law_state","_law_mark_here"] q5 _ _:=⟨Ek F70 T  C68 C69,PySem.W.mg_of X G a70,k70,b70⟩;have C71:Cal l.prog w K mg base 2 "_law_next_in_fraction" ["_law_state","_law_mark_here"] q9 _ _:=⟨El F71 T  C68,PySem.W.mg_of X G a71,k71,b71⟩;have C72:Cal l.prog w K mg base 3 "_law_next" ["_law_state","_law_mark_here"] qZ _ _:=⟨Em F72 T  C70 C71 C68 C69,PySem.W.mg_of X G a72,k72,b72⟩;have C73:Cal l.prog w K mg base 1 "_law_near" ["_law_state"] q8 _ _:=⟨En F73 T  ,PySem.W.mg_of X G a73,k73,b73⟩;have C74:Cal l.prog w K mg base 2 "_law_wild" ["_law_state","_law_cell_here"] qL _ _:=⟨Ed F74 T  C73,PySem.W.mg_of X G a74,k74,b74⟩;have C75:Cal l.prog w K mg base 1 "_law_glued" ["_law_text","_law_mark_here"] rh _ _:=⟨Es F75 T  ,PySem.W.mg_of X G a75,k75,b75⟩;have C76:Cal l.prog w K mg base 4 "_law_put" ["_law_at","_law_mark_here","_law_gap"] qW _ _:=⟨Ej F76 T  C75 C72,PySem.W.mg_of X G a76,k76,b76⟩;have C77:Cal l.prog w K mg base 1 "_law_some_in_root" ["_law_state","_law_many","_law_few"] qQ _ _:=⟨Ef F77 T  ,PySem.W.mg_of X G a77,k77,b77⟩;have C78:Cal l.prog w K mg base 2 "_law_some" ["_law_state","_law_many","_law_few","_law_word"] qR _ _:=⟨Eg F78 T  C77,PySem.W.mg_of X G a78,k78,b78⟩;have C79:Cal l.prog w K mg base 3 "_law_mark" ["_law_at","_law_cell_here","_law_wild_here","_law_way"] rc _ _:=⟨Eo F79 T  C74 C78,PySem.W.mg_of X G a79,k79,b79⟩;have C80:Cal l.prog w K mg base 1 "_law_any" ["_law_cell_here"] rq _ _:=⟨Ev F80 T  ,PySem.W.mg_of X G a80,k80,b80⟩;have C81:Cal l.prog w K mg base 1 "_law_last" ["_law_state"] rg _ _:=⟨Ep F81 T  ,PySem.W.mg_of X G a81,k81,b81⟩;have C82:Cal l.prog w K mg base 1 "_law_ended" ["_law_at"] rm _ _:=⟨Et F82 T  ,PySem.W.mg_of X G a82,k82,b82⟩;have C83:Cal l.prog w K mg base 74 "_law_refused" ["_law_text","_law_place"] qU _ _:=⟨Ei F83 T  XE C45 C67 C19,PySem.W.mg_of X G a83,k83,b83⟩;exact D4 F84 T  R2 R4 R5 R6 R7 R8 R9 R10 R11 R12 R13 R3 xN xU C66 C79 C80 C76 C82 C81 C83 C45 K4 K5 K6 K2 K7 K12 K13 K8 K9 K10 K11 C46 C49 C50 C51 C52 C53 C54 C55 C56 C57 C58 C59 C60 C61 C62 C63 C64 C65
theorem walk{l:PySem.W.OpenLaw}{q:Program}{loose:List Str}{XP:(Str->Option Value)->Heap->Prop}{YP:World->Heap->Prop}{d:DefRec}{K:Params->PySem.W.Frag}(hn:l.most=some 63)(hdf:d.params.defaults=[])
 (hY:∀(w:World) (h:Heap),YP w h->(K w.params).In h)
 (F:∀(w:World) (mg:Str->Option Value) (fa:Addr) (h:Heap),(K w.params).In h->h.Ns mainGlobals mg->mg d.name=some (.ref fa) ->
   ∃fd:FuncData,(∀(s:Shared) (u:Value),BindsTo s fd ⟨[u],[]⟩ [("_law_script",u)])/\∀base:Heap,(K w.params).In base->base.Ns mainGlobals mg->FnOk l.prog w (K w.params) mg base CX0 183 fa fd ["_law_script"] (pj (K w.params))) :
 PySem.W.WalkO q loose XP YP l.row.toRowW d [] (λf vs=>PySem.call f vs) :=
 L2.walk_of (n:=63) (k:=183) (x:="_law_script") (CX:=λ_=>CX0) (sp:=λw=>pj (K w.params)) hn (by decide) hdf ⟨rfl,by decide,by decide⟩ hY F (λ_ _ a ns hl _ hS=>⟨a,ns,rfl,hS,hl,λ_=>rfl⟩) λ_ _ _ _ _ z=>z
section
end
end R66
open PySem PySem.W PyProof.Rows
set_option maxRecDepth 100000 in
set_option maxHeartbeats 0 in
theorem PySem.Challenge.cw_rootspan_k66_whole_no_text_holds : PySem.Challenge.rw_rootspan_k66_whole_no_text.Holds := by
 w_on;o_law;k_head;(case hw=>w_witness2)
 k_fill
 refine R66.walk (l:=PySem.Challenge.rw_rootspan_k66_whole_no_text) rfl rfl (λw h Y=>PySem.W.kIn_of Y) ?F
 case F =>
  intro w mg fa h KX G hmg
  refine' R66.all_mk KX G hmg ?aC1 ?pg1 ?hd1 ?po1 ?sa1 ?mk1 ?kc1 ?n1_marks ?n1_end ?n1_done ?n1_depth ?aC2 ?pg2 ?hd2 ?po2 ?sa2 ?mk2 ?kc2 ?n2_top ?n2_bottom ?ha2 ?hn2 ?ht2 ?hm2 ?aC3 ?pg3 ?hd3 ?po3 ?sa3 ?mk3 ?kc3 ?ha3 ?hn3 ?ht3 ?hm3 ?aC4 ?pg4 ?hd4 ?po4 ?sa4 ?mk4 ?kc4 ?n4_value ?ha4 ?hn4 ?ht4 ?hm4 ?aC5 ?pg5 ?hd5 ?po5 ?sa5 ?mk5 ?kc5 ?n5_word ?ha5 ?hn5 ?ht5 ?hm5 ?aC6 ?pg6 ?hd6 ?po6 ?sa6 ?mk6 ?kc6 ?n6_poly ?n6_low ?n6_high ?ha6 ?hn6 ?ht6 ?hm6 ?aC7 ?pg7 ?hd7 ?po7 ?sa7 ?mk7 ?kc7 ?n7_one ?ha7 ?hn7 ?ht7 ?hm7 ?aC8 ?pg8 ?hd8 ?po8 ?sa8 ?mk8 ?kc8 ?n8_one ?n8_other ?ha8 ?hn8 ?ht8 ?hm8 ?aC9 ?pg9 ?hd9 ?po9 ?sa9 ?mk9 ?kc9 ?n9_one ?n9_other ?ha9 ?hn9 ?ht9 ?hm9 ?aC10 ?pg10 ?hd10 ?po10 ?sa10 ?mk10 ?kc10 ?n10_one ?n10_other ?ha10 ?hn10 ?ht10 ?hm10 ?aC11 ?pg11 ?hd11 ?po11 ?sa11 ?mk11 ?kc11 ?n11_one ?n11_other ?ha11 ?hn11 ?ht11 ?hm11 ?aC12 ?pg12 ?hd12 ?po12 ?sa12 ?mk12 ?kc12 ?n12_one ?n12_power ?ha12 ?hn12 ?ht12 ?hm12 ?aC13 ?pg13 ?hd13 ?po13 ?sa13 ?mk13 ?kc13 ?n13_one ?n13_power ?ha13 ?hn13 ?ht13 ?hm13 ?aENoText ?aERootError ?aENoName ?aENoRow ?e0NoText ?e1NoText ?e2NoText ?e3NoText ?e4NoText ?e5NoText ?e6NoText ?yXNoText ?yCNoText ?yKNoText ?yNNoText ?xh_NoText_RootError ?xi_NoText_ValueError ?xi_NoText_NoName ?xi_NoText_NoRow ?xi_NoText_NoText ?xN ?xU ?a1 ?l1 ?c1 ?k1 ?a2 ?i2 ?l2 ?c2 ?k2 ?t2 ?a3 ?i3 ?l3 ?c3 ?k3 ?a4 ?i4 ?l4 ?c4 ?k4 ?a5 ?i5 ?l5 ?c5 ?k5 ?a6 ?i6 ?l6 ?c6 ?k6 ?a7 ?i7 ?l7 ?c7 ?k7 ?a8 ?i8 ?l8 ?c8 ?k8 ?a9 ?i9 ?l9 ?c9 ?k9 ?a10 ?i10 ?l10 ?c10 ?k10 ?a11 ?i11 ?l11 ?c11 ?k11 ?a12 ?i12 ?l12 ?c12 ?k12 ?a13 ?l13 ?c13 ?k13 ?a14 ?l14 ?c14 ?k14 ?a15 ?l15 ?c15 ?k15 ?a16 ?l16 ?c16 ?k16 ?a17 ?l17 ?c17 ?k17 ?a18 ?l18 ?c18 ?k18 ?a19 ?l19 ?c19 ?k19 ?a20 ?i20 ?l20 ?c20 ?k20 ?a21 ?i21 ?l21 ?c21 ?k21 ?a22 ?i22 ?l22 ?c22 ?k22 ?a23 ?i23 ?l23 ?c23 ?k23 ?a24 ?i24 ?l24 ?c24 ?k24 ?a25 ?i25 ?l25 ?c25 ?k25 ?a26 ?i26 ?l26 ?c26 ?k26 ?a27 ?i27 ?l27 ?c27 ?k27 ?a28 ?i28 ?l28 ?c28 ?k28 ?a29 ?l29 ?c29 ?k29 ?a30 ?l30 ?c30 ?k30 ?a31 ?l31 ?c31 ?k31 ?a32 ?l32 ?c32 ?k32 ?a33 ?l33 ?c33 ?k33 ?a34 ?l34 ?c34 ?k34 ?a35 ?l35 ?c35 ?k35 ?a36 ?l36 ?c36 ?k36 ?a37 ?l37 ?c37 ?k37 ?a38 ?l38 ?c38 ?k38 ?a39 ?l39 ?c39 ?k39 ?a40 ?l40 ?c40 ?k40 ?a41 ?l41 ?c41 ?k41 ?a42 ?l42 ?c42 ?k42 ?a43 ?l43 ?c43 ?k43 ?a44 ?l44 ?c44 ?k44 ?a45 ?l45 ?c45 ?k45 ?a46 ?l46 ?c46 ?k46 ?a47 ?l47 ?c47 ?k47 ?a48 ?l48 ?c48 ?k48 ?a49 ?l49 ?c49 ?k49 ?a50 ?i50 ?l50 ?c50 ?k50 ?a51 ?l51 ?c51 ?k51 ?a52 ?l52 ?c52 ?k52 ?a53 ?l53 ?c53 ?k53 ?a54 ?l54 ?c54 ?k54 ?a55 ?l55 ?c55 ?k55 ?a56 ?i56 ?l56 ?c56 ?k56 ?a57 ?i57 ?l57 ?c57 ?k57 ?a58 ?i58 ?l58 ?c58 ?k58 ?a59 ?i59 ?l59 ?c59 ?k59 ?a60 ?i60 ?l60 ?c60 ?k60 ?a61 ?i61 ?l61 ?c61 ?k61 ?a62 ?i62 ?l62 ?c62 ?k62 ?a63 ?i63 ?l63 ?c63 ?k63 ?a64 ?i64 ?l64 ?c64 ?k64 ?a65 ?i65 ?l65 ?c65 ?k65 ?a66 ?l66 ?c66 ?k66 ?a67 ?l67 ?c67 ?k67 ?a68 ?l68 ?c68 ?k68 ?a69 ?l69 ?c69 ?k69 ?a70 ?l70 ?c70 ?k70 ?a71 ?l71 ?c71 ?k71 ?a72 ?l72 ?c72 ?k72 ?a73 ?l73 ?c73 ?k73 ?a74 ?l74 ?c74 ?k74 ?a75 ?l75 ?c75 ?k75 ?a76 ?l76 ?c76 ?k76 ?a77 ?l77 ?c77 ?k77 ?a78 ?l78 ?c78 ?k78 ?a79 ?l79 ?c79 ?k79 ?a80 ?l80 ?c80 ?k80 ?a81 ?l81 ?c81 ?k81 ?a82 ?l82 ?c82 ?k82 ?a83 ?l83 ?c83 ?k83 ?a84 ?l84 ?c84 ?k84 ?z0 ?z1 ?z2 ?z3 ?z4 ?z5 ?z6 ?z7 ?z8 ?z9 ?z10 ?aI_LONGEST ?aI_DEEPEST ?aI_FIGURES ?aI_LETTERS ?aI_WORDS ?lI_WORDS ?aI_EXPONENTS ?lI_EXPONENTS
  (case aC1=>k_is)
  (case pg1=>k_is)
  (case hd1=>k_is)
  (case po1=>k_is)
  (case sa1=>k_is)
  (case mk1=>k_is)
  (case kc1=>k_is)
  (case n1_marks=>k_is)
  (case n1_end=>k_is)
  (case n1_done=>k_is)
  (case n1_depth=>k_is)
  (case aC2=>k_is)
  (case pg2=>k_is)
  (case hd2=>k_is)
  (case po2=>k_is)
  (case sa2=>k_is)
  (case mk2=>k_is)
  (case kc2=>k_is)
  (case n2_top=>k_is)
  (case n2_bottom=>k_is)
  (case ha2=>k_is)
  (case hn2=>k_is)
  (case ht2=>k_is)
  (case hm2=>k_is)
  (case aC3=>k_is)
  (case pg3=>k_is)
  (case hd3=>k_is)
  (case po3=>k_is)
  (case sa3=>k_is)
  (case mk3=>k_is)
  (case kc3=>k_is)
  (case ha3=>k_is)
  (case hn3=>k_is)
  (case ht3=>k_is)
  (case hm3=>k_is)
  (case aC4=>k_is)
  (case pg4=>k_is)
  (case hd4=>k_is)
  (case po4=>k_is)
  (case sa4=>k_is)
  (case mk4=>k_is)
  (case kc4=>k_is)
  (case n4_value=>k_is)
  (case ha4=>k_is)
  (case hn4=>k_is)
  (case ht4=>k_is)
  (case hm4=>k_is)
  (case aC5=>k_is)
  (case pg5=>k_is)
  (case hd5=>k_is)
  (case po5=>k_is)
  (case sa5=>k_is)
  (case mk5=>k_is)
  (case kc5=>k_is)
  (case n5_word=>k_is)
  (case ha5=>k_is)
  (case hn5=>k_is)
  (case ht5=>k_is)
  (case hm5=>k_is)
  (case aC6=>k_is)
  (case pg6=>k_is)
  (case hd6=>k_is)
  (case po6=>k_is)
  (case sa6=>k_is)
  (case mk6=>k_is)
  (case kc6=>k_is)
  (case n6_poly=>k_is)
  (case n6_low=>k_is)
  (case n6_high=>k_is)
  (case ha6=>k_is)
  (case hn6=>k_is)
  (case ht6=>k_is)
  (case hm6=>k_is)
  (case aC7=>k_is)
  (case pg7=>k_is)
  (case hd7=>k_is)
  (case po7=>k_is)
  (case sa7=>k_is)
  (case mk7=>k_is)
  (case kc7=>k_is)
  (case n7_one=>k_is)
  (case ha7=>k_is)
  (case hn7=>k_is)
  (case ht7=>k_is)
  (case hm7=>k_is)
  (case aC8=>k_is)
  (case pg8=>k_is)
  (case hd8=>k_is)
  (case po8=>k_is)
  (case sa8=>k_is)
  (case mk8=>k_is)
  (case kc8=>k_is)
  (case n8_one=>k_is)
  (case n8_other=>k_is)
  (case ha8=>k_is)
  (case hn8=>k_is)
  (case ht8=>k_is)
  (case hm8=>k_is)
  (case aC9=>k_is)
  (case pg9=>k_is)
  (case hd9=>k_is)
  (case po9=>k_is)
  (case sa9=>k_is)
  (case mk9=>k_is)
  (case kc9=>k_is)
  (case n9_one=>k_is)
  (case n9_other=>k_is)
  (case ha9=>k_is)
  (case hn9=>k_is)
  (case ht9=>k_is)
  (case hm9=>k_is)
  (case aC10=>k_is)
  (case pg10=>k_is)
  (case hd10=>k_is)
  (case po10=>k_is)
  (case sa10=>k_is)
  (case mk10=>k_is)
  (case kc10=>k_is)
  (case n10_one=>k_is)
  (case n10_other=>k_is)
  (case ha10=>k_is)
  (case hn10=>k_is)
  (case ht10=>k_is)
  (case hm10=>k_is)
  (case aC11=>k_is)
  (case pg11=>k_is)
  (case hd11=>k_is)
  (case po11=>k_is)
  (case sa11=>k_is)
  (case mk11=>k_is)
  (case kc11=>k_is)
  (case n11_one=>k_is)
  (case n11_other=>k_is)
  (case ha11=>k_is)
  (case hn11=>k_is)
  (case ht11=>k_is)
  (case hm11=>k_is)
  (case aC12=>k_is)
  (case pg12=>k_is)
  (case hd12=>k_is)
  (case po12=>k_is)
  (case sa12=>k_is)
  (case mk12=>k_is)
  (case kc12=>k_is)
  (case n12_one=>k_is)
  (case n12_power=>k_is)
  (case ha12=>k_is)
  (case hn12=>k_is)
  (case ht12=>k_is)
  (case hm12=>k_is)
  (case aC13=>k_is)
  (case pg13=>k_is)
  (case hd13=>k_is)
  (case po13=>k_is)
  (case sa13=>k_is)
  (case mk13=>k_is)
  (case kc13=>k_is)
  (case n13_one=>k_is)
  (case n13_power=>k_is)
  (case ha13=>k_is)
  (case hn13=>k_is)
  (case ht13=>k_is)
  (case hm13=>k_is)
  (case aENoText=>k_is)
  (case aERootError=>k_is)
  (case aENoName=>k_is)
  (case aENoRow=>k_is)
  (case e0NoText=>k_is)
  (case e1NoText=>k_is)
  (case e2NoText=>k_is)
  (case e3NoText=>k_is)
  (case e4NoText=>k_is)
  (case e5NoText=>k_is)
  (case e6NoText=>k_is)
  (case yCNoText=>first |rfl |with_unfolding_all rfl)
  (case yKNoText=>k_is)
  (case yNNoText=>k_is)
  (case xh_NoText_RootError=>kts_exm)
  (case xi_NoText_ValueError=>kit_is)
  (case xi_NoText_NoName=>kit_is)
  (case xi_NoText_NoRow=>kit_is)
  (case xi_NoText_NoText=>kit_is)
  (case a1=>k_is)
  (case l1=>k_is)
  (case c1=>k_is)
  (case k1=>k_is)
  (case a2=>k_is)
  (case i2=>k_is)
  (case l2=>k_is)
  (case c2=>k_is)
  (case k2=>k_is)
  (case t2=>k_is)
  (case a3=>k_is)
  (case i3=>k_is)
  (case l3=>k_is)
  (case c3=>k_is)
  (case k3=>k_is)
  (case a4=>k_is)
  (case i4=>k_is)
  (case l4=>k_is)
  (case c4=>k_is)
  (case k4=>k_is)
  (case a5=>k_is)
  (case i5=>k_is)
  (case l5=>k_is)
  (case c5=>k_is)
  (case k5=>k_is)
  (case a6=>k_is)
  (case i6=>k_is)
  (case l6=>k_is)
  (case c6=>k_is)
  (case k6=>k_is)
  (case a7=>k_is)
  (case i7=>k_is)
  (case l7=>k_is)
  (case c7=>k_is)
  (case k7=>k_is)
  (case a8=>k_is)
  (case i8=>k_is)
  (case l8=>k_is)
  (case c8=>k_is)
  (case k8=>k_is)
  (case a9=>k_is)
  (case i9=>k_is)
  (case l9=>k_is)
  (case c9=>k_is)
  (case k9=>k_is)
  (case a10=>k_is)
  (case i10=>k_is)
  (case l10=>k_is)
  (case c10=>k_is)
  (case k10=>k_is)
  (case a11=>k_is)
  (case i11=>k_is)
  (case l11=>k_is)
  (case c11=>k_is)
  (case k11=>k_is)
  (case a12=>k_is)
  (case i12=>k_is)
  (case l12=>k_is)
  (case c12=>k_is)
  (case k12=>k_is)
  (case a13=>k_is)
  (case l13=>k_is)
  (case c13=>k_is)
  (case k13=>k_is)
  (case a14=>k_is)
  (case l14=>k_is)
  (case c14=>k_is)
  (case k14=>k_is)
  (case a15=>k_is)
  (case l15=>k_is)
  (case c15=>k_is)
  (case k15=>k_is)
  (case a16=>k_is)
  (case l16=>k_is)
  (case c16=>k_is)
  (case k16=>k_is)
  (case a17=>k_is)
  (case l17=>k_is)
  (case c17=>k_is)
  (case k17=>k_is)
  (case a18=>k_is)
  (case l18=>k_is)
  (case c18=>k_is)
  (case k18=>k_is)
  (case a19=>k_is)
  (case l19=>k_is)
  (case c19=>k_is)
  (case k19=>k_is)
  (case a20=>k_is)
  (case i20=>k_is)
  (case l20=>k_is)
  (case c20=>k_is)
  (case k20=>k_is)
  (case a21=>k_is)
  (case i21=>k_is)
  (case l21=>k_is)
  (case c21=>k_is)
  (case k21=>k_is)
  (case a22=>k_is)
  (case i22=>k_is)
  (case l22=>k_is)
  (case c22=>k_is)
  (case k22=>k_is)
  (case a23=>k_is)
  (case i23=>k_is)
  (case l23=>k_is)
  (case c23=>k_is)
  (case k23=>k_is)
  (case a24=>k_is)
  (case i24=>k_is)
  (case l24=>k_is)
  (case c24=>k_is)
  (case k24=>k_is)
  (case a25=>k_is)
  (case i25=>k_is)
  (case l25=>k_is)
  (case c25=>k_is)
  (case k25=>k_is)
  (case a26=>k_is)
  (case i26=>k_is)
  (case l26=>k_is)
  (case c26=>k_is)
  (case k26=>k_is)
  (case a27=>k_is)
  (case i27=>k_is)
  (case l27=>k_is)
  (case c27=>k_is)
  (case k27=>k_is)
  (case a28=>k_is)
  (case i28=>k_is)
  (case l28=>k_is)
  (case c28=>k_is)
  (case k28=>k_is)
  (case a29=>k_is)
  (case l29=>k_is)
  (case c29=>k_is)
  (case k29=>k_is)
  (case a30=>k_is)
  (case l30=>k_is)
  (case c30=>k_is)
  (case k30=>k_is)
  (case a31=>k_is)
  (case l31=>k_is)
  (case c31=>k_is)
  (case k31=>k_is)
  (case a32=>k_is)
  (case l32=>k_is)
  (case c32=>k_is)
  (case k32=>k_is)
  (case a33=>k_is)
  (case l33=>k_is)
  (case c33=>k_is)
  (case k33=>k_is)
  (case a34=>k_is)
  (case l34=>k_is)
  (case c34=>k_is)
  (case k34=>k_is)
  (case a35=>k_is)
  (case l35=>k_is)
  (case c35=>k_is)
  (case k35=>k_is)
  (case a36=>k_is)
  (case l36=>k_is)
  (case c36=>k_is)
  (case k36=>k_is)
  (case a37=>k_is)
  (case l37=>k_is)
  (case c37=>k_is)
  (case k37=>k_is)
  (case a38=>k_is)
  (case l38=>k_is)
  (case c38=>k_is)
  (case k38=>k_is)
  (case a39=>k_is)
  (case l39=>k_is)
  (case c39=>k_is)
  (case k39=>k_is)
  (case a40=>k_is)
  (case l40=>k_is)
  (case c40=>k_is)
  (case k40=>k_is)
  (case a41=>k_is)
  (case l41=>k_is)
  (case c41=>k_is)
  (case k41=>k_is)
  (case a42=>k_is)
  (case l42=>k_is)
  (case c42=>k_is)
  (case k42=>k_is)
  (case a43=>k_is)
  (case l43=>k_is)
  (case c43=>k_is)
  (case k43=>k_is)
  (case a44=>k_is)
  (case l44=>k_is)
  (case c44=>k_is)
  (case k44=>k_is)
  (case a45=>k_is)
  (case l45=>k_is)
  (case c45=>k_is)
  (case k45=>k_is)
  (case a46=>k_is)
  (case l46=>k_is)
  (case c46=>k_is)
  (case k46=>k_is)
  (case a47=>k_is)
  (case l47=>k_is)
  (case c47=>k_is)
  (case k47=>k_is)
  (case a48=>k_is)
  (case l48=>k_is)
  (case c48=>k_is)
  (case k48=>k_is)
  (case a49=>k_is)
  (case l49=>k_is)
  (case c49=>k_is)
  (case k49=>k_is)
  (case a50=>k_is)
  (case i50=>k_is)
  (case l50=>k_is)
  (case c50=>k_is)
  (case k50=>k_is)
  (case a51=>k_is)
  (case l51=>k_is)
  (case c51=>k_is)
  (case k51=>k_is)
  (case a52=>k_is)
  (case l52=>k_is)
  (case c52=>k_is)
  (case k52=>k_is)
  (case a53=>k_is)
  (case l53=>k_is)
  (case c53=>k_is)
  (case k53=>k_is)
  (case a54=>k_is)
  (case l54=>k_is)
  (case c54=>k_is)
  (case k54=>k_is)
  (case a55=>k_is)
  (case l55=>k_is)
  (case c55=>k_is)
  (case k55=>k_is)
  (case a56=>k_is)
  (case i56=>k_is)
  (case l56=>k_is)
  (case c56=>k_is)
  (case k56=>k_is)
  (case a57=>k_is)
  (case i57=>k_is)
  (case l57=>k_is)
  (case c57=>k_is)
  (case k57=>k_is)
  (case a58=>k_is)
  (case i58=>k_is)
  (case l58=>k_is)
  (case c58=>k_is)
  (case k58=>k_is)
  (case a59=>k_is)
  (case i59=>k_is)
  (case l59=>k_is)
  (case c59=>k_is)
  (case k59=>k_is)
  (case a60=>k_is)
  (case i60=>k_is)
  (case l60=>k_is)
  (case c60=>k_is)
  (case k60=>k_is)
  (case a61=>k_is)
  (case i61=>k_is)
  (case l61=>k_is)
  (case c61=>k_is)
  (case k61=>k_is)
  (case a62=>k_is)
  (case i62=>k_is)
  (case l62=>k_is)
  (case c62=>k_is)
  (case k62=>k_is)
  (case a63=>k_is)
  (case i63=>k_is)
  (case l63=>k_is)
  (case c63=>k_is)
  (case k63=>k_is)
  (case a64=>k_is)
  (case i64=>k_is)
  (case l64=>k_is)
  (case c64=>k_is)
  (case k64=>k_is)
  (case a65=>k_is)
  (case i65=>k_is)
  (case l65=>k_is)
  (case c65=>k_is)
  (case k65=>k_is)
  (case a66=>k_is)
  (case l66=>k_is)
  (case c66=>k_is)
  (case k66=>k_is)
  (case a67=>k_is)
  (case l67=>k_is)
  (case c67=>k_is)
  (case k67=>k_is)
  (case a68=>k_is)
  (case l68=>k_is)
  (case c68=>k_is)
  (case k68=>k_is)
  (case a69=>k_is)
  (case l69=>k_is)
  (case c69=>k_is)
  (case k69=>k_is)
  (case a70=>k_is)
  (case l70=>k_is)
  (case c70=>k_is)
  (case k70=>k_is)
  (case a71=>k_is)
  (case l71=>k_is)
  (case c71=>k_is)
  (case k71=>k_is)
  (case a72=>k_is)
  (case l72=>k_is)
  (case c72=>k_is)
  (case k72=>k_is)
  (case a73=>k_is)
  (case l73=>k_is)
  (case c73=>k_is)
  (case k73=>k_is)
  (case a74=>k_is)
  (case l74=>k_is)
  (case c74=>k_is)
  (case k74=>k_is)
  (case a75=>k_is)
  (case l75=>k_is)
  (case c75=>k_is)
  (case k75=>k_is)
  (case a76=>k_is)
  (case l76=>k_is)
  (case c76=>k_is)
  (case k76=>k_is)
  (case a77=>k_is)
  (case l77=>k_is)
  (case c77=>k_is)
  (case k77=>k_is)
  (case a78=>k_is)
  (case l78=>k_is)
  (case c78=>k_is)
  (case k78=>k_is)
  (case a79=>k_is)
  (case l79=>k_is)
  (case c79=>k_is)
  (case k79=>k_is)
  (case a80=>k_is)
  (case l80=>k_is)
  (case c80=>k_is)
  (case k80=>k_is)
  (case a81=>k_is)
  (case l81=>k_is)
  (case c81=>k_is)
  (case k81=>k_is)
  (case a82=>k_is)
  (case l82=>k_is)
  (case c82=>k_is)
  (case k82=>k_is)
  (case a83=>k_is)
  (case l83=>k_is)
  (case c83=>k_is)
  (case k83=>k_is)
  (case a84=>k_is)
  (case l84=>k_is)
  (case c84=>k_is)
  (case k84=>k_is)
  (case z0=>k_is)
  (case z1=>k_is)
  (case z2=>k_is)
  (case z3=>k_is)
  (case z4=>k_is)
  (case z5=>k_is)
  (case z6=>k_is)
  (case z7=>k_is)
  (case z8=>k_is)
  (case z9=>k_is)
  (case z10=>k_is)
  (case aI_LONGEST=>k_is)
  (case aI_DEEPEST=>k_is)
  (case aI_FIGURES=>k_is)
  (case aI_LETTERS=>k_is)
  (case aI_WORDS=>k_is)
  (case lI_WORDS=>k_is)
  (case aI_EXPONENTS=>k_is)
  (case lI_EXPONENTS=>k_is)
  (case yXNoText=>first |rfl |with_unfolding_all rfl)
  (case xN=>first |rfl |with_unfolding_all rfl)
  (case xU=>first |rfl |with_unfolding_all rfl)
