import PyProof.Rows.All
import Wide.All
import OpenK.AllK
import Wide.FinOn
import Lean
import PyProof.EqAt
import PyProof.EqKinds
import PyProof.TupleCall
import PySem.Challenge.RW_rootspan_k63_tree_text_and_back
set_option Elab.async false
set_option linter.all false
set_option maxRecDepth 100000
noncomputable section
namespace Al
def J2:=@List.length_append
def J3:=@Nat.le_refl
def J4:=@List.length_cons
def J5:=@List.append_assoc
def J6:=@List.length_map
def J7:=@Nat.le_trans
def J8:=@List.mem_cons
def J9:=@Nat.lt_of_lt_of_le
def Ka:=@Bool.false_ne_true
def Kb:=@List.mem_singleton
def Kc:=@Nat.le_of_succ_le_succ
def Ke:=@List.mem_append
def Kf:=@Bool.and_eq_true
def Kg:=@List.cons_append
def Kh:=@List.size_toArray
def Ki:=@Nat.ne_of_lt
def Kj:=@Nat.zero_le
def Kk:=@List.append_nil
def Kl:=@List.map_append
def Km:=@Nat.lt_irrefl
def Kn:=@List.forall_mem_cons
def Ko:=@List.nil_append
def Kp:=@List.all_eq_true
def Kq:=@List.exists_cons_of_ne_nil
def Kr:=@List.length_drop
def Ks:=@List.length_nil
def Kt:=@List.mem_append_right
def Ku:=@List.not_mem_nil
def Kv:=@Bool.eq_iff_iff
def Kw:=@List.map_cons
def Kx:=@List.length_reverse
def Ky:=@List.forall_mem_nil
def Kz:=@Nat.lt_trans
def KA:=@List.length_replicate
def KC:=@List.replicate_succ
def KE:=@List.flatten_cons
def KF:=@List.mem_cons_of_mem
def KG:=@List.lookup_cons
def KH:=@List.takeWhile_cons
def KI:=@Int.zero_add
def KJ:=@Int.natAbs_natCast
def KK:=@Nat.le_of_eq
def KL:=@List.reverse_cons
def KM:=@Nat.pow_succ
def KN:=@List.map_eq_nil_iff
def KO:=@List.sum_cons
def KP:=@Nat.lt_of_le_of_lt
def KQ:=@List.reverse_append
def KR:=@List.take_add_one
def KS:=@List.drop_eq_nil_of_le
def KT:=@Nat.le_max_left
def KU:=@Nat.le_max_right
def KW:=@List.mem_cons_self
def KY:=@List.length_take
def KZ:=@Int.toNat_natCast
def K0:=@List.foldl_cons
def La:=@Nat.le_of_not_lt
def Lb:=@Nat.pow_le_pow_right
def Lc:=@Bool.or_eq_true
def Ld:=@List.length_eq_zero_iff
def Lf:=@List.drop_eq_getElem_cons
def Lg:=@List.filterMap_cons
def Lh:=@List.length_singleton
end Al
open Al
namespace PySem.W.Fast
def tw12745036490550929622:=()
def tw167958760332672369:=()
def tw10287018448740835262:=()
def tw16216781331083710903:=()
def tw8757175632740982218:=()
def tw4898698001824814787:=()
def tw5062186757512450862:=()
def tw5305174837368173703:=()
def tw1691811591726049898:=()
def tw6466910943660973862:=()
def tw6480046302542115550:=()
def tw2145637445569925829:=()
def tw17530093094502654223:=()
def tw16547307979850527246:=()
def tw3505804029141908546:=()
def tw2394293261856670928:=()
def tw3078318868401604519:=()
def tw3430395935523598895:=()
def tw8926914742364538464:=()
def tw6018242999541161364:=()
def tw4680074530679584157:=()
def tw16458973105017214612:=()
def tw16618517413624834672:=()
def tw11833229887180619873:=()
def tw15871447916846370758:=()
def tw2551257122352215120:=()
def tw3840946278388760013:=()
def tw421803399402125422:=()
def tw3740134149059979151:=()
def tw4525780816704339631:=()
def tw678311635457281313:=()
def tw12159578770594606663:=()
def tw10068883050395818797:=()
def tw17409927752596394928:=()
def tw6772983217697533380:=()
def tw11037940587768217649:=()
def tw12691310622960737751:=()
def tw9519143862784430327:=()
def tw2481846626072251483:=()
def tw15724805027217655952:=()
def tw128113991892925082:=()
def tw12308899540447333491:=()
def tw3184056527965077733:=()
def tw16107298948101094248:=()
def tw1887840553678660658:=()
def tw6253873917232570582:=()
def tw2287776405127471922:=()
def tw5115654037125435054:=()
def tw11791294752948263863:=()
def tw11170820392788843103:=()
def tw973868815812750541:=()
def tw12652417537195719986:=()
def tw8658313706995127148:=()
def tw99601590842089325:=()
def tw6676070004621519403:=()
def tw4907248662601017198:=()
def tw15469844376682523123:=()
def tw2718507336883141461:=()
def tw15686677318451327738:=()
def tw4629073601620682707:=()
def tw15279240939932460434:=()
def tw17592622732878388546:=()
def tw4593052554306225706:=()
def tw16396533965400420062:=()
def tw7832286559169490314:=()
def tw13299105518189475351:=()
def tw6561618065509672752:=()
def tw9498620851815105505:=()
def tw12754920992517007639:=()
def tw8760944937741266241:=()
def tw16487968905485139164:=()
def tw17331263790216139697:=()
def tw15908352757131462582:=()
def tw2070416577330624182:=()
def tw1655367525359976468:=()
def tw4152272632835989670:=()
def tw12328927172266547038:=()
def tw16265602164070543200:=()
def tw4213509607396595558:=()
def tw5623190062341949087:=()
def tw3431740990953382212:=()
def tw16048929801584443780:=()
def tw6453870896067444546:=()
def tw966104000374827571:=()
def tw13535164380008110335:=()
def tw9026023983847969942:=()
def tw7966612737394390707:=()
def tw832925272273209228:=()
def tw12231864726948871772:=()
def tw14741085981495864638:=()
def tw5386906734604488625:=()
def tw16690123407238485598:=()
def tw4237049358387965427:=()
def tw8023417242392887417:=()
def tw13084471106780630911:=()
def tw2520247541136288520:=()
def tw1781413900145070379:=()
def tw641063840853715355:=()
def tw4738093040028920397:=()
def tw1218157828261984637:=()
def tw7329478209909074205:=()
def tw13071286898494230655:=()
def tw13970118518581539917:=()
def tw8544223640862895737:=()
def tw9609312052462798127:=()
def tw16706035903626297672:=()
def tw1615796977088993801:=()
def tw17324165366438712040:=()
def tw14450007789168120372:=()
def tw3688873704462194645:=()
def tw7166811581393186520:=()
def tw17307251326229171467:=()
def tw1676622284184764400:=()
def tw9939091715972241215:=()
def tw11208926694561136676:=()
def tw2218508795734591966:=()
def tw16537538271462271354:=()
def tw643662856096656596:=()
def tw9144915091108341224:=()
def tw13905258139785074954:=()
def tw8313480595955154015:=()
def tw4895353373086322386:=()
def tw8718714625601325399:=()
def tw15675901703765223220:=()
def tw4470264724977725535:=()
def tw14664901066714486932:=()
def tw7562688085470254130:=()
def tw215449216538639473:=()
def tw10457360616760080208:=()
def tw5821739215598533610:=()
def tw3508901057543872156:=()
def tw12162240425692254059:=()
def tw11131814025077616877:=()
def tw1385362036799494721:=()
def tw7886597064075420576:=()
def tw17631675345885627797:=()
def tw16544963812726680878:=()
def tw8578040910306130395:=()
def tw16038335944257558486:=()
def tw9295280417702084846:=()
def tw15906480942603823170:=()
def tw5834608146383305237:=()
def tw15481912834879458664:=()
def tw5414581841477520833:=()
def tw10645607650899865673:=()
def tw15566951822003207885:=()
def tw9183405129161989831:=()
def tw1956881276312504203:=()
def tw4013644737206079748:=()
def tw3144246547983284529:=()
def tw5638804139004760666:=()
def tw9090736081131390507:=()
def tw11752326724082082664:=()
def tw13034787527807894142:=()
def tw17887630797307202462:=()
def tw5049907673801937866:=()
def tw13121655256126665720:=()
def tw2015129359316932565:=()
def tw3504033369419712918:=()
def tw9515812070525437877:=()
def tw6591069605312432108:=()
def tw5640862287391436873:=()
def tw8602835967275649872:=()
def tw14290702526240433039:=()
def tw9219437736030152232:=()
def tw2933722151308249619:=()
def tw18282214609202121400:=()
def tw12690938627028857662:=()
def tw1060801984168546897:=()
def tw11063449278585299054:=()
def tw10252961801676037937:=()
def tw3213901087951305999:=()
def tw12963464466542725518:=()
def tw6847055848248158578:=()
def tw9794565940313941646:=()
def tw2932825976773366296:=()
def tw13908791155295350866:=()
def tw14022221130473020863:=()
def tw18328420399062327994:=()
def tw6108609803257262502:=()
def tw7276284481279269892:=()
def tw4261762360937745449:=()
def tw14202461532970063821:=()
def tw1797629129822259021:=()
def tw6450933465140482474:=()
def tw2221936635042631457:=()
def tw6585123609455745375:=()
def tw18063102584245520689:=()
def tw5525963497276258055:=()
def tw17745499121740836048:=()
def tw9439123649620599194:=()
def tw10313039137202825149:=()
def tw16238269903101987975:=()
def tw8455409301988019419:=()
def tw4285056323830550567:=()
def tw2765714992483545273:=()
def tw13646670243273767609:=()
def tw4221548629728326840:=()
def tw11913134678818743846:=()
def tw430504097954310928:=()
def tw3216839056377344771:=()
def tw3537749713752246114:=()
def tw15120044484880186066:=()
def tw685130971893251372:=()
def tw7765140987865321471:=()
def tw16107185588521451929:=()
def tw1055386737030552787:=()
def tw15604612462038133067:=()
def tw13434578314391174152:=()
def tw10867350733848067071:=()
def tw13532928040479272677:=()
def tw3629823217315051401:=()
def tw15090685521661930982:=()
def tw4309475017043593592:=()
def tw14179135152342885239:=()
def tw1131724170467642970:=()
def tw15272823134410626813:=()
def tw11718180611537919042:=()
def tw10640679865456867182:=()
def tw8663208403186275268:=()
def tw16825526742102329237:=()
def tw5570170734836912856:=()
def tw10611076885884210938:=()
def tw2458775846504854284:=()
def tw399568268960485953:=()
def tw9034116949526506101:=()
def tw6370704760813725387:=()
def tw10553989337129857686:=()
def tw10531717149402164688:=()
def tw13998755403810700319:=()
def tw1345725397079221505:=()
def tw17314616712401010765:=()
def tw17822929254147118788:=()
def tw4723915652547880819:=()
def tw2414011871644377949:=()
def tw10139102223181198923:=()
end PySem.W.Fast
namespace L2
open PySem PySem.Spec PyProof.Rows
abbrev Key:=Sum Int Str
noncomputable def xr:Key->Value->Bool
 |.inl k,v=>Value.isInt k v
 |.inr x,v=>Value.isStrOf x v
noncomputable def EV(w:World):Key->Int
 |.inl k=>hashInt k
 |.inr x=>hashStr w x
theorem gN:∀{k:Key} {v:Value},xr k v=true->(∃i t,k=Sum.inl i/\v=Value.int i t)\/(∃x t,k=Sum.inr x/\v=Value.str x t)
 |.inl i,v,h=>by obtain⟨t,e⟩:=Value.isInt_shape (k:=i) (v:=v) h;exact .inl ⟨i,t,rfl,e⟩
 |.inr x,v,h=>by obtain⟨t,e⟩:=Value.isStrOf_shape (x:=x) (v:=v) h;exact .inr ⟨x,t,rfl,e⟩
theorem EU(a b:Int):decide ((Sum.inl a:Key)=Sum.inl b)=(a == b):=by
 by_cases e:a=b
 ·subst e;simp
 ·have h:¬(Sum.inl a:Key)=Sum.inl b:=λq=>e (Sum.inl.inj q)
  rw[decide_eq_false h];exact(beq_eq_false_iff_ne.mpr e).symm
theorem ER(a b:Str):decide ((Sum.inr a:Key)=Sum.inr b)=decide (a=b):=by
 by_cases e:a=b
 ·subst e;simp
 ·have h:¬(Sum.inr a:Key)=Sum.inr b:=λq=>e (Sum.inr.inj q)
  rw[decide_eq_false h,decide_eq_false e]
theorem ET(a:Int)(b:Str):decide ((Sum.inl a:Key)=Sum.inr b)=false:=decide_eq_false (λq=>nomatch q)
theorem ES(a:Str)(b:Int):decide ((Sum.inr a:Key)=Sum.inl b)=false:=decide_eq_false (λq=>nomatch q)
noncomputable def wT(prog:Program)(w:World):PySem.KeyKind prog w Key where
 is:=xr
 hash:=EV w
 inj:=λv a b ha hb=>by
  rcases gN ha with⟨i,t,rfl,rfl⟩ |⟨x,t,rfl,rfl⟩
  ·rcases gN hb with⟨j,u,rfl,e⟩ |⟨y,u,rfl,e⟩
   ·injection e with e1 _;rw[e1]
   ·exact nomatch e
  ·rcases gN hb with⟨j,u,rfl,e⟩ |⟨y,u,rfl,e⟩
   ·exact nomatch e
   ·injection e with e1 _;rw[e1]
 byValue:=λk v h=>by rcases gN h with⟨i,t,rfl,rfl⟩ |⟨x,t,rfl,rfl⟩<;>rfl
 pyHash:=λhv h=>by
  rcases gN hv with⟨i,t,rfl,rfl⟩ |⟨x,t,rfl,rfl⟩
  ·exact wpAny_pyHash_int h
  ·exact wpAny_pyHash_str h
 eqBool:=λhu hv h=>by
  rcases gN hu with⟨i,t,rfl,rfl⟩ |⟨x,t,rfl,rfl⟩
  ·rcases gN hv with⟨j,u,rfl,rfl⟩ |⟨y,u,rfl,rfl⟩
   ·rw[EU]at h;exact wpAny_eqBool_int h
   ·rw[ET]at h;exact SeqAt.EqAt.int_str i t y u _ _ _ _ h
  ·rcases gN hv with⟨j,u,rfl,rfl⟩ |⟨y,u,rfl,rfl⟩
   ·rw[ES]at h;exact SeqAt.EqAt.str_int x t j u _ _ _ _ h
   ·rw[ER]at h;exact wpAny_eqBool_str h
 «strs»:=λk x t v h=>by
  rcases gN h with⟨i,u,rfl,e⟩ |⟨y,u,rfl,e⟩
  ·exact nomatch e
  ·injection e with e1 _
   subst e1;cases v<;>rfl
inductive V where
 |non |bl (b:Bool) |int (i:Int) |str (x:Str) |byt (b:Array UInt8) |flt (b:UInt64) |ref (a:Addr) |ty (n:String)
 deriving DecidableEq
noncomputable def RelV:V->Value->Prop
 |.non,u=>u=Value.none
 |.bl b,u=>u=Value.bool b
 |.int i,u=>∃t,u=Value.int i t
 |.str x,u=>∃t,u=Value.str x t
 |.byt b,u=>∃t,u=Value.bytes b t
 |.flt b,u=>∃t,u=Value.float b t
 |.ref a,u=>u=Value.ref a
 |.ty n,u=>u=Value.type n
abbrev Vals:List V->List Value->Prop:=Paired RelV
theorem Vals.length{xs:List V}{us:List Value}(r:Vals xs us):xs.length=us.length:=Paired.length r
theorem Vals.get:∀{xs:List V} {us:List Value} {i:Nat} {x:V},Vals xs us->xs[i]?=some x->∃u,us[i]?=some u/\RelV x u
 |_,_,_,_,.nil,e=>by simp at e
 |_,_,0,_,.cons r _,e=>by simp at e;subst e;exact⟨_,rfl,r⟩
 |_,_,i+1,x,.cons _ t,e=>by obtain⟨u,h1,h2⟩:=Vals.get (i:=i) (x:=x) t (by simpa using e);exact⟨u,by simpa using h1,h2⟩
theorem Vals.set{x:V}{u:Value}(r:RelV x u):∀{xs:List V} {us:List Value} (i:Nat),Vals xs us->Vals (xs.set i x) (us.set i u)
 |_,_,_,.nil=>.nil
 |_,_,0,.cons _ t=>.cons r t
 |_,_,i+1,.cons q t=>.cons q (Vals.set r i t)
theorem Vals.append:∀{xs ys:List V} {us ws:List Value},Vals xs us->Vals ys ws->Vals (xs++ys) (us++ws)
 |_,_,_,_,.nil,s=>s
 |_,_,_,_,.cons r t,s=>.cons r (Vals.append t s)
theorem Vals.take:∀{xs:List V} {us:List Value} (n:Nat),Vals xs us->Vals (xs.take n) (us.take n)
 |_,_,0,_=>.nil
 |_,_,_+1,.nil=>.nil
 |_,_,n+1,.cons r t=>.cons r (Vals.take n t)
theorem Vals.drop:∀{xs:List V} {us:List Value} (n:Nat),Vals xs us->Vals (xs.drop n) (us.drop n)
 |_,_,0,r=>r
 |_,_,_+1,.nil=>.nil
 |_,_,n+1,.cons _ t=>Vals.drop n t
theorem Vals.none_of:∀{xs:List V} {us:List Value} {i:Nat},Vals xs us->xs[i]?=none->us[i]?=none:=λ{xs us i} r e=>by have h1:=r.length;have h2:xs.length<=i:=List.getElem?_eq_none_iff.mp e;exact List.getElem?_eq_none_iff.mpr (by omega)
noncomputable def RelO:Option V->Option Value->Prop
 |some v,some u=>RelV v u
 |none,none=>True
 |_,_=>False
noncomputable def KV{κ:Type}:List (κ×V)->List (κ×Value)->Prop:=Paired λ(p:κ×V) (q:κ×Value)=>p.1=q.1/\RelV p.2 q.2
noncomputable def kV:Key->V
 |.inl i=>.int i
 |.inr x=>.str x
inductive HO where
 |lst (xs:List V)
 |tup (xs:List V)
 |dK (kvs:List (Key×V)) |dT (kvs:List (List Key×V))
 |set (S:Int->Bool) (n:Nat)
 |ins (C dx:Addr) (fs:List (Str×V))
 |own (x:Addr)
 |xd (fs:List (Str×V))
 |met (f x:Addr)
 |rng (lo hi:Int)
 |frz (o:Obj) (u:HO)
 |tbl (ps:Array Value)
 |ext (φ:Heap->Prop)
abbrev Hp:=Addr->Option HO
noncomputable def upd(H:Hp)(a:Addr)(o:HO):Hp:=λb=>if b=a then some o else H b
theorem ap{H:Hp}{a:Addr}{o:HO}:upd H a o a=some o:=by unfold upd;rw[if_pos rfl]
theorem upd_ne{H:Hp}{a b:Addr}{o:HO}(h:b≠a):upd H a o b=H b:=by unfold upd;rw[if_neg h]
theorem cW{H:Hp}{a:Addr}{o u:HO}:upd (upd H a o) a u=upd H a u:=by funext b;unfold upd;split<;>rfl
theorem aU{H:Hp}{a b:Addr}{o:HO}(h:H a=some o)(h':H b=none):a≠b:=by intro e;subst e;rw[h]at h';cases h'
section
variable (P:Program)(w:World)
noncomputable def ObjOk(H:Hp)(h:Heap)(a:Addr):HO->Prop
 |.lst xs=>xs.length<=sizeLine/\∃(its:List Value) (n:Nat),Vals xs its/\h.get? a=some { cls:=.type "list",data:=.seq its.toArray n }
 |.tup xs=>xs.length<=sizeLine/\∃its:List Value,Vals xs its/\IsTup h a its.toArray
 |.dK kvs=>kvs.length<=sizeLine/\(a == sysModules)=false/\∃vs,KV kvs vs/\h.DictOf (wT P w) a vs
 |.dT kvs=>kvs.length<=sizeLine/\(a == sysModules)=false/\∃xs:List (List Key×Addr×Value),
  Paired (λ(p:List Key×V) (q:List Key×Addr×Value)=>p.1=q.1/\H q.2.1=some (.tup (p.1.map kV))/\RelV p.2 q.2.2) kvs xs /\
  ∃o es ep,h.get? a=some o/\o.ExactDict/\o.data=.dict es ep/\es.toList=xs.map (entryOfKey (tupleKind (wT P w)))/\(xs.map (·.1)).Nodup
 |.set S n=>h.SetOf (intKind P w) a S n
 |.ins C dx fs=>H dx=some (.own a)/\fs.length<=1000/\dx≠a/\h.get? a=some (PySem.W.instObj C dx) /\
  ∃mA,h.Ns1 dx mA/\(∀f,RelO (fs.lookup f) (mA f))/\PySem.Within mA (fs.map (·.1))
 |.own _=>∃o,h.get? a=some o
 |.xd fs=>∃mA,h.Ns1 a mA/\∀f,RelO (fs.lookup f) (mA f)
 |.rng lo hi=>∃t u v,h.get? a=some { cls:=.type "range",data:=.fields #[.int lo t,.int hi u,.int 1 v] }
 |.frz o u=>h.get? a=some o/\ObjOk H h a u
 |.tbl ps=>h.get? a=some { cls:=.none,data:=.fields ps }
 |.met f x=>h.get? a=some (PySem.W.methodObj (.ref f) (.ref x))
 |.ext φ=>φ h/\(∃o,h.get? a=some o)/\∀h1 h2:Heap,φ h1->(∀o,h1.get? a=some o->h2.get? a=some o)->φ h2
def HOk(H:Hp)(h:Heap):Prop:=∀a o,H a=some o->ObjOk P w H h a o
end
section
variable {P:Program}{w:World}{H H':Hp}{h h':Heap}{a:Addr}{o:HO}
theorem ObjOk.lt(x:ObjOk P w H h a o):a<h.objs.size:=by
 cases o with
 |lst xs=>obtain⟨_,_,_,_,e⟩:=x;exact Heap.lt_size e
 |tup xs=>obtain⟨_,_,_,p⟩:=x;exact p.lt
 |dK kvs=>obtain⟨_,_,_,_,o,_,_,e,_⟩:=x;exact Heap.lt_size e
 |dT kvs=>obtain⟨_,_,_,_,o,_,_,e,_⟩:=x;exact Heap.lt_size e
 |set S n=>obtain⟨o,_,_,_,e,_⟩:=x;exact Heap.lt_size e
 |ins C dx fs=>obtain⟨_,_,_,e,_⟩:=x;exact Heap.lt_size e
 |own y=>obtain⟨_,e⟩:=x;exact Heap.lt_size e
 |xd fs=>obtain⟨_,⟨_,_,_,e,_⟩,_⟩:=x;exact Heap.lt_size e
 |rng lo hi=>obtain⟨_,_,_,e⟩:=x;exact Heap.lt_size e
 |frz ob u=>obtain⟨e,_⟩:=x;exact Heap.lt_size e
 |tbl ps=>exact Heap.lt_size (show h.get? a=some _ from x)
 |met f y=>exact Heap.lt_size (show h.get? a=some _ from x)
 |ext φ=>obtain⟨_,⟨_,e⟩,_⟩:=x;exact Heap.lt_size e
theorem Paired.mapP{α β:Type}{F G:α->β->Prop}:∀{l₁:List α} {l₂:List β},Paired F l₁ l₂->(∀a b,F a b->G a b)->Paired G l₁ l₂
 |_,_,.nil,_=>.nil
 |_,_,.cons r t,f=>.cons (f _ _ r) (Paired.mapP t f)
theorem ObjOk.stay(x:ObjOk P w H h a o)(k:∀b u,(b=a\/H b=some (.own a))->h.get? b=some u->h'.get? b=some u)
 (ho:∀b,H b=some (.own a)->H' b=some (.own a)) (ht:∀b xs,H b=some (.tup xs)->H' b=some (.tup xs)):ObjOk P w H' h' a o:=by
 induction o with
 |lst xs=>obtain⟨z,its,n,r,e⟩:=x;exact⟨z,its,n,r,k _ _ (.inl rfl) e⟩
 |tup xs=>obtain⟨z,its,r,ob,e,c⟩:=x;exact⟨z,its,r,ob,k _ _ (.inl rfl) e,c⟩
 |dK kvs=>obtain⟨z,y,vs,r,ob,es,ep,e,c⟩:=x;exact⟨z,y,vs,r,ob,es,ep,k _ _ (.inl rfl) e,c⟩
 |dT kvs =>obtain⟨z,y,xs,r,ob,es,ep,e,c⟩:=x;exact⟨z,y,xs,Paired.mapP r λp q z=>⟨z.1,ht _ _ z.2.1,z.2.2⟩,ob,es,ep,k _ _ (.inl rfl) e,c⟩
 |set S n=>obtain⟨ob,es,ep,t,e,c⟩:=x;exact⟨ob,es,ep,t,k _ _ (.inl rfl) e,c⟩
 |ins C dx fs =>obtain⟨d,z,ne,e,mA,⟨od,es,ep,e2,c⟩,r⟩:=x;exact⟨ho _ d,z,ne,k _ _ (.inl rfl) e,mA,⟨od,es,ep,k _ _ (.inr d) e2,c⟩,r⟩
 |own y=>obtain⟨ob,e⟩:=x;exact⟨ob,k _ _ (.inl rfl) e⟩
 |xd fs=>obtain⟨mA,⟨od,es,ep,e,c⟩,r⟩:=x;exact⟨mA,⟨od,es,ep,k _ _ (.inl rfl) e,c⟩,r⟩
 |rng lo hi=>obtain⟨t,u,v,e⟩:=x;exact⟨t,u,v,k _ _ (.inl rfl) e⟩
 |frz ob u ih=>obtain⟨e,q⟩:=x;exact⟨k _ _ (.inl rfl) e,ih q⟩
 |tbl ps =>have e:h.get? a=some { cls:=.none,data:=.fields ps }:=x;show h'.get? a=some { cls:=.none,data:=.fields ps };exact k a _ (.inl rfl) e
 |met f y =>have e:h.get? a=some (PySem.W.methodObj (.ref f) (.ref y)):=x;show h'.get? a=some (PySem.W.methodObj (.ref f) (.ref y));exact k a _ (.inl rfl) e
 |ext φ=>obtain⟨p,⟨o,e⟩,st⟩:=x;exact⟨st _ _ p λo q=>k _ _ (.inl rfl) q,⟨o,k _ _ (.inl rfl) e⟩,st⟩
theorem HOk.lt(x:HOk P w H h)(e:H a=some o):a<h.objs.size:=(x a o e).lt
theorem HOk.fresh(x:HOk P w H h)(e:h.objs.size<=a):H a=none:=by
 cases q:H a with
 |none=>rfl
 |some u=>exact absurd (J9 (x.lt q) e) (Km _)
theorem HOk.kept(x:HOk P w H h)(k:∀b u,h.get? b=some u->h'.get? b=some u):HOk P w H h':=λa o e =>(x a o e).stay (λb u _ q=>k b u q) (λ_ q=>q) λ_ _ q=>q
theorem HOk.laid(x:HOk P w H h)(k:∀b u,h.get? b=some u->h'.get? b=some u)(hp:h.objs.size<=a)(new:ObjOk P w (upd H a o) h' a o):HOk P w (upd H a o) h':=λb u e=>by
 have hn:=x.fresh hp;by_cases hb:b=a
 ·subst hb;rw[ap]at e;cases e;exact new
 ·rw[upd_ne hb]at e;exact(x b u e).stay (λc v _ q=>k c v q) (λc q=>by rw[upd_ne (aU q hn)];exact q) λc xs q=>by rw[upd_ne (aU q hn)];exact q
end
def Rd(H:Hp)(a:Addr)(u:HO):Prop:=H a=some u\/∃o,H a=some (.frz o u)
theorem Rd.of{H:Hp}{a:Addr}{u:HO}(h:H a=some u):Rd H a u:=.inl h
theorem Rd.ok{P:Program}{w:World}{H:Hp}{h:Heap}{a:Addr}{u:HO}(r:Rd H a u)(x:HOk P w H h):ObjOk P w H h a u:=by
 rcases r with r |⟨o,r⟩
 ·exact x a u r
 ·obtain⟨_,q⟩:=x a _ r;exact q
noncomputable def Mut:Option HO->Prop
 |some (.lst _)=>True
 |some (.dK _)=>True
 |some (.dT _)=>True
 |some (.set _ _)=>True
 |some (.ins _ _ _)=>True
 |some (.ext _)=>True
 |_=>False
section
variable {P:Program}{w:World}{H:Hp}{h h':Heap}{x e:Addr}{o':HO}
theorem HOk.write(ok:HOk P w H h)(mu:Mut (H x))(he:e=x\/H e=some (.own x))(k:∀b u,b≠e->h.get? b=some u->h'.get? b=some u)(heo:∃u,h'.get? e=some u)
 (new:ObjOk P w (upd H x o') h' x o'):HOk P w (upd H x o') h':=λb u q=>by
 have nown:∀c y,H c=some (.own y)->c≠x:=λc y r z=>by subst z;rw[r]at mu;exact mu
 have ntup:∀c xs,H c=some (.tup xs)->c≠x:=λc xs r z=>by subst z;rw[r]at mu;exact mu
 by_cases hb:b=x
 ·subst hb;rw[ap]at q;cases q;exact new
 ·rw[upd_ne hb]at q;by_cases hbe:b=e
  ·have q':H b=some (.own x):=by
    rcases he with z |z
    ·exact absurd (hbe.trans z) hb
    ·rw[hbe];exact z
   rw[q]at q';cases q';obtain⟨v,hv⟩:=heo;exact⟨v,by rw[hbe];exact hv⟩
  ·refine(ok b u q).stay (λc v hc r=>k c v ?_ r) (λc r=>by rw[upd_ne (nown c b r)];exact r) λc xs r=>by rw[upd_ne (ntup c xs r)];exact r
   rcases hc with rfl |hc
   ·exact hbe
   ·rintro rfl;rcases he with z |z
    ·exact nown c b hc z
    ·rw[hc]at z;cases z;exact hb rfl
end
structure Un(fs ex:List Addr)(H H':Hp)(h h':Heap):Prop where
 keep:∀b o,h.get? b=some o->H b=none->b∉fs->b∉ex->h'.get? b=some o
 slot:∀b o,h.get? b=some o->H b=none->b∈fs->b∉ex->∃sl,h'.get? b=some { o with slots:=sl }
 free:∀b o,h.get? b=some o->H b=none->b∉ex->H' b=none
 there:∀b o,h.get? b=some o->b∉ex->∃o',h'.get? b=some o'
 tups:∀b xs,H b=some (.tup xs)->H' b=some (.tup xs)
 frzs:∀b o u,H b=some (.frz o u)->H' b=some (.frz o u)
 tbls:∀b ps,H b=some (.tbl ps)->∃more,H' b=some (.tbl (ps++more))
section
variable {fs fs' ex ex':List Addr}{H H1 H2:Hp}{h h1 h2 h':Heap}{a x e:Addr}{o:HO}
theorem Un.any(u:Un fs ex H H1 h h1){b:Addr}{ob:Obj}(q:h.get? b=some ob)(n:H b=none)(hx:b∉ex):∃sl,h1.get? b=some { ob with slots:=sl }:=by
 by_cases hb:b∈fs
 ·exact u.slot b ob q n hb hx
 ·exact⟨ob.slots,u.keep b ob q n hb hx⟩
theorem Un.trans(a:Un fs ex H H1 h h1)(b:Un fs ex H1 H2 h1 h2):Un fs ex H H2 h h2 where
 keep:=λc ob q n hc hx=>b.keep c ob (a.keep c ob q n hc hx) (a.free c ob q n hx) hc hx
 slot:=λc ob q n hc hx=>by obtain⟨sl,e1⟩:=a.slot c ob q n hc hx;obtain⟨sl',e2⟩:=b.slot c _ e1 (a.free c ob q n hx) hc hx;exact⟨sl',e2⟩
 free:=λc ob q n hx=>by obtain⟨o',e1⟩:=a.there c ob q hx;exact b.free c o' e1 (a.free c ob q n hx) hx
 there:=λc ob q hx=>by obtain⟨o',e1⟩:=a.there c ob q hx;exact b.there c o' e1 hx
 tups:=λc xs q=>b.tups c xs (a.tups c xs q)
 frzs:=λc ob xs q=>b.frzs c ob xs (a.frzs c ob xs q)
 tbls:=λc ps q=>by obtain⟨m1,e1⟩:=a.tbls c ps q;obtain⟨m2,e2⟩:=b.tbls c _ e1;exact⟨m1++m2,by rw[e2,Array.append_assoc]⟩
theorem Un.kept(k:∀b u,h.get? b=some u->h'.get? b=some u):Un fs ex H H h h' :=
 ⟨λb ob q _ _ _=>k b ob q,λb ob q _ _ _=>⟨ob.slots,k b ob q⟩,λ_ _ _ n _=>n,λb ob q _=>⟨ob,k b ob q⟩,λ_ _ q=>q,λ_ _ _ q=>q,λ_ ps q=>⟨#[],by rw[q];simp⟩⟩
theorem Un.refl:Un fs ex H H h h:=Un.kept λ_ _ q=>q
theorem Un.laid(k:∀b u,h.get? b=some u->h'.get? b=some u)(hp:h.objs.size<=a)(hn:H a=none):Un fs ex H (upd H a o) h h' where
 keep:=λb u q _ _ _=>k b u q
 slot:=λb u q _ _ _=>⟨u.slots,k b u q⟩
 free:=λb u q n _=>by rw[upd_ne (Ki (J9 (Heap.lt_size q) hp))];exact n
 there:=λb u q _=>⟨u,k b u q⟩
 tups:=λb xs q=>by rw[upd_ne (aU q hn)];exact q
 frzs:=λb u xs q=>by rw[upd_ne (aU q hn)];exact q
 tbls:=λb ps q=>⟨#[],by rw[upd_ne (aU q hn),q];simp⟩
theorem Un.write(mu:Mut (H x))(he:e=x\/H e=some (.own x))(k:∀b u,b≠e->h.get? b=some u->h'.get? b=some u)(heo:∃u,h'.get? e=some u):Un fs ex H (upd H x o) h h':=by
 have hx:∀b,H b=none->b≠x:=λb n z=>by subst z;rw[n]at mu;exact mu
 have hb:∀b,H b=none->b≠e:=λb n z=>by
  subst z;rcases he with r |r
  ·exact hx b n r
  ·rw[n]at r;cases r
 have hm:∀b u,H b=some u->¬Mut (some u)->b≠x:=λb u q nm z=>by subst z;rw[q]at mu;exact nm mu
 refine⟨λb u q n _ _=>k b u (hb b n) q,λb u q n _ _=>⟨u.slots,k b u (hb b n) q⟩,λb u q n _=>by rw[upd_ne (hx b n)];exact n,λb u q _=>?_,
  λb xs q=>by rw[upd_ne (hm b _ q λz=>z)];exact q,λb u xs q=>by rw[upd_ne (hm b _ q λz=>z)];exact q,λb ps q=>⟨#[],by rw[upd_ne (hm b _ q λz=>z),q];simp⟩⟩
 by_cases hbe:b=e
 ·subst hbe;exact heo
 ·exact⟨u,k b u hbe q⟩
theorem Un.mono(u:Un fs ex H H1 h h1)(hs:∀b∈fs,b∈fs')(hx:∀b∈ex,b∈ex'):Un fs' ex' H H1 h h1 :=
 ⟨λb ob q n hb he=>u.keep b ob q n (λz=>hb (hs b z)) λz=>he (hx b z),λ_ _ q n _ he=>u.any q n λz=>he (hx _ z),λb ob q n he=>u.free b ob q n λz=>he (hx b z),λb ob q he=>u.there b ob q λz=>he (hx b z),u.tups,u.frzs,u.tbls⟩
end
noncomputable def trk(h:Heap)(H:Hp):List Addr:=(List.range h.objs.size).filter λa=>(H a).isSome
noncomputable def gO(h:Heap)(H:Hp):Heap:=PySem.W.hideAll h (trk h H)
theorem FR(h:Heap)(H:Hp):(gO h H).objs.size=h.objs.size:=PySem.W.hideAll_size _ _
theorem FS{h:Heap}{H:Hp}{b:Addr}{o:Obj}(e:h.get? b=some o)(n:H b=none):(gO h H).get? b=some o :=
 PySem.W.hideAll_get _ e λhm=>by have q:(H b).isSome=true:=(List.mem_filter.mp hm).2;rw[n]at q;simp at q
theorem DB{h:Heap}{H:Hp}{b:Addr}{o:Obj}(e:(gO h H).get? b=some o):h.get? b=some o/\H b=none:=by
 have e':h.get? b=some o:=PySem.W.of_hideAll (trk h H) e;refine⟨e',?_⟩;cases q:H b with
 |none=>rfl
 |some x =>have hm:b∈trk h H:=List.mem_filter.mpr ⟨List.mem_range.mpr (Heap.lt_size e'),by simp[q]⟩;have z:(gO h H).get? b=none:=PySem.W.hideAll_none (trk h H) hm;rw[z]at e;cases e
noncomputable def IU(g h:Heap)(L:Addr):List (Addr×Obj):=(List.range h.objs.size).filterMap λa=>if a=L\/(g.get? a).isSome=true then none else(h.get? a).map λo=>(a,o)
noncomputable def rest(g h:Heap)(L d:Addr):List (Addr×Obj):=(IU g h L).filter λp=>decide (p.1≠d)
structure Mod(K:PySem.W.Frag)(mg:Str->Option Value)(base:Heap):Prop where
 kin:K.In base
 glob:base.Ns mainGlobals mg
 blt:∃mb,base.Ns builtinsNs mb/\∀x:Str,x≠"__name__"->mb x=bootBuiltins x
 nolimit:base.NoLimit
structure Cx where
 prog:Program
 w:World
 K:PySem.W.Frag
 mg:Str->Option Value
 base:Heap
 A:Around
 N:List Str
 s₀:Shared
 H₀:Hp
 env:Env
 outer:List Env
 stack:List Env
 ex:List Addr
 fn:Str->Bool
 calm:Bool
 pn:List (Addr×Obj)
 xe:Value->Shared->Prop
noncomputable def frs(l:List Env):List Addr:=l.filterMap (·.frame)
abbrev Cx.fs(X:Cx):List Addr:=frs X.outer
def Vis(sc:Scope)(x:Str):Prop:=sc.names.lookup x=some .local\/sc.names.lookup x=some .cell\/sc.names.lookup x=some .free
def Loc(sc:Scope)(x:Str):Prop:=sc.names.lookup x=some .local\/sc.names.lookup x=some .cell
noncomputable def IZ(env:Env)(h:Heap)(m:Str->Option Value)(x:Str)(u:Value):Prop :=
 (env.kindOf x=some .local/\m x=some u)\/((env.kindOf x=some .cell\/env.kindOf x=some .free)/\∃c,env.cells.lookup x=some c/\h.IsCell c (some u))
structure Cx.Ok(X:Cx):Prop where
 mod:Mod X.K X.mg X.base
 kind:X.env.scope.kind=.function
 glob:X.env.globals=mainGlobals
 blt:X.env.builtins=builtinsNs
 above:X.s₀.heap.objs.size<=X.env.locals
 inj:∀x y c,X.env.cells.lookup x=some c->X.env.cells.lookup y=some c->x=y
 has:∀x,(X.env.kindOf x=some .cell\/X.env.kindOf x=some .free)->∃c,X.env.cells.lookup x=some c
 cab:∀x c,X.fn x=true->X.env.cells.lookup x=some c->X.s₀.heap.objs.size<=c
 hd:X.calm=true->X.A.handled=none
 frames:X.A.frames=some X.stack
 stk:X.stack=X.outer\/(X.stack=X.env::X.outer/\X.env.frame=some X.env.locals)
 exf:∀b∈X.ex,b≠X.env.locals/\∀x c,X.env.cells.lookup x=some c->c≠b
 bs:∀b o,X.base.get? b=some o->X.s₀.heap.get? b=some o/\X.H₀ b=none
 bsz:X.base.objs.size<=X.s₀.heap.objs.size
 noex:∀b o,X.base.get? b=some o->b∉X.ex
 exfs:∀b∈X.ex,b∉X.fs
 funs:X.s₀.heap.FunFrames X.base X.outer
 frf:∀b∈X.fs,X.H₀ b=none
structure Inv(X:Cx)(pins:List (Addr×Obj))(σ:List (Option V))(H:Hp)(s:Shared):Prop where
 ok:X.Ok
 os:s.os=X.s₀.os
 bare:AllBare s.gens
 base:Un X.fs X.ex X.H₀ H X.s₀.heap s.heap
 loc:∃m,s.heap.Ns X.env.locals m/\∀(i:Nat) (x:Str) (v:V),X.N[i]?=some x->σ[i]?=some (some v)->Vis X.env.scope x->∃u,RelV v u/\IZ X.env s.heap m x u
 cell:∀x c,X.env.cells.lookup x=some c->∃v,s.heap.IsCell c v
 free:H X.env.locals=none
 freeC:∀x c,X.env.cells.lookup x=some c->H c=none
 pin:∀p∈X.pn++pins,s.heap.get? p.1=some p.2/\H p.1=none/\p.1≠X.env.locals/\p.1∉X.fs/\∀v,p.2.data≠.cell v
 hok:HOk X.prog X.w H s.heap
 len:σ.length=X.N.length
section
variable {X:Cx}{pins:List (Addr×Obj)}{σ:List (Option V)}{H H':Hp}{s:Shared}{h':Heap}
theorem Cx.Ok.nofr(ok:X.Ok){b:Addr}{o:Obj}(e:X.base.get? b=some o):b∉X.fs:=λhb=>by have:=(ok.funs.mem hb).1;rw[e]at this;cases this
theorem Inv.bs(I:Inv X pins σ H s):∀b o,X.base.get? b=some o->s.heap.get? b=some o/\H b=none:=λb o e =>⟨I.base.keep b o (I.ok.bs b o e).1 (I.ok.bs b o e).2 (I.ok.nofr e) (I.ok.noex b o e),I.base.free b o (I.ok.bs b o e).1 (I.ok.bs b o e).2 (I.ok.noex b o e)⟩
theorem Inv.bk(I:Inv X pins σ H s):∀b o,X.base.get? b=some o->s.heap.get? b=some o:=λb o e=>(I.bs b o e).1
theorem Inv.mod(I:Inv X pins σ H s):Mod X.K X.mg X.base:=I.ok.mod
theorem Inv.kIn(I:Inv X pins σ H s):X.K.In s.heap:=I.ok.mod.kin.keeps I.bk
theorem Inv.nolimit(I:Inv X pins σ H s):s.heap.NoLimit:=I.ok.mod.nolimit.keeps I.bk
theorem Inv.fr(I:Inv X pins σ H s):∃m,Fr X.base X.env.locals s.heap m :=
 let⟨m,hn,_⟩:=I.loc
 ⟨m,hn,I.bk,J7 I.ok.bsz I.ok.above⟩
theorem Inv.lt(I:Inv X pins σ H s):X.env.locals<s.heap.objs.size:=let⟨_,hn,_⟩:=I.loc;hn.lt
theorem Inv.sz(I:Inv X pins σ H s):X.s₀.heap.objs.size<=s.heap.objs.size:=J7 I.ok.above (Nat.le_of_lt I.lt)
theorem Inv.nofs(I:Inv X pins σ H s){a:Addr}(h:s.heap.objs.size<=a):a∉X.fs:=λhb=>by obtain⟨_,o,ho,_⟩:=I.ok.funs.mem hb;exact absurd (J9 (Heap.lt_size ho) (J7 I.sz h)) (Km _)
theorem Inv.cne(I:Inv X pins σ H s):∀x c,X.env.cells.lookup x=some c->c≠X.env.locals:=λx c e z=>by obtain⟨v,o,ho,hd⟩:=I.cell x c e;obtain⟨m,⟨o',es,ep,ho',hd',_⟩,_⟩:=I.loc;rw[z,ho']at ho;cases ho;rw[hd']at hd;cases hd
theorem Inv.funs(I:Inv X pins σ H s):s.heap.FunFrames X.base X.outer:=by
 have all:∀(l:List Env),(∀b∈frs l,b∈X.fs)->X.s₀.heap.FunFrames X.base l->s.heap.FunFrames X.base l:=by
  intro l
  induction l with
  |nil=>intro _ _;trivial
  |cons env r ih =>
   intro hs hl;obtain⟨hk,⟨L,o,hf,hn,ho,hd⟩,hr⟩:=hl;have hL:L∈X.fs:=hs L (by unfold frs;rw[Lg,hf];exact KW);obtain⟨sl,e⟩:=I.base.slot L o ho (I.ok.frf L hL) hL λz=>I.ok.exfs L z hL
   exact⟨hk,⟨L,_,hf,hn,e,hd⟩,ih (λb hb=>hs b (by unfold frs;rw[Lg,hf];exact KF _ hb)) hr⟩
 exact all X.outer (λ_ hb=>hb) I.ok.funs
theorem Inv.stack(I:Inv X pins σ H s):s.heap.FunFrames X.base X.stack:=by
 rcases I.ok.stk with e |⟨e,hf⟩
 ·rw[e];exact I.funs
 ·rw[e];obtain⟨m,hn,_⟩:=I.loc;refine .cons (by rw[I.ok.kind];decide) hf hn ?_ I.funs;exact Heap.get?_none_of_le (J7 I.ok.bsz I.ok.above)
theorem Inv.stkSub(I:Inv X pins σ H s):∀b∈frs X.stack,b∈X.env.locals::X.fs:=λb hb=>by
 rcases I.ok.stk with e |⟨e,hf⟩
 ·rw[e]at hb;exact KF _ hb
 ·rw[e]at hb;unfold frs at hb
  rw[Lg,hf]at hb;exact hb
theorem Inv.stkFree(I:Inv X pins σ H s):∀b∈frs X.stack,H b=none:=λb hb=>by
 rcases J8.mp (I.stkSub b hb)with e |hb
 ·rw[e];exact I.free
 ·obtain⟨_,o,ho,_⟩:=I.ok.funs.mem hb;exact I.base.free b o ho (I.ok.frf b hb) λz=>I.ok.exfs b z hb
theorem Inv.step{g':Array GenState}{t':Nat}{d':Drawn}{ch:List Addr}(I:Inv X pins σ H s)
 (hch:∀b∈ch,(b∈X.ex\/X.s₀.heap.objs.size<=b)/\b≠X.env.locals/\(∀x c,X.env.cells.lookup x=some c->c≠b)/\∀p∈X.pn++pins,p.1≠b)
 (keep:∀b o,b≠X.env.locals->b∉X.fs->b∉ch->s.heap.get? b=some o->H b=none->h'.get? b=some o)
 (slot:∀b o,b≠X.env.locals->b∈X.fs->b∉ch->s.heap.get? b=some o->H b=none->∃sl,h'.get? b=some { o with slots:=sl }) (free:∀b o,b∉ch->s.heap.get? b=some o->H b=none->H' b=none)
 (there:∀b o,b∉ch->s.heap.get? b=some o->∃o',h'.get? b=some o')
 (tups:∀b xs,H b=some (.tup xs)->H' b=some (.tup xs)) (frzs:∀b o u,H b=some (.frz o u)->H' b=some (.frz o u)) (tbls:∀b ps,H b=some (.tbl ps)->∃more,H' b=some (.tbl (ps++more)))
 (ns:∀m,s.heap.Ns X.env.locals m->h'.Ns X.env.locals m) (hok:HOk X.prog X.w H' h') (hg:AllBare g') :
 Inv X pins σ H' { s with heap:=h',gens:=g',drawn:=d',toks:=t' }:=by
 have neL:∀b o,X.s₀.heap.get? b=some o->b≠X.env.locals:=λb o e=>Ki (J9 (Heap.lt_size e) I.ok.above)
 have neC:∀b o,X.s₀.heap.get? b=some o->b∉X.ex->b∉ch:=λb o e hx hb=>by
  rcases(hch b hb).1 with z |z
  ·exact hx z
  ·exact absurd (J9 (Heap.lt_size e) z) (Km _)
 have cellK:∀x c,X.env.cells.lookup x=some c->∀v,s.heap.IsCell c v->h'.IsCell c v:=λx c e v ⟨o,ho,hd⟩=>by
  have nch:c∉ch:=λz=>(hch c z).2.2.1 x c e rfl
  by_cases hc:c∈X.fs
  ·obtain⟨sl,q⟩:=slot c o (I.cne x c e) hc nch ho (I.freeC x c e);exact⟨_,q,hd⟩
  ·exact⟨o,keep c o (I.cne x c e) hc nch ho (I.freeC x c e),hd⟩
 refine⟨I.ok,I.os,hg,⟨λb o e n hb hx=>?_,λb o e n hb hx=>?_,λb o e n hx=>?_,λb o e hx=>?_,λb xs e=>tups b xs (I.base.tups b xs e),λb o xs e=>frzs b o xs (I.base.frzs b o xs e),λb ps e=>?_⟩,?_,λx c e=>?_,?_,λx c e=>?_,λp hp=>?_,hok,I.len⟩
 ·exact keep b o (neL b o e) hb (neC b o e hx) (I.base.keep b o e n hb hx) (I.base.free b o e n hx)
 ·obtain⟨sl,e1⟩:=I.base.slot b o e n hb hx;obtain⟨sl',e2⟩:=slot b _ (neL b o e) hb (neC b o e hx) e1 (I.base.free b o e n hx);exact⟨sl',e2⟩
 ·obtain⟨o',e1⟩:=I.base.there b o e hx;exact free b o' (neC b o e hx) e1 (I.base.free b o e n hx)
 ·obtain⟨o',e1⟩:=I.base.there b o e hx;exact there b o' (neC b o e hx) e1
 ·obtain⟨m1,e1⟩:=I.base.tbls b ps e;obtain⟨m2,e2⟩:=tbls b _ e1;exact⟨m1++m2,by rw[e2,Array.append_assoc]⟩
 ·obtain⟨m,hn,hl⟩:=I.loc;refine⟨m,ns m hn,λi x v e1 e2 e3=>?_⟩;obtain⟨u,r,l⟩:=hl i x v e1 e2 e3;refine⟨u,r,?_⟩;rcases l with l |⟨k,c,e,z⟩
  ·exact .inl l
  ·exact .inr ⟨k,c,e,cellK x c e _ z⟩
 ·obtain⟨v,z⟩:=I.cell x c e;exact⟨v,cellK x c e v z⟩
 ·obtain⟨m,⟨o,_,_,ho,_⟩,_⟩:=I.loc;exact free _ o (λz=>(hch _ z).2.1 rfl) ho I.free
 ·obtain⟨v,o,ho,hd⟩:=I.cell x c e;exact free c o (λz=>(hch c z).2.2.1 x c e rfl) ho (I.freeC x c e)
 ·obtain⟨e,n,ne,nf,d⟩:=I.pin p hp;have nch:p.1∉ch:=λz=>(hch p.1 z).2.2.2 p hp rfl
  exact⟨keep p.1 p.2 ne nf nch e n,free p.1 p.2 nch e n,ne,nf,d⟩
theorem Inv.un{t':Nat}(I:Inv X pins σ H s)(u:Un X.fs [] H H' s.heap h')(hok:HOk X.prog X.w H' h'):Inv X pins σ H' { s with heap:=h',toks:=t' }:=by
 obtain⟨m,⟨o,es,ep,ho,r⟩,_⟩:=id I.loc;obtain⟨sl,hL⟩:=u.any ho I.free (by simp)
 exact I.step (g':=s.gens) (d':=s.drawn) (ch:=[]) (λ_ z=>nomatch z) (λb o _ hb _ e n=>u.keep b o e n hb (by simp)) (λb o _ hb _ e n=>u.slot b o e n hb (by simp)) (λb o _ e n=>u.free b o e n (by simp)) (λb o _ e=>u.there b o e (by simp)) u.tups u.frzs u.tbls (λm' hm=>by
  obtain⟨o',es',ep',ho',r'⟩:=hm;rw[ho]at ho';cases ho'
  exact⟨_,es',ep',hL,r'⟩) hok I.bare
theorem Inv.call{g':Array GenState}{t':Nat}{d':Drawn}{ch:List Addr}(I:Inv X pins σ H s)(u:Un (frs X.stack) ch H H' s.heap h')(hok:HOk X.prog X.w H' h')(hg:AllBare g')
 (hch:∀b∈ch,(b∈X.ex\/X.s₀.heap.objs.size<=b)/\b≠X.env.locals/\(∀x c,X.env.cells.lookup x=some c->c≠b)/\∀p∈X.pn++pins,p.1≠b) :
 Inv X pins σ H' { s with heap:=h',gens:=g',drawn:=d',toks:=t' }:=by
 obtain⟨m,⟨o,es,ep,ho,r⟩,_⟩:=id I.loc;obtain⟨sl,hL⟩:=u.any ho I.free λz=>(hch _ z).2.1 rfl
 exact I.step (ch:=ch) hch (λb o hL hb hc e n=>u.keep b o e n (λz=>(J8.mp (I.stkSub b z)).elim hL hb) hc) (λb o _ _ hc e n=>u.any e n hc) (λb o hc e n=>u.free b o e n hc) (λb o hc e=>u.there b o e hc) u.tups u.frzs u.tbls (λm' hm=>by
  obtain⟨o',es',ep',ho',r'⟩:=hm;rw[ho]at ho';cases ho'
  exact⟨_,es',ep',hL,r'⟩) hok hg
theorem Inv.turned{t':Nat}{it:Addr}(I:Inv X pins σ H s)(k:∀b o,b≠it->s.heap.get? b=some o->h'.get? b=some o)(hn:H it=none)(hL:it≠X.env.locals)
 (h1:it∈X.ex\/X.s₀.heap.objs.size<=it) (h2:∀x c,X.env.cells.lookup x=some c->c≠it) (h3:∀p∈X.pn++pins,p.1≠it):Inv X pins σ H { s with heap:=h',toks:=t' }:=by
 have nit:∀b u,H b=some u->b≠it:=λb u e z=>by rw[z,hn]at e;cases e
 refine I.step (g':=s.gens) (d':=s.drawn) (ch:=[it]) (λb hb=>?_) (λb o _ _ hc e _=>k b o (λz=>hc (by simp[z])) e) (λb o _ _ hc e _=>⟨o.slots,k b o (λz=>hc (by simp[z])) e⟩) (λ_ _ _ _ n=>n)
  (λb o hc e=>⟨o,k b o (λz=>hc (by simp[z])) e⟩) (λ_ _ e=>e) (λ_ _ _ e=>e) (λb ps e=>⟨#[],by rw[e];simp⟩) (λm hm=>?_) (λb u e=>?_) I.bare
 ·have e:b=it:=by simpa using hb
  subst e;exact⟨h1,hL,h2,h3⟩
 ·obtain⟨o,es,ep,ho,r⟩:=hm;exact⟨o,es,ep,k _ o (Ne.symm hL) ho,r⟩
 ·refine(I.hok b u e).stay (λc v hc q=>k c v ?_ q) (λ_ q=>q) λ_ _ q=>q
  rcases hc with z |z
  ·rw[z];exact nit b u e
  ·exact nit c _ z
theorem Inv.tok(I:Inv X pins σ H s)(t:Nat):Inv X pins σ H { s with toks:=t }:=I.un (h':=s.heap) (t':=t) Un.refl I.hok
theorem Inv.kept{t':Nat}(I:Inv X pins σ H s)(k:∀b u,s.heap.get? b=some u->h'.get? b=some u):Inv X pins σ H { s with heap:=h',toks:=t' }:=I.un (Un.kept k) (I.hok.kept k)
theorem Inv.laid{a:Addr}{o:HO}{t':Nat}(I:Inv X pins σ H s)(k:∀b u,s.heap.get? b=some u->h'.get? b=some u)(hp:s.heap.objs.size<=a)(new:ObjOk X.prog X.w (upd H a o) h' a o) :
 Inv X pins σ (upd H a o) { s with heap:=h',toks:=t' }:=I.un (Un.laid k hp (I.hok.fresh hp)) (I.hok.laid k hp new)
theorem Inv.write{x e:Addr}{o:HO}{t':Nat}(I:Inv X pins σ H s)(mu:Mut (H x))(he:e=x\/H e=some (.own x))(k:∀b u,b≠e->s.heap.get? b=some u->h'.get? b=some u)(heo:∃u,h'.get? e=some u)
 (new:ObjOk X.prog X.w (upd H x o) h' x o):Inv X pins σ (upd H x o) { s with heap:=h',toks:=t' }:=I.un (Un.write mu he k heo) (I.hok.write mu he k heo new)
theorem Inv.pins_of{pins':List (Addr×Obj)}(I:Inv X pins σ H s)(h:∀p∈pins',s.heap.get? p.1=some p.2/\H p.1=none/\p.1≠X.env.locals/\p.1∉X.fs/\∀v,p.2.data≠.cell v):Inv X pins' σ H s :=
 ⟨I.ok,I.os,I.bare,I.base,I.loc,I.cell,I.free,I.freeC,λp hp=>(Ke.mp hp).elim (λz=>I.pin p (List.mem_append_left _ z)) (h p),I.hok,I.len⟩
theorem wI{N:List Str}(hN:N.Nodup){i j:Nat}{x:Str}(a:N[i]?=some x)(b:N[j]?=some x):i=j:=by obtain⟨h1,e1⟩:=List.getElem?_eq_some_iff.mp a;obtain⟨h2,e2⟩:=List.getElem?_eq_some_iff.mp b;exact(List.getElem_inj hN).mp (e1.trans e2.symm)
theorem zX{M:Model}{A:Around}{E:Value->Shared->Prop}{i:Nat}{x:Str}{v:V}{u:Value}{Q:Unit->Shared->Prop}(I:Inv X pins σ H s)(hN:X.N.Nodup)(hi:X.N[i]?=some x)(hx:Loc X.env.scope x)(r:RelV v u)
 (h:∀s',Inv X pins (σ.set i (some v)) H s'->(∃a,Heap.SameBut a s.heap s'.heap/\(a=X.env.locals\/X.env.cells.lookup x=some a))->Q () s') (hf:X.fn x=true\/X.env.scope.names.lookup x=some .local:=by first |exact .inl rfl |exact .inr rfl |assumption):wpAny M A (storeName X.env x u) Q E s:=by
 obtain⟨m,hn,hl⟩:=id I.loc;have hcls:(X.env.scope.kind == .class || (X.env.scope.kind == .module&&X.env.locals != X.env.globals))=false:=by rw[I.ok.kind];rfl
 have hiσ:i<σ.length:=by rw[I.len];exact(List.getElem?_eq_some_iff.mp hi).1
 have cne:=I.cne
 have tracked:∀{a:Addr} {h':Heap},(∃o,s.heap.get? a=some o/\H a=none)->Heap.SameBut a s.heap h'->HOk X.prog X.w H h':=λ{a h'} ha hs b ob e=>by
  obtain⟨_,_,hfree⟩:=ha;refine(I.hok b ob e).stay (λc w' hc q=>(hs.2 c ?_).trans q) (λ_ q=>q) λ_ _ q=>q
  rintro rfl;rcases hc with rfl |hc
  ·rw[hfree]at e;cases e
  ·rw[hfree]at hc;cases hc
 rcases hx with hk |hk
 ·refine wpAny_storeName_local hk hn (λh' hn' hs=>?_) hcls;obtain⟨oL,_,_,hoL,_⟩:=id hn;refine h _ ⟨I.ok,I.os,I.bare,⟨λb o e n hb hx=>?_,λb o e n hb hx=>?_,I.base.free,λb o e hx=>?_,I.base.tups,I.base.frzs,I.base.tbls⟩,⟨_,hn',λj y v' e1 e2 e3=>?_⟩,λy c e=>?_,I.free,I.freeC,λp hp=>?_,tracked ⟨oL,hoL,I.free⟩ hs,by simpa using I.len⟩ ⟨_,hs,.inl rfl⟩
  ·exact(hs.2 b (Ki (J9 (Heap.lt_size e) I.ok.above))).trans (I.base.keep b o e n hb hx)
  ·obtain⟨sl,e1⟩:=I.base.slot b o e n hb hx;exact⟨sl,(hs.2 b (Ki (J9 (Heap.lt_size e) I.ok.above))).trans e1⟩
  ·obtain⟨o',e1⟩:=I.base.there b o e hx;exact⟨o',(hs.2 b (Ki (J9 (Heap.lt_size e) I.ok.above))).trans e1⟩
  ·by_cases hj:j=i
   ·subst hj;rw[hi]at e1;cases e1;rw[List.getElem?_set_self hiσ]at e2;cases e2;exact⟨u,r,.inl ⟨hk,by simp⟩⟩
   ·rw[List.getElem?_set_ne (Ne.symm hj)]at e2;obtain⟨u',r',q⟩:=hl j y v' e1 e2 e3;refine⟨u',r',?_⟩;rcases q with⟨k,e⟩ |⟨k,c,e,z⟩
    ·refine .inl ⟨k,?_⟩;have:y≠x:=λe=>hj (wI hN e1 (e ▸ hi))
     simp[this,e]
    ·exact .inr ⟨k,c,e,z.sameBut hs (cne y c e)⟩
  ·obtain⟨w',z⟩:=I.cell y c e;exact⟨w',z.sameBut hs (cne y c e)⟩
  ·obtain⟨e,n,ne,nf,d⟩:=I.pin p hp;exact⟨(hs.2 p.1 ne).trans e,n,ne,nf,d⟩
 ·have hfn:X.fn x=true:=by
   rcases hf with z |z
   ·exact z
   ·rw[z]at hk;cases hk
  obtain⟨c,hc⟩:=I.ok.has x (.inl hk);obtain⟨w',z⟩:=I.cell x c hc;refine wpAny_storeName_cell I.ok.kind hk hc z (λh' hc' hs=>?_);obtain⟨oc,hoc,hocd⟩:=id z;refine h { s with heap:=h' } ⟨I.ok,I.os,I.bare,⟨λb o e n hb hx=>?_,λb o e n hb hx=>?_,I.base.free,λb o e hx=>?_,I.base.tups,I.base.frzs,I.base.tbls⟩,⟨m,hn.sameBut hs (Ne.symm (cne x c hc)),λj y v' e1 e2 e3=>?_⟩,λy c' e=>?_,I.free,I.freeC,λp hp=>?_,tracked ⟨oc,hoc,I.freeC x c hc⟩ hs,by simpa using I.len⟩ ⟨c,hs,.inr hc⟩
  ·exact(hs.2 b (Ki (J9 (Heap.lt_size e) (I.ok.cab x c hfn hc)))).trans (I.base.keep b o e n hb hx)
  ·obtain⟨sl,e1⟩:=I.base.slot b o e n hb hx;exact⟨sl,(hs.2 b (Ki (J9 (Heap.lt_size e) (I.ok.cab x c hfn hc)))).trans e1⟩
  ·obtain⟨o',e1⟩:=I.base.there b o e hx;exact⟨o',(hs.2 b (Ki (J9 (Heap.lt_size e) (I.ok.cab x c hfn hc)))).trans e1⟩
  ·by_cases hj:j=i
   ·subst hj;rw[hi]at e1;cases e1;rw[List.getElem?_set_self hiσ]at e2;cases e2;exact⟨u,r,.inr ⟨.inl hk,c,hc,hc'⟩⟩
   ·rw[List.getElem?_set_ne (Ne.symm hj)]at e2;obtain⟨u',r',q⟩:=hl j y v' e1 e2 e3;refine⟨u',r',?_⟩;rcases q with q |⟨k,c',e,z'⟩
    ·exact .inl q
    ·refine .inr ⟨k,c',e,z'.sameBut hs ?_⟩;rintro rfl;exact hj (wI hN e1 (I.ok.inj _ _ _ e hc ▸ hi))
  ·by_cases hcc:c'=c
   ·subst hcc;exact⟨_,hc'⟩
   ·obtain⟨w2,z2⟩:=I.cell y c' e;exact⟨w2,z2.sameBut hs hcc⟩
  ·obtain⟨e,n,ne,nf,d⟩:=I.pin p hp;refine⟨(hs.2 p.1 ?_).trans e,n,ne,nf,d⟩;intro q;rw[q,hoc]at e;have q':oc=p.2:=Option.some.inj e;exact d w' (by rw[<- q'];exact hocd)
theorem vG{M:Model}{A:Around}{E:Value->Shared->Prop}{i:Nat}{x:Str}{v:V}{u:Value}{Q:Unit->Shared->Prop}(I:Inv X pins σ H s)(hN:X.N.Nodup)(hi:X.N[i]?=some x)(hx:Loc X.env.scope x)(r:RelV v u)
 (h:∀s',Inv X pins (σ.set i (some v)) H s'->Q () s') (hf:X.fn x=true\/X.env.scope.names.lookup x=some .local:=by first |exact .inl rfl |exact .inr rfl |assumption):wpAny M A (storeName X.env x u) Q E s :=
 zX I hN hi hx r (λs' I' _=>h s' I') hf
theorem Inv.call'{s':Shared}{ch:List Addr}(I:Inv X pins σ H s)(ho:s'.os=s.os)(u:Un (frs X.stack) ch H H' s.heap s'.heap)(hok:HOk X.prog X.w H' s'.heap)(hg:AllBare s'.gens)
 (hch:∀b∈ch,(b∈X.ex\/X.s₀.heap.objs.size<=b)/\b≠X.env.locals/\(∀x c,X.env.cells.lookup x=some c->c≠b)/\∀p∈X.pn++pins,p.1≠b):Inv X pins σ H' s':=by
 obtain⟨h',g',d',t',o'⟩:=s';have e:o'=s.os:=ho;subst e;exact I.call (g':=g') (t':=t') (d':=d') u hok hg hch
end
abbrev XK:=Value->Option Addr->Hp->Prop
abbrev St:=List (Option V)
abbrev VK:=V->Hp->Prop
abbrev TE:=St->Hp->VK->Prop
abbrev TT:=St->Hp->(Bool->Hp->Prop)->Prop
abbrev TA:=St->Hp->(List V->Hp->Prop)->Prop
structure Ends where
 nx:St->Hp->Prop
 rt:VK
 bk:St->Hp->Prop:=λ_ _=>False
 ct:St->Hp->Prop:=λ_ _=>False
abbrev TS:=Ends->St->Hp->Prop
def EP(X:Cx)(pins:List (Addr×Obj))(σ:St)(Q:VK)(u:Value)(s':Shared):Prop:=∃v H',Inv X pins σ H' s'/\RelV v u/\Q v H'
def TP(X:Cx)(pins:List (Addr×Obj))(σ:St)(Q:Bool->Hp->Prop)(b:Bool)(s':Shared):Prop:=∃H',Inv X pins σ H' s'/\Q b H'
def AP(X:Cx)(pins:List (Addr×Obj))(σ:St)(Q:List V->Hp->Prop)(us:List Value)(s':Shared):Prop:=∃vs H',Inv X pins σ H' s'/\Vals vs us/\Q vs H'
noncomputable def SP(X:Cx)(pins:List (Addr×Obj))(D:Ends)(f:Flow)(s':Shared):Prop :=
 match f with
 |.next=>∃σ' H',Inv X pins σ' H' s'/\D.nx σ' H'
 |.brk=>∃σ' H',Inv X pins σ' H' s'/\D.bk σ' H'
 |.cont=>∃σ' H',Inv X pins σ' H' s'/\D.ct σ' H'
 |.ret u=>∃v σ' H',Inv X pins σ' H' s'/\RelV v u/\D.rt v H'
noncomputable def PE(X:Cx)(e:Expr)(t:TE):Prop :=
 ∀(pins:List (Addr×Obj)) (s:Shared) (σ:St) (H:Hp) (Q:VK),Inv X pins σ H s->t σ H Q->wpAny (model X.prog X.w) X.A (eval e X.env) (EP X pins σ Q) X.xe s
noncomputable def PT(X:Cx)(e:Expr)(t:TT):Prop :=
 ∀(pins:List (Addr×Obj)) (s:Shared) (σ:St) (H:Hp) (Q:Bool->Hp->Prop),Inv X pins σ H s->t σ H Q->wpAny (model X.prog X.w) X.A (isTrue e X.env (eval e X.env)) (TP X pins σ Q) X.xe s
noncomputable def PW(X:Cx)(e:Expr)(t:TT):Prop :=
 ∀(whole:Sem Value) (pins:List (Addr×Obj)) (s:Shared) (σ:St) (H:Hp) (Q:Bool->Hp->Prop),Inv X pins σ H s->t σ H Q->wpAny (model X.prog X.w) X.A (isTrue e X.env whole) (TP X pins σ Q) X.xe s
theorem PW.pt{X:Cx}{e:Expr}{t:TT}(h:PW X e t):PT X e t:=h _
noncomputable def PA(X:Cx)(es:List Expr)(t:TA):Prop :=
 ∀(pos:Pos) (pins:List (Addr×Obj)) (s:Shared) (σ:St) (H:Hp) (Q:List V->Hp->Prop),Inv X pins σ H s->t σ H Q->wpAny (model X.prog X.w) X.A (spliced (backTo pos (starEach es X.env))) (AP X pins σ Q) X.xe s
noncomputable def PS(X:Cx)(st:Stmt)(t:TS):Prop :=
 ∀(pins:List (Addr×Obj)) (s:Shared) (σ:St) (H:Hp) (D:Ends),Inv X pins σ H s->t D σ H->wpAny (model X.prog X.w) X.A (exec st X.env) (SP X pins D) X.xe s
noncomputable def PSs(X:Cx)(st:List Stmt)(t:TS):Prop :=
 ∀(pins:List (Addr×Obj)) (s:Shared) (σ:St) (H:Hp) (D:Ends),Inv X pins σ H s->t D σ H->wpAny (model X.prog X.w) X.A (execs st X.env) (SP X pins D) X.xe s
theorem thn{α:Type}{t:Sem α}{Q Q':α->Shared->Prop}{M:Model}{A:Around}{E:Value->Shared->Prop}{s:Shared}(h:wpAny M A t Q E s)(hQ:∀a s,Q a s->Q' a s):wpAny M A t Q' E s:=wpAny_mono h hQ λ_ _ x=>x
section
variable {X:Cx}
def vw(i:Nat):TE:=λσ H Q=>∃v,σ[i]?=some (some v)/\Q v H
def tC(v:V):TE:=λ_ H Q=>Q v H
theorem BS{i:Nat}{x:Str}{pos:Pos}(hN:X.N[i]?=some x)(hv:Vis X.env.scope x)(hd:(x == ("__debug__":Str))=false:=by decide)(hcd:(x == ("__classdict__":Str))=false:=by decide):PE X (.Name x pos) (vw i):=by
 intro pins s σ H Q I h;obtain⟨v,e,h⟩:=h;obtain⟨m,hn,hl⟩:=I.loc;obtain⟨u,r,l⟩:=hl i x v hN e hv;have fin:EP X pins σ Q u s:=⟨v,H,I,r,h⟩;rcases l with⟨hk,hm⟩ |⟨hk,c,hc,hcell⟩
 ·exact wpAny_Name (wpAny_loadName_local I.ok.kind hk hn hm fin) hd
 ·rcases hk with hk |hk
  ·exact wpAny_Name (wpAny_loadName_cell I.ok.kind hk hc hcell fin) hd
  ·exact wpAny_Name (wpAny_loadName_free I.ok.kind hk hc hcell fin hcd) hd
theorem ad{i j pos}:PE X (.Constant (.int i) j pos) (tC (.int i)):=λ_ _ _ H _ I h=>wpAny_Constant_int ⟨.int i,H,I.tok _,⟨_,rfl⟩,h⟩
theorem iY{b j pos}:PE X (.Constant (.bool b) j pos) (tC (.bl b)):=λ_ _ _ H _ I h=>Constant_bool ⟨.bl b,H,I,rfl,h⟩
theorem BU{j pos}:PE X (.Constant .none j pos) (tC .non):=λ_ _ _ H _ I h=>Constant_none ⟨.non,H,I,rfl,h⟩
theorem ao{x j pos}:PE X (.Constant (.str x) j pos) (tC (.str x)):=λ_ _ _ H _ I h=>Calls.Constant_str ⟨.str x,H,I.tok _,⟨_,rfl⟩,h⟩
def Gl(X:Cx)(x:Str):Prop:=X.env.kindOf x=some .globalImplicit
theorem o4{E:Value->Shared->Prop}{pins:List (Addr×Obj)}{s:Shared}{σ:St}{H:Hp}{x:Str}{u:Value}{pos:Pos}{Q:Value->Shared->Prop}(I:Inv X pins σ H s)(hg:Gl X x)(hm:X.mg x=some u)(h:Q u s)
 (hd:(x == ("__debug__":Str))=false:=by decide):wpAny (model X.prog X.w) X.A (eval (.Name x pos) X.env) Q E s :=
 Calls.Name_function_global I.ok.kind hg (Calls.loadGlobal_global (by rw[I.ok.glob];exact I.mod.glob.keeps I.bk) hm h) hd
theorem mO{E:Value->Shared->Prop}{pins:List (Addr×Obj)}{s:Shared}{σ:St}{H:Hp}{x:Str}{u:Value}{pos:Pos}{Q:Value->Shared->Prop}(I:Inv X pins σ H s)(hg:Gl X x)(hm:X.mg x=none)(hv:bootBuiltins x=some u)(h:Q u s)
 (hn:x≠"__name__":=by decide) (hd:(x == ("__debug__":Str))=false:=by decide):wpAny (model X.prog X.w) X.A (eval (.Name x pos) X.env) Q E s:=by
 obtain⟨mb,h1,h2⟩:=I.mod.blt;exact Calls.Name_function_global I.ok.kind hg (Calls.loadGlobal_builtin (by rw[I.ok.glob];exact I.mod.glob.keeps I.bk) hm (by rw[I.ok.blt];exact h1.keeps I.bk) ((h2 x hn).trans hv) h) hd
theorem br{x:Str}{v:V}{u:Value}{pos:Pos}(hg:Gl X x)(hm:X.mg x=some u)(r:RelV v u)(hd:(x == ("__debug__":Str))=false:=by decide):PE X (.Name x pos) (tC v) :=
 λ_ _ _ H _ I h=>o4 I hg hm ⟨v,H,I,r,h⟩ hd
theorem mx{x:Str}{v:V}{u:Value}{pos:Pos}(hg:Gl X x)(hm:X.mg x=none)(hv:bootBuiltins x=some u)(r:RelV v u)(hn:x≠"__name__":=by decide)(hd:(x == ("__debug__":Str))=false:=by decide):PE X (.Name x pos) (tC v) :=
 λ_ _ _ H _ I h=>mO I hg hm hv ⟨v,H,I,r,h⟩ hn hd
variable {a b:Expr}{ta tb:TE}{pos:Pos}
def tB(t:TE):TT:=λσ H Q=>t σ H λx H1=>∃c,x=.bl c/\Q c H1
theorem bB{e:Expr}{t:TE}(h:PE X e t)(he:∀whole,isTrue e X.env whole=(do let v <- whole;standAt e.pos;holding [v] (truthy v)):=by intro _;rfl):PT X e (tB t):=by intro pins s σ H Q I hw;refine isTrue_plain (thn (h pins s σ H _ I hw) λv s1 ⟨x,H1,I1,r1,q1⟩=>?_) (he _);obtain⟨d,rfl,q⟩:=q1;cases r1;exact wpAny_truthy_bool ⟨H1,I1,q⟩
variable {tA tB':TT}{rest:List Expr}
def vE(t u:TT):TT:=λσ H Q=>t σ H λc H1=>if c=true then u σ H1 Q else Q false H1
def tOr(t u:TT):TT:=λσ H Q=>t σ H λc H1=>if c=true then Q true H1 else u σ H1 Q
def vA(t:TT):TT:=λσ H Q=>t σ H λc H1=>Q (!c) H1
theorem iW(ha:PT X a tA):PW X (.BoolOp .And [a] pos) tA:=by
 intro wh pins s σ H Q I h;refine isTrue_and (thn (ha pins s σ H Q I h) λc s1 e=>?_);cases c with
 |true=>exact isTrue_and_nil e
 |false=>exact e
theorem qW(ha:PT X a tA):PW X (.BoolOp .Or [a] pos) tA:=by
 intro wh pins s σ H Q I h;refine isTrue_or (thn (ha pins s σ H Q I h) λc s1 e=>?_);cases c with
 |false=>exact isTrue_or_nil e
 |true=>exact e
theorem ib(ha:PT X a tA)(hb:PW X (.BoolOp .And (b::rest) pos) tB'):PW X (.BoolOp .And (a::b::rest) pos) (vE tA tB'):=by
 intro wh pins s σ H Q I h;refine isTrue_and (thn (ha pins s σ H _ I h) λc s1 ⟨H1,I1,q1⟩=>?_);cases c with
 |true=>exact hb wh pins s1 σ H1 Q I1 q1
 |false=>exact⟨H1,I1,q1⟩
theorem mn(ha:PT X a tA)(hb:PW X (.BoolOp .Or (b::rest) pos) tB'):PW X (.BoolOp .Or (a::b::rest) pos) (tOr tA tB'):=by
 intro wh pins s σ H Q I h;refine isTrue_or (thn (ha pins s σ H _ I h) λc s1 ⟨H1,I1,q1⟩=>?_);cases c with
 |true=>exact⟨H1,I1,q1⟩
 |false=>exact hb wh pins s1 σ H1 Q I1 q1
theorem dY(ha:PT X a tA):PT X (.UnaryOp .Not a pos) (vA tA):=by intro pins s σ H Q I h;exact isTrue_not (ha pins s σ H (λc H1=>Q (!c) H1) I h)
def vD(ta tb:TE):TE:=λσ H Q=>ta σ H λx H1=>∃c,x=.bl c/\if c=true then tb σ H1 Q else Q (.bl false) H1
def vy(ta tb:TE):TE:=λσ H Q=>ta σ H λx H1=>∃c,x=.bl c/\if c=true then Q (.bl true) H1 else tb σ H1 Q
def vz(ta:TE):TE:=λσ H Q=>ta σ H λx H1=>∃c,x=.bl c/\Q (.bl (!c)) H1
theorem bq{op}{t:TE}(h:PE X a t):PE X (.BoolOp op [a] pos) t:=λpins s σ H Q I hw=>BoolOp_one (h pins s σ H Q I hw)
theorem bx(ha:PE X a ta)(hb:PE X (.BoolOp .And (b::rest) pos) tb):PE X (.BoolOp .And (a::b::rest) pos) (vD ta tb):=by
 intro pins s σ H Q I h;refine BoolOp_and (thn (ha pins s σ H _ I h) λv s1 ⟨x,H1,I1,r1,q1⟩=>?_);obtain⟨c,rfl,q1⟩:=q1;cases r1;refine wpAny_truthy_bool ?_;cases c with
 |true=>exact hb pins s1 σ H1 Q I1 q1
 |false=>exact⟨.bl false,H1,I1,rfl,q1⟩
theorem fQ(ha:PE X a ta)(hb:PE X (.BoolOp .Or (b::rest) pos) tb):PE X (.BoolOp .Or (a::b::rest) pos) (vy ta tb):=by
 intro pins s σ H Q I h;refine BoolOp_or (thn (ha pins s σ H _ I h) λv s1 ⟨x,H1,I1,r1,q1⟩=>?_);obtain⟨c,rfl,q1⟩:=q1;cases r1;refine wpAny_truthy_bool ?_;cases c with
 |false=>exact hb pins s1 σ H1 Q I1 q1
 |true=>exact⟨.bl true,H1,I1,rfl,q1⟩
theorem lq(ha:PE X a ta):PE X (.UnaryOp .Not a pos) (vz ta):=by intro pins s σ H Q I h;refine UnaryOp_ (thn (ha pins s σ H _ I h) λv s1 ⟨x,H1,I1,r1,q1⟩=>?_);obtain⟨c,rfl,q1⟩:=q1;cases r1;exact not_of (wpAny_truthy_bool ⟨.bl (!c),H1,I1,rfl,q1⟩)
def tIf(t:TT)(ta tb:TE):TE:=λσ H Q=>t σ H λc H1=>if c=true then ta σ H1 Q else tb σ H1 Q
theorem iX{c:Expr}(hc:PT X c tA)(ha:PE X a ta)(hb:PE X b tb):PE X (.IfExp c a b pos) (tIf tA ta tb):=by
 intro pins s σ H Q I h;refine wpAny_IfExp (thn (hc pins s σ H _ I h) λd s1 ⟨H1,I1,q1⟩=>?_);cases d with
 |true=>exact ha pins s1 σ H1 Q I1 q1
 |false=>exact hb pins s1 σ H1 Q I1 q1
end
noncomputable def SqL(K:PySem.W.Frag)(H:Hp)(a:Addr)(xs:List V):Prop :=
 Rd H a (.lst xs) \/
  ∃(o:Obj) (its:Array Value) (n:Nat),K.lookup a=some o/\o.cls=.type "list"/\o.dict=none/\o.data=.seq its n/\its.size<=sizeLine/\Vals xs its.toList
noncomputable def SqT(K:PySem.W.Frag)(H:Hp)(a:Addr)(xs:List V):Prop :=
 Rd H a (.tup xs) \/
  ∃(o:Obj) (its:Array Value) (n:Nat),K.lookup a=some o/\o.cls=.type "tuple"/\o.data=.seq its n/\its.size<=sizeLine/\Vals xs its.toList
noncomputable def IW:Value->Option V
 |.none=>some .non
 |.bool b=>some (.bl b)
 |.int i _=>some (.int i)
 |.str x _=>some (.str x)
 |.bytes b _=>some (.byt b)
 |.float b _=>some (.flt b)
 |.ref a=>some (.ref a)
 |.type n=>some (.ty n)
 |_=>none
theorem RelV.abs{x:V}{u:Value}(r:RelV x u):IW u=some x:=by
 cases x with
 |non=>cases r;rfl
 |bl _=>cases r;rfl
 |int _=>obtain⟨t,rfl⟩:=r;rfl
 |str _=>obtain⟨t,rfl⟩:=r;rfl
 |byt _=>obtain⟨t,rfl⟩:=r;rfl
 |flt _=>obtain⟨t,rfl⟩:=r;rfl
 |ref _=>cases r;rfl
 |ty _=>cases r;rfl
theorem RelV.inj{x y:V}{u:Value}(r:RelV x u)(q:RelV y u):x=y:=Option.some.inj (r.abs.symm.trans q.abs)
theorem Vals.inj:∀{xs ys:List V} {us:List Value},Vals xs us->Vals ys us->xs=ys
 |_,_,_,.nil,.nil=>rfl
 |_,_,_,.cons r t,.cons r' t'=>by rw[r.inj r',Vals.inj t t']
section
variable {X:Cx}{pins:List (Addr×Obj)}{σ:St}{H:Hp}{s:Shared}{a:Addr}{xs ys:List V}
theorem SqL.of{K:PySem.W.Frag}(h:H a=some (.lst xs)):SqL K H a xs:=.inl (.inl h)
theorem SqT.of{K:PySem.W.Frag}(h:H a=some (.tup xs)):SqT K H a xs:=.inl (.inl h)
theorem Inv.list(I:Inv X pins σ H s)(h:SqL X.K H a xs):∃its:List Value,Vals xs its/\PlainL s.heap a its.toArray/\xs.length<=sizeLine:=by
 rcases h with h |⟨o,its,n,hk,hc,hd,hs,hz,r⟩
 ·obtain⟨z,its,n,r,e⟩:=h.ok I.hok;exact⟨its,r,⟨_,n,e,rfl,rfl,rfl⟩,z⟩
 ·refine⟨its.toList,r,⟨o,n,I.kIn a o hk,hc,hd,by simpa using hs⟩,?_⟩;have e:=r.length;simp only[Array.length_toList]at e;omega
theorem Inv.tuple(I:Inv X pins σ H s)(h:SqT X.K H a xs):∃its:List Value,Vals xs its/\IsTup s.heap a its.toArray/\xs.length<=sizeLine:=by
 rcases h with h |⟨o,its,n,hk,hc,hs,hz,r⟩
 ·obtain⟨z,its,r,p⟩:=h.ok I.hok;exact⟨its,r,p,z⟩
 ·refine⟨its.toList,r,⟨o,I.kIn a o hk,hc,n,by simpa using hs⟩,?_⟩;have e:=r.length;simp only[Array.length_toList]at e;omega
theorem Inv.list_inj(I:Inv X pins σ H s)(h:SqL X.K H a xs)(h':SqL X.K H a ys):xs=ys:=by
 obtain⟨its,r,⟨o,n,e,_,_,d⟩,_⟩:=I.list h;obtain⟨its',r',⟨o',n',e',_,_,d'⟩,_⟩:=I.list h';rw[e]at e';cases e';rw[d]at d'
 injection d' with d1 _
 have:its=its':=by simpa using congrArg Array.toList d1
 subst this;exact r.inj r'
theorem Inv.tuple_inj(I:Inv X pins σ H s)(h:SqT X.K H a xs)(h':SqT X.K H a ys):xs=ys:=by
 obtain⟨its,r,⟨o,e,_,n,d⟩,_⟩:=I.tuple h;obtain⟨its',r',⟨o',e',_,n',d'⟩,_⟩:=I.tuple h';rw[e]at e';cases e';rw[d]at d'
 injection d' with d1 _
 have:its=its':=by simpa using congrArg Array.toList d1
 subst this;exact r.inj r'
end
abbrev Cx.wish(X:Cx)(E:Value->Shared->Prop):Cx:={ X with xe:=E }
abbrev Cx.nox(X:Cx):Cx:=X.wish λ_ _=>False
theorem Cx.Ok.wish{X:Cx}(ok:X.Ok)(E:Value->Shared->Prop):(X.wish E).Ok :=
 ⟨ok.mod,ok.kind,ok.glob,ok.blt,ok.above,ok.inj,ok.has,ok.cab,ok.hd,ok.frames,ok.stk,ok.exf,ok.bs,ok.bsz,ok.noex,ok.exfs,ok.funs,ok.frf⟩
theorem Cx.Ok.unwish{X:Cx}{E:Value->Shared->Prop}(ok:(X.wish E).Ok):X.Ok :=
 ⟨ok.mod,ok.kind,ok.glob,ok.blt,ok.above,ok.inj,ok.has,ok.cab,ok.hd,ok.frames,ok.stk,ok.exf,ok.bs,ok.bsz,ok.noex,ok.exfs,ok.funs,ok.frf⟩
section
variable {X:Cx}{pins:List (Addr×Obj)}{σ:St}{H:Hp}{s:Shared}{E:Value->Shared->Prop}
theorem Inv.wish(I:Inv X pins σ H s)(E:Value->Shared->Prop):Inv (X.wish E) pins σ H s:=⟨I.ok.wish E,I.os,I.bare,I.base,I.loc,I.cell,I.free,I.freeC,I.pin,I.hok,I.len⟩
theorem Inv.unwish(I:Inv (X.wish E) pins σ H s):Inv X pins σ H s:=⟨I.ok.unwish,I.os,I.bare,I.base,I.loc,I.cell,I.free,I.freeC,I.pin,I.hok,I.len⟩
theorem SP.unwish{D:Ends}{f:Flow}{s':Shared}(h:SP (X.wish E) pins D f s'):SP X pins D f s':=by
 cases f with
 |next=>obtain⟨σ',H',I,q⟩:=h;exact⟨σ',H',I.unwish,q⟩
 |brk=>obtain⟨σ',H',I,q⟩:=h;exact⟨σ',H',I.unwish,q⟩
 |cont=>obtain⟨σ',H',I,q⟩:=h;exact⟨σ',H',I.unwish,q⟩
 |ret u=>obtain⟨v,σ',H',I,r,q⟩:=h;exact⟨v,σ',H',I.unwish,r,q⟩
theorem PE.nox{e:Expr}{t:TE}(h:PE X.nox e t):PE X e t:=λpins s σ H Q I hw =>wpAny_mono (h pins s σ H Q (I.wish _) hw) (λ_ _ ⟨v,H',I',r,q⟩=>⟨v,H',I'.unwish,r,q⟩) λ_ _ z=>False.elim z
theorem PT.nox{e:Expr}{t:TT}(h:PT X.nox e t):PT X e t:=λpins s σ H Q I hw =>wpAny_mono (h pins s σ H Q (I.wish _) hw) (λ_ _ ⟨H',I',q⟩=>⟨H',I'.unwish,q⟩) λ_ _ z=>False.elim z
theorem PSs.nox{st:List Stmt}{t:TS}(h:PSs X.nox st t):PSs X st t:=λpins s σ H D I hw =>wpAny_mono (h pins s σ H D (I.wish _) hw) (λ_ _ q=>q.unwish) λ_ _ z=>False.elim z
end
section
variable {X:Cx}{st:Stmt}{rest:List Stmt}{t u:TS}{e:Expr}{te:TE}{pos:Pos}
def pU:TS:=λD σ H=>D.nx σ H
def cY(t u:TS):TS:=λD σ H=>t { D with nx:=u D } σ H
theorem aJ:PSs X [] pU:=λ_ _ σ H _ I h=>wpAny_execs_nil ⟨σ,H,I,h⟩
theorem af(h1:PS X st t)(h2:PSs X rest u):PSs X (st::rest) (cY t u):=by
 intro pins s σ H D I h;refine wpAny_execs_cons (thn (h1 pins s σ H { D with nx:=u D } I h) λf s1 q=>?_);cases f with
 |next =>obtain⟨σ',H',I',q⟩:=q;exact h2 pins s1 σ' H' D I' q
 |ret v=>exact q
 |brk=>exact q
 |cont=>exact q
theorem ag(h1:PS X st t):PSs X [st] t:=by
 intro pins s σ H D I h;refine wpAny_execs_cons (thn (h1 pins s σ H D I h) λf s1 q=>?_);cases f with
 |next=>exact wpAny_execs_nil q
 |ret v=>exact q
 |brk=>exact q
 |cont=>exact q
theorem Inv.quiet{pins:List (Addr×Obj)}{σ:St}{H:Hp}{s:Shared}(I:Inv X pins σ H s):interactive X.env=false:=by simp[interactive,I.ok.kind]
def om(te:TE):TS:=λD σ H=>te σ H λ_ H1=>D.nx σ H1
theorem cc(he:PE X e te)(hs:swapsWith e none pos.line X.env=pure false:=by rfl):PS X (.Expr e pos) (om te):=by intro pins s σ H D I h;exact wpAny_Expr_any (thn (he pins s σ H _ I h) λv s1 ⟨x,H1,I1,r1,q1⟩=>⟨σ,H1,I1,q1⟩) I.quiet hs
def vx(te:TE):TS:=λD σ H=>te σ H D.rt
theorem aq(he:PE X e te):PS X (.Return (some e) pos) (vx te):=by intro pins s σ H D I h;exact wpAny_Return_some (thn (he pins s σ H _ I h) λv s1 ⟨x,H1,I1,r1,q1⟩=>⟨x,σ,H1,I1,r1,q1⟩)
def hG(c:TT)(t u:TS):TS:=λD σ H=>c σ H λb H1=>if b=true then t D σ H1 else u D σ H1
theorem aH{c:Expr}{a b:List Stmt}{tc:TT}(hc:PT X c tc)(ha:PSs X a t)(hb:PSs X b u):PS X (.If c a b pos) (hG tc t u):=by
 intro pins s σ H D I h;refine wpAny_If (thn (hc pins s σ H _ I h) λd s1 ⟨H1,I1,q1⟩=>?_);cases d with
 |true=>exact ha pins s1 σ H1 D I1 q1
 |false=>exact hb pins s1 σ H1 D I1 q1
def zP:TS:=λ_ _ _=>False
theorem BB:PS X st zP:=λ_ _ _ _ _ _ h=>h.elim
end
abbrev TG:=V->St->Hp->(St->Hp->Prop)->Prop
noncomputable def PG(X:Cx)(target:Expr)(t:TG):Prop :=
 ∀(pins:List (Addr×Obj)) (s:Shared) (σ:St) (H:Hp) (v:V) (u:Value) (Q:St->Hp->Prop),Inv X pins σ H s->RelV v u->t v σ H Q ->
  wpAny (model X.prog X.w) X.A (assign target X.env u) (λ_ s'=>∃σ' H',Inv X pins σ' H' s'/\Q σ' H') X.xe s
abbrev ut:=V->V->V->Hp->(Hp->Prop)->Prop
noncomputable def yS(X:Cx)(t:ut):Prop :=
 ∀(pins:List (Addr×Obj)) (s:Shared) (σ:St) (H:Hp) (o i v:V) (ov iv u:Value) (Q:Hp->Prop),Inv X pins σ H s->RelV o ov->RelV i iv->RelV v u->t o i v H Q ->
  wpAny (model X.prog X.w) X.A (setItem ov iv u) (λ_ s'=>∃H',Inv X pins σ H' s'/\Q H') X.xe s
section
variable {X:Cx}{pos:Pos}
def pp(i:Nat):TG:=λv σ H Q=>Q (σ.set i (some v)) H
theorem dZ{i:Nat}{x:Str}(hN:X.N.Nodup)(hi:X.N[i]?=some x)(hx:Loc X.env.scope x)(hf:X.fn x=true\/X.env.scope.names.lookup x=some .local:=by first |exact .inl rfl |exact .inr rfl |assumption):PG X (.Name x pos) (pp i):=by intro pins s σ H v u Q I r h;exact wpAny_assign_Name (vG I hN hi hx r (λs' I'=>⟨_,H,I',h⟩) hf)
def Ge(to ti:TE)(t:ut):TG:=λv σ H Q=>to σ H λo H1=>ti σ H1 λi H2=>t o i v H2 λH3=>Q σ H3
theorem BQ{o i:Expr}{to ti:TE}{t:ut}(ho:PE X o to)(hi:PE X i ti)(hs:yS X t)
 (ha:∀v,assign (.Subscript o i pos) X.env v=(do
   let ov <- holding [v] (eval o X.env)
   let iv <- holding [v,ov] (eval i X.env)
   standAt pos
   holding [v,ov,iv] (setItem ov iv v)
   release [v,ov,iv] []):=by intro _;rfl):PG X (.Subscript o i pos) (Ge to ti t):=by
 intro pins s σ H v u Q I r h;rw[ha];refine wpAny_bind (wpAny_holding (thn (ho pins s σ H _ I h) λov s1 ⟨x,H1,I1,r1,q1⟩=>?_));refine wpAny_bind (wpAny_holding (thn (hi pins s1 σ H1 _ I1 q1) λiv s2 ⟨y,H2,I2,r2,q2⟩=>?_));refine wpAny_bind (wpAny_standAt (wpAny_bind (wpAny_holding (thn (hs pins s2 σ H2 x y v ov iv u _ I2 r1 r2 r q2) λ_ s3 ⟨H3,I3,q3⟩=>?_))));exact wpAny_release ⟨σ,H3,I3,q3⟩
def oq(te:TE)(g:TG):TS:=λD σ H=>te σ H λx H1=>g x σ H1 D.nx
theorem BC{tg e:Expr}{te:TE}{g:TG}(he:PE X e te)(hg:PG X tg g)(hs:swapsWithSole [tg] e pos.line X.env=pure false:=by rfl)(hw:swappedStores [tg] e X.env=pure none:=by rfl)
 (h1:(assignEach [tg] X.env).map (·.2)=[assign tg X.env]:=by rfl):PS X (.Assign [tg] e pos) (oq te g):=by
 intro pins s σ H D I h;refine wpAny_Assign_stores (thn (he pins s σ H _ I h) λv s1 ⟨x,H1,I1,r1,q1⟩=>?_) hs hw;rw[h1];exact thn (hg pins s1 σ H1 x v _ I1 r1 q1) λ_ s2 q=>q
theorem ay{i:Nat}{x:Str}{e:Expr}{te:TE}{pos':Pos}(hN:X.N.Nodup)(hi:X.N[i]?=some x)(hx:Loc X.env.scope x)(he:PE X e te)(hs:swapsWith e (some (.Name x pos')) pos.line X.env=pure false:=by rfl)(hf:X.fn x=true\/X.env.scope.names.lookup x=some .local:=by first |exact .inl rfl |exact .inr rfl |assumption) :
 PS X (.Assign [.Name x pos'] e pos) (oq te (pp i)):=by
 intro pins s σ H D I h;refine wpAny_Assign_Name (thn (he pins s σ H _ I h) λv s1 ⟨y,H1,I1,r1,q1⟩=>?_) hs;exact vG I1 hN hi hx r1 (λs2 I2=>⟨_,H1,I2,q1⟩) hf
end
section
variable {X:Cx}{pos:Pos}
def zH(c:TT)(tb:TS):TS:=λD σ H=>∃W:Nat->St->Hp->Prop,(∃m,W m σ H)/\∀m σ H,W m σ H ->
 c σ H λb H1=>if b=true then ∃N:St->Hp->Prop,(∀σ' H',N σ' H'->∃m',m'<m/\W m' σ' H')/\tb { D with nx:=N,ct:=N,bk:=D.nx } σ H1 else D.nx σ H1
theorem ic{c:Expr}{body:List Stmt}{tc:TT}{tb:TS}(hp:PassesOwn (model X.prog X.w) X.A X.env X.xe)(hc:PT X c tc)(hb:PSs X body tb):PS X (.While c body [] pos) (zH tc tb):=by
 intro pins s σ H D I h;obtain⟨W,⟨m0,w0⟩,turn⟩:=h;refine wpAny_While (codeAny_whileLoop (λn s'=>∃σ' H',Inv X pins σ' H' s'/\W n σ' H') ?_ m0 ⟨σ,H,I,w0⟩);rintro n s1 ⟨σ1,H1,I1,w1⟩;refine wpAny_passesOwn hp (thn (hc pins s1 σ1 H1 _ I1 (turn n σ1 H1 w1)) λb s2 ⟨H2,I2,q2⟩=>?_);cases b with
 |true =>
  obtain⟨N,hN,q2⟩:=q2;rw[if_pos rfl];refine wpAny_passesOwn hp (thn (hb pins s2 σ1 H2 _ I2 q2) λf s3 q3=>?_);cases f with
  |next =>obtain⟨σ3,H3,I3,n3⟩:=q3;obtain⟨m',hm,w3⟩:=hN σ3 H3 n3;exact⟨m',hm,σ3,H3,I3,w3⟩
  |cont =>obtain⟨σ3,H3,I3,n3⟩:=q3;obtain⟨m',hm,w3⟩:=hN σ3 H3 n3;exact⟨m',hm,σ3,H3,I3,w3⟩
  |brk=>exact q3
  |ret v=>exact q3
 |false =>rw[if_neg Ka];exact wpAny_execs_nil ⟨σ1,H2,I2,q2⟩
end
structure It where
 go:Nat->Hp->Prop
 yld:Nat->Hp->V->Hp->Prop
 stop:Nat->Hp->Prop
noncomputable def fY(X:Cx)(pins:List (Addr×Obj))(H:Hp)(b:Addr):Prop :=
 H b=none/\b≠X.env.locals/\b∉X.fs/\(b∈X.ex\/X.s₀.heap.objs.size<=b)/\(∀x c,X.env.cells.lookup x=some c->c≠b)/\∀p∈X.pn++pins,p.1≠b
theorem Inv.fpOk{X:Cx}{pins:List (Addr×Obj)}{σ:St}{H H':Hp}{s:Shared}{b:Addr}(I:Inv X pins σ H s)(hb:s.heap.objs.size<=b)(hn:H' b=none):fY X pins H' b:=by
 refine⟨hn,Nat.ne_of_gt (J9 I.lt hb),I.nofs hb,.inr (J7 I.sz hb),λx c e z=>?_,λp hp z=>?_⟩
 ·obtain⟨v,q⟩:=I.cell x c e;exact absurd (J9 q.lt (by rw[z];exact hb)) (Km _)
 ·exact absurd (J9 (Heap.lt_size (I.pin p hp).1) (by rw[z];exact hb)) (Km _)
structure Turn(P:Program)(w:World)(K:PySem.W.Frag)(tg:Expr)(J:It)(fp:List Addr)(it:Addr)(tn:Nat->Heap->Prop):Prop where
 mem:it∈fp
 obj:∀i h,tn i h->∀b∈fp,∃o,h.get? b=some o/\∀v,o.data≠.cell v
 keep:∀i h h',tn i h->(∀b∈fp,∀o,h.get? b=some o->h'.get? b=some o)->tn i h'
 item:∀(X:Cx),X.prog=P->X.w=w->X.K=K->X.calm=true->∀(i:Nat) (pins:List (Addr×Obj)) (s:Shared) (σ:St) (H:Hp) (E:Value->Shared->Prop),Inv X pins σ H s->(∀b∈fp,fY X pins H b)->tn i s.heap->J.go i H ->
  wpAny (model P w) X.A (pyNext (.ref it)) (λr s1=>∃u,r=some u /\
   wpAny (model P w) X.A (letOwnedTupleGo tg (.ref it) u) (λ_ s2=>∃x H',Inv X pins σ H' s2/\RelV x u/\J.yld i H x H'/\tn (i+1) s2.heap/\∀b∈fp,H' b=none) E s1) E s
 done:∀(X:Cx),X.prog=P->X.w=w->X.K=K->X.calm=true->∀(i:Nat) (pins:List (Addr×Obj)) (s:Shared) (σ:St) (H:Hp) (E:Value->Shared->Prop),Inv X pins σ H s->(∀b∈fp,fY X pins H b)->tn i s.heap->J.stop i H ->
  wpAny (model P w) X.A (pyNext (.ref it)) (λr s1=>r=none/\Inv X pins σ H s1) E s
 self:∀(A:Around) (i:Nat) (s:Shared) (Q:Value->Shared->Prop) (E:Value->Shared->Prop),tn i s.heap->Q (.ref it) s->wpAny (model P w) A (pyIter (.ref it)) Q E s
abbrev TI:=St->Hp->(It->Hp->Prop)->Prop
noncomputable def PIE(X:Cx)(pins:List (Addr×Obj))(σ:St)(tg:Expr)(R:It->Hp->Prop)(itv:Value)(s2:Shared):Prop :=
 ∃(it:Addr) (fp:List Addr) (tn:Nat->Heap->Prop) (J:It) (H':Hp),itv=.ref it/\Inv X pins σ H' s2/\Turn X.prog X.w X.K tg J fp it tn/\tn 0 s2.heap/\(∀b∈fp,fY X pins H' b)/\R J H'
noncomputable def PI(X:Cx)(tg iter:Expr)(wi:TI):Prop :=
 ∀(pins:List (Addr×Obj)) (s:Shared) (σ:St) (H:Hp) (R:It->Hp->Prop),Inv X pins σ H s->wi σ H R ->
  wpAny (model X.prog X.w) X.A (eval iter X.env) (λv s1=>wpAny (model X.prog X.w) X.A (pyIter v) (PIE X pins σ tg R) X.xe s1) X.xe s
theorem mX{M:Model}{A:Around}{E:Value->Shared->Prop}{s:Shared}{tg:Expr}{it:Addr}{u:Value}{o:Obj}{n:String}{vs:Array Value}{Q:Unit->Shared->Prop}(ho:s.heap.get? it=some o)(hc:o.cls=.type n)(hd:o.data=.fields vs)
 (hn:["enumerate","zip","dict_itemiterator","dict_reverseitemiterator","odict_iterator","itertools.zip_longest","itertools.pairwise"].contains n=false) (hQ:Q () s):wpAny M A (letOwnedTupleGo tg (.ref it) u) Q E s:=by
 unfold letOwnedTupleGo
 cases tg<;>first
  |exact wpAny_pure hQ
  | (cases u<;>first
      |exact wpAny_pure hQ
      | (refine wpAny_bind (wpAny_load ho ?_)
         rw[hc,hd];show wpAny M A (if(["enumerate","zip","dict_itemiterator","dict_reverseitemiterator","odict_iterator","itertools.zip_longest","itertools.pairwise"].contains n&&vs[0]? == some (rawInt _))=true then _ else _) Q E s;rw[if_neg (by intro h;rw[hn,Bool.false_and]at h;cases h)]
         exact wpAny_pure hQ))
noncomputable def Itl(K:PySem.W.Frag)(a:Addr):It :=
 ⟨λi H=>∃xs x,SqL K H a xs/\xs[i]?=some x,λi H x H'=>H'=H/\∀xs,SqL K H a xs->xs[i]?=some x,λi H=>∃xs,SqL K H a xs/\xs.length<=i⟩
noncomputable def Itt(K:PySem.W.Frag)(a:Addr):It :=
 ⟨λi H=>∃xs x,SqT K H a xs/\xs[i]?=some x,λi H x H'=>H'=H/\∀xs,SqT K H a xs->xs[i]?=some x,λi H=>∃xs,SqT K H a xs/\xs.length<=i⟩
noncomputable def Itr(lo:Int)(n:Nat):It:=⟨λi _=>i<n,λi H x H'=>H'=H/\x=.int (lo+i),λi _=>n<=i⟩
theorem zr{P:Program}{w:World}{K:PySem.W.Frag}{tg:Expr}(a it:Addr):Turn P w K tg (Itl K a) [it] it (λi h=>h.IsListIter it a i) where
 mem:=by simp
 obj:=λi h st b hb=>by
  have e:b=it:=by simpa using hb
  subst e;obtain⟨o,e,c,d⟩:=st;exact⟨o,e,λv z=>by rw[d]at z;cases z⟩
 keep:=λi h h' st k=>st.at λo e=>k it (by simp) o e
 item:=by
  intro X hP hw hK hc i pins s σ H E I hf st hg;subst hP hw hK;obtain⟨xs,x,hq,hx⟩:=hg;obtain⟨its,rv,p,hz⟩:=I.list hq;obtain⟨u,hu,ru⟩:=rv.get hx;obtain⟨f0,f1,f2,f3,f4,f5⟩:=hf it (by simp);refine wpAny_pyNext_list_item st p.isList (x:=u) (by simpa using hu) λh' st' sb=>?_
  have I1:Inv X pins σ H { s with heap:=h' }:=I.turned (t':=s.toks) (λb o hb e=>(sb.2 b hb).trans e) f0 f1 f3 f4 f5;obtain⟨o,e,c,d⟩:=id st';exact⟨u,rfl,mX (s:={ s with heap:=h' }) e c d (by decide) ⟨x,H,I1,ru,⟨rfl,λys hy=>by rw[I.list_inj hy hq];exact hx⟩,st',λb hb=>(hf b hb).1⟩⟩
 done:=by intro X hP hw hK hc i pins s σ H E I hf st hg;subst hP hw hK;obtain⟨xs,hq,hx⟩:=hg;obtain⟨its,rv,p,hz⟩:=I.list hq;obtain⟨f0,f1,f2,f3,f4,f5⟩:=hf it (by simp);have hl:=rv.length;exact wpAny_pyNext_list_end (I.ok.hd hc) st p.isList (by simp;omega) λh' eb=>⟨rfl,I.turned (t':=s.toks) (λb o hb e=>eb b o hb e) f0 f1 f3 f4 f5⟩
 self:=λ_ _ _ _ _ st h=>wpAny_pyIter_listiter st h
theorem zn{P:Program}{w:World}{K:PySem.W.Frag}{tg:Expr}(a it:Addr):Turn P w K tg (Itt K a) [it] it (λi h=>h.IsTupleIter it a i) where
 mem:=by simp
 obj:=λi h st b hb=>by
  have e:b=it:=by simpa using hb
  subst e;obtain⟨o,e,c,d⟩:=st;exact⟨o,e,λv z=>by rw[d]at z;cases z⟩
 keep:=λi h h' st k=>st.at λo e=>k it (by simp) o e
 item:=by
  intro X hP hw hK hc i pins s σ H E I hf st hg;subst hP hw hK;obtain⟨xs,x,hq,hx⟩:=hg;obtain⟨its,rv,p,hz⟩:=I.tuple hq;obtain⟨u,hu,ru⟩:=rv.get hx;obtain⟨f0,f1,f2,f3,f4,f5⟩:=hf it (by simp);refine wpAny_pyNext_tuple_item st (show s.heap.IsTuple a its.toArray from p) (x:=u) (by simpa using hu) λh' st' sb=>?_
  have I1:Inv X pins σ H { s with heap:=h' }:=I.turned (t':=s.toks) (λb o hb e=>(sb.2 b hb).trans e) f0 f1 f3 f4 f5;obtain⟨o,e,c,d⟩:=id st';exact⟨u,rfl,mX (s:={ s with heap:=h' }) e c d (by decide) ⟨x,H,I1,ru,⟨rfl,λys hy=>by rw[I.tuple_inj hy hq];exact hx⟩,st',λb hb=>(hf b hb).1⟩⟩
 done:=by intro X hP hw hK hc i pins s σ H E I hf st hg;subst hP hw hK;obtain⟨xs,hq,hx⟩:=hg;obtain⟨its,rv,p,hz⟩:=I.tuple hq;obtain⟨f0,f1,f2,f3,f4,f5⟩:=hf it (by simp);have hl:=rv.length;exact wpAny_pyNext_tuple_end (I.ok.hd hc) st (show s.heap.IsTuple a its.toArray from p) (by simp;omega) λh' eb=>⟨rfl,I.turned (t':=s.toks) (λb o hb e=>eb b o hb e) f0 f1 f3 f4 f5⟩
 self:=λ_ _ _ _ _ st h=>wpAny_pyIter_tupleiter st h
theorem zq{P:Program}{w:World}{K:PySem.W.Frag}{tg:Expr}(it:Addr)(lo:Int)(n:Nat):Turn P w K tg (Itr lo n) [it] it (λi h=>IsRangeIter h it (lo+(i:Nat)*1) ((n:Int)-(i:Nat)) 1) where
 mem:=by simp
 obj:=λi h st b hb=>by
  have e:b=it:=by simpa using hb
  subst e
  exact⟨_,st,λv z=>by
   have z':Data.fields _=Data.cell v:=z
   cases z'⟩
 keep:=λi h h' st k=>k it (by simp) _ st
 item:=by
  intro X hP hw hK hc i pins s σ H E I hf st hg;subst hP hw hK;obtain⟨f0,f1,f2,f3,f4,f5⟩:=hf it (by simp);have W:=Walks.range (prog:=X.prog) (w:=X.w) (I.ok.hd hc) it lo 1 n;refine W.item i s _ _ hg st λv h' tk hv st' kk=>?_
  obtain⟨t,rfl⟩:=hv;have I1:Inv X pins σ H { s with heap:=h',toks:=tk }:=I.turned (λb o hb e=>kk b o (by simpa using hb) e) f0 f1 f3 f4 f5;refine⟨_,rfl,mX (s:={ s with heap:=h',toks:=tk }) (n:="range_iterator") st' rfl rfl (by decide) ⟨.int (lo+i),H,I1,⟨t,?_⟩,⟨rfl,rfl⟩,st',λb hb=>(hf b hb).1⟩⟩;rw[Int.mul_one]
 done:=by intro X hP hw hK hc i pins s σ H E I hf st hg;subst hP hw hK;obtain⟨f0,f1,f2,f3,f4,f5⟩:=hf it (by simp);exact wpAny_pyNext_range_end (I.ok.hd hc) st (by have:n<=i:=hg;omega) λh' eb=>⟨rfl,I.turned (t':=s.toks) (λb o hb e=>eb b o hb e) f0 f1 f3 f4 f5⟩
 self:=λ_ _ _ _ _ st h=>wpAny_pyIter_rangeiter st h
section
variable {X:Cx}{tg:Expr}
def xR(K:PySem.W.Frag)(tl:TE):TI:=λσ H R=>tl σ H λx H1=>∃a,x=.ref a/\(∃xs,SqL K H1 a xs)/\R (Itl K a) H1
def xQ(K:PySem.W.Frag)(tl:TE):TI:=λσ H R=>tl σ H λx H1=>∃a,x=.ref a/\(∃xs,SqT K H1 a xs)/\R (Itt K a) H1
theorem BO{l:Expr}{tl:TE}(hl:PE X l tl):PI X tg l (xR X.K tl):=by
 intro pins s σ H R I h;refine thn (hl pins s σ H _ I h) λv s1 ⟨x,H1,I1,r1,q1⟩=>?_
 obtain⟨a,e,⟨xs,hq⟩,q⟩:=q1;subst e;cases r1;obtain⟨its,rv,p,hz⟩:=I1.list hq;refine wpAny_pyIter_list p.isList ?_;refine⟨s1.heap.objs.size,[s1.heap.objs.size],_,_,H1,rfl,I1.kept (t':=s1.toks) λb o e=>Heap.get?_push_of_some _ e,zr a _,⟨_,Heap.get?_push_size _ rfl,rfl,rfl⟩,λb hb=>?_,q⟩;have e:b=s1.heap.objs.size:=by simpa using hb
 subst e;exact I1.fpOk (J3 _) (I1.hok.fresh (J3 _))
theorem BL{l:Expr}{tl:TE}(hl:PE X l tl):PI X tg l (xQ X.K tl):=by
 intro pins s σ H R I h;refine thn (hl pins s σ H _ I h) λv s1 ⟨x,H1,I1,r1,q1⟩=>?_
 obtain⟨a,e,⟨xs,hq⟩,q⟩:=q1;subst e;cases r1;obtain⟨its,rv,p,hz⟩:=I1.tuple hq;refine wpAny_pyIter_tuple (show s1.heap.IsTuple a its.toArray from p) ?_;refine⟨s1.heap.objs.size,[s1.heap.objs.size],_,_,H1,rfl,I1.kept (t':=s1.toks) λb o e=>Heap.get?_push_of_some _ e,zn a _,⟨_,Heap.get?_push_size _ rfl,rfl,rfl⟩,λb hb=>?_,q⟩;have e:b=s1.heap.objs.size:=by simpa using hb
 subst e;exact I1.fpOk (J3 _) (I1.hok.fresh (J3 _))
theorem Bo{pins:List (Addr×Obj)}{σ:St}{H:Hp}{s:Shared}{R:It->Hp->Prop}{E:Value->Shared->Prop}{lo hi:Int}{t u v:Tok}{tk:Nat}(I:Inv X pins σ H s)(h1 : -(2^62)<=lo)(h2:lo<2^62)(h3 : -(2^62)<=hi)(h4:hi<2^62)
 (q:R (Itr lo (hi-lo).toNat) H):wpAny (model X.prog X.w) X.A (pyIter (.ref s.heap.objs.size)) (PIE X pins σ tg R) E { s with heap:=s.heap.push { cls:=.type "range",data:=.fields #[.int lo t,.int hi u,.int 1 v] },toks:=tk }:=by
 refine wpAny_pyIter_range (IsRange.new ..) (small_one h1 h2 h3 h4) ?_;have I1:Inv X pins σ H { s with heap:=s.heap.push { cls:=.type "range",data:=.fields #[.int lo t,.int hi u,.int 1 v] },toks:=tk }:=I.kept λb o e=>Heap.get?_push_of_some _ e
 refine⟨(s.heap.push { cls:=.type "range",data:=.fields #[.int lo t,.int hi u,.int 1 v] }).objs.size,[(s.heap.push { cls:=.type "range",data:=.fields #[.int lo t,.int hi u,.int 1 v] }).objs.size],_,_,H,rfl,
  I1.kept (t':=tk) λb o e=>Heap.get?_push_of_some _ e,zq _ lo (hi-lo).toNat,?_,λb hb=>?_,q⟩
 ·have e1:lo+((0:Nat):Int)*1=lo:=by simp
  have e2:(((hi-lo).toNat:Nat):Int)-((0:Nat):Int)=Builtin.Range.rangeSize lo hi 1:=by rw[rangeSize_one];split<;>omega
  show IsRangeIter _ _ (lo+((0:Nat):Int)*1) ((((hi-lo).toNat:Nat):Int)-((0:Nat):Int)) 1;rw[e1,e2];exact Heap.get?_push_size _ rfl
 ·have e:b=(s.heap.push { cls:=.type "range",data:=.fields #[.int lo t,.int hi u,.int 1 v] }).objs.size:=by simpa using hb
  subst e;exact I1.fpOk (J3 _) (I1.hok.fresh (J3 _))
def FQ(ta:TA):TI:=λσ H R=>ta σ H λvs H1=>∃j:Int,vs=[.int j] /\ -(2^62)<=j/\j<2^62/\R (Itr 0 j.toNat) H1
theorem mr{a:Expr}{ta:TA}{p pos:Pos}(hg:Gl X "range")(hm:X.mg "range"=none)(ha:PA X [a] ta)(hs:starEach [a] X.env=[(false,eval a X.env)]:=by rfl):PI X tg (.Call (.Name "range" p) [a] [] pos) (FQ ta):=by
 intro pins s σ H R I h;refine Call_ (mO I hg hm boot_range (PyProof.Rows.callWith_type1 (thn (ha pos pins s σ H _ I h) λus s1 ⟨vs,H1,I1,r1,q1⟩=>?_) hs rfl));obtain⟨j,e,q1,q2,q⟩:=q1;subst e;cases r1 with
 |cons r rr =>cases rr;obtain⟨t,rfl⟩:=r;exact call_range_1 (Bo I1 (by omega) (by omega) q1 q2 (by simpa using q))
def zS(wi:TI)(g:TG)(tb:TS):TS:=λD σ H=>wi σ H λJ H1=>∃W:Nat->Nat->St->Hp->Prop,(∃m,W 0 m σ H1)/\∀i m σ H,W i m σ H ->
 (J.stop i H/\D.nx σ H)\/(J.go i H/\∃N:St->Hp->Prop,(∀σ' H',N σ' H'->∃m',m'<m/\W (i+1) m' σ' H')/\∀x H',J.yld i H x H'->g x σ H' λσ2 H2=>tb { D with nx:=N,ct:=N,bk:=D.nx } σ2 H2)
noncomputable def oK(fp:List Addr)(h:Heap):List (Addr×Obj):=fp.filterMap λb=>(h.get? b).map λo=>(b,o)
theorem oR{fp:List Addr}{h:Heap}{b:Addr}{o:Obj}(hb:b∈fp)(e:h.get? b=some o):(b,o)∈oK fp h:=List.mem_filterMap.mpr ⟨b,hb,by rw[e];rfl⟩
theorem DA{fp:List Addr}{h:Heap}{p:Addr×Obj}(hp:p∈oK fp h):p.1∈fp/\h.get? p.1=some p.2:=by
 obtain⟨b,hb,e⟩:=List.mem_filterMap.mp hp;cases q:h.get? b with
 |none=>rw[q]at e;cases e
 |some o =>rw[q]at e;have e':(b,o)=p:=Option.some.inj e;subst e';exact⟨hb,q⟩
theorem Inv.pinned{pins:List (Addr×Obj)}{σ:St}{H:Hp}{s:Shared}{fp:List Addr}(I:Inv X pins σ H s)(hf:∀b∈fp,fY X pins H b)(ho:∀b∈fp,∃o,s.heap.get? b=some o/\∀v,o.data≠.cell v):Inv X (pins++oK fp s.heap) σ H s :=
 I.pins_of λp hp=>(Ke.mp hp).elim (λz=>I.pin p (Kt _ z)) λz=>by obtain⟨hb,e⟩:=DA z;obtain⟨f0,f1,f2,_⟩:=hf p.1 hb;obtain⟨o,e',d⟩:=ho p.1 hb;rw[e]at e';cases e';exact⟨e,f0,f1,f2,d⟩
theorem Inv.unpinned{pins pl:List (Addr×Obj)}{σ:St}{H:Hp}{s:Shared}(I:Inv X (pins++pl) σ H s):Inv X pins σ H s:=I.pins_of λp hp=>I.pin p (Kt _ (List.mem_append_left _ hp))
theorem gF{iter:Expr}{body:List Stmt}{wi:TI}{g:TG}{tb:TS}{pos:Pos}(hp:PassesOwn (model X.prog X.w) X.A X.env X.xe)(hc:X.calm=true)(hi:PI X tg iter wi)(hg:PG X tg g)(hb:PSs X body tb)
 (hs:∀x,foldedSetIterable iter X.env x=pure x:=by intro _;rfl):PS X (.For tg iter body [] pos) (zS wi g tb):=by
 intro pins s σ H D I h;refine wpAny_For (thn (hi pins s σ H _ I h) λv s1 h1=>thn h1 λitv s2 h2=>?_) hs;obtain⟨it,fp,tn,J,H2,e,I2,T,st2,f2,W,⟨m0,w0⟩,turn⟩:=h2;subst e;have stat:∀{H':Hp},(∀b∈fp,H' b=none)->∀b∈fp,fY X pins H' b:=λhn b hb=>⟨hn b hb,(f2 b hb).2⟩
 refine codeAny_forLoop_any (λn s'=>∃i σ' H',Inv X pins σ' H' s'/\tn i s'.heap/\(∀b∈fp,H' b=none)/\W i n σ' H') ?_ m0 ⟨0,σ,H2,I2,st2,λb hb=>(f2 b hb).1,w0⟩;rintro n s3 ⟨i,σ3,H3,I3,st3,fr3,w3⟩;rcases turn i n σ3 H3 w3 with⟨stop,qn⟩ |⟨go,N,hN,step⟩
 ·refine wpAny_passesOwn hp (thn (T.done X rfl rfl rfl hc i pins s3 σ3 H3 X.xe I3 (stat fr3) st3 stop) λr s4 ⟨hr,I4⟩=>?_);subst hr;exact wpAny_execs_nil ⟨σ3,H3,I4,qn⟩
 ·refine wpAny_passesOwn hp (thn (T.item X rfl rfl rfl hc i pins s3 σ3 H3 X.xe I3 (stat fr3) st3 go) λr s4 ⟨u,hr,h4⟩=>?_);subst hr;refine wpAny_passesOwn hp (thn h4 λ_ s5 ⟨x,H5,I5,r5,y5,st5,fr5⟩=>?_);have I5':=I5.pinned (stat fr5) (T.obj _ _ st5);refine wpAny_passesOwn hp (thn (hg _ s5 σ3 H5 x u _ I5' r5 (step x H5 y5)) λ_ s6 ⟨σ6,H6,I6,q6⟩=>?_);refine wpAny_passesOwn hp (thn (hb _ s6 σ6 H6 _ I6 q6) λf s7 q7=>?_)
  have again:∀{σ7:St} {H7:Hp},Inv X (pins++oK fp s5.heap) σ7 H7 s7->N σ7 H7->∃m,m<n/\∃i σ' H',Inv X pins σ' H' s7/\tn i s7.heap/\(∀b∈fp,H' b=none)/\W i m σ' H':=λ{σ7 H7} I7 n7=>by obtain⟨m',hm,w7⟩:=hN σ7 H7 n7;refine⟨m',hm,i+1,σ7,H7,I7.unpinned,T.keep _ _ _ st5 λb hb o e=>(I7.pin (b,o) (Kt _ (Kt _ (oR hb e)))).1,λb hb=>?_,w7⟩;obtain⟨o,e,d⟩:=T.obj _ _ st5 b hb;exact(I7.pin (b,o) (Kt _ (Kt _ (oR hb e)))).2.1
  cases f with
  |next=>obtain⟨σ7,H7,I7,n7⟩:=q7;exact again I7 n7
  |cont=>obtain⟨σ7,H7,I7,n7⟩:=q7;exact again I7 n7
  |brk=>obtain⟨σ7,H7,I7,q7⟩:=q7;exact⟨σ7,H7,I7.unpinned,q7⟩
  |ret v=>obtain⟨x7,σ7,H7,I7,r7,q7⟩:=q7;exact⟨x7,σ7,H7,I7.unpinned,r7,q7⟩
end
theorem sG{K:PySem.W.Frag}{a:Addr}{xs:List V}{g:TG}{tb:TS}{D:Ends}{σ:St}{H:Hp}(Pv:Nat->St->Hp->Prop)(h0:Pv 0 σ H)(hl:∀i σ H,i<=xs.length->Pv i σ H->SqL K H a xs)
 (hs:∀i x σ H,xs[i]?=some x->Pv i σ H->g x σ H λσ2 H2=>tb { D with nx:=Pv (i+1),ct:=Pv (i+1),bk:=D.nx } σ2 H2) (hd:∀σ H,Pv xs.length σ H->D.nx σ H) :
 ∃W:Nat->Nat->St->Hp->Prop,(∃m,W 0 m σ H)/\∀i m σ H,W i m σ H ->
  ((Itl K a).stop i H/\D.nx σ H)\/((Itl K a).go i H/\∃N:St->Hp->Prop,(∀σ' H',N σ' H'->∃m',m'<m/\W (i+1) m' σ' H')/\∀x H',(Itl K a).yld i H x H'->g x σ H' λσ2 H2=>tb { D with nx:=N,ct:=N,bk:=D.nx } σ2 H2):=by
 refine⟨λi m σ H=>m=xs.length-i/\i<=xs.length/\Pv i σ H,⟨xs.length,by simp,Kj _,h0⟩,?_⟩;rintro i m σ H ⟨rfl,hi,p⟩;have q:=hl i σ H hi p;by_cases hlt:i<xs.length
 ·refine .inr ⟨⟨xs,xs[i],q,by simp[hlt]⟩,Pv (i+1),λσ' H' p'=>⟨xs.length-(i+1),by omega,rfl,hlt,p'⟩,λx H' y=>?_⟩;obtain⟨e,y⟩:=y;subst e;exact hs i x σ _ (y xs q) p
 ·have e:i=xs.length:=by omega
  subst e;exact .inl ⟨⟨xs,q,J3 _⟩,hd σ H p⟩
theorem Gi{K:PySem.W.Frag}{a:Addr}{xs:List V}{g:TG}{tb:TS}{D:Ends}{σ:St}{H:Hp}(Pv:Nat->St->Hp->Prop)(h0:Pv 0 σ H)(hl:∀i σ H,i<=xs.length->Pv i σ H->SqT K H a xs)
 (hs:∀i x σ H,xs[i]?=some x->Pv i σ H->g x σ H λσ2 H2=>tb { D with nx:=Pv (i+1),ct:=Pv (i+1),bk:=D.nx } σ2 H2) (hd:∀σ H,Pv xs.length σ H->D.nx σ H) :
 ∃W:Nat->Nat->St->Hp->Prop,(∃m,W 0 m σ H)/\∀i m σ H,W i m σ H ->
  ((Itt K a).stop i H/\D.nx σ H)\/((Itt K a).go i H/\∃N:St->Hp->Prop,(∀σ' H',N σ' H'->∃m',m'<m/\W (i+1) m' σ' H')/\∀x H',(Itt K a).yld i H x H'->g x σ H' λσ2 H2=>tb { D with nx:=N,ct:=N,bk:=D.nx } σ2 H2):=by
 refine⟨λi m σ H=>m=xs.length-i/\i<=xs.length/\Pv i σ H,⟨xs.length,by simp,Kj _,h0⟩,?_⟩;rintro i m σ H ⟨rfl,hi,p⟩;have q:=hl i σ H hi p;by_cases hlt:i<xs.length
 ·refine .inr ⟨⟨xs,xs[i],q,by simp[hlt]⟩,Pv (i+1),λσ' H' p'=>⟨xs.length-(i+1),by omega,rfl,hlt,p'⟩,λx H' y=>?_⟩;obtain⟨e,y⟩:=y;subst e;exact hs i x σ _ (y xs q) p
 ·have e:i=xs.length:=by omega
  subst e;exact .inl ⟨⟨xs,q,J3 _⟩,hd σ H p⟩
theorem pq{lo:Int}{n:Nat}{g:TG}{tb:TS}{D:Ends}{σ:St}{H:Hp}(Pv:Nat->St->Hp->Prop)(h0:Pv 0 σ H)
 (hs:∀i σ H,i<n->Pv i σ H->g (.int (lo+i)) σ H λσ2 H2=>tb { D with nx:=Pv (i+1),ct:=Pv (i+1),bk:=D.nx } σ2 H2) (hd:∀σ H,Pv n σ H->D.nx σ H) :
 ∃W:Nat->Nat->St->Hp->Prop,(∃m,W 0 m σ H)/\∀i m σ H,W i m σ H ->
  ((Itr lo n).stop i H/\D.nx σ H)\/((Itr lo n).go i H/\∃N:St->Hp->Prop,(∀σ' H',N σ' H'->∃m',m'<m/\W (i+1) m' σ' H')/\∀x H',(Itr lo n).yld i H x H'->g x σ H' λσ2 H2=>tb { D with nx:=N,ct:=N,bk:=D.nx } σ2 H2):=by
 refine⟨λi m σ H=>m=n-i/\i<=n/\Pv i σ H,⟨n,by simp,Kj _,h0⟩,?_⟩;rintro i m σ H ⟨rfl,hi,p⟩;by_cases hlt:i<n
 ·refine .inr ⟨hlt,Pv (i+1),λσ' H' p'=>⟨n-(i+1),by omega,rfl,hlt,p'⟩,λx H' y=>?_⟩;obtain⟨e,y⟩:=y;subst e y;exact hs i σ _ hlt p
 ·have e:i=n:=by omega
  subst e;exact .inl ⟨J3 _,hd σ H p⟩
abbrev R2:=V->V->Hp->VK->Prop
noncomputable def OpR(X:Cx)(f:Value->Value->Sem Value)(r:R2):Prop :=
 ∀(pins:List (Addr×Obj)) (s:Shared) (σ:St) (H:Hp) (x y:V) (v u:Value) (Q:VK),Inv X pins σ H s->RelV x v->RelV y u->r x y H Q ->
  wpAny (model X.prog X.w) X.A (f v u) (EP X pins σ Q) X.xe s
noncomputable def UnR(X:Cx)(f:Value->Sem Value)(r:V->Hp->VK->Prop):Prop :=
 ∀(pins:List (Addr×Obj)) (s:Shared) (σ:St) (H:Hp) (x:V) (v:Value) (Q:VK),Inv X pins σ H s->RelV x v->r x H Q ->
  wpAny (model X.prog X.w) X.A (f v) (EP X pins σ Q) X.xe s
noncomputable def cL(X:Cx)(f:Value)(r:List V->Hp->VK->Prop):Prop :=
 ∀(pins:List (Addr×Obj)) (s:Shared) (σ:St) (H:Hp) (xs:List V) (us:List Value) (Q:VK),Inv X pins σ H s->Vals xs us->r xs H Q ->
  wpAny (model X.prog X.w) X.A (call f us) (EP X pins σ Q) X.xe s
def tOp(r:R2)(ta tb:TE):TE:=λσ H Q=>ta σ H λx H1=>tb σ H1 λy H2=>r x y H2 Q
def tUn(r:V->Hp->VK->Prop)(ta:TE):TE:=λσ H Q=>ta σ H λx H1=>r x H1 Q
def rI(C:Int->Int->Prop)(g:Int->Int->V):R2:=λx y H Q=>∃i j,x=.int i/\y=.int j/\C i j/\Q (g i j) H
def rI0(g:Int->Int->V):R2:=λx y H Q=>∃i j,x=.int i/\y=.int j/\Q (g i j) H
noncomputable def rU(g:Int->V):V->Hp->VK->Prop:=λx H Q=>∃i,x=.int i/\Q (g i) H
section
variable {X:Cx}{a b c:Expr}{ta tb tc:TE}{pos:Pos}
theorem tV(ha:PE X a ta)(hb:PE X b tb){pins:List (Addr×Obj)}{s:Shared}{σ:St}{H:Hp}{R:V->V->Hp->Prop}(I:Inv X pins σ H s)
 (h:ta σ H λx H1=>tb σ H1 λy H2=>R x y H2) {Q:Value->Shared->Prop} {f:Value->Value->Sem Value}
 (hf:∀v u s2 x y H2,Inv X pins σ H2 s2->RelV x v->RelV y u->R x y H2->wpAny (model X.prog X.w) X.A (f v u) Q X.xe s2) :
 wpAny (model X.prog X.w) X.A (eval a X.env) (λv s₁=>wpAny (model X.prog X.w) X.A (eval b X.env) (λu s₂=>wpAny (model X.prog X.w) X.A (f v u) Q X.xe s₂) X.xe s₁) X.xe s:=by
 refine thn (ha pins s σ H _ I h) λv s1 ⟨x,H1,I1,r1,q1⟩=>?_
 refine thn (hb pins s1 σ H1 _ I1 q1) λu s2 ⟨y,H2,I2,r2,q2⟩=>?_
 exact hf v u s2 x y H2 I2 r1 r2 q2
theorem aj{op:Operator}{r:R2}(ho:OpR X (binaryOp op) r)(ha:PE X a ta)(hb:PE X b tb):PE X (.BinOp a op b pos) (tOp r ta tb):=by intro pins s σ H Q I h;exact wpAny_BinOp (tV ha hb I h λv u s2 x y H2 I2 rx ry q=>ho pins s2 σ H2 x y v u Q I2 rx ry q)
theorem da{op:UnaryOp}{r:V->Hp->VK->Prop}(ho:UnR X (unaryOp op) r)(ha:PE X a ta):PE X (.UnaryOp op a pos) (tUn r ta):=by intro pins s σ H Q I h;exact UnaryOp_ (thn (ha pins s σ H _ I h) λv s1 ⟨x,H1,I1,r1,q1⟩=>ho pins s1 σ H1 x v Q I1 r1 q1)
theorem opI{f:Value->Value->Sem Value}{C:Int->Int->Prop}{g:Int->Int->Int}
 (rule:∀(i j:Int) (t u:Tok) (s:Shared) (Q:Value->Shared->Prop) (E:Value->Shared->Prop),C i j->Q (.int (g i j) s.toks) { s with toks:=s.toks+1 }->wpAny (model X.prog X.w) X.A (f (.int i t) (.int j u)) Q E s) :
 OpR X f (rI C λi j=>.int (g i j)):=by
 intro pins s σ H x y v u Q I rx ry h;obtain⟨i,j,rfl,rfl,hc,q⟩:=h;obtain⟨t,rfl⟩:=rx;obtain⟨t',rfl⟩:=ry;exact rule i j t t' s _ _ hc ⟨.int (g i j),H,I.tok _,⟨_,rfl⟩,q⟩
theorem wC{f:Value->Value->Sem Value}{g:Int->Int->Int}
 (rule:∀(i j:Int) (t u:Tok) (s:Shared) (Q:Value->Shared->Prop) (E:Value->Shared->Prop),Q (.int (g i j) s.toks) { s with toks:=s.toks+1 }->wpAny (model X.prog X.w) X.A (f (.int i t) (.int j u)) Q E s) :
 OpR X f (rI0 λi j=>.int (g i j)):=by
 intro pins s σ H x y v u Q I rx ry h;obtain⟨i,j,rfl,rfl,q⟩:=h;obtain⟨t,rfl⟩:=rx;obtain⟨t',rfl⟩:=ry;exact rule i j t t' s _ _ ⟨.int (g i j),H,I.tok _,⟨_,rfl⟩,q⟩
theorem lz{f:Value->Value->Sem Value}{g:Int->Int->Bool}
 (rule:∀(i j:Int) (t u:Tok) (s:Shared) (Q:Value->Shared->Prop) (E:Value->Shared->Prop),Q (.bool (g i j)) s->wpAny (model X.prog X.w) X.A (f (.int i t) (.int j u)) Q E s) :
 OpR X f (rI0 λi j=>.bl (g i j)):=by
 intro pins s σ H x y v u Q I rx ry h;obtain⟨i,j,rfl,rfl,q⟩:=h;obtain⟨t,rfl⟩:=rx;obtain⟨t',rfl⟩:=ry;exact rule i j t t' s _ _ ⟨.bl (g i j),H,I,rfl,q⟩
def JW(i j:Int):Prop:=0<=j/\j<=1000000/\i.natAbs<2^64
def CMul(i j:Int):Prop:=(-(2^64)<i/\i<2^64)\/(-(2^64)<j/\j<2^64)
theorem CMul.ok{i j:Int}(h:CMul i j):IntMulOk i j:=by
 rcases h with⟨h1,h2⟩ |⟨h1,h2⟩
 ·exact .of_left (intBits_le_64 h1 h2)
 ·exact .of_right (intBits_le_64 h1 h2)
theorem cG:OpR X (binaryOp .Add) (rI0 λi j=>.int (i+j)):=wC λ_ _ _ _ _ _ _ q=>add_int q
theorem gJ:OpR X (binaryOp .Sub) (rI0 λi j=>.int (i-j)):=wC λ_ _ _ _ _ _ _ q=>sub_int q
theorem B3:OpR X (binaryOp .Mod) (rI (λ_ j=>0<j) λi j=>.int (i%j)):=opI λi j _ _ _ _ _ hc q=>by have h1:(0:Int)<j:=hc;exact mod_int' (by omega) (by rw[Int.fmod_eq_emod_of_nonneg i (by omega)];exact q)
theorem wy:OpR X (binaryOp .Pow) (rI JW λi j=>.int (i^j.toNat)):=opI λ_ _ _ _ _ _ _ hc q=>pow_int_small hc.1 hc.2.1 hc.2.2 q
theorem unI{f:Value->Sem Value}{g:Int->Int}
 (rule:∀(i:Int) (t:Tok) (s:Shared) (Q:Value->Shared->Prop) (E:Value->Shared->Prop),Q (.int (g i) s.toks) { s with toks:=s.toks+1 }->wpAny (model X.prog X.w) X.A (f (.int i t)) Q E s) :
 UnR X f (rU λi=>.int (g i)):=by
 intro pins s σ H x v Q I rx h;obtain⟨i,rfl,q⟩:=h;obtain⟨t,rfl⟩:=rx;exact rule i t s _ _ ⟨.int (g i),H,I.tok _,⟨_,rfl⟩,q⟩
theorem cX:UnR X (unaryOp .USub) (rU λi=>.int (-i)):=unI λ_ _ _ _ _ q=>neg_int q
end
noncomputable def vT:V->V->Bool
 |.non,.non=>true |.non,.int _=>true |.int _,.non=>true |.non,.bl _=>true |.bl _,.non=>true |.non,.str _=>true |.str _,.non=>true
 |.int _,.int _=>true |.bl _,.bl _=>true |.str _,.str _=>true |.byt _,.byt _=>true
 |.int _,.str _=>true |.str _,.int _=>true |.bl _,.str _=>true |.str _,.bl _=>true
 |_,_=>false
def rEq:R2:=λx y H Q=>vT x y=true/\Q (.bl (decide (x=y))) H
def rNe:R2:=λx y H Q=>vT x y=true/\Q (.bl (!decide (x=y))) H
theorem yp{i j:Int}:decide (V.int i=V.int j)=(i == j):=by rw[Kv];simp
theorem yr{i j:Bool}:decide (V.bl i=V.bl j)=(i == j):=by rw[Kv];simp
theorem yo{i j:Str}:decide (V.str i=V.str j)=(i == j):=by rw[Kv];simp
theorem yq{i j:Array UInt8}:decide (V.byt i=V.byt j)=(i.toList == j.toList):=by rw[Kv];cases i;cases j;simp
section
variable {X:Cx}{a b c:Expr}{ta tb tc:TE}{pos:Pos}
theorem bn{pins:List (Addr×Obj)}{σ:St}{H:Hp}{s:Shared}{Q:VK}{k k':Bool}(I:Inv X pins σ H s)(q:Q (.bl k) H)(e:k=k'):EP X pins σ Q (.bool k') s:=by subst e;exact⟨.bl k,H,I,rfl,q⟩
theorem bA:OpR X (compareOp .Eq) rEq:=by
 intro pins s σ H x y v u Q I rx ry h;obtain⟨hs,q⟩:=h;cases x with
 |non =>
  cases rx;cases y with
  |non=>cases ry;exact PySem.EqNone.eq_none_none (bn I q (by simp))
  |bl j=>cases ry;exact PySem.EqNone.eq_none_bool (bn I q (by simp))
  |int j=>obtain⟨t',rfl⟩:=ry;exact PySem.EqNone.eq_none_int (bn I q (by simp))
  |str j=>obtain⟨t',rfl⟩:=ry;exact PySem.EqNone.eq_none_str (bn I q (by simp))
  |_=>exact absurd (show false=true from hs) Ka
 |bl i =>
  cases rx;cases y with
  |non=>cases ry;exact PySem.EqNone.eq_bool_none (bn I q (by simp))
  |bl j=>cases ry;exact eq_bool (bn I q yr)
  |str j=>obtain⟨t',rfl⟩:=ry;exact PySem.EqMixed.eq_bool_str (bn I q (by simp))
  |_=>exact absurd (show false=true from hs) Ka
 |int i =>
  obtain⟨t,rfl⟩:=rx;cases y with
  |non=>cases ry;exact PySem.EqNone.eq_int_none (bn I q (by simp))
  |int j=>obtain⟨t',rfl⟩:=ry;exact eq_int (bn I q yp)
  |str j=>obtain⟨t',rfl⟩:=ry;exact PySem.EqMixed.eq_int_str (bn I q (by simp))
  |_=>exact absurd (show false=true from hs) Ka
 |str i =>
  obtain⟨t,rfl⟩:=rx;cases y with
  |non=>cases ry;exact PySem.EqNone.eq_str_none (bn I q (by simp))
  |bl j=>cases ry;exact PySem.EqMixed.eq_str_bool (bn I q (by simp))
  |int j=>obtain⟨t',rfl⟩:=ry;exact PySem.EqMixed.eq_str_int (bn I q (by simp))
  |str j=>obtain⟨t',rfl⟩:=ry;exact eq_str (bn I q yo)
  |_=>exact absurd (show false=true from hs) Ka
 |byt i =>
  obtain⟨t,rfl⟩:=rx;cases y with
  |byt j=>obtain⟨t',rfl⟩:=ry;exact PySem.W.eq_bytes (bn I q yq)
  |_=>exact absurd (show false=true from hs) Ka
 |_=>cases y<;>exact absurd (show false=true from hs) Ka
theorem iZ:OpR X (compareOp .NotEq) rNe:=by
 intro pins s σ H x y v u Q I rx ry h;obtain⟨hs,q⟩:=h;cases x with
 |non =>
  cases rx;cases y with
  |non=>cases ry;exact PySem.EqNone.ne_none_none (bn I q (by simp))
  |bl j=>cases ry;exact PySem.EqNone.ne_none_bool (bn I q (by simp))
  |int j=>obtain⟨t',rfl⟩:=ry;exact PySem.EqNone.ne_none_int (bn I q (by simp))
  |str j=>obtain⟨t',rfl⟩:=ry;exact PySem.EqNone.ne_none_str (bn I q (by simp))
  |_=>exact absurd (show false=true from hs) Ka
 |bl i =>
  cases rx;cases y with
  |non=>cases ry;exact PySem.EqNone.ne_bool_none (bn I q (by simp))
  |bl j=>cases ry;exact ne_bool (bn I q (congrArg not yr))
  |str j=>obtain⟨t',rfl⟩:=ry;exact PySem.EqMixed.ne_bool_str (bn I q (by simp))
  |_=>exact absurd (show false=true from hs) Ka
 |int i =>
  obtain⟨t,rfl⟩:=rx;cases y with
  |non=>cases ry;exact PySem.EqNone.ne_int_none (bn I q (by simp))
  |int j=>obtain⟨t',rfl⟩:=ry;exact ne_int (bn I q (congrArg not yp))
  |str j=>obtain⟨t',rfl⟩:=ry;exact PySem.EqMixed.ne_int_str (bn I q (by simp))
  |_=>exact absurd (show false=true from hs) Ka
 |str i =>
  obtain⟨t,rfl⟩:=rx;cases y with
  |non=>cases ry;exact PySem.EqNone.ne_str_none (bn I q (by simp))
  |bl j=>cases ry;exact PySem.EqMixed.ne_str_bool (bn I q (by simp))
  |int j=>obtain⟨t',rfl⟩:=ry;exact PySem.EqMixed.ne_str_int (bn I q (by simp))
  |str j=>obtain⟨t',rfl⟩:=ry;exact ne_str (bn I q (congrArg not yo))
  |_=>exact absurd (show false=true from hs) Ka
 |byt i =>
  obtain⟨t,rfl⟩:=rx;cases y with
  |byt j=>obtain⟨t',rfl⟩:=ry;exact PySem.W.ne_bytes (bn I q (congrArg not yq))
  |_=>exact absurd (show false=true from hs) Ka
 |_=>cases y<;>exact absurd (show false=true from hs) Ka
theorem d7:OpR X (compareOp .Lt) (rI0 λi j=>.bl (decide (i<j))):=lz λ_ _ _ _ _ _ _ q=>lt_int q
theorem re:OpR X (compareOp .LtE) (rI0 λi j=>.bl (decide (i<=j))):=lz λ_ _ _ _ _ _ _ q=>le_int q
theorem dq:OpR X (compareOp .Gt) (rI0 λi j=>.bl (decide (j<i))):=lz λ_ _ _ _ _ _ _ q=>gt_int q
theorem B5:OpR X (compareOp .GtE) (rI0 λi j=>.bl (decide (j<=i))):=lz λ_ _ _ _ _ _ _ q=>ge_int q
theorem rf:OpR X (compareOp .In) (λx y H Q=>∃i j,x=.str i/\y=.str j/\Q (.bl (!(Builtin.Str.occurrences j i 0 j.length 1).isEmpty)) H):=by intro pins s σ H x y v u Q I rx ry h;obtain⟨i,j,rfl,rfl,q⟩:=h;obtain⟨t,rfl⟩:=rx;obtain⟨t',rfl⟩:=ry;exact in_str (bn I q rfl)
theorem aA(b:Expr){op:CmpOp}(h:op≠.In:=by decide)(h2:op≠.NotIn:=by decide):behindInMarks op b=false:=by
 have e1:(op == CmpOp.In)=false:=by cases op<;>first |rfl |exact absurd rfl h
 have e2:(op == CmpOp.NotIn)=false:=by cases op<;>first |rfl |exact absurd rfl h2
 cases b<;>simp[behindInMarks,e1,e2]
theorem bQ{op:CmpOp}{r:R2}(ho:OpR X (compareOp op) r)(ha:PE X a ta)(hb:PE X b tb)(hm:behindInMarks op b=false):PE X (.Compare a [op] [b] pos) (tOp r ta tb):=by intro pins s σ H Q I h;exact wpAny_Compare1 (tV ha hb I h λv u s2 x y H2 I2 rx ry q=>ho pins s2 σ H2 x y v u Q I2 rx ry q) hm
def zK(t:TE):TT:=λσ H Q=>t σ H λx H'=>∃k,x=.bl k/\Q k H'
theorem aF{op:CmpOp}{r:R2}(ho:OpR X (compareOp op) r)(ha:PE X a ta)(hb:PE X b tb)(hm:behindInMarks op b=false):PT X (.Compare a [op] [b] pos) (zK (tOp r ta tb)):=by
 intro pins s σ H Q I h
 refine wpAny_isTrue_Compare1 (thn (ha pins s σ H _ I h) λv s1 ⟨x,H1,I1,r1,q1⟩=>thn (hb pins s1 σ H1 _ I1 q1) λu s2 ⟨y,H2,I2,r2,q2⟩ =>thn (ho pins s2 σ H2 x y v u _ I2 r1 r2 q2) λc s3 ⟨z,H3,I3,r3,k,e,q3⟩=>?_) hm
 subst e;cases r3;exact wpAny_truthy_bool ⟨H3,I3,q3⟩
theorem lF:(sizeLine:Nat)<2^63:=by rw[sizeLine_eq];decide
theorem aR:OpR X (binaryOp .Add) (λx y H Q=>∃i j,x=.str i/\y=.str j/\i.length+j.length<=sizeLine/\Q (.str (i++j)) H):=by intro pins s σ H x y v u Q I rx ry h;obtain⟨i,j,rfl,rfl,hz,q⟩:=h;obtain⟨t,rfl⟩:=rx;obtain⟨t',rfl⟩:=ry;exact add_str (λt' tk=>⟨.str (i++j),H,I.tok _,⟨_,rfl⟩,q⟩) hz
theorem fZ{x:V}{us:List Value}(r:Vals [x] us):∃u,us=[u]/\RelV x u:=by
 cases r with
 |cons r1 r2=>cases r2;exact⟨_,rfl,r1⟩
theorem zl{x y:V}{us:List Value}(r:Vals [x,y] us):∃u w',us=[u,w']/\RelV x u/\RelV y w':=by
 cases r with
 |cons r1 r2 =>
  cases r2 with
  |cons r3 r4=>cases r4;exact⟨_,_,rfl,r1,r3⟩
theorem lO:cL X (.builtin "abs") (λxs H Q=>∃i,xs=[.int i]/\Q (.int (if i<0 then -i else i)) H):=by intro pins s σ H xs us Q I r h;obtain⟨i,rfl,q⟩:=h;obtain⟨u,rfl,t,rfl⟩:=fZ r;exact call_abs_int λu tk=>⟨.int (if i<0 then -i else i),H,I.tok _,⟨_,rfl⟩,q⟩
theorem yx(hc:X.calm=true):cL X (.builtin "max") (λxs H Q=>∃i j,xs=[.int i,.int j]/\Q (.int (if j>i then j else i)) H):=by
 intro pins s σ H xs us Q I r h;obtain⟨i,j,rfl,q⟩:=h;obtain⟨u,w',rfl,⟨t,rfl⟩,⟨t',rfl⟩⟩:=zl r;refine max_two_ints (I.ok.hd hc) λh' tk k=>⟨_,H,I.kept k,?_,q⟩
 by_cases hj:j>i
 ·rw[if_pos hj,if_pos hj];exact⟨_,rfl⟩
 ·rw[if_neg hj,if_neg hj];exact⟨_,rfl⟩
theorem tU:cL X (.type "int") (λxs H Q=>(∃i,xs=[.int i]/\Q (.int i) H)\/∃k,xs=[.bl k]/\Q (.int (if k then 1 else 0)) H):=by
 intro pins s σ H xs us Q I r h;rcases h with⟨i,rfl,q⟩ |⟨k,rfl,q⟩
 ·obtain⟨u,rfl,t,rfl⟩:=fZ r;exact call_int_int ⟨.int i,H,I,⟨_,rfl⟩,q⟩
 ·obtain⟨u,rfl,r1⟩:=fZ r;cases r1;exact call_int_bool ⟨.int (if k then 1 else 0),H,I.tok _,⟨_,rfl⟩,q⟩
theorem gX:cL X (.type "str") (λxs H Q=>∃i,xs=[.int i]/\i.natAbs.log2<1920/\Q (.str (toString i)) H):=by intro pins s σ H xs us Q I r h;obtain⟨i,rfl,hz,q⟩:=h;obtain⟨u,rfl,t,rfl⟩:=fZ r;exact PySem.P.str_of_int hz ⟨.str _,H,I.tok _,⟨_,rfl⟩,q⟩
end
structure ObjM(h:Heap)(x dx C:Addr)(mA:Str->Option Value):Prop where
 obj:h.get? x=some (PySem.W.instObj C dx)
 ns:h.Ns1 dx mA
 ne:dx≠x
theorem Ey{h:Heap}{dx:Addr}{mA:Str->Option Value}(n:h.Ns1 dx mA):∃od,h.get? dx=some od/\∀name,PySem.W.lookIn name od=some (mA name):=by
 obtain⟨o,es,ep,ho,hd,hk,_,hm⟩:=n;refine⟨o,ho,λname=>?_⟩;have e:=hm name;unfold nsFind findBy at e
 rw[<- Array.find?_toList]at e;unfold PySem.W.lookIn;rw[hd];dsimp only
 split
 ·rename_i y q
  rw[q]at e;exact congrArg some e
 ·rename_i q
  rw[q]at e
  have a:es.toList.any (·.refKey)=false:=by rw[List.any_eq_false];intro y hy;obtain⟨z,t,hkey⟩:=hk y (Array.mem_toList_iff.mp hy);simp[DictEntry.refKey,hkey]
  have a':¬es.toList.any (·.refKey)=true:=by rw[a];exact Ka
  rw[if_neg a'];exact congrArg some e
theorem ObjM.look{h:Heap}{x dx C:Addr}{mA:Str->Option Value}(I:ObjM h x dx C mA):∃od,PySem.W.InstAt h x (PySem.W.instObj C dx) C (some od)/\∀name,PySem.W.lookIn name od=some (mA name) :=
 let⟨od,ho,hl⟩:=Ey I.ns
 ⟨od,⟨I.obj,rfl,rfl,ho⟩,hl⟩
section
variable {prog:Program}{w:World}{A:Around}{E:Value->Shared->Prop}{s:Shared}{K:PySem.W.Frag}{x dx C f:Addr}{mA:Str->Option Value}{name:Str}{v:Value}
theorem Gc{expr:Bool}{Q:Value->Shared->Prop}(X:K.In s.heap)(I:ObjM s.heap x dx C mA)(hg:PySem.W.plainGet K C name=true)(hh:PySem.W.hasDictIn K C=true)
 (ha:PySem.W.findIn K (.ref C) name=some none) (hv:mA name=some v) (hv':PySem.W.handedIn v=true) (h:Q v { s with toks:=s.toks+1 }) :
 wpAny (model prog w) A (getAttr (.ref x) name expr) Q E s:=by
 obtain⟨od,J,hl⟩:=I.look;exact PySem.W.get_value X J (PySem.W.plainGet_of hg).1 (PySem.W.findObj_own hh ha rfl (by rw[hl,hv])) hv' h
theorem Gb{pl:Sem Bool}{Q:Value×List Value->Shared->Prop}(X:K.In s.heap)(I:ObjM s.heap x dx C mA)(hg:PySem.W.plainGet K C name=true)
 (hf:PySem.W.findIn K (.ref C) name=some (some (.ref f))) (ht:PySem.W.isFn K (.ref f)=true) (hv:mA name=none) (h:Q (.ref f,[.ref x]) s) :
 wpAny (model prog w) A (getMethod (.ref x) name pl) Q E s:=by
 obtain⟨od,J,hl⟩:=I.look;exact PySem.W.method_fn X J (PySem.W.plainGet_of hg).1 (PySem.W.plainGet_of hg).2 hf (beq_iff_eq.mp ht) (by show(PySem.W.lookIn name od).map (·.isSome)=some false;rw[hl,hv];rfl) h
theorem An{ns:List Str}{Q:Unit->Shared->Prop}(X:K.In s.heap)(I:ObjM s.heap x dx C mA)
 (hs:PySem.W.findIn K (.ref C) "__setattr__"=some (some (.builtin "object.__setattr__"))) (hp:PySem.W.plainOver K C=true) (ht:PySem.W.takerIn K C name=some none) (hh:PySem.W.hasDictIn K C=true)
 (hw:PySem.Within mA ns) (hsz:ns.length<=sizeLine)
 (h:∀h',ObjM h' x dx C (λy=>if y=name then some v else mA y)->Heap.SameBut dx s.heap h'->Q () { s with heap:=h',toks:=s.toks+2 }) :
 wpAny (model prog w) A (setAttr (.ref x) name v) Q E s:=by
 obtain⟨od,J,hl⟩:=I.look;refine PySem.W.set_plain X J hs (PySem.W.osa_open (s:={ s with toks:=s.toks+1 }) (r:=none) X J hp ht λb=>?_);obtain⟨cd,hc,hd'⟩:=PySem.W.any_some hh;have hx:s.heap.get? x=some ⟨.ref C,some dx,.plain,#[]⟩:=I.obj;refine wpAny_bind (wpAny_pure (wpAny_bind (wpAny_bind (wpAny_loadPart hx (wpAny_bind (PySem.W.Looks.here (s:={ s with toks:=s.toks+1 }) (PySem.W.looks_clsIn X hc) ?_))))));rw[hd'];refine wpAny_pure (a:=some dx) (wpAny_bind (wpAny_pure (wpAny_bind ?_)));refine wpAny_nsSet1 (s:={ s with toks:=s.toks+1 }) I.ns λh' hn2 hs2=>?_
 obtain⟨oD,esD,epD,hoD,hdD,hcD⟩:=hn2.count (PySem.Within.cons name v hw);refine wpAny_bind (wpAny_lookBehind hoD (by rw[hdD];exact pastItsLine_dict (J7 hcD (by rw[J4];omega))) ?_);exact wpAny_pure (h _ ⟨(hs2.2 _ (Ne.symm I.ne)).trans I.obj,hn2,I.ne⟩ hs2)
theorem Ea{R:Result->Shared->Prop}{vs:List Value}{kw:List (Str×Value)}(X:K.In s.heap)(hm:PySem.W.makesIn K C=true)
 (hi:PySem.W.findIn K (.ref C) "__init__"=some (some (.ref f))) (hf:PySem.W.typeIn K (.ref f)=some (.type "function"))
 (h:codeAny (model prog w) (A.under (.builtin "type.__call__" ⟨.ref C::vs,kw⟩)) (.call (.ref f) ⟨.ref (s.heap.objs.size+1)::vs,kw⟩) (PySem.W.InitBack (s.heap.objs.size+1) R)
   { s with heap:=(s.heap.push PySem.W.emptyDict).push (PySem.W.instObj C s.heap.objs.size) }) :
 codeAny (model prog w) A (.call (.ref C) ⟨vs,kw⟩) R s:=by
 obtain⟨hh,g,d,t,os⟩:=s;exact PySem.W.make_core (PySem.W.makes_of X hm) (PySem.W.looks_findIn X hi) (λself=>PySem.W.bind_fn X self hf) (.inl rfl) h
end
noncomputable def aT(f:Str)(v:V):List (Str×V)->List (Str×V)
 | []=>[(f,v)]
 | (g,x)::r=>if g=f then(g,v)::r else(g,x)::aT f v r
theorem ba(f g:Str)(v:V):∀fs:List (Str×V),(aT f v fs).lookup g=if g=f then some v else fs.lookup g
 | []=>by
  show List.lookup g [(f,v)]=_;by_cases h:g=f
  ·have hb:(g == f)=true:=beq_iff_eq.mpr h;simp only[List.lookup,hb,if_pos h]
  ·have hb:(g == f)=false:=beq_eq_false_iff_ne.mpr h;simp only[List.lookup,hb,if_neg h]
 | (k,x)::r=>by
  have ih:=ba f g v r;rw[show aT f v ((k,x)::r)=(if k=f then(k,v)::r else(k,x)::aT f v r)from rfl];by_cases hk:k=f
  ·rw[if_pos hk];by_cases h:g=k
   ·have hb:(g == k)=true:=beq_iff_eq.mpr h;simp only[List.lookup,hb,if_pos (h.trans hk)]
   ·have hb:(g == k)=false:=beq_eq_false_iff_ne.mpr h;simp only[List.lookup,hb,if_neg (λe:g=f=>h (e.trans hk.symm))]
  ·rw[if_neg hk];by_cases h:g=k
   ·have hb:(g == k)=true:=beq_iff_eq.mpr h;simp only[List.lookup,hb,if_neg (λe:g=f=>hk (h.symm.trans e))]
   ·have hb:(g == k)=false:=beq_eq_false_iff_ne.mpr h;simp only[List.lookup,hb];exact ih
theorem sj(f:Str)(v:V):∀fs:List (Str×V),f∈(aT f v fs).map (·.1)/\∀g,g∈fs.map (·.1)->g∈(aT f v fs).map (·.1)
 | []=>⟨by simp[aT],λg h=>by simp at h⟩
 | (k,x)::r=>by
  obtain⟨i1,i2⟩:=sj f v r;rw[show aT f v ((k,x)::r)=(if k=f then(k,v)::r else(k,x)::aT f v r)from rfl];by_cases hk:k=f
  ·rw[if_pos hk];subst hk;exact⟨by simp,λg h=>by simpa using h⟩
  ·rw[if_neg hk];refine⟨?_,λg h=>?_⟩
   ·rw[Kw];exact KF _ i1
   ·rw[Kw]at h ⊢;rcases J8.mp h with e |e
    ·exact J8.mpr (.inl e)
    ·exact KF _ (i2 g e)
theorem sh(f:Str)(v:V):∀fs:List (Str×V),(aT f v fs).length<=fs.length+1
 | []=>by simp[aT]
 | (k,x)::r=>by
  have ih:=sh f v r;rw[show aT f v ((k,x)::r)=(if k=f then(k,v)::r else(k,x)::aT f v r)from rfl];by_cases hk:k=f
  ·rw[if_pos hk,J4,J4];omega
  ·rw[if_neg hk,J4,J4];omega
theorem RelO.some_of{v:V}{o:Option Value}(r:RelO (some v) o):∃u,o=some u/\RelV v u:=by
 cases o with
 |none=>exact(show False from r).elim
 |some u=>exact⟨u,rfl,r⟩
theorem RelO.none_of{o:Option Value}(r:RelO none o):o=none:=by
 cases o with
 |none=>rfl
 |some u=>exact(show False from r).elim
theorem FV{v:V}{u:Value}(r:RelV v u):PySem.W.handedIn u=true:=by
 cases v with
 |non=>cases(show u=Value.none from r);rfl
 |bl b=>cases(show u=Value.bool b from r);rfl
 |int i=>obtain⟨t,e⟩:=(show ∃t,u=Value.int i t from r);cases e;rfl
 |str x=>obtain⟨t,e⟩:=(show ∃t,u=Value.str x t from r);cases e;rfl
 |byt b=>obtain⟨t,e⟩:=(show ∃t,u=Value.bytes b t from r);cases e;rfl
 |flt b=>obtain⟨t,e⟩:=(show ∃t,u=Value.float b t from r);cases e;rfl
 |ref a=>cases(show u=Value.ref a from r);rfl
 |ty n=>cases(show u=Value.type n from r);rfl
section
variable {P:Program}{w:World}{H H':Hp}{h h':Heap}{a C dx:Addr}{fs fs':List (Str×V)}
theorem pc(hok:HOk P w H h)(e:H a=some (.ins C dx fs)):∃mA,ObjM h a dx C mA/\(∀f,RelO (fs.lookup f) (mA f))/\PySem.Within mA (fs.map (·.1))/\fs.length<=1000/\H dx=some (.own a):=by obtain⟨d,z,ne,ob,mA,n,r,q⟩:=(show ObjOk P w H h a (.ins C dx fs)from hok a _ e);exact⟨mA,⟨ob,n,ne⟩,r,q,z,d⟩
end
structure Cls(K:PySem.W.Frag)(C:Addr):Prop where
 pg:PySem.W.plainGet K C Str.empty=true
 hd:PySem.W.hasDictIn K C=true
 po:PySem.W.plainOver K C=true
 sa:PySem.W.findIn K (.ref C) "__setattr__"=some (some (.builtin "object.__setattr__"))
theorem Cls.get{K:PySem.W.Frag}{C:Addr}(c:Cls K C)(f:Str):PySem.W.plainGet K C f=true:=c.pg
def NoAttr(K:PySem.W.Frag)(C:Addr)(f:Str):Prop:=PySem.W.findIn K (.ref C) f=some none
theorem NoAttr.taker{K:PySem.W.Frag}{C:Addr}{f:Str}(n:NoAttr K C f):PySem.W.takerIn K C f=some none:=by unfold PySem.W.takerIn;rw[show PySem.W.findIn K (.ref C) f=some none from n];rfl
structure Meth(K:PySem.W.Frag)(C:Addr)(m:Str)(f:Addr):Prop where
 at_:PySem.W.findIn K (.ref C) m=some (some (.ref f))
 fn:PySem.W.isFn K (.ref f)=true
 kp:PySem.W.keepIn K (.ref f)=true
section
variable {X:Cx}{pins:List (Addr×Obj)}{σ:St}{H:Hp}{s:Shared}{a C dx:Addr}{fs:List (Str×V)}{f:Str}{v:V}{A:Around}{E:Value->Shared->Prop}
theorem Ga{b:Bool}{Q:Value->Shared->Prop}(I:Inv X pins σ H s)(e:H a=some (.ins C dx fs))(c:Cls X.K C)(n:NoAttr X.K C f)(l:fs.lookup f=some v)
 (h:∀u s',Inv X pins σ H s'->RelV v u->Q u s'):wpAny (model X.prog X.w) A (getAttr (.ref a) f b) Q E s:=by
 obtain⟨mA,O,r,_,_,_⟩:=pc I.hok e;obtain⟨u,hu,ru⟩:=RelO.some_of (v:=v) (o:=mA f) (by rw[<- l];exact r f);exact Gc I.kIn O (c.get f) c.hd n hu (FV ru) (h u _ (I.tok _) ru)
theorem sF{m:Str}{g:Addr}{pl:Sem Bool}{Q:Value×List Value->Shared->Prop}(I:Inv X pins σ H s)(e:H a=some (.ins C dx fs))(c:Cls X.K C)(k:Meth X.K C m g)(l:fs.lookup m=none)
 (h:Q (.ref g,[.ref a]) s):wpAny (model X.prog X.w) A (getMethod (.ref a) m pl) Q E s:=by
 obtain⟨mA,O,r,_,_,_⟩:=pc I.hok e;have hn:mA m=none:=RelO.none_of (by rw[<- l];exact r m);exact Gb I.kIn O (c.get m) k.at_ k.fn hn h
theorem Al{y:V}{u:Value}{Q:Unit->Shared->Prop}(I:Inv X pins σ H s)(e:H a=some (.ins C dx fs))(c:Cls X.K C)(n:NoAttr X.K C f)(hl:fs.length<1000)(ry:RelV y u)
 (h:∀s',Inv X pins σ (upd H a (.ins C dx (aT f y fs))) s'->Q () s'):wpAny (model X.prog X.w) A (setAttr (.ref a) f u) Q E s:=by
 obtain⟨mA,O,r,wi,_,ho⟩:=pc I.hok e;have hz:(fs.map (·.1)).length<=sizeLine:=by rw[J6,sizeLine_eq];omega
 refine An I.kIn O c.sa c.po n.taker c.hd wi hz λh' O' sb=>h _ ?_
 have hd:∃o,h'.get? dx=some o:=let⟨o,_,_,e',_⟩:=O'.ns;⟨o,e'⟩;refine I.write (x:=a) (e:=dx) (by rw[e];exact True.intro) (.inr ho) (λb q hb z=>(sb.2 b hb).trans z) hd ?_;refine⟨by rw[upd_ne O.ne];exact ho,?_,O.ne,O'.obj,_,O'.ns,λg=>?_,λg hg=>?_⟩
 ·have:=sh f y fs;omega
 ·show RelO ((aT f y fs).lookup g) (if g=f then some u else mA g);rw[ba];by_cases q:g=f
  ·rw[if_pos q,if_pos q];exact ry
  ·rw[if_neg q,if_neg q];exact r g
 ·by_cases q:g=f
  ·rw[q];exact(sj f y fs).1
  ·refine(sj f y fs).2 g (wi g λz=>hg ?_);show(if g=f then some u else mA g)=none;rw[if_neg q];exact z
theorem Inv.made(I:Inv X pins σ H s):Inv X pins σ (upd (upd H s.heap.objs.size (.own (s.heap.objs.size+1))) (s.heap.objs.size+1) (.ins C s.heap.objs.size []))
 { s with heap:=(s.heap.push PySem.W.emptyDict).push (PySem.W.instObj C s.heap.objs.size) }:=by
 have e1:(s.heap.push PySem.W.emptyDict).get? s.heap.objs.size=some PySem.W.emptyDict:=Heap.get?_push_size s.heap rfl
 have e2:((s.heap.push PySem.W.emptyDict).push (PySem.W.instObj C s.heap.objs.size)).get? (s.heap.objs.size+1)=some (PySem.W.instObj C s.heap.objs.size):=by
  have:=Heap.get?_push_size (s.heap.push PySem.W.emptyDict) (o:=PySem.W.instObj C s.heap.objs.size) rfl
  rwa [Heap.size_push]at this
 have e3:(s.heap.push PySem.W.emptyDict).Ns s.heap.objs.size (λ_=>none):=⟨PySem.W.emptyDict,#[],_,e1,rfl,(λe he=>absurd he (by simp)),λ_=>rfl⟩;have I1:=I.laid (a:=s.heap.objs.size) (o:=.own (s.heap.objs.size+1)) (h':=s.heap.push PySem.W.emptyDict) (t':=s.toks) (λb u q=>Heap.get?_push_of_some _ q) (J3 _) ⟨_,e1⟩;refine I1.laid (a:=s.heap.objs.size+1) (o:=.ins C s.heap.objs.size []) (t':=s.toks) (λb u q=>Heap.get?_push_of_some _ q) (KK (Heap.size_push _ _)) ?_;have ne:s.heap.objs.size≠s.heap.objs.size+1:=Ki (Nat.lt_succ_self _);refine⟨by rw[upd_ne ne,ap],Kj _,ne,e2,λ_=>none,(Heap.Ns1.of_empty e3).at λo q=>Heap.get?_push_of_some _ q,λ_=>True.intro,λy hy=>absurd rfl hy⟩
theorem II{prog:Program}{w:World}{env:Env}{e:Expr}{f:Str}{pos:Pos}{s:Shared}{Q:Value->Shared->Prop}(hb:attributeBase e f env (eval e env)=eval e env)
 (h:wpAny (model prog w) A (eval e env) (λo s₁=>wpAny (model prog w) A (getAttr o f true) Q E s₁) E s):wpAny (model prog w) A (eval (.Attribute e f pos) env) Q E s :=
 Attribute_any_ h (by rw[arm_eval_Attribute,hb])
end
def vC(K:PySem.W.Frag)(ta:TE)(f:Str):TE:=λσ H Q=>ta σ H λx H1=>∃a C dx fs v,x=.ref a/\H1 a=some (.ins C dx fs)/\Cls K C/\NoAttr K C f/\fs.lookup f=some v/\Q v H1
def A7(K:PySem.W.Frag)(ta tv:TE)(f:Str):TS:=λD σ H=>tv σ H λy H1=>ta σ H1 λx H2=>∃a C dx fs,x=.ref a/\H2 a=some (.ins C dx fs)/\Cls K C/\NoAttr K C f/\fs.length<1000 /\
 D.nx σ (upd H2 a (.ins C dx (aT f y fs)))
section
variable {X:Cx}{o e value:Expr}{f:Str}{pos pos' tpos:Pos}{ta tv:TE}
theorem BV(he:PE X e ta)(hb:attributeBase e f X.env (eval e X.env)=eval e X.env):PE X (.Attribute e f pos) (vC X.K ta f):=by intro pins s σ H Q I h;refine II hb (thn (he pins s σ H _ I h) λu s1 ⟨x,H1,I1,rx,a,C,dx,fs,v,ex,ea,c,n,l,q⟩=>?_);subst ex;obtain rfl:u=Value.ref a:=rx;exact Ga I1 ea c n l λu' s2 I2 ru=>⟨v,H1,I2,ru,q⟩
theorem bp(ha:PE X o ta)(hv:PE X value tv)(hs:swapsWith value (some (.Attribute o f pos')) pos.line X.env=pure false):PS X (.Assign [.Attribute o f pos'] value pos) (A7 X.K ta tv f):=by intro pins s σ H D I h;refine plainObj_wpAny_Assign_Attribute (thn (hv pins s σ H _ I h) λu s1 ⟨y,H1,I1,ry,q⟩=>thn (ha pins s1 σ H1 _ I1 q) λov s2 ⟨x,H2,I2,rx,a,C,dx,fs,ex,ea,c,n,l,q2⟩=>?_) hs;subst ex;obtain rfl:ov=Value.ref a:=rx;exact Al I2 ea c n l ry λs3 I3=>⟨σ,_,I3,q2⟩
end
section
variable {X:Cx}{pins:List (Addr×Obj)}{σ:St}{H:Hp}{s:Shared}{A:Around}{E:Value->Shared->Prop}{Q:Value->Shared->Prop}{c:Value}{b:Bool}
inductive TyOf(K:PySem.W.Frag)(H:Hp):V->Value->Prop where
 |non:TyOf K H .non (.type "NoneType")
 |bl (x:Bool):TyOf K H (.bl x) (.type "bool")
 |int (i:Int):TyOf K H (.int i) (.type "int")
 |str (x:Str):TyOf K H (.str x) (.type "str")
 |flt (x:UInt64):TyOf K H (.flt x) (.type "float")
 |lst {a:Addr} {xs:List V} (e:H a=some (.lst xs)):TyOf K H (.ref a) (.type "list")
 |frz {a:Addr} {o:Obj} {xs:List V} (e:H a=some (.frz o (.lst xs))):TyOf K H (.ref a) (.type "list")
 |tup {a:Addr} {xs:List V} (e:H a=some (.tup xs)):TyOf K H (.ref a) (.type "tuple")
 |dK {a:Addr} {kvs:List (Key×V)} (e:H a=some (.dK kvs)):TyOf K H (.ref a) (.type "dict")
 |dT {a:Addr} {kvs:List (List Key×V)} (e:H a=some (.dT kvs)):TyOf K H (.ref a) (.type "dict")
 |ins {a C dx:Addr} {fs:List (Str×V)} (e:H a=some (.ins C dx fs)) (cl:Cls K C) (ha:PySem.W.findIn K (.ref C) "__class__"=some (some (.builtin "object.__class__")))
  (hn:PySem.W.specialIn K (.builtin "object.__class__") "__get__"=some (some (.builtin "getset_descriptor.__get__"))) (htk:PySem.W.takesIn K (.builtin "object.__class__")=some true)
  (hm:PySem.W.mroIn K C (.type "object")=some true):TyOf K H (.ref a) (.ref C)
theorem Fp{x:V}{u t:Value}(I:Inv X pins σ H s)(rx:RelV x u)(ty:TyOf X.K H x t)(e:PySem.W.kitOne X.K t c=some b)(h:∀tk,Q (.bool b) { s with toks:=tk }) :
 wpAny (model X.prog X.w) A (call (.builtin "isinstance") [u,c]) Q E s:=by
 cases ty with
 |non=>cases(show u=Value.none from rx);exact PySem.W.kia_one PySem.W.kitx_none I.kIn True.intro e (λz=>nomatch z) h
 |bl y=>cases(show u=Value.bool y from rx);exact PySem.W.kia_one PySem.W.kitx_bool I.kIn True.intro e (λz=>nomatch z) h
 |int i=>obtain⟨t,q⟩:=(show ∃t,u=Value.int i t from rx);cases q;exact PySem.W.kia_one PySem.W.kitx_int I.kIn True.intro e (λz=>nomatch z) h
 |str y=>obtain⟨t,q⟩:=(show ∃t,u=Value.str y t from rx);cases q;exact PySem.W.kia_one PySem.W.kitx_str I.kIn True.intro e (λz=>nomatch z) h
 |flt y=>obtain⟨t,q⟩:=(show ∃t,u=Value.float y t from rx);cases q;exact PySem.W.kia_one PySem.W.kitx_float I.kIn True.intro e (λz=>nomatch z) h
 | @lst a xs ea =>cases(show u=Value.ref a from rx);obtain⟨_,_,n,_,h1⟩:=(show ObjOk X.prog X.w H s.heap a (.lst xs)from I.hok a _ ea);exact PySem.W.kia_one PySem.W.kitx_list I.kIn ⟨_,h1,rfl⟩ e (λz=>nomatch z) h
 | @frz a ob xs ea =>cases(show u=Value.ref a from rx);obtain⟨_,_,_,n,_,h1⟩:=(show ObjOk X.prog X.w H s.heap a (.frz ob (.lst xs))from I.hok a _ ea);exact PySem.W.kia_one PySem.W.kitx_list I.kIn ⟨_,h1,rfl⟩ e (λz=>nomatch z) h
 | @tup a xs ea =>cases(show u=Value.ref a from rx);obtain⟨_,_,_,p⟩:=(show ObjOk X.prog X.w H s.heap a (.tup xs)from I.hok a _ ea);obtain⟨o,h1,h2,_⟩:=p;exact PySem.W.kia_one PySem.W.kitx_tuple I.kIn ⟨o,h1,h2⟩ e (λz=>nomatch z) h
 | @dK a kvs ea =>cases(show u=Value.ref a from rx);obtain⟨_,_,vs,_,p⟩:=(show ObjOk X.prog X.w H s.heap a (.dK kvs)from I.hok a _ ea);obtain⟨o,es,ep,h1,h2,_⟩:=p;exact PySem.W.kia_one PySem.W.kitx_dict I.kIn ⟨o,h1,h2.1⟩ e (λz=>nomatch z) h
 | @dT a kvs ea =>cases(show u=Value.ref a from rx);obtain⟨_,_,xs,_,o,es,ep,h1,h2,_⟩:=(show ObjOk X.prog X.w H s.heap a (.dT kvs)from I.hok a _ ea);exact PySem.W.kia_one PySem.W.kitx_dict I.kIn ⟨o,h1,h2.1⟩ e (λz=>nomatch z) h
 | @ins a C dx fs ea cl ha hn htk hm =>cases(show u=Value.ref a from rx);obtain⟨mA,O,_⟩:=pc I.hok ea;obtain⟨od,J,_⟩:=O.look;exact PySem.W.kia_one (PySem.W.kitx_own (cl.get _) cl.hd ha hn htk hm) I.kIn J e (λz=>nomatch z) h
end
structure Room(k:Nat)(A:Around):Prop where
 hd:A.handled=none
 dp:A.depth+3*k+5<recursionLimit
 un:A.units+16*k+200<cLine
theorem Room.mono{j k:Nat}{A:Around}(r:Room k A)(h:j<=k:=by decide):Room j A:=⟨r.hd,by have:=r.dp;omega,by have:=r.un;omega⟩
theorem Room.deeper{k:Nat}{A:Around}(r:Room (k+1) A)(env:Env):Room k (A.deeper env) :=
 ⟨r.hd,by have:=r.dp;show A.depth+1+3*k+5<_;omega,by have:=r.un;show A.units+3+16*k+200<_;omega⟩
theorem Room.in1{k:Nat}{A:Around}(r:Room (k+1) A):Room k A.in1 :=
 ⟨r.hd,by have:=r.dp;show A.depth+3*k+5<_;omega,by have:=r.un;show A.units+1+16*k+200<_;omega⟩
theorem Eb{A:Around}{C:Addr}{us:List Value}{kw:List (Str×Value)}:(A.under (.builtin "type.__call__" ⟨.ref C::us,kw⟩)).depth=A.depth+1:=by first |rfl |simp[Around.under,Code.weight,Code.isCreation,Code.isGuard,Code.isCaller,Code.frames,Code.isFrame,guardIds]
theorem D9{A:Around}{C:Addr}{us:List Value}{kw:List (Str×Value)}:(A.under (.builtin "type.__call__" ⟨.ref C::us,kw⟩)).units=A.units+1:=by first |rfl |simp[Around.under,Code.cUnits,Code.frames,Code.isFrame]
theorem Room.make{k:Nat}{A:Around}(r:Room (k+1) A)(C:Addr)(us:List Value)(kw:List (Str×Value)):Room k (A.under (.builtin "type.__call__" ⟨.ref C::us,kw⟩)) :=
 ⟨r.hd,by have:=r.dp;rw[Eb];omega,by have:=r.un;rw[D9];omega⟩
theorem Room.depth{k:Nat}{A:Around}(r:Room k A):A.depth<recursionLimit:=by have:=r.dp;omega
theorem Room.units{k:Nat}{A:Around}(r:Room k A):A.units+64<cLine:=by have:=r.un;omega
def pT:TA:=λ_ H Q=>Q [] H
def pV(ta:TE)(tr:TA):TA:=λσ H Q=>ta σ H λx H1=>tr σ H1 λxs H2=>Q (x::xs) H2
section
variable {X:Cx}{e:Expr}{es:List Expr}{te:TE}{t:TA}{pos:Pos}
theorem ac:PA X [] pT:=λ_ _ _ _ H Q I h=>Calls.spliced_nil ⟨[],H,I,.nil,h⟩
theorem aa(ha:PE X e te)(hr:PA X es t)(hs:starEach (e::es) X.env=(false,eval e X.env)::starEach es X.env:=by rfl):PA X (e::es) (pV te t):=by intro pos pins s σ H Q I h;rw[hs];show wpAny _ _ (spliced ((false,eval e X.env)::backTo pos (starEach es X.env))) _ _ s;refine Calls.spliced_cons (thn (ha pins s σ H _ I h) λu s1 ⟨x,H1,I1,r1,q1⟩=>?_);exact thn (hr pos pins s1 σ H1 _ I1 q1) λus s2 ⟨xs,H2,I2,r2,q2⟩=>⟨x::xs,H2,I2,.cons r1 r2,q2⟩
def zJ(t:TA):TE:=λσ H Q=>t σ H λxs H1=>xs.length<=sizeLine/\∀p,H1 p=none->Q (.ref p) (upd H1 p (.tup xs))
def zR(t:TA):TE:=λσ H Q=>t σ H λxs H1=>xs.length<=sizeLine/\∀p,H1 p=none->Q (.ref p) (upd H1 p (.lst xs))
theorem bF{x1}(h:PA X es t):PE X (.Tuple es x1 pos) (zJ t):=by intro pins s σ H Q I hq;refine wpAny_Tuple_spliced (thn (h pos pins s σ H _ I hq) λus s1 ⟨xs,H1,I1,r,z,q⟩=>⟨by rw[<- r.length];exact z,?_⟩);have hf:H1 s1.heap.objs.size=none:=I1.hok.fresh (J3 _);refine⟨.ref s1.heap.objs.size,upd H1 s1.heap.objs.size (.tup xs),I1.laid (t':=s1.toks) (λb u e=>Heap.get?_push_of_some _ e) (J3 _) ?_,rfl,q _ hf⟩;exact⟨z,us,r,⟨_,Heap.get?_push_size _ rfl,rfl,_,rfl⟩⟩
theorem ck(h:PA X es t):PE X (.List es pos) (zR t):=by intro pins s σ H Q I hq;refine wpAny_List_spliced (thn (h pos pins s σ H _ I hq) λus s1 ⟨xs,H1,I1,r,z,q⟩=>⟨by rw[<- r.length];exact z,?_⟩);have hf:H1 s1.heap.objs.size=none:=I1.hok.fresh (J3 _);refine⟨.ref s1.heap.objs.size,upd H1 s1.heap.objs.size (.lst xs),I1.laid (t':=s1.toks) (λb u e=>Heap.get?_push_of_some _ e) (J3 _) ?_,rfl,q _ hf⟩;exact⟨z,us,0,r,Heap.get?_push_size _ rfl⟩
end
abbrev Sp:=List V->Hp->VK->XK->Prop
abbrev CXT:=List Env->Hp->Shared->XK->Value->Shared->Prop
structure Env0(P:Program)(w:World)(K:PySem.W.Frag)(mg:Str->Option Value)(base:Heap)(A:Around)(outer:List Env)(s:Shared)(H:Hp):Prop where
 frames:A.frames=some outer
 mod:Mod K mg base
 bs:∀b o,base.get? b=some o->s.heap.get? b=some o/\H b=none
 bsz:base.objs.size<=s.heap.objs.size
 funs:s.heap.FunFrames base outer
 frf:∀b∈frs outer,H b=none
 hok:HOk P w H s.heap
 bare:AllBare s.gens
noncomputable def CE(outer:List Env)(P:Program)(w:World)(H:Hp)(s:Shared)(Q:VK)(u:Value)(s':Shared):Prop :=
 ∃v H',s'.os=s.os/\AllBare s'.gens/\Un (frs outer) [] H H' s.heap s'.heap/\HOk P w H' s'.heap/\RelV v u/\Q v H'
noncomputable def CR(CX:CXT)(outer:List Env)(P:Program)(w:World)(H:Hp)(s:Shared)(Q:VK)(E:XK)(r:Result)(s':Shared):Prop :=
 match r with
 |.ok (.ret u)=>CE outer P w H s Q u s'
 |.ok _=>False
 |.error e=>CX outer H s E e s'
structure FnOk(P:Program)(w:World)(K:PySem.W.Frag)(mg:Str->Option Value)(base:Heap)(CX:CXT)(k:Nat)(f:Addr)(fd:FuncData)(ps:List Str)(sp:Sp):Prop where
 len:∀vs H Q E,sp vs H Q E->vs.length=ps.length
 run:∀(A:Around) (outer:List Env) (s:Shared) (H:Hp) (args:Args) (us:List Value) (vs:List V) (Q:VK) (E:XK),Room k A->Env0 P w K mg base A outer s H->BindsTo s fd args (ps.zip us)->Vals vs us->sp vs H Q E ->
  codeAny (model P w) A (.call (.ref f) args) (CR CX outer P w H s Q E) s
theorem FnOk.mono{P:Program}{w:World}{K:PySem.W.Frag}{mg:Str->Option Value}{base:Heap}{CX:CXT}{j k:Nat}{f:Addr}{fd:FuncData}{ps:List Str}{sp:Sp}(F:FnOk P w K mg base CX j f fd ps sp)(h:j<=k:=by decide) :
 FnOk P w K mg base CX k f fd ps sp:=⟨F.len,λA outer s H args us vs Q E hr=>F.run A outer s H args us vs Q E (hr.mono h)⟩
theorem Env0.make{P:Program}{w:World}{K:PySem.W.Frag}{mg:Str->Option Value}{base:Heap}{A:Around}{outer:List Env}{s:Shared}{H:Hp}(e:Env0 P w K mg base A outer s H)(C:Addr)(us:List Value)(kw:List (Str×Value)) :
 Env0 P w K mg base (A.under (.builtin "type.__call__" ⟨.ref C::us,kw⟩)) outer s H:=⟨by first |exact e.frames | (simpa[Around.under,Code.envs,Code.isFrame,pushEnvs]using e.frames),e.mod,e.bs,e.bsz,e.funs,e.frf,e.hok,e.bare⟩
section
variable {X:Cx}{pins:List (Addr×Obj)}{σ:St}{H:Hp}{s s':Shared}
theorem Inv.env0(I:Inv X pins σ H s):Env0 X.prog X.w X.K X.mg X.base X.A X.stack s H :=
 ⟨I.ok.frames,I.ok.mod,I.bs,J7 I.ok.bsz I.sz,I.stack,I.stkFree,I.hok,I.bare⟩
theorem Inv.after{Q:VK}{u:Value}(I:Inv X pins σ H s)(h:CE X.stack X.prog X.w H s Q u s'):EP X pins σ Q u s':=by obtain⟨v,H',os,bare,un,hok,r,q⟩:=h;obtain⟨hh,g,d,t,os'⟩:=s';obtain rfl:os'=s.os:=os;exact⟨v,H',I.call (h':=hh) (g':=g) (d':=d) (t':=t) (ch:=[]) un hok bare (λb z=>absurd z (by simp)),r,q⟩
end
def zU(sp:Sp)(dvs:List V)(E:XK)(t:TA):TE:=λσ H Q=>t σ H λvs H1=>sp (vs++dvs) H1 Q E
def vB(C:Addr)(m:Str)(sp:Sp)(dvs:List V)(E:XK)(ta:TE)(t:TA):TE:=λσ H Q=>ta σ H λx H1=>∃a dx fs,x=.ref a/\H1 a=some (.ins C dx fs)/\fs.lookup m=none /\
 t σ H1 λvs H2=>sp (x::(vs++dvs)) H2 Q E
def zQ(C:Addr)(sp:Sp)(dvs:List V)(E:XK)(t:TA):TE:=λσ H Q=>t σ H λvs H1=>∀x dx,H1 x=none->H1 dx=none->dx≠x ->
 sp (.ref x::(vs++dvs)) (upd (upd H1 dx (.own x)) x (.ins C dx [])) (λv H2=>v=.non/\Q (.ref x) H2) E
noncomputable def Binds(K:PySem.W.Frag)(fd:FuncData)(ps:List Str)(ds:List Value):Prop :=
 ∀(s:Shared) (us:List Value),K.In s.heap->(us++ds).length=ps.length->BindsTo s fd ⟨us,[]⟩ (ps.zip (us++ds))
theorem Binds.all{K:PySem.W.Frag}{fd:FuncData}{ps:List Str}(h:∀us:List Value,us.length=ps.length->bindArgs fd ⟨us,[]⟩=pure (ps.zip us)):Binds K fd ps []:=λs us _ hl=>by rw[Kk]at hl ⊢;exact .of_eq (h us hl)
def gZ(CX:CXT)(X:Cx)(E:XK):Prop:=∀(pins:List (Addr×Obj)) (σ:St) (H:Hp) (s:Shared) (e:Value) (s':Shared),Inv X pins σ H s->CX X.stack H s E e s'->X.xe e s'
section
variable {X:Cx}{CX:CXT}{k:Nat}{f C:Addr}{fd:FuncData}{ps:List Str}{sp:Sp}{dvs:List V}{ds:List Value}{E:XK}{x m:Str}{p pos apos:Pos}{e o:Expr}{es:List Expr}{ta:TE}{t:TA}
theorem oE{pins:List (Addr×Obj)}{σ:St}{H:Hp}{s:Shared}{Q:VK}{us:List Value}{vs:List V}(F:FnOk X.prog X.w X.K X.mg X.base CX k f fd ps sp)(hr:Room k X.A)(hb:Binds X.K fd ps ds)(hd:Vals dvs ds)(hx:gZ CX X E)
 (I:Inv X pins σ H s) (r:Vals vs us) (h:sp (vs++dvs) H Q E):wpAny (model X.prog X.w) X.A (call (.ref f) us) (EP X pins σ Q) X.xe s:=by
 have r2:Vals (vs++dvs) (us++ds):=r.append hd;have hl:(us++ds).length=ps.length:=by rw[<- r2.length];exact F.len _ _ _ _ h
 refine wpAny_call (codeAny_mono (F.run X.A X.stack s H ⟨us,[]⟩ (us++ds) (vs++dvs) Q E hr I.env0 (hb s us I.kIn hl) r2 h) λr s' hq=>?_);cases r with
 |error e=>exact hx pins σ H s e s' I hq
 |ok fl =>
  cases fl with
  |ret u=>exact I.after hq
  |next=>exact False.elim hq
  |brk=>exact False.elim hq
  |cont=>exact False.elim hq
theorem au(F:FnOk X.prog X.w X.K X.mg X.base CX k f fd ps sp)(hr:Room k X.A)(hg:Gl X x)(hm:X.mg x=some (.ref f))(hk:PySem.W.keepIn X.K (.ref f)=true)(hb:Binds X.K fd ps ds)(hd:Vals dvs ds)(hx:gZ CX X E)
 (ha:PA X (e::es) t) (hdb:(x == ("__debug__":Str))=false:=by decide) (he:starEach (e::es) X.env=(false,eval e X.env)::starEach es X.env:=by rfl) (hpl:(backTo pos (starEach es X.env)).any (·.1)=false:=by rfl) :
 PE X (.Call (.Name x p) (e::es) [] pos) (zU sp dvs E t):=by
 intro pins s σ H Q I h;refine wpAny_Call_Name_kw (o4 I hg hm ?_ hdb);refine PySem.W.callWith_K (h₀:=X.base) I.ok.mod.kin hk (thn (ha pos pins s σ H _ I h) λus s1 ⟨vs,H1,I1,r,q⟩=>⟨I1.kIn,?_⟩) he hpl;exact oE F hr hb hd hx I1 r q
theorem cF{pl:Sem Bool}(he:PE X o ta)(c:Cls X.K C)(hm:Meth X.K C m f)(F:FnOk X.prog X.w X.K X.mg X.base CX k f fd ps sp)(hr:Room k X.A)(hb:Binds X.K fd ps ds)(hd:Vals dvs ds)(hx:gZ CX X E)(ha:PA X (e::es) t)
 (hst:starEach (e::es) X.env=(false,eval e X.env)::starEach es X.env:=by rfl) (hpl:(backTo pos (starEach es X.env)).any (·.1)=false:=by rfl)
 (ht:eval (.Call (.Attribute o m apos) (e::es) [] pos) X.env=(do
   let ov <- eval o X.env
   standAt apos.atName
   let(f,first) <- holding [ov] (getMethod ov m pl)
   callWith pos f first (backTo pos (starEach (e::es) X.env)) (backToKw pos (keywordEach [] X.env))):=by rfl) :
 PE X (.Call (.Attribute o m apos) (e::es) [] pos) (vB C m sp dvs E ta t):=by
 intro pins s σ H Q I h;refine PySem.W.methodCall_KW (pl:=pl) (thn (he pins s σ H _ I h) λu s1 ⟨x,H1,I1,rx,a,dx,fs,ex,ea,l,q⟩=>?_) ht;subst ex;obtain rfl:u=Value.ref a:=rx;refine sF I1 ea c hm l ?_;refine PySem.W.callWith_K (first:=[.ref a]) (h₀:=X.base) I.ok.mod.kin hm.kp (thn (ha pos pins s1 σ H1 _ I1 q) λus s2 ⟨vs,H2,I2,r,q2⟩=>⟨I2.kIn,?_⟩) hst hpl;exact oE (us:=.ref a::us) (vs:=.ref a::vs) F hr hb hd hx I2 (.cons rfl r) q2
theorem bi{pl:Sem Bool}(he:PE X o ta)(c:Cls X.K C)(hm:Meth X.K C m f)(F:FnOk X.prog X.w X.K X.mg X.base CX k f fd ps sp)(hr:Room k X.A)(hb:Binds X.K fd ps ds)(hd:Vals dvs ds)(hx:gZ CX X E)
 (ht:eval (.Call (.Attribute o m apos) [] [] pos) X.env=(do
   let ov <- eval o X.env
   standAt apos.atName
   let(f,first) <- holding [ov] (getMethod ov m pl)
   callWith pos f first (backTo pos (starEach [] X.env)) (backToKw pos (keywordEach [] X.env))):=by rfl) :
 PE X (.Call (.Attribute o m apos) [] [] pos) (vB C m sp dvs E ta pT):=by
 intro pins s σ H Q I h;refine PySem.W.methodCall_KW (pl:=pl) (thn (he pins s σ H _ I h) λu s1 ⟨x,H1,I1,rx,a,dx,fs,ex,ea,l,q⟩=>?_) ht;subst ex;obtain rfl:u=Value.ref a:=rx;refine sF I1 ea c hm l ?_;exact PySem.W.callWith_K0 (first:=[.ref a]) I1.kIn hm.kp (oE (us:=[.ref a]) (vs:=[.ref a]) F hr hb hd hx I1 (.cons rfl .nil) q)
structure Mk(K:PySem.W.Frag)(C f:Addr):Prop where
 makes:PySem.W.makesIn K C=true
 init:PySem.W.findIn K (.ref C) "__init__"=some (some (.ref f))
 fn:PySem.W.isFn K (.ref f)=true
 kp:PySem.W.keepIn K (.ref C)=true
theorem A8{pins:List (Addr×Obj)}{σ:St}{H:Hp}{s:Shared}{Q:VK}{us:List Value}{vs:List V}(M:Mk X.K C f)(F:FnOk X.prog X.w X.K X.mg X.base CX k f fd ps sp)(hr:Room (k+1) X.A)(hb:Binds X.K fd ps ds)(hd:Vals dvs ds)
 (hx:gZ CX X E) (I:Inv X pins σ H s) (r:Vals vs us)
 (h:∀x dx,H x=none->H dx=none->dx≠x->sp (.ref x::(vs++dvs)) (upd (upd H dx (.own x)) x (.ins C dx [])) (λv H2=>v=.non/\Q (.ref x) H2) E) :
 wpAny (model X.prog X.w) X.A (call (.ref C) us) (EP X pins σ Q) X.xe s:=by
 have hq:=h (s.heap.objs.size+1) s.heap.objs.size (I.hok.fresh (Nat.le_succ _)) (I.hok.fresh (J3 _)) (Ki (Nat.lt_succ_self _));have I2:=Inv.made (C:=C) I;have r2:Vals (V.ref (s.heap.objs.size+1)::(vs++dvs)) (Value.ref (s.heap.objs.size+1)::(us++ds)):=.cons rfl (r.append hd)
 have hl:(Value.ref (s.heap.objs.size+1)::us++ds).length=ps.length:=by have e:=r2.length;rw[F.len _ _ _ _ hq]at e;exact e.symm
 refine wpAny_call (Ea (f:=f) I.kIn M.makes M.init (beq_iff_eq.mp M.fn) (codeAny_mono (F.run _ X.stack _ _ ⟨Value.ref (s.heap.objs.size+1)::us,[]⟩ (Value.ref (s.heap.objs.size+1)::(us++ds)) _ _ E (hr.make C us [])
  (I2.env0.make C us []) (hb _ (Value.ref (s.heap.objs.size+1)::us) I2.kIn hl) r2 hq) λr s' hq'=>?_))
 cases r with
 |error e=>exact hx pins σ _ _ e s' I2 hq'
 |ok fl =>
  cases fl with
  |ret u =>obtain⟨v,H',I3,rv,ev,q3⟩:=I2.after hq';subst ev;exact⟨rv,⟨V.ref (s.heap.objs.size+1),H',I3,rfl,q3⟩⟩
  |next=>exact False.elim hq'
  |brk=>exact False.elim hq'
  |cont=>exact False.elim hq'
theorem bC(M:Mk X.K C f)(F:FnOk X.prog X.w X.K X.mg X.base CX k f fd ps sp)(hr:Room (k+1) X.A)(hg:Gl X x)(hm:X.mg x=some (.ref C))(hb:Binds X.K fd ps ds)(hd:Vals dvs ds)(hx:gZ CX X E)
 (ha:PA X (e::es) t) (hdb:(x == ("__debug__":Str))=false:=by decide) (he:starEach (e::es) X.env=(false,eval e X.env)::starEach es X.env:=by rfl) (hpl:(backTo pos (starEach es X.env)).any (·.1)=false:=by rfl) :
 PE X (.Call (.Name x p) (e::es) [] pos) (zQ C sp dvs E t):=by
 intro pins s σ H Q I h;refine wpAny_Call_Name_kw (o4 I hg hm ?_ hdb);refine PySem.W.callWith_K (h₀:=X.base) I.ok.mod.kin M.kp (thn (ha pos pins s σ H _ I h) λus s1 ⟨vs,H1,I1,r,q⟩=>⟨I1.kIn,?_⟩) he hpl;exact A8 M F hr hb hd hx I1 r q
end
section
variable {X:Cx}{CX:CXT}{k:Nat}{f C:Addr}{fd:FuncData}{ps ks:List Str}{sp:Sp}{E:XK}{x m:Str}{p pos apos kpos:Pos}{e o:Expr}{es:List Expr}{kws:List Keyword}{te ta:TE}{t tk:TA}{nm:Option Str}
variable {g:List Value->List Value->List Value}{gV:List V->List V->List V}
end
structure FnScope(N P:List Str)(sc:Scope):Prop where
 kind:sc.kind=.function
 co:sc.isCoroutine=false
 gen:sc.isGenerator=false
 nd:N.Nodup
 pre:N.take P.length=P
 par:∀x∈P,sc.names.lookup x=some .local\/sc.names.lookup x=some .cell
 nofree:∀y∈sc.names,y.2≠.free
theorem yA{kindOf:Str->Option NameKind}{x:Str}:∀{binds:List (Str×Value)} {m:Str->Option Value},(∀v,(x,v)∉binds)->bindL kindOf binds m x=m x
 | [],_,_=>rfl
 | (n,v)::r,m,h=>by
  unfold bindL;rw[yA λw hw=>h w (KF _ hw)];split
  ·have:x≠n:=by rintro rfl;exact h v KW
   simp[this]
  ·rfl
theorem yC{kindOf:Str->Option NameKind}{x:Str}:∀{binds:List (Str×Value)} {m:Str->Option Value},(∀v,(x,v)∉binds)->bindC kindOf binds m x=m x
 | [],_,_=>rfl
 | (n,v)::r,m,h=>by
  unfold bindC;rw[yC λw hw=>h w (KF _ hw)];split
  ·rfl
  ·have:x≠n:=by rintro rfl;exact h v KW
   simp[this]
theorem yB{kindOf:Str->Option NameKind}{x:Str}{v:Value}:∀{P:List Str} {vs:List Value} {i:Nat} {m:Str->Option Value},P.Nodup->P[i]?=some x->vs[i]?=some v->kindOf x=some .local ->
 bindL kindOf (P.zip vs) m x=some v
 | [],_,_,_,_,h,_,_=>by simp at h
 |_::_,[],_,_,_,_,h,_=>by simp at h
 |p::P,w::vs,0,m,nd,h1,h2,hk=>by
  simp at h1 h2;subst h1;subst h2
  show bindL kindOf ((p,w)::P.zip vs) m p=_;unfold bindL;rw[yA λv hv=>(List.nodup_cons.mp nd).1 (List.of_mem_zip hv).1,if_pos hk];simp
 |p::P,w::vs,i+1,m,nd,h1,h2,hk=>by show bindL kindOf ((p,w)::P.zip vs) m x=_;unfold bindL;exact yB (i:=i) (List.nodup_cons.mp nd).2 (by simpa using h1) (by simpa using h2) hk
theorem yD{kindOf:Str->Option NameKind}{x:Str}{v:Value}:∀{P:List Str} {vs:List Value} {i:Nat} {m:Str->Option Value},P.Nodup->P[i]?=some x->vs[i]?=some v->kindOf x≠some .local ->
 bindC kindOf (P.zip vs) m x=some v
 | [],_,_,_,_,h,_,_=>by simp at h
 |_::_,[],_,_,_,_,h,_=>by simp at h
 |p::P,w::vs,0,m,nd,h1,h2,hk=>by
  simp at h1 h2;subst h1;subst h2
  show bindC kindOf ((p,w)::P.zip vs) m p=_;unfold bindC;rw[yC λv hv=>(List.nodup_cons.mp nd).1 (List.of_mem_zip hv).1,if_neg hk];simp
 |p::P,w::vs,i+1,m,nd,h1,h2,hk=>by show bindC kindOf ((p,w)::P.zip vs) m x=_;unfold bindC;exact yD (i:=i) (List.nodup_cons.mp nd).2 (by simpa using h1) (by simpa using h2) hk
noncomputable def dW(N:List Str)(vs:List V):St:=vs.map some++List.replicate (N.length-vs.length) none
noncomputable def bu(CX:CXT)(P:Program)(w:World)(K:PySem.W.Frag)(mg:Str->Option Value)(base:Heap)(N:List Str)(qual:Str)(scope:Scope)(f:Addr)(cd:Value)(A:Around)(outer:List Env)(s:Shared)(H:Hp)(E:XK):Cx where
 prog:=P
 w:=w
 K:=K
 mg:=mg
 base:=base
 A:=A.deeper (envOfC qual scope s.heap.objs.size f cd)
 N:=N
 s₀:=s
 H₀:=H
 env:=envOfC qual scope s.heap.objs.size f cd
 outer:=outer
 stack:=envOfC qual scope s.heap.objs.size f cd::outer
 ex:=[]
 calm:=true
 fn:=λ_=>true
 pn:=[]
 xe:=λe s'=>wpAny (model P w) (A.deeper (envOfC qual scope s.heap.objs.size f cd)) (leaving (envOfC qual scope s.heap.objs.size f cd) e) (λ_ s''=>CX outer H s E e s'') (λe' s''=>CX outer H s E e' s'') s'
theorem yw{sc:Scope}{n:Nat}{x:Str}(h:sc.names.lookup x=some .cell):∃c,(cellsFrom n sc.names []).lookup x=some c:=by have q:=PySem.W.cellsFrom_some sc.names n [] (.inl h);exact Option.isSome_iff_exists.mp q
theorem Fz{CX:CXT}{P:Program}{w:World}{K:PySem.W.Frag}{mg:Str->Option Value}{base:Heap}{N ps:List Str}{qual:Str}{scope:Scope}{f:Addr}{cd:Value}{A:Around}{outer:List Env}{s s1:Shared}{H:Hp}{E:XK}{us:List Value}{vs:List V}
 (S:FnScope N ps scope) (hd:A.handled=none) (e0:Env0 P w K mg base A outer s H) (hl:vs.length=ps.length) (r:Vals vs us)
 (x:InCallC s s.heap.objs.size (bindL (envOfC qual scope s.heap.objs.size f cd).kindOf (ps.zip us) λ_=>none) (cellsFrom (s.heap.objs.size+1) scope.names []) (bindC (envOfC qual scope s.heap.objs.size f cd).kindOf (ps.zip us) λ_=>none) s1) :
 Inv (bu CX P w K mg base N qual scope f cd A outer s H E) [] (dW N vs) H s1:=by
 have hpl:ps.length<=N.length:=by have:=congrArg List.length S.pre;rw[KY]at this;omega
 obtain⟨h1,tk,rfl,hk⟩:=x.done;have noA:∀b:Addr,b∉(bu CX P w K mg base N qual scope f cd A outer s H E).ex:=λb z=>absurd (show b∈([]:List Addr)from z) (by simp)
 refine⟨⟨e0.mod,S.kind,rfl,rfl,J3 _,λy z c h1 h2=>?_,λy hy=>?_,λy c _ h=>?_,λ_=>hd,Around.frames_deeper e0.frames,.inr ⟨rfl,rfl⟩,λb z=>absurd z (noA b),e0.bs,e0.bsz,λb _ _=>noA b,λb z=>absurd z (noA b),e0.funs,e0.frf⟩,
  rfl,e0.bare,Un.kept hk,⟨_,x.toInCall.ns,λi y v h1 h2 h3=>?_⟩,λy c h=>⟨_,x.cell y c h⟩,e0.hok.fresh (J3 _),λy c h=>?_,λp hp=>absurd (show p∈([]:List (Addr×Obj))from hp) (by simp),e0.hok.kept hk,?_⟩
 ·exact name_of_addr x.apart (PySem.mem_of_lookup h1) (PySem.mem_of_lookup h2)
 ·have hy:scope.names.lookup y=some .cell\/scope.names.lookup y=some .free:=hy;rcases hy with hy |hy
  ·exact yw hy
  ·exact absurd rfl (S.nofree _ (PySem.mem_of_lookup hy))
 ·exact Nat.le_of_lt (x.above y c (PySem.mem_of_lookup h))
 ·have hi:i<vs.length:=by
   unfold dW at h2
   by_cases hi:i<vs.length
   ·exact hi
   ·rw[List.getElem?_append_right (by simpa using hi)]at h2;rw[List.getElem?_replicate]at h2;split at h2<;>cases h2
  have ha:vs[i]?=some v:=by
   unfold dW at h2
   rw[List.getElem?_append_left (by simpa using hi),List.getElem?_map]at h2;cases e:vs[i]? with
   |none=>rw[e]at h2;cases h2
   |some a=>rw[e]at h2;cases h2;rfl
  obtain⟨u,hu,rv⟩:=r.get ha
  have hp:ps[i]?=some y:=by rw[<- S.pre,List.getElem?_take_of_lt (by omega)];exact h1
  have ndP:ps.Nodup:=by rw[<- S.pre];exact S.nd.sublist (List.take_sublist _ _)
  refine⟨u,rv,?_⟩;rcases S.par y (List.mem_of_getElem? hp)with k |k
  ·exact .inl ⟨k,yB ndP hp hu k⟩
  ·obtain⟨c,e⟩:=yw (n:=s.heap.objs.size+1) k;refine .inr ⟨.inl k,c,e,?_⟩;have q:=x.cell y c e;rw[yD ndP hp hu (by show scope.names.lookup y≠_;rw[k];decide)]at q;exact q
 ·exact e0.hok.fresh (Nat.le_of_lt (x.above y c (PySem.mem_of_lookup h)))
 ·unfold dW;show _=N.length;rw[J2,J6,KA];omega
theorem pw{CX:CXT}{P:Program}{w:World}{K:PySem.W.Frag}{mg:Str->Option Value}{base:Heap}{k:Nat}{f:Addr}{name qual:Str}{params:Arguments}{body:List Stmt}{scope:Scope}{dV kV doc pm cdv ct oc:Value}{an od:Option Addr}
 {osl:Array (Option Value)} {N ps:List Str} {sp:Sp} (lk:K.lookup f=some ⟨oc,od,.func (PySem.W.fnOf name qual params body scope dV kV doc pm an cdv ct),osl⟩) (hcd:PySem.W.codeIn K cdv qual=true) (S:FnScope N ps scope)
 (len:∀vs H Q E,sp vs H Q E->vs.length=ps.length)
 (hbody:∀(A:Around) (outer:List Env) (s:Shared) (H:Hp) (vs:List V) (Q:VK) (E:XK),Room k (A.deeper (envOfC qual scope s.heap.objs.size f cdv))->sp vs H Q E ->
   ∃t,PSs (bu CX P w K mg base N qual scope f cdv A outer s H E) body t/\t { nx:=λ_ H'=>Q .non H',rt:=Q } (dW N vs) H) :
 FnOk P w K mg base CX (k+1) f (PySem.W.fnOf name qual params body scope dV kV doc pm an cdv ct) ps sp:=by
 refine⟨len,λA outer s H args us vs Q E hr e0 hb r hsp=>?_⟩;have hl:=len _ _ _ _ hsp;have KX:K.In s.heap:=e0.mod.kin.keeps λb o e=>(e0.bs b o e).1
 have lim:s.heap.NoLimit:=e0.mod.nolimit.keeps λb o e=>(e0.bs b o e).1
 have hkind:∀y∈ps.zip us,scope.names.lookup y.1=some .local\/(scope.names.lookup y.1=some .cell/\((cellsFrom (s.heap.objs.size+1) scope.names []).lookup y.1).isSome=true):=λ⟨n,v⟩ hy=>by
  rcases S.par n (List.of_mem_zip hy).1 with q |q
  ·exact .inl q
  ·exact .inr ⟨q,PySem.W.cellsFrom_some _ _ _ (.inl q)⟩
 refine codeAny_call_function hr.depth (KX _ _ lk) rfl S.co S.gen rfl (PySem.W.codeRec_of KX hcd) (hb _ _ _ _ ?_);refine wpAny_newFunctionEnv_cells S.kind hkind λenv he s1 x=>?_
 subst he;refine⟨lim.keeps x.toInCall.keep,codeAny_func ?_⟩;obtain⟨t,ht,hq⟩:=hbody A outer s H vs Q E (hr.deeper _) hsp;have I:Inv (bu CX P w K mg base N qual scope f cdv A outer s H E) [] (dW N vs) H s1:=Fz S hr.hd e0 hl r x;refine wpAny_mono (ht [] s1 (dW N vs) H _ I hq) (λfl s' hs=>?_) λe s' hs=>hs
 have fin:∀{σ':St} {H':Hp} {v:V} {u:Value},Inv (bu CX P w K mg base N qual scope f cdv A outer s H E) [] σ' H' s'->RelV v u->Q v H'->CE outer P w H s Q u s' :=
  λ{σ' H' v u} J rv q=>⟨v,H',J.os,J.bare,J.base,J.hok,rv,q⟩
 cases fl with
 |ret u =>obtain⟨v,σ',H',J,rv,q⟩:=hs;exact fin J rv q
 |next =>obtain⟨σ',H',J,q⟩:=hs;exact fin (v:=V.non) (u:=Value.none) J rfl q
 |brk =>obtain⟨_,_,_,q⟩:=hs;exact False.elim q
 |cont =>obtain⟨_,_,_,q⟩:=hs;exact False.elim q
section
variable {X:Cx}{x:Str}{p pos:Pos}{e:Expr}{es:List Expr}{t:TA}{id T:String}{r:List V->Hp->VK->Prop}
def tCB(r:List V->Hp->VK->Prop)(t:TA):TE:=λσ H Q=>t σ H λvs H1=>r vs H1 Q
theorem aO(hc:cL X (.builtin id) r)(hg:Gl X x)(hm:X.mg x=none)(hv:bootBuiltins x=some (.builtin id))(ha:PA X (e::es) t)(hn:x≠"__name__":=by decide)(hdb:(x == ("__debug__":Str))=false:=by decide)
 (he:starEach (e::es) X.env=(false,eval e X.env)::starEach es X.env:=by rfl) (hpl:(backTo pos (starEach es X.env)).any (·.1)=false:=by rfl):PE X (.Call (.Name x p) (e::es) [] pos) (tCB r t):=by
 intro pins s σ H Q I h;refine wpAny_Call_Name_kw (mO I hg hm hv ?_ hn hdb);exact PyProof.Rows.callWith_builtin1 (thn (ha pos pins s σ H _ I h) λus s1 ⟨vs,H1,I1,r1,q1⟩=>hc pins s1 σ H1 vs us Q I1 r1 q1) he hpl
theorem cm(hc:cL X (.type T) r)(hg:Gl X x)(hm:X.mg x=none)(hv:bootBuiltins x=some (.type T))(ha:PA X (e::es) t)(hn:x≠"__name__":=by decide)(hdb:(x == ("__debug__":Str))=false:=by decide)
 (he:starEach (e::es) X.env=(false,eval e X.env)::starEach es X.env:=by rfl) (hpl:(backTo pos (starEach es X.env)).any (·.1)=false:=by rfl):PE X (.Call (.Name x p) (e::es) [] pos) (tCB r t):=by
 intro pins s σ H Q I h;refine wpAny_Call_Name_kw (mO I hg hm hv ?_ hn hdb);exact PyProof.Rows.callWith_type1 (thn (ha pos pins s σ H _ I h) λus s1 ⟨vs,H1,I1,r1,q1⟩=>hc pins s1 σ H1 vs us Q I1 r1 q1) he hpl
end
end L2
namespace HT
open PySem PyProof.Rows
section
open PySem.SeqAt
open PySem.AutoSeq1 (wpAny_loadPart')
open PySem.MeetsSeq PySem.MeetsSeq2 PySem.MeetsSeq3
end
section
variable {prog:Program}{w:World}{A:Around}{E:Value->Shared->Prop}{s:Shared}
noncomputable def sIx(n d:Nat):Option Int->Nat
 |none=>d
 |some v=>if v<0 then(v+(n:Int)).toNat else min v.toNat n
theorem sIx_none(n d:Nat):sIx n d none=d:=rfl
theorem sIx_nat(n d k:Nat):sIx n d (some (k:Int))=min k n:=by show(if(k:Int)<0 then((k:Int)+(n:Int)).toNat else min (k:Int).toNat n)=min k n;rw[if_neg (by omega),KZ]
end
end HT
namespace L2
open PySem PySem.Spec PyProof.Rows
abbrev TO:=St->Hp->(Option Int->Hp->Prop)->Prop
noncomputable def PO(X:Cx)(e:Option Expr)(t:TO):Prop :=
 ∀(pins:List (Addr×Obj)) (s:Shared) (σ:St) (H:Hp) (Q:Option Int->Hp->Prop),Inv X pins σ H s->t σ H Q ->
  wpAny (model X.prog X.w) X.A (evalPart e X.env) (λu s'=>∃o H',Inv X pins σ H' s'/\IsPart u o/\Q o H') X.xe s
noncomputable def zO:TO:=λ_ H Q=>Q none H
noncomputable def zN(t:TE):TO:=λσ H Q=>t σ H λx H1=>∃i,x=.int i/\Q (some i) H1
theorem o8{ns:List Int}:∀{us:List Value},Vals (ns.map V.int) us->IntsAre us ns:=by
 induction ns with
 |nil=>intro us r;rw[List.map_nil]at r;cases r;exact .nil
 |cons n ns ih =>
  intro us r;rw[Kw]at r;cases r with
  |cons r1 r2 =>obtain⟨t,e⟩:=r1;subst e;exact .cons n t (ih r2)
section
variable {X:Cx}{e:Expr}{te:TE}{lo hi:Option Expr}{tl th:TO}{pos p2:Pos}
theorem oJ:PO X none zO:=by intro pins s σ H Q I h;rw[evalPart_none];exact wpAny_pure ⟨none,H,I,.none,h⟩
theorem ie(h:PE X e te):PO X (some e) (zN te):=by
 intro pins s σ H Q I hw;rw[evalPart_some];refine thn (h pins s σ H _ I hw) λu s1 ⟨x,H1,I1,r1,q1⟩=>?_
 obtain⟨i,rfl,q⟩:=q1;obtain⟨t,rfl⟩:=r1;exact⟨some i,H1,I1,.int i t,q⟩
noncomputable def SlR(X:Cx)(r:V->Option Int->Option Int->Hp->VK->Prop):Prop :=
 ∀(pins:List (Addr×Obj)) (s:Shared) (σ:St) (H:Hp) (x:V) (v vl vu:Value) (lo hi:Option Int) (sl:Addr) (Q:VK),Inv X pins σ H s->RelV x v->s.heap.IsSliceOf sl vl vu .none->IsPart vl lo->IsPart vu hi->r x lo hi H Q ->
  ∃T id,typeLookup (.type T) "__getitem__"=pure (some (.builtin id))/\s.TypeIs v T/\wpAny (model X.prog X.w) X.A (getItem v (.ref sl)) (EP X pins σ Q) X.xe s
def tSl(r:V->Option Int->Option Int->Hp->VK->Prop)(te:TE)(tl th:TO):TE:=λσ H Q=>te σ H λx H1=>tl σ H1 λl H2=>th σ H2 λu H3=>r x l u H3 Q
theorem ll{r:V->Option Int->Option Int->Hp->VK->Prop}(hr:SlR X r)(he:PE X e te)(hl:PO X lo tl)(hu:PO X hi th):PE X (.Subscript e (.Slice lo hi none p2) pos) (tSl r te tl th):=by
 intro pins s σ H Q I h;refine Subscript_ (thn (he pins s σ H _ I h) λv s1 ⟨x,H1,I1,r1,q1⟩=>?_);refine wpAny_Slice (thn (hl pins s1 σ H1 _ I1 q1) λvl s2 ⟨l,H2,I2,pl,q2⟩=>thn (hu pins s2 σ H2 _ I2 q2) λvu s3 ⟨u,H3,I3,pu,q3⟩=>?_);rw[evalPart_none];refine wpAny_pure ?_;have I4:Inv X pins σ H3 { s3 with heap:=s3.heap.push { cls:=.type "slice",data:=.fields #[vl,vu,.none] } }:=I3.kept (t':=s3.toks) λb ob q=>Heap.get?_push_of_some _ q
 obtain⟨T,id,hT,ht,hg⟩:=hr pins { s3 with heap:=s3.heap.push { cls:=.type "slice",data:=.fields #[vl,vu,.none] } } σ H3 x v vl vu l u s3.heap.objs.size Q I4 r1 (Heap.IsSliceOf.new ..) pl pu q3;show wpAny (model X.prog X.w) X.A (subscriptTail e (.Slice lo hi none p2) v (.ref s3.heap.objs.size)) (EP X pins σ Q) X.xe { s3 with heap:=s3.heap.push { cls:=.type "slice",data:=.fields #[vl,vu,.none] } };exact tail_any (ops:=[.ref s3.heap.objs.size,v]) ht hT hg (by with_unfolding_all rfl)
noncomputable def dg(xs:List V)(lo hi:Option Int):List V:=(xs.drop (HT.sIx xs.length 0 lo)).take (HT.sIx xs.length xs.length hi-HT.sIx xs.length 0 lo)
theorem HF(xs:List V)(lo hi:Option Int):(dg xs lo hi).length<=xs.length:=by unfold dg;rw[KY,Kr];omega
end
noncomputable def ixN(n:Nat)(i:Int):Option Nat:=if 0<=i then(if i<n then some i.toNat else none)else if -(n:Int)<=i then some (i+n).toNat else none
noncomputable def atI{α:Type}(xs:List α)(i:Int):Option α:=(ixN xs.length i).bind λj=>xs[j]?
theorem xI{n:Nat}{i:Int}{j:Nat}(h:ixN n i=some j):seqIndex? i n=some j/\j<n /\ -(n:Int)<=i/\i<n:=by
 unfold ixN at h
 by_cases h0:0<=i
 ·rw[if_pos h0]at h;by_cases h1:i<n
  ·rw[if_pos h1]at h;have e:i.toNat=j:=Option.some.inj h;exact⟨by rw[seqIndex_of h0 h1,e],by omega,by omega,h1⟩
  ·rw[if_neg h1]at h;cases h
 ·rw[if_neg h0]at h;by_cases h1 : -(n:Int)<=i
  ·rw[if_pos h1]at h;have e:(i+n).toNat=j:=Option.some.inj h;exact⟨by rw[seqIndex_neg (by omega) h1,e],by omega,h1,by omega⟩
  ·rw[if_neg h1]at h;cases h
theorem ur{α:Type}{xs:List α}{i:Int}{v:α}(h:atI xs i=some v):∃j,seqIndex? i xs.length=some j/\xs[j]?=some v/\j<xs.length /\ -(xs.length:Int)<=i/\i<xs.length:=by
 unfold atI at h
 cases e:ixN xs.length i with
 |none=>rw[e]at h;cases h
 |some j =>rw[e]at h;obtain⟨h1,h2,h3,h4⟩:=xI e;exact⟨j,h1,h,h2,h3,h4⟩
theorem lQ{α:Type}{xs:List α}{j:Nat}{v:α}(h:xs[j]?=some v):atI xs (j:Int)=some v:=by
 have hj:j<xs.length:=(List.getElem?_eq_some_iff.mp h).1
 have e:ixN xs.length (j:Int)=some j:=by unfold ixN;rw[if_pos (by omega),if_pos (by omega)];simp
 unfold atI;rw[e];exact h
theorem yR{α:Type}(xs:List α)(v:α):atI (xs++[v]) (-1)=some v:=by
 have hl:(xs++[v]).length=xs.length+1:=by simp
 have e:ixN (xs++[v]).length (-1)=some xs.length:=by
  unfold ixN;rw[hl,if_neg (by decide),if_pos (by omega)]
  congr 1
  omega
 unfold atI;rw[e];show(xs++[v])[xs.length]?=some v;simp
def IX(b:Expr):Prop:=∀o i,subscripted b false o i=operate [o,i] (getItem o i)
noncomputable def IxR(X:Cx)(r:R2):Prop :=
 ∀(value slice:Expr) (pins:List (Addr×Obj)) (s:Shared) (σ:St) (H:Hp) (x y:V) (v u:Value) (Q:VK),Inv X pins σ H s->RelV x v->RelV y u->r x y H Q ->
  subscripted slice false v u=operate [v,u] (getItem v u)->wpAny (model X.prog X.w) X.A (subscriptTail value slice v u) (EP X pins σ Q) X.xe s
noncomputable def MtR(X:Cx)(id:String)(r:V->List V->Hp->VK->Prop):Prop :=
 ∀(pins:List (Addr×Obj)) (s:Shared) (σ:St) (H:Hp) (x:V) (xs:List V) (v:Value) (us:List Value) (Q:VK),Inv X pins σ H s->RelV x v->Vals xs us->r x xs H Q ->
  wpAny (model X.prog X.w) X.A (call (.builtin id) (v::us)) (EP X pins σ Q) X.xe s
section
variable {X:Cx}{a b:Expr}{ta tb:TE}{pos:Pos}
theorem aw{r:R2}(hr:IxR X r)(ha:PE X a ta)(hb:PE X b tb)(hs:IX b):PE X (.Subscript a b pos) (tOp r ta tb):=by intro pins s σ H Q I h;exact Subscript_ (tV ha hb I h λv u s2 x y H2 I2 rx ry q=>hr a b pins s2 σ H2 x y v u Q I2 rx ry q (hs _ _))
def wc(K:PySem.W.Frag):R2:=λx y H Q=>∃p xs i v,x=.ref p/\y=.int i/\SqL K H p xs/\atI xs i=some v/\Q v H
def wb(K:PySem.W.Frag):R2:=λx y H Q=>∃p xs i v,x=.ref p/\y=.int i/\SqT K H p xs/\atI xs i=some v/\Q v H
def Bx:R2:=λx y H Q=>∃z i c,x=.str z/\y=.int i/\z.length<=sizeLine/\atI z.cps.toList i=some c/\Q (.str ⟨#[c]⟩) H
theorem Fo:IxR X (wc X.K):=by
 intro value slice pins s σ H x y v u Q I rx ry h hs;obtain⟨p,xs,i,z,rfl,rfl,hq,he,q⟩:=h;cases rx;obtain⟨t,rfl⟩:=ry;obtain⟨its,r,pl,hz⟩:=I.list hq;obtain⟨j,h1,h2,h3,h4,h5⟩:=ur he;obtain⟨w,ew,rw'⟩:=r.get h2;have hl:=r.length;have hn:=lF;have fin:EP X pins σ Q w s:=⟨z,H,I,rw',q⟩;by_cases h0:0<=i
 ·have hj:i.toNat=j:=by rw[seqIndex_of h0 h5]at h1;exact Option.some.inj h1
  exact item_listR pl.isList h0 (by omega) (by rw[hj];simpa using ew) fin hs
 ·have hj:(i+(its.toArray.size:Int)).toNat=j:=by rw[seqIndex_neg (by omega) h4]at h1;rw[Kh,<- hl];exact Option.some.inj h1
  exact subscriptTail_builtinR (x:=w) pl.isList.typeIs slot_list_getitem.lookup
   (wpAny_getItem_list_neg (Q:=λr s'=>r=w/\EP X pins σ Q r s') pl.isList (by omega) (by rw[Kh]<;>omega) (by omega) (by rw[hj];simpa using ew) ⟨rfl,fin⟩) hs
theorem Fn:IxR X (wb X.K):=by
 intro value slice pins s σ H x y v u Q I rx ry h hs;obtain⟨p,xs,i,z,rfl,rfl,hq,he,q⟩:=h;cases rx;obtain⟨t,rfl⟩:=ry;obtain⟨its,r,pl,hz⟩:=I.tuple hq;obtain⟨j,h1,h2,h3,h4,h5⟩:=ur he;obtain⟨w,ew,rw'⟩:=r.get h2;have hl:=r.length;have hn:=lF;have fin:EP X pins σ Q w s:=⟨z,H,I,rw',q⟩
 exact subscriptTail_builtinR (x:=w) pl.typeIs slot_tuple_getitem.lookup
  (getItem_tuple (j:=j) (Q:=λr s'=>r=w/\EP X pins σ Q r s') pl (by omega) (by omega) (by rw[Kh,<- hl];exact h1) (by simpa using ew) ⟨rfl,fin⟩) hs
theorem jj:IxR X Bx:=by
 intro value slice pins s σ H x y v u Q I rx ry h hs;obtain⟨z,i,c,rfl,rfl,hz,he,q⟩:=h;obtain⟨t,rfl⟩:=rx;obtain⟨t',rfl⟩:=ry;obtain⟨j,h1,h2,h3,h4,h5⟩:=ur he;have hl:z.cps.toList.length=z.length:=by simp[Str.length]
 rw[hl]at h1 h4 h5;have hn:=lF
 exact tail_any (typeIs_str s z t) slot_str_getitem.lookup (getItem_str (c:=c) (by
  have e1:decide (i < -(2^63:Int))=false:=decide_eq_false (by omega);have e2:decide (i≥2^63)=false:=decide_eq_false (by omega)
  rw[e1,e2,Bool.or_false]) (by rw[h1];simpa using h2) ⟨.str ⟨#[c]⟩,H,I.tok _,⟨_,rfl⟩,q⟩) hs
theorem D8(its:List Value)(n j:Nat)(u:Value):Obj.mapSeq (·.setIfInBounds j u) { cls:=.type "list",data:=.seq its.toArray n }={ cls:=.type "list",data:=.seq (its.set j u).toArray n }:=by simp[Obj.mapSeq]
theorem Inv.lst{pins:List (Addr×Obj)}{σ:St}{H:Hp}{s:Shared}{p:Addr}{xs:List V}(I:Inv X pins σ H s)(h:H p=some (.lst xs)) :
 ∃(its:List Value) (n:Nat),Vals xs its/\s.heap.get? p=some { cls:=.type "list",data:=.seq its.toArray n }/\xs.length<=sizeLine:=by
 obtain⟨z,its,n,r,e⟩:=I.hok p _ h;exact⟨its,n,r,e,z⟩
theorem Inv.lstUpd{pins:List (Addr×Obj)}{σ:St}{H:Hp}{s:Shared}{p:Addr}{xs ys:List V}{its its':List Value}{n n':Nat}{f:Obj->Obj}(I:Inv X pins σ H s)(h:H p=some (.lst xs))
 (ho:s.heap.get? p=some { cls:=.type "list",data:=.seq its.toArray n }) (hf:f { cls:=.type "list",data:=.seq its.toArray n }={ cls:=.type "list",data:=.seq its'.toArray n' }) (r:Vals ys its') (hz:ys.length<=sizeLine) (t:Nat) :
 Inv X pins σ (upd H p (.lst ys)) { s with heap:=s.heap.update p f,toks:=t }:=by
 have e:(s.heap.update p f).get? p=some { cls:=.type "list",data:=.seq its'.toArray n' }:=by rw[Heap.get?_update_self f ho (by rw[hf]<;>rfl),hf]
 refine I.write (x:=p) (e:=p) (by rw[h];trivial) (.inl rfl) (λb u hb q=>(Heap.get?_update_other _ _ (Ne.symm hb)).trans q) ⟨_,e⟩ ?_;exact⟨hz,its',n',r,e⟩
noncomputable def Bs:V->V->V->Hp->(Hp->Prop)->Prop:=λo i v H Q=>∃p xs k j,o=.ref p/\i=.int k/\H p=some (.lst xs)/\ixN xs.length k=some j/\Q (upd H p (.lst (xs.set j v)))
theorem Ao:yS X Bs:=by
 intro pins s σ H o i v ov iv u Q I ro ri rv h;obtain⟨p,xs,k,j,rfl,rfl,hp,hj,q⟩:=h;cases ro;obtain⟨t,rfl⟩:=ri;obtain⟨its,n,r,ho,hz⟩:=I.lst hp;obtain⟨h1,h2,h3,h4⟩:=xI hj;have hl:=r.length;have hn:=lF
 have I':Inv X pins σ (upd H p (.lst (xs.set j v))) { s with heap:=s.heap.update p (Obj.mapSeq (·.setIfInBounds j u)) } :=
  I.lstUpd hp ho (D8 its n j u) (r.set rv j) (by rw[List.length_set];exact hz) s.toks
 by_cases h0:0<=k
 ·have hk:k.toNat=j:=by rw[seqIndex_of h0 h4]at h1;exact Option.some.inj h1
  exact PySem.W.ki_setAt ho h0 (by omega) (by rw[Kh,<- hl];exact h4) (by rw[hk];exact⟨_,I',q⟩)
 ·have hk:(k+(its.toArray.size:Int)).toNat=j:=by rw[seqIndex_neg (by omega) h3]at h1;rw[Kh,<- hl];exact Option.some.inj h1
  exact PySem.W.ki_setBack ho (by omega) (by rw[Kh,<- hl];exact h3) (by omega) (by rw[hk];exact⟨_,I',q⟩)
theorem Af(lo hi:Option Int)(n:Nat):(sliceBounds lo hi none n).1=((HT.sIx n 0 lo:Nat):Int)/\(sliceBounds lo hi none n).2.1=((HT.sIx n n hi:Nat):Int)/\(sliceBounds lo hi none n).2.2=1:=by
 refine⟨?_,?_,rfl⟩
 ·cases lo with
  |none=>simp[sliceBounds,HT.sIx]
  |some i =>
   simp only[sliceBounds,HT.sIx,Option.getD_none,show(1:Int)>0 by decide,if_true];by_cases h:i<0
   ·simp only[h,if_true]<;>omega
   ·simp only[h,if_false]<;>omega
 ·cases hi with
  |none=>simp[sliceBounds,HT.sIx]
  |some i =>
   simp only[sliceBounds,HT.sIx,Option.getD_none,show(1:Int)>0 by decide,if_true];by_cases h:i<0
   ·simp only[h,if_true]<;>omega
   ·simp only[h,if_false]<;>omega
theorem Ag(its:List Value)(lo hi:Option Int):slicePick its.toArray lo hi none=((its.drop (HT.sIx its.length 0 lo)).take (HT.sIx its.length its.length hi-HT.sIx its.length 0 lo)).toArray:=by obtain⟨h1,h2,h3⟩:=Af lo hi its.toArray.size;unfold slicePick;rw[h1,h2,h3];simp only[sliceRange_one,pick_run,Kh]<;>rfl
noncomputable def qV(K:PySem.W.Frag):V->Option Int->Option Int->Hp->VK->Prop:=λx lo hi H Q=>∃a xs,x=.ref a/\SqL K H a xs/\∀p,H p=none->Q (.ref p) (upd H p (.lst (dg xs lo hi)))
theorem Ah:SlR X (qV X.K):=by intro pins s σ H x v vl vu lo hi sl Q I rx hs pl pu h;obtain⟨a,xs,rfl,hx,q⟩:=h;cases rx;obtain⟨its,r,ht,hz⟩:=I.list hx;have hlen:=r.length;refine⟨"list",_,slot_list_getitem.lookup,ht.isList.typeIs,?_⟩;refine wpAny_getItem_list_slice ht.isList hs pl pu .none (by simp) ?_ (by rw[Kh]<;>omega);rw[Ag,<- hlen];refine⟨.ref s.heap.objs.size,_,I.laid (t':=s.toks) (o:=.lst (dg xs lo hi)) (λb ob q=>Heap.get?_push_of_some _ q) (J3 _) ?_,rfl,q _ (I.hok.fresh (J3 _))⟩;exact⟨J7 (HF xs lo hi) hz,_,0,(r.drop (HT.sIx xs.length 0 lo)).take (HT.sIx xs.length xs.length hi-HT.sIx xs.length 0 lo),Heap.get?_push_size _ rfl⟩
noncomputable def iy:V->Bool
 |.non=>true
 |.bl _=>true
 |.int _=>true
 |.str _=>true
 |_=>false
noncomputable def eqV:V->V->Bool
 |.non,.non=>true
 |.bl a,.bl b=>a == b
 |.bl a,.int b=>(if a then 1 else 0) == b
 |.int a,.bl b=>a == (if b then 1 else 0)
 |.int a,.int b=>a == b
 |.str a,.str b=>a == b
 |_,_=>false
theorem Hj{A:Around}{s:Shared}{y x:V}{u v:Value}(ry:RelV y u)(rx:RelV x v)(fy:iy y=true)(fx:iy x=true):SeqAt.EqAt A s u v (eqV y x):=by
 cases y with
 |non =>
  cases ry;cases x with
  |non=>cases rx;exact SeqAt.EqAt.same _
  |bl b=>cases rx;exact SeqAt.EqAt.none_bool b
  |int b=>obtain⟨t,rfl⟩:=rx;exact SeqAt.EqAt.none_int b t
  |str b=>obtain⟨t,rfl⟩:=rx;exact SeqAt.EqAt.none_str b t
  |_=>exact absurd (show false=true from fx) Ka
 |bl a =>
  cases ry;cases x with
  |non=>cases rx;exact SeqAt.EqAt.bool_none a
  |bl b=>cases rx;exact SeqAt.EqAt.bool_bool a b
  |int b=>obtain⟨t,rfl⟩:=rx;exact SeqAt.EqAt.bool_int a b t
  |str b=>obtain⟨t,rfl⟩:=rx;exact SeqAt.EqAt.bool_str a b t
  |_=>exact absurd (show false=true from fx) Ka
 |int a =>
  obtain⟨t',rfl⟩:=ry;cases x with
  |non=>cases rx;exact SeqAt.EqAt.int_none a t'
  |bl b=>cases rx;exact SeqAt.EqAt.int_bool a t' b
  |int b=>obtain⟨t,rfl⟩:=rx;exact SeqAt.EqAt.int_int a t' b t
  |str b=>obtain⟨t,rfl⟩:=rx;exact SeqAt.EqAt.int_str a t' b t
  |_=>exact absurd (show false=true from fx) Ka
 |str a =>
  obtain⟨t',rfl⟩:=ry;cases x with
  |non=>cases rx;exact SeqAt.EqAt.str_none a t'
  |bl b=>cases rx;exact SeqAt.EqAt.str_bool a t' b
  |int b=>obtain⟨t,rfl⟩:=rx;exact SeqAt.EqAt.str_int a t' b t
  |str b=>obtain⟨t,rfl⟩:=rx;exact SeqAt.EqAt.str_str a t' b t
  |_=>exact absurd (show false=true from fx) Ka
 |_=>exact absurd (show false=true from fy) Ka
noncomputable def eqU(x:V)(u:Value):Bool:=match u with
 |.none=>eqV .non x
 |.bool b=>eqV (.bl b) x
 |.int i _=>eqV (.int i) x
 |.str z _=>eqV (.str z) x
 |_=>false
theorem yl{x y:V}{u:Value}(r:RelV y u)(f:iy y=true):eqU x u=eqV y x:=by
 cases y with
 |non=>cases r;rfl
 |bl b=>cases r;rfl
 |int i=>obtain⟨t,rfl⟩:=r;rfl
 |str z=>obtain⟨t,rfl⟩:=r;rfl
 |_=>exact absurd (show false=true from f) Ka
theorem nU{x:V}:∀{xs:List V} {us:List Value},Vals xs us->xs.all iy=true->us.any (eqU x)=xs.any λy=>eqV y x
 |_,_,.nil,_=>rfl
 |y::xs,u::us,.cons r t,f=>by rw[List.all_cons,Kf]at f;rw[List.any_cons,List.any_cons,yl r f.1,nU t f.2]
theorem mE{A:Around}{s:Shared}{x:V}{v:Value}(rx:RelV x v)(fx:iy x=true):∀{xs:List V} {us:List Value},Vals xs us->xs.all iy=true->∀u∈us,SeqAt.EqAt A s u v (eqU x u)
 |_,_,.nil,_=>λu hu=>by cases hu
 |y::xs,u::us,.cons r t,f=>λu' hu=>by
  rw[List.all_cons,Kf]at f;rcases J8.mp hu with rfl |hu
  ·rw[yl r f.1];exact Hj r rx f.1 fx
  ·exact mE rx fx t f.2 u' hu
noncomputable def inV(x:V)(xs:List V):Bool:=xs.any λy=>eqV y x
def rIn(K:PySem.W.Frag)(neg:Bool):R2:=λx y H Q=>∃p xs,y=.ref p/\(SqL K H p xs\/SqT K H p xs)/\iy x=true/\xs.all iy=true/\Q (.bl (if neg then !inV x xs else inV x xs)) H
theorem B4:OpR X (compareOp .In) (rIn X.K false):=by
 intro pins s σ H x y v u Q I rx ry h;obtain⟨p,xs,rfl,hq,fx,fs,q⟩:=h;cases ry;rcases hq with hq |hq
 ·obtain⟨its,r,pl,hz⟩:=I.list hq;refine SeqAt.in_listAt (eqU x) pl.isList (λw hw=>mE rx fx r fs w (by simpa using hw)) ⟨.bl _,H,I,rfl,?_⟩;rw[show its.toArray.any (eqU x)=its.any (eqU x) by simp,nU r fs];exact q
 ·obtain⟨its,r,pl,hz⟩:=I.tuple hq;refine SeqAt.in_tupleAt (eqU x) pl (λw hw=>mE rx fx r fs w (by simpa using hw)) ⟨.bl _,H,I,rfl,?_⟩;rw[show its.toArray.any (eqU x)=its.any (eqU x) by simp,nU r fs];exact q
theorem B0:OpR X (compareOp .NotIn) (rIn X.K true):=by
 intro pins s σ H x y v u Q I rx ry h;obtain⟨p,xs,rfl,hq,fx,fs,q⟩:=h;cases ry;rcases hq with hq |hq
 ·obtain⟨its,r,pl,hz⟩:=I.list hq;refine SeqAt.notIn_listAt (eqU x) pl.isList (λw hw=>mE rx fx r fs w (by simpa using hw)) ⟨.bl _,H,I,rfl,?_⟩;rw[show its.toArray.any (eqU x)=its.any (eqU x) by simp,nU r fs];exact q
 ·obtain⟨its,r,pl,hz⟩:=I.tuple hq;refine SeqAt.notIn_tupleAt (eqU x) pl (λw hw=>mE rx fx r fs w (by simpa using hw)) ⟨.bl _,H,I,rfl,?_⟩;rw[show its.toArray.any (eqU x)=its.any (eqU x) by simp,nU r fs];exact q
theorem HS:cL X (.builtin "len") (λxs H Q=>∃p ys,xs=[.ref p]/\(SqL X.K H p ys\/SqT X.K H p ys)/\Q (.int ys.length) H):=by
 intro pins s σ H xs us Q I r h;obtain⟨p,ys,rfl,hq,q⟩:=h;obtain⟨u,rfl,rx⟩:=fZ r;cases rx;have hn:=lF;rcases hq with hq |hq
 ·obtain⟨its,r',pl,hz⟩:=I.list hq;have hlen:=r'.length;exact Calls.call_len_list pl.isList (by simp only[Kh]<;>omega) ⟨.int ys.length,H,I.tok _,⟨s.toks+1,by rw[Kh,hlen]⟩,q⟩
 ·obtain⟨its,r',pl,hz⟩:=I.tuple hq;have hlen:=r'.length;exact len_tuple pl (by simp only[Kh]<;>omega) ⟨.int ys.length,H,I.tok _,⟨s.toks+1,by rw[Kh,hlen]⟩,q⟩
theorem lM:cL X (.builtin "len") (λxs H Q=>∃z,xs=[.str z]/\z.length<=sizeLine/\Q (.int z.length) H):=by intro pins s σ H xs us Q I r h;obtain⟨z,rfl,hz,q⟩:=h;obtain⟨u,rfl,t,rfl⟩:=fZ r;have hn:=lF;exact len_str (by omega) ⟨.int z.length,H,I.tok _,⟨_,rfl⟩,q⟩
theorem HR:cL X (.type "list") (λxs H Q=>∃p ys,xs=[.ref p]/\(SqL X.K H p ys\/SqT X.K H p ys)/\∀l,H l=none->Q (.ref l) (upd H l (.lst ys))):=by
 intro pins s σ H xs us Q I r h;obtain⟨p,ys,rfl,hq,q⟩:=h;obtain⟨u,rfl,rx⟩:=fZ r;cases rx
 have fin:∀(its:List Value),Vals ys its->ys.length<=sizeLine->∀(h':Heap) (c':Nat),(∀b o',s.heap.get? b=some o'->h'.get? b=some o') ->
  h'.get? s.heap.objs.size=some { cls:=.type "list",dict:=none,data:=.seq its.toArray c',slots:=#[] }->EP X pins σ Q (.ref s.heap.objs.size) { s with heap:=h' }:=λits r' hz h' c' kp e =>
  ⟨.ref s.heap.objs.size,_,I.laid (t':=s.toks) kp (J3 _) (show ObjOk X.prog X.w _ h' _ (.lst ys)from⟨hz,its,c',r',e⟩),rfl,q _ (I.hok.fresh (J3 _))⟩
 rcases hq with hq |hq
 ·obtain⟨its,r',pl,hz⟩:=I.list hq;have hlen:=r'.length;obtain⟨o,ho,hc,n,hd⟩:=pl.isList;exact call_list_seq p (.inl rfl) ho hc hd (λh' c' kp e=>fin its r' hz h' c' kp e) (by simp only[Kh]<;>omega)
 ·obtain⟨its,r',pl,hz⟩:=I.tuple hq;have hlen:=r'.length;obtain⟨o,ho,hc,n,hd⟩:=pl;exact call_list_seq p (.inr rfl) ho hc hd (λh' c' kp e=>fin its r' hz h' c' kp e) (by simp only[Kh]<;>omega)
def tyV(K:PySem.W.Frag)(T:String)(x:V)(H:Hp):Prop:=match x with
 |.str _=>T="str"
 |.int _=>T="int"
 |.ref p=>(T="list"/\∃xs,SqL K H p xs)\/(T="tuple"/\∃o,K.lookup p=some o/\o.cls=.type "tuple"/\o.dict=none) \/
  (T="dict"/\((∃kvs,H p=some (.dK kvs))\/∃kvs,H p=some (.dT kvs)))\/(T="set"/\∃S n,H p=some (.set S n))
 |_=>False
theorem vj{pins:List (Addr×Obj)}{σ:St}{H:Hp}{s:Shared}{T:String}{x:V}{v:Value}(I:Inv X pins σ H s)(r:RelV x v)(ty:tyV X.K T x H) :
 s.TypeIs v T/\∀a,v=.ref a->∃ob,s.heap.get? a=some ob/\ob.dict=none:=by
 cases x with
 |str z =>obtain⟨t,rfl⟩:=r;cases(show T="str" from ty);exact⟨typeIs_str s z t,λ_ e=>nomatch e⟩
 |int i =>obtain⟨t,rfl⟩:=r;cases(show T="int" from ty);exact⟨typeIs_int s i t,λ_ e=>nomatch e⟩
 |ref p =>
  cases r;rcases ty with⟨rfl,xs,hq⟩ |⟨rfl,o,hk,hc,hd⟩ |⟨rfl,hk⟩ |⟨rfl,S,n,hk⟩
  ·obtain⟨its,_,pl,_⟩:=I.list hq;refine⟨pl.isList.typeIs,λa e=>?_⟩;cases e;obtain⟨o,n,e,c,hd,_⟩:=pl;exact⟨o,e,hd⟩
  ·refine⟨⟨o,I.kIn p o hk,hc⟩,λa e=>?_⟩;cases e;exact⟨o,I.kIn _ o hk,hd⟩
  ·have z:∃o,s.heap.get? p=some o/\o.ExactDict:=by
    rcases hk with⟨kvs,hk⟩ |⟨kvs,hk⟩
    ·obtain⟨_,_,_,_,o,_,_,e,ex,_⟩:=I.hok p _ hk;exact⟨o,e,ex⟩
    ·obtain⟨_,_,_,_,o,_,_,e,ex,_⟩:=I.hok p _ hk;exact⟨o,e,ex⟩
   obtain⟨o,e,ex⟩:=z;refine⟨⟨o,e,ex.1⟩,λa e2=>?_⟩;cases e2;exact⟨o,e,ex.2.1⟩
  ·obtain⟨o,_,_,_,e,ex,_⟩:=I.hok p _ hk;refine⟨⟨o,e,ex.1⟩,λa e2=>?_⟩;cases e2;exact⟨o,e,ex.2.1⟩
 |_=>exact False.elim ty
def zV(K:PySem.W.Frag)(T:String)(r:V->List V->Hp->VK->Prop)(to:TE):TE:=λσ H Q=>to σ H λx H1=>tyV K T x H1/\r x [] H1 Q
def tBM(K:PySem.W.Frag)(T:String)(r:V->List V->Hp->VK->Prop)(to:TE)(t:TA):TE:=λσ H Q=>to σ H λx H1=>tyV K T x H1/\t σ H1 λxs H2=>r x xs H2 Q
variable {o e:Expr}{es:List Expr}{to:TE}{t:TA}{name:Str}{apos cpos:Pos}{T id:String}{r:V->List V->Hp->VK->Prop}
theorem BW(pa:PlainAttrs T)(slot:Slot T name id)(hty:typeOf (.builtin id)=pure (.type "method_descriptor"))(hm:MtR X id r)(ho:PE X o to)
 (hbase:attributeBase o name X.env (eval o X.env)=eval o X.env:=by rfl) (hline:(apos.endLine == cpos.line)=true:=by rfl):PE X (.Call (.Attribute o name apos) [] [] cpos) (zV X.K T r to):=by
 intro pins s σ H Q I h;refine wpAny_Call_method0_late hbase hline (thn (ho pins s σ H _ I h) λv s1 ⟨x,H1,I1,r1,ty,q1⟩=>?_);obtain⟨h1,h2⟩:=vj I1 r1 ty;exact⟨T,id,pa,slot,hty,h1,h2,Calls.callWith_builtin rfl (PySem.evalArgs_none (hm pins s1 σ H1 x [] v [] Q I1 r1 .nil q1))⟩
theorem fR(pa:PlainAttrs T)(slot:Slot T name id)(hty:typeOf (.builtin id)=pure (.type "method_descriptor"))(hm:MtR X id r)(ho:PE X o to)(ha:PA X (e::es) t)
 (hbase:attributeBase o name X.env (eval o X.env)=eval o X.env:=by rfl)
 (hfew:((backTo cpos (starEach (e::es) X.env)).all (λx=>!x.1)&&(backToKw cpos (keywordEach [] X.env)).all (λx=>x.1.isSome)
   && decide ((e::es).length+([]:List Keyword).length+(if([]:List Keyword).isEmpty then 0 else 1)<30))=true:=by rfl)
 (hline:(apos.endLine == cpos.line)=true:=by rfl) (hs:starEach (e::es) X.env=(false,eval e X.env)::starEach es X.env:=by rfl) (hplain:(backTo cpos (starEach es X.env)).any (·.1)=false:=by rfl) :
 PE X (.Call (.Attribute o name apos) (e::es) [] cpos) (tBM X.K T r to t):=by
 intro pins s σ H Q I h;refine wpAny_Call_method_late hbase hfew hline rfl (thn (ho pins s σ H _ I h) λv s1 ⟨x,H1,I1,r1,ty,q1⟩=>?_);obtain⟨h1,h2⟩:=vj I1 r1 ty;refine⟨T,id,pa,slot,hty,h1,h2,?_⟩;have hA:=ha cpos pins s1 σ H1 _ I1 q1;rw[hs]at hA ⊢;refine Calls.callWith_builtin (by show(false || (backTo cpos (starEach es X.env)).any (·.1))=false;rw[hplain]<;>rfl) (Calls.evalArgs_plain ?_);exact thn hA λus s2 ⟨vs,H2,I2,r2,q2⟩=>hm pins s2 σ H2 x vs v us Q I2 r1 r2 q2
end
noncomputable def MtM(X:Cx)(id:String)(r:V->List V->Hp->VK->Prop):Prop :=
 ∀(pins:List (Addr×Obj)) (s:Shared) (σ:St) (H:Hp) (x:V) (xs:List V) (v:Value) (us:List Value) (Q:VK),Inv X pins σ H s->RelV x v->Vals xs us->r x xs H Q ->
  wpAny (model X.prog X.w) X.A (call (.builtin id) (v::us)) (EP X pins σ Q) X.xe s
theorem Vals.one:∀{x:V} {us:List Value},Vals [x] us->∃u,us=[u]/\RelV x u
 |_,_,.cons r .nil=>⟨_,rfl,r⟩
theorem Vals.two:∀{x y:V} {us:List Value},Vals [x,y] us->∃u v,us=[u,v]/\RelV x u/\RelV y v
 |_,_,_,.cons r (.cons q .nil)=>⟨_,_,rfl,r,q⟩
theorem Vals.zero:∀{us:List Value},Vals [] us->us=[]
 |_,.nil=>rfl
theorem Vals.reverse{xs:List V}{us:List Value}(h:Vals xs us):Vals xs.reverse us.reverse:=by
 induction h with
 |nil=>exact .nil
 |cons r t ih=>rw[KL,KL];exact Vals.append ih (.cons r .nil)
theorem Vals.rep{xs:List V}{us:List Value}(h:Vals xs us):∀k:Nat,Vals (List.replicate k xs).flatten (List.replicate k us).flatten
 |0=>.nil
 |k+1=>by rw[KC,KC,KE,KE];exact Vals.append h (Vals.rep h k)
theorem x9(its:List Value):∀(k:Nat) (acc:List Value),
 List.foldl (λx1 x2=>x1++x2) acc.toArray (List.replicate k its.toArray)=(acc++(List.replicate k its).flatten).toArray
 |0,acc=>by simp
 |k+1,acc=>by
  have e:acc.toArray++its.toArray=(acc++its).toArray:=by simp
  have e2:(acc++its)++(List.replicate k its).flatten=acc++(List.replicate (k+1) its).flatten:=by rw[KC,KE,J5]
  rw[<- e2,<- x9 its k (acc++its),<- e,KC,K0]
section
variable {X:Cx}{pins:List (Addr×Obj)}{σ:St}{H:Hp}{s:Shared}{l b:Addr}{xs ys zs:List V}
theorem Inv.lset{its its':List Value}{n:Nat}{f:Array Value->Array Value}{t':Nat}(I:Inv X pins σ H s)(hH:H l=some (.lst xs))
 (e:s.heap.get? l=some { cls:=.type "list",data:=.seq its.toArray n }) (hf:f its.toArray=its'.toArray) (hv:Vals ys its') (hz:ys.length<=sizeLine) :
 Inv X pins σ (upd H l (.lst ys)) { s with heap:=s.heap.update l (Obj.mapSeq f),toks:=t' }:=by
 have q:=PySem.IsL.update e f;rw[hf]at q;refine I.write (x:=l) (e:=l) (by rw[hH];exact trivial) (.inl rfl) (λb' u hb hu=>(Heap.get?_update_other s.heap (Obj.mapSeq f) (Ne.symm hb)).trans hu) ⟨_,q⟩ ?_;exact⟨hz,its',_,hv,q⟩
theorem Inv.lnew{its:List Value}{t':Nat}(I:Inv X pins σ H s)(hv:Vals ys its)(hz:ys.length<=sizeLine) :
 Inv X pins σ (upd H s.heap.objs.size (.lst ys)) { s with heap:=s.heap.push { cls:=.type "list",data:=.seq its.toArray },toks:=t' } :=
 I.laid (λ_ _ q=>Heap.get?_push_of_some _ q) (J3 _) ⟨hz,its,0,hv,Heap.get?_push_size _ rfl⟩
theorem Inv.fresh(I:Inv X pins σ H s):H s.heap.objs.size=none:=I.hok.fresh (J3 _)
theorem Inv.lstM(I:Inv X pins σ H s)(hH:H l=some (.lst xs)):xs.length<=sizeLine/\∃(its:List Value) (n:Nat),Vals xs its/\xs.length=its.length/\s.heap.get? l=some { cls:=.type "list",data:=.seq its.toArray n }:=by obtain⟨z,its,n,r,e⟩:=I.hok l _ hH;exact⟨z,its,n,r,r.length,e⟩
theorem DI{n:Nat}(h:n<=sizeLine):Builtin.List.listTooLong n=false:=by unfold Builtin.List.listTooLong;exact decide_eq_false (by omega)
end
section
variable {X:Cx}
noncomputable def Bz:V->List V->Hp->VK->Prop:=λx vs H Q=>∃l xs y,x=.ref l/\vs=[y]/\H l=some (.lst xs)/\xs.length<sizeLine/\Q .non (upd H l (.lst (xs++[y])))
theorem il:MtM X "list.append" Bz:=by intro pins s σ H x vs v us Q I rx rv h;obtain⟨l,xs,y,rfl,rfl,hH,hz,q⟩:=h;cases rx;obtain⟨u,rfl,ru⟩:=rv.one;obtain⟨z,its,n,r,hl,e⟩:=I.lstM hH;refine call_meets F.slot_list_append ⟨_,e,rfl⟩ F.entry_list_append (F.args_list_append_2 _ _) (PySem.list_append l its.toArray n u (by rw[Kh];omega)) ⟨e,?_⟩;refine⟨.non,_,I.lset (its':=its++[u]) hH e (by simp) (r.append (.cons ru .nil)) ?_,rfl,q⟩;rw[J2,Lh];omega
noncomputable def Bt:V->List V->Hp->VK->Prop:=λx vs H Q=>∃l xs,x=.ref l/\vs=[]/\H l=some (.lst xs)/\Q .non (upd H l (.lst xs.reverse))
theorem DO:MtM X "list.reverse" Bt:=by intro pins s σ H x vs v us Q I rx rv h;obtain⟨l,xs,rfl,rfl,hH,q⟩:=h;cases rx;have hus:=rv.zero;subst hus;obtain⟨z,its,n,r,hl,e⟩:=I.lstM hH;refine call_meets F.slot_list_reverse ⟨_,e,rfl⟩ F.entry_list_reverse (F.args_list_reverse_1 _) (AutoSeq1.list_reverse_list_0 l its.toArray n (by rw[Kh];omega)) ⟨e,?_⟩;refine⟨.non,_,I.lset (its':=its.reverse) hH e (by simp) r.reverse ?_,rfl,q⟩;rw[Kx];omega
def By:R2:=λx y H Q=>∃l b xs zs,x=.ref l/\y=.ref b/\H l=some (.lst xs)/\H b=some (.lst zs)/\xs.length+zs.length<=sizeLine/\∀p,H p=none->Q (.ref p) (upd H p (.lst (xs++zs)))
theorem rg:OpR X (binaryOp .Add) By:=by
 intro pins s σ H x y v u Q I rx ry h;obtain⟨l,b,xs,zs,rfl,rfl,hH,hB,hz,q⟩:=h;cases rx;cases ry;obtain⟨z,its,n,r,hl,e⟩:=I.lstM hH;obtain⟨z2,its2,n2,r2,hl2,e2⟩:=I.lstM hB;refine PySem.P.add_list e e2 ?_ (by rw[Kh,Kh];omega);have ea:its.toArray++its2.toArray=(its++its2).toArray:=by simp
 rw[ea];exact⟨.ref _,_,I.lnew (t':=s.toks) (r.append r2) (by rw[J2];omega),rfl,q _ I.fresh⟩
def Bu:R2:=λx y H Q=>∃l k xs,x=.ref l/\y=.int k/\H l=some (.lst xs) /\ -(2^63)<=k/\k<2^63/\xs.length*k.toNat<=sizeLine /\
 ∀p,H p=none->Q (.ref p) (upd H p (.lst (List.replicate k.toNat xs).flatten))
theorem EK{α:Type}(xs:List α)(k:Nat):(List.replicate k xs).flatten.length=k*xs.length:=by
 induction k with
 |zero=>simp
 |succ k ih=>rw[KC,KE,J2,ih,Nat.succ_mul,Nat.add_comm]
theorem wx:OpR X (binaryOp .Mult) Bu:=by
 intro pins s σ H x y v u Q I rx ry h;obtain⟨l,k,xs,rfl,rfl,hH,h1,h2,hz,q⟩:=h;cases rx;obtain⟨t,rfl⟩:=ry;obtain⟨z,its,n,r,hl,e⟩:=I.lstM hH;have hlen:its.toArray.size*k.toNat<=sizeLine:=by rw[Kh,<- hl];exact hz
 have hcap:¬its.toArray.size*k.toNat>(2^63-1)/8:=by
  have:(sizeLine:Nat)<=(2^63-1)/8:=by decide
  omega
 have hfit:¬(!Builtin.List.listFitsIndex k)=true:=by rw[fitsIndex_both h1 h2];exact Ka
 have hlong:¬Builtin.List.listTooLong (its.toArray.size*k.toNat)=true:=by rw[DI hlen];exact Ka
 have hnew:List.foldl (λx1 x2=>x1++x2) #[] (List.replicate (if its.toArray.isEmpty=true then 0 else k.toNat) its.toArray)=(List.replicate k.toNat its).flatten.toArray:=by
  have f0:∀m:Nat,List.foldl (λx1 x2=>x1++x2) #[] (List.replicate m its.toArray)=(List.replicate m its).flatten.toArray:=λm=>by have:=x9 its m [];rw[Ko]at this;exact this
  rw[f0];cases its with
  |nil=>simp
  |cons a r'=>rw[if_neg (by simp)]
 refine wpAny_binaryOp_repeat_ref (T:="list") (U:="int") (by decide) ⟨_,e,rfl⟩ (λs'=>typeIs_int s' k t) noFill_list_mul F.fills_int_mul F.slot_int_rmul repeat_list F.slot_int_index.lookup
  (call_meets F.slot_int_rmul (typeIs_int s k t) F.entry_int_rmul (F.args_int_rmul_2 _ _) (int___rmul___int_list k t l its.toArray n)
    ⟨e,rfl,⟨_,e,rfl⟩,call_meets F.slot_list_mul ⟨_,e,rfl⟩ F.entry_list_mul (F.args_list_mul_2 _ _) (AutoListH.list___mul___list_int_3 l its.toArray n k t hfit hcap hlong) ⟨e,?_⟩⟩)
 rw[hnew];exact⟨.ref _,_,I.lnew (t':=s.toks) (r.rep k.toNat) (by rw[EK,Nat.mul_comm];exact hz),rfl,q _ I.fresh⟩
end
section
variable {prog:Program}{w:World}{A:Around}{E:Value->Shared->Prop}{s:Shared}
end
section
variable {X:Cx}
end
end L2
namespace Att
open PySem PySem.W PySem.Calls PyProof.Rows
theorem FA{P:Params}{h:Heap}:∀(ns:List Int) (vs:List Value),WellAll P h vs (ns.map WData.int)->IntsAre vs ns:=by
 intro ns
 induction ns with
 |nil =>intro vs w;rw[List.map_nil]at w;cases w;exact .nil
 |cons n ns ih =>
  intro vs w;rw[Kw]at w;cases w with
  |cons a b =>cases a;exact .cons _ _ (ih _ b)
theorem Ap{l:OpenLaw}{n:Nat}(hn:l.most=some n){P:Params}{h:Heap}{args:List WData}{vals:List Value}
 (hpre:l.row.toRowW.claim.pre args=true) (hwl:WellAll P h vals args) :
 ∃a vs ns,vals=[Value.ref a]/\args=[WData.list (ns.map WData.int)]/\h.get? a=some { cls:=.type "list",data:=.seq vs.toArray }/\IntsAre vs ns/\ns.length<=n:=by
 have hsh:WShape.hasAll [] args [.list .int]=true:=(pre_splitW hpre).1;have hc:l.pre.holds [] { args:=args }=true:=(pre_splitW hpre).2;obtain⟨d,r,rfl,h1,h2⟩:=hasAllW_cons hsh;obtain rfl:=hasAllW_nil h2;obtain⟨xs,rfl,h3⟩:=hasW_list h1;obtain⟨ns,rfl⟩:=items_int h3
 have hlen:ns.length<=n:=by
  unfold OpenLaw.pre at hc
  have h4:(WTm.not (.lt (.lit (.int (n:Int))) (.len (.arg 0)))).holds [] { args:=[.list (ns.map .int)] }=true:=by have h4:=(holds_andW hc).1;rw[hn]at h4;exact h4
  have h5:=condW_of h4 (w_not (w_lt w_lit (w_len_list (w_arg rfl))));rw[J6]at h5;refine La λq=>?_
  have q':(n:Int)<((ns.length:Nat):Int):=by omega
  first
   | (rw[decide_eq_true q']at h5;exact absurd h5 (by decide))
   | (simp at h5;omega)
 cases hwl with
 |cons w1 w2 =>
  cases w2;cases w1 with
  |list ho hall=>exact⟨_,_,ns,rfl,rfl,ho,FA ns _ hall,hlen⟩
theorem BE(l:OpenLaw)(args:List WData):l.row.toRowW.claim.post args (.bool true) args=true :=
 postW_of (r:=l.row.toRowW) (X:=(true == true))
  (show WShape.has [] (.bool true) .bool=true by first |rfl |decide |simp[WShape.has,WShape.arms,WShape.armsAll])
  (show(WTm.eq .res (.lit (.bool true))).value [] { args:=args,res:=some (.bool true),after:=args }=some (.bool (true == true))from w_eq_bool (w_res rfl) w_lit) rfl
theorem attach_call{l:OpenLaw}{n:Nat}{q:Program}{loose:List Str}{XP:(Str->Option Value)->Heap->Prop}{YP:World->Heap->Prop}{d:DefRec}
 (hn:l.most=some n) (hdf:d.params.defaults=[])
 (call:∀(w:World) (s₀ s₁:Shared) (mg mb:Str->Option Value) (fa:Addr) (o:Obj) (pm cd doc:Value) (a:Addr) (vs:List Value) (ns:List Int),
   Ground q loose [] XP w s₀ mg mb s₁.heap->YP w s₁.heap ->
   s₁.heap.get? fa=some o->o.data=.func (docDef d.name d.params d.body d.scope pm cd doc)->s₁.heap.CodeRec cd d.name->mg d.name=some (.ref fa) ->
   s₁.heap.get? a=some { cls:=.type "list",data:=.seq vs.toArray }->IntsAre vs ns->ns.length<=n->s₁.gens=#[] ->
   codeAny (model l.prog w) callerA (.call (.ref fa) ⟨[.ref a],[]⟩) (λr s'=>r=.ok (.ret (.bool true))/\OldK s₁.heap s'.heap/\s'.os=s₁.os/\AllBare s'.gens) s₁) :
 WalkO q loose XP YP l.row.toRowW d [] (λf vs=>PySem.call f vs):=by
 intro w s₀ s₁ mg mb G Y fa o pm cd doc dV kV ho hd hcd hD hmg hg args vals as hpre hlay hrd hwl hlo;obtain rfl:dV=.none:=Dflts.none hD hdf;obtain rfl:kV=.none:=Dflts.noKw hD;obtain⟨a,vs,ns,rfl,rfl,hobj,hints,hlen⟩:=Ap hn hpre hwl;refine enter_call (codeAny_mono (call w s₀ s₁ mg mb fa o pm cd doc a vs ns G Y ho (fd_plain hd) hcd hmg hobj hints hlen hg) λr s' hq=>?_);obtain⟨rfl,h2,h3,h4⟩:=hq;exact⟨.inl ⟨.bool true,.bool true,[],rfl,λ_=>rfl,.bool true,BE l _,λ_=>⟨List.Pairwise.nil,λ_ hm=>(nomatch hm)⟩⟩,h2,h3,h4⟩
section
variable {prog:Program}{w:World}{A:Around}{E:Value->Shared->Prop}{s:Shared}{K:Frag}
end
end Att
namespace L2
open PySem PySem.Spec PyProof.Rows
theorem vi:∀{vs:List Value} {ns:List Int},IntsAre vs ns->Vals (ns.map V.int) vs
 |_,_,.nil=>.nil
 |_,_,.cons n t h=>.cons ⟨t,rfl⟩ (vi h)
def uv(H:Hp):Prop:=∀b,H b=none\/∃o xs,H b=some (.frz o (.lst xs))
theorem EQ{P:Program}{w:World}{K:PySem.W.Frag}{mg mb:Str->Option Value}{CX:CXT}{k:Nat}{fa a:Addr}{fd:FuncData}{x:Str}{sp:Sp}{s₁:Shared}{vs:List Value}{ns:List Int}
 (KX:K.In s₁.heap) (hns:s₁.heap.Ns mainGlobals mg) (hb:s₁.heap.Ns builtinsNs mb) (hbb:∀x:Str,x≠"__name__"->mb x=bootBuiltins x) (hlim:s₁.heap.NoLimit) (hg:s₁.gens=#[])
 (ha:s₁.heap.get? a=some { cls:=.type "list",data:=.seq vs.toArray }) (hi:IntsAre vs ns) (hl:ns.length<=sizeLine) (hr:Room k callerA)
 (F:∀base:Heap,K.In base->base.Ns mainGlobals mg->FnOk P w K mg base CX k fa fd [x] sp) (hbind:∀(s:Shared) (u:Value),BindsTo s fd ⟨[u],[]⟩ [(x,u)])
 (hsp:∀H:Hp,uv H->SqL K H a (ns.map V.int)->sp [.ref a] H (λv _=>v=.bl true) λ_ _ _=>False)
 (hCX:∀H e s',CX [] H s₁ (λ_ _ _=>False) e s'->False) :
 codeAny (model P w) callerA (.call (.ref fa) ⟨[.ref a],[]⟩) (λr s'=>r=.ok (.ret (.bool true))/\OldK s₁.heap s'.heap/\s'.os=s₁.os/\AllBare s'.gens) s₁:=by
 have rv:=vi hi;have lenV:=hi.length
 have core:∀H:Hp,uv H->SqL K H a (ns.map V.int)->HOk P w H s₁.heap->(∀b,H b≠none->b=a)->(H a≠none->K.lookup a=none) ->
  codeAny (model P w) callerA (.call (.ref fa) ⟨[.ref a],[]⟩) (λr s'=>r=.ok (.ret (.bool true))/\OldK s₁.heap s'.heap/\s'.os=s₁.os/\AllBare s'.gens) s₁:=by
  intro H hO hS hok hA hK;have base_of:∀{b:Addr} {o:Obj},s₁.heap.get? b=some o->H b=none->(gO s₁.heap H).get? b=some o:=λe n=>FS e n
  have noA:∀{b:Addr} {o:Obj} {es:Array DictEntry} {ep:Nat},s₁.heap.get? b=some o->o.data=.dict es ep->H b=none:=λ{b o es ep} e d=>by
   cases q:H b with
   |none=>rfl
   |some u =>have e':b=a:=hA b (by rw[q];simp);subst e';rw[ha]at e;cases e;have d':Data.seq vs.toArray _=Data.dict es ep:=d;cases d'
  have nsK:∀{b:Addr} {m:Str->Option Value},s₁.heap.Ns b m->(gO s₁.heap H).Ns b m:=λ{b m} ⟨o,es,ep,e,d,r⟩=>⟨o,es,ep,base_of e (noA e d),d,r⟩
  have hKb:K.In (gO s₁.heap H):=λb o e=>base_of (KX b o e) (by
   cases q:H b with
   |none=>rfl
   |some u =>
    have e':b=a:=hA b (by rw[q];simp);subst e'
    rw[hK (by rw[q];simp)]at e;cases e)
  have hM:Mod K mg (gO s₁.heap H):=⟨hKb,nsK hns,⟨mb,nsK hb,hbb⟩,let⟨mc,h1,h2⟩:=hlim;⟨mc,nsK h1,h2⟩⟩;have e0:Env0 P w K mg (gO s₁.heap H) callerA [] s₁ H:=⟨rfl,hM,λb o e=>DB e,KK (FR _ _),trivial,λb hb=>absurd (show b∈([]:List Addr)from hb) (by simp),hok,.of_eq hg⟩;refine codeAny_mono ((F _ hKb (nsK hns)).run callerA [] s₁ H ⟨[.ref a],[]⟩ [.ref a] [.ref a] _ _ hr e0 (hbind s₁ (.ref a)) (.cons rfl .nil) (hsp H hO hS)) λr s' h=>?_
  cases r with
  |error e=>exact(hCX H e s' h).elim
  |ok fl =>
   cases fl with
   |next=>exact False.elim h
   |brk=>exact False.elim h
   |cont=>exact False.elim h
   |ret u =>
    obtain⟨v,H',os,bare,un,hok',r',q⟩:=h;have q':v=.bl true:=q;subst q';obtain rfl:u=Value.bool true:=r';refine⟨rfl,OldK.of_keep λb o e=>?_,os,bare⟩;cases q:H b with
    |none=>exact un.keep b o e q (by intro z;exact absurd (show b∈([]:List Addr)from z) (by simp)) (by simp)
    |some u =>
     rcases hO b with z |⟨ob,xs,z⟩
     ·rw[q]at z;cases z
     ·have z2:=un.frzs b ob _ z;obtain⟨e1,_⟩:=hok b _ z;obtain⟨e2,_⟩:=hok' b _ z2;rw[e]at e1;cases e1;exact e2
 cases hk:K.lookup a with
 |some o =>have e:=KX a o hk;rw[ha]at e;cases e;refine core (λ_=>none) (λ_=>.inl rfl) (.inr ⟨_,vs.toArray,_,hk,rfl,rfl,rfl,by rw[Kh,lenV];exact hl,by simpa using rv⟩) (λb u z=>by have z':(none:Option HO)=some u:=z;cases z') (λb z=>absurd rfl z) λz=>absurd rfl z
 |none =>
  refine core (λb=>if b=a then some (.frz { cls:=.type "list",data:=.seq vs.toArray } (.lst (ns.map V.int)))else none) (λb=>?_) (.inl (.inr ⟨{ cls:=.type "list",data:=.seq vs.toArray },if_pos rfl⟩)) (λb u z=>?_) (λb z=>?_) λ_=>hk
  ·by_cases hb:b=a
   ·exact .inr ⟨_,_,if_pos hb⟩
   ·exact .inl (if_neg hb)
  ·by_cases hb:b=a
   ·have z':=(if_pos hb).symm.trans z;cases z';subst hb;exact⟨ha,by rw[J6];exact hl,vs,_,rv,ha⟩
   ·have z':=(if_neg hb).symm.trans z;cases z'
  ·by_cases hb:b=a
   ·exact hb
   ·exact absurd (if_neg hb) z
theorem walk_of{l:PySem.W.OpenLaw}{n k:Nat}{q:Program}{loose:List Str}{XP:(Str->Option Value)->Heap->Prop}{YP:World->Heap->Prop}{d:DefRec}{K:Params->PySem.W.Frag}{CX:World->CXT}{sp:World->Sp}{x:Str}
 (hn:l.most=some n) (hn2:n<=sizeLine) (hdf:d.params.defaults=[]) (hr:Room k callerA)
 (hY:∀(w:World) (h:Heap),YP w h->(K w.params).In h)
 (F:∀(w:World) (mg:Str->Option Value) (fa:Addr) (h:Heap),(K w.params).In h->h.Ns mainGlobals mg->mg d.name=some (.ref fa) ->
   ∃fd:FuncData,(∀(s:Shared) (u:Value),BindsTo s fd ⟨[u],[]⟩ [(x,u)]) /\
    ∀base:Heap,(K w.params).In base->base.Ns mainGlobals mg->FnOk l.prog w (K w.params) mg base (CX w) k fa fd [x] (sp w))
 (hsp:∀(w:World) (H:Hp) (a:Addr) (ns:List Int),ns.length<=n->uv H->SqL (K w.params) H a (ns.map V.int)->sp w [.ref a] H (λv _=>v=.bl true) λ_ _ _=>False)
 (hCX:∀(w:World) (H:Hp) (s:Shared) (e:Value) (s':Shared),CX w [] H s (λ_ _ _=>False) e s'->False) :
 PySem.W.WalkO q loose XP YP l.row.toRowW d [] (λf vs=>PySem.call f vs):=by
 refine Att.attach_call hn hdf λw s₀ s₁ mg mb fa o pm cd doc a vs ns G Y ho hd hcd hmg hobj hints hlen hg=>?_
 have KX:=hY w _ Y;obtain⟨fd,hb,hF⟩:=F w mg fa _ KX G.T.g hmg;exact EQ KX G.T.g G.T.b G.T.builtins G.T.nolimit hg hobj hints (J7 hlen hn2) hr hF hb (λH hO hS=>hsp w H a ns hlen hO hS) λH e s'=>hCX w H s₁ e s'
noncomputable def bj(s:Stmt)(j:Nat):Stmt:=match s with
 |.ClassDef _ _ _ body _ _ _ _ _ _ _=>body.getD j (.Pass ⟨0,0,0,0⟩)
 |_=>.Pass ⟨0,0,0,0⟩
noncomputable def az(s:Stmt):Arguments:=match s with
 |.FunctionDef _ a _ _ _ _ _ _ _ _=>a
 |_=>{ posonlyargs:=[],args:=[],vararg:=none,kwonlyargs:=[],kw_defaults:=[],kwarg:=none,defaults:=[] }
noncomputable def ax(s:Stmt):List Stmt:=match s with
 |.FunctionDef _ _ b _ _ _ _ _ _ _=>b
 |_=>[]
noncomputable def ae(s:Stmt):Scope:=match s with
 |.FunctionDef _ _ _ _ _ _ sc _ _ _=>sc
 |_=>{ kind:=.function,names:=[],isGenerator:=false,isCoroutine:=false }
abbrev CX0:CXT:=λ_ _ _ _ _ _=>False
abbrev E0:XK:=λ_ _ _=>False
theorem ak{X:Cx}:gZ CX0 X E0:=λ_ _ _ _ _ _ _ h=>h.elim
structure Fun(K:PySem.W.Frag)(x qual:Str)(st:Stmt)(f:Addr)(fd:FuncData):Prop where
 ex:∃(oc:Value) (od:Option Addr) (kV doc pm:Value) (an:Option Addr) (cdv ct:Value) (osl:Array (Option Value)),
  fd=PySem.W.fnOf x qual (az st) (ax st) (ae st) .none kV doc pm an cdv ct/\K.lookup f=some ⟨oc,od,.func fd,osl⟩/\PySem.W.codeIn K cdv qual=true
 kp:PySem.W.keepIn K (.ref f)=true
section
variable {P:Program}{w:World}{K:PySem.W.Frag}{mg:Str->Option Value}{base:Heap}
theorem Fun.ok{x qual:Str}{st:Stmt}{f:Addr}{fd:FuncData}{N ps:List Str}{k:Nat}{sp:Sp}(F:Fun K x qual st f fd)(S:FnScope N ps (ae st))(len:∀vs H Q E,sp vs H Q E->vs.length=ps.length)
 (hbody:∀(cdv:Value) (A:Around) (outer:List Env) (s:Shared) (H:Hp) (vs:List V) (Q:VK) (E:XK),Room k (A.deeper (envOfC qual (ae st) s.heap.objs.size f cdv))->sp vs H Q E ->
   ∃t,PSs (bu CX0 P w K mg base N qual (ae st) f cdv A outer s H E).nox (ax st) t/\t { nx:=λ_ H'=>Q .non H',rt:=Q } (dW N vs) H):FnOk P w K mg base CX0 (k+1) f fd ps sp:=by
 obtain⟨oc,od,kV,doc,pm,an,cdv,ct,osl,rfl,lk,hcd⟩:=F.ex;refine pw lk hcd S len λA outer s H vs Q E hr hsp=>?_
 obtain⟨t,h,q⟩:=hbody cdv A outer s H vs Q E hr hsp;exact⟨t,h.nox,q⟩
theorem Fun.binds{x qual:Str}{st:Stmt}{f:Addr}{fd:FuncData}{ps:List Str}(F:Fun K x qual st f fd)
 (h:∀(kV doc pm:Value) (an:Option Addr) (cdv ct:Value) (us:List Value),us.length=ps.length->bindArgs (PySem.W.fnOf x qual (az st) (ax st) (ae st) .none kV doc pm an cdv ct) ⟨us,[]⟩=pure (ps.zip us)):Binds K fd ps []:=by
 obtain⟨oc,od,kV,doc,pm,an,cdv,ct,osl,rfl,lk,hcd⟩:=F.ex;exact .all (h kV doc pm an cdv ct)
theorem aB{x qual:Str}{st:Stmt}{f:Addr}{oc:Value}{od an:Option Addr}{osl:Array (Option Value)}{kV doc pm cdv ct:Value}(l:K.lookup f=some ⟨oc,od,.func (PySem.W.fnOf x qual (az st) (ax st) (ae st) .none kV doc pm an cdv ct),osl⟩)
 (c:PySem.W.codeIn K cdv qual=true) (k:PySem.W.keepIn K (.ref f)=true):Fun K x qual st f (PySem.W.fnOf x qual (az st) (ax st) (ae st) .none kV doc pm an cdv ct):=⟨⟨oc,od,kV,doc,pm,an,cdv,ct,osl,rfl,l,c⟩,k⟩
end
section
variable {X:Cx}
theorem pv(i:Nat){x:Str}{pos:Pos}(hN:X.N[i]?=some x:=by rfl)(hv:Vis X.env.scope x:=by first |exact Or.inl rfl |exact Or.inr (Or.inl rfl) |exact Or.inr (Or.inr rfl))(hd:(x == ("__debug__":Str))=false:=by decide)
 (hcd:(x == ("__classdict__":Str))=false:=by decide):PE X (.Name x pos) (vw i):=BS hN hv hd hcd
end
def Same(H H':Hp):Prop:=∀b o,H b=some o->H' b=some o
theorem Same.refl(H:Hp):Same H H:=λ_ _ h=>h
theorem Same.trans{H H1 H2:Hp}(a:Same H H1)(b:Same H1 H2):Same H H2:=λc o h=>b c o (a c o h)
theorem Same.free{H H':Hp}(e:Same H H'){l:Addr}(h:H' l=Option.none):H l=Option.none:=by
 cases q:H l with
 |none=>rfl
 |some o =>rw[e l o q]at h;cases h
theorem Same.seq{K:PySem.W.Frag}{H H':Hp}{a:Addr}{xs:List V}(e:Same H H')(h:SqL K H a xs):SqL K H' a xs:=by
 rcases h with(h |⟨o,h⟩) |h
 ·exact .inl (.inl (e _ _ h))
 ·exact .inl (.inr ⟨o,e _ _ h⟩)
 ·exact .inr h
end L2
set_option maxHeartbeats 4000000
namespace L2
open PySem PySem.Spec PyProof.Rows
noncomputable def iB(X:Cx)(N:List Str)(scope:Scope)(cl:List (Str×Addr))(C:Addr)(s₀:Shared)(H₀:Hp)(ex:List Addr):Cx where
 prog:=X.prog
 w:=X.w
 K:=X.K
 mg:=X.mg
 base:=X.base
 A:=X.A
 N:=N
 s₀:=s₀
 H₀:=H₀
 env:=compEnvC scope cl C X.env
 outer:=X.stack
 stack:=X.stack
 ex:=ex
 fn:=λ_=>false
 calm:=X.calm
 pn:=[]
 xe:=λ_ _=>False
structure CompOk(X:Cx)(fr:List Str)(js:List Nat)(scope:Scope)(cl:List (Str×Addr)):Prop where
 clos:closureFor scope X.env=pure cl
 cell:∀y∈scope.names,y.2≠.cell
 kind:scope.kind=.function
 names:∀y∈scope.names,y.2=.local->scope.names.lookup y.1=some .local
 clin:∀p∈cl,X.env.cells.lookup p.1=some p.2
 has:scope.names.all (λp=>p.2 != .free || (cl.lookup p.1).isSome)=true
 fre:Paired (λ(x:Str) (j:Nat)=>X.N[j]?=some x/\(X.env.scope.names.lookup x=some .cell\/X.env.scope.names.lookup x=some .free)/\scope.names.lookup x=some .free) fr js
theorem qS{env:Env}{x:Str}{k':NameKind}:∀{names:List (Str×NameKind)},
 (names.map λ(n,k)=>if(k == NameKind.free&&env.scope.kind == .function&&env.kindOf n == some .cell)then(n,NameKind.cell)else(n,k)).lookup x=some k' ->
 ∃k,names.lookup x=some k/\(k'=k\/(k=.free/\k'=.cell))
 | [],h=>by simp at h
 | (n,k)::r,h=>by
  have ih:=@qS env x k' r;change List.lookup x ((if(k == NameKind.free&&env.scope.kind == .function&&env.kindOf n == some .cell)=true then(n,NameKind.cell)else(n,k))::_)=_ at h
  by_cases hc:(k == NameKind.free&&env.scope.kind == .function&&env.kindOf n == some .cell)=true
  ·rw[if_pos hc]at h;cases hx:x == n with
   |true =>simp only[KG,hx]at h ⊢;cases h;refine⟨k,rfl,.inr ⟨?_,rfl⟩⟩;simp only[Kf,beq_iff_eq]at hc;exact hc.1.1
   |false =>simp only[KG,hx]at h ⊢;exact ih h
  ·rw[if_neg hc]at h;cases hx:x == n with
   |true =>simp only[KG,hx]at h ⊢;cases h;exact⟨_,rfl,.inl rfl⟩
   |false =>simp only[KG,hx]at h ⊢;exact ih h
theorem v6{env:Env}{x:Str}:∀{names:List (Str×NameKind)},names.lookup x=some .free ->
 (names.map λ(n,k)=>if(k == NameKind.free&&env.scope.kind == .function&&env.kindOf n == some .cell)then(n,NameKind.cell)else(n,k)).lookup x=some .cell \/
 (names.map λ(n,k)=>if(k == NameKind.free&&env.scope.kind == .function&&env.kindOf n == some .cell)then(n,NameKind.cell)else(n,k)).lookup x=some .free
 | [],h=>by simp at h
 | (n,k)::r,h=>by
  have ih:=@v6 env x r;show List.lookup x ((if(k == NameKind.free&&env.scope.kind == .function&&env.kindOf n == some .cell)=true then(n,NameKind.cell)else(n,k))::_)=_\/List.lookup x ((if(k == NameKind.free&&env.scope.kind == .function&&env.kindOf n == some .cell)=true then(n,NameKind.cell)else(n,k))::_)=_;by_cases hc:(k == NameKind.free&&env.scope.kind == .function&&env.kindOf n == some .cell)=true
  ·rw[if_pos hc];cases hx:x == n with
   |true=>simp only[KG,hx];exact .inl trivial
   |false=>simp only[KG,hx]at h ⊢;exact ih h
  ·rw[if_neg hc];cases hx:x == n with
   |true =>simp only[KG,hx]at h ⊢;cases h;exact .inr rfl
   |false=>simp only[KG,hx]at h ⊢;exact ih h
noncomputable def jk(n:Nat)(js:List Nat)(σ:St):St:=List.replicate n none++js.map λj=>(σ[j]?).join
def uZ(n:Nat)(js:List Nat)(g:TG)(te:TE)(σ:St)(Q:VK)(J:It)(H1:Hp):Prop:=∃W:Nat->Nat->List V->St->Hp->Prop,(∃m,W 0 m [] (jk n js σ) H1) /\
 ∀i m ys σ' H',W i m ys σ' H' ->
  (J.stop i H'/\∀p,H' p=none->Q (.ref p) (upd H' p (.lst ys))) \/
  (J.go i H'/\ys.length<sizeLine/\∃N:V->St->Hp->Prop,(∀y σ'' H'',N y σ'' H''->∃m',m'<m/\W (i+1) m' (ys++[y]) σ'' H'')/\∀x H2,J.yld i H' x H2->g x σ' H2 λσ3 H3=>te σ3 H3 λy H4=>N y σ3 H4)
def zT(n:Nat)(js:List Nat)(wi:TI)(g:TG)(te:TE):TE:=λσ H Q=>wi σ H λJ H1=>uZ n js g te σ Q J H1
noncomputable def Jv(X:Cx)(pins:List (Addr×Obj))(σ:St)(Q:VK)(D C:Addr)(s':Shared):Prop :=
 ∃H2,Inv X pins σ H2 s'/\Q (.ref D) H2/\H2 C=none/\C≠X.env.locals/\X.s₀.heap.objs.size<=C/\(∀x c,X.env.cells.lookup x=some c->c≠C)/\(∀p∈X.pn++pins,p.1≠C)/\∃m,s'.heap.Ns C m
section
variable {X:Cx}{own fr:List Str}{js:List Nat}{scope:Scope}{cl:List (Str×Addr)}{elt target iter:Expr}{pos:Pos}{wi:TI}{g:TG}{te:TE}
theorem iC(O:CompOk X fr js scope cl){x:Str}{c:Addr}(e:cl.lookup x=some c):X.env.cells.lookup x=some c:=O.clin (x,c) (PySem.mem_of_lookup e)
theorem yt{pins:List (Addr×Obj)}{σ:St}{H:Hp}{s:Shared}{fp:List Addr}{C:Addr}(O:CompOk X fr js scope cl)(I:Inv X pins σ H s)(hC:s.heap.objs.size<=C)(hf:∀b∈fp,fY X pins H b)(ho:∀b∈fp,b<s.heap.objs.size) :
 (iB X (own++fr) scope cl C s H fp).Ok:=by
 refine⟨I.ok.mod,O.kind,I.ok.glob,I.ok.blt,hC,λx y c h1 h2=>I.ok.inj x y c (iC O h1) (iC O h2),λx hx=>?_,λx c h=>(by cases h),I.ok.hd,I.ok.frames,.inl rfl,λb hb=>?_,I.bs,?_,λb o e hb=>?_,λb hb hb'=>?_,I.stack,I.stkFree⟩
 ·have key:scope.names.lookup x=some .free:=by
   have hx':(scope.names.map λ(n,k)=>if(k == NameKind.free&&X.env.scope.kind == .function&&X.env.kindOf n == some .cell)then(n,NameKind.cell)else(n,k)).lookup x=some .cell \/
    (scope.names.map λ(n,k)=>if(k == NameKind.free&&X.env.scope.kind == .function&&X.env.kindOf n == some .cell)then(n,NameKind.cell)else(n,k)).lookup x=some .free:=hx
   rcases hx' with h |h
   ·obtain⟨k,e,z⟩:=qS h;rcases z with z |⟨z,_⟩
    ·subst z;exact absurd rfl (O.cell _ (PySem.mem_of_lookup e))
    ·subst z;exact e
   ·obtain⟨k,e,z⟩:=qS h;rcases z with z |⟨_,z⟩
    ·subst z;exact e
    ·cases z
  have hm:=Kp.mp O.has _ (PySem.mem_of_lookup key);have hs:(cl.lookup x).isSome=true:=by simpa using hm
  exact Option.isSome_iff_exists.mp hs
 ·obtain⟨f0,f1,f2,f3,f4,f5⟩:=hf b hb;exact⟨Ki (J9 (ho b hb) hC),λx c e=>f4 x c (iC O e)⟩
 ·exact J7 I.ok.bsz I.sz
 ·obtain⟨f0,f1,f2,f3,f4,f5⟩:=hf b hb;rcases f3 with z |z
  ·exact I.ok.noex b o e z
  ·exact absurd (J9 (Heap.lt_size e) (J7 I.ok.bsz z)) (Km _)
 ·obtain⟨f0,f1,f2,f3,f4,f5⟩:=hf b hb;rcases J8.mp (I.stkSub b hb')with z |z
  ·exact f1 z
  ·exact f2 z
theorem Paired.idx{α β:Type}{F:α->β->Prop}:∀{l₁:List α} {l₂:List β},Paired F l₁ l₂->∀(i:Nat) (a:α) (b:β),l₁[i]?=some a->l₂[i]?=some b->F a b
 |_,_,.nil,_,_,_,h,_=>by simp at h
 |_,_,.cons r _,0,a,b,h1,h2=>by simp at h1 h2;subst h1;subst h2;exact r
 |_,_,.cons _ t,i+1,a,b,h1,h2=>Paired.idx t i a b (by simpa using h1) (by simpa using h2)
theorem Hz{pins:List (Addr×Obj)}{σ:St}{H:Hp}{s s':Shared}{fp:List Addr}{C:Addr}{m:Str->Option Value}(O:CompOk X fr js scope cl)(hl:fr.length=js.length)(I:Inv X pins σ H s)(hC:s.heap.objs.size<=C)(hf:∀b∈fp,fY X pins H b)
 (ho:∀b∈fp,b<s.heap.objs.size) (os:s'.os=s.os) (hg:s'.gens=s.gens) (old:∀b o,s.heap.get? b=some o->s'.heap.get? b=some o) (hn:s'.heap.Ns C m) :
 Inv (iB X (own++fr) scope cl C s H fp) [] (jk own.length js σ) H s':=by
 refine⟨yt O I hC hf ho,os,by rw[hg];exact I.bare,Un.kept old,⟨m,hn,λi x v e1 e2 e3=>?_⟩,λx c e=>?_,I.hok.fresh hC,λx c e=>I.freeC x c (iC O e),λp hp=>absurd (show p∈([]:List (Addr×Obj))from hp) (by simp),I.hok.kept old,?_⟩
 ·unfold jk at e2
  have e1':(own++fr)[i]?=some x:=e1;by_cases hi:i<own.length
  ·rw[List.getElem?_append_left (by simpa using hi),List.getElem?_replicate]at e2;split at e2<;>cases e2
  ·have hi':own.length<=i:=La hi;rw[List.getElem?_append_right (by simpa using hi'),KA,List.getElem?_map]at e2;rw[List.getElem?_append_right hi']at e1';cases ej:js[i-own.length]? with
   |none=>rw[ej]at e2;cases e2
   |some j =>
    rw[ej]at e2;have e2':(σ[j]?).join=some v:=Option.some.inj e2
    have eσ:σ[j]?=some (some v):=by
     cases q:σ[j]? with
     |none=>rw[q]at e2';cases e2'
     |some o=>rw[q]at e2';simp at e2';rw[e2']
    obtain⟨hN,hk,hs⟩:=Paired.idx O.fre _ x j e1' ej;obtain⟨mo,hmo,hlo⟩:=I.loc;have vis:Vis X.env.scope x:=hk.elim (λz=>.inr (.inl z)) λz=>.inr (.inr z)
    obtain⟨u,r,l⟩:=hlo j x v hN eσ vis;refine⟨u,r,.inr ⟨v6 hs,?_⟩⟩;have hm:=Kp.mp O.has _ (PySem.mem_of_lookup hs);have hs':(cl.lookup x).isSome=true:=by simpa using hm
    obtain⟨c,ec⟩:=Option.isSome_iff_exists.mp hs';refine⟨c,ec,?_⟩;rcases l with⟨k,_⟩ |⟨_,c',e',z⟩
    ·have k':X.env.scope.names.lookup x=some .local:=k;rcases hk with q |q<;>(rw[q]at k';cases k')
    ·have:=iC O ec;rw[e']at this;cases this;obtain⟨oc,hoc,hd⟩:=z;exact⟨oc,old _ _ hoc,hd⟩
 ·obtain⟨v,oc,hoc,hd⟩:=I.cell x c (iC O e);exact⟨v,oc,old _ _ hoc,hd⟩
 ·unfold jk;show _=(own++fr).length;rw[J2,J2,KA,J6,hl]
theorem Un.adopt{fs ex:List Addr}{H H1:Hp}{h h1:Heap}{a:Addr}{o:HO}(u:Un fs ex H H1 h h1)(ha:h.objs.size<=a)(hn:H a=none):Un fs ex H (upd H1 a o) h h1 where
 keep:=u.keep
 slot:=u.slot
 free:=λb ob q n hx=>by rw[upd_ne (Ki (J9 (Heap.lt_size q) ha))];exact u.free b ob q n hx
 there:=u.there
 tups:=λb xs q=>by rw[upd_ne (aU q hn)];exact u.tups b xs q
 frzs:=λb ob xs q=>by rw[upd_ne (aU q hn)];exact u.frzs b ob xs q
 tbls:=λb ps q=>by rw[upd_ne (aU q hn)];exact u.tbls b ps q
theorem HOk.adopt{P:Program}{w:World}{H:Hp}{h:Heap}{a:Addr}{o:HO}(x:HOk P w H h)(hn:H a=none)(new:ObjOk P w (upd H a o) h a o):HOk P w (upd H a o) h:=λb u e=>by
 by_cases hb:b=a
 ·subst hb;rw[ap]at e;cases e;exact new
 ·rw[upd_ne hb]at e;exact(x b u e).stay (λc v _ q=>q) (λc q=>by rw[upd_ne (aU q hn)];exact q) λc xs q=>by rw[upd_ne (aU q hn)];exact q
theorem HI{pins:List (Addr×Obj)}{σ:St}{H:Hp}{s:Shared}{fp:List Addr}{it:Addr}{tn:Nat->Heap->Prop}{J:It}{E:Value->Shared->Prop}{Q:VK}{RR:Value->Addr->Result->Shared->Prop}(O:CompOk X fr js scope cl)(hl:fr.length=js.length)(hcm:X.calm=true)
 (I:Inv X pins σ H s) (T:Turn X.prog X.w X.K target J fp it tn) (st:tn 0 s.heap) (hf:∀b∈fp,fY X pins H b)
 (hg:∀C s₀ H₀ ex,PG (iB X (own++fr) scope cl C s₀ H₀ ex) target g) (he:∀C s₀ H₀ ex,PE (iB X (own++fr) scope cl C s₀ H₀ ex) elt te)
 (W:Nat->Nat->List V->St->Hp->Prop) {m0:Nat} (w0:W 0 m0 [] (jk own.length js σ) H)
 (turn:∀i m ys σ' H',W i m ys σ' H' ->
   (J.stop i H'/\∀p,H' p=none->Q (.ref p) (upd H' p (.lst ys))) \/
   (J.go i H'/\ys.length<sizeLine/\∃N:V->St->Hp->Prop,(∀y σ'' H'',N y σ'' H''->∃m',m'<m/\W (i+1) m' (ys++[y]) σ'' H'')/\∀x H2,J.yld i H' x H2->g x σ' H2 λσ3 H3=>te σ3 H3 λy H4=>N y σ3 H4))
 (hRR:∀D C s',Jv X pins σ Q D C s'->RR (.ref D) C (.ok .next) s') :
 wpAny (model X.prog X.w) X.A (newList []) (λacc s₃=>wpAny (model X.prog X.w) X.A (newFunctionEnv scope X.env.globals cl [] X.env.qual none .none (some X.env)) (λcenv s₄ =>
  codeAny (model X.prog X.w) X.A (.compStart (.ListComp elt [⟨target,iter,[],0⟩] scope pos) 0 (.ref it) acc { cenv with scope:=relabel scope X.env }) (RR acc cenv.locals) s₄) E s₃) E s:=by
 refine wpAny_newObj_type (wpAny_newFunctionEnv O.cell (by intro y hy;simp at hy) (λh₁ hns₁ hsb₁=>?_) O.kind);dsimp only at hns₁ hsb₁ ⊢
 generalize hH2:s.heap.push { cls:=.type "list",dict:=none,data:=.seq ([]:List Value).toArray }=H2 at hns₁ hsb₁ ⊢
 have hCs:H2.objs.size=s.heap.objs.size+1:=by rw[<- hH2,Heap.size_push]
 have hDC:s.heap.objs.size≠H2.objs.size:=by rw[hCs];exact Ki (Nat.lt_succ_self _)
 have hCge:s.heap.objs.size<=H2.objs.size:=by rw[hCs];exact Nat.le_succ _
 have below:∀b,b<s.heap.objs.size->b≠H2.objs.size/\b≠s.heap.objs.size:=λb hb=>⟨by rw[hCs];exact Ki (Nat.lt_succ_of_lt hb),Ki hb⟩
 have old:∀b o,s.heap.get? b=some o->h₁.get? b=some o:=λb o e=>hsb₁.extBut b o (below b (Heap.lt_size e)).1 (Heap.get?_push_of_some _ (hH2 ▸ Heap.get?_push_of_some _ e))
 have hacc:h₁.get? s.heap.objs.size=some { cls:=.type "list",data:=.seq ([]:List Value).toArray 0 }:=hsb₁.extBut _ _ hDC (Heap.get?_push_of_some _ (hH2 ▸ Heap.get?_push_size _ rfl));have ho:∀b∈fp,b<s.heap.objs.size:=λb hb=>by obtain⟨o,e,_⟩:=T.obj 0 _ st b hb;exact Heap.lt_size e
 generalize hDe:s.heap.objs.size=D at *
 generalize hCe:H2.objs.size=C at *
 let X':Cx:=iB X (own++fr) scope cl C s H fp
 have ok':X'.Ok:=yt O I (by rw[hDe];exact hCge) hf (by rw[hDe];exact ho)
 have hDfs:D∉X'.fs:=by
  intro z;rcases J8.mp (I.stkSub D z)with q |q
  ·exact absurd I.lt (by rw[<- q,hDe];exact Km _)
  ·exact I.nofs (KK hDe) q
 have hDfp:∀b∈fp,D≠b:=λb hb z=>absurd (ho b hb) (by rw[z];exact Km _)
 have hDcell:∀x c,cl.lookup x=some c->c≠D:=λx c e z=>by obtain⟨v,q⟩:=I.cell x c (iC O e);exact absurd q.lt (by rw[z,hDe];exact Km _)
 have fpok:∀{H':Hp} {pins':List (Addr×Obj)},(∀p∈pins',p.1=D)->(∀b∈fp,H' b=none)->∀b∈fp,fY X' pins' H' b:=λ{H' pins'} hp hn b hb=>by
  obtain⟨f0,f1,f2,f3,f4,f5⟩:=hf b hb;refine⟨hn b hb,(below b (ho b hb)).1,λz=>?_,.inl hb,λx c e=>f4 x c (iC O e),λp hp'=>?_⟩
  ·rcases J8.mp (I.stkSub b z)with q |q
   ·exact f1 q
   ·exact f2 q
  ·have hp'':p∈pins':=by simpa[X',iB]using hp'
   rw[hp p hp''];exact hDfp b hb
 have loop:∀s₃:Shared,s₃={ s with heap:=h₁,toks:=s.toks+([]:List (Str×Value)).length } ->
  codeAny (model X.prog X.w) X.A (.compLoop (.ListComp elt [⟨target,iter,[],0⟩] scope pos) 0 (.ref it) (.ref D) (compEnvC scope cl C X.env)) (RR (.ref D) C) s₃:=by
  rintro s₃ rfl
  refine PySem.W.kcp_loop (λk s'=>∃i σ' H' ys its nn,Inv X' [] σ' H' s'/\tn i s'.heap/\(∀b∈fp,H' b=none)/\H' D=none/\s'.heap.get? D=some { cls:=.type "list",data:=.seq (its:List Value).toArray nn }/\Vals ys its/\ys.length<=sizeLine/\W i k ys σ' H') ?_ m0
   ⟨0,_,H,[],[],0,Hz O hl I (by rw[hDe];exact hCge) hf (by rw[hDe];exact ho) rfl rfl (by intro b o e;exact old b o e) hns₁,T.keep _ _ _ st λb _ o e=>old b o e,λb hb=>(hf b hb).1,I.hok.fresh (KK hDe),hacc,.nil,Kj _,w0⟩
  rintro k s' ⟨i,σ',H',ys,its,nn,I',st',hfn,hDn,hDo,rv,hz,w⟩;have hlen:=rv.length;have hpD:∀p∈[(D,({ cls:=.type "list",data:=.seq its.toArray nn }:Obj))],p.1=D:=λp hp=>by rw[Kb.mp hp]
  have Ip:Inv X' [(D,({ cls:=.type "list",data:=.seq its.toArray nn }:Obj))] σ' H' s':=I'.pins_of λp hp=>by rw[Kb.mp hp];exact⟨hDo,hDn,hDC,hDfs,λv z=>by cases z⟩
  rcases turn i k ys σ' H' w with⟨stop,fin⟩ |⟨go,hlt,N,hN,step⟩
  ·refine wpAny_mono (T.done X' rfl rfl rfl hcm i _ s' σ' H' (λ_ _=>False) Ip (fpok hpD hfn) st' stop) (λr s4 ⟨hr,I4⟩=>?_) λ_ _ z=>False.elim z
   subst hr;refine hRR D C s4 ?_;have hD4:s4.heap.get? D=some { cls:=.type "list",data:=.seq its.toArray nn }:=(I4.pin _ (Kt _ (Kb.mpr rfl))).1;have un:Un (frs X.stack) fp H (upd H' D (.lst ys)) s.heap s4.heap:=Un.adopt I4.base (KK hDe) (I.hok.fresh (KK hDe));have hok:HOk X.prog X.w (upd H' D (.lst ys)) s4.heap:=HOk.adopt I4.hok hDn ⟨hz,its,nn,rv,hD4⟩;refine⟨upd H' D (.lst ys),I.call' I4.os un hok I4.bare λb hb=>?_,fin D hDn,?_,?_,?_,λx c e z=>?_,λp hp z=>?_,?_⟩
   ·obtain⟨f0,f1,f2,f3,f4,f5⟩:=hf b hb;exact⟨f3,f1,f4,f5⟩
   ·rw[upd_ne (Ne.symm hDC)];exact I4.free
   ·exact Nat.ne_of_gt (J9 I.lt (by rw[hDe];exact hCge))
   ·exact J7 I.sz (by rw[hDe];exact hCge)
   ·obtain⟨v,q⟩:=I.cell x c e;exact absurd (J9 q.lt (by rw[hDe,z];exact hCge)) (Km _)
   ·exact absurd (J9 (Heap.lt_size (I.pin p hp).1) (by rw[hDe,z];exact hCge)) (Km _)
   ·obtain⟨m',hn',_⟩:=I4.loc;exact⟨m',hn'⟩
  ·refine wpAny_mono (T.item X' rfl rfl rfl hcm i _ s' σ' H' (λ_ _=>False) Ip (fpok hpD hfn) st' go) (λr s4 ⟨u,hr,h4⟩=>?_) λ_ _ z=>False.elim z
   subst hr;refine wpAny_mono h4 (λ_ s5 ⟨x,H5,I5,r5,y5,st5,fr5⟩=>?_) λ_ _ z=>False.elim z
   have I5':=I5.pinned (fpok hpD fr5) (T.obj _ _ st5);refine wpAny_mono (hg C s H fp _ s5 σ' H5 x u _ I5' r5 (step x H5 y5)) (λ_ s6 ⟨σ6,H6,I6,q6⟩=>?_) λ_ _ z=>False.elim z
   refine wpAny_mono (he C s H fp _ s6 σ6 H6 _ I6 q6) (λv s7 ⟨y,H7,I7,r7,n7⟩=>?_) λ_ _ z=>False.elim z
   obtain⟨m',hm',w7⟩:=hN y σ6 H7 n7;have hD7:=I7.pin (D,{ cls:=.type "list",data:=.seq its.toArray nn }) (Kt _ (List.mem_append_left _ (Kb.mpr rfl)));refine append_at hD7.1 (λh8 sb hD8=>?_) (by rw[Kh,<- hlen];exact hz);have I7':Inv X' [] σ6 H7 s7:=I7.pins_of λp hp=>absurd hp (by simp)
   have I8:Inv X' [] σ6 H7 { s7 with heap:=h8 }:=I7'.turned (t':=s7.toks) (it:=D) (λb o hb e=>(sb.2 b hb).trans e) hD7.2.1 hDC (.inr (KK hDe)) hDcell (λp hp=>absurd (show p∈([]:List (Addr×Obj))from hp) (by simp));refine⟨m',hm',i+1,σ6,H7,ys++[y],its++[v],nn+1,I8,T.keep _ _ _ st5 λb hb o e=>?_,λb hb=>?_,hD7.2.1,?_,rv.append (.cons r7 .nil),?_,w7⟩
   ·exact(sb.2 b (λz=>hDfp b hb z.symm)).trans (I7.pin (b,o) (Kt _ (Kt _ (oR hb e)))).1
   ·obtain⟨o,e,d⟩:=T.obj _ _ st5 b hb;exact(I7.pin (b,o) (Kt _ (Kt _ (oR hb e)))).2.1
   ·rw[hD8,List.push_toArray]
   ·rw[J2,Lh];exact hlt
 exact codeAny_compStart_list (loop _ rfl) (T.self _ 0 _ _ _ (T.keep _ _ _ st λb _ o e=>old b o e) (loop _ rfl))
theorem wo(O:CompOk X fr js scope cl)(hcm:X.calm=true)(hi:PI X target iter wi)(hg:∀C s₀ H₀ ex,PG (iB X (own++fr) scope cl C s₀ H₀ ex) target g)(he:∀C s₀ H₀ ex,PE (iB X (own++fr) scope cl C s₀ H₀ ex) elt te)
 (hs:∀x,foldedSetIterable iter X.env x=pure x:=by intro _;rfl):PE X (.ListComp elt [⟨target,iter,[],0⟩] scope pos) (zT own.length js wi g te):=by
 intro pins s σ H Q I h;rw[eval_ListComp];refine wpAny_comprehension_free (use:=none) rfl hs O.clos O.kind O.names (thn (hi pins s σ H _ I h) λx s1 h1=>thn h1 λitv s2 h2=>?_);obtain⟨it,fp,tn,J,H2,rfl,I2,T,st,hf,W,⟨m0,w0⟩,turn⟩:=h2;refine HI (RR:=λacc C=>compPost (model X.prog X.w) X.A X.xe none (EP X pins σ Q) acc C) O (Paired.length O.fre) hcm I2 T st hf hg he W w0 turn ?_;rintro D C s' ⟨H3,I3,q,c1,c2,c3,c4,c5,m,hn⟩;exact⟨m,hn,λh' sb=>⟨.ref D,H3,I3.turned (t':=s'.toks) (it:=C) (λb o hb e=>(sb.2 b hb).trans e) c1 c2 (.inr c3) c4 c5,rfl,q⟩⟩
end
theorem HH{k:Nat}{js:List Nat}{lo:Int}{n:Nat}{g:TG}{te:TE}{σ0:St}{H:Hp}{Q:VK}(Pv:Nat->List V->St->Hp->Prop)(hz:n<=sizeLine)(h0:Pv 0 [] (jk k js σ0) H)(hl:∀i ys σ H,i<=n->Pv i ys σ H->ys.length<=i)
 (hs:∀i ys σ H,i<n->Pv i ys σ H->g (.int (lo+i)) σ H λσ2 H2=>te σ2 H2 λy H3=>Pv (i+1) (ys++[y]) σ2 H3) (hd:∀ys σ H p,Pv n ys σ H->H p=none->Q (.ref p) (upd H p (.lst ys))) :
 uZ k js g te σ0 Q (Itr lo n) H:=by
 refine⟨λi m ys σ H=>m=n-i/\i<=n/\Pv i ys σ H,⟨n,by simp,Kj _,h0⟩,?_⟩;rintro i m ys σ H ⟨rfl,hi,p⟩;have hy:=hl i ys σ H hi p;by_cases hlt:i<n
 ·refine .inr ⟨hlt,by omega,λy σ'' H''=>Pv (i+1) (ys++[y]) σ'' H'',λy σ' H' p'=>⟨n-(i+1),by omega,rfl,hlt,p'⟩,λx H' y=>?_⟩;obtain⟨e,y⟩:=y;subst e y;exact hs i ys σ _ hlt p
 ·have e:i=n:=by omega
  subst e;exact .inl ⟨J3 _,λr hr=>hd ys σ H r p hr⟩
def Bits(k:Nat)(i:Int):Prop:=i.natAbs<2^k
theorem Bits.mono{j k:Nat}{i:Int}(h:Bits j i)(hk:j<=k:=by decide):Bits k i:=J9 h (Lb (by decide) hk)
theorem Bits.mul{j k:Nat}{a b:Int}(ha:Bits j a)(hb:Bits k b):Bits (j+k) (a*b):=by
 unfold Bits at *
 rw[Int.natAbs_mul,Nat.pow_add];exact Nat.mul_lt_mul_of_lt_of_lt ha hb
theorem Bits.add{k:Nat}{a b:Int}(ha:Bits k a)(hb:Bits k b):Bits (k+1) (a+b):=by
 unfold Bits at *
 have:=Int.natAbs_add_le a b;rw[KM];omega
theorem Bits.neg{k:Nat}{a:Int}(ha:Bits k a):Bits k (-a):=by unfold Bits at *;rwa [Int.natAbs_neg]
theorem Bits.sub{k:Nat}{a b:Int}(ha:Bits k a)(hb:Bits k b):Bits (k+1) (a-b):=by rw[Int.sub_eq_add_neg];exact ha.add hb.neg
theorem Bits.of_le{k:Nat}{a b:Int}(hb:Bits k b)(h:a.natAbs<=b.natAbs):Bits k a:=KP h hb
theorem Bits.zero{k:Nat}:Bits k 0:=Nat.pow_pos (by decide)
theorem Bits.log{k:Nat}{i:Int}(h:Bits k i)(hk:0<k):i.natAbs.log2<k:=by
 by_cases h0:i.natAbs=0
 ·rw[h0];simpa using hk
 ·exact(Nat.log2_lt h0).mpr h
theorem Bits.int{k:Nat}{i:Int}(h:Bits k i)(hk:k<=1000000):Builtin.Int.intBits i<=2^20:=by
 have e:(2:Nat)^20=1048576:=by decide
 unfold Builtin.Int.intBits;split
 ·exact Kj _
 ·rename_i hn
  have h0:i.natAbs≠0:=by intro z;have:i=0:=Int.natAbs_eq_zero.mp z;exact hn (by simp[this])
  have:=(Nat.log2_lt h0).mpr h;omega
section
variable {X:Cx}{a b:Expr}{ta tb:TE}{pos:Pos}
def JX(i j:Int):Prop:=Bits 1000000 i/\Bits 1000000 j
theorem d5:OpR X (binaryOp .Mult) (rI JX λi j=>.int (i*j)):=opI λ_ _ _ _ _ _ _ hc q=>mul_int q (.of_bits (hc.1.int (J3 _)) (hc.2.int (J3 _)))
theorem bh:OpR X (binaryOp .Mod) (rI (λ_ j=>0<j) λi j=>.int (i%j)):=B3
def y7(_ j:Int):Prop:=0<j/\Bits 9000 j
theorem bR:OpR X (binaryOp .FloorDiv) (rI y7 λi j=>.int (i/j)):=opI λi j _ _ _ _ _ hc q=>by refine floordiv_int (Int.ne_of_gt hc.1) ?_ (.inl (PyProof.noPylong_of_log2 (hc.2.log (by decide))));rw[Int.fdiv_eq_ediv_of_nonneg _ (Int.le_of_lt hc.1)];exact q
def JY(_ j:Int):Prop:=j≠0/\Bits 9000 j
theorem wB:OpR X (binaryOp .FloorDiv) (rI JY λi j=>.int (i.fdiv j)):=opI λ_ _ _ _ _ _ _ hc q=>floordiv_int hc.1 q (.inl (PyProof.noPylong_of_log2 (hc.2.log (by decide))))
theorem bL:OpR X (compareOp .Eq) (rI0 λi j=>.bl (decide (i=j))):=lz λ_ _ _ _ _ _ _ q=>eq_int (by rw[Bool.beq_eq_decide_eq];exact q)
theorem wA:OpR X (compareOp .NotEq) (rI0 λi j=>.bl (!decide (i=j))):=lz λ_ _ _ _ _ _ _ q=>ne_int (by rw[bne,Bool.beq_eq_decide_eq];exact q)
def we(K:PySem.W.Frag):R2:=λx y H Q=>∃(a b:Addr) (ns ms:List Int),x=.ref a/\y=.ref b/\SqL K H a (ns.map V.int)/\SqL K H b (ms.map V.int)/\Q (.bl (decide (ns=ms))) H
def v9(K:PySem.W.Frag):R2:=λx y H Q=>∃(a b:Addr) (ns ms:List Int),x=.ref a/\y=.ref b/\SqL K H a (ns.map V.int)/\SqL K H b (ms.map V.int)/\Q (.bl (!decide (ns=ms))) H
theorem B7(hu:X.A.units+64<cLine):OpR X (compareOp .Eq) (we X.K):=by intro pins s σ H x y v u Q I rx ry h;obtain⟨a,b,ns,ms,rfl,rfl,ha,hb,q⟩:=h;cases rx;cases ry;obtain⟨i1,r1,p1,_⟩:=I.list ha;obtain⟨i2,r2,p2,_⟩:=I.list hb;exact PySem.W.eq_intsK p1.isList (o8 r1) p2.isList (o8 r2) hu ⟨.bl _,H,I,rfl,q⟩
theorem B2(hu:X.A.units+64<cLine):OpR X (compareOp .NotEq) (v9 X.K):=by intro pins s σ H x y v u Q I rx ry h;obtain⟨a,b,ns,ms,rfl,rfl,ha,hb,q⟩:=h;cases rx;cases ry;obtain⟨i1,r1,p1,_⟩:=I.list ha;obtain⟨i2,r2,p2,_⟩:=I.list hb;exact PySem.W.ne_intsK p1.isList (o8 r1) p2.isList (o8 r2) hu ⟨.bl _,H,I,rfl,q⟩
noncomputable def iV(K:PySem.W.Frag):List V->Hp->VK->Prop:=λxs H Q=>∃(x:V) (t c:Value) (n:V) (k:Bool),xs=[x,n]/\RelV n c/\(∀u,RelV n u->u=c)/\TyOf K H x t/\PySem.W.kitOne K t c=some k/\Q (.bl k) H
theorem HU:cL X (.builtin "isinstance") (iV X.K):=by intro pins s σ H xs us Q I r h;obtain⟨x,t,c,n,k,rfl,rn,hn,ty,e,q⟩:=h;obtain⟨u1,u2,rfl,r1,r2⟩:=r.two;obtain rfl:=hn u2 r2;exact Fp I r1 ty e λtk=>⟨.bl k,H,I.tok tk,rfl,q⟩
theorem mU{K:PySem.W.Frag}{H:Hp}{Q:VK}{x:V}{n:String}{t:Value}{k:Bool}(ty:TyOf K H x t)(e:PySem.W.kitOne K t (.type n)=some k)(q:Q (.bl k) H):iV K [x,.ty n] H Q :=
 ⟨x,t,.type n,.ty n,k,rfl,rfl,λ_ h=>h,ty,e,q⟩
theorem dB{K:PySem.W.Frag}{H:Hp}{Q:VK}{x:V}{C:Addr}{t:Value}{k:Bool}(ty:TyOf K H x t)(e:PySem.W.kitOne K t (.ref C)=some k)(q:Q (.bl k) H):iV K [x,.ref C] H Q :=
 ⟨x,t,.ref C,.ref C,k,rfl,rfl,λ_ h=>h,ty,e,q⟩
end
section
variable {D:Ends}{σ:St}{H:Hp}{Q:VK}{t u:TS}{te ta tb:TE}{c:TT}{i:Nat}{v:V}{r:R2}
theorem ld(P:St->Hp->Prop)(h1:∀σ' H',P σ' H'->u D σ' H')(h2:(∀σ' H',P σ' H'->u D σ' H')->t { D with nx:=u D } σ H):cY t u D σ H:=h2 h1
theorem hZ(P:St->Hp->Prop)(h:P σ H)(h1:∀σ' H',P σ' H'->u D σ' H'):u D σ H:=h1 σ H h
theorem aC(h:te σ H λx H1=>u D (σ.set i (some x)) H1):cY (oq te (pp i)) u D σ H:=h
theorem cE(h:te σ H λ_ H1=>u D σ H1):cY (om te) u D σ H:=h
theorem am{t1:TS}(h:c σ H λb H1=>if b=true then t1 { D with nx:=u D } σ H1 else u D σ H1):cY (hG c t1 pU) u D σ H:=h
theorem bw{K:PySem.W.Frag}{n:V}(h:ta σ H λx H1=>iV K [x,n] H1 Q):tCB (iV K) (pV ta (pV (tC n) pT)) σ H Q:=h
theorem ia{t1 t2:TS}(P:St->Hp->Prop)(h1:∀σ' H',P σ' H'->u D σ' H')(h2:(∀σ' H',P σ' H'->u D σ' H')->c σ H λb H1=>if b=true then t1 { D with nx:=u D } σ H1 else t2 { D with nx:=u D } σ H1):cY (hG c t1 t2) u D σ H:=h2 h1
theorem bJ(h:te σ H λx H1=>D.nx (σ.set i (some x)) H1):oq te (pp i) D σ H:=h
theorem aG(h:te σ H D.rt):vx te D σ H:=h
theorem lc(h:te σ H λ_ H1=>D.nx σ H1):om te D σ H:=h
theorem oG(h:D.nx σ H):pU D σ H:=h
theorem cw(h:c σ H λb H1=>if b=true then t D σ H1 else u D σ H1):hG c t u D σ H:=h
theorem oH{K:Bool->Hp->Prop}(h:te σ H λx H'=>∃k,x=.bl k/\K k H'):tB te σ H K:=h
theorem fP{K:Bool->Hp->Prop}{tt:TT}(h:tt σ H λk H1=>K (!k) H1):vA tt σ H K:=h
theorem dk{K:Bool->Hp->Prop}{t1 t2:TT}(h:t1 σ H λk H1=>if k=true then t2 σ H1 K else K false H1):vE t1 t2 σ H K:=h
theorem mm{K:Bool->Hp->Prop}{t1 t2:TT}(h:t1 σ H λk H1=>if k=true then K true H1 else t2 σ H1 K):tOr t1 t2 σ H K:=h
theorem aV(h:ta σ H λx H1=>∃k,x=.bl k/\if k=true then tb σ H1 Q else Q (.bl false) H1):vD ta tb σ H Q:=h
theorem cv(h:ta σ H λx H1=>∃k,x=.bl k/\if k=true then Q (.bl true) H1 else tb σ H1 Q):vy ta tb σ H Q:=h
theorem Bc(h:ta σ H λx H1=>∃k,x=.bl k/\Q (.bl (!k)) H1):vz ta σ H Q:=h
theorem qU{K:PySem.W.Frag}{T:String}{f:V->List V->Hp->VK->Prop}{t:TA}(h:te σ H λx H1=>tyV K T x H1/\t σ H1 λxs H2=>f x xs H2 Q):tBM K T f te t σ H Q:=h
theorem v7{a b:Int}(e:a=b)(h:Q (.bl true) H):Q (.bl (decide (a=b))) H:=by rw[decide_eq_true e];exact h
theorem aN{A B:Prop}(h:A):if true=true then A else B:=by rw[if_pos rfl];exact h
theorem aM{A B:Prop}(h:B):if false=true then A else B:=by rw[if_neg Ka];exact h
theorem ai{p A B:Prop}[Decidable p](h1:p->A)(h2:¬p->B):if decide p=true then A else B:=by
 by_cases hp:p
 ·rw[if_pos (decide_eq_true hp)];exact h1 hp
 ·rw[if_neg (by rw[decide_eq_false hp];exact Ka)];exact h2 hp
theorem gE{p A B:Prop}[Decidable p](h1:¬p->A)(h2:p->B):if(!decide p)=true then A else B:=by
 by_cases hp:p
 ·rw[if_neg (by rw[decide_eq_true hp];exact Ka)];exact h2 hp
 ·rw[if_pos (by rw[decide_eq_false hp];rfl)];exact h1 hp
end
structure Cal(P:Program)(w:World)(K:PySem.W.Frag)(mg:Str->Option Value)(base:Heap)(k:Nat)(x:Str)(ps:List Str)(sp:Sp)(f:Addr)(fd:FuncData):Prop where
 ok:FnOk P w K mg base CX0 k f fd ps sp
 mg:mg x=some (.ref f)
 kp:PySem.W.keepIn K (.ref f)=true
 bd:Binds K fd ps []
theorem Same.upd_new{H:Hp}{p:Addr}{o:HO}(h:H p=none):Same H (upd H p o):=λb u e=>by rw[upd_ne (aU e h)];exact e
theorem Same.then_new{H H1:Hp}{p:Addr}{o:HO}(s:Same H H1)(h:H1 p=none):Same H (upd H1 p o):=s.trans (Same.upd_new h)
theorem Same.ne{H H1:Hp}{a p:Addr}{o:HO}(s:Same H H1)(e:H a=some o)(h:H1 p=none):a≠p:=aU (s a o e) h
section
variable {X:Cx}{K:PySem.W.Frag}
theorem bS(h:X.K=K):IxR X (wc K):=by subst h;exact Fo
theorem aI(h:X.K=K):IxR X (wb K):=by subst h;exact Fn
theorem oC(h:X.K=K):SlR X (qV K):=by subst h;exact Ah
noncomputable def Bw(K:PySem.W.Frag):List V->Hp->VK->Prop:=λxs H Q=>∃p ys,xs=[.ref p]/\(SqL K H p ys\/SqT K H p ys)/\Q (.int ys.length) H
theorem dF(h:X.K=K):cL X (.builtin "len") (Bw K):=by subst h;exact HS
noncomputable def Bv(K:PySem.W.Frag):List V->Hp->VK->Prop:=λxs H Q=>∃p ys,xs=[.ref p]/\(SqL K H p ys\/SqT K H p ys)/\∀l,H l=none->Q (.ref l) (upd H l (.lst ys))
theorem yy(h:X.K=K):cL X (.type "list") (Bv K):=by subst h;exact HR
theorem B6(h:X.K=K)(hu:X.A.units+64<cLine):OpR X (compareOp .Eq) (we K):=by subst h;exact B7 hu
theorem B1(h:X.K=K)(hu:X.A.units+64<cLine):OpR X (compareOp .NotEq) (v9 K):=by subst h;exact B2 hu
theorem bH(h:X.K=K):cL X (.builtin "isinstance") (iV K):=by subst h;exact HU
theorem q8{tg l:Expr}{tl:TE}(h:X.K=K)(hl:PE X l tl):PI X tg l (xR K tl):=by subst h;exact BO hl
theorem BK{tg l:Expr}{tl:TE}(h:X.K=K)(hl:PE X l tl):PI X tg l (xQ K tl):=by subst h;exact BL hl
theorem aK{e:Expr}{ta:TE}{f:Str}{pos:Pos}(h:X.K=K)(he:PE X e ta)(hb:attributeBase e f X.env (eval e X.env)=eval e X.env):PE X (.Attribute e f pos) (vC K ta f):=by subst h;exact BV he hb
end
section
variable {X:Cx}
end
section
variable {X:Cx}{tg:Expr}
end
structure FunD(K:PySem.W.Frag)(x qual:Str)(st:Stmt)(dV:Value)(f:Addr)(fd:FuncData):Prop where
 ex:∃(oc:Value) (od:Option Addr) (kV doc pm:Value) (an:Option Addr) (cdv ct:Value) (osl:Array (Option Value)),
  fd=PySem.W.fnOf x qual (az st) (ax st) (ae st) dV kV doc pm an cdv ct/\K.lookup f=some ⟨oc,od,.func fd,osl⟩/\PySem.W.codeIn K cdv qual=true
 kp:PySem.W.keepIn K (.ref f)=true
section
variable {P:Program}{w:World}{K:PySem.W.Frag}{mg:Str->Option Value}{base:Heap}
theorem FunD.ok{x qual:Str}{st:Stmt}{dV:Value}{f:Addr}{fd:FuncData}{N ps:List Str}{k:Nat}{sp:Sp}(F:FunD K x qual st dV f fd)(S:FnScope N ps (ae st))(len:∀vs H Q E,sp vs H Q E->vs.length=ps.length)
 (hbody:∀(cdv:Value) (A:Around) (outer:List Env) (s:Shared) (H:Hp) (vs:List V) (Q:VK) (E:XK),Room k (A.deeper (envOfC qual (ae st) s.heap.objs.size f cdv))->sp vs H Q E ->
   ∃t,PSs (bu CX0 P w K mg base N qual (ae st) f cdv A outer s H E).nox (ax st) t/\t { nx:=λ_ H'=>Q .non H',rt:=Q } (dW N vs) H):FnOk P w K mg base CX0 (k+1) f fd ps sp:=by
 obtain⟨oc,od,kV,doc,pm,an,cdv,ct,osl,rfl,lk,hcd⟩:=F.ex;refine pw lk hcd S len λA outer s H vs Q E hr hsp=>?_
 obtain⟨t,h,q⟩:=hbody cdv A outer s H vs Q E hr hsp;exact⟨t,h.nox,q⟩
theorem FunD.binds{x qual:Str}{st:Stmt}{dV:Value}{f:Addr}{fd:FuncData}{ps:List Str}(F:FunD K x qual st dV f fd)
 (h:∀(kV doc pm:Value) (an:Option Addr) (cdv ct:Value) (us:List Value),us.length=ps.length->bindArgs (PySem.W.fnOf x qual (az st) (ax st) (ae st) dV kV doc pm an cdv ct) ⟨us,[]⟩=pure (ps.zip us)):Binds K fd ps []:=by
 obtain⟨oc,od,kV,doc,pm,an,cdv,ct,osl,rfl,lk,hcd⟩:=F.ex;exact .all (h kV doc pm an cdv ct)
theorem FunD.bindsD{x qual:Str}{st:Stmt}{T:Addr}{f:Addr}{fd:FuncData}{ps:List Str}{ds tup:List Value}{o:Obj}{n:Nat}(m:Nat)(F:FunD K x qual st (.ref T) f fd)(lo:K.lookup T=some o)(hs:o.data=.seq tup.toArray n)(hm:m+ds.length=ps.length)
 (h:∀(kV doc pm:Value) (an:Option Addr) (cdv ct:Value) (us:List Value),us.length=m->∃k:Option (Array Value)->Sem (List (Str×Value)),
   bindArgs (PySem.W.fnOf x qual (az st) (ax st) (ae st) (.ref T) kV doc pm an cdv ct) ⟨us,[]⟩=seqItems? (.ref T) >>= k/\k (some tup.toArray)=pure (ps.zip (us++ds))):Binds K fd ps ds:=by
 obtain⟨oc,od,kV,doc,pm,an,cdv,ct,osl,rfl,lk,hcd⟩:=F.ex;intro s us KX hl;rw[J2]at hl;obtain⟨k,h1,h2⟩:=h kV doc pm an cdv ct us (by omega);exact PySem.W.binds_K (k:=k) KX rfl lo hs h1 h2
theorem Gf{x qual:Str}{st:Stmt}{f:Addr}{oc:Value}{od an:Option Addr}{osl:Array (Option Value)}{dV kV doc pm cdv ct:Value}(l:K.lookup f=some ⟨oc,od,.func (PySem.W.fnOf x qual (az st) (ax st) (ae st) dV kV doc pm an cdv ct),osl⟩)
 (c:PySem.W.codeIn K cdv qual=true) (k:PySem.W.keepIn K (.ref f)=true):FunD K x qual st dV f (PySem.W.fnOf x qual (az st) (ax st) (ae st) dV kV doc pm an cdv ct):=⟨⟨oc,od,kV,doc,pm,an,cdv,ct,osl,rfl,l,c⟩,k⟩
end
structure MCal(P:Program)(w:World)(K:PySem.W.Frag)(mg:Str->Option Value)(base:Heap)(k:Nat)(C:Addr)(m:Str)(ps:List Str)(sp:Sp)(f:Addr)(fd:FuncData):Prop where
 ok:FnOk P w K mg base CX0 k f fd ps sp
 mt:Meth K C m f
 bd:Binds K fd ps []
structure KCal(P:Program)(w:World)(K:PySem.W.Frag)(mg:Str->Option Value)(base:Heap)(k:Nat)(C:Addr)(x:Str)(ps:List Str)(sp:Sp)(f:Addr)(fd:FuncData)(ds:List Value)(dvs:List V):Prop where
 ok:FnOk P w K mg base CX0 k f fd ps sp
 mkr:Mk K C f
 mg:mg x=some (.ref C)
 bd:Binds K fd ps []
 bdD:Binds K fd ps ds
 vd:Vals dvs ds
section
variable {prog:Program}{w:World}{A:Around}{E:Value->Shared->Prop}{s:Shared}
end
section
variable {X:Cx}{K:PySem.W.Frag}
end
noncomputable def CXW(P:Program)(w:World):CXT:=λouter H s E e s'=>∃(ea:Addr) (cls a0:Value) (B:Heap) (H':Hp),e=.ref ea/\s'.os=s.os/\AllBare s'.gens/\Un (frs outer) [] H H' s.heap s'.heap/\HOk P w H' s'.heap /\
 Heap.FlyingW B outer ea cls a0 s'.heap/\(∀b o,s.heap.get? b=some o->b∉frs outer->∃o',s'.heap.get? b=some o'/\B.get? b=some o')/\(∀b x,H' b=some x->∃o',s'.heap.get? b=some o'/\B.get? b=some o')/\H' ea=none/\s.heap.get? ea=none/\E cls none H'
theorem Un.back{fs:List Addr}{H H1:Hp}{h h1 h2:Heap}(u:Un fs [] H H1 h h1)(k:∀b o,h.get? b=some o->b∉fs->∃o',h1.get? b=some o'/\h2.get? b=some o')
 (hf:∀b∈fs,H b=none) (hd:∀b∈fs,∀o,h1.get? b=some o->∀vs,o.data≠.fields vs) (sl:h1.UpToSlots h2):Un fs [] H H1 h h2 where
 keep:=λb o e n hb hx=>by obtain⟨o',e1,e2⟩:=k b o e hb;rw[u.keep b o e n hb hx]at e1;cases e1;exact e2
 slot:=λb o e n hb hx=>by obtain⟨s1,e1⟩:=u.slot b o e n hb hx;obtain⟨s2,e2⟩:=sl b _ e1 (hd b hb _ e1);exact⟨s2,e2⟩
 free:=u.free
 there:=λb o e hx=>by
  by_cases hb:b∈fs
  ·obtain⟨s1,e1⟩:=u.slot b o e (hf b hb) hb hx;obtain⟨s2,e2⟩:=sl b _ e1 (hd b hb _ e1);exact⟨_,e2⟩
  ·obtain⟨o',_,e2⟩:=k b o e hb;exact⟨o',e2⟩
 tups:=u.tups
 frzs:=u.frzs
 tbls:=u.tbls
theorem HOk.back{P:Program}{w:World}{H:Hp}{h h' B:Heap}(x:HOk P w H h)(k:∀b y,H b=some y->∃o',h.get? b=some o'/\B.get? b=some o')(st:B.StaysIn h'):HOk P w H h':=λa o e=>by
 refine(x a o e).stay (λb u hb q=>?_) (λ_ z=>z) λ_ _ z=>z
 have hn:∃y,H b=some y:=by
  rcases hb with rfl |hb
  ·exact⟨_,e⟩
  ·exact⟨_,hb⟩
 obtain⟨y,hy⟩:=hn;obtain⟨o',e1,e2⟩:=k b y hy;rw[q]at e1;cases e1;exact st _ _ e2
theorem DE{P:Program}{w:World}{H:Hp}{h:Heap}{a:Addr}{o:HO}(x:ObjOk P w H h a o):∃u,h.get? a=some u:=by
 induction o with
 |lst xs=>obtain⟨_,_,_,_,e⟩:=x;exact⟨_,e⟩
 |tup xs=>obtain⟨z,its,r,ob,e,c⟩:=x;exact⟨_,e⟩
 |dK kvs=>obtain⟨z,y,vs,r,ob,es,ep,e,c⟩:=x;exact⟨_,e⟩
 |dT kvs=>obtain⟨z,y,xs,r,ob,es,ep,e,c⟩:=x;exact⟨_,e⟩
 |set S n=>obtain⟨ob,es,ep,t,e,c⟩:=x;exact⟨_,e⟩
 |ins C dx fs=>obtain⟨d,z,ne,e,_⟩:=x;exact⟨_,e⟩
 |own y=>obtain⟨ob,e⟩:=x;exact⟨_,e⟩
 |xd fs=>obtain⟨mA,⟨od,es,ep,e,c⟩,r⟩:=x;exact⟨_,e⟩
 |rng lo hi=>obtain⟨t,u,v,e⟩:=x;exact⟨_,e⟩
 |frz ob u ih=>exact⟨_,x.1⟩
 |tbl ps=>exact⟨_,x⟩
 |met f y=>exact⟨_,x⟩
 |ext φ=>obtain⟨p,⟨o,e⟩,st⟩:=x;exact⟨_,e⟩
theorem x6{env:Env}{outer:List Env}{L:Addr}(h:env.frame=some L):frs (env::outer)=L::frs outer:=by unfold frs;rw[Lg,h]
section
variable {P:Program}{w:World}{K:PySem.W.Frag}{mg:Str->Option Value}{base:Heap}{N:List Str}{qual:Str}{scope:Scope}{f:Addr}{cd:Value}{A:Around}{outer:List Env}{s:Shared}{H:Hp}{E:XK}{pins:List (Addr×Obj)}{σ:St}{H1:Hp}{s1:Shared}
theorem Gh(I:Inv (bu (CXW P w) P w K mg base N qual scope f cd A outer s H E) pins σ H1 s1):∀b∈frs outer,∀o,s1.heap.get? b=some o->∀vs,o.data≠.fields vs:=λb hb o e=>by obtain⟨_,o',e',hd⟩:=I.funs.mem hb;have e'':s1.heap.get? b=some o':=e';rw[e]at e'';cases e'';exact hd
theorem zd{E':XK}{e:Value}{s2:Shared}(I:Inv (bu (CXW P w) P w K mg base N qual scope f cd A outer s H E) pins σ H1 s1)(h:CXW P w (bu (CXW P w) P w K mg base N qual scope f cd A outer s H E).stack H1 s1 E' e s2)(hE:∀c d H',E' c d H'->E c d H') :
 (bu (CXW P w) P w K mg base N qual scope f cd A outer s H E).xe e s2:=by
 obtain⟨ea,cls,a0,B,H2,rfl,os,bare,un,hok,fl,b1,b2,he,hn,hE'⟩:=h;have J:Inv (bu (CXW P w) P w K mg base N qual scope f cd A outer s H E) pins σ H2 s2:=I.call' os un hok bare (λb hb=>nomatch hb);have hfrm:(envOfC qual scope s.heap.objs.size f cd).frame=some s.heap.objs.size:=rfl;have efr:frs (envOfC qual scope s.heap.objs.size f cd::outer)=s.heap.objs.size::frs outer:=x6 hfrm
 have b1':∀b o,s.heap.get? b=some o->b∉frs outer->∃o',s2.heap.get? b=some o'/\B.get? b=some o':=λb o q hb=>by
  obtain⟨o',q'⟩:=I.base.there b o q (λz=>nomatch z);refine b1 b o' q' ?_;show b∉frs (envOfC qual scope s.heap.objs.size f cd::outer);rw[efr];intro z;rcases J8.mp z with z |z
  ·exact absurd (Heap.lt_size q) (by rw[z];exact Km _)
  ·exact hb z
 refine wpAny_leaves_onW (L:=s.heap.objs.size) I.ok.frames hfrm fl λh'' fl' up=>?_
 refine⟨ea,cls,a0,B,H2,rfl,J.os,J.bare,?_,J.hok.back b2 fl'.1,fl',λb o q hb=>?_,λb x q=>?_,he,?_,hE _ _ _ hE'⟩
 ·exact J.base.back (λb o q hb=>let⟨o',q1,q2⟩:=b1' b o q hb;⟨o',q1,fl'.1 _ _ q2⟩) I.ok.frf (Gh J) up
 ·obtain⟨o',q1,q2⟩:=b1' b o q hb;exact⟨o',fl'.1 _ _ q2,q2⟩
 ·obtain⟨o',q1,q2⟩:=b2 b x q;exact⟨o',fl'.1 _ _ q2,q2⟩
 ·cases q:s.heap.get? ea with
  |none=>rfl
  |some o=>obtain⟨o',q'⟩:=I.base.there ea o q (λz=>nomatch z);rw[hn]at q';cases q'
end
section
variable {P:Program}{w:World}{K:PySem.W.Frag}{mg:Str->Option Value}{base:Heap}
end
section
variable {X:Cx}{pins:List (Addr×Obj)}{σ:St}{H1 H2:Hp}{s1 s2:Shared}
end
section
variable {X:Cx}{CX:CXT}{k:Nat}{f C:Addr}{fd:FuncData}{ps:List Str}{sp:Sp}{dvs:List V}{ds:List Value}{E:XK}{x m:Str}{p pos apos:Pos}{e o:Expr}{es:List Expr}{ta:TE}{t:TA}{pins:List (Addr×Obj)}{σ:St}
end
section
variable {X:Cx}{pins:List (Addr×Obj)}{σ:St}{H:Hp}{s:Shared}{ea:Addr}{oe:Obj}
end
section
variable {X:Cx}{k:Nat}{f C R:Addr}{fd:FuncData}{ps:List Str}{sp:Sp}{dvs:List V}{ds:List Value}{m r n:Str}{pos apos cpos epos np hpos:Pos}{e o:Expr}{es:List Expr}{ta:TE}{t:TA}{i:Nat}{b₀:Stmt}{suite:List Stmt}{th:Addr->Obj->TS}
end
open PySem PySem.Spec PyProof.Rows PySem.W PySem.Calls PySem.Builtin PySem.Builtin.ObjectAttr PySem.Builtin.Getset_descriptor
section
variable {prog:Program}{w:World}{A:Around}{E:Value->Shared->Prop}{s:Shared}{K:Frag}{x D:Addr}{M:Model}{h:Heap}
end
theorem HJ{K:PySem.W.Frag}{C:Addr}{b:Value}{k:Bool}(h:mroIn K C b=some k):(clsIn K C).isSome=true:=by
 unfold mroIn at h
 cases e:clsIn K C with
 |none=>rw[e]at h;cases h
 |some _=>rfl
structure ECls(K:PySem.W.Frag)(D:Addr):Prop where
 cl:(clsIn K D).isSome=true
 ga:findIn K (.ref D) "__getattribute__"=some (some (.builtin "BaseException.__getattribute__"))
 gn:findIn K (.ref D) "__getattr__"=some none
 mB:mroIn K D (.type "BaseException")=some true
 ha:findIn K (.ref D) "__class__"=some (some (.builtin "object.__class__"))
 hn:specialIn K (.builtin "object.__class__") "__get__"=some (some (.builtin "getset_descriptor.__get__"))
 ht:takesIn K (.builtin "object.__class__")=some true
 hm:mroIn K D (.type "object")=some true
noncomputable def lS(lo:Int)(n:Nat):It:=⟨λi _=>i<n,λi H x H'=>H'=H/\x=.int (lo+i * -1),λi _=>n<=i⟩
theorem zp{P:Program}{w:World}{K:PySem.W.Frag}{tg:Expr}(it:Addr)(lo:Int)(n:Nat):Turn P w K tg (lS lo n) [it] it (λi h=>IsRangeIter h it (lo+(i:Nat) * -1) ((n:Int)-(i:Nat)) (-1)) where
 mem:=by simp
 obj:=λi h st b hb=>by
  have e:b=it:=by simpa using hb
  subst e
  exact⟨_,st,λv z=>by
   have z':Data.fields _=Data.cell v:=z
   cases z'⟩
 keep:=λi h h' st k=>k it (by simp) _ st
 item:=by
  intro X hP hw hK hc i pins s σ H E I hf st hg;subst hP hw hK;obtain⟨f0,f1,f2,f3,f4,f5⟩:=hf it (by simp);have W:=Walks.range (prog:=X.prog) (w:=X.w) (I.ok.hd hc) it lo (-1) n;refine W.item i s _ _ hg st λv h' tk hv st' kk=>?_
  obtain⟨t,rfl⟩:=hv;have I1:Inv X pins σ H { s with heap:=h',toks:=tk }:=I.turned (λb o hb e=>kk b o (by simpa using hb) e) f0 f1 f3 f4 f5;exact⟨_,rfl,mX (s:={ s with heap:=h',toks:=tk }) (n:="range_iterator") st' rfl rfl (by decide) ⟨.int (lo+i * -1),H,I1,⟨t,rfl⟩,⟨rfl,rfl⟩,st',λb hb=>(hf b hb).1⟩⟩
 done:=by intro X hP hw hK hc i pins s σ H E I hf st hg;subst hP hw hK;obtain⟨f0,f1,f2,f3,f4,f5⟩:=hf it (by simp);exact wpAny_pyNext_range_end (I.ok.hd hc) st (by have:n<=i:=hg;omega) λh' eb=>⟨rfl,I.turned (t':=s.toks) (λb o hb e=>eb b o hb e) f0 f1 f3 f4 f5⟩
 self:=λ_ _ _ _ _ st h=>wpAny_pyIter_rangeiter st h
theorem v8(a b:Int):Builtin.Range.rangeSize a b (-1)=if b<a then a-b else 0:=by unfold Builtin.Range.rangeSize;rw[if_neg (by decide)];show(if a>b then(a-b-1)/1+1 else 0)=_;rw[Int.ediv_one];split<;>omega
theorem Ad{a b:Int}(ha : -(2^61)<=a)(ha':a<2^61)(hb : -(2^61)<=b)(hb':b<2^61):Builtin.Range.small a b (-1)=true:=by unfold Builtin.Range.small;rw[v8];simp only[Builtin.Range.rangeFitsLong,Kf,Lc,decide_eq_true_eq,beq_iff_eq,show ¬((-1:Int)>0) by decide,if_false];split<;>omega
section
variable {X:Cx}{tg:Expr}
theorem Bm{pins:List (Addr×Obj)}{σ:St}{H:Hp}{s:Shared}{R:It->Hp->Prop}{E:Value->Shared->Prop}{lo hi:Int}{t u v:Tok}{tk:Nat}(I:Inv X pins σ H s)(h1 : -(2^61)<=lo)(h2:lo<2^61)(h3 : -(2^61)<=hi)(h4:hi<2^61)
 (q:R (lS lo (lo-hi).toNat) H):wpAny (model X.prog X.w) X.A (pyIter (.ref s.heap.objs.size)) (PIE X pins σ tg R) E { s with heap:=s.heap.push { cls:=.type "range",data:=.fields #[.int lo t,.int hi u,.int (-1) v] },toks:=tk }:=by
 refine wpAny_pyIter_range (IsRange.new ..) (Ad h1 h2 h3 h4) ?_;have I1:Inv X pins σ H { s with heap:=s.heap.push { cls:=.type "range",data:=.fields #[.int lo t,.int hi u,.int (-1) v] },toks:=tk }:=I.kept λb o e=>Heap.get?_push_of_some _ e
 refine⟨(s.heap.push { cls:=.type "range",data:=.fields #[.int lo t,.int hi u,.int (-1) v] }).objs.size,[(s.heap.push { cls:=.type "range",data:=.fields #[.int lo t,.int hi u,.int (-1) v] }).objs.size],_,_,H,rfl,
  I1.kept (t':=tk) λb o e=>Heap.get?_push_of_some _ e,zp _ lo (lo-hi).toNat,?_,λb hb=>?_,q⟩
 ·have e1:lo+((0:Nat):Int) * -1=lo:=by simp
  have e2:(((lo-hi).toNat:Nat):Int)-((0:Nat):Int)=Builtin.Range.rangeSize lo hi (-1):=by rw[v8];split<;>omega
  show IsRangeIter _ _ (lo+((0:Nat):Int) * -1) ((((lo-hi).toNat:Nat):Int)-((0:Nat):Int)) (-1);rw[e1,e2];exact Heap.get?_push_size _ rfl
 ·have e:b=(s.heap.push { cls:=.type "range",data:=.fields #[.int lo t,.int hi u,.int (-1) v] }).objs.size:=by simpa using hb
  subst e;exact I1.fpOk (J3 _) (I1.hok.fresh (J3 _))
def FP(ta:TA):TI:=λσ H R=>ta σ H λvs H1=>∃i j:Int,vs=[.int i,.int j,.int (-1)]/\(-(2^61)<=i/\i<2^61 /\ -(2^61)<=j/\j<2^61)/\R (lS i (i-j).toNat) H1
theorem BN{a b c:Expr}{ta:TA}{p pos:Pos}(hg:Gl X "range")(hm:X.mg "range"=none)(ha:PA X [a,b,c] ta)(hs:starEach [a,b,c] X.env=[(false,eval a X.env),(false,eval b X.env),(false,eval c X.env)]:=by rfl)(hs2:starEach [b,c] X.env=[(false,eval b X.env),(false,eval c X.env)]:=by rfl) :
 PI X tg (.Call (.Name "range" p) [a,b,c] [] pos) (FP ta):=by
 intro pins s σ H R I h;refine Call_ (mO I hg hm boot_range (PyProof.Rows.callWith_type1 (thn (ha pos pins s σ H _ I h) λus s1 ⟨vs,H1,I1,r1,q1⟩=>?_) (by rw[hs,hs2]) (by rw[hs2];rfl)));obtain⟨i,j,e,⟨q1,q2,q3,q4⟩,q⟩:=q1;subst e;cases r1 with
 |cons r rr =>
  cases rr with
  |cons r' rr =>
   cases rr with
   |cons r'' rr =>cases rr;obtain⟨t,rfl⟩:=r;obtain⟨t',rfl⟩:=r';obtain⟨t'',rfl⟩:=r'';exact call_range_3 (by decide) (Bm I1 q1 q2 q3 q4 q) (Or.inl (PyProof.noPylong_small (by decide)))
end
theorem x8{lo:Int}{n:Nat}{g:TG}{tb:TS}{D:Ends}{σ:St}{H:Hp}(Pv:Nat->St->Hp->Prop)(h0:Pv 0 σ H)
 (hs:∀i σ H,i<n->Pv i σ H->g (.int (lo+i * -1)) σ H λσ2 H2=>tb { D with nx:=Pv (i+1),ct:=Pv (i+1),bk:=D.nx } σ2 H2) (hd:∀σ H,Pv n σ H->D.nx σ H) :
 ∃W:Nat->Nat->St->Hp->Prop,(∃m,W 0 m σ H)/\∀i m σ H,W i m σ H ->
  ((lS lo n).stop i H/\D.nx σ H)\/((lS lo n).go i H/\∃N:St->Hp->Prop,(∀σ' H',N σ' H'->∃m',m'<m/\W (i+1) m' σ' H')/\∀x H',(lS lo n).yld i H x H'->g x σ H' λσ2 H2=>tb { D with nx:=N,ct:=N,bk:=D.nx } σ2 H2):=by
 refine⟨λi m σ H=>m=n-i/\i<=n/\Pv i σ H,⟨n,by simp,Kj _,h0⟩,?_⟩;rintro i m σ H ⟨rfl,hi,p⟩;by_cases hlt:i<n
 ·refine .inr ⟨hlt,Pv (i+1),λσ' H' p'=>⟨n-(i+1),by omega,rfl,hlt,p'⟩,λx H' y=>?_⟩;obtain⟨e,y⟩:=y;subst e y;exact hs i σ _ hlt p
 ·have e:i=n:=by omega
  subst e;exact .inl ⟨J3 _,hd σ H p⟩
section
variable {X:Cx}{CX:CXT}{k:Nat}{f C R:Addr}{fd:FuncData}{ps:List Str}{sp:Sp}{dvs:List V}{ds:List Value}{m r n x:Str}{p pos apos cpos epos np hpos:Pos}{e o ex:Expr}{es:List Expr}{ta:TE}{t:TA}{i:Nat}{b₀:Stmt}{suite:List Stmt}{th:Addr->Obj->TS}{tx:XK->TE}
end
section
variable {X:Cx}{R R2:Addr}{r r2 n n2:Str}{pos epos np hpos np2 hpos2:Pos}{ex:Expr}{i i2:Nat}{b₀ b₂:Stmt}{suite suite2:List Stmt}{th th2:Addr->Obj->TS}{tx:XK->TE}
end
section
variable {X:Cx}{K:PySem.W.Frag}
end
section
variable {X:Cx}
noncomputable def Bq:V->List V->Hp->VK->Prop:=λx vs H Q=>∃(z:Str) (i:Int),x=.str z/\vs=[.int i]/\PadOk i=true/\Q (.str (PySem.Txt.zfill z i)) H
theorem DN:MtM X "str.zfill" Bq:=by intro pins s σ H x vs v us Q I rx rv h;obtain⟨z,i,rfl,rfl,hp,q⟩:=h;obtain⟨t,rfl⟩:=rx;obtain⟨u,rfl,ru⟩:=rv.one;obtain⟨t2,rfl⟩:=ru;exact PySem.SC.zfill hp λt' k=>⟨.str _,H,I.tok _,⟨_,rfl⟩,q⟩
theorem vF:∀{zs:List Str} {us:List Value},Vals (zs.map V.str) us->∃l:List (Str×Tok),us=strValues l/\l.map (·.1)=zs
 | [],_,h=>by cases h;exact⟨[],rfl,rfl⟩
 |z::zs,_,h=>by
  cases h with
  |cons r rr =>obtain⟨t,rfl⟩:=r;obtain⟨l,rfl,e⟩:=vF rr;exact⟨(z,t)::l,rfl,by rw[Kw,e]⟩
noncomputable def wa(K:PySem.W.Frag):V->List V->Hp->VK->Prop:=λx vs H Q=>∃(sep:Str) (a:Addr) (zs:List Str),x=.str sep/\vs=[.ref a]/\SqL K H a (zs.map V.str)/\zs.foldl (λn z=>n+z.length+sep.length) 0<=sizeLine/\(Builtin.Str.glued sep zs).length<=sizeLine/\Q (.str (Builtin.Str.glued sep zs)) H
theorem DQ:MtM X "str.join" (wa X.K):=by
 intro pins s σ H x vs v us Q I rx rv h;obtain⟨sep,a,zs,rfl,rfl,ha,h1,h2,q⟩:=h;obtain⟨t,rfl⟩:=rx;obtain⟨u,rfl,ru⟩:=rv.one;cases ru;obtain⟨its,r,pl,_⟩:=I.list ha;obtain⟨l,rfl,e⟩:=vF r
 have hl:Builtin.Str.tooLong (Array.foldl (λn z=>n+z.length+sep.length) 0 (List.map (λx=>x.fst) l).toArray)=false:=by unfold Builtin.Str.tooLong;rw[e];simp only[List.foldl_toArray',List.foldl_toArray,decide_eq_false_iff_not];omega
 refine call_meets F.slot_str_join (typeIs_str s sep t) F.entry_str_join (F.args_str_join_2 _ _) (meets_str_join_list sep t a l hl) ⟨pl.isList,?_⟩;unfold joinMade;split
 ·rename_i p
  have e':zs=[p.1]:=by rw[<- e];rfl
  subst e';refine⟨.str _,H,I,⟨p.2,rfl⟩,?_⟩;have e3:Builtin.Str.glued sep [p.1]=p.1:=rfl;rw[e3]at q;exact q
 ·rw[e];exact⟨h2,⟨.str _,H,I.tok _,⟨_,rfl⟩,q⟩⟩
theorem DP{K:PySem.W.Frag}(h:X.K=K):MtM X "str.join" (wa K):=by subst h;exact DQ
end
end L2
namespace RM
open PySem
theorem ofS(s:String):Str.ofString s=⟨(s.toList.map Char.toNat).toArray⟩:=by unfold Str.ofString;rw[cpsOfBytes_string]
noncomputable def al(n:Nat):List Nat:=(Nat.toDigits 10 n).map Char.toNat
theorem o9(n:Nat):Str.ofString (toString (n:Int))=⟨(al n).toArray⟩:=by rw[ofS];show(⟨(((Nat.repr n)).toList.map Char.toNat).toArray⟩:Str)=_;unfold Nat.repr al;rw[String.toList_ofList]
theorem FC(n:Nat):Str.ofString (toString (Int.negSucc n))=⟨(45::al (n+1)).toArray⟩:=by rw[ofS];show(⟨((("-"++Nat.repr (n+1))).toList.map Char.toNat).toArray⟩:Str)=_;unfold Nat.repr al;rw[String.toList_append,String.toList_ofList,String.toList_ofList];rfl
theorem yn:∀d,d<10->(Nat.digitChar d).toNat=48+d:=by decide
theorem fS{n:Nat}(h:n<10):al n=[48+n]:=by unfold al;rw[Nat.toDigits_of_lt_base h];show[_]=_;rw[yn n h]
theorem je{n:Nat}(h:10<=n):al n=al (n/10)++[48+n%10]:=by unfold al;rw[Nat.toDigits_of_base_le (by decide) h,Kl];show _++[_]=_;rw[yn _ (Nat.mod_lt _ (by decide))]
noncomputable def pad:Nat->Nat->List Nat
 |0,_=>[]
 |k+1,r=>pad k (r/10)++[48+r%10]
theorem wt:∀(k r:Nat),(pad k r).length=k
 |0,_=>rfl
 |k+1,r=>by show(pad k (r/10)++[_]).length=_;rw[J2,wt k];rfl
theorem wE{q:Nat}(hq:0<q):∀(k r:Nat),r<10^k->al (q*10^k+r)=al q++pad k r
 |0,r,h=>by
  have e:r=0:=by simpa using h
  subst e;show al (q*1+0)=al q++[];rw[Nat.mul_one,Nat.add_zero,Kk]
 |k+1,r,h=>by
  have hp:1<=10^k:=Nat.pow_pos (by decide);have e1:q*10^(k+1)+r=10*(q*10^k)+r:=by rw[KM];grind
  have h2:1<=q*10^k:=Nat.mul_le_mul hq hp;rw[e1,je (by omega)];have e2:(10*(q*10^k)+r)/10=q*10^k+r/10:=by omega
  have e3:(10*(q*10^k)+r)%10=r%10:=by omega
  have h3:r/10<10^k:=by rw[KM]at h;omega
  rw[e2,e3,wE hq k (r/10) h3,J5];rfl
theorem wq:∀k,pad k 0=List.replicate k 48
 |0=>rfl
 |k+1=>by show pad k (0/10)++[48+0%10]=_;rw[Nat.zero_div,wq k,List.replicate_succ']
theorem q9:∀(k r:Nat),r<10^(k+1)->(al r).length<=k+1/\pad (k+1) r=List.replicate (k+1-(al r).length) 48++al r
 |0,r,h=>by
  have h':r<10:=by simpa using h
  rw[fS h'];refine⟨J3 _,?_⟩;show pad 0 (r/10)++[48+r%10]=_;rw[Nat.mod_eq_of_lt h'];rfl
 |k+1,r,h=>by
  by_cases h':r<10
  ·rw[fS h'];refine⟨by show 1<=k+1+1;omega,?_⟩;show pad (k+1) (r/10)++[48+r%10]=List.replicate (k+1) 48++[48+r];rw[Nat.mod_eq_of_lt h',Nat.div_eq_of_lt h',wq]
  ·have h3:r/10<10^(k+1):=by rw[KM]at h;omega
   obtain⟨i1,i2⟩:=q9 k (r/10) h3;rw[je (by omega)];refine⟨by rw[J2];show _+1<=_;omega,?_⟩;show pad (k+1) (r/10)++[48+r%10]=_;rw[i2,J2,J5];have e:k+1+1-((al (r/10)).length+[48+r%10].length)=k+1-(al (r/10)).length:=by show k+1+1-((al (r/10)).length+1)=_;omega
   rw[e]
theorem wG:∀(n m:Nat),m<=n->∀c∈al m,48<=c
 |0,m,h=>by
  have e:m=0:=by omega
  subst e;rw[fS (by decide)];intro c hc;rw[Kb.mp hc];omega
 |n+1,m,h=>by
  intro c hc;by_cases h':m<10
  ·rw[fS h']at hc;rw[Kb.mp hc];omega
  ·rw[je (by omega)]at hc;rcases Ke.mp hc with hc |hc
   ·exact wG n (m/10) (by omega) c hc
   ·rw[Kb.mp hc];omega
theorem y8{r:Nat}(h:r<10^64):PySem.Txt.zfill (Str.ofString (toString (r:Int))) 64=⟨(pad 64 r).toArray⟩:=by
 obtain⟨i1,i2⟩:=q9 63 r h;rw[o9];unfold PySem.Txt.zfill;have hl:(⟨(al r).toArray⟩:Str).length=(al r).length:=by unfold Str.length;simp
 rw[hl];by_cases h6:(64:Int)<=((al r).length:Nat)
 ·rw[if_pos h6,i2];have e:63+1-(al r).length=0:=by omega
  rw[e];rfl
 ·rw[if_neg h6];unfold zfilled
  have hc:∀c,(⟨(al r).toArray⟩:Str).cps[0]?=some c->48<=c:=λc e=>by
   have e':(al r)[0]?=some c:=by simpa using e
   exact wG r r (J3 _) c (List.mem_of_getElem? e')
  split
  ·rename_i e
   have:=hc _ e;omega
  ·rename_i e
   have:=hc _ e;omega
  ·unfold Builtin.Str.padded;rw[i2];have e:Int.toNat 64-(al r).length=63+1-(al r).length:=rfl;rw[e];generalize 63+1-(al r).length=m;generalize al r=l;refine congrArg Str.mk ?_;simp
theorem HQ(a b:List Nat):(⟨a.toArray⟩:Str)++(⟨b.toArray⟩:Str)=⟨(a++b).toArray⟩:=by show(⟨a.toArray++b.toArray⟩:Str)=_;refine congrArg Str.mk ?_;simp
theorem xX:∀(ls:List (List Nat)) (a:List Nat),(List.foldl (λacc (p:Str)=>acc++(Str.ofString "").cps++p.cps) a.toArray (ls.map λl=>(⟨l.toArray⟩:Str)))=(a++ls.flatten).toArray
 | [],a=>by simp
 |l::ls,a=>by
  rw[Kw,K0]
  have e:a.toArray++(Str.ofString "").cps++l.toArray=(a++l).toArray:=by rw[ofS];simp
  show List.foldl _ (a.toArray++(Str.ofString "").cps++l.toArray) _=_;rw[e,xX ls (a++l),KE,J5]
theorem xW(ls:List (List Nat)):Builtin.Str.glued (Str.ofString "") (ls.map λl=>(⟨l.toArray⟩:Str))=⟨ls.flatten.toArray⟩:=by
 unfold Builtin.Str.glued;cases ls with
 |nil=>rfl
 |cons l ls =>refine congrArg Str.mk ?_;show List.foldl _ l.toArray ((List.map _ (l::ls)).drop 1)=_;rw[Kw,List.drop_succ_cons,List.drop_zero,xX,KE]
end RM
namespace L2
open PySem PySem.Spec PyProof.Rows
def Top(val:Nat->Int)(n:Nat)(M:Int):Prop:=(∃i,i<n/\val i=M)/\∀i,i<n->val i<=M
theorem Top.more{val:Nat->Int}{n:Nat}{M:Int}(h:Top val n M)(hn:val n>M):Top val (n+1) (val n) :=
 ⟨⟨n,by omega,rfl⟩,λi hi=>by
   by_cases e:i=n
   ·subst e;exact Int.le_refl _
   ·have:=h.2 i (by omega);omega⟩
theorem Top.less{val:Nat->Int}{n:Nat}{M:Int}(h:Top val n M)(hn:¬val n>M):Top val (n+1) M :=
 ⟨let⟨i,hi,e⟩:=h.1;⟨i,by omega,e⟩,λi hi=>by
  by_cases e:i=n
  ·subst e;omega
  ·exact h.2 i (by omega)⟩
section
variable {prog:Program}{w:World}{A:Around}{R:Result->Shared->Prop}{I S:Addr}{fp wr:List Addr}{n:Nat}{P:Nat->Value->Prop}{St:Nat->Heap->Prop}{val:Nat->Int}{d:Value}
end
section
variable {prog:Program}{w:World}{A:Around}{E:Value->Shared->Prop}{s:Shared}{l:Addr}{xs:Array (Int×Tok)}{d:Value}
end
section
variable {X:Cx}{K:PySem.W.Frag}{e ed:Expr}{ta td:TE}{p pos kp:Pos}
end
theorem yz:∀{bs:List Bool} {us:List Value},Vals (bs.map V.bl) us->us=bs.map Value.bool
 | [],_,h=>by cases h;rfl
 |b::bs,_,h=>by
  cases h with
  |cons r rr =>cases r;rw[yz rr];rfl
section
variable {X:Cx}
noncomputable def Br:V->Option Int->Option Int->Hp->VK->Prop:=λx lo hi H Q=>∃z,x=.str z/\z.length<=sizeLine/\Q (.str (Txt.slice z lo hi)) H
theorem vO:SlR X Br:=by
 intro pins s σ H x v vl vu lo hi sl Q I rx hs pl pu h;obtain⟨z,rfl,hz,q⟩:=h;obtain⟨t,rfl⟩:=rx;obtain⟨o,ho,hc,hd⟩:=hs;refine⟨"str",_,F.slot_str_getitem.lookup,typeIs_str _ _ _,?_⟩;cases pl with
 |none =>
  cases pu with
  |none=>exact wpAny_getItem_str_slice (l:=none) (u:=none) (st:=none) ⟨o,ho,hc,hd⟩ rfl (post_val_or_str ⟨J7 (Txt.slice_le z _ _) hz,λt' k=>⟨.str _,H,I.tok _,⟨_,rfl⟩,q⟩⟩)
  |int j uj=>exact wpAny_getItem_str_slice (l:=none) (u:=some (j,uj)) (st:=none) ⟨o,ho,hc,hd⟩ rfl (post_val_or_str ⟨J7 (Txt.slice_le z _ _) hz,λt' k=>⟨.str _,H,I.tok _,⟨_,rfl⟩,q⟩⟩)
 |int i ui =>
  cases pu with
  |none=>exact wpAny_getItem_str_slice (l:=some (i,ui)) (u:=none) (st:=none) ⟨o,ho,hc,hd⟩ rfl (post_val_or_str ⟨J7 (Txt.slice_le z _ _) hz,λt' k=>⟨.str _,H,I.tok _,⟨_,rfl⟩,q⟩⟩)
  |int j uj=>exact wpAny_getItem_str_slice (l:=some (i,ui)) (u:=some (j,uj)) (st:=none) ⟨o,ho,hc,hd⟩ rfl (post_val_or_str ⟨J7 (Txt.slice_le z _ _) hz,λt' k=>⟨.str _,H,I.tok _,⟨_,rfl⟩,q⟩⟩)
end
noncomputable def Its(z:Str):It:=⟨λi _=>i<z.cps.size,λi H x H'=>H'=H/\∃c,z.cps[i]?=some c/\x=.str ⟨#[c]⟩,λi _=>z.cps.size<=i⟩
theorem zo{P:Program}{w:World}{K:PySem.W.Frag}{tg:Expr}(z:Str)(t:Tok)(it:Addr):Turn P w K tg (Its z) [it] it (λi h=>h.IsStrIter it "str_ascii_iterator" z t i) where
 mem:=by simp
 obj:=λi h st b hb=>by
  have e:b=it:=by simpa using hb
  subst e;obtain⟨o,e,c,d⟩:=st;exact⟨o,e,λv z=>by rw[d]at z;cases z⟩
 keep:=λi h h' st k=>let⟨o,ho,r⟩:=st;⟨o,k it (by simp) o ho,r⟩
 item:=by
  intro X hP hw hK hc i pins s σ H E I hf st hg;subst hP hw hK;obtain⟨f0,f1,f2,f3,f4,f5⟩:=hf it (by simp);have hi:i<z.cps.size:=hg;have hx:z.cps[i]?=some z.cps[i]:=by simp[hi]
  refine wpAny_pyNext_ascii_item st hx λh' st' sb=>?_
  have I1:Inv X pins σ H { s with heap:=h',toks:=s.toks+1 }:=I.turned (t':=s.toks+1) (λb o hb e=>(sb.2 b hb).trans e) f0 f1 f3 f4 f5;obtain⟨o,e,c,d⟩:=id st';exact⟨_,rfl,mX (s:={ s with heap:=h',toks:=s.toks+1 }) e c d (by decide) ⟨.str ⟨#[z.cps[i]]⟩,H,I1,⟨_,rfl⟩,⟨rfl,_,hx,rfl⟩,st',λb hb=>(hf b hb).1⟩⟩
 done:=by intro X hP hw hK hc i pins s σ H E I hf st hg;subst hP hw hK;obtain⟨f0,f1,f2,f3,f4,f5⟩:=hf it (by simp);have hi:z.cps.size<=i:=hg;exact wpAny_pyNext_ascii_end (I.ok.hd hc) st (by simp[hi]) λh' eb=>⟨rfl,I.turned (t':=s.toks) (λb o hb e=>eb b o hb e) f0 f1 f3 f4 f5⟩
 self:=λ_ _ _ _ _ st h=>wpAny_pyIter_striter_ascii st h
def FO(tl:TE):TI:=λσ H R=>tl σ H λx H1=>∃z,x=.str z/\z.cps.all (·<128)=true/\R (Its z) H1
section
variable {X:Cx}{tg:Expr}{K:PySem.W.Frag}
theorem BM{l:Expr}{tl:TE}(hl:PE X l tl):PI X tg l (FO tl):=by
 intro pins s σ H R I h;refine thn (hl pins s σ H _ I h) λv s1 ⟨x,H1,I1,r1,q1⟩=>?_
 obtain⟨z,e,ha,q⟩:=q1;subst e;obtain⟨t,rfl⟩:=r1;refine wpAny_pyIter_ascii ha ?_;refine⟨s1.heap.objs.size,[s1.heap.objs.size],_,_,H1,rfl,I1.kept (t':=s1.toks) λb o e=>Heap.get?_push_of_some _ e,zo z t _,⟨_,Heap.get?_push_size _ rfl,rfl,rfl⟩,λb hb=>?_,q⟩;have e:b=s1.heap.objs.size:=by simpa using hb
 subst e;exact I1.fpOk (J3 _) (I1.hok.fresh (J3 _))
theorem HG{k:Nat}{js:List Nat}{z:Str}{g:TG}{te:TE}{σ0:St}{H:Hp}{Q:VK}(Pv:Nat->List V->St->Hp->Prop)(hz:z.cps.size<=sizeLine)(h0:Pv 0 [] (jk k js σ0) H)(hl:∀i ys σ H,i<=z.cps.size->Pv i ys σ H->ys.length<=i)
 (hs:∀i c ys σ H,z.cps[i]?=some c->Pv i ys σ H->g (.str ⟨#[c]⟩) σ H λσ2 H2=>te σ2 H2 λy H3=>Pv (i+1) (ys++[y]) σ2 H3) (hd:∀ys σ H p,Pv z.cps.size ys σ H->H p=none->Q (.ref p) (upd H p (.lst ys))) :
 uZ k js g te σ0 Q (Its z) H:=by
 refine⟨λi m ys σ H=>m=z.cps.size-i/\i<=z.cps.size/\Pv i ys σ H,⟨z.cps.size,by simp,Kj _,h0⟩,?_⟩;rintro i m ys σ H ⟨rfl,hi,p⟩;have hy:=hl i ys σ H hi p;by_cases hlt:i<z.cps.size
 ·refine .inr ⟨hlt,by omega,λy σ'' H''=>Pv (i+1) (ys++[y]) σ'' H'',λy σ' H' p'=>⟨z.cps.size-(i+1),by omega,rfl,hlt,p'⟩,λx H' y=>?_⟩;obtain⟨e,c,hc,y⟩:=y;subst e y;exact hs i c ys σ _ hc p
 ·have e:i=z.cps.size:=by omega
  subst e;exact .inl ⟨J3 _,λr hr=>hd ys σ H r p hr⟩
theorem my(h:X.K=K):OpR X (compareOp .In) (rIn K false):=by subst h;exact B4
theorem wz(h:X.K=K):OpR X (compareOp .NotIn) (rIn K true):=by subst h;exact B0
theorem pF:cL X (.type "int") (λxs H Q=>∃(z:Str) (n:Int),xs=[.str z]/\z.length<=640/\PySem.intText? z=some n/\Q (.int n) H):=by intro pins s σ H xs us Q I r h;obtain⟨z,n,rfl,hl,hn,q⟩:=h;obtain⟨u,rfl,rx⟩:=fZ r;obtain⟨t,rfl⟩:=rx;exact PySem.W.KIN.call_text hn hl ⟨.int n,H,I.tok _,⟨_,rfl⟩,q⟩
theorem IT(bs:List Bool):(List.range bs.length).all (λi=>bs.getD i false)=bs.all id:=by
 rw[Kv,Kp,Kp];constructor
 ·intro h b hb;obtain⟨i,hi,rfl⟩:=List.getElem_of_mem hb;have:=h i (List.mem_range.mpr hi);simpa[List.getD,List.getElem?_eq_getElem hi]using this
 ·intro h i hi;have hi':=List.mem_range.mp hi;have:=h bs[i] (List.getElem_mem hi');simpa[List.getD,List.getElem?_eq_getElem hi']using this
end
theorem HV{X:Cx}{K:PySem.W.Frag}(hK:X.K=K)(hc:X.calm=true):cL X (.builtin "all") (λxs H Q=>∃(p:Addr) (bs:List Bool),xs=[.ref p]/\SqL K H p (bs.map V.bl)/\Q (.bl (bs.all id)) H):=by
 subst hK;intro pins s σ H xs us Q I r h;obtain⟨p,bs,rfl,hq,q⟩:=h;obtain⟨u,rfl,rx⟩:=fZ r;cases rx;obtain⟨its,r',pl,hz⟩:=I.list hq;have e:=yz r';subst e;have hl:=pl.isList;have hlt:p<s.heap.objs.size:=by obtain⟨_,e,_⟩:=hl;exact Heap.lt_size e
 refine call_all_walk (wpAny_pyIter_list hl ?_);refine⟨_,_,_,_,_,_,λi=>bs.getD i false,rfl,Walks.list (A:=X.A.in1) (I.ok.hd hc) _ p (Ki hlt) _,⟨⟨_,Heap.get?_push_size _ rfl,rfl,rfl⟩,hl.push _⟩,λi v s' Q' E' hP hQ=>?_,λh' tk hk=>?_⟩
 ·have e:v=.bool (bs.getD i false):=by have hP':((bs.map Value.bool).toArray)[i]?=some v:=hP;simp only[List.getElem?_toArray,List.getElem?_map,Option.map_eq_some_iff]at hP';obtain⟨b,hb,rfl⟩:=hP';simp[List.getD,hb]
  subst e;exact wpAny_truthy_bool hQ
 ·refine⟨.bl (bs.all id),H,I.kept (old_kept hk),?_,q⟩;show Value.bool _=Value.bool _;rw[<- IT bs];simp
def KD(h h':Heap):Prop:=∀b o,h.get? b=some o->∃o',h'.get? b=some o'/\o'.dict=o.dict
theorem KD.refl(h:Heap):KD h h:=λ_ o e=>⟨o,e,rfl⟩
theorem KD.trans{a b c:Heap}(x:KD a b)(y:KD b c):KD a c:=λp o e=>by obtain⟨o1,e1,d1⟩:=x p o e;obtain⟨o2,e2,d2⟩:=y p o1 e1;exact⟨o2,e2,d2.trans d1⟩
theorem KD.push(h:Heap)(o:Obj):KD h (h.push o):=λb u e=>⟨u,Heap.get?_push_of_some _ e,rfl⟩
def uu(f:Obj->Obj):Prop:=∀o:Obj,o.isFreed=false->(f o).isFreed=false/\(f o).dict=o.dict
theorem KD.upd(h:Heap)(a:Addr){f:Obj->Obj}(hf:uu f):KD h (h.update a f):=λb u e=>by
 by_cases z:a=b
 ·subst z;obtain⟨h1,h2⟩:=hf u (Heap.get?_some_iff.mp e).2;exact⟨f u,Heap.get?_update_self f e h1,h2⟩
 ·exact⟨u,(Heap.get?_update_other h f z).trans e,rfl⟩
inductive Mild{α:Type}:Sem α->Prop
 |pure (a:α):Mild (.pure a)
 |unsupported (x:String):Mild (.unsupported x)
 |rule {t:String} {k:Unit->Sem α}:(∀u,Mild (k u))->Mild (.rule t k)
 |at{p:Pos} {k:Unit->Sem α}:(∀u,Mild (k u))->Mild (.at p k)
 |load {a:Addr} {p:Option Value} {k:Obj->Sem α}:(∀o,Mild (k o))->Mild (.load a p k)
 |update {a:Addr} {p:Option Value} {f:Obj->Obj} {k:Unit->Sem α}:uu f->(∀u,Mild (k u))->Mild (.update a p f k)
 |alloc {o:Obj} {k:Addr->Sem α}:(∀a,Mild (k a))->Mild (.alloc o k)
 |stack {k:List (Code×Pos)->Sem α}:(∀l,Mild (k l))->Mild (.stack k)
theorem bG{α β:Type}{t:Sem α}{f:α->Sem β}(ht:Mild t)(hf:∀a,Mild (f a)):Mild (t >>= f):=by
 show Mild (t.bind f)
 induction ht with
 |pure a=>exact hf a
 |unsupported x=>exact .unsupported x
 |rule _ ih=>exact .rule ih
 | «at» _ ih=>exact .at ih
 |load _ ih=>exact .load ih
 |update s _ ih=>exact .update s ih
 |alloc _ ih=>exact .alloc ih
 |stack _ ih=>exact .stack ih
theorem fV{α:Type}(a:α):Mild (pure a:Sem α):=.pure a
theorem zf{α:Type}(M:Model)(Γ:PySem.Ctx){h0:Heap}{t:Sem α}(m:Mild t){Q:α->Pos->Shared->Prop}{E E':Value->Pos->Shared->Prop}:∀{p:Pos} {s:Shared},KD h0 s.heap->Sem.wp M Γ t Q E p s->Sem.wp M Γ t (λa p' s'=>Q a p' s'/\KD h0 s'.heap) E' p s:=by
 induction m with
 |pure a=>intro p s hk h;rw[Sem.wp]at h ⊢;exact⟨h,hk⟩
 |unsupported x=>intro p s hk h;rw[Sem.wp]at h;exact h.elim
 |rule _ ih=>intro p s hk h;rw[Sem.wp]at h ⊢;exact ih () hk h
 | «at» _ ih=>intro p s hk h;rw[Sem.wp]at h ⊢;exact ih () hk h
 |load _ ih =>intro p s hk h;rw[Sem.wp]at h ⊢;obtain⟨o,e,h⟩:=h;exact⟨o,e,ih o hk h⟩
 |update sf _ ih =>intro p s hk h;rw[Sem.wp]at h ⊢;exact⟨h.1,ih () (hk.trans (KD.upd s.heap _ sf)) h.2⟩
 |alloc _ ih =>intro p s hk h;rw[Sem.wp]at h ⊢;exact ih _ (hk.trans (KD.push s.heap _)) h
 |stack _ ih=>intro p s hk h;rw[Sem.wp]at h ⊢;exact ih _ hk h
theorem vb{α:Type}{M:Model}{A:Around}{t:Sem α}{Q:α->Shared->Prop}{E E':Value->Shared->Prop}{s:Shared}(m:Mild t)(h:wpAny M A t Q E s):wpAny M A t (λa s'=>Q a s'/\KD s.heap s'.heap) E' s:=λΓ p hΓ =>zf M Γ m (KD.refl _) (h Γ p hΓ)
theorem Ab(f:Array Value->Array Value):uu (Obj.mapFields f):=λo h=>by
 unfold Obj.mapFields;split
 ·exact⟨rfl,rfl⟩
 ·exact⟨h,rfl⟩
theorem rD(a:Addr):Mild (load a):=.load λ_=>.pure _
theorem D3(v:Value):Mild (fieldsOf v):=by
 unfold fieldsOf;split
 ·refine bG (rD _) λo=>?_
  split<;>constructor
 ·constructor
theorem oP(v:Value)(i:Nat):Mild (field v i):=by
 unfold field;refine bG (D3 v) λvs=>?_
 split<;>constructor
theorem rC(v:Value)(i:Nat)(x:Value):Mild (setField v i x):=by
 unfold setField;split
 ·unfold updateField;refine bG (rD _) λo=>?_
  split
  ·split
   ·exact .update (Ab _) λ_=>fV _
   ·constructor
  ·constructor
 ·constructor
theorem DY(e:Value)(fr:Option Addr):Mild (setFlight e fr):=by
 unfold setFlight;refine bG (oP e 1) λtb=>?_
 split
 ·exact rC _ _ _
 ·constructor
theorem rB:Mild (stack:Sem (List (Code×Pos))):=.stack λ_=>.pure _
theorem wV:∀l:List Env,Mild (readyFrames l)
 | []=>fV _
 |env::outer=>by
  unfold readyFrames;split
  ·refine bG (rD _) λo=>?_
   split
   ·constructor
   ·refine bG ?_ λim=>bG ?_ λbk=>bG ?_ λ_=>wV outer
    ·unfold behindIsImport;split
     ·constructor
     ·split
      ·constructor
      ·exact bG (oP _ _) λ_=>fV _
    ·unfold keptBack;split
     ·split
      ·constructor
      ·refine bG ?_ λb=>fV _
       unfold underTheClaimsCaller;exact bG rB λ_=>fV _
     ·constructor
    ·exact .update (λo h=>⟨by obtain⟨a,b,c,d⟩:=o;cases c<;>first |rfl |exact h,rfl⟩) λ_=>fV _
  ·constructor
theorem D2(env:Env):Mild (PySem.frameOf env):=by
 unfold PySem.frameOf frameEnvs;refine bG ?_ λl=>bG ?_ λo=>?_
 ·exact bG rB λ_=>fV _
 ·generalize l.dropWhile _=l';unfold frameObject;split
  ·constructor
  ·exact bG (wV _) λ_=>fV _
 ·split<;>constructor
theorem D4(f:Addr)(b:Bool):Mild (entryPlaceOf f b):=by
 unfold entryPlaceOf;refine bG rB λl=>?_
 split<;>constructor
theorem D0(ty:String)(vs:List Value):Mild (newFields ty vs):=by
 have as':∀dt:Data,Mild (newObjAsIs (.type ty) dt none):=λdt=>by
  unfold newObjAsIs;refine bG (.alloc λ_=>.pure _) λa=>?_
  exact fV _
 unfold newFields newObj;dsimp only
 split
 ·exact bG (.unsupported _) λ_=>as' _
 ·exact as' _
theorem D1(a b c d e:Value)(pl:List Value):Mild (EntryCells.newEntry a b c d e pl):=D0 _ _
theorem wU(e hd:Value)(env:Env)(f:Addr):Mild (do setField e 1 (<- EntryCells.newEntry hd (<- PySem.frameOf env) .none (rawInt f) .none (<- entryPlaceOf f (hd != .none))):Sem Unit) :=
 bG (D2 env) λfr=>bG (D4 _ _) λpl=>bG (D1 _ _ _ _ _ _) λne=>rC _ _ _
theorem DZ(e:Value)(env:Env):Mild (noteFrame e env):=by
 unfold noteFrame;split
 ·refine bG (oP _ _) λhd=>?_
  dsimp only
  split
  ·refine bG (oP _ _) λx=>?_
   split
   ·exact fV _
   ·exact bG (rC _ _ _) λ_=>wU _ _ _ _
  ·exact wU _ _ _ _
 ·constructor
theorem wW(env:Env)(e:Value):Mild (leaving env e):=bG (DZ e env) λ_=>DY e none
open PySem PySem.Spec PyProof.Rows PySem.W PySem.Calls PySem.Builtin PySem.Builtin.ObjectAttr
noncomputable def lV:List Value:=[.type "ValueError",.type "Exception",.type "BaseException",.type "object"]
noncomputable def ja:List Value->Bool
 |.ref _::r=>r == lV ||ja r
 |_=>false
theorem vg(self:Value):∀{l:List Value},ja l=true->refuseLoop self "__setattr__" l=pure ()
 |.ref c::r,e=>by
  rw[refuseLoop_ref];rcases Bool.or_eq_true_iff.mp (show(r == lV ||ja r)=true from e)with q |q
  ·rw[beq_iff_eq.mp q];exact PySem.F.store_ValueError.passes self
  ·exact vg self q
theorem vh:∀{l:List Value},ja l=true->l.contains (.type "object")=true
 |.ref c::r,e=>by
  rcases Bool.or_eq_true_iff.mp (show(r == lV ||ja r)=true from e)with q |q
  ·rw[beq_iff_eq.mp q];rfl
  ·rw[List.contains_cons,vh q,Bool.or_true]
structure XCls(K:Frag)(C:Addr):Prop where
 ve:∃cd,clsIn K C=some cd/\ja cd.mro=true/\cd.hasDict=true
 sa:findIn K (.ref C) "__setattr__"=some (some (.builtin "object.__setattr__"))
noncomputable def pM(K:Frag)(C:Addr):Bool:=(match clsIn K C with |some cd=>ja cd.mro&&cd.hasDict |none=>false)&&findIn K (.ref C) "__setattr__" == some (some (.builtin "object.__setattr__"))
theorem XCls.of{K:Frag}{C:Addr}(h:pM K C=true):XCls K C:=by
 unfold pM at h
 obtain⟨h1,h2⟩:=Bool.and_eq_true_iff.mp h;refine⟨?_,beq_iff_eq.mp h2⟩;cases e:clsIn K C with
 |none=>rw[e]at h1;cases h1
 |some cd=>rw[e]at h1;obtain⟨a,b⟩:=Bool.and_eq_true_iff.mp h1;exact⟨cd,rfl,a,b⟩
section
variable {prog:Program}{w:World}{A:Around}{E:Value->Shared->Prop}{s:Shared}{K:Frag}{x C:Addr}
theorem za{ox:Obj}{vs:Array Value}{name:Str}{v:Value}{Q:Unit->Shared->Prop}(X:K.In s.heap)(T:XCls K C)(hx:s.heap.get? x=some ox)(hc:ox.cls=.ref C)(hd:ox.dict=none)(hf:ox.data=.fields vs)(hn:findIn K (.ref C) name=some none)
 (h:∀h' tk,h'.get? x=some { ox with dict:=some s.heap.objs.size }->h'.Ns1 s.heap.objs.size (λy=>if y=name then some v else none)->(∀b o,b≠x->s.heap.get? b=some o->h'.get? b=some o)->Q () { s with heap:=h',toks:=tk }) :
 wpAny (model prog w) A (setAttr (.ref x) name v) Q E s:=by
 obtain⟨hh,g,d,t,os⟩:=s;obtain⟨cd,hcd,hve,hdict⟩:=T.ve;have I:PySem.W.InstAt hh x ox C none:=⟨hx,hc,by unfold notCls;rw[hf],by rw[hd];trivial⟩;refine set_plain X I T.sa ?_;show codeAny _ _ (.call (.builtin "object.__setattr__") ⟨[.ref x,.str name t,v],[]⟩) _ ⟨hh,g,d,t+1,os⟩;have SF:=PySem.F.store_object
 have ne:cd.mro.isEmpty=false:=by
  cases q:cd.mro with
  |nil=>rw[q]at hve;cases hve
  |cons _ _=>rfl
 have sub:Looks (model prog w) hh (isInstance (.ref x) (.type "object")) true:=I.type.andThen (looks_mroIn X (by unfold mroIn;rw[hcd,Option.bind_some,if_neg (by rw[ne];decide),vh hve]));refine codeAny_call_builtin SF.slot.plain SF.entry (@check_slot (model prog w) _ _ _ "object.__setattr__" "object" "__setattr__" (.ref x) [.str name t,v] [] _ SF.kind SF.split sub (SF.args (.ref x) (.str name t) v) ?_);have hm:Looks (model prog w) hh (mroOf (.ref C)) cd.mro:=(looks_clsIn X hcd).andThen .now;rw[osa_eq,refuse_eq];refine wpAny_bind (wpAny_bind (I.type.here (wpAny_bind (hm.here ?_))));rw[vg _ hve];refine wpAny_pure (wpAny_bind (I.type.here (wpAny_bind (Looks.here (s:=⟨hh,g,d,t+1,os⟩) (looks_findIn X hn) (wpAny_bind (wpAny_pure ?_))))));show wpAny _ _ (storeInOwnDict (.ref x) (.ref C) (.str name t) name v false) _ _ _;unfold storeInOwnDict;refine wpAny_bind (wpAny_pure ?_);show wpAny _ _ (ownDictForStores (.ref x) >>= _) _ _ _;have hxs:x≠hh.objs.size:=Ki (Heap.lt_size hx);have hx1:(hh.push { cls:=.type "dict",data:=.dict #[] }).get? x=some ox:=Heap.get?_push_of_some _ hx;show wpAny _ _ (instanceDict x true >>= _) _ _ _;unfold instanceDict;refine wpAny_bind (wpAny_bind (wpAny_loadPart hx ?_));rw[hc,hd,hf];refine wpAny_bind (Looks.here (s:=⟨hh,g,d,t+1,os⟩) (looks_clsIn X hcd) ?_);rw[hdict];have td:typeHasDict (.ref C)=true:=by rfl
 rw[if_neg (by decide),td];dsimp only
 rw[if_neg (by decide)];refine wpAny_bind (wpAny_alloc' (wpAny_bind (wpAny_update' hx1 (wpAny_pure ?_))));have hgd:((hh.push { cls:=.type "dict",data:=.dict #[] }).update x λo=>{ o with dict:=some hh.objs.size }).get? hh.objs.size=some { cls:=.type "dict",data:=.dict #[] }:=(Heap.get?_update_other _ _ hxs).trans (Heap.get?_push_size _ rfl);have hnd:((hh.push { cls:=.type "dict",data:=.dict #[] }).update x λo=>{ o with dict:=some hh.objs.size }).Ns hh.objs.size (λ_=>none):=⟨_,#[],_,hgd,rfl,λe he=>absurd he (by simp),λ_=>rfl⟩;show wpAny _ _ (storeInDict hh.objs.size (.str name t) name v) _ _ _;unfold storeInDict newKeyGuard;refine wpAny_bind (wpAny_pure (wpAny_bind (wpAny_nsSet1 (Heap.Ns1.of_empty hnd) λh' hn' hs=>?_)));obtain⟨oD,esD,epD,hoD,hdD,hcD⟩:=hn'.count (Within.cons name v Within.nil);have hlen:esD.size<=sizeLine:=J7 hcD (by rw[J4,Ks,sizeLine_eq];omega);refine wpAny_bind (wpAny_lookBehind hoD (by rw[hdD];exact pastItsLine_dict (Nat.le_succ_of_le hlen)) (wpAny_pure ?_));refine h h' _ ?_ hn' λb o hb e=>?_
 ·refine(hs.2 x hxs).trans (Heap.get?_update_self _ hx1 ?_);have fr:=(Heap.get?_some_iff.mp hx).2;obtain⟨oc,od,odt,osl⟩:=ox;cases odt<;>first |rfl |exact fr
 ·exact(hs.2 b (Ki (Heap.lt_size e))).trans ((Heap.get?_update_other _ _ (Ne.symm hb)).trans (Heap.get?_push_of_some _ e))
end
section
variable {prog:Program}{w:World}{A:Around}{E:Value->Shared->Prop}{h:Heap}{g:Array GenState}{d:Drawn}{t:Nat}{os:OsState}
variable {nm q:Str}{C N fI:Addr}{bs bm bmB:List Value}{hdct:Bool}{sn:List Str}{sub:List Value}{ab:Bool}{col:Option Bool}{dd:Option Addr}{k0 k1 k2 k3 k5:Option Value}{B newId initId:String}{mN:Str->Option Value}{oI:Obj}{rest:List Value}
noncomputable def bZ(C t:Addr):Obj:={ cls:=.ref C,data:=.fields #[.ref t,.none,.none,.none,.bool false,.none] }
theorem y9(F:ExcBaseFacts B newId initId bmB)(T:OwnTail h bmB bm){Q:Fin->Shared->Prop}(hC:h.get? C=some (excClassObj nm q C N bs bm hdct sn sub ab col dd k0 k1 k2 k3 k5 newId))(hn:h.Ns N mN)(hi:mN "__init__"=some (.ref fI))(hfI:h.get? fI=some oI)(hfc:oI.cls=.type "function")(hrest:rest.length<=sizeLine)
 (hq:wpAny (model prog w) A (call (.ref fI) (.ref (h.objs.size+1)::rest)) (λr s'=>r=.none/\Q (.done (.ret (.ref (h.objs.size+1)))) s') E ⟨(h.push { cls:=.type "tuple",data:=.seq rest.toArray }).push (bZ C h.objs.size),g,d,t,os⟩) :
 wpAny (model prog w) A (Builtin.«type.__call__» ⟨.ref C::rest,[]⟩) Q E ⟨h,g,d,t,os⟩:=by
 have kk:∀b o,h.get? b=some o->((h.push { cls:=.type "tuple",data:=.seq rest.toArray }).push (bZ C h.objs.size)).get? b=some o:=λb o e=>Heap.get?_push_of_some _ (Heap.get?_push_of_some _ e)
 have g0:((h.push { cls:=.type "tuple",data:=.seq rest.toArray }).push (bZ C h.objs.size)).get? (h.objs.size+1)=some (bZ C h.objs.size):=by
  have:=Heap.get?_push_size (h.push { cls:=.type "tuple",data:=.seq rest.toArray }) (o:=bZ C h.objs.size) rfl
  rwa [Heap.size_push]at this
 have cC:(Value.ref C::bm).contains (.ref C)=true:=by simp
 repeat (first |with_reducible refine wpAny_loadPart_at hC ?_ |with_reducible refine wpAny_madeBy_exc hC ?_ |wp_step)
 refine codeAny_call_builtin_code (Code.quiet_builtin _ F.quiet) (wpAny_check_new_subT F T hC (codeAny_exc_new_subT F T hC ?_ hrest));have hC':=kk _ _ hC;have hn':=hn.keeps kk;have T':=T.keeps kk;have hf':=kk _ _ hfI;show wpAny _ _ _ _ _ ⟨(h.push { cls:=.type "tuple",data:=.seq rest.toArray }).push (bZ C h.objs.size),g,d,t,os⟩;generalize (h.push { cls:=.type "tuple",data:=.seq rest.toArray }).push (bZ C h.objs.size)=h2 at *
 unfold bZ at g0
 unfold isInstance
 repeat (first |with_reducible refine wpAny_loadPart_at g0 ?_ | (with_reducible refine wpAny_isSubtype_exc hC' ?_;rw[cC]) |wp_step)
 show wpAny _ _ (typeLookup (.ref C) _) _ _ _;refine wpAny_typeLookup_tail hC' hn' T' F.mroIs F.init.lookup ?_;rw[hi];refine wpAny_holding (wpAny_bind ?_);unfold bindSpecial;refine wpAny_bind (wpAny_typeOf (T:="function") ⟨_,hf',hfc⟩ ?_);rw[if_pos (by decide)];refine wpAny_pure (wpAny_bind (wpAny_mono hq (λr s' hr=>?_) λ_ _ z=>z));obtain⟨rfl,z⟩:=hr
 wp_walk
 exact z
theorem ze(F:ExcBaseFacts B newId initId bmB)(T:OwnTail h bmB bm){Q:Value->Shared->Prop}(hC:h.get? C=some (excClassObj nm q C N bs bm hdct sn sub ab col dd k0 k1 k2 k3 k5 newId))(hn:h.Ns N mN)(hi:mN "__init__"=some (.ref fI))(hfI:h.get? fI=some oI)(hfc:oI.cls=.type "function")(hrest:rest.length<=sizeLine)
 (hq:wpAny (model prog w) (A.under (.builtin "type.__call__" ⟨.ref C::rest,[]⟩)) (call (.ref fI) (.ref (h.objs.size+1)::rest)) (λr s'=>r=.none/\Q (.ref (h.objs.size+1)) s') E ⟨(h.push { cls:=.type "tuple",data:=.seq rest.toArray }).push (bZ C h.objs.size),g,d,t,os⟩) :
 wpAny (model prog w) A (call (.ref C) rest) Q E ⟨h,g,d,t,os⟩:=by
 have a1:=tc_lookup;have a2:=tc_bind (.ref C);have hT:(⟨h,g,d,t,os⟩:Shared).TypeIs (.ref C) "type":=⟨_,hC,rfl⟩;refine wpAny_call (codeAny_of_tree ?_);show wpAny _ _ (callAny (.ref C) _) _ _ _
 repeat (any_goals (first |assumption |with_reducible refine wpAny_loadPart_at hC ?_ |wp_step))
 refine⟨rfl,codeAny_call_builtin_at (Code.quiet_builtin _ (by decide +kernel)) entry_typeCall (wpAny_check_type_call_sub hC (y9 F T hC hn hi hfI hfc hrest ?_))⟩;exact hq
end
section
variable {M:Model}{A:Around}{E:Value->Shared->Prop}{s:Shared}{env:Env}
variable {nm q:Str}{C N:Addr}{bs bm:List Value}{hdct:Bool}{sn:List Str}{sub:List Value}{ab:Bool}{col:Option Bool}{dd:Option Addr}{k0 k1 k2 k3 k5:Option Value}{newId:String}
theorem Bp{x:Sem Value}{Q:Flow->Shared->Prop}(hbase:bm.contains (.type "BaseException")=true)(hh:A.handled=none)
 (hx:wpAny M A x (λv s1=>∃e t d,v=.ref e/\s1.heap.get? C=some (excClassObj nm q C N bs bm hdct sn sub ab col dd k0 k1 k2 k3 k5 newId)/\s1.heap.get? e=some { bZ C t with dict:=d }/\E (.ref e) s1) E s) :
 wpAny M A (raiseStmt env (some x) none) Q E s:=by
 have cB:(Value.ref C::bm).contains (.type "BaseException")=true:=by rw[List.contains_cons,hbase,Bool.or_true]
 unfold raiseStmt;refine wpAny_bind (wpAny_mono hx (λv s1 h1=>?_) λ_ _ z=>z);obtain⟨e,t,d,rfl,hC,he,hE⟩:=h1;obtain⟨hp,g,d',tk,os⟩:=s1;unfold bZ at he
 repeat (first |with_reducible refine wpAny_loadPart_at he ?_ |with_reducible refine wpAny_loadPart_at hC ?_ | (with_reducible refine wpAny_isSubtype_exc hC ?_;rw[cB]) |wp_step)
 exact wpAny_raiseNew_none hh hE
end
noncomputable def CXV(P:Program)(w:World):CXT:=λouter H s E e s'=>∃d:Option Addr,CXW P w outer H s (λc _ H'=>E c d H') e s'/\∃ea ob,e=.ref ea/\s'.heap.get? ea=some ob/\ob.dict=d
noncomputable def EX(C a:Addr)(d:Option Addr):HO:=.ext λh=>∃t,h.get? a=some { bZ C t with dict:=d }
theorem yj{P:Program}{w:World}{H:Hp}{h:Heap}{C a t:Addr}{d:Option Addr}(e:h.get? a=some { bZ C t with dict:=d }):ObjOk P w H h a (EX C a d):=⟨⟨t,e⟩,⟨_,e⟩,λh1 h2 ⟨t',e'⟩ k=>⟨t',k _ e'⟩⟩
section
variable {P:Program}{w:World}{K:PySem.W.Frag}{mg:Str->Option Value}{base:Heap}{N:List Str}{qual:Str}{scope:Scope}{f:Addr}{cd:Value}{A:Around}{outer:List Env}{s:Shared}{H:Hp}{E:XK}{pins:List (Addr×Obj)}{σ:St}{H1:Hp}{s1:Shared}
theorem zb{e C:Addr}{oe:Obj}{vs:Array Value}{a0:Value}(I:Inv (bu (CXV P w) P w K mg base N qual scope f cd A outer s H E) pins σ H1 s1)(he:s1.heap.get? e=some oe)(hc:oe.cls=.ref C)(hd:oe.data=.fields vs)(h0:vs[0]?=some a0)(h1:vs[1]?=some .none)(hn:H1 e=none)(hs:s.heap.get? e=none)(hE:E (.ref C) oe.dict H1) :
 (bu (CXV P w) P w K mg base N qual scope f cd A outer s H E).xe (.ref e) s1:=by
 have hst:=I.stack;have hfree:=I.stkFree;have hfrm:(envOfC qual scope s.heap.objs.size f cd).frame=some s.heap.objs.size:=rfl;have efr:frs (envOfC qual scope s.heap.objs.size f cd::outer)=s.heap.objs.size::frs outer:=x6 hfrm;have hin:∀env∈(envOfC qual scope s.heap.objs.size f cd::outer),∀b,env.frame=some b->b∈e::frs (envOfC qual scope s.heap.objs.size f cd::outer):=λenv hv b hb=>KF _ (List.mem_filterMap.mpr ⟨env,hv,hb⟩)
 have b1:∀b o,s.heap.get? b=some o->b∉frs outer->∃o',s1.heap.get? b=some o'/\(PySem.W.hideAll s1.heap (e::frs (envOfC qual scope s.heap.objs.size f cd::outer))).get? b=some o':=λb o q hb=>by
  obtain⟨o',q'⟩:=I.base.there b o q (λz=>nomatch z);refine⟨o',q',PySem.W.hideAll_get _ q' λz=>?_⟩;rw[efr]at z;rcases J8.mp z with z |z
  ·rw[z,hs]at q;cases q
  ·rcases J8.mp z with z |z
   ·exact absurd (Heap.lt_size q) (by rw[z];exact Km _)
   ·exact hb z
 have b2:∀b x,H1 b=some x->∃o',s1.heap.get? b=some o'/\(PySem.W.hideAll s1.heap (e::frs (envOfC qual scope s.heap.objs.size f cd::outer))).get? b=some o':=λb x q=>by
  obtain⟨o',q'⟩:∃o',s1.heap.get? b=some o':=DE (I.hok b x q);refine⟨o',q',PySem.W.hideAll_get _ q' λz=>?_⟩;rcases J8.mp z with z |z
  ·rw[z,hn]at q;cases q
  ·rw[hfree b z]at q;cases q
 have hB:(PySem.W.hideAll s1.heap (e::frs (envOfC qual scope s.heap.objs.size f cd::outer))).get? e=none:=PySem.W.hideAll_none _ (KW ..)
 have fd:∀b∈frs outer,∀o,s1.heap.get? b=some o->∀ws,o.data≠.fields ws:=λb hb o q=>by obtain⟨_,o',q',hdd⟩:=I.funs.mem hb;have q'':s1.heap.get? b=some o':=q';rw[q]at q'';cases q'';exact hdd
 refine wpAny_mono (vb (E':=λ_ _=>False) (wW _ _) (wpAny_leaving_firstW (L:=s.heap.objs.size) (a0:=a0) I.ok.frames (PySem.W.funFrames_hide hst hin) hfrm he (λb o q=>PySem.W.of_hideAll _ q) hB hd h1 h0 (Q:=λ_ s''=>∃h'',s''={ s1 with heap:=h'' }/\Heap.FlyingW (PySem.W.hideAll s1.heap (e::frs (envOfC qual scope s.heap.objs.size f cd::outer))) outer e oe.cls a0 h''/\s1.heap.UpToSlots h'') (E:=λ_ _=>False) λh' hL=>?_)) (λ_ s'' hq=>?_) (λ_ _ z=>z.elim)
 ·obtain⟨k1,⟨_,_,k2⟩,k3,k4⟩:=hL;exact⟨h',rfl,⟨k1,hB,k2,k3⟩,k4⟩
 ·obtain⟨⟨h'',rfl,fl,up⟩,kd⟩:=hq;obtain⟨o',eo',od'⟩:=kd e oe he;rw[hc]at fl;refine⟨oe.dict,⟨e,.ref C,a0,_,H1,rfl,I.os,I.bare,?_,I.hok.back b2 fl.1,fl,λb o q hb=>?_,λb x q=>?_,hn,hs,hE⟩,e,o',rfl,eo',od'⟩
  ·exact I.base.back (λb o q hb=>let⟨o',q1,q2⟩:=b1 b o q hb;⟨o',q1,fl.1 _ _ q2⟩) I.ok.frf fd up
  ·obtain⟨o',q1,q2⟩:=b1 b o q hb;exact⟨o',fl.1 _ _ q2,q2⟩
  ·obtain⟨o',q1,q2⟩:=b2 b x q;exact⟨o',fl.1 _ _ q2,q2⟩
theorem zc{E':XK}{e:Value}{s2:Shared}(I:Inv (bu (CXV P w) P w K mg base N qual scope f cd A outer s H E) pins σ H1 s1)(h:CXV P w (bu (CXV P w) P w K mg base N qual scope f cd A outer s H E).stack H1 s1 E' e s2)(hE:∀c d H',E' c d H'->E c d H') :
 (bu (CXV P w) P w K mg base N qual scope f cd A outer s H E).xe e s2:=by
 obtain⟨d,hW,ea,ob,rfl,eo,ed⟩:=h;have I':Inv (bu (CXW P w) P w K mg base N qual scope f cd A outer s H (λc _ H'=>E c d H')) pins σ H1 s1:=(I.wish (bu (CXW P w) P w K mg base N qual scope f cd A outer s H (λc _ H'=>E c d H')).xe);have x:=zd (E':=λc _ H'=>E' c d H') I' hW (λc _ H' z=>hE c d H' z);have x':wpAny (model P w) (A.deeper (envOfC qual scope s.heap.objs.size f cd)) (leaving (envOfC qual scope s.heap.objs.size f cd) (.ref ea)) (λ_ s''=>CXW P w outer H s (λc _ H'=>E c d H') (.ref ea) s'') (λe' s''=>CXW P w outer H s (λc _ H'=>E c d H') e' s'') s2:=x;refine wpAny_mono (vb (E':=λ_ _=>False) (wW _ _) x') (λ_ s'' hq=>?_) (λ_ _ z=>z.elim);obtain⟨h1,kd⟩:=hq;obtain⟨o',eo',od'⟩:=kd ea ob eo;exact⟨d,h1,ea,o',rfl,eo',od'.trans ed⟩
theorem bf{E':XK}(hE:∀c d H',E' c d H'->E c d H'):gZ (CXV P w) (bu (CXV P w) P w K mg base N qual scope f cd A outer s H E) E':=λ_ _ _ _ _ _ I h=>zc I h hE
theorem BX{X:Cx}:gZ (CXV X.prog X.w) X E0:=λ_ _ _ _ _ _ _ h=>by obtain⟨_,h,_⟩:=h;obtain⟨_,_,_,_,_,_,_,_,_,_,_,_,_,_,_,z⟩:=h;exact z.elim
end
section
variable {X:Cx}{pins:List (Addr×Obj)}{σ:St}{H:Hp}{s:Shared}{a C:Addr}{f:Str}
theorem Fy{h':Heap}{tk:Nat}{t:Addr}{y:V}{u:Value}(I:Inv X pins σ H s)(e:H a=some (EX C a none))(ry:RelV y u)(ha:h'.get? a=some { bZ C t with dict:=some s.heap.objs.size })(hn:h'.Ns1 s.heap.objs.size (λg=>if g=f then some u else none))(k:∀b o,b≠a->s.heap.get? b=some o->h'.get? b=some o) :
 Inv X pins σ (upd (upd H s.heap.objs.size (.xd [(f,y)])) a (EX C a (some s.heap.objs.size))) { s with heap:=h',toks:=tk }:=by
 have fr:H s.heap.objs.size=none:=I.hok.fresh (J3 _);have nd:a≠s.heap.objs.size:=aU e fr;have other:∀b,b≠a->b≠s.heap.objs.size->upd (upd H s.heap.objs.size (.xd [(f,y)])) a (EX C a (some s.heap.objs.size)) b=H b:=λb h1 h2=>by rw[upd_ne h1,upd_ne h2]
 have na:∀b o,H b=some o->(∀φ,o≠.ext φ)->b≠a:=λb o q h1 z=>by rw[z,e]at q;exact h1 _ (Option.some.inj q).symm
 have ns:∀b o,s.heap.get? b=some o->b≠s.heap.objs.size:=λb o q=>Ki (Heap.lt_size q)
 have nf:∀b o,H b=some o->b≠s.heap.objs.size:=λb o q=>aU q fr
 refine I.un ⟨λb o q n _ _=>k b o (λz=>by rw[z,e]at n;cases n) q,λb o q n _ _=>⟨o.slots,k b o (λz=>by rw[z,e]at n;cases n) q⟩,λb o q n _=>?_,λb o q _=>?_,λb xs q=>?_,λb o u q=>?_,λb ps q=>⟨#[],?_⟩⟩ λb o q=>?_
 ·rw[other b (λz=>by rw[z,e]at n;cases n) (ns b o q)];exact n
 ·by_cases z:b=a
  ·exact⟨_,by rw[z];exact ha⟩
  ·exact⟨o,k b o z q⟩
 ·rw[other b (na b _ q λφ z=>by cases z) (nf b _ q)];exact q
 ·rw[other b (na b _ q λφ z=>by cases z) (nf b _ q)];exact q
 ·rw[other b (na b _ q λφ z=>by cases z) (nf b _ q),Array.append_empty];exact q
 ·by_cases z:b=a
  ·subst z;rw[ap]at q;cases q;exact yj ha
  ·rw[upd_ne z]at q;by_cases z2:b=s.heap.objs.size
   ·subst z2;rw[ap]at q;cases q;refine⟨_,hn,λg=>?_⟩;by_cases zg:g=f
    ·subst zg;rw[if_pos rfl];show RelO (List.lookup g [(g,y)]) (some u);simp only[List.lookup,beq_self_eq_true];exact ry
    ·rw[if_neg zg];have:(g == f)=false:=beq_false_of_ne zg;show RelO (List.lookup g [(f,y)]) none;simp only[List.lookup,this];trivial
   ·rw[upd_ne z2]at q;refine(I.hok b o q).stay (λc v hc r=>k c v ?_ r) (λc r=>?_) λc xs r=>?_
    ·rcases hc with rfl |hc
     ·exact z
     ·exact na c _ hc λφ z=>by cases z
    ·rw[other c (na c _ r λφ z=>by cases z) (nf c _ r)];exact r
    ·rw[other c (na c _ r λφ z=>by cases z) (nf c _ r)];exact r
end
def sXf(K:PySem.W.Frag)(ta tv:TE)(f:Str):TS:=λD σ H=>tv σ H λy H1=>ta σ H1 λx H2=>∃a C,x=.ref a/\H2 a=some (EX C a none)/\XCls K C/\NoAttr K C f/\∀dx,H2 dx=none->dx≠a->D.nx σ (upd (upd H2 dx (.xd [(f,y)])) a (EX C a (some dx)))
section
variable {X:Cx}{o value:Expr}{f:Str}{pos pos':Pos}{ta tv:TE}
theorem BA(ha:PE X o ta)(hv:PE X value tv)(hs:swapsWith value (some (.Attribute o f pos')) pos.line X.env=pure false):PS X (.Assign [.Attribute o f pos'] value pos) (sXf X.K ta tv f):=by intro pins s σ H D I h;refine plainObj_wpAny_Assign_Attribute (thn (hv pins s σ H _ I h) λu s1 ⟨y,H1,I1,ry,q⟩=>thn (ha pins s1 σ H1 _ I1 q) λov s2 ⟨x,H2,I2,rx,a,C,ex,ea,c,n,q2⟩=>?_) hs;subst ex;obtain rfl:ov=Value.ref a:=rx;obtain⟨⟨t,et⟩,_,_⟩:=(show ObjOk X.prog X.w H2 s2.heap a (EX C a none)from I2.hok a _ ea);have fr:H2 s2.heap.objs.size=none:=I2.hok.fresh (J3 _);refine za I2.kIn c et rfl rfl rfl n λh' tk e1 e2 e3=>⟨σ,_,Fy (t:=t) I2 ea ry e1 e2 e3,q2 _ fr (Ne.symm (aU ea fr))⟩
end
def ot(C:Addr)(f:Str):Sp:=λvs H Q _=>∃(e:Addr) (v:V),vs=[.ref e,v]/\H e=some (EX C e none)/\∀dx,H dx=none->dx≠e->Q .non (upd (upd H dx (.xd [(f,v)])) e (EX C e (some dx)))
structure OwnX(x:Str)(C fI:Addr)(bmB:List Value)(newId:String)(mg:Str->Option Value)(h:Heap):Prop where
 bound:mg x=some (.ref C)
 obj:∃bm N nm q bs hdct sn sub ab col dd k0 k1 k2 k3 k5 mN,h.get? C=some (excClassObj nm q C N bs bm hdct sn sub ab col dd k0 k1 k2 k3 k5 newId)/\h.Ns N mN/\mN "__init__"=some (.ref fI)/\OwnTail h bmB bm
 fn:∃oI,h.get? fI=some oI/\oI.cls=.type "function"
def zM(E:XK)(c:Value)(f:Str)(t:TA):TS:=λ_ σ H=>t σ H λvs H1=>∃v,vs=[v]/\∀dx,H1 dx=none->E c (some dx) (upd H1 dx (.xd [(f,v)]))
section
variable {X:Cx}{pins:List (Addr×Obj)}{σ:St}{H:Hp}{s:Shared}{a:Addr}{φ:Heap->Prop}
theorem Inv.untrack{H':Hp}{s':Shared}(I:Inv X pins σ H s)(e:H a=some (.ext φ))(J:Inv X pins σ H' s')(hn:H' a=none):Inv X pins σ (λb=>if b=a then none else H b) s:=by
 have other:∀b,b≠a->(if b=a then none else H b)=H b:=λb h1=>if_neg h1
 have na:∀b o,H b=some o->(∀φ,o≠.ext φ)->b≠a:=λb o q h1 z=>by rw[z,e]at q;exact h1 _ (Option.some.inj q).symm
 refine⟨I.ok,I.os,I.bare,⟨I.base.keep,I.base.slot,λb o q n hx=>?_,I.base.there,λb xs q=>?_,λb o u q=>?_,λb ps q=>?_⟩,I.loc,I.cell,?_,λx c q=>?_,λp hp=>?_,λb o q=>?_,I.len⟩
 ·show(if b=a then none else H b)=none;split
  ·rfl
  ·exact I.base.free b o q n hx
 ·have z:b≠a:=λz=>by have:=J.base.tups b xs q;rw[z,hn]at this;cases this
  rw[other b z];exact I.base.tups b xs q
 ·have z:b≠a:=λz=>by have:=J.base.frzs b o u q;rw[z,hn]at this;cases this
  rw[other b z];exact I.base.frzs b o u q
 ·have z:b≠a:=λz=>by obtain⟨m,this⟩:=J.base.tbls b ps q;rw[z,hn]at this;cases this
  rw[other b z];exact I.base.tbls b ps q
 ·show(if X.env.locals=a then none else H X.env.locals)=none;split
  ·rfl
  ·exact I.free
 ·show(if c=a then none else H c)=none;split
  ·rfl
  ·exact I.freeC x c q
 ·obtain⟨h1,h2,h3⟩:=I.pin p hp;refine⟨h1,?_,h3⟩;show(if p.1=a then none else H p.1)=none;split
  ·rfl
  ·exact h2
 ·have q':(if b=a then none else H b)=some o:=q;by_cases z:b=a
  ·rw[if_pos z]at q';cases q'
  ·rw[if_neg z]at q';refine(I.hok b o q').stay (λ_ _ _ r=>r) (λc r=>?_) λc xs r=>?_
   ·rw[other c (na c _ r λφ z=>by cases z)];exact r
   ·rw[other c (na c _ r λφ z=>by cases z)];exact r
end
section
variable {P:Program}{w:World}{K:PySem.W.Frag}{mg:Str->Option Value}{base:Heap}{N:List Str}{qual:Str}{scope:Scope}{f:Addr}{cd:Value}{A:Around}{outer:List Env}{s:Shared}{H:Hp}{E:XK}
theorem lh{x att:Str}{C fI:Addr}{bmB:List Value}{Bn newId initId:String}{np cpos pos:Pos}{e:Expr}{t:TA}{fd:FuncData}{ps:List Str}{k:Nat}(hg:Gl (bu (CXV P w) P w K mg base N qual scope f cd A outer s H E) x)(O:OwnX x C fI bmB newId mg base)(FB:ExcBaseFacts Bn newId initId bmB)
 (F:FnOk P w K mg base CX0 k fI fd ps (ot C att)) (hr:Room (k+1) (bu (CXV P w) P w K mg base N qual scope f cd A outer s H E).A) (hb:Binds K fd ps []) (hk:PySem.W.keepIn K (.ref C)=true) (ha:PA (bu (CXV P w) P w K mg base N qual scope f cd A outer s H E) [e] t)
 (hdb:(x == ("__debug__":Str))=false:=by decide) (he:starEach [e] (envOfC qual scope s.heap.objs.size f cd)=(false,eval e (envOfC qual scope s.heap.objs.size f cd))::starEach [] (envOfC qual scope s.heap.objs.size f cd):=by rfl) (hpl:(backTo cpos (starEach [] (envOfC qual scope s.heap.objs.size f cd))).any (·.1)=false:=by rfl) :
 PS (bu (CXV P w) P w K mg base N qual scope f cd A outer s H E) (.Raise (some (.Call (.Name x np) [e] [] cpos)) none pos) (zM E (.ref C) att t):=by
 intro pins s1 σ H1 D I h;obtain⟨tl,NN,nm,q,bs,hdct,sn,sub,ab,col,dd,k0,k1,k2,k3,k5,mN,hC,hN,hi,T⟩:=O.obj;obtain⟨oI,hfI,hfc⟩:=O.fn;rw[arm_exec_Raise];refine wpAny_bind (wpAny_standAt ?_);refine Bp (C:=C) (nm:=nm) (q:=q) (N:=NN) (bs:=bs) (bm:=tl) (hdct:=hdct) (sn:=sn) (sub:=sub) (ab:=ab) (col:=col) (dd:=dd) (k0:=k0) (k1:=k1) (k2:=k2) (k3:=k3) (k5:=k5) (newId:=newId) (T.hasType FB.hasBase) (I.ok.hd rfl) ?_;refine wpAny_bind (wpAny_mono ?_ (λv s3 h3=>wpAny_bind (wpAny_standAt (wpAny_pure h3))) λ_ _ z=>z);refine wpAny_Call_Name_kw (o4 I hg O.bound ?_ hdb);refine PySem.W.callWith_K (h₀:=base) I.ok.mod.kin hk (thn (ha cpos pins s1 σ H1 _ I h) λus s2 ⟨vs,H2,I2,r,v,ev,q2⟩=>⟨I2.kIn,?_⟩) he hpl;subst ev;obtain⟨hh,g,d,tt,os⟩:=s2;have hlen:us.length<=sizeLine:=by rw[<- r.length];show 1<=sizeLine;decide
 show wpAny _ _ (call (.ref C) us) _ _ ⟨hh,g,d,tt,os⟩;refine ze FB (T.keeps I2.bk) (I2.bk _ _ hC) (hN.keeps I2.bk) hi (I2.bk _ _ hfI) hfc hlen ?_
 have ge:((hh.push { cls:=.type "tuple",data:=.seq us.toArray }).push (bZ C hh.objs.size)).get? (hh.objs.size+1)=some (bZ C hh.objs.size):=by
  have:=Heap.get?_push_size (hh.push { cls:=.type "tuple",data:=.seq us.toArray }) (o:=bZ C hh.objs.size) rfl
  rwa [Heap.size_push]at this
 have I3:Inv (bu (CXV P w) P w K mg base N qual scope f cd A outer s H E) pins σ (upd H2 (hh.objs.size+1) (EX C (hh.objs.size+1) none)) ⟨(hh.push { cls:=.type "tuple",data:=.seq us.toArray }).push (bZ C hh.objs.size),g,d,tt,os⟩ :=
  I2.laid (a:=hh.objs.size+1) (o:=EX C (hh.objs.size+1) none) (t':=tt) (λb u z=>Heap.get?_push_of_some _ (Heap.get?_push_of_some _ z)) (Nat.le_succ _) (yj (t:=hh.objs.size) ge)
 have fr:H2 (hh.objs.size+1)=none:=I2.hok.fresh (Nat.le_succ _);generalize hea:hh.objs.size+1=ea at ge I3 fr ⊢
 generalize (hh.push { cls:=.type "tuple",data:=.seq us.toArray }).push (bZ C hh.objs.size)=h3 at ge I3 ⊢
 have sp0:ot C att [V.ref ea,v] (upd H2 ea (EX C ea none)) (λv' H'=>v'=.non/\∃dx,H2 dx=none/\dx≠ea/\H'=upd (upd (upd H2 ea (EX C ea none)) dx (.xd [(att,v)])) ea (EX C ea (some dx))) E0 :=
  ⟨ea,v,rfl,ap,λdx h1 h2=>⟨rfl,dx,by rwa [upd_ne h2]at h1,h2,rfl⟩⟩
 have r2:Vals [V.ref ea,v] (Value.ref ea::us):=.cons rfl r
 have hl:(Value.ref ea::us++[]).length=ps.length:=by have z:=r2.length;rw[F.len _ _ _ _ sp0]at z;rw[Kk];exact z.symm
 have hbb:=hb _ (Value.ref ea::us) I3.kIn hl;rw[Kk]at hbb;refine wpAny_call (codeAny_mono (F.run _ (bu (CXV P w) P w K mg base N qual scope f cd A outer s H E).stack _ _ ⟨Value.ref ea::us,[]⟩ (Value.ref ea::us) _ _ E0 (hr.make C us []) (I3.env0.make C us []) hbb r2 sp0) λr' s' hq'=>?_);cases r' with
 |error e'=>exact(show False from hq').elim
 |ok fl =>
  cases fl with
  |ret u =>
   obtain⟨v',H',I4,rv,ev,dx,hdx,hde,eH⟩:=I3.after hq';subst ev;subst eH;refine⟨rv,?_⟩;obtain⟨⟨t4,et4⟩,_,_⟩:=(show ObjOk P w _ s'.heap ea (EX C ea (some dx))from I4.hok ea _ ap)
   have sn':s.heap.get? ea=none:=by
    cases z:s.heap.get? ea with
    |none=>rfl
    |some o =>obtain⟨o',z'⟩:=I2.base.there ea o z (λz=>nomatch z);exact absurd (Heap.lt_size z') (by rw[<- hea];show ¬hh.objs.size+1<hh.objs.size;omega)
   have I5:=I4.untrack (a:=ea) ap I2 fr
   have eH5:(λb=>if b=ea then none else upd (upd (upd H2 ea (EX C ea none)) dx (.xd [(att,v)])) ea (EX C ea (some dx)) b)=upd H2 dx (.xd [(att,v)]):=funext λb=>by
    by_cases z:b=ea
    ·rw[if_pos z,z,upd_ne (Ne.symm hde),fr]
    ·rw[if_neg z,upd_ne z];by_cases z2:b=dx
     ·rw[z2,ap,ap]
     ·rw[upd_ne z2,upd_ne z,upd_ne z2]
   rw[eH5]at I5;refine⟨ea,t4,some dx,rfl,I5.bk _ _ hC,et4,?_⟩;exact zb I5 et4 rfl rfl rfl rfl (by rw[upd_ne (Ne.symm hde)];exact fr) sn' (q2 dx hdx)
  |next=>exact(show False from hq').elim
  |brk=>exact(show False from hq').elim
  |cont=>exact(show False from hq').elim
end
section
variable {P:Program}{w:World}{K:PySem.W.Frag}{mg:Str->Option Value}{base:Heap}
theorem Fun.okV{x qual:Str}{st:Stmt}{f:Addr}{fd:FuncData}{N ps:List Str}{k:Nat}{sp:Sp}(F:Fun K x qual st f fd)(S:FnScope N ps (ae st))(len:∀vs H Q E,sp vs H Q E->vs.length=ps.length)
 (hbody:∀(cdv:Value) (A:Around) (outer:List Env) (s:Shared) (H:Hp) (vs:List V) (Q:VK) (E:XK),Room k (A.deeper (envOfC qual (ae st) s.heap.objs.size f cdv))->sp vs H Q E ->
   ∃t,PSs (bu (CXV P w) P w K mg base N qual (ae st) f cdv A outer s H E) (ax st) t/\t { nx:=λ_ H'=>Q .non H',rt:=Q } (dW N vs) H):FnOk P w K mg base (CXV P w) (k+1) f fd ps sp:=by
 obtain⟨oc,od,kV,doc,pm,an,cdv,ct,osl,rfl,lk,hcd⟩:=F.ex;exact pw lk hcd S len λA outer s H vs Q E hr hsp=>hbody cdv A outer s H vs Q E hr hsp
theorem FunD.okV{x qual:Str}{st:Stmt}{dV:Value}{f:Addr}{fd:FuncData}{N ps:List Str}{k:Nat}{sp:Sp}(F:FunD K x qual st dV f fd)(S:FnScope N ps (ae st))(len:∀vs H Q E,sp vs H Q E->vs.length=ps.length)
 (hbody:∀(cdv:Value) (A:Around) (outer:List Env) (s:Shared) (H:Hp) (vs:List V) (Q:VK) (E:XK),Room k (A.deeper (envOfC qual (ae st) s.heap.objs.size f cdv))->sp vs H Q E ->
   ∃t,PSs (bu (CXV P w) P w K mg base N qual (ae st) f cdv A outer s H E) (ax st) t/\t { nx:=λ_ H'=>Q .non H',rt:=Q } (dW N vs) H):FnOk P w K mg base (CXV P w) (k+1) f fd ps sp:=by
 obtain⟨oc,od,kV,doc,pm,an,cdv,ct,osl,rfl,lk,hcd⟩:=F.ex;exact pw lk hcd S len λA outer s H vs Q E hr hsp=>hbody cdv A outer s H vs Q E hr hsp
end
section
variable {P:Program}{w:World}{K:PySem.W.Frag}{mg:Str->Option Value}{base:Heap}{N:List Str}{qual:Str}{scope:Scope}{f:Addr}{cd:Value}{A:Around}{outer:List Env}{s:Shared}{H:Hp}{E:XK}
end
section
variable {X:Cx}{k:Nat}{f R R2:Addr}{fd:FuncData}{ps:List Str}{sp:Sp}{dvs:List V}{ds:List Value}{r r2 n n2 x:Str}{p pos epos np hpos np2 hpos2:Pos}{e ex:Expr}{es:List Expr}{t:TA}{i i2:Nat}{b₀ b₂:Stmt}{suite suite2:List Stmt}{th th2:Addr->Obj->TS}{tx:XK->TE}
end
noncomputable def tM(K:PySem.W.Frag)(C fI:Addr)(bmB:List Value)(newId:String):Bool:=match K.lookup C with
 |some ⟨.type "type",_,.cls cd,sl⟩=>(match cd.mro,sl.toList with
  |.ref C'::bm,[_,_,_,_,some (.builtin n),_]=>C' == C&&n == newId&&!cd.hasDel&&PySem.W.tailIn K bmB bm&&PySem.W.nsOkIn K cd.ns&&PySem.W.nsIn K cd.ns "__init__" == some (some (.ref fI))&&PySem.W.typeIn K (.ref fI) == some (.type "function")
  |_,_=>false)
 |_=>false
theorem DH{K:PySem.W.Frag}{h:Heap}{N:Addr}{mN:Str->Option Value}{x:Str}{v:Value}(X:K.In h)(G:h.Ns N mN)(e:PySem.W.nsIn K N x=some (some v)):mN x=some v:=by
 obtain⟨ob,es,ep,hob,hdat,_,hfind⟩:=G;unfold PySem.W.nsIn at e
 cases hl:K.lookup N with
 |none=>rw[hl]at e;cases e
 |some oo =>
  obtain rfl:ob=oo:=Option.some.inj (hob.symm.trans (X _ _ hl));obtain⟨c1,c2,c3,c4⟩:=ob;have hdat':c3=.dict es ep:=hdat;subst hdat';rw[hl]at e;dsimp only at e
  have hf:=hfind x;unfold nsFind findBy at hf
  rw[<- Array.find?_toList]at hf;cases hq:es.toList.find? (·.key.isStr x)with
  |none =>
   rw[hq]at e;dsimp only at e
   split at e<;>cases e
  |some en =>rw[hq]at e hf;rw[<- hf];exact Option.some.inj e
theorem BZ{K:PySem.W.Frag}{h₀:Heap}{mg:Str->Option Value}{x:Str}{C fI:Addr}{bmB:List Value}{newId:String}(X:K.In h₀)(G:h₀.Ns mainGlobals mg)(e:PySem.W.nsIn K mainGlobals x=some (some (.ref C)))(q:tM K C fI bmB newId=true):OwnX x C fI bmB newId mg h₀:=by
 unfold tM at q
 split at q
 ·rename_i dd cd sl ho
  split at q
  ·rename_i C' bm k0 k1 k2 k3 n k5 hm hs
   simp only[Kf,beq_iff_eq,Bool.not_eq_true']at q;obtain⟨⟨⟨⟨⟨⟨rfl,rfl⟩,hdel⟩,ht⟩,hok⟩,hni⟩,hfn⟩:=q;obtain⟨nm,bs,mro,ns,qn,hd,sn,sub,ab,col,del⟩:=cd;dsimp only at hm hdel hok hni
   subst hm hdel
   have hsl:sl=#[k0,k1,k2,k3,some (.builtin n),k5]:=by
    obtain⟨l⟩:=sl;simp only at hs
    rw[hs]
   subst hsl;refine⟨PySem.W.mg_of X G e,⟨bm,ns,nm,qn,bs,hd,sn,sub,ab,col,dd,k0,k1,k2,k3,k5,_,X _ _ ho,.of_isNs (PySem.W.isNs_of_in X hok),DH X (.of_isNs (PySem.W.isNs_of_in X hok)) hni,PySem.W.tail_of_in X ht⟩,?_⟩;obtain⟨oI,h1,h2⟩:=Option.map_eq_some_iff.mp (show(K.lookup fI).map (·.cls)=some (.type "function")from hfn);exact⟨oI,X _ _ h1,h2⟩
  ·cases q
 ·cases q
structure CalV(P:Program)(w:World)(K:PySem.W.Frag)(mg:Str->Option Value)(base:Heap)(k:Nat)(x:Str)(ps:List Str)(sp:Sp)(f:Addr)(fd:FuncData):Prop where
 ok:FnOk P w K mg base (CXV P w) k f fd ps sp
 mg:mg x=some (.ref f)
 kp:PySem.W.keepIn K (.ref f)=true
 bd:Binds K fd ps []
structure MCalV(P:Program)(w:World)(K:PySem.W.Frag)(mg:Str->Option Value)(base:Heap)(k:Nat)(C:Addr)(m:Str)(ps:List Str)(sp:Sp)(f:Addr)(fd:FuncData):Prop where
 ok:FnOk P w K mg base (CXV P w) k f fd ps sp
 mt:Meth K C m f
 bd:Binds K fd ps []
structure XCal(P:Program)(w:World)(K:PySem.W.Frag)(mg:Str->Option Value)(base:Heap)(k:Nat)(C:Addr)(x att:Str)(ps:List Str)(f:Addr)(fd:FuncData):Prop where
 ok:FnOk P w K mg base CX0 k f fd ps (ot C att)
 ow:OwnX x C f lV "ValueError.__new__" mg base
 kp:PySem.W.keepIn K (.ref C)=true
 bd:Binds K fd ps []
 xc:XCls K C
 ec:ECls K C
 na:NoAttr K C att
variable {X:Cx}
section
variable {X:Cx}{i:Nat}{x:Str}{a:Expr}{ta:TE}{es:List Expr}{xs:List Str}{rest:List Stmt}{u:TS}{pos pos' pos2 pos3:Pos}
end
section
variable {P:Program}{w:World}{K:PySem.W.Frag}{mg:Str->Option Value}{base:Heap}
end
structure RoomH(k:Nat)(A:Around):Prop where
 dp:A.depth+3*k+5<recursionLimit
 un:A.units+16*k+200<cLine
theorem RoomH.mono{j k:Nat}{A:Around}(r:RoomH k A)(h:j<=k:=by decide):RoomH j A:=⟨by have:=r.dp;omega,by have:=r.un;omega⟩
theorem RoomH.deeper{k:Nat}{A:Around}(r:RoomH (k+1) A)(env:Env):RoomH k (A.deeper env) :=
 ⟨by have:=r.dp;show A.depth+1+3*k+5<_;omega,by have:=r.un;show A.units+3+16*k+200<_;omega⟩
section
variable {P:Program}{w:World}{K:PySem.W.Frag}{mg:Str->Option Value}{base:Heap}
end
section
variable {X:Cx}{k:Nat}{f C:Addr}{fd:FuncData}{ps:List Str}{sp:Sp}{dvs:List V}{ds:List Value}{E:XK}{x m:Str}{p pos apos:Pos}{e o:Expr}{es:List Expr}{ta:TE}{t:TA}
end
end L2
namespace RM
noncomputable def cf(l:List Int)(k:Nat):Int:=l.getD k 0
theorem HN(k:Nat):cf [] k=0:=by simp[cf]
theorem HK(x:Int)(l:List Int)(k:Nat):cf (x::l) (k+1)=cf l k:=rfl
theorem dE{l:List Int}{k:Nat}(h:l.length<=k):cf l k=0:=by unfold cf;rw[List.getD,List.getElem?_eq_none_iff.mpr h];rfl
theorem lL{l:List Int}{k:Nat}(h:k<l.length):cf l k=l[k]:=by unfold cf;rw[List.getD,List.getElem?_eq_getElem h];rfl
theorem pi{l:List Int}{k:Nat}(h:k<l.length):l[k]?=some (cf l k):=by rw[lL h,List.getElem?_eq_getElem h]
theorem yu{l r:List Int}{k:Nat}(h:k<l.length):cf (l++r) k=cf l k:=by unfold cf;rw[List.getD,List.getD,List.getElem?_append_left h]
theorem tT{l r:List Int}{k:Nat}(h:l.length<=k):cf (l++r) k=cf r (k-l.length):=by unfold cf;rw[List.getD,List.getD,List.getElem?_append_right h]
theorem HL(n k:Nat):cf (List.replicate n 0) k=0:=by unfold cf;rw[List.getD,List.getElem?_replicate];split<;>rfl
theorem tR(f:Nat->Int)(n k:Nat):cf ((List.range n).map f) k=if k<n then f k else 0:=by
 unfold cf;rw[List.getD,List.getElem?_map];by_cases h:k<n
 ·rw[if_pos h,List.getElem?_range h];rfl
 ·rw[if_neg h,List.getElem?_eq_none_iff.mpr (by simpa using h)];rfl
theorem Hi{a b:List Int}(hl:a.length=b.length)(h:∀k,k<a.length->cf a k=cf b k):a=b:=by apply List.ext_getElem hl;intro k h1 h2;rw[<- lL h1,<- lL h2];exact h k h1
noncomputable def trim(l:List Int):List Int:=(l.reverse.dropWhile (· == 0)).reverse
theorem vo(l:List Int):trim (l++[0])=trim l:=by unfold trim;rw[KQ];rfl
theorem vp(l:List Int){x:Int}(h:x≠0):trim (l++[x])=l++[x]:=by unfold trim;rw[KQ];show((x::l.reverse).dropWhile (· == 0)).reverse=_;rw[List.dropWhile_cons_of_neg (by simpa using h)];simp
def Tr(l:List Int):Prop:=∀n,l.length=n+1->cf l n≠0
theorem vL(l:List Int):l=[]\/∃r x,l=r++[x]:=by
 cases h:l.reverse with
 |nil=>left;simpa using h
 |cons x r=>right;exact⟨r.reverse,x,by rw[<- List.reverse_reverse l,h];simp⟩
theorem tS(r:List Int)(x:Int):cf (r++[x]) r.length=x:=by rw[tT (J3 _),Nat.sub_self];rfl
theorem zw:Tr []:=λn h=>by simp at h
theorem tr_snoc{r:List Int}{x:Int}:Tr (r++[x])↔x≠0:=by
 constructor
 ·intro h;have:=h r.length (by simp)
  rwa [tS]at this
 ·intro h n hn;have e:n=r.length:=by simp at hn;omega
  subst e
  rwa [tS]
theorem oi:∀(n:Nat) (l:List Int),l.length=n->Tr (trim l)/\(trim l).length<=l.length/\∀k,cf (trim l) k=cf l k
 |0,l,h=>by have:l=[]:=Ld.mp h;subst this;exact⟨zw,J3 _,λ_=>rfl⟩
 |n+1,l,h=>by
  rcases vL l with rfl |⟨r,x,rfl⟩
  ·simp at h
  ·by_cases hx:x=0
   ·subst hx;obtain⟨h1,h2,h3⟩:=oi n r (by simpa using h);rw[vo];refine⟨h1,by rw[J2];exact J7 h2 (Nat.le_add_right _ _),λk=>?_⟩;rw[h3];by_cases hk:k<r.length
    ·rw[yu hk]
    ·rw[tT (La hk),dE (La hk)];cases e:k-r.length with
     |zero=>rfl
     |succ j=>rw[HK,HN]
   ·rw[vp r hx];exact⟨tr_snoc.mpr hx,J3 _,λ_=>rfl⟩
theorem jL(l:List Int):Tr (trim l):=(oi _ l rfl).1
theorem EJ(l:List Int):(trim l).length<=l.length:=(oi _ l rfl).2.1
theorem pE(l:List Int)(k:Nat):cf (trim l) k=cf l k:=(oi _ l rfl).2.2 k
theorem yk{a b:List Int}(ha:Tr a)(hb:Tr b)(h:∀k,cf a k=cf b k):a=b:=by
 have le:∀{a b:List Int},Tr a->(∀k,cf a k=cf b k)->a.length<=b.length:=λ{a b} ha h=>by
  cases e:a.length with
  |zero=>exact Kj _
  |succ n =>apply Classical.byContradiction;intro hn;exact ha n e (by rw[h n,dE (by omega)])
 have hl:a.length=b.length:=Nat.le_antisymm (le ha h) (le hb λk=>(h k).symm);exact Hi hl λk _=>h k
theorem zu{l:List Int}{n:Nat}(hn:n<l.length)(h:cf l n=0):trim (l.take (n+1))=trim (l.take n):=by rw[KR,pi hn,h];exact vo _
theorem zv{l:List Int}{n:Nat}(hn:n<l.length)(h:cf l n≠0):trim (l.take (n+1))=l.take (n+1):=by rw[KR,pi hn];exact vp _ h
noncomputable def oZ(f:Int)(a b:List Int):List Int:=(List.range (max a.length b.length)).map λk=>cf a k+f*cf b k
theorem HP(f:Int)(a b:List Int)(k:Nat):cf (oZ f a b) k=cf a k+f*cf b k:=by
 unfold oZ;rw[tR];by_cases h:k<max a.length b.length
 ·rw[if_pos h]
 ·have h1:a.length<=k:=by omega
  have h2:b.length<=k:=by omega
  rw[if_neg h,dE h1,dE h2];simp
noncomputable def fX(a b:List Int):List Int:=trim (oZ 1 a b)
noncomputable def tm(a b:List Int)(n i:Nat):Int:=if i<=n then cf a i*cf b (n-i)else 0
noncomputable def sm(a b:List Int)(n:Nat):Nat->Int
 |0=>0
 |j+1=>sm a b n j+tm a b n j
theorem IV(a b:List Int):trim ((List.range (max a.length b.length)).map λk=>cf a k+cf b k)=fX a b:=by
 unfold fX oZ
 congr 2;funext k;rw[Int.one_mul]
noncomputable def dv(t b:Int):Int:=if b<0 then -((Nat.gcd t.natAbs b.natAbs:Nat):Int)else((Nat.gcd t.natAbs b.natAbs:Nat):Int)
noncomputable def rt(t b:Int):Int:=t.fdiv (dv t b)
noncomputable def rb(t b:Int):Int:=b.fdiv (dv t b)
theorem pj{t b:Int}(hb:b≠0):0<Nat.gcd t.natAbs b.natAbs:=Nat.gcd_pos_of_pos_right _ (Int.natAbs_pos.mpr hb)
theorem pD{t b:Int}(hb:b≠0):dv t b≠0:=by have:=@pj t b hb;unfold dv;split<;>omega
theorem nK(t b:Int):(dv t b).natAbs=Nat.gcd t.natAbs b.natAbs:=by unfold dv;split<;>omega
theorem Hm(t b:Int):dv t b∣t:=Int.natAbs_dvd_natAbs.mp (by rw[nK];exact Nat.gcd_dvd_left _ _)
theorem Hl(t b:Int):dv t b∣b:=Int.natAbs_dvd_natAbs.mp (by rw[nK];exact Nat.gcd_dvd_right _ _)
theorem yi{a d:Int}(hd:d≠0)(h:d∣a):d*a.fdiv d=a:=by obtain⟨c,rfl⟩:=h;rw[Int.mul_fdiv_cancel_left c hd]
theorem mj{t b:Int}(hb:b≠0):dv t b*rt t b=t:=yi (pD hb) (Hm t b)
theorem lg{t b:Int}(hb:b≠0):dv t b*rb t b=b:=yi (pD hb) (Hl t b)
theorem Bj{t b:Int}(hb:b≠0):0<rb t b:=by
 have h1:=@lg t b hb;have h2:=@pj t b hb;by_cases hn:b<0
 ·have hd:dv t b<0:=by unfold dv;rw[if_pos hn];omega
  apply Classical.byContradiction;intro h;have:0<=dv t b*rb t b:=Int.mul_nonneg_of_nonpos_of_nonpos (Int.le_of_lt hd) (by omega);omega
 ·have hd:0<dv t b:=by unfold dv;rw[if_neg hn];omega
  apply Classical.byContradiction;intro h;have:dv t b*rb t b<=0:=Int.mul_nonpos_of_nonneg_of_nonpos (Int.le_of_lt hd) (by omega);omega
theorem A9{t b:Int}(hb:b≠0):(rt t b).natAbs<=t.natAbs:=by
 have h1:t.natAbs=Nat.gcd t.natAbs b.natAbs*(rt t b).natAbs:=by rw[<- nK,<- Int.natAbs_mul,mj hb]
 rw[h1];exact Nat.le_mul_of_pos_left _ (pj hb)
theorem Bk{t b:Int}(hb:b≠0):(rb t b).natAbs<=b.natAbs:=by
 have h1:b.natAbs=Nat.gcd t.natAbs b.natAbs*(rb t b).natAbs:=by rw[<- nK,<- Int.natAbs_mul,lg hb]
 rw[h1];exact Nat.le_mul_of_pos_left _ (pj hb)
noncomputable def sg(x:Int):Int:=if x<0 then -1 else if 0<x then 1 else 0
theorem yv(a b:List Int)(n:Nat):cf (fX a b) n=cf a n+cf b n:=by unfold fX;rw[pE,HP,Int.one_mul]
open PySem PySem.NumText PySem.Builtin PySem.Builtin.Str
noncomputable def stL(l:List Nat):Str:=⟨l.toArray⟩
theorem jM(l:List Nat):(stL l).cps.toList=l:=rfl
theorem ah(l:List Nat):(stL l).length=l.length:=by unfold stL Str.length;simp
theorem vH(l:List Nat):(stL l).cps.size=l.length:=by unfold stL;simp
theorem ar(a b:List Nat):stL a++stL b=stL (a++b):=HQ a b
theorem stL_inj{a b:List Nat}:stL a=stL b↔a=b:=⟨λh=>congrArg (λz:Str=>z.cps.toList) h,λh=>by rw[h]⟩
theorem txt_nat(n:Nat):Str.ofString (toString (n:Int))=stL (al n):=o9 n
theorem qO(l:List Nat){a b:Nat}(hab:a<=b)(hb:b<=l.length):Txt.slice (stL l) (some (a:Int)) (some (b:Int))=stL ((l.drop a).take (b-a)):=by
 unfold Txt.slice;have hl:b<=(stL l).length:=by rw[ah];exact hb
 split
 ·rename_i h
  have e:(strSliceIndices (some (a:Int)) (some (b:Int)) 1 (stL l).length).length=(stL l).length:=by simpa using h
  rw[StrLaws.strSliceIndices_plain hab hl,J6,List.length_range,ah]at e;have ha:a=0:=by omega
  have hb':b=l.length:=by omega
  subst ha;subst hb';rw[List.drop_zero,Nat.sub_zero,List.take_length]
 ·rw[StrLaws.sliced_plain (stL l) hab hl];rfl
noncomputable def isD(c:Nat):Bool:=decide (48<=c)&&decide (c<=57)
noncomputable def isA(c:Nat):Bool:=decide (97<=c)&&decide (c<=122)
theorem xP(c:Nat):decide (c∈(Str.ofString "0123456789").cps.toList)=isD c:=by
 have e:(Str.ofString "0123456789").cps.toList=[48,49,50,51,52,53,54,55,56,57]:=by decide +kernel
 rw[e,Kv,decide_eq_true_eq];unfold isD;simp only[J8,Ku,or_false,Kf,decide_eq_true_eq];omega
theorem xO(c:Nat):decide (c∈(Str.ofString "abcdefghijklmnopqrstuvwxyz").cps.toList)=isA c:=by
 have e:(Str.ofString "abcdefghijklmnopqrstuvwxyz").cps.toList=[97,98,99,100,101,102,103,104,105,106,107,108,109,110,111,112,113,114,115,116,117,118,119,120,121,122]:=by decide +kernel
 rw[e,Kv,decide_eq_true_eq];unfold isA;simp only[J8,Ku,or_false,Kf,decide_eq_true_eq];omega
theorem ik(n:Nat):al n≠[]:=by
 by_cases h:n<10
 ·rw[fS h];simp
 ·rw[je (by omega)];simp
theorem wH:∀(n m:Nat),m<=n->∀c∈al m,isD c=true
 |0,m,h=>by
  have e:m=0:=by omega
  subst e;rw[fS (by decide)];intro c hc;rw[Kb.mp hc];decide
 |n+1,m,h=>by
  intro c hc;by_cases h':m<10
  ·rw[fS h']at hc;rw[Kb.mp hc];unfold isD;simp only[Kf,decide_eq_true_eq];omega
  ·rw[je (by omega)]at hc;rcases Ke.mp hc with hc |hc
   ·exact wH n (m/10) (by omega) c hc
   ·rw[Kb.mp hc];have:=Nat.mod_lt m (show 0<10 by decide);unfold isD;simp only[Kf,decide_eq_true_eq];omega
theorem gK(n:Nat):∀c∈al n,isD c=true:=wH n n (J3 _)
theorem wF:∀(n m:Nat),m<=n->1<=m->∃c r,al m=c::r/\c≠48
 |0,m,h,h1=>by omega
 |n+1,m,h,h1=>by
  by_cases h':m<10
  ·exact⟨48+m,[],fS h',by omega⟩
  ·obtain⟨c,r,e,hc⟩:=wF n (m/10) (by omega) (by omega);rw[je (by omega),e];exact⟨c,r++[48+m%10],rfl,hc⟩
theorem DF(n:Nat)(hl:(al n).length<=4300):PySem.intText? (stL (al n))=some (n:Int):=by
 have hd:AllDigits (stL (al n)).cps.toList:=λc hc=>by
  rw[jM]at hc;have:=gK n c hc;unfold isD at this
  simpa using this
 have e:=intText_digits hd (by rw[jM];exact ik n) (by rw[ah];exact hl);rw[jM]at e;rw[e];have:digitsVal (al n)=n:=PySem.W.KIN.val_back n;rw[this]
noncomputable def tmT(size k:Nat):List Nat:=if k=0 then al size else(if size=1 then[]else al size++[42])++(120::if k=1 then[]else 94::al k)
noncomputable def ptT(l:List Int):Nat->List Nat
 |0=>[]
 |n+1=>(if cf l n=0 then[]else[32,if cf l n<0 then 45 else 43,32]++tmT (cf l n).natAbs n)++ptT l n
noncomputable def plT(l:List Int):List Nat:=if l=[]then[48]else(if cf l (l.length-1)<0 then[45]else[])++tmT (cf l (l.length-1)).natAbs (l.length-1)++ptT l (l.length-1)
noncomputable def wM:List Nat->Nat
 | []=>0
 |c::r=>if isD c then((c::r).takeWhile isD).length else if isA c then((c::r).takeWhile isA).length else 1
theorem pP(p:Nat->Bool):∀l:List Nat,(l.takeWhile p).length<=l.length
 | []=>J3 _
 |c::r=>by
  rw[KH];split
  ·have:=pP p r;simp;omega
  ·simp
noncomputable def mkF:Nat->List Nat->List (List Nat)
 |0,_=>[]
 |n+1,l=>if l=[]then[]else(if l.head?=some 32 then[]else[l.take (wM l)])++mkF n (l.drop (wM l))
noncomputable def JZ(l:List Nat):List (List Nat):=mkF l.length l
noncomputable def tmM(size k:Nat):List (List Nat):=if k=0 then[al size]else(if size=1 then[]else[al size,[42]])++([120]::if k=1 then[]else[[94],al k])
noncomputable def ptM(l:List Int):Nat->List (List Nat)
 |0=>[]
 |n+1=>(if cf l n=0 then[]else[if cf l n<0 then 45 else 43]::tmM (cf l n).natAbs n)++ptM l n
noncomputable def plM(l:List Int):List (List Nat):=if l=[]then[[48]]else(if cf l (l.length-1)<0 then[[45]]else[])++tmM (cf l (l.length-1)).natAbs (l.length-1)++ptM l (l.length-1)
def Bl(b:List Nat):Prop:=b=[]\/∃r,b=32::r
theorem Bl.no{b:List Nat}(h:Bl b)(p:Nat->Bool)(hp:p 32=false):∀c∈b.head?,p c=false:=by
 rcases h with rfl |⟨r,rfl⟩
 ·intro c hc;simp at hc
 ·intro c hc;have:c=32:=by simpa using hc.symm
  rw[this];exact hp
noncomputable def mln:List Nat->Nat
 | []=>0
 |c::r=>if isD c then((c::r).takeWhile isD).length else if isA c then((c::r).takeWhile isA).length else if c=46/\r.head?=some 46 then 2 else 1
theorem fU(c:Nat)(r:List Nat):mln (c::r)=if isD c then((c::r).takeWhile isD).length else if isA c then((c::r).takeWhile isA).length else if c=46/\r.head?=some 46 then 2 else 1:=rfl
theorem lA(c:Nat)(r:List Nat):1<=mln (c::r):=by
 rw[fU];by_cases h1:isD c=true
 ·rw[if_pos h1,KH,if_pos h1];simp
 ·rw[if_neg h1];by_cases h2:isA c=true
  ·rw[if_pos h2,KH,if_pos h2];simp
  ·rw[if_neg h2];split<;>decide
theorem rA(l:List Nat):mln l<=l.length:=by
 cases l with
 |nil=>exact J3 _
 |cons c r =>
  rw[fU];split
  ·exact pP _ _
  ·split
   ·exact pP _ _
   ·split
    ·rename_i h
     cases r with
     |nil=>simp at h
     |cons d r=>simp
    ·simp
noncomputable def mkP:Nat->Nat->List Nat->List (List Nat×Nat)
 |0,_,_=>[]
 |n+1,i,l=>if l=[]then[]else(if l.head?=some 32 then[]else[(l.take (mln l),i)])++mkP n (i+mln l) (l.drop (mln l))
theorem oO:∀n i,mkP n i []=[]
 |0,_=>rfl
 |n+1,i=>by show(if([]:List Nat)=[]then[]else _)=_;rw[if_pos rfl]
theorem wR:∀(n i:Nat) (l:List Nat),l.length<=n->mkP (n+1) i l=mkP n i l
 |0,i,l,h=>by have e:l=[]:=Ld.mp (by omega);rw[e,oO,oO]
 |n+1,i,l,h=>by
  by_cases hl:l=[]
  ·rw[hl,oO,oO]
  ·obtain⟨c,r,rfl⟩:=Kq hl;have:=lA c r;show(if c::r=[]then[]else _++mkP (n+1) _ _)=(if c::r=[]then[]else _++mkP n _ _);rw[wR n _ _ (by rw[Kr];omega)]
theorem wS{l:List Nat}{i:Nat}:∀{n:Nat},l.length<=n->mkP n i l=mkP l.length i l
 |0,h=>by have:l.length=0:=by omega
          rw[this]
 |n+1,h=>by
  by_cases e:l.length=n+1
  ·rw[e]
  ·rw[wR n i l (by omega)];exact wS (by omega)
noncomputable def mks(i:Nat)(l:List Nat):List (List Nat×Nat):=mkP l.length i l
theorem mC(i:Nat):mks i []=[]:=rfl
theorem jf(i c:Nat)(r:List Nat):mks i (c::r)=(if c=32 then[]else[((c::r).take (mln (c::r)),i)])++mks (i+mln (c::r)) ((c::r).drop (mln (c::r))):=by
 have h1:=lA c r;show(if c::r=[]then[]else(if(c::r).head?=some 32 then[]else _)++mkP r.length _ _)=_;rw[if_neg (by simp)]
 congr 1
 ·by_cases h:c=32
  ·rw[if_pos h,if_pos (by rw[h];rfl)]
  ·rw[if_neg h,if_neg (by simpa using h)]
 ·refine wS ?_;rw[Kr,J4];omega
noncomputable def glu(a b:Nat):Bool:=(isD a&&isD b) || (isA a&&isA b) || (decide (a=46)&&decide (b=46))
def iH(T X:List Nat):Prop:=∀a b,T.getLast?=some a->X.head?=some b->glu a b=false
theorem vm{p:Nat->Bool}{T X:List Nat}(h:∀a b,T.getLast?=some a->X.head?=some b->p a=true->p b=false)(hT:T≠[]):((T++X).takeWhile p).length=(T.takeWhile p).length:=by
 rw[List.takeWhile_append];by_cases e:(T.takeWhile p).length=T.length
 ·rw[if_pos e];have hall:T.takeWhile p=T:=(List.takeWhile_prefix p).eq_of_length e
  have hp:∀x∈T,p x=true:=λx hx=>by have:=Kp.mp (List.all_takeWhile (l:=T) (p:=p)) x (by rw[hall];exact hx);exact this
  have hl:p (T.getLast hT)=true:=hp _ (List.getLast_mem hT)
  have:X.takeWhile p=[]:=by
   cases X with
   |nil=>rfl
   |cons b r =>rw[KH,if_neg];rw[h (T.getLast hT) b (List.getLast?_eq_some_getLast hT) rfl hl];decide
  rw[this,Kk,hall]
 ·rw[if_neg e]
theorem DS{T X:List Nat}(hT:T≠[])(h:iH T X):mln (T++X)=mln T:=by
 have g1:=vm (p:=isD) (λa b ha hb hp=>by have:=h a b ha hb;unfold glu at this;rw[hp]at this;simp at this;exact this.1.1) hT;have g2:=vm (p:=isA) (λa b ha hb hp=>by have:=h a b ha hb;unfold glu at this;rw[hp]at this;simp at this;exact this.1.2) hT;obtain⟨c,r,rfl⟩:=Kq hT;rw[Kg]at g1 g2 ⊢;rw[fU,fU,g1,g2]
 have g3:(c=46/\(r++X).head?=some 46)↔(c=46/\r.head?=some 46):=by
  cases r with
  |cons d r=>exact Iff.rfl
  |nil =>
   constructor
   ·rintro⟨rfl,hx⟩;have:=h 46 46 rfl hx;exact absurd this (by decide)
   ·rintro⟨_,z⟩;cases z
 simp only[g3]
theorem wQ:∀(n i:Nat) (T X:List Nat),T.length<=n->iH T X->mks i (T++X)=mks i T++mks (i+T.length) X
 |n,i,[],X,_,_=>by rw[mC];rfl
 |0,i,c::r,X,h,_=>absurd h (by simp)
 |n+1,i,c::r,X,h,g=>by
  have hT:c::r≠[]:=by simp
  have m1:=DS hT g;have m2:=lA c r;have m3:=rA (c::r);rw[Kg]at m1 ⊢;rw[jf,jf,m1,<- Kg,List.take_append_of_le_length m3,List.drop_append_of_le_length m3,J5]
  congr 1
  rw[wQ n _ _ X (by rw[Kr];simp at h ⊢;omega) (λa b ha hb=>g a b (by
   have hne:(c::r).drop (mln (c::r))≠[]:=λz=>by rw[z]at ha;cases ha
   rw[List.getLast?_drop]at ha;split at ha
   ·cases ha
   ·exact ha) hb)]
  congr 2
  rw[Kr];omega
theorem DX{T X:List Nat}(i:Nat)(g:iH T X):mks i (T++X)=mks i T++mks (i+T.length) X:=wQ _ i T X (J3 _) g
theorem wP(X:List Nat):∀(g i:Nat),mks i (List.replicate g 32++X)=mks (i+g) X
 |0,i=>rfl
 |g+1,i=>by
  rw[KC,Kg,jf];have e:mln (32::(List.replicate g 32++X))=1:=by rw[fU];rfl
  rw[e,if_pos rfl,Ko];show mks (i+1) (List.replicate g 32++X)=_;rw[wP X g (i+1)]
  congr 1;omega
structure WfM(m:List Nat):Prop where
 ne:m≠[]
 asc:∀c∈m,c<128
 nb:m.head?≠some 32
 one:mln m=m.length
theorem DU{m:List Nat}(h:WfM m)(i:Nat):mks i m=[(m,i)]:=by obtain⟨c,r,rfl⟩:=Kq h.ne;rw[jf,h.one,List.take_length,List.drop_length,mC,Kk,if_neg];intro z;exact h.nb (by rw[z];rfl)
theorem DJ{T X:List Nat}{g:Nat}(h:0<g\/iH T X):iH T (List.replicate g 32++X):=by
 intro a b ha hb;cases g with
 |zero=>exact(h.resolve_left (by omega)) a b ha hb
 |succ g =>rw[KC,Kg]at hb;cases hb;unfold glu;simp[isD,isA]
theorem DT{T m:List Nat}{g:Nat}(h:WfM m)(hg:0<g\/iH T m):mks 0 (T++List.replicate g 32++m)=mks 0 T++[(m,T.length+g)]:=by rw[J5,DX 0 (DJ hg),wP,DU h,Nat.zero_add]
theorem zj(n:Nat):WfM (al n):=by
 have hd:=gK n;obtain⟨c,r,e⟩:=Kq (ik n);have hc:isD c=true:=hd c (by rw[e];simp);refine⟨ik n,λc hc=>?_,?_,?_⟩
 ·have:=hd c hc;unfold isD at this
  simp at this;omega
 ·rw[e];intro z;cases z;exact absurd hc (by decide)
 ·rw[e,fU,if_pos hc,<- e]
  have:∀l:List Nat,(∀c∈l,isD c=true)->l.takeWhile isD=l:=λl=>by
   induction l with
   |nil=>intro _;rfl
   |cons a l ih=>intro h;rw[KH,if_pos (h a (by simp)),ih λc hc=>h c (by simp[hc])]
  rw[this _ hd]
instance:DecidablePred WfM:=λm=>decidable_of_iff (m≠[]/\(∀c∈m,c<128)/\m.head?≠some 32/\mln m=m.length) ⟨λh=>⟨h.1,h.2.1,h.2.2.1,h.2.2.2⟩,λh=>⟨h.ne,h.asc,h.nb,h.one⟩⟩
theorem wN:∀(n i:Nat) (l:List Nat),l.length<=n->∀u∈mks i l,u.1≠[]/\u.1.length<=l.length/\∀c∈u.1,c∈l
 |n,i,[],_=>λu hu=>by rw[mC]at hu;cases hu
 |0,i,c::r,h=>absurd h (by simp)
 |n+1,i,c::r,h=>λu hu=>by
  have m2:=lA c r;rw[jf]at hu;rcases Ke.mp hu with hu |hu
  ·by_cases hc:c=32
   ·rw[if_pos hc]at hu;cases hu
   ·rw[if_neg hc]at hu;rw[Kb.mp hu];refine⟨λz=>?_,by simp only[KY];omega,λc hc=>List.mem_of_mem_take hc⟩;have:=congrArg List.length z;simp at this;omega
  ·obtain⟨h1,h2,h3⟩:=wN n _ _ (by rw[Kr];simp at h ⊢;omega) u hu;refine⟨h1,?_,λc hc=>List.mem_of_mem_drop (h3 c hc)⟩;rw[Kr]at h2;omega
theorem DV{i:Nat}{l:List Nat}:∀u∈mks i l,u.1≠[]/\u.1.length<=l.length/\∀c∈u.1,c∈l:=wN _ i l (J3 _)
theorem wO:∀(n i:Nat) (l:List Nat),l.length<=n->(mks i l).length<=l.length
 |n,i,[],_=>by rw[mC];exact J3 _
 |0,i,c::r,h=>absurd h (by simp)
 |n+1,i,c::r,h=>by
  have m2:=lA c r;have:=wO n (i+mln (c::r)) ((c::r).drop (mln (c::r))) (by rw[Kr];simp at h ⊢;omega);rw[jf,J2];rw[Kr]at this;have h5:=rA (c::r);split
  ·simp only[Ks];omega
  ·simp only[Lh];omega
theorem DW(i:Nat)(l:List Nat):(mks i l).length<=l.length:=wO _ i l (J3 _)
theorem FN{a b len:Nat}(h:len<=b):strSliceIndices (some (a:Int)) (some (b:Int)) 1 len=strSliceIndices (some (a:Int)) (some (len:Int)) 1 len:=by
 have h1:¬((a:Int)<0):=by omega
 have h2:¬((b:Int)<0):=by omega
 have h3:¬((len:Int)<0):=by omega
 have e1:max (0:Int) (min (b:Int) (len:Int))=len:=by omega
 have e2:max (0:Int) (min (len:Int) (len:Int))=len:=by omega
 simp only[strSliceIndices,h1,h2,h3,if_false,e1,e2,show((1:Int)>0)=True from by simp,if_true]
theorem eC:Str.ofString ".."=stL [46,46]:=by decide +kernel
theorem Ae{l:List Nat}{i:Nat}(hi:i<l.length):Txt.slice (stL l) (some (i:Int)) (some ((i:Int)+2))=Str.ofString ".."↔(l[i]=46/\(l.drop (i+1)).head?=some 46):=by
 have hd:l.drop i=l[i]::l.drop (i+1):=Lf hi;rw[show(i:Int)+2=((i+2:Nat):Int) by omega,eC];by_cases h:i+2<=l.length
 ·rw[qO l (by omega) h,stL_inj,hd,show i+2-i=2 by omega];cases hr:l.drop (i+1)with
  |nil =>have:=congrArg List.length hr;rw[Kr]at this;simp at this;omega
  |cons c r =>show[l[i],c]=[46,46]↔l[i]=46/\some c=some 46;simp
 ·have e:Txt.slice (stL l) (some (i:Int)) (some ((i+2:Nat):Int))=Txt.slice (stL l) (some (i:Int)) (some (l.length:Int)):=by unfold Txt.slice;rw[ah,FN (by omega)]
  rw[e,qO l (by omega) (J3 _),stL_inj,hd];have hr:l.drop (i+1)=[]:=KS (by omega);rw[hr,show l.length-i=1 by omega];show[l[i]]=[46,46]↔_;simp
abbrev Mk:=List Nat×Nat
noncomputable def mhd:List Mk->List Nat
 | []=>[]
 |u::_=>u.1
noncomputable def mbg(e:Nat):List Mk->Nat
 | []=>e
 |u::_=>u.2
noncomputable def isN(m:List Nat):Bool:=decide (m≠[])&&m.all isD&&(decide (m=[48]) ||decide (m.head?≠some 48))
noncomputable def isE(m:List Nat):Bool:=decide (m.length=1)&&m.all λc=>decide (48<=c)&&decide (c<=56)
inductive PSt |p0 |p1 |pm |pe |pn |px |pd
 deriving DecidableEq
noncomputable def PSt.opn:PSt->Bool
 |.p0 |.p1 |.pm |.pe=>true
 |_=>false
noncomputable def nxt(s:PSt)(m:List Nat):Option PSt:=match s with
 |.p0=>if isN m then some .pn else if m=[120]then some .px else if m=[45]then some .p1 else none
 |.p1=>if isN m then some .pn else if m=[120]then some .px else none
 |.pm=>if m=[120]then some .px else none
 |.pe=>if isE m then some .pd else none
 |.pn=>if m=[42]then some .pm else if m=[43]\/m=[45]then some .p1 else none
 |.px=>if m=[94]then some .pe else if m=[43]\/m=[45]then some .p1 else none
 |.pd=>if m=[43]\/m=[45]then some .p1 else none
structure Cfg where
 st:PSt
 row:Nat->Int
 sg:Int
 many:Int
 k:Nat
noncomputable def Cfg.fin(c:Cfg):Nat->Int:=λn=>c.row n+if n=c.k then c.sg*c.many else 0
noncomputable def Cfg.put(c:Cfg)(m:List Nat)(s:PSt):Cfg :=
 if m=[43]\/m=[45]then⟨s,c.fin,if m=[45]then -1 else 1,0,0⟩
 else if m=[120]then⟨s,c.row,c.sg,if c.st=.pm then c.many else 1,1⟩
 else if m=[42]\/m=[94]then{ c with st:=s }
 else if c.st=.pe then⟨s,c.row,c.sg,c.many,digitsVal m⟩
 else⟨s,c.row,c.sg,digitsVal m,c.k⟩
noncomputable def mgo(c:Cfg):List Mk->Cfg×List Mk
 | []=>(c,[])
 |u::us=>match nxt c.st u.1 with
  |none=>(c,u::us)
  |some s=>mgo (c.put u.1 s) us
noncomputable def aS:List Mk->List Mk ⊕ (Nat×List Mk)
 | []=>.inl []
 |u::us=>if u.1=[120]then(match us with
    | []=>.inr (1,[])
    |v::us2=>if v.1=[94]then(match us2 with
       | []=>.inl []
       |w::us3=>if isE w.1 then .inr (digitsVal w.1,us3)else .inl (w::us3))
     else .inr (1,v::us2))
  else .inl (u::us)
noncomputable def aX:List Mk->List Mk ⊕ (Nat×Nat×List Mk)
 | []=>.inl []
 |u::us=>if isN u.1 then(match us with
    | []=>.inr (digitsVal u.1,0,[])
    |v::us2=>if v.1=[42]then(match aS us2 with
       |.inl r=>.inl r
       |.inr (k,r)=>.inr (digitsVal u.1,k,r))
     else .inr (digitsVal u.1,0,v::us2))
  else(match aS (u::us)with
   |.inl r=>.inl r
   |.inr (k,r)=>.inr (1,k,r))
theorem Fs{m:List Nat}(h:isN m=true):m≠[120]/\m≠[43]/\m≠[45]/\m≠[42]/\m≠[94]:=by refine⟨?_,?_,?_,?_,?_⟩<;>(rintro rfl;exact absurd h (by decide))
theorem Fv{m:List Nat}(h:isE m=true):m≠[120]/\m≠[43]/\m≠[45]/\m≠[42]/\m≠[94]:=by refine⟨?_,?_,?_,?_,?_⟩<;>(rintro rfl;exact absurd h (by decide))
theorem ip{c:Cfg}{u:Mk}{us:List Mk}{s:PSt}(h:nxt c.st u.1=some s):mgo c (u::us)=mgo (c.put u.1 s) us:=by show(match nxt c.st u.1 with |none=>_ |some s=>_)=_;rw[h]
theorem oQ{c:Cfg}{u:Mk}{us:List Mk}(h:nxt c.st u.1=none):mgo c (u::us)=(c,u::us):=by show(match nxt c.st u.1 with |none=>_ |some s=>_)=_;rw[h]
def Bad(r:Cfg×List Mk):Prop:=r.1.st.opn=true
def Lft(s:PSt)(us:List Mk):Prop:=(s=.px/\mhd us≠[94])\/s=.pd
theorem q5{c:Cfg}{us:List Mk}(hs:c.st=.pm\/((c.st=.p1\/(c.st=.p0/\mhd us≠[45]))/\isN (mhd us)=false)) :
 (∀r,aS us=.inl r->Bad (mgo c us)/\(mgo c us).2=r)/\∀k r,aS us=.inr (k,r)->∃s,Lft s r/\k<=8/\mgo c us=mgo ⟨s,c.row,c.sg,if c.st=.pm then c.many else 1,k⟩ r:=by
 have hop:c.st.opn=true:=by rcases hs with h |⟨h |⟨h,_⟩,_⟩<;>rw[h]<;>rfl
 cases us with
 |nil =>refine⟨λr h=>?_,λk r h=>nomatch h⟩;cases h;exact⟨hop,rfl⟩
 |cons u us =>
  by_cases hu:u.1=[120]
  ·have hn:nxt c.st u.1=some .px:=by rw[hu];rcases hs with h |⟨h |⟨h,_⟩,_⟩<;>rw[h]<;>decide
   rw[ip hn]
   have hp:c.put u.1 .px=⟨.px,c.row,c.sg,if c.st=.pm then c.many else 1,1⟩:=by unfold Cfg.put;rw[hu,if_neg (by decide),if_pos rfl]
   rw[hp];show(∀r,(if u.1=[120]then _ else _)=Sum.inl r->_)/\_;cases us with
   |nil =>
    have e:aS [u]=.inr (1,[]):=by simp[aS,hu]
    refine⟨λr h=>?_,λk r h=>?_⟩
    ·rw[if_pos hu]at h;cases h
    ·rw[e]at h;cases h;exact⟨.px,.inl ⟨rfl,by decide⟩,by decide,rfl⟩
   |cons v us =>
    by_cases hv:v.1=[94]
    ·have hn2:nxt PSt.px v.1=some .pe:=by rw[hv];decide
     rw[ip (c:=⟨.px,c.row,c.sg,if c.st=.pm then c.many else 1,1⟩) hn2]
     have hp2:(⟨.px,c.row,c.sg,if c.st=.pm then c.many else 1,1⟩:Cfg).put v.1 .pe=⟨.pe,c.row,c.sg,if c.st=.pm then c.many else 1,1⟩:=by unfold Cfg.put;rw[hv,if_neg (by decide),if_neg (by decide),if_pos (by decide)]
     rw[hp2];cases us with
     |nil =>
      have e:aS [u,v]=.inl []:=by simp[aS,hu,hv]
      refine⟨λr h=>?_,λk r h=>?_⟩
      ·have h':aS [u,v]=.inl r:=h;rw[e]at h';cases h';exact⟨rfl,rfl⟩
      ·rw[e]at h;cases h
     |cons w us =>
      by_cases hw:isE w.1=true
      ·have e:aS (u::v::w::us)=.inr (digitsVal w.1,us):=by simp[aS,hu,hv,hw]
       have hn3:nxt PSt.pe w.1=some .pd:=by show(if isE w.1=true then _ else _)=_;rw[if_pos hw]
       obtain⟨x1,x2,x3,x4,x5⟩:=Fv hw;rw[ip (c:=⟨.pe,c.row,c.sg,if c.st=.pm then c.many else 1,1⟩) hn3]
       have hp3:(⟨.pe,c.row,c.sg,if c.st=.pm then c.many else 1,1⟩:Cfg).put w.1 .pd=⟨.pd,c.row,c.sg,if c.st=.pm then c.many else 1,digitsVal w.1⟩:=by unfold Cfg.put;rw[if_neg (by simp[x2,x3]),if_neg x1,if_neg (by simp[x4,x5]),if_pos rfl]
       rw[hp3];refine⟨λr h=>?_,λk r h=>?_⟩
       ·have h':aS (u::v::w::us)=.inl r:=h;rw[e]at h';cases h'
       ·rw[e]at h;cases h;refine⟨.pd,.inr rfl,?_,rfl⟩;obtain⟨m,n⟩:=w;dsimp only at hw ⊢
        match m,hw with
        | [a],hw =>
         unfold isE at hw
         simp at hw
         show 0*10+(a-48)<=8;omega
        | [],hw=>exact absurd hw (by decide)
        |a::b::m,hw =>
         unfold isE at hw
         simp at hw
      ·have e:aS (u::v::w::us)=.inl (w::us):=by simp[aS,hu,hv,hw]
       have hn3:nxt PSt.pe w.1=none:=by show(if isE w.1=true then _ else _)=_;rw[if_neg hw]
       rw[oQ (c:=⟨.pe,c.row,c.sg,if c.st=.pm then c.many else 1,1⟩) hn3];refine⟨λr h=>?_,λk r h=>?_⟩
       ·have h':aS (u::v::w::us)=.inl r:=h;rw[e]at h';cases h';exact⟨rfl,rfl⟩
       ·rw[e]at h;cases h
    ·have e:aS (u::v::us)=.inr (1,v::us):=by simp[aS,hu,hv]
     refine⟨λr h=>?_,λk r h=>?_⟩
     ·have h':aS (u::v::us)=.inl r:=h;rw[e]at h';cases h'
     ·rw[e]at h;cases h;exact⟨.px,.inl ⟨rfl,hv⟩,by decide,rfl⟩
  ·have e:aS (u::us)=.inl (u::us):=by simp[aS,hu]
   have hn:nxt c.st u.1=none:=by
    rcases hs with h |⟨h |⟨h,h3⟩,h2⟩
    ·rw[h];show(if u.1=[120]then _ else _)=_;rw[if_neg hu]
    ·have h2':¬isN u.1=true:=by have:isN u.1=false:=h2;rw[this];decide
     rw[h];show(if isN u.1=true then _ else _)=_;rw[if_neg h2',if_neg hu]
    ·have h2':¬isN u.1=true:=by have:isN u.1=false:=h2;rw[this];decide
     rw[h];show(if isN u.1=true then _ else _)=_;rw[if_neg h2',if_neg hu,if_neg (show ¬u.1=[45]from h3)]
   rw[oQ hn];refine⟨λr h=>?_,λk r h=>?_⟩
   ·rw[e]at h;cases h;exact⟨hop,rfl⟩
   ·rw[e]at h;cases h
def Lf2(s:PSt)(us:List Mk):Prop:=(s=.pn/\mhd us≠[42])\/Lft s us
theorem iO{c:Cfg}{us:List Mk}(hs:c.st=.p1\/(c.st=.p0/\mhd us≠[45]))(hk:c.k=0) :
 (∀r,aX us=.inl r->Bad (mgo c us)/\(mgo c us).2=r)/\∀n k r,aX us=.inr (n,k,r)->∃s,Lf2 s r/\k<=8/\mgo c us=mgo ⟨s,c.row,c.sg,n,k⟩ r:=by
 have hop:c.st.opn=true:=by rcases hs with h |⟨h,_⟩<;>rw[h]<;>rfl
 have hnm:c.st≠.pm:=by rcases hs with h |⟨h,_⟩<;>rw[h]<;>decide
 have hne:c.st≠.pe:=by rcases hs with h |⟨h,_⟩<;>rw[h]<;>decide
 cases us with
 |nil =>refine⟨λr h=>?_,λn k r h=>nomatch h⟩;cases h;exact⟨hop,rfl⟩
 |cons u us =>
  by_cases hu:isN u.1=true
  ·have hn:nxt c.st u.1=some .pn:=by rcases hs with h |⟨h,_⟩<;>rw[h]<;>(show(if isN u.1=true then _ else _)=_;rw[if_pos hu])
   obtain⟨x1,x2,x3,x4,x5⟩:=Fs hu;rw[ip hn]
   have hp:c.put u.1 .pn=⟨.pn,c.row,c.sg,digitsVal u.1,0⟩:=by unfold Cfg.put;rw[if_neg (by simp[x2,x3]),if_neg x1,if_neg (by simp[x4,x5]),if_neg hne,hk]
   rw[hp];cases us with
   |nil =>
    have e:aX [u]=.inr (digitsVal u.1,0,[]):=by simp[aX,hu]
    refine⟨λr h=>?_,λn k r h=>?_⟩
    ·rw[e]at h;cases h
    ·rw[e]at h;cases h;exact⟨.pn,.inl ⟨rfl,by decide⟩,by decide,rfl⟩
   |cons v us =>
    by_cases hv:v.1=[42]
    ·have hn2:nxt PSt.pn v.1=some .pm:=by rw[hv];decide
     rw[ip (c:=⟨.pn,c.row,c.sg,digitsVal u.1,0⟩) hn2]
     have hp2:(⟨.pn,c.row,c.sg,digitsVal u.1,0⟩:Cfg).put v.1 .pm=⟨.pm,c.row,c.sg,digitsVal u.1,0⟩:=by unfold Cfg.put;rw[hv,if_neg (by decide),if_neg (by decide),if_pos (by decide)]
     rw[hp2];have G:=q5 (c:=⟨.pm,c.row,c.sg,digitsVal u.1,0⟩) (us:=us) (.inl rfl)
     have e:aX (u::v::us)=match aS us with
      |.inl r=>.inl r
      |.inr (k,r)=>.inr (digitsVal u.1,k,r):=by
      simp only[aX,hu,hv,if_true]
     rw[e];cases hP:aS us with
     |inl r0 =>refine⟨λr h=>?_,λn k r h=>nomatch h⟩;cases h;exact G.1 _ hP
     |inr kr =>obtain⟨k0,r0⟩:=kr;refine⟨λr h=>(nomatch h),λn k r h=>?_⟩;cases h;obtain⟨s,hl,h8,e2⟩:=G.2 _ _ hP;exact⟨s,.inr hl,h8,e2⟩
    ·have e:aX (u::v::us)=.inr (digitsVal u.1,0,v::us):=by simp[aX,hu,hv]
     refine⟨λr h=>?_,λn k r h=>?_⟩
     ·rw[e]at h;cases h
     ·rw[e]at h;cases h;exact⟨.pn,.inl ⟨rfl,hv⟩,by decide,rfl⟩
  ·have hu':isN u.1=false:=by simpa using hu
   have G:=q5 (c:=c) (us:=u::us) (.inr ⟨hs,hu'⟩)
   have e:aX (u::us)=match aS (u::us)with
    |.inl r=>.inl r
    |.inr (k,r)=>.inr (1,k,r):=by
    show(if isN u.1=true then _ else _)=_;rw[if_neg hu]
   rw[e];cases hP:aS (u::us)with
   |inl r0 =>refine⟨λr h=>?_,λn k r h=>nomatch h⟩;cases h;exact G.1 _ hP
   |inr kr =>obtain⟨k0,r0⟩:=kr;refine⟨λr h=>(nomatch h),λn k r h=>?_⟩;cases h;obtain⟨s,hl,h8,e2⟩:=G.2 _ _ hP;rw[if_neg hnm]at e2;exact⟨s,.inr hl,h8,e2⟩
theorem o0{c:Cfg}{us:List Mk}(hl:Lf2 c.st us):(∀u r,us=u::r->(u.1=[43]\/u.1=[45])->mgo c us=mgo ⟨.p1,c.fin,if u.1=[45]then -1 else 1,0,0⟩ r)/\(mhd us≠[43]->mhd us≠[45]->mgo c us=(c,us)):=by
 have hst:c.st=.pn\/c.st=.px\/c.st=.pd:=by rcases hl with⟨h,_⟩ |⟨h,_⟩ |h<;>simp[h]
 refine⟨λu r e hu=>?_,λh1 h2=>?_⟩
 ·subst e
  have hn:nxt c.st u.1=some .p1:=by rcases hst with h |h |h<;>rw[h]<;>rcases hu with z |z<;>rw[z]<;>decide
  rw[ip hn];unfold Cfg.put;rw[if_pos hu]
 ·cases us with
  |nil=>rfl
  |cons u r =>
   refine oQ ?_;have h3:¬(u.1=[43]\/u.1=[45]):=by rintro(z |z);exact h1 z;exact h2 z
   rcases hl with⟨h,z⟩ |⟨h,z⟩ |h
   ·rw[h];show(if u.1=[42]then _ else _)=_;rw[if_neg (show ¬u.1=[42]from z),if_neg h3]
   ·rw[h];show(if u.1=[94]then _ else _)=_;rw[if_neg (show ¬u.1=[94]from z),if_neg h3]
   ·rw[h];show(if _ then _ else _)=_;rw[if_neg h3]
theorem si{s:PSt}{us:List Mk}(h:Lf2 s us):s.opn=false:=by rcases h with⟨h,_⟩ |⟨h,_⟩ |h<;>rw[h]<;>rfl
noncomputable def cfg0:Cfg:=⟨.p0,λ_=>0,1,0,0⟩
theorem ye{us:List Mk}{u:Mk}(h:u.1=[45]):mgo cfg0 (u::us)=mgo ⟨.p1,λ_=>0,-1,0,0⟩ us:=by
 have hn:nxt cfg0.st u.1=some .p1:=by rw[h];decide
 rw[ip hn];unfold Cfg.put;rw[if_pos (.inr h),if_pos h]
 congr 2
 funext n
 unfold Cfg.fin;show(0:Int)+(if n=0 then 1*0 else 0)=0;split<;>rfl
theorem ym:∀(m:List Nat) (a:Nat),(∀c∈m,isD c=true)->m.foldl (λacc c=>acc*10+(c-48)) a<(a+1)*10^m.length
 | [],a,_=>by show a<(a+1)*1;omega
 |c::m,a,h=>by
  have h2:isD c=true:=h c (by simp);unfold isD at h2
  simp at h2
  have:=ym m (a*10+(c-48)) λx hx=>h x (by simp[hx])
  rw[K0,J4,KM];refine J9 this ?_;rw[show(a+1)*(10^m.length*10)=((a+1)*10)*10^m.length by rw[Nat.mul_assoc,Nat.mul_comm (10^m.length) 10]];exact Nat.mul_le_mul_right _ (by omega)
theorem Hk(m:List Nat)(h:∀c∈m,isD c=true):digitsVal m<10^m.length:=by have:=ym m 0 h;rw[Nat.zero_add,Nat.one_mul]at this;exact this
theorem wv{us r:List Mk}{k:Nat}(h:aS us=.inr (k,r)):k<=8:=by obtain⟨s,_,h8,_⟩:=(q5 (c:=⟨.pm,λ_=>0,1,0,0⟩) (us:=us) (.inl rfl)).2 k r h;exact h8
theorem o7{m:List Nat}(h:isN m=true):∀c∈m,isD c=true:=by
 unfold isN at h
 simp only[Kf]at h;exact Kp.mp h.1.2
theorem Fw{m:List Nat}(h:isE m=true):m≠[]/\∀c∈m,isD c=true:=by
 refine⟨?_,?_⟩
 ·rintro rfl;exact absurd h (by decide)
 ·unfold isE at h
  simp only[Kf]at h;intro c hc;have:=Kp.mp h.2 c hc;simp only[Kf,decide_eq_true_eq]at this;unfold isD;simp only[Kf,decide_eq_true_eq];omega
theorem nM{m:List Nat}(h:∀c∈m,isD c=true)(hn:m≠[])(hl:m.length<=4300):PySem.intText? (stL m)=some ((digitsVal m:Nat):Int):=by
 have hd:AllDigits (stL m).cps.toList:=λc hc=>by
  rw[jM]at hc;have:=h c hc;unfold isD at this
  simpa using this
 have e:=intText_digits hd (by rw[jM];exact hn) (by rw[ah];exact hl);rw[jM]at e;exact e
theorem dv_bits{m:List Nat}(h:∀c∈m,isD c=true)(hl:m.length<=300):digitsVal m<2^1000:=by
 have h1:=Hk m h;have h2:10^m.length<=10^300:=Lb (by decide) hl;have h3:10^300<2^1000:=by decide +kernel
 omega
theorem wu{us r:List Mk}{k:Nat}(h:aS us=.inr (k,r)):r.length<us.length:=by
 unfold aS at h
 split at h
 ·cases h
 ·split at h
  ·split at h
   ·cases h;simp
   ·split at h
    ·split at h
     ·cases h
     ·split at h
      ·cases h;simp;omega
      ·cases h
    ·cases h;simp
  ·cases h
theorem BY{us r:List Mk}{n k:Nat}(h:aX us=.inr (n,k,r)):r.length<us.length:=by
 cases us with
 |nil=>cases h
 |cons u us =>
  by_cases hu:isN u.1=true
  ·cases us with
   |nil =>rw[show aX [u]=.inr (digitsVal u.1,0,[]) by simp[aX,hu]]at h;cases h;simp
   |cons v us =>
    by_cases hv:v.1=[42]
    ·cases hP:aS us with
     |inl r0 =>rw[show aX (u::v::us)=.inl r0 by simp only[aX,hu,hv,if_true,hP]]at h;cases h
     |inr kr =>obtain⟨k0,r0⟩:=kr;rw[show aX (u::v::us)=.inr (digitsVal u.1,k0,r0) by simp only[aX,hu,hv,if_true,hP]]at h;cases h;have:=wu hP;simp only[J4];omega
    ·rw[show aX (u::v::us)=.inr (digitsVal u.1,0,v::us) by simp[aX,hu,hv]]at h;cases h;simp
  ·cases hP:aS (u::us)with
   |inl r0 =>
    have e:aX (u::us)=.inl r0:=by show(if isN u.1=true then _ else _)=_;rw[if_neg hu,hP]
    rw[e]at h;cases h
   |inr kr =>
    obtain⟨k0,r0⟩:=kr
    have e:aX (u::us)=.inr (1,k0,r0):=by show(if isN u.1=true then _ else _)=_;rw[if_neg hu,hP]
    rw[e]at h;cases h;exact wu hP
inductive PT where
 |whole (n:Nat) |named (w:List Nat) |given (kp:List Int) (l h:Int×Int)
 |minus (t:PT) |power (t:PT) (k:Nat) |rooted (t:PT) (k:Nat)
 |sum (a b:PT) |less (a b:PT) |times (a b:PT) |over (a b:PT)
abbrev Res(α:Type):=List Mk ⊕ (α×List Mk)
noncomputable def wSqrt:List Nat:=[115,113,114,116]
noncomputable def wCbrt:List Nat:=[99,98,114,116]
noncomputable def wRoot:List Nat:=[114,111,111,116]
noncomputable def cS(m:List Nat):Bool:=decide (m≠[])&&m.all isA&&decide (m.length<=8)&&!decide (m∈[[120],wSqrt,wCbrt,wRoot])
noncomputable def cZ(c:Cfg):List Int:=trim ((List.range 9).map c.fin)
noncomputable def gH(us:List Mk):Res (List Int):=if(mgo cfg0 us).1.st.opn then .inl (mgo cfg0 us).2 else .inr (cZ (mgo cfg0 us).1,(mgo cfg0 us).2)
noncomputable def dm(us:List Mk):Res Nat:=if isN (mhd us)then .inr (digitsVal (mhd us),us.tail)else .inl us
noncomputable def dn(t:Int)(us:List Mk):Res (Int×Int):=if mhd us=[47]then(if mhd us.tail=[48]then .inl us.tail else match dm us.tail with
    |.inl r=>.inl r
    |.inr (m,r)=>.inr ((t,(m:Int)),r))
 else .inr ((t,1),us)
noncomputable def gG(sg:Int)(us:List Mk):Res (Int×Int):=match dm us with
 |.inl r=>.inl r
 |.inr (n,r)=>dn (sg*(n:Int)) r
noncomputable def bK(us:List Mk):Res (Int×Int):=if mhd us=[45]then gG (-1) us.tail else gG 1 us
noncomputable def bo{α:Type}(m:List Nat)(us:List Mk)(k:List Mk->Res α):Res α:=if mhd us=m then k us.tail else .inl us
noncomputable def aQ{α β:Type}(r:Res α)(k:α->List Mk->Res β):Res β:=match r with
 |.inl x=>.inl x
 |.inr (a,us)=>k a us
noncomputable def bP(ok:Bool)(us:List Mk):Res PT:=if ok then bo [40] us λu1=>aQ (gH u1) λkp u2=>bo [44] u2 λu3=>aQ (bK u3) λl u4=>bo [46,46] u4 λu5=>aQ (bK u5) λh u6=>bo [41] u6 λu7=>.inr (.given kp l h,u7)else .inl us
noncomputable def pBr(S:Option (List Mk->Res PT))(us:List Mk):Res PT:=match S with
 |none=>.inl us
 |some S=>bo [40] us λu1=>aQ (S u1) λt u2=>bo [41] u2 λu3=>.inr (t,u3)
noncomputable def bz(S:Option (List Mk->Res PT))(us:List Mk):Res PT :=
 if isN (mhd us)then .inr (.whole (digitsVal (mhd us)),us.tail)
 else if cS (mhd us)then .inr (.named (mhd us),us.tail)
 else if mhd us=wSqrt then aQ (pBr S us.tail) λt r=>.inr (.rooted t 2,r)
 else if mhd us=wCbrt then aQ (pBr S us.tail) λt r=>.inr (.rooted t 3,r)
 else if mhd us=wRoot then bP S.isSome us.tail
 else pBr S us
noncomputable def gI(t:PT)(us:List Mk):Res PT:=if mhd us=[94]then(if isE (mhd us.tail)then .inr (.power t (digitsVal (mhd us.tail)),us.tail.tail)else .inl us.tail)else .inr (t,us)
noncomputable def cp(S:Option (List Mk->Res PT))(us:List Mk):Res PT:=aQ (bz S us) gI
noncomputable def bg(S:Option (List Mk->Res PT))(us:List Mk):Res PT:=if mhd us=[45]then aQ (cp S us.tail) λt r=>.inr (.minus t,r)else cp S us
noncomputable def aZ(F:List Mk->Res PT)(a b:List Nat)(f g:PT->PT->PT):Nat->PT->List Mk->Res PT
 |0,t,us=>.inr (t,us)
 |n+1,t,us=>if mhd us=a then aQ (F us.tail) λt2 r=>aZ F a b f g n (f t t2) r
  else if mhd us=b then aQ (F us.tail) λt2 r=>aZ F a b f g n (g t t2) r
  else .inr (t,us)
noncomputable def aY(S:Option (List Mk->Res PT))(us:List Mk):Res PT:=aQ (bg S us) λt r=>aZ (bg S) [42] [47] .times .over r.length t r
noncomputable def cn(S:Option (List Mk->Res PT))(us:List Mk):Res PT:=aQ (aY S us) λt r=>aZ (aY S) [43] [45] .sum .less r.length t r
noncomputable def pS:Nat->List Mk->Res PT
 |0=>cn none
 |n+1=>cn (some (pS n))
def Sh{α:Type}(us:List Mk)(r:Res α):Prop:=∀a x,r=.inr (a,x)->x.length<us.length
def Le{α:Type}(us:List Mk)(r:Res α):Prop:=∀a x,r=.inr (a,x)->x.length<=us.length
theorem mD{us:List Mk}(h:mhd us≠[]):us.tail.length<us.length:=by
 cases us with
 |nil=>exact absurd rfl h
 |cons u us=>simp
theorem jS{α:Type}{m:List Nat}{us:List Mk}{k:List Mk->Res α}(hm:m≠[])(h:Le us.tail (k us.tail)):Sh us (bo m us k):=λa x e=>by
 unfold bo at e
 split at e
 ·rename_i hh
  have h1:=h a x e;have h2:=mD (us:=us) (by rw[hh];exact hm);omega
 ·cases e
theorem gM{α β:Type}{us:List Mk}{r:Res α}{k:α->List Mk->Res β}(h1:Le us r)(h2:∀a x,Le x (k a x)):Le us (aQ r k):=λb y e=>by
 unfold aQ at e
 split at e
 ·cases e
 ·rename_i a x
  have:=h1 a x rfl;have:=h2 a x b y e;omega
theorem qQ{α β:Type}{us:List Mk}{r:Res α}{k:α->List Mk->Res β}(h1:Sh us r)(h2:∀a x,Le x (k a x)):Sh us (aQ r k):=λb y e=>by
 unfold aQ at e
 split at e
 ·cases e
 ·rename_i a x
  have:=h1 a x rfl;have:=h2 a x b y e;omega
theorem Sh.le{α:Type}{us:List Mk}{r:Res α}(h:Sh us r):Le us r:=λa x e=>Nat.le_of_lt (h a x e)
theorem eE{α:Type}{us:List Mk}{a:α}:Le us (.inr (a,us):Res α):=λb x e=>by cases e;exact J3 _
theorem vt(us:List Mk):us.tail.length<=us.length:=by cases us<;>simp
theorem mM{α:Type}{us:List Mk}{r:Res α}(h:Le us.tail r):Le us r:=λa x e=>J7 (h a x e) (vt us)
theorem EO{α:Type}{us v:List Mk}:Le us (.inl v:Res α):=λa x e=>by cases e
theorem vP(us:List Mk):Sh us (dm us):=λa x e=>by
 unfold dm at e
 split at e
 ·rename_i h
  cases e;exact mD λz=>by rw[z]at h;exact absurd h (by decide)
 ·cases e
theorem wY:∀(us:List Mk) (c:Cfg),(mgo c us).2.length<=us.length
 | [],c=>J3 _
 |u::us,c=>by
  cases h:nxt c.st u.1 with
  |none=>rw[oQ h];exact J3 _
  |some s=>rw[ip h];exact Nat.le_succ_of_le (wY us _)
theorem EM(us:List Mk):Le us (gH us):=λa x e=>by
 unfold gH at e
 split at e
 ·cases e
 ·cases e;exact wY us cfg0
theorem EN(t:Int)(us:List Mk):Le us (dn t us):=λa x e=>by
 unfold dn at e
 split at e
 ·split at e
  ·cases e
  ·split at e
   ·cases e
   ·rename_i m r hw
    cases e;have:=vP us.tail _ _ hw;have:=vt us;omega
 ·cases e;exact J3 _
theorem xq(us:List Mk):Le us (bK us):=by
 have top:∀(sg:Int) (v:List Mk),Le v (gG sg v):=λsg v a x e=>by
  unfold gG at e
  split at e
  ·cases e
  ·rename_i n r hw
   have:=vP v _ _ hw;have:=EN _ r a x e;omega
 unfold bK;split
 ·exact mM (top _ _)
 ·exact top _ _
theorem Ai(ok:Bool)(us:List Mk):Sh us (bP ok us):=by
 unfold bP;split
 ·refine jS (by decide) (gM (EM _) λkp x=>(jS (by decide) (gM (xq _) λl y=>(jS (by decide) (gM (xq _) λh z=>(jS (by decide) eE).le)).le)).le)
 ·exactλa x e=>by cases e
theorem qP{S:Option (List Mk->Res PT)}(hS:∀F,S=some F->∀us,Sh us (F us))(us:List Mk):Sh us (pBr S us):=by
 unfold pBr;cases S with
 |none=>exactλa x e=>by cases e
 |some F=>exact jS (by decide) (gM (hS F rfl _).le λt x=>(jS (by decide) eE).le)
theorem Aj{S:Option (List Mk->Res PT)}(hS:∀F,S=some F->∀us,Sh us (F us))(us:List Mk):Sh us (bz S us):=by
 have tl:∀{r:Res PT},mhd us≠[]->Le us.tail r->Sh us r:=λ{r} h1 h2 a x e=>by have:=h2 a x e;have:=mD h1;omega
 unfold bz;split
 ·rename_i h
  exact tl (λz=>by rw[z]at h;exact absurd h (by decide)) eE
 split
 ·rename_i h
  exact tl (λz=>by rw[z]at h;exact absurd h (by decide)) eE
 split
 ·rename_i h
  exact tl (by rw[h];decide) (gM (qP hS _).le λ_ _=>eE)
 split
 ·rename_i h
  exact tl (by rw[h];decide) (gM (qP hS _).le λ_ _=>eE)
 split
 ·rename_i h
  exact tl (by rw[h];decide) (Ai _ _).le
 ·exact qP hS us
theorem mf{S:Option (List Mk->Res PT)}(hS:∀F,S=some F->∀us,Sh us (F us))(us:List Mk):Sh us (bg S us):=by
 have hp:∀v,Sh v (cp S v):=λv=>qQ (Aj hS v) λt x=>by
  unfold gI;split
  ·split
   ·exact mM (mM eE)
   ·exact EO
  ·exact eE
 unfold bg;split
 ·rename_i h
  refineλa x e=>?_
  have h1:=gM (hp us.tail).le (λt r=>eE (a:=PT.minus t) (us:=r)) a x e;have h2:=mD (us:=us) (by rw[h];decide);omega
 ·exact hp us
theorem o3{F:List Mk->Res PT}(hF:∀us,Sh us (F us))(a b:List Nat)(f g:PT->PT->PT):∀(n:Nat) (t:PT) (us:List Mk),Le us (aZ F a b f g n t us)
 |0,t,us=>eE
 |n+1,t,us=>by
  unfold aZ;split
  ·exact mM (gM (hF _).le λt2 r=>o3 hF a b f g n _ r)
  split
  ·exact mM (gM (hF _).le λt2 r=>o3 hF a b f g n _ r)
  ·exact eE
theorem me{S:Option (List Mk->Res PT)}(hS:∀F,S=some F->∀us,Sh us (F us))(us:List Mk):Sh us (aY S us):=qQ (mf hS us) λt r=>o3 (mf hS) _ _ _ _ _ t r
theorem vQ{S:Option (List Mk->Res PT)}(hS:∀F,S=some F->∀us,Sh us (F us))(us:List Mk):Sh us (cn S us):=qQ (me hS us) λt r=>o3 (me hS) _ _ _ _ _ t r
theorem vR:∀(n:Nat) (us:List Mk),Sh us (pS n us)
 |0,us=>vQ (S:=none) (λF h=>by cases h) us
 |n+1,us=>vQ (λF h=>by cases h;exact vR n) us
theorem mJ{F:List Mk->Res PT}(hF:∀us,Sh us (F us))(a b:List Nat)(f g:PT->PT->PT)(ha:a≠[])(hb:b≠[]):∀(n m:Nat) (t:PT) (us:List Mk),us.length<=n->us.length<=m->aZ F a b f g n t us=aZ F a b f g m t us
 |0,m,t,us,hn,hm=>by
  have:us=[]:=Ld.mp (by omega);subst this;cases m with
  |zero=>rfl
  |succ m =>unfold aZ;rw[if_neg (λz=>ha z.symm),if_neg (λz=>hb z.symm)]
 |n+1,0,t,us,hn,hm=>by have:us=[]:=Ld.mp (by omega);subst this;show(if mhd []=a then _ else if mhd []=b then _ else _)=_;rw[if_neg (λz=>ha z.symm),if_neg (λz=>hb z.symm)];rfl
 |n+1,m+1,t,us,hn,hm=>by
  have key:∀(h:PT->PT->PT),mhd us≠[]->aQ (F us.tail) (λt2 r=>aZ F a b f g n (h t t2) r)=aQ (F us.tail) (λt2 r=>aZ F a b f g m (h t t2) r):=λh hne=>by
   have h1:=mD hne;cases e:F us.tail with
   |inl x=>rfl
   |inr y =>obtain⟨t2,r⟩:=y;have h2:=hF us.tail t2 r e;exact mJ hF a b f g ha hb n m (h t t2) r (by omega) (by omega)
  show(if mhd us=a then _ else if mhd us=b then _ else _)=(if mhd us=a then _ else if mhd us=b then _ else _);by_cases h1:mhd us=a
  ·rw[if_pos h1,if_pos h1];exact key f (by rw[h1];exact ha)
  ·rw[if_neg h1,if_neg h1];by_cases h2:mhd us=b
   ·rw[if_pos h2,if_pos h2];exact key g (by rw[h2];exact hb)
   ·rw[if_neg h2,if_neg h2]
noncomputable def So:Nat->Option (List Mk->Res PT)
 |0=>none
 |n+1=>some (pS n)
theorem rc:∀n,pS n=cn (So n)
 |0=>rfl
 |n+1=>rfl
theorem lR(n:Nat):∀F,So n=some F->∀us,Sh us (F us):=λF h us=>by
 cases n with
 |zero=>cases h
 |succ n=>cases h;exact vR n us
theorem mK{F:List Mk->Res PT}{a b:List Nat}{f g:PT->PT->PT}{t:PT}{us:List Mk}(h1:mhd us≠a)(h2:mhd us≠b):∀{n:Nat},aZ F a b f g n t us=.inr (t,us)
 |0=>rfl
 |n+1=>by unfold aZ;rw[if_neg h1,if_neg h2]
theorem xl{F:List Mk->Res PT}{a b:List Nat}{f g:PT->PT->PT}{t t2:PT}{u:Mk}{us r:List Mk}(h:u.1=a)(e:F us=.inr (t2,r)):aZ F a b f g (u::us).length t (u::us)=aZ F a b f g us.length (f t t2) r:=by show(if mhd (u::us)=a then aQ (F us) _ else _)=_;rw[if_pos (show mhd (u::us)=a from h),e];rfl
theorem xk{F:List Mk->Res PT}{a b:List Nat}{f g:PT->PT->PT}{t t2:PT}{u:Mk}{us r:List Mk}(hn:a≠b)(h:u.1=b)(e:F us=.inr (t2,r)):aZ F a b f g (u::us).length t (u::us)=aZ F a b f g us.length (g t t2) r:=by show(if mhd (u::us)=a then _ else if mhd (u::us)=b then aQ (F us) _ else _)=_;rw[if_neg (λz=>hn (z.symm.trans h)),if_pos (show mhd (u::us)=b from h),e];rfl
structure Rd(n r:Nat)(us:List Mk)(t:PT):Prop where
 r4:4<=r->∀rest,bz (So n) (us++rest)=.inr (t,rest)
 r3:3<=r->∀rest,mhd rest≠[94]->cp (So n) (us++rest)=.inr (t,rest)
 r2:2<=r->∀rest,mhd rest≠[94]->bg (So n) (us++rest)=.inr (t,rest)
 r1:1<=r->∀rest,mhd rest≠[94]->aY (So n) (us++rest)=aZ (bg (So n)) [42] [47] .times .over rest.length t rest
 r0:∀rest,mhd rest≠[94]->mhd rest≠[42]->mhd rest≠[47]->cn (So n) (us++rest)=aZ (aY (So n)) [43] [45] .sum .less rest.length t rest
theorem wX{us:List Mk}(h:us≠[])(rest:List Mk):mhd (us++rest)=mhd us:=by
 cases us with
 |nil=>exact absurd rfl h
 |cons u us=>rfl
theorem Bi{n:Nat}{us:List Mk}{t:PT}(h:∀rest,mhd rest≠[94]->mhd rest≠[42]->mhd rest≠[47]->cn (So n) (us++rest)=aZ (aY (So n)) [43] [45] .sum .less rest.length t rest):Rd n 0 us t:=⟨λz=>absurd z (by omega),λz=>absurd z (by omega),λz=>absurd z (by omega),λz=>absurd z (by omega),h⟩
theorem up1{n:Nat}{us:List Mk}{t:PT}(h:∀rest,mhd rest≠[94]->aY (So n) (us++rest)=aZ (bg (So n)) [42] [47] .times .over rest.length t rest):∀rest,mhd rest≠[94]->mhd rest≠[42]->mhd rest≠[47]->cn (So n) (us++rest)=aZ (aY (So n)) [43] [45] .sum .less rest.length t rest:=λrest h1 h2 h3=>by unfold cn;rw[h rest h1,mK h2 h3];rfl
theorem Bh{n:Nat}{us:List Mk}{t:PT}(h:∀rest,mhd rest≠[94]->aY (So n) (us++rest)=aZ (bg (So n)) [42] [47] .times .over rest.length t rest):Rd n 1 us t:=⟨λz=>absurd z (by omega),λz=>absurd z (by omega),λz=>absurd z (by omega),λ_=>h,up1 h⟩
theorem up2{n:Nat}{us:List Mk}{t:PT}(h:∀rest,mhd rest≠[94]->bg (So n) (us++rest)=.inr (t,rest)):∀rest,mhd rest≠[94]->aY (So n) (us++rest)=aZ (bg (So n)) [42] [47] .times .over rest.length t rest:=λrest h1=>by unfold aY;rw[h rest h1];rfl
theorem Bg{n:Nat}{us:List Mk}{t:PT}(h:∀rest,mhd rest≠[94]->bg (So n) (us++rest)=.inr (t,rest)):Rd n 2 us t:=⟨λz=>absurd z (by omega),λz=>absurd z (by omega),λ_=>h,λ_=>up2 h,up1 (up2 h)⟩
theorem up3{n:Nat}{us:List Mk}{t:PT}(hu:us≠[])(hm:mhd us≠[45])(h:∀rest,mhd rest≠[94]->cp (So n) (us++rest)=.inr (t,rest)):∀rest,mhd rest≠[94]->bg (So n) (us++rest)=.inr (t,rest):=λrest h1=>by unfold bg;rw[if_neg (by rw[wX hu];exact hm)];exact h rest h1
theorem Bf{n:Nat}{us:List Mk}{t:PT}(hu:us≠[])(hm:mhd us≠[45])(h:∀rest,mhd rest≠[94]->cp (So n) (us++rest)=.inr (t,rest)):Rd n 3 us t:=⟨λz=>absurd z (by omega),λ_=>h,λ_=>up3 hu hm h,λ_=>up2 (up3 hu hm h),up1 (up2 (up3 hu hm h))⟩
theorem up4{n:Nat}{us:List Mk}{t:PT}(h:∀rest,bz (So n) (us++rest)=.inr (t,rest)):∀rest,mhd rest≠[94]->cp (So n) (us++rest)=.inr (t,rest):=λrest h1=>by unfold cp;rw[h rest];show gI t rest=_;unfold gI;rw[if_neg h1]
theorem lf{n:Nat}{us:List Mk}{t:PT}(hu:us≠[])(hm:mhd us≠[45])(h:∀rest,bz (So n) (us++rest)=.inr (t,rest)):Rd n 4 us t:=⟨λ_=>h,λ_=>up4 h,λ_=>up3 hu hm (up4 h),λ_=>up2 (up3 hu hm (up4 h)),up1 (up2 (up3 hu hm (up4 h)))⟩
theorem GR(n:Nat):∀us,Sh us (bg (So n) us):=mf (lR n)
theorem BD(n:Nat):∀us,Sh us (aY (So n) us):=me (lR n)
theorem Rd.prod{n r:Nat}{us:List Mk}{t:PT}(h:Rd n r us t)(hr:1<=r)(rest:List Mk)(h1:mhd rest≠[94])(h2:mhd rest≠[42])(h3:mhd rest≠[47]):aY (So n) (us++rest)=.inr (t,rest):=by rw[h.r1 hr rest h1,mK h2 h3]
theorem Bd{n r s:Nat}{us vs:List Mk}{t x:PT}{u:Mk}{f:PT->PT->PT}(hu:(u.1=[42]/\f=.times)\/(u.1=[47]/\f=.over))(h1:Rd n r us t)(hr:1<=r)(h2:Rd n s vs x)(hs:2<=s):Rd n 1 (us++u::vs) (f t x):=Bh λrest hn=>by
 have e2:=h2.r2 hs rest hn;rw[J5,Kg,h1.r1 hr _ (by show u.1≠[94];rcases hu with h |h<;>rw[h.1]<;>decide)]
 have e3:aZ (bg (So n)) [42] [47] .times .over (u::(vs++rest)).length t (u::(vs++rest))=aZ (bg (So n)) [42] [47] .times .over (vs++rest).length (f t x) rest:=by
  rcases hu with⟨h,rfl⟩ |⟨h,rfl⟩
  ·exact xl h e2
  ·exact xk (by decide) h e2
 rw[e3];exact mJ (GR n) _ _ _ _ (by decide) (by decide) _ _ _ _ (by rw[J2];omega) (J3 _)
theorem Be{n r s:Nat}{us vs:List Mk}{t x:PT}{u:Mk}{f:PT->PT->PT}(hu:(u.1=[43]/\f=.sum)\/(u.1=[45]/\f=.less))(h1:Rd n r us t)(h2:Rd n s vs x)(hs:1<=s):Rd n 0 (us++u::vs) (f t x):=Bi λrest hn hm hd=>by
 have e2:=h2.prod hs rest hn hm hd;have hu':u.1≠[94]/\u.1≠[42]/\u.1≠[47]:=by rcases hu with h |h<;>rw[h.1]<;>decide
 rw[J5,Kg,h1.r0 (u::(vs++rest)) hu'.1 hu'.2.1 hu'.2.2]
 have e3:aZ (aY (So n)) [43] [45] .sum .less (u::(vs++rest)).length t (u::(vs++rest))=aZ (aY (So n)) [43] [45] .sum .less (vs++rest).length (f t x) rest:=by
  rcases hu with⟨h,rfl⟩ |⟨h,rfl⟩
  ·exact xl h e2
  ·exact xk (by decide) h e2
 rw[e3];exact mJ (BD n) _ _ _ _ (by decide) (by decide) _ _ _ _ (by rw[J2];omega) (J3 _)
theorem qT{n r:Nat}{us:List Mk}{t:PT}{u v:Mk}(hu:u.1=[40])(hv:v.1=[41])(h:Rd n r us t)(rest:List Mk):pBr (So (n+1)) (u::(us++v::rest))=.inr (t,rest):=by show bo [40] (u::(us++v::rest)) (λu1=>aQ (pS n u1) λt u2=>bo [41] u2 λu3=>.inr (t,u3))=_;unfold bo;rw[if_pos (show mhd (u::(us++v::rest))=[40]from hu)];show aQ (pS n (us++v::rest)) _=_;have hm:mhd (v::rest)=[41]:=hv;rw[rc,h.r0 _ (by rw[hm];decide) (by rw[hm];decide) (by rw[hm];decide),mK (by rw[hm];decide) (by rw[hm];decide)];show(if mhd (v::rest)=[41]then _ else _)=_;rw[if_pos hm];rfl
theorem IN{S:Option (List Mk->Res PT)}{u:Mk}{us:List Mk}(h:u.1=[40]):bz S (u::us)=pBr S (u::us):=by unfold bz;rw[show mhd (u::us)=[40]from h,if_neg (by decide),if_neg (by decide),if_neg (by decide),if_neg (by decide),if_neg (by decide)]
theorem IJ{S:Option (List Mk->Res PT)}{u:Mk}{us:List Mk}(h:u.1=wSqrt):bz S (u::us)=aQ (pBr S us) λt r=>.inr (.rooted t 2,r):=by unfold bz;rw[show mhd (u::us)=wSqrt from h,if_neg (by decide),if_neg (by decide),if_pos rfl];rfl
theorem IR{S:Option (List Mk->Res PT)}{u:Mk}{us:List Mk}(h:u.1=wCbrt):bz S (u::us)=aQ (pBr S us) λt r=>.inr (.rooted t 3,r):=by unfold bz;rw[show mhd (u::us)=wCbrt from h,if_neg (by decide),if_neg (by decide),if_neg (by decide),if_pos rfl];rfl
theorem IK{S:Option (List Mk->Res PT)}{u:Mk}{us:List Mk}(h:u.1=wRoot):bz S (u::us)=bP S.isSome us:=by unfold bz;rw[show mhd (u::us)=wRoot from h,if_neg (by decide),if_neg (by decide),if_neg (by decide),if_neg (by decide),if_pos rfl];rfl
noncomputable def kc(c:Nat):Nat:=if isD c then 1 else if isA c then 2 else if c=46 then 3 else 0
noncomputable def kdm(m:List Nat):Nat:=match m with
 | []=>0
 |c::_=>kc c
theorem F0{a b:Nat}(h:glu a b=true):kc a=kc b/\kc a≠0:=by
 unfold glu at h
 unfold kc;simp only[Lc,Kf,decide_eq_true_eq]at h;rcases h with(h |h) |h
 ·rw[h.1,h.2];exact⟨rfl,by rw[if_pos rfl];decide⟩
 ·have d:∀{c},isA c=true->isD c=false:=λ{c} hc=>by
   unfold isA at hc;unfold isD
   simp only[Kf,decide_eq_true_eq]at hc;rw[decide_eq_false (show ¬c<=57 by omega),Bool.and_false]
  rw[h.1,h.2,d h.1,d h.2];exact⟨rfl,λz=>by cases z⟩
 ·rw[h.1,h.2];decide
structure WfK(m:List Nat):Prop where
 wf:WfM m
 on:∀c∈m,kc c=kdm m
def Apt(a b:List Nat):Prop:=kdm a=0\/kdm b=0\/kdm a≠kdm b
theorem DK{a b:List Nat}(ha:WfK a)(h:Apt a b):iH a b:=λx y hx hy=>by
 cases e:glu x y with
 |false=>rfl
 |true =>
  obtain⟨h1,h2⟩:=F0 e;have h3:=ha.on x (List.mem_of_getLast? hx)
  have h4:kdm b=kc y:=by
   cases b with
   |nil=>cases hy
   |cons z b=>cases hy;rfl
  rcases h with h |h |h
  ·exact absurd (h3.trans h) h2
  ·exact absurd (h1.trans (h4.symm.trans h)) h2
  ·exact absurd (h3.symm.trans (h1.trans h4.symm)) h
noncomputable def Sp:List (List Nat)->Prop
 | []=>True
 | [_]=>True
 |a::b::r=>Apt a b/\Sp (b::r)
theorem fN{a:List Nat}{r:List (List Nat)}(h:kdm a=0)(hr:Sp r):Sp (a::r):=by
 cases r with
 |nil=>trivial
 |cons b r=>exact⟨.inl h,hr⟩
theorem iQ{s:List Nat}(hs:kdm s=0):∀{a b:List (List Nat)},Sp a->Sp b->Sp (a++s::b)
 | [],b,_,hb=>fN hs hb
 | [x],b,_,hb=>⟨.inr (.inl hs),fN hs hb⟩
 |x::y::r,b,ha,hb=>⟨ha.1,iQ hs (a:=y::r) ha.2 hb⟩
theorem mT(n:Nat):isN (al n)=true:=by
 have h1:=ik n;have h2:=gK n;unfold isN;rw[decide_eq_true h1,Kp.mpr h2];by_cases h:n=0
 ·subst h;decide +kernel
 ·obtain⟨c,r,e,hc⟩:=wF n n (J3 _) (by omega);rw[e,decide_eq_true (show(c::r).head?≠some 48 fromλz=>hc (by injection z)),Bool.or_true];rfl
theorem lK(n:Nat)(h:(al n).length<=4300):digitsVal (al n)=n:=by
 have h1:=DF n h;rw[nM (gK n) (ik n) h]at h1
 injection h1 with h1
 exact Int.ofNat.inj h1
theorem pO(n:Nat):WfK (al n):=⟨zj n,λc hc=>by
 obtain⟨x,r,e⟩:=Kq (ik n);have h1:=gK n c hc;have h2:=gK n x (by rw[e];simp);rw[e];show kc c=kc x
 unfold kc;rw[h1,h2];rfl⟩
theorem sk(n:Nat):kdm (al n)=1:=by obtain⟨x,r,e⟩:=Kq (ik n);have h2:=gK n x (by rw[e];simp);rw[e];show kc x=1;unfold kc;rw[h2];rfl
theorem vn{p:Nat->Bool}:∀{l:List Nat},(∀c∈l,p c=true)->l.takeWhile p=l
 | [],_=>rfl
 |x::l,h=>by rw[KH,if_pos (h x (by simp)),vn λc hc=>h c (by simp[hc])]
theorem lU{m:List Nat}(hn:m≠[])(h:∀c∈m,isA c=true):WfK m:=by
 have d:∀{c},isA c=true->isD c=false:=λ{c} hc=>by
  unfold isA at hc;unfold isD
  simp only[Kf,decide_eq_true_eq]at hc;rw[decide_eq_false (show ¬c<=57 by omega),Bool.and_false]
 obtain⟨x,r,rfl⟩:=Kq hn;have hx:=h x (by simp);refine⟨⟨hn,λc hc=>?_,λz=>?_,?_⟩,λc hc=>?_⟩
 ·have:=h c hc;unfold isA at this
  simp only[Kf,decide_eq_true_eq]at this;omega
 ·injection z with z
  rw[z]at hx;exact absurd hx (by decide)
 ·rw[fU,d hx,if_neg (by decide),if_pos hx,vn h]
 ·show kc c=kc x;unfold kc;rw[h c hc,hx,d (h c hc),d hx];rfl
def n5(x:Int×Int):Prop:=x.2≠0/\x.1.natAbs<2^64/\x.2.natAbs<2^64
noncomputable def PT.ok:PT->Prop
 |.whole _=>True |.named _=>True |.given _ l h=>n5 l/\n5 h
 |.minus t=>t.ok |.power t _=>t.ok |.rooted t _=>t.ok
 |.sum a b=>a.ok/\b.ok |.less a b=>a.ok/\b.ok |.times a b=>a.ok/\b.ok |.over a b=>a.ok/\b.ok
inductive Gr:Nat->Nat->List (List Nat)->PT->Prop where
 |whole (n:Nat) (h:(al n).length<=4300):Gr 4 0 [al n] (.whole n)
 |named (w:List Nat) (h:cS w=true):Gr 4 0 [w] (.named w)
 |given (ms:List (List Nat)) (kp:List Int) (l h:Int×Int) (h1:Sp (wRoot::ms)) (h2:∀m∈ms,WfK m/\m.length<=4300) (h3:∀us rest:List Mk,us.map (·.1)=ms->bP true (us++rest)=.inr (.given kp l h,rest)) (h4:n5 l/\n5 h):Gr 4 1 (wRoot::ms) (.given kp l h)
 |brk {r d:Nat} {ms:List (List Nat)} {t:PT} (h:Gr r d ms t):Gr 4 (d+1) ([40]::(ms++[[41]])) t
 |sq {r d:Nat} {ms:List (List Nat)} {t:PT} (h:Gr r d ms t):Gr 4 (d+1) (wSqrt::[40]::(ms++[[41]])) (.rooted t 2)
 |cb {r d:Nat} {ms:List (List Nat)} {t:PT} (h:Gr r d ms t):Gr 4 (d+1) (wCbrt::[40]::(ms++[[41]])) (.rooted t 3)
 |power {d:Nat} {ms:List (List Nat)} {t:PT} {k:Nat} (h:Gr 4 d ms t) (hk:k<=8):Gr 3 d (ms++[[94],al k]) (.power t k)
 |minus {r d:Nat} {ms:List (List Nat)} {t:PT} (h:Gr r d ms t) (hr:3<=r):Gr 2 d ([45]::ms) (.minus t)
 |mul {r d s e:Nat} {a b:List (List Nat)} {t x:PT} {m:List Nat} {f:PT->PT->PT} (hm:(m=[42]/\f=.times)\/(m=[47]/\f=.over)) (h1:Gr r d a t) (hr:1<=r) (h2:Gr s e b x) (hs:2<=s):Gr 1 (max d e) (a++m::b) (f t x)
 |add {r d s e:Nat} {a b:List (List Nat)} {t x:PT} {m:List Nat} {f:PT->PT->PT} (hm:(m=[43]/\f=.sum)\/(m=[45]/\f=.less)) (h1:Gr r d a t) (h2:Gr s e b x) (hs:1<=s):Gr 0 (max d e) (a++m::b) (f t x)
theorem Gr.ne{r d:Nat}{ms:List (List Nat)}{t:PT}(h:Gr r d ms t):ms≠[]:=by cases h<;>simp
theorem o6{w:List Nat}(h:cS w=true):w≠[]/\∀c∈w,isA c=true:=by
 unfold cS at h
 simp only[Kf,decide_eq_true_eq,Kp]at h;exact⟨h.1.1.1,h.1.1.2⟩
theorem nN{n c:Nat}(h:isD c=false):al n≠[c]:=λz=>by have:=gK n c (by rw[z];simp);rw[h]at this;cases this
theorem Gr.fst{r d:Nat}{ms:List (List Nat)}{t:PT}(h:Gr r d ms t):3<=r->ms.head?≠some [45]:=by
 induction h with
 |whole n=>exactλ_ z=>nN (by decide) (Option.some.inj z)
 |named w h=>exactλ_ z=>by rw[Option.some.inj z]at h;exact absurd h (by decide)
 |given=>exactλ_ z=>absurd (Option.some.inj z) (by decide)
 |brk=>exactλ_ z=>absurd (Option.some.inj z) (by decide)
 |sq=>exactλ_ z=>absurd (Option.some.inj z) (by decide)
 |cb=>exactλ_ z=>absurd (Option.some.inj z) (by decide)
 |power h _ ih =>intro _ z;obtain⟨x,r,rfl⟩:=Kq h.ne;exact ih (by decide) z
 |minus=>exactλz=>absurd z (by decide)
 |mul=>exactλz=>absurd z (by decide)
 |add=>exactλz=>absurd z (by decide)
theorem Gr.wfk{r d:Nat}{ms:List (List Nat)}{t:PT}(h:Gr r d ms t):Sp ms/\∀m∈ms,WfK m:=by
 have sy:∀c∈[40,41,42,43,45,47,94],WfK [c]/\kdm [c]=0:=by intro c hc;simp only[J8,Ku,or_false]at hc;rcases hc with rfl |rfl |rfl |rfl |rfl |rfl |rfl<;>exact⟨⟨⟨by decide,by decide,by decide,by decide⟩,by decide⟩,by decide⟩
 have pr:∀{ms:List (List Nat)},(Sp ms/\∀m∈ms,WfK m)->Sp ([40]::(ms++[[41]]))/\∀m∈[40]::(ms++[[41]]),WfK m:=λ{ms} ih=>by
  refine⟨fN (by decide) (iQ (by decide) ih.1 (b:=[]) trivial),λm hm=>?_⟩;simp only[J8,Ke,Ku,or_false]at hm;rcases hm with rfl |hm |rfl
  ·exact(sy 40 (by simp)).1
  ·exact ih.2 m hm
  ·exact(sy 41 (by simp)).1
 induction h with
 |whole n=>exact⟨trivial,λm hm=>by rw[Kb.mp hm];exact pO n⟩
 |named w h=>exact⟨trivial,λm hm=>by rw[Kb.mp hm];exact lU (o6 h).1 (o6 h).2⟩
 |given ms kp l h h1 h2 h3 h4=>exact⟨h1,λm hm=>by
  rcases J8.mp hm with rfl |hm
  ·exact lU (by decide) (by decide)
  ·exact(h2 m hm).1⟩
 |brk h ih=>exact pr ih
 |sq h ih=>exact⟨⟨.inr (.inl (by decide)),(pr ih).1⟩,λm hm=>by
  rcases J8.mp hm with rfl |hm
  ·exact lU (by decide) (by decide)
  ·exact(pr ih).2 m hm⟩
 |cb h ih=>exact⟨⟨.inr (.inl (by decide)),(pr ih).1⟩,λm hm=>by
  rcases J8.mp hm with rfl |hm
  ·exact lU (by decide) (by decide)
  ·exact(pr ih).2 m hm⟩
 |power h hk ih=>exact⟨iQ (by decide) ih.1 (b:=[_]) trivial,λm hm=>by
  simp only[J8,Ke,Ku,or_false]at hm;rcases hm with hm |rfl |rfl
  ·exact ih.2 m hm
  ·exact(sy 94 (by simp)).1
  ·exact pO _⟩
 |minus h hr ih=>exact⟨fN (by decide) ih.1,λm hm=>by
  rcases J8.mp hm with rfl |hm
  ·exact(sy 45 (by simp)).1
  ·exact ih.2 m hm⟩
 |mul hm h1 hr h2 hs i1 i2 =>
  rename_i m f
  have hk:WfK m/\kdm m=0:=by rcases hm with⟨rfl,_⟩ |⟨rfl,_⟩<;>exact sy _ (by simp)
  exact⟨iQ hk.2 i1.1 i2.1,λz hz=>by
   simp only[J8,Ke]at hz;rcases hz with hz |rfl |hz
   ·exact i1.2 z hz
   ·exact hk.1
   ·exact i2.2 z hz⟩
 |add hm h1 h2 hs i1 i2 =>
  rename_i m f
  have hk:WfK m/\kdm m=0:=by rcases hm with⟨rfl,_⟩ |⟨rfl,_⟩<;>exact sy _ (by simp)
  exact⟨iQ hk.2 i1.1 i2.1,λz hz=>by
   simp only[J8,Ke]at hz;rcases hz with hz |rfl |hz
   ·exact i1.2 z hz
   ·exact hk.1
   ·exact i2.2 z hz⟩
theorem dc{α β:Type}{f:α->β}{l:List α}{a b:List β}(h:l.map f=a++b):∃x y,l=x++y/\x.map f=a/\y.map f=b:=List.map_eq_append_iff.mp h
theorem map_cons{α β:Type}{f:α->β}{l:List α}{a:β}{b:List β}(h:l.map f=a::b):∃x y,l=x::y/\f x=a/\y.map f=b:=List.map_eq_cons_iff.mp h
theorem db{α β:Type}{f:α->β}{l:List α}{a:β}(h:l.map f=[a]):∃x,l=[x]/\f x=a:=by obtain⟨x,y,rfl,h1,h2⟩:=map_cons h;rw[KN.mp h2];exact⟨x,rfl,h1⟩
theorem xJ{k:Nat}(h:k<=8):isE (al k)=true/\digitsVal (al k)=k:=by
 have:∀k,k<9->isE (al k)=true/\digitsVal (al k)=k:=by decide +kernel
 exact this k (by omega)
theorem Gr.rd{r d:Nat}{ms:List (List Nat)}{t:PT}(h:Gr r d ms t):∀{n:Nat} {us:List Mk},d<=n->us.map (·.1)=ms->Rd n r us t:=by
 induction h with
 |whole k hk =>
  intro n us _ hu;obtain⟨x,rfl,hx⟩:=db hu;refine lf (by simp) (show x.1≠[45] by rw[hx];exact nN (by decide)) λrest=>?_
  show bz (So n) (x::rest)=_;unfold bz;rw[show mhd (x::rest)=al k from hx,mT,if_pos rfl,lK k hk];rfl
 |named w hw =>
  intro n us _ hu;obtain⟨x,rfl,hx⟩:=db hu;have hx':x.1=w:=hx;refine lf (by simp) (show x.1≠[45]fromλz=>by rw[<- hx',z]at hw;exact absurd hw (by decide)) λrest=>?_
  show bz (So n) (x::rest)=_;unfold bz
  have hN:isN w=false:=by
   cases e:isN w with
   |false=>rfl
   |true =>
    obtain⟨c,r,rfl⟩:=Kq (o6 hw).1;have h1:=o7 e c (by simp);have h2:=(o6 hw).2 c (by simp);unfold isA at h2;unfold isD at h1
    simp only[Kf,decide_eq_true_eq]at h1 h2;omega
  rw[show mhd (x::rest)=w from hx,hN,if_neg (by decide),hw,if_pos rfl];rfl
 |given ms kp l h h1 h2 h3 h4 =>
  intro n us hd hu;obtain⟨x,y,rfl,hx,hy⟩:=map_cons hu;refine lf (by simp) (show x.1≠[45] by rw[hx];decide) λrest=>?_
  rw[Kg,IK hx];cases n with
  |zero=>omega
  |succ n=>exact h3 y rest hy
 |brk h ih =>
  intro n us hd hu;obtain⟨x,y,rfl,hx,hy⟩:=map_cons hu;obtain⟨a,b,rfl,ha,hb⟩:=dc hy;obtain⟨v,rfl,hv⟩:=db hb;refine lf (by simp) (show x.1≠[45] by rw[hx];decide) λrest=>?_
  cases n with
  |zero=>omega
  |succ n =>rw[Kg,J5,IN hx];exact qT hx hv (ih (by omega) ha) rest
 |sq h ih =>
  intro n us hd hu;obtain⟨x0,y0,rfl,hx0,hy0⟩:=map_cons hu;obtain⟨x,y,rfl,hx,hy⟩:=map_cons hy0;obtain⟨a,b,rfl,ha,hb⟩:=dc hy;obtain⟨v,rfl,hv⟩:=db hb;refine lf (by simp) (show x0.1≠[45] by rw[hx0];decide) λrest=>?_
  cases n with
  |zero=>omega
  |succ n =>rw[Kg,Kg,J5,IJ hx0,List.singleton_append,qT hx hv (ih (by omega) ha) rest];rfl
 |cb h ih =>
  intro n us hd hu;obtain⟨x0,y0,rfl,hx0,hy0⟩:=map_cons hu;obtain⟨x,y,rfl,hx,hy⟩:=map_cons hy0;obtain⟨a,b,rfl,ha,hb⟩:=dc hy;obtain⟨v,rfl,hv⟩:=db hb;refine lf (by simp) (show x0.1≠[45] by rw[hx0];decide) λrest=>?_
  cases n with
  |zero=>omega
  |succ n =>rw[Kg,Kg,J5,IR hx0,List.singleton_append,qT hx hv (ih (by omega) ha) rest];rfl
 |power h hk ih =>
  rename_i k
  intro n us hd hu;obtain⟨a,b,rfl,ha,hb⟩:=dc hu;obtain⟨x,y,rfl,hx,hy⟩:=map_cons hb;obtain⟨v,rfl,hv⟩:=db hy;have hne:a≠[]:=λz=>h.ne (by rw[<- ha,z];rfl)
  have hf:=h.fst (by decide);refine Bf (by simp) ?_ λrest _=>?_
  ·rw[wX hne];obtain⟨w,z,rfl⟩:=Kq hne
   exactλe=>hf (by rw[<- ha,Kw];exact congrArg some e)
  ·unfold cp;rw[J5,(ih hd ha).r4 (by decide)];show gI _ (x::v::rest)=_;unfold gI;obtain⟨e1,e2⟩:=xJ hk;rw[if_pos (show mhd (x::v::rest)=[94]from hx)];show(if isE (mhd (v::rest))then(Sum.inr (PT.power _ (digitsVal (mhd (v::rest))),rest):Res PT)else _)=_;rw[show mhd (v::rest)=al k from hv,e1,if_pos rfl,e2]
 |minus h hr ih =>
  intro n us hd hu;obtain⟨x,y,rfl,hx,hy⟩:=map_cons hu;refine Bg λrest hn=>?_
  unfold bg;rw[if_pos (show mhd (x::y++rest)=[45]from hx)];show aQ (cp _ (y++rest)) _=_;rw[(ih hd hy).r3 hr rest hn];rfl
 |mul hm h1 hr h2 hs i1 i2 =>intro n us hd hu;obtain⟨a,b,rfl,ha,hb⟩:=dc hu;obtain⟨x,y,rfl,hx,hy⟩:=map_cons hb;exact Bd (by rw[hx];exact hm) (i1 (J7 (KT _ _) hd) ha) hr (i2 (J7 (KU _ _) hd) hy) hs
 |add hm h1 h2 hs i1 i2 =>intro n us hd hu;obtain⟨a,b,rfl,ha,hb⟩:=dc hu;obtain⟨x,y,rfl,hx,hy⟩:=map_cons hb;exact Be (by rw[hx];exact hm) (i1 (J7 (KT _ _) hd) ha) (i2 (J7 (KU _ _) hd) hy) hs
noncomputable def PT.hgt:PT->Nat
 |.whole _=>1 |.named _=>1 |.given _ _ _=>1
 |.minus t=>t.hgt+1 |.power t _=>t.hgt+1 |.rooted t _=>t.hgt+1
 |.sum a b=>max a.hgt b.hgt+1 |.less a b=>max a.hgt b.hgt+1 |.times a b=>max a.hgt b.hgt+1 |.over a b=>max a.hgt b.hgt+1
theorem Gr.ok{r d:Nat}{ms:List (List Nat)}{t:PT}(h:Gr r d ms t):t.ok:=by
 induction h with
 |whole n=>trivial
 |named w=>trivial
 |given ms kp l h h1 h2 h3 h4=>exact h4
 |brk h ih=>exact ih
 |sq h ih=>exact ih
 |cb h ih=>exact ih
 |power h hk ih=>exact ih
 |minus h hr ih=>exact ih
 |mul hm h1 hr h2 hs i1 i2=>rcases hm with⟨_,rfl⟩ |⟨_,rfl⟩<;>exact⟨i1,i2⟩
 |add hm h1 h2 hs i1 i2=>rcases hm with⟨_,rfl⟩ |⟨_,rfl⟩<;>exact⟨i1,i2⟩
theorem Gr.hgt{r d:Nat}{ms:List (List Nat)}{t:PT}(h:Gr r d ms t):t.hgt<=ms.length:=by
 induction h with
 |whole n=>exact J3 _
 |named w=>exact J3 _
 |given ms=>show 1<=_;simp
 |brk h ih=>simp;omega
 |sq h ih=>unfold PT.hgt;simp;omega
 |cb h ih=>unfold PT.hgt;simp;omega
 |power h hk ih=>unfold PT.hgt;simp;omega
 |minus h hr ih=>unfold PT.hgt;simp;omega
 |mul hm h1 hr h2 hs i1 i2 =>
  rw[J2,J4];rcases hm with⟨_,rfl⟩ |⟨_,rfl⟩
  ·show max _ _+1<=_;omega
  ·show max _ _+1<=_;omega
 |add hm h1 h2 hs i1 i2 =>
  rw[J2,J4];rcases hm with⟨_,rfl⟩ |⟨_,rfl⟩
  ·show max _ _+1<=_;omega
  ·show max _ _+1<=_;omega
theorem jd{n:Nat}(h:n<100):(al n).length<=4300:=by
 have:∀n,n<100->(al n).length<=2:=by decide +kernel
 have:=this n h;omega
theorem DG{n:Nat}(h:1<=n)(hl:n<100):al n≠[48]:=λz=>by
 have e:=lK n (jd hl);rw[z]at e;have:digitsVal [48]=0:=by decide
 omega
theorem BJ{x p k:Mk}{K:Nat}{r:List Mk}(hK:K<=8)(h1:x.1=[120])(h2:p.1=[94])(h3:k.1=al K):aS (x::p::k::r)=.inr (K,r):=by obtain⟨e1,e2⟩:=xJ hK;simp[aS,h1,h2,h3,e1,e2]
noncomputable def g3(A K B:Nat)(n:Nat):Int:=(if n=K then -(A:Int)else 0)+(if n=1 then 1 else 0)+(if n=0 then -(B:Int)else 0)
noncomputable def g4(C:Option Nat)(n:Nat):Int:=match C with
 |none=>0
 |some c=>if n=c then 3 else 0
noncomputable def mN:Option Nat->List (List Nat)
 |none=>[]
 |some n=>[[47],al n]
theorem wg{a:Mk}{A:Nat}{r:List Mk}(hA:A<100)(h:a.1=al A):dm (a::r)=.inr (A,r):=by unfold dm;rw[show mhd (a::r)=al A from h,mT,if_pos rfl,lK A (jd hA)];rfl
theorem BF{s m:Mk}{M:Nat}{t:Int}{r:List Mk}(hM:M<100)(h0:1<=M)(hs:s.1=[47])(h:m.1=al M):dn t (s::m::r)=.inr ((t,(M:Int)),r):=by unfold dn;rw[if_pos (show mhd (s::m::r)=[47]from hs)];rw[List.tail_cons,if_neg (show ¬mhd (m::r)=[48]fromλz=>DG h0 hM (h.symm.trans z)),wg hM h]
theorem BG{v:Mk}{t:Int}{r:List Mk}(h:v.1≠[47]):dn t (v::r)=.inr ((t,1),v::r):=by unfold dn;rw[if_neg (show ¬mhd (v::r)=[47]from h)]
theorem sy1:∀c∈[40,41,42,43,44,45,47,94],WfK [c]/\kdm [c]=0:=by intro c hc;simp only[J8,Ku,or_false]at hc;rcases hc with rfl |rfl |rfl |rfl |rfl |rfl |rfl |rfl<;>exact⟨⟨⟨by decide,by decide,by decide,by decide⟩,by decide⟩,by decide⟩
theorem zi:WfK [46,46]:=⟨⟨by decide,by decide,by decide,by decide⟩,by decide⟩
theorem zh:WfK [120]:=lU (by decide) (by decide)
noncomputable def rk:PT->Nat
 |.whole _=>4 |.named _=>4 |.given _ _ _=>4 |.rooted _ _=>4 |.power _ _=>3 |.minus _=>2
 |.times _ _=>1 |.over _ _=>1 |.sum _ _=>0 |.less _ _=>0
noncomputable def wn(r:Nat)(t:PT)(l:List Nat):List Nat:=if rk t<r then 40::(l++[41])else l
noncomputable def wd(r:Nat)(t:PT)(d:Nat):Nat:=if rk t<r then d+1 else d
noncomputable def inT(i:Int):List Nat:=if i<0 then 45::al i.natAbs else al i.natAbs
noncomputable def frT(x:Int×Int):List Nat:=inT x.1++if x.2=1 then[]else 47::al x.2.natAbs
noncomputable def tx:PT->List Nat
 |.whole n=>al n
 |.named w=>w
 |.given kp l h=>wRoot++40::(plT kp++44::32::(frT l++46::46::(frT h++[41])))
 |.minus t=>45::wn 3 t (tx t)
 |.power t k=>wn 4 t (tx t)++94::al k
 |.rooted t k=>(if k=2 then wSqrt else wCbrt)++40::(tx t++[41])
 |.sum a b=>tx a++32::43::32::wn 1 b (tx b)
 |.less a b=>tx a++32::45::32::wn 1 b (tx b)
 |.times a b=>wn 1 a (tx a)++42::wn 2 b (tx b)
 |.over a b=>wn 1 a (tx a)++47::wn 2 b (tx b)
noncomputable def dep:PT->Nat
 |.whole _=>0 |.named _=>0 |.given _ _ _=>1
 |.minus t=>wd 3 t (dep t) |.power t _=>wd 4 t (dep t) |.rooted t _=>dep t+1
 |.sum a b=>max (dep a) (wd 1 b (dep b)) |.less a b=>max (dep a) (wd 1 b (dep b))
 |.times a b=>max (wd 1 a (dep a)) (wd 2 b (dep b)) |.over a b=>max (wd 1 a (dep a)) (wd 2 b (dep b))
structure OkG(kp:List Int)(l h:Int×Int):Prop where
 tr:Tr kp
 len:kp.length<=9
 bd:∀k,(cf kp k).natAbs<100
 l1:l.2=1
 lb:l.1.natAbs<100
 hb:h.1.natAbs<100
 h2:h.2=1\/(h.2=2/\h.1%2=1)
noncomputable def OkT:PT->Prop
 |.whole n=>n<10^30
 |.named w=>cS w=true
 |.given kp l h=>OkG kp l h
 |.minus t=>OkT t
 |.power t k=>OkT t/\k<=8
 |.rooted t k=>OkT t/\(k=2\/k=3)
 |.sum a b=>OkT a/\OkT b |.less a b=>OkT a/\OkT b |.times a b=>OkT a/\OkT b |.over a b=>OkT a/\OkT b
inductive Jn:List (List Nat)->List Nat->Prop
 |nil:Jn [] []
 |cons (g:Nat) (m:List Nat) {ms:List (List Nat)} {l:List Nat} (h:Jn ms l):Jn (m::ms) (List.replicate g 32++(m++l))
theorem Jn.app{a b:List (List Nat)}{x y:List Nat}(h:Jn a x)(k:Jn b y):Jn (a++b) (x++y):=by
 induction h with
 |nil=>exact k
 |cons g m h ih=>rw[Kg,J5,J5];exact .cons g m ih
theorem Jn.mk(m:List Nat){ms:List (List Nat)}{l:List Nat}(h:Jn ms l):Jn (m::ms) (m++l):=.cons 0 m h
theorem Jn.one(m:List Nat):Jn [m] m:=by have:=Jn.mk m .nil;rw[Kk]at this;exact this
theorem Jn.lead{ms:List (List Nat)}{l:List Nat}(h:Jn ms l)(hn:ms≠[]):Jn ms (32::l):=by
 cases h with
 |nil=>exact absurd rfl hn
 |cons g m h=>exact .cons (g+1) m h
theorem zY{a:List Nat}{r:List (List Nat)}(h:Sp (a::r)):Sp r:=by
 cases r with
 |nil=>trivial
 |cons b r=>exact h.2
theorem vI:∀{y:List (List Nat)} {z m:List Nat} {r:List (List Nat)},Sp (y++z::m::r)->Apt z m
 | [],_,_,_,h=>h.1
 |_::_,_,_,_,h=>vI (zY h)
theorem Fk{ms:List (List Nat)}{l:List Nat}(h:Jn ms l):∀(X:List Nat) (ms0:List (List Nat)),(mks 0 X).map (·.1)=ms0->((ms0=[]/\X=[])\/∃y z,ms0=y++[z]/\X.getLast?=z.getLast?)->Sp (ms0++ms)->(∀m∈ms0++ms,WfK m)->(mks 0 (X++l)).map (·.1)=ms0++ms:=by
 induction h with
 |nil=>intro X ms0 h _ _ _;rw[Kk,Kk];exact h
 |cons g m h ih =>
  rename_i ms l
  intro X ms0 hX hL hS hW;have wm:=hW m (by simp)
  have ng:iH X m:=by
   rcases hL with⟨_,rfl⟩ |⟨y,z,rfl,hz⟩
   ·exactλa b h=>by cases h
   ·intro a b h1 h2;rw[J5]at hS;exact DK (hW z (by simp)) (vI hS) a b (by rw[<- hz];exact h1) h2
  have e:X++(List.replicate g 32++(m++l))=(X++List.replicate g 32++m)++l:=by simp only[J5]
  rw[e,ih (X++List.replicate g 32++m) (ms0++[m]) (by rw[DT wm.wf (.inr ng),Kl,hX];rfl) (.inr ⟨ms0,m,rfl,?_⟩) (by rw[J5];exact hS) (by rw[J5];exact hW),J5];rfl;rw[List.getLast?_append];obtain⟨c,r,rfl⟩:=Kq wm.wf.ne;cases e:(c::r).getLast? with
  |none=>simp at e
  |some v=>rfl
theorem Fm{ms:List (List Nat)}{l:List Nat}(h:Jn ms l)(hW:∀m∈ms,WfK m):∀c∈l,c<128:=by
 induction h with
 |nil=>intro c hc;cases hc
 |cons g m h ih =>
  intro c hc;simp only[Ke,List.mem_replicate]at hc;rcases hc with hc |hc |hc
  ·rw[hc.2];decide
  ·exact(hW m (by simp)).wf.asc c hc
  ·exact ih (λm hm=>hW m (by simp[hm])) c hc
theorem wk{k:Nat}{us rest:List Mk}(h1:1<=k)(hk:k<=8)(hu:us.map (·.1)=[120]::if k=1 then[]else[[94],al k])(h94:mhd rest≠[94]):aS (us++rest)=.inr (k,rest):=by
 obtain⟨x,u,rfl,qx,hu⟩:=map_cons hu;have qx':x.1=[120]:=qx;by_cases e:k=1
 ·rw[if_pos e]at hu;rw[KN.mp hu,Kg,Ko];cases rest with
  |nil=>simp[aS,qx',e]
  |cons v r=>simp[aS,qx',e,show ¬v.1=[94]from h94]
 ·rw[if_neg e]at hu;obtain⟨p,u,rfl,qp,hu⟩:=map_cons hu;obtain⟨w,rfl,qw⟩:=db hu;exact BJ (r:=rest) hk qx qp qw
theorem pQ{size k:Nat}{us rest:List Mk}(hs:size<100)(hk:k<=8)(hu:us.map (·.1)=tmM size k)(h42:mhd rest≠[42])(h94:mhd rest≠[94]):aX (us++rest)=.inr (size,k,rest):=by
 unfold tmM at hu
 have ln:=jd hs;by_cases h0:k=0
 ·rw[if_pos h0]at hu;obtain⟨b,rfl,qb⟩:=db hu;have qb':b.1=al size:=qb;cases rest with
  |nil=>simp[aX,qb',mT,lK size ln,h0]
  |cons v r=>simp[aX,qb',mT,lK size ln,h0,show ¬v.1=[42]from h42]
 rw[if_neg h0]at hu;by_cases h1:size=1
 ·rw[if_pos h1,Ko]at hu;have hp:=wk (rest:=rest) (by omega) hk hu h94;obtain⟨x,u,rfl,qx,_⟩:=map_cons hu;have qx':x.1=[120]:=qx;have e0:isN [120]=false:=by decide
  rw[Kg]at hp ⊢;simp[aX,qx',e0,hp,h1]
 ·rw[if_neg h1]at hu;obtain⟨a,u,rfl,qa,hu⟩:=map_cons hu;obtain⟨s,u,rfl,qs,hu⟩:=map_cons hu;have qa':a.1=al size:=qa;have qs':s.1=[42]:=qs;have hp:=wk (rest:=rest) (by omega) hk hu h94;simp[aX,qa',mT,qs',hp,lK size ln]
theorem Ak{x:Int}:(if([if x<0 then 45 else 43]:List Nat)=[45]then(-1:Int)else 1)*((x.natAbs:Nat):Int)=x:=by
 by_cases h:x<0
 ·rw[if_pos h,if_pos rfl];omega
 ·rw[if_neg h,if_neg (by decide)];omega
theorem qZ{l:List Int}{v:Mk}{r:List Mk}(hv:v.1=[44]):∀(n:Nat) (us:List Mk),us.map (·.1)=ptM l n->mhd (us++v::r)≠[42]/\mhd (us++v::r)≠[94]
 |0,us,h=>by have:us=[]:=KN.mp h;subst this;show v.1≠[42]/\v.1≠[94];rw[hv];decide
 |n+1,us,h=>by
  unfold ptM at h
  by_cases e:cf l n=0
  ·rw[if_pos e,Ko]at h;exact qZ hv n us h
  ·rw[if_neg e,Kg]at h;obtain⟨s,u,rfl,qs,_⟩:=map_cons h;have qs':s.1=[if cf l n<0 then 45 else 43]:=qs;show s.1≠[42]/\s.1≠[94];rw[qs'];split<;>decide
theorem qX{l:List Int}(hl:∀k,(cf l k).natAbs<100){v:Mk}{r:List Mk}(hv:v.1=[44]):∀(n:Nat) (us:List Mk) (c:Cfg),n<=9->us.map (·.1)=ptM l n->Lf2 c.st (us++v::r)->∃c':Cfg,mgo c (us++v::r)=(c',v::r)/\c'.st.opn=false/\∀k,c'.fin k=c.fin k+if k<n then cf l k else 0
 |0,us,c,_,h,hc=>by
  have:us=[]:=KN.mp h;subst this;refine⟨c,(o0 hc).2 ?_ ?_,si hc,λk=>by rw[if_neg (Nat.not_lt_zero k),Int.add_zero]⟩
  ·show v.1≠[43];rw[hv];decide
  ·show v.1≠[45];rw[hv];decide
 |n+1,us,c,hn,h,hc=>by
  unfold ptM at h
  by_cases e:cf l n=0
  ·rw[if_pos e,Ko]at h;obtain⟨c',e1,e2,e3⟩:=qX hl hv n us c (by omega) h hc;refine⟨c',e1,e2,λk=>?_⟩;rw[e3 k];by_cases hk:k=n
   ·subst hk;rw[if_neg (Km _),if_pos (by omega),e]
   ·by_cases h1:k<n
    ·rw[if_pos h1,if_pos (by omega)]
    ·rw[if_neg h1,if_neg (by omega)]
  ·rw[if_neg e,Kg]at h;obtain⟨s,u,rfl,qs,h⟩:=map_cons h;obtain⟨a,b,rfl,ha,hb⟩:=dc h;have qs':s.1=[if cf l n<0 then 45 else 43]:=qs
   have q2:s.1=[43]\/s.1=[45]:=by
    rw[qs'];split
    ·exact .inr rfl
    ·exact .inl rfl
   obtain⟨d1,d2⟩:=qZ (r:=r) hv n b hb;rw[Kg]at hc ⊢;rw[(o0 hc).1 s _ rfl q2,J5];obtain⟨s1,l1,_,e1⟩:=(iO (c:=⟨.p1,c.fin,if s.1=[45]then -1 else 1,0,0⟩) (us:=a++(b++v::r)) (.inl rfl) rfl).2 _ n _ (pQ (hl n) (by omega) ha d1 d2);rw[e1];obtain⟨c',e2,e3,e4⟩:=qX hl hv n b ⟨s1,c.fin,if s.1=[45]then -1 else 1,((cf l n).natAbs:Nat),n⟩ (by omega) hb l1;refine⟨c',e2,e3,λk=>?_⟩;rw[e4 k];show(c.fin k+if k=n then(if s.1=[45]then(-1:Int)else 1)*(((cf l n).natAbs:Nat):Int)else 0)+_=_;rw[qs',Ak];by_cases hk:k=n
   ·subst hk;rw[if_pos rfl,if_neg (Km _),if_pos (by omega),Int.add_zero]
   ·rw[if_neg hk];by_cases h1:k<n
    ·rw[if_pos h1,if_pos (by omega),Int.add_zero]
    ·rw[if_neg h1,if_neg (by omega),Int.add_zero]
theorem vq{size k:Nat}{us rest:List Mk}(hu:us.map (·.1)=tmM size k):mhd (us++rest)≠[45]:=by
 unfold tmM at hu
 by_cases h0:k=0
 ·rw[if_pos h0]at hu;obtain⟨b,rfl,qb⟩:=db hu;show b.1≠[45];rw[show b.1=al size from qb];exact nN (by decide)
 rw[if_neg h0]at hu;by_cases h1:size=1
 ·rw[if_pos h1,Ko]at hu;obtain⟨x,u,rfl,qx,_⟩:=map_cons hu;show x.1≠[45];rw[show x.1=[120]from qx];decide
 ·rw[if_neg h1]at hu;obtain⟨a,u,rfl,qa,hu⟩:=map_cons hu;show a.1≠[45];rw[show a.1=al size from qa];exact nN (by decide)
theorem BH{kp:List Int}(hk:Tr kp)(hn:kp.length<=9)(hl:∀k,(cf kp k).natAbs<100){us:List Mk}{v:Mk}{r:List Mk}(hu:us.map (·.1)=plM kp)(hv:v.1=[44]):gH (us++v::r)=.inr (kp,v::r):=by
 have fin:∀{c:Cfg},mgo cfg0 (us++v::r)=(c,v::r)->c.st.opn=false->(∀k,c.fin k=cf kp k)->gH (us++v::r)=.inr (kp,v::r):=λ{c} h1 h2 h3=>by
  have ekp:cZ c=kp:=by
   refine yk (jL _) hk λk=>?_
   unfold cZ;rw[pE,tR];split
   ·exact h3 k
   ·exact(dE (by omega)).symm
  unfold gH;rw[h1,if_neg (by rw[h2];decide),ekp]
 unfold plM at hu
 by_cases h0:kp=[]
 ·rw[if_pos h0]at hu;have hu':us.map (·.1)=tmM 0 0:=hu;have n42:mhd (v::r)≠[42]:=by show v.1≠[42];rw[hv];decide
  have n94:mhd (v::r)≠[94]:=by show v.1≠[94];rw[hv];decide
  obtain⟨s1,l1,_,e1⟩:=(iO (c:=cfg0) (us:=us++v::r) (.inr ⟨rfl,vq hu'⟩) rfl).2 0 0 _ (pQ (by decide) (by decide) hu' n42 n94);have e2:=(o0 (c:=⟨s1,cfg0.row,cfg0.sg,((0:Nat):Int),0⟩) l1).2 (by show v.1≠[43];rw[hv];decide) (by show v.1≠[45];rw[hv];decide);refine fin (e1.trans e2) (si l1) λk=>?_
  rw[h0];show(0:Int)+(if k=0 then(1:Int)*((0:Nat):Int)else 0)=0;split<;>rfl
 rw[if_neg h0]at hu;have hpos:=List.length_pos_iff.mpr h0;obtain⟨d,hd⟩:∃d,kp.length=d+1:=⟨kp.length-1,by omega⟩;have hd1:kp.length-1=d:=by omega
 rw[hd1,J5]at hu;obtain⟨p,u,rfl,hp,hu⟩:=dc hu;obtain⟨a,b,rfl,ha,hb⟩:=dc hu;obtain⟨d1,d2⟩:=qZ (r:=r) hv d b hb;have tr:=pQ (rest:=b++v::r) (hl d) (by omega) ha d1 d2
 have go:∃sg:Int,sg*((cf kp d).natAbs:Nat)=cf kp d/\∃s1,Lf2 s1 (b++v::r)/\mgo cfg0 (p++(a++(b++v::r)))=mgo ⟨s1,λ_=>0,sg,((cf kp d).natAbs:Nat),d⟩ (b++v::r):=by
  by_cases hs:cf kp d<0
  ·rw[if_pos hs]at hp;obtain⟨m,rfl,qm⟩:=db hp;refine⟨-1,by omega,?_⟩;obtain⟨s1,l1,_,e1⟩:=(iO (c:=⟨.p1,λ_=>0,-1,0,0⟩) (us:=a++(b++v::r)) (.inl rfl) rfl).2 _ d _ tr;exact⟨s1,l1,by rw[List.singleton_append,ye qm,e1]⟩
  ·rw[if_neg hs]at hp;rw[KN.mp hp];refine⟨1,by omega,?_⟩;obtain⟨s1,l1,_,e1⟩:=(iO (c:=cfg0) (us:=a++(b++v::r)) (.inr ⟨rfl,vq ha⟩) rfl).2 _ d _ tr;exact⟨s1,l1,e1⟩
 obtain⟨sg,hsg,s1,l1,e1⟩:=go;obtain⟨c',e2,e3,e4⟩:=qX hl hv d b ⟨s1,λ_=>0,sg,((cf kp d).natAbs:Nat),d⟩ (by omega) hb l1;rw[J5,J5]at fin ⊢;refine fin (e1.trans e2) e3 λk=>?_
 rw[e4 k];show((0:Int)+if k=d then sg*((cf kp d).natAbs:Nat)else 0)+_=_;rw[hsg,KI];by_cases hk:k=d
 ·subst hk;rw[if_pos rfl,if_neg (Km _),Int.add_zero]
 ·rw[if_neg hk];by_cases h1:k<d
  ·rw[if_pos h1,KI]
  ·rw[if_neg h1,dE (by omega)];rfl
noncomputable def frM(x:Int×Int):List (List Nat):=(if x.1<0 then[[45]]else[])++al x.1.natAbs::if x.2=1 then[]else[[47],al x.2.natAbs]
theorem wl{x:Int×Int}(hb:x.1.natAbs<100)(h2:x.2=1\/x.2=2){us:List Mk}{v:Mk}{r:List Mk}(hu:us.map (·.1)=frM x)(hv:v.1≠[47]):bK (us++v::r)=.inr (x,v::r):=by
 obtain⟨p,q⟩:=x;unfold frM at hu
 obtain⟨y,z,rfl,hy,hz⟩:=dc hu;obtain⟨a,u,rfl,qa,hz⟩:=map_cons hz;have qa':a.1=al p.natAbs:=qa
 have ov:∀t:Int,dn t (u++v::r)=.inr ((t,q),v::r):=λt=>by
  rcases h2 with h |h
  ·have h':q=1:=h;rw[if_pos h]at hz;rw[KN.mp hz,h'];exact BG hv
  ·have h':q=2:=h;rw[if_neg (by rw[h];decide)]at hz;obtain⟨s,w,rfl,qs,hz⟩:=map_cons hz;obtain⟨m,rfl,qm⟩:=db hz;have qm':m.1=al 2:=by rw[show m.1=al q.natAbs from qm,h'];rfl
   rw[h'];exact BF (by decide) (by decide) qs qm'
 have tp:∀sg:Int,sg*((p.natAbs:Nat):Int)=p->gG sg (a::(u++v::r))=.inr ((p,q),v::r):=λsg hs=>by unfold gG;rw[wg hb qa];show dn (sg*((p.natAbs:Nat):Int)) (u++v::r)=_;rw[hs,ov]
 unfold bK;by_cases hs:p<0
 ·rw[if_pos (show(p,q).1<0 from hs)]at hy;obtain⟨m,rfl,qm⟩:=db hy;rw[J5,if_pos (show mhd ([m]++(a::u++v::r))=[45]from qm)];exact tp (-1) (by omega)
 ·rw[if_neg (show ¬(p,q).1<0 from hs)]at hy;rw[KN.mp hy,Ko,if_neg (show ¬mhd (a::u++v::r)=[45]fromλz=>nN (by decide) (qa'.symm.trans z))];exact tp 1 (by omega)
def Gm(m:List Nat):Prop:=WfK m/\m.length<=4300
theorem gm1{c:Nat}(h:c∈[40,41,42,43,44,45,47,94]):Gm [c]:=⟨(sy1 c h).1,by show 1<=4300;decide⟩
theorem gmn{n:Nat}(h:n<100):Gm (al n):=⟨pO n,jd h⟩
theorem gmx:Gm [120]:=⟨zh,by decide⟩
theorem xT{s k:Nat}(hs:s<100)(hk:k<100):∀m∈tmM s k,Gm m:=by
 intro m hm;unfold tmM at hm
 split at hm
 ·rw[Kb.mp hm];exact gmn hs
 rcases Ke.mp hm with hm |hm
 ·split at hm
  ·cases hm
  ·simp only[J8,Ku,or_false]at hm;rcases hm with rfl |rfl
   ·exact gmn hs
   ·exact gm1 (by simp)
 ·rcases J8.mp hm with rfl |hm
  ·exact gmx
  ·split at hm
   ·cases hm
   ·simp only[J8,Ku,or_false]at hm;rcases hm with rfl |rfl
    ·exact gm1 (by simp)
    ·exact gmn hk
theorem xU{l:List Int}(hl:∀k,(cf l k).natAbs<100):∀n,n<=9->∀m∈ptM l n,Gm m
 |0,_,m,hm=>by cases hm
 |n+1,hn,m,hm=>by
  unfold ptM at hm
  rcases Ke.mp hm with hm |hm
  ·split at hm
   ·cases hm
   ·rcases J8.mp hm with rfl |hm
    ·split<;>exact gm1 (by simp)
    ·exact xT (hl n) (by omega) m hm
  ·exact xU hl n (by omega) m hm
theorem FY{kp:List Int}(hn:kp.length<=9)(hl:∀k,(cf kp k).natAbs<100):∀m∈plM kp,Gm m:=by
 intro m hm;unfold plM at hm
 split at hm
 ·rw[Kb.mp hm];exact gmn (n:=0) (by decide)
 rcases Ke.mp hm with hm |hm
 ·rcases Ke.mp hm with hm |hm
  ·split at hm
   ·rw[Kb.mp hm];exact gm1 (by simp)
   ·cases hm
  ·exact xT (hl _) (by omega) m hm
 ·exact xU hl _ (by omega) m hm
theorem xV{x:Int×Int}(hb:x.1.natAbs<100)(h2:x.2=1\/x.2=2):∀m∈frM x,Gm m:=by
 intro m hm;unfold frM at hm
 rcases Ke.mp hm with hm |hm
 ·split at hm
  ·rw[Kb.mp hm];exact gm1 (by simp)
  ·cases hm
 ·rcases J8.mp hm with rfl |hm
  ·exact gmn hb
  ·split at hm
   ·cases hm
   ·simp only[J8,Ku,or_false]at hm;rcases hm with rfl |rfl
    ·exact gm1 (by simp)
    ·exact gmn (by omega)
theorem pW(s k:Nat):Sp (tmM s k):=by
 unfold tmM
 have hx:Sp ([120]::if k=1 then[]else[[94],al k]):=by
  split
  ·trivial
  ·exact⟨.inr (.inl (by decide)),fN (by decide) trivial⟩
 split
 ·trivial
 split
 ·exact hx
 ·exact⟨.inr (.inl (by decide)),fN (by decide) hx⟩
theorem pX(l:List Int):∀(n:Nat) {a:List (List Nat)},Sp a->Sp (a++ptM l n)
 |0,a,h=>by show Sp (a++[]);rw[Kk];exact h
 |n+1,a,h=>by
  unfold ptM;by_cases e:cf l n=0
  ·rw[if_pos e,Ko];exact pX l n h
  ·rw[if_neg e,<- J5];exact pX l n (iQ (by split<;>decide) h (pW _ _))
theorem zZ(kp:List Int):Sp (plM kp):=by
 unfold plM;split
 ·trivial
 ·refine pX kp _ ?_;split
  ·exact fN (by decide) (pW _ _)
  ·exact pW _ _
theorem vJ{x:Int×Int}{m:List Nat}{r:List (List Nat)}(hm:kdm m≠1)(hr:Sp (m::r)):Sp (frM x++m::r):=by
 have h1:Sp ((al x.1.natAbs::if x.2=1 then[]else[[47],al x.2.natAbs])++m::r):=by
  split
  ·exact⟨.inr (.inr (by rw[sk];exactλz=>hm z.symm)),hr⟩
  ·exact⟨.inr (.inl (by decide)),fN (by decide) ⟨.inr (.inr (by rw[sk];exactλz=>hm z.symm)),hr⟩⟩
 unfold frM;rw[J5];split
 ·exact fN (by decide) h1
 ·exact h1
theorem Aa{x:Int×Int}{r:List (List Nat)}(hr:Sp (frM x++r)):Sp ([46,46]::(frM x++r)):=by
 unfold frM at hr ⊢
 by_cases h:x.1<0
 ·rw[if_pos h]at hr ⊢;exact⟨.inr (.inl (by decide)),hr⟩
 ·rw[if_neg h]at hr ⊢;exact⟨.inr (.inr (by rw[sk];decide)),hr⟩
theorem zx(s k:Nat):tmM s k≠[]:=by
 unfold tmM;split
 ·simp
 ·split<;>simp
theorem xF(s k:Nat):Jn (tmM s k) (tmT s k):=by
 unfold tmM tmT;by_cases h0:k=0
 ·rw[if_pos h0,if_pos h0];exact .one _
 rw[if_neg h0,if_neg h0];refine Jn.app ?_ ?_
 ·by_cases h1:s=1
  ·rw[if_pos h1,if_pos h1];exact .nil
  ·rw[if_neg h1,if_neg h1];exact .mk _ (.one _)
 ·by_cases h1:k=1
  ·rw[if_pos h1,if_pos h1];exact .one [120]
  ·rw[if_neg h1,if_neg h1];exact .mk [120] (.mk [94] (.one _))
theorem xG(l:List Int):∀n,Jn (ptM l n) (ptT l n)
 |0=>.nil
 |n+1=>by
  unfold ptM ptT;refine Jn.app ?_ (xG l n);by_cases e:cf l n=0
  ·rw[if_pos e,if_pos e];exact .nil
  ·rw[if_neg e,if_neg e];exact Jn.cons 1 [if cf l n<0 then 45 else 43] ((xF _ n).lead (zx _ _))
theorem Fj(kp:List Int):Jn (plM kp) (plT kp):=by
 unfold plM plT;by_cases h0:kp=[]
 ·rw[if_pos h0,if_pos h0];exact .one _
 rw[if_neg h0,if_neg h0];refine Jn.app (Jn.app ?_ (xF _ _)) (xG _ _);split
 ·exact .one _
 ·exact .nil
theorem xH(x:Int×Int):Jn (frM x) (frT x):=by
 unfold frM frT inT
 have h1:Jn (al x.1.natAbs::if x.2=1 then[]else[[47],al x.2.natAbs]) (al x.1.natAbs++if x.2=1 then[]else 47::al x.2.natAbs):=by
  split
  ·rw[Kk];exact .one _
  ·exact .mk _ (.mk [47] (.one _))
 split
 ·exact(Jn.app (.one [45]) h1:Jn ([[45]]++_) ([45]++(al x.1.natAbs++if x.2=1 then[]else 47::al x.2.natAbs)))
 ·exact h1
theorem Gg(x:Int×Int):frM x≠[]:=by unfold frM;simp
noncomputable def gvM(kp:List Int)(l h:Int×Int):List (List Nat):=[40]::(plM kp++[44]::(frM l++[46,46]::(frM h++[[41]])))
theorem FX{kp:List Int}{l h:Int×Int}(g:OkG kp l h):Gr 4 1 (wRoot::gvM kp l h) (.given kp l h):=by
 have h12:h.2=1\/h.2=2:=g.h2.imp id (·.1);have l12:l.2=1\/l.2=2:=.inl g.l1;refine .given _ kp l h ?_ ?_ ?_ ⟨⟨by rw[g.l1];decide,?_,by rw[g.l1];decide⟩,?_,?_,?_⟩
 ·refine⟨.inr (.inl (by decide)),fN (by decide) (iQ (by decide) (zZ kp) ?_)⟩;exact vJ (by decide) (Aa (vJ (by decide) (r:=[]) trivial))
 ·intro m hm;unfold gvM at hm
  simp only[J8,Ke,Ku,or_false]at hm;rcases hm with rfl |hm |rfl |hm |rfl |hm |rfl
  ·exact gm1 (by simp)
  ·exact FY g.len g.bd m hm
  ·exact gm1 (by simp)
  ·exact xV g.lb l12 m hm
  ·exact⟨zi,by decide⟩
  ·exact xV g.hb h12 m hm
  ·exact gm1 (by simp)
 ·intro us rest hu;obtain⟨o,u,rfl,qo,hu⟩:=map_cons hu;obtain⟨y,z,rfl,hy,hz⟩:=dc hu;obtain⟨v,u,rfl,qv,hu⟩:=map_cons hz;obtain⟨a,z,rfl,ha,hz⟩:=dc hu;obtain⟨dd,u,rfl,qd,hu⟩:=map_cons hz;obtain⟨b,e,rfl,hb,he⟩:=dc hu;obtain⟨w,rfl,qw⟩:=db he;unfold bP;rw[if_pos rfl];unfold bo;simp only[Kg,J5,Ko];rw[if_pos (show mhd (o::_)=[40]from qo)];simp only[List.tail_cons];rw[BH g.tr g.len g.bd hy qv];show(if mhd (v::_)=[44]then aQ (bK (a++dd::(b++w::rest))) _ else _)=_;rw[if_pos (show mhd (v::_)=[44]from qv),wl g.lb l12 ha (by rw[show dd.1=[46,46]from qd];decide)];show(if mhd (dd::_)=[46,46]then aQ (bK (b++w::rest)) _ else _)=_;rw[if_pos (show mhd (dd::_)=[46,46]from qd),wl g.hb h12 hb (by rw[show w.1=[41]from qw];decide)];show(if mhd (w::rest)=[41]then _ else _)=_;rw[if_pos (show mhd (w::rest)=[41]from qw)];rfl
 ·have:=g.lb;omega
 ·rcases h12 with h |h<;>rw[h]<;>decide
 ·have:=g.hb;omega
 ·rcases h12 with h |h<;>rw[h]<;>decide
theorem Fl(kp:List Int)(l h:Int×Int):Jn (wRoot::gvM kp l h) (tx (.given kp l h)) :=
 Jn.mk wRoot (Jn.mk [40] ((Fj kp).app (Jn.mk [44] (Jn.lead ((xH l).app (Jn.mk [46,46] ((xH h).app (.one [41])))) (by have:=Gg l;simp[this])))))
theorem g8{r:Nat}{t:PT}(hr:r<=4)(h:∃ms,Gr (rk t) (dep t) ms t/\Jn ms (tx t)):∃ms r',Gr r' (wd r t (dep t)) ms t/\r<=r'/\Jn ms (wn r t (tx t)):=by
 obtain⟨ms,g,j⟩:=h;unfold wn wd;by_cases e:rk t<r
 ·rw[if_pos e,if_pos e];exact⟨_,4,.brk g,hr,Jn.mk [40] (j.app (.one [41]))⟩
 ·rw[if_neg e,if_neg e];exact⟨ms,rk t,g,by omega,j⟩
theorem oM:∀(k n:Nat),n<10^(k+1)->(al n).length<=k+1
 |0,n,h=>by rw[fS (by omega)];exact J3 _
 |k+1,n,h=>by
  by_cases h0:n<10
  ·rw[fS h0];simp
  ·rw[je (by omega),J2];have:=oM k (n/10) (by rw[KM]at h;omega);show _+1<=_;omega
theorem FW{r d:Nat}{ms:List (List Nat)}{t:PT}(h:Gr r d ms t):r<=4:=by cases h<;>decide
theorem dC:∀{t:PT},OkT t->∃ms,Gr (rk t) (dep t) ms t/\Jn ms (tx t)
 |.whole n,h=>⟨_,.whole n (by have:=oM 29 n h;omega),.one _⟩
 |.named w,h=>⟨_,.named w h,.one _⟩
 |.given kp l h,g=>⟨_,FX g,Fl kp l h⟩
 |.minus t,h=>by obtain⟨ms,r,g,hr,j⟩:=g8 (r:=3) (by decide) (dC (t:=t) h);exact⟨_,.minus g hr,.mk [45] j⟩
 |.power t k,h=>by
  obtain⟨ms,r,g,hr,j⟩:=g8 (r:=4) (by decide) (dC (t:=t) h.1)
  have e:r=4:=by have:=FW g;omega
  subst e;exact⟨_,.power g h.2,j.app (.mk [94] (.one _))⟩
 |.rooted t k,h=>by
  obtain⟨ms,g,j⟩:=dC (t:=t) h.1;rcases h.2 with rfl |rfl
  ·exact⟨_,.sq g,Jn.mk wSqrt (Jn.mk [40] (j.app (.one [41])))⟩
  ·exact⟨_,.cb g,Jn.mk wCbrt (Jn.mk [40] (j.app (.one [41])))⟩
 |.sum a b,h=>by obtain⟨ms,g,j⟩:=dC (t:=a) h.1;obtain⟨ms2,r,g2,hr,j2⟩:=g8 (r:=1) (by decide) (dC (t:=b) h.2);exact⟨_,.add (.inl ⟨rfl,rfl⟩) g g2 hr,j.app (Jn.cons 1 [43] (j2.lead g2.ne))⟩
 |.less a b,h=>by obtain⟨ms,g,j⟩:=dC (t:=a) h.1;obtain⟨ms2,r,g2,hr,j2⟩:=g8 (r:=1) (by decide) (dC (t:=b) h.2);exact⟨_,.add (.inr ⟨rfl,rfl⟩) g g2 hr,j.app (Jn.cons 1 [45] (j2.lead g2.ne))⟩
 |.times a b,h=>by obtain⟨ms,r0,g,hr0,j⟩:=g8 (r:=1) (by decide) (dC (t:=a) h.1);obtain⟨ms2,r,g2,hr,j2⟩:=g8 (r:=2) (by decide) (dC (t:=b) h.2);exact⟨_,.mul (.inl ⟨rfl,rfl⟩) g hr0 g2 hr,j.app (Jn.mk [42] j2)⟩
 |.over a b,h=>by obtain⟨ms,r0,g,hr0,j⟩:=g8 (r:=1) (by decide) (dC (t:=a) h.1);obtain⟨ms2,r,g2,hr,j2⟩:=g8 (r:=2) (by decide) (dC (t:=b) h.2);exact⟨_,.mul (.inr ⟨rfl,rfl⟩) g hr0 g2 hr,j.app (Jn.mk [47] j2)⟩
theorem zm{t:PT}(h:OkT t):t.ok/\(∀c∈tx t,c<128)/\∃ms,Gr (rk t) (dep t) ms t/\(mks 0 (tx t)).map (·.1)=ms:=by obtain⟨ms,g,j⟩:=dC h;obtain⟨w1,w2⟩:=g.wfk;exact⟨g.ok,Fm j w2,ms,g,Fk j [] [] rfl (.inl ⟨rfl,rfl⟩) w1 w2⟩
end RM
namespace L2
open PySem PySem.Spec PyProof.Rows
structure PCI(K:PySem.W.Frag)(mg:Str->Option Value)(C:Addr)(x:Str)(fs:List Str):Prop where
 cl:Cls K C
 na:∀f∈fs,NoAttr K C f
 mg:mg x=some (.ref C)
 ha:PySem.W.findIn K (.ref C) "__class__"=some (some (.builtin "object.__class__"))
 hn:PySem.W.specialIn K (.builtin "object.__class__") "__get__"=some (some (.builtin "getset_descriptor.__get__"))
 ht:PySem.W.takesIn K (.builtin "object.__class__")=some true
 hm:PySem.W.mroIn K C (.type "object")=some true
structure RawC(K:PySem.W.Frag)(mg:Str->Option Value)(x:Str)(st:Stmt)(ps:List Str)(f:Addr)(fd:FuncData):Prop where
 fn:Fun K x x st f fd
 mg:mg x=some (.ref f)
 kp:PySem.W.keepIn K (.ref f)=true
 bd:Binds K fd ps []
theorem RawC.calV{P:Program}{w:World}{K:PySem.W.Frag}{mg:Str->Option Value}{base:Heap}{k:Nat}{x:Str}{st:Stmt}{ps:List Str}{sp:Sp}{f:Addr}{fd:FuncData}(r:RawC K mg x st ps f fd)(o:FnOk P w K mg base (CXV P w) k f fd ps sp):CalV P w K mg base k x ps sp f fd:=⟨o,r.mg,r.kp,r.bd⟩
theorem RawC.cal{P:Program}{w:World}{K:PySem.W.Frag}{mg:Str->Option Value}{base:Heap}{k:Nat}{x:Str}{st:Stmt}{ps:List Str}{sp:Sp}{f:Addr}{fd:FuncData}(r:RawC K mg x st ps f fd)(o:FnOk P w K mg base CX0 k f fd ps sp):Cal P w K mg base k x ps sp f fd:=⟨o,r.mg,r.kp,r.bd⟩
def bE(C:Addr)(f1:Str):Sp:=λvs H Q _=>∃(x dx:Addr) (a:V),vs=[.ref x,a]/\H x=some (.ins C dx [])/\Q .non (upd H x (.ins C dx (aT f1 a [])))
def aP(C:Addr)(f1 f2:Str):Sp:=λvs H Q _=>∃(x dx:Addr) (a b:V),vs=[.ref x,a,b]/\H x=some (.ins C dx [])/\Q .non (upd H x (.ins C dx (aT f2 b (aT f1 a []))))
theorem lB{C:Addr}{f1:Str}{H1:Hp}{q:Addr->Hp->Prop}{E:XK}{a:V}(h:∀(x:Addr) (H':Hp) (dx:Addr),Same H1 H'->H1 x=none->H' x=some (.ins C dx (aT f1 a []))->q x H'):∀x dx:Addr,H1 x=none->H1 dx=none->dx≠x->bE C f1 (.ref x::([a]++[])) (upd (upd H1 dx (.own x)) x (.ins C dx [])) (λv H2=>v=.non/\q x H2) E:=λx dx nx ndx ne=>by refine⟨x,dx,a,rfl,ap,rfl,h x _ dx ?_ nx ap⟩;intro b o e;rw[upd_ne (aU e nx),upd_ne (aU e nx),upd_ne (aU e ndx)];exact e
theorem du{C:Addr}{f1 f2:Str}{H1:Hp}{q:Addr->Hp->Prop}{E:XK}{a b:V}(h:∀(x:Addr) (H':Hp) (dx:Addr),Same H1 H'->H1 x=none->H' x=some (.ins C dx (aT f2 b (aT f1 a [])))->q x H'):∀x dx:Addr,H1 x=none->H1 dx=none->dx≠x->aP C f1 f2 (.ref x::([a,b]++[])) (upd (upd H1 dx (.own x)) x (.ins C dx [])) (λv H2=>v=.non/\q x H2) E:=λx dx nx ndx ne=>by refine⟨x,dx,a,b,rfl,ap,rfl,h x _ dx ?_ nx ap⟩;intro b o e;rw[upd_ne (aU e nx),upd_ne (aU e nx),upd_ne (aU e ndx)];exact e
theorem qR{M:Model}{Γ:PySem.Ctx}{p:Pos}{t:Sem Fin}{fs:List Frame}{s s':Shared}{e:End}(h:Runs M Γ p t fs s e s'):s.toks<=s'.toks:=by
 induction h<;>first
  |exact J3 _
  | (rename_i ih1 ih2;exact J7 ih1 ih2)
  | (rename_i ih;exact ih)
  | (rename_i ih;exact Nat.le_of_succ_le ih)
theorem zk{M:Model}{Γ:PySem.Ctx}{p:Pos}{g:Nat}{r:Resume}{s s':Shared}{res:GenResult}(h:Wakes M Γ p g r s res s'):s.toks<=s'.toks:=by
 unfold Wakes at h
 split at h
 ·exact h.elim
 ·split at h
  ·obtain⟨e1,s1,hr,_,_,rfl⟩:=h;exact(show(s.setGen g GenState.running).toks<=s1.toks from qR hr)
  ·rw[h.2];exact J3 _
  ·rw[h.2];exact J3 _
 ·obtain⟨e1,s1,hr,_,_,rfl⟩:=h;exact(show(s.setGen g GenState.running).toks<=s1.toks from qR hr)
 ·rw[h.2];exact J3 _
 ·rw[h.2];exact J3 _
theorem pN{α:Type}(M:Model)(Γ:PySem.Ctx)(n:Nat)(t:Sem α):∀{Q:α->Pos->Shared->Prop} {E:Value->Pos->Shared->Prop} {p:Pos} {s:Shared},n<=s.toks->Sem.wp M Γ t Q E p s->Sem.wp M Γ t (λa p' s'=>Q a p' s'/\n<=s'.toks) E p s:=by
 induction t with
 |pure a=>intro Q E p s hn h;rw[Sem.wp]at h ⊢;exact⟨h,hn⟩
 |raise e=>intro Q E p s hn h;rw[Sem.wp]at h ⊢;exact h
 |unsupported x=>intro Q E p s hn h;rw[Sem.wp]at h;exact h.elim
 |finish x=>intro Q E p s hn h;rw[Sem.wp]at h;exact h.elim
 |rule tag k ih=>intro Q E p s hn h;rw[Sem.wp]at h ⊢;exact ih () hn h
 | «at» pos k ih=>intro Q E p s hn h;rw[Sem.wp]at h ⊢;exact ih () hn h
 |load a part k ih =>intro Q E p s hn h;rw[Sem.wp]at h ⊢;obtain⟨o,e,h⟩:=h;exact⟨o,e,ih o hn h⟩
 |update a part f k ih=>intro Q E p s hn h;rw[Sem.wp]at h ⊢;exact⟨h.1,ih () hn h.2⟩
 |alloc o k ih=>intro Q E p s hn h;rw[Sem.wp]at h ⊢;exact ih _ hn h
 |loadIfAlive a k ih=>intro Q E p s hn h;rw[Sem.wp]at h ⊢;exact ih _ hn h
 |point l k ih=>intro Q E p s hn h;rw[Sem.wp]at h ⊢;exact ih () hn h
 |register a k ih=>intro Q E p s hn h;rw[Sem.wp]at h;exact h.elim
 |fresh k ih=>intro Q E p s hn h;rw[Sem.wp]at h ⊢;exact ih _ (Nat.le_succ_of_le hn) h
 |ask k ih=>intro Q E p s hn h;rw[Sem.wp]at h ⊢;exact ih _ hn h
 |choose src m k ih=>intro Q E p s hn h;rw[Sem.wp]at h ⊢;exact⟨h.1,ih _ hn h.2⟩
 |os q l k ih=>intro Q E p s hn h;rw[Sem.wp]at h ⊢;exact ih _ hn h
 |call c hd g l k ih =>intro Q E p s hn h;rw[Sem.wp]at h ⊢;obtain⟨r,s1,hr,h⟩:=h;exact⟨r,s1,hr,ih r (J7 hn (qR hr)) h⟩
 |handled own k ih=>intro Q E p s hn h;rw[Sem.wp]at h ⊢;exact ih _ hn h
 |newGen c k ih=>intro Q E p s hn h;rw[Sem.wp]at h ⊢;exact ih _ hn h
 |genState g k ih =>intro Q E p s hn h;rw[Sem.wp]at h ⊢;obtain⟨st,e,h⟩:=h;exact⟨st,e,ih _ hn h⟩
 |resume g r l k ih =>intro Q E p s hn h;rw[Sem.wp]at h ⊢;obtain⟨res,s1,hw,h⟩:=h;exact⟨res,s1,hw,ih res (J7 hn (zk hw)) h⟩
 |yield v g l k ih=>intro Q E p s hn h;rw[Sem.wp]at h;exact h.elim
 |stack k ih=>intro Q E p s hn h;rw[Sem.wp]at h ⊢;exact ih _ hn h
 |fork c k ih=>intro Q E p s hn h;rw[Sem.wp]at h;exact h.elim
 |thread k ih=>intro Q E p s hn h;rw[Sem.wp]at h ⊢;exact ih _ hn h
 |await a tk tm l k ih=>intro Q E p s hn h;rw[Sem.wp]at h;exact h.elim
def Inc{α:Type}(t:Sem α):Prop:=∀(M:Model) (Γ:PySem.Ctx) (Q:α->Pos->Shared->Prop) (E:Value->Pos->Shared->Prop) (p:Pos) (s:Shared),Sem.wp M Γ t Q E p s->Sem.wp M Γ t (λa p' s'=>Q a p' s'/\1<=s'.toks) E p s
theorem FJ{α:Type}{k:Tok->Sem α}:Inc (.fresh k):=λM Γ Q E p s h=>by rw[Sem.wp]at h ⊢;exact pN M Γ 1 _ (Nat.le_add_left 1 _) h
theorem mV{α β:Type}{t:Sem α}{f:α->Sem β}(h:Inc t):Inc (t >>= f):=λM Γ Q E p s w=>by rw[Sem.wp_bind']at w ⊢;exact Sem.wp_mono M Γ _ (λa p1 s1 w1=>pN M Γ 1 _ w1.2 w1.1) (λ_ _ _ x=>x) _ _ (h M Γ _ E p s w)
theorem xK{α β:Type}{t:Sem α}{f:α->Sem β}(h:∀a,Inc (f a)):Inc (t >>= f):=λM Γ Q E p s w=>by rw[Sem.wp_bind']at w ⊢;exact Sem.wp_mono M Γ _ (λa p1 s1 w1=>h a M Γ _ E p1 s1 w1) (λ_ _ _ x=>x) _ _ w
theorem FI{α:Type}{t:Sem α}{vs:List Value}(h:Inc t):Inc (holding vs t):=λM Γ Q E p s w=>by rw[Sem.wp_holding]at w ⊢;exact h M Γ Q E p s w
theorem FF{x:Str}{j:Nat}{pos:Pos}{env:Env}:Inc (eval (.Constant (.str x) j pos) env):=by show Inc (PySem.fresh >>= λt=>pure (Value.str x t));exact mV FJ
theorem FH{x:Str}{j:Nat}{p pos:Pos}{es:List Expr}{env:Env}:Inc (eval (.List (.Constant (.str x) j p::es) pos) env):=by
 show Inc (standAt pos >>= λ_=>spliced ((false,eval (.Constant (.str x) j p) env)::backTo pos (starEach es env)) >>= λvs=>newList vs);refine xK λ_=>mV ?_
 rw[spliced];exact mV FF
theorem FE{v i:Expr}{pos:Pos}{env:Env}(h:Inc (eval v env)):Inc (eval (.Subscript v i pos) env):=by rw[eval_Subscript];exact mV h
theorem FG{l r:Expr}{op:Operator}{pos:Pos}{env:Env}(h:Inc (eval r env)):Inc (eval (.BinOp l op r pos) env):=by rw[eval_BinOp];exact xK λa=>mV (FI h)
section
variable {X:Cx}{a b:Expr}{ta tb:TE}{pos:Pos}
noncomputable def PEt(X:Cx)(e:Expr)(t:TE):Prop :=
 ∀(pins:List (Addr×Obj)) (s:Shared) (σ:St) (H:Hp) (Q:VK),Inv X pins σ H s->1<=s.toks->t σ H Q->wpAny (model X.prog X.w) X.A (eval e X.env) (EP X pins σ Q) X.xe s
theorem BT{op:Operator}{r:R2}(ho:OpR X (binaryOp op) r)(ha:PE X a ta)(hi:Inc (eval a X.env))(hb:PEt X b tb):PE X (.BinOp a op b pos) (tOp r ta tb):=by
 intro pins s σ H Q I h;refine wpAny_BinOp ?_;have hA:=ha pins s σ H _ I h;have hA':wpAny (model X.prog X.w) X.A (eval a X.env) (λv s1=>EP X pins σ _ v s1/\1<=s1.toks) X.xe s:=λΓ p hΓ=>hi _ Γ _ _ p s (hA Γ p hΓ)
 refine thn hA' λv s1 ⟨⟨x,H1,I1,r1,q1⟩,h1⟩=>?_
 refine thn (hb pins s1 σ H1 _ I1 h1 q1) λu s2 ⟨y,H2,I2,r2,q2⟩=>?_
 exact ho pins s2 σ H2 x y v u Q I2 r1 r2 q2
end
open PySem.Builtin PySem.Builtin.Str in
theorem xY(x y z:Str)(k:Int)(t u v q:Tok)(hk:(decide (k < -(2^63:Int)) ||decide (k≥2^63))=false)(h0:(u == 0 ||v == 0)=false)(huv:(u == v)=false)(hyz:(y == z)=false)
 (hl:tooLong (x.length+(occurrences x y 0 x.length (if k<0 then x.length+1 else k.toNat)).length*z.length)=false) :
 Gives («str.replace» ⟨[.str x t,.str y u,.str z v,.int k q],[]⟩) (if((occurrences x y 0 x.length (if k<0 then x.length+1 else k.toNat)).isEmpty || (y.length == 0&&z.length == 0))=true then .val (.str x t)else .str (glued z (partsBetween x (occurrences x y 0 x.length (if k<0 then x.length+1 else k.toNat)) y.length))):=by
 show Gives (do let limit <- countLimit "str.replace" (some (.int k q)) (x.length+1);_) _;rw[countLimit_int "str.replace" k q (x.length+1) hk];generalize (if k<0 then x.length+1 else k.toNat)=lim at hl ⊢
 show Gives (if((occurrences x y 0 x.length lim).isEmpty || (y.length == 0&&z.length == 0))=true then(do rule "str.replace.nothing";ret (.str x t))else
  (do let same <- isSame (.str y u) (.str z v)
      if same=true then(do rule "str.replace.old-is-new";ret (.str x t))else
      if tooLong (x.length+(occurrences x y 0 x.length lim).length*z.length)=true then unsupported "str.replace:memory" else
      retStr (glued z (partsBetween x (occurrences x y 0 x.length lim) y.length)))) _
 cases hc:((occurrences x y 0 x.length lim).isEmpty || (y.length == 0&&z.length == 0))
 ·rw[isSame_str_other y z u v h0 huv hyz,hl];exact .of_eq rfl
 ·exact .rule (.of_eq rfl)
open PySem.Builtin PySem.Builtin.Str in
theorem DC(x y:Str):occurrences x y 0 x.length 0=[]:=Ld.mp (Nat.le_zero.mp (StrLaws.occ_length_le x y 0 x.length 0))
open PySem.Builtin PySem.Builtin.Str in
theorem wD(x y:Str)(hi lim:Nat):∀(l:List Nat) (st:Array Nat×Nat),lim<=st.fst.size->(forIn l st (StrLaws.occBody x y hi lim)).run.fst=st.fst
 | [],st,h=>rfl
 |a::l,st,h=>by rw[List.forIn_cons];unfold StrLaws.occBody;rw[if_neg (λz=>by omega)];exact wD x y hi lim l (st.fst,st.snd) h
open PySem.Builtin PySem.Builtin.Str in
theorem DD{c:Nat}{l:List Nat}:occurrences ⟨(c::l).toArray⟩ ⟨#[c]⟩ 0 (⟨(c::l).toArray⟩:Str).length 1=[0]:=by
 have e:(⟨(c::l).toArray⟩:Str).length=l.length+1:=by unfold Str.length;simp
 have e1:(⟨#[c]⟩:Str).length=1:=rfl;rw[StrLaws.occ_eq,e,Nat.sub_zero,List.range'_succ,List.forIn_cons];have hs:subAt ⟨(c::l).toArray⟩ ⟨#[c]⟩ 0=true:=by unfold subAt;rw[e1];simp
 unfold StrLaws.occBody;rw[if_pos ⟨⟨⟨by decide,J3 _⟩,by rw[e1];omega⟩,hs⟩];have:=wD ⟨(c::l).toArray⟩ ⟨#[c]⟩ (l.length+1) 1 (List.range' (0+1) (l.length+1)) (#[0],0+(⟨#[c]⟩:Str).length) (J3 _);unfold StrLaws.occBody at this
 exact congrArg Array.toList this
open PySem.Builtin PySem.Builtin.Str in
theorem FZ{c:Nat}{l:List Nat}:glued Str.empty (partsBetween ⟨(c::l).toArray⟩ [0] 1)=⟨l.toArray⟩:=by
 unfold glued partsBetween strSub;have e:(⟨(c::l).toArray⟩:Str).length=l.length+1:=by unfold Str.length;simp
 rw[e];simp[Str.empty]
def zL(to te:TE):TE:=λσ H Q=>to σ H λx H1=>∃w,x=.str w/\te σ H1 λn H2=>∃i:Int,n=.int i/\w.length<=100000/\((i=0/\Q (.str w) H2)\/(i=1/\∃l:List Nat,w=⟨(45::l).toArray⟩/\Q (.str ⟨l.toArray⟩) H2))
section
variable {X:Cx}{o e:Expr}{to te:TE}{apos cpos p1 p2:Pos}{j1 j2:Nat}
open PySem.Builtin PySem.Builtin.Str in
theorem BR(ho:PE X o to)(he:PE X e te)(hbase:attributeBase o "replace" X.env (eval o X.env)=eval o X.env:=by rfl)
 (hfew:((backTo cpos (starEach [.Constant (.str "-") j1 p1,.Constant (.str "") j2 p2,e] X.env)).all (λx=>!x.1)&&(backToKw cpos (keywordEach [] X.env)).all (λx=>x.1.isSome)
   && decide ([Expr.Constant (.str "-") j1 p1,.Constant (.str "") j2 p2,e].length+([]:List Keyword).length+(if([]:List Keyword).isEmpty then 0 else 1)<30))=true:=by rfl)
 (hline:(apos.endLine == cpos.line)=true:=by rfl)
 (hs:backTo cpos (starEach [.Constant (.str "-") j1 p1,.Constant (.str "") j2 p2,e] X.env)=[(false,eval (.Constant (.str "-") j1 p1) X.env),(false,eval (.Constant (.str "") j2 p2) X.env),(false,eval e X.env)]:=by rfl) :
 PEt X (.Call (.Attribute o "replace" apos) [.Constant (.str "-") j1 p1,.Constant (.str "") j2 p2,e] [] cpos) (zL to te):=by
 intro pins s σ H Q I h0 h;refine wpAny_Call_method_late hbase hfew hline hs ?_;have hA:=ho pins s σ H _ I h;have hA':wpAny (model X.prog X.w) X.A (eval o X.env) (λv s1=>EP X pins σ _ v s1/\1<=s1.toks) X.xe s:=λΓ p hΓ=>pN _ Γ 1 _ h0 (hA Γ p hΓ)
 refine thn hA' λv s1 ⟨⟨x,H1,I1,r1,q1⟩,h1⟩=>?_
 obtain⟨w,rfl,q1⟩:=q1;obtain⟨t,rfl⟩:=r1;refine⟨"str","str.replace",PySem.F.plainAttrs_str,PySem.F.slot_str_replace,PySem.F.type_str_replace,typeIs_str _ _ _,(λa h=>(by cases h)),?_⟩;refine Calls.callWith_builtin rfl (Calls.evalArgs_plain ?_);refine Calls.spliced_cons (Calls.Constant_str (Calls.spliced_cons (Calls.Constant_str (Calls.spliced_cons ?_))));refine thn (he pins _ σ H1 _ ((I1.tok _).tok _) q1) λu s2 ⟨n,H2,I2,r2,q2⟩=>Calls.spliced_nil ?_
 obtain⟨i,rfl,hw,hi⟩:=q2;obtain⟨tn,rfl⟩:=r2
 have k0:(s1.toks == 0 ||s1.toks+1 == 0)=false:=by rw[Bool.or_eq_false_iff];exact⟨beq_eq_false_iff_ne.mpr (by omega),beq_eq_false_iff_ne.mpr (by omega)⟩
 have k1:(s1.toks == s1.toks+1)=false:=beq_eq_false_iff_ne.mpr (by omega);have k2:(("-":Str) == ("":Str))=false:=by decide
 have k3:(("":Str)).length=0:=by decide
 have big:=sizeLine_eq
 have kl:∀m:Nat,tooLong (w.length+m*(("":Str)).length)=false:=λm=>by rw[k3,Nat.mul_zero];unfold tooLong;exact decide_eq_false (by omega)
 rcases hi with⟨rfl,q⟩ |⟨rfl,l,rfl,q⟩
 ·refine call_gives F.slot_str_replace (typeIs_str _ _ _) F.entry_str_replace (F.args_str_replace_4 _ _ _ _) (xY w "-" "" 0 t _ _ tn (by decide) k0 k1 k2 (kl _)) ?_;rw[if_pos (by show((occurrences w "-" 0 w.length 0).isEmpty ||_)=true;rw[DC];rfl)];exact⟨.str w,H2,I2,⟨t,rfl⟩,q⟩
 ·refine call_gives F.slot_str_replace (typeIs_str _ _ _) F.entry_str_replace (F.args_str_replace_4 _ _ _ _) (xY _ "-" "" 1 t _ _ tn (by decide) k0 k1 k2 (kl _)) ?_;have ed:("-":Str)=⟨#[45]⟩:=by decide +kernel
  have ee:("":Str)=Str.empty:=by decide +kernel
  have e1:(if(1:Int)<0 then(⟨(45::l).toArray⟩:Str).length+1 else(1:Int).toNat)=1:=rfl;rw[e1,ed,ee,DD,if_neg (by simp[Str.length]),show(⟨#[45]⟩:Str).length=1 from rfl,FZ];refine⟨?_,⟨.str _,H2,I2.tok _,⟨_,rfl⟩,q⟩⟩;have:(⟨(45::l).toArray⟩:Str).length=l.length+1:=by unfold Str.length;simp
  show(⟨l.toArray⟩:Str).length<=sizeLine;have e2:(⟨l.toArray⟩:Str).length=l.length:=by unfold Str.length;simp
  omega
end
structure RawM(K:PySem.W.Frag)(C:Addr)(m q:Str)(st:Stmt)(ps:List Str)(f:Addr)(fd:FuncData):Prop where
 fn:Fun K m q st f fd
 mt:Meth K C m f
 bd:Binds K fd ps []
theorem RawM.mcal{P:Program}{w:World}{K:PySem.W.Frag}{mg:Str->Option Value}{base:Heap}{k:Nat}{C:Addr}{m q:Str}{st:Stmt}{ps:List Str}{sp:Sp}{f:Addr}{fd:FuncData}(r:RawM K C m q st ps f fd)(o:FnOk P w K mg base CX0 k f fd ps sp):MCal P w K mg base k C m ps sp f fd:=⟨o,r.mt,r.bd⟩
noncomputable def mS(K:PySem.W.Frag)(as:List Addr):Bool:=as.zipIdx.all λa=>as.zipIdx.all λb=>PySem.W.kitOne K (.ref a.1) (.ref b.1) == some (a.2 == b.2)
theorem Fq{K:PySem.W.Frag}{as:List Addr}(h:mS K as=true){i j:Nat}{a b:Addr}(ha:as[i]?=some a)(hb:as[j]?=some b):PySem.W.kitOne K (.ref a) (.ref b)=some (i == j):=by
 unfold mS at h
 rw[Kp]at h;have h1:=h (a,i) (List.mem_zipIdx_iff_getElem?.mpr ha);rw[Kp]at h1;exact eq_of_beq (h1 (b,j) (List.mem_zipIdx_iff_getElem?.mpr hb))
end L2
namespace RM
theorem Gd{a b:Int}(ha:0<=a)(hb:0<b):Nat.gcd b.natAbs (a%b).natAbs=Nat.gcd a.natAbs b.natAbs:=by
 have e:(a%b).natAbs=a.natAbs%b.natAbs:=by obtain⟨x,rfl⟩:=Int.eq_ofNat_of_zero_le ha;obtain⟨y,rfl⟩:=Int.eq_ofNat_of_zero_le (Int.le_of_lt hb);rfl
 rw[e,Nat.gcd_comm,<- Nat.gcd_rec,Nat.gcd_comm]
end RM
open PySem.W in
local macro_rules | `(tactic|walk_at "comp_ok")=>`(tactic|exact⟨by with_unfolding_all rfl,by decide +kernel,rfl,by decide +kernel,by repeat' (first |exact Ky _ |refine Kn.2 ⟨rfl,?_⟩),by rfl,by repeat' (first |exact .nil |refine .cons ⟨rfl,by first |exact Or.inl rfl |exact Or.inr rfl,rfl⟩ ?_)⟩)
namespace R63
open PySem L2 RM
noncomputable def top(i:Nat):Stmt:=PySem.Challenge.pw_rootspan_k63_tree_text_and_back.main.body.getD i (.Pass ⟨0,0,0,0⟩)
abbrev kU:Stmt:=bj (top 5) 0
abbrev j9:Stmt:=top 11
abbrev ka:Stmt:=top 12
abbrev jW:Stmt:=top 13
abbrev kg:Stmt:=top 14
abbrev kf:Stmt:=top 15
abbrev ke:Stmt:=top 16
abbrev jV:Stmt:=top 18
abbrev jT:Stmt:=top 20
abbrev kR:Stmt:=bj (top 21) 0
abbrev kQ:Stmt:=bj (top 21) 8
abbrev j8:Stmt:=top 23
abbrev kh:Stmt:=top 24
abbrev kj:Stmt:=top 25
abbrev ki:Stmt:=top 26
abbrev kD:Stmt:=bj (top 29) 0
abbrev gu:Stmt:=bj (top 29) 2
abbrev kZ:Stmt:=bj (top 30) 0
abbrev gD:Stmt:=bj (top 30) 2
abbrev kW:Stmt:=bj (top 31) 0
abbrev gA:Stmt:=bj (top 31) 2
abbrev kX:Stmt:=bj (top 32) 0
abbrev gB:Stmt:=bj (top 32) 2
abbrev kF:Stmt:=bj (top 33) 0
abbrev gw:Stmt:=bj (top 33) 2
abbrev kY:Stmt:=bj (top 34) 0
abbrev gC:Stmt:=bj (top 34) 2
abbrev kE:Stmt:=bj (top 35) 0
abbrev gv:Stmt:=bj (top 35) 2
abbrev kT:Stmt:=bj (top 36) 0
abbrev gz:Stmt:=bj (top 36) 2
abbrev kS:Stmt:=bj (top 37) 0
abbrev gy:Stmt:=bj (top 37) 2
abbrev kG:Stmt:=bj (top 38) 0
abbrev gx:Stmt:=bj (top 38) 2
abbrev gc:Stmt:=top 39
abbrev gm:Stmt:=top 40
abbrev gp:Stmt:=top 41
abbrev gq:Stmt:=top 42
abbrev gk:Stmt:=top 43
abbrev j7:Stmt:=top 44
abbrev jU:Stmt:=top 45
abbrev kP:Stmt:=bj (top 49) 0
abbrev kI:Stmt:=bj (top 49) 1
abbrev kO:Stmt:=bj (top 49) 2
abbrev kH:Stmt:=bj (top 49) 3
abbrev kJ:Stmt:=bj (top 49) 4
abbrev kN:Stmt:=bj (top 49) 5
abbrev kL:Stmt:=bj (top 49) 6
abbrev kM:Stmt:=bj (top 49) 7
abbrev kK:Stmt:=bj (top 49) 8
abbrev j6:Stmt:=top 50
abbrev fO:Stmt:=top 51
abbrev gd:Stmt:=top 52
abbrev gg:Stmt:=top 53
abbrev gf:Stmt:=top 54
abbrev j5:Stmt:=top 55
abbrev gj:Stmt:=top 56
abbrev gh:Stmt:=top 57
abbrev j3:Stmt:=top 58
abbrev jY:Stmt:=top 59
abbrev jZ:Stmt:=top 60
abbrev j0:Stmt:=top 61
abbrev j4:Stmt:=top 62
abbrev jX:Stmt:=top 63
abbrev ko:Stmt:=top 65
abbrev km:Stmt:=top 66
abbrev kx:Stmt:=top 67
abbrev kt:Stmt:=top 68
abbrev ku:Stmt:=top 69
abbrev kv:Stmt:=top 70
abbrev kB:Stmt:=top 71
abbrev kn:Stmt:=top 72
abbrev kC:Stmt:=top 73
abbrev kA:Stmt:=top 74
abbrev ky:Stmt:=top 75
abbrev kz:Stmt:=top 76
abbrev gs:Stmt:=top 77
abbrev kq:Stmt:=top 78
abbrev hV:Stmt:=top 79
abbrev gt:Stmt:=top 80
abbrev gl:Stmt:=top 81
theorem A2:FnScope ["self","at"] ["self","at"] (ae kU):=⟨rfl,rfl,rfl,by decide +kernel,rfl,by decide +kernel,by decide +kernel⟩
theorem sc_marks_of:FnScope ["text","found","at","end"] ["text"] (ae j9):=⟨rfl,rfl,rfl,by decide +kernel,rfl,by decide +kernel,by decide +kernel⟩
theorem sc_mark_end:FnScope ["text","at","signs"] ["text","at"] (ae ka):=⟨rfl,rfl,rfl,by decide +kernel,rfl,by decide +kernel,by decide +kernel⟩
theorem sc_run_end:FnScope ["text","at","signs","end"] ["text","at","signs"] (ae jW):=⟨rfl,rfl,rfl,by decide +kernel,rfl,by decide +kernel,by decide +kernel⟩
theorem AC:FnScope ["word"] ["word"] (ae kg):=⟨rfl,rfl,rfl,by decide +kernel,rfl,by decide +kernel,by decide +kernel⟩
theorem Ay:FnScope ["word"] ["word"] (ae kf):=⟨rfl,rfl,rfl,by decide +kernel,rfl,by decide +kernel,by decide +kernel⟩
theorem Ax:FnScope ["word","signs"] ["word","signs"] (ae ke):=⟨rfl,rfl,rfl,by decide +kernel,rfl,by decide +kernel,by decide +kernel⟩
theorem sc_shared_by_two:FnScope ["one","other","greater","less","rest"] ["one","other"] (ae jV):=⟨rfl,rfl,rfl,by decide +kernel,rfl,by decide +kernel,by decide +kernel⟩
theorem sc_whole_text:FnScope ["value","chunk","rest","pieces"] ["value"] (ae jT):=⟨rfl,rfl,rfl,by decide +kernel,rfl,by decide +kernel,by decide +kernel⟩
theorem sc_Ratio___init__:FnScope ["self","top","bottom","divisor"] ["self","top","bottom"] (ae kR):=⟨rfl,rfl,rfl,by decide +kernel,rfl,by decide +kernel,by decide +kernel⟩
theorem AZ:FnScope ["self"] ["self"] (ae kQ):=⟨rfl,rfl,rfl,by decide +kernel,rfl,by decide +kernel,by decide +kernel⟩
theorem sc_poly:FnScope ["row","length"] ["row"] (ae j8):=⟨rfl,rfl,rfl,by decide +kernel,rfl,by decide +kernel,by decide +kernel⟩
theorem AE:FnScope ["row"] ["row"] (ae kh):=⟨rfl,rfl,rfl,by decide +kernel,rfl,by decide +kernel,by decide +kernel⟩
theorem sc_added:FnScope ["first","second","length"] ["first","second"] (ae kj):=⟨rfl,rfl,rfl,by decide +kernel,rfl,by decide +kernel,by decide +kernel⟩
theorem AF:FnScope ["row","place"] ["row","place"] (ae ki):=⟨rfl,rfl,rfl,by decide +kernel,rfl,by decide +kernel,by decide +kernel⟩
theorem AM:FnScope ["self","value"] ["self","value"] (ae kD):=⟨rfl,rfl,rfl,by decide +kernel,rfl,by decide +kernel,by decide +kernel⟩
theorem vU:FnScope ["self"] ["self"] (ae gu):=⟨rfl,rfl,rfl,by decide +kernel,rfl,by decide +kernel,by decide +kernel⟩
theorem A6:FnScope ["self","row","low","high"] ["self","row","low","high"] (ae kZ):=⟨rfl,rfl,rfl,by decide +kernel,rfl,by decide +kernel,by decide +kernel⟩
theorem v3:FnScope ["self"] ["self"] (ae gD):=⟨rfl,rfl,rfl,by decide +kernel,rfl,by decide +kernel,by decide +kernel⟩
theorem A3:FnScope ["self","word"] ["self","word"] (ae kW):=⟨rfl,rfl,rfl,by decide +kernel,rfl,by decide +kernel,by decide +kernel⟩
theorem vZ:FnScope ["self"] ["self"] (ae gA):=⟨rfl,rfl,rfl,by decide +kernel,rfl,by decide +kernel,by decide +kernel⟩
theorem A4:FnScope ["self","one"] ["self","one"] (ae kX):=⟨rfl,rfl,rfl,by decide +kernel,rfl,by decide +kernel,by decide +kernel⟩
theorem v1:FnScope ["self"] ["self"] (ae gB):=⟨rfl,rfl,rfl,by decide +kernel,rfl,by decide +kernel,by decide +kernel⟩
theorem AO:FnScope ["self","one","other"] ["self","one","other"] (ae kF):=⟨rfl,rfl,rfl,by decide +kernel,rfl,by decide +kernel,by decide +kernel⟩
theorem vW:FnScope ["self"] ["self"] (ae gw):=⟨rfl,rfl,rfl,by decide +kernel,rfl,by decide +kernel,by decide +kernel⟩
theorem A5:FnScope ["self","one","other"] ["self","one","other"] (ae kY):=⟨rfl,rfl,rfl,by decide +kernel,rfl,by decide +kernel,by decide +kernel⟩
theorem v2:FnScope ["self"] ["self"] (ae gC):=⟨rfl,rfl,rfl,by decide +kernel,rfl,by decide +kernel,by decide +kernel⟩
theorem AN:FnScope ["self","one","other"] ["self","one","other"] (ae kE):=⟨rfl,rfl,rfl,by decide +kernel,rfl,by decide +kernel,by decide +kernel⟩
theorem vV:FnScope ["self"] ["self"] (ae gv):=⟨rfl,rfl,rfl,by decide +kernel,rfl,by decide +kernel,by decide +kernel⟩
theorem A1:FnScope ["self","one","other"] ["self","one","other"] (ae kT):=⟨rfl,rfl,rfl,by decide +kernel,rfl,by decide +kernel,by decide +kernel⟩
theorem vY:FnScope ["self"] ["self"] (ae gz):=⟨rfl,rfl,rfl,by decide +kernel,rfl,by decide +kernel,by decide +kernel⟩
theorem A0:FnScope ["self","one","exponent"] ["self","one","exponent"] (ae kS):=⟨rfl,rfl,rfl,by decide +kernel,rfl,by decide +kernel,by decide +kernel⟩
theorem vX:FnScope ["self"] ["self"] (ae gy):=⟨rfl,rfl,rfl,by decide +kernel,rfl,by decide +kernel,by decide +kernel⟩
theorem AQ:FnScope ["self","one","exponent"] ["self","one","exponent"] (ae kG):=⟨rfl,rfl,rfl,by decide +kernel,rfl,by decide +kernel,by decide +kernel⟩
theorem sc_Rooted_text:FnScope ["self","word"] ["self"] (ae gx):=⟨rfl,rfl,rfl,by decide +kernel,rfl,by decide +kernel,by decide +kernel⟩
theorem Aq:FnScope ["tree","bare"] ["tree","bare"] (ae gc):=⟨rfl,rfl,rfl,by decide +kernel,rfl,by decide +kernel,by decide +kernel⟩
theorem Az:FnScope ["tree"] ["tree"] (ae gm):=⟨rfl,rfl,rfl,by decide +kernel,rfl,by decide +kernel,by decide +kernel⟩
theorem AB:FnScope ["tree"] ["tree"] (ae gp):=⟨rfl,rfl,rfl,by decide +kernel,rfl,by decide +kernel,by decide +kernel⟩
theorem AD:FnScope ["tree"] ["tree"] (ae gq):=⟨rfl,rfl,rfl,by decide +kernel,rfl,by decide +kernel,by decide +kernel⟩
theorem sc_product_text:FnScope ["one","mark","other","ahead"] ["one","mark","other"] (ae gk):=⟨rfl,rfl,rfl,by decide +kernel,rfl,by decide +kernel,by decide +kernel⟩
theorem sc_poly_text:FnScope ["row","found","place"] ["row"] (ae j7):=⟨rfl,rfl,rfl,by decide +kernel,rfl,by decide +kernel,by decide +kernel⟩
theorem sc_term_text:FnScope ["size","place","end"] ["size","place"] (ae jU):=⟨rfl,rfl,rfl,by decide +kernel,rfl,by decide +kernel,by decide +kernel⟩
theorem AY:FnScope ["self","text"] ["self","text"] (ae kP):=⟨rfl,rfl,rfl,by decide +kernel,rfl,by decide +kernel,by decide +kernel⟩
theorem AR:FnScope ["self"] ["self"] (ae kI):=⟨rfl,rfl,rfl,by decide +kernel,rfl,by decide +kernel,by decide +kernel⟩
theorem AX:FnScope ["self"] ["self"] (ae kO):=⟨rfl,rfl,rfl,by decide +kernel,rfl,by decide +kernel,by decide +kernel⟩
theorem sc_Reading_step:FnScope ["self","mark"] ["self"] (ae kH):=⟨rfl,rfl,rfl,by decide +kernel,rfl,by decide +kernel,by decide +kernel⟩
theorem AS:FnScope ["self","mark"] ["self","mark"] (ae kJ):=⟨rfl,rfl,rfl,by decide +kernel,rfl,by decide +kernel,by decide +kernel⟩
theorem AW:FnScope ["self","mark"] ["self","mark"] (ae kN):=⟨rfl,rfl,rfl,by decide +kernel,rfl,by decide +kernel,by decide +kernel⟩
theorem AU:FnScope ["self"] ["self"] (ae kL):=⟨rfl,rfl,rfl,by decide +kernel,rfl,by decide +kernel,by decide +kernel⟩
theorem AV:FnScope ["self"] ["self"] (ae kM):=⟨rfl,rfl,rfl,by decide +kernel,rfl,by decide +kernel,by decide +kernel⟩
theorem AT:FnScope ["self"] ["self"] (ae kK):=⟨rfl,rfl,rfl,by decide +kernel,rfl,by decide +kernel,by decide +kernel⟩
theorem sc_read:FnScope ["text","reading","tree"] ["text"] (ae j6):=⟨rfl,rfl,rfl,by decide +kernel,rfl,by decide +kernel,by decide +kernel⟩
theorem sc_read_sum:FnScope ["reading","tree"] ["reading"] (ae fO):=⟨rfl,rfl,rfl,by decide +kernel,rfl,by decide +kernel,by decide +kernel⟩
theorem sc_read_product:FnScope ["reading","tree"] ["reading"] (ae gd):=⟨rfl,rfl,rfl,by decide +kernel,rfl,by decide +kernel,by decide +kernel⟩
theorem Au:FnScope ["reading"] ["reading"] (ae gg):=⟨rfl,rfl,rfl,by decide +kernel,rfl,by decide +kernel,by decide +kernel⟩
theorem sc_read_power:FnScope ["reading","tree"] ["reading"] (ae gf):=⟨rfl,rfl,rfl,by decide +kernel,rfl,by decide +kernel,by decide +kernel⟩
theorem Av:FnScope ["reading"] ["reading"] (ae j5):=⟨rfl,rfl,rfl,by decide +kernel,rfl,by decide +kernel,by decide +kernel⟩
theorem Aw:FnScope ["reading"] ["reading"] (ae gj):=⟨rfl,rfl,rfl,by decide +kernel,rfl,by decide +kernel,by decide +kernel⟩
theorem sc_read_brackets:FnScope ["reading","tree"] ["reading"] (ae gh):=⟨rfl,rfl,rfl,by decide +kernel,rfl,by decide +kernel,by decide +kernel⟩
theorem sc_read_given:FnScope ["reading","row","low","high"] ["reading"] (ae j3):=⟨rfl,rfl,rfl,by decide +kernel,rfl,by decide +kernel,by decide +kernel⟩
theorem sc_read_terms:FnScope ["reading","row"] ["reading"] (ae jY):=⟨rfl,rfl,rfl,by decide +kernel,rfl,by decide +kernel,by decide +kernel⟩
theorem sc_read_term:FnScope ["reading","sign","value"] ["reading","sign"] (ae jZ):=⟨rfl,rfl,rfl,by decide +kernel,rfl,by decide +kernel,by decide +kernel⟩
theorem As:FnScope ["reading"] ["reading"] (ae j0):=⟨rfl,rfl,rfl,by decide +kernel,rfl,by decide +kernel,by decide +kernel⟩
theorem sc_read_fraction:FnScope ["reading","sign","top"] ["reading"] (ae j4):=⟨rfl,rfl,rfl,by decide +kernel,rfl,by decide +kernel,by decide +kernel⟩
theorem Ar:FnScope ["reading"] ["reading"] (ae jX):=⟨rfl,rfl,rfl,by decide +kernel,rfl,by decide +kernel,by decide +kernel⟩
theorem AH:FnScope ["_law_found"] ["_law_found"] (ae ko):=⟨rfl,rfl,rfl,by decide +kernel,rfl,by decide +kernel,by decide +kernel⟩
theorem sc__law_word:FnScope ["_law_cell","_law_letters","_law_turn","_law_word_here","_law_k"] ["_law_cell"] (ae km):=⟨rfl,rfl,rfl,by decide +kernel,rfl,by decide +kernel,by decide +kernel⟩
theorem sc__law_given:FnScope ["_law_cell","_law_turn","_law_kp","_law_k"] ["_law_cell"] (ae kx):=⟨rfl,rfl,rfl,by decide +kernel,rfl,by decide +kernel,by decide +kernel⟩
theorem AJ:FnScope ["_law_k"] ["_law_k"] (ae kt):=⟨rfl,rfl,rfl,by decide +kernel,rfl,by decide +kernel,by decide +kernel⟩
theorem sc__law_poly_text:FnScope ["_law_kp","_law_text","_law_k","_law_many","_law_term"] ["_law_kp"] (ae ku):=⟨rfl,rfl,rfl,by decide +kernel,rfl,by decide +kernel,by decide +kernel⟩
theorem AK:FnScope ["_law_many"] ["_law_many"] (ae kv):=⟨rfl,rfl,rfl,by decide +kernel,rfl,by decide +kernel,by decide +kernel⟩
theorem sc__law_atom:FnScope ["_law_cell","_law_value","_law_word_here","_law_tree","_law_text"] ["_law_cell"] (ae kB):=⟨rfl,rfl,rfl,by decide +kernel,rfl,by decide +kernel,by decide +kernel⟩
theorem AG:FnScope ["_law_one","_law_rank"] ["_law_one","_law_rank"] (ae kn):=⟨rfl,rfl,rfl,by decide +kernel,rfl,by decide +kernel,by decide +kernel⟩
theorem sc__law_alone:FnScope ["_law_one","_law_cell","_law_piece","_law_word_here"] ["_law_one","_law_cell"] (ae kC):=⟨rfl,rfl,rfl,by decide +kernel,rfl,by decide +kernel,by decide +kernel⟩
theorem sc__law_both:FnScope ["_law_one","_law_other","_law_cell","_law_op","_law_left","_law_right","_law_text"] ["_law_one","_law_other","_law_cell"] (ae kA):=⟨rfl,rfl,rfl,by decide +kernel,rfl,by decide +kernel,by decide +kernel⟩
theorem AL:FnScope ["_law_one"] ["_law_one"] (ae ky):=⟨rfl,rfl,rfl,by decide +kernel,rfl,by decide +kernel,by decide +kernel⟩
theorem sc__law_drawn:FnScope ["_law_deeds","_law_row","_law_cell","_law_built","_law_tree","_law_other"] ["_law_deeds"] (ae kz):=⟨rfl,rfl,rfl,by decide +kernel,rfl,by decide +kernel,by decide +kernel⟩
theorem sc__law_made:FnScope ["_law_tree","_law_handed","_law_built","_law_one","_law_other"] ["_law_tree"] (ae gs):=⟨rfl,rfl,rfl,by decide +kernel,rfl,by decide +kernel,by decide +kernel⟩
theorem AI:FnScope ["_law_r","_law_top","_law_bottom"] ["_law_r","_law_top","_law_bottom"] (ae kq):=⟨rfl,rfl,rfl,by decide +kernel,rfl,by decide +kernel,by decide +kernel⟩
theorem sc__law_like_leaf:FnScope ["_law_found","_law_tree","_law_one"] ["_law_found","_law_tree"] (ae hV):=⟨rfl,rfl,rfl,by decide +kernel,rfl,by decide +kernel,by decide +kernel⟩
theorem sc__law_like:FnScope ["_law_found","_law_tree","_law_good"] ["_law_found","_law_tree"] (ae gt):=⟨rfl,rfl,rfl,by decide +kernel,rfl,by decide +kernel,by decide +kernel⟩
theorem sc_law:FnScope ["_law_script","_law_drawn_here","_law_tree","_law_turn","_law_text"] ["_law_script"] (ae gl):=⟨rfl,rfl,rfl,by decide +kernel,rfl,by decide +kernel,by decide +kernel⟩
structure Txt(K:PySem.W.Frag)(mg:Str->Option Value):Prop where
 len_:mg "len"=none
 all_:mg "all"=none
 abs_:mg "abs"=none
 str_:mg "str"=none
 max_:mg "max"=none
 range_:mg "range"=none
 list_:mg "list"=none
 isinstance_:mg "isinstance"=none
 int_:mg "int"=none
 bool_:mg "bool"=none
 LONGEST_:∃t:Tok,mg "LONGEST"=some (.int 8 t)
 DEEPEST_:∃t:Tok,mg "DEEPEST"=some (.int 10 t)
 FIGURES_:∃t:Tok,mg "FIGURES"=some (.str "0123456789" t)
 LETTERS_:∃t:Tok,mg "LETTERS"=some (.str "abcdefghijklmnopqrstuvwxyz" t)
 WORDS_:∃a:Addr,mg "WORDS"=some (.ref a)/\∀H,SqT K H a [.str "x",.str "sqrt",.str "cbrt",.str "root"]
 EXPONENTS_:∃a:Addr,mg "EXPONENTS"=some (.ref a)/\∀H,SqT K H a [.str "0",.str "1",.str "2",.str "3",.str "4",.str "5",.str "6",.str "7",.str "8"]
structure EXC(K:PySem.W.Frag)(mg:Str->Option Value)(base:Heap)(CNoText:Addr):Prop where
 mgNoText:mg "NoText"=some (.ref CNoText)
section
variable {P:Program}{w:World}{K:PySem.W.Frag}{mg:Str->Option Value}{base:Heap}
def oB(K:PySem.W.Frag):Sp:=λvs H Q _=>∃(a:Addr) (ns:List Int),vs=[.ref a]/\SqL K H a (ns.map V.int)/\ns.length<=63/\∀H',Q (.bl true) H'
theorem v5(n:Nat):(List.replicate n [V.int 0]).flatten=(List.replicate n (0:Int)).map V.int:=by
 induction n with
 |zero=>rfl
 |succ n ih=>rw[KC,KE,ih,KC];rfl
theorem uq{l:List Int}{j:Nat}{i:Int}(e:i=j)(h:j<l.length):atI (l.map V.int) i=some (.int (cf l j)):=by subst e;exact lQ (by rw[List.getElem?_map,pi h];rfl)
def SameB(p:Addr)(H H':Hp):Prop:=∀b o,b≠p->H b=some o->H' b=some o
theorem SameB.refl(p:Addr)(H:Hp):SameB p H H:=λ_ _ _ h=>h
theorem SameB.then_new{p q:Addr}{H H1:Hp}{o:HO}(s:SameB p H H1)(h:H1 q=none):SameB p H (upd H1 q o):=λb u n e=>by rw[upd_ne (aU (s b u n e) h)];exact s b u n e
def AllB(k:Nat)(l:List Int):Prop:=∀x∈l,Bits k x
theorem AllB.cf{k:Nat}{l:List Int}(h:AllB k l)(n:Nat):Bits k (cf l n):=by
 by_cases hn:n<l.length
 ·rw[lL hn];exact h _ (List.getElem_mem hn)
 ·rw[dE (La hn)];exact Bits.zero
theorem fT{H H2:Hp}{p:Addr}{o:HO}(s:Same H H2)(hp:H p=none):Same H (upd H2 p o):=λb u e=>by rw[upd_ne (aU e hp)];exact s b u e
noncomputable def nO(ms:List Int)(lo hi:Option Int):List Int:=(ms.drop (HT.sIx ms.length 0 lo)).take (HT.sIx ms.length ms.length hi-HT.sIx ms.length 0 lo)
theorem HE(ms:List Int)(lo hi:Option Int):dg (ms.map V.int) lo hi=(nO ms lo hi).map V.int:=by unfold dg nO;rw[J6,<- List.map_drop,<- List.map_take]
theorem AllB.app{k:Nat}{l r:List Int}(h1:AllB k l)(h2:AllB k r):AllB k (l++r):=λx hx=>(Ke.mp hx).elim (h1 x) (h2 x)
theorem AllB.mono{j k:Nat}{l:List Int}(h:AllB j l)(hk:j<=k:=by decide):AllB k l:=λx hx=>(h x hx).mono hk
theorem AllB.nil{k:Nat}:AllB k []:=λ_ h=>nomatch h
theorem AllB.snoc{k:Nat}{l:List Int}{x:Int}(h:AllB k l)(hx:Bits k x):AllB k (l++[x]):=h.app λy hy=>by rw[Kb.mp hy];exact hx
theorem D5{l:List Int}{x:Int}(h:x∈trim l):x∈l:=by
 unfold trim at h
 rw[List.mem_reverse]at h;exact List.mem_reverse.mp ((List.dropWhile_sublist _).subset h)
theorem AllB.trim{k:Nat}{l:List Int}(h:AllB k l):AllB k (trim l):=λx hx=>h x (D5 hx)
theorem xZ{l:List Int}{i:Nat}{x:V}(h:(l.map V.int)[i]?=some x):∃c,l[i]?=some c/\x=.int c/\c∈l/\l.take (i+1)=l.take i++[c]:=by
 rw[List.getElem?_map]at h;cases e:l[i]? with
 |none=>rw[e]at h;cases h
 |some c=>rw[e]at h;exact⟨c,rfl,(Option.some.inj h).symm,List.mem_of_getElem? e,by rw[KR,e];rfl⟩
def mkL(H:Hp)(Q:VK)(r:List Int):Prop:=∀(p:Addr) (H':Hp),Same H H'->H p=none->H' p=some (.lst (r.map V.int))->Q (.ref p) H'
def oy(K:PySem.W.Frag):Sp:=λvs H Q _=>∃(a:Addr) (ns:List Int),vs=[.ref a]/\SqL K H a (ns.map V.int)/\mkL H Q (trim ns)
def qJ(K:PySem.W.Frag):Sp:=λvs H Q _=>∃(a:Addr) (ns:List Int) (k:Nat),vs=[.ref a,.int k]/\SqL K H a (ns.map V.int)/\Q (.int (ns.getD k 0)) H
def qN(K:PySem.W.Frag)(g:List Int->List Int->List Int):Sp:=λvs H Q _=>∃(a b:Addr) (xs ys:List Int),vs=[.ref a,.ref b]/\SqL K H a (xs.map V.int)/\SqL K H b (ys.map V.int)/\xs.length<=1000000/\ys.length<=1000000/\mkL H Q (g xs ys)
theorem D6(i j:Nat):(if((j:Nat):Int)>((i:Nat):Int)then((j:Nat):Int)else((i:Nat):Int))=((max i j:Nat):Int):=by split<;>omega
theorem vN{n:Nat}(h:n<=sizeLine) : -(2^62)<=((n:Nat):Int)/\((n:Nat):Int)<2^62:=by have:=sizeLine_eq;omega
def RwH(H:Hp)(ps:List Addr)(xss:List (List Int)):Prop:=ps.length=xss.length/\∀(i:Nat) (p:Addr) (xs:List Int),ps[i]?=some p->xss[i]?=some xs->H p=some (.lst (xs.map V.int))
theorem RwH.nil{H:Hp}:RwH H [] []:=⟨rfl,λi p xs h=>by simp at h⟩
theorem RwH.same{H H':Hp}{ps:List Addr}{xss:List (List Int)}(h:RwH H ps xss)(s:Same H H'):RwH H' ps xss:=⟨h.1,λi p xs a b=>s _ _ (h.2 i p xs a b)⟩
theorem RwH.snoc{H:Hp}{ps:List Addr}{xss:List (List Int)}{p:Addr}{xs:List Int}(h:RwH H ps xss)(hp:H p=some (.lst (xs.map V.int))):RwH H (ps++[p]) (xss++[xs]):=by
 refine⟨by rw[J2,J2,h.1];rfl,λi q ys a b=>?_⟩;by_cases hi:i<ps.length
 ·rw[List.getElem?_append_left hi]at a;rw[List.getElem?_append_left (by rw[<- h.1];exact hi)]at b;exact h.2 i q ys a b
 ·rw[List.getElem?_append_right (by omega)]at a;rw[List.getElem?_append_right (by rw[<- h.1];omega),<- h.1]at b;by_cases h0:i-ps.length=0
  ·rw[h0]at a b;obtain rfl:p=q:=by simpa using a
   obtain rfl:xs=ys:=by simpa using b
   exact hp
  ·rw[List.getElem?_eq_none_iff.mpr (by simp;omega)]at a;cases a
theorem RwH.get{H:Hp}{ps:List Addr}{xss:List (List Int)}{i:Nat}(h:RwH H ps xss)(hi:i<xss.length):∃p,ps[i]?=some p/\H p=some (.lst ((xss.getD i []).map V.int)):=by
 have hi':i<ps.length:=by rw[h.1];exact hi
 refine⟨ps[i],List.getElem?_eq_getElem hi',h.2 i _ _ (List.getElem?_eq_getElem hi') ?_⟩;rw[List.getElem?_eq_getElem hi];simp[List.getD,hi]
theorem D7(ps:List Addr)(p:Addr):ps.map V.ref++[V.ref p]=(ps++[p]).map V.ref:=by rw[Kl];rfl
theorem iG(i:Int):(if i<0 then -i else i)=(i.natAbs:Int):=by split<;>omega
theorem IQ{l:List Int}(h:l≠[]):atI (l.map V.int) (-1)=some (.int (cf l (l.length-1))):=by
 obtain⟨r,x,rfl⟩:=(vL l).resolve_left h;have e:(r++[x]).length-1=r.length:=by simp
 rw[e,tS,Kl];exact yR _ _
theorem Ct{f:Addr}{fd:FuncData}(F:Fun K "poly" "poly" j8 f fd)(T:Txt K mg):FnOk P w K mg base CX0 1 f fd ["row"] (oy K):=by
 refine F.ok sc_poly (λvs H Q E h=>?_) (λcdv A outer s H vs Q E hr h=>?_)
 ·obtain⟨a,ns,rfl,_⟩:=h;rfl
 ·obtain⟨a,ns,rfl,hS,k⟩:=h
  refine⟨_,(af (ay (i:=1) sc_poly.nd rfl (Or.inl rfl) (aO (dF (K:=K) rfl) (by rfl) T.len_ PySem.boot_len (aa (pv 0) ac)))
   (af (ic PassesOwn.never (PW.pt (ib (aF dq (pv 1) ad (aA _)) (iW (aF bL (aw (bS (K:=K) rfl) (pv 0) (aj gJ (pv 1) ad) (λ_ _=>rfl)) ad (aA _)))))
     (ag (ay (i:=1) sc_poly.nd rfl (Or.inl rfl) (aj gJ (pv 1) ad))))
   (ag (aq (ll (oC (K:=K) rfl) (pv 0) oJ (ie (pv 1))))))),?_⟩
  refine⟨_,rfl,a,_,rfl,.inl hS,?_⟩;refine⟨λm σ' H'=>∃n:Nat,n<=ns.length/\σ'=[some (.ref a),some (.int n)]/\H=H'/\n=m/\trim (ns.take n)=trim ns,⟨_,ns.length,J3 _,?_,rfl,rfl,?_⟩,?_⟩
  ·rw[J6];rfl
  ·rw[List.take_length]
  ·rintro m σ' H' ⟨n,hn,rfl,rfl,rfl,ht⟩
   have fin:trim (ns.take n)=ns.take n->∃v,([some (V.ref a),some (V.int n)]:St)[0]?=some (some v)/\∃v_1,([some (V.ref a),some (V.int n)]:St)[1]?=some (some v_1)/\∃i,v_1=V.int i/\qV K v none (some i) H Q:=λh=>by
    refine⟨_,rfl,_,rfl,n,rfl,a,_,rfl,hS,λp hp=>k p _ (Same.upd_new hp) hp ?_⟩;rw[ap,<- ht,h]
    have e:dg (ns.map V.int) none (some (n:Int))=(ns.take n).map V.int:=by unfold dg;rw[HT.sIx_none,HT.sIx_nat,List.drop_zero,Nat.sub_zero,J6,Nat.min_eq_left hn,List.map_take]
    rw[e]
   refine⟨_,rfl,_,_,rfl,rfl,_,rfl,?_⟩;refine ai (λhp=>?_) (λhp=>?_)
   ·obtain⟨j,rfl⟩:∃j,n=j+1:=⟨n-1,by have:(0:Int)<n:=hp;omega⟩;have hj:j<ns.length:=hn;refine⟨_,rfl,_,rfl,_,_,rfl,rfl,a,_,j,.int (cf ns j),rfl,?_,hS,lQ ?_,_,_,rfl,rfl,_,rfl,?_⟩
    ·show V.int (((j+1:Nat):Int)-1)=V.int j
     congr 1;omega
    ·rw[List.getElem?_map,pi hj];rfl
    refine ai (λh0=>?_) (λh0=>?_)
    ·refine⟨λσ'' H''=>∃m',m'<j+1/\∃n:Nat,n<=ns.length/\σ''=[some (.ref a),some (.int n)]/\H=H''/\n=m'/\trim (ns.take n)=trim ns,λ_ _ h=>h,?_⟩;refine⟨_,rfl,_,_,rfl,rfl,j,Nat.lt_succ_self _,j,Nat.le_of_lt hj,?_,rfl,rfl,?_⟩
     ·show[some (V.ref a),some (V.int (((j+1:Nat):Int)-1))]=[some (V.ref a),some (V.int j)]
      congr 4;omega
     ·rw[<- ht,zu hj h0]
    ·exact fin (zv hj h0)
   ·obtain rfl:n=0:=by have:¬(0:Int)<n:=hp;omega
    exact fin (by rw[List.take_zero];rfl)
theorem CI{f:Addr}{fd:FuncData}(F:Fun K "coefficient" "coefficient" ki f fd)(T:Txt K mg):FnOk P w K mg base CX0 1 f fd ["row","place"] (qJ K):=by
 refine F.ok AF (λvs H Q E h=>?_) (λcdv A outer s H vs Q E hr h=>?_)
 ·obtain⟨a,ns,k,rfl,_⟩:=h;rfl
 ·obtain⟨a,ns,n,rfl,hS,k⟩:=h
  refine⟨_,(af (aH (aF d7 (pv 1) (aO (dF (K:=K) rfl) (by rfl) T.len_ PySem.boot_len (aa (pv 0) ac)) (aA _))
   (ag (aq (aw (bS (K:=K) rfl) (pv 0) (pv 1) (λ_ _=>rfl))))
   aJ)
   (ag (aq ad))),?_⟩
  refine⟨_,rfl,_,rfl,a,_,rfl,.inl hS,_,_,rfl,rfl,_,rfl,?_⟩;refine ai (λh1=>?_) (λh1=>?_)
  ·rw[J6]at h1;have h2:n<ns.length:=by omega
   refine⟨_,rfl,_,rfl,a,_,_,_,rfl,rfl,hS,lQ (v:=.int (ns.getD n 0)) ?_,k⟩;rw[List.getElem?_map,List.getElem?_eq_getElem h2];simp[List.getD,h2]
  ·rw[J6]at h1;have h2:ns.length<=n:=by omega
   have e:ns.getD n 0=0:=by simp[List.getD,List.getElem?_eq_none_iff.mpr h2]
   rw[e]at k;exact k
theorem CJ{f:Addr}{fd:FuncData}(F:Fun K "added" "added" kj f fd)(T:Txt K mg){sX:Addr}{sJ:FuncData}(u0:Cal P w K mg base 1 "poly" ["row"] (oy K) sX sJ){G4:Addr}{GD:FuncData}(JI:Cal P w K mg base 1 "coefficient" ["row","place"] (qJ K) G4 GD):FnOk P w K mg base CX0 2 f fd ["first","second"] (qN K fX):=by
 obtain⟨nW,mF,mP,nQ⟩:=u0;obtain⟨y1,xg,xB,yL⟩:=JI;refine F.ok sc_added (λvs H Q E h=>?_) (λcdv A outer s H vs Q E hr h=>?_)
 ·obtain⟨a,b,xs,ys,rfl,_⟩:=h;rfl
 ·obtain⟨a,b,xs,ys,rfl,hA,hB,hx,hy,k⟩:=h
  refine⟨_,(af (ay (i:=2) sc_added.nd rfl (Or.inl rfl) (aO (yx rfl) (by rfl) T.max_ PyProof.Rows.boot_max (aa (aO (dF (K:=K) rfl) (by rfl) T.len_ PySem.boot_len (aa (pv 0) ac)) (aa (aO (dF (K:=K) rfl) (by rfl) T.len_ PySem.boot_len (aa (pv 1) ac)) ac))))
   (ag (aq (au nW (hr.mono) rfl mF mP nQ .nil ak (aa (wo (own:=["k"]) (fr:=["first","second"]) (js:=[0,1]) (by walk_at "comp_ok") rfl (mr rfl T.range_ (aa (pv 2) ac)) (λ_ _ _ _=>(dZ (i:=0) (show List.Nodup (["k","first","second"]:List Str)from by decide +kernel) rfl (Or.inl rfl))) (λ_ _ _ _=>(aj cG (au y1 (hr.mono) rfl xg xB yL .nil ak (aa (pv 1) (aa (pv 0) ac))) (au y1 (hr.mono) rfl xg xB yL .nil ak (aa (pv 2) (aa (pv 0) ac)))))) ac))))),?_⟩
  refine⟨_,rfl,a,_,rfl,.inl hA,_,rfl,b,_,rfl,.inl hB,_,_,rfl,?_⟩;rw[D6,J6,J6];have hz:max xs.length ys.length<=sizeLine:=by have:=sizeLine_eq;omega
  refine⟨_,rfl,_,rfl,(vN hz).1,(vN hz).2,HH (lo:=0) (n:=max xs.length ys.length) (λi zs σ' H'=>∃z:Option V,σ'=[z,some (.ref a),some (.ref b)]/\zs=((List.range i).map λk=>V.int (cf xs k+cf ys k))/\H=H') hz ⟨none,rfl,rfl,rfl⟩ ?_ ?_ ?_⟩
  ·rintro i zs σ' H' _ ⟨z,rfl,rfl,rfl⟩;simp
  ·rintro i zs σ' H' hi ⟨z,rfl,rfl,rfl⟩;refine⟨_,rfl,_,rfl,a,xs,i,?_,hA,_,rfl,_,rfl,b,ys,i,?_,hB,_,_,rfl,rfl,_,rfl,?_,rfl⟩
   ·show[V.ref a,V.int (0+(i:Int))]=_;rw[KI]
   ·show[V.ref b,V.int (0+(i:Int))]=_;rw[KI]
   ·rw[List.range_succ,Kl];rfl
  ·rintro zs σ' H' p ⟨z,rfl,rfl,rfl⟩ hp;refine⟨p,(List.range (max xs.length ys.length)).map λk=>cf xs k+cf ys k,rfl,SqL.of ?_,?_⟩
   ·rw[ap,List.map_map];rfl
   ·intro p' H' sm hp' e;refine k p' H' ((Same.upd_new hp).trans sm) ((Same.upd_new hp).free hp') ?_;rw[e,IV]
def Pla(l:List Nat):Prop:=(∀c∈l,c<128)/\l.length<=300
theorem Pla.drop{l:List Nat}(h:Pla l)(n:Nat):Pla (l.drop n):=⟨λc hc=>h.1 c (List.mem_of_mem_drop hc),by rw[Kr];have:=h.2;omega⟩
theorem gY{l:List Nat}{i:Nat}{c:Nat}{j:Int}(e:j=i)(h:l[i]?=some c):atI (stL l).cps.toList j=some c:=by subst e;exact lQ h
def SgP(z:Str)(p:Nat->Bool):Prop:=∀c,decide (c∈z.cps.toList)=p c
def qh:Sp:=λvs H Q _=>∃(l:List Nat) (i:Nat) (z:Str) (p:Nat->Bool),vs=[.str (stL l),.int i,.str z]/\Pla l/\i<=l.length/\SgP z p/\Q (.int ((i+((l.drop i).takeWhile p).length:Nat):Int)) H
theorem Cc{f:Addr}{fd:FuncData}(F:Fun K "run_end" "run_end" jW f fd)(T:Txt K mg):FnOk P w K mg base CX0 1 f fd ["text","at","signs"] qh:=by
 refine F.ok sc_run_end (λvs H Q E h=>?_) (λcdv A outer s H vs Q E hr h=>?_)
 ·obtain⟨l,i,z,p,rfl,_⟩:=h;rfl
 ·obtain⟨l,i,z,p,rfl,hl,hi,hz,k⟩:=h;have big:=sizeLine_eq;have hl2:=hl.2
  refine⟨_,(af (ay (i:=3) sc_run_end.nd rfl (Or.inl rfl) (pv 1))
   (af (ic PassesOwn.never (PW.pt (ib (aF d7 (pv 3) (aO lM (by rfl) T.len_ PySem.boot_len (aa (pv 0) ac)) (aA _)) (iW (aF rf (aw jj (pv 0) (pv 3) (λ_ _=>rfl)) (pv 2) (by rfl)))))
     (ag (ay (i:=3) sc_run_end.nd rfl (Or.inl rfl) (aj cG (pv 3) ad))))
   (ag (aq (pv 3))))),?_⟩
  refine aC ⟨_,rfl,?_⟩;refine⟨λm σ' H'=>∃e:Nat,m+e=l.length/\σ'=[some (.str (stL l)),some (.int i),some (.str z),some (.int (e:Int))]/\H=H'/\e+((l.drop e).takeWhile p).length=i+((l.drop i).takeWhile p).length,⟨l.length-i,i,by omega,rfl,rfl,rfl⟩,?_⟩;rintro m σ' H' ⟨e,hm,rfl,rfl,he⟩;refine dk ⟨_,rfl,_,rfl,_,rfl,by rw[ah];omega,_,_,rfl,rfl,_,rfl,ai (λh1=>?_) (λh1=>?_)⟩
  rotate_left
  ·rw[ah]at h1;have h1':l.length<=e:=by have:¬(e:Int)<(l.length:Int):=h1;omega
   refine⟨_,rfl,?_⟩;rw[<- he,KS h1']at k;exact k
  rw[ah]at h1;have h1':e<l.length:=by have:(e:Int)<(l.length:Int):=h1;omega
  have hg:l[e]?=some l[e]:=List.getElem?_eq_getElem h1';have hd:l.drop e=l[e]::l.drop (e+1):=Lf h1';refine⟨_,rfl,_,rfl,_,_,_,rfl,rfl,by rw[ah];omega,gY rfl hg,_,rfl,_,_,rfl,rfl,_,rfl,?_⟩;rw[StrLaws.found_one,hz];by_cases hp:p l[e]=true
  ·rw[hp];refine aN ?_;refine⟨λσ'' H''=>∃m',m'<m/\∃e:Nat,m'+e=l.length/\σ''=[some (.str (stL l)),some (.int i),some (.str z),some (.int (e:Int))]/\H=H''/\e+((l.drop e).takeWhile p).length=i+((l.drop i).takeWhile p).length,λ_ _ h=>h,?_⟩;refine bJ ⟨_,rfl,_,_,rfl,rfl,m-1,by omega,e+1,by omega,rfl,rfl,?_⟩;rw[<- he,hd,KH,if_pos hp,J4];omega
  ·have hp':p l[e]=false:=by simpa using hp
   rw[hp'];refine aM ?_;refine⟨_,rfl,?_⟩;rw[<- he,hd,KH,if_neg hp]at k;exact k
theorem yf:SgP (Str.ofString "0123456789") isD:=xP
theorem xp:SgP (Str.ofString "abcdefghijklmnopqrstuvwxyz") isA:=xO
def qu:Sp:=λvs H Q _=>∃(l:List Nat) (i:Nat),vs=[.str (stL l),.int i]/\Pla l/\i<l.length/\∀H',Same H H'->Q (.int ((i+mln (l.drop i):Nat):Int)) H'
theorem Cv{f:Addr}{fd:FuncData}(F:Fun K "mark_end" "mark_end" ka f fd)(T:Txt K mg){GU:Addr}{Gp:FuncData}(Jy:Cal P w K mg base 1 "run_end" ["text","at","signs"] qh GU Gp):FnOk P w K mg base CX0 2 f fd ["text","at"] qu:=by
 obtain⟨I9,Ed,EY,HY⟩:=Jy;obtain⟨tF,hFIGURES⟩:=T.FIGURES_;obtain⟨tL,hLETTERS⟩:=T.LETTERS_;refine F.ok sc_mark_end (λvs H Q E h=>?_) (λcdv A outer s H vs Q E hr h=>?_)
 ·obtain⟨l,i,rfl,_⟩:=h;rfl
 ·obtain⟨l,i,rfl,hl,hi,k⟩:=h;have big:=sizeLine_eq;have hl2:=hl.2;have hg:l[i]?=some l[i]:=List.getElem?_eq_getElem hi;have hd:l.drop i=l[i]::l.drop (i+1):=Lf hi
  refine⟨_,(af (gF PassesOwn.never rfl (BK (K:=K) rfl (bF (aa (br (v:=.str "0123456789") rfl hFIGURES ⟨_,rfl⟩) (aa (br (v:=.str "abcdefghijklmnopqrstuvwxyz") rfl hLETTERS ⟨_,rfl⟩) ac)))) (dZ (i:=2) sc_mark_end.nd rfl (Or.inl rfl))
   (ag (aH (aF rf (aw jj (pv 0) (pv 1) (λ_ _=>rfl)) (pv 2) (by rfl))
     (ag (aq (au I9 (hr.mono) rfl Ed EY HY .nil ak (aa (pv 0) (aa (pv 1) (aa (pv 2) ac))))))
     aJ)))
   (af (aH (aF bA (ll vO (pv 0) (ie (pv 1)) (ie (aj cG (pv 1) ad))) ao (aA _))
     (ag (aq (aj cG (pv 1) ad)))
     aJ)
   (ag (aq (aj cG (pv 1) ad))))),?_⟩
  refine⟨by show 2<=sizeLine;decide,λpt hpt=>?_⟩;have s1:=Same.upd_new (o:=.tup [V.str (Str.ofString "0123456789"),V.str (Str.ofString "abcdefghijklmnopqrstuvwxyz")]) hpt;have e1:upd H pt (.tup [V.str (Str.ofString "0123456789"),V.str (Str.ofString "abcdefghijklmnopqrstuvwxyz")]) pt=some (.tup [V.str (Str.ofString "0123456789"),V.str (Str.ofString "abcdefghijklmnopqrstuvwxyz")]):=ap;generalize upd H pt (.tup [V.str (Str.ofString "0123456789"),V.str (Str.ofString "abcdefghijklmnopqrstuvwxyz")])=H1 at s1 e1 ⊢
  refine⟨pt,rfl,⟨_,SqT.of e1⟩,Gi (K:=K) (a:=pt) (xs:=[V.str (Str.ofString "0123456789"),V.str (Str.ofString "abcdefghijklmnopqrstuvwxyz")]) (λj σ' H'=>∃z2:Option V,σ'=[some (.str (stL l)),some (.int i),z2]/\H1=H'/\(1<=j->isD l[i]=false)/\(2<=j->isA l[i]=false)) ⟨none,rfl,rfl,(λh=>absurd h (by decide)),(λh=>absurd h (by decide))⟩ ?_ ?_ ?_⟩
  ·rintro j σ' H' _ ⟨z2,rfl,rfl,_⟩;exact SqT.of e1
  ·rintro j x σ' H' hj ⟨z2,rfl,rfl,c1,c2⟩;have hj2:j<2:=(List.getElem?_eq_some_iff.mp hj).1;have:j=0\/j=1:=by omega
   rcases this with rfl |rfl
   ·obtain rfl:V.str (Str.ofString "0123456789")=x:=Option.some.inj hj;refine cw ⟨_,rfl,_,rfl,_,_,_,rfl,rfl,by rw[ah];omega,gY rfl hg,_,rfl,_,_,rfl,rfl,_,rfl,?_⟩;rw[StrLaws.found_one,xP];by_cases hp:isD l[i]=true
    ·rw[hp];refine aN ⟨_,rfl,_,rfl,_,rfl,l,i,_,isD,rfl,hl,by omega,yf,?_⟩;have:=k H1 s1;rw[hd,fU,if_pos hp,<- hd]at this;exact this
    ·have hp':isD l[i]=false:=by simpa using hp
     rw[hp'];exact aM ⟨_,rfl,rfl,λ_=>rfl,λh=>absurd h (by decide)⟩
   ·obtain rfl:V.str (Str.ofString "abcdefghijklmnopqrstuvwxyz")=x:=Option.some.inj hj;refine cw ⟨_,rfl,_,rfl,_,_,_,rfl,rfl,by rw[ah];omega,gY rfl hg,_,rfl,_,_,rfl,rfl,_,rfl,?_⟩;rw[StrLaws.found_one,xO];by_cases hp:isA l[i]=true
    ·rw[hp];refine aN ⟨_,rfl,_,rfl,_,rfl,l,i,_,isA,rfl,hl,by omega,xp,?_⟩;have:=k H1 s1;rw[hd,fU,if_neg (by rw[c1 (by decide)];decide),if_pos hp,<- hd]at this;exact this
    ·have hp':isA l[i]=false:=by simpa using hp
     rw[hp'];exact aM ⟨_,rfl,rfl,λ_=>c1 (by decide),λ_=>rfl⟩
  ·rintro σ' H' ⟨z2,rfl,rfl,c1,c2⟩;have d1:=c1 (by decide);have d2:=c2 (by decide);dsimp only
   have hd2:mln (l.drop i)=if l[i]=46/\(l.drop (i+1)).head?=some 46 then 2 else 1:=by rw[hd,fU,if_neg (by rw[d1];decide),if_neg (by rw[d2];decide)]
   have hsl:=Ae hi;refine am ⟨_,rfl,_,rfl,_,rfl,_,rfl,_,_,rfl,rfl,_,rfl,_,rfl,by rw[ah];omega,rfl,_,rfl,ai (λz=>?_) (λz=>?_)⟩
   ·have z2:=hsl.mp (V.str.inj z);rw[if_pos z2]at hd2;refine⟨_,rfl,_,_,rfl,rfl,?_⟩;have:=k H1 s1;rw[hd2]at this;exact this
   ·have z2:¬_:=λy=>z (congrArg V.str (hsl.mpr y))
    rw[if_neg z2]at hd2;refine⟨_,rfl,_,_,rfl,rfl,?_⟩;have:=k H1 s1;rw[hd2]at this;exact this
def MkH(H:Hp)(qs:List Addr)(ms:List Mk):Prop:=qs.length=ms.length/\∀(i:Nat) (q:Addr) (m:Mk),qs[i]?=some q->ms[i]?=some m->H q=some (.tup [.str (stL m.1),.int m.2])
theorem MkH.nil{H:Hp}:MkH H [] []:=⟨rfl,λi q p h _=>by simp at h⟩
theorem MkH.same{H H':Hp}{qs ms}(h:MkH H qs ms)(s:Same H H'):MkH H' qs ms:=⟨h.1,λi q p e1 e2=>s _ _ (h.2 i q p e1 e2)⟩
theorem MkH.upd{H:Hp}{qs ms}{a:Addr}{xs:List V}{o:HO}(h:MkH H qs ms)(ha:H a=some (.lst xs)):MkH (L2.upd H a o) qs ms:=⟨h.1,λi q p e1 e2=>by
 have e:=h.2 i q p e1 e2;have nq:q≠a:=λz=>by rw[z,ha]at e;cases e
 rw[L2.upd_ne nq];exact e⟩
theorem MkH.snoc{H:Hp}{qs:List Addr}{ls:List Mk}{q:Addr}{m:List Nat}{n:Nat}(h:MkH H qs ls)(h1:H q=some (.tup [.str (stL m),.int n])):MkH H (qs++[q]) (ls++[(m,n)]):=by
 refine⟨by rw[J2,J2,h.1];rfl,λi q' p e1 e2=>?_⟩;by_cases hi:i<ls.length
 ·rw[List.getElem?_append_left (by rw[h.1];exact hi)]at e1;rw[List.getElem?_append_left hi]at e2;exact h.2 i q' p e1 e2
 ·rw[List.getElem?_append_right (by rw[h.1];omega),h.1]at e1;rw[List.getElem?_append_right (by omega)]at e2
  have hz:i-ls.length=0:=by
   cases hd:i-ls.length with
   |zero=>rfl
   |succ d=>rw[hd]at e2;simp at e2
  rw[hz]at e1 e2;obtain rfl:=Option.some.inj e1;obtain rfl:=Option.some.inj e2;exact h1
def qr:Sp:=λvs H Q _=>∃l:List Nat,vs=[.str (stL l)]/\Pla l/\∀(p:Addr) (H':Hp) (qs:List Addr),Same H H'->H p=none->H' p=some (.lst (qs.map V.ref))->MkH H' qs (mks 0 l)->Q (.ref p) H'
theorem Cu{f:Addr}{fd:FuncData}(F:Fun K "marks_of" "marks_of" j9 f fd)(T:Txt K mg){G2:Addr}{Gz:FuncData}(JG:Cal P w K mg base 2 "mark_end" ["text","at"] qu G2 Gz):FnOk P w K mg base CX0 3 f fd ["text"] qr:=by
 obtain⟨Jg,Ek,E6,Ih⟩:=JG;refine F.ok sc_marks_of (λvs H Q E h=>?_) (λcdv A outer s H vs Q E hr h=>?_)
 ·obtain⟨l,rfl,_⟩:=h;rfl
 ·obtain⟨l,rfl,hl,k⟩:=h;have big:=sizeLine_eq;have hl2:=hl.2
  refine⟨_,(af (ay (i:=1) sc_marks_of.nd rfl (Or.inl rfl) (ck ac))
   (af (ay (i:=2) sc_marks_of.nd rfl (Or.inl rfl) ad)
   (af (ic PassesOwn.never (aF d7 (pv 2) (aO lM (by rfl) T.len_ PySem.boot_len (aa (pv 0) ac)) (aA _))
     (af (ay (i:=3) sc_marks_of.nd rfl (Or.inl rfl) (au Jg (hr.mono) rfl Ek E6 Ih .nil ak (aa (pv 0) (aa (pv 2) ac))))
       (af (aH (aF iZ (aw jj (pv 0) (pv 2) (λ_ _=>rfl)) ao (aA _))
         (ag (cc (fR PySem.F.plainAttrs_list PySem.F.slot_list_append PySem.F.type_list_append il (pv 1) (aa (bF (aa (ll vO (pv 0) (ie (pv 2)) (ie (pv 3))) (aa (pv 2) ac))) ac))))
         aJ)
       (ag (ay (i:=2) sc_marks_of.nd rfl (Or.inl rfl) (pv 3))))))
   (ag (aq (pv 1)))))),?_⟩
  refine aC ⟨Kj _,λpf hpf=>?_⟩;have s0:Same H (upd H pf (.lst [])):=Same.upd_new hpf;have q0:upd H pf (.lst []) pf=some (.lst (([]:List Addr).map V.ref)):=ap;generalize upd H pf (.lst [])=H0 at s0 q0 ⊢
  refine aC ?_;refine⟨λm σ' H'=>∃(e:Nat) (qs:List Addr) (ms:List Mk) (z3:Option V),m+e=l.length/\σ'=[some (.str (stL l)),some (.ref pf),some (.int (e:Int)),z3]/\Same H H'/\H' pf=some (.lst (qs.map V.ref))/\MkH H' qs ms/\ms++mks e (l.drop e)=mks 0 l,⟨l.length,0,[],[],none,rfl,rfl,s0,q0,MkH.nil,rfl⟩,?_⟩;rintro m σ' H1 ⟨e,qs,ms,z3,hm,rfl,s1,e1,hM,hms⟩;refine⟨_,rfl,_,rfl,_,rfl,by rw[ah];omega,_,_,rfl,rfl,_,rfl,ai (λh1=>?_) (λh1=>?_)⟩
  rotate_left
  ·rw[ah]at h1;have h1':l.length<=e:=by have:¬(e:Int)<(l.length:Int):=h1;omega
   rw[KS h1',mC,Kk]at hms;exact⟨_,rfl,k pf H1 qs s1 hpf e1 (hms ▸ hM)⟩
  rw[ah]at h1;have h1':e<l.length:=by have:(e:Int)<(l.length:Int):=h1;omega
  have hg:l[e]?=some l[e]:=List.getElem?_eq_getElem h1';have hd:l.drop e=l[e]::l.drop (e+1):=Lf h1';have hmp:1<=mln (l.drop e):=by rw[hd];exact lA _ _
  have hml:mln (l.drop e)<=l.length-e:=by have:=rA (l.drop e);rw[Kr]at this;exact this
  have hmsl:ms.length<=l.length:=by have h2:=congrArg List.length hms;rw[J2]at h2;have h3:(mks 0 l).length<=l.length:=DW _ _;omega
  refine⟨λσ'' H''=>∃m',m'<m/\∃(e:Nat) (qs:List Addr) (ms:List Mk) (z3:Option V),m'+e=l.length/\σ''=[some (.str (stL l)),some (.ref pf),some (.int (e:Int)),z3]/\Same H H''/\H'' pf=some (.lst (qs.map V.ref))/\MkH H'' qs ms/\ms++mks e (l.drop e)=mks 0 l,λ_ _ h=>h,?_⟩;refine aC ⟨_,rfl,_,rfl,l,e,rfl,hl,h1',λH2 sm2=>?_⟩;have e2:=sm2 _ _ e1;have hM2:=hM.same sm2;have s2:=s1.trans sm2;have hmc:=jf e l[e] (l.drop (e+1));rw[<- hd,List.drop_drop]at hmc;rw[hmc]at hms;refine ia (λσ' H'=>∃(qs:List Addr) (ms:List Mk),σ'=[some (.str (stL l)),some (.ref pf),some (.int (e:Int)),some (.int ((e+mln (l.drop e):Nat):Int))]/\Same H H'/\H' pf=some (.lst (qs.map V.ref))/\MkH H' qs ms/\ms++mks (e+mln (l.drop e)) (l.drop (e+mln (l.drop e)))=mks 0 l) ?_ ?_
  case refine_2 =>
   intro rest;refine⟨_,rfl,_,rfl,_,_,_,rfl,rfl,by rw[ah];omega,gY rfl hg,rfl,_,rfl,gE (λh2=>?_) (λh2=>?_)⟩
   ·have h2':l[e]≠32:=λz=>h2 (by rw[z];decide +kernel)
    rw[if_neg h2']at hms;refine lc ⟨_,rfl,.inl ⟨rfl,_,SqL.of e2⟩,_,rfl,_,rfl,_,rfl,_,rfl,_,rfl,_,rfl,by rw[ah];omega,_,rfl,by show 2<=sizeLine;decide,λpt hpt=>?_⟩;have hsl:=qO l (a:=e) (b:=e+mln (l.drop e)) (by omega) (by omega);rw[Nat.add_sub_cancel_left]at hsl;have u3:=Same.upd_new (o:=.tup [V.str (Txt.slice (stL l) (some (e:Int)) (some ((e+mln (l.drop e):Nat):Int))),V.int (e:Int)]) hpt;have ept:upd H2 pt (.tup [V.str (Txt.slice (stL l) (some (e:Int)) (some ((e+mln (l.drop e):Nat):Int))),V.int (e:Int)]) pt=some (.tup [V.str (stL ((l.drop e).take (mln (l.drop e)))),V.int (e:Int)]):=by rw[ap,hsl]
    generalize upd H2 pt (.tup [V.str (Txt.slice (stL l) (some (e:Int)) (some ((e+mln (l.drop e):Nat):Int))),V.int (e:Int)])=H3 at u3 ept ⊢
    have e3:=u3 _ _ e2;refine⟨pf,_,_,rfl,rfl,e3,by rw[J6,hM.1];omega,rest _ _ ⟨qs++[pt],ms++[((l.drop e).take (mln (l.drop e)),e)],rfl,fT (s2.trans u3) hpf,by rw[ap,D7],((hM2.same u3).snoc ept).upd e3,?_⟩⟩;rw[J5];exact hms
   ·have h2':l[e]=32:=by
     have z:V.str ⟨#[l[e]]⟩=V.str (Str.ofString " "):=h2;have z2:([l[e]]:List Nat)=(Str.ofString " ").cps.toList:=congrArg (λs:Str=>s.cps.toList) (V.str.inj z);have z3:(Str.ofString " ").cps.toList=[32]:=by decide +kernel
     rw[z3]at z2;exact List.head_eq_of_cons_eq z2
    rw[if_pos h2',Ko]at hms;exact rest _ _ ⟨qs,ms,rfl,s2,e2,hM2,hms⟩
  rintro σ' H3 ⟨qs,ms,rfl,s3,e3,hM3,hms3⟩;refine bJ ⟨_,rfl,m-mln (l.drop e),by omega,e+mln (l.drop e),qs,ms,_,by omega,rfl,s3,e3,hM3,hms3⟩
theorem lD:(Str.ofString "x":Str)=stL [120]:=by decide +kernel
theorem iu:(Str.ofString "^":Str)=stL [94]:=by decide +kernel
theorem cI:(Str.ofString "*":Str)=stL [42]:=by decide +kernel
theorem lE:(Str.ofString "":Str)=stL []:=by decide +kernel
theorem ji:(Str.ofString "0":Str)=stL [48]:=by decide +kernel
theorem ey:(Str.ofString "-":Str)=stL [45]:=by decide +kernel
theorem mL:(Str.ofString "+":Str)=stL [43]:=by decide +kernel
structure QC(K:PySem.W.Frag)(mg:Str->Option Value)(C:Addr):Prop where
 cl:Cls K C
 n1:NoAttr K C "marks"
 n2:NoAttr K C "end"
 n3:NoAttr K C "done"
 n4:NoAttr K C "depth"
 mg:mg "Reading"=some (.ref C)
theorem wK:¬(("marks":Str)="end"):=by decide +kernel
theorem rl:¬(("marks":Str)="done"):=by decide +kernel
theorem rj:¬(("marks":Str)="depth"):=by decide +kernel
theorem rp:¬(("end":Str)="done"):=by decide +kernel
theorem rm:¬(("end":Str)="depth"):=by decide +kernel
theorem rq:¬(("done":Str)="depth"):=by decide +kernel
theorem mq{f:Str}{v:V}{fs:List (Str×V)}{n:Nat}(h:fs.length<n):(aT f v fs).length<n+1:=by have:=sh f v fs;omega
noncomputable def fdl(pm:Addr)(e:Nat×Nat)(d:Int):List (Str×V):=aT "depth" (.int (e.2:Nat)) (aT "done" (.int d) (aT "end" (.int (e.1:Nat)) (aT "marks" (.ref pm) [])))
theorem mZ(pm:Addr)(e:Nat×Nat)(d:Int):(fdl pm e d).lookup ("marks":Str)=some (.ref pm):=by unfold fdl;rw[ba,if_neg rj,ba,if_neg rl,ba,if_neg wK,ba,if_pos rfl]
theorem jm(pm:Addr)(e:Nat×Nat)(d:Int):(fdl pm e d).lookup ("done":Str)=some (.int d):=by unfold fdl;rw[ba,if_neg rq,ba,if_pos rfl]
theorem Gk(pm:Addr)(e:Nat×Nat)(d:Int):(fdl pm e d).lookup ("end":Str)=some (.int (e.1:Nat)):=by unfold fdl;rw[ba,if_neg rm,ba,if_neg rp,ba,if_pos rfl]
theorem bW(pm:Addr)(e:Nat×Nat)(d:Int){m:Str}(h1:¬m="marks")(h2:¬m="end")(h3:¬m="done")(h4:¬m="depth"):(fdl pm e d).lookup m=none:=by unfold fdl;rw[ba,if_neg h4,ba,if_neg h3,ba,if_neg h2,ba,if_neg h1];rfl
theorem m4(pm:Addr)(e:Nat×Nat)(d:Int):fdl pm e d=([(Str.ofString "marks",V.ref pm),(Str.ofString "end",V.int (e.1:Nat)),(Str.ofString "done",V.int d),(Str.ofString "depth",V.int (e.2:Nat))]:List (Str×V)):=by unfold fdl;show aT "depth" _ (aT "done" _ (if("marks":Str)="end" then _ else _))=_;rw[if_neg wK];show aT "depth" _ (if("marks":Str)="done" then _ else _::(if("end":Str)="done" then _ else _))=_;rw[if_neg rl,if_neg rp];show(if("marks":Str)="depth" then _ else _::(if("end":Str)="depth" then _ else _::(if("done":Str)="depth" then _ else _)))=_;rw[if_neg rj,if_neg rm,if_neg rq];rfl
theorem yg(pm:Addr)(e:Nat×Nat)(d d':Int):aT "done" (.int d') (fdl pm e d)=fdl pm e d':=by rw[m4,m4];show(if("marks":Str)="done" then _ else _::(if("end":Str)="done" then _ else _::(if("done":Str)="done" then _ else _)))=_;rw[if_neg rl,if_neg rp,if_pos rfl]
theorem pA(pm:Addr)(e:Nat×Nat)(d:Int):(fdl pm e d).length<1000:=by rw[m4];show 4<1000;decide
def RdA(C:Addr)(H:Hp)(p:Addr)(e:Nat×Nat)(us:List Mk):Prop:=∃(dx pm:Addr) (qs:List Addr) (ts:List Mk) (d:Nat),H p=some (.ins C dx (fdl pm e d))/\H pm=some (.lst (qs.map V.ref))/\MkH H qs ts/\ts.drop d=us/\d<=ts.length/\∀u∈ts,u.1≠[]/\u.1.length<=300/\∀c∈u.1,c<128
theorem RdA.same{C:Addr}{H H':Hp}{p:Addr}{e:Nat×Nat}{us:List Mk}(h:RdA C H p e us)(s:Same H H'):RdA C H' p e us:=by obtain⟨dx,pm,qs,ts,d,h1,h2,h3,h4⟩:=h;exact⟨dx,pm,qs,ts,d,s _ _ h1,s _ _ h2,h3.same s,h4⟩
theorem RdA.is{C:Addr}{H:Hp}{p:Addr}{e:Nat×Nat}{us:List Mk}(h:RdA C H p e us):∀u∈us,u.1≠[]/\u.1.length<=300/\∀c∈u.1,c<128:=by obtain⟨dx,pm,qs,ts,d,h1,h2,h3,h4,h5,h6⟩:=h;intro u hu;rw[<- h4]at hu;exact h6 u (List.mem_of_mem_drop hu)
theorem MkH.upd_ins{H:Hp}{qs ms}{a C dx:Addr}{fs:List (Str×V)}{o:HO}(h:MkH H qs ms)(ha:H a=some (.ins C dx fs)):MkH (L2.upd H a o) qs ms:=⟨h.1,λi q p e1 e2=>by
 have e:=h.2 i q p e1 e2;have nq:q≠a:=λz=>by rw[z,ha]at e;cases e
 rw[L2.upd_ne nq];exact e⟩
theorem tN{ts us:List Mk}{u:Mk}{d:Nat}(h:ts.drop d=u::us):d<ts.length/\ts[d]?=some u/\ts.drop (d+1)=us:=by
 have hl:d<ts.length:=by have:=congrArg List.length h;rw[Kr,J4]at this;omega
 rw[Lf hl]at h;refine⟨hl,?_,(List.cons.inj h).2⟩;rw[List.getElem?_eq_getElem hl,(List.cons.inj h).1]
theorem tO{ts:List Mk}{d:Nat}(h:ts.drop d=[])(hd:d<=ts.length):d=ts.length:=by have:=List.drop_eq_nil_iff.mp h;omega
theorem RdA.put{C:Addr}{H:Hp}{p pm dx:Addr}{e:Nat×Nat}{qs:List Addr}{ts us:List Mk}{u:Mk}{d:Nat}(h1:H p=some (.ins C dx (fdl pm e d)))(h2:H pm=some (.lst (qs.map V.ref)))(h3:MkH H qs ts)(h4:ts.drop d=u::us)(h6:∀u∈ts,u.1≠[]/\u.1.length<=300/\∀c∈u.1,c<128):SameB p H (upd H p (.ins C dx (fdl pm e ((d+1:Nat):Int))))/\RdA C (upd H p (.ins C dx (fdl pm e ((d+1:Nat):Int)))) p e us:=by
 have np:pm≠p:=λz=>by rw[z,h1]at h2;cases h2
 obtain⟨g1,g2,g3⟩:=tN h4;exact⟨λb o hb eo=>by rw[upd_ne hb];exact eo,dx,pm,qs,ts,d+1,ap,by rw[upd_ne np];exact h2,h3.upd_ins h1,g3,by omega,h6⟩
theorem MkH.at{H:Hp}{qs:List Addr}{ts:List Mk}{u:Mk}{d:Nat}(h:MkH H qs ts)(hd:ts[d]?=some u):∃(q:Addr),atI (qs.map V.ref) (d:Int)=some (.ref q)/\H q=some (.tup [.str (stL u.1),.int u.2]):=by
 have hq:d<qs.length:=by rw[h.1];exact(List.getElem?_eq_some_iff.mp hd).1
 exact⟨qs[d],lQ (by rw[List.getElem?_map,List.getElem?_eq_getElem hq];rfl),h.2 d qs[d] u (List.getElem?_eq_getElem hq) hd⟩
def cN(C:Addr):Sp:=λvs H Q _=>∃(p:Addr) (e:Nat×Nat) (us:List Mk),vs=[.ref p]/\RdA C H p e us/\Q (.str (stL (mhd us))) H
theorem Dd{C f:Addr}{fd:FuncData}(F:Fun K "seen" "Reading.seen" kI f fd)(T:Txt K mg)(R:QC K mg C):FnOk P w K mg base CX0 1 f fd ["self"] (cN C):=by
 refine F.ok AR (λvs H Q E h=>?_) (λcdv A outer s H vs Q E hr h=>?_)
 ·obtain⟨p,e,us,rfl,_⟩:=h;rfl
 ·obtain⟨p,e,us,rfl,⟨dx,pm,qs,ts,d,h1,h2,h3,h4,h5,h6⟩,k⟩:=h;have hql:(qs.map V.ref).length=ts.length:=by rw[J6,h3.1]
  refine⟨_,(af (aH (aF bL (aK (K:=K) rfl (pv 0) rfl) (aO (dF (K:=K) rfl) (by rfl) T.len_ PySem.boot_len (aa (aK (K:=K) rfl (pv 0) rfl) ac)) (aA _))
   (ag (aq ao))
   aJ)
   (ag (aq (aw (aI (K:=K) rfl) (aw (bS (K:=K) rfl) (aK (K:=K) rfl (pv 0) rfl) (aK (K:=K) rfl (pv 0) rfl) (λ_ _=>rfl)) ad (λ_ _=>rfl))))),?_⟩
  refine am ⟨_,rfl,p,C,dx,_,_,rfl,h1,R.cl,R.n3,jm _ _ _,_,rfl,p,C,dx,_,_,rfl,h1,R.cl,R.n1,mZ _ _ _,pm,_,rfl,.inl (SqL.of h2),_,_,rfl,rfl,_,rfl,ai (λh4'=>?_) (λh4'=>?_)⟩
  ·rw[hql]at h4';have h5':d=ts.length:=by have:(d:Int)=(ts.length:Int):=h4';omega
   have:us=[]:=by rw[<- h4];exact KS (by omega)
   subst this;have k':Q (.str (stL [])) H:=k;rw[<- lE]at k';exact k'
  ·rw[hql]at h4';have h5':¬(d:Int)=(ts.length:Int):=h4';cases us with
   |nil=>exact absurd (tO h4 h5) (by omega)
   |cons u us =>obtain⟨g1,g2,g3⟩:=tN h4;obtain⟨q,e1,e2⟩:=h3.at g2;exact⟨_,rfl,p,C,dx,_,_,rfl,h1,R.cl,R.n1,mZ _ _ _,_,rfl,p,C,dx,_,_,rfl,h1,R.cl,R.n3,jm _ _ _,pm,_,_,_,rfl,rfl,SqL.of h2,e1,q,_,_,_,rfl,rfl,SqT.of e2,rfl,k⟩
def hU(C:Addr):Sp:=λvs H Q _=>∃(p:Addr) (e:Nat×Nat) (us:List Mk),vs=[.ref p]/\RdA C H p e us/\Q (.int (mbg e.1 us:Nat)) H
theorem Dj{C f:Addr}{fd:FuncData}(F:Fun K "begin" "Reading.begin" kO f fd)(T:Txt K mg)(R:QC K mg C):FnOk P w K mg base CX0 1 f fd ["self"] (hU C):=by
 refine F.ok AX (λvs H Q E h=>?_) (λcdv A outer s H vs Q E hr h=>?_)
 ·obtain⟨p,e,us,rfl,_⟩:=h;rfl
 ·obtain⟨p,e,us,rfl,⟨dx,pm,qs,ts,d,h1,h2,h3,h4,h5,h6⟩,k⟩:=h;have hql:(qs.map V.ref).length=ts.length:=by rw[J6,h3.1]
  refine⟨_,(af (aH (aF bL (aK (K:=K) rfl (pv 0) rfl) (aO (dF (K:=K) rfl) (by rfl) T.len_ PySem.boot_len (aa (aK (K:=K) rfl (pv 0) rfl) ac)) (aA _))
   (ag (aq (aK (K:=K) rfl (pv 0) rfl)))
   aJ)
   (ag (aq (aw (aI (K:=K) rfl) (aw (bS (K:=K) rfl) (aK (K:=K) rfl (pv 0) rfl) (aK (K:=K) rfl (pv 0) rfl) (λ_ _=>rfl)) ad (λ_ _=>rfl))))),?_⟩
  refine am ⟨_,rfl,p,C,dx,_,_,rfl,h1,R.cl,R.n3,jm _ _ _,_,rfl,p,C,dx,_,_,rfl,h1,R.cl,R.n1,mZ _ _ _,pm,_,rfl,.inl (SqL.of h2),_,_,rfl,rfl,_,rfl,ai (λh4'=>?_) (λh4'=>?_)⟩
  ·rw[hql]at h4';have h5':d=ts.length:=by have:(d:Int)=(ts.length:Int):=h4';omega
   have:us=[]:=by rw[<- h4];exact KS (by omega)
   subst this;exact⟨_,rfl,p,C,dx,_,_,rfl,h1,R.cl,R.n2,Gk _ _ _,k⟩
  ·rw[hql]at h4';have h5':¬(d:Int)=(ts.length:Int):=h4';cases us with
   |nil=>exact absurd (tO h4 h5) (by omega)
   |cons u us =>obtain⟨g1,g2,g3⟩:=tN h4;obtain⟨q,e1,e2⟩:=h3.at g2;exact⟨_,rfl,p,C,dx,_,_,rfl,h1,R.cl,R.n1,mZ _ _ _,_,rfl,p,C,dx,_,_,rfl,h1,R.cl,R.n3,jm _ _ _,pm,_,_,_,rfl,rfl,SqL.of h2,e1,q,_,_,_,rfl,rfl,SqT.of e2,rfl,k⟩
theorem bD:¬(("seen":Str)="marks")/\¬(("seen":Str)="end")/\¬(("seen":Str)="done")/\¬(("seen":Str)="depth"):=by decide +kernel
theorem cq:¬(("begin":Str)="marks")/\¬(("begin":Str)="end")/\¬(("begin":Str)="done")/\¬(("begin":Str)="depth"):=by decide +kernel
theorem cx:¬(("step":Str)="marks")/\¬(("step":Str)="end")/\¬(("step":Str)="done")/\¬(("step":Str)="depth"):=by decide +kernel
theorem bM:¬(("passes":Str)="marks")/\¬(("passes":Str)="end")/\¬(("passes":Str)="done")/\¬(("passes":Str)="depth"):=by decide +kernel
theorem cO:¬(("demand":Str)="marks")/\¬(("demand":Str)="end")/\¬(("demand":Str)="done")/\¬(("demand":Str)="depth"):=by decide +kernel
theorem DM:¬(("finish":Str)="marks")/\¬(("finish":Str)="end")/\¬(("finish":Str)="done")/\¬(("finish":Str)="depth"):=by decide +kernel
def dX(C:Addr):Sp:=λvs H Q _=>∃(p:Addr) (e:Nat×Nat) (u:Mk) (us:List Mk),vs=[.ref p]/\RdA C H p e (u::us)/\∀H',SameB p H H'->RdA C H' p e us->Q (.str (stL u.1)) H'
theorem Dc{C f:Addr}{fd:FuncData}(F:Fun K "step" "Reading.step" kH f fd)(T:Txt K mg)(R:QC K mg C){bO:Addr}{bN:FuncData}(bI:MCal P w K mg base 1 C "seen" ["self"] (cN C) bO bN):FnOk P w K mg base CX0 2 f fd ["self"] (dX C):=by
 obtain⟨bY,bV,bX⟩:=bI;refine F.ok sc_Reading_step (λvs H Q E h=>?_) (λcdv A outer s H vs Q E hr h=>?_)
 ·obtain⟨p,e,u,us,rfl,_⟩:=h;rfl
 ·obtain⟨p,e,u,us,rfl,hA,k⟩:=h;obtain⟨dx,pm,qs,ts,d,h1,h2,h3,h4,h5,h6⟩:=id hA
  refine⟨_,(af (ay (i:=1) sc_Reading_step.nd rfl (Or.inl rfl) (bi (pv 0) R.cl bV bY (hr.mono) bX .nil ak))
   (af (bp (pv 0) (aj cG (aK (K:=K) rfl (pv 0) rfl) ad) rfl)
   (ag (aq (pv 1))))),?_⟩
  refine aC ⟨_,rfl,p,dx,_,rfl,h1,bW _ _ _ bD.1 bD.2.1 bD.2.2.1 bD.2.2.2,p,e,_,rfl,hA,?_⟩;refine⟨_,rfl,p,C,dx,_,_,rfl,h1,R.cl,R.n3,jm _ _ _,_,_,rfl,rfl,_,rfl,p,C,dx,_,rfl,h1,R.cl,R.n3,pA _ _ _,?_⟩;obtain⟨sb,ra⟩:=RdA.put h1 h2 h3 h4 h6;have e2:aT "done" (V.int ((d:Int)+1)) (fdl pm e d)=fdl pm e ((d+1:Nat):Int):=yg _ _ _ _;refine⟨_,rfl,?_⟩;have:=k _ sb ra;rw[<- e2]at this;exact this
def dj(C:Addr):Sp:=λvs H Q _=>∃(p:Addr) (e:Nat×Nat) (us:List Mk) (m:List Nat),vs=[.ref p,.str (stL m)]/\RdA C H p e us/\m≠[]/\(∀u r,us=u::r->u.1=m->∀H',SameB p H H'->RdA C H' p e r->Q (.bl true) H')/\(mhd us≠m->Q (.bl false) H)
theorem De{C f:Addr}{fd:FuncData}(F:Fun K "passes" "Reading.passes" kJ f fd)(T:Txt K mg)(R:QC K mg C){bO:Addr}{bN:FuncData}(bI:MCal P w K mg base 1 C "seen" ["self"] (cN C) bO bN):FnOk P w K mg base CX0 2 f fd ["self","mark"] (dj C):=by
 obtain⟨bY,bV,bX⟩:=bI;refine F.ok AS (λvs H Q E h=>?_) (λcdv A outer s H vs Q E hr h=>?_)
 ·obtain⟨p,e,us,m,rfl,_⟩:=h;rfl
 ·obtain⟨p,e,us,m,rfl,hA,hm,k1,k2⟩:=h;obtain⟨dx,pm,qs,ts,d,h1,h2,h3,h4,h5,h6⟩:=id hA
  refine⟨_,(af (aH (aF iZ (bi (pv 0) R.cl bV bY (hr.mono) bX .nil ak) (pv 1) (aA _))
   (ag (aq iY))
   aJ)
   (af (bp (pv 0) (aj cG (aK (K:=K) rfl (pv 0) rfl) ad) rfl)
   (ag (aq iY)))),?_⟩
  refine am ⟨_,rfl,p,dx,_,rfl,h1,bW _ _ _ bD.1 bD.2.1 bD.2.2.1 bD.2.2.2,p,e,us,rfl,hA,_,rfl,rfl,_,rfl,gE (λh4=>?_) (λh4'=>?_)⟩
  ·exact k2 λz=>h4 (by rw[z])
  ·have h5':mhd us=m:=stL_inj.mp (V.str.inj h4');refine⟨_,rfl,p,C,dx,_,_,rfl,h1,R.cl,R.n3,jm _ _ _,_,_,rfl,rfl,_,rfl,p,C,dx,_,rfl,h1,R.cl,R.n3,pA _ _ _,?_⟩;cases us with
   |nil=>exact absurd h5'.symm hm
   |cons u us =>obtain⟨sb,ra⟩:=RdA.put h1 h2 h3 h4 h6;have e2:aT "done" (V.int ((d:Int)+1)) (fdl pm e d)=fdl pm e ((d+1:Nat):Int):=yg _ _ _ _;have:=k1 u us rfl h5' _ sb ra;rw[<- e2]at this;exact this
def XAt(CN p:Addr)(E:XK)(H:Hp)(n:Nat):Prop:=∀(H':Hp) (dx:Addr),SameB p H H'->H' dx=some (.xd [(("at":Str),V.int (n:Int))])->E (.ref CN) (some dx) H'
theorem Dr{CNoText f:Addr}{fd:FuncData}(F:Fun K "__init__" "NoText.__init__" kU f fd)(T:Txt K mg)(hX:XCls K CNoText)(hN:NoAttr K CNoText "at"):FnOk P w K mg base CX0 1 f fd ["self","at"] (ot CNoText "at"):=by
 refine F.ok A2 (λvs H Q E h=>?_) (λcdv A outer s H vs Q E hr h=>?_)
 ·obtain⟨e,v,rfl,_⟩:=h;rfl
 ·obtain⟨e,v,rfl,he,k⟩:=h;refine⟨_,(ag (BA (pv 0) (pv 1) rfl)),?_⟩;exact⟨_,rfl,_,rfl,e,CNoText,rfl,he,hX,hN,λdx h1 h2=>k dx h1 h2⟩
theorem SameB.new{p:Addr}{H:Hp}{dx:Addr}{o:HO}(h:H dx=none):SameB p H (upd H dx o):=λb o' _ e=>by rw[upd_ne (λz=>by rw[z,h]at e;cases e)];exact e
def jR(C CN:Addr):Sp:=λvs H Q E=>∃(p:Addr) (e:Nat×Nat) (us:List Mk) (m:List Nat),vs=[.ref p,.str (stL m)]/\RdA C H p e us/\m≠[]/\(∀u r,us=u::r->u.1=m->∀H',SameB p H H'->RdA C H' p e r->Q .non H')/\(mhd us≠m->XAt CN p E H (mbg e.1 us))
theorem Di{C CNoText f:Addr}{fd:FuncData}(F:Fun K "demand" "Reading.demand" kN f fd)(T:Txt K mg)(R:QC K mg C){ci:Addr}{cg:FuncData}(bT:MCal P w K mg base 2 C "passes" ["self","mark"] (dj C) ci cg){fi:Addr}{eU:FuncData}(fL:MCal P w K mg base 1 C "begin" ["self"] (hU C) fi eU){fm:Addr}{eX:FuncData}(C_NoText:XCal P w K mg base 1 CNoText "NoText" "at" ["self","at"] fm eX):FnOk P w K mg base (CXV P w) 3 f fd ["self","mark"] (jR C CNoText):=by
 obtain⟨cu,cr,cs⟩:=bT;obtain⟨fJ,d9,fG⟩:=fL;refine F.okV AW (λvs H Q E h=>?_) (λcdv A outer s H vs Q E hr h=>?_)
 ·obtain⟨p,e,us,m,rfl,_⟩:=h;rfl
 ·obtain⟨p,e,us,m,rfl,hA,hm,k1,k2⟩:=h;obtain⟨dx,pm,qs,ts,d,h1,h2,h3,h4,h5,h6⟩:=id hA
  refine⟨_,(ag (aH (dY (bB (cF (pv 0) R.cl cr cu (hr.mono) cs .nil ak (aa (pv 1) ac))))
   (ag (lh (C:=CNoText) rfl C_NoText.ow PySem.F.excBase_ValueError C_NoText.ok (hr.mono) C_NoText.bd C_NoText.kp (aa (bi (pv 0) R.cl d9 fJ (hr.mono) fG .nil ak) ac)))
   aJ)),?_⟩
  refine cw (fP ⟨_,rfl,p,dx,_,rfl,h1,bW _ _ _ bM.1 bM.2.1 bM.2.2.1 bM.2.2.2,_,rfl,p,e,us,m,rfl,hA,hm,λu r eu em H' sb ra=>⟨_,rfl,aM (k1 u r eu em H' sb ra)⟩,λz=>⟨_,rfl,aN ?_⟩⟩);exact⟨_,rfl,p,dx,_,rfl,h1,bW _ _ _ cq.1 cq.2.1 cq.2.2.1 cq.2.2.2,p,e,us,rfl,hA,_,rfl,λd hd=>k2 z _ d (SameB.new hd) ap⟩
def qG(C CN:Addr):Sp:=λvs H Q E=>∃(p:Addr) (e:Nat×Nat) (us:List Mk),vs=[.ref p]/\RdA C H p e us/\(us=[]->Q .non H)/\(us≠[]->XAt CN p E H (mbg e.1 us))
theorem Dg{C CNoText f:Addr}{fd:FuncData}(F:Fun K "finish" "Reading.finish" kL f fd)(T:Txt K mg)(R:QC K mg C){fi:Addr}{eU:FuncData}(fL:MCal P w K mg base 1 C "begin" ["self"] (hU C) fi eU){fm:Addr}{eX:FuncData}(C_NoText:XCal P w K mg base 1 CNoText "NoText" "at" ["self","at"] fm eX):FnOk P w K mg base (CXV P w) 3 f fd ["self"] (qG C CNoText):=by
 obtain⟨fJ,d9,fG⟩:=fL;refine F.okV AU (λvs H Q E h=>?_) (λcdv A outer s H vs Q E hr h=>?_)
 ·obtain⟨p,e,us,rfl,_⟩:=h;rfl
 ·obtain⟨p,e,us,rfl,hA,k1,k2⟩:=h;obtain⟨dx,pm,qs,ts,d,h1,h2,h3,h4,h5,h6⟩:=id hA;have hql:(qs.map V.ref).length=ts.length:=by rw[J6,h3.1]
  refine⟨_,(ag (aH (aF d7 (aK (K:=K) rfl (pv 0) rfl) (aO (dF (K:=K) rfl) (by rfl) T.len_ PySem.boot_len (aa (aK (K:=K) rfl (pv 0) rfl) ac)) (aA _))
   (ag (lh (C:=CNoText) rfl C_NoText.ow PySem.F.excBase_ValueError C_NoText.ok (hr.mono) C_NoText.bd C_NoText.kp (aa (bi (pv 0) R.cl d9 fJ (hr.mono) fG .nil ak) ac)))
   aJ)),?_⟩
  refine cw ⟨_,rfl,p,C,dx,_,_,rfl,h1,R.cl,R.n3,jm _ _ _,_,rfl,p,C,dx,_,_,rfl,h1,R.cl,R.n1,mZ _ _ _,pm,_,rfl,.inl (SqL.of h2),_,_,rfl,rfl,_,rfl,ai (λh4'=>?_) (λh4'=>?_)⟩
  ·rw[hql]at h4';have h4'':(d:Int)<(ts.length:Int):=h4';refine⟨_,rfl,p,dx,_,rfl,h1,bW _ _ _ cq.1 cq.2.1 cq.2.2.1 cq.2.2.2,p,e,us,rfl,hA,_,rfl,λd' hd=>k2 (λz=>?_) _ d' (SameB.new hd) ap⟩;rw[z]at h4;have:=tO h4 h5;omega
  ·rw[hql]at h4';have h4'':¬(d:Int)<(ts.length:Int):=h4';refine k1 ?_;rw[<- h4];exact KS (by omega)
def qg(C:Addr):Sp:=λvs H Q _=>∃(p dx:Addr) (l:List Nat),vs=[.ref p,.str (stL l)]/\H p=some (.ins C dx [])/\Pla l/\∀(H':Hp),SameB p H H'->RdA C H' p (l.length,0) (mks 0 l)->Q .non H'
theorem Dk{C f:Addr}{fd:FuncData}(F:Fun K "__init__" "Reading.__init__" kP f fd)(T:Txt K mg)(R:QC K mg C){G1:Addr}{Gy:FuncData}(JF:Cal P w K mg base 3 "marks_of" ["text"] qr G1 Gy):FnOk P w K mg base CX0 4 f fd ["self","text"] (qg C):=by
 obtain⟨Jf,Ej,E5,Ig⟩:=JF;refine F.ok AY (λvs H Q E h=>?_) (λcdv A outer s H vs Q E hr h=>?_)
 ·obtain⟨p,dx,l,rfl,_⟩:=h;rfl
 ·obtain⟨p,dx,l,rfl,h1,hl,k⟩:=h;have big:=sizeLine_eq;have hl2:=hl.2
  refine⟨_,(af (bp (pv 0) (au Jf (hr.mono) rfl Ej E5 Ig .nil ak (aa (pv 1) ac)) rfl)
   (af (bp (pv 0) (aO lM (by rfl) T.len_ PySem.boot_len (aa (pv 1) ac)) rfl)
   (af (bp (pv 0) ad rfl)
   (ag (bp (pv 0) ad rfl))))),?_⟩
  refine⟨_,rfl,l,rfl,hl,λpm H1 qs s1 hpm e1 hM=>?_⟩;have hp1:=s1 _ _ h1;have np:pm≠p:=λz=>by rw[z,h1]at hpm;cases hpm
  refine⟨_,rfl,p,C,dx,_,rfl,hp1,R.cl,R.n1,by show 0<1000;decide,?_⟩;refine⟨_,rfl,_,rfl,by rw[ah];omega,_,rfl,p,C,dx,_,rfl,ap,R.cl,R.n2,by show 1<1000;decide,?_⟩;rw[cW];refine⟨_,rfl,p,C,dx,_,rfl,ap,R.cl,R.n3,mq (n:=999) (mq (n:=998) (by show 0<998;decide)),?_⟩;rw[cW];refine⟨_,rfl,p,C,dx,_,rfl,ap,R.cl,R.n4,mq (n:=999) (mq (n:=998) (mq (n:=997) (by show 0<997;decide))),?_⟩;rw[cW];refine k _ (λb o hb eo=>by rw[upd_ne hb];exact s1 _ _ eo) ⟨dx,pm,qs,_,0,?_,by rw[upd_ne np];exact e1,hM.upd_ins hp1,rfl,Kj _,λu hu=>?_⟩
  ·rw[ap,ah];rfl
  ·obtain⟨g1,g2,g3⟩:=DV u hu;exact⟨g1,by omega,λc hc=>hl.1 c (g3 c hc)⟩
theorem SameB.trans{p:Addr}{H H1 H2:Hp}(a:SameB p H H1)(b:SameB p H1 H2):SameB p H H2:=λx o hx e=>b x o hx (a x o hx e)
theorem _root_.L2.Same.toB{p:Addr}{H H1:Hp}(a:Same H H1):SameB p H H1:=λx o _ e=>a x o e
theorem SameB.free{p b:Addr}{H H1:Hp}(a:SameB p H H1)(hp:H p≠none)(hb:H1 b=none)(hp1:H1 p≠none):H b=none:=by
 cases e:H b with
 |none=>rfl
 |some o =>
  by_cases z:b=p
  ·subst z;exact absurd hb hp1
  ·rw[a b o z e]at hb;cases hb
theorem RdA.isS{C:Addr}{H:Hp}{p:Addr}{e:Nat×Nat}{us:List Mk}(h:RdA C H p e us):H p≠none:=by obtain⟨dx,pm,qs,ts,d,h1,_⟩:=h;rw[h1];simp
theorem RdA.lst_ne{C:Addr}{H:Hp}{p a:Addr}{e:Nat×Nat}{us:List Mk}{xs:List V}(h:RdA C H p e us)(ha:H a=some (.lst xs)):a≠p:=λz=>by obtain⟨dx,pm,qs,ts,d,h1,_⟩:=h;rw[z,h1]at ha;cases ha
theorem RdA.ins{C:Addr}{H:Hp}{p:Addr}{e:Nat×Nat}{us:List Mk}(h:RdA C H p e us):∃(dx pm:Addr) (d:Int),H p=some (.ins C dx (fdl pm e d)):=by obtain⟨dx,pm,qs,ts,d,h1,_⟩:=h;exact⟨dx,pm,d,h1⟩
theorem XAt.step{CN p:Addr}{E:XK}{H H1:Hp}{n:Nat}(h:XAt CN p E H n)(s:SameB p H H1):XAt CN p E H1 n:=λH' dx s' e=>h H' dx (s.trans s') e
def oA:Sp:=λvs H Q _=>∃(l:List Nat) (z:Str) (p:Nat->Bool),vs=[.str (stL l),.str z]/\(∀c∈l,c<128)/\l.length<=1000/\SgP z p/\(l=[]->Q (.bl false) H)/\(l≠[]->∀H',Same H H'->Q (.bl (l.all p)) H')
theorem Cw{f:Addr}{fd:FuncData}(F:Fun K "made_of" "made_of" ke f fd)(T:Txt K mg):FnOk P w K mg base CX0 1 f fd ["word","signs"] oA:=by
 refine F.ok Ax (λvs H Q E h=>?_) (λcdv A outer s H vs Q E hr h=>?_)
 ·obtain⟨l,z,p,rfl,_⟩:=h;rfl
 ·obtain⟨l,z,p,rfl,ha,hl,hz,k1,k2⟩:=h;have big:=sizeLine_eq;refine⟨_,(ag (aq (bx (bQ iZ (pv 0) ao (aA _)) (bq (aO (HV (K:=K) rfl rfl) (by rfl) T.all_ PyProof.Rows.boot_all (aa (wo (own:=["sign"]) (fr:=["signs"]) (js:=[1]) (by walk_at "comp_ok") rfl (BM (pv 0)) (λ_ _ _ _=>(dZ (i:=0) (show List.Nodup (["sign","signs"]:List Str)from by decide +kernel) rfl (Or.inl rfl))) (λ_ _ _ _=>(bQ rf (pv 0) (pv 1) (by rfl)))) ac)))))),?_⟩;refine aG (aV ⟨_,rfl,rfl,_,rfl,gE (λh0=>?_) (λh0=>?_)⟩)
  rotate_left
  ·have h0':l=[]:=by have:stL l=Str.ofString "":=V.str.inj h0;rw[lE]at this;exact stL_inj.mp this
   exact k1 h0'
  have h0':l≠[]:=λe=>h0 (by rw[e,<- lE])
  have hasc:(stL l).cps.all (·<128)=true:=by rw[show(stL l).cps.all (·<128)=l.all (·<128) by unfold stL;simp,Kp];intro c hc;exact decide_eq_true (ha c hc)
  refine⟨_,rfl,_,rfl,hasc,HG (λi ys σ' H'=>∃z0:Option V,σ'=[z0,some (.str z)]/\ys=((l.take i).map p).map V.bl/\H=H') (by rw[vH];omega) ⟨none,rfl,rfl,rfl⟩ ?_ ?_ ?_⟩
  ·rintro i ys σ' H' _ ⟨z0,rfl,rfl,rfl⟩;rw[J6,J6,KY];exact Nat.min_le_left _ _
  ·rintro i c ys σ' H' hc ⟨z0,rfl,rfl,rfl⟩;have hc':l[i]?=some c:=by unfold stL at hc;simpa using hc
   refine⟨_,rfl,_,rfl,_,_,rfl,rfl,_,rfl,?_,rfl⟩;rw[StrLaws.found_one,hz,KR,hc'];simp
  ·rintro ys σ' H' q ⟨z0,rfl,rfl,rfl⟩ hq;rw[vH,List.take_length];refine⟨q,l.map p,rfl,SqL.of ap,?_⟩;have:=k2 h0' _ (Same.upd_new (o:=.lst ((l.map p).map V.bl)) hq);rw[show(l.map p).all id=l.all p by rw[List.all_map];rfl];exact this
def iT:Sp:=λvs H Q _=>∃l:List Nat,vs=[.str (stL l)]/\(∀c∈l,c<128)/\l.length<=1000/\∀H',Same H H'->Q (.bl (isN l)) H'
theorem Cz{f:Addr}{fd:FuncData}(F:Fun K "is_whole" "is_whole" kf f fd)(T:Txt K mg){sY:Addr}{sK:FuncData}(u8:Cal P w K mg base 1 "made_of" ["word","signs"] oA sY sK):FnOk P w K mg base CX0 2 f fd ["word"] iT:=by
 obtain⟨uL,rL,sC,t6⟩:=u8;obtain⟨tF,hFIGURES⟩:=T.FIGURES_;refine F.ok Ay (λvs H Q E h=>?_) (λcdv A outer s H vs Q E hr h=>?_)
 ·obtain⟨l,rfl,_⟩:=h;rfl
 ·obtain⟨l,rfl,ha,hl,k⟩:=h;have big:=sizeLine_eq;refine⟨_,(ag (aq (bx (au uL (hr.mono) rfl rL sC t6 .nil ak (aa (pv 0) (aa (br (v:=.str "0123456789") rfl hFIGURES ⟨_,rfl⟩) ac))) (bq (fQ (bQ bA (pv 0) ao (aA _)) (bq (bQ iZ (aw jj (pv 0) ad (λ_ _=>rfl)) ao (aA _)))))))),?_⟩;refine aG (aV ⟨_,rfl,l,_,isD,rfl,ha,hl,yf,λz=>⟨_,rfl,aM ?_⟩,λhn H1 s1=>⟨_,rfl,?_⟩⟩)
  ·subst z;exact k H (Same.refl _)
  have hk:=k H1 s1;cases h0:l.all isD with
  |false =>refine aM ?_;rw[show isN l=false by unfold isN;rw[h0];simp]at hk;exact hk
  |true =>
   refine aN (cv ⟨_,rfl,rfl,_,rfl,ai (λh1=>?_) (λh1=>?_)⟩)
   ·have h1':l=[48]:=by have:stL l=Str.ofString "0":=V.str.inj h1;rw[ji]at this;exact stL_inj.mp this
    rw[h1',show isN [48]=true by decide]at hk;exact hk
   ·have h1':l≠[48]:=λz=>h1 (by rw[z,<- ji])
    obtain⟨c,r,rfl⟩:=Kq hn;refine⟨_,rfl,_,_,c,rfl,rfl,by rw[ah];omega,gY (i:=0) rfl rfl,rfl,?_⟩
    have hN:isN (c::r)=decide (c≠48):=by unfold isN;rw[h0,decide_eq_true hn,decide_eq_false h1'];simp
    have hne:(V.str ⟨#[c]⟩=V.str (Str.ofString "0"))↔c=48:=by
     rw[ji];constructor
     ·intro z;have z2:([c]:List Nat)=[48]:=congrArg (λs:Str=>s.cps.toList) (V.str.inj z);exact List.head_eq_of_cons_eq z2
     ·intro z;rw[z];rfl
    rw[hN]at hk;by_cases hc:c=48
    ·rw[decide_eq_true (hne.mpr hc)];rw[decide_eq_false (not_not_intro hc)]at hk;exact hk
    ·rw[decide_eq_false (λz=>hc (hne.mp z))];rw[decide_eq_true hc]at hk;exact hk
theorem cD(a b:List Nat):eqV (.str (stL a)) (.str (stL b))=decide (a=b):=by
 rw[Kv,decide_eq_true_eq];constructor
 ·intro h;have:(stL a == stL b)=true:=h;exact stL_inj.mp (beq_iff_eq.mp this)
 ·intro h;rw[h];show(stL b == stL b)=true;exact beq_self_eq_true _
theorem FL(m:List Nat):inV (.str (stL m)) [.str (Str.ofString "0"),.str (Str.ofString "1"),.str (Str.ofString "2"),.str (Str.ofString "3"),.str (Str.ofString "4"),.str (Str.ofString "5"),.str (Str.ofString "6"),.str (Str.ofString "7"),.str (Str.ofString "8")]=isE m:=by
 have e:([.str (Str.ofString "0"),.str (Str.ofString "1"),.str (Str.ofString "2"),.str (Str.ofString "3"),.str (Str.ofString "4"),.str (Str.ofString "5"),.str (Str.ofString "6"),.str (Str.ofString "7"),.str (Str.ofString "8")]:List V)=[.str (stL [48]),.str (stL [49]),.str (stL [50]),.str (stL [51]),.str (stL [52]),.str (stL [53]),.str (stL [54]),.str (stL [55]),.str (stL [56])]:=by congr 1
 rw[e];show(eqV (.str (stL [48])) (.str (stL m)) || (eqV (.str (stL [49])) (.str (stL m)) || (eqV (.str (stL [50])) (.str (stL m)) || (eqV (.str (stL [51])) (.str (stL m)) || (eqV (.str (stL [52])) (.str (stL m)) || (eqV (.str (stL [53])) (.str (stL m)) || (eqV (.str (stL [54])) (.str (stL m)) || (eqV (.str (stL [55])) (.str (stL m)) || (eqV (.str (stL [56])) (.str (stL m)) ||false)))))))))=_;rw[cD,cD,cD,cD,cD,cD,cD,cD,cD,Kv];unfold isE
 match m with
 | []=>simp
 | [c] =>simp only[Lc,decide_eq_true_eq,Kf,List.cons.injEq,and_true,Lh,List.all_cons,List.all_nil,Bool.and_true,Bool.or_false,true_and];omega
 |a::b::m=>simp
theorem xM:∀m:List Nat,inV (.str (stL m)) [.str (Str.ofString "+"),.str (Str.ofString "-")]=(decide (m=[43]) ||decide (m=[45])):=λm=>by
 rw[mL,ey];show(eqV (.str (stL [43])) (.str (stL m)) || (eqV (.str (stL [45])) (.str (stL m)) ||false))=_;rw[cD,cD,Bool.or_false];have h1:decide ([43]=m)=decide (m=[43]):=by rw[decide_eq_decide];exact eq_comm
 have h2:decide ([45]=m)=decide (m=[45]):=by rw[decide_eq_decide];exact eq_comm
 rw[h1,h2]
def jP(C CN:Addr):Sp:=λvs H Q E=>∃(p:Addr) (e:Nat×Nat) (us:List Mk),vs=[.ref p]/\RdA C H p e us/\(∀u r,us=u::r->isE u.1=true->∀H',SameB p H H'->RdA C H' p e r->Q (.int (NumText.digitsVal u.1:Nat)) H')/\(isE (mhd us)=false->XAt CN p E H (mbg e.1 us))
theorem Cn{C CNoText f:Addr}{fd:FuncData}(F:Fun K "read_exponent" "read_exponent" j5 f fd)(T:Txt K mg)(R:QC K mg C){bO:Addr}{bN:FuncData}(bI:MCal P w K mg base 1 C "seen" ["self"] (cN C) bO bN){cA:Addr}{cz:FuncData}(cj:MCal P w K mg base 2 C "step" ["self"] (dX C) cA cz){fi:Addr}{eU:FuncData}(fL:MCal P w K mg base 1 C "begin" ["self"] (hU C) fi eU){fm:Addr}{eX:FuncData}(C_NoText:XCal P w K mg base 1 CNoText "NoText" "at" ["self","at"] fm eX):FnOk P w K mg base (CXV P w) 3 f fd ["reading"] (jP C CNoText):=by
 obtain⟨bY,bV,bX⟩:=bI;obtain⟨cV,cQ,cU⟩:=cj;obtain⟨fJ,d9,fG⟩:=fL;obtain⟨aEXPONENTS,hEXPONENTS,sEXP⟩:=T.EXPONENTS_;refine F.okV Av (λvs H Q E h=>?_) (λcdv A outer s H vs Q E hr h=>?_)
 ·obtain⟨p,e,us,rfl,_⟩:=h;rfl
 ·obtain⟨p,e,us,rfl,hA,k1,k2⟩:=h;obtain⟨dx,pm,d,h1⟩:=hA.ins
  refine⟨_,(af (aH (aF (wz (K:=K) rfl) (bi (pv 0) R.cl bV bY (hr.mono) bX .nil ak) (br (v:=.ref aEXPONENTS) rfl hEXPONENTS rfl) (by rfl))
   (ag (lh (C:=CNoText) rfl C_NoText.ow PySem.F.excBase_ValueError C_NoText.ok (hr.mono) C_NoText.bd C_NoText.kp (aa (bi (pv 0) R.cl d9 fJ (hr.mono) fG .nil ak) ac)))
   aJ)
   (ag (aq (cm pF (by rfl) T.int_ PyProof.Rows.boot_int (aa (bi (pv 0) R.cl cQ cV (hr.mono) cU .nil ak) ac))))),?_⟩
  refine am ⟨_,rfl,p,dx,_,rfl,h1,bW _ _ _ bD.1 bD.2.1 bD.2.2.1 bD.2.2.2,p,e,us,rfl,hA,aEXPONENTS,_,rfl,.inr (sEXP _),rfl,by decide,_,rfl,?_⟩;rw[FL];cases hE:isE (mhd us)with
  |false =>refine aN ?_;exact⟨_,rfl,p,dx,_,rfl,h1,bW _ _ _ cq.1 cq.2.1 cq.2.2.1 cq.2.2.2,p,e,us,rfl,hA,_,rfl,λd hd=>k2 hE _ d (SameB.new hd) ap⟩
  |true =>
   refine aM ?_;cases us with
   |nil=>exact absurd hE (by decide)
   |cons u r =>have hu:=hA.is u (by simp);refine⟨_,rfl,p,dx,_,rfl,h1,bW _ _ _ cx.1 cx.2.1 cx.2.2.1 cx.2.2.2,p,e,u,r,rfl,hA,λH' sb ra=>?_⟩;have hD:=Fw (m:=u.1) hE;exact⟨_,(NumText.digitsVal u.1:Nat),rfl,by rw[ah];omega,nM hD.2 hD.1 (by omega),k1 u r rfl hE H' sb ra⟩
def ql(C CN:Addr):Sp:=λvs H Q E=>∃(p:Addr) (e:Nat×Nat) (us:List Mk),vs=[.ref p]/\RdA C H p e us/\(∀k r,aS us=.inr (k,r)->∀H',SameB p H H'->RdA C H' p e r->Q (.int (k:Nat)) H')/\(∀r,aS us=.inl r->XAt CN p E H (mbg e.1 r))
theorem Cj{C CNoText f:Addr}{fd:FuncData}(F:Fun K "read_place" "read_place" j0 f fd)(T:Txt K mg)(R:QC K mg C){jB:Addr}{jt:FuncData}(jJ:MCalV P w K mg base 3 C "demand" ["self","mark"] (jR C CNoText) jB jt){ci:Addr}{cg:FuncData}(bT:MCal P w K mg base 2 C "passes" ["self","mark"] (dj C) ci cg){jw:Addr}{jn:FuncData}(jG:CalV P w K mg base 3 "read_exponent" ["reading"] (jP C CNoText) jw jn):FnOk P w K mg base (CXV P w) 4 f fd ["reading"] (ql C CNoText):=by
 obtain⟨iK,io,iF⟩:=jJ;obtain⟨cu,cr,cs⟩:=bT;obtain⟨uI,rH,sw,tZ⟩:=jG;refine F.okV As (λvs H Q E h=>?_) (λcdv A outer s H vs Q E hr h=>?_)
 ·obtain⟨p,e,us,rfl,_⟩:=h;rfl
 ·obtain⟨p,e,us,rfl,hA,k1,k2⟩:=h;obtain⟨dx,pm,d,h1⟩:=hA.ins
  refine⟨_,(af (cc (cF (pv 0) R.cl io iK (hr.mono) iF .nil (bf (λ_ _ _ z=>z)) (aa ao ac)))
   (af (aH (bB (cF (pv 0) R.cl cr cu (hr.mono) cs .nil ak (aa ao ac)))
     (ag (aq (au uI (hr.mono) rfl rH sw tZ .nil (bf (λ_ _ _ z=>z)) (aa (pv 0) ac))))
     aJ)
   (ag (aq ad)))),?_⟩
  refine cE ⟨_,rfl,p,dx,_,rfl,h1,bW _ _ _ cO.1 cO.2.1 cO.2.2.1 cO.2.2.2,p,e,us,[120],by rw[<- lD];rfl,hA,by decide,λu r eu em H1 sb1 ra1=>?_,λz=>?_⟩
  rotate_left
  ·refine k2 us ?_;cases us with
   |nil=>rfl
   |cons u r=>simp[aS,show ¬u.1=[120]from z]
  subst eu;obtain⟨dx1,pm1,d1,h11⟩:=ra1.ins;refine am ⟨_,rfl,p,dx1,_,rfl,h11,bW _ _ _ bM.1 bM.2.1 bM.2.2.1 bM.2.2.2,p,e,r,[94],by rw[<- iu];rfl,ra1,by decide,λv r2 ev em2 H2 sb2 ra2=>⟨_,rfl,aN ?_⟩,λz=>⟨_,rfl,aM ?_⟩⟩
  ·subst ev;have sb:=sb1.trans sb2;refine⟨_,rfl,p,e,r2,rfl,ra2,λw r3 ew hE H3 sb3 ra3=>?_,λhE=>?_⟩
   ·subst ew;exact k1 (NumText.digitsVal w.1) r3 (by simp[aS,em,em2,hE]) H3 (sb.trans sb3) ra3
   ·refine XAt.step (k2 r2 ?_) sb;cases r2 with
    |nil=>simp[aS,em,em2]
    |cons w r3=>simp[aS,em,em2,show isE w.1=false from hE]
  ·refine k1 1 r ?_ H1 sb1 ra1;cases r with
   |nil=>simp[aS,em]
   |cons v r2=>simp[aS,em,show ¬v.1=[94]from z]
theorem gL{n:Nat}(h:n<2^1000):Bits 1000 (n:Int):=by show((n:Int)).natAbs<2^1000;rw[KJ];exact h
noncomputable def mono(k:Nat)(v:Int):List Int:=trim (List.replicate k 0++[v])
theorem tQ(k:Nat)(v:Int)(n:Nat):cf (mono k v) n=if n=k then v else 0:=by
 unfold mono;rw[pE];by_cases h:n<k
 ·rw[yu (by rw[KA];exact h),HL,if_neg (by omega)]
 ·rw[tT (by rw[KA];omega),KA];by_cases h2:n=k
  ·rw[if_pos h2,h2,Nat.sub_self];rfl
  ·rw[if_neg h2];exact dE (by show 1<=n-k;omega)
theorem oN{k:Nat}(hk:k<=8)(v:Int):(mono k v).length<=9:=by have:=EJ (List.replicate k 0++[v]);rw[J2,KA]at this;have e1:([v]:List Int).length=1:=rfl;unfold mono;omega
def qe(C CN:Addr):Sp:=λvs H Q E=>∃(p:Addr) (e:Nat×Nat) (us:List Mk) (sign:Int),vs=[.ref p,.int sign]/\RdA C H p e us/\(sign=1\/sign = -1)/\(∀n k r,aX us=.inr (n,k,r)->∀(q:Addr) (H':Hp),SameB p H H'->RdA C H' p e r->H q=none->H' q=some (.lst ((mono k (sign*(n:Nat))).map V.int))->Q (.ref q) H')/\(∀r,aX us=.inl r->XAt CN p E H (mbg e.1 r))
theorem Cf{C CNoText f:Addr}{fd:FuncData}(F:Fun K "read_term" "read_term" jZ f fd)(T:Txt K mg)(R:QC K mg C){gT:Addr}{gQ:FuncData}(g7:Cal P w K mg base 2 "is_whole" ["word"] iT gT gQ){bO:Addr}{bN:FuncData}(bI:MCal P w K mg base 1 C "seen" ["self"] (cN C) bO bN){cA:Addr}{cz:FuncData}(cj:MCal P w K mg base 2 C "step" ["self"] (dX C) cA cz){ci:Addr}{cg:FuncData}(bT:MCal P w K mg base 2 C "passes" ["self","mark"] (dj C) ci cg){GY:Addr}{Gv:FuncData}(JC:CalV P w K mg base 4 "read_place" ["reading"] (ql C CNoText) GY Gv){sX:Addr}{sJ:FuncData}(u0:Cal P w K mg base 1 "poly" ["row"] (oy K) sX sJ):FnOk P w K mg base (CXV P w) 5 f fd ["reading","sign"] (qe C CNoText):=by
 obtain⟨nX,mG,mQ,nR⟩:=g7;obtain⟨bY,bV,bX⟩:=bI;obtain⟨cV,cQ,cU⟩:=cj;obtain⟨cu,cr,cs⟩:=bT;obtain⟨yX,xa,xy,yI⟩:=JC;obtain⟨nW,mF,mP,nQ⟩:=u0;refine F.okV sc_read_term (λvs H Q E h=>?_) (λcdv A outer s H vs Q E hr h=>?_)
 ·obtain⟨p,e,us,sign,rfl,_⟩:=h;rfl
 ·obtain⟨p,e,us,sign,rfl,hA,hsg,k1,k2⟩:=h;have big:=sizeLine_eq;obtain⟨dx,pm,d,h1⟩:=hA.ins
  refine⟨_,(af (aH (dY (bB (au nX (hr.mono) rfl mG mQ nR .nil ak (aa (bi (pv 0) R.cl bV bY (hr.mono) bX .nil ak) ac))))
   (ag (aq (au nW (hr.mono) rfl mF mP nQ .nil ak (aa (aj rg (aj wx (ck (aa ad ac)) (au yX (hr.mono) rfl xa xy yI .nil (bf (λ_ _ _ z=>z)) (aa (pv 0) ac))) (ck (aa (pv 1) ac))) ac))))
   aJ)
   (af (ay (i:=2) sc_read_term.nd rfl (Or.inl rfl) (aj d5 (pv 1) (cm pF (by rfl) T.int_ PyProof.Rows.boot_int (aa (bi (pv 0) R.cl cQ cV (hr.mono) cU .nil ak) ac))))
   (af (aH (bB (cF (pv 0) R.cl cr cu (hr.mono) cs .nil ak (aa ao ac)))
     (ag (aq (au nW (hr.mono) rfl mF mP nQ .nil ak (aa (aj rg (aj wx (ck (aa ad ac)) (au yX (hr.mono) rfl xa xy yI .nil (bf (λ_ _ _ z=>z)) (aa (pv 0) ac))) (ck (aa (pv 2) ac))) ac))))
     aJ)
   (ag (aq (au nW (hr.mono) rfl mF mP nQ .nil ak (aa (ck (aa (pv 2) ac)) ac))))))),?_⟩
  have hm:(∀c∈mhd us,c<128)/\(mhd us).length<=1000:=by
   cases us with
   |nil=>exact⟨λc hc=>(nomatch hc),Kj _⟩
   |cons u r =>have hu:=hA.is u (by simp);exact⟨hu.2.2,by show u.1.length<=1000;omega⟩
  refine am (fP ⟨_,rfl,p,dx,_,rfl,h1,bW _ _ _ bD.1 bD.2.1 bD.2.2.1 bD.2.2.2,p,e,us,rfl,hA,mhd us,rfl,hm.1,hm.2,λH1 s1=>⟨_,rfl,?_⟩⟩);have hA1:=hA.same s1;cases hN:isN (mhd us)with
  |false =>
   refine aN ?_
   have tl:∀r,aS us=.inl r->aX us=.inl r:=λr h=>by
    cases us with
    |nil=>exact(by cases h;rfl)
    |cons u us =>show(if isN u.1=true then _ else _)=_;rw[if_neg (by rw[show isN u.1=false from hN];decide),h]
   have tr:∀k r,aS us=.inr (k,r)->aX us=.inr (1,k,r):=λk r h=>by
    cases us with
    |nil=>cases h
    |cons u us =>show(if isN u.1=true then _ else _)=_;rw[if_neg (by rw[show isN u.1=false from hN];decide),h]
   refine aG ⟨by show 1<=sizeLine;decide,λp2 hp2=>?_⟩;have u2:=Same.upd_new (o:=.lst [V.int 0]) hp2;have ep2:upd H1 p2 (.lst [V.int 0]) p2=some (.lst [V.int 0]):=ap;generalize upd H1 p2 (.lst [V.int 0])=H2 at u2 ep2 ⊢
   have hA2:=hA1.same u2;refine⟨_,rfl,p,e,us,rfl,hA2,λk r hP H3 sb3 ra3=>?_,λr hP=>(k2 r (tl r hP)).step (s1.trans u2).toB⟩;have hk8:=wv hP;have ep3:=sb3 _ _ (hA2.lst_ne ep2) ep2;refine⟨p2,(k:Int),_,rfl,rfl,ep3,by omega,by omega,by rw[KZ];show 1*k<=sizeLine;omega,λp4 hp4=>?_⟩;rw[KZ,v5];have u4:=Same.upd_new (o:=.lst ((List.replicate k (0:Int)).map V.int)) hp4;have ep4:upd H3 p4 (.lst ((List.replicate k (0:Int)).map V.int)) p4=some (.lst ((List.replicate k (0:Int)).map V.int)):=ap;generalize upd H3 p4 (.lst ((List.replicate k (0:Int)).map V.int))=H4 at u4 ep4 ⊢
   refine⟨_,rfl,by show 1<=sizeLine;decide,λp5 hp5=>?_⟩;have u5:=Same.upd_new (o:=.lst [V.int sign]) hp5;have ep5:upd H4 p5 (.lst [V.int sign]) p5=some (.lst [V.int sign]):=ap;generalize upd H4 p5 (.lst [V.int sign])=H5 at u5 ep5 ⊢
   refine⟨p4,p5,_,_,rfl,rfl,u5 _ _ ep4,ep5,by rw[J6,KA];show k+1<=sizeLine;omega,λp6 hp6=>?_⟩;rw[show(List.replicate k (0:Int)).map V.int++[V.int sign]=(List.replicate k 0++[sign]).map V.int by rw[Kl];rfl];have u6:=Same.upd_new (o:=.lst ((List.replicate k 0++[sign]).map V.int)) hp6;refine⟨p6,_,rfl,SqL.of ap,λq H7 s7 hq eq=>?_⟩;have sAll:Same H3 H7:=((u4.trans u5).trans u6).trans s7;have sB:SameB p H H7:=((s1.trans u2).toB.trans sb3).trans sAll.toB;refine k1 1 k r (tr k r hP) q H7 sB (ra3.same sAll) ?_ ?_
   ·have f3:H3 q=none:=((u4.trans u5).trans u6).free hq;exact(s1.trans u2).free (sb3.free hA2.isS f3 ra3.isS)
   ·rw[eq];show _=some (HO.lst ((trim (List.replicate k 0++[sign*((1:Nat):Int)])).map V.int));rw[show sign*((1:Nat):Int)=sign by omega]
  |true =>
   refine aM ?_;cases us with
   |nil=>exact absurd hN (by decide)
   |cons u us =>
   have hN':isN u.1=true:=hN;have hu:=hA.is u (by simp);have hD:=o7 hN';obtain⟨dx1,pm1,d1,h11⟩:=hA1.ins;refine aC ⟨_,rfl,_,rfl,p,dx1,_,rfl,h11,bW _ _ _ cx.1 cx.2.1 cx.2.2.1 cx.2.2.2,p,e,u,us,rfl,hA1,λH2 sb2 ra2=>?_⟩;have bsz:Bits 1000 ((NumText.digitsVal u.1:Nat):Int):=gL (dv_bits hD hu.2.1)
   have bsg:Bits 2 sign:=by show sign.natAbs<2^2;rcases hsg with rfl |rfl<;>decide
   refine⟨_,((NumText.digitsVal u.1:Nat):Int),rfl,by rw[ah];omega,nM hD hu.1 (by omega),_,_,rfl,rfl,⟨bsg.mono,bsz.mono⟩,?_⟩;obtain⟨dx2,pm2,d2,h12⟩:=ra2.ins;have hb:SameB p H H2:=s1.toB.trans sb2;generalize hn:NumText.digitsVal u.1=n;refine am ⟨_,rfl,p,dx2,_,rfl,h12,bW _ _ _ bM.1 bM.2.1 bM.2.2.1 bM.2.2.2,p,e,us,[42],by rw[<- cI];rfl,ra2,by decide,λv r2 ev em H3 sb3 ra3=>⟨_,rfl,aN ?_⟩,λz=>⟨_,rfl,aM ?_⟩⟩
   ·subst ev;have eTl:∀r,aS r2=.inl r->aX (u::v::r2)=.inl r:=λr h=>by simp only[aX,hN',em,if_true,h]
    have eTr:∀k r,aS r2=.inr (k,r)->aX (u::v::r2)=.inr (n,k,r):=λk r h=>by simp only[aX,hN',em,if_true,h,hn]
    refine aG ⟨by show 1<=sizeLine;decide,λp2 hp2=>?_⟩;have u2:=Same.upd_new (o:=.lst [V.int 0]) hp2;have ep2:upd H3 p2 (.lst [V.int 0]) p2=some (.lst [V.int 0]):=ap;generalize upd H3 p2 (.lst [V.int 0])=H4 at u2 ep2 ⊢
    have hA4:=ra3.same u2;have hb4:SameB p H H4:=(hb.trans sb3).trans u2.toB;refine⟨_,rfl,p,e,r2,rfl,hA4,λk r hP H5 sb5 ra5=>?_,λr hP=>(k2 r (eTl r hP)).step hb4⟩;have hk8:=wv hP;have ep3:=sb5 _ _ (hA4.lst_ne ep2) ep2;refine⟨p2,(k:Int),_,rfl,rfl,ep3,by omega,by omega,by rw[KZ];show 1*k<=sizeLine;omega,λp4 hp4=>?_⟩;rw[KZ,v5];have u4:=Same.upd_new (o:=.lst ((List.replicate k (0:Int)).map V.int)) hp4;have ep4:upd H5 p4 (.lst ((List.replicate k (0:Int)).map V.int)) p4=some (.lst ((List.replicate k (0:Int)).map V.int)):=ap;generalize upd H5 p4 (.lst ((List.replicate k (0:Int)).map V.int))=H6 at u4 ep4 ⊢
    refine⟨_,rfl,by show 1<=sizeLine;decide,λp5 hp5=>?_⟩;have u5:=Same.upd_new (o:=.lst [V.int (sign*n)]) hp5;have ep5:upd H6 p5 (.lst [V.int (sign*n)]) p5=some (.lst [V.int (sign*n)]):=ap;generalize upd H6 p5 (.lst [V.int (sign*n)])=H7 at u5 ep5 ⊢
    refine⟨p4,p5,_,_,rfl,rfl,u5 _ _ ep4,ep5,by rw[J6,KA];show k+1<=sizeLine;omega,λp6 hp6=>?_⟩;rw[show(List.replicate k (0:Int)).map V.int++[V.int (sign*n)]=(List.replicate k 0++[sign*(n:Int)]).map V.int by rw[Kl];rfl];have u6:=Same.upd_new (o:=.lst ((List.replicate k 0++[sign*(n:Int)]).map V.int)) hp6;refine⟨p6,_,rfl,SqL.of ap,λq H9 s9 hq eq=>?_⟩;have sAll:Same H5 H9:=((u4.trans u5).trans u6).trans s9;refine k1 n k r (eTr k r hP) q H9 (hb4.trans (sb5.trans sAll.toB)) (ra5.same sAll) ?_ eq;have f5:H5 q=none:=((u4.trans u5).trans u6).free hq;exact hb4.free hA.isS (sb5.free hA4.isS f5 ra5.isS) hA4.isS
   ·have eT:aX (u::us)=.inr (n,0,us):=by
     cases us with
     |nil=>simp[aX,hN',hn]
     |cons v r2=>simp[aX,hN',hn,show ¬v.1=[42]from z]
    refine aG ⟨_,rfl,by show 1<=sizeLine;decide,λp5 hp5=>?_⟩;have u5:=Same.upd_new (o:=.lst [V.int (sign*n)]) hp5;refine⟨p5,[sign*(n:Int)],rfl,SqL.of ap,λq H7 s7 hq eq=>?_⟩;have sAll:=u5.trans s7;refine k1 n 0 us eT q H7 (hb.trans sAll.toB) (ra2.same sAll) (hb.free hA.isS (u5.free hq) ra2.isS) ?_;rw[eq];rfl
theorem EL{row:List Int}(ht:Tr row)(h:∀k,9<=k->cf row k=0):row.length<=9:=by
 refine Classical.byContradiction λz=>?_
 exact ht (row.length-1) (by omega) (h _ (by omega))
def TmI(C p:Addr)(e:Nat×Nat)(us0:List Mk)(H:Hp)(m:Nat)(σ':St)(H':Hp):Prop:=∃(q:Addr) (row:List Int) (us:List Mk) (c:Cfg),m=us.length/\σ'=[some (.ref p),some (.ref q)]/\SameB p H H'/\RdA C H' p e us/\H q=none/\H' q=some (.lst (row.map V.int))/\Tr row/\row.length<=9/\(∀n,cf row n=c.fin n)/\Lf2 c.st us/\mgo cfg0 us0=mgo c us
def qc(C CN:Addr):Sp:=λvs H Q E=>∃(p:Addr) (e:Nat×Nat) (us:List Mk),vs=[.ref p]/\RdA C H p e us/\(∀c r,mgo cfg0 us=(c,r)->c.st.opn=false->∀(q:Addr) (H':Hp) (row:List Int),SameB p H H'->RdA C H' p e r->H q=none->H' q=some (.lst (row.map V.int))->Tr row->row.length<=9->(∀n,cf row n=c.fin n)->Q (.ref q) H')/\(∀c r,mgo cfg0 us=(c,r)->c.st.opn=true->XAt CN p E H (mbg e.1 r))
theorem Ce{C CNoText f:Addr}{fd:FuncData}(F:Fun K "read_terms" "read_terms" jY f fd)(T:Txt K mg)(R:QC K mg C){GX:Addr}{Gu:FuncData}(JB:CalV P w K mg base 5 "read_term" ["reading","sign"] (qe C CNoText) GX Gu){ci:Addr}{cg:FuncData}(bT:MCal P w K mg base 2 C "passes" ["self","mark"] (dj C) ci cg){bO:Addr}{bN:FuncData}(bI:MCal P w K mg base 1 C "seen" ["self"] (cN C) bO bN){G5:Addr}{GE:FuncData}(JJ:Cal P w K mg base 2 "added" ["first","second"] (qN K fX) G5 GE){cA:Addr}{cz:FuncData}(cj:MCal P w K mg base 2 C "step" ["self"] (dX C) cA cz):FnOk P w K mg base (CXV P w) 6 f fd ["reading"] (qc C CNoText):=by
 obtain⟨yV,w8,xw,yG⟩:=JB;obtain⟨cu,cr,cs⟩:=bT;obtain⟨bY,bV,bX⟩:=bI;obtain⟨Jj,En,E9,Ik⟩:=JJ;obtain⟨cV,cQ,cU⟩:=cj;refine F.okV sc_read_terms (λvs H Q E h=>?_) (λcdv A outer s H vs Q E hr h=>?_)
 ·obtain⟨p,e,us,rfl,_⟩:=h;rfl
 ·obtain⟨p,e,us0,rfl,hA,k1,k2⟩:=h;have big:=sizeLine_eq;obtain⟨dx,pm,d,h1⟩:=hA.ins
  have hbad:∀(c:Cfg) (us r:List Mk),mgo cfg0 us0=mgo c us->Bad (mgo c us)/\(mgo c us).2=r->XAt CNoText p E H (mbg e.1 r):=λc us r e1 h=>by rw[<- h.2];exact k2 (mgo c us).1 (mgo c us).2 e1 h.1
  refine⟨_,(af (ay (i:=1) sc_read_terms.nd rfl (Or.inl rfl) (au yV (hr.mono) rfl w8 xw yG .nil (bf (λ_ _ _ z=>z)) (aa (pv 0) (aa (iX (bB (cF (pv 0) R.cl cr cu (hr.mono) cs .nil ak (aa ao ac))) (da cX ad) ad) ac))))
   (af (ic PassesOwn.leaving (aF (my (K:=K) rfl) (bi (pv 0) R.cl bV bY (hr.mono) bX .nil ak) (bF (aa ao (aa ao ac))) (by rfl))
     (ag (ay (i:=1) sc_read_terms.nd rfl (Or.inl rfl) (au Jj (hr.mono) rfl En E9 Ik .nil ak (aa (pv 1) (aa (au yV (hr.mono) rfl w8 xw yG .nil (bf (λ_ _ _ z=>z)) (aa (pv 0) (aa (iX (aF bA (bi (pv 0) R.cl cQ cV (hr.mono) cU .nil ak) ao (aA _)) ad (da cX ad)) ac))) ac))))))
   (ag (aq (pv 1))))),?_⟩
  refine ld (λσ' H'=>∃m,TmI C p e us0 H m σ' H') ?_ (λrest=>?_)
  rotate_left
  ·refine bJ ⟨_,rfl,_,rfl,p,dx,_,rfl,h1,bW _ _ _ bM.1 bM.2.1 bM.2.2.1 bM.2.2.2,p,e,us0,[45],by rw[<- ey];rfl,hA,by decide,λu r eu em H1 sb ra=>⟨_,rfl,aN ?_⟩,λh4=>⟨_,rfl,aM ?_⟩⟩
   ·subst eu;have e1:=ye (us:=r) em;have G:=iO (c:=⟨.p1,λ_=>0,-1,0,0⟩) (us:=r) (.inl rfl) rfl;refine⟨_,rfl,p,e,r,-1,rfl,ra,.inr rfl,λn k r2 hP q H' sb' ra' hq eq=>?_,λr2 hP=>(hbad _ _ _ e1 (G.1 r2 hP)).step sb⟩;obtain⟨s',hl,h8,e2⟩:=G.2 n k r2 hP;exact rest _ _ ⟨_,q,_,r2,_,rfl,rfl,sb.trans sb',ra',sb.free hA.isS hq ra.isS,eq,jL _,oN h8 _,λm=>by rw[tQ];show _=0+_;rw[KI],hl,e1.trans e2⟩
   ·have G:=iO (c:=cfg0) (us:=us0) (.inr ⟨rfl,h4⟩) rfl;refine⟨p,e,us0,1,rfl,hA,.inl rfl,λn k r2 hP q H' sb' ra' hq eq=>?_,λr2 hP=>hbad _ _ _ rfl (G.1 r2 hP)⟩;obtain⟨s',hl,h8,e2⟩:=G.2 n k r2 hP;exact rest _ _ ⟨_,q,_,r2,_,rfl,rfl,sb',ra',hq,eq,jL _,oN h8 _,λm=>by rw[tQ];show _=0+_;rw[KI];rfl,hl,e2⟩
  rintro σ' H1 ⟨m0,hI⟩;refine⟨λm σ' H'=>TmI C p e us0 H m σ' H',⟨m0,hI⟩,?_⟩;clear hI;rintro m σ' H2 ⟨q,row,us,c,rfl,rfl,sb2,ra2,hq,eq,trr,hr9,hcf,hl,hgo⟩;obtain⟨dx2,pm2,d2,h12⟩:=ra2.ins;refine⟨_,rfl,p,dx2,_,rfl,h12,bW _ _ _ bD.1 bD.2.1 bD.2.2.1 bD.2.2.2,p,e,us,rfl,ra2,by show 2<=sizeLine;decide,λpt hpt=>?_⟩;have u3:=Same.upd_new (o:=.tup [V.str (Str.ofString "+"),V.str (Str.ofString "-")]) hpt;refine⟨pt,_,rfl,.inr (SqT.of ap),rfl,by decide,_,rfl,?_⟩;generalize upd H2 pt (.tup [V.str (Str.ofString "+"),V.str (Str.ofString "-")])=H3 at u3 ⊢
  have ra3:=ra2.same u3;have sb3:SameB p H H3:=sb2.trans u3.toB;have eq3:=u3 _ _ eq;obtain⟨L1,L2'⟩:=o0 hl;show if(inV (.str (stL (mhd us))) [.str (Str.ofString "+"),.str (Str.ofString "-")])=true then _ else _
  rw[xM];by_cases hs:mhd us=[43]\/mhd us=[45]
  rotate_left
  ·have hs1:mhd us≠[43]:=λz=>hs (.inl z)
   have hs2:mhd us≠[45]:=λz=>hs (.inr z)
   rw[decide_eq_false hs1,decide_eq_false hs2];refine aM ?_;have e9:=L2' hs1 hs2;exact⟨_,rfl,k1 c us (hgo.trans e9) (si hl) q H3 row sb3 ra3 hq eq3 trr hr9 hcf⟩
  rw[show(decide (mhd us=[43]) ||decide (mhd us=[45]))=true by rcases hs with z |z<;>simp[z]];refine aN ?_;cases us with
  |nil=>rcases hs with z |z<;>cases z
  |cons u us =>
  have hs':u.1=[43]\/u.1=[45]:=hs;have e4:=hgo.trans (L1 u us rfl hs');refine⟨λσ'' H''=>∃m',m'<(u::us).length/\TmI C p e us0 H m' σ'' H'',λ_ _ h=>h,?_⟩;obtain⟨dx3,pm3,d3,h13⟩:=ra3.ins;have G:=iO (c:=⟨.p1,c.fin,if u.1=[45]then -1 else 1,0,0⟩) (us:=us) (.inl rfl) rfl;refine bJ ⟨_,rfl,_,rfl,_,rfl,p,dx3,_,rfl,h13,bW _ _ _ cx.1 cx.2.1 cx.2.2.1 cx.2.2.2,p,e,u,us,rfl,ra3,λH4 sb4 ra4=>⟨rfl,_,rfl,?_⟩⟩;have eq4:=sb4 _ _ (ra3.lst_ne eq3) eq3;have sbb:=sb3.trans sb4
  have fin:∀(sg:Int),(if u.1=[45]then -1 else 1)=sg->∀n k r2,aX us=.inr (n,k,r2)->∀(q2:Addr) (H5:Hp),SameB p H4 H5->RdA C H5 p e r2->H4 q2=none->H5 q2=some (.lst ((mono k (sg*(n:Nat))).map V.int))->∀(q3:Addr) (H6:Hp),Same H5 H6->H5 q3=none->H6 q3=some (.lst ((fX row (mono k (sg*(n:Nat)))).map V.int))->∃m',m'<(u::us).length/\TmI C p e us0 H m' [some (.ref p),some (.ref q3)] H6:=λsg hsg n k r2 hP q2 H5 sb5 ra5 hq2 eq2 q3 H6 s6 hq3 eq6=>by
   obtain⟨s',hl',h8,e5⟩:=G.2 n k r2 hP;have hlt:=BY hP;refine⟨r2.length,by rw[J4];omega,q3,_,r2,_,rfl,rfl,(sbb.trans sb5).trans s6.toB,ra5.same s6,?_,eq6,jL _,?_,λm=>?_,hl',e4.trans e5⟩
   ·exact sbb.free hA.isS (sb5.free ra4.isS hq3 ra5.isS) ra4.isS
   ·refine EL (jL _) λj hj=>?_
    have m9:=oN h8 (sg*(n:Nat));show cf (fX _ _) j=0;rw[yv,dE (by omega),dE (by omega)];rfl
   ·show cf (fX _ _) m=c.fin m+_;rw[yv,hcf,tQ,<- hsg]
  have m9:∀k v,k<=8->(mono k v).length<=1000000:=λk v h=>by have:=oN h v;omega
  by_cases hn:u.1=[45]
  ·rw[hn];refine ai (λz=>absurd (stL_inj.mp ((V.str.inj z).trans mL)) (by decide)) (λ_=>?_);refine⟨_,rfl,p,e,us,-1,rfl,ra4,.inr rfl,λn k r2 hP q2 H5 sb5 ra5 hq2 eq2=>?_,λr2 hP=>(hbad _ _ _ e4 (G.1 r2 hP)).step sbb⟩;obtain⟨_,_,h8,_⟩:=G.2 n k r2 hP;exact⟨q,q2,row,_,rfl,SqL.of (sb5 _ _ (ra4.lst_ne eq4) eq4),SqL.of eq2,by omega,m9 _ _ h8,λq3 H6 s6 hq3 eq6=>fin (-1) (by rw[if_pos hn]) n k r2 hP q2 H5 sb5 ra5 hq2 eq2 q3 H6 s6 hq3 eq6⟩
  ·have hp:=hs'.resolve_right hn;rw[hp];refine ai (λ_=>?_) (λz=>absurd (by rw[<- mL]) z);refine⟨p,e,us,1,rfl,ra4,.inl rfl,λn k r2 hP q2 H5 sb5 ra5 hq2 eq2=>?_,λr2 hP=>(hbad _ _ _ e4 (G.1 r2 hP)).step sbb⟩;obtain⟨_,_,h8,_⟩:=G.2 n k r2 hP;exact⟨q,q2,row,_,rfl,SqL.of (sb5 _ _ (ra4.lst_ne eq4) eq4),SqL.of eq2,by omega,m9 _ _ h8,λq3 H6 s6 hq3 eq6=>fin 1 (by rw[if_neg hn]) n k r2 hP q2 H5 sb5 ra5 hq2 eq2 q3 H6 s6 hq3 eq6⟩
def sp2:Sp:=λvs H Q _=>∃a b:Int,vs=[.int a,.int b]/\Q (.int (Nat.gcd a.natAbs b.natAbs:Nat)) H
theorem pI(i:Int):(if i<0 then -i else i)=(i.natAbs:Int):=by split<;>omega
theorem Cb{f:Addr}{fd:FuncData}(F:Fun K "shared_by_two" "shared_by_two" jV f fd)(T:Txt K mg):FnOk P w K mg base CX0 1 f fd ["one","other"] sp2:=by
 refine F.ok sc_shared_by_two (λvs H Q E h=>?_) (λcdv A outer s H vs Q E hr h=>?_)
 ·obtain⟨a,b,rfl,_⟩:=h;rfl
 ·obtain⟨a,b,rfl,k⟩:=h
  refine⟨_,(af (ay (i:=2) sc_shared_by_two.nd rfl (Or.inl rfl) (aO lO (by rfl) T.abs_ PyProof.Rows.boot_abs (aa (pv 0) ac)))
   (af (ay (i:=3) sc_shared_by_two.nd rfl (Or.inl rfl) (aO lO (by rfl) T.abs_ PyProof.Rows.boot_abs (aa (pv 1) ac)))
   (af (ic PassesOwn.never (aF wA (pv 3) ad (aA _))
     (af (ay (i:=4) sc_shared_by_two.nd rfl (Or.inl rfl) (aj bh (pv 2) (pv 3)))
       (af (ay (i:=2) sc_shared_by_two.nd rfl (Or.inl rfl) (pv 3))
       (ag (ay (i:=3) sc_shared_by_two.nd rfl (Or.inl rfl) (pv 4))))))
   (ag (aq (pv 2)))))),?_⟩
  refine⟨_,rfl,_,rfl,?_⟩;refine⟨_,rfl,_,rfl,?_⟩;refine⟨λm σ' H'=>∃(x y:Int) (z:Option V),σ'=[some (.int a),some (.int b),some (.int x),some (.int y),z]/\H=H'/\0<=x/\0<=y/\y.natAbs=m/\Nat.gcd x.natAbs y.natAbs=Nat.gcd a.natAbs b.natAbs,⟨_,_,_,none,rfl,rfl,?_,?_,rfl,?_⟩,?_⟩
  ·rw[pI];exact Int.natCast_nonneg _
  ·rw[pI];exact Int.natCast_nonneg _
  ·rw[pI,pI,KJ,KJ]
  ·rintro m σ' H' ⟨x,y,z,rfl,rfl,hx,hy,rfl,hg⟩;refine⟨_,rfl,_,_,rfl,rfl,_,rfl,?_⟩;refine gE (λhn=>?_) (λh0=>?_)
   ·have hp:0<y:=by have:y≠0:=hn;omega
    refine⟨λσ'' H''=>∃m',m'<y.natAbs/\∃(x' y':Int) (z:Option V),σ''=[some (.int a),some (.int b),some (.int x'),some (.int y'),z]/\H=H''/\0<=x'/\0<=y'/\y'.natAbs=m'/\Nat.gcd x'.natAbs y'.natAbs=Nat.gcd a.natAbs b.natAbs,λ_ _ h=>h,?_⟩;refine⟨_,rfl,_,rfl,_,_,rfl,rfl,hp,?_⟩;refine⟨_,rfl,?_⟩;refine⟨_,rfl,?_⟩;have h1:=Int.emod_nonneg x (Int.ne_of_gt hp);have h2:=Int.emod_lt_of_pos x hp;exact⟨(x%y).natAbs,by omega,y,x%y,_,rfl,rfl,hy,h1,rfl,by rw[Gd hx hp];exact hg⟩
   ·refine⟨_,rfl,?_⟩;have e:(y:Int)=0:=h0;subst e
    have e2:(x:Int)=((Nat.gcd a.natAbs b.natAbs:Nat):Int):=by rw[<- hg];show x=((Nat.gcd x.natAbs 0:Nat):Int);rw[Nat.gcd_zero_right];omega
    rw[e2];exact k
noncomputable def gP(t b:Int):List (Str×V):=aT "bottom" (.int b) (aT "top" (.int t) [])
theorem zz:¬(("top":Str)="bottom"):=by decide +kernel
theorem mY(t b:Int):(gP t b).lookup ("bottom":Str)=some (.int b):=by unfold gP;rw[ba,if_pos rfl]
theorem py(t b:Int):(gP t b).lookup ("top":Str)=some (.int t):=by unfold gP;rw[ba,if_neg zz,ba,if_pos rfl]
structure RCI(K:PySem.W.Frag)(mg:Str->Option Value)(C:Addr):Prop where
 cl:Cls K C
 nT:NoAttr K C "top"
 nB:NoAttr K C "bottom"
 mg:mg "Ratio"=some (.ref C)
 ha:PySem.W.findIn K (.ref C) "__class__"=some (some (.builtin "object.__class__"))
 hn:PySem.W.specialIn K (.builtin "object.__class__") "__get__"=some (some (.builtin "getset_descriptor.__get__"))
 ht:PySem.W.takesIn K (.builtin "object.__class__")=some true
 hm:PySem.W.mroIn K C (.type "object")=some true
def RA(C:Addr)(H:Hp)(p:Addr)(t b:Int):Prop:=∃dx,H p=some (.ins C dx (gP t b))
theorem RA.same{C:Addr}{H H':Hp}{p:Addr}{t b:Int}(h:RA C H p t b)(s:Same H H'):RA C H' p t b:=let⟨dx,e⟩:=h;⟨dx,s _ _ e⟩
def iU(C:Addr):Sp:=λvs H Q _=>∃(p dx:Addr) (t b:Int),vs=[.ref p,.int t,.int b]/\H p=some (.ins C dx [])/\b≠0/\Bits 9000 b/\Q .non (upd H p (.ins C dx (gP (rt t b) (rb t b))))
theorem oS{C:Addr}{H1:Hp}{q:Addr->Hp->Prop}{E:XK}{t b:Int}(hb:b≠0)(bb:Bits 9000 b)(h:∀(x:Addr) (H':Hp),Same H1 H'->H1 x=none->RA C H' x (rt t b) (rb t b)->q x H'):∀x dx:Addr,H1 x=none->H1 dx=none->dx≠x->iU C (.ref x::([.int t,.int b]++[])) (upd (upd H1 dx (.own x)) x (.ins C dx [])) (λv H2=>v=.non/\q x H2) E:=λx dx nx ndx ne=>by
 refine⟨x,dx,t,b,rfl,ap,hb,bb,rfl,?_⟩;rw[cW]
 have s0:Same H1 (upd (upd H1 dx (.own x)) x (.ins C dx (gP (rt t b) (rb t b)))):=λc o e=>by rw[upd_ne (aU e nx),upd_ne (aU e ndx)];exact e
 exact h x _ s0 nx ⟨dx,ap⟩
theorem dv_bits{t b:Int}(hb:b≠0)(bb:Bits 9000 b):Bits 9000 (dv t b):=bb.of_le (by rw[nK];exact Nat.le_of_dvd (Int.natAbs_pos.mpr hb) (Nat.gcd_dvd_right _ _))
theorem Dm{C f:Addr}{dV:Value}{fd:FuncData}(F:FunD K "__init__" "Ratio.__init__" kR dV f fd)(T:Txt K mg)(R:RCI K mg C){GT:Addr}{Go:FuncData}(Jx:Cal P w K mg base 1 "shared_by_two" ["one","other"] sp2 GT Go):FnOk P w K mg base CX0 2 f fd ["self","top","bottom"] (iU C):=by
 obtain⟨I0,Ec,EW,HX⟩:=Jx;refine F.ok sc_Ratio___init__ (λvs H Q E h=>?_) (λcdv A outer s H vs Q E hr h=>?_)
 ·obtain⟨p,dx,t,b,rfl,_⟩:=h;rfl
 ·obtain⟨p,dx,t,b,rfl,hp,hb,bb,k⟩:=h
  refine⟨_,(af (aH (aF bL (pv 2) ad (aA _))
   (ag BB)
   aJ)
   (af (ay (i:=3) sc_Ratio___init__.nd rfl (Or.inl rfl) (au I0 (hr.mono) rfl Ec EW HX .nil ak (aa (pv 1) (aa (pv 2) ac))))
   (af (aH (aF d7 (pv 2) ad (aA _))
     (ag (ay (i:=3) sc_Ratio___init__.nd rfl (Or.inl rfl) (da cX (pv 3))))
     aJ)
   (af (bp (pv 0) (aj wB (pv 1) (pv 3)) rfl)
   (ag (bp (pv 0) (aj wB (pv 2) (pv 3)) rfl)))))),?_⟩
  refine am ⟨_,rfl,_,_,rfl,rfl,_,rfl,ai (λh=>absurd h hb) (λ_=>?_)⟩;refine aC ⟨_,rfl,_,rfl,t,b,rfl,?_⟩;refine ia (λσ' H'=>H=H'/\σ'=[some (.ref p),some (.int t),some (.int b),some (.int (dv t b))]) ?_ ?_
  ·rintro σ' H' ⟨rfl,rfl⟩;refine⟨_,rfl,_,rfl,_,_,rfl,rfl,⟨pD hb,dv_bits hb bb⟩,_,rfl,p,C,dx,_,rfl,hp,R.cl,R.nT,by show 0<1000;decide,?_⟩;refine⟨_,rfl,_,rfl,_,_,rfl,rfl,⟨pD hb,dv_bits hb bb⟩,_,rfl,p,C,dx,_,rfl,ap,R.cl,R.nB,by show 1<1000;decide,?_⟩;show Q .non (upd (upd H p _) p _);rw[cW];exact k
  ·intro rest;refine⟨_,rfl,_,_,rfl,rfl,_,rfl,?_⟩;refine ai (λh=>?_) (λh=>?_)
   ·refine⟨_,rfl,_,rfl,rest _ _ ⟨rfl,?_⟩⟩;have e:dv t b = -((Nat.gcd t.natAbs b.natAbs:Nat):Int):=by unfold dv;rw[if_pos h]
    rw[e];rfl
   ·refine rest _ _ ⟨rfl,?_⟩;have e:dv t b=((Nat.gcd t.natAbs b.natAbs:Nat):Int):=by unfold dv;rw[if_neg h]
    rw[e];rfl
theorem C5{CWhole f:Addr}{fd:FuncData}(F:Fun K "__init__" "Whole.__init__" kD f fd)(T:Txt K mg)(R:PCI K mg CWhole "Whole" ["value"]):FnOk P w K mg base CX0 1 f fd ["self","value"] (bE CWhole "value"):=by
 refine F.ok AM (λvs H Q E h=>?_) (λcdv A outer s H vs Q E hr h=>?_)
 ·obtain⟨x,dx,a,rfl,_⟩:=h;rfl
 ·obtain⟨x,dx,a,rfl,h1,k⟩:=h;refine⟨_,(ag (bp (pv 0) (pv 1) rfl)),?_⟩;exact⟨_,rfl,_,rfl,x,CWhole,dx,_,rfl,h1,R.cl,R.na _ (by simp),by show 0<1000;decide,k⟩
theorem Dt{CNamed f:Addr}{fd:FuncData}(F:Fun K "__init__" "Named.__init__" kW f fd)(T:Txt K mg)(R:PCI K mg CNamed "Named" ["word"]):FnOk P w K mg base CX0 1 f fd ["self","word"] (bE CNamed "word"):=by
 refine F.ok A3 (λvs H Q E h=>?_) (λcdv A outer s H vs Q E hr h=>?_)
 ·obtain⟨x,dx,a,rfl,_⟩:=h;rfl
 ·obtain⟨x,dx,a,rfl,h1,k⟩:=h;refine⟨_,(ag (bp (pv 0) (pv 1) rfl)),?_⟩;exact⟨_,rfl,_,rfl,x,CNamed,dx,_,rfl,h1,R.cl,R.na _ (by simp),by show 0<1000;decide,k⟩
structure GCI(K:PySem.W.Frag)(mg:Str->Option Value)(CGiven:Addr):Prop where
 cl:Cls K CGiven
 nP:NoAttr K CGiven "poly"
 nL:NoAttr K CGiven "low"
 nH:NoAttr K CGiven "high"
 mg:mg "Given"=some (.ref CGiven)
 ha:PySem.W.findIn K (.ref CGiven) "__class__"=some (some (.builtin "object.__class__"))
 hn:PySem.W.specialIn K (.builtin "object.__class__") "__get__"=some (some (.builtin "getset_descriptor.__get__"))
 ht:PySem.W.takesIn K (.builtin "object.__class__")=some true
 hm:PySem.W.mroIn K CGiven (.type "object")=some true
noncomputable def cy(p l h:Addr):List (Str×V):=aT "high" (.ref h) (aT "low" (.ref l) (aT "poly" (.ref p) []))
theorem BP:¬(("poly":Str)="high"):=by decide +kernel
theorem BI:¬(("poly":Str)="low"):=by decide +kernel
theorem EI:¬(("low":Str)="high"):=by decide +kernel
theorem yd(p l h:Addr):(cy p l h).lookup ("high":Str)=some (.ref h):=by unfold cy;rw[ba,if_pos rfl]
theorem yc(p l h:Addr):(cy p l h).lookup ("low":Str)=some (.ref l):=by unfold cy;rw[ba,if_neg EI,ba,if_pos rfl]
theorem pz(p l h:Addr):(cy p l h).lookup ("poly":Str)=some (.ref p):=by unfold cy;rw[ba,if_neg BP,ba,if_neg BI,ba,if_pos rfl]
def GA(CGiven:Addr)(H:Hp)(x p l h:Addr):Prop:=∃dx,H x=some (.ins CGiven dx (cy p l h))
theorem GA.same{CGiven:Addr}{H H':Hp}{x p l h:Addr}(n:GA CGiven H x p l h)(s:Same H H'):GA CGiven H' x p l h:=let⟨dx,e⟩:=n;⟨dx,s _ _ e⟩
def jO(CGiven:Addr):Sp:=λvs H Q _=>∃(x dx r l h:Addr) (ns:List V),vs=[.ref x,.ref r,.ref l,.ref h]/\H x=some (.ins CGiven dx [])/\H r=some (.lst ns)/\∀p,H p=none->Q .non (upd (upd H p (.lst ns)) x (.ins CGiven dx (cy p l h)))
theorem Dz{CGiven f:Addr}{fd:FuncData}(F:Fun K "__init__" "Given.__init__" kZ f fd)(T:Txt K mg)(RG:GCI K mg CGiven):FnOk P w K mg base CX0 1 f fd ["self","row","low","high"] (jO CGiven):=by
 refine F.ok A6 (λvs H Q E h=>?_) (λcdv A outer s H vs Q E hr h=>?_)
 ·obtain⟨x,dx,r,l,h,ns,rfl,_⟩:=h;rfl
 ·obtain⟨x,dx,r,l,h,ns,rfl,hx,hR,k⟩:=h
  refine⟨_,(af (bp (pv 0) (cm (yy (K:=K) rfl) (by rfl) T.list_ PyProof.Rows.boot_list (aa (pv 1) ac)) rfl)
   (af (bp (pv 0) (pv 2) rfl)
   (ag (bp (pv 0) (pv 3) rfl)))),?_⟩
  refine⟨_,rfl,r,_,rfl,.inl (SqL.of hR),λp hp=>?_⟩;have npx:x≠p:=aU hx hp;refine⟨_,rfl,x,CGiven,dx,_,rfl,by rw[upd_ne npx];exact hx,RG.cl,RG.nP,by show 0<1000;decide,?_⟩;refine⟨_,rfl,_,rfl,x,CGiven,dx,_,rfl,ap,RG.cl,RG.nL,by show 1<1000;decide,?_⟩;refine⟨_,rfl,_,rfl,x,CGiven,dx,_,rfl,ap,RG.cl,RG.nH,by show 2<1000;decide,?_⟩;show Q .non (upd (upd (upd (upd H p _) x _) x _) x _);rw[cW,cW];exact k p hp
theorem Dv{CMinus f:Addr}{fd:FuncData}(F:Fun K "__init__" "Minus.__init__" kX f fd)(T:Txt K mg)(R:PCI K mg CMinus "Minus" ["one"]):FnOk P w K mg base CX0 1 f fd ["self","one"] (bE CMinus "one"):=by
 refine F.ok A4 (λvs H Q E h=>?_) (λcdv A outer s H vs Q E hr h=>?_)
 ·obtain⟨x,dx,a,rfl,_⟩:=h;rfl
 ·obtain⟨x,dx,a,rfl,h1,k⟩:=h;refine⟨_,(ag (bp (pv 0) (pv 1) rfl)),?_⟩;exact⟨_,rfl,_,rfl,x,CMinus,dx,_,rfl,h1,R.cl,R.na _ (by simp),by show 0<1000;decide,k⟩
theorem C9{CSum f:Addr}{fd:FuncData}(F:Fun K "__init__" "Sum.__init__" kF f fd)(T:Txt K mg)(R:PCI K mg CSum "Sum" ["one","other"]):FnOk P w K mg base CX0 1 f fd ["self","one","other"] (aP CSum "one" "other"):=by
 refine F.ok AO (λvs H Q E h=>?_) (λcdv A outer s H vs Q E hr h=>?_)
 ·obtain⟨x,dx,a,b,rfl,_⟩:=h;rfl
 ·obtain⟨x,dx,a,b,rfl,h1,k⟩:=h
  refine⟨_,(af (bp (pv 0) (pv 1) rfl)
   (ag (bp (pv 0) (pv 2) rfl))),?_⟩
  refine⟨_,rfl,_,rfl,x,CSum,dx,_,rfl,h1,R.cl,R.na _ (by simp),by show 0<1000;decide,?_⟩;refine⟨_,rfl,_,rfl,x,CSum,dx,_,rfl,ap,R.cl,R.na _ (by simp),by show 1<1000;decide,?_⟩;rw[cW];exact k
theorem Dx{CLess f:Addr}{fd:FuncData}(F:Fun K "__init__" "Less.__init__" kY f fd)(T:Txt K mg)(R:PCI K mg CLess "Less" ["one","other"]):FnOk P w K mg base CX0 1 f fd ["self","one","other"] (aP CLess "one" "other"):=by
 refine F.ok A5 (λvs H Q E h=>?_) (λcdv A outer s H vs Q E hr h=>?_)
 ·obtain⟨x,dx,a,b,rfl,_⟩:=h;rfl
 ·obtain⟨x,dx,a,b,rfl,h1,k⟩:=h
  refine⟨_,(af (bp (pv 0) (pv 1) rfl)
   (ag (bp (pv 0) (pv 2) rfl))),?_⟩
  refine⟨_,rfl,_,rfl,x,CLess,dx,_,rfl,h1,R.cl,R.na _ (by simp),by show 0<1000;decide,?_⟩;refine⟨_,rfl,_,rfl,x,CLess,dx,_,rfl,ap,R.cl,R.na _ (by simp),by show 1<1000;decide,?_⟩;rw[cW];exact k
theorem C7{CTimes f:Addr}{fd:FuncData}(F:Fun K "__init__" "Times.__init__" kE f fd)(T:Txt K mg)(R:PCI K mg CTimes "Times" ["one","other"]):FnOk P w K mg base CX0 1 f fd ["self","one","other"] (aP CTimes "one" "other"):=by
 refine F.ok AN (λvs H Q E h=>?_) (λcdv A outer s H vs Q E hr h=>?_)
 ·obtain⟨x,dx,a,b,rfl,_⟩:=h;rfl
 ·obtain⟨x,dx,a,b,rfl,h1,k⟩:=h
  refine⟨_,(af (bp (pv 0) (pv 1) rfl)
   (ag (bp (pv 0) (pv 2) rfl))),?_⟩
  refine⟨_,rfl,_,rfl,x,CTimes,dx,_,rfl,h1,R.cl,R.na _ (by simp),by show 0<1000;decide,?_⟩;refine⟨_,rfl,_,rfl,x,CTimes,dx,_,rfl,ap,R.cl,R.na _ (by simp),by show 1<1000;decide,?_⟩;rw[cW];exact k
theorem Dq{COver f:Addr}{fd:FuncData}(F:Fun K "__init__" "Over.__init__" kT f fd)(T:Txt K mg)(R:PCI K mg COver "Over" ["one","other"]):FnOk P w K mg base CX0 1 f fd ["self","one","other"] (aP COver "one" "other"):=by
 refine F.ok A1 (λvs H Q E h=>?_) (λcdv A outer s H vs Q E hr h=>?_)
 ·obtain⟨x,dx,a,b,rfl,_⟩:=h;rfl
 ·obtain⟨x,dx,a,b,rfl,h1,k⟩:=h
  refine⟨_,(af (bp (pv 0) (pv 1) rfl)
   (ag (bp (pv 0) (pv 2) rfl))),?_⟩
  refine⟨_,rfl,_,rfl,x,COver,dx,_,rfl,h1,R.cl,R.na _ (by simp),by show 0<1000;decide,?_⟩;refine⟨_,rfl,_,rfl,x,COver,dx,_,rfl,ap,R.cl,R.na _ (by simp),by show 1<1000;decide,?_⟩;rw[cW];exact k
theorem Do{CPower f:Addr}{fd:FuncData}(F:Fun K "__init__" "Power.__init__" kS f fd)(T:Txt K mg)(R:PCI K mg CPower "Power" ["one","power"]):FnOk P w K mg base CX0 1 f fd ["self","one","exponent"] (aP CPower "one" "power"):=by
 refine F.ok A0 (λvs H Q E h=>?_) (λcdv A outer s H vs Q E hr h=>?_)
 ·obtain⟨x,dx,a,b,rfl,_⟩:=h;rfl
 ·obtain⟨x,dx,a,b,rfl,h1,k⟩:=h
  refine⟨_,(af (bp (pv 0) (pv 1) rfl)
   (ag (bp (pv 0) (pv 2) rfl))),?_⟩
  refine⟨_,rfl,_,rfl,x,CPower,dx,_,rfl,h1,R.cl,R.na _ (by simp),by show 0<1000;decide,?_⟩;refine⟨_,rfl,_,rfl,x,CPower,dx,_,rfl,ap,R.cl,R.na _ (by simp),by show 1<1000;decide,?_⟩;rw[cW];exact k
theorem Db{CRooted f:Addr}{fd:FuncData}(F:Fun K "__init__" "Rooted.__init__" kG f fd)(T:Txt K mg)(R:PCI K mg CRooted "Rooted" ["one","power"]):FnOk P w K mg base CX0 1 f fd ["self","one","exponent"] (aP CRooted "one" "power"):=by
 refine F.ok AQ (λvs H Q E h=>?_) (λcdv A outer s H vs Q E hr h=>?_)
 ·obtain⟨x,dx,a,b,rfl,_⟩:=h;rfl
 ·obtain⟨x,dx,a,b,rfl,h1,k⟩:=h
  refine⟨_,(af (bp (pv 0) (pv 1) rfl)
   (ag (bp (pv 0) (pv 2) rfl))),?_⟩
  refine⟨_,rfl,_,rfl,x,CRooted,dx,_,rfl,h1,R.cl,R.na _ (by simp),by show 0<1000;decide,?_⟩;refine⟨_,rfl,_,rfl,x,CRooted,dx,_,rfl,ap,R.cl,R.na _ (by simp),by show 1<1000;decide,?_⟩;rw[cW];exact k
structure TC where
 wh:Addr
 na:Addr
 gi:Addr
 mi:Addr
 su:Addr
 le:Addr
 ti:Addr
 ov:Addr
 po:Addr
 ro:Addr
 ra:Addr
noncomputable def f1(a:Str)(x:V):List (Str×V):=aT a x []
noncomputable def f2(a b:Str)(x y:V):List (Str×V):=aT b y (aT a x [])
noncomputable def PtH(tc:TC)(av:Addr)(H:Hp):PT->Addr->Prop
 |.whole n,q=>q≠av/\∃dx,H q=some (.ins tc.wh dx (f1 "value" (.int (n:Int))))
 |.named w,q=>q≠av/\∃dx,H q=some (.ins tc.na dx (f1 "word" (.str (stL w))))
 |.given kp l h,q=>q≠av/\∃dx pk pl ph,H q=some (.ins tc.gi dx (cy pk pl ph))/\pk≠av/\H pk=some (.lst (kp.map V.int))/\pl≠av/\RA tc.ra H pl (rt l.1 l.2) (rb l.1 l.2)/\ph≠av/\RA tc.ra H ph (rt h.1 h.2) (rb h.1 h.2)
 |.minus t,q=>q≠av/\∃dx p,H q=some (.ins tc.mi dx (f1 "one" (.ref p)))/\PtH tc av H t p
 |.power t k,q=>q≠av/\∃dx p,H q=some (.ins tc.po dx (f2 "one" "power" (.ref p) (.int (k:Int))))/\PtH tc av H t p
 |.rooted t k,q=>q≠av/\∃dx p,H q=some (.ins tc.ro dx (f2 "one" "power" (.ref p) (.int (k:Int))))/\PtH tc av H t p
 |.sum a b,q=>q≠av/\∃dx p r,H q=some (.ins tc.su dx (f2 "one" "other" (.ref p) (.ref r)))/\PtH tc av H a p/\PtH tc av H b r
 |.less a b,q=>q≠av/\∃dx p r,H q=some (.ins tc.le dx (f2 "one" "other" (.ref p) (.ref r)))/\PtH tc av H a p/\PtH tc av H b r
 |.times a b,q=>q≠av/\∃dx p r,H q=some (.ins tc.ti dx (f2 "one" "other" (.ref p) (.ref r)))/\PtH tc av H a p/\PtH tc av H b r
 |.over a b,q=>q≠av/\∃dx p r,H q=some (.ins tc.ov dx (f2 "one" "other" (.ref p) (.ref r)))/\PtH tc av H a p/\PtH tc av H b r
theorem PtH.sb{tc:TC}{av:Addr}{H H':Hp}(s:SameB av H H'):∀{t:PT} {q:Addr},PtH tc av H t q->PtH tc av H' t q
 |.whole n,q,⟨a,dx,e⟩=>⟨a,dx,s _ _ a e⟩
 |.named w,q,⟨a,dx,e⟩=>⟨a,dx,s _ _ a e⟩
 |.given kp l h,q,⟨a,dx,pk,pl,ph,e,a1,e1,a2,⟨d2,e2⟩,a3,⟨d3,e3⟩⟩=>⟨a,dx,pk,pl,ph,s _ _ a e,a1,s _ _ a1 e1,a2,⟨d2,s _ _ a2 e2⟩,a3,⟨d3,s _ _ a3 e3⟩⟩
 |.minus t,q,⟨a,dx,p,e,h⟩=>⟨a,dx,p,s _ _ a e,PtH.sb s h⟩
 |.power t k,q,⟨a,dx,p,e,h⟩=>⟨a,dx,p,s _ _ a e,PtH.sb s h⟩
 |.rooted t k,q,⟨a,dx,p,e,h⟩=>⟨a,dx,p,s _ _ a e,PtH.sb s h⟩
 |.sum _ _,q,⟨a,dx,p,r,e,h1,h2⟩=>⟨a,dx,p,r,s _ _ a e,PtH.sb s h1,PtH.sb s h2⟩
 |.less _ _,q,⟨a,dx,p,r,e,h1,h2⟩=>⟨a,dx,p,r,s _ _ a e,PtH.sb s h1,PtH.sb s h2⟩
 |.times _ _,q,⟨a,dx,p,r,e,h1,h2⟩=>⟨a,dx,p,r,s _ _ a e,PtH.sb s h1,PtH.sb s h2⟩
 |.over _ _,q,⟨a,dx,p,r,e,h1,h2⟩=>⟨a,dx,p,r,s _ _ a e,PtH.sb s h1,PtH.sb s h2⟩
theorem PtH.same{tc:TC}{av:Addr}{H H':Hp}{t:PT}{q:Addr}(h:PtH tc av H t q)(s:Same H H'):PtH tc av H' t q:=h.sb s.toB
def spP(C CN:Addr)(tc:TC)(p:List Mk->Res PT)(n:Nat):Sp:=λvs H Q E=>∃(pr:Addr) (e:Nat×Nat) (us:List Mk),vs=[.ref pr]/\RdA C H pr e us/\e.2+n=10/\(∀t r,p us=.inr (t,r)->∀(q:Addr) (H':Hp),SameB pr H H'->RdA C H' pr e r->PtH tc pr H' t q->H q=none->Q (.ref q) H')/\(∀r,p us=.inl r->XAt CN pr E H (mbg e.1 r))
def vK:Sp:=λ_ _ _ _=>False
noncomputable def spS(C CN:Addr)(tc:TC):Nat->Sp
 |0=>vK
 |n+1=>spP C CN tc (pS n) n
theorem sI(pm:Addr)(e:Nat×Nat)(d:Int):(fdl pm e d).lookup ("depth":Str)=some (.int (e.2:Nat)):=by unfold fdl;rw[ba,if_pos rfl]
theorem yh(pm:Addr)(e:Nat×Nat)(d:Int)(q:Nat):aT "depth" (.int (q:Nat)) (fdl pm e d)=fdl pm (e.1,q) d:=by rw[m4,m4];show(if("marks":Str)="depth" then _ else _::(if("end":Str)="depth" then _ else _::(if("done":Str)="depth" then _ else _::(if("depth":Str)="depth" then _ else _))))=_;rw[if_neg rj,if_neg rm,if_neg rq,if_pos rfl]
theorem RdA.dep{C:Addr}{H:Hp}{p pm dx:Addr}{e:Nat×Nat}{qs:List Addr}{ts us:List Mk}{d q:Nat}(h1:H p=some (.ins C dx (fdl pm e d)))(h2:H pm=some (.lst (qs.map V.ref)))(h3:MkH H qs ts)(h4:ts.drop d=us)(h5:d<=ts.length)(h6:∀u∈ts,u.1≠[]/\u.1.length<=300/\∀c∈u.1,c<128):SameB p H (upd H p (.ins C dx (fdl pm (e.1,q) d)))/\RdA C (upd H p (.ins C dx (fdl pm (e.1,q) d))) p (e.1,q) us:=by
 have np:pm≠p:=λz=>by rw[z,h1]at h2;cases h2
 exact⟨λb o hb eo=>by rw[upd_ne hb];exact eo,dx,pm,qs,ts,d,ap,by rw[upd_ne np];exact h2,h3.upd_ins h1,h4,h5,h6⟩
theorem jh:(Str.ofString "(":Str)=stL [40]:=by decide +kernel
theorem eD:(Str.ofString ")":Str)=stL [41]:=by decide +kernel
theorem EG:(Str.ofString ",":Str)=stL [44]:=by decide +kernel
theorem jg:(Str.ofString "/":Str)=stL [47]:=by decide +kernel
theorem oX:(Str.ofString "sqrt":Str)=stL wSqrt:=by decide +kernel
theorem oY:(Str.ofString "cbrt":Str)=stL wCbrt:=by decide +kernel
theorem xm:(Str.ofString "root":Str)=stL wRoot:=by decide +kernel
theorem rh:¬(("enter":Str)="marks")/\¬(("enter":Str)="end")/\¬(("enter":Str)="done")/\¬(("enter":Str)="depth"):=by decide +kernel
theorem wJ:¬(("leave":Str)="marks")/\¬(("leave":Str)="end")/\¬(("leave":Str)="done")/\¬(("leave":Str)="depth"):=by decide +kernel
def jQ(C CN:Addr):Sp:=λvs H Q E=>∃(p:Addr) (e:Nat×Nat) (us:List Mk),vs=[.ref p]/\RdA C H p e us/\e.2<=10/\(e.2<10->mhd us=[40]->∀H',SameB p H H'->RdA C H' p (e.1,e.2+1) us.tail->Q .non H')/\(e.2<10->mhd us≠[40]->XAt CN p E H (mbg e.1 us))/\(e.2=10->XAt CN p E H (mbg e.1 us))
theorem Dh{C CNoText f:Addr}{fd:FuncData}(F:Fun K "enter" "Reading.enter" kM f fd)(T:Txt K mg)(R:QC K mg C){jB:Addr}{jt:FuncData}(jJ:MCalV P w K mg base 3 C "demand" ["self","mark"] (jR C CNoText) jB jt){fi:Addr}{eU:FuncData}(fL:MCal P w K mg base 1 C "begin" ["self"] (hU C) fi eU){fm:Addr}{eX:FuncData}(C_NoText:XCal P w K mg base 1 CNoText "NoText" "at" ["self","at"] fm eX):FnOk P w K mg base (CXV P w) 4 f fd ["self"] (jQ C CNoText):=by
 obtain⟨iK,io,iF⟩:=jJ;obtain⟨fJ,d9,fG⟩:=fL;obtain⟨tD,hDEEPEST⟩:=T.DEEPEST_;refine F.okV AV (λvs H Q E h=>?_) (λcdv A outer s H vs Q E hr h=>?_)
 ·obtain⟨p,e,us,rfl,_⟩:=h;rfl
 ·obtain⟨p,e,us,rfl,hA,he,k1,k2,k3⟩:=h;obtain⟨dx,pm,qs,ts,d,h1,h2,h3,h4,h5,h6⟩:=id hA
  refine⟨_,(af (aH (aF bL (aK (K:=K) rfl (pv 0) rfl) (br (v:=.int 10) rfl hDEEPEST ⟨_,rfl⟩) (aA _))
   (ag (lh (C:=CNoText) rfl C_NoText.ow PySem.F.excBase_ValueError C_NoText.ok (hr.mono) C_NoText.bd C_NoText.kp (aa (bi (pv 0) R.cl d9 fJ (hr.mono) fG .nil ak) ac)))
   aJ)
   (af (cc (cF (pv 0) R.cl io iK (hr.mono) iF .nil (bf (λ_ _ _ z=>z)) (aa ao ac)))
   (ag (bp (pv 0) (aj cG (aK (K:=K) rfl (pv 0) rfl) ad) rfl)))),?_⟩
  refine am ⟨_,rfl,p,C,dx,_,_,rfl,h1,R.cl,R.n4,sI _ _ _,_,_,rfl,rfl,_,rfl,ai (λh=>?_) (λh=>?_)⟩
  ·have h':((e.2:Nat):Int)=10:=h;exact⟨_,rfl,p,dx,_,rfl,h1,bW _ _ _ cq.1 cq.2.1 cq.2.2.1 cq.2.2.2,p,e,us,rfl,hA,_,rfl,λd' hd=>k3 (by omega) _ d' (SameB.new hd) ap⟩
  ·have h':¬((e.2:Nat):Int)=10:=h;have he':e.2<10:=by omega
   refine cE ⟨_,rfl,p,dx,_,rfl,h1,bW _ _ _ cO.1 cO.2.1 cO.2.2.1 cO.2.2.2,p,e,us,[40],by rw[<- jh];rfl,hA,by decide,λu r eu em H1 sb1 ra1=>?_,λz=>k2 he' z⟩;subst eu;obtain⟨dx1,pm1,qs1,ts1,d1,g1,g2,g3,g4,g5,g6⟩:=id ra1;refine⟨_,rfl,p,C,dx1,_,_,rfl,g1,R.cl,R.n4,sI _ _ _,_,_,rfl,rfl,_,rfl,p,C,dx1,_,rfl,g1,R.cl,R.n4,pA _ _ _,?_⟩;obtain⟨sb,ra⟩:=RdA.dep (q:=e.2+1) g1 g2 g3 g4 g5 g6;have e2:aT "depth" (V.int (((e.2:Nat):Int)+1)) (fdl pm1 e d1)=fdl pm1 (e.1,e.2+1) d1:=yh _ _ _ _;rw[e2];exact k1 he' em _ (sb1.trans sb) ra
def jN(C CN:Addr):Sp:=λvs H Q E=>∃(p:Addr) (e:Nat×Nat) (us:List Mk),vs=[.ref p]/\RdA C H p (e.1,e.2+1) us/\(mhd us=[41]->∀H',SameB p H H'->RdA C H' p e us.tail->Q .non H')/\(mhd us≠[41]->XAt CN p E H (mbg e.1 us))
theorem Df{C CNoText f:Addr}{fd:FuncData}(F:Fun K "leave" "Reading.leave" kK f fd)(T:Txt K mg)(R:QC K mg C){jB:Addr}{jt:FuncData}(jJ:MCalV P w K mg base 3 C "demand" ["self","mark"] (jR C CNoText) jB jt):FnOk P w K mg base (CXV P w) 4 f fd ["self"] (jN C CNoText):=by
 obtain⟨iK,io,iF⟩:=jJ;refine F.okV AT (λvs H Q E h=>?_) (λcdv A outer s H vs Q E hr h=>?_)
 ·obtain⟨p,e,us,rfl,_⟩:=h;rfl
 ·obtain⟨p,e,us,rfl,hA,k1,k2⟩:=h;obtain⟨dx,pm,qs,ts,d,h1,h2,h3,h4,h5,h6⟩:=id hA
  refine⟨_,(af (cc (cF (pv 0) R.cl io iK (hr.mono) iF .nil (bf (λ_ _ _ z=>z)) (aa ao ac)))
   (ag (bp (pv 0) (aj gJ (aK (K:=K) rfl (pv 0) rfl) ad) rfl))),?_⟩
  refine cE ⟨_,rfl,p,dx,_,rfl,h1,bW _ _ _ cO.1 cO.2.1 cO.2.2.1 cO.2.2.2,p,_,us,[41],by rw[<- eD];rfl,hA,by decide,λu r eu em H1 sb1 ra1=>?_,λz=>k2 z⟩;subst eu;obtain⟨dx1,pm1,qs1,ts1,d1,g1,g2,g3,g4,g5,g6⟩:=id ra1;refine⟨_,rfl,p,C,dx1,_,_,rfl,g1,R.cl,R.n4,sI _ _ _,_,_,rfl,rfl,_,rfl,p,C,dx1,_,rfl,g1,R.cl,R.n4,pA _ _ _,?_⟩;obtain⟨sb,ra⟩:=RdA.dep (q:=e.2) g1 g2 g3 g4 g5 g6
  have e2:aT "depth" (V.int (((e.2+1:Nat):Int)-1)) (fdl pm1 (e.1,e.2+1) d1)=fdl pm1 (e.1,e.2) d1:=by rw[show((e.2+1:Nat):Int)-1=(e.2:Nat) by omega];exact yh _ _ _ _
  rw[e2];exact k1 em _ (sb1.trans sb) ra
theorem fno{pm:Addr}{e:Nat×Nat}{d:Int}{m:Str}(h:¬m="marks"/\¬m="end"/\¬m="done"/\¬m="depth"):(fdl pm e d).lookup m=none:=bW _ _ _ h.1 h.2.1 h.2.2.1 h.2.2.2
theorem RdA.mh{C:Addr}{H:Hp}{p:Addr}{e:Nat×Nat}{us:List Mk}(h:RdA C H p e us):(∀c∈mhd us,c<128)/\(mhd us).length<=300:=by
 cases us with
 |nil=>exact⟨λc hc=>(nomatch hc),by decide⟩
 |cons u r=>obtain⟨_,a,b⟩:=h.is u (by simp);exact⟨b,a⟩
theorem xL(m:List Nat):inV (.str (stL m)) [.str (Str.ofString "x"),.str (Str.ofString "sqrt"),.str (Str.ofString "cbrt"),.str (Str.ofString "root")]=decide (m∈[[120],wSqrt,wCbrt,wRoot]):=by
 rw[lD,oX,oY,xm];show(eqV (.str (stL [120])) (.str (stL m)) || (eqV (.str (stL wSqrt)) (.str (stL m)) || (eqV (.str (stL wCbrt)) (.str (stL m)) || (eqV (.str (stL wRoot)) (.str (stL m)) ||false))))=_;rw[cD,cD,cD,cD,Bool.or_false,Kv];simp only[Lc,decide_eq_true_eq,J8,Ku,or_false];constructor
 ·rintro(h |h |h |h)
  ·exact .inl h.symm
  ·exact .inr (.inl h.symm)
  ·exact .inr (.inr (.inl h.symm))
  ·exact .inr (.inr (.inr h.symm))
 ·rintro(h |h |h |h)
  ·exact .inl h.symm
  ·exact .inr (.inl h.symm)
  ·exact .inr (.inr (.inl h.symm))
  ·exact .inr (.inr (.inr h.symm))
def lY:Sp:=λvs H Q _=>∃l:List Nat,vs=[.str (stL l)]/\(∀c∈l,c<128)/\l.length<=1000/\∀H',Same H H'->Q (.bl (cS l)) H'
theorem CD{f:Addr}{fd:FuncData}(F:Fun K "is_name" "is_name" kg f fd)(T:Txt K mg){sY:Addr}{sK:FuncData}(u8:Cal P w K mg base 1 "made_of" ["word","signs"] oA sY sK):FnOk P w K mg base CX0 2 f fd ["word"] lY:=by
 obtain⟨uL,rL,sC,t6⟩:=u8;obtain⟨tF,hLETTERS⟩:=T.LETTERS_;obtain⟨tL,hLONGEST⟩:=T.LONGEST_;obtain⟨aWORDS,hWORDS,sWORDS⟩:=T.WORDS_;refine F.ok AC (λvs H Q E h=>?_) (λcdv A outer s H vs Q E hr h=>?_)
 ·obtain⟨l,rfl,_⟩:=h;rfl
 ·obtain⟨l,rfl,ha,hl,k⟩:=h;have big:=sizeLine_eq;refine⟨_,(ag (aq (bx (au uL (hr.mono) rfl rL sC t6 .nil ak (aa (pv 0) (aa (br (v:=.str "abcdefghijklmnopqrstuvwxyz") rfl hLETTERS ⟨_,rfl⟩) ac))) (bx (bQ re (aO lM (by rfl) T.len_ PySem.boot_len (aa (pv 0) ac)) (br (v:=.int 8) rfl hLONGEST ⟨_,rfl⟩) (aA _)) (bq (bQ (wz (K:=K) rfl) (pv 0) (br (v:=.ref aWORDS) rfl hWORDS rfl) (by rfl))))))),?_⟩;refine aG (aV ⟨_,rfl,l,_,isA,rfl,ha,hl,xp,λz=>⟨_,rfl,aM ?_⟩,λhn H1 s1=>⟨_,rfl,?_⟩⟩)
  ·subst z;exact k H (Same.refl _)
  have hk:=k H1 s1;cases h0:l.all isA with
  |false =>refine aM ?_;rw[show cS l=false by unfold cS;rw[h0];simp]at hk;exact hk
  |true =>
   refine aN (aV ⟨_,rfl,_,rfl,by rw[ah];omega,_,_,rfl,rfl,_,rfl,ai (λh8=>?_) (λh8=>?_)⟩)
   ·rw[ah]at h8;have h8':l.length<=8:=by have:(l.length:Int)<=8:=h8;omega
    refine⟨_,rfl,aWORDS,_,rfl,.inr (sWORDS _),rfl,by decide,?_⟩;show Q (.bl (!(inV (.str (stL l)) [.str (Str.ofString "x"),.str (Str.ofString "sqrt"),.str (Str.ofString "cbrt"),.str (Str.ofString "root")]))) H1;rw[xL];unfold cS at hk
    rw[decide_eq_true hn,h0,decide_eq_true h8']at hk;exact hk
   ·rw[ah]at h8;have h8':¬l.length<=8:=by have:¬(l.length:Int)<=8:=h8;omega
    unfold cS at hk
    rw[decide_eq_false h8']at hk;simp at hk
    exact hk
def qf(C CN:Addr):Sp:=λvs H Q E=>∃(p:Addr) (e:Nat×Nat) (us:List Mk),vs=[.ref p]/\RdA C H p e us/\(∀n r,dm us=.inr (n,r)->n<2^1000->∀H',SameB p H H'->RdA C H' p e r->Q (.int (n:Nat)) H')/\(∀r,dm us=.inl r->XAt CN p E H (mbg e.1 r))
theorem Cd{C CNoText f:Addr}{fd:FuncData}(F:Fun K "read_whole" "read_whole" jX f fd)(T:Txt K mg)(R:QC K mg C){gT:Addr}{gQ:FuncData}(g7:Cal P w K mg base 2 "is_whole" ["word"] iT gT gQ){bO:Addr}{bN:FuncData}(bI:MCal P w K mg base 1 C "seen" ["self"] (cN C) bO bN){fi:Addr}{eU:FuncData}(fL:MCal P w K mg base 1 C "begin" ["self"] (hU C) fi eU){cA:Addr}{cz:FuncData}(cj:MCal P w K mg base 2 C "step" ["self"] (dX C) cA cz){fm:Addr}{eX:FuncData}(C_NoText:XCal P w K mg base 1 CNoText "NoText" "at" ["self","at"] fm eX):FnOk P w K mg base (CXV P w) 3 f fd ["reading"] (qf C CNoText):=by
 obtain⟨nX,mG,mQ,nR⟩:=g7;obtain⟨bY,bV,bX⟩:=bI;obtain⟨fJ,d9,fG⟩:=fL;obtain⟨cV,cQ,cU⟩:=cj;refine F.okV Ar (λvs H Q E h=>?_) (λcdv A outer s H vs Q E hr h=>?_)
 ·obtain⟨p,e,us,rfl,_⟩:=h;rfl
 ·obtain⟨p,e,us,rfl,hA,k1,k2⟩:=h;have big:=sizeLine_eq;obtain⟨dx,pm,d,h1⟩:=hA.ins;obtain⟨ma,ml⟩:=hA.mh
  refine⟨_,(af (aH (dY (bB (au nX (hr.mono) rfl mG mQ nR .nil ak (aa (bi (pv 0) R.cl bV bY (hr.mono) bX .nil ak) ac))))
   (ag (lh (C:=CNoText) rfl C_NoText.ow PySem.F.excBase_ValueError C_NoText.ok (hr.mono) C_NoText.bd C_NoText.kp (aa (bi (pv 0) R.cl d9 fJ (hr.mono) fG .nil ak) ac)))
   aJ)
   (ag (aq (cm pF (by rfl) T.int_ PyProof.Rows.boot_int (aa (bi (pv 0) R.cl cQ cV (hr.mono) cU .nil ak) ac))))),?_⟩
  refine am (fP ⟨_,rfl,p,dx,_,rfl,h1,fno bD,p,e,us,rfl,hA,mhd us,rfl,ma,by omega,λH1 s1=>⟨_,rfl,?_⟩⟩);have hA1:=hA.same s1;obtain⟨dx1,pm1,d1,h11⟩:=hA1.ins;cases hN:isN (mhd us)with
  |false =>refine aN ?_;exact⟨_,rfl,p,dx1,_,rfl,h11,fno cq,p,e,us,rfl,hA1,_,rfl,λd hd=>k2 us (by unfold dm;rw[hN];rfl) _ d (s1.toB.trans (SameB.new hd)) ap⟩
  |true =>
   refine aM ?_;cases us with
   |nil=>exact absurd hN (by decide)
   |cons u r =>have hN':isN u.1=true:=hN;have hu:=hA.is u (by simp);have hD':=o7 (m:=u.1) hN';refine aG ⟨_,rfl,p,dx1,_,rfl,h11,fno cx,p,e,u,r,rfl,hA1,λH2 sb2 ra2=>?_⟩;exact⟨_,((NumText.digitsVal u.1:Nat):Int),rfl,by rw[ah];omega,nM hD' hu.1 (by omega),k1 (NumText.digitsVal u.1) r (by unfold dm;rw[hN];rfl) (RM.dv_bits hD' hu.2.1) H2 (s1.toB.trans sb2) ra2⟩
theorem Ft{m:List Nat}(h:isN m=true)(h0:m≠[48]):NumText.digitsVal m≠0:=by
 unfold isN at h
 simp only[Kf,Lc,decide_eq_true_eq]at h;obtain⟨⟨hn,hd⟩,hz |hz⟩:=h
 ·exact absurd hz h0
 ·obtain⟨c,r,rfl⟩:=Kq hn;have hc:isD c=true:=Kp.mp hd c (by simp);have hc0:c≠48:=λz=>hz (by rw[z];rfl)
  have hcp:0<c-48:=by
   unfold isD at hc
   simp only[Kf,decide_eq_true_eq]at hc;exact Nat.sub_pos_of_lt (Nat.lt_of_le_of_ne hc.1 (Ne.symm hc0))
  have mono:∀(l:List Nat) (a:Nat),0<a->0<l.foldl (λacc c=>acc*10+(c-48)) a:=λl=>by
   induction l with
   |nil=>exactλa ha=>ha
   |cons x l ih=>exactλa ha=>ih _ (J9 (Nat.mul_pos ha (by decide)) (Nat.le_add_right _ _))
  show(List.foldl (λacc c=>acc*10+(c-48)) 0 (c::r))≠0;have:=mono r (0*10+(c-48)) (by rw[Nat.zero_mul,Nat.zero_add];exact hcp);rw[K0];exact Nat.ne_of_gt this
def qF(C CN CR:Addr):Sp:=λvs H Q E=>∃(p:Addr) (e:Nat×Nat) (us:List Mk),vs=[.ref p]/\RdA C H p e us/\(∀x r,bK us=.inr (x,r)->x.2≠0->∀(q:Addr) (H':Hp),SameB p H H'->RdA C H' p e r->RA CR H' q (rt x.1 x.2) (rb x.1 x.2)->H q=none->Q (.ref q) H')/\(∀r,bK us=.inl r->XAt CN p E H (mbg e.1 r))
theorem Cl{C CRatio CNoText f:Addr}{fd:FuncData}(F:Fun K "read_fraction" "read_fraction" j4 f fd)(T:Txt K mg)(R:QC K mg C){ci:Addr}{cg:FuncData}(bT:MCal P w K mg base 2 C "passes" ["self","mark"] (dj C) ci cg){GV:Addr}{Gq:FuncData}(Jz:CalV P w K mg base 3 "read_whole" ["reading"] (qf C CNoText) GV Gq){jC:Addr}{ju:FuncData}{jE:List Value}(iL:KCal P w K mg base 2 CRatio "Ratio" ["self","top","bottom"] (iU CRatio) jC ju jE [.int 1]){bO:Addr}{bN:FuncData}(bI:MCal P w K mg base 1 C "seen" ["self"] (cN C) bO bN){fi:Addr}{eU:FuncData}(fL:MCal P w K mg base 1 C "begin" ["self"] (hU C) fi eU){fm:Addr}{eX:FuncData}(C_NoText:XCal P w K mg base 1 CNoText "NoText" "at" ["self","at"] fm eX):FnOk P w K mg base (CXV P w) 4 f fd ["reading"] (qF C CNoText CRatio):=by
 obtain⟨cu,cr,cs⟩:=bT;obtain⟨yU,w6,xv,yF⟩:=Jz;obtain⟨nZ,nV,mI,ue,uo,tP⟩:=iL;obtain⟨bY,bV,bX⟩:=bI;obtain⟨fJ,d9,fG⟩:=fL;refine F.okV sc_read_fraction (λvs H Q E h=>?_) (λcdv A outer s H vs Q E hr h=>?_)
 ·obtain⟨p,e,us,rfl,_⟩:=h;rfl
 ·obtain⟨p,e,us,rfl,hA,k1,k2⟩:=h;have big:=sizeLine_eq;obtain⟨dx,pm,d,h1⟩:=hA.ins
  refine⟨_,(af (ay (i:=1) sc_read_fraction.nd rfl (Or.inl rfl) (iX (bB (cF (pv 0) R.cl cr cu (hr.mono) cs .nil ak (aa ao ac))) (da cX ad) ad))
   (af (ay (i:=2) sc_read_fraction.nd rfl (Or.inl rfl) (aj d5 (pv 1) (au yU (hr.mono) rfl w6 xv yF .nil (bf (λ_ _ _ z=>z)) (aa (pv 0) ac))))
   (af (aH (dY (bB (cF (pv 0) R.cl cr cu (hr.mono) cs .nil ak (aa ao ac))))
     (ag (aq (bC nV nZ (hr.mono) rfl mI uo tP ak (aa (pv 2) ac))))
     aJ)
   (af (aH (aF bA (bi (pv 0) R.cl bV bY (hr.mono) bX .nil ak) ao (aA _))
     (ag (lh (C:=CNoText) rfl C_NoText.ow PySem.F.excBase_ValueError C_NoText.ok (hr.mono) C_NoText.bd C_NoText.kp (aa (bi (pv 0) R.cl d9 fJ (hr.mono) fG .nil ak) ac)))
     aJ)
   (ag (aq (bC nV nZ (hr.mono) rfl mI ue .nil ak (aa (pv 2) (aa (au yU (hr.mono) rfl w6 xv yF .nil (bf (λ_ _ _ z=>z)) (aa (pv 0) ac)) ac))))))))),?_⟩
  refine ld (λσ' H'=>∃(sg:Int) (us1:List Mk),σ'=[some (.ref p),some (.int sg),none]/\SameB p H H'/\RdA C H' p e us1/\bK us=gG sg us1/\(sg=1\/sg = -1)) ?_ (λrest=>?_)
  rotate_left
  ·refine bJ ⟨_,rfl,p,dx,_,rfl,h1,fno bM,p,e,us,[45],by rw[<- ey];rfl,hA,by decide,λu r eu em H1 sb ra=>⟨_,rfl,aN ⟨_,rfl,?_⟩⟩,λh4=>⟨_,rfl,aM ?_⟩⟩
   ·subst eu;exact rest _ _ ⟨-1,r,rfl,sb,ra,by unfold bK;rw[if_pos (show mhd (u::r)=[45]from em)];rfl,.inr rfl⟩
   ·exact rest _ _ ⟨1,us,rfl,SameB.refl _ _,hA,by unfold bK;rw[if_neg h4],.inl rfl⟩
  rintro σ' H1 ⟨sg,us1,rfl,sb1,ra1,eF,hsg⟩
  have bs:Bits 2 sg:=by show sg.natAbs<2^2;rcases hsg with rfl |rfl<;>decide
  refine aC ⟨_,rfl,_,rfl,p,e,us1,rfl,ra1,λn r hw hb H2 sb2 ra2=>⟨_,_,rfl,rfl,⟨bs.mono,(gL hb).mono⟩,?_⟩,λr hw=>XAt.step (k2 r (by rw[eF];unfold gG;rw[hw])) sb1⟩;have eF2:bK us=dn (sg*(n:Int)) r:=by rw[eF];unfold gG;rw[hw]
  have sb12:=sb1.trans sb2;obtain⟨dx2,pm2,d2,h12⟩:=ra2.ins;have bt:Bits 2000 (sg*(n:Int)):=(bs.mul (gL hb)).mono;refine am (fP ⟨_,rfl,p,dx2,_,rfl,h12,fno bM,p,e,r,[47],by rw[<- jg];rfl,ra2,by decide,λu r2 eu em H3 sb3 ra3=>⟨_,rfl,aM ?_⟩,λh4=>⟨_,rfl,aN ?_⟩⟩)
  rotate_left
  ·refine aG ⟨_,rfl,oS (t:=sg*(n:Int)) (b:=1) (by decide) (Bits.mono (j:=1) (by show(1:Int).natAbs<2^1;decide) (by decide)) λq H4 s4 hq hR=>?_⟩;exact k1 (sg*(n:Int),1) r (by rw[eF2];unfold dn;rw[if_neg h4]) (show(1:Int)≠0 by decide) q H4 (sb12.trans s4.toB) (ra2.same s4) hR (sb12.free hA.isS hq ra2.isS)
  subst eu
  have eF3:bK us=if mhd r2=[48]then .inl r2 else match dm r2 with
   |.inl r=>.inl r
   |.inr (m,r)=>.inr ((sg*(n:Int),(m:Int)),r):=by
   rw[eF2];unfold dn;rw[if_pos (show mhd (u::r2)=[47]from em)];rfl
  have sb13:=sb12.trans sb3;obtain⟨dx3,pm3,d3,h13⟩:=ra3.ins;refine am ⟨_,rfl,p,dx3,_,rfl,h13,fno bD,p,e,r2,rfl,ra3,rfl,_,rfl,ai (λh0=>?_) (λh0=>?_)⟩
  ·have h0':mhd r2=[48]:=stL_inj.mp ((V.str.inj h0).trans ji);exact⟨_,rfl,p,dx3,_,rfl,h13,fno cq,p,e,r2,rfl,ra3,_,rfl,λd hd=>(XAt.step (k2 r2 (by rw[eF3,if_pos h0'])) sb13) _ d (SameB.new hd) ap⟩
  ·have h0':mhd r2≠[48]:=λz=>h0 (by rw[z,<- ji])
   refine aG ⟨_,rfl,_,rfl,p,e,r2,rfl,ra3,λm r3 hw3 hb3 H4 sb4 ra4=>?_,λr3 hw3=>XAt.step (k2 r3 (by rw[eF3,if_neg h0',hw3])) sb13⟩;have sb14:=sb13.trans sb4
   have hm0:(m:Int)≠0:=by
    unfold dm at hw3
    split at hw3
    ·rename_i hN
     cases hw3;have:=Ft hN h0';omega
    ·cases hw3
   refine oS (t:=sg*(n:Int)) (b:=(m:Int)) hm0 ((gL hb3).mono) λq H5 s5 hq hR=>?_
   exact k1 (sg*(n:Int),(m:Int)) r3 (by rw[eF3,if_neg h0',hw3]) hm0 q H5 (sb14.trans s5.toB) (ra4.same s5) hR (sb14.free hA.isS hq ra4.isS)
theorem eC:(Str.ofString "..":Str)=stL [46,46]:=by decide +kernel
theorem Ba{row:List Int}{c:Cfg}(h1:Tr row)(h2:row.length<=9)(h3:∀n,cf row n=c.fin n):row=cZ c:=by
 refine yk h1 (jL _) λk=>?_
 unfold cZ;rw[pE,tR];split
 ·exact h3 k
 ·exact dE (by omega)
def GtH(CG CR av:Addr)(H:Hp)(kp:List Int)(l h:Int×Int)(q:Addr):Prop:=q≠av/\∃dx pk pl ph,H q=some (.ins CG dx (cy pk pl ph))/\pk≠av/\H pk=some (.lst (kp.map V.int))/\pl≠av/\RA CR H pl (rt l.1 l.2) (rb l.1 l.2)/\ph≠av/\RA CR H ph (rt h.1 h.2) (rb h.1 h.2)
def lZ(C CN CG CR:Addr):Sp:=λvs H Q E=>∃(pr:Addr) (e:Nat×Nat) (us:List Mk),vs=[.ref pr]/\RdA C H pr e us/\e.2<=10/\(∀kp l h r,bP (decide (e.2<10)) us=.inr (.given kp l h,r)->∀(q:Addr) (H':Hp),SameB pr H H'->RdA C H' pr e r->GtH CG CR pr H' kp l h q->H q=none->Q (.ref q) H')/\(∀r,bP (decide (e.2<10)) us=.inl r->XAt CN pr E H (mbg e.1 r))
theorem RdA.nn{C:Addr}{H:Hp}{p q:Addr}{e:Nat×Nat}{us:List Mk}(h:RdA C H p e us)(hq:H q=none):q≠p:=λz=>by obtain⟨dx,pm,d,h1⟩:=h.ins;rw[z,h1]at hq;cases hq
theorem RA.sb{C p0:Addr}{H H':Hp}{p:Addr}{t b:Int}(h:RA C H p t b)(s:SameB p0 H H')(n:p≠p0):RA C H' p t b:=let⟨dx,e⟩:=h;⟨dx,s _ _ n e⟩
theorem lu{α:Type}{m:List Nat}{us:List Mk}{k:List Mk->Res α}(h:mhd us=m):bo m us k=k us.tail:=if_pos h
theorem lw{α:Type}{m:List Nat}{us:List Mk}{k:List Mk->Res α}(h:mhd us≠m):bo m us k=.inl us:=if_neg h
theorem Ck{C CRatio CGiven CNoText f:Addr}{fd:FuncData}(F:Fun K "read_given" "read_given" j3 f fd)(T:Txt K mg)(R:QC K mg C){jA:Addr}{jr:FuncData}(jI:MCalV P w K mg base 4 C "enter" ["self"] (jQ C CNoText) jA jr){GW:Addr}{Gs:FuncData}(JA:CalV P w K mg base 6 "read_terms" ["reading"] (qc C CNoText) GW Gs){jB:Addr}{jt:FuncData}(jJ:MCalV P w K mg base 3 C "demand" ["self","mark"] (jR C CNoText) jB jt){GZ:Addr}{Gw:FuncData}(JD:CalV P w K mg base 4 "read_fraction" ["reading"] (qF C CNoText CRatio) GZ Gw){jz:Addr}{jq:FuncData}(jH:MCalV P w K mg base 4 C "leave" ["self"] (jN C CNoText) jz jq){jD:Addr}{jv:FuncData}{jF:List Value}(iM:KCal P w K mg base 1 CGiven "Given" ["self","row","low","high"] (jO CGiven) jD jv jF []):FnOk P w K mg base (CXV P w) 7 f fd ["reading"] (lZ C CNoText CGiven CRatio):=by
 obtain⟨uS,rz,ud⟩:=jI;obtain⟨Ja,Ee,EZ,HZ⟩:=JA;obtain⟨iK,io,iF⟩:=jJ;obtain⟨yY,xb,xz,yJ⟩:=JD;obtain⟨uR,rs,uc⟩:=jH;obtain⟨uY,uE,rX,um,IH,Hy⟩:=iM;refine F.okV sc_read_given (λvs H Q E h=>?_) (λcdv A outer s H vs Q E hr h=>?_)
 ·obtain⟨p,e,us,rfl,_⟩:=h;rfl
 ·obtain⟨p,e,us,rfl,hA,he,k1,k2⟩:=h;obtain⟨dx,pm,d,h1⟩:=hA.ins
  refine⟨_,(af (cc (bi (pv 0) R.cl rz uS (hr.mono) ud .nil (bf (λ_ _ _ z=>z))))
   (af (ay (i:=1) sc_read_given.nd rfl (Or.inl rfl) (au Ja (hr.mono) rfl Ee EZ HZ .nil (bf (λ_ _ _ z=>z)) (aa (pv 0) ac)))
   (af (cc (cF (pv 0) R.cl io iK (hr.mono) iF .nil (bf (λ_ _ _ z=>z)) (aa ao ac)))
   (af (ay (i:=2) sc_read_given.nd rfl (Or.inl rfl) (au yY (hr.mono) rfl xb xz yJ .nil (bf (λ_ _ _ z=>z)) (aa (pv 0) ac)))
   (af (cc (cF (pv 0) R.cl io iK (hr.mono) iF .nil (bf (λ_ _ _ z=>z)) (aa ao ac)))
   (af (ay (i:=3) sc_read_given.nd rfl (Or.inl rfl) (au yY (hr.mono) rfl xb xz yJ .nil (bf (λ_ _ _ z=>z)) (aa (pv 0) ac)))
   (af (cc (bi (pv 0) R.cl rs uR (hr.mono) uc .nil (bf (λ_ _ _ z=>z))))
   (ag (aq (bC uE uY (hr.mono) rfl rX um .nil ak (aa (pv 1) (aa (pv 2) (aa (pv 3) ac))))))))))))),?_⟩
  refine cE ⟨_,rfl,p,dx,_,rfl,h1,fno rh,p,e,us,rfl,hA,he,λlt em H1 sb1 ra1=>?_,λlt em=>k2 us (by unfold bP;rw[decide_eq_true lt,if_pos rfl];exact lw em),λeq=>k2 us (by unfold bP;rw[decide_eq_false (by omega),if_neg (by decide)])⟩
  have eG:bP (decide (e.2<10)) us=aQ (gH us.tail) λkp u2=>bo [44] u2 λu3=>aQ (bK u3) λl u4=>bo [46,46] u4 λu5=>aQ (bK u5) λh u6=>bo [41] u6 λu7=>.inr (.given kp l h,u7):=by unfold bP;rw[decide_eq_true lt,if_pos rfl];exact lu em
  have bad:∀{H':Hp} {r:List Mk},SameB p H H'->bP (decide (e.2<10)) us=.inl r->XAt CNoText p E H' (mbg e.1 r):=λs z=>XAt.step (k2 _ z) s
  refine aC ⟨_,rfl,p,(e.1,e.2+1),us.tail,rfl,ra1,λc r hgo hop q H2 row sb2 ra2 hq eq trr h9 hcf=>?_,λc r hgo hop=>bad sb1 (by rw[eG];unfold gH;rw[hgo,if_pos hop];rfl)⟩;have hrow:=Ba trr h9 hcf;subst hrow
  have e2:bP (decide (e.2<10)) us=bo [44] r λu3=>aQ (bK u3) λl u4=>bo [46,46] u4 λu5=>aQ (bK u5) λh u6=>bo [41] u6 λu7=>.inr (.given (cZ c) l h,u7):=by rw[eG];unfold gH;rw[hgo,if_neg (by rw[hop];decide)];rfl
  have sb12:=sb1.trans sb2;obtain⟨dx2,pm2,d2,h12⟩:=ra2.ins;refine cE ⟨_,rfl,p,dx2,_,rfl,h12,fno cO,p,_,r,[44],by rw[<- EG];rfl,ra2,by decide,λu r3 eu em3 H3 sb3 ra3=>?_,λz=>bad sb12 (by rw[e2];exact lw z)⟩
  have e3:bP (decide (e.2<10)) us=aQ (bK r3) λl u4=>bo [46,46] u4 λu5=>aQ (bK u5) λh u6=>bo [41] u6 λu7=>.inr (.given (cZ c) l h,u7):=by rw[e2];rw[lu (by rw[eu];exact em3)];rw[eu];rfl
  have sb13:=sb12.trans sb3;have eq3:=sb3 _ _ (ra2.lst_ne eq) eq;refine aC ⟨_,rfl,p,_,r3,rfl,ra3,λx r4 hx x0 pl H4 sb4 ra4 hR4 hpl=>?_,λr4 hx=>bad sb13 (by rw[e3,hx];rfl)⟩
  have e4:bP (decide (e.2<10)) us=bo [46,46] r4 λu5=>aQ (bK u5) λh u6=>bo [41] u6 λu7=>.inr (.given (cZ c) x h,u7):=by rw[e3,hx];rfl
  have npl:=ra3.nn hpl;have sb14:=sb13.trans sb4;have eq4:=sb4 _ _ (ra3.lst_ne eq3) eq3;obtain⟨dx4,pm4,d4,h14⟩:=ra4.ins;refine cE ⟨_,rfl,p,dx4,_,rfl,h14,fno cO,p,_,r4,[46,46],by rw[<- eC];rfl,ra4,by decide,λu5 r5 eu5 em5 H5 sb5 ra5=>?_,λz=>bad sb14 (by rw[e4];exact lw z)⟩
  have e5:bP (decide (e.2<10)) us=aQ (bK r5) λh u6=>bo [41] u6 λu7=>.inr (.given (cZ c) x h,u7):=by rw[e4];rw[lu (by rw[eu5];exact em5)];rw[eu5];rfl
  have sb15:=sb14.trans sb5;have eq5:=sb5 _ _ (ra4.lst_ne eq4) eq4;have hR5:=hR4.sb sb5 npl;refine aC ⟨_,rfl,p,_,r5,rfl,ra5,λy r6 hy y0 ph H6 sb6 ra6 hR6 hph=>?_,λr6 hy=>bad sb15 (by rw[e5,hy];rfl)⟩
  have e6:bP (decide (e.2<10)) us=bo [41] r6 λu7=>.inr (.given (cZ c) x y,u7):=by rw[e5,hy];rfl
  have nph:=ra5.nn hph;have sb16:=sb15.trans sb6;have eq6:=sb6 _ _ (ra5.lst_ne eq5) eq5;have hR6':=hR5.sb sb6 npl;obtain⟨dx6,pm6,d6,h16⟩:=ra6.ins;refine cE ⟨_,rfl,p,dx6,_,rfl,h16,fno wJ,p,e,r6,rfl,ra6,λem7 H7 sb7 ra7=>?_,λz=>bad sb16 (by rw[e6];exact lw z)⟩
  have e7:bP (decide (e.2<10)) us=.inr (.given (cZ c) x y,r6.tail):=by rw[e6];exact lu em7
  have sb17:=sb16.trans sb7;have eq7:=sb7 _ _ (ra6.lst_ne eq6) eq6;have hR7:=hR6'.sb sb7 npl;have hS7:=hR6.sb sb7 nph;refine aG ⟨_,rfl,_,rfl,_,rfl,λz dz hz hdz nez=>?_⟩
  have s8:Same H7 (upd (upd H7 dz (.own z)) z (.ins CGiven dz [])):=λb o e=>by rw[upd_ne (aU e hz),upd_ne (aU e hdz)];exact e
  refine⟨z,dz,q,pl,ph,_,rfl,ap,s8 _ _ eq7,λpk hpk=>⟨rfl,?_⟩⟩;have s9:=Same.upd_new (o:=.lst ((cZ c).map V.int)) hpk;have nzk:pk≠z:=λe=>by rw[e,ap]at hpk;cases hpk
  have s10:Same H7 (upd (upd (upd (upd H7 dz (.own z)) z (.ins CGiven dz [])) pk (.lst ((cZ c).map V.int))) z (.ins CGiven dz (cy pk pl ph))):=λb o e=>by rw[upd_ne (aU e hz)];exact(s8.trans s9) _ _ e
  have nk:pk≠p:=λe=>by obtain⟨_,_,_,h17⟩:=ra7.ins;rw[e,s8 _ _ h17]at hpk;cases hpk
  exact k1 _ _ _ _ e7 z _ (sb17.trans s10.toB) (ra7.same s10) ⟨ra7.nn hz,dz,pk,pl,ph,ap,nk,by rw[upd_ne nzk];exact ap,npl,hR7.same s10,nph,hS7.same s10⟩ (sb17.free hA.isS hz ra7.isS)
theorem DL{f:Addr}{fd:FuncData}(F:Fun K "read_sum" "read_sum" fO f fd){k:Nat}:FnOk P w K mg base (CXV P w) (k+1) f fd ["reading"] vK:=F.okV sc_read_sum (λ_ _ _ _ h=>h.elim) (λ_ _ _ _ _ _ _ _ _ h=>h.elim)
theorem ww(m:Nat)(us:List Mk):pBr (So (m+1)) us=bo [40] us λu1=>aQ (pS m u1) λt u2=>bo [41] u2 λu3=>.inr (t,u3):=rfl
theorem Co{tc:TC}{n:Nat}{C CNoText f:Addr}{fd:FuncData}(F:Fun K "read_brackets" "read_brackets" gh f fd)(T:Txt K mg)(R:QC K mg C){jA:Addr}{jr:FuncData}(jI:MCalV P w K mg base 4 C "enter" ["self"] (jQ C CNoText) jA jr){jz:Addr}{jq:FuncData}(jH:MCalV P w K mg base 4 C "leave" ["self"] (jN C CNoText) jz jq){iA:Addr}{iz:FuncData}(C_read_sum:CalV P w K mg base (6*n+6) "read_sum" ["reading"] (spS C CNoText tc n) iA iz):FnOk P w K mg base (CXV P w) (6*n+7) f fd ["reading"] (spP C CNoText tc (pBr (So n)) n):=by
 obtain⟨uS,rz,ud⟩:=jI;obtain⟨uR,rs,uc⟩:=jH;obtain⟨uF,rE,sr,tW⟩:=C_read_sum;refine F.okV sc_read_brackets (λvs H Q E h=>?_) (λcdv A outer s H vs Q E hr h=>?_)
 ·obtain⟨p,e,us,rfl,_⟩:=h;rfl
 ·obtain⟨p,e,us,rfl,hA,he,k1,k2⟩:=h;obtain⟨dx,pm,d,h1⟩:=hA.ins
  refine⟨_,(af (cc (bi (pv 0) R.cl rz uS (hr.mono (by omega)) ud .nil (bf (λ_ _ _ z=>z))))
   (af (ay (i:=1) sc_read_brackets.nd rfl (Or.inl rfl) (au uF (hr.mono (by omega)) rfl rE sr tW .nil (bf (λ_ _ _ z=>z)) (aa (pv 0) ac)))
   (af (cc (bi (pv 0) R.cl rs uR (hr.mono (by omega)) uc .nil (bf (λ_ _ _ z=>z))))
   (ag (aq (pv 1)))))),?_⟩
  cases n with
  |zero=>exact cE ⟨_,rfl,p,dx,_,rfl,h1,fno rh,p,e,us,rfl,hA,by omega,λlt=>absurd lt (by omega),λlt=>absurd lt (by omega),λ_=>k2 us rfl⟩
  |succ m =>
   refine cE ⟨_,rfl,p,dx,_,rfl,h1,fno rh,p,e,us,rfl,hA,by omega,λlt em H1 sb1 ra1=>?_,λlt em=>k2 us (by rw[ww];exact lw em),λz=>absurd z (by omega)⟩;have eB:pBr (So (m+1)) us=aQ (pS m us.tail) λt u2=>bo [41] u2 λu3=>.inr (t,u3):=by rw[ww];exact lu em
   refine aC ⟨_,rfl,p,(e.1,e.2+1),us.tail,rfl,ra1,by show e.2+1+m=10;omega,λt r ht q H2 sb2 ra2 hT hq=>?_,λr ht=>XAt.step (k2 r (by rw[eB,ht];rfl)) sb1⟩;obtain⟨dx2,pm2,d2,h12⟩:=ra2.ins;have e2:pBr (So (m+1)) us=bo [41] r λu3=>.inr (t,u3):=by rw[eB,ht];rfl
   refine cE ⟨_,rfl,p,dx2,_,rfl,h12,fno wJ,p,e,r,rfl,ra2,λem3 H3 sb3 ra3=>?_,λz=>XAt.step (k2 r (by rw[e2];exact lw z)) (sb1.trans sb2)⟩;exact⟨_,rfl,k1 t r.tail (by rw[e2];exact lu em3) q H3 ((sb1.trans sb2).trans sb3) ra3 (hT.sb sb3) (sb1.free hA.isS hq ra1.isS)⟩
theorem Cp{tc:TC}{n:Nat}{C CWhole CNamed CRooted CGiven CRatio CNoText f:Addr}{fd:FuncData}(F:Fun K "read_atom" "read_atom" gj f fd)(T:Txt K mg)(R:QC K mg C)(ew:tc.wh=CWhole)(en:tc.na=CNamed)(er:tc.ro=CRooted)(eg:tc.gi=CGiven)(ea:tc.ra=CRatio){gT:Addr}{gQ:FuncData}(g7:Cal P w K mg base 2 "is_whole" ["word"] iT gT gQ){bO:Addr}{bN:FuncData}(bI:MCal P w K mg base 1 C "seen" ["self"] (cN C) bO bN){fe:Addr}{eO:FuncData}{fu:List Value}(dJ:KCal P w K mg base 1 CWhole "Whole" ["self","value"] (bE CWhole "value") fe eO fu []){cA:Addr}{cz:FuncData}(cj:MCal P w K mg base 2 C "step" ["self"] (dX C) cA cz){nG:Addr}{nt:FuncData}(og:Cal P w K mg base 2 "is_name" ["word"] lY nG nt){fo:Addr}{eY:FuncData}{fC:List Value}(dQ:KCal P w K mg base 1 CNamed "Named" ["self","word"] (bE CNamed "word") fo eY fC []){ci:Addr}{cg:FuncData}(bT:MCal P w K mg base 2 C "passes" ["self","mark"] (dj C) ci cg){fh:Addr}{eS:FuncData}{fz:List Value}(dN:KCal P w K mg base 1 CRooted "Rooted" ["self","one","exponent"] (aP CRooted "one" "power") fh eS fz []){nz:Addr}{m7:FuncData}(n6:CalV P w K mg base 7 "read_given" ["reading"] (lZ C CNoText CGiven CRatio) nz m7){nC:Addr}{nc:FuncData}(C_read_brackets:CalV P w K mg base (6*n+7) "read_brackets" ["reading"] (spP C CNoText tc (pBr (So n)) n) nC nc):FnOk P w K mg base (CXV P w) (6*n+8) f fd ["reading"] (spP C CNoText tc (bz (So n)) n):=by
 obtain⟨nX,mG,mQ,nR⟩:=g7;obtain⟨bY,bV,bX⟩:=bI;obtain⟨uO,uw,rO,t9,Iy,Ho⟩:=dJ;obtain⟨cV,cQ,cU⟩:=cj;obtain⟨Ji,Em,E8,Ij⟩:=og;obtain⟨uV,uB,rT,uh,IE,Hv⟩:=dQ;obtain⟨cu,cr,cs⟩:=bT;obtain⟨pL,pJ,oU,pH,IB,Hs⟩:=dN;obtain⟨Jb,Ef,E1,Ia⟩:=n6;obtain⟨uJ,rJ,sx,t3⟩:=C_read_brackets;subst ew en er eg ea;refine F.okV Aw (λvs H Q E h=>?_) (λcdv A outer s H vs Q E hr h=>?_)
 ·obtain⟨p,e,us,rfl,_⟩:=h;rfl
 ·obtain⟨p,e,us,rfl,hA,he,k1,k2⟩:=h;have big:=sizeLine_eq;obtain⟨dx,pm,d,h1⟩:=hA.ins;obtain⟨ma,ml⟩:=hA.mh
  refine⟨_,(af (aH (bB (au nX (hr.mono (by omega)) rfl mG mQ nR .nil ak (aa (bi (pv 0) R.cl bV bY (hr.mono (by omega)) bX .nil ak) ac)))
   (ag (aq (bC uw uO (hr.mono (by omega)) rfl rO t9 .nil ak (aa (cm pF (by rfl) T.int_ PyProof.Rows.boot_int (aa (bi (pv 0) R.cl cQ cV (hr.mono (by omega)) cU .nil ak) ac)) ac))))
   aJ)
   (af (aH (bB (au Ji (hr.mono (by omega)) rfl Em E8 Ij .nil ak (aa (bi (pv 0) R.cl bV bY (hr.mono (by omega)) bX .nil ak) ac)))
     (ag (aq (bC uB uV (hr.mono (by omega)) rfl rT uh .nil ak (aa (bi (pv 0) R.cl cQ cV (hr.mono (by omega)) cU .nil ak) ac))))
     aJ)
   (af (aH (bB (cF (pv 0) R.cl cr cu (hr.mono (by omega)) cs .nil ak (aa ao ac)))
     (ag (aq (bC pJ pL (hr.mono (by omega)) rfl oU pH .nil ak (aa (au uJ (hr.mono (by omega)) rfl rJ sx t3 .nil (bf (λ_ _ _ z=>z)) (aa (pv 0) ac)) (aa ad ac)))))
     aJ)
   (af (aH (bB (cF (pv 0) R.cl cr cu (hr.mono (by omega)) cs .nil ak (aa ao ac)))
     (ag (aq (bC pJ pL (hr.mono (by omega)) rfl oU pH .nil ak (aa (au uJ (hr.mono (by omega)) rfl rJ sx t3 .nil (bf (λ_ _ _ z=>z)) (aa (pv 0) ac)) (aa ad ac)))))
     aJ)
   (af (aH (bB (cF (pv 0) R.cl cr cu (hr.mono (by omega)) cs .nil ak (aa ao ac)))
     (ag (aq (au Jb (hr.mono (by omega)) rfl Ef E1 Ia .nil (bf (λ_ _ _ z=>z)) (aa (pv 0) ac))))
     aJ)
   (ag (aq (au uJ (hr.mono (by omega)) rfl rJ sx t3 .nil (bf (λ_ _ _ z=>z)) (aa (pv 0) ac))))))))),?_⟩
  refine am ⟨_,rfl,p,dx,_,rfl,h1,fno bD,p,e,us,rfl,hA,mhd us,rfl,ma,by omega,λH1 s1=>⟨_,rfl,?_⟩⟩;have hA1:=hA.same s1;obtain⟨dx1,pm1,d1,h11⟩:=hA1.ins;cases hN:isN (mhd us)with
  |true =>
   refine aN ?_;cases us with
   |nil=>exact absurd hN (by decide)
   |cons u r =>have hN':isN u.1=true:=hN;have hu:=hA.is u (by simp);have hD':=o7 (m:=u.1) hN';refine⟨_,rfl,p,dx1,_,rfl,h11,fno cx,p,e,u,r,rfl,hA1,λH2 sb2 ra2=>?_⟩;refine⟨_,((NumText.digitsVal u.1:Nat):Int),rfl,by rw[ah];omega,nM hD' hu.1 (by omega),lB (a:=.int ((NumText.digitsVal u.1:Nat):Int)) λx H3 dx3 s3 hx ex=>?_⟩;have sb:=(s1.toB.trans sb2);exact k1 (.whole (NumText.digitsVal u.1)) r (by unfold bz;rw[hN];rfl) x H3 (sb.trans s3.toB) (ra2.same s3) ⟨ra2.nn hx,dx3,ex⟩ (sb.free hA.isS hx ra2.isS)
  |false =>
  refine aM ?_;refine am ⟨_,rfl,p,dx1,_,rfl,h11,fno bD,p,e,us,rfl,hA1,mhd us,rfl,ma,by omega,λH2 s2=>⟨_,rfl,?_⟩⟩;have hA2:=hA1.same s2;have s12:=s1.trans s2;obtain⟨dx2,pm2,d2,h12⟩:=hA2.ins;cases hM:cS (mhd us)with
  |true =>
   refine aN ?_;cases us with
   |nil=>exact absurd hM (by decide)
   |cons u r =>
    refine⟨_,rfl,p,dx2,_,rfl,h12,fno cx,p,e,u,r,rfl,hA2,λH3 sb3 ra3=>?_⟩;refine lB (a:=.str (stL u.1)) λx H4 dx4 s4 hx ex=>?_
    have sb:=(s12.toB.trans sb3);exact k1 (.named u.1) r (by unfold bz;rw[hN,hM];rfl) x H4 (sb.trans s4.toB) (ra3.same s4) ⟨ra3.nn hx,dx4,ex⟩ (sb.free hA.isS hx ra3.isS)
  |false =>
  refine aM ?_
  have eA:bz (So n) us=if mhd us=wSqrt then aQ (pBr (So n) us.tail) λt r=>.inr (.rooted t 2,r)
   else if mhd us=wCbrt then aQ (pBr (So n) us.tail) λt r=>.inr (.rooted t 3,r)
   else if mhd us=wRoot then bP (So n).isSome us.tail
   else pBr (So n) us:=by
   unfold bz;rw[hN,hM];rfl
  have rooted:∀(k:Nat) (H3:Hp) (r:List Mk),SameB p H H3->RdA C H3 p e r->bz (So n) us=aQ (pBr (So n) r) (λt r=>.inr (.rooted t k,r))->spP C CNoText tc (pBr (So n)) n [.ref p] H3 (λv H4=>∃a,v=.ref a/\∀x dx:Addr,H4 x=none->H4 dx=none->dx≠x->aP tc.ro "one" "power" (.ref x::([.ref a,.int (k:Nat)]++[])) (upd (upd H4 dx (.own x)) x (.ins tc.ro dx [])) (λv H5=>v=.non/\Q (.ref x) H5) E) E:=λk H3 r sb3 ra3 eK=>by refine⟨p,e,r,rfl,ra3,he,λt r4 ht q H4 sb4 ra4 hT hq=>⟨q,rfl,du (a:=.ref q) (b:=.int (k:Nat)) λx H5 dx5 s5 hx ex=>?_⟩,λr4 ht=>XAt.step (k2 r4 (by rw[eK,ht];rfl)) sb3⟩;have sb:=sb3.trans sb4;exact k1 (.rooted t k) r4 (by rw[eK,ht];rfl) x H5 (sb.trans s5.toB) (ra4.same s5) ⟨ra4.nn hx,dx5,q,ex,hT.same s5⟩ (sb.free hA.isS hx ra4.isS)
  refine am ⟨_,rfl,p,dx2,_,rfl,h12,fno bM,p,e,us,wSqrt,by rw[<- oX];rfl,hA2,by decide,λu r eu em H3 sb3 ra3=>⟨_,rfl,aN ?_⟩,λh4=>⟨_,rfl,aM ?_⟩⟩
  ·subst eu;have sb:=s12.toB.trans sb3;obtain⟨p',e',us',z1,z2,z3,z4,z5⟩:=rooted 2 H3 r sb ra3 (by rw[eA,if_pos (show mhd (u::r)=wSqrt from em)];rfl);refine⟨_,rfl,p',e',us',z1,z2,z3,λt r4 ht q H4 a b c d=>?_,z5⟩;obtain⟨_,z,w⟩:=z4 t r4 ht q H4 a b c d;cases z;exact w
  refine am ⟨_,rfl,p,dx2,_,rfl,h12,fno bM,p,e,us,wCbrt,by rw[<- oY];rfl,hA2,by decide,λu r eu em H3 sb3 ra3=>⟨_,rfl,aN ?_⟩,λh5=>⟨_,rfl,aM ?_⟩⟩
  ·subst eu;have sb:=s12.toB.trans sb3;obtain⟨p',e',us',z1,z2,z3,z4,z5⟩:=rooted 3 H3 r sb ra3 (by rw[eA,if_neg h4,if_pos (show mhd (u::r)=wCbrt from em)];rfl);refine⟨_,rfl,p',e',us',z1,z2,z3,λt r4 ht q H4 a b c d=>?_,z5⟩;obtain⟨_,z,w⟩:=z4 t r4 ht q H4 a b c d;cases z;exact w
  refine am ⟨_,rfl,p,dx2,_,rfl,h12,fno bM,p,e,us,wRoot,by rw[<- xm];rfl,hA2,by decide,λu r eu em H3 sb3 ra3=>⟨_,rfl,aN ?_⟩,λh6=>⟨_,rfl,aM ?_⟩⟩
  ·subst eu;have sb:=s12.toB.trans sb3
   have eG:bz (So n) (u::r)=bP (decide (e.2<10)) r:=by
    rw[eA,if_neg h4,if_neg h5,if_pos (show mhd (u::r)=wRoot from em)];show bP (So n).isSome r=_
    congr 1
    cases n with
    |zero=>rw[decide_eq_false (by omega)];rfl
    |succ m=>rw[decide_eq_true (by omega)];rfl
   refine⟨_,rfl,p,e,r,rfl,ra3,by omega,λkp l h r4 hg q H4 sb4 ra4 hT hq=>k1 (.given kp l h) r4 (by rw[eG,hg]) q H4 (sb.trans sb4) ra4 hT (sb.free hA.isS hq ra3.isS),λr4 hg=>XAt.step (k2 r4 (by rw[eG,hg])) sb⟩
  ·have eB:bz (So n) us=pBr (So n) us:=by rw[eA,if_neg h4,if_neg h5,if_neg h6]
   exact⟨_,rfl,p,e,us,rfl,hA2,he,λt r ht q H4 sb4 ra4 hT hq=>k1 t r (by rw[eB,ht]) q H4 (s12.toB.trans sb4) ra4 hT (s12.toB.free hA.isS hq hA2.isS),λr ht=>XAt.step (k2 r (by rw[eB,ht])) s12.toB⟩
theorem Ci{tc:TC}{n:Nat}{C CPower CNoText f:Addr}{fd:FuncData}(F:Fun K "read_power" "read_power" gf f fd)(T:Txt K mg)(R:QC K mg C)(ew:tc.po=CPower){nD:Addr}{nh:FuncData}(C_read_atom:CalV P w K mg base (6*n+8) "read_atom" ["reading"] (spP C CNoText tc (bz (So n)) n) nD nh){ci:Addr}{cg:FuncData}(bT:MCal P w K mg base 2 C "passes" ["self","mark"] (dj C) ci cg){jw:Addr}{jn:FuncData}(jG:CalV P w K mg base 3 "read_exponent" ["reading"] (jP C CNoText) jw jn){fj:Addr}{eV:FuncData}{fA:List Value}(dO:KCal P w K mg base 1 CPower "Power" ["self","one","exponent"] (aP CPower "one" "power") fj eV fA []):FnOk P w K mg base (CXV P w) (6*n+9) f fd ["reading"] (spP C CNoText tc (cp (So n)) n):=by
 obtain⟨Jc,Eg,E2,Ib⟩:=C_read_atom;obtain⟨cu,cr,cs⟩:=bT;obtain⟨uI,rH,sw,tZ⟩:=jG;obtain⟨uT,uz,rR,uf,IC,Ht⟩:=dO;subst ew;refine F.okV sc_read_power (λvs H Q E h=>?_) (λcdv A outer s H vs Q E hr h=>?_)
 ·obtain⟨p,e,us,rfl,_⟩:=h;rfl
 ·obtain⟨p,e,us,rfl,hA,he,k1,k2⟩:=h
  refine⟨_,(af (ay (i:=1) sc_read_power.nd rfl (Or.inl rfl) (au Jc (hr.mono (by omega)) rfl Eg E2 Ib .nil (bf (λ_ _ _ z=>z)) (aa (pv 0) ac)))
   (af (aH (bB (cF (pv 0) R.cl cr cu (hr.mono (by omega)) cs .nil ak (aa ao ac)))
     (ag (aq (bC uz uT (hr.mono (by omega)) rfl rR uf .nil ak (aa (pv 1) (aa (au uI (hr.mono (by omega)) rfl rH sw tZ .nil (bf (λ_ _ _ z=>z)) (aa (pv 0) ac)) ac)))))
     aJ)
   (ag (aq (pv 1))))),?_⟩
  refine aC ⟨_,rfl,p,e,us,rfl,hA,he,λt r ht q H1 sb1 ra1 hT hq=>?_,λr ht=>k2 r (by unfold cp;rw[ht];rfl)⟩;have eP:cp (So n) us=gI t r:=by unfold cp;rw[ht];rfl
  obtain⟨dx1,pm1,d1,h11⟩:=ra1.ins;refine am ⟨_,rfl,p,dx1,_,rfl,h11,fno bM,p,e,r,[94],by rw[<- iu];rfl,ra1,by decide,λu r2 eu em H2 sb2 ra2=>⟨_,rfl,aN ?_⟩,λh4=>⟨_,rfl,aM ?_⟩⟩
  ·subst eu;have sb:=sb1.trans sb2
   have eL:cp (So n) us=if isE (mhd r2)then .inr (.power t (NumText.digitsVal (mhd r2)),r2.tail)else .inl r2:=by rw[eP];unfold gI;rw[if_pos (show mhd (u::r2)=[94]from em)];rfl
   refine⟨_,rfl,_,rfl,p,e,r2,rfl,ra2,λu3 r3 eu3 hE H3 sb3 ra3=>du (a:=.ref q) (b:=.int (NumText.digitsVal u3.1:Nat)) λx H4 dx4 s4 hx ex=>?_,λhE=>XAt.step (k2 r2 (by rw[eL,hE];rfl)) sb⟩;subst eu3;have sbb:=sb.trans sb3;exact k1 (.power t (NumText.digitsVal u3.1)) r3 (by rw[eL,show isE (mhd (u3::r3))=true from hE];rfl) x H4 (sbb.trans s4.toB) (ra3.same s4) ⟨ra3.nn hx,dx4,q,ex,((hT.sb sb2).sb sb3).same s4⟩ (sbb.free hA.isS hx ra3.isS)
  ·exact⟨_,rfl,k1 t r (by rw[eP];unfold gI;rw[if_neg h4]) q H1 sb1 ra1 hT hq⟩
theorem Cm{tc:TC}{n:Nat}{C CMinus CNoText f:Addr}{fd:FuncData}(F:Fun K "read_factor" "read_factor" gg f fd)(T:Txt K mg)(R:QC K mg C)(ew:tc.mi=CMinus){ci:Addr}{cg:FuncData}(bT:MCal P w K mg base 2 C "passes" ["self","mark"] (dj C) ci cg){fq:Addr}{eZ:FuncData}{fD:List Value}(dR:KCal P w K mg base 1 CMinus "Minus" ["self","one"] (bE CMinus "one") fq eZ fD []){ny:Addr}{m6:FuncData}(C_read_power:CalV P w K mg base (6*n+9) "read_power" ["reading"] (spP C CNoText tc (cp (So n)) n) ny m6):FnOk P w K mg base (CXV P w) (6*n+10) f fd ["reading"] (spP C CNoText tc (bg (So n)) n):=by
 obtain⟨cu,cr,cs⟩:=bT;obtain⟨uW,uC,rV,uk,IF,Hw⟩:=dR;obtain⟨yW,w9,xx,yH⟩:=C_read_power;subst ew;refine F.okV Au (λvs H Q E h=>?_) (λcdv A outer s H vs Q E hr h=>?_)
 ·obtain⟨p,e,us,rfl,_⟩:=h;rfl
 ·obtain⟨p,e,us,rfl,hA,he,k1,k2⟩:=h;obtain⟨dx,pm,d,h1⟩:=hA.ins
  refine⟨_,(af (aH (bB (cF (pv 0) R.cl cr cu (hr.mono (by omega)) cs .nil ak (aa ao ac)))
   (ag (aq (bC uC uW (hr.mono (by omega)) rfl rV uk .nil ak (aa (au yW (hr.mono (by omega)) rfl w9 xx yH .nil (bf (λ_ _ _ z=>z)) (aa (pv 0) ac)) ac))))
   aJ)
   (ag (aq (au yW (hr.mono (by omega)) rfl w9 xx yH .nil (bf (λ_ _ _ z=>z)) (aa (pv 0) ac))))),?_⟩
  refine am ⟨_,rfl,p,dx,_,rfl,h1,fno bM,p,e,us,[45],by rw[<- ey];rfl,hA,by decide,λu r eu em H1 sb1 ra1=>⟨_,rfl,aN ?_⟩,λh4=>⟨_,rfl,aM ?_⟩⟩
  ·subst eu
   have eF:bg (So n) (u::r)=aQ (cp (So n) r) λt r=>.inr (.minus t,r):=by unfold bg;rw[if_pos (show mhd (u::r)=[45]from em)];rfl
   refine⟨_,rfl,p,e,r,rfl,ra1,he,λt r2 ht q H2 sb2 ra2 hT hq=>lB (a:=.ref q) λx H3 dx3 s3 hx ex=>?_,λr2 ht=>XAt.step (k2 r2 (by rw[eF,ht];rfl)) sb1⟩;have sb:=sb1.trans sb2;exact k1 (.minus t) r2 (by rw[eF,ht];rfl) x H3 (sb.trans s3.toB) (ra2.same s3) ⟨ra2.nn hx,dx3,q,ex,hT.same s3⟩ (sb.free hA.isS hx ra2.isS)
  ·have eF:bg (So n) us=cp (So n) us:=by unfold bg;rw[if_neg h4]
   exact⟨_,rfl,p,e,us,rfl,hA,he,λt r ht q H4 sb4 ra4 hT hq=>k1 t r (by rw[eF,ht]) q H4 sb4 ra4 hT hq,λr ht=>k2 r (by rw[eF,ht])⟩
theorem FK:∀m:List Nat,inV (.str (stL m)) [.str (Str.ofString "*"),.str (Str.ofString "/")]=(decide (m=[42]) ||decide (m=[47])):=λm=>by
 rw[cI,jg];show(eqV (.str (stL [42])) (.str (stL m)) || (eqV (.str (stL [47])) (.str (stL m)) ||false))=_;rw[cD,cD,Bool.or_false];have h1:decide ([42]=m)=decide (m=[42]):=by rw[decide_eq_decide];exact eq_comm
 have h2:decide ([47]=m)=decide (m=[47]):=by rw[decide_eq_decide];exact eq_comm
 rw[h1,h2]
def LpI(C:Addr)(tc:TC)(p:Addr)(e:Nat×Nat)(res:Res PT)(F:List Mk->Res PT)(a b:List Nat)(f g:PT->PT->PT)(H:Hp)(m:Nat)(σ':St)(H':Hp):Prop:=∃(q:Addr) (t:PT) (us:List Mk),m=us.length/\σ'=[some (.ref p),some (.ref q)]/\SameB p H H'/\RdA C H' p e us/\H q=none/\PtH tc p H' t q/\res=aZ F a b f g us.length t us
theorem Ch{tc:TC}{n:Nat}{C CTimes COver CNoText f:Addr}{fd:FuncData}(F:Fun K "read_product" "read_product" gd f fd)(T:Txt K mg)(R:QC K mg C)(ew:tc.ti=CTimes)(en:tc.ov=COver){nA:Addr}{m8:FuncData}(C_read_factor:CalV P w K mg base (6*n+10) "read_factor" ["reading"] (spP C CNoText tc (bg (So n)) n) nA m8){bO:Addr}{bN:FuncData}(bI:MCal P w K mg base 1 C "seen" ["self"] (cN C) bO bN){cA:Addr}{cz:FuncData}(cj:MCal P w K mg base 2 C "step" ["self"] (dX C) cA cz){ff:Addr}{eQ:FuncData}{fv:List Value}(dL:KCal P w K mg base 1 CTimes "Times" ["self","one","other"] (aP CTimes "one" "other") ff eQ fv []){fk:Addr}{eW:FuncData}{fB:List Value}(dP:KCal P w K mg base 1 COver "Over" ["self","one","other"] (aP COver "one" "other") fk eW fB []):FnOk P w K mg base (CXV P w) (6*n+10+1) f fd ["reading"] (spP C CNoText tc (aY (So n)) n):=by
 obtain⟨uH,rG,sv,tY⟩:=C_read_factor;obtain⟨bY,bV,bX⟩:=bI;obtain⟨cV,cQ,cU⟩:=cj;obtain⟨uP,ux,rP,ua,Iz,Hq⟩:=dL;obtain⟨uU,uA,rS,ug,ID,Hu⟩:=dP;subst ew en;refine F.okV sc_read_product (λvs H Q E h=>?_) (λcdv A outer s H vs Q E hr h=>?_)
 ·obtain⟨p,e,us,rfl,_⟩:=h;rfl
 ·obtain⟨p,e,us0,rfl,hA,he,k1,k2⟩:=h
  refine⟨_,(af (ay (i:=1) sc_read_product.nd rfl (Or.inl rfl) (au uH (hr.mono (by omega)) rfl rG sv tY .nil (bf (λ_ _ _ z=>z)) (aa (pv 0) ac)))
   (af (ic PassesOwn.leaving (aF (my (K:=K) rfl) (bi (pv 0) R.cl bV bY (hr.mono (by omega)) bX .nil ak) (bF (aa ao (aa ao ac))) (by rfl))
     (ag (aH (aF bA (bi (pv 0) R.cl cQ cV (hr.mono (by omega)) cU .nil ak) ao (aA _))
       (ag (ay (i:=1) sc_read_product.nd rfl (Or.inl rfl) (bC ux uP (hr.mono (by omega)) rfl rP ua .nil ak (aa (pv 1) (aa (au uH (hr.mono (by omega)) rfl rG sv tY .nil (bf (λ_ _ _ z=>z)) (aa (pv 0) ac)) ac)))))
       (ag (ay (i:=1) sc_read_product.nd rfl (Or.inl rfl) (bC uA uU (hr.mono (by omega)) rfl rS ug .nil ak (aa (pv 1) (aa (au uH (hr.mono (by omega)) rfl rG sv tY .nil (bf (λ_ _ _ z=>z)) (aa (pv 0) ac)) ac))))))))
   (ag (aq (pv 1))))),?_⟩
  refine ld (λσ' H'=>∃m,LpI C tc p e (aY (So n) us0) (bg (So n)) [42] [47] .times .over H m σ' H') ?_ (λrest=>?_)
  rotate_left
  ·exact bJ ⟨_,rfl,p,e,us0,rfl,hA,he,λt r ht q H1 sb1 ra1 hT hq=>rest _ _ ⟨_,q,t,r,rfl,rfl,sb1,ra1,hq,hT,by unfold aY;rw[ht];rfl⟩,λr ht=>k2 r (by unfold aY;rw[ht];rfl)⟩
  rintro σ' H1 ⟨m0,hI⟩;refine⟨λm σ' H'=>LpI C tc p e (aY (So n) us0) (bg (So n)) [42] [47] .times .over H m σ' H',⟨m0,hI⟩,?_⟩;clear hI;rintro m σ' H2 ⟨q,t,us,rfl,rfl,sb2,ra2,hq,hT,eq⟩;obtain⟨dx2,pm2,d2,h12⟩:=ra2.ins;refine⟨_,rfl,p,dx2,_,rfl,h12,fno bD,p,e,us,rfl,ra2,by show 2<=sizeLine;decide,λpt hpt=>?_⟩;have u3:=Same.upd_new (o:=.tup [V.str (Str.ofString "*"),V.str (Str.ofString "/")]) hpt;refine⟨pt,_,rfl,.inr (SqT.of ap),rfl,by decide,_,rfl,?_⟩;generalize upd H2 pt (.tup [V.str (Str.ofString "*"),V.str (Str.ofString "/")])=H3 at u3 ⊢
  have ra3:=ra2.same u3;have sb3:SameB p H H3:=sb2.trans u3.toB;have hT3:=hT.same u3;show if(inV (.str (stL (mhd us))) [.str (Str.ofString "*"),.str (Str.ofString "/")])=true then _ else _
  rw[FK];by_cases hs:mhd us=[42]\/mhd us=[47]
  rotate_left
  ·have hs1:mhd us≠[42]:=λz=>hs (.inl z)
   have hs2:mhd us≠[47]:=λz=>hs (.inr z)
   rw[decide_eq_false hs1,decide_eq_false hs2];refine aM ?_;exact⟨_,rfl,k1 t us (by rw[eq];exact mK hs1 hs2) q H3 sb3 ra3 hT3 hq⟩
  rw[show(decide (mhd us=[42]) ||decide (mhd us=[47]))=true by rcases hs with z |z<;>simp[z]];refine aN ?_;cases us with
  |nil=>rcases hs with z |z<;>cases z
  |cons u us =>
  refine⟨λσ'' H''=>∃m',m'<(u::us).length/\LpI C tc p e (aY (So n) us0) (bg (So n)) [42] [47] .times .over H m' σ'' H'',λ_ _ h=>h,?_⟩;obtain⟨dx3,pm3,d3,h13⟩:=ra3.ins;refine⟨_,rfl,p,dx3,_,rfl,h13,fno cx,p,e,u,us,rfl,ra3,λH4 sb4 ra4=>⟨rfl,_,rfl,?_⟩⟩;have sbb:=sb3.trans sb4;have hT4:=hT3.sb sb4
  have go:∀(h:PT->PT->PT),aY (So n) us0=aQ (bg (So n) us) (λt2 r=>aZ (bg (So n)) [42] [47] .times .over us.length (h t t2) r)->∀t2 r,bg (So n) us=.inr (t2,r)->aY (So n) us0=aZ (bg (So n)) [42] [47] .times .over r.length (h t t2) r/\r.length<(u::us).length:=λh e1 t2 r e2=>by have l1:=mf (lR n) us t2 r e2;refine⟨?_,by rw[J4];omega⟩;rw[e1,e2];exact mJ (mf (lR n)) _ _ _ _ (by decide) (by decide) _ _ _ _ (by omega) (J3 _)
  by_cases hp:u.1=[42]
  ·rw[hp];refine ai (λ_=>?_) (λz=>absurd (by rw[<- cI]) z)
   have e1:aY (So n) us0=aQ (bg (So n) us) (λt2 r=>aZ (bg (So n)) [42] [47] .times .over us.length (PT.times t t2) r):=by rw[eq];exact if_pos (show mhd (u::us)=[42]from hp)
   refine bJ ⟨_,rfl,_,rfl,p,e,us,rfl,ra4,he,λt2 r2 ht2 q2 H5 sb5 ra5 hT5 hq2=>du (a:=.ref q) (b:=.ref q2) λx H6 dx6 s6 hx ex=>?_,λr2 ht2=>XAt.step (k2 r2 (by rw[e1,ht2];rfl)) sbb⟩;obtain⟨e3,lt⟩:=go _ e1 t2 r2 ht2;exact⟨_,lt,x,.times t t2,r2,rfl,rfl,(sbb.trans sb5).trans s6.toB,ra5.same s6,(sbb.trans sb5).free hA.isS hx ra5.isS,⟨ra5.nn hx,dx6,q,q2,ex,(hT4.sb sb5).same s6,hT5.same s6⟩,e3⟩
  ·have hb:=hs.resolve_left hp;have hb':u.1=[47]:=hb;rw[hb'];refine ai (λz=>absurd (stL_inj.mp ((V.str.inj z).trans cI)) (by decide)) (λ_=>?_)
   have e1:aY (So n) us0=aQ (bg (So n) us) (λt2 r=>aZ (bg (So n)) [42] [47] .times .over us.length (PT.over t t2) r):=by rw[eq];exact(if_neg (show ¬mhd (u::us)=[42]from hp)).trans (if_pos hb)
   refine bJ ⟨_,rfl,_,rfl,p,e,us,rfl,ra4,he,λt2 r2 ht2 q2 H5 sb5 ra5 hT5 hq2=>du (a:=.ref q) (b:=.ref q2) λx H6 dx6 s6 hx ex=>?_,λr2 ht2=>XAt.step (k2 r2 (by rw[e1,ht2];rfl)) sbb⟩;obtain⟨e3,lt⟩:=go _ e1 t2 r2 ht2;exact⟨_,lt,x,.over t t2,r2,rfl,rfl,(sbb.trans sb5).trans s6.toB,ra5.same s6,(sbb.trans sb5).free hA.isS hx ra5.isS,⟨ra5.nn hx,dx6,q,q2,ex,(hT4.sb sb5).same s6,hT5.same s6⟩,e3⟩
theorem Cg{tc:TC}{n:Nat}{C CSum CLess CNoText f:Addr}{fd:FuncData}(F:Fun K "read_sum" "read_sum" fO f fd)(T:Txt K mg)(R:QC K mg C)(ew:tc.su=CSum)(en:tc.le=CLess){nw:Addr}{m5:FuncData}(C_read_product:CalV P w K mg base (6*n+11) "read_product" ["reading"] (spP C CNoText tc (aY (So n)) n) nw m5){bO:Addr}{bN:FuncData}(bI:MCal P w K mg base 1 C "seen" ["self"] (cN C) bO bN){cA:Addr}{cz:FuncData}(cj:MCal P w K mg base 2 C "step" ["self"] (dX C) cA cz){fg:Addr}{eR:FuncData}{fw:List Value}(dM:KCal P w K mg base 1 CSum "Sum" ["self","one","other"] (aP CSum "one" "other") fg eR fw []){ft:Addr}{fb:FuncData}{fE:List Value}(dS:KCal P w K mg base 1 CLess "Less" ["self","one","other"] (aP CLess "one" "other") ft fb fE []):FnOk P w K mg base (CXV P w) (6*n+11+1) f fd ["reading"] (spP C CNoText tc (cn (So n)) n):=by
 obtain⟨uG,rF,ss,tX⟩:=C_read_product;obtain⟨bY,bV,bX⟩:=bI;obtain⟨cV,cQ,cU⟩:=cj;obtain⟨uQ,uy,rQ,ub,IA,Hr⟩:=dM;obtain⟨uX,uD,rW,ul,IG,Hx⟩:=dS;subst ew en;refine F.okV sc_read_sum (λvs H Q E h=>?_) (λcdv A outer s H vs Q E hr h=>?_)
 ·obtain⟨p,e,us,rfl,_⟩:=h;rfl
 ·obtain⟨p,e,us0,rfl,hA,he,k1,k2⟩:=h
  refine⟨_,(af (ay (i:=1) sc_read_sum.nd rfl (Or.inl rfl) (au uG (hr.mono (by omega)) rfl rF ss tX .nil (bf (λ_ _ _ z=>z)) (aa (pv 0) ac)))
   (af (ic PassesOwn.leaving (aF (my (K:=K) rfl) (bi (pv 0) R.cl bV bY (hr.mono (by omega)) bX .nil ak) (bF (aa ao (aa ao ac))) (by rfl))
     (ag (aH (aF bA (bi (pv 0) R.cl cQ cV (hr.mono (by omega)) cU .nil ak) ao (aA _))
       (ag (ay (i:=1) sc_read_sum.nd rfl (Or.inl rfl) (bC uy uQ (hr.mono (by omega)) rfl rQ ub .nil ak (aa (pv 1) (aa (au uG (hr.mono (by omega)) rfl rF ss tX .nil (bf (λ_ _ _ z=>z)) (aa (pv 0) ac)) ac)))))
       (ag (ay (i:=1) sc_read_sum.nd rfl (Or.inl rfl) (bC uD uX (hr.mono (by omega)) rfl rW ul .nil ak (aa (pv 1) (aa (au uG (hr.mono (by omega)) rfl rF ss tX .nil (bf (λ_ _ _ z=>z)) (aa (pv 0) ac)) ac))))))))
   (ag (aq (pv 1))))),?_⟩
  refine ld (λσ' H'=>∃m,LpI C tc p e (cn (So n) us0) (aY (So n)) [43] [45] .sum .less H m σ' H') ?_ (λrest=>?_)
  rotate_left
  ·exact bJ ⟨_,rfl,p,e,us0,rfl,hA,he,λt r ht q H1 sb1 ra1 hT hq=>rest _ _ ⟨_,q,t,r,rfl,rfl,sb1,ra1,hq,hT,by unfold cn;rw[ht];rfl⟩,λr ht=>k2 r (by unfold cn;rw[ht];rfl)⟩
  rintro σ' H1 ⟨m0,hI⟩;refine⟨λm σ' H'=>LpI C tc p e (cn (So n) us0) (aY (So n)) [43] [45] .sum .less H m σ' H',⟨m0,hI⟩,?_⟩;clear hI;rintro m σ' H2 ⟨q,t,us,rfl,rfl,sb2,ra2,hq,hT,eq⟩;obtain⟨dx2,pm2,d2,h12⟩:=ra2.ins;refine⟨_,rfl,p,dx2,_,rfl,h12,fno bD,p,e,us,rfl,ra2,by show 2<=sizeLine;decide,λpt hpt=>?_⟩;have u3:=Same.upd_new (o:=.tup [V.str (Str.ofString "+"),V.str (Str.ofString "-")]) hpt;refine⟨pt,_,rfl,.inr (SqT.of ap),rfl,by decide,_,rfl,?_⟩;generalize upd H2 pt (.tup [V.str (Str.ofString "+"),V.str (Str.ofString "-")])=H3 at u3 ⊢
  have ra3:=ra2.same u3;have sb3:SameB p H H3:=sb2.trans u3.toB;have hT3:=hT.same u3;show if(inV (.str (stL (mhd us))) [.str (Str.ofString "+"),.str (Str.ofString "-")])=true then _ else _
  rw[xM];by_cases hs:mhd us=[43]\/mhd us=[45]
  rotate_left
  ·have hs1:mhd us≠[43]:=λz=>hs (.inl z)
   have hs2:mhd us≠[45]:=λz=>hs (.inr z)
   rw[decide_eq_false hs1,decide_eq_false hs2];refine aM ?_;exact⟨_,rfl,k1 t us (by rw[eq];exact mK hs1 hs2) q H3 sb3 ra3 hT3 hq⟩
  rw[show(decide (mhd us=[43]) ||decide (mhd us=[45]))=true by rcases hs with z |z<;>simp[z]];refine aN ?_;cases us with
  |nil=>rcases hs with z |z<;>cases z
  |cons u us =>
  refine⟨λσ'' H''=>∃m',m'<(u::us).length/\LpI C tc p e (cn (So n) us0) (aY (So n)) [43] [45] .sum .less H m' σ'' H'',λ_ _ h=>h,?_⟩;obtain⟨dx3,pm3,d3,h13⟩:=ra3.ins;refine⟨_,rfl,p,dx3,_,rfl,h13,fno cx,p,e,u,us,rfl,ra3,λH4 sb4 ra4=>⟨rfl,_,rfl,?_⟩⟩;have sbb:=sb3.trans sb4;have hT4:=hT3.sb sb4
  have go:∀(h:PT->PT->PT),cn (So n) us0=aQ (aY (So n) us) (λt2 r=>aZ (aY (So n)) [43] [45] .sum .less us.length (h t t2) r)->∀t2 r,aY (So n) us=.inr (t2,r)->cn (So n) us0=aZ (aY (So n)) [43] [45] .sum .less r.length (h t t2) r/\r.length<(u::us).length:=λh e1 t2 r e2=>by have l1:=me (lR n) us t2 r e2;refine⟨?_,by rw[J4];omega⟩;rw[e1,e2];exact mJ (me (lR n)) _ _ _ _ (by decide) (by decide) _ _ _ _ (by omega) (J3 _)
  by_cases hp:u.1=[43]
  ·rw[hp];refine ai (λ_=>?_) (λz=>absurd (by rw[<- mL]) z)
   have e1:cn (So n) us0=aQ (aY (So n) us) (λt2 r=>aZ (aY (So n)) [43] [45] .sum .less us.length (PT.sum t t2) r):=by rw[eq];exact if_pos (show mhd (u::us)=[43]from hp)
   refine bJ ⟨_,rfl,_,rfl,p,e,us,rfl,ra4,he,λt2 r2 ht2 q2 H5 sb5 ra5 hT5 hq2=>du (a:=.ref q) (b:=.ref q2) λx H6 dx6 s6 hx ex=>?_,λr2 ht2=>XAt.step (k2 r2 (by rw[e1,ht2];rfl)) sbb⟩;obtain⟨e3,lt⟩:=go _ e1 t2 r2 ht2;exact⟨_,lt,x,.sum t t2,r2,rfl,rfl,(sbb.trans sb5).trans s6.toB,ra5.same s6,(sbb.trans sb5).free hA.isS hx ra5.isS,⟨ra5.nn hx,dx6,q,q2,ex,(hT4.sb sb5).same s6,hT5.same s6⟩,e3⟩
  ·have hb:=hs.resolve_left hp;have hb':u.1=[45]:=hb;rw[hb'];refine ai (λz=>absurd (stL_inj.mp ((V.str.inj z).trans mL)) (by decide)) (λ_=>?_)
   have e1:cn (So n) us0=aQ (aY (So n) us) (λt2 r=>aZ (aY (So n)) [43] [45] .sum .less us.length (PT.less t t2) r):=by rw[eq];exact(if_neg (show ¬mhd (u::us)=[43]from hp)).trans (if_pos hb)
   refine bJ ⟨_,rfl,_,rfl,p,e,us,rfl,ra4,he,λt2 r2 ht2 q2 H5 sb5 ra5 hT5 hq2=>du (a:=.ref q) (b:=.ref q2) λx H6 dx6 s6 hx ex=>?_,λr2 ht2=>XAt.step (k2 r2 (by rw[e1,ht2];rfl)) sbb⟩;obtain⟨e3,lt⟩:=go _ e1 t2 r2 ht2;exact⟨_,lt,x,.less t t2,r2,rfl,rfl,(sbb.trans sb5).trans s6.toB,ra5.same s6,(sbb.trans sb5).free hA.isS hx ra5.isS,⟨ra5.nn hx,dx6,q,q2,ex,(hT4.sb sb5).same s6,hT5.same s6⟩,e3⟩
theorem zW{C CWhole CNamed CGiven CMinus CSum CLess CTimes COver CPower CRooted CRatio CNoText:Addr}(T:Txt K mg)(R:QC K mg C){jA:Addr}{jr:FuncData}(jI:MCalV P w K mg base 4 C "enter" ["self"] (jQ C CNoText) jA jr){jz:Addr}{jq:FuncData}(jH:MCalV P w K mg base 4 C "leave" ["self"] (jN C CNoText) jz jq){gT:Addr}{gQ:FuncData}(g7:Cal P w K mg base 2 "is_whole" ["word"] iT gT gQ){bO:Addr}{bN:FuncData}(bI:MCal P w K mg base 1 C "seen" ["self"] (cN C) bO bN){fe:Addr}{eO:FuncData}{fu:List Value}(dJ:KCal P w K mg base 1 CWhole "Whole" ["self","value"] (bE CWhole "value") fe eO fu []){cA:Addr}{cz:FuncData}(cj:MCal P w K mg base 2 C "step" ["self"] (dX C) cA cz){nG:Addr}{nt:FuncData}(og:Cal P w K mg base 2 "is_name" ["word"] lY nG nt){fo:Addr}{eY:FuncData}{fC:List Value}(dQ:KCal P w K mg base 1 CNamed "Named" ["self","word"] (bE CNamed "word") fo eY fC []){ci:Addr}{cg:FuncData}(bT:MCal P w K mg base 2 C "passes" ["self","mark"] (dj C) ci cg){fh:Addr}{eS:FuncData}{fz:List Value}(dN:KCal P w K mg base 1 CRooted "Rooted" ["self","one","exponent"] (aP CRooted "one" "power") fh eS fz []){nz:Addr}{m7:FuncData}(n6:CalV P w K mg base 7 "read_given" ["reading"] (lZ C CNoText CGiven CRatio) nz m7){jw:Addr}{jn:FuncData}(jG:CalV P w K mg base 3 "read_exponent" ["reading"] (jP C CNoText) jw jn){fj:Addr}{eV:FuncData}{fA:List Value}(dO:KCal P w K mg base 1 CPower "Power" ["self","one","exponent"] (aP CPower "one" "power") fj eV fA []){fq:Addr}{eZ:FuncData}{fD:List Value}(dR:KCal P w K mg base 1 CMinus "Minus" ["self","one"] (bE CMinus "one") fq eZ fD []){ff:Addr}{eQ:FuncData}{fv:List Value}(dL:KCal P w K mg base 1 CTimes "Times" ["self","one","other"] (aP CTimes "one" "other") ff eQ fv []){fk:Addr}{eW:FuncData}{fB:List Value}(dP:KCal P w K mg base 1 COver "Over" ["self","one","other"] (aP COver "one" "other") fk eW fB []){fg:Addr}{eR:FuncData}{fw:List Value}(dM:KCal P w K mg base 1 CSum "Sum" ["self","one","other"] (aP CSum "one" "other") fg eR fw []){ft:Addr}{fb:FuncData}{fE:List Value}(dS:KCal P w K mg base 1 CLess "Less" ["self","one","other"] (aP CLess "one" "other") ft fb fE []){nC:Addr}{nc:FuncData}(C_read_brackets:RawC K mg "read_brackets" gh ["reading"] nC nc){nD:Addr}{nh:FuncData}(C_read_atom:RawC K mg "read_atom" gj ["reading"] nD nh){ny:Addr}{m6:FuncData}(C_read_power:RawC K mg "read_power" gf ["reading"] ny m6){nA:Addr}{m8:FuncData}(C_read_factor:RawC K mg "read_factor" gg ["reading"] nA m8){nw:Addr}{m5:FuncData}(C_read_product:RawC K mg "read_product" gd ["reading"] nw m5){iA:Addr}{iz:FuncData}(C_read_sum:RawC K mg "read_sum" fO ["reading"] iA iz):∀n,CalV P w K mg base (6*n+12) "read_sum" ["reading"] (spP C CNoText ⟨CWhole,CNamed,CGiven,CMinus,CSum,CLess,CTimes,COver,CPower,CRooted,CRatio⟩ (pS n) n) iA iz:=by
 obtain⟨tc,htc⟩:∃tc:TC,tc=⟨CWhole,CNamed,CGiven,CMinus,CSum,CLess,CTimes,COver,CPower,CRooted,CRatio⟩:=⟨_,rfl⟩;rw[<- htc]
 have step:∀n,CalV P w K mg base (6*n+6) "read_sum" ["reading"] (spS C CNoText tc n) iA iz->CalV P w K mg base (6*n+12) "read_sum" ["reading"] (spP C CNoText tc (pS n) n) iA iz:=λn h=>by have B:=C_read_brackets.calV (Co C_read_brackets.fn T R jI jH h);have A:=C_read_atom.calV (Cp C_read_atom.fn T R (by rw[htc]) (by rw[htc]) (by rw[htc]) (by rw[htc]) (by rw[htc]) g7 bI dJ cj og dQ bT dN n6 B);have Po:=C_read_power.calV (Ci C_read_power.fn T R (by rw[htc]) A bT jG dO);have Fa:=C_read_factor.calV (Cm C_read_factor.fn T R (by rw[htc]) bT dR Po);have Pr:=C_read_product.calV (Ch C_read_product.fn T R (by rw[htc]) (by rw[htc]) Fa bI cj dL dP);have Su:=C_read_sum.calV (Cg C_read_sum.fn T R (by rw[htc]) (by rw[htc]) Pr bI cj dM dS);rw[rc];exact Su
 intro n
 induction n with
 |zero=>exact step 0 (C_read_sum.calV (DL C_read_sum.fn (k:=5)))
 |succ n ih=>exact step (n+1) ih
noncomputable def ig(us:List Mk):Res PT:=aQ (pS 10 us) λt r=>if r=[]then .inr (t,[])else .inl r
def qi(CN:Addr)(tc:TC):Sp:=λvs H Q E=>∃l:List Nat,vs=[.str (stL l)]/\Pla l/\(∀t,ig (mks 0 l)=.inr (t,[])->∀(q av:Addr) (H':Hp),Same H H'->PtH tc av H' t q->H q=none->Q (.ref q) H')/\(∀r,ig (mks 0 l)=.inl r->∀(H':Hp) (d:Addr),Same H H'->H' d=some (.xd [(("at":Str),V.int (mbg l.length r:Nat))])->E (.ref CN) (some d) H')
theorem Cq{C CWhole CNamed CGiven CMinus CSum CLess CTimes COver CPower CRooted CRatio CNoText f:Addr}{fd:FuncData}(F:Fun K "read" "read" j6 f fd)(T:Txt K mg)(R:QC K mg C){Hh:Addr}{GQ:FuncData}{Hn:List Value}(JV:KCal P w K mg base 4 C "Reading" ["self","text"] (qg C) Hh GQ Hn []){Hg:Addr}{GP:FuncData}(JU:MCalV P w K mg base 3 C "finish" ["self"] (qG C CNoText) Hg GP){jA:Addr}{jr:FuncData}(jI:MCalV P w K mg base 4 C "enter" ["self"] (jQ C CNoText) jA jr){jz:Addr}{jq:FuncData}(jH:MCalV P w K mg base 4 C "leave" ["self"] (jN C CNoText) jz jq){gT:Addr}{gQ:FuncData}(g7:Cal P w K mg base 2 "is_whole" ["word"] iT gT gQ){bO:Addr}{bN:FuncData}(bI:MCal P w K mg base 1 C "seen" ["self"] (cN C) bO bN){fe:Addr}{eO:FuncData}{fu:List Value}(dJ:KCal P w K mg base 1 CWhole "Whole" ["self","value"] (bE CWhole "value") fe eO fu []){cA:Addr}{cz:FuncData}(cj:MCal P w K mg base 2 C "step" ["self"] (dX C) cA cz){nG:Addr}{nt:FuncData}(og:Cal P w K mg base 2 "is_name" ["word"] lY nG nt){fo:Addr}{eY:FuncData}{fC:List Value}(dQ:KCal P w K mg base 1 CNamed "Named" ["self","word"] (bE CNamed "word") fo eY fC []){ci:Addr}{cg:FuncData}(bT:MCal P w K mg base 2 C "passes" ["self","mark"] (dj C) ci cg){fh:Addr}{eS:FuncData}{fz:List Value}(dN:KCal P w K mg base 1 CRooted "Rooted" ["self","one","exponent"] (aP CRooted "one" "power") fh eS fz []){nz:Addr}{m7:FuncData}(n6:CalV P w K mg base 7 "read_given" ["reading"] (lZ C CNoText CGiven CRatio) nz m7){jw:Addr}{jn:FuncData}(jG:CalV P w K mg base 3 "read_exponent" ["reading"] (jP C CNoText) jw jn){fj:Addr}{eV:FuncData}{fA:List Value}(dO:KCal P w K mg base 1 CPower "Power" ["self","one","exponent"] (aP CPower "one" "power") fj eV fA []){fq:Addr}{eZ:FuncData}{fD:List Value}(dR:KCal P w K mg base 1 CMinus "Minus" ["self","one"] (bE CMinus "one") fq eZ fD []){ff:Addr}{eQ:FuncData}{fv:List Value}(dL:KCal P w K mg base 1 CTimes "Times" ["self","one","other"] (aP CTimes "one" "other") ff eQ fv []){fk:Addr}{eW:FuncData}{fB:List Value}(dP:KCal P w K mg base 1 COver "Over" ["self","one","other"] (aP COver "one" "other") fk eW fB []){fg:Addr}{eR:FuncData}{fw:List Value}(dM:KCal P w K mg base 1 CSum "Sum" ["self","one","other"] (aP CSum "one" "other") fg eR fw []){ft:Addr}{fb:FuncData}{fE:List Value}(dS:KCal P w K mg base 1 CLess "Less" ["self","one","other"] (aP CLess "one" "other") ft fb fE []){nC:Addr}{nc:FuncData}(C_read_brackets:RawC K mg "read_brackets" gh ["reading"] nC nc){nD:Addr}{nh:FuncData}(C_read_atom:RawC K mg "read_atom" gj ["reading"] nD nh){ny:Addr}{m6:FuncData}(C_read_power:RawC K mg "read_power" gf ["reading"] ny m6){nA:Addr}{m8:FuncData}(C_read_factor:RawC K mg "read_factor" gg ["reading"] nA m8){nw:Addr}{m5:FuncData}(C_read_product:RawC K mg "read_product" gd ["reading"] nw m5){iA:Addr}{iz:FuncData}(C_read_sum:RawC K mg "read_sum" fO ["reading"] iA iz):FnOk P w K mg base (CXV P w) 73 f fd ["text"] (qi CNoText ⟨CWhole,CNamed,CGiven,CMinus,CSum,CLess,CTimes,COver,CPower,CRooted,CRatio⟩):=by
 have C_read_sum:=zW T R jI jH g7 bI dJ cj og dQ bT dN n6 jG dO dR dL dP dM dS C_read_brackets C_read_atom C_read_power C_read_factor C_read_product C_read_sum 10;obtain⟨Ju,IY,Ex,Ix,J1,J0⟩:=JV;obtain⟨Jt,DR,Iw⟩:=JU;obtain⟨uF,rE,sr,tW⟩:=C_read_sum;refine F.okV sc_read (λvs H Q E h=>?_) (λcdv A outer s H vs Q E hr h=>?_)
 ·obtain⟨l,rfl,_⟩:=h;rfl
 ·obtain⟨l,rfl,hl,k1,k2⟩:=h
  refine⟨_,(af (ay (i:=1) sc_read.nd rfl (Or.inl rfl) (bC IY Ju (hr.mono) rfl Ex Ix .nil ak (aa (pv 0) ac)))
   (af (ay (i:=2) sc_read.nd rfl (Or.inl rfl) (au uF (hr.mono) rfl rE sr tW .nil (bf (λ_ _ _ z=>z)) (aa (pv 1) ac)))
   (af (cc (bi (pv 1) R.cl DR Jt (hr.mono) Iw .nil (bf (λ_ _ _ z=>z))))
   (ag (aq (pv 2)))))),?_⟩
  refine aC ⟨_,rfl,λx dx hx hdx hne=>⟨x,dx,l,rfl,ap,hl,λH2 sb ra=>⟨rfl,?_⟩⟩⟩;have s2:Same H H2:=λb o e=>sb b o (aU e hx) (by rw[upd_ne (aU e hx),upd_ne (aU e hdx)];exact e)
  have toS:∀{H3:Hp},SameB x H2 H3->Same H H3:=λsb3 b o e=>sb3 b o (aU e hx) (s2 b o e)
  refine aC ⟨_,rfl,x,(l.length,0),mks 0 l,rfl,ra,rfl,λt r ht q H3 sb3 ra3 hT hq=>?_,λr ht H' d sb' ed=>k2 r (by unfold ig;rw[ht];rfl) H' d (toS sb') ed⟩;have eA:ig (mks 0 l)=if r=[]then .inr (t,[])else .inl r:=by unfold ig;rw[ht];rfl
  obtain⟨dx3,pm3,d3,h13⟩:=ra3.ins;refine cE ⟨_,rfl,x,dx3,_,rfl,h13,fno DM,x,(l.length,0),r,rfl,ra3,λz=>?_,λz H' d sb' ed=>k2 r (by rw[eA,if_neg z]) H' d (toS (sb3.trans sb')) ed⟩;exact⟨_,rfl,k1 t (by rw[eA,if_pos z]) q x H3 (toS sb3) hT (s2.free hq)⟩
noncomputable def txt(v:Int):Str:=Str.ofString (toString v)
theorem cM(n:Nat):txt (n:Int)=stL (al n):=o9 n
theorem vk{v:Int}(h:v<0):txt v=stL (45::al v.natAbs):=by
 cases v with
 |ofNat n=>exact absurd h (by simp)
 |negSucc n=>exact FC n
theorem jd{n k:Nat}(h:n<10^(k+1)):(al n).length<=k+1:=(q9 k n h).1
theorem se{n k:Nat}(h:n<2^k)(hk:0<k):n.log2<k:=by
 by_cases h0:n=0
 ·subst h0;simpa using hk
 ·exact(Nat.log2_lt h0).mpr h
theorem ya:∀(ls:List (List Nat)) (n:Nat),(ls.map stL).foldl (λn z=>n+z.length+(Str.ofString "").length) n=n+ls.flatten.length
 | [],n=>by simp
 |l::ls,n=>by
  rw[Kw,K0,ya ls];have e1:(stL l).length=l.length:=by unfold stL Str.length;simp
  have e2:(Str.ofString "").length=0:=by decide
  rw[e1,e2,KE,J2];omega
def hJ:Sp:=λvs H Q _=>∃v:Int,vs=[.int v]/\Bits 1000 v/\∀H',Same H H'->Q (.str (txt v)) H'
theorem Gj{zs:List (List Nat)}(h:∀l∈zs,l.length<=400):zs.flatten.length<=400*zs.length:=by
 induction zs with
 |nil=>exact Kj _
 |cons l zs ih =>
  rw[KE,J2,J4];have h1:=h l (KW ..);have h2:=ih λx hx=>h x (KF _ hx)
  omega
theorem B9{f:Addr}{fd:FuncData}(F:Fun K "whole_text" "whole_text" jT f fd)(T:Txt K mg):FnOk P w K mg base CX0 1 f fd ["value"] hJ:=by
 refine F.ok sc_whole_text (λvs H Q E h=>?_) (λcdv A outer s H vs Q E hr h=>?_)
 ·obtain⟨v,rfl,_⟩:=h;rfl
 ·obtain⟨v,rfl,bv,k⟩:=h;have big:=sizeLine_eq
  refine⟨_,(af (ay (i:=1) sc_whole_text.nd rfl (Or.inl rfl) (aj wy ad ad))
   (af (ay (i:=2) sc_whole_text.nd rfl (Or.inl rfl) (aO lO (by rfl) T.abs_ PyProof.Rows.boot_abs (aa (pv 0) ac)))
   (af (ay (i:=3) sc_whole_text.nd rfl (Or.inl rfl) (ck ac))
   (af (ic PassesOwn.never (aF B5 (pv 2) (pv 1) (aA _))
     (af (cc (fR PySem.F.plainAttrs_list PySem.F.slot_list_append PySem.F.type_list_append il (pv 3) (aa (fR PySem.F.plainAttrs_str PySem.F.slot_str_zfill PySem.F.type_str_zfill DN (cm gX (by rfl) T.str_ PyProof.Rows.boot_str (aa (aj bh (pv 2) (pv 1)) ac)) (aa ad ac)) ac)))
       (ag (ay (i:=2) sc_whole_text.nd rfl (Or.inl rfl) (aj bR (pv 2) (pv 1))))))
   (af (cc (fR PySem.F.plainAttrs_list PySem.F.slot_list_append PySem.F.type_list_append il (pv 3) (aa (cm gX (by rfl) T.str_ PyProof.Rows.boot_str (aa (pv 2) ac)) ac)))
   (af (aH (aF d7 (pv 0) ad (aA _))
     (ag (cc (fR PySem.F.plainAttrs_list PySem.F.slot_list_append PySem.F.type_list_append il (pv 3) (aa ao ac))))
     aJ)
   (af (cc (BW PySem.F.plainAttrs_list PySem.F.slot_list_reverse PySem.F.type_list_reverse DO (pv 3)))
   (ag (aq (fR PySem.F.plainAttrs_str PySem.F.slot_str_join PySem.F.type_str_join (DP (K:=K) rfl) ao (aa (pv 3) ac))))))))))),?_⟩
  refine aC ⟨_,_,rfl,rfl,⟨by decide,by decide,by decide⟩,?_⟩;show cY _ _ _ _ _;refine hZ (λσ' H'=>∃c:Nat,σ'=[some (.int v),some (.int (c:Int)),none,none]/\H=H'/\c=10^64) ⟨10^64,rfl,rfl,rfl⟩ ?_;rintro σ' H' ⟨c,rfl,rfl,hc⟩;have c0:2<=c:=by rw[hc];decide +kernel
  have bc:Bits 300 (c:Int):=by rw[hc];show(((10^64:Nat):Int)).natAbs<2^300;decide +kernel
  refine aC ⟨_,rfl,_,rfl,?_⟩;rw[iG];refine aC ⟨Kj _,λpl hpl=>?_⟩;have s1:=Same.upd_new (o:=.lst []) hpl;have h1:upd H pl (.lst []) pl=some (.lst ((([]:List (List Nat)).map stL).map V.str)):=ap;generalize upd H pl (.lst [])=H1 at s1 h1 ⊢
  refine⟨λm σ' H'=>∃zs:List (List Nat),σ'=[some (.int v),some (.int (c:Int)),some (.int (m:Int)),some (.ref pl)]/\Same H H'/\H' pl=some (.lst ((zs.map stL).map V.str))/\al v.natAbs=al m++zs.reverse.flatten/\m*2^zs.length<=v.natAbs/\(0<m\/zs=[])/\∀l∈zs,l.length<=400,
   ⟨v.natAbs,[],rfl,s1,h1,by simp,by simp,.inr rfl,λl hl=>nomatch hl⟩,?_⟩
  rintro m σ' H2 ⟨zs,rfl,s2,h2,hnum,hle,hm0,hzl⟩
  have bm:m<2^1000:=by have:=Nat.le_mul_of_pos_right m (Nat.pow_pos (n:=zs.length) (show 0<2 by decide));exact KP (J7 this hle) bv
  have fit:0<m->zs.length<1000:=λhm=>by have h3:=Nat.le_mul_of_pos_left (2^zs.length) hm;have h4:2^zs.length<2^1000:=KP (J7 h3 hle) bv;exact(Nat.pow_lt_pow_iff_right (by decide)).mp h4
  refine⟨_,rfl,_,rfl,_,_,rfl,rfl,_,rfl,ai (λhge=>?_) (λhlt=>?_)⟩
  ·have hge':c<=m:=by have:((c:Nat):Int)<=(m:Int):=hge;omega
   refine⟨λσ'' H''=>∃m',m'<m/\∃zs:List (List Nat),σ''=[some (.int v),some (.int (c:Int)),some (.int (m':Int)),some (.ref pl)]/\Same H H''/\H'' pl=some (.lst ((zs.map stL).map V.str))/\al v.natAbs=al m'++zs.reverse.flatten/\m'*2^zs.length<=v.natAbs/\(0<m'\/zs=[])/\∀l∈zs,l.length<=400,λ_ _ h=>h,?_⟩;have hzs:=fit (by omega);have hmod:m%c<c:=Nat.mod_lt _ (by omega);have emod:((m:Nat):Int)%((c:Nat):Int)=((m%c:Nat):Int):=rfl;have ediv:((m:Nat):Int)/((c:Nat):Int)=((m/c:Nat):Int):=rfl;have hm64:m%c<10^64:=by rw[<- hc];exact hmod
   refine cE ⟨_,rfl,.inl ⟨rfl,_,SqL.of h2⟩,_,rfl,_,rfl,_,_,rfl,rfl,(by show(0:Int)<(c:Int);omega),_,rfl,?_,rfl,_,_,rfl,rfl,(by decide +kernel),pl,_,_,rfl,rfl,h2,by rw[J6,J6];omega,?_⟩
   ·rw[emod,KJ];exact Kz (se (k:=1000) (KP (Nat.mod_le _ _) bm) (by decide)) (by decide)
   rw[emod,y8 hm64];have e5:(zs.map stL).map V.str++[V.str ⟨(pad 64 (m%c)).toArray⟩]=((zs++[pad 64 (m%c)]).map stL).map V.str:=by rw[Kl,Kl];rfl
   rw[e5];refine bJ ⟨_,rfl,_,rfl,_,_,rfl,rfl,⟨by show(0:Int)<(c:Int);omega,bc.mono⟩,?_⟩;have hdlt:m/c<m:=Nat.div_lt_self (by omega) (by omega);have hd1:1<=m/c:=(Nat.one_le_div_iff (by omega)).mpr hge';refine⟨m/c,hdlt,zs++[pad 64 (m%c)],rfl,fT s2 hpl,ap,?_,?_,.inl hd1,?_⟩
   ·rw[hnum,KQ];show al m++_=al (m/c)++(pad 64 (m%c)++zs.reverse.flatten);rw[<- J5,<- wE (by omega) 64 (m%c) hm64,<- hc];have e6:m/c*c+m%c=m:=by rw[Nat.mul_comm];exact Nat.div_add_mod m c
    rw[e6]
   ·rw[J2];show m/c*2^(zs.length+1)<=v.natAbs;refine J7 ?_ hle
    have h7:m/c*2<=m:=by have:=Nat.div_mul_le_self m c;have h8:=Nat.mul_le_mul_left (m/c) c0;omega
    rw[KM]
    calc m/c*(2^zs.length*2)=m/c*2*2^zs.length:=by grind
     _<=m*2^zs.length:=Nat.mul_le_mul_right _ h7
   ·intro l hl;rcases Ke.mp hl with h |h
    ·exact hzl l h
    ·rw[Kb.mp h,wt];decide
  ·have hzs:zs.length<1000:=by
    rcases hm0 with h |h
    ·exact fit h
    ·rw[h];decide
   have hlt':m<10^64:=by have:¬((c:Nat):Int)<=(m:Int):=hlt;rw[<- hc];omega
   dsimp only
   refine cE ⟨_,rfl,.inl ⟨rfl,_,SqL.of h2⟩,_,rfl,_,rfl,?_,pl,_,_,rfl,rfl,h2,by rw[J6,J6];omega,?_⟩
   ·rw[KJ];exact Kz (se (k:=1000) bm (by decide)) (by decide)
   have e5:(zs.map stL).map V.str++[V.str (Str.ofString (toString (m:Int)))]=((zs++[al m]).map stL).map V.str:=by rw[Kl,Kl,o9];rfl
   rw[e5];have s3:Same H (upd H2 pl (.lst (((zs++[al m]).map stL).map V.str))):=fT s2 hpl;have h3:upd H2 pl (.lst (((zs++[al m]).map stL).map V.str)) pl=some (.lst (((zs++[al m]).map stL).map V.str)):=ap;generalize upd H2 pl (.lst (((zs++[al m]).map stL).map V.str))=H3 at s3 h3 ⊢
   have hml:(al m).length<=64:=jd (k:=63) hlt';refine ia (λσ' H'=>∃ys:List (List Nat),σ'=[some (.int v),some (.int (c:Int)),some (.int (m:Int)),some (.ref pl)]/\Same H H'/\H' pl=some (.lst ((ys.map stL).map V.str))/\stL ys.reverse.flatten=txt v/\ys.length<=1002/\∀l∈ys,l.length<=400) ?_ ?_
   case refine_2 =>
    intro rest;refine⟨_,rfl,_,_,rfl,rfl,_,rfl,ai (λhn=>?_) (λhn=>?_)⟩
    ·refine lc ⟨_,rfl,.inl ⟨rfl,_,SqL.of h3⟩,pl,_,_,rfl,rfl,h3,by rw[J6,J6,J2];show zs.length+1<_;omega,?_⟩
     have e6:((zs++[al m]).map stL).map V.str++[V.str (Str.ofString "-")]=((zs++[al m]++[[45]]).map stL).map V.str:=by
      have e7:Str.ofString "-"=stL [45]:=by rw[ofS];rfl
      rw[e7];simp only[Kl,Kw,List.map_nil]
     refine rest _ _ ⟨zs++[al m]++[[45]],rfl,fT s3 hpl,by rw[ap,e6],?_,by rw[J2,J2];show zs.length+1+1<=_;omega,?_⟩
     ·rw[KQ,KQ];show stL ([45]++(al m++zs.reverse.flatten))=_;rw[<- hnum,vk hn];rfl
     ·intro l hl;rcases Ke.mp hl with h |h
      ·rcases Ke.mp h with h |h
       ·exact hzl l h
       ·rw[Kb.mp h];omega
      ·rw[Kb.mp h];decide
    ·refine rest _ _ ⟨zs++[al m],rfl,s3,h3,?_,by rw[J2];show zs.length+1<=_;omega,?_⟩
     ·rw[KQ];show stL (al m++zs.reverse.flatten)=_;rw[<- hnum,<- cM];have:((v.natAbs:Nat):Int)=v:=by have:¬v<0:=hn;omega
      rw[this]
     ·intro l hl;rcases Ke.mp hl with h |h
      ·exact hzl l h
      ·rw[Kb.mp h];omega
   rintro σ' H4 ⟨ys,rfl,s4,h4,htx,hyl,hyz⟩;refine cE ⟨_,rfl,.inl ⟨rfl,_,SqL.of h4⟩,pl,_,rfl,rfl,h4,?_⟩;rw[<- List.map_reverse,<- List.map_reverse];have s5:Same H (upd H4 pl (.lst ((ys.reverse.map stL).map V.str))):=fT s4 hpl;have hfl:ys.reverse.flatten.length<=400*1002:=J7 (Gj (λl hl=>hyz l (List.mem_reverse.mp hl))) (by rw[Kx];omega);refine aG ⟨rfl,_,rfl,Str.ofString "",pl,ys.reverse.map stL,rfl,rfl,SqL.of ap,?_,?_,?_⟩
   ·rw[ya];omega
   ·have e:Builtin.Str.glued (Str.ofString "") (ys.reverse.map stL)=stL ys.reverse.flatten:=xW _;rw[e];have:(stL ys.reverse.flatten).length=ys.reverse.flatten.length:=by unfold stL Str.length;simp
    omega
   ·have e:Builtin.Str.glued (Str.ofString "") (ys.reverse.map stL)=stL ys.reverse.flatten:=xW _;rw[e,htx];exact k _ s5
def qI:Sp:=λvs H Q _=>∃(a:Addr) (xs:List V),vs=[.ref a]/\H a=some (.lst xs)/\Q (.int ((xs.length:Int)-1)) H
theorem CH{f:Addr}{fd:FuncData}(F:Fun K "degree" "degree" kh f fd)(T:Txt K mg):FnOk P w K mg base CX0 1 f fd ["row"] qI:=by
 refine F.ok AE (λvs H Q E h=>?_) (λcdv A outer s H vs Q E hr h=>?_)
 ·obtain⟨a,xs,rfl,_⟩:=h;rfl
 ·obtain⟨a,xs,rfl,hA,k⟩:=h;refine⟨_,(ag (aq (aj gJ (aO (dF (K:=K) rfl) (by rfl) T.len_ PySem.boot_len (aa (pv 0) ac)) ad))),?_⟩;exact⟨_,rfl,a,_,rfl,.inl (SqL.of hA),_,_,rfl,rfl,k⟩
theorem oW:(Str.ofString "x^":Str)=stL [120,94]:=by decide +kernel
theorem df:(Str.ofString " - ":Str)=stL [32,45,32]:=by decide +kernel
theorem de:(Str.ofString " + ":Str)=stL [32,43,32]:=by decide +kernel
theorem mz{n:Nat}(h:n<2^1000):(al n).length<=1000:=jd (k:=999) (J9 h (by decide +kernel))
theorem oj{n k:Nat}(h:n<2^1000)(hk:k<2^1000):(tmT n k).length<=2010:=by
 have h1:=mz h;have h2:=mz hk;unfold tmT;split
 ·omega
 ·rw[J2,J4];split<;>split<;>simp<;>omega
def pZ:Sp:=λvs H Q _=>∃n k:Nat,vs=[.int (n:Int),.int (k:Int)]/\n<2^1000/\k<2^1000/\∀H',Same H H'->Q (.str (stL (tmT n k))) H'
theorem Ca{f:Addr}{fd:FuncData}(F:Fun K "term_text" "term_text" jU f fd)(T:Txt K mg){fc:Addr}{eM:FuncData}(dI:Cal P w K mg base 1 "whole_text" ["value"] hJ fc eM):FnOk P w K mg base CX0 2 f fd ["size","place"] pZ:=by
 obtain⟨fH,ef,eI,fF⟩:=dI;refine F.ok sc_term_text (λvs H Q E h=>?_) (λcdv A outer s H vs Q E hr h=>?_)
 ·obtain⟨n,k,rfl,_⟩:=h;rfl
 ·obtain⟨n,p,rfl,hn,hp,k⟩:=h;have big:=sizeLine_eq;have l1:=mz hn;have l2:=mz hp
  refine⟨_,(af (aH (aF bL (pv 1) ad (aA _))
   (ag (aq (au fH (hr.mono) rfl ef eI fF .nil ak (aa (pv 0) ac))))
   aJ)
   (af (ay (i:=2) sc_term_text.nd rfl (Or.inl rfl) (iX (aF bL (pv 1) ad (aA _)) ao (aj aR ao (au fH (hr.mono) rfl ef eI fF .nil ak (aa (pv 1) ac)))))
   (af (aH (aF bL (pv 0) ad (aA _))
     (ag (aq (pv 2)))
     aJ)
   (ag (aq (aj aR (aj aR (au fH (hr.mono) rfl ef eI fF .nil ak (aa (pv 0) ac)) ao) (pv 2))))))),?_⟩
  refine am ⟨_,rfl,_,_,rfl,rfl,_,rfl,ai (λh0=>?_) (λh0=>?_)⟩
  ·have h0':p=0:=by have:(p:Int)=0:=h0;omega
   refine⟨_,rfl,_,rfl,gL hn,λH' sm=>?_⟩;rw[cM];have:=k H' sm;unfold tmT at this
   rw[if_pos h0']at this;exact this
  have h0':¬p=0:=by have:¬(p:Int)=0:=h0;omega
  have kk:∀H',Same H H'->∀z,z=stL ((if n=1 then[]else al n++[42])++(120::if p=1 then[]else 94::al p))->Q (.str z) H':=λH' sm z e=>by
   have:=k H' sm;unfold tmT at this
   rw[if_neg h0']at this;rw[e];exact this
  by_cases h1:p=1
  ·refine aC ⟨_,rfl,_,_,rfl,rfl,_,rfl,ai (λ_=>?_) (λz=>absurd (show(p:Int)=1 by omega) z)⟩;refine am ⟨_,rfl,_,_,rfl,rfl,_,rfl,ai (λh2=>?_) (λh2=>?_)⟩
   ·have h2':n=1:=by have:(n:Int)=1:=h2;omega
    exact⟨_,rfl,kk _ (λ_ _ e=>e) _ (by rw[if_pos h2',if_pos h1];exact lD)⟩
   ·have h2':¬n=1:=by have:¬(n:Int)=1:=h2;omega
    refine⟨_,rfl,_,rfl,gL hn,λH1 sm=>?_⟩;refine⟨_,_,rfl,rfl,?_,_,rfl,_,_,rfl,rfl,?_,kk _ sm _ ?_⟩
    ·rw[cM,cI,ah,ah];simp;omega
    ·rw[cM,cI,ar,lD,ah,ah];simp;omega
    ·rw[if_neg h2',if_pos h1,cM,cI,ar,lD,ar]
  ·refine aC ⟨_,rfl,_,_,rfl,rfl,_,rfl,ai (λz=>absurd (by have:(p:Int)=1:=z;omega) h1) (λ_=>?_)⟩;refine⟨_,rfl,_,rfl,gL hp,λH1 s1=>?_⟩;refine⟨_,_,rfl,rfl,?_,?_⟩
   ·rw[cM,oW,ah,ah];simp;omega
   have ee:Str.ofString "x^"++txt (p:Int)=stL (120::94::al p):=by rw[cM,oW,ar];rfl
   rw[ee];refine am ⟨_,rfl,_,_,rfl,rfl,_,rfl,ai (λh2=>?_) (λh2=>?_)⟩
   ·have h2':n=1:=by have:(n:Int)=1:=h2;omega
    exact⟨_,rfl,kk _ s1 _ (by rw[if_pos h2',if_neg h1];rfl)⟩
   ·have h2':¬n=1:=by have:¬(n:Int)=1:=h2;omega
    refine⟨_,rfl,_,rfl,gL hn,λH2 sm=>?_⟩;refine⟨_,_,rfl,rfl,?_,_,rfl,_,_,rfl,rfl,?_,kk _ (s1.trans sm) _ ?_⟩
    ·rw[cM,cI,ah,ah];simp;omega
    ·rw[cM,cI,ar,ah,ah];simp;omega
    ·rw[if_neg h2',if_neg h1,cM,cI,ar,ar]
theorem wj{l:List Int}(h:AllB 1000 l):∀n,n<2^1000->(ptT l n).length<=2020*n
 |0,_=>Kj _
 |n+1,hn=>by
  have ih:=wj h n (by omega);have h1:=oj (n:=(cf l n).natAbs) (k:=n) (h.cf n) (by omega);unfold ptT;rw[J2];split
  ·simp;omega
  ·rw[J2];simp;omega
def lX:Sp:=λvs H Q _=>∃(a:Addr) (ns:List Int),vs=[.ref a]/\H a=some (.lst (ns.map V.int))/\ns.length<=60/\AllB 1000 ns/\∀H',Same H H'->Q (.str (stL (plT ns))) H'
theorem Cs{f:Addr}{fd:FuncData}(F:Fun K "poly_text" "poly_text" j7 f fd)(T:Txt K mg){GS:Addr}{Gn:FuncData}(Jw:Cal P w K mg base 2 "term_text" ["size","place"] pZ GS Gn){G3:Addr}{GC:FuncData}(JH:Cal P w K mg base 1 "degree" ["row"] qI G3 GC):FnOk P w K mg base CX0 3 f fd ["row"] lX:=by
 obtain⟨yT,w5,xu,yE⟩:=Jw;obtain⟨yZ,xf,xA,yK⟩:=JH;refine F.ok sc_poly_text (λvs H Q E h=>?_) (λcdv A outer s H vs Q E hr h=>?_)
 ·obtain⟨a,ns,rfl,_⟩:=h;rfl
 ·obtain⟨a,ns,rfl,hA,hn,hb,k⟩:=h;have big:=sizeLine_eq;have hu:=hr.units;have p60:60<2^1000:=by decide +kernel
  refine⟨_,(af (aH (aF (B6 (K:=K) rfl hu) (pv 0) (ck ac) (aA _))
   (ag (aq ao))
   aJ)
   (af (ay (i:=1) sc_poly_text.nd rfl (Or.inl rfl) (iX (aF d7 (aw (bS (K:=K) rfl) (pv 0) (da cX ad) (λ_ _=>rfl)) ad (aA _)) ao ao))
   (af (ay (i:=1) sc_poly_text.nd rfl (Or.inl rfl) (aj aR (pv 1) (au yT (hr.mono) rfl w5 xu yE .nil ak (aa (aO lO (by rfl) T.abs_ PyProof.Rows.boot_abs (aa (aw (bS (K:=K) rfl) (pv 0) (da cX ad) (λ_ _=>rfl)) ac)) (aa (au yZ (hr.mono) rfl xf xA yK .nil ak (aa (pv 0) ac)) ac)))))
   (af (gF PassesOwn.never rfl (BN rfl T.range_ (aa (aj gJ (au yZ (hr.mono) rfl xf xA yK .nil ak (aa (pv 0) ac)) ad) (aa (da cX ad) (aa (da cX ad) ac)))) (dZ (i:=2) sc_poly_text.nd rfl (Or.inl rfl))
     (ag (aH (aF wA (aw (bS (K:=K) rfl) (pv 0) (pv 2) (λ_ _=>rfl)) ad (aA _))
       (ag (ay (i:=1) sc_poly_text.nd rfl (Or.inl rfl) (aj aR (aj aR (pv 1) (iX (aF d7 (aw (bS (K:=K) rfl) (pv 0) (pv 2) (λ_ _=>rfl)) ad (aA _)) ao ao)) (au yT (hr.mono) rfl w5 xu yE .nil ak (aa (aO lO (by rfl) T.abs_ PyProof.Rows.boot_abs (aa (aw (bS (K:=K) rfl) (pv 0) (pv 2) (λ_ _=>rfl)) ac)) (aa (pv 2) ac))))))
       aJ)))
   (ag (aq (pv 1))))))),?_⟩
  refine am ⟨_,rfl,Kj _,λp1 hp1=>?_⟩;have s1:Same H (upd H p1 (.lst [])):=Same.upd_new hp1;refine⟨a,p1,ns,[],rfl,rfl,SqL.of (s1 _ _ hA),SqL.of ap,_,rfl,ai (λh0=>?_) (λh0=>?_)⟩
  ·have h0':ns=[]:=h0;have:=k _ s1;unfold plT at this
   rw[if_pos h0',<- ji]at this;exact this
  have h0':ns≠[]:=h0;generalize upd H p1 (.lst [])=H1 at s1 ⊢
  have hl:=List.length_pos_iff.mpr h0';obtain⟨d,hd⟩:∃d,ns.length=d+1:=⟨ns.length-1,by omega⟩;have hd1:ns.length-1=d:=by omega
  have kk:∀H',Same H H'->Q (.str (stL ((if cf ns d<0 then[45]else[])++tmT (cf ns d).natAbs d++ptT ns d))) H':=λH' sm=>by
   have:=k H' sm;unfold plT at this
   rw[if_neg h0',hd1]at this;exact this
  have lt1:=oj (n:=(cf ns d).natAbs) (k:=d) (hb.cf d) (by omega);have lp:=wj hb d (by omega);have aL:atI (ns.map V.int) (-1)=some (.int (cf ns d)):=by rw[IQ h0',hd1]
  refine aC ⟨_,rfl,_,rfl,a,_,_,_,rfl,rfl,SqL.of (s1 _ _ hA),aL,_,_,rfl,rfl,_,rfl,ai (λh=>?_) (λh=>?_)⟩
  ·show cY _ _ _ _ _;refine hZ (λσ' H'=>∃pre:List Nat,σ'=[some (.ref a),some (.str (stL pre)),none]/\Same H H'/\pre=if cf ns d<0 then[45]else[]) ⟨[45],by rw[<- ey];rfl,s1,by rw[if_pos h]⟩ ?_;rintro σ' H2 ⟨pre,rfl,s2,hpre⟩;have hpl:pre.length<=1:=by rw[hpre];split<;>simp
   refine aC ⟨_,rfl,_,rfl,_,rfl,a,_,_,_,rfl,rfl,SqL.of (s2 _ _ hA),aL,_,rfl,?_⟩;rw[iG];refine⟨_,rfl,a,_,rfl,s2 _ _ hA,(cf ns d).natAbs,d,?_,hb.cf d,by omega,λH3 sm3=>?_⟩
   ·rw[J6,hd];have:((d+1:Nat):Int)-1=(d:Int):=by omega
    rw[this];rfl
   refine⟨_,_,rfl,rfl,by rw[ah,ah];omega,?_⟩;rw[ar];have s3:=s2.trans sm3;refine⟨_,rfl,a,_,rfl,s3 _ _ hA,_,_,rfl,rfl,_,rfl,_,rfl,(d:Int)-1,-1,?_,by omega,?_⟩
   ·rw[J6,hd];show[V.int (((d+1:Nat):Int)-1-1),V.int (-1),V.int (-1)]=_;rw[show((d+1:Nat):Int)-1-1=(d:Int)-1 by omega]
   have en:((d:Int)-1 - -1).toNat=d:=by omega
   rw[en];refine x8 (λi σ' H'=>∃(z2:Option V) (fs:List Nat),σ'=[some (.ref a),some (.str (stL fs)),z2]/\Same H H'/\fs++ptT ns (d-i)=pre++tmT (cf ns d).natAbs d++ptT ns d) ⟨none,_,rfl,s3,rfl⟩ ?_ ?_
   ·rintro i σ' H4 hi ⟨z2,fs,rfl,s4,hfs⟩;have ei:(d:Int)-1+(i:Int) * -1=((d-i-1:Nat):Int):=by omega
    obtain⟨e,he⟩:∃e,d-i=e+1:=⟨d-i-1,by omega⟩;have he1:d-i-1=e:=by omega
    have he2:d-(i+1)=e:=by omega
    rw[he1]at ei;rw[he2]
    have hfl:fs.length<=200000:=by have:=congrArg List.length hfs;rw[J2,J2,J2]at this;omega
    have aE:atI (ns.map V.int) ((d:Int)-1+(i:Int) * -1)=some (.int (cf ns e)):=uq ei (by omega);have lt2:=oj (n:=(cf ns e).natAbs) (k:=e) (hb.cf e) (by omega);refine cw ⟨_,rfl,_,rfl,a,_,_,_,rfl,rfl,SqL.of (s4 _ _ hA),aE,_,_,rfl,rfl,_,rfl,gE (λh1=>?_) (λh1=>?_)⟩
    ·have h1':¬cf ns e=0:=h1
     have hpt:ptT ns (d-i)=([32,if cf ns e<0 then 45 else 43,32]++tmT (cf ns e).natAbs e)++ptT ns e:=by rw[he];show(if cf ns e=0 then _ else _)++_=_;rw[if_neg h1']
     rw[hpt]at hfs;refine bJ ⟨_,rfl,_,rfl,_,rfl,a,_,_,_,rfl,rfl,SqL.of (s4 _ _ hA),aE,_,_,rfl,rfl,_,rfl,ai (λh2=>?_) (λh2=>?_)⟩
     ·refine⟨_,_,rfl,rfl,by rw[df,ah,ah];simp;omega,_,rfl,_,rfl,a,_,_,_,rfl,rfl,SqL.of (s4 _ _ hA),aE,_,rfl,_,rfl,(cf ns e).natAbs,e,by rw[iG,ei];rfl,hb.cf e,by omega,λH5 sm5=>?_⟩;refine⟨_,_,rfl,rfl,by rw[df,ar,ah,ah];simp;omega,_,fs++[32,45,32]++tmT (cf ns e).natAbs e,by rw[df,ar,ar];rfl,s4.trans sm5,?_⟩;rw[if_pos h2]at hfs;rw[<- hfs];simp
     ·refine⟨_,_,rfl,rfl,by rw[de,ah,ah];simp;omega,_,rfl,_,rfl,a,_,_,_,rfl,rfl,SqL.of (s4 _ _ hA),aE,_,rfl,_,rfl,(cf ns e).natAbs,e,by rw[iG,ei];rfl,hb.cf e,by omega,λH5 sm5=>?_⟩;refine⟨_,_,rfl,rfl,by rw[de,ar,ah,ah];simp;omega,_,fs++[32,43,32]++tmT (cf ns e).natAbs e,by rw[de,ar,ar];rfl,s4.trans sm5,?_⟩;rw[if_neg h2]at hfs;rw[<- hfs];simp
    ·have h1':cf ns e=0:=h1;refine⟨_,fs,rfl,s4,?_⟩;rw[<- hfs,he];show _=fs++((if cf ns e=0 then[]else _)++ptT ns e);rw[if_pos h1',Ko]
   ·rintro σ' H4 ⟨z2,fs,rfl,s4,hfs⟩;rw[Nat.sub_self]at hfs;have hfs':fs=pre++tmT (cf ns d).natAbs d++ptT ns d:=by rw[<- hfs];exact(Kk fs).symm
    refine⟨_,rfl,?_⟩;rw[hfs',hpre];exact kk _ s4
  ·show cY _ _ _ _ _;refine hZ (λσ' H'=>∃pre:List Nat,σ'=[some (.ref a),some (.str (stL pre)),none]/\Same H H'/\pre=if cf ns d<0 then[45]else[]) ⟨[],by rw[<- lE];rfl,s1,by rw[if_neg h]⟩ ?_;rintro σ' H2 ⟨pre,rfl,s2,hpre⟩;have hpl:pre.length<=1:=by rw[hpre];split<;>simp
   refine aC ⟨_,rfl,_,rfl,_,rfl,a,_,_,_,rfl,rfl,SqL.of (s2 _ _ hA),aL,_,rfl,?_⟩;rw[iG];refine⟨_,rfl,a,_,rfl,s2 _ _ hA,(cf ns d).natAbs,d,?_,hb.cf d,by omega,λH3 sm3=>?_⟩
   ·rw[J6,hd];have:((d+1:Nat):Int)-1=(d:Int):=by omega
    rw[this];rfl
   refine⟨_,_,rfl,rfl,by rw[ah,ah];omega,?_⟩;rw[ar];have s3:=s2.trans sm3;refine⟨_,rfl,a,_,rfl,s3 _ _ hA,_,_,rfl,rfl,_,rfl,_,rfl,(d:Int)-1,-1,?_,by omega,?_⟩
   ·rw[J6,hd];show[V.int (((d+1:Nat):Int)-1-1),V.int (-1),V.int (-1)]=_;rw[show((d+1:Nat):Int)-1-1=(d:Int)-1 by omega]
   have en:((d:Int)-1 - -1).toNat=d:=by omega
   rw[en];refine x8 (λi σ' H'=>∃(z2:Option V) (fs:List Nat),σ'=[some (.ref a),some (.str (stL fs)),z2]/\Same H H'/\fs++ptT ns (d-i)=pre++tmT (cf ns d).natAbs d++ptT ns d) ⟨none,_,rfl,s3,rfl⟩ ?_ ?_
   ·rintro i σ' H4 hi ⟨z2,fs,rfl,s4,hfs⟩;have ei:(d:Int)-1+(i:Int) * -1=((d-i-1:Nat):Int):=by omega
    obtain⟨e,he⟩:∃e,d-i=e+1:=⟨d-i-1,by omega⟩;have he1:d-i-1=e:=by omega
    have he2:d-(i+1)=e:=by omega
    rw[he1]at ei;rw[he2]
    have hfl:fs.length<=200000:=by have:=congrArg List.length hfs;rw[J2,J2,J2]at this;omega
    have aE:atI (ns.map V.int) ((d:Int)-1+(i:Int) * -1)=some (.int (cf ns e)):=uq ei (by omega);have lt2:=oj (n:=(cf ns e).natAbs) (k:=e) (hb.cf e) (by omega);refine cw ⟨_,rfl,_,rfl,a,_,_,_,rfl,rfl,SqL.of (s4 _ _ hA),aE,_,_,rfl,rfl,_,rfl,gE (λh1=>?_) (λh1=>?_)⟩
    ·have h1':¬cf ns e=0:=h1
     have hpt:ptT ns (d-i)=([32,if cf ns e<0 then 45 else 43,32]++tmT (cf ns e).natAbs e)++ptT ns e:=by rw[he];show(if cf ns e=0 then _ else _)++_=_;rw[if_neg h1']
     rw[hpt]at hfs;refine bJ ⟨_,rfl,_,rfl,_,rfl,a,_,_,_,rfl,rfl,SqL.of (s4 _ _ hA),aE,_,_,rfl,rfl,_,rfl,ai (λh2=>?_) (λh2=>?_)⟩
     ·refine⟨_,_,rfl,rfl,by rw[df,ah,ah];simp;omega,_,rfl,_,rfl,a,_,_,_,rfl,rfl,SqL.of (s4 _ _ hA),aE,_,rfl,_,rfl,(cf ns e).natAbs,e,by rw[iG,ei];rfl,hb.cf e,by omega,λH5 sm5=>?_⟩;refine⟨_,_,rfl,rfl,by rw[df,ar,ah,ah];simp;omega,_,fs++[32,45,32]++tmT (cf ns e).natAbs e,by rw[df,ar,ar];rfl,s4.trans sm5,?_⟩;rw[if_pos h2]at hfs;rw[<- hfs];simp
     ·refine⟨_,_,rfl,rfl,by rw[de,ah,ah];simp;omega,_,rfl,_,rfl,a,_,_,_,rfl,rfl,SqL.of (s4 _ _ hA),aE,_,rfl,_,rfl,(cf ns e).natAbs,e,by rw[iG,ei];rfl,hb.cf e,by omega,λH5 sm5=>?_⟩;refine⟨_,_,rfl,rfl,by rw[de,ar,ah,ah];simp;omega,_,fs++[32,43,32]++tmT (cf ns e).natAbs e,by rw[de,ar,ar];rfl,s4.trans sm5,?_⟩;rw[if_neg h2]at hfs;rw[<- hfs];simp
    ·have h1':cf ns e=0:=h1;refine⟨_,fs,rfl,s4,?_⟩;rw[<- hfs,he];show _=fs++((if cf ns e=0 then[]else _)++ptT ns e);rw[if_pos h1',Ko]
   ·rintro σ' H4 ⟨z2,fs,rfl,s4,hfs⟩;rw[Nat.sub_self]at hfs;have hfs':fs=pre++tmT (cf ns d).natAbs d++ptT ns d:=by rw[<- hfs];exact(Kk fs).symm
    refine⟨_,rfl,?_⟩;rw[hfs',hpre];exact kk _ s4
inductive Kd |wh |na |gi |mi |su |le |ti |ov |po |ro
 deriving DecidableEq
noncomputable def kdP:PT->Kd
 |.whole _=>.wh |.named _=>.na |.given _ _ _=>.gi |.minus _=>.mi |.sum _ _=>.su |.less _ _=>.le |.times _ _=>.ti |.over _ _=>.ov |.power _ _=>.po |.rooted _ _=>.ro
noncomputable def TC.at(tc:TC):Kd->Addr
 |.wh=>tc.wh |.na=>tc.na |.gi=>tc.gi |.mi=>tc.mi |.su=>tc.su |.le=>tc.le |.ti=>tc.ti |.ov=>tc.ov |.po=>tc.po |.ro=>tc.ro
theorem zB:¬(("text":Str)="value"):=by decide +kernel
theorem zA:¬(("text":Str)="word"):=by decide +kernel
theorem iP:¬(("text":Str)="one"):=by decide +kernel
theorem ol:¬(("text":Str)="other"):=by decide +kernel
theorem vv:¬(("text":Str)="power"):=by decide +kernel
theorem zD:¬(("text":Str)="poly"):=by decide +kernel
theorem zE:¬(("text":Str)="low"):=by decide +kernel
theorem zF:¬(("text":Str)="high"):=by decide +kernel
theorem tK{a b:Str}(h:¬b=a)(x:V):(f1 a x).lookup b=none:=by unfold f1;rw[ba,if_neg h];rfl
theorem lJ{a c b:Str}(h:¬b=a)(h2:¬b=c)(x y:V):(f2 a c x y).lookup b=none:=by unfold f2;rw[ba,if_neg h2,ba,if_neg h];rfl
theorem PtH.ins{tc:TC}{av:Addr}{H:Hp}:∀{t:PT} {q:Addr},PtH tc av H t q->∃(dx:Addr) (fs:List (Str×V)),H q=some (.ins (tc.at (kdP t)) dx fs)/\fs.lookup ("text":Str)=none
 |.whole _,_,⟨_,dx,e⟩=>⟨dx,_,e,tK zB _⟩
 |.named _,_,⟨_,dx,e⟩=>⟨dx,_,e,tK zA _⟩
 |.given _ _ _,_,⟨_,dx,pk,pl,ph,e,_⟩=>⟨dx,_,e,by unfold cy;rw[ba,if_neg zF,ba,if_neg zE,ba,if_neg zD];rfl⟩
 |.minus _,_,⟨_,dx,_,e,_⟩=>⟨dx,_,e,tK iP _⟩
 |.power _ _,_,⟨_,dx,_,e,_⟩=>⟨dx,_,e,lJ iP vv _ _⟩
 |.rooted _ _,_,⟨_,dx,_,e,_⟩=>⟨dx,_,e,lJ iP vv _ _⟩
 |.sum _ _,_,⟨_,dx,_,_,e,_⟩=>⟨dx,_,e,lJ iP ol _ _⟩
 |.less _ _,_,⟨_,dx,_,_,e,_⟩=>⟨dx,_,e,lJ iP ol _ _⟩
 |.times _ _,_,⟨_,dx,_,_,e,_⟩=>⟨dx,_,e,lJ iP ol _ _⟩
 |.over _ _,_,⟨_,dx,_,_,e,_⟩=>⟨dx,_,e,lJ iP ol _ _⟩
def di(tc:TC)(κ:Kd)(n:Nat):Sp:=λvs H Q _=>∃(av q:Addr) (t:PT),vs=[.ref q]/\kdP t=κ/\PtH tc av H t q/\OkT t/\t.hgt<=n/\(tx t).length<=200/\∀H',Same H H'->Q (.str (stL (tx t))) H'
def TxA(P:Program)(w:World)(K:PySem.W.Frag)(mg:Str->Option Value)(base:Heap)(tc:TC)(k n:Nat):Prop:=∀κ,Cls K (tc.at κ)/\∃ps f fd,MCal P w K mg base k (tc.at κ) "text" ps (di tc κ n) f fd
def zI(tc:TC)(n:Nat)(ta:TE):TE:=λσ H Q=>ta σ H λx H1=>∃(av q:Addr) (t:PT),x=.ref q/\PtH tc av H1 t q/\OkT t/\t.hgt<=n/\(tx t).length<=200/\∀H',Same H1 H'->Q (.str (stL (tx t))) H'
theorem mw{X:Cx}{o:Expr}{ta:TE}{apos pos:Pos}{tc:TC}{k n:Nat}{pl:Sem Bool}(he:PE X o ta)(D:TxA X.prog X.w X.K X.mg X.base tc k n)(hr:Room k X.A)
 (ht:eval (.Call (.Attribute o "text" apos) [] [] pos) X.env=(do
   let ov <- eval o X.env
   standAt apos.atName
   let(f,first) <- holding [ov] (getMethod ov "text" pl)
   callWith pos f first (backTo pos (starEach [] X.env)) (backToKw pos (keywordEach [] X.env))):=by rfl) :
 PE X (.Call (.Attribute o "text" apos) [] [] pos) (zI tc n ta):=by
 intro pins s σ H Q I h;refine PySem.W.methodCall_KW (pl:=pl) (thn (he pins s σ H _ I h) λu s1 ⟨x,H1,I1,rx,av,a,t,ex,hP,hO,hh,hl,q⟩=>?_) ht;subst ex;obtain rfl:u=Value.ref a:=rx;obtain⟨c,ps,f,fd,M⟩:=D (kdP t);obtain⟨dx,fs,ea,l⟩:=hP.ins;refine sF I1 ea c M.mt l ?_;exact PySem.W.callWith_K0 (first:=[.ref a]) I1.kIn M.mt.kp (oE (us:=[.ref a]) (vs:=[.ref a]) (E:=λ_ _ _=>False) M.ok hr M.bd .nil ak I1 (.cons rfl .nil) ⟨av,a,t,rfl,rfl,hP,hO,hh,hl,q⟩)
structure CA(K:PySem.W.Frag)(C:Addr):Prop where
 cl:Cls K C
 ha:PySem.W.findIn K (.ref C) "__class__"=some (some (.builtin "object.__class__"))
 hn:PySem.W.specialIn K (.builtin "object.__class__") "__get__"=some (some (.builtin "getset_descriptor.__get__"))
 ht:PySem.W.takesIn K (.builtin "object.__class__")=some true
 hm:PySem.W.mroIn K C (.type "object")=some true
theorem _root_.L2.PCI.ca{C:Addr}{x:Str}{fs:List Str}(r:PCI K mg C x fs):CA K C:=⟨r.cl,r.ha,r.hn,r.ht,r.hm⟩
theorem GCI.ca{C:Addr}(r:GCI K mg C):CA K C:=⟨r.cl,r.ha,r.hn,r.ht,r.hm⟩
structure CsA(K:PySem.W.Frag)(tc:TC):Prop where
 ca:∀κ,CA K (tc.at κ)
 ii:∀κ κ':Kd,PySem.W.kitOne K (.ref (tc.at κ)) (.ref (tc.at κ'))=some (decide (κ=κ'))
theorem eJ{tc:TC}(A:CsA K tc){av:Addr}{H:Hp}{t:PT}{q:Addr}(h:PtH tc av H t q)(κ:Kd){C:Addr}(e:tc.at κ=C){Q:VK}(k:Q (.bl (decide (kdP t=κ))) H):iV K [.ref q,.ref C] H Q:=by obtain⟨dx,fs,ea,_⟩:=h.ins;have a:=A.ca (kdP t);subst e;exact dB (.ins ea a.cl a.ha a.hn a.ht a.hm) (A.ii _ _) k
def gb(tc:TC)(r:Nat):Sp:=λvs H Q _=>∃(av q:Addr) (t:PT),vs=[.ref q]/\PtH tc av H t q/\Q (.bl (decide (rk t=r))) H
theorem CB{tc:TC}{CSum CLess f:Addr}{fd:FuncData}(F:Fun K "is_sum" "is_sum" gm f fd)(T:Txt K mg)(RSum:PCI K mg CSum "Sum" ["one","other"])(RLess:PCI K mg CLess "Less" ["one","other"])(e1:tc.su=CSum)(e2:tc.le=CLess)(A:CsA K tc):FnOk P w K mg base CX0 1 f fd ["tree"] (gb tc 0):=by
 refine F.ok Az (λvs H Q E h=>?_) (λcdv A' outer s H vs Q E hr h=>?_)
 ·obtain⟨av,q,t,rfl,_⟩:=h;rfl
 ·obtain⟨av,q,t,rfl,hP,k⟩:=h;refine⟨_,(ag (aq (fQ (aO (bH (K:=K) rfl) (by rfl) T.isinstance_ PyProof.Rows.boot_isinstance (aa (pv 0) (aa (br (v:=.ref CSum) rfl RSum.mg rfl) ac))) (bq (aO (bH (K:=K) rfl) (by rfl) T.isinstance_ PyProof.Rows.boot_isinstance (aa (pv 0) (aa (br (v:=.ref CLess) rfl RLess.mg rfl) ac))))))),?_⟩;refine aG (cv (bw ⟨_,rfl,eJ A hP .su e1 ⟨_,rfl,?_⟩⟩));cases t with
  |sum a b=>exact aN k
  |less a b=>exact aM (bw ⟨_,rfl,eJ A hP .le e2 k⟩)
  |_=>exact aM (bw ⟨_,rfl,eJ A hP .le e2 k⟩)
theorem CC{tc:TC}{CTimes COver f:Addr}{fd:FuncData}(F:Fun K "is_product" "is_product" gp f fd)(T:Txt K mg)(RTimes:PCI K mg CTimes "Times" ["one","other"])(ROver:PCI K mg COver "Over" ["one","other"])(e1:tc.ti=CTimes)(e2:tc.ov=COver)(A:CsA K tc):FnOk P w K mg base CX0 1 f fd ["tree"] (gb tc 1):=by
 refine F.ok AB (λvs H Q E h=>?_) (λcdv A' outer s H vs Q E hr h=>?_)
 ·obtain⟨av,q,t,rfl,_⟩:=h;rfl
 ·obtain⟨av,q,t,rfl,hP,k⟩:=h;refine⟨_,(ag (aq (fQ (aO (bH (K:=K) rfl) (by rfl) T.isinstance_ PyProof.Rows.boot_isinstance (aa (pv 0) (aa (br (v:=.ref CTimes) rfl RTimes.mg rfl) ac))) (bq (aO (bH (K:=K) rfl) (by rfl) T.isinstance_ PyProof.Rows.boot_isinstance (aa (pv 0) (aa (br (v:=.ref COver) rfl ROver.mg rfl) ac))))))),?_⟩;refine aG (cv (bw ⟨_,rfl,eJ A hP .ti e1 ⟨_,rfl,?_⟩⟩));cases t with
  |times a b=>exact aN k
  |over a b=>exact aM (bw ⟨_,rfl,eJ A hP .ov e2 k⟩)
  |_=>exact aM (bw ⟨_,rfl,eJ A hP .ov e2 k⟩)
theorem CF{tc:TC}{CWhole CNamed CGiven CRooted f:Addr}{fd:FuncData}(F:Fun K "is_atom" "is_atom" gq f fd)(T:Txt K mg)(RWhole:PCI K mg CWhole "Whole" ["value"])(RNamed:PCI K mg CNamed "Named" ["word"])(RGiven:GCI K mg CGiven)(RRooted:PCI K mg CRooted "Rooted" ["one","power"])(e1:tc.wh=CWhole)(e2:tc.na=CNamed)(e3:tc.gi=CGiven)(e4:tc.ro=CRooted)(A:CsA K tc):FnOk P w K mg base CX0 1 f fd ["tree"] (gb tc 4):=by
 refine F.ok AD (λvs H Q E h=>?_) (λcdv A' outer s H vs Q E hr h=>?_)
 ·obtain⟨av,q,t,rfl,_⟩:=h;rfl
 ·obtain⟨av,q,t,rfl,hP,k⟩:=h;refine⟨_,(ag (aq (fQ (aO (bH (K:=K) rfl) (by rfl) T.isinstance_ PyProof.Rows.boot_isinstance (aa (pv 0) (aa (br (v:=.ref CWhole) rfl RWhole.mg rfl) ac))) (fQ (aO (bH (K:=K) rfl) (by rfl) T.isinstance_ PyProof.Rows.boot_isinstance (aa (pv 0) (aa (br (v:=.ref CNamed) rfl RNamed.mg rfl) ac))) (fQ (aO (bH (K:=K) rfl) (by rfl) T.isinstance_ PyProof.Rows.boot_isinstance (aa (pv 0) (aa (br (v:=.ref CGiven) rfl RGiven.mg rfl) ac))) (bq (aO (bH (K:=K) rfl) (by rfl) T.isinstance_ PyProof.Rows.boot_isinstance (aa (pv 0) (aa (br (v:=.ref CRooted) rfl RRooted.mg rfl) ac))))))))),?_⟩;refine aG (cv (bw ⟨_,rfl,eJ A hP .wh e1 ⟨_,rfl,?_⟩⟩));by_cases h1:kdP t=.wh
  ·rw[decide_eq_true h1];rw[decide_eq_true (show rk t=4 by cases t<;>first |rfl |cases h1)]at k;exact aN k
  rw[decide_eq_false h1];refine aM (cv (bw ⟨_,rfl,eJ A hP .na e2 ⟨_,rfl,?_⟩⟩));by_cases h2:kdP t=.na
  ·rw[decide_eq_true h2];rw[decide_eq_true (show rk t=4 by cases t<;>first |rfl |cases h2)]at k;exact aN k
  rw[decide_eq_false h2];refine aM (cv (bw ⟨_,rfl,eJ A hP .gi e3 ⟨_,rfl,?_⟩⟩));by_cases h3:kdP t=.gi
  ·rw[decide_eq_true h3];rw[decide_eq_true (show rk t=4 by cases t<;>first |rfl |cases h3)]at k;exact aN k
  rw[decide_eq_false h3];refine aM (bw ⟨_,rfl,eJ A hP .ro e4 ?_⟩)
  rw[show decide (kdP t=Kd.ro)=decide (rk t=4) by
   cases t with
   |whole=>exact absurd rfl h1
   |named=>exact absurd rfl h2
   |given=>exact absurd rfl h3
   |_=>rfl]
  exact k
theorem iN(v:Int):txt v=stL (inT v):=by
 unfold inT;by_cases h:v<0
 ·rw[if_pos h,vk h]
 ·rw[if_neg h];have:v=((v.natAbs:Nat):Int):=by omega
  rw[this,cM];rfl
def iR(tc:TC)(n:Nat):Sp:=λvs H Q _=>∃(av q:Addr) (t:PT) (b:Bool),vs=[.ref q,.bl b]/\PtH tc av H t q/\OkT t/\t.hgt<=n/\(tx t).length<=200/\∀H',Same H H'->Q (.str (stL (if b then tx t else 40::(tx t++[41])))) H'
theorem B8{tc:TC}{k n:Nat}{f:Addr}{fd:FuncData}(F:Fun K "within" "within" gc f fd)(T:Txt K mg)(D_text:TxA P w K mg base tc k n):FnOk P w K mg base CX0 (k+1) f fd ["tree","bare"] (iR tc n):=by
 refine F.ok Aq (λvs H Q E h=>?_) (λcdv A outer s H vs Q E hr h=>?_)
 ·obtain⟨av,q,t,b,rfl,_⟩:=h;rfl
 ·obtain⟨av,q,t,b,rfl,hP,hO,hh,hl,kk⟩:=h;have big:=sizeLine_eq
  refine⟨_,(af (aH (bB (pv 1))
   (ag (aq (mw (pv 0) D_text (hr.mono (by omega)))))
   aJ)
   (ag (aq (aj aR (aj aR ao (mw (pv 0) D_text (hr.mono (by omega)))) ao)))),?_⟩
  refine am ⟨_,rfl,b,rfl,?_⟩;cases b with
  |true=>exact aN (aG ⟨_,rfl,av,q,t,rfl,hP,hO,hh,hl,kk⟩)
  |false =>
   refine aM (aG ⟨_,rfl,av,q,t,rfl,hP,hO,hh,hl,λH' s'=>⟨_,_,rfl,rfl,?_,_,_,rfl,rfl,?_,?_⟩⟩)
   ·rw[jh,ah,ah];simp;omega
   ·rw[jh,eD,ar,ah,ah];simp;omega
   ·rw[jh,eD,ar,ar];have:=kk H' s';rw[if_neg (by decide)]at this;exact this
theorem jK{t:PT}{r:Nat}{b:Bool}(h:b=decide (r<=rk t))(l:List Nat):(if b then l else 40::(l++[41]))=wn r t l:=by
 unfold wn;by_cases e:rk t<r
 ·rw[if_pos e,h,decide_eq_false (by omega),if_neg (by decide)]
 ·rw[if_neg e,h,decide_eq_true (by omega),if_pos rfl]
theorem fM(t:PT)(r:Nat)(l:List Nat):l.length<=(wn r t l).length/\(wn r t l).length<=l.length+2:=by
 unfold wn;split
 ·simp;omega
 ·simp
theorem Bb(t:PT):rk t<=4:=by cases t<;>simp[rk]
def qq(tc:TC)(n:Nat):Sp:=λvs H Q _=>∃(av q q2:Addr) (t t2:PT) (m:Nat),vs=[.ref q,.str (stL [m]),.ref q2]/\PtH tc av H t q/\PtH tc av H t2 q2/\OkT t/\OkT t2/\t.hgt<=n/\t2.hgt<=n/\(wn 1 t (tx t)++m::wn 2 t2 (tx t2)).length<=200/\∀H',Same H H'->Q (.str (stL (wn 1 t (tx t)++m::wn 2 t2 (tx t2)))) H'
theorem rk3(t:PT)(h:¬rk t=4):decide (kdP t=.po)=decide (3<=rk t):=by cases t<;>first |rfl |exact absurd rfl h
theorem Cr{tc:TC}{k n:Nat}{f:Addr}{fd:FuncData}(F:Fun K "product_text" "product_text" gk f fd)(T:Txt K mg)(hk:1<=k){cK:Addr}{cJ:FuncData}(C_within:Cal P w K mg base (k+1) "within" ["tree","bare"] (iR tc n) cK cJ){gU:Addr}{gR:FuncData}(C_is_sum:Cal P w K mg base 1 "is_sum" ["tree"] (gb tc 0) gU gR){nF:Addr}{nj:FuncData}(C_is_product:Cal P w K mg base 1 "is_product" ["tree"] (gb tc 1) nF nj):FnOk P w K mg base CX0 (k+2) f fd ["one","mark","other"] (qq tc n):=by
 obtain⟨dH,dw,dA,dG⟩:=C_within;obtain⟨lT,lC,lG,lP⟩:=C_is_sum;obtain⟨Jh,El,E7,Ii⟩:=C_is_product;refine F.ok sc_product_text (λvs H Q E h=>?_) (λcdv A outer s H vs Q E hr h=>?_)
 ·obtain⟨av,q,q2,t,t2,m,rfl,_⟩:=h;rfl
 ·obtain⟨av,q,q2,t,t2,m,rfl,hP,hP2,hO,hO2,hh,hh2,hl,kk⟩:=h;have big:=sizeLine_eq;obtain⟨a1,a2⟩:=fM t 1 (tx t);obtain⟨b1,b2⟩:=fM t2 2 (tx t2);rw[J2,J4]at hl
  refine⟨_,(af (ay (i:=3) sc_product_text.nd rfl (Or.inl rfl) (au dH (hr.mono (by omega)) rfl dw dA dG .nil ak (aa (pv 0) (aa (lq (au lT (hr.mono (by omega)) rfl lC lG lP .nil ak (aa (pv 0) ac))) ac))))
   (ag (aq (aj aR (aj aR (pv 3) (pv 1)) (au dH (hr.mono (by omega)) rfl dw dA dG .nil ak (aa (pv 2) (aa (bx (lq (au lT (hr.mono (by omega)) rfl lC lG lP .nil ak (aa (pv 2) ac))) (bq (lq (au Jh (hr.mono (by omega)) rfl El E7 Ii .nil ak (aa (pv 2) ac))))) ac))))))),?_⟩
  refine aC ⟨_,rfl,_,rfl,av,q,t,rfl,hP,_,rfl,av,q,t,_,rfl,hP,hO,hh,by omega,λH1 s1=>?_⟩;rw[jK (t:=t) (r:=1) (b:=!decide (rk t=0)) (by rw[<- decide_not,decide_eq_decide];omega)];refine aG ⟨_,rfl,_,rfl,_,_,rfl,rfl,?_,_,rfl,?_⟩
  ·rw[ah];show _+(stL [m]).length<=_;rw[ah];simp;omega
  have fin:∀(b:Bool),b=decide (2<=rk t2)->∀H2,Same H1 H2->(∃i j:Str,V.str (stL (wn 1 t (tx t))++stL [m])=.str i/\V.str (stL (if b then tx t2 else 40::(tx t2++[41])))=.str j/\i.length+j.length<=sizeLine/\Q (.str (i++j)) H2):=λb hb H2 s2=>by
   rw[jK hb];refine⟨_,_,rfl,rfl,?_,?_⟩
   ·rw[ar,ah,ah];simp;omega
   ·rw[ar,ar,J5];exact kk H2 (s1.trans s2)
  refine aV ⟨_,rfl,av,q2,t2,rfl,hP2.same s1,_,rfl,_,rfl,?_⟩;by_cases h0:rk t2=0
  ·rw[decide_eq_true h0];exact aM ⟨av,q2,t2,false,rfl,hP2.same s1,hO2,hh2,by omega,fin false (by rw[h0];rfl)⟩
  ·rw[decide_eq_false h0];exact aN ⟨_,rfl,av,q2,t2,rfl,hP2.same s1,_,rfl,av,q2,t2,_,rfl,hP2.same s1,hO2,hh2,by omega,fin (!decide (rk t2=1)) (by rw[<- decide_not,decide_eq_decide];omega)⟩
theorem fW(a:Str)(x:V):(f1 a x).lookup a=some x:=by unfold f1;rw[ba,if_pos rfl]
theorem cH(a b:Str)(x y:V):(f2 a b x y).lookup b=some y:=by unfold f2;rw[ba,if_pos rfl]
theorem cT{a b:Str}(h:¬a=b)(x y:V):(f2 a b x y).lookup a=some x:=by unfold f2;rw[ba,if_neg h,ba,if_pos rfl]
theorem ly:¬(("one":Str)="power"):=by decide +kernel
theorem ij:¬(("one":Str)="other"):=by decide +kernel
theorem AllB.of_cf{k:Nat}{l:List Int}(h:∀n,Bits k (RM.cf l n)):AllB k l:=λx hx=>by obtain⟨i,hi,e⟩:=List.getElem_of_mem hx;have:=h i;rw[lL hi,e]at this;exact this
theorem md{x:Int}(h:x.natAbs<100):Bits 1000 x:=Bits.mono (j:=64) (Kz h (by decide)) (by decide)
theorem la(a:Int):rt a 1=a/\rb a 1=1:=by
 have h1:=lg (t:=a) (b:=1) (by decide);have h2:=mj (t:=a) (b:=1) (by decide)
 have e:dv a 1=1:=by have:dv a 1=((Nat.gcd a.natAbs 1:Nat):Int):=rfl;rw[this,Nat.gcd_one_right];rfl
 rw[e,Int.one_mul]at h1 h2;exact⟨h2,h1⟩
theorem v4{a:Int}(h:a%2=1):rt a 2=a/\rb a 2=2:=by
 have h1:=lg (t:=a) (b:=2) (by decide);have h2:=mj (t:=a) (b:=2) (by decide)
 have e:dv a 2=1:=by
  have:dv a 2=((Nat.gcd a.natAbs 2:Nat):Int):=rfl
  have g:Nat.gcd a.natAbs 2=1:=by rw[Nat.gcd_comm,Nat.gcd_rec,show a.natAbs%2=1 by omega];rfl
  rw[this,g];rfl
 rw[e,Int.one_mul]at h1 h2;exact⟨h2,h1⟩
theorem zC:¬(("text":Str)="top"):=by decide +kernel
theorem zG:¬(("text":Str)="bottom"):=by decide +kernel
theorem yb(t b:Int):(gP t b).lookup ("text":Str)=none:=by unfold gP;rw[ba,if_neg zG,ba,if_neg zC];rfl
theorem jc{n:Nat}(h:n<100):(al n).length<=2:=oM 1 n h
theorem mW{v:Int}(h:v.natAbs<100):(inT v).length<=3:=by
 have:=jc h;unfold inT;split
 ·rw[J4];omega
 ·omega
def lW(C:Addr):Sp:=λvs H Q _=>∃(r:Addr) (t b:Int),vs=[.ref r]/\RA C H r t b/\t.natAbs<100/\(b=1\/b=2)/\∀H',Same H H'->Q (.str (stL (frT (t,b)))) H'
theorem Dl{CRatio f:Addr}{fd:FuncData}(F:Fun K "text" "Ratio.text" kQ f fd)(T:Txt K mg)(RRatio:RCI K mg CRatio){fc:Addr}{eM:FuncData}(dI:Cal P w K mg base 1 "whole_text" ["value"] hJ fc eM):FnOk P w K mg base CX0 2 f fd ["self"] (lW CRatio):=by
 obtain⟨fH,ef,eI,fF⟩:=dI;refine F.ok AZ (λvs H Q E h=>?_) (λcdv A outer s H vs Q E hr h=>?_)
 ·obtain⟨r,t,b,rfl,_⟩:=h;rfl
 ·obtain⟨r,t,b,rfl,⟨dx,hr'⟩,ht,hb,kk⟩:=h;have big:=sizeLine_eq;have l1:=mW ht
  refine⟨_,(af (aH (aF bL (aK (K:=K) rfl (pv 0) rfl) ad (aA _))
   (ag (aq (au fH (hr.mono) rfl ef eI fF .nil ak (aa (aK (K:=K) rfl (pv 0) rfl) ac))))
   aJ)
   (ag (aq (aj aR (aj aR (au fH (hr.mono) rfl ef eI fF .nil ak (aa (aK (K:=K) rfl (pv 0) rfl) ac)) ao) (au fH (hr.mono) rfl ef eI fF .nil ak (aa (aK (K:=K) rfl (pv 0) rfl) ac)))))),?_⟩
  refine am ⟨_,rfl,r,CRatio,dx,_,_,rfl,hr',RRatio.cl,RRatio.nB,mY _ _,_,_,rfl,rfl,_,rfl,ai (λh1=>?_) (λh1=>?_)⟩
  ·have h1':b=1:=h1;refine aG ⟨_,rfl,r,CRatio,dx,_,_,rfl,hr',RRatio.cl,RRatio.nT,py _ _,t,rfl,md ht,λH1 s1=>?_⟩;have:=kk H1 s1;unfold frT at this
   rw[if_pos (show(t,b).2=1 from h1'),Kk]at this;rw[iN];exact this
  ·have h1':¬b=1:=h1;have hb':b.natAbs<100:=by omega
   have l2:=jc hb';refine aG ⟨_,rfl,r,CRatio,dx,_,_,rfl,hr',RRatio.cl,RRatio.nT,py _ _,t,rfl,md ht,λH1 s1=>?_⟩;refine⟨_,_,rfl,rfl,?_,_,rfl,r,CRatio,dx,_,_,rfl,s1 _ _ hr',RRatio.cl,RRatio.nB,mY _ _,b,rfl,md hb',λH2 s2=>⟨_,_,rfl,rfl,?_,?_⟩⟩
   ·rw[iN,jg,ah,ah];simp;omega
   ·have l3:=mW hb';rw[iN,iN,jg,ar,ah,ah];simp;omega
   ·have:=kk H2 (s1.trans s2);unfold frT at this
    rw[if_neg (show ¬(t,b).2=1 from h1')]at this;rw[iN,iN,jg,ar,ar,J5];have e:inT b=al b.natAbs:=by unfold inT;rw[if_neg (by omega)]
    rw[e];exact this
theorem C4{tc:TC}{k n:Nat}{CWhole f:Addr}{fd:FuncData}(F:Fun K "text" "Whole.text" gu f fd)(T:Txt K mg)(RWhole:PCI K mg CWhole "Whole" ["value"])(e:tc.wh=CWhole){fc:Addr}{eM:FuncData}(dI:Cal P w K mg base 1 "whole_text" ["value"] hJ fc eM):FnOk P w K mg base CX0 (k+3) f fd ["self"] (di tc .wh (n+1)):=by
 obtain⟨fH,ef,eI,fF⟩:=dI;refine F.ok vU (λvs H Q E h=>?_) (λcdv A outer s H vs Q E hr h=>?_)
 ·obtain⟨av,q,t,rfl,_⟩:=h;rfl
 ·obtain⟨av,q,t,rfl,hκ,hP,hO,hh,hl,kk⟩:=h;refine⟨_,(ag (aq (au fH (hr.mono (by omega)) rfl ef eI fF .nil ak (aa (aK (K:=K) rfl (pv 0) rfl) ac)))),?_⟩;cases t with
  |whole m =>
   obtain⟨_,dx,hq⟩:=hP;rw[e]at hq;refine aG ⟨_,rfl,q,CWhole,dx,_,_,rfl,hq,RWhole.cl,RWhole.na "value" (by simp),fW _ _,(m:Int),rfl,?_,λH' s'=>?_⟩
   ·exact gL (Kz (show m<10^30 from hO) (by decide +kernel))
   ·rw[cM];exact kk H' s'
  |_=>cases hκ
theorem Ds{tc:TC}{k n:Nat}{CNamed f:Addr}{fd:FuncData}(F:Fun K "text" "Named.text" gA f fd)(T:Txt K mg)(RNamed:PCI K mg CNamed "Named" ["word"])(e:tc.na=CNamed):FnOk P w K mg base CX0 (k+3) f fd ["self"] (di tc .na (n+1)):=by
 refine F.ok vZ (λvs H Q E h=>?_) (λcdv A outer s H vs Q E hr h=>?_)
 ·obtain⟨av,q,t,rfl,_⟩:=h;rfl
 ·obtain⟨av,q,t,rfl,hκ,hP,hO,hh,hl,kk⟩:=h;refine⟨_,(ag (aq (aK (K:=K) rfl (pv 0) rfl))),?_⟩;cases t with
  |named m =>obtain⟨_,dx,hq⟩:=hP;rw[e]at hq;exact aG ⟨_,rfl,q,CNamed,dx,_,_,rfl,hq,RNamed.cl,RNamed.na "word" (by simp),fW _ _,kk H (Same.refl _)⟩
  |_=>cases hκ
theorem cR:(Str.ofString "root(":Str)=stL (wRoot++[40]):=by decide +kernel
theorem dy:(Str.ofString ", ":Str)=stL [44,32]:=by decide +kernel
theorem Dy{tc:TC}{k n:Nat}{CGiven CRatio f:Addr}{fd:FuncData}(F:Fun K "text" "Given.text" gD f fd)(T:Txt K mg)(RGiven:GCI K mg CGiven)(RRatio:RCI K mg CRatio)(e:tc.gi=CGiven)(ea:tc.ra=CRatio)(hk:1<=k){nE:Addr}{ni:FuncData}(oa:Cal P w K mg base 3 "poly_text" ["row"] lX nE ni){nJ:Addr}{nv:FuncData}(oh:MCal P w K mg base 2 CRatio "text" ["self"] (lW CRatio) nJ nv):FnOk P w K mg base CX0 (k+3) f fd ["self"] (di tc .gi (n+1)):=by
 obtain⟨Je,Ei,E4,Ie⟩:=oa;obtain⟨y6,wL,yP⟩:=oh;refine F.ok v3 (λvs H Q E h=>?_) (λcdv A outer s H vs Q E hr h=>?_)
 ·obtain⟨av,q,t,rfl,_⟩:=h;rfl
 ·obtain⟨av,q,t,rfl,hκ,hP,hO,hh,hl,kk⟩:=h;have big:=sizeLine_eq;refine⟨_,(ag (aq (aj aR (aj aR (aj aR (aj aR (aj aR (aj aR ao (au Je (hr.mono (by omega)) rfl Ei E4 Ie .nil ak (aa (aK (K:=K) rfl (pv 0) rfl) ac))) ao) (bi (aK (K:=K) rfl (pv 0) rfl) RRatio.cl wL y6 (hr.mono (by omega)) yP .nil ak)) ao) (bi (aK (K:=K) rfl (pv 0) rfl) RRatio.cl wL y6 (hr.mono (by omega)) yP .nil ak)) ao))),?_⟩;cases t with
  |given kp l h =>
   obtain⟨_,dx,pk,pl,ph,hq,_,ek,_,hRl,_,hRh⟩:=hP;rw[e]at hq;rw[ea]at hRl hRh;have g:OkG kp l h:=hO;obtain⟨l1,l2⟩:=l;obtain⟨h1,h2⟩:=h;have el2:l2=1:=g.l1;subst el2
   have hL:RA CRatio H pl l1 1:=by have:=hRl;rw[(la l1).1,(la l1).2]at this;exact this
   have hH:RA CRatio H ph h1 h2:=by
    have:=hRh;rcases g.h2 with z |⟨z,z2⟩
    ·have z':h2=1:=z;subst z';rw[(la h1).1,(la h1).2]at this;exact this
    ·have z':h2=2:=z;subst z';rw[(v4 z2).1,(v4 z2).2]at this;exact this
   have h12:h2=1\/h2=2:=g.h2.imp id (·.1)
   have hl':(plT kp).length+(frT (l1,1)).length+(frT (h1,h2)).length<=200:=by have:(wRoot++40::(plT kp++44::32::(frT (l1,1)++46::46::(frT (h1,h2)++[41])))).length<=200:=hl;simp only[J2,J4]at this;omega
   have w4:wRoot.length=4:=rfl;refine aG ⟨_,rfl,q,CGiven,dx,_,_,rfl,hq,RGiven.cl,RGiven.nP,pz _ _ _,pk,kp,rfl,ek,J7 g.len (by decide),AllB.of_cf (λi=>md (g.bd i)),λH1 s1=>⟨_,_,rfl,rfl,?_,_,_,rfl,rfl,?_,_,rfl,q,CGiven,dx,_,_,rfl,s1 _ _ hq,RGiven.cl,RGiven.nL,yc _ _ _,?_⟩⟩
   ·rw[cR,ah,ah,J2,w4];show 4+1+_<=_;omega
   ·rw[cR,dy,ar,ah,ah,J2,J2,w4];show 4+1+_+2<=_;omega
   obtain⟨dl,eL⟩:=hL;obtain⟨dh,eH⟩:=hH;refine⟨pl,dl,_,rfl,s1 _ _ eL,yb _ _,pl,l1,1,rfl,⟨dl,s1 _ _ eL⟩,g.lb,.inl rfl,λH2 s2=>⟨_,_,rfl,rfl,?_,_,_,rfl,rfl,?_,_,rfl,q,CGiven,dx,_,_,rfl,s2 _ _ (s1 _ _ hq),RGiven.cl,RGiven.nH,yd _ _ _,?_⟩⟩
   ·rw[cR,dy,ar,ar,ah,ah];simp only[J2,J4,Ks,w4];omega
   ·rw[cR,dy,eC,ar,ar,ar,ah,ah];simp only[J2,J4,Ks,w4];omega
   have s12:=s1.trans s2;refine⟨ph,dh,_,rfl,s12 _ _ eH,yb _ _,ph,h1,h2,rfl,⟨dh,s12 _ _ eH⟩,g.hb,h12,λH3 s3=>⟨_,_,rfl,rfl,?_,_,_,rfl,rfl,?_,?_⟩⟩
   ·rw[cR,dy,eC,ar,ar,ar,ar,ah,ah];simp only[J2,J4,Ks,w4];omega
   ·rw[cR,dy,eC,eD,ar,ar,ar,ar,ar,ah,ah];simp only[J2,J4,Ks,w4];omega
   ·rw[cR,dy,eC,eD,ar,ar,ar,ar,ar,ar];have:=kk H3 (s12.trans s3)
    have e9:tx (.given kp (l1,1) (h1,h2))=wRoot++[40]++plT kp++[44,32]++frT (l1,1)++[46,46]++frT (h1,h2)++[41]:=by show wRoot++40::(plT kp++44::32::(frT (l1,1)++46::46::(frT (h1,h2)++[41])))=_;simp only[J5,Kg,Ko]
    rw[e9]at this;exact this
  |_=>cases hκ
theorem Du{tc:TC}{k n:Nat}{CMinus CPower f:Addr}{fd:FuncData}(F:Fun K "text" "Minus.text" gB f fd)(T:Txt K mg)(RMinus:PCI K mg CMinus "Minus" ["one"])(RPower:PCI K mg CPower "Power" ["one","power"])(e:tc.mi=CMinus)(ep:tc.po=CPower)(A:CsA K tc){cK:Addr}{cJ:FuncData}(C_within:Cal P w K mg base (k+1) "within" ["tree","bare"] (iR tc n) cK cJ){jy:Addr}{jp:FuncData}(C_is_atom:Cal P w K mg base 1 "is_atom" ["tree"] (gb tc 4) jy jp):FnOk P w K mg base CX0 (k+3) f fd ["self"] (di tc .mi (n+1)):=by
 obtain⟨dH,dw,dA,dG⟩:=C_within;obtain⟨uM,rM,sD,t7⟩:=C_is_atom;refine F.ok v1 (λvs H Q E h=>?_) (λcdv A' outer s H vs Q E hr h=>?_)
 ·obtain⟨av,q,t,rfl,_⟩:=h;rfl
 ·obtain⟨av,q,t,rfl,hκ,hP,hO,hh,hl,kk⟩:=h;have big:=sizeLine_eq;refine⟨_,(ag (aq (aj aR ao (au dH (hr.mono (by omega)) rfl dw dA dG .nil ak (aa (aK (K:=K) rfl (pv 0) rfl) (aa (fQ (au uM (hr.mono (by omega)) rfl rM sD t7 .nil ak (aa (aK (K:=K) rfl (pv 0) rfl) ac)) (bq (aO (bH (K:=K) rfl) (by rfl) T.isinstance_ PyProof.Rows.boot_isinstance (aa (aK (K:=K) rfl (pv 0) rfl) (aa (br (v:=.ref CPower) rfl RPower.mg rfl) ac))))) ac)))))),?_⟩;cases t with
  |minus t =>
   obtain⟨_,dx,p,hq,hP1⟩:=hP;rw[e]at hq;have hO':OkT t:=hO;have hh':t.hgt<=n:=Kc hh;obtain⟨a1,a2⟩:=fM t 3 (tx t);have hl':(wn 3 t (tx t)).length+1<=200:=hl
   have fin:∀(b:Bool),b=decide (3<=rk t)->∀H2,Same H H2->(∃i j:Str,V.str (Str.ofString "-")=.str i/\V.str (stL (if b then tx t else 40::(tx t++[41])))=.str j/\i.length+j.length<=sizeLine/\Q (.str (i++j)) H2):=λb hb H2 s2=>by
    rw[jK hb,ey];refine⟨_,_,rfl,rfl,?_,?_⟩
    ·rw[ah,ah];simp;omega
    ·rw[ar];exact kk H2 s2
   refine aG ⟨_,rfl,q,CMinus,dx,_,_,rfl,hq,RMinus.cl,RMinus.na "one" (by simp),fW _ _,cv ⟨_,rfl,q,CMinus,dx,_,_,rfl,hq,RMinus.cl,RMinus.na "one" (by simp),fW _ _,av,p,t,rfl,hP1,_,rfl,?_⟩⟩;by_cases h4:rk t=4
   ·rw[decide_eq_true h4];exact aN ⟨av,p,t,true,rfl,hP1,hO',hh',by omega,fin true (by rw[h4];rfl)⟩
   ·rw[decide_eq_false h4];exact aM (bw ⟨_,rfl,q,CMinus,dx,_,_,rfl,hq,RMinus.cl,RMinus.na "one" (by simp),fW _ _,eJ A hP1 .po ep ⟨av,p,t,_,rfl,hP1,hO',hh',by omega,fin _ (rk3 t h4)⟩⟩)
  |_=>cases hκ
theorem Dn{tc:TC}{k n:Nat}{CPower f:Addr}{fd:FuncData}(F:Fun K "text" "Power.text" gy f fd)(T:Txt K mg)(RPower:PCI K mg CPower "Power" ["one","power"])(e:tc.po=CPower){cK:Addr}{cJ:FuncData}(C_within:Cal P w K mg base (k+1) "within" ["tree","bare"] (iR tc n) cK cJ){jy:Addr}{jp:FuncData}(C_is_atom:Cal P w K mg base 1 "is_atom" ["tree"] (gb tc 4) jy jp){fc:Addr}{eM:FuncData}(dI:Cal P w K mg base 1 "whole_text" ["value"] hJ fc eM):FnOk P w K mg base CX0 (k+3) f fd ["self"] (di tc .po (n+1)):=by
 obtain⟨dH,dw,dA,dG⟩:=C_within;obtain⟨uM,rM,sD,t7⟩:=C_is_atom;obtain⟨fH,ef,eI,fF⟩:=dI;refine F.ok vX (λvs H Q E h=>?_) (λcdv A' outer s H vs Q E hr h=>?_)
 ·obtain⟨av,q,t,rfl,_⟩:=h;rfl
 ·obtain⟨av,q,t,rfl,hκ,hP,hO,hh,hl,kk⟩:=h;have big:=sizeLine_eq;refine⟨_,(ag (aq (aj aR (aj aR (au dH (hr.mono (by omega)) rfl dw dA dG .nil ak (aa (aK (K:=K) rfl (pv 0) rfl) (aa (au uM (hr.mono (by omega)) rfl rM sD t7 .nil ak (aa (aK (K:=K) rfl (pv 0) rfl) ac)) ac))) ao) (au fH (hr.mono (by omega)) rfl ef eI fF .nil ak (aa (aK (K:=K) rfl (pv 0) rfl) ac))))),?_⟩;cases t with
  |power t m =>
   obtain⟨_,dx,p,hq,hP1⟩:=hP;rw[e]at hq;obtain⟨hO',hm⟩:OkT t/\m<=8:=hO;have hh':t.hgt<=n:=Kc hh;obtain⟨a1,a2⟩:=fM t 4 (tx t);have hl':(wn 4 t (tx t)++94::al m).length<=200:=hl;rw[J2,J4]at hl';refine aG ⟨_,rfl,q,CPower,dx,_,_,rfl,hq,RPower.cl,RPower.na "one" (by simp),cT ly _ _,_,rfl,q,CPower,dx,_,_,rfl,hq,RPower.cl,RPower.na "one" (by simp),cT ly _ _,av,p,t,rfl,hP1,av,p,t,_,rfl,hP1,hO',hh',by omega,λH1 s1=>?_⟩;rw[jK (t:=t) (r:=4) (b:=decide (rk t=4)) (by have:=Bb t;rw[decide_eq_decide];omega)];refine⟨_,_,rfl,rfl,?_,_,rfl,q,CPower,dx,_,_,rfl,s1 _ _ hq,RPower.cl,RPower.na "power" (by simp),cH _ _ _ _,(m:Int),rfl,?_,λH2 s2=>⟨_,_,rfl,rfl,?_,?_⟩⟩
   ·rw[iu,ah,ah];simp;omega
   ·exact md (by omega)
   ·rw[iu,cM,ar,ah,ah];simp;omega
   ·rw[iu,cM,ar,ar,J5];exact kk H2 (s1.trans s2)
  |_=>cases hκ
theorem Da{tc:TC}{k n:Nat}{CRooted f:Addr}{fd:FuncData}(F:Fun K "text" "Rooted.text" gx f fd)(T:Txt K mg)(RRooted:PCI K mg CRooted "Rooted" ["one","power"])(e:tc.ro=CRooted){cK:Addr}{cJ:FuncData}(C_within:Cal P w K mg base (k+1) "within" ["tree","bare"] (iR tc n) cK cJ):FnOk P w K mg base CX0 (k+3) f fd ["self"] (di tc .ro (n+1)):=by
 obtain⟨dH,dw,dA,dG⟩:=C_within;refine F.ok sc_Rooted_text (λvs H Q E h=>?_) (λcdv A' outer s H vs Q E hr h=>?_)
 ·obtain⟨av,q,t,rfl,_⟩:=h;rfl
 ·obtain⟨av,q,t,rfl,hκ,hP,hO,hh,hl,kk⟩:=h;have big:=sizeLine_eq
  refine⟨_,(af (ay (i:=1) sc_Rooted_text.nd rfl (Or.inl rfl) (iX (aF bL (aK (K:=K) rfl (pv 0) rfl) ad (aA _)) ao ao))
   (ag (aq (aj aR (pv 1) (au dH (hr.mono (by omega)) rfl dw dA dG .nil ak (aa (aK (K:=K) rfl (pv 0) rfl) (aa iY ac))))))),?_⟩
  cases t with
  |rooted t m =>
   obtain⟨_,dx,p,hq,hP1⟩:=hP;rw[e]at hq;obtain⟨hO',hm⟩:OkT t/\(m=2\/m=3):=hO;have hh':t.hgt<=n:=Kc hh;have w1:wSqrt.length=4:=rfl;have w2:wCbrt.length=4:=rfl
   have hl':(tx t).length+6<=200:=by have:((if m=2 then wSqrt else wCbrt)++40::(tx t++[41])).length<=200:=hl;simp only[J2,J4,Ks]at this;split at this<;>omega
   refine aC ⟨_,rfl,q,CRooted,dx,_,_,rfl,hq,RRooted.cl,RRooted.na "power" (by simp),cH _ _ _ _,_,_,rfl,rfl,_,rfl,ai (λh2=>?_) (λh2=>?_)⟩
   ·have h2':m=2:=by have:(m:Int)=2:=h2;omega
    refine aG ⟨_,rfl,_,rfl,q,CRooted,dx,_,_,rfl,hq,RRooted.cl,RRooted.na "one" (by simp),cT ly _ _,av,p,t,false,rfl,hP1,hO',hh',by omega,λH1 s1=>⟨_,_,rfl,rfl,?_,?_⟩⟩
    ·rw[oX,ah,ah,if_neg (by decide)];simp;omega
    ·rw[oX,ar,if_neg (by decide)];have:=kk H1 s1;unfold tx at this
     rw[if_pos h2']at this;exact this
   ·have h2':¬m=2:=λz=>h2 (by show(m:Int)=2;omega)
    refine aG ⟨_,rfl,_,rfl,q,CRooted,dx,_,_,rfl,hq,RRooted.cl,RRooted.na "one" (by simp),cT ly _ _,av,p,t,false,rfl,hP1,hO',hh',by omega,λH1 s1=>⟨_,_,rfl,rfl,?_,?_⟩⟩
    ·rw[oY,ah,ah,if_neg (by decide)];simp;omega
    ·rw[oY,ar,if_neg (by decide)];have:=kk H1 s1;unfold tx at this
     rw[if_neg h2']at this;exact this
  |_=>cases hκ
theorem C8{tc:TC}{k n:Nat}{CSum f:Addr}{fd:FuncData}(F:Fun K "text" "Sum.text" gw f fd)(T:Txt K mg)(RSum:PCI K mg CSum "Sum" ["one","other"])(e:tc.su=CSum)(D_text:TxA P w K mg base tc k n){cK:Addr}{cJ:FuncData}(C_within:Cal P w K mg base (k+1) "within" ["tree","bare"] (iR tc n) cK cJ){gU:Addr}{gR:FuncData}(C_is_sum:Cal P w K mg base 1 "is_sum" ["tree"] (gb tc 0) gU gR):FnOk P w K mg base CX0 (k+3) f fd ["self"] (di tc .su (n+1)):=by
 obtain⟨dH,dw,dA,dG⟩:=C_within;obtain⟨lT,lC,lG,lP⟩:=C_is_sum;refine F.ok vW (λvs H Q E h=>?_) (λcdv A' outer s H vs Q E hr h=>?_)
 ·obtain⟨av,q,t,rfl,_⟩:=h;rfl
 ·obtain⟨av,q,t,rfl,hκ,hP,hO,hh,hl,kk⟩:=h;have big:=sizeLine_eq;refine⟨_,(ag (aq (aj aR (aj aR (mw (aK (K:=K) rfl (pv 0) rfl) D_text (hr.mono (by omega))) ao) (au dH (hr.mono (by omega)) rfl dw dA dG .nil ak (aa (aK (K:=K) rfl (pv 0) rfl) (aa (lq (au lT (hr.mono (by omega)) rfl lC lG lP .nil ak (aa (aK (K:=K) rfl (pv 0) rfl) ac))) ac)))))),?_⟩;cases t with
  |sum t1 t2 =>
   obtain⟨_,dx,p,r,hq,hP1,hP2⟩:=hP;rw[e]at hq;obtain⟨hO1,hO2⟩:OkT t1/\OkT t2:=hO;have hm:max t1.hgt t2.hgt<=n:=Kc hh;obtain⟨a1,a2⟩:=fM t2 1 (tx t2);have hl':(tx t1++32::43::32::wn 1 t2 (tx t2)).length<=200:=hl;simp only[J2,J4]at hl';refine aG ⟨_,rfl,q,CSum,dx,_,_,rfl,hq,RSum.cl,RSum.na "one" (by simp),cT ij _ _,av,p,t1,rfl,hP1,hO1,by omega,by omega,λH1 s1=>⟨_,_,rfl,rfl,?_,_,rfl,q,CSum,dx,_,_,rfl,s1 _ _ hq,RSum.cl,RSum.na "other" (by simp),cH _ _ _ _,_,rfl,q,CSum,dx,_,_,rfl,s1 _ _ hq,RSum.cl,RSum.na "other" (by simp),cH _ _ _ _,av,r,t2,rfl,hP2.same s1,_,rfl,av,r,t2,_,rfl,hP2.same s1,hO2,by omega,by omega,λH2 s2=>?_⟩⟩
   ·rw[de,ah,ah];simp;omega
   rw[jK (t:=t2) (r:=1) (b:=!decide (rk t2=0)) (by rw[<- decide_not,decide_eq_decide];omega)];refine⟨_,_,rfl,rfl,?_,?_⟩
   ·rw[de,ar,ah,ah];simp;omega
   ·rw[de,ar,ar,J5];exact kk H2 (s1.trans s2)
  |_=>cases hκ
theorem Dw{tc:TC}{k n:Nat}{CLess f:Addr}{fd:FuncData}(F:Fun K "text" "Less.text" gC f fd)(T:Txt K mg)(RLess:PCI K mg CLess "Less" ["one","other"])(e:tc.le=CLess)(D_text:TxA P w K mg base tc k n){cK:Addr}{cJ:FuncData}(C_within:Cal P w K mg base (k+1) "within" ["tree","bare"] (iR tc n) cK cJ){gU:Addr}{gR:FuncData}(C_is_sum:Cal P w K mg base 1 "is_sum" ["tree"] (gb tc 0) gU gR):FnOk P w K mg base CX0 (k+3) f fd ["self"] (di tc .le (n+1)):=by
 obtain⟨dH,dw,dA,dG⟩:=C_within;obtain⟨lT,lC,lG,lP⟩:=C_is_sum;refine F.ok v2 (λvs H Q E h=>?_) (λcdv A' outer s H vs Q E hr h=>?_)
 ·obtain⟨av,q,t,rfl,_⟩:=h;rfl
 ·obtain⟨av,q,t,rfl,hκ,hP,hO,hh,hl,kk⟩:=h;have big:=sizeLine_eq;refine⟨_,(ag (aq (aj aR (aj aR (mw (aK (K:=K) rfl (pv 0) rfl) D_text (hr.mono (by omega))) ao) (au dH (hr.mono (by omega)) rfl dw dA dG .nil ak (aa (aK (K:=K) rfl (pv 0) rfl) (aa (lq (au lT (hr.mono (by omega)) rfl lC lG lP .nil ak (aa (aK (K:=K) rfl (pv 0) rfl) ac))) ac)))))),?_⟩;cases t with
  |less t1 t2 =>
   obtain⟨_,dx,p,r,hq,hP1,hP2⟩:=hP;rw[e]at hq;obtain⟨hO1,hO2⟩:OkT t1/\OkT t2:=hO;have hm:max t1.hgt t2.hgt<=n:=Kc hh;obtain⟨a1,a2⟩:=fM t2 1 (tx t2);have hl':(tx t1++32::45::32::wn 1 t2 (tx t2)).length<=200:=hl;simp only[J2,J4]at hl';refine aG ⟨_,rfl,q,CLess,dx,_,_,rfl,hq,RLess.cl,RLess.na "one" (by simp),cT ij _ _,av,p,t1,rfl,hP1,hO1,by omega,by omega,λH1 s1=>⟨_,_,rfl,rfl,?_,_,rfl,q,CLess,dx,_,_,rfl,s1 _ _ hq,RLess.cl,RLess.na "other" (by simp),cH _ _ _ _,_,rfl,q,CLess,dx,_,_,rfl,s1 _ _ hq,RLess.cl,RLess.na "other" (by simp),cH _ _ _ _,av,r,t2,rfl,hP2.same s1,_,rfl,av,r,t2,_,rfl,hP2.same s1,hO2,by omega,by omega,λH2 s2=>?_⟩⟩
   ·rw[df,ah,ah];simp;omega
   rw[jK (t:=t2) (r:=1) (b:=!decide (rk t2=0)) (by rw[<- decide_not,decide_eq_decide];omega)];refine⟨_,_,rfl,rfl,?_,?_⟩
   ·rw[df,ar,ah,ah];simp;omega
   ·rw[df,ar,ar,J5];exact kk H2 (s1.trans s2)
  |_=>cases hκ
theorem C6{tc:TC}{k n:Nat}{CTimes f:Addr}{fd:FuncData}(F:Fun K "text" "Times.text" gv f fd)(T:Txt K mg)(RTimes:PCI K mg CTimes "Times" ["one","other"])(e:tc.ti=CTimes){jx:Addr}{jo:FuncData}(C_product_text:Cal P w K mg base (k+2) "product_text" ["one","mark","other"] (qq tc n) jx jo):FnOk P w K mg base CX0 (k+3) f fd ["self"] (di tc .ti (n+1)):=by
 obtain⟨uK,rK,sA,t5⟩:=C_product_text;refine F.ok vV (λvs H Q E h=>?_) (λcdv A' outer s H vs Q E hr h=>?_)
 ·obtain⟨av,q,t,rfl,_⟩:=h;rfl
 ·obtain⟨av,q,t,rfl,hκ,hP,hO,hh,hl,kk⟩:=h;refine⟨_,(ag (aq (au uK (hr.mono (by omega)) rfl rK sA t5 .nil ak (aa (aK (K:=K) rfl (pv 0) rfl) (aa ao (aa (aK (K:=K) rfl (pv 0) rfl) ac)))))),?_⟩;cases t with
  |times t1 t2 =>obtain⟨_,dx,p,r,hq,hP1,hP2⟩:=hP;rw[e]at hq;obtain⟨hO1,hO2⟩:OkT t1/\OkT t2:=hO;have hm:max t1.hgt t2.hgt<=n:=Kc hh;exact aG ⟨_,rfl,q,CTimes,dx,_,_,rfl,hq,RTimes.cl,RTimes.na "one" (by simp),cT ij _ _,_,rfl,q,CTimes,dx,_,_,rfl,hq,RTimes.cl,RTimes.na "other" (by simp),cH _ _ _ _,av,p,r,t1,t2,42,by rw[<- cI];rfl,hP1,hP2,hO1,hO2,by omega,by omega,hl,kk⟩
  |_=>cases hκ
theorem Dp{tc:TC}{k n:Nat}{COver f:Addr}{fd:FuncData}(F:Fun K "text" "Over.text" gz f fd)(T:Txt K mg)(ROver:PCI K mg COver "Over" ["one","other"])(e:tc.ov=COver){jx:Addr}{jo:FuncData}(C_product_text:Cal P w K mg base (k+2) "product_text" ["one","mark","other"] (qq tc n) jx jo):FnOk P w K mg base CX0 (k+3) f fd ["self"] (di tc .ov (n+1)):=by
 obtain⟨uK,rK,sA,t5⟩:=C_product_text;refine F.ok vY (λvs H Q E h=>?_) (λcdv A' outer s H vs Q E hr h=>?_)
 ·obtain⟨av,q,t,rfl,_⟩:=h;rfl
 ·obtain⟨av,q,t,rfl,hκ,hP,hO,hh,hl,kk⟩:=h;refine⟨_,(ag (aq (au uK (hr.mono (by omega)) rfl rK sA t5 .nil ak (aa (aK (K:=K) rfl (pv 0) rfl) (aa ao (aa (aK (K:=K) rfl (pv 0) rfl) ac)))))),?_⟩;cases t with
  |over t1 t2 =>obtain⟨_,dx,p,r,hq,hP1,hP2⟩:=hP;rw[e]at hq;obtain⟨hO1,hO2⟩:OkT t1/\OkT t2:=hO;have hm:max t1.hgt t2.hgt<=n:=Kc hh;exact aG ⟨_,rfl,q,COver,dx,_,_,rfl,hq,ROver.cl,ROver.na "one" (by simp),cT ij _ _,_,rfl,q,COver,dx,_,_,rfl,hq,ROver.cl,ROver.na "other" (by simp),cH _ _ _ _,av,p,r,t1,t2,47,by rw[<- jg];rfl,hP1,hP2,hO1,hO2,by omega,by omega,hl,kk⟩
  |_=>cases hκ
theorem jl(t:PT):1<=t.hgt:=by cases t<;>exact Nat.le_add_left _ _
theorem bU{tc:TC}{κ:Kd}{vs:List V}{H:Hp}{Q:VK}{E:XK}(h:di tc κ 0 vs H Q E):False:=by obtain⟨av,q,t,_,_,_,_,hh,_⟩:=h;have:=jl t;omega
theorem zy{tc:TC}{CWhole CNamed CGiven CMinus CSum CLess CTimes COver CPower CRooted CRatio:Addr}(T:Txt K mg)(RRatio:RCI K mg CRatio)(RWhole:PCI K mg CWhole "Whole" ["value"])(RNamed:PCI K mg CNamed "Named" ["word"])(RGiven:GCI K mg CGiven)(RMinus:PCI K mg CMinus "Minus" ["one"])(RSum:PCI K mg CSum "Sum" ["one","other"])(RLess:PCI K mg CLess "Less" ["one","other"])(RTimes:PCI K mg CTimes "Times" ["one","other"])(ROver:PCI K mg COver "Over" ["one","other"])(RPower:PCI K mg CPower "Power" ["one","power"])(RRooted:PCI K mg CRooted "Rooted" ["one","power"])(et:tc=⟨CWhole,CNamed,CGiven,CMinus,CSum,CLess,CTimes,COver,CPower,CRooted,CRatio⟩)(A:CsA K tc){fc:Addr}{eM:FuncData}(dI:Cal P w K mg base 1 "whole_text" ["value"] hJ fc eM){nE:Addr}{ni:FuncData}(oa:Cal P w K mg base 3 "poly_text" ["row"] lX nE ni){nJ:Addr}{nv:FuncData}(oh:MCal P w K mg base 2 CRatio "text" ["self"] (lW CRatio) nJ nv){gU:Addr}{gR:FuncData}(C_is_sum:RawC K mg "is_sum" gm ["tree"] gU gR){nF:Addr}{nj:FuncData}(C_is_product:RawC K mg "is_product" gp ["tree"] nF nj){jy:Addr}{jp:FuncData}(C_is_atom:RawC K mg "is_atom" gq ["tree"] jy jp){cK:Addr}{cJ:FuncData}(C_within:RawC K mg "within" gc ["tree","bare"] cK cJ){jx:Addr}{jo:FuncData}(C_product_text:RawC K mg "product_text" gk ["one","mark","other"] jx jo){tj:Addr}{sN:FuncData}(C_Whole_text:RawM K CWhole "text" "Whole.text" gu ["self"] tj sN){tJ:Addr}{sW:FuncData}(C_Given_text:RawM K CGiven "text" "Given.text" gD ["self"] tJ sW){tG:Addr}{sT:FuncData}(C_Named_text:RawM K CNamed "text" "Named.text" gA ["self"] tG sT){tH:Addr}{sU:FuncData}(C_Minus_text:RawM K CMinus "text" "Minus.text" gB ["self"] tH sU){tu:Addr}{sP:FuncData}(C_Sum_text:RawM K CSum "text" "Sum.text" gw ["self"] tu sP){tI:Addr}{sV:FuncData}(C_Less_text:RawM K CLess "text" "Less.text" gC ["self"] tI sV){tq:Addr}{sO:FuncData}(C_Times_text:RawM K CTimes "text" "Times.text" gv ["self"] tq sO){tE:Addr}{sS:FuncData}(C_Over_text:RawM K COver "text" "Over.text" gz ["self"] tE sS){tz:Addr}{sR:FuncData}(C_Power_text:RawM K CPower "text" "Power.text" gy ["self"] tz sR){tw:Addr}{sQ:FuncData}(C_Rooted_text:RawM K CRooted "text" "Rooted.text" gx ["self"] tw sQ):∀n,TxA P w K mg base tc (3*n+1) n:=by
 subst et;have S:=C_is_sum.cal (P:=P) (w:=w) (base:=base) (CB (tc:=⟨CWhole,CNamed,CGiven,CMinus,CSum,CLess,CTimes,COver,CPower,CRooted,CRatio⟩) C_is_sum.fn T RSum RLess rfl rfl A);have Pr:=C_is_product.cal (P:=P) (w:=w) (base:=base) (CC (tc:=⟨CWhole,CNamed,CGiven,CMinus,CSum,CLess,CTimes,COver,CPower,CRooted,CRatio⟩) C_is_product.fn T RTimes ROver rfl rfl A);have At:=C_is_atom.cal (P:=P) (w:=w) (base:=base) (CF (tc:=⟨CWhole,CNamed,CGiven,CMinus,CSum,CLess,CTimes,COver,CPower,CRooted,CRatio⟩) C_is_atom.fn T RWhole RNamed RGiven RRooted rfl rfl rfl rfl A);intro n
 induction n with
 |zero =>
  intro κ;refine⟨(A.ca κ).cl,?_⟩;cases κ with
  |wh=>exact⟨_,_,_,C_Whole_text.mcal (C_Whole_text.fn.ok vU (λ_ _ _ _ h=>(bU h).elim) (λ_ _ _ _ _ _ _ _ _ h=>(bU h).elim))⟩
  |na=>exact⟨_,_,_,C_Named_text.mcal (C_Named_text.fn.ok vZ (λ_ _ _ _ h=>(bU h).elim) (λ_ _ _ _ _ _ _ _ _ h=>(bU h).elim))⟩
  |gi=>exact⟨_,_,_,C_Given_text.mcal (C_Given_text.fn.ok v3 (λ_ _ _ _ h=>(bU h).elim) (λ_ _ _ _ _ _ _ _ _ h=>(bU h).elim))⟩
  |mi=>exact⟨_,_,_,C_Minus_text.mcal (C_Minus_text.fn.ok v1 (λ_ _ _ _ h=>(bU h).elim) (λ_ _ _ _ _ _ _ _ _ h=>(bU h).elim))⟩
  |su=>exact⟨_,_,_,C_Sum_text.mcal (C_Sum_text.fn.ok vW (λ_ _ _ _ h=>(bU h).elim) (λ_ _ _ _ _ _ _ _ _ h=>(bU h).elim))⟩
  |le=>exact⟨_,_,_,C_Less_text.mcal (C_Less_text.fn.ok v2 (λ_ _ _ _ h=>(bU h).elim) (λ_ _ _ _ _ _ _ _ _ h=>(bU h).elim))⟩
  |ti=>exact⟨_,_,_,C_Times_text.mcal (C_Times_text.fn.ok vV (λ_ _ _ _ h=>(bU h).elim) (λ_ _ _ _ _ _ _ _ _ h=>(bU h).elim))⟩
  |ov=>exact⟨_,_,_,C_Over_text.mcal (C_Over_text.fn.ok vY (λ_ _ _ _ h=>(bU h).elim) (λ_ _ _ _ _ _ _ _ _ h=>(bU h).elim))⟩
  |po=>exact⟨_,_,_,C_Power_text.mcal (C_Power_text.fn.ok vX (λ_ _ _ _ h=>(bU h).elim) (λ_ _ _ _ _ _ _ _ _ h=>(bU h).elim))⟩
  |ro=>exact⟨_,_,_,C_Rooted_text.mcal (C_Rooted_text.fn.ok sc_Rooted_text (λ_ _ _ _ h=>(bU h).elim) (λ_ _ _ _ _ _ _ _ _ h=>(bU h).elim))⟩
 |succ n D =>
  have W:=C_within.cal (B8 C_within.fn T D);have Pt:=C_product_text.cal (Cr C_product_text.fn T (by omega) W S Pr);intro κ;refine⟨(A.ca κ).cl,?_⟩;rw[show 3*(n+1)+1=3*n+1+3 by omega];cases κ with
  |wh=>exact⟨_,_,_,C_Whole_text.mcal (C4 C_Whole_text.fn T RWhole rfl dI)⟩
  |na=>exact⟨_,_,_,C_Named_text.mcal (Ds C_Named_text.fn T RNamed rfl)⟩
  |gi=>exact⟨_,_,_,C_Given_text.mcal (Dy C_Given_text.fn T RGiven RRatio rfl rfl (by omega) oa oh)⟩
  |mi=>exact⟨_,_,_,C_Minus_text.mcal (Du C_Minus_text.fn T RMinus RPower rfl rfl A W At)⟩
  |su=>exact⟨_,_,_,C_Sum_text.mcal (C8 C_Sum_text.fn T RSum rfl D W S)⟩
  |le=>exact⟨_,_,_,C_Less_text.mcal (Dw C_Less_text.fn T RLess rfl D W S)⟩
  |ti=>exact⟨_,_,_,C_Times_text.mcal (C6 C_Times_text.fn T RTimes rfl Pt)⟩
  |ov=>exact⟨_,_,_,C_Over_text.mcal (Dp C_Over_text.fn T ROver rfl Pt)⟩
  |po=>exact⟨_,_,_,C_Power_text.mcal (Dn C_Power_text.fn T RPower rfl W At dI)⟩
  |ro=>exact⟨_,_,_,C_Rooted_text.mcal (Da C_Rooted_text.fn T RRooted rfl W)⟩
theorem Fx{CWhole CNamed CGiven CMinus CSum CLess CTimes COver CPower CRooted:Addr}(h:mS K [CWhole,CNamed,CGiven,CMinus,CSum,CLess,CTimes,COver,CPower,CRooted]=true)(CRatio:Addr)(κ κ':Kd):PySem.W.kitOne K (.ref ((⟨CWhole,CNamed,CGiven,CMinus,CSum,CLess,CTimes,COver,CPower,CRooted,CRatio⟩:TC).at κ)) (.ref ((⟨CWhole,CNamed,CGiven,CMinus,CSum,CLess,CTimes,COver,CPower,CRooted,CRatio⟩:TC).at κ'))=some (decide (κ=κ')):=by
 have key:∀κ:Kd,∃i,[CWhole,CNamed,CGiven,CMinus,CSum,CLess,CTimes,COver,CPower,CRooted][i]?=some ((⟨CWhole,CNamed,CGiven,CMinus,CSum,CLess,CTimes,COver,CPower,CRooted,CRatio⟩:TC).at κ)/\i=(match κ with |.wh=>0 |.na=>1 |.gi=>2 |.mi=>3 |.su=>4 |.le=>5 |.ti=>6 |.ov=>7 |.po=>8 |.ro=>9):=λκ=>by cases κ<;>exact⟨_,rfl,rfl⟩
 obtain⟨i,ei,hi⟩:=key κ;obtain⟨j,ej,hj⟩:=key κ';rw[Fq h ei ej,hi,hj];cases κ<;>cases κ'<;>rfl
abbrev vS(m:List Nat):V:=.str (stL m)
def Keep(av:Addr)(H H':Hp):Prop:=∀b o,H b=some o->(b≠av\/∀xs,o≠.lst xs)->H' b=some o
theorem aW{av:Addr}{H H':Hp}(s:Same H H'):Keep av H H':=λb o e _=>s b o e
theorem xt{av:Addr}{H:Hp}{xs:List V}{o:HO}(h:H av=some (.lst xs)):Keep av H (upd H av o):=λb p e h1=>by
 rcases h1 with h1 |h1
 ·rw[upd_ne h1];exact e
 ·by_cases z:b=av
  ·subst z;rw[h]at e;cases e;exact absurd rfl (h1 xs)
  ·rw[upd_ne z];exact e
theorem Keep.trans{av:Addr}{H H1 H2:Hp}(a:Keep av H H1)(b:Keep av H1 H2):Keep av H H2:=λp o e h=>b p o (a p o e h) h
noncomputable def hfP(j:Int):Int×Int:=if j%2=0 then(j/2,1)else(j,2)
noncomputable def LtH(av:Addr)(H:Hp):PT->Addr->Prop
 |.whole n,q=>H q=some (.tup [.str (Str.ofString "whole"),.int (n:Int)])
 |.named w,q=>H q=some (.tup [.str (Str.ofString "named"),vS w])
 |.given kp l h,q=>∃(pk:Addr) (i j:Int),H q=some (.tup [.str (Str.ofString "given"),.ref pk,.int i,.int j])/\pk≠av/\H pk=some (.lst (kp.map V.int))/\l=(i,1)/\h=hfP j/\j.natAbs<100
 |.minus t,q=>∃p,H q=some (.tup [.str (Str.ofString "minus"),.ref p])/\LtH av H t p
 |.power t k,q=>∃p,H q=some (.tup [.str (Str.ofString "power"),.ref p,.int (k:Int)])/\LtH av H t p
 |.rooted t k,q=>∃p,H q=some (.tup [.str (Str.ofString "rooted"),.ref p,.int (k:Int)])/\LtH av H t p
 |.sum a b,q=>∃p r,H q=some (.tup [.str (Str.ofString "sum"),.ref p,.ref r])/\LtH av H a p/\LtH av H b r
 |.less a b,q=>∃p r,H q=some (.tup [.str (Str.ofString "less"),.ref p,.ref r])/\LtH av H a p/\LtH av H b r
 |.times a b,q=>∃p r,H q=some (.tup [.str (Str.ofString "times"),.ref p,.ref r])/\LtH av H a p/\LtH av H b r
 |.over a b,q=>∃p r,H q=some (.tup [.str (Str.ofString "over"),.ref p,.ref r])/\LtH av H a p/\LtH av H b r
theorem dU{ys:List V}:∀xs,HO.tup ys≠.lst xs:=λ_ h=>by cases h
theorem LtH.kp{av:Addr}{H H':Hp}(s:Keep av H H'):∀{t:PT} {q:Addr},LtH av H t q->LtH av H' t q
 |.whole _,q,e=>s _ _ e (.inr dU)
 |.named _,q,e=>s _ _ e (.inr dU)
 |.given _ _ _,q,⟨pk,i,j,e,n,e1,e2⟩=>⟨pk,i,j,s _ _ e (.inr dU),n,s _ _ e1 (.inl n),e2⟩
 |.minus _,q,⟨p,e,h⟩=>⟨p,s _ _ e (.inr dU),LtH.kp s h⟩
 |.power _ _,q,⟨p,e,h⟩=>⟨p,s _ _ e (.inr dU),LtH.kp s h⟩
 |.rooted _ _,q,⟨p,e,h⟩=>⟨p,s _ _ e (.inr dU),LtH.kp s h⟩
 |.sum _ _,q,⟨p,r,e,h1,h2⟩=>⟨p,r,s _ _ e (.inr dU),LtH.kp s h1,LtH.kp s h2⟩
 |.less _ _,q,⟨p,r,e,h1,h2⟩=>⟨p,r,s _ _ e (.inr dU),LtH.kp s h1,LtH.kp s h2⟩
 |.times _ _,q,⟨p,r,e,h1,h2⟩=>⟨p,r,s _ _ e (.inr dU),LtH.kp s h1,LtH.kp s h2⟩
 |.over _ _,q,⟨p,r,e,h1,h2⟩=>⟨p,r,s _ _ e (.inr dU),LtH.kp s h1,LtH.kp s h2⟩
theorem LtH.mv{av av2:Addr}{H:Hp}(n:H av2=none):∀{t:PT} {q:Addr},LtH av H t q->LtH av2 H t q
 |.whole _,q,e=>e
 |.named _,q,e=>e
 |.given _ _ _,q,⟨pk,i,j,e,_,e1,e2⟩=>⟨pk,i,j,e,(λz=>by rw[z,n]at e1;cases e1),e1,e2⟩
 |.minus _,q,⟨p,e,h⟩=>⟨p,e,LtH.mv n h⟩
 |.power _ _,q,⟨p,e,h⟩=>⟨p,e,LtH.mv n h⟩
 |.rooted _ _,q,⟨p,e,h⟩=>⟨p,e,LtH.mv n h⟩
 |.sum _ _,q,⟨p,r,e,h1,h2⟩=>⟨p,r,e,LtH.mv n h1,LtH.mv n h2⟩
 |.less _ _,q,⟨p,r,e,h1,h2⟩=>⟨p,r,e,LtH.mv n h1,LtH.mv n h2⟩
 |.times _ _,q,⟨p,r,e,h1,h2⟩=>⟨p,r,e,LtH.mv n h1,LtH.mv n h2⟩
 |.over _ _,q,⟨p,r,e,h1,h2⟩=>⟨p,r,e,LtH.mv n h1,LtH.mv n h2⟩
def ItH(av:Addr)(H:Hp)(t:PT)(q:Addr):Prop:=∃pt,H q=some (.tup [.ref pt,vS (tx t),.int (dep t:Int),.int (rk t:Int)])/\LtH av H t pt
theorem ItH.kp{av:Addr}{H H':Hp}{t:PT}{q:Addr}(h:ItH av H t q)(s:Keep av H H'):ItH av H' t q:=let⟨pt,e,a⟩:=h;⟨pt,s _ _ e (.inr dU),a.kp s⟩
theorem ItH.mv{av av2:Addr}{H:Hp}{t:PT}{q:Addr}(h:ItH av H t q)(n:H av2=none):ItH av2 H t q:=let⟨pt,e,a⟩:=h;⟨pt,e,a.mv n⟩
theorem cP{H:Hp}{a b:Addr}(h:H a≠none)(n:H b=none):b≠a:=λz=>h (by rw[<- z];exact n)
theorem jb{H H1:Hp}{p:Addr}(s:Same H H1)(h:H1 p=none):H p=none:=by
 cases e:H p with
 |none=>rfl
 |some o=>rw[s _ _ e]at h;cases h
theorem d8{H H1:Hp}{a:Addr}(s:Same H H1)(h:H a≠none):H1 a≠none:=by
 cases e:H a with
 |none=>exact absurd e h
 |some x=>rw[s _ _ e];exactλz=>by cases z
theorem FD{i:Int}(h:0<=i):∃n:Nat,i=(n:Int):=⟨i.toNat,(Int.toNat_of_nonneg h).symm⟩
theorem ce(i j:Int)(h:0<j):∃n:Nat,i%j=(n:Int)/\(n:Int)<j:=by obtain⟨n,e⟩:=FD (Int.emod_nonneg i (Int.ne_of_gt h));exact⟨n,e,by rw[<- e];exact Int.emod_lt_of_pos i h⟩
theorem pos{j:Int}(h:0<j:=by decide):0<j:=h
theorem cdp{i j:Int}(h:0<j:=by decide)(h2:j.natAbs<2^64:=by decide):y7 i j:=⟨h,Bits.mono (j:=64) h2 (by decide)⟩
theorem vM{n:Nat}(h:n<2^1000):((n:Int)).natAbs.log2<1920:=by
 rw[KJ];by_cases h0:n=0
 ·subst h0;decide
 ·exact(Nat.log2_lt h0).mpr (J9 h (Lb (by decide) (by decide)))
theorem Ac{n m:Nat}(h:(n:Int)<(m:Int))(hm:m<=2^100:=by decide):n<2^1000:=J9 (Int.ofNat_lt.mp h) (J7 hm (Lb (by decide) (by decide)))
theorem oV{v:Int}(h:v.natAbs<100):v.natAbs.log2<1920:=by
 by_cases h0:v.natAbs=0
 ·rw[h0];decide
 ·exact(Nat.log2_lt h0).mpr (Kz h (by decide +kernel))
theorem sz(n:Nat)(h:n<=10000:=by decide):n<=sizeLine:=by rw[sizeLine_eq];omega
def ou:Sp:=λvs H Q _=>∃(av q:Addr) (t:PT) (k:Nat),vs=[.ref q,.int (k:Int)]/\ItH av H t q/\(tx t).length<=200/\∀(p:Addr) (H':Hp),Same H H'->H' p=some (.tup [vS (wn k t (tx t)),.int (wd k t (dep t):Int)])->Q (.ref p) H'
theorem CL{f:Addr}{fd:FuncData}(F:Fun K "_law_within" "_law_within" kn f fd)(T:Txt K mg):FnOk P w K mg base CX0 1 f fd ["_law_one","_law_rank"] ou:=by
 refine F.ok AG (λvs H Q E h=>?_) (λcdv A outer s H vs Q E hr h=>?_)
 ·obtain⟨av,q,t,k,rfl,_⟩:=h;rfl
 ·obtain⟨av,q,t,k,rfl,⟨pt,eq,hT⟩,hl,kk⟩:=h;have big:=sizeLine_eq
  refine⟨_,(af (aH (aF d7 (aw (aI (K:=K) rfl) (pv 0) ad (λ_ _=>rfl)) (pv 1) (aA _))
   (ag (aq (bF (aa (aj aR (aj aR ao (aw (aI (K:=K) rfl) (pv 0) ad (λ_ _=>rfl))) ao) (aa (aj cG (aw (aI (K:=K) rfl) (pv 0) ad (λ_ _=>rfl)) ad) ac)))))
   aJ)
   (ag (aq (bF (aa (aw (aI (K:=K) rfl) (pv 0) ad (λ_ _=>rfl)) (aa (aw (aI (K:=K) rfl) (pv 0) ad (λ_ _=>rfl)) ac)))))),?_⟩
  refine am ⟨_,rfl,q,_,_,_,rfl,rfl,SqT.of eq,rfl,_,rfl,_,_,rfl,rfl,_,rfl,ai (λh=>?_) (λh=>?_)⟩
  ·have h':rk t<k:=by have:(rk t:Int)<(k:Int):=h;omega
   refine aG ⟨_,rfl,q,_,_,_,rfl,rfl,SqT.of eq,rfl,_,_,rfl,rfl,?_,_,_,rfl,rfl,?_,_,rfl,q,_,_,_,rfl,rfl,SqT.of eq,rfl,_,_,rfl,rfl,(sz 2),λp hp=>?_⟩
   ·rw[jh,ah,ah];simp;omega
   ·rw[jh,eD,ar,ah,ah];simp;omega
   ·refine kk p _ (Same.upd_new hp) ?_;rw[ap,jh,eD,ar,ar];unfold wn wd;rw[if_pos h',if_pos h'];rfl
  ·have h':¬rk t<k:=λz=>h (by show(rk t:Int)<(k:Int);omega)
   refine aG ⟨_,rfl,q,_,_,_,rfl,rfl,SqT.of eq,rfl,_,rfl,q,_,_,_,rfl,rfl,SqT.of eq,rfl,(sz 2),λp hp=>?_⟩;refine kk p _ (Same.upd_new hp) ?_;unfold wn wd;rw[if_neg h',if_neg h'];exact ap
def qE:Sp:=λvs H Q _=>∃(av q:Addr) (t:PT),vs=[.ref q]/\ItH av H t q/\(tx t).length<=1000/\Q (.bl (decide ((tx t).length<=200)&&decide (dep t<=10))) H
theorem CY{f:Addr}{fd:FuncData}(F:Fun K "_law_fits" "_law_fits" ky f fd)(T:Txt K mg):FnOk P w K mg base CX0 1 f fd ["_law_one"] qE:=by
 refine F.ok AL (λvs H Q E h=>?_) (λcdv A outer s H vs Q E hr h=>?_)
 ·obtain⟨av,q,t,rfl,_⟩:=h;rfl
 ·obtain⟨av,q,t,rfl,⟨pt,eq,hT⟩,hl,k⟩:=h;have big:=sizeLine_eq;refine⟨_,(ag (aq (bx (bQ re (aO lM (by rfl) T.len_ PySem.boot_len (aa (aw (aI (K:=K) rfl) (pv 0) ad (λ_ _=>rfl)) ac)) ad (aA _)) (bq (bQ re (aw (aI (K:=K) rfl) (pv 0) ad (λ_ _=>rfl)) ad (aA _)))))),?_⟩;refine aG (aV ⟨_,rfl,q,_,_,_,rfl,rfl,SqT.of eq,rfl,_,rfl,by rw[ah];omega,_,_,rfl,rfl,_,rfl,ai (λh=>?_) (λh=>?_)⟩)
  ·have h':(tx t).length<=200:=by rw[ah]at h;omega
   refine⟨_,rfl,q,_,_,_,rfl,rfl,SqT.of eq,rfl,_,_,rfl,rfl,?_⟩;rw[decide_eq_true h',Bool.true_and]at k;show Q (.bl (decide ((dep t:Int)<=10))) _;rw[show decide ((dep t:Int)<=10)=decide (dep t<=10) by rw[decide_eq_decide];omega];exact k
  ·have h':¬(tx t).length<=200:=by rw[ah]at h;omega
   rw[decide_eq_false h',Bool.false_and]at k;exact k
theorem EC:V.str (Str.ofString "sqrt(")=vS (wSqrt++[40]):=by rw[show Str.ofString "sqrt("=stL (wSqrt++[40]) by decide +kernel]
theorem EH:V.str (Str.ofString "cbrt(")=vS (wCbrt++[40]):=by rw[show Str.ofString "cbrt("=stL (wCbrt++[40]) by decide +kernel]
def qM:Sp:=λvs H Q _=>∃(av q:Addr) (t:PT) (c:Int),vs=[.ref q,.int c]/\ItH av H t q/\OkT t/\(tx t).length<=200/\∀(p:Addr) (t':PT) (H':Hp),Same H H'->ItH av H' t' p->OkT t'->t'.hgt=t.hgt+1->(tx t').length<=300->Q (.ref p) H'
theorem C3{f:Addr}{fd:FuncData}(F:Fun K "_law_alone" "_law_alone" kC f fd)(T:Txt K mg){sZ:Addr}{sL:FuncData}(u9:Cal P w K mg base 1 "_law_within" ["_law_one","_law_rank"] ou sZ sL):FnOk P w K mg base CX0 2 f fd ["_law_one","_law_cell"] qM:=by
 obtain⟨nY,mH,mR,nS⟩:=u9;refine F.ok sc__law_alone (λvs H Q E h=>?_) (λcdv A outer s H vs Q E hr h=>?_)
 ·obtain⟨av,q,t,c,rfl,_⟩:=h;rfl
 ·obtain⟨av,q,t,c,rfl,hI,hO,hl,kk⟩:=h;obtain⟨pt,eq,hT⟩:=id hI;have big:=sizeLine_eq
  refine⟨_,(af (aH (aF bL (aj bh (pv 1) ad) ad (aA _))
   (af (ay (i:=2) sc__law_alone.nd rfl (Or.inl rfl) (au nY (hr.mono) rfl mH mR nS .nil ak (aa (pv 0) (aa ad ac))))
     (ag (aq (bF (aa (bF (aa ao (aa (aw (aI (K:=K) rfl) (pv 0) ad (λ_ _=>rfl)) ac))) (aa (aj aR ao (aw (aI (K:=K) rfl) (pv 2) ad (λ_ _=>rfl))) (aa (aw (aI (K:=K) rfl) (pv 2) ad (λ_ _=>rfl)) (aa ad ac))))))))
   aJ)
   (af (aH (aF bL (aj bh (pv 1) ad) ad (aA _))
     (af (ay (i:=2) sc__law_alone.nd rfl (Or.inl rfl) (au nY (hr.mono) rfl mH mR nS .nil ak (aa (pv 0) (aa ad ac))))
       (ag (aq (bF (aa (bF (aa ao (aa (aw (aI (K:=K) rfl) (pv 0) ad (λ_ _=>rfl)) (aa (aj bh (aj bR (pv 1) ad) ad) ac)))) (aa (aj aR (aj aR (aw (aI (K:=K) rfl) (pv 2) ad (λ_ _=>rfl)) ao) (cm gX (by rfl) T.str_ PyProof.Rows.boot_str (aa (aj bh (aj bR (pv 1) ad) ad) ac))) (aa (aw (aI (K:=K) rfl) (pv 2) ad (λ_ _=>rfl)) (aa ad ac))))))))
     aJ)
   (af (ay (i:=3) sc__law_alone.nd rfl (Or.inl rfl) (aw (bS (K:=K) rfl) (ck (aa ao (aa ao ac))) (aj bh (aj bR (pv 1) ad) ad) (λ_ _=>rfl)))
   (ag (aq (bF (aa (bF (aa ao (aa (aw (aI (K:=K) rfl) (pv 0) ad (λ_ _=>rfl)) (aa (aj cG ad (aj bh (aj bR (pv 1) ad) ad)) ac)))) (aa (aj aR (aj aR (pv 3) (aw (aI (K:=K) rfl) (pv 0) ad (λ_ _=>rfl))) ao) (aa (aj cG (aw (aI (K:=K) rfl) (pv 0) ad (λ_ _=>rfl)) ad) (aa ad ac)))))))))),?_⟩
  refine am ⟨_,rfl,_,_,rfl,rfl,pos,_,_,rfl,rfl,_,rfl,ai (λh3=>?_) (λh3=>?_)⟩
  ·obtain⟨a1,a2⟩:=fM t 3 (tx t);refine aC ⟨_,rfl,av,q,t,3,rfl,hI,hl,λp H1 s1 ep=>?_⟩;have eq1:=s1 _ _ eq;refine aG ⟨_,rfl,q,_,_,_,rfl,rfl,SqT.of eq1,rfl,(sz 2),λp1 h1=>?_⟩;have s2:=Same.upd_new (o:=.tup [.str (Str.ofString "minus"),.ref pt]) h1;refine⟨_,rfl,p,_,_,_,rfl,rfl,SqT.of (s2 _ _ ep),rfl,_,_,rfl,rfl,?_,_,rfl,p,_,_,_,rfl,rfl,SqT.of (s2 _ _ ep),rfl,(sz 4),λp4 h4=>?_⟩
   ·rw[ey,ah,ah];simp;omega
   refine kk p4 (.minus t) _ (s1.trans (s2.then_new h4)) ⟨p1,?_,pt,(Same.upd_new h4) _ _ ap,hT.kp (aW (s1.trans (s2.then_new h4)))⟩ hO rfl ?_
   ·rw[ap,ey,ar];rfl
   ·show(wn 3 t (tx t)).length+1<=300;omega
  refine am ⟨_,rfl,_,_,rfl,rfl,pos,_,_,rfl,rfl,_,rfl,ai (λh4=>?_) (λh4=>?_)⟩
  ·obtain⟨k,ek,hk9⟩:=ce (c/3) 9 (by decide);obtain⟨a1,a2⟩:=fM t 4 (tx t);have k9:k<9:=Int.ofNat_lt.mp hk9;have lk:(al k).length<=2:=jc (Kz k9 (by decide));refine aC ⟨_,rfl,av,q,t,4,rfl,hI,hl,λp H1 s1 ep=>?_⟩;have eq1:=s1 _ _ eq;refine aG ⟨_,rfl,q,_,_,_,rfl,rfl,SqT.of eq1,rfl,_,rfl,_,_,rfl,rfl,cdp,_,_,rfl,rfl,pos,(sz 3),λp1 h1=>?_⟩;have s2:=Same.upd_new (o:=.tup [.str (Str.ofString "power"),.ref pt,.int (c/3%9)]) h1;refine⟨_,rfl,p,_,_,_,rfl,rfl,SqT.of (s2 _ _ ep),rfl,_,_,rfl,rfl,?_,_,rfl,_,_,rfl,rfl,cdp,_,_,rfl,rfl,pos,_,rfl,by rw[ek];exact vM (Ac (m:=9) hk9),_,_,rfl,rfl,?_,_,rfl,p,_,_,_,rfl,rfl,SqT.of (s2 _ _ ep),rfl,(sz 4),λp4 h4'=>?_⟩
   ·rw[iu,ah,ah];simp;omega
   ·rw[ek,txt_nat,iu,ar,ah,ah];simp;omega
   refine kk p4 (.power t k) _ (s1.trans (s2.then_new h4')) ⟨p1,?_,pt,?_,hT.kp (aW (s1.trans (s2.then_new h4')))⟩ ⟨hO,Nat.le_of_lt_succ k9⟩ rfl ?_
   ·rw[ap,ek,txt_nat,iu,ar,ar,J5];rfl
   ·rw[<- ek];exact(Same.upd_new h4') _ _ ap
   ·show(wn 4 t (tx t)++94::al k).length<=300;rw[J2,J4];omega
  obtain⟨k,ek,hk2⟩:=ce (c/3) 2 (by decide);have k2:k=0\/k=1:=by clear ek h3 h4 hl big;omega
  obtain⟨m,tt,hm,lm⟩:∃(m:List Nat),atI [V.str (Str.ofString "sqrt("),V.str (Str.ofString "cbrt(")] (c/3%2)=some (vS m)/\tx (.rooted t (2+k))=m++(tx t++[41])/\m.length=5:=by
   rw[ek,EC,EH];rcases k2 with rfl |rfl
   ·exact⟨wSqrt++[40],rfl,rfl,rfl⟩
   ·exact⟨wCbrt++[40],rfl,rfl,rfl⟩
  refine aC ⟨(sz 2),λp0 h0=>?_⟩;have s1:=Same.upd_new (o:=.lst [V.str (Str.ofString "sqrt("),V.str (Str.ofString "cbrt(")]) h0;refine⟨_,rfl,_,_,rfl,rfl,cdp,_,_,rfl,rfl,pos,p0,_,_,_,rfl,rfl,SqL.of ap,tt,?_⟩;refine aG ⟨_,rfl,q,_,_,_,rfl,rfl,SqT.of (s1 _ _ eq),rfl,_,rfl,_,_,rfl,rfl,cdp,_,_,rfl,rfl,pos,_,_,rfl,rfl,(sz 3),λp1 h1=>?_⟩;have s2:=s1.then_new (o:=.tup [.str (Str.ofString "rooted"),.ref pt,.int (2+c/3%2)]) h1;refine⟨_,rfl,_,rfl,q,_,_,_,rfl,rfl,SqT.of (s2 _ _ eq),rfl,_,_,rfl,rfl,?_,_,_,rfl,rfl,?_,_,rfl,q,_,_,_,rfl,rfl,SqT.of (s2 _ _ eq),rfl,_,_,rfl,rfl,(sz 4),λp4 h4'=>?_⟩
  ·rw[ah,ah];omega
  ·rw[eD,ar,ah,ah];simp;omega
  refine kk p4 (.rooted t (2+k)) _ (s2.then_new h4') ⟨p1,?_,pt,?_,hT.kp (aW (s2.then_new h4'))⟩ ⟨hO,k2.imp (λz=>by rw[z]) (λz=>by rw[z])⟩ rfl ?_
  ·rw[ap,eD,ar,ar,hm,J5];rfl
  ·rw[show((2+k:Nat):Int)=2+c/3%2 by rw[ek];rfl];exact(Same.upd_new h4') _ _ ap
  ·rw[hm,J2,J2,lm];show 5+(_+1)<=300;omega
theorem ED:V.str (Str.ofString " + ")=vS [32,43,32]:=by rw[de]
theorem EE:V.str (Str.ofString " - ")=vS [32,45,32]:=by rw[df]
theorem EB:V.str (Str.ofString "*")=vS [42]:=by rw[cI]
theorem EF:V.str (Str.ofString "/")=vS [47]:=by rw[jg]
theorem FM(a b:Nat):(if(b:Int)>(a:Int)then(b:Int)else(a:Int))=((max a b:Nat):Int):=by split<;>omega
abbrev opM:List V:=[V.str (Str.ofString " + "),V.str (Str.ofString " - "),V.str (Str.ofString "*"),V.str (Str.ofString "/")]
abbrev opN:List V:=[V.str (Str.ofString "sum"),V.str (Str.ofString "less"),V.str (Str.ofString "times"),V.str (Str.ofString "over")]
theorem vc(t:PT)(l:List Nat):wn 0 t l=l:=by unfold wn;rw[if_neg (by omega)]
theorem vf(t:PT)(d:Nat):wd 0 t d=d:=by unfold wd;rw[if_neg (by omega)]
structure BoF(t1 t2 t:PT)(o:Nat)(m:List Nat):Prop where
 x:tx t=wn (o/2) t1 (tx t1)++m++wn (o/2+1) t2 (tx t2)
 d:dep t=max (wd (o/2) t1 (dep t1)) (wd (o/2+1) t2 (dep t2))
 r:rk t=o/2
 ok:OkT t1->OkT t2->OkT t
 h:t.hgt=max t1.hgt t2.hgt+1
 l:m.length<=3
theorem HW(av:Addr)(t1 t2:PT){o:Nat}(h:o<4):∃(m:List Nat) (nm:Str) (t:PT),atI opM (o:Int)=some (vS m)/\atI opN (o:Int)=some (.str nm)/\BoF t1 t2 t o m/\∀{H:Hp} {p pa pb:Addr},H p=some (.tup [.str nm,.ref pa,.ref pb])->LtH av H t1 pa->LtH av H t2 pb->LtH av H t p:=by
 unfold opM;rw[ED,EE,EB,EF];have:o=0\/o=1\/o=2\/o=3:=by omega
 rcases this with rfl |rfl |rfl |rfl
 ·exact⟨[32,43,32],_,.sum t1 t2,rfl,rfl,⟨by show tx t1++32::43::32::wn 1 t2 (tx t2)=wn 0 t1 (tx t1)++[32,43,32]++wn 1 t2 (tx t2);rw[vc,J5];rfl,by show max (dep t1) (wd 1 t2 (dep t2))=max (wd 0 t1 (dep t1)) (wd 1 t2 (dep t2));rw[vf],rfl,λa b=>⟨a,b⟩,rfl,by decide⟩,λe a b=>⟨_,_,e,a,b⟩⟩
 ·exact⟨[32,45,32],_,.less t1 t2,rfl,rfl,⟨by show tx t1++32::45::32::wn 1 t2 (tx t2)=wn 0 t1 (tx t1)++[32,45,32]++wn 1 t2 (tx t2);rw[vc,J5];rfl,by show max (dep t1) (wd 1 t2 (dep t2))=max (wd 0 t1 (dep t1)) (wd 1 t2 (dep t2));rw[vf],rfl,λa b=>⟨a,b⟩,rfl,by decide⟩,λe a b=>⟨_,_,e,a,b⟩⟩
 ·exact⟨[42],_,.times t1 t2,rfl,rfl,⟨by rw[J5];rfl,rfl,rfl,λa b=>⟨a,b⟩,rfl,by decide⟩,λe a b=>⟨_,_,e,a,b⟩⟩
 ·exact⟨[47],_,.over t1 t2,rfl,rfl,⟨by rw[J5];rfl,rfl,rfl,λa b=>⟨a,b⟩,rfl,by decide⟩,λe a b=>⟨_,_,e,a,b⟩⟩
def qK:Sp:=λvs H Q _=>∃(av q1 q2:Addr) (t1 t2:PT) (c:Int),vs=[.ref q1,.ref q2,.int c]/\ItH av H t1 q1/\ItH av H t2 q2/\OkT t1/\OkT t2/\(tx t1).length<=200/\(tx t2).length<=200/\∀(p:Addr) (t':PT) (H':Hp),Same H H'->ItH av H' t' p->OkT t'->t'.hgt=max t1.hgt t2.hgt+1->(tx t').length<=500->Q (.ref p) H'
theorem C0{f:Addr}{fd:FuncData}(F:Fun K "_law_both" "_law_both" kA f fd)(T:Txt K mg){sZ:Addr}{sL:FuncData}(u9:Cal P w K mg base 1 "_law_within" ["_law_one","_law_rank"] ou sZ sL):FnOk P w K mg base CX0 2 f fd ["_law_one","_law_other","_law_cell"] qK:=by
 obtain⟨nY,mH,mR,nS⟩:=u9;refine F.ok sc__law_both (λvs H Q E h=>?_) (λcdv A outer s H vs Q E hr h=>?_)
 ·obtain⟨av,q1,q2,t1,t2,c,rfl,_⟩:=h;rfl
 ·obtain⟨av,q1,q2,t1,t2,c,rfl,hI1,hI2,hO1,hO2,hl1,hl2,kk⟩:=h;have big:=sizeLine_eq;obtain⟨o,eo,ho⟩:=ce c 4 (by decide);have e2:c%4/2=((o/2:Nat):Int):=by rw[eo];rfl
  obtain⟨m,nm,t',a1,a2,B,lt⟩:=HW av t1 t2 (o:=o) (by omega);rw[<- eo]at a1 a2;obtain⟨w1,w2⟩:=fM t1 (o/2) (tx t1);obtain⟨w3,w4⟩:=fM t2 (o/2+1) (tx t2);have lm:=B.l
  refine⟨_,(af (ay (i:=3) sc__law_both.nd rfl (Or.inl rfl) (aj bh (pv 2) ad))
   (af (ay (i:=4) sc__law_both.nd rfl (Or.inl rfl) (au nY (hr.mono) rfl mH mR nS .nil ak (aa (pv 0) (aa (aj bR (pv 3) ad) ac))))
   (af (ay (i:=5) sc__law_both.nd rfl (Or.inl rfl) (au nY (hr.mono) rfl mH mR nS .nil ak (aa (pv 1) (aa (aj cG (aj bR (pv 3) ad) ad) ac))))
   (af (ay (i:=6) sc__law_both.nd rfl (Or.inl rfl) (aj aR (aj aR (aw (aI (K:=K) rfl) (pv 4) ad (λ_ _=>rfl)) (aw (bS (K:=K) rfl) (ck (aa ao (aa ao (aa ao (aa ao ac))))) (pv 3) (λ_ _=>rfl))) (aw (aI (K:=K) rfl) (pv 5) ad (λ_ _=>rfl))))
   (ag (aq (bF (aa (bF (aa (aw (bS (K:=K) rfl) (ck (aa ao (aa ao (aa ao (aa ao ac))))) (pv 3) (λ_ _=>rfl)) (aa (aw (aI (K:=K) rfl) (pv 0) ad (λ_ _=>rfl)) (aa (aw (aI (K:=K) rfl) (pv 1) ad (λ_ _=>rfl)) ac)))) (aa (pv 6) (aa (aO (yx rfl) (by rfl) T.max_ PyProof.Rows.boot_max (aa (aw (aI (K:=K) rfl) (pv 4) ad (λ_ _=>rfl)) (aa (aw (aI (K:=K) rfl) (pv 5) ad (λ_ _=>rfl)) ac))) (aa (aj bR (pv 3) ad) ac))))))))))),?_⟩
  refine aC ⟨_,rfl,_,_,rfl,rfl,pos,?_⟩;refine aC ⟨_,rfl,_,rfl,_,_,rfl,rfl,cdp,av,q1,t1,o/2,by rw[<- e2];rfl,hI1,hl1,λp1 H1 s1 ep1=>?_⟩;have hI2':=hI2.kp (aW s1);refine aC ⟨_,rfl,_,rfl,_,_,rfl,rfl,cdp,_,_,rfl,rfl,av,q2,t2,o/2+1,by rw[Int.natCast_add,<- e2];rfl,hI2',hl2,λp2 H2 s2 ep2=>?_⟩;have ep1':=s2 _ _ ep1;have s02:=s1.trans s2;obtain⟨pt1,eq1,hT1⟩:=hI1.kp (aW s02);obtain⟨pt2,eq2,hT2⟩:=hI2'.kp (aW s2);refine aC ⟨_,rfl,p1,_,_,_,rfl,rfl,SqT.of ep1',rfl,(sz 4),λp3 h3=>⟨_,rfl,p3,_,_,_,rfl,rfl,SqL.of ap,a1,_,_,rfl,rfl,?_,_,rfl,p2,_,_,_,rfl,rfl,SqT.of ((Same.upd_new h3) _ _ ep2),rfl,_,_,rfl,rfl,?_,?_⟩⟩
  ·rw[ah,ah];clear eo e2 a1 a2;omega
  ·rw[ar,ah,ah,J2];clear eo e2 a1 a2;omega
  have r3:=Same.upd_new (o:=.lst opM) h3;refine aG ⟨(sz 4),λp7 h7=>?_⟩;have r7:=r3.then_new (o:=.lst opN) h7;refine⟨_,rfl,p7,_,_,_,rfl,rfl,SqL.of ap,a2,_,rfl,q1,_,_,_,rfl,rfl,SqT.of (r7 _ _ eq1),rfl,_,rfl,q2,_,_,_,rfl,rfl,SqT.of (r7 _ _ eq2),rfl,(sz 3),λp8 h8=>?_⟩;have r8:=r7.then_new (o:=.tup [.str nm,.ref pt1,.ref pt2]) h8;refine⟨_,rfl,_,rfl,p1,_,_,_,rfl,rfl,SqT.of (r8 _ _ ep1'),rfl,_,rfl,p2,_,_,_,rfl,rfl,SqT.of (r8 _ _ ep2),rfl,_,_,rfl,_,rfl,_,_,rfl,rfl,cdp,(sz 4),λp9 h9=>?_⟩;have r9:=r8.then_new (o:=.tup [.ref p8,.str (stL (wn (o/2) t1 (tx t1))++stL m++stL (wn (o/2+1) t2 (tx t2))),.int (if(wd (o/2+1) t2 (dep t2):Int)>(wd (o/2) t1 (dep t1):Int)then(wd (o/2+1) t2 (dep t2):Int)else(wd (o/2) t1 (dep t1):Int)),.int (c%4/2)]) h9;refine kk p9 t' _ (s02.trans r9) ⟨p8,?_,lt ((Same.upd_new h9) _ _ ap) (hT1.kp (aW r9)) (hT2.kp (aW r9))⟩ (B.ok hO1 hO2) B.h ?_
  ·rw[show vS (tx t')=V.str (stL (wn (o/2) t1 (tx t1))++stL m++stL (wn (o/2+1) t2 (tx t2))) by rw[ar,ar,<- B.x],B.d,B.r,<- FM,<- e2];exact ap
  ·rw[B.x,J2,J2];clear eo e2 a1 a2;omega
theorem IP{j:Nat}(h:j<26):atI (Str.ofString "abcdefghijklmnopqrstuvwxyz").cps.toList (j:Int)=some (j+97):=by
 have:∀j:Nat,j<26->atI (Str.ofString "abcdefghijklmnopqrstuvwxyz").cps.toList (j:Int)=some (j+97):=by decide +kernel
 exact this j h
theorem EA:V.str (Str.ofString "y")=vS [121]:=by rw[show Str.ofString "y"=stL [121] by decide +kernel]
def pY:Sp:=λvs H Q _=>∃c:Int,vs=[.int c]/\∀(m:List Nat) (H':Hp),cS m=true->Same H H'->Q (vS m) H'
theorem CK{f:Addr}{fd:FuncData}(F:Fun K "_law_word" "_law_word" km f fd)(T:Txt K mg):FnOk P w K mg base CX0 1 f fd ["_law_cell"] pY:=by
 refine F.ok sc__law_word (λvs H Q E h=>?_) (λcdv A outer s H vs Q E hr h=>?_)
 ·obtain⟨c,rfl,_⟩:=h;rfl
 ·obtain⟨c,rfl,k⟩:=h;have big:=sizeLine_eq
  refine⟨_,(af (ay (i:=1) sc__law_word.nd rfl (Or.inl rfl) ao)
   (af (ay (i:=2) sc__law_word.nd rfl (Or.inl rfl) (aj cG ad (aj bh (pv 0) ad)))
   (af (ay (i:=3) sc__law_word.nd rfl (Or.inl rfl) ao)
   (af (gF PassesOwn.never rfl (mr rfl T.range_ (aa (aj cG ad (aj bh (pv 0) ad)) ac)) (dZ (i:=4) sc__law_word.nd rfl (Or.inl rfl))
     (af (ay (i:=2) sc__law_word.nd rfl (Or.inl rfl) (aj bh (aj d5 (pv 2) ad) ad))
       (ag (ay (i:=3) sc__law_word.nd rfl (Or.inl rfl) (aj aR (pv 3) (aw jj (pv 1) (aj bh (aj bR (pv 2) ad) (aw (bS (K:=K) rfl) (ck (aa ad (aa ad ac))) (aj bh (aj bR (pv 0) ad) ad) (λ_ _=>rfl))) (λ_ _=>rfl)))))))
   (af (aH (aF (my (K:=K) rfl) (pv 3) (bF (aa ao (aa ao (aa ao (aa ao ac))))) (by rfl))
     (ag (aq ao))
     aJ)
   (ag (aq (pv 3)))))))),?_⟩
  refine aC (aC ⟨_,rfl,_,_,rfl,rfl,pos,_,_,rfl,rfl,aC ?_⟩);obtain⟨n8,e8,l8⟩:=ce c 8 (by decide);obtain⟨n2,e2,l2⟩:=ce (c/8) 2 (by decide);obtain⟨t0,et0,lt0⟩:=ce c 2147483646 (by decide);have h8:(1+c%8).toNat=n8+1:=by rw[e8];omega
  refine⟨_,rfl,_,_,rfl,rfl,pos,_,_,rfl,rfl,_,rfl,by rw[e8];omega,by rw[e8];omega,pq (lo:=0) (λi σ' H'=>∃(z4:Option V) (tn:Int) (X:List Nat),σ'=[some (.int c),some (.str (Str.ofString "abcdefghijklmnopqrstuvwxyz")),some (.int tn),some (vS X),z4]/\Same H H'/\Bits 100 tn/\X.length=i/\∀a∈X,isA a=true) ⟨none,_,[],rfl,Same.refl _,?_,rfl,λa ha=>(nomatch ha)⟩ ?_ ?_⟩
  ·rw[et0];exact J9 (show(1+(t0:Int)).natAbs<2147483648 by omega) (by decide)
  ·rintro i σ' H' hi ⟨z4,tn,X,rfl,sm,bt,hX,hA⟩;rw[h8]at hi;obtain⟨t1,e1,l1⟩:=ce (tn*48271) 2147483647 (by decide)
   obtain⟨D,aD,dD,hD⟩:∃D:Int,atI [V.int 26,V.int 4] (c/8%2)=some (.int D)/\0<D/\D<=26:=by
    rw[e2];rcases Nat.lt_or_ge n2 1 with h |h
    ·have:n2=0:=by omega
     subst this;exact⟨26,rfl,by decide,by decide⟩
    ·have:n2=1:=by omega
     subst this;exact⟨4,rfl,by decide,by decide⟩
   obtain⟨j,ej,lj⟩:=ce (tn*48271%2147483647/3) D dD;dsimp only
   refine aC ⟨_,rfl,_,_,rfl,rfl,⟨bt.mono,Bits.mono (j:=64) (by show(48271:Int).natAbs<2^64;decide) (by decide)⟩,_,_,rfl,rfl,pos,?_⟩;refine bJ ⟨_,rfl,_,rfl,_,rfl,_,_,rfl,rfl,cdp,by show 2<=sizeLine;omega,λp1 h1=>⟨_,rfl,_,_,rfl,rfl,cdp,_,_,rfl,rfl,pos,p1,_,_,_,rfl,rfl,SqL.of ap,aD,_,_,rfl,rfl,dD,_,_,j+97,rfl,rfl,by show(26:Nat)<=sizeLine;omega,by rw[ej];exact IP (by omega),_,_,rfl,rfl,?_,?_⟩⟩
   ·show(stL X).length+1<=sizeLine;rw[ah];omega
   ·refine⟨_,tn*48271%2147483647,X++[j+97],by rw[show vS (X++[j+97])=.str (stL X++stL [j+97]) by rw[ar]];rfl,sm.then_new h1,?_,by rw[J2,hX];rfl,λa ha=>?_⟩
    ·rw[e1];exact J9 (show((t1:Nat):Int).natAbs<2147483647 by omega) (by decide)
    ·rcases Ke.mp ha with h |h
     ·exact hA a h
     ·rw[Kb.mp h];unfold isA;rw[decide_eq_true (by omega),decide_eq_true (by omega)];rfl
  ·rintro σ' H' ⟨z4,tn,X,rfl,sm,bt,hX,hA⟩;rw[h8]at hX;dsimp only
   refine am ⟨_,rfl,by show 4<=sizeLine;omega,λpt hpt=>?_⟩;have s1:=sm.then_new (o:=.tup [V.str (Str.ofString "x"),V.str (Str.ofString "sqrt"),V.str (Str.ofString "cbrt"),V.str (Str.ofString "root")]) hpt;refine⟨pt,_,rfl,.inr (SqT.of ap),rfl,by decide,_,rfl,?_⟩;show if(inV (.str (stL X)) [.str (Str.ofString "x"),.str (Str.ofString "sqrt"),.str (Str.ofString "cbrt"),.str (Str.ofString "root")])=true then _ else _
   rw[xL];refine ai (λh=>?_) (λh=>?_)
   ·refine aG ?_;show Q (V.str (Str.ofString "y")) _;rw[EA];exact k [121] _ (by decide) s1
   ·refine aG ⟨_,rfl,k X _ ?_ s1⟩;unfold cS;rw[decide_eq_true (show X≠[]fromλz=>by rw[z]at hX;cases hX),Kp.mpr hA,decide_eq_true (show X.length<=8 by omega),decide_eq_false h];rfl
def qz:Sp:=λvs H Q _=>∃k:Nat,vs=[.int (k:Int)]/\k<2^1000/\Q (.str (stL (120::if k=1 then[]else 94::al k))) H
theorem Ez{n:Nat}(h:n<2^1000):((n:Int)).natAbs.log2<1920:=by rw[KJ];exact Kz (se h (by decide)) (by decide)
theorem CP{f:Addr}{fd:FuncData}(F:Fun K "_law_power" "_law_power" kt f fd)(T:Txt K mg):FnOk P w K mg base CX0 1 f fd ["_law_k"] qz:=by
 refine F.ok AJ (λvs H Q E h=>?_) (λcdv A outer s H vs Q E hr h=>?_)
 ·obtain⟨k,rfl,_⟩:=h;rfl
 ·obtain⟨n,rfl,hn,k⟩:=h;have big:=sizeLine_eq;have l1:=mz hn
  refine⟨_,(af (aH (aF bL (pv 0) ad (aA _))
   (ag (aq ao))
   aJ)
   (ag (aq (aj aR ao (cm gX (by rfl) T.str_ PyProof.Rows.boot_str (aa (pv 0) ac)))))),?_⟩
  refine am ⟨_,rfl,_,_,rfl,rfl,_,rfl,ai (λh0=>?_) (λh0=>?_)⟩
  ·have h0':n=1:=by have:(n:Int)=1:=h0;omega
   rw[if_pos h0',<- lD]at k;exact k
  ·have h0':¬n=1:=by have:¬(n:Int)=1:=h0;omega
   refine⟨_,rfl,_,rfl,Ez hn,_,_,rfl,rfl,?_,?_⟩
   ·rw[RM.txt_nat,oW,ah,ah];simp;omega
   ·rw[RM.txt_nat,oW,ar];rw[if_neg h0']at k;exact k
theorem FT(j:Int):(hfP j).2=1\/((hfP j).2=2/\(hfP j).1%2=1):=by
 unfold hfP;split
 ·exact .inl rfl
 ·exact .inr ⟨rfl,by show j%2=1;omega⟩
theorem FU{j:Int}(h:j.natAbs<100):(hfP j).1.natAbs<100:=by
 unfold hfP;split
 ·show(j/2).natAbs<100;omega
 ·exact h
theorem g9(v:Int):Str.ofString (toString v)=stL (inT v):=iN v
def qC:Sp:=λvs H Q _=>∃j:Int,vs=[.int j]/\j.natAbs<100/\Q (vS (frT (hfP j))) H
theorem xn:Str.ofString "/2"=stL (47::al 2):=by decide +kernel
theorem CV{f:Addr}{fd:FuncData}(F:Fun K "_law_half" "_law_half" kv f fd)(T:Txt K mg):FnOk P w K mg base CX0 1 f fd ["_law_many"] qC:=by
 refine F.ok AK (λvs H Q E h=>?_) (λcdv A outer s H vs Q E hr h=>?_)
 ·obtain⟨j,rfl,_⟩:=h;rfl
 ·obtain⟨j,rfl,hj,k⟩:=h;have big:=sizeLine_eq
  refine⟨_,(af (aH (aF bL (aj bh (pv 0) ad) ad (aA _))
   (ag (aq (cm gX (by rfl) T.str_ PyProof.Rows.boot_str (aa (aj bR (pv 0) ad) ac))))
   aJ)
   (ag (aq (aj aR (cm gX (by rfl) T.str_ PyProof.Rows.boot_str (aa (pv 0) ac)) ao)))),?_⟩
  refine am ⟨_,rfl,_,_,rfl,rfl,pos,_,_,rfl,rfl,_,rfl,ai (λh0=>?_) (λh0=>?_)⟩
  ·have h0':j%2=0:=h0;refine aG ⟨_,rfl,_,_,rfl,rfl,cdp,_,rfl,oV (by omega),?_⟩;rw[g9];unfold hfP frT at k
   rw[if_pos h0',if_pos rfl,Kk]at k;exact k
  ·have h0':¬j%2=0:=h0;have l1:=mW hj;refine aG ⟨_,rfl,_,rfl,oV hj,_,_,rfl,rfl,?_,?_⟩
   ·rw[g9,xn,ah,ah];have:(47::al 2).length=2:=by decide +kernel
    omega
   ·rw[g9,xn,ar];unfold hfP frT at k
    rw[if_neg h0',if_neg (show ¬(j,(2:Int)).2=1 from by show ¬(2:Int)=1;decide)]at k;exact k
noncomputable def lx(l:List Int):Nat->List Nat
 |0=>[]
 |n+1=>if cf l n=0 then lx l n else(if cf l n<0 then[45]else[])++tmT (cf l n).natAbs n++ptT l n
theorem vr(s k:Nat):∃c r,tmT s k=c::r/\c≠45:=by
 have nm:∀n:Nat,∃c r,al n=c::r/\c≠45:=λn=>by obtain⟨c,r,e⟩:=Kq (ik n);refine⟨c,r,e,λz=>?_⟩;have:=gK n c (by rw[e];simp);rw[z]at this;exact absurd this (by decide)
 unfold tmT;split
 ·exact nm s
 ·split
  ·exact⟨120,_,rfl,by decide⟩
  ·obtain⟨c,r,e,h⟩:=nm s;rw[e];exact⟨c,_,rfl,h⟩
theorem rY(l:List Int):∀n,(lx l n=[]/\ptT l n=[])\/(∃r,lx l n=45::r/\ptT l n=[32,45,32]++r)\/∃c r,lx l n=c::r/\c≠45/\ptT l n=[32,43,32]++lx l n
 |0=>.inl ⟨rfl,rfl⟩
 |n+1=>by
  by_cases h:cf l n=0
  ·have e1:lx l (n+1)=lx l n:=by show(if cf l n=0 then _ else _)=_;rw[if_pos h]
   have e2:ptT l (n+1)=ptT l n:=by show(if cf l n=0 then _ else _)++_=_;rw[if_pos h];rfl
   rw[e1,e2];exact rY l n
  ·have e1:lx l (n+1)=(if cf l n<0 then[45]else[])++tmT (cf l n).natAbs n++ptT l n:=by show(if cf l n=0 then _ else _)=_;rw[if_neg h]
   have e2:ptT l (n+1)=[32,if cf l n<0 then 45 else 43,32]++tmT (cf l n).natAbs n++ptT l n:=by show(if cf l n=0 then _ else _)++_=_;rw[if_neg h]
   right;by_cases hs:cf l n<0
   ·left;rw[e1,e2,if_pos hs,if_pos hs];exact⟨tmT (cf l n).natAbs n++ptT l n,rfl,by rw[J5]⟩
   ·right;rw[e1,e2,if_neg hs,if_neg hs];obtain⟨c,r,e,hc⟩:=vr (cf l n).natAbs n;exact⟨c,r++ptT l n,by rw[e];rfl,hc,by rw[J5];rfl⟩
theorem rZ{l:List Int}(h:Tr l)(hn:l≠[]):lx l l.length=plT l:=by have hl:=List.length_pos_iff.mpr hn;obtain⟨d,hd⟩:∃d,l.length=d+1:=⟨l.length-1,by omega⟩;have h0:cf l d≠0:=h d hd;rw[hd];show(if cf l d=0 then _ else _)=_;unfold plT;rw[if_neg h0,if_neg hn,hd];rfl
theorem pR{s k:Nat}(hs:s<100)(hk:k<100):(tmT s k).length<=7:=by
 have h1:=jc hs;have h2:=jc hk;unfold tmT;split
 ·omega
 ·rw[J2,J4];split<;>split<;>simp<;>omega
theorem qY{l:List Int}(h:∀k,(cf l k).natAbs<100):∀n,n<100->(ptT l n).length<=10*n
 |0,_=>Kj _
 |n+1,hn=>by
  have ih:=qY h n (by omega);have h1:=pR (h n) (k:=n) (by omega);unfold ptT;rw[J2];split
  ·simp;omega
  ·rw[J2];simp;omega
theorem sd{l:List Int}(h:∀k,(cf l k).natAbs<100):∀n,n<100->(lx l n).length<=10*n
 |0,_=>Kj _
 |n+1,hn=>by
  have ih:=sd h n (by omega);have h1:=pR (h n) (k:=n) (by omega);have h2:=qY h n (by omega);unfold lx;split
  ·omega
  ·rw[J2,J2];split<;>simp<;>omega
def qj:Sp:=λvs H Q _=>∃(a:Addr) (ns:List Int),vs=[.ref a]/\H a=some (.lst (ns.map V.int))/\ns.length<=9/\Tr ns/\(∀k,(cf ns k).natAbs<100)/\∀H',Same H H'->Q (vS (plT ns)) H'
def PxI(a:Addr)(ns:List Int)(H:Hp)(i:Nat)(c:Int)(tm:List Nat)(σ':St)(H':Hp):Prop:=σ'=[some (.ref a),some (vS (lx ns i)),some (.int (i:Int)),some (.int (c.natAbs:Int)),some (vS tm)]/\Same H H'
theorem eqv_nil{l:List Nat}:(V.str (stL l)=V.str (Str.ofString ""))↔l=[]:=by rw[lE];exact⟨λh=>stL_inj.mp (V.str.inj h),λh=>by rw[h]⟩
theorem eqv_dash{c:Nat}:(V.str ⟨#[c]⟩=V.str (Str.ofString "-"))↔c=45:=by
 rw[ey];constructor
 ·intro z;have z2:([c]:List Nat)=[45]:=congrArg (λs:Str=>s.cps.toList) (V.str.inj z);exact List.head_eq_of_cons_eq z2
 ·intro z;rw[z];rfl
theorem CQ{f:Addr}{fd:FuncData}(F:Fun K "_law_poly_text" "_law_poly_text" ku f fd)(T:Txt K mg){G7:Addr}{GG:FuncData}(JL:Cal P w K mg base 1 "_law_power" ["_law_k"] qz G7 GG):FnOk P w K mg base CX0 2 f fd ["_law_kp"] qj:=by
 obtain⟨y3,xi,xD,yN⟩:=JL;refine F.ok sc__law_poly_text (λvs H Q E h=>?_) (λcdv A outer s H vs Q E hr h=>?_)
 ·obtain⟨a,ns,rfl,_⟩:=h;rfl
 ·obtain⟨a,ns,rfl,hA,hn,ht,hb,k⟩:=h;have big:=sizeLine_eq
  refine⟨_,(af (ay (i:=1) sc__law_poly_text.nd rfl (Or.inl rfl) ao)
   (af (gF PassesOwn.never rfl (mr rfl T.range_ (aa (aO (dF (K:=K) rfl) (by rfl) T.len_ PySem.boot_len (aa (pv 0) ac)) ac)) (dZ (i:=2) sc__law_poly_text.nd rfl (Or.inl rfl))
     (af (ay (i:=3) sc__law_poly_text.nd rfl (Or.inl rfl) (aO lO (by rfl) T.abs_ PyProof.Rows.boot_abs (aa (aw (bS (K:=K) rfl) (pv 0) (pv 2) (λ_ _=>rfl)) ac)))
       (af (ay (i:=4) sc__law_poly_text.nd rfl (Or.inl rfl) (cm gX (by rfl) T.str_ PyProof.Rows.boot_str (aa (pv 3) ac)))
       (af (aH (PW.pt (ib (aF dq (pv 2) ad (aA _)) (iW (aF bL (pv 3) ad (aA _)))))
         (ag (ay (i:=4) sc__law_poly_text.nd rfl (Or.inl rfl) (au y3 (hr.mono) rfl xi xD yN .nil ak (aa (pv 2) ac))))
         aJ)
       (af (aH (PW.pt (ib (aF dq (pv 2) ad (aA _)) (iW (aF dq (pv 3) ad (aA _)))))
         (ag (ay (i:=4) sc__law_poly_text.nd rfl (Or.inl rfl) (aj aR (aj aR (pv 4) ao) (au y3 (hr.mono) rfl xi xD yN .nil ak (aa (pv 2) ac)))))
         aJ)
       (af (aH (PW.pt (ib (aF dq (pv 3) ad (aA _)) (iW (aF iZ (pv 1) ao (aA _)))))
         (ag (ay (i:=4) sc__law_poly_text.nd rfl (Or.inl rfl) (BT aR (aj aR (pv 4) (aw (bS (K:=K) rfl) (ck (aa ao (aa ao ac))) (cm tU (by rfl) T.int_ PyProof.Rows.boot_int (aa (bQ iZ (aw jj (pv 1) ad (λ_ _=>rfl)) ao (aA _)) ac)) (λ_ _=>rfl))) (FG (FE FH)) (BR (pv 1) (cm tU (by rfl) T.int_ PyProof.Rows.boot_int (aa (bQ bA (aw jj (pv 1) ad (λ_ _=>rfl)) ao (aA _)) ac))))))
         aJ)
       (af (aH (aF d7 (aw (bS (K:=K) rfl) (pv 0) (pv 2) (λ_ _=>rfl)) ad (aA _))
         (ag (ay (i:=4) sc__law_poly_text.nd rfl (Or.inl rfl) (aj aR ao (pv 4))))
         aJ)
       (ag (aH (aF dq (pv 3) ad (aA _))
         (ag (ay (i:=1) sc__law_poly_text.nd rfl (Or.inl rfl) (pv 4)))
         aJ)))))))))
   (af (aH (aF bA (pv 1) ao (aA _))
     (ag (aq ao))
     aJ)
   (ag (aq (pv 1)))))),?_⟩
  refine aC ?_;refine⟨_,rfl,a,_,rfl,.inl (SqL.of hA),_,rfl,?_,?_,pq (lo:=0) (λi σ' H'=>∃(z2 z3 z4:Option V),σ'=[some (.ref a),some (vS (lx ns i)),z2,z3,z4]/\Same H H') ⟨none,none,none,by rw[show vS (lx ns 0)=V.str (Str.ofString "") by rw[lE];rfl];rfl,Same.refl _⟩ ?_ ?_⟩
  ·rw[J6];omega
  ·rw[J6];omega
  ·rintro i σ' H1 hi ⟨z2,z3,z4,rfl,s1⟩;rw[J6]at hi;have hi9:i<ns.length:=by omega
   have i100:i<100:=by omega
   have aE:atI (ns.map V.int) (0+(i:Int))=some (.int (cf ns i)):=uq (by omega) hi9;have hc:=hb i;have l0:=sd hb i i100;have l1:=qY hb i i100;have l2:=pR hc (k:=i) i100;have l3:=jc hc;generalize ec:cf ns i=c at aE hc l2 l3
   dsimp only
   refine aC ⟨_,rfl,_,rfl,a,_,_,_,rfl,rfl,SqL.of (s1 _ _ hA),aE,_,rfl,?_⟩;rw[iG];refine aC ⟨_,rfl,_,rfl,oV (by rw[KJ];exact hc),?_⟩;rw[RM.txt_nat];show cY _ _ _ _ _;refine hZ (PxI a ns H i c (al c.natAbs)) ⟨by rw[KI];rfl,s1⟩ ?_;clear s1;rintro σ' H2 ⟨rfl,s2⟩;refine ia (λσ' H'=>PxI a ns H i c (if 0<i/\c.natAbs=1 then 120::(if i=1 then[]else 94::al i)else al c.natAbs) σ' H') ?_ (λrest=>?_)
   rotate_left
   ·refine dk ⟨_,rfl,_,_,rfl,rfl,_,rfl,ai (λh1=>?_) (λh1=>aM (rest _ _ ⟨?_,s2⟩))⟩
    ·refine⟨_,rfl,_,_,rfl,rfl,_,rfl,ai (λh2=>?_) (λh2=>rest _ _ ⟨?_,s2⟩)⟩
     ·have h1':0<i:=by have:(i:Int)>0:=h1;omega
      have h2':c.natAbs=1:=by have:((c.natAbs:Nat):Int)=1:=h2;omega
      refine bJ ⟨_,rfl,i,rfl,Kz i100 (by decide +kernel),rest _ _ ⟨?_,s2⟩⟩;rw[if_pos (show 0<i/\c.natAbs=1 from⟨h1',h2'⟩)];rfl
     ·rw[if_neg (show ¬(0<i/\c.natAbs=1)fromλz=>h2 (by show((c.natAbs:Nat):Int)=1;rw[z.2];rfl))]
    ·rw[if_neg (show ¬(0<i/\c.natAbs=1)fromλz=>h1 (by show(i:Int)>0;omega))]
   clear s2;rintro σ' H2 ⟨rfl,s2⟩;refine ia (λσ' H'=>PxI a ns H i c (if c.natAbs=0 then al 0 else tmT c.natAbs i) σ' H') ?_ (λrest=>?_)
   rotate_left
   ·refine dk ⟨_,rfl,_,_,rfl,rfl,_,rfl,ai (λh1=>?_) (λh1=>aM (rest _ _ ⟨?_,s2⟩))⟩
    ·have h1':0<i:=by have:(i:Int)>0:=h1;omega
     refine⟨_,rfl,_,_,rfl,rfl,_,rfl,ai (λh2=>?_) (λh2=>rest _ _ ⟨?_,s2⟩)⟩
     ·have h2':1<c.natAbs:=by have:((c.natAbs:Nat):Int)>1:=h2;omega
      have n1:¬(0<i/\c.natAbs=1):=λz=>by omega
      rw[if_neg n1];have l4:=jc i100;refine bJ ⟨_,rfl,_,_,rfl,rfl,?_,_,rfl,i,rfl,Kz i100 (by decide +kernel),_,_,rfl,rfl,?_,rest _ _ ⟨?_,s2⟩⟩
      ·rw[cI,ah,ah];simp;omega
      ·rw[cI,ar,ah,ah];by_cases e1:i=1
       ·rw[if_pos e1];simp;omega
       ·rw[if_neg e1];simp;omega
      ·rw[cI,ar,ar,if_neg (show ¬c.natAbs=0 by omega)]
       have:tmT c.natAbs i=al c.natAbs++[42]++(120::if i=1 then[]else 94::al i):=by unfold tmT;rw[if_neg (by omega),if_neg (by omega)]
       rw[this];rfl
     ·have h2':¬1<c.natAbs:=λz=>h2 (by show((c.natAbs:Nat):Int)>1;omega)
      by_cases e1:c.natAbs=1
      ·rw[if_pos (show 0<i/\c.natAbs=1 from⟨h1',e1⟩),if_neg (show ¬c.natAbs=0 by omega),e1]
       have:tmT 1 i=120::if i=1 then[]else 94::al i:=by unfold tmT;rw[if_neg (by omega),if_pos rfl];rfl
       rw[this]
      ·have e0:c.natAbs=0:=by omega
       rw[if_neg (show ¬(0<i/\c.natAbs=1)fromλz=>e1 z.2),if_pos e0,e0]
    ·have h1':i=0:=by have:¬(i:Int)>0:=h1;omega
     rw[if_neg (show ¬(0<i/\c.natAbs=1)fromλz=>by omega)];by_cases e0:c.natAbs=0
     ·rw[if_pos e0,e0]
     ·rw[if_neg e0];have:tmT c.natAbs i=al c.natAbs:=by unfold tmT;rw[if_pos h1']
      rw[this]
   clear s2;rintro σ' H2 ⟨rfl,s2⟩;refine ia (λσ' H'=>PxI a ns H i c (if c.natAbs=0 then al 0 else tmT c.natAbs i++ptT ns i) σ' H') ?_ (λrest=>?_)
   rotate_left
   ·refine dk ⟨_,rfl,_,_,rfl,rfl,_,rfl,ai (λh1=>?_) (λh1=>aM (rest _ _ ⟨?_,s2⟩))⟩
    ·have h1':¬c.natAbs=0:=by have:((c.natAbs:Nat):Int)>0:=h1;omega
     rw[if_neg h1'];refine⟨_,rfl,rfl,_,rfl,gE (λh2=>?_) (λh2=>rest _ _ ⟨?_,s2⟩)⟩
     ·have h2':lx ns i≠[]:=λz=>h2 (eqv_nil.mpr z)
      rcases rY ns i with⟨z,_⟩ |⟨r,e1,e2⟩ |⟨c0,r,e1,hc0,e2⟩
      ·exact absurd z h2'
      ·rw[e1]at l0 ⊢;rw[J4]at l0;refine bJ ⟨_,rfl,sz 2,λp1 g1=>⟨_,rfl,_,_,45,rfl,rfl,by rw[ah];simp;omega,gY (i:=0) rfl rfl,rfl,.inr ⟨_,rfl,p1,_,_,V.str (Str.ofString " - "),rfl,rfl,SqL.of ap,?_,_,_,rfl,rfl,?_,_,rfl,_,rfl,_,rfl,_,_,45,rfl,rfl,by rw[ah];simp;omega,gY (i:=0) rfl rfl,rfl,.inr ⟨_,rfl,_,rfl,by rw[ah];simp;omega,.inr ⟨?_,r,rfl,_,_,rfl,rfl,?_,rest _ _ ⟨?_,s2.then_new g1⟩⟩⟩⟩⟩⟩
       ·rw[decide_eq_true (eqv_dash.mpr rfl)];rfl
       ·rw[df,ah,ah];simp;omega
       ·rw[decide_eq_true (eqv_dash.mpr rfl)];rfl
       ·rw[df,ar];show(stL _).length+(stL r).length<=_;rw[ah,ah];simp;omega
       ·rw[if_neg h1',df,ar];show List.set _ _ (some (V.str (stL (tmT c.natAbs i++[32,45,32])++stL r)))=_;rw[ar,e2,J5,e1];rfl
      ·have nd:¬(V.str ⟨#[c0]⟩=V.str (Str.ofString "-")):=λz=>hc0 (eqv_dash.mp z)
       have e3:=e2;rw[e1]at l0 e3 ⊢;rw[J4]at l0;refine bJ ⟨_,rfl,sz 2,λp1 g1=>⟨_,rfl,_,_,c0,rfl,rfl,by rw[ah];simp;omega,gY (i:=0) rfl rfl,rfl,.inr ⟨_,rfl,p1,_,_,V.str (Str.ofString " + "),rfl,rfl,SqL.of ap,?_,_,_,rfl,rfl,?_,_,rfl,_,rfl,_,rfl,_,_,c0,rfl,rfl,by rw[ah];simp;omega,gY (i:=0) rfl rfl,rfl,.inr ⟨_,rfl,_,rfl,by rw[ah];simp;omega,.inl ⟨?_,_,_,rfl,rfl,?_,rest _ _ ⟨?_,s2.then_new g1⟩⟩⟩⟩⟩⟩
       ·rw[decide_eq_false nd];rfl
       ·rw[de,ah,ah];simp;omega
       ·rw[decide_eq_false nd];rfl
       ·rw[de,ar,ah,ah];simp;omega
       ·rw[if_neg h1',de,ar,ar,e3,J5,e1];rfl
     ·have h2':lx ns i=[]:=eqv_nil.mp h2
      have:ptT ns i=[]:=by
       rcases rY ns i with⟨_,z⟩ |⟨r,z,_⟩ |⟨c0,r,z,_⟩
       ·exact z
       ·rw[h2']at z;cases z
       ·rw[h2']at z;cases z
      rw[if_neg h1',this,Kk]
    ·have h1':c.natAbs=0:=by have:¬((c.natAbs:Nat):Int)>0:=h1;omega
     rw[if_pos h1',if_pos h1']
   clear s2;rintro σ' H2 ⟨rfl,s2⟩;refine ia (λσ' H'=>PxI a ns H i c (if c.natAbs=0 then al 0 else(if c<0 then[45]else[])++tmT c.natAbs i++ptT ns i) σ' H') ?_ (λrest=>?_)
   rotate_left
   ·refine⟨_,rfl,_,rfl,a,_,_,_,rfl,rfl,SqL.of (s2 _ _ hA),by rw[KI]at aE;exact aE,_,_,rfl,rfl,_,rfl,ai (λh1=>?_) (λh1=>rest _ _ ⟨?_,s2⟩)⟩
    ·have h1':c<0:=h1;have n0:¬c.natAbs=0:=by omega
     rw[if_neg n0];refine bJ ⟨_,rfl,_,_,rfl,rfl,?_,rest _ _ ⟨?_,s2⟩⟩
     ·rw[ey,ah,ah];simp;omega
     ·rw[ey,ar,if_neg n0,if_pos h1',J5];rfl
    ·have h1':¬c<0:=h1;rw[if_neg h1'];rfl
   clear s2;rintro σ' H2 ⟨rfl,s2⟩
   have eL:lx ns (i+1)=if c=0 then lx ns i else(if c<0 then[45]else[])++tmT c.natAbs i++ptT ns i:=by show(if cf ns i=0 then _ else _)=_;rw[ec]
   refine cw ⟨_,rfl,_,_,rfl,rfl,_,rfl,ai (λh1=>?_) (λh1=>?_)⟩
   ·have h1':¬c.natAbs=0:=by have:((c.natAbs:Nat):Int)>0:=h1;omega
    rw[if_neg h1'];refine bJ ⟨_,rfl,some (.int (i:Int)),some (.int (c.natAbs:Int)),some (vS ((if c<0 then[45]else[])++tmT c.natAbs i++ptT ns i)),?_,s2⟩;rw[eL,if_neg (show ¬c=0 by omega)];rfl
   ·have h1':c=0:=by have:¬((c.natAbs:Nat):Int)>0:=h1;omega
    refine⟨some (.int (i:Int)),some (.int (c.natAbs:Int)),some (vS (if c.natAbs=0 then al 0 else(if c<0 then[45]else[])++tmT c.natAbs i++ptT ns i)),?_,s2⟩;rw[eL,if_pos (show c=0 from h1')]
  ·rintro σ' H1 ⟨z2,z3,z4,rfl,s1⟩;rw[J6];dsimp only
   refine am ⟨_,rfl,rfl,_,rfl,ai (λh0=>?_) (λh0=>?_)⟩
   ·have h0':=eqv_nil.mp h0
    have e:ns=[]:=by
     by_cases z:ns=[]
     ·exact z
     ·have:=rZ ht z;have h0'':lx ns ns.length=[]:=by simpa using h0'
      rw[h0'']at this;have:(plT ns).length=0:=by rw[<- this];rfl
      exfalso;unfold plT at this
      rw[if_neg z,J2,J2]at this;obtain⟨c,r,e,_⟩:=vr (cf ns (ns.length-1)).natAbs (ns.length-1);rw[e,J4]at this;omega
    have:=k H1 s1;rw[e]at this;refine aG ?_;show Q (V.str (Str.ofString "0")) H1;rw[ji];exact this
   ·have z:ns≠[]:=λe=>h0 (eqv_nil.mpr (by rw[e];rfl))
    have:=k H1 s1;rw[<- rZ ht z]at this;refine aG ⟨_,rfl,?_⟩;simpa using this
theorem b48:Bits 1000000 (48271:Int):=Bits.mono (j:=64) (by show(48271:Int).natAbs<2^64;decide) (by decide)
theorem zt{i:Int}:Bits 100 (i%2147483647):=by obtain⟨t,e,l⟩:=ce i 2147483647 (by decide);rw[e];exact J9 (show((t:Nat):Int).natAbs<2147483647 by omega) (by decide)
def qD:Sp:=λvs H Q _=>∃(av:Addr) (c:Int),vs=[.int c]/\H av≠none/\∀(p pk:Addr) (kp:List Int) (i j:Int) (H':Hp),Same H H'->H' p=some (.tup [.str (Str.ofString "given"),.ref pk,.int i,.int j])->pk≠av->H' pk=some (.lst (kp.map V.int))->OkG kp (i,1) (hfP j)->j.natAbs<100->Q (.ref p) H'
theorem HM{l:List Int}(h:∀x∈l,x.natAbs<100)(k:Nat):(cf l k).natAbs<100:=by
 by_cases hk:k<l.length
 ·rw[lL hk];exact h _ (List.getElem_mem hk)
 ·rw[dE (by omega)];decide
def GiI(H:Hp)(c:Int)(n:Nat)(σ':St)(H':Hp):Prop:=∃(tn:Int) (pk:Addr) (L:List Int) (z3:Option V),σ'=[some (.int c),some (.int tn),some (.ref pk),z3]/\Same H H'/\H pk=none/\H' pk=some (.lst (L.map V.int))/\L.length=n/\(∀x∈L,x.natAbs<100)/\Bits 100 tn
theorem CW{f:Addr}{fd:FuncData}(F:Fun K "_law_given" "_law_given" kx f fd)(T:Txt K mg):FnOk P w K mg base CX0 1 f fd ["_law_cell"] qD:=by
 refine F.ok sc__law_given (λvs H Q E h=>?_) (λcdv A outer s H vs Q E hr h=>?_)
 ·obtain⟨av,c,rfl,_⟩:=h;rfl
 ·obtain⟨av,c,rfl,hav,kk⟩:=h;have big:=sizeLine_eq
  refine⟨_,(af (ay (i:=1) sc__law_given.nd rfl (Or.inl rfl) (aj cG ad (aj bh (pv 0) ad)))
   (af (ay (i:=2) sc__law_given.nd rfl (Or.inl rfl) (ck ac))
   (af (gF PassesOwn.never rfl (mr rfl T.range_ (aa (aj bh (aj bh (aj d5 (pv 1) ad) ad) ad) ac)) (dZ (i:=3) sc__law_given.nd rfl (Or.inl rfl))
     (af (ay (i:=1) sc__law_given.nd rfl (Or.inl rfl) (aj bh (aj d5 (pv 1) ad) ad))
       (ag (cc (fR PySem.F.plainAttrs_list PySem.F.slot_list_append PySem.F.type_list_append il (pv 2) (aa (aj d5 (aj gJ (aj bh (aj bR (pv 1) ad) ad) ad) (cm tU (by rfl) T.int_ PyProof.Rows.boot_int (aa (bQ dq (aj bh (pv 1) ad) ad (aA _)) ac))) ac))))))
   (af (cc (fR PySem.F.plainAttrs_list PySem.F.slot_list_append PySem.F.type_list_append il (pv 2) (aa (aj d5 (aj cG ad (aj bh (pv 1) ad)) (aj gJ ad (aj d5 ad (aj bh (aj bR (pv 1) ad) ad)))) ac)))
   (af (ay (i:=1) sc__law_given.nd rfl (Or.inl rfl) (aj bh (aj d5 (pv 1) ad) ad))
   (af (aH (aF bL (aj bh (pv 1) ad) ad (aA _))
     (ag (ay (i:=2) sc__law_given.nd rfl (Or.inl rfl) (ck ac)))
     aJ)
   (ag (aq (bF (aa ao (aa (pv 2) (aa (aj gJ (aj bh (pv 1) ad) ad) (aa (aj gJ (aj bh (aj bR (pv 1) ad) ad) ad) ac))))))))))))),?_⟩
  obtain⟨t0,et0,lt0⟩:=ce c 2147483646 (by decide);obtain⟨T0,hT0⟩:∃T0:Int,1+c%2147483646=T0:=⟨_,rfl⟩;have bT0:Bits 100 T0:=by rw[<- hT0,et0];exact J9 (show(1+(t0:Int)).natAbs<2147483648 by omega) (by decide)
  refine aC ⟨_,rfl,_,_,rfl,rfl,pos,_,_,rfl,rfl,?_⟩;refine aC ⟨sz 0,λp0 h0=>?_⟩;obtain⟨N,eN,lN⟩:=ce (T0*16807%65537) 9 (by decide);have eN':(T0*16807%65537%9).toNat=N:=by rw[eN];rfl
  have s0:=Same.upd_new (o:=.lst []) h0;show cY _ _ _ _ _;refine hZ (λσ' H'=>σ'=[some (.int c),some (.int T0),some (.ref p0),none]/\H'=upd H p0 (.lst [])) ⟨by rw[<- hT0];rfl,rfl⟩ ?_;rintro σ' H' ⟨rfl,rfl⟩;have e0:upd H p0 (.lst []) p0=some (.lst (([]:List Int).map V.int)):=ap;generalize upd H p0 (.lst [])=H0 at s0 e0 ⊢
  refine ld (GiI H c N) ?_ (λrest=>?_)
  rotate_left
  ·refine⟨_,rfl,_,_,rfl,rfl,⟨bT0.mono,Bits.mono (j:=64) (by show(16807:Int).natAbs<2^64;decide) (by decide)⟩,_,_,rfl,rfl,pos,_,_,rfl,rfl,pos,_,rfl,?_,?_,pq (lo:=0) (λi σ' H'=>GiI H c i σ' H') ⟨T0,p0,[],none,rfl,s0,h0,e0,rfl,λx hx=>(nomatch hx),bT0⟩ ?_ ?_⟩
   ·rw[eN];clear et0 hT0 eN eN';omega
   ·rw[eN];clear et0 hT0 eN eN';omega
   ·rintro i σ' H1 hi ⟨tn,pk,L,z3,rfl,s1,hk0,ek,hL,hb,bt⟩;rw[eN']at hi;obtain⟨T1,hT1⟩:∃T1:Int,tn*48271%2147483647=T1:=⟨_,rfl⟩;have bT1:Bits 100 T1:=by rw[<- hT1];exact zt
    have hv:∃v:Int,(T1/5%7-3)*(if decide (T1%3>0)=true then(1:Int)else 0)=v/\v.natAbs<100:=by
     obtain⟨n7,e7,l7⟩:=ce (T1/5) 7 (by decide);refine⟨_,rfl,?_⟩;rw[e7];clear e7 hT1 bT1 et0 hT0 eN eN';split
     ·rw[Int.mul_one];omega
     ·rw[Int.mul_zero];decide
    obtain⟨v,ev,lv⟩:=hv
    have b7:Bits 1000000 (T1/5%7-3):=by obtain⟨n7,e7,l7⟩:=ce (T1/5) 7 (by decide);rw[e7];exact Bits.mono (j:=64) (show((n7:Int)-3).natAbs<2^64 by clear e7 hT1 ev et0 hT0 eN eN';omega) (by decide)
    have b1:Bits 1000000 (if decide (T1%3>0)=true then(1:Int)else 0):=by refine Bits.mono (j:=64) ?_ (by decide);show(if decide (T1%3>0)=true then(1:Int)else 0).natAbs<2^64;split<;>decide
    dsimp only
    refine aC ⟨_,rfl,_,_,rfl,rfl,⟨bt.mono,b48⟩,_,_,rfl,rfl,pos,?_⟩;show om _ _ _ _;refine hZ (λσ' H'=>σ'=[some (.int c),some (.int T1),some (.ref pk),some (.int (0+(i:Int)))]/\H1=H') ⟨by rw[<- hT1];rfl,rfl⟩ ?_;rintro σ' H' ⟨rfl,rfl⟩;refine lc ⟨_,rfl,.inl ⟨rfl,_,SqL.of ek⟩,_,rfl,_,_,rfl,rfl,cdp,_,_,rfl,rfl,pos,_,_,rfl,rfl,_,rfl,_,_,rfl,rfl,pos,_,_,rfl,rfl,.inr ⟨_,rfl,_,_,rfl,rfl,⟨b7,b1⟩,pk,_,_,rfl,rfl,ek,by rw[J6,hL];clear eN;omega,?_⟩⟩;refine⟨T1,pk,L++[v],_,rfl,fT s1 hk0,hk0,by rw[<- ev,Kl];exact ap,by rw[J2,hL];rfl,λx hx=>?_,bT1⟩;rcases Ke.mp hx with z |z
    ·exact hb x z
    ·rw[Kb.mp z];exact lv
   ·rintro σ' H1 h;rw[eN']at h;exact rest _ _ h
  rintro σ' H1 ⟨tn,pk,L,z3,rfl,s1,hk0,ek,hL,hb,bt⟩;have N9:N<9:=by clear et0 hT0 eN eN';omega
  clear eN eN' et0 hT0 s0 e0 lN;obtain⟨n4,e4,l4⟩:=ce tn 4 (by decide);obtain⟨n2,e2,l2⟩:=ce (tn/4) 2 (by decide)
  obtain⟨v,ev,v0,lv⟩:∃v:Int,(1+tn%4)*(1-2*(tn/4%2))=v/\v≠0/\v.natAbs<100:=by
   refine⟨_,rfl,?_⟩;rw[e4,e2];clear e4 e2;have h2:n2=0\/n2=1:=by omega
   rcases h2 with rfl |rfl
   ·rw[show(1:Int)-2*((0:Nat):Int)=1 by decide,Int.mul_one];omega
   ·rw[show(1:Int)-2*((1:Nat):Int) = -1 by decide];omega
  have b4:Bits 1000000 (1+tn%4):=by rw[e4];exact Bits.mono (j:=64) (show(1+(n4:Int)).natAbs<2^64 by clear e4 e2 ev;omega) (by decide)
  have b2:Bits 1000000 (tn/4%2):=by rw[e2];exact Bits.mono (j:=64) (show((n2:Nat):Int).natAbs<2^64 by clear e4 e2 ev;omega) (by decide)
  have b2':Bits 1000000 (1-2*(tn/4%2)):=by rw[e2];exact Bits.mono (j:=64) (show(1-2*((n2:Nat):Int)).natAbs<2^64 by clear e4 e2 ev;omega) (by decide)
  refine cE ⟨_,rfl,.inl ⟨rfl,_,SqL.of ek⟩,_,rfl,_,_,rfl,rfl,pos,_,_,rfl,rfl,_,rfl,_,_,rfl,rfl,cdp,_,_,rfl,rfl,pos,_,_,rfl,rfl,⟨Bits.mono (j:=64) (by show(2:Int).natAbs<2^64;decide) (by decide),b2⟩,_,_,rfl,rfl,_,_,rfl,rfl,⟨b4,b2'⟩,pk,_,_,rfl,rfl,ek,by rw[J6,hL];clear e4 e2 ev;omega,?_⟩;have ek2:upd H1 pk (.lst (L.map V.int++[V.int ((1+tn%4)*(1-2*(tn/4%2)))])) pk=some (.lst ((L++[v]).map V.int)):=by rw[ap,ev,Kl];rfl
  have s2:Same H (upd H1 pk (.lst (L.map V.int++[V.int ((1+tn%4)*(1-2*(tn/4%2)))]))):=fT s1 hk0;show cY _ _ _ _ _;refine hZ (λσ' H'=>σ'=[some (.int c),some (.int tn),some (.ref pk),z3]/\Same H H'/\H' pk=some (.lst ((L++[v]).map V.int))) ⟨rfl,s2,ek2⟩ ?_;clear ek2 s2 ek s1 e4 e2 ev b4 b2 b2';rintro σ' H2 ⟨rfl,s2,ek2⟩;obtain⟨T2,hT2⟩:∃T2:Int,tn*69621%2147483647=T2:=⟨_,rfl⟩;refine aC ⟨_,rfl,_,_,rfl,rfl,⟨bt.mono,Bits.mono (j:=64) (by show(69621:Int).natAbs<2^64;decide) (by decide)⟩,_,_,rfl,rfl,pos,?_⟩;show cY _ _ _ _ _;refine hZ (λσ' H'=>σ'=[some (.int c),some (.int T2),some (.ref pk),z3]/\H2=H') ⟨by rw[<- hT2];rfl,rfl⟩ ?_;rintro σ' H' ⟨rfl,rfl⟩;refine ia (λσ' H'=>∃(qk:Addr) (kp:List Int),σ'=[some (.int c),some (.int T2),some (.ref qk),z3]/\Same H H'/\H qk=none/\H' qk=some (.lst (kp.map V.int))/\kp.length<=9/\Tr kp/\∀x∈kp,x.natAbs<100) ?_ (λrest=>?_)
  rotate_left
  ·refine⟨_,rfl,_,_,rfl,rfl,pos,_,_,rfl,rfl,_,rfl,ai (λ_=>?_) (λ_=>rest _ _ ⟨pk,L++[v],rfl,s2,hk0,ek2,?_,tr_snoc.mpr v0,λx hx=>?_⟩)⟩
   ·refine bJ ⟨sz 0,λp1 h1=>rest _ _ ⟨p1,[],rfl,s2.then_new h1,jb s2 h1,ap,by decide,λn hn=>by simp at hn,λx hx=>(nomatch hx)⟩⟩
   ·rw[J2,hL];show N+1<=9;omega
   ·rcases Ke.mp hx with z |z
    ·exact hb x z
    ·rw[Kb.mp z];exact lv
  clear s2 ek2;rintro σ' H3 ⟨qk,kp,rfl,s3,hq0,ek3,h9,ht,hb3⟩
  obtain⟨i,ei,li⟩:∃i:Int,T2%9-4=i/\i.natAbs<100:=by obtain⟨n9,e9,l9⟩:=ce T2 9 (by decide);refine⟨_,rfl,?_⟩;rw[e9];clear e9 hT2;omega
  obtain⟨j,ej,lj⟩:∃j:Int,T2/9%50-25=j/\j.natAbs<100:=by obtain⟨n9,e9,l9⟩:=ce (T2/9) 50 (by decide);refine⟨_,rfl,?_⟩;rw[e9];clear e9 hT2 ei;omega
  refine aG ⟨_,rfl,_,rfl,_,_,rfl,rfl,pos,_,_,rfl,rfl,_,rfl,_,_,rfl,rfl,cdp,_,_,rfl,rfl,pos,_,_,rfl,rfl,sz 4,λp1 h1=>?_⟩;have n1:qk≠p1:=aU ek3 h1;refine kk p1 qk kp i j _ (s3.then_new h1) (by rw[ap,<- ei,<- ej]) (cP hav hq0) (by rw[upd_ne n1];exact ek3) ⟨ht,h9,HM hb3,rfl,li,FU lj,FT j⟩ lj
def qL:Sp:=λvs H Q _=>∃(av:Addr) (c:Int),vs=[.int c]/\H av≠none/\∀(p:Addr) (t:PT) (H':Hp),Same H H'->ItH av H' t p->OkT t->t.hgt=1->(tx t).length<=200->dep t<=10->Q (.ref p) H'
theorem C2{f:Addr}{fd:FuncData}(F:Fun K "_law_atom" "_law_atom" kB f fd)(T:Txt K mg){G6:Addr}{GF:FuncData}(JK:Cal P w K mg base 1 "_law_word" ["_law_cell"] pY G6 GF){Ha:Addr}{GJ:FuncData}(JO:Cal P w K mg base 1 "_law_given" ["_law_cell"] qD Ha GJ){G8:Addr}{GH:FuncData}(JM:Cal P w K mg base 2 "_law_poly_text" ["_law_kp"] qj G8 GH){G9:Addr}{GI:FuncData}(JN:Cal P w K mg base 1 "_law_half" ["_law_many"] qC G9 GI):FnOk P w K mg base CX0 3 f fd ["_law_cell"] qL:=by
 obtain⟨Jk,Eo,Fb,Il⟩:=JK;obtain⟨Jp,Et,Ff,Ir⟩:=JO;obtain⟨Jl,Ep,Fc,Im⟩:=JM;obtain⟨Jo,Es,Fe,Iq⟩:=JN;refine F.ok sc__law_atom (λvs H Q E h=>?_) (λcdv A outer s H vs Q E hr h=>?_)
 ·obtain⟨av,c,rfl,_⟩:=h;rfl
 ·obtain⟨av,c,rfl,hav,kk⟩:=h;have big:=sizeLine_eq
  refine⟨_,(af (aH (aF bL (aj bh (pv 0) ad) ad (aA _))
   (af (ay (i:=1) sc__law_atom.nd rfl (Or.inl rfl) (aj bh (aj bR (pv 0) ad) (aw (bS (K:=K) rfl) (ck (aa ad (aa (aj wy ad ad) ac))) (aj bh (aj bR (pv 0) ad) ad) (λ_ _=>rfl))))
     (ag (aq (bF (aa (bF (aa ao (aa (pv 1) ac))) (aa (cm gX (by rfl) T.str_ PyProof.Rows.boot_str (aa (pv 1) ac)) (aa ad (aa ad ac))))))))
   aJ)
   (af (aH (aF bL (aj bh (pv 0) ad) ad (aA _))
     (af (ay (i:=2) sc__law_atom.nd rfl (Or.inl rfl) (au Jk (hr.mono) rfl Eo Fb Il .nil ak (aa (aj bR (pv 0) ad) ac)))
       (ag (aq (bF (aa (bF (aa ao (aa (pv 2) ac))) (aa (pv 2) (aa ad (aa ad ac))))))))
     aJ)
   (af (ay (i:=3) sc__law_atom.nd rfl (Or.inl rfl) (au Jp (hr.mono) rfl Et Ff Ir .nil ak (aa (aj bR (pv 0) ad) ac)))
   (af (ay (i:=4) sc__law_atom.nd rfl (Or.inl rfl) (aj aR (aj aR (aj aR (aj aR (aj aR (aj aR ao (au Jl (hr.mono) rfl Ep Fc Im .nil ak (aa (aw (aI (K:=K) rfl) (pv 3) ad (λ_ _=>rfl)) ac))) ao) (cm gX (by rfl) T.str_ PyProof.Rows.boot_str (aa (aw (aI (K:=K) rfl) (pv 3) ad (λ_ _=>rfl)) ac))) ao) (au Jo (hr.mono) rfl Es Fe Iq .nil ak (aa (aw (aI (K:=K) rfl) (pv 3) ad (λ_ _=>rfl)) ac))) ao))
   (ag (aq (bF (aa (pv 3) (aa (pv 4) (aa ad (aa ad ac))))))))))),?_⟩
  refine am ⟨_,rfl,_,_,rfl,rfl,pos,_,_,rfl,rfl,_,rfl,ai (λh=>?_) (λh=>?_)⟩
  ·obtain⟨n2,e2,l2⟩:=ce (c/3) 2 (by decide)
   obtain⟨D,aD,dD,hD⟩:∃D:Int,atI [V.int 10,V.int (10^(30:Int).toNat)] (c/3%2)=some (.int D)/\0<D/\D<=10^30:=by
    rw[e2];rcases Nat.lt_or_ge n2 1 with h |h
    ·have:n2=0:=by omega
     subst this;exact⟨10,rfl,by decide,by decide⟩
    ·have:n2=1:=by omega
     subst this;exact⟨10^(30:Int).toNat,rfl,by decide,by decide⟩
   obtain⟨v,ev,lv⟩:=ce (c/6) D dD
   have hv:v<10^30:=by have:(v:Int)<10^30:=Int.lt_of_lt_of_le lv hD;omega
   have hl:=oM 29 v hv;refine aC ⟨_,rfl,_,_,rfl,rfl,cdp,_,_,rfl,rfl,⟨by decide,by decide,by decide⟩,sz 2,λp0 h0=>⟨_,rfl,_,_,rfl,rfl,cdp,_,_,rfl,rfl,pos,p0,_,_,_,rfl,rfl,SqL.of ap,aD,_,_,rfl,rfl,dD,?_⟩⟩;have s0:=Same.upd_new (o:=.lst [V.int 10,V.int (10^(30:Int).toNat)]) h0;refine aG ⟨_,rfl,sz 2,λp1 h1=>⟨_,rfl,_,rfl,?_,sz 4,λp3 h3=>?_⟩⟩
   ·show(c/6%D).natAbs.log2<1920;rw[ev];exact vM (J9 hv (J7 (by decide:(10:Nat)^30<=2^100) (Lb (by decide) (by decide))))
   have s1:=s0.then_new (o:=.tup [V.str (Str.ofString "whole"),.int (c/6%D)]) h1;refine kk p3 (.whole v) _ (s1.then_new h3) ⟨p1,?_,?_⟩ hv rfl (by show(al v).length<=200;omega) (by show 0<=10;decide)
   ·rw[ap];show some (HO.tup [_,V.str (Str.ofString (toString (c/6%D))),_,_])=_;rw[ev,RM.txt_nat];rfl
   ·show _=some (HO.tup [_,V.int (v:Int)]);rw[<- ev];exact(Same.upd_new h3) _ _ ap
  refine am ⟨_,rfl,_,_,rfl,rfl,pos,_,_,rfl,rfl,_,rfl,ai (λh=>?_) (λh=>?_)⟩
  ·refine aC ⟨_,rfl,_,_,rfl,rfl,cdp,_,rfl,λm H1 hm s1=>?_⟩;refine aG ⟨_,rfl,sz 2,λp1 h1=>⟨_,rfl,sz 4,λp3 h3=>?_⟩⟩;have s2:=Same.upd_new (o:=.tup [V.str (Str.ofString "named"),vS m]) h1
   have hl:m.length<=8:=by
    unfold cS at hm
    simp only[Kf,decide_eq_true_eq]at hm;exact hm.1.2
   exact kk p3 (.named m) _ (s1.trans (s2.then_new h3)) ⟨p1,ap,(Same.upd_new h3) _ _ ap⟩ hm rfl (by show m.length<=200;omega) (by show 0<=10;decide)
  ·refine aC ⟨_,rfl,_,_,rfl,rfl,cdp,av,_,rfl,hav,λp pk kp i j H1 s1 ep npk ek g lj=>?_⟩
   have l1:(plT kp).length<=100:=by
    by_cases z:kp=[]
    ·rw[z];decide
    ·rw[<- rZ g.tr z];have:=sd g.bd kp.length (by have:=g.len;omega);have:=g.len;omega
   have l2:=mW g.lb
   have l3:(frT (hfP j)).length<=6:=by
    have e1:=mW g.hb;unfold frT;rw[J2];split
    ·simp;omega
    ·rename_i z
     have e2:(hfP j).2=2:=(g.h2.resolve_left z).1;rw[e2];have:(47::al (2:Int).natAbs).length=2:=by decide +kernel
     omega
   have w4:wRoot.length=4:=rfl;have l4:(inT i).length<=3:=l2;refine aC ⟨_,rfl,p,_,_,_,rfl,rfl,SqT.of ep,rfl,pk,kp,rfl,ek,g.len,g.tr,g.bd,λH2 s2=>⟨_,_,rfl,rfl,?_,_,_,rfl,rfl,?_,_,rfl,p,_,_,_,rfl,rfl,SqT.of (s2 _ _ ep),rfl,_,rfl,oV g.lb,_,_,rfl,rfl,?_,_,_,rfl,rfl,?_,_,rfl,p,_,_,_,rfl,rfl,SqT.of (s2 _ _ ep),rfl,j,rfl,lj,_,_,rfl,rfl,?_,_,_,rfl,rfl,?_,?_⟩⟩
   ·rw[cR,ah,ah,J2,w4];show 4+1+_<=_;omega
   ·rw[cR,dy,ar,ah,ah];simp only[J2,J4,Ks,w4];omega
   ·rw[cR,dy,g9,ar,ar,ah,ah];simp only[J2,J4,Ks,w4];omega
   ·rw[cR,dy,eC,g9,ar,ar,ar,ah,ah];simp only[J2,J4,Ks,w4];omega
   ·rw[cR,dy,eC,g9,ar,ar,ar,ar,ah,ah];simp only[J2,J4,Ks,w4];omega
   ·rw[cR,dy,eC,eD,g9,ar,ar,ar,ar,ar,ah,ah];simp only[J2,J4,Ks,w4];omega
   have e9:tx (.given kp (i,1) (hfP j))=wRoot++[40]++plT kp++[44,32]++inT i++[46,46]++frT (hfP j)++[41]:=by
    show wRoot++40::(plT kp++44::32::(frT (i,1)++46::46::(frT (hfP j)++[41])))=_;have:frT (i,1)=inT i:=by unfold frT;rw[if_pos rfl,Kk]
    rw[this];simp only[J5,Kg,Ko]
   refine aG ⟨_,rfl,_,rfl,sz 4,λp3 h3=>?_⟩;refine kk p3 (.given kp (i,1) (hfP j)) _ (s1.trans (s2.then_new h3)) ⟨p,?_,pk,i,j,(s2.then_new h3) _ _ ep,npk,(s2.then_new h3) _ _ ek,rfl,rfl,lj⟩ g rfl ?_ (by show 1<=10;decide)
   ·rw[ap,cR,dy,eC,eD,g9,ar,ar,ar,ar,ar,ar,e9];rfl
   ·rw[e9];simp only[J2,J4,Ks,w4];omega
noncomputable def RowH(av:Addr)(H:Hp):List Addr->List Nat->Prop
 | [],[]=>True
 |q::qs,h::hs=>(∃t:PT,ItH av H t q/\OkT t/\(tx t).length<=200/\dep t<=10/\t.hgt<=h)/\RowH av H qs hs
 |_,_=>False
theorem RowH.kp{av:Addr}{H H':Hp}(s:Keep av H H'):∀{qs:List Addr} {hs:List Nat},RowH av H qs hs->RowH av H' qs hs
 | [],[],_=>trivial
 |_::_,_::_,⟨⟨t,a,b⟩,r⟩=>⟨⟨t,a.kp s,b⟩,RowH.kp s r⟩
theorem RowH.mv{av av2:Addr}{H:Hp}(n:H av2=none):∀{qs:List Addr} {hs:List Nat},RowH av H qs hs->RowH av2 H qs hs
 | [],[],_=>trivial
 |_::_,_::_,⟨⟨t,a,b⟩,r⟩=>⟨⟨t,a.mv n,b⟩,RowH.mv n r⟩
theorem RowH.len{av:Addr}{H:Hp}:∀{qs:List Addr} {hs:List Nat},RowH av H qs hs->qs.length=hs.length
 | [],[],_=>rfl
 |_::_,_::_,⟨_,r⟩=>congrArg (·+1) (RowH.len r)
theorem RowH.get{av:Addr}{H:Hp}:∀{qs:List Addr} {hs:List Nat},RowH av H qs hs->∀{j:Nat} {q:Addr},qs[j]?=some q->∃h,hs[j]?=some h/\∃t:PT,ItH av H t q/\OkT t/\(tx t).length<=200/\dep t<=10/\t.hgt<=h
 | [],[],_,_,_,e=>by cases e
 |_::_,h::_,⟨t,_⟩,0,_,e=>by cases e;exact⟨h,rfl,t⟩
 |_::_,_::_,⟨_,r⟩,j+1,_,e=>RowH.get r (j:=j) e
theorem RowH.rev{av:Addr}{H:Hp}{qs:List Addr}{hs:List Nat}(r:RowH av H qs hs){j:Nat}{q:Addr}(e:qs.reverse[j]?=some q):∃h,hs.reverse[j]?=some h/\∃t:PT,ItH av H t q/\OkT t/\(tx t).length<=200/\dep t<=10/\t.hgt<=h:=by
 have hj:j<qs.length:=by have:=(List.getElem?_eq_some_iff.mp e).1;rw[Kx]at this;exact this
 have hl:=r.len;rw[List.getElem?_reverse hj]at e;obtain⟨h,eh,t⟩:=r.get e;refine⟨h,?_,t⟩;rw[List.getElem?_reverse (by omega),<- hl];exact eh
theorem IM{l:List Addr}{j:Nat}{i:Int}{p:Addr}(e:i=(j:Int))(h:l[j]?=some p):atI (l.map V.ref) i=some (.ref p):=by subst e;exact lQ (by rw[List.getElem?_map,h];rfl)
theorem yQ(g:Addr)(r:List Addr):atI ((g::r).reverse.map V.ref) (-1)=some (.ref g):=by rw[KL,Kl];exact yR _ _
theorem IL(g g2:Addr)(r:List Addr):atI ((g::g2::r).reverse.map V.ref) (-2)=some (.ref g2):=by
 unfold atI ixN;rw[if_neg (by decide)];have hl:((g::g2::r).reverse.map V.ref).length=r.length+2:=by simp
 rw[hl,if_pos (by omega)];show((g::g2::r).reverse.map V.ref)[(-2+((r.length+2:Nat):Int)).toNat]?=_;rw[show(-2+((r.length+2:Nat):Int)).toNat=r.length by omega];simp
theorem HC(xs:List V)(h:2<=xs.length):dg xs none (some (-2))=xs.take (xs.length-2):=by
 unfold dg;rw[HT.sIx_none,List.drop_zero,Nat.sub_zero]
 congr 1
 show(if(-2:Int)<0 then((-2:Int)+(xs.length:Int)).toNat else min (-2:Int).toNat xs.length)=_;rw[if_pos (by decide)];omega
theorem HA(g g2:Addr)(r:List Addr):dg ((g::g2::r).reverse.map V.ref) none (some (-2))=r.reverse.map V.ref:=by
 have hl:((g::g2::r).reverse.map V.ref).length=r.length+2:=by simp
 rw[HC _ (by omega),hl];simp
theorem HD(xs:List V):dg xs (some 1) none=xs.drop 1:=by
 unfold dg;rw[HT.sIx_none];have e:(if(1:Int)<0 then((1:Int)+(xs.length:Int)).toNat else min (1:Int).toNat xs.length)=min 1 xs.length:=rfl;show((xs.drop (if(1:Int)<0 then((1:Int)+(xs.length:Int)).toNat else min (1:Int).toNat xs.length)).take (xs.length-(if(1:Int)<0 then((1:Int)+(xs.length:Int)).toNat else min (1:Int).toNat xs.length)))=_;rw[e];cases xs with
 |nil=>rfl
 |cons x xs =>
  have:min 1 (x::xs).length=1:=by rw[J4];omega
  rw[this];simp
theorem Am(g p:Addr)(r:List Addr):((g::r).reverse.map V.ref).set r.length (V.ref p)=(p::r).reverse.map V.ref:=by rw[KL,KL,Kl,Kl,List.set_append];simp
def qH:Sp:=λvs H Q _=>∃(a:Addr) (ns:List Int),vs=[.ref a]/\H a=some (.lst (ns.map V.int))/\ns.length<=60/\∀(av q:Addr) (t:PT) (H':Hp),Same H H'->ItH av H' t q->OkT t->(tx t).length<=200->dep t<=10->t.hgt<=60->Q (.ref q) H'
def DrI(a:Addr)(H:Hp)(n:Nat)(σ':St)(H':Hp):Prop:=∃(pr:Addr) (qs:List Addr) (hs:List Nat) (z2 z3:Option V),σ'=[some (.ref a),some (.ref pr),z2,z3,none,none]/\Same H H'/\H pr=none/\H' pr=some (.lst (qs.reverse.map V.ref))/\RowH pr H' qs hs/\hs.sum<=n/\qs.length<=n
theorem sH{x d:Nat}(h:¬(x<=200/\d<=10)):(decide (x<=200)&&decide (d<=10))=false:=by
 cases e1:decide (x<=200)with
 |false=>rfl
 |true=>rw[decide_eq_false (λz=>h ⟨of_decide_eq_true e1,z⟩)];rfl
theorem CZ{f:Addr}{fd:FuncData}(F:Fun K "_law_drawn" "_law_drawn" kz f fd)(T:Txt K mg){Hd:Addr}{GM:FuncData}(JR:Cal P w K mg base 2 "_law_both" ["_law_one","_law_other","_law_cell"] qK Hd GM){Hb:Addr}{GK:FuncData}(JP:Cal P w K mg base 1 "_law_fits" ["_law_one"] qE Hb GK){Hf:Addr}{GO:FuncData}(JT:Cal P w K mg base 2 "_law_alone" ["_law_one","_law_cell"] qM Hf GO){He:Addr}{GN:FuncData}(JS:Cal P w K mg base 3 "_law_atom" ["_law_cell"] qL He GN):FnOk P w K mg base CX0 4 f fd ["_law_deeds"] qH:=by
 obtain⟨y4,xj,xE,yO⟩:=JR;obtain⟨uN,rN,sE,t8⟩:=JP;obtain⟨Js,Ew,Fi,Iv⟩:=JT;obtain⟨Jr,Ev,Fh,Iu⟩:=JS;refine F.ok sc__law_drawn (λvs H Q E h=>?_) (λcdv A outer s H vs Q E hr h=>?_)
 ·obtain⟨a,ns,rfl,_⟩:=h;rfl
 ·obtain⟨a,ns,rfl,hA,hn,kk⟩:=h;have big:=sizeLine_eq
  refine⟨_,(af (ay (i:=1) sc__law_drawn.nd rfl (Or.inl rfl) (ck ac))
   (af (gF PassesOwn.never rfl (q8 (K:=K) rfl (pv 0)) (dZ (i:=2) sc__law_drawn.nd rfl (Or.inl rfl))
     (af (ay (i:=3) sc__law_drawn.nd rfl (Or.inl rfl) BU)
       (ag (aH (PW.pt (ib (aF dq (aj bh (pv 2) ad) ad (aA _)) (iW (aF dq (aO (dF (K:=K) rfl) (by rfl) T.len_ PySem.boot_len (aa (pv 1) ac)) ad (aA _)))))
         (af (ay (i:=3) sc__law_drawn.nd rfl (Or.inl rfl) (au y4 (hr.mono) rfl xj xE yO .nil ak (aa (aw (bS (K:=K) rfl) (pv 1) (da cX ad) (λ_ _=>rfl)) (aa (aw (bS (K:=K) rfl) (pv 1) (da cX ad) (λ_ _=>rfl)) (aa (aj bR (pv 2) ad) ac)))))
           (ag (aH (bB (au uN (hr.mono) rfl rN sE t8 .nil ak (aa (pv 3) ac)))
             (ag (ay (i:=1) sc__law_drawn.nd rfl (Or.inl rfl) (aj rg (ll (oC (K:=K) rfl) (pv 1) oJ (ie (da cX ad))) (ck (aa (pv 3) ac)))))
             aJ)))
         (ag (aH (PW.pt (ib (aF dq (aj bh (pv 2) ad) ad (aA _)) (ib (aF d7 (aj bh (pv 2) ad) ad (aA _)) (iW (aF dq (aO (dF (K:=K) rfl) (by rfl) T.len_ PySem.boot_len (aa (pv 1) ac)) ad (aA _))))))
           (af (ay (i:=3) sc__law_drawn.nd rfl (Or.inl rfl) (au Js (hr.mono) rfl Ew Fi Iv .nil ak (aa (aw (bS (K:=K) rfl) (pv 1) (da cX ad) (λ_ _=>rfl)) (aa (aj bR (pv 2) ad) ac))))
             (ag (aH (bB (au uN (hr.mono) rfl rN sE t8 .nil ak (aa (pv 3) ac)))
               (ag (BC (pv 3) (BQ (pv 1) (da cX ad) Ao)))
               aJ)))
           (ag (cc (fR PySem.F.plainAttrs_list PySem.F.slot_list_append PySem.F.type_list_append il (pv 1) (aa (au Jr (hr.mono) rfl Ev Fh Iu .nil ak (aa (aj bR (pv 2) ad) ac)) ac))))))))))
   (af (aH (aF bL (aO (dF (K:=K) rfl) (by rfl) T.len_ PySem.boot_len (aa (pv 1) ac)) ad (aA _))
     (ag (aq (bF (aa (bF (aa ao (aa ad ac))) (aa ao (aa ad (aa ad ac)))))))
     aJ)
   (af (ay (i:=4) sc__law_drawn.nd rfl (Or.inl rfl) (aw (bS (K:=K) rfl) (pv 1) ad (λ_ _=>rfl)))
   (af (gF PassesOwn.never rfl (q8 (K:=K) rfl (ll (oC (K:=K) rfl) (pv 1) (ie ad) oJ)) (dZ (i:=5) sc__law_drawn.nd rfl (Or.inl rfl))
     (af (ay (i:=3) sc__law_drawn.nd rfl (Or.inl rfl) (au y4 (hr.mono) rfl xj xE yO .nil ak (aa (pv 4) (aa (pv 5) (aa (aO lM (by rfl) T.len_ PySem.boot_len (aa (aw (aI (K:=K) rfl) (pv 4) ad (λ_ _=>rfl)) ac)) ac)))))
       (ag (aH (bB (au uN (hr.mono) rfl rN sE t8 .nil ak (aa (pv 3) ac)))
         (ag (ay (i:=4) sc__law_drawn.nd rfl (Or.inl rfl) (pv 3)))
         aJ))))
   (ag (aq (pv 4)))))))),?_⟩
  refine aC ⟨sz 0,λp0 h0=>?_⟩;have s0:=Same.upd_new (o:=.lst []) h0;refine ld (DrI a H ns.length) ?_ (λrest=>?_)
  rotate_left
  ·refine⟨_,rfl,a,rfl,⟨_,SqL.of (s0 _ _ hA)⟩,sG (K:=K) (a:=a) (xs:=ns.map V.int) (λi σ' H'=>DrI a H i σ' H') ⟨p0,[],[],none,none,rfl,s0,h0,ap,trivial,J3 _,J3 _⟩ ?_ ?_ ?_⟩
   ·rintro i σ' H' _ ⟨pr,qs,hs,z2,z3,rfl,sm,_⟩;exact SqL.of (sm _ _ hA)
   ·clear s0;rintro i x σ' H5 hi ⟨pr,qs,hs,z2,z3,rfl,s5,hpr,er,hR,hsum,hq⟩;obtain⟨c,_,rfl,_,_⟩:=xZ hi
    have hi':i<60:=by have:=(List.getElem?_eq_some_iff.mp hi).1;rw[J6]at this;omega
    have nav:H5 pr≠none:=by rw[er];exactλz=>by cases z
    have el:((qs.reverse.map V.ref).length:Int)=(qs.length:Int):=by rw[J6,Kx]
    dsimp only
    refine aC ?_;have more:∀(z2 z3:Option V) (H':Hp),Same H5 H'->DrI a H (i+1) [some (.ref a),some (.ref pr),z2,z3,none,none] H':=λz2 z3 H' sm=>⟨pr,qs,hs,z2,z3,rfl,s5.trans sm,hpr,sm _ _ er,hR.kp (aW sm),by omega,by omega⟩
    have atm:∀(p:Addr) (t:PT) (H6:Hp) (z2 z3:Option V),Same H5 H6->ItH pr H6 t p->OkT t->t.hgt=1->(tx t).length<=200->dep t<=10->DrI a H (i+1) [some (.ref a),some (.ref pr),z2,z3,none,none] (upd H6 pr (.lst (qs.reverse.map V.ref++[V.ref p]))):=λp t H6 z2 z3 s6 it ok hh hl hd=>by
     have kp:=xt (o:=.lst (qs.reverse.map V.ref++[V.ref p])) (s6 _ _ er);refine⟨pr,p::qs,1::hs,z2,z3,rfl,fT (s5.trans s6) hpr,hpr,?_,⟨⟨t,it.kp kp,ok,hl,hd,by omega⟩,hR.kp ((aW s6).trans kp)⟩,?_,?_⟩
     ·rw[ap,KL,Kl];rfl
     ·rw[KO];omega
     ·rw[J4];omega
    show hG _ _ _ _ _ _;by_cases hb:c%8>4
    ·by_cases h2:1<qs.length
     ·obtain⟨g1,g2,r,rfl⟩:∃g1 g2 r,qs=g1::g2::r:=by
       match qs,h2 with
       |g1::g2::r,_=>exact⟨g1,g2,r,rfl⟩
      obtain⟨j1,j2,hr',rfl⟩:∃j1 j2 hr',hs=j1::j2::hr':=by
       have:=hR.len
       match hs,this with
       |j1::j2::hr',_=>exact⟨j1,j2,hr',rfl⟩
      obtain⟨⟨t1,i1,ok1,l1,d1,b1⟩,⟨t2,i2,ok2,l2,d2,b2⟩,hRr⟩:=id hR;refine cw (dk ⟨_,rfl,_,_,rfl,rfl,pos,_,_,rfl,rfl,_,rfl,ai (λ_=>?_) (λz=>absurd hb z)⟩);refine⟨_,rfl,pr,_,rfl,.inl (SqL.of er),_,_,rfl,rfl,_,rfl,ai (λ_=>?_) (λz=>absurd (by rw[el];show((g1::g2::r).length:Int)>1;omega) z)⟩;refine aC ⟨_,rfl,_,rfl,pr,_,_,_,rfl,rfl,SqL.of er,IL g1 g2 r,_,rfl,_,rfl,pr,_,_,_,rfl,rfl,SqL.of er,yQ g1 (g2::r),_,rfl,_,_,rfl,rfl,cdp,pr,g2,g1,t2,t1,_,rfl,i2,i1,ok2,ok1,l2,l1,λp t' H6 s6 it ok' hh hl'=>?_⟩;show hG _ _ _ _ _ _;refine cw ⟨_,rfl,pr,p,t',rfl,it,by omega,_,rfl,?_⟩;by_cases hf:(tx t').length<=200/\dep t'<=10
      ·rw[decide_eq_true hf.1,decide_eq_true hf.2];refine aN ?_;have er6:=s6 _ _ er;refine bJ ⟨_,rfl,_,rfl,_,rfl,pr,_,rfl,SqL.of er6,λp5 h5=>⟨_,rfl,sz 1,λp6 h6=>?_⟩⟩;rw[HA]at h6 ⊢;have u5:=Same.upd_new (o:=.lst (r.reverse.map V.ref)) h5;have u6:=u5.then_new (o:=.lst [V.ref p]) h6;have lr:r.length<=60:=by rw[J4,J4]at hq;omega
       refine⟨p5,p6,_,_,rfl,rfl,(Same.upd_new h6) _ _ ap,ap,by rw[J6,Kx];show _+1<=sizeLine;omega,λp7 h7=>?_⟩;have u7:=u6.then_new (o:=.lst (r.reverse.map V.ref++[V.ref p])) h7;have n7:H6 p7=none:=jb u6 h7;rw[KO,KO]at hsum;rw[J4,J4]at hq;refine⟨p7,p::r,(j1+j2)::hr',_,_,rfl,(s5.trans s6).trans u7,jb (s5.trans s6) n7,?_,⟨⟨t',(it.mv n7).kp (aW u7),ok',hf.1,hf.2,?_⟩,((hRr.kp (aW s6)).mv n7).kp (aW u7)⟩,?_,?_⟩
       ·rw[ap,KL,Kl];rfl
       ·rw[hh];have:=jl t1;have:=jl t2;omega
       ·rw[KO];omega
       ·rw[J4];omega
      ·rw[sH hf];refine aM (oG ?_);exact more _ _ _ s6
     ·refine cw (dk ⟨_,rfl,_,_,rfl,rfl,pos,_,_,rfl,rfl,_,rfl,ai (λ_=>?_) (λz=>absurd hb z)⟩);refine⟨_,rfl,pr,_,rfl,.inl (SqL.of er),_,_,rfl,rfl,_,rfl,ai (λz=>absurd (by rw[el]at z;omega) h2) (λ_=>?_)⟩;refine cw (dk ⟨_,rfl,_,_,rfl,rfl,pos,_,_,rfl,rfl,_,rfl,ai (λ_=>?_) (λz=>absurd (show c%8>2 by omega) z)⟩);refine dk ⟨_,rfl,_,_,rfl,rfl,pos,_,_,rfl,rfl,_,rfl,ai (λz=>absurd (show c%8<5 from z) (by omega)) (λ_=>aM ?_)⟩;exact lc (qU ⟨_,rfl,.inl ⟨rfl,_,SqL.of er⟩,_,rfl,_,_,rfl,rfl,cdp,pr,_,rfl,nav,λp t H6 s6 it ok hh hl hd=>⟨pr,_,_,rfl,rfl,s6 _ _ er,by rw[J6,Kx];omega,atm p t H6 _ _ s6 it ok hh hl hd⟩⟩)
    ·refine cw (dk ⟨_,rfl,_,_,rfl,rfl,pos,_,_,rfl,rfl,_,rfl,ai (λz=>absurd z hb) (λ_=>aM ?_)⟩);by_cases h3:c%8>2
     ·refine cw (dk ⟨_,rfl,_,_,rfl,rfl,pos,_,_,rfl,rfl,_,rfl,ai (λ_=>?_) (λz=>absurd h3 z)⟩);refine dk ⟨_,rfl,_,_,rfl,rfl,pos,_,_,rfl,rfl,_,rfl,ai (λ_=>?_) (λz=>absurd (show c%8<5 by omega) z)⟩;refine⟨_,rfl,pr,_,rfl,.inl (SqL.of er),_,_,rfl,rfl,_,rfl,ai (λh4=>?_) (λh4=>?_)⟩
      ·have h4':0<qs.length:=by rw[el]at h4;omega
       obtain⟨g1,r,rfl⟩:∃g1 r,qs=g1::r:=List.exists_cons_of_length_pos h4'
       obtain⟨j1,hr',rfl⟩:∃j1 hr',hs=j1::hr':=by
        have:=hR.len
        match hs,this with
        |j1::hr',_=>exact⟨j1,hr',rfl⟩
       obtain⟨⟨t1,i1,ok1,l1,d1,b1⟩,hRr⟩:=id hR;refine aC ⟨_,rfl,_,rfl,pr,_,_,_,rfl,rfl,SqL.of er,yQ g1 r,_,rfl,_,_,rfl,rfl,cdp,pr,g1,t1,_,rfl,i1,ok1,l1,λp t' H6 s6 it ok' hh hl'=>?_⟩;show hG _ _ _ _ _ _;refine cw ⟨_,rfl,pr,p,t',rfl,it,by omega,_,rfl,?_⟩;by_cases hf:(tx t').length<=200/\dep t'<=10
       ·rw[decide_eq_true hf.1,decide_eq_true hf.2];refine aN ?_;have er6:=s6 _ _ er;have el':((g1::r).reverse.map V.ref).length=r.length+1:=by simp
        refine⟨_,rfl,_,rfl,_,rfl,pr,_,_,r.length,rfl,rfl,er6,?_,?_⟩
        ·rw[el'];unfold ixN;rw[if_neg (by decide),if_pos (by omega)]
         congr 1;omega
        ·have kp:=xt (o:=.lst (((g1::r).reverse.map V.ref).set r.length (V.ref p))) er6;rw[KO]at hsum;rw[J4]at hq;refine⟨pr,p::r,(j1+1)::hr',_,_,rfl,fT (s5.trans s6) hpr,hpr,by rw[ap,Am],⟨⟨t',it.kp kp,ok',hf.1,hf.2,by omega⟩,(hRr.kp (aW s6)).kp kp⟩,by rw[KO];omega,by rw[J4];omega⟩
       ·rw[sH hf];refine aM (oG ?_);exact more _ _ _ s6
      ·exact lc (qU ⟨_,rfl,.inl ⟨rfl,_,SqL.of er⟩,_,rfl,_,_,rfl,rfl,cdp,pr,_,rfl,nav,λp t H6 s6 it ok hh hl hd=>⟨pr,_,_,rfl,rfl,s6 _ _ er,by rw[J6,Kx];omega,atm p t H6 _ _ s6 it ok hh hl hd⟩⟩)
     ·refine cw (dk ⟨_,rfl,_,_,rfl,rfl,pos,_,_,rfl,rfl,_,rfl,ai (λz=>absurd z h3) (λ_=>aM ?_)⟩);exact lc (qU ⟨_,rfl,.inl ⟨rfl,_,SqL.of er⟩,_,rfl,_,_,rfl,rfl,cdp,pr,_,rfl,nav,λp t H6 s6 it ok hh hl hd=>⟨pr,_,_,rfl,rfl,s6 _ _ er,by rw[J6,Kx];omega,atm p t H6 _ _ s6 it ok hh hl hd⟩⟩)
   ·exactλσ' H' h=>rest _ _ (by rw[J6]at h;exact h)
  clear s0;rintro σ' H5 ⟨pr,qs,hs,z2,z3,rfl,s5,hpr,er,hR,hsum,hq⟩;have nav:H5 pr≠none:=by rw[er];exactλz=>by cases z
  have el:((qs.reverse.map V.ref).length:Int)=(qs.length:Int):=by rw[J6,Kx]
  refine am ⟨_,rfl,pr,_,rfl,.inl (SqL.of er),_,_,rfl,rfl,_,rfl,ai (λh0=>?_) (λh0=>?_)⟩
  ·refine aG ⟨sz 2,λp1 h1=>⟨sz 4,λp2 h2=>?_⟩⟩;have u1:=Same.upd_new (o:=.tup [V.str (Str.ofString "whole"),.int 5]) h1;refine kk pr p2 (.whole 5) _ (s5.trans (u1.then_new h2)) ⟨p1,?_,(Same.upd_new h2) _ _ ap⟩ (by show 5<10^30;decide) (by decide +kernel) (by decide) (by decide);rw[ap,show V.str (Str.ofString "5")=vS (tx (.whole 5)) by rw[show Str.ofString "5"=stL (tx (.whole 5)) by decide +kernel]];rfl
  have h0':0<qs.length:=by rw[el]at h0;omega
  have lr:qs.reverse.length=qs.length:=Kx;have ls:hs.reverse.sum=hs.sum:=by rw[List.sum_reverse]
  obtain⟨g0,eg0⟩:∃g0,qs.reverse[0]?=some g0:=⟨_,List.getElem?_eq_getElem (by omega)⟩;obtain⟨k0,ek0,t0,i0,ok0,l0,d0,b0⟩:=hR.rev eg0;refine aC ⟨_,rfl,pr,_,_,_,rfl,rfl,SqL.of er,IM (j:=0) rfl eg0,?_⟩;refine⟨_,rfl,_,rfl,pr,_,rfl,SqL.of er,λp5 h5=>?_⟩;rw[HD];have u5:=Same.upd_new (o:=.lst ((qs.reverse.map V.ref).drop 1)) h5;have e5:upd H5 p5 (.lst ((qs.reverse.map V.ref).drop 1)) p5=some (.lst ((qs.reverse.map V.ref).drop 1)):=ap;generalize upd H5 p5 (.lst ((qs.reverse.map V.ref).drop 1))=H6 at u5 e5 ⊢
  have hR6:=hR.kp (aW u5);have i06:=i0.kp (aW u5);refine⟨p5,rfl,⟨_,SqL.of e5⟩,sG (K:=K) (a:=p5) (xs:=(qs.reverse.map V.ref).drop 1) (λi σ' H'=>∃(z3 z5:Option V) (g:Addr) (t:PT),σ'=[some (.ref a),some (.ref pr),z2,z3,some (.ref g),z5]/\Same H6 H'/\ItH pr H' t g/\OkT t/\(tx t).length<=200/\dep t<=10/\t.hgt<=(hs.reverse.take (i+1)).sum) ?_ ?_ ?_ ?_⟩
  ·refine⟨z3,none,g0,t0,rfl,Same.refl _,i06,ok0,l0,d0,?_⟩;rw[KR,ek0,List.take_zero];show t0.hgt<=[k0].sum;rw[KO];exact Nat.le_add_right_of_le b0
  ·rintro i σ' H7 _ ⟨z3,z5,g,t,rfl,s7,_⟩;exact SqL.of (s7 _ _ e5)
  ·rintro i x σ' H7 hi ⟨z3,z5,g,t,rfl,s7,it,ok,l,d,b⟩
   obtain⟨q2,eq2,rfl⟩:∃q2,qs.reverse[1+i]?=some q2/\x=.ref q2:=by
    rw[List.getElem?_drop,List.getElem?_map]at hi;cases e:qs.reverse[1+i]? with
    |none=>rw[e]at hi;cases hi
    |some q2=>rw[e]at hi;cases hi;exact⟨q2,rfl,rfl⟩
   obtain⟨k2,ek2,t2,i2,ok2,l2,d2,b2⟩:=(hR6.kp (aW s7)).rev eq2
   have es:(hs.reverse.take (i+1+1)).sum=(hs.reverse.take (i+1)).sum+k2:=by rw[KR (i:=i+1),show i+1=1+i by omega,ek2,List.sum_append];rfl
   obtain⟨pt,eg,hT⟩:=id it;have p1:=jl t;have p2:=jl t2;dsimp only
   refine aC ⟨_,rfl,_,rfl,_,rfl,g,_,_,_,rfl,rfl,SqT.of eg,rfl,_,rfl,by rw[ah];omega,pr,g,q2,t,t2,_,rfl,it,i2,ok,ok2,l,l2,λp t' H8 s8 it' ok' hh hl'=>?_⟩;show hG _ _ _ _ _ _;refine cw ⟨_,rfl,pr,p,t',rfl,it',by omega,_,rfl,?_⟩;by_cases hf:(tx t').length<=200/\dep t'<=10
   ·rw[decide_eq_true hf.1,decide_eq_true hf.2];refine aN (bJ ⟨_,rfl,?_⟩);exact⟨_,_,p,t',rfl,s7.trans s8,it',ok',hf.1,hf.2,by rw[es];omega⟩
   ·rw[sH hf];refine aM (oG ?_);exact⟨_,_,g,t,rfl,s7.trans s8,it.kp (aW s8),ok,l,d,by rw[es];omega⟩
  ·rintro σ' H7 ⟨z3,z5,g,t,rfl,s7,it,ok,l,d,b⟩;dsimp only
   refine aG ⟨_,rfl,kk pr g t H7 (s5.trans (u5.trans s7)) it ok l d ?_⟩;generalize ((qs.reverse.map V.ref).drop 1).length+1=m at b
   have e:=congrArg List.sum (List.take_append_drop m hs.reverse);rw[List.sum_append]at e;omega
theorem oF(j:Int):rt j 2=rt (hfP j).1 (hfP j).2/\rb j 2=rb (hfP j).1 (hfP j).2:=by
 unfold hfP;by_cases h:j%2=0
 ·rw[if_pos h];show rt j 2=rt (j/2) 1/\rb j 2=rb (j/2) 1;rw[(la (j/2)).1,(la (j/2)).2];have h1:=lg (t:=j) (b:=2) (by decide);have h2:=mj (t:=j) (b:=2) (by decide)
  have e:dv j 2=2:=by
   have:dv j 2=((Nat.gcd j.natAbs 2:Nat):Int):=rfl
   have g:Nat.gcd j.natAbs 2=2:=by rw[Nat.gcd_comm,Nat.gcd_rec,show j.natAbs%2=0 by omega];rfl
   rw[this,g];rfl
  rw[e]at h1 h2;omega
 ·rw[if_neg h];exact⟨rfl,rfl⟩
def qy(tc:TC)(n:Nat):Sp:=λvs H Q _=>∃(av av2 p:Addr) (t:PT),vs=[.ref p]/\LtH av H t p/\OkT t/\t.hgt<=n/\H av2≠none/\∀(q:Addr) (H':Hp),Same H H'->PtH tc av2 H' t q->Q (.ref q) H'
theorem CS{tc:TC}{n:Nat}{CWhole CNamed CGiven CMinus CSum CLess CTimes COver CPower CRooted CRatio f:Addr}{fd:FuncData}(F:Fun K "_law_made" "_law_made" gs f fd)(T:Txt K mg)(e0:tc=⟨CWhole,CNamed,CGiven,CMinus,CSum,CLess,CTimes,COver,CPower,CRooted,CRatio⟩){fe:Addr}{eO:FuncData}{fu:List Value}(dJ:KCal P w K mg base 1 CWhole "Whole" ["self","value"] (bE CWhole "value") fe eO fu []){fo:Addr}{eY:FuncData}{fC:List Value}(dQ:KCal P w K mg base 1 CNamed "Named" ["self","word"] (bE CNamed "word") fo eY fC []){jD:Addr}{jv:FuncData}{jF:List Value}(iM:KCal P w K mg base 1 CGiven "Given" ["self","row","low","high"] (jO CGiven) jD jv jF []){jC:Addr}{ju:FuncData}{jE:List Value}(iL:KCal P w K mg base 2 CRatio "Ratio" ["self","top","bottom"] (iU CRatio) jC ju jE [.int 1]){fq:Addr}{eZ:FuncData}{fD:List Value}(dR:KCal P w K mg base 1 CMinus "Minus" ["self","one"] (bE CMinus "one") fq eZ fD []){fj:Addr}{eV:FuncData}{fA:List Value}(dO:KCal P w K mg base 1 CPower "Power" ["self","one","exponent"] (aP CPower "one" "power") fj eV fA []){fh:Addr}{eS:FuncData}{fz:List Value}(dN:KCal P w K mg base 1 CRooted "Rooted" ["self","one","exponent"] (aP CRooted "one" "power") fh eS fz []){fg:Addr}{eR:FuncData}{fw:List Value}(dM:KCal P w K mg base 1 CSum "Sum" ["self","one","other"] (aP CSum "one" "other") fg eR fw []){ft:Addr}{fb:FuncData}{fE:List Value}(dS:KCal P w K mg base 1 CLess "Less" ["self","one","other"] (aP CLess "one" "other") ft fb fE []){ff:Addr}{eQ:FuncData}{fv:List Value}(dL:KCal P w K mg base 1 CTimes "Times" ["self","one","other"] (aP CTimes "one" "other") ff eQ fv []){fk:Addr}{eW:FuncData}{fB:List Value}(dP:KCal P w K mg base 1 COver "Over" ["self","one","other"] (aP COver "one" "other") fk eW fB []){lI:Addr}{lH:FuncData}(C__law_made:Cal P w K mg base (n+4) "_law_made" ["_law_tree"] (qy tc n) lI lH):FnOk P w K mg base CX0 (n+5) f fd ["_law_tree"] (qy tc (n+1)):=by
 obtain⟨uO,uw,rO,t9,Iy,Ho⟩:=dJ;obtain⟨uV,uB,rT,uh,IE,Hv⟩:=dQ;obtain⟨uY,uE,rX,um,IH,Hy⟩:=iM;obtain⟨nZ,nV,mI,ue,uo,tP⟩:=iL;obtain⟨uW,uC,rV,uk,IF,Hw⟩:=dR;obtain⟨uT,uz,rR,uf,IC,Ht⟩:=dO;obtain⟨pL,pJ,oU,pH,IB,Hs⟩:=dN;obtain⟨uQ,uy,rQ,ub,IA,Hr⟩:=dM;obtain⟨uX,uD,rW,ul,IG,Hx⟩:=dS;obtain⟨uP,ux,rP,ua,Iz,Hq⟩:=dL;obtain⟨uU,uA,rS,ug,ID,Hu⟩:=dP;obtain⟨pK,oT,o5,pG⟩:=C__law_made;subst e0;refine F.ok sc__law_made (λvs H Q E h=>?_) (λcdv A outer s H vs Q E hr h=>?_)
 ·obtain⟨av,av2,p,t,rfl,_⟩:=h;rfl
 ·obtain⟨av,av2,p,t,rfl,hL,hO,hh,hav,k⟩:=h;have big:=sizeLine_eq
  refine⟨_,(af (aH (aF bA (aw (aI (K:=K) rfl) (pv 0) ad (λ_ _=>rfl)) ao (aA _))
   (ag (aq (bC uw uO (hr.mono (by omega)) rfl rO t9 .nil ak (aa (aw (aI (K:=K) rfl) (pv 0) ad (λ_ _=>rfl)) ac))))
   aJ)
   (af (aH (aF bA (aw (aI (K:=K) rfl) (pv 0) ad (λ_ _=>rfl)) ao (aA _))
     (ag (aq (bC uB uV (hr.mono (by omega)) rfl rT uh .nil ak (aa (aw (aI (K:=K) rfl) (pv 0) ad (λ_ _=>rfl)) ac))))
     aJ)
   (af (aH (aF bA (aw (aI (K:=K) rfl) (pv 0) ad (λ_ _=>rfl)) ao (aA _))
     (af (ay (i:=1) sc__law_made.nd rfl (Or.inl rfl) (cm (yy (K:=K) rfl) (by rfl) T.list_ PyProof.Rows.boot_list (aa (aw (aI (K:=K) rfl) (pv 0) ad (λ_ _=>rfl)) ac)))
       (af (ay (i:=2) sc__law_made.nd rfl (Or.inl rfl) (bC uE uY (hr.mono (by omega)) rfl rX um .nil ak (aa (pv 1) (aa (bC nV nZ (hr.mono (by omega)) rfl mI uo tP ak (aa (aw (aI (K:=K) rfl) (pv 0) ad (λ_ _=>rfl)) ac)) (aa (bC nV nZ (hr.mono (by omega)) rfl mI ue .nil ak (aa (aw (aI (K:=K) rfl) (pv 0) ad (λ_ _=>rfl)) (aa ad ac))) ac)))))
       (af (cc (fR PySem.F.plainAttrs_list PySem.F.slot_list_append PySem.F.type_list_append il (pv 1) (aa ad ac)))
       (ag (aq (pv 2))))))
     aJ)
   (af (ay (i:=3) sc__law_made.nd rfl (Or.inl rfl) (au pK (hr.mono (by omega)) rfl oT o5 pG .nil ak (aa (aw (aI (K:=K) rfl) (pv 0) ad (λ_ _=>rfl)) ac)))
   (af (aH (aF bA (aw (aI (K:=K) rfl) (pv 0) ad (λ_ _=>rfl)) ao (aA _))
     (ag (aq (bC uC uW (hr.mono (by omega)) rfl rV uk .nil ak (aa (pv 3) ac))))
     aJ)
   (af (aH (aF bA (aw (aI (K:=K) rfl) (pv 0) ad (λ_ _=>rfl)) ao (aA _))
     (ag (aq (bC uz uT (hr.mono (by omega)) rfl rR uf .nil ak (aa (pv 3) (aa (aw (aI (K:=K) rfl) (pv 0) ad (λ_ _=>rfl)) ac)))))
     aJ)
   (af (aH (aF bA (aw (aI (K:=K) rfl) (pv 0) ad (λ_ _=>rfl)) ao (aA _))
     (ag (aq (bC pJ pL (hr.mono (by omega)) rfl oU pH .nil ak (aa (pv 3) (aa (aw (aI (K:=K) rfl) (pv 0) ad (λ_ _=>rfl)) ac)))))
     aJ)
   (af (ay (i:=4) sc__law_made.nd rfl (Or.inl rfl) (au pK (hr.mono (by omega)) rfl oT o5 pG .nil ak (aa (aw (aI (K:=K) rfl) (pv 0) ad (λ_ _=>rfl)) ac)))
   (af (aH (aF bA (aw (aI (K:=K) rfl) (pv 0) ad (λ_ _=>rfl)) ao (aA _))
     (ag (aq (bC uy uQ (hr.mono (by omega)) rfl rQ ub .nil ak (aa (pv 3) (aa (pv 4) ac)))))
     aJ)
   (af (aH (aF bA (aw (aI (K:=K) rfl) (pv 0) ad (λ_ _=>rfl)) ao (aA _))
     (ag (aq (bC uD uX (hr.mono (by omega)) rfl rW ul .nil ak (aa (pv 3) (aa (pv 4) ac)))))
     aJ)
   (af (aH (aF bA (aw (aI (K:=K) rfl) (pv 0) ad (λ_ _=>rfl)) ao (aA _))
     (ag (aq (bC ux uP (hr.mono (by omega)) rfl rP ua .nil ak (aa (pv 3) (aa (pv 4) ac)))))
     aJ)
   (ag (aq (bC uA uU (hr.mono (by omega)) rfl rS ug .nil ak (aa (pv 3) (aa (pv 4) ac)))))))))))))))),?_⟩
  cases t with
  |whole m =>have e:H p=some (.tup [.str (Str.ofString "whole"),.int (m:Int)]):=hL;refine am ⟨_,rfl,p,_,_,_,rfl,rfl,SqT.of e,rfl,rfl,_,rfl,ai (λ_=>?_) (λz=>absurd rfl z)⟩;exact aG ⟨_,rfl,p,_,_,_,rfl,rfl,SqT.of e,rfl,lB (a:=.int (m:Int)) λx H' dx s' hx ex=>k x H' s' ⟨cP hav hx,dx,ex⟩⟩
  |named m =>have e:H p=some (.tup [.str (Str.ofString "named"),vS m]):=hL;refine am ⟨_,rfl,p,_,_,_,rfl,rfl,SqT.of e,rfl,rfl,_,rfl,ai (λz=>absurd (V.str.inj z) (by decide +kernel)) (λ_=>?_)⟩;refine am ⟨_,rfl,p,_,_,_,rfl,rfl,SqT.of e,rfl,rfl,_,rfl,ai (λ_=>?_) (λz=>absurd rfl z)⟩;exact aG ⟨_,rfl,p,_,_,_,rfl,rfl,SqT.of e,rfl,lB (a:=vS m) λx H' dx s' hx ex=>k x H' s' ⟨cP hav hx,dx,ex⟩⟩
  |given kp l h =>
   obtain⟨pk,i,j,e,_,ek,rfl,rfl,lj⟩:=hL;have g:OkG kp (i,1) (hfP j):=hO;refine am ⟨_,rfl,p,_,_,_,rfl,rfl,SqT.of e,rfl,rfl,_,rfl,ai (λz=>absurd (V.str.inj z) (by decide +kernel)) (λ_=>?_)⟩;refine am ⟨_,rfl,p,_,_,_,rfl,rfl,SqT.of e,rfl,rfl,_,rfl,ai (λz=>absurd (V.str.inj z) (by decide +kernel)) (λ_=>?_)⟩;refine am ⟨_,rfl,p,_,_,_,rfl,rfl,SqT.of e,rfl,rfl,_,rfl,ai (λ_=>?_) (λz=>absurd rfl z)⟩;refine aC ⟨_,rfl,p,_,_,_,rfl,rfl,SqT.of e,rfl,pk,_,rfl,.inl (SqL.of ek),λph hph=>?_⟩;have s1:=Same.upd_new (o:=.lst (kp.map V.int)) hph;have eh:upd H ph (.lst (kp.map V.int)) ph=some (.lst (kp.map V.int)):=ap;generalize upd H ph (.lst (kp.map V.int))=H1 at s1 eh ⊢
   refine aC ⟨_,rfl,_,rfl,p,_,_,_,rfl,rfl,SqT.of (s1 _ _ e),rfl,oS (t:=i) (b:=1) (by decide) (Bits.mono (j:=1) (by show(1:Int).natAbs<2^1;decide) (by decide)) λpl H2 s2 hpl hRl=>?_⟩;have s12:=s1.trans s2;refine⟨_,rfl,p,_,_,_,rfl,rfl,SqT.of (s12 _ _ e),rfl,oS (t:=j) (b:=2) (by decide) (Bits.mono (j:=2) (by show(2:Int).natAbs<2^2;decide) (by decide)) λpr H3 s3 hpr hRr=>?_⟩;have s13:=s12.trans s3;have eh3:=s3 _ _ (s2 _ _ eh);intro z dz hz hdz nez
   have s8:Same H3 (upd (upd H3 dz (.own z)) z (.ins CGiven dz [])):=λb o e=>by rw[upd_ne (aU e hz),upd_ne (aU e hdz)];exact e
   refine⟨z,dz,ph,pl,pr,_,rfl,ap,s8 _ _ eh3,λqk hqk=>⟨rfl,?_⟩⟩;have s9:=Same.upd_new (o:=.lst (kp.map V.int)) hqk;have nzk:qk≠z:=λe=>by rw[e,ap]at hqk;cases hqk
   have nhk:ph≠qk:=aU (s8 _ _ eh3) hqk;have nhz:ph≠z:=aU eh3 hz
   have s10:Same H3 (upd (upd (upd (upd H3 dz (.own z)) z (.ins CGiven dz [])) qk (.lst (kp.map V.int))) z (.ins CGiven dz (cy qk pl pr))):=λb o e=>by rw[upd_ne (aU e hz)];exact(s8.trans s9) _ _ e
   have ez:upd (upd (upd (upd H3 dz (.own z)) z (.ins CGiven dz [])) qk (.lst (kp.map V.int))) z (.ins CGiven dz (cy qk pl pr)) z=some (.ins CGiven dz (cy qk pl pr)):=ap;have eqk:upd (upd (upd (upd H3 dz (.own z)) z (.ins CGiven dz [])) qk (.lst (kp.map V.int))) z (.ins CGiven dz (cy qk pl pr)) qk=some (.lst (kp.map V.int)):=by rw[upd_ne nzk];exact ap
   have hqk0:H qk=none:=jb (s13.trans s8) hqk;have hz0:H z=none:=jb s13 hz;have hpl0:H pl=none:=jb s1 hpl;have hpr0:H pr=none:=jb s12 hpr;have eh10:=s10 _ _ eh3;have hRl10:=(hRl.same s3).same s10;have hRr10:=hRr.same s10;generalize upd (upd (upd (upd H3 dz (.own z)) z (.ins CGiven dz [])) qk (.lst (kp.map V.int))) z (.ins CGiven dz (cy qk pl pr))=H4 at s10 ez eqk eh10 hRl10 hRr10 ⊢
   refine cE ⟨_,rfl,.inl ⟨rfl,_,SqL.of eh10⟩,ph,_,_,rfl,rfl,eh10,by rw[J6];have:=g.len;omega,?_⟩;have s14:Same H (upd H4 ph (.lst (kp.map V.int++[V.int 1]))):=fT (s13.trans s10) hph;have nl:pl≠ph:=(aU eh hpl).symm;have nr:pr≠ph:=(aU (s2 _ _ eh) hpr).symm;obtain⟨dl,el⟩:=hRl10;obtain⟨dr,er⟩:=hRr10;rw[(oF j).1,(oF j).2]at er;exact aG ⟨_,rfl,k z _ s14 ⟨cP hav hz0,dz,qk,pl,pr,by rw[upd_ne nhz.symm];exact ez,cP hav hqk0,by rw[upd_ne nhk.symm];exact eqk,cP hav hpl0,⟨dl,by rw[upd_ne nl];exact el⟩,cP hav hpr0,⟨dr,by rw[upd_ne nr];exact er⟩⟩⟩
  |minus t =>obtain⟨p1,e,hL1⟩:=hL;have hh':t.hgt<=n:=Kc hh;refine am ⟨_,rfl,p,_,_,_,rfl,rfl,SqT.of e,rfl,rfl,_,rfl,ai (λz=>absurd (V.str.inj z) (by decide +kernel)) (λ_=>?_)⟩;refine am ⟨_,rfl,p,_,_,_,rfl,rfl,SqT.of e,rfl,rfl,_,rfl,ai (λz=>absurd (V.str.inj z) (by decide +kernel)) (λ_=>?_)⟩;refine am ⟨_,rfl,p,_,_,_,rfl,rfl,SqT.of e,rfl,rfl,_,rfl,ai (λz=>absurd (V.str.inj z) (by decide +kernel)) (λ_=>?_)⟩;refine aC ⟨_,rfl,p,_,_,_,rfl,rfl,SqT.of e,rfl,av,av2,p1,t,rfl,hL1,hO,hh',hav,λq1 H1 s1 hP1=>?_⟩;have e1:=s1 _ _ e;refine am ⟨_,rfl,p,_,_,_,rfl,rfl,SqT.of e1,rfl,rfl,_,rfl,ai (λ_=>?_) (λz=>absurd rfl z)⟩;exact aG ⟨_,rfl,lB (a:=.ref q1) λx H2 dx s2 hx ex=>k x H2 (s1.trans s2) ⟨cP (d8 s1 hav) hx,dx,q1,ex,hP1.same s2⟩⟩
  |power t m =>obtain⟨p1,e,hL1⟩:=hL;have hh':t.hgt<=n:=Kc hh;refine am ⟨_,rfl,p,_,_,_,rfl,rfl,SqT.of e,rfl,rfl,_,rfl,ai (λz=>absurd (V.str.inj z) (by decide +kernel)) (λ_=>?_)⟩;refine am ⟨_,rfl,p,_,_,_,rfl,rfl,SqT.of e,rfl,rfl,_,rfl,ai (λz=>absurd (V.str.inj z) (by decide +kernel)) (λ_=>?_)⟩;refine am ⟨_,rfl,p,_,_,_,rfl,rfl,SqT.of e,rfl,rfl,_,rfl,ai (λz=>absurd (V.str.inj z) (by decide +kernel)) (λ_=>?_)⟩;refine aC ⟨_,rfl,p,_,_,_,rfl,rfl,SqT.of e,rfl,av,av2,p1,t,rfl,hL1,hO.1,hh',hav,λq1 H1 s1 hP1=>?_⟩;have e1:=s1 _ _ e;refine am ⟨_,rfl,p,_,_,_,rfl,rfl,SqT.of e1,rfl,rfl,_,rfl,ai (λz=>absurd (V.str.inj z) (by decide +kernel)) (λ_=>?_)⟩;refine am ⟨_,rfl,p,_,_,_,rfl,rfl,SqT.of e1,rfl,rfl,_,rfl,ai (λ_=>?_) (λz=>absurd rfl z)⟩;exact aG ⟨_,rfl,_,rfl,p,_,_,_,rfl,rfl,SqT.of e1,rfl,du (a:=.ref q1) (b:=.int (m:Int)) λx H2 dx s2 hx ex=>k x H2 (s1.trans s2) ⟨cP (d8 s1 hav) hx,dx,q1,ex,hP1.same s2⟩⟩
  |rooted t m =>obtain⟨p1,e,hL1⟩:=hL;have hh':t.hgt<=n:=Kc hh;refine am ⟨_,rfl,p,_,_,_,rfl,rfl,SqT.of e,rfl,rfl,_,rfl,ai (λz=>absurd (V.str.inj z) (by decide +kernel)) (λ_=>?_)⟩;refine am ⟨_,rfl,p,_,_,_,rfl,rfl,SqT.of e,rfl,rfl,_,rfl,ai (λz=>absurd (V.str.inj z) (by decide +kernel)) (λ_=>?_)⟩;refine am ⟨_,rfl,p,_,_,_,rfl,rfl,SqT.of e,rfl,rfl,_,rfl,ai (λz=>absurd (V.str.inj z) (by decide +kernel)) (λ_=>?_)⟩;refine aC ⟨_,rfl,p,_,_,_,rfl,rfl,SqT.of e,rfl,av,av2,p1,t,rfl,hL1,hO.1,hh',hav,λq1 H1 s1 hP1=>?_⟩;have e1:=s1 _ _ e;refine am ⟨_,rfl,p,_,_,_,rfl,rfl,SqT.of e1,rfl,rfl,_,rfl,ai (λz=>absurd (V.str.inj z) (by decide +kernel)) (λ_=>?_)⟩;refine am ⟨_,rfl,p,_,_,_,rfl,rfl,SqT.of e1,rfl,rfl,_,rfl,ai (λz=>absurd (V.str.inj z) (by decide +kernel)) (λ_=>?_)⟩;refine am ⟨_,rfl,p,_,_,_,rfl,rfl,SqT.of e1,rfl,rfl,_,rfl,ai (λ_=>?_) (λz=>absurd rfl z)⟩;exact aG ⟨_,rfl,_,rfl,p,_,_,_,rfl,rfl,SqT.of e1,rfl,du (a:=.ref q1) (b:=.int (m:Int)) λx H2 dx s2 hx ex=>k x H2 (s1.trans s2) ⟨cP (d8 s1 hav) hx,dx,q1,ex,hP1.same s2⟩⟩
  |sum t1 t2 =>obtain⟨p1,p2,e,hL1,hL2⟩:=hL;have hm:max t1.hgt t2.hgt<=n:=Kc hh;refine am ⟨_,rfl,p,_,_,_,rfl,rfl,SqT.of e,rfl,rfl,_,rfl,ai (λz=>absurd (V.str.inj z) (by decide +kernel)) (λ_=>?_)⟩;refine am ⟨_,rfl,p,_,_,_,rfl,rfl,SqT.of e,rfl,rfl,_,rfl,ai (λz=>absurd (V.str.inj z) (by decide +kernel)) (λ_=>?_)⟩;refine am ⟨_,rfl,p,_,_,_,rfl,rfl,SqT.of e,rfl,rfl,_,rfl,ai (λz=>absurd (V.str.inj z) (by decide +kernel)) (λ_=>?_)⟩;refine aC ⟨_,rfl,p,_,_,_,rfl,rfl,SqT.of e,rfl,av,av2,p1,t1,rfl,hL1,hO.1,by omega,hav,λq1 H1 s1 hP1=>?_⟩;have e1:=s1 _ _ e;refine am ⟨_,rfl,p,_,_,_,rfl,rfl,SqT.of e1,rfl,rfl,_,rfl,ai (λz=>absurd (V.str.inj z) (by decide +kernel)) (λ_=>?_)⟩;refine am ⟨_,rfl,p,_,_,_,rfl,rfl,SqT.of e1,rfl,rfl,_,rfl,ai (λz=>absurd (V.str.inj z) (by decide +kernel)) (λ_=>?_)⟩;refine am ⟨_,rfl,p,_,_,_,rfl,rfl,SqT.of e1,rfl,rfl,_,rfl,ai (λz=>absurd (V.str.inj z) (by decide +kernel)) (λ_=>?_)⟩;refine aC ⟨_,rfl,p,_,_,_,rfl,rfl,SqT.of e1,rfl,av,av2,p2,t2,rfl,hL2.kp (aW s1),hO.2,by omega,d8 s1 hav,λq2 H2 s2 hP2=>?_⟩;have e2:=s2 _ _ e1;have s12:=s1.trans s2;refine am ⟨_,rfl,p,_,_,_,rfl,rfl,SqT.of e2,rfl,rfl,_,rfl,ai (λ_=>?_) (λz=>absurd rfl z)⟩;exact aG ⟨_,rfl,_,rfl,du (a:=.ref q1) (b:=.ref q2) λx H3 dx s3 hx ex=>k x H3 (s12.trans s3) ⟨cP (d8 s12 hav) hx,dx,q1,q2,ex,(hP1.same s2).same s3,hP2.same s3⟩⟩
  |less t1 t2 =>obtain⟨p1,p2,e,hL1,hL2⟩:=hL;have hm:max t1.hgt t2.hgt<=n:=Kc hh;refine am ⟨_,rfl,p,_,_,_,rfl,rfl,SqT.of e,rfl,rfl,_,rfl,ai (λz=>absurd (V.str.inj z) (by decide +kernel)) (λ_=>?_)⟩;refine am ⟨_,rfl,p,_,_,_,rfl,rfl,SqT.of e,rfl,rfl,_,rfl,ai (λz=>absurd (V.str.inj z) (by decide +kernel)) (λ_=>?_)⟩;refine am ⟨_,rfl,p,_,_,_,rfl,rfl,SqT.of e,rfl,rfl,_,rfl,ai (λz=>absurd (V.str.inj z) (by decide +kernel)) (λ_=>?_)⟩;refine aC ⟨_,rfl,p,_,_,_,rfl,rfl,SqT.of e,rfl,av,av2,p1,t1,rfl,hL1,hO.1,by omega,hav,λq1 H1 s1 hP1=>?_⟩;have e1:=s1 _ _ e;refine am ⟨_,rfl,p,_,_,_,rfl,rfl,SqT.of e1,rfl,rfl,_,rfl,ai (λz=>absurd (V.str.inj z) (by decide +kernel)) (λ_=>?_)⟩;refine am ⟨_,rfl,p,_,_,_,rfl,rfl,SqT.of e1,rfl,rfl,_,rfl,ai (λz=>absurd (V.str.inj z) (by decide +kernel)) (λ_=>?_)⟩;refine am ⟨_,rfl,p,_,_,_,rfl,rfl,SqT.of e1,rfl,rfl,_,rfl,ai (λz=>absurd (V.str.inj z) (by decide +kernel)) (λ_=>?_)⟩;refine aC ⟨_,rfl,p,_,_,_,rfl,rfl,SqT.of e1,rfl,av,av2,p2,t2,rfl,hL2.kp (aW s1),hO.2,by omega,d8 s1 hav,λq2 H2 s2 hP2=>?_⟩;have e2:=s2 _ _ e1;have s12:=s1.trans s2;refine am ⟨_,rfl,p,_,_,_,rfl,rfl,SqT.of e2,rfl,rfl,_,rfl,ai (λz=>absurd (V.str.inj z) (by decide +kernel)) (λ_=>?_)⟩;refine am ⟨_,rfl,p,_,_,_,rfl,rfl,SqT.of e2,rfl,rfl,_,rfl,ai (λ_=>?_) (λz=>absurd rfl z)⟩;exact aG ⟨_,rfl,_,rfl,du (a:=.ref q1) (b:=.ref q2) λx H3 dx s3 hx ex=>k x H3 (s12.trans s3) ⟨cP (d8 s12 hav) hx,dx,q1,q2,ex,(hP1.same s2).same s3,hP2.same s3⟩⟩
  |times t1 t2 =>obtain⟨p1,p2,e,hL1,hL2⟩:=hL;have hm:max t1.hgt t2.hgt<=n:=Kc hh;refine am ⟨_,rfl,p,_,_,_,rfl,rfl,SqT.of e,rfl,rfl,_,rfl,ai (λz=>absurd (V.str.inj z) (by decide +kernel)) (λ_=>?_)⟩;refine am ⟨_,rfl,p,_,_,_,rfl,rfl,SqT.of e,rfl,rfl,_,rfl,ai (λz=>absurd (V.str.inj z) (by decide +kernel)) (λ_=>?_)⟩;refine am ⟨_,rfl,p,_,_,_,rfl,rfl,SqT.of e,rfl,rfl,_,rfl,ai (λz=>absurd (V.str.inj z) (by decide +kernel)) (λ_=>?_)⟩;refine aC ⟨_,rfl,p,_,_,_,rfl,rfl,SqT.of e,rfl,av,av2,p1,t1,rfl,hL1,hO.1,by omega,hav,λq1 H1 s1 hP1=>?_⟩;have e1:=s1 _ _ e;refine am ⟨_,rfl,p,_,_,_,rfl,rfl,SqT.of e1,rfl,rfl,_,rfl,ai (λz=>absurd (V.str.inj z) (by decide +kernel)) (λ_=>?_)⟩;refine am ⟨_,rfl,p,_,_,_,rfl,rfl,SqT.of e1,rfl,rfl,_,rfl,ai (λz=>absurd (V.str.inj z) (by decide +kernel)) (λ_=>?_)⟩;refine am ⟨_,rfl,p,_,_,_,rfl,rfl,SqT.of e1,rfl,rfl,_,rfl,ai (λz=>absurd (V.str.inj z) (by decide +kernel)) (λ_=>?_)⟩;refine aC ⟨_,rfl,p,_,_,_,rfl,rfl,SqT.of e1,rfl,av,av2,p2,t2,rfl,hL2.kp (aW s1),hO.2,by omega,d8 s1 hav,λq2 H2 s2 hP2=>?_⟩;have e2:=s2 _ _ e1;have s12:=s1.trans s2;refine am ⟨_,rfl,p,_,_,_,rfl,rfl,SqT.of e2,rfl,rfl,_,rfl,ai (λz=>absurd (V.str.inj z) (by decide +kernel)) (λ_=>?_)⟩;refine am ⟨_,rfl,p,_,_,_,rfl,rfl,SqT.of e2,rfl,rfl,_,rfl,ai (λz=>absurd (V.str.inj z) (by decide +kernel)) (λ_=>?_)⟩;refine am ⟨_,rfl,p,_,_,_,rfl,rfl,SqT.of e2,rfl,rfl,_,rfl,ai (λ_=>?_) (λz=>absurd rfl z)⟩;exact aG ⟨_,rfl,_,rfl,du (a:=.ref q1) (b:=.ref q2) λx H3 dx s3 hx ex=>k x H3 (s12.trans s3) ⟨cP (d8 s12 hav) hx,dx,q1,q2,ex,(hP1.same s2).same s3,hP2.same s3⟩⟩
  |over t1 t2 =>obtain⟨p1,p2,e,hL1,hL2⟩:=hL;have hm:max t1.hgt t2.hgt<=n:=Kc hh;refine am ⟨_,rfl,p,_,_,_,rfl,rfl,SqT.of e,rfl,rfl,_,rfl,ai (λz=>absurd (V.str.inj z) (by decide +kernel)) (λ_=>?_)⟩;refine am ⟨_,rfl,p,_,_,_,rfl,rfl,SqT.of e,rfl,rfl,_,rfl,ai (λz=>absurd (V.str.inj z) (by decide +kernel)) (λ_=>?_)⟩;refine am ⟨_,rfl,p,_,_,_,rfl,rfl,SqT.of e,rfl,rfl,_,rfl,ai (λz=>absurd (V.str.inj z) (by decide +kernel)) (λ_=>?_)⟩;refine aC ⟨_,rfl,p,_,_,_,rfl,rfl,SqT.of e,rfl,av,av2,p1,t1,rfl,hL1,hO.1,by omega,hav,λq1 H1 s1 hP1=>?_⟩;have e1:=s1 _ _ e;refine am ⟨_,rfl,p,_,_,_,rfl,rfl,SqT.of e1,rfl,rfl,_,rfl,ai (λz=>absurd (V.str.inj z) (by decide +kernel)) (λ_=>?_)⟩;refine am ⟨_,rfl,p,_,_,_,rfl,rfl,SqT.of e1,rfl,rfl,_,rfl,ai (λz=>absurd (V.str.inj z) (by decide +kernel)) (λ_=>?_)⟩;refine am ⟨_,rfl,p,_,_,_,rfl,rfl,SqT.of e1,rfl,rfl,_,rfl,ai (λz=>absurd (V.str.inj z) (by decide +kernel)) (λ_=>?_)⟩;refine aC ⟨_,rfl,p,_,_,_,rfl,rfl,SqT.of e1,rfl,av,av2,p2,t2,rfl,hL2.kp (aW s1),hO.2,by omega,d8 s1 hav,λq2 H2 s2 hP2=>?_⟩;have e2:=s2 _ _ e1;have s12:=s1.trans s2;refine am ⟨_,rfl,p,_,_,_,rfl,rfl,SqT.of e2,rfl,rfl,_,rfl,ai (λz=>absurd (V.str.inj z) (by decide +kernel)) (λ_=>?_)⟩;refine am ⟨_,rfl,p,_,_,_,rfl,rfl,SqT.of e2,rfl,rfl,_,rfl,ai (λz=>absurd (V.str.inj z) (by decide +kernel)) (λ_=>?_)⟩;refine am ⟨_,rfl,p,_,_,_,rfl,rfl,SqT.of e2,rfl,rfl,_,rfl,ai (λz=>absurd (V.str.inj z) (by decide +kernel)) (λ_=>?_)⟩;exact aG ⟨_,rfl,_,rfl,du (a:=.ref q1) (b:=.ref q2) λx H3 dx s3 hx ex=>k x H3 (s12.trans s3) ⟨cP (d8 s12 hav) hx,dx,q1,q2,ex,(hP1.same s2).same s3,hP2.same s3⟩⟩
theorem wZ{tc:TC}{CWhole CNamed CGiven CMinus CSum CLess CTimes COver CPower CRooted CRatio:Addr}(T:Txt K mg)(e0:tc=⟨CWhole,CNamed,CGiven,CMinus,CSum,CLess,CTimes,COver,CPower,CRooted,CRatio⟩){fe:Addr}{eO:FuncData}{fu:List Value}(dJ:KCal P w K mg base 1 CWhole "Whole" ["self","value"] (bE CWhole "value") fe eO fu []){fo:Addr}{eY:FuncData}{fC:List Value}(dQ:KCal P w K mg base 1 CNamed "Named" ["self","word"] (bE CNamed "word") fo eY fC []){jD:Addr}{jv:FuncData}{jF:List Value}(iM:KCal P w K mg base 1 CGiven "Given" ["self","row","low","high"] (jO CGiven) jD jv jF []){jC:Addr}{ju:FuncData}{jE:List Value}(iL:KCal P w K mg base 2 CRatio "Ratio" ["self","top","bottom"] (iU CRatio) jC ju jE [.int 1]){fq:Addr}{eZ:FuncData}{fD:List Value}(dR:KCal P w K mg base 1 CMinus "Minus" ["self","one"] (bE CMinus "one") fq eZ fD []){fj:Addr}{eV:FuncData}{fA:List Value}(dO:KCal P w K mg base 1 CPower "Power" ["self","one","exponent"] (aP CPower "one" "power") fj eV fA []){fh:Addr}{eS:FuncData}{fz:List Value}(dN:KCal P w K mg base 1 CRooted "Rooted" ["self","one","exponent"] (aP CRooted "one" "power") fh eS fz []){fg:Addr}{eR:FuncData}{fw:List Value}(dM:KCal P w K mg base 1 CSum "Sum" ["self","one","other"] (aP CSum "one" "other") fg eR fw []){ft:Addr}{fb:FuncData}{fE:List Value}(dS:KCal P w K mg base 1 CLess "Less" ["self","one","other"] (aP CLess "one" "other") ft fb fE []){ff:Addr}{eQ:FuncData}{fv:List Value}(dL:KCal P w K mg base 1 CTimes "Times" ["self","one","other"] (aP CTimes "one" "other") ff eQ fv []){fk:Addr}{eW:FuncData}{fB:List Value}(dP:KCal P w K mg base 1 COver "Over" ["self","one","other"] (aP COver "one" "other") fk eW fB []){lI:Addr}{lH:FuncData}(C__law_made:RawC K mg "_law_made" gs ["_law_tree"] lI lH):∀n,Cal P w K mg base (n+4) "_law_made" ["_law_tree"] (qy tc n) lI lH
 |0=>C__law_made.cal (C__law_made.fn.ok sc__law_made (λ_ _ _ _ ⟨_,_,_,t,_,_,_,h,_⟩=>absurd (jl t) (by omega)) (λ_ _ _ _ _ _ _ _ _ ⟨_,_,_,t,_,_,_,h,_⟩=>absurd (jl t) (by omega)))
 |n+1=>C__law_made.cal (CS C__law_made.fn T e0 dJ dQ iM iL dR dO dN dM dS dL dP (wZ T e0 dJ dQ iM iL dR dO dN dM dS dL dP C__law_made n))
def iS:Sp:=λvs H Q _=>∃i:Int,vs=[.int i]/\Q (.bl true) H
theorem CM{f:Addr}{fd:FuncData}(F:Fun K "_law_whole" "_law_whole" ko f fd)(T:Txt K mg):FnOk P w K mg base CX0 1 f fd ["_law_found"] iS:=by
 refine F.ok AH (λvs H Q E h=>?_) (λcdv A outer s H vs Q E hr h=>?_)
 ·obtain⟨i,rfl,_⟩:=h;rfl
 ·obtain⟨i,rfl,k⟩:=h;refine⟨_,(ag (aq (bx (aO (bH (K:=K) rfl) (by rfl) T.isinstance_ PyProof.Rows.boot_isinstance (aa (pv 0) (aa (mx (v:=.ty "int") (by rfl) T.int_ PyProof.Rows.boot_int (by rfl)) ac))) (bq (lq (aO (bH (K:=K) rfl) (by rfl) T.isinstance_ PyProof.Rows.boot_isinstance (aa (pv 0) (aa (mx (v:=.ty "bool") (by rfl) T.bool_ PyProof.Rows.boot_bool (by rfl)) ac)))))))),?_⟩;refine aG (aV (bw ⟨_,rfl,mU (.int i) (k:=true) (by rfl) ⟨_,rfl,aN ?_⟩⟩));refine Bc (bw ⟨_,rfl,mU (.int i) (k:=false) (by rfl) ⟨_,rfl,?_⟩⟩);exact k
def oz(C:Addr):Sp:=λvs H Q _=>∃(r:Addr) (x:Int×Int),vs=[.ref r,.int x.1,.int x.2]/\RA C H r (rt x.1 x.2) (rb x.1 x.2)/\n5 x/\Q (.bl true) H
theorem CO{CRatio f:Addr}{fd:FuncData}(F:Fun K "_law_ratio" "_law_ratio" kq f fd)(T:Txt K mg)(RRatio:RCI K mg CRatio){gW:Addr}{gS:FuncData}(fK:Cal P w K mg base 1 "_law_whole" ["_law_found"] iS gW gS):FnOk P w K mg base CX0 2 f fd ["_law_r","_law_top","_law_bottom"] (oz CRatio):=by
 obtain⟨iI,iq,iw,iD⟩:=fK;refine F.ok AI (λvs H Q E h=>?_) (λcdv A outer s H vs Q E hr h=>?_)
 ·obtain⟨r,x,rfl,_⟩:=h;rfl
 ·obtain⟨p,x,rfl,⟨dx,hp⟩,⟨h0,h1,h2⟩,k⟩:=h
  refine⟨_,(af (aH (PW.pt (mn (dY (bB (aO (bH (K:=K) rfl) (by rfl) T.isinstance_ PyProof.Rows.boot_isinstance (aa (pv 0) (aa (br (v:=.ref CRatio) rfl RRatio.mg rfl) ac))))) (mn (dY (bB (au iI (hr.mono) rfl iq iw iD .nil ak (aa (aK (K:=K) rfl (pv 0) rfl) ac)))) (qW (dY (bB (au iI (hr.mono) rfl iq iw iD .nil ak (aa (aK (K:=K) rfl (pv 0) rfl) ac))))))))
   (ag (aq iY))
   aJ)
   (ag (aq (bx (bQ dq (aK (K:=K) rfl (pv 0) rfl) ad (aA _)) (bq (bQ bL (aj d5 (aK (K:=K) rfl (pv 0) rfl) (pv 2)) (aj d5 (pv 1) (aK (K:=K) rfl (pv 0) rfl)) (aA _))))))),?_⟩
  refine am (mm (fP (oH (bw ⟨_,rfl,dB (.ins hp RRatio.cl RRatio.ha RRatio.hn RRatio.ht RRatio.hm) (k:=true) (by unfold PySem.W.kitOne;rw[if_pos (by simp)]) ⟨_,rfl,aM ?_⟩⟩))));refine mm (fP ⟨_,rfl,p,CRatio,dx,_,_,rfl,hp,RRatio.cl,RRatio.nT,py _ _,_,rfl,_,rfl,aM ?_⟩);refine fP ⟨_,rfl,p,CRatio,dx,_,_,rfl,hp,RRatio.cl,RRatio.nB,mY _ _,_,rfl,_,rfl,aM ?_⟩;refine aG (aV ⟨_,rfl,p,CRatio,dx,_,_,rfl,hp,RRatio.cl,RRatio.nB,mY _ _,_,_,rfl,rfl,_,rfl,?_⟩);rw[decide_eq_true (show rb x.1 x.2>0 from Bj h0)];have b1:Bits 1000000 (rt x.1 x.2):=Bits.mono (j:=64) (KP (A9 h0) h1) (by decide);have b2:Bits 1000000 (rb x.1 x.2):=Bits.mono (j:=64) (KP (Bk h0) h2) (by decide);refine aN ⟨_,rfl,p,CRatio,dx,_,_,rfl,hp,RRatio.cl,RRatio.nT,py _ _,_,rfl,_,_,rfl,rfl,⟨b1,Bits.mono (j:=64) h2 (by decide)⟩,_,rfl,_,rfl,p,CRatio,dx,_,_,rfl,hp,RRatio.cl,RRatio.nB,mY _ _,_,_,rfl,rfl,⟨Bits.mono (j:=64) h1 (by decide),b2⟩,_,_,rfl,rfl,v7 ?_ k⟩;have e1:=mj (t:=x.1) h0;have e2:=lg (t:=x.1) h0
  calc rt x.1 x.2*x.2=rt x.1 x.2*(dv x.1 x.2*rb x.1 x.2):=by rw[e2]
   _=dv x.1 x.2*rt x.1 x.2*rb x.1 x.2:=by rw[<- Int.mul_assoc,Int.mul_comm (rt x.1 x.2)]
   _=x.1*rb x.1 x.2:=by rw[e1]
noncomputable def Fu:PT->Prop
 |.whole _=>True |.named _=>True |.given _ _ _=>True |_=>False
def qB(tc:TC):Sp:=λvs H Q _=>∃(av av2 q qt:Addr) (t:PT),vs=[.ref q,.ref qt]/\PtH tc av H t q/\LtH av2 H t qt/\t.ok/\Fu t/\Q (.bl true) H
theorem CT{tc:TC}{CRatio CWhole CNamed CGiven f:Addr}{fd:FuncData}(F:Fun K "_law_like_leaf" "_law_like_leaf" hV f fd)(T:Txt K mg)(RWhole:PCI K mg CWhole "Whole" ["value"])(RNamed:PCI K mg CNamed "Named" ["word"])(RGiven:GCI K mg CGiven)(ew:tc.wh=CWhole)(en:tc.na=CNamed)(eg:tc.gi=CGiven)(ea:tc.ra=CRatio){gW:Addr}{gS:FuncData}(fK:Cal P w K mg base 1 "_law_whole" ["_law_found"] iS gW gS){tf:Addr}{sM:FuncData}(va:Cal P w K mg base 2 "_law_ratio" ["_law_r","_law_top","_law_bottom"] (oz CRatio) tf sM):FnOk P w K mg base CX0 3 f fd ["_law_found","_law_tree"] (qB tc):=by
 obtain⟨iI,iq,iw,iD⟩:=fK;obtain⟨y2,xh,xC,yM⟩:=va;refine F.ok sc__law_like_leaf (λvs H Q E h=>?_) (λcdv A outer s H vs Q E hr h=>?_)
 ·obtain⟨av,av2,q,qt,t,rfl,_⟩:=h;rfl
 ·obtain⟨av,av2,q,qt,t,rfl,hP,hL,hok,hlf,k⟩:=h;have hu:=hr.units
  refine⟨_,(af (aH (aF bA (aw (aI (K:=K) rfl) (pv 1) ad (λ_ _=>rfl)) ao (aA _))
   (ag (aq (bx (aO (bH (K:=K) rfl) (by rfl) T.isinstance_ PyProof.Rows.boot_isinstance (aa (pv 0) (aa (br (v:=.ref CWhole) rfl RWhole.mg rfl) ac))) (bx (au iI (hr.mono) rfl iq iw iD .nil ak (aa (aK (K:=K) rfl (pv 0) rfl) ac)) (bq (bQ bL (aK (K:=K) rfl (pv 0) rfl) (aw (aI (K:=K) rfl) (pv 1) ad (λ_ _=>rfl)) (aA _)))))))
   aJ)
   (af (aH (aF bA (aw (aI (K:=K) rfl) (pv 1) ad (λ_ _=>rfl)) ao (aA _))
     (ag (aq (bx (aO (bH (K:=K) rfl) (by rfl) T.isinstance_ PyProof.Rows.boot_isinstance (aa (pv 0) (aa (br (v:=.ref CNamed) rfl RNamed.mg rfl) ac))) (bx (aO (bH (K:=K) rfl) (by rfl) T.isinstance_ PyProof.Rows.boot_isinstance (aa (aK (K:=K) rfl (pv 0) rfl) (aa (mx (v:=.ty "str") (by rfl) T.str_ PyProof.Rows.boot_str (by rfl)) ac))) (bq (bQ bA (aK (K:=K) rfl (pv 0) rfl) (aw (aI (K:=K) rfl) (pv 1) ad (λ_ _=>rfl)) (aA _)))))))
     aJ)
   (af (aH (PW.pt (mn (dY (bB (aO (bH (K:=K) rfl) (by rfl) T.isinstance_ PyProof.Rows.boot_isinstance (aa (pv 0) (aa (br (v:=.ref CGiven) rfl RGiven.mg rfl) ac))))) (mn (dY (bB (aO (bH (K:=K) rfl) (by rfl) T.isinstance_ PyProof.Rows.boot_isinstance (aa (aK (K:=K) rfl (pv 0) rfl) (aa (mx (v:=.ty "list") (by rfl) T.list_ PyProof.Rows.boot_list (by rfl)) ac))))) (qW (aF (B1 (K:=K) rfl hu) (aK (K:=K) rfl (pv 0) rfl) (aw (aI (K:=K) rfl) (pv 1) ad (λ_ _=>rfl)) (aA _))))))
     (ag (aq iY))
     aJ)
   (af (gF PassesOwn.never rfl (q8 (K:=K) rfl (aK (K:=K) rfl (pv 0) rfl)) (dZ (i:=2) sc__law_like_leaf.nd rfl (Or.inl rfl))
     (ag (aH (dY (bB (au iI (hr.mono) rfl iq iw iD .nil ak (aa (pv 2) ac))))
       (ag (aq iY))
       aJ)))
   (ag (aq (bx (au y2 (hr.mono) rfl xh xC yM .nil ak (aa (aK (K:=K) rfl (pv 0) rfl) (aa (aw (aI (K:=K) rfl) (pv 1) ad (λ_ _=>rfl)) (aa ad ac)))) (bq (au y2 (hr.mono) rfl xh xC yM .nil ak (aa (aK (K:=K) rfl (pv 0) rfl) (aa (aw (aI (K:=K) rfl) (pv 1) ad (λ_ _=>rfl)) (aa ad ac)))))))))))),?_⟩
  cases t with
  |whole n =>obtain⟨_,dx,hq⟩:=hP;rw[ew]at hq;have e:H qt=some (.tup [.str (Str.ofString "whole"),.int (n:Int)]):=hL;refine am ⟨_,rfl,qt,_,_,_,rfl,rfl,SqT.of e,rfl,rfl,_,rfl,ai (λ_=>?_) (λz=>absurd rfl z)⟩;refine aG (aV (bw ⟨_,rfl,dB (.ins hq RWhole.cl RWhole.ha RWhole.hn RWhole.ht RWhole.hm) (k:=true) (by unfold PySem.W.kitOne;rw[if_pos (by simp)]) ⟨_,rfl,aN ?_⟩⟩));refine aV ⟨_,rfl,q,CWhole,dx,_,_,rfl,hq,RWhole.cl,RWhole.na "value" (by simp),fW _ _,_,rfl,_,rfl,aN ?_⟩;exact⟨_,rfl,q,CWhole,dx,_,_,rfl,hq,RWhole.cl,RWhole.na "value" (by simp),fW _ _,_,rfl,qt,_,_,_,rfl,rfl,SqT.of e,rfl,_,_,rfl,rfl,v7 rfl k⟩
  |named m =>obtain⟨_,dx,hq⟩:=hP;rw[en]at hq;have e:H qt=some (.tup [.str (Str.ofString "named"),vS m]):=hL;refine am ⟨_,rfl,qt,_,_,_,rfl,rfl,SqT.of e,rfl,rfl,_,rfl,ai (λz=>absurd (V.str.inj z) (by decide +kernel)) (λ_=>?_)⟩;refine am ⟨_,rfl,qt,_,_,_,rfl,rfl,SqT.of e,rfl,rfl,_,rfl,ai (λ_=>?_) (λz=>absurd rfl z)⟩;refine aG (aV (bw ⟨_,rfl,dB (.ins hq RNamed.cl RNamed.ha RNamed.hn RNamed.ht RNamed.hm) (k:=true) (by unfold PySem.W.kitOne;rw[if_pos (by simp)]) ⟨_,rfl,aN ?_⟩⟩));refine aV (bw ⟨_,rfl,q,CNamed,dx,_,_,rfl,hq,RNamed.cl,RNamed.na "word" (by simp),fW _ _,mU (.str _) (k:=true) (by rfl) ⟨_,rfl,aN ?_⟩⟩);refine⟨_,rfl,q,CNamed,dx,_,_,rfl,hq,RNamed.cl,RNamed.na "word" (by simp),fW _ _,_,rfl,qt,_,_,_,rfl,rfl,SqT.of e,rfl,rfl,?_⟩;show Q (.bl (decide (vS m=vS m))) H;rw[decide_eq_true rfl];exact k
  |given kp l h =>
   obtain⟨_,dx,pk,pl,ph,hq,_,ek,_,hRl,_,hRh⟩:=hP;rw[eg]at hq;rw[ea]at hRl hRh;obtain⟨qk,i,j,e,_,e1,rfl,rfl,lj⟩:=hL;rw[<- (oF j).1,<- (oF j).2]at hRh;refine am ⟨_,rfl,qt,_,_,_,rfl,rfl,SqT.of e,rfl,rfl,_,rfl,ai (λz=>absurd (V.str.inj z) (by decide +kernel)) (λ_=>?_)⟩;refine am ⟨_,rfl,qt,_,_,_,rfl,rfl,SqT.of e,rfl,rfl,_,rfl,ai (λz=>absurd (V.str.inj z) (by decide +kernel)) (λ_=>?_)⟩;refine am (mm (fP (oH (bw ⟨_,rfl,dB (.ins hq RGiven.cl RGiven.ha RGiven.hn RGiven.ht RGiven.hm) (k:=true) (by unfold PySem.W.kitOne;rw[if_pos (by simp)]) ⟨_,rfl,aM ?_⟩⟩))));refine mm (fP (oH (bw ⟨_,rfl,q,CGiven,dx,_,_,rfl,hq,RGiven.cl,RGiven.nP,pz _ _ _,mU (.lst ek) (k:=true) (by rfl) ⟨_,rfl,aM ?_⟩⟩)));refine⟨_,rfl,q,CGiven,dx,_,_,rfl,hq,RGiven.cl,RGiven.nP,pz _ _ _,_,rfl,qt,_,_,_,rfl,rfl,SqT.of e,rfl,pk,qk,kp,kp,rfl,rfl,SqL.of ek,SqL.of e1,_,rfl,gE (λz=>absurd rfl z) (λ_=>?_)⟩;refine⟨_,rfl,q,CGiven,dx,_,_,rfl,hq,RGiven.cl,RGiven.nP,pz _ _ _,pk,rfl,⟨_,SqL.of ek⟩,sG (K:=K) (a:=pk) (xs:=kp.map V.int) (λ_ σ' H'=>∃z:Option V,σ'=[some (.ref q),some (.ref qt),z]/\H=H') ⟨none,rfl,rfl⟩ ?_ ?_ ?_⟩
   ·rintro _ σ' H' _ ⟨z,rfl,rfl⟩;exact SqL.of ek
   ·rintro _ x σ' H' hi ⟨z,rfl,rfl⟩;obtain⟨y,_,rfl,_,_⟩:=xZ hi;exact⟨_,rfl,_,rfl,_,rfl,aM ⟨_,rfl,rfl⟩⟩
   ·rintro σ' H' ⟨z,rfl,rfl⟩;dsimp only
    refine aG (aV ⟨_,rfl,q,CGiven,dx,_,_,rfl,hq,RGiven.cl,RGiven.nL,yc _ _ _,_,rfl,qt,_,_,_,rfl,rfl,SqT.of e,rfl,pl,(i,1),rfl,hRl,hok.1,_,rfl,aN ?_⟩);exact⟨_,rfl,q,CGiven,dx,_,_,rfl,hq,RGiven.cl,RGiven.nH,yd _ _ _,_,rfl,qt,_,_,_,rfl,rfl,SqT.of e,rfl,ph,(j,2),rfl,hRh,⟨by show(2:Int)≠0;decide,Kz (show j.natAbs<100 from lj) (by decide),by show(2:Int).natAbs<2^64;decide⟩,k⟩
  |_=>exact hlf.elim
def qA(tc:TC)(n:Nat):Sp:=λvs H Q _=>∃(av av2 q qt:Addr) (t:PT),vs=[.ref q,.ref qt]/\PtH tc av H t q/\LtH av2 H t qt/\t.ok/\t.hgt<=n/\∀H',Same H H'->Q (.bl true) H'
theorem CU{tc:TC}{n:Nat}{CMinus CPower CRooted CSum CLess CTimes COver f:Addr}{fd:FuncData}(F:Fun K "_law_like" "_law_like" gt f fd)(T:Txt K mg)(RMinus:PCI K mg CMinus "Minus" ["one"])(RPower:PCI K mg CPower "Power" ["one","power"])(RRooted:PCI K mg CRooted "Rooted" ["one","power"])(RSum:PCI K mg CSum "Sum" ["one","other"])(RLess:PCI K mg CLess "Less" ["one","other"])(RTimes:PCI K mg CTimes "Times" ["one","other"])(ROver:PCI K mg COver "Over" ["one","other"])(em:tc.mi=CMinus)(ep:tc.po=CPower)(er:tc.ro=CRooted)(es:tc.su=CSum)(el:tc.le=CLess)(et:tc.ti=CTimes)(eo:tc.ov=COver){gW:Addr}{gS:FuncData}(fK:Cal P w K mg base 1 "_law_whole" ["_law_found"] iS gW gS){nI:Addr}{nu:FuncData}(C__law_like_leaf:Cal P w K mg base 3 "_law_like_leaf" ["_law_found","_law_tree"] (qB tc) nI nu)(C__law_like:Cal P w K mg base (n+4) "_law_like" ["_law_found","_law_tree"] (qA tc n) f fd):FnOk P w K mg base CX0 (n+5) f fd ["_law_found","_law_tree"] (qA tc (n+1)):=by
 obtain⟨iI,iq,iw,iD⟩:=fK;obtain⟨Jm,Er,Fd,Io⟩:=C__law_like_leaf;obtain⟨iJ,ir,ix,iE⟩:=C__law_like;refine F.ok sc__law_like (λvs H Q E h=>?_) (λcdv A outer s H vs Q E hr h=>?_)
 ·obtain⟨av,av2,q,qt,t,rfl,_⟩:=h;rfl
 ·obtain⟨av,av2,q,qt,t,rfl,hP,hL,hok,hh,k⟩:=h;have big:=sizeLine_eq
  refine⟨_,(af (aH (aF (my (K:=K) rfl) (aw (aI (K:=K) rfl) (pv 1) ad (λ_ _=>rfl)) (bF (aa ao (aa ao (aa ao ac)))) (by rfl))
   (ag (aq (au Jm (hr.mono (by omega)) rfl Er Fd Io .nil ak (aa (pv 0) (aa (pv 1) ac)))))
   aJ)
   (af (aH (aF bA (aw (aI (K:=K) rfl) (pv 1) ad (λ_ _=>rfl)) ao (aA _))
     (ag (aq (bx (aO (bH (K:=K) rfl) (by rfl) T.isinstance_ PyProof.Rows.boot_isinstance (aa (pv 0) (aa (br (v:=.ref CMinus) rfl RMinus.mg rfl) ac))) (bq (au iJ (hr.mono (by omega)) rfl ir ix iE .nil ak (aa (aK (K:=K) rfl (pv 0) rfl) (aa (aw (aI (K:=K) rfl) (pv 1) ad (λ_ _=>rfl)) ac)))))))
     aJ)
   (af (aH (aF bA (aw (aI (K:=K) rfl) (pv 1) ad (λ_ _=>rfl)) ao (aA _))
     (af (ay (i:=2) sc__law_like.nd rfl (Or.inl rfl) (bx (aO (bH (K:=K) rfl) (by rfl) T.isinstance_ PyProof.Rows.boot_isinstance (aa (pv 0) (aa (br (v:=.ref CPower) rfl RPower.mg rfl) ac))) (bx (au iI (hr.mono (by omega)) rfl iq iw iD .nil ak (aa (aK (K:=K) rfl (pv 0) rfl) ac)) (bq (bQ bL (aK (K:=K) rfl (pv 0) rfl) (aw (aI (K:=K) rfl) (pv 1) ad (λ_ _=>rfl)) (aA _))))))
       (ag (aq (bx (pv 2) (bq (au iJ (hr.mono (by omega)) rfl ir ix iE .nil ak (aa (aK (K:=K) rfl (pv 0) rfl) (aa (aw (aI (K:=K) rfl) (pv 1) ad (λ_ _=>rfl)) ac))))))))
     aJ)
   (af (aH (aF bA (aw (aI (K:=K) rfl) (pv 1) ad (λ_ _=>rfl)) ao (aA _))
     (af (ay (i:=2) sc__law_like.nd rfl (Or.inl rfl) (bx (aO (bH (K:=K) rfl) (by rfl) T.isinstance_ PyProof.Rows.boot_isinstance (aa (pv 0) (aa (br (v:=.ref CRooted) rfl RRooted.mg rfl) ac))) (bx (au iI (hr.mono (by omega)) rfl iq iw iD .nil ak (aa (aK (K:=K) rfl (pv 0) rfl) ac)) (bq (bQ bL (aK (K:=K) rfl (pv 0) rfl) (aw (aI (K:=K) rfl) (pv 1) ad (λ_ _=>rfl)) (aA _))))))
       (ag (aq (bx (pv 2) (bq (au iJ (hr.mono (by omega)) rfl ir ix iE .nil ak (aa (aK (K:=K) rfl (pv 0) rfl) (aa (aw (aI (K:=K) rfl) (pv 1) ad (λ_ _=>rfl)) ac))))))))
     aJ)
   (af (ay (i:=2) sc__law_like.nd rfl (Or.inl rfl) (fQ (bx (bQ bA (aw (aI (K:=K) rfl) (pv 1) ad (λ_ _=>rfl)) ao (aA _)) (bq (aO (bH (K:=K) rfl) (by rfl) T.isinstance_ PyProof.Rows.boot_isinstance (aa (pv 0) (aa (br (v:=.ref CSum) rfl RSum.mg rfl) ac))))) (bq (bx (bQ bA (aw (aI (K:=K) rfl) (pv 1) ad (λ_ _=>rfl)) ao (aA _)) (bq (aO (bH (K:=K) rfl) (by rfl) T.isinstance_ PyProof.Rows.boot_isinstance (aa (pv 0) (aa (br (v:=.ref CLess) rfl RLess.mg rfl) ac))))))))
   (af (ay (i:=2) sc__law_like.nd rfl (Or.inl rfl) (fQ (pv 2) (fQ (bx (bQ bA (aw (aI (K:=K) rfl) (pv 1) ad (λ_ _=>rfl)) ao (aA _)) (bq (aO (bH (K:=K) rfl) (by rfl) T.isinstance_ PyProof.Rows.boot_isinstance (aa (pv 0) (aa (br (v:=.ref CTimes) rfl RTimes.mg rfl) ac))))) (bq (bx (bQ bA (aw (aI (K:=K) rfl) (pv 1) ad (λ_ _=>rfl)) ao (aA _)) (bq (aO (bH (K:=K) rfl) (by rfl) T.isinstance_ PyProof.Rows.boot_isinstance (aa (pv 0) (aa (br (v:=.ref COver) rfl ROver.mg rfl) ac)))))))))
   (ag (aq (bx (pv 2) (bx (au iJ (hr.mono (by omega)) rfl ir ix iE .nil ak (aa (aK (K:=K) rfl (pv 0) rfl) (aa (aw (aI (K:=K) rfl) (pv 1) ad (λ_ _=>rfl)) ac))) (bq (au iJ (hr.mono (by omega)) rfl ir ix iE .nil ak (aa (aK (K:=K) rfl (pv 0) rfl) (aa (aw (aI (K:=K) rfl) (pv 1) ad (λ_ _=>rfl)) ac)))))))))))))),?_⟩
  cases t with
  |whole n =>
   have e:=hL;unfold LtH at e
   refine am ⟨_,rfl,qt,_,_,_,rfl,rfl,SqT.of e,rfl,by show 3<=sizeLine;omega,λpt hpt=>⟨pt,_,rfl,.inr (SqT.of ap),rfl,by decide,_,rfl,?_⟩⟩;have u:=Same.upd_new (o:=.tup [.str (Str.ofString "whole"),.str (Str.ofString "named"),.str (Str.ofString "given")]) hpt;show if(inV (.str (Str.ofString "whole")) [.str (Str.ofString "whole"),.str (Str.ofString "named"),.str (Str.ofString "given")])=true then _ else _
   rw[show inV (.str (Str.ofString "whole")) [.str (Str.ofString "whole"),.str (Str.ofString "named"),.str (Str.ofString "given")]=true by decide +kernel];exact aN (aG ⟨_,rfl,_,rfl,av,av2,q,qt,_,rfl,hP.same u,hL.kp (aW u),hok,trivial,k _ u⟩)
  |named m =>
   have e:=hL;unfold LtH at e
   refine am ⟨_,rfl,qt,_,_,_,rfl,rfl,SqT.of e,rfl,by show 3<=sizeLine;omega,λpt hpt=>⟨pt,_,rfl,.inr (SqT.of ap),rfl,by decide,_,rfl,?_⟩⟩;have u:=Same.upd_new (o:=.tup [.str (Str.ofString "whole"),.str (Str.ofString "named"),.str (Str.ofString "given")]) hpt;show if(inV (.str (Str.ofString "named")) [.str (Str.ofString "whole"),.str (Str.ofString "named"),.str (Str.ofString "given")])=true then _ else _
   rw[show inV (.str (Str.ofString "named")) [.str (Str.ofString "whole"),.str (Str.ofString "named"),.str (Str.ofString "given")]=true by decide +kernel];exact aN (aG ⟨_,rfl,_,rfl,av,av2,q,qt,_,rfl,hP.same u,hL.kp (aW u),hok,trivial,k _ u⟩)
  |given kp l h =>
   obtain⟨_,_,_,e,_⟩:=id hL;refine am ⟨_,rfl,qt,_,_,_,rfl,rfl,SqT.of e,rfl,by show 3<=sizeLine;omega,λpt hpt=>⟨pt,_,rfl,.inr (SqT.of ap),rfl,by decide,_,rfl,?_⟩⟩;have u:=Same.upd_new (o:=.tup [.str (Str.ofString "whole"),.str (Str.ofString "named"),.str (Str.ofString "given")]) hpt;show if(inV (.str (Str.ofString "given")) [.str (Str.ofString "whole"),.str (Str.ofString "named"),.str (Str.ofString "given")])=true then _ else _
   rw[show inV (.str (Str.ofString "given")) [.str (Str.ofString "whole"),.str (Str.ofString "named"),.str (Str.ofString "given")]=true by decide +kernel];exact aN (aG ⟨_,rfl,_,rfl,av,av2,q,qt,_,rfl,hP.same u,hL.kp (aW u),hok,trivial,k _ u⟩)
  |minus t =>
   obtain⟨_,dx,p,hq,hP'⟩:=hP;rw[em]at hq;obtain⟨pt',e,hL'⟩:=hL;refine am ⟨_,rfl,qt,_,_,_,rfl,rfl,SqT.of e,rfl,by show 3<=sizeLine;omega,λpt hpt=>⟨pt,_,rfl,.inr (SqT.of ap),rfl,by decide,_,rfl,?_⟩⟩;have u:=Same.upd_new (o:=.tup [.str (Str.ofString "whole"),.str (Str.ofString "named"),.str (Str.ofString "given")]) hpt;show if(inV (.str (Str.ofString "minus")) [.str (Str.ofString "whole"),.str (Str.ofString "named"),.str (Str.ofString "given")])=true then _ else _
   rw[show inV (.str (Str.ofString "minus")) [.str (Str.ofString "whole"),.str (Str.ofString "named"),.str (Str.ofString "given")]=false by decide +kernel];refine aM ?_;have e1:=u _ _ e;have hq1:=u _ _ hq;generalize upd H pt (.tup [.str (Str.ofString "whole"),.str (Str.ofString "named"),.str (Str.ofString "given")])=H1 at u e1 hq1 ⊢
   refine am ⟨_,rfl,qt,_,_,_,rfl,rfl,SqT.of e1,rfl,rfl,_,rfl,ai (λ_=>?_) (λz=>absurd rfl z)⟩;refine aG (aV (bw ⟨_,rfl,dB (.ins hq1 RMinus.cl RMinus.ha RMinus.hn RMinus.ht RMinus.hm) (k:=true) (by unfold PySem.W.kitOne;rw[if_pos (by simp)]) ⟨_,rfl,aN ?_⟩⟩));exact⟨_,rfl,q,CMinus,dx,_,_,rfl,hq1,RMinus.cl,RMinus.na "one" (by simp),fW _ _,_,rfl,qt,_,_,_,rfl,rfl,SqT.of e1,rfl,av,av2,p,pt',t,rfl,hP'.same u,hL'.kp (aW u),hok,Kc hh,λH' s=>k _ (u.trans s)⟩
  |power t m =>
   obtain⟨_,dx,p,hq,hP'⟩:=hP;rw[ep]at hq;obtain⟨pt',e,hL'⟩:=hL;refine am ⟨_,rfl,qt,_,_,_,rfl,rfl,SqT.of e,rfl,by show 3<=sizeLine;omega,λpt hpt=>⟨pt,_,rfl,.inr (SqT.of ap),rfl,by decide,_,rfl,?_⟩⟩;have u:=Same.upd_new (o:=.tup [.str (Str.ofString "whole"),.str (Str.ofString "named"),.str (Str.ofString "given")]) hpt;show if(inV (.str (Str.ofString "power")) [.str (Str.ofString "whole"),.str (Str.ofString "named"),.str (Str.ofString "given")])=true then _ else _
   rw[show inV (.str (Str.ofString "power")) [.str (Str.ofString "whole"),.str (Str.ofString "named"),.str (Str.ofString "given")]=false by decide +kernel];refine aM ?_;have e1:=u _ _ e;have hq1:=u _ _ hq;generalize upd H pt (.tup [.str (Str.ofString "whole"),.str (Str.ofString "named"),.str (Str.ofString "given")])=H1 at u e1 hq1 ⊢
   refine am ⟨_,rfl,qt,_,_,_,rfl,rfl,SqT.of e1,rfl,rfl,_,rfl,ai (λz=>absurd (V.str.inj z) (by decide +kernel)) (λ_=>?_)⟩;refine am ⟨_,rfl,qt,_,_,_,rfl,rfl,SqT.of e1,rfl,rfl,_,rfl,ai (λ_=>?_) (λz=>absurd rfl z)⟩;refine aC (aV (bw ⟨_,rfl,dB (.ins hq1 RPower.cl RPower.ha RPower.hn RPower.ht RPower.hm) (k:=true) (by unfold PySem.W.kitOne;rw[if_pos (by simp)]) ⟨_,rfl,aN ?_⟩⟩));refine aV ⟨_,rfl,q,CPower,dx,_,_,rfl,hq1,RPower.cl,RPower.na "power" (by simp),cH _ _ _ _,_,rfl,_,rfl,aN ?_⟩;refine⟨_,rfl,q,CPower,dx,_,_,rfl,hq1,RPower.cl,RPower.na "power" (by simp),cH _ _ _ _,_,rfl,qt,_,_,_,rfl,rfl,SqT.of e1,rfl,_,_,rfl,rfl,?_⟩;refine aG (aV ⟨_,rfl,_,rfl,ai (λ_=>?_) (λz=>absurd rfl z)⟩);exact⟨_,rfl,q,CPower,dx,_,_,rfl,hq1,RPower.cl,RPower.na "one" (by simp),cT ly _ _,_,rfl,qt,_,_,_,rfl,rfl,SqT.of e1,rfl,av,av2,p,pt',t,rfl,hP'.same u,hL'.kp (aW u),hok,Kc hh,λH' s=>k _ (u.trans s)⟩
  |rooted t m =>
   obtain⟨_,dx,p,hq,hP'⟩:=hP;rw[er]at hq;obtain⟨pt',e,hL'⟩:=hL;refine am ⟨_,rfl,qt,_,_,_,rfl,rfl,SqT.of e,rfl,by show 3<=sizeLine;omega,λpt hpt=>⟨pt,_,rfl,.inr (SqT.of ap),rfl,by decide,_,rfl,?_⟩⟩;have u:=Same.upd_new (o:=.tup [.str (Str.ofString "whole"),.str (Str.ofString "named"),.str (Str.ofString "given")]) hpt;show if(inV (.str (Str.ofString "rooted")) [.str (Str.ofString "whole"),.str (Str.ofString "named"),.str (Str.ofString "given")])=true then _ else _
   rw[show inV (.str (Str.ofString "rooted")) [.str (Str.ofString "whole"),.str (Str.ofString "named"),.str (Str.ofString "given")]=false by decide +kernel];refine aM ?_;have e1:=u _ _ e;have hq1:=u _ _ hq;generalize upd H pt (.tup [.str (Str.ofString "whole"),.str (Str.ofString "named"),.str (Str.ofString "given")])=H1 at u e1 hq1 ⊢
   refine am ⟨_,rfl,qt,_,_,_,rfl,rfl,SqT.of e1,rfl,rfl,_,rfl,ai (λz=>absurd (V.str.inj z) (by decide +kernel)) (λ_=>?_)⟩;refine am ⟨_,rfl,qt,_,_,_,rfl,rfl,SqT.of e1,rfl,rfl,_,rfl,ai (λz=>absurd (V.str.inj z) (by decide +kernel)) (λ_=>?_)⟩;refine am ⟨_,rfl,qt,_,_,_,rfl,rfl,SqT.of e1,rfl,rfl,_,rfl,ai (λ_=>?_) (λz=>absurd rfl z)⟩;refine aC (aV (bw ⟨_,rfl,dB (.ins hq1 RRooted.cl RRooted.ha RRooted.hn RRooted.ht RRooted.hm) (k:=true) (by unfold PySem.W.kitOne;rw[if_pos (by simp)]) ⟨_,rfl,aN ?_⟩⟩));refine aV ⟨_,rfl,q,CRooted,dx,_,_,rfl,hq1,RRooted.cl,RRooted.na "power" (by simp),cH _ _ _ _,_,rfl,_,rfl,aN ?_⟩;refine⟨_,rfl,q,CRooted,dx,_,_,rfl,hq1,RRooted.cl,RRooted.na "power" (by simp),cH _ _ _ _,_,rfl,qt,_,_,_,rfl,rfl,SqT.of e1,rfl,_,_,rfl,rfl,?_⟩;refine aG (aV ⟨_,rfl,_,rfl,ai (λ_=>?_) (λz=>absurd rfl z)⟩);exact⟨_,rfl,q,CRooted,dx,_,_,rfl,hq1,RRooted.cl,RRooted.na "one" (by simp),cT ly _ _,_,rfl,qt,_,_,_,rfl,rfl,SqT.of e1,rfl,av,av2,p,pt',t,rfl,hP'.same u,hL'.kp (aW u),hok,Kc hh,λH' s=>k _ (u.trans s)⟩
  |sum t1 t2 =>
   obtain⟨_,dx,p,r,hq,hP1,hP2⟩:=hP;rw[es]at hq;obtain⟨pt1,pt2,e,hL1,hL2⟩:=hL;refine am ⟨_,rfl,qt,_,_,_,rfl,rfl,SqT.of e,rfl,by show 3<=sizeLine;omega,λpt hpt=>⟨pt,_,rfl,.inr (SqT.of ap),rfl,by decide,_,rfl,?_⟩⟩;have u:=Same.upd_new (o:=.tup [.str (Str.ofString "whole"),.str (Str.ofString "named"),.str (Str.ofString "given")]) hpt;show if(inV (.str (Str.ofString "sum")) [.str (Str.ofString "whole"),.str (Str.ofString "named"),.str (Str.ofString "given")])=true then _ else _
   rw[show inV (.str (Str.ofString "sum")) [.str (Str.ofString "whole"),.str (Str.ofString "named"),.str (Str.ofString "given")]=false by decide +kernel];refine aM ?_;have e1:=u _ _ e;have hq1:=u _ _ hq;generalize upd H pt (.tup [.str (Str.ofString "whole"),.str (Str.ofString "named"),.str (Str.ofString "given")])=H1 at u e1 hq1 ⊢
   refine am ⟨_,rfl,qt,_,_,_,rfl,rfl,SqT.of e1,rfl,rfl,_,rfl,ai (λz=>absurd (V.str.inj z) (by decide +kernel)) (λ_=>?_)⟩;refine am ⟨_,rfl,qt,_,_,_,rfl,rfl,SqT.of e1,rfl,rfl,_,rfl,ai (λz=>absurd (V.str.inj z) (by decide +kernel)) (λ_=>?_)⟩;refine am ⟨_,rfl,qt,_,_,_,rfl,rfl,SqT.of e1,rfl,rfl,_,rfl,ai (λz=>absurd (V.str.inj z) (by decide +kernel)) (λ_=>?_)⟩;refine aC (cv (aV ⟨_,rfl,qt,_,_,_,rfl,rfl,SqT.of e1,rfl,rfl,_,rfl,ai (λ_=>bw ⟨_,rfl,dB (.ins hq1 RSum.cl RSum.ha RSum.hn RSum.ht RSum.hm) (k:=true) (by unfold PySem.W.kitOne;rw[if_pos (by simp)]) ⟨_,rfl,aN ?_⟩⟩) (λz=>absurd rfl z)⟩));refine aC (cv ⟨_,rfl,_,rfl,aN ?_⟩);have hh1:t1.hgt<=n:=J7 (KT _ _) (Kc hh);have hh2:t2.hgt<=n:=J7 (KU _ _) (Kc hh);refine aG (aV ⟨_,rfl,_,rfl,aN (aV ⟨_,rfl,q,CSum,dx,_,_,rfl,hq1,RSum.cl,RSum.na "one" (by simp),cT ij _ _,_,rfl,qt,_,_,_,rfl,rfl,SqT.of e1,rfl,av,av2,p,pt1,t1,rfl,hP1.same u,hL1.kp (aW u),hok.1,hh1,λH2 s2=>⟨_,rfl,aN ?_⟩⟩)⟩);have u2:=u.trans s2;exact⟨_,rfl,q,CSum,dx,_,_,rfl,s2 _ _ hq1,RSum.cl,RSum.na "other" (by simp),cH _ _ _ _,_,rfl,qt,_,_,_,rfl,rfl,SqT.of (s2 _ _ e1),rfl,av,av2,r,pt2,t2,rfl,hP2.same u2,hL2.kp (aW u2),hok.2,hh2,λH' s=>k _ (u2.trans s)⟩
  |less t1 t2 =>
   obtain⟨_,dx,p,r,hq,hP1,hP2⟩:=hP;rw[el]at hq;obtain⟨pt1,pt2,e,hL1,hL2⟩:=hL;refine am ⟨_,rfl,qt,_,_,_,rfl,rfl,SqT.of e,rfl,by show 3<=sizeLine;omega,λpt hpt=>⟨pt,_,rfl,.inr (SqT.of ap),rfl,by decide,_,rfl,?_⟩⟩;have u:=Same.upd_new (o:=.tup [.str (Str.ofString "whole"),.str (Str.ofString "named"),.str (Str.ofString "given")]) hpt;show if(inV (.str (Str.ofString "less")) [.str (Str.ofString "whole"),.str (Str.ofString "named"),.str (Str.ofString "given")])=true then _ else _
   rw[show inV (.str (Str.ofString "less")) [.str (Str.ofString "whole"),.str (Str.ofString "named"),.str (Str.ofString "given")]=false by decide +kernel];refine aM ?_;have e1:=u _ _ e;have hq1:=u _ _ hq;generalize upd H pt (.tup [.str (Str.ofString "whole"),.str (Str.ofString "named"),.str (Str.ofString "given")])=H1 at u e1 hq1 ⊢
   refine am ⟨_,rfl,qt,_,_,_,rfl,rfl,SqT.of e1,rfl,rfl,_,rfl,ai (λz=>absurd (V.str.inj z) (by decide +kernel)) (λ_=>?_)⟩;refine am ⟨_,rfl,qt,_,_,_,rfl,rfl,SqT.of e1,rfl,rfl,_,rfl,ai (λz=>absurd (V.str.inj z) (by decide +kernel)) (λ_=>?_)⟩;refine am ⟨_,rfl,qt,_,_,_,rfl,rfl,SqT.of e1,rfl,rfl,_,rfl,ai (λz=>absurd (V.str.inj z) (by decide +kernel)) (λ_=>?_)⟩;refine aC (cv (aV ⟨_,rfl,qt,_,_,_,rfl,rfl,SqT.of e1,rfl,rfl,_,rfl,ai (λz=>absurd (V.str.inj z) (by decide +kernel)) (λ_=>⟨_,rfl,aM ?_⟩)⟩));refine aV ⟨_,rfl,qt,_,_,_,rfl,rfl,SqT.of e1,rfl,rfl,_,rfl,ai (λ_=>bw ⟨_,rfl,dB (.ins hq1 RLess.cl RLess.ha RLess.hn RLess.ht RLess.hm) (k:=true) (by unfold PySem.W.kitOne;rw[if_pos (by simp)]) ?_⟩) (λz=>absurd rfl z)⟩;refine aC (cv ⟨_,rfl,_,rfl,aN ?_⟩);have hh1:t1.hgt<=n:=J7 (KT _ _) (Kc hh);have hh2:t2.hgt<=n:=J7 (KU _ _) (Kc hh);refine aG (aV ⟨_,rfl,_,rfl,aN (aV ⟨_,rfl,q,CLess,dx,_,_,rfl,hq1,RLess.cl,RLess.na "one" (by simp),cT ij _ _,_,rfl,qt,_,_,_,rfl,rfl,SqT.of e1,rfl,av,av2,p,pt1,t1,rfl,hP1.same u,hL1.kp (aW u),hok.1,hh1,λH2 s2=>⟨_,rfl,aN ?_⟩⟩)⟩);have u2:=u.trans s2;exact⟨_,rfl,q,CLess,dx,_,_,rfl,s2 _ _ hq1,RLess.cl,RLess.na "other" (by simp),cH _ _ _ _,_,rfl,qt,_,_,_,rfl,rfl,SqT.of (s2 _ _ e1),rfl,av,av2,r,pt2,t2,rfl,hP2.same u2,hL2.kp (aW u2),hok.2,hh2,λH' s=>k _ (u2.trans s)⟩
  |times t1 t2 =>
   obtain⟨_,dx,p,r,hq,hP1,hP2⟩:=hP;rw[et]at hq;obtain⟨pt1,pt2,e,hL1,hL2⟩:=hL;refine am ⟨_,rfl,qt,_,_,_,rfl,rfl,SqT.of e,rfl,by show 3<=sizeLine;omega,λpt hpt=>⟨pt,_,rfl,.inr (SqT.of ap),rfl,by decide,_,rfl,?_⟩⟩;have u:=Same.upd_new (o:=.tup [.str (Str.ofString "whole"),.str (Str.ofString "named"),.str (Str.ofString "given")]) hpt;show if(inV (.str (Str.ofString "times")) [.str (Str.ofString "whole"),.str (Str.ofString "named"),.str (Str.ofString "given")])=true then _ else _
   rw[show inV (.str (Str.ofString "times")) [.str (Str.ofString "whole"),.str (Str.ofString "named"),.str (Str.ofString "given")]=false by decide +kernel];refine aM ?_;have e1:=u _ _ e;have hq1:=u _ _ hq;generalize upd H pt (.tup [.str (Str.ofString "whole"),.str (Str.ofString "named"),.str (Str.ofString "given")])=H1 at u e1 hq1 ⊢
   refine am ⟨_,rfl,qt,_,_,_,rfl,rfl,SqT.of e1,rfl,rfl,_,rfl,ai (λz=>absurd (V.str.inj z) (by decide +kernel)) (λ_=>?_)⟩;refine am ⟨_,rfl,qt,_,_,_,rfl,rfl,SqT.of e1,rfl,rfl,_,rfl,ai (λz=>absurd (V.str.inj z) (by decide +kernel)) (λ_=>?_)⟩;refine am ⟨_,rfl,qt,_,_,_,rfl,rfl,SqT.of e1,rfl,rfl,_,rfl,ai (λz=>absurd (V.str.inj z) (by decide +kernel)) (λ_=>?_)⟩;refine aC (cv (aV ⟨_,rfl,qt,_,_,_,rfl,rfl,SqT.of e1,rfl,rfl,_,rfl,ai (λz=>absurd (V.str.inj z) (by decide +kernel)) (λ_=>⟨_,rfl,aM ?_⟩)⟩));refine aV ⟨_,rfl,qt,_,_,_,rfl,rfl,SqT.of e1,rfl,rfl,_,rfl,ai (λz=>absurd (V.str.inj z) (by decide +kernel)) (λ_=>?_)⟩;refine aC (cv ⟨_,rfl,_,rfl,aM ?_⟩);refine cv (aV ⟨_,rfl,qt,_,_,_,rfl,rfl,SqT.of e1,rfl,rfl,_,rfl,ai (λ_=>bw ⟨_,rfl,dB (.ins hq1 RTimes.cl RTimes.ha RTimes.hn RTimes.ht RTimes.hm) (k:=true) (by unfold PySem.W.kitOne;rw[if_pos (by simp)]) ⟨_,rfl,aN ?_⟩⟩) (λz=>absurd rfl z)⟩);have hh1:t1.hgt<=n:=J7 (KT _ _) (Kc hh);have hh2:t2.hgt<=n:=J7 (KU _ _) (Kc hh);refine aG (aV ⟨_,rfl,_,rfl,aN (aV ⟨_,rfl,q,CTimes,dx,_,_,rfl,hq1,RTimes.cl,RTimes.na "one" (by simp),cT ij _ _,_,rfl,qt,_,_,_,rfl,rfl,SqT.of e1,rfl,av,av2,p,pt1,t1,rfl,hP1.same u,hL1.kp (aW u),hok.1,hh1,λH2 s2=>⟨_,rfl,aN ?_⟩⟩)⟩);have u2:=u.trans s2;exact⟨_,rfl,q,CTimes,dx,_,_,rfl,s2 _ _ hq1,RTimes.cl,RTimes.na "other" (by simp),cH _ _ _ _,_,rfl,qt,_,_,_,rfl,rfl,SqT.of (s2 _ _ e1),rfl,av,av2,r,pt2,t2,rfl,hP2.same u2,hL2.kp (aW u2),hok.2,hh2,λH' s=>k _ (u2.trans s)⟩
  |over t1 t2 =>
   obtain⟨_,dx,p,r,hq,hP1,hP2⟩:=hP;rw[eo]at hq;obtain⟨pt1,pt2,e,hL1,hL2⟩:=hL;refine am ⟨_,rfl,qt,_,_,_,rfl,rfl,SqT.of e,rfl,by show 3<=sizeLine;omega,λpt hpt=>⟨pt,_,rfl,.inr (SqT.of ap),rfl,by decide,_,rfl,?_⟩⟩;have u:=Same.upd_new (o:=.tup [.str (Str.ofString "whole"),.str (Str.ofString "named"),.str (Str.ofString "given")]) hpt;show if(inV (.str (Str.ofString "over")) [.str (Str.ofString "whole"),.str (Str.ofString "named"),.str (Str.ofString "given")])=true then _ else _
   rw[show inV (.str (Str.ofString "over")) [.str (Str.ofString "whole"),.str (Str.ofString "named"),.str (Str.ofString "given")]=false by decide +kernel];refine aM ?_;have e1:=u _ _ e;have hq1:=u _ _ hq;generalize upd H pt (.tup [.str (Str.ofString "whole"),.str (Str.ofString "named"),.str (Str.ofString "given")])=H1 at u e1 hq1 ⊢
   refine am ⟨_,rfl,qt,_,_,_,rfl,rfl,SqT.of e1,rfl,rfl,_,rfl,ai (λz=>absurd (V.str.inj z) (by decide +kernel)) (λ_=>?_)⟩;refine am ⟨_,rfl,qt,_,_,_,rfl,rfl,SqT.of e1,rfl,rfl,_,rfl,ai (λz=>absurd (V.str.inj z) (by decide +kernel)) (λ_=>?_)⟩;refine am ⟨_,rfl,qt,_,_,_,rfl,rfl,SqT.of e1,rfl,rfl,_,rfl,ai (λz=>absurd (V.str.inj z) (by decide +kernel)) (λ_=>?_)⟩;refine aC (cv (aV ⟨_,rfl,qt,_,_,_,rfl,rfl,SqT.of e1,rfl,rfl,_,rfl,ai (λz=>absurd (V.str.inj z) (by decide +kernel)) (λ_=>⟨_,rfl,aM ?_⟩)⟩));refine aV ⟨_,rfl,qt,_,_,_,rfl,rfl,SqT.of e1,rfl,rfl,_,rfl,ai (λz=>absurd (V.str.inj z) (by decide +kernel)) (λ_=>?_)⟩;refine aC (cv ⟨_,rfl,_,rfl,aM ?_⟩);refine cv (aV ⟨_,rfl,qt,_,_,_,rfl,rfl,SqT.of e1,rfl,rfl,_,rfl,ai (λz=>absurd (V.str.inj z) (by decide +kernel)) (λ_=>⟨_,rfl,aM ?_⟩)⟩);refine aV ⟨_,rfl,qt,_,_,_,rfl,rfl,SqT.of e1,rfl,rfl,_,rfl,ai (λ_=>bw ⟨_,rfl,dB (.ins hq1 ROver.cl ROver.ha ROver.hn ROver.ht ROver.hm) (k:=true) (by unfold PySem.W.kitOne;rw[if_pos (by simp)]) ?_⟩) (λz=>absurd rfl z)⟩;have hh1:t1.hgt<=n:=J7 (KT _ _) (Kc hh);have hh2:t2.hgt<=n:=J7 (KU _ _) (Kc hh);refine aG (aV ⟨_,rfl,_,rfl,aN (aV ⟨_,rfl,q,COver,dx,_,_,rfl,hq1,ROver.cl,ROver.na "one" (by simp),cT ij _ _,_,rfl,qt,_,_,_,rfl,rfl,SqT.of e1,rfl,av,av2,p,pt1,t1,rfl,hP1.same u,hL1.kp (aW u),hok.1,hh1,λH2 s2=>⟨_,rfl,aN ?_⟩⟩)⟩);have u2:=u.trans s2;exact⟨_,rfl,q,COver,dx,_,_,rfl,s2 _ _ hq1,ROver.cl,ROver.na "other" (by simp),cH _ _ _ _,_,rfl,qt,_,_,_,rfl,rfl,SqT.of (s2 _ _ e1),rfl,av,av2,r,pt2,t2,rfl,hP2.same u2,hL2.kp (aW u2),hok.2,hh2,λH' s=>k _ (u2.trans s)⟩
theorem xS(t:PT):1<=t.hgt:=by cases t<;>exact Nat.le_add_left _ _
theorem xo{tc:TC}{CMinus CPower CRooted CSum CLess CTimes COver:Addr}(T:Txt K mg)(RMinus:PCI K mg CMinus "Minus" ["one"])(RPower:PCI K mg CPower "Power" ["one","power"])(RRooted:PCI K mg CRooted "Rooted" ["one","power"])(RSum:PCI K mg CSum "Sum" ["one","other"])(RLess:PCI K mg CLess "Less" ["one","other"])(RTimes:PCI K mg CTimes "Times" ["one","other"])(ROver:PCI K mg COver "Over" ["one","other"])(em:tc.mi=CMinus)(ep:tc.po=CPower)(er:tc.ro=CRooted)(es:tc.su=CSum)(el:tc.le=CLess)(et:tc.ti=CTimes)(eo:tc.ov=COver){gW:Addr}{gS:FuncData}(fK:Cal P w K mg base 1 "_law_whole" ["_law_found"] iS gW gS){nI:Addr}{nu:FuncData}(C__law_like_leaf:Cal P w K mg base 3 "_law_like_leaf" ["_law_found","_law_tree"] (qB tc) nI nu){pC:Addr}{pB:FuncData}(C__law_like:RawC K mg "_law_like" gt ["_law_found","_law_tree"] pC pB):∀n,Cal P w K mg base (n+4) "_law_like" ["_law_found","_law_tree"] (qA tc n) pC pB
 |0=>C__law_like.cal (C__law_like.fn.ok sc__law_like (λ_ _ _ _ ⟨_,_,_,_,t,_,_,_,_,h,_⟩=>absurd (xS t) (by omega)) (λ_ _ _ _ _ _ _ _ _ ⟨_,_,_,_,t,_,_,_,_,h,_⟩=>absurd (xS t) (by omega)))
 |n+1=>C__law_like.cal (CU C__law_like.fn T RMinus RPower RRooted RSum RLess RTimes ROver em ep er es el et eo fK C__law_like_leaf (xo T RMinus RPower RRooted RSum RLess RTimes ROver em ep er es el et eo fK C__law_like_leaf C__law_like n))
theorem IS{d rk:Nat}{ms:List (List Nat)}{t:PT}{us:List Mk}(g:Gr rk d ms t)(hd:d<=10)(hu:us.map (·.1)=ms):ig us=.inr (t,[]):=by have h:=(g.rd hd hu).r0 [] (by decide) (by decide) (by decide);rw[Kk,<- rc]at h;unfold ig;rw[h];rfl
theorem HB(ns:List Int):(nO ns none (some 60)).length<=60:=by
 unfold nO;rw[HT.sIx_none,KY]
 have:HT.sIx ns.length ns.length (some 60)<=60:=by show(if(60:Int)<0 then((60:Int)+(ns.length:Int)).toNat else min (60:Int).toNat ns.length)<=60;rw[if_neg (by decide)];exact Nat.min_le_left _ _
 omega
theorem Cy{CWhole CNamed CGiven CMinus CSum CLess CTimes COver CPower CRooted CRatio CNoText f:Addr}{fd:FuncData}(F:Fun K "law" "law" gl f fd)(T:Txt K mg)(RRatio:RCI K mg CRatio)(RWhole:PCI K mg CWhole "Whole" ["value"])(RNamed:PCI K mg CNamed "Named" ["word"])(RGiven:GCI K mg CGiven)(RMinus:PCI K mg CMinus "Minus" ["one"])(RSum:PCI K mg CSum "Sum" ["one","other"])(RLess:PCI K mg CLess "Less" ["one","other"])(RTimes:PCI K mg CTimes "Times" ["one","other"])(ROver:PCI K mg COver "Over" ["one","other"])(RPower:PCI K mg CPower "Power" ["one","power"])(RRooted:PCI K mg CRooted "Rooted" ["one","power"])(xN:mS K [CWhole,CNamed,CGiven,CMinus,CSum,CLess,CTimes,COver,CPower,CRooted]=true){Hc:Addr}{GL:FuncData}(JQ:Cal P w K mg base 4 "_law_drawn" ["_law_deeds"] qH Hc GL){lI:Addr}{lH:FuncData}(C__law_made:RawC K mg "_law_made" gs ["_law_tree"] lI lH){G0:Addr}{Gx:FuncData}(JE:CalV P w K mg base 73 "read" ["text"] (qi CNoText ⟨CWhole,CNamed,CGiven,CMinus,CSum,CLess,CTimes,COver,CPower,CRooted,CRatio⟩) G0 Gx){gW:Addr}{gS:FuncData}(fK:Cal P w K mg base 1 "_law_whole" ["_law_found"] iS gW gS){tf:Addr}{sM:FuncData}(va:Cal P w K mg base 2 "_law_ratio" ["_law_r","_law_top","_law_bottom"] (oz CRatio) tf sM){nI:Addr}{nu:FuncData}(C__law_like_leaf:RawC K mg "_law_like_leaf" hV ["_law_found","_law_tree"] nI nu){pC:Addr}{pB:FuncData}(C__law_like:RawC K mg "_law_like" gt ["_law_found","_law_tree"] pC pB){fe:Addr}{eO:FuncData}{fu:List Value}(dJ:KCal P w K mg base 1 CWhole "Whole" ["self","value"] (bE CWhole "value") fe eO fu []){fo:Addr}{eY:FuncData}{fC:List Value}(dQ:KCal P w K mg base 1 CNamed "Named" ["self","word"] (bE CNamed "word") fo eY fC []){jD:Addr}{jv:FuncData}{jF:List Value}(iM:KCal P w K mg base 1 CGiven "Given" ["self","row","low","high"] (jO CGiven) jD jv jF []){jC:Addr}{ju:FuncData}{jE:List Value}(iL:KCal P w K mg base 2 CRatio "Ratio" ["self","top","bottom"] (iU CRatio) jC ju jE [.int 1]){fq:Addr}{eZ:FuncData}{fD:List Value}(dR:KCal P w K mg base 1 CMinus "Minus" ["self","one"] (bE CMinus "one") fq eZ fD []){fj:Addr}{eV:FuncData}{fA:List Value}(dO:KCal P w K mg base 1 CPower "Power" ["self","one","exponent"] (aP CPower "one" "power") fj eV fA []){fh:Addr}{eS:FuncData}{fz:List Value}(dN:KCal P w K mg base 1 CRooted "Rooted" ["self","one","exponent"] (aP CRooted "one" "power") fh eS fz []){fg:Addr}{eR:FuncData}{fw:List Value}(dM:KCal P w K mg base 1 CSum "Sum" ["self","one","other"] (aP CSum "one" "other") fg eR fw []){ft:Addr}{fb:FuncData}{fE:List Value}(dS:KCal P w K mg base 1 CLess "Less" ["self","one","other"] (aP CLess "one" "other") ft fb fE []){ff:Addr}{eQ:FuncData}{fv:List Value}(dL:KCal P w K mg base 1 CTimes "Times" ["self","one","other"] (aP CTimes "one" "other") ff eQ fv []){fk:Addr}{eW:FuncData}{fB:List Value}(dP:KCal P w K mg base 1 COver "Over" ["self","one","other"] (aP COver "one" "other") fk eW fB []){fc:Addr}{eM:FuncData}(dI:Cal P w K mg base 1 "whole_text" ["value"] hJ fc eM){nE:Addr}{ni:FuncData}(oa:Cal P w K mg base 3 "poly_text" ["row"] lX nE ni){nJ:Addr}{nv:FuncData}(oh:MCal P w K mg base 2 CRatio "text" ["self"] (lW CRatio) nJ nv){gU:Addr}{gR:FuncData}(C_is_sum:RawC K mg "is_sum" gm ["tree"] gU gR){nF:Addr}{nj:FuncData}(C_is_product:RawC K mg "is_product" gp ["tree"] nF nj){jy:Addr}{jp:FuncData}(C_is_atom:RawC K mg "is_atom" gq ["tree"] jy jp){cK:Addr}{cJ:FuncData}(C_within:RawC K mg "within" gc ["tree","bare"] cK cJ){jx:Addr}{jo:FuncData}(C_product_text:RawC K mg "product_text" gk ["one","mark","other"] jx jo){tj:Addr}{sN:FuncData}(C_Whole_text:RawM K CWhole "text" "Whole.text" gu ["self"] tj sN){tJ:Addr}{sW:FuncData}(C_Given_text:RawM K CGiven "text" "Given.text" gD ["self"] tJ sW){tG:Addr}{sT:FuncData}(C_Named_text:RawM K CNamed "text" "Named.text" gA ["self"] tG sT){tH:Addr}{sU:FuncData}(C_Minus_text:RawM K CMinus "text" "Minus.text" gB ["self"] tH sU){tu:Addr}{sP:FuncData}(C_Sum_text:RawM K CSum "text" "Sum.text" gw ["self"] tu sP){tI:Addr}{sV:FuncData}(C_Less_text:RawM K CLess "text" "Less.text" gC ["self"] tI sV){tq:Addr}{sO:FuncData}(C_Times_text:RawM K CTimes "text" "Times.text" gv ["self"] tq sO){tE:Addr}{sS:FuncData}(C_Over_text:RawM K COver "text" "Over.text" gz ["self"] tE sS){tz:Addr}{sR:FuncData}(C_Power_text:RawM K CPower "text" "Power.text" gy ["self"] tz sR){tw:Addr}{sQ:FuncData}(C_Rooted_text:RawM K CRooted "text" "Rooted.text" gx ["self"] tw sQ):FnOk P w K mg base CX0 183 f fd ["_law_script"] (oB K):=by
 have C__law_like_leaf:=C__law_like_leaf.cal (CT (tc:=⟨CWhole,CNamed,CGiven,CMinus,CSum,CLess,CTimes,COver,CPower,CRooted,CRatio⟩) C__law_like_leaf.fn T RWhole RNamed RGiven rfl rfl rfl rfl fK va);have C__law_like:=xo (tc:=⟨CWhole,CNamed,CGiven,CMinus,CSum,CLess,CTimes,COver,CPower,CRooted,CRatio⟩) T RMinus RPower RRooted RSum RLess RTimes ROver rfl rfl rfl rfl rfl rfl rfl fK C__law_like_leaf C__law_like 60;have C__law_made:=wZ (tc:=⟨CWhole,CNamed,CGiven,CMinus,CSum,CLess,CTimes,COver,CPower,CRooted,CRatio⟩) T rfl dJ dQ iM iL dR dO dN dM dS dL dP C__law_made 60
 have AA:CsA K ⟨CWhole,CNamed,CGiven,CMinus,CSum,CLess,CTimes,COver,CPower,CRooted,CRatio⟩:=⟨λκ=>by
  cases κ with
  |wh=>exact RWhole.ca
  |na=>exact RNamed.ca
  |gi=>exact RGiven.ca
  |mi=>exact RMinus.ca
  |su=>exact RSum.ca
  |le=>exact RLess.ca
  |ti=>exact RTimes.ca
  |ov=>exact ROver.ca
  |po=>exact RPower.ca
  |ro=>exact RRooted.ca,Fx xN CRatio⟩
 have D_text:=zy (tc:=⟨CWhole,CNamed,CGiven,CMinus,CSum,CLess,CTimes,COver,CPower,CRooted,CRatio⟩) T RRatio RWhole RNamed RGiven RMinus RSum RLess RTimes ROver RPower RRooted rfl AA dI oa oh C_is_sum C_is_product C_is_atom C_within C_product_text C_Whole_text C_Given_text C_Named_text C_Minus_text C_Sum_text C_Less_text C_Times_text C_Over_text C_Power_text C_Rooted_text 60;obtain⟨Jq,Eu,Fg,Is⟩:=JQ;obtain⟨pK,oT,o5,pG⟩:=C__law_made;obtain⟨Jd,Eh,E3,Ic⟩:=JE;obtain⟨iJ,ir,ix,iE⟩:=C__law_like;refine F.ok sc_law (λvs H Q E h=>?_) (λcdv A outer s H vs Q E hr h=>?_)
 ·obtain⟨a,ns,rfl,_⟩:=h;rfl
 ·obtain⟨a,ns,rfl,hA,hn,k⟩:=h;have big:=sizeLine_eq
  refine⟨_,(af (ay (i:=1) sc_law.nd rfl (Or.inl rfl) (au Jq (hr.mono) rfl Eu Fg Is .nil ak (aa (ll (oC (K:=K) rfl) (pv 0) oJ (ie ad)) ac)))
   (af (ay (i:=2) sc_law.nd rfl (Or.inl rfl) (au pK (hr.mono) rfl oT o5 pG .nil ak (aa (aw (aI (K:=K) rfl) (pv 1) ad (λ_ _=>rfl)) ac)))
   (af (gF PassesOwn.never rfl (mr rfl T.range_ (aa ad ac)) (dZ (i:=3) sc_law.nd rfl (Or.inl rfl))
     (af (ay (i:=4) sc_law.nd rfl (Or.inl rfl) (mw (pv 2) D_text (hr.mono (by omega))))
       (ag (aH (PW.pt (mn (dY (bB (aO (bH (K:=K) rfl) (by rfl) T.isinstance_ PyProof.Rows.boot_isinstance (aa (pv 4) (aa (mx (v:=.ty "str") (by rfl) T.str_ PyProof.Rows.boot_str (by rfl)) ac))))) (qW (aF iZ (pv 4) (aw (aI (K:=K) rfl) (pv 1) ad (λ_ _=>rfl)) (aA _)))))
         (ag (aq iY))
         aJ))))
   (ag (aq (bx (au iJ (hr.mono) rfl ir ix iE .nil ak (aa (au Jd (hr.mono) rfl Eh E3 Ic .nil BX (aa (aw (aI (K:=K) rfl) (pv 1) ad (λ_ _=>rfl)) ac)) (aa (aw (aI (K:=K) rfl) (pv 1) ad (λ_ _=>rfl)) ac))) (bq (au iJ (hr.mono) rfl ir ix iE .nil ak (aa (pv 2) (aa (aw (aI (K:=K) rfl) (pv 1) ad (λ_ _=>rfl)) ac)))))))))),?_⟩
  refine aC ⟨_,rfl,_,rfl,a,_,rfl,hA,λp hp=>?_⟩;rw[HE];refine⟨p,nO ns none (some 60),rfl,ap,HB ns,λav q t H1 s1 it ok hl hd hh=>?_⟩;obtain⟨pt,eq,hT⟩:=it;obtain⟨tok,asc,ms,gr,hm⟩:=zm ok;have ra:=IS gr hd hm;have no:∀r,ig (mks 0 (tx t))=.inl r->False:=λr hr=>by rw[ra]at hr;cases hr
  refine aC ⟨_,rfl,q,_,_,_,rfl,rfl,SqT.of eq,rfl,av,q,pt,t,rfl,hT,ok,hh,(by rw[eq];exactλz=>(by cases z)),λqt H2 s2 hP=>?_⟩;have eq2:=s2 _ _ eq;have hT2:=hT.kp (aW (av:=av) s2);refine⟨2,rfl,by decide,by decide,pq (lo:=0) (λi σ' H'=>∃(z3 z4:Option V),σ'=[some (.ref a),some (.ref q),some (.ref qt),z3,z4]/\Same H2 H') ⟨none,none,rfl,Same.refl _⟩ ?_ ?_⟩
  ·rintro i σ' H3 hi ⟨z3,z4,rfl,s3⟩;dsimp only
   refine aC ⟨_,rfl,q,qt,t,rfl,hP.same s3,ok,hh,hl,λH4 s4=>?_⟩;have eq4:=s4 _ _ (s3 _ _ eq2);refine cw (mm (fP (oH (bw ⟨_,rfl,mU (.str _) (k:=true) (by rfl) ⟨_,rfl,aM ?_⟩⟩))));refine⟨_,rfl,_,rfl,q,_,_,_,rfl,rfl,SqT.of eq4,rfl,rfl,_,rfl,gE (λh=>absurd rfl h) (λ_=>?_)⟩;exact oG ⟨_,_,rfl,s3.trans s4⟩
  ·rintro σ' H3 ⟨z3,z4,rfl,s3⟩;have eq3:=s3 _ _ eq2;dsimp only
   refine aG (aV ⟨_,rfl,q,_,_,_,rfl,rfl,SqT.of eq3,rfl,tx t,rfl,⟨asc,by omega⟩,λt' ht' q' av' H4 s4 hP' hq'=>?_,λr hr=>(no r hr).elim⟩);rw[ra]at ht';cases ht';have s34:=s3.trans s4;refine⟨_,rfl,q,_,_,_,rfl,rfl,SqT.of (s4 _ _ eq3),rfl,av',av,q',pt,t,rfl,hP',hT2.kp (aW s34),tok,hh,λH5 s5=>⟨_,rfl,aN ?_⟩⟩;have s35:=s34.trans s5;exact⟨_,rfl,_,rfl,q,_,_,_,rfl,rfl,SqT.of (s35 _ _ eq2),rfl,q,av,qt,pt,t,rfl,hP.same s35,hT2.kp (aW s35),tok,hh,λH6 s6=>k H6⟩
end
theorem all_mk{l:PySem.W.OpenLaw}{w:World}{K:PySem.W.Frag}{h:Heap}{mg:Str->Option Value}{fa CC1 CRatio CWhole CNamed CGiven CMinus CSum CLess CTimes COver CPower CRooted CNoText f1 f2 dt2 f3 f4 f5 f6 f7 f8 f9 f10 f11 f12 f13 f14 f15 f16 f17 f18 f19 f20 f21 f22 f23 f24 f25 f26 f27 f28 f29 f30 f31 f32 f33 f34 f35 f36 f37 f38 f39 f40 f41 f42 f43 f44 f45 f46 f47 f48 f49 f50 f51 f52 f53 f54 f55 f56 f57 f58 f59 f60 f61 f62 f63 f64 f65 f66 f67 f68 f69 f70 f71 f72 f73 f74 f75 f76 f77 f78 f79 f80 f81 f82 tp_WORDS tp_EXPONENTS:Addr}(X:K.In h)(G:h.Ns mainGlobals mg)(hfa:mg "law"=some (.ref fa))
 {od1 an1 od2 an2 odt2 od3 an3 od4 an4 od5 an5 od6 an6 od7 an7 od8 an8 od9 an9 od10 an10 od11 an11 od12 an12 od13 an13 od14 an14 od15 an15 od16 an16 od17 an17 od18 an18 od19 an19 od20 an20 od21 an21 od22 an22 od23 an23 od24 an24 od25 an25 od26 an26 od27 an27 od28 an28 od29 an29 od30 an30 od31 an31 od32 an32 od33 an33 od34 an34 od35 an35 od36 an36 od37 an37 od38 an38 od39 an39 od40 an40 od41 an41 od42 an42 od43 an43 od44 an44 od45 an45 od46 an46 od47 an47 od48 an48 od49 an49 od50 an50 od51 an51 od52 an52 od53 an53 od54 an54 od55 an55 od56 an56 od57 an57 od58 an58 od59 an59 od60 an60 od61 an61 od62 an62 od63 an63 od64 an64 od65 an65 od66 an66 od67 an67 od68 an68 od69 an69 od70 an70 od71 an71 od72 an72 od73 an73 od74 an74 od75 an75 od76 an76 od77 an77 od78 an78 od79 an79 od80 an80 od81 an81 od82 an82 odtp_WORDS odtp_EXPONENTS:Option Addr} {sl1 sl2 slt2 sl3 sl4 sl5 sl6 sl7 sl8 sl9 sl10 sl11 sl12 sl13 sl14 sl15 sl16 sl17 sl18 sl19 sl20 sl21 sl22 sl23 sl24 sl25 sl26 sl27 sl28 sl29 sl30 sl31 sl32 sl33 sl34 sl35 sl36 sl37 sl38 sl39 sl40 sl41 sl42 sl43 sl44 sl45 sl46 sl47 sl48 sl49 sl50 sl51 sl52 sl53 sl54 sl55 sl56 sl57 sl58 sl59 sl60 sl61 sl62 sl63 sl64 sl65 sl66 sl67 sl68 sl69 sl70 sl71 sl72 sl73 sl74 sl75 sl76 sl77 sl78 sl79 sl80 sl81 sl82 sltp_WORDS sltp_EXPONENTS:Array (Option Value)} {oc1 kV1 dc1 pm1 cd1 ct1 oc2 kV2 dc2 pm2 cd2 ct2 oct2 oc3 kV3 dc3 pm3 cd3 ct3 oc4 kV4 dc4 pm4 cd4 ct4 oc5 kV5 dc5 pm5 cd5 ct5 oc6 kV6 dc6 pm6 cd6 ct6 oc7 kV7 dc7 pm7 cd7 ct7 oc8 kV8 dc8 pm8 cd8 ct8 oc9 kV9 dc9 pm9 cd9 ct9 oc10 kV10 dc10 pm10 cd10 ct10 oc11 kV11 dc11 pm11 cd11 ct11 oc12 kV12 dc12 pm12 cd12 ct12 oc13 kV13 dc13 pm13 cd13 ct13 oc14 kV14 dc14 pm14 cd14 ct14 oc15 kV15 dc15 pm15 cd15 ct15 oc16 kV16 dc16 pm16 cd16 ct16 oc17 kV17 dc17 pm17 cd17 ct17 oc18 kV18 dc18 pm18 cd18 ct18 oc19 kV19 dc19 pm19 cd19 ct19 oc20 kV20 dc20 pm20 cd20 ct20 oc21 kV21 dc21 pm21 cd21 ct21 oc22 kV22 dc22 pm22 cd22 ct22 oc23 kV23 dc23 pm23 cd23 ct23 oc24 kV24 dc24 pm24 cd24 ct24 oc25 kV25 dc25 pm25 cd25 ct25 oc26 kV26 dc26 pm26 cd26 ct26 oc27 kV27 dc27 pm27 cd27 ct27 oc28 kV28 dc28 pm28 cd28 ct28 oc29 kV29 dc29 pm29 cd29 ct29 oc30 kV30 dc30 pm30 cd30 ct30 oc31 kV31 dc31 pm31 cd31 ct31 oc32 kV32 dc32 pm32 cd32 ct32 oc33 kV33 dc33 pm33 cd33 ct33 oc34 kV34 dc34 pm34 cd34 ct34 oc35 kV35 dc35 pm35 cd35 ct35 oc36 kV36 dc36 pm36 cd36 ct36 oc37 kV37 dc37 pm37 cd37 ct37 oc38 kV38 dc38 pm38 cd38 ct38 oc39 kV39 dc39 pm39 cd39 ct39 oc40 kV40 dc40 pm40 cd40 ct40 oc41 kV41 dc41 pm41 cd41 ct41 oc42 kV42 dc42 pm42 cd42 ct42 oc43 kV43 dc43 pm43 cd43 ct43 oc44 kV44 dc44 pm44 cd44 ct44 oc45 kV45 dc45 pm45 cd45 ct45 oc46 kV46 dc46 pm46 cd46 ct46 oc47 kV47 dc47 pm47 cd47 ct47 oc48 kV48 dc48 pm48 cd48 ct48 oc49 kV49 dc49 pm49 cd49 ct49 oc50 kV50 dc50 pm50 cd50 ct50 oc51 kV51 dc51 pm51 cd51 ct51 oc52 kV52 dc52 pm52 cd52 ct52 oc53 kV53 dc53 pm53 cd53 ct53 oc54 kV54 dc54 pm54 cd54 ct54 oc55 kV55 dc55 pm55 cd55 ct55 oc56 kV56 dc56 pm56 cd56 ct56 oc57 kV57 dc57 pm57 cd57 ct57 oc58 kV58 dc58 pm58 cd58 ct58 oc59 kV59 dc59 pm59 cd59 ct59 oc60 kV60 dc60 pm60 cd60 ct60 oc61 kV61 dc61 pm61 cd61 ct61 oc62 kV62 dc62 pm62 cd62 ct62 oc63 kV63 dc63 pm63 cd63 ct63 oc64 kV64 dc64 pm64 cd64 ct64 oc65 kV65 dc65 pm65 cd65 ct65 oc66 kV66 dc66 pm66 cd66 ct66 oc67 kV67 dc67 pm67 cd67 ct67 oc68 kV68 dc68 pm68 cd68 ct68 oc69 kV69 dc69 pm69 cd69 ct69 oc70 kV70 dc70 pm70 cd70 ct70 oc71 kV71 dc71 pm71 cd71 ct71 oc72 kV72 dc72 pm72 cd72 ct72 oc73 kV73 dc73 pm73 cd73 ct73 oc74 kV74 dc74 pm74 cd74 ct74 oc75 kV75 dc75 pm75 cd75 ct75 oc76 kV76 dc76 pm76 cd76 ct76 oc77 kV77 dc77 pm77 cd77 ct77 oc78 kV78 dc78 pm78 cd78 ct78 oc79 kV79 dc79 pm79 cd79 ct79 oc80 kV80 dc80 pm80 cd80 ct80 oc81 kV81 dc81 pm81 cd81 ct81 oc82 kV82 dc82 pm82 cd82 ct82:Value} {nt2:Nat} {tk2_0:Tok} {tk_LONGEST:Tok} {tk_DEEPEST:Tok} {tk_FIGURES:Tok} {tk_LETTERS:Tok} {ntp_WORDS:Nat} {tk_WORDS_0 tk_WORDS_1 tk_WORDS_2 tk_WORDS_3:Tok} {ntp_EXPONENTS:Nat} {tk_EXPONENTS_0 tk_EXPONENTS_1 tk_EXPONENTS_2 tk_EXPONENTS_3 tk_EXPONENTS_4 tk_EXPONENTS_5 tk_EXPONENTS_6 tk_EXPONENTS_7 tk_EXPONENTS_8:Tok}
 (aC1:PySem.W.nsIn K mainGlobals "Reading"=some (some (.ref CC1)))
 (pg1:PySem.W.plainGet K CC1 Str.empty=true)
 (hd1:PySem.W.hasDictIn K CC1=true)
 (po1:PySem.W.plainOver K CC1=true)
 (sa1:PySem.W.findIn K (.ref CC1) "__setattr__"=some (some (.builtin "object.__setattr__")))
 (mk1:PySem.W.makesIn K CC1=true)
 (kc1:PySem.W.keepIn K (.ref CC1)=true)
 (n1_marks:PySem.W.findIn K (.ref CC1) "marks"=some none)
 (n1_end:PySem.W.findIn K (.ref CC1) "end"=some none)
 (n1_done:PySem.W.findIn K (.ref CC1) "done"=some none)
 (n1_depth:PySem.W.findIn K (.ref CC1) "depth"=some none)
 (aC2:PySem.W.nsIn K mainGlobals "Ratio"=some (some (.ref CRatio)))
 (pg2:PySem.W.plainGet K CRatio Str.empty=true)
 (hd2:PySem.W.hasDictIn K CRatio=true)
 (po2:PySem.W.plainOver K CRatio=true)
 (sa2:PySem.W.findIn K (.ref CRatio) "__setattr__"=some (some (.builtin "object.__setattr__")))
 (mk2:PySem.W.makesIn K CRatio=true)
 (kc2:PySem.W.keepIn K (.ref CRatio)=true)
 (n2_top:PySem.W.findIn K (.ref CRatio) "top"=some none)
 (n2_bottom:PySem.W.findIn K (.ref CRatio) "bottom"=some none)
 (ha2:PySem.W.findIn K (.ref CRatio) "__class__"=some (some (.builtin "object.__class__")))
 (hn2:PySem.W.specialIn K (.builtin "object.__class__") "__get__"=some (some (.builtin "getset_descriptor.__get__")))
 (ht2:PySem.W.takesIn K (.builtin "object.__class__")=some true)
 (hm2:PySem.W.mroIn K CRatio (.type "object")=some true)
 (aC3:PySem.W.nsIn K mainGlobals "Whole"=some (some (.ref CWhole)))
 (pg3:PySem.W.plainGet K CWhole Str.empty=true)
 (hd3:PySem.W.hasDictIn K CWhole=true)
 (po3:PySem.W.plainOver K CWhole=true)
 (sa3:PySem.W.findIn K (.ref CWhole) "__setattr__"=some (some (.builtin "object.__setattr__")))
 (mk3:PySem.W.makesIn K CWhole=true)
 (kc3:PySem.W.keepIn K (.ref CWhole)=true)
 (n3_value:PySem.W.findIn K (.ref CWhole) "value"=some none)
 (ha3:PySem.W.findIn K (.ref CWhole) "__class__"=some (some (.builtin "object.__class__")))
 (hn3:PySem.W.specialIn K (.builtin "object.__class__") "__get__"=some (some (.builtin "getset_descriptor.__get__")))
 (ht3:PySem.W.takesIn K (.builtin "object.__class__")=some true)
 (hm3:PySem.W.mroIn K CWhole (.type "object")=some true)
 (aC4:PySem.W.nsIn K mainGlobals "Named"=some (some (.ref CNamed)))
 (pg4:PySem.W.plainGet K CNamed Str.empty=true)
 (hd4:PySem.W.hasDictIn K CNamed=true)
 (po4:PySem.W.plainOver K CNamed=true)
 (sa4:PySem.W.findIn K (.ref CNamed) "__setattr__"=some (some (.builtin "object.__setattr__")))
 (mk4:PySem.W.makesIn K CNamed=true)
 (kc4:PySem.W.keepIn K (.ref CNamed)=true)
 (n4_word:PySem.W.findIn K (.ref CNamed) "word"=some none)
 (ha4:PySem.W.findIn K (.ref CNamed) "__class__"=some (some (.builtin "object.__class__")))
 (hn4:PySem.W.specialIn K (.builtin "object.__class__") "__get__"=some (some (.builtin "getset_descriptor.__get__")))
 (ht4:PySem.W.takesIn K (.builtin "object.__class__")=some true)
 (hm4:PySem.W.mroIn K CNamed (.type "object")=some true)
 (aC5:PySem.W.nsIn K mainGlobals "Given"=some (some (.ref CGiven)))
 (pg5:PySem.W.plainGet K CGiven Str.empty=true)
 (hd5:PySem.W.hasDictIn K CGiven=true)
 (po5:PySem.W.plainOver K CGiven=true)
 (sa5:PySem.W.findIn K (.ref CGiven) "__setattr__"=some (some (.builtin "object.__setattr__")))
 (mk5:PySem.W.makesIn K CGiven=true)
 (kc5:PySem.W.keepIn K (.ref CGiven)=true)
 (n5_poly:PySem.W.findIn K (.ref CGiven) "poly"=some none)
 (n5_low:PySem.W.findIn K (.ref CGiven) "low"=some none)
 (n5_high:PySem.W.findIn K (.ref CGiven) "high"=some none)
 (ha5:PySem.W.findIn K (.ref CGiven) "__class__"=some (some (.builtin "object.__class__")))
 (hn5:PySem.W.specialIn K (.builtin "object.__class__") "__get__"=some (some (.builtin "getset_descriptor.__get__")))
 (ht5:PySem.W.takesIn K (.builtin "object.__class__")=some true)
 (hm5:PySem.W.mroIn K CGiven (.type "object")=some true)
 (aC6:PySem.W.nsIn K mainGlobals "Minus"=some (some (.ref CMinus)))
 (pg6:PySem.W.plainGet K CMinus Str.empty=true)
 (hd6:PySem.W.hasDictIn K CMinus=true)
 (po6:PySem.W.plainOver K CMinus=true)
 (sa6:PySem.W.findIn K (.ref CMinus) "__setattr__"=some (some (.builtin "object.__setattr__")))
 (mk6:PySem.W.makesIn K CMinus=true)
 (kc6:PySem.W.keepIn K (.ref CMinus)=true)
 (n6_one:PySem.W.findIn K (.ref CMinus) "one"=some none)
 (ha6:PySem.W.findIn K (.ref CMinus) "__class__"=some (some (.builtin "object.__class__")))
 (hn6:PySem.W.specialIn K (.builtin "object.__class__") "__get__"=some (some (.builtin "getset_descriptor.__get__")))
 (ht6:PySem.W.takesIn K (.builtin "object.__class__")=some true)
 (hm6:PySem.W.mroIn K CMinus (.type "object")=some true)
 (aC7:PySem.W.nsIn K mainGlobals "Sum"=some (some (.ref CSum)))
 (pg7:PySem.W.plainGet K CSum Str.empty=true)
 (hd7:PySem.W.hasDictIn K CSum=true)
 (po7:PySem.W.plainOver K CSum=true)
 (sa7:PySem.W.findIn K (.ref CSum) "__setattr__"=some (some (.builtin "object.__setattr__")))
 (mk7:PySem.W.makesIn K CSum=true)
 (kc7:PySem.W.keepIn K (.ref CSum)=true)
 (n7_one:PySem.W.findIn K (.ref CSum) "one"=some none)
 (n7_other:PySem.W.findIn K (.ref CSum) "other"=some none)
 (ha7:PySem.W.findIn K (.ref CSum) "__class__"=some (some (.builtin "object.__class__")))
 (hn7:PySem.W.specialIn K (.builtin "object.__class__") "__get__"=some (some (.builtin "getset_descriptor.__get__")))
 (ht7:PySem.W.takesIn K (.builtin "object.__class__")=some true)
 (hm7:PySem.W.mroIn K CSum (.type "object")=some true)
 (aC8:PySem.W.nsIn K mainGlobals "Less"=some (some (.ref CLess)))
 (pg8:PySem.W.plainGet K CLess Str.empty=true)
 (hd8:PySem.W.hasDictIn K CLess=true)
 (po8:PySem.W.plainOver K CLess=true)
 (sa8:PySem.W.findIn K (.ref CLess) "__setattr__"=some (some (.builtin "object.__setattr__")))
 (mk8:PySem.W.makesIn K CLess=true)
 (kc8:PySem.W.keepIn K (.ref CLess)=true)
 (n8_one:PySem.W.findIn K (.ref CLess) "one"=some none)
 (n8_other:PySem.W.findIn K (.ref CLess) "other"=some none)
 (ha8:PySem.W.findIn K (.ref CLess) "__class__"=some (some (.builtin "object.__class__")))
 (hn8:PySem.W.specialIn K (.builtin "object.__class__") "__get__"=some (some (.builtin "getset_descriptor.__get__")))
 (ht8:PySem.W.takesIn K (.builtin "object.__class__")=some true)
 (hm8:PySem.W.mroIn K CLess (.type "object")=some true)
 (aC9:PySem.W.nsIn K mainGlobals "Times"=some (some (.ref CTimes)))
 (pg9:PySem.W.plainGet K CTimes Str.empty=true)
 (hd9:PySem.W.hasDictIn K CTimes=true)
 (po9:PySem.W.plainOver K CTimes=true)
 (sa9:PySem.W.findIn K (.ref CTimes) "__setattr__"=some (some (.builtin "object.__setattr__")))
 (mk9:PySem.W.makesIn K CTimes=true)
 (kc9:PySem.W.keepIn K (.ref CTimes)=true)
 (n9_one:PySem.W.findIn K (.ref CTimes) "one"=some none)
 (n9_other:PySem.W.findIn K (.ref CTimes) "other"=some none)
 (ha9:PySem.W.findIn K (.ref CTimes) "__class__"=some (some (.builtin "object.__class__")))
 (hn9:PySem.W.specialIn K (.builtin "object.__class__") "__get__"=some (some (.builtin "getset_descriptor.__get__")))
 (ht9:PySem.W.takesIn K (.builtin "object.__class__")=some true)
 (hm9:PySem.W.mroIn K CTimes (.type "object")=some true)
 (aC10:PySem.W.nsIn K mainGlobals "Over"=some (some (.ref COver)))
 (pg10:PySem.W.plainGet K COver Str.empty=true)
 (hd10:PySem.W.hasDictIn K COver=true)
 (po10:PySem.W.plainOver K COver=true)
 (sa10:PySem.W.findIn K (.ref COver) "__setattr__"=some (some (.builtin "object.__setattr__")))
 (mk10:PySem.W.makesIn K COver=true)
 (kc10:PySem.W.keepIn K (.ref COver)=true)
 (n10_one:PySem.W.findIn K (.ref COver) "one"=some none)
 (n10_other:PySem.W.findIn K (.ref COver) "other"=some none)
 (ha10:PySem.W.findIn K (.ref COver) "__class__"=some (some (.builtin "object.__class__")))
 (hn10:PySem.W.specialIn K (.builtin "object.__class__") "__get__"=some (some (.builtin "getset_descriptor.__get__")))
 (ht10:PySem.W.takesIn K (.builtin "object.__class__")=some true)
 (hm10:PySem.W.mroIn K COver (.type "object")=some true)
 (aC11:PySem.W.nsIn K mainGlobals "Power"=some (some (.ref CPower)))
 (pg11:PySem.W.plainGet K CPower Str.empty=true)
 (hd11:PySem.W.hasDictIn K CPower=true)
 (po11:PySem.W.plainOver K CPower=true)
 (sa11:PySem.W.findIn K (.ref CPower) "__setattr__"=some (some (.builtin "object.__setattr__")))
 (mk11:PySem.W.makesIn K CPower=true)
 (kc11:PySem.W.keepIn K (.ref CPower)=true)
 (n11_one:PySem.W.findIn K (.ref CPower) "one"=some none)
 (n11_power:PySem.W.findIn K (.ref CPower) "power"=some none)
 (ha11:PySem.W.findIn K (.ref CPower) "__class__"=some (some (.builtin "object.__class__")))
 (hn11:PySem.W.specialIn K (.builtin "object.__class__") "__get__"=some (some (.builtin "getset_descriptor.__get__")))
 (ht11:PySem.W.takesIn K (.builtin "object.__class__")=some true)
 (hm11:PySem.W.mroIn K CPower (.type "object")=some true)
 (aC12:PySem.W.nsIn K mainGlobals "Rooted"=some (some (.ref CRooted)))
 (pg12:PySem.W.plainGet K CRooted Str.empty=true)
 (hd12:PySem.W.hasDictIn K CRooted=true)
 (po12:PySem.W.plainOver K CRooted=true)
 (sa12:PySem.W.findIn K (.ref CRooted) "__setattr__"=some (some (.builtin "object.__setattr__")))
 (mk12:PySem.W.makesIn K CRooted=true)
 (kc12:PySem.W.keepIn K (.ref CRooted)=true)
 (n12_one:PySem.W.findIn K (.ref CRooted) "one"=some none)
 (n12_power:PySem.W.findIn K (.ref CRooted) "power"=some none)
 (ha12:PySem.W.findIn K (.ref CRooted) "__class__"=some (some (.builtin "object.__class__")))
 (hn12:PySem.W.specialIn K (.builtin "object.__class__") "__get__"=some (some (.builtin "getset_descriptor.__get__")))
 (ht12:PySem.W.takesIn K (.builtin "object.__class__")=some true)
 (hm12:PySem.W.mroIn K CRooted (.type "object")=some true)
 (aENoText:PySem.W.nsIn K mainGlobals "NoText"=some (some (.ref CNoText)))
 (e0NoText:PySem.W.findIn K (.ref CNoText) "__getattribute__"=some (some (.builtin "BaseException.__getattribute__")))
 (e1NoText:PySem.W.findIn K (.ref CNoText) "__getattr__"=some none)
 (e2NoText:PySem.W.mroIn K CNoText (.type "BaseException")=some true)
 (e3NoText:PySem.W.findIn K (.ref CNoText) "__class__"=some (some (.builtin "object.__class__")))
 (e4NoText:PySem.W.specialIn K (.builtin "object.__class__") "__get__"=some (some (.builtin "getset_descriptor.__get__")))
 (e5NoText:PySem.W.takesIn K (.builtin "object.__class__")=some true)
 (e6NoText:PySem.W.mroIn K CNoText (.type "object")=some true)
 (yXNoText:tM K CNoText f19 lV "ValueError.__new__"=true)
 (yCNoText:pM K CNoText=true)
 (yKNoText:PySem.W.keepIn K (.ref CNoText)=true)
 (yNNoText:PySem.W.findIn K (.ref CNoText) "at"=some none)
 (xN:mS K [CWhole,CNamed,CGiven,CMinus,CSum,CLess,CTimes,COver,CPower,CRooted]=true)
 (a1:PySem.W.nsIn K mainGlobals "shared_by_two"=some (some (.ref f1)))
 (l1:K.lookup f1=some ⟨oc1,od1,.func (PySem.W.fnOf "shared_by_two" "shared_by_two" (az jV) (ax jV) (ae jV) .none kV1 dc1 pm1 an1 cd1 ct1),sl1⟩) (c1:PySem.W.codeIn K cd1 "shared_by_two"=true) (k1:PySem.W.keepIn K (.ref f1)=true)
 (a2:PySem.W.findIn K (.ref CRatio) "__init__"=some (some (.ref f2))) (i2:PySem.W.isFn K (.ref f2)=true)
 (l2:K.lookup f2=some ⟨oc2,od2,.func (PySem.W.fnOf "__init__" "Ratio.__init__" (az kR) (ax kR) (ae kR) (.ref dt2) kV2 dc2 pm2 an2 cd2 ct2),sl2⟩) (c2:PySem.W.codeIn K cd2 "Ratio.__init__"=true) (k2:PySem.W.keepIn K (.ref f2)=true)
 (t2:K.lookup dt2=some ⟨oct2,odt2,.seq #[.int 1 tk2_0] nt2,slt2⟩)
 (a3:PySem.W.findIn K (.ref CWhole) "__init__"=some (some (.ref f3))) (i3:PySem.W.isFn K (.ref f3)=true)
 (l3:K.lookup f3=some ⟨oc3,od3,.func (PySem.W.fnOf "__init__" "Whole.__init__" (az kD) (ax kD) (ae kD) .none kV3 dc3 pm3 an3 cd3 ct3),sl3⟩) (c3:PySem.W.codeIn K cd3 "Whole.__init__"=true) (k3:PySem.W.keepIn K (.ref f3)=true)
 (a4:PySem.W.findIn K (.ref CNamed) "__init__"=some (some (.ref f4))) (i4:PySem.W.isFn K (.ref f4)=true)
 (l4:K.lookup f4=some ⟨oc4,od4,.func (PySem.W.fnOf "__init__" "Named.__init__" (az kW) (ax kW) (ae kW) .none kV4 dc4 pm4 an4 cd4 ct4),sl4⟩) (c4:PySem.W.codeIn K cd4 "Named.__init__"=true) (k4:PySem.W.keepIn K (.ref f4)=true)
 (a5:PySem.W.findIn K (.ref CGiven) "__init__"=some (some (.ref f5))) (i5:PySem.W.isFn K (.ref f5)=true)
 (l5:K.lookup f5=some ⟨oc5,od5,.func (PySem.W.fnOf "__init__" "Given.__init__" (az kZ) (ax kZ) (ae kZ) .none kV5 dc5 pm5 an5 cd5 ct5),sl5⟩) (c5:PySem.W.codeIn K cd5 "Given.__init__"=true) (k5:PySem.W.keepIn K (.ref f5)=true)
 (a6:PySem.W.findIn K (.ref CMinus) "__init__"=some (some (.ref f6))) (i6:PySem.W.isFn K (.ref f6)=true)
 (l6:K.lookup f6=some ⟨oc6,od6,.func (PySem.W.fnOf "__init__" "Minus.__init__" (az kX) (ax kX) (ae kX) .none kV6 dc6 pm6 an6 cd6 ct6),sl6⟩) (c6:PySem.W.codeIn K cd6 "Minus.__init__"=true) (k6:PySem.W.keepIn K (.ref f6)=true)
 (a7:PySem.W.findIn K (.ref CSum) "__init__"=some (some (.ref f7))) (i7:PySem.W.isFn K (.ref f7)=true)
 (l7:K.lookup f7=some ⟨oc7,od7,.func (PySem.W.fnOf "__init__" "Sum.__init__" (az kF) (ax kF) (ae kF) .none kV7 dc7 pm7 an7 cd7 ct7),sl7⟩) (c7:PySem.W.codeIn K cd7 "Sum.__init__"=true) (k7:PySem.W.keepIn K (.ref f7)=true)
 (a8:PySem.W.findIn K (.ref CLess) "__init__"=some (some (.ref f8))) (i8:PySem.W.isFn K (.ref f8)=true)
 (l8:K.lookup f8=some ⟨oc8,od8,.func (PySem.W.fnOf "__init__" "Less.__init__" (az kY) (ax kY) (ae kY) .none kV8 dc8 pm8 an8 cd8 ct8),sl8⟩) (c8:PySem.W.codeIn K cd8 "Less.__init__"=true) (k8:PySem.W.keepIn K (.ref f8)=true)
 (a9:PySem.W.findIn K (.ref CTimes) "__init__"=some (some (.ref f9))) (i9:PySem.W.isFn K (.ref f9)=true)
 (l9:K.lookup f9=some ⟨oc9,od9,.func (PySem.W.fnOf "__init__" "Times.__init__" (az kE) (ax kE) (ae kE) .none kV9 dc9 pm9 an9 cd9 ct9),sl9⟩) (c9:PySem.W.codeIn K cd9 "Times.__init__"=true) (k9:PySem.W.keepIn K (.ref f9)=true)
 (a10:PySem.W.findIn K (.ref COver) "__init__"=some (some (.ref f10))) (i10:PySem.W.isFn K (.ref f10)=true)
 (l10:K.lookup f10=some ⟨oc10,od10,.func (PySem.W.fnOf "__init__" "Over.__init__" (az kT) (ax kT) (ae kT) .none kV10 dc10 pm10 an10 cd10 ct10),sl10⟩) (c10:PySem.W.codeIn K cd10 "Over.__init__"=true) (k10:PySem.W.keepIn K (.ref f10)=true)
 (a11:PySem.W.findIn K (.ref CPower) "__init__"=some (some (.ref f11))) (i11:PySem.W.isFn K (.ref f11)=true)
 (l11:K.lookup f11=some ⟨oc11,od11,.func (PySem.W.fnOf "__init__" "Power.__init__" (az kS) (ax kS) (ae kS) .none kV11 dc11 pm11 an11 cd11 ct11),sl11⟩) (c11:PySem.W.codeIn K cd11 "Power.__init__"=true) (k11:PySem.W.keepIn K (.ref f11)=true)
 (a12:PySem.W.findIn K (.ref CRooted) "__init__"=some (some (.ref f12))) (i12:PySem.W.isFn K (.ref f12)=true)
 (l12:K.lookup f12=some ⟨oc12,od12,.func (PySem.W.fnOf "__init__" "Rooted.__init__" (az kG) (ax kG) (ae kG) .none kV12 dc12 pm12 an12 cd12 ct12),sl12⟩) (c12:PySem.W.codeIn K cd12 "Rooted.__init__"=true) (k12:PySem.W.keepIn K (.ref f12)=true)
 (a13:PySem.W.nsIn K mainGlobals "poly"=some (some (.ref f13)))
 (l13:K.lookup f13=some ⟨oc13,od13,.func (PySem.W.fnOf "poly" "poly" (az j8) (ax j8) (ae j8) .none kV13 dc13 pm13 an13 cd13 ct13),sl13⟩) (c13:PySem.W.codeIn K cd13 "poly"=true) (k13:PySem.W.keepIn K (.ref f13)=true)
 (a14:PySem.W.nsIn K mainGlobals "coefficient"=some (some (.ref f14)))
 (l14:K.lookup f14=some ⟨oc14,od14,.func (PySem.W.fnOf "coefficient" "coefficient" (az ki) (ax ki) (ae ki) .none kV14 dc14 pm14 an14 cd14 ct14),sl14⟩) (c14:PySem.W.codeIn K cd14 "coefficient"=true) (k14:PySem.W.keepIn K (.ref f14)=true)
 (a15:PySem.W.nsIn K mainGlobals "added"=some (some (.ref f15)))
 (l15:K.lookup f15=some ⟨oc15,od15,.func (PySem.W.fnOf "added" "added" (az kj) (ax kj) (ae kj) .none kV15 dc15 pm15 an15 cd15 ct15),sl15⟩) (c15:PySem.W.codeIn K cd15 "added"=true) (k15:PySem.W.keepIn K (.ref f15)=true)
 (a16:PySem.W.nsIn K mainGlobals "run_end"=some (some (.ref f16)))
 (l16:K.lookup f16=some ⟨oc16,od16,.func (PySem.W.fnOf "run_end" "run_end" (az jW) (ax jW) (ae jW) .none kV16 dc16 pm16 an16 cd16 ct16),sl16⟩) (c16:PySem.W.codeIn K cd16 "run_end"=true) (k16:PySem.W.keepIn K (.ref f16)=true)
 (a17:PySem.W.nsIn K mainGlobals "mark_end"=some (some (.ref f17)))
 (l17:K.lookup f17=some ⟨oc17,od17,.func (PySem.W.fnOf "mark_end" "mark_end" (az ka) (ax ka) (ae ka) .none kV17 dc17 pm17 an17 cd17 ct17),sl17⟩) (c17:PySem.W.codeIn K cd17 "mark_end"=true) (k17:PySem.W.keepIn K (.ref f17)=true)
 (a18:PySem.W.nsIn K mainGlobals "marks_of"=some (some (.ref f18)))
 (l18:K.lookup f18=some ⟨oc18,od18,.func (PySem.W.fnOf "marks_of" "marks_of" (az j9) (ax j9) (ae j9) .none kV18 dc18 pm18 an18 cd18 ct18),sl18⟩) (c18:PySem.W.codeIn K cd18 "marks_of"=true) (k18:PySem.W.keepIn K (.ref f18)=true)
 (a19:PySem.W.findIn K (.ref CNoText) "__init__"=some (some (.ref f19)))
 (l19:K.lookup f19=some ⟨oc19,od19,.func (PySem.W.fnOf "__init__" "NoText.__init__" (az kU) (ax kU) (ae kU) .none kV19 dc19 pm19 an19 cd19 ct19),sl19⟩) (c19:PySem.W.codeIn K cd19 "NoText.__init__"=true) (k19:PySem.W.keepIn K (.ref f19)=true)
 (a20:PySem.W.findIn K (.ref CC1) "__init__"=some (some (.ref f20))) (i20:PySem.W.isFn K (.ref f20)=true)
 (l20:K.lookup f20=some ⟨oc20,od20,.func (PySem.W.fnOf "__init__" "Reading.__init__" (az kP) (ax kP) (ae kP) .none kV20 dc20 pm20 an20 cd20 ct20),sl20⟩) (c20:PySem.W.codeIn K cd20 "Reading.__init__"=true) (k20:PySem.W.keepIn K (.ref f20)=true)
 (a21:PySem.W.findIn K (.ref CC1) "seen"=some (some (.ref f21))) (i21:PySem.W.isFn K (.ref f21)=true)
 (l21:K.lookup f21=some ⟨oc21,od21,.func (PySem.W.fnOf "seen" "Reading.seen" (az kI) (ax kI) (ae kI) .none kV21 dc21 pm21 an21 cd21 ct21),sl21⟩) (c21:PySem.W.codeIn K cd21 "Reading.seen"=true) (k21:PySem.W.keepIn K (.ref f21)=true)
 (a22:PySem.W.findIn K (.ref CC1) "begin"=some (some (.ref f22))) (i22:PySem.W.isFn K (.ref f22)=true)
 (l22:K.lookup f22=some ⟨oc22,od22,.func (PySem.W.fnOf "begin" "Reading.begin" (az kO) (ax kO) (ae kO) .none kV22 dc22 pm22 an22 cd22 ct22),sl22⟩) (c22:PySem.W.codeIn K cd22 "Reading.begin"=true) (k22:PySem.W.keepIn K (.ref f22)=true)
 (a23:PySem.W.findIn K (.ref CC1) "step"=some (some (.ref f23))) (i23:PySem.W.isFn K (.ref f23)=true)
 (l23:K.lookup f23=some ⟨oc23,od23,.func (PySem.W.fnOf "step" "Reading.step" (az kH) (ax kH) (ae kH) .none kV23 dc23 pm23 an23 cd23 ct23),sl23⟩) (c23:PySem.W.codeIn K cd23 "Reading.step"=true) (k23:PySem.W.keepIn K (.ref f23)=true)
 (a24:PySem.W.findIn K (.ref CC1) "passes"=some (some (.ref f24))) (i24:PySem.W.isFn K (.ref f24)=true)
 (l24:K.lookup f24=some ⟨oc24,od24,.func (PySem.W.fnOf "passes" "Reading.passes" (az kJ) (ax kJ) (ae kJ) .none kV24 dc24 pm24 an24 cd24 ct24),sl24⟩) (c24:PySem.W.codeIn K cd24 "Reading.passes"=true) (k24:PySem.W.keepIn K (.ref f24)=true)
 (a25:PySem.W.findIn K (.ref CC1) "demand"=some (some (.ref f25))) (i25:PySem.W.isFn K (.ref f25)=true)
 (l25:K.lookup f25=some ⟨oc25,od25,.func (PySem.W.fnOf "demand" "Reading.demand" (az kN) (ax kN) (ae kN) .none kV25 dc25 pm25 an25 cd25 ct25),sl25⟩) (c25:PySem.W.codeIn K cd25 "Reading.demand"=true) (k25:PySem.W.keepIn K (.ref f25)=true)
 (a26:PySem.W.findIn K (.ref CC1) "enter"=some (some (.ref f26))) (i26:PySem.W.isFn K (.ref f26)=true)
 (l26:K.lookup f26=some ⟨oc26,od26,.func (PySem.W.fnOf "enter" "Reading.enter" (az kM) (ax kM) (ae kM) .none kV26 dc26 pm26 an26 cd26 ct26),sl26⟩) (c26:PySem.W.codeIn K cd26 "Reading.enter"=true) (k26:PySem.W.keepIn K (.ref f26)=true)
 (a27:PySem.W.findIn K (.ref CC1) "leave"=some (some (.ref f27))) (i27:PySem.W.isFn K (.ref f27)=true)
 (l27:K.lookup f27=some ⟨oc27,od27,.func (PySem.W.fnOf "leave" "Reading.leave" (az kK) (ax kK) (ae kK) .none kV27 dc27 pm27 an27 cd27 ct27),sl27⟩) (c27:PySem.W.codeIn K cd27 "Reading.leave"=true) (k27:PySem.W.keepIn K (.ref f27)=true)
 (a28:PySem.W.findIn K (.ref CC1) "finish"=some (some (.ref f28))) (i28:PySem.W.isFn K (.ref f28)=true)
 (l28:K.lookup f28=some ⟨oc28,od28,.func (PySem.W.fnOf "finish" "Reading.finish" (az kL) (ax kL) (ae kL) .none kV28 dc28 pm28 an28 cd28 ct28),sl28⟩) (c28:PySem.W.codeIn K cd28 "Reading.finish"=true) (k28:PySem.W.keepIn K (.ref f28)=true)
 (a29:PySem.W.nsIn K mainGlobals "made_of"=some (some (.ref f29)))
 (l29:K.lookup f29=some ⟨oc29,od29,.func (PySem.W.fnOf "made_of" "made_of" (az ke) (ax ke) (ae ke) .none kV29 dc29 pm29 an29 cd29 ct29),sl29⟩) (c29:PySem.W.codeIn K cd29 "made_of"=true) (k29:PySem.W.keepIn K (.ref f29)=true)
 (a30:PySem.W.nsIn K mainGlobals "is_whole"=some (some (.ref f30)))
 (l30:K.lookup f30=some ⟨oc30,od30,.func (PySem.W.fnOf "is_whole" "is_whole" (az kf) (ax kf) (ae kf) .none kV30 dc30 pm30 an30 cd30 ct30),sl30⟩) (c30:PySem.W.codeIn K cd30 "is_whole"=true) (k30:PySem.W.keepIn K (.ref f30)=true)
 (a31:PySem.W.nsIn K mainGlobals "is_name"=some (some (.ref f31)))
 (l31:K.lookup f31=some ⟨oc31,od31,.func (PySem.W.fnOf "is_name" "is_name" (az kg) (ax kg) (ae kg) .none kV31 dc31 pm31 an31 cd31 ct31),sl31⟩) (c31:PySem.W.codeIn K cd31 "is_name"=true) (k31:PySem.W.keepIn K (.ref f31)=true)
 (a32:PySem.W.nsIn K mainGlobals "read_whole"=some (some (.ref f32)))
 (l32:K.lookup f32=some ⟨oc32,od32,.func (PySem.W.fnOf "read_whole" "read_whole" (az jX) (ax jX) (ae jX) .none kV32 dc32 pm32 an32 cd32 ct32),sl32⟩) (c32:PySem.W.codeIn K cd32 "read_whole"=true) (k32:PySem.W.keepIn K (.ref f32)=true)
 (a33:PySem.W.nsIn K mainGlobals "read_fraction"=some (some (.ref f33)))
 (l33:K.lookup f33=some ⟨oc33,od33,.func (PySem.W.fnOf "read_fraction" "read_fraction" (az j4) (ax j4) (ae j4) .none kV33 dc33 pm33 an33 cd33 ct33),sl33⟩) (c33:PySem.W.codeIn K cd33 "read_fraction"=true) (k33:PySem.W.keepIn K (.ref f33)=true)
 (a34:PySem.W.nsIn K mainGlobals "read_exponent"=some (some (.ref f34)))
 (l34:K.lookup f34=some ⟨oc34,od34,.func (PySem.W.fnOf "read_exponent" "read_exponent" (az j5) (ax j5) (ae j5) .none kV34 dc34 pm34 an34 cd34 ct34),sl34⟩) (c34:PySem.W.codeIn K cd34 "read_exponent"=true) (k34:PySem.W.keepIn K (.ref f34)=true)
 (a35:PySem.W.nsIn K mainGlobals "read_place"=some (some (.ref f35)))
 (l35:K.lookup f35=some ⟨oc35,od35,.func (PySem.W.fnOf "read_place" "read_place" (az j0) (ax j0) (ae j0) .none kV35 dc35 pm35 an35 cd35 ct35),sl35⟩) (c35:PySem.W.codeIn K cd35 "read_place"=true) (k35:PySem.W.keepIn K (.ref f35)=true)
 (a36:PySem.W.nsIn K mainGlobals "read_term"=some (some (.ref f36)))
 (l36:K.lookup f36=some ⟨oc36,od36,.func (PySem.W.fnOf "read_term" "read_term" (az jZ) (ax jZ) (ae jZ) .none kV36 dc36 pm36 an36 cd36 ct36),sl36⟩) (c36:PySem.W.codeIn K cd36 "read_term"=true) (k36:PySem.W.keepIn K (.ref f36)=true)
 (a37:PySem.W.nsIn K mainGlobals "read_terms"=some (some (.ref f37)))
 (l37:K.lookup f37=some ⟨oc37,od37,.func (PySem.W.fnOf "read_terms" "read_terms" (az jY) (ax jY) (ae jY) .none kV37 dc37 pm37 an37 cd37 ct37),sl37⟩) (c37:PySem.W.codeIn K cd37 "read_terms"=true) (k37:PySem.W.keepIn K (.ref f37)=true)
 (a38:PySem.W.nsIn K mainGlobals "read_given"=some (some (.ref f38)))
 (l38:K.lookup f38=some ⟨oc38,od38,.func (PySem.W.fnOf "read_given" "read_given" (az j3) (ax j3) (ae j3) .none kV38 dc38 pm38 an38 cd38 ct38),sl38⟩) (c38:PySem.W.codeIn K cd38 "read_given"=true) (k38:PySem.W.keepIn K (.ref f38)=true)
 (a39:PySem.W.nsIn K mainGlobals "read_brackets"=some (some (.ref f39)))
 (l39:K.lookup f39=some ⟨oc39,od39,.func (PySem.W.fnOf "read_brackets" "read_brackets" (az gh) (ax gh) (ae gh) .none kV39 dc39 pm39 an39 cd39 ct39),sl39⟩) (c39:PySem.W.codeIn K cd39 "read_brackets"=true) (k39:PySem.W.keepIn K (.ref f39)=true)
 (a40:PySem.W.nsIn K mainGlobals "read_atom"=some (some (.ref f40)))
 (l40:K.lookup f40=some ⟨oc40,od40,.func (PySem.W.fnOf "read_atom" "read_atom" (az gj) (ax gj) (ae gj) .none kV40 dc40 pm40 an40 cd40 ct40),sl40⟩) (c40:PySem.W.codeIn K cd40 "read_atom"=true) (k40:PySem.W.keepIn K (.ref f40)=true)
 (a41:PySem.W.nsIn K mainGlobals "read_power"=some (some (.ref f41)))
 (l41:K.lookup f41=some ⟨oc41,od41,.func (PySem.W.fnOf "read_power" "read_power" (az gf) (ax gf) (ae gf) .none kV41 dc41 pm41 an41 cd41 ct41),sl41⟩) (c41:PySem.W.codeIn K cd41 "read_power"=true) (k41:PySem.W.keepIn K (.ref f41)=true)
 (a42:PySem.W.nsIn K mainGlobals "read_factor"=some (some (.ref f42)))
 (l42:K.lookup f42=some ⟨oc42,od42,.func (PySem.W.fnOf "read_factor" "read_factor" (az gg) (ax gg) (ae gg) .none kV42 dc42 pm42 an42 cd42 ct42),sl42⟩) (c42:PySem.W.codeIn K cd42 "read_factor"=true) (k42:PySem.W.keepIn K (.ref f42)=true)
 (a43:PySem.W.nsIn K mainGlobals "read_product"=some (some (.ref f43)))
 (l43:K.lookup f43=some ⟨oc43,od43,.func (PySem.W.fnOf "read_product" "read_product" (az gd) (ax gd) (ae gd) .none kV43 dc43 pm43 an43 cd43 ct43),sl43⟩) (c43:PySem.W.codeIn K cd43 "read_product"=true) (k43:PySem.W.keepIn K (.ref f43)=true)
 (a44:PySem.W.nsIn K mainGlobals "read_sum"=some (some (.ref f44)))
 (l44:K.lookup f44=some ⟨oc44,od44,.func (PySem.W.fnOf "read_sum" "read_sum" (az fO) (ax fO) (ae fO) .none kV44 dc44 pm44 an44 cd44 ct44),sl44⟩) (c44:PySem.W.codeIn K cd44 "read_sum"=true) (k44:PySem.W.keepIn K (.ref f44)=true)
 (a45:PySem.W.nsIn K mainGlobals "read"=some (some (.ref f45)))
 (l45:K.lookup f45=some ⟨oc45,od45,.func (PySem.W.fnOf "read" "read" (az j6) (ax j6) (ae j6) .none kV45 dc45 pm45 an45 cd45 ct45),sl45⟩) (c45:PySem.W.codeIn K cd45 "read"=true) (k45:PySem.W.keepIn K (.ref f45)=true)
 (a46:PySem.W.nsIn K mainGlobals "whole_text"=some (some (.ref f46)))
 (l46:K.lookup f46=some ⟨oc46,od46,.func (PySem.W.fnOf "whole_text" "whole_text" (az jT) (ax jT) (ae jT) .none kV46 dc46 pm46 an46 cd46 ct46),sl46⟩) (c46:PySem.W.codeIn K cd46 "whole_text"=true) (k46:PySem.W.keepIn K (.ref f46)=true)
 (a47:PySem.W.nsIn K mainGlobals "degree"=some (some (.ref f47)))
 (l47:K.lookup f47=some ⟨oc47,od47,.func (PySem.W.fnOf "degree" "degree" (az kh) (ax kh) (ae kh) .none kV47 dc47 pm47 an47 cd47 ct47),sl47⟩) (c47:PySem.W.codeIn K cd47 "degree"=true) (k47:PySem.W.keepIn K (.ref f47)=true)
 (a48:PySem.W.nsIn K mainGlobals "term_text"=some (some (.ref f48)))
 (l48:K.lookup f48=some ⟨oc48,od48,.func (PySem.W.fnOf "term_text" "term_text" (az jU) (ax jU) (ae jU) .none kV48 dc48 pm48 an48 cd48 ct48),sl48⟩) (c48:PySem.W.codeIn K cd48 "term_text"=true) (k48:PySem.W.keepIn K (.ref f48)=true)
 (a49:PySem.W.nsIn K mainGlobals "poly_text"=some (some (.ref f49)))
 (l49:K.lookup f49=some ⟨oc49,od49,.func (PySem.W.fnOf "poly_text" "poly_text" (az j7) (ax j7) (ae j7) .none kV49 dc49 pm49 an49 cd49 ct49),sl49⟩) (c49:PySem.W.codeIn K cd49 "poly_text"=true) (k49:PySem.W.keepIn K (.ref f49)=true)
 (a50:PySem.W.findIn K (.ref CRatio) "text"=some (some (.ref f50))) (i50:PySem.W.isFn K (.ref f50)=true)
 (l50:K.lookup f50=some ⟨oc50,od50,.func (PySem.W.fnOf "text" "Ratio.text" (az kQ) (ax kQ) (ae kQ) .none kV50 dc50 pm50 an50 cd50 ct50),sl50⟩) (c50:PySem.W.codeIn K cd50 "Ratio.text"=true) (k50:PySem.W.keepIn K (.ref f50)=true)
 (a51:PySem.W.nsIn K mainGlobals "is_sum"=some (some (.ref f51)))
 (l51:K.lookup f51=some ⟨oc51,od51,.func (PySem.W.fnOf "is_sum" "is_sum" (az gm) (ax gm) (ae gm) .none kV51 dc51 pm51 an51 cd51 ct51),sl51⟩) (c51:PySem.W.codeIn K cd51 "is_sum"=true) (k51:PySem.W.keepIn K (.ref f51)=true)
 (a52:PySem.W.nsIn K mainGlobals "is_product"=some (some (.ref f52)))
 (l52:K.lookup f52=some ⟨oc52,od52,.func (PySem.W.fnOf "is_product" "is_product" (az gp) (ax gp) (ae gp) .none kV52 dc52 pm52 an52 cd52 ct52),sl52⟩) (c52:PySem.W.codeIn K cd52 "is_product"=true) (k52:PySem.W.keepIn K (.ref f52)=true)
 (a53:PySem.W.nsIn K mainGlobals "is_atom"=some (some (.ref f53)))
 (l53:K.lookup f53=some ⟨oc53,od53,.func (PySem.W.fnOf "is_atom" "is_atom" (az gq) (ax gq) (ae gq) .none kV53 dc53 pm53 an53 cd53 ct53),sl53⟩) (c53:PySem.W.codeIn K cd53 "is_atom"=true) (k53:PySem.W.keepIn K (.ref f53)=true)
 (a54:PySem.W.nsIn K mainGlobals "within"=some (some (.ref f54)))
 (l54:K.lookup f54=some ⟨oc54,od54,.func (PySem.W.fnOf "within" "within" (az gc) (ax gc) (ae gc) .none kV54 dc54 pm54 an54 cd54 ct54),sl54⟩) (c54:PySem.W.codeIn K cd54 "within"=true) (k54:PySem.W.keepIn K (.ref f54)=true)
 (a55:PySem.W.nsIn K mainGlobals "product_text"=some (some (.ref f55)))
 (l55:K.lookup f55=some ⟨oc55,od55,.func (PySem.W.fnOf "product_text" "product_text" (az gk) (ax gk) (ae gk) .none kV55 dc55 pm55 an55 cd55 ct55),sl55⟩) (c55:PySem.W.codeIn K cd55 "product_text"=true) (k55:PySem.W.keepIn K (.ref f55)=true)
 (a56:PySem.W.findIn K (.ref CWhole) "text"=some (some (.ref f56))) (i56:PySem.W.isFn K (.ref f56)=true)
 (l56:K.lookup f56=some ⟨oc56,od56,.func (PySem.W.fnOf "text" "Whole.text" (az gu) (ax gu) (ae gu) .none kV56 dc56 pm56 an56 cd56 ct56),sl56⟩) (c56:PySem.W.codeIn K cd56 "Whole.text"=true) (k56:PySem.W.keepIn K (.ref f56)=true)
 (a57:PySem.W.findIn K (.ref CGiven) "text"=some (some (.ref f57))) (i57:PySem.W.isFn K (.ref f57)=true)
 (l57:K.lookup f57=some ⟨oc57,od57,.func (PySem.W.fnOf "text" "Given.text" (az gD) (ax gD) (ae gD) .none kV57 dc57 pm57 an57 cd57 ct57),sl57⟩) (c57:PySem.W.codeIn K cd57 "Given.text"=true) (k57:PySem.W.keepIn K (.ref f57)=true)
 (a58:PySem.W.findIn K (.ref CNamed) "text"=some (some (.ref f58))) (i58:PySem.W.isFn K (.ref f58)=true)
 (l58:K.lookup f58=some ⟨oc58,od58,.func (PySem.W.fnOf "text" "Named.text" (az gA) (ax gA) (ae gA) .none kV58 dc58 pm58 an58 cd58 ct58),sl58⟩) (c58:PySem.W.codeIn K cd58 "Named.text"=true) (k58:PySem.W.keepIn K (.ref f58)=true)
 (a59:PySem.W.findIn K (.ref CMinus) "text"=some (some (.ref f59))) (i59:PySem.W.isFn K (.ref f59)=true)
 (l59:K.lookup f59=some ⟨oc59,od59,.func (PySem.W.fnOf "text" "Minus.text" (az gB) (ax gB) (ae gB) .none kV59 dc59 pm59 an59 cd59 ct59),sl59⟩) (c59:PySem.W.codeIn K cd59 "Minus.text"=true) (k59:PySem.W.keepIn K (.ref f59)=true)
 (a60:PySem.W.findIn K (.ref CSum) "text"=some (some (.ref f60))) (i60:PySem.W.isFn K (.ref f60)=true)
 (l60:K.lookup f60=some ⟨oc60,od60,.func (PySem.W.fnOf "text" "Sum.text" (az gw) (ax gw) (ae gw) .none kV60 dc60 pm60 an60 cd60 ct60),sl60⟩) (c60:PySem.W.codeIn K cd60 "Sum.text"=true) (k60:PySem.W.keepIn K (.ref f60)=true)
 (a61:PySem.W.findIn K (.ref CLess) "text"=some (some (.ref f61))) (i61:PySem.W.isFn K (.ref f61)=true)
 (l61:K.lookup f61=some ⟨oc61,od61,.func (PySem.W.fnOf "text" "Less.text" (az gC) (ax gC) (ae gC) .none kV61 dc61 pm61 an61 cd61 ct61),sl61⟩) (c61:PySem.W.codeIn K cd61 "Less.text"=true) (k61:PySem.W.keepIn K (.ref f61)=true)
 (a62:PySem.W.findIn K (.ref CTimes) "text"=some (some (.ref f62))) (i62:PySem.W.isFn K (.ref f62)=true)
 (l62:K.lookup f62=some ⟨oc62,od62,.func (PySem.W.fnOf "text" "Times.text" (az gv) (ax gv) (ae gv) .none kV62 dc62 pm62 an62 cd62 ct62),sl62⟩) (c62:PySem.W.codeIn K cd62 "Times.text"=true) (k62:PySem.W.keepIn K (.ref f62)=true)
 (a63:PySem.W.findIn K (.ref COver) "text"=some (some (.ref f63))) (i63:PySem.W.isFn K (.ref f63)=true)
 (l63:K.lookup f63=some ⟨oc63,od63,.func (PySem.W.fnOf "text" "Over.text" (az gz) (ax gz) (ae gz) .none kV63 dc63 pm63 an63 cd63 ct63),sl63⟩) (c63:PySem.W.codeIn K cd63 "Over.text"=true) (k63:PySem.W.keepIn K (.ref f63)=true)
 (a64:PySem.W.findIn K (.ref CPower) "text"=some (some (.ref f64))) (i64:PySem.W.isFn K (.ref f64)=true)
 (l64:K.lookup f64=some ⟨oc64,od64,.func (PySem.W.fnOf "text" "Power.text" (az gy) (ax gy) (ae gy) .none kV64 dc64 pm64 an64 cd64 ct64),sl64⟩) (c64:PySem.W.codeIn K cd64 "Power.text"=true) (k64:PySem.W.keepIn K (.ref f64)=true)
 (a65:PySem.W.findIn K (.ref CRooted) "text"=some (some (.ref f65))) (i65:PySem.W.isFn K (.ref f65)=true)
 (l65:K.lookup f65=some ⟨oc65,od65,.func (PySem.W.fnOf "text" "Rooted.text" (az gx) (ax gx) (ae gx) .none kV65 dc65 pm65 an65 cd65 ct65),sl65⟩) (c65:PySem.W.codeIn K cd65 "Rooted.text"=true) (k65:PySem.W.keepIn K (.ref f65)=true)
 (a66:PySem.W.nsIn K mainGlobals "_law_whole"=some (some (.ref f66)))
 (l66:K.lookup f66=some ⟨oc66,od66,.func (PySem.W.fnOf "_law_whole" "_law_whole" (az ko) (ax ko) (ae ko) .none kV66 dc66 pm66 an66 cd66 ct66),sl66⟩) (c66:PySem.W.codeIn K cd66 "_law_whole"=true) (k66:PySem.W.keepIn K (.ref f66)=true)
 (a67:PySem.W.nsIn K mainGlobals "_law_word"=some (some (.ref f67)))
 (l67:K.lookup f67=some ⟨oc67,od67,.func (PySem.W.fnOf "_law_word" "_law_word" (az km) (ax km) (ae km) .none kV67 dc67 pm67 an67 cd67 ct67),sl67⟩) (c67:PySem.W.codeIn K cd67 "_law_word"=true) (k67:PySem.W.keepIn K (.ref f67)=true)
 (a68:PySem.W.nsIn K mainGlobals "_law_given"=some (some (.ref f68)))
 (l68:K.lookup f68=some ⟨oc68,od68,.func (PySem.W.fnOf "_law_given" "_law_given" (az kx) (ax kx) (ae kx) .none kV68 dc68 pm68 an68 cd68 ct68),sl68⟩) (c68:PySem.W.codeIn K cd68 "_law_given"=true) (k68:PySem.W.keepIn K (.ref f68)=true)
 (a69:PySem.W.nsIn K mainGlobals "_law_power"=some (some (.ref f69)))
 (l69:K.lookup f69=some ⟨oc69,od69,.func (PySem.W.fnOf "_law_power" "_law_power" (az kt) (ax kt) (ae kt) .none kV69 dc69 pm69 an69 cd69 ct69),sl69⟩) (c69:PySem.W.codeIn K cd69 "_law_power"=true) (k69:PySem.W.keepIn K (.ref f69)=true)
 (a70:PySem.W.nsIn K mainGlobals "_law_poly_text"=some (some (.ref f70)))
 (l70:K.lookup f70=some ⟨oc70,od70,.func (PySem.W.fnOf "_law_poly_text" "_law_poly_text" (az ku) (ax ku) (ae ku) .none kV70 dc70 pm70 an70 cd70 ct70),sl70⟩) (c70:PySem.W.codeIn K cd70 "_law_poly_text"=true) (k70:PySem.W.keepIn K (.ref f70)=true)
 (a71:PySem.W.nsIn K mainGlobals "_law_half"=some (some (.ref f71)))
 (l71:K.lookup f71=some ⟨oc71,od71,.func (PySem.W.fnOf "_law_half" "_law_half" (az kv) (ax kv) (ae kv) .none kV71 dc71 pm71 an71 cd71 ct71),sl71⟩) (c71:PySem.W.codeIn K cd71 "_law_half"=true) (k71:PySem.W.keepIn K (.ref f71)=true)
 (a72:PySem.W.nsIn K mainGlobals "_law_atom"=some (some (.ref f72)))
 (l72:K.lookup f72=some ⟨oc72,od72,.func (PySem.W.fnOf "_law_atom" "_law_atom" (az kB) (ax kB) (ae kB) .none kV72 dc72 pm72 an72 cd72 ct72),sl72⟩) (c72:PySem.W.codeIn K cd72 "_law_atom"=true) (k72:PySem.W.keepIn K (.ref f72)=true)
 (a73:PySem.W.nsIn K mainGlobals "_law_within"=some (some (.ref f73)))
 (l73:K.lookup f73=some ⟨oc73,od73,.func (PySem.W.fnOf "_law_within" "_law_within" (az kn) (ax kn) (ae kn) .none kV73 dc73 pm73 an73 cd73 ct73),sl73⟩) (c73:PySem.W.codeIn K cd73 "_law_within"=true) (k73:PySem.W.keepIn K (.ref f73)=true)
 (a74:PySem.W.nsIn K mainGlobals "_law_alone"=some (some (.ref f74)))
 (l74:K.lookup f74=some ⟨oc74,od74,.func (PySem.W.fnOf "_law_alone" "_law_alone" (az kC) (ax kC) (ae kC) .none kV74 dc74 pm74 an74 cd74 ct74),sl74⟩) (c74:PySem.W.codeIn K cd74 "_law_alone"=true) (k74:PySem.W.keepIn K (.ref f74)=true)
 (a75:PySem.W.nsIn K mainGlobals "_law_both"=some (some (.ref f75)))
 (l75:K.lookup f75=some ⟨oc75,od75,.func (PySem.W.fnOf "_law_both" "_law_both" (az kA) (ax kA) (ae kA) .none kV75 dc75 pm75 an75 cd75 ct75),sl75⟩) (c75:PySem.W.codeIn K cd75 "_law_both"=true) (k75:PySem.W.keepIn K (.ref f75)=true)
 (a76:PySem.W.nsIn K mainGlobals "_law_fits"=some (some (.ref f76)))
 (l76:K.lookup f76=some ⟨oc76,od76,.func (PySem.W.fnOf "_law_fits" "_law_fits" (az ky) (ax ky) (ae ky) .none kV76 dc76 pm76 an76 cd76 ct76),sl76⟩) (c76:PySem.W.codeIn K cd76 "_law_fits"=true) (k76:PySem.W.keepIn K (.ref f76)=true)
 (a77:PySem.W.nsIn K mainGlobals "_law_drawn"=some (some (.ref f77)))
 (l77:K.lookup f77=some ⟨oc77,od77,.func (PySem.W.fnOf "_law_drawn" "_law_drawn" (az kz) (ax kz) (ae kz) .none kV77 dc77 pm77 an77 cd77 ct77),sl77⟩) (c77:PySem.W.codeIn K cd77 "_law_drawn"=true) (k77:PySem.W.keepIn K (.ref f77)=true)
 (a78:PySem.W.nsIn K mainGlobals "_law_made"=some (some (.ref f78)))
 (l78:K.lookup f78=some ⟨oc78,od78,.func (PySem.W.fnOf "_law_made" "_law_made" (az gs) (ax gs) (ae gs) .none kV78 dc78 pm78 an78 cd78 ct78),sl78⟩) (c78:PySem.W.codeIn K cd78 "_law_made"=true) (k78:PySem.W.keepIn K (.ref f78)=true)
 (a79:PySem.W.nsIn K mainGlobals "_law_ratio"=some (some (.ref f79)))
 (l79:K.lookup f79=some ⟨oc79,od79,.func (PySem.W.fnOf "_law_ratio" "_law_ratio" (az kq) (ax kq) (ae kq) .none kV79 dc79 pm79 an79 cd79 ct79),sl79⟩) (c79:PySem.W.codeIn K cd79 "_law_ratio"=true) (k79:PySem.W.keepIn K (.ref f79)=true)
 (a80:PySem.W.nsIn K mainGlobals "_law_like_leaf"=some (some (.ref f80)))
 (l80:K.lookup f80=some ⟨oc80,od80,.func (PySem.W.fnOf "_law_like_leaf" "_law_like_leaf" (az hV) (ax hV) (ae hV) .none kV80 dc80 pm80 an80 cd80 ct80),sl80⟩) (c80:PySem.W.codeIn K cd80 "_law_like_leaf"=true) (k80:PySem.W.keepIn K (.ref f80)=true)
 (a81:PySem.W.nsIn K mainGlobals "_law_like"=some (some (.ref f81)))
 (l81:K.lookup f81=some ⟨oc81,od81,.func (PySem.W.fnOf "_law_like" "_law_like" (az gt) (ax gt) (ae gt) .none kV81 dc81 pm81 an81 cd81 ct81),sl81⟩) (c81:PySem.W.codeIn K cd81 "_law_like"=true) (k81:PySem.W.keepIn K (.ref f81)=true)
 (a82:PySem.W.nsIn K mainGlobals "law"=some (some (.ref f82)))
 (l82:K.lookup f82=some ⟨oc82,od82,.func (PySem.W.fnOf "law" "law" (az gl) (ax gl) (ae gl) .none kV82 dc82 pm82 an82 cd82 ct82),sl82⟩) (c82:PySem.W.codeIn K cd82 "law"=true) (k82:PySem.W.keepIn K (.ref f82)=true)
 (z0:PySem.W.nsIn K mainGlobals "len"=some none)
 (z1:PySem.W.nsIn K mainGlobals "all"=some none)
 (z2:PySem.W.nsIn K mainGlobals "abs"=some none)
 (z3:PySem.W.nsIn K mainGlobals "str"=some none)
 (z4:PySem.W.nsIn K mainGlobals "max"=some none)
 (z5:PySem.W.nsIn K mainGlobals "range"=some none)
 (z6:PySem.W.nsIn K mainGlobals "list"=some none)
 (z7:PySem.W.nsIn K mainGlobals "isinstance"=some none)
 (z8:PySem.W.nsIn K mainGlobals "int"=some none)
 (z9:PySem.W.nsIn K mainGlobals "bool"=some none)
 (aI_LONGEST:PySem.W.nsIn K mainGlobals "LONGEST"=some (some (.int 8 tk_LONGEST)))
 (aI_DEEPEST:PySem.W.nsIn K mainGlobals "DEEPEST"=some (some (.int 10 tk_DEEPEST)))
 (aI_FIGURES:PySem.W.nsIn K mainGlobals "FIGURES"=some (some (.str "0123456789" tk_FIGURES)))
 (aI_LETTERS:PySem.W.nsIn K mainGlobals "LETTERS"=some (some (.str "abcdefghijklmnopqrstuvwxyz" tk_LETTERS)))
 (aI_WORDS:PySem.W.nsIn K mainGlobals "WORDS"=some (some (.ref tp_WORDS)))
 (lI_WORDS:K.lookup tp_WORDS=some ⟨.type "tuple",odtp_WORDS,.seq #[.str "x" tk_WORDS_0,.str "sqrt" tk_WORDS_1,.str "cbrt" tk_WORDS_2,.str "root" tk_WORDS_3] ntp_WORDS,sltp_WORDS⟩)
 (aI_EXPONENTS:PySem.W.nsIn K mainGlobals "EXPONENTS"=some (some (.ref tp_EXPONENTS)))
 (lI_EXPONENTS:K.lookup tp_EXPONENTS=some ⟨.type "tuple",odtp_EXPONENTS,.seq #[.str "0" tk_EXPONENTS_0,.str "1" tk_EXPONENTS_1,.str "2" tk_EXPONENTS_2,.str "3" tk_EXPONENTS_3,.str "4" tk_EXPONENTS_4,.str "5" tk_EXPONENTS_5,.str "6" tk_EXPONENTS_6,.str "7" tk_EXPONENTS_7,.str "8" tk_EXPONENTS_8] ntp_EXPONENTS,sltp_EXPONENTS⟩)
 : ∃fd:FuncData,(∀(s:Shared) (v:Value),BindsTo s fd ⟨[v],[]⟩ [("_law_script",v)])/\∀base:Heap,K.In base->base.Ns mainGlobals mg->FnOk l.prog w K mg base CX0 183 fa fd ["_law_script"] (oB K):=by
 have e:=hfa.symm.trans (PySem.W.mg_of X G a82);cases e;have T:Txt K mg:=⟨PySem.W.mg_none_of X G z0,PySem.W.mg_none_of X G z1,PySem.W.mg_none_of X G z2,PySem.W.mg_none_of X G z3,PySem.W.mg_none_of X G z4,PySem.W.mg_none_of X G z5,PySem.W.mg_none_of X G z6,PySem.W.mg_none_of X G z7,PySem.W.mg_none_of X G z8,PySem.W.mg_none_of X G z9,⟨_,PySem.W.mg_of X G aI_LONGEST⟩,⟨_,PySem.W.mg_of X G aI_DEEPEST⟩,⟨_,PySem.W.mg_of X G aI_FIGURES⟩,⟨_,PySem.W.mg_of X G aI_LETTERS⟩,⟨_,PySem.W.mg_of X G aI_WORDS,λH=>.inr ⟨_,_,_,lI_WORDS,rfl,rfl,by show 4<=sizeLine;decide,.cons ⟨_,rfl⟩ (.cons ⟨_,rfl⟩ (.cons ⟨_,rfl⟩ (.cons ⟨_,rfl⟩ (.nil))))⟩⟩,⟨_,PySem.W.mg_of X G aI_EXPONENTS,λH=>.inr ⟨_,_,_,lI_EXPONENTS,rfl,rfl,by show 9<=sizeLine;decide,.cons ⟨_,rfl⟩ (.cons ⟨_,rfl⟩ (.cons ⟨_,rfl⟩ (.cons ⟨_,rfl⟩ (.cons ⟨_,rfl⟩ (.cons ⟨_,rfl⟩ (.cons ⟨_,rfl⟩ (.cons ⟨_,rfl⟩ (.cons ⟨_,rfl⟩ (.nil)))))))))⟩⟩⟩;have R1:QC K mg CC1:=⟨⟨pg1,hd1,po1,sa1⟩,n1_marks,n1_end,n1_done,n1_depth,PySem.W.mg_of X G aC1⟩;have R2:RCI K mg CRatio:=⟨⟨pg2,hd2,po2,sa2⟩,n2_top,n2_bottom,PySem.W.mg_of X G aC2,ha2,hn2,ht2,hm2⟩;have R3:PCI K mg CWhole "Whole" ["value"]:=⟨⟨pg3,hd3,po3,sa3⟩,Kn.mpr ⟨n3_value,Ky _⟩,PySem.W.mg_of X G aC3,ha3,hn3,ht3,hm3⟩;have R4:PCI K mg CNamed "Named" ["word"]:=⟨⟨pg4,hd4,po4,sa4⟩,Kn.mpr ⟨n4_word,Ky _⟩,PySem.W.mg_of X G aC4,ha4,hn4,ht4,hm4⟩;have R5:GCI K mg CGiven:=⟨⟨pg5,hd5,po5,sa5⟩,n5_poly,n5_low,n5_high,PySem.W.mg_of X G aC5,ha5,hn5,ht5,hm5⟩;have R6:PCI K mg CMinus "Minus" ["one"]:=⟨⟨pg6,hd6,po6,sa6⟩,Kn.mpr ⟨n6_one,Ky _⟩,PySem.W.mg_of X G aC6,ha6,hn6,ht6,hm6⟩;have R7:PCI K mg CSum "Sum" ["one","other"]:=⟨⟨pg7,hd7,po7,sa7⟩,Kn.mpr ⟨n7_one,Kn.mpr ⟨n7_other,Ky _⟩⟩,PySem.W.mg_of X G aC7,ha7,hn7,ht7,hm7⟩;have R8:PCI K mg CLess "Less" ["one","other"]:=⟨⟨pg8,hd8,po8,sa8⟩,Kn.mpr ⟨n8_one,Kn.mpr ⟨n8_other,Ky _⟩⟩,PySem.W.mg_of X G aC8,ha8,hn8,ht8,hm8⟩;have R9:PCI K mg CTimes "Times" ["one","other"]:=⟨⟨pg9,hd9,po9,sa9⟩,Kn.mpr ⟨n9_one,Kn.mpr ⟨n9_other,Ky _⟩⟩,PySem.W.mg_of X G aC9,ha9,hn9,ht9,hm9⟩;have R10:PCI K mg COver "Over" ["one","other"]:=⟨⟨pg10,hd10,po10,sa10⟩,Kn.mpr ⟨n10_one,Kn.mpr ⟨n10_other,Ky _⟩⟩,PySem.W.mg_of X G aC10,ha10,hn10,ht10,hm10⟩;have R11:PCI K mg CPower "Power" ["one","power"]:=⟨⟨pg11,hd11,po11,sa11⟩,Kn.mpr ⟨n11_one,Kn.mpr ⟨n11_power,Ky _⟩⟩,PySem.W.mg_of X G aC11,ha11,hn11,ht11,hm11⟩;have R12:PCI K mg CRooted "Rooted" ["one","power"]:=⟨⟨pg12,hd12,po12,sa12⟩,Kn.mpr ⟨n12_one,Kn.mpr ⟨n12_power,Ky _⟩⟩,PySem.W.mg_of X G aC12,ha12,hn12,ht12,hm12⟩;have F1:=aB (st:=jV) l1 c1 k1;have b1:=F1.binds (ps:=["one","other"]) λ_ _ _ _ _ _ us hl=>match us,hl with | [_,_],_=>rfl
 have F2:=Gf (st:=kR) l2 c2 k2;have b2:=FunD.bindsD (ps:=["self","top","bottom"]) (ds:=[]) (tup:=[.int 1 tk2_0]) 3 F2 t2 rfl rfl λ_ _ _ _ _ _ us hl=>match us,hl with | [_,_,_],_=>⟨_,rfl,rfl⟩
 have bD2:=FunD.bindsD (ps:=["self","top","bottom"]) (ds:=[.int 1 tk2_0]) (tup:=[.int 1 tk2_0]) 2 F2 t2 rfl rfl λ_ _ _ _ _ _ us hl=>match us,hl with | [_,_],_=>⟨_,rfl,rfl⟩
 have F3:=aB (st:=kD) l3 c3 k3;have b3:=F3.binds (ps:=["self","value"]) λ_ _ _ _ _ _ us hl=>match us,hl with | [_,_],_=>rfl
 have F4:=aB (st:=kW) l4 c4 k4;have b4:=F4.binds (ps:=["self","word"]) λ_ _ _ _ _ _ us hl=>match us,hl with | [_,_],_=>rfl
 have F5:=aB (st:=kZ) l5 c5 k5;have b5:=F5.binds (ps:=["self","row","low","high"]) λ_ _ _ _ _ _ us hl=>match us,hl with | [_,_,_,_],_=>rfl
 have F6:=aB (st:=kX) l6 c6 k6;have b6:=F6.binds (ps:=["self","one"]) λ_ _ _ _ _ _ us hl=>match us,hl with | [_,_],_=>rfl
 have F7:=aB (st:=kF) l7 c7 k7;have b7:=F7.binds (ps:=["self","one","other"]) λ_ _ _ _ _ _ us hl=>match us,hl with | [_,_,_],_=>rfl
 have F8:=aB (st:=kY) l8 c8 k8;have b8:=F8.binds (ps:=["self","one","other"]) λ_ _ _ _ _ _ us hl=>match us,hl with | [_,_,_],_=>rfl
 have F9:=aB (st:=kE) l9 c9 k9;have b9:=F9.binds (ps:=["self","one","other"]) λ_ _ _ _ _ _ us hl=>match us,hl with | [_,_,_],_=>rfl
 have F10:=aB (st:=kT) l10 c10 k10;have b10:=F10.binds (ps:=["self","one","other"]) λ_ _ _ _ _ _ us hl=>match us,hl with | [_,_,_],_=>rfl
 have F11:=aB (st:=kS) l11 c11 k11;have b11:=F11.binds (ps:=["self","one","exponent"]) λ_ _ _ _ _ _ us hl=>match us,hl with | [_,_,_],_=>rfl
 have F12:=aB (st:=kG) l12 c12 k12;have b12:=F12.binds (ps:=["self","one","exponent"]) λ_ _ _ _ _ _ us hl=>match us,hl with | [_,_,_],_=>rfl
 have F13:=aB (st:=j8) l13 c13 k13;have b13:=F13.binds (ps:=["row"]) λ_ _ _ _ _ _ us hl=>match us,hl with | [_],_=>rfl
 have F14:=aB (st:=ki) l14 c14 k14;have b14:=F14.binds (ps:=["row","place"]) λ_ _ _ _ _ _ us hl=>match us,hl with | [_,_],_=>rfl
 have F15:=aB (st:=kj) l15 c15 k15;have b15:=F15.binds (ps:=["first","second"]) λ_ _ _ _ _ _ us hl=>match us,hl with | [_,_],_=>rfl
 have F16:=aB (st:=jW) l16 c16 k16;have b16:=F16.binds (ps:=["text","at","signs"]) λ_ _ _ _ _ _ us hl=>match us,hl with | [_,_,_],_=>rfl
 have F17:=aB (st:=ka) l17 c17 k17;have b17:=F17.binds (ps:=["text","at"]) λ_ _ _ _ _ _ us hl=>match us,hl with | [_,_],_=>rfl
 have F18:=aB (st:=j9) l18 c18 k18;have b18:=F18.binds (ps:=["text"]) λ_ _ _ _ _ _ us hl=>match us,hl with | [_],_=>rfl
 have F19:=aB (st:=kU) l19 c19 k19;have b19:=F19.binds (ps:=["self","at"]) λ_ _ _ _ _ _ us hl=>match us,hl with | [_,_],_=>rfl
 have F20:=aB (st:=kP) l20 c20 k20;have b20:=F20.binds (ps:=["self","text"]) λ_ _ _ _ _ _ us hl=>match us,hl with | [_,_],_=>rfl
 have F21:=aB (st:=kI) l21 c21 k21;have b21:=F21.binds (ps:=["self"]) λ_ _ _ _ _ _ us hl=>match us,hl with | [_],_=>rfl
 have F22:=aB (st:=kO) l22 c22 k22;have b22:=F22.binds (ps:=["self"]) λ_ _ _ _ _ _ us hl=>match us,hl with | [_],_=>rfl
 have F23:=aB (st:=kH) l23 c23 k23;have b23:=F23.binds (ps:=["self"]) λ_ _ _ _ _ _ us hl=>match us,hl with | [_],_=>rfl
 have F24:=aB (st:=kJ) l24 c24 k24;have b24:=F24.binds (ps:=["self","mark"]) λ_ _ _ _ _ _ us hl=>match us,hl with | [_,_],_=>rfl
 have F25:=aB (st:=kN) l25 c25 k25;have b25:=F25.binds (ps:=["self","mark"]) λ_ _ _ _ _ _ us hl=>match us,hl with | [_,_],_=>rfl
 have F26:=aB (st:=kM) l26 c26 k26;have b26:=F26.binds (ps:=["self"]) λ_ _ _ _ _ _ us hl=>match us,hl with | [_],_=>rfl
 have F27:=aB (st:=kK) l27 c27 k27;have b27:=F27.binds (ps:=["self"]) λ_ _ _ _ _ _ us hl=>match us,hl with | [_],_=>rfl
 have F28:=aB (st:=kL) l28 c28 k28;have b28:=F28.binds (ps:=["self"]) λ_ _ _ _ _ _ us hl=>match us,hl with | [_],_=>rfl
 have F29:=aB (st:=ke) l29 c29 k29;have b29:=F29.binds (ps:=["word","signs"]) λ_ _ _ _ _ _ us hl=>match us,hl with | [_,_],_=>rfl
 have F30:=aB (st:=kf) l30 c30 k30;have b30:=F30.binds (ps:=["word"]) λ_ _ _ _ _ _ us hl=>match us,hl with | [_],_=>rfl
 have F31:=aB (st:=kg) l31 c31 k31;have b31:=F31.binds (ps:=["word"]) λ_ _ _ _ _ _ us hl=>match us,hl with | [_],_=>rfl
 have F32:=aB (st:=jX) l32 c32 k32;have b32:=F32.binds (ps:=["reading"]) λ_ _ _ _ _ _ us hl=>match us,hl with | [_],_=>rfl
 have F33:=aB (st:=j4) l33 c33 k33;have b33:=F33.binds (ps:=["reading"]) λ_ _ _ _ _ _ us hl=>match us,hl with | [_],_=>rfl
 have F34:=aB (st:=j5) l34 c34 k34;have b34:=F34.binds (ps:=["reading"]) λ_ _ _ _ _ _ us hl=>match us,hl with | [_],_=>rfl
 have F35:=aB (st:=j0) l35 c35 k35;have b35:=F35.binds (ps:=["reading"]) λ_ _ _ _ _ _ us hl=>match us,hl with | [_],_=>rfl
 have F36:=aB (st:=jZ) l36 c36 k36;have b36:=F36.binds (ps:=["reading","sign"]) λ_ _ _ _ _ _ us hl=>match us,hl with | [_,_],_=>rfl
 have F37:=aB (st:=jY) l37 c37 k37;have b37:=F37.binds (ps:=["reading"]) λ_ _ _ _ _ _ us hl=>match us,hl with | [_],_=>rfl
 have F38:=aB (st:=j3) l38 c38 k38;have b38:=F38.binds (ps:=["reading"]) λ_ _ _ _ _ _ us hl=>match us,hl with | [_],_=>rfl
 have F39:=aB (st:=gh) l39 c39 k39;have b39:=F39.binds (ps:=["reading"]) λ_ _ _ _ _ _ us hl=>match us,hl with | [_],_=>rfl
 have F40:=aB (st:=gj) l40 c40 k40;have b40:=F40.binds (ps:=["reading"]) λ_ _ _ _ _ _ us hl=>match us,hl with | [_],_=>rfl
 have F41:=aB (st:=gf) l41 c41 k41;have b41:=F41.binds (ps:=["reading"]) λ_ _ _ _ _ _ us hl=>match us,hl with | [_],_=>rfl
 have F42:=aB (st:=gg) l42 c42 k42;have b42:=F42.binds (ps:=["reading"]) λ_ _ _ _ _ _ us hl=>match us,hl with | [_],_=>rfl
 have F43:=aB (st:=gd) l43 c43 k43;have b43:=F43.binds (ps:=["reading"]) λ_ _ _ _ _ _ us hl=>match us,hl with | [_],_=>rfl
 have F44:=aB (st:=fO) l44 c44 k44;have b44:=F44.binds (ps:=["reading"]) λ_ _ _ _ _ _ us hl=>match us,hl with | [_],_=>rfl
 have F45:=aB (st:=j6) l45 c45 k45;have b45:=F45.binds (ps:=["text"]) λ_ _ _ _ _ _ us hl=>match us,hl with | [_],_=>rfl
 have F46:=aB (st:=jT) l46 c46 k46;have b46:=F46.binds (ps:=["value"]) λ_ _ _ _ _ _ us hl=>match us,hl with | [_],_=>rfl
 have F47:=aB (st:=kh) l47 c47 k47;have b47:=F47.binds (ps:=["row"]) λ_ _ _ _ _ _ us hl=>match us,hl with | [_],_=>rfl
 have F48:=aB (st:=jU) l48 c48 k48;have b48:=F48.binds (ps:=["size","place"]) λ_ _ _ _ _ _ us hl=>match us,hl with | [_,_],_=>rfl
 have F49:=aB (st:=j7) l49 c49 k49;have b49:=F49.binds (ps:=["row"]) λ_ _ _ _ _ _ us hl=>match us,hl with | [_],_=>rfl
 have F50:=aB (st:=kQ) l50 c50 k50;have b50:=F50.binds (ps:=["self"]) λ_ _ _ _ _ _ us hl=>match us,hl with | [_],_=>rfl
 have F51:=aB (st:=gm) l51 c51 k51;have b51:=F51.binds (ps:=["tree"]) λ_ _ _ _ _ _ us hl=>match us,hl with | [_],_=>rfl
 have F52:=aB (st:=gp) l52 c52 k52;have b52:=F52.binds (ps:=["tree"]) λ_ _ _ _ _ _ us hl=>match us,hl with | [_],_=>rfl
 have F53:=aB (st:=gq) l53 c53 k53;have b53:=F53.binds (ps:=["tree"]) λ_ _ _ _ _ _ us hl=>match us,hl with | [_],_=>rfl
 have F54:=aB (st:=gc) l54 c54 k54;have b54:=F54.binds (ps:=["tree","bare"]) λ_ _ _ _ _ _ us hl=>match us,hl with | [_,_],_=>rfl
 have F55:=aB (st:=gk) l55 c55 k55;have b55:=F55.binds (ps:=["one","mark","other"]) λ_ _ _ _ _ _ us hl=>match us,hl with | [_,_,_],_=>rfl
 have F56:=aB (st:=gu) l56 c56 k56;have b56:=F56.binds (ps:=["self"]) λ_ _ _ _ _ _ us hl=>match us,hl with | [_],_=>rfl
 have F57:=aB (st:=gD) l57 c57 k57;have b57:=F57.binds (ps:=["self"]) λ_ _ _ _ _ _ us hl=>match us,hl with | [_],_=>rfl
 have F58:=aB (st:=gA) l58 c58 k58;have b58:=F58.binds (ps:=["self"]) λ_ _ _ _ _ _ us hl=>match us,hl with | [_],_=>rfl
 have F59:=aB (st:=gB) l59 c59 k59;have b59:=F59.binds (ps:=["self"]) λ_ _ _ _ _ _ us hl=>match us,hl with | [_],_=>rfl
 have F60:=aB (st:=gw) l60 c60 k60;have b60:=F60.binds (ps:=["self"]) λ_ _ _ _ _ _ us hl=>match us,hl with | [_],_=>rfl
 have F61:=aB (st:=gC) l61 c61 k61;have b61:=F61.binds (ps:=["self"]) λ_ _ _ _ _ _ us hl=>match us,hl with | [_],_=>rfl
 have F62:=aB (st:=gv) l62 c62 k62;have b62:=F62.binds (ps:=["self"]) λ_ _ _ _ _ _ us hl=>match us,hl with | [_],_=>rfl
 have F63:=aB (st:=gz) l63 c63 k63;have b63:=F63.binds (ps:=["self"]) λ_ _ _ _ _ _ us hl=>match us,hl with | [_],_=>rfl
 have F64:=aB (st:=gy) l64 c64 k64;have b64:=F64.binds (ps:=["self"]) λ_ _ _ _ _ _ us hl=>match us,hl with | [_],_=>rfl
 have F65:=aB (st:=gx) l65 c65 k65;have b65:=F65.binds (ps:=["self"]) λ_ _ _ _ _ _ us hl=>match us,hl with | [_],_=>rfl
 have F66:=aB (st:=ko) l66 c66 k66;have b66:=F66.binds (ps:=["_law_found"]) λ_ _ _ _ _ _ us hl=>match us,hl with | [_],_=>rfl
 have F67:=aB (st:=km) l67 c67 k67;have b67:=F67.binds (ps:=["_law_cell"]) λ_ _ _ _ _ _ us hl=>match us,hl with | [_],_=>rfl
 have F68:=aB (st:=kx) l68 c68 k68;have b68:=F68.binds (ps:=["_law_cell"]) λ_ _ _ _ _ _ us hl=>match us,hl with | [_],_=>rfl
 have F69:=aB (st:=kt) l69 c69 k69;have b69:=F69.binds (ps:=["_law_k"]) λ_ _ _ _ _ _ us hl=>match us,hl with | [_],_=>rfl
 have F70:=aB (st:=ku) l70 c70 k70;have b70:=F70.binds (ps:=["_law_kp"]) λ_ _ _ _ _ _ us hl=>match us,hl with | [_],_=>rfl
 have F71:=aB (st:=kv) l71 c71 k71;have b71:=F71.binds (ps:=["_law_many"]) λ_ _ _ _ _ _ us hl=>match us,hl with | [_],_=>rfl
 have F72:=aB (st:=kB) l72 c72 k72;have b72:=F72.binds (ps:=["_law_cell"]) λ_ _ _ _ _ _ us hl=>match us,hl with | [_],_=>rfl
 have F73:=aB (st:=kn) l73 c73 k73;have b73:=F73.binds (ps:=["_law_one","_law_rank"]) λ_ _ _ _ _ _ us hl=>match us,hl with | [_,_],_=>rfl
 have F74:=aB (st:=kC) l74 c74 k74;have b74:=F74.binds (ps:=["_law_one","_law_cell"]) λ_ _ _ _ _ _ us hl=>match us,hl with | [_,_],_=>rfl
 have F75:=aB (st:=kA) l75 c75 k75;have b75:=F75.binds (ps:=["_law_one","_law_other","_law_cell"]) λ_ _ _ _ _ _ us hl=>match us,hl with | [_,_,_],_=>rfl
 have F76:=aB (st:=ky) l76 c76 k76;have b76:=F76.binds (ps:=["_law_one"]) λ_ _ _ _ _ _ us hl=>match us,hl with | [_],_=>rfl
 have F77:=aB (st:=kz) l77 c77 k77;have b77:=F77.binds (ps:=["_law_deeds"]) λ_ _ _ _ _ _ us hl=>match us,hl with | [_],_=>rfl
 have F78:=aB (st:=gs) l78 c78 k78;have b78:=F78.binds (ps:=["_law_tree"]) λ_ _ _ _ _ _ us hl=>match us,hl with | [_],_=>rfl
 have F79:=aB (st:=kq) l79 c79 k79;have b79:=F79.binds (ps:=["_law_r","_law_top","_law_bottom"]) λ_ _ _ _ _ _ us hl=>match us,hl with | [_,_,_],_=>rfl
 have F80:=aB (st:=hV) l80 c80 k80;have b80:=F80.binds (ps:=["_law_found","_law_tree"]) λ_ _ _ _ _ _ us hl=>match us,hl with | [_,_],_=>rfl
 have F81:=aB (st:=gt) l81 c81 k81;have b81:=F81.binds (ps:=["_law_found","_law_tree"]) λ_ _ _ _ _ _ us hl=>match us,hl with | [_,_],_=>rfl
 have F82:=aB (st:=gl) l82 c82 k82;have b82:=F82.binds (ps:=["_law_script"]) λ_ _ _ _ _ _ us hl=>match us,hl with | [_],_=>rfl
 refine⟨PySem.W.fnOf "law" "law" (az gl) (ax gl) (ae gl) .none kV82 dc82 pm82 an82 cd82 ct82,λs v=>.of_eq rfl,λbase KB GB=>?_⟩;have XE:EXC K mg base CNoText:=⟨PySem.W.mg_of X G aENoText⟩;have C1:Cal l.prog w K mg base 1 "shared_by_two" ["one","other"] sp2 _ _:=⟨Cb F1 T  ,PySem.W.mg_of X G a1,k1,b1⟩;have K2:KCal l.prog w K mg base 2 CRatio "Ratio" ["self","top","bottom"] (iU CRatio) _ _ _ [.int 1]:=⟨Dm F2 T R2 C1,⟨mk2,a2,i2,kc2⟩,PySem.W.mg_of X G aC2,b2,bD2,.cons ⟨_,rfl⟩ .nil⟩;have K3:KCal l.prog w K mg base 1 CWhole "Whole" ["self","value"] (bE CWhole "value") _ _ _ []:=⟨C5 F3 T R3 ,⟨mk3,a3,i3,kc3⟩,PySem.W.mg_of X G aC3,b3,b3,.nil⟩;have K4:KCal l.prog w K mg base 1 CNamed "Named" ["self","word"] (bE CNamed "word") _ _ _ []:=⟨Dt F4 T R4 ,⟨mk4,a4,i4,kc4⟩,PySem.W.mg_of X G aC4,b4,b4,.nil⟩;have K5:KCal l.prog w K mg base 1 CGiven "Given" ["self","row","low","high"] (jO CGiven) _ _ _ []:=⟨Dz F5 T R5 ,⟨mk5,a5,i5,kc5⟩,PySem.W.mg_of X G aC5,b5,b5,.nil⟩;have K6:KCal l.prog w K mg base 1 CMinus "Minus" ["self","one"] (bE CMinus "one") _ _ _ []:=⟨Dv F6 T R6 ,⟨mk6,a6,i6,kc6⟩,PySem.W.mg_of X G aC6,b6,b6,.nil⟩;have K7:KCal l.prog w K mg base 1 CSum "Sum" ["self","one","other"] (aP CSum "one" "other") _ _ _ []:=⟨C9 F7 T R7 ,⟨mk7,a7,i7,kc7⟩,PySem.W.mg_of X G aC7,b7,b7,.nil⟩;have K8:KCal l.prog w K mg base 1 CLess "Less" ["self","one","other"] (aP CLess "one" "other") _ _ _ []:=⟨Dx F8 T R8 ,⟨mk8,a8,i8,kc8⟩,PySem.W.mg_of X G aC8,b8,b8,.nil⟩;have K9:KCal l.prog w K mg base 1 CTimes "Times" ["self","one","other"] (aP CTimes "one" "other") _ _ _ []:=⟨C7 F9 T R9 ,⟨mk9,a9,i9,kc9⟩,PySem.W.mg_of X G aC9,b9,b9,.nil⟩;have K10:KCal l.prog w K mg base 1 COver "Over" ["self","one","other"] (aP COver "one" "other") _ _ _ []:=⟨Dq F10 T R10 ,⟨mk10,a10,i10,kc10⟩,PySem.W.mg_of X G aC10,b10,b10,.nil⟩;have K11:KCal l.prog w K mg base 1 CPower "Power" ["self","one","exponent"] (aP CPower "one" "power") _ _ _ []:=⟨Do F11 T R11 ,⟨mk11,a11,i11,kc11⟩,PySem.W.mg_of X G aC11,b11,b11,.nil⟩;have K12:KCal l.prog w K mg base 1 CRooted "Rooted" ["self","one","exponent"] (aP CRooted "one" "power") _ _ _ []:=⟨Db F12 T R12 ,⟨mk12,a12,i12,kc12⟩,PySem.W.mg_of X G aC12,b12,b12,.nil⟩;have C13:Cal l.prog w K mg base 1 "poly" ["row"] (oy K) _ _:=⟨Ct F13 T  ,PySem.W.mg_of X G a13,k13,b13⟩;have C14:Cal l.prog w K mg base 1 "coefficient" ["row","place"] (qJ K) _ _:=⟨CI F14 T  ,PySem.W.mg_of X G a14,k14,b14⟩;have C15:Cal l.prog w K mg base 2 "added" ["first","second"] (qN K fX) _ _:=⟨CJ F15 T  C13 C14,PySem.W.mg_of X G a15,k15,b15⟩;have C16:Cal l.prog w K mg base 1 "run_end" ["text","at","signs"] qh _ _:=⟨Cc F16 T  ,PySem.W.mg_of X G a16,k16,b16⟩;have C17:Cal l.prog w K mg base 2 "mark_end" ["text","at"] qu _ _:=⟨Cv F17 T  C16,PySem.W.mg_of X G a17,k17,b17⟩;have C18:Cal l.prog w K mg base 3 "marks_of" ["text"] qr _ _:=⟨Cu F18 T  C17,PySem.W.mg_of X G a18,k18,b18⟩;have C19:XCal l.prog w K mg base 1 CNoText "NoText" "at" ["self","at"] _ _:=⟨Dr F19 T (XCls.of yCNoText) yNNoText,BZ KB GB aENoText yXNoText,yKNoText,b19,XCls.of yCNoText,⟨HJ e6NoText,e0NoText,e1NoText,e2NoText,e3NoText,e4NoText,e5NoText,e6NoText⟩,yNNoText⟩;have K1:KCal l.prog w K mg base 4 CC1 "Reading" ["self","text"] (qg CC1) _ _ _ []:=⟨Dk F20 T R1 C18,⟨mk1,a20,i20,kc1⟩,PySem.W.mg_of X G aC1,b20,b20,.nil⟩;have C21:MCal l.prog w K mg base 1 CC1 "seen" ["self"] (cN CC1) _ _:=⟨Dd F21 T R1 ,⟨a21,i21,k21⟩,b21⟩;have C22:MCal l.prog w K mg base 1 CC1 "begin" ["self"] (hU CC1) _ _:=⟨Dj F22 T R1 ,⟨a22,i22,k22⟩,b22⟩;have C23:MCal l.prog w K mg base 2 CC1 "step" ["self"] (dX CC1) _ _:=⟨Dc F23 T R1 C21,⟨a23,i23,k23⟩,b23⟩;have C24:MCal l.prog w K mg base 2 CC1 "passes" ["self","mark"] (dj CC1) _ _:=⟨De F24 T R1 C21,⟨a24,i24,k24⟩,b24⟩;have C25:MCalV l.prog w K mg base 3 CC1 "demand" ["self","mark"] (jR CC1 CNoText) _ _:=⟨Di F25 T R1 C24 C22 C19,⟨a25,i25,k25⟩,b25⟩;have C26:MCalV l.prog w K mg base 4 CC1 "enter" ["self"] (jQ CC1 CNoText) _ _:=⟨Dh F26 T R1 C25 C22 C19,⟨a26,i26,k26⟩,b26⟩;have C27:MCalV l.prog w K mg base 4 CC1 "leave" ["self"] (jN CC1 CNoText) _ _:=⟨Df F27 T R1 C25,⟨a27,i27,k27⟩,b27⟩;have C28:MCalV l.prog w K mg base 3 CC1 "finish" ["self"] (qG CC1 CNoText) _ _:=⟨Dg F28 T R1 C22 C19,⟨a28,i28,k28⟩,b28⟩;have C29:Cal l.prog w K mg base 1 "made_of" ["word","signs"] oA _ _:=⟨Cw F29 T  ,PySem.W.mg_of X G a29,k29,b29⟩;have C30:Cal l.prog w K mg base 2 "is_whole" ["word"] iT _ _:=⟨Cz F30 T  C29,PySem.W.mg_of X G a30,k30,b30⟩;have C31:Cal l.prog w K mg base 2 "is_name" ["word"] lY _ _:=⟨CD F31 T  C29,PySem.W.mg_of X G a31,k31,b31⟩;have C32:CalV l.prog w K mg base 3 "read_whole" ["reading"] (qf CC1 CNoText) _ _:=⟨Cd F32 T  R1 C30 C21 C22 C23 C19,PySem.W.mg_of X G a32,k32,b32⟩;have C33:CalV l.prog w K mg base 4 "read_fraction" ["reading"] (qF CC1 CNoText CRatio) _ _:=⟨Cl F33 T  R1 C24 C32 K2 C21 C22 C19,PySem.W.mg_of X G a33,k33,b33⟩;have C34:CalV l.prog w K mg base 3 "read_exponent" ["reading"] (jP CC1 CNoText) _ _:=⟨Cn F34 T  R1 C21 C23 C22 C19,PySem.W.mg_of X G a34,k34,b34⟩;have C35:CalV l.prog w K mg base 4 "read_place" ["reading"] (ql CC1 CNoText) _ _:=⟨Cj F35 T  R1 C25 C24 C34,PySem.W.mg_of X G a35,k35,b35⟩;have C36:CalV l.prog w K mg base 5 "read_term" ["reading","sign"] (qe CC1 CNoText) _ _:=⟨Cf F36 T  R1 C30 C21 C23 C24 C35 C13,PySem.W.mg_of X G a36,k36,b36⟩;have C37:CalV l.prog w K mg base 6 "read_terms" ["reading"] (qc CC1 CNoText) _ _:=⟨Ce F37 T  R1 C36 C24 C21 C15 C23,PySem.W.mg_of X G a37,k37,b37⟩;have C38:CalV l.prog w K mg base 7 "read_given" ["reading"] (lZ CC1 CNoText CGiven CRatio) _ _:=⟨Ck F38 T  R1 C26 C37 C25 C33 C27 K5,PySem.W.mg_of X G a38,k38,b38⟩;have C39:RawC K mg "read_brackets" gh ["reading"] _ _:=⟨F39,PySem.W.mg_of X G a39,k39,b39⟩;have C40:RawC K mg "read_atom" gj ["reading"] _ _:=⟨F40,PySem.W.mg_of X G a40,k40,b40⟩;have C41:RawC K mg "read_power" gf ["reading"] _ _:=⟨F41,PySem.W.mg_of X G a41,k41,b41⟩;have C42:RawC K mg "read_factor" gg ["reading"] _ _:=⟨F42,PySem.W.mg_of X G a42,k42,b42⟩;have C43:RawC K mg "read_product" gd ["reading"] _ _:=⟨F43,PySem.W.mg_of X G a43,k43,b43⟩;have C44:RawC K mg "read_sum" fO ["reading"] _ _:=⟨F44,PySem.W.mg_of X G a44,k44,b44⟩;have C45:CalV l.prog w K mg base 73 "read" ["text"] (qi CNoText ⟨CWhole,CNamed,CGiven,CMinus,CSum,CLess,CTimes,COver,CPower,CRooted,CRatio⟩) _ _:=⟨Cq F45 T  R1 K1 C28 C26 C27 C30 C21 K3 C23 C31 K4 C24 K12 C38 C34 K11 K6 K9 K10 K7 K8 C39 C40 C41 C42 C43 C44,PySem.W.mg_of X G a45,k45,b45⟩;have C46:Cal l.prog w K mg base 1 "whole_text" ["value"] hJ _ _:=⟨B9 F46 T  ,PySem.W.mg_of X G a46,k46,b46⟩;have C47:Cal l.prog w K mg base 1 "degree" ["row"] qI _ _:=⟨CH F47 T  ,PySem.W.mg_of X G a47,k47,b47⟩;have C48:Cal l.prog w K mg base 2 "term_text" ["size","place"] pZ _ _:=⟨Ca F48 T  C46,PySem.W.mg_of X G a48,k48,b48⟩;have C49:Cal l.prog w K mg base 3 "poly_text" ["row"] lX _ _:=⟨Cs F49 T  C48 C47,PySem.W.mg_of X G a49,k49,b49⟩;have C50:MCal l.prog w K mg base 2 CRatio "text" ["self"] (lW CRatio) _ _:=⟨Dl F50 T R2 C46,⟨a50,i50,k50⟩,b50⟩;have C51:RawC K mg "is_sum" gm ["tree"] _ _:=⟨F51,PySem.W.mg_of X G a51,k51,b51⟩;have C52:RawC K mg "is_product" gp ["tree"] _ _:=⟨F52,PySem.W.mg_of X G a52,k52,b52⟩;have C53:RawC K mg "is_atom" gq ["tree"] _ _:=⟨F53,PySem.W.mg_of X G a53,k53,b53⟩;have C54:RawC K mg "within" gc ["tree","bare"] _ _:=⟨F54,PySem.W.mg_of X G a54,k54,b54⟩;have C55:RawC K mg "product_text" gk ["one","mark","other"] _ _:=⟨F55,PySem.W.mg_of X G a55,k55,b55⟩;have C56:RawM K CWhole "text" "Whole.text" gu ["self"] _ _:=⟨F56,⟨a56,i56,k56⟩,b56⟩;have C57:RawM K CGiven "text" "Given.text" gD ["self"] _ _:=⟨F57,⟨a57,i57,k57⟩,b57⟩;have C58:RawM K CNamed "text" "Named.text" gA ["self"] _ _:=⟨F58,⟨a58,i58,k58⟩,b58⟩;have C59:RawM K CMinus "text" "Minus.text" gB ["self"] _ _:=⟨F59,⟨a59,i59,k59⟩,b59⟩;have C60:RawM K CSum "text" "Sum.text" gw ["self"] _ _:=⟨F60,⟨a60,i60,k60⟩,b60⟩;have C61:RawM K CLess "text" "Less.text" gC ["self"] _ _:=⟨F61,⟨a61,i61,k61⟩,b61⟩;have C62:RawM K CTimes "text" "Times.text" gv ["self"] _ _:=⟨F62,⟨a62,i62,k62⟩,b62⟩;have C63:RawM K COver "text" "Over.text" gz ["self"] _ _:=⟨F63,⟨a63,i63,k63⟩,b63⟩;have C64:RawM K CPower "text" "Power.text" gy ["self"] _ _:=⟨F64,⟨a64,i64,k64⟩,b64⟩;have C65:RawM K CRooted "text" "Rooted.text" gx ["self"] _ _:=⟨F65,⟨a65,i65,k65⟩,b65⟩;have C66:Cal l.prog w K mg base 1 "_law_whole" ["_law_found"] iS _ _:=⟨CM F66 T  ,PySem.W.mg_of X G a66,k66,b66⟩;have C67:Cal l.prog w K mg base 1 "_law_word" ["_law_cell"] pY _ _:=⟨CK F67 T  ,PySem.W.mg_of X G a67,k67,b67⟩;have C68:Cal l.prog w K mg base 1 "_law_given" ["_law_cell"] qD _ _:=⟨CW F68 T  ,PySem.W.mg_of X G a68,k68,b68⟩;have C69:Cal l.prog w K mg base 1 "_law_power" ["_law_k"] qz _ _:=⟨CP F69 T  ,PySem.W.mg_of X G a69,k69,b69⟩;have C70:Cal l.prog w K mg base 2 "_law_poly_text" ["_law_kp"] qj _ _:=⟨CQ F70 T  C69,PySem.W.mg_of X G a70,k70,b70⟩;have C71:Cal l.prog w K mg base 1 "_law_half" ["_law_many"] qC _ _:=⟨CV F71 T  ,PySem.W.mg_of X G a71,k71,b71⟩;have C72:Cal l.prog w K mg base 3 "_law_atom" ["_law_cell"] qL _ _:=⟨C2 F72 T  C67 C68 C70 C71,PySem.W.mg_of X G a72,k72,b72⟩;have C73:Cal l.prog w K mg base 1 "_law_within" ["_law_one","_law_rank"] ou _ _:=⟨CL F73 T  ,PySem.W.mg_of X G a73,k73,b73⟩;have C74:Cal l.prog w K mg base 2 "_law_alone" ["_law_one","_law_cell"] qM _ _:=⟨C3 F74 T  C73,PySem.W.mg_of X G a74,k74,b74⟩;have C75:Cal l.prog w K mg base 2 "_law_both" ["_law_one","_law_other","_law_cell"] qK _ _:=⟨C0 F75 T  C73,PySem.W.mg_of X G a75,k75,b75⟩;have C76:Cal l.prog w K mg base 1 "_law_fits" ["_law_one"] qE _ _:=⟨CY F76 T  ,PySem.W.mg_of X G a76,k76,b76⟩;have C77:Cal l.prog w K mg base 4 "_law_drawn" ["_law_deeds"] qH _ _:=⟨CZ F77 T  C75 C76 C74 C72,PySem.W.mg_of X G a77,k77,b77⟩;have C78:RawC K mg "_law_made" gs ["_law_tree"] _ _:=⟨F78,PySem.W.mg_of X G a78,k78,b78⟩;have C79:Cal l.prog w K mg base 2 "_law_ratio" ["_law_r","_law_top","_law_bottom"] (oz CRatio) _ _:=⟨CO F79 T  R2 C66,PySem.W.mg_of X G a79,k79,b79⟩;have C80:RawC K mg "_law_like_leaf" hV ["_law_found","_law_tree"] _ _:=⟨F80,PySem.W.mg_of X G a80,k80,b80⟩;have C81:RawC K mg "_law_like" gt ["_law_found","_law_tree"] _ _:=⟨F81,PySem.W.mg_of X G a81,k81,b81⟩;exact Cy F82 T  R2 R3 R4 R5 R6 R7 R8 R9 R10 R11 R12 xN C77 C78 C45 C66 C79 C80 C81 K3 K4 K5 K2 K6 K11 K12 K7 K8 K9 K10 C46 C49 C50 C51 C52 C53 C54 C55 C56 C57 C58 C59 C60 C61 C62 C63 C64 C65
theorem walk{l:PySem.W.OpenLaw}{q:Program}{loose:List Str}{XP:(Str->Option Value)->Heap->Prop}{YP:World->Heap->Prop}{d:DefRec}{K:Params->PySem.W.Frag}(hn:l.most=some 63)(hdf:d.params.defaults=[])
 (hY:∀(w:World) (h:Heap),YP w h->(K w.params).In h)
 (F:∀(w:World) (mg:Str->Option Value) (fa:Addr) (h:Heap),(K w.params).In h->h.Ns mainGlobals mg->mg d.name=some (.ref fa) ->
   ∃fd:FuncData,(∀(s:Shared) (u:Value),BindsTo s fd ⟨[u],[]⟩ [("_law_script",u)])/\∀base:Heap,(K w.params).In base->base.Ns mainGlobals mg->FnOk l.prog w (K w.params) mg base CX0 183 fa fd ["_law_script"] (oB (K w.params))) :
 PySem.W.WalkO q loose XP YP l.row.toRowW d [] (λf vs=>PySem.call f vs) :=
 L2.walk_of (n:=63) (k:=183) (x:="_law_script") (CX:=λ_=>CX0) (sp:=λw=>oB (K w.params)) hn (by decide) hdf ⟨rfl,by decide,by decide⟩ hY F (λ_ _ a ns hl _ hS=>⟨a,ns,rfl,hS,hl,λ_=>rfl⟩) λ_ _ _ _ _ z=>z
section
end
end R63
open PySem PySem.W PyProof.Rows
set_option maxRecDepth 100000 in
set_option maxHeartbeats 0 in
theorem PySem.Challenge.cw_rootspan_k63_tree_text_and_back_holds : PySem.Challenge.rw_rootspan_k63_tree_text_and_back.Holds := by
 w_on;o_law;k_head;(case hw=>w_witness2)
 k_fill
 refine R63.walk (l:=PySem.Challenge.rw_rootspan_k63_tree_text_and_back) rfl rfl (λw h Y=>PySem.W.kIn_of Y) ?F
 case F =>
  intro w mg fa h KX G hmg
  refine' R63.all_mk KX G hmg ?aC1 ?pg1 ?hd1 ?po1 ?sa1 ?mk1 ?kc1 ?n1_marks ?n1_end ?n1_done ?n1_depth ?aC2 ?pg2 ?hd2 ?po2 ?sa2 ?mk2 ?kc2 ?n2_top ?n2_bottom ?ha2 ?hn2 ?ht2 ?hm2 ?aC3 ?pg3 ?hd3 ?po3 ?sa3 ?mk3 ?kc3 ?n3_value ?ha3 ?hn3 ?ht3 ?hm3 ?aC4 ?pg4 ?hd4 ?po4 ?sa4 ?mk4 ?kc4 ?n4_word ?ha4 ?hn4 ?ht4 ?hm4 ?aC5 ?pg5 ?hd5 ?po5 ?sa5 ?mk5 ?kc5 ?n5_poly ?n5_low ?n5_high ?ha5 ?hn5 ?ht5 ?hm5 ?aC6 ?pg6 ?hd6 ?po6 ?sa6 ?mk6 ?kc6 ?n6_one ?ha6 ?hn6 ?ht6 ?hm6 ?aC7 ?pg7 ?hd7 ?po7 ?sa7 ?mk7 ?kc7 ?n7_one ?n7_other ?ha7 ?hn7 ?ht7 ?hm7 ?aC8 ?pg8 ?hd8 ?po8 ?sa8 ?mk8 ?kc8 ?n8_one ?n8_other ?ha8 ?hn8 ?ht8 ?hm8 ?aC9 ?pg9 ?hd9 ?po9 ?sa9 ?mk9 ?kc9 ?n9_one ?n9_other ?ha9 ?hn9 ?ht9 ?hm9 ?aC10 ?pg10 ?hd10 ?po10 ?sa10 ?mk10 ?kc10 ?n10_one ?n10_other ?ha10 ?hn10 ?ht10 ?hm10 ?aC11 ?pg11 ?hd11 ?po11 ?sa11 ?mk11 ?kc11 ?n11_one ?n11_power ?ha11 ?hn11 ?ht11 ?hm11 ?aC12 ?pg12 ?hd12 ?po12 ?sa12 ?mk12 ?kc12 ?n12_one ?n12_power ?ha12 ?hn12 ?ht12 ?hm12 ?aENoText ?e0NoText ?e1NoText ?e2NoText ?e3NoText ?e4NoText ?e5NoText ?e6NoText ?yXNoText ?yCNoText ?yKNoText ?yNNoText ?xN ?a1 ?l1 ?c1 ?k1 ?a2 ?i2 ?l2 ?c2 ?k2 ?t2 ?a3 ?i3 ?l3 ?c3 ?k3 ?a4 ?i4 ?l4 ?c4 ?k4 ?a5 ?i5 ?l5 ?c5 ?k5 ?a6 ?i6 ?l6 ?c6 ?k6 ?a7 ?i7 ?l7 ?c7 ?k7 ?a8 ?i8 ?l8 ?c8 ?k8 ?a9 ?i9 ?l9 ?c9 ?k9 ?a10 ?i10 ?l10 ?c10 ?k10 ?a11 ?i11 ?l11 ?c11 ?k11 ?a12 ?i12 ?l12 ?c12 ?k12 ?a13 ?l13 ?c13 ?k13 ?a14 ?l14 ?c14 ?k14 ?a15 ?l15 ?c15 ?k15 ?a16 ?l16 ?c16 ?k16 ?a17 ?l17 ?c17 ?k17 ?a18 ?l18 ?c18 ?k18 ?a19 ?l19 ?c19 ?k19 ?a20 ?i20 ?l20 ?c20 ?k20 ?a21 ?i21 ?l21 ?c21 ?k21 ?a22 ?i22 ?l22 ?c22 ?k22 ?a23 ?i23 ?l23 ?c23 ?k23 ?a24 ?i24 ?l24 ?c24 ?k24 ?a25 ?i25 ?l25 ?c25 ?k25 ?a26 ?i26 ?l26 ?c26 ?k26 ?a27 ?i27 ?l27 ?c27 ?k27 ?a28 ?i28 ?l28 ?c28 ?k28 ?a29 ?l29 ?c29 ?k29 ?a30 ?l30 ?c30 ?k30 ?a31 ?l31 ?c31 ?k31 ?a32 ?l32 ?c32 ?k32 ?a33 ?l33 ?c33 ?k33 ?a34 ?l34 ?c34 ?k34 ?a35 ?l35 ?c35 ?k35 ?a36 ?l36 ?c36 ?k36 ?a37 ?l37 ?c37 ?k37 ?a38 ?l38 ?c38 ?k38 ?a39 ?l39 ?c39 ?k39 ?a40 ?l40 ?c40 ?k40 ?a41 ?l41 ?c41 ?k41 ?a42 ?l42 ?c42 ?k42 ?a43 ?l43 ?c43 ?k43 ?a44 ?l44 ?c44 ?k44 ?a45 ?l45 ?c45 ?k45 ?a46 ?l46 ?c46 ?k46 ?a47 ?l47 ?c47 ?k47 ?a48 ?l48 ?c48 ?k48 ?a49 ?l49 ?c49 ?k49 ?a50 ?i50 ?l50 ?c50 ?k50 ?a51 ?l51 ?c51 ?k51 ?a52 ?l52 ?c52 ?k52 ?a53 ?l53 ?c53 ?k53 ?a54 ?l54 ?c54 ?k54 ?a55 ?l55 ?c55 ?k55 ?a56 ?i56 ?l56 ?c56 ?k56 ?a57 ?i57 ?l57 ?c57 ?k57 ?a58 ?i58 ?l58 ?c58 ?k58 ?a59 ?i59 ?l59 ?c59 ?k59 ?a60 ?i60 ?l60 ?c60 ?k60 ?a61 ?i61 ?l61 ?c61 ?k61 ?a62 ?i62 ?l62 ?c62 ?k62 ?a63 ?i63 ?l63 ?c63 ?k63 ?a64 ?i64 ?l64 ?c64 ?k64 ?a65 ?i65 ?l65 ?c65 ?k65 ?a66 ?l66 ?c66 ?k66 ?a67 ?l67 ?c67 ?k67 ?a68 ?l68 ?c68 ?k68 ?a69 ?l69 ?c69 ?k69 ?a70 ?l70 ?c70 ?k70 ?a71 ?l71 ?c71 ?k71 ?a72 ?l72 ?c72 ?k72 ?a73 ?l73 ?c73 ?k73 ?a74 ?l74 ?c74 ?k74 ?a75 ?l75 ?c75 ?k75 ?a76 ?l76 ?c76 ?k76 ?a77 ?l77 ?c77 ?k77 ?a78 ?l78 ?c78 ?k78 ?a79 ?l79 ?c79 ?k79 ?a80 ?l80 ?c80 ?k80 ?a81 ?l81 ?c81 ?k81 ?a82 ?l82 ?c82 ?k82 ?z0 ?z1 ?z2 ?z3 ?z4 ?z5 ?z6 ?z7 ?z8 ?z9 ?aI_LONGEST ?aI_DEEPEST ?aI_FIGURES ?aI_LETTERS ?aI_WORDS ?lI_WORDS ?aI_EXPONENTS ?lI_EXPONENTS
  (case aC1=>k_is)
  (case pg1=>k_is)
  (case hd1=>k_is)
  (case po1=>k_is)
  (case sa1=>k_is)
  (case mk1=>k_is)
  (case kc1=>k_is)
  (case n1_marks=>k_is)
  (case n1_end=>k_is)
  (case n1_done=>k_is)
  (case n1_depth=>k_is)
  (case aC2=>k_is)
  (case pg2=>k_is)
  (case hd2=>k_is)
  (case po2=>k_is)
  (case sa2=>k_is)
  (case mk2=>k_is)
  (case kc2=>k_is)
  (case n2_top=>k_is)
  (case n2_bottom=>k_is)
  (case ha2=>k_is)
  (case hn2=>k_is)
  (case ht2=>k_is)
  (case hm2=>k_is)
  (case aC3=>k_is)
  (case pg3=>k_is)
  (case hd3=>k_is)
  (case po3=>k_is)
  (case sa3=>k_is)
  (case mk3=>k_is)
  (case kc3=>k_is)
  (case n3_value=>k_is)
  (case ha3=>k_is)
  (case hn3=>k_is)
  (case ht3=>k_is)
  (case hm3=>k_is)
  (case aC4=>k_is)
  (case pg4=>k_is)
  (case hd4=>k_is)
  (case po4=>k_is)
  (case sa4=>k_is)
  (case mk4=>k_is)
  (case kc4=>k_is)
  (case n4_word=>k_is)
  (case ha4=>k_is)
  (case hn4=>k_is)
  (case ht4=>k_is)
  (case hm4=>k_is)
  (case aC5=>k_is)
  (case pg5=>k_is)
  (case hd5=>k_is)
  (case po5=>k_is)
  (case sa5=>k_is)
  (case mk5=>k_is)
  (case kc5=>k_is)
  (case n5_poly=>k_is)
  (case n5_low=>k_is)
  (case n5_high=>k_is)
  (case ha5=>k_is)
  (case hn5=>k_is)
  (case ht5=>k_is)
  (case hm5=>k_is)
  (case aC6=>k_is)
  (case pg6=>k_is)
  (case hd6=>k_is)
  (case po6=>k_is)
  (case sa6=>k_is)
  (case mk6=>k_is)
  (case kc6=>k_is)
  (case n6_one=>k_is)
  (case ha6=>k_is)
  (case hn6=>k_is)
  (case ht6=>k_is)
  (case hm6=>k_is)
  (case aC7=>k_is)
  (case pg7=>k_is)
  (case hd7=>k_is)
  (case po7=>k_is)
  (case sa7=>k_is)
  (case mk7=>k_is)
  (case kc7=>k_is)
  (case n7_one=>k_is)
  (case n7_other=>k_is)
  (case ha7=>k_is)
  (case hn7=>k_is)
  (case ht7=>k_is)
  (case hm7=>k_is)
  (case aC8=>k_is)
  (case pg8=>k_is)
  (case hd8=>k_is)
  (case po8=>k_is)
  (case sa8=>k_is)
  (case mk8=>k_is)
  (case kc8=>k_is)
  (case n8_one=>k_is)
  (case n8_other=>k_is)
  (case ha8=>k_is)
  (case hn8=>k_is)
  (case ht8=>k_is)
  (case hm8=>k_is)
  (case aC9=>k_is)
  (case pg9=>k_is)
  (case hd9=>k_is)
  (case po9=>k_is)
  (case sa9=>k_is)
  (case mk9=>k_is)
  (case kc9=>k_is)
  (case n9_one=>k_is)
  (case n9_other=>k_is)
  (case ha9=>k_is)
  (case hn9=>k_is)
  (case ht9=>k_is)
  (case hm9=>k_is)
  (case aC10=>k_is)
  (case pg10=>k_is)
  (case hd10=>k_is)
  (case po10=>k_is)
  (case sa10=>k_is)
  (case mk10=>k_is)
  (case kc10=>k_is)
  (case n10_one=>k_is)
  (case n10_other=>k_is)
  (case ha10=>k_is)
  (case hn10=>k_is)
  (case ht10=>k_is)
  (case hm10=>k_is)
  (case aC11=>k_is)
  (case pg11=>k_is)
  (case hd11=>k_is)
  (case po11=>k_is)
  (case sa11=>k_is)
  (case mk11=>k_is)
  (case kc11=>k_is)
  (case n11_one=>k_is)
  (case n11_power=>k_is)
  (case ha11=>k_is)
  (case hn11=>k_is)
  (case ht11=>k_is)
  (case hm11=>k_is)
  (case aC12=>k_is)
  (case pg12=>k_is)
  (case hd12=>k_is)
  (case po12=>k_is)
  (case sa12=>k_is)
  (case mk12=>k_is)
  (case kc12=>k_is)
  (case n12_one=>k_is)
  (case n12_power=>k_is)
  (case ha12=>k_is)
  (case hn12=>k_is)
  (case ht12=>k_is)
  (case hm12=>k_is)
  (case aENoText=>k_is)
  (case e0NoText=>k_is)
  (case e1NoText=>k_is)
  (case e2NoText=>k_is)
  (case e3NoText=>k_is)
  (case e4NoText=>k_is)
  (case e5NoText=>k_is)
  (case e6NoText=>k_is)
  (case yCNoText=>first |rfl |with_unfolding_all rfl)
  (case yKNoText=>k_is)
  (case yNNoText=>k_is)
  (case a1=>k_is)
  (case l1=>k_is)
  (case c1=>k_is)
  (case k1=>k_is)
  (case a2=>k_is)
  (case i2=>k_is)
  (case l2=>k_is)
  (case c2=>k_is)
  (case k2=>k_is)
  (case t2=>k_is)
  (case a3=>k_is)
  (case i3=>k_is)
  (case l3=>k_is)
  (case c3=>k_is)
  (case k3=>k_is)
  (case a4=>k_is)
  (case i4=>k_is)
  (case l4=>k_is)
  (case c4=>k_is)
  (case k4=>k_is)
  (case a5=>k_is)
  (case i5=>k_is)
  (case l5=>k_is)
  (case c5=>k_is)
  (case k5=>k_is)
  (case a6=>k_is)
  (case i6=>k_is)
  (case l6=>k_is)
  (case c6=>k_is)
  (case k6=>k_is)
  (case a7=>k_is)
  (case i7=>k_is)
  (case l7=>k_is)
  (case c7=>k_is)
  (case k7=>k_is)
  (case a8=>k_is)
  (case i8=>k_is)
  (case l8=>k_is)
  (case c8=>k_is)
  (case k8=>k_is)
  (case a9=>k_is)
  (case i9=>k_is)
  (case l9=>k_is)
  (case c9=>k_is)
  (case k9=>k_is)
  (case a10=>k_is)
  (case i10=>k_is)
  (case l10=>k_is)
  (case c10=>k_is)
  (case k10=>k_is)
  (case a11=>k_is)
  (case i11=>k_is)
  (case l11=>k_is)
  (case c11=>k_is)
  (case k11=>k_is)
  (case a12=>k_is)
  (case i12=>k_is)
  (case l12=>k_is)
  (case c12=>k_is)
  (case k12=>k_is)
  (case a13=>k_is)
  (case l13=>k_is)
  (case c13=>k_is)
  (case k13=>k_is)
  (case a14=>k_is)
  (case l14=>k_is)
  (case c14=>k_is)
  (case k14=>k_is)
  (case a15=>k_is)
  (case l15=>k_is)
  (case c15=>k_is)
  (case k15=>k_is)
  (case a16=>k_is)
  (case l16=>k_is)
  (case c16=>k_is)
  (case k16=>k_is)
  (case a17=>k_is)
  (case l17=>k_is)
  (case c17=>k_is)
  (case k17=>k_is)
  (case a18=>k_is)
  (case l18=>k_is)
  (case c18=>k_is)
  (case k18=>k_is)
  (case a19=>k_is)
  (case l19=>k_is)
  (case c19=>k_is)
  (case k19=>k_is)
  (case a20=>k_is)
  (case i20=>k_is)
  (case l20=>k_is)
  (case c20=>k_is)
  (case k20=>k_is)
  (case a21=>k_is)
  (case i21=>k_is)
  (case l21=>k_is)
  (case c21=>k_is)
  (case k21=>k_is)
  (case a22=>k_is)
  (case i22=>k_is)
  (case l22=>k_is)
  (case c22=>k_is)
  (case k22=>k_is)
  (case a23=>k_is)
  (case i23=>k_is)
  (case l23=>k_is)
  (case c23=>k_is)
  (case k23=>k_is)
  (case a24=>k_is)
  (case i24=>k_is)
  (case l24=>k_is)
  (case c24=>k_is)
  (case k24=>k_is)
  (case a25=>k_is)
  (case i25=>k_is)
  (case l25=>k_is)
  (case c25=>k_is)
  (case k25=>k_is)
  (case a26=>k_is)
  (case i26=>k_is)
  (case l26=>k_is)
  (case c26=>k_is)
  (case k26=>k_is)
  (case a27=>k_is)
  (case i27=>k_is)
  (case l27=>k_is)
  (case c27=>k_is)
  (case k27=>k_is)
  (case a28=>k_is)
  (case i28=>k_is)
  (case l28=>k_is)
  (case c28=>k_is)
  (case k28=>k_is)
  (case a29=>k_is)
  (case l29=>k_is)
  (case c29=>k_is)
  (case k29=>k_is)
  (case a30=>k_is)
  (case l30=>k_is)
  (case c30=>k_is)
  (case k30=>k_is)
  (case a31=>k_is)
  (case l31=>k_is)
  (case c31=>k_is)
  (case k31=>k_is)
  (case a32=>k_is)
  (case l32=>k_is)
  (case c32=>k_is)
  (case k32=>k_is)
  (case a33=>k_is)
  (case l33=>k_is)
  (case c33=>k_is)
  (case k33=>k_is)
  (case a34=>k_is)
  (case l34=>k_is)
  (case c34=>k_is)
  (case k34=>k_is)
  (case a35=>k_is)
  (case l35=>k_is)
  (case c35=>k_is)
  (case k35=>k_is)
  (case a36=>k_is)
  (case l36=>k_is)
  (case c36=>k_is)
  (case k36=>k_is)
  (case a37=>k_is)
  (case l37=>k_is)
  (case c37=>k_is)
  (case k37=>k_is)
  (case a38=>k_is)
  (case l38=>k_is)
  (case c38=>k_is)
  (case k38=>k_is)
  (case a39=>k_is)
  (case l39=>k_is)
  (case c39=>k_is)
  (case k39=>k_is)
  (case a40=>k_is)
  (case l40=>k_is)
  (case c40=>k_is)
  (case k40=>k_is)
  (case a41=>k_is)
  (case l41=>k_is)
  (case c41=>k_is)
  (case k41=>k_is)
  (case a42=>k_is)
  (case l42=>k_is)
  (case c42=>k_is)
  (case k42=>k_is)
  (case a43=>k_is)
  (case l43=>k_is)
  (case c43=>k_is)
  (case k43=>k_is)
  (case a44=>k_is)
  (case l44=>k_is)
  (case c44=>k_is)
  (case k44=>k_is)
  (case a45=>k_is)
  (case l45=>k_is)
  (case c45=>k_is)
  (case k45=>k_is)
  (case a46=>k_is)
  (case l46=>k_is)
  (case c46=>k_is)
  (case k46=>k_is)
  (case a47=>k_is)
  (case l47=>k_is)
  (case c47=>k_is)
  (case k47=>k_is)
  (case a48=>k_is)
  (case l48=>k_is)
  (case c48=>k_is)
  (case k48=>k_is)
  (case a49=>k_is)
  (case l49=>k_is)
  (case c49=>k_is)
  (case k49=>k_is)
  (case a50=>k_is)
  (case i50=>k_is)
  (case l50=>k_is)
  (case c50=>k_is)
  (case k50=>k_is)
  (case a51=>k_is)
  (case l51=>k_is)
  (case c51=>k_is)
  (case k51=>k_is)
  (case a52=>k_is)
  (case l52=>k_is)
  (case c52=>k_is)
  (case k52=>k_is)
  (case a53=>k_is)
  (case l53=>k_is)
  (case c53=>k_is)
  (case k53=>k_is)
  (case a54=>k_is)
  (case l54=>k_is)
  (case c54=>k_is)
  (case k54=>k_is)
  (case a55=>k_is)
  (case l55=>k_is)
  (case c55=>k_is)
  (case k55=>k_is)
  (case a56=>k_is)
  (case i56=>k_is)
  (case l56=>k_is)
  (case c56=>k_is)
  (case k56=>k_is)
  (case a57=>k_is)
  (case i57=>k_is)
  (case l57=>k_is)
  (case c57=>k_is)
  (case k57=>k_is)
  (case a58=>k_is)
  (case i58=>k_is)
  (case l58=>k_is)
  (case c58=>k_is)
  (case k58=>k_is)
  (case a59=>k_is)
  (case i59=>k_is)
  (case l59=>k_is)
  (case c59=>k_is)
  (case k59=>k_is)
  (case a60=>k_is)
  (case i60=>k_is)
  (case l60=>k_is)
  (case c60=>k_is)
  (case k60=>k_is)
  (case a61=>k_is)
  (case i61=>k_is)
  (case l61=>k_is)
  (case c61=>k_is)
  (case k61=>k_is)
  (case a62=>k_is)
  (case i62=>k_is)
  (case l62=>k_is)
  (case c62=>k_is)
  (case k62=>k_is)
  (case a63=>k_is)
  (case i63=>k_is)
  (case l63=>k_is)
  (case c63=>k_is)
  (case k63=>k_is)
  (case a64=>k_is)
  (case i64=>k_is)
  (case l64=>k_is)
  (case c64=>k_is)
  (case k64=>k_is)
  (case a65=>k_is)
  (case i65=>k_is)
  (case l65=>k_is)
  (case c65=>k_is)
  (case k65=>k_is)
  (case a66=>k_is)
  (case l66=>k_is)
  (case c66=>k_is)
  (case k66=>k_is)
  (case a67=>k_is)
  (case l67=>k_is)
  (case c67=>k_is)
  (case k67=>k_is)
  (case a68=>k_is)
  (case l68=>k_is)
  (case c68=>k_is)
  (case k68=>k_is)
  (case a69=>k_is)
  (case l69=>k_is)
  (case c69=>k_is)
  (case k69=>k_is)
  (case a70=>k_is)
  (case l70=>k_is)
  (case c70=>k_is)
  (case k70=>k_is)
  (case a71=>k_is)
  (case l71=>k_is)
  (case c71=>k_is)
  (case k71=>k_is)
  (case a72=>k_is)
  (case l72=>k_is)
  (case c72=>k_is)
  (case k72=>k_is)
  (case a73=>k_is)
  (case l73=>k_is)
  (case c73=>k_is)
  (case k73=>k_is)
  (case a74=>k_is)
  (case l74=>k_is)
  (case c74=>k_is)
  (case k74=>k_is)
  (case a75=>k_is)
  (case l75=>k_is)
  (case c75=>k_is)
  (case k75=>k_is)
  (case a76=>k_is)
  (case l76=>k_is)
  (case c76=>k_is)
  (case k76=>k_is)
  (case a77=>k_is)
  (case l77=>k_is)
  (case c77=>k_is)
  (case k77=>k_is)
  (case a78=>k_is)
  (case l78=>k_is)
  (case c78=>k_is)
  (case k78=>k_is)
  (case a79=>k_is)
  (case l79=>k_is)
  (case c79=>k_is)
  (case k79=>k_is)
  (case a80=>k_is)
  (case l80=>k_is)
  (case c80=>k_is)
  (case k80=>k_is)
  (case a81=>k_is)
  (case l81=>k_is)
  (case c81=>k_is)
  (case k81=>k_is)
  (case a82=>k_is)
  (case l82=>k_is)
  (case c82=>k_is)
  (case k82=>k_is)
  (case z0=>k_is)
  (case z1=>k_is)
  (case z2=>k_is)
  (case z3=>k_is)
  (case z4=>k_is)
  (case z5=>k_is)
  (case z6=>k_is)
  (case z7=>k_is)
  (case z8=>k_is)
  (case z9=>k_is)
  (case aI_LONGEST=>k_is)
  (case aI_DEEPEST=>k_is)
  (case aI_FIGURES=>k_is)
  (case aI_LETTERS=>k_is)
  (case aI_WORDS=>k_is)
  (case lI_WORDS=>k_is)
  (case aI_EXPONENTS=>k_is)
  (case lI_EXPONENTS=>k_is)
  (case yXNoText=>first |rfl |with_unfolding_all rfl)
  (case xN=>first |rfl |with_unfolding_all rfl)
