import PyProof.Rows.All
import Wide.All
import OpenK.AllK
import Wide.FinOn
import Lean
import PyProof.EqAt
import PyProof.EqKinds
import PyProof.TupleCall
import PySem.Challenge.RW_rootspan_k51_fractions_reckoned
set_option Elab.async false
set_option linter.all false
set_option maxRecDepth 100000
local macro_rules | `(tactic|omega)=>`(tactic|first |lia |omega (splitDisjunctions:=true))
noncomputable section
namespace Al
def PX:=@List.length_map
def PY:=@List.length_append
def PZ:=@Nat.le_refl
def P4:=@List.mem_map
def P5:=@Int.mul_pos
def P6:=@Nat.zero_le
def P7:=@List.length_cons
def P8:=@List.mem_cons
def P9:=@Int.ne_of_gt
def Qa:=@Int.pow_succ
def Qb:=@List.mem_cons_of_mem
def Qc:=@List.mem_singleton
def Qd:=@List.map_append
def Qe:=@List.length_pos_iff
def Qf:=@Nat.ne_of_lt
def Qg:=@Int.pow_zero
def Qh:=@List.mem_cons_self
def Qi:=@Nat.lt_of_lt_of_le
def Qj:=@List.nil_append
def Qk:=@List.mem_append
def Ql:=@List.size_toArray
def Qm:=@List.map_cons
def Qn:=@Int.one_mul
def Qo:=@Int.le_of_lt
def Qp:=@List.map_map
def Qq:=@List.append_assoc
def Qr:=@List.length_take
def Qs:=@Int.mul_zero
def Qt:=@Nat.lt_irrefl
def Qu:=@Nat.le_trans
def Qv:=@List.not_mem_nil
def Qw:=@Int.mul_one
def Qx:=@List.mem_append_right
def Qy:=@List.length_replicate
def Qz:=@List.lookup_cons
def QA:=@Int.natAbs_neg
def QB:=@List.cons_append
def QC:=@List.map_congr_left
def QD:=@Int.natAbs_mul
def QE:=@List.take_add_one
def QF:=@List.length_range
def QG:=@Int.ofNat_dvd_left
def QH:=@Int.natAbs_natCast
def QI:=@List.mem_range
def QJ:=@List.length_drop
def QK:=@List.length_reverse
def QL:=@List.mem_map_of_mem
def QM:=@Nat.gcd_dvd_left
def QN:=@Int.mul_comm
def QO:=@List.length_nil
def QP:=@Nat.lt_succ_self
def QQ:=@Nat.sub_self
def QR:=@Int.zero_add
def QS:=@Int.mul_ne_zero
def QT:=@Nat.gcd_dvd_right
def QU:=@Nat.sub_zero
def QV:=@List.forall_mem_cons
def QW:=@Nat.le_of_lt
def QX:=@Nat.le_of_not_lt
def QY:=@Int.add_zero
def QZ:=@List.take_length
def Q0:=@List.length_eq_zero_iff
def Q1:=@Int.neg_neg
def Q2:=@List.range_succ
def Q3:=@Nat.pow_lt_pow_iff_right
def Q4:=@Int.pow_pos
def Q5:=@Rat.intCast_mul
def Q6:=@List.mem_append_left
def Q7:=@Bool.false_ne_true
def Q8:=@List.replicate_succ
def Q9:=@List.getElem_mem
def Ra:=@Int.zero_mul
def Rb:=@Int.eq_of_mul_eq_mul_left
def Rc:=@List.drop_zero
def Re:=@Nat.le_of_eq
def Rf:=@List.nodup_cons
def Rg:=@List.map_nil
def Rh:=@List.length_set
def Ri:=@Nat.lt_of_le_of_lt
def Rj:=@Nat.gcd_zero_left
def Rk:=@Int.mul_eq_zero
def Rm:=@Int.lt_of_mul_lt_mul_right
def Rn:=@Int.mul_le_mul_of_nonneg_right
def Ro:=@List.mem_reverse
def Rp:=@List.length_singleton
def Rq:=@Bool.and_eq_true
def Rr:=@Int.ediv_one
def Rs:=@Int.natCast_mul
def Rt:=@Nat.dvd_trans
def Ru:=@Int.pow_ne_zero
def Rv:=@List.mem_of_mem_drop
def Rx:=@Int.ofNat_lt
def Ry:=@List.append_nil
def Rz:=@Option.isSome_iff_exists
def RB:=@List.flatten_cons
def RC:=@Int.natAbs_pos
def RD:=@Nat.le_mul_of_pos_left
def RE:=@Int.mul_lt_mul_of_pos_right
def RF:=@Nat.min_eq_left
def RG:=@List.take_of_length_le
def RH:=@Int.natCast_sub
def RI:=@List.filterMap_cons
def RJ:=@Int.natAbs_dvd_natAbs
def RK:=@Int.mul_neg_of_neg_of_pos
def RL:=@List.drop_eq_getElem_cons
def RO:=@Int.dvd_mul_of_dvd_left
def RP:=@Nat.mul_le_mul_right
def RQ:=@List.mem_iff_getElem
def RS:=@List.mem_of_mem_take
def RT:=@Nat.le_mul_of_pos_right
def RU:=@Int.le_of_mul_le_mul_right
def RV:=@Rat.mul_le_mul_of_nonneg_right
end Al
open Al
namespace PySem.W.Fast
def tw10675420455367978127:=()
def tw4570417619651281657:=()
def tw5847193840886202593:=()
def tw13297285507414651778:=()
def tw8829768843104502466:=()
def tw13426628182765417167:=()
def tw22732695954711999:=()
def tw15676191535256807245:=()
def tw7846045940870317095:=()
def tw3240789065981401777:=()
def tw5825411777315125107:=()
def tw8095625265185959362:=()
def tw15987322645595440730:=()
def tw9017769545893084180:=()
def tw12659909227130239231:=()
def tw11520715286383419139:=()
def tw3259811595617428790:=()
def tw8052396204134659752:=()
def tw3703397860542862662:=()
def tw1541157161626046582:=()
def tw17854688008911290448:=()
def tw5760732879153905550:=()
def tw11937406632768561525:=()
def tw12908106162553357703:=()
def tw8242105389171350952:=()
def tw14379630088876268461:=()
def tw1734411581131663677:=()
def tw16972816545241269192:=()
def tw4069202392154605160:=()
def tw14358060549344483344:=()
def tw2705216974878933638:=()
def tw8578920126124726758:=()
def tw10720746674286086615:=()
def tw10414033651284567865:=()
def tw11282792721327821246:=()
def tw17751316491591823618:=()
def tw5505133498135155698:=()
def tw13772775341534274608:=()
def tw7741351499564904883:=()
def tw16340075633172084304:=()
def tw291556894137780147:=()
def tw14580658080143374338:=()
def tw12514220421330127759:=()
def tw7511375671642191187:=()
def tw10251123654466532821:=()
def tw13624919967789903080:=()
def tw1824657376305686067:=()
def tw15632966744835365200:=()
def tw2329593157414998282:=()
def tw14357423621527091564:=()
def tw7875427862683302876:=()
def tw9615247677644479408:=()
def tw15939525928098119624:=()
def tw17636024259751899058:=()
def tw13565868962357536302:=()
def tw6983299971573541283:=()
def tw12198358699456547841:=()
def tw689362769460942002:=()
def tw2369159553002170208:=()
def tw15813907112323688674:=()
def tw5305182477043509286:=()
def tw18117969175176018588:=()
def tw7791907640081407029:=()
def tw9849033159193496933:=()
def tw11252988999863955277:=()
def tw7222145646786775161:=()
def tw4741142601912967196:=()
def tw12008896118793438434:=()
def tw8591133805663919252:=()
def tw10638469657162069785:=()
def tw16582637555366885989:=()
def tw5678179791800203392:=()
def tw17115023645811617483:=()
def tw15518678182123870579:=()
def tw1892682799510841049:=()
def tw15507127462472145586:=()
def tw2422207672700708760:=()
def tw15225465761460075698:=()
def tw6363868595944684916:=()
def tw1140522601293751242:=()
def tw7222047777125822834:=()
def tw6704979682602538263:=()
def tw16357430646350821449:=()
def tw12224894667206359806:=()
def tw14766416327990818910:=()
def tw14885106781955682279:=()
def tw980052868183842113:=()
def tw4528631244953856498:=()
def tw12651415439690873605:=()
def tw287019531600199136:=()
def tw111855775018798987:=()
def tw5419632077974382173:=()
def tw2524112228995099833:=()
def tw14957427295310255304:=()
def tw13028308056014121962:=()
def tw13715388539441412395:=()
def tw6564971767120323057:=()
def tw2727469259333090880:=()
def tw4212415707340119603:=()
def tw12762710101965254679:=()
def tw8415404210290587253:=()
def tw13520242652226930487:=()
def tw1819621790812451455:=()
def tw3259272834181038138:=()
def tw3611338822544702623:=()
def tw6824408569036140949:=()
def tw3118832112969391761:=()
def tw10603328021678287713:=()
def tw13411958339871755365:=()
def tw4230589118306728399:=()
def tw11990992385625068109:=()
def tw18137048862731907495:=()
def tw16065612789942069612:=()
def tw4657605733473442438:=()
def tw4237062471783444387:=()
def tw12617699320706075797:=()
def tw2964977678613666194:=()
def tw1014343753806629249:=()
def tw8471061422588325463:=()
def tw10222777975413920799:=()
def tw13606839098046220752:=()
def tw16565580490920996548:=()
def tw11240668718099146717:=()
def tw10126062988895434492:=()
def tw12707288284250553148:=()
def tw12539489209633366197:=()
def tw17466373007500844800:=()
def tw7336868258813844820:=()
def tw13078577595086197968:=()
def tw10352714922009712913:=()
def tw14293413791579500922:=()
def tw14468182476528835377:=()
def tw16957517073938120726:=()
def tw13443643474293695275:=()
def tw6292780440189996717:=()
def tw4031833374960257068:=()
def tw17373401595545914233:=()
def tw12893915525543120696:=()
def tw6902312510696638668:=()
def tw7922947685475632864:=()
def tw10925398452885408493:=()
def tw8844929968702465614:=()
def tw1050882546080524587:=()
def tw10020160369106340666:=()
def tw15906874980763567639:=()
def tw6755725843177826820:=()
def tw15516554103305581687:=()
def tw12357241507689794825:=()
def tw17410286330577560333:=()
def tw1306851836969126597:=()
def tw12200843902992267502:=()
def tw7343032421232908680:=()
def tw3798947653423785739:=()
def tw1593158330119851782:=()
def tw969729310945289110:=()
def tw7931437480897951004:=()
def tw3383666137404996584:=()
def tw14447041192053264833:=()
def tw14635959671411369767:=()
def tw9378931487874401991:=()
def tw7681281367185249581:=()
def tw5329718012133883735:=()
def tw9211214225353264288:=()
def tw10376708232327189796:=()
def tw3316513030069120702:=()
def tw15082341801092474092:=()
def tw8261486245169379454:=()
def tw2483823044137157419:=()
def tw7959882463313629649:=()
def tw4931052473994729526:=()
def tw8088099811109583511:=()
def tw439542687315569892:=()
def tw537700646920592751:=()
def tw10306104177188033311:=()
def tw9333049182804091860:=()
def tw16079557232366879262:=()
def tw2095018213904472509:=()
def tw17745366440458577915:=()
def tw585837758703859192:=()
def tw13647178641080902978:=()
def tw6928063844253431226:=()
def tw8819949549686861335:=()
def tw5918364044553952530:=()
def tw9840810226920167286:=()
def tw7429864567124620548:=()
def tw5202929394400278497:=()
def tw58750876412051:=()
def tw7972770708671416950:=()
def tw15226861794447409325:=()
def tw4951961373418001801:=()
def tw6887507956208623246:=()
def tw9475379586731322630:=()
def tw15771969516599521215:=()
def tw16824500092714347831:=()
def tw16349082071459853023:=()
def tw7422299222035527463:=()
def tw14473013333787498557:=()
def tw2312865895393543174:=()
def tw4816800272904929292:=()
def tw15857106588071054694:=()
def tw16381279017434732200:=()
def tw1955789847722094324:=()
def tw5858171032750168940:=()
def tw6031164623722977819:=()
def tw4571842238154646433:=()
def tw13638995127976018202:=()
def tw10367529932984108120:=()
def tw17388480150916034758:=()
def tw6867689986249409708:=()
def tw11586335253381372878:=()
def tw6772430728897260087:=()
def tw9882544589410825655:=()
def tw2047717012404006801:=()
def tw523892555776312308:=()
def tw7112083214083187371:=()
def tw6507151489469251610:=()
def tw17915249008832774919:=()
def tw16649668157873695028:=()
def tw18419077142620885862:=()
def tw5301072568900188672:=()
def tw5956604152761640181:=()
def tw8775391008395548092:=()
def tw7802846656896822945:=()
def tw1332218991626657985:=()
def tw8384412758341434603:=()
def tw7281112177005498350:=()
def tw16910801025526641731:=()
def tw16946750729760340629:=()
def tw14196713028959764038:=()
def tw15961659147759507426:=()
def tw13204765809952575323:=()
def tw16731233532328649648:=()
def tw2340297630093456290:=()
def tw4442448854502356224:=()
def tw9327200266187317286:=()
def tw10358847459502713803:=()
def tw15714695593133234075:=()
def tw11018889941083691294:=()
def tw663368875805979834:=()
def tw15527874895630192229:=()
def tw11459192746190010489:=()
end PySem.W.Fast
namespace L2
open PySem PySem.Spec PyProof.Rows
abbrev Key:=Sum Int Str
noncomputable def x8:Key->Value->Bool
 |.inl k,v=>Value.isInt k v
 |.inr x,v=>Value.isStrOf x v
noncomputable def HQ(w:World):Key->Int
 |.inl k=>hashInt k
 |.inr x=>hashStr w x
theorem fG:∀{k:Key} {v:Value},x8 k v=true->(∃i t,k=Sum.inl i/\v=Value.int i t)\/(∃x t,k=Sum.inr x/\v=Value.str x t)
 |.inl i,v,h=>by obtain⟨t,e⟩:=Value.isInt_shape (k:=i) (v:=v) h;exact .inl ⟨i,t,rfl,e⟩
 |.inr x,v,h=>by obtain⟨t,e⟩:=Value.isStrOf_shape (x:=x) (v:=v) h;exact .inr ⟨x,t,rfl,e⟩
theorem HP(a b:Int):decide ((Sum.inl a:Key)=Sum.inl b)=(a == b):=by
 by_cases e:a=b
 ·subst e;simp
 ·have h:¬(Sum.inl a:Key)=Sum.inl b:=λq=>e (Sum.inl.inj q)
  rw[decide_eq_false h];exact(beq_eq_false_iff_ne.mpr e).symm
theorem HL(a b:Str):decide ((Sum.inr a:Key)=Sum.inr b)=decide (a=b):=by
 by_cases e:a=b
 ·subst e;simp
 ·have h:¬(Sum.inr a:Key)=Sum.inr b:=λq=>e (Sum.inr.inj q)
  rw[decide_eq_false h,decide_eq_false e]
theorem HN(a:Int)(b:Str):decide ((Sum.inl a:Key)=Sum.inr b)=false:=decide_eq_false (λq=>nomatch q)
theorem HM(a:Str)(b:Int):decide ((Sum.inr a:Key)=Sum.inl b)=false:=decide_eq_false (λq=>nomatch q)
noncomputable def rz(prog:Program)(w:World):PySem.KeyKind prog w Key where
 is:=x8
 hash:=HQ w
 inj:=λv a b ha hb=>by
  rcases fG ha with⟨i,t,rfl,rfl⟩ |⟨x,t,rfl,rfl⟩
  ·rcases fG hb with⟨j,u,rfl,e⟩ |⟨y,u,rfl,e⟩
   ·injection e with e1 _;rw[e1]
   ·exact nomatch e
  ·rcases fG hb with⟨j,u,rfl,e⟩ |⟨y,u,rfl,e⟩
   ·exact nomatch e
   ·injection e with e1 _;rw[e1]
 byValue:=λk v h=>by rcases fG h with⟨i,t,rfl,rfl⟩ |⟨x,t,rfl,rfl⟩<;>rfl
 pyHash:=λhv h=>by
  rcases fG hv with⟨i,t,rfl,rfl⟩ |⟨x,t,rfl,rfl⟩
  ·exact wpAny_pyHash_int h
  ·exact wpAny_pyHash_str h
 eqBool:=λhu hv h=>by
  rcases fG hu with⟨i,t,rfl,rfl⟩ |⟨x,t,rfl,rfl⟩
  ·rcases fG hv with⟨j,u,rfl,rfl⟩ |⟨y,u,rfl,rfl⟩
   ·rw[HP]at h;exact wpAny_eqBool_int h
   ·rw[HN]at h;exact SeqAt.EqAt.int_str i t y u _ _ _ _ h
  ·rcases fG hv with⟨j,u,rfl,rfl⟩ |⟨y,u,rfl,rfl⟩
   ·rw[HM]at h;exact SeqAt.EqAt.str_int x t j u _ _ _ _ h
   ·rw[HL]at h;exact wpAny_eqBool_str h
 «strs»:=λk x t v h=>by
  rcases fG h with⟨i,u,rfl,e⟩ |⟨y,u,rfl,e⟩
  ·exact nomatch e
  ·injection e with e1 _
   subst e1;cases v<;>rfl
inductive V where
 |non |bl (b:Bool) |int (i:Int) |str (x:Str) |byt (b:Array UInt8) |flt (b:UInt64) |ref (a:Addr) |ty (n:String)
 deriving DecidableEq
noncomputable def RelV:V->Value->Prop
 |.non,u=>u=Value.none
 |.bl b,u=>u=Value.bool b
 |.int i,u=>∃t,u=Value.int i t
 |.str x,u=>∃t,u=Value.str x t
 |.byt b,u=>∃t,u=Value.bytes b t
 |.flt b,u=>∃t,u=Value.float b t
 |.ref a,u=>u=Value.ref a
 |.ty n,u=>u=Value.type n
abbrev Vals:List V->List Value->Prop:=Paired RelV
theorem Vals.length{xs:List V}{us:List Value}(r:Vals xs us):xs.length=us.length:=Paired.length r
theorem Vals.get:∀{xs:List V} {us:List Value} {i:Nat} {x:V},Vals xs us->xs[i]?=some x->∃u,us[i]?=some u/\RelV x u
 |_,_,_,_,.nil,e=>by simp at e
 |_,_,0,_,.cons r _,e=>by simp at e;subst e;exact⟨_,rfl,r⟩
 |_,_,i+1,x,.cons _ t,e=>by obtain⟨u,h1,h2⟩:=Vals.get (i:=i) (x:=x) t (by simpa using e);exact⟨u,by simpa using h1,h2⟩
theorem Vals.set{x:V}{u:Value}(r:RelV x u):∀{xs:List V} {us:List Value} (i:Nat),Vals xs us->Vals (xs.set i x) (us.set i u)
 |_,_,_,.nil=>.nil
 |_,_,0,.cons _ t=>.cons r t
 |_,_,i+1,.cons q t=>.cons q (Vals.set r i t)
theorem Vals.append:∀{xs ys:List V} {us ws:List Value},Vals xs us->Vals ys ws->Vals (xs++ys) (us++ws)
 |_,_,_,_,.nil,s=>s
 |_,_,_,_,.cons r t,s=>.cons r (Vals.append t s)
theorem Vals.take:∀{xs:List V} {us:List Value} (n:Nat),Vals xs us->Vals (xs.take n) (us.take n)
 |_,_,0,_=>.nil
 |_,_,_+1,.nil=>.nil
 |_,_,n+1,.cons r t=>.cons r (Vals.take n t)
theorem Vals.drop:∀{xs:List V} {us:List Value} (n:Nat),Vals xs us->Vals (xs.drop n) (us.drop n)
 |_,_,0,r=>r
 |_,_,_+1,.nil=>.nil
 |_,_,n+1,.cons _ t=>Vals.drop n t
theorem Vals.none_of:∀{xs:List V} {us:List Value} {i:Nat},Vals xs us->xs[i]?=none->us[i]?=none:=λ{xs us i} r e=>by have h1:=r.length;have h2:xs.length<=i:=List.getElem?_eq_none_iff.mp e;exact List.getElem?_eq_none_iff.mpr (by omega)
noncomputable def RelO:Option V->Option Value->Prop
 |some v,some u=>RelV v u
 |none,none=>True
 |_,_=>False
noncomputable def KV{κ:Type}:List (κ×V)->List (κ×Value)->Prop:=Paired λ(p:κ×V) (q:κ×Value)=>p.1=q.1/\RelV p.2 q.2
noncomputable def kV:Key->V
 |.inl i=>.int i
 |.inr x=>.str x
inductive HO where
 |lst (xs:List V)
 |tup (xs:List V)
 |dK (kvs:List (Key×V)) |dT (kvs:List (List Key×V))
 |set (S:Int->Bool) (n:Nat)
 |ins (C dx:Addr) (fs:List (Str×V))
 |own (x:Addr)
 |xd (fs:List (Str×V))
 |met (f x:Addr)
 |rng (lo hi:Int)
 |frz (o:Obj) (u:HO)
 |tbl (ps:Array Value)
 |ext (φ:Heap->Prop)
abbrev Hp:=Addr->Option HO
noncomputable def upd(H:Hp)(a:Addr)(o:HO):Hp:=λb=>if b=a then some o else H b
theorem ak{H:Hp}{a:Addr}{o:HO}:upd H a o a=some o:=by unfold upd;rw[if_pos rfl]
theorem upd_ne{H:Hp}{a b:Addr}{o:HO}(h:b≠a):upd H a o b=H b:=by unfold upd;rw[if_neg h]
theorem lA{H:Hp}{a:Addr}{o u:HO}:upd (upd H a o) a u=upd H a u:=by funext b;unfold upd;split<;>rfl
theorem aD{H:Hp}{a b:Addr}{o:HO}(h:H a=some o)(h':H b=none):a≠b:=by intro e;subst e;rw[h]at h';cases h'
section
variable (P:Program)(w:World)
noncomputable def ObjOk(H:Hp)(h:Heap)(a:Addr):HO->Prop
 |.lst xs=>xs.length<=sizeLine/\∃(its:List Value) (n:Nat),Vals xs its/\h.get? a=some { cls:=.type "list",data:=.seq its.toArray n }
 |.tup xs=>xs.length<=sizeLine/\∃its:List Value,Vals xs its/\IsTup h a its.toArray
 |.dK kvs=>kvs.length<=sizeLine/\(a == sysModules)=false/\∃vs,KV kvs vs/\h.DictOf (rz P w) a vs
 |.dT kvs=>kvs.length<=sizeLine/\(a == sysModules)=false/\∃xs:List (List Key×Addr×Value),
  Paired (λ(p:List Key×V) (q:List Key×Addr×Value)=>p.1=q.1/\H q.2.1=some (.tup (p.1.map kV))/\RelV p.2 q.2.2) kvs xs /\
  ∃o es ep,h.get? a=some o/\o.ExactDict/\o.data=.dict es ep/\es.toList=xs.map (entryOfKey (tupleKind (rz P w)))/\(xs.map (·.1)).Nodup
 |.set S n=>h.SetOf (intKind P w) a S n
 |.ins C dx fs=>H dx=some (.own a)/\fs.length<=1000/\dx≠a/\h.get? a=some (PySem.W.instObj C dx) /\
  ∃mA,h.Ns1 dx mA/\(∀f,RelO (fs.lookup f) (mA f))/\PySem.Within mA (fs.map (·.1))
 |.own _=>∃o,h.get? a=some o
 |.xd fs=>∃mA,h.Ns1 a mA/\∀f,RelO (fs.lookup f) (mA f)
 |.rng lo hi=>∃t u v,h.get? a=some { cls:=.type "range",data:=.fields #[.int lo t,.int hi u,.int 1 v] }
 |.frz o u=>h.get? a=some o/\ObjOk H h a u
 |.tbl ps=>h.get? a=some { cls:=.none,data:=.fields ps }
 |.met f x=>h.get? a=some (PySem.W.methodObj (.ref f) (.ref x))
 |.ext φ=>φ h/\(∃o,h.get? a=some o)/\∀h1 h2:Heap,φ h1->(∀o,h1.get? a=some o->h2.get? a=some o)->φ h2
def HOk(H:Hp)(h:Heap):Prop:=∀a o,H a=some o->ObjOk P w H h a o
end
section
variable {P:Program}{w:World}{H H':Hp}{h h':Heap}{a:Addr}{o:HO}
theorem ObjOk.lt(x:ObjOk P w H h a o):a<h.objs.size:=by
 cases o with
 |lst xs=>obtain⟨_,_,_,_,e⟩:=x;exact Heap.lt_size e
 |tup xs=>obtain⟨_,_,_,p⟩:=x;exact p.lt
 |dK kvs=>obtain⟨_,_,_,_,o,_,_,e,_⟩:=x;exact Heap.lt_size e
 |dT kvs=>obtain⟨_,_,_,_,o,_,_,e,_⟩:=x;exact Heap.lt_size e
 |set S n=>obtain⟨o,_,_,_,e,_⟩:=x;exact Heap.lt_size e
 |ins C dx fs=>obtain⟨_,_,_,e,_⟩:=x;exact Heap.lt_size e
 |own y=>obtain⟨_,e⟩:=x;exact Heap.lt_size e
 |xd fs=>obtain⟨_,⟨_,_,_,e,_⟩,_⟩:=x;exact Heap.lt_size e
 |rng lo hi=>obtain⟨_,_,_,e⟩:=x;exact Heap.lt_size e
 |frz ob u=>obtain⟨e,_⟩:=x;exact Heap.lt_size e
 |tbl ps=>exact Heap.lt_size (show h.get? a=some _ from x)
 |met f y=>exact Heap.lt_size (show h.get? a=some _ from x)
 |ext φ=>obtain⟨_,⟨_,e⟩,_⟩:=x;exact Heap.lt_size e
theorem Paired.mapP{α β:Type}{F G:α->β->Prop}:∀{l₁:List α} {l₂:List β},Paired F l₁ l₂->(∀a b,F a b->G a b)->Paired G l₁ l₂
 |_,_,.nil,_=>.nil
 |_,_,.cons r t,f=>.cons (f _ _ r) (Paired.mapP t f)
theorem ObjOk.stay(x:ObjOk P w H h a o)(k:∀b u,(b=a\/H b=some (.own a))->h.get? b=some u->h'.get? b=some u)
 (ho:∀b,H b=some (.own a)->H' b=some (.own a)) (ht:∀b xs,H b=some (.tup xs)->H' b=some (.tup xs)):ObjOk P w H' h' a o:=by
 induction o with
 |lst xs=>obtain⟨z,its,n,r,e⟩:=x;exact⟨z,its,n,r,k _ _ (.inl rfl) e⟩
 |tup xs=>obtain⟨z,its,r,ob,e,c⟩:=x;exact⟨z,its,r,ob,k _ _ (.inl rfl) e,c⟩
 |dK kvs=>obtain⟨z,y,vs,r,ob,es,ep,e,c⟩:=x;exact⟨z,y,vs,r,ob,es,ep,k _ _ (.inl rfl) e,c⟩
 |dT kvs =>obtain⟨z,y,xs,r,ob,es,ep,e,c⟩:=x;exact⟨z,y,xs,Paired.mapP r λp q z=>⟨z.1,ht _ _ z.2.1,z.2.2⟩,ob,es,ep,k _ _ (.inl rfl) e,c⟩
 |set S n=>obtain⟨ob,es,ep,t,e,c⟩:=x;exact⟨ob,es,ep,t,k _ _ (.inl rfl) e,c⟩
 |ins C dx fs =>obtain⟨d,z,ne,e,mA,⟨od,es,ep,e2,c⟩,r⟩:=x;exact⟨ho _ d,z,ne,k _ _ (.inl rfl) e,mA,⟨od,es,ep,k _ _ (.inr d) e2,c⟩,r⟩
 |own y=>obtain⟨ob,e⟩:=x;exact⟨ob,k _ _ (.inl rfl) e⟩
 |xd fs=>obtain⟨mA,⟨od,es,ep,e,c⟩,r⟩:=x;exact⟨mA,⟨od,es,ep,k _ _ (.inl rfl) e,c⟩,r⟩
 |rng lo hi=>obtain⟨t,u,v,e⟩:=x;exact⟨t,u,v,k _ _ (.inl rfl) e⟩
 |frz ob u ih=>obtain⟨e,q⟩:=x;exact⟨k _ _ (.inl rfl) e,ih q⟩
 |tbl ps =>have e:h.get? a=some { cls:=.none,data:=.fields ps }:=x;show h'.get? a=some { cls:=.none,data:=.fields ps };exact k a _ (.inl rfl) e
 |met f y =>have e:h.get? a=some (PySem.W.methodObj (.ref f) (.ref y)):=x;show h'.get? a=some (PySem.W.methodObj (.ref f) (.ref y));exact k a _ (.inl rfl) e
 |ext φ=>obtain⟨p,⟨o,e⟩,st⟩:=x;exact⟨st _ _ p λo q=>k _ _ (.inl rfl) q,⟨o,k _ _ (.inl rfl) e⟩,st⟩
theorem HOk.lt(x:HOk P w H h)(e:H a=some o):a<h.objs.size:=(x a o e).lt
theorem HOk.fresh(x:HOk P w H h)(e:h.objs.size<=a):H a=none:=by
 cases q:H a with
 |none=>rfl
 |some u=>exact absurd (Qi (x.lt q) e) (Qt _)
theorem HOk.kept(x:HOk P w H h)(k:∀b u,h.get? b=some u->h'.get? b=some u):HOk P w H h':=λa o e =>(x a o e).stay (λb u _ q=>k b u q) (λ_ q=>q) λ_ _ q=>q
theorem HOk.laid(x:HOk P w H h)(k:∀b u,h.get? b=some u->h'.get? b=some u)(hp:h.objs.size<=a)(new:ObjOk P w (upd H a o) h' a o):HOk P w (upd H a o) h':=λb u e=>by
 have hn:=x.fresh hp;by_cases hb:b=a
 ·subst hb;rw[ak]at e;cases e;exact new
 ·rw[upd_ne hb]at e;exact(x b u e).stay (λc v _ q=>k c v q) (λc q=>by rw[upd_ne (aD q hn)];exact q) λc xs q=>by rw[upd_ne (aD q hn)];exact q
end
def Rd(H:Hp)(a:Addr)(u:HO):Prop:=H a=some u\/∃o,H a=some (.frz o u)
theorem Rd.of{H:Hp}{a:Addr}{u:HO}(h:H a=some u):Rd H a u:=.inl h
theorem Rd.ok{P:Program}{w:World}{H:Hp}{h:Heap}{a:Addr}{u:HO}(r:Rd H a u)(x:HOk P w H h):ObjOk P w H h a u:=by
 rcases r with r |⟨o,r⟩
 ·exact x a u r
 ·obtain⟨_,q⟩:=x a _ r;exact q
noncomputable def Mut:Option HO->Prop
 |some (.lst _)=>True
 |some (.dK _)=>True
 |some (.dT _)=>True
 |some (.set _ _)=>True
 |some (.ins _ _ _)=>True
 |some (.ext _)=>True
 |_=>False
section
variable {P:Program}{w:World}{H:Hp}{h h':Heap}{x e:Addr}{o':HO}
theorem HOk.write(ok:HOk P w H h)(mu:Mut (H x))(he:e=x\/H e=some (.own x))(k:∀b u,b≠e->h.get? b=some u->h'.get? b=some u)(heo:∃u,h'.get? e=some u)
 (new:ObjOk P w (upd H x o') h' x o'):HOk P w (upd H x o') h':=λb u q=>by
 have nown:∀c y,H c=some (.own y)->c≠x:=λc y r z=>by subst z;rw[r]at mu;exact mu
 have ntup:∀c xs,H c=some (.tup xs)->c≠x:=λc xs r z=>by subst z;rw[r]at mu;exact mu
 by_cases hb:b=x
 ·subst hb;rw[ak]at q;cases q;exact new
 ·rw[upd_ne hb]at q;by_cases hbe:b=e
  ·have q':H b=some (.own x):=by
    rcases he with z |z
    ·exact absurd (hbe.trans z) hb
    ·rw[hbe];exact z
   rw[q]at q';cases q';obtain⟨v,hv⟩:=heo;exact⟨v,by rw[hbe];exact hv⟩
  ·refine(ok b u q).stay (λc v hc r=>k c v ?_ r) (λc r=>by rw[upd_ne (nown c b r)];exact r) λc xs r=>by rw[upd_ne (ntup c xs r)];exact r
   rcases hc with rfl |hc
   ·exact hbe
   ·rintro rfl;rcases he with z |z
    ·exact nown c b hc z
    ·rw[hc]at z;cases z;exact hb rfl
end
structure Un(fs ex:List Addr)(H H':Hp)(h h':Heap):Prop where
 keep:∀b o,h.get? b=some o->H b=none->b∉fs->b∉ex->h'.get? b=some o
 slot:∀b o,h.get? b=some o->H b=none->b∈fs->b∉ex->∃sl,h'.get? b=some { o with slots:=sl }
 free:∀b o,h.get? b=some o->H b=none->b∉ex->H' b=none
 there:∀b o,h.get? b=some o->b∉ex->∃o',h'.get? b=some o'
 tups:∀b xs,H b=some (.tup xs)->H' b=some (.tup xs)
 frzs:∀b o u,H b=some (.frz o u)->H' b=some (.frz o u)
 tbls:∀b ps,H b=some (.tbl ps)->∃more,H' b=some (.tbl (ps++more))
section
variable {fs fs' ex ex':List Addr}{H H1 H2:Hp}{h h1 h2 h':Heap}{a x e:Addr}{o:HO}
theorem Un.any(u:Un fs ex H H1 h h1){b:Addr}{ob:Obj}(q:h.get? b=some ob)(n:H b=none)(hx:b∉ex):∃sl,h1.get? b=some { ob with slots:=sl }:=by
 by_cases hb:b∈fs
 ·exact u.slot b ob q n hb hx
 ·exact⟨ob.slots,u.keep b ob q n hb hx⟩
theorem Un.trans(a:Un fs ex H H1 h h1)(b:Un fs ex H1 H2 h1 h2):Un fs ex H H2 h h2 where
 keep:=λc ob q n hc hx=>b.keep c ob (a.keep c ob q n hc hx) (a.free c ob q n hx) hc hx
 slot:=λc ob q n hc hx=>by obtain⟨sl,e1⟩:=a.slot c ob q n hc hx;obtain⟨sl',e2⟩:=b.slot c _ e1 (a.free c ob q n hx) hc hx;exact⟨sl',e2⟩
 free:=λc ob q n hx=>by obtain⟨o',e1⟩:=a.there c ob q hx;exact b.free c o' e1 (a.free c ob q n hx) hx
 there:=λc ob q hx=>by obtain⟨o',e1⟩:=a.there c ob q hx;exact b.there c o' e1 hx
 tups:=λc xs q=>b.tups c xs (a.tups c xs q)
 frzs:=λc ob xs q=>b.frzs c ob xs (a.frzs c ob xs q)
 tbls:=λc ps q=>by obtain⟨m1,e1⟩:=a.tbls c ps q;obtain⟨m2,e2⟩:=b.tbls c _ e1;exact⟨m1++m2,by rw[e2,Array.append_assoc]⟩
theorem Un.kept(k:∀b u,h.get? b=some u->h'.get? b=some u):Un fs ex H H h h' :=
 ⟨λb ob q _ _ _=>k b ob q,λb ob q _ _ _=>⟨ob.slots,k b ob q⟩,λ_ _ _ n _=>n,λb ob q _=>⟨ob,k b ob q⟩,λ_ _ q=>q,λ_ _ _ q=>q,λ_ ps q=>⟨#[],by rw[q];simp⟩⟩
theorem Un.refl:Un fs ex H H h h:=Un.kept λ_ _ q=>q
theorem Un.laid(k:∀b u,h.get? b=some u->h'.get? b=some u)(hp:h.objs.size<=a)(hn:H a=none):Un fs ex H (upd H a o) h h' where
 keep:=λb u q _ _ _=>k b u q
 slot:=λb u q _ _ _=>⟨u.slots,k b u q⟩
 free:=λb u q n _=>by rw[upd_ne (Qf (Qi (Heap.lt_size q) hp))];exact n
 there:=λb u q _=>⟨u,k b u q⟩
 tups:=λb xs q=>by rw[upd_ne (aD q hn)];exact q
 frzs:=λb u xs q=>by rw[upd_ne (aD q hn)];exact q
 tbls:=λb ps q=>⟨#[],by rw[upd_ne (aD q hn),q];simp⟩
theorem Un.write(mu:Mut (H x))(he:e=x\/H e=some (.own x))(k:∀b u,b≠e->h.get? b=some u->h'.get? b=some u)(heo:∃u,h'.get? e=some u):Un fs ex H (upd H x o) h h':=by
 have hx:∀b,H b=none->b≠x:=λb n z=>by subst z;rw[n]at mu;exact mu
 have hb:∀b,H b=none->b≠e:=λb n z=>by
  subst z;rcases he with r |r
  ·exact hx b n r
  ·rw[n]at r;cases r
 have hm:∀b u,H b=some u->¬Mut (some u)->b≠x:=λb u q nm z=>by subst z;rw[q]at mu;exact nm mu
 refine⟨λb u q n _ _=>k b u (hb b n) q,λb u q n _ _=>⟨u.slots,k b u (hb b n) q⟩,λb u q n _=>by rw[upd_ne (hx b n)];exact n,λb u q _=>?_,
  λb xs q=>by rw[upd_ne (hm b _ q λz=>z)];exact q,λb u xs q=>by rw[upd_ne (hm b _ q λz=>z)];exact q,λb ps q=>⟨#[],by rw[upd_ne (hm b _ q λz=>z),q];simp⟩⟩
 by_cases hbe:b=e
 ·subst hbe;exact heo
 ·exact⟨u,k b u hbe q⟩
theorem Un.mono(u:Un fs ex H H1 h h1)(hs:∀b∈fs,b∈fs')(hx:∀b∈ex,b∈ex'):Un fs' ex' H H1 h h1 :=
 ⟨λb ob q n hb he=>u.keep b ob q n (λz=>hb (hs b z)) λz=>he (hx b z),λ_ _ q n _ he=>u.any q n λz=>he (hx _ z),λb ob q n he=>u.free b ob q n λz=>he (hx b z),λb ob q he=>u.there b ob q λz=>he (hx b z),u.tups,u.frzs,u.tbls⟩
end
noncomputable def trk(h:Heap)(H:Hp):List Addr:=(List.range h.objs.size).filter λa=>(H a).isSome
noncomputable def eR(h:Heap)(H:Hp):Heap:=PySem.W.hideAll h (trk h H)
theorem Jb(h:Heap)(H:Hp):(eR h H).objs.size=h.objs.size:=PySem.W.hideAll_size _ _
theorem pz{h:Heap}{H:Hp}{b:Addr}{o:Obj}(e:h.get? b=some o)(n:H b=none):(eR h H).get? b=some o :=
 PySem.W.hideAll_get _ e λhm=>by have q:(H b).isSome=true:=(List.mem_filter.mp hm).2;rw[n]at q;simp at q
theorem FX{h:Heap}{H:Hp}{b:Addr}{o:Obj}(e:(eR h H).get? b=some o):h.get? b=some o/\H b=none:=by
 have e':h.get? b=some o:=PySem.W.of_hideAll (trk h H) e;refine⟨e',?_⟩;cases q:H b with
 |none=>rfl
 |some x =>have hm:b∈trk h H:=List.mem_filter.mpr ⟨QI.mpr (Heap.lt_size e'),by simp[q]⟩;have z:(eR h H).get? b=none:=PySem.W.hideAll_none (trk h H) hm;rw[z]at e;cases e
noncomputable def LX(g h:Heap)(L:Addr):List (Addr×Obj):=(List.range h.objs.size).filterMap λa=>if a=L\/(g.get? a).isSome=true then none else(h.get? a).map λo=>(a,o)
noncomputable def rest(g h:Heap)(L d:Addr):List (Addr×Obj):=(LX g h L).filter λp=>decide (p.1≠d)
structure Mod(K:PySem.W.Frag)(mg:Str->Option Value)(base:Heap):Prop where
 kin:K.In base
 glob:base.Ns mainGlobals mg
 blt:∃mb,base.Ns builtinsNs mb/\∀x:Str,x≠"__name__"->mb x=bootBuiltins x
 nolimit:base.NoLimit
structure Cx where
 prog:Program
 w:World
 K:PySem.W.Frag
 mg:Str->Option Value
 base:Heap
 A:Around
 N:List Str
 s₀:Shared
 H₀:Hp
 env:Env
 outer:List Env
 stack:List Env
 ex:List Addr
 fn:Str->Bool
 calm:Bool
 pn:List (Addr×Obj)
 xe:Value->Shared->Prop
noncomputable def frs(l:List Env):List Addr:=l.filterMap (·.frame)
abbrev Cx.fs(X:Cx):List Addr:=frs X.outer
def Vis(sc:Scope)(x:Str):Prop:=sc.names.lookup x=some .local\/sc.names.lookup x=some .cell\/sc.names.lookup x=some .free
def Loc(sc:Scope)(x:Str):Prop:=sc.names.lookup x=some .local\/sc.names.lookup x=some .cell
noncomputable def L8(env:Env)(h:Heap)(m:Str->Option Value)(x:Str)(u:Value):Prop :=
 (env.kindOf x=some .local/\m x=some u)\/((env.kindOf x=some .cell\/env.kindOf x=some .free)/\∃c,env.cells.lookup x=some c/\h.IsCell c (some u))
structure Cx.Ok(X:Cx):Prop where
 mod:Mod X.K X.mg X.base
 kind:X.env.scope.kind=.function
 glob:X.env.globals=mainGlobals
 blt:X.env.builtins=builtinsNs
 above:X.s₀.heap.objs.size<=X.env.locals
 inj:∀x y c,X.env.cells.lookup x=some c->X.env.cells.lookup y=some c->x=y
 has:∀x,(X.env.kindOf x=some .cell\/X.env.kindOf x=some .free)->∃c,X.env.cells.lookup x=some c
 cab:∀x c,X.fn x=true->X.env.cells.lookup x=some c->X.s₀.heap.objs.size<=c
 hd:X.calm=true->X.A.handled=none
 frames:X.A.frames=some X.stack
 stk:X.stack=X.outer\/(X.stack=X.env::X.outer/\X.env.frame=some X.env.locals)
 exf:∀b∈X.ex,b≠X.env.locals/\∀x c,X.env.cells.lookup x=some c->c≠b
 bs:∀b o,X.base.get? b=some o->X.s₀.heap.get? b=some o/\X.H₀ b=none
 bsz:X.base.objs.size<=X.s₀.heap.objs.size
 noex:∀b o,X.base.get? b=some o->b∉X.ex
 exfs:∀b∈X.ex,b∉X.fs
 funs:X.s₀.heap.FunFrames X.base X.outer
 frf:∀b∈X.fs,X.H₀ b=none
structure Inv(X:Cx)(pins:List (Addr×Obj))(σ:List (Option V))(H:Hp)(s:Shared):Prop where
 ok:X.Ok
 os:s.os=X.s₀.os
 bare:AllBare s.gens
 base:Un X.fs X.ex X.H₀ H X.s₀.heap s.heap
 loc:∃m,s.heap.Ns X.env.locals m/\∀(i:Nat) (x:Str) (v:V),X.N[i]?=some x->σ[i]?=some (some v)->Vis X.env.scope x->∃u,RelV v u/\L8 X.env s.heap m x u
 cell:∀x c,X.env.cells.lookup x=some c->∃v,s.heap.IsCell c v
 free:H X.env.locals=none
 freeC:∀x c,X.env.cells.lookup x=some c->H c=none
 pin:∀p∈X.pn++pins,s.heap.get? p.1=some p.2/\H p.1=none/\p.1≠X.env.locals/\p.1∉X.fs/\∀v,p.2.data≠.cell v
 hok:HOk X.prog X.w H s.heap
 len:σ.length=X.N.length
section
variable {X:Cx}{pins:List (Addr×Obj)}{σ:List (Option V)}{H H':Hp}{s:Shared}{h':Heap}
theorem Cx.Ok.nofr(ok:X.Ok){b:Addr}{o:Obj}(e:X.base.get? b=some o):b∉X.fs:=λhb=>by have:=(ok.funs.mem hb).1;rw[e]at this;cases this
theorem Inv.bs(I:Inv X pins σ H s):∀b o,X.base.get? b=some o->s.heap.get? b=some o/\H b=none:=λb o e =>⟨I.base.keep b o (I.ok.bs b o e).1 (I.ok.bs b o e).2 (I.ok.nofr e) (I.ok.noex b o e),I.base.free b o (I.ok.bs b o e).1 (I.ok.bs b o e).2 (I.ok.noex b o e)⟩
theorem Inv.bk(I:Inv X pins σ H s):∀b o,X.base.get? b=some o->s.heap.get? b=some o:=λb o e=>(I.bs b o e).1
theorem Inv.mod(I:Inv X pins σ H s):Mod X.K X.mg X.base:=I.ok.mod
theorem Inv.kIn(I:Inv X pins σ H s):X.K.In s.heap:=I.ok.mod.kin.keeps I.bk
theorem Inv.nolimit(I:Inv X pins σ H s):s.heap.NoLimit:=I.ok.mod.nolimit.keeps I.bk
theorem Inv.fr(I:Inv X pins σ H s):∃m,Fr X.base X.env.locals s.heap m :=
 let⟨m,hn,_⟩:=I.loc
 ⟨m,hn,I.bk,Qu I.ok.bsz I.ok.above⟩
theorem Inv.lt(I:Inv X pins σ H s):X.env.locals<s.heap.objs.size:=let⟨_,hn,_⟩:=I.loc;hn.lt
theorem Inv.sz(I:Inv X pins σ H s):X.s₀.heap.objs.size<=s.heap.objs.size:=Qu I.ok.above (QW I.lt)
theorem Inv.nofs(I:Inv X pins σ H s){a:Addr}(h:s.heap.objs.size<=a):a∉X.fs:=λhb=>by obtain⟨_,o,ho,_⟩:=I.ok.funs.mem hb;exact absurd (Qi (Heap.lt_size ho) (Qu I.sz h)) (Qt _)
theorem Inv.cne(I:Inv X pins σ H s):∀x c,X.env.cells.lookup x=some c->c≠X.env.locals:=λx c e z=>by obtain⟨v,o,ho,hd⟩:=I.cell x c e;obtain⟨m,⟨o',es,ep,ho',hd',_⟩,_⟩:=I.loc;rw[z,ho']at ho;cases ho;rw[hd']at hd;cases hd
theorem Inv.funs(I:Inv X pins σ H s):s.heap.FunFrames X.base X.outer:=by
 have all:∀(l:List Env),(∀b∈frs l,b∈X.fs)->X.s₀.heap.FunFrames X.base l->s.heap.FunFrames X.base l:=by
  intro l
  induction l with
  |nil=>intro _ _;trivial
  |cons env r ih =>
   intro hs hl;obtain⟨hk,⟨L,o,hf,hn,ho,hd⟩,hr⟩:=hl;have hL:L∈X.fs:=hs L (by unfold frs;rw[RI,hf];exact Qh);obtain⟨sl,e⟩:=I.base.slot L o ho (I.ok.frf L hL) hL λz=>I.ok.exfs L z hL
   exact⟨hk,⟨L,_,hf,hn,e,hd⟩,ih (λb hb=>hs b (by unfold frs;rw[RI,hf];exact Qb _ hb)) hr⟩
 exact all X.outer (λ_ hb=>hb) I.ok.funs
theorem Inv.stack(I:Inv X pins σ H s):s.heap.FunFrames X.base X.stack:=by
 rcases I.ok.stk with e |⟨e,hf⟩
 ·rw[e];exact I.funs
 ·rw[e];obtain⟨m,hn,_⟩:=I.loc;refine .cons (by rw[I.ok.kind];decide) hf hn ?_ I.funs;exact Heap.get?_none_of_le (Qu I.ok.bsz I.ok.above)
theorem Inv.stkSub(I:Inv X pins σ H s):∀b∈frs X.stack,b∈X.env.locals::X.fs:=λb hb=>by
 rcases I.ok.stk with e |⟨e,hf⟩
 ·rw[e]at hb;exact Qb _ hb
 ·rw[e]at hb;unfold frs at hb
  rw[RI,hf]at hb;exact hb
theorem Inv.stkFree(I:Inv X pins σ H s):∀b∈frs X.stack,H b=none:=λb hb=>by
 rcases P8.mp (I.stkSub b hb)with e |hb
 ·rw[e];exact I.free
 ·obtain⟨_,o,ho,_⟩:=I.ok.funs.mem hb;exact I.base.free b o ho (I.ok.frf b hb) λz=>I.ok.exfs b z hb
theorem Inv.step{g':Array GenState}{t':Nat}{d':Drawn}{ch:List Addr}(I:Inv X pins σ H s)
 (hch:∀b∈ch,(b∈X.ex\/X.s₀.heap.objs.size<=b)/\b≠X.env.locals/\(∀x c,X.env.cells.lookup x=some c->c≠b)/\∀p∈X.pn++pins,p.1≠b)
 (keep:∀b o,b≠X.env.locals->b∉X.fs->b∉ch->s.heap.get? b=some o->H b=none->h'.get? b=some o)
 (slot:∀b o,b≠X.env.locals->b∈X.fs->b∉ch->s.heap.get? b=some o->H b=none->∃sl,h'.get? b=some { o with slots:=sl }) (free:∀b o,b∉ch->s.heap.get? b=some o->H b=none->H' b=none)
 (there:∀b o,b∉ch->s.heap.get? b=some o->∃o',h'.get? b=some o')
 (tups:∀b xs,H b=some (.tup xs)->H' b=some (.tup xs)) (frzs:∀b o u,H b=some (.frz o u)->H' b=some (.frz o u)) (tbls:∀b ps,H b=some (.tbl ps)->∃more,H' b=some (.tbl (ps++more)))
 (ns:∀m,s.heap.Ns X.env.locals m->h'.Ns X.env.locals m) (hok:HOk X.prog X.w H' h') (hg:AllBare g') :
 Inv X pins σ H' { s with heap:=h',gens:=g',drawn:=d',toks:=t' }:=by
 have neL:∀b o,X.s₀.heap.get? b=some o->b≠X.env.locals:=λb o e=>Qf (Qi (Heap.lt_size e) I.ok.above)
 have neC:∀b o,X.s₀.heap.get? b=some o->b∉X.ex->b∉ch:=λb o e hx hb=>by
  rcases(hch b hb).1 with z |z
  ·exact hx z
  ·exact absurd (Qi (Heap.lt_size e) z) (Qt _)
 have cellK:∀x c,X.env.cells.lookup x=some c->∀v,s.heap.IsCell c v->h'.IsCell c v:=λx c e v ⟨o,ho,hd⟩=>by
  have nch:c∉ch:=λz=>(hch c z).2.2.1 x c e rfl
  by_cases hc:c∈X.fs
  ·obtain⟨sl,q⟩:=slot c o (I.cne x c e) hc nch ho (I.freeC x c e);exact⟨_,q,hd⟩
  ·exact⟨o,keep c o (I.cne x c e) hc nch ho (I.freeC x c e),hd⟩
 refine⟨I.ok,I.os,hg,⟨λb o e n hb hx=>?_,λb o e n hb hx=>?_,λb o e n hx=>?_,λb o e hx=>?_,λb xs e=>tups b xs (I.base.tups b xs e),λb o xs e=>frzs b o xs (I.base.frzs b o xs e),λb ps e=>?_⟩,?_,λx c e=>?_,?_,λx c e=>?_,λp hp=>?_,hok,I.len⟩
 ·exact keep b o (neL b o e) hb (neC b o e hx) (I.base.keep b o e n hb hx) (I.base.free b o e n hx)
 ·obtain⟨sl,e1⟩:=I.base.slot b o e n hb hx;obtain⟨sl',e2⟩:=slot b _ (neL b o e) hb (neC b o e hx) e1 (I.base.free b o e n hx);exact⟨sl',e2⟩
 ·obtain⟨o',e1⟩:=I.base.there b o e hx;exact free b o' (neC b o e hx) e1 (I.base.free b o e n hx)
 ·obtain⟨o',e1⟩:=I.base.there b o e hx;exact there b o' (neC b o e hx) e1
 ·obtain⟨m1,e1⟩:=I.base.tbls b ps e;obtain⟨m2,e2⟩:=tbls b _ e1;exact⟨m1++m2,by rw[e2,Array.append_assoc]⟩
 ·obtain⟨m,hn,hl⟩:=I.loc;refine⟨m,ns m hn,λi x v e1 e2 e3=>?_⟩;obtain⟨u,r,l⟩:=hl i x v e1 e2 e3;refine⟨u,r,?_⟩;rcases l with l |⟨k,c,e,z⟩
  ·exact .inl l
  ·exact .inr ⟨k,c,e,cellK x c e _ z⟩
 ·obtain⟨v,z⟩:=I.cell x c e;exact⟨v,cellK x c e v z⟩
 ·obtain⟨m,⟨o,_,_,ho,_⟩,_⟩:=I.loc;exact free _ o (λz=>(hch _ z).2.1 rfl) ho I.free
 ·obtain⟨v,o,ho,hd⟩:=I.cell x c e;exact free c o (λz=>(hch c z).2.2.1 x c e rfl) ho (I.freeC x c e)
 ·obtain⟨e,n,ne,nf,d⟩:=I.pin p hp;have nch:p.1∉ch:=λz=>(hch p.1 z).2.2.2 p hp rfl
  exact⟨keep p.1 p.2 ne nf nch e n,free p.1 p.2 nch e n,ne,nf,d⟩
theorem Inv.un{t':Nat}(I:Inv X pins σ H s)(u:Un X.fs [] H H' s.heap h')(hok:HOk X.prog X.w H' h'):Inv X pins σ H' { s with heap:=h',toks:=t' }:=by
 obtain⟨m,⟨o,es,ep,ho,r⟩,_⟩:=id I.loc;obtain⟨sl,hL⟩:=u.any ho I.free (by simp)
 exact I.step (g':=s.gens) (d':=s.drawn) (ch:=[]) (λ_ z=>nomatch z) (λb o _ hb _ e n=>u.keep b o e n hb (by simp)) (λb o _ hb _ e n=>u.slot b o e n hb (by simp)) (λb o _ e n=>u.free b o e n (by simp)) (λb o _ e=>u.there b o e (by simp)) u.tups u.frzs u.tbls (λm' hm=>by
  obtain⟨o',es',ep',ho',r'⟩:=hm;rw[ho]at ho';cases ho'
  exact⟨_,es',ep',hL,r'⟩) hok I.bare
theorem Inv.call{g':Array GenState}{t':Nat}{d':Drawn}{ch:List Addr}(I:Inv X pins σ H s)(u:Un (frs X.stack) ch H H' s.heap h')(hok:HOk X.prog X.w H' h')(hg:AllBare g')
 (hch:∀b∈ch,(b∈X.ex\/X.s₀.heap.objs.size<=b)/\b≠X.env.locals/\(∀x c,X.env.cells.lookup x=some c->c≠b)/\∀p∈X.pn++pins,p.1≠b) :
 Inv X pins σ H' { s with heap:=h',gens:=g',drawn:=d',toks:=t' }:=by
 obtain⟨m,⟨o,es,ep,ho,r⟩,_⟩:=id I.loc;obtain⟨sl,hL⟩:=u.any ho I.free λz=>(hch _ z).2.1 rfl
 exact I.step (ch:=ch) hch (λb o hL hb hc e n=>u.keep b o e n (λz=>(P8.mp (I.stkSub b z)).elim hL hb) hc) (λb o _ _ hc e n=>u.any e n hc) (λb o hc e n=>u.free b o e n hc) (λb o hc e=>u.there b o e hc) u.tups u.frzs u.tbls (λm' hm=>by
  obtain⟨o',es',ep',ho',r'⟩:=hm;rw[ho]at ho';cases ho'
  exact⟨_,es',ep',hL,r'⟩) hok hg
theorem Inv.turned{t':Nat}{it:Addr}(I:Inv X pins σ H s)(k:∀b o,b≠it->s.heap.get? b=some o->h'.get? b=some o)(hn:H it=none)(hL:it≠X.env.locals)
 (h1:it∈X.ex\/X.s₀.heap.objs.size<=it) (h2:∀x c,X.env.cells.lookup x=some c->c≠it) (h3:∀p∈X.pn++pins,p.1≠it):Inv X pins σ H { s with heap:=h',toks:=t' }:=by
 have nit:∀b u,H b=some u->b≠it:=λb u e z=>by rw[z,hn]at e;cases e
 refine I.step (g':=s.gens) (d':=s.drawn) (ch:=[it]) (λb hb=>?_) (λb o _ _ hc e _=>k b o (λz=>hc (by simp[z])) e) (λb o _ _ hc e _=>⟨o.slots,k b o (λz=>hc (by simp[z])) e⟩) (λ_ _ _ _ n=>n)
  (λb o hc e=>⟨o,k b o (λz=>hc (by simp[z])) e⟩) (λ_ _ e=>e) (λ_ _ _ e=>e) (λb ps e=>⟨#[],by rw[e];simp⟩) (λm hm=>?_) (λb u e=>?_) I.bare
 ·have e:b=it:=by simpa using hb
  subst e;exact⟨h1,hL,h2,h3⟩
 ·obtain⟨o,es,ep,ho,r⟩:=hm;exact⟨o,es,ep,k _ o (Ne.symm hL) ho,r⟩
 ·refine(I.hok b u e).stay (λc v hc q=>k c v ?_ q) (λ_ q=>q) λ_ _ q=>q
  rcases hc with z |z
  ·rw[z];exact nit b u e
  ·exact nit c _ z
theorem Inv.tok(I:Inv X pins σ H s)(t:Nat):Inv X pins σ H { s with toks:=t }:=I.un (h':=s.heap) (t':=t) Un.refl I.hok
theorem Inv.kept{t':Nat}(I:Inv X pins σ H s)(k:∀b u,s.heap.get? b=some u->h'.get? b=some u):Inv X pins σ H { s with heap:=h',toks:=t' }:=I.un (Un.kept k) (I.hok.kept k)
theorem Inv.laid{a:Addr}{o:HO}{t':Nat}(I:Inv X pins σ H s)(k:∀b u,s.heap.get? b=some u->h'.get? b=some u)(hp:s.heap.objs.size<=a)(new:ObjOk X.prog X.w (upd H a o) h' a o) :
 Inv X pins σ (upd H a o) { s with heap:=h',toks:=t' }:=I.un (Un.laid k hp (I.hok.fresh hp)) (I.hok.laid k hp new)
theorem Inv.write{x e:Addr}{o:HO}{t':Nat}(I:Inv X pins σ H s)(mu:Mut (H x))(he:e=x\/H e=some (.own x))(k:∀b u,b≠e->s.heap.get? b=some u->h'.get? b=some u)(heo:∃u,h'.get? e=some u)
 (new:ObjOk X.prog X.w (upd H x o) h' x o):Inv X pins σ (upd H x o) { s with heap:=h',toks:=t' }:=I.un (Un.write mu he k heo) (I.hok.write mu he k heo new)
theorem Inv.weak{σ':List (Option V)}(I:Inv X pins σ H s)(hl:σ'.length=σ.length)(w:∀(i:Nat) v,σ'[i]?=some (some v)->σ[i]?=some (some v)):Inv X pins σ' H s :=
 ⟨I.ok,I.os,I.bare,I.base,let⟨m,hn,hl'⟩:=I.loc;⟨m,hn,λi x v e1 e2 e3=>hl' i x v e1 (w i v e2) e3⟩,I.cell,I.free,I.freeC,I.pin,I.hok,hl.trans I.len⟩
theorem Inv.pins_of{pins':List (Addr×Obj)}(I:Inv X pins σ H s)(h:∀p∈pins',s.heap.get? p.1=some p.2/\H p.1=none/\p.1≠X.env.locals/\p.1∉X.fs/\∀v,p.2.data≠.cell v):Inv X pins' σ H s :=
 ⟨I.ok,I.os,I.bare,I.base,I.loc,I.cell,I.free,I.freeC,λp hp=>(Qk.mp hp).elim (λz=>I.pin p (Q6 _ z)) (h p),I.hok,I.len⟩
theorem re{N:List Str}(hN:N.Nodup){i j:Nat}{x:Str}(a:N[i]?=some x)(b:N[j]?=some x):i=j:=by obtain⟨h1,e1⟩:=List.getElem?_eq_some_iff.mp a;obtain⟨h2,e2⟩:=List.getElem?_eq_some_iff.mp b;exact(List.getElem_inj hN).mp (e1.trans e2.symm)
theorem vj{M:Model}{A:Around}{E:Value->Shared->Prop}{i:Nat}{x:Str}{v:V}{u:Value}{Q:Unit->Shared->Prop}(I:Inv X pins σ H s)(hN:X.N.Nodup)(hi:X.N[i]?=some x)(hx:Loc X.env.scope x)(r:RelV v u)
 (h:∀s',Inv X pins (σ.set i (some v)) H s'->(∃a,Heap.SameBut a s.heap s'.heap/\(a=X.env.locals\/X.env.cells.lookup x=some a))->Q () s') (hf:X.fn x=true\/X.env.scope.names.lookup x=some .local:=by first |exact .inl rfl |exact .inr rfl |assumption):wpAny M A (storeName X.env x u) Q E s:=by
 obtain⟨m,hn,hl⟩:=id I.loc;have hcls:(X.env.scope.kind == .class || (X.env.scope.kind == .module&&X.env.locals != X.env.globals))=false:=by rw[I.ok.kind];rfl
 have hiσ:i<σ.length:=by rw[I.len];exact(List.getElem?_eq_some_iff.mp hi).1
 have cne:=I.cne
 have tracked:∀{a:Addr} {h':Heap},(∃o,s.heap.get? a=some o/\H a=none)->Heap.SameBut a s.heap h'->HOk X.prog X.w H h':=λ{a h'} ha hs b ob e=>by
  obtain⟨_,_,hfree⟩:=ha;refine(I.hok b ob e).stay (λc w' hc q=>(hs.2 c ?_).trans q) (λ_ q=>q) λ_ _ q=>q
  rintro rfl;rcases hc with rfl |hc
  ·rw[hfree]at e;cases e
  ·rw[hfree]at hc;cases hc
 rcases hx with hk |hk
 ·refine wpAny_storeName_local hk hn (λh' hn' hs=>?_) hcls;obtain⟨oL,_,_,hoL,_⟩:=id hn;refine h _ ⟨I.ok,I.os,I.bare,⟨λb o e n hb hx=>?_,λb o e n hb hx=>?_,I.base.free,λb o e hx=>?_,I.base.tups,I.base.frzs,I.base.tbls⟩,⟨_,hn',λj y v' e1 e2 e3=>?_⟩,λy c e=>?_,I.free,I.freeC,λp hp=>?_,tracked ⟨oL,hoL,I.free⟩ hs,by simpa using I.len⟩ ⟨_,hs,.inl rfl⟩
  ·exact(hs.2 b (Qf (Qi (Heap.lt_size e) I.ok.above))).trans (I.base.keep b o e n hb hx)
  ·obtain⟨sl,e1⟩:=I.base.slot b o e n hb hx;exact⟨sl,(hs.2 b (Qf (Qi (Heap.lt_size e) I.ok.above))).trans e1⟩
  ·obtain⟨o',e1⟩:=I.base.there b o e hx;exact⟨o',(hs.2 b (Qf (Qi (Heap.lt_size e) I.ok.above))).trans e1⟩
  ·by_cases hj:j=i
   ·subst hj;rw[hi]at e1;cases e1;rw[List.getElem?_set_self hiσ]at e2;cases e2;exact⟨u,r,.inl ⟨hk,by simp⟩⟩
   ·rw[List.getElem?_set_ne (Ne.symm hj)]at e2;obtain⟨u',r',q⟩:=hl j y v' e1 e2 e3;refine⟨u',r',?_⟩;rcases q with⟨k,e⟩ |⟨k,c,e,z⟩
    ·refine .inl ⟨k,?_⟩;have:y≠x:=λe=>hj (re hN e1 (e ▸ hi))
     simp[this,e]
    ·exact .inr ⟨k,c,e,z.sameBut hs (cne y c e)⟩
  ·obtain⟨w',z⟩:=I.cell y c e;exact⟨w',z.sameBut hs (cne y c e)⟩
  ·obtain⟨e,n,ne,nf,d⟩:=I.pin p hp;exact⟨(hs.2 p.1 ne).trans e,n,ne,nf,d⟩
 ·have hfn:X.fn x=true:=by
   rcases hf with z |z
   ·exact z
   ·rw[z]at hk;cases hk
  obtain⟨c,hc⟩:=I.ok.has x (.inl hk);obtain⟨w',z⟩:=I.cell x c hc;refine wpAny_storeName_cell I.ok.kind hk hc z (λh' hc' hs=>?_);obtain⟨oc,hoc,hocd⟩:=id z;refine h { s with heap:=h' } ⟨I.ok,I.os,I.bare,⟨λb o e n hb hx=>?_,λb o e n hb hx=>?_,I.base.free,λb o e hx=>?_,I.base.tups,I.base.frzs,I.base.tbls⟩,⟨m,hn.sameBut hs (Ne.symm (cne x c hc)),λj y v' e1 e2 e3=>?_⟩,λy c' e=>?_,I.free,I.freeC,λp hp=>?_,tracked ⟨oc,hoc,I.freeC x c hc⟩ hs,by simpa using I.len⟩ ⟨c,hs,.inr hc⟩
  ·exact(hs.2 b (Qf (Qi (Heap.lt_size e) (I.ok.cab x c hfn hc)))).trans (I.base.keep b o e n hb hx)
  ·obtain⟨sl,e1⟩:=I.base.slot b o e n hb hx;exact⟨sl,(hs.2 b (Qf (Qi (Heap.lt_size e) (I.ok.cab x c hfn hc)))).trans e1⟩
  ·obtain⟨o',e1⟩:=I.base.there b o e hx;exact⟨o',(hs.2 b (Qf (Qi (Heap.lt_size e) (I.ok.cab x c hfn hc)))).trans e1⟩
  ·by_cases hj:j=i
   ·subst hj;rw[hi]at e1;cases e1;rw[List.getElem?_set_self hiσ]at e2;cases e2;exact⟨u,r,.inr ⟨.inl hk,c,hc,hc'⟩⟩
   ·rw[List.getElem?_set_ne (Ne.symm hj)]at e2;obtain⟨u',r',q⟩:=hl j y v' e1 e2 e3;refine⟨u',r',?_⟩;rcases q with q |⟨k,c',e,z'⟩
    ·exact .inl q
    ·refine .inr ⟨k,c',e,z'.sameBut hs ?_⟩;rintro rfl;exact hj (re hN e1 (I.ok.inj _ _ _ e hc ▸ hi))
  ·by_cases hcc:c'=c
   ·subst hcc;exact⟨_,hc'⟩
   ·obtain⟨w2,z2⟩:=I.cell y c' e;exact⟨w2,z2.sameBut hs hcc⟩
  ·obtain⟨e,n,ne,nf,d⟩:=I.pin p hp;refine⟨(hs.2 p.1 ?_).trans e,n,ne,nf,d⟩;intro q;rw[q,hoc]at e;have q':oc=p.2:=Option.some.inj e;exact d w' (by rw[<- q'];exact hocd)
theorem lG{M:Model}{A:Around}{E:Value->Shared->Prop}{i:Nat}{x:Str}{v:V}{u:Value}{Q:Unit->Shared->Prop}(I:Inv X pins σ H s)(hN:X.N.Nodup)(hi:X.N[i]?=some x)(hx:Loc X.env.scope x)(r:RelV v u)
 (h:∀s',Inv X pins (σ.set i (some v)) H s'->Q () s') (hf:X.fn x=true\/X.env.scope.names.lookup x=some .local:=by first |exact .inl rfl |exact .inr rfl |assumption):wpAny M A (storeName X.env x u) Q E s :=
 vj I hN hi hx r (λs' I' _=>h s' I') hf
theorem Inv.call'{s':Shared}{ch:List Addr}(I:Inv X pins σ H s)(ho:s'.os=s.os)(u:Un (frs X.stack) ch H H' s.heap s'.heap)(hok:HOk X.prog X.w H' s'.heap)(hg:AllBare s'.gens)
 (hch:∀b∈ch,(b∈X.ex\/X.s₀.heap.objs.size<=b)/\b≠X.env.locals/\(∀x c,X.env.cells.lookup x=some c->c≠b)/\∀p∈X.pn++pins,p.1≠b):Inv X pins σ H' s':=by
 obtain⟨h',g',d',t',o'⟩:=s';have e:o'=s.os:=ho;subst e;exact I.call (g':=g') (t':=t') (d':=d') u hok hg hch
end
abbrev XK:=Value->Option Addr->Hp->Prop
abbrev St:=List (Option V)
abbrev VK:=V->Hp->Prop
abbrev TE:=St->Hp->VK->Prop
abbrev TT:=St->Hp->(Bool->Hp->Prop)->Prop
abbrev TA:=St->Hp->(List V->Hp->Prop)->Prop
structure Ends where
 nx:St->Hp->Prop
 rt:VK
 bk:St->Hp->Prop:=λ_ _=>False
 ct:St->Hp->Prop:=λ_ _=>False
abbrev TS:=Ends->St->Hp->Prop
def EP(X:Cx)(pins:List (Addr×Obj))(σ:St)(Q:VK)(u:Value)(s':Shared):Prop:=∃v H',Inv X pins σ H' s'/\RelV v u/\Q v H'
def TP(X:Cx)(pins:List (Addr×Obj))(σ:St)(Q:Bool->Hp->Prop)(b:Bool)(s':Shared):Prop:=∃H',Inv X pins σ H' s'/\Q b H'
def AP(X:Cx)(pins:List (Addr×Obj))(σ:St)(Q:List V->Hp->Prop)(us:List Value)(s':Shared):Prop:=∃vs H',Inv X pins σ H' s'/\Vals vs us/\Q vs H'
noncomputable def SP(X:Cx)(pins:List (Addr×Obj))(D:Ends)(f:Flow)(s':Shared):Prop :=
 match f with
 |.next=>∃σ' H',Inv X pins σ' H' s'/\D.nx σ' H'
 |.brk=>∃σ' H',Inv X pins σ' H' s'/\D.bk σ' H'
 |.cont=>∃σ' H',Inv X pins σ' H' s'/\D.ct σ' H'
 |.ret u=>∃v σ' H',Inv X pins σ' H' s'/\RelV v u/\D.rt v H'
noncomputable def PE(X:Cx)(e:Expr)(t:TE):Prop :=
 ∀(pins:List (Addr×Obj)) (s:Shared) (σ:St) (H:Hp) (Q:VK),Inv X pins σ H s->t σ H Q->wpAny (model X.prog X.w) X.A (eval e X.env) (EP X pins σ Q) X.xe s
noncomputable def PT(X:Cx)(e:Expr)(t:TT):Prop :=
 ∀(pins:List (Addr×Obj)) (s:Shared) (σ:St) (H:Hp) (Q:Bool->Hp->Prop),Inv X pins σ H s->t σ H Q->wpAny (model X.prog X.w) X.A (isTrue e X.env (eval e X.env)) (TP X pins σ Q) X.xe s
noncomputable def PW(X:Cx)(e:Expr)(t:TT):Prop :=
 ∀(whole:Sem Value) (pins:List (Addr×Obj)) (s:Shared) (σ:St) (H:Hp) (Q:Bool->Hp->Prop),Inv X pins σ H s->t σ H Q->wpAny (model X.prog X.w) X.A (isTrue e X.env whole) (TP X pins σ Q) X.xe s
theorem PW.pt{X:Cx}{e:Expr}{t:TT}(h:PW X e t):PT X e t:=h _
noncomputable def PA(X:Cx)(es:List Expr)(t:TA):Prop :=
 ∀(pos:Pos) (pins:List (Addr×Obj)) (s:Shared) (σ:St) (H:Hp) (Q:List V->Hp->Prop),Inv X pins σ H s->t σ H Q->wpAny (model X.prog X.w) X.A (spliced (backTo pos (starEach es X.env))) (AP X pins σ Q) X.xe s
noncomputable def PS(X:Cx)(st:Stmt)(t:TS):Prop :=
 ∀(pins:List (Addr×Obj)) (s:Shared) (σ:St) (H:Hp) (D:Ends),Inv X pins σ H s->t D σ H->wpAny (model X.prog X.w) X.A (exec st X.env) (SP X pins D) X.xe s
noncomputable def PSs(X:Cx)(st:List Stmt)(t:TS):Prop :=
 ∀(pins:List (Addr×Obj)) (s:Shared) (σ:St) (H:Hp) (D:Ends),Inv X pins σ H s->t D σ H->wpAny (model X.prog X.w) X.A (execs st X.env) (SP X pins D) X.xe s
theorem thn{α:Type}{t:Sem α}{Q Q':α->Shared->Prop}{M:Model}{A:Around}{E:Value->Shared->Prop}{s:Shared}(h:wpAny M A t Q E s)(hQ:∀a s,Q a s->Q' a s):wpAny M A t Q' E s:=wpAny_mono h hQ λ_ _ x=>x
section
variable {X:Cx}
def lE(i:Nat):TE:=λσ H Q=>∃v,σ[i]?=some (some v)/\Q v H
def tC(v:V):TE:=λ_ H Q=>Q v H
theorem qX{i:Nat}{x:Str}{pos:Pos}(hN:X.N[i]?=some x)(hv:Vis X.env.scope x)(hd:(x == ("__debug__":Str))=false:=by decide)(hcd:(x == ("__classdict__":Str))=false:=by decide):PE X (.Name x pos) (lE i):=by
 intro pins s σ H Q I h;obtain⟨v,e,h⟩:=h;obtain⟨m,hn,hl⟩:=I.loc;obtain⟨u,r,l⟩:=hl i x v hN e hv;have fin:EP X pins σ Q u s:=⟨v,H,I,r,h⟩;rcases l with⟨hk,hm⟩ |⟨hk,c,hc,hcell⟩
 ·exact wpAny_Name (wpAny_loadName_local I.ok.kind hk hn hm fin) hd
 ·rcases hk with hk |hk
  ·exact wpAny_Name (wpAny_loadName_cell I.ok.kind hk hc hcell fin) hd
  ·exact wpAny_Name (wpAny_loadName_free I.ok.kind hk hc hcell fin hcd) hd
theorem ae{i j pos}:PE X (.Constant (.int i) j pos) (tC (.int i)):=λ_ _ _ H _ I h=>wpAny_Constant_int ⟨.int i,H,I.tok _,⟨_,rfl⟩,h⟩
theorem dQ{b j pos}:PE X (.Constant (.bool b) j pos) (tC (.bl b)):=λ_ _ _ H _ I h=>Constant_bool ⟨.bl b,H,I,rfl,h⟩
theorem wS{j pos}:PE X (.Constant .none j pos) (tC .non):=λ_ _ _ H _ I h=>Constant_none ⟨.non,H,I,rfl,h⟩
def Gl(X:Cx)(x:Str):Prop:=X.env.kindOf x=some .globalImplicit
theorem iP{E:Value->Shared->Prop}{pins:List (Addr×Obj)}{s:Shared}{σ:St}{H:Hp}{x:Str}{u:Value}{pos:Pos}{Q:Value->Shared->Prop}(I:Inv X pins σ H s)(hg:Gl X x)(hm:X.mg x=some u)(h:Q u s)
 (hd:(x == ("__debug__":Str))=false:=by decide):wpAny (model X.prog X.w) X.A (eval (.Name x pos) X.env) Q E s :=
 Calls.Name_function_global I.ok.kind hg (Calls.loadGlobal_global (by rw[I.ok.glob];exact I.mod.glob.keeps I.bk) hm h) hd
theorem dU{E:Value->Shared->Prop}{pins:List (Addr×Obj)}{s:Shared}{σ:St}{H:Hp}{x:Str}{u:Value}{pos:Pos}{Q:Value->Shared->Prop}(I:Inv X pins σ H s)(hg:Gl X x)(hm:X.mg x=none)(hv:bootBuiltins x=some u)(h:Q u s)
 (hn:x≠"__name__":=by decide) (hd:(x == ("__debug__":Str))=false:=by decide):wpAny (model X.prog X.w) X.A (eval (.Name x pos) X.env) Q E s:=by
 obtain⟨mb,h1,h2⟩:=I.mod.blt;exact Calls.Name_function_global I.ok.kind hg (Calls.loadGlobal_builtin (by rw[I.ok.glob];exact I.mod.glob.keeps I.bk) hm (by rw[I.ok.blt];exact h1.keeps I.bk) ((h2 x hn).trans hv) h) hd
theorem f8{x:Str}{v:V}{u:Value}{pos:Pos}(hg:Gl X x)(hm:X.mg x=some u)(r:RelV v u)(hd:(x == ("__debug__":Str))=false:=by decide):PE X (.Name x pos) (tC v) :=
 λ_ _ _ H _ I h=>iP I hg hm ⟨v,H,I,r,h⟩ hd
theorem iI{x:Str}{v:V}{u:Value}{pos:Pos}(hg:Gl X x)(hm:X.mg x=none)(hv:bootBuiltins x=some u)(r:RelV v u)(hn:x≠"__name__":=by decide)(hd:(x == ("__debug__":Str))=false:=by decide):PE X (.Name x pos) (tC v) :=
 λ_ _ _ H _ I h=>dU I hg hm hv ⟨v,H,I,r,h⟩ hn hd
variable {a b:Expr}{ta tb:TE}{pos:Pos}
def tB(t:TE):TT:=λσ H Q=>t σ H λx H1=>∃c,x=.bl c/\Q c H1
theorem cH{e:Expr}{t:TE}(h:PE X e t)(he:∀whole,isTrue e X.env whole=(do let v <- whole;standAt e.pos;holding [v] (truthy v)):=by intro _;rfl):PT X e (tB t):=by intro pins s σ H Q I hw;refine isTrue_plain (thn (h pins s σ H _ I hw) λv s1 ⟨x,H1,I1,r1,q1⟩=>?_) (he _);obtain⟨d,rfl,q⟩:=q1;cases r1;exact wpAny_truthy_bool ⟨H1,I1,q⟩
variable {tA tB':TT}{rest:List Expr}
def vf(t u:TT):TT:=λσ H Q=>t σ H λc H1=>if c=true then u σ H1 Q else Q false H1
def tOr(t u:TT):TT:=λσ H Q=>t σ H λc H1=>if c=true then Q true H1 else u σ H1 Q
def u7(t:TT):TT:=λσ H Q=>t σ H λc H1=>Q (!c) H1
theorem jv(ha:PT X a tA):PW X (.BoolOp .And [a] pos) tA:=by
 intro wh pins s σ H Q I h;refine isTrue_and (thn (ha pins s σ H Q I h) λc s1 e=>?_);cases c with
 |true=>exact isTrue_and_nil e
 |false=>exact e
theorem jt(ha:PT X a tA):PW X (.BoolOp .Or [a] pos) tA:=by
 intro wh pins s σ H Q I h;refine isTrue_or (thn (ha pins s σ H Q I h) λc s1 e=>?_);cases c with
 |false=>exact isTrue_or_nil e
 |true=>exact e
theorem jw(ha:PT X a tA)(hb:PW X (.BoolOp .And (b::rest) pos) tB'):PW X (.BoolOp .And (a::b::rest) pos) (vf tA tB'):=by
 intro wh pins s σ H Q I h;refine isTrue_and (thn (ha pins s σ H _ I h) λc s1 ⟨H1,I1,q1⟩=>?_);cases c with
 |true=>exact hb wh pins s1 σ H1 Q I1 q1
 |false=>exact⟨H1,I1,q1⟩
theorem ju(ha:PT X a tA)(hb:PW X (.BoolOp .Or (b::rest) pos) tB'):PW X (.BoolOp .Or (a::b::rest) pos) (tOr tA tB'):=by
 intro wh pins s σ H Q I h;refine isTrue_or (thn (ha pins s σ H _ I h) λc s1 ⟨H1,I1,q1⟩=>?_);cases c with
 |true=>exact⟨H1,I1,q1⟩
 |false=>exact hb wh pins s1 σ H1 Q I1 q1
theorem dD(ha:PT X a tA):PT X (.UnaryOp .Not a pos) (u7 tA):=by intro pins s σ H Q I h;exact isTrue_not (ha pins s σ H (λc H1=>Q (!c) H1) I h)
def vc(ta tb:TE):TE:=λσ H Q=>ta σ H λx H1=>∃c,x=.bl c/\if c=true then tb σ H1 Q else Q (.bl false) H1
def u0(ta:TE):TE:=λσ H Q=>ta σ H λx H1=>∃c,x=.bl c/\Q (.bl (!c)) H1
theorem iH{op}{t:TE}(h:PE X a t):PE X (.BoolOp op [a] pos) t:=λpins s σ H Q I hw=>BoolOp_one (h pins s σ H Q I hw)
theorem f9(ha:PE X a ta)(hb:PE X (.BoolOp .And (b::rest) pos) tb):PE X (.BoolOp .And (a::b::rest) pos) (vc ta tb):=by
 intro pins s σ H Q I h;refine BoolOp_and (thn (ha pins s σ H _ I h) λv s1 ⟨x,H1,I1,r1,q1⟩=>?_);obtain⟨c,rfl,q1⟩:=q1;cases r1;refine wpAny_truthy_bool ?_;cases c with
 |true=>exact hb pins s1 σ H1 Q I1 q1
 |false=>exact⟨.bl false,H1,I1,rfl,q1⟩
theorem D1(ha:PE X a ta):PE X (.UnaryOp .Not a pos) (u0 ta):=by intro pins s σ H Q I h;refine UnaryOp_ (thn (ha pins s σ H _ I h) λv s1 ⟨x,H1,I1,r1,q1⟩=>?_);obtain⟨c,rfl,q1⟩:=q1;cases r1;exact not_of (wpAny_truthy_bool ⟨.bl (!c),H1,I1,rfl,q1⟩)
def tIf(t:TT)(ta tb:TE):TE:=λσ H Q=>t σ H λc H1=>if c=true then ta σ H1 Q else tb σ H1 Q
theorem oE{c:Expr}(hc:PT X c tA)(ha:PE X a ta)(hb:PE X b tb):PE X (.IfExp c a b pos) (tIf tA ta tb):=by
 intro pins s σ H Q I h;refine wpAny_IfExp (thn (hc pins s σ H _ I h) λd s1 ⟨H1,I1,q1⟩=>?_);cases d with
 |true=>exact ha pins s1 σ H1 Q I1 q1
 |false=>exact hb pins s1 σ H1 Q I1 q1
end
noncomputable def SqL(K:PySem.W.Frag)(H:Hp)(a:Addr)(xs:List V):Prop :=
 Rd H a (.lst xs) \/
  ∃(o:Obj) (its:Array Value) (n:Nat),K.lookup a=some o/\o.cls=.type "list"/\o.dict=none/\o.data=.seq its n/\its.size<=sizeLine/\Vals xs its.toList
noncomputable def SqT(K:PySem.W.Frag)(H:Hp)(a:Addr)(xs:List V):Prop :=
 Rd H a (.tup xs) \/
  ∃(o:Obj) (its:Array Value) (n:Nat),K.lookup a=some o/\o.cls=.type "tuple"/\o.data=.seq its n/\its.size<=sizeLine/\Vals xs its.toList
noncomputable def LZ:Value->Option V
 |.none=>some .non
 |.bool b=>some (.bl b)
 |.int i _=>some (.int i)
 |.str x _=>some (.str x)
 |.bytes b _=>some (.byt b)
 |.float b _=>some (.flt b)
 |.ref a=>some (.ref a)
 |.type n=>some (.ty n)
 |_=>none
theorem RelV.abs{x:V}{u:Value}(r:RelV x u):LZ u=some x:=by
 cases x with
 |non=>cases r;rfl
 |bl _=>cases r;rfl
 |int _=>obtain⟨t,rfl⟩:=r;rfl
 |str _=>obtain⟨t,rfl⟩:=r;rfl
 |byt _=>obtain⟨t,rfl⟩:=r;rfl
 |flt _=>obtain⟨t,rfl⟩:=r;rfl
 |ref _=>cases r;rfl
 |ty _=>cases r;rfl
theorem RelV.inj{x y:V}{u:Value}(r:RelV x u)(q:RelV y u):x=y:=Option.some.inj (r.abs.symm.trans q.abs)
theorem Vals.inj:∀{xs ys:List V} {us:List Value},Vals xs us->Vals ys us->xs=ys
 |_,_,_,.nil,.nil=>rfl
 |_,_,_,.cons r t,.cons r' t'=>by rw[r.inj r',Vals.inj t t']
section
variable {X:Cx}{pins:List (Addr×Obj)}{σ:St}{H:Hp}{s:Shared}{a:Addr}{xs ys:List V}
theorem SqL.of{K:PySem.W.Frag}(h:H a=some (.lst xs)):SqL K H a xs:=.inl (.inl h)
theorem SqT.of{K:PySem.W.Frag}(h:H a=some (.tup xs)):SqT K H a xs:=.inl (.inl h)
theorem Inv.list(I:Inv X pins σ H s)(h:SqL X.K H a xs):∃its:List Value,Vals xs its/\PlainL s.heap a its.toArray/\xs.length<=sizeLine:=by
 rcases h with h |⟨o,its,n,hk,hc,hd,hs,hz,r⟩
 ·obtain⟨z,its,n,r,e⟩:=h.ok I.hok;exact⟨its,r,⟨_,n,e,rfl,rfl,rfl⟩,z⟩
 ·refine⟨its.toList,r,⟨o,n,I.kIn a o hk,hc,hd,by simpa using hs⟩,?_⟩;have e:=r.length;simp only[Array.length_toList]at e;omega
theorem Inv.tuple(I:Inv X pins σ H s)(h:SqT X.K H a xs):∃its:List Value,Vals xs its/\IsTup s.heap a its.toArray/\xs.length<=sizeLine:=by
 rcases h with h |⟨o,its,n,hk,hc,hs,hz,r⟩
 ·obtain⟨z,its,r,p⟩:=h.ok I.hok;exact⟨its,r,p,z⟩
 ·refine⟨its.toList,r,⟨o,I.kIn a o hk,hc,n,by simpa using hs⟩,?_⟩;have e:=r.length;simp only[Array.length_toList]at e;omega
theorem Inv.list_inj(I:Inv X pins σ H s)(h:SqL X.K H a xs)(h':SqL X.K H a ys):xs=ys:=by
 obtain⟨its,r,⟨o,n,e,_,_,d⟩,_⟩:=I.list h;obtain⟨its',r',⟨o',n',e',_,_,d'⟩,_⟩:=I.list h';rw[e]at e';cases e';rw[d]at d'
 injection d' with d1 _
 have:its=its':=by simpa using congrArg Array.toList d1
 subst this;exact r.inj r'
theorem Inv.tuple_inj(I:Inv X pins σ H s)(h:SqT X.K H a xs)(h':SqT X.K H a ys):xs=ys:=by
 obtain⟨its,r,⟨o,e,_,n,d⟩,_⟩:=I.tuple h;obtain⟨its',r',⟨o',e',_,n',d'⟩,_⟩:=I.tuple h';rw[e]at e';cases e';rw[d]at d'
 injection d' with d1 _
 have:its=its':=by simpa using congrArg Array.toList d1
 subst this;exact r.inj r'
end
abbrev Cx.wish(X:Cx)(E:Value->Shared->Prop):Cx:={ X with xe:=E }
abbrev Cx.nox(X:Cx):Cx:=X.wish λ_ _=>False
theorem Cx.Ok.wish{X:Cx}(ok:X.Ok)(E:Value->Shared->Prop):(X.wish E).Ok :=
 ⟨ok.mod,ok.kind,ok.glob,ok.blt,ok.above,ok.inj,ok.has,ok.cab,ok.hd,ok.frames,ok.stk,ok.exf,ok.bs,ok.bsz,ok.noex,ok.exfs,ok.funs,ok.frf⟩
theorem Cx.Ok.unwish{X:Cx}{E:Value->Shared->Prop}(ok:(X.wish E).Ok):X.Ok :=
 ⟨ok.mod,ok.kind,ok.glob,ok.blt,ok.above,ok.inj,ok.has,ok.cab,ok.hd,ok.frames,ok.stk,ok.exf,ok.bs,ok.bsz,ok.noex,ok.exfs,ok.funs,ok.frf⟩
section
variable {X:Cx}{pins:List (Addr×Obj)}{σ:St}{H:Hp}{s:Shared}{E:Value->Shared->Prop}
theorem Inv.wish(I:Inv X pins σ H s)(E:Value->Shared->Prop):Inv (X.wish E) pins σ H s:=⟨I.ok.wish E,I.os,I.bare,I.base,I.loc,I.cell,I.free,I.freeC,I.pin,I.hok,I.len⟩
theorem Inv.unwish(I:Inv (X.wish E) pins σ H s):Inv X pins σ H s:=⟨I.ok.unwish,I.os,I.bare,I.base,I.loc,I.cell,I.free,I.freeC,I.pin,I.hok,I.len⟩
theorem SP.unwish{D:Ends}{f:Flow}{s':Shared}(h:SP (X.wish E) pins D f s'):SP X pins D f s':=by
 cases f with
 |next=>obtain⟨σ',H',I,q⟩:=h;exact⟨σ',H',I.unwish,q⟩
 |brk=>obtain⟨σ',H',I,q⟩:=h;exact⟨σ',H',I.unwish,q⟩
 |cont=>obtain⟨σ',H',I,q⟩:=h;exact⟨σ',H',I.unwish,q⟩
 |ret u=>obtain⟨v,σ',H',I,r,q⟩:=h;exact⟨v,σ',H',I.unwish,r,q⟩
theorem PE.nox{e:Expr}{t:TE}(h:PE X.nox e t):PE X e t:=λpins s σ H Q I hw =>wpAny_mono (h pins s σ H Q (I.wish _) hw) (λ_ _ ⟨v,H',I',r,q⟩=>⟨v,H',I'.unwish,r,q⟩) λ_ _ z=>False.elim z
theorem PT.nox{e:Expr}{t:TT}(h:PT X.nox e t):PT X e t:=λpins s σ H Q I hw =>wpAny_mono (h pins s σ H Q (I.wish _) hw) (λ_ _ ⟨H',I',q⟩=>⟨H',I'.unwish,q⟩) λ_ _ z=>False.elim z
theorem PSs.nox{st:List Stmt}{t:TS}(h:PSs X.nox st t):PSs X st t:=λpins s σ H D I hw =>wpAny_mono (h pins s σ H D (I.wish _) hw) (λ_ _ q=>q.unwish) λ_ _ z=>False.elim z
end
section
variable {X:Cx}{st:Stmt}{rest:List Stmt}{t u:TS}{e:Expr}{te:TE}{pos:Pos}
def u8:TS:=λD σ H=>D.nx σ H
def ci(t u:TS):TS:=λD σ H=>t { D with nx:=u D } σ H
theorem aC:PSs X [] u8:=λ_ _ σ H _ I h=>wpAny_execs_nil ⟨σ,H,I,h⟩
theorem af(h1:PS X st t)(h2:PSs X rest u):PSs X (st::rest) (ci t u):=by
 intro pins s σ H D I h;refine wpAny_execs_cons (thn (h1 pins s σ H { D with nx:=u D } I h) λf s1 q=>?_);cases f with
 |next =>obtain⟨σ',H',I',q⟩:=q;exact h2 pins s1 σ' H' D I' q
 |ret v=>exact q
 |brk=>exact q
 |cont=>exact q
theorem ah(h1:PS X st t):PSs X [st] t:=by
 intro pins s σ H D I h;refine wpAny_execs_cons (thn (h1 pins s σ H D I h) λf s1 q=>?_);cases f with
 |next=>exact wpAny_execs_nil q
 |ret v=>exact q
 |brk=>exact q
 |cont=>exact q
theorem Inv.quiet{pins:List (Addr×Obj)}{σ:St}{H:Hp}{s:Shared}(I:Inv X pins σ H s):interactive X.env=false:=by simp[interactive,I.ok.kind]
def qj(te:TE):TS:=λD σ H=>te σ H λ_ H1=>D.nx σ H1
theorem eD(he:PE X e te)(hs:swapsWith e none pos.line X.env=pure false:=by rfl):PS X (.Expr e pos) (qj te):=by intro pins s σ H D I h;exact wpAny_Expr_any (thn (he pins s σ H _ I h) λv s1 ⟨x,H1,I1,r1,q1⟩=>⟨σ,H1,I1,q1⟩) I.quiet hs
def uZ(te:TE):TS:=λD σ H=>te σ H D.rt
theorem am(he:PE X e te):PS X (.Return (some e) pos) (uZ te):=by intro pins s σ H D I h;exact wpAny_Return_some (thn (he pins s σ H _ I h) λv s1 ⟨x,H1,I1,r1,q1⟩=>⟨x,σ,H1,I1,r1,q1⟩)
def i7(c:TT)(t u:TS):TS:=λD σ H=>c σ H λb H1=>if b=true then t D σ H1 else u D σ H1
theorem aB{c:Expr}{a b:List Stmt}{tc:TT}(hc:PT X c tc)(ha:PSs X a t)(hb:PSs X b u):PS X (.If c a b pos) (i7 tc t u):=by
 intro pins s σ H D I h;refine wpAny_If (thn (hc pins s σ H _ I h) λd s1 ⟨H1,I1,q1⟩=>?_);cases d with
 |true=>exact ha pins s1 σ H1 D I1 q1
 |false=>exact hb pins s1 σ H1 D I1 q1
def Bu:TS:=λ_ _ _=>False
theorem gy:PS X st Bu:=λ_ _ _ _ _ _ h=>h.elim
end
abbrev TG:=V->St->Hp->(St->Hp->Prop)->Prop
abbrev TGs:=List V->St->Hp->(St->Hp->Prop)->Prop
noncomputable def PG(X:Cx)(target:Expr)(t:TG):Prop :=
 ∀(pins:List (Addr×Obj)) (s:Shared) (σ:St) (H:Hp) (v:V) (u:Value) (Q:St->Hp->Prop),Inv X pins σ H s->RelV v u->t v σ H Q ->
  wpAny (model X.prog X.w) X.A (assign target X.env u) (λ_ s'=>∃σ' H',Inv X pins σ' H' s'/\Q σ' H') X.xe s
noncomputable def PGs(X:Cx)(ts:List Expr)(t:TGs):Prop :=
 ∀(pins:List (Addr×Obj)) (s:Shared) (σ:St) (H:Hp) (vs:List V) (us:List Value) (Q:St->Hp->Prop),Inv X pins σ H s->Vals vs us->t vs σ H Q ->
  wpAny (model X.prog X.w) X.A (assignInOrder ((assignEach ts X.env).map (·.2)) us) (λ_ s'=>∃σ' H',Inv X pins σ' H' s'/\Q σ' H') X.xe s
abbrev tW:=V->V->V->Hp->(Hp->Prop)->Prop
noncomputable def Ag(X:Cx)(t:tW):Prop :=
 ∀(pins:List (Addr×Obj)) (s:Shared) (σ:St) (H:Hp) (o i v:V) (ov iv u:Value) (Q:Hp->Prop),Inv X pins σ H s->RelV o ov->RelV i iv->RelV v u->t o i v H Q ->
  wpAny (model X.prog X.w) X.A (setItem ov iv u) (λ_ s'=>∃H',Inv X pins σ H' s'/\Q H') X.xe s
section
variable {X:Cx}{pos:Pos}
def cS(i:Nat):TG:=λv σ H Q=>Q (σ.set i (some v)) H
theorem aJ{i:Nat}{x:Str}(hN:X.N.Nodup)(hi:X.N[i]?=some x)(hx:Loc X.env.scope x)(hf:X.fn x=true\/X.env.scope.names.lookup x=some .local:=by first |exact .inl rfl |exact .inr rfl |assumption):PG X (.Name x pos) (cS i):=by intro pins s σ H v u Q I r h;exact wpAny_assign_Name (lG I hN hi hx r (λs' I'=>⟨_,H,I',h⟩) hf)
noncomputable def Js:TGs:=λvs σ H Q=>vs=[]/\Q σ H
noncomputable def Jt(t:TG)(u:TGs):TGs:=λvs σ H Q=>∃v r,vs=v::r/\t v σ H λσ' H'=>u r σ' H' Q
theorem oA:PGs X [] Js:=by intro pins s σ H vs us Q I r h;obtain⟨e,h⟩:=h;subst e;cases r;exact assignInOrder_nil ⟨σ,H,I,h⟩
theorem f7{e:Expr}{es:List Expr}{t:TG}{u:TGs}(h1:PG X e t)(h2:PGs X es u)
 (hs:(assignEach (e::es) X.env).map (·.2)=assign e X.env::(assignEach es X.env).map (·.2):=by rfl):PGs X (e::es) (Jt t u):=by
 intro pins s σ H vs us Q I r h;obtain⟨v,vr,e1,h⟩:=h;subst e1;cases r with
 |cons r rr =>rw[hs];refine assignInOrder_cons (thn (h1 pins s σ H _ _ _ I r h) λ_ s1 ⟨σ1,H1,I1,q1⟩=>?_);exact h2 pins s1 σ1 H1 _ _ Q I1 rr q1
def yz(K:PySem.W.Frag)(n:Nat)(t:TGs):TG:=λv σ H Q=>∃a xs,v=.ref a/\SqT K H a xs/\xs.length=n/\t xs σ H Q
theorem oB{es:List Expr}{k:Nat}{t:TGs}{n:Nat}(hc:X.calm=true)(h:PGs X es t)
 (hn:(assignEach es X.env).length=n:=by rfl) (hst:(assignEach es X.env).findIdx? (·.1)=none:=by rfl):PG X (.Tuple es k pos) (yz X.K n t):=by
 intro pins s σ H v u Q I r hw;obtain⟨a,xs,e1,hq,hl,hw⟩:=hw;subst e1;cases r;obtain⟨its,rv,ht,hz⟩:=I.tuple hq;refine assign_Tuple_tuple (I.ok.hd hc) ht (by simp[hn,<- hl,rv.length]) hst λh' hx=>?_
 have I1:Inv X pins σ H { s with heap:=h' }:=I.kept (t':=s.toks) λb o e=>hx b o (Qf (Heap.lt_size e)) e
 exact h pins _ σ H xs _ Q I1 (by simpa using rv) hw
def Jr(to ti:TE)(t:tW):TG:=λv σ H Q=>to σ H λo H1=>ti σ H1 λi H2=>t o i v H2 λH3=>Q σ H3
theorem oC{o i:Expr}{to ti:TE}{t:tW}(ho:PE X o to)(hi:PE X i ti)(hs:Ag X t)
 (ha:∀v,assign (.Subscript o i pos) X.env v=(do
   let ov <- holding [v] (eval o X.env)
   let iv <- holding [v,ov] (eval i X.env)
   standAt pos
   holding [v,ov,iv] (setItem ov iv v)
   release [v,ov,iv] []):=by intro _;rfl):PG X (.Subscript o i pos) (Jr to ti t):=by
 intro pins s σ H v u Q I r h;rw[ha];refine wpAny_bind (wpAny_holding (thn (ho pins s σ H _ I h) λov s1 ⟨x,H1,I1,r1,q1⟩=>?_));refine wpAny_bind (wpAny_holding (thn (hi pins s1 σ H1 _ I1 q1) λiv s2 ⟨y,H2,I2,r2,q2⟩=>?_));refine wpAny_bind (wpAny_standAt (wpAny_bind (wpAny_holding (thn (hs pins s2 σ H2 x y v ov iv u _ I2 r1 r2 r q2) λ_ s3 ⟨H3,I3,q3⟩=>?_))));exact wpAny_release ⟨σ,H3,I3,q3⟩
def cZ(te:TE)(g:TG):TS:=λD σ H=>te σ H λx H1=>g x σ H1 D.nx
theorem ou{tg e:Expr}{te:TE}{g:TG}(he:PE X e te)(hg:PG X tg g)(hs:swapsWithSole [tg] e pos.line X.env=pure false:=by rfl)(hw:swappedStores [tg] e X.env=pure none:=by rfl)
 (h1:(assignEach [tg] X.env).map (·.2)=[assign tg X.env]:=by rfl):PS X (.Assign [tg] e pos) (cZ te g):=by
 intro pins s σ H D I h;refine wpAny_Assign_stores (thn (he pins s σ H _ I h) λv s1 ⟨x,H1,I1,r1,q1⟩=>?_) hs hw;rw[h1];exact thn (hg pins s1 σ H1 x v _ I1 r1 q1) λ_ s2 q=>q
theorem aj{i:Nat}{x:Str}{e:Expr}{te:TE}{pos':Pos}(hN:X.N.Nodup)(hi:X.N[i]?=some x)(hx:Loc X.env.scope x)(he:PE X e te)(hs:swapsWith e (some (.Name x pos')) pos.line X.env=pure false:=by rfl)(hf:X.fn x=true\/X.env.scope.names.lookup x=some .local:=by first |exact .inl rfl |exact .inr rfl |assumption) :
 PS X (.Assign [.Name x pos'] e pos) (cZ te (cS i)):=by
 intro pins s σ H D I h;refine wpAny_Assign_Name (thn (he pins s σ H _ I h) λv s1 ⟨y,H1,I1,r1,q1⟩=>?_) hs;exact lG I1 hN hi hx r1 (λs2 I2=>⟨_,H1,I2,q1⟩) hf
end
section
variable {X:Cx}{pos:Pos}
def uY(c:TT)(tb:TS):TS:=λD σ H=>∃W:Nat->St->Hp->Prop,(∃m,W m σ H)/\∀m σ H,W m σ H ->
 c σ H λb H1=>if b=true then ∃N:St->Hp->Prop,(∀σ' H',N σ' H'->∃m',m'<m/\W m' σ' H')/\tb { D with nx:=N,ct:=N,bk:=D.nx } σ H1 else D.nx σ H1
theorem c9{c:Expr}{body:List Stmt}{tc:TT}{tb:TS}(hp:PassesOwn (model X.prog X.w) X.A X.env X.xe)(hc:PT X c tc)(hb:PSs X body tb):PS X (.While c body [] pos) (uY tc tb):=by
 intro pins s σ H D I h;obtain⟨W,⟨m0,w0⟩,turn⟩:=h;refine wpAny_While (codeAny_whileLoop (λn s'=>∃σ' H',Inv X pins σ' H' s'/\W n σ' H') ?_ m0 ⟨σ,H,I,w0⟩);rintro n s1 ⟨σ1,H1,I1,w1⟩;refine wpAny_passesOwn hp (thn (hc pins s1 σ1 H1 _ I1 (turn n σ1 H1 w1)) λb s2 ⟨H2,I2,q2⟩=>?_);cases b with
 |true =>
  obtain⟨N,hN,q2⟩:=q2;rw[if_pos rfl];refine wpAny_passesOwn hp (thn (hb pins s2 σ1 H2 _ I2 q2) λf s3 q3=>?_);cases f with
  |next =>obtain⟨σ3,H3,I3,n3⟩:=q3;obtain⟨m',hm,w3⟩:=hN σ3 H3 n3;exact⟨m',hm,σ3,H3,I3,w3⟩
  |cont =>obtain⟨σ3,H3,I3,n3⟩:=q3;obtain⟨m',hm,w3⟩:=hN σ3 H3 n3;exact⟨m',hm,σ3,H3,I3,w3⟩
  |brk=>exact q3
  |ret v=>exact q3
 |false =>rw[if_neg Q7];exact wpAny_execs_nil ⟨σ1,H2,I2,q2⟩
end
structure It where
 go:Nat->Hp->Prop
 yld:Nat->Hp->V->Hp->Prop
 stop:Nat->Hp->Prop
noncomputable def fe(X:Cx)(pins:List (Addr×Obj))(H:Hp)(b:Addr):Prop :=
 H b=none/\b≠X.env.locals/\b∉X.fs/\(b∈X.ex\/X.s₀.heap.objs.size<=b)/\(∀x c,X.env.cells.lookup x=some c->c≠b)/\∀p∈X.pn++pins,p.1≠b
theorem Inv.fpOk{X:Cx}{pins:List (Addr×Obj)}{σ:St}{H H':Hp}{s:Shared}{b:Addr}(I:Inv X pins σ H s)(hb:s.heap.objs.size<=b)(hn:H' b=none):fe X pins H' b:=by
 refine⟨hn,Nat.ne_of_gt (Qi I.lt hb),I.nofs hb,.inr (Qu I.sz hb),λx c e z=>?_,λp hp z=>?_⟩
 ·obtain⟨v,q⟩:=I.cell x c e;exact absurd (Qi q.lt (by rw[z];exact hb)) (Qt _)
 ·exact absurd (Qi (Heap.lt_size (I.pin p hp).1) (by rw[z];exact hb)) (Qt _)
structure Turn(P:Program)(w:World)(K:PySem.W.Frag)(tg:Expr)(J:It)(fp:List Addr)(it:Addr)(tn:Nat->Heap->Prop):Prop where
 mem:it∈fp
 obj:∀i h,tn i h->∀b∈fp,∃o,h.get? b=some o/\∀v,o.data≠.cell v
 keep:∀i h h',tn i h->(∀b∈fp,∀o,h.get? b=some o->h'.get? b=some o)->tn i h'
 item:∀(X:Cx),X.prog=P->X.w=w->X.K=K->X.calm=true->∀(i:Nat) (pins:List (Addr×Obj)) (s:Shared) (σ:St) (H:Hp) (E:Value->Shared->Prop),Inv X pins σ H s->(∀b∈fp,fe X pins H b)->tn i s.heap->J.go i H ->
  wpAny (model P w) X.A (pyNext (.ref it)) (λr s1=>∃u,r=some u /\
   wpAny (model P w) X.A (letOwnedTupleGo tg (.ref it) u) (λ_ s2=>∃x H',Inv X pins σ H' s2/\RelV x u/\J.yld i H x H'/\tn (i+1) s2.heap/\∀b∈fp,H' b=none) E s1) E s
 done:∀(X:Cx),X.prog=P->X.w=w->X.K=K->X.calm=true->∀(i:Nat) (pins:List (Addr×Obj)) (s:Shared) (σ:St) (H:Hp) (E:Value->Shared->Prop),Inv X pins σ H s->(∀b∈fp,fe X pins H b)->tn i s.heap->J.stop i H ->
  wpAny (model P w) X.A (pyNext (.ref it)) (λr s1=>r=none/\Inv X pins σ H s1) E s
 self:∀(A:Around) (i:Nat) (s:Shared) (Q:Value->Shared->Prop) (E:Value->Shared->Prop),tn i s.heap->Q (.ref it) s->wpAny (model P w) A (pyIter (.ref it)) Q E s
abbrev TI:=St->Hp->(It->Hp->Prop)->Prop
noncomputable def PIE(X:Cx)(pins:List (Addr×Obj))(σ:St)(tg:Expr)(R:It->Hp->Prop)(itv:Value)(s2:Shared):Prop :=
 ∃(it:Addr) (fp:List Addr) (tn:Nat->Heap->Prop) (J:It) (H':Hp),itv=.ref it/\Inv X pins σ H' s2/\Turn X.prog X.w X.K tg J fp it tn/\tn 0 s2.heap/\(∀b∈fp,fe X pins H' b)/\R J H'
noncomputable def PI(X:Cx)(tg iter:Expr)(wi:TI):Prop :=
 ∀(pins:List (Addr×Obj)) (s:Shared) (σ:St) (H:Hp) (R:It->Hp->Prop),Inv X pins σ H s->wi σ H R ->
  wpAny (model X.prog X.w) X.A (eval iter X.env) (λv s1=>wpAny (model X.prog X.w) X.A (pyIter v) (PIE X pins σ tg R) X.xe s1) X.xe s
theorem kg{M:Model}{A:Around}{E:Value->Shared->Prop}{s:Shared}{tg:Expr}{it:Addr}{u:Value}{o:Obj}{n:String}{vs:Array Value}{Q:Unit->Shared->Prop}(ho:s.heap.get? it=some o)(hc:o.cls=.type n)(hd:o.data=.fields vs)
 (hn:["enumerate","zip","dict_itemiterator","dict_reverseitemiterator","odict_iterator","itertools.zip_longest","itertools.pairwise"].contains n=false) (hQ:Q () s):wpAny M A (letOwnedTupleGo tg (.ref it) u) Q E s:=by
 unfold letOwnedTupleGo
 cases tg<;>first
  |exact wpAny_pure hQ
  | (cases u<;>first
      |exact wpAny_pure hQ
      | (refine wpAny_bind (wpAny_load ho ?_)
         rw[hc,hd];show wpAny M A (if(["enumerate","zip","dict_itemiterator","dict_reverseitemiterator","odict_iterator","itertools.zip_longest","itertools.pairwise"].contains n&&vs[0]? == some (rawInt _))=true then _ else _) Q E s;rw[if_neg (by intro h;rw[hn,Bool.false_and]at h;cases h)]
         exact wpAny_pure hQ))
noncomputable def Itl(K:PySem.W.Frag)(a:Addr):It :=
 ⟨λi H=>∃xs x,SqL K H a xs/\xs[i]?=some x,λi H x H'=>H'=H/\∀xs,SqL K H a xs->xs[i]?=some x,λi H=>∃xs,SqL K H a xs/\xs.length<=i⟩
noncomputable def Itt(K:PySem.W.Frag)(a:Addr):It :=
 ⟨λi H=>∃xs x,SqT K H a xs/\xs[i]?=some x,λi H x H'=>H'=H/\∀xs,SqT K H a xs->xs[i]?=some x,λi H=>∃xs,SqT K H a xs/\xs.length<=i⟩
noncomputable def Itr(lo:Int)(n:Nat):It:=⟨λi _=>i<n,λi H x H'=>H'=H/\x=.int (lo+i),λi _=>n<=i⟩
theorem A4{P:Program}{w:World}{K:PySem.W.Frag}{tg:Expr}(a it:Addr):Turn P w K tg (Itl K a) [it] it (λi h=>h.IsListIter it a i) where
 mem:=by simp
 obj:=λi h st b hb=>by
  have e:b=it:=by simpa using hb
  subst e;obtain⟨o,e,c,d⟩:=st;exact⟨o,e,λv z=>by rw[d]at z;cases z⟩
 keep:=λi h h' st k=>st.at λo e=>k it (by simp) o e
 item:=by
  intro X hP hw hK hc i pins s σ H E I hf st hg;subst hP hw hK;obtain⟨xs,x,hq,hx⟩:=hg;obtain⟨its,rv,p,hz⟩:=I.list hq;obtain⟨u,hu,ru⟩:=rv.get hx;obtain⟨f0,f1,f2,f3,f4,f5⟩:=hf it (by simp);refine wpAny_pyNext_list_item st p.isList (x:=u) (by simpa using hu) λh' st' sb=>?_
  have I1:Inv X pins σ H { s with heap:=h' }:=I.turned (t':=s.toks) (λb o hb e=>(sb.2 b hb).trans e) f0 f1 f3 f4 f5;obtain⟨o,e,c,d⟩:=id st';exact⟨u,rfl,kg (s:={ s with heap:=h' }) e c d (by decide) ⟨x,H,I1,ru,⟨rfl,λys hy=>by rw[I.list_inj hy hq];exact hx⟩,st',λb hb=>(hf b hb).1⟩⟩
 done:=by intro X hP hw hK hc i pins s σ H E I hf st hg;subst hP hw hK;obtain⟨xs,hq,hx⟩:=hg;obtain⟨its,rv,p,hz⟩:=I.list hq;obtain⟨f0,f1,f2,f3,f4,f5⟩:=hf it (by simp);have hl:=rv.length;exact wpAny_pyNext_list_end (I.ok.hd hc) st p.isList (by simp;omega) λh' eb=>⟨rfl,I.turned (t':=s.toks) (λb o hb e=>eb b o hb e) f0 f1 f3 f4 f5⟩
 self:=λ_ _ _ _ _ st h=>wpAny_pyIter_listiter st h
theorem AW{P:Program}{w:World}{K:PySem.W.Frag}{tg:Expr}(a it:Addr):Turn P w K tg (Itt K a) [it] it (λi h=>h.IsTupleIter it a i) where
 mem:=by simp
 obj:=λi h st b hb=>by
  have e:b=it:=by simpa using hb
  subst e;obtain⟨o,e,c,d⟩:=st;exact⟨o,e,λv z=>by rw[d]at z;cases z⟩
 keep:=λi h h' st k=>st.at λo e=>k it (by simp) o e
 item:=by
  intro X hP hw hK hc i pins s σ H E I hf st hg;subst hP hw hK;obtain⟨xs,x,hq,hx⟩:=hg;obtain⟨its,rv,p,hz⟩:=I.tuple hq;obtain⟨u,hu,ru⟩:=rv.get hx;obtain⟨f0,f1,f2,f3,f4,f5⟩:=hf it (by simp);refine wpAny_pyNext_tuple_item st (show s.heap.IsTuple a its.toArray from p) (x:=u) (by simpa using hu) λh' st' sb=>?_
  have I1:Inv X pins σ H { s with heap:=h' }:=I.turned (t':=s.toks) (λb o hb e=>(sb.2 b hb).trans e) f0 f1 f3 f4 f5;obtain⟨o,e,c,d⟩:=id st';exact⟨u,rfl,kg (s:={ s with heap:=h' }) e c d (by decide) ⟨x,H,I1,ru,⟨rfl,λys hy=>by rw[I.tuple_inj hy hq];exact hx⟩,st',λb hb=>(hf b hb).1⟩⟩
 done:=by intro X hP hw hK hc i pins s σ H E I hf st hg;subst hP hw hK;obtain⟨xs,hq,hx⟩:=hg;obtain⟨its,rv,p,hz⟩:=I.tuple hq;obtain⟨f0,f1,f2,f3,f4,f5⟩:=hf it (by simp);have hl:=rv.length;exact wpAny_pyNext_tuple_end (I.ok.hd hc) st (show s.heap.IsTuple a its.toArray from p) (by simp;omega) λh' eb=>⟨rfl,I.turned (t':=s.toks) (λb o hb e=>eb b o hb e) f0 f1 f3 f4 f5⟩
 self:=λ_ _ _ _ _ st h=>wpAny_pyIter_tupleiter st h
theorem AZ{P:Program}{w:World}{K:PySem.W.Frag}{tg:Expr}(it:Addr)(lo:Int)(n:Nat):Turn P w K tg (Itr lo n) [it] it (λi h=>IsRangeIter h it (lo+(i:Nat)*1) ((n:Int)-(i:Nat)) 1) where
 mem:=by simp
 obj:=λi h st b hb=>by
  have e:b=it:=by simpa using hb
  subst e
  exact⟨_,st,λv z=>by
   have z':Data.fields _=Data.cell v:=z
   cases z'⟩
 keep:=λi h h' st k=>k it (by simp) _ st
 item:=by
  intro X hP hw hK hc i pins s σ H E I hf st hg;subst hP hw hK;obtain⟨f0,f1,f2,f3,f4,f5⟩:=hf it (by simp);have W:=Walks.range (prog:=X.prog) (w:=X.w) (I.ok.hd hc) it lo 1 n;refine W.item i s _ _ hg st λv h' tk hv st' kk=>?_
  obtain⟨t,rfl⟩:=hv;have I1:Inv X pins σ H { s with heap:=h',toks:=tk }:=I.turned (λb o hb e=>kk b o (by simpa using hb) e) f0 f1 f3 f4 f5;refine⟨_,rfl,kg (s:={ s with heap:=h',toks:=tk }) (n:="range_iterator") st' rfl rfl (by decide) ⟨.int (lo+i),H,I1,⟨t,?_⟩,⟨rfl,rfl⟩,st',λb hb=>(hf b hb).1⟩⟩;rw[Qw]
 done:=by intro X hP hw hK hc i pins s σ H E I hf st hg;subst hP hw hK;obtain⟨f0,f1,f2,f3,f4,f5⟩:=hf it (by simp);exact wpAny_pyNext_range_end (I.ok.hd hc) st (by have:n<=i:=hg;omega) λh' eb=>⟨rfl,I.turned (t':=s.toks) (λb o hb e=>eb b o hb e) f0 f1 f3 f4 f5⟩
 self:=λ_ _ _ _ _ st h=>wpAny_pyIter_rangeiter st h
section
variable {X:Cx}{tg:Expr}
def yq(K:PySem.W.Frag)(tl:TE):TI:=λσ H R=>tl σ H λx H1=>∃a,x=.ref a/\(∃xs,SqL K H1 a xs)/\R (Itl K a) H1
def yp(K:PySem.W.Frag)(tl:TE):TI:=λσ H R=>tl σ H λx H1=>∃a,x=.ref a/\(∃xs,SqT K H1 a xs)/\R (Itt K a) H1
theorem DX{l:Expr}{tl:TE}(hl:PE X l tl):PI X tg l (yq X.K tl):=by
 intro pins s σ H R I h;refine thn (hl pins s σ H _ I h) λv s1 ⟨x,H1,I1,r1,q1⟩=>?_
 obtain⟨a,e,⟨xs,hq⟩,q⟩:=q1;subst e;cases r1;obtain⟨its,rv,p,hz⟩:=I1.list hq;refine wpAny_pyIter_list p.isList ?_;refine⟨s1.heap.objs.size,[s1.heap.objs.size],_,_,H1,rfl,I1.kept (t':=s1.toks) λb o e=>Heap.get?_push_of_some _ e,A4 a _,⟨_,Heap.get?_push_size _ rfl,rfl,rfl⟩,λb hb=>?_,q⟩;have e:b=s1.heap.objs.size:=by simpa using hb
 subst e;exact I1.fpOk (PZ _) (I1.hok.fresh (PZ _))
theorem DW{l:Expr}{tl:TE}(hl:PE X l tl):PI X tg l (yp X.K tl):=by
 intro pins s σ H R I h;refine thn (hl pins s σ H _ I h) λv s1 ⟨x,H1,I1,r1,q1⟩=>?_
 obtain⟨a,e,⟨xs,hq⟩,q⟩:=q1;subst e;cases r1;obtain⟨its,rv,p,hz⟩:=I1.tuple hq;refine wpAny_pyIter_tuple (show s1.heap.IsTuple a its.toArray from p) ?_;refine⟨s1.heap.objs.size,[s1.heap.objs.size],_,_,H1,rfl,I1.kept (t':=s1.toks) λb o e=>Heap.get?_push_of_some _ e,AW a _,⟨_,Heap.get?_push_size _ rfl,rfl,rfl⟩,λb hb=>?_,q⟩;have e:b=s1.heap.objs.size:=by simpa using hb
 subst e;exact I1.fpOk (PZ _) (I1.hok.fresh (PZ _))
theorem wD{pins:List (Addr×Obj)}{σ:St}{H:Hp}{s:Shared}{R:It->Hp->Prop}{E:Value->Shared->Prop}{lo hi:Int}{t u v:Tok}{tk:Nat}(I:Inv X pins σ H s)(h1 : -(2^62)<=lo)(h2:lo<2^62)(h3 : -(2^62)<=hi)(h4:hi<2^62)
 (q:R (Itr lo (hi-lo).toNat) H):wpAny (model X.prog X.w) X.A (pyIter (.ref s.heap.objs.size)) (PIE X pins σ tg R) E { s with heap:=s.heap.push { cls:=.type "range",data:=.fields #[.int lo t,.int hi u,.int 1 v] },toks:=tk }:=by
 refine wpAny_pyIter_range (IsRange.new ..) (small_one h1 h2 h3 h4) ?_;have I1:Inv X pins σ H { s with heap:=s.heap.push { cls:=.type "range",data:=.fields #[.int lo t,.int hi u,.int 1 v] },toks:=tk }:=I.kept λb o e=>Heap.get?_push_of_some _ e
 refine⟨(s.heap.push { cls:=.type "range",data:=.fields #[.int lo t,.int hi u,.int 1 v] }).objs.size,[(s.heap.push { cls:=.type "range",data:=.fields #[.int lo t,.int hi u,.int 1 v] }).objs.size],_,_,H,rfl,
  I1.kept (t':=tk) λb o e=>Heap.get?_push_of_some _ e,AZ _ lo (hi-lo).toNat,?_,λb hb=>?_,q⟩
 ·have e1:lo+((0:Nat):Int)*1=lo:=by simp
  have e2:(((hi-lo).toNat:Nat):Int)-((0:Nat):Int)=Builtin.Range.rangeSize lo hi 1:=by rw[rangeSize_one];split<;>omega
  show IsRangeIter _ _ (lo+((0:Nat):Int)*1) ((((hi-lo).toNat:Nat):Int)-((0:Nat):Int)) 1;rw[e1,e2];exact Heap.get?_push_size _ rfl
 ·have e:b=(s.heap.push { cls:=.type "range",data:=.fields #[.int lo t,.int hi u,.int 1 v] }).objs.size:=by simpa using hb
  subst e;exact I1.fpOk (PZ _) (I1.hok.fresh (PZ _))
def I0(ta:TA):TI:=λσ H R=>ta σ H λvs H1=>∃j:Int,vs=[.int j] /\ -(2^62)<=j/\j<2^62/\R (Itr 0 j.toNat) H1
def IZ(ta:TA):TI:=λσ H R=>ta σ H λvs H1=>∃i j:Int,vs=[.int i,.int j]/\(-(2^62)<=i/\i<2^62 /\ -(2^62)<=j/\j<2^62)/\R (Itr i (j-i).toNat) H1
theorem dO{a:Expr}{ta:TA}{p pos:Pos}(hg:Gl X "range")(hm:X.mg "range"=none)(ha:PA X [a] ta)(hs:starEach [a] X.env=[(false,eval a X.env)]:=by rfl):PI X tg (.Call (.Name "range" p) [a] [] pos) (I0 ta):=by
 intro pins s σ H R I h;refine Call_ (dU I hg hm boot_range (PyProof.Rows.callWith_type1 (thn (ha pos pins s σ H _ I h) λus s1 ⟨vs,H1,I1,r1,q1⟩=>?_) hs rfl));obtain⟨j,e,q1,q2,q⟩:=q1;subst e;cases r1 with
 |cons r rr =>cases rr;obtain⟨t,rfl⟩:=r;exact call_range_1 (wD I1 (by omega) (by omega) q1 q2 (by simpa using q))
theorem wR{a b:Expr}{ta:TA}{p pos:Pos}(hg:Gl X "range")(hm:X.mg "range"=none)(ha:PA X [a,b] ta)(hs:starEach [a,b] X.env=[(false,eval a X.env),(false,eval b X.env)]:=by rfl)(hs2:starEach [b] X.env=[(false,eval b X.env)]:=by rfl) :
 PI X tg (.Call (.Name "range" p) [a,b] [] pos) (IZ ta):=by
 intro pins s σ H R I h;refine Call_ (dU I hg hm boot_range (PyProof.Rows.callWith_type1 (thn (ha pos pins s σ H _ I h) λus s1 ⟨vs,H1,I1,r1,q1⟩=>?_) (by rw[hs,hs2]) (by rw[hs2];rfl)));obtain⟨i,j,e,⟨q1,q2,q3,q4⟩,q⟩:=q1;subst e;cases r1 with
 |cons r rr =>
  cases rr with
  |cons r' rr =>cases rr;obtain⟨t,rfl⟩:=r;obtain⟨t',rfl⟩:=r';exact call_range_2 (wD I1 q1 q2 q3 q4 q)
def BB(wi:TI)(g:TG)(tb:TS):TS:=λD σ H=>wi σ H λJ H1=>∃W:Nat->Nat->St->Hp->Prop,(∃m,W 0 m σ H1)/\∀i m σ H,W i m σ H ->
 (J.stop i H/\D.nx σ H)\/(J.go i H/\∃N:St->Hp->Prop,(∀σ' H',N σ' H'->∃m',m'<m/\W (i+1) m' σ' H')/\∀x H',J.yld i H x H'->g x σ H' λσ2 H2=>tb { D with nx:=N,ct:=N,bk:=D.nx } σ2 H2)
noncomputable def ox(fp:List Addr)(h:Heap):List (Addr×Obj):=fp.filterMap λb=>(h.get? b).map λo=>(b,o)
theorem o9{fp:List Addr}{h:Heap}{b:Addr}{o:Obj}(hb:b∈fp)(e:h.get? b=some o):(b,o)∈ox fp h:=List.mem_filterMap.mpr ⟨b,hb,by rw[e];rfl⟩
theorem FW{fp:List Addr}{h:Heap}{p:Addr×Obj}(hp:p∈ox fp h):p.1∈fp/\h.get? p.1=some p.2:=by
 obtain⟨b,hb,e⟩:=List.mem_filterMap.mp hp;cases q:h.get? b with
 |none=>rw[q]at e;cases e
 |some o =>rw[q]at e;have e':(b,o)=p:=Option.some.inj e;subst e';exact⟨hb,q⟩
theorem Inv.pinned{pins:List (Addr×Obj)}{σ:St}{H:Hp}{s:Shared}{fp:List Addr}(I:Inv X pins σ H s)(hf:∀b∈fp,fe X pins H b)(ho:∀b∈fp,∃o,s.heap.get? b=some o/\∀v,o.data≠.cell v):Inv X (pins++ox fp s.heap) σ H s :=
 I.pins_of λp hp=>(Qk.mp hp).elim (λz=>I.pin p (Qx _ z)) λz=>by obtain⟨hb,e⟩:=FW z;obtain⟨f0,f1,f2,_⟩:=hf p.1 hb;obtain⟨o,e',d⟩:=ho p.1 hb;rw[e]at e';cases e';exact⟨e,f0,f1,f2,d⟩
theorem Inv.unpinned{pins pl:List (Addr×Obj)}{σ:St}{H:Hp}{s:Shared}(I:Inv X (pins++pl) σ H s):Inv X pins σ H s:=I.pins_of λp hp=>I.pin p (Qx _ (Q6 _ hp))
theorem cg{iter:Expr}{body:List Stmt}{wi:TI}{g:TG}{tb:TS}{pos:Pos}(hp:PassesOwn (model X.prog X.w) X.A X.env X.xe)(hc:X.calm=true)(hi:PI X tg iter wi)(hg:PG X tg g)(hb:PSs X body tb)
 (hs:∀x,foldedSetIterable iter X.env x=pure x:=by intro _;rfl):PS X (.For tg iter body [] pos) (BB wi g tb):=by
 intro pins s σ H D I h;refine wpAny_For (thn (hi pins s σ H _ I h) λv s1 h1=>thn h1 λitv s2 h2=>?_) hs;obtain⟨it,fp,tn,J,H2,e,I2,T,st2,f2,W,⟨m0,w0⟩,turn⟩:=h2;subst e;have stat:∀{H':Hp},(∀b∈fp,H' b=none)->∀b∈fp,fe X pins H' b:=λhn b hb=>⟨hn b hb,(f2 b hb).2⟩
 refine codeAny_forLoop_any (λn s'=>∃i σ' H',Inv X pins σ' H' s'/\tn i s'.heap/\(∀b∈fp,H' b=none)/\W i n σ' H') ?_ m0 ⟨0,σ,H2,I2,st2,λb hb=>(f2 b hb).1,w0⟩;rintro n s3 ⟨i,σ3,H3,I3,st3,fr3,w3⟩;rcases turn i n σ3 H3 w3 with⟨stop,qn⟩ |⟨go,N,hN,step⟩
 ·refine wpAny_passesOwn hp (thn (T.done X rfl rfl rfl hc i pins s3 σ3 H3 X.xe I3 (stat fr3) st3 stop) λr s4 ⟨hr,I4⟩=>?_);subst hr;exact wpAny_execs_nil ⟨σ3,H3,I4,qn⟩
 ·refine wpAny_passesOwn hp (thn (T.item X rfl rfl rfl hc i pins s3 σ3 H3 X.xe I3 (stat fr3) st3 go) λr s4 ⟨u,hr,h4⟩=>?_);subst hr;refine wpAny_passesOwn hp (thn h4 λ_ s5 ⟨x,H5,I5,r5,y5,st5,fr5⟩=>?_);have I5':=I5.pinned (stat fr5) (T.obj _ _ st5);refine wpAny_passesOwn hp (thn (hg _ s5 σ3 H5 x u _ I5' r5 (step x H5 y5)) λ_ s6 ⟨σ6,H6,I6,q6⟩=>?_);refine wpAny_passesOwn hp (thn (hb _ s6 σ6 H6 _ I6 q6) λf s7 q7=>?_)
  have again:∀{σ7:St} {H7:Hp},Inv X (pins++ox fp s5.heap) σ7 H7 s7->N σ7 H7->∃m,m<n/\∃i σ' H',Inv X pins σ' H' s7/\tn i s7.heap/\(∀b∈fp,H' b=none)/\W i m σ' H':=λ{σ7 H7} I7 n7=>by obtain⟨m',hm,w7⟩:=hN σ7 H7 n7;refine⟨m',hm,i+1,σ7,H7,I7.unpinned,T.keep _ _ _ st5 λb hb o e=>(I7.pin (b,o) (Qx _ (Qx _ (o9 hb e)))).1,λb hb=>?_,w7⟩;obtain⟨o,e,d⟩:=T.obj _ _ st5 b hb;exact(I7.pin (b,o) (Qx _ (Qx _ (o9 hb e)))).2.1
  cases f with
  |next=>obtain⟨σ7,H7,I7,n7⟩:=q7;exact again I7 n7
  |cont=>obtain⟨σ7,H7,I7,n7⟩:=q7;exact again I7 n7
  |brk=>obtain⟨σ7,H7,I7,q7⟩:=q7;exact⟨σ7,H7,I7.unpinned,q7⟩
  |ret v=>obtain⟨x7,σ7,H7,I7,r7,q7⟩:=q7;exact⟨x7,σ7,H7,I7.unpinned,r7,q7⟩
end
theorem pC{K:PySem.W.Frag}{a:Addr}{xs:List V}{g:TG}{tb:TS}{D:Ends}{σ:St}{H:Hp}(Pv:Nat->St->Hp->Prop)(h0:Pv 0 σ H)(hl:∀i σ H,i<=xs.length->Pv i σ H->SqL K H a xs)
 (hs:∀i x σ H,xs[i]?=some x->Pv i σ H->g x σ H λσ2 H2=>tb { D with nx:=Pv (i+1),ct:=Pv (i+1),bk:=D.nx } σ2 H2) (hd:∀σ H,Pv xs.length σ H->D.nx σ H) :
 ∃W:Nat->Nat->St->Hp->Prop,(∃m,W 0 m σ H)/\∀i m σ H,W i m σ H ->
  ((Itl K a).stop i H/\D.nx σ H)\/((Itl K a).go i H/\∃N:St->Hp->Prop,(∀σ' H',N σ' H'->∃m',m'<m/\W (i+1) m' σ' H')/\∀x H',(Itl K a).yld i H x H'->g x σ H' λσ2 H2=>tb { D with nx:=N,ct:=N,bk:=D.nx } σ2 H2):=by
 refine⟨λi m σ H=>m=xs.length-i/\i<=xs.length/\Pv i σ H,⟨xs.length,by simp,P6 _,h0⟩,?_⟩;rintro i m σ H ⟨rfl,hi,p⟩;have q:=hl i σ H hi p;by_cases hlt:i<xs.length
 ·refine .inr ⟨⟨xs,xs[i],q,by simp[hlt]⟩,Pv (i+1),λσ' H' p'=>⟨xs.length-(i+1),by omega,rfl,hlt,p'⟩,λx H' y=>?_⟩;obtain⟨e,y⟩:=y;subst e;exact hs i x σ _ (y xs q) p
 ·have e:i=xs.length:=by omega
  subst e;exact .inl ⟨⟨xs,q,PZ _⟩,hd σ H p⟩
theorem Jx{K:PySem.W.Frag}{a:Addr}{xs:List V}{g:TG}{tb:TS}{D:Ends}{σ:St}{H:Hp}(Pv:Nat->St->Hp->Prop)(h0:Pv 0 σ H)(hl:∀i σ H,i<=xs.length->Pv i σ H->SqT K H a xs)
 (hs:∀i x σ H,xs[i]?=some x->Pv i σ H->g x σ H λσ2 H2=>tb { D with nx:=Pv (i+1),ct:=Pv (i+1),bk:=D.nx } σ2 H2) (hd:∀σ H,Pv xs.length σ H->D.nx σ H) :
 ∃W:Nat->Nat->St->Hp->Prop,(∃m,W 0 m σ H)/\∀i m σ H,W i m σ H ->
  ((Itt K a).stop i H/\D.nx σ H)\/((Itt K a).go i H/\∃N:St->Hp->Prop,(∀σ' H',N σ' H'->∃m',m'<m/\W (i+1) m' σ' H')/\∀x H',(Itt K a).yld i H x H'->g x σ H' λσ2 H2=>tb { D with nx:=N,ct:=N,bk:=D.nx } σ2 H2):=by
 refine⟨λi m σ H=>m=xs.length-i/\i<=xs.length/\Pv i σ H,⟨xs.length,by simp,P6 _,h0⟩,?_⟩;rintro i m σ H ⟨rfl,hi,p⟩;have q:=hl i σ H hi p;by_cases hlt:i<xs.length
 ·refine .inr ⟨⟨xs,xs[i],q,by simp[hlt]⟩,Pv (i+1),λσ' H' p'=>⟨xs.length-(i+1),by omega,rfl,hlt,p'⟩,λx H' y=>?_⟩;obtain⟨e,y⟩:=y;subst e;exact hs i x σ _ (y xs q) p
 ·have e:i=xs.length:=by omega
  subst e;exact .inl ⟨⟨xs,q,PZ _⟩,hd σ H p⟩
theorem pB{lo:Int}{n:Nat}{g:TG}{tb:TS}{D:Ends}{σ:St}{H:Hp}(Pv:Nat->St->Hp->Prop)(h0:Pv 0 σ H)
 (hs:∀i σ H,i<n->Pv i σ H->g (.int (lo+i)) σ H λσ2 H2=>tb { D with nx:=Pv (i+1),ct:=Pv (i+1),bk:=D.nx } σ2 H2) (hd:∀σ H,Pv n σ H->D.nx σ H) :
 ∃W:Nat->Nat->St->Hp->Prop,(∃m,W 0 m σ H)/\∀i m σ H,W i m σ H ->
  ((Itr lo n).stop i H/\D.nx σ H)\/((Itr lo n).go i H/\∃N:St->Hp->Prop,(∀σ' H',N σ' H'->∃m',m'<m/\W (i+1) m' σ' H')/\∀x H',(Itr lo n).yld i H x H'->g x σ H' λσ2 H2=>tb { D with nx:=N,ct:=N,bk:=D.nx } σ2 H2):=by
 refine⟨λi m σ H=>m=n-i/\i<=n/\Pv i σ H,⟨n,by simp,P6 _,h0⟩,?_⟩;rintro i m σ H ⟨rfl,hi,p⟩;by_cases hlt:i<n
 ·refine .inr ⟨hlt,Pv (i+1),λσ' H' p'=>⟨n-(i+1),by omega,rfl,hlt,p'⟩,λx H' y=>?_⟩;obtain⟨e,y⟩:=y;subst e y;exact hs i σ _ hlt p
 ·have e:i=n:=by omega
  subst e;exact .inl ⟨PZ _,hd σ H p⟩
abbrev R2:=V->V->Hp->VK->Prop
noncomputable def OpR(X:Cx)(f:Value->Value->Sem Value)(r:R2):Prop :=
 ∀(pins:List (Addr×Obj)) (s:Shared) (σ:St) (H:Hp) (x y:V) (v u:Value) (Q:VK),Inv X pins σ H s->RelV x v->RelV y u->r x y H Q ->
  wpAny (model X.prog X.w) X.A (f v u) (EP X pins σ Q) X.xe s
noncomputable def UnR(X:Cx)(f:Value->Sem Value)(r:V->Hp->VK->Prop):Prop :=
 ∀(pins:List (Addr×Obj)) (s:Shared) (σ:St) (H:Hp) (x:V) (v:Value) (Q:VK),Inv X pins σ H s->RelV x v->r x H Q ->
  wpAny (model X.prog X.w) X.A (f v) (EP X pins σ Q) X.xe s
noncomputable def cY(X:Cx)(f:Value)(r:List V->Hp->VK->Prop):Prop :=
 ∀(pins:List (Addr×Obj)) (s:Shared) (σ:St) (H:Hp) (xs:List V) (us:List Value) (Q:VK),Inv X pins σ H s->Vals xs us->r xs H Q ->
  wpAny (model X.prog X.w) X.A (call f us) (EP X pins σ Q) X.xe s
noncomputable def L4(X:Cx)(r:V->Hp->(Bool->Hp->Prop)->Prop):Prop :=
 ∀(pins:List (Addr×Obj)) (s:Shared) (σ:St) (H:Hp) (x:V) (v:Value) (Q:Bool->Hp->Prop),Inv X pins σ H s->RelV x v->r x H Q ->
  wpAny (model X.prog X.w) X.A (truthy v) (TP X pins σ Q) X.xe s
def tOp(r:R2)(ta tb:TE):TE:=λσ H Q=>ta σ H λx H1=>tb σ H1 λy H2=>r x y H2 Q
def tUn(r:V->Hp->VK->Prop)(ta:TE):TE:=λσ H Q=>ta σ H λx H1=>r x H1 Q
def rI(C:Int->Int->Prop)(g:Int->Int->V):R2:=λx y H Q=>∃i j,x=.int i/\y=.int j/\C i j/\Q (g i j) H
def rI0(g:Int->Int->V):R2:=λx y H Q=>∃i j,x=.int i/\y=.int j/\Q (g i j) H
noncomputable def rU(g:Int->V):V->Hp->VK->Prop:=λx H Q=>∃i,x=.int i/\Q (g i) H
section
variable {X:Cx}{a b c:Expr}{ta tb tc:TE}{pos:Pos}
theorem tF(ha:PE X a ta)(hb:PE X b tb){pins:List (Addr×Obj)}{s:Shared}{σ:St}{H:Hp}{R:V->V->Hp->Prop}(I:Inv X pins σ H s)
 (h:ta σ H λx H1=>tb σ H1 λy H2=>R x y H2) {Q:Value->Shared->Prop} {f:Value->Value->Sem Value}
 (hf:∀v u s2 x y H2,Inv X pins σ H2 s2->RelV x v->RelV y u->R x y H2->wpAny (model X.prog X.w) X.A (f v u) Q X.xe s2) :
 wpAny (model X.prog X.w) X.A (eval a X.env) (λv s₁=>wpAny (model X.prog X.w) X.A (eval b X.env) (λu s₂=>wpAny (model X.prog X.w) X.A (f v u) Q X.xe s₂) X.xe s₁) X.xe s:=by
 refine thn (ha pins s σ H _ I h) λv s1 ⟨x,H1,I1,r1,q1⟩=>?_
 refine thn (hb pins s1 σ H1 _ I1 q1) λu s2 ⟨y,H2,I2,r2,q2⟩=>?_
 exact hf v u s2 x y H2 I2 r1 r2 q2
theorem ai{op:Operator}{r:R2}(ho:OpR X (binaryOp op) r)(ha:PE X a ta)(hb:PE X b tb):PE X (.BinOp a op b pos) (tOp r ta tb):=by intro pins s σ H Q I h;exact wpAny_BinOp (tF ha hb I h λv u s2 x y H2 I2 rx ry q=>ho pins s2 σ H2 x y v u Q I2 rx ry q)
theorem aU{op:UnaryOp}{r:V->Hp->VK->Prop}(ho:UnR X (unaryOp op) r)(ha:PE X a ta):PE X (.UnaryOp op a pos) (tUn r ta):=by intro pins s σ H Q I h;exact UnaryOp_ (thn (ha pins s σ H _ I h) λv s1 ⟨x,H1,I1,r1,q1⟩=>ho pins s1 σ H1 x v Q I1 r1 q1)
theorem opI{f:Value->Value->Sem Value}{C:Int->Int->Prop}{g:Int->Int->Int}
 (rule:∀(i j:Int) (t u:Tok) (s:Shared) (Q:Value->Shared->Prop) (E:Value->Shared->Prop),C i j->Q (.int (g i j) s.toks) { s with toks:=s.toks+1 }->wpAny (model X.prog X.w) X.A (f (.int i t) (.int j u)) Q E s) :
 OpR X f (rI C λi j=>.int (g i j)):=by
 intro pins s σ H x y v u Q I rx ry h;obtain⟨i,j,rfl,rfl,hc,q⟩:=h;obtain⟨t,rfl⟩:=rx;obtain⟨t',rfl⟩:=ry;exact rule i j t t' s _ _ hc ⟨.int (g i j),H,I.tok _,⟨_,rfl⟩,q⟩
theorem wV{f:Value->Value->Sem Value}{g:Int->Int->Int}
 (rule:∀(i j:Int) (t u:Tok) (s:Shared) (Q:Value->Shared->Prop) (E:Value->Shared->Prop),Q (.int (g i j) s.toks) { s with toks:=s.toks+1 }->wpAny (model X.prog X.w) X.A (f (.int i t) (.int j u)) Q E s) :
 OpR X f (rI0 λi j=>.int (g i j)):=by
 intro pins s σ H x y v u Q I rx ry h;obtain⟨i,j,rfl,rfl,q⟩:=h;obtain⟨t,rfl⟩:=rx;obtain⟨t',rfl⟩:=ry;exact rule i j t t' s _ _ ⟨.int (g i j),H,I.tok _,⟨_,rfl⟩,q⟩
theorem iL{f:Value->Value->Sem Value}{g:Int->Int->Bool}
 (rule:∀(i j:Int) (t u:Tok) (s:Shared) (Q:Value->Shared->Prop) (E:Value->Shared->Prop),Q (.bool (g i j)) s->wpAny (model X.prog X.w) X.A (f (.int i t) (.int j u)) Q E s) :
 OpR X f (rI0 λi j=>.bl (g i j)):=by
 intro pins s σ H x y v u Q I rx ry h;obtain⟨i,j,rfl,rfl,q⟩:=h;obtain⟨t,rfl⟩:=rx;obtain⟨t',rfl⟩:=ry;exact rule i j t t' s _ _ ⟨.bl (g i j),H,I,rfl,q⟩
def NW(i j:Int):Prop:=0<=j/\j<=1000000/\i.natAbs<2^64
def CMul(i j:Int):Prop:=(-(2^64)<i/\i<2^64)\/(-(2^64)<j/\j<2^64)
theorem CMul.ok{i j:Int}(h:CMul i j):IntMulOk i j:=by
 rcases h with⟨h1,h2⟩ |⟨h1,h2⟩
 ·exact .of_left (intBits_le_64 h1 h2)
 ·exact .of_right (intBits_le_64 h1 h2)
theorem aZ:OpR X (binaryOp .Add) (rI0 λi j=>.int (i+j)):=wV λ_ _ _ _ _ _ _ q=>add_int q
theorem bA:OpR X (binaryOp .Sub) (rI0 λi j=>.int (i-j)):=wV λ_ _ _ _ _ _ _ q=>sub_int q
theorem Ec:OpR X (binaryOp .Mod) (rI (λ_ j=>0<j) λi j=>.int (i%j)):=opI λi j _ _ _ _ _ hc q=>by have h1:(0:Int)<j:=hc;exact mod_int' (by omega) (by rw[Int.fmod_eq_emod_of_nonneg i (by omega)];exact q)
theorem Eb:OpR X (binaryOp .Mod) (rI (λ_ j=>j≠0) λi j=>.int (i.fmod j)):=opI λ_ _ _ _ _ _ _ hc q=>mod_int' hc q
theorem oK:OpR X (binaryOp .Pow) (rI NW λi j=>.int (i^j.toNat)):=opI λ_ _ _ _ _ _ _ hc q=>pow_int_small hc.1 hc.2.1 hc.2.2 q
theorem unI{f:Value->Sem Value}{g:Int->Int}
 (rule:∀(i:Int) (t:Tok) (s:Shared) (Q:Value->Shared->Prop) (E:Value->Shared->Prop),Q (.int (g i) s.toks) { s with toks:=s.toks+1 }->wpAny (model X.prog X.w) X.A (f (.int i t)) Q E s) :
 UnR X f (rU λi=>.int (g i)):=by
 intro pins s σ H x v Q I rx h;obtain⟨i,rfl,q⟩:=h;obtain⟨t,rfl⟩:=rx;exact rule i t s _ _ ⟨.int (g i),H,I.tok _,⟨_,rfl⟩,q⟩
theorem aT:UnR X (unaryOp .USub) (rU λi=>.int (-i)):=unI λ_ _ _ _ _ q=>neg_int q
end
section
variable {X:Cx}{a b c:Expr}{ta tb tc:TE}{pos:Pos}
theorem JA{pins:List (Addr×Obj)}{σ:St}{H:Hp}{s:Shared}{Q:VK}{k k':Bool}(I:Inv X pins σ H s)(q:Q (.bl k) H)(e:k=k'):EP X pins σ Q (.bool k') s:=by subst e;exact⟨.bl k,H,I,rfl,q⟩
theorem dF:OpR X (compareOp .Lt) (rI0 λi j=>.bl (decide (i<j))):=iL λ_ _ _ _ _ _ _ q=>lt_int q
theorem Ed:OpR X (compareOp .LtE) (rI0 λi j=>.bl (decide (i<=j))):=iL λ_ _ _ _ _ _ _ q=>le_int q
theorem fB:OpR X (compareOp .Gt) (rI0 λi j=>.bl (decide (j<i))):=iL λ_ _ _ _ _ _ _ q=>gt_int q
theorem oM:OpR X (compareOp .GtE) (rI0 λi j=>.bl (decide (j<=i))):=iL λ_ _ _ _ _ _ _ q=>ge_int q
theorem wU:OpR X (compareOp .Is) (λx y H Q=>y=.non/\Q (.bl (decide (x=.non))) H):=by
 intro pins s σ H x y v u Q I rx ry h;obtain⟨rfl,q⟩:=h;cases ry;refine is_none_gen (JA I q ?_)
 cases x<;>first
  | (cases rx;rfl)
  | (obtain⟨t,rfl⟩:=rx;rfl)
theorem aw(b:Expr){op:CmpOp}(h:op≠.In:=by decide)(h2:op≠.NotIn:=by decide):behindInMarks op b=false:=by
 have e1:(op == CmpOp.In)=false:=by cases op<;>first |rfl |exact absurd rfl h
 have e2:(op == CmpOp.NotIn)=false:=by cases op<;>first |rfl |exact absurd rfl h2
 cases b<;>simp[behindInMarks,e1,e2]
theorem oF{op:CmpOp}{r:R2}(ho:OpR X (compareOp op) r)(ha:PE X a ta)(hb:PE X b tb)(hm:behindInMarks op b=false):PE X (.Compare a [op] [b] pos) (tOp r ta tb):=by intro pins s σ H Q I h;exact wpAny_Compare1 (tF ha hb I h λv u s2 x y H2 I2 rx ry q=>ho pins s2 σ H2 x y v u Q I2 rx ry q) hm
def Bp(t:TE):TT:=λσ H Q=>t σ H λx H'=>∃k,x=.bl k/\Q k H'
theorem ax{op:CmpOp}{r:R2}(ho:OpR X (compareOp op) r)(ha:PE X a ta)(hb:PE X b tb)(hm:behindInMarks op b=false):PT X (.Compare a [op] [b] pos) (Bp (tOp r ta tb)):=by
 intro pins s σ H Q I h
 refine wpAny_isTrue_Compare1 (thn (ha pins s σ H _ I h) λv s1 ⟨x,H1,I1,r1,q1⟩=>thn (hb pins s1 σ H1 _ I1 q1) λu s2 ⟨y,H2,I2,r2,q2⟩ =>thn (ho pins s2 σ H2 x y v u _ I2 r1 r2 q2) λc s3 ⟨z,H3,I3,r3,k,e,q3⟩=>?_) hm
 subst e;cases r3;exact wpAny_truthy_bool ⟨H3,I3,q3⟩
noncomputable def Ac(K:PySem.W.Frag)(x:V)(H:Hp)(k:Bool):Prop :=
 match x with
 |.non=>k=false
 |.bl b=>k=b
 |.int i=>k=(i != 0)
 |.str y=>y.length<=sizeLine/\k=((y.length:Int) != 0)
 |.byt y=>y.size<=sizeLine/\k=((y.size:Int) != 0)
 |.ref p=>(∃xs,SqL K H p xs/\k=!xs.isEmpty)\/(∃xs,SqT K H p xs/\k=!xs.isEmpty)\/∃kvs,H p=some (.dK kvs)/\k=!kvs.isEmpty
 |_=>False
theorem IR{κ:Type}{kvs:List (κ×V)}{vs:List (κ×Value)}(r:KV kvs vs):(!vs.isEmpty)=!kvs.isEmpty:=by cases r<;>rfl
theorem yl{xs:List V}{its:List Value}(r:Vals xs its):(!its.toArray.isEmpty)=!xs.isEmpty:=by cases r<;>simp
theorem jW:(sizeLine:Nat)<2^63:=by rw[sizeLine_eq];decide
theorem A6:L4 X (λx H Q=>∃k,Ac X.K x H k/\Q k H):=by
 intro pins s σ H x v Q I rx h;obtain⟨k,e,q⟩:=h;have hl:=jW;have hs:sizeLine=16777216:=sizeLine_eq;cases x with
 |non =>cases rx;have e':k=false:=e;subst e';exact truthy_none ⟨H,I,q⟩
 |bl b =>cases rx;have e':k=b:=e;subst e';exact wpAny_truthy_bool ⟨H,I,q⟩
 |int i =>obtain⟨t,rfl⟩:=rx;have e':k=(i != 0):=e;subst e';exact PySem.P.truthy_int ⟨H,I,q⟩
 |str y =>obtain⟨t,rfl⟩:=rx;obtain⟨hy,e'⟩:y.length<=sizeLine/\k=((y.length:Int) != 0):=e;subst e';exact PySem.P.truthy_str (by omega) ⟨H,I.tok _,q⟩
 |byt y =>obtain⟨t,rfl⟩:=rx;obtain⟨hy,e'⟩:y.size<=sizeLine/\k=((y.size:Int) != 0):=e;subst e';exact PySem.W.truthy_bytes (by omega) ⟨H,I.tok _,q⟩
 |ref p =>
  cases rx;have e':(∃xs,SqL X.K H p xs/\k=!xs.isEmpty)\/(∃xs,SqT X.K H p xs/\k=!xs.isEmpty)\/∃kvs,H p=some (.dK kvs)/\k=!kvs.isEmpty:=e;rcases e' with⟨xs,hx,e'⟩ |⟨xs,hx,e'⟩ |⟨kvs,hx,e'⟩
  ·subst e';obtain⟨its,r,pl,hz⟩:=I.list hx;have hlen:=r.length;exact wpAny_truthy_list pl.isList (by simp only[Ql];omega) ⟨H,I.tok _,by rw[yl r];exact q⟩
  ·subst e';obtain⟨its,r,pl,hz⟩:=I.tuple hx;have hlen:=r.length;exact truthy_tuple pl (by simp only[Ql];omega) ⟨H,I.tok _,by rw[yl r];exact q⟩
  ·subst e';obtain⟨hz,hS,vs,r,m⟩:kvs.length<=sizeLine/\(p == sysModules)=false/\∃vs,KV kvs vs/\s.heap.DictOf (rz X.prog X.w) p vs:=I.hok p _ hx;have hlen:kvs.length=vs.length:=Paired.length r;exact wpAny_truthy_dict hS m (by omega) ⟨H,I.tok _,by rw[IR r];exact q⟩
 |_=>exact(show False from e).elim
theorem DI(ha:PE X a ta)(he:∀whole,isTrue a X.env whole=(do let v <- whole;standAt a.pos;holding [v] (truthy v))) :
 PT X a (λσ H Q=>ta σ H λx H'=>∃k,Ac X.K x H' k/\Q k H'):=by
 intro pins s σ H Q I h;exact isTrue_plain (thn (ha pins s σ H _ I h) λv s1 ⟨x,H1,I1,r1,q1⟩=>A6 pins s1 σ H1 x v Q I1 r1 q1) (he _)
theorem io{x:V}{us:List Value}(r:Vals [x] us):∃u,us=[u]/\RelV x u:=by
 cases r with
 |cons r1 r2=>cases r2;exact⟨_,rfl,r1⟩
theorem AR{x y:V}{us:List Value}(r:Vals [x,y] us):∃u w',us=[u,w']/\RelV x u/\RelV y w':=by
 cases r with
 |cons r1 r2 =>
  cases r2 with
  |cons r3 r4=>cases r4;exact⟨_,_,rfl,r1,r3⟩
theorem fO:cY X (.builtin "abs") (λxs H Q=>∃i,xs=[.int i]/\Q (.int (if i<0 then -i else i)) H):=by intro pins s σ H xs us Q I r h;obtain⟨i,rfl,q⟩:=h;obtain⟨u,rfl,t,rfl⟩:=io r;exact call_abs_int λu tk=>⟨.int (if i<0 then -i else i),H,I.tok _,⟨_,rfl⟩,q⟩
theorem zC(hc:X.calm=true):cY X (.builtin "max") (λxs H Q=>∃i j,xs=[.int i,.int j]/\Q (.int (if j>i then j else i)) H):=by
 intro pins s σ H xs us Q I r h;obtain⟨i,j,rfl,q⟩:=h;obtain⟨u,w',rfl,⟨t,rfl⟩,⟨t',rfl⟩⟩:=AR r;refine max_two_ints (I.ok.hd hc) λh' tk k=>⟨_,H,I.kept k,?_,q⟩
 by_cases hj:j>i
 ·rw[if_pos hj,if_pos hj];exact⟨_,rfl⟩
 ·rw[if_neg hj,if_neg hj];exact⟨_,rfl⟩
end
structure ObjM(h:Heap)(x dx C:Addr)(mA:Str->Option Value):Prop where
 obj:h.get? x=some (PySem.W.instObj C dx)
 ns:h.Ns1 dx mA
 ne:dx≠x
theorem HC{h:Heap}{dx:Addr}{mA:Str->Option Value}(n:h.Ns1 dx mA):∃od,h.get? dx=some od/\∀name,PySem.W.lookIn name od=some (mA name):=by
 obtain⟨o,es,ep,ho,hd,hk,_,hm⟩:=n;refine⟨o,ho,λname=>?_⟩;have e:=hm name;unfold nsFind findBy at e
 rw[<- Array.find?_toList]at e;unfold PySem.W.lookIn;rw[hd];dsimp only
 split
 ·rename_i y q
  rw[q]at e;exact congrArg some e
 ·rename_i q
  rw[q]at e
  have a:es.toList.any (·.refKey)=false:=by rw[List.any_eq_false];intro y hy;obtain⟨z,t,hkey⟩:=hk y (Array.mem_toList_iff.mp hy);simp[DictEntry.refKey,hkey]
  have a':¬es.toList.any (·.refKey)=true:=by rw[a];exact Q7
  rw[if_neg a'];exact congrArg some e
theorem ObjM.look{h:Heap}{x dx C:Addr}{mA:Str->Option Value}(I:ObjM h x dx C mA):∃od,PySem.W.InstAt h x (PySem.W.instObj C dx) C (some od)/\∀name,PySem.W.lookIn name od=some (mA name) :=
 let⟨od,ho,hl⟩:=HC I.ns
 ⟨od,⟨I.obj,rfl,rfl,ho⟩,hl⟩
section
variable {prog:Program}{w:World}{A:Around}{E:Value->Shared->Prop}{s:Shared}{K:PySem.W.Frag}{x dx C f:Addr}{mA:Str->Option Value}{name:Str}{v:Value}
theorem Ji{expr:Bool}{Q:Value->Shared->Prop}(X:K.In s.heap)(I:ObjM s.heap x dx C mA)(hg:PySem.W.plainGet K C name=true)(hh:PySem.W.hasDictIn K C=true)
 (ha:PySem.W.findIn K (.ref C) name=some none) (hv:mA name=some v) (hv':PySem.W.handedIn v=true) (h:Q v { s with toks:=s.toks+1 }) :
 wpAny (model prog w) A (getAttr (.ref x) name expr) Q E s:=by
 obtain⟨od,J,hl⟩:=I.look;exact PySem.W.get_value X J (PySem.W.plainGet_of hg).1 (PySem.W.findObj_own hh ha rfl (by rw[hl,hv])) hv' h
theorem Jh{pl:Sem Bool}{Q:Value×List Value->Shared->Prop}(X:K.In s.heap)(I:ObjM s.heap x dx C mA)(hg:PySem.W.plainGet K C name=true)
 (hf:PySem.W.findIn K (.ref C) name=some (some (.ref f))) (ht:PySem.W.isFn K (.ref f)=true) (hv:mA name=none) (h:Q (.ref f,[.ref x]) s) :
 wpAny (model prog w) A (getMethod (.ref x) name pl) Q E s:=by
 obtain⟨od,J,hl⟩:=I.look;exact PySem.W.method_fn X J (PySem.W.plainGet_of hg).1 (PySem.W.plainGet_of hg).2 hf (beq_iff_eq.mp ht) (by show(PySem.W.lookIn name od).map (·.isSome)=some false;rw[hl,hv];rfl) h
theorem B5{ns:List Str}{Q:Unit->Shared->Prop}(X:K.In s.heap)(I:ObjM s.heap x dx C mA)
 (hs:PySem.W.findIn K (.ref C) "__setattr__"=some (some (.builtin "object.__setattr__"))) (hp:PySem.W.plainOver K C=true) (ht:PySem.W.takerIn K C name=some none) (hh:PySem.W.hasDictIn K C=true)
 (hw:PySem.Within mA ns) (hsz:ns.length<=sizeLine)
 (h:∀h',ObjM h' x dx C (λy=>if y=name then some v else mA y)->Heap.SameBut dx s.heap h'->Q () { s with heap:=h',toks:=s.toks+2 }) :
 wpAny (model prog w) A (setAttr (.ref x) name v) Q E s:=by
 obtain⟨od,J,hl⟩:=I.look;refine PySem.W.set_plain X J hs (PySem.W.osa_open (s:={ s with toks:=s.toks+1 }) (r:=none) X J hp ht λb=>?_);obtain⟨cd,hc,hd'⟩:=PySem.W.any_some hh;have hx:s.heap.get? x=some ⟨.ref C,some dx,.plain,#[]⟩:=I.obj;refine wpAny_bind (wpAny_pure (wpAny_bind (wpAny_bind (wpAny_loadPart hx (wpAny_bind (PySem.W.Looks.here (s:={ s with toks:=s.toks+1 }) (PySem.W.looks_clsIn X hc) ?_))))));rw[hd'];refine wpAny_pure (a:=some dx) (wpAny_bind (wpAny_pure (wpAny_bind ?_)));refine wpAny_nsSet1 (s:={ s with toks:=s.toks+1 }) I.ns λh' hn2 hs2=>?_
 obtain⟨oD,esD,epD,hoD,hdD,hcD⟩:=hn2.count (PySem.Within.cons name v hw);refine wpAny_bind (wpAny_lookBehind hoD (by rw[hdD];exact pastItsLine_dict (Qu hcD (by rw[P7];omega))) ?_);exact wpAny_pure (h _ ⟨(hs2.2 _ (Ne.symm I.ne)).trans I.obj,hn2,I.ne⟩ hs2)
theorem GK{R:Result->Shared->Prop}{vs:List Value}{kw:List (Str×Value)}(X:K.In s.heap)(hm:PySem.W.makesIn K C=true)
 (hi:PySem.W.findIn K (.ref C) "__init__"=some (some (.ref f))) (hf:PySem.W.typeIn K (.ref f)=some (.type "function"))
 (h:codeAny (model prog w) (A.under (.builtin "type.__call__" ⟨.ref C::vs,kw⟩)) (.call (.ref f) ⟨.ref (s.heap.objs.size+1)::vs,kw⟩) (PySem.W.InitBack (s.heap.objs.size+1) R)
   { s with heap:=(s.heap.push PySem.W.emptyDict).push (PySem.W.instObj C s.heap.objs.size) }) :
 codeAny (model prog w) A (.call (.ref C) ⟨vs,kw⟩) R s:=by
 obtain⟨hh,g,d,t,os⟩:=s;exact PySem.W.make_core (PySem.W.makes_of X hm) (PySem.W.looks_findIn X hi) (λself=>PySem.W.bind_fn X self hf) (.inl rfl) h
end
noncomputable def b8(f:Str)(v:V):List (Str×V)->List (Str×V)
 | []=>[(f,v)]
 | (g,x)::r=>if g=f then(g,v)::r else(g,x)::b8 f v r
theorem db(f g:Str)(v:V):∀fs:List (Str×V),(b8 f v fs).lookup g=if g=f then some v else fs.lookup g
 | []=>by
  show List.lookup g [(f,v)]=_;by_cases h:g=f
  ·have hb:(g == f)=true:=beq_iff_eq.mpr h;simp only[List.lookup,hb,if_pos h]
  ·have hb:(g == f)=false:=beq_eq_false_iff_ne.mpr h;simp only[List.lookup,hb,if_neg h]
 | (k,x)::r=>by
  have ih:=db f g v r;rw[show b8 f v ((k,x)::r)=(if k=f then(k,v)::r else(k,x)::b8 f v r)from rfl];by_cases hk:k=f
  ·rw[if_pos hk];by_cases h:g=k
   ·have hb:(g == k)=true:=beq_iff_eq.mpr h;simp only[List.lookup,hb,if_pos (h.trans hk)]
   ·have hb:(g == k)=false:=beq_eq_false_iff_ne.mpr h;simp only[List.lookup,hb,if_neg (λe:g=f=>h (e.trans hk.symm))]
  ·rw[if_neg hk];by_cases h:g=k
   ·have hb:(g == k)=true:=beq_iff_eq.mpr h;simp only[List.lookup,hb,if_neg (λe:g=f=>hk (h.symm.trans e))]
   ·have hb:(g == k)=false:=beq_eq_false_iff_ne.mpr h;simp only[List.lookup,hb];exact ih
theorem sd(f:Str)(v:V):∀fs:List (Str×V),f∈(b8 f v fs).map (·.1)/\∀g,g∈fs.map (·.1)->g∈(b8 f v fs).map (·.1)
 | []=>⟨by simp[b8],λg h=>by simp at h⟩
 | (k,x)::r=>by
  obtain⟨i1,i2⟩:=sd f v r;rw[show b8 f v ((k,x)::r)=(if k=f then(k,v)::r else(k,x)::b8 f v r)from rfl];by_cases hk:k=f
  ·rw[if_pos hk];subst hk;exact⟨by simp,λg h=>by simpa using h⟩
  ·rw[if_neg hk];refine⟨?_,λg h=>?_⟩
   ·rw[Qm];exact Qb _ i1
   ·rw[Qm]at h ⊢;rcases P8.mp h with e |e
    ·exact P8.mpr (.inl e)
    ·exact Qb _ (i2 g e)
theorem xT(f:Str)(v:V):∀fs:List (Str×V),(b8 f v fs).length<=fs.length+1
 | []=>by simp[b8]
 | (k,x)::r=>by
  have ih:=xT f v r;rw[show b8 f v ((k,x)::r)=(if k=f then(k,v)::r else(k,x)::b8 f v r)from rfl];by_cases hk:k=f
  ·rw[if_pos hk,P7,P7];omega
  ·rw[if_neg hk,P7,P7];omega
theorem RelO.some_of{v:V}{o:Option Value}(r:RelO (some v) o):∃u,o=some u/\RelV v u:=by
 cases o with
 |none=>exact(show False from r).elim
 |some u=>exact⟨u,rfl,r⟩
theorem RelO.none_of{o:Option Value}(r:RelO none o):o=none:=by
 cases o with
 |none=>rfl
 |some u=>exact(show False from r).elim
theorem Jd{v:V}{u:Value}(r:RelV v u):PySem.W.handedIn u=true:=by
 cases v with
 |non=>cases(show u=Value.none from r);rfl
 |bl b=>cases(show u=Value.bool b from r);rfl
 |int i=>obtain⟨t,e⟩:=(show ∃t,u=Value.int i t from r);cases e;rfl
 |str x=>obtain⟨t,e⟩:=(show ∃t,u=Value.str x t from r);cases e;rfl
 |byt b=>obtain⟨t,e⟩:=(show ∃t,u=Value.bytes b t from r);cases e;rfl
 |flt b=>obtain⟨t,e⟩:=(show ∃t,u=Value.float b t from r);cases e;rfl
 |ref a=>cases(show u=Value.ref a from r);rfl
 |ty n=>cases(show u=Value.type n from r);rfl
section
variable {P:Program}{w:World}{H H':Hp}{h h':Heap}{a C dx:Addr}{fs fs':List (Str×V)}
theorem px(hok:HOk P w H h)(e:H a=some (.ins C dx fs)):∃mA,ObjM h a dx C mA/\(∀f,RelO (fs.lookup f) (mA f))/\PySem.Within mA (fs.map (·.1))/\fs.length<=1000/\H dx=some (.own a):=by obtain⟨d,z,ne,ob,mA,n,r,q⟩:=(show ObjOk P w H h a (.ins C dx fs)from hok a _ e);exact⟨mA,⟨ob,n,ne⟩,r,q,z,d⟩
end
structure Cls(K:PySem.W.Frag)(C:Addr):Prop where
 pg:PySem.W.plainGet K C Str.empty=true
 hd:PySem.W.hasDictIn K C=true
 po:PySem.W.plainOver K C=true
 sa:PySem.W.findIn K (.ref C) "__setattr__"=some (some (.builtin "object.__setattr__"))
theorem Cls.get{K:PySem.W.Frag}{C:Addr}(c:Cls K C)(f:Str):PySem.W.plainGet K C f=true:=c.pg
def NoAttr(K:PySem.W.Frag)(C:Addr)(f:Str):Prop:=PySem.W.findIn K (.ref C) f=some none
theorem NoAttr.taker{K:PySem.W.Frag}{C:Addr}{f:Str}(n:NoAttr K C f):PySem.W.takerIn K C f=some none:=by unfold PySem.W.takerIn;rw[show PySem.W.findIn K (.ref C) f=some none from n];rfl
structure Meth(K:PySem.W.Frag)(C:Addr)(m:Str)(f:Addr):Prop where
 at_:PySem.W.findIn K (.ref C) m=some (some (.ref f))
 fn:PySem.W.isFn K (.ref f)=true
 kp:PySem.W.keepIn K (.ref f)=true
section
variable {X:Cx}{pins:List (Addr×Obj)}{σ:St}{H:Hp}{s:Shared}{a C dx:Addr}{fs:List (Str×V)}{f:Str}{v:V}{A:Around}{E:Value->Shared->Prop}
theorem Jg{b:Bool}{Q:Value->Shared->Prop}(I:Inv X pins σ H s)(e:H a=some (.ins C dx fs))(c:Cls X.K C)(n:NoAttr X.K C f)(l:fs.lookup f=some v)
 (h:∀u s',Inv X pins σ H s'->RelV v u->Q u s'):wpAny (model X.prog X.w) A (getAttr (.ref a) f b) Q E s:=by
 obtain⟨mA,O,r,_,_,_⟩:=px I.hok e;obtain⟨u,hu,ru⟩:=RelO.some_of (v:=v) (o:=mA f) (by rw[<- l];exact r f);exact Ji I.kIn O (c.get f) c.hd n hu (Jd ru) (h u _ (I.tok _) ru)
theorem Jf{m:Str}{g:Addr}{pl:Sem Bool}{Q:Value×List Value->Shared->Prop}(I:Inv X pins σ H s)(e:H a=some (.ins C dx fs))(c:Cls X.K C)(k:Meth X.K C m g)(l:fs.lookup m=none)
 (h:Q (.ref g,[.ref a]) s):wpAny (model X.prog X.w) A (getMethod (.ref a) m pl) Q E s:=by
 obtain⟨mA,O,r,_,_,_⟩:=px I.hok e;have hn:mA m=none:=RelO.none_of (by rw[<- l];exact r m);exact Jh I.kIn O (c.get m) k.at_ k.fn hn h
theorem B4{y:V}{u:Value}{Q:Unit->Shared->Prop}(I:Inv X pins σ H s)(e:H a=some (.ins C dx fs))(c:Cls X.K C)(n:NoAttr X.K C f)(hl:fs.length<1000)(ry:RelV y u)
 (h:∀s',Inv X pins σ (upd H a (.ins C dx (b8 f y fs))) s'->Q () s'):wpAny (model X.prog X.w) A (setAttr (.ref a) f u) Q E s:=by
 obtain⟨mA,O,r,wi,_,ho⟩:=px I.hok e;have hz:(fs.map (·.1)).length<=sizeLine:=by rw[PX,sizeLine_eq];omega
 refine B5 I.kIn O c.sa c.po n.taker c.hd wi hz λh' O' sb=>h _ ?_
 have hd:∃o,h'.get? dx=some o:=let⟨o,_,_,e',_⟩:=O'.ns;⟨o,e'⟩;refine I.write (x:=a) (e:=dx) (by rw[e];exact True.intro) (.inr ho) (λb q hb z=>(sb.2 b hb).trans z) hd ?_;refine⟨by rw[upd_ne O.ne];exact ho,?_,O.ne,O'.obj,_,O'.ns,λg=>?_,λg hg=>?_⟩
 ·have:=xT f y fs;omega
 ·show RelO ((b8 f y fs).lookup g) (if g=f then some u else mA g);rw[db];by_cases q:g=f
  ·rw[if_pos q,if_pos q];exact ry
  ·rw[if_neg q,if_neg q];exact r g
 ·by_cases q:g=f
  ·rw[q];exact(sd f y fs).1
  ·refine(sd f y fs).2 g (wi g λz=>hg ?_);show(if g=f then some u else mA g)=none;rw[if_neg q];exact z
theorem Inv.made(I:Inv X pins σ H s):Inv X pins σ (upd (upd H s.heap.objs.size (.own (s.heap.objs.size+1))) (s.heap.objs.size+1) (.ins C s.heap.objs.size []))
 { s with heap:=(s.heap.push PySem.W.emptyDict).push (PySem.W.instObj C s.heap.objs.size) }:=by
 have e1:(s.heap.push PySem.W.emptyDict).get? s.heap.objs.size=some PySem.W.emptyDict:=Heap.get?_push_size s.heap rfl
 have e2:((s.heap.push PySem.W.emptyDict).push (PySem.W.instObj C s.heap.objs.size)).get? (s.heap.objs.size+1)=some (PySem.W.instObj C s.heap.objs.size):=by
  have:=Heap.get?_push_size (s.heap.push PySem.W.emptyDict) (o:=PySem.W.instObj C s.heap.objs.size) rfl
  rwa [Heap.size_push]at this
 have e3:(s.heap.push PySem.W.emptyDict).Ns s.heap.objs.size (λ_=>none):=⟨PySem.W.emptyDict,#[],_,e1,rfl,(λe he=>absurd he (by simp)),λ_=>rfl⟩;have I1:=I.laid (a:=s.heap.objs.size) (o:=.own (s.heap.objs.size+1)) (h':=s.heap.push PySem.W.emptyDict) (t':=s.toks) (λb u q=>Heap.get?_push_of_some _ q) (PZ _) ⟨_,e1⟩;refine I1.laid (a:=s.heap.objs.size+1) (o:=.ins C s.heap.objs.size []) (t':=s.toks) (λb u q=>Heap.get?_push_of_some _ q) (Re (Heap.size_push _ _)) ?_;have ne:s.heap.objs.size≠s.heap.objs.size+1:=Qf (QP _);refine⟨by rw[upd_ne ne,ak],P6 _,ne,e2,λ_=>none,(Heap.Ns1.of_empty e3).at λo q=>Heap.get?_push_of_some _ q,λ_=>True.intro,λy hy=>absurd rfl hy⟩
theorem LP{prog:Program}{w:World}{env:Env}{e:Expr}{f:Str}{pos:Pos}{s:Shared}{Q:Value->Shared->Prop}(hb:attributeBase e f env (eval e env)=eval e env)
 (h:wpAny (model prog w) A (eval e env) (λo s₁=>wpAny (model prog w) A (getAttr o f true) Q E s₁) E s):wpAny (model prog w) A (eval (.Attribute e f pos) env) Q E s :=
 Attribute_any_ h (by rw[arm_eval_Attribute,hb])
end
def u9(K:PySem.W.Frag)(ta:TE)(f:Str):TE:=λσ H Q=>ta σ H λx H1=>∃a C dx fs v,x=.ref a/\H1 a=some (.ins C dx fs)/\Cls K C/\NoAttr K C f/\fs.lookup f=some v/\Q v H1
def CW(K:PySem.W.Frag)(ta tv:TE)(f:Str):TS:=λD σ H=>tv σ H λy H1=>ta σ H1 λx H2=>∃a C dx fs,x=.ref a/\H2 a=some (.ins C dx fs)/\Cls K C/\NoAttr K C f/\fs.length<1000 /\
 D.nx σ (upd H2 a (.ins C dx (b8 f y fs)))
section
variable {X:Cx}{o e value:Expr}{f:Str}{pos pos' tpos:Pos}{ta tv:TE}
theorem D3(he:PE X e ta)(hb:attributeBase e f X.env (eval e X.env)=eval e X.env):PE X (.Attribute e f pos) (u9 X.K ta f):=by intro pins s σ H Q I h;refine LP hb (thn (he pins s σ H _ I h) λu s1 ⟨x,H1,I1,rx,a,C,dx,fs,v,ex,ea,c,n,l,q⟩=>?_);subst ex;obtain rfl:u=Value.ref a:=rx;exact Jg I1 ea c n l λu' s2 I2 ru=>⟨v,H1,I2,ru,q⟩
theorem jx(ha:PE X o ta)(hv:PE X value tv)(hs:swapsWith value (some (.Attribute o f pos')) pos.line X.env=pure false):PS X (.Assign [.Attribute o f pos'] value pos) (CW X.K ta tv f):=by intro pins s σ H D I h;refine plainObj_wpAny_Assign_Attribute (thn (hv pins s σ H _ I h) λu s1 ⟨y,H1,I1,ry,q⟩=>thn (ha pins s1 σ H1 _ I1 q) λov s2 ⟨x,H2,I2,rx,a,C,dx,fs,ex,ea,c,n,l,q2⟩=>?_) hs;subst ex;obtain rfl:ov=Value.ref a:=rx;exact B4 I2 ea c n l ry λs3 I3=>⟨σ,_,I3,q2⟩
end
section
variable {X:Cx}{pins:List (Addr×Obj)}{σ:St}{H:Hp}{s:Shared}{A:Around}{E:Value->Shared->Prop}{Q:Value->Shared->Prop}{c:Value}{b:Bool}
inductive TyOf(K:PySem.W.Frag)(H:Hp):V->Value->Prop where
 |non:TyOf K H .non (.type "NoneType")
 |bl (x:Bool):TyOf K H (.bl x) (.type "bool")
 |int (i:Int):TyOf K H (.int i) (.type "int")
 |str (x:Str):TyOf K H (.str x) (.type "str")
 |flt (x:UInt64):TyOf K H (.flt x) (.type "float")
 |lst {a:Addr} {xs:List V} (e:H a=some (.lst xs)):TyOf K H (.ref a) (.type "list")
 |frz {a:Addr} {o:Obj} {xs:List V} (e:H a=some (.frz o (.lst xs))):TyOf K H (.ref a) (.type "list")
 |tup {a:Addr} {xs:List V} (e:H a=some (.tup xs)):TyOf K H (.ref a) (.type "tuple")
 |dK {a:Addr} {kvs:List (Key×V)} (e:H a=some (.dK kvs)):TyOf K H (.ref a) (.type "dict")
 |dT {a:Addr} {kvs:List (List Key×V)} (e:H a=some (.dT kvs)):TyOf K H (.ref a) (.type "dict")
 |ins {a C dx:Addr} {fs:List (Str×V)} (e:H a=some (.ins C dx fs)) (cl:Cls K C) (ha:PySem.W.findIn K (.ref C) "__class__"=some (some (.builtin "object.__class__")))
  (hn:PySem.W.specialIn K (.builtin "object.__class__") "__get__"=some (some (.builtin "getset_descriptor.__get__"))) (htk:PySem.W.takesIn K (.builtin "object.__class__")=some true)
  (hm:PySem.W.mroIn K C (.type "object")=some true):TyOf K H (.ref a) (.ref C)
theorem IQ{x:V}{u t:Value}(I:Inv X pins σ H s)(rx:RelV x u)(ty:TyOf X.K H x t)(e:PySem.W.kitOne X.K t c=some b)(h:∀tk,Q (.bool b) { s with toks:=tk }) :
 wpAny (model X.prog X.w) A (call (.builtin "isinstance") [u,c]) Q E s:=by
 cases ty with
 |non=>cases(show u=Value.none from rx);exact PySem.W.kia_one PySem.W.kitx_none I.kIn True.intro e (λz=>nomatch z) h
 |bl y=>cases(show u=Value.bool y from rx);exact PySem.W.kia_one PySem.W.kitx_bool I.kIn True.intro e (λz=>nomatch z) h
 |int i=>obtain⟨t,q⟩:=(show ∃t,u=Value.int i t from rx);cases q;exact PySem.W.kia_one PySem.W.kitx_int I.kIn True.intro e (λz=>nomatch z) h
 |str y=>obtain⟨t,q⟩:=(show ∃t,u=Value.str y t from rx);cases q;exact PySem.W.kia_one PySem.W.kitx_str I.kIn True.intro e (λz=>nomatch z) h
 |flt y=>obtain⟨t,q⟩:=(show ∃t,u=Value.float y t from rx);cases q;exact PySem.W.kia_one PySem.W.kitx_float I.kIn True.intro e (λz=>nomatch z) h
 | @lst a xs ea =>cases(show u=Value.ref a from rx);obtain⟨_,_,n,_,h1⟩:=(show ObjOk X.prog X.w H s.heap a (.lst xs)from I.hok a _ ea);exact PySem.W.kia_one PySem.W.kitx_list I.kIn ⟨_,h1,rfl⟩ e (λz=>nomatch z) h
 | @frz a ob xs ea =>cases(show u=Value.ref a from rx);obtain⟨_,_,_,n,_,h1⟩:=(show ObjOk X.prog X.w H s.heap a (.frz ob (.lst xs))from I.hok a _ ea);exact PySem.W.kia_one PySem.W.kitx_list I.kIn ⟨_,h1,rfl⟩ e (λz=>nomatch z) h
 | @tup a xs ea =>cases(show u=Value.ref a from rx);obtain⟨_,_,_,p⟩:=(show ObjOk X.prog X.w H s.heap a (.tup xs)from I.hok a _ ea);obtain⟨o,h1,h2,_⟩:=p;exact PySem.W.kia_one PySem.W.kitx_tuple I.kIn ⟨o,h1,h2⟩ e (λz=>nomatch z) h
 | @dK a kvs ea =>cases(show u=Value.ref a from rx);obtain⟨_,_,vs,_,p⟩:=(show ObjOk X.prog X.w H s.heap a (.dK kvs)from I.hok a _ ea);obtain⟨o,es,ep,h1,h2,_⟩:=p;exact PySem.W.kia_one PySem.W.kitx_dict I.kIn ⟨o,h1,h2.1⟩ e (λz=>nomatch z) h
 | @dT a kvs ea =>cases(show u=Value.ref a from rx);obtain⟨_,_,xs,_,o,es,ep,h1,h2,_⟩:=(show ObjOk X.prog X.w H s.heap a (.dT kvs)from I.hok a _ ea);exact PySem.W.kia_one PySem.W.kitx_dict I.kIn ⟨o,h1,h2.1⟩ e (λz=>nomatch z) h
 | @ins a C dx fs ea cl ha hn htk hm =>cases(show u=Value.ref a from rx);obtain⟨mA,O,_⟩:=px I.hok ea;obtain⟨od,J,_⟩:=O.look;exact PySem.W.kia_one (PySem.W.kitx_own (cl.get _) cl.hd ha hn htk hm) I.kIn J e (λz=>nomatch z) h
end
structure Room(k:Nat)(A:Around):Prop where
 hd:A.handled=none
 dp:A.depth+3*k+5<recursionLimit
 un:A.units+16*k+200<cLine
theorem Room.mono{j k:Nat}{A:Around}(r:Room k A)(h:j<=k:=by decide):Room j A:=⟨r.hd,by have:=r.dp;omega,by have:=r.un;omega⟩
theorem Room.deeper{k:Nat}{A:Around}(r:Room (k+1) A)(env:Env):Room k (A.deeper env) :=
 ⟨r.hd,by have:=r.dp;show A.depth+1+3*k+5<_;omega,by have:=r.un;show A.units+3+16*k+200<_;omega⟩
theorem Room.in1{k:Nat}{A:Around}(r:Room (k+1) A):Room k A.in1 :=
 ⟨r.hd,by have:=r.dp;show A.depth+3*k+5<_;omega,by have:=r.un;show A.units+1+16*k+200<_;omega⟩
theorem GL{A:Around}{C:Addr}{us:List Value}{kw:List (Str×Value)}:(A.under (.builtin "type.__call__" ⟨.ref C::us,kw⟩)).depth=A.depth+1:=by first |rfl |simp[Around.under,Code.weight,Code.isCreation,Code.isGuard,Code.isCaller,Code.frames,Code.isFrame,guardIds]
theorem GJ{A:Around}{C:Addr}{us:List Value}{kw:List (Str×Value)}:(A.under (.builtin "type.__call__" ⟨.ref C::us,kw⟩)).units=A.units+1:=by first |rfl |simp[Around.under,Code.cUnits,Code.frames,Code.isFrame]
theorem Room.make{k:Nat}{A:Around}(r:Room (k+1) A)(C:Addr)(us:List Value)(kw:List (Str×Value)):Room k (A.under (.builtin "type.__call__" ⟨.ref C::us,kw⟩)) :=
 ⟨r.hd,by have:=r.dp;rw[GL];omega,by have:=r.un;rw[GJ];omega⟩
theorem Room.depth{k:Nat}{A:Around}(r:Room k A):A.depth<recursionLimit:=by have:=r.dp;omega
theorem Room.units{k:Nat}{A:Around}(r:Room k A):A.units+64<cLine:=by have:=r.un;omega
def qi:TA:=λ_ H Q=>Q [] H
def qk(ta:TE)(tr:TA):TA:=λσ H Q=>ta σ H λx H1=>tr σ H1 λxs H2=>Q (x::xs) H2
section
variable {X:Cx}{e:Expr}{es:List Expr}{te:TE}{t:TA}{pos:Pos}
theorem ac:PA X [] qi:=λ_ _ _ _ H Q I h=>Calls.spliced_nil ⟨[],H,I,.nil,h⟩
theorem aa(ha:PE X e te)(hr:PA X es t)(hs:starEach (e::es) X.env=(false,eval e X.env)::starEach es X.env:=by rfl):PA X (e::es) (qk te t):=by intro pos pins s σ H Q I h;rw[hs];show wpAny _ _ (spliced ((false,eval e X.env)::backTo pos (starEach es X.env))) _ _ s;refine Calls.spliced_cons (thn (ha pins s σ H _ I h) λu s1 ⟨x,H1,I1,r1,q1⟩=>?_);exact thn (hr pos pins s1 σ H1 _ I1 q1) λus s2 ⟨xs,H2,I2,r2,q2⟩=>⟨x::xs,H2,I2,.cons r1 r2,q2⟩
def Bm(t:TA):TE:=λσ H Q=>t σ H λxs H1=>xs.length<=sizeLine/\∀p,H1 p=none->Q (.ref p) (upd H1 p (.tup xs))
def By(t:TA):TE:=λσ H Q=>t σ H λxs H1=>xs.length<=sizeLine/\∀p,H1 p=none->Q (.ref p) (upd H1 p (.lst xs))
theorem dP{x1}(h:PA X es t):PE X (.Tuple es x1 pos) (Bm t):=by intro pins s σ H Q I hq;refine wpAny_Tuple_spliced (thn (h pos pins s σ H _ I hq) λus s1 ⟨xs,H1,I1,r,z,q⟩=>⟨by rw[<- r.length];exact z,?_⟩);have hf:H1 s1.heap.objs.size=none:=I1.hok.fresh (PZ _);refine⟨.ref s1.heap.objs.size,upd H1 s1.heap.objs.size (.tup xs),I1.laid (t':=s1.toks) (λb u e=>Heap.get?_push_of_some _ e) (PZ _) ?_,rfl,q _ hf⟩;exact⟨z,us,r,⟨_,Heap.get?_push_size _ rfl,rfl,_,rfl⟩⟩
theorem aK(h:PA X es t):PE X (.List es pos) (By t):=by intro pins s σ H Q I hq;refine wpAny_List_spliced (thn (h pos pins s σ H _ I hq) λus s1 ⟨xs,H1,I1,r,z,q⟩=>⟨by rw[<- r.length];exact z,?_⟩);have hf:H1 s1.heap.objs.size=none:=I1.hok.fresh (PZ _);refine⟨.ref s1.heap.objs.size,upd H1 s1.heap.objs.size (.lst xs),I1.laid (t':=s1.toks) (λb u e=>Heap.get?_push_of_some _ e) (PZ _) ?_,rfl,q _ hf⟩;exact⟨z,us,0,r,Heap.get?_push_size _ rfl⟩
end
abbrev Sp:=List V->Hp->VK->XK->Prop
abbrev CXT:=List Env->Hp->Shared->XK->Value->Shared->Prop
structure Env0(P:Program)(w:World)(K:PySem.W.Frag)(mg:Str->Option Value)(base:Heap)(A:Around)(outer:List Env)(s:Shared)(H:Hp):Prop where
 frames:A.frames=some outer
 mod:Mod K mg base
 bs:∀b o,base.get? b=some o->s.heap.get? b=some o/\H b=none
 bsz:base.objs.size<=s.heap.objs.size
 funs:s.heap.FunFrames base outer
 frf:∀b∈frs outer,H b=none
 hok:HOk P w H s.heap
 bare:AllBare s.gens
noncomputable def CE(outer:List Env)(P:Program)(w:World)(H:Hp)(s:Shared)(Q:VK)(u:Value)(s':Shared):Prop :=
 ∃v H',s'.os=s.os/\AllBare s'.gens/\Un (frs outer) [] H H' s.heap s'.heap/\HOk P w H' s'.heap/\RelV v u/\Q v H'
noncomputable def CR(CX:CXT)(outer:List Env)(P:Program)(w:World)(H:Hp)(s:Shared)(Q:VK)(E:XK)(r:Result)(s':Shared):Prop :=
 match r with
 |.ok (.ret u)=>CE outer P w H s Q u s'
 |.ok _=>False
 |.error e=>CX outer H s E e s'
structure FnOk(P:Program)(w:World)(K:PySem.W.Frag)(mg:Str->Option Value)(base:Heap)(CX:CXT)(k:Nat)(f:Addr)(fd:FuncData)(ps:List Str)(sp:Sp):Prop where
 len:∀vs H Q E,sp vs H Q E->vs.length=ps.length
 run:∀(A:Around) (outer:List Env) (s:Shared) (H:Hp) (args:Args) (us:List Value) (vs:List V) (Q:VK) (E:XK),Room k A->Env0 P w K mg base A outer s H->BindsTo s fd args (ps.zip us)->Vals vs us->sp vs H Q E ->
  codeAny (model P w) A (.call (.ref f) args) (CR CX outer P w H s Q E) s
theorem FnOk.mono{P:Program}{w:World}{K:PySem.W.Frag}{mg:Str->Option Value}{base:Heap}{CX:CXT}{j k:Nat}{f:Addr}{fd:FuncData}{ps:List Str}{sp:Sp}(F:FnOk P w K mg base CX j f fd ps sp)(h:j<=k:=by decide) :
 FnOk P w K mg base CX k f fd ps sp:=⟨F.len,λA outer s H args us vs Q E hr=>F.run A outer s H args us vs Q E (hr.mono h)⟩
theorem Env0.make{P:Program}{w:World}{K:PySem.W.Frag}{mg:Str->Option Value}{base:Heap}{A:Around}{outer:List Env}{s:Shared}{H:Hp}(e:Env0 P w K mg base A outer s H)(C:Addr)(us:List Value)(kw:List (Str×Value)) :
 Env0 P w K mg base (A.under (.builtin "type.__call__" ⟨.ref C::us,kw⟩)) outer s H:=⟨by first |exact e.frames | (simpa[Around.under,Code.envs,Code.isFrame,pushEnvs]using e.frames),e.mod,e.bs,e.bsz,e.funs,e.frf,e.hok,e.bare⟩
section
variable {X:Cx}{pins:List (Addr×Obj)}{σ:St}{H:Hp}{s s':Shared}
theorem Inv.env0(I:Inv X pins σ H s):Env0 X.prog X.w X.K X.mg X.base X.A X.stack s H :=
 ⟨I.ok.frames,I.ok.mod,I.bs,Qu I.ok.bsz I.sz,I.stack,I.stkFree,I.hok,I.bare⟩
theorem Inv.after{Q:VK}{u:Value}(I:Inv X pins σ H s)(h:CE X.stack X.prog X.w H s Q u s'):EP X pins σ Q u s':=by obtain⟨v,H',os,bare,un,hok,r,q⟩:=h;obtain⟨hh,g,d,t,os'⟩:=s';obtain rfl:os'=s.os:=os;exact⟨v,H',I.call (h':=hh) (g':=g) (d':=d) (t':=t) (ch:=[]) un hok bare (λb z=>absurd z (by simp)),r,q⟩
end
def BD(sp:Sp)(dvs:List V)(E:XK)(t:TA):TE:=λσ H Q=>t σ H λvs H1=>sp (vs++dvs) H1 Q E
def Bv(C:Addr)(m:Str)(sp:Sp)(dvs:List V)(E:XK)(ta:TE)(t:TA):TE:=λσ H Q=>ta σ H λx H1=>∃a dx fs,x=.ref a/\H1 a=some (.ins C dx fs)/\fs.lookup m=none /\
 t σ H1 λvs H2=>sp (x::(vs++dvs)) H2 Q E
def Bw(C:Addr)(sp:Sp)(dvs:List V)(E:XK)(t:TA):TE:=λσ H Q=>t σ H λvs H1=>∀x dx,H1 x=none->H1 dx=none->dx≠x ->
 sp (.ref x::(vs++dvs)) (upd (upd H1 dx (.own x)) x (.ins C dx [])) (λv H2=>v=.non/\Q (.ref x) H2) E
noncomputable def Binds(K:PySem.W.Frag)(fd:FuncData)(ps:List Str)(ds:List Value):Prop :=
 ∀(s:Shared) (us:List Value),K.In s.heap->(us++ds).length=ps.length->BindsTo s fd ⟨us,[]⟩ (ps.zip (us++ds))
theorem Binds.all{K:PySem.W.Frag}{fd:FuncData}{ps:List Str}(h:∀us:List Value,us.length=ps.length->bindArgs fd ⟨us,[]⟩=pure (ps.zip us)):Binds K fd ps []:=λs us _ hl=>by rw[Ry]at hl ⊢;exact .of_eq (h us hl)
def eZ(CX:CXT)(X:Cx)(E:XK):Prop:=∀(pins:List (Addr×Obj)) (σ:St) (H:Hp) (s:Shared) (e:Value) (s':Shared),Inv X pins σ H s->CX X.stack H s E e s'->X.xe e s'
section
variable {X:Cx}{CX:CXT}{k:Nat}{f C:Addr}{fd:FuncData}{ps:List Str}{sp:Sp}{dvs:List V}{ds:List Value}{E:XK}{x m:Str}{p pos apos:Pos}{e o:Expr}{es:List Expr}{ta:TE}{t:TA}
theorem wu{pins:List (Addr×Obj)}{σ:St}{H:Hp}{s:Shared}{Q:VK}{us:List Value}{vs:List V}(F:FnOk X.prog X.w X.K X.mg X.base CX k f fd ps sp)(hr:Room k X.A)(hb:Binds X.K fd ps ds)(hd:Vals dvs ds)(hx:eZ CX X E)
 (I:Inv X pins σ H s) (r:Vals vs us) (h:sp (vs++dvs) H Q E):wpAny (model X.prog X.w) X.A (call (.ref f) us) (EP X pins σ Q) X.xe s:=by
 have r2:Vals (vs++dvs) (us++ds):=r.append hd;have hl:(us++ds).length=ps.length:=by rw[<- r2.length];exact F.len _ _ _ _ h
 refine wpAny_call (codeAny_mono (F.run X.A X.stack s H ⟨us,[]⟩ (us++ds) (vs++dvs) Q E hr I.env0 (hb s us I.kIn hl) r2 h) λr s' hq=>?_);cases r with
 |error e=>exact hx pins σ H s e s' I hq
 |ok fl =>
  cases fl with
  |ret u=>exact I.after hq
  |next=>exact False.elim hq
  |brk=>exact False.elim hq
  |cont=>exact False.elim hq
theorem ag(F:FnOk X.prog X.w X.K X.mg X.base CX k f fd ps sp)(hr:Room k X.A)(hg:Gl X x)(hm:X.mg x=some (.ref f))(hk:PySem.W.keepIn X.K (.ref f)=true)(hb:Binds X.K fd ps ds)(hd:Vals dvs ds)(hx:eZ CX X E)
 (ha:PA X (e::es) t) (hdb:(x == ("__debug__":Str))=false:=by decide) (he:starEach (e::es) X.env=(false,eval e X.env)::starEach es X.env:=by rfl) (hpl:(backTo pos (starEach es X.env)).any (·.1)=false:=by rfl) :
 PE X (.Call (.Name x p) (e::es) [] pos) (BD sp dvs E t):=by
 intro pins s σ H Q I h;refine wpAny_Call_Name_kw (iP I hg hm ?_ hdb);refine PySem.W.callWith_K (h₀:=X.base) I.ok.mod.kin hk (thn (ha pos pins s σ H _ I h) λus s1 ⟨vs,H1,I1,r,q⟩=>⟨I1.kIn,?_⟩) he hpl;exact wu F hr hb hd hx I1 r q
theorem bS{pl:Sem Bool}(he:PE X o ta)(c:Cls X.K C)(hm:Meth X.K C m f)(F:FnOk X.prog X.w X.K X.mg X.base CX k f fd ps sp)(hr:Room k X.A)(hb:Binds X.K fd ps ds)(hd:Vals dvs ds)(hx:eZ CX X E)(ha:PA X (e::es) t)
 (hst:starEach (e::es) X.env=(false,eval e X.env)::starEach es X.env:=by rfl) (hpl:(backTo pos (starEach es X.env)).any (·.1)=false:=by rfl)
 (ht:eval (.Call (.Attribute o m apos) (e::es) [] pos) X.env=(do
   let ov <- eval o X.env
   standAt apos.atName
   let(f,first) <- holding [ov] (getMethod ov m pl)
   callWith pos f first (backTo pos (starEach (e::es) X.env)) (backToKw pos (keywordEach [] X.env))):=by rfl) :
 PE X (.Call (.Attribute o m apos) (e::es) [] pos) (Bv C m sp dvs E ta t):=by
 intro pins s σ H Q I h;refine PySem.W.methodCall_KW (pl:=pl) (thn (he pins s σ H _ I h) λu s1 ⟨x,H1,I1,rx,a,dx,fs,ex,ea,l,q⟩=>?_) ht;subst ex;obtain rfl:u=Value.ref a:=rx;refine Jf I1 ea c hm l ?_;refine PySem.W.callWith_K (first:=[.ref a]) (h₀:=X.base) I.ok.mod.kin hm.kp (thn (ha pos pins s1 σ H1 _ I1 q) λus s2 ⟨vs,H2,I2,r,q2⟩=>⟨I2.kIn,?_⟩) hst hpl;exact wu (us:=.ref a::us) (vs:=.ref a::vs) F hr hb hd hx I2 (.cons rfl r) q2
structure Mk(K:PySem.W.Frag)(C f:Addr):Prop where
 makes:PySem.W.makesIn K C=true
 init:PySem.W.findIn K (.ref C) "__init__"=some (some (.ref f))
 fn:PySem.W.isFn K (.ref f)=true
 kp:PySem.W.keepIn K (.ref C)=true
theorem CY{pins:List (Addr×Obj)}{σ:St}{H:Hp}{s:Shared}{Q:VK}{us:List Value}{vs:List V}(M:Mk X.K C f)(F:FnOk X.prog X.w X.K X.mg X.base CX k f fd ps sp)(hr:Room (k+1) X.A)(hb:Binds X.K fd ps ds)(hd:Vals dvs ds)
 (hx:eZ CX X E) (I:Inv X pins σ H s) (r:Vals vs us)
 (h:∀x dx,H x=none->H dx=none->dx≠x->sp (.ref x::(vs++dvs)) (upd (upd H dx (.own x)) x (.ins C dx [])) (λv H2=>v=.non/\Q (.ref x) H2) E) :
 wpAny (model X.prog X.w) X.A (call (.ref C) us) (EP X pins σ Q) X.xe s:=by
 have hq:=h (s.heap.objs.size+1) s.heap.objs.size (I.hok.fresh (Nat.le_succ _)) (I.hok.fresh (PZ _)) (Qf (QP _));have I2:=Inv.made (C:=C) I;have r2:Vals (V.ref (s.heap.objs.size+1)::(vs++dvs)) (Value.ref (s.heap.objs.size+1)::(us++ds)):=.cons rfl (r.append hd)
 have hl:(Value.ref (s.heap.objs.size+1)::us++ds).length=ps.length:=by have e:=r2.length;rw[F.len _ _ _ _ hq]at e;exact e.symm
 refine wpAny_call (GK (f:=f) I.kIn M.makes M.init (beq_iff_eq.mp M.fn) (codeAny_mono (F.run _ X.stack _ _ ⟨Value.ref (s.heap.objs.size+1)::us,[]⟩ (Value.ref (s.heap.objs.size+1)::(us++ds)) _ _ E (hr.make C us [])
  (I2.env0.make C us []) (hb _ (Value.ref (s.heap.objs.size+1)::us) I2.kIn hl) r2 hq) λr s' hq'=>?_))
 cases r with
 |error e=>exact hx pins σ _ _ e s' I2 hq'
 |ok fl =>
  cases fl with
  |ret u =>obtain⟨v,H',I3,rv,ev,q3⟩:=I2.after hq';subst ev;exact⟨rv,⟨V.ref (s.heap.objs.size+1),H',I3,rfl,q3⟩⟩
  |next=>exact False.elim hq'
  |brk=>exact False.elim hq'
  |cont=>exact False.elim hq'
theorem bz(M:Mk X.K C f)(F:FnOk X.prog X.w X.K X.mg X.base CX k f fd ps sp)(hr:Room (k+1) X.A)(hg:Gl X x)(hm:X.mg x=some (.ref C))(hb:Binds X.K fd ps ds)(hd:Vals dvs ds)(hx:eZ CX X E)
 (ha:PA X (e::es) t) (hdb:(x == ("__debug__":Str))=false:=by decide) (he:starEach (e::es) X.env=(false,eval e X.env)::starEach es X.env:=by rfl) (hpl:(backTo pos (starEach es X.env)).any (·.1)=false:=by rfl) :
 PE X (.Call (.Name x p) (e::es) [] pos) (Bw C sp dvs E t):=by
 intro pins s σ H Q I h;refine wpAny_Call_Name_kw (iP I hg hm ?_ hdb);refine PySem.W.callWith_K (h₀:=X.base) I.ok.mod.kin M.kp (thn (ha pos pins s σ H _ I h) λus s1 ⟨vs,H1,I1,r,q⟩=>⟨I1.kIn,?_⟩) he hpl;exact CY M F hr hb hd hx I1 r q
end
section
variable {X:Cx}{CX:CXT}{k:Nat}{f C:Addr}{fd:FuncData}{ps ks:List Str}{sp:Sp}{E:XK}{x m:Str}{p pos apos kpos:Pos}{e o:Expr}{es:List Expr}{kws:List Keyword}{te ta:TE}{t tk:TA}{nm:Option Str}
variable {g:List Value->List Value->List Value}{gV:List V->List V->List V}
end
structure FnScope(N P:List Str)(sc:Scope):Prop where
 kind:sc.kind=.function
 co:sc.isCoroutine=false
 gen:sc.isGenerator=false
 nd:N.Nodup
 pre:N.take P.length=P
 par:∀x∈P,sc.names.lookup x=some .local\/sc.names.lookup x=some .cell
 nofree:∀y∈sc.names,y.2≠.free
theorem zH{kindOf:Str->Option NameKind}{x:Str}:∀{binds:List (Str×Value)} {m:Str->Option Value},(∀v,(x,v)∉binds)->bindL kindOf binds m x=m x
 | [],_,_=>rfl
 | (n,v)::r,m,h=>by
  unfold bindL;rw[zH λw hw=>h w (Qb _ hw)];split
  ·have:x≠n:=by rintro rfl;exact h v Qh
   simp[this]
  ·rfl
theorem zJ{kindOf:Str->Option NameKind}{x:Str}:∀{binds:List (Str×Value)} {m:Str->Option Value},(∀v,(x,v)∉binds)->bindC kindOf binds m x=m x
 | [],_,_=>rfl
 | (n,v)::r,m,h=>by
  unfold bindC;rw[zJ λw hw=>h w (Qb _ hw)];split
  ·rfl
  ·have:x≠n:=by rintro rfl;exact h v Qh
   simp[this]
theorem zI{kindOf:Str->Option NameKind}{x:Str}{v:Value}:∀{P:List Str} {vs:List Value} {i:Nat} {m:Str->Option Value},P.Nodup->P[i]?=some x->vs[i]?=some v->kindOf x=some .local ->
 bindL kindOf (P.zip vs) m x=some v
 | [],_,_,_,_,h,_,_=>by simp at h
 |_::_,[],_,_,_,_,h,_=>by simp at h
 |p::P,w::vs,0,m,nd,h1,h2,hk=>by
  simp at h1 h2;subst h1;subst h2
  show bindL kindOf ((p,w)::P.zip vs) m p=_;unfold bindL;rw[zH λv hv=>(Rf.mp nd).1 (List.of_mem_zip hv).1,if_pos hk];simp
 |p::P,w::vs,i+1,m,nd,h1,h2,hk=>by show bindL kindOf ((p,w)::P.zip vs) m x=_;unfold bindL;exact zI (i:=i) (Rf.mp nd).2 (by simpa using h1) (by simpa using h2) hk
theorem zK{kindOf:Str->Option NameKind}{x:Str}{v:Value}:∀{P:List Str} {vs:List Value} {i:Nat} {m:Str->Option Value},P.Nodup->P[i]?=some x->vs[i]?=some v->kindOf x≠some .local ->
 bindC kindOf (P.zip vs) m x=some v
 | [],_,_,_,_,h,_,_=>by simp at h
 |_::_,[],_,_,_,_,h,_=>by simp at h
 |p::P,w::vs,0,m,nd,h1,h2,hk=>by
  simp at h1 h2;subst h1;subst h2
  show bindC kindOf ((p,w)::P.zip vs) m p=_;unfold bindC;rw[zJ λv hv=>(Rf.mp nd).1 (List.of_mem_zip hv).1,if_neg hk];simp
 |p::P,w::vs,i+1,m,nd,h1,h2,hk=>by show bindC kindOf ((p,w)::P.zip vs) m x=_;unfold bindC;exact zK (i:=i) (Rf.mp nd).2 (by simpa using h1) (by simpa using h2) hk
noncomputable def start(N:List Str)(vs:List V):St:=vs.map some++List.replicate (N.length-vs.length) none
noncomputable def bH(CX:CXT)(P:Program)(w:World)(K:PySem.W.Frag)(mg:Str->Option Value)(base:Heap)(N:List Str)(qual:Str)(scope:Scope)(f:Addr)(cd:Value)(A:Around)(outer:List Env)(s:Shared)(H:Hp)(E:XK):Cx where
 prog:=P
 w:=w
 K:=K
 mg:=mg
 base:=base
 A:=A.deeper (envOfC qual scope s.heap.objs.size f cd)
 N:=N
 s₀:=s
 H₀:=H
 env:=envOfC qual scope s.heap.objs.size f cd
 outer:=outer
 stack:=envOfC qual scope s.heap.objs.size f cd::outer
 ex:=[]
 calm:=true
 fn:=λ_=>true
 pn:=[]
 xe:=λe s'=>wpAny (model P w) (A.deeper (envOfC qual scope s.heap.objs.size f cd)) (leaving (envOfC qual scope s.heap.objs.size f cd) e) (λ_ s''=>CX outer H s E e s'') (λe' s''=>CX outer H s E e' s'') s'
theorem zA{sc:Scope}{n:Nat}{x:Str}(h:sc.names.lookup x=some .cell):∃c,(cellsFrom n sc.names []).lookup x=some c:=by have q:=PySem.W.cellsFrom_some sc.names n [] (.inl h);exact Rz.mp q
theorem IU{CX:CXT}{P:Program}{w:World}{K:PySem.W.Frag}{mg:Str->Option Value}{base:Heap}{N ps:List Str}{qual:Str}{scope:Scope}{f:Addr}{cd:Value}{A:Around}{outer:List Env}{s s1:Shared}{H:Hp}{E:XK}{us:List Value}{vs:List V}
 (S:FnScope N ps scope) (hd:A.handled=none) (e0:Env0 P w K mg base A outer s H) (hl:vs.length=ps.length) (r:Vals vs us)
 (x:InCallC s s.heap.objs.size (bindL (envOfC qual scope s.heap.objs.size f cd).kindOf (ps.zip us) λ_=>none) (cellsFrom (s.heap.objs.size+1) scope.names []) (bindC (envOfC qual scope s.heap.objs.size f cd).kindOf (ps.zip us) λ_=>none) s1) :
 Inv (bH CX P w K mg base N qual scope f cd A outer s H E) [] (start N vs) H s1:=by
 have hpl:ps.length<=N.length:=by have:=congrArg List.length S.pre;rw[Qr]at this;omega
 obtain⟨h1,tk,rfl,hk⟩:=x.done;have noA:∀b:Addr,b∉(bH CX P w K mg base N qual scope f cd A outer s H E).ex:=λb z=>absurd (show b∈([]:List Addr)from z) (by simp)
 refine⟨⟨e0.mod,S.kind,rfl,rfl,PZ _,λy z c h1 h2=>?_,λy hy=>?_,λy c _ h=>?_,λ_=>hd,Around.frames_deeper e0.frames,.inr ⟨rfl,rfl⟩,λb z=>absurd z (noA b),e0.bs,e0.bsz,λb _ _=>noA b,λb z=>absurd z (noA b),e0.funs,e0.frf⟩,
  rfl,e0.bare,Un.kept hk,⟨_,x.toInCall.ns,λi y v h1 h2 h3=>?_⟩,λy c h=>⟨_,x.cell y c h⟩,e0.hok.fresh (PZ _),λy c h=>?_,λp hp=>absurd (show p∈([]:List (Addr×Obj))from hp) (by simp),e0.hok.kept hk,?_⟩
 ·exact name_of_addr x.apart (PySem.mem_of_lookup h1) (PySem.mem_of_lookup h2)
 ·have hy:scope.names.lookup y=some .cell\/scope.names.lookup y=some .free:=hy;rcases hy with hy |hy
  ·exact zA hy
  ·exact absurd rfl (S.nofree _ (PySem.mem_of_lookup hy))
 ·exact QW (x.above y c (PySem.mem_of_lookup h))
 ·have hi:i<vs.length:=by
   unfold start at h2
   by_cases hi:i<vs.length
   ·exact hi
   ·rw[List.getElem?_append_right (by simpa using hi)]at h2;rw[List.getElem?_replicate]at h2;split at h2<;>cases h2
  have ha:vs[i]?=some v:=by
   unfold start at h2
   rw[List.getElem?_append_left (by simpa using hi),List.getElem?_map]at h2;cases e:vs[i]? with
   |none=>rw[e]at h2;cases h2
   |some a=>rw[e]at h2;cases h2;rfl
  obtain⟨u,hu,rv⟩:=r.get ha
  have hp:ps[i]?=some y:=by rw[<- S.pre,List.getElem?_take_of_lt (by omega)];exact h1
  have ndP:ps.Nodup:=by rw[<- S.pre];exact S.nd.sublist (List.take_sublist _ _)
  refine⟨u,rv,?_⟩;rcases S.par y (List.mem_of_getElem? hp)with k |k
  ·exact .inl ⟨k,zI ndP hp hu k⟩
  ·obtain⟨c,e⟩:=zA (n:=s.heap.objs.size+1) k;refine .inr ⟨.inl k,c,e,?_⟩;have q:=x.cell y c e;rw[zK ndP hp hu (by show scope.names.lookup y≠_;rw[k];decide)]at q;exact q
 ·exact e0.hok.fresh (QW (x.above y c (PySem.mem_of_lookup h)))
 ·unfold start;show _=N.length;rw[PY,PX,Qy];omega
theorem ki{CX:CXT}{P:Program}{w:World}{K:PySem.W.Frag}{mg:Str->Option Value}{base:Heap}{k:Nat}{f:Addr}{name qual:Str}{params:Arguments}{body:List Stmt}{scope:Scope}{dV kV doc pm cdv ct oc:Value}{an od:Option Addr}
 {osl:Array (Option Value)} {N ps:List Str} {sp:Sp} (lk:K.lookup f=some ⟨oc,od,.func (PySem.W.fnOf name qual params body scope dV kV doc pm an cdv ct),osl⟩) (hcd:PySem.W.codeIn K cdv qual=true) (S:FnScope N ps scope)
 (len:∀vs H Q E,sp vs H Q E->vs.length=ps.length)
 (hbody:∀(A:Around) (outer:List Env) (s:Shared) (H:Hp) (vs:List V) (Q:VK) (E:XK),Room k (A.deeper (envOfC qual scope s.heap.objs.size f cdv))->sp vs H Q E ->
   ∃t,PSs (bH CX P w K mg base N qual scope f cdv A outer s H E) body t/\t { nx:=λ_ H'=>Q .non H',rt:=Q } (start N vs) H) :
 FnOk P w K mg base CX (k+1) f (PySem.W.fnOf name qual params body scope dV kV doc pm an cdv ct) ps sp:=by
 refine⟨len,λA outer s H args us vs Q E hr e0 hb r hsp=>?_⟩;have hl:=len _ _ _ _ hsp;have KX:K.In s.heap:=e0.mod.kin.keeps λb o e=>(e0.bs b o e).1
 have lim:s.heap.NoLimit:=e0.mod.nolimit.keeps λb o e=>(e0.bs b o e).1
 have hkind:∀y∈ps.zip us,scope.names.lookup y.1=some .local\/(scope.names.lookup y.1=some .cell/\((cellsFrom (s.heap.objs.size+1) scope.names []).lookup y.1).isSome=true):=λ⟨n,v⟩ hy=>by
  rcases S.par n (List.of_mem_zip hy).1 with q |q
  ·exact .inl q
  ·exact .inr ⟨q,PySem.W.cellsFrom_some _ _ _ (.inl q)⟩
 refine codeAny_call_function hr.depth (KX _ _ lk) rfl S.co S.gen rfl (PySem.W.codeRec_of KX hcd) (hb _ _ _ _ ?_);refine wpAny_newFunctionEnv_cells S.kind hkind λenv he s1 x=>?_
 subst he;refine⟨lim.keeps x.toInCall.keep,codeAny_func ?_⟩;obtain⟨t,ht,hq⟩:=hbody A outer s H vs Q E (hr.deeper _) hsp;have I:Inv (bH CX P w K mg base N qual scope f cdv A outer s H E) [] (start N vs) H s1:=IU S hr.hd e0 hl r x;refine wpAny_mono (ht [] s1 (start N vs) H _ I hq) (λfl s' hs=>?_) λe s' hs=>hs
 have fin:∀{σ':St} {H':Hp} {v:V} {u:Value},Inv (bH CX P w K mg base N qual scope f cdv A outer s H E) [] σ' H' s'->RelV v u->Q v H'->CE outer P w H s Q u s' :=
  λ{σ' H' v u} J rv q=>⟨v,H',J.os,J.bare,J.base,J.hok,rv,q⟩
 cases fl with
 |ret u =>obtain⟨v,σ',H',J,rv,q⟩:=hs;exact fin J rv q
 |next =>obtain⟨σ',H',J,q⟩:=hs;exact fin (v:=V.non) (u:=Value.none) J rfl q
 |brk =>obtain⟨_,_,_,q⟩:=hs;exact False.elim q
 |cont =>obtain⟨_,_,_,q⟩:=hs;exact False.elim q
section
variable {X:Cx}{x:Str}{p pos:Pos}{e:Expr}{es:List Expr}{t:TA}{id T:String}{r:List V->Hp->VK->Prop}
def tCB(r:List V->Hp->VK->Prop)(t:TA):TE:=λσ H Q=>t σ H λvs H1=>r vs H1 Q
theorem aI(hc:cY X (.builtin id) r)(hg:Gl X x)(hm:X.mg x=none)(hv:bootBuiltins x=some (.builtin id))(ha:PA X (e::es) t)(hn:x≠"__name__":=by decide)(hdb:(x == ("__debug__":Str))=false:=by decide)
 (he:starEach (e::es) X.env=(false,eval e X.env)::starEach es X.env:=by rfl) (hpl:(backTo pos (starEach es X.env)).any (·.1)=false:=by rfl):PE X (.Call (.Name x p) (e::es) [] pos) (tCB r t):=by
 intro pins s σ H Q I h;refine wpAny_Call_Name_kw (dU I hg hm hv ?_ hn hdb);exact PyProof.Rows.callWith_builtin1 (thn (ha pos pins s σ H _ I h) λus s1 ⟨vs,H1,I1,r1,q1⟩=>hc pins s1 σ H1 vs us Q I1 r1 q1) he hpl
theorem jA(hc:cY X (.type T) r)(hg:Gl X x)(hm:X.mg x=none)(hv:bootBuiltins x=some (.type T))(ha:PA X (e::es) t)(hn:x≠"__name__":=by decide)(hdb:(x == ("__debug__":Str))=false:=by decide)
 (he:starEach (e::es) X.env=(false,eval e X.env)::starEach es X.env:=by rfl) (hpl:(backTo pos (starEach es X.env)).any (·.1)=false:=by rfl):PE X (.Call (.Name x p) (e::es) [] pos) (tCB r t):=by
 intro pins s σ H Q I h;refine wpAny_Call_Name_kw (dU I hg hm hv ?_ hn hdb);exact PyProof.Rows.callWith_type1 (thn (ha pos pins s σ H _ I h) λus s1 ⟨vs,H1,I1,r1,q1⟩=>hc pins s1 σ H1 vs us Q I1 r1 q1) he hpl
end
end L2
namespace HT
open PySem PyProof.Rows
section
open PySem.SeqAt
open PySem.AutoSeq1 (wpAny_loadPart')
open PySem.MeetsSeq PySem.MeetsSeq2 PySem.MeetsSeq3
end
section
variable {prog:Program}{w:World}{A:Around}{E:Value->Shared->Prop}{s:Shared}
noncomputable def sIx(n d:Nat):Option Int->Nat
 |none=>d
 |some v=>if v<0 then(v+(n:Int)).toNat else min v.toNat n
theorem sIx_none(n d:Nat):sIx n d none=d:=rfl
theorem sIx_nat(n d k:Nat):sIx n d (some (k:Int))=min k n:=by show(if(k:Int)<0 then((k:Int)+(n:Int)).toNat else min (k:Int).toNat n)=min k n;rw[if_neg (by omega),Int.toNat_natCast]
end
end HT
namespace L2
open PySem PySem.Spec PyProof.Rows
abbrev TO:=St->Hp->(Option Int->Hp->Prop)->Prop
noncomputable def PO(X:Cx)(e:Option Expr)(t:TO):Prop :=
 ∀(pins:List (Addr×Obj)) (s:Shared) (σ:St) (H:Hp) (Q:Option Int->Hp->Prop),Inv X pins σ H s->t σ H Q ->
  wpAny (model X.prog X.w) X.A (evalPart e X.env) (λu s'=>∃o H',Inv X pins σ H' s'/\IsPart u o/\Q o H') X.xe s
noncomputable def Bt:TO:=λ_ H Q=>Q none H
noncomputable def Bs(t:TE):TO:=λσ H Q=>t σ H λx H1=>∃i,x=.int i/\Q (some i) H1
theorem pq{ns:List Int}:∀{us:List Value},Vals (ns.map V.int) us->IntsAre us ns:=by
 induction ns with
 |nil=>intro us r;rw[Rg]at r;cases r;exact .nil
 |cons n ns ih =>
  intro us r;rw[Qm]at r;cases r with
  |cons r1 r2 =>obtain⟨t,e⟩:=r1;subst e;exact .cons n t (ih r2)
section
variable {X:Cx}{e:Expr}{te:TE}{lo hi:Option Expr}{tl th:TO}{pos p2:Pos}
theorem iF:PO X none Bt:=by intro pins s σ H Q I h;rw[evalPart_none];exact wpAny_pure ⟨none,H,I,.none,h⟩
theorem iE(h:PE X e te):PO X (some e) (Bs te):=by
 intro pins s σ H Q I hw;rw[evalPart_some];refine thn (h pins s σ H _ I hw) λu s1 ⟨x,H1,I1,r1,q1⟩=>?_
 obtain⟨i,rfl,q⟩:=q1;obtain⟨t,rfl⟩:=r1;exact⟨some i,H1,I1,.int i t,q⟩
noncomputable def SlR(X:Cx)(r:V->Option Int->Option Int->Hp->VK->Prop):Prop :=
 ∀(pins:List (Addr×Obj)) (s:Shared) (σ:St) (H:Hp) (x:V) (v vl vu:Value) (lo hi:Option Int) (sl:Addr) (Q:VK),Inv X pins σ H s->RelV x v->s.heap.IsSliceOf sl vl vu .none->IsPart vl lo->IsPart vu hi->r x lo hi H Q ->
  ∃T id,typeLookup (.type T) "__getitem__"=pure (some (.builtin id))/\s.TypeIs v T/\wpAny (model X.prog X.w) X.A (getItem v (.ref sl)) (EP X pins σ Q) X.xe s
def tSl(r:V->Option Int->Option Int->Hp->VK->Prop)(te:TE)(tl th:TO):TE:=λσ H Q=>te σ H λx H1=>tl σ H1 λl H2=>th σ H2 λu H3=>r x l u H3 Q
theorem iG{r:V->Option Int->Option Int->Hp->VK->Prop}(hr:SlR X r)(he:PE X e te)(hl:PO X lo tl)(hu:PO X hi th):PE X (.Subscript e (.Slice lo hi none p2) pos) (tSl r te tl th):=by
 intro pins s σ H Q I h;refine Subscript_ (thn (he pins s σ H _ I h) λv s1 ⟨x,H1,I1,r1,q1⟩=>?_);refine wpAny_Slice (thn (hl pins s1 σ H1 _ I1 q1) λvl s2 ⟨l,H2,I2,pl,q2⟩=>thn (hu pins s2 σ H2 _ I2 q2) λvu s3 ⟨u,H3,I3,pu,q3⟩=>?_);rw[evalPart_none];refine wpAny_pure ?_;have I4:Inv X pins σ H3 { s3 with heap:=s3.heap.push { cls:=.type "slice",data:=.fields #[vl,vu,.none] } }:=I3.kept (t':=s3.toks) λb ob q=>Heap.get?_push_of_some _ q
 obtain⟨T,id,hT,ht,hg⟩:=hr pins { s3 with heap:=s3.heap.push { cls:=.type "slice",data:=.fields #[vl,vu,.none] } } σ H3 x v vl vu l u s3.heap.objs.size Q I4 r1 (Heap.IsSliceOf.new ..) pl pu q3;show wpAny (model X.prog X.w) X.A (subscriptTail e (.Slice lo hi none p2) v (.ref s3.heap.objs.size)) (EP X pins σ Q) X.xe { s3 with heap:=s3.heap.push { cls:=.type "slice",data:=.fields #[vl,vu,.none] } };exact tail_any (ops:=[.ref s3.heap.objs.size,v]) ht hT hg (by with_unfolding_all rfl)
noncomputable def dJ(xs:List V)(lo hi:Option Int):List V:=(xs.drop (HT.sIx xs.length 0 lo)).take (HT.sIx xs.length xs.length hi-HT.sIx xs.length 0 lo)
theorem Kt(xs:List V)(lo hi:Option Int):(dJ xs lo hi).length<=xs.length:=by unfold dJ;rw[Qr,QJ];omega
end
noncomputable def ixN(n:Nat)(i:Int):Option Nat:=if 0<=i then(if i<n then some i.toNat else none)else if -(n:Int)<=i then some (i+n).toNat else none
noncomputable def atI{α:Type}(xs:List α)(i:Int):Option α:=(ixN xs.length i).bind λj=>xs[j]?
theorem yj{n:Nat}{i:Int}{j:Nat}(h:ixN n i=some j):seqIndex? i n=some j/\j<n /\ -(n:Int)<=i/\i<n:=by
 unfold ixN at h
 by_cases h0:0<=i
 ·rw[if_pos h0]at h;by_cases h1:i<n
  ·rw[if_pos h1]at h;have e:i.toNat=j:=Option.some.inj h;exact⟨by rw[seqIndex_of h0 h1,e],by omega,by omega,h1⟩
  ·rw[if_neg h1]at h;cases h
 ·rw[if_neg h0]at h;by_cases h1 : -(n:Int)<=i
  ·rw[if_pos h1]at h;have e:(i+n).toNat=j:=Option.some.inj h;exact⟨by rw[seqIndex_neg (by omega) h1,e],by omega,h1,by omega⟩
  ·rw[if_neg h1]at h;cases h
theorem zX{α:Type}{xs:List α}{i:Int}{v:α}(h:atI xs i=some v):∃j,seqIndex? i xs.length=some j/\xs[j]?=some v/\j<xs.length /\ -(xs.length:Int)<=i/\i<xs.length:=by
 unfold atI at h
 cases e:ixN xs.length i with
 |none=>rw[e]at h;cases h
 |some j =>rw[e]at h;obtain⟨h1,h2,h3,h4⟩:=yj e;exact⟨j,h1,h,h2,h3,h4⟩
theorem iV{α:Type}{xs:List α}{j:Nat}{v:α}(h:xs[j]?=some v):atI xs (j:Int)=some v:=by
 have hj:j<xs.length:=(List.getElem?_eq_some_iff.mp h).1
 have e:ixN xs.length (j:Int)=some j:=by unfold ixN;rw[if_pos (by omega),if_pos (by omega)];simp
 unfold atI;rw[e];exact h
theorem tV{α:Type}(xs:List α)(v:α):atI (xs++[v]) (-1)=some v:=by
 have hl:(xs++[v]).length=xs.length+1:=by simp
 have e:ixN (xs++[v]).length (-1)=some xs.length:=by
  unfold ixN;rw[hl,if_neg (by decide),if_pos (by omega)]
  congr 1
  omega
 unfold atI;rw[e];show(xs++[v])[xs.length]?=some v;simp
def L7(b:Expr):Prop:=∀o i,subscripted b false o i=operate [o,i] (getItem o i)
noncomputable def IxR(X:Cx)(r:R2):Prop :=
 ∀(value slice:Expr) (pins:List (Addr×Obj)) (s:Shared) (σ:St) (H:Hp) (x y:V) (v u:Value) (Q:VK),Inv X pins σ H s->RelV x v->RelV y u->r x y H Q ->
  subscripted slice false v u=operate [v,u] (getItem v u)->wpAny (model X.prog X.w) X.A (subscriptTail value slice v u) (EP X pins σ Q) X.xe s
noncomputable def MtR(X:Cx)(id:String)(r:V->List V->Hp->VK->Prop):Prop :=
 ∀(pins:List (Addr×Obj)) (s:Shared) (σ:St) (H:Hp) (x:V) (xs:List V) (v:Value) (us:List Value) (Q:VK),Inv X pins σ H s->RelV x v->Vals xs us->r x xs H Q ->
  wpAny (model X.prog X.w) X.A (call (.builtin id) (v::us)) (EP X pins σ Q) X.xe s
section
variable {X:Cx}{a b:Expr}{ta tb:TE}{pos:Pos}
theorem ar{r:R2}(hr:IxR X r)(ha:PE X a ta)(hb:PE X b tb)(hs:L7 b):PE X (.Subscript a b pos) (tOp r ta tb):=by intro pins s σ H Q I h;exact Subscript_ (tF ha hb I h λv u s2 x y H2 I2 rx ry q=>hr a b pins s2 σ H2 x y v u Q I2 rx ry q (hs _ _))
def wI(K:PySem.W.Frag):R2:=λx y H Q=>∃p xs i v,x=.ref p/\y=.int i/\SqL K H p xs/\atI xs i=some v/\Q v H
def wH(K:PySem.W.Frag):R2:=λx y H Q=>∃p xs i v,x=.ref p/\y=.int i/\SqT K H p xs/\atI xs i=some v/\Q v H
theorem IP:IxR X (wI X.K):=by
 intro value slice pins s σ H x y v u Q I rx ry h hs;obtain⟨p,xs,i,z,rfl,rfl,hq,he,q⟩:=h;cases rx;obtain⟨t,rfl⟩:=ry;obtain⟨its,r,pl,hz⟩:=I.list hq;obtain⟨j,h1,h2,h3,h4,h5⟩:=zX he;obtain⟨w,ew,rw'⟩:=r.get h2;have hl:=r.length;have hn:=jW;have fin:EP X pins σ Q w s:=⟨z,H,I,rw',q⟩;by_cases h0:0<=i
 ·have hj:i.toNat=j:=by rw[seqIndex_of h0 h5]at h1;exact Option.some.inj h1
  exact item_listR pl.isList h0 (by omega) (by rw[hj];simpa using ew) fin hs
 ·have hj:(i+(its.toArray.size:Int)).toNat=j:=by rw[seqIndex_neg (by omega) h4]at h1;rw[Ql,<- hl];exact Option.some.inj h1
  exact subscriptTail_builtinR (x:=w) pl.isList.typeIs slot_list_getitem.lookup
   (wpAny_getItem_list_neg (Q:=λr s'=>r=w/\EP X pins σ Q r s') pl.isList (by omega) (by rw[Ql]<;>omega) (by omega) (by rw[hj];simpa using ew) ⟨rfl,fin⟩) hs
theorem IN:IxR X (wH X.K):=by
 intro value slice pins s σ H x y v u Q I rx ry h hs;obtain⟨p,xs,i,z,rfl,rfl,hq,he,q⟩:=h;cases rx;obtain⟨t,rfl⟩:=ry;obtain⟨its,r,pl,hz⟩:=I.tuple hq;obtain⟨j,h1,h2,h3,h4,h5⟩:=zX he;obtain⟨w,ew,rw'⟩:=r.get h2;have hl:=r.length;have hn:=jW;have fin:EP X pins σ Q w s:=⟨z,H,I,rw',q⟩
 exact subscriptTail_builtinR (x:=w) pl.typeIs slot_tuple_getitem.lookup
  (getItem_tuple (j:=j) (Q:=λr s'=>r=w/\EP X pins σ Q r s') pl (by omega) (by omega) (by rw[Ql,<- hl];exact h1) (by simpa using ew) ⟨rfl,fin⟩) hs
theorem GI(its:List Value)(n j:Nat)(u:Value):Obj.mapSeq (·.setIfInBounds j u) { cls:=.type "list",data:=.seq its.toArray n }={ cls:=.type "list",data:=.seq (its.set j u).toArray n }:=by simp[Obj.mapSeq]
theorem Inv.lst{pins:List (Addr×Obj)}{σ:St}{H:Hp}{s:Shared}{p:Addr}{xs:List V}(I:Inv X pins σ H s)(h:H p=some (.lst xs)) :
 ∃(its:List Value) (n:Nat),Vals xs its/\s.heap.get? p=some { cls:=.type "list",data:=.seq its.toArray n }/\xs.length<=sizeLine:=by
 obtain⟨z,its,n,r,e⟩:=I.hok p _ h;exact⟨its,n,r,e,z⟩
theorem Inv.lstUpd{pins:List (Addr×Obj)}{σ:St}{H:Hp}{s:Shared}{p:Addr}{xs ys:List V}{its its':List Value}{n n':Nat}{f:Obj->Obj}(I:Inv X pins σ H s)(h:H p=some (.lst xs))
 (ho:s.heap.get? p=some { cls:=.type "list",data:=.seq its.toArray n }) (hf:f { cls:=.type "list",data:=.seq its.toArray n }={ cls:=.type "list",data:=.seq its'.toArray n' }) (r:Vals ys its') (hz:ys.length<=sizeLine) (t:Nat) :
 Inv X pins σ (upd H p (.lst ys)) { s with heap:=s.heap.update p f,toks:=t }:=by
 have e:(s.heap.update p f).get? p=some { cls:=.type "list",data:=.seq its'.toArray n' }:=by rw[Heap.get?_update_self f ho (by rw[hf]<;>rfl),hf]
 refine I.write (x:=p) (e:=p) (by rw[h];trivial) (.inl rfl) (λb u hb q=>(Heap.get?_update_other _ _ (Ne.symm hb)).trans q) ⟨_,e⟩ ?_;exact⟨hz,its',n',r,e⟩
noncomputable def Dw:V->V->V->Hp->(Hp->Prop)->Prop:=λo i v H Q=>∃p xs k j,o=.ref p/\i=.int k/\H p=some (.lst xs)/\ixN xs.length k=some j/\Q (upd H p (.lst (xs.set j v)))
theorem lU:Ag X Dw:=by
 intro pins s σ H o i v ov iv u Q I ro ri rv h;obtain⟨p,xs,k,j,rfl,rfl,hp,hj,q⟩:=h;cases ro;obtain⟨t,rfl⟩:=ri;obtain⟨its,n,r,ho,hz⟩:=I.lst hp;obtain⟨h1,h2,h3,h4⟩:=yj hj;have hl:=r.length;have hn:=jW
 have I':Inv X pins σ (upd H p (.lst (xs.set j v))) { s with heap:=s.heap.update p (Obj.mapSeq (·.setIfInBounds j u)) } :=
  I.lstUpd hp ho (GI its n j u) (r.set rv j) (by rw[Rh];exact hz) s.toks
 by_cases h0:0<=k
 ·have hk:k.toNat=j:=by rw[seqIndex_of h0 h4]at h1;exact Option.some.inj h1
  exact PySem.W.ki_setAt ho h0 (by omega) (by rw[Ql,<- hl];exact h4) (by rw[hk];exact⟨_,I',q⟩)
 ·have hk:(k+(its.toArray.size:Int)).toNat=j:=by rw[seqIndex_neg (by omega) h3]at h1;rw[Ql,<- hl];exact Option.some.inj h1
  exact PySem.W.ki_setBack ho (by omega) (by rw[Ql,<- hl];exact h3) (by omega) (by rw[hk];exact⟨_,I',q⟩)
theorem BQ(lo hi:Option Int)(n:Nat):(sliceBounds lo hi none n).1=((HT.sIx n 0 lo:Nat):Int)/\(sliceBounds lo hi none n).2.1=((HT.sIx n n hi:Nat):Int)/\(sliceBounds lo hi none n).2.2=1:=by
 refine⟨?_,?_,rfl⟩
 ·cases lo with
  |none=>simp[sliceBounds,HT.sIx]
  |some i =>
   simp only[sliceBounds,HT.sIx,Option.getD_none,show(1:Int)>0 by decide,if_true];by_cases h:i<0
   ·simp only[h,if_true]<;>omega
   ·simp only[h,if_false]<;>omega
 ·cases hi with
  |none=>simp[sliceBounds,HT.sIx]
  |some i =>
   simp only[sliceBounds,HT.sIx,Option.getD_none,show(1:Int)>0 by decide,if_true];by_cases h:i<0
   ·simp only[h,if_true]<;>omega
   ·simp only[h,if_false]<;>omega
theorem BR(its:List Value)(lo hi:Option Int):slicePick its.toArray lo hi none=((its.drop (HT.sIx its.length 0 lo)).take (HT.sIx its.length its.length hi-HT.sIx its.length 0 lo)).toArray:=by obtain⟨h1,h2,h3⟩:=BQ lo hi its.toArray.size;unfold slicePick;rw[h1,h2,h3];simp only[sliceRange_one,pick_run,Ql]<;>rfl
noncomputable def qR(K:PySem.W.Frag):V->Option Int->Option Int->Hp->VK->Prop:=λx lo hi H Q=>∃a xs,x=.ref a/\SqL K H a xs/\∀p,H p=none->Q (.ref p) (upd H p (.lst (dJ xs lo hi)))
theorem BS:SlR X (qR X.K):=by intro pins s σ H x v vl vu lo hi sl Q I rx hs pl pu h;obtain⟨a,xs,rfl,hx,q⟩:=h;cases rx;obtain⟨its,r,ht,hz⟩:=I.list hx;have hlen:=r.length;refine⟨"list",_,slot_list_getitem.lookup,ht.isList.typeIs,?_⟩;refine wpAny_getItem_list_slice ht.isList hs pl pu .none (by simp) ?_ (by rw[Ql]<;>omega);rw[BR,<- hlen];refine⟨.ref s.heap.objs.size,_,I.laid (t':=s.toks) (o:=.lst (dJ xs lo hi)) (λb ob q=>Heap.get?_push_of_some _ q) (PZ _) ?_,rfl,q _ (I.hok.fresh (PZ _))⟩;exact⟨Qu (Kt xs lo hi) hz,_,0,(r.drop (HT.sIx xs.length 0 lo)).take (HT.sIx xs.length xs.length hi-HT.sIx xs.length 0 lo),Heap.get?_push_size _ rfl⟩
theorem KO:cY X (.builtin "len") (λxs H Q=>∃p ys,xs=[.ref p]/\(SqL X.K H p ys\/SqT X.K H p ys)/\Q (.int ys.length) H):=by
 intro pins s σ H xs us Q I r h;obtain⟨p,ys,rfl,hq,q⟩:=h;obtain⟨u,rfl,rx⟩:=io r;cases rx;have hn:=jW;rcases hq with hq |hq
 ·obtain⟨its,r',pl,hz⟩:=I.list hq;have hlen:=r'.length;exact Calls.call_len_list pl.isList (by simp only[Ql]<;>omega) ⟨.int ys.length,H,I.tok _,⟨s.toks+1,by rw[Ql,hlen]⟩,q⟩
 ·obtain⟨its,r',pl,hz⟩:=I.tuple hq;have hlen:=r'.length;exact len_tuple pl (by simp only[Ql]<;>omega) ⟨.int ys.length,H,I.tok _,⟨s.toks+1,by rw[Ql,hlen]⟩,q⟩
theorem KN:cY X (.type "list") (λxs H Q=>∃p ys,xs=[.ref p]/\(SqL X.K H p ys\/SqT X.K H p ys)/\∀l,H l=none->Q (.ref l) (upd H l (.lst ys))):=by
 intro pins s σ H xs us Q I r h;obtain⟨p,ys,rfl,hq,q⟩:=h;obtain⟨u,rfl,rx⟩:=io r;cases rx
 have fin:∀(its:List Value),Vals ys its->ys.length<=sizeLine->∀(h':Heap) (c':Nat),(∀b o',s.heap.get? b=some o'->h'.get? b=some o') ->
  h'.get? s.heap.objs.size=some { cls:=.type "list",dict:=none,data:=.seq its.toArray c',slots:=#[] }->EP X pins σ Q (.ref s.heap.objs.size) { s with heap:=h' }:=λits r' hz h' c' kp e =>
  ⟨.ref s.heap.objs.size,_,I.laid (t':=s.toks) kp (PZ _) (show ObjOk X.prog X.w _ h' _ (.lst ys)from⟨hz,its,c',r',e⟩),rfl,q _ (I.hok.fresh (PZ _))⟩
 rcases hq with hq |hq
 ·obtain⟨its,r',pl,hz⟩:=I.list hq;have hlen:=r'.length;obtain⟨o,ho,hc,n,hd⟩:=pl.isList;exact call_list_seq p (.inl rfl) ho hc hd (λh' c' kp e=>fin its r' hz h' c' kp e) (by simp only[Ql]<;>omega)
 ·obtain⟨its,r',pl,hz⟩:=I.tuple hq;have hlen:=r'.length;obtain⟨o,ho,hc,n,hd⟩:=pl;exact call_list_seq p (.inr rfl) ho hc hd (λh' c' kp e=>fin its r' hz h' c' kp e) (by simp only[Ql]<;>omega)
def tyV(K:PySem.W.Frag)(T:String)(x:V)(H:Hp):Prop:=match x with
 |.str _=>T="str"
 |.int _=>T="int"
 |.ref p=>(T="list"/\∃xs,SqL K H p xs)\/(T="tuple"/\∃o,K.lookup p=some o/\o.cls=.type "tuple"/\o.dict=none) \/
  (T="dict"/\((∃kvs,H p=some (.dK kvs))\/∃kvs,H p=some (.dT kvs)))\/(T="set"/\∃S n,H p=some (.set S n))
 |_=>False
theorem uR{pins:List (Addr×Obj)}{σ:St}{H:Hp}{s:Shared}{T:String}{x:V}{v:Value}(I:Inv X pins σ H s)(r:RelV x v)(ty:tyV X.K T x H) :
 s.TypeIs v T/\∀a,v=.ref a->∃ob,s.heap.get? a=some ob/\ob.dict=none:=by
 cases x with
 |str z =>obtain⟨t,rfl⟩:=r;cases(show T="str" from ty);exact⟨typeIs_str s z t,λ_ e=>nomatch e⟩
 |int i =>obtain⟨t,rfl⟩:=r;cases(show T="int" from ty);exact⟨typeIs_int s i t,λ_ e=>nomatch e⟩
 |ref p =>
  cases r;rcases ty with⟨rfl,xs,hq⟩ |⟨rfl,o,hk,hc,hd⟩ |⟨rfl,hk⟩ |⟨rfl,S,n,hk⟩
  ·obtain⟨its,_,pl,_⟩:=I.list hq;refine⟨pl.isList.typeIs,λa e=>?_⟩;cases e;obtain⟨o,n,e,c,hd,_⟩:=pl;exact⟨o,e,hd⟩
  ·refine⟨⟨o,I.kIn p o hk,hc⟩,λa e=>?_⟩;cases e;exact⟨o,I.kIn _ o hk,hd⟩
  ·have z:∃o,s.heap.get? p=some o/\o.ExactDict:=by
    rcases hk with⟨kvs,hk⟩ |⟨kvs,hk⟩
    ·obtain⟨_,_,_,_,o,_,_,e,ex,_⟩:=I.hok p _ hk;exact⟨o,e,ex⟩
    ·obtain⟨_,_,_,_,o,_,_,e,ex,_⟩:=I.hok p _ hk;exact⟨o,e,ex⟩
   obtain⟨o,e,ex⟩:=z;refine⟨⟨o,e,ex.1⟩,λa e2=>?_⟩;cases e2;exact⟨o,e,ex.2.1⟩
  ·obtain⟨o,_,_,_,e,ex,_⟩:=I.hok p _ hk;refine⟨⟨o,e,ex.1⟩,λa e2=>?_⟩;cases e2;exact⟨o,e,ex.2.1⟩
 |_=>exact False.elim ty
def BE(K:PySem.W.Frag)(T:String)(r:V->List V->Hp->VK->Prop)(to:TE):TE:=λσ H Q=>to σ H λx H1=>tyV K T x H1/\r x [] H1 Q
def tBM(K:PySem.W.Frag)(T:String)(r:V->List V->Hp->VK->Prop)(to:TE)(t:TA):TE:=λσ H Q=>to σ H λx H1=>tyV K T x H1/\t σ H1 λxs H2=>r x xs H2 Q
variable {o e:Expr}{es:List Expr}{to:TE}{t:TA}{name:Str}{apos cpos:Pos}{T id:String}{r:V->List V->Hp->VK->Prop}
theorem D4(pa:PlainAttrs T)(slot:Slot T name id)(hty:typeOf (.builtin id)=pure (.type "method_descriptor"))(hm:MtR X id r)(ho:PE X o to)
 (hbase:attributeBase o name X.env (eval o X.env)=eval o X.env:=by rfl) (hline:(apos.endLine == cpos.line)=true:=by rfl):PE X (.Call (.Attribute o name apos) [] [] cpos) (BE X.K T r to):=by
 intro pins s σ H Q I h;refine wpAny_Call_method0_late hbase hline (thn (ho pins s σ H _ I h) λv s1 ⟨x,H1,I1,r1,ty,q1⟩=>?_);obtain⟨h1,h2⟩:=uR I1 r1 ty;exact⟨T,id,pa,slot,hty,h1,h2,Calls.callWith_builtin rfl (PySem.evalArgs_none (hm pins s1 σ H1 x [] v [] Q I1 r1 .nil q1))⟩
theorem oG(pa:PlainAttrs T)(slot:Slot T name id)(hty:typeOf (.builtin id)=pure (.type "method_descriptor"))(hm:MtR X id r)(ho:PE X o to)(ha:PA X (e::es) t)
 (hbase:attributeBase o name X.env (eval o X.env)=eval o X.env:=by rfl)
 (hfew:((backTo cpos (starEach (e::es) X.env)).all (λx=>!x.1)&&(backToKw cpos (keywordEach [] X.env)).all (λx=>x.1.isSome)
   && decide ((e::es).length+([]:List Keyword).length+(if([]:List Keyword).isEmpty then 0 else 1)<30))=true:=by rfl)
 (hline:(apos.endLine == cpos.line)=true:=by rfl) (hs:starEach (e::es) X.env=(false,eval e X.env)::starEach es X.env:=by rfl) (hplain:(backTo cpos (starEach es X.env)).any (·.1)=false:=by rfl) :
 PE X (.Call (.Attribute o name apos) (e::es) [] cpos) (tBM X.K T r to t):=by
 intro pins s σ H Q I h;refine wpAny_Call_method_late hbase hfew hline rfl (thn (ho pins s σ H _ I h) λv s1 ⟨x,H1,I1,r1,ty,q1⟩=>?_);obtain⟨h1,h2⟩:=uR I1 r1 ty;refine⟨T,id,pa,slot,hty,h1,h2,?_⟩;have hA:=ha cpos pins s1 σ H1 _ I1 q1;rw[hs]at hA ⊢;refine Calls.callWith_builtin (by show(false || (backTo cpos (starEach es X.env)).any (·.1))=false;rw[hplain]<;>rfl) (Calls.evalArgs_plain ?_);exact thn hA λus s2 ⟨vs,H2,I2,r2,q2⟩=>hm pins s2 σ H2 x vs v us Q I2 r1 r2 q2
end
noncomputable def MtM(X:Cx)(id:String)(r:V->List V->Hp->VK->Prop):Prop :=
 ∀(pins:List (Addr×Obj)) (s:Shared) (σ:St) (H:Hp) (x:V) (xs:List V) (v:Value) (us:List Value) (Q:VK),Inv X pins σ H s->RelV x v->Vals xs us->r x xs H Q ->
  wpAny (model X.prog X.w) X.A (call (.builtin id) (v::us)) (EP X pins σ Q) X.xe s
theorem Vals.one:∀{x:V} {us:List Value},Vals [x] us->∃u,us=[u]/\RelV x u
 |_,_,.cons r .nil=>⟨_,rfl,r⟩
theorem Vals.two:∀{x y:V} {us:List Value},Vals [x,y] us->∃u v,us=[u,v]/\RelV x u/\RelV y v
 |_,_,_,.cons r (.cons q .nil)=>⟨_,_,rfl,r,q⟩
theorem Vals.zero:∀{us:List Value},Vals [] us->us=[]
 |_,.nil=>rfl
theorem Vals.reverse{xs:List V}{us:List Value}(h:Vals xs us):Vals xs.reverse us.reverse:=by
 induction h with
 |nil=>exact .nil
 |cons r t ih=>rw[List.reverse_cons,List.reverse_cons];exact Vals.append ih (.cons r .nil)
theorem Vals.rep{xs:List V}{us:List Value}(h:Vals xs us):∀k:Nat,Vals (List.replicate k xs).flatten (List.replicate k us).flatten
 |0=>.nil
 |k+1=>by rw[Q8,Q8,RB,RB];exact Vals.append h (Vals.rep h k)
theorem yC(its:List Value):∀(k:Nat) (acc:List Value),
 List.foldl (λx1 x2=>x1++x2) acc.toArray (List.replicate k its.toArray)=(acc++(List.replicate k its).flatten).toArray
 |0,acc=>by simp
 |k+1,acc=>by
  have e:acc.toArray++its.toArray=(acc++its).toArray:=by simp
  have e2:(acc++its)++(List.replicate k its).flatten=acc++(List.replicate (k+1) its).flatten:=by rw[Q8,RB,Qq]
  rw[<- e2,<- yC its k (acc++its),<- e,Q8,List.foldl_cons]
section
variable {X:Cx}{pins:List (Addr×Obj)}{σ:St}{H:Hp}{s:Shared}{l b:Addr}{xs ys zs:List V}
theorem Inv.lset{its its':List Value}{n:Nat}{f:Array Value->Array Value}{t':Nat}(I:Inv X pins σ H s)(hH:H l=some (.lst xs))
 (e:s.heap.get? l=some { cls:=.type "list",data:=.seq its.toArray n }) (hf:f its.toArray=its'.toArray) (hv:Vals ys its') (hz:ys.length<=sizeLine) :
 Inv X pins σ (upd H l (.lst ys)) { s with heap:=s.heap.update l (Obj.mapSeq f),toks:=t' }:=by
 have q:=PySem.IsL.update e f;rw[hf]at q;refine I.write (x:=l) (e:=l) (by rw[hH];exact trivial) (.inl rfl) (λb' u hb hu=>(Heap.get?_update_other s.heap (Obj.mapSeq f) (Ne.symm hb)).trans hu) ⟨_,q⟩ ?_;exact⟨hz,its',_,hv,q⟩
theorem Inv.lnew{its:List Value}{t':Nat}(I:Inv X pins σ H s)(hv:Vals ys its)(hz:ys.length<=sizeLine) :
 Inv X pins σ (upd H s.heap.objs.size (.lst ys)) { s with heap:=s.heap.push { cls:=.type "list",data:=.seq its.toArray },toks:=t' } :=
 I.laid (λ_ _ q=>Heap.get?_push_of_some _ q) (PZ _) ⟨hz,its,0,hv,Heap.get?_push_size _ rfl⟩
theorem Inv.fresh(I:Inv X pins σ H s):H s.heap.objs.size=none:=I.hok.fresh (PZ _)
theorem Inv.lstM(I:Inv X pins σ H s)(hH:H l=some (.lst xs)):xs.length<=sizeLine/\∃(its:List Value) (n:Nat),Vals xs its/\xs.length=its.length/\s.heap.get? l=some { cls:=.type "list",data:=.seq its.toArray n }:=by obtain⟨z,its,n,r,e⟩:=I.hok l _ hH;exact⟨z,its,n,r,r.length,e⟩
theorem Gh{n:Nat}(h:n<=sizeLine):Builtin.List.listTooLong n=false:=by unfold Builtin.List.listTooLong;exact decide_eq_false (by omega)
end
section
variable {X:Cx}
noncomputable def DG:V->List V->Hp->VK->Prop:=λx vs H Q=>∃l xs y,x=.ref l/\vs=[y]/\H l=some (.lst xs)/\xs.length<sizeLine/\Q .non (upd H l (.lst (xs++[y])))
theorem oY:MtM X "list.append" DG:=by intro pins s σ H x vs v us Q I rx rv h;obtain⟨l,xs,y,rfl,rfl,hH,hz,q⟩:=h;cases rx;obtain⟨u,rfl,ru⟩:=rv.one;obtain⟨z,its,n,r,hl,e⟩:=I.lstM hH;refine call_meets F.slot_list_append ⟨_,e,rfl⟩ F.entry_list_append (F.args_list_append_2 _ _) (PySem.list_append l its.toArray n u (by rw[Ql];omega)) ⟨e,?_⟩;refine⟨.non,_,I.lset (its':=its++[u]) hH e (by simp) (r.append (.cons ru .nil)) ?_,rfl,q⟩;rw[PY,Rp];omega
noncomputable def Dx:V->List V->Hp->VK->Prop:=λx vs H Q=>∃l xs,x=.ref l/\vs=[]/\H l=some (.lst xs)/\Q .non (upd H l (.lst xs.reverse))
theorem Gv:MtM X "list.reverse" Dx:=by intro pins s σ H x vs v us Q I rx rv h;obtain⟨l,xs,rfl,rfl,hH,q⟩:=h;cases rx;have hus:=rv.zero;subst hus;obtain⟨z,its,n,r,hl,e⟩:=I.lstM hH;refine call_meets F.slot_list_reverse ⟨_,e,rfl⟩ F.entry_list_reverse (F.args_list_reverse_1 _) (AutoSeq1.list_reverse_list_0 l its.toArray n (by rw[Ql];omega)) ⟨e,?_⟩;refine⟨.non,_,I.lset (its':=its.reverse) hH e (by simp) r.reverse ?_,rfl,q⟩;rw[QK];omega
def DF:R2:=λx y H Q=>∃l b xs zs,x=.ref l/\y=.ref b/\H l=some (.lst xs)/\H b=some (.lst zs)/\xs.length+zs.length<=sizeLine/\∀p,H p=none->Q (.ref p) (upd H p (.lst (xs++zs)))
theorem iK:OpR X (binaryOp .Add) DF:=by
 intro pins s σ H x y v u Q I rx ry h;obtain⟨l,b,xs,zs,rfl,rfl,hH,hB,hz,q⟩:=h;cases rx;cases ry;obtain⟨z,its,n,r,hl,e⟩:=I.lstM hH;obtain⟨z2,its2,n2,r2,hl2,e2⟩:=I.lstM hB;refine PySem.P.add_list e e2 ?_ (by rw[Ql,Ql];omega);have ea:its.toArray++its2.toArray=(its++its2).toArray:=by simp
 rw[ea];exact⟨.ref _,_,I.lnew (t':=s.toks) (r.append r2) (by rw[PY];omega),rfl,q _ I.fresh⟩
def Dy:R2:=λx y H Q=>∃l k xs,x=.ref l/\y=.int k/\H l=some (.lst xs) /\ -(2^63)<=k/\k<2^63/\xs.length*k.toNat<=sizeLine /\
 ∀p,H p=none->Q (.ref p) (upd H p (.lst (List.replicate k.toNat xs).flatten))
theorem HF{α:Type}(xs:List α)(k:Nat):(List.replicate k xs).flatten.length=k*xs.length:=by
 induction k with
 |zero=>simp
 |succ k ih=>rw[Q8,RB,PY,ih,Nat.succ_mul,Nat.add_comm]
theorem jC:OpR X (binaryOp .Mult) Dy:=by
 intro pins s σ H x y v u Q I rx ry h;obtain⟨l,k,xs,rfl,rfl,hH,h1,h2,hz,q⟩:=h;cases rx;obtain⟨t,rfl⟩:=ry;obtain⟨z,its,n,r,hl,e⟩:=I.lstM hH;have hlen:its.toArray.size*k.toNat<=sizeLine:=by rw[Ql,<- hl];exact hz
 have hcap:¬its.toArray.size*k.toNat>(2^63-1)/8:=by
  have:(sizeLine:Nat)<=(2^63-1)/8:=by decide
  omega
 have hfit:¬(!Builtin.List.listFitsIndex k)=true:=by rw[fitsIndex_both h1 h2];exact Q7
 have hlong:¬Builtin.List.listTooLong (its.toArray.size*k.toNat)=true:=by rw[Gh hlen];exact Q7
 have hnew:List.foldl (λx1 x2=>x1++x2) #[] (List.replicate (if its.toArray.isEmpty=true then 0 else k.toNat) its.toArray)=(List.replicate k.toNat its).flatten.toArray:=by
  have f0:∀m:Nat,List.foldl (λx1 x2=>x1++x2) #[] (List.replicate m its.toArray)=(List.replicate m its).flatten.toArray:=λm=>by have:=yC its m [];rw[Qj]at this;exact this
  rw[f0];cases its with
  |nil=>simp
  |cons a r'=>rw[if_neg (by simp)]
 refine wpAny_binaryOp_repeat_ref (T:="list") (U:="int") (by decide) ⟨_,e,rfl⟩ (λs'=>typeIs_int s' k t) noFill_list_mul F.fills_int_mul F.slot_int_rmul repeat_list F.slot_int_index.lookup
  (call_meets F.slot_int_rmul (typeIs_int s k t) F.entry_int_rmul (F.args_int_rmul_2 _ _) (int___rmul___int_list k t l its.toArray n)
    ⟨e,rfl,⟨_,e,rfl⟩,call_meets F.slot_list_mul ⟨_,e,rfl⟩ F.entry_list_mul (F.args_list_mul_2 _ _) (AutoListH.list___mul___list_int_3 l its.toArray n k t hfit hcap hlong) ⟨e,?_⟩⟩)
 rw[hnew];exact⟨.ref _,_,I.lnew (t':=s.toks) (r.rep k.toNat) (by rw[HF,Nat.mul_comm];exact hz),rfl,q _ I.fresh⟩
end
section
variable {prog:Program}{w:World}{A:Around}{E:Value->Shared->Prop}{s:Shared}
end
section
variable {X:Cx}
end
end L2
namespace Att
open PySem PySem.W PySem.Calls PyProof.Rows
theorem IX{P:Params}{h:Heap}:∀(ns:List Int) (vs:List Value),WellAll P h vs (ns.map WData.int)->IntsAre vs ns:=by
 intro ns
 induction ns with
 |nil =>intro vs w;rw[Rg]at w;cases w;exact .nil
 |cons n ns ih =>
  intro vs w;rw[Qm]at w;cases w with
  |cons a b =>cases a;exact .cons _ _ (ih _ b)
theorem B6{l:OpenLaw}{n:Nat}(hn:l.most=some n){P:Params}{h:Heap}{args:List WData}{cF:List Value}
 (hpre:l.row.toRowW.claim.pre args=true) (hwl:WellAll P h cF args) :
 ∃a vs ns,cF=[Value.ref a]/\args=[WData.list (ns.map WData.int)]/\h.get? a=some { cls:=.type "list",data:=.seq vs.toArray }/\IntsAre vs ns/\ns.length<=n:=by
 have hsh:WShape.hasAll [] args [.list .int]=true:=(pre_splitW hpre).1;have hc:l.pre.holds [] { args:=args }=true:=(pre_splitW hpre).2;obtain⟨d,r,rfl,h1,h2⟩:=hasAllW_cons hsh;obtain rfl:=hasAllW_nil h2;obtain⟨xs,rfl,h3⟩:=hasW_list h1;obtain⟨ns,rfl⟩:=items_int h3
 have hlen:ns.length<=n:=by
  unfold OpenLaw.pre at hc
  have h4:(WTm.not (.lt (.lit (.int (n:Int))) (.len (.arg 0)))).holds [] { args:=[.list (ns.map .int)] }=true:=by have h4:=(holds_andW hc).1;rw[hn]at h4;exact h4
  have h5:=condW_of h4 (w_not (w_lt w_lit (w_len_list (w_arg rfl))));rw[PX]at h5;refine QX λq=>?_
  have q':(n:Int)<((ns.length:Nat):Int):=by omega
  first
   | (rw[decide_eq_true q']at h5;exact absurd h5 (by decide))
   | (simp at h5;omega)
 cases hwl with
 |cons w1 w2 =>
  cases w2;cases w1 with
  |list ho hall=>exact⟨_,_,ns,rfl,rfl,ho,IX ns _ hall,hlen⟩
theorem DQ(l:OpenLaw)(args:List WData):l.row.toRowW.claim.post args (.bool true) args=true :=
 postW_of (r:=l.row.toRowW) (X:=(true == true))
  (show WShape.has [] (.bool true) .bool=true by first |rfl |decide |simp[WShape.has,WShape.arms,WShape.armsAll])
  (show(WTm.eq .res (.lit (.bool true))).value [] { args:=args,res:=some (.bool true),after:=args }=some (.bool (true == true))from w_eq_bool (w_res rfl) w_lit) rfl
theorem attach_call{l:OpenLaw}{n:Nat}{q:Program}{loose:List Str}{XP:(Str->Option Value)->Heap->Prop}{YP:World->Heap->Prop}{d:DefRec}
 (hn:l.most=some n) (hdf:d.params.defaults=[])
 (call:∀(w:World) (s₀ s₁:Shared) (mg mb:Str->Option Value) (fa:Addr) (o:Obj) (pm cd doc:Value) (a:Addr) (vs:List Value) (ns:List Int),
   Ground q loose [] XP w s₀ mg mb s₁.heap->YP w s₁.heap ->
   s₁.heap.get? fa=some o->o.data=.func (docDef d.name d.params d.body d.scope pm cd doc)->s₁.heap.CodeRec cd d.name->mg d.name=some (.ref fa) ->
   s₁.heap.get? a=some { cls:=.type "list",data:=.seq vs.toArray }->IntsAre vs ns->ns.length<=n->s₁.gens=#[] ->
   codeAny (model l.prog w) callerA (.call (.ref fa) ⟨[.ref a],[]⟩) (λr s'=>r=.ok (.ret (.bool true))/\OldK s₁.heap s'.heap/\s'.os=s₁.os/\AllBare s'.gens) s₁) :
 WalkO q loose XP YP l.row.toRowW d [] (λf vs=>PySem.call f vs):=by
 intro w s₀ s₁ mg mb G Y fa o pm cd doc dV kV ho hd hcd hD hmg hg args cF as hpre hlay hrd hwl hlo;obtain rfl:dV=.none:=Dflts.none hD hdf;obtain rfl:kV=.none:=Dflts.noKw hD;obtain⟨a,vs,ns,rfl,rfl,hobj,hints,hlen⟩:=B6 hn hpre hwl;refine enter_call (codeAny_mono (call w s₀ s₁ mg mb fa o pm cd doc a vs ns G Y ho (fd_plain hd) hcd hmg hobj hints hlen hg) λr s' hq=>?_);obtain⟨rfl,h2,h3,h4⟩:=hq;exact⟨.inl ⟨.bool true,.bool true,[],rfl,λ_=>rfl,.bool true,DQ l _,λ_=>⟨List.Pairwise.nil,λ_ hm=>(nomatch hm)⟩⟩,h2,h3,h4⟩
section
variable {prog:Program}{w:World}{A:Around}{E:Value->Shared->Prop}{s:Shared}{K:Frag}
end
end Att
namespace L2
open PySem PySem.Spec PyProof.Rows
theorem uQ:∀{vs:List Value} {ns:List Int},IntsAre vs ns->Vals (ns.map V.int) vs
 |_,_,.nil=>.nil
 |_,_,.cons n t h=>.cons ⟨t,rfl⟩ (uQ h)
noncomputable def gO(s:Stmt)(j:Nat):Stmt:=match s with
 |.ClassDef _ _ _ body _ _ _ _ _ _ _=>body.getD j (.Pass ⟨0,0,0,0⟩)
 |_=>.Pass ⟨0,0,0,0⟩
noncomputable def cu(s:Stmt):Arguments:=match s with
 |.FunctionDef _ a _ _ _ _ _ _ _ _=>a
 |_=>{ posonlyargs:=[],args:=[],vararg:=none,kwonlyargs:=[],kw_defaults:=[],kwarg:=none,defaults:=[] }
noncomputable def bU(s:Stmt):List Stmt:=match s with
 |.FunctionDef _ _ b _ _ _ _ _ _ _=>b
 |_=>[]
noncomputable def al(s:Stmt):Scope:=match s with
 |.FunctionDef _ _ _ _ _ _ sc _ _ _=>sc
 |_=>{ kind:=.function,names:=[],isGenerator:=false,isCoroutine:=false }
abbrev CX0:CXT:=λ_ _ _ _ _ _=>False
abbrev E0:XK:=λ_ _ _=>False
theorem ad{X:Cx}:eZ CX0 X E0:=λ_ _ _ _ _ _ _ h=>h.elim
structure Fun(K:PySem.W.Frag)(x qual:Str)(st:Stmt)(f:Addr)(fd:FuncData):Prop where
 ex:∃(oc:Value) (od:Option Addr) (kV doc pm:Value) (an:Option Addr) (cdv ct:Value) (osl:Array (Option Value)),
  fd=PySem.W.fnOf x qual (cu st) (bU st) (al st) .none kV doc pm an cdv ct/\K.lookup f=some ⟨oc,od,.func fd,osl⟩/\PySem.W.codeIn K cdv qual=true
 kp:PySem.W.keepIn K (.ref f)=true
section
variable {P:Program}{w:World}{K:PySem.W.Frag}{mg:Str->Option Value}{base:Heap}
theorem Fun.ok{x qual:Str}{st:Stmt}{f:Addr}{fd:FuncData}{N ps:List Str}{k:Nat}{sp:Sp}(F:Fun K x qual st f fd)(S:FnScope N ps (al st))(len:∀vs H Q E,sp vs H Q E->vs.length=ps.length)
 (hbody:∀(cdv:Value) (A:Around) (outer:List Env) (s:Shared) (H:Hp) (vs:List V) (Q:VK) (E:XK),Room k (A.deeper (envOfC qual (al st) s.heap.objs.size f cdv))->sp vs H Q E ->
   ∃t,PSs (bH CX0 P w K mg base N qual (al st) f cdv A outer s H E).nox (bU st) t/\t { nx:=λ_ H'=>Q .non H',rt:=Q } (start N vs) H):FnOk P w K mg base CX0 (k+1) f fd ps sp:=by
 obtain⟨oc,od,kV,doc,pm,an,cdv,ct,osl,rfl,lk,hcd⟩:=F.ex;refine ki lk hcd S len λA outer s H vs Q E hr hsp=>?_
 obtain⟨t,h,q⟩:=hbody cdv A outer s H vs Q E hr hsp;exact⟨t,h.nox,q⟩
theorem Fun.binds{x qual:Str}{st:Stmt}{f:Addr}{fd:FuncData}{ps:List Str}(F:Fun K x qual st f fd)
 (h:∀(kV doc pm:Value) (an:Option Addr) (cdv ct:Value) (us:List Value),us.length=ps.length->bindArgs (PySem.W.fnOf x qual (cu st) (bU st) (al st) .none kV doc pm an cdv ct) ⟨us,[]⟩=pure (ps.zip us)):Binds K fd ps []:=by
 obtain⟨oc,od,kV,doc,pm,an,cdv,ct,osl,rfl,lk,hcd⟩:=F.ex;exact .all (h kV doc pm an cdv ct)
theorem yA{x qual:Str}{st:Stmt}{f:Addr}{oc:Value}{od an:Option Addr}{osl:Array (Option Value)}{kV doc pm cdv ct:Value}(l:K.lookup f=some ⟨oc,od,.func (PySem.W.fnOf x qual (cu st) (bU st) (al st) .none kV doc pm an cdv ct),osl⟩)
 (c:PySem.W.codeIn K cdv qual=true) (k:PySem.W.keepIn K (.ref f)=true):Fun K x qual st f (PySem.W.fnOf x qual (cu st) (bU st) (al st) .none kV doc pm an cdv ct):=⟨⟨oc,od,kV,doc,pm,an,cdv,ct,osl,rfl,l,c⟩,k⟩
end
section
variable {X:Cx}
theorem pv(i:Nat){x:Str}{pos:Pos}(hN:X.N[i]?=some x:=by rfl)(hv:Vis X.env.scope x:=by first |exact Or.inl rfl |exact Or.inr (Or.inl rfl) |exact Or.inr (Or.inr rfl))(hd:(x == ("__debug__":Str))=false:=by decide)
 (hcd:(x == ("__classdict__":Str))=false:=by decide):PE X (.Name x pos) (lE i):=qX hN hv hd hcd
end
def Same(H H':Hp):Prop:=∀b o,H b=some o->H' b=some o
theorem Same.refl(H:Hp):Same H H:=λ_ _ h=>h
theorem Same.trans{H H1 H2:Hp}(a:Same H H1)(b:Same H1 H2):Same H H2:=λc o h=>b c o (a c o h)
theorem Same.free{H H':Hp}(e:Same H H'){l:Addr}(h:H' l=Option.none):H l=Option.none:=by
 cases q:H l with
 |none=>rfl
 |some o =>rw[e l o q]at h;cases h
theorem Same.seq{K:PySem.W.Frag}{H H':Hp}{a:Addr}{xs:List V}(e:Same H H')(h:SqL K H a xs):SqL K H' a xs:=by
 rcases h with(h |⟨o,h⟩) |h
 ·exact .inl (.inl (e _ _ h))
 ·exact .inl (.inr ⟨o,e _ _ h⟩)
 ·exact .inr h
end L2
set_option maxHeartbeats 4000000
namespace L2
open PySem PySem.Spec PyProof.Rows
noncomputable def eS(X:Cx)(N:List Str)(scope:Scope)(cl:List (Str×Addr))(C:Addr)(s₀:Shared)(H₀:Hp)(ex:List Addr):Cx where
 prog:=X.prog
 w:=X.w
 K:=X.K
 mg:=X.mg
 base:=X.base
 A:=X.A
 N:=N
 s₀:=s₀
 H₀:=H₀
 env:=compEnvC scope cl C X.env
 outer:=X.stack
 stack:=X.stack
 ex:=ex
 fn:=λ_=>false
 calm:=X.calm
 pn:=[]
 xe:=λ_ _=>False
structure CompOk(X:Cx)(fr:List Str)(js:List Nat)(scope:Scope)(cl:List (Str×Addr)):Prop where
 clos:closureFor scope X.env=pure cl
 cell:∀y∈scope.names,y.2≠.cell
 kind:scope.kind=.function
 names:∀y∈scope.names,y.2=.local->scope.names.lookup y.1=some .local
 clin:∀p∈cl,X.env.cells.lookup p.1=some p.2
 has:scope.names.all (λp=>p.2 != .free || (cl.lookup p.1).isSome)=true
 fre:Paired (λ(x:Str) (j:Nat)=>X.N[j]?=some x/\(X.env.scope.names.lookup x=some .cell\/X.env.scope.names.lookup x=some .free)/\scope.names.lookup x=some .free) fr js
theorem qO{env:Env}{x:Str}{k':NameKind}:∀{names:List (Str×NameKind)},
 (names.map λ(n,k)=>if(k == NameKind.free&&env.scope.kind == .function&&env.kindOf n == some .cell)then(n,NameKind.cell)else(n,k)).lookup x=some k' ->
 ∃k,names.lookup x=some k/\(k'=k\/(k=.free/\k'=.cell))
 | [],h=>by simp at h
 | (n,k)::r,h=>by
  have ih:=@qO env x k' r;change List.lookup x ((if(k == NameKind.free&&env.scope.kind == .function&&env.kindOf n == some .cell)=true then(n,NameKind.cell)else(n,k))::_)=_ at h
  by_cases hc:(k == NameKind.free&&env.scope.kind == .function&&env.kindOf n == some .cell)=true
  ·rw[if_pos hc]at h;cases hx:x == n with
   |true =>simp only[Qz,hx]at h ⊢;cases h;refine⟨k,rfl,.inr ⟨?_,rfl⟩⟩;simp only[Rq,beq_iff_eq]at hc;exact hc.1.1
   |false =>simp only[Qz,hx]at h ⊢;exact ih h
  ·rw[if_neg hc]at h;cases hx:x == n with
   |true =>simp only[Qz,hx]at h ⊢;cases h;exact⟨_,rfl,.inl rfl⟩
   |false =>simp only[Qz,hx]at h ⊢;exact ih h
theorem wB{env:Env}{x:Str}:∀{names:List (Str×NameKind)},names.lookup x=some .free ->
 (names.map λ(n,k)=>if(k == NameKind.free&&env.scope.kind == .function&&env.kindOf n == some .cell)then(n,NameKind.cell)else(n,k)).lookup x=some .cell \/
 (names.map λ(n,k)=>if(k == NameKind.free&&env.scope.kind == .function&&env.kindOf n == some .cell)then(n,NameKind.cell)else(n,k)).lookup x=some .free
 | [],h=>by simp at h
 | (n,k)::r,h=>by
  have ih:=@wB env x r;show List.lookup x ((if(k == NameKind.free&&env.scope.kind == .function&&env.kindOf n == some .cell)=true then(n,NameKind.cell)else(n,k))::_)=_\/List.lookup x ((if(k == NameKind.free&&env.scope.kind == .function&&env.kindOf n == some .cell)=true then(n,NameKind.cell)else(n,k))::_)=_;by_cases hc:(k == NameKind.free&&env.scope.kind == .function&&env.kindOf n == some .cell)=true
  ·rw[if_pos hc];cases hx:x == n with
   |true=>simp only[Qz,hx];exact .inl trivial
   |false=>simp only[Qz,hx]at h ⊢;exact ih h
  ·rw[if_neg hc];cases hx:x == n with
   |true =>simp only[Qz,hx]at h ⊢;cases h;exact .inr rfl
   |false=>simp only[Qz,hx]at h ⊢;exact ih h
noncomputable def gh(n:Nat)(js:List Nat)(σ:St):St:=List.replicate n none++js.map λj=>(σ[j]?).join
def pZ(n:Nat)(js:List Nat)(g:TG)(te:TE)(σ:St)(Q:VK)(J:It)(H1:Hp):Prop:=∃W:Nat->Nat->List V->St->Hp->Prop,(∃m,W 0 m [] (gh n js σ) H1) /\
 ∀i m ys σ' H',W i m ys σ' H' ->
  (J.stop i H'/\∀p,H' p=none->Q (.ref p) (upd H' p (.lst ys))) \/
  (J.go i H'/\ys.length<sizeLine/\∃N:V->St->Hp->Prop,(∀y σ'' H'',N y σ'' H''->∃m',m'<m/\W (i+1) m' (ys++[y]) σ'' H'')/\∀x H2,J.yld i H' x H2->g x σ' H2 λσ3 H3=>te σ3 H3 λy H4=>N y σ3 H4)
def va(n:Nat)(js:List Nat)(wi:TI)(g:TG)(te:TE):TE:=λσ H Q=>wi σ H λJ H1=>pZ n js g te σ Q J H1
noncomputable def MX(X:Cx)(pins:List (Addr×Obj))(σ:St)(Q:VK)(D C:Addr)(s':Shared):Prop :=
 ∃H2,Inv X pins σ H2 s'/\Q (.ref D) H2/\H2 C=none/\C≠X.env.locals/\X.s₀.heap.objs.size<=C/\(∀x c,X.env.cells.lookup x=some c->c≠C)/\(∀p∈X.pn++pins,p.1≠C)/\∃m,s'.heap.Ns C m
section
variable {X:Cx}{own fr:List Str}{js:List Nat}{scope:Scope}{cl:List (Str×Addr)}{elt target iter:Expr}{pos:Pos}{wi:TI}{g:TG}{te:TE}
theorem gt(O:CompOk X fr js scope cl){x:Str}{c:Addr}(e:cl.lookup x=some c):X.env.cells.lookup x=some c:=O.clin (x,c) (PySem.mem_of_lookup e)
theorem zm{pins:List (Addr×Obj)}{σ:St}{H:Hp}{s:Shared}{fp:List Addr}{C:Addr}(O:CompOk X fr js scope cl)(I:Inv X pins σ H s)(hC:s.heap.objs.size<=C)(hf:∀b∈fp,fe X pins H b)(ho:∀b∈fp,b<s.heap.objs.size) :
 (eS X (own++fr) scope cl C s H fp).Ok:=by
 refine⟨I.ok.mod,O.kind,I.ok.glob,I.ok.blt,hC,λx y c h1 h2=>I.ok.inj x y c (gt O h1) (gt O h2),λx hx=>?_,λx c h=>(by cases h),I.ok.hd,I.ok.frames,.inl rfl,λb hb=>?_,I.bs,?_,λb o e hb=>?_,λb hb hb'=>?_,I.stack,I.stkFree⟩
 ·have key:scope.names.lookup x=some .free:=by
   have hx':(scope.names.map λ(n,k)=>if(k == NameKind.free&&X.env.scope.kind == .function&&X.env.kindOf n == some .cell)then(n,NameKind.cell)else(n,k)).lookup x=some .cell \/
    (scope.names.map λ(n,k)=>if(k == NameKind.free&&X.env.scope.kind == .function&&X.env.kindOf n == some .cell)then(n,NameKind.cell)else(n,k)).lookup x=some .free:=hx
   rcases hx' with h |h
   ·obtain⟨k,e,z⟩:=qO h;rcases z with z |⟨z,_⟩
    ·subst z;exact absurd rfl (O.cell _ (PySem.mem_of_lookup e))
    ·subst z;exact e
   ·obtain⟨k,e,z⟩:=qO h;rcases z with z |⟨_,z⟩
    ·subst z;exact e
    ·cases z
  have hm:=List.all_eq_true.mp O.has _ (PySem.mem_of_lookup key);have hs:(cl.lookup x).isSome=true:=by simpa using hm
  exact Rz.mp hs
 ·obtain⟨f0,f1,f2,f3,f4,f5⟩:=hf b hb;exact⟨Qf (Qi (ho b hb) hC),λx c e=>f4 x c (gt O e)⟩
 ·exact Qu I.ok.bsz I.sz
 ·obtain⟨f0,f1,f2,f3,f4,f5⟩:=hf b hb;rcases f3 with z |z
  ·exact I.ok.noex b o e z
  ·exact absurd (Qi (Heap.lt_size e) (Qu I.ok.bsz z)) (Qt _)
 ·obtain⟨f0,f1,f2,f3,f4,f5⟩:=hf b hb;rcases P8.mp (I.stkSub b hb')with z |z
  ·exact f1 z
  ·exact f2 z
theorem Paired.idx{α β:Type}{F:α->β->Prop}:∀{l₁:List α} {l₂:List β},Paired F l₁ l₂->∀(i:Nat) (a:α) (b:β),l₁[i]?=some a->l₂[i]?=some b->F a b
 |_,_,.nil,_,_,_,h,_=>by simp at h
 |_,_,.cons r _,0,a,b,h1,h2=>by simp at h1 h2;subst h1;subst h2;exact r
 |_,_,.cons _ t,i+1,a,b,h1,h2=>Paired.idx t i a b (by simpa using h1) (by simpa using h2)
theorem Kp{pins:List (Addr×Obj)}{σ:St}{H:Hp}{s s':Shared}{fp:List Addr}{C:Addr}{m:Str->Option Value}(O:CompOk X fr js scope cl)(hl:fr.length=js.length)(I:Inv X pins σ H s)(hC:s.heap.objs.size<=C)(hf:∀b∈fp,fe X pins H b)
 (ho:∀b∈fp,b<s.heap.objs.size) (os:s'.os=s.os) (hg:s'.gens=s.gens) (old:∀b o,s.heap.get? b=some o->s'.heap.get? b=some o) (hn:s'.heap.Ns C m) :
 Inv (eS X (own++fr) scope cl C s H fp) [] (gh own.length js σ) H s':=by
 refine⟨zm O I hC hf ho,os,by rw[hg];exact I.bare,Un.kept old,⟨m,hn,λi x v e1 e2 e3=>?_⟩,λx c e=>?_,I.hok.fresh hC,λx c e=>I.freeC x c (gt O e),λp hp=>absurd (show p∈([]:List (Addr×Obj))from hp) (by simp),I.hok.kept old,?_⟩
 ·unfold gh at e2
  have e1':(own++fr)[i]?=some x:=e1;by_cases hi:i<own.length
  ·rw[List.getElem?_append_left (by simpa using hi),List.getElem?_replicate]at e2;split at e2<;>cases e2
  ·have hi':own.length<=i:=QX hi;rw[List.getElem?_append_right (by simpa using hi'),Qy,List.getElem?_map]at e2;rw[List.getElem?_append_right hi']at e1';cases ej:js[i-own.length]? with
   |none=>rw[ej]at e2;cases e2
   |some j =>
    rw[ej]at e2;have e2':(σ[j]?).join=some v:=Option.some.inj e2
    have eσ:σ[j]?=some (some v):=by
     cases q:σ[j]? with
     |none=>rw[q]at e2';cases e2'
     |some o=>rw[q]at e2';simp at e2';rw[e2']
    obtain⟨hN,hk,hs⟩:=Paired.idx O.fre _ x j e1' ej;obtain⟨mo,hmo,hlo⟩:=I.loc;have vis:Vis X.env.scope x:=hk.elim (λz=>.inr (.inl z)) λz=>.inr (.inr z)
    obtain⟨u,r,l⟩:=hlo j x v hN eσ vis;refine⟨u,r,.inr ⟨wB hs,?_⟩⟩;have hm:=List.all_eq_true.mp O.has _ (PySem.mem_of_lookup hs);have hs':(cl.lookup x).isSome=true:=by simpa using hm
    obtain⟨c,ec⟩:=Rz.mp hs';refine⟨c,ec,?_⟩;rcases l with⟨k,_⟩ |⟨_,c',e',z⟩
    ·have k':X.env.scope.names.lookup x=some .local:=k;rcases hk with q |q<;>(rw[q]at k';cases k')
    ·have:=gt O ec;rw[e']at this;cases this;obtain⟨oc,hoc,hd⟩:=z;exact⟨oc,old _ _ hoc,hd⟩
 ·obtain⟨v,oc,hoc,hd⟩:=I.cell x c (gt O e);exact⟨v,oc,old _ _ hoc,hd⟩
 ·unfold gh;show _=(own++fr).length;rw[PY,PY,Qy,PX,hl]
theorem Un.adopt{fs ex:List Addr}{H H1:Hp}{h h1:Heap}{a:Addr}{o:HO}(u:Un fs ex H H1 h h1)(ha:h.objs.size<=a)(hn:H a=none):Un fs ex H (upd H1 a o) h h1 where
 keep:=u.keep
 slot:=u.slot
 free:=λb ob q n hx=>by rw[upd_ne (Qf (Qi (Heap.lt_size q) ha))];exact u.free b ob q n hx
 there:=u.there
 tups:=λb xs q=>by rw[upd_ne (aD q hn)];exact u.tups b xs q
 frzs:=λb ob xs q=>by rw[upd_ne (aD q hn)];exact u.frzs b ob xs q
 tbls:=λb ps q=>by rw[upd_ne (aD q hn)];exact u.tbls b ps q
theorem HOk.adopt{P:Program}{w:World}{H:Hp}{h:Heap}{a:Addr}{o:HO}(x:HOk P w H h)(hn:H a=none)(new:ObjOk P w (upd H a o) h a o):HOk P w (upd H a o) h:=λb u e=>by
 by_cases hb:b=a
 ·subst hb;rw[ak]at e;cases e;exact new
 ·rw[upd_ne hb]at e;exact(x b u e).stay (λc v _ q=>q) (λc q=>by rw[upd_ne (aD q hn)];exact q) λc xs q=>by rw[upd_ne (aD q hn)];exact q
theorem zq{pins:List (Addr×Obj)}{σ:St}{H:Hp}{s:Shared}{fp:List Addr}{it:Addr}{tn:Nat->Heap->Prop}{J:It}{E:Value->Shared->Prop}{Q:VK}{RR:Value->Addr->Result->Shared->Prop}(O:CompOk X fr js scope cl)(hl:fr.length=js.length)(hcm:X.calm=true)
 (I:Inv X pins σ H s) (T:Turn X.prog X.w X.K target J fp it tn) (st:tn 0 s.heap) (hf:∀b∈fp,fe X pins H b)
 (hg:∀C s₀ H₀ ex,PG (eS X (own++fr) scope cl C s₀ H₀ ex) target g) (he:∀C s₀ H₀ ex,PE (eS X (own++fr) scope cl C s₀ H₀ ex) elt te)
 (W:Nat->Nat->List V->St->Hp->Prop) {m0:Nat} (w0:W 0 m0 [] (gh own.length js σ) H)
 (turn:∀i m ys σ' H',W i m ys σ' H' ->
   (J.stop i H'/\∀p,H' p=none->Q (.ref p) (upd H' p (.lst ys))) \/
   (J.go i H'/\ys.length<sizeLine/\∃N:V->St->Hp->Prop,(∀y σ'' H'',N y σ'' H''->∃m',m'<m/\W (i+1) m' (ys++[y]) σ'' H'')/\∀x H2,J.yld i H' x H2->g x σ' H2 λσ3 H3=>te σ3 H3 λy H4=>N y σ3 H4))
 (hRR:∀D C s',MX X pins σ Q D C s'->RR (.ref D) C (.ok .next) s') :
 wpAny (model X.prog X.w) X.A (newList []) (λacc s₃=>wpAny (model X.prog X.w) X.A (newFunctionEnv scope X.env.globals cl [] X.env.qual none .none (some X.env)) (λcenv s₄ =>
  codeAny (model X.prog X.w) X.A (.compStart (.ListComp elt [⟨target,iter,[],0⟩] scope pos) 0 (.ref it) acc { cenv with scope:=relabel scope X.env }) (RR acc cenv.locals) s₄) E s₃) E s:=by
 refine wpAny_newObj_type (wpAny_newFunctionEnv O.cell (by intro y hy;simp at hy) (λh₁ hns₁ hsb₁=>?_) O.kind);dsimp only at hns₁ hsb₁ ⊢
 generalize hH2:s.heap.push { cls:=.type "list",dict:=none,data:=.seq ([]:List Value).toArray }=H2 at hns₁ hsb₁ ⊢
 have hCs:H2.objs.size=s.heap.objs.size+1:=by rw[<- hH2,Heap.size_push]
 have hDC:s.heap.objs.size≠H2.objs.size:=by rw[hCs];exact Qf (QP _)
 have hCge:s.heap.objs.size<=H2.objs.size:=by rw[hCs];exact Nat.le_succ _
 have below:∀b,b<s.heap.objs.size->b≠H2.objs.size/\b≠s.heap.objs.size:=λb hb=>⟨by rw[hCs];exact Qf (Nat.lt_succ_of_lt hb),Qf hb⟩
 have old:∀b o,s.heap.get? b=some o->h₁.get? b=some o:=λb o e=>hsb₁.extBut b o (below b (Heap.lt_size e)).1 (Heap.get?_push_of_some _ (hH2 ▸ Heap.get?_push_of_some _ e))
 have hacc:h₁.get? s.heap.objs.size=some { cls:=.type "list",data:=.seq ([]:List Value).toArray 0 }:=hsb₁.extBut _ _ hDC (Heap.get?_push_of_some _ (hH2 ▸ Heap.get?_push_size _ rfl));have ho:∀b∈fp,b<s.heap.objs.size:=λb hb=>by obtain⟨o,e,_⟩:=T.obj 0 _ st b hb;exact Heap.lt_size e
 generalize hDe:s.heap.objs.size=D at *
 generalize hCe:H2.objs.size=C at *
 let X':Cx:=eS X (own++fr) scope cl C s H fp
 have ok':X'.Ok:=zm O I (by rw[hDe];exact hCge) hf (by rw[hDe];exact ho)
 have hDfs:D∉X'.fs:=by
  intro z;rcases P8.mp (I.stkSub D z)with q |q
  ·exact absurd I.lt (by rw[<- q,hDe];exact Qt _)
  ·exact I.nofs (Re hDe) q
 have hDfp:∀b∈fp,D≠b:=λb hb z=>absurd (ho b hb) (by rw[z];exact Qt _)
 have hDcell:∀x c,cl.lookup x=some c->c≠D:=λx c e z=>by obtain⟨v,q⟩:=I.cell x c (gt O e);exact absurd q.lt (by rw[z,hDe];exact Qt _)
 have fpok:∀{H':Hp} {pins':List (Addr×Obj)},(∀p∈pins',p.1=D)->(∀b∈fp,H' b=none)->∀b∈fp,fe X' pins' H' b:=λ{H' pins'} hp hn b hb=>by
  obtain⟨f0,f1,f2,f3,f4,f5⟩:=hf b hb;refine⟨hn b hb,(below b (ho b hb)).1,λz=>?_,.inl hb,λx c e=>f4 x c (gt O e),λp hp'=>?_⟩
  ·rcases P8.mp (I.stkSub b z)with q |q
   ·exact f1 q
   ·exact f2 q
  ·have hp'':p∈pins':=by simpa[X',eS]using hp'
   rw[hp p hp''];exact hDfp b hb
 have loop:∀s₃:Shared,s₃={ s with heap:=h₁,toks:=s.toks+([]:List (Str×Value)).length } ->
  codeAny (model X.prog X.w) X.A (.compLoop (.ListComp elt [⟨target,iter,[],0⟩] scope pos) 0 (.ref it) (.ref D) (compEnvC scope cl C X.env)) (RR (.ref D) C) s₃:=by
  rintro s₃ rfl
  refine PySem.W.kcp_loop (λk s'=>∃i σ' H' ys its nn,Inv X' [] σ' H' s'/\tn i s'.heap/\(∀b∈fp,H' b=none)/\H' D=none/\s'.heap.get? D=some { cls:=.type "list",data:=.seq (its:List Value).toArray nn }/\Vals ys its/\ys.length<=sizeLine/\W i k ys σ' H') ?_ m0
   ⟨0,_,H,[],[],0,Kp O hl I (by rw[hDe];exact hCge) hf (by rw[hDe];exact ho) rfl rfl (by intro b o e;exact old b o e) hns₁,T.keep _ _ _ st λb _ o e=>old b o e,λb hb=>(hf b hb).1,I.hok.fresh (Re hDe),hacc,.nil,P6 _,w0⟩
  rintro k s' ⟨i,σ',H',ys,its,nn,I',st',hfn,hDn,hDo,rv,hz,w⟩;have hlen:=rv.length;have hpD:∀p∈[(D,({ cls:=.type "list",data:=.seq its.toArray nn }:Obj))],p.1=D:=λp hp=>by rw[Qc.mp hp]
  have Ip:Inv X' [(D,({ cls:=.type "list",data:=.seq its.toArray nn }:Obj))] σ' H' s':=I'.pins_of λp hp=>by rw[Qc.mp hp];exact⟨hDo,hDn,hDC,hDfs,λv z=>by cases z⟩
  rcases turn i k ys σ' H' w with⟨stop,fin⟩ |⟨go,hlt,N,hN,step⟩
  ·refine wpAny_mono (T.done X' rfl rfl rfl hcm i _ s' σ' H' (λ_ _=>False) Ip (fpok hpD hfn) st' stop) (λr s4 ⟨hr,I4⟩=>?_) λ_ _ z=>False.elim z
   subst hr;refine hRR D C s4 ?_;have hD4:s4.heap.get? D=some { cls:=.type "list",data:=.seq its.toArray nn }:=(I4.pin _ (Qx _ (Qc.mpr rfl))).1;have un:Un (frs X.stack) fp H (upd H' D (.lst ys)) s.heap s4.heap:=Un.adopt I4.base (Re hDe) (I.hok.fresh (Re hDe));have hok:HOk X.prog X.w (upd H' D (.lst ys)) s4.heap:=HOk.adopt I4.hok hDn ⟨hz,its,nn,rv,hD4⟩;refine⟨upd H' D (.lst ys),I.call' I4.os un hok I4.bare λb hb=>?_,fin D hDn,?_,?_,?_,λx c e z=>?_,λp hp z=>?_,?_⟩
   ·obtain⟨f0,f1,f2,f3,f4,f5⟩:=hf b hb;exact⟨f3,f1,f4,f5⟩
   ·rw[upd_ne (Ne.symm hDC)];exact I4.free
   ·exact Nat.ne_of_gt (Qi I.lt (by rw[hDe];exact hCge))
   ·exact Qu I.sz (by rw[hDe];exact hCge)
   ·obtain⟨v,q⟩:=I.cell x c e;exact absurd (Qi q.lt (by rw[hDe,z];exact hCge)) (Qt _)
   ·exact absurd (Qi (Heap.lt_size (I.pin p hp).1) (by rw[hDe,z];exact hCge)) (Qt _)
   ·obtain⟨m',hn',_⟩:=I4.loc;exact⟨m',hn'⟩
  ·refine wpAny_mono (T.item X' rfl rfl rfl hcm i _ s' σ' H' (λ_ _=>False) Ip (fpok hpD hfn) st' go) (λr s4 ⟨u,hr,h4⟩=>?_) λ_ _ z=>False.elim z
   subst hr;refine wpAny_mono h4 (λ_ s5 ⟨x,H5,I5,r5,y5,st5,fr5⟩=>?_) λ_ _ z=>False.elim z
   have I5':=I5.pinned (fpok hpD fr5) (T.obj _ _ st5);refine wpAny_mono (hg C s H fp _ s5 σ' H5 x u _ I5' r5 (step x H5 y5)) (λ_ s6 ⟨σ6,H6,I6,q6⟩=>?_) λ_ _ z=>False.elim z
   refine wpAny_mono (he C s H fp _ s6 σ6 H6 _ I6 q6) (λv s7 ⟨y,H7,I7,r7,n7⟩=>?_) λ_ _ z=>False.elim z
   obtain⟨m',hm',w7⟩:=hN y σ6 H7 n7;have hD7:=I7.pin (D,{ cls:=.type "list",data:=.seq its.toArray nn }) (Qx _ (Q6 _ (Qc.mpr rfl)));refine append_at hD7.1 (λh8 sb hD8=>?_) (by rw[Ql,<- hlen];exact hz);have I7':Inv X' [] σ6 H7 s7:=I7.pins_of λp hp=>absurd hp (by simp)
   have I8:Inv X' [] σ6 H7 { s7 with heap:=h8 }:=I7'.turned (t':=s7.toks) (it:=D) (λb o hb e=>(sb.2 b hb).trans e) hD7.2.1 hDC (.inr (Re hDe)) hDcell (λp hp=>absurd (show p∈([]:List (Addr×Obj))from hp) (by simp));refine⟨m',hm',i+1,σ6,H7,ys++[y],its++[v],nn+1,I8,T.keep _ _ _ st5 λb hb o e=>?_,λb hb=>?_,hD7.2.1,?_,rv.append (.cons r7 .nil),?_,w7⟩
   ·exact(sb.2 b (λz=>hDfp b hb z.symm)).trans (I7.pin (b,o) (Qx _ (Qx _ (o9 hb e)))).1
   ·obtain⟨o,e,d⟩:=T.obj _ _ st5 b hb;exact(I7.pin (b,o) (Qx _ (Qx _ (o9 hb e)))).2.1
   ·rw[hD8,List.push_toArray]
   ·rw[PY,Rp];exact hlt
 exact codeAny_compStart_list (loop _ rfl) (T.self _ 0 _ _ _ (T.keep _ _ _ st λb _ o e=>old b o e) (loop _ rfl))
theorem cQ(O:CompOk X fr js scope cl)(hcm:X.calm=true)(hi:PI X target iter wi)(hg:∀C s₀ H₀ ex,PG (eS X (own++fr) scope cl C s₀ H₀ ex) target g)(he:∀C s₀ H₀ ex,PE (eS X (own++fr) scope cl C s₀ H₀ ex) elt te)
 (hs:∀x,foldedSetIterable iter X.env x=pure x:=by intro _;rfl):PE X (.ListComp elt [⟨target,iter,[],0⟩] scope pos) (va own.length js wi g te):=by
 intro pins s σ H Q I h;rw[eval_ListComp];refine wpAny_comprehension_free (use:=none) rfl hs O.clos O.kind O.names (thn (hi pins s σ H _ I h) λx s1 h1=>thn h1 λitv s2 h2=>?_);obtain⟨it,fp,tn,J,H2,rfl,I2,T,st,hf,W,⟨m0,w0⟩,turn⟩:=h2;refine zq (RR:=λacc C=>compPost (model X.prog X.w) X.A X.xe none (EP X pins σ Q) acc C) O (Paired.length O.fre) hcm I2 T st hf hg he W w0 turn ?_;rintro D C s' ⟨H3,I3,q,c1,c2,c3,c4,c5,m,hn⟩;exact⟨m,hn,λh' sb=>⟨.ref D,H3,I3.turned (t':=s'.toks) (it:=C) (λb o hb e=>(sb.2 b hb).trans e) c1 c2 (.inr c3) c4 c5,rfl,q⟩⟩
theorem wM{i:Nat}{y:Str}{py spos:Pos}(hN:X.N.Nodup)(hy:X.N[i]?=some y)(hly:Loc X.env.scope y)(O:CompOk X fr js scope cl)(hcm:X.calm=true)(hi:PI X target iter wi)(hg:∀C s₀ H₀ ex,PG (eS X (own++fr) scope cl C s₀ H₀ ex) target g)
 (he:∀C s₀ H₀ ex,PE (eS X (own++fr) scope cl C s₀ H₀ ex) elt te) (hsw:swapsWith (.ListComp elt [⟨target,iter,[],0⟩] scope pos) (some (.Name y py)) spos.line X.env=pure true)
 (hf:X.fn y=true\/X.env.scope.names.lookup y=some .local:=by first |exact .inl rfl |exact .inr rfl |assumption) (hs:∀x,foldedSetIterable iter X.env x=pure x:=by intro _;rfl) :
 PS X (.Assign [.Name y py] (.ListComp elt [⟨target,iter,[],0⟩] scope pos) spos) (cZ (va own.length js wi g te) (cS i)):=by
 intro pins s σ H D I h;rw[exec_Assign_Name_used _ _ _ _ hsw];refine wpAny_bind (wpAny_standAt (wpAny_bind ?_));show wpAny _ X.A (do let _ <- comprehension (.ListComp elt [⟨target,iter,[],0⟩] scope pos) scope X.env _ (newList []) false (eval iter X.env) (some (assign (.Name y py) X.env))) _ _ s
 refine wpAny_bind (wpAny_mono (wpAny_comprehension_free (use:=some (assign (.Name y py) X.env)) (Q:=λ_ s'=>SP X pins D .next s') rfl hs O.clos O.kind O.names
  (thn (hi pins s σ H _ I h) λx s1 h1=>thn h1 λitv s2 h2=>?_)) (λ_ s' hq=>wpAny_pure (wpAny_pure hq)) λ_ _ e=>e)
 obtain⟨it,fp,tn,J,H2,rfl,I2,T,st,hfp,W,⟨m0,w0⟩,turn⟩:=h2;refine zq (Q:=λx H1=>cS i x σ H1 D.nx) (RR:=λacc C=>compPost (model X.prog X.w) X.A X.xe (some (assign (.Name y py) X.env)) (λ_ s'=>SP X pins D .next s') acc C) O (Paired.length O.fre) hcm I2 T st hfp hg he W w0 turn ?_;rintro DD C s' ⟨H3,I3,q,c1,c2,c3,c4,c5,m,hn⟩;show wpAny _ _ (assign (.Name y py) X.env (.ref DD)) _ _ s';refine wpAny_assign_Name (vj I3 hN hy hly (v:=.ref DD) rfl (λs4 I4 ⟨a,sb,ha⟩=>?_) hf)
 have hCa:C≠a:=by
  rcases ha with rfl |ha
  ·exact c2
  ·exactλz=>c4 y a ha z.symm
 refine⟨m,hn.sameBut sb hCa,λh' sb'=>⟨_,H3,I4.turned (t':=s4.toks) (it:=C) (λb o hb e=>(sb'.2 b hb).trans e) c1 c2 (.inr c3) c4 c5,q⟩⟩
end
theorem gU{n:Nat}{js:List Nat}{K:PySem.W.Frag}{a:Addr}{xs:List V}{g:TG}{te:TE}{σ0:St}{H:Hp}{Q:VK}(Pv:Nat->List V->St->Hp->Prop)(hz:xs.length<=sizeLine)(h0:Pv 0 [] (gh n js σ0) H)(hl:∀i ys σ H,i<=xs.length->Pv i ys σ H->SqL K H a xs/\ys.length<=i)
 (hs:∀i x ys σ H,xs[i]?=some x->Pv i ys σ H->g x σ H λσ2 H2=>te σ2 H2 λy H3=>Pv (i+1) (ys++[y]) σ2 H3) (hd:∀ys σ H p,Pv xs.length ys σ H->H p=none->Q (.ref p) (upd H p (.lst ys))) :
 pZ n js g te σ0 Q (Itl K a) H:=by
 refine⟨λi m ys σ H=>m=xs.length-i/\i<=xs.length/\Pv i ys σ H,⟨xs.length,by simp,P6 _,h0⟩,?_⟩;rintro i m ys σ H ⟨rfl,hi,p⟩;obtain⟨q,hy⟩:=hl i ys σ H hi p;by_cases hlt:i<xs.length
 ·refine .inr ⟨⟨xs,xs[i],q,by simp[hlt]⟩,by omega,λy σ'' H''=>Pv (i+1) (ys++[y]) σ'' H'',λy σ' H' p'=>⟨xs.length-(i+1),by omega,rfl,hlt,p'⟩,λx H' y=>?_⟩;obtain⟨e,y⟩:=y;subst e;exact hs i x ys σ _ (y xs q) p
 ·have e:i=xs.length:=by omega
  subst e;exact .inl ⟨⟨xs,q,PZ _⟩,λr hr=>hd ys σ H r p hr⟩
theorem fM{k:Nat}{js:List Nat}{lo:Int}{n:Nat}{g:TG}{te:TE}{σ0:St}{H:Hp}{Q:VK}(Pv:Nat->List V->St->Hp->Prop)(hz:n<=sizeLine)(h0:Pv 0 [] (gh k js σ0) H)(hl:∀i ys σ H,i<=n->Pv i ys σ H->ys.length<=i)
 (hs:∀i ys σ H,i<n->Pv i ys σ H->g (.int (lo+i)) σ H λσ2 H2=>te σ2 H2 λy H3=>Pv (i+1) (ys++[y]) σ2 H3) (hd:∀ys σ H p,Pv n ys σ H->H p=none->Q (.ref p) (upd H p (.lst ys))) :
 pZ k js g te σ0 Q (Itr lo n) H:=by
 refine⟨λi m ys σ H=>m=n-i/\i<=n/\Pv i ys σ H,⟨n,by simp,P6 _,h0⟩,?_⟩;rintro i m ys σ H ⟨rfl,hi,p⟩;have hy:=hl i ys σ H hi p;by_cases hlt:i<n
 ·refine .inr ⟨hlt,by omega,λy σ'' H''=>Pv (i+1) (ys++[y]) σ'' H'',λy σ' H' p'=>⟨n-(i+1),by omega,rfl,hlt,p'⟩,λx H' y=>?_⟩;obtain⟨e,y⟩:=y;subst e y;exact hs i ys σ _ hlt p
 ·have e:i=n:=by omega
  subst e;exact .inl ⟨PZ _,λr hr=>hd ys σ H r p hr⟩
def Bits(k:Nat)(i:Int):Prop:=i.natAbs<2^k
theorem Bits.mono{j k:Nat}{i:Int}(h:Bits j i)(hk:j<=k:=by decide):Bits k i:=Qi h (Nat.pow_le_pow_right (by decide) hk)
theorem Bits.mul{j k:Nat}{a b:Int}(ha:Bits j a)(hb:Bits k b):Bits (j+k) (a*b):=by
 unfold Bits at *
 rw[QD,Nat.pow_add];exact Nat.mul_lt_mul_of_lt_of_lt ha hb
theorem Bits.add{k:Nat}{a b:Int}(ha:Bits k a)(hb:Bits k b):Bits (k+1) (a+b):=by
 unfold Bits at *
 have:=Int.natAbs_add_le a b;rw[Nat.pow_succ];omega
theorem Bits.neg{k:Nat}{a:Int}(ha:Bits k a):Bits k (-a):=by unfold Bits at *;rwa [QA]
theorem Bits.sub{k:Nat}{a b:Int}(ha:Bits k a)(hb:Bits k b):Bits (k+1) (a-b):=by rw[Int.sub_eq_add_neg];exact ha.add hb.neg
theorem Bits.of_le{k:Nat}{a b:Int}(hb:Bits k b)(h:a.natAbs<=b.natAbs):Bits k a:=Ri h hb
theorem Bits.zero{k:Nat}:Bits k 0:=Nat.pow_pos (by decide)
theorem Bits.log{k:Nat}{i:Int}(h:Bits k i)(hk:0<k):i.natAbs.log2<k:=by
 by_cases h0:i.natAbs=0
 ·rw[h0];simpa using hk
 ·exact(Nat.log2_lt h0).mpr h
theorem Bits.int{k:Nat}{i:Int}(h:Bits k i)(hk:k<=1000000):Builtin.Int.intBits i<=2^20:=by
 have e:(2:Nat)^20=1048576:=by decide
 unfold Builtin.Int.intBits;split
 ·exact P6 _
 ·rename_i hn
  have h0:i.natAbs≠0:=by intro z;have:i=0:=Int.natAbs_eq_zero.mp z;exact hn (by simp[this])
  have:=(Nat.log2_lt h0).mpr h;omega
section
variable {X:Cx}{a b:Expr}{ta tb:TE}{pos:Pos}
def NX(i j:Int):Prop:=Bits 1000000 i/\Bits 1000000 j
theorem av:OpR X (binaryOp .Mult) (rI NX λi j=>.int (i*j)):=opI λ_ _ _ _ _ _ _ hc q=>mul_int q (.of_bits (hc.1.int (PZ _)) (hc.2.int (PZ _)))
theorem eE:OpR X (binaryOp .Mod) (rI (λ_ j=>0<j) λi j=>.int (i%j)):=Ec
def NY(_ j:Int):Prop:=0<j/\Bits 9000 j
theorem gc:OpR X (binaryOp .FloorDiv) (rI NY λi j=>.int (i/j)):=opI λi j _ _ _ _ _ hc q=>by refine floordiv_int (P9 hc.1) ?_ (.inl (PyProof.noPylong_of_log2 (hc.2.log (by decide))));rw[Int.fdiv_eq_ediv_of_nonneg _ (Qo hc.1)];exact q
def NZ(_ j:Int):Prop:=j≠0/\Bits 9000 j
theorem oN:OpR X (binaryOp .FloorDiv) (rI NZ λi j=>.int (i.fdiv j)):=opI λ_ _ _ _ _ _ _ hc q=>floordiv_int hc.1 q (.inl (PyProof.noPylong_of_log2 (hc.2.log (by decide))))
theorem cj:OpR X (compareOp .Eq) (rI0 λi j=>.bl (decide (i=j))):=iL λ_ _ _ _ _ _ _ q=>eq_int (by rw[Bool.beq_eq_decide_eq];exact q)
theorem gb:OpR X (compareOp .NotEq) (rI0 λi j=>.bl (!decide (i=j))):=iL λ_ _ _ _ _ _ _ q=>ne_int (by rw[bne,Bool.beq_eq_decide_eq];exact q)
def wJ(K:PySem.W.Frag):R2:=λx y H Q=>∃(a b:Addr) (ns ms:List Int),x=.ref a/\y=.ref b/\SqL K H a (ns.map V.int)/\SqL K H b (ms.map V.int)/\Q (.bl (decide (ns=ms))) H
def wF(K:PySem.W.Frag):R2:=λx y H Q=>∃(a b:Addr) (ns ms:List Int),x=.ref a/\y=.ref b/\SqL K H a (ns.map V.int)/\SqL K H b (ms.map V.int)/\Q (.bl (!decide (ns=ms))) H
theorem Eg(hu:X.A.units+64<cLine):OpR X (compareOp .Eq) (wJ X.K):=by intro pins s σ H x y v u Q I rx ry h;obtain⟨a,b,ns,ms,rfl,rfl,ha,hb,q⟩:=h;cases rx;cases ry;obtain⟨i1,r1,p1,_⟩:=I.list ha;obtain⟨i2,r2,p2,_⟩:=I.list hb;exact PySem.W.eq_intsK p1.isList (pq r1) p2.isList (pq r2) hu ⟨.bl _,H,I,rfl,q⟩
theorem Ea(hu:X.A.units+64<cLine):OpR X (compareOp .NotEq) (wF X.K):=by intro pins s σ H x y v u Q I rx ry h;obtain⟨a,b,ns,ms,rfl,rfl,ha,hb,q⟩:=h;cases rx;cases ry;obtain⟨i1,r1,p1,_⟩:=I.list ha;obtain⟨i2,r2,p2,_⟩:=I.list hb;exact PySem.W.ne_intsK p1.isList (pq r1) p2.isList (pq r2) hu ⟨.bl _,H,I,rfl,q⟩
noncomputable def iD(K:PySem.W.Frag):List V->Hp->VK->Prop:=λxs H Q=>∃(x:V) (t c:Value) (n:V) (k:Bool),xs=[x,n]/\RelV n c/\(∀u,RelV n u->u=c)/\TyOf K H x t/\PySem.W.kitOne K t c=some k/\Q (.bl k) H
theorem KQ:cY X (.builtin "isinstance") (iD X.K):=by intro pins s σ H xs us Q I r h;obtain⟨x,t,c,n,k,rfl,rn,hn,ty,e,q⟩:=h;obtain⟨u1,u2,rfl,r1,r2⟩:=r.two;obtain rfl:=hn u2 r2;exact IQ I r1 ty e λtk=>⟨.bl k,H,I.tok tk,rfl,q⟩
theorem j9{K:PySem.W.Frag}{H:Hp}{Q:VK}{x:V}{n:String}{t:Value}{k:Bool}(ty:TyOf K H x t)(e:PySem.W.kitOne K t (.type n)=some k)(q:Q (.bl k) H):iD K [x,.ty n] H Q :=
 ⟨x,t,.type n,.ty n,k,rfl,rfl,λ_ h=>h,ty,e,q⟩
theorem yk{K:PySem.W.Frag}{H:Hp}{Q:VK}{x:V}{C:Addr}{t:Value}{k:Bool}(ty:TyOf K H x t)(e:PySem.W.kitOne K t (.ref C)=some k)(q:Q (.bl k) H):iD K [x,.ref C] H Q :=
 ⟨x,t,.ref C,.ref C,k,rfl,rfl,λ_ h=>h,ty,e,q⟩
end
section
variable {D:Ends}{σ:St}{H:Hp}{Q:VK}{t u:TS}{te ta tb:TE}{c:TT}{i:Nat}{v:V}{r:R2}
theorem Ds(P:St->Hp->Prop)(h1:∀σ' H',P σ' H'->u D σ' H')(h2:(∀σ' H',P σ' H'->u D σ' H')->t { D with nx:=u D } σ H):ci t u D σ H:=h2 h1
theorem oq(P:St->Hp->Prop)(h:P σ H)(h1:∀σ' H',P σ' H'->u D σ' H'):u D σ H:=h1 σ H h
theorem ao(h:te σ H λx H1=>u D (σ.set i (some x)) H1):ci (cZ te (cS i)) u D σ H:=h
theorem eC(h:te σ H λ_ H1=>u D σ H1):ci (qj te) u D σ H:=h
theorem aS{t1:TS}(h:c σ H λb H1=>if b=true then t1 { D with nx:=u D } σ H1 else u D σ H1):ci (i7 c t1 u8) u D σ H:=h
theorem gw{K:PySem.W.Frag}{n:V}(h:ta σ H λx H1=>iD K [x,n] H1 Q):tCB (iD K) (qk ta (qk (tC n) qi)) σ H Q:=h
theorem iB{t1 t2:TS}(P:St->Hp->Prop)(h1:∀σ' H',P σ' H'->u D σ' H')(h2:(∀σ' H',P σ' H'->u D σ' H')->c σ H λb H1=>if b=true then t1 { D with nx:=u D } σ H1 else t2 { D with nx:=u D } σ H1):ci (i7 c t1 t2) u D σ H:=h2 h1
theorem cz(h:te σ H λx H1=>D.nx (σ.set i (some x)) H1):cZ te (cS i) D σ H:=h
theorem aA(h:te σ H D.rt):uZ te D σ H:=h
theorem jq(h:c σ H λb H1=>if b=true then t D σ H1 else u D σ H1):i7 c t u D σ H:=h
theorem wC(h:Q v H):tC v σ H Q:=h
theorem jr{K:Bool->Hp->Prop}(h:te σ H λx H'=>∃k,x=.bl k/\K k H'):tB te σ H K:=h
theorem dC{K:Bool->Hp->Prop}{tt:TT}(h:tt σ H λk H1=>K (!k) H1):u7 tt σ H K:=h
theorem ot{K:Bool->Hp->Prop}{t1 t2:TT}(h:t1 σ H λk H1=>if k=true then t2 σ H1 K else K false H1):vf t1 t2 σ H K:=h
theorem oo{K:Bool->Hp->Prop}{t1 t2:TT}(h:t1 σ H λk H1=>if k=true then K true H1 else t2 σ H1 K):tOr t1 t2 σ H K:=h
theorem f6(h:ta σ H λx H1=>∃k,x=.bl k/\if k=true then tb σ H1 Q else Q (.bl false) H1):vc ta tb σ H Q:=h
theorem Do(h:ta σ H λx H1=>∃k,x=.bl k/\Q (.bl (!k)) H1):u0 ta σ H Q:=h
theorem Dq{tt:TT}(h:tt σ H λk H1=>if k=true then ta σ H1 Q else tb σ H1 Q):tIf tt ta tb σ H Q:=h
theorem qP{f:List V->Hp->VK->Prop}{t:TA}(h:t σ H λvs H1=>f vs H1 Q):tCB f t σ H Q:=h
theorem iA{K:List V->Hp->Prop}(h:K [] H):qi σ H K:=h
theorem dN{A B:Prop}(h:A):if true=true then A else B:=by rw[if_pos rfl];exact h
theorem cG{A B:Prop}(h:B):if false=true then A else B:=by rw[if_neg Q7];exact h
theorem aG{p A B:Prop}[Decidable p](h1:p->A)(h2:¬p->B):if decide p=true then A else B:=by
 by_cases hp:p
 ·rw[if_pos (decide_eq_true hp)];exact h1 hp
 ·rw[if_neg (by rw[decide_eq_false hp];exact Q7)];exact h2 hp
theorem cO{p A B:Prop}[Decidable p](h1:¬p->A)(h2:p->B):if(!decide p)=true then A else B:=by
 by_cases hp:p
 ·rw[if_neg (by rw[decide_eq_true hp];exact Q7)];exact h2 hp
 ·rw[if_pos (by rw[decide_eq_false hp];rfl)];exact h1 hp
end
structure Cal(P:Program)(w:World)(K:PySem.W.Frag)(mg:Str->Option Value)(base:Heap)(k:Nat)(x:Str)(ps:List Str)(sp:Sp)(f:Addr)(fd:FuncData):Prop where
 ok:FnOk P w K mg base CX0 k f fd ps sp
 mg:mg x=some (.ref f)
 kp:PySem.W.keepIn K (.ref f)=true
 bd:Binds K fd ps []
theorem Same.upd_new{H:Hp}{p:Addr}{o:HO}(h:H p=none):Same H (upd H p o):=λb u e=>by rw[upd_ne (aD e h)];exact e
theorem Same.then_new{H H1:Hp}{p:Addr}{o:HO}(s:Same H H1)(h:H1 p=none):Same H (upd H1 p o):=s.trans (Same.upd_new h)
theorem Same.ne{H H1:Hp}{a p:Addr}{o:HO}(s:Same H H1)(e:H a=some o)(h:H1 p=none):a≠p:=aD (s a o e) h
section
variable {X:Cx}{K:PySem.W.Frag}
theorem aO(h:X.K=K):IxR X (wI K):=by subst h;exact IP
theorem aN(h:X.K=K):IxR X (wH K):=by subst h;exact IN
theorem ix(h:X.K=K):SlR X (qR K):=by subst h;exact BS
noncomputable def DB(K:PySem.W.Frag):List V->Hp->VK->Prop:=λxs H Q=>∃p ys,xs=[.ref p]/\(SqL K H p ys\/SqT K H p ys)/\Q (.int ys.length) H
theorem cn(h:X.K=K):cY X (.builtin "len") (DB K):=by subst h;exact KO
noncomputable def DA(K:PySem.W.Frag):List V->Hp->VK->Prop:=λxs H Q=>∃p ys,xs=[.ref p]/\(SqL K H p ys\/SqT K H p ys)/\∀l,H l=none->Q (.ref l) (upd H l (.lst ys))
theorem ky(h:X.K=K):cY X (.type "list") (DA K):=by subst h;exact KN
theorem iJ(h:X.K=K)(hu:X.A.units+64<cLine):OpR X (compareOp .Eq) (wJ K):=by subst h;exact Eg hu
theorem jD(h:X.K=K)(hu:X.A.units+64<cLine):OpR X (compareOp .NotEq) (wF K):=by subst h;exact Ea hu
theorem gX(h:X.K=K):cY X (.builtin "isinstance") (iD K):=by subst h;exact KQ
theorem dE{tg l:Expr}{tl:TE}(h:X.K=K)(hl:PE X l tl):PI X tg l (yq K tl):=by subst h;exact DX hl
theorem DV{tg l:Expr}{tl:TE}(h:X.K=K)(hl:PE X l tl):PI X tg l (yp K tl):=by subst h;exact DW hl
theorem aq{e:Expr}{ta:TE}{f:Str}{pos:Pos}(h:X.K=K)(he:PE X e ta)(hb:attributeBase e f X.env (eval e X.env)=eval e X.env):PE X (.Attribute e f pos) (u9 K ta f):=by subst h;exact D3 he hb
end
noncomputable def Ite(K:PySem.W.Frag)(a:Addr):It :=
 ⟨λi H=>∃xs x,SqL K H a xs/\xs[i]?=some x,λi H x H'=>∃v p,x=.ref p/\H p=none/\H'=upd H p (.tup [.int i,v])/\∀xs,SqL K H a xs->xs[i]?=some v,λi H=>∃xs,SqL K H a xs/\xs.length<=i⟩
theorem A5{P:Program}{w:World}{K:PySem.W.Frag}{es:List Expr}{x1:Nat}{tp:Pos}(a e it:Addr)(hne:e≠it):Turn P w K (.Tuple es x1 tp) (Ite K a) [e,it] e (λi h=>(∃old,IsEnum h e it (i:Int) old)/\h.IsListIter it a i) where
 mem:=by simp
 obj:=λi h st b hb=>by
  obtain⟨⟨old,he⟩,hi⟩:=st;rcases P8.mp hb with rfl |hb
  ·exact⟨_,he,λv z=>by cases z⟩
  ·have q:b=it:=by simpa using hb
   subst q;obtain⟨o,e,c,d⟩:=hi;exact⟨o,e,λv z=>by rw[d]at z;cases z⟩
 keep:=λi h h' st k=>by obtain⟨⟨old,he⟩,hi⟩:=st;exact⟨⟨old,k e (by simp) _ he⟩,hi.at λo q=>k it (by simp) o q⟩
 item:=by
  intro X hP hw hK hc i pins s σ H E I hf st hg;subst hP hw hK;obtain⟨⟨old,he⟩,hi⟩:=st;obtain⟨xs,x,hq,hx⟩:=hg;obtain⟨its,rv,p,hz⟩:=I.list hq;obtain⟨u,hu,ru⟩:=rv.get hx;refine wpAny_pyNext_enum_item he hi p.isList (x:=u) (by simpa using hu) hne λh' out hit' htup hsz kk=>?_
  have hfp:H s.heap.objs.size=none:=I.hok.fresh (PZ _);have nfp:∀b o,H b=some o->b≠e/\b≠it:=λb o q=>⟨λz=>(by rw[z,(hf e (by simp)).1]at q;cases q),λz=>(by rw[z,(hf it (by simp)).1]at q;cases q)⟩
  have I1:Inv X pins σ (upd H s.heap.objs.size (.tup [.int i,x])) { s with heap:=h',toks:=s.toks+1 }:=by
   refine I.step (g':=s.gens) (d':=s.drawn) (ch:=[e,it]) (λb hb=>?_) (λb o _ _ hc q _=>kk b o (λz=>hc (by simp[z])) (λz=>hc (by simp[z])) q)
    (λb o _ _ hc q _=>⟨o.slots,kk b o (λz=>hc (by simp[z])) (λz=>hc (by simp[z])) q⟩) (λb o _ q n=>by rw[upd_ne (Qf (Heap.lt_size q))];exact n)
    (λb o hc q=>⟨o,kk b o (λz=>hc (by simp[z])) (λz=>hc (by simp[z])) q⟩) (λb ys q=>by rw[upd_ne (aD q hfp)];exact q) (λb o ys q=>by rw[upd_ne (aD q hfp)];exact q)
    (λb ps q=>⟨#[],by rw[upd_ne (aD q hfp),q];simp⟩) (λm hm=>?_) (λb o q=>?_) I.bare
   ·obtain⟨f0,f1,f2,f3,f4,f5⟩:=hf b hb;exact⟨f3,f1,f4,f5⟩
   ·obtain⟨o,es',ep',ho,r⟩:=hm;exact⟨o,es',ep',kk _ o (Ne.symm (hf e (by simp)).2.1) (Ne.symm (hf it (by simp)).2.1) ho,r⟩
   ·by_cases hb:b=s.heap.objs.size
    ·subst hb;rw[ak]at q;cases q;exact⟨by show 2<=sizeLine;decide,[.int i s.toks,u],.cons ⟨_,rfl⟩ (.cons ru .nil),⟨_,htup,rfl,_,rfl⟩⟩
    ·rw[upd_ne hb]at q;refine(I.hok b o q).stay (λc v hc z=>?_) (λc z=>by rw[upd_ne (aD z hfp)];exact z) λc ys z=>by rw[upd_ne (aD z hfp)];exact z
     rcases hc with rfl |hc
     ·exact kk c v (nfp c o q).1 (nfp c o q).2 z
     ·exact kk c v (nfp c _ hc).1 (nfp c _ hc).2 z
  refine⟨_,rfl,wpAny_letOwnedTupleGo_enum out λh'' he'' sb=>?_⟩;obtain⟨f0,f1,f2,f3,f4,f5⟩:=hf e (by simp)
  have hen:upd H s.heap.objs.size (.tup [.int i,x]) e=none:=by rw[upd_ne (Qf (Heap.lt_size he))];exact f0
  have I2:=I1.turned (h':=h'') (t':=s.toks+1) (it:=e) (λb o hb q=>(sb.2 b hb).trans q) hen f1 f3 f4 f5;refine⟨.ref s.heap.objs.size,_,I2,rfl,⟨x,_,rfl,hfp,rfl,λys hy=>by rw[I.list_inj hy hq];exact hx⟩,⟨⟨u,?_⟩,hit'.at λo q=>(sb.2 it (Ne.symm hne)).trans q⟩,λb hb=>?_⟩
  ·have:((i+1:Nat):Int)=(i:Int)+1:=by omega
   rw[this];exact he''
  ·have hlt:b<s.heap.objs.size:=by
    rcases P8.mp hb with rfl |hb
    ·exact Heap.lt_size he
    ·have q:b=it:=by simpa using hb
     subst q;obtain⟨o,e1,_⟩:=hi;exact Heap.lt_size e1
   rw[upd_ne (Qf hlt)];exact(hf b hb).1
 done:=by intro X hP hw hK hc i pins s σ H E I hf st hg;subst hP hw hK;obtain⟨⟨old,he⟩,hi⟩:=st;obtain⟨xs,hq,hx⟩:=hg;obtain⟨its,rv,p,hz⟩:=I.list hq;obtain⟨f0,f1,f2,f3,f4,f5⟩:=hf it (by simp);have hl:=rv.length;exact wpAny_pyNext_enum_end (I.ok.hd hc) he hi p.isList (by simp;omega) λh' eb=>⟨rfl,I.turned (t':=s.toks) (λb o hb e=>eb b o hb e) f0 f1 f3 f4 f5⟩
 self:=λ_ _ _ _ _ st h=>by obtain⟨⟨old,he⟩,hi⟩:=st;exact wpAny_pyIter_enum he h
section
variable {X:Cx}
def Ja(K:PySem.W.Frag)(ta:TA):TI:=λσ H R=>ta σ H λvs H1=>∃a,vs=[.ref a]/\(∃xs,SqL K H1 a xs)/\R (Ite K a) H1
theorem oz{es:List Expr}{x1:Nat}{tp:Pos}{a:Expr}{ta:TA}{p pos:Pos}(hg:Gl X "enumerate")(hm:X.mg "enumerate"=none)(ha:PA X [a] ta)(hs:starEach [a] X.env=[(false,eval a X.env)]:=by rfl):PI X (.Tuple es x1 tp) (.Call (.Name "enumerate" p) [a] [] pos) (Ja X.K ta):=by
 intro pins s σ H R I h;refine Call_ (dU I hg hm boot_enumerate (PyProof.Rows.callWith_type1 (thn (ha pos pins s σ H _ I h) λus s1 ⟨vs,H1,I1,r1,q1⟩=>?_) hs rfl));obtain⟨a',e,⟨xs,hq⟩,q⟩:=q1;subst e;obtain⟨u,rfl,ru⟩:=r1.one;cases ru;obtain⟨its,rv,pl,hz⟩:=I1.list hq;refine call_enumerate_list pl.isList λh' he hit hsz hk=>?_
 have I2:Inv X pins σ H1 { s1 with heap:=h' }:=I1.kept (t':=s1.toks) hk;refine wpAny_pyIter_enum he ?_;refine⟨s1.heap.objs.size+1,[s1.heap.objs.size+1,s1.heap.objs.size],_,_,H1,rfl,I2,A5 a' _ _ (Nat.succ_ne_self _),⟨⟨_,he⟩,hit⟩,λb hb=>?_,q⟩
 have hb':s1.heap.objs.size<=b:=by
  rcases P8.mp hb with rfl |hb
  ·exact Nat.le_succ _
  ·have q:b=s1.heap.objs.size:=by simpa using hb
   subst q;exact PZ _
 exact I1.fpOk hb' (I1.hok.fresh hb')
end
theorem sK{K:PySem.W.Frag}{a:Addr}{xs:List V}{g:TG}{tb:TS}{D:Ends}{σ:St}{H:Hp}(Pv:Nat->St->Hp->Prop)(h0:Pv 0 σ H)(hl:∀i σ H,i<=xs.length->Pv i σ H->SqL K H a xs)
 (hs:∀i x σ H p,xs[i]?=some x->Pv i σ H->H p=none->g (.ref p) σ (upd H p (.tup [.int i,x])) λσ2 H2=>tb { D with nx:=Pv (i+1),ct:=Pv (i+1),bk:=D.nx } σ2 H2) (hd:∀σ H,Pv xs.length σ H->D.nx σ H) :
 ∃W:Nat->Nat->St->Hp->Prop,(∃m,W 0 m σ H)/\∀i m σ H,W i m σ H ->
  ((Ite K a).stop i H/\D.nx σ H)\/((Ite K a).go i H/\∃N:St->Hp->Prop,(∀σ' H',N σ' H'->∃m',m'<m/\W (i+1) m' σ' H')/\∀x H',(Ite K a).yld i H x H'->g x σ H' λσ2 H2=>tb { D with nx:=N,ct:=N,bk:=D.nx } σ2 H2):=by
 refine⟨λi m σ H=>m=xs.length-i/\i<=xs.length/\Pv i σ H,⟨xs.length,by simp,P6 _,h0⟩,?_⟩;rintro i m σ H ⟨rfl,hi,p⟩;have q:=hl i σ H hi p;by_cases hlt:i<xs.length
 ·refine .inr ⟨⟨xs,xs[i],q,by simp[hlt]⟩,Pv (i+1),λσ' H' p'=>⟨xs.length-(i+1),by omega,rfl,hlt,p'⟩,λx H' y=>?_⟩;obtain⟨v,r,rfl,hr,rfl,y⟩:=y;exact hs i v σ _ r (y xs q) p hr
 ·have e:i=xs.length:=by omega
  subst e;exact .inl ⟨⟨xs,q,PZ _⟩,hd σ H p⟩
theorem Kz{n:Nat}{js:List Nat}{K:PySem.W.Frag}{a:Addr}{xs:List V}{g:TG}{te:TE}{σ0:St}{H:Hp}{Q:VK}(Pv:Nat->List V->St->Hp->Prop)(hz:xs.length<=sizeLine)(h0:Pv 0 [] (gh n js σ0) H)(hl:∀i ys σ H,i<=xs.length->Pv i ys σ H->SqL K H a xs/\ys.length<=i)
 (hs:∀i x ys σ H p,xs[i]?=some x->Pv i ys σ H->H p=none->g (.ref p) σ (upd H p (.tup [.int i,x])) λσ2 H2=>te σ2 H2 λy H3=>Pv (i+1) (ys++[y]) σ2 H3) (hd:∀ys σ H p,Pv xs.length ys σ H->H p=none->Q (.ref p) (upd H p (.lst ys))) :
 pZ n js g te σ0 Q (Ite K a) H:=by
 refine⟨λi m ys σ H=>m=xs.length-i/\i<=xs.length/\Pv i ys σ H,⟨xs.length,by simp,P6 _,h0⟩,?_⟩;rintro i m ys σ H ⟨rfl,hi,p⟩;obtain⟨q,hy⟩:=hl i ys σ H hi p;by_cases hlt:i<xs.length
 ·refine .inr ⟨⟨xs,xs[i],q,by simp[hlt]⟩,by omega,λy σ'' H''=>Pv (i+1) (ys++[y]) σ'' H'',λy σ' H' p'=>⟨xs.length-(i+1),by omega,rfl,hlt,p'⟩,λx H' y=>?_⟩;obtain⟨v,r,rfl,hr,rfl,y⟩:=y;exact hs i v ys σ _ r (y xs q) p hr
 ·have e:i=xs.length:=by omega
  subst e;exact .inl ⟨⟨xs,q,PZ _⟩,λr hr=>hd ys σ H r p hr⟩
noncomputable def Itv(K:PySem.W.Frag)(a:Addr)(xs:List V):It :=
 ⟨λi H=>SqL K H a xs/\i<xs.length,λi H x H'=>H'=H/\xs[xs.length-1-i]?=some x,λi H=>xs.length<=i⟩
theorem AX{P:Program}{w:World}{K:PySem.W.Frag}{tg:Expr}(a it:Addr)(xs:List V):Turn P w K tg (Itv K a xs) [it] it (λi h=>i<=xs.length/\h.IsRevIter it a ((xs.length:Int)-1-i)) where
 mem:=by simp
 obj:=λi h st b hb=>by
  have e:b=it:=by simpa using hb
  subst e;obtain⟨_,o,e,c,d⟩:=st;exact⟨o,e,λv z=>by rw[d]at z;cases z⟩
 keep:=λi h h' st k=>⟨st.1,st.2.at λo e=>k it (by simp) o e⟩
 item:=by
  intro X hP hw hK hc i pins s σ H E I hf st hg;subst hP hw hK;obtain⟨hq,hlt⟩:=hg;obtain⟨its,rv,p,hz⟩:=I.list hq;have hl:=rv.length;obtain⟨x,hx⟩:∃x,xs[xs.length-1-i]?=some x:=⟨_,List.getElem?_eq_getElem (by omega)⟩;obtain⟨u,hu,ru⟩:=rv.get hx;obtain⟨f0,f1,f2,f3,f4,f5⟩:=hf it (by simp);have e1:(xs.length:Int)-1-i=((xs.length-1-i:Nat):Int):=by omega
  have hit:=st.2;rw[e1]at hit;refine wpAny_pyNext_rev_item hit p.isList (x:=u) (by simpa using hu) λh' st' sb=>?_
  have I1:Inv X pins σ H { s with heap:=h' }:=I.turned (t':=s.toks) (λb o hb e=>(sb.2 b hb).trans e) f0 f1 f3 f4 f5;obtain⟨o,e,c,d⟩:=id st';refine⟨u,rfl,kg (s:={ s with heap:=h' }) e c d (by decide) ⟨x,H,I1,ru,⟨rfl,hx⟩,⟨hlt,?_⟩,λb hb=>(hf b hb).1⟩⟩;have e2:(xs.length:Int)-1-((i+1:Nat):Int)=((xs.length-1-i:Nat):Int)-1:=by omega
  rw[e2];exact st'
 done:=by
  intro X hP hw hK hc i pins s σ H E I hf st hg;subst hP hw hK;obtain⟨f0,f1,f2,f3,f4,f5⟩:=hf it (by simp);have hle:xs.length<=i:=hg;have e1:(xs.length:Int)-1-i = -1:=by have:=st.1;omega
  have hit:=st.2;rw[e1]at hit;exact wpAny_pyNext_rev_end (I.ok.hd hc) hit λh' eb=>⟨rfl,I.turned (t':=s.toks) (λb o hb e=>eb b o hb e) f0 f1 f3 f4 f5⟩
 self:=λ_ _ _ _ _ st h=>wpAny_pyIter_revIter st.2 h
section
variable {X:Cx}{tg:Expr}
def I9(K:PySem.W.Frag)(ta:TA):TI:=λσ H R=>ta σ H λvs H1=>∃a xs,vs=[.ref a]/\SqL K H1 a xs/\R (Itv K a xs) H1
theorem oy{a:Expr}{ta:TA}{p pos:Pos}(hg:Gl X "reversed")(hm:X.mg "reversed"=none)(ha:PA X [a] ta)(hs:starEach [a] X.env=[(false,eval a X.env)]:=by rfl):PI X tg (.Call (.Name "reversed" p) [a] [] pos) (I9 X.K ta):=by
 intro pins s σ H R I h;refine Call_ (dU I hg hm boot_reversed (PyProof.Rows.callWith_type1 (thn (ha pos pins s σ H _ I h) λus s1 ⟨vs,H1,I1,r1,q1⟩=>?_) hs rfl));obtain⟨a',xs,e,hq,q⟩:=q1;subst e;obtain⟨u,rfl,ru⟩:=r1.one;cases ru;obtain⟨its,rv,pl,hz⟩:=I1.list hq;have hl:=rv.length;refine call_reversed_list pl.isList ?_
 have hit:(s1.heap.push (revObj a' ((its.toArray.size:Int)-1))).IsRevIter s1.heap.objs.size a' ((xs.length:Int)-1-((0:Nat):Int)):=by
  have e1:(xs.length:Int)-1-((0:Nat):Int)=(its.toArray.size:Int)-1:=by rw[Ql];omega
  rw[e1];exact⟨_,Heap.get?_push_size _ rfl,rfl,rfl⟩
 have I2:Inv X pins σ H1 { s1 with heap:=s1.heap.push (revObj a' ((its.toArray.size:Int)-1)) }:=I1.kept (t':=s1.toks) λb o e=>Heap.get?_push_of_some _ e
 refine wpAny_pyIter_revIter (s:={ s1 with heap:=s1.heap.push (revObj a' ((its.toArray.size:Int)-1)) }) hit ?_;refine⟨s1.heap.objs.size,[s1.heap.objs.size],_,_,H1,rfl,I2,AX a' _ xs,⟨P6 _,hit⟩,λb hb=>?_,q⟩;have e:b=s1.heap.objs.size:=by simpa using hb
 subst e;exact I1.fpOk (PZ _) (I1.hok.fresh (PZ _))
end
theorem pA{K:PySem.W.Frag}{a:Addr}{xs:List V}{g:TG}{tb:TS}{D:Ends}{σ:St}{H:Hp}(Pv:Nat->St->Hp->Prop)(h0:Pv 0 σ H)(hl:∀i σ H,i<=xs.length->Pv i σ H->SqL K H a xs)
 (hs:∀i x σ H,i<xs.length->xs[xs.length-1-i]?=some x->Pv i σ H->g x σ H λσ2 H2=>tb { D with nx:=Pv (i+1),ct:=Pv (i+1),bk:=D.nx } σ2 H2) (hd:∀σ H,Pv xs.length σ H->D.nx σ H) :
 ∃W:Nat->Nat->St->Hp->Prop,(∃m,W 0 m σ H)/\∀i m σ H,W i m σ H ->
  ((Itv K a xs).stop i H/\D.nx σ H)\/((Itv K a xs).go i H/\∃N:St->Hp->Prop,(∀σ' H',N σ' H'->∃m',m'<m/\W (i+1) m' σ' H')/\∀x H',(Itv K a xs).yld i H x H'->g x σ H' λσ2 H2=>tb { D with nx:=N,ct:=N,bk:=D.nx } σ2 H2):=by
 refine⟨λi m σ H=>m=xs.length-i/\i<=xs.length/\Pv i σ H,⟨xs.length,by simp,P6 _,h0⟩,?_⟩;rintro i m σ H ⟨rfl,hi,p⟩;by_cases hlt:i<xs.length
 ·refine .inr ⟨⟨hl i σ H hi p,hlt⟩,Pv (i+1),λσ' H' p'=>⟨xs.length-(i+1),by omega,rfl,hlt,p'⟩,λx H' y=>?_⟩;obtain⟨e,y⟩:=y;subst e;exact hs i x σ _ hlt y p
 ·have e:i=xs.length:=by omega
  subst e;exact .inl ⟨PZ _,hd σ H p⟩
structure FunD(K:PySem.W.Frag)(x qual:Str)(st:Stmt)(dV:Value)(f:Addr)(fd:FuncData):Prop where
 ex:∃(oc:Value) (od:Option Addr) (kV doc pm:Value) (an:Option Addr) (cdv ct:Value) (osl:Array (Option Value)),
  fd=PySem.W.fnOf x qual (cu st) (bU st) (al st) dV kV doc pm an cdv ct/\K.lookup f=some ⟨oc,od,.func fd,osl⟩/\PySem.W.codeIn K cdv qual=true
 kp:PySem.W.keepIn K (.ref f)=true
section
variable {P:Program}{w:World}{K:PySem.W.Frag}{mg:Str->Option Value}{base:Heap}
theorem FunD.ok{x qual:Str}{st:Stmt}{dV:Value}{f:Addr}{fd:FuncData}{N ps:List Str}{k:Nat}{sp:Sp}(F:FunD K x qual st dV f fd)(S:FnScope N ps (al st))(len:∀vs H Q E,sp vs H Q E->vs.length=ps.length)
 (hbody:∀(cdv:Value) (A:Around) (outer:List Env) (s:Shared) (H:Hp) (vs:List V) (Q:VK) (E:XK),Room k (A.deeper (envOfC qual (al st) s.heap.objs.size f cdv))->sp vs H Q E ->
   ∃t,PSs (bH CX0 P w K mg base N qual (al st) f cdv A outer s H E).nox (bU st) t/\t { nx:=λ_ H'=>Q .non H',rt:=Q } (start N vs) H):FnOk P w K mg base CX0 (k+1) f fd ps sp:=by
 obtain⟨oc,od,kV,doc,pm,an,cdv,ct,osl,rfl,lk,hcd⟩:=F.ex;refine ki lk hcd S len λA outer s H vs Q E hr hsp=>?_
 obtain⟨t,h,q⟩:=hbody cdv A outer s H vs Q E hr hsp;exact⟨t,h.nox,q⟩
theorem FunD.binds{x qual:Str}{st:Stmt}{dV:Value}{f:Addr}{fd:FuncData}{ps:List Str}(F:FunD K x qual st dV f fd)
 (h:∀(kV doc pm:Value) (an:Option Addr) (cdv ct:Value) (us:List Value),us.length=ps.length->bindArgs (PySem.W.fnOf x qual (cu st) (bU st) (al st) dV kV doc pm an cdv ct) ⟨us,[]⟩=pure (ps.zip us)):Binds K fd ps []:=by
 obtain⟨oc,od,kV,doc,pm,an,cdv,ct,osl,rfl,lk,hcd⟩:=F.ex;exact .all (h kV doc pm an cdv ct)
theorem FunD.bindsD{x qual:Str}{st:Stmt}{T:Addr}{f:Addr}{fd:FuncData}{ps:List Str}{ds tup:List Value}{o:Obj}{n:Nat}(m:Nat)(F:FunD K x qual st (.ref T) f fd)(lo:K.lookup T=some o)(hs:o.data=.seq tup.toArray n)(hm:m+ds.length=ps.length)
 (h:∀(kV doc pm:Value) (an:Option Addr) (cdv ct:Value) (us:List Value),us.length=m->∃k:Option (Array Value)->Sem (List (Str×Value)),
   bindArgs (PySem.W.fnOf x qual (cu st) (bU st) (al st) (.ref T) kV doc pm an cdv ct) ⟨us,[]⟩=seqItems? (.ref T) >>= k/\k (some tup.toArray)=pure (ps.zip (us++ds))):Binds K fd ps ds:=by
 obtain⟨oc,od,kV,doc,pm,an,cdv,ct,osl,rfl,lk,hcd⟩:=F.ex;intro s us KX hl;rw[PY]at hl;obtain⟨k,h1,h2⟩:=h kV doc pm an cdv ct us (by omega);exact PySem.W.binds_K (k:=k) KX rfl lo hs h1 h2
theorem yB{x qual:Str}{st:Stmt}{f:Addr}{oc:Value}{od an:Option Addr}{osl:Array (Option Value)}{dV kV doc pm cdv ct:Value}(l:K.lookup f=some ⟨oc,od,.func (PySem.W.fnOf x qual (cu st) (bU st) (al st) dV kV doc pm an cdv ct),osl⟩)
 (c:PySem.W.codeIn K cdv qual=true) (k:PySem.W.keepIn K (.ref f)=true):FunD K x qual st dV f (PySem.W.fnOf x qual (cu st) (bU st) (al st) dV kV doc pm an cdv ct):=⟨⟨oc,od,kV,doc,pm,an,cdv,ct,osl,rfl,l,c⟩,k⟩
end
structure MCal(P:Program)(w:World)(K:PySem.W.Frag)(mg:Str->Option Value)(base:Heap)(k:Nat)(C:Addr)(m:Str)(ps:List Str)(sp:Sp)(f:Addr)(fd:FuncData):Prop where
 ok:FnOk P w K mg base CX0 k f fd ps sp
 mt:Meth K C m f
 bd:Binds K fd ps []
structure KCal(P:Program)(w:World)(K:PySem.W.Frag)(mg:Str->Option Value)(base:Heap)(k:Nat)(C:Addr)(x:Str)(ps:List Str)(sp:Sp)(f:Addr)(fd:FuncData)(ds:List Value)(dvs:List V):Prop where
 ok:FnOk P w K mg base CX0 k f fd ps sp
 mkr:Mk K C f
 mg:mg x=some (.ref C)
 bd:Binds K fd ps []
 bdD:Binds K fd ps ds
 vd:Vals dvs ds
section
variable {prog:Program}{w:World}{A:Around}{E:Value->Shared->Prop}{s:Shared}
theorem Hz:typeLookup (.type "list_reverseiterator") "__len__"=pure none:=by rw[typeLookup_type,builtinLookup_eq_fast];kernel_rfl
theorem HA:typeLookup (.type "list_reverseiterator") "__length_hint__"=pure (some (.builtin "list_reverseiterator.__length_hint__")):=by rw[typeLookup_type,builtinLookup_eq_fast];kernel_rfl
theorem Dg{r:Addr}{Q:Bool->Shared->Prop}(hT:s.TypeIs (.ref r) "list_reverseiterator")(h:Q false s):wpAny (model prog w) A (Builtin.List.listLengthHint (.ref r)) Q E s:=by
 unfold Builtin.List.listLengthHint;refine wpAny_bind (wpAny_specialOf hT Hz ?_);show wpAny _ A (specialOf (Value.ref r) (Str.ofString "__length_hint__") >>= _) _ _ _;refine wpAny_bind (wpAny_specialOf hT HA ?_);generalize hid:("list_reverseiterator.__length_hint__":String)=id0
 wp_delta
 rw[show splitId id0=some ("list_reverseiterator","__length_hint__")from by subst hid;decide +kernel];subst hid;refine wpAny_bind (wpAny_isInstance (T:="list_reverseiterator") (b:=true) hT (by rw[isSubtype_type];kernel_rfl) ?_);refine wpAny_ite_split (λhab=>absurd hab (by decide)) (λ_=>?_);refine wpAny_ite_split (λ_=>?_) (λhab=>absurd (by decide +kernel) hab);refine wpAny_ite_split (λhab=>absurd hab (by decide +kernel)) (λ_=>?_);exact wpAny_pure h
theorem Dh{R:Result->Shared->Prop}{I l:Addr}{items:Array Value}(hh:A.handled=none)(hit:s.heap.IsRevIter I l ((items.size:Int)-1))(hl:s.heap.IsList l items)(hne:l≠I)(S:Addr)(hSI:S≠I)(hSl:S≠l)(res:Value)(c₀:Nat)
 (hS:s.heap.get? S=some { cls:=.type "list",data:=.seq #[] c₀ })
 (hR:∀h' tk acc' c',(∀b o,b≠S->b≠I->s.heap.get? b=some o->h'.get? b=some o)->h'.get? S=some { cls:=.type "list",dict:=none,data:=.seq acc' c',slots:=#[] }->ItemsOf (λi v=>items[items.size-1-i]?=some v) acc' items.size->R (.ok (.ret res)) { s with heap:=h',toks:=tk }) (hn:items.size<=sizeLine) :
 wpAny (model prog w) A.in1 (Builtin.List.listExtendWith (.ref S) (.ref I) res)
  (λfin s'=>match fin with |.done f=>R (.ok f) s' |.again c'=>c'.quiet=true/\codeAny (model prog w) A c' R s') (λe s'=>R (.error e) s') s:=by
 have hSf:S∉[I,l]:=by simp only[P8,Qv,or_false,not_or];exact⟨hSI,hSl⟩
 have W:=Walks.listRev (prog:=prog) (w:=w) (A:=A.in1) hh I l hne items;have st:0<=items.size/\s.heap.IsRevIter I l ((items.size:Int)-1-((0:Nat):Int))/\s.heap.IsList l items:=⟨P6 _,by rw[show(items.size:Int)-1-((0:Nat):Int)=(items.size:Int)-1 by omega];exact hit,hl⟩;unfold Builtin.List.listExtendWith;refine wpAny_bind (wpAny_typeOf (T:="list_reverseiterator") hit.typeIs ?_);have h1:Builtin.List.listSameRef (.ref S) (.ref I)=false:=by simp[Builtin.List.listSameRef,hSI]
 have h2:(Value.type "list_reverseiterator" == Value.type "list")=false:=by decide
 have h3:(Value.type "list_reverseiterator" == Value.type "tuple")=false:=by decide
 simp only[h1,h2,h3,Bool.or_false,Bool.false_eq_true,if_false];refine wpAny_bind (wpAny_pyIter_revIter hit ?_);refine wpAny_bind (wpAny_holding (Dg hit.typeIs ?_));refine wpAny_ite_split (λhab=>absurd hab (by decide)) (λ_=>wpAny_pure ⟨plainId_quiet PySem.F.plain_extend_loop _,?_⟩);refine codeAny_extend_loopS W.toS hn S hSf res items.size 0 _ #[] c₀ rfl (P6 _) st hS (ItemsOf.nil _) λs' acc' c' hm hS' hacc=>?_
 rw[Moved.eq_with hm];refine hR s'.heap s'.toks acc' c' (λb o hb hb' e=>hm.heap b o (λhmem=>?_) e) hS' hacc;rcases P8.mp hmem with e' |hmem
 ·exact hb e'
 ·exact hb' (Qc.mp hmem)
theorem Df{R:Result->Shared->Prop}{I l:Addr}{items:Array Value}(hh:A.handled=none)(hit:s.heap.IsRevIter I l ((items.size:Int)-1))(hl:s.heap.IsList l items)(hne:l≠I)(S:Addr)(hSI:S≠I)(hSl:S≠l)
 (hS:s.heap.get? S=some { cls:=.type "list",data:=.seq #[] })
 (hR:∀h' tk acc' c',(∀b o,b≠S->b≠I->s.heap.get? b=some o->h'.get? b=some o)->h'.get? S=some { cls:=.type "list",dict:=none,data:=.seq acc' c',slots:=#[] }->ItemsOf (λi v=>items[items.size-1-i]?=some v) acc' items.size->R (.ok (.ret .none)) { s with heap:=h',toks:=tk }) (hn:items.size<=sizeLine) :
 wpAny (model prog w) A.in1 (Builtin.«list.__init__» ⟨[.ref S,.ref I],[]⟩)
  (λfin s'=>match fin with |.done f=>R (.ok f) s' |.again c'=>c'.quiet=true/\codeAny (model prog w) A c' R s') (λe s'=>R (.error e) s') s:=by
 show wpAny _ _ (do let old <- Builtin.List.listItems (.ref S);Builtin.List.listUpdate (.ref S) (λ_=>#[]);letGo old.toList.reverse;Builtin.List.listExtendWith (.ref S) (.ref I) .none) _ _ s;refine wpAny_bind ?_;unfold Builtin.List.listItems;refine wpAny_bind (wpAny_seqItems hS rfl (wpAny_pure ?_));show wpAny _ _ (updateSeq S (λ_=>#[]) >>= λ_=>letGo (#[]:Array Value).toList.reverse >>= λ_=>Builtin.List.listExtendWith (.ref S) (.ref I) .none) _ _ s;refine wpAny_bind (wpAny_updateSeq hS rfl ?_);have hS₂:=Heap.get?_update_self (Obj.mapSeq (λ_=>(#[]:Array Value))) hS rfl
 have oth:∀b o,b≠S->s.heap.get? b=some o->(s.heap.update S (Obj.mapSeq (λ_=>(#[]:Array Value)))).get? b=some o :=
  λb o hb e=>(Heap.get?_update_other _ _ (Ne.symm hb)).trans e
 refine wpAny_bind (wpAny_letGo ?_);refine Dh hh (hit.at λo e=>oth I o hSI.symm e) (hl.at λo e=>oth l o hSl.symm e) hne S hSI hSl .none _ hS₂ (λh' tk acc' c' hk hS' hacc=>?_) hn;exact hR h' tk acc' c' (λb o hb hb' e=>hk b o hb hb' (oth b o hb e)) hS' hacc
theorem Di{Q:Value->Shared->Prop}{I l:Addr}{items:Array Value}(hh:A.handled=none)(hit:s.heap.IsRevIter I l ((items.size:Int)-1))(hl:s.heap.IsList l items)(hne:l≠I)(hn:items.size<=sizeLine)
 (hQ:∀h' tk acc' c',(∀b o,b≠I->s.heap.get? b=some o->h'.get? b=some o)->h'.get? s.heap.objs.size=some { cls:=.type "list",dict:=none,data:=.seq acc' c',slots:=#[] }->ItemsOf (λi v=>items[items.size-1-i]?=some v) acc' items.size->Q (.ref s.heap.objs.size) { s with heap:=h',toks:=tk }) :
 wpAny (model prog w) A (call (.type "list") [.ref I]) Q E s:=by
 refine callType_codes (Q₁:=λobj s₁=>obj=.ref s.heap.objs.size/\s₁={ s with heap:=s.heap.push { cls:=.type "list",data:=.seq #[] } }) PySem.F.called_list (PySem.F.typeCall_list_1 _) PySem.F.entry_list_init
  (code_list_new _ ⟨rfl,rfl⟩) λobj s₁ h₁=>?_
 obtain⟨rfl,rfl⟩:=h₁;have hS:(s.heap.push { cls:=.type "list",data:=.seq #[] }).get? s.heap.objs.size=some { cls:=.type "list",data:=.seq #[] }:=Heap.get?_push_size _ rfl;have hI:I<s.heap.objs.size:=by obtain⟨o,e,_⟩:=hit;exact Heap.lt_size e
 have hl':l<s.heap.objs.size:=by obtain⟨o,e,_⟩:=hl;exact Heap.lt_size e
 refine⟨⟨_,hS,rfl⟩,PySem.F.args_list_init_2 _ _,Df (A:=A.in1) hh (hit.at λo e=>Heap.get?_push_of_some _ e) (hl.at λo e=>Heap.get?_push_of_some _ e) hne _ (Nat.ne_of_gt hI) (Nat.ne_of_gt hl') hS (λh' tk acc' c' hk hS' hacc=>?_) hn⟩;exact⟨rfl,hQ h' tk acc' c' (λb o hb e=>hk b o (Qf (Heap.lt_size e)) hb (Heap.get?_push_of_some _ e)) hS' hacc⟩
end
theorem De{xs:List V}{its:List Value}{acc:Array Value}(r:Vals xs its)(h:ItemsOf (λi v=>its.toArray[its.toArray.size-1-i]?=some v) acc its.toArray.size):Vals xs.reverse acc.toList:=by
 have e:acc.toList=its.reverse:=by
  apply List.ext_getElem?;intro i;have hs:acc.size=its.length:=by have:=h.1;simpa using this
  by_cases hi:i<its.length
  ·obtain⟨v,hv⟩:∃v,acc[i]?=some v:=⟨_,Array.getElem?_eq_getElem (by omega)⟩;have q:=h.2 i v hv;rw[List.getElem?_reverse hi,Array.getElem?_toList,hv];simpa using q.symm
  ·rw[List.getElem?_eq_none_iff.mpr (by simp;omega),List.getElem?_eq_none_iff.mpr (by simp;omega)]
 rw[e];exact r.reverse
section
variable {X:Cx}{K:PySem.W.Frag}
def BA(K:PySem.W.Frag)(ta:TA):TE:=λσ H Q=>ta σ H λvs H1=>∃a xs,vs=[.ref a]/\SqL K H1 a xs/\∀p,H1 p=none->Q (.ref p) (upd H1 p (.lst xs.reverse))
theorem qY{a:Expr}{ta:TA}{p1 p2 pos1 pos2:Pos}(hK:X.K=K)(hc:X.calm=true)(hg:Gl X "list")(hm:X.mg "list"=none)(hg2:Gl X "reversed")(hm2:X.mg "reversed"=none)(ha:PA X [a] ta)(hs:starEach [a] X.env=[(false,eval a X.env)]:=by rfl)
 (hs2:starEach [.Call (.Name "reversed" p2) [a] [] pos2] X.env=[(false,eval (.Call (.Name "reversed" p2) [a] [] pos2) X.env)]:=by rfl):PE X (.Call (.Name "list" p1) [.Call (.Name "reversed" p2) [a] [] pos2] [] pos1) (BA K ta):=by
 subst hK;intro pins s σ H Q I h;refine Call_ (dU I hg hm PyProof.Rows.boot_list (PyProof.Rows.callWith_type1 ?_ hs2 rfl));rw[hs2];show wpAny _ _ (spliced ((false,eval (.Call (.Name "reversed" p2) [a] [] pos2) X.env)::[])) _ _ s;refine Calls.spliced_cons (Call_ (dU I hg2 hm2 boot_reversed (PyProof.Rows.callWith_type1 (thn (ha pos2 pins s σ H _ I h) λus s1 ⟨vs,H1,I1,r1,q1⟩=>?_) hs rfl)));obtain⟨a',xs,e,hq,q⟩:=q1;subst e;obtain⟨u,rfl,ru⟩:=r1.one;cases ru;obtain⟨its,rv,pl,hz⟩:=I1.list hq;have hlen:=rv.length;refine call_reversed_list pl.isList (Calls.spliced_nil ?_);have hlt:a'<s1.heap.objs.size:=by obtain⟨o,e,_⟩:=pl.isList;exact Heap.lt_size e
 refine Di (s:={ s1 with heap:=s1.heap.push (revObj a' ((its.toArray.size:Int)-1)) }) (I.ok.hd hc) ⟨_,Heap.get?_push_size _ rfl,rfl,rfl⟩ (pl.isList.at λo e=>Heap.get?_push_of_some _ e) (Qf hlt) (by rw[Ql];omega) λh' tk acc' c' hk hS' hacc=>?_
 have hsz:(s1.heap.push (revObj a' ((its.toArray.size:Int)-1))).objs.size=s1.heap.objs.size+1:=Heap.size_push ..;have kept:∀b o,s1.heap.get? b=some o->h'.get? b=some o:=λb o e=>hk b o (Qf (Heap.lt_size e)) (Heap.get?_push_of_some _ e)
 have hge:s1.heap.objs.size<=(s1.heap.push (revObj a' ((its.toArray.size:Int)-1))).objs.size:=by rw[hsz];exact Nat.le_succ _
 have hf:H1 (s1.heap.push (revObj a' ((its.toArray.size:Int)-1))).objs.size=none:=I1.hok.fresh hge;have rvv:=De rv hacc;refine⟨.ref _,_,I1.laid (t':=tk) kept hge ?_,rfl,q _ hf⟩;exact⟨by rw[QK];exact hz,acc'.toList,c',rvv,by rw[Array.toArray_toList];exact hS'⟩
theorem DZ{pos:Pos}{es:List Expr}{k:Nat}{t:TGs}{n:Nat}(hK:X.K=K)(hc:X.calm=true)(h:PGs X es t)(hn:(assignEach es X.env).length=n)(hst:(assignEach es X.env).findIdx? (·.1)=none):PG X (.Tuple es k pos) (yz K n t):=by subst hK;exact oB hc h hn hst
end
noncomputable def CXW(P:Program)(w:World):CXT:=λouter H s E e s'=>∃(ea:Addr) (cls a0:Value) (B:Heap) (H':Hp),e=.ref ea/\s'.os=s.os/\AllBare s'.gens/\Un (frs outer) [] H H' s.heap s'.heap/\HOk P w H' s'.heap /\
 Heap.FlyingW B outer ea cls a0 s'.heap/\(∀b o,s.heap.get? b=some o->b∉frs outer->∃o',s'.heap.get? b=some o'/\B.get? b=some o')/\(∀b x,H' b=some x->∃o',s'.heap.get? b=some o'/\B.get? b=some o')/\H' ea=none/\s.heap.get? ea=none/\E cls none H'
theorem Un.back{fs:List Addr}{H H1:Hp}{h h1 h2:Heap}(u:Un fs [] H H1 h h1)(k:∀b o,h.get? b=some o->b∉fs->∃o',h1.get? b=some o'/\h2.get? b=some o')
 (hf:∀b∈fs,H b=none) (hd:∀b∈fs,∀o,h1.get? b=some o->∀vs,o.data≠.fields vs) (sl:h1.UpToSlots h2):Un fs [] H H1 h h2 where
 keep:=λb o e n hb hx=>by obtain⟨o',e1,e2⟩:=k b o e hb;rw[u.keep b o e n hb hx]at e1;cases e1;exact e2
 slot:=λb o e n hb hx=>by obtain⟨s1,e1⟩:=u.slot b o e n hb hx;obtain⟨s2,e2⟩:=sl b _ e1 (hd b hb _ e1);exact⟨s2,e2⟩
 free:=u.free
 there:=λb o e hx=>by
  by_cases hb:b∈fs
  ·obtain⟨s1,e1⟩:=u.slot b o e (hf b hb) hb hx;obtain⟨s2,e2⟩:=sl b _ e1 (hd b hb _ e1);exact⟨_,e2⟩
  ·obtain⟨o',_,e2⟩:=k b o e hb;exact⟨o',e2⟩
 tups:=u.tups
 frzs:=u.frzs
 tbls:=u.tbls
theorem HOk.back{P:Program}{w:World}{H:Hp}{h h' B:Heap}(x:HOk P w H h)(k:∀b y,H b=some y->∃o',h.get? b=some o'/\B.get? b=some o')(st:B.StaysIn h'):HOk P w H h':=λa o e=>by
 refine(x a o e).stay (λb u hb q=>?_) (λ_ z=>z) λ_ _ z=>z
 have hn:∃y,H b=some y:=by
  rcases hb with rfl |hb
  ·exact⟨_,e⟩
  ·exact⟨_,hb⟩
 obtain⟨y,hy⟩:=hn;obtain⟨o',e1,e2⟩:=k b y hy;rw[q]at e1;cases e1;exact st _ _ e2
theorem wY{P:Program}{w:World}{H:Hp}{h:Heap}{a:Addr}{o:HO}(x:ObjOk P w H h a o):∃u,h.get? a=some u:=by
 induction o with
 |lst xs=>obtain⟨_,_,_,_,e⟩:=x;exact⟨_,e⟩
 |tup xs=>obtain⟨z,its,r,ob,e,c⟩:=x;exact⟨_,e⟩
 |dK kvs=>obtain⟨z,y,vs,r,ob,es,ep,e,c⟩:=x;exact⟨_,e⟩
 |dT kvs=>obtain⟨z,y,xs,r,ob,es,ep,e,c⟩:=x;exact⟨_,e⟩
 |set S n=>obtain⟨ob,es,ep,t,e,c⟩:=x;exact⟨_,e⟩
 |ins C dx fs=>obtain⟨d,z,ne,e,_⟩:=x;exact⟨_,e⟩
 |own y=>obtain⟨ob,e⟩:=x;exact⟨_,e⟩
 |xd fs=>obtain⟨mA,⟨od,es,ep,e,c⟩,r⟩:=x;exact⟨_,e⟩
 |rng lo hi=>obtain⟨t,u,v,e⟩:=x;exact⟨_,e⟩
 |frz ob u ih=>exact⟨_,x.1⟩
 |tbl ps=>exact⟨_,x⟩
 |met f y=>exact⟨_,x⟩
 |ext φ=>obtain⟨p,⟨o,e⟩,st⟩:=x;exact⟨_,e⟩
theorem sI{env:Env}{outer:List Env}{L:Addr}(h:env.frame=some L):frs (env::outer)=L::frs outer:=by unfold frs;rw[RI,h]
section
variable {P:Program}{w:World}{K:PySem.W.Frag}{mg:Str->Option Value}{base:Heap}{N:List Str}{qual:Str}{scope:Scope}{f:Addr}{cd:Value}{A:Around}{outer:List Env}{s:Shared}{H:Hp}{E:XK}{pins:List (Addr×Obj)}{σ:St}{H1:Hp}{s1:Shared}
theorem Jw(I:Inv (bH (CXW P w) P w K mg base N qual scope f cd A outer s H E) pins σ H1 s1):∀b∈frs outer,∀o,s1.heap.get? b=some o->∀vs,o.data≠.fields vs:=λb hb o e=>by obtain⟨_,o',e',hd⟩:=I.funs.mem hb;have e'':s1.heap.get? b=some o':=e';rw[e]at e'';cases e'';exact hd
theorem AH{E':XK}{e:Value}{s2:Shared}(I:Inv (bH (CXW P w) P w K mg base N qual scope f cd A outer s H E) pins σ H1 s1)(h:CXW P w (bH (CXW P w) P w K mg base N qual scope f cd A outer s H E).stack H1 s1 E' e s2)(hE:∀c d H',E' c d H'->E c d H') :
 (bH (CXW P w) P w K mg base N qual scope f cd A outer s H E).xe e s2:=by
 obtain⟨ea,cls,a0,B,H2,rfl,os,bare,un,hok,fl,b1,b2,he,hn,hE'⟩:=h;have J:Inv (bH (CXW P w) P w K mg base N qual scope f cd A outer s H E) pins σ H2 s2:=I.call' os un hok bare (λb hb=>nomatch hb);have hfrm:(envOfC qual scope s.heap.objs.size f cd).frame=some s.heap.objs.size:=rfl;have efr:frs (envOfC qual scope s.heap.objs.size f cd::outer)=s.heap.objs.size::frs outer:=sI hfrm
 have b1':∀b o,s.heap.get? b=some o->b∉frs outer->∃o',s2.heap.get? b=some o'/\B.get? b=some o':=λb o q hb=>by
  obtain⟨o',q'⟩:=I.base.there b o q (λz=>nomatch z);refine b1 b o' q' ?_;show b∉frs (envOfC qual scope s.heap.objs.size f cd::outer);rw[efr];intro z;rcases P8.mp z with z |z
  ·exact absurd (Heap.lt_size q) (by rw[z];exact Qt _)
  ·exact hb z
 refine wpAny_leaves_onW (L:=s.heap.objs.size) I.ok.frames hfrm fl λh'' fl' up=>?_
 refine⟨ea,cls,a0,B,H2,rfl,J.os,J.bare,?_,J.hok.back b2 fl'.1,fl',λb o q hb=>?_,λb x q=>?_,he,?_,hE _ _ _ hE'⟩
 ·exact J.base.back (λb o q hb=>let⟨o',q1,q2⟩:=b1' b o q hb;⟨o',q1,fl'.1 _ _ q2⟩) I.ok.frf (Jw J) up
 ·obtain⟨o',q1,q2⟩:=b1' b o q hb;exact⟨o',fl'.1 _ _ q2,q2⟩
 ·obtain⟨o',q1,q2⟩:=b2 b x q;exact⟨o',fl'.1 _ _ q2,q2⟩
 ·cases q:s.heap.get? ea with
  |none=>rfl
  |some o=>obtain⟨o',q'⟩:=I.base.there ea o q (λz=>nomatch z);rw[hn]at q';cases q'
def Bq(E:XK)(c:Value):TS:=λ_ _ H=>E c none H
end
noncomputable def iX(lo:Int)(n:Nat):It:=⟨λi _=>i<n,λi H x H'=>H'=H/\x=.int (lo+i * -1),λi _=>n<=i⟩
theorem AY{P:Program}{w:World}{K:PySem.W.Frag}{tg:Expr}(it:Addr)(lo:Int)(n:Nat):Turn P w K tg (iX lo n) [it] it (λi h=>IsRangeIter h it (lo+(i:Nat) * -1) ((n:Int)-(i:Nat)) (-1)) where
 mem:=by simp
 obj:=λi h st b hb=>by
  have e:b=it:=by simpa using hb
  subst e
  exact⟨_,st,λv z=>by
   have z':Data.fields _=Data.cell v:=z
   cases z'⟩
 keep:=λi h h' st k=>k it (by simp) _ st
 item:=by
  intro X hP hw hK hc i pins s σ H E I hf st hg;subst hP hw hK;obtain⟨f0,f1,f2,f3,f4,f5⟩:=hf it (by simp);have W:=Walks.range (prog:=X.prog) (w:=X.w) (I.ok.hd hc) it lo (-1) n;refine W.item i s _ _ hg st λv h' tk hv st' kk=>?_
  obtain⟨t,rfl⟩:=hv;have I1:Inv X pins σ H { s with heap:=h',toks:=tk }:=I.turned (λb o hb e=>kk b o (by simpa using hb) e) f0 f1 f3 f4 f5;exact⟨_,rfl,kg (s:={ s with heap:=h',toks:=tk }) (n:="range_iterator") st' rfl rfl (by decide) ⟨.int (lo+i * -1),H,I1,⟨t,rfl⟩,⟨rfl,rfl⟩,st',λb hb=>(hf b hb).1⟩⟩
 done:=by intro X hP hw hK hc i pins s σ H E I hf st hg;subst hP hw hK;obtain⟨f0,f1,f2,f3,f4,f5⟩:=hf it (by simp);exact wpAny_pyNext_range_end (I.ok.hd hc) st (by have:n<=i:=hg;omega) λh' eb=>⟨rfl,I.turned (t':=s.toks) (λb o hb e=>eb b o hb e) f0 f1 f3 f4 f5⟩
 self:=λ_ _ _ _ _ st h=>wpAny_pyIter_rangeiter st h
theorem wE(a b:Int):Builtin.Range.rangeSize a b (-1)=if b<a then a-b else 0:=by unfold Builtin.Range.rangeSize;rw[if_neg (by decide)];show(if a>b then(a-b-1)/1+1 else 0)=_;rw[Rr];split<;>omega
theorem BO{a b:Int}(ha : -(2^61)<=a)(ha':a<2^61)(hb : -(2^61)<=b)(hb':b<2^61):Builtin.Range.small a b (-1)=true:=by unfold Builtin.Range.small;rw[wE];simp only[Builtin.Range.rangeFitsLong,Rq,Bool.or_eq_true,decide_eq_true_eq,beq_iff_eq,show ¬((-1:Int)>0) by decide,if_false];split<;>omega
section
variable {X:Cx}{tg:Expr}
theorem Du{pins:List (Addr×Obj)}{σ:St}{H:Hp}{s:Shared}{R:It->Hp->Prop}{E:Value->Shared->Prop}{lo hi:Int}{t u v:Tok}{tk:Nat}(I:Inv X pins σ H s)(h1 : -(2^61)<=lo)(h2:lo<2^61)(h3 : -(2^61)<=hi)(h4:hi<2^61)
 (q:R (iX lo (lo-hi).toNat) H):wpAny (model X.prog X.w) X.A (pyIter (.ref s.heap.objs.size)) (PIE X pins σ tg R) E { s with heap:=s.heap.push { cls:=.type "range",data:=.fields #[.int lo t,.int hi u,.int (-1) v] },toks:=tk }:=by
 refine wpAny_pyIter_range (IsRange.new ..) (BO h1 h2 h3 h4) ?_;have I1:Inv X pins σ H { s with heap:=s.heap.push { cls:=.type "range",data:=.fields #[.int lo t,.int hi u,.int (-1) v] },toks:=tk }:=I.kept λb o e=>Heap.get?_push_of_some _ e
 refine⟨(s.heap.push { cls:=.type "range",data:=.fields #[.int lo t,.int hi u,.int (-1) v] }).objs.size,[(s.heap.push { cls:=.type "range",data:=.fields #[.int lo t,.int hi u,.int (-1) v] }).objs.size],_,_,H,rfl,
  I1.kept (t':=tk) λb o e=>Heap.get?_push_of_some _ e,AY _ lo (lo-hi).toNat,?_,λb hb=>?_,q⟩
 ·have e1:lo+((0:Nat):Int) * -1=lo:=by simp
  have e2:(((lo-hi).toNat:Nat):Int)-((0:Nat):Int)=Builtin.Range.rangeSize lo hi (-1):=by rw[wE];split<;>omega
  show IsRangeIter _ _ (lo+((0:Nat):Int) * -1) ((((lo-hi).toNat:Nat):Int)-((0:Nat):Int)) (-1);rw[e1,e2];exact Heap.get?_push_size _ rfl
 ·have e:b=(s.heap.push { cls:=.type "range",data:=.fields #[.int lo t,.int hi u,.int (-1) v] }).objs.size:=by simpa using hb
  subst e;exact I1.fpOk (PZ _) (I1.hok.fresh (PZ _))
def IY(ta:TA):TI:=λσ H R=>ta σ H λvs H1=>∃i j:Int,vs=[.int i,.int j,.int (-1)]/\(-(2^61)<=i/\i<2^61 /\ -(2^61)<=j/\j<2^61)/\R (iX i (i-j).toNat) H1
theorem qW{a b c:Expr}{ta:TA}{p pos:Pos}(hg:Gl X "range")(hm:X.mg "range"=none)(ha:PA X [a,b,c] ta)(hs:starEach [a,b,c] X.env=[(false,eval a X.env),(false,eval b X.env),(false,eval c X.env)]:=by rfl)(hs2:starEach [b,c] X.env=[(false,eval b X.env),(false,eval c X.env)]:=by rfl) :
 PI X tg (.Call (.Name "range" p) [a,b,c] [] pos) (IY ta):=by
 intro pins s σ H R I h;refine Call_ (dU I hg hm boot_range (PyProof.Rows.callWith_type1 (thn (ha pos pins s σ H _ I h) λus s1 ⟨vs,H1,I1,r1,q1⟩=>?_) (by rw[hs,hs2]) (by rw[hs2];rfl)));obtain⟨i,j,e,⟨q1,q2,q3,q4⟩,q⟩:=q1;subst e;cases r1 with
 |cons r rr =>
  cases rr with
  |cons r' rr =>
   cases rr with
   |cons r'' rr =>cases rr;obtain⟨t,rfl⟩:=r;obtain⟨t',rfl⟩:=r';obtain⟨t'',rfl⟩:=r'';exact call_range_3 (by decide) (Du I1 q1 q2 q3 q4 q) (Or.inl (PyProof.noPylong_small (by decide)))
end
theorem sJ{lo:Int}{n:Nat}{g:TG}{tb:TS}{D:Ends}{σ:St}{H:Hp}(Pv:Nat->St->Hp->Prop)(h0:Pv 0 σ H)
 (hs:∀i σ H,i<n->Pv i σ H->g (.int (lo+i * -1)) σ H λσ2 H2=>tb { D with nx:=Pv (i+1),ct:=Pv (i+1),bk:=D.nx } σ2 H2) (hd:∀σ H,Pv n σ H->D.nx σ H) :
 ∃W:Nat->Nat->St->Hp->Prop,(∃m,W 0 m σ H)/\∀i m σ H,W i m σ H ->
  ((iX lo n).stop i H/\D.nx σ H)\/((iX lo n).go i H/\∃N:St->Hp->Prop,(∀σ' H',N σ' H'->∃m',m'<m/\W (i+1) m' σ' H')/\∀x H',(iX lo n).yld i H x H'->g x σ H' λσ2 H2=>tb { D with nx:=N,ct:=N,bk:=D.nx } σ2 H2):=by
 refine⟨λi m σ H=>m=n-i/\i<=n/\Pv i σ H,⟨n,by simp,P6 _,h0⟩,?_⟩;rintro i m σ H ⟨rfl,hi,p⟩;by_cases hlt:i<n
 ·refine .inr ⟨hlt,Pv (i+1),λσ' H' p'=>⟨n-(i+1),by omega,rfl,hlt,p'⟩,λx H' y=>?_⟩;obtain⟨e,y⟩:=y;subst e y;exact hs i σ _ hlt p
 ·have e:i=n:=by omega
  subst e;exact .inl ⟨PZ _,hd σ H p⟩
section
variable {X:Cx}{K:PySem.W.Frag}
end
section
variable {X:Cx}
end
end L2
namespace RM
open PySem
end RM
namespace L2
open PySem PySem.Spec PyProof.Rows
section
variable {X:Cx}{e:Env}{l:List Env}
theorem wy{pins:List (Addr×Obj)}{σ:St}{H:Hp}{s:Shared}(hs:X.base.NoSeer)(ht:X.prog.given.tree=none)(hd:X.A.depth+100<recursionLimit)(hst:X.stack=e::l)(h1:e.scope.isGenerator=false)(h2:e.scope.isCoroutine=false)(h3:e.builtins=builtinsNs)(h4:e.globals=mainGlobals)(I:Inv X pins σ H s):PylongRoom (model X.prog X.w) X.A s :=
 PylongRoom.of (I.ok.mod.nolimit.keeps I.bk) hd (SeerAt.of (hs.keeps I.bk) ht (by rw[I.ok.frames,hst]) h1 h2 h3 h4)
theorem Ef(hs:X.base.NoSeer)(ht:X.prog.given.tree=none)(hd:X.A.depth+100<recursionLimit)(hst:X.stack=e::l)(h1:e.scope.isGenerator=false)(h2:e.scope.isCoroutine=false)(h3:e.builtins=builtinsNs)(h4:e.globals=mainGlobals):OpR X (binaryOp .FloorDiv) (rI (λ_ j=>0<j) λi j=>.int (i/j)):=by intro pins s σ H x y v u Q I rx ry h;obtain⟨i,j,rfl,rfl,hj,q⟩:=h;obtain⟨t,rfl⟩:=rx;obtain⟨t',rfl⟩:=ry;have hj':(0:Int)<j:=hj;refine floordiv_int (P9 hj') ?_ (.inr (wy hs ht hd hst h1 h2 h3 h4 I));rw[Int.fdiv_eq_ediv_of_nonneg _ (Qo hj')];exact⟨.int (i/j),H,I.tok _,⟨_,rfl⟩,q⟩
theorem Ee(hs:X.base.NoSeer)(ht:X.prog.given.tree=none)(hd:X.A.depth+100<recursionLimit)(hst:X.stack=e::l)(h1:e.scope.isGenerator=false)(h2:e.scope.isCoroutine=false)(h3:e.builtins=builtinsNs)(h4:e.globals=mainGlobals):OpR X (binaryOp .FloorDiv) (rI (λ_ j=>j≠0) λi j=>.int (i.fdiv j)):=by intro pins s σ H x y v u Q I rx ry h;obtain⟨i,j,rfl,rfl,hj,q⟩:=h;obtain⟨t,rfl⟩:=rx;obtain⟨t',rfl⟩:=ry;refine floordiv_int hj ?_ (.inr (wy hs ht hd hst h1 h2 h3 h4 I));exact⟨.int (i.fdiv j),H,I.tok _,⟨_,rfl⟩,q⟩
end
theorem LS(a v:Value):argsOk "max" ⟨[a],[(Str.ofString "default",v)]⟩:=by unfold argsOk;kernel_rfl
def Top(val:Nat->Int)(n:Nat)(M:Int):Prop:=(∃i,i<n/\val i=M)/\∀i,i<n->val i<=M
theorem Top.more{val:Nat->Int}{n:Nat}{M:Int}(h:Top val n M)(hn:val n>M):Top val (n+1) (val n) :=
 ⟨⟨n,by omega,rfl⟩,λi hi=>by
   by_cases e:i=n
   ·subst e;exact Int.le_refl _
   ·have:=h.2 i (by omega);omega⟩
theorem Top.less{val:Nat->Int}{n:Nat}{M:Int}(h:Top val n M)(hn:¬val n>M):Top val (n+1) M :=
 ⟨let⟨i,hi,e⟩:=h.1;⟨i,by omega,e⟩,λi hi=>by
  by_cases e:i=n
  ·subst e;omega
  ·exact h.2 i (by omega)⟩
section
variable {prog:Program}{w:World}{A:Around}{R:Result->Shared->Prop}{I S:Addr}{fp wr:List Addr}{n:Nat}{P:Nat->Value->Prop}{St:Nat->Heap->Prop}{val:Nat->Int}{d:Value}
theorem pd:(toString "max"++toString ".loop":String)="max.loop":=by decide
theorem GG(W:Walks prog w A.in1 I fp wr n P St)(hval:∀i v,P i v->∃t,v=.int (val i) t)(hSf:S∉fp) :
 ∀(k j:Nat) (s:Shared) (m:Int) (t:Tok) (c:Nat),n-j=k->j<=n->St j s.heap->Top val j m ->
 s.heap.get? S=some { cls:=.type "list",dict:=none,data:=.seq #[.int m t,.int m t] c,slots:=#[] } ->
 (∀M t h' tk,Top val n M->(∀b o,b∉wr->b≠S->s.heap.get? b=some o->h'.get? b=some o)->R (.ok (.ret (.int M t))) { s with heap:=h',toks:=tk }) ->
 codeAny (model prog w) A (.builtin "max.loop" ⟨[.ref I,.none,.ref S],[("default",d)]⟩) R s:=by
 have hSw:S∉wr:=λh=>hSf (W.sub _ h)
 have cm:=CmpOf.ints_gt (prog:=prog) (w:=w) (A:=A.in1) (P:=λi v=>∃t,v=.int (val i) t) val (λ_ _ h=>h);intro k
 induction k with
 |zero =>
  intro j s m t c hk hj hst hT hS hR;have hin:j=n:=by omega
  subst hin;refine codeAny_builtin F.entry_max_loop ?_;rw[Around.under_plainId F.plain_max_loop _];refine wpAny_bind (wpAny_seqItems hS rfl ?_);show wpAny _ A.in1 (tryCatch (pyNext (.ref I)) _ >>= _) _ _ s;refine wpAny_bind (wpAny_tryCatch (W.done s _ _ hst λh' tk hk'=>?_));show wpAny _ A.in1 (updateSeq S (λ_=>#[]) >>= _) _ _ _;refine wpAny_bind (wpAny_updateSeq (hk' S _ hSw hS) rfl (wpAny_bind (wpAny_letGo (wpAny_pure ?_))));exact hR m t _ tk hT λb o hb hbS e=>(Heap.get?_update_other _ _ (Ne.symm hbS)).trans (hk' b o hb e)
 |succ k ih =>
  intro j s m t c hk hj hst hT hS hR;have hlt:j<n:=by omega
  refine codeAny_builtin F.entry_max_loop ?_;rw[Around.under_plainId F.plain_max_loop _];refine wpAny_bind (wpAny_seqItems hS rfl ?_);show wpAny _ A.in1 (tryCatch (pyNext (.ref I)) _ >>= _) _ _ s;refine wpAny_bind (wpAny_tryCatch (W.item j s _ _ hlt hst λv h' tk hP hst' hk'=>?_));have hS':=hk' S _ hSw hS;obtain⟨u,rfl⟩:=hval j v hP;obtain⟨i0,_,e0⟩:=hT.1;show wpAny _ A.in1 (tryCatch (holding [_,_] (richCompare .Gt (.int (val j) u) (.int m t) >>= _)) _ >>= _) _ _ _;refine wpAny_bind (wpAny_tryCatch (wpAny_holding (wpAny_bind (cm j i0 _ _ _ _ _ ⟨u,rfl⟩ ⟨t,by rw[e0]⟩ ?_))));refine wpAny_bind (wpAny_holding (wpAny_truthy_bool ?_));refine wpAny_bind (wpAny_letGo (wpAny_pure ?_));show wpAny _ A.in1 (if decide (val j>val i0)=true then _ else _) _ _ _;rw[e0];by_cases hb:val j>m
  ·rw[decide_eq_true hb];simp only[if_true];refine wpAny_bind ?_;refine wpAny_updateSeq hS' rfl (wpAny_bind (wpAny_letGo ?_));rw[pd];refine wpAny_pure ⟨plainId_quiet F.plain_max_loop _,ih (j+1) _ (val j) u _ (by omega) hlt (W.frame _ _ _ hst' λb hbf o e=>?_) (hT.more hb) (Heap.get?_update_self _ hS' rfl) λM t' h'' tk'' hM hk''=>?_⟩
   ·exact(Heap.get?_update_other _ _ (λh:S=b=>hSf (h ▸ hbf))).trans e
   ·exact hR M t' h'' tk'' hM λb o hbw hbS e=>hk'' b o hbw hbS ((Heap.get?_update_other _ _ (Ne.symm hbS)).trans (hk' b o hbw e))
  ·rw[decide_eq_false hb];simp only[Bool.false_eq_true,if_false];refine wpAny_bind (wpAny_letGo ?_);rw[pd];refine wpAny_pure ⟨plainId_quiet F.plain_max_loop _,ih (j+1) _ m t c (by omega) hlt hst' (hT.less hb) hS' λM t' h'' tk'' hM hk''=>?_⟩;exact hR M t' h'' tk'' hM λb o hbw hbS e=>hk'' b o hbw hbS (hk' b o hbw e)
theorem GH(W:Walks prog w A.in1 I fp wr n P St)(hval:∀i v,P i v->∃t,v=.int (val i) t)(hSf:S∉fp){s:Shared}{c:Nat}(hst:St 0 s.heap)
 (hS:s.heap.get? S=some { cls:=.type "list",dict:=none,data:=.seq #[] c,slots:=#[] })
 (h0:n=0->∀h' tk,(∀b o,b∉wr->b≠S->s.heap.get? b=some o->h'.get? b=some o)->R (.ok (.ret d)) { s with heap:=h',toks:=tk })
 (hR:∀M t h' tk,Top val n M->(∀b o,b∉wr->b≠S->s.heap.get? b=some o->h'.get? b=some o)->R (.ok (.ret (.int M t))) { s with heap:=h',toks:=tk }) :
 codeAny (model prog w) A (.builtin "max.loop" ⟨[.ref I,.none,.ref S],[("default",d)]⟩) R s:=by
 have hSw:S∉wr:=λh=>hSf (W.sub _ h)
 refine codeAny_builtin F.entry_max_loop ?_;rw[Around.under_plainId F.plain_max_loop _];refine wpAny_bind (wpAny_seqItems hS rfl ?_);show wpAny _ A.in1 (tryCatch (pyNext (.ref I)) _ >>= _) _ _ s;by_cases hn:n=0
 ·subst hn;refine wpAny_bind (wpAny_tryCatch (W.done s _ _ hst λh' tk hk'=>?_));refine wpAny_bind (wpAny_rule (wpAny_pure ?_));exact h0 rfl h' tk λb o hb _ e=>hk' b o hb e
 ·refine wpAny_bind (wpAny_tryCatch (W.item 0 s _ _ (by omega) hst λv h' tk hP hst' hk'=>?_));have hS':=hk' S _ hSw hS;obtain⟨u,rfl⟩:=hval 0 v hP;show wpAny _ A.in1 (updateSeq S (λ_=>#[.int (val 0) u,.int (val 0) u]) >>= _) _ _ _;refine wpAny_bind (wpAny_updateSeq hS' rfl ?_);rw[pd];refine wpAny_pure ⟨plainId_quiet F.plain_max_loop _,GG W hval hSf _ 1 _ (val 0) u _ rfl (by omega) (W.frame _ _ _ hst' λb hbf o e=>?_) ⟨⟨0,by omega,rfl⟩,λi hi=>?_⟩ (Heap.get?_update_self _ hS' rfl) λM t h'' tk'' hM hk''=>?_⟩
  ·exact(Heap.get?_update_other _ _ (λh:S=b=>hSf (h ▸ hbf))).trans e
  ·have:i=0:=by omega
   subst this;exact Int.le_refl _
  ·exact hR M t h'' tk'' hM λb o hbw hbS e=>hk'' b o hbw hbS ((Heap.get?_update_other _ _ (Ne.symm hbS)).trans (hk' b o hbw e))
end
section
variable {prog:Program}{w:World}{A:Around}{E:Value->Shared->Prop}{s:Shared}{l:Addr}{xs:Array (Int×Tok)}{d:Value}
theorem KM{Q:Value->Shared->Prop}(hh:A.handled=none)(hl:s.heap.IsList l (intItems xs))
 (h0:xs.size=0->∀h' tk,(∀b o,s.heap.get? b=some o->h'.get? b=some o)->Q d { s with heap:=h',toks:=tk })
 (h:∀M t h' tk,Top (numAt xs) xs.size M->(∀b o,s.heap.get? b=some o->h'.get? b=some o)->Q (.int M t) { s with heap:=h',toks:=tk }) :
 wpAny (model prog w) A (call (.builtin "max") [.ref l] [("default",d)]) Q E s:=by
 refine wpAny_call (codeAny_call_builtin F.plain_max F.entry_max ?_);simp only[checkBuiltinCall,F.kind_max]
 have key:wpAny (model prog w) A.in1 (Builtin.«max» ⟨[.ref l],[("default",d)]⟩) (λfin s'=>match fin with
  |.done f=>(match(Except.ok f:Result)with |.ok (.ret v)=>Q v s' |.ok _=>False |.error e=>E e s')
  |.again c'=>c'.quiet=true/\codeAny (model prog w) A c' (λr s'=>match r with |.ok (.ret v)=>Q v s' |.ok _=>False |.error e=>E e s') s') E s:=by
  show wpAny _ A.in1 (Builtin.Builtins.bindParams "max" ["key","default"] 0 ⟨[],[("default",d)]⟩ >>= _) _ _ s;refine wpAny_bind (wpAny_of_eq (show Builtin.Builtins.bindParams "max" ["key","default"] 0 ⟨[],[("default",d)]⟩=pure [none,some d]from rfl) ?_);refine wpAny_bind (wpAny_pure ?_);refine wpAny_bind (iter_intList hl λs₂ e st hfp hlI=>?_);subst e;refine wpAny_bind (wpAny_newObj_type ?_);rw[pd];have W:=Walks.list (prog:=prog) (w:=w) (A:=A.in1) hh _ l hlI (intItems xs);have sz:(intItems xs).size=xs.size:=by simp[intItems]
  refine wpAny_pure ⟨plainId_quiet F.plain_max_loop _,GH W (val:=numAt xs) (λi v=>intItems_at) (λhm=>Qt _ (hfp _ hm)) (W.frame _ _ _ st λb _ o e=>Heap.get?_push_of_some _ e) (Heap.get?_push_size _ rfl) (λhn h' tk hk=>?_) λM t h' tk hM hk=>?_⟩
  ·exact h0 (sz ▸ hn) h' tk (old_kept λb o hb e=>hk b o hb (Qf (Heap.lt_size e)) (Heap.get?_push_of_some _ e))
  ·exact h M t h' tk (sz ▸ hM) (old_kept λb o hb e=>hk b o hb (Qf (Heap.lt_size e)) (Heap.get?_push_of_some _ e))
 cases hsig:Manifest.signature? "max" with
 |none=>exact wpAny_pure key
 |some sig =>
  have ha':Bind.checkArgs "max" sig ⟨[.ref l],[("default",d)]⟩=pure ():=by simpa only[argsOk,hsig]using LS (.ref l) d
  simp only[ha'];exact wpAny_pure key
end
def wG(K:PySem.W.Frag):R2:=λx y H Q=>∃(p:Addr) (ns:List Int),x=.ref p/\SqL K H p (ns.map V.int)/\(ns=[]->Q y H)/\∀M,M∈ns->(∀a∈ns,a<=M)->Q (.int M) H
theorem yo:∀{ns:List Int} {us:List Value},Vals (ns.map V.int) us->∃ts:List (Int×Tok),us.toArray=intItems ts.toArray/\ts.map (·.1)=ns
 | [],_,h=>by cases h;exact⟨[],by simp[intItems],rfl⟩
 |n::ns,_,h=>by
  cases h with
  |cons r rr =>obtain⟨t,rfl⟩:=r;obtain⟨ts,e1,e2⟩:=yo rr;refine⟨(n,t)::ts,?_,by rw[Qm,e2]⟩;have e3:=congrArg Array.toList e1;simp only[intItems,List.map_toArray]at e3 ⊢;simpa using e3
theorem Bb{ts:List (Int×Tok)}{M:Int}(h:Top (numAt ts.toArray) ts.toArray.size M):M∈ts.map (·.1)/\∀a∈ts.map (·.1),a<=M:=by
 have g:∀(i:Nat) (hi:i<ts.length),numAt ts.toArray i=(ts[i]).1:=λi hi=>by simp[numAt,hi]
 obtain⟨⟨i,hi,e⟩,h2⟩:=h;have hi':i<ts.length:=by simpa using hi
 constructor
 ·rw[<- e,g i hi'];exact P4.mpr ⟨_,Q9 hi',rfl⟩
 ·intro a ha;obtain⟨p,hp,rfl⟩:=P4.mp ha;obtain⟨j,hj,rfl⟩:=List.getElem_of_mem hp;rw[<- g j hj];exact h2 j (by simpa using hj)
section
variable {X:Cx}{K:PySem.W.Frag}{e ed:Expr}{ta td:TE}{p pos kp:Pos}
theorem D2(hK:X.K=K)(hc:X.calm=true)(hg:Gl X "max")(hm:X.mg "max"=none)(ha:PE X e ta)(hd:PE X ed td)
 (he:starEach [e] X.env=(false,eval e X.env)::starEach [] X.env:=by rfl):PE X (.Call (.Name "max" p) [e] [⟨some "default",ed,kp⟩] pos) (tOp (wG K) ta td):=by
 subst hK;intro pins s σ H Q I h;refine wpAny_Call_Name_kw (dU I hg hm boot_max ?_ (by decide) (by decide));refine callWith_kw (thn (aa ha ac he pos pins s σ H (λvs H1=>match vs with | [x]=>td σ H1 λy H2=>wG X.K x y H2 Q |_=>False) I h) λus s1 ⟨vs,H1,I1,r1,q1⟩=>?_) (by rw[he];rfl) (by rw[he];rfl) rfl rfl
 obtain⟨x,rfl⟩:∃x,vs=[x]:=by
  match vs,q1 with
  | [x],_=>exact⟨x,rfl⟩
 obtain⟨u,rfl,ru⟩:=io r1;refine kws_cons (thn (hd pins s1 σ H1 _ I1 q1) λv s2 ⟨y,H2,I2,ry,q2⟩=>kws_nil ?_);obtain⟨a,ns,rfl,hq,k0,k1⟩:=q2;cases ru;obtain⟨its,r',pl,hz⟩:=I2.list hq;obtain⟨ts,e1,e2⟩:=yo r';have il:=pl.isList;rw[e1]at il;refine KM (I2.ok.hd hc) il (λh0 h' tk k=>⟨y,H2,I2.kept k,ry,k0 ?_⟩) λM t h' tk hM k=>⟨.int M,H2,I2.kept k,⟨t,rfl⟩,?_⟩
 ·have:ts=[]:=by simpa using h0
  rw[<- e2,this];rfl
 ·obtain⟨m1,m2⟩:=Bb hM;rw[e2]at m1 m2;exact k1 M m1 m2
end
theorem zG:∀{bs:List Bool} {us:List Value},Vals (bs.map V.bl) us->us=bs.map Value.bool
 | [],_,h=>by cases h;rfl
 |b::bs,_,h=>by
  cases h with
  |cons r rr =>cases r;rw[zG rr];rfl
theorem LU(bs:List Bool):(List.range bs.length).any (λi=>bs.getD i false)=bs.any id:=by
 rw[Bool.eq_iff_iff,List.any_eq_true,List.any_eq_true];constructor
 ·rintro⟨i,hi,e⟩;have hi':=QI.mp hi;refine⟨bs[i],Q9 hi',?_⟩;simpa[List.getD,List.getElem?_eq_getElem hi']using e
 ·rintro⟨b,hb,e⟩;obtain⟨i,hi,rfl⟩:=List.getElem_of_mem hb;refine⟨i,QI.mpr hi,?_⟩;simpa[List.getD,List.getElem?_eq_getElem hi]using e
theorem KR{X:Cx}{K:PySem.W.Frag}(hK:X.K=K)(hc:X.calm=true):cY X (.builtin "any") (λxs H Q=>∃(p:Addr) (bs:List Bool),xs=[.ref p]/\SqL K H p (bs.map V.bl)/\Q (.bl (bs.any id)) H):=by
 subst hK;intro pins s σ H xs us Q I r h;obtain⟨p,bs,rfl,hq,q⟩:=h;obtain⟨u,rfl,rx⟩:=io r;cases rx;obtain⟨its,r',pl,hz⟩:=I.list hq;have e:=zG r';subst e;have hl:=pl.isList;have hlt:p<s.heap.objs.size:=by obtain⟨_,e,_⟩:=hl;exact Heap.lt_size e
 refine call_any_walk (wpAny_pyIter_list hl ?_);refine⟨_,_,_,_,_,_,λi=>bs.getD i false,rfl,Walks.list (A:=X.A.in1) (I.ok.hd hc) _ p (Qf hlt) _,⟨⟨_,Heap.get?_push_size _ rfl,rfl,rfl⟩,hl.push _⟩,λi v s' Q' E' hP hQ=>?_,λh' tk hk=>?_⟩
 ·have e:v=.bool (bs.getD i false):=by have hP':((bs.map Value.bool).toArray)[i]?=some v:=hP;simp only[List.getElem?_toArray,List.getElem?_map,Option.map_eq_some_iff]at hP';obtain⟨b,hb,rfl⟩:=hP';simp[List.getD,hb]
  subst e;exact wpAny_truthy_bool hQ
 ·refine⟨.bl (bs.any id),H,I.kept (old_kept hk),?_,q⟩;show Value.bool _=Value.bool _;rw[<- LU bs];simp
def cx:Sp:=λ_ _ _ _=>False
section
variable {X:Cx}
end
theorem yn:∀{ns:List Int} {us:List Value},Vals (ns.map V.int) us->∃l:List (Int×Tok),us=l.map (λp=>Value.int p.1 p.2)/\l.map (·.1)=ns
 | [],_,h=>by cases h;exact⟨[],rfl,rfl⟩
 |n::ns,_,h=>by
  cases h with
  |cons r rr =>obtain⟨t,rfl⟩:=r;obtain⟨l,rfl,e⟩:=yn rr;exact⟨(n,t)::l,rfl,by rw[Qm,e]⟩
theorem wO:∀(l:List (Int×Tok)) (n:Nat),n<=l.length->preSum (numAt l.toArray) n=((l.take n).map (·.1)).sum
 |l,0,_=>rfl
 |l,n+1,h=>by rw[preSum,wO l n (by omega),QE,List.getElem?_eq_getElem (by omega)];unfold numAt;rw[List.getElem?_toArray,List.getElem?_eq_getElem (by omega),Option.toList_some,Qd,List.sum_append];show _=_+(l[n].1+0);rw[QY];rfl
theorem KL{X:Cx}{K:PySem.W.Frag}(hK:X.K=K)(hc:X.calm=true):cY X (.builtin "sum") (λxs H Q=>∃(p:Addr) (ns:List Int),xs=[.ref p]/\SqL K H p (ns.map V.int)/\Q (.int ns.sum) H):=by
 subst hK;intro pins s σ H xs us Q I r h;obtain⟨p,ns,rfl,hq,q⟩:=h;obtain⟨u,rfl,rx⟩:=io r;cases rx;obtain⟨its,r',pl,hz⟩:=I.list hq;obtain⟨l,rfl,e⟩:=yn r'
 have hl:s.heap.IsList p (intItems l.toArray):=by
  have h1:=pl.isList;have e2:(l.map (λp=>Value.int p.1 p.2)).toArray=intItems l.toArray:=by unfold intItems;simp
  rw[<- e2];exact h1
 refine sum_intListG (I.ok.hd hc) hl λh' tk t' hk=>⟨.int ns.sum,H,I.kept hk,⟨t',?_⟩,q⟩
 have e3:preSum (numAt l.toArray) l.toArray.size=ns.sum:=by rw[Ql,wO l l.length (PZ _),QZ,e]
 rw[e3]
structure CalE(P:Program)(w:World)(K:PySem.W.Frag)(mg:Str->Option Value)(base:Heap)(k:Nat)(x:Str)(ps:List Str)(sp:Sp)(f:Addr)(fd:FuncData)(ds:List Value)(dvs:List V):Prop where
 ok:FnOk P w K mg base CX0 k f fd ps sp
 mg:mg x=some (.ref f)
 kp:PySem.W.keepIn K (.ref f)=true
 bn:Binds K fd ps []
 bd:Binds K fd ps ds
 vd:Vals dvs ds
section
variable {X:Cx}{tg:Expr}{K:PySem.W.Frag}
end
section
variable {P:Program}{w:World}{K:PySem.W.Frag}{mg:Str->Option Value}{base:Heap}
end
section
variable {X:Cx}{pins:List (Addr×Obj)}{σ:St}{H1 H2:Hp}{s1 s2:Shared}
theorem zB{B h3:Heap}{ea:Addr}{cls a0:Value}(I:Inv X pins σ H1 s1)(os:s2.os=s1.os)(bare:AllBare s2.gens)(un:Un (frs X.stack) [] H1 H2 s1.heap s2.heap)(hok:HOk X.prog X.w H2 s2.heap)(fl:Heap.FlyingW B X.stack ea cls a0 s2.heap)
 (b1:∀b o,s1.heap.get? b=some o->b∉frs X.stack->∃o',s2.heap.get? b=some o'/\B.get? b=some o') (b2:∀b x,H2 b=some x->∃o',s2.heap.get? b=some o'/\B.get? b=some o') (st:B.StaysIn h3) (up:s2.heap.UpToSlots h3) :
 Inv X pins σ H2 { s2 with heap:=h3 }:=by
 refine I.call' (s':={ s2 with heap:=h3 }) (ch:=[]) os (un.back (λb o q hb=>let⟨o',q1,q2⟩:=b1 b o q hb;⟨o',q1,st _ _ q2⟩) I.stkFree (λb hb o e=>?_) up) (hok.back b2 st) bare (λb hb=>nomatch hb);obtain⟨_,o',e',hd⟩:=fl.2.2.1.mem hb;rw[e]at e';cases e';exact hd
end
section
variable {X:Cx}{CX:CXT}{k:Nat}{f C:Addr}{fd:FuncData}{ps:List Str}{sp:Sp}{dvs:List V}{ds:List Value}{E:XK}{x m:Str}{p pos apos:Pos}{e o:Expr}{es:List Expr}{ta:TE}{t:TA}{pins:List (Addr×Obj)}{σ:St}
def Af(CX:CXT)(X:Cx)(pins:List (Addr×Obj))(σ:St)(E:XK):Prop:=∀(H:Hp) (s:Shared) (e:Value) (s':Shared),Inv X pins σ H s->CX X.stack H s E e s'->X.xe e s'
end
abbrev cxH(X:Cx)(ea:Addr)(oe:Obj):Cx:={ X with A:=X.A.mark (some (.ref ea)),calm:=false,pn:=(ea,oe)::X.pn,xe:=λ_ _=>False }
section
variable {X:Cx}{pins:List (Addr×Obj)}{σ:St}{H:Hp}{s:Shared}{ea:Addr}{oe:Obj}
theorem Inv.held(I:Inv X pins σ H s)(he:s.heap.get? ea=some oe)(hn:H ea=none)(hL:ea≠X.env.locals)(hf:ea∉X.fs)(hd:∀v,oe.data≠.cell v):Inv (cxH X ea oe) pins σ H s:=by
 have ok:=I.ok
 exact⟨⟨ok.mod,ok.kind,ok.glob,ok.blt,ok.above,ok.inj,ok.has,ok.cab,(λz=>nomatch z),ok.frames,ok.stk,ok.exf,ok.bs,ok.bsz,ok.noex,ok.exfs,ok.funs,ok.frf⟩,I.os,I.bare,I.base,I.loc,I.cell,I.free,I.freeC,
  λp hp=>by
   rcases P8.mp hp with rfl |hp
   ·exact⟨he,hn,hL,hf,hd⟩
   ·exact I.pin p hp,I.hok,I.len⟩
theorem Je{M:Model}{A:Around}{E:Value->Shared->Prop}{i:Nat}{x:Str}{pos:Pos}{Q:Unit->Shared->Prop}(I:Inv X pins σ H s)(hN:X.N.Nodup)(hi:X.N[i]?=some x)(hk:X.env.scope.names.lookup x=some .local)
 (h:∀s',Inv X pins (σ.set i none) H s'->Q () s'):wpAny M A (do bindName X.env x .none;unbindBehindTheSuite X.env x pos) Q E s:=by
 obtain⟨m,hn,hl⟩:=id I.loc;have hcls:(X.env.scope.kind == .class || (X.env.scope.kind == .module&&X.env.locals != X.env.globals))=false:=by rw[I.ok.kind];rfl
 have hiσ:i<σ.length:=by rw[I.len];exact(List.getElem?_eq_some_iff.mp hi).1
 have cne:=I.cne
 have tracked:∀{a:Addr} {h':Heap},(∃o,s.heap.get? a=some o/\H a=none)->Heap.SameBut a s.heap h'->HOk X.prog X.w H h':=λ{a h'} ha hs b ob e=>by
  obtain⟨_,_,hfree⟩:=ha;refine(I.hok b ob e).stay (λc w' hc q=>(hs.2 c ?_).trans q) (λ_ q=>q) λ_ _ q=>q
  rintro rfl;rcases hc with rfl |hc
  ·rw[hfree]at e;cases e
  ·rw[hfree]at hc;cases hc
 refine wpAny_nameGoes_keeps hk hn hcls λh' v hn' hs=>?_
 obtain⟨oL,_,_,hoL,_⟩:=id hn;refine h _ ⟨I.ok,I.os,I.bare,⟨λb o e n hb hx=>?_,λb o e n hb hx=>?_,I.base.free,λb o e hx=>?_,I.base.tups,I.base.frzs,I.base.tbls⟩,⟨_,hn',λj y v' e1 e2 e3=>?_⟩,λy c e=>?_,I.free,I.freeC,λp hp=>?_,tracked ⟨oL,hoL,I.free⟩ hs,by simpa using I.len⟩
 ·exact(hs.2 b (Qf (Qi (Heap.lt_size e) I.ok.above))).trans (I.base.keep b o e n hb hx)
 ·obtain⟨sl,e1⟩:=I.base.slot b o e n hb hx;exact⟨sl,(hs.2 b (Qf (Qi (Heap.lt_size e) I.ok.above))).trans e1⟩
 ·obtain⟨o',e1⟩:=I.base.there b o e hx;exact⟨o',(hs.2 b (Qf (Qi (Heap.lt_size e) I.ok.above))).trans e1⟩
 ·by_cases hj:j=i
  ·subst hj;rw[List.getElem?_set_self hiσ]at e2;cases e2
  ·rw[List.getElem?_set_ne (Ne.symm hj)]at e2;obtain⟨u',r',q⟩:=hl j y v' e1 e2 e3;refine⟨u',r',?_⟩;rcases q with⟨k,e⟩ |⟨k,c,e,z⟩
   ·refine .inl ⟨k,?_⟩;have:y≠x:=λe=>hj (re hN e1 (e ▸ hi))
    simp[this,e]
   ·exact .inr ⟨k,c,e,z.sameBut hs (cne y c e)⟩
 ·obtain⟨w',z⟩:=I.cell y c e;exact⟨w',z.sameBut hs (cne y c e)⟩
 ·obtain⟨e,n,ne,nf,d⟩:=I.pin p hp;exact⟨(hs.2 p.1 ne).trans e,n,ne,nf,d⟩
theorem Jc(I:Inv (cxH X ea oe) pins σ H s):s.heap.get? ea=some oe:=(I.pin (ea,oe) (Qh ..)).1
end
section
variable {X:Cx}{k:Nat}{f C R:Addr}{fd:FuncData}{ps:List Str}{sp:Sp}{dvs:List V}{ds:List Value}{m r n:Str}{pos apos cpos epos np hpos:Pos}{e o:Expr}{es:List Expr}{ta:TE}{t:TA}{i:Nat}{b₀:Stmt}{suite:List Stmt}{th:Addr->Obj->TS}
end
open PySem PySem.Spec PyProof.Rows PySem.W PySem.Calls PySem.Builtin PySem.Builtin.ObjectAttr PySem.Builtin.Getset_descriptor
section
variable {prog:Program}{w:World}{A:Around}{E:Value->Shared->Prop}{s:Shared}{K:Frag}{x D:Addr}{M:Model}{h:Heap}
theorem Kc{a g:Value}{name:Str}(X:K.In h)(ha:findIn K (.ref D) name=some (some a))(hg:specialIn K a "__get__"=some (some g))(ht:takesIn K a=some true):Looks M h (find (.ref x) (.ref D) name) (.bind g a):=by have L1:=looks_findIn (M:=M) X ha;have L2:Looks M h (getOf (some a)) (some g):=looks_specialIn X hg;have L3:=looks_takesIn (M:=M) X ht;exact L1.andThen (L2.andThen ((show Looks M h (dataDescriptor? (some a) (some g)) (some (g,a))from L3.andThen .now).andThen (Looks.tag .now)))
theorem Kd{R:Result->Shared->Prop}{tp:Value}(X:K.In s.heap)(L0:Looks (model prog w) s.heap (typeOf (.ref x)) (.ref D))(hm:mroIn K D (.type "object")=some true)
 (h:R (.ok (.ret (.ref D))) s):codeAny (model prog w) A (.call (.builtin "getset_descriptor.__get__") ⟨[.builtin "object.__class__",.ref x,tp],[]⟩) R s:=by
 obtain⟨hh,g,dr,t,os⟩:=s;have L1:=looks_mroIn (M:=model prog w) X hm;refine codeAny_call_builtin KF.slot_gs.plain KF.entry_gs (KF.slot_gs.check _ _ _ _ _ _ _ _ KF.type_class (KF.args_gs _ _ _) ?_);unfold Builtin.«getset_descriptor.__get__» descrGet;rw[dga_obj];refine wpAny_bind (wpAny_pure ?_);unfold descrGetter descrCheckInstance descrNameAndClass isInstance;simp only[KF.owner_class]
 repeat lk
 refine⟨Code.quiet_builtin _ (by decide +kernel),codeAny_builtin KF.entry_class ?_⟩;unfold Builtin.«object.__class__» shownTypeOf
 repeat lk
 exact h
theorem Kf{nameV:Value}{Q:Unit->Shared->Prop}{g:Array GenState}{d:Drawn}{t:Nat}{os:OsState}(X:K.In h)(LT:Looks M h (typeOf (.ref x)) (.ref D))(hmB:mroIn K D (.type "BaseException")=some true)(hq:Q () ⟨h,g,d,t,os⟩) :
 wpAny M A (checkBuiltinCall "BaseException.__getattribute__" ⟨[.ref x,nameV],[]⟩) Q E ⟨h,g,d,t,os⟩:=by
 have hk:builtinKind "BaseException.__getattribute__"=some .slot:=by decide +kernel
 have hsplit:splitId "BaseException.__getattribute__"=some ("BaseException","__getattribute__"):=by decide +kernel
 have ha:=F.args_bexc_ga (.ref x) nameV;have LI:Looks M h (isInstance (.ref x) (.type "BaseException")) true:=LT.andThen (looks_mroIn X hmB);simp only[checkBuiltinCall,hk,hsplit];refine wpAny_bind (LI.at ?_)
 repeat (first |assumption |wp_step)
theorem Ke{Q:Option Value->Shared->Prop}(hga:findIn K (.ref D) "__getattribute__"=some (some (.builtin "BaseException.__getattribute__")))(hgn:findIn K (.ref D) "__getattr__"=some none)(hmB:mroIn K D (.type "BaseException")=some true)(ha:findIn K (.ref D) "__class__"=some (some (.builtin "object.__class__")))
 (hn:specialIn K (.builtin "object.__class__") "__get__"=some (some (.builtin "getset_descriptor.__get__"))) (htk:takesIn K (.builtin "object.__class__")=some true) (hm:mroIn K D (.type "object")=some true)
 (X:K.In s.heap) (LT:Looks (model prog w) s.heap (typeOf (.ref x)) (.ref D)) (h:Q (some (.ref D)) { s with toks:=s.toks+1 }):wpAny (model prog w) A (getAttr? (.ref x) "__class__") Q E s:=by
 obtain⟨hh,g,d,t,os⟩:=s;have L1:=looks_findIn (M:=model prog w) X hga;have LF:Looks (model prog w) hh (find (.ref x) (.ref D) "__class__") (.bind (.builtin "getset_descriptor.__get__") (.builtin "object.__class__")):=Kc X ha hn htk;have L2:=looks_findIn (M:=model prog w) X hgn;have f3:=F.excAttr_ValueError.ga.bind (.ref x);have hx2:(Value.builtin "BaseException.__getattribute__" == Value.builtin "object.__getattribute__")=false:=by decide +kernel
 have hx1:(onTheHeap (Value.ref D)&&Value.builtin "BaseException.__getattribute__" == Value.builtin "object.__getattribute__")=false:=by rw[hx2];rfl
 unfold getAttr? getAttrBy? getAttrBy;refine wpAny_bind (wpAny_mkText (wpAny_bind (wpAny_attempt (wpAny_holding (wpAny_bind (LT.at (wpAny_bind (L1.at ?_))))))));dsimp only
 rw[if_neg (by rw[hx1];exact Q7)];unfold getAttrByItsOwn
 repeat (any_goals (first |assumption | (with_reducible refine wpAny_bind (L2.at ?_)) | (with_reducible refine L2.at ?_) |wp_step))
 refine codeAny_call_builtin F.excAttr_ValueError.ga.plain F.entry_bexc_ga (Kf X LT hmB ?_)
 repeat (any_goals (first |assumption | (with_reducible refine wpAny_bind (LT.at ?_)) | (with_reducible refine LT.at ?_) | (with_reducible refine wpAny_bind (LF.at ?_)) | (with_reducible refine LF.at ?_) |wp_step))
 refine Kd X LT hm ?_
 repeat (any_goals (first |assumption |wp_step))
theorem x6{oe:Obj}(hc:oe.cls=.ref D)(hcl:(clsIn K D).isSome=true)(hga:findIn K (.ref D) "__getattribute__"=some (some (.builtin "BaseException.__getattribute__")))(hgn:findIn K (.ref D) "__getattr__"=some none)(hmB:mroIn K D (.type "BaseException")=some true)(ha:findIn K (.ref D) "__class__"=some (some (.builtin "object.__class__")))
 (hn:specialIn K (.builtin "object.__class__") "__get__"=some (some (.builtin "getset_descriptor.__get__"))) (htk:takesIn K (.builtin "object.__class__")=some true) (hm:mroIn K D (.type "object")=some true) :
 KitX K (.ref x) (.ref D) (λh=>h.get? x=some oe) where
 ty:=λ_ _ _ I=>hc ▸ (Looks.ld I).andThen .now
 it:=λ_ _ X _=>by
  obtain⟨cdD,hcD⟩:=Rz.mp hcl;unfold clsIn at hcD
  split at hcD
  ·rename_i c' d' cd' sl' ho
   intro A' Q' E' s' k q;unfold isType loadHead;exact wpAny_bind (wpAny_loadPart (k _ _ (X _ _ ho)) (wpAny_pure q))
  ·cases hcD
 ne:=λh tp dd its n sl X htp=>by
  obtain⟨cdD,hcD⟩:=Rz.mp hcl;refine Bool.eq_false_iff.mpr λq=>?_
  have e:D=tp:=Value.ref.inj (beq_iff_eq.mp q);subst e;unfold clsIn at hcD
  split at hcD
  ·rename_i c' d' cd' sl' ho
   have z:=(X _ _ ho).symm.trans htp;cases z
  ·cases hcD
 ca:=λX I k=>Ke hga hgn hmB ha hn htk hm X (hc ▸ (Looks.ld I).andThen .now) k
end
theorem KE{K:PySem.W.Frag}{C:Addr}{b:Value}{k:Bool}(h:mroIn K C b=some k):(clsIn K C).isSome=true:=by
 unfold mroIn at h
 cases e:clsIn K C with
 |none=>rw[e]at h;cases h
 |some _=>rfl
structure ECls(K:PySem.W.Frag)(D:Addr):Prop where
 cl:(clsIn K D).isSome=true
 ga:findIn K (.ref D) "__getattribute__"=some (some (.builtin "BaseException.__getattribute__"))
 gn:findIn K (.ref D) "__getattr__"=some none
 mB:mroIn K D (.type "BaseException")=some true
 ha:findIn K (.ref D) "__class__"=some (some (.builtin "object.__class__"))
 hn:specialIn K (.builtin "object.__class__") "__get__"=some (some (.builtin "getset_descriptor.__get__"))
 ht:takesIn K (.builtin "object.__class__")=some true
 hm:mroIn K D (.type "object")=some true
theorem D8{K:PySem.W.Frag}{h₀:Heap}{mg:Str->Option Value}{x:Str}{C:Addr}{bmB:List Value}{newId:String}(X:K.In h₀)(G:h₀.Ns mainGlobals mg)(e:nsIn K mainGlobals x=some (some (.ref C)))(q:excIn K C bmB newId=true):OwnCls x C bmB newId mg h₀:=by
 refine⟨mg_of X G e,?_⟩;unfold excIn at q
 split at q
 ·rename_i dd cd sl ho
  split at q
  ·rename_i C' bm k0 k1 k2 k3 n k5 hm hs
   simp only[Rq,beq_iff_eq,Bool.not_eq_true']at q;obtain⟨⟨⟨⟨⟨rfl,rfl⟩,hdel⟩,ht⟩,hok⟩,hni⟩:=q;obtain⟨nm,bs,mro,ns,qn,hd,sn,sub,ab,col,del⟩:=cd;dsimp only at hm hdel hok hni
   subst hm hdel
   have hsl:sl=#[k0,k1,k2,k3,some (.builtin n),k5]:=by
    obtain⟨l⟩:=sl;simp only at hs
    rw[hs]
   subst hsl;exact⟨bm,ns,nm,qn,bs,hd,sn,sub,ab,col,dd,k0,k1,k2,k3,k5,_,X _ _ ho,.of_isNs (isNs_of_in X hok),nsMap_none_of_in X hok hni,tail_of_in X ht⟩
  ·cases q
 ·cases q
end L2
theorem PyProof.Rows.boot_ValueError:PySem.bootBuiltins "ValueError"=some (.type "ValueError"):=by decide +kernel
namespace L2
open PySem PySem.Spec PyProof.Rows
section
variable {X:Cx}{CX:CXT}{k:Nat}{f C R:Addr}{fd:FuncData}{ps:List Str}{sp:Sp}{dvs:List V}{ds:List Value}{m r n x:Str}{p pos apos cpos epos np hpos:Pos}{e o ex:Expr}{es:List Expr}{ta:TE}{t:TA}{i:Nat}{b₀:Stmt}{suite:List Stmt}{th:Addr->Obj->TS}{tx:XK->TE}
end
section
variable {X:Cx}{R R2:Addr}{r r2 n n2:Str}{pos epos np hpos np2 hpos2:Pos}{ex:Expr}{i i2:Nat}{b₀ b₂:Stmt}{suite suite2:List Stmt}{th th2:Addr->Obj->TS}{tx:XK->TE}
end
def KD(h h':Heap):Prop:=∀b o,h.get? b=some o->∃o',h'.get? b=some o'/\o'.dict=o.dict
theorem KD.refl(h:Heap):KD h h:=λ_ o e=>⟨o,e,rfl⟩
theorem KD.trans{a b c:Heap}(x:KD a b)(y:KD b c):KD a c:=λp o e=>by obtain⟨o1,e1,d1⟩:=x p o e;obtain⟨o2,e2,d2⟩:=y p o1 e1;exact⟨o2,e2,d2.trans d1⟩
theorem KD.push(h:Heap)(o:Obj):KD h (h.push o):=λb u e=>⟨u,Heap.get?_push_of_some _ e,rfl⟩
def tX(f:Obj->Obj):Prop:=∀o:Obj,o.isFreed=false->(f o).isFreed=false/\(f o).dict=o.dict
theorem KD.upd(h:Heap)(a:Addr){f:Obj->Obj}(hf:tX f):KD h (h.update a f):=λb u e=>by
 by_cases z:a=b
 ·subst z;obtain⟨h1,h2⟩:=hf u (Heap.get?_some_iff.mp e).2;exact⟨f u,Heap.get?_update_self f e h1,h2⟩
 ·exact⟨u,(Heap.get?_update_other h f z).trans e,rfl⟩
inductive Mild{α:Type}:Sem α->Prop
 |pure (a:α):Mild (.pure a)
 |unsupported (x:String):Mild (.unsupported x)
 |rule {t:String} {k:Unit->Sem α}:(∀u,Mild (k u))->Mild (.rule t k)
 |at{p:Pos} {k:Unit->Sem α}:(∀u,Mild (k u))->Mild (.at p k)
 |load {a:Addr} {p:Option Value} {k:Obj->Sem α}:(∀o,Mild (k o))->Mild (.load a p k)
 |update {a:Addr} {p:Option Value} {f:Obj->Obj} {k:Unit->Sem α}:tX f->(∀u,Mild (k u))->Mild (.update a p f k)
 |alloc {o:Obj} {k:Addr->Sem α}:(∀a,Mild (k a))->Mild (.alloc o k)
 |stack {k:List (Code×Pos)->Sem α}:(∀l,Mild (k l))->Mild (.stack k)
theorem bK{α β:Type}{t:Sem α}{f:α->Sem β}(ht:Mild t)(hf:∀a,Mild (f a)):Mild (t >>= f):=by
 show Mild (t.bind f)
 induction ht with
 |pure a=>exact hf a
 |unsupported x=>exact .unsupported x
 |rule _ ih=>exact .rule ih
 | «at» _ ih=>exact .at ih
 |load _ ih=>exact .load ih
 |update s _ ih=>exact .update s ih
 |alloc _ ih=>exact .alloc ih
 |stack _ ih=>exact .stack ih
theorem eL{α:Type}(a:α):Mild (pure a:Sem α):=.pure a
theorem AI{α:Type}(M:Model)(Γ:PySem.Ctx){h0:Heap}{t:Sem α}(m:Mild t){Q:α->Pos->Shared->Prop}{E E':Value->Pos->Shared->Prop}:∀{p:Pos} {s:Shared},KD h0 s.heap->Sem.wp M Γ t Q E p s->Sem.wp M Γ t (λa p' s'=>Q a p' s'/\KD h0 s'.heap) E' p s:=by
 induction m with
 |pure a=>intro p s hk h;rw[Sem.wp]at h ⊢;exact⟨h,hk⟩
 |unsupported x=>intro p s hk h;rw[Sem.wp]at h;exact h.elim
 |rule _ ih=>intro p s hk h;rw[Sem.wp]at h ⊢;exact ih () hk h
 | «at» _ ih=>intro p s hk h;rw[Sem.wp]at h ⊢;exact ih () hk h
 |load _ ih =>intro p s hk h;rw[Sem.wp]at h ⊢;obtain⟨o,e,h⟩:=h;exact⟨o,e,ih o hk h⟩
 |update sf _ ih =>intro p s hk h;rw[Sem.wp]at h ⊢;exact⟨h.1,ih () (hk.trans (KD.upd s.heap _ sf)) h.2⟩
 |alloc _ ih =>intro p s hk h;rw[Sem.wp]at h ⊢;exact ih _ (hk.trans (KD.push s.heap _)) h
 |stack _ ih=>intro p s hk h;rw[Sem.wp]at h ⊢;exact ih _ hk h
theorem ik{α:Type}{M:Model}{A:Around}{t:Sem α}{Q:α->Shared->Prop}{E E':Value->Shared->Prop}{s:Shared}(m:Mild t)(h:wpAny M A t Q E s):wpAny M A t (λa s'=>Q a s'/\KD s.heap s'.heap) E' s:=λΓ p hΓ =>AI M Γ m (KD.refl _) (h Γ p hΓ)
theorem BN(f:Array Value->Array Value):tX (Obj.mapFields f):=λo h=>by
 unfold Obj.mapFields;split
 ·exact⟨rfl,rfl⟩
 ·exact⟨h,rfl⟩
theorem rD(a:Addr):Mild (load a):=.load λ_=>.pure _
theorem GA(v:Value):Mild (fieldsOf v):=by
 unfold fieldsOf;split
 ·refine bK (rD _) λo=>?_
  split<;>constructor
 ·constructor
theorem o8(v:Value)(i:Nat):Mild (field v i):=by
 unfold field;refine bK (GA v) λvs=>?_
 split<;>constructor
theorem rC(v:Value)(i:Nat)(x:Value):Mild (setField v i x):=by
 unfold setField;split
 ·unfold updateField;refine bK (rD _) λo=>?_
  split
  ·split
   ·exact .update (BN _) λ_=>eL _
   ·constructor
  ·constructor
 ·constructor
theorem rB(e:Value)(fr:Option Addr):Mild (setFlight e fr):=by
 unfold setFlight;refine bK (o8 e 1) λtb=>?_
 split
 ·exact rC _ _ _
 ·constructor
theorem rA:Mild (stack:Sem (List (Code×Pos))):=.stack λ_=>.pure _
theorem xA:∀l:List Env,Mild (readyFrames l)
 | []=>eL _
 |env::outer=>by
  unfold readyFrames;split
  ·refine bK (rD _) λo=>?_
   split
   ·constructor
   ·refine bK ?_ λim=>bK ?_ λbk=>bK ?_ λ_=>xA outer
    ·unfold behindIsImport;split
     ·constructor
     ·split
      ·constructor
      ·exact bK (o8 _ _) λ_=>eL _
    ·unfold keptBack;split
     ·split
      ·constructor
      ·refine bK ?_ λb=>eL _
       unfold underTheClaimsCaller;exact bK rA λ_=>eL _
     ·constructor
    ·exact .update (λo h=>⟨by obtain⟨a,b,c,d⟩:=o;cases c<;>first |rfl |exact h,rfl⟩) λ_=>eL _
  ·constructor
theorem Gz(env:Env):Mild (PySem.frameOf env):=by
 unfold PySem.frameOf frameEnvs;refine bK ?_ λl=>bK ?_ λo=>?_
 ·exact bK rA λ_=>eL _
 ·generalize l.dropWhile _=l';unfold frameObject;split
  ·constructor
  ·exact bK (xA _) λ_=>eL _
 ·split<;>constructor
theorem GC(f:Addr)(b:Bool):Mild (entryPlaceOf f b):=by
 unfold entryPlaceOf;refine bK rA λl=>?_
 split<;>constructor
theorem Gx(ty:String)(vs:List Value):Mild (newFields ty vs):=by
 have as':∀dt:Data,Mild (newObjAsIs (.type ty) dt none):=λdt=>by
  unfold newObjAsIs;refine bK (.alloc λ_=>.pure _) λa=>?_
  exact eL _
 unfold newFields newObj;dsimp only
 split
 ·exact bK (.unsupported _) λ_=>as' _
 ·exact as' _
theorem Gy(a b c d e:Value)(pl:List Value):Mild (EntryCells.newEntry a b c d e pl):=Gx _ _
theorem xz(e hd:Value)(env:Env)(f:Addr):Mild (do setField e 1 (<- EntryCells.newEntry hd (<- PySem.frameOf env) .none (rawInt f) .none (<- entryPlaceOf f (hd != .none))):Sem Unit) :=
 bK (Gz env) λfr=>bK (GC _ _) λpl=>bK (Gy _ _ _ _ _ _) λne=>rC _ _ _
theorem xB(e:Value)(env:Env):Mild (noteFrame e env):=by
 unfold noteFrame;split
 ·refine bK (o8 _ _) λhd=>?_
  dsimp only
  split
  ·refine bK (o8 _ _) λx=>?_
   split
   ·exact eL _
   ·exact bK (rC _ _ _) λ_=>xz _ _ _ _
  ·exact xz _ _ _ _
 ·constructor
theorem rE(env:Env)(e:Value):Mild (leaving env e):=bK (xB e env) λ_=>rB e none
open PySem PySem.Spec PyProof.Rows PySem.W PySem.Calls PySem.Builtin PySem.Builtin.ObjectAttr
noncomputable def AM:List Value:=[.type "ValueError",.type "Exception",.type "BaseException",.type "object"]
noncomputable def q9:List Value->Bool
 |.ref _::r=>r == AM ||q9 r
 |_=>false
structure XCls(K:Frag)(C:Addr):Prop where
 ve:∃cd,clsIn K C=some cd/\q9 cd.mro=true/\cd.hasDict=true
 sa:findIn K (.ref C) "__setattr__"=some (some (.builtin "object.__setattr__"))
noncomputable def uM(K:Frag)(C:Addr):Bool:=(match clsIn K C with |some cd=>q9 cd.mro&&cd.hasDict |none=>false)&&findIn K (.ref C) "__setattr__" == some (some (.builtin "object.__setattr__"))
theorem XCls.of{K:Frag}{C:Addr}(h:uM K C=true):XCls K C:=by
 unfold uM at h
 obtain⟨h1,h2⟩:=Bool.and_eq_true_iff.mp h;refine⟨?_,beq_iff_eq.mp h2⟩;cases e:clsIn K C with
 |none=>rw[e]at h1;cases h1
 |some cd=>rw[e]at h1;obtain⟨a,b⟩:=Bool.and_eq_true_iff.mp h1;exact⟨cd,rfl,a,b⟩
section
variable {prog:Program}{w:World}{A:Around}{E:Value->Shared->Prop}{s:Shared}{K:Frag}{x C:Addr}
end
section
variable {prog:Program}{w:World}{A:Around}{E:Value->Shared->Prop}{h:Heap}{g:Array GenState}{d:Drawn}{t:Nat}{os:OsState}
variable {nm q:Str}{C N fI:Addr}{bs bm bmB:List Value}{hdct:Bool}{sn:List Str}{sub:List Value}{ab:Bool}{col:Option Bool}{dd:Option Addr}{k0 k1 k2 k3 k5:Option Value}{B newId initId:String}{mN:Str->Option Value}{oI:Obj}{rest:List Value}
end
section
variable {M:Model}{A:Around}{E:Value->Shared->Prop}{s:Shared}{env:Env}
variable {nm q:Str}{C N:Addr}{bs bm:List Value}{hdct:Bool}{sn:List Str}{sub:List Value}{ab:Bool}{col:Option Bool}{dd:Option Addr}{k0 k1 k2 k3 k5:Option Value}{newId:String}
end
noncomputable def CXV(P:Program)(w:World):CXT:=λouter H s E e s'=>∃d:Option Addr,CXW P w outer H s (λc _ H'=>E c d H') e s'/\∃ea ob,e=.ref ea/\s'.heap.get? ea=some ob/\ob.dict=d
section
variable {P:Program}{w:World}{K:PySem.W.Frag}{mg:Str->Option Value}{base:Heap}{N:List Str}{qual:Str}{scope:Scope}{f:Addr}{cd:Value}{A:Around}{outer:List Env}{s:Shared}{H:Hp}{E:XK}{pins:List (Addr×Obj)}{σ:St}{H1:Hp}{s1:Shared}
theorem AE{e C:Addr}{oe:Obj}{vs:Array Value}{a0:Value}(I:Inv (bH (CXV P w) P w K mg base N qual scope f cd A outer s H E) pins σ H1 s1)(he:s1.heap.get? e=some oe)(hc:oe.cls=.ref C)(hd:oe.data=.fields vs)(h0:vs[0]?=some a0)(h1:vs[1]?=some .none)(hn:H1 e=none)(hs:s.heap.get? e=none)(hE:E (.ref C) oe.dict H1) :
 (bH (CXV P w) P w K mg base N qual scope f cd A outer s H E).xe (.ref e) s1:=by
 have hst:=I.stack;have hfree:=I.stkFree;have hfrm:(envOfC qual scope s.heap.objs.size f cd).frame=some s.heap.objs.size:=rfl;have efr:frs (envOfC qual scope s.heap.objs.size f cd::outer)=s.heap.objs.size::frs outer:=sI hfrm;have hin:∀env∈(envOfC qual scope s.heap.objs.size f cd::outer),∀b,env.frame=some b->b∈e::frs (envOfC qual scope s.heap.objs.size f cd::outer):=λenv hv b hb=>Qb _ (List.mem_filterMap.mpr ⟨env,hv,hb⟩)
 have b1:∀b o,s.heap.get? b=some o->b∉frs outer->∃o',s1.heap.get? b=some o'/\(PySem.W.hideAll s1.heap (e::frs (envOfC qual scope s.heap.objs.size f cd::outer))).get? b=some o':=λb o q hb=>by
  obtain⟨o',q'⟩:=I.base.there b o q (λz=>nomatch z);refine⟨o',q',PySem.W.hideAll_get _ q' λz=>?_⟩;rw[efr]at z;rcases P8.mp z with z |z
  ·rw[z,hs]at q;cases q
  ·rcases P8.mp z with z |z
   ·exact absurd (Heap.lt_size q) (by rw[z];exact Qt _)
   ·exact hb z
 have b2:∀b x,H1 b=some x->∃o',s1.heap.get? b=some o'/\(PySem.W.hideAll s1.heap (e::frs (envOfC qual scope s.heap.objs.size f cd::outer))).get? b=some o':=λb x q=>by
  obtain⟨o',q'⟩:∃o',s1.heap.get? b=some o':=wY (I.hok b x q);refine⟨o',q',PySem.W.hideAll_get _ q' λz=>?_⟩;rcases P8.mp z with z |z
  ·rw[z,hn]at q;cases q
  ·rw[hfree b z]at q;cases q
 have hB:(PySem.W.hideAll s1.heap (e::frs (envOfC qual scope s.heap.objs.size f cd::outer))).get? e=none:=PySem.W.hideAll_none _ (Qh ..)
 have fd:∀b∈frs outer,∀o,s1.heap.get? b=some o->∀ws,o.data≠.fields ws:=λb hb o q=>by obtain⟨_,o',q',hdd⟩:=I.funs.mem hb;have q'':s1.heap.get? b=some o':=q';rw[q]at q'';cases q'';exact hdd
 refine wpAny_mono (ik (E':=λ_ _=>False) (rE _ _) (wpAny_leaving_firstW (L:=s.heap.objs.size) (a0:=a0) I.ok.frames (PySem.W.funFrames_hide hst hin) hfrm he (λb o q=>PySem.W.of_hideAll _ q) hB hd h1 h0 (Q:=λ_ s''=>∃h'',s''={ s1 with heap:=h'' }/\Heap.FlyingW (PySem.W.hideAll s1.heap (e::frs (envOfC qual scope s.heap.objs.size f cd::outer))) outer e oe.cls a0 h''/\s1.heap.UpToSlots h'') (E:=λ_ _=>False) λh' hL=>?_)) (λ_ s'' hq=>?_) (λ_ _ z=>z.elim)
 ·obtain⟨k1,⟨_,_,k2⟩,k3,k4⟩:=hL;exact⟨h',rfl,⟨k1,hB,k2,k3⟩,k4⟩
 ·obtain⟨⟨h'',rfl,fl,up⟩,kd⟩:=hq;obtain⟨o',eo',od'⟩:=kd e oe he;rw[hc]at fl;refine⟨oe.dict,⟨e,.ref C,a0,_,H1,rfl,I.os,I.bare,?_,I.hok.back b2 fl.1,fl,λb o q hb=>?_,λb x q=>?_,hn,hs,hE⟩,e,o',rfl,eo',od'⟩
  ·exact I.base.back (λb o q hb=>let⟨o',q1,q2⟩:=b1 b o q hb;⟨o',q1,fl.1 _ _ q2⟩) I.ok.frf fd up
  ·obtain⟨o',q1,q2⟩:=b1 b o q hb;exact⟨o',fl.1 _ _ q2,q2⟩
  ·obtain⟨o',q1,q2⟩:=b2 b x q;exact⟨o',fl.1 _ _ q2,q2⟩
theorem AF{E':XK}{e:Value}{s2:Shared}(I:Inv (bH (CXV P w) P w K mg base N qual scope f cd A outer s H E) pins σ H1 s1)(h:CXV P w (bH (CXV P w) P w K mg base N qual scope f cd A outer s H E).stack H1 s1 E' e s2)(hE:∀c d H',E' c d H'->E c d H') :
 (bH (CXV P w) P w K mg base N qual scope f cd A outer s H E).xe e s2:=by
 obtain⟨d,hW,ea,ob,rfl,eo,ed⟩:=h;have I':Inv (bH (CXW P w) P w K mg base N qual scope f cd A outer s H (λc _ H'=>E c d H')) pins σ H1 s1:=(I.wish (bH (CXW P w) P w K mg base N qual scope f cd A outer s H (λc _ H'=>E c d H')).xe);have x:=AH (E':=λc _ H'=>E' c d H') I' hW (λc _ H' z=>hE c d H' z);have x':wpAny (model P w) (A.deeper (envOfC qual scope s.heap.objs.size f cd)) (leaving (envOfC qual scope s.heap.objs.size f cd) (.ref ea)) (λ_ s''=>CXW P w outer H s (λc _ H'=>E c d H') (.ref ea) s'') (λe' s''=>CXW P w outer H s (λc _ H'=>E c d H') e' s'') s2:=x;refine wpAny_mono (ik (E':=λ_ _=>False) (rE _ _) x') (λ_ s'' hq=>?_) (λ_ _ z=>z.elim);obtain⟨h1,kd⟩:=hq;obtain⟨o',eo',od'⟩:=kd ea ob eo;exact⟨d,h1,ea,o',rfl,eo',od'.trans ed⟩
theorem D6{E':XK}(hE:∀c d H',E' c d H'->E c d H'):eZ (CXV P w) (bH (CXV P w) P w K mg base N qual scope f cd A outer s H E) E':=λ_ _ _ _ _ _ I h=>AF I h hE
theorem wT{X:Cx}:eZ (CXV X.prog X.w) X E0:=λ_ _ _ _ _ _ _ h=>by obtain⟨_,h,_⟩:=h;obtain⟨_,_,_,_,_,_,_,_,_,_,_,_,_,_,_,z⟩:=h;exact z.elim
end
section
variable {X:Cx}{pins:List (Addr×Obj)}{σ:St}{H:Hp}{s:Shared}{a C:Addr}{f:Str}
end
section
variable {X:Cx}{o value:Expr}{f:Str}{pos pos':Pos}{ta tv:TE}
end
section
variable {X:Cx}{pins:List (Addr×Obj)}{σ:St}{H:Hp}{s:Shared}{a:Addr}{φ:Heap->Prop}
end
section
variable {P:Program}{w:World}{K:PySem.W.Frag}{mg:Str->Option Value}{base:Heap}{N:List Str}{qual:Str}{scope:Scope}{f:Addr}{cd:Value}{A:Around}{outer:List Env}{s:Shared}{H:Hp}{E:XK}
end
section
variable {P:Program}{w:World}{K:PySem.W.Frag}{mg:Str->Option Value}{base:Heap}
theorem Fun.okV{x qual:Str}{st:Stmt}{f:Addr}{fd:FuncData}{N ps:List Str}{k:Nat}{sp:Sp}(F:Fun K x qual st f fd)(S:FnScope N ps (al st))(len:∀vs H Q E,sp vs H Q E->vs.length=ps.length)
 (hbody:∀(cdv:Value) (A:Around) (outer:List Env) (s:Shared) (H:Hp) (vs:List V) (Q:VK) (E:XK),Room k (A.deeper (envOfC qual (al st) s.heap.objs.size f cdv))->sp vs H Q E ->
   ∃t,PSs (bH (CXV P w) P w K mg base N qual (al st) f cdv A outer s H E) (bU st) t/\t { nx:=λ_ H'=>Q .non H',rt:=Q } (start N vs) H):FnOk P w K mg base (CXV P w) (k+1) f fd ps sp:=by
 obtain⟨oc,od,kV,doc,pm,an,cdv,ct,osl,rfl,lk,hcd⟩:=F.ex;exact ki lk hcd S len λA outer s H vs Q E hr hsp=>hbody cdv A outer s H vs Q E hr hsp
theorem FunD.okV{x qual:Str}{st:Stmt}{dV:Value}{f:Addr}{fd:FuncData}{N ps:List Str}{k:Nat}{sp:Sp}(F:FunD K x qual st dV f fd)(S:FnScope N ps (al st))(len:∀vs H Q E,sp vs H Q E->vs.length=ps.length)
 (hbody:∀(cdv:Value) (A:Around) (outer:List Env) (s:Shared) (H:Hp) (vs:List V) (Q:VK) (E:XK),Room k (A.deeper (envOfC qual (al st) s.heap.objs.size f cdv))->sp vs H Q E ->
   ∃t,PSs (bH (CXV P w) P w K mg base N qual (al st) f cdv A outer s H E) (bU st) t/\t { nx:=λ_ H'=>Q .non H',rt:=Q } (start N vs) H):FnOk P w K mg base (CXV P w) (k+1) f fd ps sp:=by
 obtain⟨oc,od,kV,doc,pm,an,cdv,ct,osl,rfl,lk,hcd⟩:=F.ex;exact ki lk hcd S len λA outer s H vs Q E hr hsp=>hbody cdv A outer s H vs Q E hr hsp
end
section
variable {P:Program}{w:World}{K:PySem.W.Frag}{mg:Str->Option Value}{base:Heap}{N:List Str}{qual:Str}{scope:Scope}{f:Addr}{cd:Value}{A:Around}{outer:List Env}{s:Shared}{H:Hp}{E:XK}
theorem DK{x:Str}{C:Addr}{bm:List Value}{Bn newId initId:String}{np cpos pos:Pos}(hg:Gl (bH (CXV P w) P w K mg base N qual scope f cd A outer s H E) x)(O:OwnCls x C bm newId mg base)(FB:ExcBaseFacts Bn newId initId bm)(hd:(x == ("__debug__":Str))=false:=by decide) :
 PS (bH (CXV P w) P w K mg base N qual scope f cd A outer s H E) (.Raise (some (.Call (.Name x np) [] [] cpos)) none pos) (Bq E (.ref C)):=by
 intro pins s1 σ H1 D I h;obtain⟨tl,NN,nm,q,bs,hdct,sn,sub,ab,col,dd,k0,k1,k2,k3,k5,mN,hC,hN,hni,T⟩:=O.obj
 refine wpAny_Raise_call_subT (C:=C) (nm:=nm) (q:=q) (N:=NN) (bs:=bs) (bm:=tl) (hdct:=hdct) (sn:=sn) (sub:=sub) (ab:=ab) (col:=col) (dd:=dd) (k0:=k0) (k1:=k1) (k2:=k2) (k3:=k3) (k5:=k5)
  FB (mN:=mN) (T.hasType FB.hasBase) (I.ok.hd rfl) rfl hni (iP I hg O.bound ⟨rfl,?_⟩ hd)
 refine evalArgs_empty ⟨rfl,P6 _,I.bk _ _ hC,hN.keeps I.bk,T.keeps I.bk,λh' e hx=>?_⟩;obtain⟨t,he,_,_⟩:=hx.there;have I2:Inv (bH (CXV P w) P w K mg base N qual scope f cd A outer s H E) pins σ H1 { s1 with heap:=h' }:=I.kept (t':=s1.toks) hx.keeps
 have hn:H1 e=none:=by
  cases z:H1 e with
  |none=>rfl
  |some o=>obtain⟨o',z'⟩:=wY (I.hok e o z);rw[hx.new]at z';cases z'
 have hs:s.heap.get? e=none:=by
  cases z:s.heap.get? e with
  |none=>rfl
  |some o=>obtain⟨o',z'⟩:=I.base.there e o z (λz=>nomatch z);rw[hx.new]at z';cases z'
 exact AE I2 he rfl rfl rfl rfl hn hs h
end
def PXV(X:Cx)(x:Expr)(tx:XK->TE):Prop:=∀(W:Value->Shared->Prop) (pins:List (Addr×Obj)) (σ:St) (s:Shared) (H:Hp) (Q:VK) (E:XK),Af (CXV X.prog X.w) (X.wish W) pins σ E->Inv (X.wish W) pins σ H s->tx E σ H Q ->
 wpAny (model X.prog X.w) X.A (eval x X.env) (EP (X.wish W) pins σ Q) W s
def MQ(K:PySem.W.Frag)(R:Addr)(i:Nat)(th:Addr->Obj->TS)(D:Ends)(σ:St):XK:=λcls d H'=>PySem.W.exmOne K cls (.ref R)=some true /\
 ∀ea oe vs,oe.cls=cls->oe.dict=d->oe.data=.fields vs->H' ea=none->th ea oe { nx:=λσ'' H''=>D.nx (σ''.set i none) H'',rt:=λ_ _=>False,bk:=λ_ _=>False,ct:=λ_ _=>False } (σ.set i (some (.ref ea))) H'
section
variable {X:Cx}{k:Nat}{f R R2:Addr}{fd:FuncData}{ps:List Str}{sp:Sp}{dvs:List V}{ds:List Value}{r r2 n n2 x:Str}{p pos epos np hpos np2 hpos2:Pos}{e ex:Expr}{es:List Expr}{t:TA}{i i2:Nat}{b₀ b₂:Stmt}{suite suite2:List Stmt}{th th2:Addr->Obj->TS}{tx:XK->TE}
theorem KK{L:Addr}{pins:List (Addr×Obj)}{σ:St}{H1 H2:Hp}{s1 s2:Shared}{B:Heap}{ea:Addr}{cls a0:Value}{d:Option Addr}{hs:List ExceptHandler}{Q:Flow->Shared->Prop}(hstk:X.stack=X.env::X.outer)(hfr:X.env.frame=some L)(I1:Inv X pins σ H1 s1)(os:s2.os=s1.os)(bare:AllBare s2.gens)(un:Un (frs X.stack) [] H1 H2 s1.heap s2.heap)(hok:HOk X.prog X.w H2 s2.heap)(fl:Heap.FlyingW B X.stack ea cls a0 s2.heap)
 (b1:∀b o,s1.heap.get? b=some o->b∉frs X.stack->∃o',s2.heap.get? b=some o'/\B.get? b=some o') (b2:∀b x,H2 b=some x->∃o',s2.heap.get? b=some o'/\B.get? b=some o') (hea:H2 ea=none) (hnew:s1.heap.get? ea=none) (hd:∃ob,s2.heap.get? ea=some ob/\ob.dict=d)
 (k:∀h4 oe vs,Heap.FlyingW B (X.env::X.outer) ea cls a0 h4->oe.cls=cls->oe.dict=d->oe.data=.fields vs->Inv (cxH X ea oe) pins σ H2 { s2 with heap:=h4 }->(∀h5,B.StaysIn h5->h4.UpToSlots h5->Inv X pins σ H2 { s2 with heap:=h5 })->wpAny (model X.prog X.w) X.A (handleBy (.ref ea) X.env hs) Q X.xe { s2 with heap:=h4 }) :
 wpAny (model X.prog X.w) X.A (noteFrame (.ref ea) X.env) (λ_ s₂=>wpAny (model X.prog X.w) X.A (setFlight (.ref ea) none) (λ_ s₃=>wpAny (model X.prog X.w) X.A (handleBy (.ref ea) X.env hs) Q X.xe s₃) X.xe s₂) X.xe s2:=by
 obtain⟨ob,eob,dob⟩:=hd;have fl0:Heap.FlyingW B (X.env::X.outer) ea cls a0 s2.heap:=by rw[<- hstk];exact fl
 refine wpAny_mono (ik (E':=λ_ _=>False) (xB _ _) (wpAny_looks_onW (E:=λ_ _=>False) (L:=L) (Q:=λ_ s'=>∃h3,s'={ s2 with heap:=h3 }/\Heap.HeldW B (X.env::X.outer) ea cls a0 L h3/\s2.heap.UpToSlots h3) (by rw[I1.ok.frames,hstk]) hfr fl0 λh3 hd3 up3=>⟨h3,rfl,hd3,up3⟩)) (λ_ s' hq=>?_) λ_ _ z=>z.elim
 obtain⟨⟨h3,rfl,hd3,up3⟩,kd3⟩:=hq;obtain⟨o3,e3,d3⟩:=kd3 ea ob eob;refine wpAny_mono (ik (E':=λ_ _=>False) (rB _ _) (wpAny_landsW (E:=λ_ _=>False) (Q:=λ_ s'=>∃h4,s'={ s2 with heap:=h4 }/\Heap.FlyingW B (X.env::X.outer) ea cls a0 h4/\h3.UpToSlots h4) hd3 λh4 fl4 up4=>⟨h4,rfl,fl4,up4⟩)) (λ_ s' hq=>?_) λ_ _ z=>z.elim
 obtain⟨⟨h4,rfl,fl4,up4⟩,kd4⟩:=hq;obtain⟨o4,e4,d4⟩:=kd4 ea o3 e3;have up04:=up3.trans up4;have J4:Inv X pins σ H2 { s2 with heap:=h4 }:=zB I1 os bare un hok fl b1 b2 fl4.1 up04
 have neL:ea≠X.env.locals:=λz=>by obtain⟨mm,hn',_⟩:=I1.loc;obtain⟨oL,_,_,hoL,_⟩:=hn';rw[<- z,hnew]at hoL;cases hoL
 have neF:ea∉X.fs:=λz=>by obtain⟨_,o',e',_⟩:=I1.funs.mem z;rw[hnew]at e';cases e'
 obtain⟨oe4,vs4,ge4,ce4,de4,_⟩:=fl4.first;have e4':h4.get? ea=some o4:=e4;have eo:oe4=o4:=Option.some.inj (ge4.symm.trans e4');exact k h4 oe4 vs4 fl4 ce4 (by rw[eo];exact(d4.trans d3).trans dob) de4 (J4.held ge4 hea neL neF (λv z=>by rw[de4]at z;cases z)) λh5 st up5=>zB I1 os bare un hok fl b1 b2 st (up04.trans up5)
theorem BG{pins:List (Addr×Obj)}{σ:St}{H2:Hp}{s2:Shared}{D:Ends}{B h4:Heap}{ea:Addr}{cls a0:Value}{d:Option Addr}{oe4:Obj}(hok0:X.Ok)(fl4:Heap.FlyingW B (X.env::X.outer) ea cls a0 h4)(hc4:h4.get? ea=some oe4)(hd4:oe4.dict=d)(J:∀h5,B.StaysIn h5->h4.UpToSlots h5->Inv X pins σ H2 { s2 with heap:=h5 })
 (hea:H2 ea=none) (neL:ea≠X.env.locals) (neF:ea∉X.fs) (hN:X.N.Nodup) (hi:X.N[i]?=some n) (hk:X.env.scope.names.lookup n=some .local) (hsu:∀ea oe,PSs (cxH X ea oe) (b₀::suite) (th ea oe))
 (hth:∀ea oe vs,oe.cls=cls->oe.dict=d->oe.data=.fields vs->H2 ea=none->th ea oe { nx:=λσ'' H''=>D.nx (σ''.set i none) H'',rt:=λ_ _=>False,bk:=λ_ _=>False,ct:=λ_ _=>False } (σ.set i (some (.ref ea))) H2) :
 wpAny (model X.prog X.w) (X.A.mark (some (.ref ea))) (setFlight (.ref ea) none) (λ_ s5=>∃oe5,Inv (cxH X ea oe5) pins σ H2 s5/\th ea oe5 { nx:=λσ'' H''=>D.nx (σ''.set i none) H'',rt:=λ_ _=>False,bk:=λ_ _=>False,ct:=λ_ _=>False } (σ.set i (some (.ref ea))) H2) (λ_ _=>False) { s2 with heap:=h4 }:=by
 refine wpAny_mono (ik (E':=λ_ _=>False) (rB _ _) (lands_againW (s:={ s2 with heap:=h4 }) (E:=λ_ _=>False) (Q:=λ_ s'=>∃h5,s'={ s2 with heap:=h5 }/\Heap.FlyingW B (X.env::X.outer) ea cls a0 h5/\h4.UpToSlots h5) fl4 λh5 fl5 up5=>⟨h5,rfl,fl5,up5⟩)) (λ_ s' hq=>?_) λ_ _ z=>z.elim
 obtain⟨⟨h5,rfl,fl5,up5⟩,kd5⟩:=hq;obtain⟨o5,e5,d5⟩:=kd5 ea oe4 hc4;obtain⟨oe5,vs5,ge5,ce5,de5,_⟩:=fl5.first;have e5':h5.get? ea=some o5:=e5;have eo:oe5=o5:=Option.some.inj (ge5.symm.trans e5');exact⟨oe5,(J h5 fl5.1 up5).held ge5 hea neL neF (λv z=>by rw[de5]at z;cases z),hth ea oe5 vs5 ce5 (by rw[eo];exact d5.trans hd4) de5 hea⟩
end
structure CalV(P:Program)(w:World)(K:PySem.W.Frag)(mg:Str->Option Value)(base:Heap)(k:Nat)(x:Str)(ps:List Str)(sp:Sp)(f:Addr)(fd:FuncData):Prop where
 ok:FnOk P w K mg base (CXV P w) k f fd ps sp
 mg:mg x=some (.ref f)
 kp:PySem.W.keepIn K (.ref f)=true
 bd:Binds K fd ps []
def PBV(X:Cx)(ss:List Stmt)(tb:XK->TS):Prop:=∀(W:Value->Shared->Prop) (pins:List (Addr×Obj)) (σ:St) (s:Shared) (H:Hp) (D:Ends) (E:XK),Af (CXV X.prog X.w) (X.wish W) pins σ E->Inv (X.wish W) pins σ H s->tb E D σ H ->
 wpAny (model X.prog X.w) X.A (execs ss X.env) (SP (X.wish W) pins D) W s
noncomputable def wZ(D:Ends):Ends:={ nx:=D.nx,rt:=λ_ _=>False,bk:=λ_ _=>False,ct:=λ_ _=>False }
section
variable {X:Cx}{k:Nat}{f R R2:Addr}{fd:FuncData}{ps:List Str}{sp:Sp}{dvs:List V}{ds:List Value}{r r2 n n2 x:Str}{p pos pos' epos np hpos np2 hpos2:Pos}{c e ex:Expr}{es:List Expr}{t:TA}{i i2:Nat}{b₀ b₂:Stmt}{suite suite2 sa sb body:List Stmt}{th th2:Addr->Obj->TS}{tx:XK->TE}{tc:TT}{ta tb:XK->TS}
theorem D5(hx:PXV X ex tx)(hN:X.N.Nodup)(hi:X.N[i]?=some x)(hl:Loc X.env.scope x)(hs:swapsWith ex (some (.Name x pos')) pos.line X.env=pure false:=by rfl)(hf:X.fn x=true\/X.env.scope.names.lookup x=some .local:=by first |exact .inl rfl |exact .inr rfl |assumption) :
 PBV X [.Assign [.Name x pos'] ex pos] (λE=>cZ (tx E) (cS i)):=by
 intro W pins σ s H D E hp I h;refine wpAny_execs_cons ?_;refine wpAny_Assign_Name (thn (hx W pins σ s H _ E hp I h) λv s1 ⟨y,H1,I1,r1,q1⟩=>?_) hs;exact lG (X:=X.wish W) I1 hN hi hl r1 (λs2 I2=>wpAny_execs_nil ⟨_,H1,I2,q1⟩) hf
end
noncomputable def NT(H:Hp):Hp:=λb=>match H b with
 |some (.tbl _)=>none
 |o=>o
theorem fC{H:Hp}{b:Addr}{o:HO}(h:NT H b=some o):H b=some o/\∀ps,o≠.tbl ps:=by
 unfold NT at h
 split at h
 ·cases h
 ·next z=>exact⟨h,λps e=>z ps (by rw[h,e])⟩
theorem fD{H:Hp}{b:Addr}{o:HO}(h:H b=some o)(n:∀ps,o≠.tbl ps):NT H b=some o:=by
 unfold NT;split
 ·next ps e=>rw[h]at e;exact absurd (Option.some.inj e) (n ps)
 ·exact h
def SameT(H H':Hp):Prop:=Same (NT H) (NT H')
theorem SameT.refl(H:Hp):SameT H H:=Same.refl _
theorem SameT.trans{H H1 H2:Hp}(a:SameT H H1)(b:SameT H1 H2):SameT H H2:=Same.trans a b
theorem Same.t{H H':Hp}(s:Same H H'):SameT H H':=λb o h=>by obtain⟨e,n⟩:=fC h;exact fD (s b o e) n
noncomputable def ay(a:Addr)(o:Obj):HO:=.ext λh=>h.get? a=some o
theorem ly{P:Program}{w:World}{H:Hp}{h:Heap}{a:Addr}{o:Obj}(e:h.get? a=some o):ObjOk P w H h a (ay a o):=⟨e,⟨o,e⟩,λ_ _ p k=>k o p⟩
theorem fg{P:Program}{w:World}{H:Hp}{h:Heap}{a:Addr}{o:Obj}(x:ObjOk P w H h a (ay a o)):h.get? a=some o:=x.1
theorem ij(a:Addr)(o:Obj):∀ps,ay a o≠.tbl ps:=λ_ h=>nomatch h
def ut(oc:Obj)(qual:Str):Prop:=∃vs t,oc.data=.fields vs/\vs[1]?=some (.str qual t)
structure Site where
 tab:Addr
 pos:Pos
 qual:Str
def L5(H:Hp)(q:Site):Prop:=∃ps,H q.tab=some (.tbl ps)/\TriplesOk ps.toList/\(codeAmong q.pos ps.toList=none\/∃c oc,codeAmong q.pos ps.toList=some (.ref c)/\H c=some (ay c oc)/\ut oc q.qual)
def TabsOk(T:List Site)(H:Hp):Prop:=∀q∈T,L5 H q
theorem TabsOk.same{T:List Site}{H H':Hp}(t:TabsOk T H)(s:Same H H'):TabsOk T H':=λq hq=>by
 obtain⟨ps,e,ht,h⟩:=t q hq;refine⟨ps,s _ _ e,ht,?_⟩;rcases h with h |⟨c,oc,h1,h2,h3⟩
 ·exact .inl h
 ·exact .inr ⟨c,oc,h1,s _ _ h2,h3⟩
noncomputable def CloO(H:Hp)(f:Addr)(qual:Str)(params:Arguments)(body:Expr)(scope:Scope)(clos:List (Str×Addr)):Prop :=
 ∃c oc pm ctv,H f=some (ay f (PySem.W.kla_obj "<lambda>" qual params body scope clos pm c ctv))/\H c=some (ay c oc)/\ut oc qual
theorem CloO.sameT{H H':Hp}{f:Addr}{qual:Str}{params:Arguments}{body:Expr}{scope:Scope}{clos:List (Str×Addr)}(h:CloO H f qual params body scope clos)(s:SameT H H'):CloO H' f qual params body scope clos:=by obtain⟨c,oc,pm,ctv,h1,h2,h3⟩:=h;exact⟨c,oc,pm,ctv,(fC (s _ _ (fD h1 (ij _ _)))).1,(fC (s _ _ (fD h2 (ij _ _)))).1,h3⟩
def LmB(mg:Str->Option Value)(base:Heap):Prop:=∃bm ob,mg "__builtins__"=some (.ref bm)/\bm≠builtinsNs/\base.get? bm=some ob/\ob.cls=.type "module"/\ob.dict=some builtinsNs/\ob.data=.plain
theorem A7{a b:Int}{t u:Nat}{c:Value}(l:List Value)(h:TriplesOk l):TriplesOk (l++[.int a t,.int b u,c]):=by
 fun_induction TriplesOk l with
 |case1=>exact trivial
 |case2 a t b u x rest ih=>exact ih h
 |case3 l h1 h2=>exact h.elim
section
variable {X:Cx}{pins:List (Addr×Obj)}{σ:St}{H:Hp}{s:Shared}
theorem Inv.table{P c:Addr}{ps more:Array Value}{oc:Obj}{h':Heap}{t':Nat}(I:Inv X pins σ H s)(hP:H P=some (.tbl ps))(x:Heap.ExtBut P s.heap h')(hc:s.heap.objs.size<=c)(hoc:h'.get? c=some oc)(ht:h'.get? P=some { cls:=.none,data:=.fields (ps++more) }) :
 Inv X pins σ (upd (upd H P (.tbl (ps++more))) c (ay c oc)) { s with heap:=h',toks:=t' }:=by
 have hcn:H c=none:=I.hok.fresh hc;have hcP:c≠P:=λz=>by rw[z,hP]at hcn;cases hcn
 have old:∀{b:Addr} {o:Obj},s.heap.get? b=some o->b≠c:=λ{b o} e z=>absurd (Qi (Heap.lt_size e) hc) (by rw[z];exact Qt _)
 have nP:∀{b:Addr},H b=none->b≠P:=λ{b} e z=>by rw[z,hP]at e;cases e
 have up:∀{b:Addr},b≠c->b≠P->upd (upd H P (.tbl (ps++more))) c (ay c oc) b=H b:=λh1 h2=>by rw[upd_ne h1,upd_ne h2]
 have trk:∀{b:Addr} {u:HO},H b=some u->b≠c:=λ{b u} e z=>by rw[z,hcn]at e;cases e
 refine I.step (g':=s.gens) (d':=s.drawn) (ch:=[]) (λ_ z=>nomatch z) (λb o _ _ _ e n=>x b o (nP n) e) (λb o _ _ _ e n=>⟨o.slots,x b o (nP n) e⟩) (λb o _ e n=>by rw[up (old e) (nP n)];exact n) (λb o _ e=>?_)
  (λb xs e=>?_) (λb o u e=>?_) (λb qs e=>?_) (λm hm=>?_) (λb u e=>?_) I.bare
 ·by_cases z:b=P
  ·subst z;exact⟨_,ht⟩
  ·exact⟨o,x b o z e⟩
 ·rw[up (trk e) (λz=>by rw[z,hP]at e;cases e)];exact e
 ·rw[up (trk e) (λz=>by rw[z,hP]at e;cases e)];exact e
 ·by_cases z:b=P
  ·subst z;rw[hP]at e;cases e;exact⟨more,by rw[upd_ne (Ne.symm hcP),ak]⟩
  ·exact⟨#[],by rw[up (trk e) z,e];simp⟩
 ·obtain⟨o,es,ep,ho,r⟩:=hm;exact⟨o,es,ep,x _ o (nP I.free) ho,r⟩
 ·by_cases z:b=c
  ·subst z;rw[ak]at e;cases e;exact ly hoc
  ·rw[upd_ne z]at e;by_cases y:b=P
   ·subst y;rw[ak]at e;cases e;exact ht
   ·rw[upd_ne y]at e;refine(I.hok b u e).stay (λd v hd q=>x d v ?_ q) (λd q=>?_) λd xs q=>?_
    ·rcases hd with rfl |hd
     ·exact y
     ·intro w;rw[w,hP]at hd;cases hd
    ·rw[up (trk q) (λw=>by rw[w,hP]at q;cases q)];exact q
    ·rw[up (trk q) (λw=>by rw[w,hP]at q;cases q)];exact q
theorem qJ{b:Addr}{o:HO}(h:H b=none):SameT H (upd H b o):=(Same.upd_new h).t
theorem CV{P:Addr}{ps qs:Array Value}(h:H P=some (.tbl ps)):SameT H (upd H P (.tbl qs)):=λb o e=>by
 obtain⟨e1,n⟩:=fC e;have:b≠P:=λz=>by rw[z,h]at e1;exact n ps (Option.some.inj e1).symm
 exact fD (by rw[upd_ne this];exact e1) n
def Bz(X:Cx)(T:List Site)(q:Site)(params:Arguments)(body:Expr)(scope:Scope)(clos:List (Str×Addr)):TE:=λ_ H Q=>TabsOk T H /\
 ∀(f:Addr) (H':Hp),SameT H H'->H f=none->TabsOk T H'->CloO H' f q.qual params body scope clos->Q (.ref f) H'
theorem jy{T:List Site}{q:Site}{params:Arguments}{body:Expr}{scope:Scope}{clos:List (Str×Addr)}{c:Addr}{pos:Pos}(hB:LmB X.mg X.base)(C:PySem.W.CodeHd X.base c q.tab)(hcd:X.env.code=.ref c)(hq:q∈T)(hd:∀r∈T,r.tab=q.tab->r=q)(hp:q.pos=pos)(hn:q.qual=X.env.qual++"<lambda>")
 (hcl:closureFor scope X.env=pure clos) (hdf:defaultsOf params X.env=([],[]):=by rfl):PE X (.Lambda params body scope pos) (Bz X T q params body scope clos):=by
 intro pins s σ H Q I h;obtain⟨ht,k⟩:=h;obtain⟨ps,e,tr,hh⟩:=ht q hq;have hPs:s.heap.get? q.tab=some (PySem.W.tabObj ps):=I.hok _ _ e;have CC:=C.keeps I.bk;have hg:=I.mod.glob.keeps I.bk;obtain⟨bm,ob,b1,b2,b3,b4,b5,b6⟩:=hB
 have hgP:mainGlobals≠q.tab:=λz=>by obtain⟨o,es,ep,e1,hd,_⟩:=hg;rw[z,hPs]at e1;cases e1;cases hd
 have hbP:bm≠q.tab:=λz=>by have:=(I.bs _ _ b3).2;rw[z,e]at this;cases this
 have hbG:bm≠mainGlobals:=λz=>by obtain⟨o,es,ep,e1,hd,_⟩:=I.mod.glob;rw[z,e1]at b3;cases b3;rw[hd]at b6;cases b6
 have hBA:s.heap.BuiltinsAt X.mg q.tab:=⟨bm,ob,b1,b2,hbG,hbP,I.bk _ _ b3,b4,b5,b6⟩;refine PySem.W.kla_eval hdf ?_;rw[<- hn,<- hp];rcases hh with hno |⟨c0,oc,hhit,hc0,co⟩
 ·refine PySem.W.kla_makeFunction (mg:=X.mg) hcl I.ok.glob hg hcd CC hPs tr hno hgP hBA λc' ctv h' tk x hge hlt hrec htb=>?_
  obtain⟨c2,oc,vs,t,e2,hoc,hda,hv⟩:=hrec;cases e2;have I1:=I.table (t':=tk) e x hge hoc htb;have hcn:H c'=none:=I.hok.fresh hge;have hfn:upd (upd H q.tab (.tbl (ps++#[rawInt q.pos.line,rawInt q.pos.col,.ref c']))) c' (ay c' oc) h'.objs.size=none:=I1.hok.fresh (PZ _);have I2:=I1.laid (t':=tk) (a:=h'.objs.size) (h':=h'.push (PySem.W.kla_obj "<lambda>" q.qual params body scope clos ((X.mg "__name__").getD .none) c' ctv)) (λb u e=>Heap.get?_push_of_some _ e) (PZ _) (ly (Heap.get?_push_size _ rfl));have hcP:c'≠q.tab:=λz=>by rw[z,e]at hcn;cases hcn
  have hn1:upd H q.tab (.tbl (ps++#[rawInt q.pos.line,rawInt q.pos.col,.ref c'])) c'=none:=by rw[upd_ne hcP];exact hcn
  have sT:SameT H (upd (upd (upd H q.tab (.tbl (ps++#[rawInt q.pos.line,rawInt q.pos.col,.ref c']))) c' (ay c' oc)) h'.objs.size (ay h'.objs.size (PySem.W.kla_obj "<lambda>" q.qual params body scope clos ((X.mg "__name__").getD .none) c' ctv))) :=
   (CV e).trans ((qJ hn1).trans (qJ hfn))
  have hf0:H h'.objs.size=none:=by
   cases y:H h'.objs.size with
   |none=>rfl
   |some u =>
    have hcl':h'.objs.size≠c':=Nat.ne_of_gt hlt;rw[upd_ne hcl']at hfn;by_cases w:h'.objs.size=q.tab
    ·rw[w,ak]at hfn;cases hfn
    ·rw[upd_ne w,y]at hfn;cases hfn
  refine⟨.ref h'.objs.size,_,I2,rfl,k _ _ sT hf0 (λr hr=>?_) ⟨c',oc,_,ctv,ak,by rw[upd_ne (Qf hlt),ak],vs,t,hda,hv⟩⟩;by_cases y:r.tab=q.tab
  ·obtain rfl:=hd r hr y;refine⟨ps++#[rawInt r.pos.line,rawInt r.pos.col,.ref c'],?_,?_,.inr ⟨c',oc,?_,by rw[upd_ne (Qf hlt),ak],vs,t,hda,hv⟩⟩
   ·have n1:r.tab≠h'.objs.size:=λz=>by rw[<- z,e]at hf0;cases hf0
    rw[upd_ne n1,upd_ne (Ne.symm hcP),ak]
   ·rw[Array.toList_append];exact A7 _ tr
   ·rw[Array.toList_append];exact codeAmong_snoc _ tr hno
  ·obtain⟨qs,e',tr',hh'⟩:=ht r hr
   have kp:∀{b:Addr} {u:HO},H b=some u->b≠q.tab->upd (upd (upd H q.tab (.tbl (ps++#[rawInt q.pos.line,rawInt q.pos.col,.ref c']))) c' (ay c' oc)) h'.objs.size (ay h'.objs.size (PySem.W.kla_obj "<lambda>" q.qual params body scope clos ((X.mg "__name__").getD .none) c' ctv)) b=some u:=λ{b u} e1 nb=>by rw[upd_ne (λz=>by rw[z,hf0]at e1;cases e1),upd_ne (λz=>by rw[z,hcn]at e1;cases e1),upd_ne nb];exact e1
   refine⟨qs,kp e' y,tr',?_⟩;rcases hh' with z |⟨c3,oc3,z1,z2,z3⟩
   ·exact .inl z
   ·exact .inr ⟨c3,oc3,z1,kp z2 (λw=>by rw[w,e]at z2;cases z2),z3⟩
 ·refine PySem.W.kla_makeFunctionHit (mg:=X.mg) hcl I.ok.glob hg hcd CC hPs tr hhit hBA λctv h' tk kp hsz=>?_
  have hfn:H h'.objs.size=none:=I.hok.fresh hsz;have I2:=I.laid (t':=tk) (a:=h'.objs.size) (h':=h'.push (PySem.W.kla_obj "<lambda>" q.qual params body scope clos ((X.mg "__name__").getD .none) c0 ctv)) (λb u e=>Heap.get?_push_of_some _ (kp b u e)) hsz (ly (Heap.get?_push_size _ rfl));refine⟨.ref h'.objs.size,_,I2,rfl,k _ _ (qJ hfn) hfn (ht.same (Same.upd_new hfn)) ⟨c0,oc,_,ctv,ak,by rw[upd_ne (λz=>by rw[z,hfn]at hc0;cases hc0)];exact hc0,co⟩⟩
end
noncomputable def told(l:List (Addr×Obj))(H:Hp):Hp:=λb=>match l.lookup b with
 |some o=>some (ay b o)
 |none=>H b
noncomputable def era(cs:List Addr)(H:Hp):Hp:=λb=>if b∈cs then none else H b
theorem jI{α:Type}{b:Addr}{o:α}:∀{l:List (Addr×α)},l.lookup b=some o->(b,o)∈l
 | [],h=>nomatch h
 | (a,o')::r,h=>by
  rw[Qz]at h;split at h
  ·next z =>
   have:b=a:=by simpa using z
   cases h;subst this;exact Qh
  ·exact Qb _ (jI h)
theorem HB{α:Type}{l:List (Addr×α)}{b:Addr}(h:∀p∈l,p.1≠b):l.lookup b=none:=by
 cases e:l.lookup b with
 |none=>rfl
 |some o=>exact absurd rfl (h _ (jI e))
theorem xR{α:Type}{l:List (Addr×α)}{b:Addr}(h:b∈l.map (·.1)):∃o,l.lookup b=some o:=by
 induction l with
 |nil=>cases h
 |cons p r ih =>
  obtain⟨a,o⟩:=p;by_cases z:b=a
  ·subst z;exact⟨o,by simp[List.lookup]⟩
  ·have hr:b∈r.map (·.1):=by
    rcases P8.mp h with y |y
    ·exact absurd y z
    ·exact y
   obtain⟨o',e⟩:=ih hr;refine⟨o',?_⟩;rw[Qz];have:(b == a)=false:=by simpa using z
   rw[this];exact e
section
variable {P:Program}{w:World}{H H2:Hp}{h h':Heap}{l:List (Addr×Obj)}{fs:List Addr}
theorem fi{b:Addr}(n:∀p∈l,p.1≠b):told l H b=H b:=by unfold told;rw[HB n]
theorem fh{b:Addr}{u:HO}(hn:∀p∈l,H p.1=none)(e:H b=some u):told l H b=some u:=by rw[fi λp hp z=>by have:=hn p hp;rw[z,e]at this;cases this];exact e
theorem uX{p:Addr×Obj}(hg:∀p∈l,h.get? p.1=some p.2)(hp:p∈l):told l H p.1=some (ay p.1 p.2):=by obtain⟨o,e⟩:=xR (QL (f:=(·.1)) hp);unfold told;rw[e];have h1:h.get? p.1=some o:=hg _ (jI e);have h2:=hg p hp;rw[h1]at h2;cases h2;rfl
theorem fY(hn:∀p∈l,H p.1=none):Same H (told l H):=λ_ _ e=>fh hn e
theorem HOk.told(x:HOk P w H h)(hn:∀p∈l,H p.1=none)(hg:∀p∈l,h.get? p.1=some p.2):HOk P w (told l H) h:=λa u e=>by
 unfold L2.told at e
 split at e
 ·next o eo =>cases e;exact ly (hg _ (jI eo))
 ·exact(x a u e).stay (λ_ _ _ q=>q) (λb q=>fh hn q) λb xs q=>fh hn q
theorem HOk.era{cs:List Addr}(x:HOk P w H h)(hx:∀c∈cs,∃o,H c=some (ay c o)):HOk P w (era cs H) h:=λa u e=>by
 unfold L2.era at e
 split at e
 ·cases e
 ·have st:∀{b:Addr} {u:HO},H b=some u->(∀φ,u≠.ext φ)->L2.era cs H b=some u:=λ{b u} q n=>by unfold L2.era;rw[if_neg λz=>by obtain⟨o,eo⟩:=hx b z;rw[q]at eo;exact n _ (Option.some.inj eo)];exact q
  exact(x a u e).stay (λ_ _ _ q=>q) (λb q=>st q λ_ z=>nomatch z) λb xs q=>st q λ_ z=>nomatch z
theorem Un.cells(u:Un fs [] (told l H) H2 h h')(hn:∀p∈l,H p.1=none)(hg:∀p∈l,h.get? p.1=some p.2)(hg':∀p∈l,h'.get? p.1=some p.2):Un fs [] H (era (l.map (·.1)) H2) h h':=by
 have out:∀{b:Addr},b∉l.map (·.1)->told l H b=H b:=λ{b} n=>fi λp hp z=>n (z ▸ QL (f:=(·.1)) hp)
 have inn:∀{b:Addr} {o:Obj},b∈l.map (·.1)->h.get? b=some o->h'.get? b=some o:=λ{b o} hb e=>by obtain⟨p,hp,rfl⟩:=P4.mp hb;rw[hg p hp]at e;cases e;exact hg' p hp
 have off:∀{b:Addr} {v:HO},H b=some v->b∉l.map (·.1):=λ{b v} e hb=>by obtain⟨p,hp,rfl⟩:=P4.mp hb;rw[hn p hp]at e;cases e
 have er:∀{b:Addr},b∉l.map (·.1)->era (l.map (·.1)) H2 b=H2 b:=λ{b} n=>by unfold era;rw[if_neg n]
 refine⟨λb o e n hb hx=>?_,λb o e n hb hx=>?_,λb o e n hx=>?_,λb o e hx=>u.there b o e hx,λb xs e=>?_,λb o v e=>?_,λb ps e=>?_⟩
 ·by_cases z:b∈l.map (·.1)
  ·exact inn z e
  ·exact u.keep b o e (by rw[out z];exact n) hb hx
 ·by_cases z:b∈l.map (·.1)
  ·exact⟨o.slots,inn z e⟩
  ·exact u.slot b o e (by rw[out z];exact n) hb hx
 ·by_cases z:b∈l.map (·.1)
  ·unfold era;rw[if_pos z]
  ·rw[er z];exact u.free b o e (by rw[out z];exact n) hx
 ·rw[er (off e)];exact u.tups b xs (by rw[out (off e)];exact e)
 ·rw[er (off e)];exact u.frzs b o v (by rw[out (off e)];exact e)
 ·obtain⟨m,q⟩:=u.tbls b ps (by rw[out (off e)];exact e);exact⟨m,by rw[er (off e)];exact q⟩
theorem gm{cs:List Addr}{b:Addr}{u:HO}(hx:∀c∈cs,∃o,H c=some (ay c o))(e:H b=some u)(n:∀φ,u≠.ext φ):era cs H b=some u:=by unfold era;rw[if_neg λz=>by obtain⟨o,eo⟩:=hx b z;rw[e]at eo;exact n _ (Option.some.inj eo)];exact e
end
noncomputable def fT(σ:St):List (Str×Addr)->List Nat->List (Addr×Obj)->Prop
 | [],[],[]=>True
 | (_,c)::cl,j::js,(a,o)::l=>a=c/\(∃v u,σ[j]?=some (some v)/\o.data=.cell (some u)/\RelV v u)/\fT σ cl js l
 |_,_,_=>False
noncomputable def p8(X:Cx):List (Str×Addr)->List Nat->Prop
 | [],[]=>True
 | (x,c)::cl,j::js=>X.N[j]?=some x/\X.env.cells.lookup x=some c/\X.env.scope.names.lookup x=some .cell/\X.fn x=true/\p8 X cl js
 |_,_=>False
section
variable {X:Cx}{CX:CXT}{k:Nat}{f:Addr}{fd:FuncData}{ps:List Str}{sp:Sp}{dvs:List V}{ds:List Value}{E:XK}{x:Str}{p pos:Pos}{e:Expr}{es:List Expr}{t:TA}{pins:List (Addr×Obj)}{σ:St}{H:Hp}{s:Shared}
theorem Inv.cels(I:Inv X pins σ H s):∀{cl:List (Str×Addr)} {js:List Nat},p8 X cl js->(∀j∈js,∃v,σ[j]?=some (some v)) ->
 ∃l,fT σ cl js l/\(∀p∈l,s.heap.get? p.1=some p.2/\H p.1=none/\X.s₀.heap.objs.size<=p.1/\p.1≠X.env.locals)
 | [],[],_,_=>⟨[],trivial,λ_ h=>nomatch h⟩
 | (x,c)::cl,j::js,⟨h1,h2,h3,h4,h5⟩,hv=>by
  obtain⟨l,hl,hk⟩:=I.cels h5 λj hj=>hv j (Qb _ hj)
  obtain⟨v,ev⟩:=hv j Qh;obtain⟨m,hn,hlo⟩:=I.loc;obtain⟨u,ru,lk⟩:=hlo j x v h1 ev (.inr (.inl h3));rcases lk with⟨z,_⟩ |⟨_,c',ec,o,ho,hd⟩
  ·have z':X.env.scope.names.lookup x=some .local:=z;rw[h3]at z';cases z'
  ·rw[h2]at ec;cases ec;refine⟨(c,o)::l,⟨rfl,⟨v,u,ev,hd,ru⟩,hl⟩,λp hp=>?_⟩;rcases P8.mp hp with rfl |hp
   ·exact⟨ho,I.freeC x c h2,I.ok.cab x c h4 h2,I.cne x c h2⟩
   ·exact hk p hp
 | [],_::_,h,_=>h.elim
 |_::_,[],h,_=>h.elim
def tY(CX:CXT)(X:Cx)(E:XK):Prop:=∀(pins:List (Addr×Obj)) (σ:St) (H:Hp) (s:Shared) (l:List (Addr×Obj)) (e:Value) (s':Shared),Inv X pins σ H s->(∀p∈l,s.heap.get? p.1=some p.2/\H p.1=none/\X.s₀.heap.objs.size<=p.1/\p.1≠X.env.locals)->CX X.stack (told l H) s E e s'->X.xe e s'
theorem jB:tY CX0 X E:=λ_ _ _ _ _ _ _ _ _ h=>h.elim
theorem Inv.envX{l:List (Addr×Obj)}(I:Inv X pins σ H s)(hk:∀p∈l,s.heap.get? p.1=some p.2/\H p.1=none/\X.s₀.heap.objs.size<=p.1/\p.1≠X.env.locals):Env0 X.prog X.w X.K X.mg X.base X.A X.stack s (told l H):=by
 have e0:=I.env0;refine⟨e0.frames,e0.mod,λb o e=>⟨(e0.bs b o e).1,?_⟩,e0.bsz,e0.funs,λb hb=>?_,e0.hok.told (λp hp=>(hk p hp).2.1) λp hp=>(hk p hp).1,e0.bare⟩
 ·rw[fi λp hp z=>?_]
  ·exact(e0.bs b o e).2
  ·have h1:=(hk p hp).2.2.1;have h2:=Heap.lt_size e;have h3:=I.ok.bsz;rw[z]at h1;exact absurd (Qi h2 (Qu h3 h1)) (Qt _)
 ·rw[fi λp hp z=>?_]
  ·exact e0.frf b hb
  ·rcases P8.mp (I.stkSub b hb)with y |y
   ·exact(hk p hp).2.2.2 (z.trans y)
   ·obtain⟨_,o,ho,_⟩:=I.ok.funs.mem y;have h1:=(hk p hp).2.2.1;rw[z]at h1;exact absurd (Qi (Heap.lt_size ho) h1) (Qt _)
def BC(cl:List (Str×Addr))(js:List Nat)(sp:Sp)(dvs:List V)(E:XK)(t:TA):TE:=λσ H Q=>t σ H λvs H1=>(∀j∈js,∃v,σ[j]?=some (some v)) /\
 ∀l:List (Addr×Obj),fT σ cl js l->(∀p∈l,H1 p.1=none)->(∀p∈l,told l H1 p.1=some (ay p.1 p.2))->sp (vs++dvs) (told l H1) (λv H2=>(∀p∈l,H2 p.1=some (ay p.1 p.2))/\Q v (era (l.map (·.1)) H2)) E
theorem CZ{Q:VK}{us:List Value}{vs:List V}{cl:List (Str×Addr)}{js:List Nat}(F:FnOk X.prog X.w X.K X.mg X.base CX k f fd ps sp)(hr:Room k X.A)(hb:Binds X.K fd ps ds)(hd:Vals dvs ds)(hx:tY CX X E)(hc:p8 X cl js)
 (I:Inv X pins σ H s) (r:Vals vs us) (hv:∀j∈js,∃v,σ[j]?=some (some v))
 (h:∀l:List (Addr×Obj),fT σ cl js l->(∀p∈l,H p.1=none)->(∀p∈l,told l H p.1=some (ay p.1 p.2))->sp (vs++dvs) (told l H) (λv H2=>(∀p∈l,H2 p.1=some (ay p.1 p.2))/\Q v (era (l.map (·.1)) H2)) E) :
 wpAny (model X.prog X.w) X.A (call (.ref f) us) (EP X pins σ Q) X.xe s:=by
 obtain⟨l,hcl,hk⟩:=I.cels hc hv;have hg:∀p∈l,s.heap.get? p.1=some p.2:=λp hp=>(hk p hp).1
 have hn:∀p∈l,H p.1=none:=λp hp=>(hk p hp).2.1
 have hq:=h l hcl hn λp hp=>uX hg hp
 have r2:Vals (vs++dvs) (us++ds):=r.append hd;have hl:(us++ds).length=ps.length:=by rw[<- r2.length];exact F.len _ _ _ _ hq
 refine wpAny_call (codeAny_mono (F.run X.A X.stack s (told l H) ⟨us,[]⟩ (us++ds) (vs++dvs) _ E hr (I.envX hk) (hb s us I.kIn hl) r2 hq) λr s' hq'=>?_);cases r with
 |error e=>exact hx pins σ H s l e s' I hk hq'
 |ok fl =>
  cases fl with
  |ret u =>
   obtain⟨v,H2,os,bare,un,hok,rv,hcs,q⟩:=hq';obtain⟨hh,g,d,t,os'⟩:=s';obtain rfl:os'=s.os:=os;have hg':∀p∈l,hh.get? p.1=some p.2:=λp hp=>fg (hok _ _ (hcs p hp))
   refine⟨v,_,I.call (h':=hh) (g':=g) (d':=d) (t':=t) (ch:=[]) (un.cells hn hg hg') (hok.era λc hc=>?_) bare (λb z=>absurd z (by simp)),rv,q⟩;obtain⟨p,hp,rfl⟩:=P4.mp hc;exact⟨p.2,hcs p hp⟩
  |next=>exact False.elim hq'
  |brk=>exact False.elim hq'
  |cont=>exact False.elim hq'
theorem jz{cl:List (Str×Addr)}{js:List Nat}(F:FnOk X.prog X.w X.K X.mg X.base CX k f fd ps sp)(hr:Room k X.A)(hg:Gl X x)(hm:X.mg x=some (.ref f))(hk:PySem.W.keepIn X.K (.ref f)=true)(hb:Binds X.K fd ps ds)(hd:Vals dvs ds)(hx:tY CX X E)(hc:p8 X cl js)
 (ha:PA X (e::es) t) (hdb:(x == ("__debug__":Str))=false:=by decide) (he:starEach (e::es) X.env=(false,eval e X.env)::starEach es X.env:=by rfl) (hpl:(backTo pos (starEach es X.env)).any (·.1)=false:=by rfl) :
 PE X (.Call (.Name x p) (e::es) [] pos) (BC cl js sp dvs E t):=by
 intro pins s σ H Q I h;refine wpAny_Call_Name_kw (iP I hg hm ?_ hdb);refine PySem.W.callWith_K (h₀:=X.base) I.ok.mod.kin hk (thn (ha pos pins s σ H _ I h) λus s1 ⟨vs,H1,I1,r,hv,q⟩=>⟨I1.kIn,?_⟩) he hpl;exact CZ F hr hb hd hx hc I1 r hv q
end
noncomputable def CloOk(P:Program)(w:World)(K:PySem.W.Frag)(mg:Str->Option Value)(base:Heap)(CX:CXT)(k:Nat)(f:Addr)(sp:Sp)(H:Hp):Prop :=
 ∀(A:Around) (outer:List Env) (s:Shared) (H':Hp) (us:List Value) (vs:List V) (Q:VK) (E:XK),Room k A->SameT H H'->Env0 P w K mg base A outer s H'->Vals vs us->sp vs H' Q E ->
  codeAny (model P w) A (.call (.ref f) ⟨us,[]⟩) (CR CX outer P w H' s Q E) s
section
variable {P:Program}{w:World}{K:PySem.W.Frag}{mg:Str->Option Value}{base:Heap}{CX:CXT}{k j:Nat}{f:Addr}{sp:Sp}{H H':Hp}
theorem CloOk.sameT(c:CloOk P w K mg base CX k f sp H)(s:SameT H H'):CloOk P w K mg base CX k f sp H':=λA outer s1 H2 us vs Q E hr s2=>c A outer s1 H2 us vs Q E hr (s.trans s2)
theorem CloOk.mono(c:CloOk P w K mg base CX j f sp H)(h:j<=k:=by decide):CloOk P w K mg base CX k f sp H:=λA outer s1 H2 us vs Q E hr=>c A outer s1 H2 us vs Q E (hr.mono h)
theorem FnOk.clo{fd:FuncData}{ps:List Str}(F:FnOk P w K mg base CX k f fd ps sp)(hb:Binds K fd ps []):CloOk P w K mg base CX k f sp H:=λA outer s1 H2 us vs Q E hr _ e0 r h=>by
 have hl:us.length=ps.length:=by rw[<- r.length];exact F.len _ _ _ _ h
 have b:=hb s1 us (e0.mod.kin.keeps λb o e=>(e0.bs b o e).1) (by rw[Ry];exact hl);rw[Ry]at b;exact F.run A outer s1 H2 ⟨us,[]⟩ us vs Q E hr e0 b r h
def FnV(K:PySem.W.Frag)(H:Hp)(f:Addr):Prop:=(∃oc od fd sl,H f=some (ay f ⟨oc,od,.func fd,sl⟩))\/∃oc od fd sl,K.lookup f=some ⟨oc,od,.func fd,sl⟩
theorem FnV.sameT(h:FnV K H f)(s:SameT H H'):FnV K H' f:=by
 rcases h with⟨oc,od,fd,sl,e⟩ |h
 ·exact .inl ⟨oc,od,fd,sl,(fC (s _ _ (fD e (ij _ _)))).1⟩
 ·exact .inr h
end
section
variable {X:Cx}{CX:CXT}{k i:Nat}{sp:Sp}{E:XK}{x:Str}{p pos:Pos}{e:Expr}{es:List Expr}{t:TA}{pins:List (Addr×Obj)}{σ:St}{H:Hp}{s:Shared}
theorem Inv.fnAt{f:Addr}(I:Inv X pins σ H s)(h:FnV X.K H f):PySem.W.FnAt f s.heap:=by
 rcases h with⟨oc,od,fd,sl,e⟩ |⟨oc,od,fd,sl,e⟩
 ·exact⟨oc,od,fd,sl,fg (I.hok _ _ e)⟩
 ·exact⟨oc,od,fd,sl,I.kIn _ _ e⟩
def vb(X:Cx)(CX:CXT)(k i:Nat)(sp:Sp)(E:XK)(t:TA):TE:=λσ H Q=>∃f,σ[i]?=some (some (.ref f))/\FnV X.K H f/\t σ H λvs H1=>FnV X.K H1 f/\CloOk X.prog X.w X.K X.mg X.base CX k f sp H1/\sp vs H1 Q E
theorem qZ(hr:Room k X.A)(hx:eZ CX X E)(ha:PA X (e::es) t)(hN:X.N[i]?=some x:=by rfl)(hv:Vis X.env.scope x:=by first |exact Or.inl rfl |exact Or.inr (Or.inl rfl) |exact Or.inr (Or.inr rfl))(hdb:(x == ("__debug__":Str))=false:=by decide)(hcd:(x == ("__classdict__":Str))=false:=by decide)
 (he:starEach (e::es) X.env=(false,eval e X.env)::starEach es X.env:=by rfl) (hpl:(backTo pos (starEach es X.env)).any (·.1)=false:=by rfl) :
 PE X (.Call (.Name x p) (e::es) [] pos) (vb X CX k i sp E t):=by
 intro pins s σ H Q I h;obtain⟨f,ef,hf,h⟩:=h;refine wpAny_Call_Name_kw (thn (qX (X:=X) hN hv hdb hcd pins s σ H (λv H'=>v=.ref f/\H'=H) I ⟨_,ef,rfl,rfl⟩) λu s1 ⟨v,H1,I1,rv,ev,eH⟩=>?_);subst ev eH;obtain rfl:u=Value.ref f:=rv;refine PySem.W.callWith_F (I1.fnAt hf) (thn (ha pos pins s1 σ _ _ I1 h) λus s2 ⟨vs,H2,I2,r,hf2,hc,q⟩=>⟨I2.fnAt hf2,?_⟩) he hpl;refine wpAny_call (codeAny_mono (hc X.A X.stack s2 H2 us vs Q E hr (SameT.refl _) I2.env0 r q) λr s' hq'=>?_);cases r with
 |error e=>exact hx pins σ H2 s2 e s' I2 hq'
 |ok fl =>
  cases fl with
  |ret u=>exact I2.after hq'
  |next=>exact False.elim hq'
  |brk=>exact False.elim hq'
  |cont=>exact False.elim hq'
end
inductive CelH(H:Hp):List (Str×Addr)->List V->List (Addr×Obj)->Prop where
 |nil:CelH H [] [] []
 |cons {x:Str} {c:Addr} {v:V} {o:Obj} {u:Value} {cl:List (Str×Addr)} {vs:List V} {l:List (Addr×Obj)} (h:H c=some (ay c o)) (d:o.data=.cell (some u)) (r:RelV v u) (t:CelH H cl vs l):CelH H ((x,c)::cl) (v::vs) ((c,o)::l)
theorem CelH.sameT{H H':Hp}(s:SameT H H'){cl:List (Str×Addr)}{vs:List V}{l:List (Addr×Obj)}(h:CelH H cl vs l):CelH H' cl vs l:=by
 induction h with
 |nil=>exact .nil
 |cons h d r _ ih=>exact .cons (fC (s _ _ (fD h (ij _ _)))).1 d r ih
theorem CelH.keys{H:Hp}{cl:List (Str×Addr)}{vs:List V}{l:List (Addr×Obj)}(h:CelH H cl vs l):l.map (·.1)=cl.map (·.2)/\vs.length=cl.length/\∀p∈l,H p.1=some (ay p.1 p.2)/\∃u,p.2.data=.cell (some u):=by
 induction h with
 |nil=>exact⟨rfl,rfl,λ_ h=>nomatch h⟩
 |cons h d r _ ih =>
  obtain⟨h1,h2,h3⟩:=ih;refine⟨by rw[Qm,Qm,h1],by rw[P7,P7,h2],λp hp=>?_⟩;rcases P8.mp hp with rfl |hp
  ·exact⟨h,_,d⟩
  ·exact h3 p hp
theorem CelH.get{H:Hp}{x:Str}{v:V}{cl:List (Str×Addr)}{vs:List V}{l:List (Addr×Obj)}(h:CelH H cl vs l):∀{n:Nat},(cl.map (·.1)).Nodup->(cl.map (·.1))[n]?=some x->vs[n]?=some v->∃c o u,cl.lookup x=some c/\(c,o)∈l/\o.data=.cell (some u)/\RelV v u:=by
 induction h with
 |nil=>intro n _ h;simp at h
 | @cons y c v' o u cl vs l h d r _ ih =>
  intro n nd h1 h2;cases n with
  |zero =>have h1':some y=some x:=h1;have h2':some v'=some v:=h2;cases h1';cases h2';exact⟨c,o,u,by rw[Qz];simp,Qh,d,r⟩
  |succ n =>
   obtain⟨n1,n2⟩:=Rf.mp (show(y::cl.map (·.1)).Nodup from nd);have h1':(cl.map (·.1))[n]?=some x:=h1;have h2':vs[n]?=some v:=h2;obtain⟨c',o',u',q1,q2,q3,q4⟩:=ih n2 h1' h2';refine⟨c',o',u',?_,Qb _ q2,q3,q4⟩;have ne:x≠y:=λz=>n1 (z ▸ List.mem_of_getElem? h1')
   rw[Qz];have:(x == y)=false:=by simpa using ne
   rw[this];exact q1
structure LmScope(x:Str)(cl:List (Str×Addr))(params:Arguments)(sc:Scope):Prop where
 kind:sc.kind=.function
 co:sc.isCoroutine=false
 gen:sc.isGenerator=false
 par:sc.names.lookup x=some .local
 nocell:∀y∈sc.names,y.2≠.cell
 free:∀y∈sc.names,y.2=.free->y.1∈cl.map (·.1)
 caps:∀y∈cl.map (·.1),sc.names.lookup y=some .free
 nd:(cl.map (·.1)).Nodup
theorem xS{α:Type}{p:Str×α}:∀{cl:List (Str×α)},p∈cl->∃c,cl.lookup p.1=some c
 |a::cl,hp=>by
  rw[Qz];split
  ·exact⟨_,rfl⟩
  ·next z =>
   rcases P8.mp hp with e |hp
   ·have z':¬p.1=a.1:=by simpa using z
    exact absurd (by rw[e]) z'
   ·exact xS hp
noncomputable def cxL(CX:CXT)(P:Program)(w:World)(K:PySem.W.Frag)(mg:Str->Option Value)(base:Heap)(N:List Str)(qual:Str)(scope:Scope)(f:Addr)(cd:Value)(cl:List (Str×Addr))(A:Around)(outer:List Env)(s:Shared)(H0 H:Hp)(E:XK):Cx where
 prog:=P
 w:=w
 K:=K
 mg:=mg
 base:=base
 A:=A.deeper (PySem.W.envX qual scope s.heap.objs.size f cd cl)
 N:=N
 s₀:=s
 H₀:=H
 env:=PySem.W.envX qual scope s.heap.objs.size f cd cl
 outer:=outer
 stack:=PySem.W.envX qual scope s.heap.objs.size f cd cl::outer
 ex:=[]
 calm:=true
 fn:=λ_=>false
 pn:=[]
 xe:=λe s'=>wpAny (model P w) (A.deeper (PySem.W.envX qual scope s.heap.objs.size f cd cl)) (leaving (PySem.W.envX qual scope s.heap.objs.size f cd cl) e) (λ_ s''=>CX outer H0 s E e s'') (λe' s''=>CX outer H0 s E e' s'') s'
theorem fL{cs:List Addr}{H:Hp}{b:Addr}(h:H b=none):era cs H b=none:=by unfold era;split<;>first |rfl |exact h
theorem qI{l:List (Addr×Obj)}{H H2:Hp}(hl:∀p∈l,H p.1=some (ay p.1 p.2))(hg:∀p∈l,told l H2 p.1=some (ay p.1 p.2))(s:Same (era (l.map (·.1)) H) H2):Same H (told l H2):=λb o e=>by
 by_cases z:b∈l.map (·.1)
 ·obtain⟨p,hp,rfl⟩:=P4.mp z;rw[hl p hp]at e;rw[hg p hp];exact e
 ·rw[fi (b:=b) λp hp y=>z (y ▸ QL (f:=(·.1)) hp)];exact s _ _ (by unfold era;rw[if_neg z];exact e)
section
variable {P:Program}{w:World}{K:PySem.W.Frag}{mg:Str->Option Value}{base:Heap}{CX:CXT}{k:Nat}{f:Addr}{sp:Sp}{H:Hp}{qual x:Str}{params:Arguments}{body:Expr}{scope:Scope}{cl:List (Str×Addr)}{vcs:List V}{l:List (Addr×Obj)}
theorem IT{cd:Value}{A:Around}{outer:List Env}{s:Shared}{H':Hp}{E:XK}{u:Value}{v:V}{h₁:Heap}{tk:Nat}(S:LmScope x cl params scope)(hd:A.handled=none)(e0:Env0 P w K mg base A outer s H')(r:RelV v u)(hc:CelH H' cl vcs l)(ndc:(cl.map (·.2)).Nodup)
 (hns:h₁.Ns s.heap.objs.size (λy=>[(x,u)].reverse.lookup y)) (hk:∀b o,s.heap.get? b=some o->h₁.get? b=some o) :
 Inv (cxL CX P w K mg base (x::cl.map (·.1)) qual scope f cd cl A outer s H' (era (l.map (·.1)) H') E) [] ((v::vcs).map some) (era (l.map (·.1)) H') { s with heap:=h₁,toks:=tk }:=by
 obtain⟨k1,k2,k3⟩:=hc.keys;have noA:∀b:Addr,b∉([]:List Addr):=λb z=>nomatch z
 have memc:∀{y:Str} {c:Addr},cl.lookup y=some c->c∈l.map (·.1):=λ{y c} h=>by rw[k1];exact QL (f:=(·.2)) (PySem.mem_of_lookup h)
 have cellOf:∀{y:Str} {c:Addr},cl.lookup y=some c->∃o,(c,o)∈l:=λ{y c} h=>by obtain⟨p,hp,e⟩:=P4.mp (memc h);exact⟨p.2,e ▸ hp⟩
 have cdat:∀{c:Addr} {o:Obj},(c,o)∈l->h₁.get? c=some o:=λ{c o} hp=>hk _ _ (fg (e0.hok _ _ (k3 _ hp).1))
 refine⟨⟨e0.mod,S.kind,rfl,rfl,PZ _,λy z c h1 h2=>?_,λy hy=>?_,(λy c (h:false=true)=>Bool.noConfusion h),λ_=>hd,Around.frames_deeper e0.frames,.inr ⟨rfl,rfl⟩,λb z=>absurd z (noA b),λb o e=>⟨(e0.bs b o e).1,fL (e0.bs b o e).2⟩,e0.bsz,λb _ _=>noA b,λb z=>absurd z (noA b),e0.funs,λb hb=>fL (e0.frf b hb)⟩,
  rfl,e0.bare,Un.kept hk,⟨_,hns,λi y v' h1 h2 h3=>?_⟩,λy c h=>?_,fL (e0.hok.fresh (PZ _)),λy c h=>?_,λp hp=>absurd (show p∈([]:List (Addr×Obj))from hp) (by simp),(e0.hok.era λc hc'=>?_).kept hk,?_⟩
 ·have m1:=PySem.mem_of_lookup (show cl.lookup y=some c from h1);have m2:=PySem.mem_of_lookup (show cl.lookup z=some c from h2);clear h1 h2 hc k1 memc cellOf k2 S
  induction cl with
  |nil=>cases m1
  |cons a cl ih =>
   obtain⟨n1,n2⟩:=Rf.mp (show(a.2::cl.map (·.2)).Nodup from ndc);rcases P8.mp m1 with e1 |m1<;>rcases P8.mp m2 with e2 |m2
   ·rw[<- e1]at e2;exact(Prod.mk.inj e2).1.symm
   ·exact absurd (by rw[<- e1];exact QL (f:=(·.2)) m2) n1
   ·exact absurd (by rw[<- e2];exact QL (f:=(·.2)) m1) n1
   ·exact ih n2 m1 m2
 ·have hy:scope.names.lookup y=some .cell\/scope.names.lookup y=some .free:=hy;rcases hy with hy |hy
  ·exact absurd rfl (S.nocell _ (PySem.mem_of_lookup hy))
  ·have hm:=S.free _ (PySem.mem_of_lookup hy) rfl;obtain⟨p,hp,e⟩:=P4.mp hm;have q:=xS hp;rw[e]at q;exact q
 ·cases i with
  |zero =>have h1':some x=some y:=h1;have h2':some (some v)=some (some v'):=h2;cases h1';cases h2';exact⟨u,r,.inl ⟨S.par,by show[(x,u)].reverse.lookup x=some u;simp[List.lookup]⟩⟩
  |succ n =>
   have h1':(cl.map (·.1))[n]?=some y:=h1
   have h2':vcs[n]?=some v':=by
    have h2'':(vcs.map some)[n]?=some (some v'):=h2;rw[List.getElem?_map]at h2'';cases e:vcs[n]? with
    |none=>rw[e]at h2'';cases h2''
    |some a=>rw[e]at h2'';cases h2'';rfl
   obtain⟨c,o,u',q1,q2,q3,q4⟩:=hc.get S.nd h1' h2';exact⟨u',q4,.inr ⟨.inr (S.caps y (List.mem_of_getElem? h1')),c,q1,o,cdat q2,q3⟩⟩
 ·obtain⟨o,ho⟩:=cellOf (show cl.lookup y=some c from h);obtain⟨u',hu'⟩:=(k3 _ ho).2;exact⟨some u',o,cdat ho,hu'⟩
 ·show era _ H' c=none;unfold era;rw[if_pos (memc (show cl.lookup y=some c from h))]
 ·obtain⟨p,hp,rfl⟩:=P4.mp hc';exact⟨p.2,(k3 p hp).1⟩
 ·show((v::vcs).map some).length=(x::cl.map (·.1)).length;rw[PX,P7,P7,PX,k2]
theorem pM(hC:CloO H f qual params body scope cl)(hc:CelH H cl vcs l)(ndc:(cl.map (·.2)).Nodup)(S:LmScope x cl params scope)(hb:∀(pm cdv ctv:Value) (u:Value),bindArgs (PySem.W.kla_fn "<lambda>" qual params body scope cl pm cdv ctv) ⟨[u],[]⟩=pure [(x,u)])(len:∀vs H Q E,sp vs H Q E->∃v,vs=[v])
 (hbody:∀(cd:Value) (A:Around) (outer:List Env) (s:Shared) (H':Hp) (v:V) (Q:VK) (E:XK),Room k (A.deeper (PySem.W.envX qual scope s.heap.objs.size f cd cl))->SameT H H'->CelH H' cl vcs l->sp [v] H' Q E ->
   ∃t,PE (cxL CX P w K mg base (x::cl.map (·.1)) qual scope f cd cl A outer s H' (era (l.map (·.1)) H') E) body t/\t ((v::vcs).map some) (era (l.map (·.1)) H') λr H2=>(∀p∈l,H2 p.1=none)->(∀p∈l,told l H2 p.1=some (ay p.1 p.2))->Q r (told l H2)) :
 CloOk P w K mg base CX (k+1) f sp H:=by
 intro A outer s H' us vs Q E hr sT e0 r hsp;obtain⟨v,rfl⟩:=len _ _ _ _ hsp
 obtain⟨u,rv,rfl⟩:∃u,RelV v u/\us=[u]:=by
  cases r with
  |cons a b=>cases b;exact⟨_,a,rfl⟩
 obtain⟨c,oc,pm,ctv,h1,h2,vs',tt,h3,h4⟩:=hC.sameT sT;have hc':=hc.sameT sT;obtain⟨k1,k2,k3⟩:=hc'.keys;have lim:s.heap.NoLimit:=e0.mod.nolimit.keeps λb o e=>(e0.bs b o e).1
 refine PySem.W.kla_callFunE hr.depth (fg (e0.hok _ _ h1)) rfl S.co S.gen rfl ⟨c,oc,vs',tt,rfl,fg (e0.hok _ _ h2),h3,h4⟩ ?_;rw[hb];refine wpAny_pure (wpAny_newFunctionEnv S.nocell (λy hy=>?_) (λh₁ hns hsb=>⟨lim.fresh _ hsb,?_⟩) S.kind)
 ·rw[Qc.mp hy];exact S.par
 have hk₁:∀b o,s.heap.get? b=some o->h₁.get? b=some o:=λb o e=>hsb.extBut b o (Qf (Heap.lt_size e)) (Heap.get?_push_of_some _ e)
 show codeAny _ _ (.expr body (PySem.W.envX qual scope s.heap.objs.size f (.ref c) cl)) _ _;obtain⟨t,ht,hq⟩:=hbody (.ref c) A outer s H' v Q E (hr.deeper _) sT hc' hsp;have I:=IT (CX:=CX) (qual:=qual) (f:=f) (cd:=.ref c) (E:=E) (tk:=s.toks+1) S hr.hd e0 rv hc' ndc hns hk₁;refine PySem.W.kla_codeExpr (wpAny_mono (ht [] _ _ _ _ I hq) (λu' s' hs=>?_) λe s' hs=>hs);obtain⟨r',H2,J,rr,q⟩:=hs;have noX:∀{b:Addr},b∉(cxL CX P w K mg base (x::cl.map (·.1)) qual scope f (.ref c) cl A outer s H' (era (l.map (·.1)) H') E).ex:=λ{b} z=>absurd (show b∈([]:List Addr)from z) (by simp)
 have hgs:∀p∈l,s.heap.get? p.1=some p.2:=λp hp=>fg (e0.hok _ _ (k3 p hp).1)
 have nfs:∀p∈l,p.1∉frs outer:=λp hp z=>by have:=e0.frf _ z;rw[(k3 p hp).1]at this;cases this
 have ern:∀p∈l,era (l.map (·.1)) H' p.1=none:=λp hp=>by unfold era;rw[if_pos (QL (f:=(·.1)) hp)]
 have hg':∀p∈l,s'.heap.get? p.1=some p.2:=λp hp=>J.base.keep _ _ (hgs p hp) (ern p hp) (nfs p hp) noX
 have hn':∀p∈l,H2 p.1=none:=λp hp=>J.base.free _ _ (hgs p hp) (ern p hp) noX
 have off:∀{b:Addr},(∀o,H' b≠some (ay b o))->b∉l.map (·.1):=λ{b} n hb=>by obtain⟨p,hp,rfl⟩:=P4.mp hb;exact n _ (k3 p hp).1
 have era_off:∀{b:Addr},b∉l.map (·.1)->era (l.map (·.1)) H' b=H' b:=λn=>by unfold era;rw[if_neg n]
 have told_off:∀{b:Addr},b∉l.map (·.1)->told l H2 b=H2 b:=λ{b} n=>fi (b:=b) λp hp y=>n (y ▸ QL (f:=(·.1)) hp)
 refine⟨r',told l H2,J.os,J.bare,⟨λb o e n hb hx=>?_,λb o e n hb hx=>?_,λb o e n hx=>?_,λb o e hx=>J.base.there b o e noX,λb xs e=>?_,λb o u e=>?_,λb ps e=>?_⟩,J.hok.told hn' hg',rr,q hn' λp hp=>uX hg' hp⟩
 ·exact J.base.keep b o e (fL n) hb noX
 ·exact J.base.slot b o e (fL n) hb noX
 ·have nb:b∉l.map (·.1):=off λo z=>by rw[n]at z;cases z
  rw[told_off nb];exact J.base.free b o e (fL n) noX
 ·have nb:b∉l.map (·.1):=off λo z=>by rw[e]at z;cases z
  rw[told_off nb];exact J.base.tups b xs (by show era _ H' b=_;rw[era_off nb];exact e)
 ·have nb:b∉l.map (·.1):=off λo z=>by rw[e]at z;cases z
  rw[told_off nb];exact J.base.frzs b o u (by show era _ H' b=_;rw[era_off nb];exact e)
 ·have nb:b∉l.map (·.1):=off λo z=>by rw[e]at z;cases z
  obtain⟨m,q⟩:=J.base.tbls b ps (by show era _ H' b=_;rw[era_off nb];exact e);exact⟨m,by rw[told_off nb];exact q⟩
end
open PySem PySem.Spec PyProof.Rows PySem.W
noncomputable def nt(ts:List Addr)(K:Frag):Frag:=K.filter λp=>!ts.contains p.1
theorem oR(ts:List Addr)(a:Addr):∀K:Frag,(nt ts K).lookup a=if a∈ts then none else K.lookup a
 | []=>by show none=_;split<;>rfl
 | (b,o)::K=>by
  have ih:=oR ts a K;unfold nt at ih ⊢
  rw[List.filter_cons];by_cases hb:b∈ts
  ·have:(!ts.contains b)=false:=by simp[hb]
   rw[this,if_neg (by simp),ih];by_cases ha:a∈ts
   ·rw[if_pos ha,if_pos ha]
   ·rw[if_neg ha,if_neg ha,Qz];have:(a == b)=false:=by simp;exactλz=>ha (z ▸ hb)
    rw[this]
  ·have:(!ts.contains b)=true:=by simp[hb]
   rw[this,if_pos rfl,Qz,Qz,ih];by_cases hab:a=b
   ·subst hab;simp[hb]
   ·have:(a == b)=false:=by simpa using hab
    rw[this]
theorem rd{ts:List Addr}{K:Frag}{a:Addr}{o:Obj}(h:(nt ts K).lookup a=some o):K.lookup a=some o/\a∉ts:=by
 rw[oR]at h;split at h
 ·cases h
 ·next z=>exact⟨h,z⟩
def Tbs(ts:List Addr)(K:Frag):Prop:=∀a∈ts,K.lookup a=none\/K.lookup a=some (tabObj #[])
section
variable {ts:List Addr}{K:Frag}(T:Tbs ts K)
include T
theorem dR{a:Addr}{o:Obj}(h:K.lookup a=some o)(n:o≠tabObj #[]):(nt ts K).lookup a=some o:=by rw[oR,if_neg λz=>(T a z).elim (λe=>by rw[h]at e;cases e) λe=>n (Option.some.inj (h.symm.trans e))];exact h
theorem gd(a:Addr):(nt ts K).lookup a=K.lookup a\/((nt ts K).lookup a=none/\K.lookup a=some (tabObj #[])):=by
 rw[oR];by_cases h:a∈ts
 ·rw[if_pos h];exact(T a h).elim (λe=>.inl e.symm) λe=>.inr ⟨rfl,e⟩
 ·rw[if_neg h];exact .inl rfl
theorem bF(a:Addr)(n:Str):nsIn (nt ts K) a n=nsIn K a n:=by
 unfold nsIn;rcases gd T a with e |⟨e1,e2⟩
 ·rw[e]
 ·rw[e1,e2]
theorem oT(a:Addr):clsIn (nt ts K) a=clsIn K a:=by
 unfold clsIn;rcases gd T a with e |⟨e1,e2⟩
 ·rw[e]
 ·rw[e1,e2]
theorem Ga(n:Str)(v:Value):ownIn (nt ts K) n v=ownIn K n v:=by
 unfold ownIn;split
 ·rfl
 ·next a =>
  rcases gd T a with e |⟨e1,e2⟩
  ·rw[e];split
   ·exact bF T _ _
   ·rfl
  ·rw[e1,e2]
 ·rfl
theorem xg(n:Str):∀l:List Value,alongIn (nt ts K) n l=alongIn K n l
 | []=>rfl
 |v::l=>by unfold alongIn;rw[Ga T,xg n l]
theorem cR(v:Value)(n:Str):findIn (nt ts K) v n=findIn K v n:=by
 unfold findIn;split
 ·rfl
 ·next a =>
  rcases gd T a with e |⟨e1,e2⟩
  ·rw[e];split
   ·exact xg T _ _
   ·rfl
  ·rw[e1,e2]
 ·rfl
theorem oQ(C:Addr)(b:Value):mroIn (nt ts K) C b=mroIn K C b:=by unfold mroIn;rw[oT T]
theorem oP(t b:Value):subIn (nt ts K) t b=subIn K t b:=by
 unfold subIn;split
 ·rfl
 ·exact oQ T _ _
 ·rfl
theorem oS(cd:Value)(q:Str):codeIn (nt ts K) cd q=codeIn K cd q:=by
 unfold codeIn;split
 ·next c =>
  rcases gd T c with e |⟨e1,e2⟩
  ·rw[e]
  ·rw[e1,e2]
 ·rfl
theorem oO{v t:Value}(h:typeIn K v=some t)(n:t≠.none):typeIn (nt ts K) v=some t:=by
 cases v with
 |ref a =>obtain⟨o,e,rfl⟩:=Option.map_eq_some_iff.mp h;show((nt ts K).lookup a).map (·.cls)=_;rw[dR T e λz=>by rw[z]at n;exact n rfl];rfl
 |_=>exact h
theorem gA{v:Value}{n:Str}{r:Option Value}(h:specialIn K v n=some r):specialIn (nt ts K) v n=some r:=by
 obtain⟨t,e1,e2⟩:=Option.bind_eq_some_iff.mp h;have ht:t≠.none:=λz=>by rw[z]at e2;cases e2
 unfold specialIn;rw[oO T e1 ht];show findIn (nt ts K) t n=some r;rw[cR T];exact e2
theorem w5{v:Value}{b:Bool}(h:takesIn K v=some b):takesIn (nt ts K) v=some b:=by
 unfold takesIn at h
 split at h
 ·next e=>unfold takesIn;rw[gA T e];exact h
 ·next e =>obtain⟨y,hy,q⟩:=Option.map_eq_some_iff.mp h;unfold takesIn;rw[gA T e];show(specialIn (nt ts K) v "__delete__").map (·.isSome)=some b;rw[gA T hy,<- q];rfl
 ·cases h
theorem xf{v:Value}(h:isFn K v=true):isFn (nt ts K) v=true:=by
 unfold isFn at h ⊢
 rw[oO T (t:=.type "function") (by simpa using h) (λz=>nomatch z)];exact beq_self_eq_true _
theorem jF{v:Value}(h:keepIn K v=true):keepIn (nt ts K) v=true:=by
 unfold keepIn at h ⊢
 split at h
 ·next a =>
  split at h
  ·next e=>rw[dR T e (λz=>nomatch z)]
  ·next e =>
   rw[dR T e (λz=>nomatch z)];dsimp only
   have h':specialIn K (.ref a) "__call__"=some (some (.builtin "type.__call__")):=by simpa using h
   rw[gA T h'];exact beq_self_eq_true _
  ·cases h
 ·cases h
theorem Gc{v b:Value}{r:Bool}(h:instIn K v b=some r):instIn (nt ts K) v b=some r:=by
 obtain⟨t,e1,e2⟩:=Option.bind_eq_some_iff.mp h;have ht:t≠.none:=λz=>by rw[z]at e2;cases e2
 unfold instIn;rw[oO T e1 ht];show subIn (nt ts K) t b=some r;rw[oP T];exact e2
theorem Gb{C:Addr}(h:makesIn K C=true):makesIn (nt ts K) C=true:=by
 unfold makesIn at h ⊢
 split at h
 ·next e =>
  rw[dR T e (λz=>nomatch z)];dsimp only
  simp only[Rq]at h ⊢;obtain⟨⟨h1,h2⟩,h3⟩:=h;refine⟨⟨h1,?_⟩,?_⟩
  ·rw[gA T (by simpa using h2)];exact beq_self_eq_true _
  ·rw[Gc T (by simpa using h3)];exact beq_self_eq_true _
 ·cases h
theorem F0(C:Addr)(n:Str):plainGet (nt ts K) C n=plainGet K C n:=by unfold plainGet;rw[cR T,cR T]
theorem Gd(C:Addr):hasDictIn (nt ts K) C=hasDictIn K C:=by unfold hasDictIn;rw[oT T]
theorem FZ(C:Addr):plainOver (nt ts K) C=plainOver K C:=by unfold plainOver;rw[oT T]
theorem xb{t c:Value}{r:Bool}(h:kitCls K t c=some r):kitCls (nt ts K) t c=some r:=by
 unfold kitCls at h ⊢
 split at h
 ·next C =>
  split at h
  ·next q =>
   simp only[Rq]at q;rw[if_pos,oP T]
   ·exact h
   ·simp only[Rq];refine⟨by rw[oT T];exact q.1,?_⟩;rw[oO T (t:=.type "type") (by simpa using q.2) (λz=>nomatch z)];exact beq_self_eq_true _
  ·cases h
 ·rw[oP T];exact h
 ·cases h
theorem jE{t c:Value}{r:Bool}(h:kitOne K t c=some r):kitOne (nt ts K) t c=some r:=by
 unfold kitOne at h ⊢
 split
 ·next q=>rw[if_pos q]at h;exact h
 ·next q=>rw[if_neg q]at h;exact xb T h
theorem Ge{t c:Value}{r:Bool}(h:exmOne K t c=some r):exmOne (nt ts K) t c=some r:=by
 unfold exmOne at h ⊢
 rw[oP T];split
 ·next q=>rw[if_pos q]at h;exact xb T h
 ·next q=>rw[if_neg q]at h;exact h
end
theorem Gg{ts:List Addr}{K:Frag}{h:Heap}(X:K.In h):Frag.In (nt ts K) h:=λa o e=>X a o (rd e).1
structure OnT(ts:List Addr)(H:Hp):Prop where
 tab:∀p∈ts,H p=some (.tbl #[])
 oth:∀b,b∉ts->H b=none\/∃o xs,H b=some (.frz o (.lst xs))
def CodeK(K:PySem.W.Frag)(c p:Addr):Prop:=∃od vs sl file tf flags tg inF text tt,K.lookup c=some ⟨.type "code",od,.fields vs,sl⟩/\vs[11]?=some (.ref p)/\vs.getD 11 .none=.ref p/\vs.getD 18 .none=.str file tf/\vs.getD 7 .none=.int flags tg/\vs.getD 9 .none=.bool inF/\vs.getD 10 .none=.int text tt/\c≠p
theorem CodeK.hd{K:PySem.W.Frag}{c p:Addr}{ts:List Addr}{h:Heap}(T:Tbs ts K)(x:CodeK K c p)(X:PySem.W.Frag.In (nt ts K) h):PySem.W.CodeHd h c p:=by obtain⟨od,vs,sl,file,tf,flags,tg,inF,text,tt,e,r⟩:=x;have e':=dR T e (λz=>by cases z);exact⟨_,vs,file,tf,flags,tg,inF,text,tt,X _ _ e',rfl,rfl,r⟩
theorem CodeK.tbl{K:PySem.W.Frag}{c p:Addr}{h:Heap}(x:CodeK K c p)(X:K.In h):isCodeTable h p:=by obtain⟨od,vs,sl,file,tf,flags,tg,inF,text,tt,e,r,_⟩:=x;exact⟨c,_,vs,X _ _ e,rfl,rfl,r⟩
section
variable {ts:List Addr}{P:Program}{w:World}{K:PySem.W.Frag}{mg mb:Str->Option Value}{CX:CXT}{k:Nat}{fa a:Addr}{fd:FuncData}{x:Str}{sp:Sp}{s₁:Shared}{vs:List Value}{ns:List Int}
theorem zE{H:Hp}(KX:K.In s₁.heap)(hT:Tbs ts K)(hH:∀p∈ts,s₁.heap.get? p=some (PySem.W.tabObj #[]))(hC:∀p∈ts,isCodeTable s₁.heap p)(hB:LmB mg s₁.heap)(hns:s₁.heap.Ns mainGlobals mg)(hb:s₁.heap.Ns builtinsNs mb)(hbb:∀x:Str,x≠"__name__"->mb x=bootBuiltins x)(hlim:s₁.heap.NoLimit)(hse:s₁.heap.NoSeer)(hg:s₁.gens=#[])
 (ha:s₁.heap.get? a=some { cls:=.type "list",data:=.seq vs.toArray }) (hr:Room k callerA)
 (F:∀base:Heap,PySem.W.Frag.In (nt ts K) base->base.Ns mainGlobals mg->base.NoSeer->LmB mg base->FnOk P w (nt ts K) mg base CX k fa fd [x] sp) (hbind:∀(s:Shared) (u:Value),BindsTo s fd ⟨[u],[]⟩ [(x,u)])
 (hsp:sp [.ref a] H (λv _=>v=.bl true) λ_ _ _=>False) (hCX:∀e s',CX [] H s₁ (λ_ _ _=>False) e s'->False)
 (hO:OnT ts H) (hok:HOk P w H s₁.heap) (hA:∀b,H b≠none->b=a\/b∈ts) (hK:H a≠none->(nt ts K).lookup a=none) :
 codeAny (model P w) callerA (.call (.ref fa) ⟨[.ref a],[]⟩) (λr s'=>r=.ok (.ret (.bool true))/\OldK s₁.heap s'.heap/\s'.os=s₁.os/\AllBare s'.gens) s₁:=by
 have free:∀{b:Addr} {o:Obj},s₁.heap.get? b=some o->(o.cls≠.type "list"\/∃es ep,o.data=.dict es ep)->(o.cls≠.none\/∃es ep,o.data=.dict es ep)->H b=none:=λ{b o} e n1 n2=>by
  cases q:H b with
  |none=>rfl
  |some u =>
   exfalso;rcases hA b (by rw[q];simp)with z |z
   ·subst z;rw[ha]at e;cases e;rcases n1 with n |⟨es,ep,n⟩
    ·exact n rfl
    ·cases n
   ·have:=hH b z;rw[this]at e;cases e;rcases n2 with n |⟨es,ep,n⟩
    ·exact n rfl
    ·cases n
 have nsK:∀{b:Addr} {m:Str->Option Value},s₁.heap.Ns b m->(eR s₁.heap H).Ns b m:=λ{b m} ⟨o,es,ep,e,d,r⟩=>⟨o,es,ep,pz e (free e (.inr ⟨_,_,d⟩) (.inr ⟨_,_,d⟩)),d,r⟩
 have hKb:PySem.W.Frag.In (nt ts K) (eR s₁.heap H):=λb o e=>by
  obtain⟨e1,nb⟩:=rd e;refine pz (KX b o e1) ?_;cases q:H b with
  |none=>rfl
  |some u =>
   exfalso;rcases hA b (by rw[q];simp)with z |z
   ·subst z;rw[hK (by rw[q];simp)]at e;cases e
   ·exact nb z
 have hM:Mod (nt ts K) mg (eR s₁.heap H):=⟨hKb,nsK hns,⟨mb,nsK hb,hbb⟩,let⟨mc,h1,h2⟩:=hlim;⟨mc,nsK h1,h2⟩⟩;have tyne:∀{v:Value} {n:String},v=.type n->n≠"list"->v≠.type "list"/\v≠.none:=λ{v n} e m=>⟨λz=>m (Value.type.inj (e.symm.trans z)),λz=>by rw[e]at z;cases z⟩
 have hSb:(eR s₁.heap H).NoSeer:=by obtain⟨⟨mc,c1,c2,c3⟩,⟨mm,m1,m2⟩,⟨mb',b1,b2⟩,⟨mg',bm,ob,g1,g2,g3,g4,g5⟩⟩:=hse;obtain⟨t1,t2⟩:=tyne g4 (by decide);exact⟨⟨mc,nsK c1,c2,c3⟩,⟨mm,nsK m1,m2⟩,⟨mb',nsK b1,b2⟩,⟨mg',bm,ob,nsK g1,g2,pz g3 (free g3 (.inl t1) (.inl t2)),g4,g5⟩⟩
 have hLb:LmB mg (eR s₁.heap H):=by obtain⟨bm,ob,b1,b2,b3,b4,b5,b6⟩:=hB;obtain⟨t1,t2⟩:=tyne b4 (by decide);exact⟨bm,ob,b1,b2,pz b3 (free b3 (.inl t1) (.inl t2)),b4,b5,b6⟩
 have e0:Env0 P w (nt ts K) mg (eR s₁.heap H) callerA [] s₁ H:=⟨rfl,hM,λb o e=>FX e,Re (Jb _ _),trivial,λb hb=>absurd (show b∈([]:List Addr)from hb) (by simp),hok,.of_eq hg⟩;refine codeAny_mono ((F _ hKb (nsK hns) hSb hLb).run callerA [] s₁ H ⟨[.ref a],[]⟩ [.ref a] [.ref a] _ _ hr e0 (hbind s₁ (.ref a)) (.cons rfl .nil) hsp) λr s' h=>?_
 rcases r with e |fl
 ·exact(hCX e s' h).elim
 cases fl with
 |next=>exact False.elim h
 |brk=>exact False.elim h
 |cont=>exact False.elim h
 |ret u =>
  obtain⟨v,H',os,bare,un,hok',r',q⟩:=h;have q':v=.bl true:=q;subst q';obtain rfl:u=Value.bool true:=r'
  have key:∀b o,s₁.heap.get? b=some o->s'.heap.get? b=some o\/(b∈ts/\o=PySem.W.tabObj #[]/\∃more,s'.heap.get? b=some { cls:=.none,data:=.fields (#[]++more) }):=λb o e=>by
   by_cases hbt:b∈ts
   ·right;obtain⟨more,hm⟩:=un.tbls b #[] (hO.tab b hbt);have e1:=hH b hbt;rw[e]at e1;exact⟨hbt,Option.some.inj e1,more,hok' b _ hm⟩
   ·left;rcases hO.oth b hbt with z |⟨ob,xs,z⟩
    ·exact un.keep b o e z (by intro y;exact absurd (show b∈([]:List Addr)from y) (by simp)) (by simp)
    ·have z2:=un.frzs b ob _ z;obtain⟨e1,_⟩:=hok b _ z;obtain⟨e2,_⟩:=hok' b _ z2;rw[e]at e1;cases e1;exact e2
  refine⟨rfl,⟨λb o e=>?_,λb o e=>?_⟩,os,bare⟩
  ·rcases key b o e with z |⟨z1,rfl,more,z⟩
   ·exact .inl z
   ·exact .inr (.inl ⟨hC b z1,rfl,#[],more,rfl,z⟩)
  ·rcases key b o e with z |⟨z1,_,more,z⟩
   ·exact⟨_,z⟩
   ·exact⟨_,z⟩
theorem HG(KX:K.In s₁.heap)(hT:Tbs ts K)(hH:∀p∈ts,s₁.heap.get? p=some (PySem.W.tabObj #[]))(hC:∀p∈ts,isCodeTable s₁.heap p)(hB:LmB mg s₁.heap)(hns:s₁.heap.Ns mainGlobals mg)(hb:s₁.heap.Ns builtinsNs mb)(hbb:∀x:Str,x≠"__name__"->mb x=bootBuiltins x)(hlim:s₁.heap.NoLimit)(hse:s₁.heap.NoSeer)(hg:s₁.gens=#[])
 (ha:s₁.heap.get? a=some { cls:=.type "list",data:=.seq vs.toArray }) (hi:IntsAre vs ns) (hl:ns.length<=sizeLine) (hr:Room k callerA)
 (F:∀base:Heap,PySem.W.Frag.In (nt ts K) base->base.Ns mainGlobals mg->base.NoSeer->LmB mg base->FnOk P w (nt ts K) mg base CX k fa fd [x] sp) (hbind:∀(s:Shared) (u:Value),BindsTo s fd ⟨[u],[]⟩ [(x,u)])
 (hsp:∀H:Hp,OnT ts H->SqL (nt ts K) H a (ns.map V.int)->sp [.ref a] H (λv _=>v=.bl true) λ_ _ _=>False) (hCX:∀H e s',CX [] H s₁ (λ_ _ _=>False) e s'->False) :
 codeAny (model P w) callerA (.call (.ref fa) ⟨[.ref a],[]⟩) (λr s'=>r=.ok (.ret (.bool true))/\OldK s₁.heap s'.heap/\s'.os=s₁.os/\AllBare s'.gens) s₁:=by
 have rv:=uQ hi;have lenV:=hi.length
 have nat:a∉ts:=λz=>by have:=hH a z;rw[ha]at this;cases this
 have tabok:∀p∈ts,∀H:Hp,ObjOk P w H s₁.heap p (.tbl #[]):=λp hp H=>hH p hp
 cases hk:(nt ts K).lookup a with
 |some o =>
  have e:=KX a o (rd hk).1;rw[ha]at e;cases e;have hO:OnT ts (λb=>if b∈ts then some (.tbl #[])else none):=⟨λp hp=>if_pos hp,λb hb=>.inl (if_neg hb)⟩;refine zE KX hT hH hC hB hns hb hbb hlim hse hg ha hr F hbind (hsp _ hO (.inr ⟨_,vs.toArray,_,hk,rfl,rfl,rfl,by rw[Ql,lenV];exact hl,by simpa using rv⟩)) (hCX _) hO (λb u z=>?_) (λb z=>?_) λz=>absurd (if_neg nat) z
  ·by_cases hb:b∈ts
   ·have z':=(if_pos hb).symm.trans z;cases z';exact tabok b hb _
   ·have z':=(if_neg hb).symm.trans z;cases z'
  ·by_cases hb:b∈ts
   ·exact .inr hb
   ·exact absurd (if_neg hb) z
 |none =>
  have at1:∀b,(if b∈ts then some (HO.tbl #[])else if b=a then some (.frz { cls:=.type "list",data:=.seq vs.toArray } (.lst (ns.map V.int)))else none)=some (.tbl #[])\/b∉ts:=λb=>by
   by_cases hb:b∈ts
   ·exact .inl (if_pos hb)
   ·exact .inr hb
  have hO:OnT ts (λb=>if b∈ts then some (.tbl #[])else if b=a then some (.frz { cls:=.type "list",data:=.seq vs.toArray } (.lst (ns.map V.int)))else none):=⟨λp hp=>if_pos hp,λb hb=>by
   rw[if_neg hb];by_cases hba:b=a
   ·exact .inr ⟨_,_,if_pos hba⟩
   ·exact .inl (if_neg hba)⟩
  have ea:(if a∈ts then some (HO.tbl #[])else if a=a then some (.frz { cls:=.type "list",data:=.seq vs.toArray } (.lst (ns.map V.int)))else none)=some (.frz { cls:=.type "list",data:=.seq vs.toArray } (.lst (ns.map V.int))):=by rw[if_neg nat,if_pos rfl]
  refine zE KX hT hH hC hB hns hb hbb hlim hse hg ha hr F hbind (hsp _ hO (.inl (.inr ⟨{ cls:=.type "list",data:=.seq vs.toArray },ea⟩))) (hCX _) hO (λb u z=>?_) (λb z=>?_) λ_=>hk
  ·by_cases hb:b∈ts
   ·have z':=(if_pos hb).symm.trans z;cases z';exact tabok b hb _
   ·have z':=(if_neg hb).symm.trans z;by_cases hba:b=a
    ·rw[if_pos hba]at z';cases z';subst hba;exact⟨ha,by rw[PX];exact hl,vs,_,rv,ha⟩
    ·rw[if_neg hba]at z';cases z'
  ·by_cases hb:b∈ts
   ·exact .inr hb
   ·by_cases hba:b=a
    ·exact .inl hba
    ·exact absurd (by rw[if_neg hb,if_neg hba]) z
end
theorem walk_ofT{l:PySem.W.OpenLaw}{n k:Nat}{q:Program}{loose:List Str}{XP:(Str->Option Value)->Heap->Prop}{YP:World->Heap->Prop}{d:DefRec}{K:Params->PySem.W.Frag}{CX:World->CXT}{sp:List Site->PySem.W.Frag->Sp}{x:Str}{ts₀:List Addr}
 (hi:PyProof.Rows.importsNone q=true) (hn:l.most=some n) (hn2:n<=sizeLine) (hdf:d.params.defaults=[]) (hr:Room k callerA)
 (hY:∀(w:World) (h:Heap),YP w h->(K w.params).In h) (hZ:∀(w:World) (h:Heap),YP w h->∀p∈ts₀,h.get? p=some (PySem.W.tabObj #[]))
 (F:∀(w:World) (mg:Str->Option Value) (fa:Addr) (h:Heap),(K w.params).In h->h.Ns mainGlobals mg->mg d.name=some (.ref fa) ->
   ∃T:List Site,Tbs (T.map (·.tab)) (K w.params)/\(∀s∈T,s.tab∈ts₀)/\(∀s∈T,∃c,CodeK (K w.params) c s.tab)/\∃fd:FuncData,(∀(s:Shared) (u:Value),BindsTo s fd ⟨[u],[]⟩ [(x,u)]) /\
    ∀base:Heap,PySem.W.Frag.In (nt (T.map (·.tab)) (K w.params)) base->base.Ns mainGlobals mg->base.NoSeer->LmB mg base->FnOk l.prog w (nt (T.map (·.tab)) (K w.params)) mg base (CX w) k fa fd [x] (sp T (nt (T.map (·.tab)) (K w.params))))
 (hsp:∀(T:List Site) (K:PySem.W.Frag) (H:Hp) (a:Addr) (ns:List Int),ns.length<=n->TabsOk T H->SqL K H a (ns.map V.int)->sp T K [.ref a] H (λv _=>v=.bl true) λ_ _ _=>False)
 (hCX:∀(w:World) (H:Hp) (s:Shared) (e:Value) (s':Shared),CX w [] H s (λ_ _ _=>False) e s'->False) :
 PySem.W.WalkO q loose XP YP l.row.toRowW d [] (λf vs=>PySem.call f vs):=by
 refine Att.attach_call hn hdf λw s₀ s₁ mg mb fa o pm cd doc a vs ns G Y ho hd hcd hmg hobj hints hlen hg=>?_
 have KX:=hY w _ Y;obtain⟨T,hT,hM,hC,fd,hb,hF⟩:=F w mg fa _ KX G.T.g hmg;refine HG KX hT (λp hp=>by obtain⟨s,hs,rfl⟩:=P4.mp hp;exact hZ w _ Y _ (hM s hs)) (λp hp=>?_) G.T.bmain G.T.g G.T.b G.T.builtins G.T.nolimit (G.T.seer hi) hg hobj hints (Qu hlen hn2) hr hF hb (λH hO hS=>hsp T _ H a ns hlen (λs hs=>?_) hS) λH e s'=>hCX w H s₁ e s'
 ·obtain⟨s,hs,rfl⟩:=P4.mp hp;obtain⟨c,hc⟩:=hC s hs;exact hc.tbl KX
 ·exact⟨#[],hO.tab _ (QL hs),trivial,.inl rfl⟩
structure FunL(K:PySem.W.Frag)(x qual:Str)(st:Stmt)(c f:Addr)(fd:FuncData):Prop where
 ex:∃(oc:Value) (od:Option Addr) (kV doc pm:Value) (an:Option Addr) (ct:Value) (osl:Array (Option Value)),
  fd=PySem.W.fnOf x qual (cu st) (bU st) (al st) .none kV doc pm an (.ref c) ct/\K.lookup f=some ⟨oc,od,.func fd,osl⟩/\PySem.W.codeIn K (.ref c) qual=true
 kp:PySem.W.keepIn K (.ref f)=true
theorem FunL.fn{K:PySem.W.Frag}{x qual:Str}{st:Stmt}{c f:Addr}{fd:FuncData}(F:FunL K x qual st c f fd):Fun K x qual st f fd:=by obtain⟨oc,od,kV,doc,pm,an,ct,osl,e,l,h⟩:=F.ex;exact⟨⟨oc,od,kV,doc,pm,an,_,ct,osl,e,l,h⟩,F.kp⟩
section
variable {P:Program}{w:World}{K:PySem.W.Frag}{mg:Str->Option Value}{base:Heap}
theorem FunL.ok{x qual:Str}{st:Stmt}{c f:Addr}{fd:FuncData}{N ps:List Str}{k:Nat}{sp:Sp}(F:FunL K x qual st c f fd)(S:FnScope N ps (al st))(len:∀vs H Q E,sp vs H Q E->vs.length=ps.length)
 (hbody:∀(A:Around) (outer:List Env) (s:Shared) (H:Hp) (vs:List V) (Q:VK) (E:XK),Room k (A.deeper (envOfC qual (al st) s.heap.objs.size f (.ref c)))->sp vs H Q E ->
   ∃t,PSs (bH CX0 P w K mg base N qual (al st) f (.ref c) A outer s H E).nox (bU st) t/\t { nx:=λ_ H'=>Q .non H',rt:=Q } (start N vs) H):FnOk P w K mg base CX0 (k+1) f fd ps sp:=by
 obtain⟨oc,od,kV,doc,pm,an,ct,osl,rfl,lk,hcd⟩:=F.ex;refine ki lk hcd S len λA outer s H vs Q E hr hsp=>?_
 obtain⟨t,h,q⟩:=hbody A outer s H vs Q E hr hsp;exact⟨t,h.nox,q⟩
end
structure LamAt(TT:List Site)(mg:Str->Option Value)(base:Heap)(c:Addr)(q:Site)(pos:Pos)(qual:Str):Prop where
 lb:LmB mg base
 cd:PySem.W.CodeHd base c q.tab
 mem:q∈TT
 dis:∀r∈TT,r.tab=q.tab->r=q
 ps:q.pos=pos
 nm:q.qual=(qual++".<locals>.")++"<lambda>"
theorem SameT.at{H H':Hp}{a:Addr}{o:HO}(s:SameT H H')(e:H a=some o)(n:∀ps,o≠.tbl ps):H' a=some o:=(fC (s _ _ (fD e n))).1
theorem CU{l:List (Addr×Obj)}{H H2:Hp}(hn:∀p∈l,H p.1=none)(s:Same (told l H) H2):Same H (era (l.map (·.1)) H2):=λb o e=>by
 have n:b∉l.map (·.1):=λz=>by obtain⟨p,hp,rfl⟩:=P4.mp z;rw[hn p hp]at e;cases e
 unfold era;rw[if_neg n];exact s _ _ (fh hn e)
theorem qf{l:List (Addr×Obj)}{H H2:Hp}(ht:∀p∈l,told l H p.1=some (ay p.1 p.2))(s:Same (told l H) H2):∀p∈l,H2 p.1=some (ay p.1 p.2):=λp hp=>s _ _ (ht p hp)
theorem Bl{l:List (Addr×Obj)}{TT:List Site}{H:Hp}(h:TabsOk TT H)(hn:∀q∈TT,∀c oc,H c=some (ay c oc)->ut oc q.qual->c∉l.map (·.1))(hc:∀p∈l,∃o,H p.1=some (ay p.1 o)):TabsOk TT (era (l.map (·.1)) H):=λq hq=>by
 obtain⟨ps,e,t,r⟩:=h q hq
 have hx:∀c∈l.map (·.1),∃o,H c=some (ay c o):=λc hc'=>by obtain⟨p,hp,rfl⟩:=P4.mp hc';exact hc p hp
 refine⟨ps,gm hx e (λφ z=>by cases z),t,?_⟩;rcases r with r |⟨c,oc,r1,r2,r3⟩
 ·exact .inl r
 ·refine .inr ⟨c,oc,r1,?_,r3⟩;unfold era;rw[if_neg (hn q hq c oc r2 r3)];exact r2
theorem AD{a:Addr}{o o':Obj}{vs:Array Value}(hd:o.data=.fields vs)(h:ay a o=ay a o'):o=o':=by
 have e:(λh:Heap=>h.get? a=some o)=λh=>h.get? a=some o':=by
  unfold ay at h
  injection h
 have g:({ objs:=(Array.replicate a o).push o }:Heap).get? a=some o:=by
  unfold Heap.get?
  have:((Array.replicate a o).push o)[a]?=some o:=by
   have:=Array.getElem?_push_size (xs:=Array.replicate a o) (x:=o)
   rwa [Array.size_replicate]at this
  rw[this];obtain⟨c1,c2,c3,c4⟩:=o;have hd':c3=.fields vs:=hd;subst hd';rfl
 have g':=(congrFun e ({ objs:=(Array.replicate a o).push o }:Heap)).mp g;rw[g]at g';exact Option.some.inj g'
theorem jk{l:List (Addr×Obj)}{H:Hp}(hn:∀p∈l,H p.1=none):SameT H (told l H):=(fY hn).t
theorem lV{l:List (Addr×Obj)}{H H2:Hp}(hn:∀p∈l,H p.1=none)(s:SameT (told l H) H2):SameT H (era (l.map (·.1)) H2):=λb o e=>by
 obtain⟨e1,n⟩:=fC e
 have nb:b∉l.map (·.1):=λz=>by obtain⟨p,hp,rfl⟩:=P4.mp z;rw[hn p hp]at e1;cases e1
 refine fD ?_ n;unfold era;rw[if_neg nb];exact s.at (fh hn e1) n
theorem eV{l:List (Addr×Obj)}{H H2:Hp}(ht:∀p∈l,told l H p.1=some (ay p.1 p.2))(s:SameT (told l H) H2):∀p∈l,H2 p.1=some (ay p.1 p.2):=λp hp=>s.at (ht p hp) (ij _ _)
theorem i6{l:List (Addr×Obj)}{TT:List Site}{H:Hp}(h:TabsOk TT H)(hc:∀p∈l,H p.1=some (ay p.1 p.2))(hd:∀p∈l,∃u,p.2.data=.cell u):TabsOk TT (era (l.map (·.1)) H) :=
 Bl h (λq hq c oc e co z=>by
  obtain⟨p,hp,rfl⟩:=P4.mp z;have:=hc p hp;rw[e]at this;obtain⟨vs,t,d,_⟩:=co;have eo:=AD d (Option.some.inj this);obtain⟨u,du⟩:=hd p hp
  rw[eo,du]at d;cases d) λp hp=>⟨p.2,hc p hp⟩
theorem zy{σ:St}{js:List Nat}{l:List (Addr×Obj)}(h:fT σ [] js l):js=[]/\l=[]:=by
 cases js with
 |nil=>cases l with
  |nil=>exact⟨rfl,rfl⟩
  |cons=>exact h.elim
 |cons=>exact h.elim
theorem zz{σ:St}{x:Str×Addr}{cl:List (Str×Addr)}{js:List Nat}{l:List (Addr×Obj)}(h:fT σ (x::cl) js l):∃j js' o l',js=j::js'/\l=(x.2,o)::l'/\(∃v u,σ[j]?=some (some v)/\o.data=.cell (some u)/\RelV v u)/\fT σ cl js' l':=by
 obtain⟨x1,x2⟩:=x;cases js with
 |nil=>exact h.elim
 |cons j js=>cases l with
  |nil=>exact h.elim
  |cons p l =>obtain⟨a,o⟩:=p;obtain⟨rfl,h1,h2⟩:=h;exact⟨j,js,o,l,rfl,rfl,h1,h2⟩
theorem kx{σ:St}{cl:List (Str×Addr)}:∀{js:List Nat} {l:List (Addr×Obj)},fT σ cl js l->∀p∈l,∃u,p.2.data=.cell u:=by
 induction cl with
 |nil=>intro js l h p hp;obtain⟨_,rfl⟩:=zy h;cases hp
 |cons x cl ih =>
  intro js l h p hp;obtain⟨j,js',o,l',rfl,rfl,⟨v,u,_,d,_⟩,h⟩:=zz h;rcases P8.mp hp with rfl |hp
  ·exact⟨_,d⟩
  ·exact ih h p hp
theorem pR{σ:St}{H:Hp}{cl:List (Str×Addr)}:∀{js:List Nat} {l:List (Addr×Obj)},fT σ cl js l->(∀p∈l,H p.1=some (ay p.1 p.2))->CelH H cl (js.map λj=>((σ[j]?).getD none).getD .non) l:=by
 induction cl with
 |nil=>intro js l h _;obtain⟨rfl,rfl⟩:=zy h;exact .nil
 |cons x cl ih =>
  intro js l h hl;obtain⟨j,js',o,l',rfl,rfl,⟨v,u,e,d,r⟩,h⟩:=zz h;have:((σ[j]?).getD none).getD V.non=v:=by rw[e];rfl
  rw[Qm,this];exact .cons (x:=x.1) (hl _ Qh) d r (ih h λp hp=>hl p (Qb _ hp))
theorem CloO.fnv{K:PySem.W.Frag}{H:Hp}{f:Addr}{qual:Str}{params:Arguments}{body:Expr}{scope:Scope}{cl:List (Str×Addr)}(h:CloO H f qual params body scope cl):FnV K H f:=by obtain⟨c,oc,pm,ctv,e,_⟩:=h;exact .inl ⟨_,_,_,_,e⟩
section
variable {X:Cx}{pins:List (Addr×Obj)}{σ:St}{H:Hp}{s:Shared}
theorem Inv.track{a:Addr}{o:Obj}(I:Inv X pins σ H s)(hn:H a=none)(e:s.heap.get? a=some o)(new:X.s₀.heap.get? a=none)(neL:a≠X.env.locals)(nc:∀x c,X.env.cells.lookup x=some c->c≠a)(np:∀p∈X.pn++pins,p.1≠a):Inv X pins σ (told [(a,o)] H) s:=by
 have hn':∀p∈[(a,o)],H p.1=none:=λp hp=>by rw[Qc.mp hp];exact hn
 have hg:∀p∈[(a,o)],s.heap.get? p.1=some p.2:=λp hp=>by rw[Qc.mp hp];exact e
 have ne:∀{b:Addr},b≠a->told [(a,o)] H b=H b:=λ{b} h=>fi λp hp z=>by rw[Qc.mp hp]at z;exact h z.symm
 have old:∀{b:Addr} {u:HO},H b=some u->told [(a,o)] H b=some u:=λh=>fh hn' h
 refine⟨I.ok,I.os,I.bare,⟨I.base.keep,I.base.slot,λb ob e' n hx=>?_,I.base.there,λb xs h=>old (I.base.tups b xs h),λb ob u h=>old (I.base.frzs b ob u h),λb ps h=>?_⟩,I.loc,I.cell,?_,λx c h=>?_,λp hp=>?_,I.hok.told hn' hg,I.len⟩
 ·rw[ne λz=>by rw[z,new]at e';cases e'];exact I.base.free b ob e' n hx
 ·obtain⟨m,h'⟩:=I.base.tbls b ps h;exact⟨m,old h'⟩
 ·rw[ne (Ne.symm neL)];exact I.free
 ·rw[ne (nc x c h)];exact I.freeC x c h
 ·obtain⟨p1,p2,p3⟩:=I.pin p hp;exact⟨p1,by rw[ne (np p hp)];exact p2,p3⟩
end
noncomputable def se(j:Nat)(cls:Value)(D:Ends):Ends:={ nx:=λσ H=>∀ea o,σ[j]?=some (some (.ref ea))->H ea=none->o.cls=cls->D.nx σ (told [(ea,o)] H),rt:=λ_ _=>False,bk:=λ_ _=>False,ct:=λ_ _=>False }
def Au(K:PySem.W.Frag)(R:Addr)(i j:Nat)(th:Addr->Obj->TS)(D:Ends)(σ:St):XK:=λcls d H'=>MQ K R i th (se j cls D) σ cls d H'
def Bo(K:PySem.W.Frag)(tb:XK->TS)(R:Addr)(i j:Nat)(th:Addr->Obj->TS):TS:=λD σ H=>tb (Au K R i j th D σ) (wZ D) σ H
section
variable {X:Cx}{R:Addr}{r n:Str}{pos epos np hpos:Pos}{i j:Nat}{b₀:Stmt}{suite body:List Stmt}{th:Addr->Obj->TS}{tb:XK->TS}
theorem DJ{L:Addr}(hstk:X.stack=X.env::X.outer)(hfr:X.env.frame=some L)(hex:X.ex=[])(hb:PBV X body tb)
 (hg:∀ea oe,Gl (cxH X ea oe) r) (hR:X.mg r=some (.ref R)) (hN:X.N.Nodup) (hi:X.N[i]?=some n) (hk:X.env.scope.names.lookup n=some .local) (hsu:∀ea oe,PSs (cxH X ea oe) (b₀::suite) (th ea oe))
 (hjl:∃y,X.N[j]?=some y) (hj:∀ea oe D (σ:St) H,j<σ.length->th ea oe D σ H->th ea oe { D with nx:=λσ'' H''=>D.nx σ'' H''/\σ''[j]?=σ[i]? } σ H) (hij:j≠i) (hdb:(r == ("__debug__":Str))=false:=by decide) :
 PS X (.Try body [.ExceptHandler (some (.Name r np)) (some n) (b₀::suite) hpos] [] [] pos) (Bo X.K tb R i j th):=by
 intro pins s σ H D I h;refine wpAny_Try_except ?_;generalize hW:(λe s₁=>wpAny (model X.prog X.w) X.A (noteFrame e X.env) (λ_ s₂=>wpAny (model X.prog X.w) X.A (setFlight e none) (λ_ s₃=>wpAny (model X.prog X.w) X.A (handleBy e X.env [.ExceptHandler (some (.Name r np)) (some n) (b₀::suite) hpos]) (SP X pins D) X.xe s₃) X.xe s₂) X.xe s₁:Value->Shared->Prop)=W;refine wpAny_mono (hb W pins σ s H (wZ D) (Au X.K R i j th D σ) ?_ (I.wish W) h) (λfl s1 hv=>?_) λ_ _ x=>x
 rotate_left
 ·cases fl with
  |next=>obtain⟨σ',H1,I1,q1⟩:=hv;exact wpAny_execs_nil ⟨σ',H1,I1.unwish,q1⟩
  |ret u=>obtain⟨_,_,_,_,_,z⟩:=hv;exact z.elim
  |brk=>obtain⟨_,_,_,z⟩:=hv;exact z.elim
  |cont=>obtain⟨_,_,_,z⟩:=hv;exact z.elim
 intro H1 s1 ev s2 I1w hcx;have I1:=I1w.unwish;obtain⟨d,⟨ea,cls,a0,B,H2,rfl,os,bare,un,hok,fl,b1,b2,hea,hnew,hhit,hth⟩,ea',ob,eea,eob,dob⟩:=hcx;cases eea;show W (.ref ea) s2;rw[<- hW];refine KK hstk hfr I1 os bare un hok fl b1 b2 hea hnew ⟨ob,eob,dob⟩ λh4 oe4 vs4 fl4 ce4 dd4 de4 K4 J=>?_
 have ge4:h4.get? ea=some oe4:=Jc K4;have pe:=K4.pin (ea,oe4) (Qh ..);have LT:PySem.W.Looks (model X.prog X.w) h4 (typeOf (.ref ea)) cls:=by rw[<- ce4];exact(PySem.W.Looks.ld ge4).andThen .now
 refine wpAny_handleBy_cons (codeAny_handlers_test (iP K4 (hg ea oe4) hR ((PySem.W.exm_one K4.kIn LT hhit).here ?_) hdb)) (λz=>nomatch z);show codeAny _ _ _ _ _;have hth':∀ea oe vs,oe.cls=cls->oe.dict=d->oe.data=.fields vs->H2 ea=none->th ea oe { nx:=λσ'' H''=>(se j cls D).nx (σ''.set i none) H'',rt:=λ_ _=>False,bk:=λ_ _=>False,ct:=λ_ _=>False } (σ.set i (some (.ref ea))) H2:=hth;refine codeAny_handlers_suite_as (wpAny_mono (BG (D:=se j cls D) (th:=λea oe D σ H=>th ea oe D σ H/\oe.cls=cls) I.ok fl4 ge4 dd4 J hea pe.2.2.1 pe.2.2.2.1 hN hi hk (λea oe pins s σ H D I h=>hsu ea oe pins s σ H D I h.1) λea oe vs c1 c2 c3 c4=>⟨hth' ea oe vs c1 c2 c3 c4,c1⟩) (λ_ s5 ⟨oe5,K5,ht,ce5⟩=>?_) λ_ _ z=>z.elim);refine lG (X:=cxH X ea oe5) (v:=.ref ea) K5 hN hi (.inl hk) rfl (λs6 I6=>?_) (.inr hk);refine wpAny_mono (hsu ea oe5 pins s6 _ H2 _ I6 (hj _ _ _ _ _ (by obtain⟨y,e⟩:=hjl;rw[Rh,I.len];exact(List.getElem?_eq_some_iff.mp e).1) ht)) (λfw s7 hs7=>?_) λ_ _ z=>z.elim
 cases fw with
 |next =>
  obtain⟨σ',H',I7,q7,q7j⟩:=hs7;have hil:i<σ.length:=by rw[I.len];exact(List.getElem?_eq_some_iff.mp hi).1
  have pn7:=I7.pin (ea,oe5) (Qh ..)
  have I7':Inv X ((ea,oe5)::pins) σ' H' s7:=⟨I.ok,I7.os,I7.bare,I7.base,I7.loc,I7.cell,I7.free,I7.freeC,λp hp=>by
   rcases Qk.mp hp with z |z
   ·exact I7.pin p (Qb _ (Q6 _ z))
   ·rcases P8.mp z with rfl |z
    ·exact pn7
    ·exact I7.pin p (Qb _ (Qx _ z)),I7.hok,I7.len⟩
  show wpAny _ _ _ _ _ _;refine Je I7' hN hi hk λs8 I8=>?_
  have pn8:=I8.pin (ea,oe5) (Qx _ (Qh ..))
  have I8':Inv X pins (σ'.set i none) H' s8:=⟨I8.ok,I8.os,I8.bare,I8.base,I8.loc,I8.cell,I8.free,I8.freeC,λp hp=>by
   rcases Qk.mp hp with z |z
   ·exact I8.pin p (Q6 _ z)
   ·exact I8.pin p (Qx _ (Qb _ z)),I8.hok,I8.len⟩
  have ej:(σ'.set i none)[j]?=some (some (.ref ea)):=by rw[List.getElem?_set_ne (Ne.symm hij),q7j,List.getElem?_set_self hil]
  refine⟨_,_,I8'.track pn8.2.1 pn8.1 ?_ pn8.2.2.1 (λx c h z=>?_) (λp hp z=>?_),q7 ea oe5 ej pn8.2.1 ce5⟩
  ·cases q:X.s₀.heap.get? ea with
   |none=>rfl
   |some o0 =>obtain⟨o',e'⟩:=I1.base.there ea o0 q (by rw[hex];simp);rw[hnew]at e';cases e'
  ·obtain⟨v,hv⟩:=I1.cell x c h;rw[z]at hv;obtain⟨o',e',_⟩:=hv;rw[hnew]at e';cases e'
  ·have:=(I1.pin p hp).1;rw[z,hnew]at this;cases this
 |ret u=>obtain⟨_,_,_,_,_,z⟩:=hs7;exact z.elim
 |brk=>obtain⟨_,_,_,z⟩:=hs7;exact z.elim
 |cont=>obtain⟨_,_,_,z⟩:=hs7;exact z.elim
end
noncomputable def DE(K:PySem.W.Frag):List V->Hp->VK->Prop:=λxs H Q=>∃(ea D:Addr) (o:Obj) (c:Value) (y:V) (k:Bool),xs=[.ref ea,y]/\(∀u,RelV y u->u=c)/\H ea=some (ay ea o)/\o.cls=.ref D/\ECls K D/\PySem.W.kitOne K (.ref D) c=some k/\Q (.bl k) H
theorem zD{X:Cx}:cY X (.builtin "isinstance") (DE X.K):=by intro pins s σ H xs us Q I r h;obtain⟨ea,D,o,c,y,k,rfl,hy,ho,hc,T,e,q⟩:=h;obtain⟨u1,u2,rfl,r1,r2⟩:=r.two;obtain rfl:u1=Value.ref ea:=r1;obtain rfl:=hy u2 r2;exact PySem.W.kia_one (x6 hc T.cl T.ga T.gn T.mB T.ha T.hn T.ht T.hm) I.kIn (fg (I.hok _ _ ho)) e (λz=>nomatch z) λtk=>⟨.bl k,H,I.tok tk,rfl,q⟩
noncomputable def DC(K:PySem.W.Frag):List V->Hp->VK->Prop:=λxs H Q=>∃(ea D tp:Addr) (o:Obj) (cs:List Addr) (k:Bool),xs=[.ref ea,.ref tp]/\H tp=some (.tup (cs.map V.ref))/\H ea=some (ay ea o)/\o.cls=.ref D/\ECls K D/\PySem.W.kitAny K (.ref D) (cs.map Value.ref)=some k/\Q (.bl k) H
theorem uP:∀{cs:List Addr} {us:List Value},Vals (cs.map V.ref) us->us=cs.map Value.ref
 | [],us,r=>by have:=r.length;simp at this;simp[List.eq_nil_of_length_eq_zero this.symm]
 |c::cs,us,r=>by
  cases r with
  |cons h t=>rw[uP t];obtain rfl:=(show _=Value.ref c from h);rfl
theorem KP{X:Cx}:cY X (.builtin "isinstance") (DC X.K):=by
 intro pins s σ H xs us Q I r h;obtain⟨ea,D,tp,o,cs,k,rfl,ht,ho,hc,T,e,q⟩:=h;obtain⟨u1,u2,rfl,r1,r2⟩:=r.two;obtain rfl:u1=Value.ref ea:=r1;obtain rfl:u2=Value.ref tp:=r2;obtain⟨_,its,vi,tt⟩:=I.hok _ _ ht;obtain rfl:=uP vi
 obtain⟨dd,n,sl,et⟩:∃dd n sl,s.heap.get? tp=some ⟨.type "tuple",dd,.seq (cs.map Value.ref).toArray n,sl⟩:=by obtain⟨⟨oc,od,dat,sl⟩,h1,h2,n,h3⟩:=tt;cases h2;cases h3;exact⟨od,n,sl,h1⟩
 exact PySem.W.kia_tup (x6 hc T.cl T.ga T.gn T.mB T.ha T.hn T.ht T.hm) I.kIn (fg (I.hok _ _ ho)) et e (λz=>nomatch z) λtk=>⟨.bl k,H,I.tok tk,rfl,q⟩
section
variable {X:Cx}{k i:Nat}{sp:Sp}{x:Str}{p pos:Pos}{e:Expr}{es:List Expr}{t:TA}
theorem DH(hr:Room k X.A)(ha:∀W,PA (X.wish W) (e::es) t)(hN:X.N[i]?=some x:=by rfl)(hv:Vis X.env.scope x:=by first |exact Or.inl rfl |exact Or.inr (Or.inl rfl) |exact Or.inr (Or.inr rfl))(hdb:(x == ("__debug__":Str))=false:=by decide)(hcd:(x == ("__classdict__":Str))=false:=by decide)
 (he:starEach (e::es) X.env=(false,eval e X.env)::starEach es X.env:=by rfl) (hpl:(backTo pos (starEach es X.env)).any (·.1)=false:=by rfl) :
 PXV X (.Call (.Name x p) (e::es) [] pos) (λE=>vb X (CXV X.prog X.w) k i sp E t):=by
 intro W pins σ s H Q E hx I h;obtain⟨f,ef,hf,h⟩:=h;refine wpAny_Call_Name_kw (thn (qX (X:=X.wish W) hN hv hdb hcd pins s σ H (λv H'=>v=.ref f/\H'=H) I ⟨_,ef,rfl,rfl⟩) λu s1 ⟨v,H1,I1,rv,ev,eH⟩=>?_);subst ev eH;obtain rfl:u=Value.ref f:=rv;refine PySem.W.callWith_F (I1.fnAt hf) (thn (ha W pos pins s1 σ _ _ I1 h) λus s2 ⟨vs,H2,I2,r,hf2,hc,q⟩=>⟨I2.fnAt hf2,?_⟩) he hpl;refine wpAny_call (codeAny_mono (hc X.A X.stack s2 H2 us vs Q E hr (SameT.refl _) I2.env0 r q) λr s' hq'=>?_);cases r with
 |error e=>exact hx H2 s2 e s' I2 hq'
 |ok fl =>
  cases fl with
  |ret u=>exact I2.after hq'
  |next=>exact False.elim hq'
  |brk=>exact False.elim hq'
  |cont=>exact False.elim hq'
end
noncomputable def CXL(P:Program)(w:World)(l:List (Addr×Obj)):CXT:=λouter H s E e s'=>CXV P w outer (era (l.map (·.1)) H) s (λc d H2=>(∀p∈l,H2 p.1=none)->E c d (told l H2)) e s'
section
variable {P:Program}{w:World}{K:PySem.W.Frag}{mg:Str->Option Value}{base:Heap}{N:List Str}{qual:Str}{scope:Scope}{f:Addr}{cd:Value}{cl:List (Str×Addr)}{A:Around}{outer:List Env}{s:Shared}{H0:Hp}{E:XK}{pins:List (Addr×Obj)}{σ:St}{H1:Hp}{s1:Shared}{l:List (Addr×Obj)}
theorem Jv{CX:CXT}{H:Hp}{H2:Hp}{s2:Shared}(J:Inv (cxL CX P w K mg base N qual scope f cd cl A outer s H0 H E) pins σ H2 s2):∀b∈frs outer,∀o,s2.heap.get? b=some o->∀ws,o.data≠.fields ws:=λb hb o q=>by obtain⟨_,o',q',hdd⟩:=J.funs.mem hb;have q'':s2.heap.get? b=some o':=q';rw[q]at q'';cases q'';exact hdd
theorem AG{E':XK}{e:Value}{s2:Shared}(I:Inv (cxL (CXL P w l) P w K mg base N qual scope f cd cl A outer s H0 (era (l.map (·.1)) H0) E) pins σ H1 s1)(h:CXV P w (cxL (CXL P w l) P w K mg base N qual scope f cd cl A outer s H0 (era (l.map (·.1)) H0) E).stack H1 s1 E' e s2)(hE:∀c d H',E' c d H'->(∀p∈l,H' p.1=none)->E c d (told l H')) :
 (cxL (CXL P w l) P w K mg base N qual scope f cd cl A outer s H0 (era (l.map (·.1)) H0) E).xe e s2:=by
 obtain⟨d,⟨ea,cls,a0,B,H2,rfl,os,bare,un,hok,fl,b1,b2,he,hn,hE'⟩,ea',ob,eea,eo,ed⟩:=h;cases eea;have J:Inv (cxL (CXL P w l) P w K mg base N qual scope f cd cl A outer s H0 (era (l.map (·.1)) H0) E) pins σ H2 s2:=I.call' os un hok bare (λb hb=>nomatch hb);have hfrm:(PySem.W.envX qual scope s.heap.objs.size f cd cl).frame=some s.heap.objs.size:=rfl;have efr:frs (PySem.W.envX qual scope s.heap.objs.size f cd cl::outer)=s.heap.objs.size::frs outer:=sI hfrm
 have b1':∀b o,s.heap.get? b=some o->b∉frs outer->∃o',s2.heap.get? b=some o'/\B.get? b=some o':=λb o q hb=>by
  obtain⟨o',q'⟩:=I.base.there b o q (λz=>nomatch z);refine b1 b o' q' ?_;show b∉frs (PySem.W.envX qual scope s.heap.objs.size f cd cl::outer);rw[efr];intro z;rcases P8.mp z with z |z
  ·exact absurd (Heap.lt_size q) (by rw[z];exact Qt _)
  ·exact hb z
 have x:wpAny (model P w) (A.deeper (PySem.W.envX qual scope s.heap.objs.size f cd cl)) (leaving (PySem.W.envX qual scope s.heap.objs.size f cd cl) (.ref ea)) (λ_ s''=>CXW P w outer (era (l.map (·.1)) H0) s (λc _ H'=>(∀p∈l,H' p.1=none)->E c d (told l H')) (.ref ea) s'') (λ_ _=>False) s2:=by
  refine wpAny_leaves_onW (L:=s.heap.objs.size) I.ok.frames hfrm fl λh'' fl' up=>?_
  refine⟨ea,cls,a0,B,H2,rfl,J.os,J.bare,?_,J.hok.back b2 fl'.1,fl',λb o q hb=>?_,λb x q=>?_,he,?_,hE _ _ _ hE'⟩
  ·exact J.base.back (λb o q hb=>let⟨o',q1,q2⟩:=b1' b o q hb;⟨o',q1,fl'.1 _ _ q2⟩) I.ok.frf (Jv J) up
  ·obtain⟨o',q1,q2⟩:=b1' b o q hb;exact⟨o',fl'.1 _ _ q2,q2⟩
  ·obtain⟨o',q1,q2⟩:=b2 b x q;exact⟨o',fl'.1 _ _ q2,q2⟩
  ·cases q:s.heap.get? ea with
   |none=>rfl
   |some o=>obtain⟨o',q'⟩:=I.base.there ea o q (λz=>nomatch z);rw[hn]at q';cases q'
 refine wpAny_mono (ik (E':=λ_ _=>False) (rE _ _) x) (λ_ s'' hq=>?_) (λ_ _ z=>z.elim);obtain⟨h1,kd⟩:=hq;obtain⟨o',eo',od'⟩:=kd ea ob eo;exact⟨d,h1,ea,o',rfl,eo',od'.trans ed⟩
theorem D7:eZ (CXV P w) (cxL (CXL P w l) P w K mg base N qual scope f cd cl A outer s H0 (era (l.map (·.1)) H0) E) (λc d H'=>(∀p∈l,H' p.1=none)->E c d (told l H')):=λ_ _ _ _ _ _ I h=>AG I h λ_ _ _ z=>z
theorem CloOk.toV{k:Nat}{sp:Sp}{H:Hp}(c:CloOk P w K mg base (CXL P w l) k f sp H)(hl:∀p∈l,H p.1=some (ay p.1 p.2)):CloOk P w K mg base (CXV P w) k f sp H:=by
 intro A outer s H' us vs Q E hr sT e0 r hsp;refine codeAny_mono (c A outer s H' us vs Q E hr sT e0 r hsp) λr s' hq=>?_
 cases r with
 |ok fl=>cases fl<;>exact hq
 |error e =>
  have hq':CXL P w l outer H' s E e s':=hq;show CXV P w outer H' s E e s';obtain⟨d,⟨ea,cls,a0,B,H2,rfl,os,bare,un,hok,fl,b1,b2,he,hn,hE⟩,ea',ob,eea,eo,ed⟩:=hq';cases eea;have k3:∀p∈l,H' p.1=some (ay p.1 p.2):=λp hp=>(fC (sT _ _ (fD (hl p hp) (ij _ _)))).1
  have hgs:∀p∈l,s.heap.get? p.1=some p.2:=λp hp=>fg (e0.hok _ _ (k3 p hp))
  have nfs:∀p∈l,p.1∉frs outer:=λp hp z=>by have:=e0.frf _ z;rw[k3 p hp]at this;cases this
  have ern:∀p∈l,era (l.map (·.1)) H' p.1=none:=λp hp=>by unfold era;rw[if_pos (QL (f:=(·.1)) hp)]
  have noX:∀{b:Addr},b∉([]:List Addr):=λ{b} z=>nomatch z
  have hg':∀p∈l,s'.heap.get? p.1=some p.2:=λp hp=>un.keep _ _ (hgs p hp) (ern p hp) (nfs p hp) noX
  have hn':∀p∈l,H2 p.1=none:=λp hp=>un.free _ _ (hgs p hp) (ern p hp) noX
  have off:∀{b:Addr},(∀o,H' b≠some (ay b o))->b∉l.map (·.1):=λ{b} n hb=>by obtain⟨p,hp,rfl⟩:=P4.mp hb;exact n _ (k3 p hp)
  have era_off:∀{b:Addr},b∉l.map (·.1)->era (l.map (·.1)) H' b=H' b:=λn=>by unfold era;rw[if_neg n]
  have told_off:∀{b:Addr},b∉l.map (·.1)->told l H2 b=H2 b:=λ{b} n=>fi (b:=b) λp hp y=>n (y ▸ QL (f:=(·.1)) hp)
  refine⟨d,⟨ea,cls,a0,B,told l H2,rfl,os,bare,⟨λb o e n hb hx=>?_,λb o e n hb hx=>?_,λb o e n hx=>?_,λb o e hx=>un.there b o e noX,λb xs e=>?_,λb o u e=>?_,λb ps e=>?_⟩,hok.told hn' hg',fl,b1,λb x q=>?_,?_,hn,hE hn'⟩,ea,ob,rfl,eo,ed⟩
  ·exact un.keep b o e (fL n) hb noX
  ·exact un.slot b o e (fL n) hb noX
  ·have nb:b∉l.map (·.1):=off λo z=>by rw[n]at z;cases z
   rw[told_off nb];exact un.free b o e (fL n) noX
  ·have nb:b∉l.map (·.1):=off λo z=>by rw[e]at z;cases z
   rw[told_off nb];exact un.tups b xs (by rw[era_off nb];exact e)
  ·have nb:b∉l.map (·.1):=off λo z=>by rw[e]at z;cases z
   rw[told_off nb];exact un.frzs b o u (by rw[era_off nb];exact e)
  ·have nb:b∉l.map (·.1):=off λo z=>by rw[e]at z;cases z
   obtain⟨m,q⟩:=un.tbls b ps (by rw[era_off nb];exact e);exact⟨m,by rw[told_off nb];exact q⟩
  ·by_cases hb:b∈l.map (·.1)
   ·obtain⟨p,hp,rfl⟩:=P4.mp hb;exact b1 _ _ (hgs p hp) (nfs p hp)
   ·rw[told_off hb]at q;exact b2 b x q
  ·rw[told_off λz=>?_]
   ·exact he
   ·obtain⟨p,hp,e⟩:=P4.mp z;have:=hgs p hp;rw[show p.1=ea from e,hn]at this;cases this
end
section
variable {ts:List Addr}{K:Frag}(T:Tbs ts K)
include T
theorem w9(a:Addr):nsOkIn (nt ts K) a=nsOkIn K a:=by
 unfold nsOkIn;rcases gd T a with e |⟨e1,e2⟩
 ·rw[e]
 ·rw[e1,e2]
theorem w8(bmB:List Value):∀l:List Value,tailIn (nt ts K) bmB l=tailIn K bmB l
 | []=>rfl
 |v::r=>by
  unfold tailIn
  congr 1
  cases v with
  |ref A =>
   dsimp only
   rcases gd T A with e |⟨e1,e2⟩
   ·rw[e];split
    ·rw[w9 T,bF T,w8 bmB r]
    ·rfl
   ·rw[e1,e2]
  |_=>rfl
theorem Gf(C:Addr)(bmB:List Value)(n:String):excIn (nt ts K) C bmB n=excIn K C bmB n:=by
 unfold excIn;rcases gd T C with e |⟨e1,e2⟩
 ·rw[e];split
  ·split
   ·rw[w9 T,bF T,w8 T]
   ·rfl
  ·rfl
 ·rw[e1,e2]
theorem Fun.nt{x q:Str}{st:Stmt}{f:Addr}{fd:FuncData}(F:Fun K x q st f fd):Fun (L2.nt ts K) x q st f fd:=by obtain⟨⟨oc,od,kV,doc,pm,an,cdv,ct,osl,e,l,c⟩,k⟩:=F;exact⟨⟨oc,od,kV,doc,pm,an,cdv,ct,osl,e,dR T l (λz=>nomatch z),(oS T _ _).trans c⟩,jF T k⟩
theorem FunL.nt{x q:Str}{st:Stmt}{c f:Addr}{fd:FuncData}(F:FunL K x q st c f fd):FunL (L2.nt ts K) x q st c f fd:=by obtain⟨⟨oc,od,kV,doc,pm,an,ct,osl,e,l,c⟩,k⟩:=F;exact⟨⟨oc,od,kV,doc,pm,an,ct,osl,e,dR T l (λz=>nomatch z),(oS T _ _).trans c⟩,jF T k⟩
end
end L2
namespace RM
noncomputable def cf(l:List Int)(k:Nat):Int:=l.getD k 0
theorem bV(k:Nat):cf [] k=0:=by simp[cf]
theorem tq(x:Int)(l:List Int):cf (x::l) 0=x:=rfl
theorem eT(x:Int)(l:List Int)(k:Nat):cf (x::l) (k+1)=cf l k:=rfl
theorem bI{l:List Int}{k:Nat}(h:l.length<=k):cf l k=0:=by unfold cf;rw[List.getD,List.getElem?_eq_none_iff.mpr h];rfl
theorem cw{l:List Int}{k:Nat}(h:k<l.length):cf l k=l[k]:=by unfold cf;rw[List.getD,List.getElem?_eq_getElem h];rfl
theorem tw{l:List Int}{k:Nat}{x:Int}(h:l[k]?=some x):cf l k=x:=by unfold cf;rw[List.getD,h];rfl
theorem gk{l:List Int}{k:Nat}(h:k<l.length):l[k]?=some (cf l k):=by rw[cw h,List.getElem?_eq_getElem h]
theorem pP{l r:List Int}{k:Nat}(h:k<l.length):cf (l++r) k=cf l k:=by unfold cf;rw[List.getD,List.getD,List.getElem?_append_left h]
theorem pO{l r:List Int}{k:Nat}(h:l.length<=k):cf (l++r) k=cf r (k-l.length):=by unfold cf;rw[List.getD,List.getD,List.getElem?_append_right h]
theorem kt{l:List Int}{j k:Nat}{x:Int}(h:j<l.length):cf (l.set j x) k=if k=j then x else cf l k:=by
 unfold cf;rw[List.getD,List.getD,List.getElem?_set];by_cases e:j=k
 ·subst e;simp[h]
 ·rw[if_neg e,if_neg (λz=>e z.symm)]
theorem ku(n k:Nat):cf (List.replicate n 0) k=0:=by unfold cf;rw[List.getD,List.getElem?_replicate];split<;>rfl
theorem eU(f:Nat->Int)(n k:Nat):cf ((List.range n).map f) k=if k<n then f k else 0:=by
 unfold cf;rw[List.getD,List.getElem?_map];by_cases h:k<n
 ·rw[if_pos h,List.getElem?_range h];rfl
 ·rw[if_neg h,List.getElem?_eq_none_iff.mpr (by simpa using h)];rfl
theorem kn{a b:List Int}(hl:a.length=b.length)(h:∀k,k<a.length->cf a k=cf b k):a=b:=by apply List.ext_getElem hl;intro k h1 h2;rw[<- cw h1,<- cw h2];exact h k h1
noncomputable def trim(l:List Int):List Int:=(l.reverse.dropWhile (· == 0)).reverse
theorem uU(l:List Int):trim (l++[0])=trim l:=by unfold trim;rw[List.reverse_append];rfl
theorem qc(l:List Int){x:Int}(h:x≠0):trim (l++[x])=l++[x]:=by unfold trim;rw[List.reverse_append];show((x::l.reverse).dropWhile (· == 0)).reverse=_;rw[List.dropWhile_cons_of_neg (by simpa using h)];simp
def Tr(l:List Int):Prop:=∀n,l.length=n+1->cf l n≠0
theorem dA(l:List Int):l=[]\/∃r x,l=r++[x]:=by
 cases h:l.reverse with
 |nil=>left;simpa using h
 |cons x r=>right;exact⟨r.reverse,x,by rw[<- List.reverse_reverse l,h];simp⟩
theorem kv(r:List Int)(x:Int):cf (r++[x]) r.length=x:=by rw[pO (PZ _),QQ];rfl
theorem uW:Tr []:=λn h=>by simp at h
theorem tr_snoc{r:List Int}{x:Int}:Tr (r++[x])↔x≠0:=by
 constructor
 ·intro h;have:=h r.length (by simp)
  rwa [kv]at this
 ·intro h n hn;have e:n=r.length:=by simp at hn;omega
  subst e
  rwa [kv]
theorem lC:∀(n:Nat) (l:List Int),l.length=n->Tr (trim l)/\(trim l).length<=l.length/\∀k,cf (trim l) k=cf l k
 |0,l,h=>by have:l=[]:=Q0.mp h;subst this;exact⟨uW,PZ _,λ_=>rfl⟩
 |n+1,l,h=>by
  rcases dA l with rfl |⟨r,x,rfl⟩
  ·simp at h
  ·by_cases hx:x=0
   ·subst hx;obtain⟨h1,h2,h3⟩:=lC n r (by simpa using h);rw[uU];refine⟨h1,by rw[PY];exact Qu h2 (Nat.le_add_right _ _),λk=>?_⟩;rw[h3];by_cases hk:k<r.length
    ·rw[pP hk]
    ·rw[pO (QX hk),bI (QX hk)];cases e:k-r.length with
     |zero=>rfl
     |succ j=>rw[eT,bV]
   ·rw[qc r hx];exact⟨tr_snoc.mpr hx,PZ _,λ_=>rfl⟩
theorem dL(l:List Int):Tr (trim l):=(lC _ l rfl).1
theorem gf(l:List Int):(trim l).length<=l.length:=(lC _ l rfl).2.1
theorem cX(l:List Int)(k:Nat):cf (trim l) k=cf l k:=(lC _ l rfl).2.2 k
theorem qd{l:List Int}(h:Tr l):trim l=l:=by
 rcases dA l with rfl |⟨r,x,rfl⟩
 ·rfl
 ·exact qc r (tr_snoc.mp h)
theorem gR{a b:List Int}(ha:Tr a)(hb:Tr b)(h:∀k,cf a k=cf b k):a=b:=by
 have le:∀{a b:List Int},Tr a->(∀k,cf a k=cf b k)->a.length<=b.length:=λ{a b} ha h=>by
  cases e:a.length with
  |zero=>exact P6 _
  |succ n =>apply Classical.byContradiction;intro hn;exact ha n e (by rw[h n,bI (by omega)])
 have hl:a.length=b.length:=Nat.le_antisymm (le ha h) (le hb λk=>(h k).symm);exact kn hl λk _=>h k
theorem A8{l:List Int}{n:Nat}(hn:n<l.length)(h:cf l n=0):trim (l.take (n+1))=trim (l.take n):=by rw[QE,gk hn,h];exact uU _
theorem A9{l:List Int}{n:Nat}(hn:n<l.length)(h:cf l n≠0):trim (l.take (n+1))=l.take (n+1):=by rw[QE,gk hn];exact qc _ h
noncomputable def cJ(f:Int)(a b:List Int):List Int:=(List.range (max a.length b.length)).map λk=>cf a k+f*cf b k
theorem fN(f:Int)(a b:List Int)(k:Nat):cf (cJ f a b) k=cf a k+f*cf b k:=by
 unfold cJ;rw[eU];by_cases h:k<max a.length b.length
 ·rw[if_pos h]
 ·have h1:a.length<=k:=by omega
  have h2:b.length<=k:=by omega
  rw[if_neg h,bI h1,bI h2];simp
noncomputable def bj(a b:List Int):List Int:=trim (cJ 1 a b)
noncomputable def ip(a b:List Int):List Int:=trim (cJ (-1) a b)
noncomputable def tm(a b:List Int)(n i:Nat):Int:=if i<=n then cf a i*cf b (n-i)else 0
noncomputable def sm(a b:List Int)(n:Nat):Nat->Int
 |0=>0
 |j+1=>sm a b n j+tm a b n j
noncomputable def az(a b:List Int)(n:Nat):Int:=sm a b n a.length
noncomputable def ap(a b:List Int):List Int:=if a=[]\/b=[]then[]else(List.range (a.length+b.length-1)).map (az a b)
theorem Bd{a b:List Int}{n i:Nat}(h:a.length<=i):tm a b n i=0:=by
 unfold tm;split
 ·rw[bI h,Ra]
 ·rfl
theorem lD{a b:List Int}{n i:Nat}(h:b.length<=n-i):tm a b n i=0:=by
 unfold tm;split
 ·rw[bI h,Qs]
 ·rfl
theorem jf{a b:List Int}{n:Nat}:∀{j:Nat},(∀i,i<j->tm a b n i=0)->sm a b n j=0
 |0,_=>rfl
 |j+1,h=>by rw[sm,jf λi hi=>h i (Nat.lt_succ_of_lt hi),h j (QP _)];rfl
theorem xp{a b:List Int}{n:Nat}(h:a.length+b.length<=n+1):az a b n=0:=by apply jf;intro i hi;exact lD (by omega)
theorem rg{a b:List Int}{la lb:Nat}(ha:a.length=la+1)(hb:b.length=lb+1):az a b (la+lb)=cf a la*cf b lb:=by unfold az;rw[ha,sm,jf λi hi=>lD (by omega)];unfold tm;rw[if_pos (Nat.le_add_right _ _),Nat.add_sub_cancel_left,QR]
theorem cv(a b:List Int)(n:Nat):cf (ap a b) n=az a b n:=by
 unfold ap;by_cases h:a=[]\/b=[]
 ·rw[if_pos h,bV]
  symm
  apply jf;intro i hi;rcases h with rfl |rfl
  ·simp at hi
  ·exact lD (P6 _)
 ·rw[if_neg h,eU];by_cases hn:n<a.length+b.length-1
  ·rw[if_pos hn]
  ·rw[if_neg hn,xp (by omega)]
theorem qe{a b:List Int}(ha:Tr a)(hb:Tr b):Tr (ap a b):=by
 intro n hn;rw[cv];by_cases h:a=[]\/b=[]
 ·unfold ap at hn;rw[if_pos h]at hn;simp at hn
 ·have h1:a≠[]:=λz=>h (.inl z)
  have h2:b≠[]:=λz=>h (.inr z)
  obtain⟨la,ea⟩:∃la,a.length=la+1:=⟨a.length-1,by have:=Qe.mpr h1;omega⟩;obtain⟨lb,eb⟩:∃lb,b.length=lb+1:=⟨b.length-1,by have:=Qe.mpr h2;omega⟩;unfold ap at hn
  rw[if_neg h,PX,QF]at hn;have e:n=la+lb:=by omega
  subst e;rw[rg ea eb];exact QS (ha la ea) (hb lb eb)
theorem Gq{a b acc:List Int}{j k:Nat}(hj:j<a.length)(hk:k<b.length)(hl:j+k<acc.length)
 (h:∀n,n<acc.length->cf acc n=sm a b n j+(if j<=n/\n-j<k then tm a b n j else 0)) :
 ∀n,n<(acc.set (j+k) (cf acc (j+k)+cf a j*cf b k)).length->cf (acc.set (j+k) (cf acc (j+k)+cf a j*cf b k)) n=sm a b n j+(if j<=n/\n-j<k+1 then tm a b n j else 0):=by
 intro n hn;rw[Rh]at hn;rw[kt hl];by_cases e:n=j+k
 ·subst e;rw[if_pos rfl,h _ hl,if_neg (by omega),if_pos ⟨by omega,by omega⟩];unfold tm;rw[if_pos (by omega),Nat.add_sub_cancel_left,QY]
 ·rw[if_neg e,h n hn]
  congr 1
  by_cases h1:j<=n/\n-j<k
  ·rw[if_pos h1,if_pos ⟨h1.1,by omega⟩]
  ·rw[if_neg h1,if_neg (by omega)]
theorem Gs{a b acc:List Int}{j:Nat}(h:∀n,n<acc.length->cf acc n=sm a b n j+(if j<=n/\n-j<b.length then tm a b n j else 0)):∀n,n<acc.length->cf acc n=sm a b n (j+1):=by
 intro n hn;rw[h n hn,sm]
 congr 1
 by_cases h1:j<=n/\n-j<b.length
 ·rw[if_pos h1]
 ·rw[if_neg h1];by_cases h2:j<=n
  ·rw[lD (by omega)]
  ·unfold tm;rw[if_neg h2]
theorem Gr{a b acc:List Int}{j:Nat}(h:∀n,n<acc.length->cf acc n=sm a b n j):∀n,n<acc.length->cf acc n=sm a b n j+(if j<=n/\n-j<0 then tm a b n j else 0):=by intro n hn;rw[if_neg (by omega),QY];exact h n hn
theorem Gu{a b acc:List Int}(hl:a.length+b.length<=acc.length+1)(h:∀n,n<acc.length->cf acc n=sm a b n a.length)(n:Nat):cf acc n=az a b n:=by
 by_cases hn:n<acc.length
 ·exact h n hn
 ·rw[bI (QX hn),xp (by omega)]
theorem LY(a b:List Int):trim ((List.range (max a.length b.length)).map λk=>cf a k+cf b k)=bj a b:=by
 unfold bj cJ
 congr 2;funext k;rw[Qn]
theorem BH(a b:List Int):trim ((List.range (max a.length b.length)).map λk=>cf a k-cf b k)=ip a b:=by
 unfold ip cJ
 congr 2;funext k;omega
noncomputable def dv(t b:Int):Int:=if b<0 then -((Nat.gcd t.natAbs b.natAbs:Nat):Int)else((Nat.gcd t.natAbs b.natAbs:Nat):Int)
noncomputable def rt(t b:Int):Int:=t.fdiv (dv t b)
noncomputable def rb(t b:Int):Int:=b.fdiv (dv t b)
theorem kh{t b:Int}(hb:b≠0):0<Nat.gcd t.natAbs b.natAbs:=Nat.gcd_pos_of_pos_right _ (RC.mpr hb)
theorem gS{t b:Int}(hb:b≠0):dv t b≠0:=by have:=@kh t b hb;unfold dv;split<;>omega
theorem gq(t b:Int):(dv t b).natAbs=Nat.gcd t.natAbs b.natAbs:=by unfold dv;split<;>omega
theorem Ki(t b:Int):dv t b∣t:=RJ.mp (by rw[gq];exact QM _ _)
theorem Kh(t b:Int):dv t b∣b:=RJ.mp (by rw[gq];exact QT _ _)
theorem yG{a d:Int}(hd:d≠0)(h:d∣a):d*a.fdiv d=a:=by obtain⟨c,rfl⟩:=h;rw[Int.mul_fdiv_cancel_left c hd]
theorem iy{t b:Int}(hb:b≠0):dv t b*rt t b=t:=yG (gS hb) (Ki t b)
theorem gx{t b:Int}(hb:b≠0):dv t b*rb t b=b:=yG (gS hb) (Kh t b)
theorem bJ{t b:Int}(hb:b≠0):0<rb t b:=by
 have h1:=@gx t b hb;have h2:=@kh t b hb;by_cases hn:b<0
 ·have hd:dv t b<0:=by unfold dv;rw[if_pos hn];omega
  apply Classical.byContradiction;intro h;have:0<=dv t b*rb t b:=Int.mul_nonneg_of_nonpos_of_nonpos (Qo hd) (by omega);omega
 ·have hd:0<dv t b:=by unfold dv;rw[if_neg hn];omega
  apply Classical.byContradiction;intro h;have:dv t b*rb t b<=0:=Int.mul_nonpos_of_nonneg_of_nonpos (Qo hd) (by omega);omega
theorem iC{t b:Int}(hb:b≠0):Nat.gcd (rt t b).natAbs (rb t b).natAbs=1:=by
 have h1:t.natAbs=Nat.gcd t.natAbs b.natAbs*(rt t b).natAbs:=by rw[<- gq,<- QD,iy hb]
 have h2:b.natAbs=Nat.gcd t.natAbs b.natAbs*(rb t b).natAbs:=by rw[<- gq,<- QD,gx hb]
 have hp:=@kh t b hb
 have e:Nat.gcd t.natAbs b.natAbs=Nat.gcd t.natAbs b.natAbs*Nat.gcd (rt t b).natAbs (rb t b).natAbs:=by rw[<- Nat.gcd_mul_left,<- h1,<- h2]
 exact(Nat.eq_of_mul_eq_mul_left hp (by rw[Nat.mul_one];exact e)).symm
theorem ce{t b:Int}(hb:b≠0):rt t b*b=t*rb t b:=by
 have e1:=@iy t b hb;have e2:=@gx t b hb
 calc rt t b*b=rt t b*(dv t b*rb t b):=by rw[e2]
  _=(dv t b*rt t b)*rb t b:=by rw[<- Int.mul_assoc,QN (rt t b)]
  _=t*rb t b:=by rw[e1]
theorem Da{t b:Int}(hb:b≠0):(rt t b).natAbs<=t.natAbs:=by
 have h1:t.natAbs=Nat.gcd t.natAbs b.natAbs*(rt t b).natAbs:=by rw[<- gq,<- QD,iy hb]
 rw[h1];exact RD _ (kh hb)
theorem Dt{t b:Int}(hb:b≠0):(rb t b).natAbs<=b.natAbs:=by
 have h1:b.natAbs=Nat.gcd t.natAbs b.natAbs*(rb t b).natAbs:=by rw[<- gq,<- QD,gx hb]
 rw[h1];exact RD _ (kh hb)
noncomputable def sg(x:Int):Int:=if x<0 then -1 else if 0<x then 1 else 0
theorem B2(x:Int):sg (-x) = -sg x:=by unfold sg;split<;>split<;>(try split)<;>(try split)<;>omega
theorem ji{x p:Int}(hp:0<p):sg (x*p)=sg x:=by
 unfold sg;by_cases h1:x<0
 ·rw[if_pos h1,if_pos (RK h1 hp)]
 ·by_cases h2:0<x
  ·have:=P5 h2 hp;rw[if_neg h1,if_pos h2,if_neg (by omega),if_pos this]
  ·obtain rfl:x=0:=by omega
   simp
noncomputable def hv(t b:Int):List Int->Int
 | []=>0
 |v::l=>v*b^(l.length+1)+t*hv t b l
theorem yr(t b v:Int)(l:List Int):hv t b (v::l)=v*b^(l.length+1)+t*hv t b l:=rfl
noncomputable def mb(a b:Int):Int->List Int->List Int
 |c,[]=>[c]
 |c,x::l=>(-a*x+c)::mb a b (b*x) l
theorem iM(a b:Int):∀(c:Int) (l:List Int),(mb a b c l).length=l.length+1
 |c,[]=>rfl
 |c,x::l=>by show(mb a b (b*x) l).length+1=_;rw[iM];rfl
theorem tz(a b:Int):∀(c:Int) (l:List Int) (k:Nat),cf (mb a b c l) k = -a*cf l k+(if k=0 then c else b*cf l (k-1))
 |c,[],0=>by show c=_;rw[bV];simp
 |c,[],k+1=>by show cf [] k=_;rw[bV,bV];simp[bV]
 |c,x::l,0=>rfl
 |c,x::l,k+1=>by
  show cf (mb a b (b*x) l) k=_;rw[tz a b (b*x) l k,eT,if_neg (Nat.succ_ne_zero k)];cases k with
  |zero=>rfl
  |succ k=>rw[if_neg (Nat.succ_ne_zero k)];rfl
theorem zv(x y:Int)(k:Nat):cf [x,y] k=if k=0 then x else if k=1 then y else 0:=by
 rcases k with _ |_ |k
 ·rfl
 ·rfl
 ·rw[if_neg (by omega),if_neg (by omega)];exact bI (by simp)
theorem qF(l:List Int)(x y:Int)(n:Nat):∀j,sm l [x,y] n j=(if n<j then cf l n*x else 0)+(if 1<=n/\n-1<j then cf l (n-1)*y else 0)
 |0=>by rw[if_neg (by omega),if_neg (by omega)];rfl
 |j+1=>by
  show sm l [x,y] n j+tm l [x,y] n j=_;rw[qF l x y n j];unfold tm;rw[zv];by_cases h1:n<j
  ·rw[if_pos h1,if_neg (show ¬j<=n by omega),if_pos (show n<j+1 by omega),QY];by_cases h2:1<=n
   ·rw[if_pos ⟨h2,by omega⟩,if_pos ⟨h2,by omega⟩]
   ·rw[if_neg (λz=>h2 z.1),if_neg (λz=>h2 z.1)]
  ·rw[if_neg h1,if_pos (show j<=n by omega),QR];by_cases h2:n=j
   ·subst h2;rw[QQ,if_pos rfl,if_pos (QP _),Int.add_comm];by_cases h3:1<=n
    ·rw[if_pos ⟨h3,by omega⟩,if_pos ⟨h3,by omega⟩]
    ·rw[if_neg (λz=>h3 z.1),if_neg (λz=>h3 z.1)]
   ·rw[if_neg (show ¬n-j=0 by omega),if_neg (show ¬n<j+1 by omega),QR,if_neg (show ¬(1<=n/\n-1<j) by omega),QR];by_cases h3:n-j=1
    ·rw[if_pos h3,if_pos (show 1<=n/\n-1<j+1 by omega),show n-1=j by omega]
    ·rw[if_neg h3,if_neg (show ¬(1<=n/\n-1<j+1) by omega),Qs]
theorem rp{a b:Int}{l:List Int}(h:l≠[]):ap l [-a,b]=mb a b 0 l:=by
 apply kn
 ·rw[iM];unfold ap;rw[if_neg (by simp[h]),PX,QF];simp
 ·intro k _;rw[cv,tz];unfold az;rw[qF]
  have e1:(if k<l.length then cf l k * -a else 0) = -a*cf l k:=by
   by_cases hk:k<l.length
   ·rw[if_pos hk,QN]
   ·rw[if_neg hk,bI (QX hk),Qs]
  have e2:(if 1<=k/\k-1<l.length then cf l (k-1)*b else 0)=if k=0 then 0 else b*cf l (k-1):=by
   by_cases h0:k=0
   ·rw[if_neg (by omega),if_pos h0]
   ·rw[if_neg h0];by_cases hk:k-1<l.length
    ·rw[if_pos (by omega),QN]
    ·rw[if_neg (by omega),bI (QX hk),Qs]
  rw[e1,e2]
theorem xq{a b:Int}(l:List Int):(ap l [-a,b]).length=if l=[]then 0 else l.length+1:=by
 by_cases h:l=[]
 ·subst h;have e:ap [] [-a,b]=[]:=by unfold ap;rw[if_pos (.inl rfl)]
  rw[e,if_pos rfl];rfl
 ·rw[rp h,iM,if_neg h]
theorem DO{g:Int}(h:0<g)(n:Nat):0<g^n:=by
 induction n with
 |zero=>simp
 |succ n ih=>rw[Qa];exact P5 ih h
def At(l:List Int)(t b top bot:Int):Prop:=hv t b l*bot=top*b^l.length
theorem At.sign{l:List Int}{t b top bot:Int}(hb:0<b)(hbot:0<bot)(h:At l t b top bot):sg (hv t b l)=sg top:=by
 unfold At at h
 rw[<- ji (x:=hv t b l) hbot,h,ji (DO hb _)]
theorem Kj(t b:Int){l:List Int}{n:Nat}(h:n<l.length):hv t b (l.drop n)=cf l n*b^(l.length-n)+t*hv t b (l.drop (n+1)):=by
 rw[RL h,yr,QJ,cw h];have e:l.length-(n+1)+1=l.length-n:=by omega
 rw[e]
noncomputable def lv(t b:Int):List Int->Int
 | []=>0
 |v::l=>v*b^l.length+t*lv t b l
noncomputable def chF(z:Int×Int)(s:Int):Int×Int:=(if s*z.2<0 then z.1+1 else z.1,if s=0 then z.2 else s)
noncomputable def chS(l:List Int):Int×Int:=l.foldl chF (0,0)
theorem zt(l:List Int)(s:Int):chS (l++[s])=chF (chS l) s:=by unfold chS;rw[List.foldl_append];rfl
theorem fu(x:Int):(x<0/\sg x = -1)\/(x=0/\sg x=0)\/(0<x/\sg x=1):=by unfold sg;split<;>(try split)<;>omega
theorem zu:∀(n:Nat) (l:List Int),l.length=n->(∀s∈l,s.natAbs<=1)->(chS l).2.natAbs<=1/\0<=(chS l).1/\(chS l).1<=l.length
 |n,l,hn,h=>by
  rcases dA l with rfl |⟨r,s,rfl⟩
  ·decide
  ·have hr:r.length+1=n:=by rw[<- hn,PY];rfl
   obtain⟨i1,i2,i3⟩:=zu (n-1) r (by omega) (λx hx=>h x (Q6 _ hx));have hs:=h s (by simp);rw[zt];unfold chF;refine⟨?_,?_,?_⟩
   ·dsimp only;split
    ·exact i1
    ·exact hs
   ·dsimp only;split<;>omega
   ·dsimp only;rw[PY];show _<=((r.length+1:Nat):Int);split<;>omega
termination_by n=>n
theorem KG(l:List Int)(h:∀s∈l,s.natAbs<=1):(chS l).2.natAbs<=1/\0<=(chS l).1/\(chS l).1<=l.length:=zu _ l rfl h
theorem wq(x:Int):(sg x).natAbs<=1:=by unfold sg;split<;>(try split)<;>decide
theorem wa{q q' b:List Int}{c l:Int}{p n:Nat}(h:∀k,cf q' k=c*cf q k+(if k=p then l else 0)) :
 ∀j,sm q' b n j=c*sm q b n j+(if p<j/\p<=n then l*cf b (n-p)else 0)
 |0=>by rw[sm,sm,if_neg (by omega)];simp
 |j+1=>by
  rw[sm,sm,wa h j];unfold tm;by_cases hj:j<=n
  ·rw[if_pos hj,if_pos hj,h j];by_cases e:j=p
   ·subst e;rw[if_pos rfl,if_neg (by omega),if_pos ⟨by omega,hj⟩];grind
   ·rw[if_neg e];by_cases h2:p<j/\p<=n
    ·rw[if_pos h2,if_pos ⟨by omega,h2.2⟩];grind
    ·rw[if_neg h2,if_neg (by omega)];grind
  ·rw[if_neg hj,if_neg hj];by_cases h2:p<j/\p<=n
   ·rw[if_pos h2,if_pos ⟨by omega,h2.2⟩];grind
   ·rw[if_neg h2,if_neg (by omega)];grind
theorem Gp{q q' b:List Int}{c l:Int}{p n:Nat}(hl:q'.length=q.length)(hp:p<q.length)(h:∀k,cf q' k=c*cf q k+(if k=p then l else 0)) :
 az q' b n=c*az q b n+(if p<=n then l*cf b (n-p)else 0):=by
 unfold az;rw[hl,wa h];by_cases h2:p<=n
 ·rw[if_pos h2,if_pos ⟨hp,h2⟩]
 ·rw[if_neg h2,if_neg (by omega)]
noncomputable def scL(c:Int)(l:List Int):List Int:=l.map λx=>c*x
theorem eN(c:Int)(l:List Int):(scL c l).length=l.length:=by unfold scL;rw[PX]
theorem gW(c:Int)(l:List Int)(k:Nat):cf (scL c l) k=c*cf l k:=by
 by_cases h:k<l.length
 ·unfold cf scL;simp[h]
 ·rw[bI (by rw[eN];omega),bI (by omega)];simp
noncomputable def gI(r b:List Int)(p:Nat)(l:Int):List Int:=(List.range (r.length-1)).map λk=>cf r k-(if p<=k then l*cf b (k-p)else 0)
theorem xU(r b:List Int)(p:Nat)(l:Int):(gI r b p l).length=r.length-1:=by unfold gI;simp
theorem tD(r b:List Int)(p:Nat)(l:Int)(k:Nat):cf (gI r b p l) k=if k<r.length-1 then cf r k-(if p<=k then l*cf b (k-p)else 0)else 0:=by unfold gI;rw[eU]
theorem BZ(x:Int):sg x*x=(x.natAbs:Int):=by unfold sg;split<;>(try split)<;>omega
noncomputable def cT(b:List Int)(z:List Int×List Int)(i:Nat):List Int×List Int :=
 let s:Int:=((cf b (b.length-1)).natAbs:Int)
 let l:=sg (cf b (b.length-1))*cf z.2 (z.2.length-1)
 ((scL s z.1).set i l,gI (scL s z.2) b i l)
noncomputable def aH(a b:List Int):Nat->List Int×List Int
 |0=>(List.replicate (a.length+1-b.length) 0,a)
 |i+1=>cT b (aH a b i) (a.length+1-b.length-1-i)
structure DivInv(a b:List Int)(i:Nat):Prop where
 lq:(aH a b i).1.length=a.length+1-b.length
 lr:(aH a b i).2.length=a.length-i
 low:∀k,k+i<a.length+1-b.length->cf (aH a b i).1 k=0
 eqn:∀n,((cf b (b.length-1)).natAbs:Int)^i*cf a n=az (aH a b i).1 b n+cf (aH a b i).2 n
theorem rf{a b:List Int}{n:Nat}(h:∀k,cf a k=0):az a b n=0:=by apply jf;intro i _;unfold tm;rw[h i];simp
theorem Kl{A B i:Nat}(hi:i+1<=A+1-B)(hb:0<B):∃p,A+1-B=p+i+1/\p+i+B=A:=⟨A-B-i,by omega,by omega⟩
theorem zi(p i:Nat):p<p+i+1:=Nat.lt_succ_of_le (Nat.le_add_right _ _)
theorem pL{P A C M R:Int}(en:P*A=M+R):P*C*A=C*M+C*R:=by rw[Int.mul_right_comm,en,QN,Int.mul_add]
theorem Km(x y z:Int):x+y=x+z+(y-z):=by omega
theorem gT{a b:List Int}(hb:b≠[]):∀i,i<=a.length+1-b.length->DivInv a b i
 |0,_=>⟨by simp[aH],by simp[aH],λk _=>by show cf (List.replicate _ 0) k=0;rw[ku],λn=>by
  show _=az (List.replicate _ 0) b n+cf a n
  rw[rf λk=>ku _ _];simp⟩
 |i+1,hi=>by
  obtain⟨lq,lr,low,eqn⟩:=gT (a:=a) hb i (Nat.le_of_succ_le hi);have hbl:=Qe.mpr hb;have e:aH a b (i+1)=cT b (aH a b i) (a.length+1-b.length-1-i):=rfl;generalize aH a b i=z at e lq lr low eqn
  obtain⟨p,ep,ed⟩:=Kl hi hbl;rw[ep,show p+i+1-1-i=p from Nat.add_sub_cancel _ _]at e;rw[ep]at lq low;have lz:z.2.length=p+b.length:=by rw[lr,<- ed,Nat.add_right_comm,Nat.add_sub_cancel]
  have hp:p<(scL ((cf b (b.length-1)).natAbs:Int) z.1).length:=by rw[eN,lq];exact zi p i
  have hq:∀k,cf (cT b z p).1 k=((cf b (b.length-1)).natAbs:Int)*cf z.1 k+(if k=p then sg (cf b (b.length-1))*cf z.2 (z.2.length-1)else 0):=by
   intro k;unfold cT;dsimp only
   rw[kt hp,gW];by_cases h:k=p
   ·rw[if_pos h,if_pos h,low k (by rw[h];exact QP _)];simp
   ·rw[if_neg h,if_neg h];simp
  have hlq:(cT b z p).1.length=p+i+1:=by unfold cT;dsimp only;rw[Rh,eN,lq]
  refine⟨?_,?_,?_,?_⟩
  ·rw[e,hlq,ep]
  ·rw[e];unfold cT;dsimp only;rw[xU,eN,lr];rfl
  ·intro k hk;rw[ep]at hk;have hk':k<p:=by clear lq lr low eqn hp hq hlq lz e ep ed;omega
   rw[e,hq,if_neg (Qf hk'),low k (Nat.lt_trans (Nat.add_lt_add_right hk' i) (QP _))];simp
  ·intro n;rw[e,Gp (by rw[hlq,lq]) (by rw[lq];exact zi p i) hq,Qa];have en:=eqn n;unfold cT;dsimp only
   rw[tD,eN,gW,lz];clear lq lr low eqn hp hq hlq e ep ed;by_cases h1:n<p+b.length-1
   ·rw[if_pos h1];by_cases h2:p<=n
    ·rw[if_pos h2,pL en];exact Km _ _ _
    ·rw[if_neg h2,pL en,QY,Int.sub_zero]
   ·rw[if_neg h1];have h2:p<=n:=by clear en;omega
    by_cases h3:n=p+b.length-1
    ·have h4:n-p=b.length-1:=by clear en;omega
     rw[if_pos h2,h4];have sg:=BZ (cf b (b.length-1));rw[<- h3,pL en,QY,Int.mul_right_comm,sg]
    ·have hc:cf z.2 n=0:=bI (by rw[lz];clear en;omega);rw[if_pos h2,bI (l:=b) (k:=n-p) (by clear en;omega),pL en,hc,Qs,Qs,QY,QY]
theorem ze{a b:List Int}(hb:b≠[])(ha:Tr a)(hbt:Tr b):∀i,i+1<=a.length+1-b.length->cf (aH a b (i+1)).1 (a.length+1-b.length-1)≠0
 |0,h=>by
  obtain⟨lq,lr,_,_⟩:=gT (a:=a) hb 0 (by omega);have hbl:=Qe.mpr hb;show cf (cT b (aH a b 0) _).1 _≠0;unfold cT;dsimp only
  rw[kt (by rw[eN,lq];omega),if_pos (by omega)];have hb1:=hbt (b.length-1) (by omega);have ha1:=ha (a.length-1) (by omega);refine QS ?_ ?_
  ·unfold sg;split<;>(try split)<;>omega
  ·rw[lr];exact ha1
 |i+1,h=>by
  have ih:=ze hb ha hbt i (by omega);obtain⟨lq,lr,_,_⟩:=gT (a:=a) hb (i+1) (by omega);have hbl:=Qe.mpr hb;show cf (cT b (aH a b (i+1)) _).1 _≠0;unfold cT;dsimp only
  have hN:∀n,i+1+1<=n->¬n-1=n-1-(i+1):=λn hn e=>by omega
  rw[kt (by rw[eN,lq];omega),if_neg (hN _ h),gW];have hb1:=hbt (b.length-1) (by omega);refine QS ?_ ih;omega
noncomputable def bC(a b:List Int):Nat:=a.length+1-b.length
noncomputable def kq(a b:List Int):Int:=((cf b (b.length-1)).natAbs:Int)^bC a b
noncomputable def d6(a b:List Int):List Int:=(aH a b (bC a b)).1
noncomputable def ck(a b:List Int):List Int:=trim (aH a b (bC a b)).2
theorem zf{a b:List Int}(hb:b≠[])(n:Nat):kq a b*cf a n=az (d6 a b) b n+cf (ck a b) n:=by unfold ck d6 kq;rw[cX];exact(gT hb (bC a b) (PZ _)).eqn n
theorem pK{a b:List Int}(hb:b≠[]):(ck a b).length<b.length:=by
 have h:=(gT (a:=a) hb (bC a b) (PZ _)).lr;have h2:=gf (aH a b (bC a b)).2;have hbl:=Qe.mpr hb;unfold ck;unfold bC at *
 omega
theorem zd{a b:List Int}(hb:b≠[]):(d6 a b).length=bC a b:=(gT (a:=a) hb (bC a b) (PZ _)).lq
theorem zc{a b:List Int}(hb:b≠[])(ha:Tr a)(hbt:Tr b):Tr (d6 a b):=by
 intro n hn;rw[zd hb]at hn;have h:=ze hb ha hbt n (by unfold bC at hn;omega);unfold d6;rw[hn];have:a.length+1-b.length-1=n:=by unfold bC at hn;rw[hn];rfl
 rwa [this]at h
theorem zb(a b:List Int):Tr (ck a b):=dL _
theorem wf{a a' b b':List Int}{n:Nat}(h1:∀k,cf a k=cf a' k)(h2:∀k,cf b k=cf b' k):∀j,sm a b n j=sm a' b' n j
 |0=>rfl
 |j+1=>by rw[sm,sm,wf h1 h2 j];unfold tm;rw[h1 j,h2 (n-j)]
theorem wc{a b:List Int}{n:Nat}:∀d,sm a b n (a.length+d)=az a b n
 |0=>rfl
 |d+1=>by rw[<- Nat.add_assoc,sm,wc d,Bd (by omega)];omega
theorem jg{a b:List Int}{n N:Nat}(h:a.length<=N):sm a b n N=az a b n:=by obtain⟨d,rfl⟩:=Nat.exists_eq_add_of_le h;exact wc d
theorem xo{a a' b b':List Int}{n:Nat}(h1:∀k,cf a k=cf a' k)(h2:∀k,cf b k=cf b' k):az a b n=az a' b' n:=by rw[<- jg (Nat.le_max_left a.length a'.length),<- jg (Nat.le_max_right a.length a'.length)];exact wf h1 h2 _
theorem v9{a b c q:List Int}{x y:Int}{n:Nat}(h:∀k,cf c k=x*cf a k+y*cf b k):∀j,sm c q n j=x*sm a q n j+y*sm b q n j
 |0=>by simp[sm]
 |j+1=>by
  rw[sm,sm,sm,v9 h j];unfold tm;rw[h j];by_cases hj:j<=n
  ·rw[if_pos hj,if_pos hj,if_pos hj];grind
  ·rw[if_neg hj,if_neg hj,if_neg hj];grind
theorem oW{a b c q:List Int}{x y:Int}{n:Nat}(h:∀k,cf c k=x*cf a k+y*cf b k):az c q n=x*az a q n+y*az b q n:=by
 have h1:a.length<=a.length+b.length+c.length:=by omega
 have h2:b.length<=a.length+b.length+c.length:=by omega
 have h3:c.length<=a.length+b.length+c.length:=by omega
 rw[<- jg h1,<- jg h2,<- jg h3];exact v9 h _
theorem v5{a b b':List Int}{c:Int}{n:Nat}(h:∀k,cf b' k=c*cf b k):∀j,sm a b' n j=c*sm a b n j
 |0=>by simp[sm]
 |j+1=>by
  rw[sm,sm,v5 h j];unfold tm;rw[h (n-j)];by_cases hj:j<=n
  ·rw[if_pos hj,if_pos hj];grind
  ·rw[if_neg hj,if_neg hj];grind
theorem rj{a b b':List Int}{c:Int}{n:Nat}(h:∀k,cf b' k=c*cf b k):az a b' n=c*az a b n:=v5 h _
theorem jG(c:Int)(l:List Int)(n:Nat):az [c] l n=c*cf l n:=by unfold az;show sm [c] l n 0+tm [c] l n 0=_;unfold sm tm;rw[if_pos (P6 _),tq,QU,QR]
theorem pQ(a b:List Int)(n:Nat):cf (bj a b) n=cf a n+cf b n:=by unfold bj;rw[cX,fN,Qn]
theorem Gi{l:List Int}(ht:Tr l)(h:∀k,cf l k=0):l=[]:=by
 refine Classical.byContradiction λhne=>?_
 have hl:=Qe.mpr hne;exact ht (l.length-1) (by omega) (h _)
theorem Gm{d q:List Int}(hq:q≠[])(hqt:Tr q)(h:∀n,q.length<=n+1->az d q n=0):∀k,cf d k=0:=by
 have e:trim d=[]:=by
  refine Classical.byContradiction λhne=>?_
  have hl:=Qe.mpr hne;have hql:=Qe.mpr hq;have ht:=dL d ((trim d).length-1) (by omega);have hb:=hqt (q.length-1) (by omega);have h1:=h ((trim d).length-1+(q.length-1)) (by omega);rw[<- xo (a:=trim d) (b:=q) (λk=>cX d k) (λ_=>rfl),rg (la:=(trim d).length-1) (lb:=q.length-1) (by omega) (by omega)]at h1;exact QS ht hb h1
 intro k;rw[<- cX,e,bV]
noncomputable def dG(d:Nat)(l:List Int):Nat:=l.foldl (λd v=>Nat.gcd d v.natAbs) d
noncomputable def aE(l:List Int):Nat:=dG 0 l
theorem Jp(d:Nat):dG d []=d:=rfl
theorem Jq(d:Nat)(v:Int)(l:List Int):dG d (v::l)=dG (Nat.gcd d v.natAbs) l:=rfl
theorem Jo(d:Nat)(l:List Int)(v:Int):dG d (l++[v])=Nat.gcd (dG d l) v.natAbs:=by unfold dG;rw[List.foldl_append];rfl
theorem Jl(l:List Int)(v:Int):aE (l++[v])=Nat.gcd (aE l) v.natAbs:=Jo 0 l v
theorem y7{m:Nat}:∀{l:List Int} {d:Nat},m∣dG d l↔m∣d/\∀v∈l,m∣v.natAbs
 | [],d=>by simp[Jp]
 |v::l,d=>by rw[Jq,y7,Nat.dvd_gcd_iff];simp only[P8,forall_eq_or_imp];exact⟨λ⟨⟨a,b⟩,c⟩=>⟨a,b,c⟩,λ⟨a,b,c⟩=>⟨⟨a,b⟩,c⟩⟩
theorem dvd_gcdL{m:Nat}{l:List Int}:m∣aE l↔∀v∈l,m∣v.natAbs:=by unfold aE;rw[y7];exact⟨λh=>h.2,λh=>⟨Nat.dvd_zero m,h⟩⟩
theorem sF{l:List Int}{v:Int}(h:v∈l):aE l∣v.natAbs:=dvd_gcdL.mp (Nat.dvd_refl _) v h
theorem Jn(v:Int):aE [v]=v.natAbs:=by show Nat.gcd 0 v.natAbs=_;exact Rj _
theorem Jj{a b:Int}(ha:0<=a)(hb:0<b):Nat.gcd b.natAbs (a%b).natAbs=Nat.gcd a.natAbs b.natAbs:=by
 have e:(a%b).natAbs=a.natAbs%b.natAbs:=by obtain⟨x,rfl⟩:=Int.eq_ofNat_of_zero_le ha;obtain⟨y,rfl⟩:=Int.eq_ofNat_of_zero_le (Qo hb);rfl
 rw[e,Nat.gcd_comm,<- Nat.gcd_rec,Nat.gcd_comm]
noncomputable def au(l:List Int):List Int:=l.map λx=>x/(aE l:Int)
noncomputable def bT(l:List Int):Int:=cf l (l.length-1)
theorem gg(r:List Int)(x:Int):bT (r++[x])=x:=by unfold bT;rw[PY];exact kv r x
noncomputable def cp(l:List Int):List Int:=if bT l<0 then l.map λx => -x else l
noncomputable def aL(l:List Int):List Int:=cp (au l)
def L6(l:List Int):Prop:=l=[]\/aE l=1
theorem lT{l:List Int}(h:L6 l):au l=l:=by
 rcases h with rfl |h
 ·rfl
 ·unfold au;rw[h]
  conv=>rhs;rw[<- List.map_id l]
  apply QC;intro x _;show x/1=x;exact Rr x
theorem HI(l:List Int):bT (l.map λx => -x) = -bT l:=by
 rcases dA l with rfl |⟨r,x,rfl⟩
 ·rfl
 ·rw[Qd];show bT (r.map _++[-x])=_;rw[gg,gg]
theorem yy(c:Int):∀(l:List Int) (d:Nat),dG (c.natAbs*d) (scL c l)=c.natAbs*dG d l
 | [],d=>rfl
 |v::l,d=>by show dG (Nat.gcd (c.natAbs*d) (c*v).natAbs) (scL c l)=c.natAbs*dG (Nat.gcd d v.natAbs) l;rw[QD,Nat.gcd_mul_left,yy c l]
theorem yx(c:Int)(l:List Int):aE (scL c l)=c.natAbs*aE l:=by have h:=yy c l 0;rw[Nat.mul_zero]at h;exact h
theorem ke{l:List Int}{x:Int}(h:x∈l):(aE l:Int)∣x:=QG.mpr (sF h)
theorem BU{c:Int}(hc:0<c)(l:List Int):au (scL c l)=au l:=by
 unfold au;rw[yx];unfold scL;rw[Qp];refine QC λx _=>?_
 show c*x/((c.natAbs*aE l:Nat):Int)=x/(aE l:Int);have e:((c.natAbs*aE l:Nat):Int)=c*(aE l:Int):=by rw[Rs];congr 1;omega
 rw[e,Int.mul_ediv_mul_of_pos _ _ hc]
theorem BV{c:Int}(hc:c<0)(l:List Int):au (scL c l)=(au l).map λx => -x:=by
 unfold au;rw[yx];unfold scL;rw[Qp,Qp];refine QC λx hx=>?_
 show c*x/((c.natAbs*aE l:Nat):Int) = -(x/(aE l:Int));have e:((c.natAbs*aE l:Nat):Int)=(-c)*(aE l:Int):=by rw[Rs];congr 1;omega
 have e2:c*x=(-c)*(-x):=by rw[Int.neg_mul_neg]
 rw[e,e2,Int.mul_ediv_mul_of_pos _ _ (by omega:0 < -c),Int.neg_ediv_of_dvd (ke hx)]
theorem DR{m:List Int}(h:Tr m):cp (m.map λx => -x)=cp m:=by
 rcases dA m with rfl |⟨r,x,rfl⟩
 ·rfl
 have hx:x≠0:=tr_snoc.mp h;have h1:=HI (r++[x]);rw[gg]at h1;unfold cp;rw[h1,gg];by_cases hn:x<0
 ·rw[if_neg (by omega),if_pos hn]
 ·rw[if_pos (by omega),if_neg hn,Qp];rw[show((λx:Int => -x) ∘ λx:Int => -x)=id from by funext y;simp];exact List.map_id _
theorem uV{l:List Int}(h:Tr l):Tr (au l):=by
 intro n hn;have hl:l.length=n+1:=by rw[<- hn];unfold au;rw[PX]
 have hx:=h n hl;have hm:cf l n∈l:=by rw[cw (by omega)];exact Q9 _
 have e:cf (au l) n=cf l n/(aE l:Int):=by
  have h1:n<l.length:=by omega
  unfold au cf;simp[List.getD,h1]
 rw[e];intro z;have d:=ke hm;have:=Int.mul_ediv_cancel' d;rw[z,Qs]at this;exact hx this.symm
theorem wQ{c:Int}(hc:c≠0){l:List Int}(h:Tr l):aL (scL c l)=aL l:=by
 unfold aL;by_cases hp:0<c
 ·rw[BU hp]
 ·rw[BV (by omega),DR (uV h)]
noncomputable def slopeL(l:List Int):List Int:=(List.range (l.length-1)).map λ(k:Nat)=>((k:Int)+1)*cf l (k+1)
noncomputable def turnL(l:List Int):List Int:=(List.range l.length).map λk=>if k%2=0 then cf l k else -cf l k
noncomputable def sM(l:List Int):List Int:=trim l.reverse
noncomputable def lp(l:List Int)(m i n:Nat):Int:=if n%m=0/\n/m<i then cf l (n/m)else 0
noncomputable def rst(one other:List Int):List Int:=if other=[]then[]else ck one other
noncomputable def nxt(one other:List Int):List Int:=au (ip [] (rst one other))
noncomputable def c8:Nat->List Int->List Int->List (List Int)
 |0,_,_=>[]
 |n+1,one,other=>if one=[]then[]else one::c8 n other (nxt one other)
theorem Dd(n:Nat)(o:List Int):c8 n [] o=[]:=by cases n with |zero=>rfl |succ n=>show(if([]:List Int)=[]then _ else _)=_;rw[if_pos rfl]
theorem wm{c:Int}(hc:c≠0):au [c]=[sg c]:=by
 unfold au;rw[Jn];show[c/(c.natAbs:Int)]=_
 congr 1
 by_cases h:0<c
 ·have e:(c.natAbs:Int)=c:=by omega
  rw[e,Int.ediv_self hc];unfold sg;rw[if_neg (by omega),if_pos h]
 ·have e:(c.natAbs:Int) = -c:=by omega
  rw[e,Int.ediv_neg,Int.ediv_self hc];unfold sg;rw[if_pos (by omega)]
theorem zh{a b:List Int}(hb:b≠[])(h1:b.length=1):ck a b=[]:=by have:=pK (a:=a) hb;exact Q0.mp (by omega)
theorem FY{one other:List Int}(hb:other≠[])(h1:other.length=1):nxt one other=[]:=by unfold nxt rst;rw[if_neg hb,zh hb h1];rfl
noncomputable def up(f:Nat->Int)(n:Nat):Int:=if n=0 then 0 else f (n-1)
theorem we(x:Int)(a b:List Int)(n:Nat):∀j,sm (x::a) b n (j+1)=x*cf b n+(if n=0 then 0 else sm a b (n-1) j)
 |0=>by
  show 0+tm (x::a) b n 0=_;unfold tm;rw[if_pos (P6 _)];rw[tq,QU];by_cases h:n=0
  ·rw[if_pos h];omega
  ·rw[if_neg h];show _=_+0;omega
 |j+1=>by
  show sm (x::a) b n (j+1)+tm (x::a) b n (j+1)=_;rw[we x a b n j];by_cases h:n=0
  ·rw[if_pos h,if_pos h];unfold tm;rw[if_neg (by omega)];omega
  ·rw[if_neg h,if_neg h];show _=_+(sm a b (n-1) j+tm a b (n-1) j)
   have e:tm (x::a) b n (j+1)=tm a b (n-1) j:=by
    unfold tm;rw[eT];by_cases h2:j+1<=n
    ·rw[if_pos h2,if_pos (by omega)]
     congr 2;omega
    ·rw[if_neg h2,if_neg (by omega)]
   rw[e];omega
theorem eI(x:Int)(a b:List Int)(n:Nat):az (x::a) b n=x*cf b n+up (az a b) n:=we x a b n a.length
theorem jH(b:List Int)(n:Nat):az [] b n=0:=rfl
theorem tE(x:Int)(a:List Int)(n:Nat):cf (x::a) n=(if n=0 then x else 0)+up (cf a) n:=by
 cases n with
 |zero=>show x=x+0;omega
 |succ n=>show cf a n=0+cf a n;omega
theorem rk(y:Int)(b:List Int):∀(a:List Int) (n:Nat),az a (y::b) n=y*cf a n+up (az a b) n
 | [],n=>by
  rw[jH,bV];unfold up;split
  ·simp
  ·rw[jH];simp
 |x::a,n=>by
  rw[eI,tE,tE];cases n with
  |zero =>show x*(y+0)+0=y*(x+0)+0;simp only[QY];exact QN _ _
  |succ n =>show x*(0+cf b n)+az a (y::b) n=y*(0+cf a n)+az (x::a) b n;rw[rk y b a n,eI];simp only[QR];omega
theorem xn:∀(a:List Int) (n:Nat),az a [] n=0
 | [],n=>rfl
 |x::a,n=>by
  rw[eI,bV];unfold up;split
  ·simp
  ·rw[xn a];simp
theorem rm:∀(a b:List Int) (n:Nat),az a b n=az b a n
 | [],b,n=>by rw[xn];rfl
 |x::a,b,n=>by
  rw[eI,rk]
  congr 1
  unfold up;split
  ·rfl
  ·exact rm a b _
theorem KI(a:List Int)(n:Nat):cf (0::a) n=up (cf a) n:=by rw[tE];split<;>omega
theorem Gn(a b:List Int)(n:Nat):az (0::a) b n=up (az a b) n:=by rw[eI];omega
theorem oX:∀(a b c:List Int) (n:Nat),az (ap a b) c n=az a (ap b c) n
 | [],b,c,n=>by rw[jH,rf λk=>by rw[cv,jH]]
 |x::a,b,c,n=>by
  rw[eI,cv]
  have e:∀k,cf (ap (x::a) b) k=x*cf b k+1*cf (0::ap a b) k:=λk=>by
   rw[cv,eI,KI,Qn]
   congr 1
   unfold up;split
   ·rfl
   ·rw[cv]
  rw[oW e,Gn,Qn]
  congr 1
  unfold up;split
  ·rfl
  ·exact oX a b c _
def Dv(d p:List Int):Prop:=∃(c:Int) (q:List Int),c≠0/\∀n,c*cf p n=az q d n
theorem Dv.refl(d:List Int):Dv d d:=⟨1,[1],by decide,λn=>by rw[jG]⟩
theorem Dv.nil(d:List Int):Dv d []:=⟨1,[],by decide,λn=>by rw[bV,jH];rfl⟩
theorem Dv.trans{d e p:List Int}(h1:Dv d e)(h2:Dv e p):Dv d p:=by obtain⟨c1,q1,hc1,e1⟩:=h1;obtain⟨c2,q2,hc2,e2⟩:=h2;refine⟨c1*c2,ap q2 q1,QS hc1 hc2,λn=>?_⟩;rw[oX,Int.mul_assoc,e2,<- rj (b':=ap q1 d) (λk=>by rw[cv,e1])]
theorem Dv.up{d a b r q:List Int}{f:Int}(hf:f≠0)(h:∀n,f*cf a n=az q b n+cf r n)(hb:Dv d b)(hr:Dv d r):Dv d a:=by obtain⟨c1,q1,hc1,e1⟩:=hb;obtain⟨c2,q2,hc2,e2⟩:=hr;refine⟨c1*c2*f,cJ c1 (scL c2 (ap q q1)) q2,QS (QS hc1 hc2) hf,λn=>?_⟩;rw[oW (a:=ap q q1) (b:=q2) (x:=c2) (y:=c1) (λk=>by rw[fN,gW]),oX,<- e2,rj (b:=b) (b':=ap q1 d) (c:=c1) (λk=>by rw[cv,e1])];have:=h n;grind
theorem Dv.down{d a b r q:List Int}{f:Int}(h:∀n,f*cf a n=az q b n+cf r n)(ha:Dv d a)(hb:Dv d b):Dv d r:=by obtain⟨c1,q1,hc1,e1⟩:=ha;obtain⟨c2,q2,hc2,e2⟩:=hb;refine⟨c1*c2,cJ (-c1) (scL (f*c2) q1) (ap q q2),QS hc1 hc2,λn=>?_⟩;rw[oW (a:=q1) (b:=ap q q2) (x:=f*c2) (y := -c1) (λk=>by rw[fN,gW]),oX,<- e1,rj (b:=b) (b':=ap q2 d) (c:=c2) (λk=>by rw[cv,e2])];have:=h n;grind
theorem Dv.prop_right{d p p':List Int}{x y:Int}(hx:x≠0)(h:∀n,x*cf p' n=y*cf p n)(hd:Dv d p):Dv d p':=by obtain⟨c,q,hc,e⟩:=hd;refine⟨c*x,scL y q,QS hc hx,λn=>?_⟩;rw[oW (a:=q) (b:=[]) (x:=y) (y:=0) (λk=>by rw[gW];simp),<- e];have:=h n;grind
theorem DS{l:List Int}(h:Tr l):∃g:Int,g≠0/\∀n,cf l n=g*cf (aL l) n:=by
 by_cases hl:l=[]
 ·subst hl;exact⟨1,by decide,λn=>by rw[bV];show 0=1*cf [] n;rw[bV];rfl⟩
 have hg:(aE l:Int)≠0:=by obtain⟨r,x,rfl⟩:=(dA l).resolve_left hl;have hx:x≠0:=tr_snoc.mp h;have h1:0<aE (r++[x]):=Nat.pos_of_dvd_of_pos (sF (by simp:x∈r++[x])) (RC.mpr hx);omega
 have e1:∀n,cf l n=(aE l:Int)*cf (au l) n:=λn=>by
  unfold au;by_cases hn:n<l.length
  ·rw[cw hn,cw (by rw[PX];exact hn),List.getElem_map];exact(Int.mul_ediv_cancel' (ke (Q9 hn))).symm
  ·rw[bI (by omega),bI (by rw[PX];omega),Qs]
 unfold aL cp;split
 ·refine⟨-(aE l:Int),by omega,λn=>?_⟩
  have e2:cf ((au l).map λx => -x) n = -cf (au l) n:=by
   by_cases hn:n<(au l).length
   ·rw[cw hn,cw (by rw[PX];exact hn),List.getElem_map]
   ·rw[bI (l:=au l) (by omega),bI (l:=(au l).map λx => -x) (by rw[PX];omega)];rfl
  rw[e1,e2];grind
 ·exact⟨_,hg,e1⟩
theorem Dv.plain{d p:List Int}(hp:Tr p):Dv d (aL p)↔Dv d p:=by obtain⟨g,hg,e⟩:=DS hp;exact⟨λh=>Dv.prop_right (x:=1) (y:=g) (by decide) (λn=>by rw[e];omega) h,λh=>Dv.prop_right (x:=g) (y:=1) hg (λn=>by rw[<- e];omega) h⟩
noncomputable def cW:Nat->List Int->List Int->List Int
 |0,one,_=>one
 |n+1,one,other=>if other=[]then one else cW n other (aL (ck one other))
theorem zr(n:Nat)(one:List Int):cW n one []=one:=by cases n<;>rfl
theorem KA{n:Nat}{one other:List Int}(h:other≠[]):cW (n+1) one other=cW n other (aL (ck one other)):=by show(if other=[]then one else cW n other (aL (ck one other)))=_;rw[if_neg h]
def Cop(a:List Int)(m:Nat):Prop:=∀k:Nat,k∣m->(∀n,(k:Int)∣cf a n)->k=1
theorem sH:∀(N:Nat) (a b:List Int) (m:Nat),a.length+b.length<=N->Cop a m->Cop b m->(∀n,(m:Int)∣az a b n)->m=1
 |_,[],b,m,_,h1,_,_=>h1 m (Nat.dvd_refl _) λn=>by rw[bV];exact Int.dvd_zero _
 |_,_::_,[],m,_,_,h2,_=>h2 m (Nat.dvd_refl _) λn=>by rw[bV];exact Int.dvd_zero _
 |0,_::_,_::_,_,h,_,_,_=>absurd h (by simp)
 |N+1,x::a,y::b,m,h,h1,h2,h3=>by
  have d1:Nat.gcd m x.natAbs=1:=by
   refine sH N a (y::b) _ (by simp at h ⊢;omega) (λk hk hn=>h1 k (Rt hk (QM _ _)) λn=>?_) (λk hk=>h2 k (Rt hk (QM _ _))) λn=>?_
   ·cases n with
    |zero=>exact QG.mpr (Rt hk (QT _ _))
    |succ n=>exact hn n
   ·have e:=eI x a (y::b) (n+1);have g1:((Nat.gcd m x.natAbs:Nat):Int)∣az (x::a) (y::b) (n+1):=Int.dvd_trans (Int.ofNat_dvd.mpr (QM _ _)) (h3 _);have g2:((Nat.gcd m x.natAbs:Nat):Int)∣x*cf (y::b) (n+1):=RO (QG.mpr (QT _ _))
    have e2:az a (y::b) n=az (x::a) (y::b) (n+1)-x*cf (y::b) (n+1):=by rw[e];show _=_+az a (y::b) n-_;omega
    rw[e2];exact Int.dvd_sub g1 g2
  have d2:Nat.gcd m y.natAbs=1:=by
   refine sH N (x::a) b _ (by simp at h ⊢;omega) (λk hk=>h1 k (Rt hk (QM _ _))) (λk hk hn=>h2 k (Rt hk (QM _ _)) λn=>?_) λn=>?_
   ·cases n with
    |zero=>exact QG.mpr (Rt hk (QT _ _))
    |succ n=>exact hn n
   ·have e:=rk y b (x::a) (n+1);have g1:((Nat.gcd m y.natAbs:Nat):Int)∣az (x::a) (y::b) (n+1):=Int.dvd_trans (Int.ofNat_dvd.mpr (QM _ _)) (h3 _);have g2:((Nat.gcd m y.natAbs:Nat):Int)∣y*cf (x::a) (n+1):=RO (QG.mpr (QT _ _))
    have e2:az (x::a) b n=az (x::a) (y::b) (n+1)-y*cf (x::a) (n+1):=by rw[e];show _=_+az (x::a) b n-_;omega
    rw[e2];exact Int.dvd_sub g1 g2
  have h0:=h3 0;rw[eI]at h0
  have h0':m∣x.natAbs*y.natAbs:=by
   rw[<- QD];refine QG.mp ?_
   have e:x*cf (y::b) 0+up (az a (y::b)) 0=x*y:=by show x*y+0=x*y;omega
   rwa [e]at h0
  have h4:m∣y.natAbs:=Nat.Coprime.dvd_of_dvd_mul_left d1 h0';rw[Nat.gcd_eq_left h4]at d2;exact d2
theorem GF{l:List Int}{v:Int}(h:v∈l):∃n,n<l.length/\cf l n=v:=by obtain⟨n,hn,e⟩:=List.getElem_of_mem h;exact⟨n,hn,by rw[cw hn,e]⟩
theorem zo{a:List Int}{m:Nat}(h:aE a=1):Cop a m:=λk _ hn=>by
 have:k∣aE a:=dvd_gcdL.mpr λv hv=>by obtain⟨n,_,rfl⟩:=GF hv;exact QG.mp (hn n)
 rw[h]at this;exact Nat.dvd_one.mp this
theorem DM{a b:List Int}(ha:aE a=1)(hb:aE b=1):aE (ap a b)=1:=by
 refine sH _ a b _ (PZ _) (zo ha) (zo hb) λn=>?_
 rw[<- cv];by_cases hn:n<(ap a b).length
 ·rw[cw hn];exact ke (Q9 hn)
 ·rw[bI (by omega)];exact Int.dvd_zero _
structure Pln(l:List Int):Prop where
 tr:Tr l
 ne:l≠[]
 prim:aE l=1
 pos:0<bT l
theorem Pln.plain{l:List Int}(h:Pln l):aL l=l:=by unfold aL;rw[lT (.inr h.prim)];unfold cp;rw[if_neg (by have:=h.pos;omega)]
theorem r6{a b:List Int}(ha:a≠[])(hb:b≠[]):(ap a b).length=a.length+b.length-1:=by unfold ap;rw[if_neg (λz=>z.elim ha hb),PX,QF]
theorem HH{a b:List Int}(ha:a≠[])(hb:b≠[]):bT (ap a b)=bT a*bT b:=by
 have h1:=Qe.mpr ha;have h2:=Qe.mpr hb;unfold bT;rw[r6 ha hb,cv];have e:a.length+b.length-1-1=(a.length-1)+(b.length-1):=by omega
 rw[e,rg (by omega) (by omega)]
theorem Pln.mul{a b:List Int}(ha:Pln a)(hb:Pln b):Pln (ap a b):=by
 refine⟨qe ha.tr hb.tr,λz=>?_,DM ha.prim hb.prim,by rw[HH ha.ne hb.ne];exact P5 ha.pos hb.pos⟩;have h1:=Qe.mpr ha.ne;have h2:=Qe.mpr hb.ne;have:=r6 ha.ne hb.ne;rw[z]at this;simp at this
 omega
theorem Dv.trim{d p:List Int}(h:Dv d p):∃(c:Int) (q:List Int),c≠0/\Tr q/\∀n,c*cf p n=az q d n:=by obtain⟨c,q,hc,e⟩:=h;exact⟨c,RM.trim q,hc,dL q,λn=>by rw[e];exact(xo (λk=>cX q k) λ_=>rfl).symm⟩
theorem one_mul(l:List Int)(h:Tr l):ap [1] l=l:=by
 refine gR (qe (tr_snoc (r:=[]).mpr (by decide)) h) h λk=>?_
 rw[cv,jG];omega
theorem Dv.short{d r:List Int}(hd:d≠[])(hdt:Tr d)(hr:Tr r)(hl:r.length<d.length)(h:Dv d r):r=[]:=by
 obtain⟨c,q,hc,e⟩:=h;have z:=Gm hd hdt (d:=q) λn hn=>by rw[<- e,bI (by omega),Qs]
 refine Gi hr λk=>?_
 have h1:=e k;rw[rf z]at h1;exact(Rk.mp h1).resolve_left hc
theorem Dv.rest{d p:List Int}(hd:d≠[])(hdt:Tr d)(h:Dv d p):ck p d=[] :=
 Dv.short hd hdt (zb _ _) (pK hd) (Dv.down (λn=>zf (a:=p) hd n) h (Dv.refl d))
theorem Kx{x1 x2 N D t b:Int}(hx:0<x2)(hD:0<D)(e:x1*D=N*x2)(h:N*b<t*D):x1*b<t*x2:=by
 refine Rm (a:=D) ?_ (Qo hD)
 have h1:x1*b*D=N*b*x2:=by
  calc x1*b*D=x1*D*b:=by grind
   _=N*x2*b:=by rw[e]
   _=N*b*x2:=by grind
 have h2:t*x2*D=t*D*x2:=by grind
 rw[h1,h2];exact RE h hx
theorem Ky{x1 x2 N D t b:Int}(hx:0<x2)(hD:0<D)(e:x1*D=N*x2)(h:t*D<=N*b):t*x2<=x1*b:=by
 refine RU (a:=D) ?_ hD
 have h1:x1*b*D=N*b*x2:=by
  calc x1*b*D=x1*D*b:=by grind
   _=N*x2*b:=by rw[e]
   _=N*b*x2:=by grind
 have h2:t*x2*D=t*D*x2:=by grind
 rw[h1,h2];exact Rn h (Qo hx)
theorem LV{l1 l2 r1 r2 pl pc a1 a2 c1 c2 x1 x2:Int}(ha:0<a2)(hc:0<c2)(e1:a1*pc=pl*a2)(e2:c1*(r2*a2)=r1*a1*c2)(e3:x1*(l2*c2)=(l1*c2+c1*l2)*x2) :
 x1*(l2*r2*pc)=(l1*r2*pc+r1*l2*pl)*x2:=by
 have h0:c2*a2≠0:=P9 (P5 hc ha);refine Int.eq_of_mul_eq_mul_right h0 ?_
 calc x1*(l2*r2*pc)*(c2*a2)=x1*(l2*c2)*(r2*pc*a2):=by grind
  _=(l1*c2+c1*l2)*x2*(r2*pc*a2):=by rw[e3]
  _=x2*(l1*c2*r2*pc*a2+l2*pc*(c1*(r2*a2))):=by grind
  _=x2*(l1*c2*r2*pc*a2+l2*pc*(r1*a1*c2)):=by rw[e2]
  _=x2*c2*(l1*r2*pc*a2+l2*r1*(a1*pc)):=by grind
  _=x2*c2*(l1*r2*pc*a2+l2*r1*(pl*a2)):=by rw[e1]
  _=(l1*r2*pc+r1*l2*pl)*x2*(c2*a2):=by grind
theorem sZ{b t m s0 s1 l1 l2 r1 r2 pc pl:Int}(e0:s0*l2=l1*m)(e1:s1*r2=r1*m):((b*s0-t*m)*pc+b*s1*pl)*(l2*r2)=m*((l1*r2*pc+r1*l2*pl)*b-t*(l2*r2*pc)):=by
 calc ((b*s0-t*m)*pc+b*s1*pl)*(l2*r2)=b*(s0*l2)*r2*pc-t*m*pc*(l2*r2)+b*(s1*r2)*pl*l2:=by grind
  _=b*(l1*m)*r2*pc-t*m*pc*(l2*r2)+b*(r1*m)*pl*l2:=by rw[e0,e1]
  _=m*((l1*r2*pc+r1*l2*pl)*b-t*(l2*r2*pc)):=by grind
theorem Kq{b t m s0 s1 l1 l2 r1 r2 pc pl:Int}(hm:0<m)(hl:0<l2)(hr:0<r2)(e0:s0*l2=l1*m)(e1:s1*r2=r1*m)(h:(b*s0-t*m)*pc+b*s1*pl<0):(l1*r2*pc+r1*l2*pl)*b<t*(l2*r2*pc):=by
 have h1:=sZ (b:=b) (t:=t) (pc:=pc) (pl:=pl) e0 e1;have h2:((b*s0-t*m)*pc+b*s1*pl)*(l2*r2)<0:=RK h (P5 hl hr);rw[h1]at h2
 have h3:(l1*r2*pc+r1*l2*pl)*b-t*(l2*r2*pc)<0:=by
  rcases Int.lt_or_le ((l1*r2*pc+r1*l2*pl)*b-t*(l2*r2*pc)) 0 with z |z
  ·exact z
  ·have:=Int.mul_nonneg (Qo hm) z;omega
 omega
theorem Kr{b t m s0 s1 l1 l2 r1 r2 pc pl:Int}(hm:0<m)(hl:0<l2)(hr:0<r2)(e0:s0*l2=l1*m)(e1:s1*r2=r1*m)(h:0<=(b*s0-t*m)*pc+b*s1*pl):t*(l2*r2*pc)<=(l1*r2*pc+r1*l2*pl)*b:=by
 have h1:=sZ (b:=b) (t:=t) (pc:=pc) (pl:=pl) e0 e1;have h2:0<=((b*s0-t*m)*pc+b*s1*pl)*(l2*r2):=Int.mul_nonneg h (Qo (P5 hl hr));rw[h1]at h2
 have h3:0<=(l1*r2*pc+r1*l2*pl)*b-t*(l2*r2*pc):=by
  rcases Int.lt_or_le ((l1*r2*pc+r1*l2*pl)*b-t*(l2*r2*pc)) 0 with z |z
  ·have:=Int.mul_neg_of_pos_of_neg hm z;omega
  ·exact z
 omega
theorem AK{l1 l2 r1 r2 w1 w2 pl pc x1 x2 y1 y2:Int}(hl:0<l2)(hr:0<r2)(hp:0<pc)(hx:0<x2)(hy:0<y2)(ex:x1*(l2*r2*pc)=(l1*r2*pc+r1*l2*pl)*x2)(ey:y1*(l2*r2*pc)=(l1*r2*pc+r1*l2*(pl+1))*y2)(h:r1*w2<=w1*r2*pc):(y1*x2-x1*y2)*w2<=w1*(x2*y2):=by
 have hD:0<l2*r2*pc:=P5 (P5 hl hr) hp;refine RU (a:=l2*r2*pc) ?_ hD
 have e1:(y1*x2-x1*y2)*w2*(l2*r2*pc)=r1*w2*(l2*x2*y2):=by
  calc (y1*x2-x1*y2)*w2*(l2*r2*pc)=(y1*(l2*r2*pc))*x2*w2-(x1*(l2*r2*pc))*y2*w2:=by grind
   _=((l1*r2*pc+r1*l2*(pl+1))*y2)*x2*w2-((l1*r2*pc+r1*l2*pl)*x2)*y2*w2:=by rw[ex,ey]
   _=r1*w2*(l2*x2*y2):=by grind
 have e2:w1*(x2*y2)*(l2*r2*pc)=w1*r2*pc*(l2*x2*y2):=by grind
 rw[e1,e2];exact Rn h (Qo (P5 (P5 hl hx) hy))
theorem KS{l r:Int}(hl:0<l)(hr:0<r){g:Nat}(hg:g=Nat.gcd l.natAbs r.natAbs):∃l' r':Int,0<l'/\0<r'/\(0:Int)<g/\l=g*l'/\r=g*r'/\l*r/g=l*r'/\l*r'/l=r'/\l*r'/r=l'/\0<l*r':=by
 have g0:0<g:=by rw[hg];exact Nat.gcd_pos_of_pos_left _ (by omega)
 have gi:(0:Int)<g:=by omega
 obtain⟨l',hl'⟩:(g:Int)∣l:=RJ.mp (by rw[QH,hg];exact QM _ _);obtain⟨r',hr'⟩:(g:Int)∣r:=RJ.mp (by rw[QH,hg];exact QT _ _);have l0:0<l':=Int.lt_of_mul_lt_mul_left (a:=(g:Int)) (by rw[Qs,<- hl'];exact hl) (Qo gi);have r0:0<r':=Int.lt_of_mul_lt_mul_left (a:=(g:Int)) (by rw[Qs,<- hr'];exact hr) (Qo gi);refine⟨l',r',l0,r0,gi,hl',hr',?_,?_,?_,P5 hl r0⟩
 ·have e:l*r=(l*r')*g:=by
   calc l*r=l*(g*r'):=by rw[<- hr']
    _=(l*r')*g:=by grind
  rw[e];exact Int.mul_ediv_cancel _ (P9 gi)
 ·exact Int.mul_ediv_cancel_left _ (P9 hl)
 ·have e:l*r'=l'*r:=by
   calc l*r'=(g*l')*r':=by rw[<- hl']
    _=l'*(g*r'):=by grind
    _=l'*r:=by rw[<- hr']
  rw[e];exact Int.mul_ediv_cancel _ (P9 hr)
open PySem PySem.NumText PySem.Builtin PySem.Builtin.Str
end RM
namespace L2
open PySem PySem.Spec PyProof.Rows
section
variable {X:Cx}{K:PySem.W.Frag}
end
end L2
namespace RM
noncomputable def clr(head:List Int)(bf:Int)(row:List Int):List Int:=(List.range (row.length-1)).map λk=>(cf head 0*cf row (k+1)-cf row 0*cf head (k+1)).fdiv bf
theorem xV(h:List Int)(b:Int)(r:List Int):(clr h b r).length=r.length-1:=by unfold clr;simp
noncomputable def fnn:List (List Int)->Nat
 | []=>0
 |r::rs=>if cf r 0=0 then fnn rs+1 else 0
theorem pE:∀l:List (List Int),fnn l<=l.length
 | []=>PZ _
 |r::rs=>by
  unfold fnn;split
  ·have:=pE rs;simp;omega
  ·exact P6 _
theorem pD:∀{l:List (List Int)},fnn l<l.length->cf (l.getD (fnn l) []) 0≠0
 | [],h=>absurd h (by simp)
 |r::rs,h=>by
  unfold fnn at *
  by_cases e:cf r 0=0
  ·rw[if_pos e]at *;exact pD (l:=rs) (by simpa using h)
  ·rw[if_neg e];exact e
theorem sL:∀{l:List (List Int)} {j:Nat},j<fnn l->cf (l.getD j []) 0=0
 | [],j,h=>absurd h (by simp[fnn])
 |r::rs,j,h=>by
  unfold fnn at h
  by_cases e:cf r 0=0
  ·rw[if_pos e]at h;cases j with
   |zero=>exact e
   |succ j=>exact sL (l:=rs) (by omega)
  ·rw[if_neg e]at h;omega
theorem yD{l:List (List Int)}{k:Nat}(hk:k<=l.length)(h0:∀j,j<k->cf (l.getD j []) 0=0)(h1:k=l.length\/cf (l.getD k []) 0≠0):fnn l=k:=by
 have a:=pE l;rcases Nat.lt_trichotomy (fnn l) k with h |h |h
 ·exact absurd (h0 _ h) (pD (by omega))
 ·exact h
 ·rcases h1 with h1 |h1
  ·omega
  ·exact absurd (sL h) h1
noncomputable def dH:Nat->List (List Int)->Int->Int->Int
 |0,_,bf,sg=>sg*bf
 |n+1,left,bf,sg=>if fnn left=left.length then 0 else dH n ((left.take (fnn left)++left.drop (fnn left+1)).map (clr (left.getD (fnn left) []) bf)) (cf (left.getD (fnn left) []) 0) (if fnn left%2=1 then -sg else sg)
abbrev Rw:=Nat->Int
noncomputable def tl(r:Rw):Rw:=λj=>r (j+1)
noncomputable def cmb(a:Int)(r:Rw)(b:Int)(s:Rw):Rw:=λj=>a*r j+b*s j
noncomputable def lap(f:List Rw->Int):List Rw->List Rw->Int
 |_,[]=>0
 |pre,r::rs=>r 0*f (pre++rs)-lap f (pre++[r]) rs
noncomputable def D:Nat->List Rw->Int
 |0,_=>1
 |n+1,rows=>lap (λm=>D n (m.map tl)) [] rows
theorem MU(n:Nat)(rows:List Rw):D (n+1) rows=lap (λm=>D n (m.map tl)) [] rows:=rfl
theorem Bi(a:Int)(r:Rw)(b:Int)(s:Rw):tl (cmb a r b s)=cmb a (tl r) b (tl s):=rfl
theorem gv:∀(n:Nat) (pre post:List Rw) (r s:Rw) (a b:Int),pre.length+1+post.length=n->D n (pre++cmb a r b s::post)=a*D n (pre++r::post)+b*D n (pre++s::post)
 |0,pre,post,r,s,a,b,h=>by omega
 |n+1,pre,post,r,s,a,b,h=>by
  have fl:∀p q:List Rw,p.length+1+q.length=n->D n ((p++cmb a r b s::q).map tl)=a*D n ((p++r::q).map tl)+b*D n ((p++s::q).map tl):=λp q hl=>by rw[Qd,Qm,Qd,Qm,Qd,Qm,Bi];exact gv n (p.map tl) (q.map tl) (tl r) (tl s) a b (by simpa using hl)
  have A:∀(rows p q:List Rw),p.length+1+q.length+rows.length=n+1->lap (λm=>D n (m.map tl)) (p++cmb a r b s::q) rows=a*lap (λm=>D n (m.map tl)) (p++r::q) rows+b*lap (λm=>D n (m.map tl)) (p++s::q) rows:=by
   intro rows
   induction rows with
   |nil=>intro p q _;simp[lap]
   |cons x xs ih =>intro p q hl;rw[P7]at hl;have h1:=fl p (q++xs) (by rw[PY];omega);have h2:=ih p (q++[x]) (by rw[PY];show p.length+1+(q.length+1)+xs.length=n+1;omega);show x 0*D n ((p++cmb a r b s::q++xs).map tl)-lap _ (p++cmb a r b s::q++[x]) xs=a*(x 0*D n ((p++r::q++xs).map tl)-lap _ (p++r::q++[x]) xs)+b*(x 0*D n ((p++s::q++xs).map tl)-lap _ (p++s::q++[x]) xs);simp only[Qq,QB]at h1 h2 ⊢;rw[h1,h2];grind
  have B:∀(p p0:List Rw),p0.length+p.length+1+post.length=n+1->lap (λm=>D n (m.map tl)) p0 (p++cmb a r b s::post)=a*lap (λm=>D n (m.map tl)) p0 (p++r::post)+b*lap (λm=>D n (m.map tl)) p0 (p++s::post):=by
   intro p
   induction p with
   |nil =>intro p0 hl;have h2:=A post p0 [] (by simpa using hl);show cmb a r b s 0*D n ((p0++post).map tl)-lap _ (p0++[cmb a r b s]) post=a*(r 0*D n ((p0++post).map tl)-lap _ (p0++[r]) post)+b*(s 0*D n ((p0++post).map tl)-lap _ (p0++[s]) post);rw[h2];show(a*r 0+b*s 0)*_-_=_;grind
   |cons x xs ih =>intro p0 hl;rw[P7]at hl;have h1:=fl (p0++xs) post (by rw[PY];omega);have h2:=ih (p0++[x]) (by rw[PY];show p0.length+1+xs.length+1+post.length=n+1;omega);show x 0*D n ((p0++(xs++cmb a r b s::post)).map tl)-lap _ (p0++[x]) (xs++cmb a r b s::post)=a*(x 0*D n ((p0++(xs++r::post)).map tl)-lap _ (p0++[x]) (xs++r::post))+b*(x 0*D n ((p0++(xs++s::post)).map tl)-lap _ (p0++[x]) (xs++s::post));simp only[Qq]at h1;rw[h1,h2];grind
  exact B pre [] (by simpa using h)
theorem iZ:∀(n:Nat) (pre post:List Rw) (r:Rw),pre.length+2+post.length=n->D n (pre++r::r::post)=0
 |0,pre,post,r,h=>by omega
 |n+1,pre,post,r,h=>by
  have fl:∀p q:List Rw,p.length+2+q.length=n->D n ((p++r::r::q).map tl)=0:=λp q hl=>by rw[Qd,Qm,Qm];exact iZ n (p.map tl) (q.map tl) (tl r) (by simpa using hl)
  have A:∀(rows p q:List Rw),p.length+2+q.length+rows.length=n+1->lap (λm=>D n (m.map tl)) (p++r::r::q) rows=0:=by
   intro rows
   induction rows with
   |nil=>intro p q _;rfl
   |cons x xs ih =>intro p q hl;rw[P7]at hl;have h1:=fl p (q++xs) (by rw[PY];omega);have h2:=ih p (q++[x]) (by rw[PY];show p.length+2+(q.length+1)+xs.length=n+1;omega);show x 0*D n ((p++r::r::q++xs).map tl)-lap _ (p++r::r::q++[x]) xs=0;simp only[Qq,QB]at h1 h2 ⊢;rw[h1,h2,Qs];rfl
  have B:∀(p p0:List Rw),p0.length+p.length+2+post.length=n+1->lap (λm=>D n (m.map tl)) p0 (p++r::r::post)=0:=by
   intro p
   induction p with
   |nil =>intro p0 hl;have h2:=A post p0 [] (by simpa using hl);show r 0*D n ((p0++r::post).map tl)-(r 0*D n ((p0++[r]++post).map tl)-lap _ (p0++[r]++[r]) post)=0;simp only[Qq,QB,Qj]at h2 ⊢;rw[h2];omega
   |cons x xs ih =>intro p0 hl;rw[P7]at hl;have h1:=fl (p0++xs) post (by rw[PY];omega);have h2:=ih (p0++[x]) (by rw[PY];show p0.length+1+xs.length+2+post.length=n+1;omega);show x 0*D n ((p0++(xs++r::r::post)).map tl)-lap _ (p0++[x]) (xs++r::r::post)=0;simp only[Qq]at h1;rw[h1,h2,Qs];rfl
  exact B pre [] (by simpa using h)
theorem MT{n:Nat}{pre post:List Rw}{r s:Rw}(h:pre.length+2+post.length=n):D n (pre++r::s::post) =-D n (pre++s::r::post):=by have e0:=iZ n pre post (cmb 1 r 1 s) h;rw[gv n pre (cmb 1 r 1 s::post) r s 1 1 (by rw[P7];omega)]at e0;have e1:=gv n (pre++[r]) post r s 1 1 (by rw[PY];show pre.length+1+1+post.length=n;omega);have e2:=gv n (pre++[s]) post r s 1 1 (by rw[PY];show pre.length+1+1+post.length=n;omega);simp only[Qq,QB,Qj]at e1 e2;have e3:=iZ n pre post r h;have e4:=iZ n pre post s h;rw[e1,e2,e3,e4]at e0;omega
theorem pY{n:Nat}{h:Rw}{post:List Rw}:∀(pre q:List Rw),q.length+pre.length+1+post.length=n->D n (q++pre++h::post)=(-1)^pre.length*D n (q++h::pre++post)
 | [],q,_=>by simp
 |x::pre,q,hl=>by rw[P7]at hl;have ih:=pY (n:=n) (h:=h) (post:=post) pre (q++[x]) (by rw[PY];show q.length+1+pre.length+1+post.length=n;omega);have e:=MT (n:=n) (pre:=q) (post:=pre++post) (r:=x) (s:=h) (by rw[PY];omega);simp only[Qq,QB,Qj]at ih e ⊢;rw[ih,e,P7,Qa];grind
theorem MV{n:Nat}{h:Rw}{q pre post:List Rw}(hl:q.length+pre.length+2+post.length=n):D n (q++h::pre++h::post)=0:=by have e:=pY (n:=n) (h:=h) (post:=post) pre (q++[h]) (by rw[PY];show q.length+1+pre.length+1+post.length=n;omega);have e2:=iZ n q (pre++post) h (by rw[PY];omega);simp only[Qq,QB,Qj]at e e2 ⊢;rw[e,e2,Qs]
theorem r8{f:List Rw->Int}:∀(X pre:List Rw),(∀x∈X,x 0=0)->lap f pre X=0
 | [],_,_=>rfl
 |x::X,pre,h=>by show x 0*_-lap f (pre++[x]) X=0;rw[h x (Qh ..),r8 X (pre++[x]) λy hy=>h y (Qb _ hy)];omega
theorem um{m:Nat}{h:Rw}{X:List Rw}(hX:∀x∈X,x 0=0):D (m+1) (h::X)=h 0*D m (X.map tl):=by show h 0*D m (([]++X).map tl)-lap _ ([]++[h]) X=_;rw[r8 X _ hX,Qj];omega
theorem k8{m:Nat}{X:List Rw}(hX:∀x∈X,x 0=0):D (m+1) X=0:=r8 X [] hX
theorem ur{n:Nat}{h:Rw}:∀(R q:List Rw),1+q.length+R.length=n->D n (h::(q++R.map λr=>cmb (h 0) r (-(r 0)) h))=h 0^R.length*D n (h::(q++R))
 | [],q,_=>by simp
 |r::R,q,hl=>by rw[P7]at hl;have e:=gv n (h::q) (R.map λr=>cmb (h 0) r (-(r 0)) h) r h (h 0) (-(r 0)) (by rw[PX,P7];omega);have e2:=MV (n:=n) (h:=h) (q:=[]) (pre:=q) (post:=R.map λr=>cmb (h 0) r (-(r 0)) h) (by rw[PX,QO];omega);have ih:=ur (n:=n) (h:=h) R (q++[r]) (by rw[PY];show 1+(q.length+1)+R.length=n;omega);simp only[Qq,QB,Qj]at e e2 ih ⊢;rw[Qm,e,e2,ih,P7,Qa];grind
theorem AA{n:Nat}{p:Int}{φ:Rw->Rw}:∀(R q:List Rw),q.length+R.length=n->D n (q++R.map λr=>λj=>p*φ r j)=p^R.length*D n (q++R.map φ)
 | [],q,_=>by simp
 |r::R,q,hl=>by
  rw[P7]at hl;have e:=gv n q (R.map λr=>λj=>p*φ r j) (φ r) (φ r) p 0 (by rw[PX];omega);have e0:cmb p (φ r) 0 (φ r)=λj=>p*φ r j:=by funext j;show p*φ r j+0*φ r j=_;omega
  rw[e0]at e;have ih:=AA (n:=n) (p:=p) (φ:=φ) R (q++[φ r]) (by rw[PY];show q.length+1+R.length=n;omega);simp only[Qq,QB,Qj]at ih;rw[Qm,Qm,e,ih,P7,Qa];grind
theorem Az{h:Rw}{R:List Rw}{p:Int}{φ:Rw->Rw}(hφ:∀r∈R,∀j,p*φ r j=h 0*r (j+1)-r 0*h (j+1)):h 0^R.length*D (R.length+1) (h::R)=h 0*(p^R.length*D R.length (R.map φ)):=by
 have e:=ur (n:=R.length+1) (h:=h) R [] (by simp;omega);rw[Qj,Qj]at e
 rw[<- e,um (λx hx=>by
  obtain⟨r,_,rfl⟩:=P4.mp hx;show h 0*r 0 + -(r 0)*h 0=0
  grind)]
 have e2:=AA (n:=R.length) (p:=p) (φ:=φ) R [] (by simp);rw[Qj,Qj]at e2;rw[<- e2,Qp]
 congr 2
 refine QC λr hr=>?_
 funext j
 show h 0*r (j+1) + -(r 0)*h (j+1)=p*φ r j;rw[hφ r hr j];grind
theorem x5{f:List Rw->Int}{B F:Nat}{S:Rw->Prop}(hS:∀r,S r->(r 0).natAbs<=B):∀(rows pre:List Rw),(∀r∈pre,S r)->(∀r∈rows,S r)->(∀l:List Rw,l.length+1=pre.length+rows.length->(∀r∈l,S r)->(f l).natAbs<=F)->(lap f pre rows).natAbs<=rows.length*(B*F)
 | [],_,_,_,_=>by simp[lap]
 |r::rs,pre,h1,h2,h3=>by
  have a1:=hS r (h2 r (Qh ..));have a2:=h3 (pre++rs) (by rw[PY,P7];omega) (λx hx=>(Qk.mp hx).elim (h1 x) λz=>h2 x (Qb _ z));have a3:=x5 hS rs (pre++[r]) (λx hx=>(Qk.mp hx).elim (h1 x) λz=>by rw[Qc.mp z];exact h2 r (Qh ..)) (λx hx=>h2 x (Qb _ hx)) (λl hl=>h3 l (by rw[PY]at hl;rw[P7];have:([r]:List Rw).length=1:=rfl;omega));show(r 0*f (pre++rs)-lap f (pre++[r]) rs).natAbs<=(rs.length+1)*(B*F);have a4:(r 0*f (pre++rs)).natAbs<=B*F:=by rw[QD];exact Nat.mul_le_mul a1 a2
  have a5:(rs.length+1)*(B*F)=rs.length*(B*F)+B*F:=by rw[Nat.add_mul,Nat.one_mul]
  omega
theorem ul{b:Nat}:∀(n:Nat) (rows:List Rw),n<=16->rows.length=n->(∀r∈rows,∀j,(r j).natAbs<=2^b)->(D n rows).natAbs<=2^((b+4)*n)
 |0,_,_,_,_=>by show(1:Int).natAbs<=2^0;decide
 |n+1,rows,hn,hl,h=>by
  have:=x5 (f:=λm=>D n (m.map tl)) (B:=2^b) (F:=2^((b+4)*n)) (S:=λr=>∀j,(r j).natAbs<=2^b) (λr hr=>hr 0) rows [] (λr hr=>nomatch hr) h (λl hl2 hs=>ul n (l.map tl) (by omega) (by rw[PX];rw[QO]at hl2;omega) (λr hr j=>by
   obtain⟨x,hx,rfl⟩:=P4.mp hr
   exact hs x hx (j+1)))
  refine Qu this ?_;rw[hl];have e:(b+4)*(n+1)=4+(b+(b+4)*n):=by rw[Nat.mul_add];omega
  rw[e,Nat.pow_add 2 4,Nat.pow_add 2 b];exact RP _ hn
noncomputable def sel(C:Nat->Nat)(r:Rw):Rw:=λj=>r (C j)
def DInv(left:List (List Int))(p:Int)(c k N:Nat):Prop:=∀(R:List Rw) (C:Nat->Nat),R≠[]->R.length+k<=N->(∀r∈R,∃x∈left,r=cf x)->∃M:Int,D R.length (R.map (sel C))=p^(R.length-1)*M/\M.natAbs<=2^(c*(R.length+k))
theorem DInv.start{xss:List (List Int)}{b n:Nat}(hn:n<=16)(h:∀x∈xss,∀j,(cf x j).natAbs<=2^b):DInv xss 1 (b+4) 0 n:=λR C _ hl hR=>by
 refine⟨D R.length (R.map (sel C)),by rw[Int.one_pow,Qn],?_⟩
 exact ul R.length _ (by omega) (PX _) λr hr j=>by obtain⟨r',hr',rfl⟩:=P4.mp hr;obtain⟨x,hx,rfl⟩:=hR r' hr';exact h x hx _
theorem DInv.bits{left:List (List Int)}{p:Int}{c k N:Nat}(h:DInv left p c k N)(hk:1+k<=N){x:List Int}(hx:x∈left)(j:Nat):(cf x j).natAbs<=2^(c*(1+k)):=by
 obtain⟨M,e,hM⟩:=h [cf x] (λ_=>j) (by simp) hk (λr hr=>⟨x,hx,Qc.mp hr⟩)
 have e2:D 1 [sel (λ_=>j) (cf x)]=cf x j:=by show cf x j*1-0=_;omega
 have e3:cf x j=M:=by rw[<- e2];show D 1 [sel (λ_=>j) (cf x)]=M;have:D 1 [sel (λ_=>j) (cf x)]=p^0*M:=e;rw[this,Qg,Qn]
 rw[e3];exact hM
noncomputable def phi(h:Rw)(p:Int)(r:Rw):Rw:=λj=>(h 0*r (j+1)-r 0*h (j+1)).fdiv p
theorem zx{hs x:List Int}{p:Int}(hl:hs.length=x.length):cf (clr hs p x)=phi (cf hs) p (cf x):=by
 funext j
 unfold clr phi;rw[eU];by_cases hj:j<x.length-1
 ·rw[if_pos hj]
 ·rw[if_neg hj,bI (l:=x) (k:=j+1) (by omega),bI (l:=hs) (k:=j+1) (by omega)];simp
theorem DInv.exact{left:List (List Int)}{p:Int}{c k N:Nat}(h:DInv left p c k N)(hp:p≠0)(hk:2+k<=N){hs x:List Int}(h1:hs∈left)(h2:x∈left)(j:Nat):p*phi (cf hs) p (cf x) j=cf hs 0*cf x (j+1)-cf x 0*cf hs (j+1):=by
 obtain⟨M,e,_⟩:=h [cf hs,cf x] (λi=>if i=0 then 0 else j+1) (by simp) hk (λr hr=>by
  simp only[P8,Qv,or_false]at hr;rcases hr with rfl |rfl
  ·exact⟨hs,h1,rfl⟩
  ·exact⟨x,h2,rfl⟩)
 have e2:D 2 [sel (λi=>if i=0 then 0 else j+1) (cf hs),sel (λi=>if i=0 then 0 else j+1) (cf x)]=cf hs 0*cf x (j+1)-cf x 0*cf hs (j+1):=by show cf hs 0*(cf x (j+1)*1-0)-(cf x 0*(cf hs (j+1)*1-0)-0)=_;grind
 have e3:cf hs 0*cf x (j+1)-cf x 0*cf hs (j+1)=p*M:=by rw[<- e2];have:D 2 [sel (λi=>if i=0 then 0 else j+1) (cf hs),sel (λi=>if i=0 then 0 else j+1) (cf x)]=p^1*M:=e;rw[this,Qa,Qg,Qn]
 unfold phi;rw[e3,Int.mul_fdiv_cancel_left _ hp]
theorem wL{P:Rw->Prop}{φ:Rw->Rw}:∀R':List Rw,(∀r'∈R',∃r,P r/\r'=φ r)->∃R:List Rw,R'=R.map φ/\∀r∈R,P r
 | [],_=>⟨[],rfl,λ_ h=>nomatch h⟩
 |x::R',h=>by
  obtain⟨r,hr,rfl⟩:=h x (Qh ..);obtain⟨R,rfl,hR⟩:=wL R' λy hy=>h y (Qb _ hy)
  exact⟨r::R,rfl,λy hy=>by
   rcases P8.mp hy with rfl |hy
   ·exact hr
   ·exact hR y hy⟩
noncomputable def upC(C:Nat->Nat):Nat->Nat
 |0=>0
 |j+1=>C j+1
theorem DInv.step{left others:List (List Int)}{p:Int}{c k N:Nat}(h:DInv left p c k N)(hp:p≠0){hs:List Int}(h1:hs∈left)(h0:cf hs 0≠0)(hsub:∀x∈others,x∈left)(hlen:∀x∈others,hs.length=x.length):DInv (others.map (clr hs p)) (cf hs 0) c (k+1) N:=λR' C hne hl hR'=>by
 obtain⟨R,rfl,hR⟩:=wL (P:=λr=>∃x∈others,r=cf x) (φ:=phi (cf hs) p) R' (λr' hr'=>by
  obtain⟨y,hy,rfl⟩:=hR' r' hr';obtain⟨x,hx,rfl⟩:=P4.mp hy
  exact⟨cf x,⟨x,hx,rfl⟩,zx (hlen x hx)⟩)
 rw[PX]at hl ⊢
 obtain⟨M,e,hM⟩:=h (cf hs::R) (upC C) (by simp) (by rw[P7];omega) (λr hr=>by
  rcases P8.mp hr with rfl |hr
  ·exact⟨hs,h1,rfl⟩
  ·obtain⟨x,hx,rfl⟩:=hR r hr
   exact⟨x,hsub x hx,rfl⟩)
 have hm:1<=R.length:=by
  have:R≠[]:=λz=>hne (by rw[z];rfl)
  have:=Qe.mpr this;omega
 have st:=Az (h:=sel (upC C) (cf hs)) (R:=R.map (sel (upC C))) (p:=p) (φ:=phi (sel (upC C) (cf hs)) p) (λr hr j=>by
  obtain⟨r',hr',rfl⟩:=P4.mp hr;obtain⟨x,hx,rfl⟩:=hR r' hr'
  exact h.exact hp (by omega) h1 (hsub x hx) (C j))
 rw[PX,Qp]at st;have e':D (R.length+1) (sel (upC C) (cf hs)::R.map (sel (upC C)))=p^R.length*M:=e;rw[e']at st;have em:List.map (phi (sel (upC C) (cf hs)) p ∘ sel (upC C)) R=(R.map (phi (cf hs) p)).map (sel C):=by rw[Qp];rfl
 rw[em]at st;have hs0:sel (upC C) (cf hs) 0=cf hs 0:=rfl;rw[hs0]at st
 refine⟨M,?_,by rw[P7]at hM;have e5:R.length+(k+1)=R.length+1+k:=by omega
                rw[e5];exact hM⟩
 generalize D R.length ((R.map (phi (cf hs) p)).map (sel C))=D' at st ⊢
 obtain⟨m,em⟩:∃m,R.length=m+1:=⟨R.length-1,by omega⟩;rw[em]at st ⊢;have hpm:p^(m+1)≠0:=Ru hp;show D'=cf hs 0^m*M;generalize p^(m+1)=q at st hpm
 rw[Qa]at st;generalize cf hs 0^m=x at st ⊢
 generalize cf hs 0=y at st h0
 have hyq:y*q≠0:=QS h0 hpm;refine Rb hyq ?_;grind
theorem DN(k:Nat)(sg:Int):(if k%2=1 then -sg else sg)=(-1)^k*sg:=by
 induction k generalizing sg with
 |zero=>simp
 |succ k ih =>
  rw[Qa];have:=ih (-sg);have e:(-1:Int)^k * -1*sg=(-1)^k * -sg:=by grind
  rw[e,<- this];by_cases h:k%2=1
  ·rw[if_pos h,if_neg (by omega),Q1]
  ·rw[if_neg h,if_pos (by omega)]
theorem zk{c:Nat}:∀(m:Nat) (left:List (List Int)) (p sg d:Int) (k:Nat),p≠0->left.length=m->(∀x∈left,x.length=m)->DInv left p c k (m+k)->p*sg*D m (left.map cf)=p^m*d->dH m left p sg=d
 |0,left,p,sg,d,k,hp,hl,_,_,h=>by show sg*p=d;have:p*sg*1=p^0*d:=h;rw[Qg]at this;grind
 |m+1,left,p,sg,d,k,hp,hl,hw,hI,h=>by
  show(if fnn left=left.length then 0 else dH m ((left.take (fnn left)++left.drop (fnn left+1)).map (clr (left.getD (fnn left) []) p)) (cf (left.getD (fnn left) []) 0) (if fnn left%2=1 then -sg else sg))=d;have hpm:p^(m+1)≠0:=Ru hp;by_cases hf:fnn left=left.length
  ·rw[if_pos hf]
   rw[k8 (λx hx=>by
    obtain⟨y,hy,rfl⟩:=P4.mp hx;obtain⟨i,hi,rfl⟩:=RQ.mp hy;have:=sL (l:=left) (j:=i) (by omega)
    simpa[List.getD,hi]using this),Qs]at h
   rcases Rk.mp h.symm with z |z
   ·exact absurd z hpm
   ·exact z.symm
  ·rw[if_neg hf];have hlt:fnn left<left.length:=by have:=pE left;omega
   have hne:=pD hlt
   have hmem:left.getD (fnn left) []∈left:=by
    have:left.getD (fnn left) []=left[fnn left]:=by simp[List.getD,hlt]
    rw[this];exact Q9 hlt
   have hdec:left=left.take (fnn left)++left.getD (fnn left) []::left.drop (fnn left+1):=by
    have:left.getD (fnn left) []=left[fnn left]:=by simp[List.getD,hlt]
    rw[this];simp
   generalize fnn left=pl at *
   generalize hh:left.getD pl []=hs at *
   have hmv:D (m+1) (left.map cf)=(-1)^pl*D (m+1) (cf hs::(left.take pl++left.drop (pl+1)).map cf):=by have e:=pY (n:=m+1) (h:=cf hs) (post:=(left.drop (pl+1)).map cf) ((left.take pl).map cf) [] (by rw[PX,PX,Qr,QJ];simp;omega);rw[PX,Qr,RF (by omega)]at e;rw[Qd];rw[Qj,Qj,QB]at e;rw[<- e,<- Qm,<- Qd,<- hdec]
   have hol:(left.take pl++left.drop (pl+1)).length=m:=by rw[PY,Qr,QJ];omega
   have hsub:∀x∈left.take pl++left.drop (pl+1),x∈left:=λx hx=>(Qk.mp hx).elim RS Rv
   generalize left.take pl++left.drop (pl+1)=others at *
   have hlen:∀x∈others,hs.length=x.length:=λx hx=>by rw[hw hs hmem,hw x (hsub x hx)]
   have hI':=hI.step hp hmem hne hsub hlen;rw[DN]
   refine zk (c:=c) m _ _ _ d (k+1) hne (by rw[PX];exact hol) (λx hx=>by
    obtain⟨y,hy,rfl⟩:=P4.mp hx
    rw[xV,hw y (hsub y hy)];rfl) ?_ ?_
   ·have:m+(k+1)=m+1+k:=by omega
    rw[this];exact hI'
   have st:cf hs 0^m*D (m+1) (cf hs::others.map cf)=cf hs 0*(p^m*D m ((others.map (clr hs p)).map cf)):=by
    have hex:∀r∈others.map cf,∀j,p*phi (cf hs) p r j=cf hs 0*r (j+1)-r 0*cf hs (j+1):=λr hr j=>by obtain⟨x,hx,rfl⟩:=P4.mp hr;refine hI.exact hp ?_ hmem (hsub x hx) j;have:=Qe.mpr (List.ne_nil_of_mem hx);omega
    have e:=Az (h:=cf hs) (R:=others.map cf) (p:=p) (φ:=phi (cf hs) p) hex;rw[PX,hol]at e
    have e2:(others.map cf).map (phi (cf hs) p)=(others.map (clr hs p)).map cf:=by
     rw[Qp,Qp];refine QC λx hx=>?_
     show phi (cf hs) p (cf x)=cf (clr hs p x);rw[zx (hlen x hx)]
    rw[e2]at e;exact e
   rw[hmv]at h;generalize D (m+1) (cf hs::others.map cf)=X at *
   generalize D m ((others.map (clr hs p)).map cf)=Y at *
   generalize (-1:Int)^pl=e at *
   generalize cf hs 0=y at *
   have e1:p^(m+1)=p*p^m:=by rw[Qa,QN]
   rw[e1]at h hpm;generalize p^m=q at *
   generalize y^m=z at *
   refine Rb hpm ?_;have a1:p*q*(y*(e*sg)*Y)=p*(e*sg)*(y*(q*Y)):=by grind
   rw[a1,<- st];have a2:p*(e*sg)*(z*X)=z*(p*sg*(e*X)):=by grind
   rw[a2,h];grind
theorem Kn{xss:List (List Int)}{b:Nat}(hn:xss.length<=16)(hw:∀x∈xss,x.length=xss.length)(hb:∀x∈xss,∀j,(cf x j).natAbs<=2^b):dH xss.length xss 1 1=D xss.length (xss.map cf) :=
 zk (c:=b+4) xss.length xss 1 1 _ 0 (by decide) rfl hw (DInv.start (by omega) hb) (by rw[Int.one_pow,Qw])
noncomputable def sh(k:Nat)(r:Rw):Rw:=λj=>r (j+k)
noncomputable def dp:Nat->List Rw->Int
 |_,[]=>1
 |k,r::rs=>r k*dp (k+1) rs
theorem Ax:∀(R:List Rw) (k:Nat),(∀(i:Nat) (r:Rw),R[i]?=some r->∀j,j<i->r (j+k)=0)->D R.length (R.map (sh k))=dp k R
 | [],_,_=>rfl
 |h::X,k,hz=>by
  have ih:=Ax X (k+1) λi r hr j hj=>by
   have:=hz (i+1) r hr (j+1) (by omega);have e:j+1+k=j+(k+1):=by omega
   rw[e]at this;exact this
  show D (X.length+1) (sh k h::X.map (sh k))=h k*dp (k+1) X
  rw[um (λx hx=>by
   obtain⟨y,hy,rfl⟩:=P4.mp hx;obtain⟨i,hi,rfl⟩:=RQ.mp hy
   exact hz (i+1) X[i] (by rw[List.getElem?_cons_succ];exact List.getElem?_eq_getElem hi) 0 (by omega)),<- ih,Qp]
  have e0:sh k h 0=h k:=by show h (0+k)=h k;rw[Nat.zero_add]
  rw[e0]
  congr 2
  refine QC λr _=>?_
  funext j
  show r (j+1+k)=r (j+(k+1))
  congr 1;omega
noncomputable def ev(t:Int):List Int->Int
 | []=>0
 |v::l=>v+t*ev t l
theorem tu(l:List Int)(k:Nat):cf l.tail k=cf l (k+1):=by
 cases l with
 |nil=>rw[List.tail_nil,bV,bV]
 |cons v l=>rfl
theorem sY(t:Int)(l:List Int):ev t l=cf l 0+t*ev t l.tail:=by
 cases l with
 |nil=>show(0:Int)=cf [] 0+t*0;rw[bV];simp
 |cons v l=>rfl
theorem y6{t x y:Int}:∀(n:Nat) (a b c:List Int),a.length<=n->b.length<=n->c.length<=n->(∀k,cf c k=x*cf a k+y*cf b k)->ev t c=x*ev t a+y*ev t b
 |0,a,b,c,ha,hb,hc,_=>by rw[Q0.mp (Nat.le_zero.mp ha),Q0.mp (Nat.le_zero.mp hb),Q0.mp (Nat.le_zero.mp hc)];show(0:Int)=x*0+y*0;simp
 |n+1,a,b,c,ha,hb,hc,h=>by
  have ih:=y6 (t:=t) (x:=x) (y:=y) n a.tail b.tail c.tail (by rw[List.length_tail];omega) (by rw[List.length_tail];omega) (by rw[List.length_tail];omega) λk=>by rw[tu,tu,tu,h]
  rw[sY t a,sY t b,sY t c,ih,h 0];grind
theorem Kg{t x y:Int}{a b c:List Int}(h:∀k,cf c k=x*cf a k+y*cf b k):ev t c=x*ev t a+y*ev t b :=
 y6 (max a.length (max b.length c.length)) a b c (by omega) (by omega) (by omega) h
noncomputable def syn(t:Int):List Int->List Int
 | []=>[]
 |_::l=>cJ t l (syn t l)
theorem ql(t:Int):∀l:List Int,(syn t l).length<=l.length-1
 | []=>PZ _
 |v::l=>by have:=ql t l;show((List.range (max l.length (syn t l).length)).map _).length<=(v::l).length-1;rw[PX,QF,P7];omega
theorem vh(t u:Int):∀l:List Int,ev u l=ev t l+(u-t)*ev u (syn t l)
 | []=>by show(0:Int)=0+(u-t)*0;simp
 |v::l=>by
  have ih:=vh t u l;have e:ev u (cJ t l (syn t l))=1*ev u l+t*ev u (syn t l):=Kg λk=>by rw[fN];omega
  show v+u*ev u l=v+t*ev t l+(u-t)*ev u (cJ t l (syn t l));rw[e];grind
theorem qm(t:Int):∀(l:List Int) (k:Nat),cf l k=(if k=0 then ev t l else 0)+up (cf (syn t l)) k-t*cf (syn t l) k
 | [],k=>by show cf [] k=(if k=0 then 0 else 0)+up (cf []) k-t*cf [] k;unfold up;simp only[bV];split<;>simp
 |v::l,k=>by
  show cf (v::l) k=(if k=0 then v+t*ev t l else 0)+up (cf (cJ t l (syn t l))) k-t*cf (cJ t l (syn t l)) k;cases k with
  |zero =>have ih:=qm t l 0;rw[fN,tq];show v=(v+t*ev t l)+0-t*(cf l 0+t*cf (syn t l) 0);have ih':cf l 0=ev t l+0-t*cf (syn t l) 0:=ih;grind
  |succ k =>have ih:=qm t l (k+1);have ih':cf l (k+1)=0+cf (syn t l) k-t*cf (syn t l) (k+1):=ih;rw[eT,fN];show cf l k=0+cf (cJ t l (syn t l)) k-t*(cf l (k+1)+t*cf (syn t l) (k+1));rw[fN];grind
variable {ι:Type}
noncomputable def bZ(h:ι->Int)(f:List ι->Int):List ι->List ι->Int
 |_,[]=>0
 |pre,r::rs=>h r*f (pre++rs)-bZ h f (pre++[r]) rs
theorem x4(F:ι->Rw)(f:List Rw->Int):∀rows pre:List ι,lap f (pre.map F) (rows.map F)=bZ (λi=>F i 0) (λm=>f (m.map F)) pre rows
 | [],_=>rfl
 |r::rs,pre=>by show F r 0*f (pre.map F++rs.map F)-lap f (pre.map F++[F r]) (rs.map F)=F r 0*f ((pre++rs).map F)-bZ _ _ (pre++[r]) rs;rw[<- x4 F f rs (pre++[r]),Qd,Qd,Qm,Rg]
theorem gu(n:Nat)(F:ι->Rw)(l:List ι):D (n+1) (l.map F)=bZ (λi=>F i 0) (λm=>D n (m.map λi=>tl (F i))) [] l:=by
 have:=x4 F (λm=>D n (m.map tl)) l [];rw[MU];rw[Rg]at this;rw[this]
 congr 1
 funext m
 rw[Qp];rfl
theorem xX(x y:Int)(h1 h2:ι->Int)(f:List ι->Int):∀rows pre:List ι,bZ (λi=>x*h1 i+y*h2 i) f pre rows=x*bZ h1 f pre rows+y*bZ h2 f pre rows
 | [],_=>by simp[bZ]
 |r::rs,pre=>by show(x*h1 r+y*h2 r)*f (pre++rs)-bZ _ f (pre++[r]) rs=x*(h1 r*f (pre++rs)-bZ h1 f (pre++[r]) rs)+y*(h2 r*f (pre++rs)-bZ h2 f (pre++[r]) rs);rw[xX x y h1 h2 f rs (pre++[r])];grind
theorem xY(x y:Int)(h:ι->Int)(f f1 f2:List ι->Int)(hf:∀m,f m=x*f1 m+y*f2 m):∀rows pre:List ι,bZ h f pre rows=x*bZ h f1 pre rows+y*bZ h f2 pre rows
 | [],_=>by simp[bZ]
 |r::rs,pre=>by show h r*f (pre++rs)-bZ h f (pre++[r]) rs=x*(h r*f1 (pre++rs)-bZ h f1 (pre++[r]) rs)+y*(h r*f2 (pre++rs)-bZ h f2 (pre++[r]) rs);rw[xY x y h f f1 f2 hf rs (pre++[r]),hf];grind
theorem xZ{S:ι->Prop}{h1 h2:ι->Int}{f1 f2:List ι->Int}(hh:∀i,S i->h1 i=h2 i)(hf:∀m,(∀i∈m,S i)->f1 m=f2 m):∀rows pre:List ι,(∀i∈pre,S i)->(∀i∈rows,S i)->bZ h1 f1 pre rows=bZ h2 f2 pre rows
 | [],_,_,_=>rfl
 |r::rs,pre,hp,hr=>by
  show h1 r*f1 (pre++rs)-bZ h1 f1 (pre++[r]) rs=h2 r*f2 (pre++rs)-bZ h2 f2 (pre++[r]) rs
  rw[hh r (hr r (Qh ..)),hf (pre++rs) (λi hi=>(Qk.mp hi).elim (hp i) λz=>hr i (Qb _ z)),
   xZ hh hf rs (pre++[r]) (λi hi=>(Qk.mp hi).elim (hp i) λz=>by rw[Qc.mp z];exact hr r (Qh ..)) (λi hi=>hr i (Qb _ hi))]
theorem uo:∀(n:Nat) (l:List ι) (g g':ι->Rw),(∀i∈l,∀j,j<n->g i j=g' i j)->D n (l.map g)=D n (l.map g')
 |0,_,_,_,_=>rfl
 |n+1,l,g,g',h=>by rw[gu,gu];refine xZ (S:=λi=>∀j,j<n+1->g i j=g' i j) (λi hi=>hi 0 (by omega)) (λm hm=>?_) l [] (λ_ h=>nomatch h) h;exact uo n m (λi=>tl (g i)) (λi=>tl (g' i)) λi hi j hj=>hm i hi (j+1) (by omega)
noncomputable def rc(k:Nat)(c:Int)(r:Rw):Rw:=λj=>if j=k then c else r j
theorem Bh(k:Nat)(c:Int)(r:Rw):tl (rc (k+1) c r)=rc k c (tl r):=by
 funext j
 show(if j+1=k+1 then c else r (j+1))=if j=k then c else r (j+1)
 by_cases h:j=k
 ·rw[if_pos h,if_pos (by omega)]
 ·rw[if_neg h,if_neg (by omega)]
theorem Bg(c:Int)(r:Rw):tl (rc 0 c r)=tl r:=by
 funext j
 show(if j+1=0 then c else r (j+1))=r (j+1);rw[if_neg (by omega)]
theorem uq:∀(k n:Nat) (l:List ι) (g:ι->Rw) (c d:ι->Int) (x y:Int),k<n->D n (l.map λi=>rc k (x*c i+y*d i) (g i))=x*D n (l.map λi=>rc k (c i) (g i))+y*D n (l.map λi=>rc k (d i) (g i))
 |_,0,_,_,_,_,_,_,h=>by omega
 |0,n+1,l,g,c,d,x,y,_=>by
  rw[gu,gu,gu];simp only[Bg];have e:∀c:ι->Int,(λi=>rc 0 (c i) (g i) 0)=c:=λc=>by funext i;rfl
  rw[e (λi=>x*c i+y*d i),e c,e d];exact xX x y c d _ l []
 |k+1,n+1,l,g,c,d,x,y,h=>by
  rw[gu,gu,gu];simp only[Bh];have e:∀c:ι->Int,(λi=>rc (k+1) (c i) (g i) 0)=λi=>g i 0:=λc=>by funext i;show(if 0=k+1 then _ else _)=_;rw[if_neg (by omega)]
  rw[e (λi=>x*c i+y*d i),e c,e d];exact xY x y _ _ _ _ (λm=>uq k n m (λi=>tl (g i)) c d x y (by omega)) l []
theorem MW{n:Nat}{rows:List Rw}(hn:rows.length=n)(h2:2<=n)(h:∀r∈rows,r 1=r 0):D n rows=0:=by
 by_cases hz:∀r∈rows,r 0=0
 ·obtain⟨m,rfl⟩:∃m,n=m+1:=⟨n-1,by omega⟩;exact k8 hz
 ·obtain⟨hd,hmem,hne⟩:∃r,r∈rows/\r 0≠0:=by refine Classical.byContradiction λz=>hz λr hr=>Classical.byContradiction λz2=>z ⟨r,hr,z2⟩
  obtain⟨pre,post,rfl⟩:=List.append_of_mem hmem;rw[PY,P7]at hn;have e:=pY (n:=n) (h:=hd) (post:=post) pre [] (by rw[QO];omega);rw[Qj,Qj,QB]at e;rw[e]
  have hR:∀r∈pre++post,r 1=r 0:=λr hr=>h r (by
   rcases Qk.mp hr with z |z
   ·exact Q6 _ z
   ·exact Qx _ (Qb _ z))
  have hd1:=h hd (by simp);have hl:(pre++post).length+1=n:=by rw[PY];omega
  generalize pre++post=R at hR hl
  obtain⟨m,hm⟩:∃m,R.length=m+1:=⟨R.length-1,by omega⟩;have c:=ur (n:=n) (h:=hd) R [] (by rw[QO];omega);rw[Qj,Qj]at c
  have z:D n (hd::R.map λr=>cmb (hd 0) r (-(r 0)) hd)=0:=by
   obtain⟨n',rfl⟩:∃n',n=n'+2:=⟨n-2,by omega⟩
   rw[um (λx hx=>by
    obtain⟨r,_,rfl⟩:=P4.mp hx;show hd 0*r 0 + -(r 0)*hd 0=0
    grind)]
   rw[k8 (λx hx=>by
    obtain⟨y,hy,rfl⟩:=P4.mp hx;obtain⟨r,hr,rfl⟩:=P4.mp hy;show hd 0*r 1 + -(r 0)*hd 1=0;rw[hR r hr,hd1]
    grind),Qs]
  rw[z]at c;rcases Rk.mp c.symm with z1 |z1
  ·exact absurd z1 (Ru hne)
  ·rw[z1,Qs]
theorem r9{f:List Rw->Int}{S:Rw->Prop}:∀(rows pre:List Rw),(∀r∈pre,S r)->(∀r∈rows,S r)->(∀m:List Rw,m.length+1=pre.length+rows.length->(∀r∈m,S r)->f m=0)->lap f pre rows=0
 | [],_,_,_,_=>rfl
 |r::rs,pre,h1,h2,h3=>by
  show r 0*f (pre++rs)-lap f (pre++[r]) rs=0
  rw[h3 (pre++rs) (by rw[PY,P7];omega) (λx hx=>(Qk.mp hx).elim (h1 x) λz=>h2 x (Qb _ z)),
   r9 rs (pre++[r]) (λx hx=>(Qk.mp hx).elim (h1 x) λz=>by rw[Qc.mp z];exact h2 r (Qh ..)) (λx hx=>h2 x (Qb _ hx)) (λm hm=>h3 m (by rw[PY]at hm;rw[P7];have:([r]:List Rw).length=1:=rfl;omega))]
  simp
theorem AC:∀(k n:Nat) (rows:List Rw),rows.length=n->k+2<=n->(∀r∈rows,r (k+1)=r k)->D n rows=0
 |0,n,rows,hl,hn,h=>MW hl hn h
 |k+1,0,rows,hl,hn,h=>by omega
 |k+1,n+1,rows,hl,hn,h=>by
  refine r9 (S:=λr=>r (k+2)=r (k+1)) rows [] (λ_ z=>nomatch z) h (λm hm hS=>?_)
  exact AC k n (m.map tl) (by rw[PX];rw[QO]at hm;omega) (by omega) (λr hr=>by
   obtain⟨x,hx,rfl⟩:=P4.mp hr
   exact hS x hx)
noncomputable def tm2(a b:Int)(r:Rw):Rw:=λj=>b*r j-(if j=0 then 0 else a*r (j-1))
noncomputable def tp(a b:Int)(k:Nat)(r:Rw):Rw:=λj=>if k<=j then tm2 a b r j else r j
theorem Ay{a b:Int}{n:Nat}{rows:List Rw}(hl:rows.length=n):∀d k,k+d=n->D n (rows.map (tp a b k))=b^d*D n rows
 |0,k,hk=>by
  have e:D n (rows.map (tp a b k))=D n (rows.map id):=uo n rows _ _ λi _ j hj=>by show(if k<=j then _ else i j)=i j;rw[if_neg (by omega)]
  rw[e,List.map_id];simp
 |d+1,k,hk=>by
  have ih:=Ay (a:=a) (b:=b) hl d (k+1) (by omega)
  have e1:∀r:Rw,tp a b k r=rc k (b*r k+(-1)*(if k=0 then 0 else a*r (k-1))) (tp a b (k+1) r):=λr=>by
   funext j
   show(if k<=j then b*r j-(if j=0 then 0 else a*r (j-1))else r j)=if j=k then _ else(if k+1<=j then b*r j-(if j=0 then 0 else a*r (j-1))else r j)
   by_cases h:j=k
   ·subst h;rw[if_pos (PZ _),if_pos rfl];omega
   ·by_cases h2:k<=j
    ·have h3:k+1<=j:=by omega
     rw[if_pos h2,if_neg h,if_pos h3]
    ·have h3:¬k+1<=j:=by omega
     rw[if_neg h2,if_neg h,if_neg h3]
  have e2:rows.map (tp a b k)=rows.map λr=>rc k (b*r k+(-1)*(if k=0 then 0 else a*r (k-1))) (tp a b (k+1) r):=QC λr _=>e1 r
  rw[e2,uq k n rows (tp a b (k+1)) (λr=>r k) (λr=>if k=0 then 0 else a*r (k-1)) b (-1) (by omega)]
  have e3:(rows.map λr=>rc k (r k) (tp a b (k+1) r))=rows.map (tp a b (k+1)):=QC λr _=>by
   funext j
   show(if j=k then r k else tp a b (k+1) r j)=_;by_cases h:j=k
   ·subst h;rw[if_pos rfl];show r j=if j+1<=j then _ else r j
    rw[if_neg (by omega)]
   ·rw[if_neg h]
  have e4:D n (rows.map λr=>rc k (if k=0 then 0 else a*r (k-1)) (tp a b (k+1) r))=0:=by
   by_cases hk0:k=0
   ·subst hk0;obtain⟨n',rfl⟩:∃n',n=n'+1:=⟨n-1,by omega⟩
    exact k8 λx hx=>by obtain⟨r,_,rfl⟩:=P4.mp hx;rfl
   ·have e5:=uq k n rows (tp a b (k+1)) (λr=>r (k-1)) (λ_=>0) a 0 (by omega);have e6:(rows.map λr=>rc k (if k=0 then 0 else a*r (k-1)) (tp a b (k+1) r))=rows.map λr=>rc k (a*r (k-1)+0*0) (tp a b (k+1) r):=QC λr _=>by rw[if_neg hk0];simp
    rw[e6,e5,AC (k-1) n _ (by rw[PX];exact hl) (by omega) (λx hx=>by
     obtain⟨r,_,rfl⟩:=P4.mp hx;have hk1:k-1+1=k:=by omega
     show(if k-1+1=k then r (k-1)else _)=(if k-1=k then _ else(if k+1<=k-1 then _ else r (k-1)))
     rw[if_pos hk1,if_neg (by omega),if_neg (by omega)])]
    simp
  rw[e3,e4,ih,Qa];grind
theorem MS{a b:Int}{n:Nat}{rows:List Rw}(hl:rows.length=n):D n (rows.map (tm2 a b))=b^n*D n rows:=by
 have:=Ay (a:=a) (b:=b) hl n 0 (by omega)
 have e:rows.map (tp a b 0)=rows.map (tm2 a b):=QC λr _=>by
  funext j
  show(if 0<=j then _ else _)=_;rw[if_pos (P6 _)]
 rw[e]at this;exact this
theorem Av:∀(n:Nat) (rows:List Rw),rows.length=n+1->(∀r∈rows,r n=0)->D (n+1) rows=0
 |0,rows,_,h=>k8 h
 |n+1,rows,hl,h=>by
  refine r9 (S:=λr=>r (n+1)=0) rows [] (λ_ z=>nomatch z) h (λm hm hS=>?_)
  exact Av n (m.map tl) (by rw[PX];rw[QO]at hm;omega) (λr hr=>by
   obtain⟨x,hx,rfl⟩:=P4.mp hr
   exact hS x hx)
theorem AB:∀(n:Nat) (rows:List Rw) (u:Rw),rows.length=n->(∀r∈rows,r n=0)->D (n+1) (rows++[u])=u n*D n rows
 |0,rows,u,hl,_=>by obtain rfl:=Q0.mp hl;show u 0*1-0=u 0*1;omega
 |n+1,rows,u,hl,h=>by
  have A:∀(rs pre:List Rw),pre.length+rs.length=n+1->(∀r∈pre,r (n+1)=0)->(∀r∈rs,r (n+1)=0)->lap (λm=>D (n+1) (m.map tl)) pre (rs++[u])=u (n+1)*lap (λm=>D n (m.map tl)) pre rs:=by
   intro rs
   induction rs with
   |nil =>
    intro pre hl' hp _;show u 0*D (n+1) ((pre++[]).map tl)-0=u (n+1)*0
    rw[Ry,Av n _ (by rw[PX];simpa using hl') (λr hr=>by
     obtain⟨x,hx,rfl⟩:=P4.mp hr
     exact hp x hx)]
    simp
   |cons x xs ih =>
    intro pre hl' hp hr;rw[P7]at hl';have h1:=ih (pre++[x]) (by rw[PY];show pre.length+1+xs.length=n+1;omega) (λr hr'=>(Qk.mp hr').elim (hp r) λz=>by rw[Qc.mp z];exact hr x (Qh ..)) (λr hr'=>hr r (Qb _ hr'))
    have h2:=AB n ((pre++xs).map tl) (tl u) (by rw[PX,PY];omega) (λr hr'=>by
     obtain⟨y,hy,rfl⟩:=P4.mp hr';rcases Qk.mp hy with z |z
     ·exact hp y z
     ·exact hr y (Qb _ z))
    show x 0*D (n+1) ((pre++(xs++[u])).map tl)-lap _ (pre++[x]) (xs++[u])=u (n+1)*(x 0*D n ((pre++xs).map tl)-lap _ (pre++[x]) xs);rw[h1,<- Qq,Qd,Qm,Rg,h2];show x 0*(u (n+1)*_)-_=_;grind
  exact A rows [] (by simpa using hl) (λ_ z=>nomatch z) h
noncomputable def shr(k:Nat)(f:Rw):Rw:=λj=>if j<k then 0 else f (j-k)
noncomputable def bR(f:Rw)(n:Nat):List Rw:=(List.range n).map λk=>shr k f
noncomputable def syl(f g:Rw)(n m:Nat):List Rw:=bR f n++bR g m
theorem iO(f:Rw)(n:Nat):(bR f n).length=n:=by unfold bR;simp
theorem Be(a b:Int)(k:Nat)(f:Rw):tm2 a b (shr k f)=shr k (tm2 a b f):=by
 funext j
 show b*(if j<k then 0 else f (j-k))-(if j=0 then 0 else a*(if j-1<k then 0 else f (j-1-k)))=if j<k then 0 else b*f (j-k)-(if j-k=0 then 0 else a*f (j-k-1))
 by_cases h:j<k
 ·rw[if_pos h,if_pos h,if_pos (show j-1<k by omega)];split<;>simp
 ·rw[if_neg h,if_neg h];by_cases h0:j=0
  ·rw[if_pos h0,if_pos (show j-k=0 by omega)]
  ·rw[if_neg h0];by_cases h1:j-k=0
   ·rw[if_pos h1,if_pos (show j-1<k by omega),Qs]
   ·rw[if_neg h1,if_neg (show ¬j-1<k by omega)];have:j-1-k=j-k-1:=by omega
    rw[this]
theorem KC(a b:Int)(k:Nat)(f:Rw):cmb b (shr k f) (-a) (shr (k+1) f)=tm2 a b (shr k f):=by
 funext j
 show b*(if j<k then 0 else f (j-k)) + -a*(if j<k+1 then 0 else f (j-(k+1)))=b*(if j<k then 0 else f (j-k))-(if j=0 then 0 else a*(if j-1<k then 0 else f (j-1-k)));by_cases h0:j=0
 ·subst h0;rw[if_pos (show 0<k+1 by omega),if_pos rfl];omega
 ·rw[if_neg h0];by_cases h:j<k+1
  ·rw[if_pos h,if_pos (show j-1<k by omega)];omega
  ·rw[if_neg h,if_neg (show ¬j-1<k by omega)];have:j-1-k=j-(k+1):=by omega
   rw[this];grind
noncomputable def trr(a b:Int):Rw->List Rw->List Rw
 |x,[]=>[x]
 |x,y::l=>cmb b x (-a) y::trr a b y l
theorem Aw{a b:Int}{n:Nat}:∀(l:List Rw) (x:Rw) (A:List Rw),A.length+1+l.length=n->D n (A++trr a b x l)=b^l.length*D n (A++x::l)
 | [],x,A,_=>by show D n (A++[x])=_;simp
 |y::l,x,A,h=>by rw[P7]at h;have ih:=Aw (a:=a) (b:=b) (n:=n) l y (A++[cmb b x (-a) y]) (by rw[PY];show A.length+1+1+l.length=n;omega);simp only[Qq,QB,Qj]at ih;show D n (A++cmb b x (-a) y::trr a b y l)=_;rw[ih,gv n A (y::l) x y b (-a) (by rw[P7];omega),iZ n A l y (by omega),P7,Qa];grind
theorem uT(a b:Int)(f:Rw):∀(m i:Nat),trr a b (shr i f) ((List.range' (i+1) m).map λk=>shr k f)=(List.range' i m).map (λk=>tm2 a b (shr k f))++[shr (i+m) f]
 |0,i=>rfl
 |m+1,i=>by
  have ih:=uT a b f m (i+1);show trr a b (shr i f) (shr (i+1) f::(List.range' (i+1+1) m).map λk=>shr k f)=tm2 a b (shr i f)::(List.range' (i+1) m).map (λk=>tm2 a b (shr k f))++[shr (i+(m+1)) f];show cmb b (shr i f) (-a) (shr (i+1) f)::trr a b (shr (i+1) f) ((List.range' (i+1+1) m).map λk=>shr k f)=_;rw[KC,ih];have:i+1+m=i+(m+1):=by omega
  rw[this];rfl
noncomputable def wj(a b:Int)(h:Rw):Nat->Int
 |0=>h 0
 |j+1=>wj a b h j*a+h (j+1)*b^(j+1)
theorem AJ(a b:Int)(f:Rw)(m:Nat):(∀j,j<m->wj a b (shr m f) j=0)/\∀t,wj a b (shr m f) (m+t)=b^m*wj a b f t:=by
 have z:∀j,j<m->wj a b (shr m f) j=0:=by
  intro j
  induction j with
  |zero=>intro h;show(if 0<m then 0 else f (0-m))=0;rw[if_pos h]
  |succ j ih =>intro h;show wj a b (shr m f) j*a+(if j+1<m then 0 else f (j+1-m))*b^(j+1)=0;rw[ih (by omega),if_pos h];simp
 refine⟨z,λt=>?_⟩
 induction t with
 |zero =>
  cases m with
  |zero=>show(if 0<0 then 0 else f (0-0))=b^0*f 0;simp
  |succ m =>show wj a b (shr (m+1) f) m*a+(if m+1<m+1 then 0 else f (m+1-(m+1)))*b^(m+1)=b^(m+1)*f 0;rw[z m (by omega),if_neg (by omega),QQ];grind
 |succ t ih =>
  show wj a b (shr m f) (m+t)*a+(if m+t+1<m then 0 else f (m+t+1-m))*b^(m+t+1)=b^m*(wj a b f t*a+f (t+1)*b^(t+1));rw[ih,if_neg (by omega)];have e1:m+t+1-m=t+1:=by omega
  have e2:m+t+1=m+(t+1):=by omega
  rw[e1,e2,Int.pow_add];grind
theorem MR{a b:Int}(hb:b≠0){N:Nat}{G:List Rw}{h:Rw}(hl:G.length=N)(hz:∀r∈G,r N=0):D (N+1) (G.map (tm2 a b)++[h])=wj a b h N*D N G:=by
 have hp:b^(N+1)≠0:=Ru hb;refine Rb hp ?_;have e1:=gv (N+1) (G.map (tm2 a b)) [] h h (b^(N+1)) 0 (by rw[PX,QO];omega);rw[Ra,QY]at e1;rw[<- e1]
 let κ:Rw:=λj=>b^(N-j)*wj a b h j
 have hk:∀j,j<N+1->cmb (b^(N+1)) h 0 h j=tm2 a b κ j:=by
  intro j hj;show b^(N+1)*h j+0*h j=b*(b^(N-j)*wj a b h j)-(if j=0 then 0 else a*(b^(N-(j-1))*wj a b h (j-1)));cases j with
  |zero =>rw[if_pos rfl,QU,Qa];show _=b*(b^N*h 0)-0;grind
  |succ j =>
   rw[if_neg (by omega)];show _=b*(b^(N-(j+1))*(wj a b h j*a+h (j+1)*b^(j+1)))-a*(b^(N-j)*wj a b h j);have e:N-j=N-(j+1)+1:=by omega
   have e2:N+1=(N-(j+1))+(j+1)+1:=by omega
   have e3:b^(N+1)=b^(N-(j+1))*b^(j+1)*b:=by
    calc b^(N+1)=b^((N-(j+1))+(j+1)+1):=by rw[<- e2]
     _=_:=by rw[Qa,Int.pow_add]
   rw[e3,e,Qa b (N-(j+1))];generalize b^(N-(j+1))=x;generalize b^(j+1)=y;grind
 have e2:D (N+1) (G.map (tm2 a b)++[cmb (b^(N+1)) h 0 h])=D (N+1) ((G++[κ]).map (tm2 a b)):=by
  rw[Qd,Qm,Rg]
  have:=uo (N+1) ((G.map λg=>(tm2 a b g,tm2 a b g))++[(cmb (b^(N+1)) h 0 h,tm2 a b κ)]) Prod.fst Prod.snd (λi hi j hj=>by
   rcases Qk.mp hi with z |z
   ·obtain⟨g,_,rfl⟩:=P4.mp z;rfl
   ·rw[Qc.mp z]
    exact hk j hj)
  rw[Qd,Qd,Qp,Qp]at this;exact this
 have hkN:κ N=wj a b h N:=by show b^(N-N)*_=_;rw[QQ];simp
 rw[e2,MS (by rw[PY,hl];rfl),AB N G κ hl hz,hkN]
theorem Dj{a b:Int}(hb:b≠0){n m:Nat}{f g:Rw}(hf:∀j,m<j->f j=0)(hg:∀j,n<j->g j=0):D (n+(m+1)) (syl (tm2 a b f) g n (m+1))=wj a b g n*D (n+m) (syl f g n m):=by
 have hp:b^m≠0:=Ru hb;refine Rb hp ?_
 have er:bR g (m+1)=shr 0 g::(List.range' 1 m).map λk=>shr k g:=by unfold bR;rw[List.range_eq_range',List.range'_succ,Qm]
 have e1:=Aw (a:=a) (b:=b) (n:=n+(m+1)) ((List.range' 1 m).map λk=>shr k g) (shr 0 g) (bR (tm2 a b f) n) (by rw[iO,PX,List.length_range'];omega);rw[PX,List.length_range',<- er]at e1;have e2:=uT a b g m 0;rw[Nat.zero_add,Nat.zero_add]at e2;unfold syl;rw[<- e1,e2]
 have e3:bR (tm2 a b f) n++((List.range' 0 m).map (λk=>tm2 a b (shr k g))++[shr m g])=(bR f n++bR g m).map (tm2 a b)++[shr m g]:=by
  rw[<- Qq,Qd]
  congr 2
  ·unfold bR;rw[Qp];exact QC λk _=>(Be a b k f).symm
  ·unfold bR;rw[Qp,List.range_eq_range'];rfl
 rw[e3];have hN:n+(m+1)=n+m+1:=by omega
 rw[hN,MR hb (by rw[PY,iO,iO]) (λr hr=>by
  rcases Qk.mp hr with z |z
  ·obtain⟨k,hk,rfl⟩:=P4.mp z;have:=QI.mp hk;show(if n+m<k then 0 else f (n+m-k))=0;rw[if_neg (by omega)];exact hf _ (by omega)
  ·obtain⟨k,hk,rfl⟩:=P4.mp z;have:=QI.mp hk;show(if n+m<k then 0 else g (n+m-k))=0
   rw[if_neg (by omega)];exact hg _ (by omega))]
 have e4:=(AJ a b g m).2 n;have e5:m+n=n+m:=Nat.add_comm _ _;rw[e5]at e4;rw[e4];grind
theorem Dl{c:Int}{n:Nat}{f g:Rw}(hf0:f 0=c)(hf:∀j,0<j->f j=0):D (n+0) (syl f g n 0)=c^n:=by
 have e:syl f g n 0=bR f n:=by unfold syl bR;simp
 rw[e]
 have e1:=Ax (bR f n) 0 (λi r hr j hj=>by
  unfold bR at hr
  rw[List.getElem?_map]at hr;by_cases hi:i<n
  ·rw[List.getElem?_range hi]at hr;obtain rfl:=Option.some.inj hr;show(if j+0<i then 0 else f (j+0-i))=0;rw[if_pos (by omega)]
  ·rw[List.getElem?_eq_none_iff.mpr (by simp;omega)]at hr
   cases hr)
 have e2:(bR f n).map (sh 0)=bR f n:=by
  have:(bR f n).map (sh 0)=(bR f n).map id:=QC λx _=>rfl
  rw[this,List.map_id]
 rw[e2,iO]at e1
 have e3:∀m k,dp k ((List.range' k m).map λk=>shr k f)=c^m:=by
  intro m
  induction m with
  |zero=>intro k;show(1:Int)=c^0;simp
  |succ m ih =>
   intro k;rw[List.range'_succ,Qm];show shr k f k*dp (k+1) _=_;rw[ih (k+1)];have:shr k f k=c:=by show(if k<k then 0 else f (k-k))=c;rw[if_neg (by omega),QQ,hf0]
   rw[this,Qa,QN]
 rw[Nat.add_zero,e1];unfold bR;rw[List.range_eq_range'];exact e3 n 0
theorem pN(l:List Int)(j:Nat):cf l.reverse j=if j<l.length then cf l (l.length-1-j)else 0:=by
 by_cases h:j<l.length
 ·rw[if_pos h,cw (by rw[QK];exact h),List.getElem_reverse,cw (by omega)]
 ·rw[if_neg h,bI (by rw[QK];omega)]
theorem Bf{a b:Int}{l:List Int}(hl:l≠[]):tm2 a b (cf l.reverse)=cf (ap l [-a,b]).reverse:=by
 have hp:=Qe.mpr hl
 funext j
 rw[pN,rp hl,iM];show b*cf l.reverse j-(if j=0 then 0 else a*cf l.reverse (j-1))=_;rw[pN,pN];by_cases h:j<l.length+1
 ·rw[if_pos h,tz];by_cases h0:j=0
  ·subst h0;rw[if_pos rfl,if_pos hp,if_neg (show ¬l.length+1-1-0=0 by omega),bI (l:=l) (k:=l.length+1-1-0) (by omega)];have:l.length+1-1-0-1=l.length-1-0:=by omega
   rw[this];omega
  ·rw[if_neg h0,if_pos (show j-1<l.length by omega)];have e1:l.length-1-(j-1)=l.length+1-1-j:=by omega
   rw[e1];by_cases h1:j<l.length
   ·rw[if_pos h1,if_neg (show ¬l.length+1-1-j=0 by omega)];have e2:l.length+1-1-j-1=l.length-1-j:=by omega
    rw[e2];grind
   ·rw[if_neg h1,if_pos (show l.length+1-1-j=0 by omega)];grind
 ·rw[if_neg h,if_neg (show ¬j<l.length by omega),if_neg (show ¬j=0 by omega),if_neg (show ¬j-1<l.length by omega)];simp
theorem KH(k t:Nat)(l:List Int):cf (List.replicate k 0++l++List.replicate t 0)=shr k (cf l):=by
 funext j
 show _=if j<k then 0 else cf l (j-k)
 rw[Qq];by_cases h:j<k
 ·rw[if_pos h,pP (by rw[Qy];exact h),ku]
 ·rw[if_neg h,pO (by rw[Qy];omega),Qy];by_cases h2:j-k<l.length
  ·rw[pP h2]
  ·rw[pO (by omega),ku,bI (by omega)]
noncomputable def aM(l:List Int)(n:Nat):List (List Int):=(List.range n).map λk=>List.replicate k 0++l.reverse++List.replicate (n-1-k) 0
theorem wl(l:List Int)(n:Nat):(aM l n).map cf=bR (cf l.reverse) n:=by unfold aM bR;rw[Qp];exact QC λk _=>KH k _ _
noncomputable def cN(p q:List Int):Int:=D (q.length-1+(p.length-1)) (syl (cf p.reverse) (cf q.reverse) (q.length-1) (p.length-1))
theorem qL{l:List Int}(j:Nat)(h:l.length-1<j):cf l.reverse j=0:=by rw[pN,if_neg (by omega)]
theorem Dm{a b:Int}(hb:b≠0){p q:List Int}(hp:p≠[]):cN (ap p [-a,b]) q=wj a b (cf q.reverse) (q.length-1)*cN p q:=by
 have hl:=xq (a:=a) (b:=b) p;rw[if_neg hp]at hl;have hpl:=Qe.mpr hp;unfold cN;rw[hl,<- Bf hp];obtain⟨m,hm⟩:∃m,p.length=m+1:=⟨p.length-1,by omega⟩;have e1:p.length+1-1=m+1:=by omega
 have e2:p.length-1=m:=by omega
 rw[e1,e2];exact Dj hb (λj hj=>qL j (by omega)) (λj hj=>qL j hj)
theorem Dn(c:Int)(q:List Int):cN [c] q=c^(q.length-1):=by unfold cN;exact Dl (f:=cf [c].reverse) rfl (λj hj=>qL j (by simpa using hj))
structure AltF(n:Nat)(F:List Rw->Int):Prop where
 lin:∀(pre post:List Rw) (r s:Rw) (a b:Int),pre.length+1+post.length=n->F (pre++cmb a r b s::post)=a*F (pre++r::post)+b*F (pre++s::post)
 alt:∀(pre post:List Rw) (r:Rw),pre.length+2+post.length=n->F (pre++r::r::post)=0
theorem AltF.swap{n:Nat}{F:List Rw->Int}(hF:AltF n F){pre post:List Rw}{r s:Rw}(h:pre.length+2+post.length=n):F (pre++r::s::post) =-F (pre++s::r::post):=by have e0:=hF.alt pre post (cmb 1 r 1 s) h;rw[hF.lin pre (cmb 1 r 1 s::post) r s 1 1 (by rw[P7];omega)]at e0;have e1:=hF.lin (pre++[r]) post r s 1 1 (by rw[PY];show pre.length+1+1+post.length=n;omega);have e2:=hF.lin (pre++[s]) post r s 1 1 (by rw[PY];show pre.length+1+1+post.length=n;omega);simp only[Qq,QB,Qj]at e1 e2;have e3:=hF.alt pre post r h;have e4:=hF.alt pre post s h;rw[e1,e2,e3,e4]at e0;omega
theorem AltF.move{n:Nat}{F:List Rw->Int}(hF:AltF n F){h:Rw}{post:List Rw}:∀(pre q:List Rw),q.length+pre.length+1+post.length=n->F (q++pre++h::post)=(-1)^pre.length*F (q++h::pre++post)
 | [],q,_=>by simp
 |x::pre,q,hl=>by rw[P7]at hl;have ih:=hF.move (h:=h) (post:=post) pre (q++[x]) (by rw[PY];show q.length+1+pre.length+1+post.length=n;omega);have e:=hF.swap (pre:=q) (post:=pre++post) (r:=x) (s:=h) (by rw[PY];omega);simp only[Qq,QB,Qj]at ih e ⊢;rw[ih,e,P7,Qa];grind
theorem AltF.dup{n:Nat}{F:List Rw->Int}(hF:AltF n F){h:Rw}{q pre post:List Rw}(hl:q.length+pre.length+2+post.length=n):F (q++h::pre++h::post)=0:=by have e:=hF.move (h:=h) (post:=post) pre (q++[h]) (by rw[PY];show q.length+1+pre.length+1+post.length=n;omega);have e2:=hF.alt q (pre++post) h (by rw[PY];omega);simp only[Qq,QB,Qj]at e e2 ⊢;rw[e,e2,Qs]
theorem AltF.clear{n:Nat}{F:List Rw->Int}(hF:AltF n F){h:Rw}{c:Int}{d:Rw->Int}:∀(R q:List Rw),1+q.length+R.length=n->F (h::(q++R.map λr=>cmb c r (-(d r)) h))=c^R.length*F (h::(q++R))
 | [],q,_=>by simp
 |r::R,q,hl=>by rw[P7]at hl;have e:=hF.lin (h::q) (R.map λr=>cmb c r (-(d r)) h) r h c (-(d r)) (by rw[PX,P7];omega);have e2:=hF.dup (h:=h) (q:=[]) (pre:=q) (post:=R.map λr=>cmb c r (-(d r)) h) (by rw[PX,QO];omega);have ih:=hF.clear (h:=h) (c:=c) (d:=d) R (q++[r]) (by rw[PY];show 1+(q.length+1)+R.length=n;omega);simp only[Qq,QB,Qj]at e e2 ih ⊢;rw[Qm,e,e2,ih,P7,Qa];grind
theorem AltF.cons{n:Nat}{F:List Rw->Int}(hF:AltF (n+1) F)(h:Rw):AltF n (λR=>F (h::R)) :=
 ⟨λpre post r s a b hl=>hF.lin (h::pre) post r s a b (by rw[P7];omega),λpre post r hl=>hF.alt (h::pre) post r (by rw[P7];omega)⟩
theorem AltF.zero{n:Nat}{F:List Rw->Int}(hF:AltF n F){pre post:List Rw}{z:Rw}(hl:pre.length+1+post.length=n)(hz:∀j,z j=0):F (pre++z::post)=0:=by
 have e:=hF.lin pre post z z 0 0 hl;have e2:cmb 0 z 0 z=z:=by funext j;show 0*z j+0*z j=z j;rw[hz j];simp
 rw[e2]at e;omega
def Sup(k n:Nat)(r:Rw):Prop:=∀j,(j<k\/k+n<=j)->r j=0
theorem BF{k n:Nat}{h r:Rw}(hh:Sup k (n+1) h)(hr:Sup k (n+1) r):Sup (k+1) n (cmb (h k) r (-(r k)) h):=λj hj=>by
 show h k*r j + -(r k)*h j=0;by_cases e:j=k
 ·subst e;grind
 ·rw[hr j (by omega),hh j (by omega)];simp
theorem AltF.over:∀(n k:Nat) (F:List Rw->Int),AltF (n+1) F->∀rows:List Rw,rows.length=n+1->(∀r∈rows,Sup k n r)->F rows=0
 |0,k,F,hF,rows,hl,hS=>by obtain⟨r,rfl⟩:=List.length_eq_one_iff.mp hl;exact hF.zero (pre:=[]) (post:=[]) (by simp) (λj=>hS r (by simp) j (by omega))
 |n+1,k,F,hF,rows,hl,hS=>by
  by_cases hz:∀r∈rows,r k=0
  ·obtain⟨h,R,rfl⟩:∃h R,rows=h::R:=by cases rows with
    |nil=>simp at hl
    |cons h R=>exact⟨h,R,rfl⟩
   refine AltF.over n (k+1) (λR=>F (h::R)) (hF.cons h) R (by simpa using hl) (λr hr j hj=>?_);by_cases e:j=k
   ·subst e;exact hz r (Qb _ hr)
   ·exact hS r (Qb _ hr) j (by omega)
  ·obtain⟨h,hmem,hne⟩:∃r,r∈rows/\r k≠0:=Classical.byContradiction λz=>hz λr hr=>Classical.byContradiction λz2=>z ⟨r,hr,z2⟩
   obtain⟨pre,post,rfl⟩:=List.append_of_mem hmem;rw[PY,P7]at hl;have e:=hF.move (h:=h) (post:=post) pre [] (by rw[QO];omega);rw[Qj,Qj,QB]at e;rw[e]
   have hR:∀r∈pre++post,Sup k (n+1) r:=λr hr=>hS r (by
    rcases Qk.mp hr with z |z
    ·exact Q6 _ z
    ·exact Qx _ (Qb _ z))
   have hh:=hS h hmem;have hlR:(pre++post).length=n+1:=by rw[PY];omega
   generalize pre++post=R at hR hlR
   have c:=hF.clear (h:=h) (c:=h k) (d:=λr=>r k) R [] (by rw[QO,hlR];omega);rw[Qj,Qj]at c
   have z:=AltF.over n (k+1) (λR=>F (h::R)) (hF.cons h) (R.map λr=>cmb (h k) r (-(r k)) h) (by rw[PX,hlR]) (λr hr=>by
    obtain⟨x,hx,rfl⟩:=P4.mp hr
    exact BF hh (hR x hx))
   rw[z]at c;rcases Rk.mp c.symm with z1 |z1
   ·exact absurd z1 (Ru hne)
   ·rw[z1,Qs]
noncomputable def AT(k:Nat):Rw:=λj=>if j=k then 1 else 0
noncomputable def units:Nat->Nat->List Rw
 |_,0=>[]
 |k,n+1=>AT k::units (k+1) n
noncomputable def bb:Nat->Nat->Nat
 |0=>λ_=>1
 |t+1=>λi=>Nat.rec 1 (λi r=>bb t (i+1)+r) i
theorem zL(i:Nat):bb 0 i=1:=rfl
theorem KY(t:Nat):bb t 1=t+1:=by
 induction t with
 |zero=>rfl
 |succ t ih=>show bb t 1+bb (t+1) 0=_;rw[ih];rfl
theorem KW(i:Nat):bb 1 i=i+1:=by
 induction i with
 |zero=>rfl
 |succ i ih=>show bb 0 (i+1)+bb 1 i=_;rw[ih];show 1+_=_;omega
theorem tG:∀(t i:Nat),(t+1)*bb (t+1) i=(i+1)*bb t (i+1)
 |t,0=>by rw[KY];show(t+1)*1=1*(t+1);omega
 |0,i+1=>by rw[KW,zL];omega
 |t+1,i+1=>by have h1:=tG (t+1) i;have h2:=tG t (i+1);show(t+1+1)*(bb (t+1) (i+1)+bb (t+2) i)=(i+1+1)*(bb t (i+2)+bb (t+1) (i+1));rw[Nat.mul_add,Nat.mul_add,h1,<- h2];grind
noncomputable def ff:Nat->Int->Int
 |0,_=>1
 |t+1,x=>ff t x*(x-t)
theorem yF(x:Int):∀t,ff (t+1) (x+1)=(x+1)*ff t x
 |0=>by show 1*(x+1-(0:Nat))=(x+1)*1;simp
 |t+1=>by
  have ih:=yF x t;show ff (t+1) (x+1)*(x+1-((t+1:Nat):Int))=(x+1)*(ff t x*(x-t));rw[ih];have:x+1-((t+1:Nat):Int)=x-t:=by omega
  rw[this];grind
theorem JB(x:Int)(t:Nat):ff (t+1) (x+1)-ff (t+1) x=(t+1:Nat)*ff t x:=by
 rw[yF];show(x+1)*ff t x-ff t x*(x-t)=_;have:((t+1:Nat):Int)=t+1:=by omega
 rw[this];grind
theorem yE:∀t,ff (t+1) 0=0
 |0=>rfl
 |t+1=>by show ff (t+1) 0*_=0;rw[yE t,Ra]
noncomputable def SF(t:Nat)(x:Int):List Int->Int
 | []=>0
 |c::cs=>c*ff t x+SF (t+1) x cs
noncomputable def dI(i t:Nat):List Int->List Int
 | []=>[]
 |c::cs=>c*(bb t i:Nat)::dI i (t+1) cs
theorem Ad(t:Nat):∀cs,SF (t+1) 0 cs=0
 | []=>rfl
 |c::cs=>by show c*ff (t+1) 0+SF (t+1+1) 0 cs=0;rw[yE,Ad (t+1) cs];simp
theorem Ae(i:Nat)(x:Int):∀(cs:List Int) (t:Nat),SF (t+1) (x+1) (dI i (t+1) cs)-SF (t+1) x (dI i (t+1) cs)=(i+1:Nat)*SF t x (dI (i+1) t cs)
 | [],t=>by show(0:Int)-0=_*0;simp
 |c::cs,t=>by
  have ih:=Ae i x cs (t+1);show c*(bb (t+1) i:Nat)*ff (t+1) (x+1)+SF (t+1+1) (x+1) (dI i (t+1+1) cs)-(c*(bb (t+1) i:Nat)*ff (t+1) x+SF (t+1+1) x (dI i (t+1+1) cs))=(i+1:Nat)*(c*(bb t (i+1):Nat)*ff t x+SF (t+1) x (dI (i+1) (t+1) cs));have h1:=JB x t
  have h2:((t+1:Nat):Int)*(bb (t+1) i:Nat)=((i+1:Nat):Int)*(bb t (i+1):Nat):=by
   have:=tG t i
   exact_mod_cast this
  rw[Int.mul_add,<- ih];generalize ((bb (t+1) i:Nat):Int)=u at *
  generalize ((bb t (i+1):Nat):Int)=v at *
  generalize ((t+1:Nat):Int)=p at *
  generalize ((i+1:Nat):Int)=q at *
  have h3:c*u*(ff (t+1) (x+1)-ff (t+1) x)=q*(c*v*ff t x):=by
   rw[h1];have:c*u*(p*ff t x)=c*(p*u)*ff t x:=by grind
   rw[this,h2];grind
  grind
noncomputable def eB(i:Nat)(left:List Int):List Int:=(List.range (left.length-1)).map λj=>(cf left (j+1)-cf left j)/((i:Nat):Int)
noncomputable def cF(i:Nat)(cs:List Int):List Int:=(List.range cs.length).map λj=>SF 0 (j:Nat) (dI i 0 cs)
theorem AO(i:Nat)(c:Int)(cs:List Int):cf (cF i (c::cs)) 0=c:=by unfold cF;rw[eU,if_pos (by simp)];show c*(bb 0 i:Nat)*1+SF 1 0 (dI i 1 cs)=c;rw[zL,Ad];simp
theorem AN(i:Nat)(c:Int)(cs:List Int):eB (i+1) (cF i (c::cs))=cF (i+1) cs:=by
 unfold eB;have hl:(cF i (c::cs)).length=cs.length+1:=by unfold cF;simp
 rw[hl];show(List.range cs.length).map _=(List.range cs.length).map _;refine QC λj hj=>?_
 have hj':=QI.mp hj;unfold cF;rw[eU,eU,if_pos (by simp;omega),if_pos (by simp;omega)];have e:((j+1:Nat):Int)=(j:Int)+1:=by omega
 rw[e];show(c*(bb 0 i:Nat)*1+SF 1 ((j:Int)+1) (dI i 1 cs)-(c*(bb 0 i:Nat)*1+SF 1 (j:Int) (dI i 1 cs)))/((i+1:Nat):Int)=SF 0 (j:Int) (dI (i+1) 0 cs);have h:SF 1 ((j:Int)+1) (dI i 1 cs)-SF 1 (j:Int) (dI i 1 cs)=(i+1:Nat)*SF 0 (j:Int) (dI (i+1) 0 cs):=Ae i (j:Int) cs 0
 have h2:c*(bb 0 i:Nat)*1+SF 1 ((j:Int)+1) (dI i 1 cs)-(c*(bb 0 i:Nat)*1+SF 1 (j:Int) (dI i 1 cs))=(i+1:Nat)*SF 0 (j:Int) (dI (i+1) 0 cs):=by rw[<- h];omega
 rw[h2];exact Int.mul_ediv_cancel_left _ (by omega)
noncomputable def eO:Nat->Nat->List Int->List Int
 |0,_,_=>[]
 |n+1,i,left=>cf left 0::eO n (i+1) (eB (i+1) left)
theorem xW:∀(cs:List Int) (i:Nat),eO cs.length i (cF i cs)=cs
 | [],_=>rfl
 |c::cs,i=>by show cf (cF i (c::cs)) 0::eO cs.length (i+1) (eB (i+1) (cF i (c::cs)))=c::cs;rw[AO,AN,xW cs (i+1)]
noncomputable def nc:Nat->Nat->List Int->List Int
 |_,0,_=>[]
 |k,n+1,W=>ev (k:Nat) W::nc (k+1) n (syn (k:Nat) W)
theorem rZ:∀(n k:Nat) (W:List Int),(nc k n W).length=n
 |0,_,_=>rfl
 |n+1,k,W=>by show(nc (k+1) n (syn (k:Nat) W)).length+1=n+1;rw[rZ n (k+1)]
theorem xm(x:Int):∀(n k:Nat) (W:List Int),W.length<=n->SF k x (nc k n W)=ff k x*ev x W
 |0,k,W,h=>by obtain rfl:=Q0.mp (Nat.le_zero.mp h);show(0:Int)=_*0;simp
 |n+1,k,W,h=>by have hl:=ql (k:Nat) W;have ih:=xm x n (k+1) (syn (k:Nat) W) (by omega);show ev (k:Nat) W*ff k x+SF (k+1) x (nc (k+1) n (syn (k:Nat) W))=ff k x*ev x W;rw[ih,vh (k:Nat) x W];show _+ff k x*(x-k)*ev x (syn (k:Nat) W)=_;grind
theorem KU(t:Nat):bb t 0=1:=by cases t<;>rfl
theorem zl:∀(cs:List Int) (t:Nat),dI 0 t cs=cs
 | [],_=>rfl
 |c::cs,t=>by show c*(bb t 0:Nat)::dI 0 (t+1) cs=_;rw[KU,zl cs (t+1)];simp
theorem AQ{W:List Int}{n:Nat}(h:W.length<=n):cF 0 (nc 0 n W)=(List.range n).map λj=>ev (j:Nat) W:=by
 unfold cF;rw[rZ];refine QC λj _=>?_
 rw[zl,xm _ n 0 W h];show 1*_=_;omega
noncomputable def cV:Nat->List Int->List Int
 |_,[]=>[]
 |k,c::cs=>bj (ap (cV (k+1) cs) [-(k:Nat),1]) (trim [c])
theorem Gk(l:List Int)(x y:Int)(n:Nat):az l [x,y] n=x*cf l n+y*up (cf l) n:=by
 rw[rm,eI]
 congr 1
 unfold up;by_cases h:n=0
 ·rw[if_pos h,if_pos h];simp
 ·rw[if_neg h,if_neg h,jG]
theorem AS{f g:Nat->Int}(h:∀n,f n=g n)(n:Nat):up f n=up g n:=by unfold up;split;rfl;exact h _
theorem yu:∀(n k:Nat) (W:List Int),W.length<=n->cV k (nc k n W)=trim W
 |0,k,W,h=>by obtain rfl:=Q0.mp (Nat.le_zero.mp h);rfl
 |n+1,k,W,h=>by
  have hl:=ql (k:Nat) W;have ih:=yu n (k+1) (syn (k:Nat) W) (by omega);show bj (ap (cV (k+1) (nc (k+1) n (syn (k:Nat) W))) [-(k:Nat),1]) (trim [ev (k:Nat) W])=trim W;rw[ih];refine gR (dL _) (dL _) λm=>?_
  rw[pQ,cv,Gk,cX,cX,cX,qm (k:Nat) W m,AS (cX _)]
  have:cf [ev (k:Nat) W] m=if m=0 then ev (k:Nat) W else 0:=by
   cases m with
   |zero=>rfl
   |succ m=>rw[eT,bV,if_neg (by omega)]
  rw[this];grind
theorem Bj{W:List Int}{n:Nat}(h:W.length<=n)(ht:Tr W):cV 0 (eO n 0 ((List.range n).map λj=>ev (j:Nat) W))=W:=by have e:=xW (nc 0 n W) 0;rw[rZ,AQ h]at e;rw[e,yu n 0 W h,qd ht]
theorem xO(t b v:Int):∀l:List Int,lv t b (l++[v])=lv t b l*b+v*t^l.length
 | []=>by show v*b^0+t*0=0*b+v*t^0;simp
 |x::l=>by show x*b^(l++[v]).length+t*lv t b (l++[v])=(x*b^l.length+t*lv t b l)*b+v*t^(l.length+1);rw[xO t b v l,PY,Qa t];show x*b^(l.length+1)+_=_;rw[Qa];grind
theorem uN{a b:Int}{f g:Rw}:∀n,(∀j,j<=n->f j=g j)->wj a b f n=wj a b g n
 |0,h=>h 0 (PZ _)
 |n+1,h=>by show wj a b f n*a+f (n+1)*b^(n+1)=wj a b g n*a+g (n+1)*b^(n+1);rw[uN n λj hj=>h j (by omega),h (n+1) (PZ _)]
theorem qa(a b:Int):∀l:List Int,l≠[]->wj a b (cf l.reverse) (l.length-1)=lv a b l
 | [v],_=>by show v=v*b^0+a*0;simp
 |v::x::l,_=>by
  have ih:=qa a b (x::l) (by simp);generalize hA:x::l=A at *
  have hl:1<=A.length:=by rw[<- hA,P7];omega
  obtain⟨n,hn⟩:∃n,A.length=n+1:=⟨A.length-1,by omega⟩;rw[P7,hn];show wj a b (cf (v::A).reverse) n*a+cf (v::A).reverse (n+1)*b^(n+1)=v*b^A.length+a*lv a b A;rw[List.reverse_cons];have e1:wj a b (cf (A.reverse++[v])) n=wj a b (cf A.reverse) n:=uN n λj hj=>pP (by rw[QK];omega)
  have e2:cf (A.reverse++[v]) (n+1)=v:=by
   have:n+1=A.reverse.length:=by rw[QK,hn]
   rw[this];exact kv _ _
  have e3:A.length-1=n:=by omega
  rw[e3]at ih;rw[e1,e2,ih,hn,QN (lv a b A)];omega
theorem xP(t u a b:Int):∀(c:Int) (l:List Int),lv t u (mb a b c l)=c*u^l.length+(b*t-a*u)*lv t u l
 |c,[]=>by show c*u^0+t*0=c*u^0+(b*t-a*u)*0;simp
 |c,x::l=>by show(-a*x+c)*u^(mb a b (b*x) l).length+t*lv t u (mb a b (b*x) l)=c*u^(l.length+1)+(b*t-a*u)*(x*u^l.length+t*lv t u l);rw[xP t u a b (b*x) l,iM,Qa];generalize u^l.length=p;generalize lv t u l=h;grind
noncomputable def wx(s:Int)(ps:List (Int×Int)):List Int:=ps.foldl (λl p=>ap l [-p.1,p.2]) [s]
theorem HE{a b:Int}{l:List Int}(h:l≠[]):(ap l [-a,b]).length=l.length+1:=by rw[xq,if_neg h]
noncomputable def prI(f:Int×Int->Int):List (Int×Int)->Int
 | []=>1
 |p::ps=>f p*prI f ps
theorem wA{q:List Int}(hq:q≠[]):∀(ps:List (Int×Int)) (l:List Int),l≠[]->(∀p∈ps,p.2≠0)->cN (ps.foldl (λl p=>ap l [-p.1,p.2]) l) q=cN l q*prI (λp=>lv p.1 p.2 q) ps
 | [],l,_,_=>by show _=_*1;rw[Qw];rfl
 |p::ps,l,h,hp=>by
  have e:=HE (a:=p.1) (b:=p.2) h;have h':ap l [-p.1,p.2]≠[]:=λz=>by rw[z]at e;simp at e
  show cN (ps.foldl (λl p=>ap l [-p.1,p.2]) (ap l [-p.1,p.2])) q=cN l q*(lv p.1 p.2 q*prI _ ps);rw[wA hq ps _ h' (λx hx=>hp x (Qb _ hx)),Dm (hp p (Qh ..)) h,qa _ _ q hq];grind
theorem Dk{q:List Int}(hq:q≠[])(s:Int)(ps:List (Int×Int))(hp:∀p∈ps,p.2≠0):cN (wx s ps) q=s^(q.length-1)*prI (λp=>lv p.1 p.2 q) ps:=by have:=wA hq ps [s] (by simp) hp;rw[Dn]at this;exact this
noncomputable def opp(x:Int):List Int->List Int
 | []=>[]
 |v::l=>bj (ap (opp x l) [x,-1]) (trim [v])
theorem oH(x:Int):∀l:List Int,Tr l->l≠[]->Tr (opp x l)/\(opp x l).length=l.length/\∀a b,lv a b (opp x l)=lv (x*b-a) b l
 | [v],ht,_=>by
  have hv:v≠0:=(tr_snoc (r:=[])).mp ht
  have e:opp x [v]=[v]:=by
   show bj (ap [] [x,-1]) (trim [v])=[v];have e1:ap [] [x,-1]=[]:=by unfold ap;rw[if_pos (.inl rfl)]
   rw[e1,qd ht];refine gR (dL _) ht λk=>?_
   rw[pQ,bV];omega
  rw[e];exact⟨ht,rfl,λa b=>by show v*b^0+a*0=v*b^0+(x*b-a)*0;simp⟩
 |v::w::l,ht,_=>by
  have ht':Tr (w::l):=λn hn=>ht (n+1) (by rw[P7,hn])
  obtain⟨i1,i2,i3⟩:=oH x (w::l) ht' (by simp);show Tr (bj (ap (opp x (w::l)) [x,-1]) (trim [v]))/\(bj (ap (opp x (w::l)) [x,-1]) (trim [v])).length=(w::l).length+1/\∀a b,lv a b (bj (ap (opp x (w::l)) [x,-1]) (trim [v]))=v*b^(w::l).length+(x*b-a)*lv (x*b-a) b (w::l);generalize hA:w::l=A at *
  have hAl:1<=A.length:=by rw[<- hA,P7];omega
  generalize opp x A=O at *
  have hO:O≠[]:=λz=>by rw[z,QO]at i2;omega
  have hm:ap O [x,-1]=mb (-x) (-1) 0 O:=by have:=rp (a := -x) (b := -1) hO;rw[Q1]at this;exact this
  have hml:(ap O [x,-1]).length=A.length+1:=by rw[hm,iM,i2]
  have hmt:Tr (ap O [x,-1]):=qe i1 ((tr_snoc (r:=[x])).mpr (by decide))
  obtain⟨c,m,hcm⟩:∃c m,ap O [x,-1]=c::m:=by
   cases e:ap O [x,-1]with
   |nil=>rw[e]at hml;simp at hml
   |cons c m=>exact⟨c,m,rfl⟩
  have hmlen:m.length=A.length:=by rw[hcm]at hml;simpa using hml
  have e:bj (ap O [x,-1]) (trim [v])=(c+v)::m:=by
   refine gR (dL _) (λn hn=>?_) λk=>?_
   ·have hn':m.length=n:=by simpa using hn
    obtain⟨n',rfl⟩:∃n',n=n'+1:=⟨n-1,by omega⟩;rw[eT];have:=hmt (n'+1) (by rw[hcm,P7,hn']);rw[hcm,eT]at this;exact this
   ·rw[pQ,cX,hcm];cases k with
    |zero=>rfl
    |succ k=>rw[eT,eT,eT,bV];omega
  rw[e];refine⟨by rw[<- e];exact dL _,by rw[P7,hmlen],λa b=>?_⟩
  have h1:lv a b (ap O [x,-1])=(-1*a - -x*b)*lv a b O:=by rw[hm,xP];simp
  rw[hcm]at h1
  have h2:lv a b ((c+v)::m)=lv a b (c::m)+v*b^m.length:=by show(c+v)*b^m.length+a*lv a b m=c*b^m.length+a*lv a b m+v*b^m.length;grind
  rw[h2,h1,i3,hmlen];grind
noncomputable def cb(x:Int)(l:List Int):List Int:=(List.range l.length).map λi=>cf l i*x^i
theorem AL(a b x:Int){l:List Int}(h:l≠[]):lv a b (cb x l).reverse=lv (x*b) a l:=by
 have hl:(cb x l).length=l.length:=by unfold cb;simp
 have hp:=Qe.mpr h
 have hne:(cb x l).reverse≠[]:=λz=>by have:=List.reverse_eq_nil_iff.mp z;rw[this]at hl;simp at hl;omega
 rw[<- qa a b _ hne,List.reverse_reverse,QK,hl]
 have key:∀j,j<l.length->wj a b (cf (cb x l)) j=lv (x*b) a (l.take (j+1)):=by
  intro j
  induction j with
  |zero =>
   intro hj;show cf (cb x l) 0=_;unfold cb;rw[eU,if_pos hj,Qg]
   have:l.take 1=[cf l 0]:=by rw[List.take_one,cw hj];cases l with
    |nil=>simp at hj
    |cons v l=>rfl
   rw[this];show _=cf l 0*a^0+x*b*0;simp
  |succ j ih =>
   intro hj;show wj a b (cf (cb x l)) j*a+cf (cb x l) (j+1)*b^(j+1)=_;have e:l.take (j+1+1)=l.take (j+1)++[cf l (j+1)]:=by rw[QE,gk hj];rfl
   rw[ih (by omega),e,xO,Qr,RF (by omega)];have e2:cf (cb x l) (j+1)=cf l (j+1)*x^(j+1):=by unfold cb;rw[eU,if_pos hj]
   rw[e2,Int.mul_pow];grind
 have:=key (l.length-1) (by omega);rw[this,RG (by omega)]
theorem xN(a b c:Int):∀k,lv a b (List.replicate k 0++[c])=c*a^k
 |0=>by show c*b^0+a*0=c*a^0;simp
 |k+1=>by rw[Q8];show 0*_+a*lv a b (List.replicate k 0++[c])=_;rw[xN a b c k,Qa];grind
theorem DP(a b x:Int)(k:Nat)(hk:1<=k):lv a b ([x]++List.replicate (k-1) 0++[-1])=x*b^k-a^k:=by show x*b^(List.replicate (k-1) (0:Int)++[-1]).length+a*lv a b (List.replicate (k-1) 0++[-1])=_;rw[xN,PY,Qy];obtain⟨j,rfl⟩:∃j,k=j+1:=⟨k-1,by omega⟩;show x*b^(j+1-1+1)+a*(-1*a^(j+1-1))=_;rw[show j+1-1=j by omega,Qa a];grind
variable {s1 s2:Int}{ones others:List (Int×Int)}
end RM
open PySem.W in
local macro_rules | `(tactic|walk_at "comp_ok")=>`(tactic|exact⟨by with_unfolding_all rfl,by decide +kernel,rfl,by decide +kernel,by repeat' (first |exact List.forall_mem_nil _ |refine QV.2 ⟨rfl,?_⟩),by rfl,by repeat' (first |exact .nil |refine .cons ⟨rfl,by first |exact Or.inl rfl |exact Or.inr rfl,rfl⟩ ?_)⟩)
namespace R51
open PySem L2 RM
noncomputable def top(i:Nat):Stmt:=PySem.Challenge.pw_rootspan_k51_fractions_reckoned.main.body.getD i (.Pass ⟨0,0,0,0⟩)
abbrev mF:Stmt:=top 11
abbrev mE:Stmt:=top 12
abbrev lX:Stmt:=top 13
abbrev fy:Stmt:=gO (top 14) 0
abbrev og:Stmt:=gO (top 14) 1
abbrev oi:Stmt:=gO (top 14) 2
abbrev oa:Stmt:=gO (top 14) 3
abbrev oh:Stmt:=gO (top 14) 4
abbrev oj:Stmt:=gO (top 14) 5
abbrev mQ:Stmt:=top 16
abbrev nF:Stmt:=top 17
abbrev nS:Stmt:=top 18
abbrev mf:Stmt:=top 19
abbrev nJ:Stmt:=top 20
abbrev m6:Stmt:=top 21
abbrev my:Stmt:=top 22
abbrev ma:Stmt:=top 23
abbrev ny:Stmt:=top 24
abbrev jl:Stmt:=top 25
abbrev mS:Stmt:=top 26
abbrev lZ:Stmt:=top 27
abbrev mD:Stmt:=top 28
abbrev nD:Stmt:=top 30
abbrev mH:Stmt:=top 31
abbrev nh:Stmt:=top 32
abbrev mI:Stmt:=top 34
abbrev mJ:Stmt:=top 35
abbrev nK:Stmt:=top 36
abbrev nG:Stmt:=top 37
abbrev nN:Stmt:=top 39
abbrev nM:Stmt:=top 40
abbrev na:Stmt:=top 41
abbrev m4:Stmt:=top 42
abbrev nq:Stmt:=top 43
abbrev mj:Stmt:=top 44
abbrev nr:Stmt:=top 45
abbrev mn:Stmt:=top 46
abbrev m7:Stmt:=top 47
abbrev nQ:Stmt:=top 48
abbrev nC:Stmt:=top 50
abbrev nI:Stmt:=top 51
abbrev mT:Stmt:=top 52
abbrev lW:Stmt:=top 53
abbrev mq:Stmt:=top 55
abbrev mr:Stmt:=top 56
abbrev mv:Stmt:=top 57
abbrev nj:Stmt:=top 59
abbrev nA:Stmt:=top 60
abbrev ni:Stmt:=top 61
abbrev ml:Stmt:=top 62
abbrev ol:Stmt:=gO (top 66) 0
abbrev fv:Stmt:=top 67
abbrev mK:Stmt:=top 68
abbrev mL:Stmt:=top 69
abbrev ng:Stmt:=top 70
abbrev mZ:Stmt:=top 71
abbrev nu:Stmt:=top 72
abbrev m5:Stmt:=top 73
abbrev mx:Stmt:=top 74
abbrev nR:Stmt:=top 75
abbrev nO:Stmt:=top 76
abbrev mC:Stmt:=top 77
abbrev nE:Stmt:=top 79
abbrev nz:Stmt:=top 80
abbrev jm:Stmt:=top 81
abbrev mh:Stmt:=top 83
abbrev mz:Stmt:=top 84
abbrev mi:Stmt:=top 85
abbrev mM:Stmt:=top 86
abbrev mO:Stmt:=top 87
abbrev mW:Stmt:=top 88
abbrev lY:Stmt:=top 89
abbrev me:Stmt:=top 90
abbrev mV:Stmt:=top 92
abbrev nl:Stmt:=top 93
abbrev mX:Stmt:=top 94
abbrev mY:Stmt:=top 95
abbrev mR:Stmt:=top 96
abbrev m8:Stmt:=top 97
abbrev md:Stmt:=top 98
abbrev mU:Stmt:=top 99
abbrev mP:Stmt:=top 100
abbrev nw:Stmt:=top 101
abbrev mG:Stmt:=top 102
abbrev nv:Stmt:=top 104
abbrev n8:Stmt:=top 106
abbrev nU:Stmt:=top 107
abbrev n0:Stmt:=top 108
abbrev n5:Stmt:=top 109
abbrev nV:Stmt:=top 110
abbrev n6:Stmt:=top 111
abbrev nY:Stmt:=top 112
abbrev nW:Stmt:=top 113
abbrev n4:Stmt:=top 114
abbrev nX:Stmt:=top 115
abbrev nZ:Stmt:=top 116
abbrev nk:Stmt:=top 117
theorem scM{N P:List Str}{sc:Scope}(a:sc.kind=.function:=by rfl)(b:sc.isCoroutine=false:=by rfl)(c:sc.isGenerator=false:=by rfl)(e:N.Nodup:=by decide +kernel)(f:N.take P.length=P:=by rfl)(g:∀x∈P,sc.names.lookup x=some .local\/sc.names.lookup x=some .cell:=by decide +kernel)(h:∀y∈sc.names,y.2≠.free:=by decide +kernel):FnScope N P sc:=⟨a,b,c,e,f,g,h⟩
theorem sc_shared:FnScope ["row","divisor","value"] ["row"] (al mF):=scM
theorem sc_shared_by_two:FnScope ["one","other","greater","less","rest"] ["one","other"] (al mE):=scM
theorem B8:FnScope ["value"] ["value"] (al lX):=scM
theorem sc_Ratio___init__:FnScope ["self","top","bottom","divisor"] ["self","top","bottom"] (al fy):=scM
theorem CO:FnScope ["self","other"] ["self","other"] (al og):=scM
theorem CQ:FnScope ["self","other"] ["self","other"] (al oi):=scM
theorem CM:FnScope ["self","other"] ["self","other"] (al oa):=scM
theorem CP:FnScope ["self","other"] ["self","other"] (al oh):=scM
theorem CS:FnScope ["self","other"] ["self","other"] (al oj):=scM
theorem sc_poly:FnScope ["row","length"] ["row"] (al mQ):=scM
theorem Cv:FnScope ["row"] ["row"] (al nF):=scM
theorem sc_added:FnScope ["first","second","length"] ["first","second"] (al nS):=scM
theorem sc_taken:FnScope ["first","second","length"] ["first","second"] (al mf):=scM
theorem Cy:FnScope ["row","place"] ["row","place"] (al nJ):=scM
theorem sc_multiplied:FnScope ["first","second","product","j","one","k","other"] ["first","second"] (al m6):=scM
theorem Ce:FnScope ["row"] ["row"] (al my):=scM
theorem B9:FnScope ["row"] ["row"] (al ma):=scM
theorem Cs:FnScope ["row"] ["row"] (al ny):=scM
theorem sc_shrunk:FnScope ["row","divisor"] ["row"] (al jl):=scM
theorem sc_plain:FnScope ["row","small"] ["row"] (al mS):=scM
theorem sc_value_parts:FnScope ["row","top","bottom","above","below","value"] ["row","top","bottom"] (al lZ):=scM
theorem Cg:FnScope ["row","ratio"] ["row","ratio"] (al mD):=scM
theorem sc_divided:FnScope ["first","second","size","sign","steps","factor","quotient","rest","place","lead"] ["first","second"] (al nD):=scM
theorem Ci:FnScope ["row","factor"] ["row","factor"] (al mH):=scM
theorem sc_lowered:FnScope ["row","second","place","lead","kept","k","value"] ["row","second","place","lead"] (al nh):=scM
theorem Cj:FnScope ["polynomial"] ["polynomial"] (al mI):=scM
theorem sc_row_from:FnScope ["first","second","row","one","other","rest"] ["first","second"] (al mJ):=scM
theorem sc_changes:FnScope ["row","ratio","many","before","polynomial","sign"] ["row","ratio"] (al nK):=scM
theorem Cw:FnScope ["row","low","high"] ["row","low","high"] (al nG):=scM
theorem sc_bound:FnScope ["row","last","greatest","size"] ["row"] (al nN):=scM
theorem CA:FnScope ["row","chain","high","low","waiting","found","cell","many","cut","there"] ["row"] (al nM):=scM
theorem Co:FnScope ["low","high"] ["low","high"] (al na):=scM
theorem sc_narrowed:FnScope ["row","low","high","width","reach","steps","found"] ["row","low","high","width"] (al m4):=scM
theorem sc_halvings:FnScope ["reach","width","wide","goal","steps"] ["reach","width"] (al nq):=scM
theorem sc_stretched:FnScope ["row","low","reach","bottom","start","step","found","power","value"] ["row","low","reach"] (al mj):=scM
theorem sc_halved:FnScope ["row","end","steps","place","pieces","ahead","left","k","there"] ["row","end","steps"] (al nr):=scM
theorem sc_spread:FnScope ["row","found","factor","value"] ["row"] (al mn):=scM
theorem sc_moved:FnScope ["row","found","start","k"] ["row"] (al m7):=scM
theorem CF:FnScope ["low","reach","place","pieces"] ["low","reach","place","pieces"] (al nQ):=scM
theorem Cu:FnScope ["divisor","row"] ["divisor","row"] (al nC):=scM
theorem sc_common:FnScope ["first","second","one","other","rest"] ["first","second"] (al nI):=scM
theorem sc_part:FnScope ["row","divisor","found"] ["row","divisor"] (al mT):=scM
theorem B7:FnScope ["row"] ["row"] (al lW):=scM
theorem Cc:FnScope ["first","second"] ["first","second"] (al mq):=scM
theorem sc_span_product:FnScope ["first","second","least","greatest","found"] ["first","second"] (al mr):=scM
theorem sc_span_power:FnScope ["span","k","found","step"] ["span","k"] (al mv):=scM
theorem sc_least:FnScope ["row","low","high","whole","width","span","line","cell","square"] ["row","low","high"] (al nj):=scM
theorem Ct:FnScope ["whole"] ["whole"] (al nA):=scM
theorem Cq:FnScope ["whole","span","found"] ["whole","span"] (al ni):=scM
theorem Cb:FnScope ["whole","span","other","last","together"] ["whole","span","other"] (al ml):=scM
theorem CT:FnScope ["self","row","low","high"] ["self","row","low","high"] (al ol):=scM
theorem sc_number:FnScope ["row","low","high","start","end","simple","many"] ["row","low","high"] (al fv):=scM
theorem Ck:FnScope ["height"] ["height"] (al mK):=scM
theorem sc_refuse_great:FnScope ["row","limit"] ["row"] (al mL):=scM
theorem Cp:FnScope ["simple","low","high"] ["simple","low","high"] (al ng):=scM
theorem sc_number_in:FnScope ["simple","low","high","row","span","half"] ["simple","low","high"] (al mZ):=scM
theorem Cr:FnScope ["ratio"] ["ratio"] (al nu):=scM
theorem sc_narrow:FnScope ["one","width","span"] ["one","width"] (al m5):=scM
theorem Cd:FnScope ["one","width"] ["one","width"] (al mx):=scM
theorem CG:FnScope ["one","ratio"] ["one","ratio"] (al nR):=scM
theorem CD:FnScope ["one","sign"] ["one","sign"] (al nO):=scM
theorem Cf:FnScope ["one"] ["one"] (al mC):=scM
theorem sc_determinant:FnScope ["rows","left","before","sign","place","head"] ["rows"] (al nE):=scM
theorem sc_first_not_nought:FnScope ["rows","place"] ["rows"] (al nz):=scM
theorem Cz:FnScope ["row","head","before"] ["row","head","before"] (al jm):=scM
theorem Ca:FnScope ["first","second"] ["first","second"] (al mh):=scM
theorem sc_slid:FnScope ["row","many","falling"] ["row","many"] (al mz):=scM
theorem sc_sums:FnScope ["first","second","many"] ["first","second"] (al mi):=scM
theorem sc_products:FnScope ["first","second","many"] ["first","second"] (al mM):=scM
theorem sc_powers:FnScope ["row","k","many"] ["row","k"] (al mO):=scM
theorem sc_opposed:FnScope ["row","x","found","value"] ["row","x"] (al mW):=scM
theorem sc_weighted:FnScope ["row","x","found","power","value"] ["row","x"] (al lY):=scM
theorem sc_through:FnScope ["values","leads","left","found","k"] ["values"] (al me):=scM
theorem sc_opposite:FnScope ["one","row"] ["one"] (al mV):=scM
theorem sc_inverse:FnScope ["one","row","clear"] ["one"] (al nl):=scM
theorem sc_only_root:FnScope ["row","worth"] ["row"] (al mX):=scM
theorem Cm:FnScope ["one","clear"] ["one"] (al mY):=scM
theorem sc_plus:FnScope ["first","second","simple"] ["first","second"] (al mR):=scM
theorem Cn:FnScope ["first","second"] ["first","second"] (al m8):=scM
theorem sc_times:FnScope ["first","second","simple"] ["first","second"] (al md):=scM
theorem Cl:FnScope ["first","second"] ["first","second"] (al mU):=scM
theorem sc_power:FnScope ["one","k","simple"] ["one","k"] (al mP):=scM
theorem sc_found_between:FnScope ["simple","ends","chain","width","span"] ["simple","ends"] (al nw):=scM
theorem Ch:FnScope ["span","width"] ["span","width"] (al mG):=scM
theorem sc_found_beyond:FnScope ["simple","chain","beyond","high","low","cut"] ["simple","chain","beyond"] (al nv):=scM
theorem CL:FnScope ["_law_script","_law_k"] ["_law_script","_law_k"] (al n8):=scM
theorem CH:FnScope ["_law_found"] ["_law_found"] (al nU):=scM
theorem CK:FnScope ["_law_cell"] ["_law_cell"] (al n0):=scM
theorem sc__law_is:FnScope ["_law_found","_law_due_here","_law_one"] ["_law_found","_law_due_here"] (al n5):=scM
theorem sc__law_shared:FnScope ["_law_a","_law_b","_law_rest"] ["_law_a","_law_b"] (al nV):=scM
theorem sc__law_due:FnScope ["_law_top","_law_bottom","_law_divisor"] ["_law_top","_law_bottom"] (al n6):=scM
theorem CI:FnScope ["_law_r"] ["_law_r"] (al nY):=scM
theorem sc__law_right:FnScope ["_law_n","_law_top","_law_bottom","_law_due_here"] ["_law_n","_law_top","_law_bottom"] (al nW):=scM
theorem sc__law_made:FnScope ["_law_top","_law_bottom","_law_cell","_law_wide","_law_low","_law_high"] ["_law_top","_law_bottom","_law_cell"] (al n4):=scM
theorem sc__law_refused:FnScope ["_law_way","_law_n","_law_found","_law_e"] ["_law_way","_law_n"] (al nX):=scM
theorem CJ:FnScope ["_law_a","_law_b","_law_c","_law_e","_law_one","_law_other"] ["_law_a","_law_b","_law_c","_law_e","_law_one","_law_other"] (al nZ):=scM
theorem sc_law:FnScope ["_law_script","_law_a","_law_b","_law_c","_law_e","_law_k","_law_one","_law_other","_law_raised","_law_turn"] ["_law_script"] (al nk):=scM
structure Txt(K:PySem.W.Frag)(mg:Str->Option Value):Prop where
 abs_:mg "abs"=none
 len_:mg "len"=none
 max_:mg "max"=none
 range_:mg "range"=none
 enumerate_:mg "enumerate"=none
 list_:mg "list"=none
 reversed_:mg "reversed"=none
 sum_:mg "sum"=none
 any_:mg "any"=none
 isinstance_:mg "isinstance"=none
 int_:mg "int"=none
 bool_:mg "bool"=none
 ValueError_:mg "ValueError"=none
 HIGHEST_:∃t:Tok,mg "HIGHEST"=some (.int 8 t)
structure EXC(K:PySem.W.Frag)(mg:Str->Option Value)(base:Heap)(CByNought CTooHigh CRootError CBelowNought CTooGreat:Addr):Prop where
 mgByNought:mg "ByNought"=some (.ref CByNought)
 mgTooHigh:mg "TooHigh"=some (.ref CTooHigh)
 mgRootError:mg "RootError"=some (.ref CRootError)
 mgBelowNought:mg "BelowNought"=some (.ref CBelowNought)
 mgTooGreat:mg "TooGreat"=some (.ref CTooGreat)
 ownByNought:PyProof.Rows.OwnCls "ByNought" CByNought [.type "ValueError",.type "Exception",.type "BaseException",.type "object"] "ValueError.__new__" mg base
 clsByNought:ECls K CByNought
 hit_ByNought_RootError:PySem.W.exmOne K (.ref CByNought) (.ref CRootError)=some true
 is_ByNought_ByNought:PySem.W.kitOne K (.ref CByNought) (.ref CByNought)=some true
 is_ByNought_ValueError:PySem.W.kitOne K (.ref CByNought) (.type "ValueError")=some true
 is_ByNought_BelowNought:PySem.W.kitOne K (.ref CByNought) (.ref CBelowNought)=some false
 is_ByNought_TooGreat:PySem.W.kitOne K (.ref CByNought) (.ref CTooGreat)=some false
 is_ByNought_TooHigh:PySem.W.kitOne K (.ref CByNought) (.ref CTooHigh)=some false
section
variable {P:Program}{w:World}{K:PySem.W.Frag}{mg:Str->Option Value}{base:Heap}
theorem jp(n:Nat):(List.replicate n [V.int 0]).flatten=(List.replicate n (0:Int)).map V.int:=by
 induction n with
 |zero=>rfl
 |succ n ih=>rw[Q8,RB,ih,Q8];rfl
theorem sD{n j:Nat}{i:Int}(e:i=j)(h:j<n):ixN n i=some j:=by subst e;unfold ixN;rw[if_pos (Int.natCast_nonneg _),if_pos (by omega)];simp
theorem rF(l:List Int)(j:Nat)(x:Int):(l.map V.int).set j (.int x)=(l.set j x).map V.int:=by rw[List.map_set]
theorem dm{l:List Int}{j:Nat}{i:Int}(e:i=j)(h:j<l.length):atI (l.map V.int) i=some (.int (cf l j)):=by subst e;exact iV (by rw[List.getElem?_map,gk h];rfl)
def SameB(p:Addr)(H H':Hp):Prop:=∀b o,b≠p->H b=some o->H' b=some o
theorem SameB.refl(p:Addr)(H:Hp):SameB p H H:=λ_ _ _ h=>h
theorem SameB.then_new{p q:Addr}{H H1:Hp}{o:HO}(s:SameB p H H1)(h:H1 q=none):SameB p H (upd H1 q o):=λb u n e=>by rw[upd_ne (aD (s b u n e) h)];exact s b u n e
theorem SameB.then_upd{p:Addr}{H H1:Hp}{o:HO}(s:SameB p H H1):SameB p H (upd H1 p o):=λb u n e=>by rw[upd_ne n];exact s b u n e
def AllB(k:Nat)(l:List Int):Prop:=∀x∈l,Bits k x
theorem AllB.cf{k:Nat}{l:List Int}(h:AllB k l)(n:Nat):Bits k (cf l n):=by
 by_cases hn:n<l.length
 ·rw[cw hn];exact h _ (Q9 hn)
 ·rw[bI (QX hn)];exact Bits.zero
theorem gB{H H2:Hp}{p:Addr}{o:HO}(s:Same H H2)(hp:H p=none):Same H (upd H2 p o):=λb u e=>by rw[upd_ne (aD e hp)];exact s b u e
theorem gD(l:List Int)(x:Int):l.map V.int++[V.int x]=(l++[x]).map V.int:=by rw[Qd];rfl
noncomputable def gr(ms:List Int)(lo hi:Option Int):List Int:=(ms.drop (HT.sIx ms.length 0 lo)).take (HT.sIx ms.length ms.length hi-HT.sIx ms.length 0 lo)
theorem tj(ms:List Int)(lo hi:Option Int):dJ (ms.map V.int) lo hi=(gr ms lo hi).map V.int:=by unfold dJ gr;rw[PX,<- List.map_drop,<- List.map_take]
theorem Kv{ms:List Int}{lo hi:Option Int}{x:Int}(h:x∈gr ms lo hi):x∈ms:=Rv (RS h)
theorem AllB.cut{k:Nat}{ms:List Int}{lo hi:Option Int}(h:AllB k ms):AllB k (gr ms lo hi):=λx hx=>h x (Kv hx)
theorem AllB.app{k:Nat}{l r:List Int}(h1:AllB k l)(h2:AllB k r):AllB k (l++r):=λx hx=>(Qk.mp hx).elim (h1 x) (h2 x)
theorem AllB.zeros{k n:Nat}:AllB k (List.replicate n 0):=λx hx=>by rw[List.eq_of_mem_replicate hx];exact Bits.zero
theorem AllB.mono{j k:Nat}{l:List Int}(h:AllB j l)(hk:j<=k:=by decide):AllB k l:=λx hx=>(h x hx).mono hk
theorem AllB.nil{k:Nat}:AllB k []:=λ_ h=>nomatch h
theorem AllB.snoc{k:Nat}{l:List Int}{x:Int}(h:AllB k l)(hx:Bits k x):AllB k (l++[x]):=h.app λy hy=>by rw[Qc.mp hy];exact hx
theorem GD{l:List Int}{x:Int}(h:x∈trim l):x∈l:=by
 unfold trim at h
 rw[Ro]at h;exact Ro.mp ((List.dropWhile_sublist _).subset h)
theorem AllB.trim{k:Nat}{l:List Int}(h:AllB k l):AllB k (trim l):=λx hx=>h x (GD hx)
theorem rG(l r:List Int):l.map V.int++r.map V.int=(l++r).map V.int:=(Qd ..).symm
theorem gj{l:List Int}{i:Nat}{x:V}(h:(l.map V.int)[i]?=some x):∃c,l[i]?=some c/\x=.int c/\c∈l/\l.take (i+1)=l.take i++[c]:=by
 rw[List.getElem?_map]at h;cases e:l[i]? with
 |none=>rw[e]at h;cases h
 |some c=>rw[e]at h;exact⟨c,rfl,(Option.some.inj h).symm,List.mem_of_getElem? e,by rw[QE,e];rfl⟩
def mkL(H:Hp)(Q:VK)(r:List Int):Prop:=∀(p:Addr) (H':Hp),Same H H'->H p=none->H' p=some (.lst (r.map V.int))->Q (.ref p) H'
inductive fX(K:PySem.W.Frag)(vs:List V)(H:Hp)(Q:VK)(E:XK):Prop
 |mk (a:Addr) (ns:List Int):vs=[.ref a]->SqL K H a (ns.map V.int)->mkL H Q (trim ns)->fX K vs H Q E
inductive je(K:PySem.W.Frag)(vs:List V)(H:Hp)(Q:VK)(E:XK):Prop
 |mk (a:Addr) (ns:List Int) (k:Nat):vs=[.ref a,.int k]->SqL K H a (ns.map V.int)->Q (.int (ns.getD k 0)) H->je K vs H Q E
inductive iw(K:PySem.W.Frag)(g:List Int->List Int->List Int)(vs:List V)(H:Hp)(Q:VK)(E:XK):Prop
 |mk (a b:Addr) (xs ys:List Int):vs=[.ref a,.ref b]->SqL K H a (xs.map V.int)->SqL K H b (ys.map V.int)->xs.length<=1000000->ys.length<=1000000->mkL H Q (g xs ys)->iw K g vs H Q E
theorem xC(i j:Nat):(if((j:Nat):Int)>((i:Nat):Int)then((j:Nat):Int)else((i:Nat):Int))=((max i j:Nat):Int):=by split<;>omega
theorem lS{n:Nat}(h:n<=sizeLine) : -(2^62)<=((n:Nat):Int)/\((n:Nat):Int)<2^62:=by have:=sizeLine_eq;omega
def RwH(H:Hp)(ps:List Addr)(xss:List (List Int)):Prop:=ps.length=xss.length/\∀(i:Nat) (p:Addr) (xs:List Int),ps[i]?=some p->xss[i]?=some xs->H p=some (.lst (xs.map V.int))
theorem RwH.nil{H:Hp}:RwH H [] []:=⟨rfl,λi p xs h=>by simp at h⟩
theorem RwH.same{H H':Hp}{ps:List Addr}{xss:List (List Int)}(h:RwH H ps xss)(s:Same H H'):RwH H' ps xss:=⟨h.1,λi p xs a b=>s _ _ (h.2 i p xs a b)⟩
theorem RwH.snoc{H:Hp}{ps:List Addr}{xss:List (List Int)}{p:Addr}{xs:List Int}(h:RwH H ps xss)(hp:H p=some (.lst (xs.map V.int))):RwH H (ps++[p]) (xss++[xs]):=by
 refine⟨by rw[PY,PY,h.1];rfl,λi q ys a b=>?_⟩;by_cases hi:i<ps.length
 ·rw[List.getElem?_append_left hi]at a;rw[List.getElem?_append_left (by rw[<- h.1];exact hi)]at b;exact h.2 i q ys a b
 ·rw[List.getElem?_append_right (by omega)]at a;rw[List.getElem?_append_right (by rw[<- h.1];omega),<- h.1]at b;by_cases h0:i-ps.length=0
  ·rw[h0]at a b;obtain rfl:p=q:=by simpa using a
   obtain rfl:xs=ys:=by simpa using b
   exact hp
  ·rw[List.getElem?_eq_none_iff.mpr (by simp;omega)]at a;cases a
theorem RwH.get{H:Hp}{ps:List Addr}{xss:List (List Int)}{i:Nat}(h:RwH H ps xss)(hi:i<xss.length):∃p,ps[i]?=some p/\H p=some (.lst ((xss.getD i []).map V.int)):=by
 have hi':i<ps.length:=by rw[h.1];exact hi
 refine⟨ps[i],List.getElem?_eq_getElem hi',h.2 i _ _ (List.getElem?_eq_getElem hi') ?_⟩;rw[List.getElem?_eq_getElem hi];simp[List.getD,hi]
theorem RwH.of_get{H:Hp}{ps:List Addr}{xss:List (List Int)}{i:Nat}{x:V}(h:RwH H ps xss)(hx:(ps.map V.ref)[i]?=some x):∃p xs,x=.ref p/\ps[i]?=some p/\xss[i]?=some xs/\H p=some (.lst (xs.map V.int))/\i<xss.length:=by
 rw[List.getElem?_map]at hx;cases e:ps[i]? with
 |none=>rw[e]at hx;cases hx
 |some p =>
  rw[e]at hx;have hi:i<ps.length:=(List.getElem?_eq_some_iff.mp e).1;have hi':i<xss.length:=by rw[<- h.1];exact hi
  exact⟨p,xss[i],(Option.some.inj hx).symm,rfl,List.getElem?_eq_getElem hi',h.2 i p _ e (List.getElem?_eq_getElem hi'),hi'⟩
theorem RwH.erase{H:Hp}{ps:List Addr}{xss:List (List Int)}(h:RwH H ps xss)(k:Nat):RwH H (ps.take k++ps.drop (k+1)) (xss.take k++xss.drop (k+1)):=by
 have hl:=h.1;refine⟨by simp[hl],λi q ys a b=>?_⟩;by_cases hi:i<(ps.take k).length
 ·have hi2:i<(xss.take k).length:=by rw[Qr]at *;omega
  rw[List.getElem?_append_left hi,List.getElem?_take]at a;rw[List.getElem?_append_left hi2,List.getElem?_take]at b;have hk:i<k:=by rw[Qr]at hi;omega
  rw[if_pos hk]at a b;exact h.2 i q ys a b
 ·have hi2:(xss.take k).length<=i:=by rw[Qr]at *;omega
  rw[List.getElem?_append_right (by omega),List.getElem?_drop]at a;rw[List.getElem?_append_right hi2,List.getElem?_drop]at b;have e:(ps.take k).length=(xss.take k).length:=by rw[Qr,Qr,hl]
  rw[e]at a;exact h.2 _ q ys a b
theorem ph(ps:List Addr)(p:Addr):ps.map V.ref++[V.ref p]=(ps++[p]).map V.ref:=by rw[Qd];rfl
theorem Ks(ps:List Addr)(k:Nat):dJ (ps.map V.ref) none (some (k:Int))=(ps.take k).map V.ref:=by
 unfold dJ;rw[HT.sIx_none,HT.sIx_nat,Rc,QU,PX,List.map_take];by_cases h:k<=ps.length
 ·rw[RF h]
 ·rw[Nat.min_eq_right (by omega),RG (by simp),RG (by simp;omega)]
theorem Ku(ps:List Addr)(k:Nat):dJ (ps.map V.ref) (some (k:Int)) none=(ps.drop k).map V.ref:=by
 unfold dJ;rw[HT.sIx_none,HT.sIx_nat,PX];by_cases h:k<=ps.length
 ·rw[RF h,<- List.map_drop,RG (by simp)]
 ·rw[Nat.min_eq_right (by omega),QQ,List.take_zero,List.drop_of_length_le (by omega)];rfl
theorem Dp{i:Nat}{v:V}{σ:St}{H:Hp}{Q:St->Hp->Prop}(h:Q (σ.set i (some v)) H):cS i v σ H Q:=h
inductive sp2(vs:List V)(H:Hp)(Q:VK)(E:XK):Prop
 |mk (a b:Int):vs=[.int a,.int b]->Q (.int (Nat.gcd a.natAbs b.natAbs:Nat)) H->sp2 vs H Q E
theorem iW(i:Int):(if i<0 then -i else i)=(i.natAbs:Int):=by split<;>omega
theorem EF(F:Fun K "shared_by_two" "shared_by_two" mE f fd)(T:Txt K mg):FnOk P w K mg base CX0 1 f fd ["one","other"] sp2:=by
 refine F.ok sc_shared_by_two (λvs H Q E h=>?_) (λcdv A outer s H vs Q E hr h=>?_)
 ·obtain⟨a,b,rfl,_⟩:=h;rfl
 ·obtain⟨a,b,rfl,k⟩:=h
  refine⟨_,(af (aj (i:=2) sc_shared_by_two.nd rfl (Or.inl rfl) (aI fO (by rfl) T.abs_ PyProof.Rows.boot_abs (aa (pv 0) ac)))
   (af (aj (i:=3) sc_shared_by_two.nd rfl (Or.inl rfl) (aI fO (by rfl) T.abs_ PyProof.Rows.boot_abs (aa (pv 1) ac)))
   (af (c9 PassesOwn.never (ax gb (pv 3) ae (aw _))
     (af (aj (i:=4) sc_shared_by_two.nd rfl (Or.inl rfl) (ai eE (pv 2) (pv 3)))
       (af (aj (i:=2) sc_shared_by_two.nd rfl (Or.inl rfl) (pv 3))
       (ah (aj (i:=3) sc_shared_by_two.nd rfl (Or.inl rfl) (pv 4))))))
   (ah (am (pv 2)))))),?_⟩
  refine⟨_,rfl,_,rfl,?_⟩;refine⟨_,rfl,_,rfl,?_⟩;refine⟨λm σ' H'=>∃(x y:Int) (z:Option V),σ'=[some (.int a),some (.int b),some (.int x),some (.int y),z]/\H=H'/\0<=x/\0<=y/\y.natAbs=m/\Nat.gcd x.natAbs y.natAbs=Nat.gcd a.natAbs b.natAbs,⟨_,_,_,none,rfl,rfl,?_,?_,rfl,?_⟩,?_⟩
  ·rw[iW];exact Int.natCast_nonneg _
  ·rw[iW];exact Int.natCast_nonneg _
  ·rw[iW,iW,QH,QH]
  ·rintro m σ' H' ⟨x,y,z,rfl,rfl,hx,hy,rfl,hg⟩;refine⟨_,rfl,_,_,rfl,rfl,_,rfl,?_⟩;refine cO (λhn=>?_) (λh0=>?_)
   ·have hp:0<y:=by have:y≠0:=hn;omega
    refine⟨λσ'' H''=>∃m',m'<y.natAbs/\∃(x' y':Int) (z:Option V),σ''=[some (.int a),some (.int b),some (.int x'),some (.int y'),z]/\H=H''/\0<=x'/\0<=y'/\y'.natAbs=m'/\Nat.gcd x'.natAbs y'.natAbs=Nat.gcd a.natAbs b.natAbs,λ_ _ h=>h,?_⟩;refine⟨_,rfl,_,rfl,_,_,rfl,rfl,hp,?_⟩;refine⟨_,rfl,?_⟩;refine⟨_,rfl,?_⟩;have h1:=Int.emod_nonneg x (P9 hp);have h2:=Int.emod_lt_of_pos x hp;exact⟨(x%y).natAbs,by omega,y,x%y,_,rfl,rfl,hy,h1,rfl,by rw[Jj hx hp];exact hg⟩
   ·refine⟨_,rfl,?_⟩;have e:(y:Int)=0:=h0;subst e
    have e2:(x:Int)=((Nat.gcd a.natAbs b.natAbs:Nat):Int):=by rw[<- hg];show x=((Nat.gcd x.natAbs 0:Nat):Int);rw[Nat.gcd_zero_right];omega
    rw[e2];exact k
inductive qr(K:PySem.W.Frag)(vs:List V)(H:Hp)(Q:VK)(E:XK):Prop
 |mk (a:Addr) (ns:List Int):vs=[.ref a]->SqL K H a (ns.map V.int)->Q (.int (aE ns:Nat)) H->qr K vs H Q E
theorem EG(F:Fun K "shared" "shared" mF f fd)(T:Txt K mg)(uy:Cal P w K mg base 1 "shared_by_two" ["one","other"] sp2 JY JG):FnOk P w K mg base CX0 2 f fd ["row"] (qr K):=by
 obtain⟨uc,rM,sq,tL⟩:=uy;refine F.ok sc_shared (λvs H Q E h=>?_) (λcdv A outer s H vs Q E hr h=>?_)
 ·obtain⟨a,ns,rfl,_⟩:=h;rfl
 ·obtain⟨a,ns,rfl,hS,k⟩:=h
  refine⟨_,(af (aj (i:=1) sc_shared.nd rfl (Or.inl rfl) ae)
   (af (cg PassesOwn.never rfl (dE (K:=K) rfl (pv 0)) (aJ (i:=2) sc_shared.nd rfl (Or.inl rfl))
     (ah (aj (i:=1) sc_shared.nd rfl (Or.inl rfl) (ag uc (hr.mono) rfl rM sq tL .nil ad (aa (pv 1) (aa (pv 2) ac))))))
   (ah (am (pv 1))))),?_⟩
  refine⟨_,rfl,a,rfl,⟨_,hS⟩,pC (K:=K) (a:=a) (xs:=ns.map V.int) (λi σ' H'=>∃z:Option V,σ'=[some (.ref a),some (.int (aE (ns.take i):Nat)),z]/\H=H') ⟨none,rfl,rfl⟩ (λi σ' H' _ ⟨z,_,e⟩=>by rw[<- e];exact hS) ?_ ?_⟩
  ·rintro i y σ' H' hi ⟨z,rfl,rfl⟩;rw[List.getElem?_map]at hi;cases e:ns[i]? with
   |none=>rw[e]at hi;cases hi
   |some n =>
    rw[e]at hi;obtain rfl:=Option.some.inj hi;refine⟨_,rfl,_,rfl,_,_,rfl,?_⟩;have e3:ns.take (i+1)=ns.take i++[n]:=by rw[QE,e];rfl
    refine⟨some (.int n),?_,rfl⟩;rw[e3,Jl,QH];rfl
  ·rintro σ' H' ⟨z,rfl,rfl⟩;refine⟨_,rfl,?_⟩;rw[PX,QZ];exact k
noncomputable def fK(t b:Int):List (Str×V):=b8 "bottom" (.int b) (b8 "top" (.int t) [])
theorem Bk:¬(("top":Str)="bottom"):=by decide +kernel
theorem bG(t b:Int):(fK t b).lookup ("bottom":Str)=some (.int b):=by unfold fK;rw[db,if_pos rfl]
theorem cC(t b:Int):(fK t b).lookup ("top":Str)=some (.int t):=by unfold fK;rw[db,if_neg Bk,db,if_pos rfl]
theorem cK(t b:Int){m:Str}(h1:¬m="bottom")(h2:¬m="top"):(fK t b).lookup m=none:=by unfold fK;rw[db,if_neg h1,db,if_neg h2];rfl
structure RCI(K:PySem.W.Frag)(mg:Str->Option Value)(C:Addr):Prop where
 cl:Cls K C
 nT:NoAttr K C "top"
 nB:NoAttr K C "bottom"
 mg:mg "Ratio"=some (.ref C)
 ha:PySem.W.findIn K (.ref C) "__class__"=some (some (.builtin "object.__class__"))
 hn:PySem.W.specialIn K (.builtin "object.__class__") "__get__"=some (some (.builtin "getset_descriptor.__get__"))
 ht:PySem.W.takesIn K (.builtin "object.__class__")=some true
 hm:PySem.W.mroIn K C (.type "object")=some true
def RA(C:Addr)(H:Hp)(p:Addr)(t b:Int):Prop:=∃dx,H p=some (.ins C dx (fK t b))
theorem RA.same{C:Addr}{H H':Hp}{p:Addr}{t b:Int}(h:RA C H p t b)(s:Same H H'):RA C H' p t b:=let⟨dx,e⟩:=h;⟨dx,s _ _ e⟩
def mkR(C:Addr)(H:Hp)(Q:VK)(t b:Int):Prop:=∀(x:Addr) (H':Hp),Same H H'->H x=none->RA C H' x (rt t b) (rb t b)->Q (.ref x) H'
inductive cy(C:Addr)(vs:List V)(H:Hp)(Q:VK)(E:XK):Prop
 |mk (p dx:Addr) (t b:Int):vs=[.ref p,.int t,.int b]->H p=some (.ins C dx [])->b≠0->Bits 9000 b->Q .non (upd H p (.ins C dx (fK (rt t b) (rb t b))))->cy C vs H Q E
theorem cI{C:Addr}{H1:Hp}{q:Addr->Hp->Prop}{E:XK}{t b:Int}(hb:b≠0)(bb:Bits 9000 b)(h:∀(x:Addr) (H':Hp),Same H1 H'->H1 x=none->RA C H' x (rt t b) (rb t b)->q x H'):∀x dx:Addr,H1 x=none->H1 dx=none->dx≠x->cy C (.ref x::([.int t,.int b]++[])) (upd (upd H1 dx (.own x)) x (.ins C dx [])) (λv H2=>v=.non/\q x H2) E:=λx dx nx ndx ne=>by
 refine⟨x,dx,t,b,rfl,ak,hb,bb,rfl,?_⟩;rw[lA]
 have s0:Same H1 (upd (upd H1 dx (.own x)) x (.ins C dx (fK (rt t b) (rb t b)))):=λc o e=>by rw[upd_ne (aD e nx),upd_ne (aD e ndx)];exact e
 exact h x _ s0 nx ⟨dx,ak⟩
theorem za{t b:Int}(hb:b≠0)(bb:Bits 9000 b):Bits 9000 (dv t b):=bb.of_le (by rw[gq];exact Nat.le_of_dvd (RC.mpr hb) (QT _ _))
theorem FU(F:FunD K "__init__" "Ratio.__init__" fy dV f fd)(T:Txt K mg)(R:RCI K mg C)(uy:Cal P w K mg base 1 "shared_by_two" ["one","other"] sp2 JY JG):FnOk P w K mg base CX0 2 f fd ["self","top","bottom"] (cy C):=by
 obtain⟨uc,rM,sq,tL⟩:=uy;refine F.ok sc_Ratio___init__ (λvs H Q E h=>?_) (λcdv A outer s H vs Q E hr h=>?_)
 ·obtain⟨p,dx,t,b,rfl,_⟩:=h;rfl
 ·obtain⟨p,dx,t,b,rfl,hp,hb,bb,k⟩:=h
  refine⟨_,(af (aB (ax cj (pv 2) ae (aw _))
   (ah gy)
   aC)
   (af (aj (i:=3) sc_Ratio___init__.nd rfl (Or.inl rfl) (ag uc (hr.mono) rfl rM sq tL .nil ad (aa (pv 1) (aa (pv 2) ac))))
   (af (aB (ax dF (pv 2) ae (aw _))
     (ah (aj (i:=3) sc_Ratio___init__.nd rfl (Or.inl rfl) (aU aT (pv 3))))
     aC)
   (af (jx (pv 0) (ai oN (pv 1) (pv 3)) rfl)
   (ah (jx (pv 0) (ai oN (pv 2) (pv 3)) rfl)))))),?_⟩
  refine aS ⟨_,rfl,_,_,rfl,rfl,_,rfl,aG (λh=>absurd h hb) (λ_=>?_)⟩;refine ao ⟨_,rfl,_,rfl,t,b,rfl,?_⟩;refine iB (λσ' H'=>H=H'/\σ'=[some (.ref p),some (.int t),some (.int b),some (.int (dv t b))]) ?_ ?_
  ·rintro σ' H' ⟨rfl,rfl⟩;refine⟨_,rfl,_,rfl,_,_,rfl,rfl,⟨gS hb,za hb bb⟩,_,rfl,p,C,dx,_,rfl,hp,R.cl,R.nT,by show 0<1000;decide,?_⟩;refine⟨_,rfl,_,rfl,_,_,rfl,rfl,⟨gS hb,za hb bb⟩,_,rfl,p,C,dx,_,rfl,ak,R.cl,R.nB,by show 1<1000;decide,?_⟩;show Q .non (upd (upd H p _) p _);rw[lA];exact k
  ·intro rest;refine⟨_,rfl,_,_,rfl,rfl,_,rfl,?_⟩;refine aG (λh=>?_) (λh=>?_)
   ·refine⟨_,rfl,_,rfl,rest _ _ ⟨rfl,?_⟩⟩;have e:dv t b = -((Nat.gcd t.natAbs b.natAbs:Nat):Int):=by unfold dv;rw[if_pos h]
    rw[e];rfl
   ·refine rest _ _ ⟨rfl,?_⟩;have e:dv t b=((Nat.gcd t.natAbs b.natAbs:Nat):Int):=by unfold dv;rw[if_neg h]
    rw[e];rfl
inductive jb(vs:List V)(H:Hp)(Q:VK)(E:XK):Prop
 |mk (x:Int):vs=[.int x]->Q (.int (sg x)) H->jb vs H Q E
theorem Ei(F:Fun K "whole_sign" "whole_sign" lX f fd)(T:Txt K mg):FnOk P w K mg base CX0 1 f fd ["value"] jb:=by
 refine F.ok B8 (λvs H Q E h=>?_) (λcdv A outer s H vs Q E hr h=>?_)
 ·obtain⟨x,rfl,_⟩:=h;rfl
 ·obtain⟨x,rfl,k⟩:=h
  refine⟨_,(af (aB (ax dF (pv 0) ae (aw _))
   (ah (am (aU aT ae)))
   aC)
   (af (aB (ax fB (pv 0) ae (aw _))
     (ah (am ae))
     aC)
   (ah (am ae)))),?_⟩
  refine aS ⟨_,rfl,_,_,rfl,rfl,_,rfl,aG (λh=>?_) (λh=>?_)⟩
  ·have e:sg x = -1:=by unfold sg;rw[if_pos h]
   rw[e]at k;exact⟨_,rfl,k⟩
  refine aS ⟨_,rfl,_,_,rfl,rfl,_,rfl,aG (λh'=>?_) (λh'=>?_)⟩
  ·have e:sg x=1:=by unfold sg;rw[if_neg h,if_pos h']
   rw[e]at k;exact k
  ·have e:sg x=0:=by unfold sg;rw[if_neg h,if_neg h']
   rw[e]at k;exact k
inductive lR(C:Addr)(vs:List V)(H:Hp)(Q:VK)(E:XK):Prop
 |mk (p q:Addr) (t b u d:Int):vs=[.ref p,.ref q]->RA C H p t b->RA C H q u d->Bits 100000 t->Bits 100000 b->Bits 100000 u->Bits 100000 d->Q (.int (sg (t*d-u*b))) H->lR C vs H Q E
theorem FT(F:Fun K "against" "Ratio.against" oj f fd)(T:Txt K mg)(R:RCI K mg C)(ic:Cal P w K mg base 1 "whole_sign" ["value"] jb sU sO):FnOk P w K mg base CX0 2 f fd ["self","other"] (lR C):=by
 obtain⟨hU,gF,gK,gZ⟩:=ic;refine F.ok CS (λvs H Q E h=>?_) (λcdv A outer s H vs Q E hr h=>?_)
 ·obtain⟨p,q,t,b,u,d,rfl,_⟩:=h;rfl
 ·obtain⟨p,q,t,b,u,d,rfl,⟨dx,hp⟩,⟨dy,hq⟩,bt,bb,bu,bd,k⟩:=h;refine⟨_,(ah (am (ag hU (hr.mono) rfl gF gK gZ .nil ad (aa (ai bA (ai av (aq (K:=K) rfl (pv 0) rfl) (aq (K:=K) rfl (pv 1) rfl)) (ai av (aq (K:=K) rfl (pv 1) rfl) (aq (K:=K) rfl (pv 0) rfl))) ac)))),?_⟩;refine⟨_,rfl,p,C,dx,_,_,rfl,hp,R.cl,R.nT,cC _ _,_,rfl,q,C,dy,_,_,rfl,hq,R.cl,R.nB,bG _ _,_,_,rfl,rfl,⟨bt.mono,bd.mono⟩,?_⟩;exact⟨_,rfl,q,C,dy,_,_,rfl,hq,R.cl,R.nT,cC _ _,_,rfl,p,C,dx,_,_,rfl,hp,R.cl,R.nB,bG _ _,_,_,rfl,rfl,⟨bu.mono,bb.mono⟩,_,_,rfl,rfl,_,rfl,k⟩
theorem ER(F:Fun K "poly" "poly" mQ f fd)(T:Txt K mg):FnOk P w K mg base CX0 1 f fd ["row"] (fX K):=by
 refine F.ok sc_poly (λvs H Q E h=>?_) (λcdv A outer s H vs Q E hr h=>?_)
 ·obtain⟨a,ns,rfl,_⟩:=h;rfl
 ·obtain⟨a,ns,rfl,hS,k⟩:=h
  refine⟨_,(af (aj (i:=1) sc_poly.nd rfl (Or.inl rfl) (aI (cn (K:=K) rfl) (by rfl) T.len_ PySem.boot_len (aa (pv 0) ac)))
   (af (c9 PassesOwn.never (PW.pt (jw (ax fB (pv 1) ae (aw _)) (jv (ax cj (ar (aO (K:=K) rfl) (pv 0) (ai bA (pv 1) ae) (λ_ _=>rfl)) ae (aw _)))))
     (ah (aj (i:=1) sc_poly.nd rfl (Or.inl rfl) (ai bA (pv 1) ae))))
   (ah (am (iG (ix (K:=K) rfl) (pv 0) iF (iE (pv 1))))))),?_⟩
  refine⟨_,rfl,a,_,rfl,.inl hS,?_⟩;refine⟨λm σ' H'=>∃n:Nat,n<=ns.length/\σ'=[some (.ref a),some (.int n)]/\H=H'/\n=m/\trim (ns.take n)=trim ns,⟨_,ns.length,PZ _,?_,rfl,rfl,?_⟩,?_⟩
  ·rw[PX];rfl
  ·rw[QZ]
  ·rintro m σ' H' ⟨n,hn,rfl,rfl,rfl,ht⟩
   have fin:trim (ns.take n)=ns.take n->∃v,([some (V.ref a),some (V.int n)]:St)[0]?=some (some v)/\∃v_1,([some (V.ref a),some (V.int n)]:St)[1]?=some (some v_1)/\∃i,v_1=V.int i/\qR K v none (some i) H Q:=λh=>by
    refine⟨_,rfl,_,rfl,n,rfl,a,_,rfl,hS,λp hp=>k p _ (Same.upd_new hp) hp ?_⟩;rw[ak,<- ht,h]
    have e:dJ (ns.map V.int) none (some (n:Int))=(ns.take n).map V.int:=by unfold dJ;rw[HT.sIx_none,HT.sIx_nat,Rc,QU,PX,RF hn,List.map_take]
    rw[e]
   refine⟨_,rfl,_,_,rfl,rfl,_,rfl,?_⟩;refine aG (λhp=>?_) (λhp=>?_)
   ·obtain⟨j,rfl⟩:∃j,n=j+1:=⟨n-1,by have:(0:Int)<n:=hp;omega⟩;have hj:j<ns.length:=hn;refine⟨_,rfl,_,rfl,_,_,rfl,rfl,a,_,j,.int (cf ns j),rfl,?_,hS,iV ?_,_,_,rfl,rfl,_,rfl,?_⟩
    ·show V.int (((j+1:Nat):Int)-1)=V.int j
     congr 1;omega
    ·rw[List.getElem?_map,gk hj];rfl
    refine aG (λh0=>?_) (λh0=>?_)
    ·refine⟨λσ'' H''=>∃m',m'<j+1/\∃n:Nat,n<=ns.length/\σ''=[some (.ref a),some (.int n)]/\H=H''/\n=m'/\trim (ns.take n)=trim ns,λ_ _ h=>h,?_⟩;refine⟨_,rfl,_,_,rfl,rfl,j,QP _,j,QW hj,?_,rfl,rfl,?_⟩
     ·show[some (V.ref a),some (V.int (((j+1:Nat):Int)-1))]=[some (V.ref a),some (V.int j)]
      congr 4;omega
     ·rw[<- ht,A8 hj h0]
    ·exact fin (A9 hj h0)
   ·obtain rfl:n=0:=by have:¬(0:Int)<n:=hp;omega
    exact fin (by rw[List.take_zero];rfl)
inductive c7(vs:List V)(H:Hp)(Q:VK)(E:XK):Prop
 |mk (a:Addr) (xs:List V):vs=[.ref a]->H a=some (.lst xs)->Q (.int ((xs.length:Int)-1)) H->c7 vs H Q E
theorem Fq(F:Fun K "degree" "degree" nF f fd)(T:Txt K mg):FnOk P w K mg base CX0 1 f fd ["row"] c7:=by
 refine F.ok Cv (λvs H Q E h=>?_) (λcdv A outer s H vs Q E hr h=>?_)
 ·obtain⟨a,xs,rfl,_⟩:=h;rfl
 ·obtain⟨a,xs,rfl,hA,k⟩:=h;refine⟨_,(ah (am (ai bA (aI (cn (K:=K) rfl) (by rfl) T.len_ PySem.boot_len (aa (pv 0) ac)) ae))),?_⟩;exact⟨_,rfl,a,_,rfl,.inl (SqL.of hA),_,_,rfl,rfl,k⟩
theorem Fu(F:Fun K "coefficient" "coefficient" nJ f fd)(T:Txt K mg):FnOk P w K mg base CX0 1 f fd ["row","place"] (je K):=by
 refine F.ok Cy (λvs H Q E h=>?_) (λcdv A outer s H vs Q E hr h=>?_)
 ·obtain⟨a,ns,k,rfl,_⟩:=h;rfl
 ·obtain⟨a,ns,n,rfl,hS,k⟩:=h
  refine⟨_,(af (aB (ax dF (pv 1) (aI (cn (K:=K) rfl) (by rfl) T.len_ PySem.boot_len (aa (pv 0) ac)) (aw _))
   (ah (am (ar (aO (K:=K) rfl) (pv 0) (pv 1) (λ_ _=>rfl))))
   aC)
   (ah (am ae))),?_⟩
  refine⟨_,rfl,_,rfl,a,_,rfl,.inl hS,_,_,rfl,rfl,_,rfl,?_⟩;refine aG (λh1=>?_) (λh1=>?_)
  ·rw[PX]at h1;have h2:n<ns.length:=by omega
   refine⟨_,rfl,_,rfl,a,_,_,_,rfl,rfl,hS,iV (v:=.int (ns.getD n 0)) ?_,k⟩;rw[List.getElem?_map,List.getElem?_eq_getElem h2];simp[List.getD,h2]
  ·rw[PX]at h1;have h2:ns.length<=n:=by omega
   have e:ns.getD n 0=0:=by simp[List.getD,List.getElem?_eq_none_iff.mpr h2]
   rw[e]at k;exact k
theorem Eo(F:Fun K "taken" "taken" mf f fd)(T:Txt K mg)(dz:Cal P w K mg base 1 "poly" ["row"] (fX K) iT iS)(uH:Cal P w K mg base 1 "coefficient" ["row","place"] (je K) J7 JP):FnOk P w K mg base CX0 2 f fd ["first","second"] (iw K ip):=by
 obtain⟨dq,da,de,dk⟩:=dz;obtain⟨kZ,jT,j6,kK⟩:=uH;refine F.ok sc_taken (λvs H Q E h=>?_) (λcdv A outer s H vs Q E hr h=>?_)
 ·obtain⟨a,b,xs,ys,rfl,_⟩:=h;rfl
 ·obtain⟨a,b,xs,ys,rfl,hA,hB,hx,hy,k⟩:=h
  refine⟨_,(af (aj (i:=2) sc_taken.nd rfl (Or.inl rfl) (aI (zC rfl) (by rfl) T.max_ PyProof.Rows.boot_max (aa (aI (cn (K:=K) rfl) (by rfl) T.len_ PySem.boot_len (aa (pv 0) ac)) (aa (aI (cn (K:=K) rfl) (by rfl) T.len_ PySem.boot_len (aa (pv 1) ac)) ac))))
   (ah (am (ag dq (hr.mono) rfl da de dk .nil ad (aa (cQ (own:=["k"]) (fr:=["first","second"]) (js:=[0,1]) (by walk_at "comp_ok") rfl (dO rfl T.range_ (aa (pv 2) ac)) (λ_ _ _ _=>(aJ (i:=0) (show List.Nodup (["k","first","second"]:List Str)from by decide +kernel) rfl (Or.inl rfl))) (λ_ _ _ _=>(ai bA (ag kZ (hr.mono) rfl jT j6 kK .nil ad (aa (pv 1) (aa (pv 0) ac))) (ag kZ (hr.mono) rfl jT j6 kK .nil ad (aa (pv 2) (aa (pv 0) ac)))))) ac))))),?_⟩
  refine⟨_,rfl,a,_,rfl,.inl hA,_,rfl,b,_,rfl,.inl hB,_,_,rfl,?_⟩;rw[xC,PX,PX];have hz:max xs.length ys.length<=sizeLine:=by have:=sizeLine_eq;omega
  refine⟨_,rfl,_,rfl,(lS hz).1,(lS hz).2,fM (lo:=0) (n:=max xs.length ys.length) (λi zs σ' H'=>∃z:Option V,σ'=[z,some (.ref a),some (.ref b)]/\zs=((List.range i).map λk=>V.int (cf xs k-cf ys k))/\H=H') hz ⟨none,rfl,rfl,rfl⟩ ?_ ?_ ?_⟩
  ·rintro i zs σ' H' _ ⟨z,rfl,rfl,rfl⟩;simp
  ·rintro i zs σ' H' hi ⟨z,rfl,rfl,rfl⟩;refine⟨_,rfl,_,rfl,a,xs,i,?_,hA,_,rfl,_,rfl,b,ys,i,?_,hB,_,_,rfl,rfl,_,rfl,?_,rfl⟩
   ·show[V.ref a,V.int (0+(i:Int))]=_;rw[QR]
   ·show[V.ref b,V.int (0+(i:Int))]=_;rw[QR]
   ·rw[Q2,Qd];rfl
  ·rintro zs σ' H' p ⟨z,rfl,rfl,rfl⟩ hp;refine⟨p,(List.range (max xs.length ys.length)).map λk=>cf xs k-cf ys k,rfl,SqL.of ?_,?_⟩
   ·rw[ak,Qp];rfl
   ·intro p' H' sm hp' e;refine k p' H' ((Same.upd_new hp).trans sm) ((Same.upd_new hp).free hp') ?_;rw[e,BH]
inductive sp1(g:List Int->List Int)(vs:List V)(H:Hp)(Q:VK)(E:XK):Prop
 |mk (a:Addr) (ns:List Int):vs=[.ref a]->H a=some (.lst (ns.map V.int))->ns.length<=100000->AllB 100000 ns->mkL H Q (g ns)->sp1 g vs H Q E
theorem Gj{k:Nat}{n:Nat}(h:n<2^k):Bits k (n:Int):=by show((n:Int)).natAbs<2^k;rw[QH];exact h
theorem BP{n:Nat}(h:n<=1000000):Bits 1000000 (n:Int):=(Gj (k:=20) (Ri h (by decide))).mono
theorem qQ(f:Nat->V)(i:Nat):(List.range i).map f++[f i]=(List.range (i+1)).map f:=by rw[Q2,Qd];rfl
theorem EA(F:Fun K "slope" "slope" my f fd)(T:Txt K mg):FnOk P w K mg base CX0 1 f fd ["row"] (sp1 slopeL):=by
 refine F.ok Ce (λvs H Q E h=>?_) (λcdv A outer s H vs Q E hr h=>?_)
 ·obtain⟨a,ns,rfl,_⟩:=h;rfl
 ·obtain⟨a,ns,rfl,hA,hn,hb,k⟩:=h;have big:=sizeLine_eq;refine⟨_,(ah (am (cQ (own:=["k"]) (fr:=["row"]) (js:=[0]) (by walk_at "comp_ok") rfl (wR rfl T.range_ (aa ae (aa (aI (cn (K:=K) rfl) (by rfl) T.len_ PySem.boot_len (aa (pv 0) ac)) ac))) (λ_ _ _ _=>(aJ (i:=0) (show List.Nodup (["k","row"]:List Str)from by decide +kernel) rfl (Or.inl rfl))) (λ_ _ _ _=>(ai av (pv 0) (ar (aO (K:=K) rfl) (pv 1) (pv 0) (λ_ _=>rfl))))))),?_⟩;have hl:(ns.map V.int).length=ns.length:=PX _;refine aA ⟨_,rfl,a,_,rfl,.inl (SqL.of hA),1,_,rfl,⟨by decide,by decide,by rw[hl];omega,by rw[hl];omega⟩,fM (lo:=1) (λi ys σ' H'=>∃z:Option V,σ'=[z,some (.ref a)]/\ys=((List.range i).map λ(j:Nat)=>V.int (((j:Int)+1)*cf ns (j+1)))/\H=H') (by rw[hl];omega) ⟨none,rfl,rfl,rfl⟩ ?_ ?_ ?_⟩
  ·rintro i ys σ' H' _ ⟨z,rfl,rfl,rfl⟩;simp
  ·rintro i ys σ' H' hi ⟨z,rfl,rfl,rfl⟩;rw[hl]at hi;have hi':i+1<ns.length:=by omega
   have e0:(1:Int)+(i:Int)=((i+1:Nat):Int):=by omega
   refine⟨_,rfl,_,rfl,_,rfl,a,_,_,_,rfl,rfl,SqL.of hA,dm e0 hi',_,_,rfl,rfl,⟨by rw[e0];exact BP (by omega),(hb.cf _).mono⟩,_,rfl,?_,rfl⟩;rw[<- qQ];show _++[V.int ((1+(i:Int))*cf ns (i+1))]=_;rw[Int.add_comm 1]
  ·rintro ys σ' H' p ⟨z,rfl,rfl,rfl⟩ hp;refine k p _ (Same.upd_new hp) hp ?_;have en:(((ns.map V.int).length:Int)-1).toNat=ns.length-1:=by rw[hl];omega
   rw[ak,en];unfold RM.slopeL;rw[Qp];rfl
inductive qp(vs:List V)(H:Hp)(Q:VK)(E:XK):Prop
 |mk (a:Addr) (ns:List Int):vs=[.ref a]->H a=some (.lst (ns.map V.int))->Tr ns->ns.length<=1000000->mkL H Q (au ns)->qp vs H Q E
theorem Jm{ns:List Int}(ht:Tr ns)(hne:ns≠[]):0<(aE ns:Int):=by
 obtain⟨r,x,rfl⟩:=(dA ns).resolve_left hne;have hx:x≠0:=tr_snoc.mp ht;have hm:x∈r++[x]:=by simp
 have h1:0<aE (r++[x]):=Nat.pos_of_dvd_of_pos (sF hm) (RC.mpr hx);omega
theorem EE(F:Fun K "shrunk" "shrunk" jl f fd)(T:Txt K mg)(hNS:base.NoSeer)(hTr:P.given.tree=none)(uz:Cal P w K mg base 2 "shared" ["row"] (qr K) JZ JH):FnOk P w K mg base CX0 33 f fd ["row"] qp:=by
 obtain⟨ud,rN,sr,tM⟩:=uz;refine F.ok sc_shrunk (λvs H Q E h=>?_) (λcdv A outer s H vs Q E hr h=>?_)
 ·obtain⟨a,ns,rfl,_⟩:=h;rfl
 ·obtain⟨a,ns,rfl,hA,ht,hn,k⟩:=h;have big:=sizeLine_eq;have hdp:(A.deeper (PyProof.Rows.envOfC (Str.ofString "shrunk") (al jl) s.heap.objs.size f cdv)).depth+100<recursionLimit:=by have:=hr.dp;omega
  refine⟨_,(af (aj (i:=1) sc_shrunk.nd rfl (Or.inr rfl) (ag ud (hr.mono) rfl rN sr tM .nil ad (aa (pv 0) ac)))
   (ah (am (cQ (own:=["value"]) (fr:=["divisor"]) (js:=[1]) (by walk_at "comp_ok") rfl (dE (K:=K) rfl (pv 0)) (λ_ _ _ _=>(aJ (i:=0) (show List.Nodup (["value","divisor"]:List Str)from by decide +kernel) rfl (Or.inl rfl))) (λ_ _ _ _=>(ai (Ef hNS hTr hdp rfl rfl rfl rfl rfl) (pv 0) (pv 1))))))),?_⟩
  refine ao ⟨_,rfl,a,ns,rfl,SqL.of hA,?_⟩;refine aA ⟨_,rfl,a,rfl,⟨_,SqL.of hA⟩,gU (K:=K) (a:=a) (xs:=ns.map V.int) (λi ys σ' H'=>∃(z0:Option V),σ'=[z0,some (.int (aE ns:Nat))]/\ys=((ns.take i).map λx=>x/(aE ns:Int)).map V.int/\H=H') (by rw[PX];omega) ⟨none,rfl,rfl,rfl⟩ ?_ ?_ ?_⟩
  ·rintro i ys σ' H' _ ⟨z0,rfl,rfl,rfl⟩;exact⟨SqL.of hA,by rw[PX,PX,Qr];exact Nat.min_le_left _ _⟩
  ·rintro i x ys σ' H' hi ⟨z0,rfl,rfl,rfl⟩;rw[List.getElem?_map]at hi;cases e:ns[i]? with
   |none=>rw[e]at hi;cases hi
   |some c =>rw[e]at hi;obtain rfl:=Option.some.inj hi;have g1:=Jm ht (λz=>by rw[z]at e;simp at e);refine⟨_,rfl,_,rfl,_,_,rfl,rfl,g1,_,rfl,?_,rfl⟩;rw[QE,e];simp
  ·rintro ys σ' H' p ⟨z0,rfl,rfl,rfl⟩ hp;refine k p _ (Same.upd_new hp) hp ?_;rw[ak,PX,QZ];rfl
inductive fj(vs:List V)(H:Hp)(Q:VK)(E:XK):Prop
 |mk (a:Addr) (ns:List Int):vs=[.ref a]->H a=some (.lst (ns.map V.int))->Tr ns->ns.length<=1000000->mkL H Q (aL ns)->fj vs H Q E
theorem LR(r:List Int)(x:Int):atI ((r++[x]).map V.int) (-1)=some (.int x):=by rw[Qd];exact tV _ _
theorem ET(F:Fun K "plain" "plain" mS f fd)(T:Txt K mg)(ux:Cal P w K mg base 33 "shrunk" ["row"] qp JX JF):FnOk P w K mg base CX0 34 f fd ["row"] fj:=by
 obtain⟨kR,jM,jZ,kC⟩:=ux;refine F.ok sc_plain (λvs H Q E h=>?_) (λcdv A outer s H vs Q E hr h=>?_)
 ·obtain⟨a,ns,rfl,_⟩:=h;rfl
 ·obtain⟨a,ns,rfl,hA,ht,hn,k⟩:=h;have big:=sizeLine_eq;have hu:=hr.units
  refine⟨_,(af (aj (i:=1) sc_plain.nd rfl (Or.inl rfl) (ag kR (hr.mono) rfl jM jZ kC .nil ad (aa (pv 0) ac)))
   (af (aB (PW.pt (jw (ax (jD (K:=K) rfl hu) (pv 1) (aK ac) (aw _)) (jv (ax dF (ar (aO (K:=K) rfl) (pv 1) (aU aT ae) (λ_ _=>rfl)) ae (aw _)))))
     (ah (am (cQ (own:=["value"]) (fr:=[]) (js:=[]) (by walk_at "comp_ok") rfl (dE (K:=K) rfl (pv 1)) (λ_ _ _ _=>(aJ (i:=0) (show List.Nodup (["value"]:List Str)from by decide +kernel) rfl (Or.inl rfl))) (λ_ _ _ _=>(aU aT (pv 0))))))
     aC)
   (ah (am (pv 1))))),?_⟩
  refine ao ⟨_,rfl,a,ns,rfl,hA,ht,hn,λp H1 s1 hp e1=>?_⟩;have hsl:(au ns).length=ns.length:=PX _;have done:cp (au ns)=au ns->Q (.ref p) H1:=λe=>k p H1 s1 hp (by rw[e1];show _=some (HO.lst ((cp (au ns)).map V.int));rw[e])
  refine iB (λσ' H'=>σ'=[some (.ref a),some (.ref p)]/\Same H H'/\H' p=some (.lst ((au ns).map V.int))/\cp (au ns)=au ns) ?_ ?_
  ·rintro σ' H' ⟨rfl,s2,e2,e3⟩;exact⟨_,rfl,k p H' s2 hp (by rw[e2];show _=some (HO.lst ((cp (au ns)).map V.int));rw[e3])⟩
  intro rest;refine ot ⟨_,rfl,P6 _,λq hq=>?_⟩;have s2:Same H (upd H1 q (.lst [])):=s1.then_new hq;have e2:upd H1 q (.lst []) p=some (.lst ((au ns).map V.int)):=by rw[upd_ne (aD e1 hq)];exact e1
  refine⟨p,q,au ns,[],rfl,rfl,SqL.of e2,SqL.of ak,_,rfl,?_⟩;refine cO (λhne=>?_) (λhe=>?_)
  ·obtain⟨r,x,er⟩:=(dA (au ns)).resolve_left hne;refine⟨_,rfl,_,rfl,p,_,_,.int x,rfl,rfl,SqL.of e2,(by rw[er];exact LR r x),_,_,rfl,rfl,_,rfl,?_⟩;have elast:bT (au ns)=x:=by rw[er,gg]
   refine aG (λhx=>?_) (λhx=>?_)
   ·have hx':x<0:=hx;have epos:cp (au ns)=(au ns).map λx => -x:=by unfold cp;rw[elast,if_pos hx']
    refine aA ⟨_,rfl,p,rfl,⟨_,SqL.of e2⟩,gU (K:=K) (a:=p) (xs:=(au ns).map V.int) (λi ys σ' H'=>∃(z0:Option V),σ'=[z0]/\ys=(((au ns).take i).map λx => -x).map V.int/\upd H1 q (.lst [])=H') (by rw[PX,hsl];omega) ⟨none,rfl,rfl,rfl⟩ ?_ ?_ ?_⟩
    ·rintro i ys σ' H' _ ⟨z0,rfl,rfl,rfl⟩;exact⟨SqL.of e2,by rw[PX,PX,Qr];exact Nat.min_le_left _ _⟩
    ·rintro i x ys σ' H' hi ⟨z0,rfl,rfl,rfl⟩;rw[List.getElem?_map]at hi;cases e:(au ns)[i]? with
     |none=>rw[e]at hi;cases hi
     |some c =>rw[e]at hi;obtain rfl:=Option.some.inj hi;refine⟨_,rfl,_,rfl,_,rfl,?_,rfl⟩;rw[QE,e];simp
    ·rintro ys σ' H' p' ⟨z0,rfl,rfl,rfl⟩ hp';refine k p' _ (s2.then_new hp') (s2.free hp') ?_;rw[ak,PX,QZ];show _=some (HO.lst ((cp (au ns)).map V.int));rw[epos]
   ·exact rest _ _ ⟨rfl,s2,e2,by unfold cp;rw[elast,if_neg hx]⟩
  ·have he':au ns=[]:=he;exact rest _ _ ⟨rfl,s2,e2,by rw[he'];rfl⟩
inductive vz(vs:List V)(H:Hp)(Q:VK)(E:XK):Prop
 |mk (a:Addr) (xs:List Int) (c:Int):vs=[.ref a,.int c]->H a=some (.lst (xs.map V.int))->xs.length<=1000000->Bits 1000000 c->AllB 1000000 xs->mkL H Q (scL c xs)->vz vs H Q E
theorem EI(F:Fun K "scaled" "scaled" mH f fd)(T:Txt K mg):FnOk P w K mg base CX0 1 f fd ["row","factor"] vz:=by
 refine F.ok Ci (λvs H Q E h=>?_) (λcdv A outer s H vs Q E hr h=>?_)
 ·obtain⟨a,xs,c,rfl,_⟩:=h;rfl
 ·obtain⟨a,xs,c,rfl,hA,hn,bc,bx,k⟩:=h;have big:=sizeLine_eq;refine⟨_,(ah (am (cQ (own:=["value"]) (fr:=["factor"]) (js:=[1]) (by walk_at "comp_ok") rfl (dE (K:=K) rfl (pv 0)) (λ_ _ _ _=>(aJ (i:=0) (show List.Nodup (["value","factor"]:List Str)from by decide +kernel) rfl (Or.inl rfl))) (λ_ _ _ _=>(ai av (pv 1) (pv 0)))))),?_⟩;refine aA ⟨_,rfl,a,rfl,⟨_,SqL.of hA⟩,gU (K:=K) (a:=a) (xs:=xs.map V.int) (λi ys σ' H'=>∃(z0:Option V),σ'=[z0,some (.int c)]/\ys=(scL c (xs.take i)).map V.int/\H=H') (by rw[PX];omega) ⟨none,rfl,rfl,rfl⟩ ?_ ?_ ?_⟩
  ·rintro i ys σ' H' _ ⟨z0,rfl,rfl,rfl⟩;exact⟨SqL.of hA,by rw[PX,eN,Qr];exact Nat.min_le_left _ _⟩
  ·rintro i x ys σ' H' hi ⟨z0,rfl,rfl,rfl⟩;obtain⟨y,_,rfl,hm,et⟩:=gj hi;refine⟨_,rfl,_,rfl,_,_,rfl,rfl,⟨bc,bx y hm⟩,_,rfl,?_,rfl⟩;rw[et];simp[scL]
  ·rintro ys σ' H' p ⟨z0,rfl,rfl,rfl⟩ hp;refine k p _ (Same.upd_new hp) hp ?_;rw[ak,PX,QZ]
theorem zn(ms:List Int):gr ms none (some (-1))=ms.take (ms.length-1):=by
 unfold gr;rw[HT.sIx_none,Rc,QU]
 congr 1
 show(if(-1:Int)<0 then((-1:Int)+(ms.length:Int)).toNat else min (-1:Int).toNat ms.length)=_;rw[if_pos (by decide)];omega
theorem zw{ms:List Int}{n k:Nat}:cf (ms.take n) k=if k<n then cf ms k else 0:=by
 unfold cf;by_cases h:k<n
 ·rw[if_pos h];simp[List.getD,List.getElem?_take,h]
 ·rw[if_neg h];simp[List.getD,List.getElem?_take,h]
inductive vQ(vs:List V)(H:Hp)(Q:VK)(E:XK):Prop
 |mk (a b:Addr) (rs ys:List Int) (p:Nat) (l:Int):vs=[.ref a,.ref b,.int p,.int l]->H a=some (.lst (rs.map V.int))->H b=some (.lst (ys.map V.int))->rs.length=p+ys.length->ys≠[]->Bits 1000000 l->AllB 1000000 ys->mkL H Q (gI rs ys p l)->vQ vs H Q E
theorem Fa(F:Fun K "lowered" "lowered" nh f fd)(T:Txt K mg):FnOk P w K mg base CX0 1 f fd ["row","second","place","lead"] vQ:=by
 refine F.ok sc_lowered (λvs H Q E h=>?_) (λcdv A outer s H vs Q E hr h=>?_)
 ·obtain⟨a,b,rs,ys,p,l,rfl,_⟩:=h;rfl
 ·obtain⟨a,b,rs,ys,p,l,rfl,hA,hB,hl,hy,bl,by',k⟩:=h;have hyl:=Qe.mpr hy
  refine⟨_,(af (aj (i:=4) sc_lowered.nd rfl (Or.inl rfl) (iG (ix (K:=K) rfl) (pv 0) iF (iE (aU aT ae))))
   (af (cg PassesOwn.never rfl (oz rfl T.enumerate_ (aa (iG (ix (K:=K) rfl) (pv 1) iF (iE (aU aT ae))) ac)) (oB rfl (f7 (aJ (i:=5) sc_lowered.nd rfl (Or.inl rfl)) (f7 (aJ (i:=6) sc_lowered.nd rfl (Or.inl rfl)) oA)))
     (ah (ou (ai bA (ar (aO (K:=K) rfl) (pv 4) (ai aZ (pv 2) (pv 5)) (λ_ _=>rfl)) (ai av (pv 3) (pv 6))) (oC (pv 4) (ai aZ (pv 2) (pv 5)) lU))))
   (ah (am (pv 4))))),?_⟩
  refine ao ⟨_,rfl,_,rfl,_,rfl,a,_,rfl,SqL.of hA,λkp hkp=>?_⟩;rw[tj,zn];have s1:=Same.upd_new (o:=.lst ((rs.take (rs.length-1)).map V.int)) hkp;have nkb:b≠kp:=aD hB hkp;refine⟨_,rfl,_,rfl,_,rfl,b,_,rfl,SqL.of (s1 _ _ hB),λp2 hp2=>?_⟩;rw[tj,zn];have n2:kp≠p2:=aD ak hp2;generalize hH2:upd (upd H kp (.lst ((rs.take (rs.length-1)).map V.int))) p2 (.lst ((ys.take (ys.length-1)).map V.int))=H2;have hk2:H2 kp=some (.lst ((rs.take (rs.length-1)).map V.int)):=by rw[<- hH2,upd_ne n2,ak]
  have hq2:H2 p2=some (.lst ((ys.take (ys.length-1)).map V.int)):=by rw[<- hH2,ak]
  have s2:Same H H2:=by rw[<- hH2];exact s1.then_new hp2
  have lt:(rs.take (rs.length-1)).length=rs.length-1:=by rw[Qr];omega
  have lty:(ys.take (ys.length-1)).length=ys.length-1:=by rw[Qr];omega
  refine⟨p2,rfl,⟨_,SqL.of hq2⟩,sK (K:=K) (a:=p2) (xs:=(ys.take (ys.length-1)).map V.int) (λi σ' H'=>∃(acc:List Int) (z5 z6:Option V),σ'=[some (.ref a),some (.ref b),some (.int p),some (.int l),some (.ref kp),z5,z6]/\SameB kp H2 H'/\H' kp=some (.lst (acc.map V.int))/\acc.length=rs.length-1/\∀n,n<acc.length->cf acc n=cf rs n-(if p<=n/\n-p<i then l*cf ys (n-p)else 0))
   ⟨_,none,none,rfl,SameB.refl _ _,hk2,lt,λn hn=>by rw[zw,if_pos (by omega),if_neg (by omega)];omega⟩ ?_ ?_ ?_⟩
  ·rintro i σ' H' _ ⟨acc,z5,z6,rfl,sb,_⟩;exact SqL.of (sb _ _ (Ne.symm n2) hq2)
  ·rintro i x σ' H' q hi ⟨acc,z5,z6,rfl,sb,hpa,hal,hac⟩ hq
   have hil:i<ys.length-1:=by apply Classical.byContradiction;intro hn;rw[List.getElem?_eq_none_iff.mpr (by rw[PX,lty];omega)]at hi;cases hi
   rw[List.getElem?_map,gk (by rw[lty];exact hil),zw,if_pos hil]at hi;obtain rfl:=Option.some.inj hi;refine⟨q,_,rfl,SqT.of ak,rfl,_,_,rfl,_,_,rfl,rfl,?_⟩;have nqp:kp≠q:=aD hpa hq;have hpa':upd H' q (.tup [.int i,.int (cf ys i)]) kp=some (.lst (acc.map V.int)):=by rw[upd_ne nqp];exact hpa
   have hpi:p+i<acc.length:=by omega
   have epi:((p:Nat):Int)+((i:Nat):Int)=((p+i:Nat):Int):=by omega
   refine⟨_,rfl,_,rfl,_,rfl,_,_,rfl,rfl,kp,_,_,_,rfl,rfl,SqL.of hpa',dm epi hpi,_,rfl,_,rfl,_,_,rfl,rfl,⟨bl,by'.cf i⟩,_,_,rfl,rfl,_,rfl,_,rfl,_,rfl,_,_,rfl,rfl,kp,_,_,p+i,rfl,rfl,hpa',sD epi (by rw[PX];exact hpi),?_⟩;refine⟨acc.set (p+i) (cf acc (p+i)-l*cf ys i),_,_,rfl,(sb.then_new hq).then_upd,by rw[ak,rF],by rw[Rh];exact hal,λn hn=>?_⟩;rw[Rh]at hn;rw[kt hpi];by_cases e:n=p+i
   ·subst e;rw[if_pos rfl,hac _ hpi,if_neg (by omega),if_pos (by omega),Nat.add_sub_cancel_left];omega
   ·rw[if_neg e,hac n hn];by_cases h1:p<=n/\n-p<i
    ·rw[if_pos h1,if_pos (by omega)]
    ·rw[if_neg h1,if_neg (by omega)]
  ·rintro σ' H' ⟨acc,z5,z6,rfl,sb,hpa,hal,hac⟩;rw[PX,lty]at hac;refine⟨_,rfl,k kp H' (λb' o e=>sb b' o (aD e hkp) (s2 b' o e)) hkp ?_⟩;rw[hpa]
   have e:acc=gI rs ys p l:=by
    apply kn
    ·rw[hal,xU]
    ·intro n hn;have hn':n<rs.length-1:=by omega
     rw[hac n hn,tD,if_pos hn'];by_cases h1:p<=n
     ·have h2:p<=n/\n-p<ys.length-1:=⟨h1,by omega⟩;rw[if_pos h1,if_pos h2]
     ·have h2:¬(p<=n/\n-p<ys.length-1):=λz=>h1 z.1
      rw[if_neg h1,if_neg h2]
   rw[e]
theorem AllB.of_cf{k:Nat}{l:List Int}(h:∀n,Bits k (RM.cf l n)):AllB k l:=λx hx=>by
 obtain⟨i,hi,rfl⟩:=RQ.mp hx;have:=h i
 rwa [cw hi]at this
theorem Ab{k:Nat}{x:Int}(h:Bits k x):Bits k ((x.natAbs:Nat):Int):=h.of_le (by rw[QH];exact PZ _)
theorem sg_bits{x:Int}:Bits 1 (sg x):=by show(sg x).natAbs<2^1;unfold sg;split<;>(try split)<;>decide
theorem qG{k:Nat}{x y:Int}(h:Bits k y):Bits k (sg x*y):=h.of_le (by
 rw[QD];have h2:(sg x).natAbs<=1:=by unfold sg;split<;>(try split)<;>decide
 calc (sg x).natAbs*y.natAbs<=1*y.natAbs:=RP _ h2
  _=y.natAbs:=Nat.one_mul _)
theorem zg{xs ys:List Int}{b:Nat}(hx:AllB b xs)(hy:AllB b ys):∀i,AllB (b+i*(b+1)) (aH xs ys i).1/\AllB (b+i*(b+1)) (aH xs ys i).2
 |0=>by rw[Nat.zero_mul];exact⟨AllB.zeros,hx⟩
 |i+1=>by
  obtain⟨h1,h2⟩:=zg hx hy i;have e:b+(i+1)*(b+1)=b+i*(b+1)+b+1:=by rw[Nat.succ_mul];omega
  have hs:Bits b (((RM.cf ys (ys.length-1)).natAbs:Nat):Int):=Ab (hy.cf _);rw[e];show AllB _ (cT ys (aH xs ys i) _).1/\AllB _ (cT ys (aH xs ys i) _).2;unfold cT;dsimp only
  constructor
  ·intro x hx;rcases List.mem_or_eq_of_mem_set hx with h |rfl
   ·obtain⟨y,hy',rfl⟩:=P4.mp h;have:=hs.mul (h1 y hy');exact this.mono (by omega)
   ·exact(qG (h2.cf _)).mono (by omega)
  ·refine AllB.of_cf λn=>?_
   rw[tD];by_cases hn:n<(scL (((RM.cf ys (ys.length-1)).natAbs:Nat):Int) (aH xs ys i).2).length-1
   ·rw[if_pos hn,gW]
    have m1:Bits (b+i*(b+1)+b) ((((RM.cf ys (ys.length-1)).natAbs:Nat):Int)*RM.cf (aH xs ys i).2 n):=by have:=hs.mul (h2.cf n);rwa [Nat.add_comm]at this
    refine m1.sub ?_;by_cases hp:(xs.length+1-ys.length-1-i)<=n
    ·rw[if_pos hp];exact(qG (h2.cf _)).mul (hy.cf _)
    ·rw[if_neg hp];exact Bits.zero
   ·rw[if_neg hn];exact Bits.zero
theorem kz{k:Nat}{b:Int}(h:Bits k b):∀n,Bits (k*n+1) (b^n)
 |0=>by show((b^0:Int)).natAbs<2^(k*0+1);rw[Qg,Nat.mul_zero];decide
 |n+1=>by rw[Qa];have:=(kz h n).mul h;exact this.mono (by rw[Nat.mul_succ];omega)
def Gw(H:Hp)(Q:VK)(xs ys:List Int):Prop:=∀(t q r:Addr) (H':Hp),Same H H'->H t=none->H q=none->H r=none->q≠r->q≠t->r≠t->H' t=some (.tup [.int (kq xs ys),.ref q,.ref r])->H' q=some (.lst ((d6 xs ys).map V.int))->H' r=some (.lst ((ck xs ys).map V.int))->Q (.ref t) H'
inductive lP(vs:List V)(H:Hp)(Q:VK)(E:XK):Prop
 |mk (a b:Addr) (xs ys:List Int) (n:Nat):vs=[.ref a,.ref b]->H a=some (.lst (xs.map V.int))->H b=some (.lst (ys.map V.int))->ys≠[]->AllB n xs->AllB n ys->(xs.length+2)*(n+1)<=1000000->ys.length<=1000000->Gw H Q xs ys->lP vs H Q E
theorem tU{l:List Int}(h:l≠[]):atI (l.map V.int) (-1)=some (.int (cf l (l.length-1))):=by
 obtain⟨r,x,rfl⟩:=(dA l).resolve_left h;have e:(r++[x]).length-1=r.length:=by simp
 rw[e,kv,Qd];exact tV _ _
theorem Fo(F:Fun K "divided" "divided" nD f fd)(T:Txt K mg)(ic:Cal P w K mg base 1 "whole_sign" ["value"] jb sU sO)(bY:Cal P w K mg base 1 "degree" ["row"] c7 dZ dW)(Nb:Cal P w K mg base 1 "scaled" ["row","factor"] vz O7 Od)(Nq:Cal P w K mg base 1 "lowered" ["row","second","place","lead"] vQ Pl Ot)(dz:Cal P w K mg base 1 "poly" ["row"] (fX K) iT iS):FnOk P w K mg base CX0 2 f fd ["first","second"] lP:=by
 obtain⟨hU,gF,gK,gZ⟩:=ic;obtain⟨aY,aV,aW,aX⟩:=bY;obtain⟨Aj,xF,yb,zO⟩:=Nb;obtain⟨Mx,Hf,Iv,Lp⟩:=Nq;obtain⟨dq,da,de,dk⟩:=dz;refine F.ok sc_divided (λvs H Q E h=>?_) (λcdv A outer s H vs Q E hr h=>?_)
 ·obtain⟨a,b,xs,ys,n,rfl,_⟩:=h;rfl
 ·obtain⟨a,b,xs,ys,nb,rfl,hA,hB,hy,bx,by',hsz,hyn,k⟩:=h;have big:=sizeLine_eq;have hu:=hr.units;have hyl:=Qe.mpr hy
  have hxl:xs.length<=1000000:=by have:=Nat.mul_le_mul_left (xs.length+2) (show 1<=nb+1 by omega);omega
  have bsz:∀i,i<=xs.length->nb+i*(nb+1)<=1000000:=λi hi=>by have h1:=RP (nb+1) hi;rw[Nat.add_mul]at hsz;omega
  have hnb:nb<=1000000:=by have:=bsz 0 (P6 _);omega
  refine⟨_,(af (aB (ax (iJ (K:=K) rfl hu) (pv 1) (aK ac) (aw _))
   (ah gy)
   aC)
   (af (aj (i:=2) sc_divided.nd rfl (Or.inl rfl) (aI fO (by rfl) T.abs_ PyProof.Rows.boot_abs (aa (ar (aO (K:=K) rfl) (pv 1) (aU aT ae) (λ_ _=>rfl)) ac)))
   (af (aj (i:=3) sc_divided.nd rfl (Or.inl rfl) (ag hU (hr.mono) rfl gF gK gZ .nil ad (aa (ar (aO (K:=K) rfl) (pv 1) (aU aT ae) (λ_ _=>rfl)) ac)))
   (af (aj (i:=4) sc_divided.nd rfl (Or.inl rfl) (ai aZ (ai bA (ag aY (hr.mono) rfl aV aW aX .nil ad (aa (pv 0) ac)) (ag aY (hr.mono) rfl aV aW aX .nil ad (aa (pv 1) ac))) ae))
   (af (aj (i:=5) sc_divided.nd rfl (Or.inl rfl) ae)
   (af (aj (i:=6) sc_divided.nd rfl (Or.inl rfl) (ai jC (aK (aa ae ac)) (pv 4)))
   (af (aj (i:=7) sc_divided.nd rfl (Or.inl rfl) (jA (ky (K:=K) rfl) (by rfl) T.list_ PyProof.Rows.boot_list (aa (pv 0) ac)))
   (af (cg PassesOwn.never rfl (qW rfl T.range_ (aa (ai bA (pv 4) ae) (aa (aU aT ae) (aa (aU aT ae) ac)))) (aJ (i:=8) sc_divided.nd rfl (Or.inl rfl))
     (af (aj (i:=9) sc_divided.nd rfl (Or.inl rfl) (ai av (pv 3) (ar (aO (K:=K) rfl) (pv 7) (aU aT ae) (λ_ _=>rfl))))
       (af (aj (i:=5) sc_divided.nd rfl (Or.inl rfl) (ai av (pv 5) (pv 2)))
       (af (aj (i:=6) sc_divided.nd rfl (Or.inl rfl) (ag Aj (hr.mono) rfl xF yb zO .nil ad (aa (pv 6) (aa (pv 2) ac))))
       (af (ou (pv 9) (oC (pv 6) (pv 8) lU))
       (ah (aj (i:=7) sc_divided.nd rfl (Or.inl rfl) (ag Mx (hr.mono) rfl Hf Iv Lp .nil ad (aa (ag Aj (hr.mono) rfl xF yb zO .nil ad (aa (pv 7) (aa (pv 2) ac))) (aa (pv 1) (aa (pv 8) (aa (pv 9) ac))))))))))))
   (ah (am (dP (aa (pv 5) (aa (pv 6) (aa (ag dq (hr.mono) rfl da de dk .nil ad (aa (pv 7) ac)) ac)))))))))))))),?_⟩
  refine aS ⟨_,rfl,P6 _,λp1 hp1=>?_⟩;have s1:Same H (upd H p1 (.lst [])):=Same.upd_new hp1;refine⟨b,p1,ys,[],rfl,rfl,SqL.of (s1 _ _ hB),SqL.of ak,_,rfl,aG (λh0=>absurd h0 hy) (λ_=>?_)⟩;generalize upd H p1 (.lst [])=H1 at s1 ⊢
  refine ao ⟨_,rfl,_,rfl,b,_,_,_,rfl,rfl,SqL.of (s1 _ _ hB),tU hy,_,rfl,?_⟩;rw[iW];refine ao ⟨_,rfl,_,rfl,b,_,_,_,rfl,rfl,SqL.of (s1 _ _ hB),tU hy,_,rfl,?_⟩;refine ao ⟨_,rfl,a,_,rfl,s1 _ _ hA,_,rfl,b,_,rfl,s1 _ _ hB,_,_,rfl,rfl,_,_,rfl,rfl,?_⟩;dsimp only
  rw[PX,PX];have est:((xs.length:Int)-1-((ys.length:Int)-1)+1).toNat=bC xs ys:=by unfold bC;omega
  generalize hst:((xs.length:Int)-1-((ys.length:Int)-1)+1)=st at est ⊢
  refine ao ?_;refine ao ⟨by show 1<=sizeLine;decide,λp2 hp2=>⟨_,rfl,p2,_,_,rfl,rfl,ak,by omega,by omega,by show 1*_<=_;omega,λq hq=>?_⟩⟩;rw[est,jp];have s2:=s1.then_new (o:=.lst [V.int 0]) hp2;have s3:=s2.then_new (o:=.lst ((List.replicate (bC xs ys) (0:Int)).map V.int)) hq;have fq:H q=none:=s2.free hq;refine ao ⟨_,rfl,a,_,rfl,.inl (SqL.of (s3 _ _ hA)),λr hr'=>?_⟩;have hq3:upd (upd H1 p2 (.lst [V.int 0])) q (.lst ((List.replicate (bC xs ys) (0:Int)).map V.int)) q=some (.lst ((List.replicate (bC xs ys) (0:Int)).map V.int)):=ak;have s4:=s3.then_new (o:=.lst (xs.map V.int)) hr';have fr:H r=none:=s3.free hr';have nqr:q≠r:=aD hq3 hr';generalize hH4:upd (upd (upd H1 p2 (.lst [V.int 0])) q (.lst ((List.replicate (bC xs ys) (0:Int)).map V.int))) r (.lst (xs.map V.int))=H4 at s4 ⊢
  have hq4:H4 q=some (.lst ((List.replicate (bC xs ys) (0:Int)).map V.int)):=by rw[<- hH4,upd_ne nqr];exact hq3
  have hr4:H4 r=some (.lst (xs.map V.int)):=by rw[<- hH4,ak]
  have hs:Bits nb (((cf ys (ys.length-1)).natAbs:Nat):Int):=Ab (by'.cf _);refine⟨_,rfl,_,_,rfl,rfl,_,rfl,_,rfl,st-1,-1,rfl,by omega,?_⟩;have en:(st-1 - -1).toNat=bC xs ys:=by rw[<- est];congr 1;omega
  rw[en]
  refine sJ (λi σ' H'=>∃(q r:Addr) (z8 z9:Option V),σ'=[some (.ref a),some (.ref b),some (.int ((cf ys (ys.length-1)).natAbs:Nat)),some (.int (sg (cf ys (ys.length-1)))),some (.int st),some (.int (((cf ys (ys.length-1)).natAbs:Int)^i)),some (.ref q),some (.ref r),z8,z9]/\Same H H'/\H q=none/\H r=none/\q≠r/\H' q=some (.lst ((aH xs ys i).1.map V.int))/\H' r=some (.lst ((aH xs ys i).2.map V.int)))
   ⟨q,r,none,none,rfl,s4,fq,fr,nqr,hq4,hr4⟩ ?_ ?_
  ·rintro i σ' H' hi ⟨q,r,z8,z9,rfl,sm,fq,fr,nqr,hq',hr'⟩;obtain⟨lq,lr,low,_⟩:=gT (a:=xs) hy i (QW hi);obtain⟨bq,br⟩:=zg bx by' i;have hix:i<xs.length:=by unfold bC at hi;omega
   have bi:=bsz i (QW hix);have rne:(aH xs ys i).2≠[]:=λz=>by rw[z]at lr;simp at lr;omega
   have ep:st-1+(i:Int) * -1=((xs.length+1-ys.length-1-i:Nat):Int):=by unfold bC at hi est;omega
   refine ao ⟨_,rfl,_,rfl,_,rfl,r,_,_,_,rfl,rfl,SqL.of hr',tU rne,_,_,rfl,rfl,⟨sg_bits.mono,(br.cf _).mono bi⟩,?_⟩
   have bpow:Bits 1000000 (((cf ys (ys.length-1)).natAbs:Int)^i):=(kz hs i).mono (by
    have:=RP i (show nb<=nb+1 by omega);rw[Nat.mul_comm (nb+1) i]at this;have h2:=bsz (i+1) hix;rw[Nat.succ_mul]at h2
    omega)
   refine ao ⟨_,rfl,_,rfl,_,_,rfl,rfl,⟨bpow,hs.mono hnb⟩,?_⟩;dsimp only
   rw[<- Qa];refine ao ⟨_,rfl,_,rfl,q,_,_,rfl,hq',by rw[lq];omega,hs.mono hnb,bq.mono bi,λq1 H2 sm2 hq1 eq1=>?_⟩;have fq1:H q1=none:=sm.free hq1;have sm2':=sm.trans sm2;have hpl:xs.length+1-ys.length-1-i<(scL ((cf ys (ys.length-1)).natAbs:Int) (aH xs ys i).1).length:=by rw[eN,lq];unfold bC at hi;omega
   refine⟨_,rfl,_,rfl,_,rfl,q1,_,_,_,rfl,rfl,eq1,sD ep (by rw[PX];exact hpl),?_⟩;rw[rF];have sm3:Same H (upd H2 q1 (.lst (((scL ((cf ys (ys.length-1)).natAbs:Int) (aH xs ys i).1).set (xs.length+1-ys.length-1-i) (sg (cf ys (ys.length-1))*cf (aH xs ys i).2 ((aH xs ys i).2.length-1))).map V.int))):=gB sm2' fq1;have nq1r:q1≠r:=λz=>by rw[z,hr']at hq1;cases hq1
   have hr3:upd H2 q1 (.lst (((scL ((cf ys (ys.length-1)).natAbs:Int) (aH xs ys i).1).set (xs.length+1-ys.length-1-i) (sg (cf ys (ys.length-1))*cf (aH xs ys i).2 ((aH xs ys i).2.length-1))).map V.int)) r=some (.lst ((aH xs ys i).2.map V.int)):=by rw[upd_ne (Ne.symm nq1r)];exact sm2 _ _ hr'
   have hq3:upd H2 q1 (.lst (((scL ((cf ys (ys.length-1)).natAbs:Int) (aH xs ys i).1).set (xs.length+1-ys.length-1-i) (sg (cf ys (ys.length-1))*cf (aH xs ys i).2 ((aH xs ys i).2.length-1))).map V.int)) q1=some (.lst (((scL ((cf ys (ys.length-1)).natAbs:Int) (aH xs ys i).1).set (xs.length+1-ys.length-1-i) (sg (cf ys (ys.length-1))*cf (aH xs ys i).2 ((aH xs ys i).2.length-1))).map V.int)):=ak;generalize upd H2 q1 (.lst (((scL ((cf ys (ys.length-1)).natAbs:Int) (aH xs ys i).1).set (xs.length+1-ys.length-1-i) (sg (cf ys (ys.length-1))*cf (aH xs ys i).2 ((aH xs ys i).2.length-1))).map V.int))=H3 at sm3 hr3 hq3 ⊢
   refine⟨_,rfl,_,rfl,r,_,_,rfl,hr3,by rw[lr];omega,hs.mono hnb,br.mono bi,λr1 H5 sm5 hr1 er1=>?_⟩;have sm35:=sm3.trans sm5;refine⟨_,rfl,_,rfl,_,rfl,r1,b,_,_,(xs.length+1-ys.length-1-i),sg (cf ys (ys.length-1))*cf (aH xs ys i).2 ((aH xs ys i).2.length-1),?_,er1,sm35 _ _ hB,?_,hy,(qG (br.cf _)).mono bi,by'.mono hnb,λr2 H6 sm6 hr2 er2=>?_⟩
   ·rw[<- ep];rfl
   ·rw[eN,lr];unfold bC at hi;omega
   ·have nqr2:q1≠r2:=λz=>by rw[<- z,sm5 _ _ hq3]at hr2;cases hr2
    exact⟨q1,r2,_,_,rfl,sm35.trans sm6,fq1,sm35.free hr2,nqr2,sm6 _ _ (sm5 _ _ hq3),er2⟩
  ·rintro σ' H' ⟨q,r,z8,z9,rfl,sm,fq,fr,nqr,hq',hr'⟩;refine⟨_,rfl,_,rfl,_,rfl,r,_,rfl,SqL.of hr',λr1 H2 sm2 hr1 er1=>⟨by show 3<=sizeLine;decide,λt ht=>?_⟩⟩;have nqr1:q≠r1:=λz=>by rw[<- z,hq']at hr1;cases hr1
   have ntq:q≠t:=aD (sm2 _ _ hq') ht;have ntr:r1≠t:=aD er1 ht;refine k t q r1 _ ((sm.trans sm2).then_new ht) ((sm.trans sm2).free ht) fq (sm.free hr1) nqr1 ntq ntr ak ?_ ?_
   ·rw[upd_ne ntq];exact sm2 _ _ hq'
   ·rw[upd_ne ntr];exact er1
def Vp(C:Addr)(H:Hp)(vs:List V)(a r:Addr)(ns:List Int)(t b:Int):Prop:=vs=[.ref a,.ref r]/\H a=some (.lst (ns.map V.int))/\RA C H r t b/\ns.length<=20/\AllB 1000 ns/\Bits 3000 t/\Bits 3000 b
def VpI(H:Hp)(vs:List V)(a:Addr)(ns:List Int)(t b:Int):Prop:=vs=[.ref a,.int t,.int b]/\H a=some (.lst (ns.map V.int))/\ns.length<=20/\AllB 1000 ns/\Bits 3000 t/\Bits 3000 b
inductive vp(vs:List V)(H:Hp)(Q:VK)(E:XK):Prop
 |mk (a:Addr) (ns:List Int) (t b:Int):VpI H vs a ns t b->(∀(p:Addr) (H':Hp),Same H H'->H p=none->H' p=some (.tup [.int (hv t b ns),.int (b^ns.length)])->Q (.ref p) H')->vp vs H Q E
theorem yt{t b:Int}(bt:Bits 3000 t)(bb:Bits 3000 b):∀{l:List Int},AllB 1000 l->Bits (1001+3001*l.length) (hv t b l)
 | [],_=>by refine Bits.mono (j:=1) ?_ (by omega);show(0:Int).natAbs<2^1;decide
 |v::l,h=>by
  rw[yr];have h1:=h v (Qh ..);have h2:=yt bt bb (l:=l) λx hx=>h x (Qb _ hx)
  have e1:=(h1.mul (kz bb (l.length+1))).mono (k:=1001+3001*l.length+3000) (by omega);have e2:=(bt.mul h2).mono (k:=1001+3001*l.length+3000) (by omega);exact(e1.add e2).mono (by rw[P7];omega)
theorem Ek(F:Fun K "value_parts" "value_parts" lZ f fd)(T:Txt K mg):FnOk P w K mg base CX0 1 f fd ["row","top","bottom"] vp:=by
 refine F.ok sc_value_parts (λvs H Q E h=>?_) (λcdv A outer s H vs Q E hr h=>?_)
 ·obtain⟨a,ns,t,b,⟨rfl,_⟩,_⟩:=h;rfl
 ·obtain⟨a,ns,t,b,⟨rfl,hA,hn,hb,bt,bb⟩,k⟩:=h
  refine⟨_,(af (aj (i:=3) sc_value_parts.nd rfl (Or.inl rfl) ae)
   (af (aj (i:=4) sc_value_parts.nd rfl (Or.inl rfl) ae)
   (af (cg PassesOwn.never rfl (oy rfl T.reversed_ (aa (pv 0) ac)) (aJ (i:=5) sc_value_parts.nd rfl (Or.inl rfl))
     (af (aj (i:=4) sc_value_parts.nd rfl (Or.inl rfl) (ai av (pv 4) (pv 2)))
       (ah (aj (i:=3) sc_value_parts.nd rfl (Or.inl rfl) (ai aZ (ai av (pv 3) (pv 1)) (ai av (pv 5) (pv 4)))))))
   (ah (am (dP (aa (pv 3) (aa (pv 4) ac)))))))),?_⟩
  have hl:(ns.map V.int).length=ns.length:=PX _;refine ao ?_;refine ao ?_;refine⟨_,rfl,a,_,rfl,SqL.of hA,pA (K:=K) (a:=a) (xs:=ns.map V.int) (λi σ' H'=>∃z:Option V,σ'=[some (.ref a),some (.int t),some (.int b),some (.int (hv t b (ns.drop (ns.length-i)))),some (.int (b^i)),z]/\H=H') ⟨none,?_,rfl⟩ ?_ ?_ ?_⟩
  ·rw[QU,List.drop_length,Qg];rfl
  ·rintro i σ' H' _ ⟨z,rfl,rfl⟩;exact SqL.of hA
  ·rintro i x σ' H' hi hx ⟨z,rfl,rfl⟩;rw[hl]at hi hx;obtain⟨c,ec,rfl,hc,_⟩:=gj hx;have hi':i<ns.length:=hi;have e1:ns.length-(i+1)=ns.length-1-i:=by omega
   have hd:=Kj t b (l:=ns) (n:=ns.length-1-i) (by omega);have e2:ns.length-1-i+1=ns.length-i:=by omega
   have e3:ns.length-(ns.length-1-i)=i+1:=by omega
   rw[e2,e3,tw ec]at hd;have bs:=yt bt bb (l:=ns.drop (ns.length-i)) λx hx=>hb x (Rv hx)
   rw[QJ]at bs;have bp:=kz bb i;have bq:=kz bb (i+1);refine⟨_,rfl,_,rfl,_,_,rfl,rfl,⟨bp.mono (by omega),bb.mono⟩,?_⟩;refine⟨_,rfl,_,rfl,_,_,rfl,rfl,⟨bs.mono (by omega),bt.mono⟩,_,rfl,_,rfl,_,_,rfl,rfl,⟨(hb c hc).mono,?_⟩,_,_,rfl,rfl,?_⟩
   ·show Bits 1000000 (b^i*b);rw[<- Qa];exact bq.mono (by omega)
   refine⟨some (.int c),?_,rfl⟩;rw[e1,hd,Qa b i,Int.add_comm,QN t];rfl
  ·rintro σ' H' ⟨z,rfl,rfl⟩;rw[hl,QQ,Rc];exact⟨_,rfl,_,rfl,by show 2<=sizeLine;decide,λp hp=>k p _ (Same.upd_new hp) hp ak⟩
inductive iq(C:Addr)(vs:List V)(H:Hp)(Q:VK)(E:XK):Prop
 |mk (a r:Addr) (ns:List Int) (t b:Int):Vp C H vs a r ns t b->(∀H',Same H H'->Q (.int (sg (hv t b ns))) H')->iq C vs H Q E
theorem ED(F:Fun K "sign_at" "sign_at" mD f fd)(T:Txt K mg)(R:RCI K mg C)(MZ:Cal P w K mg base 1 "value_parts" ["row","top","bottom"] vp OV N1)(ic:Cal P w K mg base 1 "whole_sign" ["value"] jb sU sO):FnOk P w K mg base CX0 2 f fd ["row","ratio"] (iq C):=by
 obtain⟨Ma,GN,HS,K0⟩:=MZ;obtain⟨hU,gF,gK,gZ⟩:=ic;refine F.ok Cg (λvs H Q E h=>?_) (λcdv A outer s H vs Q E hr h=>?_)
 ·obtain⟨a,r,ns,t,b,⟨rfl,_⟩,_⟩:=h;rfl
 ·obtain⟨a,r,ns,t,b,hV,k⟩:=h;obtain⟨rfl,hA,⟨dx,hR⟩,hn,hbs,bt,bb⟩:=hV;refine⟨_,(ah (am (ag hU (hr.mono) rfl gF gK gZ .nil ad (aa (ar (aN (K:=K) rfl) (ag Ma (hr.mono) rfl GN HS K0 .nil ad (aa (pv 0) (aa (aq (K:=K) rfl (pv 1) rfl) (aa (aq (K:=K) rfl (pv 1) rfl) ac)))) ae (λ_ _=>rfl)) ac)))),?_⟩;refine⟨_,rfl,_,rfl,r,C,dx,_,_,rfl,hR,R.cl,R.nT,cC _ _,_,rfl,r,C,dx,_,_,rfl,hR,R.cl,R.nB,bG _ _,a,ns,t,b,⟨rfl,hA,hn,hbs,bt,bb⟩,λp H1 s1 hp e1=>?_⟩;exact⟨p,_,_,_,rfl,rfl,SqT.of e1,rfl,_,rfl,k H1 s1⟩
theorem b60:Bits 200 (10^60):=by show((10:Int)^60).natAbs<2^200;decide +kernel
def Fit(one other:List Int):Prop:=Tr one/\Tr other/\∃n,AllB n one/\AllB n other/\(one.length+2)*(n+1)<=1000000/\other.length<=1000000
noncomputable def Run:Nat->List Int->List Int->Prop
 |0,one,_=>one=[]
 |n+1,one,other=>one=[]\/(Fit one other/\Run n other (nxt one other))
def xy(H:Hp)(Q:VK)(xss:List (List Int)):Prop:=∀(l:Addr) (ps:List Addr) (H':Hp),Same H H'->H l=none->(∀p∈ps,H p=none/\p≠l)->H' l=some (.lst (ps.map V.ref))->RwH H' ps xss->Q (.ref l) H'
theorem RwH.upd_ne{H:Hp}{ps:List Addr}{xss:List (List Int)}{a:Addr}{o:HO}(h:RwH H ps xss)(hn:∀p∈ps,p≠a):RwH (upd H a o) ps xss:=⟨h.1,λi p xs e1 e2=>by rw[L2.upd_ne (hn p (List.mem_of_getElem? e1))];exact h.2 i p xs e1 e2⟩
inductive vB(vs:List V)(H:Hp)(Q:VK)(E:XK):Prop
 |mk (a b:Addr) (xs ys:List Int) (n:Nat):vs=[.ref a,.ref b]->H a=some (.lst (xs.map V.int))->H b=some (.lst (ys.map V.int))->Tr xs->Tr ys->xs.length<=1000->ys.length<=1000->n<=1000->Run n (au xs) (au ys)->xy H Q (c8 n (au xs) (au ys))->vB vs H Q E
theorem EK(F:Fun K "row_from" "row_from" mJ f fd)(T:Txt K mg)(ux:Cal P w K mg base 33 "shrunk" ["row"] qp JX JF)(ln:Cal P w K mg base 2 "divided" ["first","second"] lP yZ yO)(M1:Cal P w K mg base 2 "taken" ["first","second"] (iw K ip) OX N3):FnOk P w K mg base CX0 34 f fd ["first","second"] vB:=by
 obtain⟨kR,jM,jZ,kC⟩:=ux;obtain⟨kX,jR,j4,kI⟩:=ln;obtain⟨Mc,GP,HV,K6⟩:=M1;refine F.ok sc_row_from (λvs H Q E h=>?_) (λcdv A outer s H vs Q E hr h=>?_)
 ·obtain⟨a,b,xs,ys,n,rfl,_⟩:=h;rfl
 ·obtain⟨a,b,xs,ys,n,rfl,hA,hB,xtr,ytr,hx,hy,hn,hrun,k⟩:=h;have big:=sizeLine_eq;have hu:=hr.units
  refine⟨_,(af (aj (i:=2) sc_row_from.nd rfl (Or.inl rfl) (aK ac))
   (af (aj (i:=3) sc_row_from.nd rfl (Or.inl rfl) (ag kR (hr.mono) rfl jM jZ kC .nil ad (aa (pv 0) ac)))
   (af (aj (i:=4) sc_row_from.nd rfl (Or.inl rfl) (ag kR (hr.mono) rfl jM jZ kC .nil ad (aa (pv 1) ac)))
   (af (c9 PassesOwn.never (ax (jD (K:=K) rfl hu) (pv 3) (aK ac) (aw _))
     (af (eD (oG PySem.F.plainAttrs_list PySem.F.slot_list_append PySem.F.type_list_append oY (pv 2) (aa (pv 3) ac)))
       (af (aj (i:=5) sc_row_from.nd rfl (Or.inl rfl) (oE (ax (iJ (K:=K) rfl hu) (pv 4) (aK ac) (aw _)) (aK ac) (ar (aN (K:=K) rfl) (ag kX (hr.mono) rfl jR j4 kI .nil ad (aa (pv 3) (aa (pv 4) ac))) ae (λ_ _=>rfl))))
       (af (aj (i:=3) sc_row_from.nd rfl (Or.inl rfl) (pv 4))
       (ah (aj (i:=4) sc_row_from.nd rfl (Or.inl rfl) (ag kR (hr.mono) rfl jM jZ kC .nil ad (aa (ag Mc (hr.mono) rfl GP HV K6 .nil ad (aa (aK ac) (aa (pv 5) ac))) ac))))))))
   (ah (am (pv 2))))))),?_⟩
  refine ao ⟨P6 _,λl hl=>?_⟩;have s1:=Same.upd_new (o:=.lst []) hl;have hl1:upd H l (.lst []) l=some (.lst (([]:List Addr).map V.ref)):=ak;generalize upd H l (.lst [])=H1 at s1 hl1 ⊢
  refine ao ⟨_,rfl,a,xs,rfl,s1 _ _ hA,xtr,by omega,λp1 H2 sm2 hp1 e1=>?_⟩;have s2:=s1.trans sm2;refine ao ⟨_,rfl,b,ys,rfl,s2 _ _ hB,ytr,by omega,λp2 H3 sm3 hp2 e2=>?_⟩;have s3:=s2.trans sm3;have n1l:p1≠l:=λz=>by rw[z,hl1]at hp1;cases hp1
  have n2l:p2≠l:=λz=>by rw[z,sm2 _ _ hl1]at hp2;cases hp2
  generalize au xs=one' at hrun k e1
  generalize au ys=other at hrun k e2
  refine⟨λm σ' H'=>∃(po pt:Addr) (one other':List Int) (ps:List Addr) (acc:List (List Int)) (z5:Option V),σ'=[some (.ref a),some (.ref b),some (.ref l),some (.ref po),some (.ref pt),z5]/\Same H H'/\H' l=some (.lst (ps.map V.ref))/\RwH H' ps acc/\(∀p∈ps,H p=none/\p≠l)/\H' po=some (.lst (one.map V.int))/\H' pt=some (.lst (other'.map V.int))/\H po=none/\H pt=none/\po≠l/\pt≠l/\Run m one other'/\acc++c8 m one other'=c8 n one' other/\ps.length+m<=1000,
   ⟨_,p1,p2,one',other,[],[],none,rfl,s3,sm3 _ _ (sm2 _ _ hl1),RwH.nil,(λp hp=>nomatch hp),sm3 _ _ e1,e2,s1.free hp1,s2.free hp2,n1l,n2l,hrun,rfl,by show 0+n<=1000;omega⟩,?_⟩
  rintro m σ' H4 ⟨po,pt,one,other',ps,acc,z5,rfl,s4,hl4,hR4,hf4,ho4,ht4,fo,ft,nol,ntl,hrun4,hacc,hlen⟩;refine⟨_,rfl,P6 _,λq hq=>?_⟩;have t5:=Same.upd_new (o:=.lst []) hq;refine⟨po,q,one,[],rfl,rfl,SqL.of (t5 _ _ ho4),SqL.of ak,_,rfl,cO (λhne=>?_) (λhe=>?_)⟩
  rotate_left
  ·have he':one=[]:=he;subst he';rw[Dd,Ry]at hacc;refine⟨_,rfl,k l ps _ (s4.trans t5) hl hf4 (t5 _ _ hl4) ?_⟩;rw[<- hacc];exact hR4.same t5
  have hne':one≠[]:=hne
  obtain⟨m1,rfl⟩:∃m1,m=m1+1:=by
   cases m with
   |zero=>exact absurd hrun4 hne'
   |succ m1=>exact⟨m1,rfl⟩
  obtain⟨⟨otr,ttr,nb,bo,bt,hsz,htl⟩,hrun5⟩:=(show one=[]\/(Fit one other'/\Run m1 other' (nxt one other'))from hrun4).resolve_left hne'
  have hacc5:(acc++[one])++c8 m1 other' (nxt one other')=c8 n one' other:=by rw[<- hacc];show _=acc++(if one=[]then[]else one::c8 m1 other' (nxt one other'));rw[if_neg hne',Qq];rfl
  generalize hH5:upd H4 q (.lst [])=H5 at t5 ⊢
  refine⟨λσ'' H''=>∃m',m'<m1+1/\∃(po pt:Addr) (one other':List Int) (ps:List Addr) (acc:List (List Int)) (z5:Option V),σ''=[some (.ref a),some (.ref b),some (.ref l),some (.ref po),some (.ref pt),z5]/\Same H H''/\H'' l=some (.lst (ps.map V.ref))/\RwH H'' ps acc/\(∀p∈ps,H p=none/\p≠l)/\H'' po=some (.lst (one.map V.int))/\H'' pt=some (.lst (other'.map V.int))/\H po=none/\H pt=none/\po≠l/\pt≠l/\Run m' one other'/\acc++c8 m' one other'=c8 n one' other/\ps.length+m'<=1000,λ_ _ h=>h,?_⟩;have hl5:=t5 _ _ hl4;refine eC ⟨_,rfl,.inl ⟨rfl,_,SqL.of hl5⟩,_,rfl,l,_,_,rfl,rfl,hl5,by rw[PX];omega,?_⟩;rw[ph];have s6:Same H (upd H5 l (.lst ((ps++[po]).map V.ref))):=gB (s4.trans t5) hl;have hl6:upd H5 l (.lst ((ps++[po]).map V.ref)) l=some (.lst ((ps++[po]).map V.ref)):=ak
  have hf6:∀p∈ps++[po],H p=none/\p≠l:=λp hp=>by
   rcases Qk.mp hp with h |h
   ·exact hf4 p h
   ·rw[Qc.mp h];exact⟨fo,nol⟩
  have hR6:RwH (upd H5 l (.lst ((ps++[po]).map V.ref))) (ps++[po]) (acc++[one]):=((hR4.same t5).snoc (t5 _ _ ho4)).upd_ne λp hp=>(hf6 p hp).2
  have ho6:upd H5 l (.lst ((ps++[po]).map V.ref)) po=some (.lst (one.map V.int)):=by rw[L2.upd_ne nol];exact t5 _ _ ho4
  have ht6:upd H5 l (.lst ((ps++[po]).map V.ref)) pt=some (.lst (other'.map V.int)):=by rw[L2.upd_ne ntl];exact t5 _ _ ht4
  generalize upd H5 l (.lst ((ps++[po]).map V.ref))=H6 at s6 hl6 hR6 ho6 ht6 ⊢
  refine Ds (λσ' H'=>∃pr:Addr,σ'=[some (.ref a),some (.ref b),some (.ref l),some (.ref po),some (.ref pt),some (.ref pr)]/\Same H6 H'/\H' pr=some (.lst ((rst one other').map V.int))) ?_ ?_
  case refine_2 =>
   intro rest;refine cz (Dq ⟨_,rfl,P6 _,λq2 hq2=>?_⟩);have t7:=Same.upd_new (o:=.lst []) hq2;refine⟨pt,q2,other',[],rfl,rfl,SqL.of (t7 _ _ ht6),SqL.of ak,_,rfl,aG (λh0=>?_) (λh0=>?_)⟩
   ·have h0':other'=[]:=h0;refine⟨P6 _,λq3 hq3=>rest _ _ ⟨q3,rfl,t7.then_new hq3,?_⟩⟩;rw[ak];unfold rst;rw[if_pos h0'];rfl
   ·have h0':other'≠[]:=h0;refine⟨_,rfl,_,rfl,po,pt,one,other',nb,rfl,t7 _ _ ho6,t7 _ _ ht6,h0',bo,bt,hsz,htl,λt q' r H8 sm8 _ _ _ _ _ _ et _ er=>?_⟩;refine⟨t,_,_,_,rfl,rfl,SqT.of et,rfl,rest _ _ ⟨r,rfl,t7.trans sm8,?_⟩⟩;rw[er];unfold rst;rw[if_neg h0']
  rintro σ' H8 ⟨pr,rfl,t8,hr8⟩;refine ao ⟨_,rfl,?_⟩;refine cz ⟨P6 _,λq hq=>?_⟩;have t9:=t8.then_new (o:=.lst []) hq
  have hrl:(rst one other').length<=1000000:=by
   unfold rst;split
   ·exact P6 _
   ·rename_i h0
    have:=pK (a:=one) h0;omega
  refine⟨_,rfl,q,pr,[],rst one other',rfl,SqL.of ak,SqL.of (by rw[L2.upd_ne (aD hr8 hq)];exact hr8),P6 _,hrl,λp9 H9 sm9 hp9 e9=>?_⟩;have hsl:(ip [] (rst one other')).length<=1000000:=Qu (gf _) (by unfold cJ;rw[PX,QF];exact Nat.max_le.mpr ⟨P6 _,hrl⟩);refine⟨p9,_,rfl,e9,dL _,hsl,λp10 H10 sm10 hp10 e10=>?_⟩;have t10:Same H6 H10:=(t9.trans sm9).trans sm10;have f10:H6 p10=none:=(t9.trans sm9).free hp10;refine⟨m1,QP _,pt,p10,other',nxt one other',ps++[po],acc++[one],_,rfl,s6.trans t10,t10 _ _ hl6,hR6.same t10,hf6,t10 _ _ ht6,e10,ft,s6.free f10,ntl,(λz=>by rw[z,hl6]at f10;cases f10),hrun5,hacc5,by rw[PY];show ps.length+1+m1<=1000;omega⟩
inductive lK(vs:List V)(H:Hp)(Q:VK)(E:XK):Prop
 |mk (a:Addr) (xs:List Int) (n:Nat):vs=[.ref a]->H a=some (.lst (xs.map V.int))->Tr xs->AllB 90000 xs->xs.length<=1000->n<=1000->Run n (au xs) (au (slopeL xs))->xy H Q (c8 n (au xs) (au (slopeL xs)))->lK vs H Q E
theorem Ba{xs:List Int}(h:Tr xs):Tr (slopeL xs):=by
 intro n hn;unfold slopeL at *
 rw[PX,QF]at hn;rw[eU,if_pos (by omega)];exact QS (by omega) (h (n+1) (by omega))
theorem EJ(F:Fun K "row_of" "row_of" mI f fd)(T:Txt K mg)(Nc:Cal P w K mg base 34 "row_from" ["first","second"] vB O8 Oe)(uw:Cal P w K mg base 1 "slope" ["row"] (sp1 slopeL) JW JE):FnOk P w K mg base CX0 35 f fd ["polynomial"] lK:=by
 obtain⟨Ml,GY,Ie,Le⟩:=Nc;obtain⟨ub,rL,sk,tK⟩:=uw;refine F.ok Cj (λvs H Q E h=>?_) (λcdv A outer s H vs Q E hr h=>?_)
 ·obtain⟨a,xs,n,rfl,_⟩:=h;rfl
 ·obtain⟨a,xs,n,rfl,hA,xtr,bx,hx,hn,hrun,k⟩:=h;refine⟨_,(ah (am (ag Ml (hr.mono) rfl GY Ie Le .nil ad (aa (pv 0) (aa (ag ub (hr.mono) rfl rL sk tK .nil ad (aa (pv 0) ac)) ac))))),?_⟩;refine aA ⟨_,rfl,_,rfl,a,xs,rfl,hA,by omega,bx.mono,λp H1 s1 hp e1=>?_⟩;have hsl:(slopeL xs).length<=1000:=by unfold slopeL;rw[PX,QF];omega
  exact⟨a,p,xs,slopeL xs,n,rfl,s1 _ _ hA,e1,xtr,Ba xtr,hx,hsl,hn,hrun,λl ps H' sm hl hf e r=>k l ps H' (s1.trans sm) (s1.free hl) (λp hp=>⟨s1.free (hf p hp).1,(hf p hp).2⟩) e r⟩
noncomputable def sgs(t b:Int)(xss:List (List Int)):List Int:=xss.map λp=>sg (hv t b p)
inductive vZ(C:Addr)(vs:List V)(H:Hp)(Q:VK)(E:XK):Prop
 |mk (l r:Addr) (ps:List Addr) (xss:List (List Int)) (t b:Int):vs=[.ref l,.ref r]->H l=some (.lst (ps.map V.ref))->RwH H ps xss->RA C H r t b->Bits 2950 t->Bits 2950 b->(∀xs∈xss,xs.length<=20/\AllB 1000 xs)->xss.length<=1000000->(∀H',Same H H'->Q (.int (chS (sgs t b xss)).1) H')->vZ C vs H Q E
theorem BX(t b:Int)(xss:List (List Int)):∀s∈sgs t b xss,s.natAbs<=1:=λs hs=>by obtain⟨x,_,rfl⟩:=P4.mp hs;exact wq _
theorem BW{t b:Int}{xss:List (List Int)}{i:Nat}{xs:List Int}(h:xss[i]?=some xs):sgs t b (xss.take (i+1))=sgs t b (xss.take i)++[sg (hv t b xs)]:=by unfold sgs;rw[QE,h,Qd];rfl
theorem wX{x:Int}(h:x.natAbs<=1):Bits 1000000 x:=Bits.mono (j:=1) (Ri h (by decide)) (by decide)
theorem Fw(F:Fun K "changes" "changes" nK f fd)(T:Txt K mg)(R:RCI K mg C)(fU:Cal P w K mg base 2 "sign_at" ["row","ratio"] (iq C) pH pF):FnOk P w K mg base CX0 3 f fd ["row","ratio"] (vZ C):=by
 obtain⟨fS,fF,fJ,fQ⟩:=fU;refine F.ok sc_changes (λvs H Q E h=>?_) (λcdv A outer s H vs Q E hr h=>?_)
 ·obtain⟨l,r,ps,xss,t,b,rfl,_⟩:=h;rfl
 ·obtain⟨l,r,ps,xss,t,b,rfl,hL,hR,hRA,bt,bb,hb,hn,k⟩:=h
  refine⟨_,(af (aj (i:=2) sc_changes.nd rfl (Or.inl rfl) ae)
   (af (aj (i:=3) sc_changes.nd rfl (Or.inl rfl) ae)
   (af (cg PassesOwn.never rfl (dE (K:=K) rfl (pv 0)) (aJ (i:=4) sc_changes.nd rfl (Or.inl rfl))
     (af (aj (i:=5) sc_changes.nd rfl (Or.inl rfl) (ag fS (hr.mono) rfl fF fJ fQ .nil ad (aa (pv 4) (aa (pv 1) ac))))
       (af (aB (ax dF (ai av (pv 5) (pv 3)) ae (aw _))
         (ah (aj (i:=2) sc_changes.nd rfl (Or.inl rfl) (ai aZ (pv 2) ae)))
         aC)
       (ah (aB (ax gb (pv 5) ae (aw _))
         (ah (aj (i:=3) sc_changes.nd rfl (Or.inl rfl) (pv 5)))
         aC)))))
   (ah (am (pv 2)))))),?_⟩
  have hpl:(ps.map V.ref).length=xss.length:=by rw[PX,hR.1]
  refine ao ?_;refine ao ?_;refine⟨_,rfl,l,rfl,⟨_,SqL.of hL⟩,pC (K:=K) (a:=l) (xs:=ps.map V.ref) (λi σ' H'=>∃(z4 z5:Option V),σ'=[some (.ref l),some (.ref r),some (.int (chS (sgs t b (xss.take i))).1),some (.int (chS (sgs t b (xss.take i))).2),z4,z5]/\Same H H') ⟨none,none,rfl,λ_ _ e=>e⟩ ?_ ?_ ?_⟩
  ·rintro i σ' H' _ ⟨z4,z5,rfl,sm⟩;exact SqL.of (sm _ _ hL)
  ·rintro i x σ' H1 hi ⟨z4,z5,rfl,s1⟩;obtain⟨p,xs,rfl,ep,ex,hp,hlt⟩:=hR.of_get hi;obtain⟨hx1,hx2⟩:=hb xs (List.mem_of_getElem? ex);show ci (cZ _ (cS 5)) _ _ _ _;refine ao ⟨_,rfl,_,rfl,p,r,xs,t,b,⟨rfl,s1 _ _ hp,hRA.same s1,hx1,hx2,bt.mono,bb.mono⟩,λH2 sm2=>?_⟩;have s2:=s1.trans sm2;obtain⟨c1,c2,c3⟩:=KG _ (BX t b (xss.take i));rw[BW ex,zt];have hs:=wq (hv t b xs);generalize sg (hv t b xs)=s at hs ⊢
   generalize chS (sgs t b (xss.take i))=z at c1 ⊢
   obtain⟨m,bf⟩:=z;dsimp only
   refine iB (λσ' H'=>σ'=[some (.ref l),some (.ref r),some (.int (if s*bf<0 then m+1 else m)),some (.int bf),some (.ref p),some (.int s)]/\H2=H') ?_ ?_
   case refine_2 =>
    intro rest;refine⟨_,rfl,_,rfl,_,_,rfl,rfl,⟨wX hs,wX c1⟩,_,_,rfl,rfl,_,rfl,aG (λh1=>?_) (λh1=>?_)⟩
    ·refine cz ⟨_,rfl,_,_,rfl,rfl,rest _ _ ⟨?_,rfl⟩⟩;rw[if_pos h1];rfl
    ·refine rest _ _ ⟨?_,rfl⟩;rw[if_neg h1];rfl
   rintro σ' H' ⟨rfl,rfl⟩;refine⟨_,rfl,_,_,rfl,rfl,_,rfl,cO (λh1=>?_) (λh1=>?_)⟩
   ·refine cz ⟨_,rfl,some (.ref p),some (.int s),?_,s2⟩;unfold chF;have h1':¬s=0:=h1;rw[if_neg h1'];rfl
   ·refine⟨some (.ref p),some (.int s),?_,s2⟩;unfold chF;have h1':s=0:=h1;rw[if_pos h1']
  ·rintro σ' H' ⟨z4,z5,rfl,sm⟩;rw[hpl,QZ];exact⟨_,rfl,k H' sm⟩
inductive jd(C:Addr)(vs:List V)(H:Hp)(Q:VK)(E:XK):Prop
 |mk (l r r2:Addr) (ps:List Addr) (xss:List (List Int)) (t b t2 b2:Int):vs=[.ref l,.ref r,.ref r2]->H l=some (.lst (ps.map V.ref))->RwH H ps xss->RA C H r t b->RA C H r2 t2 b2->Bits 2950 t->Bits 2950 b->Bits 2950 t2->Bits 2950 b2->(∀xs∈xss,xs.length<=20/\AllB 1000 xs)->xss.length<=1000000->(∀H',Same H H'->Q (.int ((chS (sgs t b xss)).1-(chS (sgs t2 b2 xss)).1)) H')->jd C vs H Q E
theorem Fs(F:Fun K "count" "count" nG f fd)(T:Txt K mg)(R:RCI K mg C)(NE:Cal P w K mg base 3 "changes" ["row","ratio"] (vZ C) Py OF):FnOk P w K mg base CX0 4 f fd ["row","low","high"] (jd C):=by
 obtain⟨Al,xH,yd,zQ⟩:=NE;refine F.ok Cw (λvs H Q E h=>?_) (λcdv A outer s H vs Q E hr h=>?_)
 ·obtain⟨l,r,r2,ps,xss,t,b,t2,b2,rfl,_⟩:=h;rfl
 ·obtain⟨l,r,r2,ps,xss,t,b,t2,b2,rfl,hL,hR,h1,h2,bt,bb,bt2,bb2,hb,hn,k⟩:=h;refine⟨_,(ah (am (ai bA (ag Al (hr.mono) rfl xH yd zQ .nil ad (aa (pv 0) (aa (pv 1) ac))) (ag Al (hr.mono) rfl xH yd zQ .nil ad (aa (pv 0) (aa (pv 2) ac)))))),?_⟩;refine aA ⟨_,rfl,_,rfl,l,r,ps,xss,t,b,rfl,hL,hR,h1,bt,bb,hb,hn,λH1 s1=>?_⟩;refine⟨_,rfl,_,rfl,l,r2,ps,xss,t2,b2,rfl,s1 _ _ hL,hR.same s1,h2.same s1,bt2,bb2,hb,hn,λH2 s2=>?_⟩;exact⟨_,_,rfl,rfl,k _ (s1.trans s2)⟩
theorem Aa(i:Int):(if i<0 then -i else i)=(i.natAbs:Int):=by split<;>omega
theorem LQ{l:List Int}(h:l≠[]):atI (l.map V.int) (-1)=some (.int (bT l)):=by obtain⟨r,x,rfl⟩:=(dA l).resolve_left h;rw[gg,Qd];exact tV _ _
theorem Kw{l:List Int}:gr l none (some (-1))=l.take (l.length-1):=by
 unfold gr;rw[HT.sIx_none]
 have e:HT.sIx l.length l.length (some (-1))=l.length-1:=by unfold HT.sIx;simp;omega
 rw[e,Rc,QU]
def isB(os:List Int)(l k:Nat):Prop:=(∀x∈os,x.natAbs<=(2^k-1)*l)/\∀j,j<k->∃x∈os,(2^j-1)*l<x.natAbs
def qE(K:PySem.W.Frag):Sp:=λvs H Q _=>∃(a:Addr) (ns:List Int),vs=[.ref a]/\SqL K H a (ns.map V.int)/\Tr ns/\ns≠[]/\ns.length<=100000/\AllB 100000 ns /\
 ∀(k:Nat) (H':Hp),k<=100000->isB (ns.take (ns.length-1)) (bT ns).natAbs k->Same H H'->Q (.int ((2^k:Nat):Int)) H'
theorem Dz{os:List Int}{F:Int->Prop}(h:∀g:Nat,(∀x∈os,x.natAbs<=g)->(g=0\/∃x∈os,x.natAbs=g)->F g) :
 (∀M,M∈os.map (λx=>(x.natAbs:Int))->(∀a∈os.map (λx=>(x.natAbs:Int)),a<=M)->F M)/\(os.map (λx=>(x.natAbs:Int))=[]->F 0):=by
 constructor
 ·intro M hM ha;obtain⟨x,hx,rfl⟩:=P4.mp hM;exact h x.natAbs (λy hy=>Int.ofNat_le.mp (ha _ (P4.mpr ⟨y,hy,rfl⟩))) (.inr ⟨x,hx,rfl⟩)
 ·intro e;have:os=[]:=List.map_eq_nil_iff.mp e;subst this;exact h 0 (λx hx=>nomatch hx) (.inl rfl)
theorem Fy(F:Fun K "bound" "bound" nN f fd)(T:Txt K mg):FnOk P w K mg base CX0 1 f fd ["row"] (qE K):=by
 refine F.ok sc_bound (λvs H Q E h=>?_) (λcdv A outer s H vs Q E hr h=>?_)
 ·obtain⟨a,ns,rfl,_⟩:=h;rfl
 ·obtain⟨a,ns,rfl,hA,ht,hne,hn,hb,k⟩:=h;have big:=sizeLine_eq
  refine⟨_,(af (aj (i:=1) sc_bound.nd rfl (Or.inl rfl) (aI fO (by rfl) T.abs_ PyProof.Rows.boot_abs (aa (ar (aO (K:=K) rfl) (pv 0) (aU aT ae) (λ_ _=>rfl)) ac)))
   (af (aj (i:=2) sc_bound.nd rfl (Or.inl rfl) (D2 (K:=K) rfl rfl (by rfl) T.max_ (cQ (own:=["value"]) (fr:=[]) (js:=[]) (by walk_at "comp_ok") rfl (dE (K:=K) rfl (iG (ix (K:=K) rfl) (pv 0) iF (iE (aU aT ae)))) (λ_ _ _ _=>(aJ (i:=0) (show List.Nodup (["value"]:List Str)from by decide +kernel) rfl (Or.inl rfl))) (λ_ _ _ _=>(aI fO (by rfl) T.abs_ PyProof.Rows.boot_abs (aa (pv 0) ac)))) ae))
   (af (aj (i:=3) sc_bound.nd rfl (Or.inl rfl) ae)
   (af (c9 PassesOwn.never (ax dF (ai av (ai bA (pv 3) ae) (pv 1)) (pv 2) (aw _))
     (ah (aj (i:=3) sc_bound.nd rfl (Or.inl rfl) (ai av ae (pv 3)))))
   (ah (am (pv 3))))))),?_⟩
  refine ao ⟨_,rfl,_,rfl,a,_,_,_,rfl,rfl,hA,LQ hne,_,rfl,?_⟩;rw[Aa]
  have hl0:bT ns≠0:=by obtain⟨r,x,rfl⟩:=(dA ns).resolve_left hne;rw[gg];exact tr_snoc.mp ht
  generalize hL:(bT ns).natAbs=L at k ⊢
  have hL1:1<=L:=by omega
  have bL:Bits 100000 (L:Int):=by obtain⟨r,x,rfl⟩:=(dA ns).resolve_left hne;rw[gg]at hL;exact(hb x (by simp)).of_le (by omega)
  refine ao ⟨_,rfl,_,rfl,_,rfl,a,_,rfl,hA,λp1 hp1=>?_⟩;rw[tj,Kw];have s1:Same H (upd H p1 (.lst ((ns.take (ns.length-1)).map V.int))):=Same.upd_new hp1;have q1:upd H p1 (.lst ((ns.take (ns.length-1)).map V.int)) p1=some (.lst ((ns.take (ns.length-1)).map V.int)):=ak;generalize hO:ns.take (ns.length-1)=os at k s1 q1 ⊢
  generalize upd H p1 (.lst (os.map V.int))=H1 at s1 q1 ⊢
  have bO:AllB 100000 os:=λx hx=>hb x (RS (hO ▸ hx))
  have lO:os.length<=100000:=by rw[<- hO,Qr];omega
  refine⟨p1,rfl,⟨_,SqL.of q1⟩,gU (K:=K) (a:=p1) (xs:=os.map V.int) (λi ys σ' H'=>∃(z0:Option V),σ'=[z0]/\ys=((os.take i).map λx=>(x.natAbs:Int)).map V.int/\H1=H') (by rw[PX];omega) ⟨none,rfl,rfl,rfl⟩ ?_ ?_ ?_⟩
  ·rintro i ys σ' H' _ ⟨z0,rfl,rfl,rfl⟩;exact⟨SqL.of q1,by rw[PX,PX,Qr];exact Nat.min_le_left _ _⟩
  ·rintro i x ys σ' H' hi ⟨z0,rfl,rfl,rfl⟩;rw[List.getElem?_map]at hi;cases e:os[i]? with
   |none=>rw[e]at hi;cases hi
   |some c =>rw[e]at hi;obtain rfl:=Option.some.inj hi;refine⟨_,rfl,_,rfl,_,rfl,?_,rfl⟩;rw[QE,e,Aa];simp
  ·rintro ys σ' H' p ⟨z0,rfl,rfl,rfl⟩ hp;rw[PX,QZ];have s2:Same H (upd H1 p (.lst ((os.map λx=>(x.natAbs:Int)).map V.int))):=s1.then_new hp;refine⟨p,_,rfl,SqL.of ak,?_⟩;generalize upd H1 p (.lst ((os.map λx=>(x.natAbs:Int)).map V.int))=H2 at s2 ⊢
   refine And.symm (Dz λg hg1 hg2=>?_)
   have bg:g<2^100000:=by
    rcases hg2 with rfl |⟨x,hx,rfl⟩
    ·exact Nat.pow_pos (by decide)
    ·exact bO x hx
   refine ao ?_;refine⟨λm σ' H'=>∃k0:Nat,σ'=[some (.ref a),some (.int L),some (.int g),some (.int ((2^k0:Nat):Int))]/\H2=H'/\2*g+2-2^k0=m/\2^k0<=2*g+1/\∀j,j<k0->(2^j-1)*L<g,⟨_,0,rfl,rfl,rfl,by omega,λj hj=>absurd hj (Nat.not_lt_zero _)⟩,?_⟩;rintro m σ' H' ⟨k0,rfl,rfl,rfl,h2,h3⟩
   have hk0:k0<=100000:=by
    have e:2^k0<2^100001:=by rw[Nat.pow_succ 2 100000];omega
    have:=(Q3 (a:=2) (by decide)).mp e;omega
   have hp:1<=2^k0:=Nat.pow_pos (by decide)
   have bk:Bits 100002 ((2^k0:Nat):Int):=by show((2^k0:Nat):Int).natAbs<_;rw[QH];exact(Q3 (a:=2) (by decide)).mpr (by omega)
   have bk1:Bits 100002 (((2^k0:Nat):Int)-1):=bk.of_le (by omega)
   have cast:(((2^k0:Nat):Int)-1)*(L:Int)=(((2^k0-1)*L:Nat):Int):=by rw[Rs,RH hp];rfl
   refine⟨_,rfl,_,_,rfl,rfl,_,rfl,_,_,rfl,rfl,⟨bk1.mono,bL.mono⟩,_,rfl,_,_,rfl,rfl,_,rfl,?_⟩;rw[cast];refine aG (λhlt=>?_) (λhge=>?_)
   ·have hlt':(2^k0-1)*L<g:=by exact Rx.mp hlt
    have h4:2^k0-1<g:=Ri (RT _ hL1) hlt';refine⟨λσ'' H''=>∃m',m'<2*g+2-2^k0/\∃k0:Nat,σ''=[some (.ref a),some (.int L),some (.int g),some (.int ((2^k0:Nat):Int))]/\H2=H''/\2*g+2-2^k0=m'/\2^k0<=2*g+1/\∀j,j<k0->(2^j-1)*L<g,λ_ _ h=>h,?_⟩;refine⟨_,rfl,_,_,rfl,rfl,⟨Bits.mono (j:=2) (by show(2:Int).natAbs<2^2;decide) (by decide),bk.mono⟩,?_⟩;have e2:(2:Int)*((2^k0:Nat):Int)=((2^(k0+1):Nat):Int):=by rw[Nat.pow_succ];omega
    have e3:2^(k0+1)=2*2^k0:=by rw[Nat.pow_succ];omega
    refine⟨2*g+2-2^(k0+1),by omega,k0+1,by rw[<- e2];rfl,rfl,rfl,by omega,λj hj=>?_⟩;by_cases ej:j=k0
    ·subst ej;exact hlt'
    ·exact h3 j (by omega)
   ·have hge':¬(2^k0-1)*L<g:=λz=>hge (Rx.mpr z)
    refine⟨_,rfl,k k0 H2 hk0 ⟨λx hx=>Qu (hg1 x hx) (by omega),λj hj=>?_⟩ s2⟩;have h5:=h3 j hj;rcases hg2 with rfl |⟨x,hx,e⟩
    ·exact absurd h5 (Nat.not_lt_zero _)
    ·exact⟨x,hx,by rw[e];exact h5⟩
def As(one other:List Int):Prop:=Tr one/\Tr other/\∃n,AllB n one/\AllB n other/\(one.length+2)*(n+1)<=1000000/\other.length<=1000000
noncomputable def kO:Nat->List Int->List Int->Prop
 |0,_,other=>other=[]
 |n+1,one,other=>other=[]\/(As one other/\kO n other (aL (ck one other)))
inductive vX(vs:List V)(H:Hp)(Q:VK)(E:XK):Prop
 |mk (a b:Addr) (xs ys:List Int) (n:Nat):vs=[.ref a,.ref b]->H a=some (.lst (xs.map V.int))->H b=some (.lst (ys.map V.int))->Tr xs->Tr ys->xs.length<=1000->ys.length<=1000->kO n (aL xs) (aL ys)->mkL H Q (cW n (aL xs) (aL ys))->vX vs H Q E
theorem Ft(F:Fun K "common" "common" nI f fd)(T:Txt K mg)(cU:Cal P w K mg base 34 "plain" ["row"] fj gQ gP)(ln:Cal P w K mg base 2 "divided" ["first","second"] lP yZ yO):FnOk P w K mg base CX0 35 f fd ["first","second"] vX:=by
 obtain⟨cE,cA,cB,cD⟩:=cU;obtain⟨kX,jR,j4,kI⟩:=ln;refine F.ok sc_common (λvs H Q E h=>?_) (λcdv A outer s H vs Q E hr h=>?_)
 ·obtain⟨a,b,xs,ys,n,rfl,_⟩:=h;rfl
 ·obtain⟨a,b,xs,ys,n,rfl,hA,hB,xtr,ytr,hx,hy,hrun,k⟩:=h;have big:=sizeLine_eq;have hu:=hr.units
  refine⟨_,(af (aj (i:=2) sc_common.nd rfl (Or.inl rfl) (ag cE (hr.mono) rfl cA cB cD .nil ad (aa (pv 0) ac)))
   (af (aj (i:=3) sc_common.nd rfl (Or.inl rfl) (ag cE (hr.mono) rfl cA cB cD .nil ad (aa (pv 1) ac)))
   (af (c9 PassesOwn.never (ax (jD (K:=K) rfl hu) (pv 3) (aK ac) (aw _))
     (af (aj (i:=4) sc_common.nd rfl (Or.inl rfl) (ag cE (hr.mono) rfl cA cB cD .nil ad (aa (ar (aN (K:=K) rfl) (ag kX (hr.mono) rfl jR j4 kI .nil ad (aa (pv 2) (aa (pv 3) ac))) ae (λ_ _=>rfl)) ac)))
       (af (aj (i:=2) sc_common.nd rfl (Or.inl rfl) (pv 3))
       (ah (aj (i:=3) sc_common.nd rfl (Or.inl rfl) (pv 4))))))
   (ah (am (pv 2)))))),?_⟩
  refine ao ⟨_,rfl,a,xs,rfl,hA,xtr,by omega,λp1 H1 s1 hp1 e1=>?_⟩;refine ao ⟨_,rfl,b,ys,rfl,s1 _ _ hB,ytr,by omega,λp2 H2 sm2 hp2 e2=>?_⟩;have s2:=s1.trans sm2;generalize aL xs=one' at hrun k e1
  generalize aL ys=other' at hrun k e2
  refine⟨λm σ' H'=>∃(po pt:Addr) (one other:List Int) (z4:Option V),σ'=[some (.ref a),some (.ref b),some (.ref po),some (.ref pt),z4]/\Same H H'/\H' po=some (.lst (one.map V.int))/\H' pt=some (.lst (other.map V.int))/\H po=none/\H pt=none/\kO m one other/\cW m one other=cW n one' other',
   ⟨_,p1,p2,one',other',none,rfl,s2,sm2 _ _ e1,e2,hp1,s1.free hp2,hrun,rfl⟩,?_⟩
  rintro m σ' H3 ⟨po,pt,one,other,z4,rfl,s3,ho,ht,fo,ft,hrun3,hcom⟩;refine⟨_,rfl,P6 _,λq hq=>?_⟩;have t4:=Same.upd_new (o:=.lst []) hq;refine⟨pt,q,other,[],rfl,rfl,SqL.of (t4 _ _ ht),SqL.of ak,_,rfl,cO (λhne=>?_) (λhe=>?_)⟩
  rotate_left
  ·have he':other=[]:=he;subst he';rw[zr]at hcom;refine⟨_,rfl,k po _ (s3.trans t4) fo ?_⟩;rw[<- hcom];exact t4 _ _ ho
  have hne':other≠[]:=hne
  obtain⟨m1,rfl⟩:∃m1,m=m1+1:=by
   cases m with
   |zero=>exact absurd hrun3 hne'
   |succ m1=>exact⟨m1,rfl⟩
  obtain⟨⟨otr,ttr,nb,bo,bt,hsz,htl⟩,hrun5⟩:=(show other=[]\/(As one other/\kO m1 other (aL (ck one other)))from hrun3).resolve_left hne'
  have hcom5:cW m1 other (aL (ck one other))=cW n one' other':=by
   rw[<- hcom];show _=if other=[]then one else cW m1 other (aL (ck one other))
   rw[if_neg hne']
  generalize hH5:upd H3 q (.lst [])=H5 at t4 ⊢
  refine⟨λσ'' H''=>∃m',m'<m1+1/\∃(po pt:Addr) (one other:List Int) (z4:Option V),σ''=[some (.ref a),some (.ref b),some (.ref po),some (.ref pt),z4]/\Same H H''/\H'' po=some (.lst (one.map V.int))/\H'' pt=some (.lst (other.map V.int))/\H po=none/\H pt=none/\kO m' one other/\cW m' one other=cW n one' other',λ_ _ h=>h,?_⟩
  have hrl:(ck one other).length<=1000000:=by have:=pK (a:=one) hne';omega
  refine ao ⟨_,rfl,_,rfl,po,pt,one,other,nb,rfl,t4 _ _ ho,t4 _ _ ht,hne',bo,bt,hsz,htl,λt q' r H8 sm8 _ _ _ _ _ _ et _ er=>?_⟩;refine⟨t,_,_,_,rfl,rfl,SqT.of et,rfl,r,_,rfl,er,zb _ _,hrl,λp9 H9 sm9 hp9 e9=>?_⟩;refine ao ⟨_,rfl,?_⟩;refine⟨_,rfl,?_⟩;have t9:=(t4.trans sm8).trans sm9;exact⟨m1,QP _,pt,p9,other,_,_,rfl,s3.trans t9,t9 _ _ ht,e9,ft,s3.free ((t4.trans sm8).free hp9),hrun5,hcom5⟩
inductive vG(vs:List V)(H:Hp)(Q:VK)(E:XK):Prop
 |mk (a b:Addr) (xs ys:List Int) (n:Nat):vs=[.ref a,.ref b]->H a=some (.lst (xs.map V.int))->H b=some (.lst (ys.map V.int))->Tr xs->Tr ys->AllB n xs->AllB n ys->(xs.length+2)*(n+1)<=1000000->ys.length<=1000000->ys≠[]->ck xs ys=[]->mkL H Q (aL (d6 xs ys))->vG vs H Q E
theorem EU(F:Fun K "part" "part" mT f fd)(T:Txt K mg)(ln:Cal P w K mg base 2 "divided" ["first","second"] lP yZ yO)(cU:Cal P w K mg base 34 "plain" ["row"] fj gQ gP):FnOk P w K mg base CX0 35 f fd ["row","divisor"] vG:=by
 obtain⟨kX,jR,j4,kI⟩:=ln;obtain⟨cE,cA,cB,cD⟩:=cU;refine F.ok sc_part (λvs H Q E h=>?_) (λcdv A outer s H vs Q E hr h=>?_)
 ·obtain⟨a,b,xs,ys,n,rfl,_⟩:=h;rfl
 ·obtain⟨a,b,xs,ys,nb,rfl,hA,hB,xtr,ytr,bx,by',hsz,hyn,hy,hR,k⟩:=h;have hu:=hr.units
  refine⟨_,(af (aj (i:=2) sc_part.nd rfl (Or.inl rfl) (ag kX (hr.mono) rfl jR j4 kI .nil ad (aa (pv 0) (aa (pv 1) ac))))
   (af (aB (ax (jD (K:=K) rfl hu) (ar (aN (K:=K) rfl) (pv 2) ae (λ_ _=>rfl)) (aK ac) (aw _))
     (ah gy)
     aC)
   (ah (am (ag cE (hr.mono) rfl cA cB cD .nil ad (aa (ar (aN (K:=K) rfl) (pv 2) ae (λ_ _=>rfl)) ac)))))),?_⟩
  refine ao ⟨_,rfl,_,rfl,a,b,xs,ys,nb,rfl,hA,hB,hy,bx,by',hsz,hyn,λt q r H1 sm1 ft fq fr _ _ _ et eq er=>?_⟩;refine aS ⟨_,rfl,t,_,_,_,rfl,rfl,SqT.of et,rfl,P6 _,λp hp=>?_⟩;have s2:=Same.upd_new (o:=.lst []) hp;refine⟨r,p,_,[],rfl,rfl,SqL.of (s2 _ _ er),SqL.of ak,_,rfl,cO (λh=>absurd hR h) (λh=>?_)⟩;have lq:=zd (a:=xs) hy
  have hxl:xs.length<=1000000:=by have:=Nat.mul_le_mul_left (xs.length+2) (show 1<=nb+1 by omega);omega
  have hN:bC xs ys<=xs.length+1:=by unfold bC;omega
  have hN2:bC xs ys<=xs.length:=by have:=Qe.mpr hy;unfold bC;omega
  exact⟨_,rfl,t,_,_,_,rfl,rfl,SqT.of (s2 _ _ et),rfl,q,d6 xs ys,rfl,s2 _ _ eq,zc hy xtr ytr,by omega,λp' H' sm' hp' e'=>k p' H' ((sm1.then_new hp).trans sm') ((sm1.then_new hp).free hp') e'⟩
theorem BT{n:Nat}{l:List Int}(h:AllB n l):AllB n (au l):=by
 intro y hy;obtain⟨x,hx,rfl⟩:=P4.mp hy;obtain⟨d,hd⟩:=ke hx;by_cases hg:(aE l:Int)=0
 ·rw[hg,Int.ediv_zero];exact Bits.zero
 ·have e:x/(aE l:Int)=d:=by rw[hd];exact Int.mul_ediv_cancel_left d hg
  rw[e];refine(h x hx).of_le ?_;rw[hd,QD];exact RD _ (RC.mpr hg)
theorem wo(c:Int):AllB 1000 [sg c]:=λx hx=>by rw[Qc.mp hx];exact sg_bits.mono
theorem wn{c:Int}(hc:c≠0):Tr [sg c]:=λn hn=>by
 have e:n=0:=by simpa using hn.symm
 subst e;show sg c≠0;unfold sg;split<;>(try split)<;>omega
theorem Jz{c:Int}(hc:c≠0):Run 1 [sg c] []:=by refine .inr ⟨⟨wn hc,uW,1000,wo c,AllB.nil,by show(1+2)*(1000+1)<=1000000;decide,P6 _⟩,rfl⟩
theorem wk(f c:Int):slopeL [f,c]=[c]:=by show[(((0:Nat):Int)+1)*c]=[c];simp
theorem ww{f c:Int}(hc:c≠0)(hb:AllB 1000 [f,c]):Run 2 (au [f,c]) (au (slopeL [f,c]))/\c8 2 (au [f,c]) (au (slopeL [f,c]))=[[f/((Nat.gcd f.natAbs c.natAbs:Nat):Int),c/((Nat.gcd f.natAbs c.natAbs:Nat):Int)],[sg c]]:=by
 have htr:Tr [f,c]:=λn hn=>by
  have e:n=1:=by simp at hn;omega
  subst e;exact hc
 have eg:aE [f,c]=Nat.gcd f.natAbs c.natAbs:=by show Nat.gcd (Nat.gcd 0 f.natAbs) c.natAbs=_;rw[Rj]
 have es:au [f,c]=[f/((Nat.gcd f.natAbs c.natAbs:Nat):Int),c/((Nat.gcd f.natAbs c.natAbs:Nat):Int)]:=by unfold au;rw[eg];rfl
 rw[wk,wm hc];have hne:([sg c]:List Int)≠[]:=by simp
 have hx:nxt (au [f,c]) [sg c]=[]:=FY hne rfl;constructor
 ·refine .inr ⟨⟨uV htr,wn hc,1000,BT hb,wo c,?_,by show 1<=1000000;decide⟩,?_⟩
  ·rw[es];show(2+2)*(1000+1)<=1000000;decide
  ·rw[hx];exact Jz hc
 ·show(if au [f,c]=[]then[]else au [f,c]::c8 1 [sg c] (nxt (au [f,c]) [sg c]))=_;rw[if_neg (by rw[es];simp),hx,es];rfl
def Lin(t b:Int):Prop:=0<b/\Nat.gcd t.natAbs b.natAbs=1/\Bits 380 t/\Bits 380 b
theorem Lin.tr{t b:Int}(h:Lin t b):Tr [-t,b]:=(tr_snoc (r:=[-t])).mpr (by have:=h.1;omega)
theorem Lin.bits{t b:Int}(h:Lin t b):AllB 380 [-t,b]:=λx hx=>by
 simp only[P8,Qv,or_false]at hx;rcases hx with rfl |rfl
 ·exact h.2.2.1.neg
 ·exact h.2.2.2
theorem Lin.gcd{t b:Int}(h:Lin t b):aE [-t,b]=1:=by show Nat.gcd (Nat.gcd 0 (-t).natAbs) b.natAbs=1;rw[Rj,QA];exact h.2.1
theorem Lin.shr{t b:Int}(h:Lin t b):au [-t,b]=[-t,b]:=lT (.inr h.gcd)
theorem Lin.plain{t b:Int}(h:Lin t b):aL [-t,b]=[-t,b]:=by unfold aL;rw[h.shr];unfold cp;have:bT [-t,b]=b:=rfl;rw[this,if_neg (by have:=h.1;omega)]
theorem wP{b:Int}(hb:0<b):aL [b]=[1]:=by
 unfold aL;rw[wm (by omega)];have:sg b=1:=by unfold sg;split<;>(try split)<;>omega
 rw[this];rfl
theorem EL(F:Fun K "refuse_high" "refuse_high" mK f fd)(T:Txt K mg):FnOk P w K mg base CX0 1 f fd ["height"] (λvs H Q _=>∃i:Int,vs=[.int i]/\i<=8/\Q .non H):=by
 obtain⟨tH,hHIGHEST⟩:=T.HIGHEST_;refine F.ok Ck (λvs H Q E h=>?_) (λcdv A outer s H vs Q E hr h=>?_)
 ·obtain⟨i,rfl,_⟩:=h;rfl
 ·obtain⟨i,rfl,hi,k⟩:=h
  refine⟨_,(ah (aB (ax fB (pv 0) (f8 (v:=.int 8) rfl hHIGHEST ⟨_,rfl⟩) (aw _))
   (ah gy)
   aC)),?_⟩
  refine jq ⟨_,rfl,_,_,rfl,rfl,_,rfl,aG (λh=>absurd (show i>8 from h) (by omega)) (λ_=>?_)⟩;exact k
inductive i8(vs:List V)(H:Hp)(Q:VK)(E:XK):Prop
 |mk (a:Addr) (t b:Int):vs=[.ref a]->H a=some (.lst ([-t,b].map V.int))->Lin t b->mkL H Q [-t,b]->i8 vs H Q E
theorem Eh(F:Fun K "without_squares" "without_squares" lW f fd)(T:Txt K mg)(Nh:Cal P w K mg base 35 "part" ["row","divisor"] vG Pc Oi)(NC:Cal P w K mg base 35 "common" ["first","second"] vX Pw OD)(uw:Cal P w K mg base 1 "slope" ["row"] (sp1 slopeL) JW JE):FnOk P w K mg base CX0 36 f fd ["row"] i8:=by
 obtain⟨Mp,G7,Ij,Li⟩:=Nh;obtain⟨MI,Hq,IF,LC⟩:=NC;obtain⟨ub,rL,sk,tK⟩:=uw;refine F.ok B7 (λvs H Q E h=>?_) (λcdv A outer s H vs Q E hr h=>?_)
 ·obtain⟨a,t,b,rfl,_⟩:=h;rfl
 ·obtain⟨a,t,b,rfl,hA,hL,k⟩:=h;have hu:=hr.units;have hb:=hL.1
  refine⟨_,(af (aB (ax (iJ (K:=K) rfl hu) (pv 0) (aK ac) (aw _))
   (ah (am (aK ac)))
   aC)
   (ah (am (ag Mp (hr.mono) rfl G7 Ij Li .nil ad (aa (pv 0) (aa (ag MI (hr.mono) rfl Hq IF LC .nil ad (aa (pv 0) (aa (ag ub (hr.mono) rfl rL sk tK .nil ad (aa (pv 0) ac)) ac))) ac)))))),?_⟩
  refine aS ⟨_,rfl,P6 _,λp0 hp0=>?_⟩;have s0:Same H (upd H p0 (.lst [])):=Same.upd_new hp0;refine⟨a,p0,[-t,b],[],rfl,rfl,SqL.of (s0 _ _ hA),SqL.of ak,_,rfl,aG (λh0=>absurd h0 (by simp)) (λ_=>?_)⟩;generalize upd H p0 (.lst [])=H0 at s0 ⊢
  have hA0:=s0 _ _ hA;refine aA ⟨_,rfl,_,rfl,_,rfl,a,[-t,b],rfl,hA0,by show 2<=100000;decide,hL.bits.mono,λp1 H1 s1 hp1 e1=>?_⟩;rw[wk]at e1;have t1:=s0.trans s1;have b1:AllB 380 [b]:=λx hx=>by rw[Qc.mp hx];exact hL.2.2.2
  have o1:AllB 380 ([1]:List Int):=λx hx=>by rw[Qc.mp hx];exact Bits.mono (j:=1) (by show(1:Int).natAbs<2^1;decide) (by decide)
  have tr1:Tr ([1]:List Int):=(tr_snoc (r:=[])).mpr (by decide);have dn:ck [-t,b] [1]=[]:=zh (by simp) rfl;have pn:aL ([]:List Int)=[]:=rfl;refine⟨a,p1,[-t,b],[b],1,rfl,t1 _ _ hA,e1,hL.tr,(tr_snoc (r:=[])).mpr (by omega),by show 2<=1000;decide,by show 1<=1000;decide,?_,λp2 H2 s2 hp2 e2=>?_⟩
  ·rw[hL.plain,wP hb];refine .inr ⟨⟨hL.tr,tr1,380,hL.bits,o1,by show(2+2)*(380+1)<=1000000;decide,by show 1<=1000000;decide⟩,?_⟩;rw[dn];exact pn
  have ec:cW 1 (aL [-t,b]) (aL [b])=[1]:=by rw[hL.plain,wP hb,KA (by simp),dn,pn,zr]
  rw[ec]at e2;have t2:=t1.trans s2;refine⟨a,p2,[-t,b],[1],380,rfl,t2 _ _ hA,e2,hL.tr,tr1,hL.bits,o1,by show(2+2)*(380+1)<=1000000;decide,by show 1<=1000000;decide,by simp,dn,λp3 H3 s3 hp3 e3=>?_⟩
  have eq:aL (d6 [-t,b] [1])=[-t,b]:=by
   have hd:=zf (a:=[-t,b]) (b:=[1]) (by simp)
   have hF:kq [-t,b] [1]=1:=by unfold kq;show((1:Int).natAbs:Int)^_=1;exact Int.one_pow
   have hc:∀n,cf (d6 [-t,b] [1]) n=cf [-t,b] n:=λn=>by have h:=hd n;rw[hF,dn,bV,rm,jG]at h;omega
   have hq:d6 [-t,b] [1]=[-t,b]:=gR (zc (by simp) hL.tr tr1) hL.tr hc;rw[hq,hL.plain]
  rw[eq]at e3;exact k p3 H3 (t2.trans s3) (t2.free hp3) e3
structure NCI(K:PySem.W.Frag)(mg:Str->Option Value)(CN:Addr):Prop where
 cl:Cls K CN
 nP:NoAttr K CN "poly"
 nL:NoAttr K CN "low"
 nH:NoAttr K CN "high"
 mg:mg "Number"=some (.ref CN)
 ha:PySem.W.findIn K (.ref CN) "__class__"=some (some (.builtin "object.__class__"))
 hn:PySem.W.specialIn K (.builtin "object.__class__") "__get__"=some (some (.builtin "getset_descriptor.__get__"))
 ht:PySem.W.takesIn K (.builtin "object.__class__")=some true
 hm:PySem.W.mroIn K CN (.type "object")=some true
noncomputable def gl(p l h:Addr):List (Str×V):=b8 "high" (.ref h) (b8 "low" (.ref l) (b8 "poly" (.ref p) []))
theorem DY:¬(("poly":Str)="high"):=by decide +kernel
theorem DU:¬(("poly":Str)="low"):=by decide +kernel
theorem HD:¬(("low":Str)="high"):=by decide +kernel
theorem iR(p l h:Addr):(gl p l h).lookup ("high":Str)=some (.ref h):=by unfold gl;rw[db,if_pos rfl]
theorem kj(p l h:Addr):(gl p l h).lookup ("low":Str)=some (.ref l):=by unfold gl;rw[db,if_neg HD,db,if_pos rfl]
theorem cL(p l h:Addr):(gl p l h).lookup ("poly":Str)=some (.ref p):=by unfold gl;rw[db,if_neg DY,db,if_neg DU,db,if_pos rfl]
def NA(CN:Addr)(H:Hp)(x p l h:Addr):Prop:=∃dx,H x=some (.ins CN dx (gl p l h))
theorem NA.same{CN:Addr}{H H':Hp}{x p l h:Addr}(n:NA CN H x p l h)(s:Same H H'):NA CN H' x p l h:=let⟨dx,e⟩:=n;⟨dx,s _ _ e⟩
inductive fk(CN:Addr)(vs:List V)(H:Hp)(Q:VK)(E:XK):Prop
 |mk (x dx r l h:Addr) (ns:List V):vs=[.ref x,.ref r,.ref l,.ref h]->H x=some (.ins CN dx [])->H r=some (.lst ns)->(∀p,H p=none->Q .non (upd (upd H p (.lst ns)) x (.ins CN dx (gl p l h))))->fk CN vs H Q E
theorem FV(F:Fun K "__init__" "Number.__init__" ol f fd)(T:Txt K mg)(RN:NCI K mg CN):FnOk P w K mg base CX0 1 f fd ["self","row","low","high"] (fk CN):=by
 refine F.ok CT (λvs H Q E h=>?_) (λcdv A outer s H vs Q E hr h=>?_)
 ·obtain⟨x,dx,r,l,h,ns,rfl,_⟩:=h;rfl
 ·obtain⟨x,dx,r,l,h,ns,rfl,hx,hR,k⟩:=h
  refine⟨_,(af (jx (pv 0) (jA (ky (K:=K) rfl) (by rfl) T.list_ PyProof.Rows.boot_list (aa (pv 1) ac)) rfl)
   (af (jx (pv 0) (pv 2) rfl)
   (ah (jx (pv 0) (pv 3) rfl)))),?_⟩
  refine⟨_,rfl,r,_,rfl,.inl (SqL.of hR),λp hp=>?_⟩;have npx:x≠p:=aD hx hp;refine⟨_,rfl,x,CN,dx,_,rfl,by rw[upd_ne npx];exact hx,RN.cl,RN.nP,by show 0<1000;decide,?_⟩;refine⟨_,rfl,_,rfl,x,CN,dx,_,rfl,ak,RN.cl,RN.nL,by show 1<1000;decide,?_⟩;refine⟨_,rfl,_,rfl,x,CN,dx,_,rfl,ak,RN.cl,RN.nH,by show 2<1000;decide,?_⟩;show Q .non (upd (upd (upd (upd H p _) x _) x _) x _);rw[lA,lA];exact k p hp
theorem Fm(F:Fun K "fine_width" "fine_width" nA f fd)(T:Txt K mg):FnOk P w K mg base CX0 1 f fd ["whole"] cx:=F.ok Ct (λ_ _ _ _ h=>h.elim) (λ_ _ _ _ _ _ _ _ _ h=>h.elim)
theorem Fb(F:Fun K "line_of" "line_of" ni f fd)(T:Txt K mg):FnOk P w K mg base CX0 1 f fd ["whole","span"] cx:=F.ok Cq (λ_ _ _ _ h=>h.elim) (λ_ _ _ _ _ _ _ _ _ h=>h.elim)
theorem Fx(F:Fun K "cells" "cells" nM f fd)(T:Txt K mg):FnOk P w K mg base CX0 1 f fd ["row"] cx:=F.ok CA (λ_ _ _ _ h=>h.elim) (λ_ _ _ _ _ _ _ _ _ h=>h.elim)
theorem Et(F:Fun K "square_of" "square_of" ml f fd)(T:Txt K mg):FnOk P w K mg base CX0 1 f fd ["whole","span","other"] cx:=F.ok Cb (λ_ _ _ _ h=>h.elim) (λ_ _ _ _ _ _ _ _ _ h=>h.elim)
theorem Fn(F:Fun K "divides" "divides" nC f fd)(T:Txt K mg):FnOk P w K mg base CX0 1 f fd ["divisor","row"] cx:=F.ok Cu (λ_ _ _ _ h=>h.elim) (λ_ _ _ _ _ _ _ _ _ h=>h.elim)
theorem E8(F:Fun K "middle" "middle" na f fd)(T:Txt K mg):FnOk P w K mg base CX0 1 f fd ["low","high"] cx:=F.ok Co (λ_ _ _ _ h=>h.elim) (λ_ _ _ _ _ _ _ _ _ h=>h.elim)
theorem FD(F:Fun K "added" "added" nS f fd)(T:Txt K mg)(dz:Cal P w K mg base 1 "poly" ["row"] (fX K) iT iS)(uH:Cal P w K mg base 1 "coefficient" ["row","place"] (je K) J7 JP):FnOk P w K mg base CX0 2 f fd ["first","second"] (iw K bj):=by
 obtain⟨dq,da,de,dk⟩:=dz;obtain⟨kZ,jT,j6,kK⟩:=uH;refine F.ok sc_added (λvs H Q E h=>?_) (λcdv A outer s H vs Q E hr h=>?_)
 ·obtain⟨a,b,xs,ys,rfl,_⟩:=h;rfl
 ·obtain⟨a,b,xs,ys,rfl,hA,hB,hx,hy,k⟩:=h
  refine⟨_,(af (aj (i:=2) sc_added.nd rfl (Or.inl rfl) (aI (zC rfl) (by rfl) T.max_ PyProof.Rows.boot_max (aa (aI (cn (K:=K) rfl) (by rfl) T.len_ PySem.boot_len (aa (pv 0) ac)) (aa (aI (cn (K:=K) rfl) (by rfl) T.len_ PySem.boot_len (aa (pv 1) ac)) ac))))
   (ah (am (ag dq (hr.mono) rfl da de dk .nil ad (aa (cQ (own:=["k"]) (fr:=["first","second"]) (js:=[0,1]) (by walk_at "comp_ok") rfl (dO rfl T.range_ (aa (pv 2) ac)) (λ_ _ _ _=>(aJ (i:=0) (show List.Nodup (["k","first","second"]:List Str)from by decide +kernel) rfl (Or.inl rfl))) (λ_ _ _ _=>(ai aZ (ag kZ (hr.mono) rfl jT j6 kK .nil ad (aa (pv 1) (aa (pv 0) ac))) (ag kZ (hr.mono) rfl jT j6 kK .nil ad (aa (pv 2) (aa (pv 0) ac)))))) ac))))),?_⟩
  refine⟨_,rfl,a,_,rfl,.inl hA,_,rfl,b,_,rfl,.inl hB,_,_,rfl,?_⟩;rw[xC,PX,PX];have hz:max xs.length ys.length<=sizeLine:=by have:=sizeLine_eq;omega
  refine⟨_,rfl,_,rfl,(lS hz).1,(lS hz).2,fM (lo:=0) (n:=max xs.length ys.length) (λi zs σ' H'=>∃z:Option V,σ'=[z,some (.ref a),some (.ref b)]/\zs=((List.range i).map λk=>V.int (cf xs k+cf ys k))/\H=H') hz ⟨none,rfl,rfl,rfl⟩ ?_ ?_ ?_⟩
  ·rintro i zs σ' H' _ ⟨z,rfl,rfl,rfl⟩;simp
  ·rintro i zs σ' H' hi ⟨z,rfl,rfl,rfl⟩;refine⟨_,rfl,_,rfl,a,xs,i,?_,hA,_,rfl,_,rfl,b,ys,i,?_,hB,_,_,rfl,rfl,_,rfl,?_,rfl⟩
   ·show[V.ref a,V.int (0+(i:Int))]=_;rw[QR]
   ·show[V.ref b,V.int (0+(i:Int))]=_;rw[QR]
   ·rw[Q2,Qd];rfl
  ·rintro zs σ' H' p ⟨z,rfl,rfl,rfl⟩ hp;refine⟨p,(List.range (max xs.length ys.length)).map λk=>cf xs k+cf ys k,rfl,SqL.of ?_,?_⟩
   ·rw[ak,Qp];rfl
   ·intro p' H' sm hp' e;refine k p' H' ((Same.upd_new hp).trans sm) ((Same.upd_new hp).free hp') ?_;rw[e,LY]
inductive lM(vs:List V)(H:Hp)(Q:VK)(E:XK):Prop
 |mk (a b:Addr) (xs ys:List Int):vs=[.ref a,.ref b]->H a=some (.lst (xs.map V.int))->H b=some (.lst (ys.map V.int))->xs.length<=1000000->ys.length<=1000000->AllB 1000000 xs->AllB 1000000 ys->mkL H Q (ap xs ys)->lM vs H Q E
theorem E5(F:Fun K "multiplied" "multiplied" m6 f fd)(T:Txt K mg):FnOk P w K mg base CX0 1 f fd ["first","second"] lM:=by
 refine F.ok sc_multiplied (λvs H Q E h=>?_) (λcdv A outer s H vs Q E hr h=>?_)
 ·obtain⟨a,b,xs,ys,rfl,_⟩:=h;rfl
 ·obtain⟨a,b,xs,ys,rfl,hA,hB,hx,hy,bx,by',k⟩:=h;have hu:=hr.units
  refine⟨_,(af (aB (PW.pt (ju (ax (iJ (K:=K) rfl hu) (pv 0) (aK ac) (aw _)) (jt (ax (iJ (K:=K) rfl hu) (pv 1) (aK ac) (aw _)))))
   (ah (am (aK ac)))
   aC)
   (af (aj (i:=2) sc_multiplied.nd rfl (Or.inl rfl) (ai jC (aK (aa ae ac)) (ai bA (ai aZ (aI (cn (K:=K) rfl) (by rfl) T.len_ PySem.boot_len (aa (pv 0) ac)) (aI (cn (K:=K) rfl) (by rfl) T.len_ PySem.boot_len (aa (pv 1) ac))) ae)))
   (af (cg PassesOwn.never rfl (oz rfl T.enumerate_ (aa (pv 0) ac)) (oB rfl (f7 (aJ (i:=3) sc_multiplied.nd rfl (Or.inl rfl)) (f7 (aJ (i:=4) sc_multiplied.nd rfl (Or.inl rfl)) oA)))
     (ah (cg PassesOwn.never rfl (oz rfl T.enumerate_ (aa (pv 1) ac)) (oB rfl (f7 (aJ (i:=5) sc_multiplied.nd rfl (Or.inl rfl)) (f7 (aJ (i:=6) sc_multiplied.nd rfl (Or.inl rfl)) oA)))
       (ah (ou (ai aZ (ar (aO (K:=K) rfl) (pv 2) (ai aZ (pv 3) (pv 5)) (λ_ _=>rfl)) (ai av (pv 4) (pv 6))) (oC (pv 2) (ai aZ (pv 3) (pv 5)) lU))))))
   (ah (am (pv 2)))))),?_⟩
  refine⟨_,rfl,P6 _,λp1 hp1=>?_⟩;have s1:Same H (upd H p1 (.lst [])):=Same.upd_new hp1;refine⟨a,p1,xs,[],rfl,rfl,SqL.of (s1 _ _ hA),SqL.of ak,_,rfl,?_⟩;refine aG (λh0=>?_) (λh0=>?_)
  ·refine dN ⟨P6 _,λp2 hp2=>k p2 _ (s1.then_new hp2) (s1.free hp2) ?_⟩;rw[ak];unfold ap;rw[if_pos (.inl h0)];rfl
  refine⟨_,rfl,P6 _,λp2 hp2=>?_⟩;have s2:Same H (upd (upd H p1 (.lst [])) p2 (.lst [])):=s1.then_new hp2;refine⟨b,p2,ys,[],rfl,rfl,SqL.of (s2 _ _ hB),SqL.of ak,_,rfl,?_⟩;refine aG (λh1=>?_) (λh1=>?_)
  ·refine⟨P6 _,λp3 hp3=>k p3 _ (s2.then_new hp3) (s2.free hp3) ?_⟩;rw[ak];unfold ap;rw[if_pos (.inr h1)];rfl
  generalize upd (upd H p1 (.lst [])) p2 (.lst [])=H2 at s2 ⊢
  obtain⟨la,ea⟩:∃la,xs.length=la+1:=⟨xs.length-1,by have:=Qe.mpr h0;omega⟩;obtain⟨lb,eb⟩:∃lb,ys.length=lb+1:=⟨ys.length-1,by have:=Qe.mpr h1;omega⟩;refine⟨(by show 1<=sizeLine;decide),λp3 hp3=>?_⟩;have s3:=s2.then_new (o:=.lst [V.int 0]) hp3;have big:=sizeLine_eq;refine⟨_,rfl,a,_,rfl,.inl (SqL.of (s3 _ _ hA)),_,rfl,b,_,rfl,.inl (SqL.of (s3 _ _ hB)),_,_,rfl,rfl,_,_,rfl,rfl,p3,_,_,rfl,rfl,ak,?_,?_,?_,λp hp=>?_⟩
  ·rw[PX,PX];omega
  ·rw[PX,PX];omega
  ·rw[PX,PX];show 1*_<=_;omega
  have en:(((xs.map V.int).length:Int)+((ys.map V.int).length:Int)-1).toNat=la+lb+1:=by rw[PX,PX];omega
  rw[en,jp];have s4:=s3.then_new (o:=.lst ((List.replicate (la+lb+1) (0:Int)).map V.int)) hp;have npa:a≠p:=s3.ne hA hp;have npb:b≠p:=s3.ne hB hp;generalize hH4:upd (upd H2 p3 (.lst [V.int 0])) p (.lst ((List.replicate (la+lb+1) (0:Int)).map V.int))=H4 at s4 ⊢
  have hp4:H4 p=some (.lst ((List.replicate (la+lb+1) (0:Int)).map V.int)):=by rw[<- hH4,ak]
  refine⟨_,rfl,a,rfl,⟨_,SqL.of (s4 _ _ hA)⟩,sK (K:=K) (a:=a) (xs:=xs.map V.int) (λj σ' H'=>∃(acc:List Int) (z3 z4 z5 z6:Option V),σ'=[some (.ref a),some (.ref b),some (.ref p),z3,z4,z5,z6]/\SameB p H4 H'/\H' p=some (.lst (acc.map V.int))/\acc.length=la+lb+1/\∀n,n<acc.length->cf acc n=sm xs ys n j)
   ⟨List.replicate (la+lb+1) 0,none,none,none,none,rfl,SameB.refl _ _,hp4,by simp,λn _=>by rw[ku];rfl⟩ ?_ ?_ ?_⟩
  ·rintro j σ' H' _ ⟨acc,z3,z4,z5,z6,rfl,sb,_⟩;exact SqL.of (sb _ _ npa (s4 _ _ hA))
  ·rintro j x σ' H' q hj ⟨acc,z3,z4,z5,z6,rfl,sb,hpa,hal,hac⟩ hq;rw[List.getElem?_map]at hj
   have hjl:j<xs.length:=by apply Classical.byContradiction;intro hn;rw[List.getElem?_eq_none_iff.mpr (QX hn)]at hj;cases hj
   rw[gk hjl]at hj;obtain rfl:=Option.some.inj hj;refine⟨q,_,rfl,SqT.of ak,rfl,_,_,rfl,_,_,rfl,rfl,?_⟩;have nqp:p≠q:=aD hpa hq;have sb1:SameB p H4 (upd H' q (.tup [.int j,.int (cf xs j)])):=sb.then_new hq
   refine⟨_,rfl,b,rfl,⟨_,SqL.of (sb1 _ _ npb (s4 _ _ hB))⟩,sK (K:=K) (a:=b) (xs:=ys.map V.int) (λi σ' H'=>∃(acc:List Int) (z5 z6:Option V),σ'=[some (.ref a),some (.ref b),some (.ref p),some (.int j),some (.int (cf xs j)),z5,z6]/\SameB p H4 H'/\H' p=some (.lst (acc.map V.int))/\acc.length=la+lb+1/\∀n,n<acc.length->cf acc n=sm xs ys n j+(if j<=n/\n-j<i then tm xs ys n j else 0))
    ⟨acc,z5,z6,rfl,sb1,by rw[upd_ne nqp];exact hpa,hal,Gr hac⟩ ?_ ?_ ?_⟩
   ·rintro i σ' H' _ ⟨acc,z5,z6,rfl,sb,_⟩;exact SqL.of (sb _ _ npb (s4 _ _ hB))
   ·rintro i x σ' H' q hi ⟨acc,z5,z6,rfl,sb,hpa,hal,hac⟩ hq;rw[List.getElem?_map]at hi
    have hil:i<ys.length:=by apply Classical.byContradiction;intro hn;rw[List.getElem?_eq_none_iff.mpr (QX hn)]at hi;cases hi
    rw[gk hil]at hi;obtain rfl:=Option.some.inj hi;refine⟨q,_,rfl,SqT.of ak,rfl,_,_,rfl,_,_,rfl,rfl,?_⟩;have nqp:p≠q:=aD hpa hq;have hpa':upd H' q (.tup [.int i,.int (cf ys i)]) p=some (.lst (acc.map V.int)):=by rw[upd_ne nqp];exact hpa
    have hji:j+i<acc.length:=by omega
    have eji:((j:Nat):Int)+((i:Nat):Int)=((j+i:Nat):Int):=by omega
    refine⟨_,rfl,_,rfl,_,rfl,_,_,rfl,rfl,p,_,_,_,rfl,rfl,SqL.of hpa',dm eji hji,_,rfl,_,rfl,_,_,rfl,rfl,⟨bx.cf j,by'.cf i⟩,_,_,rfl,rfl,_,rfl,_,rfl,_,rfl,_,_,rfl,rfl,p,_,_,j+i,rfl,rfl,hpa',sD eji (by rw[PX];exact hji),?_⟩;refine⟨acc.set (j+i) (cf acc (j+i)+cf xs j*cf ys i),_,_,rfl,(sb.then_new hq).then_upd,by rw[ak,rF],by rw[Rh];exact hal,Gq hjl hil hji hac⟩
   ·rintro σ' H' ⟨acc,z5,z6,rfl,sb,hpa,hal,hac⟩;rw[PX]at hac;exact⟨acc,_,_,_,_,rfl,sb,hpa,hal,Gs hac⟩
  ·rintro σ' H' ⟨acc,z3,z4,z5,z6,rfl,sb,hpa,hal,hac⟩;rw[PX]at hac;refine⟨_,rfl,k p H' (λb' o e=>sb b' o (s3.ne e hp) (s4 b' o e)) (s3.free hp) ?_⟩;rw[hpa]
   have e:acc=ap xs ys:=by
    apply kn
    ·rw[hal];unfold ap;rw[if_neg (by intro z;exact z.elim h0 h1),PX,QF];omega
    ·intro n _;rw[cv,Gu (by omega) hac]
   rw[e]
inductive qv(C:Addr)(vs:List V)(H:Hp)(Q:VK)(E:XK):Prop
 |mk (p q:Addr) (t b u d:Int):vs=[.ref p,.ref q]->RA C H p t b->RA C H q u d->Bits 4000 t->Bits 4000 b->Bits 4000 u->Bits 4000 d->0<b->0<d->mkR C H Q (t*d+u*b) (b*d)->qv C vs H Q E
theorem FQ(F:Fun K "plus" "Ratio.plus" og f fd)(T:Txt K mg)(R:RCI K mg C)(bE:KCal P w K mg base 2 C "Ratio" ["self","top","bottom"] (cy C) dg df di [.int 1]):FnOk P w K mg base CX0 4 f fd ["self","other"] (qv C):=by
 obtain⟨aR,aQ,aP,bX,bQ,bM⟩:=bE;refine F.ok CO (λvs H Q E h=>?_) (λcdv A outer s H vs Q E hr h=>?_)
 ·obtain⟨p,q,t,b,u,d,rfl,_⟩:=h;rfl
 ·obtain⟨p,q,t,b,u,d,rfl,⟨dx,hp⟩,⟨dy,hq⟩,bt,bb,bu,bd,hb,hd,k⟩:=h;refine⟨_,(ah (am (bz aQ aR (hr.mono) rfl aP bX .nil ad (aa (ai aZ (ai av (aq (K:=K) rfl (pv 0) rfl) (aq (K:=K) rfl (pv 1) rfl)) (ai av (aq (K:=K) rfl (pv 1) rfl) (aq (K:=K) rfl (pv 0) rfl))) (aa (ai av (aq (K:=K) rfl (pv 0) rfl) (aq (K:=K) rfl (pv 1) rfl)) ac))))),?_⟩;refine⟨_,rfl,p,C,dx,_,_,rfl,hp,R.cl,R.nT,cC _ _,_,rfl,q,C,dy,_,_,rfl,hq,R.cl,R.nB,bG _ _,_,_,rfl,rfl,⟨bt.mono,bd.mono⟩,?_⟩;refine⟨_,rfl,q,C,dy,_,_,rfl,hq,R.cl,R.nT,cC _ _,_,rfl,p,C,dx,_,_,rfl,hp,R.cl,R.nB,bG _ _,_,_,rfl,rfl,⟨bu.mono,bb.mono⟩,_,_,rfl,rfl,?_⟩;refine⟨_,rfl,p,C,dx,_,_,rfl,hp,R.cl,R.nB,bG _ _,_,rfl,q,C,dy,_,_,rfl,hq,R.cl,R.nB,bG _ _,_,_,rfl,rfl,⟨bb.mono,bd.mono⟩,?_⟩;exact cI (P9 (P5 hb hd)) ((bb.mul bd).mono) k
inductive iu(C:Addr)(vs:List V)(H:Hp)(Q:VK)(E:XK):Prop
 |mk (p q:Addr) (t b u d:Int):vs=[.ref p,.ref q]->RA C H p t b->RA C H q u d->Bits 4000 t->Bits 4000 b->Bits 4000 u->Bits 4000 d->0<b->0<d->mkR C H Q (t*d-u*b) (b*d)->iu C vs H Q E
theorem FS(F:Fun K "minus" "Ratio.minus" oi f fd)(T:Txt K mg)(R:RCI K mg C)(bE:KCal P w K mg base 2 C "Ratio" ["self","top","bottom"] (cy C) dg df di [.int 1]):FnOk P w K mg base CX0 4 f fd ["self","other"] (iu C):=by
 obtain⟨aR,aQ,aP,bX,bQ,bM⟩:=bE;refine F.ok CQ (λvs H Q E h=>?_) (λcdv A outer s H vs Q E hr h=>?_)
 ·obtain⟨p,q,t,b,u,d,rfl,_⟩:=h;rfl
 ·obtain⟨p,q,t,b,u,d,rfl,⟨dx,hp⟩,⟨dy,hq⟩,bt,bb,bu,bd,hb,hd,k⟩:=h;refine⟨_,(ah (am (bz aQ aR (hr.mono) rfl aP bX .nil ad (aa (ai bA (ai av (aq (K:=K) rfl (pv 0) rfl) (aq (K:=K) rfl (pv 1) rfl)) (ai av (aq (K:=K) rfl (pv 1) rfl) (aq (K:=K) rfl (pv 0) rfl))) (aa (ai av (aq (K:=K) rfl (pv 0) rfl) (aq (K:=K) rfl (pv 1) rfl)) ac))))),?_⟩;refine⟨_,rfl,p,C,dx,_,_,rfl,hp,R.cl,R.nT,cC _ _,_,rfl,q,C,dy,_,_,rfl,hq,R.cl,R.nB,bG _ _,_,_,rfl,rfl,⟨bt.mono,bd.mono⟩,?_⟩;refine⟨_,rfl,q,C,dy,_,_,rfl,hq,R.cl,R.nT,cC _ _,_,rfl,p,C,dx,_,_,rfl,hp,R.cl,R.nB,bG _ _,_,_,rfl,rfl,⟨bu.mono,bb.mono⟩,_,_,rfl,rfl,?_⟩;refine⟨_,rfl,p,C,dx,_,_,rfl,hp,R.cl,R.nB,bG _ _,_,rfl,q,C,dy,_,_,rfl,hq,R.cl,R.nB,bG _ _,_,_,rfl,rfl,⟨bb.mono,bd.mono⟩,?_⟩;exact cI (P9 (P5 hb hd)) ((bb.mul bd).mono) k
inductive i9(C:Addr)(vs:List V)(H:Hp)(Q:VK)(E:XK):Prop
 |mk (p q:Addr) (t b u d:Int):vs=[.ref p,.ref q]->RA C H p t b->RA C H q u d->Bits 4000 t->Bits 4000 b->Bits 4000 u->Bits 4000 d->0<b->0<d->mkR C H Q (t*u) (b*d)->i9 C vs H Q E
theorem FP(F:Fun K "times" "Ratio.times" oa f fd)(T:Txt K mg)(R:RCI K mg C)(bE:KCal P w K mg base 2 C "Ratio" ["self","top","bottom"] (cy C) dg df di [.int 1]):FnOk P w K mg base CX0 4 f fd ["self","other"] (i9 C):=by
 obtain⟨aR,aQ,aP,bX,bQ,bM⟩:=bE;refine F.ok CM (λvs H Q E h=>?_) (λcdv A outer s H vs Q E hr h=>?_)
 ·obtain⟨p,q,t,b,u,d,rfl,_⟩:=h;rfl
 ·obtain⟨p,q,t,b,u,d,rfl,⟨dx,hp⟩,⟨dy,hq⟩,bt,bb,bu,bd,hb,hd,k⟩:=h;refine⟨_,(ah (am (bz aQ aR (hr.mono) rfl aP bX .nil ad (aa (ai av (aq (K:=K) rfl (pv 0) rfl) (aq (K:=K) rfl (pv 1) rfl)) (aa (ai av (aq (K:=K) rfl (pv 0) rfl) (aq (K:=K) rfl (pv 1) rfl)) ac))))),?_⟩;refine⟨_,rfl,p,C,dx,_,_,rfl,hp,R.cl,R.nT,cC _ _,_,rfl,q,C,dy,_,_,rfl,hq,R.cl,R.nT,cC _ _,_,_,rfl,rfl,⟨bt.mono,bu.mono⟩,?_⟩;refine⟨_,rfl,p,C,dx,_,_,rfl,hp,R.cl,R.nB,bG _ _,_,rfl,q,C,dy,_,_,rfl,hq,R.cl,R.nB,bG _ _,_,_,rfl,rfl,⟨bb.mono,bd.mono⟩,?_⟩;exact cI (P9 (P5 hb hd)) ((bb.mul bd).mono) k
def LinS(t b:Int):Prop:=0<b/\Nat.gcd t.natAbs b.natAbs=1/\Bits 50 t/\Bits 50 b
theorem LinS.big{t b:Int}(h:LinS t b):Lin t b:=⟨h.1,h.2.1,h.2.2.1.mono,h.2.2.2.mono⟩
theorem LinS.bits{t b:Int}(h:LinS t b):AllB 380 [-t,b]:=h.big.bits
theorem LinS.tr{t b:Int}(h:LinS t b):Tr [-t,b]:=h.big.tr
theorem LinS.gcd{t b:Int}(h:LinS t b):aE [-t,b]=1:=h.big.gcd
theorem LinS.shr{t b:Int}(h:LinS t b):au [-t,b]=[-t,b]:=h.big.shr
theorem LinS.plain{t b:Int}(h:LinS t b):aL [-t,b]=[-t,b]:=h.big.plain
inductive vS(C:Addr)(vs:List V)(H:Hp)(Q:VK)(E:XK):Prop
 |mk (r wd:Addr) (r1 r2 w1 w2:Int):vs=[.ref r,.ref wd]->RA C H r r1 r2->RA C H wd w1 w2->0<r2->0<w1->Bits 125 r1->Bits 125 r2->Bits 6 w1->Bits 6 w2->(∀n:Nat,n<=132->r1*w2<=w1*r2*2^n->(∀j:Nat,j<n->w1*r2*2^j<r1*w2)->Q (.int n) H)->vS C vs H Q E
theorem qU(n:Nat):(0:Int)<2^n:=Q4 (by decide)
theorem gz(n:Nat):(2:Int)^n=((2^n:Nat):Int):=by rw[Int.natCast_pow];rfl
theorem ow{n k:Nat}(h:n<k):Bits k ((2:Int)^n):=by rw[gz];show(((2^n:Nat):Int)).natAbs<2^k;rw[QH];exact(Q3 (by decide)).mpr h
theorem lB:Bits 1000000 (2:Int):=Bits.mono (j:=2) (by show(2:Int).natAbs<2^2;decide) (by decide)
theorem Ff(F:Fun K "halvings" "halvings" nq f fd)(T:Txt K mg)(R:RCI K mg C):FnOk P w K mg base CX0 1 f fd ["reach","width"] (vS C):=by
 refine F.ok sc_halvings (λvs H Q E h=>?_) (λcdv A outer s H vs Q E hr h=>?_)
 ·obtain⟨r,wd,r1,r2,w1,w2,rfl,_⟩:=h;rfl
 ·obtain⟨r,wd,r1,r2,w1,w2,rfl,⟨dr,hR⟩,⟨dw,hW⟩,hr2,hw1,br1,br2,bw1,bw2,k⟩:=h
  refine⟨_,(af (aj (i:=2) sc_halvings.nd rfl (Or.inl rfl) (ai av (aq (K:=K) rfl (pv 0) rfl) (aq (K:=K) rfl (pv 1) rfl)))
   (af (aj (i:=3) sc_halvings.nd rfl (Or.inl rfl) (ai av (aq (K:=K) rfl (pv 1) rfl) (aq (K:=K) rfl (pv 0) rfl)))
   (af (aj (i:=4) sc_halvings.nd rfl (Or.inl rfl) ae)
   (af (c9 PassesOwn.never (ax fB (pv 2) (pv 3) (aw _))
     (af (aj (i:=3) sc_halvings.nd rfl (Or.inl rfl) (ai av ae (pv 3)))
       (ah (aj (i:=4) sc_halvings.nd rfl (Or.inl rfl) (ai aZ (pv 4) ae)))))
   (ah (am (pv 4))))))),?_⟩
  refine ao ⟨_,rfl,r,C,dr,_,_,rfl,hR,R.cl,R.nT,cC _ _,_,rfl,wd,C,dw,_,_,rfl,hW,R.cl,R.nB,bG _ _,_,_,rfl,rfl,⟨br1.mono,bw2.mono⟩,?_⟩;refine ao ⟨_,rfl,wd,C,dw,_,_,rfl,hW,R.cl,R.nT,cC _ _,_,rfl,r,C,dr,_,_,rfl,hR,R.cl,R.nB,bG _ _,_,_,rfl,rfl,⟨bw1.mono,br2.mono⟩,?_⟩;have bW:Bits 131 (r1*w2):=br1.mul bw2;have g0:0<w1*r2:=P5 hw1 hr2;refine ao ?_;dsimp only
  generalize r1*w2=W at *
  generalize w1*r2=g at *
  show ci _ _ _ _ _
  have b0:∀n:Nat,(∀j:Nat,j<n->g*2^j<W)->n<=132:=λn hn=>by
   rcases Nat.lt_or_ge 132 n with z |z
   ·have h1:=hn 132 z
    have h2:(2:Int)^132<=g*2^132:=by have:=Rn (show(1:Int)<=g by omega) (Qo (qU 132));omega
    have h3:W.natAbs<2^131:=bW;have h4:((2^131:Nat):Int)<=(2:Int)^132:=by rw[gz];exact Int.ofNat_le.mpr (Nat.pow_le_pow_right (by decide) (by decide))
    have h5:(W.natAbs:Int)<((2^131:Nat):Int):=Rx.mpr h3;generalize ((2^131:Nat):Int)=X at h4 h5
    generalize (2:Int)^132=Y at *
    omega
   ·exact z
  refine⟨λm σ' H'=>∃n:Nat,σ'=[some (.ref r),some (.ref wd),some (.int W),some (.int (g*2^n)),some (.int n)]/\H=H'/\m=(W-g*2^n).toNat/\∀j:Nat,j<n->g*2^j<W,⟨_,0,by rw[Qg,Qw];rfl,rfl,rfl,λj hj=>absurd hj (Nat.not_lt_zero _)⟩,?_⟩;rintro m σ' H' ⟨n,rfl,rfl,rfl,hj⟩;refine⟨_,rfl,_,rfl,_,_,rfl,rfl,_,rfl,aG (λhgt=>?_) (λhle=>?_)⟩
  ·have hgt':g*2^n<W:=hgt;have gp:0<g*2^n:=P5 g0 (qU n);have bg:Bits 131 (g*2^n):=bW.of_le (by omega);refine⟨λσ'' H''=>∃m',m'<(W-g*2^n).toNat/\∃n:Nat,σ''=[some (.ref r),some (.ref wd),some (.int W),some (.int (g*2^n)),some (.int n)]/\H=H''/\m'=(W-g*2^n).toNat/\∀j:Nat,j<n->g*2^j<W,λ_ _ h=>h,?_⟩;have e2:2*(g*2^n)=g*2^(n+1):=by rw[Qa];grind
   refine ao ⟨_,rfl,_,_,rfl,rfl,⟨lB,bg.mono⟩,?_⟩;refine cz ⟨_,rfl,_,_,rfl,rfl,?_⟩;refine⟨(W-g*2^(n+1)).toNat,by rw[<- e2];omega,n+1,by rw[<- e2];rfl,rfl,rfl,λj h'=>?_⟩;by_cases ej:j=n
   ·subst ej;exact hgt'
   ·exact hj j (by omega)
  ·refine⟨_,rfl,k n (b0 n hj) ?_ hj⟩;have:¬g*2^n<W:=hle;omega
def vq(C:Addr):Sp:=λvs H Q _=>∃(a l r:Addr) (t b l1 l2 r1 r2:Int),vs=[.ref a,.ref l,.ref r]/\H a=some (.lst ([-t,b].map V.int))/\RA C H l l1 l2/\RA C H r r1 r2/\0<b/\0<l2/\0<r1/\0<r2/\Bits 50 t/\Bits 50 b/\Bits 60 l1/\Bits 60 l2/\Bits 125 r1/\Bits 125 r2 /\
 ∀m s0 s1:Int,0<m->s0*l2=l1*m->s1*r2=r1*m->0<s1->Bits 2000 (b*s0-t*m)->Bits 2000 (b*s1)->mkL H Q [b*s0-t*m,b*s1]
theorem Go{c x y:Int}(n:Nat):az [c] [x,y] n=cf [c*x,c*y] n:=by
 show sm [c] [x,y] n 1=_;rw[qF,zv];rcases n with _ |_ |n
 ·simp[cf]
 ·simp[cf]
 ·simp[cf]
theorem BJ{b x y:Int}(hb:b≠0):bj (ap [] [x,y]) (trim [b*1])=[b]:=by
 refine gR (dL _) ((tr_snoc (r:=[])).mpr hb) λk=>?_
 unfold bj;rw[cX,fN,cv,cX,Qw,Qn];show 0+_=_;rw[QR]
theorem BI{b x y t m:Int}(hb:b*y≠0):bj (ap [b] [x,y]) (trim [-t*m])=[b*x-t*m,b*y]:=by
 refine gR (dL _) ((tr_snoc (r:=[_])).mpr hb) λk=>?_
 unfold bj;rw[cX,fN,cv,cX,Qn,Go];rcases k with _ |k
 ·show b*x + -t*m=b*x-t*m;rw[Int.neg_mul];omega
 ·show cf [b*y] k+cf [] k=cf [b*y] k;rw[bV];omega
noncomputable def eA(b t m s0 s1:Int):Nat->List Int
 |0=>[]
 |1=>[b]
 |_=>[b*s0-t*m,b*s1]
noncomputable def c6(m:Int):Nat->Int
 |0=>1
 |1=>m
 |_=>m*m
theorem Es(F:Fun K "stretched" "stretched" mj f fd)(T:Txt K mg)(R:RCI K mg C)(uz:Cal P w K mg base 2 "shared" ["row"] (qr K) JZ JH)(lw:Cal P w K mg base 2 "added" ["first","second"] (iw K bj) y3 yQ)(li:Cal P w K mg base 1 "multiplied" ["first","second"] lM yX yM)(dz:Cal P w K mg base 1 "poly" ["row"] (fX K) iT iS):FnOk P w K mg base CX0 3 f fd ["row","low","reach"] (vq C):=by
 obtain⟨ud,rN,sr,tM⟩:=uz;obtain⟨k7,jV,j8,kM⟩:=lw;obtain⟨kU,jP,j2,kG⟩:=li;obtain⟨dq,da,de,dk⟩:=dz;refine F.ok sc_stretched (λvs H Q E h=>?_) (λcdv A outer s H vs Q E hr h=>?_)
 ·obtain⟨a,l,r,t,b,l1,l2,r1,r2,rfl,_⟩:=h;rfl
 ·obtain⟨a,l,r,t,b,l1,l2,r1,r2,rfl,hA,⟨dl,hL⟩,⟨dr,hR⟩,hb,hl2,hr1,hr2,bt,bb,bl1,bl2,br1,br2,k⟩:=h
  refine⟨_,(af (aj (i:=3) sc_stretched.nd rfl (Or.inl rfl) (ai gc (ai av (aq (K:=K) rfl (pv 1) rfl) (aq (K:=K) rfl (pv 2) rfl)) (ag ud (hr.mono) rfl rN sr tM .nil ad (aa (aK (aa (aq (K:=K) rfl (pv 1) rfl) (aa (aq (K:=K) rfl (pv 2) rfl) ac))) ac))))
   (af (aj (i:=4) sc_stretched.nd rfl (Or.inl rfl) (ai av (aq (K:=K) rfl (pv 1) rfl) (ai gc (pv 3) (aq (K:=K) rfl (pv 1) rfl))))
   (af (aj (i:=5) sc_stretched.nd rfl (Or.inl rfl) (ai av (aq (K:=K) rfl (pv 2) rfl) (ai gc (pv 3) (aq (K:=K) rfl (pv 2) rfl))))
   (af (aj (i:=6) sc_stretched.nd rfl (Or.inl rfl) (aK ac))
   (af (aj (i:=7) sc_stretched.nd rfl (Or.inl rfl) ae)
   (af (cg PassesOwn.never rfl (oy rfl T.reversed_ (aa (pv 0) ac)) (aJ (i:=8) sc_stretched.nd rfl (Or.inl rfl))
     (af (aj (i:=6) sc_stretched.nd rfl (Or.inl rfl) (ag k7 (hr.mono) rfl jV j8 kM .nil ad (aa (ag kU (hr.mono) rfl jP j2 kG .nil ad (aa (pv 6) (aa (aK (aa (pv 4) (aa (pv 5) ac))) ac))) (aa (ag dq (hr.mono) rfl da de dk .nil ad (aa (aK (aa (ai av (pv 8) (pv 7)) ac)) ac)) ac))))
       (ah (aj (i:=7) sc_stretched.nd rfl (Or.inl rfl) (ai av (pv 7) (pv 3))))))
   (ah (am (pv 6))))))))),?_⟩
  obtain⟨l',r',pl',pr',pg,el,er,em,e1,e2,pm⟩:=KS hl2 hr2 (g:=aE [l2,r2]) (by show Nat.gcd (Nat.gcd 0 l2.natAbs) r2.natAbs=_;rw[Rj]);have bg:Bits 9000 ((aE [l2,r2]:Nat):Int):=Bits.mono (j:=60) (bl2.of_le (by rw[QH];exact Nat.le_of_dvd (by omega) (by show Nat.gcd (Nat.gcd 0 l2.natAbs) r2.natAbs∣_;rw[Rj];exact QM _ _))) (by decide)
  have bl':Bits 60 l':=bl2.of_le (by
   rw[el,QD]
   exact RD _ (by omega))
  have br':Bits 125 r':=br2.of_le (by
   rw[er,QD]
   exact RD _ (by omega))
  refine ao ⟨_,rfl,l,C,dl,_,_,rfl,hL,R.cl,R.nB,bG _ _,_,rfl,r,C,dr,_,_,rfl,hR,R.cl,R.nB,bG _ _,_,_,rfl,rfl,⟨bl2.mono,br2.mono⟩,?_⟩;refine⟨_,rfl,l,C,dl,_,_,rfl,hL,R.cl,R.nB,bG _ _,_,rfl,r,C,dr,_,_,rfl,hR,R.cl,R.nB,bG _ _,by show 2<=sizeLine;decide,λp0 hp0=>?_⟩;have s0':=Same.upd_new (o:=.lst [V.int l2,V.int r2]) hp0;refine⟨p0,[l2,r2],rfl,SqL.of ak,_,_,rfl,rfl,⟨pg,bg⟩,?_⟩;generalize upd H p0 (.lst [V.int l2,V.int r2])=H0 at s0' ⊢
  dsimp only
  rw[em];refine ao ⟨_,rfl,l,C,dl,_,_,rfl,s0' _ _ hL,R.cl,R.nT,cC _ _,_,rfl,_,rfl,l,C,dl,_,_,rfl,s0' _ _ hL,R.cl,R.nB,bG _ _,_,_,rfl,rfl,⟨hl2,bl2.mono⟩,?_⟩;dsimp only
  rw[e1];refine⟨_,_,rfl,rfl,⟨bl1.mono,br'.mono⟩,?_⟩;refine ao ⟨_,rfl,r,C,dr,_,_,rfl,s0' _ _ hR,R.cl,R.nT,cC _ _,_,rfl,_,rfl,r,C,dr,_,_,rfl,s0' _ _ hR,R.cl,R.nB,bG _ _,_,_,rfl,rfl,⟨hr2,br2.mono⟩,?_⟩;dsimp only
  rw[e2];refine⟨_,_,rfl,rfl,⟨br1.mono,bl'.mono⟩,?_⟩;have q0:l1*r'*l2=l1*(l2*r'):=by grind
  have q1:r1*l'*r2=r1*(l2*r'):=by
   calc r1*l'*r2=r1*l'*(((aE [l2,r2]:Nat):Int)*r'):=by rw[<- er]
    _=r1*((((aE [l2,r2]:Nat):Int)*l')*r'):=by grind
    _=r1*(l2*r'):=by rw[<- el]
  have q2:0<r1*l':=P5 hr1 pl';have bm:Bits 185 (l2*r'):=bl2.mul br';have bs0:Bits 185 (l1*r'):=bl1.mul br';have bs1:Bits 185 (r1*l'):=br1.mul bl';dsimp only
  generalize l2*r'=m at *
  generalize l1*r'=s0 at *
  generalize r1*l'=s1 at *
  have hby:b*s1≠0:=P9 (P5 hb q2);have c0:Bits 2000 (b*s0-t*m):=Bits.mono (((bb.mul bs0).mono (k:=1240) (by decide)).sub ((bt.mul bm).mono (k:=1240) (by decide))) (by decide);have c1:Bits 2000 (b*s1):=(bb.mul bs1).mono;refine ao ⟨P6 _,λp1 hp1=>?_⟩;have s1':=s0'.then_new (o:=.lst []) hp1;have h1:upd H0 p1 (.lst []) p1=some (.lst []):=ak;have f1:H p1=none:=s0'.free hp1;generalize upd H0 p1 (.lst [])=H1 at s1' h1 ⊢
  refine ao ?_;have hl:(([-t,b]:List Int).map V.int).length=2:=rfl;refine⟨_,rfl,a,_,rfl,SqL.of (s1' _ _ hA),pA (K:=K) (a:=a) (xs:=([-t,b]:List Int).map V.int) (λi σ' H'=>∃(p:Addr) (z:Option V),σ'=[some (.ref a),some (.ref l),some (.ref r),some (.int m),some (.int s0),some (.int s1),some (.ref p),some (.int (c6 m i)),z]/\Same H H'/\H p=none/\H' p=some (.lst ((eA b t m s0 s1 i).map V.int))) ⟨p1,none,rfl,s1',f1,h1⟩ ?_ ?_ ?_⟩
  ·rintro i σ' H' _ ⟨p,z,rfl,sm,_⟩;exact SqL.of (sm _ _ hA)
  ·rintro i x σ' H2 hi hx ⟨p,z,rfl,s2,fp,e2'⟩
   obtain⟨c,ex,bc,bP,aF,lF,eF,eP⟩:∃c:Int,x=.int c/\Bits 300 c/\Bits 1100 (c6 m i)/\AllB 300 (eA b t m s0 s1 i)/\(eA b t m s0 s1 i).length<=2/\bj (ap (eA b t m s0 s1 i) [s0,s1]) (trim [c*c6 m i])=eA b t m s0 s1 (i+1)/\c6 m i*m=c6 m (i+1):=by
    rw[hl]at hi hx;rcases i with _ |_ |i
    ·exact⟨b,(Option.some.inj hx).symm,bb.mono,Bits.mono (j:=1) (by show(1:Int).natAbs<2^1;decide) (by decide),AllB.nil,by show 0<=2;decide,BJ (P9 hb),by show 1*m=m;rw[Qn]⟩
    ·exact⟨-t,(Option.some.inj hx).symm,bt.neg.mono,bm.mono,λx hx=>by rw[Qc.mp hx];exact bb.mono,by show 1<=2;decide,BI hby,rfl⟩
    ·exfalso;omega
   subst ex;show ci (cZ _ (cS 6)) _ _ _ _
   have bs:AllB 185 [s0,s1]:=λx hx=>by
    simp only[P8,Qv,or_false]at hx;rcases hx with rfl |rfl
    ·exact bs0
    ·exact bs1
   refine ao ⟨_,rfl,_,rfl,_,rfl,by show 2<=sizeLine;decide,λp3 hp3=>?_⟩;have s3:=s2.then_new (o:=.lst ([s0,s1].map V.int)) hp3;have e3:upd H2 p3 (.lst ([s0,s1].map V.int)) p=some (.lst ((eA b t m s0 s1 i).map V.int)):=(Same.upd_new hp3) _ _ e2';have h3:upd H2 p3 (.lst ([s0,s1].map V.int)) p3=some (.lst ([s0,s1].map V.int)):=ak;refine⟨p,p3,eA b t m s0 s1 i,[s0,s1],rfl,e3,h3,by omega,by show 2<=1000000;decide,aF.mono,bs.mono,λp4 H4 s4 hp4 e4=>?_⟩;have t4:=s3.trans s4;refine⟨_,rfl,_,rfl,_,_,rfl,rfl,⟨bc.mono,bP.mono⟩,by show 1<=sizeLine;decide,λp5 hp5=>?_⟩;have s5:=t4.then_new (o:=.lst ([c*c6 m i].map V.int)) hp5;have e5:upd H4 p5 (.lst ([c*c6 m i].map V.int)) p4=some (.lst ((ap (eA b t m s0 s1 i) [s0,s1]).map V.int)):=(Same.upd_new hp5) _ _ e4;have h5:upd H4 p5 (.lst ([c*c6 m i].map V.int)) p5=some (.lst ([c*c6 m i].map V.int)):=ak;refine⟨p5,[c*c6 m i],rfl,SqL.of h5,λp6 H6 s6 hp6 e6=>?_⟩;have t6:=s5.trans s6;refine⟨p4,p6,ap (eA b t m s0 s1 i) [s0,s1],trim [c*c6 m i],rfl,SqL.of (s6 _ _ e5),SqL.of e6,?_,?_,λp7 H7 s7 hp7 e7=>?_⟩
   ·have:(ap (eA b t m s0 s1 i) [s0,s1]).length<=1000:=by
     unfold ap;split
     ·exact P6 _
     ·rw[PX,QF];show _+2-1<=_;omega
    omega
   ·have:=gf [c*c6 m i];have:(trim [c*c6 m i]).length<=1:=this;omega
   rw[eF]at e7;refine cz ⟨_,rfl,_,rfl,_,_,rfl,rfl,⟨bP.mono,bm.mono⟩,?_⟩;refine⟨p7,some (.int c),?_,t6.trans s7,t6.free hp7,e7⟩;rw[<- eP];rfl
  ·rintro σ' H' ⟨p,z,rfl,sm,fp,e⟩;exact⟨_,rfl,k m s0 s1 pm q0 q1 q2 c0 c1 p H' sm fp e⟩
noncomputable def fW:List Int->List Int
 | []=>[]
 |v::l=>2^l.length*v::fW l
inductive vw(vs:List V)(H:Hp)(Q:VK)(E:XK):Prop
 |mk (a:Addr) (ns:List Int):vs=[.ref a]->H a=some (.lst (ns.map V.int))->ns.length<=1000->AllB 10000 ns->mkL H Q (fW ns)->vw vs H Q E
theorem vk:∀l,(fW l).length=l.length
 | []=>rfl
 |v::l=>by show(fW l).length+1=l.length+1;rw[vk l]
theorem Kk{l:List Int}{i:Nat}{c:Int}(hi:i<l.length)(e:l[l.length-1-i]?=some c):l.drop (l.length-(i+1))=c::l.drop (l.length-i):=by
 have h:l.length-(i+1)=l.length-1-i:=by omega
 rw[h,RL (by omega)];have h2:l.length-1-i+1=l.length-i:=by omega
 rw[h2];have h3:=List.getElem?_eq_getElem (l:=l) (i:=l.length-1-i) (by omega);rw[h3]at e;rw[Option.some.inj e]
theorem Eu(F:Fun K "spread" "spread" mn f fd)(T:Txt K mg):FnOk P w K mg base CX0 1 f fd ["row"] vw:=by
 refine F.ok sc_spread (λvs H Q E h=>?_) (λcdv A outer s H vs Q E hr h=>?_)
 ·obtain⟨a,ns,rfl,_⟩:=h;rfl
 ·obtain⟨a,ns,rfl,hA,hn,hb,k⟩:=h;have big:=sizeLine_eq
  refine⟨_,(af (aj (i:=1) sc_spread.nd rfl (Or.inl rfl) (aK ac))
   (af (aj (i:=2) sc_spread.nd rfl (Or.inl rfl) ae)
   (af (cg PassesOwn.never rfl (oy rfl T.reversed_ (aa (pv 0) ac)) (aJ (i:=3) sc_spread.nd rfl (Or.inl rfl))
     (af (eD (oG PySem.F.plainAttrs_list PySem.F.slot_list_append PySem.F.type_list_append oY (pv 1) (aa (ai av (pv 2) (pv 3)) ac)))
       (ah (aj (i:=2) sc_spread.nd rfl (Or.inl rfl) (ai av ae (pv 2))))))
   (af (eD (D4 PySem.F.plainAttrs_list PySem.F.slot_list_reverse PySem.F.type_list_reverse Gv (pv 1)))
   (ah (am (pv 1))))))),?_⟩
  refine ao ⟨P6 _,λp1 hp1=>?_⟩;have s1':=Same.upd_new (o:=.lst []) hp1;have h1:upd H p1 (.lst []) p1=some (.lst []):=ak;generalize upd H p1 (.lst [])=H1 at s1' h1 ⊢
  refine ao ?_;have hl:(ns.map V.int).length=ns.length:=PX _;refine⟨_,rfl,a,_,rfl,SqL.of (s1' _ _ hA),pA (K:=K) (a:=a) (xs:=ns.map V.int) (λi σ' H'=>∃z:Option V,σ'=[some (.ref a),some (.ref p1),some (.int (2^i)),z]/\Same H H'/\H' p1=some (.lst ((fW (ns.drop (ns.length-i))).reverse.map V.int))) ⟨none,rfl,s1',by rw[QU,List.drop_length];exact h1⟩ ?_ ?_ ?_⟩
  ·rintro i σ' H' _ ⟨z,rfl,sm,_⟩;exact SqL.of (sm _ _ hA)
  ·rintro i x σ' H2 hi hx ⟨z,rfl,s2,h2⟩;rw[hl]at hi hx;obtain⟨c,ec,rfl,hc,_⟩:=gj hx;have hd:=Kk hi ec;have len:(ns.drop (ns.length-i)).length=i:=by rw[QJ];omega
   show ci (qj _) _ _ _ _;refine eC ⟨_,rfl,.inl ⟨rfl,_,SqL.of h2⟩,_,rfl,_,rfl,_,_,rfl,rfl,⟨(ow (n:=i) (k:=1001) (by omega)).mono,(hb c hc).mono⟩,p1,_,_,rfl,rfl,h2,by rw[PX,QK,vk,len];omega,?_⟩;refine cz ⟨_,rfl,_,_,rfl,rfl,⟨lB,(ow (n:=i) (k:=1001) (by omega)).mono⟩,?_⟩;refine⟨some (.int c),?_,gB s2 hp1,?_⟩
   ·show[some (V.ref a),some (V.ref p1),some (V.int (2*2^i)),some (V.int c)]=_;rw[Qa,QN]
   ·rw[ak,hd,gD];show some (HO.lst (((fW (ns.drop (ns.length-i))).reverse++[2^i*c]).map V.int))=some (HO.lst ((2^(ns.drop (ns.length-i)).length*c::fW (ns.drop (ns.length-i))).reverse.map V.int));rw[List.reverse_cons,len]
  ·rintro σ' H2 ⟨z,rfl,s2,h2⟩;rw[hl,QQ,Rc]at h2;dsimp only
   refine eC ⟨_,rfl,.inl ⟨rfl,_,SqL.of h2⟩,p1,_,rfl,rfl,h2,?_⟩;refine⟨_,rfl,k p1 _ (gB s2 hp1) hp1 ?_⟩;rw[ak,<- List.map_reverse,List.reverse_reverse]
inductive vM(vs:List V)(H:Hp)(Q:VK)(E:XK):Prop
 |mk (a:Addr) (x y:Int):vs=[.ref a]->H a=some (.lst ([x,y].map V.int))->mkL H Q [x+y,y]->vM vs H Q E
theorem E6(F:Fun K "moved" "moved" m7 f fd)(T:Txt K mg)(bY:Cal P w K mg base 1 "degree" ["row"] c7 dZ dW):FnOk P w K mg base CX0 2 f fd ["row"] vM:=by
 obtain⟨aY,aV,aW,aX⟩:=bY;refine F.ok sc_moved (λvs H Q E h=>?_) (λcdv A outer s H vs Q E hr h=>?_)
 ·obtain⟨a,x,y,rfl,_⟩:=h;rfl
 ·obtain⟨a,x,y,rfl,hA,k⟩:=h
  refine⟨_,(af (aj (i:=1) sc_moved.nd rfl (Or.inl rfl) (jA (ky (K:=K) rfl) (by rfl) T.list_ PyProof.Rows.boot_list (aa (pv 0) ac)))
   (af (cg PassesOwn.never rfl (dO rfl T.range_ (aa (ag aY (hr.mono) rfl aV aW aX .nil ad (aa (pv 0) ac)) ac)) (aJ (i:=2) sc_moved.nd rfl (Or.inl rfl))
     (ah (cg PassesOwn.never rfl (qW rfl T.range_ (aa (ai bA (ag aY (hr.mono) rfl aV aW aX .nil ad (aa (pv 0) ac)) ae) (aa (ai bA (pv 2) ae) (aa (aU aT ae) ac)))) (aJ (i:=3) sc_moved.nd rfl (Or.inl rfl))
       (ah (ou (ai aZ (ar (aO (K:=K) rfl) (pv 1) (pv 3) (λ_ _=>rfl)) (ar (aO (K:=K) rfl) (pv 1) (ai aZ (pv 3) ae) (λ_ _=>rfl))) (oC (pv 1) (pv 3) lU))))))
   (ah (am (pv 1))))),?_⟩
  refine ao ⟨_,rfl,a,_,rfl,.inl (SqL.of hA),λp hp=>?_⟩;have s1':=Same.upd_new (o:=.lst (([x,y]:List Int).map V.int)) hp;have h1:upd H p (.lst (([x,y]:List Int).map V.int)) p=some (.lst (([x,y]:List Int).map V.int)):=ak;generalize upd H p (.lst (([x,y]:List Int).map V.int))=H1 at s1' h1 ⊢
  refine⟨_,rfl,a,_,rfl,s1' _ _ hA,_,rfl,(by show -2^62<=((2:Nat):Int)-1;decide),(by show((2:Nat):Int)-1<2^62;decide),pB (lo:=0) (n:=1) (λi σ' H'=>∃z2 z3:Option V,σ'=[some (.ref a),some (.ref p),z2,z3]/\Same H H'/\H' p=some (.lst (([if i=0 then x else x+y,y]:List Int).map V.int))) ⟨none,none,rfl,s1',h1⟩ ?_ ?_⟩
  ·rintro i σ' H2 hi ⟨z2,z3,rfl,s2,h2⟩;obtain rfl:i=0:=by omega
   refine⟨_,rfl,a,_,rfl,s2 _ _ hA,_,_,rfl,rfl,_,rfl,_,_,rfl,rfl,_,rfl,0,-1,rfl,⟨by decide,by decide,by decide,by decide⟩,?_⟩;have en:((0:Int) - -1).toNat=1:=by decide
   rw[en];refine sJ (λj σ' H'=>∃z3:Option V,σ'=[some (.ref a),some (.ref p),some (.int 0),z3]/\Same H H'/\H' p=some (.lst (([if j=0 then x else x+y,y]:List Int).map V.int))) ⟨z3,rfl,s2,h2⟩ ?_ ?_
   ·rintro j σ' H3 hj ⟨z3,rfl,s3,h3⟩;obtain rfl:j=0:=by omega
    refine⟨_,rfl,_,rfl,p,_,0,.int x,rfl,rfl,SqL.of h3,rfl,_,rfl,_,rfl,_,_,rfl,rfl,p,_,1,.int y,rfl,rfl,SqL.of h3,rfl,_,_,rfl,rfl,_,rfl,_,rfl,p,_,0,0,rfl,rfl,h3,rfl,?_⟩;exact⟨_,rfl,gB s3 hp,by rw[ak];rfl⟩
   ·rintro σ' H3 ⟨z3,rfl,s3,h3⟩;exact⟨_,_,rfl,s3,h3⟩
  ·rintro σ' H2 ⟨z2,z3,rfl,s2,h2⟩;exact⟨_,rfl,k p H2 s2 hp h2⟩
def vT:Sp:=λvs H Q _=>∃(a:Addr) (x y e:Int) (n:Nat),vs=[.ref a,.int e,.int n]/\H a=some (.lst ([x,y].map V.int))/\e=sg (x+y)/\0<y/\x<0/\0<=x+y/\n<=132/\Bits 2000 x/\Bits 2000 y /\
 ∀(p:Addr) (H':Hp) (pl:Nat),Same H H'->H p=none->H' p=some (.tup [.int pl,.int (2^n)])->pl<2^n->x*2^n+y*pl<0->0<=x*2^n+y*(pl+1)->Q (.ref p) H'
theorem qH{x:Int}(h:0<=x):sg x ≠ -1:=by unfold sg;split<;>(try split)<;>omega
theorem B3{x:Int}:sg (2*x)=sg x:=by unfold sg;split<;>split<;>(try split)<;>(try split)<;>omega
theorem fu(x:Int):(x<0/\sg x = -1)\/(x=0/\sg x=0)\/(0<x/\sg x=1):=by unfold sg;split<;>(try split)<;>omega
theorem Fg(F:Fun K "halved" "halved" nr f fd)(T:Txt K mg)(M5:Cal P w K mg base 1 "spread" ["row"] vw O1 N7)(ic:Cal P w K mg base 1 "whole_sign" ["value"] jb sU sO)(Nm:Cal P w K mg base 2 "moved" ["row"] vM Ph Oo):FnOk P w K mg base CX0 3 f fd ["row","end","steps"] vT:=by
 obtain⟨Mg,GU,HZ,La⟩:=M5;obtain⟨hU,gF,gK,gZ⟩:=ic;obtain⟨Mt,Hb,Io,Ll⟩:=Nm;refine F.ok sc_halved (λvs H Q E h=>?_) (λcdv A outer s H vs Q E hr h=>?_)
 ·obtain⟨a,x,y,e,n,rfl,_⟩:=h;rfl
 ·obtain⟨a,x,y,e,n,rfl,hA,he,hy,hx,hxy,hn,bx,by',k⟩:=h
  refine⟨_,(af (aj (i:=3) sc_halved.nd rfl (Or.inl rfl) ae)
   (af (aj (i:=4) sc_halved.nd rfl (Or.inl rfl) ae)
   (af (aj (i:=5) sc_halved.nd rfl (Or.inl rfl) (pv 1))
   (af (aj (i:=6) sc_halved.nd rfl (Or.inl rfl) (pv 0))
   (af (cg PassesOwn.never rfl (dO rfl T.range_ (aa (pv 2) ac)) (aJ (i:=7) sc_halved.nd rfl (Or.inl rfl))
     (af (aj (i:=3) sc_halved.nd rfl (Or.inl rfl) (ai av ae (pv 3)))
       (af (aj (i:=4) sc_halved.nd rfl (Or.inl rfl) (ai av ae (pv 4)))
       (af (aj (i:=6) sc_halved.nd rfl (Or.inl rfl) (ag Mg (hr.mono) rfl GU HZ La .nil ad (aa (pv 6) ac)))
       (af (aj (i:=8) sc_halved.nd rfl (Or.inl rfl) (ag hU (hr.mono) rfl gF gK gZ .nil ad (aa (aI (KL (K:=K) rfl rfl) (by rfl) T.sum_ PyProof.Rows.boot_sum (aa (pv 6) ac)) ac)))
       (ah (aB (PW.pt (jw (ax gb (pv 8) ae (aw _)) (jv (ax gb (pv 8) (pv 5) (aw _)))))
         (af (aj (i:=3) sc_halved.nd rfl (Or.inl rfl) (ai aZ (pv 3) ae))
           (ah (aj (i:=6) sc_halved.nd rfl (Or.inl rfl) (ag Mt (hr.mono) rfl Hb Io Ll .nil ad (aa (pv 6) ac)))))
         (ah (aj (i:=5) sc_halved.nd rfl (Or.inl rfl) (pv 8))))))))))
   (ah (am (dP (aa (pv 3) (aa (pv 4) ac)))))))))),?_⟩
  refine ao ?_;refine ao ?_;refine ao ⟨_,rfl,?_⟩;refine ao ⟨_,rfl,?_⟩;refine⟨_,rfl,n,rfl,by omega,by omega,pB (lo:=0) (n:=n) (λi σ' H'=>∃(p:Addr) (pl:Nat) (x':Int) (z7 z8:Option V),σ'=[some (.ref a),some (.int e),some (.int n),some (.int pl),some (.int (2^i)),some (.int (sg (x'+y))),some (.ref p),z7,z8]/\Same H H'/\H' p=some (.lst ([x',y].map V.int))/\x'=x*2^i+y*pl/\pl<2^i/\x'<0/\0<=x'+y) ⟨a,0,x,none,none,by rw[he];rfl,Same.refl _,hA,by rw[Qg];show x=x*1+y*0;omega,by decide,hx,hxy⟩ ?_ ?_⟩
  ·rintro i σ' H1 hi ⟨p,pl,x',z7,z8,rfl,s1,h1,ex,hpl,hx',hxy'⟩;show ci (cZ _ (cS 3)) _ _ _ _;have b2i:Bits 133 ((2:Int)^i):=ow (by omega);have cpl:(pl:Int)<2^i:=by rw[gz];exact Rx.mpr hpl
   have bpl:Bits 133 (pl:Int):=b2i.of_le (by rw[gz];omega)
   have bx':Bits 3005 x':=by rw[ex];exact Bits.mono (Bits.add (k:=3002) ((bx.mul b2i).mono) ((by'.mul bpl).mono)) (by decide)
   refine ao ⟨_,rfl,_,_,rfl,rfl,⟨lB,bpl.mono⟩,?_⟩;refine ao ⟨_,rfl,_,_,rfl,rfl,⟨lB,b2i.mono⟩,?_⟩;refine ao ⟨_,rfl,p,[x',y],rfl,h1,by show 2<=1000;decide,?_,λp2 H2 s2 hp2 e2=>?_⟩
   ·intro z hz;simp only[P8,Qv,or_false]at hz;rcases hz with rfl |rfl
    ·exact bx'.mono
    ·exact by'.mono
   have es:fW [x',y]=[2*x',y]:=by show[2^1*x',2^0*y]=_;rw[Qg,Qn];rfl
   rw[es]at e2;have t2:=s1.trans s2;refine ao ⟨_,rfl,p2,[2*x',y],rfl,SqL.of e2,_,rfl,?_⟩;have esum:([2*x',y]:List Int).sum=2*x'+y:=by show 2*x'+(y+0)=_;omega
   rw[esum];show i7 _ _ _ _ _ _;have epl:(2:Int)*(pl:Int)=((2*pl:Nat):Int):=by omega
   have e2i:(2:Int)*2^i=2^(i+1):=by rw[Qa,QN]
   have n2i:2^(i+1)=2*2^i:=by rw[Nat.pow_succ,Nat.mul_comm]
   have f1:2*x'=x*2^(i+1)+y*((2*pl:Nat):Int):=by rw[ex,<- e2i,<- epl];grind
   have f2:2*x'+y=x*2^(i+1)+y*((2*pl+1:Nat):Int):=by
    rw[f1];have:((2*pl+1:Nat):Int)=((2*pl:Nat):Int)+1:=by omega
    rw[this,Int.mul_add,Qw];omega
   have low:0<=2*x'+y->∀z:Option V,∃(p:Addr) (q:Nat) (x'':Int) (z7 z8:Option V),[some (V.ref a),some (V.int e),some (V.int n),some (V.int (2*pl)),some (V.int (2*2^i)),some (V.int (sg (2*x'+y))),some (V.ref p2),some (V.int (0+i)),z]=[some (.ref a),some (.int e),some (.int n),some (.int q),some (.int (2^(i+1))),some (.int (sg (x''+y))),some (.ref p),z7,z8]/\Same H H2/\H2 p=some (.lst ([x'',y].map V.int))/\x''=x*2^(i+1)+y*q/\q<2^(i+1)/\x''<0/\0<=x''+y:=λh z=>by refine⟨p2,2*pl,2*x',some (.int (0+i)),z,by rw[e2i,epl],t2,e2,f1,by omega,by omega,h⟩
   rcases fu (2*x'+y)with⟨hs,es'⟩ |⟨hs,es'⟩ |⟨hs,es'⟩
   ·
    rw[es'];refine jq (ot ⟨_,rfl,_,_,rfl,rfl,_,rfl,cO (λ_=>?_) (λh0=>absurd h0 (by decide))⟩);refine⟨_,rfl,_,rfl,_,_,rfl,rfl,_,rfl,cO (λ_=>?_) (λh0=>absurd (show(-1:Int)=sg (x'+y)from h0).symm (qH hxy'))⟩;refine ao ⟨_,rfl,_,_,rfl,rfl,?_⟩;refine cz ⟨_,rfl,p2,2*x',y,rfl,e2,λp3 H3 s3 hp3 e3=>?_⟩;refine⟨p3,2*pl+1,2*x'+y,some (.int (0+i)),some (.int (-1)),?_,t2.trans s3,e3,f2,by omega,hs,by omega⟩;have e9:sg (2*x'+y+y)=sg (x'+y):=by rw[show 2*x'+y+y=2*(x'+y) by omega,B3]
    rw[e9,<- e2i];show[some (V.ref a),some (V.int e),some (V.int n),some (V.int (2*(pl:Int)+1)),_,_,_,_,_]=_;have:(2:Int)*(pl:Int)+1=((2*pl+1:Nat):Int):=by omega
    rw[this]
   ·have:=low (by omega) (some (.int (sg (2*x'+y))));refine jq (ot ⟨_,rfl,_,_,rfl,rfl,_,rfl,cO (λh0=>absurd es' h0) (λ_=>?_)⟩);exact cG (cz ⟨_,rfl,this⟩)
   ·have:=low (by omega) (some (.int (sg (2*x'+y))))
    have h1':sg (x'+y)=1:=by
     rcases fu (x'+y)with⟨z,_⟩ |⟨z,_⟩ |⟨_,z⟩
     ·omega
     ·omega
     ·exact z
    refine jq (ot ⟨_,rfl,_,_,rfl,rfl,_,rfl,cO (λ_=>?_) (λh0=>absurd (h0.symm.trans es') (by decide))⟩);refine⟨_,rfl,_,rfl,_,_,rfl,rfl,_,rfl,cO (λh0=>absurd (es'.trans h1'.symm) h0) (λ_=>?_)⟩;exact cz ⟨_,rfl,this⟩
  ·rintro σ' H1 ⟨p,pl,x',z7,z8,rfl,s1,h1,ex,hpl,hx',hxy'⟩;dsimp only
   refine aA ⟨_,rfl,_,rfl,by show 2<=sizeLine;decide,λp' hp'=>?_⟩;refine k p' _ pl (s1.then_new hp') (s1.free hp') ak hpl (by rw[<- ex];exact hx') ?_;rw[Int.mul_add,Qw,<- Int.add_assoc,<- ex];exact hxy'
def v1(C:Addr):Sp:=λvs H Q _=>∃(l r:Addr) (l1 l2 r1 r2 pl pc:Int),vs=[.ref l,.ref r,.int pl,.int pc]/\RA C H l l1 l2/\RA C H r r1 r2/\0<l2/\0<r2/\0<pc/\Bits 60 l1/\Bits 60 l2/\Bits 125 r1/\Bits 125 r2/\Bits 140 pl/\Bits 140 pc /\
 ∀(x:Addr) (H':Hp) (x1 x2:Int),Same H H'->H x=none->RA C H' x x1 x2->0<x2->x1*(l2*r2*pc)=(l1*r2*pc+r1*l2*pl)*x2->Bits 340 x1->Bits 340 x2->Q (.ref x) H'
theorem xj:¬(("plus":Str)="bottom")/\¬(("plus":Str)="top"):=⟨by decide +kernel,by decide +kernel⟩
theorem oV:¬(("minus":Str)="bottom")/\¬(("minus":Str)="top"):=⟨by decide +kernel,by decide +kernel⟩
theorem xi:¬(("times":Str)="bottom")/\¬(("times":Str)="top"):=⟨by decide +kernel,by decide +kernel⟩
theorem cM{k:Nat}{t b:Int}(hb:b≠0)(h:Bits k t):Bits k (rt t b):=h.of_le (Da hb)
theorem cP{k:Nat}{t b:Int}(hb:b≠0)(h:Bits k b):Bits k (rb t b):=h.of_le (Dt hb)
theorem FA(F:Fun K "along" "along" nQ f fd)(T:Txt K mg)(R:RCI K mg C)(uL:MCal P w K mg base 4 C "plus" ["self","other"] (qv C) Kb JT)(ii:MCal P w K mg base 4 C "times" ["self","other"] (i9 C) sX sR)(bE:KCal P w K mg base 2 C "Ratio" ["self","top","bottom"] (cy C) dg df di [.int 1]):FnOk P w K mg base CX0 5 f fd ["low","reach","place","pieces"] (v1 C):=by
 obtain⟨pX,oZ,pU⟩:=uL;obtain⟨fb,eJ,eX⟩:=ii;obtain⟨aR,aQ,aP,bX,bQ,bM⟩:=bE;refine F.ok CF (λvs H Q E h=>?_) (λcdv A outer s H vs Q E hr h=>?_)
 ·obtain⟨l,r,l1,l2,r1,r2,pl,pc,rfl,_⟩:=h;rfl
 ·obtain⟨l,r,l1,l2,r1,r2,pl,pc,rfl,hL,hR,hl2,hr2,hpc,bl1,bl2,br1,br2,bpl,bpc,k⟩:=h;refine⟨_,(ah (am (bS (pv 0) R.cl oZ pX (hr.mono) pU .nil ad (aa (bS (pv 1) R.cl eJ fb (hr.mono) eX .nil ad (aa (bz aQ aR (hr.mono) rfl aP bX .nil ad (aa (pv 2) (aa (pv 3) ac))) ac)) ac)))),?_⟩;obtain⟨dl,hl⟩:=id hL;obtain⟨dr,hrr⟩:=id hR;have pc0:pc≠0:=P9 hpc;refine aA ⟨_,rfl,l,dl,_,rfl,hl,cK _ _ xj.1 xj.2,_,rfl,r,dr,_,rfl,hrr,cK _ _ xi.1 xi.2,_,rfl,_,rfl,cI pc0 (bpc.mono) λxa H1 s1 ha hRa=>?_⟩;have a0:0<rb pl pc:=bJ pc0;have ba1:Bits 140 (rt pl pc):=cM pc0 bpl;have ba2:Bits 140 (rb pl pc):=cP pc0 bpc;have ea:=ce (t:=pl) pc0;generalize rt pl pc=a1 at *
  generalize rb pl pc=a2 at *
  refine⟨r,xa,r1,r2,a1,a2,rfl,hR.same s1,hRa,br1.mono,br2.mono,ba1.mono,ba2.mono,hr2,a0,λxc H2 s2 hc hRc=>?_⟩;have d0:r2*a2≠0:=P9 (P5 hr2 a0);have c0:0<rb (r1*a1) (r2*a2):=bJ d0;have bc1:Bits 265 (rt (r1*a1) (r2*a2)):=cM d0 (br1.mul ba1);have bc2:Bits 265 (rb (r1*a1) (r2*a2)):=cP d0 (br2.mul ba2);have ec:=ce (t:=r1*a1) d0;generalize rt (r1*a1) (r2*a2)=c1 at *
  generalize rb (r1*a1) (r2*a2)=c2 at *
  have t2:=s1.trans s2;refine⟨l,xc,l1,l2,c1,c2,rfl,hL.same t2,hRc,bl1.mono,bl2.mono,bc1.mono,bc2.mono,hl2,c0,λxx H3 s3 hx hRx=>?_⟩;have x0:l2*c2≠0:=P9 (P5 hl2 c0);refine k xx H3 _ _ (t2.trans s3) (t2.free hx) hRx (bJ x0) (LV a0 c0 ea ec (ce x0)) ?_ ?_
  ·refine(cM x0 ?_);exact Bits.mono (Bits.add (k:=330) ((bl1.mul bc2).mono) ((bc1.mul bl2).mono)) (by decide)
  ·exact cP x0 ((bl2.mul bc2).mono)
structure EndsK(k:Nat)(t b l1 l2 h1 h2:Int):Prop where
 l2p:0<l2
 h2p:0<h2
 bl1:Bits k l1
 bl2:Bits k l2
 bh1:Bits k h1
 bh2:Bits k h2
 lo:l1*b<t*l2
 hi:t*h2<=h1*b
theorem EndsK.mono{j k:Nat}{t b l1 l2 h1 h2:Int}(e:EndsK j t b l1 l2 h1 h2)(h:j<=k:=by decide):EndsK k t b l1 l2 h1 h2:=⟨e.l2p,e.h2p,e.bl1.mono h,e.bl2.mono h,e.bh1.mono h,e.bh2.mono h,e.lo,e.hi⟩
theorem EndsK.lt{k:Nat}{t b l1 l2 h1 h2:Int}(e:EndsK k t b l1 l2 h1 h2)(hb:0<b):0<h1*l2-l1*h2:=by
 have h1':=RE e.lo e.h2p;have h2':=Rn e.hi (Qo e.l2p);have e1:l1*b*h2=l1*h2*b:=by grind
 have e2:h1*b*l2=h1*l2*b:=by grind
 have e3:t*l2*h2=t*h2*l2:=by grind
 rw[e1]at h1';rw[e2]at h2';have:l1*h2*b<h1*l2*b:=by omega
 have:=Rm this (Qo hb);omega
theorem kf(u d t b:Int):hv u d [-t,b]=(u*b-t*d)*d:=by
 show -t*d^2+u*(b*d^1+u*0)=_;have:d^2=d*d:=by rw[Qa,Qa,Qg,Qn]
 rw[this,Qa,Qg,Qn];grind
theorem jj{u d t b:Int}(hd:0<d):sg (hv u d [-t,b])=sg (u*b-t*d):=by rw[kf,ji hd]
def lL(C:Addr):Sp:=λvs H Q _=>∃(a l h wd:Addr) (t b l1 l2 h1 h2 w1 w2:Int),vs=[.ref a,.ref l,.ref h,.ref wd]/\H a=some (.lst ([-t,b].map V.int))/\LinS t b/\RA C H l l1 l2/\RA C H h h1 h2/\RA C H wd w1 w2/\EndsK 60 t b l1 l2 h1 h2/\0<w1/\0<w2/\Bits 6 w1/\Bits 6 w2 /\
 ∀(p x y:Addr) (H':Hp) (x1 x2 y1 y2:Int),Same H H'->H p=none->H' p=some (.tup [.ref x,.ref y])->RA C H' x x1 x2->RA C H' y y1 y2->EndsK 340 t b x1 x2 y1 y2->(y1*x2-x1*y2)*w2<=w1*(x2*y2)->Q (.ref p) H'
theorem E3(F:Fun K "narrowed" "narrowed" m4 f fd)(T:Txt K mg)(R:RCI K mg C)(fV:MCal P w K mg base 4 C "minus" ["self","other"] (iu C) pJ pG)(Nu:Cal P w K mg base 1 "halvings" ["reach","width"] (vS C) Po Ow)(Nv:Cal P w K mg base 3 "halved" ["row","end","steps"] vT Pp Ox)(M3:Cal P w K mg base 3 "stretched" ["row","low","reach"] (vq C) OZ N5)(fU:Cal P w K mg base 2 "sign_at" ["row","ratio"] (iq C) pH pF)(NH:Cal P w K mg base 5 "along" ["low","reach","place","pieces"] (v1 C) PC OI):FnOk P w K mg base CX0 6 f fd ["row","low","high","width"] (lL C):=by
 obtain⟨fc,eK,eY⟩:=fV;obtain⟨MB,Hi,Iy,Ls⟩:=Nu;obtain⟨MC,Hj,Iz,Lu⟩:=Nv;obtain⟨Me,GR,HX,K8⟩:=M3;obtain⟨fS,fF,fJ,fQ⟩:=fU;obtain⟨Am,xI,ye,zR⟩:=NH;refine F.ok sc_narrowed (λvs H Q E h=>?_) (λcdv A outer s H vs Q E hr h=>?_)
 ·obtain⟨a,l,h,wd,t,b,l1,l2,h1,h2,w1,w2,rfl,_⟩:=h;rfl
 ·obtain⟨a,l,h,wd,t,b,l1,l2,h1,h2,w1,w2,rfl,hA,hL,hl,hh,hw,en,hw1,hw2,bw1,bw2,k⟩:=h
  refine⟨_,(af (aj (i:=4) sc_narrowed.nd rfl (Or.inl rfl) (bS (pv 2) R.cl eK fc (hr.mono) eY .nil ad (aa (pv 1) ac)))
   (af (aj (i:=5) sc_narrowed.nd rfl (Or.inl rfl) (ag MB (hr.mono) rfl Hi Iy Ls .nil ad (aa (pv 4) (aa (pv 3) ac))))
   (af (aB (ax cj (pv 5) ae (aw _))
     (ah (am (dP (aa (pv 1) (aa (pv 2) ac)))))
     aC)
   (af (aj (i:=6) sc_narrowed.nd rfl (Or.inl rfl) (ag MC (hr.mono) rfl Hj Iz Lu .nil ad (aa (ag Me (hr.mono) rfl GR HX K8 .nil ad (aa (pv 0) (aa (pv 1) (aa (pv 4) ac)))) (aa (ag fS (hr.mono) rfl fF fJ fQ .nil ad (aa (pv 0) (aa (pv 2) ac))) (aa (pv 5) ac)))))
   (ah (am (dP (aa (ag Am (hr.mono) rfl xI ye zR .nil ad (aa (pv 1) (aa (pv 4) (aa (ar (aN (K:=K) rfl) (pv 6) ae (λ_ _=>rfl)) (aa (ar (aN (K:=K) rfl) (pv 6) ae (λ_ _=>rfl)) ac))))) (aa (ag Am (hr.mono) rfl xI ye zR .nil ad (aa (pv 1) (aa (pv 4) (aa (ai aZ (ar (aN (K:=K) rfl) (pv 6) ae (λ_ _=>rfl)) ae) (aa (ar (aN (K:=K) rfl) (pv 6) ae (λ_ _=>rfl)) ac))))) ac))))))))),?_⟩
  obtain⟨dl,hl'⟩:=id hl;obtain⟨dh,hh'⟩:=id hh;have hb:=hL.1;obtain⟨l2p,h2p,bl1,bl2,bh1,bh2,lo,hi⟩:=id en;refine ao ⟨_,rfl,h,dh,_,rfl,hh',cK _ _ oV.1 oV.2,_,rfl,h,l,h1,h2,l1,l2,rfl,hh,hl,bh1.mono,bh2.mono,bl1.mono,bl2.mono,h2p,l2p,λr H1 s1 fr hr1=>?_⟩;have d0:h2*l2≠0:=P9 (P5 h2p l2p);have er:=ce (t:=h1*l2-l1*h2) d0;have r2p:0<rb (h1*l2-l1*h2) (h2*l2):=bJ d0;have br1:Bits 125 (rt (h1*l2-l1*h2) (h2*l2)):=cM d0 (Bits.mono (Bits.sub (bh1.mul bl2) (bl1.mul bh2)) (by decide));have br2:Bits 125 (rb (h1*l2-l1*h2) (h2*l2)):=cP d0 ((bh2.mul bl2).mono);generalize rt (h1*l2-l1*h2) (h2*l2)=r1 at *
  generalize rb (h1*l2-l1*h2) (h2*l2)=r2 at *
  have r1p:0<r1:=by
   have h3:0<r1*(h2*l2):=by rw[er];exact P5 (en.lt hb) r2p
   exact Rm (a:=h2*l2) (by rw[Ra];exact h3) (Qo (P5 h2p l2p))
  have hA1:=s1 _ _ hA;have hl1:=hl.same s1;have hh1:=hh.same s1;refine ao ⟨_,rfl,_,rfl,r,wd,r1,r2,w1,w2,rfl,hr1,hw.same s1,r2p,hw1,br1,br2,bw1,bw2,λn hn hle hmin=>?_⟩;refine aS ⟨_,rfl,_,_,rfl,rfl,_,rfl,aG (λh0=>?_) (λ_=>?_)⟩
  ·obtain rfl:n=0:=by have:(n:Int)=0:=h0;omega
   refine aA ⟨_,rfl,_,rfl,by show 2<=sizeLine;decide,λp hp=>?_⟩;have sp:=Same.upd_new (o:=.tup [V.ref l,V.ref h]) hp;refine k p l h _ l1 l2 h1 h2 (s1.then_new hp) (s1.free hp) ak (hl1.same sp) (hh1.same sp) (en.mono) ?_;rw[Qg,Qw]at hle;refine RU (a:=r2) ?_ r2p
   calc (h1*l2-l1*h2)*w2*r2=(h1*l2-l1*h2)*r2*w2:=by grind
    _=r1*(h2*l2)*w2:=by rw[er]
    _=r1*w2*(h2*l2):=by grind
    _<=w1*r2*(h2*l2):=Rn hle (Qo (P5 h2p l2p))
    _=w1*(l2*h2)*r2:=by grind
  refine ao ⟨_,rfl,_,rfl,_,rfl,a,l,r,t,b,l1,l2,r1,r2,rfl,hA1,hl1,hr1,hb,l2p,r1p,r2p,hL.2.2.1,hL.2.2.2,bl1,bl2,br1,br2,λm s0 s1' pm e0 e1 hs1 c0 c1 p2 H2 s2 hp2 eq2=>?_⟩;have t2:=s1.trans s2;refine⟨_,rfl,_,rfl,a,h,[-t,b],h1,h2,⟨rfl,t2 _ _ hA,hh.same t2,by show 2<=20;decide,hL.bits.mono,bh1.mono,bh2.mono⟩,λH3 s3=>?_⟩;have t3:=t2.trans s3;have rr:∀pc pl:Int,0<pc->((b*s0-t*m)*pc+b*s1'*pl)*(l2*r2)=m*((l1*r2*pc+r1*l2*pl)*b-t*(l2*r2*pc)):=λpc pl _=>sZ e0 e1
  have lp:0<l2*r2:=P5 l2p r2p
  have at0:b*s0-t*m<0:=by
   have h3:=rr 1 0 (by decide);have h4:(l1*r2*1+r1*l2*0)*b-t*(l2*r2*1)=(l1*b-t*l2)*r2:=by grind
   rw[h4]at h3;have h5:m*((l1*b-t*l2)*r2)<0:=Int.mul_neg_of_pos_of_neg pm (RK (by omega) r2p);rw[<- h3]at h5;have h6:(b*s0-t*m)*1+b*s1'*0=b*s0-t*m:=by omega
   rw[h6]at h5;exact Rm (a:=l2*r2) (by rw[Ra];exact h5) (Qo lp)
  have key:((b*s0-t*m)+b*s1')*(l2*r2*h2)=m*r2*l2*(h1*b-t*h2):=by
   have h3:=rr 1 1 (by decide);have h4:(b*s0-t*m)*1+b*s1'*1=(b*s0-t*m)+b*s1':=by omega
   rw[h4]at h3
   have h5:(l1*r2+r1*l2)*h2=h1*l2*r2:=by
    have:r1*(h2*l2)=(h1*l2-l1*h2)*r2:=er
    calc (l1*r2+r1*l2)*h2=l1*r2*h2+r1*(h2*l2):=by grind
     _=l1*r2*h2+(h1*l2-l1*h2)*r2:=by rw[this]
     _=h1*l2*r2:=by grind
   calc ((b*s0-t*m)+b*s1')*(l2*r2*h2)=(((b*s0-t*m)+b*s1')*(l2*r2))*h2:=by grind
    _=m*((l1*r2*1+r1*l2*1)*b-t*(l2*r2*1))*h2:=by rw[h3]
    _=m*(((l1*r2+r1*l2)*h2)*b-t*(l2*r2)*h2):=by grind
    _=m*((h1*l2*r2)*b-t*(l2*r2)*h2):=by rw[h5]
    _=m*r2*l2*(h1*b-t*h2):=by grind
  have pp:0<l2*r2*h2:=P5 lp h2p;have mp:0<m*r2*l2:=P5 (P5 pm r2p) l2p
  have at1:sg ((b*s0-t*m)+b*s1')=sg (h1*b-t*h2):=by rw[<- ji (x:=(b*s0-t*m)+b*s1') pp,key,QN,ji mp]
  have at1':0<=(b*s0-t*m)+b*s1':=by
   rcases fu ((b*s0-t*m)+b*s1')with⟨z,z'⟩ |⟨z,_⟩ |⟨z,_⟩
   ·rw[z']at at1;exact absurd at1.symm (qH (by omega))
   ·omega
   ·omega
  refine⟨_,rfl,p2,b*s0-t*m,b*s1',_,n,rfl,s3 _ _ eq2,by rw[at1,jj h2p],P5 hb hs1,at0,at1',hn,c0,c1,λp4 H4 pl s4 hp4 e4 hpl q0 q1=>?_⟩;have t4:=t3.trans s4;have u4:=(s2.trans s3).trans s4;have b2n:Bits 140 ((2:Int)^n):=ow (by omega);have cpl:(pl:Int)<2^n:=by rw[gz];exact Rx.mpr hpl
  have bpl:Bits 140 (pl:Int):=b2n.of_le (by rw[gz];omega);have bpl1:Bits 140 ((pl:Int)+1):=b2n.of_le (by rw[gz];omega);have p2n:=qU n;refine aA ⟨_,rfl,_,rfl,_,rfl,p4,_,_,_,rfl,rfl,SqT.of e4,rfl,_,rfl,p4,_,_,_,rfl,rfl,SqT.of e4,rfl,l,r,l1,l2,r1,r2,pl,2^n,rfl,hl.same t4,hr1.same u4,l2p,r2p,p2n,bl1,bl2,br1,br2,bpl,b2n,λx H5 x1 x2 s5 hx hRx x2p ex bx1 bx2=>?_⟩;have e5:=s5 _ _ e4;have t5:=t4.trans s5;have u5:=u4.trans s5;refine⟨_,rfl,_,rfl,_,rfl,p4,_,_,_,rfl,rfl,SqT.of e5,rfl,_,_,rfl,rfl,_,rfl,p4,_,_,_,rfl,rfl,SqT.of e5,rfl,l,r,l1,l2,r1,r2,pl+1,2^n,rfl,hl.same t5,hr1.same u5,l2p,r2p,p2n,bl1,bl2,br1,br2,bpl1,b2n,λy H6 y1 y2 s6 hy hRy y2p ey by1 by2=>?_⟩;refine⟨by show 2<=sizeLine;decide,λp hp=>?_⟩;have sp:=Same.upd_new (o:=.tup [V.ref x,V.ref y]) hp;have t6:=t5.trans s6;have D0:0<l2*r2*2^n:=P5 lp p2n;refine k p x y _ x1 x2 y1 y2 (t6.then_new hp) (t6.free hp) ak ((hRx.same s6).same sp) (hRy.same sp) ⟨x2p,y2p,bx1,bx2,by1,by2,Kx x2p D0 ex ?_,Ky y2p D0 ey ?_⟩ (AK l2p r2p p2n x2p y2p ex ey hle)
  ·exact Kq pm l2p r2p e0 e1 q0
  ·exact Kr pm l2p r2p e0 e1 q1
def Ends2(C:Addr)(H:Hp)(l h:Addr)(t b:Int)(B:Int):Prop:=RA C H l (-B) 1/\RA C H h B 1/\Bits 400 B/\0<B/\(t.natAbs:Int)<=(B-1)*b
theorem Ends2.same{C:Addr}{H H':Hp}{l h:Addr}{t b B:Int}(e:Ends2 C H l h t b B)(s:Same H H'):Ends2 C H' l h t b B:=⟨e.1.same s,e.2.1.same s,e.2.2⟩
theorem rW{t b B:Int}(hb:0<b)(h:(t.natAbs:Int)<=(B-1)*b):hv (-B) 1 [-t,b]<0/\0<hv B 1 [-t,b]:=by
 have e1:hv (-B) 1 [-t,b] = -t-B*b:=by show -t*1^2 + -B*(b*1^1 + -B*0)=_;grind
 have e2:hv B 1 [-t,b] = -t+B*b:=by show -t*1^2+B*(b*1^1+B*0)=_;grind
 have e3:(B-1)*b=B*b-b:=by grind
 rw[e1,e2];omega
theorem jh{x:Int}(h:x<0):sg x = -1:=by unfold sg;split<;>(try split)<;>omega
theorem fm{x:Int}(h:0<x):sg x=1:=by unfold sg;split<;>(try split)<;>omega
theorem eG:(¬("against":Str)="bottom")/\¬("against":Str)="top":=⟨by decide +kernel,by decide +kernel⟩
inductive vL(C:Addr)(vs:List V)(H:Hp)(Q:VK)(E:XK):Prop
 |mk (a l h:Addr) (t b B:Int):vs=[.ref a,.ref l,.ref h]->H a=some (.lst ([-t,b].map V.int))->Lin t b->Ends2 C H l h t b B->(∀H',Same H H'->Q (.int 1) H')->vL C vs H Q E
theorem E9(F:Fun K "many_within" "many_within" ng f fd)(T:Txt K mg)(R:RCI K mg C)(lx:MCal P w K mg base 2 C "against" ["self","other"] (lR C) y4 yR)(ig:Cal P w K mg base 4 "count" ["row","low","high"] (jd C) sW sQ)(lf:Cal P w K mg base 35 "row_of" ["polynomial"] lK yU yJ):FnOk P w K mg base CX0 36 f fd ["simple","low","high"] (vL C):=by
 obtain⟨ia,gC,hG⟩:=lx;obtain⟨h7,gG,gL,g6⟩:=ig;obtain⟨kS,jN,j0,kD⟩:=lf;refine F.ok Cp (λvs H Q E h=>?_) (λcdv A outer s H vs Q E hr h=>?_)
 ·obtain⟨a,l,h,t,b,B,rfl,_⟩:=h;rfl
 ·obtain⟨a,l,h,t,b,B,rfl,hA,hL,hE,k⟩:=h;have hb:=hL.1;obtain⟨e1,e2,bB,hB0,hBt⟩:=hE
  refine⟨_,(af (aB (ax oM (bS (pv 1) R.cl gC ia (hr.mono) hG .nil ad (aa (pv 2) ac)) ae (aw _))
   (ah (am ae))
   aC)
   (ah (am (ag h7 (hr.mono) rfl gG gL g6 .nil ad (aa (ag kS (hr.mono) rfl jN j0 kD .nil ad (aa (pv 0) ac)) (aa (pv 1) (aa (pv 2) ac))))))),?_⟩
  have b1:Bits 1 (1:Int):=by show(1:Int).natAbs<2^1;decide
  have bBn:Bits 400 (-B):=bB.neg;obtain⟨dxl,hl⟩:=id e1;refine aS ⟨_,rfl,l,dxl,_,rfl,hl,cK _ _ eG.1 eG.2,_,rfl,l,h,-B,1,B,1,rfl,e1,e2,bBn.mono,b1.mono,bB.mono,b1.mono,_,_,rfl,rfl,_,rfl,aG (λhge=>?_) (λ_=>?_)⟩
  ·have:sg (-B*1-B*1) = -1:=jh (by omega);rw[this]at hge;exact absurd hge (by decide)
  obtain⟨hrun,hrow⟩:=ww (f := -t) (c:=b) (by omega) (hL.bits.mono);refine aA ⟨_,rfl,a,[-t,b],2,rfl,hA,hL.tr,hL.bits.mono,by show 2<=1000;decide,by decide,hrun,λlr ps H1 s1 hl1 hnew el hR=>?_⟩;have hg:Nat.gcd (-t).natAbs b.natAbs=1:=by rw[QA];exact hL.2.1
  have hsb:sg b=1:=fm hb;rw[hrow,hg,hsb]at hR
  have ed:([[-t/((1:Nat):Int),b/((1:Nat):Int)],[1]]:List (List Int))=[[-t,b],[1]]:=by rw[show((1:Nat):Int)=1 from rfl,Rr,Rr]
  rw[ed]at hR;obtain⟨lo,hi⟩:=rW hb hBt;refine⟨_,rfl,_,rfl,lr,l,h,ps,[[-t,b],[1]],-B,1,B,1,rfl,el,hR,e1.same s1,e2.same s1,bBn.mono,b1.mono,bB.mono,b1.mono,?_,by show 2<=1000000;decide,λH2 s2=>?_⟩
  ·intro xs hx;simp only[P8,Qv,or_false]at hx;rcases hx with rfl |rfl
   ·exact⟨by show 2<=20;decide,hL.bits.mono⟩
   ·exact⟨by show 1<=20;decide,λx hx=>by rw[Qc.mp hx];exact b1.mono⟩
  have hone:∀z:Int,sg (hv z 1 [1])=1:=λz=>fm (by show(0:Int)<1*1^1+z*0;simp)
  have c1:(chS (sgs (-B) 1 [[-t,b],[1]])).1=1:=by show(chS [sg (hv (-B) 1 [-t,b]),sg (hv (-B) 1 [1])]).1=1;rw[jh lo,hone];decide
  have c2:(chS (sgs B 1 [[-t,b],[1]])).1=0:=by show(chS [sg (hv B 1 [-t,b]),sg (hv B 1 [1])]).1=0;rw[fm hi,hone];decide
  rw[c1,c2];exact k H2 (s1.trans s2)
inductive qu(vs:List V)(H:Hp)(Q:VK)(E:XK):Prop
 |mk (a:Addr) (ns:List Int):vs=[.ref a]->H a=some (.lst (ns.map V.int))->ns.length<=1000->AllB 397 ns->(∀H',Same H H'->Q .non H')->qu vs H Q E
theorem LO:Bits 399 (10^60*10^60)/\(2:Int)^397<=10^60*10^60:=by
 constructor
 ·show((10:Int)^60*10^60).natAbs<2^399;decide +kernel
 ·decide +kernel
theorem EM(F:Fun K "refuse_great" "refuse_great" mL f fd)(T:Txt K mg):FnOk P w K mg base CX0 1 f fd ["row"] qu:=by
 refine F.ok sc_refuse_great (λvs H Q E h=>?_) (λcdv A outer s H vs Q E hr h=>?_)
 ·obtain⟨a,ns,rfl,_⟩:=h;rfl
 ·obtain⟨a,ns,rfl,hA,hl,hb,k⟩:=h;have big:=sizeLine_eq
  refine⟨_,(af (aj (i:=1) sc_refuse_great.nd rfl (Or.inr rfl) (ai av (ai oK ae ae) (ai oK ae ae)))
   (ah (aB (DI (aI (KR (K:=K) rfl rfl) (by rfl) T.any_ PyProof.Rows.boot_any (aa (cQ (own:=["value"]) (fr:=["limit"]) (js:=[1]) (by walk_at "comp_ok") rfl (dE (K:=K) rfl (pv 0)) (λ_ _ _ _=>(aJ (i:=0) (show List.Nodup (["value","limit"]:List Str)from by decide +kernel) rfl (Or.inl rfl))) (λ_ _ _ _=>(oF oM (aI fO (by rfl) T.abs_ PyProof.Rows.boot_abs (aa (pv 0) ac)) (pv 1) (aw _)))) ac)) (by intro _;rfl))
     (ah gy)
     aC))),?_⟩
  have b6:Bits 1000000 ((10:Int)^60):=b60.mono;refine ao ⟨_,_,rfl,rfl,⟨by decide,by decide,by decide⟩,_,_,rfl,rfl,⟨by decide,by decide,by decide⟩,_,_,rfl,rfl,⟨b6,b6⟩,?_⟩;refine jq ⟨_,rfl,a,rfl,⟨_,SqL.of hA⟩,gU (K:=K) (a:=a) (xs:=ns.map V.int) (λi ys σ' H'=>∃(z0:Option V) (bs:List Bool),σ'=[z0,some (.int (10^60*10^60))]/\ys=bs.map V.bl/\bs.length=i/\(∀x∈bs,x=false)/\H=H') (by rw[PX];omega) ⟨none,[],rfl,rfl,rfl,(λ_ h=>nomatch h),rfl⟩ ?_ ?_ ?_⟩
  ·rintro i ys σ' H' _ ⟨z0,bs,rfl,rfl,rfl,_,rfl⟩;exact⟨SqL.of hA,by rw[PX];exact PZ _⟩
  ·rintro i x ys σ' H' hi ⟨z0,bs,rfl,rfl,rfl,hbs,rfl⟩;obtain⟨c,_,rfl,hc,_⟩:=gj hi;refine⟨_,rfl,_,rfl,_,rfl,_,_,rfl,rfl,?_⟩;refine⟨_,bs++[false],rfl,?_,by rw[PY];rfl,λx hx=>?_,rfl⟩
   ·have hlt:¬((if c<0 then -c else c)≥10^60*10^60):=by
     have h1:c.natAbs<2^397:=hb c hc;have h2:=LO.2;have h3:((2^397:Nat):Int)=(2:Int)^397:=by rw[Int.natCast_pow];rfl
     have h4:(c.natAbs:Int)<(2:Int)^397:=by rw[<- h3];exact Rx.mpr h1
     generalize (2:Int)^397=X at h2 h4
     generalize (10:Int)^60*10^60=Y at h2 ⊢
     split<;>omega
    rw[Qd];show _++[V.bl (decide _)]=_;rw[decide_eq_false hlt];rfl
   ·rcases Qk.mp hx with h |h
    ·exact hbs x h
    ·exact Qc.mp h
  rintro ys σ' H' p ⟨z0,bs,rfl,rfl,hbl,hbs,rfl⟩ hp;refine⟨p,bs,rfl,SqL.of ak,?_⟩
  have e:bs.any id=false:=by rw[List.any_eq_false];intro x hx;rw[hbs x hx];decide
  rw[e];refine⟨_,rfl,cG ?_⟩;exact k _ (Same.upd_new hp)
inductive vP(C:Addr)(vs:List V)(H:Hp)(Q:VK)(E:XK):Prop
 |mk (a l h:Addr) (t b:Int):vs=[.ref a,.ref l,.ref h]->H a=some (.lst ([-t,b].map V.int))->Lin t b->mkL H Q [-t,b]->vP C vs H Q E
theorem Fc(F:Fun K "least" "least" nj f fd)(T:Txt K mg)(cU:Cal P w K mg base 34 "plain" ["row"] fj gQ gP)(bY:Cal P w K mg base 1 "degree" ["row"] c7 dZ dW)(Nz:Cal P w K mg base 1 "fine_width" ["whole"] cx Pt OB)(lh:Cal P w K mg base 6 "narrowed" ["row","low","high","width"] (lL C) yW yL)(Nr:Cal P w K mg base 1 "line_of" ["whole","span"] cx Pm Ou)(NF:Cal P w K mg base 1 "cells" ["row"] cx Pz OG)(M4:Cal P w K mg base 1 "square_of" ["whole","span","other"] cx O0 N6)(NB:Cal P w K mg base 1 "divides" ["divisor","row"] cx Pu OC)(ig:Cal P w K mg base 4 "count" ["row","low","high"] (jd C) sW sQ)(lf:Cal P w K mg base 35 "row_of" ["polynomial"] lK yU yJ):FnOk P w K mg base CX0 36 f fd ["row","low","high"] (vP C):=by
 obtain⟨cE,cA,cB,cD⟩:=cU;obtain⟨aY,aV,aW,aX⟩:=bY;obtain⟨MG,Hn,ID,Ly⟩:=Nz;obtain⟨iY,iN,iQ,iU⟩:=lh;obtain⟨Mz,Hg,Iw,Lq⟩:=Nr;obtain⟨MK,Hs,IH,LG⟩:=NF;obtain⟨Mf,GS,HY,K9⟩:=M4;obtain⟨MH,Ho,IE,Lz⟩:=NB;obtain⟨h7,gG,gL,g6⟩:=ig;obtain⟨kS,jN,j0,kD⟩:=lf;refine F.ok sc_least (λvs H Q E h=>?_) (λcdv A outer s H vs Q E hr h=>?_)
 ·obtain⟨a,l,h,t,b,rfl,_⟩:=h;rfl
 ·obtain⟨a,l,h,t,b,rfl,hA,hL,k⟩:=h;have hu:=hr.units
  refine⟨_,(af (aj (i:=3) sc_least.nd rfl (Or.inl rfl) (ag cE (hr.mono) rfl cA cB cD .nil ad (aa (pv 0) ac)))
   (af (aB (ax dF (ag aY (hr.mono) rfl aV aW aX .nil ad (aa (pv 3) ac)) ae (aw _))
     (ah (am (pv 3)))
     aC)
   (af (aj (i:=4) sc_least.nd rfl (Or.inl rfl) (ag MG (hr.mono) rfl Hn ID Ly .nil ad (aa (pv 3) ac)))
   (af (aj (i:=5) sc_least.nd rfl (Or.inl rfl) (ag iY (hr.mono) rfl iN iQ iU .nil ad (aa (pv 3) (aa (pv 1) (aa (pv 2) (aa (pv 4) ac))))))
   (af (aj (i:=6) sc_least.nd rfl (Or.inl rfl) (ag Mz (hr.mono) rfl Hg Iw Lq .nil ad (aa (pv 3) (aa (pv 5) ac))))
   (af (aB (ax (jD (K:=K) rfl hu) (pv 6) (aK ac) (aw _))
     (ah (am (pv 6)))
     aC)
   (af (aB (ax cj (ag aY (hr.mono) rfl aV aW aX .nil ad (aa (pv 3) ac)) ae (aw _))
     (ah (am (pv 3)))
     aC)
   (af (cg PassesOwn.never rfl (dE (K:=K) rfl (ag MK (hr.mono) rfl Hs IH LG .nil ad (aa (pv 3) ac))) (aJ (i:=7) sc_least.nd rfl (Or.inl rfl))
     (af (aj (i:=8) sc_least.nd rfl (Or.inl rfl) (ag Mf (hr.mono) rfl GS HY K9 .nil ad (aa (pv 3) (aa (pv 5) (aa (ag iY (hr.mono) rfl iN iQ iU .nil ad (aa (pv 3) (aa (ar (aN (K:=K) rfl) (pv 7) ae (λ_ _=>rfl)) (aa (ar (aN (K:=K) rfl) (pv 7) ae (λ_ _=>rfl)) (aa (pv 4) ac))))) ac)))))
       (ah (aB (PW.pt (jw (cH (ag MH (hr.mono) rfl Ho IE Lz .nil ad (aa (pv 8) (aa (pv 3) ac)))) (jv (ax cj (ag h7 (hr.mono) rfl gG gL g6 .nil ad (aa (ag kS (hr.mono) rfl jN j0 kD .nil ad (aa (pv 8) ac)) (aa (pv 1) (aa (pv 2) ac)))) ae (aw _)))))
         (ah (am (pv 8)))
         aC))))
   (ah (am (pv 3))))))))))),?_⟩
  refine ao ⟨_,rfl,a,[-t,b],rfl,hA,hL.tr,by show 2<=1000000;decide,λp H1 s1 hp e1=>?_⟩;rw[hL.plain]at e1;refine aS ⟨_,rfl,p,_,rfl,e1,_,_,rfl,rfl,_,rfl,aG (λ_=>?_) (λh0=>absurd (show(2:Int)-1<2 by decide) h0)⟩;exact⟨_,rfl,k p H1 s1 hp e1⟩
theorem y8(t:Int):dv t 1=1:=by unfold dv;rw[if_neg (by decide)];show((Nat.gcd t.natAbs 1:Nat):Int)=1;rw[Nat.gcd_one_right];rfl
theorem fz(t:Int):rt t 1=t:=by have h:=iy (t:=t) (b:=1) (by decide);rw[y8,Qn]at h;exact h
theorem fA(t:Int):rb t 1=1:=by have h:=gx (t:=t) (b:=1) (by decide);rw[y8,Qn]at h;exact h
def mkN(CN:Addr)(H:Hp)(Q:VK)(l h:Addr)(t b:Int):Prop:=∀(x q:Addr) (H':Hp),Same H H'->H x=none->NA CN H' x q l h->H' q=some (.lst ([-t,b].map V.int))->Q (.ref x) H'
inductive qy(C CN:Addr)(vs:List V)(H:Hp)(Q:VK)(E:XK):Prop
 |mk (a l h:Addr) (t b B:Int):vs=[.ref a,.ref l,.ref h]->H a=some (.lst ([-t,b].map V.int))->Lin t b->Ends2 C H l h t b B->mkN CN H Q l h t b->qy C CN vs H Q E
theorem E1(F:Fun K "number_in" "number_in" mZ f fd)(T:Txt K mg)(R:RCI K mg C)(Nt:Cal P w K mg base 36 "least" ["row","low","high"] (vP C) Pn Ov)(fU:Cal P w K mg base 2 "sign_at" ["row","ratio"] (iq C) pH pF)(lh:Cal P w K mg base 6 "narrowed" ["row","low","high","width"] (lL C) yW yL)(fV:MCal P w K mg base 4 C "minus" ["self","other"] (iu C) pJ pG)(ii:MCal P w K mg base 4 C "times" ["self","other"] (i9 C) sX sR)(bE:KCal P w K mg base 2 C "Ratio" ["self","top","bottom"] (cy C) dg df di [.int 1])(ez:KCal P w K mg base 1 CN "Number" ["self","row","low","high"] (fk CN) km kl ko []):FnOk P w K mg base CX0 37 f fd ["simple","low","high"] (qy C CN):=by
 obtain⟨MA,Hh,Ix,Lr⟩:=Nt;obtain⟨fS,fF,fJ,fQ⟩:=fU;obtain⟨iY,iN,iQ,iU⟩:=lh;obtain⟨fc,eK,eY⟩:=fV;obtain⟨fb,eJ,eX⟩:=ii;obtain⟨aR,aQ,aP,bX,bQ,bM⟩:=bE;obtain⟨eu,d9,dS,d8,kN,kr⟩:=ez;refine F.ok sc_number_in (λvs H Q E h=>?_) (λcdv A outer s H vs Q E hr h=>?_)
 ·obtain⟨a,l,h,t,b,B,rfl,_⟩:=h;rfl
 ·obtain⟨a,l,h,t,b,B,rfl,hA,hL,hE,k⟩:=h;have hb:=hL.1
  refine⟨_,(af (aj (i:=3) sc_number_in.nd rfl (Or.inl rfl) (ag MA (hr.mono) rfl Hh Ix Lr .nil ad (aa (pv 0) (aa (pv 1) (aa (pv 2) ac)))))
   (af (aj (i:=4) sc_number_in.nd rfl (Or.inl rfl) (dP (aa (pv 1) (aa (pv 2) ac))))
   (af (c9 PassesOwn.never (ax cj (ag fS (hr.mono) rfl fF fJ fQ .nil ad (aa (pv 3) (aa (ar (aN (K:=K) rfl) (pv 4) ae (λ_ _=>rfl)) ac))) ae (aw _))
     (af (aj (i:=5) sc_number_in.nd rfl (Or.inl rfl) (bS (bS (ar (aN (K:=K) rfl) (pv 4) ae (λ_ _=>rfl)) R.cl eK fc (hr.mono) eY .nil ad (aa (ar (aN (K:=K) rfl) (pv 4) ae (λ_ _=>rfl)) ac)) R.cl eJ fb (hr.mono) eX .nil ad (aa (bz aQ aR (hr.mono) rfl aP bX .nil ad (aa ae (aa ae ac))) ac)))
       (ah (aj (i:=4) sc_number_in.nd rfl (Or.inl rfl) (ag iY (hr.mono) rfl iN iQ iU .nil ad (aa (pv 3) (aa (ar (aN (K:=K) rfl) (pv 4) ae (λ_ _=>rfl)) (aa (ar (aN (K:=K) rfl) (pv 4) ae (λ_ _=>rfl)) (aa (pv 5) ac)))))))))
   (ah (am (bz d9 eu (hr.mono) rfl dS d8 .nil ad (aa (pv 3) (aa (ar (aN (K:=K) rfl) (pv 4) ae (λ_ _=>rfl)) (aa (ar (aN (K:=K) rfl) (pv 4) ae (λ_ _=>rfl)) ac))))))))),?_⟩
  refine ao ⟨_,rfl,_,rfl,_,rfl,a,l,h,t,b,rfl,hA,hL,λp H1 s1 hp e1=>?_⟩;refine ao ⟨_,rfl,_,rfl,by show 2<=sizeLine;decide,λps hps=>?_⟩;have s2:=s1.then_new (o:=.tup [V.ref l,V.ref h]) hps;have q2:upd H1 ps (.tup [V.ref l,V.ref h]) ps=some (.tup [V.ref l,V.ref h]):=ak;have e2:=(Same.upd_new (o:=.tup [V.ref l,V.ref h]) hps) _ _ e1;generalize upd H1 ps (.tup [V.ref l,V.ref h])=H2 at s2 q2 e2 ⊢
  have hE2:=hE.same s2;obtain⟨el,eh,bB,hB0,hBt⟩:=hE2;have b1:Bits 1 (1:Int):=by show(1:Int).natAbs<2^1;decide
  refine⟨λm σ' H'=>m=0/\(∃z5:Option V,σ'=[some (.ref a),some (.ref l),some (.ref h),some (.ref p),some (.ref ps),z5])/\H2=H',⟨0,rfl,⟨none,rfl⟩,rfl⟩,?_⟩;rintro m σ' H' ⟨rfl,⟨z5,rfl⟩,rfl⟩;refine⟨_,rfl,_,rfl,ps,_,_,_,rfl,rfl,SqT.of q2,rfl,p,l,[-t,b],-B,1,⟨rfl,e2,el,by show 2<=20;decide,hL.bits.mono,bB.neg.mono,b1.mono⟩,λH3 s3=>⟨_,_,rfl,rfl,_,rfl,aG (λh0=>?_) (λ_=>?_)⟩⟩
  ·have:sg (hv (-B) 1 [-t,b]) = -1:=jh (rW hb hBt).1;exact absurd (this.symm.trans h0) (by decide)
  have q3:=s3 _ _ q2;have e3:=s3 _ _ e2;dsimp only
  refine aA ⟨_,rfl,_,rfl,ps,_,_,_,rfl,rfl,SqT.of q3,rfl,_,rfl,ps,_,_,_,rfl,rfl,SqT.of q3,rfl,λx dx nx ndx ne=>?_⟩;have npx:p≠x:=aD e3 nx;have npd:p≠dx:=aD e3 ndx;refine⟨x,dx,p,l,h,_,rfl,ak,by rw[upd_ne npx,upd_ne npd];exact e3,λq hq=>⟨rfl,?_⟩⟩;have nqx:q≠x:=λz=>by rw[z,ak]at hq;cases hq
  have nxq:x≠q:=Ne.symm nqx;have fx:H x=none:=(s2.trans s3).free nx;refine k x q _ (λc o e=>?_) fx ⟨dx,ak⟩ (by rw[upd_ne nqx,ak]);have ec:=(s2.trans s3) c o e;have ncx:c≠x:=aD ec nx;have ncd:c≠dx:=aD ec ndx;have e4:upd (upd H3 dx (.own x)) x (.ins CN dx []) c=some o:=by rw[upd_ne ncx,upd_ne ncd];exact ec
  rw[upd_ne ncx,upd_ne (aD e4 hq)];exact e4
inductive qz(C CN:Addr)(vs:List V)(H:Hp)(Q:VK)(E:XK):Prop
 |mk (a:Addr) (t b:Int):vs=[.ref a,.non,.non]->H a=some (.lst ([-t,b].map V.int))->Lin t b->(∀(x q l h:Addr) (B:Int) (H':Hp),Same H H'->H x=none->NA CN H' x q l h->H' q=some (.lst ([-t,b].map V.int))->Ends2 C H' l h t b B->(Bits 50 t->Bits 60 B)->Q (.ref x) H')->qz C CN vs H Q E
theorem E2(F:FunD K "number" "number" fv dV f fd)(T:Txt K mg)(R:RCI K mg C)(lg:Cal P w K mg base 1 "refuse_high" ["height"] (λvs H Q _=>∃i:Int,vs=[.int i]/\i<=8/\Q .non H) yV yK)(bY:Cal P w K mg base 1 "degree" ["row"] c7 dZ dW)(bE:KCal P w K mg base 2 C "Ratio" ["self","top","bottom"] (cy C) dg df di [.int 1])(uI:Cal P w K mg base 1 "bound" ["row"] (qE K) J8 JQ)(ib:Cal P w K mg base 36 "without_squares" ["row"] i8 sS sN)(Np:Cal P w K mg base 36 "many_within" ["simple","low","high"] (vL C) Pk Os)(uA:Cal P w K mg base 1 "refuse_great" ["row"] qu J0 JI)(uE:Cal P w K mg base 37 "number_in" ["simple","low","high"] (qy C CN) J5 JM):FnOk P w K mg base CX0 38 f fd ["row","low","high"] (qz C CN):=by
 obtain⟨kT,jO,j1,kF⟩:=lg;obtain⟨aY,aV,aW,aX⟩:=bY;obtain⟨aR,aQ,aP,bX,bQ,bM⟩:=bE;obtain⟨k6,jU,j7,kL⟩:=uI;obtain⟨hJ,gE,gJ,gY⟩:=ib;obtain⟨Mw,He,Iu,Lo⟩:=Np;obtain⟨ue,rO,su,tN⟩:=uA;obtain⟨ui,rS,sy,tR⟩:=uE;refine F.ok sc_number (λvs H Q E h=>?_) (λcdv A outer s H vs Q E hr h=>?_)
 ·obtain⟨a,t,b,rfl,_⟩:=h;rfl
 ·obtain⟨a,t,b,rfl,hA,hL,k⟩:=h;have hb:=hL.1
  refine⟨_,(af (eD (ag kT (hr.mono) rfl jO j1 kF .nil ad (aa (ag aY (hr.mono) rfl aV aW aX .nil ad (aa (pv 0) ac)) ac)))
   (af (aB (ax dF (ag aY (hr.mono) rfl aV aW aX .nil ad (aa (pv 0) ac)) ae (aw _))
     (ah gy)
     aC)
   (af (aj (i:=3) sc_number.nd rfl (Or.inl rfl) (oE (ax wU (pv 1) wS (aw _)) (bz aQ aR (hr.mono) rfl aP bQ bM ad (aa (aU aT (ag k6 (hr.mono) rfl jU j7 kL .nil ad (aa (pv 0) ac))) ac)) (pv 1)))
   (af (aj (i:=4) sc_number.nd rfl (Or.inl rfl) (oE (ax wU (pv 2) wS (aw _)) (bz aQ aR (hr.mono) rfl aP bQ bM ad (aa (ag k6 (hr.mono) rfl jU j7 kL .nil ad (aa (pv 0) ac)) ac)) (pv 2)))
   (af (aj (i:=5) sc_number.nd rfl (Or.inl rfl) (ag hJ (hr.mono) rfl gE gJ gY .nil ad (aa (pv 0) ac)))
   (af (aj (i:=6) sc_number.nd rfl (Or.inl rfl) (ag Mw (hr.mono) rfl He Iu Lo .nil ad (aa (pv 5) (aa (pv 3) (aa (pv 4) ac)))))
   (af (aB (ax gb (pv 6) ae (aw _))
     (ah gy)
     aC)
   (af (eD (ag ue (hr.mono) rfl rO su tN .nil ad (aa (pv 5) ac)))
   (ah (am (ag ui (hr.mono) rfl rS sy tR .nil ad (aa (pv 5) (aa (pv 3) (aa (pv 4) ac)))))))))))))),?_⟩
  refine eC ⟨_,rfl,a,_,rfl,hA,_,rfl,by show(2:Int)-1<=8;decide,?_⟩;refine aS ⟨_,rfl,a,_,rfl,hA,_,_,rfl,rfl,_,rfl,aG (λh0=>absurd h0 (by show ¬(2:Int)-1<1;decide)) (λ_=>?_)⟩;have b1:Bits 9000 (1:Int):=Bits.mono (j:=1) (by show(1:Int).natAbs<2^1;decide) (by decide);have hll:bT [-t,b]=b:=rfl;have hos:([-t,b]:List Int).take (([-t,b]:List Int).length-1)=[-t]:=rfl
  have small:∀kb:Nat,isB (([-t,b]:List Int).take (([-t,b]:List Int).length-1)) (bT [-t,b]).natAbs kb->Bits 400 ((2^kb:Nat):Int)/\(0:Int)<((2^kb:Nat):Int)/\(t.natAbs:Int)<=(((2^kb:Nat):Int)-1)*b/\(Bits 50 t->Bits 60 ((2^kb:Nat):Int)):=λkb hB=>by
   rw[hll,hos]at hB;have hp:1<=2^kb:=Nat.pow_pos (by decide);have h1:=hB.1 (-t) (by simp);rw[QA]at h1;refine⟨?_,by omega,?_,λh50=>?_⟩
   ·have hk:kb<=385:=by
     rcases Nat.lt_or_ge kb 386 with h |h
     ·omega
     ·obtain⟨x,hx,h2⟩:=hB.2 385 (by omega);rw[Qc.mp hx,QA]at h2;have h3:t.natAbs<2^380:=hL.2.2.1;have h4:2^380<=2^385-1:=by decide +kernel
      have h5:2^385-1<=(2^385-1)*b.natAbs:=RT _ (by omega);exact absurd h2 (Nat.lt_asymm (Nat.lt_of_lt_of_le h3 (Nat.le_trans h4 h5)))
    show((2^kb:Nat):Int).natAbs<2^400;rw[QH];exact(Q3 (by decide)).mpr (by omega)
   ·have h2:(t.natAbs:Int)<=(((2^kb-1)*b.natAbs:Nat):Int):=Int.ofNat_le.mpr h1;rw[Rs,RH hp]at h2;have h3:(b.natAbs:Int)=b:=by omega
    rw[h3]at h2;exact h2
   ·have hk:kb<=55:=by
     rcases Nat.lt_or_ge kb 56 with h |h
     ·omega
     ·obtain⟨x,hx,h2⟩:=hB.2 55 (by omega);rw[Qc.mp hx,QA]at h2;have h3:t.natAbs<2^50:=h50;have h5:2^55-1<=(2^55-1)*b.natAbs:=RT _ (by omega);omega
    show((2^kb:Nat):Int).natAbs<2^60;rw[QH];exact(Q3 (by decide)).mpr (by omega)
  refine ao ⟨_,rfl,rfl,_,rfl,?_⟩;rw[decide_eq_true rfl];refine dN ⟨_,rfl,a,[-t,b],rfl,SqL.of hA,hL.tr,by simp,by show 2<=100000;decide,hL.bits.mono,λkb H1 hkb hB1 s1=>⟨_,rfl,?_⟩⟩;obtain⟨bB,hB0,hBt,b60⟩:=small kb hB1;generalize hBB:((2^kb:Nat):Int)=B at bB hB0 hBt b60 ⊢
  refine cI (t := -B) (b:=1) (by decide) b1 λxl H2 s2 hxl hRl=>?_
  rw[fz,fA]at hRl;have t2:=s1.trans s2;have hA2:=t2 _ _ hA;refine ao ⟨_,rfl,rfl,_,rfl,?_⟩;rw[decide_eq_true rfl];refine dN ⟨_,rfl,a,[-t,b],rfl,SqL.of hA2,hL.tr,by simp,by show 2<=100000;decide,hL.bits.mono,λkb2 H3 hkb2 hB2 s3=>?_⟩
  obtain rfl:kb=kb2:=by
   have u:∀{os:List Int} {l k k':Nat},isB os l k->isB os l k'->k=k':=λ{os l k k'} h h'=>by
    rcases Nat.lt_trichotomy k k' with z |z |z
    ·obtain⟨x,hx,z'⟩:=h'.2 k z;have:=h.1 x hx;omega
    ·exact z
    ·obtain⟨x,hx,z'⟩:=h.2 k' z;have:=h'.1 x hx;omega
   exact u hB1 hB2
  rw[hBB];refine cI (t:=B) (b:=1) (by decide) b1 λxh H4 s4 hxh hRh=>?_
  rw[fz,fA]at hRh;have t4:=t2.trans (s3.trans s4);have hE4:Ends2 C H4 xl xh t b B:=⟨hRl.same (s3.trans s4),hRh,bB,hB0,hBt⟩;refine ao ⟨_,rfl,a,t,b,rfl,t4 _ _ hA,hL,λpw H5 s5 hpw e5=>?_⟩;have hE5:=hE4.same s5;refine ao ⟨_,rfl,_,rfl,_,rfl,pw,xl,xh,t,b,B,rfl,e5,hL,hE5,λH6 s6=>?_⟩;have e6:=s6 _ _ e5;have hE6:=hE5.same s6;refine aS ⟨_,rfl,_,_,rfl,rfl,_,rfl,cO (λh=>absurd rfl h) (λ_=>?_)⟩;refine eC ⟨_,rfl,pw,[-t,b],rfl,e6,by show 2<=1000;decide,hL.bits.mono,λH7 s7=>?_⟩;have e7:=s7 _ _ e6;have hE7:=hE6.same s7;have t7:=t4.trans (s5.trans (s6.trans s7));refine aA ⟨_,rfl,_,rfl,_,rfl,pw,xl,xh,t,b,B,rfl,e7,hL,hE7,λx q H8 s8 hx hN hq=>?_⟩;exact k x q xl xh B H8 (t7.trans s8) (t7.free hx) hN hq (hE7.same s8) b60
inductive qB(C CN:Addr)(vs:List V)(H:Hp)(Q:VK)(E:XK):Prop
 |mk (r:Addr) (t b:Int):vs=[.ref r]->RA C H r t b->Lin t b->(∀(x q l h:Addr) (B:Int) (H':Hp),Same H H'->H x=none->NA CN H' x q l h->H' q=some (.lst ([-t,b].map V.int))->Ends2 C H' l h t b B->(Bits 50 t->Bits 60 B)->Q (.ref x) H')->qB C CN vs H Q E
theorem Fh(F:Fun K "fraction" "fraction" nu f fd)(T:Txt K mg)(R:RCI K mg C)(Nl:CalE P w K mg base 38 "number" ["row","low","high"] (qz C CN) Pg On PU [.non,.non]):FnOk P w K mg base CX0 39 f fd ["ratio"] (qB C CN):=by
 obtain⟨Ms,Ha,Im,PV,LN,Ko⟩:=Nl;refine F.ok Cr (λvs H Q E h=>?_) (λcdv A outer s H vs Q E hr h=>?_)
 ·obtain⟨r,t,b,rfl,_⟩:=h;rfl
 ·obtain⟨r,t,b,rfl,⟨dx,hr'⟩,hL,k⟩:=h;refine⟨_,(ah (am (ag Ms (hr.mono) rfl Ha Im LN Ko ad (aa (aK (aa (aU aT (aq (K:=K) rfl (pv 0) rfl)) (aa (aq (K:=K) rfl (pv 0) rfl) ac))) ac)))),?_⟩;refine aA ⟨_,rfl,r,C,dx,_,_,rfl,hr',R.cl,R.nT,cC _ _,_,rfl,_,rfl,r,C,dx,_,_,rfl,hr',R.cl,R.nB,bG _ _,by show 2<=sizeLine;decide,λp hp=>?_⟩;refine⟨p,t,b,rfl,ak,hL,λx q l h B H' s' hx hN hq hE b6=>k x q l h B H' ((Same.upd_new hp).trans s') ((Same.upd_new hp).free hx) hN hq hE b6⟩
theorem xw(i:Nat):((i:Int)%2=0)↔i%2=0:=by omega
theorem El(F:Fun K "turned" "turned" ma f fd)(T:Txt K mg):FnOk P w K mg base CX0 1 f fd ["row"] (sp1 turnL):=by
 refine F.ok B9 (λvs H Q E h=>?_) (λcdv A outer s H vs Q E hr h=>?_)
 ·obtain⟨a,ns,rfl,_⟩:=h;rfl
 ·obtain⟨a,ns,rfl,hA,hn,hb,k⟩:=h;have big:=sizeLine_eq;refine⟨_,(ah (am (cQ (own:=["k","value"]) (fr:=[]) (js:=[]) (by walk_at "comp_ok") rfl (oz rfl T.enumerate_ (aa (pv 0) ac)) (λ_ _ _ _=>(DZ (K:=K) (n:=2) rfl rfl (f7 (aJ (i:=0) (show List.Nodup (["k","value"]:List Str)from by decide +kernel) rfl (Or.inl rfl) (Or.inr rfl)) (f7 (aJ (i:=1) (show List.Nodup (["k","value"]:List Str)from by decide +kernel) rfl (Or.inl rfl) (Or.inr rfl)) oA rfl) rfl) rfl rfl)) (λ_ _ _ _=>(oE (ax cj (ai eE (pv 0) ae) ae (aw _)) (pv 1) (aU aT (pv 1))))))),?_⟩;have hl:(ns.map V.int).length=ns.length:=PX _;refine aA ⟨_,rfl,a,rfl,⟨_,SqL.of hA⟩,Kz (K:=K) (a:=a) (xs:=ns.map V.int) (λi ys σ' H'=>∃z y:Option V,σ'=[z,y]/\ys=((List.range i).map λ(j:Nat)=>V.int (if j%2=0 then cf ns j else -cf ns j))/\Same H H') (by rw[hl];omega) ⟨none,none,rfl,rfl,Same.refl _⟩ ?_ ?_ ?_⟩
  ·rintro i ys σ' H' _ ⟨z,y,rfl,rfl,sm⟩;exact⟨SqL.of (sm _ _ hA),by simp⟩
  ·rintro i x ys σ' H' q hi ⟨z,y,rfl,rfl,sm⟩ hq;obtain⟨c,ec,rfl,_,_⟩:=gj hi;have hc:cf ns i=c:=tw ec;refine⟨q,_,rfl,SqT.of ak,rfl,_,_,rfl,_,_,rfl,rfl,?_⟩;refine⟨_,rfl,_,_,rfl,rfl,(by show(0:Int)<2;decide),_,_,rfl,rfl,_,rfl,?_⟩;refine aG (λh=>?_) (λh=>?_)
   ·refine⟨_,rfl,_,_,rfl,?_,sm.then_new hq⟩;rw[<- qQ,if_pos ((xw i).mp h),hc]
   ·refine⟨_,rfl,_,rfl,_,_,rfl,?_,sm.then_new hq⟩;rw[<- qQ,if_neg (λz=>h ((xw i).mpr z)),hc]
  ·rintro ys σ' H' p ⟨z,y,rfl,rfl,sm⟩ hp;refine k p _ (sm.then_new hp) (sm.free hp) ?_;rw[ak,hl];unfold RM.turnL;rw[Qp];rfl
def NL(k:Nat)(C CN:Addr)(H:Hp)(x:Addr)(t b l1 l2 h1 h2:Int):Prop:=∃q l h,NA CN H x q l h/\H q=some (.lst ([-t,b].map V.int))/\RA C H l l1 l2/\RA C H h h1 h2/\EndsK k t b l1 l2 h1 h2
theorem NL.same{k:Nat}{C CN:Addr}{H H':Hp}{x:Addr}{t b l1 l2 h1 h2:Int}(n:NL k C CN H x t b l1 l2 h1 h2)(s:Same H H'):NL k C CN H' x t b l1 l2 h1 h2:=let⟨q,l,h,a,e,c,d,en⟩:=n;⟨q,l,h,a.same s,s _ _ e,c.same s,d.same s,en⟩
theorem NL.mono{j k:Nat}{C CN:Addr}{H:Hp}{x:Addr}{t b l1 l2 h1 h2:Int}(n:NL j C CN H x t b l1 l2 h1 h2)(hk:j<=k:=by decide):NL k C CN H x t b l1 l2 h1 h2:=let⟨q,l,h,a,e,c,d,en⟩:=n;⟨q,l,h,a,e,c,d,en.mono hk⟩
theorem rH{CN:Addr}{H3:Hp}{q:Addr->Hp->Prop}{E:XK}{r l h:Addr}{ns:List V}(e3:H3 r=some (.lst ns))(k:∀(x p:Addr) (H':Hp),Same H3 H'->H3 x=none->NA CN H' x p l h->H' p=some (.lst ns)->q x H'):∀x dx:Addr,H3 x=none->H3 dx=none->dx≠x->fk CN (.ref x::([.ref r,.ref l,.ref h]++[])) (upd (upd H3 dx (.own x)) x (.ins CN dx [])) (λv H2=>v=.non/\q x H2) E:=λx dx nx ndx ne=>by
 have npx:r≠x:=aD e3 nx;have npd:r≠dx:=aD e3 ndx;refine⟨x,dx,r,l,h,_,rfl,ak,by rw[upd_ne npx,upd_ne npd];exact e3,λq hq=>⟨rfl,?_⟩⟩;have nqx:q≠x:=λz=>by rw[z,ak]at hq;cases hq
 refine k x q _ (λc o ec=>?_) nx ⟨dx,ak⟩ (by rw[upd_ne nqx,ak]);have ncx:c≠x:=aD ec nx;have ncd:c≠dx:=aD ec ndx;have e4:upd (upd H3 dx (.own x)) x (.ins CN dx []) c=some o:=by rw[upd_ne ncx,upd_ne ncd];exact ec
 rw[upd_ne ncx,upd_ne (aD e4 hq)];exact e4
theorem b1k{k:Nat}(h:1<=k):Bits k (1:Int):=Bits.mono (j:=1) (by show(1:Int).natAbs<2^1;decide) h
def Nrw(C CN:Addr)(H:Hp)(vs:List V)(x wd:Addr)(t b l1 l2 h1 h2 w1 w2:Int):Prop:=vs=[.ref x,.ref wd]/\NL 60 C CN H x t b l1 l2 h1 h2/\LinS t b/\RA C H wd w1 w2/\0<w1/\0<w2/\Bits 6 w1/\Bits 6 w2
def ja(C CN:Addr):Sp:=λvs H Q _=>∃(x wd:Addr) (t b l1 l2 h1 h2 w1 w2:Int),Nrw C CN H vs x wd t b l1 l2 h1 h2 w1 w2 /\
 ∀(p y z:Addr) (H':Hp) (x1 x2 y1 y2:Int),Same H H'->H p=none->H' p=some (.tup [.ref y,.ref z])->RA C H' y x1 x2->RA C H' z y1 y2->EndsK 340 t b x1 x2 y1 y2->(y1*x2-x1*y2)*w2<=w1*(x2*y2)->Q (.ref p) H'
theorem Ez(F:Fun K "span_of" "span_of" mx f fd)(T:Txt K mg)(R:RCI K mg C)(RN:NCI K mg CN)(lh:Cal P w K mg base 6 "narrowed" ["row","low","high","width"] (lL C) yW yL):FnOk P w K mg base CX0 7 f fd ["one","width"] (ja C CN):=by
 obtain⟨iY,iN,iQ,iU⟩:=lh;refine F.ok Cd (λvs H Q E h=>?_) (λcdv A outer s H vs Q E hr h=>?_)
 ·obtain⟨x,wd,t,b,l1,l2,h1,h2,w1,w2,⟨rfl,_⟩,_⟩:=h;rfl
 ·obtain⟨x,wd,t,b,l1,l2,h1,h2,w1,w2,⟨rfl,⟨q,l,h,⟨dx,hx⟩,hq,hl,hh,en⟩,hL,hw,p1,p2,b1,b2⟩,k⟩:=h;refine⟨_,(ah (am (ag iY (hr.mono) rfl iN iQ iU .nil ad (aa (aq (K:=K) rfl (pv 0) rfl) (aa (aq (K:=K) rfl (pv 0) rfl) (aa (aq (K:=K) rfl (pv 0) rfl) (aa (pv 1) ac))))))),?_⟩;exact aA ⟨_,rfl,x,CN,dx,_,_,rfl,hx,RN.cl,RN.nP,cL _ _ _,_,rfl,x,CN,dx,_,_,rfl,hx,RN.cl,RN.nL,kj _ _ _,_,rfl,x,CN,dx,_,_,rfl,hx,RN.cl,RN.nH,iR _ _ _,_,rfl,q,l,h,wd,t,b,l1,l2,h1,h2,w1,w2,rfl,hq,hL,hl,hh,hw,en,p1,p2,b1,b2,k⟩
def BM(C CN:Addr):Sp:=λvs H Q _=>∃(x wd:Addr) (t b l1 l2 h1 h2 w1 w2:Int),Nrw C CN H vs x wd t b l1 l2 h1 h2 w1 w2 /\
 ∀(y:Addr) (H':Hp) (x1 x2 y1 y2:Int),Same H H'->H y=none->NL 340 C CN H' y t b x1 x2 y1 y2->(y1*x2-x1*y2)*w2<=w1*(x2*y2)->Q (.ref y) H'
theorem E4(F:Fun K "narrow" "narrow" m5 f fd)(T:Txt K mg)(R:RCI K mg C)(RN:NCI K mg CN)(ie:Cal P w K mg base 7 "span_of" ["one","width"] (ja C CN) sV sP)(ez:KCal P w K mg base 1 CN "Number" ["self","row","low","high"] (fk CN) km kl ko []):FnOk P w K mg base CX0 8 f fd ["one","width"] (BM C CN):=by
 obtain⟨fR,fE,fH,fP⟩:=ie;obtain⟨eu,d9,dS,d8,kN,kr⟩:=ez;refine F.ok sc_narrow (λvs H Q E h=>?_) (λcdv A outer s H vs Q E hr h=>?_)
 ·obtain⟨x,wd,t,b,l1,l2,h1,h2,w1,w2,⟨rfl,_⟩,_⟩:=h;rfl
 ·obtain⟨x,wd,t,b,l1,l2,h1,h2,w1,w2,⟨rfl,hN,hL,hw,p1,p2,b1,b2⟩,k⟩:=h
  refine⟨_,(af (aj (i:=2) sc_narrow.nd rfl (Or.inl rfl) (ag fR (hr.mono) rfl fE fH fP .nil ad (aa (pv 0) (aa (pv 1) ac))))
   (ah (am (bz d9 eu (hr.mono) rfl dS d8 .nil ad (aa (aq (K:=K) rfl (pv 0) rfl) (aa (ar (aN (K:=K) rfl) (pv 2) ae (λ_ _=>rfl)) (aa (ar (aN (K:=K) rfl) (pv 2) ae (λ_ _=>rfl)) ac))))))),?_⟩
  refine ao ⟨_,rfl,_,rfl,x,wd,t,b,l1,l2,h1,h2,w1,w2,⟨rfl,hN,hL,hw,p1,p2,b1,b2⟩,λp y z H1 x1 x2 y1 y2 s1 hp e1 hy hz en wide=>?_⟩;obtain⟨q,l,h,⟨dx,hx⟩,hq,hl,hh,_⟩:=hN.same s1;refine aA ⟨_,rfl,x,CN,dx,_,_,rfl,hx,RN.cl,RN.nP,cL _ _ _,_,rfl,p,_,_,_,rfl,rfl,SqT.of e1,rfl,_,rfl,p,_,_,_,rfl,rfl,SqT.of e1,rfl,rH hq λy' q' H2 s2 hy' hN' hq'=>?_⟩;exact k y' H2 x1 x2 y1 y2 (s1.trans s2) (s1.free hy') ⟨q',y,z,hN',hq',hy.same s2,hz.same s2,en⟩ wide
inductive v0(C CN:Addr)(vs:List V)(H:Hp)(Q:VK)(E:XK):Prop
 |mk (x:Addr) (s t b l1 l2 h1 h2:Int):vs=[.ref x,.int s]->NL 340 C CN H x t b l1 l2 h1 h2->LinS t b->(s = -1\/s=0\/(s=1/\t*h2<h1*b))->(∀H',Same H H'->Q (.int (-s)) H')->v0 C CN vs H Q E
theorem Fz(F:Fun K "beside" "beside" nO f fd)(T:Txt K mg)(R:RCI K mg C)(RN:NCI K mg CN)(fU:Cal P w K mg base 2 "sign_at" ["row","ratio"] (iq C) pH pF):FnOk P w K mg base CX0 3 f fd ["one","sign"] (v0 C CN):=by
 obtain⟨fS,fF,fJ,fQ⟩:=fU;refine F.ok CD (λvs H Q E h=>?_) (λcdv A outer s H vs Q E hr h=>?_)
 ·obtain⟨x,s,t,b,l1,l2,h1,h2,rfl,_⟩:=h;rfl
 ·obtain⟨x,v,t,b,l1,l2,h1,h2,rfl,⟨q,l,h,⟨dx,hx⟩,hq,hl,hh,en⟩,hL,hs,k⟩:=h
  refine⟨_,(af (aB (ax cj (pv 1) ae (aw _))
   (ah (am ae))
   aC)
   (af (aB (ax cj (pv 1) (ag fS (hr.mono) rfl fF fJ fQ .nil ad (aa (aq (K:=K) rfl (pv 0) rfl) (aa (aq (K:=K) rfl (pv 0) rfl) ac))) (aw _))
     (ah (am (aU aT ae)))
     aC)
   (ah (am ae)))),?_⟩
  refine aS ⟨_,rfl,_,_,rfl,rfl,_,rfl,aG (λh0=>?_) (λh0=>?_)⟩
  ·have e:v=0:=h0;subst e;exact k H (Same.refl _)
  have h0':¬v=0:=h0;refine aS ⟨_,rfl,_,rfl,x,CN,dx,_,_,rfl,hx,RN.cl,RN.nP,cL _ _ _,_,rfl,x,CN,dx,_,_,rfl,hx,RN.cl,RN.nH,iR _ _ _,q,h,[-t,b],h1,h2,⟨rfl,hq,hh,by show 2<=20;decide,hL.bits.mono,en.bh1.mono,en.bh2.mono⟩,λH1 s1=>⟨_,_,rfl,rfl,_,rfl,aG (λhe=>?_) (λhne=>?_)⟩⟩
  ·have he':v=sg (hv h1 h2 [-t,b]):=he;rw[jj en.h2p]at he'
   have e1:v=1:=by
    have:=qH (x:=h1*b-t*h2) (by have:=en.hi;omega);rcases hs with z |z |⟨z,_⟩
    ·rw[z]at he';exact absurd he'.symm this
    ·exact absurd z h0'
    ·exact z
   subst e1;exact aA ⟨_,rfl,k H1 s1⟩
  ·have hne':¬v=sg (hv h1 h2 [-t,b]):=hne;rw[jj en.h2p]at hne'
   have e1:v = -1:=by
    rcases hs with z |z |⟨z,z'⟩
    ·exact z
    ·exact absurd z h0'
    ·rw[fm (show 0<h1*b-t*h2 by omega)]at hne';exact absurd z hne'
   subst e1;exact aA (k H1 s1)
inductive v2(C CN:Addr)(vs:List V)(H:Hp)(Q:VK)(E:XK):Prop
 |mk (x r:Addr) (t b l1 l2 h1 h2 u d:Int):vs=[.ref x,.ref r]->NL 340 C CN H x t b l1 l2 h1 h2->LinS t b->RA C H r u d->0<d->Bits 3000 u->Bits 3000 d->(∀H',Same H H'->Q (.int (sg (t*d-u*b))) H')->v2 C CN vs H Q E
theorem xQ{a b c d e f:Int}(hb:0<b)(hd:0<d)(hf:0<f)(h1:a*d<=c*b)(h2:c*f<e*d):a*f<e*b:=by
 have e1:a*d*f<=c*b*f:=Rn h1 (Qo hf);have e2:c*f*b<e*d*b:=RE h2 hb
 have e3:a*f*d<e*b*d:=by
  have x1:a*d*f=a*f*d:=by grind
  have x2:c*b*f=c*f*b:=by grind
  have x3:e*d*b=e*b*d:=by grind
  omega
 exact Rm e3 (Qo hd)
theorem Hy{a b c d e f:Int}(hb:0<b)(hd:0<d)(hf:0<f)(h1:a*d<c*b)(h2:c*f<=e*d):a*f<e*b:=by
 have e1:a*d*f<c*b*f:=RE h1 hf;have e2:c*f*b<=e*d*b:=Rn h2 (Qo hb)
 have e3:a*f*d<e*b*d:=by
  have x1:a*d*f=a*f*d:=by grind
  have x2:c*b*f=c*f*b:=by grind
  have x3:e*d*b=e*b*d:=by grind
  omega
 exact Rm e3 (Qo hd)
theorem BY(x y:Int):sg (x-y) = -sg (y-x):=by rw[<- B2];congr 1;omega
theorem FC(F:Fun K "against" "against" nR f fd)(T:Txt K mg)(R:RCI K mg C)(RN:NCI K mg CN)(lx:MCal P w K mg base 2 C "against" ["self","other"] (lR C) y4 yR)(NG:Cal P w K mg base 3 "beside" ["one","sign"] (v0 C CN) PB OH)(fU:Cal P w K mg base 2 "sign_at" ["row","ratio"] (iq C) pH pF):FnOk P w K mg base CX0 4 f fd ["one","ratio"] (v2 C CN):=by
 obtain⟨ia,gC,hG⟩:=lx;obtain⟨ML,Ht,II,LH⟩:=NG;obtain⟨fS,fF,fJ,fQ⟩:=fU;refine F.ok CG (λvs H Q E h=>?_) (λcdv A outer s H vs Q E hr h=>?_)
 ·obtain⟨x,r,t,b,l1,l2,h1,h2,u,d,rfl,_⟩:=h;rfl
 ·obtain⟨x,r,t,b,l1,l2,h1,h2,u,d,rfl,hN,hL,hR,hd,bu,bd,k⟩:=h;obtain⟨q,l,h,⟨dx,hx⟩,hq,hl,hh,en⟩:=id hN;obtain⟨dr,hr'⟩:=id hR;have hb:=hL.1
  refine⟨_,(af (aB (ax Ed (bS (pv 1) R.cl gC ia (hr.mono) hG .nil ad (aa (aq (K:=K) rfl (pv 0) rfl) ac)) ae (aw _))
   (ah (am ae))
   aC)
   (af (aB (ax fB (bS (pv 1) R.cl gC ia (hr.mono) hG .nil ad (aa (aq (K:=K) rfl (pv 0) rfl) ac)) ae (aw _))
     (ah (am (aU aT ae)))
     aC)
   (ah (am (ag ML (hr.mono) rfl Ht II LH .nil ad (aa (pv 0) (aa (ag fS (hr.mono) rfl fF fJ fQ .nil ad (aa (aq (K:=K) rfl (pv 0) rfl) (aa (pv 1) ac))) ac))))))),?_⟩
  refine aS ⟨_,rfl,r,dr,_,rfl,hr',cK _ _ eG.1 eG.2,_,rfl,x,CN,dx,_,_,rfl,hx,RN.cl,RN.nL,kj _ _ _,r,l,u,d,l1,l2,rfl,hR,hl,bu.mono,bd.mono,en.bl1.mono,en.bl2.mono,_,_,rfl,rfl,_,rfl,aG (λh0=>?_) (λh0=>?_)⟩
  ·have h0':sg (u*l2-l1*d)<=0:=h0
   have h3:u*l2<=l1*d:=by
    rcases Int.lt_or_le (l1*d) (u*l2)with z |z
    ·rw[fm (show 0<u*l2-l1*d by omega)]at h0';exact absurd h0' (by decide)
    ·exact z
   have h4:=xQ (a:=u) (b:=d) (c:=l1) (d:=l2) (e:=t) (f:=b) hd en.l2p hb h3 en.lo;have e:sg (t*d-u*b)=1:=fm (by omega);rw[e]at k;exact aA (k H (Same.refl _))
  refine aS ⟨_,rfl,r,dr,_,rfl,hr',cK _ _ eG.1 eG.2,_,rfl,x,CN,dx,_,_,rfl,hx,RN.cl,RN.nH,iR _ _ _,r,h,u,d,h1,h2,rfl,hR,hh,bu.mono,bd.mono,en.bh1.mono,en.bh2.mono,_,_,rfl,rfl,_,rfl,aG (λh0=>?_) (λh0'=>?_)⟩
  ·have h0':sg (u*h2-h1*d)>0:=h0
   have h3:h1*d<u*h2:=by
    rcases Int.lt_or_le (h1*d) (u*h2)with z |z
    ·exact z
    ·have:=fu (u*h2-h1*d);omega
   have h4:=xQ (a:=t) (b:=b) (c:=h1) (d:=h2) (e:=u) (f:=d) hb en.h2p hd en.hi h3;have e:sg (t*d-u*b) = -1:=jh (by omega);rw[e]at k;exact aA ⟨_,rfl,k H (Same.refl _)⟩
  refine aA ⟨_,rfl,_,rfl,x,CN,dx,_,_,rfl,hx,RN.cl,RN.nP,cL _ _ _,_,rfl,q,r,[-t,b],u,d,⟨rfl,hq,hR,by show 2<=20;decide,hL.bits.mono,bu,bd⟩,λH1 s1=>?_⟩;refine⟨x,_,t,b,l1,l2,h1,h2,rfl,hN.same s1,hL,?_,λH2 s2=>?_⟩
  ·rw[jj hd];rcases fu (u*b-t*d)with⟨_,z⟩ |⟨_,z⟩ |⟨z',z⟩
   ·exact .inl z
   ·exact .inr (.inl z)
   ·refine .inr (.inr ⟨z,?_⟩)
    have h3:u*h2<=h1*d:=by have h5:¬sg (u*h2-h1*d)>0:=h0';have:=fu (u*h2-h1*d);omega
    exact Hy (a:=t) (b:=b) (c:=u) (d:=d) (e:=h1) (f:=h2) hb hd en.h2p (by omega) h3
  ·rw[jj hd,<- BY];exact k H2 (s1.trans s2)
inductive vy(C CN:Addr)(vs:List V)(H:Hp)(Q:VK)(E:XK):Prop
 |mk (x:Addr) (t b l1 l2 h1 h2:Int):vs=[.ref x]->NL 340 C CN H x t b l1 l2 h1 h2->LinS t b->(∀H',Same H H'->Q (.int (sg t)) H')->vy C CN vs H Q E
theorem EC(F:Fun K "sign_of" "sign_of" mC f fd)(T:Txt K mg)(R:RCI K mg C)(NI:Cal P w K mg base 4 "against" ["one","ratio"] (v2 C CN) PD OJ)(bE:KCal P w K mg base 2 C "Ratio" ["self","top","bottom"] (cy C) dg df di [.int 1]):FnOk P w K mg base CX0 5 f fd ["one"] (vy C CN):=by
 obtain⟨MM,Hu,IJ,LJ⟩:=NI;obtain⟨aR,aQ,aP,bX,bQ,bM⟩:=bE;refine F.ok Cf (λvs H Q E h=>?_) (λcdv A outer s H vs Q E hr h=>?_)
 ·obtain⟨x,t,b,l1,l2,h1,h2,rfl,_⟩:=h;rfl
 ·obtain⟨x,t,b,l1,l2,h1,h2,rfl,hN,hL,k⟩:=h;refine⟨_,(ah (am (ag MM (hr.mono) rfl Hu IJ LJ .nil ad (aa (pv 0) (aa (bz aQ aR (hr.mono) rfl aP bQ bM ad (aa ae ac)) ac))))),?_⟩;refine aA ⟨_,rfl,cI (t:=0) (b:=1) (by decide) (b1k (by decide)) λr H1 s1 hr1 hR1=>?_⟩;rw[fz,fA]at hR1;refine⟨x,r,t,b,l1,l2,h1,h2,0,1,rfl,hN.same s1,hL,hR1,by decide,?_,b1k (by decide),λH2 s2=>?_⟩
  ·show(0:Int).natAbs<2^3000;exact Nat.pow_pos (by decide)
  ·have e:t*1-0*b=t:=by omega
   rw[e];exact k H2 (s1.trans s2)
theorem LinS.dv1{t b:Int}(h:LinS t b):dv t b=1:=by unfold dv;rw[if_neg (by have:=h.1;omega),h.2.1];rfl
theorem LinS.rt{t b:Int}(h:LinS t b):rt t b=t:=by have e:=iy (t:=t) (b:=b) (by have:=h.1;omega);rw[h.dv1,Qn]at e;exact e
theorem LinS.rb{t b:Int}(h:LinS t b):rb t b=b:=by have e:=gx (t:=t) (b:=b) (by have:=h.1;omega);rw[h.dv1,Qn]at e;exact e
def o7(C CN:Addr)(H:Hp)(Q:VK)(t b:Int):Prop:=∀(y:Addr) (H':Hp) (l1 l2 h1 h2:Int),Same H H'->H y=none->NL 60 C CN H' y t b l1 l2 h1 h2->Q (.ref y) H'
inductive qx(C CN:Addr)(vs:List V)(H:Hp)(Q:VK)(E:XK):Prop
 |mk (a:Addr) (t b:Int):vs=[.ref a]->H a=some (.lst ([-t,b].map V.int))->LinS t b->o7 C CN H Q t b->qx C CN vs H Q E
theorem EY(F:Fun K "only_root" "only_root" mX f fd)(T:Txt K mg)(R:RCI K mg C)(RN:NCI K mg CN)(bE:KCal P w K mg base 2 C "Ratio" ["self","top","bottom"] (cy C) dg df di [.int 1])(fV:MCal P w K mg base 4 C "minus" ["self","other"] (iu C) pJ pG)(ez:KCal P w K mg base 1 CN "Number" ["self","row","low","high"] (fk CN) km kl ko []):FnOk P w K mg base CX0 5 f fd ["row"] (qx C CN):=by
 obtain⟨aR,aQ,aP,bX,bQ,bM⟩:=bE;obtain⟨fc,eK,eY⟩:=fV;obtain⟨eu,d9,dS,d8,kN,kr⟩:=ez;refine F.ok sc_only_root (λvs H Q E h=>?_) (λcdv A outer s H vs Q E hr h=>?_)
 ·obtain⟨a,t,b,rfl,_⟩:=h;rfl
 ·obtain⟨a,t,b,rfl,hA,hL,k⟩:=h
  refine⟨_,(af (aj (i:=1) sc_only_root.nd rfl (Or.inl rfl) (bz aQ aR (hr.mono) rfl aP bX .nil ad (aa (aU aT (ar (aO (K:=K) rfl) (pv 0) ae (λ_ _=>rfl))) (aa (ar (aO (K:=K) rfl) (pv 0) ae (λ_ _=>rfl)) ac))))
   (ah (am (bz d9 eu (hr.mono) rfl dS d8 .nil ad (aa (pv 0) (aa (bS (pv 1) R.cl eK fc (hr.mono) eY .nil ad (aa (bz aQ aR (hr.mono) rfl aP bQ bM ad (aa ae ac)) ac)) (aa (pv 1) ac))))))),?_⟩
  have hb:=hL.1;refine ao ⟨_,rfl,a,_,_,_,rfl,rfl,SqL.of hA,rfl,_,rfl,_,rfl,a,_,_,_,rfl,rfl,SqL.of hA,rfl,cI (t := - -t) (b:=b) (by omega) (hL.2.2.2.mono) λr H1 s1 hr1 hR1=>?_⟩;rw[Q1,hL.rt,hL.rb]at hR1;obtain⟨dr,hr'⟩:=id hR1;have hA1:=s1 _ _ hA;refine aA ⟨_,rfl,_,rfl,r,dr,_,rfl,hr',cK _ _ oV.1 oV.2,cI (t:=1) (b:=1) (by decide) (b1k (by decide)) λr1 H2 s2 hr2 hR2=>?_⟩;rw[fz,fA]at hR2;refine⟨r,r1,t,b,1,1,rfl,hR1.same s2,hR2,hL.2.2.1.mono,hL.2.2.2.mono,b1k (by decide),b1k (by decide),hb,by decide,λr3 H3 s3 hr3 hR3=>?_⟩;have d0:b*1≠0:=by omega
  have er:=ce (t:=t*1-1*b) d0;have r2p:0<rb (t*1-1*b) (b*1):=bJ d0;have br1:Bits 60 (rt (t*1-1*b) (b*1)):=cM d0 (by rw[Qw,Qn];exact(Bits.sub hL.2.2.1 hL.2.2.2).mono);have br2:Bits 60 (rb (t*1-1*b) (b*1)):=cP d0 (by rw[Qw];exact hL.2.2.2.mono);generalize rt (t*1-1*b) (b*1)=x1 at *
  generalize rb (t*1-1*b) (b*1)=x2 at *
  have hR3':=hR1.same (s2.trans s3);refine⟨_,rfl,rH ((s2.trans s3) _ _ hA1) λy q H4 s4 hy hN hq=>?_⟩;have t4:=(s1.trans (s2.trans s3));refine k y H4 x1 x2 t b (t4.trans s4) (t4.free hy) ⟨q,r3,r,hN,hq,hR3.same s4,hR3'.same s4,r2p,hb,br1,br2,hL.2.2.1.mono,hL.2.2.2.mono,?_,Int.le_refl _⟩
  have e1:x1*b=(t-b)*x2:=by have:x1*(b*1)=(t*1-1*b)*x2:=er;rw[Qw,Qw,Qn]at this;exact this
  have e2:(t-b)*x2=t*x2-b*x2:=by grind
  have:=P5 hb r2p;omega
theorem LinS.neg{t b:Int}(h:LinS t b):LinS (-t) b:=⟨h.1,by rw[QA];exact h.2.1,h.2.2.1.neg,h.2.2.2⟩
theorem AV(t b:Int):turnL [-t,b]=[-t,-b]:=rfl
theorem DT{t b:Int}(h:LinS t b):aL [-t,-b]=[- -t,b]:=by
 have hb:=h.1
 have e:au [-t,-b]=[-t,-b]:=lT (.inr (by
  show Nat.gcd (Nat.gcd 0 (-t).natAbs) (-b).natAbs=1
  rw[Rj,QA,QA];exact h.2.1))
 show cp (au [-t,-b])=_;rw[e];unfold cp;have e2:bT [-t,-b] = -b:=rfl;rw[e2,if_pos (by omega)];show[- -t,- -b]=_;rw[Q1 b]
inductive qw(C CN:Addr)(vs:List V)(H:Hp)(Q:VK)(E:XK):Prop
 |mk (x:Addr) (t b l1 l2 h1 h2:Int):vs=[.ref x]->NL 340 C CN H x t b l1 l2 h1 h2->LinS t b->o7 C CN H Q (-t) b->qw C CN vs H Q E
theorem EW(F:Fun K "opposite" "opposite" mV f fd)(T:Txt K mg)(R:RCI K mg C)(RN:NCI K mg CN)(cU:Cal P w K mg base 34 "plain" ["row"] fj gQ gP)(M0:Cal P w K mg base 1 "turned" ["row"] (sp1 turnL) OW N2)(bY:Cal P w K mg base 1 "degree" ["row"] c7 dZ dW)(uD:Cal P w K mg base 5 "only_root" ["row"] (qx C CN) J3 JL)(ez:KCal P w K mg base 1 CN "Number" ["self","row","low","high"] (fk CN) km kl ko [])(bE:KCal P w K mg base 2 C "Ratio" ["self","top","bottom"] (cy C) dg df di [.int 1])(fV:MCal P w K mg base 4 C "minus" ["self","other"] (iu C) pJ pG):FnOk P w K mg base CX0 35 f fd ["one"] (qw C CN):=by
 obtain⟨cE,cA,cB,cD⟩:=cU;obtain⟨Mb,GO,HU,K3⟩:=M0;obtain⟨aY,aV,aW,aX⟩:=bY;obtain⟨uh,rR,sx,tQ⟩:=uD;obtain⟨eu,d9,dS,d8,kN,kr⟩:=ez;obtain⟨aR,aQ,aP,bX,bQ,bM⟩:=bE;obtain⟨fc,eK,eY⟩:=fV;refine F.ok sc_opposite (λvs H Q E h=>?_) (λcdv A outer s H vs Q E hr h=>?_)
 ·obtain⟨x,t,b,l1,l2,h1,h2,rfl,_⟩:=h;rfl
 ·obtain⟨x,t,b,l1,l2,h1,h2,rfl,hN,hL,k⟩:=h;obtain⟨q,l,h,⟨dx,hx⟩,hq,hl,hh,en⟩:=id hN;have hb:=hL.1
  refine⟨_,(af (aj (i:=1) sc_opposite.nd rfl (Or.inl rfl) (ag cE (hr.mono) rfl cA cB cD .nil ad (aa (ag Mb (hr.mono) rfl GO HU K3 .nil ad (aa (aq (K:=K) rfl (pv 0) rfl) ac)) ac)))
   (af (aB (ax cj (ag aY (hr.mono) rfl aV aW aX .nil ad (aa (pv 1) ac)) ae (aw _))
     (ah (am (ag uh (hr.mono) rfl rR sx tQ .nil ad (aa (pv 1) ac))))
     aC)
   (ah (am (bz d9 eu (hr.mono) rfl dS d8 .nil ad (aa (pv 1) (aa (bS (bz aQ aR (hr.mono) rfl aP bQ bM ad (aa ae ac)) R.cl eK fc (hr.mono) eY .nil ad (aa (aq (K:=K) rfl (pv 0) rfl) ac)) (aa (bS (bz aQ aR (hr.mono) rfl aP bQ bM ad (aa ae ac)) R.cl eK fc (hr.mono) eY .nil ad (aa (aq (K:=K) rfl (pv 0) rfl) ac)) ac)))))))),?_⟩
  refine ao ⟨_,rfl,x,CN,dx,_,_,rfl,hx,RN.cl,RN.nP,cL _ _ _,q,[-t,b],rfl,hq,by show 2<=100000;decide,hL.bits.mono,λp H1 s1 hp e1=>?_⟩;rw[AV]at e1;refine⟨p,[-t,-b],rfl,e1,(tr_snoc (r:=[-t])).mpr (by omega),by show 2<=1000000;decide,λp2 H2 s2 hp2 e2=>?_⟩;rw[DT hL]at e2;refine aS ⟨_,rfl,p2,_,rfl,e2,_,_,rfl,rfl,_,rfl,aG (λ_=>?_) (λh0=>absurd (show(2:Int)-1=1 by decide) h0)⟩;have t2:=s1.trans s2;refine aA ⟨_,rfl,p2,-t,b,rfl,e2,hL.neg,λy H3 a1 a2 c1 c2 s3 hy hN'=>?_⟩;exact k y H3 a1 a2 c1 c2 (t2.trans s3) (t2.free hy) hN'
inductive vV(vs:List V)(H:Hp)(Q:VK)(E:XK):Prop
 |mk (l:Addr) (ps:List Addr) (xss:List (List Int)):vs=[.ref l]->H l=some (.lst (ps.map V.ref))->RwH H ps xss->(∀xs∈xss,xs≠[])->xss.length<=1000000->Q (.int (fnn xss:Nat)) H->vV vs H Q E
theorem yw{xss:List (List Int)}{i:Nat}(h:i<xss.length):xss.getD i []∈xss:=by
 have:xss.getD i []=xss[i]:=by simp[List.getD,h]
 rw[this];exact Q9 h
theorem Fl(F:Fun K "first_not_nought" "first_not_nought" nz f fd)(T:Txt K mg):FnOk P w K mg base CX0 1 f fd ["rows"] vV:=by
 refine F.ok sc_first_not_nought (λvs H Q E h=>?_) (λcdv A outer s H vs Q E hr h=>?_)
 ·obtain⟨l,ps,xss,rfl,_⟩:=h;rfl
 ·obtain⟨l,ps,xss,rfl,hL,hR,hne,hn,k⟩:=h
  refine⟨_,(af (aj (i:=1) sc_first_not_nought.nd rfl (Or.inl rfl) ae)
   (af (c9 PassesOwn.never (PW.pt (jw (ax dF (pv 1) (aI (cn (K:=K) rfl) (by rfl) T.len_ PySem.boot_len (aa (pv 0) ac)) (aw _)) (jv (ax cj (ar (aO (K:=K) rfl) (ar (aO (K:=K) rfl) (pv 0) (pv 1) (λ_ _=>rfl)) ae (λ_ _=>rfl)) ae (aw _)))))
     (ah (aj (i:=1) sc_first_not_nought.nd rfl (Or.inl rfl) (ai aZ (pv 1) ae))))
   (ah (am (pv 1))))),?_⟩
  have hpl:(ps.map V.ref).length=xss.length:=by rw[PX,hR.1]
  refine ao ?_;refine⟨λm σ' H'=>∃j:Nat,σ'=[some (.ref l),some (.int j)]/\H=H'/\j<=xss.length/\xss.length-j=m/\∀i,i<j->cf (xss.getD i []) 0=0,⟨_,0,rfl,rfl,P6 _,rfl,λi h=>absurd h (Nat.not_lt_zero _)⟩,?_⟩;rintro m σ' H' ⟨j,rfl,rfl,hj,rfl,hz⟩;have fin:fnn xss=j->Q (.int (j:Nat)) H:=λe=>by rw[e]at k;exact k
  refine⟨_,rfl,_,rfl,l,_,rfl,.inl (SqL.of hL),_,_,rfl,rfl,_,rfl,aG (λh=>?_) (λh=>?_)⟩
  ·rw[hpl]at h;have hj':j<xss.length:=by omega
   obtain⟨p,ep,hp⟩:=hR.get hj';have hne':=hne _ (yw hj');have hl0:=Qe.mpr hne';refine⟨_,rfl,_,rfl,l,_,_,.ref p,rfl,rfl,SqL.of hL,iV (by rw[List.getElem?_map,ep];rfl),p,_,_,_,rfl,rfl,SqL.of hp,dm (j:=0) rfl hl0,_,_,rfl,rfl,_,rfl,aG (λh0=>?_) (λh0=>?_)⟩
   ·refine⟨λσ'' H''=>∃m',m'<xss.length-j/\∃j:Nat,σ''=[some (.ref l),some (.int j)]/\H=H''/\j<=xss.length/\xss.length-j=m'/\∀i,i<j->cf (xss.getD i []) 0=0,λ_ _ h=>h,?_⟩;refine⟨_,rfl,_,_,rfl,rfl,xss.length-(j+1),by omega,j+1,rfl,rfl,hj',rfl,λi hi=>?_⟩;by_cases e:i=j
    ·subst e;exact h0
    ·exact hz i (by omega)
   ·exact⟨_,rfl,fin (yD (QW hj') hz (.inr h0))⟩
  ·rw[hpl]at h;exact⟨_,rfl,fin (yD hj hz (.inl (by omega)))⟩
inductive vY(vs:List V)(H:Hp)(Q:VK)(E:XK):Prop
 |mk (a h:Addr) (xs hs:List Int) (bf:Int):vs=[.ref a,.ref h,.int bf]->H a=some (.lst (xs.map V.int))->H h=some (.lst (hs.map V.int))->xs≠[]->xs.length<=hs.length->xs.length<=1000000->AllB 400000 xs->AllB 400000 hs->bf≠0->mkL H Q (clr hs bf xs)->vY vs H Q E
theorem Fv(F:Fun K "cleared" "cleared" jm f fd)(T:Txt K mg)(hNS:base.NoSeer)(hTr:P.given.tree=none):FnOk P w K mg base CX0 33 f fd ["row","head","before"] vY:=by
 refine F.ok Cz (λvs H Q E h=>?_) (λcdv A outer s H vs Q E hr h=>?_)
 ·obtain⟨a,h',xs,hs,bf,rfl,_⟩:=h;rfl
 ·obtain⟨a,h',xs,hs,bf,rfl,hA,hH,hne,hle,hn,bx,bh,b0,k⟩:=h;have big:=sizeLine_eq;have hxl:=Qe.mpr hne;have hdp:(A.deeper (PyProof.Rows.envOfC (Str.ofString "cleared") (al jm) s.heap.objs.size f cdv)).depth+100<recursionLimit:=by have:=hr.dp;omega
  refine⟨_,(ah (am (cQ (own:=["k"]) (fr:=["before","head","row"]) (js:=[2,1,0]) (by walk_at "comp_ok") rfl (wR rfl T.range_ (aa ae (aa (aI (cn (K:=K) rfl) (by rfl) T.len_ PySem.boot_len (aa (pv 0) ac)) ac))) (λ_ _ _ _=>(aJ (i:=0) (show List.Nodup (["k","before","head","row"]:List Str)from by decide +kernel) rfl (Or.inl rfl))) (λ_ _ _ _=>(ai (Ee hNS hTr hdp rfl rfl rfl rfl rfl) (ai bA (ai av (ar (aO (K:=K) rfl) (pv 2) ae (λ_ _=>rfl)) (ar (aO (K:=K) rfl) (pv 3) (pv 0) (λ_ _=>rfl))) (ai av (ar (aO (K:=K) rfl) (pv 3) ae (λ_ _=>rfl)) (ar (aO (K:=K) rfl) (pv 2) (pv 0) (λ_ _=>rfl)))) (pv 1)))))),?_⟩;have hl:(xs.map V.int).length=xs.length:=PX _;refine aA ⟨_,rfl,a,_,rfl,.inl (SqL.of hA),_,_,rfl,by rw[hl];omega,?_⟩;have en:(((xs.map V.int).length:Int)-1).toNat=xs.length-1:=by rw[hl];omega
  rw[en];refine fM (lo:=1) (n:=xs.length-1) (λi ys σ' H'=>∃z:Option V,σ'=[z,some (.int bf),some (.ref h'),some (.ref a)]/\ys=((List.range i).map λk=>V.int ((cf hs 0*cf xs (k+1)-cf xs 0*cf hs (k+1)).fdiv bf))/\H=H') (by omega) ⟨none,rfl,rfl,rfl⟩ ?_ ?_ ?_
  ·rintro i ys σ' H' _ ⟨z,rfl,rfl,rfl⟩;simp
  ·rintro i ys σ' H' hi ⟨z,rfl,rfl,rfl⟩;have e0:(1:Int)+(i:Int)=((i+1:Nat):Int):=by omega
   have m9:(400000:Nat)<=1000000:=by decide
   refine⟨_,rfl,h',_,_,_,rfl,rfl,SqL.of hH,dm (j:=0) rfl (by omega),_,rfl,_,rfl,a,_,_,_,rfl,rfl,SqL.of hA,dm e0 (by omega),_,_,rfl,rfl,⟨(bh.cf 0).mono m9,(bx.cf (i+1)).mono m9⟩,_,rfl,a,_,_,_,rfl,rfl,SqL.of hA,dm (j:=0) rfl hxl,_,rfl,_,rfl,h',_,_,_,rfl,rfl,SqL.of hH,dm e0 (by omega),_,_,rfl,rfl,⟨(bx.cf 0).mono m9,(bh.cf (i+1)).mono m9⟩,_,_,rfl,rfl,_,rfl,_,_,rfl,rfl,b0,_,rfl,?_,rfl⟩;rw[Q2,Qd];rfl
  ·rintro ys σ' H' p ⟨z,rfl,rfl,rfl⟩ hp;refine k p _ (Same.upd_new hp) hp ?_;rw[ak];unfold clr;rw[Qp];rfl
inductive lQ(vs:List V)(H:Hp)(Q:VK)(E:XK):Prop
 |mk (l:Addr) (ps:List Addr) (xss:List (List Int)) (b:Nat):vs=[.ref l]->H l=some (.lst (ps.map V.ref))->RwH H ps xss->(∀xs∈xss,xs.length=xss.length)->(∀xs∈xss,AllB b xs)->xss.length<=16->b<=2000->(∀H',Same H H'->Q (.int (D xss.length (xss.map cf))) H')->lQ vs H Q E
theorem Fp(F:Fun K "determinant" "determinant" nE f fd)(T:Txt K mg)(Ny:Cal P w K mg base 1 "first_not_nought" ["rows"] vV Ps OA)(ND:Cal P w K mg base 33 "cleared" ["row","head","before"] vY Px OE):FnOk P w K mg base CX0 34 f fd ["rows"] lQ:=by
 obtain⟨MF,Hm,IC,Lx⟩:=Ny;obtain⟨MJ,Hr,IG,LD⟩:=ND;refine F.ok sc_determinant (λvs H Q E h=>?_) (λcdv A outer s H vs Q E hr h=>?_)
 ·obtain⟨l,ps,xss,b,rfl,_⟩:=h;rfl
 ·obtain⟨l0,ps0,xss,b,rfl,hL,hR,hsq,hbt,hsz,hb5,k⟩:=h;have big:=sizeLine_eq;have hbt':∀x∈xss,∀j,(cf x j).natAbs<=2^b:=λx hx j=>QW ((hbt x hx).cf j)
  have hstart:DInv xss 1 (b+4) 0 xss.length:=DInv.start hsz hbt';rw[<- Kn hsz hsq hbt']at k;clear hbt'
  refine⟨_,(af (wM (i:=1) sc_determinant.nd rfl (Or.inl rfl) (own:=["row"]) (fr:=[]) (js:=[]) (by walk_at "comp_ok") rfl (dE (K:=K) rfl (pv 0)) (λ_ _ _ _=>(aJ (i:=0) (show List.Nodup (["row"]:List Str)from by decide +kernel) rfl (Or.inl rfl))) (λ_ _ _ _=>(jA (ky (K:=K) rfl) (by rfl) T.list_ PyProof.Rows.boot_list (aa (pv 0) ac))) (by rfl))
   (af (aj (i:=2) sc_determinant.nd rfl (Or.inr rfl) ae)
   (af (aj (i:=3) sc_determinant.nd rfl (Or.inl rfl) ae)
   (af (c9 PassesOwn.never (ax fB (aI (cn (K:=K) rfl) (by rfl) T.len_ PySem.boot_len (aa (pv 1) ac)) ae (aw _))
     (af (aj (i:=4) sc_determinant.nd rfl (Or.inl rfl) (ag MF (hr.mono) rfl Hm IC Lx .nil ad (aa (pv 1) ac)))
       (af (aB (ax cj (pv 4) (aI (cn (K:=K) rfl) (by rfl) T.len_ PySem.boot_len (aa (pv 1) ac)) (aw _))
         (ah (am ae))
         aC)
       (af (aB (ax cj (ai eE (pv 4) ae) ae (aw _))
         (ah (aj (i:=3) sc_determinant.nd rfl (Or.inl rfl) (aU aT (pv 3))))
         aC)
       (af (aj (i:=5) sc_determinant.nd rfl (Or.inr rfl) (ar (aO (K:=K) rfl) (pv 1) (pv 4) (λ_ _=>rfl)))
       (af (wM (i:=1) sc_determinant.nd rfl (Or.inl rfl) (own:=["row"]) (fr:=["head","before"]) (js:=[5,2]) (by walk_at "comp_ok") rfl (dE (K:=K) rfl (ai iK (iG (ix (K:=K) rfl) (pv 1) iF (iE (pv 4))) (iG (ix (K:=K) rfl) (pv 1) (iE (ai aZ (pv 4) ae)) iF))) (λ_ _ _ _=>(aJ (i:=0) (show List.Nodup (["row","head","before"]:List Str)from by decide +kernel) rfl (Or.inl rfl))) (λ_ _ _ _=>(ag MJ (hr.mono) rfl Hr IG LD .nil ad (aa (pv 0) (aa (pv 1) (aa (pv 2) ac))))) (by rfl))
       (ah (aj (i:=2) sc_determinant.nd rfl (Or.inr rfl) (ar (aO (K:=K) rfl) (pv 5) ae (λ_ _=>rfl))))))))))
   (ah (am (ai av (pv 3) (pv 2)))))))),?_⟩
  have hpl:(ps0.map V.ref).length=xss.length:=by rw[PX,hR.1]
  refine⟨_,rfl,l0,rfl,⟨_,SqL.of hL⟩,gU (K:=K) (a:=l0) (xs:=ps0.map V.ref) (λi ys σ' H'=>∃(z0:Option V) (qs:List Addr),σ'=[z0]/\ys=qs.map V.ref/\qs.length=i/\Same H H'/\RwH H' qs (xss.take i)) (by rw[hpl];omega) ⟨none,[],rfl,rfl,rfl,λ_ _ e=>e,RwH.nil⟩ ?_ ?_ ?_⟩
  ·rintro i ys σ' H' _ ⟨z0,qs,rfl,rfl,rfl,sm,_⟩;exact⟨SqL.of (sm _ _ hL),by rw[PX];exact PZ _⟩
  ·rintro i x ys σ' H' hi ⟨z0,qs,rfl,rfl,rfl,sm,hq⟩;obtain⟨p,xs,rfl,ep,ex,hp,hlt⟩:=hR.of_get hi;refine⟨_,rfl,p,_,rfl,.inl (SqL.of (sm _ _ hp)),λq hq'=>?_⟩;refine⟨_,qs++[q],rfl,ph qs q,by rw[PY];rfl,sm.then_new hq',?_⟩;have et:xss.take (qs.length+1)=xss.take qs.length++[xs]:=by rw[QE,ex];rfl
   rw[et];exact(hq.same (Same.upd_new hq')).snoc ak
  rintro ys σ' H1 l1 ⟨z0,ps,rfl,rfl,hql,sm1,hR1⟩ hl1;rw[hpl,QZ]at hR1;rw[hpl]at hql;have s2:=sm1.then_new (o:=.lst (ps.map V.ref)) hl1;have hL2:upd H1 l1 (.lst (ps.map V.ref)) l1=some (.lst (ps.map V.ref)):=ak;have hR2:=hR1.same (Same.upd_new (o:=.lst (ps.map V.ref)) hl1);generalize upd H1 l1 (.lst (ps.map V.ref))=H2 at s2 hL2 hR2 ⊢
  show ci (cZ (tC (V.int 1)) (cS 2)) _ _ _ _;refine ao (wC ?_);show ci (cZ (tC (V.int 1)) (cS 3)) _ _ _ _;refine ao (wC ?_);show ci (uY _ _) _ _ _ _
  refine⟨λm σ' H'=>∃(l:Addr) (ps:List Addr) (left:List (List Int)) (bf sgn:Int) (z4 z5:Option V),σ'=[some (.ref l0),some (.ref l),some (.int bf),some (.int sgn),z4,z5]/\Same H H'/\H' l=some (.lst (ps.map V.ref))/\RwH H' ps left/\left.length=m/\(∀xs∈left,xs.length=m)/\DInv left bf (b+4) (xss.length-m) xss.length/\m<=xss.length/\bf≠0/\Bits 33000 bf/\Bits 1 sgn/\dH m left bf sgn=dH xss.length xss 1 1,
   ⟨_,l1,ps,xss,1,1,none,none,rfl,s2,hL2,hR2,rfl,hsq,by rw[QQ];exact hstart,PZ _,by decide,Bits.mono (j:=1) (by show(1:Int).natAbs<2^1;decide) (by decide),by show(1:Int).natAbs<2^1;decide,rfl⟩,?_⟩
  rintro m σ' H3 ⟨l,ps,left,bf,sgn,z4,z5,rfl,s3,hL3,hR3,hlen,hsq3,hI,hmn,hbf,bbf,bsg,hdet⟩;have hpl3:(ps.map V.ref).length=m:=by rw[PX,hR3.1,hlen]
  refine⟨_,rfl,l,_,rfl,.inl (SqL.of hL3),_,_,rfl,rfl,_,rfl,aG (λh=>?_) (λh=>?_)⟩
  rotate_left
  ·rw[hpl3]at h;have hm0:m=0:=by omega
   subst hm0;refine⟨_,rfl,_,rfl,_,_,rfl,rfl,⟨bsg.mono,bbf.mono⟩,?_⟩;have e:sgn*bf=dH xss.length xss 1 1:=hdet;dsimp only
   rw[e];exact k _ s3
  rw[hpl3]at h;have hm0:0<m:=by omega
  have hm9:m<=9000:=by omega
  have hc9:33000<=33000:=by decide
  have hb3:∀xs∈left,AllB 33000 xs:=λxs hx y hy=>by obtain⟨i,hi,rfl⟩:=RQ.mp hy;have h1:=hI.bits (by omega) hx i;rw[cw hi]at h1;have h2:(b+4)*(1+(xss.length-m))<=2004*16:=Nat.mul_le_mul (by omega) (by omega);have h3:2^((b+4)*(1+(xss.length-m)))<2^33000:=(Q3 (by decide)).mpr (by omega);exact Ri h1 h3
  have hne3:∀xs∈left,xs≠[]:=λxs hx z=>by have:=hsq3 xs hx;rw[z]at this;simp at this;omega
  refine⟨λσ'' H''=>∃m',m'<m/\∃(l:Addr) (ps:List Addr) (left:List (List Int)) (bf sgn:Int) (z4 z5:Option V),σ''=[some (.ref l0),some (.ref l),some (.int bf),some (.int sgn),z4,z5]/\Same H H''/\H'' l=some (.lst (ps.map V.ref))/\RwH H'' ps left/\left.length=m'/\(∀xs∈left,xs.length=m')/\DInv left bf (b+4) (xss.length-m') xss.length/\m'<=xss.length/\bf≠0/\Bits 33000 bf/\Bits 1 sgn/\dH m' left bf sgn=dH xss.length xss 1 1,λ_ _ h=>h,?_⟩;refine ao ⟨_,rfl,l,ps,left,rfl,hL3,hR3,hne3,by omega,?_⟩;have hfl:=pE left;obtain⟨m1,rfl⟩:∃m1,m=m1+1:=⟨m-1,by omega⟩;refine aS ⟨_,rfl,_,rfl,l,_,rfl,.inl (SqL.of hL3),_,_,rfl,rfl,_,rfl,aG (λh0=>?_) (λh0=>?_)⟩
  ·rw[hpl3]at h0;have e:fnn left=left.length:=by omega
   have e2:dH xss.length xss 1 1=0:=by rw[<- hdet];show(if fnn left=left.length then 0 else _)=_;rw[if_pos e]
   refine aA ?_;have kk:=k H3 s3;rw[e2]at kk;exact kk
  rw[hpl3]at h0;have hfn:fnn left<left.length:=by omega
  have hfne:=pD hfn
  have hd1:dH m1 ((left.take (fnn left)++left.drop (fnn left+1)).map (clr (left.getD (fnn left) []) bf)) (cf (left.getD (fnn left) []) 0) (if fnn left%2=1 then -sgn else sgn)=dH xss.length xss 1 1:=by rw[<- hdet];show _=(if fnn left=left.length then 0 else _);rw[if_neg (show ¬fnn left=left.length by omega)]
  obtain⟨hd,ehd,hhd⟩:=hR3.get hfn;have hmem:=yw hfn;generalize hplc:fnn left=plc at hfn hfne hd1 ehd hhd hmem ⊢
  generalize left.getD plc []=head at hfne hd1 hhd hmem
  have hhl:=hsq3 head hmem;refine iB (λσ' H'=>σ'=[some (.ref l0),some (.ref l),some (.int bf),some (.int (if plc%2=1 then -sgn else sgn)),some (.int (plc:Nat)),z5]/\H3=H') ?_ ?_
  case refine_2 =>
   intro rest;refine⟨_,rfl,_,_,rfl,rfl,(by show(0:Int)<2;decide),_,_,rfl,rfl,_,rfl,aG (λh1=>?_) (λh1=>?_)⟩
   ·have e:plc%2=1:=by have:((plc:Nat):Int)%2=1:=h1;omega
    refine cz ⟨_,rfl,_,rfl,rest _ _ ⟨?_,rfl⟩⟩;rw[if_pos e];rfl
   ·have e:¬plc%2=1:=by have:¬((plc:Nat):Int)%2=1:=h1;omega
    refine rest _ _ ⟨?_,rfl⟩;rw[if_neg e];rfl
  rintro σ' H' ⟨rfl,rfl⟩;have bsg':Bits 1 (if plc%2=1 then -sgn else sgn):=by split;exact bsg.neg;exact bsg
  generalize (if plc%2=1 then -sgn else sgn)=sgn' at hd1 bsg' ⊢
  refine ao ⟨_,rfl,_,rfl,l,_,_,.ref hd,rfl,rfl,SqL.of hL3,iV (by rw[List.getElem?_map,ehd];rfl),?_⟩;refine⟨_,rfl,_,rfl,_,rfl,l,_,rfl,SqL.of hL3,λp1 hp1=>?_⟩;rw[Ks];have t1:=Same.upd_new (o:=.lst ((ps.take plc).map V.ref)) hp1;have ep1:((plc:Nat):Int)+1=((plc+1:Nat):Int):=by omega
  refine⟨_,rfl,_,rfl,_,_,rfl,rfl,((plc+1:Nat):Int),by rw[<- ep1],l,_,rfl,SqL.of (t1 _ _ hL3),λp2 hp2=>?_⟩;rw[Ku];have n12:p1≠p2:=aD ak hp2;have t2:=t1.then_new (o:=.lst ((ps.drop (plc+1)).map V.ref)) hp2;refine⟨p1,p2,_,_,rfl,rfl,by rw[upd_ne n12,ak],ak,?_,λp3 hp3=>?_⟩
  ·rw[PX,PX,Qr,QJ];rw[PX]at hpl3;omega
  rw[<- Qd];have t3:=t2.then_new (o:=.lst ((ps.take plc++ps.drop (plc+1)).map V.ref)) hp3;have hR4:=(hR3.same t3).erase plc;have h33:upd (upd (upd H3 p1 (.lst ((ps.take plc).map V.ref))) p2 (.lst ((ps.drop (plc+1)).map V.ref))) p3 (.lst ((ps.take plc++ps.drop (plc+1)).map V.ref)) p3=some (.lst ((ps.take plc++ps.drop (plc+1)).map V.ref)):=ak;generalize upd (upd (upd H3 p1 (.lst ((ps.take plc).map V.ref))) p2 (.lst ((ps.drop (plc+1)).map V.ref))) p3 (.lst ((ps.take plc++ps.drop (plc+1)).map V.ref))=H4 at t3 hR4 h33 ⊢
  have hel:(left.take plc++left.drop (plc+1)).length=m1:=by rw[PY,Qr,QJ];omega
  have hmem4:∀xs,xs∈left.take plc++left.drop (plc+1)->xs∈left:=λxs hx=>(Qk.mp hx).elim RS Rv
  generalize left.take plc++left.drop (plc+1)=lefts at hd1 hR4 hel hmem4
  generalize ps.take plc++ps.drop (plc+1)=es at hR4 h33 ⊢
  have hel2:(es.map V.ref).length=m1:=by rw[PX,hR4.1,hel]
  have hhd4:=t3 _ _ hhd;refine⟨p3,rfl,⟨_,SqL.of h33⟩,gU (K:=K) (a:=p3) (xs:=es.map V.ref) (λi ys σ' H'=>∃(z0:Option V) (qs:List Addr),σ'=[z0,some (.ref hd),some (.int bf)]/\ys=qs.map V.ref/\qs.length=i/\Same H4 H'/\RwH H' qs ((lefts.take i).map (clr head bf))) (by rw[hel2];omega) ⟨none,[],rfl,rfl,rfl,λ_ _ e=>e,RwH.nil⟩ ?_ ?_ ?_⟩
  ·rintro i ys σ' H' _ ⟨z0,qs,rfl,rfl,rfl,sm,_⟩;exact⟨SqL.of (sm _ _ h33),by rw[PX];exact PZ _⟩
  ·rintro i x ys σ' H' hi ⟨z0,qs,rfl,rfl,rfl,sm,hq⟩;obtain⟨p,xs,rfl,ep,ex,hp,hlt⟩:=hR4.of_get hi;have hxm:=hmem4 xs (List.mem_of_getElem? ex);have hxl:=hsq3 xs hxm;refine⟨_,rfl,_,rfl,_,rfl,p,hd,xs,head,bf,rfl,sm _ _ hp,sm _ _ hhd4,hne3 xs hxm,by omega,by omega,(hb3 xs hxm).mono (by omega),(hb3 head hmem).mono (by omega),hbf,λq H5 sm5 hq5 e5=>?_⟩;refine⟨_,qs++[q],rfl,ph qs q,by rw[PY];rfl,sm.trans sm5,?_⟩;have et:lefts.take (qs.length+1)=lefts.take qs.length++[xs]:=by rw[QE,ex];rfl
   rw[et,Qd];exact(hq.same sm5).snoc e5
  rintro ys σ' H6 l6 ⟨z0,qs,rfl,rfl,hql6,sm6,hR6⟩ hl6;rw[hel2,<- hel,QZ]at hR6;have t6:=(t3.trans sm6).then_new (o:=.lst (qs.map V.ref)) hl6;have hL6:upd H6 l6 (.lst (qs.map V.ref)) l6=some (.lst (qs.map V.ref)):=ak;have hR7:=hR6.same (Same.upd_new (o:=.lst (qs.map V.ref)) hl6);generalize upd H6 l6 (.lst (qs.map V.ref))=H7 at t6 hL6 hR7 ⊢
  have hh0:0<head.length:=by omega
  refine⟨_,rfl,hd,_,_,_,rfl,rfl,SqL.of (t6 _ _ hhd),dm (j:=0) rfl hh0,?_⟩;refine⟨m1,QP _,l6,qs,lefts.map (clr head bf),cf head 0,sgn',_,_,rfl,s3.trans t6,hL6,hR7,by rw[PX,hel],?_,?_,?_,hfne,((hb3 head hmem).cf 0).mono hc9,bsg',hd1⟩
  ·intro ys hy;obtain⟨xs,hx,rfl⟩:=P4.mp hy;rw[xV,hsq3 xs (hmem4 xs hx)];rfl
  ·have e:=hI.step hbf hmem hfne hmem4 (λx hx=>by rw[hsq3 head hmem,hsq3 x (hmem4 x hx)]);have e2:xss.length-(m1+1)+1=xss.length-m1:=by omega
   rw[e2]at e;exact e
  ·omega
inductive vx(vs:List V)(H:Hp)(Q:VK)(E:XK):Prop
 |mk (a:Addr) (ns:List Int) (n:Nat):vs=[.ref a,.int (n:Nat)]->H a=some (.lst (ns.map V.int))->ns.length<=1000->n<=1000->(∀(p:Addr) (H':Hp) (ps:List Addr),Same H H'->H' p=some (.lst (ps.map V.ref))->RwH H' ps (aM ns n)->Q (.ref p) H')->vx vs H Q E
theorem EB(F:Fun K "slid" "slid" mz f fd)(T:Txt K mg):FnOk P w K mg base CX0 1 f fd ["row","many"] vx:=by
 refine F.ok sc_slid (λvs H Q E h=>?_) (λcdv A outer s H vs Q E hr h=>?_)
 ·obtain⟨a,ns,n,rfl,_⟩:=h;rfl
 ·obtain⟨a,ns,n,rfl,hA,hl,hn,k⟩:=h;have big:=sizeLine_eq
  refine⟨_,(af (aj (i:=2) sc_slid.nd rfl (Or.inr rfl) (qY (K:=K) rfl rfl (by rfl) T.list_ (by rfl) T.reversed_ (aa (pv 0) ac)))
   (ah (am (cQ (own:=["k"]) (fr:=["falling","many"]) (js:=[2,1]) (by walk_at "comp_ok") rfl (dO rfl T.range_ (aa (pv 1) ac)) (λ_ _ _ _=>(aJ (i:=0) (show List.Nodup (["k","falling","many"]:List Str)from by decide +kernel) rfl (Or.inl rfl))) (λ_ _ _ _=>(ai iK (ai iK (ai jC (aK (aa ae ac)) (pv 0)) (pv 1)) (ai jC (aK (aa ae ac)) (ai bA (ai bA (pv 2) ae) (pv 0))))))))),?_⟩
  refine ao ⟨_,rfl,a,_,rfl,SqL.of hA,λpf hpf=>?_⟩;rw[<- List.map_reverse];have s1:Same H (upd H pf (.lst (ns.reverse.map V.int))):=Same.upd_new hpf;have q1:upd H pf (.lst (ns.reverse.map V.int)) pf=some (.lst (ns.reverse.map V.int)):=ak;generalize upd H pf (.lst (ns.reverse.map V.int))=H1 at s1 q1 ⊢
  have hrl:ns.reverse.length=ns.length:=QK;refine aA ⟨_,rfl,_,rfl,by omega,by omega,?_⟩;refine fM (lo:=0) (n:=n) (λt zs σ' H'=>∃(z:Option V) (ps:List Addr),σ'=[z,some (.ref pf),some (.int (n:Nat))]/\zs=ps.map V.ref/\ps.length=t/\Same H1 H'/\RwH H' ps ((aM ns n).take t)) (by omega) ⟨none,[],rfl,rfl,rfl,λ_ _ e=>e,RwH.nil⟩ ?_ ?_ ?_
  ·rintro t zs σ' H' _ ⟨z,ps,rfl,rfl,rfl,_⟩;rw[PX];exact PZ _
  ·rintro t zs σ' H' ht ⟨z,ps,rfl,rfl,hpt,sm,hR⟩;have ei:(0:Int)+(t:Int)=((t:Nat):Int):=by omega
   refine⟨by show 1<=sizeLine;decide,λp1 hp1=>⟨_,rfl,p1,_,_,rfl,rfl,ak,by omega,by omega,?_,λp2 hp2=>?_⟩⟩
   ·show 1*(0+(t:Int)).toNat<=sizeLine;omega
   have t1:Same H' (upd H' p1 (.lst [V.int 0])):=Same.upd_new hp1;have er:(List.replicate (0+(t:Int)).toNat [V.int 0]).flatten=(List.replicate t (0:Int)).map V.int:=by rw[ei,Int.toNat_natCast,jp]
   rw[er];have t2:=t1.then_new (o:=.lst ((List.replicate t (0:Int)).map V.int)) hp2;have q2:upd (upd H' p1 (.lst [V.int 0])) p2 (.lst ((List.replicate t (0:Int)).map V.int)) p2=some (.lst ((List.replicate t (0:Int)).map V.int)):=ak;generalize upd (upd H' p1 (.lst [V.int 0])) p2 (.lst ((List.replicate t (0:Int)).map V.int))=H2 at t2 q2 ⊢
   refine⟨_,rfl,p2,pf,_,_,rfl,rfl,q2,(sm.trans t2) _ _ q1,by rw[PX,PX,Qy,hrl];omega,λp3 hp3=>?_⟩;rw[rG];have t3:=t2.then_new (o:=.lst ((List.replicate t (0:Int)++ns.reverse).map V.int)) hp3;have q3:upd H2 p3 (.lst ((List.replicate t (0:Int)++ns.reverse).map V.int)) p3=some (.lst ((List.replicate t (0:Int)++ns.reverse).map V.int)):=ak;generalize upd H2 p3 (.lst ((List.replicate t (0:Int)++ns.reverse).map V.int))=H3 at t3 q3 ⊢
   refine⟨by show 1<=sizeLine;decide,λp4 hp4=>⟨_,rfl,_,_,rfl,rfl,_,rfl,_,_,rfl,rfl,?_⟩⟩;have en:((n:Nat):Int)-1-(0+(t:Int))=((n-1-t:Nat):Int):=by omega
   dsimp only
   rw[en];refine⟨p4,_,_,rfl,rfl,ak,by omega,by omega,?_,λp5 hp5=>?_⟩
   ·show 1*((n-1-t:Nat):Int).toNat<=sizeLine;omega
   have er2:(List.replicate ((n-1-t:Nat):Int).toNat [V.int 0]).flatten=(List.replicate (n-1-t) (0:Int)).map V.int:=by rw[Int.toNat_natCast,jp]
   rw[er2];have t4:Same H3 (upd H3 p4 (.lst [V.int 0])):=Same.upd_new hp4;have t5:=t4.then_new (o:=.lst ((List.replicate (n-1-t) (0:Int)).map V.int)) hp5;refine⟨p3,p5,_,_,rfl,rfl,t5 _ _ q3,ak,by rw[PX,PX,PY,Qy,Qy,hrl];omega,λp6 hp6=>?_⟩;rw[rG];have t6:=(t3.trans t5).then_new (o:=.lst ((List.replicate t (0:Int)++ns.reverse++List.replicate (n-1-t) (0:Int)).map V.int)) hp6;refine⟨_,ps++[p6],rfl,ph ps p6,by rw[PY,hpt];rfl,sm.trans t6,?_⟩
   have et:(aM ns n).take (t+1)=(aM ns n).take t++[List.replicate t (0:Int)++ns.reverse++List.replicate (n-1-t) (0:Int)]:=by rw[QE];unfold aM;rw[List.getElem?_map,List.getElem?_range (by omega)];rfl
   rw[et];exact(hR.same t6).snoc ak
  rintro zs σ' H' p ⟨z,ps,rfl,rfl,hpt,sm,hR⟩ hp;have hsl:(aM ns n).length=n:=by unfold aM;simp
  have e:(aM ns n).take n=aM ns n:=RG (by omega);have hR':RwH H' ps (aM ns n):=by rw[<- e];exact hR
  exact k p _ ps ((s1.trans sm).then_new hp) ak (hR'.same (Same.upd_new hp))
theorem RwH.cat{H:Hp}{ps qs:List Addr}{xss yss:List (List Int)}(h1:RwH H ps xss)(h2:RwH H qs yss):RwH H (ps++qs) (xss++yss):=by
 refine⟨by rw[PY,PY,h1.1,h2.1],λi p xs a b=>?_⟩;by_cases hi:i<ps.length
 ·rw[List.getElem?_append_left hi]at a;rw[List.getElem?_append_left (by rw[<- h1.1];exact hi)]at b;exact h1.2 i p xs a b
 ·rw[List.getElem?_append_right (by omega)]at a;rw[List.getElem?_append_right (by rw[<- h1.1];omega),<- h1.1]at b;exact h2.2 _ p xs a b
inductive lJ(vs:List V)(H:Hp)(Q:VK)(E:XK):Prop
 |mk (a b:Addr) (xs ys:List Int):vs=[.ref a,.ref b]->H a=some (.lst (xs.map V.int))->H b=some (.lst (ys.map V.int))->xs≠[]->ys≠[]->xs.length<=100->ys.length<=100->(∀(p:Addr) (H':Hp) (ps:List Addr),Same H H'->H' p=some (.lst (ps.map V.ref))->RwH H' ps (aM xs (ys.length-1)++aM ys (xs.length-1))->Q (.ref p) H')->lJ vs H Q E
theorem Ep(F:Fun K "table" "table" mh f fd)(T:Txt K mg)(M8:Cal P w K mg base 1 "slid" ["row","many"] vx O4 Oa)(bY:Cal P w K mg base 1 "degree" ["row"] c7 dZ dW):FnOk P w K mg base CX0 2 f fd ["first","second"] lJ:=by
 obtain⟨Ah,xD,x9,zM⟩:=M8;obtain⟨aY,aV,aW,aX⟩:=bY;refine F.ok Ca (λvs H Q E h=>?_) (λcdv A outer s H vs Q E hr h=>?_)
 ·obtain⟨a,b,xs,ys,rfl,_⟩:=h;rfl
 ·obtain⟨a,b,xs,ys,rfl,hA,hB,hx,hy,hxl,hyl,k⟩:=h;have big:=sizeLine_eq;have hxp:=Qe.mpr hx;have hyp:=Qe.mpr hy;refine⟨_,(ah (am (ai iK (ag Ah (hr.mono) rfl xD x9 zM .nil ad (aa (pv 0) (aa (ag aY (hr.mono) rfl aV aW aX .nil ad (aa (pv 1) ac)) ac))) (ag Ah (hr.mono) rfl xD x9 zM .nil ad (aa (pv 1) (aa (ag aY (hr.mono) rfl aV aW aX .nil ad (aa (pv 0) ac)) ac)))))),?_⟩;have e1:(((ys.map V.int).length:Nat):Int)-1=((ys.length-1:Nat):Int):=by rw[PX];omega
  have e2:(((xs.map V.int).length:Nat):Int)-1=((xs.length-1:Nat):Int):=by rw[PX];omega
  refine aA ⟨_,rfl,_,rfl,b,_,rfl,hB,a,xs,ys.length-1,by rw[e1];rfl,hA,by omega,by omega,λp1 H1 ps s1 q1 hR1=>?_⟩;refine⟨_,rfl,_,rfl,a,_,rfl,s1 _ _ hA,b,ys,xs.length-1,by rw[e2];rfl,s1 _ _ hB,by omega,by omega,λp2 H2 qs s2 q2 hR2=>?_⟩;have l1:(aM xs (ys.length-1)).length=ys.length-1:=by unfold aM;simp
  have l2:(aM ys (xs.length-1)).length=xs.length-1:=by unfold aM;simp
  refine⟨p1,p2,_,_,rfl,rfl,s2 _ _ q1,q2,by rw[PX,PX,hR1.1,hR2.1];omega,λp3 hp3=>?_⟩;rw[<- Qd];exact k p3 _ (ps++qs) ((s1.trans s2).then_new hp3) ak (((hR1.same s2).cat hR2).same (Same.upd_new hp3))
theorem two9:Bits 9000 2:=Bits.mono (j:=2) (by show(2:Int).natAbs<2^2;decide) (by decide)
theorem qg:Bits 9000 3:=Bits.mono (j:=2) (by show(3:Int).natAbs<2^2;decide) (by decide)
theorem KJ(a b:List Int)(n:Nat):cf (bj a b) n=cf a n+cf b n:=pQ a b n
theorem wg{i j:Nat}{a b:List Int}{n:Nat}(ha:AllB i a)(hb:AllB j b):∀m,Bits (i+j+m) (sm a b n m)
 |0=>Bits.zero
 |m+1=>by
  rw[sm];refine(wg ha hb m).add ?_;unfold tm;split
  ·exact((ha.cf m).mul (hb.cf _)).mono (by omega)
  ·exact Bits.zero
theorem xu{i j k:Nat}{a b:List Int}(ha:AllB i a)(hb:AllB j b)(hk:i+j+a.length<=k):AllB k (ap a b):=AllB.of_cf λn=>by rw[cv];exact(wg ha hb a.length).mono hk
theorem zZ{k:Nat}{a b:List Int}(ha:AllB k a)(hb:AllB k b):AllB (k+1) (bj a b):=AllB.of_cf λn=>by rw[KJ];exact(ha.cf n).add (hb.cf n)
theorem xt(a b:List Int):(ap a b).length<=a.length+b.length:=by
 unfold ap;split
 ·exact P6 _
 ·rw[PX,QF];omega
theorem zY(a b:List Int):(bj a b).length<=max a.length b.length:=by refine Qu (gf _) ?_;unfold cJ;rw[PX,QF];exact PZ _
inductive vJ(vs:List V)(H:Hp)(Q:VK)(E:XK):Prop
 |mk (a:Addr) (ns:List Int) (x:Nat):vs=[.ref a,.int (x:Nat)]->H a=some (.lst (ns.map V.int))->Tr ns->ns≠[]->ns.length<=9->AllB 1000 ns->x<=100->mkL H Q (opp (x:Nat) ns)->vJ vs H Q E
theorem q8(x:Int):∀l:List Int,(opp x l).length<=l.length
 | []=>PZ _
 |v::l=>by
  have ih:=q8 x l;show(bj (ap (opp x l) [x,-1]) (trim [v])).length<=l.length+1;have h1:=zY (ap (opp x l) [x,-1]) (trim [v]);have h2:=gf [v]
  have h3:(ap (opp x l) [x,-1]).length<=(opp x l).length+1:=by
   unfold ap;split
   ·exact P6 _
   ·rw[PX,QF];show _+2-1<=_;omega
  rw[Rp]at h2;omega
theorem oJ{x:Int}(hx:Bits 8 x):∀{l:List Int},l.length<=9->AllB 1000 l->AllB (1000+20*l.length) (opp x l)
 | [],_,_=>AllB.nil
 |v::l,hl,h=>by
  rw[P7]at hl;have ih:=oJ hx (l:=l) (by omega) λy hy=>h y (Qb _ hy)
  have h1:=q8 x l
  have h2:AllB 8 [x,-1]:=λy hy=>by
   simp only[P8,Qv,or_false]at hy;rcases hy with rfl |rfl
   ·exact hx
   ·show(-1:Int).natAbs<2^8;decide
  have h3:AllB (1000+20*l.length+19) (ap (opp x l) [x,-1]):=xu ih h2 (by omega);have h4:AllB (1000+20*l.length+19) (trim [v]):=AllB.trim λy hy=>by rw[Qc.mp hy];exact(h v (Qh ..)).mono (by omega)
  exact(zZ h3 h4).mono (by rw[P7];omega)
theorem EX(F:Fun K "opposed" "opposed" mW f fd)(T:Txt K mg)(lw:Cal P w K mg base 2 "added" ["first","second"] (iw K bj) y3 yQ)(li:Cal P w K mg base 1 "multiplied" ["first","second"] lM yX yM)(dz:Cal P w K mg base 1 "poly" ["row"] (fX K) iT iS):FnOk P w K mg base CX0 3 f fd ["row","x"] vJ:=by
 obtain⟨k7,jV,j8,kM⟩:=lw;obtain⟨kU,jP,j2,kG⟩:=li;obtain⟨dq,da,de,dk⟩:=dz;refine F.ok sc_opposed (λvs H Q E h=>?_) (λcdv A outer s H vs Q E hr h=>?_)
 ·obtain⟨a,ns,x,rfl,_⟩:=h;rfl
 ·obtain⟨a,ns,x,rfl,hA,ht,hne,hl,hb,hx,k⟩:=h;have bx:Bits 8 ((x:Nat):Int):=by show((x:Nat):Int).natAbs<256;omega
  refine⟨_,(af (aj (i:=2) sc_opposed.nd rfl (Or.inl rfl) (aK ac))
   (af (cg PassesOwn.never rfl (oy rfl T.reversed_ (aa (pv 0) ac)) (aJ (i:=3) sc_opposed.nd rfl (Or.inl rfl))
     (ah (aj (i:=2) sc_opposed.nd rfl (Or.inl rfl) (ag k7 (hr.mono) rfl jV j8 kM .nil ad (aa (ag kU (hr.mono) rfl jP j2 kG .nil ad (aa (pv 2) (aa (aK (aa (pv 1) (aa (aU aT ae) ac))) ac))) (aa (ag dq (hr.mono) rfl da de dk .nil ad (aa (aK (aa (pv 3) ac)) ac)) ac))))))
   (ah (am (pv 2))))),?_⟩
  have hlm:(ns.map V.int).length=ns.length:=PX _;refine ao ⟨P6 _,λp0 hp0=>?_⟩;have s0:Same H (upd H p0 (.lst [])):=Same.upd_new hp0;have q0:upd H p0 (.lst []) p0=some (.lst (([]:List Int).map V.int)):=ak;generalize upd H p0 (.lst [])=H0 at s0 q0 ⊢
  refine⟨_,rfl,a,_,rfl,SqL.of (s0 _ _ hA),pA (K:=K) (a:=a) (xs:=ns.map V.int) (λi σ' H'=>∃(p:Addr) (z:Option V),σ'=[some (.ref a),some (.int (x:Nat)),some (.ref p),z]/\Same H H'/\H p=none/\H' p=some (.lst ((opp (x:Nat) (ns.drop (ns.length-i))).map V.int))) ⟨p0,none,rfl,s0,hp0,?_⟩ ?_ ?_ ?_⟩
  ·rw[QU,List.drop_length];exact q0
  ·rintro i σ' H' _ ⟨p,z,rfl,sm,_⟩;exact SqL.of (sm _ _ hA)
  ·rintro i v σ' H' hi hv ⟨p,z,rfl,sm,hp,ep⟩;rw[hlm]at hi hv;obtain⟨c,ec,rfl,hc,_⟩:=gj hv;have hi':i<ns.length:=hi;have e1:ns.length-(i+1)=ns.length-1-i:=by omega
   have ed:ns.drop (ns.length-(i+1))=c::ns.drop (ns.length-i):=by
    rw[e1,RL (by omega),show ns.length-1-i+1=ns.length-i by omega]
    congr 1
    have:=List.getElem?_eq_some_iff.mp ec;exact this.2
   have bO:=oJ bx (l:=ns.drop (ns.length-i)) (by rw[QJ];omega) λy hy=>hb y (Rv hy)
   have lO:=q8 (x:Nat) (ns.drop (ns.length-i));rw[QJ]at bO lO;generalize hO:opp (x:Nat) (ns.drop (ns.length-i))=O at ep bO lO
   refine⟨_,rfl,_,rfl,_,rfl,by show 2<=sizeLine;decide,λp2 hp2=>?_⟩;have t2:Same H' (upd H' p2 (.lst ([((x:Nat):Int),-1].map V.int))):=Same.upd_new hp2
   have b2:AllB 8 [((x:Nat):Int),-1]:=λy hy=>by
    simp only[P8,Qv,or_false]at hy;rcases hy with rfl |rfl
    ·exact bx
    ·show(-1:Int).natAbs<2^8;decide
   refine⟨p,p2,O,[((x:Nat):Int),-1],rfl,t2 _ _ ep,ak,by omega,by show 2<=1000000;decide,bO.mono (by omega),b2.mono,λp3 H3 s3 hp3 e3=>?_⟩;have u3:=t2.trans s3;refine⟨_,rfl,by show 1<=sizeLine;decide,λp4 hp4=>⟨p4,[c],rfl,SqL.of ak,λp5 H5 s5 hp5 e5=>?_⟩⟩;have u5:=(u3.then_new (o:=.lst [V.int c]) hp4).trans s5;have e35:H5 p3=some (.lst ((ap O [((x:Nat):Int),-1]).map V.int)):=s5 _ _ ((Same.upd_new hp4) _ _ e3);have lm:(ap O [((x:Nat):Int),-1]).length<=O.length+2:=xt _ _;have l5:=gf [c];rw[Rp]at l5;refine⟨p3,p5,ap O [((x:Nat):Int),-1],trim [c],rfl,SqL.of e35,SqL.of e5,by omega,by omega,λp6 H6 s6 hp6 e6=>?_⟩;refine⟨p6,some (.int c),rfl,sm.trans (u5.trans s6),(sm.trans u5).free hp6,?_⟩;rw[e6,ed];show _=some (HO.lst ((bj (ap (opp (x:Nat) (ns.drop (ns.length-i))) [((x:Nat):Int),-1]) (trim [c])).map V.int));rw[hO]
  ·rintro σ' H' ⟨p,z,rfl,sm,hp,ep⟩;rw[hlm,QQ,Rc]at ep;exact⟨_,rfl,k p H' sm hp ep⟩
inductive vn(vs:List V)(H:Hp)(Q:VK)(E:XK):Prop
 |mk (a:Addr) (ns:List Int) (x:Nat):vs=[.ref a,.int (x:Nat)]->H a=some (.lst (ns.map V.int))->ns.length<=9->AllB 1000 ns->x<=100->mkL H Q (cb (x:Nat) ns).reverse->vn vs H Q E
theorem qT{x:Int}(hx:Bits 8 x):∀i,Bits (1+8*i) (x^i)
 |0=>by rw[Qg];show(1:Int).natAbs<2^1;decide
 |i+1=>by rw[Qa];exact((qT hx i).mul hx).mono (by omega)
theorem Ej(F:Fun K "weighted" "weighted" lY f fd)(T:Txt K mg):FnOk P w K mg base CX0 1 f fd ["row","x"] vn:=by
 refine F.ok sc_weighted (λvs H Q E h=>?_) (λcdv A outer s H vs Q E hr h=>?_)
 ·obtain⟨a,ns,x,rfl,_⟩:=h;rfl
 ·obtain⟨a,ns,x,rfl,hA,hl,hb,hx,k⟩:=h;have big:=sizeLine_eq;have bx:Bits 8 ((x:Nat):Int):=by show((x:Nat):Int).natAbs<256;omega
  refine⟨_,(af (aj (i:=2) sc_weighted.nd rfl (Or.inl rfl) (aK ac))
   (af (aj (i:=3) sc_weighted.nd rfl (Or.inl rfl) ae)
   (af (cg PassesOwn.never rfl (dE (K:=K) rfl (pv 0)) (aJ (i:=4) sc_weighted.nd rfl (Or.inl rfl))
     (af (eD (oG PySem.F.plainAttrs_list PySem.F.slot_list_append PySem.F.type_list_append oY (pv 2) (aa (ai av (pv 4) (pv 3)) ac)))
       (ah (aj (i:=3) sc_weighted.nd rfl (Or.inl rfl) (ai av (pv 3) (pv 1))))))
   (ah (am (qY (K:=K) rfl rfl (by rfl) T.list_ (by rfl) T.reversed_ (aa (pv 2) ac))))))),?_⟩
  refine ao ⟨P6 _,λp hp=>?_⟩;have s0:Same H (upd H p (.lst [])):=Same.upd_new hp;have q0:upd H p (.lst []) p=some (.lst (([]:List Int).map V.int)):=ak;generalize upd H p (.lst [])=H0 at s0 q0 ⊢
  refine ao ?_;refine⟨_,rfl,a,rfl,⟨_,SqL.of (s0 _ _ hA)⟩,pC (K:=K) (a:=a) (xs:=ns.map V.int) (λi σ' H'=>∃z:Option V,σ'=[some (.ref a),some (.int (x:Nat)),some (.ref p),some (.int (((x:Nat):Int)^i)),z]/\Same H H'/\H' p=some (.lst (((List.range i).map λj=>cf ns j*((x:Nat):Int)^j).map V.int))) ⟨none,?_,s0,q0⟩ ?_ ?_ ?_⟩
  ·rw[Qg];rfl
  ·rintro i σ' H' _ ⟨z,rfl,sm,_⟩;exact SqL.of (sm _ _ hA)
  ·rintro i v σ' H' hi ⟨z,rfl,sm,ep⟩;obtain⟨c,ec,rfl,hc,_⟩:=gj hi;have hi':i<ns.length:=(List.getElem?_eq_some_iff.mp ec).1;have bp:=qT bx i;refine eC ⟨_,rfl,.inl ⟨rfl,_,SqL.of ep⟩,_,rfl,_,rfl,_,_,rfl,rfl,⟨(hb c hc).mono,bp.mono (by omega)⟩,p,_,_,rfl,rfl,ep,by rw[PX,PX,QF];omega,?_⟩;dsimp only
   rw[gD];refine cz ⟨_,rfl,_,rfl,_,_,rfl,rfl,⟨bp.mono (by omega),bx.mono⟩,?_⟩;refine⟨some (.int c),?_,gB sm hp,?_⟩
   ·rw[Qa];rfl
   ·have e:((List.range (i+1)).map λj=>cf ns j*((x:Nat):Int)^j)=((List.range i).map λj=>cf ns j*((x:Nat):Int)^j)++[c*((x:Nat):Int)^i]:=by rw[Q2,Qd,Qm,Rg,tw ec]
    rw[ak,e]
  ·rintro σ' H' ⟨z,rfl,sm,ep⟩;dsimp only
   rw[PX]at ep;refine aA ⟨_,rfl,p,_,rfl,SqL.of ep,λq hq=>?_⟩;rw[<- List.map_reverse];exact k q _ (sm.then_new hq) (sm.free hq) ak
theorem BL{B i:Nat}{l:List Int}(h:AllB B l):AllB (B+1) (eB i l):=λx hx=>by obtain⟨j,_,rfl⟩:=P4.mp hx;exact((h.cf (j+1)).sub (h.cf j)).of_le (Int.natAbs_ediv_le_natAbs _ _)
theorem BK(i:Nat)(l:List Int):(eB i l).length=l.length-1:=by unfold eB;simp
theorem sE:∀(cs:List Int) (k:Nat),(cV k cs).length<=cs.length
 | [],_=>PZ _
 |c::cs,k=>by
  have ih:=sE cs (k+1);show(bj (ap (cV (k+1) cs) [-(k:Nat),1]) (trim [c])).length<=cs.length+1;have h1:=zY (ap (cV (k+1) cs) [-(k:Nat),1]) (trim [c]);have h2:=gf [c]
  have h3:(ap (cV (k+1) cs) [-((k:Nat):Int),1]).length<=(cV (k+1) cs).length+1:=by
   unfold ap;split
   ·exact P6 _
   ·rw[PX,QF];show _+2-1<=_;omega
  rw[Rp]at h2;omega
theorem uS{k:Nat}(hk:k<=100):AllB 8 [-((k:Nat):Int),1]:=λy hy=>by
 simp only[P8,Qv,or_false]at hy;rcases hy with rfl |rfl
 ·show(-((k:Nat):Int)).natAbs<256;omega
 ·show(1:Int).natAbs<2^8;decide
theorem yv:∀(cs:List Int) (k:Nat),k+cs.length<=50->AllB 100100 cs->AllB (100100+100*cs.length) (cV k cs)
 | [],_,_,_=>AllB.nil
 |c::cs,k,hk,h=>by
  rw[P7]at hk;have ih:=yv cs (k+1) (by omega) λy hy=>h y (Qb _ hy)
  have h1:=sE cs (k+1);have h3:AllB (100100+100*cs.length+99) (ap (cV (k+1) cs) [-((k:Nat):Int),1]):=xu ih (uS (by omega)) (by omega);have h4:AllB (100100+100*cs.length+99) (trim [c]):=AllB.trim λy hy=>by rw[Qc.mp hy];exact(h c (Qh ..)).mono (by omega)
  exact(zZ h3 h4).mono (by rw[P7];omega)
inductive lI(vs:List V)(H:Hp)(Q:VK)(E:XK):Prop
 |mk (a:Addr) (W:List Int) (n:Nat):vs=[.ref a]->H a=some (.lst (((List.range n).map λj=>ev (j:Nat) W).map V.int))->W.length<=n->Tr W->n<=30->AllB 100000 ((List.range n).map λj=>ev (j:Nat) W)->mkL H Q W->lI vs H Q E
theorem En(F:Fun K "through" "through" me f fd)(T:Txt K mg)(lw:Cal P w K mg base 2 "added" ["first","second"] (iw K bj) y3 yQ)(li:Cal P w K mg base 1 "multiplied" ["first","second"] lM yX yM)(dz:Cal P w K mg base 1 "poly" ["row"] (fX K) iT iS):FnOk P w K mg base CX0 3 f fd ["values"] lI:=by
 obtain⟨k7,jV,j8,kM⟩:=lw;obtain⟨kU,jP,j2,kG⟩:=li;obtain⟨dq,da,de,dk⟩:=dz;refine F.ok sc_through (λvs H Q E h=>?_) (λcdv A outer s H vs Q E hr h=>?_)
 ·obtain⟨a,W,n,rfl,_⟩:=h;rfl
 ·obtain⟨a,W,n,rfl,hA,hWl,hWt,hn,hb,k⟩:=h;have big:=sizeLine_eq;have thr:=Bj hWl hWt;have hzl:((List.range n).map λj=>ev (j:Nat) W).length=n:=by simp
  generalize (List.range n).map (λj=>ev (j:Nat) W)=zs at hA hb thr hzl
  refine⟨_,(af (aj (i:=1) sc_through.nd rfl (Or.inr rfl) (aK ac))
   (af (aj (i:=2) sc_through.nd rfl (Or.inr rfl) (jA (ky (K:=K) rfl) (by rfl) T.list_ PyProof.Rows.boot_list (aa (pv 0) ac)))
   (af (c9 PassesOwn.never (ax fB (aI (cn (K:=K) rfl) (by rfl) T.len_ PySem.boot_len (aa (pv 2) ac)) ae (aw _))
     (af (eD (oG PySem.F.plainAttrs_list PySem.F.slot_list_append PySem.F.type_list_append oY (pv 1) (aa (ar (aO (K:=K) rfl) (pv 2) ae (λ_ _=>rfl)) ac)))
       (ah (aj (i:=2) sc_through.nd rfl (Or.inr rfl) (cQ (own:=["j"]) (fr:=["leads","left"]) (js:=[1,2]) (by walk_at "comp_ok") rfl (dO rfl T.range_ (aa (ai bA (aI (cn (K:=K) rfl) (by rfl) T.len_ PySem.boot_len (aa (pv 2) ac)) ae) ac)) (λ_ _ _ _=>(aJ (i:=0) (show List.Nodup (["j","leads","left"]:List Str)from by decide +kernel) rfl (Or.inl rfl))) (λ_ _ _ _=>(ai gc (ai bA (ar (aO (K:=K) rfl) (pv 2) (ai aZ (pv 0) ae) (λ_ _=>rfl)) (ar (aO (K:=K) rfl) (pv 2) (pv 0) (λ_ _=>rfl))) (aI (cn (K:=K) rfl) (by rfl) T.len_ PySem.boot_len (aa (pv 1) ac)))))))))
   (af (aj (i:=3) sc_through.nd rfl (Or.inl rfl) (aK ac))
   (af (cg PassesOwn.never rfl (qW rfl T.range_ (aa (ai bA (aI (cn (K:=K) rfl) (by rfl) T.len_ PySem.boot_len (aa (pv 1) ac)) ae) (aa (aU aT ae) (aa (aU aT ae) ac)))) (aJ (i:=4) sc_through.nd rfl (Or.inl rfl))
     (ah (aj (i:=3) sc_through.nd rfl (Or.inl rfl) (ag k7 (hr.mono) rfl jV j8 kM .nil ad (aa (ag kU (hr.mono) rfl jP j2 kG .nil ad (aa (pv 3) (aa (aK (aa (aU aT (pv 4)) (aa ae ac))) ac))) (aa (ag dq (hr.mono) rfl da de dk .nil ad (aa (aK (aa (ar (aO (K:=K) rfl) (pv 1) (pv 4) (λ_ _=>rfl)) ac)) ac)) ac))))))
   (ah (am (pv 3)))))))),?_⟩
  refine ao ⟨P6 _,λpl hpl=>?_⟩;have s0:Same H (upd H pl (.lst [])):=Same.upd_new hpl;have q0:upd H pl (.lst []) pl=some (.lst (([]:List Int).map V.int)):=ak;generalize upd H pl (.lst [])=H0 at s0 q0 ⊢
  refine ao ⟨_,rfl,a,_,rfl,.inl (SqL.of (s0 _ _ hA)),λp hp=>?_⟩;have s1:=s0.then_new (o:=.lst (zs.map V.int)) hp;have q1:upd H0 p (.lst (zs.map V.int)) p=some (.lst (zs.map V.int)):=ak;have np:pl≠p:=aD q0 hp;have q2:upd H0 p (.lst (zs.map V.int)) pl=some (.lst (([]:List Int).map V.int)):=by rw[upd_ne np];exact q0
  generalize upd H0 p (.lst (zs.map V.int))=H1 at s1 q1 q2 ⊢
  refine⟨λm σ' H'=>∃(p:Addr) (cur ls:List Int),σ'=[some (.ref a),some (.ref pl),some (.ref p),none,none]/\Same H H'/\H' pl=some (.lst (ls.map V.int))/\H' p=some (.lst (cur.map V.int))/\p≠pl/\cur.length=m/\ls++eO cur.length ls.length cur=eO n 0 zs/\AllB (100000+ls.length) cur/\AllB 100100 ls/\ls.length+cur.length=n,⟨_,p,zs,[],rfl,s1,q2,q1,Ne.symm np,rfl,by rw[hzl];rfl,hb,AllB.nil,by rw[QO,hzl];omega⟩,?_⟩;rintro m σ' H' ⟨p,cur,ls,rfl,sm,el,ep,npl,rfl,hld,bc,bl,hsum⟩;refine⟨_,rfl,p,_,rfl,.inl (SqL.of ep),_,_,rfl,rfl,_,rfl,aG (λh0=>?_) (λh0=>?_)⟩
  ·rw[PX]at h0;obtain⟨m1,hm1⟩:∃m1,cur.length=m1+1:=⟨cur.length-1,by omega⟩;refine⟨λσ'' H''=>∃m',m'<cur.length/\∃(p:Addr) (cur ls:List Int),σ''=[some (.ref a),some (.ref pl),some (.ref p),none,none]/\Same H H''/\H'' pl=some (.lst (ls.map V.int))/\H'' p=some (.lst (cur.map V.int))/\p≠pl/\cur.length=m'/\ls++eO cur.length ls.length cur=eO n 0 zs/\AllB (100000+ls.length) cur/\AllB 100100 ls/\ls.length+cur.length=n,λ_ _ h=>h,?_⟩;refine eC ⟨_,rfl,.inl ⟨rfl,_,SqL.of el⟩,_,rfl,p,_,_,_,rfl,rfl,SqL.of ep,dm (j:=0) rfl (by omega),pl,_,_,rfl,rfl,el,by rw[PX];omega,?_⟩;rw[gD];have sm2:Same H (upd H' pl (.lst ((ls++[cf cur 0]).map V.int))):=gB sm hpl;have el2:upd H' pl (.lst ((ls++[cf cur 0]).map V.int)) pl=some (.lst ((ls++[cf cur 0]).map V.int)):=ak;have ep2:upd H' pl (.lst ((ls++[cf cur 0]).map V.int)) p=some (.lst (cur.map V.int)):=by rw[upd_ne npl];exact ep
   generalize upd H' pl (.lst ((ls++[cf cur 0]).map V.int))=H2 at sm2 el2 ep2 ⊢
   have hl2:(ls++[cf cur 0]).length=ls.length+1:=by rw[PY];rfl
   refine⟨_,rfl,p,_,rfl,.inl (SqL.of ep2),_,_,rfl,rfl,_,rfl,by rw[PX];show -(2^62)<=(cur.length:Int)-1;omega,by rw[PX];show(cur.length:Int)-1<2^62;omega,?_⟩;have en:(((cur.map V.int).length:Nat)-1:Int).toNat=cur.length-1:=by rw[PX];omega
   dsimp only
   rw[en];refine fM (lo:=0) (n:=cur.length-1) (λt ys σ' H''=>∃z:Option V,σ'=[z,some (.ref pl),some (.ref p)]/\ys=((List.range t).map λj=>V.int ((cf cur (j+1)-cf cur j)/((ls.length+1:Nat):Int)))/\H2=H'') (by omega) ⟨none,rfl,rfl,rfl⟩ ?_ ?_ ?_
   ·rintro t ys σ' H'' _ ⟨z,rfl,rfl,rfl⟩;simp
   ·rintro t ys σ' H'' ht ⟨z,rfl,rfl,rfl⟩;have e0:(0:Int)+(t:Int)=((t:Nat):Int):=by omega
    have e1:(0:Int)+(t:Int)+1=((t+1:Nat):Int):=by omega
    refine⟨_,rfl,_,rfl,_,_,rfl,rfl,p,_,_,_,rfl,rfl,SqL.of ep2,dm e1 (by omega),_,rfl,_,rfl,p,_,_,_,rfl,rfl,SqL.of ep2,dm e0 (by omega),_,_,rfl,rfl,_,rfl,pl,_,rfl,.inl (SqL.of el2),_,_,rfl,rfl,⟨?_,?_⟩,?_⟩
    ·show(0:Int)<(((ls++[cf cur 0]).map V.int).length:Nat);rw[PX,hl2];omega
    ·show Bits 9000 (((ls++[cf cur 0]).map V.int).length:Nat);rw[PX,hl2];exact Bits.mono (j:=8) (show(((ls.length+1:Nat):Int)).natAbs<256 by omega) (by decide)
    refine⟨_,rfl,?_,rfl⟩;rw[PX,hl2,Q2,Qd];rfl
   rintro ys σ' H'' q ⟨z,rfl,rfl,rfl⟩ hq;have ey:((List.range (cur.length-1)).map λj=>V.int ((cf cur (j+1)-cf cur j)/((ls.length+1:Nat):Int)))=(eB (ls.length+1) cur).map V.int:=by unfold eB;rw[Qp];rfl
   rw[ey];refine Dp ?_;have sl:=BK (ls.length+1) cur;refine⟨cur.length-1,by omega,q,eB (ls.length+1) cur,ls++[cf cur 0],rfl,sm2.then_new hq,(Same.upd_new hq) _ _ el2,ak,(λz=>by rw[z,el2]at hq;cases hq),sl,?_,?_,?_,?_⟩
   ·rw[<- hld,sl,hl2,hm1,Qq];rfl
   ·rw[hl2];exact(BL bc).mono (by omega)
   ·exact bl.snoc ((bc.cf 0).mono (by omega))
   ·rw[hl2,sl];omega
  ·rw[PX]at h0;have hc0:cur=[]:=Q0.mp (by omega);subst hc0;have hls:ls=eO n 0 zs:=by rw[<- hld];simp[eO]
   have hln:ls.length=n:=by simpa using hsum
   dsimp only
   refine ao ⟨P6 _,λp0 hp0=>?_⟩;have s3:=sm.then_new (o:=.lst []) hp0;have q3:upd H' p0 (.lst []) p0=some (.lst (([]:List Int).map V.int)):=ak;have el3:=(Same.upd_new (o:=.lst []) hp0) _ _ el;have fp0:H p0=none:=sm.free hp0;have npl0:pl≠p0:=aD el hp0;generalize upd H' p0 (.lst [])=H3 at s3 q3 el3 ⊢
   have hll:(ls.map V.int).length=n:=by rw[PX,hln]
   refine⟨_,rfl,pl,_,rfl,.inl (SqL.of el3),_,_,rfl,rfl,_,rfl,_,rfl,((n:Nat):Int)-1,-1,by rw[hll],⟨by omega,by omega,by decide,by decide⟩,?_⟩;have en:(((n:Nat):Int)-1 - -1).toNat=n:=by omega
   rw[en];refine sJ (λi σ' H'=>∃(q:Addr) (z4:Option V),σ'=[some (.ref a),some (.ref pl),some (.ref p),some (.ref q),z4]/\Same H H'/\H' pl=some (.lst (ls.map V.int))/\H q=none/\H' q=some (.lst ((cV (n-i) (ls.drop (n-i))).map V.int))) ⟨p0,none,rfl,s3,el3,fp0,?_⟩ ?_ ?_
   ·rw[QU,List.drop_of_length_le (by omega)];exact q3
   ·rintro i σ' H5 hi ⟨q,z4,rfl,s5,el5,fq,eq5⟩;have ek:((n:Nat):Int)-1+(i:Int) * -1=((n-1-i:Nat):Int):=by omega
    have hd:ls.drop (n-(i+1))=cf ls (n-1-i)::ls.drop (n-i):=by rw[show n-(i+1)=n-1-i by omega,RL (by omega),show n-1-i+1=n-i by omega,cw (by omega)]
    have hk1:n-(i+1)=n-1-i:=by omega
    have hk2:n-1-i+1=n-i:=by omega
    have bO:=yv (ls.drop (n-i)) (n-i) (by rw[QJ];omega) λy hy=>bl y (Rv hy)
    have lO:=sE (ls.drop (n-i)) (n-i);rw[QJ]at bO lO;generalize hO:cV (n-i) (ls.drop (n-i))=O at eq5 bO lO
    refine⟨_,rfl,_,rfl,_,rfl,by show 2<=sizeLine;decide,λp2 hp2=>?_⟩;rw[ek];have t2:Same H5 (upd H5 p2 (.lst ([-((n-1-i:Nat):Int),1].map V.int))):=Same.upd_new hp2;refine⟨q,p2,O,[-((n-1-i:Nat):Int),1],rfl,t2 _ _ eq5,ak,by omega,by show 2<=1000000;decide,bO.mono (by omega),(uS (by omega)).mono,λp3 H6 s6 hp3 e3=>?_⟩;have u3:=t2.trans s6;have el6:=u3 _ _ el5;refine⟨_,rfl,_,rfl,pl,_,_,_,rfl,rfl,SqL.of el6,dm rfl (by omega),by show 1<=sizeLine;decide,λp4 hp4=>⟨p4,[cf ls (n-1-i)],rfl,SqL.of ak,λp5 H7 s7 hp5 e5=>?_⟩⟩;have u5:=(u3.then_new (o:=.lst [V.int (cf ls (n-1-i))]) hp4).trans s7;have e35:H7 p3=some (.lst ((ap O [-((n-1-i:Nat):Int),1]).map V.int)):=s7 _ _ ((Same.upd_new hp4) _ _ e3);have lm:(ap O [-((n-1-i:Nat):Int),1]).length<=O.length+2:=xt _ _;have l5:=gf [cf ls (n-1-i)];rw[Rp]at l5;refine⟨p3,p5,ap O [-((n-1-i:Nat):Int),1],trim [cf ls (n-1-i)],rfl,SqL.of e35,SqL.of e5,by omega,by omega,λp6 H8 s8 hp6 e6=>?_⟩;refine⟨p6,_,rfl,s5.trans (u5.trans s8),(u5.trans s8) _ _ el5,(s5.trans u5).free hp6,?_⟩;rw[e6,hd,hk1];show _=some (HO.lst ((bj (ap (cV (n-1-i+1) (ls.drop (n-i))) [-((n-1-i:Nat):Int),1]) (trim [cf ls (n-1-i)])).map V.int));rw[hk2,hO]
   ·rintro σ' H5 ⟨q,z4,rfl,s5,el5,fq,eq5⟩;rw[QQ,Rc,hls,thr]at eq5;exact⟨_,rfl,k q H5 s5 fq eq5⟩
theorem qN{xs ys:List Int}(hx:AllB 2000 xs)(hy:AllB 2000 ys)(h:xs.length+ys.length<=18)(hx0:xs≠[])(hy0:ys≠[]):Bits 40000 (cN xs ys):=by
 have hxp:=Qe.mpr hx0;have hyp:=Qe.mpr hy0
 have hb:=ul (b:=2000) (ys.length-1+(xs.length-1)) (syl (cf xs.reverse) (cf ys.reverse) (ys.length-1) (xs.length-1)) (by omega) (by unfold syl;rw[PY,iO,iO]) (λr hr j=>by
  have hz:(0:Int).natAbs<=2^2000:=P6 _;rcases Qk.mp hr with z |z
  ·obtain⟨k,_,rfl⟩:=P4.mp z;show(if j<k then(0:Int)else cf xs.reverse (j-k)).natAbs<=_;split
   ·exact hz
   ·exact QW (AllB.cf (λx hx'=>hx x (Ro.mp hx')) (j-k))
  ·obtain⟨k,_,rfl⟩:=P4.mp z;show(if j<k then(0:Int)else cf ys.reverse (j-k)).natAbs<=_;split
   ·exact hz
   ·exact QW (AllB.cf (λx hx'=>hy x (Ro.mp hx')) (j-k)))
 have h2:(2000+4)*(ys.length-1+(xs.length-1))<=2004*16:=Nat.mul_le_mul_left _ (by omega);exact Ri hb ((Q3 (by decide)).mpr (by omega))
theorem qh{xs ys:List Int}(hx:xs≠[])(hy:ys≠[])(bx:AllB 2000 xs)(by':AllB 2000 ys)(h:xs.length+ys.length<=18):(∀r∈aM xs (ys.length-1)++aM ys (xs.length-1),r.length=(aM xs (ys.length-1)++aM ys (xs.length-1)).length)/\(∀r∈aM xs (ys.length-1)++aM ys (xs.length-1),AllB 2000 r)/\(aM xs (ys.length-1)++aM ys (xs.length-1)).length<=16/\D (aM xs (ys.length-1)++aM ys (xs.length-1)).length ((aM xs (ys.length-1)++aM ys (xs.length-1)).map cf)=cN xs ys:=by
 have hxp:=Qe.mpr hx;have hyp:=Qe.mpr hy;have l1:(aM xs (ys.length-1)).length=ys.length-1:=by unfold aM;simp
 have l2:(aM ys (xs.length-1)).length=xs.length-1:=by unfold aM;simp
 have lt:(aM xs (ys.length-1)++aM ys (xs.length-1)).length=ys.length-1+(xs.length-1):=by rw[PY,l1,l2]
 refine⟨?_,?_,by rw[lt];omega,by rw[lt,Qd,wl,wl];rfl⟩
 ·intro r hr;rw[lt];rcases Qk.mp hr with z |z
  ·obtain⟨i,hi,rfl⟩:=P4.mp z;have:=QI.mp hi;rw[PY,PY,Qy,Qy,QK];omega
  ·obtain⟨i,hi,rfl⟩:=P4.mp z;have:=QI.mp hi;rw[PY,PY,Qy,Qy,QK];omega
 ·intro r hr;rcases Qk.mp hr with z |z
  ·obtain⟨i,hi,rfl⟩:=P4.mp z;exact(AllB.zeros.app λx hx=>bx x (Ro.mp hx)).app AllB.zeros
  ·obtain⟨i,hi,rfl⟩:=P4.mp z;exact(AllB.zeros.app λx hx=>by' x (Ro.mp hx)).app AllB.zeros
inductive lH(g:Int->List Int->List Int)(vs:List V)(H:Hp)(Q:VK)(E:XK):Prop
 |mk (a b:Addr) (xs ys W:List Int):vs=[.ref a,.ref b]->H a=some (.lst (xs.map V.int))->H b=some (.lst (ys.map V.int))->Tr ys->xs≠[]->ys≠[]->xs.length<=9->ys.length<=9->(xs.length-1)*(ys.length-1)<=20->AllB 1000 xs->AllB 1000 ys->W.length=(xs.length-1)*(ys.length-1)+1->Tr W->AllB 9000 W->(∀x:Nat,cN xs (g (x:Nat) ys)=ev (x:Nat) W)->mkL H Q (aL W)->lH g vs H Q E
theorem xr{x y:Nat}(hx:1<=x)(hy:1<=y):((x:Int)-1)*((y:Int)-1)+1=(((x-1)*(y-1)+1:Nat):Int):=by rw[Int.natCast_add,Rs,RH hx,RH hy];rfl
theorem qb(x:Int)(l:List Int):(cb x l).reverse.length=l.length:=by rw[QK];unfold cb;simp
theorem uO{x:Int}(hx:Bits 8 x){l:List Int}(hl:l.length<=9)(h:AllB 1000 l):AllB 2000 (cb x l).reverse:=λy hy=>by obtain⟨j,hj,rfl⟩:=P4.mp (Ro.mp hy);have:=QI.mp hj;exact((h.cf j).mul (qT hx j)).mono (by omega)
theorem Er(F:Fun K "sums" "sums" mi f fd)(T:Txt K mg)(bY:Cal P w K mg base 1 "degree" ["row"] c7 dZ dW)(cU:Cal P w K mg base 34 "plain" ["row"] fj gQ gP)(k9:Cal P w K mg base 3 "through" ["values"] lI yS yH)(lu:Cal P w K mg base 34 "determinant" ["rows"] lQ y0 yP)(lc:Cal P w K mg base 2 "table" ["first","second"] lJ yT yI)(Nj:Cal P w K mg base 3 "opposed" ["row","x"] vJ Pe Ol):FnOk P w K mg base CX0 35 f fd ["first","second"] (lH opp):=by
 obtain⟨aY,aV,aW,aX⟩:=bY;obtain⟨cE,cA,cB,cD⟩:=cU;obtain⟨kP,jK,jX,kA⟩:=k9;obtain⟨kY,jS,j5,kJ⟩:=lu;obtain⟨kQ,jL,jY,kB⟩:=lc;obtain⟨Mq,G8,Ik,Lj⟩:=Nj;refine F.ok sc_sums (λvs H Q E h=>?_) (λcdv A outer s H vs Q E hr h=>?_)
 ·obtain⟨a,b,xs,ys,W,rfl,_⟩:=h;rfl
 ·obtain⟨a,b,xs,ys,W,rfl,hA,hB,hty,hx,hy,hxl,hyl,hN,bx,by',hW,hWt,hWb,hv,k⟩:=h;have big:=sizeLine_eq;have hxp:=Qe.mpr hx;have hyp:=Qe.mpr hy
  refine⟨_,(af (aj (i:=2) sc_sums.nd rfl (Or.inl rfl) (ai aZ (ai av (ag aY (hr.mono) rfl aV aW aX .nil ad (aa (pv 0) ac)) (ag aY (hr.mono) rfl aV aW aX .nil ad (aa (pv 1) ac))) ae))
   (ah (am (ag cE (hr.mono) rfl cA cB cD .nil ad (aa (ag kP (hr.mono) rfl jK jX kA .nil ad (aa (cQ (own:=["x"]) (fr:=["first","second"]) (js:=[0,1]) (by walk_at "comp_ok") rfl (dO rfl T.range_ (aa (pv 2) ac)) (λ_ _ _ _=>(aJ (i:=0) (show List.Nodup (["x","first","second"]:List Str)from by decide +kernel) rfl (Or.inl rfl))) (λ_ _ _ _=>(ag kY (hr.mono) rfl jS j5 kJ .nil ad (aa (ag kQ (hr.mono) rfl jL jY kB .nil ad (aa (pv 1) (aa (ag Mq (hr.mono) rfl G8 Ik Lj .nil ad (aa (pv 2) (aa (pv 0) ac))) ac))) ac)))) ac)) ac))))),?_⟩
  have sm8:∀z:Nat,z<=9->Bits 1000000 ((z:Int)-1):=λz hz=>Bits.mono (j:=8) (show((z:Int)-1).natAbs<256 by omega) (by decide)
  refine ao ⟨_,rfl,a,_,rfl,hA,_,rfl,b,_,rfl,hB,_,_,rfl,rfl,⟨by rw[PX];exact sm8 _ hxl,by rw[PX];exact sm8 _ hyl⟩,_,_,rfl,rfl,?_⟩;have em:=xr hxp hyp;dsimp only
  rw[PX,PX,em];generalize (xs.length-1)*(ys.length-1)=N at hN hW
  refine aA ⟨_,rfl,_,rfl,by omega,by omega,?_⟩;refine fM (lo:=0) (n:=N+1) (λt zs σ' H'=>∃z:Option V,σ'=[z,some (.ref a),some (.ref b)]/\zs=((List.range t).map λj=>ev (j:Nat) W).map V.int/\Same H H') (by omega) ⟨none,rfl,rfl,λ_ _ e=>e⟩ ?_ ?_ ?_
  ·rintro t zs σ' H' _ ⟨z,rfl,rfl,_⟩;simp
  ·rintro t zs σ' H' ht ⟨z,rfl,rfl,sm⟩;have e0:(0:Int)+(t:Int)=((t:Nat):Int):=by omega
   obtain⟨o1,o2,_⟩:=oH ((t:Nat):Int) ys hty hy;have bo:=oJ (x:=((t:Nat):Int)) (show((t:Nat):Int).natAbs<256 by omega) hyl by';have ho:opp ((t:Nat):Int) ys≠[]:=λz=>by rw[z]at o2;simp at o2;omega
   refine⟨_,rfl,_,rfl,_,rfl,b,ys,t,by rw[e0];rfl,sm _ _ hB,hty,hy,hyl,by',by omega,λp1 H1 s1 hp1 e1=>?_⟩;have hvt:=hv t;have bo2:AllB 2000 (opp ((t:Nat):Int) ys):=bo.mono (by omega);generalize opp ((t:Nat):Int) ys=O at e1 o2 ho hvt bo2
   have t1:=sm.trans s1;refine⟨a,p1,xs,O,rfl,t1 _ _ hA,e1,hx,ho,by omega,by omega,λp2 H2 ps s2 q2 hR2=>?_⟩;obtain⟨d1,d2,d3,d4⟩:=qh hx ho (bx.mono) bo2 (by omega);refine⟨p2,ps,_,2000,rfl,q2,hR2,d1,d2,d3,by decide,λH3 s3=>?_⟩;refine⟨some (.int (0+(t:Int))),rfl,?_,(t1.trans s2).trans s3⟩;have er:((List.range (t+1)).map λj=>ev (j:Nat) W)=((List.range t).map λj=>ev (j:Nat) W)++[ev (t:Nat) W]:=by rw[Q2,Qd];rfl
   rw[d4,hvt,gD,er]
  rintro zs σ' H' p ⟨z,rfl,rfl,sm⟩ hp
  have bv:AllB 100000 ((List.range (N+1)).map λj=>ev (j:Nat) W):=λy hy'=>by obtain⟨j,hj,rfl⟩:=P4.mp hy';have hj':=QI.mp hj;show Bits 100000 (ev (j:Nat) W);rw[<- hv j];obtain⟨o1,o2,_⟩:=oH ((j:Nat):Int) ys hty hy;have bo:=oJ (x:=((j:Nat):Int)) (show((j:Nat):Int).natAbs<256 by omega) hyl by';exact(qN (bx.mono) (bo.mono (by omega)) (by omega) hx (λz=>by rw[z]at o2;simp at o2;omega)).mono
  refine⟨p,W,N+1,rfl,ak,by omega,hWt,by omega,bv,λq H2 s2 hq e2=>?_⟩;refine⟨q,W,rfl,e2,hWt,by omega,λq3 H3 s3 hq3 e3=>k q3 H3 ((sm.then_new hp).trans (s2.trans s3)) (((sm.then_new hp).trans s2).free hq3) e3⟩
theorem EN(F:Fun K "products" "products" mM f fd)(T:Txt K mg)(bY:Cal P w K mg base 1 "degree" ["row"] c7 dZ dW)(cU:Cal P w K mg base 34 "plain" ["row"] fj gQ gP)(k9:Cal P w K mg base 3 "through" ["values"] lI yS yH)(lu:Cal P w K mg base 34 "determinant" ["rows"] lQ y0 yP)(lc:Cal P w K mg base 2 "table" ["first","second"] lJ yT yI)(MY:Cal P w K mg base 1 "weighted" ["row","x"] vn OU N0):FnOk P w K mg base CX0 35 f fd ["first","second"] (lH λx l=>(cb x l).reverse):=by
 obtain⟨aY,aV,aW,aX⟩:=bY;obtain⟨cE,cA,cB,cD⟩:=cU;obtain⟨kP,jK,jX,kA⟩:=k9;obtain⟨kY,jS,j5,kJ⟩:=lu;obtain⟨kQ,jL,jY,kB⟩:=lc;obtain⟨L9,GM,HR,KZ⟩:=MY;refine F.ok sc_products (λvs H Q E h=>?_) (λcdv A outer s H vs Q E hr h=>?_)
 ·obtain⟨a,b,xs,ys,W,rfl,_⟩:=h;rfl
 ·obtain⟨a,b,xs,ys,W,rfl,hA,hB,hty,hx,hy,hxl,hyl,hN,bx,by',hW,hWt,hWb,hv,k⟩:=h;have big:=sizeLine_eq;have hxp:=Qe.mpr hx;have hyp:=Qe.mpr hy
  refine⟨_,(af (aj (i:=2) sc_products.nd rfl (Or.inl rfl) (ai aZ (ai av (ag aY (hr.mono) rfl aV aW aX .nil ad (aa (pv 0) ac)) (ag aY (hr.mono) rfl aV aW aX .nil ad (aa (pv 1) ac))) ae))
   (ah (am (ag cE (hr.mono) rfl cA cB cD .nil ad (aa (ag kP (hr.mono) rfl jK jX kA .nil ad (aa (cQ (own:=["x"]) (fr:=["first","second"]) (js:=[0,1]) (by walk_at "comp_ok") rfl (dO rfl T.range_ (aa (pv 2) ac)) (λ_ _ _ _=>(aJ (i:=0) (show List.Nodup (["x","first","second"]:List Str)from by decide +kernel) rfl (Or.inl rfl))) (λ_ _ _ _=>(ag kY (hr.mono) rfl jS j5 kJ .nil ad (aa (ag kQ (hr.mono) rfl jL jY kB .nil ad (aa (pv 1) (aa (ag L9 (hr.mono) rfl GM HR KZ .nil ad (aa (pv 2) (aa (pv 0) ac))) ac))) ac)))) ac)) ac))))),?_⟩
  have sm8:∀z:Nat,z<=9->Bits 1000000 ((z:Int)-1):=λz hz=>Bits.mono (j:=8) (show((z:Int)-1).natAbs<256 by omega) (by decide)
  refine ao ⟨_,rfl,a,_,rfl,hA,_,rfl,b,_,rfl,hB,_,_,rfl,rfl,⟨by rw[PX];exact sm8 _ hxl,by rw[PX];exact sm8 _ hyl⟩,_,_,rfl,rfl,?_⟩;have em:=xr hxp hyp;dsimp only
  rw[PX,PX,em];generalize (xs.length-1)*(ys.length-1)=N at hN hW
  refine aA ⟨_,rfl,_,rfl,by omega,by omega,?_⟩;refine fM (lo:=0) (n:=N+1) (λt zs σ' H'=>∃z:Option V,σ'=[z,some (.ref a),some (.ref b)]/\zs=((List.range t).map λj=>ev (j:Nat) W).map V.int/\Same H H') (by omega) ⟨none,rfl,rfl,λ_ _ e=>e⟩ ?_ ?_ ?_
  ·rintro t zs σ' H' _ ⟨z,rfl,rfl,_⟩;simp
  ·rintro t zs σ' H' ht ⟨z,rfl,rfl,sm⟩;have e0:(0:Int)+(t:Int)=((t:Nat):Int):=by omega
   have o2:=qb ((t:Nat):Int) ys;have bo2:=uO (x:=((t:Nat):Int)) (show((t:Nat):Int).natAbs<256 by omega) hyl by';have ho:(cb ((t:Nat):Int) ys).reverse≠[]:=λz=>by rw[z]at o2;simp at o2;omega
   refine⟨_,rfl,_,rfl,_,rfl,b,ys,t,by rw[e0];rfl,sm _ _ hB,hyl,by',by omega,λp1 H1 s1 hp1 e1=>?_⟩;have hvt:=hv t;try dsimp only at hvt
   generalize (cb ((t:Nat):Int) ys).reverse=O at e1 o2 ho hvt bo2
   have t1:=sm.trans s1;refine⟨a,p1,xs,O,rfl,t1 _ _ hA,e1,hx,ho,by omega,by omega,λp2 H2 ps s2 q2 hR2=>?_⟩;obtain⟨d1,d2,d3,d4⟩:=qh hx ho (bx.mono) bo2 (by omega);refine⟨p2,ps,_,2000,rfl,q2,hR2,d1,d2,d3,by decide,λH3 s3=>?_⟩;refine⟨some (.int (0+(t:Int))),rfl,?_,(t1.trans s2).trans s3⟩;have er:((List.range (t+1)).map λj=>ev (j:Nat) W)=((List.range t).map λj=>ev (j:Nat) W)++[ev (t:Nat) W]:=by rw[Q2,Qd];rfl
   rw[d4,hvt,gD,er]
  rintro zs σ' H' p ⟨z,rfl,rfl,sm⟩ hp
  have bv:AllB 100000 ((List.range (N+1)).map λj=>ev (j:Nat) W):=λy hy'=>by obtain⟨j,hj,rfl⟩:=P4.mp hy';have hj':=QI.mp hj;show Bits 100000 (ev (j:Nat) W);rw[<- hv j];have o2:=qb ((j:Nat):Int) ys;have bo2:=uO (x:=((j:Nat):Int)) (show((j:Nat):Int).natAbs<256 by omega) hyl by';exact(qN (bx.mono) bo2 (by omega) hx (λz=>by rw[z]at o2;simp at o2;omega)).mono
  refine⟨p,W,N+1,rfl,ak,by omega,hWt,by omega,bv,λq H2 s2 hq e2=>?_⟩;refine⟨q,W,rfl,e2,hWt,by omega,λq3 H3 s3 hq3 e3=>k q3 H3 ((sm.then_new hp).trans (s2.trans s3)) (((sm.then_new hp).trans s2).free hq3) e3⟩
noncomputable def pwG(x:Int)(k:Nat):List Int:=[x]++List.replicate (k-1) 0++[-1]
theorem qS(x:Int){k:Nat}(hk:1<=k):(pwG x k).length=k+1:=by unfold pwG;rw[PY,PY,Qy];show 1+(k-1)+1=k+1;omega
theorem wK{x:Int}(hx:Bits 8 x)(k:Nat):AllB 2000 (pwG x k):=by
 unfold pwG;refine(AllB.app (λy hy=>?_) AllB.zeros).snoc ?_
 ·rw[Qc.mp hy];exact hx.mono
 ·exact Bits.mono (j:=1) (by show(-1:Int).natAbs<2^1;decide) (by decide)
inductive vE(vs:List V)(H:Hp)(Q:VK)(E:XK):Prop
 |mk (a:Addr) (xs W:List Int) (n:Nat):vs=[.ref a,.int (n:Nat)]->H a=some (.lst (xs.map V.int))->xs≠[]->xs.length<=9->1<=n->n<=8->AllB 1000 xs->W.length=xs.length->Tr W->AllB 9000 W->(∀x:Nat,cN xs (pwG (x:Nat) n)=ev (x:Nat) W)->mkL H Q (aL W)->vE vs H Q E
theorem EO(F:Fun K "powers" "powers" mO f fd)(T:Txt K mg)(bY:Cal P w K mg base 1 "degree" ["row"] c7 dZ dW)(cU:Cal P w K mg base 34 "plain" ["row"] fj gQ gP)(k9:Cal P w K mg base 3 "through" ["values"] lI yS yH)(lu:Cal P w K mg base 34 "determinant" ["rows"] lQ y0 yP)(lc:Cal P w K mg base 2 "table" ["first","second"] lJ yT yI):FnOk P w K mg base CX0 35 f fd ["row","k"] vE:=by
 obtain⟨aY,aV,aW,aX⟩:=bY;obtain⟨cE,cA,cB,cD⟩:=cU;obtain⟨kP,jK,jX,kA⟩:=k9;obtain⟨kY,jS,j5,kJ⟩:=lu;obtain⟨kQ,jL,jY,kB⟩:=lc;refine F.ok sc_powers (λvs H Q E h=>?_) (λcdv A outer s H vs Q E hr h=>?_)
 ·obtain⟨a,xs,W,n,rfl,_⟩:=h;rfl
 ·obtain⟨a,xs,W,n,rfl,hA,hx,hxl,hn1,hn8,bx,hW,hWt,hWb,hv,k⟩:=h;have big:=sizeLine_eq;have hxp:=Qe.mpr hx
  refine⟨_,(af (aj (i:=2) sc_powers.nd rfl (Or.inl rfl) (ai aZ (ag aY (hr.mono) rfl aV aW aX .nil ad (aa (pv 0) ac)) ae))
   (ah (am (ag cE (hr.mono) rfl cA cB cD .nil ad (aa (ag kP (hr.mono) rfl jK jX kA .nil ad (aa (cQ (own:=["x"]) (fr:=["row","k"]) (js:=[0,1]) (by walk_at "comp_ok") rfl (dO rfl T.range_ (aa (pv 2) ac)) (λ_ _ _ _=>(aJ (i:=0) (show List.Nodup (["x","row","k"]:List Str)from by decide +kernel) rfl (Or.inl rfl))) (λ_ _ _ _=>(ag kY (hr.mono) rfl jS j5 kJ .nil ad (aa (ag kQ (hr.mono) rfl jL jY kB .nil ad (aa (pv 1) (aa (ai iK (ai iK (aK (aa (pv 0) ac)) (ai jC (aK (aa ae ac)) (ai bA (pv 2) ae))) (aK (aa (aU aT ae) ac))) ac))) ac)))) ac)) ac))))),?_⟩
  refine ao ⟨_,rfl,a,_,rfl,hA,_,_,rfl,rfl,?_⟩;have em:(((xs.map V.int).length:Nat):Int)-1+1=((xs.length:Nat):Int):=by rw[PX];omega
  dsimp only
  rw[em];refine aA ⟨_,rfl,_,rfl,by omega,by omega,?_⟩;refine fM (lo:=0) (n:=xs.length) (λt zs σ' H'=>∃z:Option V,σ'=[z,some (.ref a),some (.int (n:Nat))]/\zs=((List.range t).map λj=>ev (j:Nat) W).map V.int/\Same H H') (by omega) ⟨none,rfl,rfl,λ_ _ e=>e⟩ ?_ ?_ ?_
  ·rintro t zs σ' H' _ ⟨z,rfl,rfl,_⟩;simp
  ·rintro t zs σ' H' ht ⟨z,rfl,rfl,sm⟩;have e0:(0:Int)+(t:Int)=((t:Nat):Int):=by omega
   have o2:=qS ((t:Nat):Int) hn1;have bo2:=wK (x:=((t:Nat):Int)) (show((t:Nat):Int).natAbs<256 by omega) n;have ho:pwG ((t:Nat):Int) n≠[]:=λz=>by rw[z]at o2;simp at o2
   have hvt:=hv t;refine⟨_,rfl,_,rfl,by show 1<=sizeLine;decide,λp1 hp1=>⟨by show 1<=sizeLine;decide,λp2 hp2=>⟨_,rfl,_,_,rfl,rfl,?_⟩⟩⟩;have ek:((n:Nat):Int)-1=((n-1:Nat):Int):=by omega
   dsimp only
   rw[ek,e0];rw[e0]at hp2;have t1:Same H' (upd H' p1 (.lst [V.int ((t:Nat):Int)])):=Same.upd_new hp1;have q1:upd H' p1 (.lst [V.int ((t:Nat):Int)]) p1=some (.lst (([((t:Nat):Int)]:List Int).map V.int)):=ak;generalize upd H' p1 (.lst [V.int ((t:Nat):Int)])=G1 at t1 q1 hp2 ⊢
   have t2:=t1.then_new (o:=.lst [V.int 0]) hp2;have q12:=(Same.upd_new (o:=.lst [V.int 0]) hp2) _ _ q1;refine⟨p2,_,_,rfl,rfl,ak,by omega,by omega,by show 1*((n-1:Nat):Int).toNat<=sizeLine;omega,λp3 hp3=>?_⟩;have er0:(List.replicate ((n-1:Nat):Int).toNat [V.int 0]).flatten=(List.replicate (n-1) (0:Int)).map V.int:=by rw[Int.toNat_natCast,jp]
   rw[er0];have q13:=(Same.upd_new (o:=.lst ((List.replicate (n-1) (0:Int)).map V.int)) hp3) _ _ q12;have t3:=t2.then_new (o:=.lst ((List.replicate (n-1) (0:Int)).map V.int)) hp3;refine⟨p1,p3,_,_,rfl,rfl,q13,ak,by rw[PX,PX,Qy];show 1+(n-1)<=sizeLine;omega,λp4 hp4=>?_⟩;rw[rG];have t4:=t3.then_new (o:=.lst (([((t:Nat):Int)]++List.replicate (n-1) (0:Int)).map V.int)) hp4;have q4:upd (upd (upd G1 p2 (.lst [V.int 0])) p3 (.lst ((List.replicate (n-1) (0:Int)).map V.int))) p4 (.lst (([((t:Nat):Int)]++List.replicate (n-1) (0:Int)).map V.int)) p4=some (.lst (([((t:Nat):Int)]++List.replicate (n-1) (0:Int)).map V.int)):=ak;generalize upd (upd (upd G1 p2 (.lst [V.int 0])) p3 (.lst ((List.replicate (n-1) (0:Int)).map V.int))) p4 (.lst (([((t:Nat):Int)]++List.replicate (n-1) (0:Int)).map V.int))=G4 at t4 q4 ⊢
   refine⟨_,rfl,by show 1<=sizeLine;decide,λp5 hp5=>?_⟩;have t5:=t4.then_new (o:=.lst [V.int (-1)]) hp5;have q45:=(Same.upd_new (o:=.lst [V.int (-1)]) hp5) _ _ q4;refine⟨p4,p5,_,_,rfl,rfl,q45,ak,by rw[PX,PY,Qy];show 1+(n-1)+1<=sizeLine;omega,λp6 hp6=>?_⟩;have ec:([((t:Nat):Int)]++List.replicate (n-1) (0:Int)).map V.int++[V.int (-1)]=(pwG ((t:Nat):Int) n).map V.int:=gD _ _;rw[ec];have t6:=t5.then_new (o:=.lst ((pwG ((t:Nat):Int) n).map V.int)) hp6;have q6:upd (upd G4 p5 (.lst [V.int (-1)])) p6 (.lst ((pwG ((t:Nat):Int) n).map V.int)) p6=some (.lst ((pwG ((t:Nat):Int) n).map V.int)):=ak;generalize upd (upd G4 p5 (.lst [V.int (-1)])) p6 (.lst ((pwG ((t:Nat):Int) n).map V.int))=G6 at t6 q6 ⊢
   generalize pwG ((t:Nat):Int) n=O at q6 o2 ho hvt bo2
   have t7:=sm.trans t6;refine⟨a,p6,xs,O,rfl,t7 _ _ hA,q6,hx,ho,by omega,by omega,λp7 H2 ps s2 q2 hR2=>?_⟩;obtain⟨d1,d2,d3,d4⟩:=qh hx ho (bx.mono) bo2 (by omega);refine⟨p7,ps,_,2000,rfl,q2,hR2,d1,d2,d3,by decide,λH3 s3=>?_⟩;refine⟨_,rfl,?_,(t7.trans s2).trans s3⟩;have er:((List.range (t+1)).map λj=>ev (j:Nat) W)=((List.range t).map λj=>ev (j:Nat) W)++[ev (t:Nat) W]:=by rw[Q2,Qd];rfl
   rw[d4,hvt,gD,er]
  rintro zs σ' H' p ⟨z,rfl,rfl,sm⟩ hp
  have bv:AllB 100000 ((List.range xs.length).map λj=>ev (j:Nat) W):=λy hy'=>by obtain⟨j,hj,rfl⟩:=P4.mp hy';have hj':=QI.mp hj;show Bits 100000 (ev (j:Nat) W);rw[<- hv j];have o2:=qS ((j:Nat):Int) hn1;have bo2:=wK (x:=((j:Nat):Int)) (show((j:Nat):Int).natAbs<256 by omega) n;exact(qN (bx.mono) bo2 (by omega) hx (λz=>by rw[z]at o2;simp at o2)).mono
  refine⟨p,W,xs.length,rfl,ak,by omega,hWt,by omega,bv,λq H2 s2 hq e2=>?_⟩;refine⟨q,W,rfl,e2,hWt,by omega,λq3 H3 s3 hq3 e3=>k q3 H3 ((sm.then_new hp).trans (s2.trans s3)) (((sm.then_new hp).trans s2).free hq3) e3⟩
structure EndW(k:Nat)(t b x1 x2 y1 y2:Int):Prop where
 x2p:0<x2
 y2p:0<y2
 bx1:Bits k x1
 bx2:Bits k x2
 by1:Bits k y1
 by2:Bits k y2
 lo:x1*b<=t*x2
 hi:t*y2<=y1*b
def mkS(C:Addr)(H:Hp)(Q:VK)(k:Nat)(t b:Int):Prop:=∀(p x y:Addr) (H':Hp) (x1 x2 y1 y2:Int),Same H H'->H' p=some (.tup [.ref x,.ref y])->RA C H' x x1 x2->RA C H' y y1 y2->EndW k t b x1 x2 y1 y2->Q (.ref p) H'
inductive qC(C:Addr)(t b:Int)(vs:List V)(H:Hp)(Q:VK)(E:XK):Prop
 |mk (wd:Addr):vs=[.ref wd]->RA C H wd 1 4->mkS C H Q 2900 t b->qC C t b vs H Q E
theorem xk:(¬("minus":Str)="bottom")/\¬("minus":Str)="top":=⟨by decide +kernel,by decide +kernel⟩
def vA(C:Addr):Sp:=λvs H Q _=>∃(p x y wd:Addr) (t b x1 x2 y1 y2:Int),vs=[.ref p,.ref wd]/\0<b/\H p=some (.tup [.ref x,.ref y])/\RA C H x x1 x2/\RA C H y y1 y2/\EndW 2900 t b x1 x2 y1 y2/\RA C H wd 1 4 /\
 ∀(q z:Addr) (H':Hp) (z1 z2:Int),Same H H'->H q=none->H' q=some (.tup [.ref z,.ref y])->RA C H' z z1 z2->0<z2->Bits 2910 z1->Bits 2910 z2->z1*b<t*z2->Q (.ref q) H'
theorem EH(F:Fun K "set_back" "set_back" mG f fd)(T:Txt K mg)(R:RCI K mg C)(fV:MCal P w K mg base 4 C "minus" ["self","other"] (iu C) pJ pG):FnOk P w K mg base CX0 5 f fd ["span","width"] (vA C):=by
 obtain⟨fc,eK,eY⟩:=fV;refine F.ok Ch (λvs H Q E h=>?_) (λcdv A outer s H vs Q E hr h=>?_)
 ·obtain⟨p,x,y,wd,t,b,x1,x2,y1,y2,rfl,_⟩:=h;rfl
 ·obtain⟨p,x,y,wd,t,b,x1,x2,y1,y2,rfl,hb,hp,hx,hy,he,hw,k⟩:=h;have big:=sizeLine_eq;refine⟨_,(ah (am (dP (aa (bS (ar (aN (K:=K) rfl) (pv 0) ae (λ_ _=>rfl)) R.cl eK fc (hr.mono) eY .nil ad (aa (pv 1) ac)) (aa (ar (aN (K:=K) rfl) (pv 0) ae (λ_ _=>rfl)) ac))))),?_⟩;obtain⟨dx,hx0⟩:=id hx;have b1:Bits 4000 (1:Int):=Bits.mono (j:=1) (by show(1:Int).natAbs<2^1;decide) (by decide);have b4:Bits 4000 (4:Int):=Bits.mono (j:=3) (by show(4:Int).natAbs<2^3;decide) (by decide);refine aA ⟨_,rfl,p,_,_,_,rfl,rfl,SqT.of hp,rfl,x,dx,_,rfl,hx0,cK _ _ xk.1 xk.2,_,rfl,x,wd,x1,x2,1,4,rfl,hx,hw,he.bx1.mono,he.bx2.mono,b1,b4,he.x2p,by decide,λz H1 s1 hz hR=>?_⟩;refine⟨_,rfl,p,_,_,_,rfl,rfl,SqT.of (s1 _ _ hp),rfl,by show 2<=sizeLine;omega,λq hq=>?_⟩;have d0:x2*4≠0:=by have:=he.x2p;omega
  have ec:=ce (t:=x1*4-1*x2) d0;have zp:=bJ (t:=x1*4-1*x2) d0;have bb1:Bits 2910 (rt (x1*4-1*x2) (x2*4)):=cM d0 (Bits.mono (Bits.sub (k:=2904) ((he.bx1.mul (show Bits 3 (4:Int) by show(4:Int).natAbs<2^3;decide)).mono) (((show Bits 1 (1:Int) by show(1:Int).natAbs<2^1;decide).mul he.bx2).mono)) (by decide));have bb2:Bits 2910 (rb (x1*4-1*x2) (x2*4)):=cP d0 ((he.bx2.mul (show Bits 3 (4:Int) by show(4:Int).natAbs<2^3;decide)).mono);generalize rt (x1*4-1*x2) (x2*4)=z1 at *
  generalize rb (x1*4-1*x2) (x2*4)=z2 at *
  refine k q z _ z1 z2 (s1.trans (Same.upd_new hq)) (s1.free hq) ak (hR.same (Same.upd_new hq)) zp bb1 bb2 ?_;have x2p:=he.x2p;have lo:=he.lo
  have key:(z1*b)*(x2*4)<(t*z2)*(x2*4):=by
   have e1:(z1*b)*(x2*4)=(z1*(x2*4))*b:=by grind
   rw[e1,ec];have e2:(x1*4-1*x2)*z2*b=(4*(x1*b)-x2*b)*z2:=by grind
   have e3:t*z2*(x2*4)=4*(t*x2)*z2:=by grind
   rw[e2,e3];refine RE ?_ zp;have:=P5 x2p hb;omega
  exact Rm key (by omega)
theorem KT{t b:Int}(hL:Lin t b){kb:Nat}(hB:isB (([-t,b]:List Int).take (([-t,b]:List Int).length-1)) (bT [-t,b]).natAbs kb):Bits 400 ((2^kb:Nat):Int)/\(0:Int)<((2^kb:Nat):Int)/\(t.natAbs:Int)<=(((2^kb:Nat):Int)-1)*b:=by
 have hll:bT [-t,b]=b:=rfl;have hos:([-t,b]:List Int).take (([-t,b]:List Int).length-1)=[-t]:=rfl;have hb:=hL.1;rw[hll,hos]at hB;have hp:1<=2^kb:=Nat.pow_pos (by decide);have h1:=hB.1 (-t) (by simp);rw[QA]at h1;refine⟨?_,by omega,?_⟩
 ·have hk:kb<=385:=by
   rcases Nat.lt_or_ge kb 386 with h |h
   ·omega
   ·obtain⟨x,hx,h2⟩:=hB.2 385 (by omega);rw[Qc.mp hx,QA]at h2;have h3:t.natAbs<2^380:=hL.2.2.1;have h4:2^380<=2^385-1:=by decide +kernel
    have h5:2^385-1<=(2^385-1)*b.natAbs:=RT _ (by omega);exact absurd h2 (Nat.lt_asymm (Nat.lt_of_lt_of_le h3 (Nat.le_trans h4 h5)))
  show((2^kb:Nat):Int).natAbs<2^400;rw[QH];exact(Q3 (by decide)).mpr (by omega)
 ·have h2:(t.natAbs:Int)<=(((2^kb-1)*b.natAbs:Nat):Int):=Int.ofNat_le.mpr h1;rw[Rs,RH hp]at h2;have h3:(b.natAbs:Int)=b:=by omega
  rw[h3]at h2;exact h2
theorem IS{os:List Int}{l k k':Nat}(h:isB os l k)(h':isB os l k'):k=k':=by
 rcases Nat.lt_trichotomy k k' with z |z |z
 ·obtain⟨x,hx,z'⟩:=h'.2 k z;have:=h.1 x hx;omega
 ·exact z
 ·obtain⟨x,hx,z'⟩:=h.2 k' z;have:=h'.1 x hx;omega
theorem wW{t b z1 z2 y1 y2:Int}(hz:0<z2)(hy:0<y2)(lo:z1*b<t*z2)(hi:t*y2<=y1*b):(chS (sgs z1 z2 [[-t,b],[1]])).1-(chS (sgs y1 y2 [[-t,b],[1]])).1=1:=by
 have hone:∀{u d:Int},0<d->sg (hv u d [1])=1:=λ{u d} hd=>fm (by show(0:Int)<1*d^1+u*0;rw[Qa,Qg];omega)
 have c1:(chS (sgs z1 z2 [[-t,b],[1]])).1=1:=by show(chS [sg (hv z1 z2 [-t,b]),sg (hv z1 z2 [1])]).1=1;rw[hone hz,kf,jh (RK (by omega) hz)];decide
 have c2:(chS (sgs y1 y2 [[-t,b],[1]])).1=0:=by
  show(chS [sg (hv y1 y2 [-t,b]),sg (hv y1 y2 [1])]).1=0;rw[hone hy,kf];rcases Int.lt_or_eq_of_le hi with z |z
  ·rw[fm (P5 (by omega) hy)];decide
  ·rw[show y1*b-t*y2=0 by omega,Ra];decide
 rw[c1,c2];rfl
theorem wv{t b:Int}(hL:Lin t b):∀xs∈([[-t,b],[1]]:List (List Int)),xs.length<=20/\AllB 1000 xs:=λxs hx=>by
 simp only[P8,Qv,or_false]at hx;rcases hx with rfl |rfl
 ·exact⟨by show 2<=20;decide,hL.bits.mono⟩
 ·exact⟨by show 1<=20;decide,λx hx=>by rw[Qc.mp hx];exact Bits.mono (j:=1) (by show(1:Int).natAbs<2^1;decide) (by decide)⟩
def mkB(C CN:Addr)(H:Hp)(Q:VK)(t b:Int):Prop:=∀(x q l h:Addr) (B:Int) (H':Hp),Same H H'->H x=none->NA CN H' x q l h->H' q=some (.lst ([-t,b].map V.int))->Ends2 C H' l h t b B->Q (.ref x) H'
inductive vW(C CN:Addr)(vs:List V)(H:Hp)(Q:VK)(E:XK):Prop
 |mk (a lr f:Addr) (ps:List Addr) (t b:Int):vs=[.ref a,.ref lr,.ref f]->H a=some (.lst ([-t,b].map V.int))->Lin t b->H lr=some (.lst (ps.map V.ref))->RwH H ps [[-t,b],[1]]->mkB C CN H Q t b->vW C CN vs H Q E
theorem Fi(F:Fun K "found_beyond" "found_beyond" nv f fd)(T:Txt K mg)(R:RCI K mg C)(bE:KCal P w K mg base 2 C "Ratio" ["self","top","bottom"] (cy C) dg df di [.int 1])(uI:Cal P w K mg base 1 "bound" ["row"] (qE K) J8 JQ)(ig:Cal P w K mg base 4 "count" ["row","low","high"] (jd C) sW sQ)(No:Cal P w K mg base 1 "middle" ["low","high"] cx Pj Oq)(uE:Cal P w K mg base 37 "number_in" ["simple","low","high"] (qy C CN) J5 JM):FnOk P w K mg base CX0 38 f fd ["simple","chain","beyond"] (vW C CN):=by
 obtain⟨aR,aQ,aP,bX,bQ,bM⟩:=bE;obtain⟨k6,jU,j7,kL⟩:=uI;obtain⟨h7,gG,gL,g6⟩:=ig;obtain⟨Mv,Hd,Ir,Ln⟩:=No;obtain⟨ui,rS,sy,tR⟩:=uE;refine F.ok sc_found_beyond (λvs H Q E h=>?_) (λcdv A outer s H vs Q E hr h=>?_)
 ·obtain⟨a,lr,f',ps,t,b,rfl,_⟩:=h;rfl
 ·obtain⟨a,lr,f',ps,t,b,rfl,hA,hL,el,hR,k⟩:=h;have hb:=hL.1;have b1:Bits 9000 (1:Int):=Bits.mono (j:=1) (by show(1:Int).natAbs<2^1;decide) (by decide)
  refine⟨_,(af (aj (i:=3) sc_found_beyond.nd rfl (Or.inl rfl) (bz aQ aR (hr.mono) rfl aP bQ bM ad (aa (ag k6 (hr.mono) rfl jU j7 kL .nil ad (aa (pv 0) ac)) ac)))
   (af (aj (i:=4) sc_found_beyond.nd rfl (Or.inl rfl) (bz aQ aR (hr.mono) rfl aP bQ bM ad (aa (aU aT (ag k6 (hr.mono) rfl jU j7 kL .nil ad (aa (pv 0) ac))) ac)))
   (af (c9 PassesOwn.never (ax gb (ag h7 (hr.mono) rfl gG gL g6 .nil ad (aa (pv 1) (aa (pv 4) (aa (pv 3) ac)))) ae (aw _))
     (af (aj (i:=5) sc_found_beyond.nd rfl (Or.inl rfl) (ag Mv (hr.mono) rfl Hd Ir Ln .nil ad (aa (pv 4) (aa (pv 3) ac))))
       (ah (aB (cH (qZ (i:=2) (CX:=CX0) (k:=1) (sp:=cx) (E:=E0) (hr.mono) ad (aa (pv 5) ac)))
         (ah (aj (i:=4) sc_found_beyond.nd rfl (Or.inl rfl) (pv 5)))
         (ah (aj (i:=3) sc_found_beyond.nd rfl (Or.inl rfl) (pv 5)))))))
   (ah (am (ag ui (hr.mono) rfl rS sy tR .nil ad (aa (pv 0) (aa (pv 4) (aa (pv 3) ac))))))))),?_⟩
  refine ao ⟨_,rfl,a,[-t,b],rfl,SqL.of hA,hL.tr,by simp,by show 2<=100000;decide,hL.bits.mono,λkb H1 hkb hB1 s1=>?_⟩;obtain⟨bB,hB0,hBt⟩:=KT hL hB1;generalize hBB:((2^kb:Nat):Int)=B at bB hB0 hBt ⊢
  refine cI (t:=B) (b:=1) (by decide) b1 λxh H2 s2 hxh hRh=>?_
  rw[fz,fA]at hRh;have t2:=s1.trans s2;refine ao ⟨_,rfl,a,[-t,b],rfl,SqL.of (t2 _ _ hA),hL.tr,by simp,by show 2<=100000;decide,hL.bits.mono,λkb2 H3 hkb2 hB2 s3=>⟨_,rfl,?_⟩⟩;obtain rfl:=IS hB1 hB2;rw[hBB];refine cI (t := -B) (b:=1) (by decide) b1 λxl H4 s4 hxl hRl=>?_
  rw[fz,fA]at hRl;have t4:=t2.trans (s3.trans s4);have hE4:Ends2 C H4 xl xh t b B:=⟨hRl,hRh.same (s3.trans s4),bB,hB0,hBt⟩;obtain⟨lo,hi⟩:=rW hb hBt
  have lo' : -B*b<t*1:=by have e1:hv (-B) 1 [-t,b]=(-B*b-t*1)*1:=kf _ _ _ _;omega
  have hi':t*1<=B*b:=by have e1:hv B 1 [-t,b]=(B*b-t*1)*1:=kf _ _ _ _;omega
  refine⟨λm σ' H'=>∃z5:Option V,σ'=[some (.ref a),some (.ref lr),some (.ref f'),some (.ref xh),some (.ref xl),z5]/\H4=H',⟨0,none,rfl,rfl⟩,?_⟩;rintro m σ' H' ⟨z5,rfl,rfl⟩;refine⟨_,rfl,_,rfl,_,rfl,lr,xl,xh,ps,[[-t,b],[1]],-B,1,B,1,rfl,t4 _ _ el,hR.same t4,hE4.1,hE4.2.1,bB.neg.mono,Bits.mono (j:=1) (by show(1:Int).natAbs<2^1;decide) (by decide),bB.mono,Bits.mono (j:=1) (by show(1:Int).natAbs<2^1;decide) (by decide),wv hL,by show 2<=1000000;decide,λH5 s5=>?_⟩;rw[wW (by decide) (by decide) lo' hi'];refine⟨_,_,rfl,rfl,_,rfl,cO (λh=>absurd rfl h) (λ_=>?_)⟩;have t5:=t4.trans s5;refine⟨_,rfl,_,rfl,_,rfl,a,xl,xh,t,b,B,rfl,t5 _ _ hA,hL,hE4.same s5,λx q H8 s8 hx hN hq=>?_⟩;exact k x q xl xh B H8 (t5.trans s8) (t5.free hx) hN hq ((hE4.same s5).same s8)
def mkT(TT:List Site)(C CN:Addr)(H:Hp)(Q:VK)(t b:Int):Prop:=∀(x q l h:Addr) (B:Int) (H':Hp),SameT H H'->TabsOk TT H'->NA CN H' x q l h->H' q=some (.lst ([-t,b].map V.int))->Ends2 C H' l h t b B->Q (.ref x) H'
inductive lN(P:Program)(w:World)(K:PySem.W.Frag)(mg:Str->Option Value)(base:Heap)(C CN:Addr)(TT:List Site)(vs:List V)(H:Hp)(Q:VK)(E:XK):Prop
 |mk (a f:Addr) (t b:Int):vs=[.ref a,.ref f]->H a=some (.lst ([-t,b].map V.int))->Lin t b->TabsOk TT H->FnV K H f->CloOk P w K mg base CX0 20 f (qC C t b) H->mkT TT C CN H Q t b->lN P w K mg base C CN TT vs H Q E
theorem NA.era{CN:Addr}{H:Hp}{cs:List Addr}{x q l h:Addr}(hx:∀c∈cs,∃o,H c=some (ay c o))(e:NA CN H x q l h):NA CN (era cs H) x q l h:=by obtain⟨dx,e⟩:=e;exact⟨dx,gm hx e (λφ z=>by cases z)⟩
theorem RA.era{C:Addr}{H:Hp}{cs:List Addr}{x:Addr}{t b:Int}(hx:∀c∈cs,∃o,H c=some (ay c o))(e:RA C H x t b):RA C (era cs H) x t b:=by obtain⟨dx,e⟩:=e;exact⟨dx,gm hx e (λφ z=>by cases z)⟩
theorem Ends2.era{C:Addr}{H:Hp}{cs:List Addr}{l h:Addr}{t b B:Int}(hx:∀c∈cs,∃o,H c=some (ay c o))(e:Ends2 C H l h t b B):Ends2 C (era cs H) l h t b B:=⟨RA.era hx e.1,RA.era hx e.2.1,e.2.2⟩
theorem RA.sameT{C:Addr}{H H':Hp}{x:Addr}{t b:Int}(e:RA C H x t b)(s:SameT H H'):RA C H' x t b:=by obtain⟨dx,e⟩:=e;exact⟨dx,s.at e (λps z=>by cases z)⟩
theorem RwH.sameT{H H':Hp}{ps:List Addr}{xss:List (List Int)}(h:RwH H ps xss)(s:SameT H H'):RwH H' ps xss:=⟨h.1,λi p xs e1 e2=>s.at (h.2 i p xs e1 e2) (λps z=>by cases z)⟩
theorem gs{l:List (Addr×Obj)}{H:Hp}(h:∀p∈l,H p.1=some (ay p.1 p.2)):∀c∈l.map (·.1),∃o,H c=some (ay c o):=λc hc=>by obtain⟨p,hp,rfl⟩:=P4.mp hc;exact⟨_,h p hp⟩
theorem Fj{C CN c f:Addr}{fd:FuncData}{TT:List Site}{q:Site}(F:FunL K "found_between" "found_between" nw c f fd)(T:Txt K mg)(R:RCI K mg C)(LA:LamAt TT mg base c q ⟨497,39,497,80⟩ "found_between")(uA:Cal P w K mg base 1 "refuse_great" ["row"] qu J0 JI)(lf:Cal P w K mg base 35 "row_of" ["polynomial"] lK yU yJ)(bE:KCal P w K mg base 2 C "Ratio" ["self","top","bottom"] (cy C) dg df di [.int 1])(Na:Cal P w K mg base 5 "set_back" ["span","width"] (vA C) O6 Oc)(ig:Cal P w K mg base 4 "count" ["row","low","high"] (jd C) sW sQ)(ii:MCal P w K mg base 4 C "times" ["self","other"] (i9 C) sX sR)(Nw:Cal P w K mg base 38 "found_beyond" ["simple","chain","beyond"] (vW C CN) Pq Oy):FnOk P w K mg base CX0 39 f fd ["simple","ends"] (lN P w K mg base C CN TT):=by
 obtain⟨ue,rO,su,tN⟩:=uA;obtain⟨kS,jN,j0,kD⟩:=lf;obtain⟨aR,aQ,aP,bX,bQ,bM⟩:=bE;obtain⟨Ai,xE,ya,zN⟩:=Na;obtain⟨h7,gG,gL,g6⟩:=ig;obtain⟨fb,eJ,eX⟩:=ii;obtain⟨MD,Hk,IA,Lv⟩:=Nw;refine F.ok sc_found_between (λvs H Q E h=>?_) (λA outer s H vs Q E hr h=>?_)
 ·obtain⟨a,f',t,b,rfl,_⟩:=h;rfl
 ·obtain⟨a,f',t,b,rfl,hA,hL,hTb,hF,hC,k⟩:=h;have hb:=hL.1;have b1:Bits 1 (1:Int):=by show(1:Int).natAbs<2^1;decide
  have b4:Bits 3 (4:Int):=by show(4:Int).natAbs<2^3;decide
  refine⟨_,(af (eD (ag ue (hr.mono) rfl rO su tN .nil ad (aa (pv 0) ac)))
   (af (aj (i:=2) sc_found_between.nd rfl (Or.inr rfl) (ag kS (hr.mono) rfl jN j0 kD .nil ad (aa (pv 0) ac)))
   (af (aj (i:=3) sc_found_between.nd rfl (Or.inl rfl) (bz aQ aR (hr.mono) rfl aP bX .nil ad (aa ae (aa ae ac))))
   (af (aj (i:=4) sc_found_between.nd rfl (Or.inr rfl) (ag Ai (hr.mono) rfl xE ya zN .nil ad (aa (qZ (i:=1) (CX:=CX0) (k:=20) (sp:=qC C t b) (E:=E0) (hr.mono) ad (aa (pv 3) ac)) (aa (pv 3) ac))))
   (af (c9 PassesOwn.never (ax gb (ag h7 (hr.mono) rfl gG gL g6 .nil ad (aa (pv 2) (aa (ar (aN (K:=K) rfl) (pv 4) ae (λ_ _=>rfl)) (aa (ar (aN (K:=K) rfl) (pv 4) ae (λ_ _=>rfl)) ac)))) ae (aw _))
     (af (aj (i:=3) sc_found_between.nd rfl (Or.inl rfl) (bS (pv 3) R.cl eJ fb (hr.mono) eX .nil ad (aa (pv 3) ac)))
       (ah (aj (i:=4) sc_found_between.nd rfl (Or.inr rfl) (ag Ai (hr.mono) rfl xE ya zN .nil ad (aa (qZ (i:=1) (CX:=CX0) (k:=20) (sp:=qC C t b) (E:=E0) (hr.mono) ad (aa (pv 3) ac)) (aa (pv 3) ac)))))))
   (ah (am (jz (cl:=[("span",_),("chain",_)]) (js:=[4,2]) MD (hr.mono) rfl Hk IA Lv .nil (jB (E:=E0)) ⟨rfl,rfl,rfl,rfl,rfl,rfl,rfl,rfl,trivial⟩ (aa (pv 0) (aa (pv 2) (aa (jy (clos:=[("span",_),("chain",_)]) LA.lb LA.cd rfl LA.mem LA.dis LA.ps LA.nm (by rfl)) ac))))))))))),?_⟩
  refine eC ⟨_,rfl,a,[-t,b],rfl,hA,by show 2<=1000;decide,hL.bits.mono,λH1 s1=>?_⟩;have hA1:=s1 _ _ hA;obtain⟨hrun,hrow⟩:=ww (f := -t) (c:=b) (by omega) (hL.bits.mono);refine ao ⟨_,rfl,a,[-t,b],2,rfl,hA1,hL.tr,hL.bits.mono,by show 2<=1000;decide,by decide,hrun,λlr ps H2 s2 hl1 hnew el hR=>?_⟩;have hg:Nat.gcd (-t).natAbs b.natAbs=1:=by rw[QA];exact hL.2.1
  have hsb:sg b=1:=fm hb;rw[hrow,hg,hsb]at hR
  have ed:([[-t/((1:Nat):Int),b/((1:Nat):Int)],[1]]:List (List Int))=[[-t,b],[1]]:=by rw[show((1:Nat):Int)=1 from rfl,Rr,Rr]
  rw[ed]at hR;have t2:=s1.trans s2;refine ao (cI (t:=1) (b:=4) (by decide) (b4.mono) λwd H3 s3 hwd hRw=>?_);have e14:rt 1 4=1/\rb 1 4=4:=by constructor<;>decide
  rw[e14.1,e14.2]at hRw;have t3:=t2.trans s3;have hF3:=hF.sameT t3.t;refine ao ⟨f',rfl,hF3,_,rfl,iA ⟨hF3,hC.sameT t3.t,wd,rfl,hRw,λp x y H4 x1 x2 y1 y2 s4 ep hx hy he=>?_⟩⟩;refine⟨_,rfl,p,x,y,wd,t,b,x1,x2,y1,y2,rfl,hb,ep,hx,hy,he,hRw.same s4,λp' z H5 z1 z2 s5 hp' ep' hz zp bz1 bz2 lz=>?_⟩;have t5:=t3.trans (s4.trans s5);have u5:=s3.trans (s4.trans s5);have hy5:=hy.same s5;refine⟨λm σ' H'=>∃z5:Option V,σ'=[some (.ref a),some (.ref f'),some (.ref lr),some (.ref wd),some (.ref p')]/\H5=H',⟨0,none,rfl,rfl⟩,?_⟩;rintro m σ' H' ⟨z5,rfl,rfl⟩;refine⟨_,rfl,_,rfl,p',_,_,_,rfl,rfl,SqT.of ep',rfl,_,rfl,p',_,_,_,rfl,rfl,SqT.of ep',rfl,lr,z,y,ps,[[-t,b],[1]],z1,z2,y1,y2,rfl,u5 _ _ el,hR.same u5,hz,hy5,bz1.mono,bz2.mono,he.by1.mono,he.by2.mono,wv hL,by show 2<=1000000;decide,λH6 s6=>?_⟩;rw[wW zp he.y2p lz he.hi];refine⟨_,_,rfl,rfl,_,rfl,cO (λh=>absurd rfl h) (λ_=>?_)⟩;have t6:=t5.trans s6;have u6:=u5.trans s6;refine⟨_,rfl,_,rfl,hTb.same t6,λfl H7 s7 hfl hT7 hCl=>iA ⟨?_,λl hcl hln hlt=>?_⟩⟩
  ·intro j hj;simp only[P8,Qv,or_false]at hj;rcases hj with rfl |rfl
   ·exact⟨_,rfl⟩
   ·exact⟨_,rfl⟩
  have stl:=jk hln;have v7:=(t6.t.trans s7).trans stl;have w7:=(u6.t.trans s7).trans stl;refine⟨a,lr,fl,ps,t,b,rfl,v7.at hA (λps z=>by cases z),hL,w7.at el (λps z=>by cases z),hR.sameT w7,λx qq ll hh B H8 s8 hx hN hq hE=>⟨qf hlt s8,?_⟩⟩;have cc:=gs (qf hlt s8);exact k x qq ll hh B _ ((t6.t.trans s7).trans (CU hln s8).t) (i6 ((hT7.same (fY hln)).same s8) (qf hlt s8) (kx hcl)) (NA.era cc hN) (gm cc hq (λφ z=>by cases z)) (Ends2.era cc hE)
theorem Dr{Q:Hp->Prop}{H1 H2:Hp}(e:H1=H2)(h:Q H2):Q H1:=by rw[e];exact h
noncomputable def rq(t b:Int):Rat:=(t:Rat)/(b:Rat)
theorem gN{b:Int}(h:0<b):(0:Rat)<(b:Rat):=Rat.intCast_lt_intCast.mpr h
theorem fZ{t b:Int}(h:0<b):rq t b*(b:Rat)=(t:Rat):=Rat.div_mul_cancel (Rat.ne_of_gt (gN h))
theorem dB{t b u d:Int}(hb:0<b)(hd:0<d):t*d<=u*b↔rq t b<=rq u d:=by
 have e1:=fZ (t:=t) hb;have e2:=fZ (t:=u) hd;have p1:=gN hb;have p2:=gN hd;have p:=Rat.mul_pos p1 p2;constructor
 ·intro h;have h':=Rat.intCast_le_intCast.mpr h;rw[Q5,Q5,<- e1,<- e2]at h';refine Rat.not_lt.mp λz=>?_
  have:=Rat.mul_lt_mul_of_pos_right z p;grind
 ·intro h;refine Int.not_lt.mp λz=>?_
  have z':=Rat.intCast_lt_intCast.mpr z;rw[Q5,Q5,<- e1,<- e2]at z';have:=RV h (Rat.le_of_lt p);grind
theorem Dc{t b u d:Int}(hb:0<b)(hd:0<d)(e:t*d=u*b):rq t b=rq u d :=
 Rat.le_antisymm ((dB hb hd).mp (by omega)) ((dB hd hb).mp (by omega))
theorem iz{N D:Int}(hD:0<D):rq (rt N D) (rb N D)=rq N D:=Dc (bJ (P9 hD)) hD (ce (P9 hD))
theorem qK{t b u d:Int}(hb:0<b)(hd:0<d):rq (t*d+u*b) (b*d)=rq t b+rq u d:=by
 have e1:=fZ (t:=t) hb;have e2:=fZ (t:=u) hd;have e3:=fZ (t:=t*d+u*b) (P5 hb hd);have p1:=gN hb;have p2:=gN hd;have p:=Rat.mul_pos p1 p2;rw[Rat.intCast_add,Q5,Q5,Q5,<- e1,<- e2]at e3;generalize rq (t*d+u*b) (b*d)=z at *
 generalize rq t b=x at *
 generalize rq u d=y at *
 have:((b:Rat)*(d:Rat))*(z-(x+y))=0:=by grind
 rcases Rat.mul_eq_zero.mp this with q |q
 ·grind
 ·grind
theorem jo{t b u d:Int}(hb:0<b)(hd:0<d):rq (t*u) (b*d)=rq t b*rq u d:=by
 have e1:=fZ (t:=t) hb;have e2:=fZ (t:=u) hd;have e3:=fZ (t:=t*u) (P5 hb hd);have p:=Rat.mul_pos (gN hb) (gN hd);rw[Q5,Q5,<- e1,<- e2]at e3;generalize rq (t*u) (b*d)=z at *
 generalize rq t b=x at *
 generalize rq u d=y at *
 have:((b:Rat)*(d:Rat))*(z-x*y)=0:=by grind
 rcases Rat.mul_eq_zero.mp this with q |q
 ·grind
 ·grind
theorem wN{x y x' y' a a' m:Rat}(h1:x<=a)(h2:a<=y)(h3:x'<=a')(h4:a'<=y')(c1:x*x'<=m)(c2:x*y'<=m)(c3:y*x'<=m)(c4:y*y'<=m):a*a'<=m:=by
 have up:∀z:Rat,z*x'<=m->z*y'<=m->z*a'<=m:=λz d1 d2=>by
  rcases Rat.le_total (a:=0) (b:=z)with q |q
  ·have:=Rat.mul_le_mul_of_nonneg_left h4 q;grind
  ·have:=Rat.mul_le_mul_of_nonneg_left h3 (show(0:Rat) <= -z by grind);grind
 have u1:=up x c1 c2;have u2:=up y c3 c4;rcases Rat.le_total (a:=0) (b:=a')with q |q
 ·have:=RV h2 q;grind
 ·have:=RV h1 (show(0:Rat) <= -a' by grind);grind
theorem DL{x y x' y' a a' m:Rat}(h1:x<=a)(h2:a<=y)(h3:x'<=a')(h4:a'<=y')(c1:m<=x*x')(c2:m<=x*y')(c3:m<=y*x')(c4:m<=y*y'):m<=a*a':=by have:=wN (x := -y) (y := -x) (x':=x') (y':=y') (a := -a) (a':=a') (m := -m) (by grind) (by grind) h3 h4 (by grind) (by grind) (by grind) (by grind);grind
theorem EndW.q{k:Nat}{t b x1 x2 y1 y2:Int}(h:EndW k t b x1 x2 y1 y2)(hb:0<b):rq x1 x2<=rq t b/\rq t b<=rq y1 y2:=⟨(dB h.x2p hb).mp h.lo,(dB hb h.y2p).mp h.hi⟩
theorem EndsK.toW{k:Nat}{t b l1 l2 h1 h2:Int}(e:EndsK k t b l1 l2 h1 h2):EndW k t b l1 l2 h1 h2:=⟨e.l2p,e.h2p,e.bl1,e.bl2,e.bh1,e.bh2,Qo e.lo,e.hi⟩
theorem EndW.mono{j k:Nat}{t b x1 x2 y1 y2:Int}(e:EndW j t b x1 x2 y1 y2)(h:j<=k:=by decide):EndW k t b x1 x2 y1 y2:=⟨e.x2p,e.y2p,e.bx1.mono h,e.bx2.mono h,e.by1.mono h,e.by2.mono h,e.lo,e.hi⟩
structure SpW(C:Addr)(H:Hp)(p x y:Addr)(k:Nat)(t b x1 x2 y1 y2:Int):Prop where
 tup:H p=some (.tup [.ref x,.ref y])
 rx:RA C H x x1 x2
 ry:RA C H y y1 y2
 en:EndW k t b x1 x2 y1 y2
theorem SpW.same{C:Addr}{H H':Hp}{p x y:Addr}{k:Nat}{t b x1 x2 y1 y2:Int}(h:SpW C H p x y k t b x1 x2 y1 y2)(s:Same H H'):SpW C H' p x y k t b x1 x2 y1 y2:=⟨s _ _ h.tup,h.rx.same s,h.ry.same s,h.en⟩
theorem oU:(¬("plus":Str)="bottom")/\¬("plus":Str)="top":=⟨by decide +kernel,by decide +kernel⟩
inductive vt(C:Addr)(vs:List V)(H:Hp)(Q:VK)(E:XK):Prop
 |mk (p q x y x' y':Addr) (k j:Nat) (t b t' b' x1 x2 y1 y2 p1 p2 q1 q2 N D:Int):vs=[.ref p,.ref q]->SpW C H p x y k t b x1 x2 y1 y2->SpW C H q x' y' j t' b' p1 p2 q1 q2->0<b->0<b'->0<D->k+j<=2800->rq N D=rq t b+rq t' b'->mkS C H Q 2900 N D->vt C vs H Q E
theorem Ev(F:Fun K "span_sum" "span_sum" mq f fd)(T:Txt K mg)(R:RCI K mg C)(uL:MCal P w K mg base 4 C "plus" ["self","other"] (qv C) Kb JT):FnOk P w K mg base CX0 5 f fd ["first","second"] (vt C):=by
 obtain⟨pX,oZ,pU⟩:=uL;refine F.ok Cc (λvs H Q E h=>?_) (λcdv A outer s H vs Q E hr h=>?_)
 ·obtain⟨p,q,x,y,x',y',k,j,t,b,t',b',x1,x2,y1,y2,p1,p2,q1,q2,N,D,rfl,_⟩:=h;rfl
 ·obtain⟨p,q,x,y,x',y',kk,j,t,b,t',b',x1,x2,y1,y2,p1,p2,q1,q2,N,D,rfl,h1,h2,hb,hb',hD,hkj,hN,k⟩:=h;have big:=sizeLine_eq;refine⟨_,(ah (am (dP (aa (bS (ar (aN (K:=K) rfl) (pv 0) ae (λ_ _=>rfl)) R.cl oZ pX (hr.mono) pU .nil ad (aa (ar (aN (K:=K) rfl) (pv 1) ae (λ_ _=>rfl)) ac)) (aa (bS (ar (aN (K:=K) rfl) (pv 0) ae (λ_ _=>rfl)) R.cl oZ pX (hr.mono) pU .nil ad (aa (ar (aN (K:=K) rfl) (pv 1) ae (λ_ _=>rfl)) ac)) ac))))),?_⟩;have e1:=h1.en;have e2:=h2.en;obtain⟨dx,hx0⟩:=id h1.rx;refine aA ⟨_,rfl,p,_,_,_,rfl,rfl,SqT.of h1.tup,rfl,x,dx,_,rfl,hx0,cK _ _ oU.1 oU.2,_,rfl,q,_,_,_,rfl,rfl,SqT.of h2.tup,rfl,x,x',x1,x2,p1,p2,rfl,h1.rx,h2.rx,e1.bx1.mono (by omega),e1.bx2.mono (by omega),e2.bx1.mono (by omega),e2.bx2.mono (by omega),e1.x2p,e2.x2p,λu H1 s1 hu hRu=>?_⟩;have h1':=h1.same s1;have h2':=h2.same s1;obtain⟨dy,hy0⟩:=id h1'.ry;refine⟨_,rfl,p,_,_,_,rfl,rfl,SqT.of h1'.tup,rfl,y,dy,_,rfl,hy0,cK _ _ oU.1 oU.2,_,rfl,q,_,_,_,rfl,rfl,SqT.of h2'.tup,rfl,y,y',y1,y2,q1,q2,rfl,h1'.ry,h2'.ry,e1.by1.mono (by omega),e1.by2.mono (by omega),e2.by1.mono (by omega),e2.by2.mono (by omega),e1.y2p,e2.y2p,λv H2 s2 hv hRv=>?_⟩;refine⟨by show 2<=sizeLine;omega,λr hr'=>?_⟩;have dX:=P5 e1.x2p e2.x2p;have dY:=P5 e1.y2p e2.y2p;have g1:=e1.q hb;have g2:=e2.q hb';have b2:∀{a c d e:Int} {m n:Nat},Bits m a->Bits n c->Bits n d->Bits m e->m+n<=2800->Bits 2900 (a*c+d*e):=λ{a c d e m n} ha hc hd he h=>Bits.mono (Bits.add (k:=2800) ((ha.mul hc).mono h) ((hd.mul he).mono (by omega))) (by decide)
  refine k r u v _ _ _ _ _ ((s1.trans s2).trans (Same.upd_new hr')) ak ((hRu.same s2).same (Same.upd_new hr')) (hRv.same (Same.upd_new hr')) ⟨bJ (P9 dX),bJ (P9 dY),cM (P9 dX) (b2 e1.bx1 e2.bx2 e2.bx1 e1.bx2 hkj),cP (P9 dX) ((e1.bx2.mul e2.bx2).mono (by omega)),cM (P9 dY) (b2 e1.by1 e2.by2 e2.by1 e1.by2 hkj),cP (P9 dY) ((e1.by2.mul e2.by2).mono (by omega)),?_,?_⟩
  ·refine(dB (bJ (P9 dX)) hD).mpr ?_;rw[iz dX,qK e1.x2p e2.x2p,hN];grind
  ·refine(dB hD (bJ (P9 dY))).mpr ?_;rw[iz dY,qK e1.y2p e2.y2p,hN];grind
structure RqH(C:Addr)(H:Hp)(r:Addr)(k:Nat)(t b:Int)(v:Rat):Prop where
 ra:RA C H r t b
 bp:0<b
 bt:Bits k t
 bb:Bits k b
 vl:rq t b=v
theorem RqH.same{C:Addr}{H H':Hp}{r:Addr}{k:Nat}{t b:Int}{v:Rat}(h:RqH C H r k t b v)(s:Same H H'):RqH C H' r k t b v:=⟨h.ra.same s,h.bp,h.bt,h.bb,h.vl⟩
theorem om{C:Addr}{H:Hp}{r:Addr}{k j:Nat}{t b u d:Int}(hb:0<b)(hd:0<d)(bt:Bits k t)(bb:Bits k b)(bu:Bits j u)(bd:Bits j d)(h:RA C H r (rt (t*u) (b*d)) (rb (t*u) (b*d))):RqH C H r (k+j) (rt (t*u) (b*d)) (rb (t*u) (b*d)) (rq t b*rq u d) :=
 ⟨h,bJ (P9 (P5 hb hd)),cM (P9 (P5 hb hd)) (bt.mul bu),cP (P9 (P5 hb hd)) (bb.mul bd),by rw[iz (P5 hb hd),jo hb hd]⟩
theorem wt{t b u d:Int}(hb:0<b)(hd:0<d):(sg (t*d-u*b)<0↔rq t b<rq u d)/\(0<sg (t*d-u*b)↔rq u d<rq t b):=by have h1:=dB (t:=t) (u:=u) hb hd;have h2:=dB (t:=u) (u:=t) hd hb;rw[<- Rat.not_le,<- Rat.not_le,<- h1,<- h2];rcases fu (t*d-u*b)with⟨a1,a2⟩ |⟨a1,a2⟩ |⟨a1,a2⟩<;>rw[a2]<;>omega
theorem ge:(¬("times":Str)="bottom")/\¬("times":Str)="top":=⟨by decide +kernel,by decide +kernel⟩
inductive qo(C:Addr)(vs:List V)(H:Hp)(Q:VK)(E:XK):Prop
 |mk (p q x y x' y':Addr) (k j:Nat) (t b t' b' x1 x2 y1 y2 p1 p2 q1 q2 N D:Int):vs=[.ref p,.ref q]->SpW C H p x y k t b x1 x2 y1 y2->SpW C H q x' y' j t' b' p1 p2 q1 q2->0<b->0<b'->0<D->k+j<=2800->rq N D=rq t b*rq t' b'->mkS C H Q (k+j) N D->qo C vs H Q E
theorem Ew(F:Fun K "span_product" "span_product" mr f fd)(T:Txt K mg)(R:RCI K mg C)(ii:MCal P w K mg base 4 C "times" ["self","other"] (i9 C) sX sR)(lx:MCal P w K mg base 2 C "against" ["self","other"] (lR C) y4 yR):FnOk P w K mg base CX0 5 f fd ["first","second"] (qo C):=by
 obtain⟨fb,eJ,eX⟩:=ii;obtain⟨ia,gC,hG⟩:=lx;refine F.ok sc_span_product (λvs H Q E h=>?_) (λcdv A outer s H vs Q E hr h=>?_)
 ·obtain⟨p,q,x,y,x',y',k,j,t,b,t',b',x1,x2,y1,y2,p1,p2,q1,q2,N,D,rfl,_⟩:=h;rfl
 ·obtain⟨p,q,x,y,x',y',kk,j,t,b,t',b',x1,x2,y1,y2,p1,p2,q1,q2,N,D,rfl,h,h',hb,hb',hD,hkj,hN,k⟩:=h;have big:=sizeLine_eq
  refine⟨_,(af (aj (i:=2) sc_span_product.nd rfl (Or.inl rfl) (bS (ar (aN (K:=K) rfl) (pv 0) ae (λ_ _=>rfl)) R.cl eJ fb (hr.mono) eX .nil ad (aa (ar (aN (K:=K) rfl) (pv 1) ae (λ_ _=>rfl)) ac)))
   (af (aj (i:=3) sc_span_product.nd rfl (Or.inl rfl) (pv 2))
   (af (cg PassesOwn.never rfl (DV (K:=K) rfl (dP (aa (bS (ar (aN (K:=K) rfl) (pv 0) ae (λ_ _=>rfl)) R.cl eJ fb (hr.mono) eX .nil ad (aa (ar (aN (K:=K) rfl) (pv 1) ae (λ_ _=>rfl)) ac)) (aa (bS (ar (aN (K:=K) rfl) (pv 0) ae (λ_ _=>rfl)) R.cl eJ fb (hr.mono) eX .nil ad (aa (ar (aN (K:=K) rfl) (pv 1) ae (λ_ _=>rfl)) ac)) (aa (bS (ar (aN (K:=K) rfl) (pv 0) ae (λ_ _=>rfl)) R.cl eJ fb (hr.mono) eX .nil ad (aa (ar (aN (K:=K) rfl) (pv 1) ae (λ_ _=>rfl)) ac)) ac))))) (aJ (i:=4) sc_span_product.nd rfl (Or.inl rfl))
     (af (aB (ax dF (bS (pv 4) R.cl gC ia (hr.mono) hG .nil ad (aa (pv 2) ac)) ae (aw _))
       (ah (aj (i:=2) sc_span_product.nd rfl (Or.inl rfl) (pv 4)))
       aC)
       (ah (aB (ax fB (bS (pv 4) R.cl gC ia (hr.mono) hG .nil ad (aa (pv 3) ac)) ae (aw _))
         (ah (aj (i:=3) sc_span_product.nd rfl (Or.inl rfl) (pv 4)))
         aC))))
   (ah (am (dP (aa (pv 2) (aa (pv 3) ac)))))))),?_⟩
  have e1:=h.en;have e2:=h'.en;obtain⟨dx,hx0⟩:=id h.rx;refine ao ⟨_,rfl,p,_,_,_,rfl,rfl,SqT.of h.tup,rfl,x,dx,_,rfl,hx0,cK _ _ ge.1 ge.2,_,rfl,q,_,_,_,rfl,rfl,SqT.of h'.tup,rfl,x,x',x1,x2,p1,p2,rfl,h.rx,h'.rx,e1.bx1.mono (by omega),e1.bx2.mono (by omega),e2.bx1.mono (by omega),e2.bx2.mono (by omega),e1.x2p,e2.x2p,λr0 H1 s1 hr0 hR0=>?_⟩;have P0:=om e1.x2p e2.x2p e1.bx1 e1.bx2 e2.bx1 e2.bx2 hR0;refine ao ⟨_,rfl,?_⟩;have h1:=h.same s1;have h1':=h'.same s1;obtain⟨dx1,hx1⟩:=id h1.rx;refine⟨_,rfl,p,_,_,_,rfl,rfl,SqT.of h1.tup,rfl,x,dx1,_,rfl,hx1,cK _ _ ge.1 ge.2,_,rfl,q,_,_,_,rfl,rfl,SqT.of h1'.tup,rfl,x,y',x1,x2,q1,q2,rfl,h1.rx,h1'.ry,e1.bx1.mono (by omega),e1.bx2.mono (by omega),e2.by1.mono (by omega),e2.by2.mono (by omega),e1.x2p,e2.y2p,λr1 H2 s2 hr1 hR1=>?_⟩;have P1:=om e1.x2p e2.y2p e1.bx1 e1.bx2 e2.by1 e2.by2 hR1;have h2:=h1.same s2;have h2':=h1'.same s2;obtain⟨dy2,hy2⟩:=id h2.ry;refine⟨_,rfl,p,_,_,_,rfl,rfl,SqT.of h2.tup,rfl,y,dy2,_,rfl,hy2,cK _ _ ge.1 ge.2,_,rfl,q,_,_,_,rfl,rfl,SqT.of h2'.tup,rfl,y,x',y1,y2,p1,p2,rfl,h2.ry,h2'.rx,e1.by1.mono (by omega),e1.by2.mono (by omega),e2.bx1.mono (by omega),e2.bx2.mono (by omega),e1.y2p,e2.x2p,λr2 H3 s3 hr2 hR2=>?_⟩;have P2:=om e1.y2p e2.x2p e1.by1 e1.by2 e2.bx1 e2.bx2 hR2;have h3:=h2.same s3;have h3':=h2'.same s3;obtain⟨dy3,hy3⟩:=id h3.ry;refine⟨_,rfl,p,_,_,_,rfl,rfl,SqT.of h3.tup,rfl,y,dy3,_,rfl,hy3,cK _ _ ge.1 ge.2,_,rfl,q,_,_,_,rfl,rfl,SqT.of h3'.tup,rfl,y,y',y1,y2,q1,q2,rfl,h3.ry,h3'.ry,e1.by1.mono (by omega),e1.by2.mono (by omega),e2.by1.mono (by omega),e2.by2.mono (by omega),e1.y2p,e2.y2p,λr3 H4 s4 hr3 hR3=>⟨by show 3<=sizeLine;omega,λpt hpt=>?_⟩⟩;have P3:=om e1.y2p e2.y2p e1.by1 e1.by2 e2.by1 e2.by2 hR3;have s5:Same H4 (upd H4 pt (.tup [V.ref r1,V.ref r2,V.ref r3])):=Same.upd_new hpt;have q5:upd H4 pt (.tup [V.ref r1,V.ref r2,V.ref r3]) pt=some (.tup [V.ref r1,V.ref r2,V.ref r3]):=ak;refine Dr (H2:=upd H4 pt (.tup [V.ref r1,V.ref r2,V.ref r3])) rfl ?_;generalize upd H4 pt (.tup [V.ref r1,V.ref r2,V.ref r3])=H5 at s5 q5 ⊢
  have A0:=(P0.same s2).same (s3.trans (s4.trans s5));have A1:=P1.same (s3.trans (s4.trans s5));have A2:=P2.same (s4.trans s5);have A3:=P3.same s5;have t5:=(s1.trans s2).trans (s3.trans (s4.trans s5));clear P0 P1 P2 P3 hR0 hR1 hR2 hR3;have g1:=e1.q hb;have g2:=e2.q hb'
  have get:∀(i:Nat) (z:V),[V.ref r1,V.ref r2,V.ref r3][i]?=some z->∃(r:Addr) (t b:Int) (v:Rat),z=.ref r/\RqH C H5 r (kk+j) t b v/\[rq x1 x2*rq q1 q2,rq y1 y2*rq p1 p2,rq y1 y2*rq q1 q2][i]?=some v:=λi z hz=>by
   match i,hz with
   |0,hz=>exact⟨r1,_,_,_,(Option.some.inj hz).symm,A1,rfl⟩
   |1,hz=>exact⟨r2,_,_,_,(Option.some.inj hz).symm,A2,rfl⟩
   |2,hz=>exact⟨r3,_,_,_,(Option.some.inj hz).symm,A3,rfl⟩
  generalize hV:[rq x1 x2*rq q1 q2,rq y1 y2*rq p1 p2,rq y1 y2*rq q1 q2]=W at get
  refine⟨pt,rfl,⟨_,SqT.of q5⟩,Jx (K:=K) (a:=pt) (xs:=[V.ref r1,V.ref r2,V.ref r3]) (λi σ' H'=>∃(lo g:Addr) (l1 l2 g1 g2:Int) (vo vg:Rat) (z4:Option V),σ'=[some (.ref p),some (.ref q),some (.ref lo),some (.ref g),z4]/\H5=H'/\RqH C H5 lo (kk+j) l1 l2 vo/\RqH C H5 g (kk+j) g1 g2 vg/\∀v∈rq x1 x2*rq p1 p2::W.take i,vo<=v/\v<=vg)
   ⟨r0,r0,_,_,_,_,_,_,none,rfl,rfl,A0,A0,λv hv=>by rw[List.take_zero]at hv;rw[Qc.mp hv];exact⟨Rat.le_refl,Rat.le_refl⟩⟩ ?_ ?_ ?_⟩
  ·rintro i σ' H' _ ⟨lo,g,l1,l2,g1,g2,vo,vg,z4,rfl,rfl,_⟩;exact SqT.of q5
  ·rintro i z σ' H' hi ⟨lo,g,l1,l2,g1,g2,vo,vg,z4,rfl,rfl,B0,B1,hall⟩;obtain⟨r,rt',rb',v,rfl,Br,ev⟩:=get i z hi;obtain⟨dr,hr0'⟩:=id Br.ra;have s0:=wt (t:=rt') (b:=rb') (u:=l1) (d:=l2) Br.bp B0.bp;have sG:=wt (t:=rt') (b:=rb') (u:=g1) (d:=g2) Br.bp B1.bp;rw[Br.vl,B0.vl]at s0;rw[Br.vl,B1.vl]at sG;have tk:W.take (i+1)=W.take i++[v]:=by rw[QE,ev];rfl
   have kk9:kk+j<=100000:=by omega
   show ci _ _ _ _ _;refine iB (λσ' H'=>∃(lo:Addr) (l1 l2:Int) (vo:Rat),σ'=[some (.ref p),some (.ref q),some (.ref lo),some (.ref g),some (.ref r)]/\H5=H'/\RqH C H5 lo (kk+j) l1 l2 vo/\(∀v∈rq x1 x2*rq p1 p2::W.take i,vo<=v)/\vo<=v) ?_ ?_
   case refine_2 =>
    intro rest;refine⟨_,rfl,r,dr,_,rfl,hr0',cK _ _ eG.1 eG.2,_,rfl,r,lo,rt',rb',l1,l2,rfl,Br.ra,B0.ra,Br.bt.mono kk9,Br.bb.mono kk9,B0.bt.mono kk9,B0.bb.mono kk9,_,_,rfl,rfl,_,rfl,aG (λhlt=>?_) (λhge=>?_)⟩
    ·have hl:=s0.1.mp hlt;exact cz ⟨_,rfl,rest _ _ ⟨r,_,_,v,rfl,rfl,Br,λu hu=>Rat.le_trans (Rat.le_of_lt hl) (hall u hu).1,Rat.le_refl⟩⟩
    ·have hl:vo<=v:=Rat.not_lt.mp λz=>hge (s0.1.mpr z)
     exact rest _ _ ⟨lo,_,_,vo,rfl,rfl,B0,λu hu=>(hall u hu).1,hl⟩
   rintro σ' H' ⟨lo',l1',l2',vo',rfl,rfl,C0,c1,c2⟩;refine⟨_,rfl,r,dr,_,rfl,hr0',cK _ _ eG.1 eG.2,_,rfl,r,g,rt',rb',g1,g2,rfl,Br.ra,B1.ra,Br.bt.mono kk9,Br.bb.mono kk9,B1.bt.mono kk9,B1.bb.mono kk9,_,_,rfl,rfl,_,rfl,aG (λhlt=>?_) (λhge=>?_)⟩
   ·have hl:=sG.2.mp hlt;refine cz ⟨_,rfl,lo',r,_,_,_,_,vo',v,_,rfl,rfl,C0,Br,λu hu=>?_⟩;rw[tk]at hu;rcases P8.mp hu with rfl |hu
    ·exact⟨c1 _ (Qh ..),Rat.le_trans (hall _ (Qh ..)).2 (Rat.le_of_lt hl)⟩
    ·rcases Qk.mp hu with z |z
     ·exact⟨c1 _ (Qb _ z),Rat.le_trans (hall _ (Qb _ z)).2 (Rat.le_of_lt hl)⟩
     ·rw[Qc.mp z];exact⟨c2,Rat.le_refl⟩
   ·have hl:v<=vg:=Rat.not_lt.mp λz=>hge (sG.2.mpr z)
    refine⟨lo',g,_,_,_,_,vo',vg,_,rfl,rfl,C0,B1,λu hu=>?_⟩;rw[tk]at hu;rcases P8.mp hu with rfl |hu
    ·exact⟨c1 _ (Qh ..),(hall _ (Qh ..)).2⟩
    ·rcases Qk.mp hu with z |z
     ·exact⟨c1 _ (Qb _ z),(hall _ (Qb _ z)).2⟩
     ·rw[Qc.mp z];exact⟨c2,hl⟩
  ·rintro σ' H' ⟨lo,g,l1,l2,g1',g2',vo,vg,z4,rfl,rfl,B0,B1,hall⟩;rw[<- hV]at hall;have m0:=hall (rq x1 x2*rq p1 p2) (by simp);have m1:=hall (rq x1 x2*rq q1 q2) (by simp);have m2:=hall (rq y1 y2*rq p1 p2) (by simp);have m3:=hall (rq y1 y2*rq q1 q2) (by simp);refine⟨_,rfl,_,rfl,by show 2<=sizeLine;omega,λr hr'=>?_⟩;have sn:Same H5 (upd H5 r (.tup [.ref lo,.ref g])):=Same.upd_new hr';refine k r lo g _ l1 l2 g1' g2' (t5.trans sn) ak (B0.ra.same sn) (B1.ra.same sn) ⟨B0.bp,B1.bp,B0.bt,B0.bb,B1.bt,B1.bb,?_,?_⟩
   ·refine(dB B0.bp hD).mpr ?_;rw[B0.vl,hN];exact DL g1.1 g1.2 g2.1 g2.2 m0.1 m1.1 m2.1 m3.1
   ·refine(dB hD B1.bp).mpr ?_;rw[B1.vl,hN];exact wN g1.1 g1.2 g2.1 g2.2 m0.2 m1.2 m2.2 m3.2
inductive vv(C:Addr)(vs:List V)(H:Hp)(Q:VK)(E:XK):Prop
 |mk (p x y:Addr) (n:Nat) (t b x1 x2 y1 y2 N D:Int):vs=[.ref p,.int (n:Int)]->SpW C H p x y 340 t b x1 x2 y1 y2->0<b->1<=n->n<=8->0<D->rq N D=rq t b^n->mkS C H Q 2900 N D->vv C vs H Q E
theorem Ey(F:Fun K "span_power" "span_power" mv f fd)(T:Txt K mg)(R:RCI K mg C)(uv:Cal P w K mg base 5 "span_product" ["first","second"] (qo C) JV JD):FnOk P w K mg base CX0 6 f fd ["span","k"] (vv C):=by
 obtain⟨ua,rK,sj,tJ⟩:=uv;refine F.ok sc_span_power (λvs H Q E h=>?_) (λcdv A outer s H vs Q E hr h=>?_)
 ·obtain⟨p,x,y,n,t,b,x1,x2,y1,y2,N,D,rfl,_⟩:=h;rfl
 ·obtain⟨p,x,y,n,t,b,x1,x2,y1,y2,N,D,rfl,h,hb,hn1,hn8,hD,hN,k⟩:=h;have big:=sizeLine_eq
  refine⟨_,(af (aj (i:=2) sc_span_power.nd rfl (Or.inl rfl) (pv 0))
   (af (cg PassesOwn.never rfl (dO rfl T.range_ (aa (ai bA (pv 1) ae) ac)) (aJ (i:=3) sc_span_power.nd rfl (Or.inl rfl))
     (ah (aj (i:=2) sc_span_power.nd rfl (Or.inl rfl) (ag ua (hr.mono) rfl rK sj tJ .nil ad (aa (pv 2) (aa (pv 0) ac))))))
   (ah (am (pv 2))))),?_⟩
  refine ao ⟨_,rfl,?_⟩;have en:((n:Int)-1).toNat=n-1:=by omega
  refine⟨_,rfl,_,_,rfl,rfl,_,rfl,by omega,by omega,pB (lo:=0) (λi σ' H'=>∃(r u v:Addr) (a1 a2 c1 c2:Int) (z3:Option V),σ'=[some (.ref p),some (.int (n:Int)),some (.ref r),z3]/\Same H H'/\SpW C H' r u v (340*(i+1)) (t^(i+1)) (b^(i+1)) a1 a2 c1 c2) ⟨p,x,y,x1,x2,y1,y2,none,rfl,Same.refl _,by rw[Qa,Qg,Qn,Qa,Qg,Qn];exact h⟩ ?_ ?_⟩
  ·rintro i σ' H' hi ⟨r,u,v,a1,a2,c1,c2,z3,rfl,sm,hw⟩;have hi':i<n-1:=by rw[en]at hi;exact hi
   have pb:(0:Int)<b^(i+1):=Q4 hb;have pb2:(0:Int)<b^(i+2):=Q4 hb;refine cz ⟨_,rfl,_,rfl,r,p,u,v,x,y,340*(i+1),340,t^(i+1),b^(i+1),t,b,a1,a2,c1,c2,x1,x2,y1,y2,t^(i+2),b^(i+2),rfl,hw,h.same sm,pb,hb,pb2,by omega,?_,λr' u' v' H2 d1 d2 f1 f2 s2 e2 hu' hv' hE=>?_⟩
   ·rw[<- jo pb hb,Qa t (i+1),Qa b (i+1)]
   ·exact⟨r',u',v',d1,d2,f1,f2,_,rfl,sm.trans s2,e2,hu',hv',hE.mono (by omega)⟩
  ·rintro σ' H' ⟨r,u,v,a1,a2,c1,c2,z3,rfl,sm,hw⟩;rw[en,show n-1+1=n by omega]at hw;have pb:(0:Int)<b^n:=Q4 hb
   have pw':∀m:Nat,rq (t^m) (b^m)=rq t b^m:=λm=>by
    induction m with
    |zero=>rw[Qg,Qg,Rat.pow_zero];decide +kernel
    |succ m ih=>rw[Qa,Qa,jo (Q4 hb) hb,ih,Rat.pow_succ]
   have g:=hw.en.q pb;rw[pw' n,<- hN]at g;refine⟨_,rfl,k r u v _ a1 a2 c1 c2 sm hw.tup hw.rx hw.ry ⟨hw.en.x2p,hw.en.y2p,hw.en.bx1.mono (by omega),hw.en.bx2.mono (by omega),hw.en.by1.mono (by omega),hw.en.by2.mono (by omega),(dB hw.en.x2p hD).mpr g.1,(dB hD hw.en.y2p).mpr g.2⟩⟩
theorem AU{t b:Int}:wx 1 [(t,b)]=[-t,b]:=by
 show ap [1] [-t,b]=[-t,b];refine kn ?_ λk _=>?_
 ·rw[r6 (by simp) (by simp)];rfl
 ·rw[cv,jG,Qn]
theorem qM{t b:Int}(hb:b≠0){q:List Int}(hq:q≠[]):cN [-t,b] q=lv t b q:=by have:=Dk hq 1 [(t,b)] (λp hp=>by rw[Qc.mp hp];exact hb);rw[AU,Int.one_pow,Qn]at this;rw[this];show lv t b q*1=_;rw[Qw]
theorem qV{N D:Int}(hD:0<D):aL [-N,D]=[-(rt N D),rb N D]:=by
 have d0:D≠0:=P9 hD;have bp:=bJ (t:=N) d0;have g:=iC (t:=N) d0;have e1:=iy (t:=N) d0;have e2:=gx (t:=N) d0
 have es:[-N,D]=scL (dv N D) [-(rt N D),rb N D]:=by show[-N,D]=[dv N D * -(rt N D),dv N D*rb N D];rw[e2,Int.mul_neg,e1]
 rw[es,wQ (gS d0) (show Tr [-(rt N D),rb N D]from(tr_snoc (r:=[-(rt N D)])).mpr (P9 bp))]
 have pr:aE [-(rt N D),rb N D]=1:=by show Nat.gcd (Nat.gcd 0 (-(rt N D)).natAbs) (rb N D).natAbs=1;rw[Rj,QA];exact g
 unfold aL;rw[lT (.inr pr)];unfold cp;rw[if_neg (show ¬bT [-(rt N D),rb N D]<0 from(by show ¬rb N D<0;omega))]
theorem rY{N D:Int}(hD:0<D)(bN:Bits 380 N)(bD:Bits 380 D):Lin (rt N D) (rb N D):=⟨bJ (P9 hD),iC (P9 hD),cM (P9 hD) bN,cP (P9 hD) bD⟩
theorem NL.sameT{k:Nat}{C CN:Addr}{H H':Hp}{x:Addr}{t b l1 l2 h1 h2:Int}(h:NL k C CN H x t b l1 l2 h1 h2)(s:SameT H H'):NL k C CN H' x t b l1 l2 h1 h2:=by obtain⟨q,l,hh,⟨dx,e⟩,eq,rl,rh,en⟩:=h;exact⟨q,l,hh,⟨dx,s.at e (λps z=>by cases z)⟩,s.at eq (λps z=>by cases z),rl.sameT s,rh.sameT s,en⟩
theorem NL.era{k:Nat}{C CN:Addr}{H:Hp}{cs:List Addr}{x:Addr}{t b l1 l2 h1 h2:Int}(hx:∀c∈cs,∃o,H c=some (ay c o))(h:NL k C CN H x t b l1 l2 h1 h2):NL k C CN (era cs H) x t b l1 l2 h1 h2:=by obtain⟨q,l,hh,e,eq,rl,rh,en⟩:=h;exact⟨q,l,hh,NA.era hx e,gm hx eq (λφ z=>by cases z),RA.era hx rl,RA.era hx rh,en⟩
theorem mkS.back{C:Addr}{l:List (Addr×Obj)}{H H2:Hp}{Q:VK}{k:Nat}{t b:Int}{p x y:Addr}{x1 x2 y1 y2:Int}(m:mkS C H Q k t b)(hl:∀p∈l,H p.1=some (ay p.1 p.2))(hn:∀p∈l,H2 p.1=none)(ht:∀p∈l,told l H2 p.1=some (ay p.1 p.2))(s:Same (era (l.map (·.1)) H) H2)(e:H2 p=some (.tup [.ref x,.ref y]))(hx:RA C H2 x x1 x2)(hy:RA C H2 y y1 y2)(en:EndW k t b x1 x2 y1 y2):Q (.ref p) (told l H2):=by obtain⟨dx,hx⟩:=hx;obtain⟨dy,hy⟩:=hy;exact m p x y _ x1 x2 y1 y2 (qI hl ht s) (fh hn e) ⟨dx,fh hn hx⟩ ⟨dy,fh hn hy⟩ en
theorem q14:0<(1:Int)/\0<(4:Int)/\Bits 6 (1:Int)/\Bits 6 (4:Int):=⟨by decide,by decide,by show(1:Int).natAbs<2^6;decide,by show(4:Int).natAbs<2^6;decide⟩
structure Two2(C CN:Addr)(H:Hp)(x y:Addr)(t b t' b':Int):Prop where
 n1:∃l1 l2 h1 h2,NL 60 C CN H x t b l1 l2 h1 h2
 n2:∃l1 l2 h1 h2,NL 60 C CN H y t' b' l1 l2 h1 h2
 s1:LinS t b
 s2:LinS t' b'
inductive ir(C CN:Addr)(TT:List Site)(op:Int->Int->Int->Int->Int)(vs:List V)(H:Hp)(Q:VK)(E:XK):Prop
 |mk (x y:Addr) (t b t' b':Int):vs=[.ref x,.ref y]->Two2 C CN H x y t b t' b'->TabsOk TT H->mkT TT C CN H Q (rt (op t b t' b') (b*b')) (rb (op t b t' b') (b*b'))->ir C CN TT op vs H Q E
theorem ES{C CN c f:Addr}{fd:FuncData}{TT:List Site}{q:Site}(F:FunL K "plus" "plus" mR c f fd)(T:Txt K mg)(R:RCI K mg C)(RN:NCI K mg CN)(LA:LamAt TT mg base c q ⟨475,33,475,102⟩ "plus")(lg:Cal P w K mg base 1 "refuse_high" ["height"] (λvs H Q _=>∃i:Int,vs=[.int i]/\i<=8/\Q .non H) yV yK)(bY:Cal P w K mg base 1 "degree" ["row"] c7 dZ dW)(ib:Cal P w K mg base 36 "without_squares" ["row"] i8 sS sN)(M2:Cal P w K mg base 35 "sums" ["first","second"] (lH opp) OY N4)(lj:Cal P w K mg base 39 "found_between" ["simple","ends"] (lN P w K mg base C CN TT) yY yN)(M6:Cal P w K mg base 5 "span_sum" ["first","second"] (vt C) O2 N8)(ie:Cal P w K mg base 7 "span_of" ["one","width"] (ja C CN) sV sP):FnOk P w K mg base CX0 40 f fd ["first","second"] (ir C CN TT λt b t' b'=>t*b'+t'*b):=by
 obtain⟨kT,jO,j1,kF⟩:=lg;obtain⟨aY,aV,aW,aX⟩:=bY;obtain⟨hJ,gE,gJ,gY⟩:=ib;obtain⟨Md,GQ,HW,K7⟩:=M2;obtain⟨kW,jQ,j3,kH⟩:=lj;obtain⟨Mh,GV,Ia,Lb⟩:=M6;obtain⟨fR,fE,fH,fP⟩:=ie;refine F.ok sc_plus (λvs H Q E h=>?_) (λA outer s H vs Q E hr h=>?_)
 ·obtain⟨x,y,t,b,t',b',rfl,_⟩:=h;rfl
 ·obtain⟨x,y,t,b,t',b',rfl,⟨⟨l1,l2,h1,h2,n1⟩,⟨m1,m2,k1,k2,n2⟩,L1,L2⟩,hTb,k⟩:=h
  refine⟨_,(af (eD (ag kT (hr.mono) rfl jO j1 kF .nil ad (aa (ai av (ag aY (hr.mono) rfl aV aW aX .nil ad (aa (aq (K:=K) rfl (pv 0) rfl) ac)) (ag aY (hr.mono) rfl aV aW aX .nil ad (aa (aq (K:=K) rfl (pv 1) rfl) ac))) ac)))
   (af (aj (i:=2) sc_plus.nd rfl (Or.inl rfl) (ag hJ (hr.mono) rfl gE gJ gY .nil ad (aa (ag Md (hr.mono) rfl GQ HW K7 .nil ad (aa (aq (K:=K) rfl (pv 0) rfl) (aa (aq (K:=K) rfl (pv 1) rfl) ac))) ac)))
   (ah (am (jz (cl:=[("second",_),("first",_)]) (js:=[1,0]) kW (hr.mono) rfl jQ j3 kH .nil (jB (E:=E0)) ⟨rfl,rfl,rfl,rfl,rfl,rfl,rfl,rfl,trivial⟩ (aa (pv 2) (aa (jy (clos:=[("second",_),("first",_)]) LA.lb LA.cd rfl LA.mem LA.dis LA.ps LA.nm (by rfl)) ac))))))),?_⟩
  obtain⟨q1,l,h,⟨dx,ex⟩,eq1,rl,rh,en⟩:=id n1;obtain⟨q2,l',h',⟨dy,ey⟩,eq2,rl',rh',en'⟩:=id n2;have hb:=L1.1;have hb':=L2.1;have hD:0<b*b':=P5 hb hb';have bN:Bits 380 (t*b'+t'*b):=Bits.mono (Bits.add (k:=100) ((L1.2.2.1.mul L2.2.2.2).mono) ((L2.2.2.1.mul L1.2.2.2).mono)) (by decide);have bD:Bits 380 (b*b'):=(L1.2.2.2.mul L2.2.2.2).mono;refine eC ⟨_,rfl,x,CN,dx,_,_,rfl,ex,RN.cl,RN.nP,cL _ _ _,q1,_,rfl,eq1,_,rfl,y,CN,dy,_,_,rfl,ey,RN.cl,RN.nP,cL _ _ _,q2,_,rfl,eq2,_,_,rfl,rfl,⟨Bits.mono (j:=1) (by show(1:Int).natAbs<2^1;decide) (by decide),Bits.mono (j:=1) (by show(1:Int).natAbs<2^1;decide) (by decide)⟩,_,rfl,by show(1:Int)*1<=8;decide,?_⟩;refine ao ⟨_,rfl,x,CN,dx,_,_,rfl,ex,RN.cl,RN.nP,cL _ _ _,_,rfl,y,CN,dy,_,_,rfl,ey,RN.cl,RN.nP,cL _ _ _,q1,q2,[-t,b],[-t',b'],[-(t*b'+t'*b),b*b'],rfl,eq1,eq2,L2.tr,by simp,by simp,by show 2<=9;decide,by show 2<=9;decide,by show(2-1)*(2-1)<=20;decide,L1.bits.mono,L2.bits.mono,rfl,(tr_snoc (r:=[-(t*b'+t'*b)])).mpr (P9 hD),?_,λz=>?_,λp1 H1 s1 hp1 e1=>?_⟩
  ·intro v hv;simp only[P8,Qv,or_false]at hv;rcases hv with rfl |rfl
   ·exact bN.neg.mono
   ·exact bD.mono
  ·obtain⟨_,o2,o3⟩:=oH ((z:Nat):Int) [-t',b'] L2.tr (by simp);rw[qM (P9 hb) (λw=>by rw[w]at o2;simp at o2),o3];show -t'*b^1+(((z:Nat):Int)*b-t)*(b'*b^0+_*0) = -(t*b'+t'*b)+((z:Nat):Int)*(b*b'+_*0);rw[Qa,Qg];grind
  rw[qV hD]at e1;have hL:=rY hD bN bD;have hNq:rq (rt (t*b'+t'*b) (b*b')) (rb (t*b'+t'*b) (b*b'))=rq t b+rq t' b':=by rw[iz hD,qK hb hb']
  generalize rt (t*b'+t'*b) (b*b')=N at *
  generalize rb (t*b'+t'*b) (b*b')=D at *
  refine⟨p1,N,D,rfl,e1,hL,λp2 H2 s2 hp2 e2=>?_⟩;have t2:=s1.trans s2;refine aA ⟨_,rfl,hTb.same t2,λfl H3 s3 hfl hT3 hCl=>iA ⟨?_,λl hcl hln hlt=>?_⟩⟩
  ·intro j hj;simp only[P8,Qv,or_false]at hj;rcases hj with rfl |rfl
   ·exact⟨_,rfl⟩
   ·exact⟨_,rfl⟩
  have stl:=jk hln;have v3:=(t2.t.trans s3).trans stl;have hcH:=pR hcl hlt;have cloO:=hCl.sameT stl;refine⟨p2,fl,N,D,rfl,(s3.trans stl).at e2 (λps z=>by cases z),hL,hT3.same (fY hln),cloO.fnv,CloOk.mono (pM (k:=10) cloO hcH ?_ ⟨rfl,rfl,rfl,rfl,by decide +kernel,by show ∀y:Str×NameKind,y∈_->y.2=NameKind.free->y.1∈(["second","first"]:List Str);decide +kernel,by show ∀y:Str,y∈(["second","first"]:List Str)->_;decide +kernel,by show(["second","first"]:List Str).Nodup;decide +kernel⟩ (λ_ _ _ _=>rfl) (λvs H Q E h=>?_) (λcd A outer s' H' v Q' E' hr sT hc hsp=>?_)) (by decide),λxx qq ll hh B H4 s4 hT4 hN hq hE=>⟨eV hlt s4,?_⟩⟩
  ·simp
  ·obtain⟨wd,rfl,_⟩:=h;exact⟨_,rfl⟩
  ·obtain⟨wd,ev,hw,hmk⟩:=hsp;obtain rfl:v=.ref wd:=by injection ev
   refine⟨_,(ag Mh (hr.mono) rfl GV Ia Lb .nil ad (aa (ag fR (hr.mono) rfl fE fH fP .nil ad (aa (pv 2) (aa (pv 0) ac))) (aa (ag fR (hr.mono) rfl fE fH fP .nil ad (aa (pv 1) (aa (pv 0) ac))) ac))),?_⟩;obtain⟨k1',k2',k3'⟩:=hc.keys;have cc:=gs λp hp=>(k3' p hp).1
   have w1:=NL.era cc (n1.sameT (v3.trans sT));have w2:=NL.era cc (n2.sameT (v3.trans sT));have hw':=RA.era cc hw;refine⟨_,rfl,_,rfl,x,wd,t,b,l1,l2,h1,h2,1,4,⟨rfl,w1,L1,hw',q14.1,q14.2.1,q14.2.2.1,q14.2.2.2⟩,λu1 a1 c1 G1 f1 f2 g1 g2 r1 hu1 eu1 ha1 hc1 ee1 _=>?_⟩;refine⟨_,rfl,_,rfl,y,wd,t',b',m1,m2,k1,k2,1,4,⟨rfl,w2.same r1,L2,hw'.same r1,q14.1,q14.2.1,q14.2.2.1,q14.2.2.2⟩,λu2 a2 c2 G2 f1' f2' g1' g2' r2 hu2 eu2 ha2 hc2 ee2 _=>?_⟩;refine⟨u1,u2,a1,c1,a2,c2,340,340,t,b,t',b',f1,f2,g1,g2,f1',f2',g1',g2',N,D,rfl,⟨r2 _ _ eu1,ha1.same r2,hc1.same r2,ee1.toW⟩,⟨eu2,ha2,hc2,ee2.toW⟩,hb,hb',hL.1,by decide,hNq,λp x' y' G3 x1 x2 y1 y2 r3 ep hx hy he hn2 ht2=>?_⟩;exact hmk.back (λp hp=>(k3' p hp).1) hn2 ht2 (r1.trans (r2.trans r3)) ep hx hy he
  ·have cc:=gs (eV hlt s4);exact k xx qq ll hh B _ ((t2.t.trans s3).trans (lV hln s4)) (i6 hT4 (eV hlt s4) (kx hcl)) (NA.era cc hN) (gm cc hq (λφ z=>by cases z)) (Ends2.era cc hE)
theorem Em{C CN c f:Addr}{fd:FuncData}{TT:List Site}{q:Site}(F:FunL K "times" "times" md c f fd)(T:Txt K mg)(R:RCI K mg C)(RN:NCI K mg CN)(LA:LamAt TT mg base c q ⟨481,33,481,106⟩ "times")(lg:Cal P w K mg base 1 "refuse_high" ["height"] (λvs H Q _=>∃i:Int,vs=[.int i]/\i<=8/\Q .non H) yV yK)(bY:Cal P w K mg base 1 "degree" ["row"] c7 dZ dW)(ib:Cal P w K mg base 36 "without_squares" ["row"] i8 sS sN)(Nd:Cal P w K mg base 35 "products" ["first","second"] (lH λx l=>(cb x l).reverse) O9 Of)(lj:Cal P w K mg base 39 "found_between" ["simple","ends"] (lN P w K mg base C CN TT) yY yN)(uv:Cal P w K mg base 5 "span_product" ["first","second"] (qo C) JV JD)(ie:Cal P w K mg base 7 "span_of" ["one","width"] (ja C CN) sV sP):FnOk P w K mg base CX0 40 f fd ["first","second"] (ir C CN TT λt _ t' _=>t*t'):=by
 obtain⟨kT,jO,j1,kF⟩:=lg;obtain⟨aY,aV,aW,aX⟩:=bY;obtain⟨hJ,gE,gJ,gY⟩:=ib;obtain⟨Mm,GZ,Ig,Lf⟩:=Nd;obtain⟨kW,jQ,j3,kH⟩:=lj;obtain⟨ua,rK,sj,tJ⟩:=uv;obtain⟨fR,fE,fH,fP⟩:=ie;refine F.ok sc_times (λvs H Q E h=>?_) (λA outer s H vs Q E hr h=>?_)
 ·obtain⟨x,y,t,b,t',b',rfl,_⟩:=h;rfl
 ·obtain⟨x,y,t,b,t',b',rfl,⟨⟨l1,l2,h1,h2,n1⟩,⟨m1,m2,k1,k2,n2⟩,L1,L2⟩,hTb,k⟩:=h
  refine⟨_,(af (eD (ag kT (hr.mono) rfl jO j1 kF .nil ad (aa (ai av (ag aY (hr.mono) rfl aV aW aX .nil ad (aa (aq (K:=K) rfl (pv 0) rfl) ac)) (ag aY (hr.mono) rfl aV aW aX .nil ad (aa (aq (K:=K) rfl (pv 1) rfl) ac))) ac)))
   (af (aj (i:=2) sc_times.nd rfl (Or.inl rfl) (ag hJ (hr.mono) rfl gE gJ gY .nil ad (aa (ag Mm (hr.mono) rfl GZ Ig Lf .nil ad (aa (aq (K:=K) rfl (pv 0) rfl) (aa (aq (K:=K) rfl (pv 1) rfl) ac))) ac)))
   (ah (am (jz (cl:=[("second",_),("first",_)]) (js:=[1,0]) kW (hr.mono) rfl jQ j3 kH .nil (jB (E:=E0)) ⟨rfl,rfl,rfl,rfl,rfl,rfl,rfl,rfl,trivial⟩ (aa (pv 2) (aa (jy (clos:=[("second",_),("first",_)]) LA.lb LA.cd rfl LA.mem LA.dis LA.ps LA.nm (by rfl)) ac))))))),?_⟩
  obtain⟨q1,l,h,⟨dx,ex⟩,eq1,rl,rh,en⟩:=id n1;obtain⟨q2,l',h',⟨dy,ey⟩,eq2,rl',rh',en'⟩:=id n2;have hb:=L1.1;have hb':=L2.1;have hD:0<b*b':=P5 hb hb';have bN:Bits 380 (t*t'):=(L1.2.2.1.mul L2.2.2.1).mono;have bD:Bits 380 (b*b'):=(L1.2.2.2.mul L2.2.2.2).mono;refine eC ⟨_,rfl,x,CN,dx,_,_,rfl,ex,RN.cl,RN.nP,cL _ _ _,q1,_,rfl,eq1,_,rfl,y,CN,dy,_,_,rfl,ey,RN.cl,RN.nP,cL _ _ _,q2,_,rfl,eq2,_,_,rfl,rfl,⟨Bits.mono (j:=1) (by show(1:Int).natAbs<2^1;decide) (by decide),Bits.mono (j:=1) (by show(1:Int).natAbs<2^1;decide) (by decide)⟩,_,rfl,by show(1:Int)*1<=8;decide,?_⟩;refine ao ⟨_,rfl,x,CN,dx,_,_,rfl,ex,RN.cl,RN.nP,cL _ _ _,_,rfl,y,CN,dy,_,_,rfl,ey,RN.cl,RN.nP,cL _ _ _,q1,q2,[-t,b],[-t',b'],[-(t*t'),b*b'],rfl,eq1,eq2,L2.tr,by simp,by simp,by show 2<=9;decide,by show 2<=9;decide,by show(2-1)*(2-1)<=20;decide,L1.bits.mono,L2.bits.mono,rfl,(tr_snoc (r:=[-(t*t')])).mpr (P9 hD),?_,λz=>?_,λp1 H1 s1 hp1 e1=>?_⟩
  ·intro v hv;simp only[P8,Qv,or_false]at hv;rcases hv with rfl |rfl
   ·exact bN.neg.mono
   ·exact bD.mono
  ·rw[qM (P9 hb) (λw=>by have w':(cb ((z:Nat):Int) [-t',b']).reverse=[]:=w;have:=qb ((z:Nat):Int) [-t',b'];rw[w']at this;cases this),AL _ _ _ (by simp)];show -t'*t^1+((z:Nat):Int)*b*(b'*t^0+_*0) = -(t*t')+((z:Nat):Int)*(b*b'+_*0);rw[Qa,Qg];grind
  rw[qV hD]at e1;have hL:=rY hD bN bD;have hNq:rq (rt (t*t') (b*b')) (rb (t*t') (b*b'))=rq t b*rq t' b':=by rw[iz hD,jo hb hb']
  generalize rt (t*t') (b*b')=N at *
  generalize rb (t*t') (b*b')=D at *
  refine⟨p1,N,D,rfl,e1,hL,λp2 H2 s2 hp2 e2=>?_⟩;have t2:=s1.trans s2;refine aA ⟨_,rfl,hTb.same t2,λfl H3 s3 hfl hT3 hCl=>iA ⟨?_,λl hcl hln hlt=>?_⟩⟩
  ·intro j hj;simp only[P8,Qv,or_false]at hj;rcases hj with rfl |rfl
   ·exact⟨_,rfl⟩
   ·exact⟨_,rfl⟩
  have stl:=jk hln;have v3:=(t2.t.trans s3).trans stl;have hcH:=pR hcl hlt;have cloO:=hCl.sameT stl;refine⟨p2,fl,N,D,rfl,(s3.trans stl).at e2 (λps z=>by cases z),hL,hT3.same (fY hln),cloO.fnv,CloOk.mono (pM (k:=10) cloO hcH ?_ ⟨rfl,rfl,rfl,rfl,by decide +kernel,by show ∀y:Str×NameKind,y∈_->y.2=NameKind.free->y.1∈(["second","first"]:List Str);decide +kernel,by show ∀y:Str,y∈(["second","first"]:List Str)->_;decide +kernel,by show(["second","first"]:List Str).Nodup;decide +kernel⟩ (λ_ _ _ _=>rfl) (λvs H Q E h=>?_) (λcd A outer s' H' v Q' E' hr sT hc hsp=>?_)) (by decide),λxx qq ll hh B H4 s4 hT4 hN hq hE=>⟨eV hlt s4,?_⟩⟩
  ·simp
  ·obtain⟨wd,rfl,_⟩:=h;exact⟨_,rfl⟩
  ·obtain⟨wd,ev,hw,hmk⟩:=hsp;obtain rfl:v=.ref wd:=by injection ev
   refine⟨_,(ag ua (hr.mono) rfl rK sj tJ .nil ad (aa (ag fR (hr.mono) rfl fE fH fP .nil ad (aa (pv 2) (aa (pv 0) ac))) (aa (ag fR (hr.mono) rfl fE fH fP .nil ad (aa (pv 1) (aa (pv 0) ac))) ac))),?_⟩;obtain⟨k1',k2',k3'⟩:=hc.keys;have cc:=gs λp hp=>(k3' p hp).1
   have w1:=NL.era cc (n1.sameT (v3.trans sT));have w2:=NL.era cc (n2.sameT (v3.trans sT));have hw':=RA.era cc hw;refine⟨_,rfl,_,rfl,x,wd,t,b,l1,l2,h1,h2,1,4,⟨rfl,w1,L1,hw',q14.1,q14.2.1,q14.2.2.1,q14.2.2.2⟩,λu1 a1 c1 G1 f1 f2 g1 g2 r1 hu1 eu1 ha1 hc1 ee1 _=>?_⟩;refine⟨_,rfl,_,rfl,y,wd,t',b',m1,m2,k1,k2,1,4,⟨rfl,w2.same r1,L2,hw'.same r1,q14.1,q14.2.1,q14.2.2.1,q14.2.2.2⟩,λu2 a2 c2 G2 f1' f2' g1' g2' r2 hu2 eu2 ha2 hc2 ee2 _=>?_⟩;refine⟨u1,u2,a1,c1,a2,c2,340,340,t,b,t',b',f1,f2,g1,g2,f1',f2',g1',g2',N,D,rfl,⟨r2 _ _ eu1,ha1.same r2,hc1.same r2,ee1.toW⟩,⟨eu2,ha2,hc2,ee2.toW⟩,hb,hb',hL.1,by decide,hNq,λp x' y' G3 x1 x2 y1 y2 r3 ep hx hy he hn2 ht2=>?_⟩;exact hmk.back (λp hp=>(k3' p hp).1) hn2 ht2 (r1.trans (r2.trans r3)) ep hx hy (he.mono)
  ·have cc:=gs (eV hlt s4);exact k xx qq ll hh B _ ((t2.t.trans s3).trans (lV hln s4)) (i6 hT4 (eV hlt s4) (kx hcl)) (NA.era cc hN) (gm cc hq (λφ z=>by cases z)) (Ends2.era cc hE)
inductive vF(C CN:Addr)(TT:List Site)(vs:List V)(H:Hp)(Q:VK)(E:XK):Prop
 |mk (x:Addr) (n:Nat) (t b l1 l2 h1 h2:Int):vs=[.ref x,.int (n:Int)]->NL 60 C CN H x t b l1 l2 h1 h2->LinS t b->n<=8->Bits 380 (t^n)->Bits 380 (b^n)->TabsOk TT H->mkT TT C CN H Q (rt (t^n) (b^n)) (rb (t^n) (b^n))->vF C CN TT vs H Q E
theorem Db{t b:Int}(hb:0<b):∀m:Nat,rq (t^m) (b^m)=rq t b^m:=λm=>by
 induction m with
 |zero=>rw[Qg,Qg,Rat.pow_zero];decide +kernel
 |succ m ih=>rw[Qa,Qa,jo (Q4 hb) hb,ih,Rat.pow_succ]
theorem EQ{C CN c f:Addr}{fd:FuncData}{TT:List Site}{q:Site}(F:FunL K "power" "power" mP c f fd)(T:Txt K mg)(R:RCI K mg C)(RN:NCI K mg CN)(LA:LamAt TT mg base c q ⟨488,33,488,81⟩ "power")(uG:Cal P w K mg base 39 "fraction" ["ratio"] (qB C CN) J6 JO)(bE:KCal P w K mg base 2 C "Ratio" ["self","top","bottom"] (cy C) dg df di [.int 1])(ib:Cal P w K mg base 36 "without_squares" ["row"] i8 sS sN)(Nf:Cal P w K mg base 35 "powers" ["row","k"] vE Pa Og)(lj:Cal P w K mg base 39 "found_between" ["simple","ends"] (lN P w K mg base C CN TT) yY yN)(M7:Cal P w K mg base 6 "span_power" ["span","k"] (vv C) O3 N9)(ie:Cal P w K mg base 7 "span_of" ["one","width"] (ja C CN) sV sP):FnOk P w K mg base CX0 40 f fd ["one","k"] (vF C CN TT):=by
 obtain⟨uj,rT,sB,tS⟩:=uG;obtain⟨aR,aQ,aP,bX,bQ,bM⟩:=bE;obtain⟨hJ,gE,gJ,gY⟩:=ib;obtain⟨Mn,G0,Ih,Lg⟩:=Nf;obtain⟨kW,jQ,j3,kH⟩:=lj;obtain⟨Mi,GW,Ib,Lc⟩:=M7;obtain⟨fR,fE,fH,fP⟩:=ie;refine F.ok sc_power (λvs H Q E h=>?_) (λA outer s H vs Q E hr h=>?_)
 ·obtain⟨x,n,t,b,l1,l2,h1,h2,rfl,_⟩:=h;rfl
 ·obtain⟨x,n,t,b,l1,l2,h1,h2,rfl,n1,L1,hn8,bN,bD,hTb,k⟩:=h
  refine⟨_,(af (aB (ax cj (pv 1) ae (aw _))
   (ah (am (ag uj (hr.mono) rfl rT sB tS .nil ad (aa (bz aQ aR (hr.mono) rfl aP bQ bM ad (aa ae ac)) ac))))
   aC)
   (af (aj (i:=2) sc_power.nd rfl (Or.inl rfl) (ag hJ (hr.mono) rfl gE gJ gY .nil ad (aa (ag Mn (hr.mono) rfl G0 Ih Lg .nil ad (aa (aq (K:=K) rfl (pv 0) rfl) (aa (pv 1) ac))) ac)))
   (ah (am (jz (cl:=[("one",_),("k",_)]) (js:=[0,1]) kW (hr.mono) rfl jQ j3 kH .nil (jB (E:=E0)) ⟨rfl,rfl,rfl,rfl,rfl,rfl,rfl,rfl,trivial⟩ (aa (pv 2) (aa (jy (clos:=[("one",_),("k",_)]) LA.lb LA.cd rfl LA.mem LA.dis LA.ps LA.nm (by rfl)) ac))))))),?_⟩
  obtain⟨q1,l,h,⟨dx,ex⟩,eq1,rl,rh,en⟩:=id n1;have hb:=L1.1;have hD:0<b^n:=Q4 hb;refine aS ⟨_,rfl,_,_,rfl,rfl,_,rfl,aG (λh0=>?_) (λh0=>?_)⟩
  ·obtain rfl:n=0:=by have:(n:Int)=0:=h0;omega
   refine cI (t:=1) (b:=1) (by decide) (Bits.mono (j:=1) (by show(1:Int).natAbs<2^1;decide) (by decide)) λr H1 s1 hr1 hR1=>?_
   rw[fz,fA]at hR1;have b1:Bits 380 (1:Int):=Bits.mono (j:=1) (by show(1:Int).natAbs<2^1;decide) (by decide);refine⟨r,1,1,rfl,hR1,⟨by decide,by decide,b1,b1⟩,λxx qq ll hh B H4 s4 hx hN hq hE _=>?_⟩;refine k xx qq ll hh B H4 (s1.trans s4).t (hTb.same (s1.trans s4)) hN ?_ ?_
   ·rw[Qg,Qg,fz,fA];exact hq
   ·rw[Qg,Qg,fz,fA];exact hE
  have hn1:1<=n:=by have:¬(n:Int)=0:=h0;omega
  refine ao ⟨_,rfl,x,CN,dx,_,_,rfl,ex,RN.cl,RN.nP,cL _ _ _,_,rfl,q1,[-t,b],[-(t^n),b^n],n,rfl,eq1,by simp,by show 2<=9;decide,hn1,hn8,L1.bits.mono,rfl,(tr_snoc (r:=[-(t^n)])).mpr (P9 hD),?_,λz=>?_,λp1 H1 s1 hp1 e1=>?_⟩
  ·intro v hv;simp only[P8,Qv,or_false]at hv;rcases hv with rfl |rfl
   ·exact bN.neg.mono
   ·exact bD.mono
  ·have o2:=qS ((z:Nat):Int) hn1;rw[qM (P9 hb) (λw=>by rw[w]at o2;simp at o2)];unfold pwG;rw[DP _ _ _ _ hn1];show _ = -(t^n)+((z:Nat):Int)*(b^n+_*0);grind
  rw[qV hD]at e1;have hL:=rY hD bN bD;have hNq:rq (rt (t^n) (b^n)) (rb (t^n) (b^n))=rq t b^n:=by rw[iz hD,Db hb]
  generalize rt (t^n) (b^n)=N at *
  generalize rb (t^n) (b^n)=D at *
  refine⟨p1,N,D,rfl,e1,hL,λp2 H2 s2 hp2 e2=>?_⟩;have t2:=s1.trans s2;refine aA ⟨_,rfl,hTb.same t2,λfl H3 s3 hfl hT3 hCl=>iA ⟨?_,λl hcl hln hlt=>?_⟩⟩
  ·intro j hj;simp only[P8,Qv,or_false]at hj;rcases hj with rfl |rfl
   ·exact⟨_,rfl⟩
   ·exact⟨_,rfl⟩
  have stl:=jk hln;have v3:=(t2.t.trans s3).trans stl;have hcH:=pR hcl hlt;have cloO:=hCl.sameT stl;refine⟨p2,fl,N,D,rfl,(s3.trans stl).at e2 (λps z=>by cases z),hL,hT3.same (fY hln),cloO.fnv,CloOk.mono (pM (k:=10) cloO hcH ?_ ⟨rfl,rfl,rfl,rfl,by decide +kernel,by show ∀y:Str×NameKind,y∈_->y.2=NameKind.free->y.1∈(["one","k"]:List Str);decide +kernel,by show ∀y:Str,y∈(["one","k"]:List Str)->_;decide +kernel,by show(["one","k"]:List Str).Nodup;decide +kernel⟩ (λ_ _ _ _=>rfl) (λvs H Q E h=>?_) (λcd A outer s' H' v Q' E' hr sT hc hsp=>?_)) (by decide),λxx qq ll hh B H4 s4 hT4 hN hq hE=>⟨eV hlt s4,?_⟩⟩
  ·simp
  ·obtain⟨wd,rfl,_⟩:=h;exact⟨_,rfl⟩
  ·obtain⟨wd,ev,hw,hmk⟩:=hsp;obtain rfl:v=.ref wd:=by injection ev
   refine⟨_,(ag Mi (hr.mono) rfl GW Ib Lc .nil ad (aa (ag fR (hr.mono) rfl fE fH fP .nil ad (aa (pv 1) (aa (pv 0) ac))) (aa (pv 2) ac))),?_⟩;obtain⟨k1',k2',k3'⟩:=hc.keys;have cc:=gs λp hp=>(k3' p hp).1
   have w1:=NL.era cc (n1.sameT (v3.trans sT));have hw':=RA.era cc hw;refine⟨_,rfl,_,rfl,x,wd,t,b,l1,l2,h1,h2,1,4,⟨rfl,w1,L1,hw',q14.1,q14.2.1,q14.2.2.1,q14.2.2.2⟩,λu1 a1 c1 G1 f1 f2 g1 g2 r1 hu1 eu1 ha1 hc1 ee1 _=>?_⟩;refine⟨_,rfl,u1,a1,c1,n,t,b,f1,f2,g1,g2,N,D,rfl,⟨eu1,ha1,hc1,ee1.toW⟩,hb,hn1,hn8,hL.1,hNq,λp x' y' G3 x1 x2 y1 y2 r3 ep hx hy he hn2 ht2=>?_⟩;exact hmk.back (λp hp=>(k3' p hp).1) hn2 ht2 (r1.trans r3) ep hx hy he
  ·have cc:=gs (eV hlt s4);exact k xx qq ll hh B _ ((t2.t.trans s3).trans (lV hln s4)) (i6 hT4 (eV hlt s4) (kx hcl)) (NA.era cc hN) (gm cc hq (λφ z=>by cases z)) (Ends2.era cc hE)
theorem EZ(F:Fun K "off_nought" "off_nought" mY f fd)(T:Txt K mg):FnOk P w K mg base CX0 1 f fd ["one"] cx:=F.ok Cm (λ_ _ _ _ h=>h.elim) (λ_ _ _ _ _ _ _ _ _ h=>h.elim)
theorem FR(F:Fun K "over" "Ratio.over" oh f fd)(T:Txt K mg)(R:RCI K mg C):FnOk P w K mg base CX0 1 f fd ["self","other"] cx:=F.ok CP (λ_ _ _ _ h=>h.elim) (λ_ _ _ _ _ _ _ _ _ h=>h.elim)
theorem Fk(F:Fun K "flipped" "flipped" ny f fd)(T:Txt K mg)(dz:Cal P w K mg base 1 "poly" ["row"] (fX K) iT iS):FnOk P w K mg base CX0 2 f fd ["row"] (sp1 sM):=by
 obtain⟨dq,da,de,dk⟩:=dz;refine F.ok Cs (λvs H Q E h=>?_) (λcdv A outer s H vs Q E hr h=>?_)
 ·obtain⟨a,ns,rfl,_⟩:=h;rfl
 ·obtain⟨a,ns,rfl,hA,hn,hb,k⟩:=h;refine⟨_,(ah (am (ag dq (hr.mono) rfl da de dk .nil ad (aa (qY (K:=K) rfl rfl (by rfl) T.list_ (by rfl) T.reversed_ (aa (pv 0) ac)) ac)))),?_⟩;refine⟨_,rfl,a,_,rfl,SqL.of hA,λp hp=>⟨p,ns.reverse,rfl,SqL.of ?_,λq H' sm hq e=>k q H' ((Same.upd_new hp).trans sm) ((Same.upd_new hp).free hq) e⟩⟩;rw[ak,List.map_reverse]
inductive vN(C CN:Addr)(TT:List Site)(vs:List V)(H:Hp)(Q:VK)(E:XK):Prop
 |mk (x y:Addr) (t b t' b':Int):vs=[.ref x,.ref y]->Two2 C CN H x y t b t' b'->TabsOk TT H->mkT TT C CN H Q (rt (t*b'-t'*b) (b*b')) (rb (t*b'-t'*b) (b*b'))->vN C CN TT vs H Q E
theorem E7{TT:List Site}(F:Fun K "minus" "minus" m8 f fd)(T:Txt K mg)(uB:Cal P w K mg base 40 "plus" ["first","second"] (ir C CN TT λt b t' b'=>t*b'+t'*b) J1 JJ)(uC:Cal P w K mg base 35 "opposite" ["one"] (qw C CN) J2 JK):FnOk P w K mg base CX0 41 f fd ["first","second"] (vN C CN TT):=by
 obtain⟨uf,rP,sv,tO⟩:=uB;obtain⟨ug,rQ,sw,tP⟩:=uC;refine F.ok Cn (λvs H Q E h=>?_) (λcdv A outer s H vs Q E hr h=>?_)
 ·obtain⟨x,y,t,b,t',b',rfl,_⟩:=h;rfl
 ·obtain⟨x,y,t,b,t',b',rfl,⟨⟨l1,l2,h1,h2,n1⟩,⟨m1,m2,k1,k2,n2⟩,L1,L2⟩,hTb,k⟩:=h;refine⟨_,(ah (am (ag uf (hr.mono) rfl rP sv tO .nil ad (aa (pv 0) (aa (ag ug (hr.mono) rfl rQ sw tP .nil ad (aa (pv 1) ac)) ac))))),?_⟩;refine aA ⟨_,rfl,_,rfl,y,t',b',m1,m2,k1,k2,rfl,n2.mono,L2,λz H1 a1 a2 c1 c2 s1 hz hN=>?_⟩;refine⟨x,z,t,b,-t',b',rfl,⟨⟨_,_,_,_,n1.same s1⟩,⟨_,_,_,_,hN⟩,L1,L2.neg⟩,hTb.same s1,λxx qq ll hh B H' s' hT hN' hq hE=>?_⟩;have e:t*b' + -t'*b=t*b'-t'*b:=by grind
  try dsimp only at hq hE
  rw[e]at hq hE;exact k xx qq ll hh B H' (s1.t.trans s') hT hN' hq hE
noncomputable def cq(t b:Int):Int:=if 0<t then b else -b
noncomputable def cr(t _b:Int):Int:=if 0<t then t else -t
theorem ka{t b:Int}(h:LinS t b)(ht:t≠0):LinS (cq t b) (cr t b):=by
 unfold cq cr;obtain⟨h1,h2,h3,h4⟩:=h;split
 ·exact⟨by omega,by rw[Nat.gcd_comm];exact h2,h4,h3⟩
 ·exact⟨by omega,by rw[QA,QA,Nat.gcd_comm];exact h2,h4.neg,h3.neg⟩
theorem IV{t b:Int}(h:LinS t b)(ht:t≠0):aL [b,-t]=[-(cq t b),cr t b]:=by
 have hl:=(ka h ht).plain;unfold cq cr at hl ⊢
 split
 ·next z =>
  rw[if_pos z,if_pos z]at hl;have e:[b,-t]=scL (-1) [-b,t]:=by show _=[-1 * -b,-1*t];simp
  rw[e,wQ (by decide) (show Tr [-b,t]from(tr_snoc (r:=[-b])).mpr (by omega)),hl]
 ·next z =>rw[if_neg z,if_neg z]at hl;rw[Q1]at hl ⊢;exact hl
inductive qA(C CN CB:Addr)(vs:List V)(H:Hp)(Q:VK)(E:XK):Prop
 |mk (x:Addr) (t b l1 l2 h1 h2:Int):vs=[.ref x]->NL 340 C CN H x t b l1 l2 h1 h2->LinS t b->(t≠0->o7 C CN H Q (cq t b) (cr t b))->(t=0->∀H',Same H H'->E (.ref CB) none H')->qA C CN CB vs H Q E
theorem Fe(F:Fun K "inverse" "inverse" nl f fd)(T:Txt K mg)(R:RCI K mg C)(RN:NCI K mg CN){CByNought CTooHigh CRootError CBelowNought CTooGreat:Addr}(XE:EXC K mg base CByNought CTooHigh CRootError CBelowNought CTooGreat)(M9:Cal P w K mg base 5 "sign_of" ["one"] (vy C CN) O5 Ob)(cU:Cal P w K mg base 34 "plain" ["row"] fj gQ gP)(Nx:Cal P w K mg base 2 "flipped" ["row"] (sp1 sM) Pr Oz)(bY:Cal P w K mg base 1 "degree" ["row"] c7 dZ dW)(uD:Cal P w K mg base 5 "only_root" ["row"] (qx C CN) J3 JL)(Nk:Cal P w K mg base 1 "off_nought" ["one"] cx Pf Om)(ez:KCal P w K mg base 1 CN "Number" ["self","row","low","high"] (fk CN) km kl ko [])(bE:KCal P w K mg base 2 C "Ratio" ["self","top","bottom"] (cy C) dg df di [.int 1])(NV:MCal P w K mg base 1 C "over" ["self","other"] cx PR OT):FnOk P w K mg base (CXV P w) 36 f fd ["one"] (qA C CN CByNought):=by
 obtain⟨Mj,GX,Ic,Ld⟩:=M9;obtain⟨cE,cA,cB,cD⟩:=cU;obtain⟨ME,Hl,IB,Lw⟩:=Nx;obtain⟨aY,aV,aW,aX⟩:=bY;obtain⟨uh,rR,sx,tQ⟩:=uD;obtain⟨Mr,G9,Il,Lk⟩:=Nk;obtain⟨eu,d9,dS,d8,kN,kr⟩:=ez;obtain⟨aR,aQ,aP,bX,bQ,bM⟩:=bE;obtain⟨Ar,xv,zW⟩:=NV;refine F.okV sc_inverse (λvs H Q E h=>?_) (λcdv A outer s H vs Q E hr h=>?_)
 ·obtain⟨x,t,b,l1,l2,h1,h2,rfl,_⟩:=h;rfl
 ·obtain⟨x,t,b,l1,l2,h1,h2,rfl,hN,hL,k1,k2⟩:=h
  refine⟨_,(af (aB (ax cj (ag Mj (hr.mono) rfl GX Ic Ld .nil ad (aa (pv 0) ac)) ae (aw _))
   (ah (DK (C:=CByNought) rfl XE.ownByNought PySem.F.excBase_ValueError))
   aC)
   (af (aj (i:=1) sc_inverse.nd rfl (Or.inl rfl) (ag cE (hr.mono) rfl cA cB cD .nil ad (aa (ag ME (hr.mono) rfl Hl IB Lw .nil ad (aa (aq (K:=K) rfl (pv 0) rfl) ac)) ac)))
   (af (aB (ax cj (ag aY (hr.mono) rfl aV aW aX .nil ad (aa (pv 1) ac)) ae (aw _))
     (ah (am (ag uh (hr.mono) rfl rR sx tQ .nil ad (aa (pv 1) ac))))
     aC)
   (af (aj (i:=2) sc_inverse.nd rfl (Or.inl rfl) (ag Mr (hr.mono) rfl G9 Il Lk .nil ad (aa (pv 0) ac)))
   (ah (am (bz d9 eu (hr.mono) rfl dS d8 .nil ad (aa (pv 1) (aa (bS (bz aQ aR (hr.mono) rfl aP bQ bM ad (aa ae ac)) R.cl xv Ar (hr.mono) zW .nil ad (aa (aq (K:=K) rfl (pv 2) rfl) ac)) (aa (bS (bz aQ aR (hr.mono) rfl aP bQ bM ad (aa ae ac)) R.cl xv Ar (hr.mono) zW .nil ad (aa (aq (K:=K) rfl (pv 2) rfl) ac)) ac)))))))))),?_⟩
  refine aS ⟨_,rfl,x,t,b,l1,l2,h1,h2,rfl,hN,hL,λH1 s1=>⟨_,_,rfl,rfl,_,rfl,aG (λh0=>?_) (λh0=>?_)⟩⟩
  ·have t0:t=0:=by have h0':sg t=0:=h0;rcases fu t with⟨a1,a2⟩ |⟨a1,a2⟩ |⟨a1,a2⟩<;>omega
   exact k2 t0 H1 s1
  have t0:t≠0:=λz=>h0 (by show sg t=0;rw[z];rfl)
  obtain⟨q,l,h,⟨dx,hx⟩,hq,hl,hh,en⟩:=hN.same s1;refine ao ⟨_,rfl,x,CN,dx,_,_,rfl,hx,RN.cl,RN.nP,cL _ _ _,q,[-t,b],rfl,hq,by show 2<=100000;decide,hL.bits.mono,λp H2 s2 hp e2=>?_⟩
  have ef:sM [-t,b]=[b,-t]:=by show trim [b,-t]=[b,-t];exact qd (show Tr [b,-t]from(tr_snoc (r:=[b])).mpr (by omega))
  rw[ef]at e2;refine⟨p,[b,-t],rfl,e2,(tr_snoc (r:=[b])).mpr (by omega),by show 2<=1000000;decide,λp2 H3 s3 hp2 e3=>?_⟩;rw[IV hL t0]at e3;refine aS ⟨_,rfl,p2,_,rfl,e3,_,_,rfl,rfl,_,rfl,aG (λ_=>?_) (λh1=>absurd (show(2:Int)-1=1 by decide) h1)⟩;have t3:=s1.trans (s2.trans s3);refine aA ⟨_,rfl,p2,_,_,rfl,e3,ka hL t0,λy H4 a1 a2 c1 c2 s4 hy hN'=>?_⟩;exact k1 t0 y H4 a1 a2 c1 c2 (t3.trans s4) (t3.free hy) hN'
inductive vH(C CN CB:Addr)(TT:List Site)(vs:List V)(H:Hp)(Q:VK)(E:XK):Prop
 |mk (x y:Addr) (t b t' b':Int):vs=[.ref x,.ref y]->Two2 C CN H x y t b t' b'->TabsOk TT H->(t'≠0->mkT TT C CN H Q (rt (t*cq t' b') (b*cr t' b')) (rb (t*cq t' b') (b*cr t' b')))->(t'=0->∀H',Same H H'->E (.ref CB) none H')->vH C CN CB TT vs H Q E
theorem EV{TT:List Site}(F:Fun K "over" "over" mU f fd)(T:Txt K mg){CByNought CTooHigh CRootError CBelowNought CTooGreat:Addr}(XE:EXC K mg base CByNought CTooHigh CRootError CBelowNought CTooGreat)(uu:Cal P w K mg base 40 "times" ["first","second"] (ir C CN TT λt _ t' _=>t*t') JU JC)(uF:CalV P w K mg base 36 "inverse" ["one"] (qA C CN CByNought) pI JN):FnOk P w K mg base (CXV P w) 41 f fd ["first","second"] (vH C CN CByNought TT):=by
 obtain⟨tZ,rJ,si,tI⟩:=uu;obtain⟨pV,pi,sA,pS⟩:=uF;refine F.okV Cl (λvs H Q E h=>?_) (λcdv A outer s H vs Q E hr h=>?_)
 ·obtain⟨x,y,t,b,t',b',rfl,_⟩:=h;rfl
 ·obtain⟨x,y,t,b,t',b',rfl,⟨⟨l1,l2,h1,h2,n1⟩,⟨m1,m2,k1,k2,n2⟩,L1,L2⟩,hTb,k,kE⟩:=h;refine⟨_,(ah (am (ag tZ (hr.mono) rfl rJ si tI .nil ad (aa (pv 0) (aa (ag pV (hr.mono) rfl pi sA pS .nil (D6 (λ_ _ _ z=>z)) (aa (pv 1) ac)) ac))))),?_⟩;refine aA ⟨_,rfl,_,rfl,y,t',b',m1,m2,k1,k2,rfl,n2.mono,L2,λt0 z H1 a1 a2 c1 c2 s1 hz hN=>?_,kE⟩;refine⟨x,z,t,b,cq t' b',cr t' b',rfl,⟨⟨_,_,_,_,n1.same s1⟩,⟨_,_,_,_,hN⟩,L1,ka L2 t0⟩,hTb.same s1,λxx qq ll hh B H' s' hT hN' hq hE=>?_⟩;exact k t0 xx qq ll hh B H' (s1.t.trans s') hT hN' hq hE
theorem FO(F:Fun K "_law_cell_at" "_law_cell_at" n8 f fd)(T:Txt K mg):FnOk P w K mg base CX0 1 f fd ["_law_script","_law_k"] (je K):=by
 refine F.ok CL (λvs H Q E h=>?_) (λcdv A outer s H vs Q E hr h=>?_)
 ·obtain⟨a,ns,k,rfl,_⟩:=h;rfl
 ·obtain⟨a,ns,n,rfl,hS,k⟩:=h
  refine⟨_,(af (aB (ax dF (pv 1) (aI (cn (K:=K) rfl) (by rfl) T.len_ PySem.boot_len (aa (pv 0) ac)) (aw _))
   (ah (am (ar (aO (K:=K) rfl) (pv 0) (pv 1) (λ_ _=>rfl))))
   aC)
   (ah (am ae))),?_⟩
  refine⟨_,rfl,_,rfl,a,_,rfl,.inl hS,_,_,rfl,rfl,_,rfl,?_⟩;refine aG (λh1=>?_) (λh1=>?_)
  ·rw[PX]at h1;have h2:n<ns.length:=by omega
   refine⟨_,rfl,_,rfl,a,_,_,_,rfl,rfl,hS,iV (v:=.int (ns.getD n 0)) ?_,k⟩;rw[List.getElem?_map,List.getElem?_eq_getElem h2];simp[List.getD,h2]
  ·rw[PX]at h1;have h2:ns.length<=n:=by omega
   have e:ns.getD n 0=0:=by simp[List.getD,List.getElem?_eq_none_iff.mpr h2]
   rw[e]at k;exact k
inductive vm(vs:List V)(H:Hp)(Q:VK)(E:XK):Prop
 |mk (i:Int):vs=[.int i]->Q (.bl true) H->vm vs H Q E
theorem FE(F:Fun K "_law_whole" "_law_whole" nU f fd)(T:Txt K mg):FnOk P w K mg base CX0 1 f fd ["_law_found"] vm:=by
 refine F.ok CH (λvs H Q E h=>?_) (λcdv A outer s H vs Q E hr h=>?_)
 ·obtain⟨i,rfl,_⟩:=h;rfl
 ·obtain⟨i,rfl,k⟩:=h;refine⟨_,(ah (am (f9 (aI (gX (K:=K) rfl) (by rfl) T.isinstance_ PyProof.Rows.boot_isinstance (aa (pv 0) (aa (iI (v:=.ty "int") (by rfl) T.int_ PyProof.Rows.boot_int (by rfl)) ac))) (iH (D1 (aI (gX (K:=K) rfl) (by rfl) T.isinstance_ PyProof.Rows.boot_isinstance (aa (pv 0) (aa (iI (v:=.ty "bool") (by rfl) T.bool_ PyProof.Rows.boot_bool (by rfl)) ac)))))))),?_⟩;refine aA (f6 (gw ⟨_,rfl,j9 (.int i) (k:=true) (by rfl) ⟨_,rfl,dN ?_⟩⟩));refine Do (gw ⟨_,rfl,j9 (.int i) (k:=false) (by rfl) ⟨_,rfl,?_⟩⟩);exact k
inductive vK(vs:List V)(H:Hp)(Q:VK)(E:XK):Prop
 |mk (c:Int):vs=[.int c]->(∀v:Int,v.natAbs<=10^13->Q (.int v) H)->vK vs H Q E
theorem b13:Bits 50 (10^13):=by show((10:Int)^13).natAbs<2^50;decide +kernel
theorem FK(F:Fun K "_law_number" "_law_number" n0 f fd)(T:Txt K mg):FnOk P w K mg base CX0 1 f fd ["_law_cell"] vK:=by
 refine F.ok CK (λvs H Q E h=>?_) (λcdv A outer s H vs Q E hr h=>?_)
 ·obtain⟨c,rfl,_⟩:=h;rfl
 ·obtain⟨c,rfl,k⟩:=h
  refine⟨_,(af (aB (ax cj (ai eE (pv 0) ae) ae (aw _))
   (ah (am (ai bA (ai eE (ai gc (pv 0) ae) (ai aZ (ai av ae (ai oK ae ae)) ae)) (ai oK ae ae))))
   aC)
   (ah (am (ai bA (ai eE (ai gc (pv 0) ae) ae) ae)))),?_⟩
  have three:(0:Int)<3:=by decide
  refine aS ⟨_,rfl,_,_,rfl,rfl,three,_,_,rfl,rfl,_,rfl,aG (λ_=>?_) (λ_=>?_)⟩
  ·refine aA ⟨_,rfl,_,_,rfl,rfl,⟨three,qg⟩,_,_,rfl,rfl,⟨by decide,by decide,by decide⟩,_,_,rfl,rfl,⟨two9.mono,b13.mono⟩,_,_,rfl,rfl,_,_,rfl,rfl,(by show(0:Int)<2*10^13+1;decide),_,_,rfl,rfl,⟨by decide,by decide,by decide⟩,_,_,rfl,rfl,k _ ?_⟩;show(c/3%(2*10^13+1)-10^13:Int).natAbs<=10^13;omega
  ·refine aA ⟨_,rfl,_,_,rfl,rfl,⟨three,qg⟩,_,_,rfl,rfl,(by show(0:Int)<13;decide),_,_,rfl,rfl,k _ ?_⟩;show(c/3%13-6:Int).natAbs<=10^13;omega
inductive vR(vs:List V)(H:Hp)(Q:VK)(E:XK):Prop
 |mk (a d:Addr) (ns:List Int):vs=[.ref a,.ref d]->H a=some (.lst (ns.map V.int))->H d=some (.lst (ns.map V.int))->Q (.bl true) H->vR vs H Q E
theorem FM(F:Fun K "_law_is" "_law_is" n5 f fd)(T:Txt K mg):FnOk P w K mg base CX0 1 f fd ["_law_found","_law_due_here"] vR:=by
 refine F.ok sc__law_is (λvs H Q E h=>?_) (λcdv A outer s H vs Q E hr h=>?_)
 ·obtain⟨a,d,ns,rfl,_⟩:=h;rfl
 ·obtain⟨a,d,ns,rfl,hA,hD,k⟩:=h;have hu:=hr.units
  refine⟨_,(af (aB (dD (cH (aI (gX (K:=K) rfl) (by rfl) T.isinstance_ PyProof.Rows.boot_isinstance (aa (pv 0) (aa (iI (v:=.ty "list") (by rfl) T.list_ PyProof.Rows.boot_list (by rfl)) ac)))))
   (ah (am dQ))
   aC)
   (af (cg PassesOwn.never rfl (dE (K:=K) rfl (pv 0)) (aJ (i:=2) sc__law_is.nd rfl (Or.inl rfl))
     (ah (aB (PW.pt (ju (dD (cH (aI (gX (K:=K) rfl) (by rfl) T.isinstance_ PyProof.Rows.boot_isinstance (aa (pv 2) (aa (iI (v:=.ty "int") (by rfl) T.int_ PyProof.Rows.boot_int (by rfl)) ac))))) (jt (cH (aI (gX (K:=K) rfl) (by rfl) T.isinstance_ PyProof.Rows.boot_isinstance (aa (pv 2) (aa (iI (v:=.ty "bool") (by rfl) T.bool_ PyProof.Rows.boot_bool (by rfl)) ac)))))))
       (ah (am dQ))
       aC)))
   (ah (am (oF (iJ (K:=K) rfl hu) (pv 0) (pv 1) (aw _)))))),?_⟩
  refine aS (dC (jr (gw ⟨_,rfl,j9 (.lst hA) (k:=true) (by rfl) ⟨_,rfl,cG ?_⟩⟩)));refine⟨_,rfl,a,rfl,⟨_,SqL.of hA⟩,pC (K:=K) (a:=a) (xs:=ns.map V.int) (λi σ' H'=>∃z:Option V,σ'=[some (.ref a),some (.ref d),z]/\H=H') ⟨none,rfl,rfl⟩ ?_ ?_ ?_⟩
  ·rintro i σ' H' _ ⟨z,rfl,rfl⟩;exact SqL.of hA
  ·rintro i x σ' H' hi ⟨z,rfl,rfl⟩;obtain⟨y,_,rfl,_,_⟩:=gj hi;refine oo (dC (jr (gw ⟨_,rfl,j9 (.int y) (k:=true) (by rfl) ⟨_,rfl,cG ?_⟩⟩)));exact jr (gw ⟨_,rfl,j9 (.int y) (k:=false) (by rfl) ⟨_,rfl,cG ⟨_,rfl,rfl⟩⟩⟩)
  ·rintro σ' H' ⟨z,rfl,rfl⟩;refine⟨_,rfl,_,rfl,a,d,ns,ns,rfl,rfl,SqL.of hA,SqL.of hD,?_⟩;rw[decide_eq_true rfl];exact k
theorem Jk{x y q:Int}:Nat.gcd y.natAbs (x-y*q).natAbs=Nat.gcd x.natAbs y.natAbs:=by
 apply Nat.dvd_antisymm
 ·have h1:((Nat.gcd y.natAbs (x-y*q).natAbs:Nat):Int)∣y:=QG.mpr (QM _ _);have h2:((Nat.gcd y.natAbs (x-y*q).natAbs:Nat):Int)∣x-y*q:=QG.mpr (QT _ _);refine Nat.dvd_gcd (QG.mp ?_) (QM _ _);have h3:=Int.dvd_add h2 (RO (b:=y) (c:=q) h1);have e:x-y*q+y*q=x:=by omega
  rw[e]at h3;exact h3
 ·have h1:((Nat.gcd x.natAbs y.natAbs:Nat):Int)∣x:=QG.mpr (QM _ _);have h2:((Nat.gcd x.natAbs y.natAbs:Nat):Int)∣y:=QG.mpr (QT _ _);exact Nat.dvd_gcd (QT _ _) (QG.mp (Int.dvd_sub h1 (RO h2)))
theorem Jy{x y:Int}(h:y≠0):(x.fmod y).natAbs<y.natAbs:=by
 have e:=Int.fmod_eq_emod (a:=x) (b:=y);have h1:=Int.emod_nonneg x h;have h2:=Int.emod_lt x h;split at e
 ·omega
 ·next z =>
  have:x%y≠0:=λe0=>z (.inr (Int.dvd_of_emod_eq_zero e0))
  omega
theorem FF(F:Fun K "_law_shared" "_law_shared" nV f fd)(T:Txt K mg):FnOk P w K mg base CX0 1 f fd ["_law_a","_law_b"] sp2:=by
 refine F.ok sc__law_shared (λvs H Q E h=>?_) (λcdv A outer s H vs Q E hr h=>?_)
 ·obtain⟨a,b,rfl,_⟩:=h;rfl
 ·obtain⟨a,b,rfl,k⟩:=h
  refine⟨_,(af (c9 PassesOwn.never (ax gb (pv 1) ae (aw _))
   (af (aj (i:=2) sc__law_shared.nd rfl (Or.inl rfl) (ai Eb (pv 0) (pv 1)))
     (af (aj (i:=0) sc__law_shared.nd rfl (Or.inl rfl) (pv 1))
     (ah (aj (i:=1) sc__law_shared.nd rfl (Or.inl rfl) (pv 2))))))
   (ah (am (aI fO (by rfl) T.abs_ PyProof.Rows.boot_abs (aa (pv 0) ac))))),?_⟩
  refine⟨λm σ' H'=>∃(x y:Int) (z:Option V),σ'=[some (.int x),some (.int y),z]/\H=H'/\y.natAbs=m/\Nat.gcd x.natAbs y.natAbs=Nat.gcd a.natAbs b.natAbs,⟨_,_,_,none,rfl,rfl,rfl,rfl⟩,?_⟩;rintro m σ' H' ⟨x,y,z,rfl,rfl,rfl,hg⟩;refine⟨_,rfl,_,_,rfl,rfl,_,rfl,cO (λhn=>?_) (λh0=>?_)⟩
  ·have hp:y≠0:=hn;refine⟨λσ'' H''=>∃m',m'<y.natAbs/\∃(x' y':Int) (z:Option V),σ''=[some (.int x'),some (.int y'),z]/\H=H''/\y'.natAbs=m'/\Nat.gcd x'.natAbs y'.natAbs=Nat.gcd a.natAbs b.natAbs,λ_ _ h=>h,?_⟩;refine⟨_,rfl,_,rfl,_,_,rfl,rfl,hp,?_⟩;refine⟨_,rfl,?_⟩;refine⟨_,rfl,?_⟩;refine⟨(x.fmod y).natAbs,Jy hp,y,x.fmod y,_,rfl,rfl,rfl,?_⟩;rw[Int.fmod_def,Jk];exact hg
  ·have e:y=0:=h0;subst e;refine⟨_,rfl,_,rfl,?_⟩
   have e2:(if x<0 then -x else x)=((Nat.gcd a.natAbs b.natAbs:Nat):Int):=by rw[iW,<- hg,Int.natAbs_zero,Nat.gcd_zero_right]
   show Q (.int (if x<0 then -x else x)) H;rw[e2];exact k
inductive qD(vs:List V)(H:Hp)(Q:VK)(E:XK):Prop
 |mk (t b:Int):vs=[.int t,.int b]->b≠0->Bits 800 b->(∀p H',Same H H'->H p=none->H' p=some (.lst ([-(rt t b),rb t b].map V.int))->Q (.ref p) H')->qD vs H Q E
theorem y9{t b:Int}(hb:b≠0)(h:Bits 800 b):Bits 9000 (dv t b):=by refine(h.of_le ?_).mono;rw[gq];exact Nat.le_of_dvd (by omega) (QT _ _)
theorem FN(F:Fun K "_law_due" "_law_due" n6 f fd)(T:Txt K mg)(NK:Cal P w K mg base 1 "_law_shared" ["_law_a","_law_b"] sp2 PH OL):FnOk P w K mg base CX0 2 f fd ["_law_top","_law_bottom"] qD:=by
 obtain⟨MN,Hv,IK,LK⟩:=NK;refine F.ok sc__law_due (λvs H Q E h=>?_) (λcdv A outer s H vs Q E hr h=>?_)
 ·obtain⟨t,b,rfl,_⟩:=h;rfl
 ·obtain⟨t,b,rfl,hb,bb,k⟩:=h
  refine⟨_,(af (aj (i:=2) sc__law_due.nd rfl (Or.inl rfl) (ag MN (hr.mono) rfl Hv IK LK .nil ad (aa (pv 0) (aa (pv 1) ac))))
   (af (aB (ax dF (pv 1) ae (aw _))
     (ah (aj (i:=2) sc__law_due.nd rfl (Or.inl rfl) (aU aT (pv 2))))
     aC)
   (ah (am (aK (aa (aU aT (ai oN (pv 0) (pv 2))) (aa (ai oN (pv 1) (pv 2)) ac))))))),?_⟩
  refine ao ⟨_,rfl,_,rfl,t,b,rfl,?_⟩;refine iB (λσ' H'=>σ'=[some (.int t),some (.int b),some (.int (dv t b))]/\H=H') ?_ ?_
  case refine_2 =>
   intro rest;refine⟨_,rfl,_,_,rfl,rfl,_,rfl,aG (λh0=>?_) (λh0=>?_)⟩
   ·have h0':b<0:=h0;refine cz ⟨_,rfl,_,rfl,rest _ _ ⟨?_,rfl⟩⟩;unfold dv;rw[if_pos h0'];rfl
   ·have h0':¬b<0:=h0;refine rest _ _ ⟨?_,rfl⟩;unfold dv;rw[if_neg h0'];rfl
  rintro σ' H' ⟨rfl,rfl⟩;refine aA ⟨_,rfl,_,rfl,_,_,rfl,rfl,⟨gS hb,y9 hb bb⟩,_,rfl,_,rfl,_,rfl,_,_,rfl,rfl,⟨gS hb,y9 hb bb⟩,by show 2<=sizeLine;decide,λp hp=>?_⟩;exact k p _ (Same.upd_new hp) hp ak
inductive vD(C:Addr)(vs:List V)(H:Hp)(Q:VK)(E:XK):Prop
 |mk (r:Addr) (t b:Int):vs=[.ref r]->RA C H r t b->0<b->Q (.bl true) H->vD C vs H Q E
theorem FI(F:Fun K "_law_ratio" "_law_ratio" nY f fd)(T:Txt K mg)(R:RCI K mg C)(NJ:Cal P w K mg base 1 "_law_whole" ["_law_found"] vm PF OK):FnOk P w K mg base CX0 2 f fd ["_law_r"] (vD C):=by
 obtain⟨An,xJ,yf,zS⟩:=NJ;refine F.ok CI (λvs H Q E h=>?_) (λcdv A outer s H vs Q E hr h=>?_)
 ·obtain⟨r,t,b,rfl,_⟩:=h;rfl
 ·obtain⟨p,t,b,rfl,⟨dx,hp⟩,hb,k⟩:=h;refine⟨_,(ah (am (f9 (aI (gX (K:=K) rfl) (by rfl) T.isinstance_ PyProof.Rows.boot_isinstance (aa (pv 0) (aa (f8 (v:=.ref C) rfl R.mg rfl) ac))) (f9 (ag An (hr.mono) rfl xJ yf zS .nil ad (aa (aq (K:=K) rfl (pv 0) rfl) ac)) (f9 (ag An (hr.mono) rfl xJ yf zS .nil ad (aa (aq (K:=K) rfl (pv 0) rfl) ac)) (iH (oF fB (aq (K:=K) rfl (pv 0) rfl) ae (aw _)))))))),?_⟩;refine aA (f6 (gw ⟨_,rfl,yk (.ins hp R.cl R.ha R.hn R.ht R.hm) (k:=true) (by unfold PySem.W.kitOne;rw[if_pos (by simp)]) ⟨_,rfl,dN ?_⟩⟩));refine f6 ⟨_,rfl,p,C,dx,_,_,rfl,hp,R.cl,R.nT,cC _ _,_,rfl,_,rfl,dN ?_⟩;refine f6 ⟨_,rfl,p,C,dx,_,_,rfl,hp,R.cl,R.nB,bG _ _,_,rfl,_,rfl,dN ?_⟩;refine⟨_,rfl,p,C,dx,_,_,rfl,hp,R.cl,R.nB,bG _ _,_,_,rfl,rfl,?_⟩;show Q (.bl (decide (0<b))) H;rw[decide_eq_true hb];exact k
def Rgt(C CN:Addr)(H:Hp)(x:Addr)(t b:Int):Prop:=∃l1 l2 h1 h2,NL 400 C CN H x t b l1 l2 h1 h2
inductive qt(C CN:Addr)(vs:List V)(H:Hp)(Q:VK)(E:XK):Prop
 |mk (x:Addr) (t b:Int):vs=[.ref x,.int t,.int b]->b≠0->Bits 800 t->Bits 800 b->Rgt C CN H x (rt t b) (rb t b)->(∀H',Same H H'->Q (.bl true) H')->qt C CN vs H Q E
theorem FG(F:Fun K "_law_right" "_law_right" nW f fd)(T:Txt K mg)(R:RCI K mg C)(RN:NCI K mg CN)(uK:Cal P w K mg base 2 "_law_due" ["_law_top","_law_bottom"] qD Ka JS)(NS:Cal P w K mg base 1 "_law_is" ["_law_found","_law_due_here"] vR PP OR)(NO:Cal P w K mg base 2 "_law_ratio" ["_law_r"] (vD C) PK ON):FnOk P w K mg base CX0 3 f fd ["_law_n","_law_top","_law_bottom"] (qt C CN):=by
 obtain⟨uk,rV,sC,tT⟩:=uK;obtain⟨MP,Hx,IM,LM⟩:=NS;obtain⟨Ap,xL,yh,zU⟩:=NO;refine F.ok sc__law_right (λvs H Q E h=>?_) (λcdv A outer s H vs Q E hr h=>?_)
 ·obtain⟨x,t,b,rfl,_⟩:=h;rfl
 ·obtain⟨x,t,b,rfl,hb,bt,bb,⟨l1,l2,h1,h2,q,l,h,⟨dx,hx⟩,hq,⟨dl,hl⟩,⟨dh,hh⟩,en⟩,k⟩:=h
  refine⟨_,(af (aj (i:=3) sc__law_right.nd rfl (Or.inl rfl) (ag uk (hr.mono) rfl rV sC tT .nil ad (aa (pv 1) (aa (pv 2) ac))))
   (af (aB (PW.pt (ju (dD (cH (aI (gX (K:=K) rfl) (by rfl) T.isinstance_ PyProof.Rows.boot_isinstance (aa (pv 0) (aa (f8 (v:=.ref CN) rfl RN.mg rfl) ac))))) (jt (dD (cH (ag MP (hr.mono) rfl Hx IM LM .nil ad (aa (aq (K:=K) rfl (pv 0) rfl) (aa (pv 3) ac))))))))
     (ah (am dQ))
     aC)
   (af (aB (PW.pt (ju (dD (cH (ag Ap (hr.mono) rfl xL yh zU .nil ad (aa (aq (K:=K) rfl (pv 0) rfl) ac)))) (jt (dD (cH (ag Ap (hr.mono) rfl xL yh zU .nil ad (aa (aq (K:=K) rfl (pv 0) rfl) ac)))))))
     (ah (am dQ))
     aC)
   (af (aB (ax oM (ai av (aq (K:=K) rfl (aq (K:=K) rfl (pv 0) rfl) rfl) (ar (aO (K:=K) rfl) (pv 3) ae (λ_ _=>rfl))) (ai av (aU aT (ar (aO (K:=K) rfl) (pv 3) ae (λ_ _=>rfl))) (aq (K:=K) rfl (aq (K:=K) rfl (pv 0) rfl) rfl)) (aw _))
     (ah (am dQ))
     aC)
   (ah (am (oF oM (ai av (aq (K:=K) rfl (aq (K:=K) rfl (pv 0) rfl) rfl) (ar (aO (K:=K) rfl) (pv 3) ae (λ_ _=>rfl))) (ai av (aU aT (ar (aO (K:=K) rfl) (pv 3) ae (λ_ _=>rfl))) (aq (K:=K) rfl (aq (K:=K) rfl (pv 0) rfl) rfl)) (aw _)))))))),?_⟩
  have b1:=cM hb bt;have b2:=cP (t:=t) hb bb;generalize hT:rt t b=u at hq en b1
  generalize hB:rb t b=v at hq en b2
  refine ao ⟨_,rfl,_,rfl,t,b,rfl,hb,bb,λp H1 s1 hp e1=>?_⟩;rw[hT,hB]at e1;have hx1:=s1 _ _ hx;have hq1:=s1 _ _ hq;have hl1:=s1 _ _ hl;have hh1:=s1 _ _ hh;refine aS (oo (dC (jr (gw ⟨_,rfl,yk (.ins hx1 RN.cl RN.ha RN.hn RN.ht RN.hm) (k:=true) (by unfold PySem.W.kitOne;rw[if_pos (by simp)]) ⟨_,rfl,cG ?_⟩⟩))));refine dC ⟨_,rfl,x,CN,dx,_,_,rfl,hx1,RN.cl,RN.nP,cL _ _ _,_,rfl,q,p,[-u,v],rfl,hq1,e1,_,rfl,cG ?_⟩;refine aS (oo (dC ⟨_,rfl,x,CN,dx,_,_,rfl,hx1,RN.cl,RN.nL,kj _ _ _,l,l1,l2,rfl,⟨dl,hl1⟩,en.l2p,_,rfl,cG ?_⟩));refine dC ⟨_,rfl,x,CN,dx,_,_,rfl,hx1,RN.cl,RN.nH,iR _ _ _,h,h1,h2,rfl,⟨dh,hh1⟩,en.h2p,_,rfl,cG ?_⟩;refine aS ⟨_,rfl,x,CN,dx,_,_,rfl,hx1,RN.cl,RN.nL,kj _ _ _,l,C,dl,_,_,rfl,hl1,R.cl,R.nT,cC _ _,_,rfl,p,_,_,_,rfl,rfl,SqL.of e1,rfl,_,_,rfl,rfl,⟨en.bl1.mono,b2.mono⟩,_,rfl,p,_,_,_,rfl,rfl,SqL.of e1,rfl,_,rfl,_,rfl,x,CN,dx,_,_,rfl,hx1,RN.cl,RN.nL,kj _ _ _,l,C,dl,_,_,rfl,hl1,R.cl,R.nB,bG _ _,_,_,rfl,rfl,⟨(by rw[Q1];exact b1.mono),en.bl2.mono⟩,_,_,rfl,rfl,_,rfl,aG (λz=>?_) (λ_=>?_)⟩
  ·have z':l1*v ≥ - -u*l2:=z;rw[Q1]at z';have:=en.lo;omega
  refine aA ⟨_,rfl,x,CN,dx,_,_,rfl,hx1,RN.cl,RN.nH,iR _ _ _,h,C,dh,_,_,rfl,hh1,R.cl,R.nT,cC _ _,_,rfl,p,_,_,_,rfl,rfl,SqL.of e1,rfl,_,_,rfl,rfl,⟨en.bh1.mono,b2.mono⟩,_,rfl,p,_,_,_,rfl,rfl,SqL.of e1,rfl,_,rfl,_,rfl,x,CN,dx,_,_,rfl,hx1,RN.cl,RN.nH,iR _ _ _,h,C,dh,_,_,rfl,hh1,R.cl,R.nB,bG _ _,_,_,rfl,rfl,⟨(by rw[Q1];exact b1.mono),en.bh2.mono⟩,_,_,rfl,rfl,?_⟩;have e : - -u*h2<=h1*v:=by rw[Q1];exact en.hi
  show Q (.bl (decide (- -u*h2<=h1*v))) H1;rw[decide_eq_true e];exact k H1 s1
inductive vO(C CN:Addr)(vs:List V)(H:Hp)(Q:VK)(E:XK):Prop
 |mk (t b c:Int):vs=[.int t,.int b,.int c]->0<b->t.natAbs<=10^13->b<=10^13+1->o7 C CN H Q (rt t b) (rb t b)->vO C CN vs H Q E
theorem dj{k:Nat}{x:Int}{m:Nat}(h:x.natAbs<=m)(hm:m<2^k):Bits k x:=Ri h hm
theorem rX{t b:Int}(hb:0<b)(h1:t.natAbs<=10^13)(h2:b<=10^13+1):LinS (rt t b) (rb t b) :=
 ⟨bJ (by omega),iC (by omega),cM (by omega) (dj h1 (by decide)),cP (by omega) (dj (m:=10^13+1) (by omega) (by decide))⟩
theorem FL(F:Fun K "_law_made" "_law_made" n4 f fd)(T:Txt K mg)(R:RCI K mg C)(RN:NCI K mg CN)(uG:Cal P w K mg base 39 "fraction" ["ratio"] (qB C CN) J6 JO)(bE:KCal P w K mg base 2 C "Ratio" ["self","top","bottom"] (cy C) dg df di [.int 1])(uK:Cal P w K mg base 2 "_law_due" ["_law_top","_law_bottom"] qD Ka JS)(ez:KCal P w K mg base 1 CN "Number" ["self","row","low","high"] (fk CN) km kl ko []):FnOk P w K mg base CX0 40 f fd ["_law_top","_law_bottom","_law_cell"] (vO C CN):=by
 obtain⟨uj,rT,sB,tS⟩:=uG;obtain⟨aR,aQ,aP,bX,bQ,bM⟩:=bE;obtain⟨uk,rV,sC,tT⟩:=uK;obtain⟨eu,d9,dS,d8,kN,kr⟩:=ez;refine F.ok sc__law_made (λvs H Q E h=>?_) (λcdv A outer s H vs Q E hr h=>?_)
 ·obtain⟨t,b,c,rfl,_⟩:=h;rfl
 ·obtain⟨t,b,c,rfl,hb,ht,hb1,k⟩:=h
  refine⟨_,(af (aB (ax cj (ai eE (pv 2) ae) ae (aw _))
   (ah (am (ag uj (hr.mono) rfl rT sB tS .nil ad (aa (bz aQ aR (hr.mono) rfl aP bX .nil ad (aa (pv 0) (aa (pv 1) ac))) ac))))
   aC)
   (af (aj (i:=3) sc__law_made.nd rfl (Or.inl rfl) (ai aZ ae (ai eE (ai gc (pv 2) ae) ae)))
   (af (aj (i:=4) sc__law_made.nd rfl (Or.inl rfl) (bz aQ aR (hr.mono) rfl aP bX .nil ad (aa (ai bA (ai av (pv 0) ae) (ai av (pv 3) (pv 1))) (aa (ai av (pv 1) ae) ac))))
   (af (aj (i:=5) sc__law_made.nd rfl (Or.inl rfl) (bz aQ aR (hr.mono) rfl aP bX .nil ad (aa (ai aZ (ai av (pv 0) ae) (ai av (ai av (ai bA (ai eE (pv 2) ae) ae) (pv 3)) (pv 1))) (aa (ai av (pv 1) ae) ac))))
   (ah (am (bz d9 eu (hr.mono) rfl dS d8 .nil ad (aa (ag uk (hr.mono) rfl rV sC tT .nil ad (aa (pv 0) (aa (pv 1) ac))) (aa (pv 4) (aa (pv 5) ac)))))))))),?_⟩
  have L:=rX hb ht hb1;have b0:b≠0:=by omega
  have b60t:Bits 44 t:=dj ht (by decide);have b60b:Bits 44 b:=dj (m:=10^13+1) (by omega) (by decide);have s7:Bits 3 (7:Int):=by show(7:Int).natAbs<2^3;decide
  have three:(0:Int)<3:=by decide
  refine aS ⟨_,rfl,_,_,rfl,rfl,three,_,_,rfl,rfl,_,rfl,aG (λh0=>?_) (λh0=>?_)⟩
  ·refine aA ⟨_,rfl,_,rfl,cI (t:=t) (b:=b) b0 (b60b.mono) λr H1 s1 hr1 hR1=>?_⟩;refine⟨r,_,_,rfl,hR1,L.big,λx q l h B H4 s4 hx hN hq hE b6=>?_⟩;have bB:=b6 L.2.2.1;obtain⟨e1,e2,_,e4,e5⟩:=hE;have b1:Bits 60 (1:Int):=Bits.mono (j:=1) (by show(1:Int).natAbs<2^1;decide) (by decide);have e6:(B-1)*rb t b=B*rb t b-rb t b:=by grind
   have e7 : -B*rb t b = -(B*rb t b):=by grind
   have hp:=L.1;exact k x H4 (-B) 1 B 1 (s1.trans s4) (s1.free hx) ⟨q,l,h,hN,hq,e1,e2,by decide,by decide,bB.neg,b1,bB,b1,by rw[e7,Qw];omega,by rw[Qw];omega⟩
  have h0':¬c%3=0:=h0;refine ao ⟨_,rfl,_,_,rfl,rfl,⟨three,qg⟩,_,_,rfl,rfl,(by show(0:Int)<50;decide),_,_,rfl,rfl,?_⟩;show ci _ _ _ _ _;refine oq (λσ' H'=>∃wd:Int,0<wd/\wd<=50/\σ'=[some (.int t),some (.int b),some (.int c),some (.int wd),none,none]/\H=H') ⟨1+c/3%50,by omega,by omega,rfl,rfl⟩ ?_;rintro σ' H' ⟨wd,w0,w1,rfl,rfl⟩;have bw:Bits 6 wd:=dj (m:=50) (by omega) (by decide);have d7:b*7≠0:=by omega
  have t7:Bits 47 (t*7):=b60t.mul s7;have b7:Bits 47 (b*7):=b60b.mul s7;have wb:Bits 50 (wd*b):=bw.mul b60b;refine ao ⟨_,rfl,_,_,rfl,rfl,⟨b60t.mono,s7.mono⟩,_,rfl,_,rfl,_,_,rfl,rfl,⟨bw.mono,b60b.mono⟩,_,_,rfl,rfl,_,rfl,_,_,rfl,rfl,⟨b60b.mono,s7.mono⟩,cI (t:=t*7-wd*b) (b:=b*7) d7 (b7.mono) λxl H1 s1 hxl hR1=>?_⟩;obtain⟨m,hm,em⟩:∃m:Int,(m=0\/m=1)/\c%3-1=m:=⟨c%3-1,by omega,rfl⟩;have bm:Bits 1 m:=by rcases hm with rfl |rfl<;>(show Int.natAbs _<2^1;decide)
  have mw:Bits 7 (m*wd):=bm.mul bw;have mwb:Bits 51 (m*wd*b):=mw.mul b60b;refine ao ⟨_,rfl,_,_,rfl,rfl,⟨b60t.mono,s7.mono⟩,_,rfl,_,_,rfl,rfl,three,_,_,rfl,rfl,_,rfl,_,_,rfl,rfl,⟨by rw[em];exact bm.mono,bw.mono⟩,_,rfl,_,_,rfl,rfl,⟨by rw[em];exact mw.mono,b60b.mono⟩,_,_,rfl,rfl,_,rfl,_,_,rfl,rfl,⟨b60b.mono,s7.mono⟩,cI (t:=t*7+(c%3-1)*wd*b) (b:=b*7) d7 (b7.mono) λxh H2 s2 hxh hR2=>?_⟩;rw[em]at hR2;refine aA ⟨_,rfl,_,rfl,t,b,rfl,b0,b60b.mono,λp H3 s3 hp3 e3=>?_⟩;refine⟨_,rfl,_,rfl,rH e3 λy q H4 s4 hy hN hq=>?_⟩;have tt:=s1.trans (s2.trans s3);refine k y H4 _ _ _ _ (tt.trans s4) (tt.free hy) ⟨q,xl,xh,hN,hq,(hR1.same (s2.trans s3)).same s4,(hR2.same s3).same s4,bJ d7,bJ d7,cM d7 ((t7.mono (by decide:47<=50)).sub wb |>.mono),cP d7 (b7.mono),cM d7 ((t7.mono (by decide:47<=51)).add mwb |>.mono),cP d7 (b7.mono),?_,?_⟩
  ·have c1:=ce (t:=t*7-wd*b) d7;have c2:=ce (t:=t) b0;have p1:0<rb (t*7-wd*b) (b*7):=bJ d7;have p2:=L.1;generalize rt (t*7-wd*b) (b*7)=l1 at *
   generalize rb (t*7-wd*b) (b*7)=l2 at *
   generalize rt t b=u at *
   generalize rb t b=v at *
   have e:(b*7)*(u*l2-l1*v)=wd*b*(l2*v):=by grind
   have q:0<(b*7)*(u*l2-l1*v):=by rw[e];exact P5 (P5 w0 hb) (P5 p1 p2)
   have:=Int.pos_of_mul_pos_right q (by omega);omega
  ·have c1:=ce (t:=t*7+m*wd*b) d7;have c2:=ce (t:=t) b0;have p1:0<rb (t*7+m*wd*b) (b*7):=bJ d7;have p2:=L.1;generalize rt (t*7+m*wd*b) (b*7)=l1 at *
   generalize rb (t*7+m*wd*b) (b*7)=l2 at *
   generalize rt t b=u at *
   generalize rb t b=v at *
   have e:(b*7)*(l1*v-u*l2)=m*(wd*b*(l2*v)):=by grind
   have q0:0<wd*b*(l2*v):=P5 (P5 w0 hb) (P5 p1 p2)
   have q:0<=(b*7)*(l1*v-u*l2):=by
    rw[e];rcases hm with rfl |rfl
    ·rw[Ra];exact Int.le_refl _
    ·rw[Qn];omega
   rcases Int.lt_or_le (l1*v) (u*l2)with z |z
   ·have:=P5 (show 0<b*7 by omega) (show 0<u*l2-l1*v by omega);have e9:(b*7)*(l1*v-u*l2) = -((b*7)*(u*l2-l1*v)):=by grind
    omega
   ·exact z
def vU(Φ:Hp->Prop)(Rl:Hp->Hp->Prop)(x CB:Addr):Sp:=λvs H _ E=>vs=[.ref x]/\Φ H/\∀H',Rl H H'->E (.ref CB) none H'
inductive vC(P:Program)(w:World)(K:PySem.W.Frag)(mg:Str->Option Value)(base:Heap)(CB:Addr)(vs:List V)(H:Hp)(Q:VK)(E:XK):Prop
 |mk (f x:Addr) (Φ:Hp->Prop) (Rl:Hp->Hp->Prop):vs=[.ref f,.ref x]->FnV K H f->CloOk P w K mg base (CXV P w) 42 f (vU Φ Rl x CB) H->Φ H->(∀(ea:Addr) (o:Obj) (H' H'':Hp),Rl H H'->H' ea=none->Same (told [(ea,o)] H') H''->Q (.bl true) H'')->vC P w K mg base CB vs H Q E
theorem HJ{i j:Nat}:∀(_:Addr) (_:Obj) (D:Ends) (σ:St) (H:Hp),j<σ.length->cZ (lE i) (cS j) D σ H->cZ (lE i) (cS j) { D with nx:=λσ'' H''=>D.nx σ'' H''/\σ''[j]?=σ[i]? } σ H:=λ_ _ D σ H hl h=>by obtain⟨v,e,q⟩:=h;exact⟨v,e,q,by rw[List.getElem?_set_self hl];exact e.symm⟩
theorem HK{A B C D:Addr}(h1:PySem.W.kitOne K (.ref D) (.ref A)=some false)(h2:PySem.W.kitOne K (.ref D) (.ref B)=some false)(h3:PySem.W.kitOne K (.ref D) (.ref C)=some false):PySem.W.kitAny K (.ref D) ([A,B,C].map Value.ref)=some false:=by show PySem.W.kitAny K (.ref D) [.ref A,.ref B,.ref C]=some false;unfold PySem.W.kitAny;rw[h1];show PySem.W.kitAny K (.ref D) [.ref B,.ref C]=some false;unfold PySem.W.kitAny;rw[h2];show PySem.W.kitAny K (.ref D) [.ref C]=some false;unfold PySem.W.kitAny;rw[h3];rfl
theorem Bc(H:Hp)(a:Addr)(o:Obj):told [(a,o)] H a=some (ay a o):=by unfold told;simp
theorem FH(F:Fun K "_law_refused" "_law_refused" nX f fd)(T:Txt K mg){CByNought CTooHigh CRootError CBelowNought CTooGreat:Addr}(XE:EXC K mg base CByNought CTooHigh CRootError CBelowNought CTooGreat):FnOk P w K mg base CX0 43 f fd ["_law_way","_law_n"] (vC P w K mg base CByNought):=by
 refine F.ok sc__law_refused (λvs H Q E h=>?_) (λcdv A outer s H vs Q E hr h=>?_)
 ·obtain⟨f,x,Φ,Rl,rfl,_⟩:=h;rfl
 ·obtain⟨f,x,Φ,Rl,rfl,hf,hc,hΦ,k⟩:=h
  refine⟨_,(af (DJ rfl rfl rfl (D5 (DH (i:=0) (k:=42) (sp:=vU Φ Rl x CByNought) (hr.mono) (λ_=>(aa (pv 1) ac))) sc__law_refused.nd (i:=2) rfl (Or.inl rfl)) (λ_ _=>rfl) XE.mgRootError sc__law_refused.nd (i:=3) rfl rfl (λea oe=>(ah (aj (i:=2) sc__law_refused.nd rfl (Or.inl rfl) (pv 3)))) (j:=2) ⟨_,rfl⟩ HJ (by decide))
   (af (aB (cH (aI KP (by rfl) T.isinstance_ PyProof.Rows.boot_isinstance (aa (pv 2) (aa (dP (aa (f8 (v:=.ref CBelowNought) rfl XE.mgBelowNought rfl) (aa (f8 (v:=.ref CTooGreat) rfl XE.mgTooGreat rfl) (aa (f8 (v:=.ref CTooHigh) rfl XE.mgTooHigh rfl) ac)))) ac))))
     (ah (am dQ))
     aC)
   (ah (am (f9 (aI zD (by rfl) T.isinstance_ PyProof.Rows.boot_isinstance (aa (pv 2) (aa (f8 (v:=.ref CByNought) rfl XE.mgByNought rfl) ac))) (iH (aI zD (by rfl) T.isinstance_ PyProof.Rows.boot_isinstance (aa (pv 2) (aa (iI (v:=.ty "ValueError") (by rfl) T.ValueError_ PyProof.Rows.boot_ValueError (by rfl)) ac))))))))),?_⟩
  refine⟨f,rfl,hf,_,rfl,hf,hc,rfl,hΦ,λH' hR=>⟨XE.hit_ByNought_RootError,λea oe vs hcls hd hdat hn=>⟨_,rfl,?_⟩⟩⟩;intro ea' o he hn' hc';cases he;have s0:told [(ea,o)] H' ea=some (ay ea o):=Bc _ _ _;dsimp only
  refine aS (jr (qP ?_));refine⟨_,rfl,by show 3<=sizeLine;decide,λp hp=>?_⟩;have s1:=Same.upd_new (o:=.tup [.ref CBelowNought,.ref CTooGreat,.ref CTooHigh]) hp;have s1a:=s1 _ _ s0;refine⟨ea,CByNought,p,o,[CBelowNought,CTooGreat,CTooHigh],false,rfl,ak,s1a,hc',XE.clsByNought,HK XE.is_ByNought_BelowNought XE.is_ByNought_TooGreat XE.is_ByNought_TooHigh,_,rfl,cG ?_⟩;refine aA (f6 (qP ?_));refine⟨_,rfl,ea,CByNought,o,.ref CByNought,.ref CByNought,true,rfl,λ_ z=>z,s1a,hc',XE.clsByNought,XE.is_ByNought_ByNought,_,rfl,dN (qP ?_)⟩;exact⟨_,rfl,ea,CByNought,o,.type "ValueError",.ty "ValueError",true,rfl,λ_ z=>z,s1a,hc',XE.clsByNought,XE.is_ByNought_ValueError,k ea o H' _ hR hn s1⟩
theorem CloOk.weak{CX:CXT}{n:Nat}{f:Addr}{sp sp':Sp}{H:Hp}(c:CloOk P w K mg base CX n f sp H)(h:∀vs H Q E,sp' vs H Q E->sp vs H Q E):CloOk P w K mg base CX n f sp' H:=λA outer s H' us vs Q E hr sT e0 r hs=>c A outer s H' us vs Q E hr sT e0 r (h _ _ _ _ hs)
theorem qI{l:List (Addr×Obj)}{H G:Hp}(k3:∀p∈l,H p.1=some (ay p.1 p.2))(r:Same (era (l.map (·.1)) H) G):Same H (told l G):=λb o e=>by
 by_cases hb:b∈l.map (·.1)
 ·obtain⟨o',eo⟩:=xR hb;have:=k3 _ (jI eo);rw[e]at this;show told l G b=some o;unfold told;rw[eo];exact this.symm
 ·rw[fi λp hp y=>hb (P4.mpr ⟨p,hp,y⟩)];exact r _ _ (by unfold era;rw[if_neg hb];exact e)
theorem jn{t b u v:Int}(hb:b≠0)(hv:0<v)(hg:Nat.gcd u.natAbs v.natAbs=1)(e:t*v=u*b):rt t b=u/\rb t b=v:=by
 have c:=ce (t:=t) hb;have g:=iC (t:=t) hb;have p:=bJ (t:=t) hb;generalize rt t b=x at *
 generalize rb t b=y at *
 have e1:x*v=u*y:=by
  have:b*(x*v)=b*(u*y):=by grind
  exact Rb hb this
 have e2:x.natAbs*v.natAbs=u.natAbs*y.natAbs:=by rw[<- QD,<- QD,e1]
 have d1:v.natAbs∣y.natAbs:=Nat.Coprime.dvd_of_dvd_mul_left (k:=v.natAbs) (m:=u.natAbs) (by rw[Nat.coprime_comm];exact hg) ⟨x.natAbs,by rw[<- e2,Nat.mul_comm]⟩;have d2:y.natAbs∣v.natAbs:=Nat.Coprime.dvd_of_dvd_mul_left (k:=y.natAbs) (m:=x.natAbs) (by rw[Nat.coprime_comm];exact g) ⟨u.natAbs,by rw[e2,Nat.mul_comm]⟩;have ey:y=v:=by have:=Nat.dvd_antisymm d2 d1;omega
 subst ey;exact⟨Int.eq_of_mul_eq_mul_right (by omega) e1,rfl⟩
theorem wz{C CN:Addr}{H:Hp}{x q l h:Addr}{t b B:Int}(hN:NA CN H x q l h)(hq:H q=some (.lst ([-t,b].map V.int)))(hE:Ends2 C H l h t b B)(hb:0<b):Rgt C CN H x t b:=by
 obtain⟨e1,e2,e3,e4,e5⟩:=hE;have b1:Bits 400 (1:Int):=Bits.mono (j:=1) (by show(1:Int).natAbs<2^1;decide) (by decide);have e6:(B-1)*b=B*b-b:=by grind
 have e7 : -B*b = -(B*b):=by grind
 exact⟨-B,1,B,1,q,l,h,hN,hq,e1,e2,by decide,by decide,e3.neg,b1,e3,b1,by rw[e7,Qw];omega,by rw[Qw];omega⟩
theorem ym(t b:Int):cq t b*t=b*cr t b:=by unfold cq cr;split<;>grind
theorem IW{c e:Int}(hc:c≠0)(he:0<e)(L:LinS (rt c e) (rb c e))(t0:rt c e≠0):rt e c=cq (rt c e) (rb c e)/\rb e c=cr (rt c e) (rb c e):=by
 have i:=ka L t0;refine jn hc i.1 i.2.1 ?_;have c1:=ce (t:=c) (b:=e) (by omega);have c2:=ym (rt c e) (rb c e);have p:=L.1;generalize cq (rt c e) (rb c e)=u at *
 generalize cr (rt c e) (rb c e)=v at *
 generalize rt c e=t at *
 generalize rb c e=b at *
 exact Rb (a:=b) (by omega) (by grind)
theorem D9{a b c e:Int}(hb:0<b)(hc:c≠0)(he:0<e)(L1:LinS (rt a b) (rb a b))(L:LinS (rt c e) (rb c e))(t0:rt c e≠0):rt (a*e) (b*c)=rt (rt a b*cq (rt c e) (rb c e)) (rb a b*cr (rt c e) (rb c e))/\rb (a*e) (b*c)=rb (rt a b*cq (rt c e) (rb c e)) (rb a b*cr (rt c e) (rb c e)):=by
 have i:=ka L t0;have c1:=ce (t:=c) (b:=e) (by omega);have c2:=ym (rt c e) (rb c e);have c3:=ce (t:=a) (b:=b) (by omega);have p:=L.1;have p1:=L1.1;have i1:=i.1;have hD:rb a b*cr (rt c e) (rb c e)≠0:=P9 (P5 p1 i1);have c4:=ce (t:=rt a b*cq (rt c e) (rb c e)) hD;refine jn (by intro z;rcases Rk.mp z with z |z<;>omega) (bJ hD) (iC hD) ?_;generalize rt (rt a b*cq (rt c e) (rb c e)) (rb a b*cr (rt c e) (rb c e))=N at *
 generalize rb (rt a b*cq (rt c e) (rb c e)) (rb a b*cr (rt c e) (rb c e))=D at *
 generalize cq (rt c e) (rb c e)=u at *
 generalize cr (rt c e) (rb c e)=v at *
 generalize rt c e=t at *
 generalize rb c e=r at *
 generalize rt a b=t1 at *
 generalize rb a b=r1 at *
 refine Rb (a:=r1*v*r) (P9 (P5 (P5 p1 i1) p)) ?_;have e1:r1*v*r*(a*e*D)=(a*r1)*(r*v)*(D*e):=by grind
 have e2:r1*v*r*(N*(b*c))=(N*(r1*v))*(b*(c*r)):=by grind
 rw[e1,e2,c4,<- c3,<- c1,<- c2];grind
inductive vI(C CN:Addr)(TT:List Site)(vs:List V)(H:Hp)(Q:VK)(E:XK):Prop
 |mk (a b c e:Int) (x y:Addr):vs=[.int a,.int b,.int c,.int e,.ref x,.ref y]->0<b->0<e->a.natAbs<=10^13->b<=10^13+1->c.natAbs<=10^13->e<=10^13+1->Two2 C CN H x y (rt a b) (rb a b) (rt c e) (rb c e)->TabsOk TT H->(∀H',SameT H H'->Q (.bl true) H')->vI C CN TT vs H Q E
theorem FJ{C CN c₀ f:Addr}{fd:FuncData}{TT:List Site}{q:Site}(F:FunL K "_law_over" "_law_over" nZ c₀ f fd)(T:Txt K mg)(R:RCI K mg C)(RN:NCI K mg CN)(LA:LamAt TT mg base c₀ q ⟨569,66,569,103⟩ "_law_over"){CByNought CTooHigh CRootError CBelowNought CTooGreat:Addr}(XE:EXC K mg base CByNought CTooHigh CRootError CBelowNought CTooGreat)(NM:Cal P w K mg base 43 "_law_refused" ["_law_way","_law_n"] (vC P w K mg base CByNought) PJ OM)(uF:CalV P w K mg base 36 "inverse" ["one"] (qA C CN CByNought) pI JN)(Ni:CalV P w K mg base 41 "over" ["first","second"] (vH C CN CByNought TT) Pd Oj)(uJ:Cal P w K mg base 3 "_law_right" ["_law_n","_law_top","_law_bottom"] (qt C CN) J9 JR)(hfv:∃oc od fd sl,K.lookup pI=some ⟨oc,od,.func fd,sl⟩):FnOk P w K mg base CX0 44 f fd ["_law_a","_law_b","_law_c","_law_e","_law_one","_law_other"] (vI C CN TT):=by
 obtain⟨Ao,xK,yg,zT⟩:=NM;obtain⟨pV,pi,sA,pS⟩:=uF;obtain⟨Ak,xG,yc,zP⟩:=Ni;obtain⟨e8,eM,eQ,eW⟩:=uJ;refine F.ok CJ (λvs H Q E h=>?_) (λA outer s H vs Q E hr h=>?_)
 ·obtain⟨a,b,c,e,x,y,rfl,_⟩:=h;rfl
 ·obtain⟨a,b,c,e,x,y,rfl,hb,he,ha1,hb1,hc1,he1,⟨⟨l1,l2,h1,h2,n1⟩,⟨m1,m2,k1,k2,n2⟩,L1,L2⟩,hTb,k⟩:=h
  refine⟨_,(af (aB (ax cj (pv 2) ae (aw _))
   (ah (am (f9 (ag Ao (hr.mono) rfl xK yg zT .nil ad (aa (f8 (v:=.ref pI) (by rfl) pi rfl) (aa (pv 5) ac))) (iH (jz (cl:=[("_law_one",_)]) (js:=[4]) Ao (hr.mono) rfl xK yg zT .nil (jB (E:=E0)) ⟨rfl,rfl,rfl,rfl,trivial⟩ (aa (jy (clos:=[("_law_one",_)]) LA.lb LA.cd rfl LA.mem LA.dis LA.ps LA.nm (by rfl)) (aa (pv 5) ac)))))))
   aC)
   (ah (am (f9 (ag e8 (hr.mono) rfl eM eQ eW .nil ad (aa (ag Ak (hr.mono) rfl xG yc zP .nil wT (aa (pv 4) (aa (pv 5) ac))) (aa (ai av (pv 0) (pv 3)) (aa (ai av (pv 1) (pv 2)) ac)))) (iH (ag e8 (hr.mono) rfl eM eQ eW .nil ad (aa (ag pV (hr.mono) rfl pi sA pS .nil wT (aa (pv 5) ac)) (aa (pv 3) (aa (pv 2) ac))))))))),?_⟩
  refine aS ⟨_,rfl,_,_,rfl,rfl,_,rfl,aG (λh0=>?_) (λh0=>?_)⟩
  ·have c0:c=0:=h0
   have t0:rt c e=0:=by have:=(jn (t:=c) (b:=e) (u:=0) (v:=1) (by omega) (by decide) (by decide) (by rw[c0];omega)).1;exact this
   refine aA (f6 ⟨_,rfl,pI,y,λG=>NL 60 C CN G y (rt c e) (rb c e) m1 m2 k1 k2,Same,rfl,.inr hfv,CloOk.mono (CloOk.weak (FnOk.clo pV pS) λvs H Q E h=>?_) (by decide),n2,λea o H1 H2 r1 hn s1=>⟨_,rfl,dN ?_⟩⟩)
   ·obtain⟨rfl,hΦ,hE⟩:=h;exact⟨y,_,_,m1,m2,k1,k2,rfl,hΦ.mono,L2,λz=>absurd t0 z,λ_=>hE⟩
   have s12:Same H H2:=r1.trans ((fY (l:=[(ea,o)]) (λp hp=>by rw[Qc.mp hp];exact hn)).trans s1);refine⟨hTb.same s12,λfl H3 s3 hfl hT3 hCl=>⟨_,rfl,iA ⟨?_,λl hcl hln hlt=>?_⟩⟩⟩
   ·intro j hj;simp only[P8,Qv,or_false]at hj;subst hj;exact⟨_,rfl⟩
   have stl:=jk hln;have v3:=(s12.t.trans s3).trans stl;have hcH:=pR hcl hlt;have cloO:=hCl.sameT stl;refine⟨fl,y,λG=>TabsOk TT G,SameT,rfl,cloO.fnv,CloOk.mono (CloOk.toV (l:=l) (pM (CX:=CXL P w l) (k:=41) cloO hcH ?_ ⟨rfl,rfl,rfl,rfl,by decide +kernel,by show ∀y:Str×NameKind,y∈_->y.2=NameKind.free->y.1∈(["_law_one"]:List Str);decide +kernel,by show ∀y:Str,y∈(["_law_one"]:List Str)->_;decide +kernel,by show(["_law_one"]:List Str).Nodup;decide +kernel⟩ (λ_ _ _ _=>rfl) (λvs H Q E h=>?_) (λcd A outer s' H' v Q' E' hr sT hc hsp=>?_)) hlt) (by decide),hT3.same (fY hln),λea2 o2 H4 H5 r4 hn4 s5=>?_⟩
   ·simp
   ·obtain⟨rfl,_⟩:=h;exact⟨_,rfl⟩
   ·obtain⟨ev,g2,hE⟩:=hsp;obtain rfl:v=.ref y:=by injection ev
    refine⟨_,(ag Ak (hr.mono) rfl xG yc zP .nil D7 (aa (pv 1) (aa (pv 0) ac))),?_⟩;obtain⟨k1',k2',k3'⟩:=hc.keys;have kk:∀p∈l,H' p.1=some (ay p.1 p.2):=λp hp=>(k3' p hp).1
    have cc:=gs kk;have w1:=NL.era cc (n1.sameT (v3.trans sT));have w2:=NL.era cc (n2.sameT (v3.trans sT));refine⟨_,rfl,_,rfl,x,y,_,_,_,_,rfl,⟨⟨_,_,_,_,w1⟩,⟨_,_,_,_,w2⟩,L1,L2⟩,i6 g2 kk (kx hcl),λz=>absurd t0 z,λ_ G r _=>hE _ (qI kk r).t⟩
   ·have s45:SameT (told l H3) H5:=r4.trans ((fY (l:=[(ea2,o2)]) (λp hp=>by rw[Qc.mp hp];exact hn4)).trans s5).t;exact⟨eV hlt s45,k _ ((s12.t.trans s3).trans (lV hln s45))⟩
  ·have c0:c≠0:=h0
   have t0:rt c e≠0:=λz=>by
    have h1:=ce (t:=c) (b:=e) (by omega);rw[z,Ra]at h1;have h2:=bJ (t:=c) (b:=e) (by omega);rcases Rk.mp h1.symm with q |q
    ·exact c0 q
    ·omega
   have ba:Bits 44 a:=dj ha1 (by decide);have bb:Bits 44 b:=dj (m:=10^13+1) (by omega) (by decide);have bc:Bits 44 c:=dj hc1 (by decide);have be:Bits 44 e:=dj (m:=10^13+1) (by omega) (by decide);obtain⟨o1,o2⟩:=D9 hb c0 he L1 L2 t0;obtain⟨i1,i2⟩:=IW c0 he L2 t0;have bc0:b*c≠0:=by intro z;rcases Rk.mp z with z |z<;>omega
   refine aA (f6 ⟨_,rfl,_,rfl,x,y,_,_,_,_,rfl,⟨⟨_,_,_,_,n1⟩,⟨_,_,_,_,n2⟩,L1,L2⟩,hTb,λ_ xx qq ll hh B H1 s1 hT1 hN1 hq1 hE1=>?_,λz=>absurd z t0⟩);rw[<- o1,<- o2]at hq1 hE1;refine⟨_,rfl,_,rfl,_,_,rfl,rfl,⟨ba.mono,be.mono⟩,_,rfl,_,rfl,_,_,rfl,rfl,⟨bb.mono,bc.mono⟩,xx,a*e,b*c,rfl,bc0,(ba.mul be).mono,(bb.mul bc).mono,wz hN1 hq1 hE1 (bJ bc0),λH2 s2=>⟨_,rfl,dN ?_⟩⟩;refine⟨_,rfl,y,_,_,m1,m2,k1,k2,rfl,(n2.sameT (s1.trans s2.t)).mono,L2,λ_ z H3 a1 a2 c1 c2 s3 hz hN3=>?_,λz=>absurd z t0⟩;rw[<- i1,<- i2]at hN3;exact⟨_,rfl,_,rfl,z,e,c,rfl,c0,be.mono,bc.mono,⟨_,_,_,_,hN3.mono⟩,λH4 s4=>k _ ((s1.trans s2.t).trans (s3.trans s4).t)⟩
theorem C4{N D M B:Int}(hD:D≠0)(hB:B≠0)(e:N*B=M*D):rt N D=rt M B/\rb N D=rb M B:=by
 refine jn hD (bJ hB) (iC hB) ?_;have c:=ce (t:=M) hB;generalize rt M B=u at *
 generalize rb M B=v at *
 exact Rb hB (by grind)
theorem o6{TT:List Site}{C CN:Addr}{H:Hp}{Q:VK}{N D M B:Int}(hD:D≠0)(hB:B≠0)(e:N*B=M*D)(k:∀x H',SameT H H'->TabsOk TT H'->Rgt C CN H' x (rt N D) (rb N D)->Q (.ref x) H'):mkT TT C CN H Q (rt M B) (rb M B):=λx q l h B' H' s hT hN hq hE=>by obtain⟨e1,e2⟩:=C4 hD hB e;rw[<- e1,<- e2]at hq hE;exact k x H' s hT (wz hN hq hE (bJ hD))
inductive jc(TT:List Site)(K:PySem.W.Frag)(vs:List V)(H:Hp)(Q:VK)(E:XK):Prop
 |mk (a:Addr) (ns:List Int):vs=[.ref a]->SqL K H a (ns.map V.int)->ns.length<=63->TabsOk TT H->(∀H',Q (.bl true) H')->jc TT K vs H Q E
theorem Fd{TT:List Site}(F:Fun K "law" "law" nk f fd)(T:Txt K mg)(NQ:Cal P w K mg base 1 "_law_number" ["_law_cell"] vK PM OP)(NU:Cal P w K mg base 1 "_law_cell_at" ["_law_script","_law_k"] (je K) PQ OS)(NR:Cal P w K mg base 40 "_law_made" ["_law_top","_law_bottom","_law_cell"] (vO C CN) PN OQ)(uJ:Cal P w K mg base 3 "_law_right" ["_law_n","_law_top","_law_bottom"] (qt C CN) J9 JR)(uB:Cal P w K mg base 40 "plus" ["first","second"] (ir C CN TT λt b t' b'=>t*b'+t'*b) J1 JJ)(Nn:Cal P w K mg base 41 "minus" ["first","second"] (vN C CN TT) Pi Op)(uu:Cal P w K mg base 40 "times" ["first","second"] (ir C CN TT λt _ t' _=>t*t') JU JC)(uC:Cal P w K mg base 35 "opposite" ["one"] (qw C CN) J2 JK)(Ng:Cal P w K mg base 40 "power" ["one","k"] (vF C CN TT) Pb Oh)(NP:Cal P w K mg base 44 "_law_over" ["_law_a","_law_b","_law_c","_law_e","_law_one","_law_other"] (vI C CN TT) PL OO):FnOk P w K mg base CX0 45 f fd ["_law_script"] (jc TT K):=by
 obtain⟨pW,pj,pk,pT⟩:=NQ;obtain⟨h9,gH,gM,g8⟩:=NU;obtain⟨Aq,xM,yi,zV⟩:=NR;obtain⟨e8,eM,eQ,eW⟩:=uJ;obtain⟨uf,rP,sv,tO⟩:=uB;obtain⟨Mu,Hc,Iq,Lm⟩:=Nn;obtain⟨tZ,rJ,si,tI⟩:=uu;obtain⟨ug,rQ,sw,tP⟩:=uC;obtain⟨Mo,G5,Ii,Lh⟩:=Ng;obtain⟨MO,Hw,IL,LL⟩:=NP;refine F.ok sc_law (λvs H Q E h=>?_) (λcdv A outer s H vs Q E hr h=>?_)
 ·obtain⟨a,ns,rfl,_⟩:=h;rfl
 ·obtain⟨sc,ns,rfl,hS,hlen,hTb,k⟩:=h
  refine⟨_,(af (aj (i:=1) sc_law.nd rfl (Or.inl rfl) (ag pW (hr.mono) rfl pj pk pT .nil ad (aa (ag h9 (hr.mono) rfl gH gM g8 .nil ad (aa (pv 0) (aa ae ac))) ac)))
   (af (aj (i:=2) sc_law.nd rfl (Or.inl rfl) (ai aZ ae (aI fO (by rfl) T.abs_ PyProof.Rows.boot_abs (aa (ag pW (hr.mono) rfl pj pk pT .nil ad (aa (ag h9 (hr.mono) rfl gH gM g8 .nil ad (aa (pv 0) (aa ae ac))) ac)) ac))))
   (af (aj (i:=3) sc_law.nd rfl (Or.inl rfl) (ag pW (hr.mono) rfl pj pk pT .nil ad (aa (ag h9 (hr.mono) rfl gH gM g8 .nil ad (aa (pv 0) (aa ae ac))) ac)))
   (af (aj (i:=4) sc_law.nd rfl (Or.inl rfl) (ai aZ ae (aI fO (by rfl) T.abs_ PyProof.Rows.boot_abs (aa (ag pW (hr.mono) rfl pj pk pT .nil ad (aa (ag h9 (hr.mono) rfl gH gM g8 .nil ad (aa (pv 0) (aa ae ac))) ac)) ac))))
   (af (aj (i:=5) sc_law.nd rfl (Or.inl rfl) (ai eE (ag h9 (hr.mono) rfl gH gM g8 .nil ad (aa (pv 0) (aa ae ac))) ae))
   (af (aj (i:=6) sc_law.nd rfl (Or.inl rfl) (ag Aq (hr.mono) rfl xM yi zV .nil ad (aa (pv 1) (aa (pv 2) (aa (ai gc (ag h9 (hr.mono) rfl gH gM g8 .nil ad (aa (pv 0) (aa ae ac))) ae) ac)))))
   (af (aj (i:=7) sc_law.nd rfl (Or.inl rfl) (ag Aq (hr.mono) rfl xM yi zV .nil ad (aa (pv 3) (aa (pv 4) (aa (ag h9 (hr.mono) rfl gH gM g8 .nil ad (aa (pv 0) (aa ae ac))) ac)))))
   (af (aB (dD (cH (ag e8 (hr.mono) rfl eM eQ eW .nil ad (aa (ag uf (hr.mono) rfl rP sv tO .nil ad (aa (pv 6) (aa (pv 7) ac))) (aa (ai aZ (ai av (pv 1) (pv 4)) (ai av (pv 3) (pv 2))) (aa (ai av (pv 2) (pv 4)) ac))))))
     (ah (am dQ))
     aC)
   (af (aB (dD (cH (ag e8 (hr.mono) rfl eM eQ eW .nil ad (aa (ag Mu (hr.mono) rfl Hc Iq Lm .nil ad (aa (pv 6) (aa (pv 7) ac))) (aa (ai bA (ai av (pv 1) (pv 4)) (ai av (pv 3) (pv 2))) (aa (ai av (pv 2) (pv 4)) ac))))))
     (ah (am dQ))
     aC)
   (af (aB (PW.pt (ju (dD (cH (ag e8 (hr.mono) rfl eM eQ eW .nil ad (aa (ag tZ (hr.mono) rfl rJ si tI .nil ad (aa (pv 6) (aa (pv 7) ac))) (aa (ai av (pv 1) (pv 3)) (aa (ai av (pv 2) (pv 4)) ac)))))) (jt (dD (cH (ag e8 (hr.mono) rfl eM eQ eW .nil ad (aa (ag ug (hr.mono) rfl rQ sw tP .nil ad (aa (pv 6) ac)) (aa (aU aT (pv 1)) (aa (pv 2) ac)))))))))
     (ah (am dQ))
     aC)
   (af (aj (i:=8) sc_law.nd rfl (Or.inl rfl) (aK (aa ae (aa ae ac))))
   (af (cg PassesOwn.never rfl (dO rfl T.range_ (aa (pv 5) ac)) (aJ (i:=9) sc_law.nd rfl (Or.inl rfl))
     (ah (aj (i:=8) sc_law.nd rfl (Or.inl rfl) (aK (aa (ai av (ar (aO (K:=K) rfl) (pv 8) ae (λ_ _=>rfl)) (pv 1)) (aa (ai av (ar (aO (K:=K) rfl) (pv 8) ae (λ_ _=>rfl)) (pv 2)) ac))))))
   (af (aB (dD (cH (ag e8 (hr.mono) rfl eM eQ eW .nil ad (aa (ag Mo (hr.mono) rfl G5 Ii Lh .nil ad (aa (pv 6) (aa (pv 5) ac))) (aa (ar (aO (K:=K) rfl) (pv 8) ae (λ_ _=>rfl)) (aa (ar (aO (K:=K) rfl) (pv 8) ae (λ_ _=>rfl)) ac))))))
     (ah (am dQ))
     aC)
   (af (aB (dD (cH (ag MO (hr.mono) rfl Hw IL LL .nil ad (aa (pv 1) (aa (pv 2) (aa (pv 3) (aa (pv 4) (aa (pv 6) (aa (pv 7) ac)))))))))
     (ah (am dQ))
     aC)
   (ah (am (f9 (ag e8 (hr.mono) rfl eM eQ eW .nil ad (aa (pv 6) (aa (pv 1) (aa (pv 2) ac)))) (iH (ag e8 (hr.mono) rfl eM eQ eW .nil ad (aa (pv 7) (aa (pv 3) (aa (pv 4) ac)))))))))))))))))))))),?_⟩
  refine ao ⟨_,rfl,sc,ns,0,rfl,hS,_,rfl,λa ha=>?_⟩;refine ao ⟨_,rfl,sc,ns,1,rfl,hS,_,rfl,λb' hb'=>⟨_,rfl,_,_,rfl,rfl,?_⟩⟩;obtain⟨b,eb,hb,hb1⟩:∃b:Int,1+(if b'<0 then -b' else b')=b/\0<b/\b<=10^13+1:=⟨_,rfl,by split<;>omega,by split<;>omega⟩;show ci _ _ _ _ _;refine oq (λσ' H'=>σ'=[some (.ref sc),some (.int a),some (.int b),none,none,none,none,none,none,none]/\H=H') ⟨by rw[<- eb];rfl,rfl⟩ ?_;rintro σ' H' ⟨rfl,rfl⟩;refine ao ⟨_,rfl,sc,ns,2,rfl,hS,_,rfl,λc hc=>?_⟩;refine ao ⟨_,rfl,sc,ns,3,rfl,hS,_,rfl,λe' he'=>⟨_,rfl,_,_,rfl,rfl,?_⟩⟩;obtain⟨e,ee,he,he1⟩:∃e:Int,1+(if e'<0 then -e' else e')=e/\0<e/\e<=10^13+1:=⟨_,rfl,by split<;>omega,by split<;>omega⟩;show ci _ _ _ _ _;refine oq (λσ' H'=>σ'=[some (.ref sc),some (.int a),some (.int b),some (.int c),some (.int e),none,none,none,none,none]/\H=H') ⟨by rw[<- ee];rfl,rfl⟩ ?_;rintro σ' H' ⟨rfl,rfl⟩;have nine:(0:Int)<9:=by decide
  refine ao ⟨_,rfl,sc,ns,4,rfl,hS,_,_,rfl,rfl,nine,?_⟩;obtain⟨n,en,hn⟩:∃n:Nat,ns.getD 4 0%9=(n:Int)/\n<=8:=⟨(ns.getD 4 0%9).toNat,by omega,by omega⟩;show ci _ _ _ _ _;refine oq (λσ' H'=>σ'=[some (.ref sc),some (.int a),some (.int b),some (.int c),some (.int e),some (.int (n:Int)),none,none,none,none]/\H=H') ⟨by rw[<- en];rfl,rfl⟩ ?_;rintro σ' H' ⟨rfl,rfl⟩;refine ao ⟨_,rfl,_,rfl,_,rfl,sc,ns,4,rfl,hS,_,_,rfl,rfl,⟨nine,Bits.mono (j:=4) (by show(9:Int).natAbs<2^4;decide) (by decide)⟩,a,b,_,rfl,hb,ha,hb1,λx H1 l1 l2 h1 h2 s1 hx n1=>?_⟩;have hS1:=s1.seq hS;refine ao ⟨_,rfl,_,rfl,_,rfl,sc,ns,5,rfl,hS1,c,e,_,rfl,he,hc,he1,λy H2 m1 m2 k1 k2 s2 hy n2=>?_⟩;have hT2:=hTb.same (s1.trans s2);have L1:=rX hb ha hb1;have L2:=rX he hc he1;have w2:Two2 C CN H2 x y (rt a b) (rb a b) (rt c e) (rb c e):=⟨⟨_,_,_,_,n1.same s2⟩,⟨_,_,_,_,n2⟩,L1,L2⟩;have ba:Bits 44 a:=dj ha (by decide);have bb:Bits 44 b:=dj (m:=10^13+1) (by omega) (by decide);have bc:Bits 44 c:=dj hc (by decide);have be:Bits 44 e:=dj (m:=10^13+1) (by omega) (by decide);have b9:∀{v:Int},Bits 44 v->Bits 9000 v:=λh=>h.mono
  have be0:b*e≠0:=P9 (P5 hb he);have c1:=ce (t:=a) (b:=b) (by omega);have c2:=ce (t:=c) (b:=e) (by omega);have bb0:rb a b*rb c e≠0:=P9 (P5 L1.1 L2.1);have bae:Bits 88 (a*e):=ba.mul be;have bcb:Bits 88 (c*b):=bc.mul bb;have bbe:Bits 88 (b*e):=bb.mul be;refine aS (dC ⟨_,rfl,_,rfl,x,y,_,_,_,_,rfl,w2,hT2,o6 (N:=a*e+c*b) (D:=b*e) be0 bb0 ?_ λz H3 s3 hT3 r3=>?_⟩)
  ·generalize rt a b=t at *
   generalize rb a b=r at *
   generalize rt c e=t' at *
   generalize rb c e=r' at *
   have e1:(a*e+c*b)*(r*r')=(a*r)*(e*r')+(c*r')*(b*r):=by grind
   rw[e1,<- c1,<- c2];grind
  refine⟨_,rfl,_,rfl,_,_,rfl,rfl,⟨(ba.mono),(be.mono)⟩,_,rfl,_,rfl,_,_,rfl,rfl,⟨(bc.mono),(bb.mono)⟩,_,_,rfl,rfl,_,rfl,_,rfl,_,_,rfl,rfl,⟨(bb.mono),(be.mono)⟩,z,_,_,rfl,be0,(bae.add bcb).mono,bbe.mono,r3,λH4 s4=>⟨_,rfl,cG ?_⟩⟩;clear r3;have v4:=s3.trans s4.t;have hT4:=hT3.same s4;have w4:Two2 C CN H4 x y (rt a b) (rb a b) (rt c e) (rb c e):=⟨⟨_,_,_,_,(n1.same s2).sameT v4⟩,⟨_,_,_,_,n2.sameT v4⟩,L1,L2⟩;refine aS (dC ⟨_,rfl,_,rfl,x,y,_,_,_,_,rfl,w4,hT4,o6 (N:=a*e-c*b) (D:=b*e) be0 bb0 ?_ λz H5 s5 hT5 r5=>?_⟩)
  ·generalize rt a b=t at *
   generalize rb a b=r at *
   generalize rt c e=t' at *
   generalize rb c e=r' at *
   have e1:(a*e-c*b)*(r*r')=(a*r)*(e*r')-(c*r')*(b*r):=by grind
   rw[e1,<- c1,<- c2];grind
  refine⟨_,rfl,_,rfl,_,_,rfl,rfl,⟨(ba.mono),(be.mono)⟩,_,rfl,_,rfl,_,_,rfl,rfl,⟨(bc.mono),(bb.mono)⟩,_,_,rfl,rfl,_,rfl,_,rfl,_,_,rfl,rfl,⟨(bb.mono),(be.mono)⟩,z,_,_,rfl,be0,(bae.sub bcb).mono,bbe.mono,r5,λH6 s6=>⟨_,rfl,cG ?_⟩⟩;clear r5;have v6:=v4.trans (s5.trans s6.t);have hT6:=hT5.same s6;have w6:Two2 C CN H6 x y (rt a b) (rb a b) (rt c e) (rb c e):=⟨⟨_,_,_,_,(n1.same s2).sameT v6⟩,⟨_,_,_,_,n2.sameT v6⟩,L1,L2⟩;refine aS (oo (dC ⟨_,rfl,_,rfl,x,y,_,_,_,_,rfl,w6,hT6,o6 (N:=a*c) (D:=b*e) be0 bb0 ?_ λz H7 s7 hT7 r7=>?_⟩))
  ·generalize rt a b=t at *
   generalize rb a b=r at *
   generalize rt c e=t' at *
   generalize rb c e=r' at *
   have e1:(a*c)*(r*r')=(a*r)*(c*r'):=by grind
   rw[e1,<- c1,<- c2];grind
  refine⟨_,rfl,_,rfl,_,_,rfl,rfl,⟨(ba.mono),(bc.mono)⟩,_,rfl,_,rfl,_,_,rfl,rfl,⟨(bb.mono),(be.mono)⟩,z,_,_,rfl,be0,(ba.mul bc).mono,bbe.mono,r7,λH8 s8=>⟨_,rfl,cG ?_⟩⟩;clear r7;have v8:=v6.trans (s7.trans s8.t);have hT8:=hT7.same s8;have n18:=(n1.same s2).sameT v8;have b0:b≠0:=by omega
  obtain⟨o1,o2⟩:=jn (t := -a) (u := -(rt a b)) b0 L1.1 (by rw[QA];exact L1.2.1) (by grind);refine dC ⟨_,rfl,x,_,_,l1,l2,h1,h2,rfl,n18.mono,L1,λz H9 a1 a2 d1 d2 s9 hz n9=>?_⟩;rw[<- o1,<- o2]at n9;refine⟨_,rfl,_,rfl,_,rfl,z,-a,b,rfl,b0,ba.neg.mono,bb.mono,⟨_,_,_,_,n9.mono⟩,λH10 s10=>⟨_,rfl,cG ?_⟩⟩;have v10:=v8.trans (s9.trans s10).t;have hT10:=hT8.same (s9.trans s10);refine ao ⟨by show 2<=sizeLine;decide,λp hp=>?_⟩;have s11:=Same.upd_new (o:=.lst ([1,1].map V.int)) hp
  have pw:∀{v:Int} (m:Nat),m<=8->Bits 44 v->Bits 380 (v^m):=λ{v} m hm h=>by
   have h':v.natAbs<2^44:=h;show(v^m).natAbs<2^380;rw[Int.natAbs_pow]
   calc v.natAbs^m<=(2^44)^m:=Nat.pow_le_pow_left (by omega) m
    _=2^(44*m):=by rw[Nat.pow_mul]
    _<2^380:=(Q3 (by decide)).mpr (by omega)
  refine⟨_,rfl,n,rfl,by omega,by omega,pB (lo:=0) (n:=n) (λi σ' H'=>∃(p:Addr) (z:Option V),σ'=[some (.ref sc),some (.int a),some (.int b),some (.int c),some (.int e),some (.int (n:Int)),some (.ref x),some (.ref y),some (.ref p),z]/\Same H10 H'/\H' p=some (.lst ([a^i,b^i].map V.int))) ⟨p,none,rfl,s11,by rw[Qg,Qg];exact ak⟩ ?_ ?_⟩
  ·rintro i σ' H' hi ⟨p',z,rfl,s12,e12⟩;refine cz ⟨_,rfl,p',_,_,_,rfl,rfl,SqL.of e12,rfl,_,rfl,_,_,rfl,rfl,⟨(pw i (by omega) ba).mono,ba.mono⟩,_,rfl,p',_,_,_,rfl,rfl,SqL.of e12,rfl,_,rfl,_,_,rfl,rfl,⟨(pw i (by omega) bb).mono,bb.mono⟩,by show 2<=sizeLine;decide,λp2 hp2=>⟨p2,_,rfl,s12.trans (Same.upd_new hp2),?_⟩⟩;rw[Qa,Qa];exact ak
  ·rintro σ' H11 ⟨p',z,rfl,s12,e12⟩;have v11:=v10.trans s12.t;have hT11:=hT10.same s12;have n111:=(n1.same s2).sameT v11;have dn:b^n≠0:=P9 (Q4 hb);have dr:rb a b^n≠0:=P9 (Q4 L1.1);dsimp only
   refine aS (dC ⟨_,rfl,_,rfl,x,n,_,_,l1,l2,h1,h2,rfl,n111,L1,hn,pw n hn (cM b0 ba),pw n hn (cP b0 bb),hT11,o6 (N:=a^n) (D:=b^n) dn dr ?_ λz H12 s13 hT12 r12=>?_⟩)
   ·rw[<- Int.mul_pow,<- Int.mul_pow,c1]
   have e13:=s13.at e12 (λps z=>by cases z);refine⟨_,rfl,p',_,_,_,rfl,rfl,SqL.of e13,rfl,_,rfl,p',_,_,_,rfl,rfl,SqL.of e13,rfl,z,a^n,b^n,rfl,dn,(pw n hn ba).mono,(pw n hn bb).mono,r12,λH13 s14=>⟨_,rfl,cG ?_⟩⟩;have v13:=v11.trans (s13.trans s14.t);have w13:Two2 C CN H13 x y (rt a b) (rb a b) (rt c e) (rb c e):=⟨⟨_,_,_,_,(n1.same s2).sameT v13⟩,⟨_,_,_,_,n2.sameT v13⟩,L1,L2⟩;refine aS (dC ⟨_,rfl,_,rfl,_,rfl,_,rfl,_,rfl,_,rfl,a,b,c,e,x,y,rfl,hb,he,ha,hb1,hc,he1,w13,hT12.same s14,λH14 s15=>⟨_,rfl,cG ?_⟩⟩);have v14:=v13.trans s15;refine aA (f6 ⟨_,rfl,_,rfl,_,rfl,x,a,b,rfl,b0,ba.mono,bb.mono,⟨_,_,_,_,((n1.same s2).sameT v14).mono⟩,λH15 s16=>⟨_,rfl,dN ?_⟩⟩);exact⟨_,rfl,_,rfl,_,rfl,y,c,e,rfl,by omega,bc.mono,be.mono,⟨_,_,_,_,((n2.sameT v14).same s16).mono⟩,λH16 s17=>k H16⟩
end
def FnL(K:PySem.W.Frag)(n:Str)(st:Stmt):Prop:=∃f fd,PySem.W.nsIn K mainGlobals n=some (some (.ref f))/\Fun K n n st f fd
def MtL(K:PySem.W.Frag)(C:Addr)(n q:Str)(st:Stmt):Prop:=∃f fd,PySem.W.findIn K (.ref C) n=some (some (.ref f))/\PySem.W.isFn K (.ref f)=true/\Fun K n q st f fd
structure ClL(K:PySem.W.Frag)(n:Str)(C:Addr):Prop where
 a:PySem.W.nsIn K mainGlobals n=some (some (.ref C))
 pg:PySem.W.plainGet K C Str.empty=true
 hd:PySem.W.hasDictIn K C=true
 po:PySem.W.plainOver K C=true
 sa:PySem.W.findIn K (.ref C) "__setattr__"=some (some (.builtin "object.__setattr__"))
 mkr:PySem.W.makesIn K C=true
 kc:PySem.W.keepIn K (.ref C)=true
 ha:PySem.W.findIn K (.ref C) "__class__"=some (some (.builtin "object.__class__"))
 hn:PySem.W.specialIn K (.builtin "object.__class__") "__get__"=some (some (.builtin "getset_descriptor.__get__"))
 ht:PySem.W.takesIn K (.builtin "object.__class__")=some true
 hm:PySem.W.mroIn K C (.type "object")=some true
section
variable {P:Program}{w:World}{K:PySem.W.Frag}{mg:Str->Option Value}{h base:Heap}{n q:Str}{st:Stmt}{f C:Addr}{oc kV dc pm cd ct:Value}{od an:Option Addr}{sl:Array (Option Value)}{fd:FuncData}{k:Nat}{ps:List Str}{sp:Sp}
theorem fnL(a:PySem.W.nsIn K mainGlobals n=some (some (.ref f)))(l:K.lookup f=some ⟨oc,od,.func (PySem.W.fnOf n n (cu st) (bU st) (al st) .none kV dc pm an cd ct),sl⟩)(c:PySem.W.codeIn K cd n=true)(k:PySem.W.keepIn K (.ref f)=true):FnL K n st:=⟨_,_,a,yA l c k⟩
theorem mtL(a:PySem.W.findIn K (.ref C) n=some (some (.ref f)))(i:PySem.W.isFn K (.ref f)=true)(l:K.lookup f=some ⟨oc,od,.func (PySem.W.fnOf n q (cu st) (bU st) (al st) .none kV dc pm an cd ct),sl⟩)(c:PySem.W.codeIn K cd q=true)(k:PySem.W.keepIn K (.ref f)=true):MtL K C n q st:=⟨_,_,a,i,yA l c k⟩
def Bx(P:Program)(w:World)(base:Heap):Prop:=P=P/\w=w/\base=base
def BdR(n q:Str)(st:Stmt)(ps:List Str):Prop:=∀(kV doc pm:Value) (an:Option Addr) (cdv ct:Value) (us:List Value),us.length=ps.length->bindArgs (PySem.W.fnOf n q (cu st) (bU st) (al st) .none kV doc pm an cdv ct) ⟨us,[]⟩=pure (ps.zip us)
theorem cal(_:Bx P w base)(X:K.In h)(G:h.Ns mainGlobals mg)(a:PySem.W.nsIn K mainGlobals n=some (some (.ref f)))(F:Fun K n n st f fd)(o:FnOk P w K mg base CX0 k f fd ps sp)(b:BdR n n st ps):Cal P w K mg base k n ps sp f fd:=⟨o,PySem.W.mg_of X G a,F.kp,F.binds b⟩
theorem zF(_:Bx P w base)(X:K.In h)(G:h.Ns mainGlobals mg)(a:PySem.W.nsIn K mainGlobals n=some (some (.ref f)))(F:Fun K n n st f fd)(o:FnOk P w K mg base (CXV P w) k f fd ps sp)(b:BdR n n st ps):CalV P w K mg base k n ps sp f fd:=⟨o,PySem.W.mg_of X G a,F.kp,F.binds b⟩
theorem jJ(_:Bx P w base)(a:PySem.W.findIn K (.ref C) n=some (some (.ref f)))(i:PySem.W.isFn K (.ref f)=true)(F:Fun K n q st f fd)(o:FnOk P w K mg base CX0 k f fd ps sp)(b:BdR n q st ps):MCal P w K mg base k C n ps sp f fd:=⟨o,⟨a,i,F.kp⟩,F.binds b⟩
theorem FnL.nt{ts:List Addr}(T:Tbs ts K)(x:FnL K n st):FnL (L2.nt ts K) n st:=by obtain⟨f,fd,a,F⟩:=x;exact⟨f,fd,(bF T _ _).trans a,F.nt T⟩
theorem MtL.nt{ts:List Addr}(T:Tbs ts K)(x:MtL K C n q st):MtL (L2.nt ts K) C n q st:=by obtain⟨f,fd,a,i,F⟩:=x;exact⟨f,fd,(cR T _ _).trans a,xf T i,F.nt T⟩
theorem ClL.nt{ts:List Addr}(T:Tbs ts K)(x:ClL K n C):ClL (L2.nt ts K) n C:=⟨(bF T _ _).trans x.a,(F0 T _ _).trans x.pg,(Gd T _).trans x.hd,(FZ T _).trans x.po,(cR T _ _).trans x.sa,Gb T x.mkr,jF T x.kc,(cR T _ _).trans x.ha,gA T x.hn,w5 T x.ht,(oQ T _ _).trans x.hm⟩
def FnA(K:PySem.W.Frag)(n:Str)(st:Stmt)(TT:List Site)(pos:Pos):Prop:=∃c s f fd,PySem.W.nsIn K mainGlobals n=some (some (.ref f))/\FunL K n n st c f fd/\∀(mg:Str->Option Value) (base:Heap),K.In base->LmB mg base->LamAt TT mg base c s pos n
structure FnB(K:PySem.W.Frag)(n:Str)(st:Stmt)(c p:Addr):Prop where
 fn:∃f fd,PySem.W.nsIn K mainGlobals n=some (some (.ref f))/\FunL K n n st c f fd
 co:CodeK K c p
 tb:K.lookup p=none\/K.lookup p=some (PySem.W.tabObj #[])
theorem FnB.nt{TT:List Site}{s:Site}{c:Addr}{pos:Pos}(T:Tbs (TT.map (·.tab)) K)(D:∀q∈TT,∀r∈TT,r.tab=q.tab->r=q)(m:s∈TT)(x:FnB K n st c s.tab)(hp:s.pos=pos:=by rfl)(hn:s.qual=(n++".<locals>.")++"<lambda>":=by rfl):FnA (L2.nt (TT.map (·.tab)) K) n st TT pos:=by obtain⟨⟨f,fd,a,F⟩,co,tb⟩:=x;exact⟨c,s,f,fd,(bF T _ _).trans a,F.nt T,λmg base KB LB=>⟨LB,co.hd T KB,m,D s m,hp,hn⟩⟩
theorem zj:∀{TT:List Site},(TT.map (·.tab)).Nodup->∀q∈TT,∀r∈TT,r.tab=q.tab->r=q
 | [],_,_,h,_,_,_=>nomatch h
 |s::TT,hn,q,hq,r,hr,e=>by
  obtain⟨h1,h2⟩:=Rf.mp hn;rcases P8.mp hq with rfl |hq'
  ·rcases P8.mp hr with rfl |hr'
   ·rfl
   ·exact(h1 (P4.mpr ⟨r,hr',e⟩)).elim
  ·rcases P8.mp hr with rfl |hr'
   ·exact(h1 (P4.mpr ⟨q,hq',e.symm⟩)).elim
   ·exact zj h2 q hq' r hr' e
theorem Ju(F:Fun K n q st f fd):∃oc od fd sl,K.lookup f=some ⟨oc,od,.func fd,sl⟩:=by obtain⟨oc,od,_,_,_,_,_,_,sl,_,e,_⟩:=F.ex;exact⟨oc,od,_,sl,e⟩
theorem fnB{c p:Addr}{od2:Option Addr}{sl2:Array (Option Value)}{vs:Array Value}{file:Str}{tf tg tt:Tok}{flags text:Int}{inF:Bool}(a:PySem.W.nsIn K mainGlobals n=some (some (.ref f)))(l:K.lookup f=some ⟨oc,od,.func (PySem.W.fnOf n n (cu st) (bU st) (al st) .none kV dc pm an (.ref c) ct),sl⟩)(cc:PySem.W.codeIn K (.ref c) n=true)(k:PySem.W.keepIn K (.ref f)=true)
 (o:K.lookup c=some ⟨.type "code",od2,.fields vs,sl2⟩) (g11:vs.getD 11 .none=.ref p) (v11:vs[11]?=some (.ref p)) (g18:vs.getD 18 .none=.str file tf) (g7:vs.getD 7 .none=.int flags tg) (g9:vs.getD 9 .none=.bool inF) (g10:vs.getD 10 .none=.int text tt) (tb:K.lookup p=none\/K.lookup p=some (PySem.W.tabObj #[])):FnB K n st c p :=
 ⟨⟨f,_,a,⟨⟨oc,od,kV,dc,pm,an,ct,sl,rfl,l,cc⟩,k⟩⟩,⟨od2,vs,sl2,file,tf,flags,tg,inF,text,tt,o,v11,g11,g18,g7,g9,g10,λz=>by rcases tb with e |e<;>(rw[z,e]at o;cases o)⟩,tb⟩
theorem us1{A:List Value->Prop}(h:∀a,A [a]):∀us:List Value,us.length=1->A us
 | [a],_=>h a
theorem us2{A:List Value->Prop}(h:∀a b,A [a,b]):∀us:List Value,us.length=2->A us
 | [a,b],_=>h a b
theorem us3{A:List Value->Prop}(h:∀a b c,A [a,b,c]):∀us:List Value,us.length=3->A us
 | [a,b,c],_=>h a b c
theorem us4{A:List Value->Prop}(h:∀a b c d,A [a,b,c,d]):∀us:List Value,us.length=4->A us
 | [a,b,c,d],_=>h a b c d
theorem us6{A:List Value->Prop}(h:∀a b c d e f,A [a,b,c,d,e,f]):∀us:List Value,us.length=6->A us
 | [a,b,c,d,e,f],_=>h a b c d e f
end
theorem LW{l:PySem.W.OpenLaw}{w:World}{K:PySem.W.Frag}{h:Heap}{mg:Str->Option Value}{fa CC1 CC2 CByNought CTooHigh CRootError CBelowNought CTooGreat f4 dt4 f50 dt50:Addr}{TT:List Site}(X:K.In h)(G:h.Ns mainGlobals mg)(hfa:mg "law"=some (.ref fa))
 {od4 an4 odt4 od50 an50 odt50:Option Addr} {sl4 slt4 sl50 slt50:Array (Option Value)} {oc4 kV4 dc4 pm4 cd4 ct4 oct4 oc50 kV50 dc50 pm50 cd50 ct50 oct50:Value} {nt4:Nat} {tk4_0:Tok} {nt50:Nat} {tk_HIGHEST:Tok}
 (cc1:ClL K "Ratio" CC1)
 (n1_top:PySem.W.findIn K (.ref CC1) "top"=some none)
 (n1_bottom:PySem.W.findIn K (.ref CC1) "bottom"=some none)
 (cc2:ClL K "Number" CC2)
 (n2_poly:PySem.W.findIn K (.ref CC2) "poly"=some none)
 (n2_low:PySem.W.findIn K (.ref CC2) "low"=some none)
 (n2_high:PySem.W.findIn K (.ref CC2) "high"=some none)
 (aEByNought:PySem.W.nsIn K mainGlobals "ByNought"=some (some (.ref CByNought)))
 (aETooHigh:PySem.W.nsIn K mainGlobals "TooHigh"=some (some (.ref CTooHigh)))
 (aERootError:PySem.W.nsIn K mainGlobals "RootError"=some (some (.ref CRootError)))
 (aEBelowNought:PySem.W.nsIn K mainGlobals "BelowNought"=some (some (.ref CBelowNought)))
 (aETooGreat:PySem.W.nsIn K mainGlobals "TooGreat"=some (some (.ref CTooGreat)))
 (xBByNought:PySem.W.excIn K CByNought [.type "ValueError",.type "Exception",.type "BaseException",.type "object"] "ValueError.__new__"=true)
 (e0ByNought:PySem.W.findIn K (.ref CByNought) "__getattribute__"=some (some (.builtin "BaseException.__getattribute__")))
 (e1ByNought:PySem.W.findIn K (.ref CByNought) "__getattr__"=some none)
 (e2ByNought:PySem.W.mroIn K CByNought (.type "BaseException")=some true)
 (e3ByNought:PySem.W.findIn K (.ref CByNought) "__class__"=some (some (.builtin "object.__class__")))
 (e4ByNought:PySem.W.specialIn K (.builtin "object.__class__") "__get__"=some (some (.builtin "getset_descriptor.__get__")))
 (e5ByNought:PySem.W.takesIn K (.builtin "object.__class__")=some true)
 (e6ByNought:PySem.W.mroIn K CByNought (.type "object")=some true)
 (xh_ByNought_RootError:PySem.W.exmOne K (.ref CByNought) (.ref CRootError)=some true)
 (xi_ByNought_ByNought:PySem.W.kitOne K (.ref CByNought) (.ref CByNought)=some true)
 (xi_ByNought_ValueError:PySem.W.kitOne K (.ref CByNought) (.type "ValueError")=some true)
 (xi_ByNought_BelowNought:PySem.W.kitOne K (.ref CByNought) (.ref CBelowNought)=some false)
 (xi_ByNought_TooGreat:PySem.W.kitOne K (.ref CByNought) (.ref CTooGreat)=some false)
 (xi_ByNought_TooHigh:PySem.W.kitOne K (.ref CByNought) (.ref CTooHigh)=some false)
 (a4:PySem.W.findIn K (.ref CC1) "__init__"=some (some (.ref f4))) (i4:PySem.W.isFn K (.ref f4)=true)
 (l4:K.lookup f4=some ⟨oc4,od4,.func (PySem.W.fnOf "__init__" "Ratio.__init__" (cu fy) (bU fy) (al fy) (.ref dt4) kV4 dc4 pm4 an4 cd4 ct4),sl4⟩) (c4:PySem.W.codeIn K cd4 "Ratio.__init__"=true) (k4:PySem.W.keepIn K (.ref f4)=true)
 (t4:K.lookup dt4=some ⟨oct4,odt4,.seq #[.int 1 tk4_0] nt4,slt4⟩)
 (a50:PySem.W.nsIn K mainGlobals "number"=some (some (.ref f50)))
 (l50:K.lookup f50=some ⟨oc50,od50,.func (PySem.W.fnOf "number" "number" (cu fv) (bU fv) (al fv) (.ref dt50) kV50 dc50 pm50 an50 cd50 ct50),sl50⟩) (c50:PySem.W.codeIn K cd50 "number"=true) (k50:PySem.W.keepIn K (.ref f50)=true)
 (t50:K.lookup dt50=some ⟨oct50,odt50,.seq #[.none,.none] nt50,slt50⟩)
 (aI_HIGHEST:PySem.W.nsIn K mainGlobals "HIGHEST"=some (some (.int 8 tk_HIGHEST)))
 (z0:PySem.W.nsIn K mainGlobals "abs"=some none)
 (z1:PySem.W.nsIn K mainGlobals "len"=some none)
 (z2:PySem.W.nsIn K mainGlobals "max"=some none)
 (z3:PySem.W.nsIn K mainGlobals "range"=some none)
 (z4:PySem.W.nsIn K mainGlobals "enumerate"=some none)
 (z5:PySem.W.nsIn K mainGlobals "list"=some none)
 (z6:PySem.W.nsIn K mainGlobals "reversed"=some none)
 (z7:PySem.W.nsIn K mainGlobals "sum"=some none)
 (z8:PySem.W.nsIn K mainGlobals "any"=some none)
 (z9:PySem.W.nsIn K mainGlobals "isinstance"=some none)
 (z10:PySem.W.nsIn K mainGlobals "int"=some none)
 (z11:PySem.W.nsIn K mainGlobals "bool"=some none)
 (z12:PySem.W.nsIn K mainGlobals "ValueError"=some none)
 (l1:FnL K "shared_by_two" mE)
 (l2:FnL K "shared" mF)
 (l3:FnL K "whole_sign" lX)
 (l5:MtL K CC1 "against" "Ratio.against" oj)
 (l6:FnL K "poly" mQ)
 (l7:FnL K "degree" nF)
 (l8:FnL K "coefficient" nJ)
 (l9:FnL K "taken" mf)
 (l10:FnL K "slope" my)
 (l11:FnL K "shrunk" jl)
 (l12:FnL K "plain" mS)
 (l13:FnL K "scaled" mH)
 (l14:FnL K "lowered" nh)
 (l15:FnL K "divided" nD)
 (l16:FnL K "value_parts" lZ)
 (l17:FnL K "sign_at" mD)
 (l18:FnL K "row_from" mJ)
 (l19:FnL K "row_of" mI)
 (l20:FnL K "changes" nK)
 (l21:FnL K "count" nG)
 (l22:FnL K "bound" nN)
 (l23:FnL K "common" nI)
 (l24:FnL K "part" mT)
 (l25:FnL K "refuse_high" mK)
 (l26:FnL K "without_squares" lW)
 (l27:MtL K CC2 "__init__" "Number.__init__" ol)
 (l28:FnL K "fine_width" nA)
 (l29:FnL K "line_of" ni)
 (l30:FnL K "cells" nM)
 (l31:FnL K "square_of" ml)
 (l32:FnL K "divides" nC)
 (l33:FnL K "added" nS)
 (l34:FnL K "multiplied" m6)
 (l35:FnL K "turned" ma)
 (l36:MtL K CC1 "plus" "Ratio.plus" og)
 (l37:MtL K CC1 "minus" "Ratio.minus" oi)
 (l38:MtL K CC1 "times" "Ratio.times" oa)
 (l39:FnL K "halvings" nq)
 (l40:FnL K "stretched" mj)
 (l41:FnL K "spread" mn)
 (l42:FnL K "moved" m7)
 (l43:FnL K "halved" nr)
 (l44:FnL K "along" nQ)
 (l45:FnL K "narrowed" m4)
 (l46:FnL K "many_within" ng)
 (l47:FnL K "refuse_great" mL)
 (l48:FnL K "least" nj)
 (l49:FnL K "number_in" mZ)
 (l51:FnL K "fraction" nu)
 (l52:FnL K "span_of" mx)
 (l53:FnL K "narrow" m5)
 (l54:FnL K "beside" nO)
 (l55:FnL K "against" nR)
 (l56:FnL K "sign_of" mC)
 (l57:FnL K "only_root" mX)
 (l58:FnL K "opposite" mV)
 (l59:FnL K "first_not_nought" nz)
 (l60:FnL K "cleared" jm)
 (l61:FnL K "determinant" nE)
 (l62:FnL K "slid" mz)
 (l63:FnL K "table" mh)
 (l64:FnL K "opposed" mW)
 (l65:FnL K "weighted" lY)
 (l66:FnL K "through" me)
 (l67:FnL K "sums" mi)
 (l68:FnL K "products" mM)
 (l69:FnL K "powers" mO)
 (l70:FnL K "middle" na)
 (l71:FnL K "span_sum" mq)
 (l72:FnL K "span_product" mr)
 (l73:FnL K "span_power" mv)
 (l74:FnL K "set_back" mG)
 (l75:FnL K "found_beyond" nv)
 (l76:FnA K "found_between" nw TT ⟨497,39,497,80⟩)
 (l77:FnA K "plus" mR TT ⟨475,33,475,102⟩)
 (l78:FnA K "times" md TT ⟨481,33,481,106⟩)
 (l79:FnA K "power" mP TT ⟨488,33,488,81⟩)
 (l80:FnL K "flipped" ny)
 (l81:FnL K "off_nought" mY)
 (l82:MtL K CC1 "over" "Ratio.over" oh)
 (l84:FnL K "minus" m8)
 (l85:FnL K "inverse" nl)
 (l86:FnL K "over" mU)
 (l87:FnL K "_law_cell_at" n8)
 (l88:FnL K "_law_whole" nU)
 (l89:FnL K "_law_number" n0)
 (l90:FnL K "_law_is" n5)
 (l91:FnL K "_law_shared" nV)
 (l92:FnL K "_law_due" n6)
 (l93:FnL K "_law_ratio" nY)
 (l94:FnL K "_law_right" nW)
 (l95:FnL K "_law_made" n4)
 (l96:FnL K "_law_refused" nX)
 (l97:FnA K "_law_over" nZ TT ⟨569,66,569,103⟩)
 (l98:FnL K "law" nk)
 (hTr:l.prog.given.tree=none)
 : ∃fd:FuncData,(∀(s:Shared) (v:Value),BindsTo s fd ⟨[v],[]⟩ [("_law_script",v)])/\∀base:Heap,K.In base->base.Ns mainGlobals mg->base.NoSeer->LmB mg base->FnOk l.prog w K mg base CX0 45 fa fd ["_law_script"] (jc TT K):=by
 obtain⟨_,_,a1,F1⟩:=l1;obtain⟨_,_,a2,F2⟩:=l2;obtain⟨_,_,a3,F3⟩:=l3;obtain⟨_,_,a5,i5,F5⟩:=l5;obtain⟨_,_,a6,F6⟩:=l6;obtain⟨_,_,a7,F7⟩:=l7;obtain⟨_,_,a8,F8⟩:=l8;obtain⟨_,_,a9,F9⟩:=l9;obtain⟨_,_,a10,F10⟩:=l10;obtain⟨_,_,a11,F11⟩:=l11;obtain⟨_,_,a12,F12⟩:=l12;obtain⟨_,_,a13,F13⟩:=l13;obtain⟨_,_,a14,F14⟩:=l14;obtain⟨_,_,a15,F15⟩:=l15;obtain⟨_,_,a16,F16⟩:=l16;obtain⟨_,_,a17,F17⟩:=l17;obtain⟨_,_,a18,F18⟩:=l18;obtain⟨_,_,a19,F19⟩:=l19;obtain⟨_,_,a20,F20⟩:=l20;obtain⟨_,_,a21,F21⟩:=l21;obtain⟨_,_,a22,F22⟩:=l22;obtain⟨_,_,a23,F23⟩:=l23;obtain⟨_,_,a24,F24⟩:=l24;obtain⟨_,_,a25,F25⟩:=l25;obtain⟨_,_,a26,F26⟩:=l26;obtain⟨_,_,a27,i27,F27⟩:=l27;obtain⟨_,_,a28,F28⟩:=l28;obtain⟨_,_,a29,F29⟩:=l29;obtain⟨_,_,a30,F30⟩:=l30;obtain⟨_,_,a31,F31⟩:=l31;obtain⟨_,_,a32,F32⟩:=l32;obtain⟨_,_,a33,F33⟩:=l33;obtain⟨_,_,a34,F34⟩:=l34;obtain⟨_,_,a35,F35⟩:=l35;obtain⟨_,_,a36,i36,F36⟩:=l36;obtain⟨_,_,a37,i37,F37⟩:=l37;obtain⟨_,_,a38,i38,F38⟩:=l38;obtain⟨_,_,a39,F39⟩:=l39;obtain⟨_,_,a40,F40⟩:=l40;obtain⟨_,_,a41,F41⟩:=l41;obtain⟨_,_,a42,F42⟩:=l42;obtain⟨_,_,a43,F43⟩:=l43;obtain⟨_,_,a44,F44⟩:=l44;obtain⟨_,_,a45,F45⟩:=l45;obtain⟨_,_,a46,F46⟩:=l46;obtain⟨_,_,a47,F47⟩:=l47;obtain⟨_,_,a48,F48⟩:=l48;obtain⟨_,_,a49,F49⟩:=l49;obtain⟨_,_,a51,F51⟩:=l51;obtain⟨_,_,a52,F52⟩:=l52;obtain⟨_,_,a53,F53⟩:=l53;obtain⟨_,_,a54,F54⟩:=l54;obtain⟨_,_,a55,F55⟩:=l55;obtain⟨_,_,a56,F56⟩:=l56;obtain⟨_,_,a57,F57⟩:=l57;obtain⟨_,_,a58,F58⟩:=l58;obtain⟨_,_,a59,F59⟩:=l59;obtain⟨_,_,a60,F60⟩:=l60;obtain⟨_,_,a61,F61⟩:=l61;obtain⟨_,_,a62,F62⟩:=l62;obtain⟨_,_,a63,F63⟩:=l63;obtain⟨_,_,a64,F64⟩:=l64;obtain⟨_,_,a65,F65⟩:=l65;obtain⟨_,_,a66,F66⟩:=l66;obtain⟨_,_,a67,F67⟩:=l67;obtain⟨_,_,a68,F68⟩:=l68;obtain⟨_,_,a69,F69⟩:=l69;obtain⟨_,_,a70,F70⟩:=l70;obtain⟨_,_,a71,F71⟩:=l71;obtain⟨_,_,a72,F72⟩:=l72;obtain⟨_,_,a73,F73⟩:=l73;obtain⟨_,_,a74,F74⟩:=l74;obtain⟨_,_,a75,F75⟩:=l75;obtain⟨_,_,_,_,a76,FL76,LA76⟩:=l76;obtain⟨_,_,_,_,a77,FL77,LA77⟩:=l77;obtain⟨_,_,_,_,a78,FL78,LA78⟩:=l78;obtain⟨_,_,_,_,a79,FL79,LA79⟩:=l79;obtain⟨_,_,a80,F80⟩:=l80;obtain⟨_,_,a81,F81⟩:=l81;obtain⟨_,_,a82,i82,F82⟩:=l82;obtain⟨_,_,a84,F84⟩:=l84;obtain⟨_,_,a85,F85⟩:=l85;obtain⟨_,_,a86,F86⟩:=l86;obtain⟨_,_,a87,F87⟩:=l87;obtain⟨_,_,a88,F88⟩:=l88;obtain⟨_,_,a89,F89⟩:=l89;obtain⟨_,_,a90,F90⟩:=l90;obtain⟨_,_,a91,F91⟩:=l91;obtain⟨_,_,a92,F92⟩:=l92;obtain⟨_,_,a93,F93⟩:=l93;obtain⟨_,_,a94,F94⟩:=l94;obtain⟨_,_,a95,F95⟩:=l95;obtain⟨_,_,a96,F96⟩:=l96;obtain⟨_,_,_,_,a97,FL97,LA97⟩:=l97;obtain⟨_,fdL,a98,F98⟩:=l98;cases hfa.symm.trans (PySem.W.mg_of X G a98);have T:Txt K mg:=⟨PySem.W.mg_none_of X G z0,PySem.W.mg_none_of X G z1,PySem.W.mg_none_of X G z2,PySem.W.mg_none_of X G z3,PySem.W.mg_none_of X G z4,PySem.W.mg_none_of X G z5,PySem.W.mg_none_of X G z6,PySem.W.mg_none_of X G z7,PySem.W.mg_none_of X G z8,PySem.W.mg_none_of X G z9,PySem.W.mg_none_of X G z10,PySem.W.mg_none_of X G z11,PySem.W.mg_none_of X G z12,⟨_,PySem.W.mg_of X G aI_HIGHEST⟩⟩;have R1:RCI K mg CC1:=⟨⟨cc1.pg,cc1.hd,cc1.po,cc1.sa⟩,n1_top,n1_bottom,PySem.W.mg_of X G cc1.a,cc1.ha,cc1.hn,cc1.ht,cc1.hm⟩;have R2:NCI K mg CC2:=⟨⟨cc2.pg,cc2.hd,cc2.po,cc2.sa⟩,n2_poly,n2_low,n2_high,PySem.W.mg_of X G cc2.a,cc2.ha,cc2.hn,cc2.ht,cc2.hm⟩;have F4:=yB (st:=fy) l4 c4 k4;have b4:=FunD.bindsD (ps:=["self","top","bottom"]) (ds:=[]) (tup:=[.int 1 tk4_0]) 3 F4 t4 rfl rfl λ_ _ _ _ _ _=>us3 λ_ _ _=>⟨_,rfl,rfl⟩
 have bD4:=FunD.bindsD (ps:=["self","top","bottom"]) (ds:=[.int 1 tk4_0]) (tup:=[.int 1 tk4_0]) 2 F4 t4 rfl rfl λ_ _ _ _ _ _=>us2 λ_ _=>⟨_,rfl,rfl⟩
 have F50:=yB (st:=fv) l50 c50 k50;have b50:=FunD.bindsD (ps:=["row","low","high"]) (ds:=[]) (tup:=[.none,.none]) 3 F50 t50 rfl rfl λ_ _ _ _ _ _=>us3 λ_ _ _=>⟨_,rfl,rfl⟩
 have bD50:=FunD.bindsD (ps:=["row","low","high"]) (ds:=[.none,.none]) (tup:=[.none,.none]) 1 F50 t50 rfl rfl λ_ _ _ _ _ _=>us1 λ_=>⟨_,rfl,rfl⟩
 obtain⟨_,_,_,_,_,_,_,_,_,e,_,_⟩:=F98.ex;refine⟨fdL,λs v=>.of_eq (by rw[e];rfl),λbase KB GB hNS LB=>?_⟩;have F76:=FL76.fn;have LA76:=LA76 mg base KB LB;have F77:=FL77.fn;have LA77:=LA77 mg base KB LB;have F78:=FL78.fn;have LA78:=LA78 mg base KB LB;have F79:=FL79.fn;have LA79:=LA79 mg base KB LB;have F97:=FL97.fn;have LA97:=LA97 mg base KB LB;have Z:Bx l.prog w base:=⟨rfl,rfl,rfl⟩;have XE:EXC K mg base CByNought CTooHigh CRootError CBelowNought CTooGreat:=⟨PySem.W.mg_of X G aEByNought,PySem.W.mg_of X G aETooHigh,PySem.W.mg_of X G aERootError,PySem.W.mg_of X G aEBelowNought,PySem.W.mg_of X G aETooGreat,D8 KB GB aEByNought xBByNought,⟨KE e6ByNought,e0ByNought,e1ByNought,e2ByNought,e3ByNought,e4ByNought,e5ByNought,e6ByNought⟩,xh_ByNought_RootError,xi_ByNought_ByNought,xi_ByNought_ValueError,xi_ByNought_BelowNought,xi_ByNought_TooGreat,xi_ByNought_TooHigh⟩;have C1:=cal Z X G a1 F1 (EF F1 T) λ_ _ _ _ _ _=>us2 λ_ _=>rfl
 have C2:=cal Z X G a2 F2 (EG F2 T C1) λ_ _ _ _ _ _=>us1 λ_=>rfl
 have C3:=cal Z X G a3 F3 (Ei F3 T) λ_ _ _ _ _ _=>us1 λ_=>rfl
 have K1:KCal l.prog w K mg base 2 CC1 "Ratio" ["self","top","bottom"] (cy CC1) _ _ _ [.int 1]:=⟨FU F4 T R1 C1,⟨cc1.mkr,a4,i4,cc1.kc⟩,PySem.W.mg_of X G cc1.a,b4,bD4,.cons ⟨_,rfl⟩ .nil⟩;have C5:=jJ Z a5 i5 F5 (FT F5 T R1 C3) λ_ _ _ _ _ _=>us2 λ_ _=>rfl
 have C6:=cal Z X G a6 F6 (ER F6 T) λ_ _ _ _ _ _=>us1 λ_=>rfl
 have C7:=cal Z X G a7 F7 (Fq F7 T) λ_ _ _ _ _ _=>us1 λ_=>rfl
 have C8:=cal Z X G a8 F8 (Fu F8 T) λ_ _ _ _ _ _=>us2 λ_ _=>rfl
 have C9:=cal Z X G a9 F9 (Eo F9 T C6 C8) λ_ _ _ _ _ _=>us2 λ_ _=>rfl
 have C10:=cal Z X G a10 F10 (EA F10 T) λ_ _ _ _ _ _=>us1 λ_=>rfl
 have C11:=cal Z X G a11 F11 (EE F11 T hNS hTr C2) λ_ _ _ _ _ _=>us1 λ_=>rfl
 have C12:=cal Z X G a12 F12 (ET F12 T C11) λ_ _ _ _ _ _=>us1 λ_=>rfl
 have C13:=cal Z X G a13 F13 (EI F13 T) λ_ _ _ _ _ _=>us2 λ_ _=>rfl
 have C14:=cal Z X G a14 F14 (Fa F14 T) λ_ _ _ _ _ _=>us4 λ_ _ _ _=>rfl
 have C15:=cal Z X G a15 F15 (Fo F15 T C3 C7 C13 C14 C6) λ_ _ _ _ _ _=>us2 λ_ _=>rfl
 have C16:=cal Z X G a16 F16 (Ek F16 T) λ_ _ _ _ _ _=>us3 λ_ _ _=>rfl
 have C17:=cal Z X G a17 F17 (ED F17 T R1 C16 C3) λ_ _ _ _ _ _=>us2 λ_ _=>rfl
 have C18:=cal Z X G a18 F18 (EK F18 T C11 C15 C9) λ_ _ _ _ _ _=>us2 λ_ _=>rfl
 have C19:=cal Z X G a19 F19 (EJ F19 T C18 C10) λ_ _ _ _ _ _=>us1 λ_=>rfl
 have C20:=cal Z X G a20 F20 (Fw F20 T R1 C17) λ_ _ _ _ _ _=>us2 λ_ _=>rfl
 have C21:=cal Z X G a21 F21 (Fs F21 T R1 C20) λ_ _ _ _ _ _=>us3 λ_ _ _=>rfl
 have C22:=cal Z X G a22 F22 (Fy F22 T) λ_ _ _ _ _ _=>us1 λ_=>rfl
 have C23:=cal Z X G a23 F23 (Ft F23 T C12 C15) λ_ _ _ _ _ _=>us2 λ_ _=>rfl
 have C24:=cal Z X G a24 F24 (EU F24 T C15 C12) λ_ _ _ _ _ _=>us2 λ_ _=>rfl
 have C25:=cal Z X G a25 F25 (EL F25 T) λ_ _ _ _ _ _=>us1 λ_=>rfl
 have C26:=cal Z X G a26 F26 (Eh F26 T C24 C23 C10) λ_ _ _ _ _ _=>us1 λ_=>rfl
 have b27:Binds K _ ["self","row","low","high"] []:=F27.binds (λ_ _ _ _ _ _=>us4 λ_ _ _ _=>rfl);have K2:KCal l.prog w K mg base 1 CC2 "Number" ["self","row","low","high"] (fk CC2) _ _ _ []:=⟨FV F27 T R2,⟨cc2.mkr,a27,i27,cc2.kc⟩,PySem.W.mg_of X G cc2.a,b27,b27,.nil⟩;have C28:=cal Z X G a28 F28 (Fm F28 T) λ_ _ _ _ _ _=>us1 λ_=>rfl
 have C29:=cal Z X G a29 F29 (Fb F29 T) λ_ _ _ _ _ _=>us2 λ_ _=>rfl
 have C30:=cal Z X G a30 F30 (Fx F30 T) λ_ _ _ _ _ _=>us1 λ_=>rfl
 have C31:=cal Z X G a31 F31 (Et F31 T) λ_ _ _ _ _ _=>us3 λ_ _ _=>rfl
 have C32:=cal Z X G a32 F32 (Fn F32 T) λ_ _ _ _ _ _=>us2 λ_ _=>rfl
 have C33:=cal Z X G a33 F33 (FD F33 T C6 C8) λ_ _ _ _ _ _=>us2 λ_ _=>rfl
 have C34:=cal Z X G a34 F34 (E5 F34 T) λ_ _ _ _ _ _=>us2 λ_ _=>rfl
 have C35:=cal Z X G a35 F35 (El F35 T) λ_ _ _ _ _ _=>us1 λ_=>rfl
 have C36:=jJ Z a36 i36 F36 (FQ F36 T R1 K1) λ_ _ _ _ _ _=>us2 λ_ _=>rfl
 have C37:=jJ Z a37 i37 F37 (FS F37 T R1 K1) λ_ _ _ _ _ _=>us2 λ_ _=>rfl
 have C38:=jJ Z a38 i38 F38 (FP F38 T R1 K1) λ_ _ _ _ _ _=>us2 λ_ _=>rfl
 have C39:=cal Z X G a39 F39 (Ff F39 T R1) λ_ _ _ _ _ _=>us2 λ_ _=>rfl
 have C40:=cal Z X G a40 F40 (Es F40 T R1 C2 C33 C34 C6) λ_ _ _ _ _ _=>us3 λ_ _ _=>rfl
 have C41:=cal Z X G a41 F41 (Eu F41 T) λ_ _ _ _ _ _=>us1 λ_=>rfl
 have C42:=cal Z X G a42 F42 (E6 F42 T C7) λ_ _ _ _ _ _=>us1 λ_=>rfl
 have C43:=cal Z X G a43 F43 (Fg F43 T C41 C3 C42) λ_ _ _ _ _ _=>us3 λ_ _ _=>rfl
 have C44:=cal Z X G a44 F44 (FA F44 T R1 C36 C38 K1) λ_ _ _ _ _ _=>us4 λ_ _ _ _=>rfl
 have C45:=cal Z X G a45 F45 (E3 F45 T R1 C37 C39 C43 C40 C17 C44) λ_ _ _ _ _ _=>us4 λ_ _ _ _=>rfl
 have C46:=cal Z X G a46 F46 (E9 F46 T R1 C5 C21 C19) λ_ _ _ _ _ _=>us3 λ_ _ _=>rfl
 have C47:=cal Z X G a47 F47 (EM F47 T) λ_ _ _ _ _ _=>us1 λ_=>rfl
 have C48:=cal Z X G a48 F48 (Fc F48 T C12 C7 C28 C45 C29 C30 C31 C32 C21 C19) λ_ _ _ _ _ _=>us3 λ_ _ _=>rfl
 have C49:=cal Z X G a49 F49 (E1 F49 T R1 C48 C17 C45 C37 C38 K1 K2) λ_ _ _ _ _ _=>us3 λ_ _ _=>rfl
 have C50:CalE l.prog w K mg base 38 "number" ["row","low","high"] (qz CC1 CC2) _ _ _ [.non,.non]:=⟨E2 F50 T R1 C25 C7 K1 C22 C26 C46 C47 C49,PySem.W.mg_of X G a50,k50,b50,bD50,.cons rfl (.cons rfl (.nil))⟩;have C51:=cal Z X G a51 F51 (Fh F51 T R1 C50) λ_ _ _ _ _ _=>us1 λ_=>rfl
 have C52:=cal Z X G a52 F52 (Ez F52 T R1 R2 C45) λ_ _ _ _ _ _=>us2 λ_ _=>rfl
 have C53:=cal Z X G a53 F53 (E4 F53 T R1 R2 C52 K2) λ_ _ _ _ _ _=>us2 λ_ _=>rfl
 have C54:=cal Z X G a54 F54 (Fz F54 T R1 R2 C17) λ_ _ _ _ _ _=>us2 λ_ _=>rfl
 have C55:=cal Z X G a55 F55 (FC F55 T R1 R2 C5 C54 C17) λ_ _ _ _ _ _=>us2 λ_ _=>rfl
 have C56:=cal Z X G a56 F56 (EC F56 T R1 C55 K1) λ_ _ _ _ _ _=>us1 λ_=>rfl
 have C57:=cal Z X G a57 F57 (EY F57 T R1 R2 K1 C37 K2) λ_ _ _ _ _ _=>us1 λ_=>rfl
 have C58:=cal Z X G a58 F58 (EW F58 T R1 R2 C12 C35 C7 C57 K2 K1 C37) λ_ _ _ _ _ _=>us1 λ_=>rfl
 have C59:=cal Z X G a59 F59 (Fl F59 T) λ_ _ _ _ _ _=>us1 λ_=>rfl
 have C60:=cal Z X G a60 F60 (Fv F60 T hNS hTr) λ_ _ _ _ _ _=>us3 λ_ _ _=>rfl
 have C61:=cal Z X G a61 F61 (Fp F61 T C59 C60) λ_ _ _ _ _ _=>us1 λ_=>rfl
 have C62:=cal Z X G a62 F62 (EB F62 T) λ_ _ _ _ _ _=>us2 λ_ _=>rfl
 have C63:=cal Z X G a63 F63 (Ep F63 T C62 C7) λ_ _ _ _ _ _=>us2 λ_ _=>rfl
 have C64:=cal Z X G a64 F64 (EX F64 T C33 C34 C6) λ_ _ _ _ _ _=>us2 λ_ _=>rfl
 have C65:=cal Z X G a65 F65 (Ej F65 T) λ_ _ _ _ _ _=>us2 λ_ _=>rfl
 have C66:=cal Z X G a66 F66 (En F66 T C33 C34 C6) λ_ _ _ _ _ _=>us1 λ_=>rfl
 have C67:=cal Z X G a67 F67 (Er F67 T C7 C12 C66 C61 C63 C64) λ_ _ _ _ _ _=>us2 λ_ _=>rfl
 have C68:=cal Z X G a68 F68 (EN F68 T C7 C12 C66 C61 C63 C65) λ_ _ _ _ _ _=>us2 λ_ _=>rfl
 have C69:=cal Z X G a69 F69 (EO F69 T C7 C12 C66 C61 C63) λ_ _ _ _ _ _=>us2 λ_ _=>rfl
 have C70:=cal Z X G a70 F70 (E8 F70 T) λ_ _ _ _ _ _=>us2 λ_ _=>rfl
 have C71:=cal Z X G a71 F71 (Ev F71 T R1 C36) λ_ _ _ _ _ _=>us2 λ_ _=>rfl
 have C72:=cal Z X G a72 F72 (Ew F72 T R1 C38 C5) λ_ _ _ _ _ _=>us2 λ_ _=>rfl
 have C73:=cal Z X G a73 F73 (Ey F73 T R1 C72) λ_ _ _ _ _ _=>us2 λ_ _=>rfl
 have C74:=cal Z X G a74 F74 (EH F74 T R1 C37) λ_ _ _ _ _ _=>us2 λ_ _=>rfl
 have C75:=cal Z X G a75 F75 (Fi F75 T R1 K1 C22 C21 C70 C49) λ_ _ _ _ _ _=>us3 λ_ _ _=>rfl
 have C76:=cal Z X G a76 F76 (Fj FL76 T R1 LA76 C47 C19 K1 C74 C21 C38 C75) λ_ _ _ _ _ _=>us2 λ_ _=>rfl
 have C77:=cal Z X G a77 F77 (ES FL77 T R1 R2 LA77 C25 C7 C26 C67 C76 C71 C52) λ_ _ _ _ _ _=>us2 λ_ _=>rfl
 have C78:=cal Z X G a78 F78 (Em FL78 T R1 R2 LA78 C25 C7 C26 C68 C76 C72 C52) λ_ _ _ _ _ _=>us2 λ_ _=>rfl
 have C79:=cal Z X G a79 F79 (EQ FL79 T R1 R2 LA79 C51 K1 C26 C69 C76 C73 C52) λ_ _ _ _ _ _=>us2 λ_ _=>rfl
 have C80:=cal Z X G a80 F80 (Fk F80 T C6) λ_ _ _ _ _ _=>us1 λ_=>rfl
 have C81:=cal Z X G a81 F81 (EZ F81 T) λ_ _ _ _ _ _=>us1 λ_=>rfl
 have C82:=jJ Z a82 i82 F82 (FR F82 T R1) λ_ _ _ _ _ _=>us2 λ_ _=>rfl
 have C84:=cal Z X G a84 F84 (E7 F84 T C77 C58) λ_ _ _ _ _ _=>us2 λ_ _=>rfl
 have C85:=zF Z X G a85 F85 (Fe F85 T R1 R2 XE C56 C12 C80 C7 C57 C81 K2 K1 C82) λ_ _ _ _ _ _=>us1 λ_=>rfl
 have C86:=zF Z X G a86 F86 (EV F86 T XE C78 C85) λ_ _ _ _ _ _=>us2 λ_ _=>rfl
 have C87:=cal Z X G a87 F87 (FO F87 T) λ_ _ _ _ _ _=>us2 λ_ _=>rfl
 have C88:=cal Z X G a88 F88 (FE F88 T) λ_ _ _ _ _ _=>us1 λ_=>rfl
 have C89:=cal Z X G a89 F89 (FK F89 T) λ_ _ _ _ _ _=>us1 λ_=>rfl
 have C90:=cal Z X G a90 F90 (FM F90 T) λ_ _ _ _ _ _=>us2 λ_ _=>rfl
 have C91:=cal Z X G a91 F91 (FF F91 T) λ_ _ _ _ _ _=>us2 λ_ _=>rfl
 have C92:=cal Z X G a92 F92 (FN F92 T C91) λ_ _ _ _ _ _=>us2 λ_ _=>rfl
 have C93:=cal Z X G a93 F93 (FI F93 T R1 C88) λ_ _ _ _ _ _=>us1 λ_=>rfl
 have C94:=cal Z X G a94 F94 (FG F94 T R1 R2 C92 C90 C93) λ_ _ _ _ _ _=>us3 λ_ _ _=>rfl
 have C95:=cal Z X G a95 F95 (FL F95 T R1 R2 C51 K1 C92 K2) λ_ _ _ _ _ _=>us3 λ_ _ _=>rfl
 have C96:=cal Z X G a96 F96 (FH F96 T XE) λ_ _ _ _ _ _=>us2 λ_ _=>rfl
 have C97:=cal Z X G a97 F97 (FJ FL97 T R1 R2 LA97 XE C96 C85 C86 C94 (Ju F85)) λ_ _ _ _ _ _=>us6 λ_ _ _ _ _ _=>rfl
 exact Fd F98 T C89 C87 C95 C94 C77 C84 C78 C58 C79 C97
theorem all_mk{l:PySem.W.OpenLaw}{w:World}{K:PySem.W.Frag}{h:Heap}{mg:Str->Option Value}{fa CC1 CC2 CByNought CTooHigh CRootError CBelowNought CTooGreat f4 dt4 f50 dt50 c76_ p76 c77_ p77 c78_ p78 c79_ p79 c97_ p97:Addr}{ts₀:List Addr}(X:K.In h)(G:h.Ns mainGlobals mg)(hfa:mg "law"=some (.ref fa))
 {od4 an4 odt4 od50 an50 odt50:Option Addr} {sl4 slt4 sl50 slt50:Array (Option Value)} {oc4 kV4 dc4 pm4 cd4 ct4 oct4 oc50 kV50 dc50 pm50 cd50 ct50 oct50:Value} {nt4:Nat} {tk4_0:Tok} {nt50:Nat} {tk_HIGHEST:Tok}
 (cc1:ClL K "Ratio" CC1)
 (n1_top:PySem.W.findIn K (.ref CC1) "top"=some none)
 (n1_bottom:PySem.W.findIn K (.ref CC1) "bottom"=some none)
 (cc2:ClL K "Number" CC2)
 (n2_poly:PySem.W.findIn K (.ref CC2) "poly"=some none)
 (n2_low:PySem.W.findIn K (.ref CC2) "low"=some none)
 (n2_high:PySem.W.findIn K (.ref CC2) "high"=some none)
 (aEByNought:PySem.W.nsIn K mainGlobals "ByNought"=some (some (.ref CByNought)))
 (aETooHigh:PySem.W.nsIn K mainGlobals "TooHigh"=some (some (.ref CTooHigh)))
 (aERootError:PySem.W.nsIn K mainGlobals "RootError"=some (some (.ref CRootError)))
 (aEBelowNought:PySem.W.nsIn K mainGlobals "BelowNought"=some (some (.ref CBelowNought)))
 (aETooGreat:PySem.W.nsIn K mainGlobals "TooGreat"=some (some (.ref CTooGreat)))
 (xBByNought:PySem.W.excIn K CByNought [.type "ValueError",.type "Exception",.type "BaseException",.type "object"] "ValueError.__new__"=true)
 (e0ByNought:PySem.W.findIn K (.ref CByNought) "__getattribute__"=some (some (.builtin "BaseException.__getattribute__")))
 (e1ByNought:PySem.W.findIn K (.ref CByNought) "__getattr__"=some none)
 (e2ByNought:PySem.W.mroIn K CByNought (.type "BaseException")=some true)
 (e3ByNought:PySem.W.findIn K (.ref CByNought) "__class__"=some (some (.builtin "object.__class__")))
 (e4ByNought:PySem.W.specialIn K (.builtin "object.__class__") "__get__"=some (some (.builtin "getset_descriptor.__get__")))
 (e5ByNought:PySem.W.takesIn K (.builtin "object.__class__")=some true)
 (e6ByNought:PySem.W.mroIn K CByNought (.type "object")=some true)
 (xh_ByNought_RootError:PySem.W.exmOne K (.ref CByNought) (.ref CRootError)=some true)
 (xi_ByNought_ByNought:PySem.W.kitOne K (.ref CByNought) (.ref CByNought)=some true)
 (xi_ByNought_ValueError:PySem.W.kitOne K (.ref CByNought) (.type "ValueError")=some true)
 (xi_ByNought_BelowNought:PySem.W.kitOne K (.ref CByNought) (.ref CBelowNought)=some false)
 (xi_ByNought_TooGreat:PySem.W.kitOne K (.ref CByNought) (.ref CTooGreat)=some false)
 (xi_ByNought_TooHigh:PySem.W.kitOne K (.ref CByNought) (.ref CTooHigh)=some false)
 (a4:PySem.W.findIn K (.ref CC1) "__init__"=some (some (.ref f4))) (i4:PySem.W.isFn K (.ref f4)=true)
 (l4:K.lookup f4=some ⟨oc4,od4,.func (PySem.W.fnOf "__init__" "Ratio.__init__" (cu fy) (bU fy) (al fy) (.ref dt4) kV4 dc4 pm4 an4 cd4 ct4),sl4⟩) (c4:PySem.W.codeIn K cd4 "Ratio.__init__"=true) (k4:PySem.W.keepIn K (.ref f4)=true)
 (t4:K.lookup dt4=some ⟨oct4,odt4,.seq #[.int 1 tk4_0] nt4,slt4⟩)
 (a50:PySem.W.nsIn K mainGlobals "number"=some (some (.ref f50)))
 (l50:K.lookup f50=some ⟨oc50,od50,.func (PySem.W.fnOf "number" "number" (cu fv) (bU fv) (al fv) (.ref dt50) kV50 dc50 pm50 an50 cd50 ct50),sl50⟩) (c50:PySem.W.codeIn K cd50 "number"=true) (k50:PySem.W.keepIn K (.ref f50)=true)
 (t50:K.lookup dt50=some ⟨oct50,odt50,.seq #[.none,.none] nt50,slt50⟩)
 (aI_HIGHEST:PySem.W.nsIn K mainGlobals "HIGHEST"=some (some (.int 8 tk_HIGHEST)))
 (z0:PySem.W.nsIn K mainGlobals "abs"=some none)
 (z1:PySem.W.nsIn K mainGlobals "len"=some none)
 (z2:PySem.W.nsIn K mainGlobals "max"=some none)
 (z3:PySem.W.nsIn K mainGlobals "range"=some none)
 (z4:PySem.W.nsIn K mainGlobals "enumerate"=some none)
 (z5:PySem.W.nsIn K mainGlobals "list"=some none)
 (z6:PySem.W.nsIn K mainGlobals "reversed"=some none)
 (z7:PySem.W.nsIn K mainGlobals "sum"=some none)
 (z8:PySem.W.nsIn K mainGlobals "any"=some none)
 (z9:PySem.W.nsIn K mainGlobals "isinstance"=some none)
 (z10:PySem.W.nsIn K mainGlobals "int"=some none)
 (z11:PySem.W.nsIn K mainGlobals "bool"=some none)
 (z12:PySem.W.nsIn K mainGlobals "ValueError"=some none)
 (l1:FnL K "shared_by_two" mE)
 (l2:FnL K "shared" mF)
 (l3:FnL K "whole_sign" lX)
 (l5:MtL K CC1 "against" "Ratio.against" oj)
 (l6:FnL K "poly" mQ)
 (l7:FnL K "degree" nF)
 (l8:FnL K "coefficient" nJ)
 (l9:FnL K "taken" mf)
 (l10:FnL K "slope" my)
 (l11:FnL K "shrunk" jl)
 (l12:FnL K "plain" mS)
 (l13:FnL K "scaled" mH)
 (l14:FnL K "lowered" nh)
 (l15:FnL K "divided" nD)
 (l16:FnL K "value_parts" lZ)
 (l17:FnL K "sign_at" mD)
 (l18:FnL K "row_from" mJ)
 (l19:FnL K "row_of" mI)
 (l20:FnL K "changes" nK)
 (l21:FnL K "count" nG)
 (l22:FnL K "bound" nN)
 (l23:FnL K "common" nI)
 (l24:FnL K "part" mT)
 (l25:FnL K "refuse_high" mK)
 (l26:FnL K "without_squares" lW)
 (l27:MtL K CC2 "__init__" "Number.__init__" ol)
 (l28:FnL K "fine_width" nA)
 (l29:FnL K "line_of" ni)
 (l30:FnL K "cells" nM)
 (l31:FnL K "square_of" ml)
 (l32:FnL K "divides" nC)
 (l33:FnL K "added" nS)
 (l34:FnL K "multiplied" m6)
 (l35:FnL K "turned" ma)
 (l36:MtL K CC1 "plus" "Ratio.plus" og)
 (l37:MtL K CC1 "minus" "Ratio.minus" oi)
 (l38:MtL K CC1 "times" "Ratio.times" oa)
 (l39:FnL K "halvings" nq)
 (l40:FnL K "stretched" mj)
 (l41:FnL K "spread" mn)
 (l42:FnL K "moved" m7)
 (l43:FnL K "halved" nr)
 (l44:FnL K "along" nQ)
 (l45:FnL K "narrowed" m4)
 (l46:FnL K "many_within" ng)
 (l47:FnL K "refuse_great" mL)
 (l48:FnL K "least" nj)
 (l49:FnL K "number_in" mZ)
 (l51:FnL K "fraction" nu)
 (l52:FnL K "span_of" mx)
 (l53:FnL K "narrow" m5)
 (l54:FnL K "beside" nO)
 (l55:FnL K "against" nR)
 (l56:FnL K "sign_of" mC)
 (l57:FnL K "only_root" mX)
 (l58:FnL K "opposite" mV)
 (l59:FnL K "first_not_nought" nz)
 (l60:FnL K "cleared" jm)
 (l61:FnL K "determinant" nE)
 (l62:FnL K "slid" mz)
 (l63:FnL K "table" mh)
 (l64:FnL K "opposed" mW)
 (l65:FnL K "weighted" lY)
 (l66:FnL K "through" me)
 (l67:FnL K "sums" mi)
 (l68:FnL K "products" mM)
 (l69:FnL K "powers" mO)
 (l70:FnL K "middle" na)
 (l71:FnL K "span_sum" mq)
 (l72:FnL K "span_product" mr)
 (l73:FnL K "span_power" mv)
 (l74:FnL K "set_back" mG)
 (l75:FnL K "found_beyond" nv)
 (l76:FnB K "found_between" nw c76_ p76)
 (l77:FnB K "plus" mR c77_ p77)
 (l78:FnB K "times" md c78_ p78)
 (l79:FnB K "power" mP c79_ p79)
 (l80:FnL K "flipped" ny)
 (l81:FnL K "off_nought" mY)
 (l82:MtL K CC1 "over" "Ratio.over" oh)
 (l84:FnL K "minus" m8)
 (l85:FnL K "inverse" nl)
 (l86:FnL K "over" mU)
 (l87:FnL K "_law_cell_at" n8)
 (l88:FnL K "_law_whole" nU)
 (l89:FnL K "_law_number" n0)
 (l90:FnL K "_law_is" n5)
 (l91:FnL K "_law_shared" nV)
 (l92:FnL K "_law_due" n6)
 (l93:FnL K "_law_ratio" nY)
 (l94:FnL K "_law_right" nW)
 (l95:FnL K "_law_made" n4)
 (l96:FnL K "_law_refused" nX)
 (l97:FnB K "_law_over" nZ c97_ p97)
 (l98:FnL K "law" nk)
 (dT:[p76,p77,p78,p79,p97].Nodup)
 (dM:∀p∈[p76,p77,p78,p79,p97],p∈ts₀)
 (hTr:l.prog.given.tree=none)
 : ∃T:List Site,Tbs (T.map (·.tab)) K/\(∀s∈T,s.tab∈ts₀)/\(∀s∈T,∃c,CodeK K c s.tab)/\∃fd:FuncData,(∀(s:Shared) (u:Value),BindsTo s fd ⟨[u],[]⟩ [("_law_script",u)])/\∀base:Heap,PySem.W.Frag.In (nt (T.map (·.tab)) K) base->base.Ns mainGlobals mg->base.NoSeer->LmB mg base->FnOk l.prog w (nt (T.map (·.tab)) K) mg base CX0 45 fa fd ["_law_script"] (jc T (nt (T.map (·.tab)) K)):=by
 have hT:Tbs (([⟨p76,⟨497,39,497,80⟩,"found_between.<locals>.<lambda>"⟩,⟨p77,⟨475,33,475,102⟩,"plus.<locals>.<lambda>"⟩,⟨p78,⟨481,33,481,106⟩,"times.<locals>.<lambda>"⟩,⟨p79,⟨488,33,488,81⟩,"power.<locals>.<lambda>"⟩,⟨p97,⟨569,66,569,103⟩,"_law_over.<locals>.<lambda>"⟩]:List Site).map (·.tab)) K:=QV.mpr ⟨l76.tb,QV.mpr ⟨l77.tb,QV.mpr ⟨l78.tb,QV.mpr ⟨l79.tb,QV.mpr ⟨l97.tb,List.forall_mem_nil _⟩⟩⟩⟩⟩;have hD:=zj (TT:=[⟨p76,⟨497,39,497,80⟩,"found_between.<locals>.<lambda>"⟩,⟨p77,⟨475,33,475,102⟩,"plus.<locals>.<lambda>"⟩,⟨p78,⟨481,33,481,106⟩,"times.<locals>.<lambda>"⟩,⟨p79,⟨488,33,488,81⟩,"power.<locals>.<lambda>"⟩,⟨p97,⟨569,66,569,103⟩,"_law_over.<locals>.<lambda>"⟩]) dT;refine⟨[⟨p76,⟨497,39,497,80⟩,"found_between.<locals>.<lambda>"⟩,⟨p77,⟨475,33,475,102⟩,"plus.<locals>.<lambda>"⟩,⟨p78,⟨481,33,481,106⟩,"times.<locals>.<lambda>"⟩,⟨p79,⟨488,33,488,81⟩,"power.<locals>.<lambda>"⟩,⟨p97,⟨569,66,569,103⟩,"_law_over.<locals>.<lambda>"⟩],hT,λs hs=>dM _ (QL (f:=(·.tab)) hs),QV.mpr ⟨⟨_,l76.co⟩,QV.mpr ⟨⟨_,l77.co⟩,QV.mpr ⟨⟨_,l78.co⟩,QV.mpr ⟨⟨_,l79.co⟩,QV.mpr ⟨⟨_,l97.co⟩,List.forall_mem_nil _⟩⟩⟩⟩⟩,?_⟩;exact LW (Gg X) G hfa (cc1.nt hT) ((cR hT _ _).trans n1_top) ((cR hT _ _).trans n1_bottom) (cc2.nt hT) ((cR hT _ _).trans n2_poly) ((cR hT _ _).trans n2_low) ((cR hT _ _).trans n2_high) ((bF hT _ _).trans aEByNought) ((bF hT _ _).trans aETooHigh) ((bF hT _ _).trans aERootError) ((bF hT _ _).trans aEBelowNought) ((bF hT _ _).trans aETooGreat) ((Gf hT _ _ _).trans xBByNought) ((cR hT _ _).trans e0ByNought) ((cR hT _ _).trans e1ByNought) ((oQ hT _ _).trans e2ByNought) ((cR hT _ _).trans e3ByNought) (gA hT e4ByNought) (w5 hT e5ByNought) ((oQ hT _ _).trans e6ByNought) (Ge hT xh_ByNought_RootError) (jE hT xi_ByNought_ByNought) (jE hT xi_ByNought_ValueError) (jE hT xi_ByNought_BelowNought) (jE hT xi_ByNought_TooGreat) (jE hT xi_ByNought_TooHigh) ((cR hT _ _).trans a4) (xf hT i4) (dR hT l4 (λz=>nomatch z)) ((oS hT _ _).trans c4) (jF hT k4) (dR hT t4 (λz=>nomatch z)) ((bF hT _ _).trans a50) (dR hT l50 (λz=>nomatch z)) ((oS hT _ _).trans c50) (jF hT k50) (dR hT t50 (λz=>nomatch z)) ((bF hT _ _).trans aI_HIGHEST) ((bF hT _ _).trans z0) ((bF hT _ _).trans z1) ((bF hT _ _).trans z2) ((bF hT _ _).trans z3) ((bF hT _ _).trans z4) ((bF hT _ _).trans z5) ((bF hT _ _).trans z6) ((bF hT _ _).trans z7) ((bF hT _ _).trans z8) ((bF hT _ _).trans z9) ((bF hT _ _).trans z10) ((bF hT _ _).trans z11) ((bF hT _ _).trans z12) (l1.nt hT) (l2.nt hT) (l3.nt hT) (l5.nt hT) (l6.nt hT) (l7.nt hT) (l8.nt hT) (l9.nt hT) (l10.nt hT) (l11.nt hT) (l12.nt hT) (l13.nt hT) (l14.nt hT) (l15.nt hT) (l16.nt hT) (l17.nt hT) (l18.nt hT) (l19.nt hT) (l20.nt hT) (l21.nt hT) (l22.nt hT) (l23.nt hT) (l24.nt hT) (l25.nt hT) (l26.nt hT) (l27.nt hT) (l28.nt hT) (l29.nt hT) (l30.nt hT) (l31.nt hT) (l32.nt hT) (l33.nt hT) (l34.nt hT) (l35.nt hT) (l36.nt hT) (l37.nt hT) (l38.nt hT) (l39.nt hT) (l40.nt hT) (l41.nt hT) (l42.nt hT) (l43.nt hT) (l44.nt hT) (l45.nt hT) (l46.nt hT) (l47.nt hT) (l48.nt hT) (l49.nt hT) (l51.nt hT) (l52.nt hT) (l53.nt hT) (l54.nt hT) (l55.nt hT) (l56.nt hT) (l57.nt hT) (l58.nt hT) (l59.nt hT) (l60.nt hT) (l61.nt hT) (l62.nt hT) (l63.nt hT) (l64.nt hT) (l65.nt hT) (l66.nt hT) (l67.nt hT) (l68.nt hT) (l69.nt hT) (l70.nt hT) (l71.nt hT) (l72.nt hT) (l73.nt hT) (l74.nt hT) (l75.nt hT) (l76.nt (s:=⟨p76,⟨497,39,497,80⟩,"found_between.<locals>.<lambda>"⟩) hT hD (.head _)) (l77.nt (s:=⟨p77,⟨475,33,475,102⟩,"plus.<locals>.<lambda>"⟩) hT hD (.tail _ (.head _))) (l78.nt (s:=⟨p78,⟨481,33,481,106⟩,"times.<locals>.<lambda>"⟩) hT hD (.tail _ (.tail _ (.head _)))) (l79.nt (s:=⟨p79,⟨488,33,488,81⟩,"power.<locals>.<lambda>"⟩) hT hD (.tail _ (.tail _ (.tail _ (.head _))))) (l80.nt hT) (l81.nt hT) (l82.nt hT) (l84.nt hT) (l85.nt hT) (l86.nt hT) (l87.nt hT) (l88.nt hT) (l89.nt hT) (l90.nt hT) (l91.nt hT) (l92.nt hT) (l93.nt hT) (l94.nt hT) (l95.nt hT) (l96.nt hT) (l97.nt (s:=⟨p97,⟨569,66,569,103⟩,"_law_over.<locals>.<lambda>"⟩) hT hD (.tail _ (.tail _ (.tail _ (.tail _ (.head _)))))) (l98.nt hT) hTr
theorem walk{l:PySem.W.OpenLaw}{q:Program}{loose:List Str}{XP:(Str->Option Value)->Heap->Prop}{YP:World->Heap->Prop}{d:DefRec}{K:Params->PySem.W.Frag}{ts₀:List Addr}(hi:PyProof.Rows.importsNone q=true)(hn:l.most=some 63)(hdf:d.params.defaults=[])
 (hY:∀(w:World) (h:Heap),YP w h->(K w.params).In h) (hZ:∀(w:World) (h:Heap),YP w h->∀p∈ts₀,h.get? p=some (PySem.W.tabObj #[]))
 (F:∀(w:World) (mg:Str->Option Value) (fa:Addr) (h:Heap),(K w.params).In h->h.Ns mainGlobals mg->mg d.name=some (.ref fa) ->
   ∃T:List Site,Tbs (T.map (·.tab)) (K w.params)/\(∀s∈T,s.tab∈ts₀)/\(∀s∈T,∃c,CodeK (K w.params) c s.tab)/\∃fd:FuncData,(∀(s:Shared) (u:Value),BindsTo s fd ⟨[u],[]⟩ [("_law_script",u)])/\∀base:Heap,PySem.W.Frag.In (nt (T.map (·.tab)) (K w.params)) base->base.Ns mainGlobals mg->base.NoSeer->LmB mg base->FnOk l.prog w (nt (T.map (·.tab)) (K w.params)) mg base CX0 45 fa fd ["_law_script"] (jc T (nt (T.map (·.tab)) (K w.params)))) :
 PySem.W.WalkO q loose XP YP l.row.toRowW d [] (λf vs=>PySem.call f vs) :=
 L2.walk_ofT (n:=63) (k:=45) (x:="_law_script") (CX:=λ_=>CX0) (sp:=λT K=>jc T K) hi hn (by decide) hdf ⟨rfl,by decide,by decide⟩ hY hZ F (λ_ _ _ a ns hl hT hS=>⟨a,ns,rfl,hS,hl,hT,λ_=>rfl⟩) λ_ _ _ _ _ z=>z
section
end
end R51
open PySem PySem.W PyProof.Rows
set_option maxRecDepth 100000 in
set_option maxHeartbeats 0 in
theorem PySem.Challenge.cw_rootspan_k51_fractions_reckoned_holds : PySem.Challenge.rw_rootspan_k51_fractions_reckoned.Holds := by
 w_on;o_law;k_head;(case hw=>w_witness2)
 k_fill
 refine R51.walk (l:=PySem.Challenge.rw_rootspan_k51_fractions_reckoned) (by decide +kernel) rfl rfl (λw h Y=>PySem.W.km_in_of Y) (λw h Y=>PySem.W.km_tabs_of Y) ?F
 case F =>
  intro w mg fa h KX G hmg
  refine' R51.all_mk KX G hmg ?cc1 ?n1_top ?n1_bottom ?cc2 ?n2_poly ?n2_low ?n2_high ?aEByNought ?aETooHigh ?aERootError ?aEBelowNought ?aETooGreat ?xBByNought ?e0ByNought ?e1ByNought ?e2ByNought ?e3ByNought ?e4ByNought ?e5ByNought ?e6ByNought ?xh_ByNought_RootError ?xi_ByNought_ByNought ?xi_ByNought_ValueError ?xi_ByNought_BelowNought ?xi_ByNought_TooGreat ?xi_ByNought_TooHigh ?a4 ?i4 ?l4 ?c4 ?k4 ?t4 ?a50 ?l50 ?c50 ?k50 ?t50 ?aI_HIGHEST ?_ ?_ ?_ ?_ ?_ ?_ ?_ ?_ ?_ ?_ ?_ ?_ ?_ ?_ ?_ ?_ ?_ ?_ ?_ ?_ ?_ ?_ ?_ ?_ ?_ ?_ ?_ ?_ ?_ ?_ ?_ ?_ ?_ ?_ ?_ ?_ ?_ ?_ ?_ ?_ ?_ ?_ ?_ ?_ ?_ ?_ ?_ ?_ ?_ ?_ ?_ ?_ ?_ ?_ ?_ ?_ ?_ ?_ ?_ ?_ ?_ ?_ ?_ ?_ ?_ ?_ ?_ ?_ ?_ ?_ ?_ ?_ ?_ ?_ ?_ ?_ ?_ ?_ ?_ ?_ ?_ ?_ ?_ ?_ ?_ ?_ ?l76 ?l77 ?l78 ?l79 ?_ ?_ ?_ ?_ ?_ ?_ ?_ ?_ ?_ ?_ ?_ ?_ ?_ ?_ ?_ ?_ ?l97 ?_ ?dT ?dM rfl
  (case cc1=>apply R51.ClL.mk<;>k_is)
  (case n1_top=>k_is)
  (case n1_bottom=>k_is)
  (case cc2=>apply R51.ClL.mk<;>k_is)
  (case n2_poly=>k_is)
  (case n2_low=>k_is)
  (case n2_high=>k_is)
  (case aEByNought=>k_is)
  (case aETooHigh=>k_is)
  (case aERootError=>k_is)
  (case aEBelowNought=>k_is)
  (case aETooGreat=>k_is)
  (case xBByNought=>k_exc)
  (case e0ByNought=>k_is)
  (case e1ByNought=>k_is)
  (case e2ByNought=>k_is)
  (case e3ByNought=>k_is)
  (case e4ByNought=>k_is)
  (case e5ByNought=>k_is)
  (case e6ByNought=>k_is)
  (case xh_ByNought_RootError=>kts_exm)
  (case xi_ByNought_ByNought=>kit_is)
  (case xi_ByNought_ValueError=>kit_is)
  (case xi_ByNought_BelowNought=>kit_is)
  (case xi_ByNought_TooGreat=>kit_is)
  (case xi_ByNought_TooHigh=>kit_is)
  (case a4=>k_is)
  (case i4=>k_is)
  (case l4=>k_is)
  (case c4=>k_is)
  (case k4=>k_is)
  (case t4=>k_is)
  (case a50=>k_is)
  (case l50=>k_is)
  (case c50=>k_is)
  (case k50=>k_is)
  (case t50=>k_is)
  (case aI_HIGHEST=>k_is)
  (case l76=>apply R51.fnB<;>first |k_is |rfl | (right;k_is) | (left;kernel_rfl))
  (case l77=>apply R51.fnB<;>first |k_is |rfl | (right;k_is) | (left;kernel_rfl))
  (case l78=>apply R51.fnB<;>first |k_is |rfl | (right;k_is) | (left;kernel_rfl))
  (case l79=>apply R51.fnB<;>first |k_is |rfl | (right;k_is) | (left;kernel_rfl))
  (case l97=>apply R51.fnB<;>first |k_is |rfl | (right;k_is) | (left;kernel_rfl))
  (case dT=>decide)
  (case dM=>decide)
  all_goals first | (apply R51.fnL<;>k_is) | (apply R51.mtL<;>k_is) |k_is
