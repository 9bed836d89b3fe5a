import PyProof.Rows.All
import Wide.All
import OpenK.AllK
import Wide.FinOn
import Lean
import PyProof.EqAt
import PyProof.EqKinds
import PyProof.TupleCall
import PySem.Challenge.RW_rootspan_k47_compared
set_option Elab.async false
set_option linter.all false
set_option maxRecDepth 100000
local macro_rules | `(tactic|omega)=>`(tactic|first |lia |omega (splitDisjunctions:=true))
noncomputable section
namespace Al
def Pk:=@List.length_map
def Pl:=@Int.mul_pos
def Pm:=@Rat.le_of_lt
def Pn:=@Nat.le_refl
def Pp:=@Rat.intCast_mul
def Pq:=@List.length_pos_iff
def Ps:=@Nat.zero_le
def Pt:=@Int.le_of_lt
def Pu:=@List.mem_cons
def Pw:=@List.mem_singleton
def Px:=@Rat.mul_le_mul_of_nonneg_left
def Py:=@Rat.le_refl
def Pz:=@List.mem_cons_of_mem
def PB:=@Rat.mul_pos
def PC:=@Rat.intCast_lt_intCast
def PD:=@Rat.mul_le_mul_of_nonneg_right
def PF:=@List.mem_map
def PH:=@List.mem_cons_self
def PJ:=@Rat.mul_nonneg
def PK:=@Rat.div_mul_cancel
def PL:=@Int.natAbs_mul
def PM:=@Nat.le_trans
def PN:=@Int.mul_zero
def PP:=@Int.mul_ne_zero
def PQ:=@Int.mul_comm
def PR:=@Int.mul_assoc
def PU:=@Int.le_refl
def PV:=@List.mem_append
def PX:=@Int.zero_mul
def PY:=@Int.mul_nonneg
def PZ:=@Rat.not_lt
def P4:=@List.size_toArray
def P5:=@Rat.le_total
def P6:=@List.length_append
def P7:=@Int.one_mul
def P8:=@Int.pow_succ
def P9:=@Int.natAbs_natCast
def Qa:=@Nat.lt_of_lt_of_le
def Qb:=@Nat.ne_of_lt
def Qc:=@List.map_append
def Qd:=@Int.ne_of_gt
def Qe:=@Int.mul_one
def Qf:=@Int.mul_le_mul_of_nonneg_right
def Qg:=@Nat.mul_le_mul_right
def Qh:=@Int.lt_or_gt_of_ne
def Qi:=@List.length_cons
def Qj:=@Int.add_zero
def Qk:=@Int.mul_eq_zero
def Ql:=@Int.mul_lt_mul_of_pos_right
def Qm:=@List.mem_append_right
def Qn:=@Int.not_lt
def Qo:=@Int.pow_pos
def Qp:=@List.map_cons
def Qq:=@Int.mul_pos_of_neg_of_neg
def Qr:=@Rat.mul_lt_mul_of_pos_right
def Qs:=@Rat.ne_of_gt
def Qt:=@Int.zero_add
def Qu:=@Int.natCast_mul
def Qv:=@Rat.not_le
def Qw:=@Nat.lt_irrefl
def Qx:=@List.length_take
def Qy:=@List.take_add_one
def Qz:=@List.length_eq_zero_iff
def QA:=@Int.pow_zero
def QB:=@Int.lt_or_le
def QC:=@Rat.intCast_le_intCast
def QD:=@List.take_length
def QE:=@List.map_map
def QF:=@Nat.mul_le_mul
def QG:=@Int.not_le
def QH:=@Rat.intCast_add
def QI:=@List.mem_append_left
def QJ:=@Nat.lt_succ_self
def QK:=@Nat.mul_comm
def QL:=@Nat.le_of_not_lt
def QM:=@Nat.pow_pos
def QN:=@List.length_range
def QO:=@Nat.sub_zero
def QP:=@Nat.mul_le_mul_left
def QQ:=@List.mem_flatMap
def QR:=@Nat.lt_of_le_of_lt
def QS:=@Nat.gcd_dvd_left
def QT:=@Int.lt_of_mul_lt_mul_right
def QU:=@Rat.intCast_neg
def QV:=@Nat.le_of_eq
def QW:=@List.nodup_cons
def QX:=@List.length_drop
def QY:=@List.replicate_succ
def QZ:=@List.lookup_cons
def Q0:=@Nat.pow_succ
def Q1:=@List.getElem_mem
def Q2:=@Nat.sub_self
def Q3:=@Int.natAbs_pos
def Q4:=@List.eq_nil_of_length_eq_zero
def Q5:=@Int.mul_le_mul_of_nonneg_left
def Q6:=@Rat.le_trans
def Q7:=@Int.lt_or_eq_of_le
def Q8:=@Rat.mul_comm
def Q9:=@Nat.le_of_lt
def Ra:=@Bool.false_ne_true
def Rb:=@List.length_set
def Rc:=@Nat.gcd_dvd_right
def Re:=@Int.ofNat_dvd_left
def Rf:=@Int.neg_mul_neg
def Rg:=@Int.natAbs_sub_le
def Rh:=@Int.lt_trichotomy
def Ri:=@Rat.intCast_sub
def Rj:=@Int.natCast_pow
def Rk:=@List.drop_zero
def Rl:=@Int.ofNat_lt
def Rm:=@Int.mul_neg_of_neg_of_pos
def Rn:=@Int.eq_ofNat_of_zero_le
def Ro:=@Nat.gcd_comm
def Rp:=@List.map_congr_left
def Rq:=@Nat.dvd_trans
def Rr:=@Int.mul_le_mul
def Rs:=@Rat.intCast_inj
def Rt:=@List.append_of_mem
def Ru:=@Rat.pow_succ
def Rv:=@Nat.min_le_left
def Rw:=@Nat.not_lt_zero
def Rx:=@List.flatten_cons
def Ry:=@Int.natAbs_add_le
def Rz:=@Int.natAbs_dvd_natAbs
def RB:=@Int.mul_nonneg_of_nonpos_of_nonpos
def RC:=@Nat.le_mul_of_pos_left
def RD:=@Nat.gcd_zero_left
def RE:=@Int.eq_of_mul_eq_mul_right
def RF:=@Int.mul_neg_of_pos_of_neg
def RG:=@Int.natAbs_pow
def RH:=@Nat.add_le_add
def RI:=@Rat.mul_eq_zero
def RJ:=@Rat.mul_lt_mul_of_pos_left
def RK:=@Nat.gcd_one_right
def RL:=@Nat.pow_lt_pow_iff_right
def RO:=@List.not_mem_nil
def RP:=@List.length_replicate
def RQ:=@Nat.pow_le_pow_right
def RS:=@List.length_eq_one_iff
def RT:=@Int.natCast_nonneg
def RU:=@List.mem_of_mem_drop
def RV:=@List.mem_of_mem_take
def RW:=@Int.emod_lt_of_pos
def RX:=@List.drop_eq_getElem_cons
def RY:=@Int.lt_of_mul_lt_mul_left
def RZ:=@Nat.le_of_mul_le_mul_right
def R0:=@Int.eq_of_mul_eq_mul_left
def R3:=@Nat.le_of_mul_le_mul_left
def R4:=@Int.mul_lt_mul_of_pos_left
def R5:=@Int.natAbs_ediv_le_natAbs
end Al
open Al
namespace PySem.W.Fast
def tw13584971093472472636:=()
def tw1518031291497332277:=()
def tw6273592235041408649:=()
def tw13659486261740832933:=()
def tw11355104063407869430:=()
def tw3524455301846273388:=()
def tw13207617815329355533:=()
def tw2472172373927702368:=()
def tw11111984116669878512:=()
def tw13778777856821974439:=()
def tw11924870804075074854:=()
def tw16587320683370872858:=()
def tw4164926599689201484:=()
def tw15697385921996659912:=()
def tw2983776090165090165:=()
def tw2250210834140775296:=()
def tw2910876090544410394:=()
def tw11808158555943973362:=()
def tw716573943236218293:=()
def tw11702146458875155640:=()
def tw10690413646372403825:=()
def tw6350260893268821541:=()
def tw9219457555488897335:=()
def tw13587252067517553624:=()
def tw199800575522472782:=()
def tw10346619156964250640:=()
def tw11887930066509938529:=()
def tw12879295011746417754:=()
def tw7064932777520569214:=()
def tw14646663557359293717:=()
def tw2991095826902693231:=()
def tw10576457953865473102:=()
def tw6475628491666183741:=()
def tw12536137971920538946:=()
def tw2524258769672802044:=()
def tw10788972241729551649:=()
def tw4238337213573852210:=()
def tw16851279715771298656:=()
def tw1974700483527963006:=()
def tw17959909921870417818:=()
def tw14079675652316351977:=()
def tw2771284708432170067:=()
def tw4803708874149557303:=()
def tw11838048177524070514:=()
def tw10627459119274131263:=()
def tw13708270481877956669:=()
def tw3823581107440665221:=()
def tw14227138821616819825:=()
def tw13049384830474606273:=()
def tw16579605970336548460:=()
def tw744383198594589881:=()
def tw11427186401709095656:=()
def tw4646969521702875059:=()
def tw8814724792369575214:=()
def tw9131163921923957101:=()
def tw17965103244521904888:=()
def tw10159150327730561346:=()
def tw7191189579507224309:=()
def tw7901493384351063228:=()
def tw12276527573999549467:=()
def tw8078192879429409233:=()
def tw2670513490406033994:=()
def tw14756855200832399622:=()
def tw11538670644730349765:=()
def tw6920193526214822855:=()
def tw13932889225896345380:=()
def tw14671633027601338127:=()
def tw16375227557009646860:=()
def tw2785830062865435318:=()
def tw2518935109239733819:=()
def tw1771902082374018628:=()
def tw6181810238304809929:=()
def tw10414988849905225574:=()
def tw2359057825569474160:=()
def tw16124391219259884914:=()
def tw16539039902002325670:=()
def tw11532400109211104915:=()
def tw14150458290146970343:=()
def tw8329027081185459739:=()
def tw6668490532019167042:=()
def tw10922461950179362902:=()
def tw6366957218711586190:=()
def tw13054857726841387125:=()
def tw7316787786828607026:=()
def tw11848877129835965247:=()
def tw17143423447015334893:=()
def tw1882515924842172251:=()
def tw4647153476513298290:=()
def tw6011404988756465203:=()
def tw14105151976430530001:=()
def tw16972942481663251070:=()
def tw13072631459340520697:=()
def tw14068937130753902917:=()
def tw18150616321880279796:=()
def tw13595482929600868235:=()
def tw1932085174604467794:=()
def tw4465856528801870396:=()
def tw641056826449754000:=()
def tw10469516854449139765:=()
def tw17497664542388776503:=()
def tw12035752948272336198:=()
def tw4020907143457252633:=()
def tw15086022644384527137:=()
def tw15280587746869069529:=()
def tw10159708059956834396:=()
def tw15738380667325548810:=()
def tw10635054012302596409:=()
def tw9851791931429670303:=()
def tw7812069598121867899:=()
def tw14134970866430846555:=()
def tw5194788538377406544:=()
def tw8401366514527444317:=()
def tw17670157835075481859:=()
def tw10961920357875926971:=()
def tw15382803952718863640:=()
def tw7606582746509133124:=()
def tw1015673494651900622:=()
def tw11896184061964837873:=()
def tw5584948471755513872:=()
def tw2777233460915210989:=()
def tw4531920119974817498:=()
def tw4007576346234996004:=()
def tw10011567075408652353:=()
def tw10890318839147446784:=()
def tw5166296774891945749:=()
def tw2416091036574357164:=()
def tw15372997388260441129:=()
def tw14150269858627615960:=()
def tw16631939371719590623:=()
def tw12233406363667141120:=()
def tw2763799530166764457:=()
def tw12445582833768866554:=()
def tw9973301926605074702:=()
def tw11012289104350621476:=()
def tw10765695162598894654:=()
def tw5236441850171624985:=()
def tw11985988325917108889:=()
def tw16710780383898159498:=()
def tw5438098932753475930:=()
def tw11263065139172374280:=()
def tw6065422810795710983:=()
def tw4202780698956112143:=()
def tw305600674553925414:=()
def tw3897765436253705587:=()
def tw7697708371269103087:=()
def tw8182733563937600042:=()
def tw11445226512810520596:=()
def tw15631457987004156031:=()
def tw16886960150218452931:=()
def tw13064743477999739702:=()
def tw3496190895145111513:=()
def tw15263565892411337074:=()
def tw377974944167160965:=()
def tw6553741943829938528:=()
def tw2482575422586179017:=()
def tw14943771562655398249:=()
def tw4824098175236418157:=()
def tw16141429222624334564:=()
def tw3321742762499470661:=()
def tw3317365774966337553:=()
def tw2689073436388024575:=()
def tw17126217949050537611:=()
def tw11276267714146078047:=()
def tw10158163726029833816:=()
def tw17059543564674483331:=()
def tw11469540509375227479:=()
def tw1602922039098767330:=()
def tw12885254311886428536:=()
def tw7751841665136103996:=()
def tw907522866798609572:=()
def tw2274494556223097144:=()
def tw8235489902349606424:=()
def tw4461434305960651093:=()
def tw5633321337410455069:=()
def tw9021384295865668439:=()
def tw16180420138787761591:=()
def tw5393472581654241540:=()
def tw9438131523470055891:=()
def tw7858545385715603605:=()
def tw13571402865350761241:=()
def tw16039672758457246190:=()
def tw18244054898321125661:=()
def tw1967977343348910449:=()
def tw404653248020336804:=()
def tw422814769561167397:=()
def tw8197919808389787117:=()
def tw13473464361300694119:=()
def tw11435792119555907271:=()
def tw9886619132443000624:=()
def tw6057965033756151820:=()
def tw16135278451325926674:=()
def tw12123295858719541587:=()
def tw17400948068719381021:=()
def tw12216868198048227184:=()
def tw10000973349869774754:=()
def tw14094673149236822397:=()
def tw7510610468868760953:=()
def tw13898502060175501627:=()
def tw12360872869120837637:=()
def tw9083099176122095564:=()
def tw2149141922374500474:=()
def tw3172452931899575807:=()
def tw11525241549622523402:=()
def tw8347829223251320420:=()
def tw11888296575588439661:=()
def tw1907425584625580513:=()
def tw4722181738736104896:=()
def tw18202020113133735509:=()
def tw15296720485416609020:=()
def tw1621628623143881294:=()
def tw7153806518035376048:=()
def tw1214105435658198395:=()
def tw1553853615987544852:=()
def tw13594839396275523901:=()
def tw16361587908043130325:=()
def tw15974499909802955278:=()
def tw13181504284655345670:=()
def tw8301635138082339927:=()
def tw11244266065599555728:=()
end PySem.W.Fast
namespace L2
open PySem PySem.Spec PyProof.Rows
abbrev Key:=Sum Int Str
noncomputable def Av:Key->Value->Bool
 |.inl k,v=>Value.isInt k v
 |.inr x,v=>Value.isStrOf x v
noncomputable def IU(w:World):Key->Int
 |.inl k=>hashInt k
 |.inr x=>hashStr w x
theorem gP:∀{k:Key} {v:Value},Av k v=true->(∃i t,k=Sum.inl i/\v=Value.int i t)\/(∃x t,k=Sum.inr x/\v=Value.str x t)
 |.inl i,v,h=>by obtain⟨t,e⟩:=Value.isInt_shape (k:=i) (v:=v) h;exact .inl ⟨i,t,rfl,e⟩
 |.inr x,v,h=>by obtain⟨t,e⟩:=Value.isStrOf_shape (x:=x) (v:=v) h;exact .inr ⟨x,t,rfl,e⟩
theorem IT(a b:Int):decide ((Sum.inl a:Key)=Sum.inl b)=(a == b):=by
 by_cases e:a=b
 ·subst e;simp
 ·have h:¬(Sum.inl a:Key)=Sum.inl b:=λq=>e (Sum.inl.inj q)
  rw[decide_eq_false h];exact(beq_eq_false_iff_ne.mpr e).symm
theorem IQ(a b:Str):decide ((Sum.inr a:Key)=Sum.inr b)=decide (a=b):=by
 by_cases e:a=b
 ·subst e;simp
 ·have h:¬(Sum.inr a:Key)=Sum.inr b:=λq=>e (Sum.inr.inj q)
  rw[decide_eq_false h,decide_eq_false e]
theorem IS(a:Int)(b:Str):decide ((Sum.inl a:Key)=Sum.inr b)=false:=decide_eq_false (λq=>nomatch q)
theorem IR(a:Str)(b:Int):decide ((Sum.inr a:Key)=Sum.inl b)=false:=decide_eq_false (λq=>nomatch q)
noncomputable def uw(prog:Program)(w:World):PySem.KeyKind prog w Key where
 is:=Av
 hash:=IU w
 inj:=λv a b ha hb=>by
  rcases gP ha with⟨i,t,rfl,rfl⟩ |⟨x,t,rfl,rfl⟩
  ·rcases gP hb with⟨j,u,rfl,e⟩ |⟨y,u,rfl,e⟩
   ·injection e with e1 _;rw[e1]
   ·exact nomatch e
  ·rcases gP hb with⟨j,u,rfl,e⟩ |⟨y,u,rfl,e⟩
   ·exact nomatch e
   ·injection e with e1 _;rw[e1]
 byValue:=λk v h=>by rcases gP h with⟨i,t,rfl,rfl⟩ |⟨x,t,rfl,rfl⟩<;>rfl
 pyHash:=λhv h=>by
  rcases gP hv with⟨i,t,rfl,rfl⟩ |⟨x,t,rfl,rfl⟩
  ·exact wpAny_pyHash_int h
  ·exact wpAny_pyHash_str h
 eqBool:=λhu hv h=>by
  rcases gP hu with⟨i,t,rfl,rfl⟩ |⟨x,t,rfl,rfl⟩
  ·rcases gP hv with⟨j,u,rfl,rfl⟩ |⟨y,u,rfl,rfl⟩
   ·rw[IT]at h;exact wpAny_eqBool_int h
   ·rw[IS]at h;exact SeqAt.EqAt.int_str i t y u _ _ _ _ h
  ·rcases gP hv with⟨j,u,rfl,rfl⟩ |⟨y,u,rfl,rfl⟩
   ·rw[IR]at h;exact SeqAt.EqAt.str_int x t j u _ _ _ _ h
   ·rw[IQ]at h;exact wpAny_eqBool_str h
 «strs»:=λk x t v h=>by
  rcases gP h with⟨i,u,rfl,e⟩ |⟨y,u,rfl,e⟩
  ·exact nomatch e
  ·injection e with e1 _
   subst e1;cases v<;>rfl
inductive V where
 |non |bl (b:Bool) |int (i:Int) |str (x:Str) |byt (b:Array UInt8) |flt (b:UInt64) |ref (a:Addr) |ty (n:String)
 deriving DecidableEq
noncomputable def RelV:V->Value->Prop
 |.non,u=>u=Value.none
 |.bl b,u=>u=Value.bool b
 |.int i,u=>∃t,u=Value.int i t
 |.str x,u=>∃t,u=Value.str x t
 |.byt b,u=>∃t,u=Value.bytes b t
 |.flt b,u=>∃t,u=Value.float b t
 |.ref a,u=>u=Value.ref a
 |.ty n,u=>u=Value.type n
abbrev Vals:List V->List Value->Prop:=Paired RelV
theorem Vals.length{xs:List V}{us:List Value}(r:Vals xs us):xs.length=us.length:=Paired.length r
theorem Vals.get:∀{xs:List V} {us:List Value} {i:Nat} {x:V},Vals xs us->xs[i]?=some x->∃u,us[i]?=some u/\RelV x u
 |_,_,_,_,.nil,e=>by simp at e
 |_,_,0,_,.cons r _,e=>by simp at e;subst e;exact⟨_,rfl,r⟩
 |_,_,i+1,x,.cons _ t,e=>by obtain⟨u,h1,h2⟩:=Vals.get (i:=i) (x:=x) t (by simpa using e);exact⟨u,by simpa using h1,h2⟩
theorem Vals.set{x:V}{u:Value}(r:RelV x u):∀{xs:List V} {us:List Value} (i:Nat),Vals xs us->Vals (xs.set i x) (us.set i u)
 |_,_,_,.nil=>.nil
 |_,_,0,.cons _ t=>.cons r t
 |_,_,i+1,.cons q t=>.cons q (Vals.set r i t)
theorem Vals.append:∀{xs ys:List V} {us ws:List Value},Vals xs us->Vals ys ws->Vals (xs++ys) (us++ws)
 |_,_,_,_,.nil,s=>s
 |_,_,_,_,.cons r t,s=>.cons r (Vals.append t s)
theorem Vals.take:∀{xs:List V} {us:List Value} (n:Nat),Vals xs us->Vals (xs.take n) (us.take n)
 |_,_,0,_=>.nil
 |_,_,_+1,.nil=>.nil
 |_,_,n+1,.cons r t=>.cons r (Vals.take n t)
theorem Vals.drop:∀{xs:List V} {us:List Value} (n:Nat),Vals xs us->Vals (xs.drop n) (us.drop n)
 |_,_,0,r=>r
 |_,_,_+1,.nil=>.nil
 |_,_,n+1,.cons _ t=>Vals.drop n t
theorem Vals.none_of:∀{xs:List V} {us:List Value} {i:Nat},Vals xs us->xs[i]?=none->us[i]?=none:=λ{xs us i} r e=>by have h1:=r.length;have h2:xs.length<=i:=List.getElem?_eq_none_iff.mp e;exact List.getElem?_eq_none_iff.mpr (by omega)
noncomputable def RelO:Option V->Option Value->Prop
 |some v,some u=>RelV v u
 |none,none=>True
 |_,_=>False
noncomputable def KV{κ:Type}:List (κ×V)->List (κ×Value)->Prop:=Paired λ(p:κ×V) (q:κ×Value)=>p.1=q.1/\RelV p.2 q.2
noncomputable def kV:Key->V
 |.inl i=>.int i
 |.inr x=>.str x
inductive HO where
 |lst (xs:List V)
 |tup (xs:List V)
 |dK (kvs:List (Key×V)) |dT (kvs:List (List Key×V))
 |set (S:Int->Bool) (n:Nat)
 |ins (C dx:Addr) (fs:List (Str×V))
 |own (x:Addr)
 |xd (fs:List (Str×V))
 |met (f x:Addr)
 |rng (lo hi:Int)
 |frz (o:Obj) (u:HO)
 |tbl (ps:Array Value)
 |ext (φ:Heap->Prop)
abbrev Hp:=Addr->Option HO
noncomputable def upd(H:Hp)(a:Addr)(o:HO):Hp:=λb=>if b=a then some o else H b
theorem au{H:Hp}{a:Addr}{o:HO}:upd H a o a=some o:=by unfold upd;rw[if_pos rfl]
theorem upd_ne{H:Hp}{a b:Addr}{o:HO}(h:b≠a):upd H a o b=H b:=by unfold upd;rw[if_neg h]
theorem nU{H:Hp}{a:Addr}{o u:HO}:upd (upd H a o) a u=upd H a u:=by funext b;unfold upd;split<;>rfl
theorem bC{H:Hp}{a b:Addr}{o:HO}(h:H a=some o)(h':H b=none):a≠b:=by intro e;subst e;rw[h]at h';cases h'
section
variable (P:Program)(w:World)
noncomputable def ObjOk(H:Hp)(h:Heap)(a:Addr):HO->Prop
 |.lst xs=>xs.length<=sizeLine/\∃(its:List Value) (n:Nat),Vals xs its/\h.get? a=some { cls:=.type "list",data:=.seq its.toArray n }
 |.tup xs=>xs.length<=sizeLine/\∃its:List Value,Vals xs its/\IsTup h a its.toArray
 |.dK kvs=>kvs.length<=sizeLine/\(a == sysModules)=false/\∃vs,KV kvs vs/\h.DictOf (uw P w) a vs
 |.dT kvs=>kvs.length<=sizeLine/\(a == sysModules)=false/\∃xs:List (List Key×Addr×Value),
  Paired (λ(p:List Key×V) (q:List Key×Addr×Value)=>p.1=q.1/\H q.2.1=some (.tup (p.1.map kV))/\RelV p.2 q.2.2) kvs xs /\
  ∃o es ep,h.get? a=some o/\o.ExactDict/\o.data=.dict es ep/\es.toList=xs.map (entryOfKey (tupleKind (uw P w)))/\(xs.map (·.1)).Nodup
 |.set S n=>h.SetOf (intKind P w) a S n
 |.ins C dx fs=>H dx=some (.own a)/\fs.length<=1000/\dx≠a/\h.get? a=some (PySem.W.instObj C dx) /\
  ∃mA,h.Ns1 dx mA/\(∀f,RelO (fs.lookup f) (mA f))/\PySem.Within mA (fs.map (·.1))
 |.own _=>∃o,h.get? a=some o
 |.xd fs=>∃mA,h.Ns1 a mA/\∀f,RelO (fs.lookup f) (mA f)
 |.rng lo hi=>∃t u v,h.get? a=some { cls:=.type "range",data:=.fields #[.int lo t,.int hi u,.int 1 v] }
 |.frz o u=>h.get? a=some o/\ObjOk H h a u
 |.tbl ps=>h.get? a=some { cls:=.none,data:=.fields ps }
 |.met f x=>h.get? a=some (PySem.W.methodObj (.ref f) (.ref x))
 |.ext φ=>φ h/\(∃o,h.get? a=some o)/\∀h1 h2:Heap,φ h1->(∀o,h1.get? a=some o->h2.get? a=some o)->φ h2
def HOk(H:Hp)(h:Heap):Prop:=∀a o,H a=some o->ObjOk P w H h a o
end
section
variable {P:Program}{w:World}{H H':Hp}{h h':Heap}{a:Addr}{o:HO}
theorem ObjOk.lt(x:ObjOk P w H h a o):a<h.objs.size:=by
 cases o with
 |lst xs=>obtain⟨_,_,_,_,e⟩:=x;exact Heap.lt_size e
 |tup xs=>obtain⟨_,_,_,p⟩:=x;exact p.lt
 |dK kvs=>obtain⟨_,_,_,_,o,_,_,e,_⟩:=x;exact Heap.lt_size e
 |dT kvs=>obtain⟨_,_,_,_,o,_,_,e,_⟩:=x;exact Heap.lt_size e
 |set S n=>obtain⟨o,_,_,_,e,_⟩:=x;exact Heap.lt_size e
 |ins C dx fs=>obtain⟨_,_,_,e,_⟩:=x;exact Heap.lt_size e
 |own y=>obtain⟨_,e⟩:=x;exact Heap.lt_size e
 |xd fs=>obtain⟨_,⟨_,_,_,e,_⟩,_⟩:=x;exact Heap.lt_size e
 |rng lo hi=>obtain⟨_,_,_,e⟩:=x;exact Heap.lt_size e
 |frz ob u=>obtain⟨e,_⟩:=x;exact Heap.lt_size e
 |tbl ps=>exact Heap.lt_size (show h.get? a=some _ from x)
 |met f y=>exact Heap.lt_size (show h.get? a=some _ from x)
 |ext φ=>obtain⟨_,⟨_,e⟩,_⟩:=x;exact Heap.lt_size e
theorem Paired.mapP{α β:Type}{F G:α->β->Prop}:∀{l₁:List α} {l₂:List β},Paired F l₁ l₂->(∀a b,F a b->G a b)->Paired G l₁ l₂
 |_,_,.nil,_=>.nil
 |_,_,.cons r t,f=>.cons (f _ _ r) (Paired.mapP t f)
theorem ObjOk.stay(x:ObjOk P w H h a o)(k:∀b u,(b=a\/H b=some (.own a))->h.get? b=some u->h'.get? b=some u)
 (ho:∀b,H b=some (.own a)->H' b=some (.own a)) (ht:∀b xs,H b=some (.tup xs)->H' b=some (.tup xs)):ObjOk P w H' h' a o:=by
 induction o with
 |lst xs=>obtain⟨z,its,n,r,e⟩:=x;exact⟨z,its,n,r,k _ _ (.inl rfl) e⟩
 |tup xs=>obtain⟨z,its,r,ob,e,c⟩:=x;exact⟨z,its,r,ob,k _ _ (.inl rfl) e,c⟩
 |dK kvs=>obtain⟨z,y,vs,r,ob,es,ep,e,c⟩:=x;exact⟨z,y,vs,r,ob,es,ep,k _ _ (.inl rfl) e,c⟩
 |dT kvs =>obtain⟨z,y,xs,r,ob,es,ep,e,c⟩:=x;exact⟨z,y,xs,Paired.mapP r λp q z=>⟨z.1,ht _ _ z.2.1,z.2.2⟩,ob,es,ep,k _ _ (.inl rfl) e,c⟩
 |set S n=>obtain⟨ob,es,ep,t,e,c⟩:=x;exact⟨ob,es,ep,t,k _ _ (.inl rfl) e,c⟩
 |ins C dx fs =>obtain⟨d,z,ne,e,mA,⟨od,es,ep,e2,c⟩,r⟩:=x;exact⟨ho _ d,z,ne,k _ _ (.inl rfl) e,mA,⟨od,es,ep,k _ _ (.inr d) e2,c⟩,r⟩
 |own y=>obtain⟨ob,e⟩:=x;exact⟨ob,k _ _ (.inl rfl) e⟩
 |xd fs=>obtain⟨mA,⟨od,es,ep,e,c⟩,r⟩:=x;exact⟨mA,⟨od,es,ep,k _ _ (.inl rfl) e,c⟩,r⟩
 |rng lo hi=>obtain⟨t,u,v,e⟩:=x;exact⟨t,u,v,k _ _ (.inl rfl) e⟩
 |frz ob u ih=>obtain⟨e,q⟩:=x;exact⟨k _ _ (.inl rfl) e,ih q⟩
 |tbl ps =>have e:h.get? a=some { cls:=.none,data:=.fields ps }:=x;show h'.get? a=some { cls:=.none,data:=.fields ps };exact k a _ (.inl rfl) e
 |met f y =>have e:h.get? a=some (PySem.W.methodObj (.ref f) (.ref y)):=x;show h'.get? a=some (PySem.W.methodObj (.ref f) (.ref y));exact k a _ (.inl rfl) e
 |ext φ=>obtain⟨p,⟨o,e⟩,st⟩:=x;exact⟨st _ _ p λo q=>k _ _ (.inl rfl) q,⟨o,k _ _ (.inl rfl) e⟩,st⟩
theorem HOk.lt(x:HOk P w H h)(e:H a=some o):a<h.objs.size:=(x a o e).lt
theorem HOk.fresh(x:HOk P w H h)(e:h.objs.size<=a):H a=none:=by
 cases q:H a with
 |none=>rfl
 |some u=>exact absurd (Qa (x.lt q) e) (Qw _)
theorem HOk.kept(x:HOk P w H h)(k:∀b u,h.get? b=some u->h'.get? b=some u):HOk P w H h':=λa o e =>(x a o e).stay (λb u _ q=>k b u q) (λ_ q=>q) λ_ _ q=>q
theorem HOk.laid(x:HOk P w H h)(k:∀b u,h.get? b=some u->h'.get? b=some u)(hp:h.objs.size<=a)(new:ObjOk P w (upd H a o) h' a o):HOk P w (upd H a o) h':=λb u e=>by
 have hn:=x.fresh hp;by_cases hb:b=a
 ·subst hb;rw[au]at e;cases e;exact new
 ·rw[upd_ne hb]at e;exact(x b u e).stay (λc v _ q=>k c v q) (λc q=>by rw[upd_ne (bC q hn)];exact q) λc xs q=>by rw[upd_ne (bC q hn)];exact q
end
def Rd(H:Hp)(a:Addr)(u:HO):Prop:=H a=some u\/∃o,H a=some (.frz o u)
theorem Rd.of{H:Hp}{a:Addr}{u:HO}(h:H a=some u):Rd H a u:=.inl h
theorem Rd.ok{P:Program}{w:World}{H:Hp}{h:Heap}{a:Addr}{u:HO}(r:Rd H a u)(x:HOk P w H h):ObjOk P w H h a u:=by
 rcases r with r |⟨o,r⟩
 ·exact x a u r
 ·obtain⟨_,q⟩:=x a _ r;exact q
noncomputable def Mut:Option HO->Prop
 |some (.lst _)=>True
 |some (.dK _)=>True
 |some (.dT _)=>True
 |some (.set _ _)=>True
 |some (.ins _ _ _)=>True
 |some (.ext _)=>True
 |_=>False
section
variable {P:Program}{w:World}{H:Hp}{h h':Heap}{x e:Addr}{o':HO}
theorem HOk.write(ok:HOk P w H h)(mu:Mut (H x))(he:e=x\/H e=some (.own x))(k:∀b u,b≠e->h.get? b=some u->h'.get? b=some u)(heo:∃u,h'.get? e=some u)
 (new:ObjOk P w (upd H x o') h' x o'):HOk P w (upd H x o') h':=λb u q=>by
 have nown:∀c y,H c=some (.own y)->c≠x:=λc y r z=>by subst z;rw[r]at mu;exact mu
 have ntup:∀c xs,H c=some (.tup xs)->c≠x:=λc xs r z=>by subst z;rw[r]at mu;exact mu
 by_cases hb:b=x
 ·subst hb;rw[au]at q;cases q;exact new
 ·rw[upd_ne hb]at q;by_cases hbe:b=e
  ·have q':H b=some (.own x):=by
    rcases he with z |z
    ·exact absurd (hbe.trans z) hb
    ·rw[hbe];exact z
   rw[q]at q';cases q';obtain⟨v,hv⟩:=heo;exact⟨v,by rw[hbe];exact hv⟩
  ·refine(ok b u q).stay (λc v hc r=>k c v ?_ r) (λc r=>by rw[upd_ne (nown c b r)];exact r) λc xs r=>by rw[upd_ne (ntup c xs r)];exact r
   rcases hc with rfl |hc
   ·exact hbe
   ·rintro rfl;rcases he with z |z
    ·exact nown c b hc z
    ·rw[hc]at z;cases z;exact hb rfl
end
structure Un(fs ex:List Addr)(H H':Hp)(h h':Heap):Prop where
 keep:∀b o,h.get? b=some o->H b=none->b∉fs->b∉ex->h'.get? b=some o
 slot:∀b o,h.get? b=some o->H b=none->b∈fs->b∉ex->∃sl,h'.get? b=some { o with slots:=sl }
 free:∀b o,h.get? b=some o->H b=none->b∉ex->H' b=none
 there:∀b o,h.get? b=some o->b∉ex->∃o',h'.get? b=some o'
 tups:∀b xs,H b=some (.tup xs)->H' b=some (.tup xs)
 frzs:∀b o u,H b=some (.frz o u)->H' b=some (.frz o u)
 tbls:∀b ps,H b=some (.tbl ps)->∃more,H' b=some (.tbl (ps++more))
section
variable {fs fs' ex ex':List Addr}{H H1 H2:Hp}{h h1 h2 h':Heap}{a x e:Addr}{o:HO}
theorem Un.any(u:Un fs ex H H1 h h1){b:Addr}{ob:Obj}(q:h.get? b=some ob)(n:H b=none)(hx:b∉ex):∃sl,h1.get? b=some { ob with slots:=sl }:=by
 by_cases hb:b∈fs
 ·exact u.slot b ob q n hb hx
 ·exact⟨ob.slots,u.keep b ob q n hb hx⟩
theorem Un.trans(a:Un fs ex H H1 h h1)(b:Un fs ex H1 H2 h1 h2):Un fs ex H H2 h h2 where
 keep:=λc ob q n hc hx=>b.keep c ob (a.keep c ob q n hc hx) (a.free c ob q n hx) hc hx
 slot:=λc ob q n hc hx=>by obtain⟨sl,e1⟩:=a.slot c ob q n hc hx;obtain⟨sl',e2⟩:=b.slot c _ e1 (a.free c ob q n hx) hc hx;exact⟨sl',e2⟩
 free:=λc ob q n hx=>by obtain⟨o',e1⟩:=a.there c ob q hx;exact b.free c o' e1 (a.free c ob q n hx) hx
 there:=λc ob q hx=>by obtain⟨o',e1⟩:=a.there c ob q hx;exact b.there c o' e1 hx
 tups:=λc xs q=>b.tups c xs (a.tups c xs q)
 frzs:=λc ob xs q=>b.frzs c ob xs (a.frzs c ob xs q)
 tbls:=λc ps q=>by obtain⟨m1,e1⟩:=a.tbls c ps q;obtain⟨m2,e2⟩:=b.tbls c _ e1;exact⟨m1++m2,by rw[e2,Array.append_assoc]⟩
theorem Un.kept(k:∀b u,h.get? b=some u->h'.get? b=some u):Un fs ex H H h h' :=
 ⟨λb ob q _ _ _=>k b ob q,λb ob q _ _ _=>⟨ob.slots,k b ob q⟩,λ_ _ _ n _=>n,λb ob q _=>⟨ob,k b ob q⟩,λ_ _ q=>q,λ_ _ _ q=>q,λ_ ps q=>⟨#[],by rw[q];simp⟩⟩
theorem Un.refl:Un fs ex H H h h:=Un.kept λ_ _ q=>q
theorem Un.laid(k:∀b u,h.get? b=some u->h'.get? b=some u)(hp:h.objs.size<=a)(hn:H a=none):Un fs ex H (upd H a o) h h' where
 keep:=λb u q _ _ _=>k b u q
 slot:=λb u q _ _ _=>⟨u.slots,k b u q⟩
 free:=λb u q n _=>by rw[upd_ne (Qb (Qa (Heap.lt_size q) hp))];exact n
 there:=λb u q _=>⟨u,k b u q⟩
 tups:=λb xs q=>by rw[upd_ne (bC q hn)];exact q
 frzs:=λb u xs q=>by rw[upd_ne (bC q hn)];exact q
 tbls:=λb ps q=>⟨#[],by rw[upd_ne (bC q hn),q];simp⟩
theorem Un.write(mu:Mut (H x))(he:e=x\/H e=some (.own x))(k:∀b u,b≠e->h.get? b=some u->h'.get? b=some u)(heo:∃u,h'.get? e=some u):Un fs ex H (upd H x o) h h':=by
 have hx:∀b,H b=none->b≠x:=λb n z=>by subst z;rw[n]at mu;exact mu
 have hb:∀b,H b=none->b≠e:=λb n z=>by
  subst z;rcases he with r |r
  ·exact hx b n r
  ·rw[n]at r;cases r
 have hm:∀b u,H b=some u->¬Mut (some u)->b≠x:=λb u q nm z=>by subst z;rw[q]at mu;exact nm mu
 refine⟨λb u q n _ _=>k b u (hb b n) q,λb u q n _ _=>⟨u.slots,k b u (hb b n) q⟩,λb u q n _=>by rw[upd_ne (hx b n)];exact n,λb u q _=>?_,
  λb xs q=>by rw[upd_ne (hm b _ q λz=>z)];exact q,λb u xs q=>by rw[upd_ne (hm b _ q λz=>z)];exact q,λb ps q=>⟨#[],by rw[upd_ne (hm b _ q λz=>z),q];simp⟩⟩
 by_cases hbe:b=e
 ·subst hbe;exact heo
 ·exact⟨u,k b u hbe q⟩
theorem Un.mono(u:Un fs ex H H1 h h1)(hs:∀b∈fs,b∈fs')(hx:∀b∈ex,b∈ex'):Un fs' ex' H H1 h h1 :=
 ⟨λb ob q n hb he=>u.keep b ob q n (λz=>hb (hs b z)) λz=>he (hx b z),λ_ _ q n _ he=>u.any q n λz=>he (hx _ z),λb ob q n he=>u.free b ob q n λz=>he (hx b z),λb ob q he=>u.there b ob q λz=>he (hx b z),u.tups,u.frzs,u.tbls⟩
end
noncomputable def trk(h:Heap)(H:Hp):List Addr:=(List.range h.objs.size).filter λa=>(H a).isSome
noncomputable def gq(h:Heap)(H:Hp):Heap:=PySem.W.hideAll h (trk h H)
theorem JO(h:Heap)(H:Hp):(gq h H).objs.size=h.objs.size:=PySem.W.hideAll_size _ _
theorem JP{h:Heap}{H:Hp}{b:Addr}{o:Obj}(e:h.get? b=some o)(n:H b=none):(gq h H).get? b=some o :=
 PySem.W.hideAll_get _ e λhm=>by have q:(H b).isSome=true:=(List.mem_filter.mp hm).2;rw[n]at q;simp at q
theorem Hu{h:Heap}{H:Hp}{b:Addr}{o:Obj}(e:(gq h H).get? b=some o):h.get? b=some o/\H b=none:=by
 have e':h.get? b=some o:=PySem.W.of_hideAll (trk h H) e;refine⟨e',?_⟩;cases q:H b with
 |none=>rfl
 |some x =>have hm:b∈trk h H:=List.mem_filter.mpr ⟨List.mem_range.mpr (Heap.lt_size e'),by simp[q]⟩;have z:(gq h H).get? b=none:=PySem.W.hideAll_none (trk h H) hm;rw[z]at e;cases e
noncomputable def Mj(g h:Heap)(L:Addr):List (Addr×Obj):=(List.range h.objs.size).filterMap λa=>if a=L\/(g.get? a).isSome=true then none else(h.get? a).map λo=>(a,o)
noncomputable def rest(g h:Heap)(L d:Addr):List (Addr×Obj):=(Mj g h L).filter λp=>decide (p.1≠d)
structure Mod(K:PySem.W.Frag)(mg:Str->Option Value)(base:Heap):Prop where
 kin:K.In base
 glob:base.Ns mainGlobals mg
 blt:∃mb,base.Ns builtinsNs mb/\∀x:Str,x≠"__name__"->mb x=bootBuiltins x
 nolimit:base.NoLimit
structure Cx where
 prog:Program
 w:World
 K:PySem.W.Frag
 mg:Str->Option Value
 base:Heap
 A:Around
 N:List Str
 s₀:Shared
 H₀:Hp
 env:Env
 outer:List Env
 stack:List Env
 ex:List Addr
 fn:Str->Bool
 calm:Bool
 pn:List (Addr×Obj)
 xe:Value->Shared->Prop
noncomputable def frs(l:List Env):List Addr:=l.filterMap (·.frame)
abbrev Cx.fs(X:Cx):List Addr:=frs X.outer
def Vis(sc:Scope)(x:Str):Prop:=sc.names.lookup x=some .local\/sc.names.lookup x=some .cell\/sc.names.lookup x=some .free
def Loc(sc:Scope)(x:Str):Prop:=sc.names.lookup x=some .local\/sc.names.lookup x=some .cell
noncomputable def Mp(env:Env)(h:Heap)(m:Str->Option Value)(x:Str)(u:Value):Prop :=
 (env.kindOf x=some .local/\m x=some u)\/((env.kindOf x=some .cell\/env.kindOf x=some .free)/\∃c,env.cells.lookup x=some c/\h.IsCell c (some u))
structure Cx.Ok(X:Cx):Prop where
 mod:Mod X.K X.mg X.base
 kind:X.env.scope.kind=.function
 glob:X.env.globals=mainGlobals
 blt:X.env.builtins=builtinsNs
 above:X.s₀.heap.objs.size<=X.env.locals
 inj:∀x y c,X.env.cells.lookup x=some c->X.env.cells.lookup y=some c->x=y
 has:∀x,(X.env.kindOf x=some .cell\/X.env.kindOf x=some .free)->∃c,X.env.cells.lookup x=some c
 cab:∀x c,X.fn x=true->X.env.cells.lookup x=some c->X.s₀.heap.objs.size<=c
 hd:X.calm=true->X.A.handled=none
 frames:X.A.frames=some X.stack
 stk:X.stack=X.outer\/(X.stack=X.env::X.outer/\X.env.frame=some X.env.locals)
 exf:∀b∈X.ex,b≠X.env.locals/\∀x c,X.env.cells.lookup x=some c->c≠b
 bs:∀b o,X.base.get? b=some o->X.s₀.heap.get? b=some o/\X.H₀ b=none
 bsz:X.base.objs.size<=X.s₀.heap.objs.size
 noex:∀b o,X.base.get? b=some o->b∉X.ex
 exfs:∀b∈X.ex,b∉X.fs
 funs:X.s₀.heap.FunFrames X.base X.outer
 frf:∀b∈X.fs,X.H₀ b=none
structure Inv(X:Cx)(pins:List (Addr×Obj))(σ:List (Option V))(H:Hp)(s:Shared):Prop where
 ok:X.Ok
 os:s.os=X.s₀.os
 bare:AllBare s.gens
 base:Un X.fs X.ex X.H₀ H X.s₀.heap s.heap
 loc:∃m,s.heap.Ns X.env.locals m/\∀(i:Nat) (x:Str) (v:V),X.N[i]?=some x->σ[i]?=some (some v)->Vis X.env.scope x->∃u,RelV v u/\Mp X.env s.heap m x u
 cell:∀x c,X.env.cells.lookup x=some c->∃v,s.heap.IsCell c v
 free:H X.env.locals=none
 freeC:∀x c,X.env.cells.lookup x=some c->H c=none
 pin:∀p∈X.pn++pins,s.heap.get? p.1=some p.2/\H p.1=none/\p.1≠X.env.locals/\p.1∉X.fs/\∀v,p.2.data≠.cell v
 hok:HOk X.prog X.w H s.heap
 len:σ.length=X.N.length
section
variable {X:Cx}{pins:List (Addr×Obj)}{σ:List (Option V)}{H H':Hp}{s:Shared}{h':Heap}
theorem Cx.Ok.nofr(ok:X.Ok){b:Addr}{o:Obj}(e:X.base.get? b=some o):b∉X.fs:=λhb=>by have:=(ok.funs.mem hb).1;rw[e]at this;cases this
theorem Inv.bs(I:Inv X pins σ H s):∀b o,X.base.get? b=some o->s.heap.get? b=some o/\H b=none:=λb o e =>⟨I.base.keep b o (I.ok.bs b o e).1 (I.ok.bs b o e).2 (I.ok.nofr e) (I.ok.noex b o e),I.base.free b o (I.ok.bs b o e).1 (I.ok.bs b o e).2 (I.ok.noex b o e)⟩
theorem Inv.bk(I:Inv X pins σ H s):∀b o,X.base.get? b=some o->s.heap.get? b=some o:=λb o e=>(I.bs b o e).1
theorem Inv.mod(I:Inv X pins σ H s):Mod X.K X.mg X.base:=I.ok.mod
theorem Inv.kIn(I:Inv X pins σ H s):X.K.In s.heap:=I.ok.mod.kin.keeps I.bk
theorem Inv.nolimit(I:Inv X pins σ H s):s.heap.NoLimit:=I.ok.mod.nolimit.keeps I.bk
theorem Inv.fr(I:Inv X pins σ H s):∃m,Fr X.base X.env.locals s.heap m :=
 let⟨m,hn,_⟩:=I.loc
 ⟨m,hn,I.bk,PM I.ok.bsz I.ok.above⟩
theorem Inv.lt(I:Inv X pins σ H s):X.env.locals<s.heap.objs.size:=let⟨_,hn,_⟩:=I.loc;hn.lt
theorem Inv.sz(I:Inv X pins σ H s):X.s₀.heap.objs.size<=s.heap.objs.size:=PM I.ok.above (Q9 I.lt)
theorem Inv.nofs(I:Inv X pins σ H s){a:Addr}(h:s.heap.objs.size<=a):a∉X.fs:=λhb=>by obtain⟨_,o,ho,_⟩:=I.ok.funs.mem hb;exact absurd (Qa (Heap.lt_size ho) (PM I.sz h)) (Qw _)
theorem Inv.cne(I:Inv X pins σ H s):∀x c,X.env.cells.lookup x=some c->c≠X.env.locals:=λx c e z=>by obtain⟨v,o,ho,hd⟩:=I.cell x c e;obtain⟨m,⟨o',es,ep,ho',hd',_⟩,_⟩:=I.loc;rw[z,ho']at ho;cases ho;rw[hd']at hd;cases hd
theorem Inv.funs(I:Inv X pins σ H s):s.heap.FunFrames X.base X.outer:=by
 have all:∀(l:List Env),(∀b∈frs l,b∈X.fs)->X.s₀.heap.FunFrames X.base l->s.heap.FunFrames X.base l:=by
  intro l
  induction l with
  |nil=>intro _ _;trivial
  |cons env r ih =>
   intro hs hl;obtain⟨hk,⟨L,o,hf,hn,ho,hd⟩,hr⟩:=hl;have hL:L∈X.fs:=hs L (by unfold frs;rw[List.filterMap_cons,hf];exact PH);obtain⟨sl,e⟩:=I.base.slot L o ho (I.ok.frf L hL) hL λz=>I.ok.exfs L z hL
   exact⟨hk,⟨L,_,hf,hn,e,hd⟩,ih (λb hb=>hs b (by unfold frs;rw[List.filterMap_cons,hf];exact Pz _ hb)) hr⟩
 exact all X.outer (λ_ hb=>hb) I.ok.funs
theorem Inv.stack(I:Inv X pins σ H s):s.heap.FunFrames X.base X.stack:=by
 rcases I.ok.stk with e |⟨e,hf⟩
 ·rw[e];exact I.funs
 ·rw[e];obtain⟨m,hn,_⟩:=I.loc;refine .cons (by rw[I.ok.kind];decide) hf hn ?_ I.funs;exact Heap.get?_none_of_le (PM I.ok.bsz I.ok.above)
theorem Inv.stkSub(I:Inv X pins σ H s):∀b∈frs X.stack,b∈X.env.locals::X.fs:=λb hb=>by
 rcases I.ok.stk with e |⟨e,hf⟩
 ·rw[e]at hb;exact Pz _ hb
 ·rw[e]at hb;unfold frs at hb
  rw[List.filterMap_cons,hf]at hb;exact hb
theorem Inv.stkFree(I:Inv X pins σ H s):∀b∈frs X.stack,H b=none:=λb hb=>by
 rcases Pu.mp (I.stkSub b hb)with e |hb
 ·rw[e];exact I.free
 ·obtain⟨_,o,ho,_⟩:=I.ok.funs.mem hb;exact I.base.free b o ho (I.ok.frf b hb) λz=>I.ok.exfs b z hb
theorem Inv.step{g':Array GenState}{t':Nat}{d':Drawn}{ch:List Addr}(I:Inv X pins σ H s)
 (hch:∀b∈ch,(b∈X.ex\/X.s₀.heap.objs.size<=b)/\b≠X.env.locals/\(∀x c,X.env.cells.lookup x=some c->c≠b)/\∀p∈X.pn++pins,p.1≠b)
 (keep:∀b o,b≠X.env.locals->b∉X.fs->b∉ch->s.heap.get? b=some o->H b=none->h'.get? b=some o)
 (slot:∀b o,b≠X.env.locals->b∈X.fs->b∉ch->s.heap.get? b=some o->H b=none->∃sl,h'.get? b=some { o with slots:=sl }) (free:∀b o,b∉ch->s.heap.get? b=some o->H b=none->H' b=none)
 (there:∀b o,b∉ch->s.heap.get? b=some o->∃o',h'.get? b=some o')
 (tups:∀b xs,H b=some (.tup xs)->H' b=some (.tup xs)) (frzs:∀b o u,H b=some (.frz o u)->H' b=some (.frz o u)) (tbls:∀b ps,H b=some (.tbl ps)->∃more,H' b=some (.tbl (ps++more)))
 (ns:∀m,s.heap.Ns X.env.locals m->h'.Ns X.env.locals m) (hok:HOk X.prog X.w H' h') (hg:AllBare g') :
 Inv X pins σ H' { s with heap:=h',gens:=g',drawn:=d',toks:=t' }:=by
 have neL:∀b o,X.s₀.heap.get? b=some o->b≠X.env.locals:=λb o e=>Qb (Qa (Heap.lt_size e) I.ok.above)
 have neC:∀b o,X.s₀.heap.get? b=some o->b∉X.ex->b∉ch:=λb o e hx hb=>by
  rcases(hch b hb).1 with z |z
  ·exact hx z
  ·exact absurd (Qa (Heap.lt_size e) z) (Qw _)
 have cellK:∀x c,X.env.cells.lookup x=some c->∀v,s.heap.IsCell c v->h'.IsCell c v:=λx c e v ⟨o,ho,hd⟩=>by
  have nch:c∉ch:=λz=>(hch c z).2.2.1 x c e rfl
  by_cases hc:c∈X.fs
  ·obtain⟨sl,q⟩:=slot c o (I.cne x c e) hc nch ho (I.freeC x c e);exact⟨_,q,hd⟩
  ·exact⟨o,keep c o (I.cne x c e) hc nch ho (I.freeC x c e),hd⟩
 refine⟨I.ok,I.os,hg,⟨λb o e n hb hx=>?_,λb o e n hb hx=>?_,λb o e n hx=>?_,λb o e hx=>?_,λb xs e=>tups b xs (I.base.tups b xs e),λb o xs e=>frzs b o xs (I.base.frzs b o xs e),λb ps e=>?_⟩,?_,λx c e=>?_,?_,λx c e=>?_,λp hp=>?_,hok,I.len⟩
 ·exact keep b o (neL b o e) hb (neC b o e hx) (I.base.keep b o e n hb hx) (I.base.free b o e n hx)
 ·obtain⟨sl,e1⟩:=I.base.slot b o e n hb hx;obtain⟨sl',e2⟩:=slot b _ (neL b o e) hb (neC b o e hx) e1 (I.base.free b o e n hx);exact⟨sl',e2⟩
 ·obtain⟨o',e1⟩:=I.base.there b o e hx;exact free b o' (neC b o e hx) e1 (I.base.free b o e n hx)
 ·obtain⟨o',e1⟩:=I.base.there b o e hx;exact there b o' (neC b o e hx) e1
 ·obtain⟨m1,e1⟩:=I.base.tbls b ps e;obtain⟨m2,e2⟩:=tbls b _ e1;exact⟨m1++m2,by rw[e2,Array.append_assoc]⟩
 ·obtain⟨m,hn,hl⟩:=I.loc;refine⟨m,ns m hn,λi x v e1 e2 e3=>?_⟩;obtain⟨u,r,l⟩:=hl i x v e1 e2 e3;refine⟨u,r,?_⟩;rcases l with l |⟨k,c,e,z⟩
  ·exact .inl l
  ·exact .inr ⟨k,c,e,cellK x c e _ z⟩
 ·obtain⟨v,z⟩:=I.cell x c e;exact⟨v,cellK x c e v z⟩
 ·obtain⟨m,⟨o,_,_,ho,_⟩,_⟩:=I.loc;exact free _ o (λz=>(hch _ z).2.1 rfl) ho I.free
 ·obtain⟨v,o,ho,hd⟩:=I.cell x c e;exact free c o (λz=>(hch c z).2.2.1 x c e rfl) ho (I.freeC x c e)
 ·obtain⟨e,n,ne,nf,d⟩:=I.pin p hp;have nch:p.1∉ch:=λz=>(hch p.1 z).2.2.2 p hp rfl
  exact⟨keep p.1 p.2 ne nf nch e n,free p.1 p.2 nch e n,ne,nf,d⟩
theorem Inv.un{t':Nat}(I:Inv X pins σ H s)(u:Un X.fs [] H H' s.heap h')(hok:HOk X.prog X.w H' h'):Inv X pins σ H' { s with heap:=h',toks:=t' }:=by
 obtain⟨m,⟨o,es,ep,ho,r⟩,_⟩:=id I.loc;obtain⟨sl,hL⟩:=u.any ho I.free (by simp)
 exact I.step (g':=s.gens) (d':=s.drawn) (ch:=[]) (λ_ z=>nomatch z) (λb o _ hb _ e n=>u.keep b o e n hb (by simp)) (λb o _ hb _ e n=>u.slot b o e n hb (by simp)) (λb o _ e n=>u.free b o e n (by simp)) (λb o _ e=>u.there b o e (by simp)) u.tups u.frzs u.tbls (λm' hm=>by
  obtain⟨o',es',ep',ho',r'⟩:=hm;rw[ho]at ho';cases ho'
  exact⟨_,es',ep',hL,r'⟩) hok I.bare
theorem Inv.call{g':Array GenState}{t':Nat}{d':Drawn}{ch:List Addr}(I:Inv X pins σ H s)(u:Un (frs X.stack) ch H H' s.heap h')(hok:HOk X.prog X.w H' h')(hg:AllBare g')
 (hch:∀b∈ch,(b∈X.ex\/X.s₀.heap.objs.size<=b)/\b≠X.env.locals/\(∀x c,X.env.cells.lookup x=some c->c≠b)/\∀p∈X.pn++pins,p.1≠b) :
 Inv X pins σ H' { s with heap:=h',gens:=g',drawn:=d',toks:=t' }:=by
 obtain⟨m,⟨o,es,ep,ho,r⟩,_⟩:=id I.loc;obtain⟨sl,hL⟩:=u.any ho I.free λz=>(hch _ z).2.1 rfl
 exact I.step (ch:=ch) hch (λb o hL hb hc e n=>u.keep b o e n (λz=>(Pu.mp (I.stkSub b z)).elim hL hb) hc) (λb o _ _ hc e n=>u.any e n hc) (λb o hc e n=>u.free b o e n hc) (λb o hc e=>u.there b o e hc) u.tups u.frzs u.tbls (λm' hm=>by
  obtain⟨o',es',ep',ho',r'⟩:=hm;rw[ho]at ho';cases ho'
  exact⟨_,es',ep',hL,r'⟩) hok hg
theorem Inv.turned{t':Nat}{it:Addr}(I:Inv X pins σ H s)(k:∀b o,b≠it->s.heap.get? b=some o->h'.get? b=some o)(hn:H it=none)(hL:it≠X.env.locals)
 (h1:it∈X.ex\/X.s₀.heap.objs.size<=it) (h2:∀x c,X.env.cells.lookup x=some c->c≠it) (h3:∀p∈X.pn++pins,p.1≠it):Inv X pins σ H { s with heap:=h',toks:=t' }:=by
 have nit:∀b u,H b=some u->b≠it:=λb u e z=>by rw[z,hn]at e;cases e
 refine I.step (g':=s.gens) (d':=s.drawn) (ch:=[it]) (λb hb=>?_) (λb o _ _ hc e _=>k b o (λz=>hc (by simp[z])) e) (λb o _ _ hc e _=>⟨o.slots,k b o (λz=>hc (by simp[z])) e⟩) (λ_ _ _ _ n=>n)
  (λb o hc e=>⟨o,k b o (λz=>hc (by simp[z])) e⟩) (λ_ _ e=>e) (λ_ _ _ e=>e) (λb ps e=>⟨#[],by rw[e];simp⟩) (λm hm=>?_) (λb u e=>?_) I.bare
 ·have e:b=it:=by simpa using hb
  subst e;exact⟨h1,hL,h2,h3⟩
 ·obtain⟨o,es,ep,ho,r⟩:=hm;exact⟨o,es,ep,k _ o (Ne.symm hL) ho,r⟩
 ·refine(I.hok b u e).stay (λc v hc q=>k c v ?_ q) (λ_ q=>q) λ_ _ q=>q
  rcases hc with z |z
  ·rw[z];exact nit b u e
  ·exact nit c _ z
theorem Inv.tok(I:Inv X pins σ H s)(t:Nat):Inv X pins σ H { s with toks:=t }:=I.un (h':=s.heap) (t':=t) Un.refl I.hok
theorem Inv.kept{t':Nat}(I:Inv X pins σ H s)(k:∀b u,s.heap.get? b=some u->h'.get? b=some u):Inv X pins σ H { s with heap:=h',toks:=t' }:=I.un (Un.kept k) (I.hok.kept k)
theorem Inv.laid{a:Addr}{o:HO}{t':Nat}(I:Inv X pins σ H s)(k:∀b u,s.heap.get? b=some u->h'.get? b=some u)(hp:s.heap.objs.size<=a)(new:ObjOk X.prog X.w (upd H a o) h' a o) :
 Inv X pins σ (upd H a o) { s with heap:=h',toks:=t' }:=I.un (Un.laid k hp (I.hok.fresh hp)) (I.hok.laid k hp new)
theorem Inv.write{x e:Addr}{o:HO}{t':Nat}(I:Inv X pins σ H s)(mu:Mut (H x))(he:e=x\/H e=some (.own x))(k:∀b u,b≠e->s.heap.get? b=some u->h'.get? b=some u)(heo:∃u,h'.get? e=some u)
 (new:ObjOk X.prog X.w (upd H x o) h' x o):Inv X pins σ (upd H x o) { s with heap:=h',toks:=t' }:=I.un (Un.write mu he k heo) (I.hok.write mu he k heo new)
theorem Inv.pins_of{pins':List (Addr×Obj)}(I:Inv X pins σ H s)(h:∀p∈pins',s.heap.get? p.1=some p.2/\H p.1=none/\p.1≠X.env.locals/\p.1∉X.fs/\∀v,p.2.data≠.cell v):Inv X pins' σ H s :=
 ⟨I.ok,I.os,I.bare,I.base,I.loc,I.cell,I.free,I.freeC,λp hp=>(PV.mp hp).elim (λz=>I.pin p (QI _ z)) (h p),I.hok,I.len⟩
theorem zA{N:List Str}(hN:N.Nodup){i j:Nat}{x:Str}(a:N[i]?=some x)(b:N[j]?=some x):i=j:=by obtain⟨h1,e1⟩:=List.getElem?_eq_some_iff.mp a;obtain⟨h2,e2⟩:=List.getElem?_eq_some_iff.mp b;exact(List.getElem_inj hN).mp (e1.trans e2.symm)
theorem DD{M:Model}{A:Around}{E:Value->Shared->Prop}{i:Nat}{x:Str}{v:V}{u:Value}{Q:Unit->Shared->Prop}(I:Inv X pins σ H s)(hN:X.N.Nodup)(hi:X.N[i]?=some x)(hx:Loc X.env.scope x)(r:RelV v u)
 (h:∀s',Inv X pins (σ.set i (some v)) H s'->(∃a,Heap.SameBut a s.heap s'.heap/\(a=X.env.locals\/X.env.cells.lookup x=some a))->Q () s') (hf:X.fn x=true\/X.env.scope.names.lookup x=some .local:=by first |exact .inl rfl |exact .inr rfl |assumption):wpAny M A (storeName X.env x u) Q E s:=by
 obtain⟨m,hn,hl⟩:=id I.loc;have hcls:(X.env.scope.kind == .class || (X.env.scope.kind == .module&&X.env.locals != X.env.globals))=false:=by rw[I.ok.kind];rfl
 have hiσ:i<σ.length:=by rw[I.len];exact(List.getElem?_eq_some_iff.mp hi).1
 have cne:=I.cne
 have tracked:∀{a:Addr} {h':Heap},(∃o,s.heap.get? a=some o/\H a=none)->Heap.SameBut a s.heap h'->HOk X.prog X.w H h':=λ{a h'} ha hs b ob e=>by
  obtain⟨_,_,hfree⟩:=ha;refine(I.hok b ob e).stay (λc w' hc q=>(hs.2 c ?_).trans q) (λ_ q=>q) λ_ _ q=>q
  rintro rfl;rcases hc with rfl |hc
  ·rw[hfree]at e;cases e
  ·rw[hfree]at hc;cases hc
 rcases hx with hk |hk
 ·refine wpAny_storeName_local hk hn (λh' hn' hs=>?_) hcls;obtain⟨oL,_,_,hoL,_⟩:=id hn;refine h _ ⟨I.ok,I.os,I.bare,⟨λb o e n hb hx=>?_,λb o e n hb hx=>?_,I.base.free,λb o e hx=>?_,I.base.tups,I.base.frzs,I.base.tbls⟩,⟨_,hn',λj y v' e1 e2 e3=>?_⟩,λy c e=>?_,I.free,I.freeC,λp hp=>?_,tracked ⟨oL,hoL,I.free⟩ hs,by simpa using I.len⟩ ⟨_,hs,.inl rfl⟩
  ·exact(hs.2 b (Qb (Qa (Heap.lt_size e) I.ok.above))).trans (I.base.keep b o e n hb hx)
  ·obtain⟨sl,e1⟩:=I.base.slot b o e n hb hx;exact⟨sl,(hs.2 b (Qb (Qa (Heap.lt_size e) I.ok.above))).trans e1⟩
  ·obtain⟨o',e1⟩:=I.base.there b o e hx;exact⟨o',(hs.2 b (Qb (Qa (Heap.lt_size e) I.ok.above))).trans e1⟩
  ·by_cases hj:j=i
   ·subst hj;rw[hi]at e1;cases e1;rw[List.getElem?_set_self hiσ]at e2;cases e2;exact⟨u,r,.inl ⟨hk,by simp⟩⟩
   ·rw[List.getElem?_set_ne (Ne.symm hj)]at e2;obtain⟨u',r',q⟩:=hl j y v' e1 e2 e3;refine⟨u',r',?_⟩;rcases q with⟨k,e⟩ |⟨k,c,e,z⟩
    ·refine .inl ⟨k,?_⟩;have:y≠x:=λe=>hj (zA hN e1 (e ▸ hi))
     simp[this,e]
    ·exact .inr ⟨k,c,e,z.sameBut hs (cne y c e)⟩
  ·obtain⟨w',z⟩:=I.cell y c e;exact⟨w',z.sameBut hs (cne y c e)⟩
  ·obtain⟨e,n,ne,nf,d⟩:=I.pin p hp;exact⟨(hs.2 p.1 ne).trans e,n,ne,nf,d⟩
 ·have hfn:X.fn x=true:=by
   rcases hf with z |z
   ·exact z
   ·rw[z]at hk;cases hk
  obtain⟨c,hc⟩:=I.ok.has x (.inl hk);obtain⟨w',z⟩:=I.cell x c hc;refine wpAny_storeName_cell I.ok.kind hk hc z (λh' hc' hs=>?_);obtain⟨oc,hoc,hocd⟩:=id z;refine h { s with heap:=h' } ⟨I.ok,I.os,I.bare,⟨λb o e n hb hx=>?_,λb o e n hb hx=>?_,I.base.free,λb o e hx=>?_,I.base.tups,I.base.frzs,I.base.tbls⟩,⟨m,hn.sameBut hs (Ne.symm (cne x c hc)),λj y v' e1 e2 e3=>?_⟩,λy c' e=>?_,I.free,I.freeC,λp hp=>?_,tracked ⟨oc,hoc,I.freeC x c hc⟩ hs,by simpa using I.len⟩ ⟨c,hs,.inr hc⟩
  ·exact(hs.2 b (Qb (Qa (Heap.lt_size e) (I.ok.cab x c hfn hc)))).trans (I.base.keep b o e n hb hx)
  ·obtain⟨sl,e1⟩:=I.base.slot b o e n hb hx;exact⟨sl,(hs.2 b (Qb (Qa (Heap.lt_size e) (I.ok.cab x c hfn hc)))).trans e1⟩
  ·obtain⟨o',e1⟩:=I.base.there b o e hx;exact⟨o',(hs.2 b (Qb (Qa (Heap.lt_size e) (I.ok.cab x c hfn hc)))).trans e1⟩
  ·by_cases hj:j=i
   ·subst hj;rw[hi]at e1;cases e1;rw[List.getElem?_set_self hiσ]at e2;cases e2;exact⟨u,r,.inr ⟨.inl hk,c,hc,hc'⟩⟩
   ·rw[List.getElem?_set_ne (Ne.symm hj)]at e2;obtain⟨u',r',q⟩:=hl j y v' e1 e2 e3;refine⟨u',r',?_⟩;rcases q with q |⟨k,c',e,z'⟩
    ·exact .inl q
    ·refine .inr ⟨k,c',e,z'.sameBut hs ?_⟩;rintro rfl;exact hj (zA hN e1 (I.ok.inj _ _ _ e hc ▸ hi))
  ·by_cases hcc:c'=c
   ·subst hcc;exact⟨_,hc'⟩
   ·obtain⟨w2,z2⟩:=I.cell y c' e;exact⟨w2,z2.sameBut hs hcc⟩
  ·obtain⟨e,n,ne,nf,d⟩:=I.pin p hp;refine⟨(hs.2 p.1 ?_).trans e,n,ne,nf,d⟩;intro q;rw[q,hoc]at e;have q':oc=p.2:=Option.some.inj e;exact d w' (by rw[<- q'];exact hocd)
theorem xz{M:Model}{A:Around}{E:Value->Shared->Prop}{i:Nat}{x:Str}{v:V}{u:Value}{Q:Unit->Shared->Prop}(I:Inv X pins σ H s)(hN:X.N.Nodup)(hi:X.N[i]?=some x)(hx:Loc X.env.scope x)(r:RelV v u)
 (h:∀s',Inv X pins (σ.set i (some v)) H s'->Q () s') (hf:X.fn x=true\/X.env.scope.names.lookup x=some .local:=by first |exact .inl rfl |exact .inr rfl |assumption):wpAny M A (storeName X.env x u) Q E s :=
 DD I hN hi hx r (λs' I' _=>h s' I') hf
theorem Inv.call'{s':Shared}{ch:List Addr}(I:Inv X pins σ H s)(ho:s'.os=s.os)(u:Un (frs X.stack) ch H H' s.heap s'.heap)(hok:HOk X.prog X.w H' s'.heap)(hg:AllBare s'.gens)
 (hch:∀b∈ch,(b∈X.ex\/X.s₀.heap.objs.size<=b)/\b≠X.env.locals/\(∀x c,X.env.cells.lookup x=some c->c≠b)/\∀p∈X.pn++pins,p.1≠b):Inv X pins σ H' s':=by
 obtain⟨h',g',d',t',o'⟩:=s';have e:o'=s.os:=ho;subst e;exact I.call (g':=g') (t':=t') (d':=d') u hok hg hch
end
abbrev XK:=Value->Option Addr->Hp->Prop
abbrev St:=List (Option V)
abbrev VK:=V->Hp->Prop
abbrev TE:=St->Hp->VK->Prop
abbrev TT:=St->Hp->(Bool->Hp->Prop)->Prop
abbrev TA:=St->Hp->(List V->Hp->Prop)->Prop
structure Ends where
 nx:St->Hp->Prop
 rt:VK
 bk:St->Hp->Prop:=λ_ _=>False
 ct:St->Hp->Prop:=λ_ _=>False
abbrev TS:=Ends->St->Hp->Prop
def EP(X:Cx)(pins:List (Addr×Obj))(σ:St)(Q:VK)(u:Value)(s':Shared):Prop:=∃v H',Inv X pins σ H' s'/\RelV v u/\Q v H'
def TP(X:Cx)(pins:List (Addr×Obj))(σ:St)(Q:Bool->Hp->Prop)(b:Bool)(s':Shared):Prop:=∃H',Inv X pins σ H' s'/\Q b H'
def AP(X:Cx)(pins:List (Addr×Obj))(σ:St)(Q:List V->Hp->Prop)(us:List Value)(s':Shared):Prop:=∃vs H',Inv X pins σ H' s'/\Vals vs us/\Q vs H'
noncomputable def SP(X:Cx)(pins:List (Addr×Obj))(D:Ends)(f:Flow)(s':Shared):Prop :=
 match f with
 |.next=>∃σ' H',Inv X pins σ' H' s'/\D.nx σ' H'
 |.brk=>∃σ' H',Inv X pins σ' H' s'/\D.bk σ' H'
 |.cont=>∃σ' H',Inv X pins σ' H' s'/\D.ct σ' H'
 |.ret u=>∃v σ' H',Inv X pins σ' H' s'/\RelV v u/\D.rt v H'
noncomputable def PE(X:Cx)(e:Expr)(t:TE):Prop :=
 ∀(pins:List (Addr×Obj)) (s:Shared) (σ:St) (H:Hp) (Q:VK),Inv X pins σ H s->t σ H Q->wpAny (model X.prog X.w) X.A (eval e X.env) (EP X pins σ Q) X.xe s
noncomputable def PT(X:Cx)(e:Expr)(t:TT):Prop :=
 ∀(pins:List (Addr×Obj)) (s:Shared) (σ:St) (H:Hp) (Q:Bool->Hp->Prop),Inv X pins σ H s->t σ H Q->wpAny (model X.prog X.w) X.A (isTrue e X.env (eval e X.env)) (TP X pins σ Q) X.xe s
noncomputable def PW(X:Cx)(e:Expr)(t:TT):Prop :=
 ∀(whole:Sem Value) (pins:List (Addr×Obj)) (s:Shared) (σ:St) (H:Hp) (Q:Bool->Hp->Prop),Inv X pins σ H s->t σ H Q->wpAny (model X.prog X.w) X.A (isTrue e X.env whole) (TP X pins σ Q) X.xe s
theorem PW.pt{X:Cx}{e:Expr}{t:TT}(h:PW X e t):PT X e t:=h _
noncomputable def PA(X:Cx)(es:List Expr)(t:TA):Prop :=
 ∀(pos:Pos) (pins:List (Addr×Obj)) (s:Shared) (σ:St) (H:Hp) (Q:List V->Hp->Prop),Inv X pins σ H s->t σ H Q->wpAny (model X.prog X.w) X.A (spliced (backTo pos (starEach es X.env))) (AP X pins σ Q) X.xe s
noncomputable def PS(X:Cx)(st:Stmt)(t:TS):Prop :=
 ∀(pins:List (Addr×Obj)) (s:Shared) (σ:St) (H:Hp) (D:Ends),Inv X pins σ H s->t D σ H->wpAny (model X.prog X.w) X.A (exec st X.env) (SP X pins D) X.xe s
noncomputable def PSs(X:Cx)(st:List Stmt)(t:TS):Prop :=
 ∀(pins:List (Addr×Obj)) (s:Shared) (σ:St) (H:Hp) (D:Ends),Inv X pins σ H s->t D σ H->wpAny (model X.prog X.w) X.A (execs st X.env) (SP X pins D) X.xe s
theorem thn{α:Type}{t:Sem α}{Q Q':α->Shared->Prop}{M:Model}{A:Around}{E:Value->Shared->Prop}{s:Shared}(h:wpAny M A t Q E s)(hQ:∀a s,Q a s->Q' a s):wpAny M A t Q' E s:=wpAny_mono h hQ λ_ _ x=>x
section
variable {X:Cx}
def xg(i:Nat):TE:=λσ H Q=>∃v,σ[i]?=some (some v)/\Q v H
def tC(v:V):TE:=λ_ H Q=>Q v H
theorem FL{i:Nat}{x:Str}{pos:Pos}(hN:X.N[i]?=some x)(hv:Vis X.env.scope x)(hd:(x == ("__debug__":Str))=false:=by decide)(hcd:(x == ("__classdict__":Str))=false:=by decide):PE X (.Name x pos) (xg i):=by
 intro pins s σ H Q I h;obtain⟨v,e,h⟩:=h;obtain⟨m,hn,hl⟩:=I.loc;obtain⟨u,r,l⟩:=hl i x v hN e hv;have fin:EP X pins σ Q u s:=⟨v,H,I,r,h⟩;rcases l with⟨hk,hm⟩ |⟨hk,c,hc,hcell⟩
 ·exact wpAny_Name (wpAny_loadName_local I.ok.kind hk hn hm fin) hd
 ·rcases hk with hk |hk
  ·exact wpAny_Name (wpAny_loadName_cell I.ok.kind hk hc hcell fin) hd
  ·exact wpAny_Name (wpAny_loadName_free I.ok.kind hk hc hcell fin hcd) hd
theorem af{i j pos}:PE X (.Constant (.int i) j pos) (tC (.int i)):=λ_ _ _ H _ I h=>wpAny_Constant_int ⟨.int i,H,I.tok _,⟨_,rfl⟩,h⟩
theorem ua{b j pos}:PE X (.Constant (.bool b) j pos) (tC (.bl b)):=λ_ _ _ H _ I h=>Constant_bool ⟨.bl b,H,I,rfl,h⟩
theorem zm{j pos}:PE X (.Constant .none j pos) (tC .non):=λ_ _ _ H _ I h=>Constant_none ⟨.non,H,I,rfl,h⟩
def Gl(X:Cx)(x:Str):Prop:=X.env.kindOf x=some .globalImplicit
theorem uK{E:Value->Shared->Prop}{pins:List (Addr×Obj)}{s:Shared}{σ:St}{H:Hp}{x:Str}{u:Value}{pos:Pos}{Q:Value->Shared->Prop}(I:Inv X pins σ H s)(hg:Gl X x)(hm:X.mg x=some u)(h:Q u s)
 (hd:(x == ("__debug__":Str))=false:=by decide):wpAny (model X.prog X.w) X.A (eval (.Name x pos) X.env) Q E s :=
 Calls.Name_function_global I.ok.kind hg (Calls.loadGlobal_global (by rw[I.ok.glob];exact I.mod.glob.keeps I.bk) hm h) hd
theorem gN{E:Value->Shared->Prop}{pins:List (Addr×Obj)}{s:Shared}{σ:St}{H:Hp}{x:Str}{u:Value}{pos:Pos}{Q:Value->Shared->Prop}(I:Inv X pins σ H s)(hg:Gl X x)(hm:X.mg x=none)(hv:bootBuiltins x=some u)(h:Q u s)
 (hn:x≠"__name__":=by decide) (hd:(x == ("__debug__":Str))=false:=by decide):wpAny (model X.prog X.w) X.A (eval (.Name x pos) X.env) Q E s:=by
 obtain⟨mb,h1,h2⟩:=I.mod.blt;exact Calls.Name_function_global I.ok.kind hg (Calls.loadGlobal_builtin (by rw[I.ok.glob];exact I.mod.glob.keeps I.bk) hm (by rw[I.ok.blt];exact h1.keeps I.bk) ((h2 x hn).trans hv) h) hd
theorem FQ{x:Str}{v:V}{u:Value}{pos:Pos}(hg:Gl X x)(hm:X.mg x=some u)(r:RelV v u)(hd:(x == ("__debug__":Str))=false:=by decide):PE X (.Name x pos) (tC v) :=
 λ_ _ _ H _ I h=>uK I hg hm ⟨v,H,I,r,h⟩ hd
theorem zo{x:Str}{v:V}{u:Value}{pos:Pos}(hg:Gl X x)(hm:X.mg x=none)(hv:bootBuiltins x=some u)(r:RelV v u)(hn:x≠"__name__":=by decide)(hd:(x == ("__debug__":Str))=false:=by decide):PE X (.Name x pos) (tC v) :=
 λ_ _ _ H _ I h=>gN I hg hm hv ⟨v,H,I,r,h⟩ hn hd
variable {a b:Expr}{ta tb:TE}{pos:Pos}
def tB(t:TE):TT:=λσ H Q=>t σ H λx H1=>∃c,x=.bl c/\Q c H1
theorem tU{e:Expr}{t:TE}(h:PE X e t)(he:∀whole,isTrue e X.env whole=(do let v <- whole;standAt e.pos;holding [v] (truthy v)):=by intro _;rfl):PT X e (tB t):=by intro pins s σ H Q I hw;refine isTrue_plain (thn (h pins s σ H _ I hw) λv s1 ⟨x,H1,I1,r1,q1⟩=>?_) (he _);obtain⟨d,rfl,q⟩:=q1;cases r1;exact wpAny_truthy_bool ⟨H1,I1,q⟩
variable {tA tB':TT}{rest:List Expr}
def xr(t u:TT):TT:=λσ H Q=>t σ H λc H1=>if c=true then u σ H1 Q else Q false H1
def tOr(t u:TT):TT:=λσ H Q=>t σ H λc H1=>if c=true then Q true H1 else u σ H1 Q
def xk(t:TT):TT:=λσ H Q=>t σ H λc H1=>Q (!c) H1
theorem iT(ha:PT X a tA):PW X (.BoolOp .And [a] pos) tA:=by
 intro wh pins s σ H Q I h;refine isTrue_and (thn (ha pins s σ H Q I h) λc s1 e=>?_);cases c with
 |true=>exact isTrue_and_nil e
 |false=>exact e
theorem y8(ha:PT X a tA):PW X (.BoolOp .Or [a] pos) tA:=by
 intro wh pins s σ H Q I h;refine isTrue_or (thn (ha pins s σ H Q I h) λc s1 e=>?_);cases c with
 |false=>exact isTrue_or_nil e
 |true=>exact e
theorem iU(ha:PT X a tA)(hb:PW X (.BoolOp .And (b::rest) pos) tB'):PW X (.BoolOp .And (a::b::rest) pos) (xr tA tB'):=by
 intro wh pins s σ H Q I h;refine isTrue_and (thn (ha pins s σ H _ I h) λc s1 ⟨H1,I1,q1⟩=>?_);cases c with
 |true=>exact hb wh pins s1 σ H1 Q I1 q1
 |false=>exact⟨H1,I1,q1⟩
theorem y9(ha:PT X a tA)(hb:PW X (.BoolOp .Or (b::rest) pos) tB'):PW X (.BoolOp .Or (a::b::rest) pos) (tOr tA tB'):=by
 intro wh pins s σ H Q I h;refine isTrue_or (thn (ha pins s σ H _ I h) λc s1 ⟨H1,I1,q1⟩=>?_);cases c with
 |true=>exact⟨H1,I1,q1⟩
 |false=>exact hb wh pins s1 σ H1 Q I1 q1
theorem ze(ha:PT X a tA):PT X (.UnaryOp .Not a pos) (xk tA):=by intro pins s σ H Q I h;exact isTrue_not (ha pins s σ H (λc H1=>Q (!c) H1) I h)
def xq(ta tb:TE):TE:=λσ H Q=>ta σ H λx H1=>∃c,x=.bl c/\if c=true then tb σ H1 Q else Q (.bl false) H1
def xi(ta tb:TE):TE:=λσ H Q=>ta σ H λx H1=>∃c,x=.bl c/\if c=true then Q (.bl true) H1 else tb σ H1 Q
def xj(ta:TE):TE:=λσ H Q=>ta σ H λx H1=>∃c,x=.bl c/\Q (.bl (!c)) H1
theorem zl{op}{t:TE}(h:PE X a t):PE X (.BoolOp op [a] pos) t:=λpins s σ H Q I hw=>BoolOp_one (h pins s σ H Q I hw)
theorem FS(ha:PE X a ta)(hb:PE X (.BoolOp .And (b::rest) pos) tb):PE X (.BoolOp .And (a::b::rest) pos) (xq ta tb):=by
 intro pins s σ H Q I h;refine BoolOp_and (thn (ha pins s σ H _ I h) λv s1 ⟨x,H1,I1,r1,q1⟩=>?_);obtain⟨c,rfl,q1⟩:=q1;cases r1;refine wpAny_truthy_bool ?_;cases c with
 |true=>exact hb pins s1 σ H1 Q I1 q1
 |false=>exact⟨.bl false,H1,I1,rfl,q1⟩
theorem FM(ha:PE X a ta)(hb:PE X (.BoolOp .Or (b::rest) pos) tb):PE X (.BoolOp .Or (a::b::rest) pos) (xi ta tb):=by
 intro pins s σ H Q I h;refine BoolOp_or (thn (ha pins s σ H _ I h) λv s1 ⟨x,H1,I1,r1,q1⟩=>?_);obtain⟨c,rfl,q1⟩:=q1;cases r1;refine wpAny_truthy_bool ?_;cases c with
 |false=>exact hb pins s1 σ H1 Q I1 q1
 |true=>exact⟨.bl true,H1,I1,rfl,q1⟩
theorem FN(ha:PE X a ta):PE X (.UnaryOp .Not a pos) (xj ta):=by intro pins s σ H Q I h;refine UnaryOp_ (thn (ha pins s σ H _ I h) λv s1 ⟨x,H1,I1,r1,q1⟩=>?_);obtain⟨c,rfl,q1⟩:=q1;cases r1;exact not_of (wpAny_truthy_bool ⟨.bl (!c),H1,I1,rfl,q1⟩)
def tIf(t:TT)(ta tb:TE):TE:=λσ H Q=>t σ H λc H1=>if c=true then ta σ H1 Q else tb σ H1 Q
theorem tZ{c:Expr}(hc:PT X c tA)(ha:PE X a ta)(hb:PE X b tb):PE X (.IfExp c a b pos) (tIf tA ta tb):=by
 intro pins s σ H Q I h;refine wpAny_IfExp (thn (hc pins s σ H _ I h) λd s1 ⟨H1,I1,q1⟩=>?_);cases d with
 |true=>exact ha pins s1 σ H1 Q I1 q1
 |false=>exact hb pins s1 σ H1 Q I1 q1
end
noncomputable def SqL(K:PySem.W.Frag)(H:Hp)(a:Addr)(xs:List V):Prop :=
 Rd H a (.lst xs) \/
  ∃(o:Obj) (its:Array Value) (n:Nat),K.lookup a=some o/\o.cls=.type "list"/\o.dict=none/\o.data=.seq its n/\its.size<=sizeLine/\Vals xs its.toList
noncomputable def SqT(K:PySem.W.Frag)(H:Hp)(a:Addr)(xs:List V):Prop :=
 Rd H a (.tup xs) \/
  ∃(o:Obj) (its:Array Value) (n:Nat),K.lookup a=some o/\o.cls=.type "tuple"/\o.data=.seq its n/\its.size<=sizeLine/\Vals xs its.toList
noncomputable def Mm:Value->Option V
 |.none=>some .non
 |.bool b=>some (.bl b)
 |.int i _=>some (.int i)
 |.str x _=>some (.str x)
 |.bytes b _=>some (.byt b)
 |.float b _=>some (.flt b)
 |.ref a=>some (.ref a)
 |.type n=>some (.ty n)
 |_=>none
theorem RelV.abs{x:V}{u:Value}(r:RelV x u):Mm u=some x:=by
 cases x with
 |non=>cases r;rfl
 |bl _=>cases r;rfl
 |int _=>obtain⟨t,rfl⟩:=r;rfl
 |str _=>obtain⟨t,rfl⟩:=r;rfl
 |byt _=>obtain⟨t,rfl⟩:=r;rfl
 |flt _=>obtain⟨t,rfl⟩:=r;rfl
 |ref _=>cases r;rfl
 |ty _=>cases r;rfl
theorem RelV.inj{x y:V}{u:Value}(r:RelV x u)(q:RelV y u):x=y:=Option.some.inj (r.abs.symm.trans q.abs)
theorem Vals.inj:∀{xs ys:List V} {us:List Value},Vals xs us->Vals ys us->xs=ys
 |_,_,_,.nil,.nil=>rfl
 |_,_,_,.cons r t,.cons r' t'=>by rw[r.inj r',Vals.inj t t']
section
variable {X:Cx}{pins:List (Addr×Obj)}{σ:St}{H:Hp}{s:Shared}{a:Addr}{xs ys:List V}
theorem SqL.of{K:PySem.W.Frag}(h:H a=some (.lst xs)):SqL K H a xs:=.inl (.inl h)
theorem SqT.of{K:PySem.W.Frag}(h:H a=some (.tup xs)):SqT K H a xs:=.inl (.inl h)
theorem Inv.list(I:Inv X pins σ H s)(h:SqL X.K H a xs):∃its:List Value,Vals xs its/\PlainL s.heap a its.toArray/\xs.length<=sizeLine:=by
 rcases h with h |⟨o,its,n,hk,hc,hd,hs,hz,r⟩
 ·obtain⟨z,its,n,r,e⟩:=h.ok I.hok;exact⟨its,r,⟨_,n,e,rfl,rfl,rfl⟩,z⟩
 ·refine⟨its.toList,r,⟨o,n,I.kIn a o hk,hc,hd,by simpa using hs⟩,?_⟩;have e:=r.length;simp only[Array.length_toList]at e;omega
theorem Inv.tuple(I:Inv X pins σ H s)(h:SqT X.K H a xs):∃its:List Value,Vals xs its/\IsTup s.heap a its.toArray/\xs.length<=sizeLine:=by
 rcases h with h |⟨o,its,n,hk,hc,hs,hz,r⟩
 ·obtain⟨z,its,r,p⟩:=h.ok I.hok;exact⟨its,r,p,z⟩
 ·refine⟨its.toList,r,⟨o,I.kIn a o hk,hc,n,by simpa using hs⟩,?_⟩;have e:=r.length;simp only[Array.length_toList]at e;omega
theorem Inv.list_inj(I:Inv X pins σ H s)(h:SqL X.K H a xs)(h':SqL X.K H a ys):xs=ys:=by
 obtain⟨its,r,⟨o,n,e,_,_,d⟩,_⟩:=I.list h;obtain⟨its',r',⟨o',n',e',_,_,d'⟩,_⟩:=I.list h';rw[e]at e';cases e';rw[d]at d'
 injection d' with d1 _
 have:its=its':=by simpa using congrArg Array.toList d1
 subst this;exact r.inj r'
theorem Inv.tuple_inj(I:Inv X pins σ H s)(h:SqT X.K H a xs)(h':SqT X.K H a ys):xs=ys:=by
 obtain⟨its,r,⟨o,e,_,n,d⟩,_⟩:=I.tuple h;obtain⟨its',r',⟨o',e',_,n',d'⟩,_⟩:=I.tuple h';rw[e]at e';cases e';rw[d]at d'
 injection d' with d1 _
 have:its=its':=by simpa using congrArg Array.toList d1
 subst this;exact r.inj r'
end
abbrev Cx.wish(X:Cx)(E:Value->Shared->Prop):Cx:={ X with xe:=E }
abbrev Cx.nox(X:Cx):Cx:=X.wish λ_ _=>False
theorem Cx.Ok.wish{X:Cx}(ok:X.Ok)(E:Value->Shared->Prop):(X.wish E).Ok :=
 ⟨ok.mod,ok.kind,ok.glob,ok.blt,ok.above,ok.inj,ok.has,ok.cab,ok.hd,ok.frames,ok.stk,ok.exf,ok.bs,ok.bsz,ok.noex,ok.exfs,ok.funs,ok.frf⟩
theorem Cx.Ok.unwish{X:Cx}{E:Value->Shared->Prop}(ok:(X.wish E).Ok):X.Ok :=
 ⟨ok.mod,ok.kind,ok.glob,ok.blt,ok.above,ok.inj,ok.has,ok.cab,ok.hd,ok.frames,ok.stk,ok.exf,ok.bs,ok.bsz,ok.noex,ok.exfs,ok.funs,ok.frf⟩
section
variable {X:Cx}{pins:List (Addr×Obj)}{σ:St}{H:Hp}{s:Shared}{E:Value->Shared->Prop}
theorem Inv.wish(I:Inv X pins σ H s)(E:Value->Shared->Prop):Inv (X.wish E) pins σ H s:=⟨I.ok.wish E,I.os,I.bare,I.base,I.loc,I.cell,I.free,I.freeC,I.pin,I.hok,I.len⟩
theorem Inv.unwish(I:Inv (X.wish E) pins σ H s):Inv X pins σ H s:=⟨I.ok.unwish,I.os,I.bare,I.base,I.loc,I.cell,I.free,I.freeC,I.pin,I.hok,I.len⟩
theorem SP.unwish{D:Ends}{f:Flow}{s':Shared}(h:SP (X.wish E) pins D f s'):SP X pins D f s':=by
 cases f with
 |next=>obtain⟨σ',H',I,q⟩:=h;exact⟨σ',H',I.unwish,q⟩
 |brk=>obtain⟨σ',H',I,q⟩:=h;exact⟨σ',H',I.unwish,q⟩
 |cont=>obtain⟨σ',H',I,q⟩:=h;exact⟨σ',H',I.unwish,q⟩
 |ret u=>obtain⟨v,σ',H',I,r,q⟩:=h;exact⟨v,σ',H',I.unwish,r,q⟩
theorem PE.nox{e:Expr}{t:TE}(h:PE X.nox e t):PE X e t:=λpins s σ H Q I hw =>wpAny_mono (h pins s σ H Q (I.wish _) hw) (λ_ _ ⟨v,H',I',r,q⟩=>⟨v,H',I'.unwish,r,q⟩) λ_ _ z=>False.elim z
theorem PT.nox{e:Expr}{t:TT}(h:PT X.nox e t):PT X e t:=λpins s σ H Q I hw =>wpAny_mono (h pins s σ H Q (I.wish _) hw) (λ_ _ ⟨H',I',q⟩=>⟨H',I'.unwish,q⟩) λ_ _ z=>False.elim z
theorem PSs.nox{st:List Stmt}{t:TS}(h:PSs X.nox st t):PSs X st t:=λpins s σ H D I hw =>wpAny_mono (h pins s σ H D (I.wish _) hw) (λ_ _ q=>q.unwish) λ_ _ z=>False.elim z
end
section
variable {X:Cx}{st:Stmt}{rest:List Stmt}{t u:TS}{e:Expr}{te:TE}{pos:Pos}
def xl:TS:=λD σ H=>D.nx σ H
def di(t u:TS):TS:=λD σ H=>t { D with nx:=u D } σ H
theorem aV:PSs X [] xl:=λ_ _ σ H _ I h=>wpAny_execs_nil ⟨σ,H,I,h⟩
theorem ai(h1:PS X st t)(h2:PSs X rest u):PSs X (st::rest) (di t u):=by
 intro pins s σ H D I h;refine wpAny_execs_cons (thn (h1 pins s σ H { D with nx:=u D } I h) λf s1 q=>?_);cases f with
 |next =>obtain⟨σ',H',I',q⟩:=q;exact h2 pins s1 σ' H' D I' q
 |ret v=>exact q
 |brk=>exact q
 |cont=>exact q
theorem ao(h1:PS X st t):PSs X [st] t:=by
 intro pins s σ H D I h;refine wpAny_execs_cons (thn (h1 pins s σ H D I h) λf s1 q=>?_);cases f with
 |next=>exact wpAny_execs_nil q
 |ret v=>exact q
 |brk=>exact q
 |cont=>exact q
theorem Inv.quiet{pins:List (Addr×Obj)}{σ:St}{H:Hp}{s:Shared}(I:Inv X pins σ H s):interactive X.env=false:=by simp[interactive,I.ok.kind]
def n6(te:TE):TS:=λD σ H=>te σ H λ_ H1=>D.nx σ H1
theorem ii(he:PE X e te)(hs:swapsWith e none pos.line X.env=pure false:=by rfl):PS X (.Expr e pos) (n6 te):=by intro pins s σ H D I h;exact wpAny_Expr_any (thn (he pins s σ H _ I h) λv s1 ⟨x,H1,I1,r1,q1⟩=>⟨σ,H1,I1,q1⟩) I.quiet hs
def xh(te:TE):TS:=λD σ H=>te σ H D.rt
theorem aw(he:PE X e te):PS X (.Return (some e) pos) (xh te):=by intro pins s σ H D I h;exact wpAny_Return_some (thn (he pins s σ H _ I h) λv s1 ⟨x,H1,I1,r1,q1⟩=>⟨x,σ,H1,I1,r1,q1⟩)
def lc(c:TT)(t u:TS):TS:=λD σ H=>c σ H λb H1=>if b=true then t D σ H1 else u D σ H1
theorem aS{c:Expr}{a b:List Stmt}{tc:TT}(hc:PT X c tc)(ha:PSs X a t)(hb:PSs X b u):PS X (.If c a b pos) (lc tc t u):=by
 intro pins s σ H D I h;refine wpAny_If (thn (hc pins s σ H _ I h) λd s1 ⟨H1,I1,q1⟩=>?_);cases d with
 |true=>exact ha pins s1 σ H1 D I1 q1
 |false=>exact hb pins s1 σ H1 D I1 q1
def Dq:TS:=λ_ _ _=>False
theorem iV:PS X st Dq:=λ_ _ _ _ _ _ h=>h.elim
end
abbrev TG:=V->St->Hp->(St->Hp->Prop)->Prop
abbrev TGs:=List V->St->Hp->(St->Hp->Prop)->Prop
noncomputable def PG(X:Cx)(target:Expr)(t:TG):Prop :=
 ∀(pins:List (Addr×Obj)) (s:Shared) (σ:St) (H:Hp) (v:V) (u:Value) (Q:St->Hp->Prop),Inv X pins σ H s->RelV v u->t v σ H Q ->
  wpAny (model X.prog X.w) X.A (assign target X.env u) (λ_ s'=>∃σ' H',Inv X pins σ' H' s'/\Q σ' H') X.xe s
noncomputable def PGs(X:Cx)(ts:List Expr)(t:TGs):Prop :=
 ∀(pins:List (Addr×Obj)) (s:Shared) (σ:St) (H:Hp) (vs:List V) (us:List Value) (Q:St->Hp->Prop),Inv X pins σ H s->Vals vs us->t vs σ H Q ->
  wpAny (model X.prog X.w) X.A (assignInOrder ((assignEach ts X.env).map (·.2)) us) (λ_ s'=>∃σ' H',Inv X pins σ' H' s'/\Q σ' H') X.xe s
abbrev wa:=V->V->V->Hp->(Hp->Prop)->Prop
noncomputable def Cr(X:Cx)(t:wa):Prop :=
 ∀(pins:List (Addr×Obj)) (s:Shared) (σ:St) (H:Hp) (o i v:V) (ov iv u:Value) (Q:Hp->Prop),Inv X pins σ H s->RelV o ov->RelV i iv->RelV v u->t o i v H Q ->
  wpAny (model X.prog X.w) X.A (setItem ov iv u) (λ_ s'=>∃H',Inv X pins σ H' s'/\Q H') X.xe s
section
variable {X:Cx}{pos:Pos}
def jo(i:Nat):TG:=λv σ H Q=>Q (σ.set i (some v)) H
theorem aR{i:Nat}{x:Str}(hN:X.N.Nodup)(hi:X.N[i]?=some x)(hx:Loc X.env.scope x)(hf:X.fn x=true\/X.env.scope.names.lookup x=some .local:=by first |exact .inl rfl |exact .inr rfl |assumption):PG X (.Name x pos) (jo i):=by intro pins s σ H v u Q I r h;exact wpAny_assign_Name (xz I hN hi hx r (λs' I'=>⟨_,H,I',h⟩) hf)
noncomputable def J6:TGs:=λvs σ H Q=>vs=[]/\Q σ H
noncomputable def J7(t:TG)(u:TGs):TGs:=λvs σ H Q=>∃v r,vs=v::r/\t v σ H λσ' H'=>u r σ' H' Q
theorem gf:PGs X [] J6:=by intro pins s σ H vs us Q I r h;obtain⟨e,h⟩:=h;subst e;cases r;exact assignInOrder_nil ⟨σ,H,I,h⟩
theorem ca{e:Expr}{es:List Expr}{t:TG}{u:TGs}(h1:PG X e t)(h2:PGs X es u)
 (hs:(assignEach (e::es) X.env).map (·.2)=assign e X.env::(assignEach es X.env).map (·.2):=by rfl):PGs X (e::es) (J7 t u):=by
 intro pins s σ H vs us Q I r h;obtain⟨v,vr,e1,h⟩:=h;subst e1;cases r with
 |cons r rr =>rw[hs];refine assignInOrder_cons (thn (h1 pins s σ H _ _ _ I r h) λ_ s1 ⟨σ1,H1,I1,q1⟩=>?_);exact h2 pins s1 σ1 H1 _ _ Q I1 rr q1
def J4(K:PySem.W.Frag)(n:Nat)(t:TGs):TG:=λv σ H Q=>∃a xs,v=.ref a/\SqT K H a xs/\xs.length=n/\t xs σ H Q
theorem gj{es:List Expr}{k:Nat}{t:TGs}{n:Nat}(hc:X.calm=true)(h:PGs X es t)
 (hn:(assignEach es X.env).length=n:=by rfl) (hst:(assignEach es X.env).findIdx? (·.1)=none:=by rfl):PG X (.Tuple es k pos) (J4 X.K n t):=by
 intro pins s σ H v u Q I r hw;obtain⟨a,xs,e1,hq,hl,hw⟩:=hw;subst e1;cases r;obtain⟨its,rv,ht,hz⟩:=I.tuple hq;refine assign_Tuple_tuple (I.ok.hd hc) ht (by simp[hn,<- hl,rv.length]) hst λh' hx=>?_
 have I1:Inv X pins σ H { s with heap:=h' }:=I.kept (t':=s.toks) λb o e=>hx b o (Qb (Heap.lt_size e)) e
 exact h pins _ σ H xs _ Q I1 (by simpa using rv) hw
def J5(to ti:TE)(t:wa):TG:=λv σ H Q=>to σ H λo H1=>ti σ H1 λi H2=>t o i v H2 λH3=>Q σ H3
theorem md{o i:Expr}{to ti:TE}{t:wa}(ho:PE X o to)(hi:PE X i ti)(hs:Cr X t)
 (ha:∀v,assign (.Subscript o i pos) X.env v=(do
   let ov <- holding [v] (eval o X.env)
   let iv <- holding [v,ov] (eval i X.env)
   standAt pos
   holding [v,ov,iv] (setItem ov iv v)
   release [v,ov,iv] []):=by intro _;rfl):PG X (.Subscript o i pos) (J5 to ti t):=by
 intro pins s σ H v u Q I r h;rw[ha];refine wpAny_bind (wpAny_holding (thn (ho pins s σ H _ I h) λov s1 ⟨x,H1,I1,r1,q1⟩=>?_));refine wpAny_bind (wpAny_holding (thn (hi pins s1 σ H1 _ I1 q1) λiv s2 ⟨y,H2,I2,r2,q2⟩=>?_));refine wpAny_bind (wpAny_standAt (wpAny_bind (wpAny_holding (thn (hs pins s2 σ H2 x y v ov iv u _ I2 r1 r2 r q2) λ_ s3 ⟨H3,I3,q3⟩=>?_))));exact wpAny_release ⟨σ,H3,I3,q3⟩
def iI(te:TE)(g:TG):TS:=λD σ H=>te σ H λx H1=>g x σ H1 D.nx
theorem fm{tg e:Expr}{te:TE}{g:TG}(he:PE X e te)(hg:PG X tg g)(hs:swapsWithSole [tg] e pos.line X.env=pure false:=by rfl)(hw:swappedStores [tg] e X.env=pure none:=by rfl)
 (h1:(assignEach [tg] X.env).map (·.2)=[assign tg X.env]:=by rfl):PS X (.Assign [tg] e pos) (iI te g):=by
 intro pins s σ H D I h;refine wpAny_Assign_stores (thn (he pins s σ H _ I h) λv s1 ⟨x,H1,I1,r1,q1⟩=>?_) hs hw;rw[h1];exact thn (hg pins s1 σ H1 x v _ I1 r1 q1) λ_ s2 q=>q
theorem ar{i:Nat}{x:Str}{e:Expr}{te:TE}{pos':Pos}(hN:X.N.Nodup)(hi:X.N[i]?=some x)(hx:Loc X.env.scope x)(he:PE X e te)(hs:swapsWith e (some (.Name x pos')) pos.line X.env=pure false:=by rfl)(hf:X.fn x=true\/X.env.scope.names.lookup x=some .local:=by first |exact .inl rfl |exact .inr rfl |assumption) :
 PS X (.Assign [.Name x pos'] e pos) (iI te (jo i)):=by
 intro pins s σ H D I h;refine wpAny_Assign_Name (thn (he pins s σ H _ I h) λv s1 ⟨y,H1,I1,r1,q1⟩=>?_) hs;exact xz I1 hN hi hx r1 (λs2 I2=>⟨_,H1,I2,q1⟩) hf
end
section
variable {X:Cx}{pos:Pos}
def Dl(c:TT)(tb:TS):TS:=λD σ H=>∃W:Nat->St->Hp->Prop,(∃m,W m σ H)/\∀m σ H,W m σ H ->
 c σ H λb H1=>if b=true then ∃N:St->Hp->Prop,(∀σ' H',N σ' H'->∃m',m'<m/\W m' σ' H')/\tb { D with nx:=N,ct:=N,bk:=D.nx } σ H1 else D.nx σ H1
theorem gF{c:Expr}{body:List Stmt}{tc:TT}{tb:TS}(hp:PassesOwn (model X.prog X.w) X.A X.env X.xe)(hc:PT X c tc)(hb:PSs X body tb):PS X (.While c body [] pos) (Dl tc tb):=by
 intro pins s σ H D I h;obtain⟨W,⟨m0,w0⟩,turn⟩:=h;refine wpAny_While (codeAny_whileLoop (λn s'=>∃σ' H',Inv X pins σ' H' s'/\W n σ' H') ?_ m0 ⟨σ,H,I,w0⟩);rintro n s1 ⟨σ1,H1,I1,w1⟩;refine wpAny_passesOwn hp (thn (hc pins s1 σ1 H1 _ I1 (turn n σ1 H1 w1)) λb s2 ⟨H2,I2,q2⟩=>?_);cases b with
 |true =>
  obtain⟨N,hN,q2⟩:=q2;rw[if_pos rfl];refine wpAny_passesOwn hp (thn (hb pins s2 σ1 H2 _ I2 q2) λf s3 q3=>?_);cases f with
  |next =>obtain⟨σ3,H3,I3,n3⟩:=q3;obtain⟨m',hm,w3⟩:=hN σ3 H3 n3;exact⟨m',hm,σ3,H3,I3,w3⟩
  |cont =>obtain⟨σ3,H3,I3,n3⟩:=q3;obtain⟨m',hm,w3⟩:=hN σ3 H3 n3;exact⟨m',hm,σ3,H3,I3,w3⟩
  |brk=>exact q3
  |ret v=>exact q3
 |false =>rw[if_neg Ra];exact wpAny_execs_nil ⟨σ1,H2,I2,q2⟩
end
structure It where
 go:Nat->Hp->Prop
 yld:Nat->Hp->V->Hp->Prop
 stop:Nat->Hp->Prop
noncomputable def gA(X:Cx)(pins:List (Addr×Obj))(H:Hp)(b:Addr):Prop :=
 H b=none/\b≠X.env.locals/\b∉X.fs/\(b∈X.ex\/X.s₀.heap.objs.size<=b)/\(∀x c,X.env.cells.lookup x=some c->c≠b)/\∀p∈X.pn++pins,p.1≠b
theorem Inv.fpOk{X:Cx}{pins:List (Addr×Obj)}{σ:St}{H H':Hp}{s:Shared}{b:Addr}(I:Inv X pins σ H s)(hb:s.heap.objs.size<=b)(hn:H' b=none):gA X pins H' b:=by
 refine⟨hn,Nat.ne_of_gt (Qa I.lt hb),I.nofs hb,.inr (PM I.sz hb),λx c e z=>?_,λp hp z=>?_⟩
 ·obtain⟨v,q⟩:=I.cell x c e;exact absurd (Qa q.lt (by rw[z];exact hb)) (Qw _)
 ·exact absurd (Qa (Heap.lt_size (I.pin p hp).1) (by rw[z];exact hb)) (Qw _)
structure Turn(P:Program)(w:World)(K:PySem.W.Frag)(tg:Expr)(J:It)(fp:List Addr)(it:Addr)(tn:Nat->Heap->Prop):Prop where
 mem:it∈fp
 obj:∀i h,tn i h->∀b∈fp,∃o,h.get? b=some o/\∀v,o.data≠.cell v
 keep:∀i h h',tn i h->(∀b∈fp,∀o,h.get? b=some o->h'.get? b=some o)->tn i h'
 item:∀(X:Cx),X.prog=P->X.w=w->X.K=K->X.calm=true->∀(i:Nat) (pins:List (Addr×Obj)) (s:Shared) (σ:St) (H:Hp) (E:Value->Shared->Prop),Inv X pins σ H s->(∀b∈fp,gA X pins H b)->tn i s.heap->J.go i H ->
  wpAny (model P w) X.A (pyNext (.ref it)) (λr s1=>∃u,r=some u /\
   wpAny (model P w) X.A (letOwnedTupleGo tg (.ref it) u) (λ_ s2=>∃x H',Inv X pins σ H' s2/\RelV x u/\J.yld i H x H'/\tn (i+1) s2.heap/\∀b∈fp,H' b=none) E s1) E s
 done:∀(X:Cx),X.prog=P->X.w=w->X.K=K->X.calm=true->∀(i:Nat) (pins:List (Addr×Obj)) (s:Shared) (σ:St) (H:Hp) (E:Value->Shared->Prop),Inv X pins σ H s->(∀b∈fp,gA X pins H b)->tn i s.heap->J.stop i H ->
  wpAny (model P w) X.A (pyNext (.ref it)) (λr s1=>r=none/\Inv X pins σ H s1) E s
 self:∀(A:Around) (i:Nat) (s:Shared) (Q:Value->Shared->Prop) (E:Value->Shared->Prop),tn i s.heap->Q (.ref it) s->wpAny (model P w) A (pyIter (.ref it)) Q E s
abbrev TI:=St->Hp->(It->Hp->Prop)->Prop
noncomputable def PIE(X:Cx)(pins:List (Addr×Obj))(σ:St)(tg:Expr)(R:It->Hp->Prop)(itv:Value)(s2:Shared):Prop :=
 ∃(it:Addr) (fp:List Addr) (tn:Nat->Heap->Prop) (J:It) (H':Hp),itv=.ref it/\Inv X pins σ H' s2/\Turn X.prog X.w X.K tg J fp it tn/\tn 0 s2.heap/\(∀b∈fp,gA X pins H' b)/\R J H'
noncomputable def PI(X:Cx)(tg iter:Expr)(wi:TI):Prop :=
 ∀(pins:List (Addr×Obj)) (s:Shared) (σ:St) (H:Hp) (R:It->Hp->Prop),Inv X pins σ H s->wi σ H R ->
  wpAny (model X.prog X.w) X.A (eval iter X.env) (λv s1=>wpAny (model X.prog X.w) X.A (pyIter v) (PIE X pins σ tg R) X.xe s1) X.xe s
theorem mR{M:Model}{A:Around}{E:Value->Shared->Prop}{s:Shared}{tg:Expr}{it:Addr}{u:Value}{o:Obj}{n:String}{vs:Array Value}{Q:Unit->Shared->Prop}(ho:s.heap.get? it=some o)(hc:o.cls=.type n)(hd:o.data=.fields vs)
 (hn:["enumerate","zip","dict_itemiterator","dict_reverseitemiterator","odict_iterator","itertools.zip_longest","itertools.pairwise"].contains n=false) (hQ:Q () s):wpAny M A (letOwnedTupleGo tg (.ref it) u) Q E s:=by
 unfold letOwnedTupleGo
 cases tg<;>first
  |exact wpAny_pure hQ
  | (cases u<;>first
      |exact wpAny_pure hQ
      | (refine wpAny_bind (wpAny_load ho ?_)
         rw[hc,hd];show wpAny M A (if(["enumerate","zip","dict_itemiterator","dict_reverseitemiterator","odict_iterator","itertools.zip_longest","itertools.pairwise"].contains n&&vs[0]? == some (rawInt _))=true then _ else _) Q E s;rw[if_neg (by intro h;rw[hn,Bool.false_and]at h;cases h)]
         exact wpAny_pure hQ))
noncomputable def Itl(K:PySem.W.Frag)(a:Addr):It :=
 ⟨λi H=>∃xs x,SqL K H a xs/\xs[i]?=some x,λi H x H'=>H'=H/\∀xs,SqL K H a xs->xs[i]?=some x,λi H=>∃xs,SqL K H a xs/\xs.length<=i⟩
noncomputable def Itt(K:PySem.W.Frag)(a:Addr):It :=
 ⟨λi H=>∃xs x,SqT K H a xs/\xs[i]?=some x,λi H x H'=>H'=H/\∀xs,SqT K H a xs->xs[i]?=some x,λi H=>∃xs,SqT K H a xs/\xs.length<=i⟩
noncomputable def Itr(lo:Int)(n:Nat):It:=⟨λi _=>i<n,λi H x H'=>H'=H/\x=.int (lo+i),λi _=>n<=i⟩
theorem CS{P:Program}{w:World}{K:PySem.W.Frag}{tg:Expr}(a it:Addr):Turn P w K tg (Itl K a) [it] it (λi h=>h.IsListIter it a i) where
 mem:=by simp
 obj:=λi h st b hb=>by
  have e:b=it:=by simpa using hb
  subst e;obtain⟨o,e,c,d⟩:=st;exact⟨o,e,λv z=>by rw[d]at z;cases z⟩
 keep:=λi h h' st k=>st.at λo e=>k it (by simp) o e
 item:=by
  intro X hP hw hK hc i pins s σ H E I hf st hg;subst hP hw hK;obtain⟨xs,x,hq,hx⟩:=hg;obtain⟨its,rv,p,hz⟩:=I.list hq;obtain⟨u,hu,ru⟩:=rv.get hx;obtain⟨f0,f1,f2,f3,f4,f5⟩:=hf it (by simp);refine wpAny_pyNext_list_item st p.isList (x:=u) (by simpa using hu) λh' st' sb=>?_
  have I1:Inv X pins σ H { s with heap:=h' }:=I.turned (t':=s.toks) (λb o hb e=>(sb.2 b hb).trans e) f0 f1 f3 f4 f5;obtain⟨o,e,c,d⟩:=id st';exact⟨u,rfl,mR (s:={ s with heap:=h' }) e c d (by decide) ⟨x,H,I1,ru,⟨rfl,λys hy=>by rw[I.list_inj hy hq];exact hx⟩,st',λb hb=>(hf b hb).1⟩⟩
 done:=by intro X hP hw hK hc i pins s σ H E I hf st hg;subst hP hw hK;obtain⟨xs,hq,hx⟩:=hg;obtain⟨its,rv,p,hz⟩:=I.list hq;obtain⟨f0,f1,f2,f3,f4,f5⟩:=hf it (by simp);have hl:=rv.length;exact wpAny_pyNext_list_end (I.ok.hd hc) st p.isList (by simp;omega) λh' eb=>⟨rfl,I.turned (t':=s.toks) (λb o hb e=>eb b o hb e) f0 f1 f3 f4 f5⟩
 self:=λ_ _ _ _ _ st h=>wpAny_pyIter_listiter st h
theorem CM{P:Program}{w:World}{K:PySem.W.Frag}{tg:Expr}(a it:Addr):Turn P w K tg (Itt K a) [it] it (λi h=>h.IsTupleIter it a i) where
 mem:=by simp
 obj:=λi h st b hb=>by
  have e:b=it:=by simpa using hb
  subst e;obtain⟨o,e,c,d⟩:=st;exact⟨o,e,λv z=>by rw[d]at z;cases z⟩
 keep:=λi h h' st k=>st.at λo e=>k it (by simp) o e
 item:=by
  intro X hP hw hK hc i pins s σ H E I hf st hg;subst hP hw hK;obtain⟨xs,x,hq,hx⟩:=hg;obtain⟨its,rv,p,hz⟩:=I.tuple hq;obtain⟨u,hu,ru⟩:=rv.get hx;obtain⟨f0,f1,f2,f3,f4,f5⟩:=hf it (by simp);refine wpAny_pyNext_tuple_item st (show s.heap.IsTuple a its.toArray from p) (x:=u) (by simpa using hu) λh' st' sb=>?_
  have I1:Inv X pins σ H { s with heap:=h' }:=I.turned (t':=s.toks) (λb o hb e=>(sb.2 b hb).trans e) f0 f1 f3 f4 f5;obtain⟨o,e,c,d⟩:=id st';exact⟨u,rfl,mR (s:={ s with heap:=h' }) e c d (by decide) ⟨x,H,I1,ru,⟨rfl,λys hy=>by rw[I.tuple_inj hy hq];exact hx⟩,st',λb hb=>(hf b hb).1⟩⟩
 done:=by intro X hP hw hK hc i pins s σ H E I hf st hg;subst hP hw hK;obtain⟨xs,hq,hx⟩:=hg;obtain⟨its,rv,p,hz⟩:=I.tuple hq;obtain⟨f0,f1,f2,f3,f4,f5⟩:=hf it (by simp);have hl:=rv.length;exact wpAny_pyNext_tuple_end (I.ok.hd hc) st (show s.heap.IsTuple a its.toArray from p) (by simp;omega) λh' eb=>⟨rfl,I.turned (t':=s.toks) (λb o hb e=>eb b o hb e) f0 f1 f3 f4 f5⟩
 self:=λ_ _ _ _ _ st h=>wpAny_pyIter_tupleiter st h
theorem CQ{P:Program}{w:World}{K:PySem.W.Frag}{tg:Expr}(it:Addr)(lo:Int)(n:Nat):Turn P w K tg (Itr lo n) [it] it (λi h=>IsRangeIter h it (lo+(i:Nat)*1) ((n:Int)-(i:Nat)) 1) where
 mem:=by simp
 obj:=λi h st b hb=>by
  have e:b=it:=by simpa using hb
  subst e
  exact⟨_,st,λv z=>by
   have z':Data.fields _=Data.cell v:=z
   cases z'⟩
 keep:=λi h h' st k=>k it (by simp) _ st
 item:=by
  intro X hP hw hK hc i pins s σ H E I hf st hg;subst hP hw hK;obtain⟨f0,f1,f2,f3,f4,f5⟩:=hf it (by simp);have W:=Walks.range (prog:=X.prog) (w:=X.w) (I.ok.hd hc) it lo 1 n;refine W.item i s _ _ hg st λv h' tk hv st' kk=>?_
  obtain⟨t,rfl⟩:=hv;have I1:Inv X pins σ H { s with heap:=h',toks:=tk }:=I.turned (λb o hb e=>kk b o (by simpa using hb) e) f0 f1 f3 f4 f5;refine⟨_,rfl,mR (s:={ s with heap:=h',toks:=tk }) (n:="range_iterator") st' rfl rfl (by decide) ⟨.int (lo+i),H,I1,⟨t,?_⟩,⟨rfl,rfl⟩,st',λb hb=>(hf b hb).1⟩⟩;rw[Qe]
 done:=by intro X hP hw hK hc i pins s σ H E I hf st hg;subst hP hw hK;obtain⟨f0,f1,f2,f3,f4,f5⟩:=hf it (by simp);exact wpAny_pyNext_range_end (I.ok.hd hc) st (by have:n<=i:=hg;omega) λh' eb=>⟨rfl,I.turned (t':=s.toks) (λb o hb e=>eb b o hb e) f0 f1 f3 f4 f5⟩
 self:=λ_ _ _ _ _ st h=>wpAny_pyIter_rangeiter st h
section
variable {X:Cx}{tg:Expr}
def AK(K:PySem.W.Frag)(tl:TE):TI:=λσ H R=>tl σ H λx H1=>∃a,x=.ref a/\(∃xs,SqL K H1 a xs)/\R (Itl K a) H1
def AJ(K:PySem.W.Frag)(tl:TE):TI:=λσ H R=>tl σ H λx H1=>∃a,x=.ref a/\(∃xs,SqT K H1 a xs)/\R (Itt K a) H1
theorem FJ{l:Expr}{tl:TE}(hl:PE X l tl):PI X tg l (AK X.K tl):=by
 intro pins s σ H R I h;refine thn (hl pins s σ H _ I h) λv s1 ⟨x,H1,I1,r1,q1⟩=>?_
 obtain⟨a,e,⟨xs,hq⟩,q⟩:=q1;subst e;cases r1;obtain⟨its,rv,p,hz⟩:=I1.list hq;refine wpAny_pyIter_list p.isList ?_;refine⟨s1.heap.objs.size,[s1.heap.objs.size],_,_,H1,rfl,I1.kept (t':=s1.toks) λb o e=>Heap.get?_push_of_some _ e,CS a _,⟨_,Heap.get?_push_size _ rfl,rfl,rfl⟩,λb hb=>?_,q⟩;have e:b=s1.heap.objs.size:=by simpa using hb
 subst e;exact I1.fpOk (Pn _) (I1.hok.fresh (Pn _))
theorem FH{l:Expr}{tl:TE}(hl:PE X l tl):PI X tg l (AJ X.K tl):=by
 intro pins s σ H R I h;refine thn (hl pins s σ H _ I h) λv s1 ⟨x,H1,I1,r1,q1⟩=>?_
 obtain⟨a,e,⟨xs,hq⟩,q⟩:=q1;subst e;cases r1;obtain⟨its,rv,p,hz⟩:=I1.tuple hq;refine wpAny_pyIter_tuple (show s1.heap.IsTuple a its.toArray from p) ?_;refine⟨s1.heap.objs.size,[s1.heap.objs.size],_,_,H1,rfl,I1.kept (t':=s1.toks) λb o e=>Heap.get?_push_of_some _ e,CM a _,⟨_,Heap.get?_push_size _ rfl,rfl,rfl⟩,λb hb=>?_,q⟩;have e:b=s1.heap.objs.size:=by simpa using hb
 subst e;exact I1.fpOk (Pn _) (I1.hok.fresh (Pn _))
theorem yW{pins:List (Addr×Obj)}{σ:St}{H:Hp}{s:Shared}{R:It->Hp->Prop}{E:Value->Shared->Prop}{lo hi:Int}{t u v:Tok}{tk:Nat}(I:Inv X pins σ H s)(h1 : -(2^62)<=lo)(h2:lo<2^62)(h3 : -(2^62)<=hi)(h4:hi<2^62)
 (q:R (Itr lo (hi-lo).toNat) H):wpAny (model X.prog X.w) X.A (pyIter (.ref s.heap.objs.size)) (PIE X pins σ tg R) E { s with heap:=s.heap.push { cls:=.type "range",data:=.fields #[.int lo t,.int hi u,.int 1 v] },toks:=tk }:=by
 refine wpAny_pyIter_range (IsRange.new ..) (small_one h1 h2 h3 h4) ?_;have I1:Inv X pins σ H { s with heap:=s.heap.push { cls:=.type "range",data:=.fields #[.int lo t,.int hi u,.int 1 v] },toks:=tk }:=I.kept λb o e=>Heap.get?_push_of_some _ e
 refine⟨(s.heap.push { cls:=.type "range",data:=.fields #[.int lo t,.int hi u,.int 1 v] }).objs.size,[(s.heap.push { cls:=.type "range",data:=.fields #[.int lo t,.int hi u,.int 1 v] }).objs.size],_,_,H,rfl,
  I1.kept (t':=tk) λb o e=>Heap.get?_push_of_some _ e,CQ _ lo (hi-lo).toNat,?_,λb hb=>?_,q⟩
 ·have e1:lo+((0:Nat):Int)*1=lo:=by simp
  have e2:(((hi-lo).toNat:Nat):Int)-((0:Nat):Int)=Builtin.Range.rangeSize lo hi 1:=by rw[rangeSize_one];split<;>omega
  show IsRangeIter _ _ (lo+((0:Nat):Int)*1) ((((hi-lo).toNat:Nat):Int)-((0:Nat):Int)) 1;rw[e1,e2];exact Heap.get?_push_size _ rfl
 ·have e:b=(s.heap.push { cls:=.type "range",data:=.fields #[.int lo t,.int hi u,.int 1 v] }).objs.size:=by simpa using hb
  subst e;exact I1.fpOk (Pn _) (I1.hok.fresh (Pn _))
def JI(ta:TA):TI:=λσ H R=>ta σ H λvs H1=>∃j:Int,vs=[.int j] /\ -(2^62)<=j/\j<2^62/\R (Itr 0 j.toNat) H1
def JH(ta:TA):TI:=λσ H R=>ta σ H λvs H1=>∃i j:Int,vs=[.int i,.int j]/\(-(2^62)<=i/\i<2^62 /\ -(2^62)<=j/\j<2^62)/\R (Itr i (j-i).toNat) H1
theorem iY{a:Expr}{ta:TA}{p pos:Pos}(hg:Gl X "range")(hm:X.mg "range"=none)(ha:PA X [a] ta)(hs:starEach [a] X.env=[(false,eval a X.env)]:=by rfl):PI X tg (.Call (.Name "range" p) [a] [] pos) (JI ta):=by
 intro pins s σ H R I h;refine Call_ (gN I hg hm boot_range (PyProof.Rows.callWith_type1 (thn (ha pos pins s σ H _ I h) λus s1 ⟨vs,H1,I1,r1,q1⟩=>?_) hs rfl));obtain⟨j,e,q1,q2,q⟩:=q1;subst e;cases r1 with
 |cons r rr =>cases rr;obtain⟨t,rfl⟩:=r;exact call_range_1 (yW I1 (by omega) (by omega) q1 q2 (by simpa using q))
theorem FI{a b:Expr}{ta:TA}{p pos:Pos}(hg:Gl X "range")(hm:X.mg "range"=none)(ha:PA X [a,b] ta)(hs:starEach [a,b] X.env=[(false,eval a X.env),(false,eval b X.env)]:=by rfl)(hs2:starEach [b] X.env=[(false,eval b X.env)]:=by rfl) :
 PI X tg (.Call (.Name "range" p) [a,b] [] pos) (JH ta):=by
 intro pins s σ H R I h;refine Call_ (gN I hg hm boot_range (PyProof.Rows.callWith_type1 (thn (ha pos pins s σ H _ I h) λus s1 ⟨vs,H1,I1,r1,q1⟩=>?_) (by rw[hs,hs2]) (by rw[hs2];rfl)));obtain⟨i,j,e,⟨q1,q2,q3,q4⟩,q⟩:=q1;subst e;cases r1 with
 |cons r rr =>
  cases rr with
  |cons r' rr =>cases rr;obtain⟨t,rfl⟩:=r;obtain⟨t',rfl⟩:=r';exact call_range_2 (yW I1 q1 q2 q3 q4 q)
def Dt(wi:TI)(g:TG)(tb:TS):TS:=λD σ H=>wi σ H λJ H1=>∃W:Nat->Nat->St->Hp->Prop,(∃m,W 0 m σ H1)/\∀i m σ H,W i m σ H ->
 (J.stop i H/\D.nx σ H)\/(J.go i H/\∃N:St->Hp->Prop,(∀σ' H',N σ' H'->∃m',m'<m/\W (i+1) m' σ' H')/\∀x H',J.yld i H x H'->g x σ H' λσ2 H2=>tb { D with nx:=N,ct:=N,bk:=D.nx } σ2 H2)
noncomputable def oK(fp:List Addr)(h:Heap):List (Addr×Obj):=fp.filterMap λb=>(h.get? b).map λo=>(b,o)
theorem oU{fp:List Addr}{h:Heap}{b:Addr}{o:Obj}(hb:b∈fp)(e:h.get? b=some o):(b,o)∈oK fp h:=List.mem_filterMap.mpr ⟨b,hb,by rw[e];rfl⟩
theorem Ht{fp:List Addr}{h:Heap}{p:Addr×Obj}(hp:p∈oK fp h):p.1∈fp/\h.get? p.1=some p.2:=by
 obtain⟨b,hb,e⟩:=List.mem_filterMap.mp hp;cases q:h.get? b with
 |none=>rw[q]at e;cases e
 |some o =>rw[q]at e;have e':(b,o)=p:=Option.some.inj e;subst e';exact⟨hb,q⟩
theorem Inv.pinned{pins:List (Addr×Obj)}{σ:St}{H:Hp}{s:Shared}{fp:List Addr}(I:Inv X pins σ H s)(hf:∀b∈fp,gA X pins H b)(ho:∀b∈fp,∃o,s.heap.get? b=some o/\∀v,o.data≠.cell v):Inv X (pins++oK fp s.heap) σ H s :=
 I.pins_of λp hp=>(PV.mp hp).elim (λz=>I.pin p (Qm _ z)) λz=>by obtain⟨hb,e⟩:=Ht z;obtain⟨f0,f1,f2,_⟩:=hf p.1 hb;obtain⟨o,e',d⟩:=ho p.1 hb;rw[e]at e';cases e';exact⟨e,f0,f1,f2,d⟩
theorem Inv.unpinned{pins pl:List (Addr×Obj)}{σ:St}{H:Hp}{s:Shared}(I:Inv X (pins++pl) σ H s):Inv X pins σ H s:=I.pins_of λp hp=>I.pin p (Qm _ (QI _ hp))
theorem db{iter:Expr}{body:List Stmt}{wi:TI}{g:TG}{tb:TS}{pos:Pos}(hp:PassesOwn (model X.prog X.w) X.A X.env X.xe)(hc:X.calm=true)(hi:PI X tg iter wi)(hg:PG X tg g)(hb:PSs X body tb)
 (hs:∀x,foldedSetIterable iter X.env x=pure x:=by intro _;rfl):PS X (.For tg iter body [] pos) (Dt wi g tb):=by
 intro pins s σ H D I h;refine wpAny_For (thn (hi pins s σ H _ I h) λv s1 h1=>thn h1 λitv s2 h2=>?_) hs;obtain⟨it,fp,tn,J,H2,e,I2,T,st2,f2,W,⟨m0,w0⟩,turn⟩:=h2;subst e;have stat:∀{H':Hp},(∀b∈fp,H' b=none)->∀b∈fp,gA X pins H' b:=λhn b hb=>⟨hn b hb,(f2 b hb).2⟩
 refine codeAny_forLoop_any (λn s'=>∃i σ' H',Inv X pins σ' H' s'/\tn i s'.heap/\(∀b∈fp,H' b=none)/\W i n σ' H') ?_ m0 ⟨0,σ,H2,I2,st2,λb hb=>(f2 b hb).1,w0⟩;rintro n s3 ⟨i,σ3,H3,I3,st3,fr3,w3⟩;rcases turn i n σ3 H3 w3 with⟨stop,qn⟩ |⟨go,N,hN,step⟩
 ·refine wpAny_passesOwn hp (thn (T.done X rfl rfl rfl hc i pins s3 σ3 H3 X.xe I3 (stat fr3) st3 stop) λr s4 ⟨hr,I4⟩=>?_);subst hr;exact wpAny_execs_nil ⟨σ3,H3,I4,qn⟩
 ·refine wpAny_passesOwn hp (thn (T.item X rfl rfl rfl hc i pins s3 σ3 H3 X.xe I3 (stat fr3) st3 go) λr s4 ⟨u,hr,h4⟩=>?_);subst hr;refine wpAny_passesOwn hp (thn h4 λ_ s5 ⟨x,H5,I5,r5,y5,st5,fr5⟩=>?_);have I5':=I5.pinned (stat fr5) (T.obj _ _ st5);refine wpAny_passesOwn hp (thn (hg _ s5 σ3 H5 x u _ I5' r5 (step x H5 y5)) λ_ s6 ⟨σ6,H6,I6,q6⟩=>?_);refine wpAny_passesOwn hp (thn (hb _ s6 σ6 H6 _ I6 q6) λf s7 q7=>?_)
  have again:∀{σ7:St} {H7:Hp},Inv X (pins++oK fp s5.heap) σ7 H7 s7->N σ7 H7->∃m,m<n/\∃i σ' H',Inv X pins σ' H' s7/\tn i s7.heap/\(∀b∈fp,H' b=none)/\W i m σ' H':=λ{σ7 H7} I7 n7=>by obtain⟨m',hm,w7⟩:=hN σ7 H7 n7;refine⟨m',hm,i+1,σ7,H7,I7.unpinned,T.keep _ _ _ st5 λb hb o e=>(I7.pin (b,o) (Qm _ (Qm _ (oU hb e)))).1,λb hb=>?_,w7⟩;obtain⟨o,e,d⟩:=T.obj _ _ st5 b hb;exact(I7.pin (b,o) (Qm _ (Qm _ (oU hb e)))).2.1
  cases f with
  |next=>obtain⟨σ7,H7,I7,n7⟩:=q7;exact again I7 n7
  |cont=>obtain⟨σ7,H7,I7,n7⟩:=q7;exact again I7 n7
  |brk=>obtain⟨σ7,H7,I7,q7⟩:=q7;exact⟨σ7,H7,I7.unpinned,q7⟩
  |ret v=>obtain⟨x7,σ7,H7,I7,r7,q7⟩:=q7;exact⟨x7,σ7,H7,I7.unpinned,r7,q7⟩
end
theorem pH{K:PySem.W.Frag}{a:Addr}{xs:List V}{g:TG}{tb:TS}{D:Ends}{σ:St}{H:Hp}(Pv:Nat->St->Hp->Prop)(h0:Pv 0 σ H)(hl:∀i σ H,i<=xs.length->Pv i σ H->SqL K H a xs)
 (hs:∀i x σ H,xs[i]?=some x->Pv i σ H->g x σ H λσ2 H2=>tb { D with nx:=Pv (i+1),ct:=Pv (i+1),bk:=D.nx } σ2 H2) (hd:∀σ H,Pv xs.length σ H->D.nx σ H) :
 ∃W:Nat->Nat->St->Hp->Prop,(∃m,W 0 m σ H)/\∀i m σ H,W i m σ H ->
  ((Itl K a).stop i H/\D.nx σ H)\/((Itl K a).go i H/\∃N:St->Hp->Prop,(∀σ' H',N σ' H'->∃m',m'<m/\W (i+1) m' σ' H')/\∀x H',(Itl K a).yld i H x H'->g x σ H' λσ2 H2=>tb { D with nx:=N,ct:=N,bk:=D.nx } σ2 H2):=by
 refine⟨λi m σ H=>m=xs.length-i/\i<=xs.length/\Pv i σ H,⟨xs.length,by simp,Ps _,h0⟩,?_⟩;rintro i m σ H ⟨rfl,hi,p⟩;have q:=hl i σ H hi p;by_cases hlt:i<xs.length
 ·refine .inr ⟨⟨xs,xs[i],q,by simp[hlt]⟩,Pv (i+1),λσ' H' p'=>⟨xs.length-(i+1),by omega,rfl,hlt,p'⟩,λx H' y=>?_⟩;obtain⟨e,y⟩:=y;subst e;exact hs i x σ _ (y xs q) p
 ·have e:i=xs.length:=by omega
  subst e;exact .inl ⟨⟨xs,q,Pn _⟩,hd σ H p⟩
theorem J8{K:PySem.W.Frag}{a:Addr}{xs:List V}{g:TG}{tb:TS}{D:Ends}{σ:St}{H:Hp}(Pv:Nat->St->Hp->Prop)(h0:Pv 0 σ H)(hl:∀i σ H,i<=xs.length->Pv i σ H->SqT K H a xs)
 (hs:∀i x σ H,xs[i]?=some x->Pv i σ H->g x σ H λσ2 H2=>tb { D with nx:=Pv (i+1),ct:=Pv (i+1),bk:=D.nx } σ2 H2) (hd:∀σ H,Pv xs.length σ H->D.nx σ H) :
 ∃W:Nat->Nat->St->Hp->Prop,(∃m,W 0 m σ H)/\∀i m σ H,W i m σ H ->
  ((Itt K a).stop i H/\D.nx σ H)\/((Itt K a).go i H/\∃N:St->Hp->Prop,(∀σ' H',N σ' H'->∃m',m'<m/\W (i+1) m' σ' H')/\∀x H',(Itt K a).yld i H x H'->g x σ H' λσ2 H2=>tb { D with nx:=N,ct:=N,bk:=D.nx } σ2 H2):=by
 refine⟨λi m σ H=>m=xs.length-i/\i<=xs.length/\Pv i σ H,⟨xs.length,by simp,Ps _,h0⟩,?_⟩;rintro i m σ H ⟨rfl,hi,p⟩;have q:=hl i σ H hi p;by_cases hlt:i<xs.length
 ·refine .inr ⟨⟨xs,xs[i],q,by simp[hlt]⟩,Pv (i+1),λσ' H' p'=>⟨xs.length-(i+1),by omega,rfl,hlt,p'⟩,λx H' y=>?_⟩;obtain⟨e,y⟩:=y;subst e;exact hs i x σ _ (y xs q) p
 ·have e:i=xs.length:=by omega
  subst e;exact .inl ⟨⟨xs,q,Pn _⟩,hd σ H p⟩
theorem mS{lo:Int}{n:Nat}{g:TG}{tb:TS}{D:Ends}{σ:St}{H:Hp}(Pv:Nat->St->Hp->Prop)(h0:Pv 0 σ H)
 (hs:∀i σ H,i<n->Pv i σ H->g (.int (lo+i)) σ H λσ2 H2=>tb { D with nx:=Pv (i+1),ct:=Pv (i+1),bk:=D.nx } σ2 H2) (hd:∀σ H,Pv n σ H->D.nx σ H) :
 ∃W:Nat->Nat->St->Hp->Prop,(∃m,W 0 m σ H)/\∀i m σ H,W i m σ H ->
  ((Itr lo n).stop i H/\D.nx σ H)\/((Itr lo n).go i H/\∃N:St->Hp->Prop,(∀σ' H',N σ' H'->∃m',m'<m/\W (i+1) m' σ' H')/\∀x H',(Itr lo n).yld i H x H'->g x σ H' λσ2 H2=>tb { D with nx:=N,ct:=N,bk:=D.nx } σ2 H2):=by
 refine⟨λi m σ H=>m=n-i/\i<=n/\Pv i σ H,⟨n,by simp,Ps _,h0⟩,?_⟩;rintro i m σ H ⟨rfl,hi,p⟩;by_cases hlt:i<n
 ·refine .inr ⟨hlt,Pv (i+1),λσ' H' p'=>⟨n-(i+1),by omega,rfl,hlt,p'⟩,λx H' y=>?_⟩;obtain⟨e,y⟩:=y;subst e y;exact hs i σ _ hlt p
 ·have e:i=n:=by omega
  subst e;exact .inl ⟨Pn _,hd σ H p⟩
abbrev R2:=V->V->Hp->VK->Prop
noncomputable def OpR(X:Cx)(f:Value->Value->Sem Value)(r:R2):Prop :=
 ∀(pins:List (Addr×Obj)) (s:Shared) (σ:St) (H:Hp) (x y:V) (v u:Value) (Q:VK),Inv X pins σ H s->RelV x v->RelV y u->r x y H Q ->
  wpAny (model X.prog X.w) X.A (f v u) (EP X pins σ Q) X.xe s
noncomputable def UnR(X:Cx)(f:Value->Sem Value)(r:V->Hp->VK->Prop):Prop :=
 ∀(pins:List (Addr×Obj)) (s:Shared) (σ:St) (H:Hp) (x:V) (v:Value) (Q:VK),Inv X pins σ H s->RelV x v->r x H Q ->
  wpAny (model X.prog X.w) X.A (f v) (EP X pins σ Q) X.xe s
noncomputable def CallR(X:Cx)(f:Value)(r:List V->Hp->VK->Prop):Prop :=
 ∀(pins:List (Addr×Obj)) (s:Shared) (σ:St) (H:Hp) (xs:List V) (us:List Value) (Q:VK),Inv X pins σ H s->Vals xs us->r xs H Q ->
  wpAny (model X.prog X.w) X.A (call f us) (EP X pins σ Q) X.xe s
noncomputable def Mn(X:Cx)(r:V->Hp->(Bool->Hp->Prop)->Prop):Prop :=
 ∀(pins:List (Addr×Obj)) (s:Shared) (σ:St) (H:Hp) (x:V) (v:Value) (Q:Bool->Hp->Prop),Inv X pins σ H s->RelV x v->r x H Q ->
  wpAny (model X.prog X.w) X.A (truthy v) (TP X pins σ Q) X.xe s
def tOp(r:R2)(ta tb:TE):TE:=λσ H Q=>ta σ H λx H1=>tb σ H1 λy H2=>r x y H2 Q
def tUn(r:V->Hp->VK->Prop)(ta:TE):TE:=λσ H Q=>ta σ H λx H1=>r x H1 Q
def rI(C:Int->Int->Prop)(g:Int->Int->V):R2:=λx y H Q=>∃i j,x=.int i/\y=.int j/\C i j/\Q (g i j) H
def rI0(g:Int->Int->V):R2:=λx y H Q=>∃i j,x=.int i/\y=.int j/\Q (g i j) H
noncomputable def rU(g:Int->V):V->Hp->VK->Prop:=λx H Q=>∃i,x=.int i/\Q (g i) H
section
variable {X:Cx}{a b c:Expr}{ta tb tc:TE}{pos:Pos}
theorem vO(ha:PE X a ta)(hb:PE X b tb){pins:List (Addr×Obj)}{s:Shared}{σ:St}{H:Hp}{R:V->V->Hp->Prop}(I:Inv X pins σ H s)
 (h:ta σ H λx H1=>tb σ H1 λy H2=>R x y H2) {Q:Value->Shared->Prop} {f:Value->Value->Sem Value}
 (hf:∀v u s2 x y H2,Inv X pins σ H2 s2->RelV x v->RelV y u->R x y H2->wpAny (model X.prog X.w) X.A (f v u) Q X.xe s2) :
 wpAny (model X.prog X.w) X.A (eval a X.env) (λv s₁=>wpAny (model X.prog X.w) X.A (eval b X.env) (λu s₂=>wpAny (model X.prog X.w) X.A (f v u) Q X.xe s₂) X.xe s₁) X.xe s:=by
 refine thn (ha pins s σ H _ I h) λv s1 ⟨x,H1,I1,r1,q1⟩=>?_
 refine thn (hb pins s1 σ H1 _ I1 q1) λu s2 ⟨y,H2,I2,r2,q2⟩=>?_
 exact hf v u s2 x y H2 I2 r1 r2 q2
theorem ak{op:Operator}{r:R2}(ho:OpR X (binaryOp op) r)(ha:PE X a ta)(hb:PE X b tb):PE X (.BinOp a op b pos) (tOp r ta tb):=by intro pins s σ H Q I h;exact wpAny_BinOp (vO ha hb I h λv u s2 x y H2 I2 rx ry q=>ho pins s2 σ H2 x y v u Q I2 rx ry q)
theorem b7{op:UnaryOp}{r:V->Hp->VK->Prop}(ho:UnR X (unaryOp op) r)(ha:PE X a ta):PE X (.UnaryOp op a pos) (tUn r ta):=by intro pins s σ H Q I h;exact UnaryOp_ (thn (ha pins s σ H _ I h) λv s1 ⟨x,H1,I1,r1,q1⟩=>ho pins s1 σ H1 x v Q I1 r1 q1)
theorem opI{f:Value->Value->Sem Value}{C:Int->Int->Prop}{g:Int->Int->Int}
 (rule:∀(i j:Int) (t u:Tok) (s:Shared) (Q:Value->Shared->Prop) (E:Value->Shared->Prop),C i j->Q (.int (g i j) s.toks) { s with toks:=s.toks+1 }->wpAny (model X.prog X.w) X.A (f (.int i t) (.int j u)) Q E s) :
 OpR X f (rI C λi j=>.int (g i j)):=by
 intro pins s σ H x y v u Q I rx ry h;obtain⟨i,j,rfl,rfl,hc,q⟩:=h;obtain⟨t,rfl⟩:=rx;obtain⟨t',rfl⟩:=ry;exact rule i j t t' s _ _ hc ⟨.int (g i j),H,I.tok _,⟨_,rfl⟩,q⟩
theorem zu{f:Value->Value->Sem Value}{g:Int->Int->Int}
 (rule:∀(i j:Int) (t u:Tok) (s:Shared) (Q:Value->Shared->Prop) (E:Value->Shared->Prop),Q (.int (g i j) s.toks) { s with toks:=s.toks+1 }->wpAny (model X.prog X.w) X.A (f (.int i t) (.int j u)) Q E s) :
 OpR X f (rI0 λi j=>.int (g i j)):=by
 intro pins s σ H x y v u Q I rx ry h;obtain⟨i,j,rfl,rfl,q⟩:=h;obtain⟨t,rfl⟩:=rx;obtain⟨t',rfl⟩:=ry;exact rule i j t t' s _ _ ⟨.int (g i j),H,I.tok _,⟨_,rfl⟩,q⟩
theorem kj{f:Value->Value->Sem Value}{g:Int->Int->Bool}
 (rule:∀(i j:Int) (t u:Tok) (s:Shared) (Q:Value->Shared->Prop) (E:Value->Shared->Prop),Q (.bool (g i j)) s->wpAny (model X.prog X.w) X.A (f (.int i t) (.int j u)) Q E s) :
 OpR X f (rI0 λi j=>.bl (g i j)):=by
 intro pins s σ H x y v u Q I rx ry h;obtain⟨i,j,rfl,rfl,q⟩:=h;obtain⟨t,rfl⟩:=rx;obtain⟨t',rfl⟩:=ry;exact rule i j t t' s _ _ ⟨.bl (g i j),H,I,rfl,q⟩
def NN(i j:Int):Prop:=0<=j/\j<=1000000/\i.natAbs<2^64
def CMul(i j:Int):Prop:=(-(2^64)<i/\i<2^64)\/(-(2^64)<j/\j<2^64)
theorem CMul.ok{i j:Int}(h:CMul i j):IntMulOk i j:=by
 rcases h with⟨h1,h2⟩ |⟨h1,h2⟩
 ·exact .of_left (intBits_le_64 h1 h2)
 ·exact .of_right (intBits_le_64 h1 h2)
theorem b9:OpR X (binaryOp .Add) (rI0 λi j=>.int (i+j)):=zu λ_ _ _ _ _ _ _ q=>add_int q
theorem cz:OpR X (binaryOp .Sub) (rI0 λi j=>.int (i-j)):=zu λ_ _ _ _ _ _ _ q=>sub_int q
theorem FW:OpR X (binaryOp .Mod) (rI (λ_ j=>0<j) λi j=>.int (i%j)):=opI λi j _ _ _ _ _ hc q=>by have h1:(0:Int)<j:=hc;exact mod_int' (by omega) (by rw[Int.fmod_eq_emod_of_nonneg i (by omega)];exact q)
theorem oN:OpR X (binaryOp .Pow) (rI NN λi j=>.int (i^j.toNat)):=opI λ_ _ _ _ _ _ _ hc q=>pow_int_small hc.1 hc.2.1 hc.2.2 q
theorem unI{f:Value->Sem Value}{g:Int->Int}
 (rule:∀(i:Int) (t:Tok) (s:Shared) (Q:Value->Shared->Prop) (E:Value->Shared->Prop),Q (.int (g i) s.toks) { s with toks:=s.toks+1 }->wpAny (model X.prog X.w) X.A (f (.int i t)) Q E s) :
 UnR X f (rU λi=>.int (g i)):=by
 intro pins s σ H x v Q I rx h;obtain⟨i,rfl,q⟩:=h;obtain⟨t,rfl⟩:=rx;exact rule i t s _ _ ⟨.int (g i),H,I.tok _,⟨_,rfl⟩,q⟩
theorem bV:UnR X (unaryOp .USub) (rU λi=>.int (-i)):=unI λ_ _ _ _ _ q=>neg_int q
end
section
variable {X:Cx}{a b c:Expr}{ta tb tc:TE}{pos:Pos}
theorem J9{pins:List (Addr×Obj)}{σ:St}{H:Hp}{s:Shared}{Q:VK}{k k':Bool}(I:Inv X pins σ H s)(q:Q (.bl k) H)(e:k=k'):EP X pins σ Q (.bool k') s:=by subst e;exact⟨.bl k,H,I,rfl,q⟩
theorem dL:OpR X (compareOp .Lt) (rI0 λi j=>.bl (decide (i<j))):=kj λ_ _ _ _ _ _ _ q=>lt_int q
theorem oO:OpR X (compareOp .LtE) (rI0 λi j=>.bl (decide (i<=j))):=kj λ_ _ _ _ _ _ _ q=>le_int q
theorem dD:OpR X (compareOp .Gt) (rI0 λi j=>.bl (decide (j<i))):=kj λ_ _ _ _ _ _ _ q=>gt_int q
theorem oP:OpR X (compareOp .GtE) (rI0 λi j=>.bl (decide (j<=i))):=kj λ_ _ _ _ _ _ _ q=>ge_int q
theorem zq:OpR X (compareOp .Is) (λx y H Q=>y=.non/\Q (.bl (decide (x=.non))) H):=by
 intro pins s σ H x y v u Q I rx ry h;obtain⟨rfl,q⟩:=h;cases ry;refine is_none_gen (J9 I q ?_)
 cases x<;>first
  | (cases rx;rfl)
  | (obtain⟨t,rfl⟩:=rx;rfl)
theorem OpR.or{f:Value->Value->Sem Value}{r r':R2}(h:OpR X f r)(h':OpR X f r'):OpR X f (λx y H Q=>r x y H Q\/r' x y H Q):=by
 intro pins s σ H x y v u Q I rx ry q;rcases q with q |q
 ·exact h pins s σ H x y v u Q I rx ry q
 ·exact h' pins s σ H x y v u Q I rx ry q
theorem aI(b:Expr){op:CmpOp}(h:op≠.In:=by decide)(h2:op≠.NotIn:=by decide):behindInMarks op b=false:=by
 have e1:(op == CmpOp.In)=false:=by cases op<;>first |rfl |exact absurd rfl h
 have e2:(op == CmpOp.NotIn)=false:=by cases op<;>first |rfl |exact absurd rfl h2
 cases b<;>simp[behindInMarks,e1,e2]
theorem iZ{op:CmpOp}{r:R2}(ho:OpR X (compareOp op) r)(ha:PE X a ta)(hb:PE X b tb)(hm:behindInMarks op b=false):PE X (.Compare a [op] [b] pos) (tOp r ta tb):=by intro pins s σ H Q I h;exact wpAny_Compare1 (vO ha hb I h λv u s2 x y H2 I2 rx ry q=>ho pins s2 σ H2 x y v u Q I2 rx ry q) hm
def Dn(t:TE):TT:=λσ H Q=>t σ H λx H'=>∃k,x=.bl k/\Q k H'
theorem aJ{op:CmpOp}{r:R2}(ho:OpR X (compareOp op) r)(ha:PE X a ta)(hb:PE X b tb)(hm:behindInMarks op b=false):PT X (.Compare a [op] [b] pos) (Dn (tOp r ta tb)):=by
 intro pins s σ H Q I h
 refine wpAny_isTrue_Compare1 (thn (ha pins s σ H _ I h) λv s1 ⟨x,H1,I1,r1,q1⟩=>thn (hb pins s1 σ H1 _ I1 q1) λu s2 ⟨y,H2,I2,r2,q2⟩ =>thn (ho pins s2 σ H2 x y v u _ I2 r1 r2 q2) λc s3 ⟨z,H3,I3,r3,k,e,q3⟩=>?_) hm
 subst e;cases r3;exact wpAny_truthy_bool ⟨H3,I3,q3⟩
noncomputable def Cq(K:PySem.W.Frag)(x:V)(H:Hp)(k:Bool):Prop :=
 match x with
 |.non=>k=false
 |.bl b=>k=b
 |.int i=>k=(i != 0)
 |.str y=>y.length<=sizeLine/\k=((y.length:Int) != 0)
 |.byt y=>y.size<=sizeLine/\k=((y.size:Int) != 0)
 |.ref p=>(∃xs,SqL K H p xs/\k=!xs.isEmpty)\/(∃xs,SqT K H p xs/\k=!xs.isEmpty)\/∃kvs,H p=some (.dK kvs)/\k=!kvs.isEmpty
 |_=>False
theorem JD{κ:Type}{kvs:List (κ×V)}{vs:List (κ×Value)}(r:KV kvs vs):(!vs.isEmpty)=!kvs.isEmpty:=by cases r<;>rfl
theorem AF{xs:List V}{its:List Value}(r:Vals xs its):(!its.toArray.isEmpty)=!xs.isEmpty:=by cases r<;>simp
theorem mG:(sizeLine:Nat)<2^63:=by rw[sizeLine_eq];decide
theorem CU:Mn X (λx H Q=>∃k,Cq X.K x H k/\Q k H):=by
 intro pins s σ H x v Q I rx h;obtain⟨k,e,q⟩:=h;have hl:=mG;have hs:sizeLine=16777216:=sizeLine_eq;cases x with
 |non =>cases rx;have e':k=false:=e;subst e';exact truthy_none ⟨H,I,q⟩
 |bl b =>cases rx;have e':k=b:=e;subst e';exact wpAny_truthy_bool ⟨H,I,q⟩
 |int i =>obtain⟨t,rfl⟩:=rx;have e':k=(i != 0):=e;subst e';exact PySem.P.truthy_int ⟨H,I,q⟩
 |str y =>obtain⟨t,rfl⟩:=rx;obtain⟨hy,e'⟩:y.length<=sizeLine/\k=((y.length:Int) != 0):=e;subst e';exact PySem.P.truthy_str (by omega) ⟨H,I.tok _,q⟩
 |byt y =>obtain⟨t,rfl⟩:=rx;obtain⟨hy,e'⟩:y.size<=sizeLine/\k=((y.size:Int) != 0):=e;subst e';exact PySem.W.truthy_bytes (by omega) ⟨H,I.tok _,q⟩
 |ref p =>
  cases rx;have e':(∃xs,SqL X.K H p xs/\k=!xs.isEmpty)\/(∃xs,SqT X.K H p xs/\k=!xs.isEmpty)\/∃kvs,H p=some (.dK kvs)/\k=!kvs.isEmpty:=e;rcases e' with⟨xs,hx,e'⟩ |⟨xs,hx,e'⟩ |⟨kvs,hx,e'⟩
  ·subst e';obtain⟨its,r,pl,hz⟩:=I.list hx;have hlen:=r.length;exact wpAny_truthy_list pl.isList (by simp only[P4];omega) ⟨H,I.tok _,by rw[AF r];exact q⟩
  ·subst e';obtain⟨its,r,pl,hz⟩:=I.tuple hx;have hlen:=r.length;exact truthy_tuple pl (by simp only[P4];omega) ⟨H,I.tok _,by rw[AF r];exact q⟩
  ·subst e';obtain⟨hz,hS,vs,r,m⟩:kvs.length<=sizeLine/\(p == sysModules)=false/\∃vs,KV kvs vs/\s.heap.DictOf (uw X.prog X.w) p vs:=I.hok p _ hx;have hlen:kvs.length=vs.length:=Paired.length r;exact wpAny_truthy_dict hS m (by omega) ⟨H,I.tok _,by rw[JD r];exact q⟩
 |_=>exact(show False from e).elim
theorem Fu(ha:PE X a ta)(he:∀whole,isTrue a X.env whole=(do let v <- whole;standAt a.pos;holding [v] (truthy v))) :
 PT X a (λσ H Q=>ta σ H λx H'=>∃k,Cq X.K x H' k/\Q k H'):=by
 intro pins s σ H Q I h;exact isTrue_plain (thn (ha pins s σ H _ I h) λv s1 ⟨x,H1,I1,r1,q1⟩=>CU pins s1 σ H1 x v Q I1 r1 q1) (he _)
theorem hJ{x:V}{us:List Value}(r:Vals [x] us):∃u,us=[u]/\RelV x u:=by
 cases r with
 |cons r1 r2=>cases r2;exact⟨_,rfl,r1⟩
theorem CI{x y:V}{us:List Value}(r:Vals [x,y] us):∃u w',us=[u,w']/\RelV x u/\RelV y w':=by
 cases r with
 |cons r1 r2 =>
  cases r2 with
  |cons r3 r4=>cases r4;exact⟨_,_,rfl,r1,r3⟩
theorem gU:CallR X (.builtin "abs") (λxs H Q=>∃i,xs=[.int i]/\Q (.int (if i<0 then -i else i)) H):=by intro pins s σ H xs us Q I r h;obtain⟨i,rfl,q⟩:=h;obtain⟨u,rfl,t,rfl⟩:=hJ r;exact call_abs_int λu tk=>⟨.int (if i<0 then -i else i),H,I.tok _,⟨_,rfl⟩,q⟩
theorem B6(hc:X.calm=true):CallR X (.builtin "max") (λxs H Q=>∃i j,xs=[.int i,.int j]/\Q (.int (if j>i then j else i)) H):=by
 intro pins s σ H xs us Q I r h;obtain⟨i,j,rfl,q⟩:=h;obtain⟨u,w',rfl,⟨t,rfl⟩,⟨t',rfl⟩⟩:=CI r;refine max_two_ints (I.ok.hd hc) λh' tk k=>⟨_,H,I.kept k,?_,q⟩
 by_cases hj:j>i
 ·rw[if_pos hj,if_pos hj];exact⟨_,rfl⟩
 ·rw[if_neg hj,if_neg hj];exact⟨_,rfl⟩
theorem pZ:CallR X (.type "int") (λxs H Q=>(∃i,xs=[.int i]/\Q (.int i) H)\/∃k,xs=[.bl k]/\Q (.int (if k then 1 else 0)) H):=by
 intro pins s σ H xs us Q I r h;rcases h with⟨i,rfl,q⟩ |⟨k,rfl,q⟩
 ·obtain⟨u,rfl,t,rfl⟩:=hJ r;exact call_int_int ⟨.int i,H,I,⟨_,rfl⟩,q⟩
 ·obtain⟨u,rfl,r1⟩:=hJ r;cases r1;exact call_int_bool ⟨.int (if k then 1 else 0),H,I.tok _,⟨_,rfl⟩,q⟩
end
structure ObjM(h:Heap)(x dx C:Addr)(mA:Str->Option Value):Prop where
 obj:h.get? x=some (PySem.W.instObj C dx)
 ns:h.Ns1 dx mA
 ne:dx≠x
theorem IK{h:Heap}{dx:Addr}{mA:Str->Option Value}(n:h.Ns1 dx mA):∃od,h.get? dx=some od/\∀name,PySem.W.lookIn name od=some (mA name):=by
 obtain⟨o,es,ep,ho,hd,hk,_,hm⟩:=n;refine⟨o,ho,λname=>?_⟩;have e:=hm name;unfold nsFind findBy at e
 rw[<- Array.find?_toList]at e;unfold PySem.W.lookIn;rw[hd];dsimp only
 split
 ·rename_i y q
  rw[q]at e;exact congrArg some e
 ·rename_i q
  rw[q]at e
  have a:es.toList.any (·.refKey)=false:=by rw[List.any_eq_false];intro y hy;obtain⟨z,t,hkey⟩:=hk y (Array.mem_toList_iff.mp hy);simp[DictEntry.refKey,hkey]
  have a':¬es.toList.any (·.refKey)=true:=by rw[a];exact Ra
  rw[if_neg a'];exact congrArg some e
theorem ObjM.look{h:Heap}{x dx C:Addr}{mA:Str->Option Value}(I:ObjM h x dx C mA):∃od,PySem.W.InstAt h x (PySem.W.instObj C dx) C (some od)/\∀name,PySem.W.lookIn name od=some (mA name) :=
 let⟨od,ho,hl⟩:=IK I.ns
 ⟨od,⟨I.obj,rfl,rfl,ho⟩,hl⟩
section
variable {prog:Program}{w:World}{A:Around}{E:Value->Shared->Prop}{s:Shared}{K:PySem.W.Frag}{x dx C f:Addr}{mA:Str->Option Value}{name:Str}{v:Value}
theorem JZ{expr:Bool}{Q:Value->Shared->Prop}(X:K.In s.heap)(I:ObjM s.heap x dx C mA)(hg:PySem.W.plainGet K C name=true)(hh:PySem.W.hasDictIn K C=true)
 (ha:PySem.W.findIn K (.ref C) name=some none) (hv:mA name=some v) (hv':PySem.W.handedIn v=true) (h:Q v { s with toks:=s.toks+1 }) :
 wpAny (model prog w) A (getAttr (.ref x) name expr) Q E s:=by
 obtain⟨od,J,hl⟩:=I.look;exact PySem.W.get_value X J (PySem.W.plainGet_of hg).1 (PySem.W.findObj_own hh ha rfl (by rw[hl,hv])) hv' h
theorem JY{pl:Sem Bool}{Q:Value×List Value->Shared->Prop}(X:K.In s.heap)(I:ObjM s.heap x dx C mA)(hg:PySem.W.plainGet K C name=true)
 (hf:PySem.W.findIn K (.ref C) name=some (some (.ref f))) (ht:PySem.W.isFn K (.ref f)=true) (hv:mA name=none) (h:Q (.ref f,[.ref x]) s) :
 wpAny (model prog w) A (getMethod (.ref x) name pl) Q E s:=by
 obtain⟨od,J,hl⟩:=I.look;exact PySem.W.method_fn X J (PySem.W.plainGet_of hg).1 (PySem.W.plainGet_of hg).2 hf (beq_iff_eq.mp ht) (by show(PySem.W.lookIn name od).map (·.isSome)=some false;rw[hl,hv];rfl) h
theorem rd{ns:List Str}{Q:Unit->Shared->Prop}(X:K.In s.heap)(I:ObjM s.heap x dx C mA)
 (hs:PySem.W.findIn K (.ref C) "__setattr__"=some (some (.builtin "object.__setattr__"))) (hp:PySem.W.plainOver K C=true) (ht:PySem.W.takerIn K C name=some none) (hh:PySem.W.hasDictIn K C=true)
 (hw:PySem.Within mA ns) (hsz:ns.length<=sizeLine)
 (h:∀h',ObjM h' x dx C (λy=>if y=name then some v else mA y)->Heap.SameBut dx s.heap h'->Q () { s with heap:=h',toks:=s.toks+2 }) :
 wpAny (model prog w) A (setAttr (.ref x) name v) Q E s:=by
 obtain⟨od,J,hl⟩:=I.look;refine PySem.W.set_plain X J hs (PySem.W.osa_open (s:={ s with toks:=s.toks+1 }) (r:=none) X J hp ht λb=>?_);obtain⟨cd,hc,hd'⟩:=PySem.W.any_some hh;have hx:s.heap.get? x=some ⟨.ref C,some dx,.plain,#[]⟩:=I.obj;refine wpAny_bind (wpAny_pure (wpAny_bind (wpAny_bind (wpAny_loadPart hx (wpAny_bind (PySem.W.Looks.here (s:={ s with toks:=s.toks+1 }) (PySem.W.looks_clsIn X hc) ?_))))));rw[hd'];refine wpAny_pure (a:=some dx) (wpAny_bind (wpAny_pure (wpAny_bind ?_)));refine wpAny_nsSet1 (s:={ s with toks:=s.toks+1 }) I.ns λh' hn2 hs2=>?_
 obtain⟨oD,esD,epD,hoD,hdD,hcD⟩:=hn2.count (PySem.Within.cons name v hw);refine wpAny_bind (wpAny_lookBehind hoD (by rw[hdD];exact pastItsLine_dict (PM hcD (by rw[Qi];omega))) ?_);exact wpAny_pure (h _ ⟨(hs2.2 _ (Ne.symm I.ne)).trans I.obj,hn2,I.ne⟩ hs2)
theorem HW{R:Result->Shared->Prop}{vs:List Value}{kw:List (Str×Value)}(X:K.In s.heap)(hm:PySem.W.makesIn K C=true)
 (hi:PySem.W.findIn K (.ref C) "__init__"=some (some (.ref f))) (hf:PySem.W.typeIn K (.ref f)=some (.type "function"))
 (h:codeAny (model prog w) (A.under (.builtin "type.__call__" ⟨.ref C::vs,kw⟩)) (.call (.ref f) ⟨.ref (s.heap.objs.size+1)::vs,kw⟩) (PySem.W.InitBack (s.heap.objs.size+1) R)
   { s with heap:=(s.heap.push PySem.W.emptyDict).push (PySem.W.instObj C s.heap.objs.size) }) :
 codeAny (model prog w) A (.call (.ref C) ⟨vs,kw⟩) R s:=by
 obtain⟨hh,g,d,t,os⟩:=s;exact PySem.W.make_core (PySem.W.makes_of X hm) (PySem.W.looks_findIn X hi) (λself=>PySem.W.bind_fn X self hf) (.inl rfl) h
end
noncomputable def cP(f:Str)(v:V):List (Str×V)->List (Str×V)
 | []=>[(f,v)]
 | (g,x)::r=>if g=f then(g,v)::r else(g,x)::cP f v r
theorem d7(f g:Str)(v:V):∀fs:List (Str×V),(cP f v fs).lookup g=if g=f then some v else fs.lookup g
 | []=>by
  show List.lookup g [(f,v)]=_;by_cases h:g=f
  ·have hb:(g == f)=true:=beq_iff_eq.mpr h;simp only[List.lookup,hb,if_pos h]
  ·have hb:(g == f)=false:=beq_eq_false_iff_ne.mpr h;simp only[List.lookup,hb,if_neg h]
 | (k,x)::r=>by
  have ih:=d7 f g v r;rw[show cP f v ((k,x)::r)=(if k=f then(k,v)::r else(k,x)::cP f v r)from rfl];by_cases hk:k=f
  ·rw[if_pos hk];by_cases h:g=k
   ·have hb:(g == k)=true:=beq_iff_eq.mpr h;simp only[List.lookup,hb,if_pos (h.trans hk)]
   ·have hb:(g == k)=false:=beq_eq_false_iff_ne.mpr h;simp only[List.lookup,hb,if_neg (λe:g=f=>h (e.trans hk.symm))]
  ·rw[if_neg hk];by_cases h:g=k
   ·have hb:(g == k)=true:=beq_iff_eq.mpr h;simp only[List.lookup,hb,if_neg (λe:g=f=>hk (h.symm.trans e))]
   ·have hb:(g == k)=false:=beq_eq_false_iff_ne.mpr h;simp only[List.lookup,hb];exact ih
theorem uM(f:Str)(v:V):∀fs:List (Str×V),f∈(cP f v fs).map (·.1)/\∀g,g∈fs.map (·.1)->g∈(cP f v fs).map (·.1)
 | []=>⟨by simp[cP],λg h=>by simp at h⟩
 | (k,x)::r=>by
  obtain⟨i1,i2⟩:=uM f v r;rw[show cP f v ((k,x)::r)=(if k=f then(k,v)::r else(k,x)::cP f v r)from rfl];by_cases hk:k=f
  ·rw[if_pos hk];subst hk;exact⟨by simp,λg h=>by simpa using h⟩
  ·rw[if_neg hk];refine⟨?_,λg h=>?_⟩
   ·rw[Qp];exact Pz _ i1
   ·rw[Qp]at h ⊢;rcases Pu.mp h with e |e
    ·exact Pu.mpr (.inl e)
    ·exact Pz _ (i2 g e)
theorem Ap(f:Str)(v:V):∀fs:List (Str×V),(cP f v fs).length<=fs.length+1
 | []=>by simp[cP]
 | (k,x)::r=>by
  have ih:=Ap f v r;rw[show cP f v ((k,x)::r)=(if k=f then(k,v)::r else(k,x)::cP f v r)from rfl];by_cases hk:k=f
  ·rw[if_pos hk,Qi,Qi];omega
  ·rw[if_neg hk,Qi,Qi];omega
theorem RelO.some_of{v:V}{o:Option Value}(r:RelO (some v) o):∃u,o=some u/\RelV v u:=by
 cases o with
 |none=>exact(show False from r).elim
 |some u=>exact⟨u,rfl,r⟩
theorem RelO.none_of{o:Option Value}(r:RelO none o):o=none:=by
 cases o with
 |none=>rfl
 |some u=>exact(show False from r).elim
theorem JQ{v:V}{u:Value}(r:RelV v u):PySem.W.handedIn u=true:=by
 cases v with
 |non=>cases(show u=Value.none from r);rfl
 |bl b=>cases(show u=Value.bool b from r);rfl
 |int i=>obtain⟨t,e⟩:=(show ∃t,u=Value.int i t from r);cases e;rfl
 |str x=>obtain⟨t,e⟩:=(show ∃t,u=Value.str x t from r);cases e;rfl
 |byt b=>obtain⟨t,e⟩:=(show ∃t,u=Value.bytes b t from r);cases e;rfl
 |flt b=>obtain⟨t,e⟩:=(show ∃t,u=Value.float b t from r);cases e;rfl
 |ref a=>cases(show u=Value.ref a from r);rfl
 |ty n=>cases(show u=Value.type n from r);rfl
section
variable {P:Program}{w:World}{H H':Hp}{h h':Heap}{a C dx:Addr}{fs fs':List (Str×V)}
theorem pi(hok:HOk P w H h)(e:H a=some (.ins C dx fs)):∃mA,ObjM h a dx C mA/\(∀f,RelO (fs.lookup f) (mA f))/\PySem.Within mA (fs.map (·.1))/\fs.length<=1000/\H dx=some (.own a):=by obtain⟨d,z,ne,ob,mA,n,r,q⟩:=(show ObjOk P w H h a (.ins C dx fs)from hok a _ e);exact⟨mA,⟨ob,n,ne⟩,r,q,z,d⟩
end
structure Cls(K:PySem.W.Frag)(C:Addr):Prop where
 pg:PySem.W.plainGet K C Str.empty=true
 hd:PySem.W.hasDictIn K C=true
 po:PySem.W.plainOver K C=true
 sa:PySem.W.findIn K (.ref C) "__setattr__"=some (some (.builtin "object.__setattr__"))
theorem Cls.get{K:PySem.W.Frag}{C:Addr}(c:Cls K C)(f:Str):PySem.W.plainGet K C f=true:=c.pg
def NoAttr(K:PySem.W.Frag)(C:Addr)(f:Str):Prop:=PySem.W.findIn K (.ref C) f=some none
theorem NoAttr.taker{K:PySem.W.Frag}{C:Addr}{f:Str}(n:NoAttr K C f):PySem.W.takerIn K C f=some none:=by unfold PySem.W.takerIn;rw[show PySem.W.findIn K (.ref C) f=some none from n];rfl
structure Meth(K:PySem.W.Frag)(C:Addr)(m:Str)(f:Addr):Prop where
 at_:PySem.W.findIn K (.ref C) m=some (some (.ref f))
 fn:PySem.W.isFn K (.ref f)=true
 kp:PySem.W.keepIn K (.ref f)=true
section
variable {X:Cx}{pins:List (Addr×Obj)}{σ:St}{H:Hp}{s:Shared}{a C dx:Addr}{fs:List (Str×V)}{f:Str}{v:V}{A:Around}{E:Value->Shared->Prop}
theorem JX{b:Bool}{Q:Value->Shared->Prop}(I:Inv X pins σ H s)(e:H a=some (.ins C dx fs))(c:Cls X.K C)(n:NoAttr X.K C f)(l:fs.lookup f=some v)
 (h:∀u s',Inv X pins σ H s'->RelV v u->Q u s'):wpAny (model X.prog X.w) A (getAttr (.ref a) f b) Q E s:=by
 obtain⟨mA,O,r,_,_,_⟩:=pi I.hok e;obtain⟨u,hu,ru⟩:=RelO.some_of (v:=v) (o:=mA f) (by rw[<- l];exact r f);exact JZ I.kIn O (c.get f) c.hd n hu (JQ ru) (h u _ (I.tok _) ru)
theorem AW{m:Str}{g:Addr}{pl:Sem Bool}{Q:Value×List Value->Shared->Prop}(I:Inv X pins σ H s)(e:H a=some (.ins C dx fs))(c:Cls X.K C)(k:Meth X.K C m g)(l:fs.lookup m=none)
 (h:Q (.ref g,[.ref a]) s):wpAny (model X.prog X.w) A (getMethod (.ref a) m pl) Q E s:=by
 obtain⟨mA,O,r,_,_,_⟩:=pi I.hok e;have hn:mA m=none:=RelO.none_of (by rw[<- l];exact r m);exact JY I.kIn O (c.get m) k.at_ k.fn hn h
theorem D3{y:V}{u:Value}{Q:Unit->Shared->Prop}(I:Inv X pins σ H s)(e:H a=some (.ins C dx fs))(c:Cls X.K C)(n:NoAttr X.K C f)(hl:fs.length<1000)(ry:RelV y u)
 (h:∀s',Inv X pins σ (upd H a (.ins C dx (cP f y fs))) s'->Q () s'):wpAny (model X.prog X.w) A (setAttr (.ref a) f u) Q E s:=by
 obtain⟨mA,O,r,wi,_,ho⟩:=pi I.hok e;have hz:(fs.map (·.1)).length<=sizeLine:=by rw[Pk,sizeLine_eq];omega
 refine rd I.kIn O c.sa c.po n.taker c.hd wi hz λh' O' sb=>h _ ?_
 have hd:∃o,h'.get? dx=some o:=let⟨o,_,_,e',_⟩:=O'.ns;⟨o,e'⟩;refine I.write (x:=a) (e:=dx) (by rw[e];exact True.intro) (.inr ho) (λb q hb z=>(sb.2 b hb).trans z) hd ?_;refine⟨by rw[upd_ne O.ne];exact ho,?_,O.ne,O'.obj,_,O'.ns,λg=>?_,λg hg=>?_⟩
 ·have:=Ap f y fs;omega
 ·show RelO ((cP f y fs).lookup g) (if g=f then some u else mA g);rw[d7];by_cases q:g=f
  ·rw[if_pos q,if_pos q];exact ry
  ·rw[if_neg q,if_neg q];exact r g
 ·by_cases q:g=f
  ·rw[q];exact(uM f y fs).1
  ·refine(uM f y fs).2 g (wi g λz=>hg ?_);show(if g=f then some u else mA g)=none;rw[if_neg q];exact z
theorem Inv.made(I:Inv X pins σ H s):Inv X pins σ (upd (upd H s.heap.objs.size (.own (s.heap.objs.size+1))) (s.heap.objs.size+1) (.ins C s.heap.objs.size []))
 { s with heap:=(s.heap.push PySem.W.emptyDict).push (PySem.W.instObj C s.heap.objs.size) }:=by
 have e1:(s.heap.push PySem.W.emptyDict).get? s.heap.objs.size=some PySem.W.emptyDict:=Heap.get?_push_size s.heap rfl
 have e2:((s.heap.push PySem.W.emptyDict).push (PySem.W.instObj C s.heap.objs.size)).get? (s.heap.objs.size+1)=some (PySem.W.instObj C s.heap.objs.size):=by
  have:=Heap.get?_push_size (s.heap.push PySem.W.emptyDict) (o:=PySem.W.instObj C s.heap.objs.size) rfl
  rwa [Heap.size_push]at this
 have e3:(s.heap.push PySem.W.emptyDict).Ns s.heap.objs.size (λ_=>none):=⟨PySem.W.emptyDict,#[],_,e1,rfl,(λe he=>absurd he (by simp)),λ_=>rfl⟩;have I1:=I.laid (a:=s.heap.objs.size) (o:=.own (s.heap.objs.size+1)) (h':=s.heap.push PySem.W.emptyDict) (t':=s.toks) (λb u q=>Heap.get?_push_of_some _ q) (Pn _) ⟨_,e1⟩;refine I1.laid (a:=s.heap.objs.size+1) (o:=.ins C s.heap.objs.size []) (t':=s.toks) (λb u q=>Heap.get?_push_of_some _ q) (QV (Heap.size_push _ _)) ?_;have ne:s.heap.objs.size≠s.heap.objs.size+1:=Qb (QJ _);refine⟨by rw[upd_ne ne,au],Ps _,ne,e2,λ_=>none,(Heap.Ns1.of_empty e3).at λo q=>Heap.get?_push_of_some _ q,λ_=>True.intro,λy hy=>absurd rfl hy⟩
theorem Me{prog:Program}{w:World}{env:Env}{e:Expr}{f:Str}{pos:Pos}{s:Shared}{Q:Value->Shared->Prop}(hb:attributeBase e f env (eval e env)=eval e env)
 (h:wpAny (model prog w) A (eval e env) (λo s₁=>wpAny (model prog w) A (getAttr o f true) Q E s₁) E s):wpAny (model prog w) A (eval (.Attribute e f pos) env) Q E s :=
 Attribute_any_ h (by rw[arm_eval_Attribute,hb])
end
def xo(K:PySem.W.Frag)(ta:TE)(f:Str):TE:=λσ H Q=>ta σ H λx H1=>∃a C dx fs v,x=.ref a/\H1 a=some (.ins C dx fs)/\Cls K C/\NoAttr K C f/\fs.lookup f=some v/\Q v H1
def ED(K:PySem.W.Frag)(ta tv:TE)(f:Str):TS:=λD σ H=>tv σ H λy H1=>ta σ H1 λx H2=>∃a C dx fs,x=.ref a/\H2 a=some (.ins C dx fs)/\Cls K C/\NoAttr K C f/\fs.length<1000 /\
 D.nx σ (upd H2 a (.ins C dx (cP f y fs)))
section
variable {X:Cx}{o e value:Expr}{f:Str}{pos pos' tpos:Pos}{ta tv:TE}
theorem FR(he:PE X e ta)(hb:attributeBase e f X.env (eval e X.env)=eval e X.env):PE X (.Attribute e f pos) (xo X.K ta f):=by intro pins s σ H Q I h;refine Me hb (thn (he pins s σ H _ I h) λu s1 ⟨x,H1,I1,rx,a,C,dx,fs,v,ex,ea,c,n,l,q⟩=>?_);subst ex;obtain rfl:u=Value.ref a:=rx;exact JX I1 ea c n l λu' s2 I2 ru=>⟨v,H1,I2,ru,q⟩
theorem lQ(ha:PE X o ta)(hv:PE X value tv)(hs:swapsWith value (some (.Attribute o f pos')) pos.line X.env=pure false):PS X (.Assign [.Attribute o f pos'] value pos) (ED X.K ta tv f):=by intro pins s σ H D I h;refine plainObj_wpAny_Assign_Attribute (thn (hv pins s σ H _ I h) λu s1 ⟨y,H1,I1,ry,q⟩=>thn (ha pins s1 σ H1 _ I1 q) λov s2 ⟨x,H2,I2,rx,a,C,dx,fs,ex,ea,c,n,l,q2⟩=>?_) hs;subst ex;obtain rfl:ov=Value.ref a:=rx;exact D3 I2 ea c n l ry λs3 I3=>⟨σ,_,I3,q2⟩
end
section
variable {X:Cx}{pins:List (Addr×Obj)}{σ:St}{H:Hp}{s:Shared}{A:Around}{E:Value->Shared->Prop}{Q:Value->Shared->Prop}{c:Value}{b:Bool}
inductive TyOf(K:PySem.W.Frag)(H:Hp):V->Value->Prop where
 |non:TyOf K H .non (.type "NoneType")
 |bl (x:Bool):TyOf K H (.bl x) (.type "bool")
 |int (i:Int):TyOf K H (.int i) (.type "int")
 |str (x:Str):TyOf K H (.str x) (.type "str")
 |flt (x:UInt64):TyOf K H (.flt x) (.type "float")
 |lst {a:Addr} {xs:List V} (e:H a=some (.lst xs)):TyOf K H (.ref a) (.type "list")
 |frz {a:Addr} {o:Obj} {xs:List V} (e:H a=some (.frz o (.lst xs))):TyOf K H (.ref a) (.type "list")
 |tup {a:Addr} {xs:List V} (e:H a=some (.tup xs)):TyOf K H (.ref a) (.type "tuple")
 |dK {a:Addr} {kvs:List (Key×V)} (e:H a=some (.dK kvs)):TyOf K H (.ref a) (.type "dict")
 |dT {a:Addr} {kvs:List (List Key×V)} (e:H a=some (.dT kvs)):TyOf K H (.ref a) (.type "dict")
 |ins {a C dx:Addr} {fs:List (Str×V)} (e:H a=some (.ins C dx fs)) (cl:Cls K C) (ha:PySem.W.findIn K (.ref C) "__class__"=some (some (.builtin "object.__class__")))
  (hn:PySem.W.specialIn K (.builtin "object.__class__") "__get__"=some (some (.builtin "getset_descriptor.__get__"))) (htk:PySem.W.takesIn K (.builtin "object.__class__")=some true)
  (hm:PySem.W.mroIn K C (.type "object")=some true):TyOf K H (.ref a) (.ref C)
theorem JC{x:V}{u t:Value}(I:Inv X pins σ H s)(rx:RelV x u)(ty:TyOf X.K H x t)(e:PySem.W.kitOne X.K t c=some b)(h:∀tk,Q (.bool b) { s with toks:=tk }) :
 wpAny (model X.prog X.w) A (call (.builtin "isinstance") [u,c]) Q E s:=by
 cases ty with
 |non=>cases(show u=Value.none from rx);exact PySem.W.kia_one PySem.W.kitx_none I.kIn True.intro e (λz=>nomatch z) h
 |bl y=>cases(show u=Value.bool y from rx);exact PySem.W.kia_one PySem.W.kitx_bool I.kIn True.intro e (λz=>nomatch z) h
 |int i=>obtain⟨t,q⟩:=(show ∃t,u=Value.int i t from rx);cases q;exact PySem.W.kia_one PySem.W.kitx_int I.kIn True.intro e (λz=>nomatch z) h
 |str y=>obtain⟨t,q⟩:=(show ∃t,u=Value.str y t from rx);cases q;exact PySem.W.kia_one PySem.W.kitx_str I.kIn True.intro e (λz=>nomatch z) h
 |flt y=>obtain⟨t,q⟩:=(show ∃t,u=Value.float y t from rx);cases q;exact PySem.W.kia_one PySem.W.kitx_float I.kIn True.intro e (λz=>nomatch z) h
 | @lst a xs ea =>cases(show u=Value.ref a from rx);obtain⟨_,_,n,_,h1⟩:=(show ObjOk X.prog X.w H s.heap a (.lst xs)from I.hok a _ ea);exact PySem.W.kia_one PySem.W.kitx_list I.kIn ⟨_,h1,rfl⟩ e (λz=>nomatch z) h
 | @frz a ob xs ea =>cases(show u=Value.ref a from rx);obtain⟨_,_,_,n,_,h1⟩:=(show ObjOk X.prog X.w H s.heap a (.frz ob (.lst xs))from I.hok a _ ea);exact PySem.W.kia_one PySem.W.kitx_list I.kIn ⟨_,h1,rfl⟩ e (λz=>nomatch z) h
 | @tup a xs ea =>cases(show u=Value.ref a from rx);obtain⟨_,_,_,p⟩:=(show ObjOk X.prog X.w H s.heap a (.tup xs)from I.hok a _ ea);obtain⟨o,h1,h2,_⟩:=p;exact PySem.W.kia_one PySem.W.kitx_tuple I.kIn ⟨o,h1,h2⟩ e (λz=>nomatch z) h
 | @dK a kvs ea =>cases(show u=Value.ref a from rx);obtain⟨_,_,vs,_,p⟩:=(show ObjOk X.prog X.w H s.heap a (.dK kvs)from I.hok a _ ea);obtain⟨o,es,ep,h1,h2,_⟩:=p;exact PySem.W.kia_one PySem.W.kitx_dict I.kIn ⟨o,h1,h2.1⟩ e (λz=>nomatch z) h
 | @dT a kvs ea =>cases(show u=Value.ref a from rx);obtain⟨_,_,xs,_,o,es,ep,h1,h2,_⟩:=(show ObjOk X.prog X.w H s.heap a (.dT kvs)from I.hok a _ ea);exact PySem.W.kia_one PySem.W.kitx_dict I.kIn ⟨o,h1,h2.1⟩ e (λz=>nomatch z) h
 | @ins a C dx fs ea cl ha hn htk hm =>cases(show u=Value.ref a from rx);obtain⟨mA,O,_⟩:=pi I.hok ea;obtain⟨od,J,_⟩:=O.look;exact PySem.W.kia_one (PySem.W.kitx_own (cl.get _) cl.hd ha hn htk hm) I.kIn J e (λz=>nomatch z) h
end
structure Room(k:Nat)(A:Around):Prop where
 hd:A.handled=none
 dp:A.depth+3*k+5<recursionLimit
 un:A.units+16*k+200<cLine
theorem Room.mono{j k:Nat}{A:Around}(r:Room k A)(h:j<=k:=by decide):Room j A:=⟨r.hd,by have:=r.dp;omega,by have:=r.un;omega⟩
theorem Room.deeper{k:Nat}{A:Around}(r:Room (k+1) A)(env:Env):Room k (A.deeper env) :=
 ⟨r.hd,by have:=r.dp;show A.depth+1+3*k+5<_;omega,by have:=r.un;show A.units+3+16*k+200<_;omega⟩
theorem Room.in1{k:Nat}{A:Around}(r:Room (k+1) A):Room k A.in1 :=
 ⟨r.hd,by have:=r.dp;show A.depth+3*k+5<_;omega,by have:=r.un;show A.units+1+16*k+200<_;omega⟩
theorem HX{A:Around}{C:Addr}{us:List Value}{kw:List (Str×Value)}:(A.under (.builtin "type.__call__" ⟨.ref C::us,kw⟩)).depth=A.depth+1:=by first |rfl |simp[Around.under,Code.weight,Code.isCreation,Code.isGuard,Code.isCaller,Code.frames,Code.isFrame,guardIds]
theorem HV{A:Around}{C:Addr}{us:List Value}{kw:List (Str×Value)}:(A.under (.builtin "type.__call__" ⟨.ref C::us,kw⟩)).units=A.units+1:=by first |rfl |simp[Around.under,Code.cUnits,Code.frames,Code.isFrame]
theorem Room.make{k:Nat}{A:Around}(r:Room (k+1) A)(C:Addr)(us:List Value)(kw:List (Str×Value)):Room k (A.under (.builtin "type.__call__" ⟨.ref C::us,kw⟩)) :=
 ⟨r.hd,by have:=r.dp;rw[HX];omega,by have:=r.un;rw[HV];omega⟩
theorem Room.depth{k:Nat}{A:Around}(r:Room k A):A.depth<recursionLimit:=by have:=r.dp;omega
theorem Room.units{k:Nat}{A:Around}(r:Room k A):A.units+64<cLine:=by have:=r.un;omega
def qt:TA:=λ_ H Q=>Q [] H
def qu(ta:TE)(tr:TA):TA:=λσ H Q=>ta σ H λx H1=>tr σ H1 λxs H2=>Q (x::xs) H2
section
variable {X:Cx}{e:Expr}{es:List Expr}{te:TE}{t:TA}{pos:Pos}
theorem ac:PA X [] qt:=λ_ _ _ _ H Q I h=>Calls.spliced_nil ⟨[],H,I,.nil,h⟩
theorem aa(ha:PE X e te)(hr:PA X es t)(hs:starEach (e::es) X.env=(false,eval e X.env)::starEach es X.env:=by rfl):PA X (e::es) (qu te t):=by intro pos pins s σ H Q I h;rw[hs];show wpAny _ _ (spliced ((false,eval e X.env)::backTo pos (starEach es X.env))) _ _ s;refine Calls.spliced_cons (thn (ha pins s σ H _ I h) λu s1 ⟨x,H1,I1,r1,q1⟩=>?_);exact thn (hr pos pins s1 σ H1 _ I1 q1) λus s2 ⟨xs,H2,I2,r2,q2⟩=>⟨x::xs,H2,I2,.cons r1 r2,q2⟩
def Dm(t:TA):TE:=λσ H Q=>t σ H λxs H1=>xs.length<=sizeLine/\∀p,H1 p=none->Q (.ref p) (upd H1 p (.tup xs))
def Ds(t:TA):TE:=λσ H Q=>t σ H λxs H1=>xs.length<=sizeLine/\∀p,H1 p=none->Q (.ref p) (upd H1 p (.lst xs))
theorem cU{x1}(h:PA X es t):PE X (.Tuple es x1 pos) (Dm t):=by intro pins s σ H Q I hq;refine wpAny_Tuple_spliced (thn (h pos pins s σ H _ I hq) λus s1 ⟨xs,H1,I1,r,z,q⟩=>⟨by rw[<- r.length];exact z,?_⟩);have hf:H1 s1.heap.objs.size=none:=I1.hok.fresh (Pn _);refine⟨.ref s1.heap.objs.size,upd H1 s1.heap.objs.size (.tup xs),I1.laid (t':=s1.toks) (λb u e=>Heap.get?_push_of_some _ e) (Pn _) ?_,rfl,q _ hf⟩;exact⟨z,us,r,⟨_,Heap.get?_push_size _ rfl,rfl,_,rfl⟩⟩
theorem bj(h:PA X es t):PE X (.List es pos) (Ds t):=by intro pins s σ H Q I hq;refine wpAny_List_spliced (thn (h pos pins s σ H _ I hq) λus s1 ⟨xs,H1,I1,r,z,q⟩=>⟨by rw[<- r.length];exact z,?_⟩);have hf:H1 s1.heap.objs.size=none:=I1.hok.fresh (Pn _);refine⟨.ref s1.heap.objs.size,upd H1 s1.heap.objs.size (.lst xs),I1.laid (t':=s1.toks) (λb u e=>Heap.get?_push_of_some _ e) (Pn _) ?_,rfl,q _ hf⟩;exact⟨z,us,0,r,Heap.get?_push_size _ rfl⟩
end
abbrev Sp:=List V->Hp->VK->XK->Prop
abbrev CXT:=List Env->Hp->Shared->XK->Value->Shared->Prop
structure Env0(P:Program)(w:World)(K:PySem.W.Frag)(mg:Str->Option Value)(base:Heap)(A:Around)(outer:List Env)(s:Shared)(H:Hp):Prop where
 frames:A.frames=some outer
 mod:Mod K mg base
 bs:∀b o,base.get? b=some o->s.heap.get? b=some o/\H b=none
 bsz:base.objs.size<=s.heap.objs.size
 funs:s.heap.FunFrames base outer
 frf:∀b∈frs outer,H b=none
 hok:HOk P w H s.heap
 bare:AllBare s.gens
noncomputable def CE(outer:List Env)(P:Program)(w:World)(H:Hp)(s:Shared)(Q:VK)(u:Value)(s':Shared):Prop :=
 ∃v H',s'.os=s.os/\AllBare s'.gens/\Un (frs outer) [] H H' s.heap s'.heap/\HOk P w H' s'.heap/\RelV v u/\Q v H'
noncomputable def CR(CX:CXT)(outer:List Env)(P:Program)(w:World)(H:Hp)(s:Shared)(Q:VK)(E:XK)(r:Result)(s':Shared):Prop :=
 match r with
 |.ok (.ret u)=>CE outer P w H s Q u s'
 |.ok _=>False
 |.error e=>CX outer H s E e s'
structure FnOk(P:Program)(w:World)(K:PySem.W.Frag)(mg:Str->Option Value)(base:Heap)(CX:CXT)(k:Nat)(f:Addr)(fd:FuncData)(ps:List Str)(sp:Sp):Prop where
 len:∀vs H Q E,sp vs H Q E->vs.length=ps.length
 run:∀(A:Around) (outer:List Env) (s:Shared) (H:Hp) (args:Args) (us:List Value) (vs:List V) (Q:VK) (E:XK),Room k A->Env0 P w K mg base A outer s H->BindsTo s fd args (ps.zip us)->Vals vs us->sp vs H Q E ->
  codeAny (model P w) A (.call (.ref f) args) (CR CX outer P w H s Q E) s
theorem FnOk.mono{P:Program}{w:World}{K:PySem.W.Frag}{mg:Str->Option Value}{base:Heap}{CX:CXT}{j k:Nat}{f:Addr}{fd:FuncData}{ps:List Str}{sp:Sp}(F:FnOk P w K mg base CX j f fd ps sp)(h:j<=k:=by decide) :
 FnOk P w K mg base CX k f fd ps sp:=⟨F.len,λA outer s H args us vs Q E hr=>F.run A outer s H args us vs Q E (hr.mono h)⟩
theorem Env0.make{P:Program}{w:World}{K:PySem.W.Frag}{mg:Str->Option Value}{base:Heap}{A:Around}{outer:List Env}{s:Shared}{H:Hp}(e:Env0 P w K mg base A outer s H)(C:Addr)(us:List Value)(kw:List (Str×Value)) :
 Env0 P w K mg base (A.under (.builtin "type.__call__" ⟨.ref C::us,kw⟩)) outer s H:=⟨by first |exact e.frames | (simpa[Around.under,Code.envs,Code.isFrame,pushEnvs]using e.frames),e.mod,e.bs,e.bsz,e.funs,e.frf,e.hok,e.bare⟩
section
variable {X:Cx}{pins:List (Addr×Obj)}{σ:St}{H:Hp}{s s':Shared}
theorem Inv.env0(I:Inv X pins σ H s):Env0 X.prog X.w X.K X.mg X.base X.A X.stack s H :=
 ⟨I.ok.frames,I.ok.mod,I.bs,PM I.ok.bsz I.sz,I.stack,I.stkFree,I.hok,I.bare⟩
theorem Inv.after{Q:VK}{u:Value}(I:Inv X pins σ H s)(h:CE X.stack X.prog X.w H s Q u s'):EP X pins σ Q u s':=by obtain⟨v,H',os,bare,un,hok,r,q⟩:=h;obtain⟨hh,g,d,t,os'⟩:=s';obtain rfl:os'=s.os:=os;exact⟨v,H',I.call (h':=hh) (g':=g) (d':=d) (t':=t) (ch:=[]) un hok bare (λb z=>absurd z (by simp)),r,q⟩
end
def Dw(sp:Sp)(dvs:List V)(E:XK)(t:TA):TE:=λσ H Q=>t σ H λvs H1=>sp (vs++dvs) H1 Q E
def xn(C:Addr)(m:Str)(sp:Sp)(dvs:List V)(E:XK)(ta:TE)(t:TA):TE:=λσ H Q=>ta σ H λx H1=>∃a dx fs,x=.ref a/\H1 a=some (.ins C dx fs)/\fs.lookup m=none /\
 t σ H1 λvs H2=>sp (x::(vs++dvs)) H2 Q E
def Dr(C:Addr)(sp:Sp)(dvs:List V)(E:XK)(t:TA):TE:=λσ H Q=>t σ H λvs H1=>∀x dx,H1 x=none->H1 dx=none->dx≠x ->
 sp (.ref x::(vs++dvs)) (upd (upd H1 dx (.own x)) x (.ins C dx [])) (λv H2=>v=.non/\Q (.ref x) H2) E
noncomputable def Binds(K:PySem.W.Frag)(fd:FuncData)(ps:List Str)(ds:List Value):Prop :=
 ∀(s:Shared) (us:List Value),K.In s.heap->(us++ds).length=ps.length->BindsTo s fd ⟨us,[]⟩ (ps.zip (us++ds))
theorem Binds.all{K:PySem.W.Frag}{fd:FuncData}{ps:List Str}(h:∀us:List Value,us.length=ps.length->bindArgs fd ⟨us,[]⟩=pure (ps.zip us)):Binds K fd ps []:=λs us _ hl=>by rw[List.append_nil]at hl ⊢;exact .of_eq (h us hl)
def jC(CX:CXT)(X:Cx)(E:XK):Prop:=∀(pins:List (Addr×Obj)) (σ:St) (H:Hp) (s:Shared) (e:Value) (s':Shared),Inv X pins σ H s->CX X.stack H s E e s'->X.xe e s'
section
variable {X:Cx}{CX:CXT}{k:Nat}{f C:Addr}{fd:FuncData}{ps:List Str}{sp:Sp}{dvs:List V}{ds:List Value}{E:XK}{x m:Str}{p pos apos:Pos}{e o:Expr}{es:List Expr}{ta:TE}{t:TA}
theorem tD{pins:List (Addr×Obj)}{σ:St}{H:Hp}{s:Shared}{Q:VK}{us:List Value}{vs:List V}(F:FnOk X.prog X.w X.K X.mg X.base CX k f fd ps sp)(hr:Room k X.A)(hb:Binds X.K fd ps ds)(hd:Vals dvs ds)(hx:jC CX X E)
 (I:Inv X pins σ H s) (r:Vals vs us) (h:sp (vs++dvs) H Q E):wpAny (model X.prog X.w) X.A (call (.ref f) us) (EP X pins σ Q) X.xe s:=by
 have r2:Vals (vs++dvs) (us++ds):=r.append hd;have hl:(us++ds).length=ps.length:=by rw[<- r2.length];exact F.len _ _ _ _ h
 refine wpAny_call (codeAny_mono (F.run X.A X.stack s H ⟨us,[]⟩ (us++ds) (vs++dvs) Q E hr I.env0 (hb s us I.kIn hl) r2 h) λr s' hq=>?_);cases r with
 |error e=>exact hx pins σ H s e s' I hq
 |ok fl =>
  cases fl with
  |ret u=>exact I.after hq
  |next=>exact False.elim hq
  |brk=>exact False.elim hq
  |cont=>exact False.elim hq
theorem al(F:FnOk X.prog X.w X.K X.mg X.base CX k f fd ps sp)(hr:Room k X.A)(hg:Gl X x)(hm:X.mg x=some (.ref f))(hk:PySem.W.keepIn X.K (.ref f)=true)(hb:Binds X.K fd ps ds)(hd:Vals dvs ds)(hx:jC CX X E)
 (ha:PA X (e::es) t) (hdb:(x == ("__debug__":Str))=false:=by decide) (he:starEach (e::es) X.env=(false,eval e X.env)::starEach es X.env:=by rfl) (hpl:(backTo pos (starEach es X.env)).any (·.1)=false:=by rfl) :
 PE X (.Call (.Name x p) (e::es) [] pos) (Dw sp dvs E t):=by
 intro pins s σ H Q I h;refine wpAny_Call_Name_kw (uK I hg hm ?_ hdb);refine PySem.W.callWith_K (h₀:=X.base) I.ok.mod.kin hk (thn (ha pos pins s σ H _ I h) λus s1 ⟨vs,H1,I1,r,q⟩=>⟨I1.kIn,?_⟩) he hpl;exact tD F hr hb hd hx I1 r q
theorem dm{pl:Sem Bool}(he:PE X o ta)(c:Cls X.K C)(hm:Meth X.K C m f)(F:FnOk X.prog X.w X.K X.mg X.base CX k f fd ps sp)(hr:Room k X.A)(hb:Binds X.K fd ps ds)(hd:Vals dvs ds)(hx:jC CX X E)(ha:PA X (e::es) t)
 (hst:starEach (e::es) X.env=(false,eval e X.env)::starEach es X.env:=by rfl) (hpl:(backTo pos (starEach es X.env)).any (·.1)=false:=by rfl)
 (ht:eval (.Call (.Attribute o m apos) (e::es) [] pos) X.env=(do
   let ov <- eval o X.env
   standAt apos.atName
   let(f,first) <- holding [ov] (getMethod ov m pl)
   callWith pos f first (backTo pos (starEach (e::es) X.env)) (backToKw pos (keywordEach [] X.env))):=by rfl) :
 PE X (.Call (.Attribute o m apos) (e::es) [] pos) (xn C m sp dvs E ta t):=by
 intro pins s σ H Q I h;refine PySem.W.methodCall_KW (pl:=pl) (thn (he pins s σ H _ I h) λu s1 ⟨x,H1,I1,rx,a,dx,fs,ex,ea,l,q⟩=>?_) ht;subst ex;obtain rfl:u=Value.ref a:=rx;refine AW I1 ea c hm l ?_;refine PySem.W.callWith_K (first:=[.ref a]) (h₀:=X.base) I.ok.mod.kin hm.kp (thn (ha pos pins s1 σ H1 _ I1 q) λus s2 ⟨vs,H2,I2,r,q2⟩=>⟨I2.kIn,?_⟩) hst hpl;exact tD (us:=.ref a::us) (vs:=.ref a::vs) F hr hb hd hx I2 (.cons rfl r) q2
theorem FO{pl:Sem Bool}(he:PE X o ta)(c:Cls X.K C)(hm:Meth X.K C m f)(F:FnOk X.prog X.w X.K X.mg X.base CX k f fd ps sp)(hr:Room k X.A)(hb:Binds X.K fd ps ds)(hd:Vals dvs ds)(hx:jC CX X E)
 (ht:eval (.Call (.Attribute o m apos) [] [] pos) X.env=(do
   let ov <- eval o X.env
   standAt apos.atName
   let(f,first) <- holding [ov] (getMethod ov m pl)
   callWith pos f first (backTo pos (starEach [] X.env)) (backToKw pos (keywordEach [] X.env))):=by rfl) :
 PE X (.Call (.Attribute o m apos) [] [] pos) (xn C m sp dvs E ta qt):=by
 intro pins s σ H Q I h;refine PySem.W.methodCall_KW (pl:=pl) (thn (he pins s σ H _ I h) λu s1 ⟨x,H1,I1,rx,a,dx,fs,ex,ea,l,q⟩=>?_) ht;subst ex;obtain rfl:u=Value.ref a:=rx;refine AW I1 ea c hm l ?_;exact PySem.W.callWith_K0 (first:=[.ref a]) I1.kIn hm.kp (tD (us:=[.ref a]) (vs:=[.ref a]) F hr hb hd hx I1 (.cons rfl .nil) q)
structure Mk(K:PySem.W.Frag)(C f:Addr):Prop where
 makes:PySem.W.makesIn K C=true
 init:PySem.W.findIn K (.ref C) "__init__"=some (some (.ref f))
 fn:PySem.W.isFn K (.ref f)=true
 kp:PySem.W.keepIn K (.ref C)=true
theorem EF{pins:List (Addr×Obj)}{σ:St}{H:Hp}{s:Shared}{Q:VK}{us:List Value}{vs:List V}(M:Mk X.K C f)(F:FnOk X.prog X.w X.K X.mg X.base CX k f fd ps sp)(hr:Room (k+1) X.A)(hb:Binds X.K fd ps ds)(hd:Vals dvs ds)
 (hx:jC CX X E) (I:Inv X pins σ H s) (r:Vals vs us)
 (h:∀x dx,H x=none->H dx=none->dx≠x->sp (.ref x::(vs++dvs)) (upd (upd H dx (.own x)) x (.ins C dx [])) (λv H2=>v=.non/\Q (.ref x) H2) E) :
 wpAny (model X.prog X.w) X.A (call (.ref C) us) (EP X pins σ Q) X.xe s:=by
 have hq:=h (s.heap.objs.size+1) s.heap.objs.size (I.hok.fresh (Nat.le_succ _)) (I.hok.fresh (Pn _)) (Qb (QJ _));have I2:=Inv.made (C:=C) I;have r2:Vals (V.ref (s.heap.objs.size+1)::(vs++dvs)) (Value.ref (s.heap.objs.size+1)::(us++ds)):=.cons rfl (r.append hd)
 have hl:(Value.ref (s.heap.objs.size+1)::us++ds).length=ps.length:=by have e:=r2.length;rw[F.len _ _ _ _ hq]at e;exact e.symm
 refine wpAny_call (HW (f:=f) I.kIn M.makes M.init (beq_iff_eq.mp M.fn) (codeAny_mono (F.run _ X.stack _ _ ⟨Value.ref (s.heap.objs.size+1)::us,[]⟩ (Value.ref (s.heap.objs.size+1)::(us++ds)) _ _ E (hr.make C us [])
  (I2.env0.make C us []) (hb _ (Value.ref (s.heap.objs.size+1)::us) I2.kIn hl) r2 hq) λr s' hq'=>?_))
 cases r with
 |error e=>exact hx pins σ _ _ e s' I2 hq'
 |ok fl =>
  cases fl with
  |ret u =>obtain⟨v,H',I3,rv,ev,q3⟩:=I2.after hq';subst ev;exact⟨rv,⟨V.ref (s.heap.objs.size+1),H',I3,rfl,q3⟩⟩
  |next=>exact False.elim hq'
  |brk=>exact False.elim hq'
  |cont=>exact False.elim hq'
theorem cD(M:Mk X.K C f)(F:FnOk X.prog X.w X.K X.mg X.base CX k f fd ps sp)(hr:Room (k+1) X.A)(hg:Gl X x)(hm:X.mg x=some (.ref C))(hb:Binds X.K fd ps ds)(hd:Vals dvs ds)(hx:jC CX X E)
 (ha:PA X (e::es) t) (hdb:(x == ("__debug__":Str))=false:=by decide) (he:starEach (e::es) X.env=(false,eval e X.env)::starEach es X.env:=by rfl) (hpl:(backTo pos (starEach es X.env)).any (·.1)=false:=by rfl) :
 PE X (.Call (.Name x p) (e::es) [] pos) (Dr C sp dvs E t):=by
 intro pins s σ H Q I h;refine wpAny_Call_Name_kw (uK I hg hm ?_ hdb);refine PySem.W.callWith_K (h₀:=X.base) I.ok.mod.kin M.kp (thn (ha pos pins s σ H _ I h) λus s1 ⟨vs,H1,I1,r,q⟩=>⟨I1.kIn,?_⟩) he hpl;exact EF M F hr hb hd hx I1 r q
end
section
variable {X:Cx}{CX:CXT}{k:Nat}{f C:Addr}{fd:FuncData}{ps ks:List Str}{sp:Sp}{E:XK}{x m:Str}{p pos apos kpos:Pos}{e o:Expr}{es:List Expr}{kws:List Keyword}{te ta:TE}{t tk:TA}{nm:Option Str}
variable {g:List Value->List Value->List Value}{gV:List V->List V->List V}
end
structure FnScope(N P:List Str)(sc:Scope):Prop where
 kind:sc.kind=.function
 co:sc.isCoroutine=false
 gen:sc.isGenerator=false
 nd:N.Nodup
 pre:N.take P.length=P
 par:∀x∈P,sc.names.lookup x=some .local\/sc.names.lookup x=some .cell
 nofree:∀y∈sc.names,y.2≠.free
theorem Ca{kindOf:Str->Option NameKind}{x:Str}:∀{binds:List (Str×Value)} {m:Str->Option Value},(∀v,(x,v)∉binds)->bindL kindOf binds m x=m x
 | [],_,_=>rfl
 | (n,v)::r,m,h=>by
  unfold bindL;rw[Ca λw hw=>h w (Pz _ hw)];split
  ·have:x≠n:=by rintro rfl;exact h v PH
   simp[this]
  ·rfl
theorem Cc{kindOf:Str->Option NameKind}{x:Str}:∀{binds:List (Str×Value)} {m:Str->Option Value},(∀v,(x,v)∉binds)->bindC kindOf binds m x=m x
 | [],_,_=>rfl
 | (n,v)::r,m,h=>by
  unfold bindC;rw[Cc λw hw=>h w (Pz _ hw)];split
  ·rfl
  ·have:x≠n:=by rintro rfl;exact h v PH
   simp[this]
theorem Cb{kindOf:Str->Option NameKind}{x:Str}{v:Value}:∀{P:List Str} {vs:List Value} {i:Nat} {m:Str->Option Value},P.Nodup->P[i]?=some x->vs[i]?=some v->kindOf x=some .local ->
 bindL kindOf (P.zip vs) m x=some v
 | [],_,_,_,_,h,_,_=>by simp at h
 |_::_,[],_,_,_,_,h,_=>by simp at h
 |p::P,w::vs,0,m,nd,h1,h2,hk=>by
  simp at h1 h2;subst h1;subst h2
  show bindL kindOf ((p,w)::P.zip vs) m p=_;unfold bindL;rw[Ca λv hv=>(QW.mp nd).1 (List.of_mem_zip hv).1,if_pos hk];simp
 |p::P,w::vs,i+1,m,nd,h1,h2,hk=>by show bindL kindOf ((p,w)::P.zip vs) m x=_;unfold bindL;exact Cb (i:=i) (QW.mp nd).2 (by simpa using h1) (by simpa using h2) hk
theorem Cd{kindOf:Str->Option NameKind}{x:Str}{v:Value}:∀{P:List Str} {vs:List Value} {i:Nat} {m:Str->Option Value},P.Nodup->P[i]?=some x->vs[i]?=some v->kindOf x≠some .local ->
 bindC kindOf (P.zip vs) m x=some v
 | [],_,_,_,_,h,_,_=>by simp at h
 |_::_,[],_,_,_,_,h,_=>by simp at h
 |p::P,w::vs,0,m,nd,h1,h2,hk=>by
  simp at h1 h2;subst h1;subst h2
  show bindC kindOf ((p,w)::P.zip vs) m p=_;unfold bindC;rw[Cc λv hv=>(QW.mp nd).1 (List.of_mem_zip hv).1,if_neg hk];simp
 |p::P,w::vs,i+1,m,nd,h1,h2,hk=>by show bindC kindOf ((p,w)::P.zip vs) m x=_;unfold bindC;exact Cd (i:=i) (QW.mp nd).2 (by simpa using h1) (by simpa using h2) hk
noncomputable def start(N:List Str)(vs:List V):St:=vs.map some++List.replicate (N.length-vs.length) none
noncomputable def jt(CX:CXT)(P:Program)(w:World)(K:PySem.W.Frag)(mg:Str->Option Value)(base:Heap)(N:List Str)(qual:Str)(scope:Scope)(f:Addr)(cd:Value)(A:Around)(outer:List Env)(s:Shared)(H:Hp)(E:XK):Cx where
 prog:=P
 w:=w
 K:=K
 mg:=mg
 base:=base
 A:=A.deeper (envOfC qual scope s.heap.objs.size f cd)
 N:=N
 s₀:=s
 H₀:=H
 env:=envOfC qual scope s.heap.objs.size f cd
 outer:=outer
 stack:=envOfC qual scope s.heap.objs.size f cd::outer
 ex:=[]
 calm:=true
 fn:=λ_=>true
 pn:=[]
 xe:=λe s'=>wpAny (model P w) (A.deeper (envOfC qual scope s.heap.objs.size f cd)) (leaving (envOfC qual scope s.heap.objs.size f cd) e) (λ_ s''=>CX outer H s E e s'') (λe' s''=>CX outer H s E e' s'') s'
theorem BZ{sc:Scope}{n:Nat}{x:Str}(h:sc.names.lookup x=some .cell):∃c,(cellsFrom n sc.names []).lookup x=some c:=by have q:=PySem.W.cellsFrom_some sc.names n [] (.inl h);exact Option.isSome_iff_exists.mp q
theorem JE{CX:CXT}{P:Program}{w:World}{K:PySem.W.Frag}{mg:Str->Option Value}{base:Heap}{N ps:List Str}{qual:Str}{scope:Scope}{f:Addr}{cd:Value}{A:Around}{outer:List Env}{s s1:Shared}{H:Hp}{E:XK}{us:List Value}{vs:List V}
 (S:FnScope N ps scope) (hd:A.handled=none) (e0:Env0 P w K mg base A outer s H) (hl:vs.length=ps.length) (r:Vals vs us)
 (x:InCallC s s.heap.objs.size (bindL (envOfC qual scope s.heap.objs.size f cd).kindOf (ps.zip us) λ_=>none) (cellsFrom (s.heap.objs.size+1) scope.names []) (bindC (envOfC qual scope s.heap.objs.size f cd).kindOf (ps.zip us) λ_=>none) s1) :
 Inv (jt CX P w K mg base N qual scope f cd A outer s H E) [] (start N vs) H s1:=by
 have hpl:ps.length<=N.length:=by have:=congrArg List.length S.pre;rw[Qx]at this;omega
 obtain⟨h1,tk,rfl,hk⟩:=x.done;have noA:∀b:Addr,b∉(jt CX P w K mg base N qual scope f cd A outer s H E).ex:=λb z=>absurd (show b∈([]:List Addr)from z) (by simp)
 refine⟨⟨e0.mod,S.kind,rfl,rfl,Pn _,λy z c h1 h2=>?_,λy hy=>?_,λy c _ h=>?_,λ_=>hd,Around.frames_deeper e0.frames,.inr ⟨rfl,rfl⟩,λb z=>absurd z (noA b),e0.bs,e0.bsz,λb _ _=>noA b,λb z=>absurd z (noA b),e0.funs,e0.frf⟩,
  rfl,e0.bare,Un.kept hk,⟨_,x.toInCall.ns,λi y v h1 h2 h3=>?_⟩,λy c h=>⟨_,x.cell y c h⟩,e0.hok.fresh (Pn _),λy c h=>?_,λp hp=>absurd (show p∈([]:List (Addr×Obj))from hp) (by simp),e0.hok.kept hk,?_⟩
 ·exact name_of_addr x.apart (PySem.mem_of_lookup h1) (PySem.mem_of_lookup h2)
 ·have hy:scope.names.lookup y=some .cell\/scope.names.lookup y=some .free:=hy;rcases hy with hy |hy
  ·exact BZ hy
  ·exact absurd rfl (S.nofree _ (PySem.mem_of_lookup hy))
 ·exact Q9 (x.above y c (PySem.mem_of_lookup h))
 ·have hi:i<vs.length:=by
   unfold start at h2
   by_cases hi:i<vs.length
   ·exact hi
   ·rw[List.getElem?_append_right (by simpa using hi)]at h2;rw[List.getElem?_replicate]at h2;split at h2<;>cases h2
  have ha:vs[i]?=some v:=by
   unfold start at h2
   rw[List.getElem?_append_left (by simpa using hi),List.getElem?_map]at h2;cases e:vs[i]? with
   |none=>rw[e]at h2;cases h2
   |some a=>rw[e]at h2;cases h2;rfl
  obtain⟨u,hu,rv⟩:=r.get ha
  have hp:ps[i]?=some y:=by rw[<- S.pre,List.getElem?_take_of_lt (by omega)];exact h1
  have ndP:ps.Nodup:=by rw[<- S.pre];exact S.nd.sublist (List.take_sublist _ _)
  refine⟨u,rv,?_⟩;rcases S.par y (List.mem_of_getElem? hp)with k |k
  ·exact .inl ⟨k,Cb ndP hp hu k⟩
  ·obtain⟨c,e⟩:=BZ (n:=s.heap.objs.size+1) k;refine .inr ⟨.inl k,c,e,?_⟩;have q:=x.cell y c e;rw[Cd ndP hp hu (by show scope.names.lookup y≠_;rw[k];decide)]at q;exact q
 ·exact e0.hok.fresh (Q9 (x.above y c (PySem.mem_of_lookup h)))
 ·unfold start;show _=N.length;rw[P6,Pk,RP];omega
theorem A9{CX:CXT}{P:Program}{w:World}{K:PySem.W.Frag}{mg:Str->Option Value}{base:Heap}{k:Nat}{f:Addr}{name qual:Str}{params:Arguments}{body:List Stmt}{scope:Scope}{dV kV doc pm cdv ct oc:Value}{an od:Option Addr}
 {osl:Array (Option Value)} {N ps:List Str} {sp:Sp} (lk:K.lookup f=some ⟨oc,od,.func (PySem.W.fnOf name qual params body scope dV kV doc pm an cdv ct),osl⟩) (hcd:PySem.W.codeIn K cdv qual=true) (S:FnScope N ps scope)
 (len:∀vs H Q E,sp vs H Q E->vs.length=ps.length)
 (hbody:∀(A:Around) (outer:List Env) (s:Shared) (H:Hp) (vs:List V) (Q:VK) (E:XK),Room k (A.deeper (envOfC qual scope s.heap.objs.size f cdv))->sp vs H Q E ->
   ∃t,PSs (jt CX P w K mg base N qual scope f cdv A outer s H E) body t/\t { nx:=λ_ H'=>Q .non H',rt:=Q } (start N vs) H) :
 FnOk P w K mg base CX (k+1) f (PySem.W.fnOf name qual params body scope dV kV doc pm an cdv ct) ps sp:=by
 refine⟨len,λA outer s H args us vs Q E hr e0 hb r hsp=>?_⟩;have hl:=len _ _ _ _ hsp;have KX:K.In s.heap:=e0.mod.kin.keeps λb o e=>(e0.bs b o e).1
 have lim:s.heap.NoLimit:=e0.mod.nolimit.keeps λb o e=>(e0.bs b o e).1
 have hkind:∀y∈ps.zip us,scope.names.lookup y.1=some .local\/(scope.names.lookup y.1=some .cell/\((cellsFrom (s.heap.objs.size+1) scope.names []).lookup y.1).isSome=true):=λ⟨n,v⟩ hy=>by
  rcases S.par n (List.of_mem_zip hy).1 with q |q
  ·exact .inl q
  ·exact .inr ⟨q,PySem.W.cellsFrom_some _ _ _ (.inl q)⟩
 refine codeAny_call_function hr.depth (KX _ _ lk) rfl S.co S.gen rfl (PySem.W.codeRec_of KX hcd) (hb _ _ _ _ ?_);refine wpAny_newFunctionEnv_cells S.kind hkind λenv he s1 x=>?_
 subst he;refine⟨lim.keeps x.toInCall.keep,codeAny_func ?_⟩;obtain⟨t,ht,hq⟩:=hbody A outer s H vs Q E (hr.deeper _) hsp;have I:Inv (jt CX P w K mg base N qual scope f cdv A outer s H E) [] (start N vs) H s1:=JE S hr.hd e0 hl r x;refine wpAny_mono (ht [] s1 (start N vs) H _ I hq) (λfl s' hs=>?_) λe s' hs=>hs
 have fin:∀{σ':St} {H':Hp} {v:V} {u:Value},Inv (jt CX P w K mg base N qual scope f cdv A outer s H E) [] σ' H' s'->RelV v u->Q v H'->CE outer P w H s Q u s' :=
  λ{σ' H' v u} J rv q=>⟨v,H',J.os,J.bare,J.base,J.hok,rv,q⟩
 cases fl with
 |ret u =>obtain⟨v,σ',H',J,rv,q⟩:=hs;exact fin J rv q
 |next =>obtain⟨σ',H',J,q⟩:=hs;exact fin (v:=V.non) (u:=Value.none) J rfl q
 |brk =>obtain⟨_,_,_,q⟩:=hs;exact False.elim q
 |cont =>obtain⟨_,_,_,q⟩:=hs;exact False.elim q
section
variable {X:Cx}{x:Str}{p pos:Pos}{e:Expr}{es:List Expr}{t:TA}{id T:String}{r:List V->Hp->VK->Prop}
def tCB(r:List V->Hp->VK->Prop)(t:TA):TE:=λσ H Q=>t σ H λvs H1=>r vs H1 Q
theorem ci(hc:CallR X (.builtin id) r)(hg:Gl X x)(hm:X.mg x=none)(hv:bootBuiltins x=some (.builtin id))(ha:PA X (e::es) t)(hn:x≠"__name__":=by decide)(hdb:(x == ("__debug__":Str))=false:=by decide)
 (he:starEach (e::es) X.env=(false,eval e X.env)::starEach es X.env:=by rfl) (hpl:(backTo pos (starEach es X.env)).any (·.1)=false:=by rfl):PE X (.Call (.Name x p) (e::es) [] pos) (tCB r t):=by
 intro pins s σ H Q I h;refine wpAny_Call_Name_kw (gN I hg hm hv ?_ hn hdb);exact PyProof.Rows.callWith_builtin1 (thn (ha pos pins s σ H _ I h) λus s1 ⟨vs,H1,I1,r1,q1⟩=>hc pins s1 σ H1 vs us Q I1 r1 q1) he hpl
theorem i6(hc:CallR X (.type T) r)(hg:Gl X x)(hm:X.mg x=none)(hv:bootBuiltins x=some (.type T))(ha:PA X (e::es) t)(hn:x≠"__name__":=by decide)(hdb:(x == ("__debug__":Str))=false:=by decide)
 (he:starEach (e::es) X.env=(false,eval e X.env)::starEach es X.env:=by rfl) (hpl:(backTo pos (starEach es X.env)).any (·.1)=false:=by rfl):PE X (.Call (.Name x p) (e::es) [] pos) (tCB r t):=by
 intro pins s σ H Q I h;refine wpAny_Call_Name_kw (gN I hg hm hv ?_ hn hdb);exact PyProof.Rows.callWith_type1 (thn (ha pos pins s σ H _ I h) λus s1 ⟨vs,H1,I1,r1,q1⟩=>hc pins s1 σ H1 vs us Q I1 r1 q1) he hpl
end
end L2
namespace HT
open PySem PyProof.Rows
section
open PySem.SeqAt
open PySem.AutoSeq1 (wpAny_loadPart')
open PySem.MeetsSeq PySem.MeetsSeq2 PySem.MeetsSeq3
end
section
variable {prog:Program}{w:World}{A:Around}{E:Value->Shared->Prop}{s:Shared}
noncomputable def sIx(n d:Nat):Option Int->Nat
 |none=>d
 |some v=>if v<0 then(v+(n:Int)).toNat else min v.toNat n
theorem sIx_none(n d:Nat):sIx n d none=d:=rfl
theorem sIx_nat(n d k:Nat):sIx n d (some (k:Int))=min k n:=by show(if(k:Int)<0 then((k:Int)+(n:Int)).toNat else min (k:Int).toNat n)=min k n;rw[if_neg (by omega),Int.toNat_natCast]
end
end HT
namespace L2
open PySem PySem.Spec PyProof.Rows
abbrev TO:=St->Hp->(Option Int->Hp->Prop)->Prop
noncomputable def PO(X:Cx)(e:Option Expr)(t:TO):Prop :=
 ∀(pins:List (Addr×Obj)) (s:Shared) (σ:St) (H:Hp) (Q:Option Int->Hp->Prop),Inv X pins σ H s->t σ H Q ->
  wpAny (model X.prog X.w) X.A (evalPart e X.env) (λu s'=>∃o H',Inv X pins σ H' s'/\IsPart u o/\Q o H') X.xe s
noncomputable def Dp:TO:=λ_ H Q=>Q none H
noncomputable def Do(t:TE):TO:=λσ H Q=>t σ H λx H1=>∃i,x=.int i/\Q (some i) H1
theorem o9{ns:List Int}:∀{us:List Value},Vals (ns.map V.int) us->IntsAre us ns:=by
 induction ns with
 |nil=>intro us r;rw[List.map_nil]at r;cases r;exact .nil
 |cons n ns ih =>
  intro us r;rw[Qp]at r;cases r with
  |cons r1 r2 =>obtain⟨t,e⟩:=r1;subst e;exact .cons n t (ih r2)
section
variable {X:Cx}{e:Expr}{te:TE}{lo hi:Option Expr}{tl th:TO}{pos p2:Pos}
theorem oJ:PO X none Dp:=by intro pins s σ H Q I h;rw[evalPart_none];exact wpAny_pure ⟨none,H,I,.none,h⟩
theorem oI(h:PE X e te):PO X (some e) (Do te):=by
 intro pins s σ H Q I hw;rw[evalPart_some];refine thn (h pins s σ H _ I hw) λu s1 ⟨x,H1,I1,r1,q1⟩=>?_
 obtain⟨i,rfl,q⟩:=q1;obtain⟨t,rfl⟩:=r1;exact⟨some i,H1,I1,.int i t,q⟩
noncomputable def SlR(X:Cx)(r:V->Option Int->Option Int->Hp->VK->Prop):Prop :=
 ∀(pins:List (Addr×Obj)) (s:Shared) (σ:St) (H:Hp) (x:V) (v vl vu:Value) (lo hi:Option Int) (sl:Addr) (Q:VK),Inv X pins σ H s->RelV x v->s.heap.IsSliceOf sl vl vu .none->IsPart vl lo->IsPart vu hi->r x lo hi H Q ->
  ∃T id,typeLookup (.type T) "__getitem__"=pure (some (.builtin id))/\s.TypeIs v T/\wpAny (model X.prog X.w) X.A (getItem v (.ref sl)) (EP X pins σ Q) X.xe s
theorem SlR.or{r r':V->Option Int->Option Int->Hp->VK->Prop}(h:SlR X r)(h':SlR X r'):SlR X (λx lo hi H Q=>r x lo hi H Q\/r' x lo hi H Q):=by
 intro pins s σ H x v vl vu lo hi sl Q I rx hs pl pu q;rcases q with q |q
 ·exact h pins s σ H x v vl vu lo hi sl Q I rx hs pl pu q
 ·exact h' pins s σ H x v vl vu lo hi sl Q I rx hs pl pu q
def tSl(r:V->Option Int->Option Int->Hp->VK->Prop)(te:TE)(tl th:TO):TE:=λσ H Q=>te σ H λx H1=>tl σ H1 λl H2=>th σ H2 λu H3=>r x l u H3 Q
theorem oM{r:V->Option Int->Option Int->Hp->VK->Prop}(hr:SlR X r)(he:PE X e te)(hl:PO X lo tl)(hu:PO X hi th):PE X (.Subscript e (.Slice lo hi none p2) pos) (tSl r te tl th):=by
 intro pins s σ H Q I h;refine Subscript_ (thn (he pins s σ H _ I h) λv s1 ⟨x,H1,I1,r1,q1⟩=>?_);refine wpAny_Slice (thn (hl pins s1 σ H1 _ I1 q1) λvl s2 ⟨l,H2,I2,pl,q2⟩=>thn (hu pins s2 σ H2 _ I2 q2) λvu s3 ⟨u,H3,I3,pu,q3⟩=>?_);rw[evalPart_none];refine wpAny_pure ?_;have I4:Inv X pins σ H3 { s3 with heap:=s3.heap.push { cls:=.type "slice",data:=.fields #[vl,vu,.none] } }:=I3.kept (t':=s3.toks) λb ob q=>Heap.get?_push_of_some _ q
 obtain⟨T,id,hT,ht,hg⟩:=hr pins { s3 with heap:=s3.heap.push { cls:=.type "slice",data:=.fields #[vl,vu,.none] } } σ H3 x v vl vu l u s3.heap.objs.size Q I4 r1 (Heap.IsSliceOf.new ..) pl pu q3;show wpAny (model X.prog X.w) X.A (subscriptTail e (.Slice lo hi none p2) v (.ref s3.heap.objs.size)) (EP X pins σ Q) X.xe { s3 with heap:=s3.heap.push { cls:=.type "slice",data:=.fields #[vl,vu,.none] } };exact tail_any (ops:=[.ref s3.heap.objs.size,v]) ht hT hg (by with_unfolding_all rfl)
noncomputable def iB(xs:List V)(lo hi:Option Int):List V:=(xs.drop (HT.sIx xs.length 0 lo)).take (HT.sIx xs.length xs.length hi-HT.sIx xs.length 0 lo)
theorem Ld(xs:List V)(lo hi:Option Int):(iB xs lo hi).length<=xs.length:=by unfold iB;rw[Qx,QX];omega
end
noncomputable def ixN(n:Nat)(i:Int):Option Nat:=if 0<=i then(if i<n then some i.toNat else none)else if -(n:Int)<=i then some (i+n).toNat else none
noncomputable def atI{α:Type}(xs:List α)(i:Int):Option α:=(ixN xs.length i).bind λj=>xs[j]?
theorem AD{n:Nat}{i:Int}{j:Nat}(h:ixN n i=some j):seqIndex? i n=some j/\j<n /\ -(n:Int)<=i/\i<n:=by
 unfold ixN at h
 by_cases h0:0<=i
 ·rw[if_pos h0]at h;by_cases h1:i<n
  ·rw[if_pos h1]at h;have e:i.toNat=j:=Option.some.inj h;exact⟨by rw[seqIndex_of h0 h1,e],by omega,by omega,h1⟩
  ·rw[if_neg h1]at h;cases h
 ·rw[if_neg h0]at h;by_cases h1 : -(n:Int)<=i
  ·rw[if_pos h1]at h;have e:(i+n).toNat=j:=Option.some.inj h;exact⟨by rw[seqIndex_neg (by omega) h1,e],by omega,h1,by omega⟩
  ·rw[if_neg h1]at h;cases h
theorem Cn{α:Type}{xs:List α}{i:Int}{v:α}(h:atI xs i=some v):∃j,seqIndex? i xs.length=some j/\xs[j]?=some v/\j<xs.length /\ -(xs.length:Int)<=i/\i<xs.length:=by
 unfold atI at h
 cases e:ixN xs.length i with
 |none=>rw[e]at h;cases h
 |some j =>rw[e]at h;obtain⟨h1,h2,h3,h4⟩:=AD e;exact⟨j,h1,h,h2,h3,h4⟩
theorem kQ{α:Type}{xs:List α}{j:Nat}{v:α}(h:xs[j]?=some v):atI xs (j:Int)=some v:=by
 have hj:j<xs.length:=(List.getElem?_eq_some_iff.mp h).1
 have e:ixN xs.length (j:Int)=some j:=by unfold ixN;rw[if_pos (by omega),if_pos (by omega)];simp
 unfold atI;rw[e];exact h
theorem v5{α:Type}(xs:List α)(v:α):atI (xs++[v]) (-1)=some v:=by
 have hl:(xs++[v]).length=xs.length+1:=by simp
 have e:ixN (xs++[v]).length (-1)=some xs.length:=by
  unfold ixN;rw[hl,if_neg (by decide),if_pos (by omega)]
  congr 1
  omega
 unfold atI;rw[e];show(xs++[v])[xs.length]?=some v;simp
def Mo(b:Expr):Prop:=∀o i,subscripted b false o i=operate [o,i] (getItem o i)
noncomputable def IxR(X:Cx)(r:R2):Prop :=
 ∀(value slice:Expr) (pins:List (Addr×Obj)) (s:Shared) (σ:St) (H:Hp) (x y:V) (v u:Value) (Q:VK),Inv X pins σ H s->RelV x v->RelV y u->r x y H Q ->
  subscripted slice false v u=operate [v,u] (getItem v u)->wpAny (model X.prog X.w) X.A (subscriptTail value slice v u) (EP X pins σ Q) X.xe s
noncomputable def MtR(X:Cx)(id:String)(r:V->List V->Hp->VK->Prop):Prop :=
 ∀(pins:List (Addr×Obj)) (s:Shared) (σ:St) (H:Hp) (x:V) (xs:List V) (v:Value) (us:List Value) (Q:VK),Inv X pins σ H s->RelV x v->Vals xs us->r x xs H Q ->
  wpAny (model X.prog X.w) X.A (call (.builtin id) (v::us)) (EP X pins σ Q) X.xe s
section
variable {X:Cx}{a b:Expr}{ta tb:TE}{pos:Pos}
theorem IxR.or{r r':R2}(h:IxR X r)(h':IxR X r'):IxR X (λx y H Q=>r x y H Q\/r' x y H Q):=by
 intro value slice pins s σ H x y v u Q I rx ry q hs;rcases q with q |q
 ·exact h value slice pins s σ H x y v u Q I rx ry q hs
 ·exact h' value slice pins s σ H x y v u Q I rx ry q hs
theorem MtR.or{id:String}{r r':V->List V->Hp->VK->Prop}(h:MtR X id r)(h':MtR X id r'):MtR X id (λx xs H Q=>r x xs H Q\/r' x xs H Q):=by
 intro pins s σ H x xs v us Q I rx rs q;rcases q with q |q
 ·exact h pins s σ H x xs v us Q I rx rs q
 ·exact h' pins s σ H x xs v us Q I rx rs q
theorem aE{r:R2}(hr:IxR X r)(ha:PE X a ta)(hb:PE X b tb)(hs:Mo b):PE X (.Subscript a b pos) (tOp r ta tb):=by intro pins s σ H Q I h;exact Subscript_ (vO ha hb I h λv u s2 x y H2 I2 rx ry q=>hr a b pins s2 σ H2 x y v u Q I2 rx ry q (hs _ _))
def y4(K:PySem.W.Frag):R2:=λx y H Q=>∃p xs i v,x=.ref p/\y=.int i/\SqL K H p xs/\atI xs i=some v/\Q v H
def y0(K:PySem.W.Frag):R2:=λx y H Q=>∃p xs i v,x=.ref p/\y=.int i/\SqT K H p xs/\atI xs i=some v/\Q v H
theorem JB:IxR X (y4 X.K):=by
 intro value slice pins s σ H x y v u Q I rx ry h hs;obtain⟨p,xs,i,z,rfl,rfl,hq,he,q⟩:=h;cases rx;obtain⟨t,rfl⟩:=ry;obtain⟨its,r,pl,hz⟩:=I.list hq;obtain⟨j,h1,h2,h3,h4,h5⟩:=Cn he;obtain⟨w,ew,rw'⟩:=r.get h2;have hl:=r.length;have hn:=mG;have fin:EP X pins σ Q w s:=⟨z,H,I,rw',q⟩;by_cases h0:0<=i
 ·have hj:i.toNat=j:=by rw[seqIndex_of h0 h5]at h1;exact Option.some.inj h1
  exact item_listR pl.isList h0 (by omega) (by rw[hj];simpa using ew) fin hs
 ·have hj:(i+(its.toArray.size:Int)).toNat=j:=by rw[seqIndex_neg (by omega) h4]at h1;rw[P4,<- hl];exact Option.some.inj h1
  exact subscriptTail_builtinR (x:=w) pl.isList.typeIs slot_list_getitem.lookup
   (wpAny_getItem_list_neg (Q:=λr s'=>r=w/\EP X pins σ Q r s') pl.isList (by omega) (by rw[P4]<;>omega) (by omega) (by rw[hj];simpa using ew) ⟨rfl,fin⟩) hs
theorem JA:IxR X (y0 X.K):=by
 intro value slice pins s σ H x y v u Q I rx ry h hs;obtain⟨p,xs,i,z,rfl,rfl,hq,he,q⟩:=h;cases rx;obtain⟨t,rfl⟩:=ry;obtain⟨its,r,pl,hz⟩:=I.tuple hq;obtain⟨j,h1,h2,h3,h4,h5⟩:=Cn he;obtain⟨w,ew,rw'⟩:=r.get h2;have hl:=r.length;have hn:=mG;have fin:EP X pins σ Q w s:=⟨z,H,I,rw',q⟩
 exact subscriptTail_builtinR (x:=w) pl.typeIs slot_tuple_getitem.lookup
  (getItem_tuple (j:=j) (Q:=λr s'=>r=w/\EP X pins σ Q r s') pl (by omega) (by omega) (by rw[P4,<- hl];exact h1) (by simpa using ew) ⟨rfl,fin⟩) hs
theorem HU(its:List Value)(n j:Nat)(u:Value):Obj.mapSeq (·.setIfInBounds j u) { cls:=.type "list",data:=.seq its.toArray n }={ cls:=.type "list",data:=.seq (its.set j u).toArray n }:=by simp[Obj.mapSeq]
theorem Inv.lst{pins:List (Addr×Obj)}{σ:St}{H:Hp}{s:Shared}{p:Addr}{xs:List V}(I:Inv X pins σ H s)(h:H p=some (.lst xs)) :
 ∃(its:List Value) (n:Nat),Vals xs its/\s.heap.get? p=some { cls:=.type "list",data:=.seq its.toArray n }/\xs.length<=sizeLine:=by
 obtain⟨z,its,n,r,e⟩:=I.hok p _ h;exact⟨its,n,r,e,z⟩
theorem Inv.lstUpd{pins:List (Addr×Obj)}{σ:St}{H:Hp}{s:Shared}{p:Addr}{xs ys:List V}{its its':List Value}{n n':Nat}{f:Obj->Obj}(I:Inv X pins σ H s)(h:H p=some (.lst xs))
 (ho:s.heap.get? p=some { cls:=.type "list",data:=.seq its.toArray n }) (hf:f { cls:=.type "list",data:=.seq its.toArray n }={ cls:=.type "list",data:=.seq its'.toArray n' }) (r:Vals ys its') (hz:ys.length<=sizeLine) (t:Nat) :
 Inv X pins σ (upd H p (.lst ys)) { s with heap:=s.heap.update p f,toks:=t }:=by
 have e:(s.heap.update p f).get? p=some { cls:=.type "list",data:=.seq its'.toArray n' }:=by rw[Heap.get?_update_self f ho (by rw[hf]<;>rfl),hf]
 refine I.write (x:=p) (e:=p) (by rw[h];trivial) (.inl rfl) (λb u hb q=>(Heap.get?_update_other _ _ (Ne.symm hb)).trans q) ⟨_,e⟩ ?_;exact⟨hz,its',n',r,e⟩
noncomputable def Fh:V->V->V->Hp->(Hp->Prop)->Prop:=λo i v H Q=>∃p xs k j,o=.ref p/\i=.int k/\H p=some (.lst xs)/\ixN xs.length k=some j/\Q (upd H p (.lst (xs.set j v)))
theorem lJ:Cr X Fh:=by
 intro pins s σ H o i v ov iv u Q I ro ri rv h;obtain⟨p,xs,k,j,rfl,rfl,hp,hj,q⟩:=h;cases ro;obtain⟨t,rfl⟩:=ri;obtain⟨its,n,r,ho,hz⟩:=I.lst hp;obtain⟨h1,h2,h3,h4⟩:=AD hj;have hl:=r.length;have hn:=mG
 have I':Inv X pins σ (upd H p (.lst (xs.set j v))) { s with heap:=s.heap.update p (Obj.mapSeq (·.setIfInBounds j u)) } :=
  I.lstUpd hp ho (HU its n j u) (r.set rv j) (by rw[Rb];exact hz) s.toks
 by_cases h0:0<=k
 ·have hk:k.toNat=j:=by rw[seqIndex_of h0 h4]at h1;exact Option.some.inj h1
  exact PySem.W.ki_setAt ho h0 (by omega) (by rw[P4,<- hl];exact h4) (by rw[hk];exact⟨_,I',q⟩)
 ·have hk:(k+(its.toArray.size:Int)).toNat=j:=by rw[seqIndex_neg (by omega) h3]at h1;rw[P4,<- hl];exact Option.some.inj h1
  exact PySem.W.ki_setBack ho (by omega) (by rw[P4,<- hl];exact h3) (by omega) (by rw[hk];exact⟨_,I',q⟩)
theorem DK(lo hi:Option Int)(n:Nat):(sliceBounds lo hi none n).1=((HT.sIx n 0 lo:Nat):Int)/\(sliceBounds lo hi none n).2.1=((HT.sIx n n hi:Nat):Int)/\(sliceBounds lo hi none n).2.2=1:=by
 refine⟨?_,?_,rfl⟩
 ·cases lo with
  |none=>simp[sliceBounds,HT.sIx]
  |some i =>
   simp only[sliceBounds,HT.sIx,Option.getD_none,show(1:Int)>0 by decide,if_true];by_cases h:i<0
   ·simp only[h,if_true]<;>omega
   ·simp only[h,if_false]<;>omega
 ·cases hi with
  |none=>simp[sliceBounds,HT.sIx]
  |some i =>
   simp only[sliceBounds,HT.sIx,Option.getD_none,show(1:Int)>0 by decide,if_true];by_cases h:i<0
   ·simp only[h,if_true]<;>omega
   ·simp only[h,if_false]<;>omega
theorem DL(its:List Value)(lo hi:Option Int):slicePick its.toArray lo hi none=((its.drop (HT.sIx its.length 0 lo)).take (HT.sIx its.length its.length hi-HT.sIx its.length 0 lo)).toArray:=by obtain⟨h1,h2,h3⟩:=DK lo hi its.toArray.size;unfold slicePick;rw[h1,h2,h3];simp only[sliceRange_one,pick_run,P4]<;>rfl
noncomputable def tQ(K:PySem.W.Frag):V->Option Int->Option Int->Hp->VK->Prop:=λx lo hi H Q=>∃a xs,x=.ref a/\SqL K H a xs/\∀p,H p=none->Q (.ref p) (upd H p (.lst (iB xs lo hi)))
theorem DM:SlR X (tQ X.K):=by intro pins s σ H x v vl vu lo hi sl Q I rx hs pl pu h;obtain⟨a,xs,rfl,hx,q⟩:=h;cases rx;obtain⟨its,r,ht,hz⟩:=I.list hx;have hlen:=r.length;refine⟨"list",_,slot_list_getitem.lookup,ht.isList.typeIs,?_⟩;refine wpAny_getItem_list_slice ht.isList hs pl pu .none (by simp) ?_ (by rw[P4]<;>omega);rw[DL,<- hlen];refine⟨.ref s.heap.objs.size,_,I.laid (t':=s.toks) (o:=.lst (iB xs lo hi)) (λb ob q=>Heap.get?_push_of_some _ q) (Pn _) ?_,rfl,q _ (I.hok.fresh (Pn _))⟩;exact⟨PM (Ld xs lo hi) hz,_,0,(r.drop (HT.sIx xs.length 0 lo)).take (HT.sIx xs.length xs.length hi-HT.sIx xs.length 0 lo),Heap.get?_push_size _ rfl⟩
theorem Lz:CallR X (.builtin "len") (λxs H Q=>∃p ys,xs=[.ref p]/\(SqL X.K H p ys\/SqT X.K H p ys)/\Q (.int ys.length) H):=by
 intro pins s σ H xs us Q I r h;obtain⟨p,ys,rfl,hq,q⟩:=h;obtain⟨u,rfl,rx⟩:=hJ r;cases rx;have hn:=mG;rcases hq with hq |hq
 ·obtain⟨its,r',pl,hz⟩:=I.list hq;have hlen:=r'.length;exact Calls.call_len_list pl.isList (by simp only[P4]<;>omega) ⟨.int ys.length,H,I.tok _,⟨s.toks+1,by rw[P4,hlen]⟩,q⟩
 ·obtain⟨its,r',pl,hz⟩:=I.tuple hq;have hlen:=r'.length;exact len_tuple pl (by simp only[P4]<;>omega) ⟨.int ys.length,H,I.tok _,⟨s.toks+1,by rw[P4,hlen]⟩,q⟩
theorem CallR.or{f:Value}{r r':List V->Hp->VK->Prop}(h:CallR X f r)(h':CallR X f r'):CallR X f (λxs H Q=>r xs H Q\/r' xs H Q):=by
 intro pins s σ H xs us Q I rs q;rcases q with q |q
 ·exact h pins s σ H xs us Q I rs q
 ·exact h' pins s σ H xs us Q I rs q
theorem Ly:CallR X (.type "list") (λxs H Q=>∃p ys,xs=[.ref p]/\(SqL X.K H p ys\/SqT X.K H p ys)/\∀l,H l=none->Q (.ref l) (upd H l (.lst ys))):=by
 intro pins s σ H xs us Q I r h;obtain⟨p,ys,rfl,hq,q⟩:=h;obtain⟨u,rfl,rx⟩:=hJ r;cases rx
 have fin:∀(its:List Value),Vals ys its->ys.length<=sizeLine->∀(h':Heap) (c':Nat),(∀b o',s.heap.get? b=some o'->h'.get? b=some o') ->
  h'.get? s.heap.objs.size=some { cls:=.type "list",dict:=none,data:=.seq its.toArray c',slots:=#[] }->EP X pins σ Q (.ref s.heap.objs.size) { s with heap:=h' }:=λits r' hz h' c' kp e =>
  ⟨.ref s.heap.objs.size,_,I.laid (t':=s.toks) kp (Pn _) (show ObjOk X.prog X.w _ h' _ (.lst ys)from⟨hz,its,c',r',e⟩),rfl,q _ (I.hok.fresh (Pn _))⟩
 rcases hq with hq |hq
 ·obtain⟨its,r',pl,hz⟩:=I.list hq;have hlen:=r'.length;obtain⟨o,ho,hc,n,hd⟩:=pl.isList;exact call_list_seq p (.inl rfl) ho hc hd (λh' c' kp e=>fin its r' hz h' c' kp e) (by simp only[P4]<;>omega)
 ·obtain⟨its,r',pl,hz⟩:=I.tuple hq;have hlen:=r'.length;obtain⟨o,ho,hc,n,hd⟩:=pl;exact call_list_seq p (.inr rfl) ho hc hd (λh' c' kp e=>fin its r' hz h' c' kp e) (by simp only[P4]<;>omega)
def tyV(K:PySem.W.Frag)(T:String)(x:V)(H:Hp):Prop:=match x with
 |.str _=>T="str"
 |.int _=>T="int"
 |.ref p=>(T="list"/\∃xs,SqL K H p xs)\/(T="tuple"/\∃o,K.lookup p=some o/\o.cls=.type "tuple"/\o.dict=none) \/
  (T="dict"/\((∃kvs,H p=some (.dK kvs))\/∃kvs,H p=some (.dT kvs)))\/(T="set"/\∃S n,H p=some (.set S n))
 |_=>False
theorem wZ{pins:List (Addr×Obj)}{σ:St}{H:Hp}{s:Shared}{T:String}{x:V}{v:Value}(I:Inv X pins σ H s)(r:RelV x v)(ty:tyV X.K T x H) :
 s.TypeIs v T/\∀a,v=.ref a->∃ob,s.heap.get? a=some ob/\ob.dict=none:=by
 cases x with
 |str z =>obtain⟨t,rfl⟩:=r;cases(show T="str" from ty);exact⟨typeIs_str s z t,λ_ e=>nomatch e⟩
 |int i =>obtain⟨t,rfl⟩:=r;cases(show T="int" from ty);exact⟨typeIs_int s i t,λ_ e=>nomatch e⟩
 |ref p =>
  cases r;rcases ty with⟨rfl,xs,hq⟩ |⟨rfl,o,hk,hc,hd⟩ |⟨rfl,hk⟩ |⟨rfl,S,n,hk⟩
  ·obtain⟨its,_,pl,_⟩:=I.list hq;refine⟨pl.isList.typeIs,λa e=>?_⟩;cases e;obtain⟨o,n,e,c,hd,_⟩:=pl;exact⟨o,e,hd⟩
  ·refine⟨⟨o,I.kIn p o hk,hc⟩,λa e=>?_⟩;cases e;exact⟨o,I.kIn _ o hk,hd⟩
  ·have z:∃o,s.heap.get? p=some o/\o.ExactDict:=by
    rcases hk with⟨kvs,hk⟩ |⟨kvs,hk⟩
    ·obtain⟨_,_,_,_,o,_,_,e,ex,_⟩:=I.hok p _ hk;exact⟨o,e,ex⟩
    ·obtain⟨_,_,_,_,o,_,_,e,ex,_⟩:=I.hok p _ hk;exact⟨o,e,ex⟩
   obtain⟨o,e,ex⟩:=z;refine⟨⟨o,e,ex.1⟩,λa e2=>?_⟩;cases e2;exact⟨o,e,ex.2.1⟩
  ·obtain⟨o,_,_,_,e,ex,_⟩:=I.hok p _ hk;refine⟨⟨o,e,ex.1⟩,λa e2=>?_⟩;cases e2;exact⟨o,e,ex.2.1⟩
 |_=>exact False.elim ty
def Dx(K:PySem.W.Frag)(T:String)(r:V->List V->Hp->VK->Prop)(to:TE):TE:=λσ H Q=>to σ H λx H1=>tyV K T x H1/\r x [] H1 Q
def tBM(K:PySem.W.Frag)(T:String)(r:V->List V->Hp->VK->Prop)(to:TE)(t:TA):TE:=λσ H Q=>to σ H λx H1=>tyV K T x H1/\t σ H1 λxs H2=>r x xs H2 Q
variable {o e:Expr}{es:List Expr}{to:TE}{t:TA}{name:Str}{apos cpos:Pos}{T id:String}{r:V->List V->Hp->VK->Prop}
theorem zn(pa:PlainAttrs T)(slot:Slot T name id)(hty:typeOf (.builtin id)=pure (.type "method_descriptor"))(hm:MtR X id r)(ho:PE X o to)
 (hbase:attributeBase o name X.env (eval o X.env)=eval o X.env:=by rfl) (hline:(apos.endLine == cpos.line)=true:=by rfl):PE X (.Call (.Attribute o name apos) [] [] cpos) (Dx X.K T r to):=by
 intro pins s σ H Q I h;refine wpAny_Call_method0_late hbase hline (thn (ho pins s σ H _ I h) λv s1 ⟨x,H1,I1,r1,ty,q1⟩=>?_);obtain⟨h1,h2⟩:=wZ I1 r1 ty;exact⟨T,id,pa,slot,hty,h1,h2,Calls.callWith_builtin rfl (PySem.evalArgs_none (hm pins s1 σ H1 x [] v [] Q I1 r1 .nil q1))⟩
theorem me(pa:PlainAttrs T)(slot:Slot T name id)(hty:typeOf (.builtin id)=pure (.type "method_descriptor"))(hm:MtR X id r)(ho:PE X o to)(ha:PA X (e::es) t)
 (hbase:attributeBase o name X.env (eval o X.env)=eval o X.env:=by rfl)
 (hfew:((backTo cpos (starEach (e::es) X.env)).all (λx=>!x.1)&&(backToKw cpos (keywordEach [] X.env)).all (λx=>x.1.isSome)
   && decide ((e::es).length+([]:List Keyword).length+(if([]:List Keyword).isEmpty then 0 else 1)<30))=true:=by rfl)
 (hline:(apos.endLine == cpos.line)=true:=by rfl) (hs:starEach (e::es) X.env=(false,eval e X.env)::starEach es X.env:=by rfl) (hplain:(backTo cpos (starEach es X.env)).any (·.1)=false:=by rfl) :
 PE X (.Call (.Attribute o name apos) (e::es) [] cpos) (tBM X.K T r to t):=by
 intro pins s σ H Q I h;refine wpAny_Call_method_late hbase hfew hline rfl (thn (ho pins s σ H _ I h) λv s1 ⟨x,H1,I1,r1,ty,q1⟩=>?_);obtain⟨h1,h2⟩:=wZ I1 r1 ty;refine⟨T,id,pa,slot,hty,h1,h2,?_⟩;have hA:=ha cpos pins s1 σ H1 _ I1 q1;rw[hs]at hA ⊢;refine Calls.callWith_builtin (by show(false || (backTo cpos (starEach es X.env)).any (·.1))=false;rw[hplain]<;>rfl) (Calls.evalArgs_plain ?_);exact thn hA λus s2 ⟨vs,H2,I2,r2,q2⟩=>hm pins s2 σ H2 x vs v us Q I2 r1 r2 q2
end
noncomputable def MtM(X:Cx)(id:String)(r:V->List V->Hp->VK->Prop):Prop :=
 ∀(pins:List (Addr×Obj)) (s:Shared) (σ:St) (H:Hp) (x:V) (xs:List V) (v:Value) (us:List Value) (Q:VK),Inv X pins σ H s->RelV x v->Vals xs us->r x xs H Q ->
  wpAny (model X.prog X.w) X.A (call (.builtin id) (v::us)) (EP X pins σ Q) X.xe s
theorem Vals.one:∀{x:V} {us:List Value},Vals [x] us->∃u,us=[u]/\RelV x u
 |_,_,.cons r .nil=>⟨_,rfl,r⟩
theorem Vals.two:∀{x y:V} {us:List Value},Vals [x,y] us->∃u v,us=[u,v]/\RelV x u/\RelV y v
 |_,_,_,.cons r (.cons q .nil)=>⟨_,_,rfl,r,q⟩
theorem Vals.zero:∀{us:List Value},Vals [] us->us=[]
 |_,.nil=>rfl
theorem Vals.dropLast{xs:List V}{us:List Value}(h:Vals xs us):Vals xs.dropLast us.dropLast:=by
 induction h with
 |nil=>exact .nil
 |cons r t ih =>
  cases t with
  |nil=>exact .nil
  |cons q t'=>exact .cons r ih
theorem Vals.eraseIdx:∀{xs:List V} {us:List Value} (i:Nat),Vals xs us->Vals (xs.eraseIdx i) (us.eraseIdx i)
 |_,_,_,.nil=>.nil
 |_,_,0,.cons _ t=>t
 |_,_,i+1,.cons r t=>.cons r (Vals.eraseIdx i t)
theorem Vals.reverse{xs:List V}{us:List Value}(h:Vals xs us):Vals xs.reverse us.reverse:=by
 induction h with
 |nil=>exact .nil
 |cons r t ih=>rw[List.reverse_cons,List.reverse_cons];exact Vals.append ih (.cons r .nil)
theorem Vals.rep{xs:List V}{us:List Value}(h:Vals xs us):∀k:Nat,Vals (List.replicate k xs).flatten (List.replicate k us).flatten
 |0=>.nil
 |k+1=>by rw[QY,QY,Rx,Rx];exact Vals.append h (Vals.rep h k)
theorem KO{α:Type}(l:List α):l.eraseIdx (l.length-1)=l.dropLast:=by
 induction l with
 |nil=>rfl
 |cons a r ih =>
  cases r with
  |nil=>rfl
  |cons b r =>
   have e:(a::b::r).length-1=((b::r).length-1)+1:=by have h1:(a::b::r).length=r.length+2:=rfl;have h2:(b::r).length=r.length+1:=rfl;omega
   rw[e,List.eraseIdx_cons_succ,ih]
   all_goals rfl
theorem A7(its:List Value):∀(k:Nat) (acc:List Value),
 List.foldl (λx1 x2=>x1++x2) acc.toArray (List.replicate k its.toArray)=(acc++(List.replicate k its).flatten).toArray
 |0,acc=>by simp
 |k+1,acc=>by
  have e:acc.toArray++its.toArray=(acc++its).toArray:=by simp
  have e2:(acc++its)++(List.replicate k its).flatten=acc++(List.replicate (k+1) its).flatten:=by rw[QY,Rx,List.append_assoc]
  rw[<- e2,<- A7 its k (acc++its),<- e,QY,List.foldl_cons]
section
variable {X:Cx}{pins:List (Addr×Obj)}{σ:St}{H:Hp}{s:Shared}{l b:Addr}{xs ys zs:List V}
theorem Inv.lset{its its':List Value}{n:Nat}{f:Array Value->Array Value}{t':Nat}(I:Inv X pins σ H s)(hH:H l=some (.lst xs))
 (e:s.heap.get? l=some { cls:=.type "list",data:=.seq its.toArray n }) (hf:f its.toArray=its'.toArray) (hv:Vals ys its') (hz:ys.length<=sizeLine) :
 Inv X pins σ (upd H l (.lst ys)) { s with heap:=s.heap.update l (Obj.mapSeq f),toks:=t' }:=by
 have q:=PySem.IsL.update e f;rw[hf]at q;refine I.write (x:=l) (e:=l) (by rw[hH];exact trivial) (.inl rfl) (λb' u hb hu=>(Heap.get?_update_other s.heap (Obj.mapSeq f) (Ne.symm hb)).trans hu) ⟨_,q⟩ ?_;exact⟨hz,its',_,hv,q⟩
theorem Inv.lnew{its:List Value}{t':Nat}(I:Inv X pins σ H s)(hv:Vals ys its)(hz:ys.length<=sizeLine) :
 Inv X pins σ (upd H s.heap.objs.size (.lst ys)) { s with heap:=s.heap.push { cls:=.type "list",data:=.seq its.toArray },toks:=t' } :=
 I.laid (λ_ _ q=>Heap.get?_push_of_some _ q) (Pn _) ⟨hz,its,0,hv,Heap.get?_push_size _ rfl⟩
theorem Inv.fresh(I:Inv X pins σ H s):H s.heap.objs.size=none:=I.hok.fresh (Pn _)
theorem Inv.lstM(I:Inv X pins σ H s)(hH:H l=some (.lst xs)):xs.length<=sizeLine/\∃(its:List Value) (n:Nat),Vals xs its/\xs.length=its.length/\s.heap.get? l=some { cls:=.type "list",data:=.seq its.toArray n }:=by obtain⟨z,its,n,r,e⟩:=I.hok l _ hH;exact⟨z,its,n,r,r.length,e⟩
theorem Hy{n:Nat}(h:n<=sizeLine):Builtin.List.listTooLong n=false:=by unfold Builtin.List.listTooLong;exact decide_eq_false (by omega)
end
section
variable {X:Cx}
noncomputable def Fp:V->List V->Hp->VK->Prop:=λx vs H Q=>∃l xs y,x=.ref l/\vs=[y]/\H l=some (.lst xs)/\xs.length<sizeLine/\Q .non (upd H l (.lst (xs++[y])))
theorem mr:MtM X "list.append" Fp:=by intro pins s σ H x vs v us Q I rx rv h;obtain⟨l,xs,y,rfl,rfl,hH,hz,q⟩:=h;cases rx;obtain⟨u,rfl,ru⟩:=rv.one;obtain⟨z,its,n,r,hl,e⟩:=I.lstM hH;refine call_meets F.slot_list_append ⟨_,e,rfl⟩ F.entry_list_append (F.args_list_append_2 _ _) (PySem.list_append l its.toArray n u (by rw[P4];omega)) ⟨e,?_⟩;refine⟨.non,_,I.lset (its':=its++[u]) hH e (by simp) (r.append (.cons ru .nil)) ?_,rfl,q⟩;rw[P6,List.length_singleton];omega
noncomputable def Fk:V->List V->Hp->VK->Prop:=λx vs H Q=>∃l xs y,x=.ref l/\vs=[]/\H l=some (.lst xs)/\xs[xs.length-1]?=some y/\Q y (upd H l (.lst xs.dropLast))
theorem HH:MtM X "list.pop" Fk:=by
 intro pins s σ H x vs v us Q I rx rv h;obtain⟨l,xs,y,rfl,rfl,hH,hy,q⟩:=h;cases rx;have hus:=rv.zero;subst hus;obtain⟨z,its,n,r,hl,e⟩:=I.lstM hH;obtain⟨u,hu,ru⟩:=r.get hy
 have hy':its.toArray[its.toArray.size-1]?=some u:=by show its.toArray[its.length-1]?=some u;rw[<- Array.getElem?_toList,<- hl];exact hu
 refine call_meets F.slot_list_pop ⟨_,e,rfl⟩ F.entry_list_pop (F.args_list_pop_1 _) (MeetsSeq.list_pop_last l its.toArray n u hy' (by rw[P4];omega)) ⟨e,?_⟩;refine⟨y,_,I.lset (its':=its.dropLast) hH e ?_ r.dropLast ?_,ru,q⟩
 ·show its.toArray.eraseIdxIfInBounds (its.toArray.size-1)=its.dropLast.toArray;rw[P4,List.eraseIdxIfInBounds_toArray,KO]
 ·rw[List.length_dropLast];omega
noncomputable def Fi:V->List V->Hp->VK->Prop:=λx vs H Q=>∃l xs,x=.ref l/\vs=[]/\H l=some (.lst xs)/\Q .non (upd H l (.lst xs.reverse))
theorem HG:MtM X "list.reverse" Fi:=by intro pins s σ H x vs v us Q I rx rv h;obtain⟨l,xs,rfl,rfl,hH,q⟩:=h;cases rx;have hus:=rv.zero;subst hus;obtain⟨z,its,n,r,hl,e⟩:=I.lstM hH;refine call_meets F.slot_list_reverse ⟨_,e,rfl⟩ F.entry_list_reverse (F.args_list_reverse_1 _) (AutoSeq1.list_reverse_list_0 l its.toArray n (by rw[P4];omega)) ⟨e,?_⟩;refine⟨.non,_,I.lset (its':=its.reverse) hH e (by simp) r.reverse ?_,rfl,q⟩;rw[List.length_reverse];omega
def Fo:R2:=λx y H Q=>∃l b xs zs,x=.ref l/\y=.ref b/\H l=some (.lst xs)/\H b=some (.lst zs)/\xs.length+zs.length<=sizeLine/\∀p,H p=none->Q (.ref p) (upd H p (.lst (xs++zs)))
theorem FZ:OpR X (binaryOp .Add) Fo:=by
 intro pins s σ H x y v u Q I rx ry h;obtain⟨l,b,xs,zs,rfl,rfl,hH,hB,hz,q⟩:=h;cases rx;cases ry;obtain⟨z,its,n,r,hl,e⟩:=I.lstM hH;obtain⟨z2,its2,n2,r2,hl2,e2⟩:=I.lstM hB;refine PySem.P.add_list e e2 ?_ (by rw[P4,P4];omega);have ea:its.toArray++its2.toArray=(its++its2).toArray:=by simp
 rw[ea];exact⟨.ref _,_,I.lnew (t':=s.toks) (r.append r2) (by rw[P6];omega),rfl,q _ I.fresh⟩
def Fj:R2:=λx y H Q=>∃l k xs,x=.ref l/\y=.int k/\H l=some (.lst xs) /\ -(2^63)<=k/\k<2^63/\xs.length*k.toNat<=sizeLine /\
 ∀p,H p=none->Q (.ref p) (upd H p (.lst (List.replicate k.toNat xs).flatten))
theorem IM{α:Type}(xs:List α)(k:Nat):(List.replicate k xs).flatten.length=k*xs.length:=by
 induction k with
 |zero=>simp
 |succ k ih=>rw[QY,Rx,P6,ih,Nat.succ_mul,Nat.add_comm]
theorem uf:OpR X (binaryOp .Mult) Fj:=by
 intro pins s σ H x y v u Q I rx ry h;obtain⟨l,k,xs,rfl,rfl,hH,h1,h2,hz,q⟩:=h;cases rx;obtain⟨t,rfl⟩:=ry;obtain⟨z,its,n,r,hl,e⟩:=I.lstM hH;have hlen:its.toArray.size*k.toNat<=sizeLine:=by rw[P4,<- hl];exact hz
 have hcap:¬its.toArray.size*k.toNat>(2^63-1)/8:=by
  have:(sizeLine:Nat)<=(2^63-1)/8:=by decide
  omega
 have hfit:¬(!Builtin.List.listFitsIndex k)=true:=by rw[fitsIndex_both h1 h2];exact Ra
 have hlong:¬Builtin.List.listTooLong (its.toArray.size*k.toNat)=true:=by rw[Hy hlen];exact Ra
 have hnew:List.foldl (λx1 x2=>x1++x2) #[] (List.replicate (if its.toArray.isEmpty=true then 0 else k.toNat) its.toArray)=(List.replicate k.toNat its).flatten.toArray:=by
  have f0:∀m:Nat,List.foldl (λx1 x2=>x1++x2) #[] (List.replicate m its.toArray)=(List.replicate m its).flatten.toArray:=λm=>by have:=A7 its m [];rw[List.nil_append]at this;exact this
  rw[f0];cases its with
  |nil=>simp
  |cons a r'=>rw[if_neg (by simp)]
 refine wpAny_binaryOp_repeat_ref (T:="list") (U:="int") (by decide) ⟨_,e,rfl⟩ (λs'=>typeIs_int s' k t) noFill_list_mul F.fills_int_mul F.slot_int_rmul repeat_list F.slot_int_index.lookup
  (call_meets F.slot_int_rmul (typeIs_int s k t) F.entry_int_rmul (F.args_int_rmul_2 _ _) (int___rmul___int_list k t l its.toArray n)
    ⟨e,rfl,⟨_,e,rfl⟩,call_meets F.slot_list_mul ⟨_,e,rfl⟩ F.entry_list_mul (F.args_list_mul_2 _ _) (AutoListH.list___mul___list_int_3 l its.toArray n k t hfit hcap hlong) ⟨e,?_⟩⟩)
 rw[hnew];exact⟨.ref _,_,I.lnew (t':=s.toks) (r.rep k.toNat) (by rw[IM,QK];exact hz),rfl,q _ I.fresh⟩
end
section
variable {prog:Program}{w:World}{A:Around}{E:Value->Shared->Prop}{s:Shared}
end
section
variable {X:Cx}
end
end L2
namespace Att
open PySem PySem.W PySem.Calls PyProof.Rows
theorem JF{P:Params}{h:Heap}:∀(ns:List Int) (vs:List Value),WellAll P h vs (ns.map WData.int)->IntsAre vs ns:=by
 intro ns
 induction ns with
 |nil =>intro vs w;rw[List.map_nil]at w;cases w;exact .nil
 |cons n ns ih =>
  intro vs w;rw[Qp]at w;cases w with
  |cons a b =>cases a;exact .cons _ _ (ih _ b)
theorem D4{l:OpenLaw}{n:Nat}(hn:l.most=some n){P:Params}{h:Heap}{args:List WData}{vals:List Value}
 (hpre:l.row.toRowW.claim.pre args=true) (hwl:WellAll P h vals args) :
 ∃a vs ns,vals=[Value.ref a]/\args=[WData.list (ns.map WData.int)]/\h.get? a=some { cls:=.type "list",data:=.seq vs.toArray }/\IntsAre vs ns/\ns.length<=n:=by
 have hsh:WShape.hasAll [] args [.list .int]=true:=(pre_splitW hpre).1;have hc:l.pre.holds [] { args:=args }=true:=(pre_splitW hpre).2;obtain⟨d,r,rfl,h1,h2⟩:=hasAllW_cons hsh;obtain rfl:=hasAllW_nil h2;obtain⟨xs,rfl,h3⟩:=hasW_list h1;obtain⟨ns,rfl⟩:=items_int h3
 have hlen:ns.length<=n:=by
  unfold OpenLaw.pre at hc
  have h4:(WTm.not (.lt (.lit (.int (n:Int))) (.len (.arg 0)))).holds [] { args:=[.list (ns.map .int)] }=true:=by have h4:=(holds_andW hc).1;rw[hn]at h4;exact h4
  have h5:=condW_of h4 (w_not (w_lt w_lit (w_len_list (w_arg rfl))));rw[Pk]at h5;refine QL λq=>?_
  have q':(n:Int)<((ns.length:Nat):Int):=by omega
  first
   | (rw[decide_eq_true q']at h5;exact absurd h5 (by decide))
   | (simp at h5;omega)
 cases hwl with
 |cons w1 w2 =>
  cases w2;cases w1 with
  |list ho hall=>exact⟨_,_,ns,rfl,rfl,ho,JF ns _ hall,hlen⟩
theorem FB(l:OpenLaw)(args:List WData):l.row.toRowW.claim.post args (.bool true) args=true :=
 postW_of (r:=l.row.toRowW) (X:=(true == true))
  (show WShape.has [] (.bool true) .bool=true by first |rfl |decide |simp[WShape.has,WShape.arms,WShape.armsAll])
  (show(WTm.eq .res (.lit (.bool true))).value [] { args:=args,res:=some (.bool true),after:=args }=some (.bool (true == true))from w_eq_bool (w_res rfl) w_lit) rfl
theorem attach_call{l:OpenLaw}{n:Nat}{q:Program}{loose:List Str}{XP:(Str->Option Value)->Heap->Prop}{YP:World->Heap->Prop}{d:DefRec}
 (hn:l.most=some n) (hdf:d.params.defaults=[])
 (call:∀(w:World) (s₀ s₁:Shared) (mg mb:Str->Option Value) (fa:Addr) (o:Obj) (pm cd doc:Value) (a:Addr) (vs:List Value) (ns:List Int),
   Ground q loose [] XP w s₀ mg mb s₁.heap->YP w s₁.heap ->
   s₁.heap.get? fa=some o->o.data=.func (docDef d.name d.params d.body d.scope pm cd doc)->s₁.heap.CodeRec cd d.name->mg d.name=some (.ref fa) ->
   s₁.heap.get? a=some { cls:=.type "list",data:=.seq vs.toArray }->IntsAre vs ns->ns.length<=n->s₁.gens=#[] ->
   codeAny (model l.prog w) callerA (.call (.ref fa) ⟨[.ref a],[]⟩) (λr s'=>r=.ok (.ret (.bool true))/\OldK s₁.heap s'.heap/\s'.os=s₁.os/\AllBare s'.gens) s₁) :
 WalkO q loose XP YP l.row.toRowW d [] (λf vs=>PySem.call f vs):=by
 intro w s₀ s₁ mg mb G Y fa o pm cd doc dV kV ho hd hcd hD hmg hg args vals as hpre hlay hrd hwl hlo;obtain rfl:dV=.none:=Dflts.none hD hdf;obtain rfl:kV=.none:=Dflts.noKw hD;obtain⟨a,vs,ns,rfl,rfl,hobj,hints,hlen⟩:=D4 hn hpre hwl;refine enter_call (codeAny_mono (call w s₀ s₁ mg mb fa o pm cd doc a vs ns G Y ho (fd_plain hd) hcd hmg hobj hints hlen hg) λr s' hq=>?_);obtain⟨rfl,h2,h3,h4⟩:=hq;exact⟨.inl ⟨.bool true,.bool true,[],rfl,λ_=>rfl,.bool true,FB l _,λ_=>⟨List.Pairwise.nil,λ_ hm=>(nomatch hm)⟩⟩,h2,h3,h4⟩
section
variable {prog:Program}{w:World}{A:Around}{E:Value->Shared->Prop}{s:Shared}{K:Frag}
end
end Att
namespace L2
open PySem PySem.Spec PyProof.Rows
theorem wV:∀{vs:List Value} {ns:List Int},IntsAre vs ns->Vals (ns.map V.int) vs
 |_,_,.nil=>.nil
 |_,_,.cons n t h=>.cons ⟨t,rfl⟩ (wV h)
def wb(H:Hp):Prop:=∀b,H b=none\/∃o xs,H b=some (.frz o (.lst xs))
noncomputable def jm(s:Stmt)(j:Nat):Stmt:=match s with
 |.ClassDef _ _ _ body _ _ _ _ _ _ _=>body.getD j (.Pass ⟨0,0,0,0⟩)
 |_=>.Pass ⟨0,0,0,0⟩
noncomputable def dU(s:Stmt):Arguments:=match s with
 |.FunctionDef _ a _ _ _ _ _ _ _ _=>a
 |_=>{ posonlyargs:=[],args:=[],vararg:=none,kwonlyargs:=[],kw_defaults:=[],kwarg:=none,defaults:=[] }
noncomputable def dH(s:Stmt):List Stmt:=match s with
 |.FunctionDef _ _ b _ _ _ _ _ _ _=>b
 |_=>[]
noncomputable def aD(s:Stmt):Scope:=match s with
 |.FunctionDef _ _ _ _ _ _ sc _ _ _=>sc
 |_=>{ kind:=.function,names:=[],isGenerator:=false,isCoroutine:=false }
abbrev CX0:CXT:=λ_ _ _ _ _ _=>False
abbrev E0:XK:=λ_ _ _=>False
theorem ah{X:Cx}:jC CX0 X E0:=λ_ _ _ _ _ _ _ h=>h.elim
structure Fun(K:PySem.W.Frag)(x qual:Str)(st:Stmt)(f:Addr)(fd:FuncData):Prop where
 ex:∃(oc:Value) (od:Option Addr) (kV doc pm:Value) (an:Option Addr) (cdv ct:Value) (osl:Array (Option Value)),
  fd=PySem.W.fnOf x qual (dU st) (dH st) (aD st) .none kV doc pm an cdv ct/\K.lookup f=some ⟨oc,od,.func fd,osl⟩/\PySem.W.codeIn K cdv qual=true
 kp:PySem.W.keepIn K (.ref f)=true
section
variable {P:Program}{w:World}{K:PySem.W.Frag}{mg:Str->Option Value}{base:Heap}
theorem Fun.ok{x qual:Str}{st:Stmt}{f:Addr}{fd:FuncData}{N ps:List Str}{k:Nat}{sp:Sp}(F:Fun K x qual st f fd)(S:FnScope N ps (aD st))(len:∀vs H Q E,sp vs H Q E->vs.length=ps.length)
 (hbody:∀(cdv:Value) (A:Around) (outer:List Env) (s:Shared) (H:Hp) (vs:List V) (Q:VK) (E:XK),Room k (A.deeper (envOfC qual (aD st) s.heap.objs.size f cdv))->sp vs H Q E ->
   ∃t,PSs (jt CX0 P w K mg base N qual (aD st) f cdv A outer s H E).nox (dH st) t/\t { nx:=λ_ H'=>Q .non H',rt:=Q } (start N vs) H):FnOk P w K mg base CX0 (k+1) f fd ps sp:=by
 obtain⟨oc,od,kV,doc,pm,an,cdv,ct,osl,rfl,lk,hcd⟩:=F.ex;refine A9 lk hcd S len λA outer s H vs Q E hr hsp=>?_
 obtain⟨t,h,q⟩:=hbody cdv A outer s H vs Q E hr hsp;exact⟨t,h.nox,q⟩
theorem Fun.binds{x qual:Str}{st:Stmt}{f:Addr}{fd:FuncData}{ps:List Str}(F:Fun K x qual st f fd)
 (h:∀(kV doc pm:Value) (an:Option Addr) (cdv ct:Value) (us:List Value),us.length=ps.length->bindArgs (PySem.W.fnOf x qual (dU st) (dH st) (aD st) .none kV doc pm an cdv ct) ⟨us,[]⟩=pure (ps.zip us)):Binds K fd ps []:=by
 obtain⟨oc,od,kV,doc,pm,an,cdv,ct,osl,rfl,lk,hcd⟩:=F.ex;exact .all (h kV doc pm an cdv ct)
theorem A4{x qual:Str}{st:Stmt}{f:Addr}{oc:Value}{od an:Option Addr}{osl:Array (Option Value)}{kV doc pm cdv ct:Value}(l:K.lookup f=some ⟨oc,od,.func (PySem.W.fnOf x qual (dU st) (dH st) (aD st) .none kV doc pm an cdv ct),osl⟩)
 (c:PySem.W.codeIn K cdv qual=true) (k:PySem.W.keepIn K (.ref f)=true):Fun K x qual st f (PySem.W.fnOf x qual (dU st) (dH st) (aD st) .none kV doc pm an cdv ct):=⟨⟨oc,od,kV,doc,pm,an,cdv,ct,osl,rfl,l,c⟩,k⟩
end
section
variable {X:Cx}
theorem pv(i:Nat){x:Str}{pos:Pos}(hN:X.N[i]?=some x:=by rfl)(hv:Vis X.env.scope x:=by first |exact Or.inl rfl |exact Or.inr (Or.inl rfl) |exact Or.inr (Or.inr rfl))(hd:(x == ("__debug__":Str))=false:=by decide)
 (hcd:(x == ("__classdict__":Str))=false:=by decide):PE X (.Name x pos) (xg i):=FL hN hv hd hcd
end
def Same(H H':Hp):Prop:=∀b o,H b=some o->H' b=some o
theorem Same.refl(H:Hp):Same H H:=λ_ _ h=>h
theorem Same.trans{H H1 H2:Hp}(a:Same H H1)(b:Same H1 H2):Same H H2:=λc o h=>b c o (a c o h)
theorem Same.free{H H':Hp}(e:Same H H'){l:Addr}(h:H' l=Option.none):H l=Option.none:=by
 cases q:H l with
 |none=>rfl
 |some o =>rw[e l o q]at h;cases h
theorem Same.seq{K:PySem.W.Frag}{H H':Hp}{a:Addr}{xs:List V}(e:Same H H')(h:SqL K H a xs):SqL K H' a xs:=by
 rcases h with(h |⟨o,h⟩) |h
 ·exact .inl (.inl (e _ _ h))
 ·exact .inl (.inr ⟨o,e _ _ h⟩)
 ·exact .inr h
end L2
set_option maxHeartbeats 4000000
namespace L2
open PySem PySem.Spec PyProof.Rows
noncomputable def iA(X:Cx)(N:List Str)(scope:Scope)(cl:List (Str×Addr))(C:Addr)(s₀:Shared)(H₀:Hp)(ex:List Addr):Cx where
 prog:=X.prog
 w:=X.w
 K:=X.K
 mg:=X.mg
 base:=X.base
 A:=X.A
 N:=N
 s₀:=s₀
 H₀:=H₀
 env:=compEnvC scope cl C X.env
 outer:=X.stack
 stack:=X.stack
 ex:=ex
 fn:=λ_=>false
 calm:=X.calm
 pn:=[]
 xe:=λ_ _=>False
structure CompOk(X:Cx)(fr:List Str)(js:List Nat)(scope:Scope)(cl:List (Str×Addr)):Prop where
 clos:closureFor scope X.env=pure cl
 cell:∀y∈scope.names,y.2≠.cell
 kind:scope.kind=.function
 names:∀y∈scope.names,y.2=.local->scope.names.lookup y.1=some .local
 clin:∀p∈cl,X.env.cells.lookup p.1=some p.2
 has:scope.names.all (λp=>p.2 != .free || (cl.lookup p.1).isSome)=true
 fre:Paired (λ(x:Str) (j:Nat)=>X.N[j]?=some x/\(X.env.scope.names.lookup x=some .cell\/X.env.scope.names.lookup x=some .free)/\scope.names.lookup x=some .free) fr js
theorem tM{env:Env}{x:Str}{k':NameKind}:∀{names:List (Str×NameKind)},
 (names.map λ(n,k)=>if(k == NameKind.free&&env.scope.kind == .function&&env.kindOf n == some .cell)then(n,NameKind.cell)else(n,k)).lookup x=some k' ->
 ∃k,names.lookup x=some k/\(k'=k\/(k=.free/\k'=.cell))
 | [],h=>by simp at h
 | (n,k)::r,h=>by
  have ih:=@tM env x k' r;change List.lookup x ((if(k == NameKind.free&&env.scope.kind == .function&&env.kindOf n == some .cell)=true then(n,NameKind.cell)else(n,k))::_)=_ at h
  by_cases hc:(k == NameKind.free&&env.scope.kind == .function&&env.kindOf n == some .cell)=true
  ·rw[if_pos hc]at h;cases hx:x == n with
   |true =>simp only[QZ,hx]at h ⊢;cases h;refine⟨k,rfl,.inr ⟨?_,rfl⟩⟩;simp only[Bool.and_eq_true,beq_iff_eq]at hc;exact hc.1.1
   |false =>simp only[QZ,hx]at h ⊢;exact ih h
  ·rw[if_neg hc]at h;cases hx:x == n with
   |true =>simp only[QZ,hx]at h ⊢;cases h;exact⟨_,rfl,.inl rfl⟩
   |false =>simp only[QZ,hx]at h ⊢;exact ih h
theorem yS{env:Env}{x:Str}:∀{names:List (Str×NameKind)},names.lookup x=some .free ->
 (names.map λ(n,k)=>if(k == NameKind.free&&env.scope.kind == .function&&env.kindOf n == some .cell)then(n,NameKind.cell)else(n,k)).lookup x=some .cell \/
 (names.map λ(n,k)=>if(k == NameKind.free&&env.scope.kind == .function&&env.kindOf n == some .cell)then(n,NameKind.cell)else(n,k)).lookup x=some .free
 | [],h=>by simp at h
 | (n,k)::r,h=>by
  have ih:=@yS env x r;show List.lookup x ((if(k == NameKind.free&&env.scope.kind == .function&&env.kindOf n == some .cell)=true then(n,NameKind.cell)else(n,k))::_)=_\/List.lookup x ((if(k == NameKind.free&&env.scope.kind == .function&&env.kindOf n == some .cell)=true then(n,NameKind.cell)else(n,k))::_)=_;by_cases hc:(k == NameKind.free&&env.scope.kind == .function&&env.kindOf n == some .cell)=true
  ·rw[if_pos hc];cases hx:x == n with
   |true=>simp only[QZ,hx];exact .inl trivial
   |false=>simp only[QZ,hx]at h ⊢;exact ih h
  ·rw[if_neg hc];cases hx:x == n with
   |true =>simp only[QZ,hx]at h ⊢;cases h;exact .inr rfl
   |false=>simp only[QZ,hx]at h ⊢;exact ih h
noncomputable def jl(n:Nat)(js:List Nat)(σ:St):St:=List.replicate n none++js.map λj=>(σ[j]?).join
def wv(n:Nat)(js:List Nat)(g:TG)(te:TE)(σ:St)(Q:VK)(J:It)(H1:Hp):Prop:=∃W:Nat->Nat->List V->St->Hp->Prop,(∃m,W 0 m [] (jl n js σ) H1) /\
 ∀i m ys σ' H',W i m ys σ' H' ->
  (J.stop i H'/\∀p,H' p=none->Q (.ref p) (upd H' p (.lst ys))) \/
  (J.go i H'/\ys.length<sizeLine/\∃N:V->St->Hp->Prop,(∀y σ'' H'',N y σ'' H''->∃m',m'<m/\W (i+1) m' (ys++[y]) σ'' H'')/\∀x H2,J.yld i H' x H2->g x σ' H2 λσ3 H3=>te σ3 H3 λy H4=>N y σ3 H4)
def Du(n:Nat)(js:List Nat)(wi:TI)(g:TG)(te:TE):TE:=λσ H Q=>wi σ H λJ H1=>wv n js g te σ Q J H1
noncomputable def MY(X:Cx)(pins:List (Addr×Obj))(σ:St)(Q:VK)(D C:Addr)(s':Shared):Prop :=
 ∃H2,Inv X pins σ H2 s'/\Q (.ref D) H2/\H2 C=none/\C≠X.env.locals/\X.s₀.heap.objs.size<=C/\(∀x c,X.env.cells.lookup x=some c->c≠C)/\(∀p∈X.pn++pins,p.1≠C)/\∃m,s'.heap.Ns C m
section
variable {X:Cx}{own fr:List Str}{js:List Nat}{scope:Scope}{cl:List (Str×Addr)}{elt target iter:Expr}{pos:Pos}{wi:TI}{g:TG}{te:TE}
theorem iE(O:CompOk X fr js scope cl){x:Str}{c:Addr}(e:cl.lookup x=some c):X.env.cells.lookup x=some c:=O.clin (x,c) (PySem.mem_of_lookup e)
theorem BE{pins:List (Addr×Obj)}{σ:St}{H:Hp}{s:Shared}{fp:List Addr}{C:Addr}(O:CompOk X fr js scope cl)(I:Inv X pins σ H s)(hC:s.heap.objs.size<=C)(hf:∀b∈fp,gA X pins H b)(ho:∀b∈fp,b<s.heap.objs.size) :
 (iA X (own++fr) scope cl C s H fp).Ok:=by
 refine⟨I.ok.mod,O.kind,I.ok.glob,I.ok.blt,hC,λx y c h1 h2=>I.ok.inj x y c (iE O h1) (iE O h2),λx hx=>?_,λx c h=>(by cases h),I.ok.hd,I.ok.frames,.inl rfl,λb hb=>?_,I.bs,?_,λb o e hb=>?_,λb hb hb'=>?_,I.stack,I.stkFree⟩
 ·have key:scope.names.lookup x=some .free:=by
   have hx':(scope.names.map λ(n,k)=>if(k == NameKind.free&&X.env.scope.kind == .function&&X.env.kindOf n == some .cell)then(n,NameKind.cell)else(n,k)).lookup x=some .cell \/
    (scope.names.map λ(n,k)=>if(k == NameKind.free&&X.env.scope.kind == .function&&X.env.kindOf n == some .cell)then(n,NameKind.cell)else(n,k)).lookup x=some .free:=hx
   rcases hx' with h |h
   ·obtain⟨k,e,z⟩:=tM h;rcases z with z |⟨z,_⟩
    ·subst z;exact absurd rfl (O.cell _ (PySem.mem_of_lookup e))
    ·subst z;exact e
   ·obtain⟨k,e,z⟩:=tM h;rcases z with z |⟨_,z⟩
    ·subst z;exact e
    ·cases z
  have hm:=List.all_eq_true.mp O.has _ (PySem.mem_of_lookup key);have hs:(cl.lookup x).isSome=true:=by simpa using hm
  exact Option.isSome_iff_exists.mp hs
 ·obtain⟨f0,f1,f2,f3,f4,f5⟩:=hf b hb;exact⟨Qb (Qa (ho b hb) hC),λx c e=>f4 x c (iE O e)⟩
 ·exact PM I.ok.bsz I.sz
 ·obtain⟨f0,f1,f2,f3,f4,f5⟩:=hf b hb;rcases f3 with z |z
  ·exact I.ok.noex b o e z
  ·exact absurd (Qa (Heap.lt_size e) (PM I.ok.bsz z)) (Qw _)
 ·obtain⟨f0,f1,f2,f3,f4,f5⟩:=hf b hb;rcases Pu.mp (I.stkSub b hb')with z |z
  ·exact f1 z
  ·exact f2 z
theorem Paired.idx{α β:Type}{F:α->β->Prop}:∀{l₁:List α} {l₂:List β},Paired F l₁ l₂->∀(i:Nat) (a:α) (b:β),l₁[i]?=some a->l₂[i]?=some b->F a b
 |_,_,.nil,_,_,_,h,_=>by simp at h
 |_,_,.cons r _,0,a,b,h1,h2=>by simp at h1 h2;subst h1;subst h2;exact r
 |_,_,.cons _ t,i+1,a,b,h1,h2=>Paired.idx t i a b (by simpa using h1) (by simpa using h2)
theorem Lc{pins:List (Addr×Obj)}{σ:St}{H:Hp}{s s':Shared}{fp:List Addr}{C:Addr}{m:Str->Option Value}(O:CompOk X fr js scope cl)(hl:fr.length=js.length)(I:Inv X pins σ H s)(hC:s.heap.objs.size<=C)(hf:∀b∈fp,gA X pins H b)
 (ho:∀b∈fp,b<s.heap.objs.size) (os:s'.os=s.os) (hg:s'.gens=s.gens) (old:∀b o,s.heap.get? b=some o->s'.heap.get? b=some o) (hn:s'.heap.Ns C m) :
 Inv (iA X (own++fr) scope cl C s H fp) [] (jl own.length js σ) H s':=by
 refine⟨BE O I hC hf ho,os,by rw[hg];exact I.bare,Un.kept old,⟨m,hn,λi x v e1 e2 e3=>?_⟩,λx c e=>?_,I.hok.fresh hC,λx c e=>I.freeC x c (iE O e),λp hp=>absurd (show p∈([]:List (Addr×Obj))from hp) (by simp),I.hok.kept old,?_⟩
 ·unfold jl at e2
  have e1':(own++fr)[i]?=some x:=e1;by_cases hi:i<own.length
  ·rw[List.getElem?_append_left (by simpa using hi),List.getElem?_replicate]at e2;split at e2<;>cases e2
  ·have hi':own.length<=i:=QL hi;rw[List.getElem?_append_right (by simpa using hi'),RP,List.getElem?_map]at e2;rw[List.getElem?_append_right hi']at e1';cases ej:js[i-own.length]? with
   |none=>rw[ej]at e2;cases e2
   |some j =>
    rw[ej]at e2;have e2':(σ[j]?).join=some v:=Option.some.inj e2
    have eσ:σ[j]?=some (some v):=by
     cases q:σ[j]? with
     |none=>rw[q]at e2';cases e2'
     |some o=>rw[q]at e2';simp at e2';rw[e2']
    obtain⟨hN,hk,hs⟩:=Paired.idx O.fre _ x j e1' ej;obtain⟨mo,hmo,hlo⟩:=I.loc;have vis:Vis X.env.scope x:=hk.elim (λz=>.inr (.inl z)) λz=>.inr (.inr z)
    obtain⟨u,r,l⟩:=hlo j x v hN eσ vis;refine⟨u,r,.inr ⟨yS hs,?_⟩⟩;have hm:=List.all_eq_true.mp O.has _ (PySem.mem_of_lookup hs);have hs':(cl.lookup x).isSome=true:=by simpa using hm
    obtain⟨c,ec⟩:=Option.isSome_iff_exists.mp hs';refine⟨c,ec,?_⟩;rcases l with⟨k,_⟩ |⟨_,c',e',z⟩
    ·have k':X.env.scope.names.lookup x=some .local:=k;rcases hk with q |q<;>(rw[q]at k';cases k')
    ·have:=iE O ec;rw[e']at this;cases this;obtain⟨oc,hoc,hd⟩:=z;exact⟨oc,old _ _ hoc,hd⟩
 ·obtain⟨v,oc,hoc,hd⟩:=I.cell x c (iE O e);exact⟨v,oc,old _ _ hoc,hd⟩
 ·unfold jl;show _=(own++fr).length;rw[P6,P6,RP,Pk,hl]
theorem Un.adopt{fs ex:List Addr}{H H1:Hp}{h h1:Heap}{a:Addr}{o:HO}(u:Un fs ex H H1 h h1)(ha:h.objs.size<=a)(hn:H a=none):Un fs ex H (upd H1 a o) h h1 where
 keep:=u.keep
 slot:=u.slot
 free:=λb ob q n hx=>by rw[upd_ne (Qb (Qa (Heap.lt_size q) ha))];exact u.free b ob q n hx
 there:=u.there
 tups:=λb xs q=>by rw[upd_ne (bC q hn)];exact u.tups b xs q
 frzs:=λb ob xs q=>by rw[upd_ne (bC q hn)];exact u.frzs b ob xs q
 tbls:=λb ps q=>by rw[upd_ne (bC q hn)];exact u.tbls b ps q
theorem HOk.adopt{P:Program}{w:World}{H:Hp}{h:Heap}{a:Addr}{o:HO}(x:HOk P w H h)(hn:H a=none)(new:ObjOk P w (upd H a o) h a o):HOk P w (upd H a o) h:=λb u e=>by
 by_cases hb:b=a
 ·subst hb;rw[au]at e;cases e;exact new
 ·rw[upd_ne hb]at e;exact(x b u e).stay (λc v _ q=>q) (λc q=>by rw[upd_ne (bC q hn)];exact q) λc xs q=>by rw[upd_ne (bC q hn)];exact q
theorem Lh{pins:List (Addr×Obj)}{σ:St}{H:Hp}{s:Shared}{fp:List Addr}{it:Addr}{tn:Nat->Heap->Prop}{J:It}{E:Value->Shared->Prop}{Q:VK}{RR:Value->Addr->Result->Shared->Prop}(O:CompOk X fr js scope cl)(hl:fr.length=js.length)(hcm:X.calm=true)
 (I:Inv X pins σ H s) (T:Turn X.prog X.w X.K target J fp it tn) (st:tn 0 s.heap) (hf:∀b∈fp,gA X pins H b)
 (hg:∀C s₀ H₀ ex,PG (iA X (own++fr) scope cl C s₀ H₀ ex) target g) (he:∀C s₀ H₀ ex,PE (iA X (own++fr) scope cl C s₀ H₀ ex) elt te)
 (W:Nat->Nat->List V->St->Hp->Prop) {m0:Nat} (w0:W 0 m0 [] (jl own.length js σ) H)
 (turn:∀i m ys σ' H',W i m ys σ' H' ->
   (J.stop i H'/\∀p,H' p=none->Q (.ref p) (upd H' p (.lst ys))) \/
   (J.go i H'/\ys.length<sizeLine/\∃N:V->St->Hp->Prop,(∀y σ'' H'',N y σ'' H''->∃m',m'<m/\W (i+1) m' (ys++[y]) σ'' H'')/\∀x H2,J.yld i H' x H2->g x σ' H2 λσ3 H3=>te σ3 H3 λy H4=>N y σ3 H4))
 (hRR:∀D C s',MY X pins σ Q D C s'->RR (.ref D) C (.ok .next) s') :
 wpAny (model X.prog X.w) X.A (newList []) (λacc s₃=>wpAny (model X.prog X.w) X.A (newFunctionEnv scope X.env.globals cl [] X.env.qual none .none (some X.env)) (λcenv s₄ =>
  codeAny (model X.prog X.w) X.A (.compStart (.ListComp elt [⟨target,iter,[],0⟩] scope pos) 0 (.ref it) acc { cenv with scope:=relabel scope X.env }) (RR acc cenv.locals) s₄) E s₃) E s:=by
 refine wpAny_newObj_type (wpAny_newFunctionEnv O.cell (by intro y hy;simp at hy) (λh₁ hns₁ hsb₁=>?_) O.kind);dsimp only at hns₁ hsb₁ ⊢
 generalize hH2:s.heap.push { cls:=.type "list",dict:=none,data:=.seq ([]:List Value).toArray }=H2 at hns₁ hsb₁ ⊢
 have hCs:H2.objs.size=s.heap.objs.size+1:=by rw[<- hH2,Heap.size_push]
 have hDC:s.heap.objs.size≠H2.objs.size:=by rw[hCs];exact Qb (QJ _)
 have hCge:s.heap.objs.size<=H2.objs.size:=by rw[hCs];exact Nat.le_succ _
 have below:∀b,b<s.heap.objs.size->b≠H2.objs.size/\b≠s.heap.objs.size:=λb hb=>⟨by rw[hCs];exact Qb (Nat.lt_succ_of_lt hb),Qb hb⟩
 have old:∀b o,s.heap.get? b=some o->h₁.get? b=some o:=λb o e=>hsb₁.extBut b o (below b (Heap.lt_size e)).1 (Heap.get?_push_of_some _ (hH2 ▸ Heap.get?_push_of_some _ e))
 have hacc:h₁.get? s.heap.objs.size=some { cls:=.type "list",data:=.seq ([]:List Value).toArray 0 }:=hsb₁.extBut _ _ hDC (Heap.get?_push_of_some _ (hH2 ▸ Heap.get?_push_size _ rfl));have ho:∀b∈fp,b<s.heap.objs.size:=λb hb=>by obtain⟨o,e,_⟩:=T.obj 0 _ st b hb;exact Heap.lt_size e
 generalize hDe:s.heap.objs.size=D at *
 generalize hCe:H2.objs.size=C at *
 let X':Cx:=iA X (own++fr) scope cl C s H fp
 have ok':X'.Ok:=BE O I (by rw[hDe];exact hCge) hf (by rw[hDe];exact ho)
 have hDfs:D∉X'.fs:=by
  intro z;rcases Pu.mp (I.stkSub D z)with q |q
  ·exact absurd I.lt (by rw[<- q,hDe];exact Qw _)
  ·exact I.nofs (QV hDe) q
 have hDfp:∀b∈fp,D≠b:=λb hb z=>absurd (ho b hb) (by rw[z];exact Qw _)
 have hDcell:∀x c,cl.lookup x=some c->c≠D:=λx c e z=>by obtain⟨v,q⟩:=I.cell x c (iE O e);exact absurd q.lt (by rw[z,hDe];exact Qw _)
 have fpok:∀{H':Hp} {pins':List (Addr×Obj)},(∀p∈pins',p.1=D)->(∀b∈fp,H' b=none)->∀b∈fp,gA X' pins' H' b:=λ{H' pins'} hp hn b hb=>by
  obtain⟨f0,f1,f2,f3,f4,f5⟩:=hf b hb;refine⟨hn b hb,(below b (ho b hb)).1,λz=>?_,.inl hb,λx c e=>f4 x c (iE O e),λp hp'=>?_⟩
  ·rcases Pu.mp (I.stkSub b z)with q |q
   ·exact f1 q
   ·exact f2 q
  ·have hp'':p∈pins':=by simpa[X',iA]using hp'
   rw[hp p hp''];exact hDfp b hb
 have loop:∀s₃:Shared,s₃={ s with heap:=h₁,toks:=s.toks+([]:List (Str×Value)).length } ->
  codeAny (model X.prog X.w) X.A (.compLoop (.ListComp elt [⟨target,iter,[],0⟩] scope pos) 0 (.ref it) (.ref D) (compEnvC scope cl C X.env)) (RR (.ref D) C) s₃:=by
  rintro s₃ rfl
  refine PySem.W.kcp_loop (λk s'=>∃i σ' H' ys its nn,Inv X' [] σ' H' s'/\tn i s'.heap/\(∀b∈fp,H' b=none)/\H' D=none/\s'.heap.get? D=some { cls:=.type "list",data:=.seq (its:List Value).toArray nn }/\Vals ys its/\ys.length<=sizeLine/\W i k ys σ' H') ?_ m0
   ⟨0,_,H,[],[],0,Lc O hl I (by rw[hDe];exact hCge) hf (by rw[hDe];exact ho) rfl rfl (by intro b o e;exact old b o e) hns₁,T.keep _ _ _ st λb _ o e=>old b o e,λb hb=>(hf b hb).1,I.hok.fresh (QV hDe),hacc,.nil,Ps _,w0⟩
  rintro k s' ⟨i,σ',H',ys,its,nn,I',st',hfn,hDn,hDo,rv,hz,w⟩;have hlen:=rv.length;have hpD:∀p∈[(D,({ cls:=.type "list",data:=.seq its.toArray nn }:Obj))],p.1=D:=λp hp=>by rw[Pw.mp hp]
  have Ip:Inv X' [(D,({ cls:=.type "list",data:=.seq its.toArray nn }:Obj))] σ' H' s':=I'.pins_of λp hp=>by rw[Pw.mp hp];exact⟨hDo,hDn,hDC,hDfs,λv z=>by cases z⟩
  rcases turn i k ys σ' H' w with⟨stop,fin⟩ |⟨go,hlt,N,hN,step⟩
  ·refine wpAny_mono (T.done X' rfl rfl rfl hcm i _ s' σ' H' (λ_ _=>False) Ip (fpok hpD hfn) st' stop) (λr s4 ⟨hr,I4⟩=>?_) λ_ _ z=>False.elim z
   subst hr;refine hRR D C s4 ?_;have hD4:s4.heap.get? D=some { cls:=.type "list",data:=.seq its.toArray nn }:=(I4.pin _ (Qm _ (Pw.mpr rfl))).1;have un:Un (frs X.stack) fp H (upd H' D (.lst ys)) s.heap s4.heap:=Un.adopt I4.base (QV hDe) (I.hok.fresh (QV hDe));have hok:HOk X.prog X.w (upd H' D (.lst ys)) s4.heap:=HOk.adopt I4.hok hDn ⟨hz,its,nn,rv,hD4⟩;refine⟨upd H' D (.lst ys),I.call' I4.os un hok I4.bare λb hb=>?_,fin D hDn,?_,?_,?_,λx c e z=>?_,λp hp z=>?_,?_⟩
   ·obtain⟨f0,f1,f2,f3,f4,f5⟩:=hf b hb;exact⟨f3,f1,f4,f5⟩
   ·rw[upd_ne (Ne.symm hDC)];exact I4.free
   ·exact Nat.ne_of_gt (Qa I.lt (by rw[hDe];exact hCge))
   ·exact PM I.sz (by rw[hDe];exact hCge)
   ·obtain⟨v,q⟩:=I.cell x c e;exact absurd (Qa q.lt (by rw[hDe,z];exact hCge)) (Qw _)
   ·exact absurd (Qa (Heap.lt_size (I.pin p hp).1) (by rw[hDe,z];exact hCge)) (Qw _)
   ·obtain⟨m',hn',_⟩:=I4.loc;exact⟨m',hn'⟩
  ·refine wpAny_mono (T.item X' rfl rfl rfl hcm i _ s' σ' H' (λ_ _=>False) Ip (fpok hpD hfn) st' go) (λr s4 ⟨u,hr,h4⟩=>?_) λ_ _ z=>False.elim z
   subst hr;refine wpAny_mono h4 (λ_ s5 ⟨x,H5,I5,r5,y5,st5,fr5⟩=>?_) λ_ _ z=>False.elim z
   have I5':=I5.pinned (fpok hpD fr5) (T.obj _ _ st5);refine wpAny_mono (hg C s H fp _ s5 σ' H5 x u _ I5' r5 (step x H5 y5)) (λ_ s6 ⟨σ6,H6,I6,q6⟩=>?_) λ_ _ z=>False.elim z
   refine wpAny_mono (he C s H fp _ s6 σ6 H6 _ I6 q6) (λv s7 ⟨y,H7,I7,r7,n7⟩=>?_) λ_ _ z=>False.elim z
   obtain⟨m',hm',w7⟩:=hN y σ6 H7 n7;have hD7:=I7.pin (D,{ cls:=.type "list",data:=.seq its.toArray nn }) (Qm _ (QI _ (Pw.mpr rfl)));refine append_at hD7.1 (λh8 sb hD8=>?_) (by rw[P4,<- hlen];exact hz);have I7':Inv X' [] σ6 H7 s7:=I7.pins_of λp hp=>absurd hp (by simp)
   have I8:Inv X' [] σ6 H7 { s7 with heap:=h8 }:=I7'.turned (t':=s7.toks) (it:=D) (λb o hb e=>(sb.2 b hb).trans e) hD7.2.1 hDC (.inr (QV hDe)) hDcell (λp hp=>absurd (show p∈([]:List (Addr×Obj))from hp) (by simp));refine⟨m',hm',i+1,σ6,H7,ys++[y],its++[v],nn+1,I8,T.keep _ _ _ st5 λb hb o e=>?_,λb hb=>?_,hD7.2.1,?_,rv.append (.cons r7 .nil),?_,w7⟩
   ·exact(sb.2 b (λz=>hDfp b hb z.symm)).trans (I7.pin (b,o) (Qm _ (Qm _ (oU hb e)))).1
   ·obtain⟨o,e,d⟩:=T.obj _ _ st5 b hb;exact(I7.pin (b,o) (Qm _ (Qm _ (oU hb e)))).2.1
   ·rw[hD8,List.push_toArray]
   ·rw[P6,List.length_singleton];exact hlt
 exact codeAny_compStart_list (loop _ rfl) (T.self _ 0 _ _ _ (T.keep _ _ _ st λb _ o e=>old b o e) (loop _ rfl))
theorem gk(O:CompOk X fr js scope cl)(hcm:X.calm=true)(hi:PI X target iter wi)(hg:∀C s₀ H₀ ex,PG (iA X (own++fr) scope cl C s₀ H₀ ex) target g)(he:∀C s₀ H₀ ex,PE (iA X (own++fr) scope cl C s₀ H₀ ex) elt te)
 (hs:∀x,foldedSetIterable iter X.env x=pure x:=by intro _;rfl):PE X (.ListComp elt [⟨target,iter,[],0⟩] scope pos) (Du own.length js wi g te):=by
 intro pins s σ H Q I h;rw[eval_ListComp];refine wpAny_comprehension_free (use:=none) rfl hs O.clos O.kind O.names (thn (hi pins s σ H _ I h) λx s1 h1=>thn h1 λitv s2 h2=>?_);obtain⟨it,fp,tn,J,H2,rfl,I2,T,st,hf,W,⟨m0,w0⟩,turn⟩:=h2;refine Lh (RR:=λacc C=>compPost (model X.prog X.w) X.A X.xe none (EP X pins σ Q) acc C) O (Paired.length O.fre) hcm I2 T st hf hg he W w0 turn ?_;rintro D C s' ⟨H3,I3,q,c1,c2,c3,c4,c5,m,hn⟩;exact⟨m,hn,λh' sb=>⟨.ref D,H3,I3.turned (t':=s'.toks) (it:=C) (λb o hb e=>(sb.2 b hb).trans e) c1 c2 (.inr c3) c4 c5,rfl,q⟩⟩
end
theorem ju{n:Nat}{js:List Nat}{K:PySem.W.Frag}{a:Addr}{xs:List V}{g:TG}{te:TE}{σ0:St}{H:Hp}{Q:VK}(Pv:Nat->List V->St->Hp->Prop)(hz:xs.length<=sizeLine)(h0:Pv 0 [] (jl n js σ0) H)(hl:∀i ys σ H,i<=xs.length->Pv i ys σ H->SqL K H a xs/\ys.length<=i)
 (hs:∀i x ys σ H,xs[i]?=some x->Pv i ys σ H->g x σ H λσ2 H2=>te σ2 H2 λy H3=>Pv (i+1) (ys++[y]) σ2 H3) (hd:∀ys σ H p,Pv xs.length ys σ H->H p=none->Q (.ref p) (upd H p (.lst ys))) :
 wv n js g te σ0 Q (Itl K a) H:=by
 refine⟨λi m ys σ H=>m=xs.length-i/\i<=xs.length/\Pv i ys σ H,⟨xs.length,by simp,Ps _,h0⟩,?_⟩;rintro i m ys σ H ⟨rfl,hi,p⟩;obtain⟨q,hy⟩:=hl i ys σ H hi p;by_cases hlt:i<xs.length
 ·refine .inr ⟨⟨xs,xs[i],q,by simp[hlt]⟩,by omega,λy σ'' H''=>Pv (i+1) (ys++[y]) σ'' H'',λy σ' H' p'=>⟨xs.length-(i+1),by omega,rfl,hlt,p'⟩,λx H' y=>?_⟩;obtain⟨e,y⟩:=y;subst e;exact hs i x ys σ _ (y xs q) p
 ·have e:i=xs.length:=by omega
  subst e;exact .inl ⟨⟨xs,q,Pn _⟩,λr hr=>hd ys σ H r p hr⟩
theorem vG{k:Nat}{js:List Nat}{lo:Int}{n:Nat}{g:TG}{te:TE}{σ0:St}{H:Hp}{Q:VK}(Pv:Nat->List V->St->Hp->Prop)(hz:n<=sizeLine)(h0:Pv 0 [] (jl k js σ0) H)(hl:∀i ys σ H,i<=n->Pv i ys σ H->ys.length<=i)
 (hs:∀i ys σ H,i<n->Pv i ys σ H->g (.int (lo+i)) σ H λσ2 H2=>te σ2 H2 λy H3=>Pv (i+1) (ys++[y]) σ2 H3) (hd:∀ys σ H p,Pv n ys σ H->H p=none->Q (.ref p) (upd H p (.lst ys))) :
 wv k js g te σ0 Q (Itr lo n) H:=by
 refine⟨λi m ys σ H=>m=n-i/\i<=n/\Pv i ys σ H,⟨n,by simp,Ps _,h0⟩,?_⟩;rintro i m ys σ H ⟨rfl,hi,p⟩;have hy:=hl i ys σ H hi p;by_cases hlt:i<n
 ·refine .inr ⟨hlt,by omega,λy σ'' H''=>Pv (i+1) (ys++[y]) σ'' H'',λy σ' H' p'=>⟨n-(i+1),by omega,rfl,hlt,p'⟩,λx H' y=>?_⟩;obtain⟨e,y⟩:=y;subst e y;exact hs i ys σ _ hlt p
 ·have e:i=n:=by omega
  subst e;exact .inl ⟨Pn _,λr hr=>hd ys σ H r p hr⟩
def Bits(k:Nat)(i:Int):Prop:=i.natAbs<2^k
theorem Bits.mono{j k:Nat}{i:Int}(h:Bits j i)(hk:j<=k:=by decide):Bits k i:=Qa h (RQ (by decide) hk)
theorem Bits.mul{j k:Nat}{a b:Int}(ha:Bits j a)(hb:Bits k b):Bits (j+k) (a*b):=by
 unfold Bits at *
 rw[PL,Nat.pow_add];exact Nat.mul_lt_mul_of_lt_of_lt ha hb
theorem Bits.add{k:Nat}{a b:Int}(ha:Bits k a)(hb:Bits k b):Bits (k+1) (a+b):=by
 unfold Bits at *
 have:=Ry a b;rw[Q0];omega
theorem Bits.neg{k:Nat}{a:Int}(ha:Bits k a):Bits k (-a):=by unfold Bits at *;rwa [Int.natAbs_neg]
theorem Bits.sub{k:Nat}{a b:Int}(ha:Bits k a)(hb:Bits k b):Bits (k+1) (a-b):=by rw[Int.sub_eq_add_neg];exact ha.add hb.neg
theorem Bits.of_le{k:Nat}{a b:Int}(hb:Bits k b)(h:a.natAbs<=b.natAbs):Bits k a:=QR h hb
theorem Bits.zero{k:Nat}:Bits k 0:=QM (by decide)
theorem Bits.log{k:Nat}{i:Int}(h:Bits k i)(hk:0<k):i.natAbs.log2<k:=by
 by_cases h0:i.natAbs=0
 ·rw[h0];simpa using hk
 ·exact(Nat.log2_lt h0).mpr h
theorem Bits.int{k:Nat}{i:Int}(h:Bits k i)(hk:k<=1000000):Builtin.Int.intBits i<=2^20:=by
 have e:(2:Nat)^20=1048576:=by decide
 unfold Builtin.Int.intBits;split
 ·exact Ps _
 ·rename_i hn
  have h0:i.natAbs≠0:=by intro z;have:i=0:=Int.natAbs_eq_zero.mp z;exact hn (by simp[this])
  have:=(Nat.log2_lt h0).mpr h;omega
section
variable {X:Cx}{a b:Expr}{ta tb:TE}{pos:Pos}
def NO(i j:Int):Prop:=Bits 1000000 i/\Bits 1000000 j
theorem aK:OpR X (binaryOp .Mult) (rI NO λi j=>.int (i*j)):=opI λ_ _ _ _ _ _ _ hc q=>mul_int q (.of_bits (hc.1.int (Pn _)) (hc.2.int (Pn _)))
theorem cQ:OpR X (binaryOp .Mod) (rI (λ_ j=>0<j) λi j=>.int (i%j)):=FW
def NP(_ j:Int):Prop:=0<j/\Bits 9000 j
theorem de:OpR X (binaryOp .FloorDiv) (rI NP λi j=>.int (i/j)):=opI λi j _ _ _ _ _ hc q=>by refine floordiv_int (Qd hc.1) ?_ (.inl (PyProof.noPylong_of_log2 (hc.2.log (by decide))));rw[Int.fdiv_eq_ediv_of_nonneg _ (Pt hc.1)];exact q
def NQ(_ j:Int):Prop:=j≠0/\Bits 9000 j
theorem zt:OpR X (binaryOp .FloorDiv) (rI NQ λi j=>.int (i.fdiv j)):=opI λ_ _ _ _ _ _ _ hc q=>floordiv_int hc.1 q (.inl (PyProof.noPylong_of_log2 (hc.2.log (by decide))))
theorem cV:OpR X (compareOp .Eq) (rI0 λi j=>.bl (decide (i=j))):=kj λ_ _ _ _ _ _ _ q=>eq_int (by rw[Bool.beq_eq_decide_eq];exact q)
theorem i7:OpR X (compareOp .NotEq) (rI0 λi j=>.bl (!decide (i=j))):=kj λ_ _ _ _ _ _ _ q=>ne_int (by rw[bne,Bool.beq_eq_decide_eq];exact q)
def y6(K:PySem.W.Frag):R2:=λx y H Q=>∃(a b:Addr) (ns ms:List Int),x=.ref a/\y=.ref b/\SqL K H a (ns.map V.int)/\SqL K H b (ms.map V.int)/\Q (.bl (decide (ns=ms))) H
def yY(K:PySem.W.Frag):R2:=λx y H Q=>∃(a b:Addr) (ns ms:List Int),x=.ref a/\y=.ref b/\SqL K H a (ns.map V.int)/\SqL K H b (ms.map V.int)/\Q (.bl (!decide (ns=ms))) H
theorem FY(hu:X.A.units+64<cLine):OpR X (compareOp .Eq) (y6 X.K):=by intro pins s σ H x y v u Q I rx ry h;obtain⟨a,b,ns,ms,rfl,rfl,ha,hb,q⟩:=h;cases rx;cases ry;obtain⟨i1,r1,p1,_⟩:=I.list ha;obtain⟨i2,r2,p2,_⟩:=I.list hb;exact PySem.W.eq_intsK p1.isList (o9 r1) p2.isList (o9 r2) hu ⟨.bl _,H,I,rfl,q⟩
theorem FV(hu:X.A.units+64<cLine):OpR X (compareOp .NotEq) (yY X.K):=by intro pins s σ H x y v u Q I rx ry h;obtain⟨a,b,ns,ms,rfl,rfl,ha,hb,q⟩:=h;cases rx;cases ry;obtain⟨i1,r1,p1,_⟩:=I.list ha;obtain⟨i2,r2,p2,_⟩:=I.list hb;exact PySem.W.ne_intsK p1.isList (o9 r1) p2.isList (o9 r2) hu ⟨.bl _,H,I,rfl,q⟩
noncomputable def lN(K:PySem.W.Frag):List V->Hp->VK->Prop:=λxs H Q=>∃(x:V) (t c:Value) (n:V) (k:Bool),xs=[x,n]/\RelV n c/\(∀u,RelV n u->u=c)/\TyOf K H x t/\PySem.W.kitOne K t c=some k/\Q (.bl k) H
theorem LA:CallR X (.builtin "isinstance") (lN X.K):=by intro pins s σ H xs us Q I r h;obtain⟨x,t,c,n,k,rfl,rn,hn,ty,e,q⟩:=h;obtain⟨u1,u2,rfl,r1,r2⟩:=r.two;obtain rfl:=hn u2 r2;exact JC I r1 ty e λtk=>⟨.bl k,H,I.tok tk,rfl,q⟩
theorem AE{K:PySem.W.Frag}{H:Hp}{Q:VK}{x:V}{n:String}{t:Value}{k:Bool}(ty:TyOf K H x t)(e:PySem.W.kitOne K t (.type n)=some k)(q:Q (.bl k) H):lN K [x,.ty n] H Q :=
 ⟨x,t,.type n,.ty n,k,rfl,rfl,λ_ h=>h,ty,e,q⟩
end
section
variable {D:Ends}{σ:St}{H:Hp}{Q:VK}{t u:TS}{te ta tb:TE}{c:TT}{i:Nat}{v:V}{r:R2}
theorem E4(P:St->Hp->Prop)(h1:∀σ' H',P σ' H'->u D σ' H')(h2:(∀σ' H',P σ' H'->u D σ' H')->t { D with nx:=u D } σ H):di t u D σ H:=h2 h1
theorem gb(P:St->Hp->Prop)(h:P σ H)(h1:∀σ' H',P σ' H'->u D σ' H'):u D σ H:=h1 σ H h
theorem aC(h:te σ H λx H1=>u D (σ.set i (some x)) H1):di (iI te (jo i)) u D σ H:=h
theorem j7(h:te σ H λ_ H1=>u D σ H1):di (n6 te) u D σ H:=h
theorem bZ{t1:TS}(h:c σ H λb H1=>if b=true then t1 { D with nx:=u D } σ H1 else u D σ H1):di (lc c t1 xl) u D σ H:=h
theorem yU{K:PySem.W.Frag}{n:V}(h:ta σ H λx H1=>lN K [x,n] H1 Q):tCB (lN K) (qu ta (qu (tC n) qt)) σ H Q:=h
theorem dY{t1 t2:TS}(P:St->Hp->Prop)(h1:∀σ' H',P σ' H'->u D σ' H')(h2:(∀σ' H',P σ' H'->u D σ' H')->c σ H λb H1=>if b=true then t1 { D with nx:=u D } σ H1 else t2 { D with nx:=u D } σ H1):di (lc c t1 t2) u D σ H:=h2 h1
theorem cZ(h:te σ H λx H1=>D.nx (σ.set i (some x)) H1):iI te (jo i) D σ H:=h
theorem aX(h:te σ H D.rt):xh te D σ H:=h
theorem yV(h:te σ H λ_ H1=>D.nx σ H1):n6 te D σ H:=h
theorem j8(h:c σ H λb H1=>if b=true then t D σ H1 else u D σ H1):lc c t u D σ H:=h
theorem yT{K:Bool->Hp->Prop}{tt:TT}(h:tt σ H λk H1=>K (!k) H1):xk tt σ H K:=h
theorem fi{K:Bool->Hp->Prop}{t1 t2:TT}(h:t1 σ H λk H1=>if k=true then t2 σ H1 K else K false H1):xr t1 t2 σ H K:=h
theorem EY{K:Bool->Hp->Prop}{t1 t2:TT}(h:t1 σ H λk H1=>if k=true then K true H1 else t2 σ H1 K):tOr t1 t2 σ H K:=h
theorem E5(h:ta σ H λx H1=>∃k,x=.bl k/\if k=true then tb σ H1 Q else Q (.bl false) H1):xq ta tb σ H Q:=h
theorem EX(h:ta σ H λx H1=>∃k,x=.bl k/\if k=true then Q (.bl true) H1 else tb σ H1 Q):xi ta tb σ H Q:=h
theorem EZ(h:ta σ H λx H1=>∃k,x=.bl k/\Q (.bl (!k)) H1):xj ta σ H Q:=h
theorem E3{tt:TT}(h:tt σ H λk H1=>if k=true then ta σ H1 Q else tb σ H1 Q):tIf tt ta tb σ H Q:=h
theorem tN{A B:Prop}(h:A):if true=true then A else B:=by rw[if_pos rfl];exact h
theorem fN{A B:Prop}(h:B):if false=true then A else B:=by rw[if_neg Ra];exact h
theorem aM{p A B:Prop}[Decidable p](h1:p->A)(h2:¬p->B):if decide p=true then A else B:=by
 by_cases hp:p
 ·rw[if_pos (decide_eq_true hp)];exact h1 hp
 ·rw[if_neg (by rw[decide_eq_false hp];exact Ra)];exact h2 hp
theorem dJ{p A B:Prop}[Decidable p](h1:¬p->A)(h2:p->B):if(!decide p)=true then A else B:=by
 by_cases hp:p
 ·rw[if_neg (by rw[decide_eq_true hp];exact Ra)];exact h2 hp
 ·rw[if_pos (by rw[decide_eq_false hp];rfl)];exact h1 hp
end
structure Cal(P:Program)(w:World)(K:PySem.W.Frag)(mg:Str->Option Value)(base:Heap)(k:Nat)(x:Str)(ps:List Str)(sp:Sp)(f:Addr)(fd:FuncData):Prop where
 ok:FnOk P w K mg base CX0 k f fd ps sp
 mg:mg x=some (.ref f)
 kp:PySem.W.keepIn K (.ref f)=true
 bd:Binds K fd ps []
theorem Same.upd_new{H:Hp}{p:Addr}{o:HO}(h:H p=none):Same H (upd H p o):=λb u e=>by rw[upd_ne (bC e h)];exact e
theorem Same.then_new{H H1:Hp}{p:Addr}{o:HO}(s:Same H H1)(h:H1 p=none):Same H (upd H1 p o):=s.trans (Same.upd_new h)
theorem Same.ne{H H1:Hp}{a p:Addr}{o:HO}(s:Same H H1)(e:H a=some o)(h:H1 p=none):a≠p:=bC (s a o e) h
section
variable {X:Cx}{K:PySem.W.Frag}
theorem ck(h:X.K=K):IxR X (y4 K):=by subst h;exact JB
theorem aP(h:X.K=K):IxR X (y0 K):=by subst h;exact JA
theorem oo(h:X.K=K):SlR X (tQ K):=by subst h;exact DM
noncomputable def Fn(K:PySem.W.Frag):List V->Hp->VK->Prop:=λxs H Q=>∃p ys,xs=[.ref p]/\(SqL K H p ys\/SqT K H p ys)/\Q (.int ys.length) H
theorem dz(h:X.K=K):CallR X (.builtin "len") (Fn K):=by subst h;exact Lz
noncomputable def Fm(K:PySem.W.Frag):List V->Hp->VK->Prop:=λxs H Q=>∃p ys,xs=[.ref p]/\(SqL K H p ys\/SqT K H p ys)/\∀l,H l=none->Q (.ref l) (upd H l (.lst ys))
theorem vL(h:X.K=K):CallR X (.type "list") (Fm K):=by subst h;exact Ly
theorem ki(h:X.K=K)(hu:X.A.units+64<cLine):OpR X (compareOp .Eq) (y6 K):=by subst h;exact FY hu
theorem mf(h:X.K=K)(hu:X.A.units+64<cLine):OpR X (compareOp .NotEq) (yY K):=by subst h;exact FV hu
theorem B7(h:X.K=K):CallR X (.builtin "isinstance") (lN K):=by subst h;exact LA
theorem fS{tg l:Expr}{tl:TE}(h:X.K=K)(hl:PE X l tl):PI X tg l (AK K tl):=by subst h;exact FJ hl
theorem FG{tg l:Expr}{tl:TE}(h:X.K=K)(hl:PE X l tl):PI X tg l (AJ K tl):=by subst h;exact FH hl
theorem aO{e:Expr}{ta:TE}{f:Str}{pos:Pos}(h:X.K=K)(he:PE X e ta)(hb:attributeBase e f X.env (eval e X.env)=eval e X.env):PE X (.Attribute e f pos) (xo K ta f):=by subst h;exact FR he hb
end
noncomputable def Ite(K:PySem.W.Frag)(a:Addr):It :=
 ⟨λi H=>∃xs x,SqL K H a xs/\xs[i]?=some x,λi H x H'=>∃v p,x=.ref p/\H p=none/\H'=upd H p (.tup [.int i,v])/\∀xs,SqL K H a xs->xs[i]?=some v,λi H=>∃xs,SqL K H a xs/\xs.length<=i⟩
theorem CT{P:Program}{w:World}{K:PySem.W.Frag}{es:List Expr}{x1:Nat}{tp:Pos}(a e it:Addr)(hne:e≠it):Turn P w K (.Tuple es x1 tp) (Ite K a) [e,it] e (λi h=>(∃old,IsEnum h e it (i:Int) old)/\h.IsListIter it a i) where
 mem:=by simp
 obj:=λi h st b hb=>by
  obtain⟨⟨old,he⟩,hi⟩:=st;rcases Pu.mp hb with rfl |hb
  ·exact⟨_,he,λv z=>by cases z⟩
  ·have q:b=it:=by simpa using hb
   subst q;obtain⟨o,e,c,d⟩:=hi;exact⟨o,e,λv z=>by rw[d]at z;cases z⟩
 keep:=λi h h' st k=>by obtain⟨⟨old,he⟩,hi⟩:=st;exact⟨⟨old,k e (by simp) _ he⟩,hi.at λo q=>k it (by simp) o q⟩
 item:=by
  intro X hP hw hK hc i pins s σ H E I hf st hg;subst hP hw hK;obtain⟨⟨old,he⟩,hi⟩:=st;obtain⟨xs,x,hq,hx⟩:=hg;obtain⟨its,rv,p,hz⟩:=I.list hq;obtain⟨u,hu,ru⟩:=rv.get hx;refine wpAny_pyNext_enum_item he hi p.isList (x:=u) (by simpa using hu) hne λh' out hit' htup hsz kk=>?_
  have hfp:H s.heap.objs.size=none:=I.hok.fresh (Pn _);have nfp:∀b o,H b=some o->b≠e/\b≠it:=λb o q=>⟨λz=>(by rw[z,(hf e (by simp)).1]at q;cases q),λz=>(by rw[z,(hf it (by simp)).1]at q;cases q)⟩
  have I1:Inv X pins σ (upd H s.heap.objs.size (.tup [.int i,x])) { s with heap:=h',toks:=s.toks+1 }:=by
   refine I.step (g':=s.gens) (d':=s.drawn) (ch:=[e,it]) (λb hb=>?_) (λb o _ _ hc q _=>kk b o (λz=>hc (by simp[z])) (λz=>hc (by simp[z])) q)
    (λb o _ _ hc q _=>⟨o.slots,kk b o (λz=>hc (by simp[z])) (λz=>hc (by simp[z])) q⟩) (λb o _ q n=>by rw[upd_ne (Qb (Heap.lt_size q))];exact n)
    (λb o hc q=>⟨o,kk b o (λz=>hc (by simp[z])) (λz=>hc (by simp[z])) q⟩) (λb ys q=>by rw[upd_ne (bC q hfp)];exact q) (λb o ys q=>by rw[upd_ne (bC q hfp)];exact q)
    (λb ps q=>⟨#[],by rw[upd_ne (bC q hfp),q];simp⟩) (λm hm=>?_) (λb o q=>?_) I.bare
   ·obtain⟨f0,f1,f2,f3,f4,f5⟩:=hf b hb;exact⟨f3,f1,f4,f5⟩
   ·obtain⟨o,es',ep',ho,r⟩:=hm;exact⟨o,es',ep',kk _ o (Ne.symm (hf e (by simp)).2.1) (Ne.symm (hf it (by simp)).2.1) ho,r⟩
   ·by_cases hb:b=s.heap.objs.size
    ·subst hb;rw[au]at q;cases q;exact⟨by show 2<=sizeLine;decide,[.int i s.toks,u],.cons ⟨_,rfl⟩ (.cons ru .nil),⟨_,htup,rfl,_,rfl⟩⟩
    ·rw[upd_ne hb]at q;refine(I.hok b o q).stay (λc v hc z=>?_) (λc z=>by rw[upd_ne (bC z hfp)];exact z) λc ys z=>by rw[upd_ne (bC z hfp)];exact z
     rcases hc with rfl |hc
     ·exact kk c v (nfp c o q).1 (nfp c o q).2 z
     ·exact kk c v (nfp c _ hc).1 (nfp c _ hc).2 z
  refine⟨_,rfl,wpAny_letOwnedTupleGo_enum out λh'' he'' sb=>?_⟩;obtain⟨f0,f1,f2,f3,f4,f5⟩:=hf e (by simp)
  have hen:upd H s.heap.objs.size (.tup [.int i,x]) e=none:=by rw[upd_ne (Qb (Heap.lt_size he))];exact f0
  have I2:=I1.turned (h':=h'') (t':=s.toks+1) (it:=e) (λb o hb q=>(sb.2 b hb).trans q) hen f1 f3 f4 f5;refine⟨.ref s.heap.objs.size,_,I2,rfl,⟨x,_,rfl,hfp,rfl,λys hy=>by rw[I.list_inj hy hq];exact hx⟩,⟨⟨u,?_⟩,hit'.at λo q=>(sb.2 it (Ne.symm hne)).trans q⟩,λb hb=>?_⟩
  ·have:((i+1:Nat):Int)=(i:Int)+1:=by omega
   rw[this];exact he''
  ·have hlt:b<s.heap.objs.size:=by
    rcases Pu.mp hb with rfl |hb
    ·exact Heap.lt_size he
    ·have q:b=it:=by simpa using hb
     subst q;obtain⟨o,e1,_⟩:=hi;exact Heap.lt_size e1
   rw[upd_ne (Qb hlt)];exact(hf b hb).1
 done:=by intro X hP hw hK hc i pins s σ H E I hf st hg;subst hP hw hK;obtain⟨⟨old,he⟩,hi⟩:=st;obtain⟨xs,hq,hx⟩:=hg;obtain⟨its,rv,p,hz⟩:=I.list hq;obtain⟨f0,f1,f2,f3,f4,f5⟩:=hf it (by simp);have hl:=rv.length;exact wpAny_pyNext_enum_end (I.ok.hd hc) he hi p.isList (by simp;omega) λh' eb=>⟨rfl,I.turned (t':=s.toks) (λb o hb e=>eb b o hb e) f0 f1 f3 f4 f5⟩
 self:=λ_ _ _ _ _ st h=>by obtain⟨⟨old,he⟩,hi⟩:=st;exact wpAny_pyIter_enum he h
section
variable {X:Cx}
def JK(K:PySem.W.Frag)(ta:TA):TI:=λσ H R=>ta σ H λvs H1=>∃a,vs=[.ref a]/\(∃xs,SqL K H1 a xs)/\R (Ite K a) H1
theorem tY{es:List Expr}{x1:Nat}{tp:Pos}{a:Expr}{ta:TA}{p pos:Pos}(hg:Gl X "enumerate")(hm:X.mg "enumerate"=none)(ha:PA X [a] ta)(hs:starEach [a] X.env=[(false,eval a X.env)]:=by rfl):PI X (.Tuple es x1 tp) (.Call (.Name "enumerate" p) [a] [] pos) (JK X.K ta):=by
 intro pins s σ H R I h;refine Call_ (gN I hg hm boot_enumerate (PyProof.Rows.callWith_type1 (thn (ha pos pins s σ H _ I h) λus s1 ⟨vs,H1,I1,r1,q1⟩=>?_) hs rfl));obtain⟨a',e,⟨xs,hq⟩,q⟩:=q1;subst e;obtain⟨u,rfl,ru⟩:=r1.one;cases ru;obtain⟨its,rv,pl,hz⟩:=I1.list hq;refine call_enumerate_list pl.isList λh' he hit hsz hk=>?_
 have I2:Inv X pins σ H1 { s1 with heap:=h' }:=I1.kept (t':=s1.toks) hk;refine wpAny_pyIter_enum he ?_;refine⟨s1.heap.objs.size+1,[s1.heap.objs.size+1,s1.heap.objs.size],_,_,H1,rfl,I2,CT a' _ _ (Nat.succ_ne_self _),⟨⟨_,he⟩,hit⟩,λb hb=>?_,q⟩
 have hb':s1.heap.objs.size<=b:=by
  rcases Pu.mp hb with rfl |hb
  ·exact Nat.le_succ _
  ·have q:b=s1.heap.objs.size:=by simpa using hb
   subst q;exact Pn _
 exact I1.fpOk hb' (I1.hok.fresh hb')
end
theorem u3{K:PySem.W.Frag}{a:Addr}{xs:List V}{g:TG}{tb:TS}{D:Ends}{σ:St}{H:Hp}(Pv:Nat->St->Hp->Prop)(h0:Pv 0 σ H)(hl:∀i σ H,i<=xs.length->Pv i σ H->SqL K H a xs)
 (hs:∀i x σ H p,xs[i]?=some x->Pv i σ H->H p=none->g (.ref p) σ (upd H p (.tup [.int i,x])) λσ2 H2=>tb { D with nx:=Pv (i+1),ct:=Pv (i+1),bk:=D.nx } σ2 H2) (hd:∀σ H,Pv xs.length σ H->D.nx σ H) :
 ∃W:Nat->Nat->St->Hp->Prop,(∃m,W 0 m σ H)/\∀i m σ H,W i m σ H ->
  ((Ite K a).stop i H/\D.nx σ H)\/((Ite K a).go i H/\∃N:St->Hp->Prop,(∀σ' H',N σ' H'->∃m',m'<m/\W (i+1) m' σ' H')/\∀x H',(Ite K a).yld i H x H'->g x σ H' λσ2 H2=>tb { D with nx:=N,ct:=N,bk:=D.nx } σ2 H2):=by
 refine⟨λi m σ H=>m=xs.length-i/\i<=xs.length/\Pv i σ H,⟨xs.length,by simp,Ps _,h0⟩,?_⟩;rintro i m σ H ⟨rfl,hi,p⟩;have q:=hl i σ H hi p;by_cases hlt:i<xs.length
 ·refine .inr ⟨⟨xs,xs[i],q,by simp[hlt]⟩,Pv (i+1),λσ' H' p'=>⟨xs.length-(i+1),by omega,rfl,hlt,p'⟩,λx H' y=>?_⟩;obtain⟨v,r,rfl,hr,rfl,y⟩:=y;exact hs i v σ _ r (y xs q) p hr
 ·have e:i=xs.length:=by omega
  subst e;exact .inl ⟨⟨xs,q,Pn _⟩,hd σ H p⟩
noncomputable def Itv(K:PySem.W.Frag)(a:Addr)(xs:List V):It :=
 ⟨λi H=>SqL K H a xs/\i<xs.length,λi H x H'=>H'=H/\xs[xs.length-1-i]?=some x,λi H=>xs.length<=i⟩
theorem CO{P:Program}{w:World}{K:PySem.W.Frag}{tg:Expr}(a it:Addr)(xs:List V):Turn P w K tg (Itv K a xs) [it] it (λi h=>i<=xs.length/\h.IsRevIter it a ((xs.length:Int)-1-i)) where
 mem:=by simp
 obj:=λi h st b hb=>by
  have e:b=it:=by simpa using hb
  subst e;obtain⟨_,o,e,c,d⟩:=st;exact⟨o,e,λv z=>by rw[d]at z;cases z⟩
 keep:=λi h h' st k=>⟨st.1,st.2.at λo e=>k it (by simp) o e⟩
 item:=by
  intro X hP hw hK hc i pins s σ H E I hf st hg;subst hP hw hK;obtain⟨hq,hlt⟩:=hg;obtain⟨its,rv,p,hz⟩:=I.list hq;have hl:=rv.length;obtain⟨x,hx⟩:∃x,xs[xs.length-1-i]?=some x:=⟨_,List.getElem?_eq_getElem (by omega)⟩;obtain⟨u,hu,ru⟩:=rv.get hx;obtain⟨f0,f1,f2,f3,f4,f5⟩:=hf it (by simp);have e1:(xs.length:Int)-1-i=((xs.length-1-i:Nat):Int):=by omega
  have hit:=st.2;rw[e1]at hit;refine wpAny_pyNext_rev_item hit p.isList (x:=u) (by simpa using hu) λh' st' sb=>?_
  have I1:Inv X pins σ H { s with heap:=h' }:=I.turned (t':=s.toks) (λb o hb e=>(sb.2 b hb).trans e) f0 f1 f3 f4 f5;obtain⟨o,e,c,d⟩:=id st';refine⟨u,rfl,mR (s:={ s with heap:=h' }) e c d (by decide) ⟨x,H,I1,ru,⟨rfl,hx⟩,⟨hlt,?_⟩,λb hb=>(hf b hb).1⟩⟩;have e2:(xs.length:Int)-1-((i+1:Nat):Int)=((xs.length-1-i:Nat):Int)-1:=by omega
  rw[e2];exact st'
 done:=by
  intro X hP hw hK hc i pins s σ H E I hf st hg;subst hP hw hK;obtain⟨f0,f1,f2,f3,f4,f5⟩:=hf it (by simp);have hle:xs.length<=i:=hg;have e1:(xs.length:Int)-1-i = -1:=by have:=st.1;omega
  have hit:=st.2;rw[e1]at hit;exact wpAny_pyNext_rev_end (I.ok.hd hc) hit λh' eb=>⟨rfl,I.turned (t':=s.toks) (λb o hb e=>eb b o hb e) f0 f1 f3 f4 f5⟩
 self:=λ_ _ _ _ _ st h=>wpAny_pyIter_revIter st.2 h
section
variable {X:Cx}{tg:Expr}
def JJ(K:PySem.W.Frag)(ta:TA):TI:=λσ H R=>ta σ H λvs H1=>∃a xs,vs=[.ref a]/\SqL K H1 a xs/\R (Itv K a xs) H1
theorem tX{a:Expr}{ta:TA}{p pos:Pos}(hg:Gl X "reversed")(hm:X.mg "reversed"=none)(ha:PA X [a] ta)(hs:starEach [a] X.env=[(false,eval a X.env)]:=by rfl):PI X tg (.Call (.Name "reversed" p) [a] [] pos) (JJ X.K ta):=by
 intro pins s σ H R I h;refine Call_ (gN I hg hm boot_reversed (PyProof.Rows.callWith_type1 (thn (ha pos pins s σ H _ I h) λus s1 ⟨vs,H1,I1,r1,q1⟩=>?_) hs rfl));obtain⟨a',xs,e,hq,q⟩:=q1;subst e;obtain⟨u,rfl,ru⟩:=r1.one;cases ru;obtain⟨its,rv,pl,hz⟩:=I1.list hq;have hl:=rv.length;refine call_reversed_list pl.isList ?_
 have hit:(s1.heap.push (revObj a' ((its.toArray.size:Int)-1))).IsRevIter s1.heap.objs.size a' ((xs.length:Int)-1-((0:Nat):Int)):=by
  have e1:(xs.length:Int)-1-((0:Nat):Int)=(its.toArray.size:Int)-1:=by rw[P4];omega
  rw[e1];exact⟨_,Heap.get?_push_size _ rfl,rfl,rfl⟩
 have I2:Inv X pins σ H1 { s1 with heap:=s1.heap.push (revObj a' ((its.toArray.size:Int)-1)) }:=I1.kept (t':=s1.toks) λb o e=>Heap.get?_push_of_some _ e
 refine wpAny_pyIter_revIter (s:={ s1 with heap:=s1.heap.push (revObj a' ((its.toArray.size:Int)-1)) }) hit ?_;refine⟨s1.heap.objs.size,[s1.heap.objs.size],_,_,H1,rfl,I2,CO a' _ xs,⟨Ps _,hit⟩,λb hb=>?_,q⟩;have e:b=s1.heap.objs.size:=by simpa using hb
 subst e;exact I1.fpOk (Pn _) (I1.hok.fresh (Pn _))
end
theorem uZ{K:PySem.W.Frag}{a:Addr}{xs:List V}{g:TG}{tb:TS}{D:Ends}{σ:St}{H:Hp}(Pv:Nat->St->Hp->Prop)(h0:Pv 0 σ H)(hl:∀i σ H,i<=xs.length->Pv i σ H->SqL K H a xs)
 (hs:∀i x σ H,i<xs.length->xs[xs.length-1-i]?=some x->Pv i σ H->g x σ H λσ2 H2=>tb { D with nx:=Pv (i+1),ct:=Pv (i+1),bk:=D.nx } σ2 H2) (hd:∀σ H,Pv xs.length σ H->D.nx σ H) :
 ∃W:Nat->Nat->St->Hp->Prop,(∃m,W 0 m σ H)/\∀i m σ H,W i m σ H ->
  ((Itv K a xs).stop i H/\D.nx σ H)\/((Itv K a xs).go i H/\∃N:St->Hp->Prop,(∀σ' H',N σ' H'->∃m',m'<m/\W (i+1) m' σ' H')/\∀x H',(Itv K a xs).yld i H x H'->g x σ H' λσ2 H2=>tb { D with nx:=N,ct:=N,bk:=D.nx } σ2 H2):=by
 refine⟨λi m σ H=>m=xs.length-i/\i<=xs.length/\Pv i σ H,⟨xs.length,by simp,Ps _,h0⟩,?_⟩;rintro i m σ H ⟨rfl,hi,p⟩;by_cases hlt:i<xs.length
 ·refine .inr ⟨⟨hl i σ H hi p,hlt⟩,Pv (i+1),λσ' H' p'=>⟨xs.length-(i+1),by omega,rfl,hlt,p'⟩,λx H' y=>?_⟩;obtain⟨e,y⟩:=y;subst e;exact hs i x σ _ hlt y p
 ·have e:i=xs.length:=by omega
  subst e;exact .inl ⟨Pn _,hd σ H p⟩
structure FunD(K:PySem.W.Frag)(x qual:Str)(st:Stmt)(dV:Value)(f:Addr)(fd:FuncData):Prop where
 ex:∃(oc:Value) (od:Option Addr) (kV doc pm:Value) (an:Option Addr) (cdv ct:Value) (osl:Array (Option Value)),
  fd=PySem.W.fnOf x qual (dU st) (dH st) (aD st) dV kV doc pm an cdv ct/\K.lookup f=some ⟨oc,od,.func fd,osl⟩/\PySem.W.codeIn K cdv qual=true
 kp:PySem.W.keepIn K (.ref f)=true
section
variable {P:Program}{w:World}{K:PySem.W.Frag}{mg:Str->Option Value}{base:Heap}
theorem FunD.ok{x qual:Str}{st:Stmt}{dV:Value}{f:Addr}{fd:FuncData}{N ps:List Str}{k:Nat}{sp:Sp}(F:FunD K x qual st dV f fd)(S:FnScope N ps (aD st))(len:∀vs H Q E,sp vs H Q E->vs.length=ps.length)
 (hbody:∀(cdv:Value) (A:Around) (outer:List Env) (s:Shared) (H:Hp) (vs:List V) (Q:VK) (E:XK),Room k (A.deeper (envOfC qual (aD st) s.heap.objs.size f cdv))->sp vs H Q E ->
   ∃t,PSs (jt CX0 P w K mg base N qual (aD st) f cdv A outer s H E).nox (dH st) t/\t { nx:=λ_ H'=>Q .non H',rt:=Q } (start N vs) H):FnOk P w K mg base CX0 (k+1) f fd ps sp:=by
 obtain⟨oc,od,kV,doc,pm,an,cdv,ct,osl,rfl,lk,hcd⟩:=F.ex;refine A9 lk hcd S len λA outer s H vs Q E hr hsp=>?_
 obtain⟨t,h,q⟩:=hbody cdv A outer s H vs Q E hr hsp;exact⟨t,h.nox,q⟩
theorem FunD.binds{x qual:Str}{st:Stmt}{dV:Value}{f:Addr}{fd:FuncData}{ps:List Str}(F:FunD K x qual st dV f fd)
 (h:∀(kV doc pm:Value) (an:Option Addr) (cdv ct:Value) (us:List Value),us.length=ps.length->bindArgs (PySem.W.fnOf x qual (dU st) (dH st) (aD st) dV kV doc pm an cdv ct) ⟨us,[]⟩=pure (ps.zip us)):Binds K fd ps []:=by
 obtain⟨oc,od,kV,doc,pm,an,cdv,ct,osl,rfl,lk,hcd⟩:=F.ex;exact .all (h kV doc pm an cdv ct)
theorem FunD.bindsD{x qual:Str}{st:Stmt}{T:Addr}{f:Addr}{fd:FuncData}{ps:List Str}{ds tup:List Value}{o:Obj}{n:Nat}(m:Nat)(F:FunD K x qual st (.ref T) f fd)(lo:K.lookup T=some o)(hs:o.data=.seq tup.toArray n)(hm:m+ds.length=ps.length)
 (h:∀(kV doc pm:Value) (an:Option Addr) (cdv ct:Value) (us:List Value),us.length=m->∃k:Option (Array Value)->Sem (List (Str×Value)),
   bindArgs (PySem.W.fnOf x qual (dU st) (dH st) (aD st) (.ref T) kV doc pm an cdv ct) ⟨us,[]⟩=seqItems? (.ref T) >>= k/\k (some tup.toArray)=pure (ps.zip (us++ds))):Binds K fd ps ds:=by
 obtain⟨oc,od,kV,doc,pm,an,cdv,ct,osl,rfl,lk,hcd⟩:=F.ex;intro s us KX hl;rw[P6]at hl;obtain⟨k,h1,h2⟩:=h kV doc pm an cdv ct us (by omega);exact PySem.W.binds_K (k:=k) KX rfl lo hs h1 h2
theorem A5{x qual:Str}{st:Stmt}{f:Addr}{oc:Value}{od an:Option Addr}{osl:Array (Option Value)}{dV kV doc pm cdv ct:Value}(l:K.lookup f=some ⟨oc,od,.func (PySem.W.fnOf x qual (dU st) (dH st) (aD st) dV kV doc pm an cdv ct),osl⟩)
 (c:PySem.W.codeIn K cdv qual=true) (k:PySem.W.keepIn K (.ref f)=true):FunD K x qual st dV f (PySem.W.fnOf x qual (dU st) (dH st) (aD st) dV kV doc pm an cdv ct):=⟨⟨oc,od,kV,doc,pm,an,cdv,ct,osl,rfl,l,c⟩,k⟩
end
structure MCal(P:Program)(w:World)(K:PySem.W.Frag)(mg:Str->Option Value)(base:Heap)(k:Nat)(C:Addr)(m:Str)(ps:List Str)(sp:Sp)(f:Addr)(fd:FuncData):Prop where
 ok:FnOk P w K mg base CX0 k f fd ps sp
 mt:Meth K C m f
 bd:Binds K fd ps []
structure KCal(P:Program)(w:World)(K:PySem.W.Frag)(mg:Str->Option Value)(base:Heap)(k:Nat)(C:Addr)(x:Str)(ps:List Str)(sp:Sp)(f:Addr)(fd:FuncData)(ds:List Value)(dvs:List V):Prop where
 ok:FnOk P w K mg base CX0 k f fd ps sp
 mkr:Mk K C f
 mg:mg x=some (.ref C)
 bd:Binds K fd ps []
 bdD:Binds K fd ps ds
 vd:Vals dvs ds
section
variable {prog:Program}{w:World}{A:Around}{E:Value->Shared->Prop}{s:Shared}
end
section
variable {X:Cx}{K:PySem.W.Frag}
end
section
variable {P:Program}{w:World}{K:PySem.W.Frag}{mg:Str->Option Value}{base:Heap}{N:List Str}{qual:Str}{scope:Scope}{f:Addr}{cd:Value}{A:Around}{outer:List Env}{s:Shared}{H:Hp}{E:XK}{pins:List (Addr×Obj)}{σ:St}{H1:Hp}{s1:Shared}
end
noncomputable def kW(lo:Int)(n:Nat):It:=⟨λi _=>i<n,λi H x H'=>H'=H/\x=.int (lo+i * -1),λi _=>n<=i⟩
theorem CP{P:Program}{w:World}{K:PySem.W.Frag}{tg:Expr}(it:Addr)(lo:Int)(n:Nat):Turn P w K tg (kW lo n) [it] it (λi h=>IsRangeIter h it (lo+(i:Nat) * -1) ((n:Int)-(i:Nat)) (-1)) where
 mem:=by simp
 obj:=λi h st b hb=>by
  have e:b=it:=by simpa using hb
  subst e
  exact⟨_,st,λv z=>by
   have z':Data.fields _=Data.cell v:=z
   cases z'⟩
 keep:=λi h h' st k=>k it (by simp) _ st
 item:=by
  intro X hP hw hK hc i pins s σ H E I hf st hg;subst hP hw hK;obtain⟨f0,f1,f2,f3,f4,f5⟩:=hf it (by simp);have W:=Walks.range (prog:=X.prog) (w:=X.w) (I.ok.hd hc) it lo (-1) n;refine W.item i s _ _ hg st λv h' tk hv st' kk=>?_
  obtain⟨t,rfl⟩:=hv;have I1:Inv X pins σ H { s with heap:=h',toks:=tk }:=I.turned (λb o hb e=>kk b o (by simpa using hb) e) f0 f1 f3 f4 f5;exact⟨_,rfl,mR (s:={ s with heap:=h',toks:=tk }) (n:="range_iterator") st' rfl rfl (by decide) ⟨.int (lo+i * -1),H,I1,⟨t,rfl⟩,⟨rfl,rfl⟩,st',λb hb=>(hf b hb).1⟩⟩
 done:=by intro X hP hw hK hc i pins s σ H E I hf st hg;subst hP hw hK;obtain⟨f0,f1,f2,f3,f4,f5⟩:=hf it (by simp);exact wpAny_pyNext_range_end (I.ok.hd hc) st (by have:n<=i:=hg;omega) λh' eb=>⟨rfl,I.turned (t':=s.toks) (λb o hb e=>eb b o hb e) f0 f1 f3 f4 f5⟩
 self:=λ_ _ _ _ _ st h=>wpAny_pyIter_rangeiter st h
theorem yX(a b:Int):Builtin.Range.rangeSize a b (-1)=if b<a then a-b else 0:=by unfold Builtin.Range.rangeSize;rw[if_neg (by decide)];show(if a>b then(a-b-1)/1+1 else 0)=_;rw[Int.ediv_one];split<;>omega
theorem DG{a b:Int}(ha : -(2^61)<=a)(ha':a<2^61)(hb : -(2^61)<=b)(hb':b<2^61):Builtin.Range.small a b (-1)=true:=by unfold Builtin.Range.small;rw[yX];simp only[Builtin.Range.rangeFitsLong,Bool.and_eq_true,Bool.or_eq_true,decide_eq_true_eq,beq_iff_eq,show ¬((-1:Int)>0) by decide,if_false];split<;>omega
section
variable {X:Cx}{tg:Expr}
theorem Ff{pins:List (Addr×Obj)}{σ:St}{H:Hp}{s:Shared}{R:It->Hp->Prop}{E:Value->Shared->Prop}{lo hi:Int}{t u v:Tok}{tk:Nat}(I:Inv X pins σ H s)(h1 : -(2^61)<=lo)(h2:lo<2^61)(h3 : -(2^61)<=hi)(h4:hi<2^61)
 (q:R (kW lo (lo-hi).toNat) H):wpAny (model X.prog X.w) X.A (pyIter (.ref s.heap.objs.size)) (PIE X pins σ tg R) E { s with heap:=s.heap.push { cls:=.type "range",data:=.fields #[.int lo t,.int hi u,.int (-1) v] },toks:=tk }:=by
 refine wpAny_pyIter_range (IsRange.new ..) (DG h1 h2 h3 h4) ?_;have I1:Inv X pins σ H { s with heap:=s.heap.push { cls:=.type "range",data:=.fields #[.int lo t,.int hi u,.int (-1) v] },toks:=tk }:=I.kept λb o e=>Heap.get?_push_of_some _ e
 refine⟨(s.heap.push { cls:=.type "range",data:=.fields #[.int lo t,.int hi u,.int (-1) v] }).objs.size,[(s.heap.push { cls:=.type "range",data:=.fields #[.int lo t,.int hi u,.int (-1) v] }).objs.size],_,_,H,rfl,
  I1.kept (t':=tk) λb o e=>Heap.get?_push_of_some _ e,CP _ lo (lo-hi).toNat,?_,λb hb=>?_,q⟩
 ·have e1:lo+((0:Nat):Int) * -1=lo:=by simp
  have e2:(((lo-hi).toNat:Nat):Int)-((0:Nat):Int)=Builtin.Range.rangeSize lo hi (-1):=by rw[yX];split<;>omega
  show IsRangeIter _ _ (lo+((0:Nat):Int) * -1) ((((lo-hi).toNat:Nat):Int)-((0:Nat):Int)) (-1);rw[e1,e2];exact Heap.get?_push_size _ rfl
 ·have e:b=(s.heap.push { cls:=.type "range",data:=.fields #[.int lo t,.int hi u,.int (-1) v] }).objs.size:=by simpa using hb
  subst e;exact I1.fpOk (Pn _) (I1.hok.fresh (Pn _))
def JG(ta:TA):TI:=λσ H R=>ta σ H λvs H1=>∃i j:Int,vs=[.int i,.int j,.int (-1)]/\(-(2^61)<=i/\i<2^61 /\ -(2^61)<=j/\j<2^61)/\R (kW i (i-j).toNat) H1
theorem zk{a b c:Expr}{ta:TA}{p pos:Pos}(hg:Gl X "range")(hm:X.mg "range"=none)(ha:PA X [a,b,c] ta)(hs:starEach [a,b,c] X.env=[(false,eval a X.env),(false,eval b X.env),(false,eval c X.env)]:=by rfl)(hs2:starEach [b,c] X.env=[(false,eval b X.env),(false,eval c X.env)]:=by rfl) :
 PI X tg (.Call (.Name "range" p) [a,b,c] [] pos) (JG ta):=by
 intro pins s σ H R I h;refine Call_ (gN I hg hm boot_range (PyProof.Rows.callWith_type1 (thn (ha pos pins s σ H _ I h) λus s1 ⟨vs,H1,I1,r1,q1⟩=>?_) (by rw[hs,hs2]) (by rw[hs2];rfl)));obtain⟨i,j,e,⟨q1,q2,q3,q4⟩,q⟩:=q1;subst e;cases r1 with
 |cons r rr =>
  cases rr with
  |cons r' rr =>
   cases rr with
   |cons r'' rr =>cases rr;obtain⟨t,rfl⟩:=r;obtain⟨t',rfl⟩:=r';obtain⟨t'',rfl⟩:=r'';exact call_range_3 (by decide) (Ff I1 q1 q2 q3 q4 q) (Or.inl (PyProof.noPylong_small (by decide)))
end
theorem A6{lo:Int}{n:Nat}{g:TG}{tb:TS}{D:Ends}{σ:St}{H:Hp}(Pv:Nat->St->Hp->Prop)(h0:Pv 0 σ H)
 (hs:∀i σ H,i<n->Pv i σ H->g (.int (lo+i * -1)) σ H λσ2 H2=>tb { D with nx:=Pv (i+1),ct:=Pv (i+1),bk:=D.nx } σ2 H2) (hd:∀σ H,Pv n σ H->D.nx σ H) :
 ∃W:Nat->Nat->St->Hp->Prop,(∃m,W 0 m σ H)/\∀i m σ H,W i m σ H ->
  ((kW lo n).stop i H/\D.nx σ H)\/((kW lo n).go i H/\∃N:St->Hp->Prop,(∀σ' H',N σ' H'->∃m',m'<m/\W (i+1) m' σ' H')/\∀x H',(kW lo n).yld i H x H'->g x σ H' λσ2 H2=>tb { D with nx:=N,ct:=N,bk:=D.nx } σ2 H2):=by
 refine⟨λi m σ H=>m=n-i/\i<=n/\Pv i σ H,⟨n,by simp,Ps _,h0⟩,?_⟩;rintro i m σ H ⟨rfl,hi,p⟩;by_cases hlt:i<n
 ·refine .inr ⟨hlt,Pv (i+1),λσ' H' p'=>⟨n-(i+1),by omega,rfl,hlt,p'⟩,λx H' y=>?_⟩;obtain⟨e,y⟩:=y;subst e y;exact hs i σ _ hlt p
 ·have e:i=n:=by omega
  subst e;exact .inl ⟨Pn _,hd σ H p⟩
section
variable {X:Cx}{K:PySem.W.Frag}
end
theorem IO{P:Program}{w:World}{K:PySem.W.Frag}{mg mb:Str->Option Value}{CX:CXT}{k:Nat}{fa a:Addr}{fd:FuncData}{x:Str}{sp:Sp}{s₁:Shared}{vs:List Value}{ns:List Int}
 (KX:K.In s₁.heap) (hns:s₁.heap.Ns mainGlobals mg) (hb:s₁.heap.Ns builtinsNs mb) (hbb:∀x:Str,x≠"__name__"->mb x=bootBuiltins x) (hlim:s₁.heap.NoLimit) (hse:s₁.heap.NoSeer) (hg:s₁.gens=#[])
 (ha:s₁.heap.get? a=some { cls:=.type "list",data:=.seq vs.toArray }) (hi:IntsAre vs ns) (hl:ns.length<=sizeLine) (hr:Room k callerA)
 (F:∀base:Heap,K.In base->base.Ns mainGlobals mg->base.NoSeer->FnOk P w K mg base CX k fa fd [x] sp) (hbind:∀(s:Shared) (u:Value),BindsTo s fd ⟨[u],[]⟩ [(x,u)])
 (hsp:∀H:Hp,wb H->SqL K H a (ns.map V.int)->sp [.ref a] H (λv _=>v=.bl true) λ_ _ _=>False)
 (hCX:∀H e s',CX [] H s₁ (λ_ _ _=>False) e s'->False) :
 codeAny (model P w) callerA (.call (.ref fa) ⟨[.ref a],[]⟩) (λr s'=>r=.ok (.ret (.bool true))/\OldK s₁.heap s'.heap/\s'.os=s₁.os/\AllBare s'.gens) s₁:=by
 have rv:=wV hi;have lenV:=hi.length
 have core:∀H:Hp,wb H->SqL K H a (ns.map V.int)->HOk P w H s₁.heap->(∀b,H b≠none->b=a)->(H a≠none->K.lookup a=none) ->
  codeAny (model P w) callerA (.call (.ref fa) ⟨[.ref a],[]⟩) (λr s'=>r=.ok (.ret (.bool true))/\OldK s₁.heap s'.heap/\s'.os=s₁.os/\AllBare s'.gens) s₁:=by
  intro H hO hS hok hA hK;have base_of:∀{b:Addr} {o:Obj},s₁.heap.get? b=some o->H b=none->(gq s₁.heap H).get? b=some o:=λe n=>JP e n
  have noA:∀{b:Addr} {o:Obj} {es:Array DictEntry} {ep:Nat},s₁.heap.get? b=some o->o.data=.dict es ep->H b=none:=λ{b o es ep} e d=>by
   cases q:H b with
   |none=>rfl
   |some u =>have e':b=a:=hA b (by rw[q];simp);subst e';rw[ha]at e;cases e;have d':Data.seq vs.toArray _=Data.dict es ep:=d;cases d'
  have nsK:∀{b:Addr} {m:Str->Option Value},s₁.heap.Ns b m->(gq s₁.heap H).Ns b m:=λ{b m} ⟨o,es,ep,e,d,r⟩=>⟨o,es,ep,base_of e (noA e d),d,r⟩
  have hKb:K.In (gq s₁.heap H):=λb o e=>base_of (KX b o e) (by
   cases q:H b with
   |none=>rfl
   |some u =>
    have e':b=a:=hA b (by rw[q];simp);subst e'
    rw[hK (by rw[q];simp)]at e;cases e)
  have hM:Mod K mg (gq s₁.heap H):=⟨hKb,nsK hns,⟨mb,nsK hb,hbb⟩,let⟨mc,h1,h2⟩:=hlim;⟨mc,nsK h1,h2⟩⟩
  have hSb:(gq s₁.heap H).NoSeer:=by
   obtain⟨⟨mc,c1,c2,c3⟩,⟨mm,m1,m2⟩,⟨mb',b1,b2⟩,⟨mg',bm,ob,g1,g2,g3,g4,g5⟩⟩:=hse;refine⟨⟨mc,nsK c1,c2,c3⟩,⟨mm,nsK m1,m2⟩,⟨mb',nsK b1,b2⟩,⟨mg',bm,ob,nsK g1,g2,base_of g3 ?_,g4,g5⟩⟩;cases q:H bm with
   |none=>rfl
   |some u =>have e':bm=a:=hA bm (by rw[q];simp);rw[e',ha]at g3;cases g3;exact absurd (Value.type.inj g4) (by decide)
  have e0:Env0 P w K mg (gq s₁.heap H) callerA [] s₁ H:=⟨rfl,hM,λb o e=>Hu e,QV (JO _ _),trivial,λb hb=>absurd (show b∈([]:List Addr)from hb) (by simp),hok,.of_eq hg⟩;refine codeAny_mono ((F _ hKb (nsK hns) hSb).run callerA [] s₁ H ⟨[.ref a],[]⟩ [.ref a] [.ref a] _ _ hr e0 (hbind s₁ (.ref a)) (.cons rfl .nil) (hsp H hO hS)) λr s' h=>?_
  cases r with
  |error e=>exact(hCX H e s' h).elim
  |ok fl =>
   cases fl with
   |next=>exact False.elim h
   |brk=>exact False.elim h
   |cont=>exact False.elim h
   |ret u =>
    obtain⟨v,H',os,bare,un,hok',r',q⟩:=h;have q':v=.bl true:=q;subst q';obtain rfl:u=Value.bool true:=r';refine⟨rfl,OldK.of_keep λb o e=>?_,os,bare⟩;cases q:H b with
    |none=>exact un.keep b o e q (by intro z;exact absurd (show b∈([]:List Addr)from z) (by simp)) (by simp)
    |some u =>
     rcases hO b with z |⟨ob,xs,z⟩
     ·rw[q]at z;cases z
     ·have z2:=un.frzs b ob _ z;obtain⟨e1,_⟩:=hok b _ z;obtain⟨e2,_⟩:=hok' b _ z2;rw[e]at e1;cases e1;exact e2
 cases hk:K.lookup a with
 |some o =>have e:=KX a o hk;rw[ha]at e;cases e;refine core (λ_=>none) (λ_=>.inl rfl) (.inr ⟨_,vs.toArray,_,hk,rfl,rfl,rfl,by rw[P4,lenV];exact hl,by simpa using rv⟩) (λb u z=>by have z':(none:Option HO)=some u:=z;cases z') (λb z=>absurd rfl z) λz=>absurd rfl z
 |none =>
  refine core (λb=>if b=a then some (.frz { cls:=.type "list",data:=.seq vs.toArray } (.lst (ns.map V.int)))else none) (λb=>?_) (.inl (.inr ⟨{ cls:=.type "list",data:=.seq vs.toArray },if_pos rfl⟩)) (λb u z=>?_) (λb z=>?_) λ_=>hk
  ·by_cases hb:b=a
   ·exact .inr ⟨_,_,if_pos hb⟩
   ·exact .inl (if_neg hb)
  ·by_cases hb:b=a
   ·have z':=(if_pos hb).symm.trans z;cases z';subst hb;exact⟨ha,by rw[Pk];exact hl,vs,_,rv,ha⟩
   ·have z':=(if_neg hb).symm.trans z;cases z'
  ·by_cases hb:b=a
   ·exact hb
   ·exact absurd (if_neg hb) z
theorem walk_ofS{l:PySem.W.OpenLaw}{n k:Nat}{q:Program}{loose:List Str}{XP:(Str->Option Value)->Heap->Prop}{YP:World->Heap->Prop}{d:DefRec}{K:Params->PySem.W.Frag}{CX:World->CXT}{sp:World->Sp}{x:Str}
 (hi:PyProof.Rows.importsNone q=true) (hn:l.most=some n) (hn2:n<=sizeLine) (hdf:d.params.defaults=[]) (hr:Room k callerA)
 (hY:∀(w:World) (h:Heap),YP w h->(K w.params).In h)
 (F:∀(w:World) (mg:Str->Option Value) (fa:Addr) (h:Heap),(K w.params).In h->h.Ns mainGlobals mg->mg d.name=some (.ref fa) ->
   ∃fd:FuncData,(∀(s:Shared) (u:Value),BindsTo s fd ⟨[u],[]⟩ [(x,u)]) /\
    ∀base:Heap,(K w.params).In base->base.Ns mainGlobals mg->base.NoSeer->FnOk l.prog w (K w.params) mg base (CX w) k fa fd [x] (sp w))
 (hsp:∀(w:World) (H:Hp) (a:Addr) (ns:List Int),ns.length<=n->wb H->SqL (K w.params) H a (ns.map V.int)->sp w [.ref a] H (λv _=>v=.bl true) λ_ _ _=>False)
 (hCX:∀(w:World) (H:Hp) (s:Shared) (e:Value) (s':Shared),CX w [] H s (λ_ _ _=>False) e s'->False) :
 PySem.W.WalkO q loose XP YP l.row.toRowW d [] (λf vs=>PySem.call f vs):=by
 refine Att.attach_call hn hdf λw s₀ s₁ mg mb fa o pm cd doc a vs ns G Y ho hd hcd hmg hobj hints hlen hg=>?_
 have KX:=hY w _ Y;obtain⟨fd,hb,hF⟩:=F w mg fa _ KX G.T.g hmg;exact IO KX G.T.g G.T.b G.T.builtins G.T.nolimit (G.T.seer hi) hg hobj hints (PM hlen hn2) hr hF hb (λH hO hS=>hsp w H a ns hlen hO hS) λH e s'=>hCX w H s₁ e s'
section
variable {X:Cx}{e:Env}{l:List Env}
theorem EU{pins:List (Addr×Obj)}{σ:St}{H:Hp}{s:Shared}(hs:X.base.NoSeer)(ht:X.prog.given.tree=none)(hd:X.A.depth+100<recursionLimit)(hst:X.stack=e::l)(h1:e.scope.isGenerator=false)(h2:e.scope.isCoroutine=false)(h3:e.builtins=builtinsNs)(h4:e.globals=mainGlobals)(I:Inv X pins σ H s):PylongRoom (model X.prog X.w) X.A s :=
 PylongRoom.of (I.ok.mod.nolimit.keeps I.bk) hd (SeerAt.of (hs.keeps I.bk) ht (by rw[I.ok.frames,hst]) h1 h2 h3 h4)
theorem FX(hs:X.base.NoSeer)(ht:X.prog.given.tree=none)(hd:X.A.depth+100<recursionLimit)(hst:X.stack=e::l)(h1:e.scope.isGenerator=false)(h2:e.scope.isCoroutine=false)(h3:e.builtins=builtinsNs)(h4:e.globals=mainGlobals):OpR X (binaryOp .FloorDiv) (rI (λ_ j=>0<j) λi j=>.int (i/j)):=by intro pins s σ H x y v u Q I rx ry h;obtain⟨i,j,rfl,rfl,hj,q⟩:=h;obtain⟨t,rfl⟩:=rx;obtain⟨t',rfl⟩:=ry;have hj':(0:Int)<j:=hj;refine floordiv_int (Qd hj') ?_ (.inr (EU hs ht hd hst h1 h2 h3 h4 I));rw[Int.fdiv_eq_ediv_of_nonneg _ (Pt hj')];exact⟨.int (i/j),H,I.tok _,⟨_,rfl⟩,q⟩
end
theorem Mg(a v:Value):argsOk "max" ⟨[a],[(Str.ofString "default",v)]⟩:=by unfold argsOk;kernel_rfl
def Top(val:Nat->Int)(n:Nat)(M:Int):Prop:=(∃i,i<n/\val i=M)/\∀i,i<n->val i<=M
theorem Top.more{val:Nat->Int}{n:Nat}{M:Int}(h:Top val n M)(hn:val n>M):Top val (n+1) (val n) :=
 ⟨⟨n,by omega,rfl⟩,λi hi=>by
   by_cases e:i=n
   ·subst e;exact PU _
   ·have:=h.2 i (by omega);omega⟩
theorem Top.less{val:Nat->Int}{n:Nat}{M:Int}(h:Top val n M)(hn:¬val n>M):Top val (n+1) M :=
 ⟨let⟨i,hi,e⟩:=h.1;⟨i,by omega,e⟩,λi hi=>by
  by_cases e:i=n
  ·subst e;omega
  ·exact h.2 i (by omega)⟩
section
variable {prog:Program}{w:World}{A:Around}{R:Result->Shared->Prop}{I S:Addr}{fp wr:List Addr}{n:Nat}{P:Nat->Value->Prop}{St:Nat->Heap->Prop}{val:Nat->Int}{d:Value}
theorem oW:(toString "max"++toString ".loop":String)="max.loop":=by decide
theorem HP(W:Walks prog w A.in1 I fp wr n P St)(hval:∀i v,P i v->∃t,v=.int (val i) t)(hSf:S∉fp) :
 ∀(k j:Nat) (s:Shared) (m:Int) (t:Tok) (c:Nat),n-j=k->j<=n->St j s.heap->Top val j m ->
 s.heap.get? S=some { cls:=.type "list",dict:=none,data:=.seq #[.int m t,.int m t] c,slots:=#[] } ->
 (∀M t h' tk,Top val n M->(∀b o,b∉wr->b≠S->s.heap.get? b=some o->h'.get? b=some o)->R (.ok (.ret (.int M t))) { s with heap:=h',toks:=tk }) ->
 codeAny (model prog w) A (.builtin "max.loop" ⟨[.ref I,.none,.ref S],[("default",d)]⟩) R s:=by
 have hSw:S∉wr:=λh=>hSf (W.sub _ h)
 have cm:=CmpOf.ints_gt (prog:=prog) (w:=w) (A:=A.in1) (P:=λi v=>∃t,v=.int (val i) t) val (λ_ _ h=>h);intro k
 induction k with
 |zero =>
  intro j s m t c hk hj hst hT hS hR;have hin:j=n:=by omega
  subst hin;refine codeAny_builtin F.entry_max_loop ?_;rw[Around.under_plainId F.plain_max_loop _];refine wpAny_bind (wpAny_seqItems hS rfl ?_);show wpAny _ A.in1 (tryCatch (pyNext (.ref I)) _ >>= _) _ _ s;refine wpAny_bind (wpAny_tryCatch (W.done s _ _ hst λh' tk hk'=>?_));show wpAny _ A.in1 (updateSeq S (λ_=>#[]) >>= _) _ _ _;refine wpAny_bind (wpAny_updateSeq (hk' S _ hSw hS) rfl (wpAny_bind (wpAny_letGo (wpAny_pure ?_))));exact hR m t _ tk hT λb o hb hbS e=>(Heap.get?_update_other _ _ (Ne.symm hbS)).trans (hk' b o hb e)
 |succ k ih =>
  intro j s m t c hk hj hst hT hS hR;have hlt:j<n:=by omega
  refine codeAny_builtin F.entry_max_loop ?_;rw[Around.under_plainId F.plain_max_loop _];refine wpAny_bind (wpAny_seqItems hS rfl ?_);show wpAny _ A.in1 (tryCatch (pyNext (.ref I)) _ >>= _) _ _ s;refine wpAny_bind (wpAny_tryCatch (W.item j s _ _ hlt hst λv h' tk hP hst' hk'=>?_));have hS':=hk' S _ hSw hS;obtain⟨u,rfl⟩:=hval j v hP;obtain⟨i0,_,e0⟩:=hT.1;show wpAny _ A.in1 (tryCatch (holding [_,_] (richCompare .Gt (.int (val j) u) (.int m t) >>= _)) _ >>= _) _ _ _;refine wpAny_bind (wpAny_tryCatch (wpAny_holding (wpAny_bind (cm j i0 _ _ _ _ _ ⟨u,rfl⟩ ⟨t,by rw[e0]⟩ ?_))));refine wpAny_bind (wpAny_holding (wpAny_truthy_bool ?_));refine wpAny_bind (wpAny_letGo (wpAny_pure ?_));show wpAny _ A.in1 (if decide (val j>val i0)=true then _ else _) _ _ _;rw[e0];by_cases hb:val j>m
  ·rw[decide_eq_true hb];simp only[if_true];refine wpAny_bind ?_;refine wpAny_updateSeq hS' rfl (wpAny_bind (wpAny_letGo ?_));rw[oW];refine wpAny_pure ⟨plainId_quiet F.plain_max_loop _,ih (j+1) _ (val j) u _ (by omega) hlt (W.frame _ _ _ hst' λb hbf o e=>?_) (hT.more hb) (Heap.get?_update_self _ hS' rfl) λM t' h'' tk'' hM hk''=>?_⟩
   ·exact(Heap.get?_update_other _ _ (λh:S=b=>hSf (h ▸ hbf))).trans e
   ·exact hR M t' h'' tk'' hM λb o hbw hbS e=>hk'' b o hbw hbS ((Heap.get?_update_other _ _ (Ne.symm hbS)).trans (hk' b o hbw e))
  ·rw[decide_eq_false hb];simp only[Bool.false_eq_true,if_false];refine wpAny_bind (wpAny_letGo ?_);rw[oW];refine wpAny_pure ⟨plainId_quiet F.plain_max_loop _,ih (j+1) _ m t c (by omega) hlt hst' (hT.less hb) hS' λM t' h'' tk'' hM hk''=>?_⟩;exact hR M t' h'' tk'' hM λb o hbw hbS e=>hk'' b o hbw hbS (hk' b o hbw e)
theorem HQ(W:Walks prog w A.in1 I fp wr n P St)(hval:∀i v,P i v->∃t,v=.int (val i) t)(hSf:S∉fp){s:Shared}{c:Nat}(hst:St 0 s.heap)
 (hS:s.heap.get? S=some { cls:=.type "list",dict:=none,data:=.seq #[] c,slots:=#[] })
 (h0:n=0->∀h' tk,(∀b o,b∉wr->b≠S->s.heap.get? b=some o->h'.get? b=some o)->R (.ok (.ret d)) { s with heap:=h',toks:=tk })
 (hR:∀M t h' tk,Top val n M->(∀b o,b∉wr->b≠S->s.heap.get? b=some o->h'.get? b=some o)->R (.ok (.ret (.int M t))) { s with heap:=h',toks:=tk }) :
 codeAny (model prog w) A (.builtin "max.loop" ⟨[.ref I,.none,.ref S],[("default",d)]⟩) R s:=by
 have hSw:S∉wr:=λh=>hSf (W.sub _ h)
 refine codeAny_builtin F.entry_max_loop ?_;rw[Around.under_plainId F.plain_max_loop _];refine wpAny_bind (wpAny_seqItems hS rfl ?_);show wpAny _ A.in1 (tryCatch (pyNext (.ref I)) _ >>= _) _ _ s;by_cases hn:n=0
 ·subst hn;refine wpAny_bind (wpAny_tryCatch (W.done s _ _ hst λh' tk hk'=>?_));refine wpAny_bind (wpAny_rule (wpAny_pure ?_));exact h0 rfl h' tk λb o hb _ e=>hk' b o hb e
 ·refine wpAny_bind (wpAny_tryCatch (W.item 0 s _ _ (by omega) hst λv h' tk hP hst' hk'=>?_));have hS':=hk' S _ hSw hS;obtain⟨u,rfl⟩:=hval 0 v hP;show wpAny _ A.in1 (updateSeq S (λ_=>#[.int (val 0) u,.int (val 0) u]) >>= _) _ _ _;refine wpAny_bind (wpAny_updateSeq hS' rfl ?_);rw[oW];refine wpAny_pure ⟨plainId_quiet F.plain_max_loop _,HP W hval hSf _ 1 _ (val 0) u _ rfl (by omega) (W.frame _ _ _ hst' λb hbf o e=>?_) ⟨⟨0,by omega,rfl⟩,λi hi=>?_⟩ (Heap.get?_update_self _ hS' rfl) λM t h'' tk'' hM hk''=>?_⟩
  ·exact(Heap.get?_update_other _ _ (λh:S=b=>hSf (h ▸ hbf))).trans e
  ·have:i=0:=by omega
   subst this;exact PU _
  ·exact hR M t h'' tk'' hM λb o hbw hbS e=>hk'' b o hbw hbS ((Heap.get?_update_other _ _ (Ne.symm hbS)).trans (hk' b o hbw e))
end
section
variable {prog:Program}{w:World}{A:Around}{E:Value->Shared->Prop}{s:Shared}{l:Addr}{xs:Array (Int×Tok)}{d:Value}
theorem Lx{Q:Value->Shared->Prop}(hh:A.handled=none)(hl:s.heap.IsList l (intItems xs))
 (h0:xs.size=0->∀h' tk,(∀b o,s.heap.get? b=some o->h'.get? b=some o)->Q d { s with heap:=h',toks:=tk })
 (h:∀M t h' tk,Top (numAt xs) xs.size M->(∀b o,s.heap.get? b=some o->h'.get? b=some o)->Q (.int M t) { s with heap:=h',toks:=tk }) :
 wpAny (model prog w) A (call (.builtin "max") [.ref l] [("default",d)]) Q E s:=by
 refine wpAny_call (codeAny_call_builtin F.plain_max F.entry_max ?_);simp only[checkBuiltinCall,F.kind_max]
 have key:wpAny (model prog w) A.in1 (Builtin.«max» ⟨[.ref l],[("default",d)]⟩) (λfin s'=>match fin with
  |.done f=>(match(Except.ok f:Result)with |.ok (.ret v)=>Q v s' |.ok _=>False |.error e=>E e s')
  |.again c'=>c'.quiet=true/\codeAny (model prog w) A c' (λr s'=>match r with |.ok (.ret v)=>Q v s' |.ok _=>False |.error e=>E e s') s') E s:=by
  show wpAny _ A.in1 (Builtin.Builtins.bindParams "max" ["key","default"] 0 ⟨[],[("default",d)]⟩ >>= _) _ _ s;refine wpAny_bind (wpAny_of_eq (show Builtin.Builtins.bindParams "max" ["key","default"] 0 ⟨[],[("default",d)]⟩=pure [none,some d]from rfl) ?_);refine wpAny_bind (wpAny_pure ?_);refine wpAny_bind (iter_intList hl λs₂ e st hfp hlI=>?_);subst e;refine wpAny_bind (wpAny_newObj_type ?_);rw[oW];have W:=Walks.list (prog:=prog) (w:=w) (A:=A.in1) hh _ l hlI (intItems xs);have sz:(intItems xs).size=xs.size:=by simp[intItems]
  refine wpAny_pure ⟨plainId_quiet F.plain_max_loop _,HQ W (val:=numAt xs) (λi v=>intItems_at) (λhm=>Qw _ (hfp _ hm)) (W.frame _ _ _ st λb _ o e=>Heap.get?_push_of_some _ e) (Heap.get?_push_size _ rfl) (λhn h' tk hk=>?_) λM t h' tk hM hk=>?_⟩
  ·exact h0 (sz ▸ hn) h' tk (old_kept λb o hb e=>hk b o hb (Qb (Heap.lt_size e)) (Heap.get?_push_of_some _ e))
  ·exact h M t h' tk (sz ▸ hM) (old_kept λb o hb e=>hk b o hb (Qb (Heap.lt_size e)) (Heap.get?_push_of_some _ e))
 cases hsig:Manifest.signature? "max" with
 |none=>exact wpAny_pure key
 |some sig =>
  have ha':Bind.checkArgs "max" sig ⟨[.ref l],[("default",d)]⟩=pure ():=by simpa only[argsOk,hsig]using Mg (.ref l) d
  simp only[ha'];exact wpAny_pure key
end
def yZ(K:PySem.W.Frag):R2:=λx y H Q=>∃(p:Addr) (ns:List Int),x=.ref p/\SqL K H p (ns.map V.int)/\(ns=[]->Q y H)/\∀M,M∈ns->(∀a∈ns,a<=M)->Q (.int M) H
theorem AI:∀{ns:List Int} {us:List Value},Vals (ns.map V.int) us->∃ts:List (Int×Tok),us.toArray=intItems ts.toArray/\ts.map (·.1)=ns
 | [],_,h=>by cases h;exact⟨[],by simp[intItems],rfl⟩
 |n::ns,_,h=>by
  cases h with
  |cons r rr =>obtain⟨t,rfl⟩:=r;obtain⟨ts,e1,e2⟩:=AI rr;refine⟨(n,t)::ts,?_,by rw[Qp,e2]⟩;have e3:=congrArg Array.toList e1;simp only[intItems,List.map_toArray]at e3 ⊢;simpa using e3
theorem Dd{ts:List (Int×Tok)}{M:Int}(h:Top (numAt ts.toArray) ts.toArray.size M):M∈ts.map (·.1)/\∀a∈ts.map (·.1),a<=M:=by
 have g:∀(i:Nat) (hi:i<ts.length),numAt ts.toArray i=(ts[i]).1:=λi hi=>by simp[numAt,hi]
 obtain⟨⟨i,hi,e⟩,h2⟩:=h;have hi':i<ts.length:=by simpa using hi
 constructor
 ·rw[<- e,g i hi'];exact PF.mpr ⟨_,Q1 hi',rfl⟩
 ·intro a ha;obtain⟨p,hp,rfl⟩:=PF.mp ha;obtain⟨j,hj,rfl⟩:=List.getElem_of_mem hp;rw[<- g j hj];exact h2 j (by simpa using hj)
section
variable {X:Cx}{K:PySem.W.Frag}{e ed:Expr}{ta td:TE}{p pos kp:Pos}
theorem FP(hK:X.K=K)(hc:X.calm=true)(hg:Gl X "max")(hm:X.mg "max"=none)(ha:PE X e ta)(hd:PE X ed td)
 (he:starEach [e] X.env=(false,eval e X.env)::starEach [] X.env:=by rfl):PE X (.Call (.Name "max" p) [e] [⟨some "default",ed,kp⟩] pos) (tOp (yZ K) ta td):=by
 subst hK;intro pins s σ H Q I h;refine wpAny_Call_Name_kw (gN I hg hm boot_max ?_ (by decide) (by decide));refine callWith_kw (thn (aa ha ac he pos pins s σ H (λvs H1=>match vs with | [x]=>td σ H1 λy H2=>yZ X.K x y H2 Q |_=>False) I h) λus s1 ⟨vs,H1,I1,r1,q1⟩=>?_) (by rw[he];rfl) (by rw[he];rfl) rfl rfl
 obtain⟨x,rfl⟩:∃x,vs=[x]:=by
  match vs,q1 with
  | [x],_=>exact⟨x,rfl⟩
 obtain⟨u,rfl,ru⟩:=hJ r1;refine kws_cons (thn (hd pins s1 σ H1 _ I1 q1) λv s2 ⟨y,H2,I2,ry,q2⟩=>kws_nil ?_);obtain⟨a,ns,rfl,hq,k0,k1⟩:=q2;cases ru;obtain⟨its,r',pl,hz⟩:=I2.list hq;obtain⟨ts,e1,e2⟩:=AI r';have il:=pl.isList;rw[e1]at il;refine Lx (I2.ok.hd hc) il (λh0 h' tk k=>⟨y,H2,I2.kept k,ry,k0 ?_⟩) λM t h' tk hM k=>⟨.int M,H2,I2.kept k,⟨t,rfl⟩,?_⟩
 ·have:ts=[]:=by simpa using h0
  rw[<- e2,this];rfl
 ·obtain⟨m1,m2⟩:=Dd hM;rw[e2]at m1 m2;exact k1 M m1 m2
end
theorem B9:∀{bs:List Bool} {us:List Value},Vals (bs.map V.bl) us->us=bs.map Value.bool
 | [],_,h=>by cases h;rfl
 |b::bs,_,h=>by
  cases h with
  |cons r rr =>cases r;rw[B9 rr];rfl
theorem Mh(bs:List Bool):(List.range bs.length).any (λi=>bs.getD i false)=bs.any id:=by
 rw[Bool.eq_iff_iff,List.any_eq_true,List.any_eq_true];constructor
 ·rintro⟨i,hi,e⟩;have hi':=List.mem_range.mp hi;refine⟨bs[i],Q1 hi',?_⟩;simpa[List.getD,List.getElem?_eq_getElem hi']using e
 ·rintro⟨b,hb,e⟩;obtain⟨i,hi,rfl⟩:=List.getElem_of_mem hb;refine⟨i,List.mem_range.mpr hi,?_⟩;simpa[List.getD,List.getElem?_eq_getElem hi]using e
theorem LC{X:Cx}{K:PySem.W.Frag}(hK:X.K=K)(hc:X.calm=true):CallR X (.builtin "any") (λxs H Q=>∃(p:Addr) (bs:List Bool),xs=[.ref p]/\SqL K H p (bs.map V.bl)/\Q (.bl (bs.any id)) H):=by
 subst hK;intro pins s σ H xs us Q I r h;obtain⟨p,bs,rfl,hq,q⟩:=h;obtain⟨u,rfl,rx⟩:=hJ r;cases rx;obtain⟨its,r',pl,hz⟩:=I.list hq;have e:=B9 r';subst e;have hl:=pl.isList;have hlt:p<s.heap.objs.size:=by obtain⟨_,e,_⟩:=hl;exact Heap.lt_size e
 refine call_any_walk (wpAny_pyIter_list hl ?_);refine⟨_,_,_,_,_,_,λi=>bs.getD i false,rfl,Walks.list (A:=X.A.in1) (I.ok.hd hc) _ p (Qb hlt) _,⟨⟨_,Heap.get?_push_size _ rfl,rfl,rfl⟩,hl.push _⟩,λi v s' Q' E' hP hQ=>?_,λh' tk hk=>?_⟩
 ·have e:v=.bool (bs.getD i false):=by have hP':((bs.map Value.bool).toArray)[i]?=some v:=hP;simp only[List.getElem?_toArray,List.getElem?_map,Option.map_eq_some_iff]at hP';obtain⟨b,hb,rfl⟩:=hP';simp[List.getD,hb]
  subst e;exact wpAny_truthy_bool hQ
 ·refine⟨.bl (bs.any id),H,I.kept (old_kept hk),?_,q⟩;show Value.bool _=Value.bool _;rw[<- Mh bs];simp
section
variable {X:Cx}
end
theorem AH:∀{ns:List Int} {us:List Value},Vals (ns.map V.int) us->∃l:List (Int×Tok),us=l.map (λp=>Value.int p.1 p.2)/\l.map (·.1)=ns
 | [],_,h=>by cases h;exact⟨[],rfl,rfl⟩
 |n::ns,_,h=>by
  cases h with
  |cons r rr =>obtain⟨t,rfl⟩:=r;obtain⟨l,rfl,e⟩:=AH rr;exact⟨(n,t)::l,rfl,by rw[Qp,e]⟩
theorem zg:∀(l:List (Int×Tok)) (n:Nat),n<=l.length->preSum (numAt l.toArray) n=((l.take n).map (·.1)).sum
 |l,0,_=>rfl
 |l,n+1,h=>by rw[preSum,zg l n (by omega),Qy,List.getElem?_eq_getElem (by omega)];unfold numAt;rw[List.getElem?_toArray,List.getElem?_eq_getElem (by omega),Option.toList_some,Qc,List.sum_append];show _=_+(l[n].1+0);rw[Qj];rfl
theorem Lv{X:Cx}{K:PySem.W.Frag}(hK:X.K=K)(hc:X.calm=true):CallR X (.builtin "sum") (λxs H Q=>∃(p:Addr) (ns:List Int),xs=[.ref p]/\SqL K H p (ns.map V.int)/\Q (.int ns.sum) H):=by
 subst hK;intro pins s σ H xs us Q I r h;obtain⟨p,ns,rfl,hq,q⟩:=h;obtain⟨u,rfl,rx⟩:=hJ r;cases rx;obtain⟨its,r',pl,hz⟩:=I.list hq;obtain⟨l,rfl,e⟩:=AH r'
 have hl:s.heap.IsList p (intItems l.toArray):=by
  have h1:=pl.isList;have e2:(l.map (λp=>Value.int p.1 p.2)).toArray=intItems l.toArray:=by unfold intItems;simp
  rw[<- e2];exact h1
 refine sum_intListG (I.ok.hd hc) hl λh' tk t' hk=>⟨.int ns.sum,H,I.kept hk,⟨t',?_⟩,q⟩
 have e3:preSum (numAt l.toArray) l.toArray.size=ns.sum:=by rw[P4,zg l l.length (Pn _),QD,e]
 rw[e3]
structure CalE(P:Program)(w:World)(K:PySem.W.Frag)(mg:Str->Option Value)(base:Heap)(k:Nat)(x:Str)(ps:List Str)(sp:Sp)(f:Addr)(fd:FuncData)(ds:List Value)(dvs:List V):Prop where
 ok:FnOk P w K mg base CX0 k f fd ps sp
 mg:mg x=some (.ref f)
 kp:PySem.W.keepIn K (.ref f)=true
 bn:Binds K fd ps []
 bd:Binds K fd ps ds
 vd:Vals dvs ds
section
variable {X:Cx}{K:PySem.W.Frag}
end
noncomputable def bg:Nat:=67000000
section
variable {X:Cx}{K:PySem.W.Frag}
theorem qp{x y:V}{us:List Value}(h:Vals [x,y] us):∃u v,us=[u,v]/\RelV x u/\RelV y v:=by
 cases h with
 |cons r t =>
  cases t with
  |cons r2 t2 =>cases t2;exact⟨_,_,rfl,r,r2⟩
end
section
variable {X:Cx}{K:PySem.W.Frag}
end
end L2
namespace RM
noncomputable def cf(l:List Int)(k:Nat):Int:=l.getD k 0
theorem cH(k:Nat):cf [] k=0:=by simp[cf]
theorem BV(x:Int)(l:List Int):cf (x::l) 0=x:=rfl
theorem pV(x:Int)(l:List Int)(k:Nat):cf (x::l) (k+1)=cf l k:=rfl
theorem cF{l:List Int}{k:Nat}(h:l.length<=k):cf l k=0:=by unfold cf;rw[List.getD,List.getElem?_eq_none_iff.mpr h];rfl
theorem eJ{l:List Int}{k:Nat}(h:k<l.length):cf l k=l[k]:=by unfold cf;rw[List.getD,List.getElem?_eq_getElem h];rfl
theorem BX{l:List Int}{k:Nat}{x:Int}(h:l[k]?=some x):cf l k=x:=by unfold cf;rw[List.getD,h];rfl
theorem jn{l:List Int}{k:Nat}(h:k<l.length):l[k]?=some (cf l k):=by rw[eJ h,List.getElem?_eq_getElem h]
theorem BY{l r:List Int}{k:Nat}(h:k<l.length):cf (l++r) k=cf l k:=by unfold cf;rw[List.getD,List.getD,List.getElem?_append_left h]
theorem m8{l r:List Int}{k:Nat}(h:l.length<=k):cf (l++r) k=cf r (k-l.length):=by unfold cf;rw[List.getD,List.getD,List.getElem?_append_right h]
theorem mX{l:List Int}{j k:Nat}{x:Int}(h:j<l.length):cf (l.set j x) k=if k=j then x else cf l k:=by
 unfold cf;rw[List.getD,List.getD,List.getElem?_set];by_cases e:j=k
 ·subst e;simp[h]
 ·rw[if_neg e,if_neg (λz=>e z.symm)]
theorem mY(n k:Nat):cf (List.replicate n 0) k=0:=by unfold cf;rw[List.getD,List.getElem?_replicate];split<;>rfl
theorem mZ(f:Nat->Int)(n k:Nat):cf ((List.range n).map f) k=if k<n then f k else 0:=by
 unfold cf;rw[List.getD,List.getElem?_map];by_cases h:k<n
 ·rw[if_pos h,List.getElem?_range h];rfl
 ·rw[if_neg h,List.getElem?_eq_none_iff.mpr (by simpa using h)];rfl
theorem eu{a b:List Int}(hl:a.length=b.length)(h:∀k,k<a.length->cf a k=cf b k):a=b:=by apply List.ext_getElem hl;intro k h1 h2;rw[<- eJ h1,<- eJ h2];exact h k h1
noncomputable def trim(l:List Int):List Int:=(l.reverse.dropWhile (· == 0)).reverse
theorem nZ(l:List Int):trim (l++[0])=trim l:=by unfold trim;rw[List.reverse_append];rfl
theorem k9(l:List Int){x:Int}(h:x≠0):trim (l++[x])=l++[x]:=by unfold trim;rw[List.reverse_append];show((x::l.reverse).dropWhile (· == 0)).reverse=_;rw[List.dropWhile_cons_of_neg (by simpa using h)];simp
def Tr(l:List Int):Prop:=∀n,l.length=n+1->cf l n≠0
theorem cY(l:List Int):l=[]\/∃r x,l=r++[x]:=by
 cases h:l.reverse with
 |nil=>left;simpa using h
 |cons x r=>right;exact⟨r.reverse,x,by rw[<- List.reverse_reverse l,h];simp⟩
theorem kJ(r:List Int)(x:Int):cf (r++[x]) r.length=x:=by rw[m8 (Pn _),Q2];rfl
theorem Da:Tr []:=λn h=>by simp at h
theorem tr_snoc{r:List Int}{x:Int}:Tr (r++[x])↔x≠0:=by
 constructor
 ·intro h;have:=h r.length (by simp)
  rwa [kJ]at this
 ·intro h n hn;have e:n=r.length:=by simp at hn;omega
  subst e
  rwa [kJ]
theorem nY:∀(n:Nat) (l:List Int),l.length=n->Tr (trim l)/\(trim l).length<=l.length/\∀k,cf (trim l) k=cf l k
 |0,l,h=>by have:l=[]:=Qz.mp h;subst this;exact⟨Da,Pn _,λ_=>rfl⟩
 |n+1,l,h=>by
  rcases cY l with rfl |⟨r,x,rfl⟩
  ·simp at h
  ·by_cases hx:x=0
   ·subst hx;obtain⟨h1,h2,h3⟩:=nY n r (by simpa using h);rw[nZ];refine⟨h1,by rw[P6];exact PM h2 (Nat.le_add_right _ _),λk=>?_⟩;rw[h3];by_cases hk:k<r.length
    ·rw[BY hk]
    ·rw[m8 (QL hk),cF (QL hk)];cases e:k-r.length with
     |zero=>rfl
     |succ j=>rw[pV,cH]
   ·rw[k9 r hx];exact⟨tr_snoc.mpr hx,Pn _,λ_=>rfl⟩
theorem fK(l:List Int):Tr (trim l):=(nY _ l rfl).1
theorem uI(l:List Int):(trim l).length<=l.length:=(nY _ l rfl).2.1
theorem gT(l:List Int)(k:Nat):cf (trim l) k=cf l k:=(nY _ l rfl).2.2 k
theorem qr{l:List Int}(h:Tr l):trim l=l:=by
 rcases cY l with rfl |⟨r,x,rfl⟩
 ·rfl
 ·exact k9 r (tr_snoc.mp h)
theorem mT{a b:List Int}(ha:Tr a)(hb:Tr b)(h:∀k,cf a k=cf b k):a=b:=by
 have le:∀{a b:List Int},Tr a->(∀k,cf a k=cf b k)->a.length<=b.length:=λ{a b} ha h=>by
  cases e:a.length with
  |zero=>exact Ps _
  |succ n =>apply Classical.byContradiction;intro hn;exact ha n e (by rw[h n,cF (by omega)])
 have hl:a.length=b.length:=Nat.le_antisymm (le ha h) (le hb λk=>(h k).symm);exact eu hl λk _=>h k
theorem CV{l:List Int}{n:Nat}(hn:n<l.length)(h:cf l n=0):trim (l.take (n+1))=trim (l.take n):=by rw[Qy,jn hn,h];exact nZ _
theorem CW{l:List Int}{n:Nat}(hn:n<l.length)(h:cf l n≠0):trim (l.take (n+1))=l.take (n+1):=by rw[Qy,jn hn];exact k9 _ h
noncomputable def d8(f:Int)(a b:List Int):List Int:=(List.range (max a.length b.length)).map λk=>cf a k+f*cf b k
theorem iD(f:Int)(a b:List Int)(k:Nat):cf (d8 f a b) k=cf a k+f*cf b k:=by
 unfold d8;rw[mZ];by_cases h:k<max a.length b.length
 ·rw[if_pos h]
 ·have h1:a.length<=k:=by omega
  have h2:b.length<=k:=by omega
  rw[if_neg h,cF h1,cF h2];simp
noncomputable def iF(a b:List Int):List Int:=trim (d8 1 a b)
noncomputable def cN(a b:List Int):List Int:=trim (d8 (-1) a b)
noncomputable def tm(a b:List Int)(n i:Nat):Int:=if i<=n then cf a i*cf b (n-i)else 0
noncomputable def sm(a b:List Int)(n:Nat):Nat->Int
 |0=>0
 |j+1=>sm a b n j+tm a b n j
noncomputable def aA(a b:List Int)(n:Nat):Int:=sm a b n a.length
noncomputable def ad(a b:List Int):List Int:=if a=[]\/b=[]then[]else(List.range (a.length+b.length-1)).map (aA a b)
theorem De{a b:List Int}{n i:Nat}(h:a.length<=i):tm a b n i=0:=by
 unfold tm;split
 ·rw[cF h,PX]
 ·rfl
theorem n5{a b:List Int}{n i:Nat}(h:b.length<=n-i):tm a b n i=0:=by
 unfold tm;split
 ·rw[cF h,PN]
 ·rfl
theorem lw{a b:List Int}{n:Nat}:∀{j:Nat},(∀i,i<j->tm a b n i=0)->sm a b n j=0
 |0,_=>rfl
 |j+1,h=>by rw[sm,lw λi hi=>h i (Nat.lt_succ_of_lt hi),h j (QJ _)];rfl
theorem zR{a b:List Int}{n:Nat}(h:a.length+b.length<=n+1):aA a b n=0:=by apply lw;intro i hi;exact n5 (by omega)
theorem mj{a b:List Int}{la lb:Nat}(ha:a.length=la+1)(hb:b.length=lb+1):aA a b (la+lb)=cf a la*cf b lb:=by unfold aA;rw[ha,sm,lw λi hi=>n5 (by omega)];unfold tm;rw[if_pos (Nat.le_add_right _ _),Nat.add_sub_cancel_left,Qt]
theorem aN(a b:List Int)(n:Nat):cf (ad a b) n=aA a b n:=by
 unfold ad;by_cases h:a=[]\/b=[]
 ·rw[if_pos h,cH]
  symm
  apply lw;intro i hi;rcases h with rfl |rfl
  ·simp at hi
  ·exact n5 (Ps _)
 ·rw[if_neg h,mZ];by_cases hn:n<a.length+b.length-1
  ·rw[if_pos hn]
  ·rw[if_neg hn,zR (by omega)]
theorem jS{a b:List Int}(ha:Tr a)(hb:Tr b):Tr (ad a b):=by
 intro n hn;rw[aN];by_cases h:a=[]\/b=[]
 ·unfold ad at hn;rw[if_pos h]at hn;simp at hn
 ·have h1:a≠[]:=λz=>h (.inl z)
  have h2:b≠[]:=λz=>h (.inr z)
  obtain⟨la,ea⟩:∃la,a.length=la+1:=⟨a.length-1,by have:=Pq.mpr h1;omega⟩;obtain⟨lb,eb⟩:∃lb,b.length=lb+1:=⟨b.length-1,by have:=Pq.mpr h2;omega⟩;unfold ad at hn
  rw[if_neg h,Pk,QN]at hn;have e:n=la+lb:=by omega
  subst e;rw[mj ea eb];exact PP (ha la ea) (hb lb eb)
theorem zS{a b acc:List Int}{j k:Nat}(hj:j<a.length)(hk:k<b.length)(hl:j+k<acc.length)
 (h:∀n,n<acc.length->cf acc n=sm a b n j+(if j<=n/\n-j<k then tm a b n j else 0)) :
 ∀n,n<(acc.set (j+k) (cf acc (j+k)+cf a j*cf b k)).length->cf (acc.set (j+k) (cf acc (j+k)+cf a j*cf b k)) n=sm a b n j+(if j<=n/\n-j<k+1 then tm a b n j else 0):=by
 intro n hn;rw[Rb]at hn;rw[mX hl];by_cases e:n=j+k
 ·subst e;rw[if_pos rfl,h _ hl,if_neg (by omega),if_pos ⟨by omega,by omega⟩];unfold tm;rw[if_pos (by omega),Nat.add_sub_cancel_left,Qj]
 ·rw[if_neg e,h n hn]
  congr 1
  by_cases h1:j<=n/\n-j<k
  ·rw[if_pos h1,if_pos ⟨h1.1,by omega⟩]
  ·rw[if_neg h1,if_neg (by omega)]
theorem zU{a b acc:List Int}{j:Nat}(h:∀n,n<acc.length->cf acc n=sm a b n j+(if j<=n/\n-j<b.length then tm a b n j else 0)):∀n,n<acc.length->cf acc n=sm a b n (j+1):=by
 intro n hn;rw[h n hn,sm]
 congr 1
 by_cases h1:j<=n/\n-j<b.length
 ·rw[if_pos h1]
 ·rw[if_neg h1];by_cases h2:j<=n
  ·rw[n5 (by omega)]
  ·unfold tm;rw[if_neg h2]
theorem zT{a b acc:List Int}{j:Nat}(h:∀n,n<acc.length->cf acc n=sm a b n j):∀n,n<acc.length->cf acc n=sm a b n j+(if j<=n/\n-j<0 then tm a b n j else 0):=by intro n hn;rw[if_neg (by omega),Qj];exact h n hn
theorem zV{a b acc:List Int}(hl:a.length+b.length<=acc.length+1)(h:∀n,n<acc.length->cf acc n=sm a b n a.length)(n:Nat):cf acc n=aA a b n:=by
 by_cases hn:n<acc.length
 ·exact h n hn
 ·rw[cF (QL hn),zR (by omega)]
theorem Ml(a b:List Int):trim ((List.range (max a.length b.length)).map λk=>cf a k+cf b k)=iF a b:=by
 unfold iF d8
 congr 2;funext k;rw[P7]
theorem Dz(a b:List Int):trim ((List.range (max a.length b.length)).map λk=>cf a k-cf b k)=cN a b:=by
 unfold cN d8
 congr 2;funext k;omega
noncomputable def dv(t b:Int):Int:=if b<0 then -((Nat.gcd t.natAbs b.natAbs:Nat):Int)else((Nat.gcd t.natAbs b.natAbs:Nat):Int)
noncomputable def rt(t b:Int):Int:=t.fdiv (dv t b)
noncomputable def rb(t b:Int):Int:=b.fdiv (dv t b)
theorem kB{t b:Int}(hb:b≠0):0<Nat.gcd t.natAbs b.natAbs:=Nat.gcd_pos_of_pos_right _ (Q3.mpr hb)
theorem pM{t b:Int}(hb:b≠0):dv t b≠0:=by have:=@kB t b hb;unfold dv;split<;>omega
theorem jq(t b:Int):(dv t b).natAbs=Nat.gcd t.natAbs b.natAbs:=by unfold dv;split<;>omega
theorem KU(t b:Int):dv t b∣t:=Rz.mp (by rw[jq];exact QS _ _)
theorem KT(t b:Int):dv t b∣b:=Rz.mp (by rw[jq];exact Rc _ _)
theorem Bc{a d:Int}(hd:d≠0)(h:d∣a):d*a.fdiv d=a:=by obtain⟨c,rfl⟩:=h;rw[Int.mul_fdiv_cancel_left c hd]
theorem j6{t b:Int}(hb:b≠0):dv t b*rt t b=t:=Bc (pM hb) (KU t b)
theorem iS{t b:Int}(hb:b≠0):dv t b*rb t b=b:=Bc (pM hb) (KT t b)
theorem dA{t b:Int}(hb:b≠0):0<rb t b:=by
 have h1:=@iS t b hb;have h2:=@kB t b hb;by_cases hn:b<0
 ·have hd:dv t b<0:=by unfold dv;rw[if_pos hn];omega
  apply Classical.byContradiction;intro h;have:0<=dv t b*rb t b:=RB (Pt hd) (by omega);omega
 ·have hd:0<dv t b:=by unfold dv;rw[if_neg hn];omega
  apply Classical.byContradiction;intro h;have:dv t b*rb t b<=0:=Int.mul_nonpos_of_nonneg_of_nonpos (Pt hd) (by omega);omega
theorem lK{t b:Int}(hb:b≠0):Nat.gcd (rt t b).natAbs (rb t b).natAbs=1:=by
 have h1:t.natAbs=Nat.gcd t.natAbs b.natAbs*(rt t b).natAbs:=by rw[<- jq,<- PL,j6 hb]
 have h2:b.natAbs=Nat.gcd t.natAbs b.natAbs*(rb t b).natAbs:=by rw[<- jq,<- PL,iS hb]
 have hp:=@kB t b hb
 have e:Nat.gcd t.natAbs b.natAbs=Nat.gcd t.natAbs b.natAbs*Nat.gcd (rt t b).natAbs (rb t b).natAbs:=by rw[<- Nat.gcd_mul_left,<- h1,<- h2]
 exact(Nat.eq_of_mul_eq_mul_left hp (by rw[Nat.mul_one];exact e)).symm
theorem ge{t b:Int}(hb:b≠0):rt t b*b=t*rb t b:=by
 have e1:=@j6 t b hb;have e2:=@iS t b hb
 calc rt t b*b=rt t b*(dv t b*rb t b):=by rw[e2]
  _=(dv t b*rt t b)*rb t b:=by rw[<- PR,PQ (rt t b)]
  _=t*rb t b:=by rw[e1]
theorem EH{t b:Int}(hb:b≠0):(rt t b).natAbs<=t.natAbs:=by
 have h1:t.natAbs=Nat.gcd t.natAbs b.natAbs*(rt t b).natAbs:=by rw[<- jq,<- PL,j6 hb]
 rw[h1];exact RC _ (kB hb)
theorem E7{t b:Int}(hb:b≠0):(rb t b).natAbs<=b.natAbs:=by
 have h1:b.natAbs=Nat.gcd t.natAbs b.natAbs*(rb t b).natAbs:=by rw[<- jq,<- PL,iS hb]
 rw[h1];exact RC _ (kB hb)
noncomputable def sg(x:Int):Int:=if x<0 then -1 else if 0<x then 1 else 0
theorem DY(x:Int):sg (-x) = -sg x:=by unfold sg;split<;>split<;>(try split)<;>(try split)<;>omega
theorem rc{x p:Int}(hp:0<p):sg (x*p)=sg x:=by
 unfold sg;by_cases h1:x<0
 ·rw[if_pos h1,if_pos (Rm h1 hp)]
 ·by_cases h2:0<x
  ·have:=Pl h2 hp;rw[if_neg h1,if_pos h2,if_neg (by omega),if_pos this]
  ·obtain rfl:x=0:=by omega
   simp
noncomputable def hv(t b:Int):List Int->Int
 | []=>0
 |v::l=>v*b^(l.length+1)+t*hv t b l
theorem pA(t b:Int):hv t b []=0:=rfl
theorem dR(t b v:Int)(l:List Int):hv t b (v::l)=v*b^(l.length+1)+t*hv t b l:=rfl
noncomputable def mb(a b:Int):Int->List Int->List Int
 |c,[]=>[c]
 |c,x::l=>(-a*x+c)::mb a b (b*x) l
theorem oV(a b:Int):∀(c:Int) (l:List Int),(mb a b c l).length=l.length+1
 |c,[]=>rfl
 |c,x::l=>by show(mb a b (b*x) l).length+1=_;rw[oV];rfl
theorem jv(a b:Int):∀(c:Int) (l:List Int) (k:Nat),cf (mb a b c l) k = -a*cf l k+(if k=0 then c else b*cf l (k-1))
 |c,[],0=>by show c=_;rw[cH];simp
 |c,[],k+1=>by show cf [] k=_;rw[cH,cH];simp[cH]
 |c,x::l,0=>rfl
 |c,x::l,k+1=>by
  show cf (mb a b (b*x) l) k=_;rw[jv a b (b*x) l k,pV,if_neg (Nat.succ_ne_zero k)];cases k with
  |zero=>rfl
  |succ k=>rw[if_neg (Nat.succ_ne_zero k)];rfl
theorem AR(t u a b:Int):∀(c:Int) (l:List Int),hv t u (mb a b c l)=c*u^(l.length+1)+(b*t-a*u)*hv t u l
 |c,[]=>by show c*u^1+t*0=c*u^1+(b*t-a*u)*0;simp
 |c,x::l=>by show(-a*x+c)*u^((mb a b (b*x) l).length+1)+t*hv t u (mb a b (b*x) l)=c*u^(l.length+1+1)+(b*t-a*u)*(x*u^(l.length+1)+t*hv t u l);rw[AR t u a b (b*x) l,oV];generalize hv t u l=h;rw[P8 u (l.length+1)];generalize u^(l.length+1)=p;grind
theorem vJ(x y:Int)(k:Nat):cf [x,y] k=if k=0 then x else if k=1 then y else 0:=by
 rcases k with _ |_ |k
 ·rfl
 ·rfl
 ·rw[if_neg (by omega),if_neg (by omega)];exact cF (by simp)
theorem yu(l:List Int)(x y:Int)(n:Nat):∀j,sm l [x,y] n j=(if n<j then cf l n*x else 0)+(if 1<=n/\n-1<j then cf l (n-1)*y else 0)
 |0=>by rw[if_neg (by omega),if_neg (by omega)];rfl
 |j+1=>by
  show sm l [x,y] n j+tm l [x,y] n j=_;rw[yu l x y n j];unfold tm;rw[vJ];by_cases h1:n<j
  ·rw[if_pos h1,if_neg (show ¬j<=n by omega),if_pos (show n<j+1 by omega),Qj];by_cases h2:1<=n
   ·rw[if_pos ⟨h2,by omega⟩,if_pos ⟨h2,by omega⟩]
   ·rw[if_neg (λz=>h2 z.1),if_neg (λz=>h2 z.1)]
  ·rw[if_neg h1,if_pos (show j<=n by omega),Qt];by_cases h2:n=j
   ·subst h2;rw[Q2,if_pos rfl,if_pos (QJ _),Int.add_comm];by_cases h3:1<=n
    ·rw[if_pos ⟨h3,by omega⟩,if_pos ⟨h3,by omega⟩]
    ·rw[if_neg (λz=>h3 z.1),if_neg (λz=>h3 z.1)]
   ·rw[if_neg (show ¬n-j=0 by omega),if_neg (show ¬n<j+1 by omega),Qt,if_neg (show ¬(1<=n/\n-1<j) by omega),Qt];by_cases h3:n-j=1
    ·rw[if_pos h3,if_pos (show 1<=n/\n-1<j+1 by omega),show n-1=j by omega]
    ·rw[if_neg h3,if_neg (show ¬(1<=n/\n-1<j+1) by omega),PN]
theorem HF{a b:Int}{l:List Int}(h:l≠[]):ad l [-a,b]=mb a b 0 l:=by
 apply eu
 ·rw[oV];unfold ad;rw[if_neg (by simp[h]),Pk,QN];simp
 ·intro k _;rw[aN,jv];unfold aA;rw[yu]
  have e1:(if k<l.length then cf l k * -a else 0) = -a*cf l k:=by
   by_cases hk:k<l.length
   ·rw[if_pos hk,PQ]
   ·rw[if_neg hk,cF (QL hk),PN]
  have e2:(if 1<=k/\k-1<l.length then cf l (k-1)*b else 0)=if k=0 then 0 else b*cf l (k-1):=by
   by_cases h0:k=0
   ·rw[if_neg (by omega),if_pos h0]
   ·rw[if_neg h0];by_cases hk:k-1<l.length
    ·rw[if_pos (by omega),PQ]
    ·rw[if_neg (by omega),cF (QL hk),PN]
  rw[e1,e2]
theorem pj(g t b:Int):∀l:List Int,hv (g*t) (g*b) l=g^l.length*hv t b l
 | []=>by simp[pA]
 |v::l=>by rw[dR,dR,pj g t b l,Int.mul_pow];show v*(g^(l.length+1)*b^(l.length+1))+g*t*(g^l.length*hv t b l)=g^(l.length+1)*(v*b^(l.length+1)+t*hv t b l);rw[P8 g l.length];generalize b^(l.length+1)=p;generalize g^l.length=q;generalize hv t b l=h;grind
theorem FA{g:Int}(h:0<g)(n:Nat):0<g^n:=by
 induction n with
 |zero=>simp
 |succ n ih=>rw[P8];exact Pl ih h
def At(l:List Int)(t b top bot:Int):Prop:=hv t b l*bot=top*b^l.length
theorem At.sign{l:List Int}{t b top bot:Int}(hb:0<b)(hbot:0<bot)(h:At l t b top bot):sg (hv t b l)=sg top:=by
 unfold At at h
 rw[<- rc (x:=hv t b l) hbot,h,rc (FA hb _)]
theorem mQ(t u c:Int):hv t u [c]=c*u:=by show c*u^1+t*0=c*u;grind
theorem KY(t b:Int){l:List Int}{n:Nat}(h:n<l.length):hv t b (l.drop n)=cf l n*b^(l.length-n)+t*hv t b (l.drop (n+1)):=by
 rw[RX h,dR,QX,eJ h];have e:l.length-(n+1)+1=l.length-n:=by omega
 rw[e]
noncomputable def chF(z:Int×Int)(s:Int):Int×Int:=(if s*z.2<0 then z.1+1 else z.1,if s=0 then z.2 else s)
noncomputable def chS(l:List Int):Int×Int:=l.foldl chF (0,0)
theorem BT(l:List Int)(s:Int):chS (l++[s])=chF (chS l) s:=by unfold chS;rw[List.foldl_append];rfl
theorem q8(x:Int):sg x=0↔x=0:=by unfold sg;split<;>(try split)<;>omega
theorem BU:∀(n:Nat) (l:List Int),l.length=n->(∀s∈l,s.natAbs<=1)->(chS l).2.natAbs<=1/\0<=(chS l).1/\(chS l).1<=l.length
 |n,l,hn,h=>by
  rcases cY l with rfl |⟨r,s,rfl⟩
  ·decide
  ·have hr:r.length+1=n:=by rw[<- hn,P6];rfl
   obtain⟨i1,i2,i3⟩:=BU (n-1) r (by omega) (λx hx=>h x (QI _ hx));have hs:=h s (by simp);rw[BT];unfold chF;refine⟨?_,?_,?_⟩
   ·dsimp only;split
    ·exact i1
    ·exact hs
   ·dsimp only;split<;>omega
   ·dsimp only;rw[P6];show _<=((r.length+1:Nat):Int);split<;>omega
termination_by n=>n
theorem Ls(l:List Int)(h:∀s∈l,s.natAbs<=1):(chS l).2.natAbs<=1/\0<=(chS l).1/\(chS l).1<=l.length:=BU _ l rfl h
theorem yL(x:Int):(sg x).natAbs<=1:=by unfold sg;split<;>(try split)<;>decide
theorem yx{q q' b:List Int}{c l:Int}{p n:Nat}(h:∀k,cf q' k=c*cf q k+(if k=p then l else 0)) :
 ∀j,sm q' b n j=c*sm q b n j+(if p<j/\p<=n then l*cf b (n-p)else 0)
 |0=>by rw[sm,sm,if_neg (by omega)];simp
 |j+1=>by
  rw[sm,sm,yx h j];unfold tm;by_cases hj:j<=n
  ·rw[if_pos hj,if_pos hj,h j];by_cases e:j=p
   ·subst e;rw[if_pos rfl,if_neg (by omega),if_pos ⟨by omega,hj⟩];grind
   ·rw[if_neg e];by_cases h2:p<j/\p<=n
    ·rw[if_pos h2,if_pos ⟨by omega,h2.2⟩];grind
    ·rw[if_neg h2,if_neg (by omega)];grind
  ·rw[if_neg hj,if_neg hj];by_cases h2:p<j/\p<=n
   ·rw[if_pos h2,if_pos ⟨by omega,h2.2⟩];grind
   ·rw[if_neg h2,if_neg (by omega)];grind
theorem HE{q q' b:List Int}{c l:Int}{p n:Nat}(hl:q'.length=q.length)(hp:p<q.length)(h:∀k,cf q' k=c*cf q k+(if k=p then l else 0)) :
 aA q' b n=c*aA q b n+(if p<=n then l*cf b (n-p)else 0):=by
 unfold aA;rw[hl,yx h];by_cases h2:p<=n
 ·rw[if_pos h2,if_pos ⟨hp,h2⟩]
 ·rw[if_neg h2,if_neg (by omega)]
noncomputable def scL(c:Int)(l:List Int):List Int:=l.map λx=>c*x
theorem cv(c:Int)(l:List Int):(scL c l).length=l.length:=by unfold scL;rw[Pk]
theorem bI(c:Int)(l:List Int)(k:Nat):cf (scL c l) k=c*cf l k:=by
 by_cases h:k<l.length
 ·unfold cf scL;simp[h]
 ·rw[cF (by rw[cv];omega),cF (by omega)];simp
noncomputable def jc(r b:List Int)(p:Nat)(l:Int):List Int:=(List.range (r.length-1)).map λk=>cf r k-(if p<=k then l*cf b (k-p)else 0)
theorem Aq(r b:List Int)(p:Nat)(l:Int):(jc r b p l).length=r.length-1:=by unfold jc;simp
theorem pY(r b:List Int)(p:Nat)(l:Int)(k:Nat):cf (jc r b p l) k=if k<r.length-1 then cf r k-(if p<=k then l*cf b (k-p)else 0)else 0:=by unfold jc;rw[mZ]
theorem DV(x:Int):sg x*x=(x.natAbs:Int):=by unfold sg;split<;>(try split)<;>omega
noncomputable def df(b:List Int)(z:List Int×List Int)(i:Nat):List Int×List Int :=
 let s:Int:=((cf b (b.length-1)).natAbs:Int)
 let l:=sg (cf b (b.length-1))*cf z.2 (z.2.length-1)
 ((scL s z.1).set i l,jc (scL s z.2) b i l)
noncomputable def aY(a b:List Int):Nat->List Int×List Int
 |0=>(List.replicate (a.length+1-b.length) 0,a)
 |i+1=>df b (aY a b i) (a.length+1-b.length-1-i)
structure DivInv(a b:List Int)(i:Nat):Prop where
 lq:(aY a b i).1.length=a.length+1-b.length
 lr:(aY a b i).2.length=a.length-i
 low:∀k,k+i<a.length+1-b.length->cf (aY a b i).1 k=0
 eqn:∀n,((cf b (b.length-1)).natAbs:Int)^i*cf a n=aA (aY a b i).1 b n+cf (aY a b i).2 n
theorem um{a b:List Int}{n:Nat}(h:∀k,cf a k=0):aA a b n=0:=by apply lw;intro i _;unfold tm;rw[h i];simp
theorem K9{A B i:Nat}(hi:i+1<=A+1-B)(hb:0<B):∃p,A+1-B=p+i+1/\p+i+B=A:=⟨A-B-i,by omega,by omega⟩
theorem BC(p i:Nat):p<p+i+1:=Nat.lt_succ_of_le (Nat.le_add_right _ _)
theorem pR{P A C M R:Int}(en:P*A=M+R):P*C*A=C*M+C*R:=by rw[Int.mul_right_comm,en,PQ,Int.mul_add]
theorem La(x y z:Int):x+y=x+z+(y-z):=by omega
theorem jr{a b:List Int}(hb:b≠[]):∀i,i<=a.length+1-b.length->DivInv a b i
 |0,_=>⟨by simp[aY],by simp[aY],λk _=>by show cf (List.replicate _ 0) k=0;rw[mY],λn=>by
  show _=aA (List.replicate _ 0) b n+cf a n
  rw[um λk=>mY _ _];simp⟩
 |i+1,hi=>by
  obtain⟨lq,lr,low,eqn⟩:=jr (a:=a) hb i (Nat.le_of_succ_le hi);have hbl:=Pq.mpr hb;have e:aY a b (i+1)=df b (aY a b i) (a.length+1-b.length-1-i):=rfl;generalize aY a b i=z at e lq lr low eqn
  obtain⟨p,ep,ed⟩:=K9 hi hbl;rw[ep,show p+i+1-1-i=p from Nat.add_sub_cancel _ _]at e;rw[ep]at lq low;have lz:z.2.length=p+b.length:=by rw[lr,<- ed,Nat.add_right_comm,Nat.add_sub_cancel]
  have hp:p<(scL ((cf b (b.length-1)).natAbs:Int) z.1).length:=by rw[cv,lq];exact BC p i
  have hq:∀k,cf (df b z p).1 k=((cf b (b.length-1)).natAbs:Int)*cf z.1 k+(if k=p then sg (cf b (b.length-1))*cf z.2 (z.2.length-1)else 0):=by
   intro k;unfold df;dsimp only
   rw[mX hp,bI];by_cases h:k=p
   ·rw[if_pos h,if_pos h,low k (by rw[h];exact QJ _)];simp
   ·rw[if_neg h,if_neg h];simp
  have hlq:(df b z p).1.length=p+i+1:=by unfold df;dsimp only;rw[Rb,cv,lq]
  refine⟨?_,?_,?_,?_⟩
  ·rw[e,hlq,ep]
  ·rw[e];unfold df;dsimp only;rw[Aq,cv,lr];rfl
  ·intro k hk;rw[ep]at hk;have hk':k<p:=by clear lq lr low eqn hp hq hlq lz e ep ed;omega
   rw[e,hq,if_neg (Qb hk'),low k (Nat.lt_trans (Nat.add_lt_add_right hk' i) (QJ _))];simp
  ·intro n;rw[e,HE (by rw[hlq,lq]) (by rw[lq];exact BC p i) hq,P8];have en:=eqn n;unfold df;dsimp only
   rw[pY,cv,bI,lz];clear lq lr low eqn hp hq hlq e ep ed;by_cases h1:n<p+b.length-1
   ·rw[if_pos h1];by_cases h2:p<=n
    ·rw[if_pos h2,pR en];exact La _ _ _
    ·rw[if_neg h2,pR en,Qj,Int.sub_zero]
   ·rw[if_neg h1];have h2:p<=n:=by clear en;omega
    by_cases h3:n=p+b.length-1
    ·have h4:n-p=b.length-1:=by clear en;omega
     rw[if_pos h2,h4];have sg:=DV (cf b (b.length-1));rw[<- h3,pR en,Qj,Int.mul_right_comm,sg]
    ·have hc:cf z.2 n=0:=cF (by rw[lz];clear en;omega);rw[if_pos h2,cF (l:=b) (k:=n-p) (by clear en;omega),pR en,hc,PN,PN,Qj,Qj]
theorem BA{a b:List Int}(hb:b≠[])(ha:Tr a)(hbt:Tr b):∀i,i+1<=a.length+1-b.length->cf (aY a b (i+1)).1 (a.length+1-b.length-1)≠0
 |0,h=>by
  obtain⟨lq,lr,_,_⟩:=jr (a:=a) hb 0 (by omega);have hbl:=Pq.mpr hb;show cf (df b (aY a b 0) _).1 _≠0;unfold df;dsimp only
  rw[mX (by rw[cv,lq];omega),if_pos (by omega)];have hb1:=hbt (b.length-1) (by omega);have ha1:=ha (a.length-1) (by omega);refine PP ?_ ?_
  ·unfold sg;split<;>(try split)<;>omega
  ·rw[lr];exact ha1
 |i+1,h=>by
  have ih:=BA hb ha hbt i (by omega);obtain⟨lq,lr,_,_⟩:=jr (a:=a) hb (i+1) (by omega);have hbl:=Pq.mpr hb;show cf (df b (aY a b (i+1)) _).1 _≠0;unfold df;dsimp only
  rw[mX (by rw[cv,lq];omega),if_neg (by omega),bI];have hb1:=hbt (b.length-1) (by omega);refine PP ?_ ih;omega
noncomputable def aT(a b:List Int):Nat:=a.length+1-b.length
noncomputable def cE(a b:List Int):Int:=((cf b (b.length-1)).natAbs:Int)^aT a b
noncomputable def cw(a b:List Int):List Int:=(aY a b (aT a b)).1
noncomputable def aQ(a b:List Int):List Int:=trim (aY a b (aT a b)).2
theorem iz{a b:List Int}(hb:b≠[])(n:Nat):cE a b*cf a n=aA (cw a b) b n+cf (aQ a b) n:=by unfold aQ cw cE;rw[gT];exact(jr hb (aT a b) (Pn _)).eqn n
theorem gv{a b:List Int}(hb:b≠[]):(aQ a b).length<b.length:=by
 have h:=(jr (a:=a) hb (aT a b) (Pn _)).lr;have h2:=uI (aY a b (aT a b)).2;have hbl:=Pq.mpr hb;unfold aQ;unfold aT at *
 omega
theorem vD{a b:List Int}(hb:b≠[]):(cw a b).length=aT a b:=(jr (a:=a) hb (aT a b) (Pn _)).lq
theorem vC{a b:List Int}(hb:b≠[])(ha:Tr a)(hbt:Tr b):Tr (cw a b):=by
 intro n hn;rw[vD hb]at hn;have h:=BA hb ha hbt n (by unfold aT at hn;omega);unfold cw;rw[hn];have:a.length+1-b.length-1=n:=by unfold aT at hn;omega
 rwa [this]at h
theorem eI(a b:List Int):Tr (aQ a b):=fK _
theorem yA{a a' b b':List Int}{n:Nat}(h1:∀k,cf a k=cf a' k)(h2:∀k,cf b k=cf b' k):∀j,sm a b n j=sm a' b' n j
 |0=>rfl
 |j+1=>by rw[sm,sm,yA h1 h2 j];unfold tm;rw[h1 j,h2 (n-j)]
theorem yy{a b:List Int}{n:Nat}:∀d,sm a b n (a.length+d)=aA a b n
 |0=>rfl
 |d+1=>by rw[<- Nat.add_assoc,sm,yy d,De (by omega)];omega
theorem ly{a b:List Int}{n N:Nat}(h:a.length<=N):sm a b n N=aA a b n:=by obtain⟨d,rfl⟩:=Nat.exists_eq_add_of_le h;exact yy d
theorem oS{a a' b b':List Int}{n:Nat}(h1:∀k,cf a k=cf a' k)(h2:∀k,cf b k=cf b' k):aA a b n=aA a' b' n:=by rw[<- ly (Nat.le_max_left a.length a'.length),<- ly (Nat.le_max_right a.length a'.length)];exact yA h1 h2 _
theorem yw{a b c q:List Int}{x y:Int}{n:Nat}(h:∀k,cf c k=x*cf a k+y*cf b k):∀j,sm c q n j=x*sm a q n j+y*sm b q n j
 |0=>by simp[sm]
 |j+1=>by
  rw[sm,sm,sm,yw h j];unfold tm;rw[h j];by_cases hj:j<=n
  ·rw[if_pos hj,if_pos hj,if_pos hj];grind
  ·rw[if_neg hj,if_neg hj,if_neg hj];grind
theorem fE{a b c q:List Int}{x y:Int}{n:Nat}(h:∀k,cf c k=x*cf a k+y*cf b k):aA c q n=x*aA a q n+y*aA b q n:=by
 have h1:a.length<=a.length+b.length+c.length:=by omega
 have h2:b.length<=a.length+b.length+c.length:=by omega
 have h3:c.length<=a.length+b.length+c.length:=by omega
 rw[<- ly h1,<- ly h2,<- ly h3];exact yw h _
theorem yv{a b b':List Int}{c:Int}{n:Nat}(h:∀k,cf b' k=c*cf b k):∀j,sm a b' n j=c*sm a b n j
 |0=>by simp[sm]
 |j+1=>by
  rw[sm,sm,yv h j];unfold tm;rw[h (n-j)];by_cases hj:j<=n
  ·rw[if_pos hj,if_pos hj];grind
  ·rw[if_neg hj,if_neg hj];grind
theorem ml{a b b':List Int}{c:Int}{n:Nat}(h:∀k,cf b' k=c*cf b k):aA a b' n=c*aA a b n:=yv h _
theorem fC(c:Int)(l:List Int)(n:Nat):aA [c] l n=c*cf l n:=by unfold aA;show sm [c] l n 0+tm [c] l n 0=_;unfold sm tm;rw[if_pos (Ps _),BV,QO,Qt]
theorem ul{l:List Int}(ht:Tr l)(h:∀k,cf l k=0):l=[]:=by
 refine Classical.byContradiction λhne=>?_
 have hl:=Pq.mpr hne;exact ht (l.length-1) (by omega) (h _)
theorem zO{d q:List Int}(hq:q≠[])(hqt:Tr q)(h:∀n,q.length<=n+1->aA d q n=0):∀k,cf d k=0:=by
 have e:trim d=[]:=by
  refine Classical.byContradiction λhne=>?_
  have hl:=Pq.mpr hne;have hql:=Pq.mpr hq;have ht:=fK d ((trim d).length-1) (by omega);have hb:=hqt (q.length-1) (by omega);have h1:=h ((trim d).length-1+(q.length-1)) (by omega);rw[<- oS (a:=trim d) (b:=q) (λk=>gT d k) (λ_=>rfl),mj (la:=(trim d).length-1) (lb:=q.length-1) (by omega) (by omega)]at h1;exact PP ht hb h1
 intro k;rw[<- gT,e,cH]
theorem mU{a b:List Int}(hb:b≠[])(hbt:Tr b):cE a b≠0:=by
 have hbl:=Pq.mpr hb;have h:=hbt (b.length-1) (by omega);have h1:((cf b (b.length-1)).natAbs:Int)≠0:=by omega
 unfold cE;generalize aT a b=n
 induction n with
 |zero=>rw[QA];decide
 |succ n ih=>rw[P8];exact PP ih h1
noncomputable def fF(d:Nat)(l:List Int):Nat:=l.foldl (λd v=>Nat.gcd d v.natAbs) d
noncomputable def av(l:List Int):Nat:=fF 0 l
theorem pG(d:Nat):fF d []=d:=rfl
theorem ix(d:Nat)(v:Int)(l:List Int):fF d (v::l)=fF (Nat.gcd d v.natAbs) l:=rfl
theorem J3(d:Nat)(l:List Int)(v:Int):fF d (l++[v])=Nat.gcd (fF d l) v.natAbs:=by unfold fF;rw[List.foldl_append];rfl
theorem AY(l:List Int)(v:Int):av (l++[v])=Nat.gcd (av l) v.natAbs:=J3 0 l v
theorem Bu{m:Nat}:∀{l:List Int} {d:Nat},m∣fF d l↔m∣d/\∀v∈l,m∣v.natAbs
 | [],d=>by simp[pG]
 |v::l,d=>by rw[ix,Bu,Nat.dvd_gcd_iff];simp only[Pu,forall_eq_or_imp];exact⟨λ⟨⟨a,b⟩,c⟩=>⟨a,b,c⟩,λ⟨a,b,c⟩=>⟨⟨a,b⟩,c⟩⟩
theorem dvd_gcdL{m:Nat}{l:List Int}:m∣av l↔∀v∈l,m∣v.natAbs:=by unfold av;rw[Bu];exact⟨λh=>h.2,λh=>⟨Nat.dvd_zero m,h⟩⟩
theorem pF{l:List Int}{v:Int}(h:v∈l):av l∣v.natAbs:=dvd_gcdL.mp (Nat.dvd_refl _) v h
theorem J1(v:Int):av [v]=v.natAbs:=by show Nat.gcd 0 v.natAbs=_;exact RD _
theorem AX{a b:Int}(ha:0<=a)(hb:0<b):Nat.gcd b.natAbs (a%b).natAbs=Nat.gcd a.natAbs b.natAbs:=by
 have e:(a%b).natAbs=a.natAbs%b.natAbs:=by obtain⟨x,rfl⟩:=Rn ha;obtain⟨y,rfl⟩:=Rn (Pt hb);rfl
 rw[e,Ro,<- Nat.gcd_rec,Ro]
noncomputable def ap(l:List Int):List Int:=l.map λx=>x/(av l:Int)
noncomputable def aq(l:List Int):Int:=cf l (l.length-1)
theorem dM(r:List Int)(x:Int):aq (r++[x])=x:=by unfold aq;rw[P6];exact kJ r x
noncomputable def cI(l:List Int):List Int:=if aq l<0 then l.map λx => -x else l
noncomputable def aB(l:List Int):List Int:=cI (ap l)
theorem w5{c:Int->Int}(h0:∀x,c x=0↔x=0):∀(n:Nat) (l:List Int),l.length=n->trim (l.map c)=(trim l).map c
 |0,l,h=>by rw[Qz.mp h];rfl
 |n+1,l,h=>by
  rcases cY l with rfl |⟨r,x,rfl⟩
  ·rfl
  ·rw[Qc];show trim (r.map c++[c x])=_;by_cases hx:x=0
   ·subst hx;rw[(h0 0).mpr rfl,nZ,nZ];exact w5 h0 n r (by simpa using h)
   ·rw[k9 r hx,k9 _ (λz=>hx ((h0 x).mp z)),Qc];rfl
def kU(l:List Int):Prop:=l=[]\/av l=1
theorem ot{l:List Int}(h:kU l):ap l=l:=by
 rcases h with rfl |h
 ·rfl
 ·unfold ap;rw[h]
  conv=>rhs;rw[<- List.map_id l]
  apply Rp;intro x _;show x/1=x;exact Int.ediv_one x
theorem J2{l:List Int}{s:Int}(hs:s=1\/s = -1):av (l.map λx=>x*s)=av l:=by
 have key:∀m:Nat,m∣av (l.map λx=>x*s)↔m∣av l:=by
  intro m;rw[dvd_gcdL,dvd_gcdL]
  have e:∀x:Int,(x*s).natAbs=x.natAbs:=λx=>by
   rcases hs with rfl |rfl
   ·rw[Qe]
   ·rw[Int.mul_neg,Qe,Int.natAbs_neg]
  constructor
  ·intro h v hv;have:=h (v*s) (PF.mpr ⟨v,hv,rfl⟩)
   rwa [e]at this
  ·intro h v hv;obtain⟨u,hu,rfl⟩:=PF.mp hv;rw[e];exact h u hu
 exact Nat.dvd_antisymm ((key _).mp (Nat.dvd_refl _)) ((key _).mpr (Nat.dvd_refl _))
theorem Fy{l:List Int}(h:kU l):kU (l.map λx => -x):=by
 rcases h with rfl |h
 ·exact .inl rfl
 ·right
  have e:(l.map λx => -x)=l.map λx=>x*(-1):=by apply Rp;intro x _;omega
  rw[e,J2 (.inr rfl),h]
theorem Au(l:List Int):aq (l.map λx => -x) = -aq l:=by
 rcases cY l with rfl |⟨r,x,rfl⟩
 ·rfl
 ·rw[Qc];show aq (r.map _++[-x])=_;rw[dM,dM]
theorem Fx{l:List Int}(h:kU l):kU (cI l):=by
 unfold cI;split
 ·exact Fy h
 ·exact h
theorem Db{c:Int->Int}(h0:∀x,c x=0↔x=0){l:List Int}(h:Tr l):Tr (l.map c):=by rw[<- qr h,<- w5 h0 _ l rfl];exact fK _
theorem CZ{l:List Int}(h:Tr l):Tr (cI l):=by
 unfold cI;split
 ·exact Db (λx=>by omega) h
 ·exact h
theorem AZ(c:Int):∀(l:List Int) (d:Nat),fF (c.natAbs*d) (scL c l)=c.natAbs*fF d l
 | [],d=>rfl
 |v::l,d=>by show fF (Nat.gcd (c.natAbs*d) (c*v).natAbs) (scL c l)=c.natAbs*fF (Nat.gcd d v.natAbs) l;rw[PL,Nat.gcd_mul_left,AZ c l]
theorem pE(c:Int)(l:List Int):av (scL c l)=c.natAbs*av l:=by have h:=AZ c l 0;rw[Nat.mul_zero]at h;exact h
theorem jk{l:List Int}{x:Int}(h:x∈l):(av l:Int)∣x:=Re.mpr (pF h)
theorem DO{c:Int}(hc:0<c)(l:List Int):ap (scL c l)=ap l:=by
 unfold ap;rw[pE];unfold scL;rw[QE];refine Rp λx _=>?_
 show c*x/((c.natAbs*av l:Nat):Int)=x/(av l:Int);have e:((c.natAbs*av l:Nat):Int)=c*(av l:Int):=by rw[Qu];congr 1;omega
 rw[e,Int.mul_ediv_mul_of_pos _ _ hc]
theorem DP{c:Int}(hc:c<0)(l:List Int):ap (scL c l)=(ap l).map λx => -x:=by
 unfold ap;rw[pE];unfold scL;rw[QE,QE];refine Rp λx hx=>?_
 show c*x/((c.natAbs*av l:Nat):Int) = -(x/(av l:Int));have e:((c.natAbs*av l:Nat):Int)=(-c)*(av l:Int):=by rw[Qu];congr 1;omega
 have e2:c*x=(-c)*(-x):=by rw[Rf]
 rw[e,e2,Int.mul_ediv_mul_of_pos _ _ (by omega:0 < -c),Int.neg_ediv_of_dvd (jk hx)]
theorem FC{m:List Int}(h:Tr m):cI (m.map λx => -x)=cI m:=by
 rcases cY m with rfl |⟨r,x,rfl⟩
 ·rfl
 have hx:x≠0:=tr_snoc.mp h;have h1:=Au (r++[x]);rw[dM]at h1;unfold cI;rw[h1,dM];by_cases hn:x<0
 ·rw[if_neg (by omega),if_pos hn]
 ·rw[if_pos (by omega),if_neg hn,QE];rw[show((λx:Int => -x) ∘ λx:Int => -x)=id from by funext y;simp];exact List.map_id _
theorem fL{l:List Int}(h:Tr l):Tr (ap l):=by
 intro n hn;have hl:l.length=n+1:=by rw[<- hn];unfold ap;rw[Pk]
 have hx:=h n hl;have hm:cf l n∈l:=by rw[eJ (by omega)];exact Q1 _
 have e:cf (ap l) n=cf l n/(av l:Int):=by
  have h1:n<l.length:=by omega
  unfold ap cf;simp[List.getD,h1]
 rw[e];intro z;have d:=jk hm;have:=Int.mul_ediv_cancel' d;rw[z,PN]at this;exact hx this.symm
theorem ma{c:Int}(hc:c≠0){l:List Int}(h:Tr l):aB (scL c l)=aB l:=by
 unfold aB;by_cases hp:0<c
 ·rw[DO hp]
 ·rw[DP (by omega),FC (fL h)]
theorem jR{c:Int}(hc:c≠0){l:List Int}(h:Tr l):Tr (scL c l):=by intro n hn;rw[cv]at hn;rw[bI];exact PP hc (h n hn)
theorem FE{a b:List Int}{x y:Int}(hx:x≠0)(hy:y≠0)(ha:Tr a)(hb:Tr b)(h:∀k,x*cf a k=y*cf b k):aB a=aB b:=by
 have e:scL x a=scL y b:=mT (jR hx ha) (jR hy hb) λk=>by rw[bI,bI,h k]
 rw[<- ma hx ha,e,ma hy hb]
noncomputable def slopeL(l:List Int):List Int:=(List.range (l.length-1)).map λ(k:Nat)=>((k:Int)+1)*cf l (k+1)
noncomputable def lp(l:List Int)(m i n:Nat):Int:=if n%m=0/\n/m<i then cf l (n/m)else 0
noncomputable def rst(one other:List Int):List Int:=if other=[]then[]else aQ one other
noncomputable def nxt(one other:List Int):List Int:=ap (cN [] (rst one other))
noncomputable def aU:Nat->List Int->List Int->List (List Int)
 |0,_,_=>[]
 |n+1,one,other=>if one=[]then[]else one::aU n other (nxt one other)
theorem gD(n:Nat)(o:List Int):aU n [] o=[]:=by cases n with |zero=>rfl |succ n=>show(if([]:List Int)=[]then _ else _)=_;rw[if_pos rfl]
noncomputable def up(f:Nat->Int)(n:Nat):Int:=if n=0 then 0 else f (n-1)
theorem yz(x:Int)(a b:List Int)(n:Nat):∀j,sm (x::a) b n (j+1)=x*cf b n+(if n=0 then 0 else sm a b (n-1) j)
 |0=>by
  show 0+tm (x::a) b n 0=_;unfold tm;rw[if_pos (Ps _)];rw[BV,QO];by_cases h:n=0
  ·rw[if_pos h];omega
  ·rw[if_neg h];show _=_+0;omega
 |j+1=>by
  show sm (x::a) b n (j+1)+tm (x::a) b n (j+1)=_;rw[yz x a b n j];by_cases h:n=0
  ·rw[if_pos h,if_pos h];unfold tm;rw[if_neg (by omega)];omega
  ·rw[if_neg h,if_neg h];show _=_+(sm a b (n-1) j+tm a b (n-1) j)
   have e:tm (x::a) b n (j+1)=tm a b (n-1) j:=by
    unfold tm;rw[pV];by_cases h2:j+1<=n
    ·rw[if_pos h2,if_pos (by omega)]
     congr 2;omega
    ·rw[if_neg h2,if_neg (by omega)]
   rw[e];omega
theorem d5(x:Int)(a b:List Int)(n:Nat):aA (x::a) b n=x*cf b n+up (aA a b) n:=yz x a b n a.length
theorem dO(b:List Int)(n:Nat):aA [] b n=0:=rfl
theorem vK(x:Int)(a:List Int)(n:Nat):cf (x::a) n=(if n=0 then x else 0)+up (cf a) n:=by
 cases n with
 |zero=>show x=x+0;omega
 |succ n=>show cf a n=0+cf a n;omega
theorem ur(y:Int)(b:List Int):∀(a:List Int) (n:Nat),aA a (y::b) n=y*cf a n+up (aA a b) n
 | [],n=>by
  rw[dO,cH];unfold up;split
  ·simp
  ·rw[dO];simp
 |x::a,n=>by
  rw[d5,vK,vK];cases n with
  |zero =>show x*(y+0)+0=y*(x+0)+0;simp only[Qj];exact PQ _ _
  |succ n =>show x*(0+cf b n)+aA a (y::b) n=y*(0+cf a n)+aA (x::a) b n;rw[ur y b a n,d5];simp only[Qt];omega
theorem uo:∀(a:List Int) (n:Nat),aA a [] n=0
 | [],n=>rfl
 |x::a,n=>by
  rw[d5,cH];unfold up;split
  ·simp
  ·rw[uo a];simp
theorem gH:∀(a b:List Int) (n:Nat),aA a b n=aA b a n
 | [],b,n=>by rw[uo];rfl
 |x::a,b,n=>by
  rw[d5,ur]
  congr 1
  unfold up;split
  ·rfl
  ·exact gH a b _
theorem zQ{a b c q:List Int}{x y:Int}{n:Nat}(h:∀k,cf c k=x*cf a k+y*cf b k):aA q c n=x*aA q a n+y*aA q b n:=by rw[gH q c,fE h,gH q a,gH q b]
theorem pX(a:List Int)(n:Nat):cf (0::a) n=up (cf a) n:=by rw[vK];split<;>omega
theorem zP(a b:List Int)(n:Nat):aA (0::a) b n=up (aA a b) n:=by rw[d5];omega
theorem ko:∀(a b c:List Int) (n:Nat),aA (ad a b) c n=aA a (ad b c) n
 | [],b,c,n=>by rw[dO,um λk=>by rw[aN,dO]]
 |x::a,b,c,n=>by
  rw[d5,aN]
  have e:∀k,cf (ad (x::a) b) k=x*cf b k+1*cf (0::ad a b) k:=λk=>by
   rw[aN,d5,pX,P7]
   congr 1
   unfold up;split
   ·rfl
   ·rw[aN]
  rw[fE e,zP,P7]
  congr 1
  unfold up;split
  ·rfl
  ·exact ko a b c _
def Dv(d p:List Int):Prop:=∃(c:Int) (q:List Int),c≠0/\∀n,c*cf p n=aA q d n
theorem Dv.refl(d:List Int):Dv d d:=⟨1,[1],by decide,λn=>by rw[fC]⟩
theorem Dv.nil(d:List Int):Dv d []:=⟨1,[],by decide,λn=>by rw[cH,dO];rfl⟩
theorem Dv.trans{d e p:List Int}(h1:Dv d e)(h2:Dv e p):Dv d p:=by obtain⟨c1,q1,hc1,e1⟩:=h1;obtain⟨c2,q2,hc2,e2⟩:=h2;refine⟨c1*c2,ad q2 q1,PP hc1 hc2,λn=>?_⟩;rw[ko,PR,e2,<- ml (b':=ad q1 d) (λk=>by rw[aN,e1])]
theorem Dv.up{d a b r q:List Int}{f:Int}(hf:f≠0)(h:∀n,f*cf a n=aA q b n+cf r n)(hb:Dv d b)(hr:Dv d r):Dv d a:=by obtain⟨c1,q1,hc1,e1⟩:=hb;obtain⟨c2,q2,hc2,e2⟩:=hr;refine⟨c1*c2*f,d8 c1 (scL c2 (ad q q1)) q2,PP (PP hc1 hc2) hf,λn=>?_⟩;rw[fE (a:=ad q q1) (b:=q2) (x:=c2) (y:=c1) (λk=>by rw[iD,bI]),ko,<- e2,ml (b:=b) (b':=ad q1 d) (c:=c1) (λk=>by rw[aN,e1])];have:=h n;grind
theorem Dv.down{d a b r q:List Int}{f:Int}(h:∀n,f*cf a n=aA q b n+cf r n)(ha:Dv d a)(hb:Dv d b):Dv d r:=by obtain⟨c1,q1,hc1,e1⟩:=ha;obtain⟨c2,q2,hc2,e2⟩:=hb;refine⟨c1*c2,d8 (-c1) (scL (f*c2) q1) (ad q q2),PP hc1 hc2,λn=>?_⟩;rw[fE (a:=q1) (b:=ad q q2) (x:=f*c2) (y := -c1) (λk=>by rw[iD,bI]),ko,<- e1,ml (b:=b) (b':=ad q2 d) (c:=c2) (λk=>by rw[aN,e2])];have:=h n;grind
theorem Dv.prop_right{d p p':List Int}{x y:Int}(hx:x≠0)(h:∀n,x*cf p' n=y*cf p n)(hd:Dv d p):Dv d p':=by obtain⟨c,q,hc,e⟩:=hd;refine⟨c*x,scL y q,PP hc hx,λn=>?_⟩;rw[fE (a:=q) (b:=[]) (x:=y) (y:=0) (λk=>by rw[bI];simp),<- e];have:=h n;grind
theorem Dv.prop_left{d d' p:List Int}{x y:Int}(hx:x≠0)(hy:y≠0)(h:∀n,x*cf d' n=y*cf d n)(hd:Dv d p):Dv d' p :=
 Dv.trans (Dv.prop_right hy (λn=>(h n).symm) (Dv.refl d')) hd
theorem ij{l:List Int}(h:Tr l):∃g:Int,g≠0/\∀n,cf l n=g*cf (aB l) n:=by
 by_cases hl:l=[]
 ·subst hl;exact⟨1,by decide,λn=>by rw[cH];show 0=1*cf [] n;rw[cH];rfl⟩
 have hg:(av l:Int)≠0:=by obtain⟨r,x,rfl⟩:=(cY l).resolve_left hl;have hx:x≠0:=tr_snoc.mp h;have h1:0<av (r++[x]):=Nat.pos_of_dvd_of_pos (pF (by simp:x∈r++[x])) (Q3.mpr hx);omega
 have e1:∀n,cf l n=(av l:Int)*cf (ap l) n:=λn=>by
  unfold ap;by_cases hn:n<l.length
  ·rw[eJ hn,eJ (by rw[Pk];exact hn),List.getElem_map];exact(Int.mul_ediv_cancel' (jk (Q1 hn))).symm
  ·rw[cF (by omega),cF (by rw[Pk];omega),PN]
 unfold aB cI;split
 ·refine⟨-(av l:Int),by omega,λn=>?_⟩
  have e2:cf ((ap l).map λx => -x) n = -cf (ap l) n:=by
   by_cases hn:n<(ap l).length
   ·rw[eJ hn,eJ (by rw[Pk];exact hn),List.getElem_map]
   ·rw[cF (l:=ap l) (by omega),cF (l:=(ap l).map λx => -x) (by rw[Pk];omega)];rfl
  rw[e1,e2];grind
 ·exact⟨_,hg,e1⟩
theorem Dv.plain{d p:List Int}(hp:Tr p):Dv d (aB p)↔Dv d p:=by obtain⟨g,hg,e⟩:=ij hp;exact⟨λh=>Dv.prop_right (x:=1) (y:=g) (by decide) (λn=>by rw[e];omega) h,λh=>Dv.prop_right (x:=g) (y:=1) hg (λn=>by rw[<- e];omega) h⟩
theorem plain_len(l:List Int):(aB l).length=l.length:=by unfold aB cI ap;split<;>simp
theorem ia{l:List Int}(h:Tr l):Tr (aB l):=CZ (fL h)
noncomputable def cM:Nat->List Int->List Int->List Int
 |0,one,_=>one
 |n+1,one,other=>if other=[]then one else cM n other (aB (aQ one other))
theorem BJ(n:Nat)(one:List Int):cM n one []=one:=by cases n<;>rfl
theorem Lk{n:Nat}{one other:List Int}(h:other≠[]):cM (n+1) one other=cM n other (aB (aQ one other)):=by show(if other=[]then one else cM n other (aB (aQ one other)))=_;rw[if_neg h]
theorem BI:∀(n:Nat) (one other:List Int),other.length<=n->Tr one->Tr other->Tr (cM n one other)/\Dv (cM n one other) one/\Dv (cM n one other) other/\(∀d,Dv d one->Dv d other->Dv d (cM n one other))/\(one≠[]\/other≠[]->cM n one other≠[])/\(cM n one other=one\/cM n one other=other\/∃l,Tr l/\cM n one other=aB l)
 |n,one,[],_,t1,_=>by rw[BJ];exact⟨t1,Dv.refl _,Dv.nil _,λd h _=>h,λh=>h.resolve_right λz=>z rfl,.inl rfl⟩
 |0,one,x::o,h,_,_=>absurd h (Nat.not_succ_le_zero _)
 |n+1,one,x::o,h,t1,t2=>by
  have hne:x::o≠[]:=λz=>nomatch z
  rw[Lk hne];generalize x::o=other at h t2 hne
  have tr:=eI one other;have hl:=gv (a:=one) hne;obtain⟨c1,c2,c3,c4,c5,c6⟩:=BI n other (aB (aQ one other)) (by rw[plain_len];omega) t2 (ia tr);have eq:=λk=>iz (a:=one) hne k
  refine⟨c1,Dv.up (mU (a:=one) hne t2) eq c2 ((Dv.plain tr).mp c3),c2,λd h1 h2=>c4 d h2 ((Dv.plain tr).mpr (Dv.down eq h1 h2)),λ_=>c5 (.inl hne),?_⟩;rcases c6 with e |e |e
  ·exact .inr (.inl e)
  ·exact .inr (.inr ⟨_,tr,e⟩)
  ·exact .inr (.inr e)
def Cop(a:List Int)(m:Nat):Prop:=∀k:Nat,k∣m->(∀n,(k:Int)∣cf a n)->k=1
theorem uY:∀(N:Nat) (a b:List Int) (m:Nat),a.length+b.length<=N->Cop a m->Cop b m->(∀n,(m:Int)∣aA a b n)->m=1
 |_,[],b,m,_,h1,_,_=>h1 m (Nat.dvd_refl _) λn=>by rw[cH];exact Int.dvd_zero _
 |_,_::_,[],m,_,_,h2,_=>h2 m (Nat.dvd_refl _) λn=>by rw[cH];exact Int.dvd_zero _
 |0,_::_,_::_,_,h,_,_,_=>absurd h (by simp)
 |N+1,x::a,y::b,m,h,h1,h2,h3=>by
  have d1:Nat.gcd m x.natAbs=1:=by
   refine uY N a (y::b) _ (by simp at h ⊢;omega) (λk hk hn=>h1 k (Rq hk (QS _ _)) λn=>?_) (λk hk=>h2 k (Rq hk (QS _ _))) λn=>?_
   ·cases n with
    |zero=>exact Re.mpr (Rq hk (Rc _ _))
    |succ n=>exact hn n
   ·have e:=d5 x a (y::b) (n+1);have g1:((Nat.gcd m x.natAbs:Nat):Int)∣aA (x::a) (y::b) (n+1):=Int.dvd_trans (Int.ofNat_dvd.mpr (QS _ _)) (h3 _);have g2:((Nat.gcd m x.natAbs:Nat):Int)∣x*cf (y::b) (n+1):=Int.dvd_mul_of_dvd_left (Re.mpr (Rc _ _))
    have e2:aA a (y::b) n=aA (x::a) (y::b) (n+1)-x*cf (y::b) (n+1):=by rw[e];show _=_+aA a (y::b) n-_;omega
    rw[e2];exact Int.dvd_sub g1 g2
  have d2:Nat.gcd m y.natAbs=1:=by
   refine uY N (x::a) b _ (by simp at h ⊢;omega) (λk hk=>h1 k (Rq hk (QS _ _))) (λk hk hn=>h2 k (Rq hk (QS _ _)) λn=>?_) λn=>?_
   ·cases n with
    |zero=>exact Re.mpr (Rq hk (Rc _ _))
    |succ n=>exact hn n
   ·have e:=ur y b (x::a) (n+1);have g1:((Nat.gcd m y.natAbs:Nat):Int)∣aA (x::a) (y::b) (n+1):=Int.dvd_trans (Int.ofNat_dvd.mpr (QS _ _)) (h3 _);have g2:((Nat.gcd m y.natAbs:Nat):Int)∣y*cf (x::a) (n+1):=Int.dvd_mul_of_dvd_left (Re.mpr (Rc _ _))
    have e2:aA (x::a) b n=aA (x::a) (y::b) (n+1)-y*cf (x::a) (n+1):=by rw[e];show _=_+aA (x::a) b n-_;omega
    rw[e2];exact Int.dvd_sub g1 g2
  have h0:=h3 0;rw[d5]at h0
  have h0':m∣x.natAbs*y.natAbs:=by
   rw[<- PL];refine Re.mp ?_
   have e:x*cf (y::b) 0+up (aA a (y::b)) 0=x*y:=by show x*y+0=x*y;omega
   rwa [e]at h0
  have h4:m∣y.natAbs:=Nat.Coprime.dvd_of_dvd_mul_left d1 h0';rw[Nat.gcd_eq_left h4]at d2;exact d2
theorem HM{l:List Int}{v:Int}(h:v∈l):∃n,n<l.length/\cf l n=v:=by obtain⟨n,hn,e⟩:=List.getElem_of_mem h;exact⟨n,hn,by rw[eJ hn,e]⟩
theorem BG{a:List Int}{m:Nat}(h:av a=1):Cop a m:=λk _ hn=>by
 have:k∣av a:=dvd_gcdL.mpr λv hv=>by obtain⟨n,_,rfl⟩:=HM hv;exact Re.mp (hn n)
 rw[h]at this;exact Nat.dvd_one.mp this
theorem Fz{a b:List Int}(ha:av a=1)(hb:av b=1):av (ad a b)=1:=by
 refine uY _ a b _ (Pn _) (BG ha) (BG hb) λn=>?_
 rw[<- aN];by_cases hn:n<(ad a b).length
 ·rw[eJ hn];exact jk (Q1 hn)
 ·rw[cF (by omega)];exact Int.dvd_zero _
structure Pln(l:List Int):Prop where
 tr:Tr l
 ne:l≠[]
 prim:av l=1
 pos:0<aq l
theorem gO{l:List Int}(h:Tr l)(hne:l≠[]):aq l≠0:=by have:=Pq.mpr hne;exact h (l.length-1) (by omega)
theorem Pln.plain{l:List Int}(h:Pln l):aB l=l:=by unfold aB;rw[ot (.inr h.prim)];unfold cI;rw[if_neg (by have:=h.pos;omega)]
theorem shr_scale{l:List Int}:scL (av l:Int) (ap l)=l:=by unfold scL ap;rw[QE];refine(Rp (g:=id) λx hx=>?_).trans (List.map_id _);exact Int.mul_ediv_cancel' (jk hx)
theorem fQ{l:List Int}(h:Tr l)(hne:l≠[]):Pln (aB l):=by
 have hg:0<av l:=by obtain⟨r,x,rfl⟩:=(cY l).resolve_left hne;have hx:x≠0:=tr_snoc.mp h;exact Nat.pos_of_dvd_of_pos (pF (by simp:x∈r++[x])) (Q3.mpr hx)
 have h1:av (ap l)=1:=by have e:=pE (av l:Int) (ap l);rw[shr_scale,P9]at e;exact Nat.eq_of_mul_eq_mul_left hg (by rw[<- e,Nat.mul_one])
 have hs:ap l≠[]:=λz=>hne (by have:=congrArg List.length z;unfold ap at this;simpa using this)
 have hl:=gO (fL h) hs
 have hp:av (aB l)=1:=by
  rcases Fx (.inr h1:kU (ap l))with z |z
  ·exact absurd (congrArg List.length z) (by
    have:=plain_len l;unfold aB at this
    rw[this]
    exactλq=>hne (Qz.mp q))
  ·exact z
 refine⟨ia h,λz=>hne (Qz.mp (by rw[<- plain_len,z];rfl)),hp,?_⟩;unfold aB cI;split
 ·rw[Au];omega
 ·omega
theorem bM{a b:List Int}(ha:a≠[])(hb:b≠[]):(ad a b).length=a.length+b.length-1:=by unfold ad;rw[if_neg (λz=>z.elim ha hb),Pk,QN]
theorem uL{a b:List Int}(ha:a≠[])(hb:b≠[]):aq (ad a b)=aq a*aq b:=by
 have h1:=Pq.mpr ha;have h2:=Pq.mpr hb;unfold aq;rw[bM ha hb,aN];have e:a.length+b.length-1-1=(a.length-1)+(b.length-1):=by omega
 rw[e,mj (by omega) (by omega)]
theorem Pln.mul{a b:List Int}(ha:Pln a)(hb:Pln b):Pln (ad a b):=by
 refine⟨jS ha.tr hb.tr,λz=>?_,Fz ha.prim hb.prim,by rw[uL ha.ne hb.ne];exact Pl ha.pos hb.pos⟩;have h1:=Pq.mpr ha.ne;have h2:=Pq.mpr hb.ne;have:=bM ha.ne hb.ne;rw[z]at this;simp at this
 omega
theorem zj{p q d:List Int}{c:Int}(hc:c≠0)(hp:Tr p)(hpn:p≠[])(hq:Tr q)(hd:Pln d)(h:∀n,c*cf p n=aA q d n):ad (aB q) d=aB p:=by
 have hqn:q≠[]:=λz=>by have h1:=Pq.mpr hpn;have h2:=h (p.length-1);rw[z,dO]at h2;exact PP hc (hp (p.length-1) (by omega)) h2
 obtain⟨g,hg,e⟩:=ij hq;have hm:=(fQ hq hqn).mul hd;rw[<- hm.plain];refine FE hg hc hm.tr hp λk=>?_
 rw[h,aN,fE (a:=aB q) (b:=[]) (x:=g) (y:=0) (c:=q) (λk=>by rw[e];simp),dO];simp
theorem Dv.trim{d p:List Int}(h:Dv d p):∃(c:Int) (q:List Int),c≠0/\Tr q/\∀n,c*cf p n=aA q d n:=by obtain⟨c,q,hc,e⟩:=h;exact⟨c,RM.trim q,hc,fK q,λn=>by rw[e];exact(oS (λk=>gT q k) λ_=>rfl).symm⟩
theorem Dv.fellow{d p:List Int}(hd:Pln d)(hp:Tr p)(hpn:p≠[])(h:Dv d p):∃q,Pln q/\ad q d=aB p:=by
 obtain⟨c,q,hc,hq,e⟩:=h.trim
 have hqn:q≠[]:=λz=>by have h1:=Pq.mpr hpn;have h2:=e (p.length-1);rw[z,dO]at h2;exact PP hc (hp (p.length-1) (by omega)) h2
 exact⟨aB q,fQ hq hqn,zj hc hp hpn hq hd e⟩
theorem Pln.const{l:List Int}(h:Pln l)(h1:l.length=1):l=[1]:=by
 obtain⟨x,rfl⟩:∃x,l=[x]:=RS.mp h1;have h2:=h.prim;rw[J1]at h2;have h3:0<x:=h.pos;have:x=1:=by omega
 rw[this]
theorem one_mul(l:List Int)(h:Tr l):ad [1] l=l:=by
 refine mT (jS (tr_snoc (r:=[]).mpr (by decide)) h) h λk=>?_
 rw[aN,fC];omega
theorem tV{a b:List Int}(ha:Pln a)(hb:Pln b)(h1:Dv a b)(h2:Dv b a):a=b:=by obtain⟨q,hq,e⟩:=h1.fellow ha hb.tr hb.ne;obtain⟨r,hr,e'⟩:=h2.fellow hb ha.tr ha.ne;rw[hb.plain]at e;rw[ha.plain]at e';have l1:=bM hq.ne ha.ne;have l2:=bM hr.ne hb.ne;rw[e]at l1;rw[e']at l2;have p1:=Pq.mpr hq.ne;have p2:=Pq.mpr hr.ne;have p3:=Pq.mpr ha.ne;have hq1:=hq.const (by omega);rw[hq1,one_mul a ha.tr]at e;exact e
theorem Dv.short{d r:List Int}(hd:d≠[])(hdt:Tr d)(hr:Tr r)(hl:r.length<d.length)(h:Dv d r):r=[]:=by
 obtain⟨c,q,hc,e⟩:=h;have z:=zO hd hdt (d:=q) λn hn=>by rw[<- e,cF (by omega),PN]
 refine ul hr λk=>?_
 have h1:=e k;rw[um z]at h1;exact(Qk.mp h1).resolve_left hc
theorem Dv.rest{d p:List Int}(hd:d≠[])(hdt:Tr d)(h:Dv d p):aQ p d=[] :=
 Dv.short hd hdt (eI _ _) (gv hd) (Dv.down (λn=>iz (a:=p) hd n) h (Dv.refl d))
theorem Dv.mul_right(a b:List Int):Dv b (ad a b):=⟨1,a,by decide,λn=>by rw[aN];omega⟩
theorem Dv.mul_left(a b:List Int):Dv a (ad a b):=⟨1,b,by decide,λn=>by rw[aN,gH];omega⟩
theorem Mi{l1 l2 r1 r2 pl pc a1 a2 c1 c2 x1 x2:Int}(ha:0<a2)(hc:0<c2)(e1:a1*pc=pl*a2)(e2:c1*(r2*a2)=r1*a1*c2)(e3:x1*(l2*c2)=(l1*c2+c1*l2)*x2) :
 x1*(l2*r2*pc)=(l1*r2*pc+r1*l2*pl)*x2:=by
 have h0:c2*a2≠0:=Qd (Pl hc ha);refine RE h0 ?_
 calc x1*(l2*r2*pc)*(c2*a2)=x1*(l2*c2)*(r2*pc*a2):=by grind
  _=(l1*c2+c1*l2)*x2*(r2*pc*a2):=by rw[e3]
  _=x2*(l1*c2*r2*pc*a2+l2*pc*(c1*(r2*a2))):=by grind
  _=x2*(l1*c2*r2*pc*a2+l2*pc*(r1*a1*c2)):=by rw[e2]
  _=x2*c2*(l1*r2*pc*a2+l2*r1*(a1*pc)):=by grind
  _=x2*c2*(l1*r2*pc*a2+l2*r1*(pl*a2)):=by rw[e1]
  _=(l1*r2*pc+r1*l2*pl)*x2*(c2*a2):=by grind
theorem LD{l r:Int}(hl:0<l)(hr:0<r){g:Nat}(hg:g=Nat.gcd l.natAbs r.natAbs):∃l' r':Int,0<l'/\0<r'/\(0:Int)<g/\l=g*l'/\r=g*r'/\l*r/g=l*r'/\l*r'/l=r'/\l*r'/r=l'/\0<l*r':=by
 have g0:0<g:=by rw[hg];exact Nat.gcd_pos_of_pos_left _ (by omega)
 have gi:(0:Int)<g:=by omega
 obtain⟨l',hl'⟩:(g:Int)∣l:=Rz.mp (by rw[P9,hg];exact QS _ _);obtain⟨r',hr'⟩:(g:Int)∣r:=Rz.mp (by rw[P9,hg];exact Rc _ _);have l0:0<l':=RY (a:=(g:Int)) (by rw[PN,<- hl'];exact hl) (Pt gi);have r0:0<r':=RY (a:=(g:Int)) (by rw[PN,<- hr'];exact hr) (Pt gi);refine⟨l',r',l0,r0,gi,hl',hr',?_,?_,?_,Pl hl r0⟩
 ·have e:l*r=(l*r')*g:=by
   calc l*r=l*(g*r'):=by rw[<- hr']
    _=(l*r')*g:=by grind
  rw[e];exact Int.mul_ediv_cancel _ (Qd gi)
 ·exact Int.mul_ediv_cancel_left _ (Qd hl)
 ·have e:l*r'=l'*r:=by
   calc l*r'=(g*l')*r':=by rw[<- hl']
    _=l'*(g*r'):=by grind
    _=l'*r:=by rw[<- hr']
  rw[e];exact Int.mul_ediv_cancel _ (Qd hr)
noncomputable def cJ:List Int->List Int
 | []=>[]
 |v::l=>2^l.length*v::cJ l
theorem n8:∀l,(cJ l).length=l.length
 | []=>rfl
 |v::l=>by show(cJ l).length+1=_;rw[n8 l];rfl
theorem AO(p q:Int):∀l,2*hv p q (cJ l)=hv p (2*q) l
 | []=>by show 2*0=(0:Int);rfl
 |v::l=>by have ih:=AO p q l;show 2*(2^l.length*v*q^((cJ l).length+1)+p*hv p q (cJ l))=v*(2*q)^(l.length+1)+p*hv p (2*q) l;rw[n8,<- ih,Int.mul_pow,P8 2];grind
noncomputable def suf:List Int->List Int
 | []=>[]
 |v::l=>(v+(suf l).headD 0)::suf l
theorem jT:∀l,(suf l).length=l.length
 | []=>rfl
 |v::l=>by show(suf l).length+1=_;rw[jT l];rfl
theorem xv(p q:Int):∀l,hv (p+q) q l=(suf l).headD 0*q^l.length+p*hv (p+q) q ((suf l).tail)
 | []=>by show(0:Int)=0*q^0+p*0;omega
 |v::l=>by
  have ih:=xv p q l;show v*q^(l.length+1)+(p+q)*hv (p+q) q l=(v+(suf l).headD 0)*q^(l.length+1)+p*hv (p+q) q (suf l);cases hs:suf l with
  |nil =>
   have hl:l=[]:=by have:=jT l;rw[hs]at this;exact Q4 this.symm
   subst hl;show v*q^1+(p+q)*0=(v+0)*q^1+p*0;grind
  |cons g r =>
   rw[hs]at ih;have hl:r.length+1=l.length:=by have:=jT l;rw[hs]at this;exact this
   have ih':hv (p+q) q l=g*q^l.length+p*hv (p+q) q r:=ih;show v*q^(l.length+1)+(p+q)*hv (p+q) q l=(v+g)*q^(l.length+1)+p*(g*q^(r.length+1)+(p+q)*hv (p+q) q r);rw[ih',hl,P8];grind
noncomputable def dZ:Nat->List Int->List Int
 |0,m=>suf m
 |_+1,[]=>[]
 |i+1,c::m=>c::dZ i m
theorem ub:∀(i:Nat) (m:List Int),(dZ i m).length=m.length
 |0,m=>jT m
 |_+1,[]=>rfl
 |i+1,c::m=>by show(dZ i m).length+1=_;rw[ub i m];rfl
noncomputable def gn(p q:Int):Nat->List Int->Int
 |0,m=>hv (p+q) q m
 |_+1,[]=>0
 |i+1,c::m=>c*q^(m.length+1)+p*gn p q i m
theorem Aa(p q:Int):∀(i:Nat) (m:List Int),gn p q (i+1) (dZ i m)=gn p q i m
 |0,m=>by
  show gn p q 1 (suf m)=hv (p+q) q m;rw[xv];cases hs:suf m with
  |nil =>show(0:Int)=0*q^m.length+p*hv (p+q) q [];rw[pA];omega
  |cons g r =>
   have hl:r.length+1=m.length:=by have:=jT m;rw[hs]at this;exact this
   show g*q^(r.length+1)+p*hv (p+q) q r=g*q^m.length+p*hv (p+q) q r;rw[hl]
 |i+1,[]=>rfl
 |i+1,c::m=>by show c*q^((dZ i m).length+1)+p*gn p q (i+1) (dZ i m)=c*q^(m.length+1)+p*gn p q i m;rw[Aa p q i m,ub]
theorem Ac(p q:Int):∀(i:Nat) (m:List Int),m.length<=i+1->gn p q i m=hv p q m
 |0,[],_=>rfl
 |0,[c],_=>by show c*q^1+(p+q)*0=c*q^1+p*0;omega
 |0,_::_::_,h=>absurd h (by simp)
 |_+1,[],_=>rfl
 |i+1,c::m,h=>by show c*q^(m.length+1)+p*gn p q i m=c*q^(m.length+1)+p*hv p q m;rw[Ac p q i m (by simpa using h)]
noncomputable def fT:Nat->List Int->List Int
 |0,l=>l
 |i+1,l=>dZ i (fT i l)
theorem oT:∀(i:Nat) (l:List Int),(fT i l).length=l.length
 |0,_=>rfl
 |i+1,l=>by show(dZ i (fT i l)).length=_;rw[ub,oT i l]
theorem Ab(p q:Int):∀(i:Nat) (l:List Int),gn p q i (fT i l)=hv (p+q) q l
 |0,_=>rfl
 |i+1,l=>by show gn p q (i+1) (dZ i (fT i l))=_;rw[Aa,Ab p q i l]
noncomputable def mv(l:List Int):List Int:=fT (l.length-1) l
theorem zX(l:List Int):(mv l).length=l.length:=oT _ _
theorem JM(p q:Int)(l:List Int):hv p q (mv l)=hv (p+q) q l:=by rw[<- Ab p q (l.length-1) l];exact(Ac p q (l.length-1) _ (by rw[zX];omega)).symm
theorem AM:∀l:List Int,hv 1 1 l=l.sum
 | []=>rfl
 |v::l=>by show v*1^(l.length+1)+1*hv 1 1 l=v+l.sum;rw[AM l,Int.one_pow];omega
noncomputable def cu(m s0 s1:Int):List Int->List Int
 | []=>[]
 |v::l=>mb (-s0) s1 (v*m^l.length) (cu m s0 s1 l)
theorem jU(m s0 s1:Int):∀l,(cu m s0 s1 l).length=l.length
 | []=>rfl
 |v::l=>by show(mb _ _ _ _).length=_;rw[oV,jU m s0 s1 l];rfl
theorem AN(m s0 s1 p q:Int):∀l,m*hv p q (cu m s0 s1 l)=hv (s0*q+s1*p) (m*q) l
 | []=>by show m*0=(0:Int);omega
 |v::l=>by have ih:=AN m s0 s1 p q l;show m*hv p q (mb (-s0) s1 (v*m^l.length) (cu m s0 s1 l))=v*(m*q)^(l.length+1)+(s0*q+s1*p)*hv (s0*q+s1*p) (m*q) l;rw[AR,jU,<- ih,Int.mul_pow,P8 m];grind
theorem xw(m s0 s1:Int):∀l,cf (cu m s0 s1 l) (l.length-1)=cf l (l.length-1)*s1^(l.length-1)
 | []=>by show(0:Int)=0*_;omega
 | [v]=>by show cf (mb (-s0) s1 (v*m^0) []) 0=v*s1^0;rw[jv,if_pos rfl,cH,QA,QA];omega
 |v::u::l=>by have ih:=xw m s0 s1 (u::l);show cf (mb (-s0) s1 _ (cu m s0 s1 (u::l))) (l.length+1)=cf (u::l) l.length*s1^(l.length+1);rw[jv,if_neg (by omega)];have e1:cf (cu m s0 s1 (u::l)) (l.length+1)=0:=cF (by rw[jU];exact Pn _);have e2:cf (cu m s0 s1 (u::l)) (l.length+1-1)=cf (u::l) l.length*s1^l.length:=ih;rw[e1,e2,P8];grind
theorem fc{x p:Int}(hp:0<p):sg (p*x)=sg x:=by rw[PQ];exact rc hp
noncomputable def sgq(u v d:Int):Int :=
 if 0<=u/\0<=v then(if 0<u\/0<v then 1 else 0)
 else if u<=0/\v<=0 then -1
 else if 0<u then(if u*u<d*v*v then -1 else 1)
 else(if u*u>d*v*v then -1 else 1)
def NSq(d:Int):Prop:=0<d/\∀a b:Int,b≠0->a*a≠d*b*b
theorem Hx(n d:Nat)(h1:n*n<d)(h2:d<(n+1)*(n+1)):∀b a:Nat,0<b->a*a≠d*(b*b):=by
 intro b
 induction b using Nat.strongRecOn with
 |ind b ih =>
  intro a hb e
  have l1:n*b<a:=by
   refine Classical.byContradiction λz=>?_
   have z':a<=n*b:=by omega
   have h3:=QF z' z';have h4:n*n*(b*b)<d*(b*b):=Nat.mul_lt_mul_of_pos_right h1 (Nat.mul_pos hb hb);have e2:n*b*(n*b)=n*n*(b*b):=by grind
   omega
  have l2:a<(n+1)*b:=by
   refine Classical.byContradiction λz=>?_
   have z':(n+1)*b<=a:=by omega
   have h3:=QF z' z';have h4:d*(b*b)<(n+1)*(n+1)*(b*b):=Nat.mul_lt_mul_of_pos_right h2 (Nat.mul_pos hb hb);have e2:(n+1)*b*((n+1)*b)=(n+1)*(n+1)*(b*b):=by grind
   omega
  have e3:(n+1)*b=n*b+b:=by grind
  obtain⟨c,hc⟩:∃c,a=n*b+c:=⟨a-n*b,by omega⟩;have hc0:0<c:=by omega
  have hcb:c<b:=by omega
  have l3:n*a<=d*b:=by
   have h5:n*a*a<=d*b*a:=by
    have h6:n*(a*a)=n*(d*(b*b)):=by rw[e]
    have h7:n*b*(d*b)<=a*(d*b):=Qg _ (Q9 l1);have e4:n*a*a=n*(a*a):=by grind
    have e5:n*(d*(b*b))=n*b*(d*b):=by grind
    have e6:d*b*a=a*(d*b):=by grind
    omega
   exact RZ h5 (by omega)
  obtain⟨f,hf⟩:∃f,d*b=n*a+f:=⟨d*b-n*a,by omega⟩;refine ih c hcb f hc0 ?_
  have e7:(f:Int)=(d:Int)*b-n*a:=by have:=congrArg (λz:Nat=>(z:Int)) hf;simp only[Int.natCast_add,Qu]at this;omega
  have e8:(c:Int)=(a:Int)-n*b:=by have:=congrArg (λz:Nat=>(z:Int)) hc;simp only[Int.natCast_add,Qu]at this;omega
  have e9:(a:Int)*a=d*(b*b):=by have:=congrArg (λz:Nat=>(z:Int)) e;simp only[Qu]at this;exact this
  have e10:(f:Int)*f=d*(c*c):=by
   rw[e7,e8];have:((d:Int)*b-n*a)*(d*b-n*a)-d*((a-n*b)*(a-n*b))=(d*(b*b)-a*a)*(d-n*n):=by grind
   rw[e9,Int.sub_self,PX]at this;omega
  have e11:((f*f:Nat):Int)=((d*(c*c):Nat):Int):=by simp only[Qu];exact e10
  exact Int.ofNat.inj e11
theorem io{n d:Nat}(h1:n*n<d)(h2:d<(n+1)*(n+1)):NSq d:=by
 refine⟨by omega,λa b hb e=>?_⟩;refine Hx n d h1 h2 b.natAbs a.natAbs (by omega) ?_;have e1:((a.natAbs*a.natAbs:Nat):Int)=a*a:=Int.natAbs_mul_self;have e2:((b.natAbs*b.natAbs:Nat):Int)=b*b:=Int.natAbs_mul_self
 have:((a.natAbs*a.natAbs:Nat):Int)=((d*(b.natAbs*b.natAbs):Nat):Int):=by rw[Qu (d) _,e1,e2,e,PR]
 exact Int.ofNat.inj this
theorem fb(u v d:Int):sgq u v d=1\/sgq u v d=0\/sgq u v d = -1:=by
 unfold sgq;split
 ·split
  ·exact .inl rfl
  ·exact .inr (.inl rfl)
 ·split
  ·exact .inr (.inr rfl)
  ·split<;>split<;>simp
theorem f9{u v d:Int}(hu:0<=u)(hv:0<=v)(h:0<u\/0<v):sgq u v d=1:=by unfold sgq;rw[if_pos ⟨hu,hv⟩,if_pos h]
theorem ga{u v d:Int}(hu:u<=0)(hv:v<=0)(h:u<0\/v<0):sgq u v d = -1:=by unfold sgq;rw[if_neg (by omega),if_pos ⟨hu,hv⟩]
theorem lC{u v d:Int}(hu:0<u)(hv:v<0):sgq u v d=if u*u<d*v*v then -1 else 1:=by unfold sgq;rw[if_neg (by omega),if_neg (by omega),if_pos hu]
theorem lE{u v d:Int}(hu:u<0)(hv:0<v):sgq u v d=if u*u>d*v*v then -1 else 1:=by unfold sgq;rw[if_neg (by omega),if_neg (by omega),if_neg (by omega)]
theorem iO(d:Int):sgq 0 0 d=0:=rfl
theorem IP(u v:Int):(u=0/\v=0)\/(0<=u/\0<=v/\(0<u\/0<v))\/(u<=0/\v<=0/\(u<0\/v<0))\/(0<u/\v<0)\/(u<0/\0<v):=by omega
theorem c9{g u v d:Int}(hg:0<g):sgq (g*u) (g*v) d=sgq u v d:=by
 have hp:∀x:Int,0<x->0<g*x:=λx h=>Pl hg h
 have hn:∀x:Int,x<0->g*x<0:=λx h=>RF hg h
 have hz:∀x:Int,0<=x->0<=g*x:=λx h=>PY (Pt hg) h
 have hy:∀x:Int,x<=0->g*x<=0:=λx h=>Int.mul_nonpos_of_nonneg_of_nonpos (Pt hg) h
 have gg:0<g*g:=Pl hg hg;have e1:g*u*(g*u)=u*u*(g*g):=by grind
 have e2:d*(g*v)*(g*v)=d*v*v*(g*g):=by grind
 rcases IP u v with⟨rfl,rfl⟩ |⟨a,b,c⟩ |⟨a,b,c⟩ |⟨a,b⟩ |⟨a,b⟩
 ·rw[PN]
 ·rw[f9 a b c,f9 (hz _ a) (hz _ b) (c.elim (λz=>.inl (hp _ z)) (λz=>.inr (hp _ z)))]
 ·rw[ga a b c,ga (hy _ a) (hy _ b) (c.elim (λz=>.inl (hn _ z)) (λz=>.inr (hn _ z)))]
 ·rw[lC a b,lC (hp _ a) (hn _ b),e1,e2];by_cases z:u*u<d*v*v
  ·rw[if_pos z,if_pos (Ql z gg)]
  ·rw[if_neg z,if_neg (λy=>z (QT y (Pt gg)))]
 ·rw[lE a b,lE (hn _ a) (hp _ b),e1,e2];by_cases z:u*u>d*v*v
  ·rw[if_pos z,if_pos (Ql z gg)]
  ·rw[if_neg z,if_neg (λy=>z (QT y (Pt gg)))]
theorem HD{t h v:Int}{T X V:Nat}(ht:t.natAbs=T)(hh:X<=h.natAbs)(hv:v.natAbs<=V):T*X<=(v+t*h).natAbs+V:=by subst ht;have e1:t.natAbs*h.natAbs=(t*h).natAbs:=(PL t h).symm;have e2:t.natAbs*X<=t.natAbs*h.natAbs:=QP _ hh;have e3:=Rg (v+t*h) v;rw[Int.add_comm v,Int.add_sub_cancel,Int.add_comm _ v]at e3;rw[e1]at e2;exact PM e2 (PM e3 (Nat.add_le_add_left hv _))
theorem B5{B n:Nat}{t:Int}(hn:0<n)(hB:1<=B)(ht:B*n<=t.natAbs)(z:Int):∀os:List Int,(∀x∈os,x.natAbs<=(B-1)*z.natAbs)->z.natAbs*n^(os.length+1)<=(hv t n (os++[z])).natAbs
 | [],_=>by show z.natAbs*n^1<=(z*(n:Int)^1+t*0).natAbs;rw[PN,Qj,PL,RG,P9];exact Pn _
 |v::os,h=>by
  have ih:=B5 hn hB ht z os (λx hx=>h x (Pz _ hx));have hvv:=h v (PH ..);rw[List.cons_append,dR]
  have e1:(v*(n:Int)^((os++[z]).length+1)).natAbs<=(B-1)*z.natAbs*n^(os.length+2):=by
   rw[PL,RG,P9];have:(os++[z]).length+1=os.length+2:=by simp
   rw[this];exact Qg _ hvv
  have e2:=HD (t:=t) rfl ih e1;have e3:B*n*(z.natAbs*n^(os.length+1))<=t.natAbs*(z.natAbs*n^(os.length+1)):=Qg _ ht;have e4:(v::os).length+1=os.length+2:=by simp
  rw[e4];have e5:n^(os.length+2)=n*n^(os.length+1):=by rw[Q0,QK]
  rw[e5]at e2 ⊢;generalize n^(os.length+1)=p at *
  generalize (v*(n:Int)^((os++[z]).length+1)+t*hv t n (os++[z])).natAbs=W at *
  obtain⟨C,rfl⟩:∃C,B=C+1:=⟨B-1,by omega⟩
  have e6:(C+1)*n*(z.natAbs*p)=C*z.natAbs*(n*p)+z.natAbs*(n*p):=by grind
  have e7:C+1-1=C:=rfl;rw[e7]at e2;omega
theorem uW{t n x y:Int}:∀(a b c:List Int),a.length=c.length->b.length=c.length->(∀k,cf c k=x*cf a k+y*cf b k)->hv t n c=x*hv t n a+y*hv t n b
 | [],[],[],_,_,_=>by simp[pA]
 |u::a,v::b,w::c,ha,hb,h=>by
  have h0:w=x*u+y*v:=h 0;have ih:=uW (t:=t) (n:=n) (x:=x) (y:=y) a b c (by simpa using ha) (by simpa using hb) (λk=>h (k+1));have la:a.length=c.length:=by simpa using ha
  have lb:b.length=c.length:=by simpa using hb
  rw[dR,dR,dR,ih,h0,la,lb];generalize n^(c.length+1)=p;grind
 | [],_::_,[],_,h,_=>by simp at h
 |_::_,_,[],h,_,_=>by simp at h
 | [],_,_::_,h,_,_=>by simp at h
 |_::_,[],_::_,_,h,_=>by simp at h
theorem AQ(t n g:Int)(l:List Int):hv t n (scL g l)=g*hv t n l:=by have:=uW (t:=t) (n:=n) (x:=g) (y:=0) l l (scL g l) (by rw[cv]) (by rw[cv]) (λk=>by rw[bI];simp);rw[this];simp
theorem AL(t n:Int):∀(k:Nat) (l:List Int),hv t n (l++List.replicate k 0)=n^k*hv t n l
 |k,[]=>by
  rw[List.nil_append,pA,PN]
  induction k with
  |zero=>rfl
  |succ k ih=>rw[QY,dR,ih];simp
 |k,v::l=>by
  rw[List.cons_append,dR,AL t n k l,dR];have:(l++List.replicate k (0:Int)).length+1=l.length+1+k:=by simp;omega
  rw[this,Int.pow_add];generalize n^(l.length+1)=p;generalize n^k=q;grind
theorem Lu(l:List Int)(k j:Nat):cf (l++List.replicate k 0) j=cf l j:=by
 by_cases h:j<l.length
 ·rw[BY h]
 ·rw[m8 (by omega),mY,cF (by omega)]
theorem pB(t n:Int){b:List Int}(hb:b≠[]):∀{a:List Int},a≠[]->n*hv t n (ad a b)=hv t n a*hv t n b
 | [x],_=>by
  have e:ad [x] b=scL x b:=by
   apply eu
   ·rw[bM (by simp) hb,cv];simp
   ·intro k _;rw[aN,fC,bI]
  rw[e,AQ,mQ];grind
 |x::y::a,_=>by
  have ih:=pB t n hb (a:=y::a) (by simp);have lm:(ad (x::y::a) b).length=(y::a).length+b.length:=by rw[bM (by simp) hb,Qi];omega
  have lm2:(ad (y::a) b).length+1=(y::a).length+b.length:=by rw[bM (by simp) hb];have:=Pq.mpr hb;rw[Qi];omega
  have e:=uW (t:=t) (n:=n) (x:=x) (y:=1) (b++List.replicate (y::a).length 0) (0::ad (y::a) b) (ad (x::y::a) b) (by rw[lm,P6,RP];omega) (by rw[lm,Qi,lm2])
   (λk=>by rw[aN,d5,Lu,pX];rw[P7];congr 1;unfold up;split<;>first |rfl |rw[aN])
  rw[e,AL,dR (v:=0),dR (v:=x)];have:n*(x*(n^(y::a).length*hv t n b)+1*(0*n^((ad (y::a) b).length+1)+t*hv t n (ad (y::a) b)))=x*(n^(y::a).length*n)*hv t n b+t*(n*hv t n (ad (y::a) b)):=by grind
  rw[this,ih,<- P8];grind
noncomputable def pr(t n:Int):List (List Int)->Int
 | []=>1
 |s::ss=>hv t n s*pr t n ss
noncomputable def sl:List (List Int)->Nat
 | []=>0
 |s::ss=>s.length+sl ss
theorem kt{a b:List Int}(ha:a≠[])(hb:b≠[]):ad a b≠[]:=λz=>by have:=bM ha hb;rw[z]at this;have h1:=Pq.mpr ha;have h2:=Pq.mpr hb;rw[List.length_nil]at this;omega
noncomputable def aW(acc:List Int)(ss:List (List Int)):List Int:=ss.foldl ad acc
theorem kd:∀(ss:List (List Int)) (acc:List Int),acc≠[]->Tr acc->(∀s∈ss,s≠[]/\Tr s)->aW acc ss≠[]/\Tr (aW acc ss)/\(aW acc ss).length+ss.length=acc.length+sl ss
 | [],acc,h1,h2,_=>⟨h1,h2,by simp[aW,sl]⟩
 |s::ss,acc,h1,h2,h3=>by have hs:=h3 s (PH ..);obtain⟨a,b,c⟩:=kd ss (ad acc s) (kt h1 hs.1) (jS h2 hs.2) (λx hx=>h3 x (Pz _ hx));refine⟨a,b,?_⟩;have l:=bM h1 hs.1;have p1:=Pq.mpr h1;have p2:=Pq.mpr hs.1;show(aW (ad acc s) ss).length+(ss.length+1)=acc.length+(s.length+sl ss);omega
theorem px(t n:Int):∀(ss:List (List Int)) (acc:List Int),acc≠[]->(∀s∈ss,s≠[])->n^ss.length*hv t n (aW acc ss)=hv t n acc*pr t n ss
 | [],acc,_,_=>by show n^0*hv t n acc=hv t n acc*1;simp
 |s::ss,acc,h1,h3=>by have hs:=h3 s (PH ..);have ih:=px t n ss (ad acc s) (kt h1 hs) (λx hx=>h3 x (Pz _ hx));have e:=pB t n hs h1;show n^(ss.length+1)*hv t n (aW (ad acc s) ss)=hv t n acc*(hv t n s*pr t n ss);rw[P8,PQ _ n,PR,ih,<- PR,e,PR]
theorem Ks{c:Int}{ss:List (List Int)}{B n:Nat}{t:Int}(hc:c≠0)(hs:∀s∈ss,s≠[]/\Tr s)(hB:1<=B)
 (hb:∀x∈(ad [c] (aW [1] ss)).take ((ad [c] (aW [1] ss)).length-1),x.natAbs<=(B-1)*(aq (ad [c] (aW [1] ss))).natAbs) (hn:0<n) (ht:B*n<=t.natAbs):n^sl ss<=(pr t n ss).natAbs:=by
 obtain⟨p1,p2,p3⟩:=kd ss [1] (by simp) (by intro k hk;have:k=0:=by simpa using hk.symm
                                           subst this;decide) hs
 have hm:=px t n ss [1] (by simp) (λs h=>(hs s h).1);generalize aW [1] ss=Pr at *
 have hne:ad [c] Pr≠[]:=kt (by simp) p1;have hl:=uL (a:=[c]) (b:=Pr) (by simp) p1;have hlen:=bM (a:=[c]) (b:=Pr) (by simp) p1;have hv1:=pB t n p1 (a:=[c]) (by simp);obtain⟨os,z,e⟩:=(cY (ad [c] Pr)).resolve_left hne;rw[e]at hb hl hv1 hlen;rw[dM]at hb hl;have ht2:(os++[z]).take ((os++[z]).length-1)=os:=by simp
 rw[ht2]at hb;have hcau:=B5 hn hB ht z os hb;have hlp:aq Pr≠0:=gO p2 p1;have hz:z=c*aq Pr:=hl;rw[mQ]at hv1;have hn0:(n:Int)≠0:=by omega
 have e2:hv t n (os++[z])=c*hv t n Pr:=by refine R0 hn0 ?_;rw[hv1];grind
 rw[e2,hz,PL,PL,Nat.mul_assoc]at hcau;have hc1:0<c.natAbs:=Q3.mpr hc;have h4:=R3 hcau hc1;have h5:1*n^(os.length+1)<=(aq Pr).natAbs*n^(os.length+1):=Qg _ (Q3.mpr hlp);have h6:os.length+1=Pr.length:=by simp at hlen;omega
 rw[h6]at h4 h5;have h7:n^Pr.length<=(hv t n Pr).natAbs:=by omega
 have h8:(n^ss.length*n^Pr.length)<=n*(pr t n ss).natAbs:=by
  have h9:=QP (n^ss.length) h7
  have h10:n^ss.length*(hv t n Pr).natAbs=n*(pr t n ss).natAbs:=by have:=congrArg Int.natAbs hm;rw[PL,RG,P9,mQ,P7,PL,P9]at this;exact this
  omega
 rw[<- Nat.pow_add]at h8;have h11:ss.length+Pr.length=sl ss+1:=by simp at p3;omega
 rw[h11,Q0,QK]at h8;exact R3 h8 hn
theorem ib{r:List Int}(h:Tr r):cN [] r=scL (-1) r:=by
 refine mT (fK _) (jR (by decide) h) λk=>?_
 unfold cN;rw[gT,iD,bI,cH];omega
theorem K0{a b:List Int}(hb:b≠[])(hbt:Tr b):0<cE a b:=by
 have h:=mU (a:=a) hb hbt
 have h2:0<=cE a b:=by
  unfold cE;generalize aT a b=n
  induction n with
  |zero=>rw[QA];decide
  |succ n ih=>rw[P8];exact PY ih (RT _)
 omega
theorem tJ{n:Nat}{one:List Int}(h:one≠[])(hn:0<n):aU n one []=[one]:=by obtain⟨m,rfl⟩:∃m,n=m+1:=⟨n-1,by omega⟩;show(if one=[]then[]else one::aU m [] (nxt one []))=_;rw[if_neg h,gD]
noncomputable def Ends:Nat->List Int->List Int->Prop
 |0,one,_=>one=[]
 |n+1,one,other=>one=[]\/Ends n other (nxt one other)
noncomputable def gr(B:Nat):Nat->Nat
 |0=>B
 |1=>2*B
 |k+2=>2*gr B (k+1)+gr B k
theorem JV(B:Nat):∀k,gr B k<=gr B (k+1)
 |0=>by show B<=2*B;omega
 |k+1=>by show gr B (k+1)<=2*gr B (k+1)+gr B k;omega
theorem gu(B:Nat){j k:Nat}(h:j<=k):gr B j<=gr B k:=by
 induction h with
 |refl=>exact Pn _
 |step _ ih=>exact PM ih (JV B _)
theorem uX(B j:Nat):∀d,gr B j+(d+2)*gr B (j+1)<=gr B (j+2+d)
 |0=>by show gr B j+2*gr B (j+1)<=2*gr B (j+1)+gr B j;omega
 |d+1=>by
  have ih:=uX B j d
  have e:gr B (j+2+(d+1))=2*gr B (j+2+d)+gr B (j+1+d):=by
   have:j+2+(d+1)=(j+1+d)+2:=by omega
   rw[this];show 2*gr B (j+1+d+1)+gr B (j+1+d)=_;have e2:j+1+d+1=j+2+d:=by omega
   rw[e2]
  have hm:gr B (j+1)<=gr B (j+1+d):=gu B (by omega);rw[e,Nat.add_mul]at *;have e3:(d+1)*gr B (j+1)=d*gr B (j+1)+gr B (j+1):=by rw[Nat.add_mul,Nat.one_mul]
  omega
theorem gI(a:List Int):ad [] a=[]:=by unfold ad;rw[if_pos (.inl rfl)]
theorem ip(a:List Int):ad a []=[]:=by unfold ad;rw[if_pos (.inr rfl)]
theorem mn(a b:List Int):ad a b=ad b a:=by
 by_cases ha:a=[]
 ·rw[ha,gI,ip]
 by_cases hb:b=[]
 ·rw[hb,gI,ip]
 refine eu ?_ λk _=>?_
 ·rw[bM ha hb,bM hb ha];omega
 ·rw[aN,aN,gH]
theorem kq{a b:List Int}(ha:a≠[])(hb:b≠[]):ad a b≠[]:=λz=>by have:=bM ha hb;rw[z,List.length_nil]at this;have:=Pq.mpr ha;have:=Pq.mpr hb;omega
theorem ir(a b c:List Int):ad (ad a b) c=ad a (ad b c):=by
 by_cases ha:a=[]
 ·rw[ha,gI,gI,gI]
 by_cases hb:b=[]
 ·rw[hb,gI,ip,gI]
 by_cases hc:c=[]
 ·rw[hc,ip,ip,ip]
 have h1:=kq ha hb;have h2:=kq hb hc;refine eu ?_ λk _=>?_
 ·have:=Pq.mpr hb;rw[bM h1 hc,bM ha h2,bM ha hb,bM hb hc];obtain⟨y,ey⟩:=Nat.exists_eq_succ_of_ne_zero (Nat.ne_of_gt this);rw[ey,Nat.succ_add,Nat.add_succ,Nat.succ_sub_one,Nat.succ_sub_one,Nat.add_assoc]
 ·rw[aN,aN,ko]
instance:Std.Commutative ad:=⟨mn⟩
instance:Std.Associative ad:=⟨ir⟩
theorem mq(a:List Int):ad [1] a=a:=by
 by_cases ha:a=[]
 ·rw[ha,ip]
 refine eu ?_ λk _=>?_
 ·rw[bM (by simp) ha];simp
 ·rw[aN,fC];omega
theorem cW(a:List Int):ad a [1]=a:=by rw[mn,mq]
theorem pln_one:Pln [1]:=⟨tr_snoc (r:=[]).mpr (by decide),by simp,by decide,by decide⟩
theorem zi{a:List Int}(h:Pln a):1<=a.length:=Pq.mpr h.ne
def Sim(a b:List Int):Prop:=∃x y:Int,x≠0/\y≠0/\∀n,x*cf a n=y*cf b n
theorem Sim.refl(a:List Int):Sim a a:=⟨1,1,by decide,by decide,λ_=>rfl⟩
theorem Sim.dv{a b d:List Int}(h:Sim a b)(hd:Dv d b):Dv d a:=by obtain⟨x,y,hx,hy,e⟩:=h;exact Dv.prop_right hx e hd
theorem Sim.symm{a b:List Int}(h:Sim a b):Sim b a:=by obtain⟨x,y,hx,hy,e⟩:=h;exact⟨y,x,hy,hx,λn=>(e n).symm⟩
theorem Dv.cancel{d a b:List Int}(hd:d≠[])(ht:Tr d)(h:Dv (ad d a) (ad d b)):Dv a b:=by
 obtain⟨c,q,hc,e⟩:=h
 have key:∀k,cf (d8 (-1) (scL c b) (ad q a)) k=0:=by
  refine zO hd ht λn _=>?_
  rw[fE (a:=b) (b:=ad q a) (x:=c) (y := -1) (λk=>by rw[iD,bI])]
  have e1:aA (ad q a) d n=aA q (ad d a) n:=by
   rw[<- aN,<- aN]
   congr 1
   rw[ir,mn a d]
  have e2:=e n;rw[aN,gH]at e2;rw[e1,<- e2];omega
 refine⟨c,q,hc,λn=>?_⟩;have:=key n;rw[iD,bI,aN]at this;omega
theorem FD{d a b:List Int}(hd:Pln d)(ha:Pln a)(hb:Pln b)(h:ad d a=ad d b):a=b :=
 tV ha hb (Dv.cancel hd.ne hd.tr (h ▸ Dv.refl _)) (Dv.cancel hd.ne hd.tr (h ▸ Dv.refl _))
noncomputable def prd(ss:List (List Int)):List Int:=ss.foldr ad [1]
theorem A8:∀(ss:List (List Int)) (acc:List Int),ss.foldl ad acc=ad acc (prd ss)
 | [],acc=>(cW acc).symm
 |s::ss,acc=>by show ss.foldl ad (ad acc s)=ad acc (ad s (prd ss));rw[A8 ss,ir]
theorem iW:∀(ss:List (List Int)),(∀s∈ss,Pln s)->Pln (prd ss)
 | [],_=>pln_one
 |s::ss,h=>(h s (PH ..)).mul (iW ss λx hx=>h x (Pz _ hx))
structure Pri(s:List Int):Prop where
 pln:Pln s
 two:2<=s.length
 or:∀a b,Dv s (ad a b)->Dv s a\/Dv s b
theorem Pri.not_one{s:List Int}(h:Pri s):¬Dv s [1]:=λz=>by have:=Dv.short h.pln.ne h.pln.tr pln_one.tr (by have:=h.two;show 1<s.length;omega) z;exact absurd this (by simp)
theorem Pri.prd{s:List Int}(h:Pri s):∀ss:List (List Int),Dv s (prd ss)->∃t∈ss,Dv s t
 | [],hd=>absurd hd h.not_one
 |t::ss,hd=>by
  rcases h.or t (RM.prd ss) hd with z |z
  ·exact⟨t,PH ..,z⟩
  ·obtain⟨t',ht,z'⟩:=Pri.prd h ss z;exact⟨t',Pz _ ht,z'⟩
theorem Pri.same{s t:List Int}(hs:Pri s)(ht:Pri t)(h:Dv s t):s=t:=by
 obtain⟨q,hq,e⟩:=h.fellow hs.pln ht.pln.tr ht.pln.ne;rw[ht.pln.plain]at e;have l:=bM hq.ne hs.pln.ne;rw[e]at l;have:=hs.two;have:=zi hq;rcases ht.or q s (e ▸ Dv.refl _)with z |z
 ·exact absurd (Dv.short ht.pln.ne ht.pln.tr hq.tr (by omega) z) hq.ne
 ·exact tV hs.pln ht.pln h z
theorem pO:∀(ps:List (List Int)) {E:List Int},(∀p∈ps,Pri p)->Pln E->Dv E (prd ps)->E=[1]\/∃p∈ps,Dv p E
 | [],E,_,hE,h=>by
  refine .inl (hE.const ?_);have:=zi hE;refine Classical.byContradiction λz=>?_
  have:=Dv.short hE.ne hE.tr pln_one.tr (by show 1<E.length;omega) h;exact absurd this (by simp)
 |p::ps,E,hp,hE,h=>by
  obtain⟨c,q,hc,e⟩:=h;have P:=hp p (PH ..)
  have d1:Dv p (ad q E):=Dv.prop_right (x:=1) (y:=c) (by decide) (λn=>by
   show 1*cf (ad q E) n=c*cf (RM.prd (p::ps)) n
   rw[e,aN];omega) (Dv.mul_left p (prd ps))
  rcases P.or q E d1 with z |z
  ·obtain⟨c',q',hc',e'⟩:=z
   have d2:Dv (ad p E) (ad p (prd ps)):=by
    refine⟨c*c',q',PP hc hc',λn=>?_⟩;have e1:=e n;rw[show ad p (prd ps)=RM.prd (p::ps)from rfl]
    have e2:aA (ad q' p) E n=c'*aA q E n:=by have:=fE (a:=q) (b:=[]) (x:=c') (y:=0) (c:=ad q' p) (q:=E) (n:=n) (λk=>by rw[aN,<- e'];simp);rw[this];simp
    rw[<- ko,e2,<- e1,PQ c c',PR]
   rcases pO ps (λx hx=>hp x (Pz _ hx)) hE (Dv.cancel P.pln.ne P.pln.tr d2)with w |⟨t,ht,w⟩
   ·exact .inl w
   ·exact .inr ⟨t,Pz _ ht,w⟩
  ·exact .inr ⟨p,PH ..,z⟩
theorem Li{A B C D L M:List Int}{ps:List (List Int)}(hC:Pln C)(cA:Dv C A)(cB:Dv C B)(call:∀d,Dv d A->Dv d B->Dv d C)(hD:Pln D)(sA:Sim A (ad D L))(sB:Sim B (ad D M))(hps:∀p∈ps,Pri p)(hL:L=prd ps)(hM:∀p∈ps,¬Dv p M):C=D:=by
 have dC:Dv D C:=call D (sA.dv (Dv.mul_left _ _)) (sB.dv (Dv.mul_left _ _));obtain⟨E,hE,e⟩:=dC.fellow hD hC.tr hC.ne;rw[hC.plain,mn]at e;have EL:Dv E L:=Dv.cancel hD.ne hD.tr (by rw[e];exact sA.symm.dv cA);have EM:Dv E M:=Dv.cancel hD.ne hD.tr (by rw[e];exact sB.symm.dv cB);rw[hL]at EL;rcases pO ps hps hE EL with z |⟨p,hp,z⟩
 ·rw[<- e,z,cW]
 ·exact absurd (z.trans EM) (hM p hp)
theorem zp{A D L:List Int}(hA:Tr A)(hAn:A≠[])(hD:Pln D)(hL:Pln L)(e:aB A=ad D L):aQ A D=[]/\aB (cw A D)=L:=by
 have dv:Dv D A:=(Dv.plain hA).mp (by rw[e];exact Dv.mul_left _ _);have hr:=dv.rest hD.ne hD.tr;refine⟨hr,?_⟩;have eq:=λn=>iz (a:=A) hD.ne n
 have m:=zj (mU (a:=A) hD.ne hD.tr) hA hAn (vC hD.ne hA hD.tr) hD (λn=>by rw[eq n,hr,cH];omega)
 have hq:cw A D≠[]:=λz=>by rw[z]at m;have:aB []=[]:=rfl;rw[this,gI,e]at m;exact kq hD.ne hL.ne m.symm
 have pq:=fQ (vC hD.ne hA hD.tr) hq;refine FD hD pq hL ?_;rw[mn,m,e]
theorem fI(l:List Int)(n:Nat):cf (slopeL l) n=((n:Int)+1)*cf l (n+1):=by
 unfold slopeL;rw[mZ];by_cases h:n<l.length-1
 ·rw[if_pos h]
 ·rw[if_neg h,cF (l:=l) (by omega),PN]
theorem yG(x:Int)(a:List Int)(n:Nat):cf (slopeL (x::a)) n=1*cf a n+1*cf (0::slopeL a) n:=by
 rw[fI,pV,pX];cases n with
 |zero=>show(((0:Nat):Int)+1)*cf a 0=1*cf a 0+1*0;omega
 |succ n =>
  show(((n+1:Nat):Int)+1)*cf a (n+1)=1*cf a (n+1)+1*cf (slopeL a) n;rw[fI];have:((n+1:Nat):Int)=(n:Int)+1:=by omega
  rw[this,Int.add_mul];omega
theorem qT:∀(a b:List Int) (n:Nat),cf (slopeL (ad a b)) n=aA (slopeL a) b n+aA a (slopeL b) n
 | [],b,n=>by rw[gI];show cf (slopeL []) n=aA (slopeL []) b n+aA [] (slopeL b) n;have:slopeL []=[]:=rfl;rw[this,cH,dO,dO];omega
 |x::a,b,n=>by
  rw[fI,aN,d5,fE (q:=b) (yG x a),zP,d5,fI];show((n:Int)+1)*(x*cf b (n+1)+aA a b n)=_;cases n with
  |zero =>show(((0:Nat):Int)+1)*(x*cf b 1+aA a b 0)=1*aA a b 0+1*0+(x*((((0:Nat):Int)+1)*cf b 1)+0);simp;omega
  |succ n =>
   have ih:=qT a b n;rw[fI,aN]at ih;show(((n+1:Nat):Int)+1)*(x*cf b (n+1+1)+aA a b (n+1))=1*aA a b (n+1)+1*aA (slopeL a) b n+(x*((((n+1:Nat):Int)+1)*cf b (n+1+1))+aA a (slopeL b) n);have:((n+1:Nat):Int)=(n:Int)+1:=by omega
   rw[this];generalize aA a b (n+1)=z at *
   generalize aA (slopeL a) b n=z1 at *
   generalize aA a (slopeL b) n=z2 at *
   generalize cf b (n+1+1)=z3 at *
   generalize (n:Int)=m at *
   grind
noncomputable def pw(s:List Int):Nat->List Int
 |0=>[1]
 |n+1=>ad s (pw s n)
theorem gE(s:List Int):pw s 1=s:=cW s
theorem zc(s:List Int):∀a b,ad (pw s a) (pw s b)=pw s (a+b)
 |0,b=>by rw[Nat.zero_add];exact mq _
 |a+1,b=>by rw[show a+1+b=a+b+1 by omega];show ad (ad s (pw s a)) (pw s b)=ad s (pw s (a+b));rw[ir,zc s a b]
theorem y7{s:List Int}(h:Pln s):∀n,Pln (pw s n)
 |0=>pln_one
 |n+1=>h.mul (y7 h n)
theorem yD(s:List Int):∀(k n:Nat),cf (slopeL (pw s (k+1))) n=((k:Int)+1)*aA (slopeL s) (pw s k) n
 |0,n=>by rw[gE];show _=(((0:Nat):Int)+1)*aA (slopeL s) [1] n;rw[gH,fC];omega
 |k+1,n=>by
  show cf (slopeL (ad s (pw s (k+1)))) n=_;rw[qT];have e:aA s (slopeL (pw s (k+1))) n=((k:Int)+1)*aA s (ad (slopeL s) (pw s k)) n:=ml λj=>by rw[yD s k j,aN]
  have e2:aA s (ad (slopeL s) (pw s k)) n=aA (slopeL s) (pw s (k+1)) n:=by
   show _=aA (slopeL s) (ad s (pw s k)) n;rw[<- aN,<- aN]
   congr 1
   ac_rfl
  rw[e,e2];have:((k+1:Nat):Int)=(k:Int)+1:=by omega
  rw[this,Int.add_mul ((k:Int)+1) 1];omega
noncomputable def fP(g:Nat->Nat)(us:List (List Int×Nat)):List Int:=us.foldr (λp acc=>ad (pw p.1 (g p.2)) acc) [1]
theorem fW(g:Nat->Nat)(p:List Int×Nat)(us:List (List Int×Nat)):fP g (p::us)=ad (pw p.1 (g p.2)) (fP g us):=rfl
theorem vz(g h:Nat->Nat):∀us,ad (fP g us) (fP h us)=fP (λm=>g m+h m) us
 | []=>mq _
 |p::us=>by
  rw[fW,fW,fW,<- vz g h us,<- zc]
  ac_rfl
theorem kH{g h:Nat->Nat}:∀us:List (List Int×Nat),(∀p∈us,g p.2=h p.2)->fP g us=fP h us
 | [],_=>rfl
 |p::us,H=>by rw[fW,fW,H p (PH ..),kH us λx hx=>H x (Pz _ hx)]
theorem Bq{g:Nat->Nat}:∀us:List (List Int×Nat),(∀p∈us,Pri p.1)->Pln (fP g us)
 | [],_=>pln_one
 |p::us,h=>(y7 (h p (PH ..)).pln _).mul (Bq us λx hx=>h x (Pz _ hx))
theorem Bp(c:Nat->Bool):∀us:List (List Int×Nat),fP (λm=>if c m then 1 else 0) us=prd ((us.filter λp=>c p.2).map (·.1))
 | []=>rfl
 |p::us=>by
  rw[fW,Bp c us,List.filter_cons];cases h:c p.2 with
  |true =>simp only[if_true,Qp];rw[gE];rfl
  |false =>simp only[Bool.false_eq_true,if_false];exact mq _
theorem Br{g:Nat->Nat}:∀(us:List (List Int×Nat)) {p:List Int×Nat},p∈us->0<g p.2->Dv p.1 (fP g us)
 |q::us,p,hp,h0=>by
  rw[fW];rcases Pu.mp hp with rfl |hp
  ·obtain⟨k,hk⟩:∃k,g p.2=k+1:=⟨g p.2-1,by omega⟩;rw[hk];show Dv p.1 (ad (ad p.1 (pw p.1 k)) _);rw[ir];exact Dv.mul_left _ _
  ·exact(Br us hp h0).trans (Dv.mul_right _ _)
theorem Pri.pw{s t:List Int}(h:Pri s):∀n,Dv s (pw t n)->0<n/\Dv s t
 |0,hd=>absurd hd h.not_one
 |n+1,hd=>by
  refine⟨by omega,?_⟩;rcases h.or t (RM.pw t n) hd with z |z
  ·exact z
  ·exact(Pri.pw h n z).2
theorem Pri.fP{s:List Int}(h:Pri s){g:Nat->Nat}:∀us:List (List Int×Nat),Dv s (fP g us)->∃p∈us,0<g p.2/\Dv s p.1
 | [],hd=>absurd hd h.not_one
 |p::us,hd=>by
  rcases h.or (RM.pw p.1 (g p.2)) (RM.fP g us) hd with z |z
  ·exact⟨p,PH ..,(h.pw _ z)⟩
  ·obtain⟨q,hq,z'⟩:=Pri.fP h us z;exact⟨q,Pz _ hq,z'⟩
structure Use(us:List (List Int×Nat)):Prop where
 pri:∀p∈us,Pri p.1
 pos:∀p∈us,1<=p.2
 nd:(us.map (·.1)).Nodup
theorem Use.tail{p:List Int×Nat}{us:List (List Int×Nat)}(h:Use (p::us)):Use us :=
 ⟨λx hx=>h.pri x (Pz _ hx),λx hx=>h.pos x (Pz _ hx),(QW.mp h.nd).2⟩
theorem Use.head{p q:List Int×Nat}{us:List (List Int×Nat)}(h:Use (p::us))(hq:q∈us):p.1≠q.1:=λz =>(QW.mp h.nd).1 (PF.mpr ⟨q,hq,z.symm⟩)
theorem d9(l:List Int):(slopeL l).length=l.length-1:=by unfold slopeL;simp
theorem f7{l:List Int}(h:Tr l):Tr (slopeL l):=λn hn=>by rw[d9]at hn;rw[fI];exact PP (by omega) (h (n+1) (by omega))
theorem yF:∀us:List (List Int×Nat),Use us->∃M,(∀n,cf (slopeL (fP id us)) n=aA (fP (·-1) us) M n)/\∀q∈us,¬Dv q.1 M
 | [],_=>⟨[],λn=>by
  show cf (slopeL [1]) n=aA [1] [] n
  rw[uo];exact cH n,λ_ h=>nomatch h⟩
 |p::us,h=>by
  obtain⟨M',e',h'⟩:=yF us h.tail;obtain⟨s,m⟩:=p;have P:Pri s:=h.pri _ (PH ..);obtain⟨k,hk⟩:∃k,m=k+1:=⟨m-1,by have:=h.pos _ (PH ..);simp at this;omega⟩;subst hk
  have eF:fP id us=ad (fP (·-1) us) (fP (λ_=>1) us):=by rw[vz];exact kH us λp hp=>by have:=h.tail.pos p hp;show p.2=p.2-1+1;omega
  have hX:∀n,cf (d8 1 (ad (scL ((k:Int)+1) (slopeL s)) (fP (λ_=>1) us)) (ad s M')) n=1*cf (ad (scL ((k:Int)+1) (slopeL s)) (fP (λ_=>1) us)) n+1*cf (ad s M') n:=λn=>by rw[iD];omega
  refine⟨d8 1 (ad (scL ((k:Int)+1) (slopeL s)) (fP (λ_=>1) us)) (ad s M'),λn=>?_,λq hq hd=>?_⟩
  ·rw[fW,fW];show cf (slopeL (ad (pw s (k+1)) (fP id us))) n=aA (ad (pw s k) (fP (·-1) us)) _ n;rw[qT,zQ hX]
   have a1:aA (slopeL (pw s (k+1))) (fP id us) n=aA (ad (pw s k) (fP (·-1) us)) (ad (scL ((k:Int)+1) (slopeL s)) (fP (λ_=>1) us)) n:=by
    rw[eF]
    have:aA (slopeL (pw s (k+1))) (ad (fP (·-1) us) (fP (λ_=>1) us)) n=aA (ad (scL ((k:Int)+1) (slopeL s)) (pw s k)) (ad (fP (·-1) us) (fP (λ_=>1) us)) n:=by
     refine oS (λj=>?_) λ_=>rfl
     rw[yD,aN];have:=fE (a:=slopeL s) (b:=[]) (x:=(k:Int)+1) (y:=0) (c:=scL ((k:Int)+1) (slopeL s)) (q:=pw s k) (n:=j) (λi=>by rw[bI];simp);rw[this];simp
    rw[this,<- aN,<- aN]
    congr 1
    ac_rfl
   have a2:aA (pw s (k+1)) (slopeL (fP id us)) n=aA (ad (pw s k) (fP (·-1) us)) (ad s M') n:=by
    rw[oS (a':=pw s (k+1)) (b':=ad (fP (·-1) us) M') (λ_=>rfl) (λj=>by rw[e',aN])];show aA (ad s (pw s k)) _ n=_;rw[<- aN,<- aN]
    congr 1
    ac_rfl
   rw[a1,a2];omega
  ·have hX':∀n,1*cf (d8 1 (ad (scL ((k:Int)+1) (slopeL s)) (fP (λ_=>1) us)) (ad s M')) n=aA M' s n+cf (ad (scL ((k:Int)+1) (slopeL s)) (fP (λ_=>1) us)) n:=λn=>by rw[hX,aN s,gH s];omega
   rcases Pu.mp hq with rfl |hq
   ·have d1:=Dv.down hX' hd (Dv.refl _);rcases P.or _ _ d1 with z |z
    ·have t:Tr (scL ((k:Int)+1) (slopeL s)):=jR (by omega) (f7 P.pln.tr);have l:(scL ((k:Int)+1) (slopeL s)).length=s.length-1:=by rw[cv,d9]
     have:=P.two;have n:=Dv.short P.pln.ne P.pln.tr t (by omega) z;rw[n]at l;simp at l
     omega
    ·obtain⟨q',hq',_,w⟩:=P.fP us z;exact h.head hq' (P.same (h.tail.pri q' hq') w)
   ·have Q:=h.tail.pri q hq;have d0:Dv q.1 (ad (scL ((k:Int)+1) (slopeL s)) (fP (λ_=>1) us)):=(Br us hq (g:=λ_=>1) (by decide)).trans (Dv.mul_right _ _);have d1:Dv q.1 (ad s M'):=Dv.down (f:=1) (q:=[1]) (λn=>by rw[hX,fC];omega) hd d0;rcases Q.or _ _ d1 with z |z
    ·exact h.head hq (Q.same P z).symm
    ·exact h' q hq z
theorem EV{s a b:List Int}(hs:s≠[])(h:Dv s (ad a b)):Dv s (ad (aQ a s) (aQ b s)):=by
 have e1:=λn=>iz (a:=a) hs n
 have e2:=λn=>iz (a:=b) hs n
 have d1:Dv s (ad (aQ a s) b):=by
  refine Dv.down (f:=cE a s) (q:=ad (cw a s) b) (b:=s) (λn=>?_) h (Dv.refl _);rw[aN,aN];have l:=fE (a:=ad (cw a s) s) (b:=aQ a s) (x:=1) (y:=1) (c:=scL (cE a s) a) (q:=b) (n:=n) (λk=>by rw[bI,e1,aN];omega);have l2:=fE (a:=a) (b:=[]) (x:=cE a s) (y:=0) (c:=scL (cE a s) a) (q:=b) (n:=n) (λk=>by rw[bI];simp)
  have l3:aA (ad (cw a s) s) b n=aA (ad (cw a s) b) s n:=by
   rw[<- aN,<- aN]
   congr 1
   ac_rfl
  rw[l2,l3]at l;rw[dO]at l;omega
 refine Dv.down (f:=cE b s) (q:=ad (aQ a s) (cw b s)) (b:=s) (λn=>?_) d1 (Dv.refl _);rw[aN,aN];have l:=zQ (a:=ad (cw b s) s) (b:=aQ b s) (x:=1) (y:=1) (c:=scL (cE b s) b) (q:=aQ a s) (n:=n) (λk=>by rw[bI,e2,aN];omega);have l2:=ml (a:=aQ a s) (b:=b) (b':=scL (cE b s) b) (c:=cE b s) (n:=n) (λk=>by rw[bI])
 have l3:aA (aQ a s) (ad (cw b s) s) n=aA (ad (aQ a s) (cw b s)) s n:=by
  rw[<- aN,<- aN]
  congr 1
  ac_rfl
 rw[l2,l3]at l;omega
theorem vA{s a:List Int}(hs:s≠[])(ht:Tr s)(h:aQ a s=[]):Dv s a :=
 ⟨cE a s,cw a s,mU hs ht,λn=>by rw[iz hs,h,cH];omega⟩
noncomputable def aH(u e b:Int):List Int:=if e=0 then[-u,b]else[u*u-e,-2*b*u,b*b]
theorem eU{u e b:Int}(hb:1<=b):Tr (aH u e b)/\2<=(aH u e b).length:=by
 unfold aH;split
 ·exact⟨(tr_snoc (r:=[-u])).mpr (by omega),by show 2<=2;decide⟩
 ·exact⟨(tr_snoc (r:=[u*u-e,-2*b*u])).mpr (PP (by omega) (by omega)),by show 2<=3;decide⟩
theorem zz{n e:Int}(hn:0<=n)(h1:n*n<e)(h2:e<(n+1)*(n+1)):∀(k:Nat) (x y:Int),x.toNat<=k->0<x->0<=y->e*(x*x)=y*y->False
 |0,x,y,hk,hx,_,_=>by omega
 |k+1,x,y,hk,hx,hy,h=>by
  have hxx:0<x*x:=Pl hx hx
  have a1:n*x<y:=by
   refine QG.mp λz=>?_
   have:=Rr z z hy (Int.le_trans hy z);have:=Ql h1 hxx;have e1:n*x*(n*x)=n*n*(x*x):=by grind
   omega
  have a2:y<(n+1)*x:=by
   refine QG.mp λz=>?_
   have z0:0<=(n+1)*x:=PY (by omega) (by omega);have:=Rr z z z0 hy;have:=Ql h2 hxx;have e1:(n+1)*x*((n+1)*x)=(n+1)*(n+1)*(x*x):=by grind
   omega
  have a3:(n+1)*x=n*x+x:=by rw[Int.add_mul];omega
  refine zz hn h1 h2 k (y-n*x) ((e*x-n*y).natAbs:Int) (by omega) (by omega) (by omega) ?_;rw[Int.natAbs_mul_self' (e*x-n*y)];grind
def NS(e:Int):Prop:=e<=0\/∃n:Int,0<=n/\n*n<e/\e<(n+1)*(n+1)
theorem NS.no{e x y:Int}(h:NS e)(he:e≠0)(hx:x≠0)(eq:x*x*e=y*y):False:=by
 rcases h with h |⟨n,hn,h1,h2⟩
 ·have hxx:0<x*x:=by
   rcases Qh hx with z |z
   ·exact Qq z z
   ·exact Pl z z
  have:x*x*e<0:=RF hxx (by omega)
  have:0<=y*y:=by
   rcases Int.le_total 0 y with z |z
   ·exact PY z z
   ·exact RB z z
  omega
 ·refine zz hn h1 h2 _ (x.natAbs:Int) (y.natAbs:Int) (Pn _) (by omega) (by omega) ?_;rw[Int.natAbs_mul_self' x,Int.natAbs_mul_self' y,<- eq,PQ]
theorem Fb{u e b:Int}(hb:1<=b)(he:NS e){p q:List Int}(h:Dv (aH u e b) (ad p q)):Dv (aH u e b) p\/Dv (aH u e b) q:=by
 obtain⟨tr,l2⟩:=eU (u:=u) (e:=e) hb;have hne:aH u e b≠[]:=λz=>by rw[z]at l2;simp at l2
 by_cases hp:aQ p (aH u e b)=[]
 ·exact .inl (vA hne tr hp)
 by_cases hq:aQ q (aH u e b)=[]
 ·exact .inr (vA hne tr hq)
 exfalso;have d:=EV hne h;have t1:=eI p (aH u e b);have t2:=eI q (aH u e b);have n1:=gv (a:=p) hne;have n2:=gv (a:=q) hne;generalize aQ p (aH u e b)=r1 at *
 generalize aQ q (aH u e b)=r2 at *
 have lm:=bM hp hq;have p1:=Pq.mpr hp;have p2:=Pq.mpr hq;by_cases hs:(ad r1 r2).length<(aH u e b).length
 ·exact kq hp hq (Dv.short hne tr (jS t1 t2) hs d)
 by_cases h0:e=0
 ·have:(aH u e b).length=2:=by unfold aH;rw[if_pos h0];rfl
  omega
 have er:aH u e b=[u*u-e,-2*b*u,b*b]:=by unfold aH;rw[if_neg h0]
 rw[er]at hs n1 n2 d hne tr;simp only[Qi,List.length_nil]at hs n1 n2
 obtain⟨α,β,rfl⟩:∃α β,r1=[α,β]:=by
  match r1,(show r1.length=2 by omega)with
  | [α,β],_=>exact⟨α,β,rfl⟩
 obtain⟨γ,δ,rfl⟩:∃γ δ,r2=[γ,δ]:=by
  match r2,(show r2.length=2 by omega)with
  | [γ,δ],_=>exact⟨γ,δ,rfl⟩
 have hβ:β≠0:=(tr_snoc (r:=[α])).mp t1;have hδ:δ≠0:=(tr_snoc (r:=[γ])).mp t2
 have em:ad [α,β] [γ,δ]=[α*γ,α*δ+β*γ,β*δ]:=by
  refine eu (by rw[lm];rfl) λk hk=>?_
  rw[lm]at hk;rw[aN];have hk':k<3:=hk;have:k=0\/k=1\/k=2:=by omega
  rcases this with rfl |rfl |rfl
  ·show(0+(α*γ))+0=α*γ;omega
  ·show(0+(α*δ))+(β*γ)=α*δ+β*γ;omega
  ·show(0+α*cf [γ,δ] 2)+(β*δ)=β*δ;have:cf [γ,δ] 2=0:=rfl;rw[this];simp
 rw[em]at d;have hr:=d.rest hne tr;have eqn:=λn=>iz (a:=[α*γ,α*δ+β*γ,β*δ]) hne n
 have hf:=mU (a:=[α*γ,α*δ+β*γ,β*δ]) hne tr;have lq:=vD (a:=[α*γ,α*δ+β*γ,β*δ]) hne;generalize cE [α*γ,α*δ+β*γ,β*δ] [u*u-e,-2*b*u,b*b]=f at *
 generalize cw [α*γ,α*δ+β*γ,β*δ] [u*u-e,-2*b*u,b*b]=Q at *
 rw[hr]at eqn;have lq':Q.length=1:=lq;obtain⟨κ,rfl⟩:∃κ,Q=[κ]:=RS.mp lq';have g0:=eqn 0;have g1:=eqn 1;have g2:=eqn 2;rw[fC,cH]at g0 g1 g2
 replace g0:f*(α*γ)=κ*(u*u-e)+0:=g0
 replace g1:f*(α*δ+β*γ)=κ*(-2*b*u)+0:=g1
 replace g2:f*(β*δ)=κ*(b*b)+0:=g2
 have hκ:κ≠0:=λz=>by rw[z,PX]at g2;exact PP hf (PP hβ hδ) (by omega)
 refine he.no h0 (x:=2*κ*b) (y:=f*(α*δ-β*γ)) (PP (PP (by decide) hκ) (by omega)) ?_;have k1:f*(α*δ-β*γ)*(f*(α*δ-β*γ))=f*(α*δ+β*γ)*(f*(α*δ+β*γ))-4*((f*(α*γ))*(f*(β*δ))):=by grind
 rw[k1,g0,g1,g2];grind
theorem E9{u e b:Int}(hb:1<=b)(he:NS e):Pri (aB (aH u e b)):=by
 obtain⟨tr,l2⟩:=eU (u:=u) (e:=e) hb;have hne:aH u e b≠[]:=λz=>by rw[z]at l2;simp at l2
 obtain⟨g,hg,eg⟩:=ij tr;have to:∀p,Dv (aB (aH u e b)) p->Dv (aH u e b) p:=λp h=>Dv.prop_left (x:=1) (y:=g) (by decide) hg (λn=>by rw[eg];omega) h
 have fr:∀p,Dv (aH u e b) p->Dv (aB (aH u e b)) p:=λp h=>Dv.prop_left (x:=g) (y:=1) hg (by decide) (λn=>by rw[<- eg];omega) h
 refine⟨fQ tr hne,by rw[plain_len];exact l2,λp q h=>?_⟩;exact(Fb hb he (to _ h)).imp (fr _) (fr _)
noncomputable def com(xs ys:List Int):List Int:=cM 20 (aB xs) (aB ys)
structure ComOk(xs ys:List Int):Prop where
 pln:xs≠[]\/ys≠[]->Pln (com xs ys)
 left:Dv (com xs ys) xs
 right:Dv (com xs ys) ys
 all:∀d,Dv d xs->Dv d ys->Dv d (com xs ys)
theorem BH{xs ys:List Int}(h2:ys.length<=19)(t1:Tr xs)(t2:Tr ys):ComOk xs ys:=by
 obtain⟨c1,c2,c3,c4,c5,c6⟩:=BI 20 (aB xs) (aB ys) (by rw[plain_len];omega) (ia t1) (ia t2);refine⟨λh=>?_,(Dv.plain t1).mp c2,(Dv.plain t2).mp c3,λd a b=>c4 d ((Dv.plain t1).mpr a) ((Dv.plain t2).mpr b)⟩;have hne:com xs ys≠[]:=c5 (h.imp (λz q=>z (Qz.mp (by rw[<- plain_len,q];rfl))) (λz q=>z (Qz.mp (by rw[<- plain_len,q];rfl))))
 obtain⟨l,tl,el⟩:∃l,Tr l/\com xs ys=aB l:=by
  rcases c6 with e |e |e
  ·exact⟨xs,t1,e⟩
  ·exact⟨ys,t2,e⟩
  ·exact e
 have hl:l≠[]:=λz=>hne (by rw[el,z];rfl)
 rw[el];exact fQ tl hl
theorem Lj{A B D L M:List Int}{ps:List (List Int)}(tA:Tr A)(nA:A≠[])(tB:Tr B)(lB:B.length<=19)(hD:Pln D)(sA:Sim A (ad D L))(sB:Sim B (ad D M))(hps:∀p∈ps,Pri p)(hL:L=prd ps)(hM:∀p∈ps,¬Dv p M):com A B=D :=
 have C:=BH lB tA tB
 Li (C.pln (.inl nA)) C.left C.right C.all hD sA sB hps hL hM
noncomputable def eq1(k m:Nat):Nat:=if m=k then 1 else 0
noncomputable def ui(_:Nat):Nat:=1
noncomputable def mor(us:List (List Int×Nat))(k:Nat):List Int:=fP (·-k) us
noncomputable def flt(us:List (List Int×Nat)):List Int:=fP ui us
variable {us:List (List Int×Nat)}
theorem Ba:flt us=prd (us.map (·.1)):=by
 have:=Bp (λ_=>true) us;have e:us.filter (λp=>(λ_=>true) p.2)=us:=List.filter_eq_self.mpr λ_ _=>rfl
 rw[e]at this;rw[<- this];exact kH us λp _=>rfl
theorem jp(h:Use us)(g:Nat->Nat):Pln (fP g us):=Bq us h.pri
noncomputable def whl(c:Int)(us:List (List Int×Nat)):List Int:=ad [c] (fP id us)
theorem f6(c:Int):whl c us=scL c (fP id us):=by
 unfold whl;by_cases h:fP id us=[]
 ·rw[h,ip];rfl
 refine eu ?_ λk _=>?_
 ·rw[bM (by simp) h,cv];simp
 ·rw[aN,fC,bI]
theorem k8(h:Use us){c:Int}(hc:c≠0):Tr (whl c us)/\whl c us≠[]/\aB (whl c us)=fP id us:=by have pl:=jp h id;rw[f6];refine⟨jR hc pl.tr,λz=>pl.ne (Qz.mp (by rw[<- cv c,z];rfl)),?_⟩;rw[ma hc pl.tr,pl.plain]
theorem wT(h:Use us):ad (mor us 1) (flt us)=fP id us:=by unfold mor flt;rw[vz];exact kH us λp hp=>by have:=h.pos p hp;show p.2-1+1=p.2;omega
theorem wS(h:Use us){c:Int}(hc:c≠0)(hl:(whl c us).length<=20):com (whl c us) (slopeL (whl c us))=mor us 1:=by
 obtain⟨t,n,p⟩:=k8 h hc;obtain⟨M,eM,hM⟩:=yF us h;refine Lj (L:=flt us) (M:=M) (ps:=us.map (·.1)) t n (f7 t) (by rw[d9];omega) (jp h _) ⟨1,c,by decide,hc,λk=>?_⟩ ⟨1,c,by decide,hc,λk=>?_⟩ (λp hp=>?_) Ba (λp hp=>?_)
 ·rw[wT h,f6,bI];omega
 ·rw[aN];have e:=eM k;rw[fI]at e;show 1*cf (slopeL (whl c us)) k=c*aA (fP (·-1) us) M k;rw[<- e,fI,f6,bI];grind
 ·obtain⟨q,hq,rfl⟩:=PF.mp hp;exact h.pri q hq
 ·obtain⟨q,hq,rfl⟩:=PF.mp hp;exact hM q hq
theorem CC(h:Use us){c:Int}(hc:c≠0):aQ (whl c us) (mor us 1)=[]/\aB (cw (whl c us) (mor us 1))=flt us:=by obtain⟨t,n,p⟩:=k8 h hc;exact zp t n (jp h _) (jp h _) (by rw[p,wT h])
noncomputable def dgs(g:Nat->Nat):List (List Int×Nat)->Nat
 | []=>0
 |p::us=>g p.2*(p.1.length-1)+dgs g us
theorem BD{g h:Nat->Nat}:∀us:List (List Int×Nat),(∀p∈us,g p.2<=h p.2)->dgs g us<=dgs h us
 | [],_=>Pn _
 |p::us,H=>by
  have:=BD us λx hx=>H x (Pz _ hx)
  have:=Qg (p.1.length-1) (H p (PH ..));show g p.2*_+dgs g us<=h p.2*_+dgs h us;omega
theorem oC{s:List Int}(h:s≠[]):∀n,(pw s n).length=1+n*(s.length-1)/\pw s n≠[]
 |0=>⟨by rw[Nat.zero_mul];rfl,by simp[pw]⟩
 |n+1=>by obtain⟨a,b⟩:=oC h n;have:=Pq.mpr h;refine⟨?_,kq h b⟩;show(ad s (pw s n)).length=_;rw[bM h b,a,Nat.succ_mul];omega
theorem pK(g:Nat->Nat):∀us:List (List Int×Nat),(∀p∈us,p.1≠[])->(fP g us).length=1+dgs g us/\fP g us≠[]
 | [],_=>⟨rfl,by simp[fP]⟩
 |p::us,H=>by
  obtain⟨a,b⟩:=pK g us λx hx=>H x (Pz _ hx)
  obtain⟨c,d⟩:=oC (H p (PH ..)) (g p.2);rw[fW];refine⟨?_,kq d b⟩;rw[bM d b,a,c];show _=1+(g p.2*_+dgs g us);omega
noncomputable def bh(sq due:Int):Int:=if due<0\/due*due<sq then 1 else 0-(if sq<due*due then 1 else 0)
noncomputable def aj(l:List Int)(t n:Int):Int:=if 0<cf l 3 then bh (cf l 1*n*n) (cf l 2*t-cf l 0*n)else 0-bh (cf l 1*n*n) (0-(cf l 2*t-cf l 0*n))
theorem cj(sq d:Int):(bh sq d=1/\(d<0\/d*d<sq))\/(bh sq d=0/\0<=d/\d*d=sq)\/(bh sq d = -1/\0<=d/\sq<d*d):=by
 unfold bh;by_cases h:d<0\/d*d<sq
 ·rw[if_pos h];exact .inl ⟨rfl,h⟩
 ·rw[if_neg h];by_cases h2:sq<d*d
  ·rw[if_pos h2];exact .inr (.inr ⟨rfl,by omega,h2⟩)
  ·rw[if_neg h2];exact .inr (.inl ⟨rfl,by omega,by omega⟩)
structure Spt(l:List Int):Prop where
 is:∃u e b s:Int,l=[u,e,b,s]/\0<=e/\1<=b/\(s=1\/s = -1)
theorem iJ{x y:Int}(hx:0<=x)(h:x<=y):x*x<=y*y:=Rr h h hx (by omega)
theorem qv{x y:Int}(hx:0<=x)(h:x<y):x*x<y*y:=by have h1:x*x<=x*y:=Q5 (Pt h) hx;have h2:x*y<y*y:=Ql h (by omega);omega
theorem II{x y:Int}(hy:0<=y)(h:x*x<y*y):x<y:=QG.mp λz=>by have:=iJ hy z;omega
theorem IN{x y:Int}(hy:0<=y)(h:x*x<=y*y):x<=y:=Qn.mp λz=>by have:=qv hy z;omega
theorem xt{g sq d:Int}(hg:0<g):bh (sq*(g*g)) (g*d)=bh sq d:=by
 have hgg:0<g*g:=Pl hg hg;have e1:g*d*(g*d)=d*d*(g*g):=by grind
 have e2:(g*d<0)↔d<0:=by
  constructor
  ·intro h;refine QG.mp λz=>?_
   have:=PY (Pt hg) z;omega
  ·intro h;exact RF hg h
 have e3:∀x y:Int,(x*(g*g)<y*(g*g))↔x<y:=λx y=>⟨λh=>QT h (Pt hgg),λh=>Ql h hgg⟩
 unfold bh;rw[e1];simp only[e2,e3]
theorem yI{g t n:Int}(l:List Int)(hg:0<g):aj l (g*t) (g*n)=aj l t n:=by
 have e1:cf l 1*(g*n)*(g*n)=cf l 1*n*n*(g*g):=by grind
 have e2:cf l 2*(g*t)-cf l 0*(g*n)=g*(cf l 2*t-cf l 0*n):=by grind
 have e3:0-g*(cf l 2*t-cf l 0*n)=g*(0-(cf l 2*t-cf l 0*n)):=by grind
 unfold aj;rw[e1,e2,e3,xt hg,xt hg]
theorem jY{t n t' n':Int}(l:List Int)(hn:0<n)(hn':0<n')(e:t*n'=t'*n):aj l t n=aj l t' n':=by
 rw[<- yI (g:=n') l hn',<- yI (g:=n) (t:=t') l hn];have e1:n'*t=n*t':=by rw[PQ,e,PQ]
 rw[e1,PQ n' n]
theorem cO(l:List Int)(t n:Int):aj l t n=1\/aj l t n=0\/aj l t n = -1:=by
 unfold aj;split
 ·rcases cj (cf l 1*n*n) (cf l 2*t-cf l 0*n)with h |h |h<;>omega
 ·rcases cj (cf l 1*n*n) (0-(cf l 2*t-cf l 0*n))with h |h |h<;>omega
theorem fM{l:List Int}(hl:Spt l){t n t' n':Int}(hn:0<n)(hn':0<n')(h:t*n'<t'*n)(hs:aj l t n<=0):aj l t' n' = -1:=by
 obtain⟨u,e,b,s,rfl,he,hb,hs1⟩:=hl
 have hlt:(b*t-u*n)*n'<(b*t'-u*n')*n:=by
  have h1:b*(t*n')<b*(t'*n):=R4 h (by omega);have e1:(b*t-u*n)*n'=b*(t*n')-u*n*n':=by grind
  have e2:(b*t'-u*n')*n=b*(t'*n)-u*n*n':=by grind
  omega
 have hnn:0<n*n:=Pl hn hn;have hnn':0<n'*n':=Pl hn' hn';rcases hs1 with rfl |rfl
 ·have z0:(0:Int)<1:=by decide
  have hs:bh (e*n*n) (b*t-u*n)<=0:=hs;show bh (e*n'*n') (b*t'-u*n') = -1;generalize b*t-u*n=a at *
  generalize b*t'-u*n'=a' at *
  have k1:0<=a/\e*n*n<=a*a:=by rcases cj (e*n*n) a with h |h |h<;>omega
  have k2:0<=a*n':=PY k1.1 (Pt hn');have k3:0<a':=QT (a:=n) (by omega) (Pt hn);have k4:=qv k2 hlt;have k5:e*n*n*(n'*n')<=a*a*(n'*n'):=Qf k1.2 (Pt hnn')
  have k6:e*n'*n'*(n*n)<a'*a'*(n*n):=by
   have e1:e*n'*n'*(n*n)=e*n*n*(n'*n'):=by grind
   have e2:a'*a'*(n*n)=a'*n*(a'*n):=by grind
   have e3:a*a*(n'*n')=a*n'*(a*n'):=by grind
   omega
  have k7:=QT k6 (Pt hnn);rcases cj (e*n'*n') a' with h |h |h<;>omega
 ·have hs:0-bh (e*n*n) (0-(b*t-u*n))<=0:=hs;show 0-bh (e*n'*n') (0-(b*t'-u*n')) = -1;generalize ha:0-(b*t-u*n)=a at *
  generalize ha':0-(b*t'-u*n')=a' at *
  have hlt':a'*n<a*n':=by
   have e1:a'*n = -((b*t'-u*n')*n):=by rw[<- ha'];grind
   have e2:a*n' = -((b*t-u*n)*n'):=by rw[<- ha];grind
   omega
  have k1:a<0\/a*a<=e*n*n:=by rcases cj (e*n*n) a with h |h |h<;>omega
  have k2:a'<0\/a'*a'<e*n'*n':=by
   by_cases z:a'<0
   ·exact .inl z
   right;have p1:0<=a'*n:=PY (by omega) (Pt hn);have p2:0<a:=QT (a:=n') (by omega) (Pt hn');have p3:=qv p1 hlt';have k5:a*a*(n'*n')<=e*n*n*(n'*n'):=Qf (by omega) (Pt hnn')
   have k6:a'*a'*(n*n)<e*n'*n'*(n*n):=by
    have e1:e*n'*n'*(n*n)=e*n*n*(n'*n'):=by grind
    have e2:a'*a'*(n*n)=a'*n*(a'*n):=by grind
    have e3:a*a*(n'*n')=a*n'*(a*n'):=by grind
    omega
   exact QT k6 (Pt hnn)
  rcases cj (e*n'*n') a' with h |h |h<;>omega
noncomputable def spF(f:List Int):List (List Int):=(if 0<=cf f 1 then[[cf f 0,cf f 1,cf f 2,1]]else[])++(if 0<cf f 1 then[[cf f 0,cf f 1,cf f 2,-1]]else[])
noncomputable def aL(fs:List (List Int)):List (List Int):=fs.flatMap spF
noncomputable def spr(t n:Int):List (List Int)->Int
 | []=>1
 |l::ls => -aj l t n*spr t n ls
theorem jV(t n:Int):∀a b,spr t n (a++b)=spr t n a*spr t n b
 | [],b=>by show _=1*_;rw[P7];rfl
 |x::a,b=>by show _*spr t n (a++b)=_*_*_;rw[jV t n a b,PR]
theorem qA{f l:List Int}{u e b:Int}(hf:f=[u,e,b])(hb:1<=b)(h:l∈spF f):Spt l/\∃s,l=[u,e,b,s]/\0<=e/\(s=1\/s = -1/\0<e):=by
 subst hf;have hd:spF [u,e,b]=(if 0<=e then[[u,e,b,1]]else[])++(if 0<e then[[u,e,b,-1]]else[]):=rfl;rw[hd]at h;rcases PV.mp h with h |h
 ·by_cases z:0<=e
  ·rw[if_pos z]at h;obtain rfl:=Pw.mp h;exact⟨⟨u,e,b,1,rfl,z,hb,.inl rfl⟩,1,rfl,z,.inl rfl⟩
  ·rw[if_neg z]at h;cases h
 ·by_cases z:0<e
  ·rw[if_pos z]at h;obtain rfl:=Pw.mp h;exact⟨⟨u,e,b,-1,rfl,by omega,hb,.inr rfl⟩,-1,rfl,by omega,.inr ⟨rfl,z⟩⟩
  ·rw[if_neg z]at h;cases h
theorem E8{u e b t n:Int}(hn:0<n):sg (hv t n (aH u e b))=spr t n (spF [u,e,b]):=by
 have hd:spF [u,e,b]=(if 0<=e then[[u,e,b,1]]else[])++(if 0<e then[[u,e,b,-1]]else[]):=rfl;rw[hd];by_cases h0:e=0
 ·subst h0;have er:aH u 0 b=[-u,b]:=by unfold aH;rw[if_pos rfl]
  have ev:hv t n [-u,b]=n*(b*t-u*n):=by show -u*n^2+t*(b*n^1+t*0)=_;grind
  rw[er,ev,fc hn,if_pos (PU _),if_neg (by omega)];show _ = -bh (0*n*n) (b*t-u*n)*1;generalize b*t-u*n=a;rw[PX,PX];have:a<0\/a=0\/0<a:=by omega
  rcases this with h |h |h
  ·have h1:sg a = -1:=by unfold sg;rw[if_pos h]
   rcases cj 0 a with z |z |z<;>omega
  ·subst h;rfl
  ·have h1:sg a=1:=by unfold sg;rw[if_neg (by omega),if_pos h]
   have h2:=Pl h h;rcases cj 0 a with z |z |z<;>omega
 ·have er:aH u e b=[u*u-e,-2*b*u,b*b]:=by unfold aH;rw[if_neg h0]
  have ev:hv t n [u*u-e,-2*b*u,b*b]=n*((b*t-u*n)*(b*t-u*n)-e*n*n):=by show(u*u-e)*n^3+t*((-2*b*u)*n^2+t*((b*b)*n^1+t*0))=_;grind
  rw[er,ev,fc hn];by_cases hp:0<=e
  ·rw[if_pos hp,if_pos (by omega)];show _ = -bh (e*n*n) (b*t-u*n)*(-(0-bh (e*n*n) (0-(b*t-u*n)))*1);generalize b*t-u*n=a;have hE:0<e*n*n:=Pl (Pl (by omega) hn) hn;generalize e*n*n=E at *
   have e1:(0-a)*(0-a)=a*a:=by grind
   have h1:=cj E a;have h2:=cj E (0-a);rw[e1]at h2;have az:a=0->a*a=0:=λz=>by rw[z];rfl
   have s3:(a*a<E/\sg (a*a-E) = -1)\/(a*a=E/\sg (a*a-E)=0)\/(E<a*a/\sg (a*a-E)=1):=by unfold sg;split<;>(try split)<;>omega
   generalize a*a=q at *
   rcases h1 with⟨x1,x2⟩ |⟨x1,x2⟩ |⟨x1,x2⟩<;>rcases h2 with⟨y1,y2⟩ |⟨y1,y2⟩ |⟨y1,y2⟩<;>rw[x1,y1]<;>simp<;>omega
  ·rw[if_neg hp,if_neg (by omega)]
   have h1:0<=(b*t-u*n)*(b*t-u*n):=by
    rcases Int.le_total 0 (b*t-u*n)with z |z
    ·exact PY z z
    ·exact RB z z
   have h2:e*n*n<0:=by rw[PR];exact Rm (by omega) (Pl hn hn)
   show sg _=1;unfold sg;rw[if_neg (by omega),if_pos (by omega)]
noncomputable def ag(f:List Int):List Int:=aB (aH (cf f 0) (cf f 1) (cf f 2))
theorem yM(x y:Int):sg (x*y)=sg x*sg y:=by
 rcases Rh x 0 with hx |hx |hx
 ·have h1:sg x = -1:=by unfold sg;rw[if_pos hx]
  have e:x*y = -((-x)*y):=by grind
  rw[e,DY,fc (by omega),h1];omega
 ·subst hx;rw[PX];show(0:Int)=0*_;rw[PX]
 ·have h1:sg x=1:=by unfold sg;rw[if_neg (by omega),if_pos hx]
  rw[fc hx,h1,P7]
theorem lZ{l:List Int}(h:Tr l)(hne:l≠[])(hp:0<aq l):∃g:Int,0<g/\l=scL g (aB l):=by
 obtain⟨g,hg,e⟩:=ij h
 have e2:l=scL g (aB l):=by
  apply eu
  ·rw[cv,plain_len]
  ·intro k _;rw[bI,e k]
 have hP:=fQ h hne;refine⟨g,?_,e2⟩;obtain⟨r,x,er⟩:=(cY l).resolve_left hne;have hx:aq l=cf l r.length:=by rw[er,dM,kJ]
 obtain⟨r',x',er'⟩:=(cY (aB l)).resolve_left hP.ne;have hx':aq (aB l)=cf (aB l) r'.length:=by rw[er',dM,kJ]
 have hl:r.length=r'.length:=by have:=plain_len l;have h1:=congrArg List.length er;have h2:=congrArg List.length er';simp at h1 h2;omega
 have h3:=e r.length;rw[<- hx,hl,<- hx']at h3;have h4:=hP.pos;rw[h3]at hp;rcases Qh hg with z |z
 ·have:=Rm z h4;omega
 ·exact z
theorem DQ{u e b t n:Int}(hb:1<=b)(hn:0<n):sg (hv t n (ag [u,e,b]))=spr t n (spF [u,e,b]):=by
 obtain⟨tr,l2⟩:=eU (u:=u) (e:=e) hb;have hne:aH u e b≠[]:=λz=>by rw[z]at l2;simp at l2
 have hlast:0<aq (aH u e b):=by
  unfold aH;split
  ·show 0<aq ([-u]++[b]);rw[dM];omega
  ·show 0<aq ([u*u-e,-2*b*u]++[b*b]);rw[dM];exact Pl (by omega) (by omega)
 obtain⟨g,hg,eg⟩:=lZ tr hne hlast;rw[<- E8 hn];show sg (hv t n (aB (aH u e b)))=_
 have e3:hv t n (aH u e b)=g*hv t n (aB (aH u e b)):=by
  calc hv t n (aH u e b)=hv t n (scL g (aB (aH u e b))):=by rw[<- eg]
   _=_:=AQ _ _ _ _
 rw[e3,fc hg]
def fJ(f:List Int):Prop:=∃u e b:Int,f=[u,e,b]/\1<=b
theorem zh{t n:Int}(hn:0<n):∀(fs:List (List Int)),(∀f∈fs,fJ f)->sg (pr t n (fs.map ag))=spr t n (aL fs)
 | [],_=>rfl
 |f::fs,h=>by
  obtain⟨u,e,b,rfl,hb⟩:=h f (PH ..);have ih:=zh (t:=t) hn fs λx hx=>h x (Pz _ hx)
  have e1:aL ([u,e,b]::fs)=spF [u,e,b]++aL fs:=by unfold aL;rw[List.flatMap_cons]
  show sg (hv t n (ag [u,e,b])*pr t n (fs.map ag))=_;rw[yM,DQ hb hn,ih,e1,jV]
theorem qY{f:List Int}(h:fJ f):ag f≠[]/\Tr (ag f):=by obtain⟨u,e,b,rfl,hb⟩:=h;obtain⟨tr,l2⟩:=eU (u:=u) (e:=e) hb;refine⟨λz=>?_,ia tr⟩;have:=plain_len (aH u e b);have z':aB (aH u e b)=[]:=z;rw[z']at this;simp at this;omega
theorem lT{t n c:Int}(hn:0<n){fs:List (List Int)}(h:∀f∈fs,fJ f):sg (hv t n (ad [c] (aW [1] (fs.map ag))))=sg c*spr t n (aL fs):=by
 have hs:∀s∈fs.map ag,s≠[]/\Tr s:=λs hs=>by obtain⟨x,hx,rfl⟩:=PF.mp hs;exact qY (h x hx)
 obtain⟨p1,p2,p3⟩:=kd (fs.map ag) [1] (by simp) ((tr_snoc (r:=[])).mpr (by decide)) hs;have e1:=pB t n (a:=[c]) (b:=aW [1] (fs.map ag)) p1 (by simp);have e2:=px t n (fs.map ag) [1] (by simp) λs h=>(hs s h).1
 rw[mQ]at e1 e2;rw[<- zh hn fs h]
 have e3:hv t n (ad [c] (aW [1] (fs.map ag)))=c*hv t n (aW [1] (fs.map ag)):=by refine R0 (Qd hn) ?_;rw[e1];grind
 rw[e3,yM];have e4:=congrArg sg e2;rw[fc (Qo hn),P7,fc hn]at e4;rw[e4]
def inS(l:List Int)(A B D:Int):Prop:=0<aj l A D/\aj l B D<=0
instance (l:List Int) (A B D:Int):Decidable (inS l A B D):=inferInstanceAs (Decidable (_/\_))
structure Fsm(u e b:Int):Prop where
 u1 : -1000000000<=u
 u2:u<=1000000000
 e0:0<=e
 e1:e<=10000000000000000
 b1:1<=b
 b2:b<=1000
theorem zF{u e b s A B D:Int}(h:Fsm u e b)(hs:s=1\/s = -1/\0<e)(hD:2^200<=D)(hw:B=A+128)(hi:inS [u,e,b,s] A B D):((b*A-u*D)*(b*A-u*D)-e*D*D).natAbs<=30000000000000*D.natAbs:=by
 obtain⟨u1,u2,e0,e1,b1,b2⟩:=h;have hDD:0<D:=by omega
 have eB:b*B-u*D=b*A-u*D+128*b:=by rw[hw];grind
 have h36:e*D*D<=100000000*D*(100000000*D):=by
  have h1:e*(D*D)<=10000000000000000*(D*D):=Qf (by omega) (Pt (Pl hDD hDD));have e2:e*D*D=e*(D*D):=by grind
  have e3:100000000*D*(100000000*D)=10000000000000000*(D*D):=by grind
  omega
 have hE0:0<=e*D*D:=PY (PY e0 (by omega)) (by omega)
 have hbig:e=0\/16384000000<e*D*D:=by
  rcases QB 0 e with z |z
  ·right;have h1:1*(D*D)<=e*(D*D):=Qf (by omega) (Pt (Pl hDD hDD));have e2:e*D*D=e*(D*D):=by grind
   have h2:1*D<=D*D:=Qf (by omega) (by omega);omega
  ·left;omega
 rcases hs with rfl |⟨rfl,hp⟩
 ·have i1:0<bh (e*D*D) (b*A-u*D):=hi.1;have i2:bh (e*D*D) (b*B-u*D)<=0:=hi.2;rw[eB]at i2;generalize b*A-u*D=a at *
  have k1:a<0\/a*a<e*D*D:=by rcases cj (e*D*D) a with z |z |z<;>omega
  have k2:0<=a+128*b/\e*D*D<=(a+128*b)*(a+128*b):=by rcases cj (e*D*D) (a+128*b)with z |z |z<;>omega
  by_cases ha:a<0
  ·have q1:=iJ k2.1 (show a+128*b<=128000 by omega);have z0:e=0:=by omega
   subst z0;have q2:(-a)*(-a)<=128000*128000:=iJ (by omega) (by omega);have q3:(-a)*(-a)=a*a:=by grind
   have q4:0<=a*a:=by rw[<- q3];exact PY (by omega) (by omega)
   rw[PX,PX];omega
  ·have k3:a*a<e*D*D:=by omega
   have k4:a<100000000*D:=II (by omega) (by omega);have e3:(a+128*b)*(a+128*b)=a*a+256*(b*a)+16384*(b*b):=by grind
   have k5:b*a<=1000*a:=Qf b2 (by omega);have k6:b*b<=1000000:=Rr b2 b2 (by omega) (by omega);omega
 ·have i1:0<0-bh (e*D*D) (0-(b*A-u*D)):=hi.1;have i2:0-bh (e*D*D) (0-(b*B-u*D))<=0:=hi.2;rw[eB]at i2;have eq1:(b*A-u*D)*(b*A-u*D)=(0-(b*A-u*D))*(0-(b*A-u*D)):=by grind
  have eq2:0-(b*A-u*D+128*b)=0-(b*A-u*D)-128*b:=by omega
  rw[eq1];rw[eq2]at i2;generalize 0-(b*A-u*D)=c at *
  have k1:0<=c/\e*D*D<c*c:=by rcases cj (e*D*D) c with z |z |z<;>omega
  have k2:c-128*b<0\/(c-128*b)*(c-128*b)<=e*D*D:=by rcases cj (e*D*D) (c-128*b)with z |z |z<;>omega
  by_cases hc:c-128*b<0
  ·have q1:=iJ k1.1 (show c<=128000 by omega);omega
  ·have k3:(c-128*b)*(c-128*b)<=e*D*D:=by omega
   have k4:c-128*b<=100000000*D:=IN (by omega) (by omega);have e3:c*c=(c-128*b)*(c-128*b)+256*(b*c)-16384*(b*b):=by grind
   have k5:b*c<=1000*c:=Qf b2 (by omega);have k6:0<=b*b:=PY (by omega) (by omega);omega
theorem CL{u e b A B D:Int}(h:Fsm u e b)(he:0<e)(hD:2^200<=D)(hw:B=A+128)(h1:inS [u,e,b,1] A B D)(h2:inS [u,e,b,-1] A B D):False:=by
 obtain⟨u1,u2,e0,e1,b1,b2⟩:=h;have hDD:0<D:=by omega
 have eB:b*B-u*D=b*A-u*D+128*b:=by rw[hw];grind
 have i1:bh (e*D*D) (b*B-u*D)<=0:=h1.2;have i2:0<0-bh (e*D*D) (0-(b*A-u*D)):=h2.1;rw[eB]at i1;generalize b*A-u*D=a at *
 have k1:0<=a+128*b:=by rcases cj (e*D*D) (a+128*b)with z |z |z<;>omega
 have k2:0<=0-a/\e*D*D<(0-a)*(0-a):=by rcases cj (e*D*D) (0-a)with z |z |z<;>omega
 have k3:=iJ k2.1 (show 0-a<=128000 by omega);have h3:1*(D*D)<=e*(D*D):=Qf (by omega) (Pt (Pl hDD hDD));have e2:e*D*D=e*(D*D):=by grind
 have h4:1*D<=D*D:=Qf (by omega) (by omega);omega
theorem dI{x y:Int}{a b:Nat}(hx:x.natAbs<=a)(hy:y.natAbs<=b):(x*y).natAbs<=a*b:=by rw[PL];exact QF hx hy
theorem zI(N:Nat):1000*1000*(30000000000000*N)+1000*1000*(30000000000000*N)<=60000000000000000000*N/\1000*1000*(30000000000000*N)<=30000000000000000000*N:=by omega
theorem HA{n2 n3 n4 x1 x2 x3:Nat}(h:n4<=x1+x2+x3)(t1:x1<=482400000000000000000000000000000000000000000*n3)(t2:x2<=3600000000000000000000000000000000000000*n2)(t3:x3<=480000000000000000000000000000000000000000000*n3)(m1:n2<=n3)(m2:1606938044258990275541962092341162602522202993782792835301376*n3<=n4)(m4:0<n3):False:=by omega
theorem HB{u e b u' e' b' A D:Int}(h:Fsm u e b)(h':Fsm u' e' b')(hD:2^200<=D)
 (n1:((b*A-u*D)*(b*A-u*D)-e*D*D).natAbs<=30000000000000*D.natAbs) (n2:((b'*A-u'*D)*(b'*A-u'*D)-e'*D*D).natAbs<=30000000000000*D.natAbs) :
 4*((b*u'-u*b')*(b*u'-u*b'))*(b*b*e')=(b'*b'*e-b*b*e'-(b*u'-u*b')*(b*u'-u*b'))*(b'*b'*e-b*b*e'-(b*u'-u*b')*(b*u'-u*b')):=by
 obtain⟨u1,u2,e0,e1,b1,b2⟩:=h;obtain⟨u1',u2',e0',e1',b1',b2'⟩:=h';obtain⟨N,rfl⟩:=Rn (show 0<=D by omega);rw[P9]at n1 n2;have hN:1606938044258990275541962092341162602522202993782792835301376<=N:=by omega
 have q9:(b'*b').natAbs<=1000*1000:=dI (a:=1000) (b:=1000) (by omega) (by omega);have q9':(b*b).natAbs<=1000*1000:=dI (a:=1000) (b:=1000) (by omega) (by omega);have d1:=dI q9 n1;have d2:=dI q9' n2
 have hU:(b*u'-u*b').natAbs<=2000000000000:=by have a1:(b*u').natAbs<=1000*1000000000:=dI (by omega) (by omega);have a2:(u*b').natAbs<=1000000000*1000:=dI (by omega) (by omega);exact PM (Rg _ _) (RH a1 a2)
 have hE1:(b'*b'*e).natAbs<=1000*1000*10000000000000000:=dI q9 (by omega);have hE2:(b*b*e').natAbs<=1000*1000*10000000000000000:=dI q9' (by omega);have r1:(b'*(b*A-u*N))*(b'*(b*A-u*N))=b'*b'*e*(N*N)+b'*b'*((b*A-u*N)*(b*A-u*N)-e*N*N):=by grind
 have r2:(b*(b'*A-u'*N))*(b*(b'*A-u'*N))=b*b*e'*(N*N)+b*b*((b'*A-u'*N)*(b'*A-u'*N)-e'*N*N):=by grind
 have r3:b'*(b*A-u*N)=b*(b'*A-u'*N)+(b*u'-u*b')*N:=by grind
 generalize b'*b'*((b*A-u*N)*(b*A-u*N)-e*N*N)=δ1 at *
 generalize b*b*((b'*A-u'*N)*(b'*A-u'*N)-e'*N*N)=δ2 at *
 rw[r3]at r1;generalize b*(b'*A-u'*N)=Y at *
 generalize b*u'-u*b'=U at *
 generalize b'*b'*e=E1 at *
 generalize b*b*e'=E2 at *
 clear n1 n2 q9 q9' r3 u1 u2 e0 e1 b1 b2 u1' u2' e0' e1' b1' b2' hD;have hUU:(U*U).natAbs<=2000000000000*2000000000000:=dI hU hU;have hW:(E1-E2-U*U).natAbs<=4020000000000000000000000:=PM (Rg _ _) (PM (RH (PM (Rg _ _) (RH hE1 hE2)) hUU) (by decide));generalize hWd:E1-E2-U*U=W at *
 have r4:2*U*N*Y=W*(N*N)+(δ1-δ2):=by rw[<- hWd];grind
 have r5:(2*U*N*Y)*(2*U*N*Y)=4*(U*U)*(N*N)*(Y*Y):=by grind
 rw[r4,r2]at r5;have hM:(δ1-δ2).natAbs<=60000000000000000000*N:=PM (Rg _ _) (PM (RH d1 d2) (zI N).1);have hδ2:δ2.natAbs<=30000000000000000000*N:=PM d2 (zI N).2;generalize δ1-δ2=δ at *
 have hNN:(0:Int)<(N:Int)*N:=Pl (by omega) (by omega);have r6:(4*(U*U)*E2-W*W)*(N*N)*(N*N)=2*W*δ*(N*N)+δ*δ-4*(U*U)*δ2*(N*N):=by grind
 refine Int.sub_eq_zero.mp (Classical.byContradiction λhne=>?_);generalize hZ:4*(U*U)*E2-W*W=Z at *
 have hZ1:1<=Z.natAbs:=by omega
 have b1:(Z*(N*N)*(N*N)).natAbs=Z.natAbs*(N*N)*(N*N):=by rw[PL,PL,PL,P9]
 have t1:(2*W*δ*(N*N)).natAbs<=2*4020000000000000000000000*(60000000000000000000*N)*(N*N):=by refine dI (dI (dI (by decide) hW) hM) ?_;rw[PL,P9];exact Pn _
 have t2:(δ*δ).natAbs<=60000000000000000000*N*(60000000000000000000*N):=dI hM hM
 have t3:(4*(U*U)*δ2*(N*N)).natAbs<=4*(2000000000000*2000000000000)*(30000000000000000000*N)*(N*N):=by refine dI (dI (dI (by decide) hUU) hδ2) ?_;rw[PL,P9];exact Pn _
 have t4:1*(N*N)*(N*N)<=Z.natAbs*(N*N)*(N*N):=Qg _ (Qg _ hZ1);rw[<- b1,r6]at t4;have e1:2*4020000000000000000000000*(60000000000000000000*N)*(N*N)=482400000000000000000000000000000000000000000*(N*N*N):=by grind
 have e2:60000000000000000000*N*(60000000000000000000*N)=3600000000000000000000000000000000000000*(N*N):=by grind
 have e3:4*(2000000000000*2000000000000)*(30000000000000000000*N)*(N*N)=480000000000000000000000000000000000000000000*(N*N*N):=by grind
 have e4:1*(N*N)*(N*N)=N*(N*N*N):=by grind
 have m1:1*(N*N)<=N*(N*N):=Qg _ (by omega);have m2:1606938044258990275541962092341162602522202993782792835301376*(N*N*N)<=N*(N*N*N):=Qg _ hN;have m3:N*(N*N)=N*N*N:=by grind
 have m4:0<N*N*N:=Nat.mul_pos (Nat.mul_pos (by omega) (by omega)) (by omega);rw[e4]at t4;rw[e1]at t1;rw[e2]at t2;rw[e3]at t3;rw[Nat.one_mul,m3]at m1;exact HA (PM t4 (PM (Rg _ _) (Nat.add_le_add_right (Ry _ _) _))) t1 t2 t3 m1 m2 m4
theorem DR{u e b u' e' b':Int}(h:Fsm u e b)(h':Fsm u' e' b')(hs:NS e)(hs':NS e')
 (eq:4*((b*u'-u*b')*(b*u'-u*b'))*(b*b*e')=(b'*b'*e-b*b*e'-(b*u'-u*b')*(b*u'-u*b'))*(b'*b'*e-b*b*e'-(b*u'-u*b')*(b*u'-u*b'))):ag [u,e,b]=ag [u',e',b']:=by
 obtain⟨u1,u2,e0,e1,b1,b2⟩:=h;obtain⟨u1',u2',e0',e1',b1',b2'⟩:=h'
 have key:b*u'-u*b'=0/\b'*b'*e=b*b*e':=by
  by_cases hz:e'=0
  ·subst hz
   have e3:(b'*b'*e-(b*u'-u*b')*(b*u'-u*b'))*(b'*b'*e-(b*u'-u*b')*(b*u'-u*b'))=0:=by
    have:b*b*(0:Int)=0:=PN _;rw[this]at eq;rw[PN]at eq;have h9:b'*b'*e-0-(b*u'-u*b')*(b*u'-u*b')=b'*b'*e-(b*u'-u*b')*(b*u'-u*b'):=by omega
    rw[h9]at eq;exact eq.symm
   have e4:b'*b'*e=(b*u'-u*b')*(b*u'-u*b'):=by rcases Qk.mp e3 with z |z<;>omega
   by_cases hz2:e=0
   ·subst hz2;rw[PN]at e4;refine⟨?_,by rw[PN,PN]⟩;rcases Qk.mp e4.symm with z |z<;>exact z
   ·exact(hs.no hz2 (by omega) e4).elim
  ·by_cases hU:b*u'-u*b'=0
   ·rw[hU]at eq
    have e3:(b'*b'*e-b*b*e')*(b'*b'*e-b*b*e')=0:=by
     have h8:4*((0:Int)*0)*(b*b*e')=0:=by rw[PN,PN,PX]
     rw[h8]at eq;have h9:b'*b'*e-b*b*e'-0*0=b'*b'*e-b*b*e':=by omega
     rw[h9]at eq;exact eq.symm
    refine⟨hU,?_⟩;rcases Qk.mp e3 with z |z<;>omega
   ·refine(hs'.no hz (x:=2*(b*u'-u*b')*b) (PP (PP (by decide) hU) (by omega)) (Eq.trans ?_ eq)).elim;grind
 obtain⟨k1,k2⟩:=key;show aB (aH u e b)=aB (aH u' e' b');obtain⟨tr,l2⟩:=eU (u:=u) (e:=e) b1;obtain⟨tr',l2'⟩:=eU (u:=u') (e:=e') b1';have hne:aH u e b≠[]:=λz=>by rw[z]at l2;simp at l2
 have hne':aH u' e' b'≠[]:=λz=>by rw[z]at l2';simp at l2'
 have hz:e=0↔e'=0:=by
  constructor
  ·intro z;rw[z,PN]at k2;rcases Qk.mp k2.symm with y |y
   ·rcases Qk.mp y with y |y<;>omega
   ·exact y
  ·intro z;rw[z,PN]at k2;rcases Qk.mp k2 with y |y
   ·rcases Qk.mp y with y |y<;>omega
   ·exact y
 have prop:∃x y:Int,x≠0/\y≠0/\∀n,x*cf (aH u' e' b') n=y*cf (aH u e b) n:=by
  by_cases h0:e=0
  ·have h0':=hz.mp h0;refine⟨b,b',by omega,by omega,λn=>?_⟩;unfold aH;rw[if_pos h0,if_pos h0',vJ,vJ];split
   ·have:b*u'=u*b':=by omega
    grind
   ·split
    ·grind
    ·omega
  ·have h0':¬e'=0:=λz=>h0 (hz.mpr z)
   refine⟨b*b,b'*b',PP (by omega) (by omega),PP (by omega) (by omega),λn=>?_⟩;have k3:b*u'=u*b':=by omega
   unfold aH;rw[if_neg h0,if_neg h0']
   match n with
   |0 =>
    show b*b*(u'*u'-e')=b'*b'*(u*u-e);have:(b*u')*(b*u')=(u*b')*(u*b'):=by rw[k3]
    grind
   |1 =>
    show b*b*(-2*b'*u')=b'*b'*(-2*b*u);have:b*b'*(b*u')=b*b'*(u*b'):=by rw[k3]
    grind
   |2 =>show b*b*(b'*b')=b'*b'*(b*b);grind
   |n+3 =>show b*b*0=b'*b'*0;omega
 obtain⟨x,y,hx,hy,hp⟩:=prop;refine tV (fQ tr hne) (fQ tr' hne') ?_ ?_
 ·rw[Dv.plain tr'];refine Dv.prop_right hx hp ?_;obtain⟨g,hg,eg⟩:=ij tr;exact⟨1,[g],by decide,λn=>by rw[fC,<- eg];omega⟩
 ·rw[Dv.plain tr];refine Dv.prop_right (x:=y) (y:=x) hy (λn=>(hp n).symm) ?_;obtain⟨g,hg,eg⟩:=ij tr';exact⟨1,[g],by decide,λn=>by rw[fC,<- eg];omega⟩
def FacG(f:List Int):Prop:=∃u e b:Int,f=[u,e,b] /\ -1000000000<=u/\u<=1000000000 /\ -10000000000000000<=e/\e<=10000000000000000/\1<=b/\b<=1000/\NS e
theorem FacG.q{f:List Int}(h:FacG f):fJ f:=by obtain⟨u,e,b,rfl,_,_,_,_,h5,_⟩:=h;exact⟨u,e,b,rfl,h5⟩
def CB(l l':List Int):Prop:=∀A B D:Int,2^200<=D->B=A+128->inS l A B D->inS l' A B D->False
theorem qz{fs:List (List Int)}(hF:∀f∈fs,FacG f)(hn:(fs.map ag).Nodup):(aL fs).Pairwise CB:=by
 unfold aL;rw[List.pairwise_flatMap];constructor
 ·intro f hf;obtain⟨u,e,b,rfl,h1,h2,h3,h4,h5,h6,h7⟩:=hF f hf;have hd:spF [u,e,b]=(if 0<=e then[[u,e,b,1]]else[])++(if 0<e then[[u,e,b,-1]]else[]):=rfl;rw[hd];by_cases z:0<e
  ·rw[if_pos (by omega),if_pos z];show List.Pairwise _ [[u,e,b,1],[u,e,b,-1]];refine List.pairwise_pair.mpr λA B D hD hw a1 a2=>?_
   exact CL ⟨h1,h2,by omega,h4,h5,h6⟩ z hD hw a1 a2
  ·rw[if_neg z];split
   ·exact List.pairwise_singleton _ _
   ·exact List.Pairwise.nil
 ·rw[List.nodup_iff_pairwise_ne,List.pairwise_map]at hn;refine hn.imp_of_mem λ{f g} hf hg hne x hx y hy A B D hD hw a1 a2=>hne ?_
  obtain⟨u,e,b,rfl,h1,h2,h3,h4,h5,h6,h7⟩:=hF f hf;obtain⟨u',e',b',rfl,h1',h2',h3',h4',h5',h6',h7'⟩:=hF g hg;obtain⟨_,s,rfl,he,hs⟩:=qA rfl h5 hx;obtain⟨_,s',rfl,he',hs'⟩:=qA rfl h5' hy;have F1:Fsm u e b:=⟨h1,h2,he,h4,h5,h6⟩;have F2:Fsm u' e' b':=⟨h1',h2',he',h4',h5',h6'⟩;exact DR F1 F2 h7 h7' (HB F1 F2 hD (zF F1 hs hD hw a1) (zF F2 hs' hD hw a2))
theorem cX{fs:List (List Int)}(hF:∀f∈fs,fJ f){l:List Int}(hl:l∈aL fs):Spt l:=by obtain⟨f,hf,hm⟩:=QQ.mp hl;obtain⟨u,e,b,rfl,hb⟩:=hF f hf;exact(qA rfl hb hm).1
noncomputable def pv:List Int->Rat->Rat
 | [],_=>0
 |c::l,x=>(c:Rat)+x*pv l x
theorem zd:∀(N:Nat) (a b c:List Int) (u v:Int) (x:Rat),a.length<=N->b.length<=N->c.length<=N->(∀n,cf c n=u*cf a n+v*cf b n)->pv c x=(u:Rat)*pv a x+(v:Rat)*pv b x
 |0,a,b,c,u,v,x,ha,hb,hc,_=>by rw[Q4 (Nat.le_zero.mp ha),Q4 (Nat.le_zero.mp hb),Q4 (Nat.le_zero.mp hc)];show(0:Rat)=u*0+v*0;grind
 |N+1,a,b,c,u,v,x,ha,hb,hc,h=>by
  have key:∀l:List Int,l.length<=N+1->pv l x=(cf l 0:Rat)+x*pv l.tail x/\l.tail.length<=N/\∀n,cf l.tail n=cf l (n+1):=λl hl=>by
   cases l with
   |nil=>exact⟨by show(0:Rat)=((0:Int):Rat)+x*0;grind,Ps _,λn=>by rw[cH];rfl⟩
   |cons y l=>exact⟨rfl,by simpa using hl,λn=>rfl⟩
  obtain⟨a1,a2,a3⟩:=key a ha;obtain⟨b1,b2,b3⟩:=key b hb;obtain⟨c1,c2,c3⟩:=key c hc;have ih:=zd N a.tail b.tail c.tail u v x a2 b2 c2 λn=>by rw[a3,b3,c3,h]
  have h0:(cf c 0:Rat)=(u:Rat)*(cf a 0:Rat)+(v:Rat)*(cf b 0:Rat):=by rw[h 0,QH,Pp,Pp]
  rw[a1,b1,c1,ih,h0];grind
theorem oG{a b c:List Int}{u v:Int}(x:Rat)(h:∀n,cf c n=u*cf a n+v*cf b n):pv c x=(u:Rat)*pv a x+(v:Rat)*pv b x :=
 zd (a.length+b.length+c.length) a b c u v x (by omega) (by omega) (by omega) h
theorem fk{a c:List Int}{u:Int}(x:Rat)(h:∀n,cf c n=u*cf a n):pv c x=(u:Rat)*pv a x:=by
 have:=oG (a:=a) (b:=[]) (c:=c) (u:=u) (v:=0) x λn=>by rw[h n,PX,Qj]
 rw[this];show _+((0:Int):Rat)*0=_;grind
theorem oF(x:Rat):∀(a b c:List Int),(∀n,cf c n=aA a b n)->pv c x=pv a x*pv b x
 | [],b,c,h=>by
  have:=fk (a:=[]) (c:=c) (u:=0) x λn=>by rw[h n,dO];simp
  rw[this];show _=(0:Rat)*_;show((0:Int):Rat)*0=0*_;grind
 |y::a,b,c,h=>by
  have ih:=oF x a b (ad a b) (aN a b)
  have:=oG (a:=b) (b:=0::ad a b) (c:=c) (u:=y) (v:=1) x λn=>by
   rw[h n,d5,pX,P7]
   congr 1
   unfold up;split
   ·rfl
   ·rw[aN]
  rw[this];show(y:Rat)*pv b x+((1:Int):Rat)*(((0:Int):Rat)+x*pv (ad a b) x)=((y:Rat)+x*pv a x)*pv b x;rw[ih];grind
theorem da{a b:Rat}(ha:0<a)(hb:0<b):0<a/b:=by rw[Rat.div_def];exact PB ha (Rat.inv_pos.mpr hb)
noncomputable def Bd(M v:Rat):Prop := -M<=v/\v<=M
theorem Bd.mul{M N u v:Rat}(h1:Bd M u)(h2:Bd N v):Bd (M*N) (u*v):=by obtain⟨a,b⟩:=h1;obtain⟨c,d⟩:=h2;have p1:0<=(M-u)*(N-v):=PJ (by grind) (by grind);have p2:0<=(M+u)*(N+v):=PJ (by grind) (by grind);have p3:0<=(M-u)*(N+v):=PJ (by grind) (by grind);have p4:0<=(M+u)*(N-v):=PJ (by grind) (by grind);constructor<;>grind
theorem Bd.add{M N u v:Rat}(h1:Bd M u)(h2:Bd N v):Bd (M+N) (u+v):=by obtain⟨a,b⟩:=h1;obtain⟨c,d⟩:=h2;constructor<;>grind
theorem Bd.mono{M N u:Rat}(h1:Bd M u)(h:M<=N):Bd N u:=by obtain⟨a,b⟩:=h1;constructor<;>grind
def Nice(f:Rat->Rat):Prop:=∀R:Rat,0<=R->∃M:Rat,0<=M/\(∀x,Bd R x->Bd M (f x))/\∀x y,Bd R x->Bd R y->x<=y->Bd (M*(y-x)) (f y-f x)
theorem fz(c:Rat):Nice λ_=>c:=λR _=>by
 rcases P5 (a:=0) (b:=c)with h |h
 ·exact⟨c,h,λx _=>⟨by grind,by grind⟩,λx y _ _ hxy=>by
   have:=PJ h (show 0<=y-x by grind)
   exact⟨by grind,by grind⟩⟩
 ·exact⟨-c,by grind,λx _=>⟨by grind,by grind⟩,λx y _ _ hxy=>by
   have:=PJ (show 0 <= -c by grind) (show 0<=y-x by grind)
   exact⟨by grind,by grind⟩⟩
theorem nice_id:Nice λx=>x:=λR hR=>by refine⟨R+1,by grind,λx h=>h.mono (by grind),λx y _ _ hxy=>?_⟩;have:=PJ hR (show 0<=y-x by grind);exact⟨by grind,by grind⟩
theorem Nice.add{f g:Rat->Rat}(hf:Nice f)(hg:Nice g):Nice λx=>f x+g x:=λR hR=>by
 obtain⟨M,m0,m1,m2⟩:=hf R hR;obtain⟨N,n0,n1,n2⟩:=hg R hR;refine⟨M+N,by grind,λx h=>(m1 x h).add (n1 x h),λx y hx hy hxy=>?_⟩;have:=(m2 x y hx hy hxy).add (n2 x y hx hy hxy);have e1:M*(y-x)+N*(y-x)=(M+N)*(y-x):=by grind
 have e2:f y-f x+(g y-g x)=f y+g y-(f x+g x):=by grind
 rwa [e1,e2]at this
theorem Nice.mul{f g:Rat->Rat}(hf:Nice f)(hg:Nice g):Nice λx=>f x*g x:=λR hR=>by
 obtain⟨M,m0,m1,m2⟩:=hf R hR;obtain⟨N,n0,n1,n2⟩:=hg R hR;have p:=PJ m0 n0;refine⟨2*(M*N),by grind,λx h=>((m1 x h).mul (n1 x h)).mono (by grind),λx y hx hy hxy=>?_⟩;have:=((m2 x y hx hy hxy).mul (n1 y hy)).add ((m1 x hx).mul (n2 x y hx hy hxy));have e1:M*(y-x)*N+M*(N*(y-x))=2*(M*N)*(y-x):=by grind
 have e2:(f y-f x)*g y+f x*(g y-g x)=f y*g y-f x*g x:=by grind
 rwa [e1,e2]at this
theorem c7:∀l:List Int,Nice (pv l)
 | []=>fz 0
 |c::l=>(fz (c:Rat)).add (nice_id.mul (c7 l))
theorem tR:∀(l:List Int) (R:Rat),0<=R->∃M:Rat,0<=M/\∀x y,Bd R x->Bd R y->x<=y->Bd (M*((y-x)*(y-x))) (pv l y-pv l x-(y-x)*pv (slopeL l) x)
 | [],R,_=>⟨0,by grind,λx y _ _ _=>by
  have e:pv [] y-pv [] x-(y-x)*pv (slopeL []) x=0:=by show(0:Rat)-0-(y-x)*0=0;grind
  rw[e];constructor<;>grind⟩
 |c::l,R,hR=>by
  obtain⟨M,m0,m1⟩:=tR l R hR;obtain⟨N,n0,n1,n2⟩:=c7 l R hR;have p:=PJ hR m0;refine⟨N+R*M,by grind,λx y hx hy hxy=>?_⟩
  have hd:pv (slopeL (c::l)) x=pv l x+x*pv (slopeL l) x:=by
   have:=oG (a:=l) (b:=0::slopeL l) (c:=slopeL (c::l)) (u:=1) (v:=1) x λn=>yG c l n
   rw[this];show((1:Int):Rat)*pv l x+((1:Int):Rat)*(((0:Int):Rat)+x*pv (slopeL l) x)=_;grind
  have hz:Bd (y-x) (y-x):=⟨by grind,by grind⟩;have:=(hz.mul (n2 x y hx hy hxy)).add (hx.mul (m1 x y hx hy hxy));have e1:(y-x)*(N*(y-x))+R*(M*((y-x)*(y-x)))=(N+R*M)*((y-x)*(y-x)):=by grind
  have e2:(y-x)*(pv l y-pv l x)+x*(pv l y-pv l x-(y-x)*pv (slopeL l) x)=pv (c::l) y-pv (c::l) x-(y-x)*pv (slopeL (c::l)) x:=by rw[hd];show _=((c:Rat)+y*pv l y)-((c:Rat)+x*pv l x)-_;grind
  rwa [e1,e2]at this
noncomputable def sgR(v:Rat):Int:=if v<0 then -1 else if 0<v then 1 else 0
theorem bH(v:Rat):(v<0/\sgR v = -1)\/(v=0/\sgR v=0)\/(0<v/\sgR v=1):=by
 unfold sgR;by_cases h:v<0
 ·exact .inl ⟨h,by rw[if_pos h]⟩
 ·by_cases h2:0<v
  ·exact .inr (.inr ⟨h2,by rw[if_neg h,if_pos h2]⟩)
  ·exact .inr (.inl ⟨by grind,by rw[if_neg h,if_neg h2]⟩)
def Sta(f:Rat->Rat)(x y:Rat):Prop:=sgR (f x)=sgR (f y)/\sgR (f x)≠0
theorem uj{f:Rat->Rat}{x y D:Rat}(h:¬Sta f x y)(hd:Bd D (f y-f x)):Bd D (f x)/\Bd D (f y):=by
 obtain⟨d1,d2⟩:=hd
 have key:(f x<=0/\0<=f y)\/(0<=f x/\f y<=0):=by
  rcases bH (f x)with⟨a,b⟩ |⟨a,b⟩ |⟨a,b⟩<;>rcases bH (f y)with⟨c,d⟩ |⟨c,d⟩ |⟨c,d⟩
  ·exact absurd ⟨by rw[b,d],by rw[b];decide⟩ h
  ·exact .inl ⟨by grind,by grind⟩
  ·exact .inl ⟨by grind,by grind⟩
  ·exact .inr ⟨by grind,by grind⟩
  ·exact .inl ⟨by grind,by grind⟩
  ·exact .inl ⟨by grind,by grind⟩
  ·exact .inr ⟨by grind,by grind⟩
  ·exact .inr ⟨by grind,by grind⟩
  ·exact absurd ⟨by rw[b,d],by rw[b];decide⟩ h
 rcases key with⟨a,b⟩ |⟨a,b⟩
 ·exact⟨⟨by grind,by grind⟩,⟨by grind,by grind⟩⟩
 ·exact⟨⟨by grind,by grind⟩,⟨by grind,by grind⟩⟩
inductive SRow:List (List Int)->Prop
 |last {c:Int} (h:c≠0):SRow [[c]]
 |two {a:List Int} {c:Int} (h:c≠0):SRow [a,[c]]
 |cons {a b c:List Int} {r:List (List Int)} {q:List Int} {α β:Rat} (hα:0<α) (hβ:0<β) (e:∀x,α*pv a x=pv q x*pv b x-β*pv c x) (h:SRow (b::c::r)):SRow (a::b::c::r)
theorem tT(c:Int)(x:Rat):pv [c] x=(c:Rat):=by show(c:Rat)+x*0=c;grind
theorem bez:∀{row:List (List Int)},SRow row->∀a b r,row=a::b::r->∃(A B:Rat->Rat) (k:Rat),Nice A/\Nice B/\k≠0/\∀x,A x*pv a x+B x*pv b x=k
 |_,.last h,a,b,r,e=>by cases e
 |_,.two (c:=c) h,a,b,r,e=>by cases e;refine⟨λ_=>0,λ_=>1,(c:Rat),fz 0,fz 1,λz=>h (Rs.mp (by rw[z];rfl)),λx=>?_⟩;rw[tT];grind
 |_,.cons (a:=a0) (b:=b0) (c:=c) (q:=q) (α:=α) (β:=β) hα hβ eq h,a,b,r,e=>by
  cases e;obtain⟨A,B,k,nA,nB,hk,hAB⟩:=bez h _ _ _ rfl;refine⟨λx=>(-α)*B x,λx=>β*A x+B x*pv q x,β*k,(fz (-α)).mul nB,((fz β).mul nA).add (nB.mul (c7 q)),λz=>?_,λx=>?_⟩
  ·rcases RI.mp z with y |y
   ·grind
   ·exact hk y
  ·have h1:=hAB x;have h2:=eq x;have:(-α)*B x*pv a0 x+(β*A x+B x*pv q x)*pv b0 x=B x*(pv q x*pv b0 x-α*pv a0 x)+β*A x*pv b0 x:=by grind
   rw[this,h2];have:B x*(pv q x*pv b0 x-(pv q x*pv b0 x-β*pv c x))+β*A x*pv b0 x=β*(A x*pv b0 x+B x*pv c x):=by grind
   rw[this,h1]
theorem ud{a b:Rat->Rat}(na:Nice a)(nb:Nice b){A B:Rat->Rat}{k:Rat}(nA:Nice A)(nB:Nice B)(hk:0<k)(hAB:∀x,A x*a x+B x*b x=k\/A x*a x+B x*b x = -k){R:Rat}(hR:0<=R) :
 ∃(δ κ:Rat),0<δ/\0<κ/\∀x y,Bd R x->Bd R y->x<y->y-x<=δ->¬Sta a x y->Sta b x y/\(κ<=b x\/b x <= -κ)/\(κ<=b y\/b y <= -κ):=by
 obtain⟨M1,p1,q1,r1⟩:=na R hR;obtain⟨M2,p2,q2,r2⟩:=nb R hR;obtain⟨M3,p3,q3,_⟩:=nA R hR;obtain⟨M4,p4,q4,_⟩:=nB R hR;have h31:=PJ p3 p1;have h42:=PJ p4 p2;have hT:0<2*(M3*M1+M4*M2+1):=by grind
 have hT4:0<2*(M4+1):=by grind
 refine⟨k/(2*(M3*M1+M4*M2+1)),k/(2*(M4+1)),da hk hT,da hk hT4,λx y hx hy hxy hd hs=>?_⟩
 have hd':(y-x)*(2*(M3*M1+M4*M2+1))<=k:=by
  have:=PD hd (Pm hT)
  rwa [PK (by grind)]at this
 have hyx:0<y-x:=by grind
 obtain⟨a1,a2⟩:=uj hs (r1 x y hx hy (by grind));have hM1:0<=M1*(y-x):=PJ p1 (Pm hyx)
 have far:∀z,Bd R z->Bd (M1*(y-x)) (a z)->k/(2*(M4+1))<=b z\/b z <= -(k/(2*(M4+1))):=λz hz ha=>by
  have e1:=(q3 z hz).mul ha
  have e2:2*(M3*(M1*(y-x)))<=k:=by have h1:=PJ h42 (Pm hyx);grind
  have hB:(k<=2*(B z*b z))\/(2*(B z*b z) <= -k):=by
   obtain⟨f1,f2⟩:=e1;rcases hAB z with g |g
   ·left;grind
   ·right;grind
  rcases P5 (a:=k/(2*(M4+1))) (b:=b z)with g |g
  ·exact .inl g
  ·rcases P5 (a:=b z) (b := -(k/(2*(M4+1))))with g2 |g2
   ·exact .inr g2
   ·exfalso;have hb:Bd (k/(2*(M4+1))) (b z):=⟨g2,g⟩;obtain⟨f1,f2⟩:=(q4 z hz).mul hb
    have e3:2*(M4*(k/(2*(M4+1))))<k:=by
     have e4:k/(2*(M4+1))*(2*(M4+1))=k:=PK (by grind);have e5:=da hk hT4;generalize k/(2*(M4+1))=w at *
     grind
    rcases hB with g3 |g3<;>grind
 refine⟨Classical.byContradiction λhs2=>?_,far x hx a1,far y hy a2⟩;obtain⟨b1,b2⟩:=uj hs2 (r2 x y hx hy (by grind));obtain⟨e1,e2⟩:=(q3 x hx).mul a1;obtain⟨e3,e4⟩:=(q4 x hx).mul b1;have hM:0<=(M3*M1+M4*M2)*(y-x):=PJ (by grind) (Pm hyx);have e5:M3*(M1*(y-x))+M4*(M2*(y-x))=(M3*M1+M4*M2)*(y-x):=by grind
 have e6:(y-x)*(2*(M3*M1+M4*M2+1))=2*((M3*M1+M4*M2)*(y-x))+2*(y-x):=by grind
 rcases hAB x with g |g<;>grind
theorem p8{row:List (List Int)}(h:SRow row){a b:List Int}{r:List (List Int)}(e:row=a::b::r):∃(A B:Rat->Rat) (k:Rat),Nice A/\Nice B/\0<k/\∀x,A x*pv a x+B x*pv b x=k\/A x*pv a x+B x*pv b x = -k:=by
 obtain⟨A,B,k,nA,nB,hk,hAB⟩:=bez h a b r e;rcases P5 (a:=0) (b:=k)with g |g
 ·exact⟨A,B,k,nA,nB,by grind,λx=>.inl (hAB x)⟩
 ·exact⟨A,B,-k,nA,nB,by grind,λx=>.inr (by rw[hAB x];grind)⟩
noncomputable def vr:Int->List Int->Int
 |_,[]=>0
 |b,s::r=>(if s*b<0 then 1 else 0)+vr (if s=0 then b else s) r
theorem BS:∀(l:List Int) (n b:Int),l.foldl chF (n,b)=(n+vr b l,(l.foldl chF (n,b)).2)
 | [],n,b=>by show(n,b)=(n+0,b);rw[Qj]
 |s::r,n,b=>by
  show r.foldl chF (chF (n,b) s)=(n+((if s*b<0 then 1 else 0)+vr (if s=0 then b else s) r),(r.foldl chF (chF (n,b) s)).2)
  have e:chF (n,b) s=(n+(if s*b<0 then 1 else 0),if s=0 then b else s):=by
   unfold chF;by_cases h:s*b<0
   ·rw[if_pos h,if_pos h]
   ·rw[if_neg h,if_neg h,Qj]
  rw[e];have:=BS r (n+(if s*b<0 then 1 else 0)) (if s=0 then b else s);rw[Int.add_assoc]at this;exact this
theorem pU(l:List Int):(chS l).1=vr 0 l:=by unfold chS;rw[BS l 0 0];show 0+vr 0 l=_;omega
def iG(s:Int):Prop:=s=1\/s=0\/s = -1
inductive Al:Int->List Int->List Int->Prop
 |nil {b:Int}:Al b [] []
 |stab {b s:Int} {r r':List Int} (h:s≠0) (t:Al s r r'):Al b (s::r) (s::r')
 |unst {b s s':Int} {r r':List Int} (h1:iG s) (h2:iG s') (t:Al (-b) r r'):Al b (s :: -b::r) (s' :: -b::r')
theorem qo{b s:Int}(hb:b=1\/b = -1)(hs:iG s)(r:List Int):vr b (s :: -b::r)=1+vr (-b) r:=by
 have hb0:¬(-b=0):=by omega
 rcases hs with rfl |rfl |rfl
 ·rcases hb with rfl |rfl<;>simp[vr]
 ·rcases hb with rfl |rfl<;>simp[vr]
 ·rcases hb with rfl |rfl<;>simp[vr]
theorem Al.vr:∀{b:Int} {r r':List Int},Al b r r'->(b=1\/b = -1)->(∀s∈r,iG s)->RM.vr b r=RM.vr b r'
 |_,_,_,.nil,_,_=>rfl
 |b,_,_,.stab (s:=s) (r:=r) (r':=r') h t,hb,hu=>by
  have hs:iG s:=hu s (PH ..);have hs':s=1\/s = -1:=by rcases hs with z |z |z;exact .inl z;exact absurd z h;exact .inr z
  have ih:=Al.vr t hs' λx hx=>hu x (Pz _ hx)
  show _+RM.vr (if s=0 then b else s) r=_+RM.vr (if s=0 then b else s) r';rw[if_neg h,ih]
 |b,_,_,.unst h1 h2 t,hb,hu=>by
  have ih:=Al.vr t (by omega) λx hx=>hu x (Pz _ (Pz _ hx))
  rw[qo hb h1,qo hb h2,ih]
noncomputable def sgX(row:List (List Int))(x:Rat):List Int:=row.map λf=>sgR (pv f x)
theorem iQ(v:Rat):iG (sgR v):=by
 rcases bH v with⟨_,h⟩ |⟨_,h⟩ |⟨_,h⟩<;>rw[h]
 ·exact .inr (.inr rfl)
 ·exact .inr (.inl rfl)
 ·exact .inl rfl
theorem ox(row:List (List Int))(x:Rat):∀s∈sgX row x,iG s:=λs hs=>by obtain⟨f,_,rfl⟩:=PF.mp hs;exact iQ _
def Cs(row:List (List Int))(R:Rat):Prop:=∃δ:Rat,0<δ/\∀x y,Bd R x->Bd R y->x<y->y-x<=δ->∀a r,row=a::r->Sta (pv a) x y->Al (sgR (pv a x)) (sgX r x) (sgX r y)
theorem D0{c:Int}(h:c≠0):sgR (c:Rat)≠0:=by
 rcases bH (c:Rat)with⟨_,e⟩ |⟨z,_⟩ |⟨_,e⟩
 ·rw[e];decide
 ·exact absurd (Rs.mp (by rw[z];rfl)) h
 ·rw[e];decide
theorem uH:∀{row:List (List Int)},SRow row->∀R:Rat,0<=R->Cs row R/\Cs row.tail R
 |_,.last h,R,_=>⟨⟨1,by grind,λx y _ _ _ _ a r e _=>by cases e;exact .nil⟩,⟨1,by grind,λx y _ _ _ _ a r e _=>by cases e⟩⟩
 |_,.two (c:=c) h,R,_=>by refine⟨⟨1,by grind,λx y _ _ _ _ a r e _=>?_⟩,⟨1,by grind,λx y _ _ _ _ a r e _=>by cases e;exact .nil⟩⟩;cases e;show Al _ [sgR (pv [c] x)] [sgR (pv [c] y)];rw[tT,tT];exact .stab (D0 h) .nil
 |_,.cons (a:=a) (b:=b) (c:=c) (r:=r) (q:=q) (α:=α) (β:=β) hα hβ eq h,R,hR=>by
  obtain⟨⟨δ1,d1,l1⟩,⟨δ2,d2,l2⟩⟩:=uH h R hR;refine⟨?_,⟨δ1,d1,l1⟩⟩;obtain⟨A,B,k,nA,nB,hk,hAB⟩:=p8 h rfl;obtain⟨δ3,κ,d3,hκ,l3⟩:=ud (c7 b) (c7 c) nA nB hk hAB hR;obtain⟨M,m0,m1,m2⟩:=c7 b R hR;obtain⟨N,n0,n1,_⟩:=c7 q R hR;have hMN:=PJ n0 m0;have hT:0<N*M+1:=by grind
  have hβκ:=PB hβ hκ
  obtain⟨δ,hδ,g1,g2,g3,g4⟩:∃δ:Rat,0<δ/\δ<=δ1/\δ<=δ2/\δ<=δ3/\δ*(N*M+1)<=β*κ:=by
   have hw:=da hβκ hT;have hw2:β*κ/(N*M+1)*(N*M+1)=β*κ:=PK (by grind)
   have two:∀u v:Rat,0<u->0<v->∃w:Rat,0<w/\w<=u/\w<=v:=λu v hu hv=>by
    rcases P5 (a:=u) (b:=v)with z |z
    ·exact⟨u,hu,Py,z⟩
    ·exact⟨v,hv,z,Py⟩
   obtain⟨u,hu,u1,u2⟩:=two δ1 δ2 d1 d2;obtain⟨v,hv,v1,v2⟩:=two u δ3 hu d3;obtain⟨w,hw',w1,w2⟩:=two v _ hv hw;refine⟨w,hw',by grind,by grind,by grind,?_⟩;have:=PD w2 (Pm hT)
   rwa [hw2]at this
  refine⟨δ,hδ,λx y hx hy hxy hd a' r' e sa=>?_⟩;cases e;show Al (sgR (pv a x)) (sgR (pv b x)::sgX (c::r) x) (sgR (pv b y)::sgX (c::r) y);by_cases sb:Sta (pv b) x y
  ·have t:=l1 x y hx hy hxy (by grind) b (c::r) rfl sb;rw[<- sb.1];exact .stab sb.2 t
  ·obtain⟨sc,c1,c2⟩:=l3 x y hx hy hxy (by grind) sb;obtain⟨b1,_⟩:=uj sb (m2 x y hx hy (by grind));have hyx:0<y-x:=by grind
   have hop:sgR (pv c x) = -sgR (pv a x):=by
    obtain⟨f1,f2⟩:=(n1 x hx).mul b1;have e1:=eq x
    have e2:N*(M*(y-x))<β*κ:=by have h1:(y-x)*(N*M+1)<=δ*(N*M+1):=PD hd (Pm hT);grind
    rcases c1 with z |z
    ·have h2:β*κ<=β*pv c x:=Px z (Pm hβ);have h3:α*pv a x<0:=by grind
     have h4:pv a x<0:=by
      rcases P5 (a:=0) (b:=pv a x)with w |w
      ·have:=PJ (Pm hα) w;grind
      ·rcases bH (pv a x)with⟨w2,_⟩ |⟨w2,_⟩ |⟨w2,_⟩
       ·exact w2
       ·rw[w2]at h3;grind
       ·grind
     rcases bH (pv c x)with⟨w,_⟩ |⟨w,_⟩ |⟨_,w⟩
     ·grind
     ·grind
     ·rcases bH (pv a x)with⟨_,v⟩ |⟨v,_⟩ |⟨v,_⟩
      ·rw[w,v];decide
      ·grind
      ·grind
    ·have h2:β*pv c x<=β*(-κ):=Px z (Pm hβ);have h3:0<α*pv a x:=by grind
     have h4:0<pv a x:=by
      rcases bH (pv a x)with⟨w2,_⟩ |⟨w2,_⟩ |⟨w2,_⟩
      ·have:=PJ (Pm hα) (show 0 <= -pv a x by grind);grind
      ·rw[w2]at h3;grind
      ·exact w2
     rcases bH (pv c x)with⟨_,w⟩ |⟨w,_⟩ |⟨w,_⟩
     ·rcases bH (pv a x)with⟨v,_⟩ |⟨v,_⟩ |⟨_,v⟩
      ·grind
      ·grind
      ·rw[w,v]
     ·grind
     ·grind
   have hop':sgR (pv c y) = -sgR (pv a x):=by rw[<- sc.1];exact hop
   have t:Al (sgR (pv c x)) (sgX r x) (sgX r y):=l2 x y hx hy hxy (by grind) c r rfl sc;rw[hop]at t;show Al _ (_::sgR (pv c x)::sgX r x) (_::sgR (pv c y)::sgX r y);rw[hop,hop'];exact .unst (iQ _) (iQ _) t
noncomputable def chg(f:Rat->Rat)(x y:Rat):Int:=if sgR (f x)≠0/\sgR (f y)≠sgR (f x)then 1 else 0
noncomputable def vrs(row:List (List Int))(x:Rat):Int:=vr 0 (sgX row x)
theorem hI{s:Int}(r:List Int):vr 0 (s::r)=vr s r:=by
 show(if s*0<0 then 1 else 0)+vr (if s=0 then 0 else s) r=_;rw[PN,if_neg (by decide),Qt];split
 ·rename_i h;rw[h]
 ·rfl
theorem DA{F0 F1:List Int}{r:List (List Int)}(h:SRow (F0::F1::r)){γ:Rat}(hγ:0<γ)(hd:∀x,pv (slopeL F0) x=γ*pv F1 x){R:Rat}(hR:0<=R) :
 ∃δ:Rat,0<δ/\∀x y,Bd R x->Bd R y->x<y->y-x<=δ->vrs (F0::F1::r) x-vrs (F0::F1::r) y=chg (pv F0) x y:=by
 obtain⟨⟨δ1,d1,l1⟩,⟨δ2,d2,l2⟩⟩:=uH h R hR;obtain⟨A,B,k,nA,nB,hk,hAB⟩:=p8 h rfl;obtain⟨δ3,κ,d3,hκ,l3⟩:=ud (c7 F0) (c7 F1) nA nB hk hAB hR;obtain⟨M,m0,m1⟩:=tR F0 R hR;have hγκ:=PB hγ hκ
 obtain⟨δ,hδ,g1,g2,g3,g4⟩:∃δ:Rat,0<δ/\δ<=δ1/\δ<=δ2/\δ<=δ3/\δ*(M+1)<=γ*κ:=by
  have hT:0<M+1:=by grind
  have hw:=da hγκ hT;have hw2:γ*κ/(M+1)*(M+1)=γ*κ:=PK (by grind)
  have two:∀u v:Rat,0<u->0<v->∃w:Rat,0<w/\w<=u/\w<=v:=λu v hu hv=>by
   rcases P5 (a:=u) (b:=v)with z |z
   ·exact⟨u,hu,Py,z⟩
   ·exact⟨v,hv,z,Py⟩
  obtain⟨u,hu,u1,u2⟩:=two δ1 δ2 d1 d2;obtain⟨v,hv,v1,v2⟩:=two u δ3 hu d3;obtain⟨w,hw',w1,w2⟩:=two v _ hv hw;refine⟨w,hw',by grind,by grind,by grind,?_⟩;have:=PD w2 (Pm hT)
  rwa [hw2]at this
 refine⟨δ,hδ,λx y hx hy hxy hyd=>?_⟩;have e0:∀z,vrs (F0::F1::r) z=vr (sgR (pv F0 z)) (sgX (F1::r) z):=λz=>hI _
 have nz:∀{v:Rat},sgR v≠0->sgR v=1\/sgR v = -1:=λ{v} hv=>by rcases iQ v with z |z |z;exact .inl z;exact absurd z hv;exact .inr z
 rw[e0,e0];by_cases s0:Sta (pv F0) x y
 ·have t:=(l1 x y hx hy hxy (by grind) F0 (F1::r) rfl s0).vr (nz s0.2) (ox _ _);rw[<- s0.1,t];unfold chg;rw[if_neg (λz=>z.2 s0.1.symm)];omega
 ·obtain⟨s1,c1,c2⟩:=l3 x y hx hy hxy (by grind) s0;have t:=(l2 x y hx hy hxy (by grind) F1 r rfl s1).vr (nz s1.2) (ox _ _);have hyx:0<y-x:=by grind
  have hyy:0<(y-x)*(y-x):=PB hyx hyx;obtain⟨f1,f2⟩:=m1 x y hx hy (by grind)
  have small:M*((y-x)*(y-x))<(y-x)*(γ*κ):=by
   have h1:(y-x)*(M+1)<=γ*κ:=by have:=PD hyd (show 0<=M+1 by grind);grind
   have h2:(y-x)*((y-x)*(M+1))<=(y-x)*(γ*κ):=Px h1 (Pm hyx);grind
  rw[hd]at f1 f2;show vr (sgR (pv F0 x)) (sgR (pv F1 x)::sgX r x)-vr (sgR (pv F0 y)) (sgR (pv F1 y)::sgX r y)=_
  have hu:∀(b s:Int) (l:List Int),s≠0->vr b (s::l)=(if s*b<0 then 1 else 0)+vr s l:=λb s l hs=>by show _+vr (if s=0 then b else s) l=_;rw[if_neg hs]
  have s1':sgR (pv F1 y)=sgR (pv F1 x):=s1.1.symm;rw[s1',hu _ _ _ s1.2,hu _ _ _ s1.2,t];unfold chg;rcases c1 with z |z
  ·
   have h1:γ*κ<=γ*pv F1 x:=Px z (Pm hγ);have h2:(y-x)*(γ*κ)<=(y-x)*(γ*pv F1 x):=Px h1 (Pm hyx);have rise:pv F0 x<pv F0 y:=by grind
   have s1p:sgR (pv F1 x)=1:=by
    rcases bH (pv F1 x)with⟨w,_⟩ |⟨w,_⟩ |⟨_,w⟩
    ·grind
    ·grind
    ·exact w
   rw[s1p];rcases bH (pv F0 x)with⟨a1,a2⟩ |⟨a1,a2⟩ |⟨a1,a2⟩<;>rcases bH (pv F0 y)with⟨b1,b2⟩ |⟨b1,b2⟩ |⟨b1,b2⟩
   ·exact absurd ⟨by rw[a2,b2],by rw[a2];decide⟩ s0
   ·rw[a2,b2];simp
   ·rw[a2,b2];simp
   ·grind
   ·grind
   ·rw[a2,b2];simp
   ·grind
   ·grind
   ·exact absurd ⟨by rw[a2,b2],by rw[a2];decide⟩ s0
  ·have h1:γ*pv F1 x<=γ*(-κ):=Px z (Pm hγ);have h2:(y-x)*(γ*pv F1 x)<=(y-x)*(γ*(-κ)):=Px h1 (Pm hyx);have fall:pv F0 y<pv F0 x:=by grind
   have s1p:sgR (pv F1 x) = -1:=by
    rcases bH (pv F1 x)with⟨_,w⟩ |⟨w,_⟩ |⟨w,_⟩
    ·exact w
    ·grind
    ·grind
   rw[s1p];rcases bH (pv F0 x)with⟨a1,a2⟩ |⟨a1,a2⟩ |⟨a1,a2⟩<;>rcases bH (pv F0 y)with⟨b1,b2⟩ |⟨b1,b2⟩ |⟨b1,b2⟩
   ·exact absurd ⟨by rw[a2,b2],by rw[a2];decide⟩ s0
   ·grind
   ·grind
   ·rw[a2,b2];simp
   ·grind
   ·grind
   ·rw[a2,b2];simp
   ·rw[a2,b2];simp
   ·exact absurd ⟨by rw[a2,b2],by rw[a2];decide⟩ s0
structure Cut(s:Rat->Int):Prop where
 u:∀x,iG (s x)
 m:∀x y,x<y->s x<=0->s y = -1
noncomputable def cnt(S:List (Rat->Int))(x y:Rat):Int:=(S.map λs=>if 0<s x/\s y<=0 then(1:Int)else 0).sum
theorem BK(x y:Rat):cnt [] x y=0:=rfl
theorem fH(s:Rat->Int)(S:List (Rat->Int))(x y:Rat):cnt (s::S) x y=(if 0<s x/\s y<=0 then 1 else 0)+cnt S x y:=by unfold cnt;rw[Qp,List.sum_cons]
theorem vI{x y z:Rat}(hxy:x<y)(hyz:y<z):∀{S:List (Rat->Int)},(∀s∈S,Cut s)->cnt S x z=cnt S x y+cnt S y z
 | [],_=>rfl
 |s::S,h=>by
  have hs:=h s (PH ..);have ih:=vI hxy hyz (S:=S) λt ht=>h t (Pz _ ht)
  rw[fH,fH,fH,ih]
  have e:(if 0<s x/\s z<=0 then(1:Int)else 0)=(if 0<s x/\s y<=0 then 1 else 0)+(if 0<s y/\s z<=0 then 1 else 0):=by
   by_cases hy:s y<=0
   ·have hz:=hs.m y z hyz hy;rw[if_neg (show ¬(0<s y/\s z<=0) by omega)];by_cases hx:0<s x
    ·rw[if_pos ⟨hx,by omega⟩,if_pos ⟨hx,hy⟩];rfl
    ·rw[if_neg (by omega),if_neg (by omega)];rfl
   ·have hx:0<s x:=by
     rcases QB 0 (s x)with q |q
     ·exact q
     ·have:=hs.m x y hxy q;omega
    rw[if_neg (show ¬(0<s x/\s y<=0) by omega)];by_cases hz:s z<=0
    ·rw[if_pos ⟨hx,hz⟩,if_pos ⟨by omega,hz⟩];rfl
    ·rw[if_neg (by omega),if_neg (by omega)];rfl
  rw[e];omega
noncomputable def cpr(x:Rat):List (Rat->Int)->Int
 | []=>1
 |s::S => -s x*cpr x S
theorem pT(x:Rat):∀a b,cpr x (a++b)=cpr x a*cpr x b
 | [],b=>by show _=1*_;rw[P7];rfl
 |s::a,b=>by show _*cpr x (a++b)=_*_*_;rw[pT x a b,PR]
def inC(s:Rat->Int)(x y:Rat):Prop:=0<=s x/\s y<=0
theorem IW{s:Rat->Int}(h:Cut s){x y:Rat}(hxy:x<y)(hn:¬inC s x y):s x=s y/\(s x=1\/s x = -1):=by
 have h1:=h.u x;have h2:=h.u y;unfold inC at hn
 by_cases hx:s x<=0
 ·have:=h.m x y hxy hx;rcases h1 with a |a |a<;>omega
 ·rcases h1 with a |a |a
  ·rcases h2 with b |b |b<;>omega
  ·omega
  ·omega
theorem uN{x y:Rat}(hxy:x<y):∀{S:List (Rat->Int)},(∀s∈S,Cut s)->(∀s∈S,¬inC s x y)->cpr x S=cpr y S/\(cpr x S=1\/cpr x S = -1)/\cnt S x y=0
 | [],_,_=>⟨rfl,.inl rfl,rfl⟩
 |s::S,h,hn=>by
  obtain⟨i1,i2,i3⟩:=uN hxy (S:=S) (λt ht=>h t (Pz _ ht)) λt ht=>hn t (Pz _ ht)
  obtain⟨a1,a2⟩:=IW (h s (PH ..)) hxy (hn s (PH ..));refine⟨by show -s x*cpr x S = -s y*cpr y S;rw[a1,i1],?_,?_⟩
  ·show -s x*cpr x S=1 \/ -s x*cpr x S = -1;rcases a2 with z |z<;>rcases i2 with w |w<;>rw[z,w]<;>decide
  ·rw[fH,i3,if_neg (by omega)];rfl
theorem vH(x y:Rat):∀a b,cnt (a++b) x y=cnt a x y+cnt b x y
 | [],b=>by rw[BK];simp
 |s::a,b=>by rw[List.cons_append,fH,fH,vH x y a b];omega
theorem BR{f:Rat->Rat}{S:List (Rat->Int)}{ε:Int}(hε:ε=1\/ε = -1)(hS:∀s∈S,Cut s){x y:Rat}(hxy:x<y)(hx:sgR (f x)=ε*cpr x S)(hy:sgR (f y)=ε*cpr y S)(hp:S.Pairwise λs t=>¬(inC s x y/\inC t x y)):chg f x y=cnt S x y:=by
 by_cases hall:∀s∈S,¬inC s x y
 ·obtain⟨k1,k2,k3⟩:=uN hxy hS hall;rw[k3];unfold chg;rw[if_neg];rintro⟨_,h2⟩;exact h2 (by rw[hx,hy,k1])
 ·obtain⟨s,hs,hin⟩:∃s,s∈S/\inC s x y:=by refine Classical.byContradiction λz=>hall λs hs hi=>z ⟨s,hs,hi⟩
  obtain⟨pre,post,rfl⟩:=Rt hs
  have hno:∀t∈pre++post,¬inC t x y:=λt ht hi=>by
   rw[List.pairwise_append]at hp;rcases PV.mp ht with z |z
   ·exact hp.2.2 t z s (PH ..) ⟨hi,hin⟩
   ·exact(List.pairwise_cons.mp hp.2.1).1 t z ⟨hin,hi⟩
  have hS':∀t∈pre++post,Cut t:=λt ht=>hS t (by
   rcases PV.mp ht with z |z
   ·exact QI _ z
   ·exact Qm _ (Pz _ z))
  obtain⟨k1,k2,k3⟩:=uN hxy hS' hno;have hc:=hS s hs
  have e1:∀z,cpr z (pre++s::post)=cpr z (pre++post) * -s z:=λz=>by rw[pT,pT];show cpr z pre*(-s z*cpr z post)=_;rw[PQ (-s z),PR]
  have e2:cnt (pre++s::post) x y=(if 0<s x/\s y<=0 then 1 else 0):=by rw[vH,fH];rw[vH]at k3;omega
  rw[e1]at hx hy;rw[<- k1]at hy;rw[e2];unfold inC at hin
  have h1:=hc.u x;have h2:=hc.u y;unfold chg;rw[hx,hy];generalize cpr x (pre++post)=c at *
  have hs0:s x=0->s y = -1:=λz=>hc.m x y hxy (by omega)
  rcases h1 with a |a |a
  ·rw[a];rcases h2 with b |b |b
   ·omega
   ·rw[b];rcases hε with rfl |rfl<;>rcases k2 with rfl |rfl<;>simp
   ·rw[b];rcases hε with rfl |rfl<;>rcases k2 with rfl |rfl<;>simp
  ·rw[a];simp
  ·omega
theorem Co(q:Rat):∃n:Nat,q<=(n:Rat):=by refine⟨q.ceil.toNat,Q6 (Rat.le_ceil (x:=q)) ?_⟩;have h:q.ceil<=(q.ceil.toNat:Int):=Int.self_le_toNat _;have h2:=QC.mpr h;exact h2
theorem zJ(n:Nat):(n:Rat)<=2^n:=by
 induction n with
 |zero=>decide
 |succ n ih =>
  have h1:((1:Nat):Rat)<=2^n:=by
   have:(1:Nat)<=2^n:=QM (by decide);have h2:((1:Nat):Rat)<=((2^n:Nat):Rat):=Rat.natCast_le_natCast.mpr this
   rwa [Rat.natCast_pow]at h2
  rw[Ru,Rat.natCast_add];grind
theorem vN{V:Rat->Int}{S:List (Rat->Int)}(hS:∀s∈S,Cut s){R δ:Rat}(hδ:0<δ)(h:∀x y,Bd R x->Bd R y->x<y->y-x<=δ->V x-V y=cnt S x y):∀(n:Nat) (x y:Rat),Bd R x->Bd R y->x<y->y-x<=2^n*δ->V x-V y=cnt S x y
 |0,x,y,hx,hy,hxy,hd=>h x y hx hy hxy (by rw[Rat.pow_zero]at hd;grind)
 |n+1,x,y,hx,hy,hxy,hd=>by
  have m1:x<(x+y)/2:=by grind
  have m2:(x+y)/2<y:=by grind
  have hm:Bd R ((x+y)/2):=by obtain⟨a,b⟩:=hx;obtain⟨c,d⟩:=hy;constructor<;>grind
  rw[Ru]at hd;have i1:=vN hS hδ h n x ((x+y)/2) hx hm m1 (by grind);have i2:=vN hS hδ h n ((x+y)/2) y hm hy m2 (by grind);rw[vI m1 m2 hS];omega
theorem DB{F0 F1:List Int}{r:List (List Int)}(h:SRow (F0::F1::r)){γ:Rat}(hγ:0<γ)(hd:∀x,pv (slopeL F0) x=γ*pv F1 x){S:List (Rat->Int)}(hS:∀s∈S,Cut s){ε:Int}(hε:ε=1\/ε = -1)(hf:∀x,sgR (pv F0 x)=ε*cpr x S)
 {δ0:Rat} (hδ0:0<δ0) (hp:∀x y,x<y->y-x<=δ0->S.Pairwise λs t=>¬(inC s x y/\inC t x y)) {x y:Rat} (hxy:x<y):vrs (F0::F1::r) x-vrs (F0::F1::r) y=cnt S x y:=by
 obtain⟨R,hR,hx,hy⟩:∃R:Rat,0<=R/\Bd R x/\Bd R y:=by
  have ab:∀v:Rat,∃w:Rat,0<=w/\Bd w v:=λv=>by
   rcases P5 (a:=0) (b:=v)with z |z
   ·exact⟨v,z,by grind,by grind⟩
   ·exact⟨-v,by grind,by grind,by grind⟩
  obtain⟨u,u0,u1⟩:=ab x;obtain⟨v,v0,v1⟩:=ab y;exact⟨u+v,by grind,u1.mono (by grind),v1.mono (by grind)⟩
 obtain⟨δ1,d1,l1⟩:=DA h hγ hd hR
 obtain⟨δ,hδ,g1,g2⟩:∃δ:Rat,0<δ/\δ<=δ0/\δ<=δ1:=by
  rcases P5 (a:=δ0) (b:=δ1)with z |z
  ·exact⟨δ0,hδ0,Py,z⟩
  ·exact⟨δ1,d1,z,Py⟩
 obtain⟨n,hn⟩:=Co ((y-x)/δ);refine vN hS hδ (R:=R) (λx y hx hy hxy hdd=>?_) n x y hx hy hxy ?_
 ·rw[l1 x y hx hy hxy (by grind)];exact BR hε hS hxy (hf x) (hf y) (hp x y hxy (by grind))
 ·have h1:(y-x)/δ<=2^n:=Q6 hn (zJ n);have h2:=PD h1 (Pm hδ)
  rwa [PK (by grind)]at h2
theorem jj{n:Int}(hn:n≠0):(n:Rat)≠0:=λz=>hn (Rs.mp (show((n:Int):Rat)=((0:Int):Rat) by rw[z];rfl))
theorem oQ(q:Rat):(q.num:Rat)=q*((q.den:Int):Rat):=by
 have hd:((q.den:Int):Rat)≠0:=jj (by have:=q.den_pos;omega)
 have hx:(q.num:Rat)/((q.den:Int):Rat)=q:=by have:=Rat.mkRat_self q;rw[Rat.mkRat_eq_div]at this;exact this
 have:=PK (a:=(q.num:Rat)) hd;rw[hx]at this;exact this.symm
theorem Fd{t n:Int}(hn:0<n):((t:Rat)/(n:Rat)).num*n=t*(((t:Rat)/(n:Rat)).den:Int):=by
 have hn':(n:Rat)≠0:=jj (by omega);have hq:(t:Rat)/(n:Rat)*(n:Rat)=(t:Rat):=PK hn';generalize (t:Rat)/(n:Rat)=q at hq ⊢
 apply Rs.mp;rw[Pp,Pp,oQ q,<- hq];grind
theorem gd{t n t' n':Int}(hn:0<n)(hn':0<n'):(t:Rat)/(n:Rat)<(t':Rat)/(n':Rat)↔t*n'<t'*n:=by
 have p1:(0:Rat)<(n:Rat):=PC.mpr hn;have p2:(0:Rat)<(n':Rat):=PC.mpr hn';have e1:(t:Rat)/(n:Rat)*(n:Rat)=(t:Rat):=PK (by grind);have e2:(t':Rat)/(n':Rat)*(n':Rat)=(t':Rat):=PK (by grind);generalize (t:Rat)/(n:Rat)=q at e1 ⊢
 generalize (t':Rat)/(n':Rat)=q' at e2 ⊢
 rw[<- PC,Pp,Pp,<- e1,<- e2];have p3:=PB p1 p2;have e3:q*(n:Rat)*(n':Rat)=q*((n:Rat)*(n':Rat)):=by grind
 have e4:q'*(n':Rat)*(n:Rat)=q'*((n:Rat)*(n':Rat)):=by grind
 rw[e3,e4];constructor
 ·intro h;exact Qr h p3
 ·intro h;refine Qv.mp λz=>?_
  have:=PD z (Pm p3);grind
theorem lI{p v:Rat}(hp:0<p):sgR (p*v)=sgR v:=by
 rcases bH v with⟨a,b⟩ |⟨a,b⟩ |⟨a,b⟩
 ·have:p*v<0:=by have:=PB hp (show 0 < -v by grind);grind
  rcases bH (p*v)with⟨_,d⟩ |⟨c,d⟩ |⟨c,d⟩
  ·rw[b,d]
  ·grind
  ·grind
 ·rw[a];have:p*0=0:=by grind
  rw[this]
 ·have:=PB hp a;rcases bH (p*v)with⟨c,d⟩ |⟨c,d⟩ |⟨_,d⟩
  ·grind
  ·grind
  ·rw[b,d]
theorem yN(z:Int):sgR (z:Rat)=sg z:=by
 rcases bH (z:Rat)with⟨a,b⟩ |⟨a,b⟩ |⟨a,b⟩
 ·have:z<0:=PC.mp a;rw[b];unfold sg;rw[if_pos this]
 ·have:z=0:=Rs.mp a;rw[this];rfl
 ·have:0<z:=PC.mp a;rw[b];unfold sg;rw[if_neg (by omega),if_pos this]
theorem uV{t n:Int}(hn:0<n):∀l:List Int,(hv t n l:Rat)=(n:Rat)^l.length*pv l ((t:Rat)/(n:Rat))
 | []=>by show((0:Int):Rat)=_*0;grind
 |c::l=>by
  have hn':(n:Rat)≠0:=jj (by omega);have hq:(t:Rat)/(n:Rat)*(n:Rat)=(t:Rat):=PK hn';rw[dR,QH,Pp,Pp,uV hn l,Rat.intCast_pow];show _=(n:Rat)^(l.length+1)*((c:Rat)+(t:Rat)/(n:Rat)*pv l ((t:Rat)/(n:Rat)));rw[Ru];generalize hqq:(t:Rat)/(n:Rat)=q at *
  rw[<- hq];grind
theorem iP{t n:Int}(hn:0<n)(l:List Int):sg (hv t n l)=sgR (pv l ((t:Rat)/(n:Rat))):=by rw[<- yN,uV hn];exact lI (Rat.pow_pos (PC.mpr hn))
def Cop2(a b:List Int):Prop:=∀d,d≠[]->Tr d->Dv d a->Dv d b->d.length<=1
theorem Hv{one other:List Int}(ho:other≠[]):∀n,cE one other*cf one n=aA (cw one other) other n-(av (cN [] (aQ one other)):Int)*cf (nxt one other) n:=λn=>by
 have h1:=iz (a:=one) ho n;have e:nxt one other=ap (cN [] (aQ one other)):=by unfold nxt rst;rw[if_neg ho]
 have h2:=congrArg (λl=>cf l n) (shr_scale (l:=cN [] (aQ one other)));simp only[bI]at h2
 have h3:cf (cN [] (aQ one other)) n = -cf (aQ one other) n:=by rw[ib (eI _ _),bI];omega
 rw[e,h2,h3,h1];omega
theorem C4(one other:List Int):Tr (nxt one other):=by unfold nxt;exact fL (by unfold cN;exact fK _)
theorem Hw{one other:List Int}(ho:other≠[]):(nxt one other).length<other.length:=by
 have h1:=gv (a:=one) ho;unfold nxt rst;rw[if_neg ho,ib (eI _ _)]
 have h2:(ap (scL (-1) (aQ one other))).length<=(scL (-1) (aQ one other)).length:=by unfold ap;rw[Pk];exact Pn _
 rw[cv]at h2;omega
theorem uJ{l:List Int}(h:l.length<=1)(hne:l≠[]):∃c,l=[c]:=RS.mp (by have:=Pq.mpr hne;omega)
theorem tE:∀(n:Nat) (one other:List Int),other.length<=n->Tr one->one≠[]->Tr other->Cop2 one other->SRow (aU (n+1) one other)
 |0,one,other,hl,to,no,tt,hc=>by have e0:other=[]:=Q4 (Nat.le_zero.mp hl);subst e0;have h1:=hc one no to (Dv.refl _) (Dv.nil _);obtain⟨c,rfl⟩:=uJ h1 no;show SRow (if([c]:List Int)=[]then _ else[c]::aU 0 [] (nxt [c] []));rw[if_neg no];exact .last (tr_snoc (r:=[]) |>.mp to)
 |n+1,one,other,hl,to,no,tt,hc=>by
  have e:aU (n+1+1) one other=one::aU (n+1) other (nxt one other):=by show(if one=[]then _ else _)=_;rw[if_neg no]
  rw[e];by_cases ho:other=[]
  ·subst ho;have h1:=hc one no to (Dv.refl _) (Dv.nil _);obtain⟨c,rfl⟩:=uJ h1 no;rw[gD];exact .last (tr_snoc (r:=[]) |>.mp to)
  have hs:=Hv (one:=one) ho;have hlen:=Hw (one:=one) ho;have tn:=C4 one other;have fp:0<cE one other:=K0 ho tt;by_cases hn:nxt one other=[]
  ·
   have hdv:Dv other one:=⟨cE one other,cw one other,by omega,λk=>by rw[hs k,hn,cH];omega⟩;have h1:=hc other ho tt hdv (Dv.refl _);obtain⟨c,rfl⟩:=uJ h1 ho;rw[hn,tJ ho (by omega)];exact .two (tr_snoc (r:=[]) |>.mp tt)
  ·have hc2:Cop2 other (nxt one other):=λd dn dt h1 h2=>by
    refine hc d dn dt ?_ h1;refine Dv.up (f:=cE one other) (q:=cw one other) (r:=scL (-(av (cN [] (aQ one other)):Int)) (nxt one other)) (by omega) (λk=>?_) h1 ?_
    ·rw[hs k,bI,Int.neg_mul];omega
    ·exact Dv.prop_right (x:=1) (y := -(av (cN [] (aQ one other)):Int)) (by decide) (λk=>by rw[bI];omega) h2
   have ih:=tE n other (nxt one other) (by omega) tt ho tn hc2;have e2:aU (n+1) other (nxt one other)=other::aU n (nxt one other) (nxt other (nxt one other)):=by show(if other=[]then _ else _)=_;rw[if_neg ho]
   have n1:0<n:=by have:=Pq.mpr hn;omega
   obtain⟨m,rfl⟩:∃m,n=m+1:=⟨n-1,by omega⟩;have e3:aU (m+1) (nxt one other) (nxt other (nxt one other))=nxt one other::aU m (nxt other (nxt one other)) (nxt (nxt one other) (nxt other (nxt one other))):=by show(if nxt one other=[]then _ else _)=_;rw[if_neg hn]
   rw[e2,e3]at ih ⊢
   have gp:0<(av (cN [] (aQ one other)):Int):=by
    rcases Nat.eq_zero_or_pos (av (cN [] (aQ one other)))with z |z
    ·exfalso;apply hn;refine ul tn λk=>?_
     have e:nxt one other=ap (cN [] (aQ one other)):=by unfold nxt rst;rw[if_neg ho]
     rw[e];unfold ap;rw[z];unfold cf;simp[List.getD];cases(cN [] (aQ one other))[k]? with
     |none=>rfl
     |some v=>simp
    ·omega
   refine .cons (q:=cw one other) (α:=(cE one other:Rat)) (β:=((av (cN [] (aQ one other)):Int):Rat)) (PC.mpr fp) (PC.mpr gp) (λx=>?_) ih;have h1:=fk (a:=one) (c:=scL (cE one other) one) (u:=cE one other) x λk=>bI _ _ _
   have h2:=oF x (cw one other) other (ad (cw one other) other) (aN _ _);have h3:=oG (a:=ad (cw one other) other) (b:=nxt one other) (c:=scL (cE one other) one) (u:=1) (v := -(av (cN [] (aQ one other)):Int)) x λk=>by rw[bI,hs k,aN,Int.neg_mul];omega
   rw[<- h1,h3,h2,QU];show((1:Int):Rat)*_+_=_;grind
theorem zf{ss:List (List Int)}(h:∀s∈ss,Pri s):aW [1] ss=prd ss:=by unfold aW;rw[A8,one_mul _ (iW ss λs hs=>(h s hs).pln).tr]
theorem fG{f:List Int}(h:FacG f):Pri (ag f):=by obtain⟨u,e,b,rfl,_,_,_,_,h5,_,h7⟩:=h;exact E9 h5 h7
noncomputable def iH(fs:List (List Int)):List (List Int×Nat):=fs.map λf=>(ag f,1)
theorem wX{fs:List (List Int)}(hF:∀f∈fs,FacG f)(hn:(fs.map ag).Nodup):Use (iH fs):=by
 refine⟨λp hp=>?_,λp hp=>?_,?_⟩
 ·obtain⟨f,hf,rfl⟩:=PF.mp hp;exact fG (hF f hf)
 ·obtain⟨f,hf,rfl⟩:=PF.mp hp;exact Pn _
 ·unfold iH;rw[QE];exact hn
theorem wW{c:Int}{fs:List (List Int)}(hF:∀f∈fs,FacG f):whl c (iH fs)=ad [c] (aW [1] (fs.map ag)):=by
 unfold whl
 congr 1
 rw[zf λs hs=>by obtain⟨f,hf,rfl⟩:=PF.mp hs;exact fG (hF f hf)]
 have e1:fP id (iH fs)=flt (iH fs):=kH _ λp hp=>by obtain⟨f,hf,rfl⟩:=PF.mp hp;rfl
 rw[e1,Ba]
 congr 1
 unfold iH;rw[QE];rfl
theorem Bo:∀us:List (List Int×Nat),fP (λ_=>0) us=[1]
 | []=>rfl
 |p::us=>by rw[fW,Bo us];rfl
theorem CJ{fs:List (List Int)}:mor (iH fs) 1=[1]:=by unfold mor;rw[kH (h:=λ_=>0) _ λp hp=>by obtain⟨f,hf,rfl⟩:=PF.mp hp;rfl];exact Bo _
theorem Fw{c:Int}{fs:List (List Int)}(hF:∀f∈fs,FacG f)(hn:(fs.map ag).Nodup)(hc:c≠0)(hl:(ad [c] (aW [1] (fs.map ag))).length<=20):Cop2 (ad [c] (aW [1] (fs.map ag))) (slopeL (ad [c] (aW [1] (fs.map ag)))):=λd dn dt h1 h2=>by
 have U:=wX hF hn;have ew:=wW (c:=c) hF;obtain⟨tw,nw,_⟩:=k8 U hc;have hcom:=wS U hc (by rw[ew];exact hl);rw[CJ]at hcom;rw[<- ew]at h1 h2 hl;have h3:=(BH (by rw[d9];omega) tw (f7 tw)).all d h1 h2;rw[hcom]at h3;rcases Nat.lt_or_ge 1 d.length with z |z
 ·have:=Dv.short dn dt ((tr_snoc (r:=[])).mpr (by decide)) (show([1]:List Int).length<d.length from z) h3;cases this
 ·exact z
theorem jZ{l:List Int}(h:Tr l)(hne:l≠[]):0<(av l:Int)/\Tr (ap l)/\ap l≠[]/\∀n,cf l n=(av l:Int)*cf (ap l) n:=by
 have e:=shr_scale (l:=l)
 have ec:∀n,cf l n=(av l:Int)*cf (ap l) n:=λn=>by have:=congrArg (λz=>cf z n) e;simp only[bI]at this;exact this.symm
 have hl:(ap l).length=l.length:=by unfold ap;rw[Pk]
 refine⟨?_,fL h,λz=>by rw[z]at hl;exact hne (Q4 hl.symm),ec⟩;rcases Nat.eq_zero_or_pos (av l)with z |z
 ·exfalso;refine hne (ul h λk=>?_);rw[ec k,z];simp
 ·omega
theorem Cop2.shr{a b:List Int}(h:Cop2 a b)(ha:Tr a)(hna:a≠[])(hb:Tr b):Cop2 (ap a) (ap b):=λd dn dt h1 h2=>by
 obtain⟨_,_,_,ea⟩:=jZ ha hna;refine h d dn dt (Dv.prop_right (x:=1) (y:=(av a:Int)) (by decide) (λn=>by rw[ea n];omega) h1) ?_;by_cases hnb:b=[]
 ·rw[hnb];exact Dv.nil _
 ·obtain⟨_,_,_,eb⟩:=jZ hb hnb;exact Dv.prop_right (x:=1) (y:=(av b:Int)) (by decide) (λn=>by rw[eb n];omega) h2
noncomputable def sdR(l:List Int)(x:Rat):Int:=aj l x.num x.den
theorem dG(x:Rat):0<(x.den:Int):=by have:=x.den_pos;omega
theorem dN(l:List Int){t n:Int}(hn:0<n):sdR l ((t:Rat)/(n:Rat))=aj l t n:=by unfold sdR;exact jY l (dG _) hn (Fd hn)
theorem iR{l:List Int}(h:Spt l):Cut (sdR l):=by
 refine⟨λx=>?_,λx y hxy hs=>?_⟩
 ·rcases cO l x.num x.den with z |z |z
  ·exact .inl z
  ·exact .inr (.inl z)
  ·exact .inr (.inr z)
 ·exact fM h (dG x) (dG y) ((Rat.lt_iff x y).mp hxy) hs
theorem vF(x:Rat):∀ls:List (List Int),cpr x (ls.map sdR)=spr x.num x.den ls
 | []=>rfl
 |l::ls=>by show -sdR l x*_ = -aj l x.num x.den*_;rw[vF x ls];rfl
theorem pN(x:Rat):(x.num:Rat)/((x.den:Int):Rat)=x:=by have:=Rat.mkRat_self x;rw[Rat.mkRat_eq_div]at this;exact this
theorem v6{l l':List Int}(hl:Spt l)(hl':Spt l')(h:CB l l'){x y:Rat}(hxy:x<y)(hd:y-x<=1/2^200):¬(inC (sdR l) x y/\inC (sdR l') x y):=by
 rintro⟨h1,h2⟩;have hD:(0:Rat)<2^200:=Rat.pow_pos (by decide);have hDi:((2^200:Int):Rat)=2^200:=Rat.intCast_pow 2 200;have f1:=Rat.floor_le (x*2^200);have f2:=Rat.lt_floor_add_one (x*2^200);rw[QH]at f2
 have hd2:(y-x)*2^200<=1:=by
  have:=PD hd (Pm hD)
  rwa [PK (by grind)]at this
 have key:∀k:List Int,Spt k->inC (sdR k) x y->inS k ((x*2^200).floor-1) ((x*2^200).floor-1+128) (2^200):=λk hk hi=>by
  have hc:=iR hk
  have eA:((((x*2^200).floor-1:Int)):Rat)/((2^200:Int):Rat)*2^200=((x*2^200).floor:Rat)-1:=by rw[hDi,PK (by grind),Ri];rfl
  have eB:((((x*2^200).floor-1+128:Int)):Rat)/((2^200:Int):Rat)*2^200=((x*2^200).floor:Rat)-1+128:=by rw[hDi,PK (by grind),QH,Ri];rfl
  constructor
  ·rw[<- dN k (by decide)];generalize ((((x*2^200).floor-1:Int)):Rat)/((2^200:Int):Rat)=a at *
   have hax:a<x:=by
    refine Qv.mp λz=>?_
    have:=PD z (Pm hD);grind
   rcases QB 0 (sdR k a)with w |w
   ·exact w
   ·have h3:=hc.m a x hax w;have h4:=hi.1;omega
  ·rw[<- dN k (by decide)];generalize ((((x*2^200).floor-1+128:Int)):Rat)/((2^200:Int):Rat)=b at *
   have hby:y<b:=by
    refine Qv.mp λz=>?_
    have:=PD z (Pm hD);have e1:((1:Int):Rat)=1:=rfl;grind
   have h3:=hc.m y b hby hi.2;omega
 exact h _ _ _ (PU _) rfl (key l hl h1) (key l' hl' h2)
noncomputable def bJ(ls:List (List Int))(t n t' n':Int):Int:=(ls.map λl=>if 0<aj l t n/\aj l t' n'<=0 then(1:Int)else 0).sum
theorem kI{t n t' n':Int}(hn:0<n)(hn':0<n'):∀ls:List (List Int),cnt (ls.map sdR) ((t:Rat)/(n:Rat)) ((t':Rat)/(n':Rat))=bJ ls t n t' n'
 | []=>rfl
 |l::ls=>by have ih:=kI (t:=t) (t':=t') hn hn' ls;rw[Qp,fH,ih,dN l hn,dN l hn'];unfold bJ;rw[Qp,List.sum_cons]
noncomputable def sgv(row:List (List Int))(t n:Int):List Int:=row.map λf=>sg (hv t n f)
theorem ow{t n:Int}(hn:0<n)(row:List (List Int)):sgv row t n=sgX row ((t:Rat)/(n:Rat)):=by unfold sgv sgX;exact Rp λf _=>iP hn f
theorem Lg{c:Int}{fs:List (List Int)}(hF:∀f∈fs,FacG f)(hnd:(fs.map ag).Nodup)(hc:c≠0){P:List Int}(hP:P=ad [c] (aW [1] (fs.map ag)))(hl:P.length<=20){N:Nat}(hN:P.length<=N+1){t n t' n':Int}(hn:0<n)(hn':0<n')(hlt:t*n'<t'*n) :
 vr 0 (sgv (aU (N+1) (ap P) (ap (slopeL P))) t n)-vr 0 (sgv (aU (N+1) (ap P) (ap (slopeL P))) t' n')=bJ (aL fs) t n t' n':=by
 have hFQ:∀f∈fs,fJ f:=λf hf=>(hF f hf).q
 have U:=wX hF hnd;have ew:=wW (c:=c) hF;obtain⟨tP,nP,_⟩:=k8 U hc;rw[ew,<- hP]at tP nP;have cop:=Fw hF hnd hc (by rw[<- hP];exact hl);rw[<- hP]at cop;have tS:=f7 tP;obtain⟨g0,t0,n0,e0⟩:=jZ tP nP;have copS:=cop.shr tP nP tS;have lS:(ap (slopeL P)).length=P.length-1:=by unfold ap;rw[Pk,d9]
 have hst:=tE N (ap P) (ap (slopeL P)) (by omega) t0 n0 (fL tS) copS;by_cases hs:slopeL P=[]
 ·
  have h1:P.length<=1:=by have:=congrArg List.length hs;rw[d9]at this;simp at this;omega
  have hfs:fs=[]:=by
   cases fs with
   |nil=>rfl
   |cons f fs =>
    exfalso
    have hss:∀s∈(f::fs).map ag,s≠[]/\Tr s:=λs h=>by obtain⟨x,hx,rfl⟩:=PF.mp h;exact qY (hFQ x hx)
    obtain⟨p1,p2,p3⟩:=kd ((f::fs).map ag) [1] (by simp) ((tr_snoc (r:=[])).mpr (by decide)) hss
    have hl2:2<=(ag f).length:=by obtain⟨u,e,b,rfl,hb⟩:=hFQ f (PH ..);obtain⟨_,l2⟩:=eU (u:=u) (e:=e) hb;show 2<=(aB (aH u e b)).length;rw[plain_len];exact l2
    have hsl:∀ss:List (List Int),(∀s∈ss,s≠[])->ss.length<=sl ss:=λss=>by
     induction ss with
     |nil=>intro _;exact Pn _
     |cons s ss ih =>
      intro h;have h1:=Pq.mpr (h s (PH ..));have h2:=ih λx hx=>h x (Pz _ hx)
      show ss.length+1<=s.length+sl ss;omega
    have h3:=hsl (fs.map ag) λs hs=>(hss s (Pz _ hs)).1
    have h4:sl ((f::fs).map ag)=(ag f).length+sl (fs.map ag):=rfl
    have h5:P.length=(aW [1] ((f::fs).map ag)).length:=by rw[hP,bM (by simp) p1];show 1+_-1=_;omega
    simp only[Pk,Qi,List.length_nil]at p3 h3;omega
  subst hfs
  have hr:aU (N+1) (ap P) (ap (slopeL P))=[ap P]:=by
   have:ap (slopeL P)=[]:=by rw[hs];rfl
   rw[this];exact tJ n0 (by omega)
  rw[hr];show vr 0 [_]-vr 0 [_]=0;rw[hI,hI];rfl
 ·obtain⟨g1,t1,n1,e1⟩:=jZ tS hs
  have hN1:1<=N:=by have:=Pq.mpr n1;omega
  obtain⟨M,rfl⟩:∃M,N=M+1:=⟨N-1,by omega⟩
  have er:aU (M+1+1) (ap P) (ap (slopeL P))=ap P::ap (slopeL P)::aU M (nxt (ap P) (ap (slopeL P))) (nxt (ap (slopeL P)) (nxt (ap P) (ap (slopeL P)))):=by show(if ap P=[]then _ else ap P::(if ap (slopeL P)=[]then _ else _))=_;rw[if_neg n0,if_neg n1]
  rw[er]at hst ⊢;have g0':(0:Rat)<((av P:Int):Rat):=PC.mpr g0;have g1':(0:Rat)<((av (slopeL P):Int):Rat):=PC.mpr g1
  have hd:∀x,pv (slopeL (ap P)) x=((av (slopeL P):Int):Rat)/((av P:Int):Rat)*pv (ap (slopeL P)) x:=λx=>by
   have h1:=fk (a:=slopeL (ap P)) (c:=slopeL P) (u:=(av P:Int)) x λk=>by rw[fI,fI,e0 (k+1)];grind
   have h2:=fk (a:=ap (slopeL P)) (c:=slopeL P) (u:=(av (slopeL P):Int)) x e1;have h3:((av (slopeL P):Int):Rat)/((av P:Int):Rat)*((av P:Int):Rat)=((av (slopeL P):Int):Rat):=PK (by grind);rw[h1]at h2
   have h4:((av P:Int):Rat)*pv (slopeL (ap P)) x=((av P:Int):Rat)*(((av (slopeL P):Int):Rat)/((av P:Int):Rat)*pv (ap (slopeL P)) x):=by
    rw[h2];generalize ((av (slopeL P):Int):Rat)/((av P:Int):Rat)=w at *
    rw[<- h3];grind
   generalize pv (slopeL (ap P)) x=u at *
   generalize ((av (slopeL P):Int):Rat)/((av P:Int):Rat)*pv (ap (slopeL P)) x=v at *
   have h5:((av P:Int):Rat)*(u-v)=0:=by grind
   rcases RI.mp h5 with z |z
   ·grind
   ·grind
  have hS:∀s∈(aL fs).map sdR,Cut s:=λs hs=>by obtain⟨l,hl,rfl⟩:=PF.mp hs;exact iR (cX hFQ hl)
  have hsg:sg c=1\/sg c = -1:=by
   rcases Qh hc with z |z
   ·right;unfold sg;rw[if_pos z]
   ·left;unfold sg;rw[if_neg (by omega),if_pos z]
  have hf:∀x,sgR (pv (ap P) x)=sg c*cpr x ((aL fs).map sdR):=λx=>by have h1:=lT (t:=x.num) (n:=x.den) (c:=c) (dG x) hFQ;rw[<- hP,iP (dG x),pN]at h1;rw[vF,<- h1,fk (a:=ap P) (c:=P) (u:=(av P:Int)) x e0,lI g0']
  have hap:=qz hF hnd
  have hp:∀x y:Rat,x<y->y-x<=1/2^200->((aL fs).map sdR).Pairwise λs t=>¬(inC s x y/\inC t x y):=λx y hxy hdd=>by rw[List.pairwise_map];exact hap.imp_of_mem λ{l l'} hl hl' h=>v6 (cX hFQ hl) (cX hFQ hl') h hxy hdd
  have:=DB hst (da g1' g0') hd hS hsg hf (da (by decide) (Rat.pow_pos (by decide))) hp ((gd hn hn').mpr hlt);rw[kI hn hn']at this;rw[ow hn,ow hn'];exact this
theorem vM{C:Rat->Rat->Prop}(hadd:∀x y z,x<y->y<z->C x y->C y z->C x z){δ a b:Rat}(hδ:0<δ)(h:∀x y,a<=x->y<=b->x<y->y-x<=δ->C x y):∀(n:Nat) (x y:Rat),a<=x->y<=b->x<y->y-x<=2^n*δ->C x y
 |0,x,y,hx,hy,hxy,hd=>h x y hx hy hxy (by rw[Rat.pow_zero]at hd;grind)
 |n+1,x,y,hx,hy,hxy,hd=>by
  have m1:x<(x+y)/2:=by grind
  have m2:(x+y)/2<y:=by grind
  rw[Ru]at hd;exact hadd x _ y m1 m2 (vM hadd hδ h n x _ hx (by grind) m1 (by grind)) (vM hadd hδ h n _ y (by grind) hy m2 (by grind))
theorem jX{δ:Rat}(hδ:0<δ)(w:Rat):∃n:Nat,w<=2^n*δ:=by
 obtain⟨n,hn⟩:=Co (w/δ);refine⟨n,?_⟩;have h1:w/δ<=2^n:=Q6 hn (zJ n);have h2:=PD h1 (Pm hδ)
 rwa [PK (by grind)]at h2
theorem fY(v:Rat):∃w:Rat,0<=w/\Bd w v:=by
 rcases P5 (a:=0) (b:=v)with z |z
 ·exact⟨v,z,by grind,by grind⟩
 ·exact⟨-v,by grind,by grind,by grind⟩
theorem IV{f:Rat->Rat}(hf:Nice f){a b:Rat}(hab:a<b)(h:∀z,a<=z->z<=b->1<=f z\/f z <= -1):sgR (f a)=sgR (f b):=by
 obtain⟨u,u0,u1⟩:=fY a;obtain⟨v,v0,v1⟩:=fY b;obtain⟨M,m0,m1,m2⟩:=hf (u+v) (by grind)
 have hB:∀z,a<=z->z<=b->Bd (u+v) z:=λz h1 h2=>by obtain⟨p1,p2⟩:=u1;obtain⟨p3,p4⟩:=v1;constructor<;>grind
 have hT:0<M+1:=by grind
 obtain⟨n,hn⟩:=jX (da (show(0:Rat)<1 by decide) hT) (b-a);refine vM (C:=λx y=>sgR (f x)=sgR (f y)) (λx y z _ _ h1 h2=>h1.trans h2) (da (show(0:Rat)<1 by decide) hT) (a:=a) (b:=b) (λx y hx hy hxy hd=>?_) n a b (by grind) (by grind) hab hn
 have hd':(y-x)*(M+1)<=1:=by
  have:=PD hd (Pm hT)
  rwa [PK (by grind)]at this
 obtain⟨f1,f2⟩:=m2 x y (hB x hx (by grind)) (hB y (by grind) hy) (by grind);have hx1:=h x hx (by grind);have hy1:=h y (by grind) hy;rcases bH (f x)with⟨a1,a2⟩ |⟨a1,a2⟩ |⟨a1,a2⟩<;>rcases bH (f y)with⟨b1,b2⟩ |⟨b1,b2⟩ |⟨b1,b2⟩
 ·rw[a2,b2]
 ·grind
 ·grind
 ·grind
 ·grind
 ·grind
 ·grind
 ·grind
 ·rw[a2,b2]
theorem kn{s:Rat->Int}{ε:Rat}(hε:0<ε):∀(n:Nat) (x y:Rat),x<y->0<s x->s y<=0->y-x<=2^n*ε->∃x' y',x<=x'/\x'<y'/\y'<=y/\y'-x'<=ε/\0<s x'/\s y'<=0
 |0,x,y,hxy,hx,hy,hd=>⟨x,y,Py,hxy,Py,by rw[Rat.pow_zero]at hd;grind,hx,hy⟩
 |n+1,x,y,hxy,hx,hy,hd=>by
  have m1:x<(x+y)/2:=by grind
  have m2:(x+y)/2<y:=by grind
  rw[Ru]at hd;by_cases h:s ((x+y)/2)<=0
  ·obtain⟨x',y',h1,h2,h3,h4⟩:=kn hε n x _ m1 hx h (by grind);exact⟨x',y',h1,h2,by grind,h4⟩
  ·obtain⟨x',y',h1,h2,h3,h4⟩:=kn hε n _ y m2 (by omega) hy (by grind);exact⟨x',y',by grind,h2,h3,h4⟩
theorem zB{f:Rat->Rat}(hf:Nice f){S:List (Rat->Int)}{ε:Int}(hε:ε=1\/ε = -1)(hS:∀s∈S,Cut s)(hv:∀x,sgR (f x)=ε*cpr x S){δ:Rat}(hδ:0<δ)(hp:∀x y,x<y->y-x<=δ->S.Pairwise λs t=>¬(inC s x y/\inC t x y)){a b:Rat}(hab:a<b)(h:∀z,a<=z->z<=b->1<=f z\/f z <= -1){s:Rat->Int}(hs:s∈S):¬(0<s a/\s b<=0):=by
 rintro⟨ha,hb⟩;obtain⟨n,hn⟩:=jX hδ (b-a);obtain⟨x,y,h1,h2,h3,h4,h5,h6⟩:=kn hδ n a b hab ha hb hn;have hc:=BR hε hS h2 (hv x) (hv y) (hp x y h2 h4);have hsame:=IV hf h2 λz hz1 hz2=>h z (by grind) (by grind)
 unfold chg at hc
 rw[if_neg (λz=>z.2 hsame.symm)]at hc
 have pos:∀(S:List (Rat->Int)),s∈S->1<=cnt S x y:=λS=>by
  induction S with
  |nil=>intro h;cases h
  |cons t S ih =>
   intro h
   have nn:∀S:List (Rat->Int),0<=cnt S x y:=λS=>by
    induction S with
    |nil=>exact PU _
    |cons t S ih=>rw[fH];split<;>omega
   rw[fH];rcases Pu.mp h with rfl |h
   ·rw[if_pos ⟨h5,h6⟩];have:=nn S;omega
   ·have:=ih h;split<;>omega
 have:=pos S hs;omega
theorem Ft{ss:List (List Int)}(hs:∀s∈ss,s≠[]/\Tr s){t:Int}{n:Nat}(hn:0<n)(h:n^sl ss<=(pr t n ss).natAbs):1<=pv (aW [1] ss) ((t:Rat)/((n:Int):Rat))\/pv (aW [1] ss) ((t:Rat)/((n:Int):Rat)) <= -1:=by
 have hn':(0:Int)<(n:Int):=by omega
 obtain⟨p1,p2,p3⟩:=kd ss [1] (by simp) ((tr_snoc (r:=[])).mpr (by decide)) hs;have e1:=px t n ss [1] (by simp) λs h=>(hs s h).1
 rw[mQ,P7]at e1;have e2:=congrArg Int.natAbs e1;rw[PL,RG,PL,P9]at e2;have h3:n*n^sl ss<=n^ss.length*(hv t n (aW [1] ss)).natAbs:=by rw[e2];exact QP _ h
 have e4:n*n^sl ss=n^ss.length*n^(aW [1] ss).length:=by
  rw[<- Nat.pow_add,QK,<- Q0]
  congr 1
  have:([1]:List Int).length=1:=rfl;omega
 rw[e4]at h3;have h5:=R3 h3 (QM hn);have e6:=uV (t:=t) hn' (aW [1] ss);generalize pv (aW [1] ss) ((t:Rat)/((n:Int):Rat))=q at *
 generalize hv t n (aW [1] ss)=z at *
 have hp:(0:Rat)<((n:Int):Rat)^(aW [1] ss).length:=Rat.pow_pos (PC.mpr hn')
 have e7:(((n^(aW [1] ss).length:Nat):Int):Rat)=((n:Int):Rat)^(aW [1] ss).length:=by rw[Rj,Rat.intCast_pow]
 rcases Int.le_total 0 z with w |w
 ·left;have h8:((n^(aW [1] ss).length:Nat):Int)<=z:=by omega
  have h9:=QC.mpr h8;rw[e7,e6]at h9;refine PZ.mp λhq=>?_
  have:=RJ hq hp;grind
 ·right;have h8:z <= -((n^(aW [1] ss).length:Nat):Int):=by omega
  have h9:=QC.mpr h8;rw[QU,e7,e6]at h9;refine PZ.mp λhq=>?_
  have:=RJ hq hp;grind
theorem DN{l:List Int}(hl:Spt l):∃M:Int,0<M/\∀T:Int,M<=T->aj l T 1<0/\0<aj l (-T) 1:=by
 obtain⟨u,e,b,s,rfl,he,hb,hs⟩:=hl;refine⟨(u.natAbs:Int)+e+1,by omega,λT hT=>?_⟩
 have h1:T<=b*T:=by have:=Qf hb (show 0<=T by omega);omega
 have g1:e+1<=b*T-u*1:=by omega
 have g2:e+1<=0-(b * -T-u*1):=by have:b * -T = -(b*T):=Int.mul_neg _ _;omega
 have q1:=iJ (show 0<=e+1 by omega) g1;have q2:=iJ (show 0<=e+1 by omega) g2;have q3:(e+1)*(e+1)=e*e+2*e+1:=by grind
 have q4:0<=e*e:=PY he he;rcases hs with rfl |rfl
 ·constructor
  ·show bh (e*1*1) (b*T-u*1)<0;rcases cj (e*1*1) (b*T-u*1)with z |z |z<;>omega
  ·show 0<bh (e*1*1) (b * -T-u*1);rcases cj (e*1*1) (b * -T-u*1)with z |z |z<;>omega
 ·constructor
  ·show 0-bh (e*1*1) (0-(b*T-u*1))<0;rcases cj (e*1*1) (0-(b*T-u*1))with z |z |z<;>omega
  ·show 0<0-bh (e*1*1) (0-(b * -T-u*1));rcases cj (e*1*1) (0-(b * -T-u*1))with z |z |z<;>omega
theorem xI{fs:List (List Int)}(hF:∀f∈fs,FacG f)(hnd:(fs.map ag).Nodup){B:Nat}(hB:1<=B)(hb:∀x∈(aW [1] (fs.map ag)).take ((aW [1] (fs.map ag)).length-1),x.natAbs<=(B-1)*(aq (aW [1] (fs.map ag))).natAbs){l:List Int}(hl:l∈aL fs):aj l B 1<0/\0<aj l (-(B:Int)) 1:=by
 have hFQ:∀f∈fs,fJ f:=λf hf=>(hF f hf).q
 have hss:∀s∈fs.map ag,s≠[]/\Tr s:=λs h=>by obtain⟨x,hx,rfl⟩:=PF.mp h;exact qY (hFQ x hx)
 have hT:Tr (aW [1] (fs.map ag)):=(kd (fs.map ag) [1] (by simp) ((tr_snoc (r:=[])).mpr (by decide)) hss).2.1;have e1:ad [1] (aW [1] (fs.map ag))=aW [1] (fs.map ag):=one_mul _ hT;have far:=λ(t:Int) (n:Nat)=>Ks (t:=t) (n:=n) (B:=B) (c:=1) (by decide) hss hB (by rw[e1];exact hb)
 have hspt:=cX hFQ hl;have hcut:=iR hspt
 have hS:∀s∈(aL fs).map sdR,Cut s:=λs hs=>by obtain⟨l,hl,rfl⟩:=PF.mp hs;exact iR (cX hFQ hl)
 have hf:∀x,sgR (pv (aW [1] (fs.map ag)) x)=1*cpr x ((aL fs).map sdR):=λx=>by have h1:=lT (t:=x.num) (n:=x.den) (c:=1) (dG x) hFQ;rw[e1,iP (dG x),pN]at h1;rw[vF,h1];rfl
 have hap:=qz hF hnd
 have hp:∀x y:Rat,x<y->y-x<=1/2^200->((aL fs).map sdR).Pairwise λs t=>¬(inC s x y/\inC t x y):=λx y hxy hdd=>by rw[List.pairwise_map];exact hap.imp_of_mem λ{l l'} hl hl' h=>v6 (cX hFQ hl) (cX hFQ hl') h hxy hdd
 have away:∀z:Rat,((B:Int):Rat)<=z\/z <= -((B:Int):Rat)->1<=pv (aW [1] (fs.map ag)) z\/pv (aW [1] (fs.map ag)) z <= -1:=λz hz=>by
  have h1:=Ft hss (t:=z.num) (n:=z.den) z.den_pos (far z.num z.den z.den_pos ?_)
  ·rw[pN]at h1;exact h1
  ·have hd:(0:Rat)<((z.den:Int):Rat):=PC.mpr (dG z);have hnum:=oQ z;rcases hz with w |w
   ·have h2:=PD w (Pm hd);rw[<- hnum,<- Pp]at h2;have h3:=QC.mp h2;have h4:((B*z.den:Nat):Int)=(B:Int)*(z.den:Int):=Qu _ _;omega
   ·have h2:=PD w (Pm hd);rw[<- hnum,<- QU,<- Pp]at h2;have h3:=QC.mp h2;have h4:((B*z.den:Nat):Int)=(B:Int)*(z.den:Int):=Qu _ _;have h5 : -(B:Int)*(z.den:Int) = -((B:Int)*(z.den:Int)):=Int.neg_mul _ _;omega
 obtain⟨M,hM,hfar⟩:=DN hspt;have hmem:sdR l∈(aL fs).map sdR:=PF.mpr ⟨l,hl,rfl⟩;have δ0:(0:Rat)<1/2^200:=da (by decide) (Rat.pow_pos (by decide))
 have int1:∀z:Int,sdR l (z:Rat)=aj l z 1:=λz=>by
  have:=dN l (t:=z) (n:=1) (by decide)
  have e:(z:Rat)/((1:Int):Rat)=(z:Rat):=by have:((1:Int):Rat)=1:=rfl;rw[this];grind
  rw[e]at this;exact this
 constructor
 ·
  have hlt:((B:Int):Rat)<((M+B:Int):Rat):=PC.mpr (by omega);have no:=zB (c7 _) (.inl rfl) hS hf δ0 hp hlt (λz h1 _=>away z (.inl h1)) hmem;rw[int1,int1]at no;have hfr:=(hfar (M+B) (by omega)).1;rcases cO l B 1 with z |z |z
  ·exact absurd ⟨by omega,by omega⟩ no
  ·
   exfalso;have h1:=away (((B:Int)):Rat) (.inl Py)
   have h2:sgR (pv (aW [1] (fs.map ag)) ((B:Int):Rat))=0:=by
    rw[hf]
    have h3:∀(S:List (Rat->Int)) (x:Rat) (s:Rat->Int),s∈S->s x=0->cpr x S=0:=λS x s hs h0=>by obtain⟨pre,post,rfl⟩:=Rt hs;rw[pT];show _*(-s x*_)=0;rw[h0];simp
    rw[h3 _ _ _ hmem (by rw[int1];exact z)];rfl
   rcases bH (pv (aW [1] (fs.map ag)) ((B:Int):Rat))with⟨a,c⟩ |⟨a,c⟩ |⟨a,c⟩
   ·omega
   ·grind
   ·omega
  ·omega
 ·have hlt:((-(M+B):Int):Rat)<((-(B:Int):Int):Rat):=PC.mpr (by omega);have no:=zB (c7 _) (.inl rfl) hS hf δ0 hp hlt (λz _ h2=>away z (.inr (by rw[QU]at h2;exact h2))) hmem;rw[int1,int1]at no;have hfr:=(hfar (M+B) (by omega)).2;rcases cO l (-(B:Int)) 1 with z |z |z
  ·omega
  ·exact absurd ⟨hfr,by omega⟩ no
  ·exact absurd ⟨hfr,by omega⟩ no
theorem lX{s:List Int}:∀(pre post:List (List Int)),prd (pre++s::post)=ad s (prd (pre++post))
 | [],post=>rfl
 |t::pre,post=>by show ad t (prd (pre++s::post))=ad s (ad t (prd (pre++post)));rw[lX pre post];ac_rfl
theorem zv{l:List Int}(h:Pln l):ad [1] l=l:=one_mul l h.tr
theorem KZ{ss:List (List Int)}(hp:∀s∈ss,Pri s)(hn:ss.Nodup){E:List Int}(hE:Pln E)(hl:E.length=3)(hd:Dv E (prd ss)):E∈ss\/∃p q,p∈ss/\q∈ss/\p≠q/\E=ad p q:=by
 have ne1:E≠[1]:=λz=>by rw[z]at hl;cases hl
 obtain⟨p,hpm,hpd⟩:=(pO ss hp hE hd).resolve_left ne1;have pp:=hp p hpm;obtain⟨q,hq,eq⟩:=Dv.fellow pp.pln hE.tr hE.ne hpd;rw[hE.plain]at eq;have hlen:=bM hq.ne pp.pln.ne;rw[eq,hl]at hlen;have l2:=pp.two;have ql:=Pq.mpr hq.ne;rcases Nat.lt_or_ge p.length 3 with z |z
 ·
  have lp:p.length=2:=by omega
  have lq:q.length=2:=by omega
  obtain⟨pre,post,rfl⟩:=Rt hpm
  have hd2:Dv (ad p q) (ad p (prd (pre++post))):=by
   rw[<- lX];have:ad p q=E:=by rw[<- eq];ac_rfl
   rw[this];exact hd
  have hd3:=Dv.cancel pp.pln.ne pp.pln.tr hd2
  have ho:∀s∈pre++post,Pri s:=λs hs=>hp s (by
   rcases PV.mp hs with w |w
   ·exact QI _ w
   ·exact Qm _ (Pz _ w))
  have nq1:q≠[1]:=λw=>by rw[w]at lq;cases lq
  obtain⟨p',hpm',hpd'⟩:=(pO (pre++post) ho hq hd3).resolve_left nq1;have pp':=ho p' hpm';obtain⟨r,hr,er⟩:=Dv.fellow pp'.pln hq.tr hq.ne hpd';rw[hq.plain]at er;have hlen':=bM hr.ne pp'.pln.ne;rw[er,lq]at hlen';have l2':=pp'.two;have rl:=Pq.mpr hr.ne;have r1:=hr.const (by omega);rw[r1,zv pp'.pln]at er
  have hmem:p'∈pre++p::post:=by
   rcases PV.mp hpm' with w |w
   ·exact QI _ w
   ·exact Qm _ (Pz _ w)
  refine .inr ⟨p,p',hpm,hmem,λw=>?_,?_⟩
  ·rw[List.nodup_append]at hn;rcases PV.mp hpm' with y |y
   ·exact hn.2.2 p' y p (PH ..) w.symm
   ·exact(QW.mp hn.2.1).1 (w ▸ y)
  ·rw[er,<- eq];ac_rfl
 ·left;have q1:=hq.const (by omega);rw[q1,zv pp.pln]at eq;rw[<- eq];exact hpm
theorem vB(u b:Int)(x:Rat):((b*x.num-u*(x.den:Int):Int):Rat)=((b:Rat)*x-(u:Rat))*((x.den:Int):Rat):=by rw[Ri,Pp,Pp,oQ x];grind
theorem Hz(u b:Int)(x:Rat):b*x.num-u*(x.den:Int)<0↔(b:Rat)*x-(u:Rat)<0:=by
 have hd:(0:Rat)<((x.den:Int):Rat):=PC.mpr (dG x);rw[<- PC,vB];constructor
 ·intro h;refine Qv.mp λz=>?_
  have:=PJ z (Pm hd);have e:((0:Int):Rat)=0:=rfl;grind
 ·intro h;have:=PB (show 0 < -((b:Rat)*x-(u:Rat)) by grind) hd;have e:((0:Int):Rat)=0:=rfl;grind
theorem xC(u e b:Int)(x:Rat):((b*x.num-u*(x.den:Int))*(b*x.num-u*(x.den:Int))<e*(x.den:Int)*(x.den:Int)↔((b:Rat)*x-(u:Rat))*((b:Rat)*x-(u:Rat))<(e:Rat))/\(e*(x.den:Int)*(x.den:Int)<(b*x.num-u*(x.den:Int))*(b*x.num-u*(x.den:Int))↔(e:Rat)<((b:Rat)*x-(u:Rat))*((b:Rat)*x-(u:Rat))):=by
 have hd:(0:Rat)<((x.den:Int):Rat):=PC.mpr (dG x);have hdd:=PB hd hd;have e1:(((b*x.num-u*(x.den:Int))*(b*x.num-u*(x.den:Int)):Int):Rat)=((b:Rat)*x-(u:Rat))*((b:Rat)*x-(u:Rat))*(((x.den:Int):Rat)*((x.den:Int):Rat)):=by rw[Pp,vB];grind
 have e2:((e*(x.den:Int)*(x.den:Int):Int):Rat)=(e:Rat)*(((x.den:Int):Rat)*((x.den:Int):Rat)):=by rw[Pp,Pp];grind
 have key:∀p q:Rat,(p*(((x.den:Int):Rat)*((x.den:Int):Rat))<q*(((x.den:Int):Rat)*((x.den:Int):Rat)))↔p<q:=λp q=>⟨λh=>Qv.mp λz=>by
  have:=PD z (Pm hdd)
  grind,λh=>Qr h hdd⟩
 constructor
 ·rw[<- PC,e1,e2,key]
 ·rw[<- PC,e1,e2,key]
theorem jP{u e b:Int}(x:Rat):(0<sdR [u,e,b,1] x↔(b:Rat)*x-(u:Rat)<0\/((b:Rat)*x-(u:Rat))*((b:Rat)*x-(u:Rat))<(e:Rat)):=by have h:sdR [u,e,b,1] x=bh (e*(x.den:Int)*(x.den:Int)) (b*x.num-u*(x.den:Int)):=rfl;rw[h,<- Hz,<- (xC u e b x).1];rcases cj (e*(x.den:Int)*(x.den:Int)) (b*x.num-u*(x.den:Int))with⟨z,w⟩ |⟨z,w⟩ |⟨z,w⟩<;>rw[z]<;>omega
theorem nV{u e b:Int}(x:Rat):(0<sdR [u,e,b,-1] x↔(b:Rat)*x-(u:Rat)<=0/\(e:Rat)<((b:Rat)*x-(u:Rat))*((b:Rat)*x-(u:Rat))):=by
 have h:sdR [u,e,b,-1] x=0-bh (e*(x.den:Int)*(x.den:Int)) (0-(b*x.num-u*(x.den:Int))):=rfl;have e1:(0-(b*x.num-u*(x.den:Int)))*(0-(b*x.num-u*(x.den:Int)))=(b*x.num-u*(x.den:Int))*(b*x.num-u*(x.den:Int)):=by grind
 have hle:(b:Rat)*x-(u:Rat)<=0↔0<=0-(b*x.num-u*(x.den:Int)):=by
  have hd:(0:Rat)<((x.den:Int):Rat):=PC.mpr (dG x);have e3:=vB u b x;constructor
  ·intro h
   have:¬(0<b*x.num-u*(x.den:Int)):=λz=>by have z':=PC.mpr z;rw[e3]at z';have:=PJ (show 0 <= -((b:Rat)*x-(u:Rat)) by grind) (Pm hd);have e:((0:Int):Rat)=0:=rfl;grind
   omega
  ·intro h;refine PZ.mp λz=>?_
   have:=PB z hd;rw[<- e3]at this;have:=PC.mp (show((0:Int):Rat)<_ from this);omega
 rw[h,hle,<- (xC u e b x).2];rcases cj (e*(x.den:Int)*(x.den:Int)) (0-(b*x.num-u*(x.den:Int)))with⟨z,w⟩ |⟨z,w⟩ |⟨z,w⟩<;>rw[z]<;>rw[e1]at w<;>omega
structure Two(u e b x y x' y':Rat):Prop where
 xp:b*x-u<0\/(b*x-u)*(b*x-u)<e
 yp:0<=b*y-u/\e<=(b*y-u)*(b*y-u)
 xm:b*x'-u<=0/\e<(b*x'-u)*(b*x'-u)
 ym:0<b*y'-u\/(b*y'-u)*(b*y'-u)<=e
theorem EI{a c:Rat}(hc:0<=c)(h:a*a<c*c):a<c:=Qv.mp λz=>by have:=PJ (show 0<=a-c by grind) (show 0<=a+c by grind);grind
theorem EJ{a c:Rat}(hc:0<=c)(h:a*a<=c*c):a<=c:=PZ.mp λz=>by have:=PB (show 0<a-c by grind) (show 0<a+c by grind);grind
theorem Two.sum{u e b x y x' y':Rat}(h:Two u e b x y x' y'):2*u<=b*(y+y')/\b*(x+x')<2*u:=by
 obtain⟨xp,yp,xm,ym⟩:=h;constructor
 ·rcases ym with z |z
  ·grind
  ·have : -(b*y'-u)<=b*y-u:=EJ yp.1 (by grind);grind
 ·rcases xp with z |z
  ·grind
  ·have:b*x-u < -(b*x'-u):=EI (by grind) (by grind);grind
noncomputable def mx(a b:Rat):Rat:=if a<b then b else a
theorem zM(a b:Rat):a<=mx a b:=by unfold mx;split<;>grind
theorem zL(a b:Rat):b<=mx a b:=by unfold mx;split<;>grind
theorem zN(a b:Rat):mx a b=a\/mx a b=b:=by unfold mx;split<;>simp
theorem bil{X Y X' Y' a a' m:Rat}(h1:X<=a)(h2:a<=Y)(h3:X'<=a')(h4:a'<=Y')(c1:X*X'<=m)(c2:X*Y'<=m)(c3:Y*X'<=m)(c4:Y*Y'<=m):a*a'<=m:=by
 have g1:X*a'<=m:=by
  rcases P5 (a:=0) (b:=X)with z |z
  ·have:=PJ z (show 0<=Y'-a' by grind);grind
  ·have:=PJ (show 0 <= -X by grind) (show 0<=a'-X' by grind);grind
 have g2:Y*a'<=m:=by
  rcases P5 (a:=0) (b:=Y)with z |z
  ·have:=PJ z (show 0<=Y'-a' by grind);grind
  ·have:=PJ (show 0 <= -Y by grind) (show 0<=a'-X' by grind);grind
 rcases P5 (a:=0) (b:=a')with z |z
 ·have:=PJ z (show 0<=Y-a by grind);grind
 ·have:=PJ (show 0 <= -a' by grind) (show 0<=a-X by grind);grind
theorem Two.prod{u e b x y x' y' m w N:Rat}(h:Two u e b x y x' y')(hb:0<b)(he:0<e)(hirr:∀q:Rat,q*q≠e)(hxy:x<y)(hxy':x'<y')(hw:y-x<=w)(hw':y'-x'<=w)(n1:Bd N x)(n2:Bd N y)(n3:Bd N x')(n4:Bd N y')
 (c1:x*x'<=m) (c2:x*y'<=m) (c3:y*x'<=m) (c4:y*y'<=m) (hm:m=x*x'\/m=x*y'\/m=y*x'\/m=y*y'):u*u-e<b*b*m/\b*b*m<=u*u-e+2*(b*b)*(w*N):=by
 have hs:=h.sum;obtain⟨xp,yp,xm,ym⟩:=h;have hbb:=PB hb hb
 have scale:∀a a':Rat,b*x-u<=a->a<=b*y-u->b*x'-u<=a'->a'<=b*y'-u->(a+u)*(a'+u)<=b*b*m:=λa a' g1 g2 g3 g4=>by
  have e1:∀p q:Rat,b*p*(b*q)=b*b*(p*q):=λp q=>by grind
  have k:∀p q:Rat,p*q<=m->b*p*(b*q)<=b*b*m:=λp q hpq=>by rw[e1];exact Px hpq (Pm hbb)
  exact bil (X:=b*x) (Y:=b*y) (X':=b*x') (Y':=b*y') (by grind) (by grind) (by grind) (by grind) (k _ _ c1) (k _ _ c2) (k _ _ c3) (k _ _ c4)
 constructor
 ·obtain⟨a,a0,ae,ax,ay,am⟩:∃a:Rat,0<=a/\a*a<e/\b*x-u<=a/\a<=b*y-u /\ -(b*y'-u)<=a/\a <= -(b*x'-u):=by
   have p1:=zM (b*x-u) (mx (-(b*y'-u)) 0);have p2:=zL (b*x-u) (mx (-(b*y'-u)) 0);have p3:=zM (-(b*y'-u)) 0;have p4:=zL (-(b*y'-u)) 0
   have hX:b*x-u<=b*y-u:=by have:=PB hb (show 0<y-x by grind);grind
   have hX':b*x'-u<=b*y'-u:=by have:=PB hb (show 0<y'-x' by grind);grind
   have q1:=zN (b*x-u) (mx (-(b*y'-u)) 0);have q2:=zN (-(b*y'-u)) 0;have hxm:=xm.1;have hyp:=yp.1;refine⟨mx (b*x-u) (mx (-(b*y'-u)) 0),by grind,?_,p1,?_,by grind,?_⟩
   ·rcases q1 with z |z
    ·rw[z]at p2 ⊢;rcases xp with w |w
     ·grind
     ·exact w
    ·rw[z];rcases q2 with z2 |z2
     ·rw[z2]at p4 ⊢;have e1 : -(b*y'-u) * -(b*y'-u)=(b*y'-u)*(b*y'-u):=by grind
      rw[e1];rcases ym with w |w
      ·grind
      ·have:=hirr (b*y'-u);grind
     ·rw[z2];grind
   ·rcases q1 with z |z
    ·rw[z];exact hX
    ·rw[z];rcases q2 with z2 |z2
     ·rw[z2];grind
     ·rw[z2];exact hyp
   ·rcases q1 with z |z
    ·rw[z];grind
    ·rw[z];rcases q2 with z2 |z2
     ·rw[z2];grind
     ·rw[z2];grind
  have:=scale a (-a) ax ay (by grind) (by grind);grind
 ·obtain⟨c,c0,ce,cx,cy,cm,cm'⟩:∃c:Rat,0<=c/\e<=c*c/\b*x-u<=c/\c<=b*y-u /\ -(b*y'-u)<=c/\c <= -(b*x'-u):=by
   have hX:b*x-u<=b*y-u:=by have:=PB hb (show 0<y-x by grind);grind
   have hX':b*x'-u<=b*y'-u:=by have:=PB hb (show 0<y'-x' by grind);grind
   rcases P5 (a:=b*y-u) (b := -(b*x'-u))with z |z
   ·exact⟨b*y-u,yp.1,yp.2,hX,Py,by grind,z⟩
   ·refine⟨-(b*x'-u),by grind,by grind,by grind,z,by grind,Py⟩
  have hbw:0<=b*w:=PJ (Pm hb) (by grind)
  have side:∀p q:Rat,b*x-u<=b*p-u->b*p-u<=b*y-u->b*x'-u<=b*q-u->b*q-u<=b*y'-u->Bd N p->b*b*(p*q)<=u*u-e+2*(b*b)*(w*N):=λp q g1 g2 g3 g4 hp=>by
   have w1:b*(y-x)<=b*w:=Px hw (Pm hb);have w2:b*(y'-x')<=b*w:=Px hw' (Pm hb);have d1:Bd (b*w) (b*p-u-c):=⟨by grind,by grind⟩;have d2:Bd (b*w) (b*q-u+c):=⟨by grind,by grind⟩;have bN1:b*x'<=u-c/\u-c<=b*y':=⟨by grind,by grind⟩
   have k1 : -(b*N)<=b*x':=by have:=Px n3.1 (Pm hb);grind
   have k2:b*y'<=b*N:=Px n4.2 (Pm hb);have d3:Bd (b*N) (u-c):=⟨by grind,by grind⟩
   have d4:Bd (b*N) (b*p):=by obtain⟨r1,r2⟩:=hp;have s1:=Px r1 (Pm hb);have s2:=Px r2 (Pm hb);exact⟨by grind,s2⟩
   obtain⟨_,z1⟩:=d1.mul d3;obtain⟨_,z2⟩:=d2.mul d4;have e1:b*b*(p*q)=(c+u)*(u-c)+((b*p-u-c)*(u-c)+(b*q-u+c)*(b*p)):=by grind
   have e2:b*w*(b*N)=b*b*(w*N):=by grind
   rw[e2]at z1 z2;grind
  have hX:b*x-u<=b*y-u:=by have:=PB hb (show 0<y-x by grind);grind
  have hX':b*x'-u<=b*y'-u:=by have:=PB hb (show 0<y'-x' by grind);grind
  rcases hm with rfl |rfl |rfl |rfl
  ·exact side x x' Py hX Py hX' n1
  ·exact side x y' Py hX hX' Py n1
  ·exact side y x' hX Py Py hX' n2
  ·exact side y y' hX Py hX' Py n2
theorem Bb{c t b Z:Int}(hb:0<b)(h1:(Z:Rat)<=(c:Rat)*((t:Rat)/(b:Rat)))(h2:(c:Rat)*((t:Rat)/(b:Rat))<(Z:Rat)+1):c*t/b=Z:=by
 have hb':(0:Rat)<(b:Rat):=PC.mpr hb;have e1:(t:Rat)/(b:Rat)*(b:Rat)=(t:Rat):=PK (by grind);have g1:=PD h1 (Pm hb');have g2:=Qr h2 hb'
 have e2:(c:Rat)*((t:Rat)/(b:Rat))*(b:Rat)=((c*t:Int):Rat):=by
  rw[Pp];generalize (t:Rat)/(b:Rat)=q at *
  rw[<- e1];grind
 rw[e2]at g1 g2
 have i1:Z*b<=c*t:=by have:=g1;rw[<- Pp]at this;exact QC.mp this
 have i2:c*t<(Z+1)*b:=by
  have e3:((Z:Rat)+1)*(b:Rat)=(((Z+1)*b:Int):Rat):=by rw[Pp,QH];rfl
  rw[e3]at g2;exact PC.mp g2
 refine Int.le_antisymm ?_ ?_
 ·have:=(Int.ediv_lt_iff_lt_mul hb).mpr i2;omega
 ·exact(Int.le_ediv_iff_mul_le hb).mpr i1
theorem BL{x y:Rat}:∀{S:List (Rat->Int)},(S.Pairwise λs t=>¬(inC s x y/\inC t x y))->cnt S x y<=1
 | [],_=>by rw[BK];decide
 |s::S,h=>by
  obtain⟨h1,h2⟩:=List.pairwise_cons.mp h;rw[fH];have ih:=BL h2;by_cases hs:0<s x/\s y<=0
  ·rw[if_pos hs]
   have z:∀(S:List (Rat->Int)),(∀t∈S,¬(inC s x y/\inC t x y))->cnt S x y=0:=λS=>by
    induction S with
    |nil=>intro _;rfl
    |cons t S ih =>intro h;rw[fH,ih λu hu=>h u (Pz _ hu),if_neg λw=>h t (PH ..) ⟨⟨Pt hs.1,hs.2⟩,⟨Pt w.1,w.2⟩⟩];rfl
   rw[z S h1];decide
  ·rw[if_neg hs];omega
theorem mW(ls:List (List Int))(t n t' n':Int):0<=bJ ls t n t' n':=by
 induction ls with
 |nil=>exact PU _
 |cons l ls ih =>
  unfold bJ at ih ⊢
  rw[Qp,List.sum_cons];split<;>omega
theorem du(l:List Int)(ls:List (List Int))(t n t' n':Int):bJ (l::ls) t n t' n'=(if 0<aj l t n/\aj l t' n'<=0 then 1 else 0)+bJ ls t n t' n':=by unfold bJ;rw[Qp,List.sum_cons]
theorem Lm{fs:List (List Int)}(hF:∀f∈fs,fJ f){a1 a2 b1 b2 c1 c2:Int}(a:0<a2)(b:0<b2)(c:0<c2)(h1:a1*b2<b1*a2)(h2:b1*c2<c1*b2):bJ (aL fs) a1 a2 c1 c2=bJ (aL fs) a1 a2 b1 b2+bJ (aL fs) b1 b2 c1 c2:=by
 have hS:∀s∈(aL fs).map sdR,Cut s:=λs hs=>by obtain⟨l,hl,rfl⟩:=PF.mp hs;exact iR (cX hF hl)
 rw[<- kI a c,<- kI a b,<- kI b c];exact vI ((gd a b).mpr h1) ((gd b c).mpr h2) hS
theorem Ll{fs:List (List Int)}(hF:∀f∈fs,FacG f)(hn:(fs.map ag).Nodup){l1 l2 h1 h2:Int}(l2p:0<l2)(h2p:0<h2)(lt:l1*h2<h1*l2)(hw:(h1*l2-l1*h2)*2^200<=l2*h2):bJ (aL fs) l1 l2 h1 h2<=1:=by
 rw[<- kI l2p h2p];refine BL ?_;rw[List.pairwise_map]
 have hd:(h1:Rat)/(h2:Rat)-(l1:Rat)/(l2:Rat)<=1/2^200:=by
  have L2:(0:Rat)<(l2:Rat):=PC.mpr l2p;have H2:(0:Rat)<(h2:Rat):=PC.mpr h2p;have e1:(l1:Rat)/(l2:Rat)*(l2:Rat)=(l1:Rat):=PK (Qs L2);have e2:(h1:Rat)/(h2:Rat)*(h2:Rat)=(h1:Rat):=PK (Qs H2);generalize (l1:Rat)/(l2:Rat)=x at e1 ⊢
  generalize (h1:Rat)/(h2:Rat)=y at e2 ⊢
  have hw':((h1:Rat)*(l2:Rat)-(l1:Rat)*(h2:Rat))*2^200<=(l2:Rat)*(h2:Rat):=by have:=QC.mpr hw;rw[Pp,Pp,Ri,Pp,Pp]at this;exact this
  have M:(0:Rat)<(l2:Rat)*(h2:Rat):=PB L2 H2;have P:(0:Rat)<2^200:=Rat.pow_pos (by decide);rw[<- e1,<- e2]at hw';have e3:(y*(h2:Rat)*(l2:Rat)-x*(l2:Rat)*(h2:Rat))*2^200=((y-x)*2^200)*((l2:Rat)*(h2:Rat)):=by grind
  rw[e3]at hw'
  have h4:(y-x)*2^200<=1:=by
   refine PZ.mp λz=>?_
   have:=PB (show 0<(y-x)*2^200-1 by grind) M;grind
  have e5:(1:Rat)/2^200*2^200=1:=PK (Qs P);refine PZ.mp λz=>?_
  have:=PB (show 0<(y-x)-1/2^200 by grind) P;grind
 exact(qz hF hn).imp_of_mem λ{l l'} hl hl' h=>v6 (cX (λf hf=>(hF f hf).q) hl) (cX (λf hf=>(hF f hf).q) hl') h ((gd l2p h2p).mpr lt) hd
theorem BM{l1 l2 h1 h2:Int}:∀{ls:List (List Int)},bJ ls l1 l2 h1 h2=0->∀x∈ls,¬(0<aj x l1 l2/\aj x h1 h2<=0)
 | [],_,x,hx=>nomatch hx
 |l::ls,h,x,hx=>by
  rw[du]at h;have nn:=mW ls l1 l2 h1 h2;by_cases hl:0<aj l l1 l2/\aj l h1 h2<=0
  ·rw[if_pos hl]at h;omega
  ·rw[if_neg hl]at h;rcases Pu.mp hx with rfl |z
   ·exact hl
   ·exact BM (by omega) x z
theorem mV{l1 l2 h1 h2:Int}:∀{ls:List (List Int)},bJ ls l1 l2 h1 h2=1->∃pre s post,ls=pre++s::post/\(0<aj s l1 l2/\aj s h1 h2<=0)/\∀x∈pre++post,¬(0<aj x l1 l2/\aj x h1 h2<=0)
 | [],h=>by cases h
 |l::ls,h=>by
  rw[du]at h;by_cases hl:0<aj l l1 l2/\aj l h1 h2<=0
  ·rw[if_pos hl]at h;exact⟨[],l,ls,rfl,hl,BM (ls:=ls) (by omega)⟩
  ·rw[if_neg hl]at h;obtain⟨pre,s,post,rfl,e2,e3⟩:=mV (l1:=l1) (l2:=l2) (h1:=h1) (h2:=h2) (ls:=ls) (by omega);refine⟨l::pre,s,post,rfl,e2,λx hx=>?_⟩;rcases Pu.mp hx with rfl |z
   ·exact hl
   ·exact e3 x z
theorem BO{l1 l2 h1 h2:Int}:∀{ls:List (List Int)} {s:List Int},s∈ls->(0<aj s l1 l2/\aj s h1 h2<=0)->1<=bJ ls l1 l2 h1 h2
 |l::ls,s,hs,h=>by
  rw[du];have nn:=mW ls l1 l2 h1 h2;rcases Pu.mp hs with rfl |z
  ·rw[if_pos h];omega
  ·have:=BO z h;split<;>omega
structure Dya(B:Int)(d:Nat)(l1 l2 h1 h2:Int):Prop where
 l2p:0<l2
 h2p:0<h2
 gl:Nat.gcd l1.natAbs l2.natAbs=1
 gh:Nat.gcd h1.natAbs h2.natAbs=1
 at':∃m:Int,0<=m/\m+1<=2^d/\l1*2^d=(2*m*B-B*2^d)*l2/\h1*2^d=(2*(m+1)*B-B*2^d)*h2
theorem Bt{X l1 l2:Int}{d k:Nat}(l2p:0<l2)(g:Nat.gcd l1.natAbs l2.natAbs=1)(e:l1*2^d=X*l2)(hX:X.natAbs<=2^k)(hk:d<=k):l1.natAbs<=2^k/\l2.natAbs<=2^k:=by
 have e':l1.natAbs*2^d=X.natAbs*l2.natAbs:=by have:=congrArg Int.natAbs e;rw[PL,PL,RG]at this;exact this
 have hd:l2.natAbs∣2^d:=by refine Nat.Coprime.dvd_of_dvd_mul_left (k:=l2.natAbs) (m:=l1.natAbs) (by rw[Nat.Coprime,Ro];exact g) ?_;exact⟨X.natAbs,by rw[e',QK]⟩
 have p2:0<2^d:=QM (by decide);have hle:=Nat.le_of_dvd p2 hd;refine⟨?_,PM hle (RQ (by decide) hk)⟩;have h1:l1.natAbs*2^d<=X.natAbs*2^d:=by rw[e'];exact QP _ hle
 exact PM (RZ h1 p2) hX
theorem zy{B D m:Int}{N:Nat}(hN:(N:Int)=B*D)(B0:0<B)(m0:0<=m)(m1:m<=D):(2*m*B-B*D).natAbs<=N:=by
 have k1:0<=m*B:=PY m0 (Pt B0);have k2:m*B<=D*B:=Qf m1 (Pt B0);have k4:D*B=B*D:=PQ _ _;have k5:2*m*B=2*(m*B):=PR _ _ _;rw[k5];generalize m*B=x at *
 generalize B*D=y at *
 omega
theorem Dya.bits{kb d:Nat}{l1 l2 h1 h2:Int}(h:Dya (2^kb) d l1 l2 h1 h2):(l1.natAbs<=2^(kb+d)/\l2.natAbs<=2^(kb+d))/\h1.natAbs<=2^(kb+d)/\h2.natAbs<=2^(kb+d):=by
 obtain⟨l2p,h2p,gl,gh,m,m0,m1,e1,e2⟩:=h;have B0:(0:Int)<2^kb:=Qo (by decide);have eq:(((2:Nat)^(kb+d):Nat):Int)=2^kb*2^d:=by rw[Rj,Int.pow_add];rfl
 exact⟨Bt l2p gl e1 (zy eq B0 m0 (by omega)) (by omega),Bt h2p gh e2 (zy eq B0 (by omega) m1) (by omega)⟩
theorem Dya.width{B:Int}{d:Nat}{l1 l2 h1 h2:Int}(h:Dya B d l1 l2 h1 h2):(h1*l2-l1*h2)*2^d=2*B*(l2*h2):=by obtain⟨l2p,h2p,gl,gh,m,m0,m1,e1,e2⟩:=h;grind
theorem Dya.lt{B:Int}(hB:0<B){d:Nat}{l1 l2 h1 h2:Int}(h:Dya B d l1 l2 h1 h2):l1*h2<h1*l2:=by
 have w:=h.width;have p:(0:Int)<2^d:=Qo (by decide);have q:0<2*B*(l2*h2):=Pl (by omega) (Pl h.l2p h.h2p);rw[<- w]at q
 have:0<h1*l2-l1*h2:=QG.mp λz=>by have:=Int.mul_nonpos_of_nonpos_of_nonneg z (Pt p);omega
 omega
theorem Dya.start{B:Int}:Dya B 0 (-B) 1 B 1:=⟨by decide,by decide,RK _,RK _,0,by decide,by decide,by grind,by grind⟩
theorem Dya.half{B:Int}{d:Nat}{l1 l2 h1 h2 c1 c2:Int}(h:Dya B d l1 l2 h1 h2)(c2p:0<c2)(gc:Nat.gcd c1.natAbs c2.natAbs=1)(e:c1*(2*l2*h2)=(l1*h2+h1*l2)*c2):Dya B (d+1) l1 l2 c1 c2/\Dya B (d+1) c1 c2 h1 h2:=by
 obtain⟨l2p,h2p,gl,gh,m,m0,m1,e1,e2⟩:=h
 have ec:c1*2^(d+1)=(2*(2*m+1)*B-B*2^(d+1))*c2:=by
  have hp:0<l2*h2:=Pl l2p h2p;refine RE (a:=l2*h2) (by omega) ?_;rw[P8];have q1:c1*(2^d*2)*(l2*h2)=c1*(2*l2*h2)*2^d:=by grind
  rw[q1,e];have q2:(l1*h2+h1*l2)*c2*2^d=(l1*2^d*h2+h1*2^d*l2)*c2:=by grind
  rw[q2,e1,e2];grind
 have p2:(2:Int)^(d+1)=2^d*2:=P8 ..;refine⟨⟨l2p,c2p,gl,gc,2*m,by omega,by omega,?_,ec⟩,⟨c2p,h2p,gc,gh,2*m+1,by omega,by omega,ec,?_⟩⟩
 ·rw[p2,<- PR,e1];grind
 ·rw[p2,<- PR,e2];grind
theorem Dya.few{fs:List (List Int)}(hF:∀f∈fs,FacG f)(hn:(fs.map ag).Nodup){kb d:Nat}{l1 l2 h1 h2:Int}(h:Dya (2^kb) d l1 l2 h1 h2)(hd:kb+201<=d):bJ (aL fs) l1 l2 h1 h2<=1:=by
 have B0:(0:Int)<2^kb:=Qo (by decide);refine Ll hF hn h.l2p h.h2p (h.lt B0) ?_;have w:=h.width;obtain⟨j,rfl⟩:∃j,d=kb+201+j:=⟨d-(kb+201),by omega⟩
 have e:(2:Int)^(kb+201+j)=2*2^kb*(2^200*2^j):=by rw[Int.pow_add,Int.pow_add,show(2:Int)^201=2*2^200 by decide];grind
 have j0:(1:Int)<=2^j:=by have:=Qo (n:=2) (m:=j) (by decide);omega
 rw[e]at w;have lp:=h.lt B0;have e2:(h1*l2-l1*h2)*(2*2^kb*(2^200*2^j))=2*2^kb*((h1*l2-l1*h2)*2^200*2^j):=by grind
 rw[e2]at w;have w2:=R0 (show 2*(2:Int)^kb≠0 by omega) w;have q:0<=(h1*l2-l1*h2)*2^200:=PY (by omega) (Pt (Qo (by decide)));have:=Q5 j0 q;rw[Qe]at this;rw[<- w2];exact this
noncomputable def prQ(fs:List (List Int)):List Int:=aW [1] (fs.map ag)
structure Fam(fs:List (List Int)):Prop where
 fac:∀f∈fs,FacG f
 nd:(fs.map ag).Nodup
variable {fs:List (List Int)}
theorem Fam.q(h:Fam fs):∀f∈fs,fJ f:=λf hf=>(h.fac f hf).q
theorem Fam.pri(h:Fam fs):∀s∈fs.map ag,Pri s:=λs hs=>by obtain⟨f,hf,rfl⟩:=PF.mp hs;exact fG (h.fac f hf)
theorem Fam.prd(h:Fam fs):prQ fs=prd (fs.map ag):=zf h.pri
theorem Fam.pln(h:Fam fs):Pln (prQ fs):=by rw[h.prd];exact iW _ λs hs=>(h.pri s hs).pln
theorem Fam.one(h:Fam fs):ad [1] (prQ fs)=prQ fs:=one_mul _ h.pln.tr
theorem Fam.sign(h:Fam fs){t n:Int}(hn:0<n):sg (hv t n (prQ fs))=spr t n (aL fs):=by have:=lT (t:=t) (n:=n) (c:=1) hn h.q;rw[show ad [1] (aW [1] (fs.map ag))=aW [1] (fs.map ag)from h.one]at this;rw[show sg 1=1 from rfl,P7]at this;exact this
theorem qw{t n:Int}:∀{ls:List (List Int)},spr t n ls=0->∃s∈ls,aj s t n=0
 | [],h=>by cases h
 |l::ls,h=>by
  rcases Qk.mp (show -aj l t n*spr t n ls=0 from h)with z |z
  ·exact⟨l,PH ..,by omega⟩
  ·obtain⟨s,hs,e⟩:=qw z;exact⟨s,Pz _ hs,e⟩
theorem Fam.sub{fs gs:List (List Int)}(h:Fam fs)(s:gs.Sublist fs):Fam gs:=⟨λf hf=>h.fac f (s.subset hf),h.nd.sublist (s.map _)⟩
theorem Fam.single(h:Fam fs){f:List Int}(hf:f∈fs):Fam [f]:=h.sub (List.singleton_sublist.mpr hf)
theorem ke{f:List Int}(h:Fam [f]):prQ [f]=ag f:=by rw[h.prd];show ad (ag f) [1]=_;exact cW _
structure OneS(fs:List (List Int))(f0 s0:List Int)(l1 l2 h1 h2:Int):Prop where
 fam:Fam fs
 mem:f0∈fs
 sp:s0∈spF f0
 l2p:0<l2
 h2p:0<h2
 lt:l1*h2<h1*l2
 inn:0<aj s0 l1 l2/\aj s0 h1 h2<=0
 only:∀s∈aL fs,0<aj s l1 l2->aj s h1 h2<=0->s=s0
theorem Ga{l1 l2 h1 h2:Int}(hF:Fam fs)(l2p:0<l2)(h2p:0<h2)(lt:l1*h2<h1*l2)(h:bJ (aL fs) l1 l2 h1 h2=1):∃f0 s0,OneS fs f0 s0 l1 l2 h1 h2:=by
 obtain⟨pre,s,post,e,hin,hno⟩:=mV h;have hs:s∈aL fs:=by rw[e];simp
 obtain⟨f0,hf0,hsp⟩:=QQ.mp hs;refine⟨f0,s,hF,hf0,hsp,l2p,h2p,lt,hin,λx hx a b=>?_⟩;rw[e]at hx;rcases PV.mp hx with z |z
 ·exact absurd ⟨a,b⟩ (hno x (QI _ z))
 ·rcases Pu.mp z with z |z
  ·exact z
  ·exact absurd ⟨a,b⟩ (hno x (Qm _ z))
variable {f0 s0:List Int}{l1 l2 h1 h2:Int}
theorem qW{s:List Int}(hs:Spt s){t n t' n':Int}(hn:0<n)(hn':0<n')(h:t*n'<=t'*n)(hz:aj s t n<=0):aj s t' n'<=0:=by
 rcases Q7 h with w |w
 ·have:=fM hs hn hn' w hz;omega
 ·rw[<- jY s hn hn' w];exact hz
theorem OneS.zero(h:OneS fs f0 s0 l1 l2 h1 h2){x1 x2:Int}(x2p:0<x2)(a:l1*x2<x1*l2)(b:x1*h2<=h1*x2)(z:hv x1 x2 (prQ fs)=0):aj s0 x1 x2=0:=by
 have hs:=h.fam.sign (t:=x1) (n:=x2) x2p;rw[z]at hs;obtain⟨s,hm,hz⟩:=qw (show spr x1 x2 (aL fs)=0 from hs.symm);have hS:=cX h.fam.q hm
 have e:s=s0:=by refine h.only s hm (QG.mp λw=>?_) (qW hS x2p h.h2p b (by omega));have:=fM hS h.l2p x2p a w;omega
 rw[<- e];exact hz
theorem qB{u e b:Int}{s:List Int}(h:s∈spF [u,e,b]):∃σ:Int,s=[u,e,b,σ]/\(σ=1/\0<=e\/σ = -1/\0<e):=by
 unfold spF at h
 rcases PV.mp h with w |w
 ·split at w
  ·rename_i he
   exact⟨1,Pw.mp w,.inl ⟨rfl,he⟩⟩
  ·cases w
 ·split at w
  ·rename_i he
   exact⟨-1,Pw.mp w,.inr ⟨rfl,he⟩⟩
  ·cases w
theorem iM{u e b σ t n:Int}(hNS:NS e)(he:0<e)(hn:0<n):aj [u,e,b,σ] t n≠0:=λz=>by
 unfold aj at z
 have key:∀d:Int,bh (e*n*n) d=0->False:=λd hd=>by
  rcases cj (e*n*n) d with⟨c,_⟩ |⟨_,_,c⟩ |⟨c,_⟩
  ·omega
  ·exact hNS.no (x:=n) (y:=d) (by omega) (by omega) (by rw[c];grind)
  ·omega
 split at z
 ·exact key _ z
 ·exact key _ (by have:0-bh (e*n*n) (0-(b*t-u*n))=0:=z;show bh (e*n*n) (0-(b*t-u*n))=0;omega)
theorem vk{u e b:Int}(h:FacG [u,e,b]):1<=b/\NS e:=by obtain⟨u',e',b',he,_,_,_,_,h5,_,h7⟩:=h;cases he;exact⟨h5,h7⟩
theorem OneS.cases(h:OneS fs f0 s0 l1 l2 h1 h2):∃u e b σ:Int,f0=[u,e,b]/\s0=[u,e,b,σ]/\1<=b/\NS e/\(σ=1/\e=0\/(σ=1\/σ = -1)/\0<e):=by
 obtain⟨u,e,b,rfl,_⟩:=h.fam.fac f0 h.mem;obtain⟨hb,hn⟩:=vk (h.fam.fac _ h.mem);obtain⟨σ,rfl,hσ⟩:=qB h.sp;refine⟨u,e,b,σ,rfl,rfl,hb,hn,?_⟩;rcases hσ with⟨a,c⟩ |⟨a,c⟩
 ·rcases Q7 c with w |w
  ·exact .inr ⟨.inl a,w⟩
  ·exact .inl ⟨a,w.symm⟩
 ·exact .inr ⟨.inr a,c⟩
theorem OneS.none(h:OneS fs f0 s0 l1 l2 h1 h2){u e b σ:Int}(ef:s0=[u,e,b,σ])(hN:NS e)(he:0<e){x1 x2:Int}(x2p:0<x2)(a:l1*x2<x1*l2)(c:x1*h2<=h1*x2):hv x1 x2 (prQ fs)≠0:=λz=>by have:=h.zero x2p a c z;rw[ef]at this;exact iM hN he x2p this
theorem As(h:Fam fs)(hf:f0∈fs):∃r:Int,0<r/\aq (prQ fs)=aq (ag f0)*r:=by
 obtain⟨pre,post,e⟩:=Rt (List.mem_map_of_mem (f:=ag) hf);have hp:=h.pri;rw[h.prd];rw[e]at hp ⊢;have hq:Pln (RM.prd (pre++post)):=iW _ λs hs=>(hp s (by simp at hs ⊢;rcases hs with z |z<;>simp[z])).pln
 have hs:Pln (ag f0):=(hp _ (by simp)).pln;rw[lX,uL hs.ne hq.ne];exact⟨_,hq.pos,rfl⟩
theorem EW{a b c d:Int}(hb:0<b)(hd:0<d)(g1:Nat.gcd a.natAbs b.natAbs=1)(g2:Nat.gcd c.natAbs d.natAbs=1)(e:a*d=c*b):a=c/\b=d:=by
 have e':a.natAbs*d.natAbs=c.natAbs*b.natAbs:=by
  have:=congrArg Int.natAbs e
  rwa [PL,PL]at this
 have h1:b.natAbs∣d.natAbs:=Nat.Coprime.dvd_of_dvd_mul_left (k:=b.natAbs) (m:=a.natAbs) (by rw[Nat.Coprime,Ro];exact g1) ⟨c.natAbs,by rw[e',QK]⟩;have h2:d.natAbs∣b.natAbs:=Nat.Coprime.dvd_of_dvd_mul_left (k:=d.natAbs) (m:=c.natAbs) (by rw[Nat.Coprime,Ro];exact g2) ⟨a.natAbs,by rw[<- e',QK]⟩;have h3:=Nat.dvd_antisymm h1 h2;have h4:b=d:=by omega
 subst h4;exact⟨RE (by omega) e,rfl⟩
theorem ou{u b:Int}(hb:1<=b):∃g A0 A1:Int,0<g/\ag [u,0,b]=[A0,A1] /\ -u=g*A0/\b=g*A1/\0<A1/\Nat.gcd A0.natAbs A1.natAbs=1:=by
 have hr:aH u 0 b=[-u,b]:=by unfold aH;rw[if_pos rfl]
 have ht:=(eU (u:=u) (e:=0) hb).1;rw[hr]at ht;have hl:aq [-u,b]=b:=rfl;obtain⟨g,hg,e⟩:=lZ ht (by simp) (by rw[hl];omega);have hS:ag [u,0,b]=aB [-u,b]:=by show aB (aH u 0 b)=_;rw[hr]
 have hp:=fQ ht (by simp);rw[hS];have hl2:(aB [-u,b]).length=2:=RM.plain_len _;generalize aB [-u,b]=P at e hp hl2
 match P,hl2 with
 | [A0,A1],_ =>
  have e1 : -u=g*A0/\b=g*A1:=by have:[-u,b]=[g*A0,g*A1]:=e;simpa using this
  refine⟨g,A0,A1,hg,rfl,e1.1,e1.2,hp.pos,?_⟩
  have h2:av [A0,A1]=Nat.gcd A0.natAbs A1.natAbs:=by unfold av;rw[ix,ix,pG,RD]
  rw[<- h2];exact hp.prim
theorem KP{a y Z:Int}(hy:0<y)(h1:Z*y<=a)(h2:a<(Z+1)*y):a/y=Z :=
 Int.le_antisymm (Int.lt_add_one_iff.mp (Int.ediv_lt_of_lt_mul hy h2)) (Int.le_ediv_of_mul_le hy h1)
theorem side_line{u b t n:Int}:0<aj [u,0,b,1] t n↔b*t<u*n:=by
 unfold aj;rw[if_pos (show(0:Int)<cf [u,0,b,1] 3 from(by decide:(0:Int)<1))];show 0<bh (0*n*n) (b*t-u*n)↔_;rw[PX,PX];rcases cj 0 (b*t-u*n)with⟨c,d⟩ |⟨c,d,_⟩ |⟨c,d,_⟩
 ·rw[c];constructor
  ·intro _;rcases d with d |d
   ·omega
   ·have:0<=(b*t-u*n)*(b*t-u*n):=by
     rcases Int.le_total 0 (b*t-u*n)with w |w
     ·exact PY w w
     ·exact RB w w
    omega
  ·intro _;decide
 ·rw[c];constructor
  ·intro z;exact absurd z (by decide)
  ·intro z;omega
 ·rw[c];constructor
  ·intro z;exact absurd z (by decide)
  ·intro z;omega
theorem OneS.line{u b:Int}(h:OneS fs [u,0,b] [u,0,b,1] l1 l2 h1 h2){x1 x2 y1 y2 B:Int}(x2p:0<x2)(y2p:0<y2)(hB:1<=B)(lo:0<aj [u,0,b,1] x1 x2)(hi:aj [u,0,b,1] y1 y2<=0)(hlt:x1*y2<y1*x2)(hw:(y1*x2-x1*y2)*(8*aq (prQ fs)*B)<=1*(x2*y2)) :
 let Z:=aq (prQ fs)*y1/y2
 ag [u,0,b]=[-(rt Z (aq (prQ fs))),rb Z (aq (prQ fs))]/\x1*rb Z (aq (prQ fs))<rt Z (aq (prQ fs))*x2/\hv (rt Z (aq (prQ fs))) (rb Z (aq (prQ fs))) (prQ fs)=0:=by
 have hb:=(vk (h.fam.fac _ h.mem)).1;obtain⟨g,A0,A1,hg,eS,e0,e1,hA,hgcd⟩:=ou (u:=u) hb;obtain⟨r,hr,eL⟩:=As h.fam h.mem;rw[eS]at eL;have eL':aq (prQ fs)=A1*r:=eL;have lo':=side_line.mp lo;have hi':u*y2<=b*y1:=Qn.mp λz=>by have:=side_line.mpr z;omega
 have Lp:0<aq (prQ fs):=h.fam.pln.pos
 have k1 : -A0*y2<=A1*y1:=by
  refine Int.le_of_mul_le_mul_left (a:=g) ?_ hg
  have q1:g*(-A0*y2)=u*y2:=by
   have:u=g * -A0:=by grind
   rw[this];grind
  have q2:g*(A1*y1)=b*y1:=by rw[e1];grind
  omega
 have k2:A1*x1 < -A0*x2:=by
  refine RY (a:=g) ?_ (Pt hg)
  have q1:g*(-A0*x2)=u*x2:=by
   have:u=g * -A0:=by grind
   rw[this];grind
  have q2:g*(A1*x1)=b*x1:=by rw[e1];grind
  omega
 have eZ:aq (prQ fs)*y1/y2 = -A0*r:=by
  refine KP y2p ?_ ?_
  ·rw[eL'];have:=Q5 k1 (Pt hr);have q1:r*(-A0*y2) = -A0*r*y2:=by grind
   have q2:r*(A1*y1)=A1*r*y1:=by grind
   omega
  ·have w0:0<=(y1*x2-x1*y2)*aq (prQ fs):=PY (by omega) (Pt Lp);have w1:(y1*x2-x1*y2)*(8*aq (prQ fs)*B)=(y1*x2-x1*y2)*aq (prQ fs)*(8*B):=by grind
   have w2:=Q5 (show 1<=8*B by omega) w0;have w3:(y1*x2-x1*y2)*aq (prQ fs)<=x2*y2:=by omega
   rw[eL']at w3 ⊢;have w4:=R4 k2 (Pl hr y2p);refine QT (a:=x2) ?_ (Pt x2p);have q1:A1*r*y1*x2=(y1*x2-x1*y2)*(A1*r)+r*y2*(A1*x1):=by grind
   have q2:(-A0*r+1)*y2*x2=r*y2*(-A0*x2)+x2*y2:=by grind
   rw[q1,q2];omega
 intro Z;have hZ:Z = -A0*r:=eZ
 clear_value Z
 subst hZ;have L0:aq (prQ fs)≠0:=by omega
 have hc:=ge (t := -A0*r) L0;have hgr:=lK (t := -A0*r) L0;have hpr:=dA (t := -A0*r) L0
 obtain⟨m1,m2⟩:=EW (a:=rt (-A0*r) (aq (prQ fs))) (b:=rb (-A0*r) (aq (prQ fs))) (c := -A0) (d:=A1) hpr hA hgr (by rw[Int.natAbs_neg];exact hgcd) (by
  refine RE (a:=r) (by omega) ?_
  rw[PR,<- eL',hc];grind)
 rw[m1,m2];refine⟨by rw[eS,Int.neg_neg],by rw[PQ];exact k2,?_⟩;have hs:=h.fam.sign (t := -A0) (n:=A1) hA
 have hz:spr (-A0) A1 (aL fs)=0:=by
  have hm:[u,0,b,1]∈aL fs:=QQ.mpr ⟨_,h.mem,h.sp⟩
  have hside:aj [u,0,b,1] (-A0) A1=0:=by
   unfold aj;rw[if_pos (show(0:Int)<cf [u,0,b,1] 3 from(by decide:(0:Int)<1))];show bh (0*A1*A1) (b * -A0-u*A1)=0
   have:b * -A0-u*A1=0:=by
    have q:u=g * -A0:=by grind
    rw[e1,q];grind
   rw[this,PX,PX];rfl
  have z0:∀ls:List (List Int),[u,0,b,1]∈ls->spr (-A0) A1 ls=0:=λls=>by
   induction ls with
   |nil=>intro h;cases h
   |cons l ls ih =>
    intro h;show -aj l (-A0) A1*spr (-A0) A1 ls=0;rcases Pu.mp h with w |w
    ·rw[<- w,hside];omega
    ·rw[ih w,PN]
  exact z0 _ hm
 rw[hz]at hs;exact(q8 _).mp hs
theorem fO{g a b:Rat}(hg:0<g)(h:g*a<=g*b):a<=b:=PZ.mp λz=>by have:=PB hg (show 0<a-b by grind);grind
theorem tO{g a b:Rat}(hg:0<g)(h:g*a<g*b):a<b:=Qv.mp λz=>by have:=PJ (Pm hg) (show 0<=a-b by grind);grind
theorem Dy{u b g A1 A2 r L w x y x' y':Rat}(hg:0<g)(hb:0<b)(hr:0<r)(hA:0<A2)(e1 : -2*b*u=g*A1)(e2:b*b=g*A2)(eL:L=A2*r)(s1:2*u<=b*(y+y'))(s2:b*(x+x')<2*u)(hw:y-x<=w)(hw':y'-x'<=w)(hwL:4*(L*w)<=1) : -A1*r<=L*(y+y')/\L*(y+y') < -A1*r+1:=by
 have hbr:=PB hb hr;have hL:0<L:=by rw[eL];exact PB hA hr
 have q1:g*(L*(y+y'))=b*r*(b*(y+y')):=by rw[eL];grind
 have q2:g*(-A1*r)=b*r*(2*u):=by grind
 constructor
 ·refine fO hg ?_;rw[q1,q2];exact Px s1 (Pm hbr)
 ·have h1:L*(x+x') < -A1*r:=by
   refine tO hg ?_;have q3:g*(L*(x+x'))=b*r*(b*(x+x')):=by rw[eL];grind
   rw[q3,q2];have:=PB hbr (show 0<2*u-b*(x+x') by grind);grind
  have h2:=Px (show y+y'<=x+x'+2*w by grind) (Pm hL);have e3:L*(x+x'+2*w)=L*(x+x')+2*(L*w):=by grind
  grind
theorem Fv{u e b g A0 A2 r L w N m:Rat}(hg:0<g)(hr:0<r)(hA:0<A2)(e0:u*u-e=g*A0)(e2:b*b=g*A2)(eL:L=A2*r)(p1:u*u-e<b*b*m)(p2:b*b*m<=u*u-e+2*(b*b)*(w*N))(hwL:2*(L*(w*N))<1):A0*r<=L*m/\L*m<A0*r+1:=by
 have q1:g*(L*m)=r*(b*b*m):=by rw[eL];grind
 have q2:g*(A0*r)=r*(u*u-e):=by grind
 constructor
 ·refine fO hg ?_;rw[q1,q2];exact Px (Pm p1) (Pm hr)
 ·have h1:L*m<=A0*r+2*(L*(w*N)):=by
   refine fO hg ?_;have q3:g*(A0*r+2*(L*(w*N)))=r*(u*u-e+2*(b*b)*(w*N)):=by rw[eL];grind
   rw[q1,q3];exact Px p2 (Pm hr)
  grind
theorem NS.irr{e:Int}(h:NS e)(he:0<e)(q:Rat):q*q≠(e:Rat):=λz=>by have hn:=oQ q;have hd:=dG q;refine h.no (x:=(q.den:Int)) (y:=q.num) (by omega) (by omega) ?_;refine Rs.mp ?_;rw[Pp,Pp,Pp,hn,<- z];grind
theorem qX{u e b:Int}(hb:1<=b)(he:e≠0):∃g A0 A1 A2:Int,0<g/\ag [u,e,b]=[A0,A1,A2]/\u*u-e=g*A0 /\ -2*b*u=g*A1/\b*b=g*A2/\0<A2:=by
 have hr:aH u e b=[u*u-e,-2*b*u,b*b]:=by unfold aH;rw[if_neg he]
 have ht:=(eU (u:=u) (e:=e) hb).1;rw[hr]at ht;have hl:aq [u*u-e,-2*b*u,b*b]=b*b:=rfl;obtain⟨g,hg,e'⟩:=lZ ht (by simp) (by rw[hl];exact Pl (by omega) (by omega));have hS:ag [u,e,b]=aB [u*u-e,-2*b*u,b*b]:=by show aB (aH u e b)=_;rw[hr]
 have hp:=fQ ht (by simp);rw[hS];have hl2:(aB [u*u-e,-2*b*u,b*b]).length=3:=RM.plain_len _;generalize aB [u*u-e,-2*b*u,b*b]=P at e' hp hl2
 match P,hl2 with
 | [A0,A1,A2],_ =>
  have e1:u*u-e=g*A0 /\ -2*b*u=g*A1/\b*b=g*A2:=by have:[u*u-e,-2*b*u,b*b]=[g*A0,g*A1,g*A2]:=e';simpa using this
  exact⟨g,A0,A1,A2,hg,rfl,e1.1,e1.2.1,e1.2.2,hp.pos⟩
theorem yO{L B:Int}{d w:Rat}(hLB:0<L*B)(hw:w*(8*((L:Rat)*(B:Rat)))=1)(h:d*(8*((L:Rat)*(B:Rat)))<=1):d<=w:=by
 have p:(0:Rat)<8*((L:Rat)*(B:Rat)):=by have:(0:Rat)<((L*B:Int):Rat):=PC.mpr hLB;rw[Pp]at this;grind
 refine fO p ?_;grind
theorem xE{u e b L B:Int}(hF:Fam fs)(hm:[u,e,b]∈fs)(he:0<e)(hL:L=aq (prQ fs))(hB:1<=B){x y x' y' m:Rat}(T:Two u e b x y x' y')(hxy:x<y)(hxy':x'<y')(hw:(y-x)*(8*((L:Rat)*(B:Rat)))<=1)(hw':(y'-x')*(8*((L:Rat)*(B:Rat)))<=1)
 (n1:Bd (2*(B:Rat)-1/2) x) (n2:Bd (2*(B:Rat)-1/2) y) (n3:Bd (2*(B:Rat)-1/2) x') (n4:Bd (2*(B:Rat)-1/2) y') (c1:x*x'<=m) (c2:x*y'<=m) (c3:y*x'<=m) (c4:y*y'<=m) (hmm:m=x*x'\/m=x*y'\/m=y*x'\/m=y*y')
 {t1 t2 m1 m2:Int} (t2p:0<t2) (m2p:0<m2) (ht:(t1:Rat)/(t2:Rat)=y+y') (hmr:(m1:Rat)/(m2:Rat)=m):aB [L*m1/m2,-(L*t1/t2),L]=ag [u,e,b]:=by
 obtain⟨hb,hN⟩:=vk (hF.fac _ hm);obtain⟨g,A0,A1,A2,hg,eS,e0,e1,e2,hA⟩:=qX (u:=u) hb (show e≠0 by omega);obtain⟨r,hr,eL⟩:=As hF hm;rw[eS,<- hL]at eL;have eL':L=A2*r:=eL;have Lp:0<L:=by rw[eL'];exact Pl hA hr
 have LB:0<L*B:=Pl Lp (by omega);have cL:(0:Rat)<(L:Rat):=PC.mpr Lp;have cB:(1:Rat)<=(B:Rat):=QC.mpr hB
 have cp:(0:Rat)<8*((L:Rat)*(B:Rat)):=by have:=PB cL (show(0:Rat)<(B:Rat) by grind);grind
 obtain⟨w,hwd⟩:∃w:Rat,w*(8*((L:Rat)*(B:Rat)))=1:=⟨1/(8*((L:Rat)*(B:Rat))),PK (Qs cp)⟩;have h1:=yO LB hwd hw;have h2:=yO LB hwd hw';have cg:(0:Rat)<(g:Rat):=PC.mpr hg;have cb:(0:Rat)<(b:Rat):=PC.mpr (show(0:Int)<b by omega);have cr:(0:Rat)<(r:Rat):=PC.mpr hr;have cA:(0:Rat)<(A2:Rat):=PC.mpr hA;have ce:(0:Rat)<(e:Rat):=PC.mpr he
 have E0:(u:Rat)*(u:Rat)-(e:Rat)=(g:Rat)*(A0:Rat):=by rw[<- Pp,<- Ri,e0,Pp]
 have E1 : -2*(b:Rat)*(u:Rat)=(g:Rat)*(A1:Rat):=by rw[<- Pp,<- e1,Pp,Pp];rfl
 have E2:(b:Rat)*(b:Rat)=(g:Rat)*(A2:Rat):=by rw[<- Pp,e2,Pp]
 have EL:(L:Rat)=(A2:Rat)*(r:Rat):=by rw[eL',Pp]
 have wp:0<w:=Qv.mp λz=>by have:=PJ (show 0 <= -w by grind) (Pm cp);grind
 have LwB:8*((L:Rat)*w*(B:Rat))=1:=by grind
 have Lw:0<(L:Rat)*w:=PB cL wp
 have Lw4:4*((L:Rat)*w)<=1:=by have:=Px cB (Pm Lw);grind
 have S:=T.sum;obtain⟨f1,f2⟩:=Dy cg cb cr cA E1 E2 EL S.1 S.2 h1 h2 Lw4;obtain⟨P1,P2⟩:=T.prod cb ce (hN.irr he) hxy hxy' h1 h2 n1 n2 n3 n4 c1 c2 c3 c4 hmm;obtain⟨f3,f4⟩:=Fv cg cr cA E0 E2 EL P1 P2 (by grind);have z1:L*t1/t2 = -A1*r:=Bb t2p (by rw[ht,Pp,QU];exact f1) (by rw[ht,Pp,QU];exact f2);have z2:L*m1/m2=A0*r:=Bb m2p (by rw[hmr,Pp];exact f3) (by rw[hmr,Pp];exact f4);rw[z1,z2,eL'];have hP:Pln (ag [u,e,b]):=(fG (hF.fac _ hm)).pln
 have e3:[A0*r,-(-A1*r),A2*r]=scL r (ag [u,e,b]):=by
  rw[eS];show _=[r*A0,r*A1,r*A2];rw[PQ A0,PQ A2]
  congr 2
  grind
 rw[e3,ma (by omega) hP.tr,hP.plain]
variable {fs:List (List Int)}{f0 s0:List Int}{l1 l2 h1 h2:Int}
theorem DF{u e b σ:Int}{f:List Int}(hf:fJ f)(h:[u,e,b,σ]∈spF f):f=[u,e,b]:=by obtain⟨u',e',b',rfl,_⟩:=hf;obtain⟨σ',eq,_⟩:=qB h;cases eq;rfl
theorem ic{u e b:Int}(he:0<e):spF [u,e,b]=[[u,e,b,1],[u,e,b,-1]]:=by show(if 0<=e then[[u,e,b,1]]else[])++(if 0<e then[[u,e,b,-1]]else[])=_;rw[if_pos (by omega),if_pos he];rfl
theorem iK{u b:Int}:spF [u,0,b]=[[u,0,b,1]]:=by show(if(0:Int)<=0 then[[u,0,b,1]]else[])++(if(0:Int)<0 then[[u,0,b,-1]]else[])=_;rw[if_pos (by decide),if_neg (by decide)];rfl
theorem gC(f:List Int):aL [f]=spF f:=by show spF f++[]=_;rw[List.append_nil]
theorem OneS.cnt(h:OneS fs f0 s0 l1 l2 h1 h2):bJ (aL [f0]) l1 l2 h1 h2=1:=by
 obtain⟨u,e,b,σ,rfl,rfl,hb,hN,hc⟩:=h.cases;rw[gC];have hin:=h.inn
 have other:∀τ:Int,[u,e,b,τ]∈spF [u,e,b]->τ≠σ->¬(0<aj [u,e,b,τ] l1 l2/\aj [u,e,b,τ] h1 h2<=0):=λτ hτ hne z=>by
  have:=h.only _ (QQ.mpr ⟨_,h.mem,hτ⟩) z.1 z.2;simp at this
  exact hne this
 have c0:bJ [] l1 l2 h1 h2=0:=rfl;rcases hc with⟨rfl,rfl⟩ |⟨hσ,he⟩
 ·rw[iK,du,if_pos hin,c0];rfl
 ·rw[ic he]at other ⊢;rcases hσ with rfl |rfl
  ·rw[du,du,if_pos hin,if_neg (other (-1) (by simp) (by decide)),c0];rfl
  ·rw[du,du,if_neg (other 1 (by simp) (by decide)),if_pos hin,c0];rfl
theorem OneS.sq(h:OneS fs f0 s0 l1 l2 h1 h2)(hl0:(ag f0).length=3){E:List Int}(hE:Pln E)(hl:E.length=3)(hd:Dv E (prQ fs)):∃gs,Fam gs/\(∀g∈gs,g∈fs)/\gs.length<=2/\E=prQ gs/\(bJ (aL gs) l1 l2 h1 h2=1->E=ag f0):=by
 have hF:=h.fam
 have hs0:∀gs:List (List Int),Fam gs->(∀g∈gs,g∈fs)->bJ (aL gs) l1 l2 h1 h2=1->f0∈gs:=λgs hG hsub hc=>by
  obtain⟨pre,s,post,eq,hin,_⟩:=mV hc;have hm:s∈aL gs:=by rw[eq];simp
  obtain⟨f,hf,hsf⟩:=QQ.mp hm;have e1:=h.only s (QQ.mpr ⟨f,hsub f hf,hsf⟩) hin.1 hin.2;obtain⟨u,e,b,σ,ef,es,_⟩:=h.cases;rw[e1,es]at hsf;have:=DF (hG.q f hf) hsf;rw[ef,<- this];exact hf
 rw[hF.prd]at hd;rcases KZ hF.pri hF.nd hE hl hd with hm |⟨p,q,hp,hq,hne,eE⟩
 ·obtain⟨f,hf,rfl⟩:=PF.mp hm;have hG:=hF.single hf;refine⟨[f],hG,λg hg=>by rw[Pw.mp hg];exact hf,by simp,(ke hG).symm,λhc=>?_⟩;have:=hs0 [f] hG (λg hg=>by rw[Pw.mp hg];exact hf) hc;rw[Pw.mp this]
 ·obtain⟨f,hf,rfl⟩:=PF.mp hp;obtain⟨f',hf',rfl⟩:=PF.mp hq
  have hsub:∀g∈[f,f'],g∈fs:=λg hg=>by
   rcases Pu.mp hg with rfl |w
   ·exact hf
   ·rw[Pw.mp w];exact hf'
  have hG:Fam [f,f']:=⟨λg hg=>hF.fac g (hsub g hg),by simp;exact hne⟩
  have eP:E=prQ [f,f']:=by rw[hG.prd,eE];show _=ad (ag f) (ad (ag f') [1]);rw[cW]
  refine⟨[f,f'],hG,hsub,by simp,eP,λhc=>?_⟩;have hm:=hs0 [f,f'] hG hsub hc;have n1:=(fG (hF.fac f hf));have n2:=(fG (hF.fac f' hf'));have hlen:=bM n1.pln.ne n2.pln.ne;rw[<- eE,hl]at hlen;have t1:=n1.two;have t2:=n2.two;rcases Pu.mp hm with rfl |w
  ·omega
  ·rw[Pw.mp w]at hl0;omega
theorem wR(hF:Fam fs)(hm:f0∈fs)(hl:(prQ fs).length<=(ag f0).length):prQ fs=ag f0:=by
 obtain⟨pre,post,e⟩:=Rt (List.mem_map_of_mem (f:=ag) hm);have hp:=hF.pri;rw[hF.prd]at hl ⊢;rw[e]at hp hl ⊢;have hq:Pln (RM.prd (pre++post)):=iW _ λs hs=>(hp s (by simp at hs ⊢;rcases hs with z |z<;>simp[z])).pln
 have hs:Pln (ag f0):=(hp _ (by simp)).pln;rw[lX]at hl ⊢;have hlen:=bM hs.ne hq.ne;have:=Pq.mpr hs.ne;have:=Pq.mpr hq.ne;rw[hq.const (by omega),cW]
theorem OneS.low(h:OneS fs f0 s0 l1 l2 h1 h2):sg (hv l1 l2 (ag f0))≠0:=by
 have hG:=h.fam.single h.mem;rw[<- ke hG,hG.sign h.l2p,gC];obtain⟨u,e,b,σ,rfl,rfl,hb,hN,hc⟩:=h.cases;intro z;obtain⟨s,hs,hz⟩:=qw z;have hin:=h.inn.1;rcases hc with⟨rfl,rfl⟩ |⟨hσ,he⟩
 ·rw[iK]at hs;rw[Pw.mp hs]at hz;omega
 ·obtain⟨τ,rfl,_⟩:=qB hs;exact iM hN he h.l2p hz
theorem qp{u e b x1 x2 y1 y2 p1 p2 q1 q2:Int}(x2p:0<x2)(y2p:0<y2)(p2p:0<p2)(q2p:0<q2)(hx:0<aj [u,e,b,1] x1 x2)(hy:aj [u,e,b,1] y1 y2<=0)(hp:0<aj [u,e,b,-1] p1 p2)(hq:aj [u,e,b,-1] q1 q2<=0):Two u e b ((x1:Rat)/(x2:Rat)) ((y1:Rat)/(y2:Rat)) ((p1:Rat)/(p2:Rat)) ((q1:Rat)/(q2:Rat)):=by
 rw[<- dN _ x2p]at hx;rw[<- dN _ y2p]at hy;rw[<- dN _ p2p]at hp;rw[<- dN _ q2p]at hq;have hy':=λz=>(absurd (jP _ |>.mpr z) (Qn.mpr hy):False)
 have hq':=λz=>(absurd (nV _ |>.mpr z) (Qn.mpr hq):False)
 refine⟨(jP _).mp hx,?_,(nV _).mp hp,?_⟩
 ·generalize (b:Rat)*((y1:Rat)/(y2:Rat))-(u:Rat)=v at hy'
  refine⟨PZ.mp λz=>hy' (.inl z),PZ.mp λz=>hy' (.inr z)⟩
 ·generalize (b:Rat)*((q1:Rat)/(q2:Rat))-(u:Rat)=v at hq'
  by_cases z:0<v
  ·exact .inl z
  ·exact .inr (PZ.mp λw=>hq' ⟨PZ.mp z,w⟩)
theorem zH{s:List Int}(hs:Spt s){B L:Int}(hB:1<=B)(hL:1<=L)(hb:aj s B 1<0/\0<aj s (-B) 1){x1 x2 y1 y2:Int}(x2p:0<x2)(y2p:0<y2)(hx:0<aj s x1 x2)(hy:aj s y1 y2<=0)(hlt:x1*y2<y1*x2)(hw:(y1*x2-x1*y2)*(8*L*B)<=1*(x2*y2)) :
 Bd (2*(B:Rat)-1/2) ((x1:Rat)/(x2:Rat))/\Bd (2*(B:Rat)-1/2) ((y1:Rat)/(y2:Rat))/\(x1:Rat)/(x2:Rat)<(y1:Rat)/(y2:Rat)/\((y1:Rat)/(y2:Rat)-(x1:Rat)/(x2:Rat))*(8*((L:Rat)*(B:Rat)))<=1:=by
 have X2:(0:Rat)<(x2:Rat):=PC.mpr x2p;have Y2:(0:Rat)<(y2:Rat):=PC.mpr y2p;have e1:(x1:Rat)/(x2:Rat)*(x2:Rat)=(x1:Rat):=PK (Qs X2);have e2:(y1:Rat)/(y2:Rat)*(y2:Rat)=(y1:Rat):=PK (Qs Y2);have ltR:=(gd x2p y2p).mpr hlt
 have xB:x1<B*x2:=QG.mp λz=>by have:=qW hs (t:=B) (n:=1) (t':=x1) (n':=x2) (by decide) x2p (by omega) (by omega);omega
 have yB : -B*y2<y1:=QG.mp λz=>by have:=qW hs (t:=y1) (n:=y2) (t' := -B) (n':=1) y2p (by decide) (by omega) hy;omega
 have cB:(1:Rat)<=(B:Rat):=QC.mpr hB;have cL:(1:Rat)<=(L:Rat):=QC.mpr hL;have xB':(x1:Rat)<(B:Rat)*(x2:Rat):=by rw[<- Pp];exact PC.mpr xB
 have yB' : -(B:Rat)*(y2:Rat)<(y1:Rat):=by rw[<- QU,<- Pp];exact PC.mpr yB
 have hw':((y1:Rat)*(x2:Rat)-(x1:Rat)*(y2:Rat))*(8*(L:Rat)*(B:Rat))<=(x2:Rat)*(y2:Rat):=by rw[P7]at hw;have:=QC.mpr hw;rw[Pp,Pp,Pp,Pp,Ri,Pp,Pp]at this;exact this
 generalize (x1:Rat)/(x2:Rat)=x at *
 generalize (y1:Rat)/(y2:Rat)=y at *
 rw[<- e1]at xB' hw';rw[<- e2]at yB' hw';have xb:x<(B:Rat):=tO X2 (by grind);have yb : -(B:Rat)<y:=tO Y2 (by grind);have M:=PB X2 Y2
 have wd:(y-x)*(8*((L:Rat)*(B:Rat)))<=1:=by refine fO M ?_;grind
 have LB:1<=(L:Rat)*(B:Rat):=by have:=Px cB (show 0<=(L:Rat) by grind);grind
 have w8:(y-x)*8<=1:=by have:=Px LB (show 0<=(y-x)*8 by grind);grind
 exact⟨⟨by grind,by grind⟩,⟨by grind,by grind⟩,ltR,wd⟩
theorem xA:∀e:Nat,∃n:Nat,n*n<=e/\e<(n+1)*(n+1)
 |0=>⟨0,by decide,by decide⟩
 |e+1=>by
  obtain⟨n,h1,h2⟩:=xA e;by_cases h:e+1<(n+1)*(n+1)
  ·exact⟨n,by omega,h⟩
  ·refine⟨n+1,by omega,?_⟩;have e1:(n+1+1)*(n+1+1)=(n+1)*(n+1)+2*(n+1)+1:=by grind
   omega
theorem mh{d:Int}(h:NSq d)(v:Int):NS (d*v*v):=by
 by_cases hv:v=0
 ·left;rw[hv];omega
 ·right
  have hp:0<d*v*v:=by
   rw[PR];refine Pl h.1 ?_;rcases Qh hv with z |z
   ·exact Qq z z
   ·exact Pl z z
  obtain⟨n,h1,h2⟩:=xA (d*v*v).toNat;have h3:((n*n:Nat):Int)=(n:Int)*(n:Int):=Qu _ _;have h4:(((n+1)*(n+1):Nat):Int)=((n:Int)+1)*((n:Int)+1):=by rw[Qu];rfl
  have ne:=h.2 (n:Int) v hv;refine⟨n,by omega,?_,?_⟩
  ·omega
  ·omega
noncomputable def aG(v:Int):Int:=if v<0 then -1 else 1
theorem qV{u v w d x1 x2:Int}(hd:NSq d)(x2p:0<x2):0<aj [u,d*v*v,w,aG v] x1 x2↔0<sgq (u*x2-x1*w) (v*x2) d:=by
 have eq:d*v*v*x2*x2=d*(v*x2)*(v*x2):=by grind
 have ne:v≠0->(u*x2-x1*w)*(u*x2-x1*w)≠d*(v*x2)*(v*x2):=λhv=>hd.2 _ _ (PP hv (by omega))
 unfold aj aG;by_cases hv:v<0
 ·rw[if_pos hv,if_neg (show ¬(0:Int)<cf [u,d*v*v,w,-1] 3 from(by decide:¬(0:Int) < -1))];show 0<0-bh (d*v*v*x2*x2) (0-(w*x1-u*x2))↔_;rw[eq];have eA:0-(w*x1-u*x2)=u*x2-x1*w:=by grind
  rw[eA];have hvx:v*x2<0:=Rm hv x2p;have hne:=ne (by omega);generalize u*x2-x1*w=A at *
  generalize v*x2=B at *
  rcases QB 0 A with z |z
  ·rw[lC z hvx];rcases cj (d*B*B) A with⟨c,h1⟩ |⟨c,_,h1⟩ |⟨c,_,h1⟩
   ·rw[c,if_pos (by omega)];omega
   ·exact absurd h1 hne
   ·rw[c,if_neg (by omega)];omega
  ·rw[ga z (by omega) (.inr hvx)];rcases cj (d*B*B) A with⟨c,h1⟩ |⟨c,_,h1⟩ |⟨c,h0,h1⟩
   ·rw[c];omega
   ·exact absurd h1 hne
   ·have:A=0:=by omega
    subst this;have h5:0<d*B*B:=by rw[PR];exact Pl hd.1 (Qq hvx hvx)
    omega
 ·rw[if_neg hv,if_pos (show(0:Int)<cf [u,d*v*v,w,1] 3 from(by decide:(0:Int)<1))];show 0<bh (d*v*v*x2*x2) (w*x1-u*x2)↔_;rw[eq];have eA:w*x1-u*x2 = -(u*x2-x1*w):=by grind
  rw[eA];have hvx:0<=v*x2:=PY (by omega) (by omega);have hz:v=0->v*x2=0:=λh=>by rw[h,PX]
  have hp:v≠0->0<v*x2:=λh=>Pl (by omega) x2p
  generalize u*x2-x1*w=A at *
  generalize v*x2=B at *
  have sqA : -A * -A=A*A:=by grind
  by_cases h0:v=0
  ·have hB:=hz h0;subst hB;have e0:d*0*0=0:=by omega
   rw[e0];rcases Rh A 0 with z |z |z
   ·rw[ga (by omega) (PU _) (.inl z)];rcases cj 0 (-A)with⟨c,h1 |h1⟩ |⟨c,_,h1⟩ |⟨c,_,h1⟩
    ·omega
    ·have:=Qq z z;omega
    ·rw[c];omega
    ·rw[c]
   ·subst z;have a1:bh 0 (-0)=0:=by decide
    rw[a1,iO]
   ·rw[f9 (by omega) (PU _) (.inl z)];unfold bh;rw[if_pos (.inl (by omega))]
  ·have hB:=hp h0;have hne:=ne h0;have hpos:0<d*B*B:=by rw[PR];exact Pl hd.1 (Pl hB hB)
   rcases QB A 0 with z |z
   ·rw[lE z hB];rcases cj (d*B*B) (-A)with⟨c,h1 |h1⟩ |⟨c,_,h1⟩ |⟨c,_,h1⟩
    ·omega
    ·rw[c,if_neg (by omega)]
    ·exact absurd (by omega) hne
    ·rw[c,if_pos (by omega)]
   ·rw[f9 z (by omega) (.inr hB)]
    have:bh (d*B*B) (-A)=1:=by
     unfold bh;rw[if_pos];rcases Q7 z with y |y
     ·exact .inl (by omega)
     ·right;rw[<- y];omega
    rw[this]
theorem BN{l1 l2 h1 h2:Int}:∀{ls:List (List Int)},(∀x∈ls,¬(0<aj x l1 l2/\aj x h1 h2<=0))->bJ ls l1 l2 h1 h2=0
 | [],_=>rfl
 |l::ls,h=>by rw[du,if_neg (h l (PH ..)),BN λx hx=>h x (Pz _ hx)];rfl
theorem BQ(l1 l2 h1 h2:Int):∀a b:List (List Int),bJ (a++b) l1 l2 h1 h2=bJ a l1 l2 h1 h2+bJ b l1 l2 h1 h2
 | [],b=>by rw[List.nil_append];show _=0+_;omega
 |x::a,b=>by rw[List.cons_append,du,du,BQ l1 l2 h1 h2 a b];omega
theorem xH(f:List Int)(fs:List (List Int)):aL (f::fs)=spF f++aL fs:=rfl
theorem ug{u v w d l1 l2 h1 h2:Int}{rs:List (List Int)}(hd:NSq d)(hF:Fam ([u,d*v*v,w]::rs))(l2p:0<l2)(h2p:0<h2)(lt:l1*h2<h1*l2)(lo:0<sgq (u*l2-l1*w) (v*l2) d)(hi:¬0<sgq (u*h2-h1*w) (v*h2) d)(ol:0<v->u*l2<=l1*w)(oh:v<0->h1*w<=u*h2)(hno:∀x∈aL rs,¬(0<aj x l1 l2/\aj x h1 h2<=0)) :
 OneS ([u,d*v*v,w]::rs) [u,d*v*v,w] [u,d*v*v,w,aG v] l1 l2 h1 h2/\bJ (aL ([u,d*v*v,w]::rs)) l1 l2 h1 h2=1:=by
 have lo':=(qV (u:=u) (v:=v) (w:=w) (d:=d) (x1:=l1) hd l2p).mpr lo;have hi':aj [u,d*v*v,w,aG v] h1 h2<=0:=Qn.mp λz=>hi ((qV hd h2p).mp z)
 have key:aG v=1/\spF [u,d*v*v,w]=[[u,d*v*v,w,1]]/\v=0\/aG v=1/\spF [u,d*v*v,w]=[[u,d*v*v,w,1],[u,d*v*v,w,-1]]/\¬(0<aj [u,d*v*v,w,-1] l1 l2/\aj [u,d*v*v,w,-1] h1 h2<=0)\/aG v = -1/\spF [u,d*v*v,w]=[[u,d*v*v,w,1],[u,d*v*v,w,-1]]/\¬(0<aj [u,d*v*v,w,1] l1 l2/\aj [u,d*v*v,w,1] h1 h2<=0):=by
  by_cases hv:v=0
  ·left;subst hv;have e0:d*0*0=0:=by omega
   rw[e0];exact⟨rfl,iK,rfl⟩
  ·have he:0<d*v*v:=by
    rw[PR];refine Pl hd.1 ?_;rcases Qh hv with z |z
    ·exact Qq z z
    ·exact Pl z z
   right;rcases Qh hv with z |z
   ·right;refine⟨by unfold aG;rw[if_pos z],ic he,λhh=>?_⟩;have h5:=oh z
    have:aj [u,d*v*v,w,1] h1 h2=1:=by
     unfold aj;rw[if_pos (show(0:Int)<cf [u,d*v*v,w,1] 3 from(by decide:(0:Int)<1))];show bh (d*v*v*h2*h2) (w*h1-u*h2)=1;unfold bh;rw[if_pos];have e1:w*h1=h1*w:=PQ _ _;rcases Q7 h5 with y |y
     ·exact .inl (by omega)
     ·right;have:w*h1-u*h2=0:=by omega
      rw[this,PX];exact Pl (Pl he h2p) h2p
    omega
   ·left;refine⟨by unfold aG;rw[if_neg (by omega)],ic he,λhh=>?_⟩;have h5:=ol z
    have:aj [u,d*v*v,w,-1] l1 l2 = -1:=by
     unfold aj;rw[if_neg (show ¬(0:Int)<cf [u,d*v*v,w,-1] 3 from(by decide:¬(0:Int) < -1))];show 0-bh (d*v*v*l2*l2) (0-(w*l1-u*l2)) = -1
     have:bh (d*v*v*l2*l2) (0-(w*l1-u*l2))=1:=by
      unfold bh;rw[if_pos];have e1:w*l1=l1*w:=PQ _ _;rcases Q7 h5 with y |y
      ·exact .inl (by omega)
      ·right;have:0-(w*l1-u*l2)=0:=by omega
       rw[this,PX];exact Pl (Pl he l2p) l2p
     omega
    omega
 have c0:bJ (aL rs) l1 l2 h1 h2=0:=BN hno;have e0:bJ [] l1 l2 h1 h2=0:=rfl;refine⟨⟨hF,PH ..,?_,l2p,h2p,lt,⟨lo',hi'⟩,λs hs a b=>?_⟩,?_⟩
 ·rcases key with⟨k1,k2,_⟩ |⟨k1,k2,_⟩ |⟨k1,k2,_⟩<;>rw[k1,k2]<;>simp
 ·rw[xH]at hs;rcases PV.mp hs with z |z
  ·rcases key with⟨k1,k2,_⟩ |⟨k1,k2,k3⟩ |⟨k1,k2,k3⟩
   ·rw[k2]at z;rw[k1];exact Pw.mp z
   ·rw[k2]at z;rw[k1];rcases Pu.mp z with y |y
    ·exact y
    ·rw[Pw.mp y]at a b;exact absurd ⟨a,b⟩ k3
   ·rw[k2]at z;rw[k1];rcases Pu.mp z with y |y
    ·rw[y]at a b;exact absurd ⟨a,b⟩ k3
    ·exact Pw.mp y
  ·exact absurd ⟨a,b⟩ (hno s z)
 ·rw[xH,BQ,c0];rcases key with⟨k1,k2,_⟩ |⟨k1,k2,k3⟩ |⟨k1,k2,k3⟩
  ·rw[k1]at lo' hi';rw[k2,du,if_pos ⟨lo',hi'⟩,e0];rfl
  ·rw[k1]at lo' hi';rw[k2,du,du,if_pos ⟨lo',hi'⟩,if_neg k3,e0];rfl
  ·rw[k1]at lo' hi';rw[k2,du,du,if_neg k3,if_pos ⟨lo',hi'⟩,e0];rfl
theorem f8{u v w d x1 x2:Int}(hd:NSq d)(x2p:0<x2):aj [u,d*v*v,w,aG v] x1 x2=sgq (u*x2-x1*w) (v*x2) d:=by
 have hu:=qV (u:=u) (v:=v) (w:=w) (x1:=x1) hd x2p;have c1:=cO [u,d*v*v,w,aG v] x1 x2;have c2:=fb (u*x2-x1*w) (v*x2) d
 have hz:aj [u,d*v*v,w,aG v] x1 x2=0↔sgq (u*x2-x1*w) (v*x2) d=0:=by
  by_cases hv:v=0
  ·subst hv;have e0:d*0*0=0:=by omega
   rw[e0,PX];show aj [u,0,w,1] x1 x2=0↔_
   have hs:aj [u,0,w,1] x1 x2=bh 0 (w*x1-u*x2):=by unfold aj;rw[if_pos (show(0:Int)<cf [u,0,w,1] 3 from(by decide:(0:Int)<1))];show bh (0*x2*x2) (w*x1-u*x2)=_;rw[PX,PX]
   rw[hs];have eA:w*x1-u*x2 = -(u*x2-x1*w):=by grind
   rw[eA];generalize u*x2-x1*w=A;rcases Rh A 0 with z |z |z
   ·rw[ga (by omega) (PU _) (.inl z)];rcases cj 0 (-A)with⟨c,_⟩ |⟨c,_,h1⟩ |⟨c,_⟩
    ·rw[c];decide
    ·have:=Pl (show 0 < -A by omega) (show 0 < -A by omega);omega
    ·rw[c]
   ·subst z;have a1:bh 0 (-0)=0:=by decide
    rw[a1,iO]
   ·rw[f9 (by omega) (PU _) (.inl z)];unfold bh;rw[if_pos (.inl (by omega))]
  ·have he:0<d*v*v:=by
    rw[PR];refine Pl hd.1 ?_;rcases Qh hv with z |z
    ·exact Qq z z
    ·exact Pl z z
   have n1:aj [u,d*v*v,w,aG v] x1 x2≠0:=iM (mh hd v) he x2p;have hvx:v*x2≠0:=PP hv (by omega)
   have n2:sgq (u*x2-x1*w) (v*x2) d≠0:=by
    unfold sgq;split
    ·rw[if_pos (.inr (by omega))];decide
    ·split
     ·decide
     ·split
      ·split<;>decide
      ·split<;>decide
   exact⟨λz=>absurd z n1,λz=>absurd z n2⟩
 rcases c1 with z |z |z<;>rcases c2 with y |y |y<;>omega
theorem DJ{S q Q g:Rat}(hQ:0<Q)(hq:q<=Q)(h:g<=S*q)(hg:0<g)(hq0:0<q):g<=S*Q:=by
 have hS:0<S:=Qv.mp λz=>by have:=PD z (Pm hq0);grind
 have:=Px hq (Pm hS);grind
theorem kK{a b c:Rat}(hc:0<c)(h:a*c<=b*c):a<=b:=PZ.mp λz=>by have:=Qr z hc;grind
theorem Dg{F0 F1 q:List Int}{r:List (List Int)}(h:SRow (F0::F1::r)){γ:Rat}(hγ:0<γ)(hd:∀x,pv (slopeL F0) x*pv q x=γ*pv F1 x){R:Rat}(hR:0<=R) :
 ∃δ:Rat,0<δ/\∀x y,Bd R x->Bd R y->x<y->y-x<=δ->sgR (pv F0 x)≠0->sgR (pv F0 y)≠0->vrs (F0::F1::r) x-vrs (F0::F1::r) y=sgR (pv q x)*chg (pv F0) x y:=by
 obtain⟨⟨δ1,d1,l1⟩,⟨δ2,d2,l2⟩⟩:=uH h R hR;obtain⟨A,B,k,nA,nB,hk,hAB⟩:=p8 h rfl;obtain⟨δ3,κ,d3,hκ,l3⟩:=ud (c7 F0) (c7 F1) nA nB hk hAB hR;obtain⟨M,m0,m1⟩:=tR F0 R hR;obtain⟨Mq,q0,q1,_⟩:=c7 q R hR;have hγκ:=PB hγ hκ;have hQ:0<Mq+1:=by grind
 have hM:0<M+1:=by grind
 have hT:=PB hM hQ
 obtain⟨δ,hδ,g1,g2,g3,g4⟩:∃δ:Rat,0<δ/\δ<=δ1/\δ<=δ2/\δ<=δ3/\δ*((M+1)*(Mq+1))<=γ*κ:=by
  have hw:=da hγκ hT;have hw2:γ*κ/((M+1)*(Mq+1))*((M+1)*(Mq+1))=γ*κ:=PK (by grind)
  have two:∀u v:Rat,0<u->0<v->∃w:Rat,0<w/\w<=u/\w<=v:=λu v hu hv=>by
   rcases P5 (a:=u) (b:=v)with z |z
   ·exact⟨u,hu,Py,z⟩
   ·exact⟨v,hv,z,Py⟩
  obtain⟨u,hu,u1,u2⟩:=two δ1 δ2 d1 d2;obtain⟨v,hv,v1,v2⟩:=two u δ3 hu d3;obtain⟨w,hw',w1,w2⟩:=two v _ hv hw;refine⟨w,hw',by grind,by grind,by grind,?_⟩;have:=PD w2 (Pm hT)
  rwa [hw2]at this
 refine⟨δ,hδ,λx y hx hy hxy hyd nx ny=>?_⟩;have e0:∀z,vrs (F0::F1::r) z=vr (sgR (pv F0 z)) (sgX (F1::r) z):=λz=>hI _
 have nz:∀{v:Rat},sgR v≠0->sgR v=1\/sgR v = -1:=λ{v} hv=>by rcases iQ v with z |z |z;exact .inl z;exact absurd z hv;exact .inr z
 rw[e0,e0];by_cases s0:Sta (pv F0) x y
 ·have t:=(l1 x y hx hy hxy (by grind) F0 (F1::r) rfl s0).vr (nz s0.2) (ox _ _);rw[<- s0.1,t];unfold chg;rw[if_neg (λz=>z.2 s0.1.symm)];omega
 ·obtain⟨s1,c1,c2⟩:=l3 x y hx hy hxy (by grind) s0;have t:=(l2 x y hx hy hxy (by grind) F1 r rfl s1).vr (nz s1.2) (ox _ _);have hyx:0<y-x:=by grind
  obtain⟨f1,f2⟩:=m1 x y hx hy (by grind);obtain⟨b1,b2⟩:=q1 x hx;have hdx:=hd x
  have ht2:(y-x)*(M+1)*(Mq+1)<=γ*κ:=by have:=PD hyd (Pm hT);grind
  have hyy:0<(y-x)*(y-x):=PB hyx hyx;show vr (sgR (pv F0 x)) (sgR (pv F1 x)::sgX r x)-vr (sgR (pv F0 y)) (sgR (pv F1 y)::sgX r y)=_
  have hu:∀(b s:Int) (l:List Int),s≠0->vr b (s::l)=(if s*b<0 then 1 else 0)+vr s l:=λb s l hs=>by show _+vr (if s=0 then b else s) l=_;rw[if_neg hs]
  have s1':sgR (pv F1 y)=sgR (pv F1 x):=s1.1.symm;rw[s1',hu _ _ _ s1.2,hu _ _ _ s1.2,t];unfold chg;generalize pv (slopeL F0) x=S at f1 f2 hdx
  have up:(y-x)*(M+1)<=S->pv F0 x<pv F0 y:=λz=>by have:=Px z (Pm hyx);grind
  have down:(y-x)*(M+1) <= -S->pv F0 y<pv F0 x:=λz=>by have:=Px z (Pm hyx);grind
  have key:∀T qq:Rat,γ*κ<=T*qq->0<qq->qq<=Mq+1->(y-x)*(M+1)<=T:=λT qq z1 z2 z3=>kK hQ (Q6 ht2 (DJ hQ z3 z1 hγκ z2))
  have fin:∀(D s:Int),sgR (pv F1 x)=D->(D=1\/D = -1)->sgR (pv q x)=s->(s=1\/s = -1)->(s*D=1->pv F0 x<pv F0 y)->(s*D = -1->pv F0 y<pv F0 x)->((if sgR (pv F1 x)*sgR (pv F0 x)<0 then 1 else 0)+vr (sgR (pv F1 x)) (sgX r y)-((if sgR (pv F1 x)*sgR (pv F0 y)<0 then 1 else 0)+vr (sgR (pv F1 x)) (sgX r y)):Int)=sgR (pv q x)*(if sgR (pv F0 x)≠0/\sgR (pv F0 y)≠sgR (pv F0 x)then 1 else 0):=λD s eD hD es hs hup hdn=>by
   rw[eD,es];rcases bH (pv F0 x)with⟨a1,a2⟩ |⟨a1,a2⟩ |⟨a1,a2⟩
   ·rcases bH (pv F0 y)with⟨b1,b2⟩ |⟨b1,b2⟩ |⟨b1,b2⟩
    ·exact absurd ⟨by rw[a2,b2],by rw[a2];decide⟩ s0
    ·exact absurd b2 ny
    ·rw[a2,b2];rcases hD with rfl |rfl<;>rcases hs with rfl |rfl
     ·simp<;>omega
     ·have:=hdn (by decide);grind
     ·have:=hdn (by decide);grind
     ·simp<;>omega
   ·exact absurd a2 nx
   ·rcases bH (pv F0 y)with⟨b1,b2⟩ |⟨b1,b2⟩ |⟨b1,b2⟩
    ·rw[a2,b2];rcases hD with rfl |rfl<;>rcases hs with rfl |rfl
     ·have:=hup (by decide);grind
     ·simp<;>omega
     ·simp<;>omega
     ·have:=hup (by decide);grind
    ·exact absurd b2 ny
    ·exact absurd ⟨by rw[a2,b2],by rw[a2];decide⟩ s0
  rcases c1 with z |z
  ·have h1:γ*κ<=γ*pv F1 x:=Px z (Pm hγ);have eD:sgR (pv F1 x)=1:=by rcases bH (pv F1 x)with⟨w,_⟩ |⟨w,_⟩ |⟨_,w⟩<;>grind
   rcases bH (pv q x)with⟨w1,w2⟩ |⟨w1,w2⟩ |⟨w1,w2⟩
   ·refine fin 1 (-1) eD (.inl rfl) w2 (.inr rfl) (λz=>by simp at z) (λ_=>down (key (-S) (-pv q x) ?_ (by grind) (by grind)));grind
   ·rw[w1]at hdx;grind
   ·refine fin 1 1 eD (.inl rfl) w2 (.inl rfl) (λ_=>up (key S (pv q x) ?_ w1 (by grind))) (λz=>by simp at z);grind
  ·have h1:γ*κ<=γ*(-pv F1 x):=Px (by grind) (Pm hγ);have eD:sgR (pv F1 x) = -1:=by rcases bH (pv F1 x)with⟨_,w⟩ |⟨w,_⟩ |⟨w,_⟩<;>grind
   rcases bH (pv q x)with⟨w1,w2⟩ |⟨w1,w2⟩ |⟨w1,w2⟩
   ·refine fin (-1) (-1) eD (.inr rfl) w2 (.inr rfl) (λ_=>up (key S (-pv q x) ?_ (by grind) (by grind))) (λz=>by simp at z);grind
   ·rw[w1]at hdx;grind
   ·refine fin (-1) 1 eD (.inr rfl) w2 (.inl rfl) (λz=>by simp at z) (λ_=>down (key (-S) (pv q x) ?_ w1 (by grind)));grind
theorem kM{C:Rat->Rat->Prop}{N:Rat->Prop}(hN:∀a b,a<b->N a\/N b)(hadd:∀x y z,x<y->y<z->N y->C x y->C y z->C x z){δ a b:Rat}(h:∀x y,a<=x->y<=b->x<y->y-x<=δ->N x->N y->C x y):∀(n:Nat) (x y:Rat),a<=x->y<=b->x<y->N x->N y->y-x<=2^n*δ->C x y
 |0,x,y,hx,hy,hxy,nx,ny,hd=>h x y hx hy hxy (by rw[Rat.pow_zero]at hd;grind) nx ny
 |n+1,x,y,hx,hy,hxy,nx,ny,hd=>by
  rw[Ru]at hd;by_cases hm:N ((x+y)/2)
  ·have i1:=kM hN hadd h n x ((x+y)/2) hx (by grind) (by grind) nx hm (by grind);have i2:=kM hN hadd h n ((x+y)/2) y (by grind) hy (by grind) hm ny (by grind);exact hadd x _ y (by grind) (by grind) hm i1 i2
  ·have n1:N ((2*x+y)/3):=(hN ((2*x+y)/3) ((x+y)/2) (by grind)).resolve_right hm;have n2:N ((x+2*y)/3):=(hN ((x+y)/2) ((x+2*y)/3) (by grind)).resolve_left hm;have i1:=kM hN hadd h n x ((2*x+y)/3) hx (by grind) (by grind) nx n1 (by grind);have i2:=kM hN hadd h n ((2*x+y)/3) ((x+2*y)/3) (by grind) (by grind) (by grind) n1 n2 (by grind);have i3:=kM hN hadd h n ((x+2*y)/3) y (by grind) hy (by grind) n2 ny (by grind);exact hadd x _ y (by grind) (by grind) n1 i1 (hadd _ _ y (by grind) (by grind) n2 i2 i3)
theorem Dh{F0 F1 q:List Int}{r:List (List Int)}(h:SRow (F0::F1::r)){γ:Rat}(hγ:0<γ)(hd:∀x,pv (slopeL F0) x*pv q x=γ*pv F1 x){s:Rat->Int}(hs:Cut s){ε:Int}(hε:ε=1\/ε = -1){l k:Rat}(hlk:l<k)(hf:∀x,l<=x->x<=k->sgR (pv F0 x)=ε*s x)(hl:s l=1)(hk:s k = -1)
 {τ:Int} {δ0:Rat} (hδ0:0<δ0) (hτ:∀x y,l<=x->y<=k->x<y->y-x<=δ0->s x=1->s y = -1->sgR (pv q x)=τ):vrs (F0::F1::r) l-vrs (F0::F1::r) k=τ:=by
 obtain⟨u,u0,u1⟩:=fY l;obtain⟨v,v0,v1⟩:=fY k
 have hbd:∀x,l<=x->x<=k->Bd (u+v) x:=λx a b=>by obtain⟨c1,c2⟩:=u1;obtain⟨c3,c4⟩:=v1;constructor<;>grind
 obtain⟨δ1,d1,l1⟩:=Dg h hγ hd (R:=u+v) (by grind)
 obtain⟨δ,hδ,g1,g2⟩:∃δ:Rat,0<δ/\δ<=δ0/\δ<=δ1:=by
  rcases P5 (a:=δ0) (b:=δ1)with z |z
  ·exact⟨δ0,hδ0,Py,z⟩
  ·exact⟨δ1,d1,z,Py⟩
 obtain⟨n,hn⟩:=jX hδ (k-l)
 have res:=kM (C:=λx y=>vrs (F0::F1::r) x-vrs (F0::F1::r) y=if s x=1/\s y = -1 then τ else 0) (N:=λx=>s x≠0) (a:=l) (b:=k) (δ:=δ)
  (λa b hab=>by
    by_cases z:s a=0
    ·right;rw[hs.m a b hab (by omega)];decide
    ·exact .inl z)
  (λx y z hxy hyz hy c1 c2=>by
    rcases hs.u y with e |e |e
    ·have hx:s x=1:=by
      rcases hs.u x with a |a |a
      ·exact a
      ·have:=hs.m x y hxy (by omega);omega
      ·have:=hs.m x y hxy (by omega);omega
     rw[e]at c1 c2;rw[hx]at c1 ⊢;simp at c1 c2 ⊢
     omega
    ·exact absurd e hy
    ·have hz:=hs.m y z hyz (by omega);rw[e]at c1 c2;rw[hz]at c2 ⊢;simp at c1 c2 ⊢
     omega)
  (λx y hx hy hxy hyd nx ny=>by
    have bx:=hbd x hx (by grind);have b_y:=hbd y (by grind) hy;have fx:=hf x hx (by grind);have fy:=hf y (by grind) hy;have ex0:sgR (pv F0 x)≠0:=by rw[fx];exact PP (by omega) nx
    have ey0:sgR (pv F0 y)≠0:=by rw[fy];exact PP (by omega) ny
    rw[l1 x y bx b_y hxy (by grind) ex0 ey0];unfold chg;rcases hs.u x with a |a |a
    ·rcases hs.u y with b |b |b
     ·rw[if_neg (show ¬(sgR (pv F0 x)≠0/\sgR (pv F0 y)≠sgR (pv F0 x))fromλz=>z.2 (by rw[fx,fy,a,b])),if_neg (show ¬(s x=1/\s y = -1)fromλz=>by omega)];omega
     ·exact absurd b ny
     ·rw[if_pos (show sgR (pv F0 x)≠0/\sgR (pv F0 y)≠sgR (pv F0 x)from⟨ex0,by rw[fx,fy,a,b];rcases hε with rfl |rfl<;>decide⟩),if_pos ⟨a,b⟩,hτ x y hx hy hxy (by grind) a b];omega
    ·exact absurd a nx
    ·have b:=hs.m x y hxy (by omega)
     rw[if_neg (show ¬(sgR (pv F0 x)≠0/\sgR (pv F0 y)≠sgR (pv F0 x))fromλz=>z.2 (by rw[fx,fy,a,b])),if_neg (show ¬(s x=1/\s y = -1)fromλz=>by omega)];omega)
  n l k Py Py hlk (by rw[hl];decide) (by rw[hk];decide) hn
 rw[res,if_pos ⟨hl,hk⟩]
noncomputable def hpA(u v w d:Int):List Int->Int×Int×Int
 | []=>(0,0,1)
 |c::l=>((hpA u v w d l).1*u+(hpA u v w d l).2.1*v*d+c*(hpA u v w d l).2.2,(hpA u v w d l).1*v+(hpA u v w d l).2.1*u,(hpA u v w d l).2.2*w)
theorem pD{u v w d:Int}(hw:0<w):∀l,0<(hpA u v w d l).2.2
 | []=>by show(0:Int)<1;decide
 |c::l=>Pl (pD hw l) hw
theorem pC{u v w d:Int}:∀l:List Int,∃(b':Int) (F:Rat->Rat),Nice F/\(hpA u v w d l).2.1=b'*v/\∀x:Rat,((hpA u v w d l).2.2:Rat)*pv l x=(w:Rat)*((((w:Rat)*x-u)*((w:Rat)*x-u)-(d:Rat)*v*v)*F x+((hpA u v w d l).1:Rat)+(b':Rat)*((w:Rat)*x-u))
 | []=>⟨0,λ_=>0,fz 0,by show(0:Int)=0*v;omega,λx=>by
  show((1:Int):Rat)*0=(w:Rat)*(_*0+((0:Int):Rat)+((0:Int):Rat)*_)
  grind⟩
 |c::l=>by
  obtain⟨b',F,nF,hb,hv⟩:=pC (u:=u) (v:=v) (w:=w) (d:=d) l;refine⟨(hpA u v w d l).1+b'*u,λx=>F x*((w:Rat)*x)+(b':Rat),(nF.mul ((fz (w:Rat)).mul nice_id)).add (fz _),?_,λx=>?_⟩
  ·show(hpA u v w d l).1*v+(hpA u v w d l).2.1*u=_;rw[hb];grind
  ·have h:=hv x;show(((hpA u v w d l).2.2*w:Int):Rat)*((c:Rat)+x*pv l x)=(w:Rat)*(_*(F x*((w:Rat)*x)+(b':Rat))+(((hpA u v w d l).1*u+(hpA u v w d l).2.1*v*d+c*(hpA u v w d l).2.2:Int):Rat)+(((hpA u v w d l).1+b'*u:Int):Rat)*_);rw[hb];simp only[QH,Pp];grind
theorem EK{z B:Rat}(hB:1<=B)(h:z*z<=B):Bd B z:=by
 constructor
 ·refine PZ.mp λy=>?_
  have:=Qr (show B < -z by grind) (show 0 < -z by grind);have:=PD hB (show 0 <= -z by grind);grind
 ·refine PZ.mp λy=>?_
  have:=Qr y (show 0<z by grind);have:=PD hB (show 0<=z by grind);grind
theorem AU{z:Rat}(hz:0<z)(h:1/4<=z*z):1/2<=z:=PZ.mp λy=>by have:=Qr y hz;grind
theorem AV{z:Rat}(h:z*z<=1/4):Bd (1/2) z:=by
 constructor
 ·refine PZ.mp λy=>?_
  have:=Qr (show 1/2 < -z by grind) (show 0 < -z by grind);grind
 ·refine PZ.mp λy=>?_
  have:=Qr y (show 0<z by grind);grind
theorem dq{a b:Int}(h:a<=b):(a:Rat)<=(b:Rat):=QC.mpr h
theorem zZ{a b d:Int}(ha:0<a)(hd:0<=d)(hN:a*a≠d*b*b):∃η:Rat,0<η/\∀Z:Rat,Z<=0->Bd (1/4) (Z*Z-(d:Rat)*b*b)->(d*b*b<a*a->η<=a+Z)/\(a*a<d*b*b->η <= -(a+Z)):=by
 have hbb:0<=d*b*b:=by
  rw[PR];refine PY hd ?_;rcases Int.le_total 0 b with z |z
  ·exact PY z z
  ·exact RB z z
 have hB:(0:Rat)<=((d*b*b:Int):Rat):=dq (a:=0) hbb;have ha':(1:Rat)<=(a:Rat):=dq (a:=1) (by omega);have eB:((d*b*b:Int):Rat)=(d:Rat)*b*b:=by simp only[Pp]
 have eA:((a*a:Int):Rat)=(a:Rat)*a:=by simp only[Pp]
 obtain⟨G,hG⟩:∃G:Rat,G=(a:Rat)+((d*b*b:Int):Rat)+1:=⟨_,rfl⟩;have hGp:0<G:=by grind
 refine⟨1/2/G,da (by grind) hGp,λZ hZ hbd=>?_⟩;have eη:1/2/G*G=1/2:=PK (by grind);have hη:=da (a:=1/2) (by grind) hGp;generalize 1/2/G=η at eη hη
 obtain⟨h1,h2⟩:=hbd;obtain⟨z1,z2⟩:=EK (z:=Z) (B:=((d*b*b:Int):Rat)+1) (by grind) (by rw[eB];grind);have aZ:0<(a:Rat)-Z:=by grind
 have aZ2:(a:Rat)-Z<=G:=by grind
 have prod:((a:Rat)+Z)*((a:Rat)-Z)=(a:Rat)*a-Z*Z:=by grind
 constructor
 ·intro hlt
  have h3:((d*b*b:Int):Rat)+1<=((a*a:Int):Rat):=by
   have:=dq (a:=d*b*b+1) (b:=a*a) (by omega)
   rwa [QH]at this
  rw[eA,eB]at h3;refine PZ.mp λy=>?_
  have q1:=Qr y aZ;have q2:=Px aZ2 (Pm hη);rw[prod]at q1;rw[eη]at q2;generalize (a:Rat)*a=A2 at *
  generalize (d:Rat)*b*b=D2 at *
  generalize Z*Z=Z2 at *
  generalize η*(a-Z)=E at *
  clear prod eη eA eB hB hG;grind
 ·intro hlt
  have h3:((a*a:Int):Rat)+1<=((d*b*b:Int):Rat):=by
   have:=dq (a:=a*a+1) (b:=d*b*b) (by omega)
   rwa [QH]at this
  rw[eA,eB]at h3;refine PZ.mp λy=>?_
  have q1:=Qr y aZ;have q2:=Px aZ2 (Pm hη);have q3 : -((a:Rat)+Z)*(a-Z)=Z*Z-a*a:=by grind
  rw[q3]at q1;rw[eη]at q2;generalize (a:Rat)*a=A2 at *
  generalize (d:Rat)*b*b=D2 at *
  generalize Z*Z=Z2 at *
  generalize η*(a-Z)=E at *
  clear prod eη eA eB hB hG q3;grind
theorem zE{a b d:Int}(hd:NSq d)(h0:sgq a b d≠0):∃η:Rat,0<η/\∀Z:Rat,(b=0\/0<(b:Rat)*Z)->Bd (1/4) (Z*Z-(d:Rat)*b*b)->η<=(sgq a b d:Rat)*((a:Rat)+Z):=by
 have hd1:=hd.1;by_cases hb:b=0
 ·subst hb;refine⟨1/2,by grind,λZ _ hbd=>?_⟩;obtain⟨h1,h2⟩:=hbd
  obtain⟨z1,z2⟩:=AV (z:=Z) (by
   have:((0:Int):Rat)=0:=rfl
   rw[this]at h2;grind)
  rcases Rh a 0 with z |z |z
  ·rw[ga (by omega) (PU _) (.inl z)];have:=dq (a:=a) (b := -1) (by omega);have e:((-1:Int):Rat) = -1:=rfl;rw[e]at this ⊢;grind
  ·subst z;exact absurd (iO d) h0
  ·rw[f9 (by omega) (PU _) (.inl z)];have:=dq (a:=1) (b:=a) (by omega);have e:((1:Int):Rat)=1:=rfl;rw[e]at this ⊢;grind
 ·have bb:1<=b*b:=by
   rcases Qh hb with z |z
   ·have:=Qq z z;omega
   ·have:=Pl z z;omega
  have dbb:1<=d*b*b:=by rw[PR];have:=Pl hd1 (show 0<b*b by omega);omega
  have eB:((d*b*b:Int):Rat)=(d:Rat)*b*b:=by simp only[Pp]
  have dB:=dq dbb;rw[eB]at dB;have e1:((1:Int):Rat)=1:=rfl;have e2:((-1:Int):Rat) = -1:=rfl;rw[e1]at dB;rcases Qh hb with z |z
  ·have zr:(b:Rat)<0:=PC.mpr z
   have sgnZ:∀Z:Rat,(b=0\/0<(b:Rat)*Z)->Z<0:=λZ h=>by
    rcases h with y |y
    ·exact absurd y hb
    ·refine Qv.mp λx=>?_
     have:=PD (Pm zr) x;grind
   rcases QB 0 a with y |y
   ·have hne:=hd.2 a b hb;obtain⟨η,hη,hh⟩:=zZ y (Pt hd1) hne;refine⟨η,hη,λZ hZ hbd=>?_⟩;obtain⟨k1,k2⟩:=hh Z (Pm (sgnZ Z hZ)) hbd;rw[lC y z];by_cases x:a*a<d*b*b
    ·rw[if_pos x,e2];have:=k2 x;grind
    ·rw[if_neg x,e1];have:=k1 (by omega);grind
   ·refine⟨1/2,by grind,λZ hZ hbd=>?_⟩;have hz:=sgnZ Z hZ;have:=AU (z := -Z) (by grind) (by obtain⟨h1,h2⟩:=hbd;grind);rw[ga y (by omega) (.inr z),e2];have ya:=dq y;have e0:((0:Int):Rat)=0:=rfl;rw[e0]at ya;grind
  ·have zr:(0:Rat)<(b:Rat):=PC.mpr z
   have sgnZ:∀Z:Rat,(b=0\/0<(b:Rat)*Z)->0<Z:=λZ h=>by
    rcases h with y |y
    ·exact absurd y hb
    ·refine Qv.mp λx=>?_
     have:=Px x (Pm zr);grind
   rcases QB a 0 with y |y
   ·have hne:=hd.2 a b hb;obtain⟨η,hη,hh⟩:=zZ (a := -a) (b:=b) (d:=d) (by omega) (Pt hd1) (by rw[Rf];exact hne);refine⟨η,hη,λZ hZ hbd=>?_⟩;have hz:=sgnZ Z hZ
    obtain⟨k1,k2⟩:=hh (-Z) (by grind) (by have : -Z * -Z=Z*Z:=by grind
                                          rw[this];exact hbd)
    rw[Rf]at k1 k2;have en:((-a:Int):Rat) = -(a:Rat):=QU _;rw[en]at k1 k2;rw[lE y z];by_cases x:a*a>d*b*b
    ·rw[if_pos x,e2];have:=k1 x;grind
    ·rw[if_neg x,e1];have:=k2 (by omega);grind
   ·refine⟨1/2,by grind,λZ hZ hbd=>?_⟩;have hz:=sgnZ Z hZ;have:=AU hz (by obtain⟨h1,h2⟩:=hbd;grind);rw[f9 y (by omega) (.inr z),e1];have ya:=dq y;have e0:((0:Int):Rat)=0:=rfl;rw[e0]at ya;grind
theorem ji{v:Int}(h:0<v):(0:Rat)<(v:Rat):=PC.mpr h
theorem jQ{p q s t:Rat}(hp:0<=p)(hq:0<=q)(hs:0<s)(ht:0<t):∃ε:Rat,0<ε/\ε*p<=s/\ε*q<=t:=by
 have k1:=da hs (show 0<p+1 by grind);have k2:=da ht (show 0<q+1 by grind);have f1:s/(p+1)*(p+1)=s:=PK (by grind);have f2:t/(q+1)*(q+1)=t:=PK (by grind);generalize s/(p+1)=A at *
 generalize t/(q+1)=C at *
 rcases P5 (a:=A) (b:=C)with z |z
 ·have:=PD z hq;exact⟨A,k1,by grind,by grind⟩
 ·have:=PD z hp;exact⟨C,k2,by grind,by grind⟩
theorem mi{u v w d:Int}(hw:0<w)(hd:NSq d){R ε:Rat}(hR:0<=R)(hε:0<ε):∃δ:Rat,0<δ/\∀x y:Rat,Bd R x->Bd R y->x<y->y-x<=δ->0<sdR [u,d*v*v,w,aG v] x->¬0<sdR [u,d*v*v,w,aG v] y->(v=0\/0<(v:Rat)*((w:Rat)*x-u))/\Bd ε (((w:Rat)*x-u)*((w:Rat)*x-u)-(d:Rat)*v*v):=by
 have hW:(1:Rat)<=(w:Rat):=dq (a:=1) (by omega);obtain⟨U,U0,U1⟩:=fY (u:Rat);have hWR:=PJ (show(0:Rat)<=w by grind) hR;obtain⟨B,hB⟩:∃B:Rat,B=(w:Rat)*R+U+1:=⟨_,rfl⟩;have hB1:1<=B:=by grind
 obtain⟨m,m0,m1,m2⟩:∃m:Rat,0<m/\m<=1/2/\m*(2*B)<=ε:=by
  have h2:0<2*B:=by grind
  have hw:=da hε h2;have hw2:ε/(2*B)*(2*B)=ε:=PK (by grind);rcases P5 (a:=ε/(2*B)) (b:=1/2)with z |z
  ·exact⟨_,hw,z,by rw[hw2];exact Py⟩
  ·refine⟨1/2,by grind,Py,?_⟩;have:=PD z (Pm h2);rw[hw2]at this;grind
 have eδ:m/(w:Rat)*(w:Rat)=m:=PK (by grind);refine⟨m/(w:Rat),da m0 (by grind),λx y hx hy hxy hyd sx sy=>?_⟩
 have bdX:∀z:Rat,Bd R z->Bd B ((w:Rat)*z-u):=λz hz=>by obtain⟨a1,a2⟩:=hz;obtain⟨b1,b2⟩:=U1;have c1:=Px a1 (show(0:Rat)<=w by grind);have c2:=Px a2 (show(0:Rat)<=w by grind);constructor<;>grind
 obtain⟨X1,X2⟩:=bdX x hx;obtain⟨Y1,Y2⟩:=bdX y hy
 have hXY:(w:Rat)*x-u<(w:Rat)*y-u:=by have:=RJ hxy (show(0:Rat)<w by grind);grind
 have hYm:(w:Rat)*y-u<=(w:Rat)*x-u+m:=by have:=PD hyd (show(0:Rat)<=w by grind);rw[eδ]at this;grind
 have eE:((d*v*v:Int):Rat)=(d:Rat)*v*v:=by simp only[Pp]
 have e1:v≠0->(1:Rat)<=(d:Rat)*v*v:=λhv=>by
  rw[<- eE];refine dq (a:=1) ?_
  have:0<d*v*v:=by
   rw[PR];refine Pl hd.1 ?_;rcases Qh hv with z |z
   ·exact Qq z z
   ·exact Pl z z
  omega
 by_cases hv:v<0
 ·have es:aG v = -1:=by unfold aG;rw[if_pos hv]
  rw[es]at sx sy;rw[nV,eE]at sx;rw[nV,eE]at sy;have e1:=e1 (by omega);generalize (w:Rat)*x-u=X at *
  generalize (w:Rat)*y-u=Y at *
  generalize (d:Rat)*v*v=E at *
  obtain⟨sx1,sx2⟩:=sx;have vr:(v:Rat)<0:=PC.mpr hv
  have hX0:X<0:=Qv.mp λz=>by
   have:X=0:=by grind
   subst this;grind
  have hY0:Y<=0:=PZ.mp λz=>by
   have q1 : -(1/2)<=X:=by grind
   have:=AV (z:=X);have:=Px (show -X<=1/2 by grind) (show(0:Rat) <= -X by grind);grind
  have hYE:Y*Y<=E:=PZ.mp λz=>sy ⟨hY0,z⟩
  have q:=Px (show -X-Y<=2*B by grind) (show(0:Rat)<=Y-X by grind);have q2:=PD (show Y-X<=m by grind) (show(0:Rat)<=2*B by grind);have q3:(Y-X)*(-X-Y)=X*X-Y*Y:=by grind
  refine⟨.inr ?_,?_,?_⟩
  ·have:=PB (show 0 < -(v:Rat) by grind) (show 0 < -X by grind);grind
  ·grind
  ·grind
 ·have es:aG v=1:=by unfold aG;rw[if_neg hv]
  rw[es]at sx sy;rw[jP,eE]at sx;rw[jP,eE]at sy;generalize (w:Rat)*x-u=X at *
  generalize (w:Rat)*y-u=Y at *
  have hY0:0<=Y:=PZ.mp λz=>sy (.inl z)
  have hYE:(d:Rat)*v*v<=Y*Y:=PZ.mp λz=>sy (.inr z)
  by_cases hv0:v=0
  ·have eV:(v:Rat)=0:=by rw[hv0];rfl
   rw[eV]at sx hYE ⊢
   have hX0:X<0:=by
    rcases sx with z |z
    ·exact z
    ·have:0<=X*X:=by
      rcases P5 (a:=0) (b:=X)with y |y
      ·exact PJ y y
      ·have:=PJ (show 0 <= -X by grind) (show 0 <= -X by grind);grind
     grind
   have q:=Px (show -X<=m by grind) (show(0:Rat) <= -X by grind);have q1:=PD (show -X<=m by grind) (Pm m0);have q2:=Px (show m<=2*B by grind) (Pm m0);have q4:=PJ (show 0 <= -X by grind) (show 0 <= -X by grind);refine⟨.inl hv0,?_,?_⟩<;>grind
  ·have e1:=e1 hv0;have vr:(0:Rat)<(v:Rat):=ji (by omega);generalize (d:Rat)*v*v=E at *
   have hX0:0<X:=Qv.mp λz=>by have:=Px (show Y<=1/2 by grind) hY0;grind
   have hXE:X*X<E:=by
    rcases sx with z |z
    ·grind
    ·exact z
   have q:=Px (show X+Y<=2*B by grind) (show(0:Rat)<=Y-X by grind);have q2:=PD (show Y-X<=m by grind) (show(0:Rat)<=2*B by grind);have q3:(Y-X)*(X+Y)=Y*Y-X*X:=by grind
   refine⟨.inr (PB vr hX0),?_,?_⟩<;>grind
theorem zG{u v w d:Int}(hw:0<w)(hd:NSq d){q:List Int}(h0:sgq (hpA u v w d q).1 (hpA u v w d q).2.1 d≠0){R:Rat}(hR:0<=R):∃δ κ:Rat,0<δ/\0<κ/\∀x y:Rat,Bd R x->Bd R y->x<y->y-x<=δ->0<sdR [u,d*v*v,w,aG v] x->¬0<sdR [u,d*v*v,w,aG v] y->κ<=(sgq (hpA u v w d q).1 (hpA u v w d q).2.1 d:Rat)*pv q x:=by
 obtain⟨b',F,nF,hb,hv⟩:=pC (u:=u) (v:=v) (w:=w) (d:=d) q;obtain⟨η,hη,hn⟩:=zE hd h0;have mp:(0:Rat)<((hpA u v w d q).2.2:Rat):=PC.mpr (pD hw q)
 have hτ:sgq (hpA u v w d q).1 (hpA u v w d q).2.1 d=1\/sgq (hpA u v w d q).1 (hpA u v w d q).2.1 d = -1:=by rcases fb (hpA u v w d q).1 (hpA u v w d q).2.1 d with z |z |z<;>omega
 generalize sgq (hpA u v w d q).1 (hpA u v w d q).2.1 d=τ at *
 generalize (hpA u v w d q).1=a at *
 generalize (hpA u v w d q).2.1=b at *
 generalize ((hpA u v w d q).2.2:Rat)=m at *
 have hW:(1:Rat)<=(w:Rat):=dq (a:=1) (by omega);obtain⟨M,M0,hM,_⟩:=nF R hR
 have bb0:(0:Rat)<=(b':Rat)*b':=by
  rcases P5 (a:=0) (b:=(b':Rat))with y |y
  ·exact PJ y y
  ·have:=PJ (show 0 <= -(b':Rat) by grind) (show 0 <= -(b':Rat) by grind);grind
 obtain⟨ε,ε0,ε1,ε2⟩:=jQ bb0 M0 (show(0:Rat)<1/4 by grind) (show 0<η/2 by grind);obtain⟨δ,δ0,hδ⟩:=mi (u:=u) (v:=v) hw hd hR ε0;have hκ:=da (PB (show(0:Rat)<w by grind) (show 0<η/2 by grind)) mp;have eκ:(w:Rat)*(η/2)/m*m=(w:Rat)*(η/2):=PK (by grind);refine⟨δ,(w:Rat)*(η/2)/m,δ0,hκ,λx y hx hy hxy hyd sx sy=>?_⟩;generalize (w:Rat)*(η/2)/m=κ at *
 obtain⟨p1,p2,p3⟩:=hδ x y hx hy hxy hyd sx sy;have hvx:=hv x;obtain⟨F1,F2⟩:=hM x hx;generalize (w:Rat)*x-u=X at *
 have nz:=hn ((b':Rat)*X) (by
  by_cases hb0:b=0
  ·exact .inl hb0
  ·right;rcases p1 with z |z
   ·rw[z,PN]at hb;exact absurd hb hb0
   ·have:b'≠0:=λy=>hb0 (by rw[hb,y,PX])
    have bb:(1:Rat)<=(b':Rat)*b':=by
     have:1<=b'*b':=by
      rcases Qh this with y |y
      ·have:=Qq y y;omega
      ·have:=Pl y y;omega
     have:=dq this
     rwa [Pp]at this
    have:=PB (show(0:Rat)<(b':Rat)*b' by grind) z;rw[hb,Pp];grind) (by
  rw[hb,Pp];have q1:=PD p2 bb0;have q2:=PD p3 bb0
  constructor<;>grind)
 have small : -(η/2)<=(τ:Rat)*((X*X-(d:Rat)*v*v)*F x):=by
  obtain⟨t1,t2⟩:=Bd.mul ⟨p2,p3⟩ ⟨F1,F2⟩;rcases hτ with z |z
  ·have:(τ:Rat)=1:=by rw[z];rfl
   rw[this];grind
  ·have:(τ:Rat) = -1:=by rw[z];rfl
   rw[this];grind
 have tot:η/2<=(τ:Rat)*((X*X-(d:Rat)*v*v)*F x+a+b'*X):=by
  generalize (X*X-(d:Rat)*v*v)*F x=G at *
  grind
 have:=Px tot (show(0:Rat)<=w by grind)
 have e2:(w:Rat)*((τ:Rat)*((X*X-(d:Rat)*v*v)*F x+a+b'*X))=(τ:Rat)*pv q x*m:=by
  have:(τ:Rat)*pv q x*m=(τ:Rat)*(m*pv q x):=by grind
  rw[this,hvx];grind
 rw[e2,<- eκ]at this;exact kK mp this
theorem Dk{p q:List Int}(hp:Pri p)(h:¬Dv p q):Cop2 p (ad (slopeL p) q):=λd dn dt h1 h2=>by
 refine Classical.byContradiction λhl=>?_
 have p2:=hp.two;obtain⟨c,g,hc,gt,hg⟩:=h1.trim
 have gne:g≠[]:=λz=>by
  subst z
  have:∀n,cf p n=0:=λn=>by have:=hg n;rw[dO]at this;exact(Qk.mp this).resolve_left hc
  exact gO hp.pln.tr hp.pln.ne (this _)
 have gl:=Pq.mpr gne;have dl:=Pq.mpr dn
 have glt:g.length<p.length:=by
  have ht:=mj (a:=g) (b:=d) (la:=g.length-1) (lb:=d.length-1) (by omega) (by omega);have nz:cf g (g.length-1)*cf d (d.length-1)≠0:=PP (gO gt gne) (gO dt dn);rw[<- ht,<- hg]at nz;have:g.length-1+(d.length-1)<p.length:=Classical.byContradiction λz=>nz (by rw[cF (by omega),PN])
  omega
 have hm:Dv p (ad g d):=Dv.prop_right (x:=1) (y:=c) (by decide) (λn=>by rw[aN,<- hg];omega) (Dv.refl p);rcases hp.or g d hm with z |z
 ·exact gne (Dv.short hp.pln.ne hp.pln.tr gt glt z)
 ·rcases hp.or _ _ (z.trans h2)with y |y
  ·have:=Dv.short hp.pln.ne hp.pln.tr (f7 hp.pln.tr) (by rw[d9];omega) y;have:=congrArg List.length this;rw[d9]at this;simp at this;omega
  ·exact h y
theorem oE(u e w:Int)(x:Rat):pv (aH u e w) x=if e=0 then(w:Rat)*x-u else((w:Rat)*x-u)*((w:Rat)*x-u)-(e:Rat):=by
 unfold aH;split
 ·show((-u:Int):Rat)+x*((w:Rat)+x*0)=_;rw[QU];grind
 ·show((u*u-e:Int):Rat)+x*(((-2*w*u:Int):Rat)+x*(((w*w:Int):Rat)+x*0))=_;have e2:((-2:Int):Rat) = -2:=rfl;simp only[Ri,Pp,e2];grind
theorem KR{u v w d:Int}(hw:0<w)(hd:NSq d){q:List Int}(h:Dv (ag [u,d*v*v,w]) q){l k:Rat}(hlk:l<k)(hl:0<sdR [u,d*v*v,w,aG v] l)(hk:¬0<sdR [u,d*v*v,w,aG v] k):sgq (hpA u v w d q).1 (hpA u v w d q).2.1 d=0:=by
 refine Classical.byContradiction λh0=>?_
 obtain⟨U,u0,u1⟩:=fY l;obtain⟨V,v0,v1⟩:=fY k;have hR:0<=U+V:=by grind
 have hbd:∀x,l<=x->x<=k->Bd (U+V) x:=λx a b=>by obtain⟨c1,c2⟩:=u1;obtain⟨c3,c4⟩:=v1;constructor<;>grind
 obtain⟨δ1,κ,d1,hκ,l1⟩:=zG hw hd h0 hR;have eE:((d*v*v:Int):Rat)=(d:Rat)*v*v:=by simp only[Pp]
 obtain⟨Γ,F,hΓ,nF,hq⟩:∃(Γ:Rat) (F:Rat->Rat),Γ≠0/\Nice F/\∀x,Γ*pv q x*(Γ*pv q x)=F x*(((w:Rat)*x-u)*((w:Rat)*x-u)-(d:Rat)*v*v):=by
  obtain⟨c,g,hc,hg⟩:=h;obtain⟨m,hm,em⟩:=ij (eU (u:=u) (e:=d*v*v) (show 1<=w by omega)).1
  have ep:∀x,(m:Rat)*c*pv q x=pv g x*pv (aH u (d*v*v) w) x:=λx=>by
   have h1:=oF x g (ag [u,d*v*v,w]) (ad g (ag [u,d*v*v,w])) (aN _ _);have h2:=fk (a:=q) (c:=ad g (ag [u,d*v*v,w])) (u:=c) x (λn=>by rw[aN];exact(hg n).symm);have h3:=fk (a:=ag [u,d*v*v,w]) (c:=aH u (d*v*v) w) (u:=m) x em;rw[h3];have:(m:Rat)*c*pv q x=(m:Rat)*((c:Rat)*pv q x):=by grind
   rw[this,<- h2,h1];grind
  have hne:(m:Rat)*c≠0:=λz=>by
   rcases RI.mp z with y |y
   ·exact jj hm y
   ·exact jj hc y
  have nX:Nice λx:Rat=>(w:Rat)*x-u:=by
   have:=((fz (w:Rat)).mul nice_id).add (fz (-(u:Rat)));have e:(λx:Rat=>(w:Rat)*x + -(u:Rat))=λx:Rat=>(w:Rat)*x-u:=by funext x;grind
   rwa [e]at this
  by_cases he:d*v*v=0
  ·refine⟨_,λx=>pv g x*pv g x,hne,(c7 g).mul (c7 g),λx=>?_⟩;have hx:=ep x;rw[oE,if_pos he]at hx;rw[hx,<- eE,he];have:((0:Int):Rat)=0:=rfl;rw[this];grind
  ·refine⟨_,λx=>pv g x*pv g x*(((w:Rat)*x-u)*((w:Rat)*x-u) + -((d*v*v:Int):Rat)),hne,((c7 g).mul (c7 g)).mul ((nX.mul nX).add (fz _)),λx=>?_⟩;have hx:=ep x;rw[oE,if_neg he]at hx;rw[hx,eE];grind
 obtain⟨M,M0,hM,_⟩:=nF (U+V) hR
 have gg:0<Γ*κ*(Γ*κ):=by
  have hne:Γ*κ≠0:=λz=>by rcases RI.mp z with y |y;exact hΓ y;grind
  generalize Γ*κ=t at *
  rcases P5 (a:=0) (b:=t)with y |y
  ·exact PB (by grind) (by grind)
  ·have:=PB (show 0 < -t by grind) (show 0 < -t by grind);grind
 obtain⟨ε,ε0,ε1,_⟩:=jQ M0 (Py (a:=0)) (show 0<Γ*κ*(Γ*κ)/2 by grind) (show(0:Rat)<1 by grind);obtain⟨δ2,d2,l2⟩:=mi (u:=u) (v:=v) hw hd hR ε0
 obtain⟨δ,hδ,g1,g2⟩:∃δ:Rat,0<δ/\δ<=δ1/\δ<=δ2:=by
  rcases P5 (a:=δ1) (b:=δ2)with z |z
  ·exact⟨δ1,d1,Py,z⟩
  ·exact⟨δ2,d2,z,Py⟩
 obtain⟨n,hn⟩:=jX hδ (k-l);obtain⟨x,y,a1,a2,a3,a4,a5,a6⟩:=kn (s:=sdR [u,d*v*v,w,aG v]) hδ n l k hlk hl (by omega) hn;have bx:=hbd x a1 (by grind);have b_y:=hbd y (by grind) a3;have k1:=l1 x y bx b_y a2 (by grind) a5 (by omega);obtain⟨_,k2,k3⟩:=l2 x y bx b_y a2 (by grind) a5 (by omega);obtain⟨f1,f2⟩:=Bd.mul (hM x bx) ⟨k2,k3⟩;have hqx:=hq x
 have hτ:sgq (hpA u v w d q).1 (hpA u v w d q).2.1 d=1\/sgq (hpA u v w d q).1 (hpA u v w d q).2.1 d = -1:=by rcases fb (hpA u v w d q).1 (hpA u v w d q).2.1 d with z |z |z<;>omega
 have sq:κ*κ<=pv q x*pv q x:=by
  generalize pv q x=t at *
  generalize sgq (hpA u v w d q).1 (hpA u v w d q).2.1 d=τ at *
  have e1:((1:Int):Rat)=1:=rfl;have e2:((-1:Int):Rat) = -1:=rfl;rcases hτ with rfl |rfl
  ·rw[e1]at k1;have:=Px k1 (Pm hκ);have:=PD k1 (show(0:Rat)<=t by grind);grind
  ·rw[e2]at k1;have:=Px k1 (Pm hκ);have:=PD k1 (show(0:Rat) <= -t by grind);grind
 have gg2:0<Γ*Γ:=by
  rcases P5 (a:=0) (b:=Γ)with y |y
  ·exact PB (by grind) (by grind)
  ·have:=PB (show 0 < -Γ by grind) (show 0 < -Γ by grind);grind
 have s3:=Px sq (Pm gg2);have s4:Γ*Γ*(pv q x*pv q x)=Γ*pv q x*(Γ*pv q x):=by grind
 have s5:Γ*Γ*(κ*κ)=Γ*κ*(Γ*κ):=by grind
 rw[s4,s5,hqx]at s3;generalize F x*(((w:Rat)*x-u)*((w:Rat)*x-u)-(d:Rat)*v*v)=G at *
 generalize Γ*κ*(Γ*κ)=T at *
 have:M*ε=ε*M:=by grind
 rw[this]at f2;grind
theorem Fq{u v w d:Int}(hw:0<w)(hd:NSq d){q:List Int}(ha:(hpA u v w d q).1=0)(hb0:(hpA u v w d q).2.1=0){R ε:Rat}(hR:0<=R)(hε:0<ε):∃δ:Rat,0<δ/\∀x y:Rat,Bd R x->Bd R y->x<y->y-x<=δ->0<sdR [u,d*v*v,w,aG v] x->¬0<sdR [u,d*v*v,w,aG v] y->Bd ε (pv q x)/\Bd ε (pv (aH u (d*v*v) w) x):=by
 obtain⟨b',F,nF,hb,hv⟩:=pC (u:=u) (v:=v) (w:=w) (d:=d) q;have mp:(0:Rat)<((hpA u v w d q).2.2:Rat):=ji (pD hw q);rw[ha]at hv;rw[hb0]at hb;generalize ((hpA u v w d q).2.2:Rat)=m at *
 have W0:(0:Rat)<w:=ji hw;have eE:((d*v*v:Int):Rat)=(d:Rat)*v*v:=by simp only[Pp]
 have z0:((0:Int):Rat)=0:=rfl;obtain⟨M,M0,hM,_⟩:=nF R hR;obtain⟨β,β0,hβ⟩:=fY (b':Rat);obtain⟨C,hC⟩:∃C:Rat,C=(w:Rat)*(M+β)/m:=⟨_,rfl⟩;have eC:C*m=(w:Rat)*(M+β):=by rw[hC];exact PK (by grind)
 have C0:0<=C:=PZ.mp λz=>by have q1:=Qr z mp;have q2:=PJ (Pm W0) (show 0<=M+β by grind);grind
 obtain⟨e1,he1,he2,he3⟩:∃e1:Rat,0<e1/\e1<=ε/\e1<=1:=by
  rcases P5 (a:=ε) (b:=1)with z |z
  ·exact⟨ε,hε,Py,z⟩
  ·exact⟨1,by grind,z,Py⟩
 obtain⟨t,t0,t1,t2⟩:=jQ C0 (show(0:Rat)<=1 by grind) hε he1
 have bdm:∀v:Rat,Bd (t*C*m) (m*v)->Bd ε v:=λv h=>by
  obtain⟨h1,h2⟩:=h;have k1:=PD t1 (Pm mp);constructor
  ·refine kK mp ?_;grind
  ·refine kK mp ?_;grind
 have eT:t*C*m=(w:Rat)*(t*M+t*β):=by
  have:t*C*m=t*(C*m):=by grind
  rw[this,eC];grind
 by_cases hv0:v=0
 ·obtain⟨δ,δ0,hδ⟩:=mi (u:=u) (v:=v) hw hd hR (PB t0 t0);refine⟨δ,δ0,λx y hx hy hxy hyd sx sy=>?_⟩;obtain⟨_,p2,p3⟩:=hδ x y hx hy hxy hyd sx sy;have hvx:=hv x;have hF:=hM x hx;rw[oE,if_pos (by rw[hv0];omega)];have eV:(v:Rat)=0:=by rw[hv0];rfl
  rw[eV]at p2 p3 hvx;generalize (w:Rat)*x-u=X at *
  have bX:Bd t X:=by
   constructor
   ·refine PZ.mp λz=>?_
    have:=Qr (show t < -X by grind) (show 0 < -X by grind);have:=RJ (show t < -X by grind) t0;grind
   ·refine PZ.mp λz=>?_
    have:=Qr z (show 0<X by grind);have:=RJ z t0;grind
  refine⟨bdm _ ?_,bX.mono (by grind)⟩;rw[hvx,z0,eT];have k1:=(bX.mul bX).mul hF;have k2:=hβ.mul bX
  have k3:Bd (t*M+t*β) ((X*X-(d:Rat)*0*0)*F x+0+b'*X):=by obtain⟨a1,a2⟩:=k1;obtain⟨c1,c2⟩:=k2;have q1:=PD (show t*t<=t by have:=Px (show t<=1 by grind) (Pm t0);grind) M0;constructor<;>grind
  obtain⟨a1,a2⟩:=k3;have c1:=Px a1 (Pm W0);have c2:=Px a2 (Pm W0);constructor<;>grind
 ·have hb':b'=0:=(Qk.mp hb.symm).resolve_right hv0;obtain⟨δ,δ0,hδ⟩:=mi (u:=u) (v:=v) hw hd hR t0;refine⟨δ,δ0,λx y hx hy hxy hyd sx sy=>?_⟩;obtain⟨_,p2,p3⟩:=hδ x y hx hy hxy hyd sx sy;have hvx:=hv x;have hF:=hM x hx
  have he:¬d*v*v=0:=λz=>by
   rcases Qk.mp z with y |y
   ·rcases Qk.mp y with y |y
    ·have:=hd.1;omega
    ·exact hv0 y
   ·exact hv0 y
  rw[oE,if_neg he,eE];rw[hb',z0]at hvx;generalize (w:Rat)*x-u=X at *
  generalize X*X-(d:Rat)*v*v=P at *
  refine⟨bdm _ ?_,Bd.mono ⟨p2,p3⟩ (by grind)⟩;rw[hvx,eT];obtain⟨a1,a2⟩:=Bd.mul ⟨p2,p3⟩ hF;have c1:=Px a1 (Pm W0);have c2:=Px a2 (Pm W0);have c3:=PJ (Pm W0) (PJ (Pm t0) β0);generalize P*F x=G at *
  constructor<;>grind
theorem yJ{a b d:Int}(h:sgq a b d=0):a=0/\b=0:=by
 unfold sgq at h
 split at h
 ·split at h
  ·cases h
  ·omega
 ·split at h
  ·cases h
  ·split at h
   ·split at h<;>cases h
   ·split at h<;>cases h
theorem zx{one other:List Int}(ho:other≠[])(h:Dv other one)(ht:Tr other):nxt one other=[]:=by unfold nxt rst;rw[if_neg ho,h.rest ho ht];rfl
theorem EN{p G:List Int}(hp:Pln p)(tG:Tr G)(nG:G≠[])(h:Dv p G)(N:Nat) :
 (aU (N+3) p G=[p,G]/\∃c k:Int,c≠0/\k≠0/\∀n,c*cf G n=k*cf p n)\/aU (N+3) p G=[p,G,scL (-1) p]:=by
 have hl:p.length<=G.length:=Nat.not_lt.mp λz=>nG (Dv.short hp.ne hp.tr tG z h)
 have pl:=Pq.mpr hp.ne
 have r0:∀(n:Nat) (a b:List Int),a≠[]->aU (n+1) a b=a::aU n b (nxt a b):=λn a b ha=>by show(if a=[]then[]else a::aU n b (nxt a b))=_;rw[if_neg ha]
 rcases Nat.lt_or_eq_of_le hl with z |z
 ·right
  have e1:aQ p G=p:=by
   unfold aQ;have:aT p G=0:=by unfold aT;omega
   rw[this];exact qr hp.tr
  have e2:nxt p G=scL (-1) p:=by unfold nxt rst;rw[if_neg nG,e1,ib hp.tr];refine ot (.inr ?_);rw[pE,hp.prim];rfl
  have n2:scL (-1) p≠[]:=λy=>hp.ne (List.map_eq_nil_iff.mp y)
  have e3:nxt G (scL (-1) p)=[]:=zx n2 (Dv.prop_left (x:=1) (y := -1) (by decide) (by decide) (λn=>by rw[bI];omega) h) (jR (by decide) hp.tr);rw[r0 _ _ _ hp.ne,r0 _ _ _ nG,e2,r0 _ _ _ n2,e3,gD]
 ·left;obtain⟨c,g,hc,gt,hg⟩:=h.trim
  have gne:g≠[]:=λy=>by subst y;have:=hg (G.length-1);rw[dO]at this;exact gO tG nG ((Qk.mp this).resolve_left hc)
  have gl:=Pq.mpr gne
  have g1:g.length=1:=by
   have ht:=mj (a:=g) (b:=p) (la:=g.length-1) (lb:=p.length-1) (by omega) (by omega);have nz:cf g (g.length-1)*cf p (p.length-1)≠0:=PP (gO gt gne) (gO hp.tr hp.ne);rw[<- ht,<- hg]at nz;have:g.length-1+(p.length-1)<G.length:=Classical.byContradiction λy=>nz (by rw[cF (by omega),PN])
   omega
  obtain⟨k,rfl⟩:=RS.mp g1;have hk:k≠0:=gO gt gne;have eq:∀n,c*cf G n=k*cf p n:=λn=>by rw[hg,fC]
  have e2:nxt p G=[]:=zx nG ⟨k,[c],hk,λn=>by rw[fC,eq]⟩ tG;refine⟨?_,c,k,hc,hk,eq⟩;rw[r0 _ _ _ hp.ne,r0 _ _ _ nG,e2,gD]
theorem CD{p G:List Int}(hp:Pln p)(tG:Tr G)(nG:G≠[])(h:Dv p G)(N:Nat){x y:Rat}(hx:sgR (pv p x)≠0)(hy:sgR (pv p y)≠0):vrs (aU (N+3) p G) x=vrs (aU (N+3) p G) y:=by
 have nz:∀{v:Rat},sgR v≠0->sgR v=1\/sgR v = -1:=λ{v} hv=>by rcases iQ v with z |z |z;exact .inl z;exact absurd z hv;exact .inr z
 rcases EN hp tG nG h N with⟨e,c,k,hc,hk,eq⟩ |e
 ·rw[e]
  have hG:∀z,(c:Rat)*pv G z=(k:Rat)*pv p z:=λz=>by have h1:=fk (a:=G) (c:=scL c G) (u:=c) z (λn=>bI c G n);have h2:=fk (a:=p) (c:=scL c G) (u:=k) z (λn=>by rw[bI];exact eq n);rw[<- h1,h2]
  obtain⟨σ,hσ⟩:∃σ:Int,∀z,sgR (pv G z)=σ*sgR (pv p z):=by
   have key:∀t:Rat,t≠0->∀v:Rat,sgR (t*v)=sgR t*sgR v:=λt ht v=>by
    rcases bH t with⟨a,b⟩ |⟨a,b⟩ |⟨a,b⟩
    ·rcases bH v with⟨a',b'⟩ |⟨a',b'⟩ |⟨a',b'⟩
     ·rw[b,b'];have:=PB (show 0 < -t by grind) (show 0 < -v by grind);rcases bH (t*v)with⟨q,_⟩ |⟨q,_⟩ |⟨_,q⟩
      ·grind
      ·grind
      ·rw[q];rfl
     ·rw[a',Rat.mul_zero];have:sgR 0=0:=by decide
      rw[this];omega
     ·rw[b,b'];have:=PB (show 0 < -t by grind) a';rcases bH (t*v)with⟨_,q⟩ |⟨q,_⟩ |⟨q,_⟩
      ·rw[q];rfl
      ·grind
      ·grind
    ·exact absurd a ht
    ·rw[b,lI a];omega
   have c0:=jj hc;have k0:=jj hk;refine⟨sgR (c:Rat)*sgR (k:Rat),λz=>?_⟩;have h1:=congrArg sgR (hG z);rw[key _ c0,key _ k0]at h1
   have cc:sgR (c:Rat)*sgR (c:Rat)=1:=by
    rcases bH (c:Rat)with⟨_,b⟩ |⟨b,_⟩ |⟨_,b⟩
    ·rw[b];decide
    ·exact absurd b c0
    ·rw[b];decide
   have:sgR (c:Rat)*(sgR (c:Rat)*sgR (pv G z))=sgR (c:Rat)*(sgR (k:Rat)*sgR (pv p z)):=by rw[h1]
   rw[<- PR,cc,P7]at this;rw[this,PR]
  have one:∀z,sgR (pv p z)≠0->vrs [p,G] z=if σ<0 then 1 else 0:=λz hz=>by
   show vr 0 (sgR (pv p z)::[sgR (pv G z)])=_;rw[hI,hσ z];show(if σ*sgR (pv p z)*sgR (pv p z)<0 then 1 else 0)+vr _ []=_;have:sgR (pv p z)*sgR (pv p z)=1:=by rcases nz hz with a |a<;>rw[a]<;>decide
   rw[PR,this,Qe];show _+0=_;omega
  rw[one x hx,one y hy]
 ·rw[e]
  have one:∀z,sgR (pv p z)≠0->vrs [p,G,scL (-1) p] z=1:=λz hz=>by
   have hn:sgR (pv (scL (-1) p) z) = -sgR (pv p z):=by rw[fk (a:=p) (c:=scL (-1) p) (u := -1) z (λn=>bI _ _ n)];have e:((-1:Int):Rat) = -1:=rfl;rw[e];rcases bH (pv p z)with⟨a,b⟩ |⟨a,b⟩ |⟨a,b⟩<;>rcases bH (-1*pv p z)with⟨a',b'⟩ |⟨a',b'⟩ |⟨a',b'⟩<;>rw[b,b']<;>grind
   show vr 0 (sgR (pv p z)::[sgR (pv G z),sgR (pv (scL (-1) p) z)])=_;rw[hI,hn,qo (nz hz) (iQ _)];rfl
  rw[one x hx,one y hy]
theorem Ar{u v w d l1 l2 h1 h2:Int}(hd:NSq d)(hO:OneS [[u,d*v*v,w]] [u,d*v*v,w] [u,d*v*v,w,aG v] l1 l2 h1 h2):∃ε:Int,(ε=1\/ε = -1)/\∀x:Rat,(l1:Rat)/(l2:Rat)<=x->x<=(h1:Rat)/(h2:Rat)->sgR (pv (ag [u,d*v*v,w]) x)=ε*sdR [u,d*v*v,w,aG v] x:=by
 have hF:=hO.fam
 have sgn:∀x:Rat,sgR (pv (ag [u,d*v*v,w]) x)=spr x.num x.den (spF [u,d*v*v,w]):=λx=>by have h:=hF.sign (t:=x.num) (n:=(x.den:Int)) (dG x);rw[ke hF,gC,iP (dG x),pN]at h;exact h
 by_cases hv:v=0
 ·subst hv;have e0:d*0*0=0:=by omega
  rw[e0]at sgn ⊢;refine⟨-1,.inr rfl,λx _ _=>?_⟩;rw[sgn,iK];show -aj [u,0,w,1] x.num x.den*1 = -1*aj [u,0,w,1] x.num x.den;omega
 ·have he:0<d*v*v:=by
   rw[PR];refine Pl hd.1 ?_;rcases Qh hv with z |z
   ·exact Qq z z
   ·exact Pl z z
  have hns:=mh hd v;have lt:=(gd hO.l2p hO.h2p).mpr hO.lt
  have keep:∀σ:Int,[u,d*v*v,w,σ]∈spF [u,d*v*v,w]->σ≠aG v->∀x:Rat,(l1:Rat)/(l2:Rat)<=x->x<=(h1:Rat)/(h2:Rat)->sdR [u,d*v*v,w,σ] x=sdR [u,d*v*v,w,σ] ((l1:Rat)/(l2:Rat)):=λσ hm hσ x hx1 hx2=>by
   have hc:=iR (cX hF.q (l:=[u,d*v*v,w,σ]) (by rw[gC];exact hm));have nzx:∀z:Rat,sdR [u,d*v*v,w,σ] z≠0:=λz=>iM hns he (dG z)
   have hno:¬(0<sdR [u,d*v*v,w,σ] ((l1:Rat)/(l2:Rat))/\sdR [u,d*v*v,w,σ] ((h1:Rat)/(h2:Rat))<=0):=λz=>by
    rw[dN _ hO.l2p,dN _ hO.h2p]at z;have:=hO.only [u,d*v*v,w,σ] (by rw[gC];exact hm) z.1 z.2;simp at this
    exact hσ this
   rcases hc.u ((l1:Rat)/(l2:Rat))with a |a |a
   ·rw[a]
    have hh:sdR [u,d*v*v,w,σ] ((h1:Rat)/(h2:Rat))=1:=by
     rcases hc.u ((h1:Rat)/(h2:Rat))with b |b |b
     ·exact b
     ·exact absurd b (nzx _)
     ·exact absurd ⟨by omega,by omega⟩ hno
    rcases hc.u x with b |b |b
    ·exact b
    ·exact absurd b (nzx _)
    ·rcases(show x<(h1:Rat)/(h2:Rat)\/x=(h1:Rat)/(h2:Rat) by grind)with c |c
     ·have:=hc.m _ _ c (by omega);omega
     ·rw[c]at b;omega
   ·exact absurd a (nzx _)
   ·rw[a];rcases(show(l1:Rat)/(l2:Rat)<x\/(l1:Rat)/(l2:Rat)=x by grind)with c |c
    ·exact hc.m _ _ c (by omega)
    ·rw[<- c];exact a
  have sp:=ic (u:=u) (b:=w) he
  have val:∀x:Rat,sgR (pv (ag [u,d*v*v,w]) x)=sdR [u,d*v*v,w,1] x*sdR [u,d*v*v,w,-1] x:=λx=>by rw[sgn,sp];show -aj [u,d*v*v,w,1] x.num x.den*(-aj [u,d*v*v,w,-1] x.num x.den*1)=aj [u,d*v*v,w,1] x.num x.den*aj [u,d*v*v,w,-1] x.num x.den;rw[Qe,Rf]
  have unit:∀σ:Int,sdR [u,d*v*v,w,σ] ((l1:Rat)/(l2:Rat))=1\/sdR [u,d*v*v,w,σ] ((l1:Rat)/(l2:Rat)) = -1:=λσ=>by
   have:=iM (u:=u) (b:=w) (σ:=σ) (t:=((l1:Rat)/(l2:Rat)).num) hns he (dG ((l1:Rat)/(l2:Rat)));rcases cO [u,d*v*v,w,σ] ((l1:Rat)/(l2:Rat)).num ((l1:Rat)/(l2:Rat)).den with z |z |z
   ·exact .inl z
   ·exact absurd z this
   ·exact .inr z
  by_cases hn:v<0
  ·have es:aG v = -1:=by unfold aG;rw[if_pos hn]
   refine⟨_,unit 1,λx a b=>?_⟩;rw[val,keep 1 (by rw[sp];simp) (by rw[es];decide) x a b,es]
  ·have es:aG v=1:=by unfold aG;rw[if_neg hn]
   refine⟨_,unit (-1),λx a b=>?_⟩;rw[val,keep (-1) (by rw[sp];simp) (by rw[es];decide) x a b,es,PQ]
theorem Dj{u v w d l1 l2 h1 h2:Int}(hd:NSq d)(hw:0<w)(hO:OneS [[u,d*v*v,w]] [u,d*v*v,w] [u,d*v*v,w,aG v] l1 l2 h1 h2){q:List Int}(tq:Tr q){N:Nat}(hN:q.length+5<=N)(htop:sg (hv h1 h2 (ag [u,d*v*v,w]))≠0) :
 vr 0 (sgv (aU N (ag [u,d*v*v,w]) (ap (ad (slopeL (ag [u,d*v*v,w])) q))) l1 l2)-vr 0 (sgv (aU N (ag [u,d*v*v,w]) (ap (ad (slopeL (ag [u,d*v*v,w])) q))) h1 h2)=sgq (hpA u v w d q).1 (hpA u v w d q).2.1 d:=by
 have hP:=fG (hO.fam.fac _ hO.mem);have lt:=(gd hO.l2p hO.h2p).mpr hO.lt;obtain⟨ε,hε,hs⟩:=Ar hd hO
 have sl:sdR [u,d*v*v,w,aG v] ((l1:Rat)/(l2:Rat))=1:=by rw[dN _ hO.l2p];have:=hO.inn.1;rcases cO [u,d*v*v,w,aG v] l1 l2 with z |z |z<;>omega
 have sk:sdR [u,d*v*v,w,aG v] ((h1:Rat)/(h2:Rat)) = -1:=by
  rw[iP hO.h2p,hs _ (Pm lt) Py]at htop;have h0:sdR [u,d*v*v,w,aG v] ((h1:Rat)/(h2:Rat))≠0:=λz=>htop (by rw[z,PN])
  rw[dN _ hO.h2p]at h0 ⊢;have:=hO.inn.2;rcases cO [u,d*v*v,w,aG v] h1 h2 with z |z |z<;>omega
 have hsl:sgR (pv (ag [u,d*v*v,w]) ((l1:Rat)/(l2:Rat)))≠0:=by rw[hs _ Py (Pm lt),sl];omega
 have hsk:sgR (pv (ag [u,d*v*v,w]) ((h1:Rat)/(h2:Rat)))≠0:=by rw[hs _ (Pm lt) Py,sk];omega
 have hcut:Cut (sdR [u,d*v*v,w,aG v]):=iR (cX hO.fam.q (by rw[gC];exact hO.sp));rw[ow hO.l2p,ow hO.h2p];show vrs _ _-vrs _ _=_;have p2:=hP.two;generalize hp:ag [u,d*v*v,w]=p at *
 by_cases hq:q=[]
 ·subst hq;have e:ad (slopeL p) []=[]:=by unfold ad;rw[if_pos (.inr rfl)]
  have e2:ap ([]:List Int)=[]:=rfl;rw[e,e2,tJ hP.pln.ne (by omega)];show vr 0 [_]-vr 0 [_]=sgq 0 0 d;rw[hI,hI,iO];rfl
 have sn:slopeL p≠[]:=λz=>by have:=congrArg List.length z;rw[d9]at this;simp at this;omega
 have tF:Tr (ad (slopeL p) q):=jS (f7 hP.pln.tr) tq
 have nF:ad (slopeL p) q≠[]:=λz=>by have:=congrArg List.length z;rw[bM sn hq]at this;have s1:=Pq.mpr sn;have s2:=Pq.mpr hq;simp at this;omega
 obtain⟨g0,t0,n0,e0⟩:=jZ tF nF;by_cases hdv:Dv p q
 ·have z:=KR (u:=u) (v:=v) hw hd (q:=q) (by rw[hp];exact hdv) lt (by rw[sl];decide) (by rw[sk];decide);rw[z];have hG:Dv p (ap (ad (slopeL p) q)):=Dv.prop_right (x:=(av (ad (slopeL p) q):Int)) (y:=1) (by omega) (λn=>by rw[<- e0 n,P7]) (hdv.trans (Dv.mul_right (slopeL p) q));obtain⟨M,rfl⟩:∃M,N=M+3:=⟨N-3,by omega⟩;rw[CD hP.pln t0 n0 hG M hsl hsk];omega
 ·have lF:(ap (ad (slopeL p) q)).length=p.length-1+q.length-1:=by unfold ap;rw[Pk,bM sn hq,d9]
  have pl3:p.length<=3:=by rw[<- hp];show(aB (aH _ _ _)).length<=3;rw[plain_len];unfold aH;split<;>simp
  obtain⟨M,rfl⟩:∃M,N=M+1+1:=⟨N-2,by omega⟩
  have cop:Cop2 p (ap (ad (slopeL p) q)):=by
   have:=(Dk hP hdv).shr hP.pln.tr hP.pln.ne tF
   rwa [ot (.inr hP.pln.prim)]at this
  have hst:=tE (M+1) p (ap (ad (slopeL p) q)) (by omega) hP.pln.tr hP.pln.ne t0 cop
  have er:aU (M+1+1) p (ap (ad (slopeL p) q))=p::ap (ad (slopeL p) q)::aU M (nxt p (ap (ad (slopeL p) q))) (nxt (ap (ad (slopeL p) q)) (nxt p (ap (ad (slopeL p) q)))):=by show(if p=[]then _ else p::(if ap (ad (slopeL p) q)=[]then _ else _))=_;rw[if_neg hP.pln.ne,if_neg n0]
  rw[er]at hst ⊢;have g0':(0:Rat)<((av (ad (slopeL p) q):Int):Rat):=ji g0
  have hdd:∀x,pv (slopeL p) x*pv q x=((av (ad (slopeL p) q):Int):Rat)*pv (ap (ad (slopeL p) q)) x:=λx=>by rw[<- oF x (slopeL p) q (ad (slopeL p) q) (aN _ _)];exact fk x e0
  obtain⟨U,u0,u1⟩:=fY ((l1:Rat)/(l2:Rat));obtain⟨V,v0,v1⟩:=fY ((h1:Rat)/(h2:Rat))
  have hbd:∀x:Rat,(l1:Rat)/(l2:Rat)<=x->x<=(h1:Rat)/(h2:Rat)->Bd (U+V) x:=λx a b=>by obtain⟨c1,c2⟩:=u1;obtain⟨c3,c4⟩:=v1;constructor<;>grind
  have h0:sgq (hpA u v w d q).1 (hpA u v w d q).2.1 d≠0:=λz=>by
   obtain⟨za,zb⟩:=yJ z;obtain⟨A,B,k,nA,nB,hk,hAB⟩:=p8 hst rfl;have hR:0<=U+V:=by grind
   obtain⟨M1,m1,a1,_⟩:=nA (U+V) hR;obtain⟨M2,m2,a2,_⟩:=(nB.mul (c7 (slopeL p))) (U+V) hR;obtain⟨m,hm,em⟩:=ij (eU (u:=u) (e:=d*v*v) (show 1<=w by omega)).1
   have em':∀x,pv (aH u (d*v*v) w) x=(m:Rat)*pv p x:=λx=>by rw[<- hp];exact fk x em
   obtain⟨ε',e0',e1',e2'⟩:=jQ (show 0<=M1 by exact m1) (show 0<=M2 by exact m2) (show 0<k/4 by grind) (show 0<((av (ad (slopeL p) q):Int):Rat)*(k/4)from PB g0' (by grind));obtain⟨δ,δ0,hδ⟩:=Fq hw hd za zb hR e0';obtain⟨n,hn⟩:=jX δ0 ((h1:Rat)/(h2:Rat)-(l1:Rat)/(l2:Rat));obtain⟨x,y,b1,b2,b3,b4,b5,b6⟩:=kn (s:=sdR [u,d*v*v,w,aG v]) δ0 n _ _ lt (by rw[sl];decide) (by rw[sk];decide) hn;have bx:=hbd x b1 (by grind);obtain⟨c1,c2⟩:=hδ x y bx (hbd y (by grind) b3) b2 b4 b5 (by omega)
   have hpx:Bd ε' (pv p x):=by
    rw[em']at c2;obtain⟨f1,f2⟩:=c2
    have hm1:(m:Rat) <= -1\/1<=(m:Rat):=by
     rcases Qh hm with y |y
     ·left;exact dq (b := -1) (by omega)
     ·right;exact dq (a:=1) (by omega)
    generalize pv p x=P at *
    rcases hm1 with y |y<;>constructor<;>refine PZ.mp λz=>?_
    ·have:=PD (show 1 <= -(m:Rat) by grind) (show 0 <= -P by grind);grind
    ·have:=PD (show 1 <= -(m:Rat) by grind) (show 0<=P by grind);grind
    ·have:=PD y (show 0 <= -P by grind);grind
    ·have:=PD y (show 0<=P by grind);grind
   obtain⟨f1,f2⟩:=(a1 x bx).mul hpx;obtain⟨f3,f4⟩:=(a2 x bx).mul c1;have hx:=hAB x;have hdx:=hdd x;generalize ((av (ad (slopeL p) q):Int):Rat)=γ at *
   have e5:B x*pv (slopeL p) x*pv q x=γ*(B x*pv (ap (ad (slopeL p) q)) x):=by
    have:B x*pv (slopeL p) x*pv q x=B x*(pv (slopeL p) x*pv q x):=by grind
    rw[this,hdx];grind
   rw[e5]at f3 f4;generalize B x*pv (ap (ad (slopeL p) q)) x=G at *
   generalize A x*pv p x=G1 at *
   have g1:G<=k/4:=kK g0' (by grind);have g2 : -(k/4)<=G:=kK g0' (by grind);rcases hx with z |z<;>grind
  obtain⟨δ,κ,d1,hκ,l1'⟩:=zG hw hd h0 (R:=U+V) (by grind);refine Dh hst g0' hdd hcut hε lt hs sl sk d1 λx y hx hy hxy hyd sx sy=>?_
  have k:=l1' x y (hbd x hx (by grind)) (hbd y (by grind) hy) hxy hyd (by omega) (by omega);rcases fb (hpA u v w d q).1 (hpA u v w d q).2.1 d with z |z |z
  ·rw[z]at k ⊢;have e:((1:Int):Rat)=1:=rfl;rw[e]at k;rcases bH (pv q x)with⟨a,_⟩ |⟨a,_⟩ |⟨_,a⟩
   ·grind
   ·grind
   ·exact a
  ·exact absurd z h0
  ·rw[z]at k ⊢;have e:((-1:Int):Rat) = -1:=rfl;rw[e]at k;rcases bH (pv q x)with⟨_,a⟩ |⟨a,_⟩ |⟨a,_⟩
   ·exact a
   ·grind
   ·grind
theorem Di{u v w d l1 l2 h1 h2:Int}(hd:NSq d)(hw:0<w)(hO:OneS [[u,d*v*v,w]] [u,d*v*v,w] [u,d*v*v,w,aG v] l1 l2 h1 h2)(q:List Int)(htop:sg (hv h1 h2 (ag [u,d*v*v,w]))=0):sg (hv h1 h2 q)=sgq (hpA u v w d q).1 (hpA u v w d q).2.1 d:=by
 have lt:=(gd hO.l2p hO.h2p).mpr hO.lt;obtain⟨ε,hε,hs⟩:=Ar hd hO;rw[iP hO.h2p,hs _ (Pm lt) Py,dN _ hO.h2p]at htop;have h0:=(Qk.mp htop).resolve_left (by omega)
 have hv:v=0:=Classical.byContradiction λhv=>by
  have he:0<d*v*v:=by
   rw[PR];refine Pl hd.1 ?_;rcases Qh hv with z |z
   ·exact Qq z z
   ·exact Pl z z
  exact iM (mh hd v) he hO.h2p h0
 subst hv;have e0:d*0*0=0:=by omega
 rw[e0]at h0
 have hs1:bh 0 (w*h1-u*h2)=0:=by
  have:aj [u,0,w,1] h1 h2=bh (0*h2*h2) (w*h1-u*h2):=by unfold aj;rw[if_pos (show(0:Int)<cf [u,0,w,1] 3 from(by decide:(0:Int)<1))];rfl
  rw[PX,PX]at this;rw[<- this];exact h0
 have due:w*h1=u*h2:=by
  rcases cj 0 (w*h1-u*h2)with⟨c,_⟩ |⟨_,_,h1⟩ |⟨c,_⟩
  ·omega
  ·rcases Qk.mp h1 with z |z<;>omega
  ·omega
 obtain⟨b',F,nF,hb,hval⟩:=pC (u:=u) (v:=0) (w:=w) (d:=d) q;rw[PN]at hb;have mp:(0:Rat)<((hpA u 0 w d q).2.2:Rat):=ji (pD hw q);have W0:(0:Rat)<w:=ji hw;have H0:(0:Rat)<h2:=ji hO.h2p
 have hX:(w:Rat)*((h1:Rat)/(h2:Rat))-u=0:=by
  have h3:(h1:Rat)/(h2:Rat)*(h2:Rat)=h1:=PK (by grind);have h4:=congrArg (λz:Int=>(z:Rat)) due;simp only[Pp]at h4;have h5:((w:Rat)*((h1:Rat)/(h2:Rat))-u)*(h2:Rat)=0:=by grind
  exact(RI.mp h5).resolve_right (by grind)
 have hv:=hval ((h1:Rat)/(h2:Rat));rw[hX]at hv;have z0:((0:Int):Rat)=0:=rfl;rw[z0]at hv;rw[iP hO.h2p,<- lI mp,hv,hb];have e5:(w:Rat)*((0*0-(d:Rat)*0*0)*F ((h1:Rat)/(h2:Rat))+((hpA u 0 w d q).1:Rat)+(b':Rat)*0)=(w:Rat)*((hpA u 0 w d q).1:Rat):=by grind
 rw[e5,lI W0,yN];generalize (hpA u 0 w d q).1=a;rcases Rh a 0 with z |z |z
 ·rw[ga (by omega) (PU _) (.inl z)];unfold sg;rw[if_pos z]
 ·subst z;rw[iO];rfl
 ·rw[f9 (by omega) (PU _) (.inl z)];unfold sg;rw[if_neg (by omega),if_pos z]
theorem ig{d:Int}(hd:NSq d)(a b:Int):sgq (-a) (-b) d = -sgq a b d:=by
 unfold sgq;by_cases h1:0<=a/\0<=b
 ·rw[if_pos h1];by_cases h2:0<a\/0<b
  ·rw[if_pos h2,if_neg (by omega),if_pos (by omega)]
  ·rw[if_neg h2,if_pos (by omega),if_neg (by omega)];rfl
 ·by_cases h3:a<=0/\b<=0
  ·rw[if_neg h1,if_pos h3,if_pos (by omega),if_pos (by omega)];rfl
  ·have e1 : -a * -a=a*a:=Rf _ _;have e2:d * -b * -b=d*b*b:=by grind
   rw[if_neg h1,if_neg h3,if_neg (by omega),if_neg (by omega),e1,e2];have hne:=hd.2 a b (by omega);by_cases h4:0<a
   ·rw[if_pos h4,if_neg (by omega)];by_cases h5:a*a<d*b*b
    ·rw[if_pos h5,if_neg (by omega)];rfl
    ·rw[if_neg h5,if_pos (by omega)]
   ·rw[if_neg h4,if_pos (by omega)];by_cases h5:a*a<d*b*b
    ·rw[if_pos h5,if_neg (by omega)]
    ·rw[if_neg h5,if_pos (by omega)];rfl
theorem ES{d:Int}(hd:NSq d){ε:Rat}(hε:0<ε):∃Z:Rat,0<Z/\Bd ε (Z*Z-(d:Rat)):=by
 have d1:(1:Rat)<=(d:Rat):=dq (a:=1) (by have:=hd.1;omega);have hs:aG 1=1:=rfl;have e1:d*1*1=d:=by omega
 obtain⟨δ,δ0,hδ⟩:=mi (u:=0) (v:=1) (w:=1) (d:=d) (by decide) hd (R:=(d:Rat)+1) (by grind) hε;rw[e1,hs]at hδ;have z0:((0:Int):Rat)=0:=rfl;have z1:((1:Int):Rat)=1:=rfl;have lo:0<sdR [0,d,1,1] 0:=by rw[jP,z0,z1];right;grind
 have hi:¬0<sdR [0,d,1,1] ((d:Rat)+1):=by
  rw[jP,z0,z1];rintro(y |y)
  ·grind
  ·have:=Px d1 (show(0:Rat)<=d by grind);grind
 obtain⟨n,hn⟩:=jX δ0 ((d:Rat)+1-0);obtain⟨x,y,a1,a2,a3,a4,a5,a6⟩:=kn (s:=sdR [0,d,1,1]) δ0 n 0 ((d:Rat)+1) (by grind) lo (by omega) hn;obtain⟨k1,k2⟩:=hδ x y (by constructor<;>grind) (by constructor<;>grind) a2 a4 a5 (by omega);rw[z0,z1]at k1 k2;refine⟨x,?_,?_⟩
 ·rcases k1 with z |z
  ·exact absurd z (by decide)
  ·grind
 ·obtain⟨q1,q2⟩:=k2;constructor<;>grind
theorem qZ{d:Int}(hd:NSq d)(A B:Int):∃ε η:Rat,0<ε/\0<η/\∀Z:Rat,0<Z->Bd ε (Z*Z-(d:Rat))->(sgq A B d=0->(A:Rat)+B*Z=0)/\(sgq A B d≠0->η<=(sgq A B d:Rat)*((A:Rat)+B*Z)):=by
 have bb0:(0:Rat)<=(B:Rat)*B:=by
  rcases P5 (a:=0) (b:=(B:Rat))with y |y
  ·exact PJ y y
  ·have:=PJ (show 0 <= -(B:Rat) by grind) (show 0 <= -(B:Rat) by grind);grind
 by_cases h0:sgq A B d=0
 ·obtain⟨rfl,rfl⟩:=yJ h0;refine⟨1,1,by grind,by grind,λZ _ _=>⟨λ_=>?_,λz=>absurd h0 z⟩⟩;have z0:((0:Int):Rat)=0:=rfl;rw[z0];grind
 ·obtain⟨η,hη,hn⟩:=zE hd h0;obtain⟨ε,ε0,ε1,_⟩:=jQ bb0 (Py (a:=0)) (show(0:Rat)<1/4 by grind) (show(0:Rat)<1 by grind);refine⟨ε,η,ε0,hη,λZ hZ hb=>⟨λz=>absurd z h0,λ_=>hn _ ?_ ?_⟩⟩
  ·by_cases hB:B=0
   ·exact .inl hB
   ·right
    have:(1:Rat)<=(B:Rat)*B:=by
     have:1<=B*B:=by
      rcases Qh hB with y |y
      ·have:=Qq y y;omega
      ·have:=Pl y y;omega
     have:=dq this
     rwa [Pp]at this
    have:=PB (show(0:Rat)<(B:Rat)*B by grind) hZ;grind
  ·obtain⟨q1,q2⟩:=hb;have k1:=PD q1 bb0;have k2:=PD q2 bb0;constructor<;>grind
theorem yK{d:Int}(hd:NSq d)(A1 B1 A2 B2 A3 B3:Int):∃η:Rat,0<η/\∀ε:Rat,0<ε->∃Z:Rat,Bd ε (Z*Z-(d:Rat))/\0<Z /\
 ((sgq A1 B1 d=0->(A1:Rat)+B1*Z=0)/\(sgq A1 B1 d≠0->η<=(sgq A1 B1 d:Rat)*((A1:Rat)+B1*Z))) /\
 ((sgq A2 B2 d=0->(A2:Rat)+B2*Z=0)/\(sgq A2 B2 d≠0->η<=(sgq A2 B2 d:Rat)*((A2:Rat)+B2*Z))) /\
 ((sgq A3 B3 d=0->(A3:Rat)+B3*Z=0)/\(sgq A3 B3 d≠0->η<=(sgq A3 B3 d:Rat)*((A3:Rat)+B3*Z))):=by
 obtain⟨ε1,η1,a1,b1,h1⟩:=qZ hd A1 B1;obtain⟨ε2,η2,a2,b2,h2⟩:=qZ hd A2 B2;obtain⟨ε3,η3,a3,b3,h3⟩:=qZ hd A3 B3
 have two:∀u v:Rat,0<u->0<v->∃w:Rat,0<w/\w<=u/\w<=v:=λu v hu hv=>by
  rcases P5 (a:=u) (b:=v)with z |z
  ·exact⟨u,hu,Py,z⟩
  ·exact⟨v,hv,z,Py⟩
 obtain⟨e,he,e1,e2⟩:=two ε1 ε2 a1 a2;obtain⟨e',he',e3,e4⟩:=two e ε3 he a3;obtain⟨f,hf,f1,f2⟩:=two η1 η2 b1 b2;obtain⟨g,hg,g1,g2⟩:=two f η3 hf b3;refine⟨g,hg,λε hε=>?_⟩;obtain⟨w,hw,w1,w2⟩:=two e' ε he' hε;obtain⟨Z,Z0,hZ⟩:=ES hd hw;obtain⟨p1,p2⟩:=h1 Z Z0 (hZ.mono (by grind));obtain⟨p3,p4⟩:=h2 Z Z0 (hZ.mono (by grind));obtain⟨p5,p6⟩:=h3 Z Z0 (hZ.mono (by grind));exact⟨Z,hZ.mono w2,Z0,⟨p1,λz=>Q6 (by grind) (p2 z)⟩,⟨p3,λz=>Q6 (by grind) (p4 z)⟩,⟨p5,λz=>Q6 (by grind) (p6 z)⟩⟩
theorem DU{d:Int}(hd:NSq d)(x y x' y':Int):sgq (x*x'+d*y*y') (x*y'+x'*y) d=sgq x y d*sgq x' y' d:=by
 obtain⟨η,hη,hall⟩:=yK hd x y x' y' (x*x'+d*y*y') (x*y'+x'*y);obtain⟨M,M0,hM⟩:=fY ((y:Rat)*y')
 obtain⟨T,T0,hT1,hT2⟩:∃T:Rat,0<T/\T<=η/2/\T<=η*η/2:=by
  have:=PB hη hη;rcases P5 (a:=η/2) (b:=η*η/2)with z |z
  ·exact⟨_,by grind,Py,z⟩
  ·exact⟨_,by grind,z,Py⟩
 obtain⟨ε,ε0,ε1,_⟩:=jQ M0 (Py (a:=0)) T0 (show(0:Rat)<1 by grind);obtain⟨Z,hZ,Z0,⟨p1,p2⟩,⟨p3,p4⟩,⟨p5,p6⟩⟩:=hall ε ε0
 have key:((x*x'+d*y*y':Int):Rat)+((x*y'+x'*y:Int):Rat)*Z=((x:Rat)+y*Z)*((x':Rat)+y'*Z)-(y:Rat)*y'*(Z*Z-d):=by simp only[QH,Pp];grind
 rw[key]at p5 p6;obtain⟨s1,s2⟩:=hM.mul hZ;have e1:((1:Int):Rat)=1:=rfl;have e2:((-1:Int):Rat) = -1:=rfl;have c3:=fb (x*x'+d*y*y') (x*y'+x'*y) d;generalize sgq (x*x'+d*y*y') (x*y'+x'*y) d=r at *
 generalize (y:Rat)*y'*(Z*Z-d)=E at *
 rcases fb x y d with a |a |a
 ·have a2:=p2 (by omega);rw[a,e1]at a2;rcases fb x' y' d with b |b |b
  ·have b2:=p4 (by omega);rw[b,e1]at b2;rw[a,b];have q1:=Px (show η<=(x':Rat)+y'*Z by grind) (Pm hη);have q2:=PD (show η<=(x:Rat)+y*Z by grind) (show 0<=(x':Rat)+y'*Z by grind);generalize ((x:Rat)+y*Z)*((x':Rat)+y'*Z)=G at *
   rcases c3 with z |z |z
   ·exact z
   ·have:=p5 z;grind
   ·have:=p6 (by omega);rw[z,e2]at this;grind
  ·have b2:=p3 b;rw[a,b];have q1:((x:Rat)+y*Z)*((x':Rat)+y'*Z)=0:=by rw[b2];grind
   rw[q1]at p5 p6;rcases c3 with z |z |z
   ·have:=p6 (by omega);rw[z,e1]at this;grind
   ·exact z
   ·have:=p6 (by omega);rw[z,e2]at this;grind
  ·have b2:=p4 (by omega);rw[b,e2]at b2;rw[a,b];have q1:=Px (show η <= -((x':Rat)+y'*Z) by grind) (Pm hη);have q2:=PD (show η<=(x:Rat)+y*Z by grind) (show 0 <= -((x':Rat)+y'*Z) by grind);have q3:((x:Rat)+y*Z) * -((x':Rat)+y'*Z) = -(((x:Rat)+y*Z)*((x':Rat)+y'*Z)):=by grind
   rw[q3]at q2;generalize ((x:Rat)+y*Z)*((x':Rat)+y'*Z)=G at *
   rcases c3 with z |z |z
   ·have:=p6 (by omega);rw[z,e1]at this;grind
   ·have:=p5 z;grind
   ·exact z
 ·have a2:=p1 a;rw[a];have q1:((x:Rat)+y*Z)*((x':Rat)+y'*Z)=0:=by rw[a2];grind
  rw[q1]at p5 p6;rcases c3 with z |z |z
  ·have:=p6 (by omega);rw[z,e1]at this;grind
  ·rw[z];omega
  ·have:=p6 (by omega);rw[z,e2]at this;grind
 ·have a2:=p2 (by omega);rw[a,e2]at a2;rcases fb x' y' d with b |b |b
  ·have b2:=p4 (by omega);rw[b,e1]at b2;rw[a,b];have q1:=Px (show η<=(x':Rat)+y'*Z by grind) (Pm hη);have q2:=PD (show η <= -((x:Rat)+y*Z) by grind) (show 0<=(x':Rat)+y'*Z by grind);have q3 : -((x:Rat)+y*Z)*((x':Rat)+y'*Z) = -(((x:Rat)+y*Z)*((x':Rat)+y'*Z)):=by grind
   rw[q3]at q2;generalize ((x:Rat)+y*Z)*((x':Rat)+y'*Z)=G at *
   rcases c3 with z |z |z
   ·have:=p6 (by omega);rw[z,e1]at this;grind
   ·have:=p5 z;grind
   ·exact z
  ·have b2:=p3 b;rw[a,b];have q1:((x:Rat)+y*Z)*((x':Rat)+y'*Z)=0:=by rw[b2];grind
   rw[q1]at p5 p6;rcases c3 with z |z |z
   ·have:=p6 (by omega);rw[z,e1]at this;grind
   ·exact z
   ·have:=p6 (by omega);rw[z,e2]at this;grind
  ·have b2:=p4 (by omega);rw[b,e2]at b2;rw[a,b];have q1:=Px (show η <= -((x':Rat)+y'*Z) by grind) (Pm hη);have q2:=PD (show η <= -((x:Rat)+y*Z) by grind) (show 0 <= -((x':Rat)+y'*Z) by grind);have q3 : -((x:Rat)+y*Z) * -((x':Rat)+y'*Z)=((x:Rat)+y*Z)*((x':Rat)+y'*Z):=by grind
   rw[q3]at q2;generalize ((x:Rat)+y*Z)*((x':Rat)+y'*Z)=G at *
   rcases c3 with z |z |z
   ·exact z
   ·have:=p5 z;grind
   ·have:=p6 (by omega);rw[z,e2]at this;grind
theorem lG{d:Int}(hd:NSq d){x y x' y':Int}(h:0<sgq x y d)(h':0<=sgq x' y' d):sgq (x+x') (y+y') d=1:=by
 obtain⟨η,hη,hall⟩:=yK hd x y x' y' (x+x') (y+y');obtain⟨Z,hZ,Z0,⟨p1,p2⟩,⟨p3,p4⟩,⟨p5,p6⟩⟩:=hall 1 (by grind);have e1:((1:Int):Rat)=1:=rfl;have e2:((-1:Int):Rat) = -1:=rfl
 have key:((x+x':Int):Rat)+((y+y':Int):Rat)*Z=((x:Rat)+y*Z)+((x':Rat)+y'*Z):=by simp only[QH];grind
 rw[key]at p5 p6;have a:sgq x y d=1:=by rcases fb x y d with z |z |z<;>omega
 have a2:=p2 (by omega);rw[a,e1]at a2
 have b2:0<=(x':Rat)+y'*Z:=by
  rcases fb x' y' d with z |z |z
  ·have:=p4 (by omega);rw[z,e1]at this;grind
  ·have:=p3 z;grind
  ·omega
 rcases fb (x+x') (y+y') d with z |z |z
 ·exact z
 ·have:=p5 z;grind
 ·have:=p6 (by omega);rw[z,e2]at this;grind
theorem AT(u v w d g:Int):∀l:List Int,hpA u v w d (scL g l)=(g*(hpA u v w d l).1,g*(hpA u v w d l).2.1,(hpA u v w d l).2.2)
 | []=>by show((0:Int),(0:Int),(1:Int))=(g*0,g*0,1);rw[PN]
 |c::l=>by
  have ih:=AT u v w d g l;have e:scL g (c::l)=g*c::scL g l:=rfl;rw[e];simp only[hpA];rw[ih];dsimp only
  rw[Prod.mk.injEq,Prod.mk.injEq];refine⟨by grind,by grind,rfl⟩
theorem Fc{u e b:Int}(hb:1<=b):0<aq (aH u e b):=by
 unfold aH;split
 ·show 0<b;omega
 ·show 0<b*b;exact Pl (by omega) (by omega)
theorem Fa{l:List Int}(h:Tr l)(hp:0<aq l):∃g:Int,0<g/\l=scL g (aB l):=by
 have hne:l≠[]:=λz=>by subst z;exact absurd hp (by decide)
 obtain⟨g0,t0,n0,e0⟩:=jZ h hne
 have hl:aq l=(av l:Int)*aq (ap l):=by have:=e0 (l.length-1);unfold aq;have e:(ap l).length=l.length:=Pk _;rw[e];exact this
 refine⟨av l,g0,?_⟩
 have:aB l=ap l:=by unfold aB cI;rw[if_neg];intro z;have:=RF g0 z;omega
 rw[this];exact shr_scale.symm
theorem JN{u v w d a b c:Int}(hd:NSq d):sgq (hpA u v w d (aH a (d*b*b) c)).1 (hpA u v w d (aH a (d*b*b) c)).2.1 d=if b=0 then sgq (u*c-a*w) (v*c-b*w) d else sgq (u*c-a*w) (v*c-b*w) d*sgq (u*c-a*w) (v*c+b*w) d:=by
 by_cases hb:b=0
 ·subst hb;rw[if_pos rfl];unfold aH;rw[if_pos (by omega)];have e1:(hpA u v w d [-a,c]).1=u*c-a*w:=by simp only[hpA];grind
  have e2:(hpA u v w d [-a,c]).2.1=v*c-0*w:=by simp only[hpA];grind
  rw[e1,e2]
 ·rw[if_neg hb];have he:d*b*b≠0:=PP (PP (by have:=hd.1;omega) hb) hb;unfold aH;rw[if_neg he,<- DU hd];have e1:(hpA u v w d [a*a-d*b*b,-2*c*a,c*c]).1=(u*c-a*w)*(u*c-a*w)+d*(v*c-b*w)*(v*c+b*w):=by simp only[hpA];grind
  have e2:(hpA u v w d [a*a-d*b*b,-2*c*a,c*c]).2.1=(u*c-a*w)*(v*c+b*w)+(u*c-a*w)*(v*c-b*w):=by simp only[hpA];grind
  rw[e1,e2]
theorem Lo{u v w a b c d l1 l2 h1 h2 ε:Int}(hd:NSq d)(hw:0<w)(hc:0<c)(hO:OneS [[a,d*b*b,c]] [a,d*b*b,c] [a,d*b*b,c,aG b] l1 l2 h1 h2)(lo:0<aj [u,d*v*v,w,aG v] l1 l2)(hi:aj [u,d*v*v,w,aG v] h1 h2<=0)
 (hs:∀x1 x2,0<x2->l1*x2<x1*l2->x1*h2<=h1*x2->sg (hv x1 x2 (ag [a,d*b*b,c])) = -ε*aj [a,d*b*b,c,aG b] x1 x2) :
 sgq (hpA u v w d (ag [a,d*b*b,c])).1 (hpA u v w d (ag [a,d*b*b,c])).2.1 d=ε*sgq (u*c-a*w) (v*c-b*w) d:=by
 have l2p:=hO.l2p;have h2p:=hO.h2p;rw[f8 hd l2p]at lo;rw[f8 hd h2p]at hi;have hF:=hO.fam;obtain⟨g,hg,eg⟩:=Fa (eU (u:=a) (e:=d*b*b) (show 1<=c by omega)).1 (Fc (show 1<=c by omega));have hr:=JN (u:=u) (v:=v) (w:=w) (a:=a) (b:=b) (c:=c) hd;rw[eg,AT]at hr;dsimp only at hr
 rw[c9 hg]at hr;have ep:aB (aH a (d*b*b) c)=ag [a,d*b*b,c]:=rfl;rw[ep]at hr;rw[hr]
 have sgn:∀x1 x2,0<x2->sg (hv x1 x2 (ag [a,d*b*b,c]))=spr x1 x2 (spF [a,d*b*b,c]):=λx1 x2 h=>by have:=hF.sign (t:=x1) (n:=x2) h;rw[ke hF,gC]at this;exact this
 by_cases hb:b=0
 ·rw[if_pos hb]
  have e1:ε=1:=by
   have e0:d*b*b=0:=by rw[hb];omega
   have es:aG b=1:=by rw[hb];rfl
   rw[es]at hs
   have key:∀x1 x2,0<x2->l1*x2<x1*l2->x1*h2<=h1*x2->aj [a,d*b*b,c,1] x1 x2≠0->ε=1:=λx1 x2 p q r nz=>by
    have k1:=hs x1 x2 p q r;rw[sgn x1 x2 p,e0,iK]at k1;rw[e0]at nz;have k2 : -aj [a,0,c,1] x1 x2*1 = -ε*aj [a,0,c,1] x1 x2:=k1;rcases cO [a,0,c,1] x1 x2 with z |z |z
    ·rw[z]at k2;omega
    ·exact absurd z nz
    ·rw[z]at k2;omega
   by_cases nz:aj [a,d*b*b,c,1] h1 h2=0
   ·
    have hs2:Spt [a,d*b*b,c,1]:=cX hF.q (by rw[gC];have:=hO.sp;rw[es]at this;exact this);have m0:0<2*(l2*h2):=by have:=Pl l2p h2p;omega
    have lt:=hO.lt
    have i1:l1*(2*(l2*h2))<(l1*h2+h1*l2)*l2:=by
     have:=Ql lt l2p;have e:l1*(2*(l2*h2))=l1*h2*l2+l1*h2*l2:=by grind
     have e':(l1*h2+h1*l2)*l2=l1*h2*l2+h1*l2*l2:=by grind
     omega
    have i2:(l1*h2+h1*l2)*h2<h1*(2*(l2*h2)):=by
     have:=Ql lt h2p;have e:h1*(2*(l2*h2))=h1*l2*h2+h1*l2*h2:=by grind
     have e':(l1*h2+h1*l2)*h2=l1*h2*h2+h1*l2*h2:=by grind
     omega
    refine key _ _ m0 i1 (Pt i2) λz=>?_
    have:=fM hs2 m0 h2p i2 (by omega);omega
   ·exact key h1 h2 h2p hO.lt (PU _) nz
  rw[e1];omega
 ·rw[if_neg hb]
  have he:0<d*b*b:=by
   rw[PR];refine Pl hd.1 ?_;rcases Qh hb with z |z
   ·exact Qq z z
   ·exact Pl z z
  have hns:=mh hd b;have irr:∀σ t n:Int,0<n->aj [a,d*b*b,c,σ] t n≠0:=λσ t n h=>iM hns he h
  have eb:d * -b * -b=d*b*b:=by grind
  have fe:∀t n:Int,0<n->aj [a,d*b*b,c,aG (-b)] t n=sgq (a*n-t*c) (-b*n) d:=λt n h=>by have:=f8 (u:=a) (v := -b) (w:=c) (x1:=t) hd h;rw[eb]at this;exact this
  have both:∀x1 x2,0<x2->sg (hv x1 x2 (ag [a,d*b*b,c]))=aj [a,d*b*b,c,aG b] x1 x2*aj [a,d*b*b,c,aG (-b)] x1 x2:=λx1 x2 p=>by
   rw[sgn x1 x2 p,ic he];show -aj [a,d*b*b,c,1] x1 x2*(-aj [a,d*b*b,c,-1] x1 x2*1)=_;rw[Qe,Rf];unfold aG;by_cases z:b<0
   ·rw[if_pos z,if_neg (by omega),PQ]
   ·rw[if_neg z,if_pos (by omega)]
  have hne:aG (-b)≠aG b:=by
   unfold aG;by_cases z:b<0
   ·rw[if_pos z,if_neg (by omega)];decide
   ·rw[if_neg z,if_pos (by omega)];decide
  have mem:[a,d*b*b,c,aG (-b)]∈spF [a,d*b*b,c]:=by
   rw[ic he];unfold aG;by_cases z : -b<0
   ·rw[if_pos z];simp
   ·rw[if_neg z];simp
  have out:¬(0<aj [a,d*b*b,c,aG (-b)] l1 l2/\aj [a,d*b*b,c,aG (-b)] h1 h2<=0):=λz=>by
   have:=hO.only _ (by rw[gC];exact mem) z.1 z.2;simp at this
   exact hne this
  have kh:=hs h1 h2 h2p hO.lt (PU _);rw[both h1 h2 h2p]at kh
  have s2h:aj [a,d*b*b,c,aG b] h1 h2 = -1:=by have:=hO.inn.2;have:=irr (aG b) h1 h2 h2p;rcases cO [a,d*b*b,c,aG b] h1 h2 with z |z |z<;>omega
  rw[s2h]at kh;have fh:aj [a,d*b*b,c,aG (-b)] h1 h2 = -ε:=by omega
  have fin:sgq (u*c-a*w) (v*c+b*w) d=ε:=by
   rcases cO [a,d*b*b,c,aG (-b)] h1 h2 with z |z |z
   ·
    have q1:0<sgq (a*h2-h1*c) (-b*h2) d:=by rw[<- fe h1 h2 h2p,z];decide
    have q2:0<=sgq (-(u*h2-h1*w)) (-(v*h2)) d:=by rw[ig hd];omega
    have r1:=c9 (u:=a*h2-h1*c) (v := -b*h2) (d:=d) hw;have r2:=c9 (u := -(u*h2-h1*w)) (v := -(v*h2)) (d:=d) hc;have s:=lG hd (show 0<sgq (w*(a*h2-h1*c)) (w*(-b*h2)) d by rw[r1];exact q1) (show 0<=sgq (c * -(u*h2-h1*w)) (c * -(v*h2)) d by rw[r2];exact q2);have e1:w*(a*h2-h1*c)+c * -(u*h2-h1*w)=h2 * -(u*c-a*w):=by grind
    have e2:w*(-b*h2)+c * -(v*h2)=h2 * -(v*c+b*w):=by grind
    rw[e1,e2,c9 h2p,ig hd]at s;omega
   ·exact absurd z (irr _ _ _ h2p)
   ·
    have fl:aj [a,d*b*b,c,aG (-b)] l1 l2 = -1:=by
     rcases cO [a,d*b*b,c,aG (-b)] l1 l2 with y |y |y
     ·exact absurd ⟨by omega,by omega⟩ out
     ·exact absurd y (irr _ _ _ l2p)
     ·exact y
    have q1:0<sgq (-(a*l2-l1*c)) (-(-b*l2)) d:=by rw[ig hd,<- fe l1 l2 l2p,fl];decide
    have r1:=c9 (u := -(a*l2-l1*c)) (v := -(-b*l2)) (d:=d) hw;have r2:=c9 (u:=u*l2-l1*w) (v:=v*l2) (d:=d) hc;have s:=lG hd (show 0<sgq (w * -(a*l2-l1*c)) (w * -(-b*l2)) d by rw[r1];exact q1) (show 0<=sgq (c*(u*l2-l1*w)) (c*(v*l2)) d by rw[r2];omega);have e1:w * -(a*l2-l1*c)+c*(u*l2-l1*w)=l2*(u*c-a*w):=by grind
    have e2:w * -(-b*l2)+c*(v*l2)=l2*(v*c+b*w):=by grind
    rw[e1,e2,c9 l2p]at s;omega
  rw[fin,PQ]
variable {u v w a b c d t n:Int}
theorem Lq(hd:NSq d)(hw:0<w)(hc:0<c)(hn:0<n)(h2:0<aj [a,d*b*b,c,aG b] t n)(h1:aj [u,d*v*v,w,aG v] t n<=0):sgq (u*c-a*w) (v*c-b*w) d = -1:=by
 rw[f8 hd hn]at h1 h2;have q2:0<=sgq (-(u*n-t*w)) (-(v*n)) d:=by rw[ig hd];omega
 have r1:=c9 (u:=a*n-t*c) (v:=b*n) (d:=d) hw;have r2:=c9 (u := -(u*n-t*w)) (v := -(v*n)) (d:=d) hc;have s:=lG hd (show 0<sgq (w*(a*n-t*c)) (w*(b*n)) d by rw[r1];exact h2) (show 0<=sgq (c * -(u*n-t*w)) (c * -(v*n)) d by rw[r2];exact q2);have e1:w*(a*n-t*c)+c * -(u*n-t*w)=n * -(u*c-a*w):=by grind
 have e2:w*(b*n)+c * -(v*n)=n * -(v*c-b*w):=by grind
 rw[e1,e2,c9 hn,ig hd]at s;omega
theorem Lr(hd:NSq d)(hw:0<w)(hc:0<c)(hn:0<n)(h2:aj [a,d*b*b,c,aG b] t n<=0)(h1:0<aj [u,d*v*v,w,aG v] t n):sgq (u*c-a*w) (v*c-b*w) d=1:=by
 rw[f8 hd hn]at h1 h2;have q2:0<=sgq (-(a*n-t*c)) (-(b*n)) d:=by rw[ig hd];omega
 have r1:=c9 (u:=u*n-t*w) (v:=v*n) (d:=d) hc;have r2:=c9 (u := -(a*n-t*c)) (v := -(b*n)) (d:=d) hw;have s:=lG hd (show 0<sgq (c*(u*n-t*w)) (c*(v*n)) d by rw[r1];exact h1) (show 0<=sgq (w * -(a*n-t*c)) (w * -(b*n)) d by rw[r2];exact q2);have e1:c*(u*n-t*w)+w * -(a*n-t*c)=n*(u*c-a*w):=by grind
 have e2:c*(v*n)+w * -(b*n)=n*(v*c-b*w):=by grind
 rw[e1,e2,c9 hn]at s;exact s
theorem Ln(hd:NSq d)(hw:0<w)(hc:0<c)(hn:0<n)(h2:aj [a,d*b*b,c,aG b] t n<=0)(h1:aj [u,d*v*v,w,aG v] t n<=0)(h:sgq (u*c-a*w) (v*c-b*w) d=1):aj [a,d*b*b,c,aG b] t n = -1:=by
 rw[f8 hd hn]at h1 h2 ⊢;have q2:0<=sgq (-(u*n-t*w)) (-(v*n)) d:=by rw[ig hd];omega
 have r1:=c9 (u:=u*c-a*w) (v:=v*c-b*w) (d:=d) hn;have r2:=c9 (u := -(u*n-t*w)) (v := -(v*n)) (d:=d) hc;have s:=lG hd (show 0<sgq (n*(u*c-a*w)) (n*(v*c-b*w)) d by rw[r1,h];decide) (show 0<=sgq (c * -(u*n-t*w)) (c * -(v*n)) d by rw[r2];exact q2);have e1:n*(u*c-a*w)+c * -(u*n-t*w)=w * -(a*n-t*c):=by grind
 have e2:n*(v*c-b*w)+c * -(v*n)=w * -(b*n):=by grind
 rw[e1,e2,c9 hw,ig hd]at s;omega
end RM
open PySem.W in
local macro_rules | `(tactic|walk_at "comp_ok")=>`(tactic|exact⟨by with_unfolding_all rfl,by decide +kernel,rfl,by decide +kernel,by repeat' (first |exact List.forall_mem_nil _ |refine List.forall_mem_cons.2 ⟨rfl,?_⟩),by rfl,by repeat' (first |exact .nil |refine .cons ⟨rfl,by first |exact Or.inl rfl |exact Or.inr rfl,rfl⟩ ?_)⟩)
namespace R47
open PySem L2 RM
noncomputable def top(i:Nat):Stmt:=PySem.Challenge.pw_rootspan_k47_compared.main.body.getD i (.Pass ⟨0,0,0,0⟩)
abbrev rE:Stmt:=top 10
abbrev rD:Stmt:=top 11
abbrev rf:Stmt:=top 12
abbrev j4:Stmt:=jm (top 13) 0
abbrev tf:Stmt:=jm (top 13) 1
abbrev tj:Stmt:=jm (top 13) 2
abbrev sZ:Stmt:=jm (top 13) 3
abbrev tx:Stmt:=jm (top 13) 5
abbrev tu:Stmt:=jm (top 13) 7
abbrev rL:Stmt:=top 15
abbrev si:Stmt:=top 16
abbrev sI:Stmt:=top 17
abbrev rj:Stmt:=top 18
abbrev sv:Stmt:=top 19
abbrev rQ:Stmt:=top 20
abbrev rz:Stmt:=top 21
abbrev oy:Stmt:=top 22
abbrev rM:Stmt:=top 23
abbrev rg:Stmt:=top 24
abbrev rB:Stmt:=top 25
abbrev sh:Stmt:=top 27
abbrev rF:Stmt:=top 28
abbrev rV:Stmt:=top 29
abbrev rG:Stmt:=top 31
abbrev rH:Stmt:=top 32
abbrev sC:Stmt:=top 33
abbrev sj:Stmt:=top 34
abbrev sE:Stmt:=top 36
abbrev sD:Stmt:=top 37
abbrev rS:Stmt:=top 38
abbrev rP:Stmt:=top 39
abbrev rZ:Stmt:=top 40
abbrev rk:Stmt:=top 41
abbrev r8:Stmt:=top 42
abbrev rp:Stmt:=top 43
abbrev rR:Stmt:=top 44
abbrev sG:Stmt:=top 45
abbrev se:Stmt:=top 47
abbrev su:Stmt:=top 48
abbrev rN:Stmt:=top 49
abbrev re:Stmt:=top 50
abbrev rq:Stmt:=top 52
abbrev rX:Stmt:=top 54
abbrev r9:Stmt:=top 55
abbrev rW:Stmt:=top 56
abbrev rm:Stmt:=top 57
abbrev rh:Stmt:=top 58
abbrev tz:Stmt:=jm (top 61) 0
abbrev j3:Stmt:=top 62
abbrev rJ:Stmt:=top 63
abbrev rK:Stmt:=top 64
abbrev rT:Stmt:=top 65
abbrev rO:Stmt:=top 66
abbrev sH:Stmt:=top 67
abbrev sF:Stmt:=top 68
abbrev sr:Stmt:=top 69
abbrev rA:Stmt:=top 70
abbrev rC:Stmt:=top 71
abbrev sU:Stmt:=top 73
abbrev sK:Stmt:=top 74
abbrev sS:Stmt:=top 75
abbrev sO:Stmt:=top 76
abbrev sV:Stmt:=top 77
abbrev sP:Stmt:=top 78
abbrev sR:Stmt:=top 79
abbrev sM:Stmt:=top 80
abbrev sW:Stmt:=top 81
abbrev sJ:Stmt:=top 82
abbrev sN:Stmt:=top 83
abbrev sQ:Stmt:=top 84
abbrev sT:Stmt:=top 85
abbrev sL:Stmt:=top 86
abbrev sY:Stmt:=top 87
abbrev sX:Stmt:=top 88
abbrev rY:Stmt:=top 89
theorem scM{N P:List Str}{sc:Scope}(a:sc.kind=.function:=by rfl)(b:sc.isCoroutine=false:=by rfl)(c:sc.isGenerator=false:=by rfl)(e:N.Nodup:=by decide +kernel)(f:N.take P.length=P:=by rfl)(g:∀x∈P,sc.names.lookup x=some .local\/sc.names.lookup x=some .cell:=by decide +kernel)(h:∀y∈sc.names,y.2≠.free:=by decide +kernel):FnScope N P sc:=⟨a,b,c,e,f,g,h⟩
theorem sc_shared:FnScope ["row","divisor","value"] ["row"] (aD rE):=scM
theorem sc_shared_by_two:FnScope ["one","other","greater","less","rest"] ["one","other"] (aD rD):=scM
theorem D6:FnScope ["value"] ["value"] (aD rf):=scM
theorem sc_Ratio___init__:FnScope ["self","top","bottom","divisor"] ["self","top","bottom"] (aD j4):=scM
theorem Ey:FnScope ["self","other"] ["self","other"] (aD tf):=scM
theorem Ez:FnScope ["self","other"] ["self","other"] (aD tj):=scM
theorem Ex:FnScope ["self","other"] ["self","other"] (aD sZ):=scM
theorem EB:FnScope ["self","other"] ["self","other"] (aD tx):=scM
theorem EA:FnScope ["self"] ["self"] (aD tu):=scM
theorem sc_poly:FnScope ["row","length"] ["row"] (aD rL):=scM
theorem Ej:FnScope ["row"] ["row"] (aD si):=scM
theorem sc_added:FnScope ["first","second","length"] ["first","second"] (aD sI):=scM
theorem sc_taken:FnScope ["first","second","length"] ["first","second"] (aD rj):=scM
theorem Em:FnScope ["row","place"] ["row","place"] (aD sv):=scM
theorem sc_multiplied:FnScope ["first","second","product","j","one","k","other"] ["first","second"] (aD rQ):=scM
theorem D8:FnScope ["row"] ["row"] (aD rz):=scM
theorem sc_shrunk:FnScope ["row","divisor"] ["row"] (aD oy):=scM
theorem sc_plain:FnScope ["row","small"] ["row"] (aD rM):=scM
theorem sc_value_parts:FnScope ["row","top","bottom","above","below","value"] ["row","top","bottom"] (aD rg):=scM
theorem Ea:FnScope ["row","ratio"] ["row","ratio"] (aD rB):=scM
theorem sc_divided:FnScope ["first","second","size","sign","steps","factor","quotient","rest","place","lead"] ["first","second"] (aD sh):=scM
theorem Ec:FnScope ["row","factor"] ["row","factor"] (aD rF):=scM
theorem sc_lowered:FnScope ["row","second","place","lead","kept","k","value"] ["row","second","place","lead"] (aD rV):=scM
theorem Ed:FnScope ["polynomial"] ["polynomial"] (aD rG):=scM
theorem sc_row_from:FnScope ["first","second","row","one","other","rest"] ["first","second"] (aD rH):=scM
theorem sc_changes:FnScope ["row","ratio","many","before","polynomial","sign"] ["row","ratio"] (aD sC):=scM
theorem Ek:FnScope ["row","low","high"] ["row","low","high"] (aD sj):=scM
theorem sc_bound:FnScope ["row","last","greatest","size"] ["row"] (aD sE):=scM
theorem sc_cells:FnScope ["row","chain","high","low","waiting","found","cell","many","cut","there"] ["row"] (aD sD):=scM
theorem Ef:FnScope ["low","high"] ["low","high"] (aD rS):=scM
theorem sc_narrowed:FnScope ["row","low","high","width","reach","steps","found"] ["row","low","high","width"] (aD rP):=scM
theorem sc_halvings:FnScope ["reach","width","wide","goal","steps"] ["reach","width"] (aD rZ):=scM
theorem sc_stretched:FnScope ["row","low","reach","bottom","start","step","found","power","value"] ["row","low","reach"] (aD rk):=scM
theorem sc_halved:FnScope ["row","end","steps","place","pieces","ahead","left","k","there"] ["row","end","steps"] (aD r8):=scM
theorem sc_spread:FnScope ["row","found","factor","value"] ["row"] (aD rp):=scM
theorem sc_moved:FnScope ["row","found","start","k"] ["row"] (aD rR):=scM
theorem Eo:FnScope ["low","reach","place","pieces"] ["low","reach","place","pieces"] (aD sG):=scM
theorem Ei:FnScope ["divisor","row"] ["divisor","row"] (aD se):=scM
theorem sc_common:FnScope ["first","second","one","other","rest"] ["first","second"] (aD su):=scM
theorem sc_part:FnScope ["row","divisor","found"] ["row","divisor"] (aD rN):=scM
theorem D5:FnScope ["row"] ["row"] (aD re):=scM
theorem sc_span_product:FnScope ["first","second","least","greatest","found"] ["first","second"] (aD rq):=scM
theorem sc_least:FnScope ["row","low","high","whole","width","span","line","cell","square"] ["row","low","high"] (aD rX):=scM
theorem Eh:FnScope ["whole"] ["whole"] (aD r9):=scM
theorem sc_line_of:FnScope ["whole","span","found"] ["whole","span"] (aD rW):=scM
theorem sc_square_of:FnScope ["whole","span","other","last","together"] ["whole","span","other"] (aD rm):=scM
theorem D7:FnScope ["factor","ratio"] ["factor","ratio"] (aD rh):=scM
theorem EC:FnScope ["self","row","low","high"] ["self","row","low","high"] (aD tz):=scM
theorem sc_number:FnScope ["row","low","high","start","end","simple","many"] ["row","low","high"] (aD j3):=scM
theorem Ee:FnScope ["height"] ["height"] (aD rJ):=scM
theorem sc_refuse_great:FnScope ["row","limit"] ["row"] (aD rK):=scM
theorem Eg:FnScope ["simple","low","high"] ["simple","low","high"] (aD rT):=scM
theorem sc_number_in:FnScope ["simple","low","high","row","span","half"] ["simple","low","high"] (aD rO):=scM
theorem Ep:FnScope ["one","ratio"] ["one","ratio"] (aD sH):=scM
theorem En:FnScope ["one","sign"] ["one","sign"] (aD sF):=scM
theorem El:FnScope ["first","second"] ["first","second"] (aD sr):=scM
theorem D9:FnScope ["one"] ["one"] (aD rA):=scM
theorem Eb:FnScope ["row","one"] ["row","one"] (aD rC):=scM
theorem Eu:FnScope ["_law_script","_law_k"] ["_law_script","_law_k"] (aD sU):=scM
theorem Er:FnScope ["_law_found"] ["_law_found"] (aD sK):=scM
theorem sc__law_divisor:FnScope ["_law_one","_law_other","_law_rest"] ["_law_one","_law_other"] (aD sS):=scM
theorem Et:FnScope ["_law_u","_law_v","_law_d"] ["_law_u","_law_v","_law_d"] (aD sO):=scM
theorem sc__law_beside:FnScope ["_law_worth_here","_law_r","_law_u","_law_v","_law_w","_law_d"] ["_law_worth_here","_law_r"] (aD sV):=scM
theorem sc__law_plain:FnScope ["_law_row","_law_by","_law_one"] ["_law_row"] (aD sP):=scM
theorem sc__law_least:FnScope ["_law_worth_here","_law_u","_law_v","_law_w","_law_d"] ["_law_worth_here"] (aD sR):=scM
theorem sc__law_times:FnScope ["_law_one","_law_other","_law_found","_law_k","_law_j"] ["_law_one","_law_other"] (aD sM):=scM
theorem Ev:FnScope ["_law_cell"] ["_law_cell"] (aD sW):=scM
theorem sc__law_worth:FnScope ["_law_script","_law_k","_law_v","_law_cell"] ["_law_script","_law_k"] (aD sJ):=scM
theorem sc__law_span:FnScope ["_law_worth_here","_law_more","_law_u","_law_v","_law_w","_law_d"] ["_law_worth_here","_law_more"] (aD sN):=scM
theorem sc__law_padded:FnScope ["_law_worth_here","_law_span_here","_law_cell","_law_u","_law_v","_law_w","_law_d","_law_found","_law_far"] ["_law_worth_here","_law_span_here","_law_cell"] (aD sQ):=scM
theorem sc__law_compared:FnScope ["_law_one","_law_other","_law_u","_law_v","_law_w","_law_d","_law_a","_law_b","_law_c","_law_e"] ["_law_one","_law_other"] (aD sT):=scM
theorem sc__law_two:FnScope ["_law_script","_law_one","_law_other","_law_kind"] ["_law_script"] (aD sL):=scM
theorem sc__law_alike:FnScope ["_law_told","_law_due","_law_k"] ["_law_told","_law_due"] (aD sY):=scM
theorem Ew:FnScope ["_law_a","_law_b","_law_r"] ["_law_a","_law_b","_law_r"] (aD sX):=scM
theorem sc_law:FnScope ["_law_script","_law_one","_law_other","_law_cell","_law_span_here","_law_a","_law_b","_law_r","_law_due","_law_later"] ["_law_script"] (aD rY):=scM
structure Txt(K:PySem.W.Frag)(mg:Str->Option Value):Prop where
 abs_:mg "abs"=none
 len_:mg "len"=none
 max_:mg "max"=none
 range_:mg "range"=none
 enumerate_:mg "enumerate"=none
 reversed_:mg "reversed"=none
 list_:mg "list"=none
 sum_:mg "sum"=none
 any_:mg "any"=none
 isinstance_:mg "isinstance"=none
 int_:mg "int"=none
 bool_:mg "bool"=none
 HIGHEST_:∃t:Tok,mg "HIGHEST"=some (.int 8 t)
inductive oe(K:PySem.W.Frag)(vs:List V)(H:Hp)(Q:VK)(E:XK):Prop
 |mk (a:Addr) (ns:List Int):vs=[.ref a]->SqL K H a (ns.map V.int)->ns.length<=63->(∀H',Q (.bl true) H')->oe K vs H Q E
section
variable {P:Program}{w:World}{K:PySem.W.Frag}{mg:Str->Option Value}{base:Heap}
theorem tL(n:Nat):(List.replicate n [V.int 0]).flatten=(List.replicate n (0:Int)).map V.int:=by
 induction n with
 |zero=>rfl
 |succ n ih=>rw[QY,Rx,ih,QY];rfl
theorem mP{n j:Nat}{i:Int}(e:i=j)(h:j<n):ixN n i=some j:=by subst e;unfold ixN;rw[if_pos (RT _),if_pos (by omega)];simp
theorem oX(l:List Int)(j:Nat)(x:Int):(l.map V.int).set j (.int x)=(l.set j x).map V.int:=by rw[List.map_set]
theorem kP{l:List Int}{j:Nat}{i:Int}(e:i=j)(h:j<l.length):atI (l.map V.int) i=some (.int (cf l j)):=by subst e;exact kQ (by rw[List.getElem?_map,jn h];rfl)
def SameB(p:Addr)(H H':Hp):Prop:=∀b o,b≠p->H b=some o->H' b=some o
theorem SameB.refl(p:Addr)(H:Hp):SameB p H H:=λ_ _ _ h=>h
theorem SameB.then_new{p q:Addr}{H H1:Hp}{o:HO}(s:SameB p H H1)(h:H1 q=none):SameB p H (upd H1 q o):=λb u n e=>by rw[upd_ne (bC (s b u n e) h)];exact s b u n e
theorem SameB.then_upd{p:Addr}{H H1:Hp}{o:HO}(s:SameB p H H1):SameB p H (upd H1 p o):=λb u n e=>by rw[upd_ne n];exact s b u n e
def AllB(k:Nat)(l:List Int):Prop:=∀x∈l,Bits k x
theorem AllB.cf{k:Nat}{l:List Int}(h:AllB k l)(n:Nat):Bits k (cf l n):=by
 by_cases hn:n<l.length
 ·rw[eJ hn];exact h _ (Q1 hn)
 ·rw[cF (QL hn)];exact Bits.zero
theorem gG{H H2:Hp}{p:Addr}{o:HO}(s:Same H H2)(hp:H p=none):Same H (upd H2 p o):=λb u e=>by rw[upd_ne (bC e hp)];exact s b u e
theorem HR(l:List Int)(x:Int):l.map V.int++[V.int x]=(l++[x]).map V.int:=by rw[Qc];rfl
noncomputable def iC(ms:List Int)(lo hi:Option Int):List Int:=(ms.drop (HT.sIx ms.length 0 lo)).take (HT.sIx ms.length ms.length hi-HT.sIx ms.length 0 lo)
theorem vE(ms:List Int)(lo hi:Option Int):iB (ms.map V.int) lo hi=(iC ms lo hi).map V.int:=by unfold iB iC;rw[Pk,<- List.map_drop,<- List.map_take]
theorem Le{ms:List Int}{lo hi:Option Int}{x:Int}(h:x∈iC ms lo hi):x∈ms:=RU (RV h)
theorem AllB.cut{k:Nat}{ms:List Int}{lo hi:Option Int}(h:AllB k ms):AllB k (iC ms lo hi):=λx hx=>h x (Le hx)
theorem AllB.app{k:Nat}{l r:List Int}(h1:AllB k l)(h2:AllB k r):AllB k (l++r):=λx hx=>(PV.mp hx).elim (h1 x) (h2 x)
theorem AllB.zeros{k n:Nat}:AllB k (List.replicate n 0):=λx hx=>by rw[List.eq_of_mem_replicate hx];exact Bits.zero
theorem AllB.mono{j k:Nat}{l:List Int}(h:AllB j l)(hk:j<=k:=by decide):AllB k l:=λx hx=>(h x hx).mono hk
theorem AllB.nil{k:Nat}:AllB k []:=λ_ h=>nomatch h
theorem AllB.snoc{k:Nat}{l:List Int}{x:Int}(h:AllB k l)(hx:Bits k x):AllB k (l++[x]):=h.app λy hy=>by rw[Pw.mp hy];exact hx
theorem HL{l:List Int}{x:Int}(h:x∈trim l):x∈l:=by
 unfold trim at h
 rw[List.mem_reverse]at h;exact List.mem_reverse.mp ((List.dropWhile_sublist _).subset h)
theorem AllB.trim{k:Nat}{l:List Int}(h:AllB k l):AllB k (trim l):=λx hx=>h x (HL hx)
theorem iw{l:List Int}{i:Nat}{x:V}(h:(l.map V.int)[i]?=some x):∃c,l[i]?=some c/\x=.int c/\c∈l/\l.take (i+1)=l.take i++[c]:=by
 rw[List.getElem?_map]at h;cases e:l[i]? with
 |none=>rw[e]at h;cases h
 |some c=>rw[e]at h;exact⟨c,rfl,(Option.some.inj h).symm,List.mem_of_getElem? e,by rw[Qy,e];rfl⟩
def mkL(H:Hp)(Q:VK)(r:List Int):Prop:=∀(p:Addr) (H':Hp),Same H H'->H p=none->H' p=some (.lst (r.map V.int))->Q (.ref p) H'
inductive lf(K:PySem.W.Frag)(vs:List V)(H:Hp)(Q:VK)(E:XK):Prop
 |mk (a:Addr) (ns:List Int):vs=[.ref a]->SqL K H a (ns.map V.int)->mkL H Q (trim ns)->lf K vs H Q E
inductive iL(K:PySem.W.Frag)(vs:List V)(H:Hp)(Q:VK)(E:XK):Prop
 |mk (a:Addr) (ns:List Int) (k:Nat):vs=[.ref a,.int k]->SqL K H a (ns.map V.int)->Q (.int (ns.getD k 0)) H->iL K vs H Q E
inductive oj(K:PySem.W.Frag)(g:List Int->List Int->List Int)(vs:List V)(H:Hp)(Q:VK)(E:XK):Prop
 |mk (a b:Addr) (xs ys:List Int):vs=[.ref a,.ref b]->SqL K H a (xs.map V.int)->SqL K H b (ys.map V.int)->xs.length<=1000000->ys.length<=1000000->mkL H Q (g xs ys)->oj K g vs H Q E
theorem Ad(i j:Nat):(if((j:Nat):Int)>((i:Nat):Int)then((j:Nat):Int)else((i:Nat):Int))=((max i j:Nat):Int):=by split<;>omega
theorem om{n:Nat}(h:n<=sizeLine) : -(2^62)<=((n:Nat):Int)/\((n:Nat):Int)<2^62:=by have:=sizeLine_eq;omega
def RwH(H:Hp)(ps:List Addr)(xss:List (List Int)):Prop:=ps.length=xss.length/\∀(i:Nat) (p:Addr) (xs:List Int),ps[i]?=some p->xss[i]?=some xs->H p=some (.lst (xs.map V.int))
theorem RwH.nil{H:Hp}:RwH H [] []:=⟨rfl,λi p xs h=>by simp at h⟩
theorem RwH.same{H H':Hp}{ps:List Addr}{xss:List (List Int)}(h:RwH H ps xss)(s:Same H H'):RwH H' ps xss:=⟨h.1,λi p xs a b=>s _ _ (h.2 i p xs a b)⟩
theorem RwH.snoc{H:Hp}{ps:List Addr}{xss:List (List Int)}{p:Addr}{xs:List Int}(h:RwH H ps xss)(hp:H p=some (.lst (xs.map V.int))):RwH H (ps++[p]) (xss++[xs]):=by
 refine⟨by rw[P6,P6,h.1];rfl,λi q ys a b=>?_⟩;by_cases hi:i<ps.length
 ·rw[List.getElem?_append_left hi]at a;rw[List.getElem?_append_left (by rw[<- h.1];exact hi)]at b;exact h.2 i q ys a b
 ·rw[List.getElem?_append_right (by omega)]at a;rw[List.getElem?_append_right (by rw[<- h.1];omega),<- h.1]at b;by_cases h0:i-ps.length=0
  ·rw[h0]at a b;obtain rfl:p=q:=by simpa using a
   obtain rfl:xs=ys:=by simpa using b
   exact hp
  ·rw[List.getElem?_eq_none_iff.mpr (by simp;omega)]at a;cases a
theorem RwH.get{H:Hp}{ps:List Addr}{xss:List (List Int)}{i:Nat}(h:RwH H ps xss)(hi:i<xss.length):∃p,ps[i]?=some p/\H p=some (.lst ((xss.getD i []).map V.int)):=by
 have hi':i<ps.length:=by rw[h.1];exact hi
 refine⟨ps[i],List.getElem?_eq_getElem hi',h.2 i _ _ (List.getElem?_eq_getElem hi') ?_⟩;rw[List.getElem?_eq_getElem hi];simp[List.getD,hi]
theorem RwH.of_get{H:Hp}{ps:List Addr}{xss:List (List Int)}{i:Nat}{x:V}(h:RwH H ps xss)(hx:(ps.map V.ref)[i]?=some x):∃p xs,x=.ref p/\ps[i]?=some p/\xss[i]?=some xs/\H p=some (.lst (xs.map V.int))/\i<xss.length:=by
 rw[List.getElem?_map]at hx;cases e:ps[i]? with
 |none=>rw[e]at hx;cases hx
 |some p =>
  rw[e]at hx;have hi:i<ps.length:=(List.getElem?_eq_some_iff.mp e).1;have hi':i<xss.length:=by rw[<- h.1];exact hi
  exact⟨p,xss[i],(Option.some.inj hx).symm,rfl,List.getElem?_eq_getElem hi',h.2 i p _ e (List.getElem?_eq_getElem hi'),hi'⟩
theorem HS(ps:List Addr)(p:Addr):ps.map V.ref++[V.ref p]=(ps++[p]).map V.ref:=by rw[Qc];rfl
inductive sp2(vs:List V)(H:Hp)(Q:VK)(E:XK):Prop
 |mk (a b:Int):vs=[.int a,.int b]->Q (.int (Nat.gcd a.natAbs b.natAbs:Nat)) H->sp2 vs H Q E
theorem np(i:Int):(if i<0 then -i else i)=(i.natAbs:Int):=by split<;>omega
theorem Gq(F:Fun K "shared_by_two" "shared_by_two" rD f fd)(T:Txt K mg):FnOk P w K mg base CX0 1 f fd ["one","other"] sp2:=by
 refine F.ok sc_shared_by_two (λvs H Q E h=>?_) (λcdv A outer s H vs Q E hr h=>?_)
 ·obtain⟨a,b,rfl,_⟩:=h;rfl
 ·obtain⟨a,b,rfl,k⟩:=h
  refine⟨_,(ai (ar (i:=2) sc_shared_by_two.nd rfl (Or.inl rfl) (ci gU (by rfl) T.abs_ PyProof.Rows.boot_abs (aa (pv 0) ac)))
   (ai (ar (i:=3) sc_shared_by_two.nd rfl (Or.inl rfl) (ci gU (by rfl) T.abs_ PyProof.Rows.boot_abs (aa (pv 1) ac)))
   (ai (gF PassesOwn.never (aJ i7 (pv 3) af (aI _))
     (ai (ar (i:=4) sc_shared_by_two.nd rfl (Or.inl rfl) (ak cQ (pv 2) (pv 3)))
       (ai (ar (i:=2) sc_shared_by_two.nd rfl (Or.inl rfl) (pv 3))
       (ao (ar (i:=3) sc_shared_by_two.nd rfl (Or.inl rfl) (pv 4))))))
   (ao (aw (pv 2)))))),?_⟩
  refine⟨_,rfl,_,rfl,?_⟩;refine⟨_,rfl,_,rfl,?_⟩;refine⟨λm σ' H'=>∃(x y:Int) (z:Option V),σ'=[some (.int a),some (.int b),some (.int x),some (.int y),z]/\H=H'/\0<=x/\0<=y/\y.natAbs=m/\Nat.gcd x.natAbs y.natAbs=Nat.gcd a.natAbs b.natAbs,⟨_,_,_,none,rfl,rfl,?_,?_,rfl,?_⟩,?_⟩
  ·rw[np];exact RT _
  ·rw[np];exact RT _
  ·rw[np,np,P9,P9]
  ·rintro m σ' H' ⟨x,y,z,rfl,rfl,hx,hy,rfl,hg⟩;refine⟨_,rfl,_,_,rfl,rfl,_,rfl,?_⟩;refine dJ (λhn=>?_) (λh0=>?_)
   ·have hp:0<y:=by have:y≠0:=hn;omega
    refine⟨λσ'' H''=>∃m',m'<y.natAbs/\∃(x' y':Int) (z:Option V),σ''=[some (.int a),some (.int b),some (.int x'),some (.int y'),z]/\H=H''/\0<=x'/\0<=y'/\y'.natAbs=m'/\Nat.gcd x'.natAbs y'.natAbs=Nat.gcd a.natAbs b.natAbs,λ_ _ h=>h,?_⟩;refine⟨_,rfl,_,rfl,_,_,rfl,rfl,hp,?_⟩;refine⟨_,rfl,?_⟩;refine⟨_,rfl,?_⟩;have h1:=Int.emod_nonneg x (Qd hp);have h2:=RW x hp;exact⟨(x%y).natAbs,by omega,y,x%y,_,rfl,rfl,hy,h1,rfl,by rw[AX hx hp];exact hg⟩
   ·refine⟨_,rfl,?_⟩;have e:(y:Int)=0:=h0;subst e
    have e2:(x:Int)=((Nat.gcd a.natAbs b.natAbs:Nat):Int):=by rw[<- hg];show x=((Nat.gcd x.natAbs 0:Nat):Int);rw[Nat.gcd_zero_right];omega
    rw[e2];exact k
inductive qF(K:PySem.W.Frag)(vs:List V)(H:Hp)(Q:VK)(E:XK):Prop
 |mk (a:Addr) (ns:List Int):vs=[.ref a]->SqL K H a (ns.map V.int)->Q (.int (av ns:Nat)) H->qF K vs H Q E
theorem Gr(F:Fun K "shared" "shared" rE f fd)(T:Txt K mg)(wA:Cal P w K mg base 1 "shared_by_two" ["one","other"] sp2 Ky Kd):FnOk P w K mg base CX0 2 f fd ["row"] (qF K):=by
 obtain⟨we,uz,uO,vP⟩:=wA;refine F.ok sc_shared (λvs H Q E h=>?_) (λcdv A outer s H vs Q E hr h=>?_)
 ·obtain⟨a,ns,rfl,_⟩:=h;rfl
 ·obtain⟨a,ns,rfl,hS,k⟩:=h
  refine⟨_,(ai (ar (i:=1) sc_shared.nd rfl (Or.inl rfl) af)
   (ai (db PassesOwn.never rfl (fS (K:=K) rfl (pv 0)) (aR (i:=2) sc_shared.nd rfl (Or.inl rfl))
     (ao (ar (i:=1) sc_shared.nd rfl (Or.inl rfl) (al we (hr.mono) rfl uz uO vP .nil ah (aa (pv 1) (aa (pv 2) ac))))))
   (ao (aw (pv 1))))),?_⟩
  refine⟨_,rfl,a,rfl,⟨_,hS⟩,pH (K:=K) (a:=a) (xs:=ns.map V.int) (λi σ' H'=>∃z:Option V,σ'=[some (.ref a),some (.int (av (ns.take i):Nat)),z]/\H=H') ⟨none,rfl,rfl⟩ (λi σ' H' _ ⟨z,_,e⟩=>by rw[<- e];exact hS) ?_ ?_⟩
  ·rintro i y σ' H' hi ⟨z,rfl,rfl⟩;rw[List.getElem?_map]at hi;cases e:ns[i]? with
   |none=>rw[e]at hi;cases hi
   |some n =>
    rw[e]at hi;obtain rfl:=Option.some.inj hi;refine⟨_,rfl,_,rfl,_,_,rfl,?_⟩;have e3:ns.take (i+1)=ns.take i++[n]:=by rw[Qy,e];rfl
    refine⟨some (.int n),?_,rfl⟩;rw[e3,AY,P9];rfl
  ·rintro σ' H' ⟨z,rfl,rfl⟩;refine⟨_,rfl,?_⟩;rw[Pk,QD];exact k
noncomputable def gS(t b:Int):List (Str×V):=cP "bottom" (.int b) (cP "top" (.int t) [])
theorem Df:¬(("top":Str)="bottom"):=by decide +kernel
theorem cq(t b:Int):(gS t b).lookup ("bottom":Str)=some (.int b):=by unfold gS;rw[d7,if_pos rfl]
theorem c8(t b:Int):(gS t b).lookup ("top":Str)=some (.int t):=by unfold gS;rw[d7,if_neg Df,d7,if_pos rfl]
theorem dF(t b:Int){m:Str}(h1:¬m="bottom")(h2:¬m="top"):(gS t b).lookup m=none:=by unfold gS;rw[d7,if_neg h1,d7,if_neg h2];rfl
structure RCI(K:PySem.W.Frag)(mg:Str->Option Value)(C:Addr):Prop where
 cl:Cls K C
 nT:NoAttr K C "top"
 nB:NoAttr K C "bottom"
 mg:mg "Ratio"=some (.ref C)
 ha:PySem.W.findIn K (.ref C) "__class__"=some (some (.builtin "object.__class__"))
 hn:PySem.W.specialIn K (.builtin "object.__class__") "__get__"=some (some (.builtin "getset_descriptor.__get__"))
 ht:PySem.W.takesIn K (.builtin "object.__class__")=some true
 hm:PySem.W.mroIn K C (.type "object")=some true
def RA(C:Addr)(H:Hp)(p:Addr)(t b:Int):Prop:=∃dx,H p=some (.ins C dx (gS t b))
theorem RA.same{C:Addr}{H H':Hp}{p:Addr}{t b:Int}(h:RA C H p t b)(s:Same H H'):RA C H' p t b:=let⟨dx,e⟩:=h;⟨dx,s _ _ e⟩
def mkR(C:Addr)(H:Hp)(Q:VK)(t b:Int):Prop:=∀(x:Addr) (H':Hp),Same H H'->H x=none->RA C H' x (rt t b) (rb t b)->Q (.ref x) H'
inductive dj(C:Addr)(vs:List V)(H:Hp)(Q:VK)(E:XK):Prop
 |mk (p dx:Addr) (t b:Int):vs=[.ref p,.int t,.int b]->H p=some (.ins C dx [])->b≠0->Bits 9000 b->Q .non (upd H p (.ins C dx (gS (rt t b) (rb t b))))->dj C vs H Q E
theorem cR{C:Addr}{H1:Hp}{q:Addr->Hp->Prop}{E:XK}{t b:Int}(hb:b≠0)(bb:Bits 9000 b)(h:∀(x:Addr) (H':Hp),Same H1 H'->H1 x=none->RA C H' x (rt t b) (rb t b)->q x H'):∀x dx:Addr,H1 x=none->H1 dx=none->dx≠x->dj C (.ref x::([.int t,.int b]++[])) (upd (upd H1 dx (.own x)) x (.ins C dx [])) (λv H2=>v=.non/\q x H2) E:=λx dx nx ndx ne=>by
 refine⟨x,dx,t,b,rfl,au,hb,bb,rfl,?_⟩;rw[nU]
 have s0:Same H1 (upd (upd H1 dx (.own x)) x (.ins C dx (gS (rt t b) (rb t b)))):=λc o e=>by rw[upd_ne (bC e nx),upd_ne (bC e ndx)];exact e
 exact h x _ s0 nx ⟨dx,au⟩
theorem By{t b:Int}(hb:b≠0)(bb:Bits 9000 b):Bits 9000 (dv t b):=bb.of_le (by rw[jq];exact Nat.le_of_dvd (Q3.mpr hb) (Rc _ _))
theorem Hr(F:FunD K "__init__" "Ratio.__init__" j4 dV f fd)(T:Txt K mg)(R:RCI K mg C)(wA:Cal P w K mg base 1 "shared_by_two" ["one","other"] sp2 Ky Kd):FnOk P w K mg base CX0 2 f fd ["self","top","bottom"] (dj C):=by
 obtain⟨we,uz,uO,vP⟩:=wA;refine F.ok sc_Ratio___init__ (λvs H Q E h=>?_) (λcdv A outer s H vs Q E hr h=>?_)
 ·obtain⟨p,dx,t,b,rfl,_⟩:=h;rfl
 ·obtain⟨p,dx,t,b,rfl,hp,hb,bb,k⟩:=h
  refine⟨_,(ai (aS (aJ cV (pv 2) af (aI _))
   (ao iV)
   aV)
   (ai (ar (i:=3) sc_Ratio___init__.nd rfl (Or.inl rfl) (al we (hr.mono) rfl uz uO vP .nil ah (aa (pv 1) (aa (pv 2) ac))))
   (ai (aS (aJ dL (pv 2) af (aI _))
     (ao (ar (i:=3) sc_Ratio___init__.nd rfl (Or.inl rfl) (b7 bV (pv 3))))
     aV)
   (ai (lQ (pv 0) (ak zt (pv 1) (pv 3)) rfl)
   (ao (lQ (pv 0) (ak zt (pv 2) (pv 3)) rfl)))))),?_⟩
  refine bZ ⟨_,rfl,_,_,rfl,rfl,_,rfl,aM (λh=>absurd h hb) (λ_=>?_)⟩;refine aC ⟨_,rfl,_,rfl,t,b,rfl,?_⟩;refine dY (λσ' H'=>H=H'/\σ'=[some (.ref p),some (.int t),some (.int b),some (.int (dv t b))]) ?_ ?_
  ·rintro σ' H' ⟨rfl,rfl⟩;refine⟨_,rfl,_,rfl,_,_,rfl,rfl,⟨pM hb,By hb bb⟩,_,rfl,p,C,dx,_,rfl,hp,R.cl,R.nT,by show 0<1000;decide,?_⟩;refine⟨_,rfl,_,rfl,_,_,rfl,rfl,⟨pM hb,By hb bb⟩,_,rfl,p,C,dx,_,rfl,au,R.cl,R.nB,by show 1<1000;decide,?_⟩;show Q .non (upd (upd H p _) p _);rw[nU];exact k
  ·intro rest;refine⟨_,rfl,_,_,rfl,rfl,_,rfl,?_⟩;refine aM (λh=>?_) (λh=>?_)
   ·refine⟨_,rfl,_,rfl,rest _ _ ⟨rfl,?_⟩⟩;have e:dv t b = -((Nat.gcd t.natAbs b.natAbs:Nat):Int):=by unfold dv;rw[if_pos h]
    rw[e];rfl
   ·refine rest _ _ ⟨rfl,?_⟩;have e:dv t b=((Nat.gcd t.natAbs b.natAbs:Nat):Int):=by unfold dv;rw[if_neg h]
    rw[e];rfl
inductive li(vs:List V)(H:Hp)(Q:VK)(E:XK):Prop
 |mk (x:Int):vs=[.int x]->Q (.int (sg x)) H->li vs H Q E
theorem Gc(F:Fun K "whole_sign" "whole_sign" rf f fd)(T:Txt K mg):FnOk P w K mg base CX0 1 f fd ["value"] li:=by
 refine F.ok D6 (λvs H Q E h=>?_) (λcdv A outer s H vs Q E hr h=>?_)
 ·obtain⟨x,rfl,_⟩:=h;rfl
 ·obtain⟨x,rfl,k⟩:=h
  refine⟨_,(ai (aS (aJ dL (pv 0) af (aI _))
   (ao (aw (b7 bV af)))
   aV)
   (ai (aS (aJ dD (pv 0) af (aI _))
     (ao (aw af))
     aV)
   (ao (aw af)))),?_⟩
  refine bZ ⟨_,rfl,_,_,rfl,rfl,_,rfl,aM (λh=>?_) (λh=>?_)⟩
  ·have e:sg x = -1:=by unfold sg;rw[if_pos h]
   rw[e]at k;exact⟨_,rfl,k⟩
  refine bZ ⟨_,rfl,_,_,rfl,rfl,_,rfl,aM (λh'=>?_) (λh'=>?_)⟩
  ·have e:sg x=1:=by unfold sg;rw[if_neg h,if_pos h']
   rw[e]at k;exact k
  ·have e:sg x=0:=by unfold sg;rw[if_neg h,if_neg h']
   rw[e]at k;exact k
inductive lv(C:Addr)(vs:List V)(H:Hp)(Q:VK)(E:XK):Prop
 |mk (p q:Addr) (t b u d:Int):vs=[.ref p,.ref q]->RA C H p t b->RA C H q u d->Bits 100000 t->Bits 100000 b->Bits 100000 u->Bits 100000 d->Q (.int (sg (t*d-u*b))) H->lv C vs H Q E
theorem Hq(F:Fun K "against" "Ratio.against" tx f fd)(T:Txt K mg)(R:RCI K mg C)(jH:Cal P w K mg base 1 "whole_sign" ["value"] li vp vb):FnOk P w K mg base CX0 2 f fd ["self","other"] (lv C):=by
 obtain⟨jD,i8,je,jy⟩:=jH;refine F.ok EB (λvs H Q E h=>?_) (λcdv A outer s H vs Q E hr h=>?_)
 ·obtain⟨p,q,t,b,u,d,rfl,_⟩:=h;rfl
 ·obtain⟨p,q,t,b,u,d,rfl,⟨dx,hp⟩,⟨dy,hq⟩,bt,bb,bu,bd,k⟩:=h;refine⟨_,(ao (aw (al jD (hr.mono) rfl i8 je jy .nil ah (aa (ak cz (ak aK (aO (K:=K) rfl (pv 0) rfl) (aO (K:=K) rfl (pv 1) rfl)) (ak aK (aO (K:=K) rfl (pv 1) rfl) (aO (K:=K) rfl (pv 0) rfl))) ac)))),?_⟩;refine⟨_,rfl,p,C,dx,_,_,rfl,hp,R.cl,R.nT,c8 _ _,_,rfl,q,C,dy,_,_,rfl,hq,R.cl,R.nB,cq _ _,_,_,rfl,rfl,⟨bt.mono,bd.mono⟩,?_⟩;exact⟨_,rfl,q,C,dy,_,_,rfl,hq,R.cl,R.nT,c8 _ _,_,rfl,p,C,dx,_,_,rfl,hp,R.cl,R.nB,cq _ _,_,_,rfl,rfl,⟨bu.mono,bb.mono⟩,_,_,rfl,rfl,_,rfl,k⟩
theorem Gy(F:Fun K "poly" "poly" rL f fd)(T:Txt K mg):FnOk P w K mg base CX0 1 f fd ["row"] (lf K):=by
 refine F.ok sc_poly (λvs H Q E h=>?_) (λcdv A outer s H vs Q E hr h=>?_)
 ·obtain⟨a,ns,rfl,_⟩:=h;rfl
 ·obtain⟨a,ns,rfl,hS,k⟩:=h
  refine⟨_,(ai (ar (i:=1) sc_poly.nd rfl (Or.inl rfl) (ci (dz (K:=K) rfl) (by rfl) T.len_ PySem.boot_len (aa (pv 0) ac)))
   (ai (gF PassesOwn.never (PW.pt (iU (aJ dD (pv 1) af (aI _)) (iT (aJ cV (aE (ck (K:=K) rfl) (pv 0) (ak cz (pv 1) af) (λ_ _=>rfl)) af (aI _)))))
     (ao (ar (i:=1) sc_poly.nd rfl (Or.inl rfl) (ak cz (pv 1) af))))
   (ao (aw (oM (oo (K:=K) rfl) (pv 0) oJ (oI (pv 1))))))),?_⟩
  refine⟨_,rfl,a,_,rfl,.inl hS,?_⟩;refine⟨λm σ' H'=>∃n:Nat,n<=ns.length/\σ'=[some (.ref a),some (.int n)]/\H=H'/\n=m/\trim (ns.take n)=trim ns,⟨_,ns.length,Pn _,?_,rfl,rfl,?_⟩,?_⟩
  ·rw[Pk];rfl
  ·rw[QD]
  ·rintro m σ' H' ⟨n,hn,rfl,rfl,rfl,ht⟩
   have fin:trim (ns.take n)=ns.take n->∃v,([some (V.ref a),some (V.int n)]:St)[0]?=some (some v)/\∃v_1,([some (V.ref a),some (V.int n)]:St)[1]?=some (some v_1)/\∃i,v_1=V.int i/\tQ K v none (some i) H Q:=λh=>by
    refine⟨_,rfl,_,rfl,n,rfl,a,_,rfl,hS,λp hp=>k p _ (Same.upd_new hp) hp ?_⟩;rw[au,<- ht,h]
    have e:iB (ns.map V.int) none (some (n:Int))=(ns.take n).map V.int:=by unfold iB;rw[HT.sIx_none,HT.sIx_nat,Rk,QO,Pk,Nat.min_eq_left hn,List.map_take]
    rw[e]
   refine⟨_,rfl,_,_,rfl,rfl,_,rfl,?_⟩;refine aM (λhp=>?_) (λhp=>?_)
   ·obtain⟨j,rfl⟩:∃j,n=j+1:=⟨n-1,by have:(0:Int)<n:=hp;omega⟩;have hj:j<ns.length:=hn;refine⟨_,rfl,_,rfl,_,_,rfl,rfl,a,_,j,.int (cf ns j),rfl,?_,hS,kQ ?_,_,_,rfl,rfl,_,rfl,?_⟩
    ·show V.int (((j+1:Nat):Int)-1)=V.int j
     congr 1;omega
    ·rw[List.getElem?_map,jn hj];rfl
    refine aM (λh0=>?_) (λh0=>?_)
    ·refine⟨λσ'' H''=>∃m',m'<j+1/\∃n:Nat,n<=ns.length/\σ''=[some (.ref a),some (.int n)]/\H=H''/\n=m'/\trim (ns.take n)=trim ns,λ_ _ h=>h,?_⟩;refine⟨_,rfl,_,_,rfl,rfl,j,QJ _,j,Q9 hj,?_,rfl,rfl,?_⟩
     ·show[some (V.ref a),some (V.int (((j+1:Nat):Int)-1))]=[some (V.ref a),some (V.int j)]
      congr 4;omega
     ·rw[<- ht,CV hj h0]
    ·exact fin (CW hj h0)
   ·obtain rfl:n=0:=by have:¬(0:Int)<n:=hp;omega
    exact fin (by rw[List.take_zero];rfl)
inductive jW(vs:List V)(H:Hp)(Q:VK)(E:XK):Prop
 |mk (a:Addr) (xs:List V):vs=[.ref a]->H a=some (.lst xs)->Q (.int ((xs.length:Int)-1)) H->jW vs H Q E
theorem GS(F:Fun K "degree" "degree" si f fd)(T:Txt K mg):FnOk P w K mg base CX0 1 f fd ["row"] jW:=by
 refine F.ok Ej (λvs H Q E h=>?_) (λcdv A outer s H vs Q E hr h=>?_)
 ·obtain⟨a,xs,rfl,_⟩:=h;rfl
 ·obtain⟨a,xs,rfl,hA,k⟩:=h;refine⟨_,(ao (aw (ak cz (ci (dz (K:=K) rfl) (by rfl) T.len_ PySem.boot_len (aa (pv 0) ac)) af))),?_⟩;exact⟨_,rfl,a,_,rfl,.inl (SqL.of hA),_,_,rfl,rfl,k⟩
theorem GW(F:Fun K "coefficient" "coefficient" sv f fd)(T:Txt K mg):FnOk P w K mg base CX0 1 f fd ["row","place"] (iL K):=by
 refine F.ok Em (λvs H Q E h=>?_) (λcdv A outer s H vs Q E hr h=>?_)
 ·obtain⟨a,ns,k,rfl,_⟩:=h;rfl
 ·obtain⟨a,ns,n,rfl,hS,k⟩:=h
  refine⟨_,(ai (aS (aJ dL (pv 1) (ci (dz (K:=K) rfl) (by rfl) T.len_ PySem.boot_len (aa (pv 0) ac)) (aI _))
   (ao (aw (aE (ck (K:=K) rfl) (pv 0) (pv 1) (λ_ _=>rfl))))
   aV)
   (ao (aw af))),?_⟩
  refine⟨_,rfl,_,rfl,a,_,rfl,.inl hS,_,_,rfl,rfl,_,rfl,?_⟩;refine aM (λh1=>?_) (λh1=>?_)
  ·rw[Pk]at h1;have h2:n<ns.length:=by omega
   refine⟨_,rfl,_,rfl,a,_,_,_,rfl,rfl,hS,kQ (v:=.int (ns.getD n 0)) ?_,k⟩;rw[List.getElem?_map,List.getElem?_eq_getElem h2];simp[List.getD,h2]
  ·rw[Pk]at h1;have h2:ns.length<=n:=by omega
   have e:ns.getD n 0=0:=by simp[List.getD,List.getElem?_eq_none_iff.mpr h2]
   rw[e]at k;exact k
theorem Gf(F:Fun K "taken" "taken" rj f fd)(T:Txt K mg)(jI:Cal P w K mg base 1 "poly" ["row"] (lf K) vq vc)(wG:Cal P w K mg base 1 "coefficient" ["row","place"] (iL K) KF Kj):FnOk P w K mg base CX0 2 f fd ["first","second"] (oj K cN):=by
 obtain⟨jE,i9,jf,jz⟩:=jI;obtain⟨nI,mE,mN,ni⟩:=wG;refine F.ok sc_taken (λvs H Q E h=>?_) (λcdv A outer s H vs Q E hr h=>?_)
 ·obtain⟨a,b,xs,ys,rfl,_⟩:=h;rfl
 ·obtain⟨a,b,xs,ys,rfl,hA,hB,hx,hy,k⟩:=h
  refine⟨_,(ai (ar (i:=2) sc_taken.nd rfl (Or.inl rfl) (ci (B6 rfl) (by rfl) T.max_ PyProof.Rows.boot_max (aa (ci (dz (K:=K) rfl) (by rfl) T.len_ PySem.boot_len (aa (pv 0) ac)) (aa (ci (dz (K:=K) rfl) (by rfl) T.len_ PySem.boot_len (aa (pv 1) ac)) ac))))
   (ao (aw (al jE (hr.mono) rfl i9 jf jz .nil ah (aa (gk (own:=["k"]) (fr:=["first","second"]) (js:=[0,1]) (by walk_at "comp_ok") rfl (iY rfl T.range_ (aa (pv 2) ac)) (λ_ _ _ _=>(aR (i:=0) (show List.Nodup (["k","first","second"]:List Str)from by decide +kernel) rfl (Or.inl rfl))) (λ_ _ _ _=>(ak cz (al nI (hr.mono) rfl mE mN ni .nil ah (aa (pv 1) (aa (pv 0) ac))) (al nI (hr.mono) rfl mE mN ni .nil ah (aa (pv 2) (aa (pv 0) ac)))))) ac))))),?_⟩
  refine⟨_,rfl,a,_,rfl,.inl hA,_,rfl,b,_,rfl,.inl hB,_,_,rfl,?_⟩;rw[Ad,Pk,Pk];have hz:max xs.length ys.length<=sizeLine:=by have:=sizeLine_eq;omega
  refine⟨_,rfl,_,rfl,(om hz).1,(om hz).2,vG (lo:=0) (n:=max xs.length ys.length) (λi zs σ' H'=>∃z:Option V,σ'=[z,some (.ref a),some (.ref b)]/\zs=((List.range i).map λk=>V.int (cf xs k-cf ys k))/\H=H') hz ⟨none,rfl,rfl,rfl⟩ ?_ ?_ ?_⟩
  ·rintro i zs σ' H' _ ⟨z,rfl,rfl,rfl⟩;simp
  ·rintro i zs σ' H' hi ⟨z,rfl,rfl,rfl⟩;refine⟨_,rfl,_,rfl,a,xs,i,?_,hA,_,rfl,_,rfl,b,ys,i,?_,hB,_,_,rfl,rfl,_,rfl,?_,rfl⟩
   ·show[V.ref a,V.int (0+(i:Int))]=_;rw[Qt]
   ·show[V.ref b,V.int (0+(i:Int))]=_;rw[Qt]
   ·rw[List.range_succ,Qc];rfl
  ·rintro zs σ' H' p ⟨z,rfl,rfl,rfl⟩ hp;refine⟨p,(List.range (max xs.length ys.length)).map λk=>cf xs k-cf ys k,rfl,SqL.of ?_,?_⟩
   ·rw[au,QE];rfl
   ·intro p' H' sm hp' e;refine k p' H' ((Same.upd_new hp).trans sm) ((Same.upd_new hp).free hp') ?_;rw[e,Dz]
inductive sp1(g:List Int->List Int)(vs:List V)(H:Hp)(Q:VK)(E:XK):Prop
 |mk (a:Addr) (ns:List Int):vs=[.ref a]->H a=some (.lst (ns.map V.int))->ns.length<=100000->AllB 100000 ns->mkL H Q (g ns)->sp1 g vs H Q E
theorem HC{k:Nat}{n:Nat}(h:n<2^k):Bits k (n:Int):=by show((n:Int)).natAbs<2^k;rw[P9];exact h
theorem DH{n:Nat}(h:n<=1000000):Bits 1000000 (n:Int):=(HC (k:=20) (QR h (by decide))).mono
theorem Fe(f:Nat->V)(i:Nat):(List.range i).map f++[f i]=(List.range (i+1)).map f:=by rw[List.range_succ,Qc];rfl
theorem Gk(F:Fun K "slope" "slope" rz f fd)(T:Txt K mg):FnOk P w K mg base CX0 1 f fd ["row"] (sp1 slopeL):=by
 refine F.ok D8 (λvs H Q E h=>?_) (λcdv A outer s H vs Q E hr h=>?_)
 ·obtain⟨a,ns,rfl,_⟩:=h;rfl
 ·obtain⟨a,ns,rfl,hA,hn,hb,k⟩:=h;have big:=sizeLine_eq;refine⟨_,(ao (aw (gk (own:=["k"]) (fr:=["row"]) (js:=[0]) (by walk_at "comp_ok") rfl (FI rfl T.range_ (aa af (aa (ci (dz (K:=K) rfl) (by rfl) T.len_ PySem.boot_len (aa (pv 0) ac)) ac))) (λ_ _ _ _=>(aR (i:=0) (show List.Nodup (["k","row"]:List Str)from by decide +kernel) rfl (Or.inl rfl))) (λ_ _ _ _=>(ak aK (pv 0) (aE (ck (K:=K) rfl) (pv 1) (pv 0) (λ_ _=>rfl))))))),?_⟩;have hl:(ns.map V.int).length=ns.length:=Pk _;refine aX ⟨_,rfl,a,_,rfl,.inl (SqL.of hA),1,_,rfl,⟨by decide,by decide,by rw[hl];omega,by rw[hl];omega⟩,vG (lo:=1) (λi ys σ' H'=>∃z:Option V,σ'=[z,some (.ref a)]/\ys=((List.range i).map λ(j:Nat)=>V.int (((j:Int)+1)*cf ns (j+1)))/\H=H') (by rw[hl];omega) ⟨none,rfl,rfl,rfl⟩ ?_ ?_ ?_⟩
  ·rintro i ys σ' H' _ ⟨z,rfl,rfl,rfl⟩;simp
  ·rintro i ys σ' H' hi ⟨z,rfl,rfl,rfl⟩;rw[hl]at hi;have hi':i+1<ns.length:=by omega
   have e0:(1:Int)+(i:Int)=((i+1:Nat):Int):=by omega
   refine⟨_,rfl,_,rfl,_,rfl,a,_,_,_,rfl,rfl,SqL.of hA,kP e0 hi',_,_,rfl,rfl,⟨by rw[e0];exact DH (by omega),(hb.cf _).mono⟩,_,rfl,?_,rfl⟩;rw[<- Fe];show _++[V.int ((1+(i:Int))*cf ns (i+1))]=_;rw[Int.add_comm 1]
  ·rintro ys σ' H' p ⟨z,rfl,rfl,rfl⟩ hp;refine k p _ (Same.upd_new hp) hp ?_;have en:(((ns.map V.int).length:Int)-1).toNat=ns.length-1:=by rw[hl];omega
   rw[au,en];unfold RM.slopeL;rw[QE];rfl
inductive qE(vs:List V)(H:Hp)(Q:VK)(E:XK):Prop
 |mk (a:Addr) (ns:List Int):vs=[.ref a]->H a=some (.lst (ns.map V.int))->Tr ns->ns.length<=1000000->mkL H Q (ap ns)->qE vs H Q E
theorem J0{ns:List Int}(ht:Tr ns)(hne:ns≠[]):0<(av ns:Int):=by
 obtain⟨r,x,rfl⟩:=(cY ns).resolve_left hne;have hx:x≠0:=tr_snoc.mp ht;have hm:x∈r++[x]:=by simp
 have h1:0<av (r++[x]):=Nat.pos_of_dvd_of_pos (pF hm) (Q3.mpr hx);omega
theorem Gp(F:Fun K "shrunk" "shrunk" oy f fd)(T:Txt K mg)(hNS:base.NoSeer)(hTr:P.given.tree=none)(wB:Cal P w K mg base 2 "shared" ["row"] (qF K) Kz Ke):FnOk P w K mg base CX0 33 f fd ["row"] qE:=by
 obtain⟨wf,uA,uP,vQ⟩:=wB;refine F.ok sc_shrunk (λvs H Q E h=>?_) (λcdv A outer s H vs Q E hr h=>?_)
 ·obtain⟨a,ns,rfl,_⟩:=h;rfl
 ·obtain⟨a,ns,rfl,hA,ht,hn,k⟩:=h;have big:=sizeLine_eq;have hdp:(A.deeper (PyProof.Rows.envOfC (Str.ofString "shrunk") (aD oy) s.heap.objs.size f cdv)).depth+100<recursionLimit:=by have:=hr.dp;omega
  refine⟨_,(ai (ar (i:=1) sc_shrunk.nd rfl (Or.inr rfl) (al wf (hr.mono) rfl uA uP vQ .nil ah (aa (pv 0) ac)))
   (ao (aw (gk (own:=["value"]) (fr:=["divisor"]) (js:=[1]) (by walk_at "comp_ok") rfl (fS (K:=K) rfl (pv 0)) (λ_ _ _ _=>(aR (i:=0) (show List.Nodup (["value","divisor"]:List Str)from by decide +kernel) rfl (Or.inl rfl))) (λ_ _ _ _=>(ak (FX hNS hTr hdp rfl rfl rfl rfl rfl) (pv 0) (pv 1))))))),?_⟩
  refine aC ⟨_,rfl,a,ns,rfl,SqL.of hA,?_⟩;refine aX ⟨_,rfl,a,rfl,⟨_,SqL.of hA⟩,ju (K:=K) (a:=a) (xs:=ns.map V.int) (λi ys σ' H'=>∃(z0:Option V),σ'=[z0,some (.int (av ns:Nat))]/\ys=((ns.take i).map λx=>x/(av ns:Int)).map V.int/\H=H') (by rw[Pk];omega) ⟨none,rfl,rfl,rfl⟩ ?_ ?_ ?_⟩
  ·rintro i ys σ' H' _ ⟨z0,rfl,rfl,rfl⟩;exact⟨SqL.of hA,by rw[Pk,Pk,Qx];exact Rv _ _⟩
  ·rintro i x ys σ' H' hi ⟨z0,rfl,rfl,rfl⟩;rw[List.getElem?_map]at hi;cases e:ns[i]? with
   |none=>rw[e]at hi;cases hi
   |some c =>rw[e]at hi;obtain rfl:=Option.some.inj hi;have g1:=J0 ht (λz=>by rw[z]at e;simp at e);refine⟨_,rfl,_,rfl,_,_,rfl,rfl,g1,_,rfl,?_,rfl⟩;rw[Qy,e];simp
  ·rintro ys σ' H' p ⟨z0,rfl,rfl,rfl⟩ hp;refine k p _ (Same.upd_new hp) hp ?_;rw[au,Pk,QD];rfl
inductive lj(vs:List V)(H:Hp)(Q:VK)(E:XK):Prop
 |mk (a:Addr) (ns:List Int):vs=[.ref a]->H a=some (.lst (ns.map V.int))->Tr ns->ns.length<=1000000->mkL H Q (aB ns)->lj vs H Q E
theorem Cl(r:List Int)(x:Int):atI ((r++[x]).map V.int) (-1)=some (.int x):=by rw[Qc];exact v5 _ _
theorem Gz(F:Fun K "plain" "plain" rM f fd)(T:Txt K mg)(wz:Cal P w K mg base 33 "shrunk" ["row"] qE Kx Kc):FnOk P w K mg base CX0 34 f fd ["row"] lj:=by
 obtain⟨nr,mB,mK,nc⟩:=wz;refine F.ok sc_plain (λvs H Q E h=>?_) (λcdv A outer s H vs Q E hr h=>?_)
 ·obtain⟨a,ns,rfl,_⟩:=h;rfl
 ·obtain⟨a,ns,rfl,hA,ht,hn,k⟩:=h;have big:=sizeLine_eq;have hu:=hr.units
  refine⟨_,(ai (ar (i:=1) sc_plain.nd rfl (Or.inl rfl) (al nr (hr.mono) rfl mB mK nc .nil ah (aa (pv 0) ac)))
   (ai (aS (PW.pt (iU (aJ (mf (K:=K) rfl hu) (pv 1) (bj ac) (aI _)) (iT (aJ dL (aE (ck (K:=K) rfl) (pv 1) (b7 bV af) (λ_ _=>rfl)) af (aI _)))))
     (ao (aw (gk (own:=["value"]) (fr:=[]) (js:=[]) (by walk_at "comp_ok") rfl (fS (K:=K) rfl (pv 1)) (λ_ _ _ _=>(aR (i:=0) (show List.Nodup (["value"]:List Str)from by decide +kernel) rfl (Or.inl rfl))) (λ_ _ _ _=>(b7 bV (pv 0))))))
     aV)
   (ao (aw (pv 1))))),?_⟩
  refine aC ⟨_,rfl,a,ns,rfl,hA,ht,hn,λp H1 s1 hp e1=>?_⟩;have hsl:(ap ns).length=ns.length:=Pk _;have done:cI (ap ns)=ap ns->Q (.ref p) H1:=λe=>k p H1 s1 hp (by rw[e1];show _=some (HO.lst ((cI (ap ns)).map V.int));rw[e])
  refine dY (λσ' H'=>σ'=[some (.ref a),some (.ref p)]/\Same H H'/\H' p=some (.lst ((ap ns).map V.int))/\cI (ap ns)=ap ns) ?_ ?_
  ·rintro σ' H' ⟨rfl,s2,e2,e3⟩;exact⟨_,rfl,k p H' s2 hp (by rw[e2];show _=some (HO.lst ((cI (ap ns)).map V.int));rw[e3])⟩
  intro rest;refine fi ⟨_,rfl,Ps _,λq hq=>?_⟩;have s2:Same H (upd H1 q (.lst [])):=s1.then_new hq;have e2:upd H1 q (.lst []) p=some (.lst ((ap ns).map V.int)):=by rw[upd_ne (bC e1 hq)];exact e1
  refine⟨p,q,ap ns,[],rfl,rfl,SqL.of e2,SqL.of au,_,rfl,?_⟩;refine dJ (λhne=>?_) (λhe=>?_)
  ·obtain⟨r,x,er⟩:=(cY (ap ns)).resolve_left hne;refine⟨_,rfl,_,rfl,p,_,_,.int x,rfl,rfl,SqL.of e2,(by rw[er];exact Cl r x),_,_,rfl,rfl,_,rfl,?_⟩;have elast:aq (ap ns)=x:=by rw[er,dM]
   refine aM (λhx=>?_) (λhx=>?_)
   ·have hx':x<0:=hx;have epos:cI (ap ns)=(ap ns).map λx => -x:=by unfold cI;rw[elast,if_pos hx']
    refine aX ⟨_,rfl,p,rfl,⟨_,SqL.of e2⟩,ju (K:=K) (a:=p) (xs:=(ap ns).map V.int) (λi ys σ' H'=>∃(z0:Option V),σ'=[z0]/\ys=(((ap ns).take i).map λx => -x).map V.int/\upd H1 q (.lst [])=H') (by rw[Pk,hsl];omega) ⟨none,rfl,rfl,rfl⟩ ?_ ?_ ?_⟩
    ·rintro i ys σ' H' _ ⟨z0,rfl,rfl,rfl⟩;exact⟨SqL.of e2,by rw[Pk,Pk,Qx];exact Rv _ _⟩
    ·rintro i x ys σ' H' hi ⟨z0,rfl,rfl,rfl⟩;rw[List.getElem?_map]at hi;cases e:(ap ns)[i]? with
     |none=>rw[e]at hi;cases hi
     |some c =>rw[e]at hi;obtain rfl:=Option.some.inj hi;refine⟨_,rfl,_,rfl,_,rfl,?_,rfl⟩;rw[Qy,e];simp
    ·rintro ys σ' H' p' ⟨z0,rfl,rfl,rfl⟩ hp';refine k p' _ (s2.then_new hp') (s2.free hp') ?_;rw[au,Pk,QD];show _=some (HO.lst ((cI (ap ns)).map V.int));rw[epos]
   ·exact rest _ _ ⟨rfl,s2,e2,by unfold cI;rw[elast,if_neg hx]⟩
  ·have he':ap ns=[]:=he;exact rest _ _ ⟨rfl,s2,e2,by rw[he'];rfl⟩
inductive xV(vs:List V)(H:Hp)(Q:VK)(E:XK):Prop
 |mk (a:Addr) (xs:List Int) (c:Int):vs=[.ref a,.int c]->H a=some (.lst (xs.map V.int))->xs.length<=1000000->Bits 1000000 c->AllB 1000000 xs->mkL H Q (scL c xs)->xV vs H Q E
theorem Gs(F:Fun K "scaled" "scaled" rF f fd)(T:Txt K mg):FnOk P w K mg base CX0 1 f fd ["row","factor"] xV:=by
 refine F.ok Ec (λvs H Q E h=>?_) (λcdv A outer s H vs Q E hr h=>?_)
 ·obtain⟨a,xs,c,rfl,_⟩:=h;rfl
 ·obtain⟨a,xs,c,rfl,hA,hn,bc,bx,k⟩:=h;have big:=sizeLine_eq;refine⟨_,(ao (aw (gk (own:=["value"]) (fr:=["factor"]) (js:=[1]) (by walk_at "comp_ok") rfl (fS (K:=K) rfl (pv 0)) (λ_ _ _ _=>(aR (i:=0) (show List.Nodup (["value","factor"]:List Str)from by decide +kernel) rfl (Or.inl rfl))) (λ_ _ _ _=>(ak aK (pv 1) (pv 0)))))),?_⟩;refine aX ⟨_,rfl,a,rfl,⟨_,SqL.of hA⟩,ju (K:=K) (a:=a) (xs:=xs.map V.int) (λi ys σ' H'=>∃(z0:Option V),σ'=[z0,some (.int c)]/\ys=(scL c (xs.take i)).map V.int/\H=H') (by rw[Pk];omega) ⟨none,rfl,rfl,rfl⟩ ?_ ?_ ?_⟩
  ·rintro i ys σ' H' _ ⟨z0,rfl,rfl,rfl⟩;exact⟨SqL.of hA,by rw[Pk,cv,Qx];exact Rv _ _⟩
  ·rintro i x ys σ' H' hi ⟨z0,rfl,rfl,rfl⟩;obtain⟨y,_,rfl,hm,et⟩:=iw hi;refine⟨_,rfl,_,rfl,_,_,rfl,rfl,⟨bc,bx y hm⟩,_,rfl,?_,rfl⟩;rw[et];simp[scL]
  ·rintro ys σ' H' p ⟨z0,rfl,rfl,rfl⟩ hp;refine k p _ (Same.upd_new hp) hp ?_;rw[au,Pk,QD]
theorem BF(ms:List Int):iC ms none (some (-1))=ms.take (ms.length-1):=by
 unfold iC;rw[HT.sIx_none,Rk,QO]
 congr 1
 show(if(-1:Int)<0 then((-1:Int)+(ms.length:Int)).toNat else min (-1:Int).toNat ms.length)=_;rw[if_pos (by decide)];omega
theorem BW{ms:List Int}{n k:Nat}:cf (ms.take n) k=if k<n then cf ms k else 0:=by
 unfold cf;by_cases h:k<n
 ·rw[if_pos h];simp[List.getD,List.getElem?_take,h]
 ·rw[if_neg h];simp[List.getD,List.getElem?_take,h]
inductive yc(vs:List V)(H:Hp)(Q:VK)(E:XK):Prop
 |mk (a b:Addr) (rs ys:List Int) (p:Nat) (l:Int):vs=[.ref a,.ref b,.int p,.int l]->H a=some (.lst (rs.map V.int))->H b=some (.lst (ys.map V.int))->rs.length=p+ys.length->ys≠[]->Bits 1000000 l->AllB 1000000 ys->mkL H Q (jc rs ys p l)->yc vs H Q E
theorem GJ(F:Fun K "lowered" "lowered" rV f fd)(T:Txt K mg):FnOk P w K mg base CX0 1 f fd ["row","second","place","lead"] yc:=by
 refine F.ok sc_lowered (λvs H Q E h=>?_) (λcdv A outer s H vs Q E hr h=>?_)
 ·obtain⟨a,b,rs,ys,p,l,rfl,_⟩:=h;rfl
 ·obtain⟨a,b,rs,ys,p,l,rfl,hA,hB,hl,hy,bl,by',k⟩:=h;have hyl:=Pq.mpr hy
  refine⟨_,(ai (ar (i:=4) sc_lowered.nd rfl (Or.inl rfl) (oM (oo (K:=K) rfl) (pv 0) oJ (oI (b7 bV af))))
   (ai (db PassesOwn.never rfl (tY rfl T.enumerate_ (aa (oM (oo (K:=K) rfl) (pv 1) oJ (oI (b7 bV af))) ac)) (gj rfl (ca (aR (i:=5) sc_lowered.nd rfl (Or.inl rfl)) (ca (aR (i:=6) sc_lowered.nd rfl (Or.inl rfl)) gf)))
     (ao (fm (ak cz (aE (ck (K:=K) rfl) (pv 4) (ak b9 (pv 2) (pv 5)) (λ_ _=>rfl)) (ak aK (pv 3) (pv 6))) (md (pv 4) (ak b9 (pv 2) (pv 5)) lJ))))
   (ao (aw (pv 4))))),?_⟩
  refine aC ⟨_,rfl,_,rfl,_,rfl,a,_,rfl,SqL.of hA,λkp hkp=>?_⟩;rw[vE,BF];have s1:=Same.upd_new (o:=.lst ((rs.take (rs.length-1)).map V.int)) hkp;have nkb:b≠kp:=bC hB hkp;refine⟨_,rfl,_,rfl,_,rfl,b,_,rfl,SqL.of (s1 _ _ hB),λp2 hp2=>?_⟩;rw[vE,BF];have n2:kp≠p2:=bC au hp2;generalize hH2:upd (upd H kp (.lst ((rs.take (rs.length-1)).map V.int))) p2 (.lst ((ys.take (ys.length-1)).map V.int))=H2;have hk2:H2 kp=some (.lst ((rs.take (rs.length-1)).map V.int)):=by rw[<- hH2,upd_ne n2,au]
  have hq2:H2 p2=some (.lst ((ys.take (ys.length-1)).map V.int)):=by rw[<- hH2,au]
  have s2:Same H H2:=by rw[<- hH2];exact s1.then_new hp2
  have lt:(rs.take (rs.length-1)).length=rs.length-1:=by rw[Qx];omega
  have lty:(ys.take (ys.length-1)).length=ys.length-1:=by rw[Qx];omega
  refine⟨p2,rfl,⟨_,SqL.of hq2⟩,u3 (K:=K) (a:=p2) (xs:=(ys.take (ys.length-1)).map V.int) (λi σ' H'=>∃(acc:List Int) (z5 z6:Option V),σ'=[some (.ref a),some (.ref b),some (.int p),some (.int l),some (.ref kp),z5,z6]/\SameB kp H2 H'/\H' kp=some (.lst (acc.map V.int))/\acc.length=rs.length-1/\∀n,n<acc.length->cf acc n=cf rs n-(if p<=n/\n-p<i then l*cf ys (n-p)else 0))
   ⟨_,none,none,rfl,SameB.refl _ _,hk2,lt,λn hn=>by rw[BW,if_pos (by omega),if_neg (by omega)];omega⟩ ?_ ?_ ?_⟩
  ·rintro i σ' H' _ ⟨acc,z5,z6,rfl,sb,_⟩;exact SqL.of (sb _ _ (Ne.symm n2) hq2)
  ·rintro i x σ' H' q hi ⟨acc,z5,z6,rfl,sb,hpa,hal,hac⟩ hq
   have hil:i<ys.length-1:=by apply Classical.byContradiction;intro hn;rw[List.getElem?_eq_none_iff.mpr (by rw[Pk,lty];omega)]at hi;cases hi
   rw[List.getElem?_map,jn (by rw[lty];exact hil),BW,if_pos hil]at hi;obtain rfl:=Option.some.inj hi;refine⟨q,_,rfl,SqT.of au,rfl,_,_,rfl,_,_,rfl,rfl,?_⟩;have nqp:kp≠q:=bC hpa hq;have hpa':upd H' q (.tup [.int i,.int (cf ys i)]) kp=some (.lst (acc.map V.int)):=by rw[upd_ne nqp];exact hpa
   have hpi:p+i<acc.length:=by omega
   have epi:((p:Nat):Int)+((i:Nat):Int)=((p+i:Nat):Int):=by omega
   refine⟨_,rfl,_,rfl,_,rfl,_,_,rfl,rfl,kp,_,_,_,rfl,rfl,SqL.of hpa',kP epi hpi,_,rfl,_,rfl,_,_,rfl,rfl,⟨bl,by'.cf i⟩,_,_,rfl,rfl,_,rfl,_,rfl,_,rfl,_,_,rfl,rfl,kp,_,_,p+i,rfl,rfl,hpa',mP epi (by rw[Pk];exact hpi),?_⟩;refine⟨acc.set (p+i) (cf acc (p+i)-l*cf ys i),_,_,rfl,(sb.then_new hq).then_upd,by rw[au,oX],by rw[Rb];exact hal,λn hn=>?_⟩;rw[Rb]at hn;rw[mX hpi];by_cases e:n=p+i
   ·subst e;rw[if_pos rfl,hac _ hpi,if_neg (by omega),if_pos (by omega),Nat.add_sub_cancel_left];omega
   ·rw[if_neg e,hac n hn];by_cases h1:p<=n/\n-p<i
    ·rw[if_pos h1,if_pos (by omega)]
    ·rw[if_neg h1,if_neg (by omega)]
  ·rintro σ' H' ⟨acc,z5,z6,rfl,sb,hpa,hal,hac⟩;rw[Pk,lty]at hac;refine⟨_,rfl,k kp H' (λb' o e=>sb b' o (bC e hkp) (s2 b' o e)) hkp ?_⟩;rw[hpa]
   have e:acc=jc rs ys p l:=by
    apply eu
    ·rw[hal,Aq]
    ·intro n hn;have hn':n<rs.length-1:=by omega
     rw[hac n hn,pY,if_pos hn'];by_cases h1:p<=n
     ·have h2:p<=n/\n-p<ys.length-1:=⟨h1,by omega⟩;rw[if_pos h1,if_pos h2]
     ·have h2:¬(p<=n/\n-p<ys.length-1):=λz=>h1 z.1
      rw[if_neg h1,if_neg h2]
   rw[e]
theorem AllB.of_cf{k:Nat}{l:List Int}(h:∀n,Bits k (RM.cf l n)):AllB k l:=λx hx=>by
 obtain⟨i,hi,rfl⟩:=List.mem_iff_getElem.mp hx;have:=h i
 rwa [eJ hi]at this
theorem v9{k:Nat}{x:Int}(h:Bits k x):Bits k ((x.natAbs:Nat):Int):=h.of_le (by rw[P9];exact Pn _)
theorem sg_bits{x:Int}:Bits 1 (sg x):=by show(sg x).natAbs<2^1;unfold sg;split<;>(try split)<;>decide
theorem lH{k:Nat}{x y:Int}(h:Bits k y):Bits k (sg x*y):=h.of_le (by
 rw[PL];have h2:(sg x).natAbs<=1:=by unfold sg;split<;>(try split)<;>decide
 calc (sg x).natAbs*y.natAbs<=1*y.natAbs:=Qg _ h2
  _=y.natAbs:=Nat.one_mul _)
theorem BB{xs ys:List Int}{b:Nat}(hx:AllB b xs)(hy:AllB b ys):∀i,AllB (b+i*(b+1)) (aY xs ys i).1/\AllB (b+i*(b+1)) (aY xs ys i).2
 |0=>by rw[Nat.zero_mul];exact⟨AllB.zeros,hx⟩
 |i+1=>by
  obtain⟨h1,h2⟩:=BB hx hy i;have e:b+(i+1)*(b+1)=b+i*(b+1)+b+1:=by rw[Nat.succ_mul];omega
  have hs:Bits b (((RM.cf ys (ys.length-1)).natAbs:Nat):Int):=v9 (hy.cf _);rw[e];show AllB _ (df ys (aY xs ys i) _).1/\AllB _ (df ys (aY xs ys i) _).2;unfold df;dsimp only
  constructor
  ·intro x hx;rcases List.mem_or_eq_of_mem_set hx with h |rfl
   ·obtain⟨y,hy',rfl⟩:=PF.mp h;have:=hs.mul (h1 y hy');exact this.mono (by omega)
   ·exact(lH (h2.cf _)).mono (by omega)
  ·refine AllB.of_cf λn=>?_
   rw[pY];by_cases hn:n<(scL (((RM.cf ys (ys.length-1)).natAbs:Nat):Int) (aY xs ys i).2).length-1
   ·rw[if_pos hn,bI]
    have m1:Bits (b+i*(b+1)+b) ((((RM.cf ys (ys.length-1)).natAbs:Nat):Int)*RM.cf (aY xs ys i).2 n):=by have:=hs.mul (h2.cf n);rwa [Nat.add_comm]at this
    refine m1.sub ?_;by_cases hp:(xs.length+1-ys.length-1-i)<=n
    ·rw[if_pos hp];exact(lH (h2.cf _)).mul (hy.cf _)
    ·rw[if_neg hp];exact Bits.zero
   ·rw[if_neg hn];exact Bits.zero
theorem jx{k:Nat}{b:Int}(h:Bits k b):∀n,Bits (k*n+1) (b^n)
 |0=>by show((b^0:Int)).natAbs<2^(k*0+1);rw[QA,Nat.mul_zero];decide
 |n+1=>by rw[P8];have:=(jx h n).mul h;exact this.mono (by rw[Nat.mul_succ];omega)
def HK(H:Hp)(Q:VK)(xs ys:List Int):Prop:=∀(t q r:Addr) (H':Hp),Same H H'->H t=none->H q=none->H r=none->q≠r->q≠t->r≠t->H' t=some (.tup [.int (cE xs ys),.ref q,.ref r])->H' q=some (.lst ((cw xs ys).map V.int))->H' r=some (.lst ((aQ xs ys).map V.int))->Q (.ref t) H'
inductive ln(vs:List V)(H:Hp)(Q:VK)(E:XK):Prop
 |mk (a b:Addr) (xs ys:List Int) (n:Nat):vs=[.ref a,.ref b]->H a=some (.lst (xs.map V.int))->H b=some (.lst (ys.map V.int))->ys≠[]->AllB n xs->AllB n ys->(xs.length+2)*(n+1)<=1000000->ys.length<=1000000->HK H Q xs ys->ln vs H Q E
theorem v3{l:List Int}(h:l≠[]):atI (l.map V.int) (-1)=some (.int (cf l (l.length-1))):=by
 obtain⟨r,x,rfl⟩:=(cY l).resolve_left h;have e:(r++[x]).length-1=r.length:=by simp
 rw[e,kJ,Qc];exact v5 _ _
theorem GR(F:Fun K "divided" "divided" sh f fd)(T:Txt K mg)(jH:Cal P w K mg base 1 "whole_sign" ["value"] li vp vb)(g9:Cal P w K mg base 1 "degree" ["row"] jW pJ pI)(Nc:Cal P w K mg base 1 "scaled" ["row","factor"] xV OJ N2)(Nm:Cal P w K mg base 1 "lowered" ["row","second","place","lead"] yc OS Ob)(jI:Cal P w K mg base 1 "poly" ["row"] (lf K) vq vc):FnOk P w K mg base CX0 2 f fd ["first","second"] ln:=by
 obtain⟨jD,i8,je,jy⟩:=jH;obtain⟨eN,d6,ee,eK⟩:=g9;obtain⟨Ct,Af,Aw,Ce⟩:=Nc;obtain⟨MI,Ir,Jl,LU⟩:=Nm;obtain⟨jE,i9,jf,jz⟩:=jI;refine F.ok sc_divided (λvs H Q E h=>?_) (λcdv A outer s H vs Q E hr h=>?_)
 ·obtain⟨a,b,xs,ys,n,rfl,_⟩:=h;rfl
 ·obtain⟨a,b,xs,ys,nb,rfl,hA,hB,hy,bx,by',hsz,hyn,k⟩:=h;have big:=sizeLine_eq;have hu:=hr.units;have hyl:=Pq.mpr hy
  have hxl:xs.length<=1000000:=by have:=QP (xs.length+2) (show 1<=nb+1 by omega);omega
  have bsz:∀i,i<=xs.length->nb+i*(nb+1)<=1000000:=λi hi=>by have h1:=Qg (nb+1) hi;rw[Nat.add_mul]at hsz;omega
  have hnb:nb<=1000000:=by have:=bsz 0 (Ps _);omega
  refine⟨_,(ai (aS (aJ (ki (K:=K) rfl hu) (pv 1) (bj ac) (aI _))
   (ao iV)
   aV)
   (ai (ar (i:=2) sc_divided.nd rfl (Or.inl rfl) (ci gU (by rfl) T.abs_ PyProof.Rows.boot_abs (aa (aE (ck (K:=K) rfl) (pv 1) (b7 bV af) (λ_ _=>rfl)) ac)))
   (ai (ar (i:=3) sc_divided.nd rfl (Or.inl rfl) (al jD (hr.mono) rfl i8 je jy .nil ah (aa (aE (ck (K:=K) rfl) (pv 1) (b7 bV af) (λ_ _=>rfl)) ac)))
   (ai (ar (i:=4) sc_divided.nd rfl (Or.inl rfl) (ak b9 (ak cz (al eN (hr.mono) rfl d6 ee eK .nil ah (aa (pv 0) ac)) (al eN (hr.mono) rfl d6 ee eK .nil ah (aa (pv 1) ac))) af))
   (ai (ar (i:=5) sc_divided.nd rfl (Or.inl rfl) af)
   (ai (ar (i:=6) sc_divided.nd rfl (Or.inl rfl) (ak uf (bj (aa af ac)) (pv 4)))
   (ai (ar (i:=7) sc_divided.nd rfl (Or.inl rfl) (i6 (vL (K:=K) rfl) (by rfl) T.list_ PyProof.Rows.boot_list (aa (pv 0) ac)))
   (ai (db PassesOwn.never rfl (zk rfl T.range_ (aa (ak cz (pv 4) af) (aa (b7 bV af) (aa (b7 bV af) ac)))) (aR (i:=8) sc_divided.nd rfl (Or.inl rfl))
     (ai (ar (i:=9) sc_divided.nd rfl (Or.inl rfl) (ak aK (pv 3) (aE (ck (K:=K) rfl) (pv 7) (b7 bV af) (λ_ _=>rfl))))
       (ai (ar (i:=5) sc_divided.nd rfl (Or.inl rfl) (ak aK (pv 5) (pv 2)))
       (ai (ar (i:=6) sc_divided.nd rfl (Or.inl rfl) (al Ct (hr.mono) rfl Af Aw Ce .nil ah (aa (pv 6) (aa (pv 2) ac))))
       (ai (fm (pv 9) (md (pv 6) (pv 8) lJ))
       (ao (ar (i:=7) sc_divided.nd rfl (Or.inl rfl) (al MI (hr.mono) rfl Ir Jl LU .nil ah (aa (al Ct (hr.mono) rfl Af Aw Ce .nil ah (aa (pv 7) (aa (pv 2) ac))) (aa (pv 1) (aa (pv 8) (aa (pv 9) ac))))))))))))
   (ao (aw (cU (aa (pv 5) (aa (pv 6) (aa (al jE (hr.mono) rfl i9 jf jz .nil ah (aa (pv 7) ac)) ac)))))))))))))),?_⟩
  refine bZ ⟨_,rfl,Ps _,λp1 hp1=>?_⟩;have s1:Same H (upd H p1 (.lst [])):=Same.upd_new hp1;refine⟨b,p1,ys,[],rfl,rfl,SqL.of (s1 _ _ hB),SqL.of au,_,rfl,aM (λh0=>absurd h0 hy) (λ_=>?_)⟩;generalize upd H p1 (.lst [])=H1 at s1 ⊢
  refine aC ⟨_,rfl,_,rfl,b,_,_,_,rfl,rfl,SqL.of (s1 _ _ hB),v3 hy,_,rfl,?_⟩;rw[np];refine aC ⟨_,rfl,_,rfl,b,_,_,_,rfl,rfl,SqL.of (s1 _ _ hB),v3 hy,_,rfl,?_⟩;refine aC ⟨_,rfl,a,_,rfl,s1 _ _ hA,_,rfl,b,_,rfl,s1 _ _ hB,_,_,rfl,rfl,_,_,rfl,rfl,?_⟩;dsimp only
  rw[Pk,Pk];have est:((xs.length:Int)-1-((ys.length:Int)-1)+1).toNat=aT xs ys:=by unfold aT;omega
  generalize hst:((xs.length:Int)-1-((ys.length:Int)-1)+1)=st at est ⊢
  refine aC ?_;refine aC ⟨by show 1<=sizeLine;decide,λp2 hp2=>⟨_,rfl,p2,_,_,rfl,rfl,au,by omega,by omega,by show 1*_<=_;omega,λq hq=>?_⟩⟩;rw[est,tL];have s2:=s1.then_new (o:=.lst [V.int 0]) hp2;have s3:=s2.then_new (o:=.lst ((List.replicate (aT xs ys) (0:Int)).map V.int)) hq;have fq:H q=none:=s2.free hq;refine aC ⟨_,rfl,a,_,rfl,.inl (SqL.of (s3 _ _ hA)),λr hr'=>?_⟩;have hq3:upd (upd H1 p2 (.lst [V.int 0])) q (.lst ((List.replicate (aT xs ys) (0:Int)).map V.int)) q=some (.lst ((List.replicate (aT xs ys) (0:Int)).map V.int)):=au;have s4:=s3.then_new (o:=.lst (xs.map V.int)) hr';have fr:H r=none:=s3.free hr';have nqr:q≠r:=bC hq3 hr';generalize hH4:upd (upd (upd H1 p2 (.lst [V.int 0])) q (.lst ((List.replicate (aT xs ys) (0:Int)).map V.int))) r (.lst (xs.map V.int))=H4 at s4 ⊢
  have hq4:H4 q=some (.lst ((List.replicate (aT xs ys) (0:Int)).map V.int)):=by rw[<- hH4,upd_ne nqr];exact hq3
  have hr4:H4 r=some (.lst (xs.map V.int)):=by rw[<- hH4,au]
  have hs:Bits nb (((cf ys (ys.length-1)).natAbs:Nat):Int):=v9 (by'.cf _);refine⟨_,rfl,_,_,rfl,rfl,_,rfl,_,rfl,st-1,-1,rfl,by omega,?_⟩;have en:(st-1 - -1).toNat=aT xs ys:=by rw[<- est];congr 1;omega
  rw[en]
  refine A6 (λi σ' H'=>∃(q r:Addr) (z8 z9:Option V),σ'=[some (.ref a),some (.ref b),some (.int ((cf ys (ys.length-1)).natAbs:Nat)),some (.int (sg (cf ys (ys.length-1)))),some (.int st),some (.int (((cf ys (ys.length-1)).natAbs:Int)^i)),some (.ref q),some (.ref r),z8,z9]/\Same H H'/\H q=none/\H r=none/\q≠r/\H' q=some (.lst ((aY xs ys i).1.map V.int))/\H' r=some (.lst ((aY xs ys i).2.map V.int)))
   ⟨q,r,none,none,rfl,s4,fq,fr,nqr,hq4,hr4⟩ ?_ ?_
  ·rintro i σ' H' hi ⟨q,r,z8,z9,rfl,sm,fq,fr,nqr,hq',hr'⟩;obtain⟨lq,lr,low,_⟩:=jr (a:=xs) hy i (Q9 hi);obtain⟨bq,br⟩:=BB bx by' i;have hix:i<xs.length:=by unfold aT at hi;omega
   have bi:=bsz i (Q9 hix);have rne:(aY xs ys i).2≠[]:=λz=>by rw[z]at lr;simp at lr;omega
   have ep:st-1+(i:Int) * -1=((xs.length+1-ys.length-1-i:Nat):Int):=by unfold aT at hi est;omega
   refine aC ⟨_,rfl,_,rfl,_,rfl,r,_,_,_,rfl,rfl,SqL.of hr',v3 rne,_,_,rfl,rfl,⟨sg_bits.mono,(br.cf _).mono bi⟩,?_⟩
   have bpow:Bits 1000000 (((cf ys (ys.length-1)).natAbs:Int)^i):=(jx hs i).mono (by
    have:=Qg i (show nb<=nb+1 by omega);rw[QK (nb+1) i]at this;have h2:=bsz (i+1) hix;rw[Nat.succ_mul]at h2
    omega)
   refine aC ⟨_,rfl,_,rfl,_,_,rfl,rfl,⟨bpow,hs.mono hnb⟩,?_⟩;dsimp only
   rw[<- P8];refine aC ⟨_,rfl,_,rfl,q,_,_,rfl,hq',by rw[lq];omega,hs.mono hnb,bq.mono bi,λq1 H2 sm2 hq1 eq1=>?_⟩;have fq1:H q1=none:=sm.free hq1;have sm2':=sm.trans sm2;have hpl:xs.length+1-ys.length-1-i<(scL ((cf ys (ys.length-1)).natAbs:Int) (aY xs ys i).1).length:=by rw[cv,lq];unfold aT at hi;omega
   refine⟨_,rfl,_,rfl,_,rfl,q1,_,_,_,rfl,rfl,eq1,mP ep (by rw[Pk];exact hpl),?_⟩;rw[oX];have sm3:Same H (upd H2 q1 (.lst (((scL ((cf ys (ys.length-1)).natAbs:Int) (aY xs ys i).1).set (xs.length+1-ys.length-1-i) (sg (cf ys (ys.length-1))*cf (aY xs ys i).2 ((aY xs ys i).2.length-1))).map V.int))):=gG sm2' fq1;have nq1r:q1≠r:=λz=>by rw[z,hr']at hq1;cases hq1
   have hr3:upd H2 q1 (.lst (((scL ((cf ys (ys.length-1)).natAbs:Int) (aY xs ys i).1).set (xs.length+1-ys.length-1-i) (sg (cf ys (ys.length-1))*cf (aY xs ys i).2 ((aY xs ys i).2.length-1))).map V.int)) r=some (.lst ((aY xs ys i).2.map V.int)):=by rw[upd_ne (Ne.symm nq1r)];exact sm2 _ _ hr'
   have hq3:upd H2 q1 (.lst (((scL ((cf ys (ys.length-1)).natAbs:Int) (aY xs ys i).1).set (xs.length+1-ys.length-1-i) (sg (cf ys (ys.length-1))*cf (aY xs ys i).2 ((aY xs ys i).2.length-1))).map V.int)) q1=some (.lst (((scL ((cf ys (ys.length-1)).natAbs:Int) (aY xs ys i).1).set (xs.length+1-ys.length-1-i) (sg (cf ys (ys.length-1))*cf (aY xs ys i).2 ((aY xs ys i).2.length-1))).map V.int)):=au;generalize upd H2 q1 (.lst (((scL ((cf ys (ys.length-1)).natAbs:Int) (aY xs ys i).1).set (xs.length+1-ys.length-1-i) (sg (cf ys (ys.length-1))*cf (aY xs ys i).2 ((aY xs ys i).2.length-1))).map V.int))=H3 at sm3 hr3 hq3 ⊢
   refine⟨_,rfl,_,rfl,r,_,_,rfl,hr3,by rw[lr];omega,hs.mono hnb,br.mono bi,λr1 H5 sm5 hr1 er1=>?_⟩;have sm35:=sm3.trans sm5;refine⟨_,rfl,_,rfl,_,rfl,r1,b,_,_,(xs.length+1-ys.length-1-i),sg (cf ys (ys.length-1))*cf (aY xs ys i).2 ((aY xs ys i).2.length-1),?_,er1,sm35 _ _ hB,?_,hy,(lH (br.cf _)).mono bi,by'.mono hnb,λr2 H6 sm6 hr2 er2=>?_⟩
   ·rw[<- ep];rfl
   ·rw[cv,lr];unfold aT at hi;omega
   ·have nqr2:q1≠r2:=λz=>by rw[<- z,sm5 _ _ hq3]at hr2;cases hr2
    exact⟨q1,r2,_,_,rfl,sm35.trans sm6,fq1,sm35.free hr2,nqr2,sm6 _ _ (sm5 _ _ hq3),er2⟩
  ·rintro σ' H' ⟨q,r,z8,z9,rfl,sm,fq,fr,nqr,hq',hr'⟩;refine⟨_,rfl,_,rfl,_,rfl,r,_,rfl,SqL.of hr',λr1 H2 sm2 hr1 er1=>⟨by show 3<=sizeLine;decide,λt ht=>?_⟩⟩;have nqr1:q≠r1:=λz=>by rw[<- z,hq']at hr1;cases hr1
   have ntq:q≠t:=bC (sm2 _ _ hq') ht;have ntr:r1≠t:=bC er1 ht;refine k t q r1 _ ((sm.trans sm2).then_new ht) ((sm.trans sm2).free ht) fq (sm.free hr1) nqr1 ntq ntr au ?_ ?_
   ·rw[upd_ne ntq];exact sm2 _ _ hq'
   ·rw[upd_ne ntr];exact er1
def Vp(C:Addr)(H:Hp)(vs:List V)(a r:Addr)(ns:List Int)(t b:Int):Prop:=vs=[.ref a,.ref r]/\H a=some (.lst (ns.map V.int))/\RA C H r t b/\ns.length<=20/\AllB 95000 ns/\Bits 3000 t/\Bits 3000 b
def VpI(H:Hp)(vs:List V)(a:Addr)(ns:List Int)(t b:Int):Prop:=vs=[.ref a,.int t,.int b]/\H a=some (.lst (ns.map V.int))/\ns.length<=20/\AllB 95000 ns/\Bits 3000 t/\Bits 3000 b
inductive xM(vs:List V)(H:Hp)(Q:VK)(E:XK):Prop
 |mk (a:Addr) (ns:List Int) (t b:Int):VpI H vs a ns t b->(∀(p:Addr) (H':Hp),Same H H'->H p=none->H' p=some (.tup [.int (hv t b ns),.int (b^ns.length)])->Q (.ref p) H')->xM vs H Q E
theorem AS{t b:Int}(bt:Bits 3000 t)(bb:Bits 3000 b):∀{l:List Int},AllB 95000 l->Bits (95000+1+(3000+1)*l.length) (hv t b l)
 | [],_=>by refine Bits.mono (j:=1) ?_ (by omega);show(0:Int).natAbs<2^1;decide
 |v::l,h=>by
  rw[dR];have h1:=h v (PH ..);have h2:=AS bt bb (l:=l) λx hx=>h x (Pz _ hx)
  have e1:=(h1.mul (jx bb (l.length+1))).mono (k:=95000+1+(3000+1)*l.length+3000) (by omega);have e2:=(bt.mul h2).mono (k:=95000+1+(3000+1)*l.length+3000) (by omega);exact(e1.add e2).mono (by rw[Qi];omega)
theorem Gd(F:Fun K "value_parts" "value_parts" rg f fd)(T:Txt K mg):FnOk P w K mg base CX0 1 f fd ["row","top","bottom"] xM:=by
 refine F.ok sc_value_parts (λvs H Q E h=>?_) (λcdv A outer s H vs Q E hr h=>?_)
 ·obtain⟨a,ns,t,b,⟨rfl,_⟩,_⟩:=h;rfl
 ·obtain⟨a,ns,t,b,⟨rfl,hA,hn,hb,bt,bb⟩,k⟩:=h
  refine⟨_,(ai (ar (i:=3) sc_value_parts.nd rfl (Or.inl rfl) af)
   (ai (ar (i:=4) sc_value_parts.nd rfl (Or.inl rfl) af)
   (ai (db PassesOwn.never rfl (tX rfl T.reversed_ (aa (pv 0) ac)) (aR (i:=5) sc_value_parts.nd rfl (Or.inl rfl))
     (ai (ar (i:=4) sc_value_parts.nd rfl (Or.inl rfl) (ak aK (pv 4) (pv 2)))
       (ao (ar (i:=3) sc_value_parts.nd rfl (Or.inl rfl) (ak b9 (ak aK (pv 3) (pv 1)) (ak aK (pv 5) (pv 4)))))))
   (ao (aw (cU (aa (pv 3) (aa (pv 4) ac)))))))),?_⟩
  have hl:(ns.map V.int).length=ns.length:=Pk _;refine aC ?_;refine aC ?_;refine⟨_,rfl,a,_,rfl,SqL.of hA,uZ (K:=K) (a:=a) (xs:=ns.map V.int) (λi σ' H'=>∃z:Option V,σ'=[some (.ref a),some (.int t),some (.int b),some (.int (hv t b (ns.drop (ns.length-i)))),some (.int (b^i)),z]/\H=H') ⟨none,?_,rfl⟩ ?_ ?_ ?_⟩
  ·rw[QO,List.drop_length,QA];rfl
  ·rintro i σ' H' _ ⟨z,rfl,rfl⟩;exact SqL.of hA
  ·rintro i x σ' H' hi hx ⟨z,rfl,rfl⟩;rw[hl]at hi hx;obtain⟨c,ec,rfl,hc,_⟩:=iw hx;have hi':i<ns.length:=hi;have e1:ns.length-(i+1)=ns.length-1-i:=by omega
   have hd:=KY t b (l:=ns) (n:=ns.length-1-i) (by omega);have e2:ns.length-1-i+1=ns.length-i:=by omega
   have e3:ns.length-(ns.length-1-i)=i+1:=by omega
   rw[e2,e3,BX ec]at hd;have bs:=AS bt bb (l:=ns.drop (ns.length-i)) λx hx=>hb x (RU hx)
   rw[QX]at bs;have bp:=jx bb i;have bq:=jx bb (i+1);refine⟨_,rfl,_,rfl,_,_,rfl,rfl,⟨bp.mono (by omega),bb.mono⟩,?_⟩;refine⟨_,rfl,_,rfl,_,_,rfl,rfl,⟨bs.mono (by omega),bt.mono⟩,_,rfl,_,rfl,_,_,rfl,rfl,⟨(hb c hc).mono,?_⟩,_,_,rfl,rfl,?_⟩
   ·show Bits 1000000 (b^i*b);rw[<- P8];exact bq.mono (by omega)
   refine⟨some (.int c),?_,rfl⟩;rw[e1,hd,P8 b i,Int.add_comm,PQ t];rfl
  ·rintro σ' H' ⟨z,rfl,rfl⟩;rw[hl,Q2,Rk];exact⟨_,rfl,_,rfl,by show 2<=sizeLine;decide,λp hp=>k p _ (Same.upd_new hp) hp au⟩
inductive ie(C:Addr)(vs:List V)(H:Hp)(Q:VK)(E:XK):Prop
 |mk (a r:Addr) (ns:List Int) (t b:Int):Vp C H vs a r ns t b->(∀H',Same H H'->Q (.int (sg (hv t b ns))) H')->ie C vs H Q E
theorem Gn(F:Fun K "sign_at" "sign_at" rB f fd)(T:Txt K mg)(R:RCI K mg C)(M5:Cal P w K mg base 1 "value_parts" ["row","top","bottom"] xM OC NT)(jH:Cal P w K mg base 1 "whole_sign" ["value"] li vp vb):FnOk P w K mg base CX0 2 f fd ["row","ratio"] (ie C):=by
 obtain⟨Ms,HZ,IY,LF⟩:=M5;obtain⟨jD,i8,je,jy⟩:=jH;refine F.ok Ea (λvs H Q E h=>?_) (λcdv A outer s H vs Q E hr h=>?_)
 ·obtain⟨a,r,ns,t,b,⟨rfl,_⟩,_⟩:=h;rfl
 ·obtain⟨a,r,ns,t,b,hV,k⟩:=h;obtain⟨rfl,hA,⟨dx,hR⟩,hn,hbs,bt,bb⟩:=hV;refine⟨_,(ao (aw (al jD (hr.mono) rfl i8 je jy .nil ah (aa (aE (aP (K:=K) rfl) (al Ms (hr.mono) rfl HZ IY LF .nil ah (aa (pv 0) (aa (aO (K:=K) rfl (pv 1) rfl) (aa (aO (K:=K) rfl (pv 1) rfl) ac)))) af (λ_ _=>rfl)) ac)))),?_⟩;refine⟨_,rfl,_,rfl,r,C,dx,_,_,rfl,hR,R.cl,R.nT,c8 _ _,_,rfl,r,C,dx,_,_,rfl,hR,R.cl,R.nB,cq _ _,a,ns,t,b,⟨rfl,hA,hn,hbs,bt,bb⟩,λp H1 s1 hp e1=>?_⟩;exact⟨p,_,_,_,rfl,rfl,SqT.of e1,rfl,_,rfl,k H1 s1⟩
theorem b60:Bits 200 (10^60):=by show((10:Int)^60).natAbs<2^200;decide +kernel
theorem Cm{xs:List V}{n:Int}(hn:n=xs.length)(h:0<n)(c:Int):∃v,v∈xs/\atI xs (c%n)=some v:=by
 have h1:=Int.emod_nonneg c (Qd h);have h2:=RW c h;obtain⟨j,hj⟩:=Rn h1;have hl:j<xs.length:=by omega
 refine⟨xs[j],Q1 hl,?_⟩;rw[hj];exact kQ (by simp[hl])
def Fit(one other:List Int):Prop:=Tr one/\Tr other/\∃n,AllB n one/\AllB n other/\(one.length+2)*(n+1)<=1000000/\other.length<=1000000
noncomputable def Run:Nat->List Int->List Int->Prop
 |0,one,_=>one=[]
 |n+1,one,other=>one=[]\/(Fit one other/\Run n other (nxt one other))
def zY(H:Hp)(Q:VK)(xss:List (List Int)):Prop:=∀(l:Addr) (ps:List Addr) (H':Hp),Same H H'->H l=none->(∀p∈ps,H p=none/\p≠l)->H' l=some (.lst (ps.map V.ref))->RwH H' ps xss->Q (.ref l) H'
theorem RwH.upd_ne{H:Hp}{ps:List Addr}{xss:List (List Int)}{a:Addr}{o:HO}(h:RwH H ps xss)(hn:∀p∈ps,p≠a):RwH (upd H a o) ps xss:=⟨h.1,λi p xs e1 e2=>by rw[L2.upd_ne (hn p (List.mem_of_getElem? e1))];exact h.2 i p xs e1 e2⟩
inductive qH(vs:List V)(H:Hp)(Q:VK)(E:XK):Prop
 |mk (a b:Addr) (xs ys:List Int) (n:Nat):vs=[.ref a,.ref b]->H a=some (.lst (xs.map V.int))->H b=some (.lst (ys.map V.int))->Tr xs->Tr ys->xs.length<=1000->ys.length<=1000->n<=1000->Run n (ap xs) (ap ys)->zY H Q (aU n (ap xs) (ap ys))->qH vs H Q E
theorem Gv(F:Fun K "row_from" "row_from" rH f fd)(T:Txt K mg)(wz:Cal P w K mg base 33 "shrunk" ["row"] qE Kx Kc)(jK:Cal P w K mg base 2 "divided" ["first","second"] ln vv vf)(M6:Cal P w K mg base 2 "taken" ["first","second"] (oj K cN) OD NV):FnOk P w K mg base CX0 34 f fd ["first","second"] qH:=by
 obtain⟨nr,mB,mK,nc⟩:=wz;obtain⟨jF,ja,jg,jA⟩:=jK;obtain⟨Mt,Ia,IZ,LG⟩:=M6;refine F.ok sc_row_from (λvs H Q E h=>?_) (λcdv A outer s H vs Q E hr h=>?_)
 ·obtain⟨a,b,xs,ys,n,rfl,_⟩:=h;rfl
 ·obtain⟨a,b,xs,ys,n,rfl,hA,hB,xtr,ytr,hx,hy,hn,hrun,k⟩:=h;have big:=sizeLine_eq;have hu:=hr.units
  refine⟨_,(ai (ar (i:=2) sc_row_from.nd rfl (Or.inl rfl) (bj ac))
   (ai (ar (i:=3) sc_row_from.nd rfl (Or.inl rfl) (al nr (hr.mono) rfl mB mK nc .nil ah (aa (pv 0) ac)))
   (ai (ar (i:=4) sc_row_from.nd rfl (Or.inl rfl) (al nr (hr.mono) rfl mB mK nc .nil ah (aa (pv 1) ac)))
   (ai (gF PassesOwn.never (aJ (mf (K:=K) rfl hu) (pv 3) (bj ac) (aI _))
     (ai (ii (me PySem.F.plainAttrs_list PySem.F.slot_list_append PySem.F.type_list_append mr (pv 2) (aa (pv 3) ac)))
       (ai (ar (i:=5) sc_row_from.nd rfl (Or.inl rfl) (tZ (aJ (ki (K:=K) rfl hu) (pv 4) (bj ac) (aI _)) (bj ac) (aE (aP (K:=K) rfl) (al jF (hr.mono) rfl ja jg jA .nil ah (aa (pv 3) (aa (pv 4) ac))) af (λ_ _=>rfl))))
       (ai (ar (i:=3) sc_row_from.nd rfl (Or.inl rfl) (pv 4))
       (ao (ar (i:=4) sc_row_from.nd rfl (Or.inl rfl) (al nr (hr.mono) rfl mB mK nc .nil ah (aa (al Mt (hr.mono) rfl Ia IZ LG .nil ah (aa (bj ac) (aa (pv 5) ac))) ac))))))))
   (ao (aw (pv 2))))))),?_⟩
  refine aC ⟨Ps _,λl hl=>?_⟩;have s1:=Same.upd_new (o:=.lst []) hl;have hl1:upd H l (.lst []) l=some (.lst (([]:List Addr).map V.ref)):=au;generalize upd H l (.lst [])=H1 at s1 hl1 ⊢
  refine aC ⟨_,rfl,a,xs,rfl,s1 _ _ hA,xtr,by omega,λp1 H2 sm2 hp1 e1=>?_⟩;have s2:=s1.trans sm2;refine aC ⟨_,rfl,b,ys,rfl,s2 _ _ hB,ytr,by omega,λp2 H3 sm3 hp2 e2=>?_⟩;have s3:=s2.trans sm3;have n1l:p1≠l:=λz=>by rw[z,hl1]at hp1;cases hp1
  have n2l:p2≠l:=λz=>by rw[z,sm2 _ _ hl1]at hp2;cases hp2
  generalize ap xs=one' at hrun k e1
  generalize ap ys=other at hrun k e2
  refine⟨λm σ' H'=>∃(po pt:Addr) (one other':List Int) (ps:List Addr) (acc:List (List Int)) (z5:Option V),σ'=[some (.ref a),some (.ref b),some (.ref l),some (.ref po),some (.ref pt),z5]/\Same H H'/\H' l=some (.lst (ps.map V.ref))/\RwH H' ps acc/\(∀p∈ps,H p=none/\p≠l)/\H' po=some (.lst (one.map V.int))/\H' pt=some (.lst (other'.map V.int))/\H po=none/\H pt=none/\po≠l/\pt≠l/\Run m one other'/\acc++aU m one other'=aU n one' other/\ps.length+m<=1000,
   ⟨_,p1,p2,one',other,[],[],none,rfl,s3,sm3 _ _ (sm2 _ _ hl1),RwH.nil,(λp hp=>nomatch hp),sm3 _ _ e1,e2,s1.free hp1,s2.free hp2,n1l,n2l,hrun,rfl,by show 0+n<=1000;omega⟩,?_⟩
  rintro m σ' H4 ⟨po,pt,one,other',ps,acc,z5,rfl,s4,hl4,hR4,hf4,ho4,ht4,fo,ft,nol,ntl,hrun4,hacc,hlen⟩;refine⟨_,rfl,Ps _,λq hq=>?_⟩;have t5:=Same.upd_new (o:=.lst []) hq;refine⟨po,q,one,[],rfl,rfl,SqL.of (t5 _ _ ho4),SqL.of au,_,rfl,dJ (λhne=>?_) (λhe=>?_)⟩
  rotate_left
  ·have he':one=[]:=he;subst he';rw[gD,List.append_nil]at hacc;refine⟨_,rfl,k l ps _ (s4.trans t5) hl hf4 (t5 _ _ hl4) ?_⟩;rw[<- hacc];exact hR4.same t5
  have hne':one≠[]:=hne
  obtain⟨m1,rfl⟩:∃m1,m=m1+1:=by
   cases m with
   |zero=>exact absurd hrun4 hne'
   |succ m1=>exact⟨m1,rfl⟩
  obtain⟨⟨otr,ttr,nb,bo,bt,hsz,htl⟩,hrun5⟩:=(show one=[]\/(Fit one other'/\Run m1 other' (nxt one other'))from hrun4).resolve_left hne'
  have hacc5:(acc++[one])++aU m1 other' (nxt one other')=aU n one' other:=by rw[<- hacc];show _=acc++(if one=[]then[]else one::aU m1 other' (nxt one other'));rw[if_neg hne',List.append_assoc];rfl
  generalize hH5:upd H4 q (.lst [])=H5 at t5 ⊢
  refine⟨λσ'' H''=>∃m',m'<m1+1/\∃(po pt:Addr) (one other':List Int) (ps:List Addr) (acc:List (List Int)) (z5:Option V),σ''=[some (.ref a),some (.ref b),some (.ref l),some (.ref po),some (.ref pt),z5]/\Same H H''/\H'' l=some (.lst (ps.map V.ref))/\RwH H'' ps acc/\(∀p∈ps,H p=none/\p≠l)/\H'' po=some (.lst (one.map V.int))/\H'' pt=some (.lst (other'.map V.int))/\H po=none/\H pt=none/\po≠l/\pt≠l/\Run m' one other'/\acc++aU m' one other'=aU n one' other/\ps.length+m'<=1000,λ_ _ h=>h,?_⟩;have hl5:=t5 _ _ hl4;refine j7 ⟨_,rfl,.inl ⟨rfl,_,SqL.of hl5⟩,_,rfl,l,_,_,rfl,rfl,hl5,by rw[Pk];omega,?_⟩;rw[HS];have s6:Same H (upd H5 l (.lst ((ps++[po]).map V.ref))):=gG (s4.trans t5) hl;have hl6:upd H5 l (.lst ((ps++[po]).map V.ref)) l=some (.lst ((ps++[po]).map V.ref)):=au
  have hf6:∀p∈ps++[po],H p=none/\p≠l:=λp hp=>by
   rcases PV.mp hp with h |h
   ·exact hf4 p h
   ·rw[Pw.mp h];exact⟨fo,nol⟩
  have hR6:RwH (upd H5 l (.lst ((ps++[po]).map V.ref))) (ps++[po]) (acc++[one]):=((hR4.same t5).snoc (t5 _ _ ho4)).upd_ne λp hp=>(hf6 p hp).2
  have ho6:upd H5 l (.lst ((ps++[po]).map V.ref)) po=some (.lst (one.map V.int)):=by rw[L2.upd_ne nol];exact t5 _ _ ho4
  have ht6:upd H5 l (.lst ((ps++[po]).map V.ref)) pt=some (.lst (other'.map V.int)):=by rw[L2.upd_ne ntl];exact t5 _ _ ht4
  generalize upd H5 l (.lst ((ps++[po]).map V.ref))=H6 at s6 hl6 hR6 ho6 ht6 ⊢
  refine E4 (λσ' H'=>∃pr:Addr,σ'=[some (.ref a),some (.ref b),some (.ref l),some (.ref po),some (.ref pt),some (.ref pr)]/\Same H6 H'/\H' pr=some (.lst ((rst one other').map V.int))) ?_ ?_
  case refine_2 =>
   intro rest;refine cZ (E3 ⟨_,rfl,Ps _,λq2 hq2=>?_⟩);have t7:=Same.upd_new (o:=.lst []) hq2;refine⟨pt,q2,other',[],rfl,rfl,SqL.of (t7 _ _ ht6),SqL.of au,_,rfl,aM (λh0=>?_) (λh0=>?_)⟩
   ·have h0':other'=[]:=h0;refine⟨Ps _,λq3 hq3=>rest _ _ ⟨q3,rfl,t7.then_new hq3,?_⟩⟩;rw[au];unfold rst;rw[if_pos h0'];rfl
   ·have h0':other'≠[]:=h0;refine⟨_,rfl,_,rfl,po,pt,one,other',nb,rfl,t7 _ _ ho6,t7 _ _ ht6,h0',bo,bt,hsz,htl,λt q' r H8 sm8 _ _ _ _ _ _ et _ er=>?_⟩;refine⟨t,_,_,_,rfl,rfl,SqT.of et,rfl,rest _ _ ⟨r,rfl,t7.trans sm8,?_⟩⟩;rw[er];unfold rst;rw[if_neg h0']
  rintro σ' H8 ⟨pr,rfl,t8,hr8⟩;refine aC ⟨_,rfl,?_⟩;refine cZ ⟨Ps _,λq hq=>?_⟩;have t9:=t8.then_new (o:=.lst []) hq
  have hrl:(rst one other').length<=1000000:=by
   unfold rst;split
   ·exact Ps _
   ·rename_i h0
    have:=gv (a:=one) h0;omega
  refine⟨_,rfl,q,pr,[],rst one other',rfl,SqL.of au,SqL.of (by rw[L2.upd_ne (bC hr8 hq)];exact hr8),Ps _,hrl,λp9 H9 sm9 hp9 e9=>?_⟩;have hsl:(cN [] (rst one other')).length<=1000000:=PM (uI _) (by unfold d8;rw[Pk,QN];exact Nat.max_le.mpr ⟨Ps _,hrl⟩);refine⟨p9,_,rfl,e9,fK _,hsl,λp10 H10 sm10 hp10 e10=>?_⟩;have t10:Same H6 H10:=(t9.trans sm9).trans sm10;have f10:H6 p10=none:=(t9.trans sm9).free hp10;refine⟨m1,QJ _,pt,p10,other',nxt one other',ps++[po],acc++[one],_,rfl,s6.trans t10,t10 _ _ hl6,hR6.same t10,hf6,t10 _ _ ht6,e10,ft,s6.free f10,ntl,(λz=>by rw[z,hl6]at f10;cases f10),hrun5,hacc5,by rw[P6];show ps.length+1+m1<=1000;omega⟩
inductive oa(vs:List V)(H:Hp)(Q:VK)(E:XK):Prop
 |mk (a:Addr) (xs:List Int) (n:Nat):vs=[.ref a]->H a=some (.lst (xs.map V.int))->Tr xs->AllB 90000 xs->xs.length<=1000->n<=1000->Run n (ap xs) (ap (slopeL xs))->zY H Q (aU n (ap xs) (ap (slopeL xs)))->oa vs H Q E
theorem w9{xs:List Int}(h:Tr xs):Tr (slopeL xs):=by
 intro n hn;unfold slopeL at *
 rw[Pk,QN]at hn;rw[mZ,if_pos (by omega)];exact PP (by omega) (h (n+1) (by omega))
theorem Gu(F:Fun K "row_of" "row_of" rG f fd)(T:Txt K mg)(wC:Cal P w K mg base 34 "row_from" ["first","second"] qH KA Kf)(nK:Cal P w K mg base 1 "slope" ["row"] (sp1 slopeL) Bj Be):FnOk P w K mg base CX0 35 f fd ["polynomial"] oa:=by
 obtain⟨wg,uB,uQ,vR⟩:=wC;obtain⟨nq,mz,mJ,m9⟩:=nK;refine F.ok Ed (λvs H Q E h=>?_) (λcdv A outer s H vs Q E hr h=>?_)
 ·obtain⟨a,xs,n,rfl,_⟩:=h;rfl
 ·obtain⟨a,xs,n,rfl,hA,xtr,bx,hx,hn,hrun,k⟩:=h;refine⟨_,(ao (aw (al wg (hr.mono) rfl uB uQ vR .nil ah (aa (pv 0) (aa (al nq (hr.mono) rfl mz mJ m9 .nil ah (aa (pv 0) ac)) ac))))),?_⟩;refine aX ⟨_,rfl,_,rfl,a,xs,rfl,hA,by omega,bx.mono,λp H1 s1 hp e1=>?_⟩;have hsl:(slopeL xs).length<=1000:=by unfold slopeL;rw[Pk,QN];omega
  exact⟨a,p,xs,slopeL xs,n,rfl,s1 _ _ hA,e1,xtr,w9 xtr,hx,hsl,hn,hrun,λl ps H' sm hl hf e r=>k l ps H' (s1.trans sm) (s1.free hl) (λp hp=>⟨s1.free (hf p hp).1,(hf p hp).2⟩) e r⟩
noncomputable def sgs(t b:Int)(xss:List (List Int)):List Int:=xss.map λp=>sg (hv t b p)
inductive qQ(C:Addr)(vs:List V)(H:Hp)(Q:VK)(E:XK):Prop
 |mk (l r:Addr) (ps:List Addr) (xss:List (List Int)) (t b:Int):vs=[.ref l,.ref r]->H l=some (.lst (ps.map V.ref))->RwH H ps xss->RA C H r t b->Bits 3000 t->Bits 3000 b->(∀xs∈xss,xs.length<=20/\AllB 95000 xs)->xss.length<=1000000->(∀H',Same H H'->Q (.int (chS (sgs t b xss)).1) H')->qQ C vs H Q E
theorem DT(t b:Int)(xss:List (List Int)):∀s∈sgs t b xss,s.natAbs<=1:=λs hs=>by obtain⟨x,_,rfl⟩:=PF.mp hs;exact yL _
theorem DS{t b:Int}{xss:List (List Int)}{i:Nat}{xs:List Int}(h:xss[i]?=some xs):sgs t b (xss.take (i+1))=sgs t b (xss.take i)++[sg (hv t b xs)]:=by unfold sgs;rw[Qy,h,Qc];rfl
theorem zw{x:Int}(h:x.natAbs<=1):Bits 1000000 x:=Bits.mono (j:=1) (QR h (by decide)) (by decide)
theorem GX(F:Fun K "changes" "changes" sC f fd)(T:Txt K mg)(R:RCI K mg C)(eO:Cal P w K mg base 2 "sign_at" ["row","ratio"] (ie C) kG kE):FnOk P w K mg base CX0 3 f fd ["row","ratio"] (qQ C):=by
 obtain⟨dX,dP,dQ,dW⟩:=eO;refine F.ok sc_changes (λvs H Q E h=>?_) (λcdv A outer s H vs Q E hr h=>?_)
 ·obtain⟨l,r,ps,xss,t,b,rfl,_⟩:=h;rfl
 ·obtain⟨l,r,ps,xss,t,b,rfl,hL,hR,hRA,bt,bb,hb,hn,k⟩:=h
  refine⟨_,(ai (ar (i:=2) sc_changes.nd rfl (Or.inl rfl) af)
   (ai (ar (i:=3) sc_changes.nd rfl (Or.inl rfl) af)
   (ai (db PassesOwn.never rfl (fS (K:=K) rfl (pv 0)) (aR (i:=4) sc_changes.nd rfl (Or.inl rfl))
     (ai (ar (i:=5) sc_changes.nd rfl (Or.inl rfl) (al dX (hr.mono) rfl dP dQ dW .nil ah (aa (pv 4) (aa (pv 1) ac))))
       (ai (aS (aJ dL (ak aK (pv 5) (pv 3)) af (aI _))
         (ao (ar (i:=2) sc_changes.nd rfl (Or.inl rfl) (ak b9 (pv 2) af)))
         aV)
       (ao (aS (aJ i7 (pv 5) af (aI _))
         (ao (ar (i:=3) sc_changes.nd rfl (Or.inl rfl) (pv 5)))
         aV)))))
   (ao (aw (pv 2)))))),?_⟩
  have hpl:(ps.map V.ref).length=xss.length:=by rw[Pk,hR.1]
  refine aC ?_;refine aC ?_;refine⟨_,rfl,l,rfl,⟨_,SqL.of hL⟩,pH (K:=K) (a:=l) (xs:=ps.map V.ref) (λi σ' H'=>∃(z4 z5:Option V),σ'=[some (.ref l),some (.ref r),some (.int (chS (sgs t b (xss.take i))).1),some (.int (chS (sgs t b (xss.take i))).2),z4,z5]/\Same H H') ⟨none,none,rfl,λ_ _ e=>e⟩ ?_ ?_ ?_⟩
  ·rintro i σ' H' _ ⟨z4,z5,rfl,sm⟩;exact SqL.of (sm _ _ hL)
  ·rintro i x σ' H1 hi ⟨z4,z5,rfl,s1⟩;obtain⟨p,xs,rfl,ep,ex,hp,hlt⟩:=hR.of_get hi;obtain⟨hx1,hx2⟩:=hb xs (List.mem_of_getElem? ex);show di (iI _ (jo 5)) _ _ _ _;refine aC ⟨_,rfl,_,rfl,p,r,xs,t,b,⟨rfl,s1 _ _ hp,hRA.same s1,hx1,hx2,bt.mono,bb.mono⟩,λH2 sm2=>?_⟩;have s2:=s1.trans sm2;obtain⟨c1,c2,c3⟩:=Ls _ (DT t b (xss.take i));rw[DS ex,BT];have hs:=yL (hv t b xs);generalize sg (hv t b xs)=s at hs ⊢
   generalize chS (sgs t b (xss.take i))=z at c1 ⊢
   obtain⟨m,bf⟩:=z;dsimp only
   refine dY (λσ' H'=>σ'=[some (.ref l),some (.ref r),some (.int (if s*bf<0 then m+1 else m)),some (.int bf),some (.ref p),some (.int s)]/\H2=H') ?_ ?_
   case refine_2 =>
    intro rest;refine⟨_,rfl,_,rfl,_,_,rfl,rfl,⟨zw hs,zw c1⟩,_,_,rfl,rfl,_,rfl,aM (λh1=>?_) (λh1=>?_)⟩
    ·refine cZ ⟨_,rfl,_,_,rfl,rfl,rest _ _ ⟨?_,rfl⟩⟩;rw[if_pos h1];rfl
    ·refine rest _ _ ⟨?_,rfl⟩;rw[if_neg h1];rfl
   rintro σ' H' ⟨rfl,rfl⟩;refine⟨_,rfl,_,_,rfl,rfl,_,rfl,dJ (λh1=>?_) (λh1=>?_)⟩
   ·refine cZ ⟨_,rfl,some (.ref p),some (.int s),?_,s2⟩;unfold chF;have h1':¬s=0:=h1;rw[if_neg h1'];rfl
   ·refine⟨some (.ref p),some (.int s),?_,s2⟩;unfold chF;have h1':s=0:=h1;rw[if_pos h1']
  ·rintro σ' H' ⟨z4,z5,rfl,sm⟩;rw[hpl,QD];exact⟨_,rfl,k H' sm⟩
inductive og(C:Addr)(vs:List V)(H:Hp)(Q:VK)(E:XK):Prop
 |mk (l r r2:Addr) (ps:List Addr) (xss:List (List Int)) (t b t2 b2:Int):vs=[.ref l,.ref r,.ref r2]->H l=some (.lst (ps.map V.ref))->RwH H ps xss->RA C H r t b->RA C H r2 t2 b2->Bits 3000 t->Bits 3000 b->Bits 3000 t2->Bits 3000 b2->(∀xs∈xss,xs.length<=20/\AllB 95000 xs)->xss.length<=1000000->(∀H',Same H H'->Q (.int ((chS (sgs t b xss)).1-(chS (sgs t2 b2 xss)).1)) H')->og C vs H Q E
theorem GT(F:Fun K "count" "count" sj f fd)(T:Txt K mg)(R:RCI K mg C)(wH:Cal P w K mg base 3 "changes" ["row","ratio"] (qQ C) KG Kk):FnOk P w K mg base CX0 4 f fd ["row","low","high"] (og C):=by
 obtain⟨kY,kx,kA,kO⟩:=wH;refine F.ok Ek (λvs H Q E h=>?_) (λcdv A outer s H vs Q E hr h=>?_)
 ·obtain⟨l,r,r2,ps,xss,t,b,t2,b2,rfl,_⟩:=h;rfl
 ·obtain⟨l,r,r2,ps,xss,t,b,t2,b2,rfl,hL,hR,h1,h2,bt,bb,bt2,bb2,hb,hn,k⟩:=h;refine⟨_,(ao (aw (ak cz (al kY (hr.mono) rfl kx kA kO .nil ah (aa (pv 0) (aa (pv 1) ac))) (al kY (hr.mono) rfl kx kA kO .nil ah (aa (pv 0) (aa (pv 2) ac)))))),?_⟩;refine aX ⟨_,rfl,_,rfl,l,r,ps,xss,t,b,rfl,hL,hR,h1,bt,bb,hb,hn,λH1 s1=>?_⟩;refine⟨_,rfl,_,rfl,l,r2,ps,xss,t2,b2,rfl,s1 _ _ hL,hR.same s1,h2.same s1,bt2,bb2,hb,hn,λH2 s2=>?_⟩;exact⟨_,_,rfl,rfl,k _ (s1.trans s2)⟩
theorem nk(i:Int):(if i<0 then -i else i)=(i.natAbs:Int):=by split<;>omega
theorem Mf{l:List Int}(h:l≠[]):atI (l.map V.int) (-1)=some (.int (aq l)):=by obtain⟨r,x,rfl⟩:=(cY l).resolve_left h;rw[dM,Qc];exact v5 _ _
theorem Lf{l:List Int}:iC l none (some (-1))=l.take (l.length-1):=by
 unfold iC;rw[HT.sIx_none]
 have e:HT.sIx l.length l.length (some (-1))=l.length-1:=by unfold HT.sIx;simp;omega
 rw[e,Rk,QO]
def isB(os:List Int)(l k:Nat):Prop:=(∀x∈os,x.natAbs<=(2^k-1)*l)/\∀j,j<k->∃x∈os,(2^j-1)*l<x.natAbs
def oi(K:PySem.W.Frag):Sp:=λvs H Q _=>∃(a:Addr) (ns:List Int),vs=[.ref a]/\SqL K H a (ns.map V.int)/\Tr ns/\ns≠[]/\ns.length<=100000/\AllB 100000 ns /\
 ∀(k:Nat) (H':Hp),k<=100000->isB (ns.take (ns.length-1)) (aq ns).natAbs k->Same H H'->Q (.int ((2^k:Nat):Int)) H'
theorem Fl{os:List Int}{F:Int->Prop}(h:∀g:Nat,(∀x∈os,x.natAbs<=g)->(g=0\/∃x∈os,x.natAbs=g)->F g) :
 (∀M,M∈os.map (λx=>(x.natAbs:Int))->(∀a∈os.map (λx=>(x.natAbs:Int)),a<=M)->F M)/\(os.map (λx=>(x.natAbs:Int))=[]->F 0):=by
 constructor
 ·intro M hM ha;obtain⟨x,hx,rfl⟩:=PF.mp hM;exact h x.natAbs (λy hy=>Int.ofNat_le.mp (ha _ (PF.mpr ⟨y,hy,rfl⟩))) (.inr ⟨x,hx,rfl⟩)
 ·intro e;have:os=[]:=List.map_eq_nil_iff.mp e;subst this;exact h 0 (λx hx=>nomatch hx) (.inl rfl)
theorem GZ(F:Fun K "bound" "bound" sE f fd)(T:Txt K mg):FnOk P w K mg base CX0 1 f fd ["row"] (oi K):=by
 refine F.ok sc_bound (λvs H Q E h=>?_) (λcdv A outer s H vs Q E hr h=>?_)
 ·obtain⟨a,ns,rfl,_⟩:=h;rfl
 ·obtain⟨a,ns,rfl,hA,ht,hne,hn,hb,k⟩:=h;have big:=sizeLine_eq
  refine⟨_,(ai (ar (i:=1) sc_bound.nd rfl (Or.inl rfl) (ci gU (by rfl) T.abs_ PyProof.Rows.boot_abs (aa (aE (ck (K:=K) rfl) (pv 0) (b7 bV af) (λ_ _=>rfl)) ac)))
   (ai (ar (i:=2) sc_bound.nd rfl (Or.inl rfl) (FP (K:=K) rfl rfl (by rfl) T.max_ (gk (own:=["value"]) (fr:=[]) (js:=[]) (by walk_at "comp_ok") rfl (fS (K:=K) rfl (oM (oo (K:=K) rfl) (pv 0) oJ (oI (b7 bV af)))) (λ_ _ _ _=>(aR (i:=0) (show List.Nodup (["value"]:List Str)from by decide +kernel) rfl (Or.inl rfl))) (λ_ _ _ _=>(ci gU (by rfl) T.abs_ PyProof.Rows.boot_abs (aa (pv 0) ac)))) af))
   (ai (ar (i:=3) sc_bound.nd rfl (Or.inl rfl) af)
   (ai (gF PassesOwn.never (aJ dL (ak aK (ak cz (pv 3) af) (pv 1)) (pv 2) (aI _))
     (ao (ar (i:=3) sc_bound.nd rfl (Or.inl rfl) (ak aK af (pv 3)))))
   (ao (aw (pv 3))))))),?_⟩
  refine aC ⟨_,rfl,_,rfl,a,_,_,_,rfl,rfl,hA,Mf hne,_,rfl,?_⟩;rw[nk]
  have hl0:aq ns≠0:=by obtain⟨r,x,rfl⟩:=(cY ns).resolve_left hne;rw[dM];exact tr_snoc.mp ht
  generalize hL:(aq ns).natAbs=L at k ⊢
  have hL1:1<=L:=by omega
  have bL:Bits 100000 (L:Int):=by obtain⟨r,x,rfl⟩:=(cY ns).resolve_left hne;rw[dM]at hL;exact(hb x (by simp)).of_le (by omega)
  refine aC ⟨_,rfl,_,rfl,_,rfl,a,_,rfl,hA,λp1 hp1=>?_⟩;rw[vE,Lf];have s1:Same H (upd H p1 (.lst ((ns.take (ns.length-1)).map V.int))):=Same.upd_new hp1;have q1:upd H p1 (.lst ((ns.take (ns.length-1)).map V.int)) p1=some (.lst ((ns.take (ns.length-1)).map V.int)):=au;generalize hO:ns.take (ns.length-1)=os at k s1 q1 ⊢
  generalize upd H p1 (.lst (os.map V.int))=H1 at s1 q1 ⊢
  have bO:AllB 100000 os:=λx hx=>hb x (RV (hO ▸ hx))
  have lO:os.length<=100000:=by rw[<- hO,Qx];omega
  refine⟨p1,rfl,⟨_,SqL.of q1⟩,ju (K:=K) (a:=p1) (xs:=os.map V.int) (λi ys σ' H'=>∃(z0:Option V),σ'=[z0]/\ys=((os.take i).map λx=>(x.natAbs:Int)).map V.int/\H1=H') (by rw[Pk];omega) ⟨none,rfl,rfl,rfl⟩ ?_ ?_ ?_⟩
  ·rintro i ys σ' H' _ ⟨z0,rfl,rfl,rfl⟩;exact⟨SqL.of q1,by rw[Pk,Pk,Qx];exact Rv _ _⟩
  ·rintro i x ys σ' H' hi ⟨z0,rfl,rfl,rfl⟩;rw[List.getElem?_map]at hi;cases e:os[i]? with
   |none=>rw[e]at hi;cases hi
   |some c =>rw[e]at hi;obtain rfl:=Option.some.inj hi;refine⟨_,rfl,_,rfl,_,rfl,?_,rfl⟩;rw[Qy,e,nk];simp
  ·rintro ys σ' H' p ⟨z0,rfl,rfl,rfl⟩ hp;rw[Pk,QD];have s2:Same H (upd H1 p (.lst ((os.map λx=>(x.natAbs:Int)).map V.int))):=s1.then_new hp;refine⟨p,_,rfl,SqL.of au,?_⟩;generalize upd H1 p (.lst ((os.map λx=>(x.natAbs:Int)).map V.int))=H2 at s2 ⊢
   refine And.symm (Fl λg hg1 hg2=>?_)
   have bg:g<2^100000:=by
    rcases hg2 with rfl |⟨x,hx,rfl⟩
    ·exact QM (by decide)
    ·exact bO x hx
   refine aC ?_;refine⟨λm σ' H'=>∃k0:Nat,σ'=[some (.ref a),some (.int L),some (.int g),some (.int ((2^k0:Nat):Int))]/\H2=H'/\2*g+2-2^k0=m/\2^k0<=2*g+1/\∀j,j<k0->(2^j-1)*L<g,⟨_,0,rfl,rfl,rfl,by omega,λj hj=>absurd hj (Rw _)⟩,?_⟩;rintro m σ' H' ⟨k0,rfl,rfl,rfl,h2,h3⟩
   have hk0:k0<=100000:=by
    have e:2^k0<2^100001:=by rw[Q0 2 100000];omega
    have:=(RL (a:=2) (by decide)).mp e;omega
   have hp:1<=2^k0:=QM (by decide)
   have bk:Bits 100002 ((2^k0:Nat):Int):=by show((2^k0:Nat):Int).natAbs<_;rw[P9];exact(RL (a:=2) (by decide)).mpr (by omega)
   have bk1:Bits 100002 (((2^k0:Nat):Int)-1):=bk.of_le (by omega)
   have cast:(((2^k0:Nat):Int)-1)*(L:Int)=(((2^k0-1)*L:Nat):Int):=by rw[Qu,Int.natCast_sub hp];rfl
   refine⟨_,rfl,_,_,rfl,rfl,_,rfl,_,_,rfl,rfl,⟨bk1.mono,bL.mono⟩,_,rfl,_,_,rfl,rfl,_,rfl,?_⟩;rw[cast];refine aM (λhlt=>?_) (λhge=>?_)
   ·have hlt':(2^k0-1)*L<g:=by exact Rl.mp hlt
    have h4:2^k0-1<g:=QR (Nat.le_mul_of_pos_right _ hL1) hlt';refine⟨λσ'' H''=>∃m',m'<2*g+2-2^k0/\∃k0:Nat,σ''=[some (.ref a),some (.int L),some (.int g),some (.int ((2^k0:Nat):Int))]/\H2=H''/\2*g+2-2^k0=m'/\2^k0<=2*g+1/\∀j,j<k0->(2^j-1)*L<g,λ_ _ h=>h,?_⟩;refine⟨_,rfl,_,_,rfl,rfl,⟨Bits.mono (j:=2) (by show(2:Int).natAbs<2^2;decide) (by decide),bk.mono⟩,?_⟩;have e2:(2:Int)*((2^k0:Nat):Int)=((2^(k0+1):Nat):Int):=by rw[Q0];omega
    have e3:2^(k0+1)=2*2^k0:=by rw[Q0];omega
    refine⟨2*g+2-2^(k0+1),by omega,k0+1,by rw[<- e2];rfl,rfl,rfl,by omega,λj hj=>?_⟩;by_cases ej:j=k0
    ·subst ej;exact hlt'
    ·exact h3 j (by omega)
   ·have hge':¬(2^k0-1)*L<g:=λz=>hge (Rl.mpr z)
    refine⟨_,rfl,k k0 H2 hk0 ⟨λx hx=>PM (hg1 x hx) (by omega),λj hj=>?_⟩ s2⟩;have h5:=h3 j hj;rcases hg2 with rfl |⟨x,hx,e⟩
    ·exact absurd h5 (Rw _)
    ·exact⟨x,hx,by rw[e];exact h5⟩
def wu(one other:List Int):Prop:=Tr one/\Tr other/\∃n,AllB n one/\AllB n other/\(one.length+2)*(n+1)<=1000000/\other.length<=1000000
noncomputable def kT:Nat->List Int->List Int->Prop
 |0,_,other=>other=[]
 |n+1,one,other=>other=[]\/(wu one other/\kT n other (aB (aQ one other)))
inductive yl(vs:List V)(H:Hp)(Q:VK)(E:XK):Prop
 |mk (a b:Addr) (xs ys:List Int) (n:Nat):vs=[.ref a,.ref b]->H a=some (.lst (xs.map V.int))->H b=some (.lst (ys.map V.int))->Tr xs->Tr ys->xs.length<=1000->ys.length<=1000->kT n (aB xs) (aB ys)->mkL H Q (cM n (aB xs) (aB ys))->yl vs H Q E
theorem GV(F:Fun K "common" "common" su f fd)(T:Txt K mg)(jJ:Cal P w K mg base 34 "plain" ["row"] lj vt ve)(jK:Cal P w K mg base 2 "divided" ["first","second"] ln vv vf):FnOk P w K mg base CX0 35 f fd ["first","second"] yl:=by
 obtain⟨g6,gK,gQ,gX⟩:=jJ;obtain⟨jF,ja,jg,jA⟩:=jK;refine F.ok sc_common (λvs H Q E h=>?_) (λcdv A outer s H vs Q E hr h=>?_)
 ·obtain⟨a,b,xs,ys,n,rfl,_⟩:=h;rfl
 ·obtain⟨a,b,xs,ys,n,rfl,hA,hB,xtr,ytr,hx,hy,hrun,k⟩:=h;have big:=sizeLine_eq;have hu:=hr.units
  refine⟨_,(ai (ar (i:=2) sc_common.nd rfl (Or.inl rfl) (al g6 (hr.mono) rfl gK gQ gX .nil ah (aa (pv 0) ac)))
   (ai (ar (i:=3) sc_common.nd rfl (Or.inl rfl) (al g6 (hr.mono) rfl gK gQ gX .nil ah (aa (pv 1) ac)))
   (ai (gF PassesOwn.never (aJ (mf (K:=K) rfl hu) (pv 3) (bj ac) (aI _))
     (ai (ar (i:=4) sc_common.nd rfl (Or.inl rfl) (al g6 (hr.mono) rfl gK gQ gX .nil ah (aa (aE (aP (K:=K) rfl) (al jF (hr.mono) rfl ja jg jA .nil ah (aa (pv 2) (aa (pv 3) ac))) af (λ_ _=>rfl)) ac)))
       (ai (ar (i:=2) sc_common.nd rfl (Or.inl rfl) (pv 3))
       (ao (ar (i:=3) sc_common.nd rfl (Or.inl rfl) (pv 4))))))
   (ao (aw (pv 2)))))),?_⟩
  refine aC ⟨_,rfl,a,xs,rfl,hA,xtr,by omega,λp1 H1 s1 hp1 e1=>?_⟩;refine aC ⟨_,rfl,b,ys,rfl,s1 _ _ hB,ytr,by omega,λp2 H2 sm2 hp2 e2=>?_⟩;have s2:=s1.trans sm2;generalize aB xs=one' at hrun k e1
  generalize aB ys=other' at hrun k e2
  refine⟨λm σ' H'=>∃(po pt:Addr) (one other:List Int) (z4:Option V),σ'=[some (.ref a),some (.ref b),some (.ref po),some (.ref pt),z4]/\Same H H'/\H' po=some (.lst (one.map V.int))/\H' pt=some (.lst (other.map V.int))/\H po=none/\H pt=none/\kT m one other/\cM m one other=cM n one' other',
   ⟨_,p1,p2,one',other',none,rfl,s2,sm2 _ _ e1,e2,hp1,s1.free hp2,hrun,rfl⟩,?_⟩
  rintro m σ' H3 ⟨po,pt,one,other,z4,rfl,s3,ho,ht,fo,ft,hrun3,hcom⟩;refine⟨_,rfl,Ps _,λq hq=>?_⟩;have t4:=Same.upd_new (o:=.lst []) hq;refine⟨pt,q,other,[],rfl,rfl,SqL.of (t4 _ _ ht),SqL.of au,_,rfl,dJ (λhne=>?_) (λhe=>?_)⟩
  rotate_left
  ·have he':other=[]:=he;subst he';rw[BJ]at hcom;refine⟨_,rfl,k po _ (s3.trans t4) fo ?_⟩;rw[<- hcom];exact t4 _ _ ho
  have hne':other≠[]:=hne
  obtain⟨m1,rfl⟩:∃m1,m=m1+1:=by
   cases m with
   |zero=>exact absurd hrun3 hne'
   |succ m1=>exact⟨m1,rfl⟩
  obtain⟨⟨otr,ttr,nb,bo,bt,hsz,htl⟩,hrun5⟩:=(show other=[]\/(wu one other/\kT m1 other (aB (aQ one other)))from hrun3).resolve_left hne'
  have hcom5:cM m1 other (aB (aQ one other))=cM n one' other':=by
   rw[<- hcom];show _=if other=[]then one else cM m1 other (aB (aQ one other))
   rw[if_neg hne']
  generalize hH5:upd H3 q (.lst [])=H5 at t4 ⊢
  refine⟨λσ'' H''=>∃m',m'<m1+1/\∃(po pt:Addr) (one other:List Int) (z4:Option V),σ''=[some (.ref a),some (.ref b),some (.ref po),some (.ref pt),z4]/\Same H H''/\H'' po=some (.lst (one.map V.int))/\H'' pt=some (.lst (other.map V.int))/\H po=none/\H pt=none/\kT m' one other/\cM m' one other=cM n one' other',λ_ _ h=>h,?_⟩
  have hrl:(aQ one other).length<=1000000:=by have:=gv (a:=one) hne';omega
  refine aC ⟨_,rfl,_,rfl,po,pt,one,other,nb,rfl,t4 _ _ ho,t4 _ _ ht,hne',bo,bt,hsz,htl,λt q' r H8 sm8 _ _ _ _ _ _ et _ er=>?_⟩;refine⟨t,_,_,_,rfl,rfl,SqT.of et,rfl,r,_,rfl,er,eI _ _,hrl,λp9 H9 sm9 hp9 e9=>?_⟩;refine aC ⟨_,rfl,?_⟩;refine⟨_,rfl,?_⟩;have t9:=(t4.trans sm8).trans sm9;exact⟨m1,QJ _,pt,p9,other,_,_,rfl,s3.trans t9,t9 _ _ ht,e9,ft,s3.free ((t4.trans sm8).free hp9),hrun5,hcom5⟩
inductive xY(vs:List V)(H:Hp)(Q:VK)(E:XK):Prop
 |mk (a b:Addr) (xs ys:List Int) (n:Nat):vs=[.ref a,.ref b]->H a=some (.lst (xs.map V.int))->H b=some (.lst (ys.map V.int))->Tr xs->Tr ys->AllB n xs->AllB n ys->(xs.length+2)*(n+1)<=1000000->ys.length<=1000000->ys≠[]->aQ xs ys=[]->mkL H Q (aB (cw xs ys))->xY vs H Q E
theorem GA(F:Fun K "part" "part" rN f fd)(T:Txt K mg)(jK:Cal P w K mg base 2 "divided" ["first","second"] ln vv vf)(jJ:Cal P w K mg base 34 "plain" ["row"] lj vt ve):FnOk P w K mg base CX0 35 f fd ["row","divisor"] xY:=by
 obtain⟨jF,ja,jg,jA⟩:=jK;obtain⟨g6,gK,gQ,gX⟩:=jJ;refine F.ok sc_part (λvs H Q E h=>?_) (λcdv A outer s H vs Q E hr h=>?_)
 ·obtain⟨a,b,xs,ys,n,rfl,_⟩:=h;rfl
 ·obtain⟨a,b,xs,ys,nb,rfl,hA,hB,xtr,ytr,bx,by',hsz,hyn,hy,hR,k⟩:=h;have hu:=hr.units
  refine⟨_,(ai (ar (i:=2) sc_part.nd rfl (Or.inl rfl) (al jF (hr.mono) rfl ja jg jA .nil ah (aa (pv 0) (aa (pv 1) ac))))
   (ai (aS (aJ (mf (K:=K) rfl hu) (aE (aP (K:=K) rfl) (pv 2) af (λ_ _=>rfl)) (bj ac) (aI _))
     (ao iV)
     aV)
   (ao (aw (al g6 (hr.mono) rfl gK gQ gX .nil ah (aa (aE (aP (K:=K) rfl) (pv 2) af (λ_ _=>rfl)) ac)))))),?_⟩
  refine aC ⟨_,rfl,_,rfl,a,b,xs,ys,nb,rfl,hA,hB,hy,bx,by',hsz,hyn,λt q r H1 sm1 ft fq fr _ _ _ et eq er=>?_⟩;refine bZ ⟨_,rfl,t,_,_,_,rfl,rfl,SqT.of et,rfl,Ps _,λp hp=>?_⟩;have s2:=Same.upd_new (o:=.lst []) hp;refine⟨r,p,_,[],rfl,rfl,SqL.of (s2 _ _ er),SqL.of au,_,rfl,dJ (λh=>absurd hR h) (λh=>?_)⟩;have lq:=vD (a:=xs) hy
  have hxl:xs.length<=1000000:=by have:=QP (xs.length+2) (show 1<=nb+1 by omega);omega
  have hN:aT xs ys<=xs.length+1:=by unfold aT;omega
  have hN2:aT xs ys<=xs.length:=by have:=Pq.mpr hy;unfold aT;omega
  exact⟨_,rfl,t,_,_,_,rfl,rfl,SqT.of (s2 _ _ et),rfl,q,cw xs ys,rfl,s2 _ _ eq,vC hy xtr ytr,by omega,λp' H' sm' hp' e'=>k p' H' ((sm1.then_new hp).trans sm') ((sm1.then_new hp).free hp') e'⟩
theorem G4(F:Fun K "added" "added" sI f fd)(T:Txt K mg)(jI:Cal P w K mg base 1 "poly" ["row"] (lf K) vq vc)(wG:Cal P w K mg base 1 "coefficient" ["row","place"] (iL K) KF Kj):FnOk P w K mg base CX0 2 f fd ["first","second"] (oj K iF):=by
 obtain⟨jE,i9,jf,jz⟩:=jI;obtain⟨nI,mE,mN,ni⟩:=wG;refine F.ok sc_added (λvs H Q E h=>?_) (λcdv A outer s H vs Q E hr h=>?_)
 ·obtain⟨a,b,xs,ys,rfl,_⟩:=h;rfl
 ·obtain⟨a,b,xs,ys,rfl,hA,hB,hx,hy,k⟩:=h
  refine⟨_,(ai (ar (i:=2) sc_added.nd rfl (Or.inl rfl) (ci (B6 rfl) (by rfl) T.max_ PyProof.Rows.boot_max (aa (ci (dz (K:=K) rfl) (by rfl) T.len_ PySem.boot_len (aa (pv 0) ac)) (aa (ci (dz (K:=K) rfl) (by rfl) T.len_ PySem.boot_len (aa (pv 1) ac)) ac))))
   (ao (aw (al jE (hr.mono) rfl i9 jf jz .nil ah (aa (gk (own:=["k"]) (fr:=["first","second"]) (js:=[0,1]) (by walk_at "comp_ok") rfl (iY rfl T.range_ (aa (pv 2) ac)) (λ_ _ _ _=>(aR (i:=0) (show List.Nodup (["k","first","second"]:List Str)from by decide +kernel) rfl (Or.inl rfl))) (λ_ _ _ _=>(ak b9 (al nI (hr.mono) rfl mE mN ni .nil ah (aa (pv 1) (aa (pv 0) ac))) (al nI (hr.mono) rfl mE mN ni .nil ah (aa (pv 2) (aa (pv 0) ac)))))) ac))))),?_⟩
  refine⟨_,rfl,a,_,rfl,.inl hA,_,rfl,b,_,rfl,.inl hB,_,_,rfl,?_⟩;rw[Ad,Pk,Pk];have hz:max xs.length ys.length<=sizeLine:=by have:=sizeLine_eq;omega
  refine⟨_,rfl,_,rfl,(om hz).1,(om hz).2,vG (lo:=0) (n:=max xs.length ys.length) (λi zs σ' H'=>∃z:Option V,σ'=[z,some (.ref a),some (.ref b)]/\zs=((List.range i).map λk=>V.int (cf xs k+cf ys k))/\H=H') hz ⟨none,rfl,rfl,rfl⟩ ?_ ?_ ?_⟩
  ·rintro i zs σ' H' _ ⟨z,rfl,rfl,rfl⟩;simp
  ·rintro i zs σ' H' hi ⟨z,rfl,rfl,rfl⟩;refine⟨_,rfl,_,rfl,a,xs,i,?_,hA,_,rfl,_,rfl,b,ys,i,?_,hB,_,_,rfl,rfl,_,rfl,?_,rfl⟩
   ·show[V.ref a,V.int (0+(i:Int))]=_;rw[Qt]
   ·show[V.ref b,V.int (0+(i:Int))]=_;rw[Qt]
   ·rw[List.range_succ,Qc];rfl
  ·rintro zs σ' H' p ⟨z,rfl,rfl,rfl⟩ hp;refine⟨p,(List.range (max xs.length ys.length)).map λk=>cf xs k+cf ys k,rfl,SqL.of ?_,?_⟩
   ·rw[au,QE];rfl
   ·intro p' H' sm hp' e;refine k p' H' ((Same.upd_new hp).trans sm) ((Same.upd_new hp).free hp') ?_;rw[e,Ml]
inductive qL(vs:List V)(H:Hp)(Q:VK)(E:XK):Prop
 |mk (a b:Addr) (xs ys:List Int):vs=[.ref a,.ref b]->H a=some (.lst (xs.map V.int))->H b=some (.lst (ys.map V.int))->xs.length<=1000000->ys.length<=1000000->AllB 1000000 xs->AllB 1000000 ys->mkL H Q (ad xs ys)->qL vs H Q E
theorem GF(F:Fun K "multiplied" "multiplied" rQ f fd)(T:Txt K mg):FnOk P w K mg base CX0 1 f fd ["first","second"] qL:=by
 refine F.ok sc_multiplied (λvs H Q E h=>?_) (λcdv A outer s H vs Q E hr h=>?_)
 ·obtain⟨a,b,xs,ys,rfl,_⟩:=h;rfl
 ·obtain⟨a,b,xs,ys,rfl,hA,hB,hx,hy,bx,by',k⟩:=h;have hu:=hr.units
  refine⟨_,(ai (aS (PW.pt (y9 (aJ (ki (K:=K) rfl hu) (pv 0) (bj ac) (aI _)) (y8 (aJ (ki (K:=K) rfl hu) (pv 1) (bj ac) (aI _)))))
   (ao (aw (bj ac)))
   aV)
   (ai (ar (i:=2) sc_multiplied.nd rfl (Or.inl rfl) (ak uf (bj (aa af ac)) (ak cz (ak b9 (ci (dz (K:=K) rfl) (by rfl) T.len_ PySem.boot_len (aa (pv 0) ac)) (ci (dz (K:=K) rfl) (by rfl) T.len_ PySem.boot_len (aa (pv 1) ac))) af)))
   (ai (db PassesOwn.never rfl (tY rfl T.enumerate_ (aa (pv 0) ac)) (gj rfl (ca (aR (i:=3) sc_multiplied.nd rfl (Or.inl rfl)) (ca (aR (i:=4) sc_multiplied.nd rfl (Or.inl rfl)) gf)))
     (ao (db PassesOwn.never rfl (tY rfl T.enumerate_ (aa (pv 1) ac)) (gj rfl (ca (aR (i:=5) sc_multiplied.nd rfl (Or.inl rfl)) (ca (aR (i:=6) sc_multiplied.nd rfl (Or.inl rfl)) gf)))
       (ao (fm (ak b9 (aE (ck (K:=K) rfl) (pv 2) (ak b9 (pv 3) (pv 5)) (λ_ _=>rfl)) (ak aK (pv 4) (pv 6))) (md (pv 2) (ak b9 (pv 3) (pv 5)) lJ))))))
   (ao (aw (pv 2)))))),?_⟩
  refine⟨_,rfl,Ps _,λp1 hp1=>?_⟩;have s1:Same H (upd H p1 (.lst [])):=Same.upd_new hp1;refine⟨a,p1,xs,[],rfl,rfl,SqL.of (s1 _ _ hA),SqL.of au,_,rfl,?_⟩;refine aM (λh0=>?_) (λh0=>?_)
  ·refine tN ⟨Ps _,λp2 hp2=>k p2 _ (s1.then_new hp2) (s1.free hp2) ?_⟩;rw[au];unfold ad;rw[if_pos (.inl h0)];rfl
  refine⟨_,rfl,Ps _,λp2 hp2=>?_⟩;have s2:Same H (upd (upd H p1 (.lst [])) p2 (.lst [])):=s1.then_new hp2;refine⟨b,p2,ys,[],rfl,rfl,SqL.of (s2 _ _ hB),SqL.of au,_,rfl,?_⟩;refine aM (λh1=>?_) (λh1=>?_)
  ·refine⟨Ps _,λp3 hp3=>k p3 _ (s2.then_new hp3) (s2.free hp3) ?_⟩;rw[au];unfold ad;rw[if_pos (.inr h1)];rfl
  generalize upd (upd H p1 (.lst [])) p2 (.lst [])=H2 at s2 ⊢
  obtain⟨la,ea⟩:∃la,xs.length=la+1:=⟨xs.length-1,by have:=Pq.mpr h0;omega⟩;obtain⟨lb,eb⟩:∃lb,ys.length=lb+1:=⟨ys.length-1,by have:=Pq.mpr h1;omega⟩;refine⟨(by show 1<=sizeLine;decide),λp3 hp3=>?_⟩;have s3:=s2.then_new (o:=.lst [V.int 0]) hp3;have big:=sizeLine_eq;refine⟨_,rfl,a,_,rfl,.inl (SqL.of (s3 _ _ hA)),_,rfl,b,_,rfl,.inl (SqL.of (s3 _ _ hB)),_,_,rfl,rfl,_,_,rfl,rfl,p3,_,_,rfl,rfl,au,?_,?_,?_,λp hp=>?_⟩
  ·rw[Pk,Pk];omega
  ·rw[Pk,Pk];omega
  ·rw[Pk,Pk];show 1*_<=_;omega
  have en:(((xs.map V.int).length:Int)+((ys.map V.int).length:Int)-1).toNat=la+lb+1:=by rw[Pk,Pk];omega
  rw[en,tL];have s4:=s3.then_new (o:=.lst ((List.replicate (la+lb+1) (0:Int)).map V.int)) hp;have npa:a≠p:=s3.ne hA hp;have npb:b≠p:=s3.ne hB hp;generalize hH4:upd (upd H2 p3 (.lst [V.int 0])) p (.lst ((List.replicate (la+lb+1) (0:Int)).map V.int))=H4 at s4 ⊢
  have hp4:H4 p=some (.lst ((List.replicate (la+lb+1) (0:Int)).map V.int)):=by rw[<- hH4,au]
  refine⟨_,rfl,a,rfl,⟨_,SqL.of (s4 _ _ hA)⟩,u3 (K:=K) (a:=a) (xs:=xs.map V.int) (λj σ' H'=>∃(acc:List Int) (z3 z4 z5 z6:Option V),σ'=[some (.ref a),some (.ref b),some (.ref p),z3,z4,z5,z6]/\SameB p H4 H'/\H' p=some (.lst (acc.map V.int))/\acc.length=la+lb+1/\∀n,n<acc.length->cf acc n=sm xs ys n j)
   ⟨List.replicate (la+lb+1) 0,none,none,none,none,rfl,SameB.refl _ _,hp4,by simp,λn _=>by rw[mY];rfl⟩ ?_ ?_ ?_⟩
  ·rintro j σ' H' _ ⟨acc,z3,z4,z5,z6,rfl,sb,_⟩;exact SqL.of (sb _ _ npa (s4 _ _ hA))
  ·rintro j x σ' H' q hj ⟨acc,z3,z4,z5,z6,rfl,sb,hpa,hal,hac⟩ hq;rw[List.getElem?_map]at hj
   have hjl:j<xs.length:=by apply Classical.byContradiction;intro hn;rw[List.getElem?_eq_none_iff.mpr (QL hn)]at hj;cases hj
   rw[jn hjl]at hj;obtain rfl:=Option.some.inj hj;refine⟨q,_,rfl,SqT.of au,rfl,_,_,rfl,_,_,rfl,rfl,?_⟩;have nqp:p≠q:=bC hpa hq;have sb1:SameB p H4 (upd H' q (.tup [.int j,.int (cf xs j)])):=sb.then_new hq
   refine⟨_,rfl,b,rfl,⟨_,SqL.of (sb1 _ _ npb (s4 _ _ hB))⟩,u3 (K:=K) (a:=b) (xs:=ys.map V.int) (λi σ' H'=>∃(acc:List Int) (z5 z6:Option V),σ'=[some (.ref a),some (.ref b),some (.ref p),some (.int j),some (.int (cf xs j)),z5,z6]/\SameB p H4 H'/\H' p=some (.lst (acc.map V.int))/\acc.length=la+lb+1/\∀n,n<acc.length->cf acc n=sm xs ys n j+(if j<=n/\n-j<i then tm xs ys n j else 0))
    ⟨acc,z5,z6,rfl,sb1,by rw[upd_ne nqp];exact hpa,hal,zT hac⟩ ?_ ?_ ?_⟩
   ·rintro i σ' H' _ ⟨acc,z5,z6,rfl,sb,_⟩;exact SqL.of (sb _ _ npb (s4 _ _ hB))
   ·rintro i x σ' H' q hi ⟨acc,z5,z6,rfl,sb,hpa,hal,hac⟩ hq;rw[List.getElem?_map]at hi
    have hil:i<ys.length:=by apply Classical.byContradiction;intro hn;rw[List.getElem?_eq_none_iff.mpr (QL hn)]at hi;cases hi
    rw[jn hil]at hi;obtain rfl:=Option.some.inj hi;refine⟨q,_,rfl,SqT.of au,rfl,_,_,rfl,_,_,rfl,rfl,?_⟩;have nqp:p≠q:=bC hpa hq;have hpa':upd H' q (.tup [.int i,.int (cf ys i)]) p=some (.lst (acc.map V.int)):=by rw[upd_ne nqp];exact hpa
    have hji:j+i<acc.length:=by omega
    have eji:((j:Nat):Int)+((i:Nat):Int)=((j+i:Nat):Int):=by omega
    refine⟨_,rfl,_,rfl,_,rfl,_,_,rfl,rfl,p,_,_,_,rfl,rfl,SqL.of hpa',kP eji hji,_,rfl,_,rfl,_,_,rfl,rfl,⟨bx.cf j,by'.cf i⟩,_,_,rfl,rfl,_,rfl,_,rfl,_,rfl,_,_,rfl,rfl,p,_,_,j+i,rfl,rfl,hpa',mP eji (by rw[Pk];exact hji),?_⟩;refine⟨acc.set (j+i) (cf acc (j+i)+cf xs j*cf ys i),_,_,rfl,(sb.then_new hq).then_upd,by rw[au,oX],by rw[Rb];exact hal,zS hjl hil hji hac⟩
   ·rintro σ' H' ⟨acc,z5,z6,rfl,sb,hpa,hal,hac⟩;rw[Pk]at hac;exact⟨acc,_,_,_,_,rfl,sb,hpa,hal,zU hac⟩
  ·rintro σ' H' ⟨acc,z3,z4,z5,z6,rfl,sb,hpa,hal,hac⟩;rw[Pk]at hac;refine⟨_,rfl,k p H' (λb' o e=>sb b' o (s3.ne e hp) (s4 b' o e)) (s3.free hp) ?_⟩;rw[hpa]
   have e:acc=ad xs ys:=by
    apply eu
    ·rw[hal];unfold ad;rw[if_neg (by intro z;exact z.elim h0 h1),Pk,QN];omega
    ·intro n _;rw[aN,zV (by omega) hac]
   rw[e]
inductive qI(C:Addr)(vs:List V)(H:Hp)(Q:VK)(E:XK):Prop
 |mk (p q:Addr) (t b u d:Int) (i j:Nat):vs=[.ref p,.ref q]->RA C H p t b->RA C H q u d->Bits 100000 t->Bits i b->Bits 100000 u->Bits j d->i+j<=9000->0<b->0<d->mkR C H Q (t*d+u*b) (b*d)->qI C vs H Q E
theorem Hm(F:Fun K "plus" "Ratio.plus" tf f fd)(T:Txt K mg)(R:RCI K mg C)(cC:KCal P w K mg base 2 C "Ratio" ["self","top","bottom"] (dj C) eo ei eG [.int 1]):FnOk P w K mg base CX0 4 f fd ["self","other"] (qI C):=by
 obtain⟨bU,bT,bK,cs,cT,cS⟩:=cC;refine F.ok Ey (λvs H Q E h=>?_) (λcdv A outer s H vs Q E hr h=>?_)
 ·obtain⟨p,q,t,b,u,d,i,j,rfl,_⟩:=h;rfl
 ·obtain⟨p,q,t,b,u,d,i,j,rfl,⟨dx,hp⟩,⟨dy,hq⟩,bt,bb,bu,bd,hij,hb,hd,k⟩:=h;have bb':Bits 1000000 b:=bb.mono (by omega);have bd':Bits 1000000 d:=bd.mono (by omega);refine⟨_,(ao (aw (cD bT bU (hr.mono) rfl bK cs .nil ah (aa (ak b9 (ak aK (aO (K:=K) rfl (pv 0) rfl) (aO (K:=K) rfl (pv 1) rfl)) (ak aK (aO (K:=K) rfl (pv 1) rfl) (aO (K:=K) rfl (pv 0) rfl))) (aa (ak aK (aO (K:=K) rfl (pv 0) rfl) (aO (K:=K) rfl (pv 1) rfl)) ac))))),?_⟩;refine⟨_,rfl,p,C,dx,_,_,rfl,hp,R.cl,R.nT,c8 _ _,_,rfl,q,C,dy,_,_,rfl,hq,R.cl,R.nB,cq _ _,_,_,rfl,rfl,⟨bt.mono,bd'⟩,?_⟩;refine⟨_,rfl,q,C,dy,_,_,rfl,hq,R.cl,R.nT,c8 _ _,_,rfl,p,C,dx,_,_,rfl,hp,R.cl,R.nB,cq _ _,_,_,rfl,rfl,⟨bu.mono,bb'⟩,_,_,rfl,rfl,?_⟩;refine⟨_,rfl,p,C,dx,_,_,rfl,hp,R.cl,R.nB,cq _ _,_,rfl,q,C,dy,_,_,rfl,hq,R.cl,R.nB,cq _ _,_,_,rfl,rfl,⟨bb',bd'⟩,?_⟩;exact cR (Qd (Pl hb hd)) ((bb.mul bd).mono hij) k
inductive qM(C:Addr)(vs:List V)(H:Hp)(Q:VK)(E:XK):Prop
 |mk (p q:Addr) (t b u d:Int) (i j:Nat):vs=[.ref p,.ref q]->RA C H p t b->RA C H q u d->Bits 100000 t->Bits i b->Bits 100000 u->Bits j d->i+j<=9000->0<b->0<d->mkR C H Q (t*d-u*b) (b*d)->qM C vs H Q E
theorem Hn(F:Fun K "minus" "Ratio.minus" tj f fd)(T:Txt K mg)(R:RCI K mg C)(cC:KCal P w K mg base 2 C "Ratio" ["self","top","bottom"] (dj C) eo ei eG [.int 1]):FnOk P w K mg base CX0 4 f fd ["self","other"] (qM C):=by
 obtain⟨bU,bT,bK,cs,cT,cS⟩:=cC;refine F.ok Ez (λvs H Q E h=>?_) (λcdv A outer s H vs Q E hr h=>?_)
 ·obtain⟨p,q,t,b,u,d,i,j,rfl,_⟩:=h;rfl
 ·obtain⟨p,q,t,b,u,d,i,j,rfl,⟨dx,hp⟩,⟨dy,hq⟩,bt,bb,bu,bd,hij,hb,hd,k⟩:=h;have bb':Bits 1000000 b:=bb.mono (by omega);have bd':Bits 1000000 d:=bd.mono (by omega);refine⟨_,(ao (aw (cD bT bU (hr.mono) rfl bK cs .nil ah (aa (ak cz (ak aK (aO (K:=K) rfl (pv 0) rfl) (aO (K:=K) rfl (pv 1) rfl)) (ak aK (aO (K:=K) rfl (pv 1) rfl) (aO (K:=K) rfl (pv 0) rfl))) (aa (ak aK (aO (K:=K) rfl (pv 0) rfl) (aO (K:=K) rfl (pv 1) rfl)) ac))))),?_⟩;refine⟨_,rfl,p,C,dx,_,_,rfl,hp,R.cl,R.nT,c8 _ _,_,rfl,q,C,dy,_,_,rfl,hq,R.cl,R.nB,cq _ _,_,_,rfl,rfl,⟨bt.mono,bd'⟩,?_⟩;refine⟨_,rfl,q,C,dy,_,_,rfl,hq,R.cl,R.nT,c8 _ _,_,rfl,p,C,dx,_,_,rfl,hp,R.cl,R.nB,cq _ _,_,_,rfl,rfl,⟨bu.mono,bb'⟩,_,_,rfl,rfl,?_⟩;refine⟨_,rfl,p,C,dx,_,_,rfl,hp,R.cl,R.nB,cq _ _,_,rfl,q,C,dy,_,_,rfl,hq,R.cl,R.nB,cq _ _,_,_,rfl,rfl,⟨bb',bd'⟩,?_⟩;exact cR (Qd (Pl hb hd)) ((bb.mul bd).mono hij) k
inductive lg(C:Addr)(vs:List V)(H:Hp)(Q:VK)(E:XK):Prop
 |mk (p q:Addr) (t b u d:Int) (i j:Nat):vs=[.ref p,.ref q]->RA C H p t b->RA C H q u d->Bits 100000 t->Bits i b->Bits 100000 u->Bits j d->i+j<=9000->0<b->0<d->mkR C H Q (t*u) (b*d)->lg C vs H Q E
theorem Hl(F:Fun K "times" "Ratio.times" sZ f fd)(T:Txt K mg)(R:RCI K mg C)(cC:KCal P w K mg base 2 C "Ratio" ["self","top","bottom"] (dj C) eo ei eG [.int 1]):FnOk P w K mg base CX0 4 f fd ["self","other"] (lg C):=by
 obtain⟨bU,bT,bK,cs,cT,cS⟩:=cC;refine F.ok Ex (λvs H Q E h=>?_) (λcdv A outer s H vs Q E hr h=>?_)
 ·obtain⟨p,q,t,b,u,d,i,j,rfl,_⟩:=h;rfl
 ·obtain⟨p,q,t,b,u,d,i,j,rfl,⟨dx,hp⟩,⟨dy,hq⟩,bt,bb,bu,bd,hij,hb,hd,k⟩:=h;refine⟨_,(ao (aw (cD bT bU (hr.mono) rfl bK cs .nil ah (aa (ak aK (aO (K:=K) rfl (pv 0) rfl) (aO (K:=K) rfl (pv 1) rfl)) (aa (ak aK (aO (K:=K) rfl (pv 0) rfl) (aO (K:=K) rfl (pv 1) rfl)) ac))))),?_⟩;refine⟨_,rfl,p,C,dx,_,_,rfl,hp,R.cl,R.nT,c8 _ _,_,rfl,q,C,dy,_,_,rfl,hq,R.cl,R.nT,c8 _ _,_,_,rfl,rfl,⟨bt.mono,bu.mono⟩,?_⟩;refine⟨_,rfl,p,C,dx,_,_,rfl,hp,R.cl,R.nB,cq _ _,_,rfl,q,C,dy,_,_,rfl,hq,R.cl,R.nB,cq _ _,_,_,rfl,rfl,⟨bb.mono (by omega),bd.mono (by omega)⟩,?_⟩;exact cR (Qd (Pl hb hd)) ((bb.mul bd).mono hij) k
theorem Bz{l:List Int}{i:Nat}{c:Int}(hi:i<l.length)(e:l[l.length-1-i]?=some c):l.drop (l.length-(i+1))=c::l.drop (l.length-i):=by
 have h:l.length-(i+1)=l.length-1-i:=by omega
 rw[h,RX (by omega)];have h2:l.length-1-i+1=l.length-i:=by omega
 rw[h2];have h3:=List.getElem?_eq_getElem (l:=l) (i:=l.length-1-i) (by omega);rw[h3]at e;rw[Option.some.inj e]
theorem kf(n:Nat):(0:Int)<2^n:=Qo (by decide)
theorem iX(n:Nat):(2:Int)^n=((2^n:Nat):Int):=by rw[Rj];rfl
theorem lY{n k:Nat}(h:n<k):Bits k ((2:Int)^n):=by rw[iX];show(((2^n:Nat):Int)).natAbs<2^k;rw[P9];exact(RL (by decide)).mpr h
theorem gB:Bits 1000000 (2:Int):=Bits.mono (j:=2) (by show(2:Int).natAbs<2^2;decide) (by decide)
theorem uh:Bits 1000000 (1:Int):=Bits.mono (j:=1) (by show(1:Int).natAbs<2^1;decide) (by decide)
inductive yf(C:Addr)(vs:List V)(H:Hp)(Q:VK)(E:XK):Prop
 |mk (r wd:Addr) (r1 r2 w1 w2:Int) (kr kw:Nat):vs=[.ref r,.ref wd]->RA C H r r1 r2->RA C H wd w1 w2->0<r2->0<w1->Bits kr r1->Bits 100000 r2->Bits 100000 w1->Bits kw w2->kr+kw<=100000->(∀n:Nat,n<=kr+kw->r1*w2<=w1*r2*2^n->(∀j:Nat,j<n->w1*r2*2^j<r1*w2)->Q (.int n) H)->yf C vs H Q E
theorem GN(F:Fun K "halvings" "halvings" rZ f fd)(T:Txt K mg)(R:RCI K mg C):FnOk P w K mg base CX0 1 f fd ["reach","width"] (yf C):=by
 refine F.ok sc_halvings (λvs H Q E h=>?_) (λcdv A outer s H vs Q E hr h=>?_)
 ·obtain⟨r,wd,r1,r2,w1,w2,kr,kw,rfl,_⟩:=h;rfl
 ·obtain⟨r,wd,r1,r2,w1,w2,kr,kw,rfl,⟨dr,hR⟩,⟨dw,hW⟩,hr2,hw1,br1,br2,bw1,bw2,hkk,k⟩:=h
  refine⟨_,(ai (ar (i:=2) sc_halvings.nd rfl (Or.inl rfl) (ak aK (aO (K:=K) rfl (pv 0) rfl) (aO (K:=K) rfl (pv 1) rfl)))
   (ai (ar (i:=3) sc_halvings.nd rfl (Or.inl rfl) (ak aK (aO (K:=K) rfl (pv 1) rfl) (aO (K:=K) rfl (pv 0) rfl)))
   (ai (ar (i:=4) sc_halvings.nd rfl (Or.inl rfl) af)
   (ai (gF PassesOwn.never (aJ dD (pv 2) (pv 3) (aI _))
     (ai (ar (i:=3) sc_halvings.nd rfl (Or.inl rfl) (ak aK af (pv 3)))
       (ao (ar (i:=4) sc_halvings.nd rfl (Or.inl rfl) (ak b9 (pv 4) af)))))
   (ao (aw (pv 4))))))),?_⟩
  refine aC ⟨_,rfl,r,C,dr,_,_,rfl,hR,R.cl,R.nT,c8 _ _,_,rfl,wd,C,dw,_,_,rfl,hW,R.cl,R.nB,cq _ _,_,_,rfl,rfl,⟨br1.mono (by omega),bw2.mono (by omega)⟩,?_⟩;refine aC ⟨_,rfl,wd,C,dw,_,_,rfl,hW,R.cl,R.nT,c8 _ _,_,rfl,r,C,dr,_,_,rfl,hR,R.cl,R.nB,cq _ _,_,_,rfl,rfl,⟨bw1.mono,br2.mono⟩,?_⟩;have bW:Bits (kr+kw) (r1*w2):=br1.mul bw2;have g0:0<w1*r2:=Pl hw1 hr2;refine aC ?_;dsimp only
  generalize r1*w2=W at *
  generalize w1*r2=g at *
  show di _ _ _ _ _
  have b0:∀n:Nat,(∀j:Nat,j<n->g*2^j<W)->n<=kr+kw:=λn hn=>by
   rcases Nat.lt_or_ge (kr+kw) n with z |z
   ·have h1:=hn (kr+kw) z
    have h2:(2:Int)^(kr+kw)<=g*2^(kr+kw):=by have:=Qf (show(1:Int)<=g by omega) (Pt (kf (kr+kw)));omega
    have h3:W.natAbs<2^(kr+kw):=bW;have h5:(W.natAbs:Int)<((2^(kr+kw):Nat):Int):=Rl.mpr h3;rw[<- iX]at h5;generalize (2:Int)^(kr+kw)=Y at *
    omega
   ·exact z
  refine⟨λm σ' H'=>∃n:Nat,σ'=[some (.ref r),some (.ref wd),some (.int W),some (.int (g*2^n)),some (.int n)]/\H=H'/\m=(W-g*2^n).toNat/\∀j:Nat,j<n->g*2^j<W,⟨_,0,by rw[QA,Qe];rfl,rfl,rfl,λj hj=>absurd hj (Rw _)⟩,?_⟩;rintro m σ' H' ⟨n,rfl,rfl,rfl,hj⟩;refine⟨_,rfl,_,rfl,_,_,rfl,rfl,_,rfl,aM (λhgt=>?_) (λhle=>?_)⟩
  ·have hgt':g*2^n<W:=hgt;have gp:0<g*2^n:=Pl g0 (kf n);have bg:Bits (kr+kw) (g*2^n):=bW.of_le (by omega);refine⟨λσ'' H''=>∃m',m'<(W-g*2^n).toNat/\∃n:Nat,σ''=[some (.ref r),some (.ref wd),some (.int W),some (.int (g*2^n)),some (.int n)]/\H=H''/\m'=(W-g*2^n).toNat/\∀j:Nat,j<n->g*2^j<W,λ_ _ h=>h,?_⟩;have e2:2*(g*2^n)=g*2^(n+1):=by rw[P8];grind
   refine aC ⟨_,rfl,_,_,rfl,rfl,⟨gB,bg.mono (by omega)⟩,?_⟩;refine cZ ⟨_,rfl,_,_,rfl,rfl,?_⟩;refine⟨(W-g*2^(n+1)).toNat,by rw[<- e2];omega,n+1,by rw[<- e2];rfl,rfl,rfl,λj h'=>?_⟩;by_cases ej:j=n
   ·subst ej;exact hgt'
   ·exact hj j (by omega)
  ·refine⟨_,rfl,k n (b0 n hj) ?_ hj⟩;have:¬g*2^n<W:=hle;omega
theorem fg{k:Nat}{t b:Int}(hb:b≠0)(h:Bits k t):Bits k (rt t b):=h.of_le (EH hb)
theorem fj{k:Nat}{t b:Int}(hb:b≠0)(h:Bits k b):Bits k (rb t b):=h.of_le (E7 hb)
theorem oR:¬(("plus":Str)="bottom")/\¬(("plus":Str)="top"):=⟨by decide +kernel,by decide +kernel⟩
theorem zC:¬(("minus":Str)="bottom")/\¬(("minus":Str)="top"):=⟨by decide +kernel,by decide +kernel⟩
theorem fu:¬(("times":Str)="bottom")/\¬(("times":Str)="top"):=⟨by decide +kernel,by decide +kernel⟩
def yq(C:Addr):Sp:=λvs H Q _=>∃(l r:Addr) (l1 l2 r1 r2 pl pc:Int) (i j n:Nat),vs=[.ref l,.ref r,.int pl,.int pc]/\RA C H l l1 l2/\RA C H r r1 r2/\0<l2/\0<r2/\0<pc/\Bits i l1/\Bits i l2/\Bits j r1/\Bits j r2/\Bits n pl/\Bits n pc/\i+(j+n)<=9000 /\
 ∀(x:Addr) (H':Hp) (x1 x2:Int),Same H H'->H x=none->RA C H' x x1 x2->0<x2->x1*(l2*r2*pc)=(l1*r2*pc+r1*l2*pl)*x2->Bits (i+(j+n)+1) x1->Bits (i+(j+n)+1) x2->Nat.gcd x1.natAbs x2.natAbs=1->Q (.ref x) H'
theorem G2(F:Fun K "along" "along" sG f fd)(T:Txt K mg)(R:RCI K mg C)(wM:MCal P w K mg base 4 C "plus" ["self","other"] (qI C) KL Kp)(jM:MCal P w K mg base 4 C "times" ["self","other"] (lg C) vx vi)(cC:KCal P w K mg base 2 C "Ratio" ["self","top","bottom"] (dj C) eo ei eG [.int 1]):FnOk P w K mg base CX0 5 f fd ["low","reach","place","pieces"] (yq C):=by
 obtain⟨wo,ut,vX⟩:=wM;obtain⟨gz,gm,gw⟩:=jM;obtain⟨bU,bT,bK,cs,cT,cS⟩:=cC;refine F.ok Eo (λvs H Q E h=>?_) (λcdv A outer s H vs Q E hr h=>?_)
 ·obtain⟨l,r,l1,l2,r1,r2,pl,pc,i,j,n,rfl,_⟩:=h;rfl
 ·obtain⟨l,r,l1,l2,r1,r2,pl,pc,i,j,n,rfl,hL,hR,hl2,hr2,hpc,bl1,bl2,br1,br2,bpl,bpc,hijn,k⟩:=h;refine⟨_,(ao (aw (dm (pv 0) R.cl ut wo (hr.mono) vX .nil ah (aa (dm (pv 1) R.cl gm gz (hr.mono) gw .nil ah (aa (cD bT bU (hr.mono) rfl bK cs .nil ah (aa (pv 2) (aa (pv 3) ac))) ac)) ac)))),?_⟩;obtain⟨dl,hl⟩:=id hL;obtain⟨dr,hrr⟩:=id hR;have pc0:pc≠0:=Qd hpc;refine aX ⟨_,rfl,l,dl,_,rfl,hl,dF _ _ oR.1 oR.2,_,rfl,r,dr,_,rfl,hrr,dF _ _ fu.1 fu.2,_,rfl,_,rfl,cR pc0 (bpc.mono (by omega)) λxa H1 s1 ha hRa=>?_⟩;have a0:0<rb pl pc:=dA pc0;have ba1:Bits n (rt pl pc):=fg pc0 bpl;have ba2:Bits n (rb pl pc):=fj pc0 bpc;have ea:=ge (t:=pl) pc0;generalize rt pl pc=a1 at *
  generalize rb pl pc=a2 at *
  refine⟨r,xa,r1,r2,a1,a2,j,n,rfl,hR.same s1,hRa,br1.mono (by omega),br2,ba1.mono (by omega),ba2,by omega,hr2,a0,λxc H2 s2 hc hRc=>?_⟩;have d0:r2*a2≠0:=Qd (Pl hr2 a0);have c0:0<rb (r1*a1) (r2*a2):=dA d0;have bc1:Bits (j+n) (rt (r1*a1) (r2*a2)):=fg d0 (br1.mul ba1);have bc2:Bits (j+n) (rb (r1*a1) (r2*a2)):=fj d0 (br2.mul ba2);have ec:=ge (t:=r1*a1) d0;generalize rt (r1*a1) (r2*a2)=c1 at *
  generalize rb (r1*a1) (r2*a2)=c2 at *
  have t2:=s1.trans s2;refine⟨l,xc,l1,l2,c1,c2,i,j+n,rfl,hL.same t2,hRc,bl1.mono (by omega),bl2,bc1.mono (by omega),bc2,hijn,hl2,c0,λxx H3 s3 hx hRx=>?_⟩;have x0:l2*c2≠0:=Qd (Pl hl2 c0);refine k xx H3 _ _ (t2.trans s3) (t2.free hx) hRx (dA x0) (Mi a0 c0 ea ec (ge x0)) ?_ ?_ (lK x0)
  ·refine(fg x0 ?_);exact Bits.add (bl1.mul bc2) ((bc1.mul bl2).mono (by omega))
  ·exact(fj x0 (bl2.mul bc2)).mono (by omega)
theorem HN{i j:Nat}{a b c:Int}{l:List Int}(hl:AllB i l)(ha:Bits j a)(hb:Bits j b)(hc:Bits (i+j) c):AllB (i+j+1) (mb a b c l):=AllB.of_cf λn=>by
 rw[jv];refine Bits.add ?_ ?_
 ·exact(ha.neg.mul (hl.cf n)).mono (by omega)
 ·split
  ·exact hc
  ·exact(hb.mul (hl.cf (n-1))).mono (by omega)
theorem xy{kv j:Nat}{m s0 s1:Int}(hm:Bits j m)(h0:Bits j s0)(h1:Bits j s1):∀{l:List Int},AllB kv l->AllB (kv+(j+1)*l.length+1) (cu m s0 s1 l)
 | [],_=>AllB.nil
 |v::l,h=>by
  have ih:=xy hm h0 h1 (l:=l) λx hx=>h x (Pz _ hx)
  have hv:=h v (PH ..)
  have:=HN (c:=v*m^l.length) ih h0.neg h1 ((hv.mul (jx hm l.length)).mono (by
   have:(j+1)*l.length=j*l.length+l.length:=by rw[Nat.add_mul,Nat.one_mul]
   omega))
  refine AllB.mono this ?_;rw[Qi,Nat.mul_add,Nat.mul_one];omega
theorem DC{a b c:Int}{l:List Int}(hne:l≠[])(hT:Tr (mb a b c l)):iF (ad l [-a,b]) (trim [c])=mb a b c l:=by
 refine mT (fK _) hT λk=>?_
 unfold iF;rw[gT,iD,gT,P7,HF hne,jv,jv];rcases k with _ |k
 ·show _+0+c=_+c;omega
 ·rw[if_neg (by omega),if_neg (by omega)];show _+cf [] k=_;rw[cH];omega
theorem CY{m s0 s1:Int}(hs:0<s1){l:List Int}(hne:l≠[])(hl:Tr l):Tr (cu m s0 s1 l):=by
 have h1:=xw m s0 s1 l;have hlen:=jU m s0 s1 l;have hp:0<l.length:=Pq.mpr hne;have h2:cf l (l.length-1)≠0:=hl _ (by omega);intro n hn;have:n=l.length-1:=by omega
 subst this;rw[h1];exact PP h2 (Qd (Qo hs))
theorem Dc{l:List Int}(hl:Tr l){i:Nat}(h:i<l.length):Tr (l.drop i):=by
 intro n hn;rw[QX]at hn
 have e:cf (l.drop i) n=cf l (i+n):=by unfold cf;simp[List.getD]
 rw[e];exact hl _ (by omega)
def xP(C:Addr):Sp:=λvs H Q _=>∃(a l r:Addr) (ns:List Int) (l1 l2 r1 r2:Int),vs=[.ref a,.ref l,.ref r]/\H a=some (.lst (ns.map V.int))/\RA C H l l1 l2/\RA C H r r1 r2/\Tr ns/\ns≠[]/\ns.length<=12/\AllB 1000 ns/\0<l2/\0<r1/\0<r2/\Bits 1400 l1/\Bits 1400 l2/\Bits 2900 r1/\Bits 2900 r2 /\
 ∀m s0 s1:Int,0<m->s0*l2=l1*m->s1*r2=r1*m->0<s1->AllB 60000 (cu m s0 s1 ns)->mkL H Q (cu m s0 s1 ns)
theorem Gg(F:Fun K "stretched" "stretched" rk f fd)(T:Txt K mg)(R:RCI K mg C)(wB:Cal P w K mg base 2 "shared" ["row"] (qF K) Kz Ke)(Nx:Cal P w K mg base 2 "added" ["first","second"] (oj K iF) O2 Om)(wE:Cal P w K mg base 1 "multiplied" ["first","second"] qL KD Kh)(jI:Cal P w K mg base 1 "poly" ["row"] (lf K) vq vc):FnOk P w K mg base CX0 3 f fd ["row","low","reach"] (xP C):=by
 obtain⟨wf,uA,uP,vQ⟩:=wB;obtain⟨MR,IC,Ju,L5⟩:=Nx;obtain⟨wj,uC,uR,vT⟩:=wE;obtain⟨jE,i9,jf,jz⟩:=jI;refine F.ok sc_stretched (λvs H Q E h=>?_) (λcdv A outer s H vs Q E hr h=>?_)
 ·obtain⟨a,l,r,ns,l1,l2,r1,r2,rfl,_⟩:=h;rfl
 ·obtain⟨a,l,r,ns,l1,l2,r1,r2,rfl,hA,⟨dl,hL⟩,⟨dr,hR⟩,hT,hne,hln,hbn,hl2,hr1,hr2,bl1,bl2,br1,br2,k⟩:=h
  refine⟨_,(ai (ar (i:=3) sc_stretched.nd rfl (Or.inl rfl) (ak de (ak aK (aO (K:=K) rfl (pv 1) rfl) (aO (K:=K) rfl (pv 2) rfl)) (al wf (hr.mono) rfl uA uP vQ .nil ah (aa (bj (aa (aO (K:=K) rfl (pv 1) rfl) (aa (aO (K:=K) rfl (pv 2) rfl) ac))) ac))))
   (ai (ar (i:=4) sc_stretched.nd rfl (Or.inl rfl) (ak aK (aO (K:=K) rfl (pv 1) rfl) (ak de (pv 3) (aO (K:=K) rfl (pv 1) rfl))))
   (ai (ar (i:=5) sc_stretched.nd rfl (Or.inl rfl) (ak aK (aO (K:=K) rfl (pv 2) rfl) (ak de (pv 3) (aO (K:=K) rfl (pv 2) rfl))))
   (ai (ar (i:=6) sc_stretched.nd rfl (Or.inl rfl) (bj ac))
   (ai (ar (i:=7) sc_stretched.nd rfl (Or.inl rfl) af)
   (ai (db PassesOwn.never rfl (tX rfl T.reversed_ (aa (pv 0) ac)) (aR (i:=8) sc_stretched.nd rfl (Or.inl rfl))
     (ai (ar (i:=6) sc_stretched.nd rfl (Or.inl rfl) (al MR (hr.mono) rfl IC Ju L5 .nil ah (aa (al wj (hr.mono) rfl uC uR vT .nil ah (aa (pv 6) (aa (bj (aa (pv 4) (aa (pv 5) ac))) ac))) (aa (al jE (hr.mono) rfl i9 jf jz .nil ah (aa (bj (aa (ak aK (pv 8) (pv 7)) ac)) ac)) ac))))
       (ao (ar (i:=7) sc_stretched.nd rfl (Or.inl rfl) (ak aK (pv 7) (pv 3))))))
   (ao (aw (pv 6))))))))),?_⟩
  obtain⟨l',r',pl',pr',pg,el,er,em,e1,e2,pm⟩:=LD hl2 hr2 (g:=av [l2,r2]) (by show Nat.gcd (Nat.gcd 0 l2.natAbs) r2.natAbs=_;rw[RD]);have bg:Bits 9000 ((av [l2,r2]:Nat):Int):=Bits.mono (j:=1400) (bl2.of_le (by rw[P9];exact Nat.le_of_dvd (by omega) (by show Nat.gcd (Nat.gcd 0 l2.natAbs) r2.natAbs∣_;rw[RD];exact QS _ _))) (by decide)
  have bl':Bits 1400 l':=bl2.of_le (by
   rw[el,PL]
   exact RC _ (by omega))
  have br':Bits 2900 r':=br2.of_le (by
   rw[er,PL]
   exact RC _ (by omega))
  refine aC ⟨_,rfl,l,C,dl,_,_,rfl,hL,R.cl,R.nB,cq _ _,_,rfl,r,C,dr,_,_,rfl,hR,R.cl,R.nB,cq _ _,_,_,rfl,rfl,⟨bl2.mono,br2.mono⟩,?_⟩;refine⟨_,rfl,l,C,dl,_,_,rfl,hL,R.cl,R.nB,cq _ _,_,rfl,r,C,dr,_,_,rfl,hR,R.cl,R.nB,cq _ _,by show 2<=sizeLine;decide,λp0 hp0=>?_⟩;have s0':=Same.upd_new (o:=.lst [V.int l2,V.int r2]) hp0;refine⟨p0,[l2,r2],rfl,SqL.of au,_,_,rfl,rfl,⟨pg,bg⟩,?_⟩;generalize upd H p0 (.lst [V.int l2,V.int r2])=H0 at s0' ⊢
  dsimp only
  rw[em];refine aC ⟨_,rfl,l,C,dl,_,_,rfl,s0' _ _ hL,R.cl,R.nT,c8 _ _,_,rfl,_,rfl,l,C,dl,_,_,rfl,s0' _ _ hL,R.cl,R.nB,cq _ _,_,_,rfl,rfl,⟨hl2,bl2.mono⟩,?_⟩;dsimp only
  rw[e1];refine⟨_,_,rfl,rfl,⟨bl1.mono,br'.mono⟩,?_⟩;refine aC ⟨_,rfl,r,C,dr,_,_,rfl,s0' _ _ hR,R.cl,R.nT,c8 _ _,_,rfl,_,rfl,r,C,dr,_,_,rfl,s0' _ _ hR,R.cl,R.nB,cq _ _,_,_,rfl,rfl,⟨hr2,br2.mono⟩,?_⟩;dsimp only
  rw[e2];refine⟨_,_,rfl,rfl,⟨br1.mono,bl'.mono⟩,?_⟩;have q0:l1*r'*l2=l1*(l2*r'):=by grind
  have q1:r1*l'*r2=r1*(l2*r'):=by
   calc r1*l'*r2=r1*l'*(((av [l2,r2]:Nat):Int)*r'):=by rw[<- er]
    _=r1*((((av [l2,r2]:Nat):Int)*l')*r'):=by grind
    _=r1*(l2*r'):=by rw[<- el]
  have q2:0<r1*l':=Pl hr1 pl';have bm:Bits 4300 (l2*r'):=bl2.mul br';have bs0:Bits 4300 (l1*r'):=bl1.mul br';have bs1:Bits 4300 (r1*l'):=br1.mul bl';dsimp only
  generalize l2*r'=m at *
  generalize l1*r'=s0 at *
  generalize r1*l'=s1 at *
  have sb:∀{l:List Int},AllB 1000 l->l.length<=12->AllB 60000 (cu m s0 s1 l):=λ{l} h hl=>(xy bm bs0 bs1 h).mono (by omega)
  refine aC ⟨Ps _,λp1 hp1=>?_⟩;have s1':=s0'.then_new (o:=.lst []) hp1;have h1:upd H0 p1 (.lst []) p1=some (.lst []):=au;have f1:H p1=none:=s0'.free hp1;generalize upd H0 p1 (.lst [])=H1 at s1' h1 ⊢
  refine aC ?_;have hl:(ns.map V.int).length=ns.length:=Pk _;refine⟨_,rfl,a,_,rfl,SqL.of (s1' _ _ hA),uZ (K:=K) (a:=a) (xs:=ns.map V.int) (λi σ' H'=>∃(p:Addr) (z:Option V),σ'=[some (.ref a),some (.ref l),some (.ref r),some (.int m),some (.int s0),some (.int s1),some (.ref p),some (.int (m^i)),z]/\Same H H'/\H p=none/\H' p=some (.lst ((cu m s0 s1 (ns.drop (ns.length-i))).map V.int))) ⟨p1,none,by rw[QA];rfl,s1',f1,by rw[QO,List.drop_length];exact h1⟩ ?_ ?_ ?_⟩
  ·rintro i σ' H' _ ⟨p,z,rfl,sm,_⟩;exact SqL.of (sm _ _ hA)
  ·rintro i x σ' H2 hi hx ⟨p,z,rfl,s2,fp,e2'⟩;rw[hl]at hi hx;obtain⟨c,ec,rfl,hc,_⟩:=iw hx;have bc:=hbn c hc;have hd:=Bz hi ec;have len:(ns.drop (ns.length-i)).length=i:=by rw[QX];omega
   have hbd:AllB 1000 (ns.drop (ns.length-i)):=λx hx=>hbn x (RU hx)
   have aF:=sb hbd (by omega);have lF:(cu m s0 s1 (ns.drop (ns.length-i))).length=i:=by rw[jU,len]
   have bP:Bits 60000 (m^i):=(jx bm i).mono (by omega)
   have eF:iF (ad (cu m s0 s1 (ns.drop (ns.length-i))) [s0,s1]) (trim [c*m^i])=cu m s0 s1 (ns.drop (ns.length-(i+1))):=by
    have hT':Tr (cu m s0 s1 (ns.drop (ns.length-(i+1)))):=CY q2 (by rw[hd];simp) (Dc hT (by omega));rw[hd]at hT' ⊢
    have hT2:Tr (mb (-s0) s1 (c*m^i) (cu m s0 s1 (ns.drop (ns.length-i)))):=by have:cu m s0 s1 (c::ns.drop (ns.length-i))=mb (-s0) s1 (c*m^(ns.drop (ns.length-i)).length) (cu m s0 s1 (ns.drop (ns.length-i))):=rfl;rw[this,len]at hT';exact hT'
    show _=mb (-s0) s1 (c*m^(ns.drop (ns.length-i)).length) (cu m s0 s1 (ns.drop (ns.length-i)));rw[len];by_cases hi0:i=0
    ·subst hi0;have e0:cu m s0 s1 (ns.drop (ns.length-0))=[]:=by rw[QO,List.drop_length];rfl
     rw[e0]at hT2 ⊢;refine mT (fK _) hT2 λk=>?_
     unfold iF;rw[gT,iD,aN,gT,P7];show 0+_=_;rw[Qt];rfl
    ·have hn':cu m s0 s1 (ns.drop (ns.length-i))≠[]:=λz=>by rw[z]at lF;exact hi0 lF.symm
     have:=DC (a := -s0) (b:=s1) (c:=c*m^i) hn' hT2;rw[Int.neg_neg]at this;exact this
   show di (iI _ (jo 6)) _ _ _ _
   have bs:AllB 4300 [s0,s1]:=λx hx=>by
    simp only[Pu,RO,or_false]at hx;rcases hx with rfl |rfl
    ·exact bs0
    ·exact bs1
   generalize cu m s0 s1 (ns.drop (ns.length-i))=Fs at *
   refine aC ⟨_,rfl,_,rfl,_,rfl,by show 2<=sizeLine;decide,λp3 hp3=>?_⟩;have s3:=s2.then_new (o:=.lst ([s0,s1].map V.int)) hp3;have e3:upd H2 p3 (.lst ([s0,s1].map V.int)) p=some (.lst (Fs.map V.int)):=(Same.upd_new hp3) _ _ e2';have h3:upd H2 p3 (.lst ([s0,s1].map V.int)) p3=some (.lst ([s0,s1].map V.int)):=au;refine⟨p,p3,Fs,[s0,s1],rfl,e3,h3,by omega,by show 2<=1000000;decide,aF.mono,bs.mono,λp4 H4 s4 hp4 e4=>?_⟩;have t4:=s3.trans s4;refine⟨_,rfl,_,rfl,_,_,rfl,rfl,⟨bc.mono,bP.mono⟩,by show 1<=sizeLine;decide,λp5 hp5=>?_⟩;have s5:=t4.then_new (o:=.lst ([c*m^i].map V.int)) hp5;have e5:upd H4 p5 (.lst ([c*m^i].map V.int)) p4=some (.lst ((ad Fs [s0,s1]).map V.int)):=(Same.upd_new hp5) _ _ e4;have h5:upd H4 p5 (.lst ([c*m^i].map V.int)) p5=some (.lst ([c*m^i].map V.int)):=au;refine⟨p5,[c*m^i],rfl,SqL.of h5,λp6 H6 s6 hp6 e6=>?_⟩;have t6:=s5.trans s6;refine⟨p4,p6,ad Fs [s0,s1],trim [c*m^i],rfl,SqL.of (s6 _ _ e5),SqL.of e6,?_,?_,λp7 H7 s7 hp7 e7=>?_⟩
   ·have:(ad Fs [s0,s1]).length<=1000:=by
     unfold ad;split
     ·exact Ps _
     ·rw[Pk,QN];show _+2-1<=_;omega
    omega
   ·have:=uI [c*m^i];have:(trim [c*m^i]).length<=1:=this;omega
   rw[eF]at e7;refine cZ ⟨_,rfl,_,rfl,_,_,rfl,rfl,⟨bP.mono,bm.mono⟩,?_⟩;refine⟨p7,some (.int c),?_,t6.trans s7,t6.free hp7,e7⟩;rw[P8];rfl
  ·rintro σ' H' ⟨p,z,rfl,sm,fp,e⟩;rw[hl,Q2,Rk]at e;exact⟨_,rfl,k m s0 s1 pm q0 q1 q2 (sb hbn hln) p H' sm fp e⟩
inductive xR(vs:List V)(H:Hp)(Q:VK)(E:XK):Prop
 |mk (a:Addr) (ns:List Int):vs=[.ref a]->H a=some (.lst (ns.map V.int))->ns.length<=1000->AllB 500000 ns->mkL H Q (cJ ns)->xR vs H Q E
theorem Gi(F:Fun K "spread" "spread" rp f fd)(T:Txt K mg):FnOk P w K mg base CX0 1 f fd ["row"] xR:=by
 refine F.ok sc_spread (λvs H Q E h=>?_) (λcdv A outer s H vs Q E hr h=>?_)
 ·obtain⟨a,ns,rfl,_⟩:=h;rfl
 ·obtain⟨a,ns,rfl,hA,hn,hb,k⟩:=h;have big:=sizeLine_eq
  refine⟨_,(ai (ar (i:=1) sc_spread.nd rfl (Or.inl rfl) (bj ac))
   (ai (ar (i:=2) sc_spread.nd rfl (Or.inl rfl) af)
   (ai (db PassesOwn.never rfl (tX rfl T.reversed_ (aa (pv 0) ac)) (aR (i:=3) sc_spread.nd rfl (Or.inl rfl))
     (ai (ii (me PySem.F.plainAttrs_list PySem.F.slot_list_append PySem.F.type_list_append mr (pv 1) (aa (ak aK (pv 2) (pv 3)) ac)))
       (ao (ar (i:=2) sc_spread.nd rfl (Or.inl rfl) (ak aK af (pv 2))))))
   (ai (ii (zn PySem.F.plainAttrs_list PySem.F.slot_list_reverse PySem.F.type_list_reverse HG (pv 1)))
   (ao (aw (pv 1))))))),?_⟩
  refine aC ⟨Ps _,λp1 hp1=>?_⟩;have s1':=Same.upd_new (o:=.lst []) hp1;have h1:upd H p1 (.lst []) p1=some (.lst []):=au;generalize upd H p1 (.lst [])=H1 at s1' h1 ⊢
  refine aC ?_;have hl:(ns.map V.int).length=ns.length:=Pk _;refine⟨_,rfl,a,_,rfl,SqL.of (s1' _ _ hA),uZ (K:=K) (a:=a) (xs:=ns.map V.int) (λi σ' H'=>∃z:Option V,σ'=[some (.ref a),some (.ref p1),some (.int (2^i)),z]/\Same H H'/\H' p1=some (.lst ((cJ (ns.drop (ns.length-i))).reverse.map V.int))) ⟨none,rfl,s1',by rw[QO,List.drop_length];exact h1⟩ ?_ ?_ ?_⟩
  ·rintro i σ' H' _ ⟨z,rfl,sm,_⟩;exact SqL.of (sm _ _ hA)
  ·rintro i x σ' H2 hi hx ⟨z,rfl,s2,h2⟩;rw[hl]at hi hx;obtain⟨c,ec,rfl,hc,_⟩:=iw hx;have hd:=Bz hi ec;have len:(ns.drop (ns.length-i)).length=i:=by rw[QX];omega
   show di (n6 _) _ _ _ _;refine j7 ⟨_,rfl,.inl ⟨rfl,_,SqL.of h2⟩,_,rfl,_,rfl,_,_,rfl,rfl,⟨(lY (n:=i) (k:=1001) (by omega)).mono,(hb c hc).mono⟩,p1,_,_,rfl,rfl,h2,by rw[Pk,List.length_reverse,n8,len];omega,?_⟩;refine cZ ⟨_,rfl,_,_,rfl,rfl,⟨gB,(lY (n:=i) (k:=1001) (by omega)).mono⟩,?_⟩;refine⟨some (.int c),?_,gG s2 hp1,?_⟩
   ·show[some (V.ref a),some (V.ref p1),some (V.int (2*2^i)),some (V.int c)]=_;rw[P8,PQ]
   ·rw[au,hd,HR];show some (HO.lst (((cJ (ns.drop (ns.length-i))).reverse++[2^i*c]).map V.int))=some (HO.lst ((2^(ns.drop (ns.length-i)).length*c::cJ (ns.drop (ns.length-i))).reverse.map V.int));rw[List.reverse_cons,len]
  ·rintro σ' H2 ⟨z,rfl,s2,h2⟩;rw[hl,Q2,Rk]at h2;dsimp only
   refine j7 ⟨_,rfl,.inl ⟨rfl,_,SqL.of h2⟩,p1,_,rfl,rfl,h2,?_⟩;refine⟨_,rfl,k p1 _ (gG s2 hp1) hp1 ?_⟩;rw[au,<- List.map_reverse,List.reverse_reverse]
noncomputable def dS(m:List Int)(j:Nat):List Int:=m.take (m.length-1-j)++suf (m.drop (m.length-1-j))
theorem uc:∀(i:Nat) (m:List Int),dZ i m=m.take i++suf (m.drop i)
 |0,m=>by rw[List.take_zero,Rk];rfl
 |i+1,[]=>rfl
 |i+1,c::m=>by show c::dZ i m=c::(m.take i++suf (m.drop i));rw[uc i m]
theorem JT(m:List Int)(j:Nat):(dS m j).length=m.length:=by unfold dS;rw[P6,jT,<- P6,List.take_append_drop]
theorem JR(m:List Int):dS m 0=m:=by
 unfold dS;rw[QO];cases hd:m.drop (m.length-1)with
 |nil =>have:m.length-1=m.length\/True:=.inr trivial;have h1:m.length<=m.length-1:=List.drop_eq_nil_iff.mp hd;have:m=[]:=Q4 (by omega);subst this;rfl
 |cons c r =>have hl:=congrArg List.length hd;rw[QX,Qi]at hl;have:r=[]:=Q4 (by omega);subst this;show _++[c+0]=_;rw[Qj,<- hd,List.take_append_drop]
theorem JU(m:List Int){i:Nat}(h:i+1<=m.length):dS m (m.length-1-i)=dZ i m:=by
 unfold dS;rw[uc];have:m.length-1-(m.length-1-i)=i:=by omega
 rw[this]
theorem JS(m:List Int){j:Nat}(h:j+2<=m.length):(dS m j).set (m.length-2-j) (cf (dS m j) (m.length-2-j)+cf (dS m j) (m.length-1-j))=dS m (j+1):=by
 have e1:m.length-1-(j+1)=m.length-2-j:=by omega
 have e2:m.length-1-j=m.length-2-j+1:=by omega
 have hk:m.length-2-j<m.length:=by omega
 unfold dS;rw[e1,e2];generalize m.length-2-j=k at hk e2
 have hd:m.drop k=m[k]::m.drop (k+1):=RX hk;have ht:m.take (k+1)=m.take k++[m[k]]:=by rw[Qy,List.getElem?_eq_getElem hk];rfl
 rw[hd,ht];have lt:(m.take k).length=k:=by rw[Qx];omega
 have c1:cf (m.take k++[m[k]]++suf (m.drop (k+1))) k=m[k]:=by rw[List.append_assoc,m8 (by omega),lt,Q2];rfl
 have c2:cf (m.take k++[m[k]]++suf (m.drop (k+1))) (k+1)=(suf (m.drop (k+1))).headD 0:=by
  rw[m8 (by rw[P6,lt];exact Pn _),P6,lt];show cf _ (k+1-(k+1))=_;rw[Q2];cases suf (m.drop (k+1))with
  |nil=>rfl
  |cons _ _=>rfl
 rw[c1,c2];show _=m.take k++((m[k]+(suf (m.drop (k+1))).headD 0)::suf (m.drop (k+1)));rw[List.append_assoc,List.set_append_right _ _ (by omega),lt,Q2];rfl
theorem xu{M:Nat}:∀{l:List Int},(∀x∈l,x.natAbs<=M)->∀x∈suf l,x.natAbs<=l.length*M
 | [],_,x,hx=>nomatch hx
 |v::l,h,x,hx=>by
  have ih:=xu (l:=l) λx hx=>h x (Pz _ hx)
  have hv:=h v (PH ..)
  have hh:((suf l).headD 0).natAbs<=l.length*M:=by
   cases hs:suf l with
   |nil=>show(0:Int).natAbs<=_;exact Ps _
   |cons g r=>exact ih g (by rw[hs];exact PH ..)
  rw[Qi,Nat.add_mul,Nat.one_mul];rcases Pu.mp hx with e |e
  ·subst e;exact PM (Ry _ _) (PM (RH hv hh) (QV (Nat.add_comm _ _)))
  ·exact PM (ih x e) (Nat.le_add_right _ _)
theorem FT{i k:Nat}{m:List Int}(h:AllB i m)(hl:m.length<=16):AllB (i+4) (dZ k m):=by
 rw[uc];refine AllB.app (λx hx=>(h x (RV hx)).mono (by omega)) λx hx=>?_
 have h1:=xu (M:=2^i-1) (l:=m.drop k) (λy hy=>by have:y.natAbs<2^i:=h y (RU hy);omega) x hx;have h2:(m.drop k).length*(2^i-1)<=16*(2^i-1):=Qg _ (by rw[QX];omega);have h3:0<2^i:=QM (by decide);show x.natAbs<2^(i+4);have h4:2^(i+4)=2^i*16:=by rw[Nat.pow_add]
 omega
theorem zW{i:Nat}{m:List Int}(h:AllB i m)(hl:m.length<=16):∀n,AllB (i+4*n) (fT n m)
 |0=>h
 |n+1=>by have:=FT (k:=n) (zW h hl n) (by rw[oT];exact hl);exact this.mono (by omega)
theorem HJ{i:Nat}{m:List Int}(h:AllB i m)(hl:m.length<=12):AllB (i+44) (mv m):=(zW h (by omega) _).mono (by omega)
theorem xF{i:Nat}:∀{m:List Int},AllB i m->m.length<=12->AllB (i+13) (cJ m)
 | [],_,_=>AllB.nil
 |v::m,h,hl=>by
  have ih:=xF (m:=m) (λx hx=>h x (Pz _ hx)) (by rw[Qi]at hl;omega);intro x hx;rcases Pu.mp hx with e |e
  ·subst e;have:=(lY (n:=m.length) (k:=13) (by rw[Qi]at hl;omega)).mul (h v (PH ..));exact this.mono (by omega)
  ·exact ih x e
inductive x6(vs:List V)(H:Hp)(Q:VK)(E:XK):Prop
 |mk (a:Addr) (ns:List Int):vs=[.ref a]->H a=some (.lst (ns.map V.int))->1<=ns.length->ns.length<=1000->mkL H Q (mv ns)->x6 vs H Q E
theorem rd(l:List Int)(k:Nat)(v:Int):(l.map V.int).set k (.int v)=(l.set k v).map V.int:=by rw[List.map_set]
theorem v4{l:List Int}{k:Nat}{j:Int}(e:j=(k:Int))(h:k<l.length):atI (l.map V.int) j=some (.int (cf l k)):=by subst e;refine kQ ?_;rw[List.getElem?_map,List.getElem?_eq_getElem h];show some (V.int l[k])=_;rw[BX (List.getElem?_eq_getElem h)]
theorem GG(F:Fun K "moved" "moved" rR f fd)(T:Txt K mg)(g9:Cal P w K mg base 1 "degree" ["row"] jW pJ pI):FnOk P w K mg base CX0 2 f fd ["row"] x6:=by
 obtain⟨eN,d6,ee,eK⟩:=g9;refine F.ok sc_moved (λvs H Q E h=>?_) (λcdv A outer s H vs Q E hr h=>?_)
 ·obtain⟨a,ns,rfl,_⟩:=h;rfl
 ·obtain⟨a,ns,rfl,hA,hn1,hn,k⟩:=h;have big:=sizeLine_eq
  refine⟨_,(ai (ar (i:=1) sc_moved.nd rfl (Or.inl rfl) (i6 (vL (K:=K) rfl) (by rfl) T.list_ PyProof.Rows.boot_list (aa (pv 0) ac)))
   (ai (db PassesOwn.never rfl (iY rfl T.range_ (aa (al eN (hr.mono) rfl d6 ee eK .nil ah (aa (pv 0) ac)) ac)) (aR (i:=2) sc_moved.nd rfl (Or.inl rfl))
     (ao (db PassesOwn.never rfl (zk rfl T.range_ (aa (ak cz (al eN (hr.mono) rfl d6 ee eK .nil ah (aa (pv 0) ac)) af) (aa (ak cz (pv 2) af) (aa (b7 bV af) ac)))) (aR (i:=3) sc_moved.nd rfl (Or.inl rfl))
       (ao (fm (ak b9 (aE (ck (K:=K) rfl) (pv 1) (pv 3) (λ_ _=>rfl)) (aE (ck (K:=K) rfl) (pv 1) (ak b9 (pv 3) af) (λ_ _=>rfl))) (md (pv 1) (pv 3) lJ))))))
   (ao (aw (pv 1))))),?_⟩
  refine aC ⟨_,rfl,a,_,rfl,.inl (SqL.of hA),λp hp=>?_⟩;have s1':=Same.upd_new (o:=.lst (ns.map V.int)) hp;have h1:upd H p (.lst (ns.map V.int)) p=some (.lst (ns.map V.int)):=au;generalize upd H p (.lst (ns.map V.int))=H1 at s1' h1 ⊢
  have hl:(ns.map V.int).length=ns.length:=Pk _;have ed:((ns.map V.int).length:Int)-1=((ns.length-1:Nat):Int):=by rw[hl];omega
  refine⟨_,rfl,a,_,rfl,s1' _ _ hA,_,rfl,(by rw[ed];omega),(by rw[ed];omega),?_⟩;rw[ed];refine mS (lo:=0) (n:=ns.length-1) (λi σ' H'=>∃z2 z3:Option V,σ'=[some (.ref a),some (.ref p),z2,z3]/\Same H H'/\H' p=some (.lst ((fT i ns).map V.int))) ⟨none,none,rfl,s1',h1⟩ ?_ ?_
  ·rintro i σ' H2 hi ⟨z2,z3,rfl,s2,h2⟩;have lm:(fT i ns).length=ns.length:=oT _ _;generalize hM:fT i ns=M at h2 lm
   obtain⟨r,er⟩:∃r,ns.length=r+2:=⟨ns.length-2,by omega⟩;have er1:ns.length-1=r+1:=by rw[er];rfl
   have er2:ns.length-2=r:=by rw[er];rfl
   have hr':r+2<=100000:=by rw[<- er];omega
   rw[er1]at hi;refine⟨_,rfl,a,_,rfl,s2 _ _ hA,_,_,rfl,rfl,_,rfl,_,_,rfl,rfl,_,rfl,(r:Int),(i:Int)-1,?_,⟨by omega,by omega,by omega,by omega⟩,?_⟩
   ·rw[ed,er1];have e1:((r+1:Nat):Int)-1=(r:Int):=by omega
    have e2:(0:Int)+(i:Int)-1=(i:Int)-1:=by omega
    dsimp only
    rw[e1,e2]
   have en:((r:Int)-((i:Int)-1)).toNat=r+1-i:=by omega
   rw[en];refine A6 (λj σ' H'=>∃z3:Option V,σ'=[some (.ref a),some (.ref p),some (.int (0+(i:Int))),z3]/\Same H H'/\H' p=some (.lst ((dS M j).map V.int))) ⟨z3,rfl,s2,by rw[JR];exact h2⟩ ?_ ?_
   ·rintro j σ' H3 hj ⟨z3,rfl,s3,h3⟩;have hj':j<=r:=by omega
    have lh:(dS M j).length=r+2:=by rw[JT,lm,er]
    have hs:=JS M (j:=j) (by rw[lm,er];omega);rw[lm,er1,er2]at hs;have k1:(r:Int)+(j:Int) * -1=((r-j:Nat):Int):=by omega
    have k2:(r:Int)+(j:Int) * -1+1=((r+1-j:Nat):Int):=by omega
    refine⟨_,rfl,_,rfl,p,_,_,_,rfl,rfl,SqL.of h3,v4 k1 (by omega),_,rfl,_,rfl,_,_,rfl,rfl,p,_,_,_,rfl,rfl,SqL.of h3,v4 k2 (by omega),_,_,rfl,rfl,_,rfl,_,rfl,p,_,_,r-j,rfl,rfl,h3,?_,?_⟩
    ·exact mP k1 (by rw[Pk];omega)
    refine⟨_,rfl,gG s3 hp,?_⟩;rw[au,rd,hs]
   ·rintro σ' H3 ⟨z3,rfl,s3,h3⟩;refine⟨_,_,rfl,s3,?_⟩
    have:dS M (r+1-i)=fT (i+1) ns:=by rw[<- er1,<- lm,JU M (by rw[lm,er];omega),<- hM];rfl
    rw[<- this];exact h3
  ·rintro σ' H2 ⟨z2,z3,rfl,s2,h2⟩;exact⟨_,rfl,k p H2 s2 hp h2⟩
structure RootB(ns:List Int)(ε:Int)(up:Int->Int->Prop):Prop where
 e1:ε=1\/ε = -1
 r1:∀p c,0<p->p<=c->up p c->sg (hv p c ns) = -ε
 r2:∀p c,0<p->p<=c->¬up p c->sg (hv p c ns)=ε\/sg (hv p c ns)=0
 r3:∀p c p' c',0<p->p<=c->0<p'->p'<=c'->¬up p c->p*c'<p'*c->sg (hv p' c' ns)=ε
 sc:∀p c,0<c->(up (2*p) (2*c)↔up p c)
 top:¬up 1 1
theorem JL(p c:Int)(l:List Int):sg (hv (2*p) (2*c) l)=sg (hv p c l):=by rw[pj];exact fc (Qo (by decide))
def yg:Sp:=λvs H Q _=>∃(a:Addr) (ns:List Int) (e:Int) (n:Nat) (ε:Int) (up:Int->Int->Prop),vs=[.ref a,.int e,.int n]/\H a=some (.lst (ns.map V.int))/\1<=ns.length/\ns.length<=12/\AllB 60000 ns/\n<=4000/\RootB ns ε up/\e=sg (hv 1 1 ns) /\
 ∀(p:Addr) (H':Hp) (pl:Nat),Same H H'->H p=none->H' p=some (.tup [.int pl,.int (2^n)])->pl<2^n->(pl=0\/up pl (2^n))->¬up ((pl:Int)+1) (2^n)->Q (.ref p) H'
theorem GO(F:Fun K "halved" "halved" r8 f fd)(T:Txt K mg)(M9:Cal P w K mg base 1 "spread" ["row"] xR OG NY)(jH:Cal P w K mg base 1 "whole_sign" ["value"] li vp vb)(Nj:Cal P w K mg base 2 "moved" ["row"] x6 OP N8):FnOk P w K mg base CX0 3 f fd ["row","end","steps"] yg:=by
 obtain⟨Mw,Id,Ja,LJ⟩:=M9;obtain⟨jD,i8,je,jy⟩:=jH;obtain⟨MF,Im,Ji,LR⟩:=Nj;refine F.ok sc_halved (λvs H Q E h=>?_) (λcdv A outer s H vs Q E hr h=>?_)
 ·obtain⟨a,ns,e,n,ε,up,rfl,_⟩:=h;rfl
 ·obtain⟨a,ns,e,n,ε,up,rfl,hA,h1n,hln,hbn,hn,hB,he,k⟩:=h
  refine⟨_,(ai (ar (i:=3) sc_halved.nd rfl (Or.inl rfl) af)
   (ai (ar (i:=4) sc_halved.nd rfl (Or.inl rfl) af)
   (ai (ar (i:=5) sc_halved.nd rfl (Or.inl rfl) (pv 1))
   (ai (ar (i:=6) sc_halved.nd rfl (Or.inl rfl) (pv 0))
   (ai (db PassesOwn.never rfl (iY rfl T.range_ (aa (pv 2) ac)) (aR (i:=7) sc_halved.nd rfl (Or.inl rfl))
     (ai (ar (i:=3) sc_halved.nd rfl (Or.inl rfl) (ak aK af (pv 3)))
       (ai (ar (i:=4) sc_halved.nd rfl (Or.inl rfl) (ak aK af (pv 4)))
       (ai (ar (i:=6) sc_halved.nd rfl (Or.inl rfl) (al Mw (hr.mono) rfl Id Ja LJ .nil ah (aa (pv 6) ac)))
       (ai (ar (i:=8) sc_halved.nd rfl (Or.inl rfl) (al jD (hr.mono) rfl i8 je jy .nil ah (aa (ci (Lv (K:=K) rfl rfl) (by rfl) T.sum_ PyProof.Rows.boot_sum (aa (pv 6) ac)) ac)))
       (ao (aS (PW.pt (iU (aJ i7 (pv 8) af (aI _)) (iT (aJ i7 (pv 8) (pv 5) (aI _)))))
         (ai (ar (i:=3) sc_halved.nd rfl (Or.inl rfl) (ak b9 (pv 3) af))
           (ao (ar (i:=6) sc_halved.nd rfl (Or.inl rfl) (al MF (hr.mono) rfl Im Ji LR .nil ah (aa (pv 6) ac)))))
         (ao (ar (i:=5) sc_halved.nd rfl (Or.inl rfl) (pv 8))))))))))
   (ao (aw (cU (aa (pv 3) (aa (pv 4) ac)))))))))),?_⟩
  refine aC ?_;refine aC ?_;refine aC ⟨_,rfl,?_⟩;refine aC ⟨_,rfl,?_⟩;refine⟨_,rfl,n,rfl,by omega,by omega,mS (lo:=0) (n:=n) (λi σ' H'=>∃(p:Addr) (pl:Nat) (L:List Int) (z7 z8:Option V),σ'=[some (.ref a),some (.int e),some (.int n),some (.int pl),some (.int (2^i)),some (.int (sg (hv ((pl:Int)+1) (2^i) ns))),some (.ref p),z7,z8]/\Same H H'/\H' p=some (.lst (L.map V.int))/\L.length=ns.length/\AllB (60000+60*i) L/\(∀p q:Int,2^i*hv p q L=hv (pl*q+p) (2^i*q) ns)/\pl<2^i/\(pl=0\/up pl (2^i))/\¬up ((pl:Int)+1) (2^i)) ⟨a,0,ns,none,none,by rw[he];rfl,Same.refl _,hA,rfl,hbn,λp q=>by rw[QA,P7,P7];show _=hv (0*q+p) q ns;rw[PX,Qt],by decide,.inl rfl,by rw[QA];exact hB.top⟩ ?_ ?_⟩
  ·rintro i σ' H1 hi ⟨p,pl,L,z7,z8,rfl,s1,h1,lL,bL,hval,hpl,hup,hnup⟩;show di (iI _ (jo 3)) _ _ _ _;have b2i:Bits 4002 ((2:Int)^i):=lY (by omega);have p2i:=kf i;have cpl:(pl:Int)<2^i:=by rw[iX];exact Rl.mpr hpl
   have bpl:Bits 4002 (pl:Int):=b2i.of_le (by rw[iX];omega);refine aC ⟨_,rfl,_,_,rfl,rfl,⟨gB,bpl.mono⟩,?_⟩;refine aC ⟨_,rfl,_,_,rfl,rfl,⟨gB,b2i.mono⟩,?_⟩;refine aC ⟨_,rfl,p,L,rfl,h1,by omega,bL.mono (by omega),λp2 H2 s2 hp2 e2=>?_⟩;have t2:=s1.trans s2;have lS:(cJ L).length=ns.length:=by rw[n8,lL]
   have bS:AllB (60000+60*i+13) (cJ L):=xF bL (by omega);have e2i:(2:Int)*2^i=2^(i+1):=by rw[P8,PQ]
   have vS:∀p q:Int,2^(i+1)*hv p q (cJ L)=hv (((2*pl:Nat):Int)*q+p) (2^(i+1)*q) ns:=λp q=>by
    have h3:=hval p (2*q);rw[<- AO]at h3;have h4:(2:Int)^(i+1)*hv p q (cJ L)=2^i*(2*hv p q (cJ L)):=by rw[P8];grind
    rw[h4,h3]
    have h5:(pl:Int)*(2*q)+p=((2*pl:Nat):Int)*q+p:=by
     have:((2*pl:Nat):Int)=2*(pl:Int):=by omega
     rw[this];grind
    have h6:(2:Int)^i*(2*q)=2^(i+1)*q:=by rw[P8];grind
    rw[h5,h6]
   refine aC ⟨_,rfl,p2,cJ L,rfl,SqL.of e2,_,rfl,?_⟩;have p2i1:=kf (i+1)
   have ethere:sg (cJ L).sum=sg (hv (((2*pl:Nat):Int)+1) (2^(i+1)) ns):=by have h3:=vS 1 1;rw[Qe,Qe]at h3;rw[<- AM,<- h3,fc p2i1]
   have c2pl:(((2*pl:Nat):Int)+1)<=2^(i+1):=by rw[<- e2i];omega
   have hold:sg (hv ((pl:Int)+1) (2^i) ns)=sg (hv (2*((pl:Int)+1)) (2^(i+1)) ns):=by rw[<- e2i,JL]
   have plc:(pl:Int)+1<=2^i:=by omega
   generalize hth:sg (cJ L).sum=th at ethere
   show lc _ _ _ _ _ _;have epl:(2:Int)*(pl:Int)=((2*pl:Nat):Int):=by omega
   have n2i:2^(i+1)=2*2^i:=by rw[Q0,QK]
   refine gb (λσ' H'=>σ'=[some (.ref a),some (.int e),some (.int n),some (.int (2*(pl:Int))),some (.int (2*2^i)),some (.int (sg (hv ((pl:Int)+1) (2^i) ns))),some (.ref p2),some (.int (0+(i:Int))),some (.int th)]/\H2=H') ⟨by rw[<- hth];rfl,rfl⟩ ?_;rintro σ' H' ⟨rfl,rfl⟩;by_cases hu:up (((2*pl:Nat):Int)+1) (2^(i+1))
   ·
    have r1:=hB.r1 _ _ (by omega) c2pl hu;rw[<- ethere]at r1;have r2:=hB.r2 _ _ (by omega) plc hnup;have n0:th≠0:=by rcases hB.e1 with z |z<;>omega
    have n1:th≠sg (hv ((pl:Int)+1) (2^i) ns):=by rcases hB.e1 with z |z<;>rcases r2 with y |y<;>omega
    refine j8 (fi ⟨_,rfl,_,_,rfl,rfl,_,rfl,dJ (λ_=>?_) (λh0=>absurd h0 n0)⟩);refine⟨_,rfl,_,rfl,_,_,rfl,rfl,_,rfl,dJ (λ_=>?_) (λh0=>absurd h0 n1)⟩;refine aC ⟨_,rfl,_,_,rfl,rfl,?_⟩;refine cZ ⟨_,rfl,p2,cJ L,rfl,e2,by omega,by omega,λp3 H3 s3 hp3 e3=>?_⟩;refine⟨p3,2*pl+1,mv (cJ L),some (.int (0+(i:Int))),some (.int th),?_,t2.trans s3,e3,by rw[zX,lS],(HJ bS (by omega)).mono (by omega),λp q=>?_,by omega,.inr ?_,?_⟩
    ·have q1:(2:Int)*(pl:Int)+1=((2*pl+1:Nat):Int):=by omega
     have q2:((2*pl+1:Nat):Int)+1=2*((pl:Int)+1):=by omega
     rw[q2,<- hold,<- q1,<- e2i];rfl
    ·rw[JM,vS]
     have:((2*pl:Nat):Int)*q+(p+q)=((2*pl+1:Nat):Int)*q+p:=by
      have:((2*pl+1:Nat):Int)=((2*pl:Nat):Int)+1:=by omega
      rw[this];grind
     rw[this]
    ·exact hu
    ·have q2:((2*pl+1:Nat):Int)+1=2*((pl:Int)+1):=by omega
     rw[q2,<- e2i,hB.sc _ _ p2i];exact hnup
   ·
    have r2:=hB.r2 _ _ (by omega) c2pl hu;rw[<- ethere]at r2
    have r3:=hB.r3 _ _ ((pl:Int)+1) (2^i) (by omega) c2pl (by omega) plc hu (by
     have h7:(((2*pl:Nat):Int)+1)*2^i<(2*(pl:Int)+2)*2^i:=Ql (by omega) p2i;have h8:((pl:Int)+1)*2^(i+1)=(2*(pl:Int)+2)*2^i:=by rw[P8];grind
     omega)
    have low:∃(p:Addr) (q:Nat) (L':List Int) (z7 z8:Option V),[some (V.ref a),some (V.int e),some (V.int n),some (V.int (2*(pl:Int))),some (V.int (2*2^i)),some (V.int th),some (V.ref p2),some (V.int (0+(i:Int))),some (V.int th)]=[some (.ref a),some (.int e),some (.int n),some (.int q),some (.int (2^(i+1))),some (.int (sg (hv ((q:Int)+1) (2^(i+1)) ns))),some (.ref p),z7,z8]/\Same H H2/\H2 p=some (.lst (L'.map V.int))/\L'.length=ns.length/\AllB (60000+60*(i+1)) L'/\(∀p q':Int,2^(i+1)*hv p q' L'=hv (q*q'+p) (2^(i+1)*q') ns)/\q<2^(i+1)/\(q=0\/up q (2^(i+1)))/\¬up ((q:Int)+1) (2^(i+1)):=by
     refine⟨p2,2*pl,cJ L,some (.int (0+(i:Int))),some (.int th),by rw[e2i,epl,ethere],t2,e2,lS,bS.mono (by omega),vS,by omega,?_,hu⟩;rcases hup with z |z
     ·exact .inl (by omega)
     ·refine .inr ?_;rw[<- epl,<- e2i,hB.sc _ _ p2i];exact z
    by_cases n0:th=0
    ·refine j8 (fi ⟨_,rfl,_,_,rfl,rfl,_,rfl,dJ (λh0=>absurd n0 h0) (λ_=>?_)⟩);exact fN (cZ ⟨_,rfl,low⟩)
    ·have n1:th=sg (hv ((pl:Int)+1) (2^i) ns):=by
      rcases r2 with z |z
      ·rw[z,r3]
      ·exact absurd z n0
     refine j8 (fi ⟨_,rfl,_,_,rfl,rfl,_,rfl,dJ (λ_=>?_) (λh0=>absurd h0 n0)⟩);refine⟨_,rfl,_,rfl,_,_,rfl,rfl,_,rfl,dJ (λh0=>absurd n1 h0) (λ_=>?_)⟩;exact cZ ⟨_,rfl,low⟩
  ·rintro σ' H1 ⟨p,pl,L,z7,z8,rfl,s1,h1,lL,bL,hval,hpl,hup,hnup⟩;dsimp only
   refine aX ⟨_,rfl,_,rfl,by show 2<=sizeLine;decide,λp' hp'=>?_⟩;exact k p' _ pl (s1.then_new hp') (s1.free hp') au hpl hup hnup
structure RootU(ns:List Int)(l1 l2 h1 h2 ε:Int)(Up:Int->Int->Prop):Prop where
 e1:ε=1\/ε = -1
 r1:∀x1 x2,0<x2->l1*x2<x1*l2->x1*h2<=h1*x2->Up x1 x2->sg (hv x1 x2 ns) = -ε
 r2:∀x1 x2,0<x2->l1*x2<x1*l2->x1*h2<=h1*x2->¬Up x1 x2->sg (hv x1 x2 ns)=ε\/sg (hv x1 x2 ns)=0
 r3:∀x1 x2 y1 y2,0<x2->0<y2->l1*x2<x1*l2->y1*h2<=h1*y2->¬Up x1 x2->x1*y2<y1*x2->sg (hv y1 y2 ns)=ε
 sc:∀x1 x2 y1 y2,0<x2->0<y2->x1*y2=y1*x2->Up x1 x2->Up y1 y2
 low:Up l1 l2
 top:¬Up h1 h2
structure EndsG(k:Nat)(l1 l2 h1 h2:Int):Prop where
 l2p:0<l2
 h2p:0<h2
 bl1:Bits k l1
 bl2:Bits k l2
 bh1:Bits k h1
 bh2:Bits k h2
 lt:l1*h2<h1*l2
 gl:Nat.gcd l1.natAbs l2.natAbs=1
 gh:Nat.gcd h1.natAbs h2.natAbs=1
theorem EndsG.mono{j k:Nat}{l1 l2 h1 h2:Int}(e:EndsG j l1 l2 h1 h2)(h:j<=k:=by decide):EndsG k l1 l2 h1 h2:=⟨e.l2p,e.h2p,e.bl1.mono h,e.bl2.mono h,e.bh1.mono h,e.bh2.mono h,e.lt,e.gl,e.gh⟩
structure NarP(l1 l2 h1 h2 w1 w2:Int)(Up:Int->Int->Prop)(kb:Nat)(n pl:Nat)(x1 x2 y1 y2:Int):Prop where
 ends:EndsG kb x1 x2 y1 y2
 ux:Up x1 x2
 uy:¬Up y1 y2
 lo:l1*x2<=x1*l2
 hi:y1*h2<=h1*y2
 wide:(y1*x2-x1*y2)*w2<=w1*(x2*y2)
 pls:pl<2^n
 ex:x1*(l2*h2*2^n)=(l1*h2*2^n+(h1*l2-l1*h2)*pl)*x2
 ey:y1*(l2*h2*2^n)=(l1*h2*2^n+(h1*l2-l1*h2)*(pl+1))*y2
 big:∀j:Nat,j<n->w1*(h2*l2)*2^j<(h1*l2-l1*h2)*w2
 fit:(h1*l2-l1*h2)*w2<=w1*(h2*l2)*2^n
theorem DZ{x1 x2 y1 y2:Int}(hx:0<x2)(hy:0<y2)(e:x1*y2=y1*x2)(l:List Int):sg (hv x1 x2 l)=sg (hv y1 y2 l):=by
 have h1:=pj y2 x1 x2 l;have h2:=pj x2 y1 y2 l;have e1:y2*x1=x2*y1:=by rw[PQ y2,e,PQ]
 rw[e1,PQ y2 x2]at h1;rw[h1]at h2;have h3:=congrArg sg h2;rw[fc (Qo hy),fc (Qo hx)]at h3;exact h3
theorem cancel{a b c:Int}(hc:0<c)(h:a*c=b*c):a=b:=RE (Qd hc) h
theorem kL{a b c:Int}(hc:0<c)(h:a*c<=b*c):a<=b:=Int.le_of_mul_le_mul_right h hc
theorem jw{a b c:Int}(hc:0<c)(h:a*c<b*c):a<b:=QT h (Pt hc)
theorem Cp{l1 l2 h1 h2 r1 r2 x1 x2 pc pl:Int}(hr:0<r2)(er:r1*(h2*l2)=(h1*l2-l1*h2)*r2)(e:x1*(l2*r2*pc)=(l1*r2*pc+r1*l2*pl)*x2):x1*(l2*h2*pc)=(l1*h2*pc+(h1*l2-l1*h2)*pl)*x2:=by
 refine cancel hr ?_
 calc x1*(l2*h2*pc)*r2=(x1*(l2*r2*pc))*h2:=by grind
  _=(l1*r2*pc+r1*l2*pl)*x2*h2:=by rw[e]
  _=(l1*h2*pc*r2+(r1*(h2*l2))*pl)*x2:=by grind
  _=(l1*h2*pc*r2+((h1*l2-l1*h2)*r2)*pl)*x2:=by rw[er]
  _=(l1*h2*pc+(h1*l2-l1*h2)*pl)*x2*r2:=by grind
theorem zK{l1 l2 h1 h2 w1 w2 x1 x2 y1 y2 pc pl:Int}(hl:0<l2)(hh:0<h2)(hx:0<x2)(hy:0<y2)(hpc:0<pc)(hp0:0<=pl)(hp1:pl+1<=pc)(hD:0<h1*l2-l1*h2)(ex:x1*(l2*h2*pc)=(l1*h2*pc+(h1*l2-l1*h2)*pl)*x2)(ey:y1*(l2*h2*pc)=(l1*h2*pc+(h1*l2-l1*h2)*(pl+1))*y2)(fit:(h1*l2-l1*h2)*w2<=w1*(h2*l2)*pc):x1*y2<y1*x2/\l1*x2<=x1*l2/\y1*h2<=h1*y2/\(y1*x2-x1*y2)*w2<=w1*(x2*y2):=by
 have hlh:0<l2*h2:=Pl hl hh;have hM:0<l2*h2*pc:=Pl hlh hpc;have hxy:0<x2*y2:=Pl hx hy
 have hd:(y1*x2-x1*y2)*(l2*h2*pc)=(h1*l2-l1*h2)*(x2*y2):=by
  calc (y1*x2-x1*y2)*(l2*h2*pc)=(y1*(l2*h2*pc))*x2-(x1*(l2*h2*pc))*y2:=by grind
   _=((l1*h2*pc+(h1*l2-l1*h2)*(pl+1))*y2)*x2-((l1*h2*pc+(h1*l2-l1*h2)*pl)*x2)*y2:=by rw[ex,ey]
   _=(h1*l2-l1*h2)*(x2*y2):=by grind
 have hi:y1*h2<=h1*y2:=by
  refine kL (c:=l2*pc) (Pl hl hpc) ?_;have e1:y1*h2*(l2*pc)=y1*(l2*h2*pc):=by grind
  have e2:h1*y2*(l2*pc)=(l1*h2*pc+(h1*l2-l1*h2)*pc)*y2:=by grind
  rw[e1,ey,e2];refine Qf ?_ (Pt hy);have:=Q5 hp1 (Pt hD);omega
 generalize h1*l2-l1*h2=D at *
 refine⟨?_,?_,hi,?_⟩
 ·have h3:0<(y1*x2-x1*y2)*(l2*h2*pc):=by rw[hd];exact Pl hD hxy
  have h4:0<y1*x2-x1*y2:=jw hM (by rw[PX];exact h3);omega
 ·refine kL (c:=h2*pc) (Pl hh hpc) ?_;have e1:x1*l2*(h2*pc)=x1*(l2*h2*pc):=by grind
  have e2:l1*x2*(h2*pc)=l1*h2*pc*x2:=by grind
  rw[e1,ex,e2,Int.add_mul];have:0<=D*pl*x2:=PY (PY (Pt hD) hp0) (Pt hx);omega
 ·refine kL hM ?_;have e1:(y1*x2-x1*y2)*w2*(l2*h2*pc)=((y1*x2-x1*y2)*(l2*h2*pc))*w2:=by grind
  have e2:w1*(x2*y2)*(l2*h2*pc)=w1*(h2*l2)*pc*(x2*y2):=by grind
  have e3:D*(x2*y2)*w2=D*w2*(x2*y2):=by grind
  rw[e1,hd,e2,e3];exact Qf fit (Pt hxy)
def qK(C:Addr):Sp:=λvs H Q _=>∃(a l h wd:Addr) (ns:List Int) (l1 l2 h1 h2 w1 w2:Int) (k kw:Nat) (ε:Int) (Up:Int->Int->Prop),vs=[.ref a,.ref l,.ref h,.ref wd]/\H a=some (.lst (ns.map V.int))/\Tr ns/\ns≠[]/\ns.length<=12/\AllB 1000 ns/\RA C H l l1 l2/\RA C H h h1 h2/\RA C H wd w1 w2/\EndsG k l1 l2 h1 h2/\0<w1/\0<w2/\Bits kw w1/\Bits kw w2/\k<=1400/\2*k+kw<=3900/\5*k+kw<=8900/\RootU ns l1 l2 h1 h2 ε Up /\
 ∀(p x y:Addr) (H':Hp) (n pl:Nat) (x1 x2 y1 y2:Int),Same H H'->H p=none->H' p=some (.tup [.ref x,.ref y])->RA C H' x x1 x2->RA C H' y y1 y2->NarP l1 l2 h1 h2 w1 w2 Up (5*k+kw+4) n pl x1 x2 y1 y2->Q (.ref p) H'
theorem GE(F:Fun K "narrowed" "narrowed" rP f fd)(T:Txt K mg)(R:RCI K mg C)(wN:MCal P w K mg base 4 C "minus" ["self","other"] (qM C) KM Kq)(Np:Cal P w K mg base 1 "halvings" ["reach","width"] (yf C) OV Oe)(Nq:Cal P w K mg base 3 "halved" ["row","end","steps"] yg OW Of)(M7:Cal P w K mg base 3 "stretched" ["row","low","reach"] (xP C) OE NW)(eO:Cal P w K mg base 2 "sign_at" ["row","ratio"] (ie C) kG kE)(Nw:Cal P w K mg base 5 "along" ["low","reach","place","pieces"] (yq C) O1 Ol):FnOk P w K mg base CX0 6 f fd ["row","low","high","width"] (qK C):=by
 obtain⟨wq,uv,vY⟩:=wN;obtain⟨ML,Iw,Jo,LX⟩:=Np;obtain⟨MM,Ix,Jp,LY⟩:=Nq;obtain⟨Mu,Ib,I0,LH⟩:=M7;obtain⟨dX,dP,dQ,dW⟩:=eO;obtain⟨Cu,Ag,Ax,Cf⟩:=Nw;refine F.ok sc_narrowed (λvs H Q E h=>?_) (λcdv A outer s H vs Q E hr h=>?_)
 ·obtain⟨a,l,h,wd,ns,l1,l2,h1,h2,w1,w2,k,kw,ε,Up,rfl,_⟩:=h;rfl
 ·obtain⟨a,l,h,wd,ns,l1,l2,h1,h2,w1,w2,kb,kw,ε,Up,rfl,hA,hT,hne,hln,hbn,hl,hh,hw,en,hw1,hw2,bw1,bw2,hk1,hk2,hk3,hU,k⟩:=h
  refine⟨_,(ai (ar (i:=4) sc_narrowed.nd rfl (Or.inl rfl) (dm (pv 2) R.cl uv wq (hr.mono) vY .nil ah (aa (pv 1) ac)))
   (ai (ar (i:=5) sc_narrowed.nd rfl (Or.inl rfl) (al ML (hr.mono) rfl Iw Jo LX .nil ah (aa (pv 4) (aa (pv 3) ac))))
   (ai (aS (aJ cV (pv 5) af (aI _))
     (ao (aw (cU (aa (pv 1) (aa (pv 2) ac)))))
     aV)
   (ai (ar (i:=6) sc_narrowed.nd rfl (Or.inl rfl) (al MM (hr.mono) rfl Ix Jp LY .nil ah (aa (al Mu (hr.mono) rfl Ib I0 LH .nil ah (aa (pv 0) (aa (pv 1) (aa (pv 4) ac)))) (aa (al dX (hr.mono) rfl dP dQ dW .nil ah (aa (pv 0) (aa (pv 2) ac))) (aa (pv 5) ac)))))
   (ao (aw (cU (aa (al Cu (hr.mono) rfl Ag Ax Cf .nil ah (aa (pv 1) (aa (pv 4) (aa (aE (aP (K:=K) rfl) (pv 6) af (λ_ _=>rfl)) (aa (aE (aP (K:=K) rfl) (pv 6) af (λ_ _=>rfl)) ac))))) (aa (al Cu (hr.mono) rfl Ag Ax Cf .nil ah (aa (pv 1) (aa (pv 4) (aa (ak b9 (aE (aP (K:=K) rfl) (pv 6) af (λ_ _=>rfl)) af) (aa (aE (aP (K:=K) rfl) (pv 6) af (λ_ _=>rfl)) ac))))) ac))))))))),?_⟩
  obtain⟨dl,hl'⟩:=id hl;obtain⟨dh,hh'⟩:=id hh;obtain⟨l2p,h2p,bl1,bl2,bh1,bh2,lt,_,_⟩:=id en;refine aC ⟨_,rfl,h,dh,_,rfl,hh',dF _ _ zC.1 zC.2,_,rfl,h,l,h1,h2,l1,l2,kb,kb,rfl,hh,hl,bh1.mono (by omega),bh2,bl1.mono (by omega),bl2,by omega,h2p,l2p,λr H1 s1 fr hr1=>?_⟩;have d0:h2*l2≠0:=Qd (Pl h2p l2p);have er:=ge (t:=h1*l2-l1*h2) d0;have r2p:0<rb (h1*l2-l1*h2) (h2*l2):=dA d0;have br1:Bits (2*kb+1) (rt (h1*l2-l1*h2) (h2*l2)):=fg d0 (Bits.sub ((bh1.mul bl2).mono (by omega)) ((bl1.mul bh2).mono (by omega)));have br2:Bits (2*kb+1) (rb (h1*l2-l1*h2) (h2*l2)):=fj d0 ((bh2.mul bl2).mono (by omega));generalize rt (h1*l2-l1*h2) (h2*l2)=r1 at *
  generalize rb (h1*l2-l1*h2) (h2*l2)=r2 at *
  have hD:0<h1*l2-l1*h2:=by omega
  have hhl:0<h2*l2:=Pl h2p l2p;have r1p:0<r1:=jw hhl (by rw[PX,er];exact Pl hD r2p);have hA1:=s1 _ _ hA;have hl1:=hl.same s1;have hh1:=hh.same s1;refine aC ⟨_,rfl,_,rfl,r,wd,r1,r2,w1,w2,2*kb+1,kw,rfl,hr1,hw.same s1,r2p,hw1,br1,br2.mono (by omega),bw1.mono (by omega),bw2,by omega,λn hn hle hmin=>?_⟩
  have fit:(h1*l2-l1*h2)*w2<=w1*(h2*l2)*2^n:=by
   refine kL r2p ?_
   calc (h1*l2-l1*h2)*w2*r2=((h1*l2-l1*h2)*r2)*w2:=by grind
    _=r1*(h2*l2)*w2:=by rw[er]
    _=r1*w2*(h2*l2):=by grind
    _<=w1*r2*2^n*(h2*l2):=Qf hle (Pt hhl)
    _=w1*(h2*l2)*2^n*r2:=by grind
  have bigg:∀j:Nat,j<n->w1*(h2*l2)*2^j<(h1*l2-l1*h2)*w2:=λj hj=>by
   refine jw r2p ?_
   calc w1*(h2*l2)*2^j*r2=w1*r2*2^j*(h2*l2):=by grind
    _<r1*w2*(h2*l2):=Ql (hmin j hj) hhl
    _=r1*(h2*l2)*w2:=by grind
    _=(h1*l2-l1*h2)*r2*w2:=by rw[er]
    _=(h1*l2-l1*h2)*w2*r2:=by grind
  refine bZ ⟨_,rfl,_,_,rfl,rfl,_,rfl,aM (λh0=>?_) (λ_=>?_)⟩
  ·obtain rfl:n=0:=by have:(n:Int)=0:=h0;omega
   refine aX ⟨_,rfl,_,rfl,by show 2<=sizeLine;decide,λp hp=>?_⟩;have sp:=Same.upd_new (o:=.tup [V.ref l,V.ref h]) hp;have ex:l1*(l2*h2*2^0)=(l1*h2*2^0+(h1*l2-l1*h2)*((0:Nat):Int))*l2:=by rw[QA];show _=(_+_*0)*_;grind
   have ey:h1*(l2*h2*2^0)=(l1*h2*2^0+(h1*l2-l1*h2)*(((0:Nat):Int)+1))*h2:=by rw[QA];show _=(_+_*(0+1))*_;grind
   have nf:=zK (w1:=w1) (w2:=w2) (pc:=2^0) l2p h2p l2p h2p (kf 0) (PU 0) (by decide) hD ex ey fit;exact k p l h _ 0 0 l1 l2 h1 h2 (s1.then_new hp) (s1.free hp) au (hl1.same sp) (hh1.same sp) ⟨en.mono (by omega),hU.low,hU.top,PU _,PU _,nf.2.2.2,by decide,ex,ey,bigg,fit⟩
  refine aC ⟨_,rfl,_,rfl,_,rfl,a,l,r,ns,l1,l2,r1,r2,rfl,hA1,hl1,hr1,hT,hne,hln,hbn,l2p,r1p,r2p,bl1.mono hk1,bl2.mono hk1,br1.mono (by omega),br2.mono (by omega),λm s0 s1' pm e0 e1 hs1 bS p2 H2 s2 hp2 eq2=>?_⟩;have t2:=s1.trans s2;refine⟨_,rfl,_,rfl,a,h,ns,h1,h2,⟨rfl,t2 _ _ hA,hh.same t2,by omega,hbn.mono,bh1.mono (by omega),bh2.mono (by omega)⟩,λH3 s3=>?_⟩;have t3:=t2.trans s3;have lp:0<l2*r2:=Pl l2p r2p
  have top:(s0+s1')*h2=h1*m:=by
   refine cancel lp ?_
   calc (s0+s1')*h2*(l2*r2)=((s0*l2)*r2+(s1'*r2)*l2)*h2:=by grind
    _=(l1*m*r2+r1*m*l2)*h2:=by rw[e0,e1]
    _=m*(l1*r2*h2+r1*(h2*l2)):=by grind
    _=m*(l1*r2*h2+(h1*l2-l1*h2)*r2):=by rw[er]
    _=h1*m*(l2*r2):=by grind
  have pt:∀p c:Int,0<p->p<=c->0<m*c/\l1*(m*c)<(s0*c+s1'*p)*l2/\(s0*c+s1'*p)*h2<=h1*(m*c):=λp c hp hc=>by
   refine⟨Pl pm (by omega),?_,?_⟩
   ·have:(s0*c+s1'*p)*l2=l1*(m*c)+s1'*p*l2:=by
     calc (s0*c+s1'*p)*l2=(s0*l2)*c+s1'*p*l2:=by grind
      _=l1*m*c+s1'*p*l2:=by rw[e0]
      _=l1*(m*c)+s1'*p*l2:=by grind
    rw[this];have:=Pl (Pl hs1 hp) l2p;omega
   ·have h3:s1'*p<=s1'*c:=Q5 hc (Pt hs1);have h4:(s0*c+s1'*p)*h2<=(s0*c+s1'*c)*h2:=Qf (by omega) (Pt h2p)
    have h5:(s0*c+s1'*c)*h2=h1*(m*c):=by
     calc (s0*c+s1'*c)*h2=((s0+s1')*h2)*c:=by grind
      _=h1*m*c:=by rw[top]
      _=h1*(m*c):=by grind
    omega
  have vs:∀p c:Int,sg (hv p c (cu m s0 s1' ns))=sg (hv (s0*c+s1'*p) (m*c) ns):=λp c=>by rw[<- AN,fc pm]
  have hB:RootB (cu m s0 s1' ns) ε (λp c=>Up (s0*c+s1'*p) (m*c)):=by
   refine⟨hU.e1,λp c hp hc hu=>?_,λp c hp hc hu=>?_,λp c p' c' hp hc hp' hc' hu hlt=>?_,λp c hc=>?_,λhu=>?_⟩
   ·rw[vs];obtain⟨q1,q2,q3⟩:=pt p c hp hc;exact hU.r1 _ _ q1 q2 q3 hu
   ·rw[vs];obtain⟨q1,q2,q3⟩:=pt p c hp hc;exact hU.r2 _ _ q1 q2 q3 hu
   ·rw[vs];obtain⟨q1,q2,q3⟩:=pt p c hp hc;obtain⟨q1',q2',q3'⟩:=pt p' c' hp' hc';refine hU.r3 _ _ _ _ q1 q1' q2 q3' hu ?_;have h3:s1'*m*(p*c')<s1'*m*(p'*c):=R4 hlt (Pl hs1 pm);have e3:(s0*c+s1'*p)*(m*c')=s0*c*(m*c')+s1'*m*(p*c'):=by grind
    have e4:(s0*c'+s1'*p')*(m*c)=s0*c*(m*c')+s1'*m*(p'*c):=by grind
    omega
   ·have g1:0<m*c:=Pl pm hc;have g2:0<m*(2*c):=Pl pm (by omega);constructor
    ·exact hU.sc _ _ _ _ g2 g1 (by grind)
    ·exact hU.sc _ _ _ _ g1 g2 (by grind)
   ·refine hU.top (hU.sc _ _ _ _ (by rw[Qe];exact pm) h2p ?_ hu);rw[Qe,Qe,Qe];exact top
  have lstr:=jU m s0 s1' ns;have hn1:1<=ns.length:=Pq.mpr hne;refine⟨_,rfl,p2,cu m s0 s1' ns,_,n,ε,_,rfl,s3 _ _ eq2,by omega,by omega,bS,by omega,hB,?_,λp4 H4 pl s4 hp4 e4 hpl hup hnup=>?_⟩
  ·rw[vs];refine DZ h2p (by rw[Qe];exact pm) ?_ ns;rw[Qe,Qe,Qe];exact top.symm
  have t4:=t3.trans s4;have u4:=(s2.trans s3).trans s4;have b2n:Bits (n+1) ((2:Int)^n):=lY (by omega);have cpl:(pl:Int)<2^n:=by rw[iX];exact Rl.mpr hpl
  have bpl:Bits (n+1) (pl:Int):=b2n.of_le (by rw[iX];omega);have bpl1:Bits (n+1) ((pl:Int)+1):=b2n.of_le (by rw[iX];omega);have p2n:=kf n;refine aX ⟨_,rfl,_,rfl,_,rfl,p4,_,_,_,rfl,rfl,SqT.of e4,rfl,_,rfl,p4,_,_,_,rfl,rfl,SqT.of e4,rfl,l,r,l1,l2,r1,r2,pl,2^n,kb,2*kb+1,n+1,rfl,hl.same t4,hr1.same u4,l2p,r2p,p2n,bl1,bl2,br1,br2,bpl,b2n,by omega,λx H5 x1 x2 s5 hx hRx x2p ex bx1 bx2 gx=>?_⟩;have e5:=s5 _ _ e4;have t5:=t4.trans s5;have u5:=u4.trans s5;refine⟨_,rfl,_,rfl,_,rfl,p4,_,_,_,rfl,rfl,SqT.of e5,rfl,_,_,rfl,rfl,_,rfl,p4,_,_,_,rfl,rfl,SqT.of e5,rfl,l,r,l1,l2,r1,r2,pl+1,2^n,kb,2*kb+1,n+1,rfl,hl.same t5,hr1.same u5,l2p,r2p,p2n,bl1,bl2,br1,br2,bpl1,b2n,by omega,λy H6 y1 y2 s6 hy hRy y2p ey by1 by2 gy=>?_⟩;refine⟨by show 2<=sizeLine;decide,λp hp=>?_⟩;have sp:=Same.upd_new (o:=.tup [V.ref x,V.ref y]) hp;have t6:=t5.trans s6;have ex':=Cp r2p er ex;have ey':=Cp r2p er ey;have nf:=zK (w1:=w1) (w2:=w2) l2p h2p x2p y2p p2n (show(0:Int)<=(pl:Int) by omega) (by omega) hD ex' ey' fit
  have cross:∀(q z1 z2:Int),z1*(l2*r2*2^n)=(l1*r2*2^n+r1*l2*q)*z2->(s0*2^n+s1'*q)*z2=z1*(m*2^n):=λq z1 z2 ez=>by
   refine cancel lp ?_
   calc (s0*2^n+s1'*q)*z2*(l2*r2)=((s0*l2)*r2*2^n+(s1'*r2)*l2*q)*z2:=by grind
    _=(l1*m*r2*2^n+r1*m*l2*q)*z2:=by rw[e0,e1]
    _=m*((l1*r2*2^n+r1*l2*q)*z2):=by grind
    _=m*(z1*(l2*r2*2^n)):=by rw[ez]
    _=z1*(m*2^n)*(l2*r2):=by grind
  have hm2:0<m*2^n:=Pl pm p2n;refine k p x y _ n pl x1 x2 y1 y2 (t6.then_new hp) (t6.free hp) au ((hRx.same s6).same sp) (hRy.same sp) ⟨⟨x2p,y2p,bx1.mono (by omega),bx2.mono (by omega),by1.mono (by omega),by2.mono (by omega),nf.1,gx,gy⟩,?_,?_,nf.2.1,nf.2.2.1,nf.2.2.2,hpl,ex',ey',bigg,fit⟩
  ·rcases hup with z |z
   ·refine hU.sc _ _ _ _ l2p x2p ?_ hU.low;rw[z]at ex';refine cancel (Pl h2p p2n) ?_
    calc l1*x2*(h2*2^n)=(l1*h2*2^n+(h1*l2-l1*h2)*((0:Nat):Int))*x2:=by show _=(_+_*0)*_;grind
     _=x1*(l2*h2*2^n):=ex'.symm
     _=x1*l2*(h2*2^n):=by grind
   ·exact hU.sc _ _ _ _ hm2 x2p (cross _ _ _ ex) z
  ·intro hu;exact hnup (hU.sc _ _ _ _ y2p hm2 (cross _ _ _ ey).symm hu)
theorem Gw(F:Fun K "refuse_high" "refuse_high" rJ f fd)(T:Txt K mg):FnOk P w K mg base CX0 1 f fd ["height"] (λvs H Q _=>∃i:Int,vs=[.int i]/\i<=8/\Q .non H):=by
 obtain⟨tH,hHIGHEST⟩:=T.HIGHEST_;refine F.ok Ee (λvs H Q E h=>?_) (λcdv A outer s H vs Q E hr h=>?_)
 ·obtain⟨i,rfl,_⟩:=h;rfl
 ·obtain⟨i,rfl,hi,k⟩:=h
  refine⟨_,(ao (aS (aJ dD (pv 0) (FQ (v:=.int 8) rfl hHIGHEST ⟨_,rfl⟩) (aI _))
   (ao iV)
   aV)),?_⟩
  refine j8 ⟨_,rfl,_,_,rfl,rfl,_,rfl,aM (λh=>absurd (show i>8 from h) (by omega)) (λ_=>?_)⟩;exact k
structure NCI(K:PySem.W.Frag)(mg:Str->Option Value)(CN:Addr):Prop where
 cl:Cls K CN
 nP:NoAttr K CN "poly"
 nL:NoAttr K CN "low"
 nH:NoAttr K CN "high"
 mg:mg "Number"=some (.ref CN)
 ha:PySem.W.findIn K (.ref CN) "__class__"=some (some (.builtin "object.__class__"))
 hn:PySem.W.specialIn K (.builtin "object.__class__") "__get__"=some (some (.builtin "getset_descriptor.__get__"))
 ht:PySem.W.takesIn K (.builtin "object.__class__")=some true
 hm:PySem.W.mroIn K CN (.type "object")=some true
noncomputable def iy(p l h:Addr):List (Str×V):=cP "high" (.ref h) (cP "low" (.ref l) (cP "poly" (.ref p) []))
theorem FK:¬(("poly":Str)="high"):=by decide +kernel
theorem FF:¬(("poly":Str)="low"):=by decide +kernel
theorem IL:¬(("low":Str)="high"):=by decide +kernel
theorem kD(p l h:Addr):(iy p l h).lookup ("high":Str)=some (.ref h):=by unfold iy;rw[d7,if_pos rfl]
theorem va(p l h:Addr):(iy p l h).lookup ("low":Str)=some (.ref l):=by unfold iy;rw[d7,if_neg IL,d7,if_pos rfl]
theorem kC(p l h:Addr):(iy p l h).lookup ("poly":Str)=some (.ref p):=by unfold iy;rw[d7,if_neg FK,d7,if_neg FF,d7,if_pos rfl]
def NA(CN:Addr)(H:Hp)(x p l h:Addr):Prop:=∃dx,H x=some (.ins CN dx (iy p l h))
theorem NA.same{CN:Addr}{H H':Hp}{x p l h:Addr}(n:NA CN H x p l h)(s:Same H H'):NA CN H' x p l h:=let⟨dx,e⟩:=n;⟨dx,s _ _ e⟩
inductive ll(CN:Addr)(vs:List V)(H:Hp)(Q:VK)(E:XK):Prop
 |mk (x dx r l h:Addr) (ns:List V):vs=[.ref x,.ref r,.ref l,.ref h]->H x=some (.ins CN dx [])->H r=some (.lst ns)->(∀p,H p=none->Q .non (upd (upd H p (.lst ns)) x (.ins CN dx (iy p l h))))->ll CN vs H Q E
theorem Hs(F:Fun K "__init__" "Number.__init__" tz f fd)(T:Txt K mg)(RN:NCI K mg CN):FnOk P w K mg base CX0 1 f fd ["self","row","low","high"] (ll CN):=by
 refine F.ok EC (λvs H Q E h=>?_) (λcdv A outer s H vs Q E hr h=>?_)
 ·obtain⟨x,dx,r,l,h,ns,rfl,_⟩:=h;rfl
 ·obtain⟨x,dx,r,l,h,ns,rfl,hx,hR,k⟩:=h
  refine⟨_,(ai (lQ (pv 0) (i6 (vL (K:=K) rfl) (by rfl) T.list_ PyProof.Rows.boot_list (aa (pv 1) ac)) rfl)
   (ai (lQ (pv 0) (pv 2) rfl)
   (ao (lQ (pv 0) (pv 3) rfl)))),?_⟩
  refine⟨_,rfl,r,_,rfl,.inl (SqL.of hR),λp hp=>?_⟩;have npx:x≠p:=bC hx hp;refine⟨_,rfl,x,CN,dx,_,rfl,by rw[upd_ne npx];exact hx,RN.cl,RN.nP,by show 0<1000;decide,?_⟩;refine⟨_,rfl,_,rfl,x,CN,dx,_,rfl,au,RN.cl,RN.nL,by show 1<1000;decide,?_⟩;refine⟨_,rfl,_,rfl,x,CN,dx,_,rfl,au,RN.cl,RN.nH,by show 2<1000;decide,?_⟩;show Q .non (upd (upd (upd (upd H p _) x _) x _) x _);rw[nU,nU];exact k p hp
inductive xW(vs:List V)(H:Hp)(Q:VK)(E:XK):Prop
 |mk (a:Addr) (ns:List Int):vs=[.ref a]->H a=some (.lst (ns.map V.int))->ns.length<=1000->AllB 300 ns->(∀H',Same H H'->Q .non H')->xW vs H Q E
theorem Md:Bits 399 (10^60*10^60)/\(2:Int)^300<=10^60*10^60:=by
 constructor
 ·show((10:Int)^60*10^60).natAbs<2^399;decide +kernel
 ·decide +kernel
theorem Gx(F:Fun K "refuse_great" "refuse_great" rK f fd)(T:Txt K mg):FnOk P w K mg base CX0 1 f fd ["row"] xW:=by
 refine F.ok sc_refuse_great (λvs H Q E h=>?_) (λcdv A outer s H vs Q E hr h=>?_)
 ·obtain⟨a,ns,rfl,_⟩:=h;rfl
 ·obtain⟨a,ns,rfl,hA,hl,hb,k⟩:=h;have big:=sizeLine_eq
  refine⟨_,(ai (ar (i:=1) sc_refuse_great.nd rfl (Or.inr rfl) (ak aK (ak oN af af) (ak oN af af)))
   (ao (aS (Fu (ci (LC (K:=K) rfl rfl) (by rfl) T.any_ PyProof.Rows.boot_any (aa (gk (own:=["value"]) (fr:=["limit"]) (js:=[1]) (by walk_at "comp_ok") rfl (fS (K:=K) rfl (pv 0)) (λ_ _ _ _=>(aR (i:=0) (show List.Nodup (["value","limit"]:List Str)from by decide +kernel) rfl (Or.inl rfl))) (λ_ _ _ _=>(iZ oP (ci gU (by rfl) T.abs_ PyProof.Rows.boot_abs (aa (pv 0) ac)) (pv 1) (aI _)))) ac)) (by intro _;rfl))
     (ao iV)
     aV))),?_⟩
  have b6:Bits 1000000 ((10:Int)^60):=b60.mono;refine aC ⟨_,_,rfl,rfl,⟨by decide,by decide,by decide⟩,_,_,rfl,rfl,⟨by decide,by decide,by decide⟩,_,_,rfl,rfl,⟨b6,b6⟩,?_⟩;refine j8 ⟨_,rfl,a,rfl,⟨_,SqL.of hA⟩,ju (K:=K) (a:=a) (xs:=ns.map V.int) (λi ys σ' H'=>∃(z0:Option V) (bs:List Bool),σ'=[z0,some (.int (10^60*10^60))]/\ys=bs.map V.bl/\bs.length=i/\(∀x∈bs,x=false)/\H=H') (by rw[Pk];omega) ⟨none,[],rfl,rfl,rfl,(λ_ h=>nomatch h),rfl⟩ ?_ ?_ ?_⟩
  ·rintro i ys σ' H' _ ⟨z0,bs,rfl,rfl,rfl,_,rfl⟩;exact⟨SqL.of hA,by rw[Pk];exact Pn _⟩
  ·rintro i x ys σ' H' hi ⟨z0,bs,rfl,rfl,rfl,hbs,rfl⟩;obtain⟨c,_,rfl,hc,_⟩:=iw hi;refine⟨_,rfl,_,rfl,_,rfl,_,_,rfl,rfl,?_⟩;refine⟨_,bs++[false],rfl,?_,by rw[P6];rfl,λx hx=>?_,rfl⟩
   ·have hlt:¬((if c<0 then -c else c)≥10^60*10^60):=by
     have h1:c.natAbs<2^300:=hb c hc;have h2:=Md.2;have h3:((2^300:Nat):Int)=(2:Int)^300:=by rw[Rj];rfl
     have h4:(c.natAbs:Int)<(2:Int)^300:=by rw[<- h3];exact Rl.mpr h1
     generalize (2:Int)^300=X at h2 h4
     generalize (10:Int)^60*10^60=Y at h2 ⊢
     split<;>omega
    rw[Qc];show _++[V.bl (decide _)]=_;rw[decide_eq_false hlt];rfl
   ·rcases PV.mp hx with h |h
    ·exact hbs x h
    ·exact Pw.mp h
  rintro ys σ' H' p ⟨z0,bs,rfl,rfl,hbl,hbs,rfl⟩ hp;refine⟨p,bs,rfl,SqL.of au,?_⟩
  have e:bs.any id=false:=by rw[List.any_eq_false];intro x hx;rw[hbs x hx];decide
  rw[e];refine⟨_,rfl,fN ?_⟩;exact k _ (Same.upd_new hp)
theorem DX{x:Int}(h:x<0):sg x = -1:=by unfold sg;split<;>(try split)<;>omega
theorem DW{x:Int}(h:0<x):sg x=1:=by unfold sg;split<;>(try split)<;>omega
theorem fv:(¬("against":Str)="bottom")/\¬("against":Str)="top":=⟨by decide +kernel,by decide +kernel⟩
theorem b1k{k:Nat}(h:1<=k):Bits k (1:Int):=Bits.mono (j:=1) (by show(1:Int).natAbs<2^1;decide) h
theorem Bw(t:Int):dv t 1=1:=by unfold dv;rw[if_neg (by decide)];show((Nat.gcd t.natAbs 1:Nat):Int)=1;rw[RK];rfl
theorem j5(t:Int):rt t 1=t:=by have h:=j6 (t:=t) (b:=1) (by decide);rw[Bw,P7]at h;exact h
theorem ka(t:Int):rb t 1=1:=by have h:=iS (t:=t) (b:=1) (by decide);rw[Bw,P7]at h;exact h
theorem Bv{b:Int}(hb:0<b):dv 1 b=1:=by unfold dv;rw[if_neg (by omega)];show((Nat.gcd 1 b.natAbs:Nat):Int)=1;rw[Nat.gcd_one_left];rfl
theorem EG{b:Int}(hb:0<b):rt 1 b=1:=by have h:=j6 (t:=1) (b:=b) (by omega);rw[Bv hb,P7]at h;exact h
theorem E6{b:Int}(hb:0<b):rb 1 b=b:=by have h:=iS (t:=1) (b:=b) (by omega);rw[Bv hb,P7]at h;exact h
theorem Ae{CN:Addr}{H3:Hp}{q:Addr->Hp->Prop}{E:XK}{r l h:Addr}{ns:List V}(e3:H3 r=some (.lst ns))(k:∀(x p:Addr) (H':Hp),Same H3 H'->H3 x=none->NA CN H' x p l h->H' p=some (.lst ns)->H3 p=none->q x H'):∀x dx:Addr,H3 x=none->H3 dx=none->dx≠x->ll CN (.ref x::([.ref r,.ref l,.ref h]++[])) (upd (upd H3 dx (.own x)) x (.ins CN dx [])) (λv H2=>v=.non/\q x H2) E:=λx dx nx ndx ne=>by
 have npx:r≠x:=bC e3 nx;have npd:r≠dx:=bC e3 ndx;refine⟨x,dx,r,l,h,_,rfl,au,by rw[upd_ne npx,upd_ne npd];exact e3,λq hq=>⟨rfl,?_⟩⟩;have nqx:q≠x:=λz=>by rw[z,au]at hq;cases hq
 have nqd:q≠dx:=λz=>by rw[z,upd_ne ne,au]at hq;cases hq
 have hq3:H3 q=none:=by rw[upd_ne nqx,upd_ne nqd]at hq;exact hq
 refine k x q _ (λc o ec=>?_) nx ⟨dx,au⟩ (by rw[upd_ne nqx,au]) hq3;have ncx:c≠x:=bC ec nx;have ncd:c≠dx:=bC ec ndx;have e4:upd (upd H3 dx (.own x)) x (.ins CN dx []) c=some o:=by rw[upd_ne ncx,upd_ne ncd];exact ec
 rw[upd_ne ncx,upd_ne (bC e4 hq)];exact e4
theorem pQ{xs ys:List Int}{x y:Nat}(hx:AllB x xs)(hy:AllB y ys):∀i,AllB (x+i*(y+1)) (aY xs ys i).1/\AllB (x+i*(y+1)) (aY xs ys i).2
 |0=>by rw[Nat.zero_mul];exact⟨AllB.zeros,hx⟩
 |i+1=>by
  obtain⟨h1,h2⟩:=pQ hx hy i;have e:x+(i+1)*(y+1)=x+i*(y+1)+y+1:=by rw[Nat.succ_mul];omega
  have hs:Bits y (((RM.cf ys (ys.length-1)).natAbs:Nat):Int):=v9 (hy.cf _);rw[e];show AllB _ (df ys (aY xs ys i) _).1/\AllB _ (df ys (aY xs ys i) _).2;unfold df;dsimp only
  constructor
  ·intro v hv;rcases List.mem_or_eq_of_mem_set hv with h |rfl
   ·obtain⟨u,hu,rfl⟩:=PF.mp h;exact(hs.mul (h1 u hu)).mono (by omega)
   ·exact(lH (h2.cf _)).mono (by omega)
  ·refine AllB.of_cf λn=>?_
   rw[pY];by_cases hn:n<(scL (((RM.cf ys (ys.length-1)).natAbs:Nat):Int) (aY xs ys i).2).length-1
   ·rw[if_pos hn,bI]
    have m1:Bits (x+i*(y+1)+y) ((((RM.cf ys (ys.length-1)).natAbs:Nat):Int)*RM.cf (aY xs ys i).2 n):=by have:=hs.mul (h2.cf n);rwa [Nat.add_comm]at this
    refine m1.sub ?_;by_cases hp:(xs.length+1-ys.length-1-i)<=n
    ·rw[if_pos hp];exact(lH (h2.cf _)).mul (hy.cf _)
    ·rw[if_neg hp];exact Bits.zero
   ·rw[if_neg hn];exact Bits.zero
theorem iN{n:Nat}{l:List Int}(h:AllB n l):AllB n (ap l):=by
 intro y hy;obtain⟨x,hx,rfl⟩:=PF.mp hy;obtain⟨d,hd⟩:=jk hx;by_cases hg:(av l:Int)=0
 ·rw[hg,Int.ediv_zero];exact Bits.zero
 ·have e:x/(av l:Int)=d:=by rw[hd];exact Int.mul_ediv_cancel_left d hg
  rw[e];refine(h x hx).of_le ?_;rw[hd,PL];exact RC _ (Q3.mpr hg)
theorem j1(l:List Int):(ap l).length=l.length:=Pk _
theorem oz(n:Nat)(o:List Int):Run n [] o:=by cases n with |zero=>rfl |succ n=>exact .inl rfl
theorem Bs(n:Nat)(o:List Int):RM.Ends n [] o:=by cases n with |zero=>rfl |succ n=>exact .inl rfl
theorem gr8:gr 540 6=91260:=by decide
def Okr(xs:List Int):Prop:=Tr xs/\AllB 91260 xs/\xs.length<=7
theorem yP:∀(n:Nat) (one other:List Int) (x y s:Nat),one.length=s+1->s<=6->other.length<=s->s<n->Tr one->Tr other->AllB x one->AllB y other->x+1<=gr 540 (6-s)->y+1<=gr 540 (6-s+1)->Run n one other/\RM.Ends n one other/\∀xs∈aU n one other,Okr xs
 |0,one,other,x,y,s,_,_,_,h,_,_,_,_,_,_=>absurd h (Rw _)
 |m+1,one,other,x,y,s,hl,hs8,hol,hsm,t1,t2,b1,b2,g1,g2=>by
  have hne:one≠[]:=λz=>by rw[z]at hl;simp at hl
  have m1:gr 540 (6-s)<=91260:=by rw[<- gr8];exact gu 540 (by omega)
  have bo1:AllB 91260 one:=b1.mono (by omega)
  have bo2:AllB 91260 other:=by
   by_cases ho:other=[]
   ·rw[ho];exact AllB.nil
   ·have:=Pq.mpr ho;have m2:gr 540 (6-s+1)<=91260:=by rw[<- gr8];exact gu 540 (by omega)
    exact b2.mono (by omega)
  have fit:Fit one other:=⟨t1,t2,91260,bo1,bo2,by rw[hl];omega,by omega⟩
  have eS:aU (m+1) one other=one::aU m other (nxt one other):=by show(if one=[]then[]else one::aU m other (nxt one other))=_;rw[if_neg hne]
  have ok1:Okr one:=⟨t1,bo1,by omega⟩;by_cases ho:other=[]
  ·subst ho;refine⟨.inr ⟨fit,oz _ _⟩,.inr (Bs _ _),λxs hx=>?_⟩;rw[eS,gD]at hx;rw[Pw.mp hx];exact ok1
  ·have hop:=Pq.mpr ho;obtain⟨d,hd⟩:∃d,other.length=d+1:=⟨other.length-1,by omega⟩;have hN:aT one other=(s-d-1)+2:=by unfold aT;omega
   have e6:6-s+2+(s-d-1)=6-d+1:=by omega
   have rb:AllB (x+aT one other*(y+1)) (aQ one other):=((pQ b1 b2 (aT one other)).2).trim
   have nb:AllB (x+aT one other*(y+1)) (nxt one other):=by
    unfold nxt rst;rw[if_neg ho,ib (eI _ _)];refine iN λv hv=>?_
    obtain⟨u,hu,rfl⟩:=PF.mp hv;have:=(rb u hu).neg
    rwa [show -1*u = -u by omega]
   have nl:(nxt one other).length<=d:=by unfold nxt rst;rw[if_neg ho,ib (eI _ _),j1,cv];have:=gv (a:=one) ho;omega
   have nt:Tr (nxt one other):=fL (fK _);have jump:=uX 540 (6-s) (s-d-1);rw[e6]at jump;have mm:=QP (s-d-1+2) g2;obtain⟨r1,r2,r3⟩:=yP m other (nxt one other) y (x+aT one other*(y+1)) d hd (by omega) nl (by omega) t2 nt b2 nb (PM g2 (gu 540 (by omega))) (by rw[hN];omega);refine⟨.inr ⟨fit,r1⟩,.inr r2,λxs hx=>?_⟩;rw[eS]at hx;rcases Pu.mp hx with rfl |hx
   ·exact ok1
   ·exact r3 xs hx
theorem tK:∀(n:Nat) (one other:List Int),(aU n one other).length<=n
 |0,_,_=>Pn _
 |n+1,one,other=>by
  show(if one=[]then[]else one::aU n other (nxt one other)).length<=n+1;split
  ·exact Ps _
  ·have:=tK n other (nxt one other);rw[Qi];omega
theorem qU{n:Nat}{xs:List Int}(h:AllB n xs)(hl:xs.length<=9):AllB (n+4) (slopeL xs):=by intro x hx;obtain⟨k,hk,rfl⟩:=PF.mp hx;have hk':k<xs.length-1:=List.mem_range.mp hk;have b1:Bits 4 ((k:Int)+1):=QR (show((k:Int)+1).natAbs<=8 by omega) (by decide);exact(b1.mul (h.cf (k+1))).mono (by omega)
theorem yE(xs:List Int):(slopeL xs).length=xs.length-1:=by unfold slopeL;rw[Pk,QN]
theorem EO{kps:List Int}(ktr:Tr kps)(kb:AllB 530 kps)(kl:kps.length<=7):Run 9 (ap kps) (ap (slopeL kps))/\RM.Ends 9 (ap kps) (ap (slopeL kps))/\∀xs∈aU 9 (ap kps) (ap (slopeL kps)),Okr xs:=by
 by_cases h0:kps=[]
 ·subst h0
  exact⟨oz _ _,Bs _ _,λxs hx=>by
   have e:ap []=[]:=rfl;rw[e,gD]at hx
   exact nomatch hx⟩
 ·have hl:=Pq.mpr h0;obtain⟨s,hs⟩:∃s,kps.length=s+1:=⟨kps.length-1,by omega⟩;refine yP 9 (ap kps) (ap (slopeL kps)) 530 534 s (by rw[j1,hs]) (by omega) (by rw[j1,yE,hs];omega) (by omega) (fL ktr) (fL (w9 ktr)) (iN kb) (iN (qU kb (by omega))) ?_ ?_
  ·exact PM (show 531<=gr 540 0 by decide) (gu 540 (Ps _))
  ·exact PM (show 535<=gr 540 1 by decide) (gu 540 (by omega))
theorem kg{n:Nat}{l:List Int}(h:AllB n l):AllB n (aB l):=by
 unfold aB cI;split
 ·intro y hy;obtain⟨x,hx,rfl⟩:=PF.mp hy;exact(iN h x hx).neg
 ·exact iN h
theorem JW:∀s:Nat,s<=8->1<=s->(s+3)*(gr 240 (8-s+1)+1)<=1000000
 |0,_,h=>absurd h (by decide)
 |1,_,_=>by show 4*(236400+1)<=1000000;decide
 |2,_,_=>by show 5*(97920+1)<=1000000;decide
 |3,_,_=>by show 6*(40560+1)<=1000000;decide
 |4,_,_=>by show 7*(16800+1)<=1000000;decide
 |5,_,_=>by show 8*(6960+1)<=1000000;decide
 |6,_,_=>by show 9*(2880+1)<=1000000;decide
 |7,_,_=>by show 10*(1200+1)<=1000000;decide
 |8,_,_=>by show 11*(480+1)<=1000000;decide
 |n+9,h,_=>absurd h (by omega)
theorem yQ:∀(n:Nat) (one other:List Int) (x y s:Nat),one.length=s+1->s<=8->other.length<=s->s<n->Tr one->Tr other->AllB x one->AllB y other->x+1<=gr 240 (8-s)->y+1<=gr 240 (8-s+1)->kT n one other
 |0,one,other,x,y,s,_,_,_,h,_,_,_,_,_,_=>absurd h (Rw _)
 |m+1,one,other,x,y,s,hl,hs8,hol,hsm,t1,t2,b1,b2,g1,g2=>by
  by_cases ho:other=[]
  ·exact .inl ho
  have hop:=Pq.mpr ho;obtain⟨d,hd⟩:∃d,other.length=d+1:=⟨other.length-1,by omega⟩;have hN:aT one other=(s-d-1)+2:=by unfold aT;omega
  have e6:8-s+2+(s-d-1)=8-d+1:=by omega
  have rb:AllB (x+aT one other*(y+1)) (aQ one other):=((pQ b1 b2 (aT one other)).2).trim;have jump:=uX 240 (8-s) (s-d-1);rw[e6]at jump;have mm:=QP (s-d-1+2) g2;have nl:=gv (a:=one) ho;have m0:=gu 240 (show 8-s<=8-s+1 by omega);have fit:wu one other:=⟨t1,t2,gr 240 (8-s+1),b1.mono (by omega),b2.mono (by omega),by rw[hl];exact JW s hs8 (by omega),by omega⟩
  exact .inr ⟨fit,yQ m other (aB (aQ one other)) y (x+aT one other*(y+1)) d hd (by omega) (by rw[RM.plain_len];omega) (by omega) t2 (ia (eI _ _)) b2 (kg rb) (PM g2 (gu 240 (by omega))) (by
   rw[hN];generalize (s-d-1+2)*(y+1)=z at mm ⊢
   generalize (s-d-1+2)*gr 240 (8-s+1)=z2 at mm jump
   omega)⟩
structure Made(kp:List Int)(c:Int)(us:List (List Int×Nat)):Prop where
 is:kp=whl c us
 c0:c≠0
 bc:Bits 10 c
 use:Use us
 deg:dgs id us<=8
 one:2<=kp.length
 bits:AllB 230 (fP id us)
 more:AllB 230 (mor us 1)
theorem Made.len{kp:List Int}{c:Int}{us:List (List Int×Nat)}(h:Made kp c us):kp.length<=9/\(mor us 1).length<=9/\1<=(mor us 1).length/\AllB 241 kp:=by
 have ne:∀p∈us,p.1≠[]:=λp hp=>(h.use.pri p hp).pln.ne
 have h1:=(pK id us ne).1;have h2:=(pK (·-1) us ne).1;have h3:dgs (·-1) us<=dgs id us:=BD us λp _=>Nat.sub_le _ _
 have h4:=h.deg;refine⟨by rw[h.is,f6,cv];omega,by unfold mor;omega,by unfold mor;omega,?_⟩;rw[h.is,f6];intro x hx;obtain⟨y,hy,rfl⟩:=PF.mp hx;exact(h.bc.mul (h.bits y hy)).mono
theorem Made.slope{kp:List Int}{c:Int}{us:List (List Int×Nat)}(h:Made kp c us):AllB 234 (aB (slopeL kp)):=by
 have pl:=jp h.use id;have hl:=h.len.1
 have e:slopeL kp=scL c (slopeL (fP id us)):=by
  rw[h.is];refine eu ?_ λk _=>?_
  ·rw[cv,d9,d9,f6,cv]
  ·rw[bI,fI,fI,f6,bI];grind
 rw[e,ma h.c0 (f7 pl.tr)];exact kg (qU h.bits (by rw[h.is,f6,cv]at hl;exact hl))
inductive xJ(vs:List V)(H:Hp)(Q:VK)(E:XK):Prop
 |mk (a:Addr) (kp:List Int) (c:Int) (us:List (List Int×Nat)):vs=[.ref a]->H a=some (.lst (kp.map V.int))->Made kp c us->mkL H Q (flt us)->xJ vs H Q E
theorem Gb(F:Fun K "without_squares" "without_squares" re f fd)(T:Txt K mg)(Ng:Cal P w K mg base 35 "part" ["row","divisor"] xY OM N5)(Nu:Cal P w K mg base 35 "common" ["first","second"] yl OZ Oi)(nK:Cal P w K mg base 1 "slope" ["row"] (sp1 slopeL) Bj Be):FnOk P w K mg base CX0 36 f fd ["row"] xJ:=by
 obtain⟨MC,Ij,Jf,LO⟩:=Ng;obtain⟨MP,IA,Js,L3⟩:=Nu;obtain⟨nq,mz,mJ,m9⟩:=nK;refine F.ok D5 (λvs H Q E h=>?_) (λcdv A outer s H vs Q E hr h=>?_)
 ·obtain⟨a,kp,c,us,rfl,_⟩:=h;rfl
 ·obtain⟨a,kp,c,us,rfl,hA,hM,k⟩:=h;have hu:=hr.units;have eW:=hM.is;obtain⟨tW,nW,pW⟩:=k8 hM.use hM.c0;obtain⟨lW,lM,lM1,bW⟩:=hM.len;have hsl:=hM.slope;have l2':=hM.one;have eC:=wS hM.use hM.c0 (by rw[<- eW];omega);obtain⟨r1,r2⟩:=CC hM.use hM.c0;rw[<- eW]at tW nW pW eC r1 r2;have lS:=d9 kp
  refine⟨_,(ai (aS (aJ (ki (K:=K) rfl hu) (pv 0) (bj ac) (aI _))
   (ao (aw (bj ac)))
   aV)
   (ao (aw (al MC (hr.mono) rfl Ij Jf LO .nil ah (aa (pv 0) (aa (al MP (hr.mono) rfl IA Js L3 .nil ah (aa (pv 0) (aa (al nq (hr.mono) rfl mz mJ m9 .nil ah (aa (pv 0) ac)) ac))) ac)))))),?_⟩
  refine bZ ⟨_,rfl,Ps _,λp0 hp0=>?_⟩;have s0:Same H (upd H p0 (.lst [])):=Same.upd_new hp0;refine⟨a,p0,kp,[],rfl,rfl,SqL.of (s0 _ _ hA),SqL.of au,_,rfl,aM (λh0=>absurd h0 nW) (λ_=>?_)⟩;generalize upd H p0 (.lst [])=H0 at s0 ⊢
  have hA0:=s0 _ _ hA;refine aX ⟨_,rfl,_,rfl,_,rfl,a,kp,rfl,hA0,by omega,bW.mono,λp1 H1 s1 hp1 e1=>?_⟩;have t1:=s0.trans s1;obtain⟨s,hs⟩:∃s,kp.length=s+1:=⟨kp.length-1,by omega⟩;refine⟨a,p1,kp,slopeL kp,20,rfl,t1 _ _ hA,e1,tW,f7 tW,by omega,by omega,yQ 20 (aB kp) (aB (slopeL kp)) 230 234 s (by rw[RM.plain_len];exact hs) (by omega) (by rw[RM.plain_len];omega) (by omega) (ia tW) (ia (f7 tW)) (by rw[pW];exact hM.bits) hsl ?_ ?_,λp2 H2 s2 hp2 e2=>?_⟩
  ·exact PM (show 231<=gr 240 0 by decide) (gu 240 (Ps _))
  ·exact PM (show 235<=gr 240 1 by decide) (gu 240 (by omega))
  have e2':H2 p2=some (.lst ((mor us 1).map V.int)):=by rw[<- eC];exact e2
  have t2:=t1.trans s2;refine⟨a,p2,kp,_,241,rfl,t2 _ _ hA,e2',tW,(jp hM.use _).tr,bW,hM.more.mono,by have:(kp.length+2)*(241+1)<=11*242:=Qg _ (by omega);omega,by omega,(jp hM.use _).ne,r1,λp3 H3 s3 hp3 e3=>?_⟩;rw[r2]at e3;exact k p3 H3 (t2.trans s3) (t2.free hp3) e3
structure Whl(fs:List (List Int)):Prop where
 fam:Fam fs
 l2:2<=(prQ fs).length
 l7:(prQ fs).length<=7
 bits:AllB 250 (prQ fs)
noncomputable def dk(fs:List (List Int)):List (List Int):=aU 9 (ap (prQ fs)) (ap (slopeL (prQ fs)))
theorem oA{fs:List (List Int)}(hF:Fam fs)(hl:(prQ fs).length<=7){t n t' n':Int}(hn:0<n)(hn':0<n')(hlt:t*n'<t'*n):((chS (sgs t n (dk fs))).1:Int)-(chS (sgs t' n' (dk fs))).1=bJ (aL fs) t n t' n':=by have:=Lg (N:=8) (c:=1) hF.fac hF.nd (by decide) (P:=prQ fs) hF.one.symm (by omega) (by omega) hn hn' hlt;rw[pU,pU];exact this
theorem tI{fs:List (List Int)}(hF:Fam fs)(hl:(prQ fs).length<=7)(hb:AllB 250 (prQ fs)):Run 9 (ap (prQ fs)) (ap (slopeL (prQ fs)))/\(∀xs∈dk fs,xs.length<=20/\AllB 95000 xs)/\(dk fs).length<=1000000:=by
 obtain⟨r1,_,r3⟩:=EO hF.pln.tr (hb.mono) hl;refine⟨r1,λxs hx=>?_,?_⟩
 ·obtain⟨_,b,l⟩:=r3 xs hx;exact⟨by omega,b.mono⟩
 ·have:=tK 9 (ap (prQ fs)) (ap (slopeL (prQ fs)));show(aU 9 _ _).length<=_;omega
inductive x5(C:Addr)(vs:List V)(H:Hp)(Q:VK)(E:XK):Prop
 |mk (a l h:Addr) (fs:List (List Int)) (l1 l2 h1 h2:Int):vs=[.ref a,.ref l,.ref h]->H a=some (.lst ((prQ fs).map V.int))->Whl fs->RA C H l l1 l2->RA C H h h1 h2->EndsG 250 l1 l2 h1 h2->(∀H',Same H H'->Q (.int (bJ (aL fs) l1 l2 h1 h2)) H')->x5 C vs H Q E
theorem GI(F:Fun K "many_within" "many_within" rT f fd)(T:Txt K mg)(R:RCI K mg C)(jN:MCal P w K mg base 2 C "against" ["self","other"] (lv C) vy vj)(nN:Cal P w K mg base 4 "count" ["row","low","high"] (og C) Bl Bg)(nM:Cal P w K mg base 35 "row_of" ["polynomial"] oa Bk Bf):FnOk P w K mg base CX0 36 f fd ["simple","low","high"] (x5 C):=by
 obtain⟨g8,gJ,gZ⟩:=jN;obtain⟨nE,mD,mM,nh⟩:=nN;obtain⟨nC,mC,mL,ng⟩:=nM;refine F.ok Eg (λvs H Q E h=>?_) (λcdv A outer s H vs Q E hr h=>?_)
 ·obtain⟨a,l,h,fs,l1,l2,h1,h2,rfl,_⟩:=h;rfl
 ·obtain⟨a,l,h,fs,l1,l2,h1,h2,rfl,hA,hW,hl,hh,en,k⟩:=h
  refine⟨_,(ai (aS (aJ oP (dm (pv 1) R.cl gJ g8 (hr.mono) gZ .nil ah (aa (pv 2) ac)) af (aI _))
   (ao (aw af))
   aV)
   (ao (aw (al nE (hr.mono) rfl mD mM nh .nil ah (aa (al nC (hr.mono) rfl mC mL ng .nil ah (aa (pv 0) ac)) (aa (pv 1) (aa (pv 2) ac))))))),?_⟩
  have l7:=hW.l7;obtain⟨rn,rx,rl⟩:=tI hW.fam l7 hW.bits;obtain⟨dxl,hl'⟩:=id hl;refine bZ ⟨_,rfl,l,dxl,_,rfl,hl',dF _ _ fv.1 fv.2,_,rfl,l,h,l1,l2,h1,h2,rfl,hl,hh,en.bl1.mono,en.bl2.mono,en.bh1.mono,en.bh2.mono,_,_,rfl,rfl,_,rfl,aM (λhge=>?_) (λ_=>?_)⟩
  ·have:sg (l1*h2-h1*l2) = -1:=DX (by have:=en.lt;omega);rw[this]at hge;exact absurd hge (by decide)
  refine aX ⟨_,rfl,a,prQ fs,9,rfl,hA,hW.fam.pln.tr,hW.bits.mono,by omega,by decide,rn,λlr ps H1 s1 hl1 hnew el hR=>?_⟩;refine⟨_,rfl,_,rfl,lr,l,h,ps,dk fs,l1,l2,h1,h2,rfl,el,hR,hl.same s1,hh.same s1,en.bl1.mono,en.bl2.mono,en.bh1.mono,en.bh2.mono,rx,rl,λH2 s2=>?_⟩;have:=k H2 (s1.trans s2);rw[<- oA hW.fam l7 en.l2p en.h2p en.lt]at this;exact this
theorem j9{Q:Hp->Prop}{H1 H2:Hp}(e:H1=H2)(h:Q H2):Q H1:=by rw[e];exact h
inductive x8(C:Addr)(vs:List V)(H:Hp)(Q:VK)(E:XK):Prop
 |mk (p q:Addr) (t b u d:Int):vs=[.ref p,.ref q]->RA C H p t b->RA C H q u d->Bits 900 t->Bits 900 b->Bits 900 u->Bits 900 d->0<b->0<d->mkR C H Q (t*d+u*b) (2*b*d)->x8 C vs H Q E
theorem GH(F:Fun K "middle" "middle" rS f fd)(T:Txt K mg)(R:RCI K mg C)(cC:KCal P w K mg base 2 C "Ratio" ["self","top","bottom"] (dj C) eo ei eG [.int 1]):FnOk P w K mg base CX0 4 f fd ["low","high"] (x8 C):=by
 obtain⟨bU,bT,bK,cs,cT,cS⟩:=cC;refine F.ok Ef (λvs H Q E h=>?_) (λcdv A outer s H vs Q E hr h=>?_)
 ·obtain⟨p,q,t,b,u,d,rfl,_⟩:=h;rfl
 ·obtain⟨p,q,t,b,u,d,rfl,⟨dx,hp⟩,⟨dy,hq⟩,bt,bb,bu,bd,hb,hd,k⟩:=h;have b2:Bits 2 (2:Int):=by show(2:Int).natAbs<2^2;decide
  have b2b:Bits 902 (2*b):=b2.mul bb |>.mono
  refine⟨_,(ao (aw (cD bT bU (hr.mono) rfl bK cs .nil ah (aa (ak b9 (ak aK (aO (K:=K) rfl (pv 0) rfl) (aO (K:=K) rfl (pv 1) rfl)) (ak aK (aO (K:=K) rfl (pv 1) rfl) (aO (K:=K) rfl (pv 0) rfl))) (aa (ak aK (ak aK af (aO (K:=K) rfl (pv 0) rfl)) (aO (K:=K) rfl (pv 1) rfl)) ac))))),?_⟩;refine⟨_,rfl,p,C,dx,_,_,rfl,hp,R.cl,R.nT,c8 _ _,_,rfl,q,C,dy,_,_,rfl,hq,R.cl,R.nB,cq _ _,_,_,rfl,rfl,⟨bt.mono,bd.mono⟩,?_⟩;refine⟨_,rfl,q,C,dy,_,_,rfl,hq,R.cl,R.nT,c8 _ _,_,rfl,p,C,dx,_,_,rfl,hp,R.cl,R.nB,cq _ _,_,_,rfl,rfl,⟨bu.mono,bb.mono⟩,_,_,rfl,rfl,?_⟩;refine⟨_,rfl,p,C,dx,_,_,rfl,hp,R.cl,R.nB,cq _ _,_,_,rfl,rfl,⟨b2.mono,bb.mono⟩,_,rfl,q,C,dy,_,_,rfl,hq,R.cl,R.nB,cq _ _,_,_,rfl,rfl,⟨b2b.mono,bd.mono⟩,?_⟩;exact cR (Qd (Pl (by omega) hd)) ((b2b.mul bd).mono) k
theorem AG{os:List Int}{l j k:Nat}(h1:isB os l j)(h2:isB os l k):j=k:=by
 rcases Nat.lt_trichotomy j k with z |z |z
 ·obtain⟨x,hx,h⟩:=h2.2 j z;have:=h1.1 x hx;omega
 ·exact z
 ·obtain⟨x,hx,h⟩:=h1.2 k z;have:=h2.1 x hx;omega
theorem B8{ns:List Int}(h:AllB 250 ns)(hp:0<aq ns){kb:Nat}(hB:isB (ns.take (ns.length-1)) (aq ns).natAbs kb):kb<=252:=by
 rcases Nat.lt_or_ge kb 253 with z |z
 ·omega
 ·obtain⟨x,hx,h2⟩:=hB.2 252 (by omega);have h3:x.natAbs<2^250:=h x (RV hx);have h4:2^250<=2^252-1:=by decide +kernel
  have h5:2^252-1<=(2^252-1)*(aq ns).natAbs:=Nat.le_mul_of_pos_right _ (by omega);omega
def NL(H H':Hp):Prop:=∀c o,H c=some o->(∀xs,o≠.lst xs)->H' c=some o
theorem NL.of{H H':Hp}(s:Same H H'):NL H H':=λc o e _=>s c o e
theorem NL.upd{H:Hp}{p:Addr}{xs:List V}{o:HO}(hp:H p=some (.lst xs)):NL H (upd H p o):=λc o' e hn=>by
 have:c≠p:=λz=>by rw[z,hp]at e;exact hn xs (Option.some.inj e).symm
 rw[upd_ne this];exact e
theorem NL.trans{H1 H2 H3:Hp}(a:NL H1 H2)(b:NL H2 H3):NL H1 H3:=λc o e hn=>b c o (a c o e hn) hn
theorem RA.nl{C:Addr}{H H':Hp}{p:Addr}{t b:Int}(h:RA C H p t b)(s:NL H H'):RA C H' p t b:=let⟨dx,e⟩:=h;⟨dx,s _ _ e (λ_=>by simp)⟩
structure Cel where
 q:Addr
 lo:Addr
 hi:Addr
 l1:Int
 l2:Int
 h1:Int
 h2:Int
 d:Nat
noncomputable def VV(fs:List (List Int))(t n:Int):Int:=(chS (sgs t n (dk fs))).1
noncomputable def Cel.cn(x:Cel)(fs:List (List Int)):Int:=bJ (aL fs) x.l1 x.l2 x.h1 x.h2
def Cel.inn(x:Cel)(s:List Int):Prop:=0<aj s x.l1 x.l2/\aj s x.h1 x.h2<=0
structure WtH(C:Addr)(H:Hp)(fs:List (List Int))(kb:Nat)(x:Cel):Prop where
 tup:H x.q=some (.tup [.ref x.lo,.ref x.hi,.int (VV fs x.l1 x.l2),.int (VV fs x.h1 x.h2)])
 lo:RA C H x.lo x.l1 x.l2
 hi:RA C H x.hi x.h1 x.h2
 dy:Dya (2^kb) x.d x.l1 x.l2 x.h1 x.h2
 dd:x.d<=kb+201
theorem WtH.nl{C:Addr}{H H':Hp}{fs:List (List Int)}{kb:Nat}{x:Cel}(h:WtH C H fs kb x)(s:NL H H'):WtH C H' fs kb x:=⟨s _ _ h.tup (λ_=>by simp),h.lo.nl s,h.hi.nl s,h.dy,h.dd⟩
structure FdH(C:Addr)(H:Hp)(fs:List (List Int))(kb:Nat)(x:Cel):Prop where
 tup:H x.q=some (.tup [.ref x.lo,.ref x.hi])
 lo:RA C H x.lo x.l1 x.l2
 hi:RA C H x.hi x.h1 x.h2
 dy:Dya (2^kb) x.d x.l1 x.l2 x.h1 x.h2
 dd:x.d<=kb+201
 one:x.cn fs=1
theorem FdH.nl{C:Addr}{H H':Hp}{fs:List (List Int)}{kb:Nat}{x:Cel}(h:FdH C H fs kb x)(s:NL H H'):FdH C H' fs kb x:=⟨s _ _ h.tup (λ_=>by simp),h.lo.nl s,h.hi.nl s,h.dy,h.dd,h.one⟩
theorem pL{kb d:Nat}{l1 l2 h1 h2:Int}(h:Dya (2^kb) d l1 l2 h1 h2)(hk:kb<=252)(hd:d<=kb+201):Bits 710 l1/\Bits 710 l2/\Bits 710 h1/\Bits 710 h2:=by obtain⟨⟨a,b⟩,c,e⟩:=h.bits;have hp:2^(kb+d)<2^710:=(RL (by decide)).mpr (by omega);exact⟨QR a hp,QR b hp,QR c hp,QR e hp⟩
theorem KQ{kb d:Nat}{l1 l2 h1 h2:Int}(h:Dya (2^kb) d l1 l2 h1 h2)(hk:kb<=252)(hd:d<=kb+201):EndsG 710 l1 l2 h1 h2:=by obtain⟨a,b,c,e⟩:=pL h hk hd;exact⟨h.l2p,h.h2p,a,b,c,e,h.lt (Qo (by decide)),h.gl,h.gh⟩
noncomputable def wgt(fs:List (List Int))(kb:Nat)(x:Cel):Nat:=1+2*((x.cn fs).toNat*(kb+201-x.d))
noncomputable def eQ(fs:List (List Int))(kb:Nat)(ws:List Cel):Nat:=(ws.map (wgt fs kb)).sum
theorem jO(fs:List (List Int))(kb:Nat)(ws:List Cel)(x:Cel):eQ fs kb (ws++[x])=eQ fs kb ws+wgt fs kb x:=by unfold eQ;rw[Qc,List.sum_append];simp
theorem qm(fs:List (List Int))(kb:Nat):∀ws:List Cel,ws.length<=eQ fs kb ws
 | []=>Pn _
 |x::ws=>by have:=qm fs kb ws;show ws.length+1<=wgt fs kb x+eQ fs kb ws;unfold wgt;omega
noncomputable def qs(ws:List Cel):List V:=ws.map λx=>V.ref x.q
theorem oB(ws:List Cel)(x:Cel):qs (ws++[x])=qs ws++[V.ref x.q]:=by unfold qs;rw[Qc];rfl
theorem BP(l1 l2 h1 h2:Int):∀ls:List (List Int),bJ ls l1 l2 h1 h2<=ls.length
 | []=>PU _
 |l::ls=>by rw[du];have:=BP l1 l2 h1 h2 ls;rw[Qi];split<;>omega
theorem xG:∀fs:List (List Int),(aL fs).length<=2*fs.length
 | []=>Pn _
 |f::fs=>by
  have:=xG fs;show(spF f++aL fs).length<=2*(fs.length+1);rw[P6]
  have h2:(spF f).length<=2:=by unfold spF;rw[P6];split<;>split<;>simp
  omega
theorem Kt{fs:List (List Int)}(h:Fam fs):fs.length+1<=(prQ fs).length:=by
 have hp:=h.pri;rw[h.prd];generalize hs:fs.map ag=ss at hp
 have e:fs.length=ss.length:=by rw[<- hs,Pk]
 rw[e];clear e hs h
 induction ss with
 |nil=>simp[prd]
 |cons s ss ih =>
  have h1:=ih λx hx=>hp x (Pz _ hx)
  have h2:=hp s (PH ..);have h3:Pln (prd ss):=iW ss λx hx=>(hp x (Pz _ hx)).pln
  have h4:=bM h2.pln.ne h3.ne;have h5:=h2.two;show ss.length+1+1<=(ad s (prd ss)).length;omega
def cov(s:List Int)(xs:List Cel):Prop:=∃x∈xs,x.inn s
theorem cov_snoc{s:List Int}{xs:List Cel}{x:Cel}:cov s (xs++[x])↔cov s xs\/x.inn s:=by
 constructor
 ·rintro⟨y,hy,h⟩;rcases PV.mp hy with z |z
  ·exact .inl ⟨y,z,h⟩
  ·rw[Pw.mp z]at h;exact .inr h
 ·rintro(⟨y,hy,h⟩ |h)
  ·exact⟨y,QI _ hy,h⟩
  ·exact⟨x,by simp,h⟩
def yn(C:Addr):Sp:=λvs H Q _=>∃(a:Addr) (fs:List (List Int)),vs=[.ref a]/\H a=some (.lst ((prQ fs).map V.int))/\Whl fs /\
 ∀(kb:Nat) (p:Addr) (ys:List Cel) (H':Hp),kb<=252->isB ((prQ fs).take ((prQ fs).length-1)) (aq (prQ fs)).natAbs kb->Same H H'->H p=none->H' p=some (.lst (qs ys))->(∀y∈ys,FdH C H' fs kb y)->(∀s∈aL fs,cov s ys)->ys.length<=12000->Q (.ref p) H'
theorem GY(F:Fun K "cells" "cells" sD f fd)(T:Txt K mg)(R:RCI K mg C)(g9:Cal P w K mg base 1 "degree" ["row"] jW pJ pI)(nM:Cal P w K mg base 35 "row_of" ["polynomial"] oa Bk Bf)(cC:KCal P w K mg base 2 C "Ratio" ["self","top","bottom"] (dj C) eo ei eG [.int 1])(nO:Cal P w K mg base 1 "bound" ["row"] (oi K) Bm Bh)(wH:Cal P w K mg base 3 "changes" ["row","ratio"] (qQ C) KG Kk)(Nk:Cal P w K mg base 4 "middle" ["low","high"] (x8 C) OQ N9):FnOk P w K mg base CX0 36 f fd ["row"] (yn C):=by
 obtain⟨eN,d6,ee,eK⟩:=g9;obtain⟨nC,mC,mL,ng⟩:=nM;obtain⟨bU,bT,bK,cs,cT,cS⟩:=cC;obtain⟨jG,jb,jh,jB⟩:=nO;obtain⟨kY,kx,kA,kO⟩:=wH;obtain⟨MG,Io,Jj,LS⟩:=Nk;refine F.ok sc_cells (λvs H Q E h=>?_) (λcdv A outer s H vs Q E hr h=>?_)
 ·obtain⟨a,fs,rfl,_⟩:=h;rfl
 ·obtain⟨a,fs,rfl,hA,hW,k⟩:=h;have big:=sizeLine_eq;have hP:=hW.fam.pln;have l7:=hW.l7;have l2':=hW.l2;have hml:((prQ fs).map V.int).length=(prQ fs).length:=Pk _;obtain⟨rn,rx,rl⟩:=tI hW.fam l7 hW.bits
  refine⟨_,(ai (aS (aJ dL (al eN (hr.mono) rfl d6 ee eK .nil ah (aa (pv 0) ac)) af (aI _))
   (ao (aw (bj ac)))
   aV)
   (ai (ar (i:=1) sc_cells.nd rfl (Or.inl rfl) (al nC (hr.mono) rfl mC mL ng .nil ah (aa (pv 0) ac)))
   (ai (ar (i:=2) sc_cells.nd rfl (Or.inl rfl) (cD bT bU (hr.mono) rfl bK cT cS ah (aa (al jG (hr.mono) rfl jb jh jB .nil ah (aa (pv 0) ac)) ac)))
   (ai (ar (i:=3) sc_cells.nd rfl (Or.inl rfl) (cD bT bU (hr.mono) rfl bK cT cS ah (aa (b7 bV (al jG (hr.mono) rfl jb jh jB .nil ah (aa (pv 0) ac))) ac)))
   (ai (ar (i:=4) sc_cells.nd rfl (Or.inl rfl) (bj (aa (cU (aa (pv 3) (aa (pv 2) (aa (al kY (hr.mono) rfl kx kA kO .nil ah (aa (pv 1) (aa (pv 3) ac))) (aa (al kY (hr.mono) rfl kx kA kO .nil ah (aa (pv 1) (aa (pv 2) ac))) ac))))) ac)))
   (ai (ar (i:=5) sc_cells.nd rfl (Or.inl rfl) (bj ac))
   (ai (gF PassesOwn.never (aJ dD (ci (dz (K:=K) rfl) (by rfl) T.len_ PySem.boot_len (aa (pv 4) ac)) af (aI _))
     (ai (ar (i:=6) sc_cells.nd rfl (Or.inl rfl) (zn PySem.F.plainAttrs_list PySem.F.slot_list_pop PySem.F.type_list_pop HH (pv 4)))
       (ai (ar (i:=7) sc_cells.nd rfl (Or.inl rfl) (ak cz (aE (aP (K:=K) rfl) (pv 6) af (λ_ _=>rfl)) (aE (aP (K:=K) rfl) (pv 6) af (λ_ _=>rfl))))
       (ai (aS (aJ cV (pv 7) af (aI _))
         (ao (ii (me PySem.F.plainAttrs_list PySem.F.slot_list_append PySem.F.type_list_append mr (pv 5) (aa (cU (aa (aE (aP (K:=K) rfl) (pv 6) af (λ_ _=>rfl)) (aa (aE (aP (K:=K) rfl) (pv 6) af (λ_ _=>rfl)) ac))) ac))))
         aV)
       (ao (aS (aJ dD (pv 7) af (aI _))
         (ai (ar (i:=8) sc_cells.nd rfl (Or.inl rfl) (al MG (hr.mono) rfl Io Jj LS .nil ah (aa (aE (aP (K:=K) rfl) (pv 6) af (λ_ _=>rfl)) (aa (aE (aP (K:=K) rfl) (pv 6) af (λ_ _=>rfl)) ac))))
           (ai (ar (i:=9) sc_cells.nd rfl (Or.inl rfl) (al kY (hr.mono) rfl kx kA kO .nil ah (aa (pv 1) (aa (pv 8) ac))))
           (ai (ii (me PySem.F.plainAttrs_list PySem.F.slot_list_append PySem.F.type_list_append mr (pv 4) (aa (cU (aa (pv 8) (aa (aE (aP (K:=K) rfl) (pv 6) af (λ_ _=>rfl)) (aa (pv 9) (aa (aE (aP (K:=K) rfl) (pv 6) af (λ_ _=>rfl)) ac))))) ac)))
           (ao (ii (me PySem.F.plainAttrs_list PySem.F.slot_list_append PySem.F.type_list_append mr (pv 4) (aa (cU (aa (aE (aP (K:=K) rfl) (pv 6) af (λ_ _=>rfl)) (aa (pv 8) (aa (aE (aP (K:=K) rfl) (pv 6) af (λ_ _=>rfl)) (aa (pv 9) ac))))) ac)))))))
         aV))))))
   (ao (aw (pv 5)))))))))),?_⟩
  refine bZ ⟨_,rfl,a,_,rfl,hA,_,_,rfl,rfl,_,rfl,aM (λh0=>absurd (show(((prQ fs).map V.int).length:Int)-1<1 from h0) (by rw[hml];omega)) (λ_=>?_)⟩;refine aC ⟨_,rfl,a,prQ fs,9,rfl,hA,hP.tr,hW.bits.mono,by omega,by decide,rn,λpc ps H1 s1 hpc hnew ec hR=>?_⟩;have hR':RwH H1 ps (dk fs):=hR;refine aC ⟨_,rfl,a,prQ fs,rfl,SqL.of (s1 _ _ hA),hP.tr,hP.ne,by omega,hW.bits.mono,λkb H2 hkb hB s2=>cR (t:=((2^kb:Nat):Int)) (b:=1) (by decide) (b1k (by decide)) λph H3 s3 hph hRh=>?_⟩;rw[j5,ka]at hRh;have t3:=(s1.trans s2).trans s3;refine aC ⟨_,rfl,a,prQ fs,rfl,SqL.of (t3 _ _ hA),hP.tr,hP.ne,by omega,hW.bits.mono,λkb' H4 hkb' hB' s4=>?_⟩;obtain rfl:=AG hB hB';refine⟨_,rfl,cR (t := -((2^kb:Nat):Int)) (b:=1) (by decide) (b1k (by decide)) λpl H5 s5 hpl hRl=>?_⟩;rw[j5,ka]at hRl;have hk:=B8 hW.bits hP.pos hB;have eB:((2^kb:Nat):Int)=(2:Int)^kb:=by rw[Rj];rfl
  rw[eB]at hRh hRl;have B0:(0:Int)<2^kb:=Qo (by decide);have t5:=(t3.trans s4).trans s5;have u5:=(s2.trans s3).trans (s4.trans s5);have ec5:=u5 _ _ ec;have hR5:=hR'.same u5;have hRh5:=hRh.same (s4.trans s5);have dy0:Dya (2^kb) 0 (-(2^kb)) 1 (2^kb) 1:=Dya.start;obtain⟨b1,b2,b3,b4⟩:=pL dy0 hk (by omega);refine aC ⟨_,rfl,_,rfl,_,rfl,_,rfl,pc,pl,ps,dk fs,_,_,rfl,ec5,hR5,hRl,b1.mono,b2.mono,rx,rl,λH6 s6=>?_⟩;refine⟨_,rfl,_,rfl,pc,ph,ps,dk fs,_,_,rfl,s6 _ _ ec5,hR5.same s6,hRh5.same s6,b3.mono,b4.mono,rx,rl,λH7 s7=>⟨by show 4<=sizeLine;omega,λq0 hq0=>⟨by show 1<=sizeLine;omega,λpw hpw=>?_⟩⟩⟩;have u7:=s6.trans s7;have ec7:=u7 _ _ ec5;have hR7:=hR5.same u7;have hRl7:=hRl.same u7;have hRh7:=hRh5.same u7;have t7:=t5.trans u7;have w7:Same H7 (upd H7 q0 (.tup [.ref pl,.ref ph,.int (VV fs (-(2^kb)) 1),.int (VV fs (2^kb) 1)])):=Same.upd_new hq0;have e8:upd H7 q0 (.tup [.ref pl,.ref ph,.int (VV fs (-(2^kb)) 1),.int (VV fs (2^kb) 1)]) q0=some (.tup [.ref pl,.ref ph,.int (VV fs (-(2^kb)) 1),.int (VV fs (2^kb) 1)]):=au;have hpw':upd H7 q0 (.tup [.ref pl,.ref ph,.int (VV fs (-(2^kb)) 1),.int (VV fs (2^kb) 1)]) pw=none:=hpw;refine aC ⟨Ps _,λpf hpf=>?_⟩;have hpf':upd (upd H7 q0 (.tup [.ref pl,.ref ph,.int (VV fs (-(2^kb)) 1),.int (VV fs (2^kb) 1)])) pw (.lst [V.ref q0]) pf=none:=hpf;show di _ _ _ _ _;refine gb (λσ' H'=>σ'=[some (.ref a),some (.ref pc),some (.ref ph),some (.ref pl),some (.ref pw),some (.ref pf),none,none,none,none]/\upd (upd (upd H7 q0 (.tup [.ref pl,.ref ph,.int (VV fs (-(2^kb)) 1),.int (VV fs (2^kb) 1)])) pw (.lst [V.ref q0])) pf (.lst [])=H') ⟨rfl,rfl⟩ ?_;rintro σ' H10 ⟨rfl,eH10⟩;generalize upd H7 q0 (.tup [.ref pl,.ref ph,.int (VV fs (-(2^kb)) 1),.int (VV fs (2^kb) 1)])=H8 at w7 e8 hpw' hpf' eH10
  have sw:Same H8 (upd H8 pw (.lst [V.ref q0])):=Same.upd_new hpw';have sf:Same (upd H8 pw (.lst [V.ref q0])) H10:=by rw[<- eH10];exact Same.upd_new hpf'
  have s810:=sw.trans sf;have fw:H8 pw=none:=hpw';have ff:H8 pf=none:=sw.free hpf';have nwf:pw≠pf:=bC (au (H:=H8) (o:=.lst [V.ref q0])) hpf';have ew10:H10 pw=some (.lst [V.ref q0]):=sf _ _ au;have ef10:H10 pf=some (.lst []):=by rw[<- eH10];exact au
  have x0w:WtH C H10 fs kb ⟨q0,pl,ph,-(2^kb),1,2^kb,1,0⟩:=⟨s810 _ _ e8,hRl7.same (w7.trans s810),hRh7.same (w7.trans s810),dy0,Ps _⟩
  have cov0:∀s∈aL fs,cov s [⟨q0,pl,ph,-(2^kb),1,2^kb,1,0⟩]:=λs hs=>by obtain⟨z1,z2⟩:=xI hW.fam.fac hW.fam.nd (B:=2^kb) (QM (by decide)) hB.1 hs;rw[eB]at z1 z2;exact⟨_,Pw.mpr rfl,z2,Pt z1⟩
  clear eH10 sw sf;have hsp:=xG fs;have hfl:=Kt hW.fam
  have hm0:eQ fs kb [⟨q0,pl,ph,-(2^kb),1,2^kb,1,0⟩]<=11000:=by
   show wgt fs kb _+0<=11000;unfold wgt;have h1:=BP (-(2^kb)) 1 (2^kb) 1 (aL fs)
   have h2:(Cel.cn ⟨q0,pl,ph,-(2^kb),1,2^kb,1,0⟩ fs).toNat<=12:=by show(bJ (aL fs) (-(2^kb)) 1 (2^kb) 1).toNat<=12;omega
   have h3:=QF h2 (show kb+201-0<=453 by omega);have h4:(kb+201-(Cel.mk q0 pl ph (-(2^kb)) 1 (2^kb) 1 0).d)=kb+201-0:=rfl;rw[h4];omega
  refine⟨λm σ' H'=>∃(ws ys:List Cel) (z6 z7 z8 z9:Option V),m=eQ fs kb ws/\σ'=[some (.ref a),some (.ref pc),some (.ref ph),some (.ref pl),some (.ref pw),some (.ref pf),z6,z7,z8,z9]/\Same H8 H'/\H' pw=some (.lst (qs ws))/\H' pf=some (.lst (qs ys))/\(∀x∈ws,WtH C H' fs kb x)/\(∀y∈ys,FdH C H' fs kb y)/\(∀s∈aL fs,cov s ws\/cov s ys)/\ys.length+m<=11000,
   ⟨_,[⟨q0,pl,ph,-(2^kb),1,2^kb,1,0⟩],[],none,none,none,none,rfl,rfl,s810,ew10,ef10,λx hx=>by rw[Pw.mp hx];exact x0w,(λy hy=>nomatch hy),λs hs=>.inl (cov0 s hs),by show 0+_<=_;omega⟩,?_⟩
  clear hm0 cov0 x0w ew10 ef10 s810;rintro m σ' H' ⟨ws,ys,z6,z7,z8,z9,rfl,rfl,sm,ew,ef,hws,hys,hcov,hlen⟩;have hwl:=qm fs kb ws;have hql:(qs ws).length=ws.length:=Pk _;refine⟨_,rfl,pw,_,rfl,.inl (SqL.of ew),_,_,rfl,rfl,_,rfl,aM (λhgt=>?_) (λhle=>?_)⟩
  rotate_left
  ·
   have h0:ws=[]:=Qz.mp (by have:¬((qs ws).length:Int)>0:=hle;rw[hql]at this;omega);subst h0;refine⟨_,rfl,k kb pf ys H' hk hB (t7.trans (w7.trans sm)) ((t7.trans w7).free ff) ef hys (λs hs=>?_) (by omega)⟩;rcases hcov s hs with⟨x,hx,_⟩ |z
   ·cases hx
   ·exact z
  ·have hne:ws≠[]:=λz=>by rw[z]at hql;have:((qs ws).length:Int)>0:=hgt;rw[z]at this;exact absurd this (by decide)
   obtain⟨ws',x,rfl⟩:∃ws' x,ws=ws'++[x]:=⟨ws.dropLast,ws.getLast hne,(List.dropLast_concat_getLast hne).symm⟩;rw[jO]at hlen;rw[oB]at ew;have hx:=hws x (by simp);have hw':∀y∈ws',WtH C H' fs kb y:=λy hy=>hws y (by simp[hy])
   clear hws hql hgt hne;have hwl:=qm fs kb ws';refine⟨λσ'' H''=>∃m',m'<eQ fs kb (ws'++[x])/\∃(ws ys:List Cel) (z6 z7 z8 z9:Option V),m'=eQ fs kb ws/\σ''=[some (.ref a),some (.ref pc),some (.ref ph),some (.ref pl),some (.ref pw),some (.ref pf),z6,z7,z8,z9]/\Same H8 H''/\H'' pw=some (.lst (qs ws))/\H'' pf=some (.lst (qs ys))/\(∀x∈ws,WtH C H'' fs kb x)/\(∀y∈ys,FdH C H'' fs kb y)/\(∀s∈aL fs,cov s ws\/cov s ys)/\ys.length+m'<=11000,λ_ _ h=>h,?_⟩;rw[jO];refine aC ⟨_,rfl,.inl ⟨rfl,_,SqL.of ew⟩,pw,_,V.ref x.q,rfl,rfl,ew,by rw[P6];simp,?_⟩;rw[List.dropLast_concat];have ew1:upd H' pw (.lst (qs ws')) pw=some (.lst (qs ws')):=au;have ef1:upd H' pw (.lst (qs ws')) pf=some (.lst (qs ys)):=by rw[upd_ne (Ne.symm nwf)];exact ef
   have n1:NL H' (upd H' pw (.lst (qs ws'))):=NL.upd ew;have sm1:Same H8 (upd H' pw (.lst (qs ws'))):=gG sm fw;generalize upd H' pw (.lst (qs ws'))=K1 at ew1 ef1 n1 sm1 ⊢
   have hx1:=hx.nl n1;have hw1:∀y∈ws',WtH C K1 fs kb y:=λy hy=>(hw' y hy).nl n1
   have hy1:∀y∈ys,FdH C K1 fs kb y:=λy hy=>(hys y hy).nl n1
   clear hw' hys ew ef sm n1 hx;refine aC ⟨_,rfl,x.q,_,_,_,rfl,rfl,SqT.of hx1.tup,rfl,_,rfl,x.q,_,_,_,rfl,rfl,SqT.of hx1.tup,rfl,_,_,rfl,rfl,?_⟩;have ecn:VV fs x.l1 x.l2-VV fs x.h1 x.h2=x.cn fs:=oA hW.fam l7 hx1.dy.l2p hx1.dy.h2p (hx1.dy.lt B0);dsimp only
   rw[ecn];have cn0:0<=x.cn fs:=mW _ _ _ _ _;refine dY (λσ' H'=>∃ys:List Cel,σ'=[some (.ref a),some (.ref pc),some (.ref ph),some (.ref pl),some (.ref pw),some (.ref pf),some (.ref x.q),some (.int (x.cn fs)),z8,z9]/\Same H8 H'/\H' pw=some (.lst (qs ws'))/\H' pf=some (.lst (qs ys))/\WtH C H' fs kb x/\(∀y∈ws',WtH C H' fs kb y)/\(∀y∈ys,FdH C H' fs kb y)/\(∀s∈aL fs,cov s ws'\/(x.cn fs≠1/\x.inn s)\/cov s ys)/\ys.length+eQ fs kb ws'+(if x.cn fs=1 then 0 else wgt fs kb x)<=11000) ?_ ?_
   case refine_2 =>
    intro rest;refine⟨_,rfl,_,_,rfl,rfl,_,rfl,aM (λh1=>?_) (λh1=>?_)⟩
    ·have h1':x.cn fs=1:=h1;refine yV ⟨_,rfl,.inl ⟨rfl,_,SqL.of ef1⟩,_,rfl,x.q,_,_,_,rfl,rfl,SqT.of hx1.tup,rfl,_,rfl,x.q,_,_,_,rfl,rfl,SqT.of hx1.tup,rfl,by show 2<=sizeLine;omega,λp hp=>?_⟩;have s2:Same K1 (upd K1 p (.tup [V.ref x.lo,V.ref x.hi])):=Same.upd_new hp;have e2:upd K1 p (.tup [V.ref x.lo,V.ref x.hi]) p=some (.tup [V.ref x.lo,V.ref x.hi]):=au;generalize upd K1 p (.tup [V.ref x.lo,V.ref x.hi])=K2 at s2 e2 ⊢
     have ef2:=s2 _ _ ef1;have hyl:(qs ys).length=ys.length:=Pk _;refine⟨pf,_,_,rfl,rfl,ef2,by rw[hyl];omega,?_⟩;have n3:NL K1 (upd K2 pf (.lst (qs ys++[V.ref p]))):=(NL.of s2).trans (NL.upd ef2);have n4:NL K2 (upd K2 pf (.lst (qs ys++[V.ref p]))):=NL.upd ef2;refine rest _ _ ⟨ys++[⟨p,x.lo,x.hi,x.l1,x.l2,x.h1,x.h2,x.d⟩],rfl,gG (sm1.trans s2) ff,by rw[upd_ne nwf];exact s2 _ _ ew1,by rw[au,oB],hx1.nl n3,λy hy=>(hw1 y hy).nl n3,λy hy=>?_,λs hs=>?_,?_⟩
     ·rcases PV.mp hy with z |z
      ·exact(hy1 y z).nl n3
      ·rw[Pw.mp z];exact⟨n4 _ _ e2 (λ_=>by simp),hx1.lo.nl n3,hx1.hi.nl n3,hx1.dy,hx1.dd,h1'⟩
     ·rcases hcov s hs with z |z
      ·rcases cov_snoc.mp z with z |z
       ·exact .inl z
       ·exact .inr (.inr (cov_snoc.mpr (.inr z)))
      ·exact .inr (.inr (cov_snoc.mpr (.inl z)))
     ·rw[if_pos h1',P6];show ys.length+1+_+0<=_;have:1<=wgt fs kb x:=by unfold wgt;omega
      omega
    ·have h1':¬x.cn fs=1:=h1;refine rest _ _ ⟨ys,rfl,sm1,ew1,ef1,hx1,hw1,hy1,λs hs=>?_,by rw[if_neg h1'];omega⟩;rcases hcov s hs with z |z
     ·rcases cov_snoc.mp z with z |z
      ·exact .inl z
      ·exact .inr (.inl ⟨h1',z⟩)
     ·exact .inr (.inr z)
   clear hcov hlen hy1 hw1 hx1 ef1 ew1 sm1 ys;rintro σ' K3 ⟨ys,rfl,sm1,ew1,ef1,hx1,hw1,hy1,hcov,hlen⟩;refine⟨_,rfl,_,_,rfl,rfl,_,rfl,aM (λh2=>?_) (λh2=>?_)⟩
   rotate_left
   ·
    have h2':¬x.cn fs>1:=h2;refine⟨eQ fs kb ws',by unfold wgt;omega,ws',ys,_,_,_,_,rfl,rfl,sm1,ew1,ef1,hw1,hy1,λs hs=>?_,by split at hlen<;>omega⟩;rcases hcov s hs with z |⟨z1,z2⟩ |z
    ·exact .inl z
    ·have:1<=x.cn fs:=BO hs z2;omega
    ·exact .inr z
   have h2':x.cn fs>1:=h2;rw[if_neg (show ¬x.cn fs=1 by omega)]at hlen
   have hdl:x.d<kb+201:=Nat.not_le.mp λz=>by have:x.cn fs<=1:=Dya.few hW.fam.fac hW.fam.nd hx1.dy z;omega
   obtain⟨c1,c2,c3,c4⟩:=pL hx1.dy hk hx1.dd;refine aC ⟨_,rfl,x.q,_,_,_,rfl,rfl,SqT.of hx1.tup,rfl,_,rfl,x.q,_,_,_,rfl,rfl,SqT.of hx1.tup,rfl,x.lo,x.hi,_,_,_,_,rfl,hx1.lo,hx1.hi,c1.mono,c2.mono,c3.mono,c4.mono,hx1.dy.l2p,hx1.dy.h2p,λpm K4 s4 hpm hRm=>?_⟩;have n0:2*x.l2*x.h2≠0:=Qd (Pl (by have:=hx1.dy.l2p;omega) hx1.dy.h2p);obtain⟨dl,dr⟩:=hx1.dy.half (dA n0) (lK n0) (ge n0);generalize rt (x.l1*x.h2+x.h1*x.l2) (2*x.l2*x.h2)=m1 at hRm dl dr
   generalize rb (x.l1*x.h2+x.h1*x.l2) (2*x.l2*x.h2)=m2 at hRm dl dr
   have hx4:=hx1.nl (NL.of s4);obtain⟨g1,g2,g3,g4⟩:=pL dl hk (by omega);have sm4:=sm1.trans s4;refine aC ⟨_,rfl,_,rfl,pc,pm,ps,dk fs,m1,m2,rfl,sm4 _ _ (w7 _ _ ec7),hR7.same (w7.trans sm4),hRm,g3.mono,g4.mono,rx,rl,λK5 s5=>?_⟩;have hx5:=hx4.nl (NL.of s5);have u5:=s4.trans s5;refine j7 ⟨_,rfl,.inl ⟨rfl,_,SqL.of (u5 _ _ ew1)⟩,_,rfl,_,rfl,x.q,_,_,_,rfl,rfl,SqT.of hx5.tup,rfl,_,rfl,_,rfl,x.q,_,_,_,rfl,rfl,SqT.of hx5.tup,rfl,by show 4<=sizeLine;omega,λq1 hq1=>?_⟩;have s6:Same K5 (upd K5 q1 (.tup [V.ref pm,V.ref x.hi,V.int (VV fs m1 m2),V.int (VV fs x.h1 x.h2)])):=Same.upd_new hq1;have e6:upd K5 q1 (.tup [V.ref pm,V.ref x.hi,V.int (VV fs m1 m2),V.int (VV fs x.h1 x.h2)]) q1=some (.tup [V.ref pm,V.ref x.hi,V.int (VV fs m1 m2),V.int (VV fs x.h1 x.h2)]):=au;refine j9 (H2:=upd K5 q1 (.tup [V.ref pm,V.ref x.hi,V.int (VV fs m1 m2),V.int (VV fs x.h1 x.h2)])) rfl ?_;generalize upd K5 q1 (.tup [V.ref pm,V.ref x.hi,V.int (VV fs m1 m2),V.int (VV fs x.h1 x.h2)])=K6 at s6 e6 ⊢
   have u6:=u5.trans s6;have ew6:=u6 _ _ ew1;have ef6:=u6 _ _ ef1;have hql:(qs ws').length=ws'.length:=Pk _;refine⟨pw,_,_,rfl,rfl,ew6,by rw[hql];omega,?_⟩;have ew7:upd K6 pw (.lst (qs ws'++[V.ref q1])) pw=some (.lst (qs ws'++[V.ref q1])):=au;have ef7:upd K6 pw (.lst (qs ws'++[V.ref q1])) pf=some (.lst (qs ys)):=by rw[upd_ne (Ne.symm nwf)];exact ef6
   have n7:NL K6 (upd K6 pw (.lst (qs ws'++[V.ref q1]))):=NL.upd ew6;have sm7:Same H8 (upd K6 pw (.lst (qs ws'++[V.ref q1]))):=gG (sm1.trans u6) fw;generalize upd K6 pw (.lst (qs ws'++[V.ref q1]))=K7 at ew7 ef7 n7 sm7 ⊢
   have m5:NL K5 K7:=(NL.of s6).trans n7;have hx7:=hx5.nl m5;refine yV ⟨_,rfl,.inl ⟨rfl,_,SqL.of ew7⟩,_,rfl,x.q,_,_,_,rfl,rfl,SqT.of hx7.tup,rfl,_,rfl,_,rfl,x.q,_,_,_,rfl,rfl,SqT.of hx7.tup,rfl,_,rfl,by show 4<=sizeLine;omega,λq2 hq2=>?_⟩;have s8:Same K7 (upd K7 q2 (.tup [V.ref x.lo,V.ref pm,V.int (VV fs x.l1 x.l2),V.int (VV fs m1 m2)])):=Same.upd_new hq2;have e8':upd K7 q2 (.tup [V.ref x.lo,V.ref pm,V.int (VV fs x.l1 x.l2),V.int (VV fs m1 m2)]) q2=some (.tup [V.ref x.lo,V.ref pm,V.int (VV fs x.l1 x.l2),V.int (VV fs m1 m2)]):=au;refine j9 (H2:=upd K7 q2 (.tup [V.ref x.lo,V.ref pm,V.int (VV fs x.l1 x.l2),V.int (VV fs m1 m2)])) rfl ?_;generalize upd K7 q2 (.tup [V.ref x.lo,V.ref pm,V.int (VV fs x.l1 x.l2),V.int (VV fs m1 m2)])=K8 at s8 e8' ⊢
   have ew8:=s8 _ _ ew7;have hql8:(qs ws'++[V.ref q1]).length=ws'.length+1:=by rw[P6,hql];rfl
   refine⟨pw,_,_,rfl,rfl,ew8,by rw[hql8];omega,?_⟩;have n9:NL K8 (upd K8 pw (.lst ((qs ws'++[V.ref q1])++[V.ref q2]))):=NL.upd ew8;have m7:NL K7 (upd K8 pw (.lst ((qs ws'++[V.ref q1])++[V.ref q2]))):=(NL.of s8).trans n9;have m6:=n7.trans m7;have mm5:=m5.trans m7;have m3:=(NL.of u5).trans mm5;have ladd:x.cn fs=(Cel.mk q2 x.lo pm x.l1 x.l2 m1 m2 (x.d+1)).cn fs+(Cel.mk q1 pm x.hi m1 m2 x.h1 x.h2 (x.d+1)).cn fs:=Lm hW.fam.q dl.l2p dl.h2p dr.h2p (dl.lt B0) (dr.lt B0)
   have wl:wgt fs kb ⟨q1,pm,x.hi,m1,m2,x.h1,x.h2,x.d+1⟩+wgt fs kb ⟨q2,x.lo,pm,x.l1,x.l2,m1,m2,x.d+1⟩<wgt fs kb x:=by
    have p1:0<=(Cel.mk q2 x.lo pm x.l1 x.l2 m1 m2 (x.d+1)).cn fs:=mW _ _ _ _ _;have p2:0<=(Cel.mk q1 pm x.hi m1 m2 x.h1 x.h2 (x.d+1)).cn fs:=mW _ _ _ _ _;unfold wgt;show 1+2*(_*(kb+201-(x.d+1)))+(1+2*(_*(kb+201-(x.d+1))))<_;generalize (Cel.mk q2 x.lo pm x.l1 x.l2 m1 m2 (x.d+1)).cn fs=A at *
    generalize (Cel.mk q1 pm x.hi m1 m2 x.h1 x.h2 (x.d+1)).cn fs=B at *
    obtain⟨A,rfl⟩:=Rn p1;obtain⟨B,rfl⟩:=Rn p2;obtain⟨t,ht⟩:∃t,kb+201-x.d=t+1:=⟨kb+201-x.d-1,by omega⟩;have ht':kb+201-(x.d+1)=t:=by omega
    have hc:(x.cn fs).toNat=A+B:=by omega
    rw[hc,ht,ht'];show 1+2*(B*t)+(1+2*(A*t))<1+2*((A+B)*(t+1));have e1:(A+B)*(t+1)=A*t+B*t+(A+B):=by rw[Nat.mul_succ,Nat.add_mul]
    rw[e1];omega
   refine⟨eQ fs kb (ws'++[⟨q1,pm,x.hi,m1,m2,x.h1,x.h2,x.d+1⟩]++[⟨q2,x.lo,pm,x.l1,x.l2,m1,m2,x.d+1⟩]),by rw[jO,jO];omega,_,ys,_,_,_,_,rfl,rfl,gG (sm7.trans s8) fw,by rw[au,oB,oB],by rw[upd_ne (Ne.symm nwf)];exact s8 _ _ ef7,λy hy=>?_,λy hy=>(hy1 y hy).nl m3,λs hs=>?_,by rw[jO,jO];omega⟩
   ·rcases PV.mp hy with z |z
    ·rcases PV.mp z with z |z
     ·exact(hw1 y z).nl m3
     ·rw[Pw.mp z];exact⟨m6 _ _ e6 (λ_=>by simp),(hRm.same s5).nl mm5,hx5.hi.nl mm5,dr,by show x.d+1<=_;omega⟩
    ·rw[Pw.mp z];exact⟨n9 _ _ e8' (λ_=>by simp),hx5.lo.nl mm5,(hRm.same s5).nl mm5,dl,by show x.d+1<=_;omega⟩
   ·rcases hcov s hs with z |⟨_,z2⟩ |z
    ·exact .inl (cov_snoc.mpr (.inl (cov_snoc.mpr (.inl z))))
    ·rcases QB 0 (aj s m1 m2)with v |v
     ·exact .inl (cov_snoc.mpr (.inl (cov_snoc.mpr (.inr ⟨v,z2.2⟩))))
     ·exact .inl (cov_snoc.mpr (.inr ⟨z2.1,v⟩))
    ·exact .inr z
theorem mI{ns:List Int}(h:ns≠[]):atI (ns.map V.int) (-1)=some (.int (aq ns)):=by obtain⟨r,x,rfl⟩:=(cY ns).resolve_left h;rw[dM];exact Cl r x
theorem mH{k:Nat}{ns:List Int}(h:AllB k ns):Bits k (aq ns):=h.cf _
inductive yh(C:Addr)(vs:List V)(H:Hp)(Q:VK)(E:XK):Prop
 |mk (a:Addr) (fs:List (List Int)):vs=[.ref a]->H a=some (.lst ((prQ fs).map V.int))->Whl fs->(∀(x:Addr) (H':Hp) (kb:Nat),kb<=252->isB ((prQ fs).take ((prQ fs).length-1)) (aq (prQ fs)).natAbs kb->Same H H'->H x=none->RA C H' x 1 (8*aq (prQ fs)*2^kb)->0<8*aq (prQ fs)*(2:Int)^kb->Bits 520 (8*aq (prQ fs)*(2:Int)^kb)->Q (.ref x) H')->yh C vs H Q E
theorem GP(F:Fun K "fine_width" "fine_width" r9 f fd)(T:Txt K mg)(R:RCI K mg C)(cC:KCal P w K mg base 2 C "Ratio" ["self","top","bottom"] (dj C) eo ei eG [.int 1])(nO:Cal P w K mg base 1 "bound" ["row"] (oi K) Bm Bh):FnOk P w K mg base CX0 4 f fd ["whole"] (yh C):=by
 obtain⟨bU,bT,bK,cs,cT,cS⟩:=cC;obtain⟨jG,jb,jh,jB⟩:=nO;refine F.ok Eh (λvs H Q E h=>?_) (λcdv A outer s H vs Q E hr h=>?_)
 ·obtain⟨a,fs,rfl,_⟩:=h;rfl
 ·obtain⟨a,fs,rfl,hA,hW,k⟩:=h;refine⟨_,(ao (aw (cD bT bU (hr.mono) rfl bK cs .nil ah (aa af (aa (ak aK (ak aK af (aE (ck (K:=K) rfl) (pv 0) (b7 bV af) (λ_ _=>rfl))) (al jG (hr.mono) rfl jb jh jB .nil ah (aa (pv 0) ac))) ac))))),?_⟩;have hP:=hW.fam.pln;have l7:=hW.l7;have hb:=hW.bits;have b8:Bits 4 (8:Int):=by show(8:Int).natAbs<2^4;decide
  have hp:=hP.pos;refine aX ⟨_,rfl,_,rfl,a,_,_,_,rfl,rfl,SqL.of hA,mI hP.ne,_,_,rfl,rfl,⟨b8.mono,(mH hb).mono⟩,_,rfl,a,prQ fs,rfl,SqL.of hA,hP.tr,hP.ne,by omega,hb.mono,λkb H1 hkb hB s1=>?_⟩;have hk:=B8 hb hp hB
  have b2:Bits 253 ((2^kb:Nat):Int):=by show(((2^kb:Nat):Int)).natAbs<2^253;rw[P9];exact(RL (by decide)).mpr (by omega)
  have b3:Bits 254 (8*aq (prQ fs)):=(b8.mul (mH hb)).mono;have pk:(0:Int)<((2^kb:Nat):Int):=Rl.mpr (QM (by decide));have hD:0<8*aq (prQ fs)*((2^kb:Nat):Int):=Pl (by omega) pk;have bD:Bits 520 (8*aq (prQ fs)*((2^kb:Nat):Int)):=(b3.mul b2).mono;refine⟨_,_,rfl,rfl,⟨b3.mono,b2.mono⟩,cR (t:=1) (by omega) (bD.mono) λx H2 s2 hx hR=>?_⟩;rw[EG hD,E6 hD]at hR;have eB:((2^kb:Nat):Int)=(2:Int)^kb:=by rw[Rj];rfl
  rw[eB]at hR hD bD;exact k x H2 kb hk hB (s1.trans s2) (s1.free hx) hR hD bD
inductive yi(C:Addr)(vs:List V)(H:Hp)(Q:VK)(E:XK):Prop
 |mk (p:Addr) (t b:Int):vs=[.ref p]->RA C H p t b->0<b->Bits 9000 b->Q (.int (t/b)) H->yi C vs H Q E
theorem Ho(F:Fun K "floor" "Ratio.floor" tu f fd)(T:Txt K mg)(R:RCI K mg C):FnOk P w K mg base CX0 1 f fd ["self"] (yi C):=by
 refine F.ok EA (λvs H Q E h=>?_) (λcdv A outer s H vs Q E hr h=>?_)
 ·obtain⟨p,t,b,rfl,_⟩:=h;rfl
 ·obtain⟨p,t,b,rfl,⟨dx,hp⟩,hb,bb,k⟩:=h;refine⟨_,(ao (aw (ak de (aO (K:=K) rfl (pv 0) rfl) (aO (K:=K) rfl (pv 0) rfl)))),?_⟩;exact⟨_,rfl,p,C,dx,_,_,rfl,hp,R.cl,R.nT,c8 _ _,_,rfl,p,C,dx,_,_,rfl,hp,R.cl,R.nB,cq _ _,_,_,rfl,rfl,⟨hb,bb⟩,k⟩
theorem zD:¬(("floor":Str)="bottom")/\¬(("floor":Str)="top"):=⟨by decide +kernel,by decide +kernel⟩
theorem Fg{a c:Int}(hc:0<c):rt a c/rb a c=a/c:=by
 have h0:c≠0:=by omega
 have e1:=j6 (t:=a) h0;have e2:=iS (t:=a) h0
 have hp:0<dv a c:=by unfold dv;rw[if_neg (by omega)];have:=kB (t:=a) h0;omega
 have e3:dv a c*rt a c/(dv a c*rb a c)=rt a c/rb a c:=Int.mul_ediv_mul_of_pos _ _ hp;rw[e1,e2]at e3;exact e3.symm
inductive qC(C:Addr)(vs:List V)(H:Hp)(Q:VK)(E:XK):Prop
 |mk (r:Addr) (c t b:Int):vs=[.int c,.ref r]->RA C H r t b->0<b->Bits 10000 c->Bits 10000 t->Bits 8900 b->(∀H',Same H H'->Q (.int (c*t/b)) H')->qC C vs H Q E
theorem Ge(F:Fun K "times_floor" "times_floor" rh f fd)(T:Txt K mg)(R:RCI K mg C)(cC:KCal P w K mg base 2 C "Ratio" ["self","top","bottom"] (dj C) eo ei eG [.int 1])(jM:MCal P w K mg base 4 C "times" ["self","other"] (lg C) vx vi)(NM:MCal P w K mg base 1 C "floor" ["self"] (yi C) Pf OA):FnOk P w K mg base CX0 5 f fd ["factor","ratio"] (qC C):=by
 obtain⟨bU,bT,bK,cs,cT,cS⟩:=cC;obtain⟨gz,gm,gw⟩:=jM;obtain⟨MX,HI,Mb⟩:=NM;refine F.ok D7 (λvs H Q E h=>?_) (λcdv A outer s H vs Q E hr h=>?_)
 ·obtain⟨r,c,t,b,rfl,_⟩:=h;rfl
 ·obtain⟨r,c,t,b,rfl,hR,hb,bc,bt,bb,k⟩:=h;refine⟨_,(ao (aw (FO (dm (cD bT bU (hr.mono) rfl bK cT cS ah (aa (pv 0) ac)) R.cl gm gz (hr.mono) gw .nil ah (aa (pv 1) ac)) R.cl HI MX (hr.mono) Mb .nil ah))),?_⟩;refine aX ⟨_,rfl,cR (t:=c) (b:=1) (by decide) (b1k (by decide)) λx H1 s1 hx hX=>?_⟩;rw[j5,ka]at hX;obtain⟨dx,hX'⟩:=id hX;refine⟨x,dx,_,rfl,hX',dF _ _ fu.1 fu.2,_,rfl,x,r,c,1,t,b,1,8900,rfl,hX,hR.same s1,bc.mono,b1k (by decide),bt.mono,bb,by decide,by decide,hb,λy H2 s2 hy hY=>?_⟩;obtain⟨dy,hY'⟩:=id hY;have d0:1*b≠0:=by omega
  refine⟨y,dy,_,rfl,hY',dF _ _ zD.1 zD.2,y,_,_,rfl,hY,dA d0,(fj d0 (by rw[P7];exact bb)).mono,?_⟩;rw[Fg (show 0<1*b by omega),P7];exact k H2 (s1.trans s2)
noncomputable def vl(p:Int×Int):Rat:=(p.1:Rat)/(p.2:Rat)
theorem CG{a b c d:Int}(hb:0<b)(hd:0<d)(h:¬c*b<a*d):(a:Rat)/(b:Rat)<=(c:Rat)/(d:Rat):=PZ.mp λz=>h ((gd hd hb).mp z)
theorem wU{t b:Int}(hb:0<b):((rt t b:Int):Rat)/((rb t b:Int):Rat)=(t:Rat)/(b:Rat):=by
 have h0:b≠0:=by omega
 have hc:=ge (t:=t) h0;have hp:=dA (t:=t) h0;have cb:(0:Rat)<(b:Rat):=PC.mpr hb;have cr:(0:Rat)<((rb t b:Int):Rat):=PC.mpr hp;have e1:((rt t b:Int):Rat)/((rb t b:Int):Rat)*((rb t b:Int):Rat)=((rt t b:Int):Rat):=PK (Qs cr);have e2:(t:Rat)/(b:Rat)*(b:Rat)=(t:Rat):=PK (Qs cb);have e3:((rt t b:Int):Rat)*(b:Rat)=(t:Rat)*((rb t b:Int):Rat):=by rw[<- Pp,hc,Pp]
 generalize ((rt t b:Int):Rat)/((rb t b:Int):Rat)=X at e1 ⊢
 generalize (t:Rat)/(b:Rat)=Y at e2 ⊢
 rw[<- e1,<- e2]at e3;have hM:=PB cr cb;have e4:(((rb t b:Int):Rat)*(b:Rat))*X=(((rb t b:Int):Rat)*(b:Rat))*Y:=by grind
 exact Rat.le_antisymm (fO hM (by rw[e4];exact Py)) (fO hM (by rw[e4];exact Py))
theorem CF{a b c d:Int}(hb:0<b)(hd:0<d):((a*c:Int):Rat)/((b*d:Int):Rat)=(a:Rat)/(b:Rat)*((c:Rat)/(d:Rat)):=by
 have cb:(0:Rat)<(b:Rat):=PC.mpr hb;have cd:(0:Rat)<(d:Rat):=PC.mpr hd;rw[Pp,Pp];have hM:=PB cb cd;have e1:(a:Rat)/(b:Rat)*(b:Rat)=(a:Rat):=PK (Qs cb);have e2:(c:Rat)/(d:Rat)*(d:Rat)=(c:Rat):=PK (Qs cd);have e3:(a:Rat)*(c:Rat)/((b:Rat)*(d:Rat))*((b:Rat)*(d:Rat))=(a:Rat)*(c:Rat):=PK (Qs hM);generalize (a:Rat)/(b:Rat)=X at e1 ⊢
 generalize (c:Rat)/(d:Rat)=Y at e2 ⊢
 generalize (a:Rat)*(c:Rat)/((b:Rat)*(d:Rat))=Z at e3 ⊢
 rw[<- e1,<- e2]at e3;have e4:((b:Rat)*(d:Rat))*Z=((b:Rat)*(d:Rat))*(X*Y):=by grind
 exact Rat.le_antisymm (fO hM (by rw[e4];exact Py)) (fO hM (by rw[e4];exact Py))
theorem CH{a b c d:Int}(hb:0<b)(hd:0<d):((a*d+c*b:Int):Rat)/((b*d:Int):Rat)=(a:Rat)/(b:Rat)+(c:Rat)/(d:Rat):=by
 have cb:(0:Rat)<(b:Rat):=PC.mpr hb;have cd:(0:Rat)<(d:Rat):=PC.mpr hd;rw[QH,Pp,Pp,Pp];have hM:=PB cb cd;have e1:(a:Rat)/(b:Rat)*(b:Rat)=(a:Rat):=PK (Qs cb);have e2:(c:Rat)/(d:Rat)*(d:Rat)=(c:Rat):=PK (Qs cd);have e3:((a:Rat)*(d:Rat)+(c:Rat)*(b:Rat))/((b:Rat)*(d:Rat))*((b:Rat)*(d:Rat))=(a:Rat)*(d:Rat)+(c:Rat)*(b:Rat):=PK (Qs hM);generalize ((a:Rat)*(d:Rat)+(c:Rat)*(b:Rat))/((b:Rat)*(d:Rat))=Z at e3 ⊢
 generalize (a:Rat)/(b:Rat)=X at e1 ⊢
 generalize (c:Rat)/(d:Rat)=Y at e2 ⊢
 rw[<- e1,<- e2]at e3;have e4:((b:Rat)*(d:Rat))*Z=((b:Rat)*(d:Rat))*(X+Y):=by grind
 exact Rat.le_antisymm (fO hM (by rw[e4];exact Py)) (fO hM (by rw[e4];exact Py))
structure MaxP(x1 x2 y1 y2 p1 p2 q1 q2 m1 m2:Int):Prop where
 m2p:0<m2
 b1:Bits 6000 m1
 b2:Bits 6000 m2
 c1:vl (x1,x2)*vl (p1,p2)<=vl (m1,m2)
 c2:vl (x1,x2)*vl (q1,q2)<=vl (m1,m2)
 c3:vl (y1,y2)*vl (p1,p2)<=vl (m1,m2)
 c4:vl (y1,y2)*vl (q1,q2)<=vl (m1,m2)
 is:vl (m1,m2)=vl (x1,x2)*vl (p1,p2)\/vl (m1,m2)=vl (x1,x2)*vl (q1,q2)\/vl (m1,m2)=vl (y1,y2)*vl (p1,p2)\/vl (m1,m2)=vl (y1,y2)*vl (q1,q2)
structure TwoS(C:Addr)(H:Hp)(p q x y x' y':Addr)(x1 x2 y1 y2 p1 p2 q1 q2:Int):Prop where
 hp:H p=some (.tup [.ref x,.ref y])
 hq:H q=some (.tup [.ref x',.ref y'])
 hx:RA C H x x1 x2
 hy:RA C H y y1 y2
 hx':RA C H x' p1 p2
 hy':RA C H y' q1 q2
 e1:EndsG 1774 x1 x2 y1 y2
 e2:EndsG 4074 p1 p2 q1 q2
theorem TwoS.same{C:Addr}{H H':Hp}{p q x y x' y':Addr}{x1 x2 y1 y2 p1 p2 q1 q2:Int}(h:TwoS C H p q x y x' y' x1 x2 y1 y2 p1 p2 q1 q2)(s:Same H H'):TwoS C H' p q x y x' y' x1 x2 y1 y2 p1 p2 q1 q2:=⟨s _ _ h.hp,s _ _ h.hq,h.hx.same s,h.hy.same s,h.hx'.same s,h.hy'.same s,h.e1,h.e2⟩
inductive xS(C:Addr)(vs:List V)(H:Hp)(Q:VK)(E:XK):Prop
 |mk (p q x y x' y':Addr) (x1 x2 y1 y2 p1 p2 q1 q2:Int):vs=[.ref p,.ref q]->TwoS C H p q x y x' y' x1 x2 y1 y2 p1 p2 q1 q2->(∀(t lo hi:Addr) (H':Hp) (m1 m2:Int),Same H H'->H t=none->H' t=some (.tup [.ref lo,.ref hi])->RA C H' hi m1 m2->MaxP x1 x2 y1 y2 p1 p2 q1 q2 m1 m2->Q (.ref t) H')->xS C vs H Q E
structure PrH(C:Addr)(H:Hp)(r:Addr)(m1 m2:Int)(v:Rat):Prop where
 ra:RA C H r m1 m2
 m2p:0<m2
 b1:Bits 6000 m1
 b2:Bits 6000 m2
 is:vl (m1,m2)=v
theorem PrH.same{C:Addr}{H H':Hp}{r:Addr}{m1 m2:Int}{v:Rat}(h:PrH C H r m1 m2 v)(s:Same H H'):PrH C H' r m1 m2 v:=⟨h.ra.same s,h.m2p,h.b1,h.b2,h.is⟩
theorem oH{C:Addr}{H:Hp}{r:Addr}{a b c d:Int}(hb:0<b)(hd:0<d)(ba:Bits 1774 a)(bb:Bits 1774 b)(bc:Bits 4074 c)(bd:Bits 4074 d)(h:RA C H r (rt (a*c) (b*d)) (rb (a*c) (b*d))):PrH C H r (rt (a*c) (b*d)) (rb (a*c) (b*d)) (vl (a,b)*vl (c,d)):=by
 have hp:0<b*d:=Pl hb hd;have h0:b*d≠0:=by omega
 refine⟨h,dA h0,(fg h0 (ba.mul bc)).mono,(fj h0 (bb.mul bd)).mono,?_⟩;show((rt (a*c) (b*d):Int):Rat)/((rb (a*c) (b*d):Int):Rat)=_;rw[wU hp,CF hb hd];rfl
theorem Gj(F:Fun K "span_product" "span_product" rq f fd)(T:Txt K mg)(R:RCI K mg C)(jM:MCal P w K mg base 4 C "times" ["self","other"] (lg C) vx vi)(jN:MCal P w K mg base 2 C "against" ["self","other"] (lv C) vy vj):FnOk P w K mg base CX0 5 f fd ["first","second"] (xS C):=by
 obtain⟨gz,gm,gw⟩:=jM;obtain⟨g8,gJ,gZ⟩:=jN;refine F.ok sc_span_product (λvs H Q E h=>?_) (λcdv A outer s H vs Q E hr h=>?_)
 ·obtain⟨p,q,x,y,x',y',x1,x2,y1,y2,p1,p2,q1,q2,rfl,_⟩:=h;rfl
 ·obtain⟨p,q,x,y,x',y',x1,x2,y1,y2,p1,p2,q1,q2,rfl,h,k⟩:=h;have big:=sizeLine_eq
  refine⟨_,(ai (ar (i:=2) sc_span_product.nd rfl (Or.inl rfl) (dm (aE (aP (K:=K) rfl) (pv 0) af (λ_ _=>rfl)) R.cl gm gz (hr.mono) gw .nil ah (aa (aE (aP (K:=K) rfl) (pv 1) af (λ_ _=>rfl)) ac)))
   (ai (ar (i:=3) sc_span_product.nd rfl (Or.inl rfl) (pv 2))
   (ai (db PassesOwn.never rfl (FG (K:=K) rfl (cU (aa (dm (aE (aP (K:=K) rfl) (pv 0) af (λ_ _=>rfl)) R.cl gm gz (hr.mono) gw .nil ah (aa (aE (aP (K:=K) rfl) (pv 1) af (λ_ _=>rfl)) ac)) (aa (dm (aE (aP (K:=K) rfl) (pv 0) af (λ_ _=>rfl)) R.cl gm gz (hr.mono) gw .nil ah (aa (aE (aP (K:=K) rfl) (pv 1) af (λ_ _=>rfl)) ac)) (aa (dm (aE (aP (K:=K) rfl) (pv 0) af (λ_ _=>rfl)) R.cl gm gz (hr.mono) gw .nil ah (aa (aE (aP (K:=K) rfl) (pv 1) af (λ_ _=>rfl)) ac)) ac))))) (aR (i:=4) sc_span_product.nd rfl (Or.inl rfl))
     (ai (aS (aJ dL (dm (pv 4) R.cl gJ g8 (hr.mono) gZ .nil ah (aa (pv 2) ac)) af (aI _))
       (ao (ar (i:=2) sc_span_product.nd rfl (Or.inl rfl) (pv 4)))
       aV)
       (ao (aS (aJ dD (dm (pv 4) R.cl gJ g8 (hr.mono) gZ .nil ah (aa (pv 3) ac)) af (aI _))
         (ao (ar (i:=3) sc_span_product.nd rfl (Or.inl rfl) (pv 4)))
         aV))))
   (ao (aw (cU (aa (pv 2) (aa (pv 3) ac)))))))),?_⟩
  have e1:=h.e1;have e2:=h.e2;obtain⟨dx,hx0⟩:=id h.hx;refine aC ⟨_,rfl,p,_,_,_,rfl,rfl,SqT.of h.hp,rfl,x,dx,_,rfl,hx0,dF _ _ fu.1 fu.2,_,rfl,q,_,_,_,rfl,rfl,SqT.of h.hq,rfl,x,x',x1,x2,p1,p2,1774,4074,rfl,h.hx,h.hx',e1.bl1.mono,e1.bl2,e2.bl1.mono,e2.bl2,by decide,e1.l2p,e2.l2p,λr0 H1 s1 hr0 hR0=>?_⟩;have P0:=oH e1.l2p e2.l2p e1.bl1 e1.bl2 e2.bl1 e2.bl2 hR0;refine aC ⟨_,rfl,?_⟩;have h1:=h.same s1;obtain⟨dx1,hx1⟩:=id h1.hx;refine⟨_,rfl,p,_,_,_,rfl,rfl,SqT.of h1.hp,rfl,x,dx1,_,rfl,hx1,dF _ _ fu.1 fu.2,_,rfl,q,_,_,_,rfl,rfl,SqT.of h1.hq,rfl,x,y',x1,x2,q1,q2,1774,4074,rfl,h1.hx,h1.hy',e1.bl1.mono,e1.bl2,e2.bh1.mono,e2.bh2,by decide,e1.l2p,e2.h2p,λr1 H2 s2 hr1 hR1=>?_⟩;have P1:=oH e1.l2p e2.h2p e1.bl1 e1.bl2 e2.bh1 e2.bh2 hR1;have h2:=h1.same s2;obtain⟨dy2,hy2⟩:=id h2.hy;refine⟨_,rfl,p,_,_,_,rfl,rfl,SqT.of h2.hp,rfl,y,dy2,_,rfl,hy2,dF _ _ fu.1 fu.2,_,rfl,q,_,_,_,rfl,rfl,SqT.of h2.hq,rfl,y,x',y1,y2,p1,p2,1774,4074,rfl,h2.hy,h2.hx',e1.bh1.mono,e1.bh2,e2.bl1.mono,e2.bl2,by decide,e1.h2p,e2.l2p,λr2 H3 s3 hr2 hR2=>?_⟩;have P2:=oH e1.h2p e2.l2p e1.bh1 e1.bh2 e2.bl1 e2.bl2 hR2;have h3:=h2.same s3;obtain⟨dy3,hy3⟩:=id h3.hy;refine⟨_,rfl,p,_,_,_,rfl,rfl,SqT.of h3.hp,rfl,y,dy3,_,rfl,hy3,dF _ _ fu.1 fu.2,_,rfl,q,_,_,_,rfl,rfl,SqT.of h3.hq,rfl,y,y',y1,y2,q1,q2,1774,4074,rfl,h3.hy,h3.hy',e1.bh1.mono,e1.bh2,e2.bh1.mono,e2.bh2,by decide,e1.h2p,e2.h2p,λr3 H4 s4 hr3 hR3=>⟨by show 3<=sizeLine;omega,λpt hpt=>?_⟩⟩;have P3:=oH e1.h2p e2.h2p e1.bh1 e1.bh2 e2.bh1 e2.bh2 hR3;have s5:Same H4 (upd H4 pt (.tup [V.ref r1,V.ref r2,V.ref r3])):=Same.upd_new hpt;have q5:upd H4 pt (.tup [V.ref r1,V.ref r2,V.ref r3]) pt=some (.tup [V.ref r1,V.ref r2,V.ref r3]):=au;refine j9 (H2:=upd H4 pt (.tup [V.ref r1,V.ref r2,V.ref r3])) rfl ?_;generalize upd H4 pt (.tup [V.ref r1,V.ref r2,V.ref r3])=H5 at s5 q5 ⊢
  have A0:=(P0.same s2).same (s3.trans (s4.trans s5));have A1:=P1.same (s3.trans (s4.trans s5));have A2:=P2.same (s4.trans s5);have A3:=P3.same s5;have t5:=(s1.trans s2).trans (s3.trans (s4.trans s5));clear P0 P1 P2 P3 hR0 hR1 hR2 hR3
  have get:∀(i:Nat) (z:V),[V.ref r1,V.ref r2,V.ref r3][i]?=some z->∃(r:Addr) (t b:Int) (v:Rat),z=.ref r/\PrH C H5 r t b v/\[vl (x1,x2)*vl (p1,p2),vl (x1,x2)*vl (q1,q2),vl (y1,y2)*vl (p1,p2),vl (y1,y2)*vl (q1,q2)].take (i+1+1)=[vl (x1,x2)*vl (p1,p2),vl (x1,x2)*vl (q1,q2),vl (y1,y2)*vl (p1,p2),vl (y1,y2)*vl (q1,q2)].take (i+1)++[v]:=λi z hz=>by
   match i,hz with
   |0,hz=>exact⟨r1,_,_,_,(Option.some.inj hz).symm,A1,rfl⟩
   |1,hz=>exact⟨r2,_,_,_,(Option.some.inj hz).symm,A2,rfl⟩
   |2,hz=>exact⟨r3,_,_,_,(Option.some.inj hz).symm,A3,rfl⟩
  generalize hV:[vl (x1,x2)*vl (p1,p2),vl (x1,x2)*vl (q1,q2),vl (y1,y2)*vl (p1,p2),vl (y1,y2)*vl (q1,q2)]=W at get
  refine⟨pt,rfl,⟨_,SqT.of q5⟩,J8 (K:=K) (a:=pt) (xs:=[V.ref r1,V.ref r2,V.ref r3]) (λi σ' H'=>∃(lo g:Addr) (l1 l2 g1 g2:Int) (vo vg:Rat) (z4:Option V),σ'=[some (.ref p),some (.ref q),some (.ref lo),some (.ref g),z4]/\H5=H'/\PrH C H5 lo l1 l2 vo/\PrH C H5 g g1 g2 vg/\vg∈W.take (i+1)/\∀v∈W.take (i+1),v<=vg)
   ⟨r0,r0,_,_,_,_,_,_,none,rfl,rfl,A0,A0,by rw[<- hV];exact Pw.mpr rfl,λv hv=>by rw[<- hV]at hv;rw[Pw.mp hv];exact Py⟩ ?_ ?_ ?_⟩
  ·rintro i σ' H' _ ⟨lo,g,l1,l2,g1,g2,vo,vg,z4,rfl,rfl,_⟩;exact SqT.of q5
  ·rintro i z σ' H' hi ⟨lo,g,l1,l2,g1,g2,vo,vg,z4,rfl,rfl,Po,Pg,hmem,hall⟩;obtain⟨r,t,b,v,rfl,Pr,ht⟩:=get i z hi;obtain⟨dr,hr'⟩:=id Pr.ra;dsimp only
   refine dY (λσ' H'=>∃(lo:Addr) (l1 l2:Int) (vo:Rat),σ'=[some (.ref p),some (.ref q),some (.ref lo),some (.ref g),some (.ref r)]/\H5=H'/\PrH C H5 lo l1 l2 vo) ?_ ?_
   case refine_2 =>
    intro rest;refine⟨_,rfl,r,dr,_,rfl,hr',dF _ _ fv.1 fv.2,_,rfl,r,lo,t,b,l1,l2,rfl,Pr.ra,Po.ra,Pr.b1.mono,Pr.b2.mono,Po.b1.mono,Po.b2.mono,_,_,rfl,rfl,_,rfl,aM (λ_=>?_) (λ_=>?_)⟩
    ·exact⟨_,rfl,rest _ _ ⟨r,t,b,v,rfl,rfl,Pr⟩⟩
    ·exact rest _ _ ⟨lo,l1,l2,vo,rfl,rfl,Po⟩
   rintro σ' H' ⟨lo',l1',l2',vo',rfl,rfl,Po'⟩;refine⟨_,rfl,r,dr,_,rfl,hr',dF _ _ fv.1 fv.2,_,rfl,r,g,t,b,g1,g2,rfl,Pr.ra,Pg.ra,Pr.b1.mono,Pr.b2.mono,Pg.b1.mono,Pg.b2.mono,_,_,rfl,rfl,_,rfl,aM (λh0=>?_) (λh0=>?_)⟩
   ·have h0':sg (t*g2-g1*b)>0:=h0
    have hlt:g1*b<t*g2:=QG.mp λz=>by
     have:sg (t*g2-g1*b)<=0:=by unfold sg;split<;>(try split)<;>omega
     omega
    have hv:vg<v:=by rw[<- Pg.is,<- Pr.is];exact(gd Pg.m2p Pr.m2p).mpr hlt
    refine⟨_,rfl,lo',r,l1',l2',t,b,vo',v,_,rfl,rfl,Po',Pr,by rw[ht];simp,λu hu=>?_⟩;rw[ht]at hu;rcases PV.mp hu with z |z
    ·exact Q6 (hall u z) (Pm hv)
    ·rw[Pw.mp z];exact Py
   ·have h0':¬sg (t*g2-g1*b)>0:=h0
    have hle:v<=vg:=by
     rw[<- Pg.is,<- Pr.is];refine CG Pr.m2p Pg.m2p λz=>h0' ?_
     have z':g1*b<t*g2:=z;have:sg (t*g2-g1*b)=1:=DW (by omega);omega
    refine⟨lo',g,l1',l2',g1,g2,vo',vg,_,rfl,rfl,Po',Pg,by rw[ht];exact QI _ hmem,λu hu=>?_⟩;rw[ht]at hu;rcases PV.mp hu with z |z
    ·exact hall u z
    ·rw[Pw.mp z];exact hle
  ·rintro σ' H' ⟨lo,g,l1,l2,g1,g2,vo,vg,z4,rfl,rfl,Po,Pg,hmem,hall⟩;refine⟨_,rfl,_,rfl,by show 2<=sizeLine;omega,λt ht=>?_⟩;have s6:Same H5 (upd H5 t (.tup [V.ref lo,V.ref g])):=Same.upd_new ht;refine k t lo g _ g1 g2 (t5.trans s6) (t5.free ht) au (Pg.ra.same s6) ⟨Pg.m2p,Pg.b1,Pg.b2,?_,?_,?_,?_,?_⟩
   all_goals rw[Pg.is]
   ·exact hall _ (by rw[<- hV];exact PH ..)
   ·exact hall _ (by rw[<- hV];exact Pz _ (PH ..))
   ·exact hall _ (by rw[<- hV];exact Pz _ (Pz _ (PH ..)))
   ·exact hall _ (by rw[<- hV];exact Pz _ (Pz _ (Pz _ (PH ..))))
   ·rw[<- hV]at hmem;rcases Pu.mp hmem with z |z
    ·exact .inl z
    rcases Pu.mp z with z |z
    ·exact .inr (.inl z)
    rcases Pu.mp z with z |z
    ·exact .inr (.inr (.inl z))
    ·exact .inr (.inr (.inr (Pw.mp z)))
structure SqR(x1 x2 y1 y2 p1 p2 q1 q2 t1 t2 m1 m2:Int):Prop where
 mx:MaxP x1 x2 y1 y2 p1 p2 q1 q2 m1 m2
 t2p:0<t2
 bt:Bits 6000 t1
 sum:vl (t1,t2)=vl (y1,y2)+vl (q1,q2)
inductive xQ(C:Addr)(vs:List V)(H:Hp)(Q:VK)(E:XK):Prop
 |mk (a p q x y x' y':Addr) (ns:List Int) (x1 x2 y1 y2 p1 p2 q1 q2:Int):vs=[.ref a,.ref p,.ref q]->H a=some (.lst (ns.map V.int))->Pln ns->AllB 250 ns->TwoS C H p q x y x' y' x1 x2 y1 y2 p1 p2 q1 q2->(∀t1 t2 m1 m2:Int,SqR x1 x2 y1 y2 p1 p2 q1 q2 t1 t2 m1 m2->mkL H Q (aB [aq ns*m1/m2,-(aq ns*t1/t2),aq ns]))->xQ C vs H Q E
theorem Gh(F:Fun K "square_of" "square_of" rm f fd)(T:Txt K mg)(R:RCI K mg C)(wx:Cal P w K mg base 5 "times_floor" ["factor","ratio"] (qC C) Kv Ka)(wM:MCal P w K mg base 4 C "plus" ["self","other"] (qI C) KL Kp)(Na:Cal P w K mg base 5 "span_product" ["first","second"] (xS C) OH NZ)(jJ:Cal P w K mg base 34 "plain" ["row"] lj vt ve):FnOk P w K mg base CX0 35 f fd ["whole","span","other"] (xQ C):=by
 obtain⟨qg,oY,o4,qa⟩:=wx;obtain⟨wo,ut,vX⟩:=wM;obtain⟨Mx,Ie,Jb,LK⟩:=Na;obtain⟨g6,gK,gQ,gX⟩:=jJ;refine F.ok sc_square_of (λvs H Q E h=>?_) (λcdv A outer s H vs Q E hr h=>?_)
 ·obtain⟨a,p,q,x,y,x',y',ns,x1,x2,y1,y2,p1,p2,q1,q2,rfl,_⟩:=h;rfl
 ·obtain⟨a,p,q,x,y,x',y',ns,x1,x2,y1,y2,p1,p2,q1,q2,rfl,hA,hP,hb,h,k⟩:=h;have big:=sizeLine_eq
  refine⟨_,(ai (ar (i:=3) sc_square_of.nd rfl (Or.inl rfl) (aE (ck (K:=K) rfl) (pv 0) (b7 bV af) (λ_ _=>rfl)))
   (ai (ar (i:=4) sc_square_of.nd rfl (Or.inl rfl) (al qg (hr.mono) rfl oY o4 qa .nil ah (aa (pv 3) (aa (dm (aE (aP (K:=K) rfl) (pv 1) af (λ_ _=>rfl)) R.cl ut wo (hr.mono) vX .nil ah (aa (aE (aP (K:=K) rfl) (pv 2) af (λ_ _=>rfl)) ac)) ac))))
   (ao (aw (al g6 (hr.mono) rfl gK gQ gX .nil ah (aa (bj (aa (al qg (hr.mono) rfl oY o4 qa .nil ah (aa (pv 3) (aa (aE (aP (K:=K) rfl) (al Mx (hr.mono) rfl Ie Jb LK .nil ah (aa (pv 1) (aa (pv 2) ac))) af (λ_ _=>rfl)) ac))) (aa (b7 bV (pv 4)) (aa (pv 3) ac)))) ac)))))),?_⟩
  have e1:=h.e1;have e2:=h.e2;have bl:=mH hb;have lp:=hP.pos;refine aC ⟨_,rfl,_,rfl,a,_,_,_,rfl,rfl,SqL.of hA,mI hP.ne,?_⟩;obtain⟨dy,hy0⟩:=id h.hy;have hp2:0<y2*q2:=Pl e1.h2p e2.h2p;have h0:y2*q2≠0:=by omega
  have bsum:Bits 5850 (y1*q2+q1*y2):=by have a1:Bits 5848 (y1*q2):=e1.bh1.mul e2.bh2;have a2:Bits 5848 (q1*y2):=(e2.bh1.mul e1.bh2).mono;exact(a1.add a2).mono
  refine aC ⟨_,rfl,_,rfl,p,_,_,_,rfl,rfl,SqT.of h.hp,rfl,y,dy,_,rfl,hy0,dF _ _ oR.1 oR.2,_,rfl,q,_,_,_,rfl,rfl,SqT.of h.hq,rfl,y,y',y1,y2,q1,q2,1774,4074,rfl,h.hy,h.hy',e1.bh1.mono,e1.bh2,e2.bh1.mono,e2.bh2,by decide,e1.h2p,e2.h2p,λr H1 s1 hr0 hR=>?_⟩;refine⟨r,aq ns,_,_,rfl,hR,dA h0,bl.mono,(fg h0 bsum).mono,(fj h0 (e1.bh2.mul e2.bh2)).mono,λH2 s2=>?_⟩;have t2:=s1.trans s2;have h2:=h.same t2;refine aX ⟨_,rfl,_,rfl,_,rfl,p,q,x,y,x',y',x1,x2,y1,y2,p1,p2,q1,q2,rfl,h2,λt lo hi H3 m1 m2 s3 ht et hm mx=>?_⟩;refine⟨t,_,_,_,rfl,rfl,SqT.of et,rfl,hi,aq ns,m1,m2,rfl,hm,mx.m2p,bl.mono,mx.b1.mono,mx.b2.mono,λH4 s4=>?_⟩;refine⟨_,rfl,_,rfl,_,rfl,by show 3<=sizeLine;omega,λpl hpl=>?_⟩;have t4:=(t2.trans s3).trans s4;have trl:Tr [aq ns*m1/m2,-(aq ns*rt (y1*q2+q1*y2) (y2*q2)/rb (y1*q2+q1*y2) (y2*q2)),aq ns]:=(tr_snoc (r:=[aq ns*m1/m2,-(aq ns*rt (y1*q2+q1*y2) (y2*q2)/rb (y1*q2+q1*y2) (y2*q2))])).mpr (by omega);refine⟨pl,[aq ns*m1/m2,-(aq ns*rt (y1*q2+q1*y2) (y2*q2)/rb (y1*q2+q1*y2) (y2*q2)),aq ns],rfl,au,trl,by show 3<=1000000;decide,λp5 H5 s5 hp5 e5=>?_⟩;have t5:=(t4.then_new (o:=.lst _) hpl).trans s5;refine k _ _ m1 m2 ⟨mx,dA h0,(fg h0 bsum).mono,?_⟩ p5 H5 t5 ((t4.then_new hpl).free hp5) e5;show((rt (y1*q2+q1*y2) (y2*q2):Int):Rat)/((rb (y1*q2+q1*y2) (y2*q2):Int):Rat)=_;rw[wU hp2,CH e1.h2p e2.h2p];rfl
theorem qy{t n t' n':Int}:∀{ls:List (List Int)},(∀l∈ls,aj l t n=aj l t' n')->spr t n ls=spr t' n' ls
 | [],_=>rfl
 |l::ls,h=>by show -aj l t n*spr t n ls = -aj l t' n'*spr t' n' ls;rw[h l (PH ..),qy λx hx=>h x (Pz _ hx)]
theorem qx{t n:Int}:∀{ls:List (List Int)},(∀l∈ls,aj l t n≠0)->spr t n ls=1\/spr t n ls = -1
 | [],_=>.inl rfl
 |l::ls,h=>by
  have h1:=h l (PH ..);have h2:=qx (ls:=ls) λx hx=>h x (Pz _ hx)
  show -aj l t n*spr t n ls=1 \/ -aj l t n*spr t n ls = -1;rcases cO l t n with z |z |z
  ·rw[z];omega
  ·exact absurd z h1
  ·rw[z];omega
theorem yH{l:List Int}(hl:Spt l){t n t' n':Int}(hn:0<n)(hn':0<n')(h:t*n'<=t'*n)(hs:0<aj l t' n'):0<aj l t n:=by
 rcases QB 0 (aj l t n)with z |z
 ·exact z
 ·exfalso;rcases Q7 h with y |y
  ·have:=fM hl hn hn' y z;omega
  ·rw[jY l hn hn' y]at z;omega
theorem oq{l:List Int}(hl:Spt l){l1 l2 h1 h2 x1 x2:Int}(l2p:0<l2)(h2p:0<h2)(x2p:0<x2)(lt:l1*h2<h1*l2)(hno:¬(0<aj l l1 l2/\aj l h1 h2<=0))(hx:l1*x2<x1*l2)(hx':x1*h2<=h1*x2):aj l x1 x2=aj l h1 h2/\aj l h1 h2≠0:=by
 rcases QB 0 (aj l l1 l2)with z |z
 ·have h3:0<aj l h1 h2:=by
   rcases QB 0 (aj l h1 h2)with y |y
   ·exact y
   ·exact absurd ⟨z,y⟩ hno
  have h4:=yH hl x2p h2p hx' h3;rcases cO l x1 x2 with y |y |y<;>rcases cO l h1 h2 with w |w |w<;>omega
 ·have e1:=fM hl l2p x2p hx z;have e2:=fM hl l2p h2p lt z;omega
theorem ER{fs pre post:List (List Int)}{s:List Int}{c l1 l2 h1 h2:Int}(hF:∀f∈fs,fJ f)(hc:c≠0)(hsp:aL fs=pre++s::post)(l2p:0<l2)(h2p:0<h2)(lt:l1*h2<h1*l2)(hin:0<aj s l1 l2/\aj s h1 h2<=0)(hno:∀x∈pre++post,¬(0<aj x l1 l2/\aj x h1 h2<=0)) :
 ∃ε,RootU (ad [c] (aW [1] (fs.map ag))) l1 l2 h1 h2 ε (λx1 x2=>0<aj s x1 x2):=by
 have hS:∀x∈aL fs,Spt x:=λx hx=>cX hF hx
 have hs:Spt s:=hS s (by rw[hsp];simp);have ho:∀x∈pre++post,Spt x:=λx hx=>hS x (by rw[hsp];simp at hx ⊢;rcases hx with h |h<;>simp[h])
 have val:∀x1 x2,0<x2->l1*x2<x1*l2->x1*h2<=h1*x2->sg (hv x1 x2 (ad [c] (aW [1] (fs.map ag))))=sg c*spr h1 h2 (pre++post) * -aj s x1 x2:=λx1 x2 x2p a b=>by
  rw[lT x2p hF,hsp,jV];show sg c*(spr x1 x2 pre*(-aj s x1 x2*spr x1 x2 post))=_;have e:spr x1 x2 (pre++post)=spr h1 h2 (pre++post):=qy λy hy=>(oq (ho y hy) l2p h2p x2p lt (hno y hy) a b).1
  rw[<- e,jV];grind
 have hu:=qx (t:=h1) (n:=h2) (ls:=pre++post) λy hy=>(oq (ho y hy) l2p h2p h2p lt (hno y hy) lt (PU _)).2
 have hsg:sg c=1\/sg c = -1:=by
  rcases Qh hc with z |z
  ·right;unfold sg;rw[if_pos z]
  ·left;unfold sg;rw[if_neg (by omega),if_pos z]
 have e1:sg c*spr h1 h2 (pre++post)=1\/sg c*spr h1 h2 (pre++post) = -1:=by rcases hsg with z |z<;>rcases hu with y |y<;>rw[z,y]<;>decide
 generalize sg c*spr h1 h2 (pre++post)=ε at val e1
 refine⟨ε,e1,λx1 x2 x2p a b hU=>?_,λx1 x2 x2p a b hU=>?_,λx1 x2 y1 y2 x2p y2p a b hU hlt=>?_,λx1 x2 y1 y2 x2p y2p e hU=>?_,hin.1,λz=>?_⟩
 ·rw[val x1 x2 x2p a b];rcases cO s x1 x2 with z |z |z
  ·rw[z];omega
  ·rw[z]at hU;exact absurd hU (by decide)
  ·rw[z]at hU;exact absurd hU (by decide)
 ·rw[val x1 x2 x2p a b];rcases cO s x1 x2 with z |z |z
  ·exact absurd (show 0<aj s x1 x2 by omega) hU
  ·rw[z];right;omega
  ·rw[z];left;omega
 ·have hU':aj s x1 x2<=0:=Qn.mp hU;have z:=fM hs x2p y2p hlt hU'
  have a':l1*y2<y1*l2:=by
   refine jw x2p ?_;have q1:=Ql a y2p;have q2:=Ql hlt l2p;have e2:l1*y2*x2=l1*x2*y2:=by grind
   have e3:x1*l2*y2=x1*y2*l2:=by grind
   have e4:y1*l2*x2=y1*x2*l2:=by grind
   omega
  rw[val y1 y2 y2p a' b,z];omega
 ·show 0<aj s y1 y2;rw[<- jY s x2p y2p e];exact hU
 ·have z':0<aj s h1 h2:=z;omega
noncomputable def gM(f0:List Int):List Int:=if cf f0 1=0 then ag f0 else[]
structure Nar1(fs:List (List Int))(s0:List Int)(l1 l2 h1 h2 x1 x2 y1 y2:Int)(kb:Nat):Prop where
 ends:EndsG 1774 x1 x2 y1 y2
 ux:0<aj s0 x1 x2
 uy:aj s0 y1 y2<=0
 lo:l1*x2<=x1*l2
 hi:y1*h2<=h1*y2
 wide:(y1*x2-x1*y2)*(8*aq (prQ fs)*2^kb)<=1*(x2*y2)
inductive yd(C:Addr)(vs:List V)(H:Hp)(Q:VK)(E:XK):Prop
 |mk (a p x y:Addr) (fs:List (List Int)) (f0 s0:List Int) (l1 l2 h1 h2 x1 x2 y1 y2:Int) (kb:Nat):vs=[.ref a,.ref p]->H a=some (.lst ((prQ fs).map V.int))->H p=some (.tup [.ref x,.ref y])->RA C H x x1 x2->RA C H y y1 y2->Whl fs->OneS fs f0 s0 l1 l2 h1 h2->Nar1 fs s0 l1 l2 h1 h2 x1 x2 y1 y2 kb->mkL H Q (gM f0)->yd C vs H Q E
theorem GK(F:Fun K "line_of" "line_of" rW f fd)(T:Txt K mg)(R:RCI K mg C)(cC:KCal P w K mg base 2 C "Ratio" ["self","top","bottom"] (dj C) eo ei eG [.int 1])(wx:Cal P w K mg base 5 "times_floor" ["factor","ratio"] (qC C) Kv Ka)(jN:MCal P w K mg base 2 C "against" ["self","other"] (lv C) vy vj)(eO:Cal P w K mg base 2 "sign_at" ["row","ratio"] (ie C) kG kE):FnOk P w K mg base CX0 6 f fd ["whole","span"] (yd C):=by
 obtain⟨bU,bT,bK,cs,cT,cS⟩:=cC;obtain⟨qg,oY,o4,qa⟩:=wx;obtain⟨g8,gJ,gZ⟩:=jN;obtain⟨dX,dP,dQ,dW⟩:=eO;refine F.ok sc_line_of (λvs H Q E h=>?_) (λcdv A outer s H vs Q E hr h=>?_)
 ·obtain⟨a,p,x,y,fs,f0,s0,l1,l2,h1,h2,x1,x2,y1,y2,kb,rfl,_⟩:=h;rfl
 ·obtain⟨a,p,x,y,fs,f0,s0,l1,l2,h1,h2,x1,x2,y1,y2,kb,rfl,hA,hp,hx,hy,hW,hO,hN,k⟩:=h
  refine⟨_,(ai (ar (i:=2) sc_line_of.nd rfl (Or.inl rfl) (cD bT bU (hr.mono) rfl bK cs .nil ah (aa (al qg (hr.mono) rfl oY o4 qa .nil ah (aa (aE (ck (K:=K) rfl) (pv 0) (b7 bV af) (λ_ _=>rfl)) (aa (aE (aP (K:=K) rfl) (pv 1) af (λ_ _=>rfl)) ac))) (aa (aE (ck (K:=K) rfl) (pv 0) (b7 bV af) (λ_ _=>rfl)) ac))))
   (ai (aS (PW.pt (iU (aJ dD (dm (pv 2) R.cl gJ g8 (hr.mono) gZ .nil ah (aa (aE (aP (K:=K) rfl) (pv 1) af (λ_ _=>rfl)) ac)) af (aI _)) (iT (aJ cV (al dX (hr.mono) rfl dP dQ dW .nil ah (aa (pv 0) (aa (pv 2) ac))) af (aI _)))))
     (ao (aw (bj (aa (b7 bV (aO (K:=K) rfl (pv 2) rfl)) (aa (aO (K:=K) rfl (pv 2) rfl) ac)))))
     aV)
   (ao (aw (bj ac))))),?_⟩
  have big:=sizeLine_eq;have en:=hN.ends;have hb:=hW.bits;have hP:=hW.fam.pln;have l7:=hW.l7;have bl:=mH hb;have lp:=hP.pos;have B1:(1:Int)<=2^kb:=by have:=Qo (n:=2) (m:=kb) (by decide);omega
  refine aC ⟨_,rfl,_,rfl,a,_,_,_,rfl,rfl,SqL.of hA,mI hP.ne,_,rfl,p,_,_,_,rfl,rfl,SqT.of hp,rfl,y,aq (prQ fs),y1,y2,rfl,hy,en.h2p,bl.mono,en.bh1.mono,en.bh2.mono,λH1 s1=>?_⟩;have bm:Bits 2300 (aq (prQ fs)*y1/y2):=Bits.of_le ((bl.mul en.bh1).mono (k:=2300) (by decide)) (R5 _ _);have l0:aq (prQ fs)≠0:=by omega
  have two:(gM f0=[-(rt (aq (prQ fs)*y1/y2) (aq (prQ fs))),rb (aq (prQ fs)*y1/y2) (aq (prQ fs))]/\x1*rb (aq (prQ fs)*y1/y2) (aq (prQ fs))<rt (aq (prQ fs)*y1/y2) (aq (prQ fs))*x2/\hv (rt (aq (prQ fs)*y1/y2) (aq (prQ fs))) (rb (aq (prQ fs)*y1/y2) (aq (prQ fs))) (prQ fs)=0)\/(gM f0=[]/\(x1*rb (aq (prQ fs)*y1/y2) (aq (prQ fs))<rt (aq (prQ fs)*y1/y2) (aq (prQ fs))*x2->hv (rt (aq (prQ fs)*y1/y2) (aq (prQ fs))) (rb (aq (prQ fs)*y1/y2) (aq (prQ fs))) (prQ fs)≠0)):=by
   obtain⟨u,e,b,σ,rfl,rfl,hb1,hNS,hc⟩:=hO.cases;rcases hc with⟨rfl,rfl⟩ |⟨hσ,he⟩
   ·left;have e0:gM [u,0,b]=ag [u,0,b]:=if_pos rfl;rw[e0];exact hO.line en.l2p en.h2p B1 hN.ux hN.uy en.lt hN.wide
   ·right;refine⟨if_neg (show ¬e=0 by omega),λhlt=>?_⟩;have hpos:=dA (t:=aq (prQ fs)*y1/y2) l0;have hc:=ge (t:=aq (prQ fs)*y1/y2) l0;have hfl:aq (prQ fs)*y1/y2*y2<=aq (prQ fs)*y1:=Int.ediv_mul_le _ (by have:=en.h2p;omega);generalize rt (aq (prQ fs)*y1/y2) (aq (prQ fs))=m1 at *
    generalize rb (aq (prQ fs)*y1/y2) (aq (prQ fs))=m2 at *
    generalize aq (prQ fs)*y1/y2=Z at *
    have my:m1*y2<=y1*m2:=by
     refine kL lp ?_;have:=Qf hfl (Pt hpos);have e1:m1*y2*aq (prQ fs)=Z*y2*m2:=by rw[Int.mul_right_comm,hc];grind
     have e2:y1*m2*aq (prQ fs)=aq (prQ fs)*y1*m2:=by grind
     omega
    refine hO.none rfl hNS he hpos ?_ ?_
    ·refine jw en.l2p ?_;have q1:=Qf hN.lo (Pt hpos);have q2:=Ql hlt hO.l2p;have e1:l1*m2*x2=l1*x2*m2:=by grind
     have e2:x1*l2*m2=x1*m2*l2:=by grind
     have e3:m1*l2*x2=m1*x2*l2:=by grind
     omega
    ·refine kL en.h2p ?_;have q1:=Qf hN.hi (Pt hpos);have q2:=Qf my (Pt hO.h2p);have e1:m1*h2*y2=m1*y2*h2:=by grind
     have e2:y1*m2*h2=y1*h2*m2:=by grind
     have e3:h1*m2*y2=h1*y2*m2:=by grind
     omega
  generalize aq (prQ fs)*y1/y2=m at bm two ⊢
  refine⟨_,rfl,_,rfl,a,_,_,_,rfl,rfl,SqL.of (s1 _ _ hA),mI hP.ne,cR l0 (bl.mono) λr H2 s2 hr2 hR=>?_⟩;have t2:=s1.trans s2;obtain⟨dr,hR'⟩:=id hR
  have sgl:∀c d:Int,sg (c-d)>0↔d<c:=λc d=>by unfold sg;split<;>(try split)<;>constructor<;>intro z<;>omega
  refine bZ (fi ⟨_,rfl,r,dr,_,rfl,hR',dF _ _ fv.1 fv.2,_,rfl,p,_,_,_,rfl,rfl,SqT.of (t2 _ _ hp),rfl,r,x,_,_,x1,x2,rfl,hR,hx.same t2,(fg l0 bm).mono,(fj l0 bl).mono,en.bl1.mono,en.bl2.mono,_,_,rfl,rfl,_,rfl,aM (λh0=>?_) (λh0=>?_)⟩)
  ·have h0':=(sgl _ _).mp h0;refine⟨_,rfl,_,rfl,a,r,prQ fs,_,_,⟨rfl,t2 _ _ hA,hR,by omega,hb.mono,(fg l0 bm).mono,(fj l0 bl).mono⟩,λH3 s3=>⟨_,_,rfl,rfl,_,rfl,aM (λh3=>?_) (λh3=>?_)⟩⟩
   ·have h3':sg (hv (rt m (aq (prQ fs))) (rb m (aq (prQ fs))) (prQ fs))=0:=h3;rcases two with⟨z1,_,_⟩ |⟨_,z2⟩
    ·have hR3:=s3 _ _ hR';refine aX ⟨_,rfl,r,C,dr,_,_,rfl,hR3,R.cl,R.nT,c8 _ _,_,rfl,_,rfl,r,C,dr,_,_,rfl,hR3,R.cl,R.nB,cq _ _,by show 2<=sizeLine;omega,λq hq=>?_⟩;refine k q _ ((t2.trans s3).then_new hq) ((t2.trans s3).free hq) ?_;rw[au,z1];rfl
    ·exact absurd ((q8 _).mp h3') (z2 h0')
   ·rcases two with⟨_,_,z3⟩ |⟨z1,_⟩
    ·exact absurd ((q8 _).mpr z3) h3
    ·exact aX ⟨Ps _,λq hq=>k q _ ((t2.trans s3).then_new hq) ((t2.trans s3).free hq) (by rw[au,z1];rfl)⟩
  ·rcases two with⟨_,z2,_⟩ |⟨z1,_⟩
   ·exact absurd ((sgl _ _).mpr z2) h0
   ·exact fN (aX ⟨Ps _,λq hq=>k q _ (t2.then_new hq) (t2.free hq) (by rw[au,z1];rfl)⟩)
theorem yR{fs:List (List Int)}{l1 l2 h1 h2:Int}(hF:Fam fs)(l2p:0<l2)(h2p:0<h2)(lt:l1*h2<h1*l2)(h:bJ (aL fs) l1 l2 h1 h2=1):∃s ε,s∈aL fs/\0<aj s l1 l2/\aj s h1 h2<=0/\RootU (prQ fs) l1 l2 h1 h2 ε (λt n=>0<aj s t n):=by obtain⟨pre,s,post,e,hin,hno⟩:=mV h;obtain⟨ε,hr⟩:=ER (c:=1) hF.q (by decide) e l2p h2p lt hin hno;rw[show ad [1] (aW [1] (fs.map ag))=prQ fs from hF.one]at hr;exact⟨s,ε,by rw[e];simp,hin.1,hin.2,hr⟩
theorem yC{i j:Nat}{a b:List Int}{n:Nat}(ha:AllB i a)(hb:AllB j b):∀m,Bits (i+j+m) (sm a b n m)
 |0=>Bits.zero
 |m+1=>by
  rw[sm];refine(yC ha hb m).add ?_;unfold tm;split
  ·exact((ha.cf m).mul (hb.cf _)).mono (by omega)
  ·exact Bits.zero
theorem iq{i j k:Nat}{a b:List Int}(ha:AllB i a)(hb:AllB j b)(hk:i+j+a.length<=k):AllB k (ad a b):=AllB.of_cf λn=>by rw[aN];exact(yC ha hb a.length).mono hk
inductive yk(vs:List V)(H:Hp)(Q:VK)(E:XK):Prop
 |mk (a b:Addr) (xs ys:List Int) (n:Nat):vs=[.ref b,.ref a]->H a=some (.lst (xs.map V.int))->H b=some (.lst (ys.map V.int))->ys≠[]->AllB n xs->AllB n ys->(xs.length+2)*(n+1)<=1000000->ys.length<=1000000->(∀H',Same H H'->Q (.bl (decide (aQ xs ys=[]))) H')->yk vs H Q E
theorem GQ(F:Fun K "divides" "divides" se f fd)(T:Txt K mg)(jK:Cal P w K mg base 2 "divided" ["first","second"] ln vv vf):FnOk P w K mg base CX0 3 f fd ["divisor","row"] yk:=by
 obtain⟨jF,ja,jg,jA⟩:=jK;refine F.ok Ei (λvs H Q E h=>?_) (λcdv A outer s H vs Q E hr h=>?_)
 ·obtain⟨a,b,xs,ys,n,rfl,_⟩:=h;rfl
 ·obtain⟨a,b,xs,ys,nb,rfl,hA,hB,hy,bx,by',hsz,hyn,k⟩:=h;have hu:=hr.units;refine⟨_,(ao (aw (iZ (ki (K:=K) rfl hu) (aE (aP (K:=K) rfl) (al jF (hr.mono) rfl ja jg jA .nil ah (aa (pv 1) (aa (pv 0) ac))) af (λ_ _=>rfl)) (bj ac) (aI _)))),?_⟩;refine aX ⟨_,rfl,_,rfl,a,b,xs,ys,nb,rfl,hA,hB,hy,bx,by',hsz,hyn,λt q r H1 sm1 ht hq hr' _ _ _ et eq er=>?_⟩;refine⟨t,_,_,_,rfl,rfl,SqT.of et,rfl,Ps _,λp hp=>?_⟩;exact⟨r,p,_,[],rfl,rfl,SqL.of (by rw[upd_ne (bC er hp)];exact er),SqL.of au,k _ (sm1.then_new hp)⟩
theorem j2{f:List Int}(h:FacG f):AllB 62 (ag f)/\(ag f).length<=3:=by
 obtain⟨u,e,b,rfl,h1,h2,h3,h4,h5,h6,_⟩:=h;have sm:∀{x:Int} {n:Nat},x.natAbs<n->n<=2^62->Bits 62 x:=λh1 h2=>Qa h1 h2
 have hr:AllB 62 (aH u e b)/\(aH u e b).length<=3:=by
  unfold aH;split
  ·refine⟨λx hx=>?_,by show 2<=3;decide⟩;rcases Pu.mp hx with rfl |hx
   ·exact sm (n:=1000000001) (by omega) (by decide)
   ·rw[Pw.mp hx];exact sm (n:=1001) (by omega) (by decide)
  ·refine⟨λx hx=>?_,Pn _⟩;have u1:u.natAbs<=1000000000:=by omega
   have uu:(u*u).natAbs<=1000000000*1000000000:=by rw[PL];exact QF u1 u1
   have bu:(b*u).natAbs<=1000*1000000000:=by rw[PL];exact QF (by omega) u1
   have bb:(b*b).natAbs<=1000*1000:=by rw[PL];exact QF (by omega) (by omega)
   have e2 : -2*b*u = -2*(b*u):=PR _ _ _;rw[e2]at hx;generalize u*u=A at *
   generalize b*u=B at *
   generalize b*b=D at *
   rcases Pu.mp hx with rfl |hx
   ·exact sm (n:=2000000000000000000) (by omega) (by decide)
   rcases Pu.mp hx with rfl |hx
   ·exact sm (n:=2000000000001) (by omega) (by decide)
   ·rw[Pw.mp hx];exact sm (n:=1000001) (by omega) (by decide)
 exact⟨kg hr.1,by show(aB _).length<=3;rw[RM.plain_len];exact hr.2⟩
theorem CK{gs:List (List Int)}(h:Fam gs)(hl:gs.length<=2):AllB 250 (prQ gs):=by
 have one:AllB 1 ([1]:List Int):=λx hx=>by rw[Pw.mp hx];exact b1k (by decide)
 rw[h.prd]
 match gs,hl with
 | [],_=>exact one.mono
 | [f],_ =>obtain⟨b,l⟩:=j2 (h.fac f (by simp));show AllB 250 (ad (ag f) [1]);rw[cW];exact b.mono
 | [f,f'],_ =>obtain⟨b,l⟩:=j2 (h.fac f (by simp));obtain⟨b',l'⟩:=j2 (h.fac f' (by simp));show AllB 250 (ad (ag f) (ad (ag f') [1]));rw[cW];exact(iq b b' (Pn _)).mono (by omega)
theorem DE{fs:List (List Int)}{u e b σ l1 l2 h1 h2 x1 x2 y1 y2 p1 p2 q1 q2 t1 t2 m1 m2:Int}{kb:Nat}(hO:OneS fs [u,e,b] [u,e,b,σ] l1 l2 h1 h2)(hW:Whl fs)(he:0<e)(hσ:σ=1\/σ = -1)(hB:isB ((prQ fs).take ((prQ fs).length-1)) (aq (prQ fs)).natAbs kb)(N1:Nar1 fs [u,e,b,σ] l1 l2 h1 h2 x1 x2 y1 y2 kb)
 (E2:EndsG 4074 p1 p2 q1 q2) (up:0<aj [u,e,b,-σ] p1 p2) (uq:aj [u,e,b,-σ] q1 q2<=0) (wide:(q1*p2-p1*q2)*(8*aq (prQ fs)*2^kb)<=1*(p2*q2)) (hS:SqR x1 x2 y1 y2 p1 p2 q1 q2 t1 t2 m1 m2):aB [aq (prQ fs)*m1/m2,-(aq (prQ fs)*t1/t2),aq (prQ fs)]=ag [u,e,b]:=by
 have hF:=hW.fam;have hL:=hF.pln.pos;have B1:(1:Int)<=2^kb:=by have:=Qo (n:=2) (m:=kb) (by decide);omega
 have eB:((2^kb:Nat):Int)=(2:Int)^kb:=by rw[Rj];rfl
 have mem0:[u,e,b,σ]∈aL fs:=QQ.mpr ⟨_,hO.mem,hO.sp⟩;have mem1:[u,e,b,-σ]∈aL fs:=QQ.mpr ⟨_,hO.mem,by rw[ic he];rcases hσ with rfl |rfl<;>simp⟩
 have bd:∀s∈aL fs,aj s (2^kb) 1<0/\0<aj s (-(2^kb)) 1:=λs hs=>by have:=xI hF.fac hF.nd (B:=2^kb) (QM (by decide)) hB.1 hs;rw[eB]at this;exact this
 have en:=N1.ends;obtain⟨a1,a2,a3,a4⟩:=zH (cX hF.q mem0) B1 (show 1<=aq (prQ fs) by omega) (bd _ mem0) en.l2p en.h2p N1.ux N1.uy en.lt N1.wide;obtain⟨c1,c2,c3,c4⟩:=zH (cX hF.q mem1) B1 (show 1<=aq (prQ fs) by omega) (bd _ mem1) E2.l2p E2.h2p up uq E2.lt wide;have mx:=hS.mx;have i1:=mx.c1;have i2:=mx.c2;have i3:=mx.c3;have i4:=mx.c4;have im:=mx.is;have is:=hS.sum;unfold vl at i1 i2 i3 i4 im is
 dsimp only at i1 i2 i3 i4 im is
 rcases hσ with rfl |rfl
 ·exact xE hF hO.mem he rfl B1 (qp en.l2p en.h2p E2.l2p E2.h2p N1.ux N1.uy up uq) a3 c3 a4 c4 a1 a2 c1 c2 i1 i2 i3 i4 im hS.t2p mx.m2p is rfl
 ·skip
  exact xE hF hO.mem he rfl B1 (qp E2.l2p E2.h2p en.l2p en.h2p up uq N1.ux N1.uy) c3 a3 c4 a4 c1 c2 a1 a2 (by rw[Q8];exact i1) (by rw[Q8];exact i3) (by rw[Q8];exact i2) (by rw[Q8];exact i4) (by
   rcases im with z |z |z |z
   ·exact .inl (by rw[z,Q8])
   ·exact .inr (.inr (.inl (by rw[z,Q8])))
   ·exact .inr (.inl (by rw[z,Q8]))
   ·exact .inr (.inr (.inr (by rw[z,Q8])))) hS.t2p mx.m2p (by rw[is,Rat.add_comm]) rfl
theorem KS{fs:List (List Int)}{f0:List Int}(hF:Fam fs)(hm:f0∈fs):aQ (prQ fs) (ag f0)=[]:=by
 obtain⟨pre,post,e⟩:=Rt (List.mem_map_of_mem (f:=ag) hm);have hp:=hF.pri;have hP:=hF.pln;have e0:=hF.prd;rw[e]at hp e0;have hq:Pln (RM.prd (pre++post)):=iW _ λs hs=>(hp s (by simp at hs ⊢;rcases hs with z |z<;>simp[z])).pln
 have hs:Pln (ag f0):=(hp _ (by simp)).pln;rw[lX]at e0;exact(zp hP.tr hP.ne hs hq (by rw[hP.plain,e0])).1
inductive x9(C:Addr)(vs:List V)(H:Hp)(Q:VK)(E:XK):Prop
 |mk (a l h:Addr) (fs:List (List Int)) (f0 s0:List Int) (l1 l2 h1 h2:Int):vs=[.ref a,.ref l,.ref h]->H a=some (.lst ((prQ fs).map V.int))->RA C H l l1 l2->RA C H h h1 h2->Whl fs->OneS fs f0 s0 l1 l2 h1 h2->bJ (aL fs) l1 l2 h1 h2=1->EndsG 250 l1 l2 h1 h2->mkL H Q (ag f0)->x9 C vs H Q E
theorem GL(F:Fun K "least" "least" rX f fd)(T:Txt K mg)(jJ:Cal P w K mg base 34 "plain" ["row"] lj vt ve)(g9:Cal P w K mg base 1 "degree" ["row"] jW pJ pI)(Nr:Cal P w K mg base 4 "fine_width" ["whole"] (yh C) OX Og)(wD:Cal P w K mg base 6 "narrowed" ["row","low","high","width"] (qK C) KC Kg)(Nn:Cal P w K mg base 6 "line_of" ["whole","span"] (yd C) OT Oc)(Nv:Cal P w K mg base 36 "cells" ["row"] (yn C) O0 Oj)(M8:Cal P w K mg base 35 "square_of" ["whole","span","other"] (xQ C) OF NX)(Nt:Cal P w K mg base 3 "divides" ["divisor","row"] yk OY Oh)(nN:Cal P w K mg base 4 "count" ["row","low","high"] (og C) Bl Bg)(nM:Cal P w K mg base 35 "row_of" ["polynomial"] oa Bk Bf):FnOk P w K mg base CX0 37 f fd ["row","low","high"] (x9 C):=by
 obtain⟨g6,gK,gQ,gX⟩:=jJ;obtain⟨eN,d6,ee,eK⟩:=g9;obtain⟨MN,Iy,Jq,LZ⟩:=Nr;obtain⟨qi,o0,o6,qd⟩:=wD;obtain⟨MJ,Iu,Jm,LV⟩:=Nn;obtain⟨MQ,IB,Jt,L4⟩:=Nv;obtain⟨Mv,Ic,I9,LI⟩:=M8;obtain⟨MO,Iz,Jr,L1⟩:=Nt;obtain⟨nE,mD,mM,nh⟩:=nN;obtain⟨nC,mC,mL,ng⟩:=nM;refine F.ok sc_least (λvs H Q E h=>?_) (λcdv A outer s H vs Q E hr h=>?_)
 ·obtain⟨a,l,h,fs,f0,s0,l1,l2,h1,h2,rfl,_⟩:=h;rfl
 ·obtain⟨a,l,h,fs,f0,s0,l1,l2,h1,h2,rfl,hA,hl,hh,hW,hO,hcn,en,k⟩:=h;have hu:=hr.units;have big:=sizeLine_eq;have hF:=hW.fam;have hP:=hF.pln;have l7:=hW.l7;have l2':=hW.l2;have hml:((prQ fs).map V.int).length=(prQ fs).length:=Pk _;have pf0:=fG (hF.fac f0 hO.mem);have hL:=hP.pos
  refine⟨_,(ai (ar (i:=3) sc_least.nd rfl (Or.inl rfl) (al g6 (hr.mono) rfl gK gQ gX .nil ah (aa (pv 0) ac)))
   (ai (aS (aJ dL (al eN (hr.mono) rfl d6 ee eK .nil ah (aa (pv 3) ac)) af (aI _))
     (ao (aw (pv 3)))
     aV)
   (ai (ar (i:=4) sc_least.nd rfl (Or.inl rfl) (al MN (hr.mono) rfl Iy Jq LZ .nil ah (aa (pv 3) ac)))
   (ai (ar (i:=5) sc_least.nd rfl (Or.inl rfl) (al qi (hr.mono) rfl o0 o6 qd .nil ah (aa (pv 3) (aa (pv 1) (aa (pv 2) (aa (pv 4) ac))))))
   (ai (ar (i:=6) sc_least.nd rfl (Or.inl rfl) (al MJ (hr.mono) rfl Iu Jm LV .nil ah (aa (pv 3) (aa (pv 5) ac))))
   (ai (aS (aJ (mf (K:=K) rfl hu) (pv 6) (bj ac) (aI _))
     (ao (aw (pv 6)))
     aV)
   (ai (aS (aJ cV (al eN (hr.mono) rfl d6 ee eK .nil ah (aa (pv 3) ac)) af (aI _))
     (ao (aw (pv 3)))
     aV)
   (ai (db PassesOwn.never rfl (fS (K:=K) rfl (al MQ (hr.mono) rfl IB Jt L4 .nil ah (aa (pv 3) ac))) (aR (i:=7) sc_least.nd rfl (Or.inl rfl))
     (ai (ar (i:=8) sc_least.nd rfl (Or.inl rfl) (al Mv (hr.mono) rfl Ic I9 LI .nil ah (aa (pv 3) (aa (pv 5) (aa (al qi (hr.mono) rfl o0 o6 qd .nil ah (aa (pv 3) (aa (aE (aP (K:=K) rfl) (pv 7) af (λ_ _=>rfl)) (aa (aE (aP (K:=K) rfl) (pv 7) af (λ_ _=>rfl)) (aa (pv 4) ac))))) ac)))))
       (ao (aS (PW.pt (iU (tU (al MO (hr.mono) rfl Iz Jr L1 .nil ah (aa (pv 8) (aa (pv 3) ac)))) (iT (aJ cV (al nE (hr.mono) rfl mD mM nh .nil ah (aa (al nC (hr.mono) rfl mC mL ng .nil ah (aa (pv 8) ac)) (aa (pv 1) (aa (pv 2) ac)))) af (aI _)))))
         (ao (aw (pv 8)))
         aV))))
   (ao (aw (pv 3))))))))))),?_⟩
  refine aC ⟨_,rfl,a,prQ fs,rfl,hA,hP.tr,by omega,λp H1 s1 hp e1=>?_⟩;rw[hP.plain]at e1;refine bZ ⟨_,rfl,p,_,rfl,e1,_,_,rfl,rfl,_,rfl,aM (λh0=>?_) (λh0=>?_)⟩
  ·have h0':((prQ fs).map V.int).length-(1:Int)<2:=h0;rw[hml]at h0';have e:=wR hF hO.mem (by have:=pf0.two;omega);rw[e]at e1;exact⟨_,rfl,k p H1 s1 hp e1⟩
  refine aC ⟨_,rfl,p,fs,rfl,e1,hW,λwd H2 kb hk hB s2 hwd hWd hD bD=>?_⟩;have t2:=s1.trans s2;have e2:=s2 _ _ e1;obtain⟨sx,ε,hsx,hx1,hx2,ru⟩:=yR hF en.l2p en.h2p en.lt hcn;obtain rfl:=hO.only sx hsx hx1 hx2;refine aC ⟨_,rfl,_,rfl,_,rfl,_,rfl,p,l,h,wd,prQ fs,l1,l2,h1,h2,1,8*aq (prQ fs)*2^kb,250,520,ε,_,rfl,e2,hP.tr,hP.ne,by omega,hW.bits.mono,hl.same t2,hh.same t2,hWd,en,by decide,hD,b1k (by decide),bD,by decide,by decide,by decide,ru,λps x y H3 n pl x1 x2 y1 y2 s3 hps e3 hx hy nar=>?_⟩;have t3:=t2.trans s3;have ep3:=s3 _ _ e2;have N1:Nar1 fs sx l1 l2 h1 h2 x1 x2 y1 y2 kb:=⟨nar.ends,nar.ux,Qn.mp nar.uy,nar.lo,nar.hi,nar.wide⟩;refine aC ⟨_,rfl,_,rfl,p,ps,x,y,fs,f0,sx,l1,l2,h1,h2,x1,x2,y1,y2,kb,rfl,ep3,e3,hx,hy,hW,hO,N1,λpl' H4 s4 hpl e4=>?_⟩;refine bZ ⟨_,rfl,Ps _,λp0 hp0=>?_⟩;have s5:=Same.upd_new (o:=.lst []) hp0;obtain⟨u,e,b,σ,rfl,rfl,hb1,hNS,hc⟩:=hO.cases;have hne:ag [u,e,b]≠[]:=pf0.pln.ne;refine⟨pl',p0,gM [u,e,b],[],rfl,rfl,SqL.of (s5 _ _ e4),SqL.of au,_,rfl,dJ (λh3=>?_) (λh3=>?_)⟩
  ·have h3':gM [u,e,b]≠[]:=h3
   have e0:gM [u,e,b]=ag [u,e,b]:=by
    by_cases z:e=0
    ·exact if_pos z
    ·exact absurd (if_neg z) h3'
   rw[e0]at e4;exact⟨_,rfl,k pl' _ (t3.trans (s4.trans s5)) (t3.free hpl) (s5 _ _ e4)⟩
  have h3':gM [u,e,b]=[]:=h3
  have he:0<e:=by
   rcases hc with⟨_,rfl⟩ |⟨_,he⟩
   ·exact absurd ((if_pos rfl:gM [u,0,b]=ag [u,0,b]).symm.trans h3') hne
   ·exact he
  have hσ:σ=1\/σ = -1:=by
   rcases hc with⟨z,_⟩ |⟨z,_⟩
   ·exact .inl z
   ·exact z
  have hl3:(ag [u,e,b]).length=3:=by obtain⟨g,A0,A1,A2,_,eS,_⟩:=qX (u:=u) hb1 (show e≠0 by omega);rw[eS];rfl
  generalize upd H4 p0 (.lst [])=H5 at s5 ⊢
  have u5:=s3.trans (s4.trans s5);have ep5:=u5 _ _ e2;refine bZ ⟨_,rfl,p,_,rfl,ep5,_,_,rfl,rfl,_,rfl,aM (λh0=>?_) (λ_=>?_)⟩
  ·have h0':(((prQ fs).map V.int).length:Int)-1=2:=h0;rw[hml]at h0';have eW:=wR hF hO.mem (by omega);rw[eW]at ep5;exact⟨_,rfl,k p H5 (t2.trans u5) hp ep5⟩
  refine⟨_,rfl,p,fs,rfl,ep5,hW,λkb' pc ys H6 hk' hB' s6 hpc ec hys hcov hyl=>?_⟩;obtain rfl:=AG hB hB';have t5:=t2.trans u5;have u6:=u5.trans s6;have hsp1:[u,e,b,-σ]∈aL fs:=QQ.mpr ⟨_,hO.mem,by rw[ic he];rcases hσ with rfl |rfl<;>simp⟩;have hql:(qs ys).length=ys.length:=Pk _;refine⟨pc,rfl,⟨_,SqL.of ec⟩,pH (K:=K) (a:=pc) (xs:=qs ys) (λi σ' H'=>∃(z7 z8:Option V),σ'=[some (.ref a),some (.ref l),some (.ref h),some (.ref p),some (.ref wd),some (.ref ps),some (.ref pl'),z7,z8]/\Same H6 H'/\∀(j:Nat) (c:Cel),j<i->ys[j]?=some c->¬c.inn [u,e,b,-σ]) ⟨none,none,rfl,Same.refl _,λj c hj=>absurd hj (Rw _)⟩ ?_ ?_ ?_⟩
  ·rintro i σ' H' _ ⟨z7,z8,rfl,sm,_⟩;exact SqL.of (sm _ _ ec)
  ·rintro i z σ' H' hi ⟨z7,z8,rfl,sm,hno⟩
   have hil:i<ys.length:=by apply Classical.byContradiction;intro hn;rw[List.getElem?_eq_none_iff.mpr (by rw[hql];omega)]at hi;cases hi
   have ey:ys[i]?=some ys[i]:=List.getElem?_eq_getElem hil
   have hz:z=V.ref ys[i].q:=by
    unfold qs at hi
    rw[List.getElem?_map,ey]at hi;exact(Option.some.inj hi).symm
   subst hz;generalize hc0:ys[i]=c at *
   have hcf:=(hys c (by rw[<- hc0];exact Q1 hil)).nl (NL.of sm);have dE:=KQ hcf.dy hk hcf.dd;obtain⟨fx,sx',hO2⟩:=Ga hF dE.l2p dE.h2p dE.lt hcf.one;obtain⟨sc,εc,hsc,hcx1,hcx2,ruc⟩:=yR hF dE.l2p dE.h2p dE.lt hcf.one;have esc:=hO2.only sc hsc hcx1 hcx2;have u7:=u6.trans sm;have t7:=t2.trans u7;refine aC ⟨_,rfl,_,rfl,_,rfl,_,rfl,c.q,_,_,_,rfl,rfl,SqT.of hcf.tup,rfl,_,rfl,c.q,_,_,_,rfl,rfl,SqT.of hcf.tup,rfl,_,rfl,p,c.lo,c.hi,wd,prQ fs,c.l1,c.l2,c.h1,c.h2,1,8*aq (prQ fs)*2^kb,710,520,εc,_,rfl,u7 _ _ e2,hP.tr,hP.ne,by omega,hW.bits.mono,hcf.lo,hcf.hi,hWd.same u7,dE,by decide,hD,b1k (by decide),bD,by decide,by decide,by decide,ruc,λps' x' y' H7 n' pl7 p1 p2 q1 q2 s7 hps' e7 hx' hy' nar'=>?_⟩;have u8:=u7.trans s7;have v8:=(s4.trans s5).trans (s6.trans (sm.trans s7));have tw:TwoS C H7 ps ps' x y x' y' x1 x2 y1 y2 p1 p2 q1 q2:=⟨v8 _ _ e3,e7,hx.same v8,hy.same v8,hx',hy',nar.ends,nar'.ends⟩;refine⟨p,ps,ps',x,y,x',y',prQ fs,x1,x2,y1,y2,p1,p2,q1,q2,rfl,u8 _ _ e2,hP,hW.bits,tw,λt1 t2' m1 m2 hS psq H8 s8 hpsq e8=>?_⟩;have bl:=mH hW.bits;have trE:Tr [aq (prQ fs)*m1/m2,-(aq (prQ fs)*t1/t2'),aq (prQ fs)]:=(tr_snoc (r:=[aq (prQ fs)*m1/m2,-(aq (prQ fs)*t1/t2')])).mpr (by omega);have hPE:=fQ trE (by simp);have hlE:(aB [aq (prQ fs)*m1/m2,-(aq (prQ fs)*t1/t2'),aq (prQ fs)]).length=3:=RM.plain_len _
   have bE:AllB 6300 (aB [aq (prQ fs)*m1/m2,-(aq (prQ fs)*t1/t2'),aq (prQ fs)]):=by
    refine kg λv hv=>?_
    rcases Pu.mp hv with rfl |hv
    ·exact Bits.of_le ((bl.mul hS.mx.b1).mono (k:=6300) (by decide)) (R5 _ _)
    rcases Pu.mp hv with rfl |hv
    ·exact(Bits.of_le ((bl.mul hS.bt).mono (k:=6300) (by decide)) (R5 _ _)).neg
    ·rw[Pw.mp hv];exact bl.mono
   have fell:c.inn [u,e,b,-σ]->aB [aq (prQ fs)*m1/m2,-(aq (prQ fs)*t1/t2'),aq (prQ fs)]=ag [u,e,b]:=λhin=>by
    have ex:=hO2.only _ hsp1 hin.1 hin.2;have e9:sc=[u,e,b,-σ]:=by rw[esc,ex]
    have ux:=nar'.ux;have uy:=Qn.mp nar'.uy;rw[e9]at ux uy;exact DE hO hW he hσ hB N1 nar'.ends ux uy nar'.wide hS
   generalize aB [aq (prQ fs)*m1/m2,-(aq (prQ fs)*t1/t2'),aq (prQ fs)]=Es at e8 hPE hlE bE fell
   have u9:=u8.trans s8;have t9:=t2.trans u9
   have next:∀H',Same H8 H'->¬c.inn [u,e,b,-σ]->∃(z7 z8:Option V),[some (V.ref a),some (V.ref l),some (V.ref h),some (V.ref p),some (V.ref wd),some (V.ref ps),some (V.ref pl'),some (V.ref c.q),some (V.ref psq)]=[some (V.ref a),some (V.ref l),some (V.ref h),some (V.ref p),some (V.ref wd),some (V.ref ps),some (V.ref pl'),z7,z8]/\Same H6 H'/\∀(j:Nat) (c:Cel),j<i+1->ys[j]?=some c->¬c.inn [u,e,b,-σ]:=λH' s' hn=>⟨_,_,rfl,sm.trans (s7.trans (s8.trans s')),λj c' hj ej=>by
    rcases Nat.lt_or_eq_of_le (Nat.lt_succ_iff.mp hj)with v |v
    ·exact hno j c' v ej
    ·subst v;rw[ey,<- hc0]at ej
     rw[<- Option.some.inj ej,hc0];exact hn⟩
   refine fi ⟨_,rfl,_,rfl,p,psq,prQ fs,Es,6300,rfl,u9 _ _ e2,e8,hPE.ne,hW.bits.mono,bE,by have:((prQ fs).length+2)*(6300+1)<=9*6301:=Qg _ (by omega);omega,by omega,λH9 s9=>?_⟩;refine⟨_,rfl,aM (λhd=>?_) (λhd=>?_)⟩
   ·have hd':aQ (prQ fs) Es=[]:=hd
    obtain⟨gs,hG,hgl,hEg,hone,hfel⟩:∃gs,Fam gs/\gs.length<=2/\Es=prQ gs/\(bJ (aL gs) l1 l2 h1 h2=1->Es=ag [u,e,b])/\(c.inn [u,e,b,-σ]->bJ (aL gs) l1 l2 h1 h2=1):=by
     by_cases hin:c.inn [u,e,b,-σ]
     ·have hG:=hF.single hO.mem;exact⟨[[u,e,b]],hG,by simp,by rw[ke hG];exact fell hin,λ_=>fell hin,λ_=>hO.cnt⟩
     ·obtain⟨gs,g1,_,g3,g4,g5⟩:=hO.sq hl3 hPE hlE (vA hPE.ne hPE.tr hd');exact⟨gs,g1,g3,g4,g5,λz=>absurd z hin⟩
    have bG:=CK hG hgl;obtain⟨rn,rx,rl⟩:=tI hG (by rw[<- hEg];omega) bG;rw[<- hEg]at rn bG;refine⟨_,rfl,psq,Es,9,rfl,s9 _ _ e8,hPE.tr,bE.mono,by omega,by decide,rn,λlr rs H10 s10 hlr hnew el hR=>?_⟩;have t10:=(t9.trans s9).trans s10;have hR':RwH H10 rs (dk gs):=by unfold dk;rw[<- hEg];exact hR
    refine⟨_,rfl,_,rfl,lr,l,h,rs,dk gs,l1,l2,h1,h2,rfl,el,hR',hl.same t10,hh.same t10,en.bl1.mono,en.bl2.mono,en.bh1.mono,en.bh2.mono,rx,rl,λH11 s11=>⟨_,_,rfl,rfl,_,rfl,aM (λh4=>?_) (λh4=>?_)⟩⟩
    ·have h4':((chS (sgs l1 l2 (dk gs))).1:Int)-(chS (sgs h1 h2 (dk gs))).1=1:=h4;rw[oA hG (by rw[<- hEg];omega) en.l2p en.h2p en.lt]at h4';rw[hone h4']at e8;have w11:=s9.trans (s10.trans s11);refine aX ⟨_,rfl,?_⟩;exact k psq H11 (t9.trans w11) ((t2.trans u8).free hpsq) (w11 _ _ e8)
    ·have h4':¬((chS (sgs l1 l2 (dk gs))).1:Int)-(chS (sgs h1 h2 (dk gs))).1=1:=h4;rw[oA hG (by rw[<- hEg];omega) en.l2p en.h2p en.lt]at h4';exact next _ (s9.trans (s10.trans s11)) λz=>h4' (hfel z)
   ·have hd':¬aQ (prQ fs) Es=[]:=hd;refine fN (next _ s9 λz=>hd' ?_);rw[fell z];exact KS hF hO.mem
  ·rintro σ' H' ⟨z7,z8,rfl,sm,hno⟩;obtain⟨c,hc1,hc2⟩:=hcov _ hsp1;obtain⟨j,hj,ej⟩:=List.mem_iff_getElem.mp hc1;exact absurd hc2 (hno j c (by rw[hql];exact hj) (by rw[<- ej];exact List.getElem?_eq_getElem hj))
structure OneW(fs:List (List Int))(f0 s0:List Int)(l1 l2 h1 h2:Int):Prop where
 whl:Whl fs
 one:OneS fs f0 s0 l1 l2 h1 h2
 cnt:bJ (aL fs) l1 l2 h1 h2=1
 en:EndsG 250 l1 l2 h1 h2
inductive x4(C CN:Addr)(vs:List V)(H:Hp)(Q:VK)(E:XK):Prop
 |mk (a l h:Addr) (fs:List (List Int)) (f0 s0:List Int) (l1 l2 h1 h2:Int):vs=[.ref a,.ref l,.ref h]->H a=some (.lst ((prQ fs).map V.int))->RA C H l l1 l2->RA C H h h1 h2->OneW fs f0 s0 l1 l2 h1 h2->(∀(x q:Addr) (H':Hp),Same H H'->H x=none->NA CN H' x q l h->H' q=some (.lst ((ag f0).map V.int))->H q=none->Q (.ref x) H')->x4 C CN vs H Q E
theorem GC(F:Fun K "number_in" "number_in" rO f fd)(T:Txt K mg)(R:RCI K mg C)(No:Cal P w K mg base 37 "least" ["row","low","high"] (x9 C) OU Od)(eO:Cal P w K mg base 2 "sign_at" ["row","ratio"] (ie C) kG kE)(wD:Cal P w K mg base 6 "narrowed" ["row","low","high","width"] (qK C) KC Kg)(wN:MCal P w K mg base 4 C "minus" ["self","other"] (qM C) KM Kq)(jM:MCal P w K mg base 4 C "times" ["self","other"] (lg C) vx vi)(cC:KCal P w K mg base 2 C "Ratio" ["self","top","bottom"] (dj C) eo ei eG [.int 1])(wO:KCal P w K mg base 1 CN "Number" ["self","row","low","high"] (ll CN) KN Kr KW []):FnOk P w K mg base CX0 38 f fd ["simple","low","high"] (x4 C CN):=by
 obtain⟨MK,Iv,Jn,LW⟩:=No;obtain⟨dX,dP,dQ,dW⟩:=eO;obtain⟨qi,o0,o6,qd⟩:=wD;obtain⟨wq,uv,vY⟩:=wN;obtain⟨gz,gm,gw⟩:=jM;obtain⟨bU,bT,bK,cs,cT,cS⟩:=cC;obtain⟨wt,wc,uG,vZ,Mc,Lb⟩:=wO;refine F.ok sc_number_in (λvs H Q E h=>?_) (λcdv A outer s H vs Q E hr h=>?_)
 ·obtain⟨a,l,h,fs,f0,s0,l1,l2,h1,h2,rfl,_⟩:=h;rfl
 ·obtain⟨a,l,h,fs,f0,s0,l1,l2,h1,h2,rfl,hA,hl,hh,hN,k⟩:=h
  refine⟨_,(ai (ar (i:=3) sc_number_in.nd rfl (Or.inl rfl) (al MK (hr.mono) rfl Iv Jn LW .nil ah (aa (pv 0) (aa (pv 1) (aa (pv 2) ac)))))
   (ai (ar (i:=4) sc_number_in.nd rfl (Or.inl rfl) (cU (aa (pv 1) (aa (pv 2) ac))))
   (ai (gF PassesOwn.never (aJ cV (al dX (hr.mono) rfl dP dQ dW .nil ah (aa (pv 3) (aa (aE (aP (K:=K) rfl) (pv 4) af (λ_ _=>rfl)) ac))) af (aI _))
     (ai (ar (i:=5) sc_number_in.nd rfl (Or.inl rfl) (dm (dm (aE (aP (K:=K) rfl) (pv 4) af (λ_ _=>rfl)) R.cl uv wq (hr.mono) vY .nil ah (aa (aE (aP (K:=K) rfl) (pv 4) af (λ_ _=>rfl)) ac)) R.cl gm gz (hr.mono) gw .nil ah (aa (cD bT bU (hr.mono) rfl bK cs .nil ah (aa af (aa af ac))) ac)))
       (ao (ar (i:=4) sc_number_in.nd rfl (Or.inl rfl) (al qi (hr.mono) rfl o0 o6 qd .nil ah (aa (pv 3) (aa (aE (aP (K:=K) rfl) (pv 4) af (λ_ _=>rfl)) (aa (aE (aP (K:=K) rfl) (pv 4) af (λ_ _=>rfl)) (aa (pv 5) ac)))))))))
   (ao (aw (cD wc wt (hr.mono) rfl uG vZ .nil ah (aa (pv 3) (aa (aE (aP (K:=K) rfl) (pv 4) af (λ_ _=>rfl)) (aa (aE (aP (K:=K) rfl) (pv 4) af (λ_ _=>rfl)) ac))))))))),?_⟩
  obtain⟨bS,lS⟩:=j2 (hN.one.fam.fac f0 hN.one.mem);refine aC ⟨_,rfl,_,rfl,_,rfl,a,l,h,fs,f0,s0,l1,l2,h1,h2,rfl,hA,hl,hh,hN.whl,hN.one,hN.cnt,hN.en,λp H1 s1 hp e1=>?_⟩;refine aC ⟨_,rfl,_,rfl,by show 2<=sizeLine;decide,λps hps=>?_⟩;have s2:=s1.then_new (o:=.tup [V.ref l,V.ref h]) hps;have q2:upd H1 ps (.tup [V.ref l,V.ref h]) ps=some (.tup [V.ref l,V.ref h]):=au;have e2:=(Same.upd_new (o:=.tup [V.ref l,V.ref h]) hps) _ _ e1;generalize upd H1 ps (.tup [V.ref l,V.ref h])=H2 at s2 q2 e2 ⊢
  refine⟨λm σ' H'=>m=0/\(∃z5:Option V,σ'=[some (.ref a),some (.ref l),some (.ref h),some (.ref p),some (.ref ps),z5])/\H2=H',⟨0,rfl,⟨none,rfl⟩,rfl⟩,?_⟩;rintro m σ' H' ⟨rfl,⟨z5,rfl⟩,rfl⟩;refine⟨_,rfl,_,rfl,ps,_,_,_,rfl,rfl,SqT.of q2,rfl,p,l,ag f0,l1,l2,⟨rfl,e2,hl.same s2,by omega,bS.mono,hN.en.bl1.mono,hN.en.bl2.mono⟩,λH3 s3=>⟨_,_,rfl,rfl,_,rfl,aM (λh0=>absurd h0 hN.one.low) (λ_=>?_)⟩⟩;have q3:=s3 _ _ q2;have e3:=s3 _ _ e2;have t3:=s2.trans s3;dsimp only
  refine aX ⟨_,rfl,_,rfl,ps,_,_,_,rfl,rfl,SqT.of q3,rfl,_,rfl,ps,_,_,_,rfl,rfl,SqT.of q3,rfl,Ae e3 λx q H4 s4 hx hNA hq hqn=>?_⟩;exact k x q H4 (t3.trans s4) (t3.free hx) hNA hq (t3.free hqn)
inductive qJ(C CN:Addr)(vs:List V)(H:Hp)(Q:VK)(E:XK):Prop
 |mk (a l h:Addr) (kp:List Int) (c:Int) (us:List (List Int×Nat)) (fs:List (List Int)) (f0 s0:List Int) (l1 l2 h1 h2:Int):vs=[.ref a,.ref l,.ref h]->H a=some (.lst (kp.map V.int))->RA C H l l1 l2->RA C H h h1 h2->Made kp c us->flt us=prQ fs->OneW fs f0 s0 l1 l2 h1 h2->(∀(x q:Addr) (H':Hp),Same H H'->H x=none->NA CN H' x q l h->H' q=some (.lst ((ag f0).map V.int))->H q=none->Q (.ref x) H')->qJ C CN vs H Q E
theorem GD(F:FunD K "number" "number" j3 dV f fd)(T:Txt K mg)(R:RCI K mg C)(Nd:Cal P w K mg base 1 "refuse_high" ["height"] (λvs H Q _=>∃i:Int,vs=[.int i]/\i<=8/\Q .non H) OK N3)(g9:Cal P w K mg base 1 "degree" ["row"] jW pJ pI)(cC:KCal P w K mg base 2 C "Ratio" ["self","top","bottom"] (dj C) eo ei eG [.int 1])(nO:Cal P w K mg base 1 "bound" ["row"] (oi K) Bm Bh)(MZ:Cal P w K mg base 36 "without_squares" ["row"] xJ OB NR)(Nl:Cal P w K mg base 36 "many_within" ["simple","low","high"] (x5 C) OR Oa)(Nf:Cal P w K mg base 1 "refuse_great" ["row"] xW OL N4)(Nh:Cal P w K mg base 38 "number_in" ["simple","low","high"] (x4 C CN) ON N6):FnOk P w K mg base CX0 39 f fd ["row","low","high"] (qJ C CN):=by
 obtain⟨MA,Ih,Jd,LM⟩:=Nd;obtain⟨eN,d6,ee,eK⟩:=g9;obtain⟨bU,bT,bK,cs,cT,cS⟩:=cC;obtain⟨jG,jb,jh,jB⟩:=nO;obtain⟨Mr,HY,IX,LE⟩:=MZ;obtain⟨MH,Iq,Jk,LT⟩:=Nl;obtain⟨MB,Ii,Je,LN⟩:=Nf;obtain⟨MD,Ik,Jg,LP⟩:=Nh;refine F.ok sc_number (λvs H Q E h=>?_) (λcdv A outer s H vs Q E hr h=>?_)
 ·obtain⟨a,l,h,kp,c,us,fs,f0,s0,l1,l2,h1,h2,rfl,_⟩:=h;rfl
 ·obtain⟨a,l,h,kp,c,us,fs,f0,s0,l1,l2,h1,h2,rfl,hA,hl,hh,hM,hfl,hN,k⟩:=h;have l9:=hM.len.1;have l2':=hM.one;have l7:=hN.whl.l7;have hml:(kp.map V.int).length=kp.length:=Pk _
  refine⟨_,(ai (ii (al MA (hr.mono) rfl Ih Jd LM .nil ah (aa (al eN (hr.mono) rfl d6 ee eK .nil ah (aa (pv 0) ac)) ac)))
   (ai (aS (aJ dL (al eN (hr.mono) rfl d6 ee eK .nil ah (aa (pv 0) ac)) af (aI _))
     (ao iV)
     aV)
   (ai (ar (i:=3) sc_number.nd rfl (Or.inl rfl) (tZ (aJ zq (pv 1) zm (aI _)) (cD bT bU (hr.mono) rfl bK cT cS ah (aa (b7 bV (al jG (hr.mono) rfl jb jh jB .nil ah (aa (pv 0) ac))) ac)) (pv 1)))
   (ai (ar (i:=4) sc_number.nd rfl (Or.inl rfl) (tZ (aJ zq (pv 2) zm (aI _)) (cD bT bU (hr.mono) rfl bK cT cS ah (aa (al jG (hr.mono) rfl jb jh jB .nil ah (aa (pv 0) ac)) ac)) (pv 2)))
   (ai (ar (i:=5) sc_number.nd rfl (Or.inl rfl) (al Mr (hr.mono) rfl HY IX LE .nil ah (aa (pv 0) ac)))
   (ai (ar (i:=6) sc_number.nd rfl (Or.inl rfl) (al MH (hr.mono) rfl Iq Jk LT .nil ah (aa (pv 5) (aa (pv 3) (aa (pv 4) ac)))))
   (ai (aS (aJ i7 (pv 6) af (aI _))
     (ao iV)
     aV)
   (ai (ii (al MB (hr.mono) rfl Ii Je LN .nil ah (aa (pv 5) ac)))
   (ao (aw (al MD (hr.mono) rfl Ik Jg LP .nil ah (aa (pv 5) (aa (pv 3) (aa (pv 4) ac)))))))))))))),?_⟩
  refine j7 ⟨_,rfl,a,_,rfl,hA,_,rfl,by rw[hml];omega,?_⟩;refine bZ ⟨_,rfl,a,_,rfl,hA,_,_,rfl,rfl,_,rfl,aM (λh0=>absurd (show((kp.map V.int).length:Int)-1<1 from h0) (by rw[hml];omega)) (λ_=>?_)⟩;refine aC ⟨_,rfl,rfl,_,rfl,?_⟩;rw[decide_eq_false (by simp)];refine fN ⟨_,rfl,?_⟩;refine aC ⟨_,rfl,rfl,_,rfl,?_⟩;rw[decide_eq_false (by simp)];refine fN ⟨_,rfl,?_⟩;refine aC ⟨_,rfl,a,kp,c,us,rfl,hA,hM,λpw H1 s1 hpw e1=>?_⟩;rw[hfl]at e1;refine aC ⟨_,rfl,_,rfl,_,rfl,pw,l,h,fs,l1,l2,h1,h2,rfl,e1,hN.whl,hl.same s1,hh.same s1,hN.en,λH2 s2=>?_⟩;rw[hN.cnt];have e2:=s2 _ _ e1;have t2:=s1.trans s2;refine bZ ⟨_,rfl,_,_,rfl,rfl,_,rfl,dJ (λh=>absurd rfl h) (λ_=>?_)⟩;refine j7 ⟨_,rfl,pw,prQ fs,rfl,e2,by omega,hN.whl.bits.mono,λH3 s3=>?_⟩;have t3:=t2.trans s3;refine aX ⟨_,rfl,_,rfl,_,rfl,pw,l,h,fs,f0,s0,l1,l2,h1,h2,rfl,s3 _ _ e2,hl.same t3,hh.same t3,hN,λx q H4 s4 hx hNA hq hqn=>?_⟩;exact k x q H4 (t3.trans s4) (t3.free hx) hNA hq (t3.free hqn)
def NU(kb:Nat)(C CN:Addr)(H:Hp)(x:Addr)(ns:List Int)(l1 l2 h1 h2 ε:Int)(Up:Int->Int->Prop):Prop:=∃q l h,NA CN H x q l h/\H q=some (.lst (ns.map V.int))/\RA C H l l1 l2/\RA C H h h1 h2/\EndsG kb l1 l2 h1 h2/\RootU ns l1 l2 h1 h2 ε Up
theorem NU.same{kb:Nat}{C CN:Addr}{H H':Hp}{x:Addr}{ns:List Int}{l1 l2 h1 h2 ε:Int}{Up:Int->Int->Prop}(n:NU kb C CN H x ns l1 l2 h1 h2 ε Up)(s:Same H H'):NU kb C CN H' x ns l1 l2 h1 h2 ε Up:=let⟨q,l,h,a,e,c,d,en⟩:=n;⟨q,l,h,a.same s,s _ _ e,c.same s,d.same s,en⟩
theorem EQ{fs pre post:List (List Int)}{s:List Int}{c l1 l2 h1 h2:Int}(hF:∀f∈fs,fJ f)(hc:c≠0)(hsp:aL fs=pre++s::post)(l2p:0<l2)(h2p:0<h2)(lt:l1*h2<h1*l2)(hno:∀x∈pre++post,¬(0<aj x l1 l2/\aj x h1 h2<=0)) :
 ∃ε:Int,(ε=1\/ε = -1)/\∀x1 x2,0<x2->l1*x2<x1*l2->x1*h2<=h1*x2->sg (hv x1 x2 (ad [c] (aW [1] (fs.map ag)))) = -ε*aj s x1 x2:=by
 have hS:∀x∈aL fs,Spt x:=λx hx=>cX hF hx
 have ho:∀x∈pre++post,Spt x:=λx hx=>hS x (by rw[hsp];simp at hx ⊢;rcases hx with h |h<;>simp[h])
 have hu:=qx (t:=h1) (n:=h2) (ls:=pre++post) λy hy=>(oq (ho y hy) l2p h2p h2p lt (hno y hy) lt (PU _)).2
 have hsg:sg c=1\/sg c = -1:=by
  rcases Qh hc with z |z
  ·right;unfold sg;rw[if_pos z]
  ·left;unfold sg;rw[if_neg (by omega),if_pos z]
 refine⟨sg c*spr h1 h2 (pre++post),?_,λx1 x2 x2p a b=>?_⟩
 ·rcases hsg with z |z<;>rcases hu with y |y<;>rw[z,y]<;>decide
 ·rw[lT x2p hF,hsp,jV];show sg c*(spr x1 x2 pre*(-aj s x1 x2*spr x1 x2 post))=_;have e:spr x1 x2 (pre++post)=spr h1 h2 (pre++post):=qy λy hy=>(oq (ho y hy) l2p h2p x2p lt (hno y hy) a b).1
  rw[<- e,jV];grind
structure NSg(kb:Nat)(C CN:Addr)(H:Hp)(x:Addr)(ns:List Int)(l1 l2 h1 h2 ε:Int)(s:List Int):Prop where
 nu:NU kb C CN H x ns l1 l2 h1 h2 ε (λt n=>0<aj s t n)
 spt:Spt s
 sgn:∀x1 x2,0<x2->l1*x2<x1*l2->x1*h2<=h1*x2->sg (hv x1 x2 ns) = -ε*aj s x1 x2
theorem NSg.same{kb:Nat}{C CN:Addr}{H H':Hp}{x:Addr}{ns:List Int}{l1 l2 h1 h2 ε:Int}{s:List Int}(n:NSg kb C CN H x ns l1 l2 h1 h2 ε s)(sm:Same H H'):NSg kb C CN H' x ns l1 l2 h1 h2 ε s:=⟨n.nu.same sm,n.spt,n.sgn⟩
inductive qR(C CN:Addr)(vs:List V)(H:Hp)(Q:VK)(E:XK):Prop
 |mk (x:Addr) (ns:List Int) (l1 l2 h1 h2 ε τ:Int) (s:List Int):vs=[.ref x,.int (-ε*τ)]->NSg 2000 C CN H x ns l1 l2 h1 h2 ε s->ns.length<=20->AllB 1000 ns->(τ=0\/τ=1\/τ = -1/\aj s h1 h2 = -1)->(∀H',Same H H'->Q (.int τ) H')->qR C CN vs H Q E
theorem G0(F:Fun K "beside" "beside" sF f fd)(T:Txt K mg)(R:RCI K mg C)(RN:NCI K mg CN)(eO:Cal P w K mg base 2 "sign_at" ["row","ratio"] (ie C) kG kE):FnOk P w K mg base CX0 3 f fd ["one","sign"] (qR C CN):=by
 obtain⟨dX,dP,dQ,dW⟩:=eO;refine F.ok En (λvs H Q E h=>?_) (λcdv A outer s H vs Q E hr h=>?_)
 ·obtain⟨x,ns,l1,l2,h1,h2,ε,τ,s,rfl,_⟩:=h;rfl
 ·obtain⟨x,ns,l1,l2,h1,h2,ε,τ,sp,rfl,hN,nl,nb,hτ,k⟩:=h;obtain⟨q,l,h,⟨dx,hx⟩,hq,hl,hh,en,ru⟩:=id hN.nu
  refine⟨_,(ai (aS (aJ cV (pv 1) af (aI _))
   (ao (aw af))
   aV)
   (ai (aS (aJ cV (pv 1) (al dX (hr.mono) rfl dP dQ dW .nil ah (aa (aO (K:=K) rfl (pv 0) rfl) (aa (aO (K:=K) rfl (pv 0) rfl) ac))) (aI _))
     (ao (aw (b7 bV af)))
     aV)
   (ao (aw af)))),?_⟩
  have e1:=ru.e1;have hs:=hN.sgn h1 h2 en.h2p en.lt (PU _);have htop:aj sp h1 h2<=0:=Qn.mp ru.top;have hc:=cO sp h1 h2;refine bZ ⟨_,rfl,_,_,rfl,rfl,_,rfl,aM (λh0=>?_) (λh0=>?_)⟩
  ·have h0' : -ε*τ=0:=h0;have e:τ=0:=by rcases e1 with rfl |rfl<;>omega
   subst e;exact k H (Same.refl _)
  have h0':¬ -ε*τ=0:=h0;refine bZ ⟨_,rfl,_,rfl,x,CN,dx,_,_,rfl,hx,RN.cl,RN.nP,kC _ _ _,_,rfl,x,CN,dx,_,_,rfl,hx,RN.cl,RN.nH,kD _ _ _,q,h,ns,h1,h2,⟨rfl,hq,hh,nl,nb.mono,en.bh1.mono,en.bh2.mono⟩,λH1 s1=>⟨_,_,rfl,rfl,_,rfl,aM (λhe=>?_) (λhne=>?_)⟩⟩
  ·have he' : -ε*τ=sg (hv h1 h2 ns):=he;rw[hs]at he'
   have e:τ = -1:=by
    rcases hτ with rfl |rfl |⟨rfl,_⟩
    ·exact absurd (PN _) h0'
    ·rcases e1 with rfl |rfl<;>omega
    ·rfl
   subst e;exact aX ⟨_,rfl,k H1 s1⟩
  ·have hne':¬ -ε*τ=sg (hv h1 h2 ns):=hne;rw[hs]at hne'
   have e:τ=1:=by
    rcases hτ with rfl |rfl |⟨rfl,z⟩
    ·exact absurd (PN _) h0'
    ·rfl
    ·rw[z]at hne';exact absurd rfl hne'
   subst e;exact aX (k H1 s1)
inductive lu(C CN:Addr)(vs:List V)(H:Hp)(Q:VK)(E:XK):Prop
 |mk (x r:Addr) (ns:List Int) (l1 l2 h1 h2 ε u d:Int) (s:List Int):vs=[.ref x,.ref r]->NSg 2000 C CN H x ns l1 l2 h1 h2 ε s->ns.length<=20->AllB 1000 ns->RA C H r u d->0<d->Bits 3000 u->Bits 3000 d->(∀H',Same H H'->Q (.int (aj s u d)) H')->lu C CN vs H Q E
theorem G3(F:Fun K "against" "against" sH f fd)(T:Txt K mg)(R:RCI K mg C)(RN:NCI K mg CN)(jN:MCal P w K mg base 2 C "against" ["self","other"] (lv C) vy vj)(wI:Cal P w K mg base 3 "beside" ["one","sign"] (qR C CN) KH Kl)(eO:Cal P w K mg base 2 "sign_at" ["row","ratio"] (ie C) kG kE):FnOk P w K mg base CX0 4 f fd ["one","ratio"] (lu C CN):=by
 obtain⟨g8,gJ,gZ⟩:=jN;obtain⟨wk,uD,uS,vU⟩:=wI;obtain⟨dX,dP,dQ,dW⟩:=eO;refine F.ok Ep (λvs H Q E h=>?_) (λcdv A outer s H vs Q E hr h=>?_)
 ·obtain⟨x,r,ns,l1,l2,h1,h2,ε,u,d,s,rfl,_⟩:=h;rfl
 ·obtain⟨x,r,ns,l1,l2,h1,h2,ε,u,d,sp,rfl,hN,nl,nb,hR,hd,bu,bd,k⟩:=h;obtain⟨q,l,h,⟨dx,hx⟩,hq,hl,hh,en,ru⟩:=id hN.nu;obtain⟨dr,hr'⟩:=id hR
  refine⟨_,(ai (aS (aJ oO (dm (pv 1) R.cl gJ g8 (hr.mono) gZ .nil ah (aa (aO (K:=K) rfl (pv 0) rfl) ac)) af (aI _))
   (ao (aw af))
   aV)
   (ai (aS (aJ dD (dm (pv 1) R.cl gJ g8 (hr.mono) gZ .nil ah (aa (aO (K:=K) rfl (pv 0) rfl) ac)) af (aI _))
     (ao (aw (b7 bV af)))
     aV)
   (ao (aw (al wk (hr.mono) rfl uD uS vU .nil ah (aa (pv 0) (aa (al dX (hr.mono) rfl dP dQ dW .nil ah (aa (aO (K:=K) rfl (pv 0) rfl) (aa (pv 1) ac))) ac))))))),?_⟩
  have htop:aj sp h1 h2<=0:=Qn.mp ru.top;have sgp:∀c:Int,sg c>0↔0<c:=λc=>by unfold sg;split<;>(try split)<;>constructor<;>intro z<;>omega
  refine bZ ⟨_,rfl,r,dr,_,rfl,hr',dF _ _ fv.1 fv.2,_,rfl,x,CN,dx,_,_,rfl,hx,RN.cl,RN.nL,va _ _ _,r,l,u,d,l1,l2,rfl,hR,hl,bu.mono,bd.mono,en.bl1.mono,en.bl2.mono,_,_,rfl,rfl,_,rfl,aM (λh0=>?_) (λh0=>?_)⟩
  ·have h3:u*l2<=l1*d:=Qn.mp λz=>by have:=(sgp (u*l2-l1*d)).mpr (by omega);have h0':sg (u*l2-l1*d)<=0:=h0;omega
   have h4:=yH hN.spt hd en.l2p h3 ru.low;have e:aj sp u d=1:=by rcases cO sp u d with z |z |z<;>omega
   rw[e]at k;exact aX (k H (Same.refl _))
  have h3:l1*d<u*l2:=QG.mp λz=>h0 (show sg (u*l2-l1*d)<=0 from Qn.mp λy=>by have:=(sgp (u*l2-l1*d)).mp y;omega)
  refine bZ ⟨_,rfl,r,dr,_,rfl,hr',dF _ _ fv.1 fv.2,_,rfl,x,CN,dx,_,_,rfl,hx,RN.cl,RN.nH,kD _ _ _,r,h,u,d,h1,h2,rfl,hR,hh,bu.mono,bd.mono,en.bh1.mono,en.bh2.mono,_,_,rfl,rfl,_,rfl,aM (λh0'=>?_) (λh0'=>?_)⟩
  ·have h4:=(sgp (u*h2-h1*d)).mp h0';have e:=fM hN.spt en.h2p hd (show h1*d<u*h2 by omega) htop;rw[e]at k;exact aX ⟨_,rfl,k H (Same.refl _)⟩
  have h4:u*h2<=h1*d:=Qn.mp λz=>h0' ((sgp (u*h2-h1*d)).mpr (by omega))
  have hs:=hN.sgn u d hd h3 h4;refine aX ⟨_,rfl,_,rfl,x,CN,dx,_,_,rfl,hx,RN.cl,RN.nP,kC _ _ _,_,rfl,q,r,ns,u,d,⟨rfl,hq,hR,nl,nb.mono,bu.mono,bd.mono⟩,λH1 s1=>?_⟩;rw[hs];refine⟨x,ns,l1,l2,h1,h2,ε,aj sp u d,sp,rfl,hN.same s1,nl,nb,?_,λH2 s2=>k H2 (s1.trans s2)⟩;rcases cO sp u d with z |z |z
  ·exact .inr (.inl z)
  ·exact .inl z
  ·refine .inr (.inr ⟨z,?_⟩);rcases Q7 h4 with y |y
   ·exact fM hN.spt hd en.h2p y (by omega)
   ·rw[<- jY sp hd en.h2p y];exact z
theorem Hg(F:Fun K "_law_cell_at" "_law_cell_at" sU f fd)(T:Txt K mg):FnOk P w K mg base CX0 1 f fd ["_law_script","_law_k"] (iL K):=by
 refine F.ok Eu (λvs H Q E h=>?_) (λcdv A outer s H vs Q E hr h=>?_)
 ·obtain⟨a,ns,k,rfl,_⟩:=h;rfl
 ·obtain⟨a,ns,n,rfl,hS,k⟩:=h
  refine⟨_,(ai (aS (aJ dL (pv 1) (ci (dz (K:=K) rfl) (by rfl) T.len_ PySem.boot_len (aa (pv 0) ac)) (aI _))
   (ao (aw (aE (ck (K:=K) rfl) (pv 0) (pv 1) (λ_ _=>rfl))))
   aV)
   (ao (aw af))),?_⟩
  refine⟨_,rfl,_,rfl,a,_,rfl,.inl hS,_,_,rfl,rfl,_,rfl,?_⟩;refine aM (λh1=>?_) (λh1=>?_)
  ·rw[Pk]at h1;have h2:n<ns.length:=by omega
   refine⟨_,rfl,_,rfl,a,_,_,_,rfl,rfl,hS,kQ (v:=.int (ns.getD n 0)) ?_,k⟩;rw[List.getElem?_map,List.getElem?_eq_getElem h2];simp[List.getD,h2]
  ·rw[Pk]at h1;have h2:ns.length<=n:=by omega
   have e:ns.getD n 0=0:=by simp[List.getD,List.getElem?_eq_none_iff.mpr h2]
   rw[e]at k;exact k
inductive xL(vs:List V)(H:Hp)(Q:VK)(E:XK):Prop
 |mk (i:Int):vs=[.int i]->Q (.bl true) H->xL vs H Q E
theorem G6(F:Fun K "_law_whole" "_law_whole" sK f fd)(T:Txt K mg):FnOk P w K mg base CX0 1 f fd ["_law_found"] xL:=by
 refine F.ok Er (λvs H Q E h=>?_) (λcdv A outer s H vs Q E hr h=>?_)
 ·obtain⟨i,rfl,_⟩:=h;rfl
 ·obtain⟨i,rfl,k⟩:=h;refine⟨_,(ao (aw (FS (ci (B7 (K:=K) rfl) (by rfl) T.isinstance_ PyProof.Rows.boot_isinstance (aa (pv 0) (aa (zo (v:=.ty "int") (by rfl) T.int_ PyProof.Rows.boot_int (by rfl)) ac))) (zl (FN (ci (B7 (K:=K) rfl) (by rfl) T.isinstance_ PyProof.Rows.boot_isinstance (aa (pv 0) (aa (zo (v:=.ty "bool") (by rfl) T.bool_ PyProof.Rows.boot_bool (by rfl)) ac)))))))),?_⟩;refine aX (E5 (yU ⟨_,rfl,AE (.int i) (k:=true) (by rfl) ⟨_,rfl,tN ?_⟩⟩));refine EZ (yU ⟨_,rfl,AE (.int i) (k:=false) (by rfl) ⟨_,rfl,?_⟩⟩);exact k
def WT(H:Hp)(p:Addr)(u v w d:Int):Prop:=H p=some (.tup [.int u,.int v,.int w,.int d])
structure WOk(u v w d:Int):Prop where
 bu:Bits 21 u
 bv:Bits 21 v
 w1:0<w
 w12:w<=12
 d2:2<=d
 d13:d<=13
 ns:NSq d
theorem WOk.bw{u v w d:Int}(h:WOk u v w d):Bits 4 w:=by show w.natAbs<2^4;have:=h.w1;have:=h.w12;omega
theorem WOk.bd{u v w d:Int}(h:WOk u v w d):Bits 4 d:=by show d.natAbs<2^4;have:=h.d2;have:=h.d13;omega
inductive qD(vs:List V)(H:Hp)(Q:VK)(E:XK):Prop
 |mk (u v d:Int):vs=[.int u,.int v,.int d]->Bits 100000 u->Bits 100000 v->Bits 10 d->Q (.int (sgq u v d)) H->qD vs H Q E
theorem Ha(F:Fun K "_law_sign" "_law_sign" sO f fd)(T:Txt K mg):FnOk P w K mg base CX0 1 f fd ["_law_u","_law_v","_law_d"] qD:=by
 refine F.ok Et (λvs H Q E h=>?_) (λcdv A outer s H vs Q E hr h=>?_)
 ·obtain⟨u,v,d,rfl,_⟩:=h;rfl
 ·obtain⟨u,v,d,rfl,bu,bv,bd,k⟩:=h
  refine⟨_,(ai (aS (PW.pt (iU (aJ oP (pv 0) af (aI _)) (iT (aJ oP (pv 1) af (aI _)))))
   (ao (aw (i6 pZ (by rfl) T.int_ PyProof.Rows.boot_int (aa (FM (iZ dD (pv 0) af (aI _)) (zl (iZ dD (pv 1) af (aI _)))) ac))))
   aV)
   (ai (aS (PW.pt (iU (aJ oO (pv 0) af (aI _)) (iT (aJ oO (pv 1) af (aI _)))))
     (ao (aw (b7 bV af)))
     aV)
   (ai (aS (aJ dD (pv 0) af (aI _))
     (ao (aw (ak cz af (ak aK af (i6 pZ (by rfl) T.int_ PyProof.Rows.boot_int (aa (iZ dL (ak aK (pv 0) (pv 0)) (ak aK (ak aK (pv 2) (pv 1)) (pv 1)) (aI _)) ac))))))
     aV)
   (ao (aw (ak cz af (ak aK af (i6 pZ (by rfl) T.int_ PyProof.Rows.boot_int (aa (iZ dD (ak aK (pv 0) (pv 0)) (ak aK (ak aK (pv 2) (pv 1)) (pv 1)) (aI _)) ac))))))))),?_⟩
  have bdv:Bits 100010 (d*v):=(bd.mul bv).mono;by_cases h1:0<=u/\0<=v
  ·refine bZ (fi ⟨_,rfl,_,_,rfl,rfl,_,rfl,aM (λ_=>?_) (λz=>absurd (show u≥0 from h1.1) z)⟩);refine⟨_,rfl,_,_,rfl,rfl,_,rfl,aM (λ_=>?_) (λz=>absurd (show v≥0 from h1.2) z)⟩;refine aX (EX ⟨_,rfl,_,_,rfl,rfl,_,rfl,?_⟩);unfold sgq at k
   rw[if_pos h1]at k;by_cases h2:0<u
   ·rw[decide_eq_true (show u>0 from h2)];refine tN (.inr ⟨_,rfl,?_⟩);rw[if_pos (.inl h2)]at k;exact k
   ·rw[decide_eq_false (show ¬u>0 from h2)];refine fN ⟨_,rfl,_,_,rfl,rfl,.inr ⟨_,rfl,?_⟩⟩;by_cases h3:0<v
    ·rw[if_pos (.inr h3)]at k;rw[decide_eq_true (show v>0 from h3)];exact k
    ·rw[if_neg (by omega)]at k;rw[decide_eq_false (show ¬v>0 from h3)];exact k
  unfold sgq at k
  rw[if_neg h1]at k
  have go:∀{A B:Prop},B->(if(decide (u≥0))=true then(if(decide (v≥0))=true then A else B)else B):=λ{A B} b=>by
   by_cases a1:u≥0
   ·rw[if_pos (decide_eq_true a1),if_neg (by rw[decide_eq_false (λz=>h1 ⟨a1,z⟩)];decide)];exact b
   ·rw[if_neg (by rw[decide_eq_false a1];decide)];exact b
  refine bZ (fi ⟨_,rfl,_,_,rfl,rfl,_,rfl,aM (λa1=>?_) (λa1=>?_)⟩)
  ·refine⟨_,rfl,_,_,rfl,rfl,_,rfl,aM (λa2=>absurd ⟨a1,a2⟩ h1) (λ_=>?_)⟩;by_cases h2:u<=0/\v<=0
   ·rw[if_pos h2]at k;refine bZ (fi ⟨_,rfl,_,_,rfl,rfl,_,rfl,aM (λ_=>?_) (λz=>absurd h2.1 z)⟩);refine⟨_,rfl,_,_,rfl,rfl,_,rfl,aM (λ_=>?_) (λz=>absurd h2.2 z)⟩;exact aX ⟨_,rfl,k⟩
   rw[if_neg h2]at k;have a1':0<=u:=a1;have up:0<u:=by omega
   rw[if_pos up]at k;refine bZ (fi ⟨_,rfl,_,_,rfl,rfl,_,rfl,aM (λz=>absurd (show u<=0 from z) (by omega)) (λ_=>fN ?_)⟩);refine bZ ⟨_,rfl,_,_,rfl,rfl,_,rfl,aM (λ_=>?_) (λz=>absurd (show u>0 from up) z)⟩;refine aX ⟨_,rfl,_,rfl,_,_,rfl,rfl,⟨bu.mono,bu.mono⟩,_,rfl,_,rfl,_,_,rfl,rfl,⟨bd.mono,bv.mono⟩,_,rfl,_,_,rfl,rfl,⟨bdv.mono,bv.mono⟩,_,_,rfl,rfl,.inr ⟨_,rfl,?_⟩⟩;by_cases h3:u*u<d*v*v
   ·rw[if_pos h3]at k;rw[decide_eq_true h3];exact⟨_,_,rfl,rfl,⟨gB,uh⟩,_,_,rfl,rfl,k⟩
   ·rw[if_neg h3]at k;rw[decide_eq_false h3];exact⟨_,_,rfl,rfl,⟨gB,Bits.zero⟩,_,_,rfl,rfl,k⟩
  ·have a1':¬0<=u:=a1;refine fN ?_;by_cases h2:u<=0/\v<=0
   ·rw[if_pos h2]at k;refine bZ (fi ⟨_,rfl,_,_,rfl,rfl,_,rfl,aM (λ_=>?_) (λz=>absurd h2.1 z)⟩);refine⟨_,rfl,_,_,rfl,rfl,_,rfl,aM (λ_=>?_) (λz=>absurd h2.2 z)⟩;exact aX ⟨_,rfl,k⟩
   rw[if_neg h2,if_neg (by omega)]at k;refine bZ (fi ⟨_,rfl,_,_,rfl,rfl,_,rfl,aM (λ_=>?_) (λz=>absurd (show u<=0 by omega) z)⟩);refine⟨_,rfl,_,_,rfl,rfl,_,rfl,aM (λz=>absurd (show v<=0 from z) (by omega)) (λ_=>?_)⟩;refine bZ ⟨_,rfl,_,_,rfl,rfl,_,rfl,aM (λz=>absurd (show u>0 from z) (by omega)) (λ_=>?_)⟩;refine aX ⟨_,rfl,_,rfl,_,_,rfl,rfl,⟨bu.mono,bu.mono⟩,_,rfl,_,rfl,_,_,rfl,rfl,⟨bd.mono,bv.mono⟩,_,rfl,_,_,rfl,rfl,⟨bdv.mono,bv.mono⟩,_,_,rfl,rfl,.inr ⟨_,rfl,?_⟩⟩;by_cases h3:u*u>d*v*v
   ·rw[if_pos h3]at k;rw[decide_eq_true h3];exact⟨_,_,rfl,rfl,⟨gB,uh⟩,_,_,rfl,rfl,k⟩
   ·rw[if_neg h3]at k;rw[decide_eq_false h3];exact⟨_,_,rfl,rfl,⟨gB,Bits.zero⟩,_,_,rfl,rfl,k⟩
inductive yo(C:Addr)(vs:List V)(H:Hp)(Q:VK)(E:XK):Prop
 |mk (p r:Addr) (u v w d t b:Int):vs=[.ref p,.ref r]->WT H p u v w d->WOk u v w d->RA C H r t b->Bits 3000 t->Bits 3000 b->Q (.int (sgq (u*b-t*w) (v*b) d)) H->yo C vs H Q E
theorem Hh(F:Fun K "_law_beside" "_law_beside" sV f fd)(T:Txt K mg)(R:RCI K mg C)(wJ:Cal P w K mg base 1 "_law_sign" ["_law_u","_law_v","_law_d"] qD KI Km):FnOk P w K mg base CX0 2 f fd ["_law_worth_here","_law_r"] (yo C):=by
 obtain⟨wm,uE,uT,vV⟩:=wJ;refine F.ok sc__law_beside (λvs H Q E h=>?_) (λcdv A outer s H vs Q E hr h=>?_)
 ·obtain⟨p,r,u,v,w,d,t,b,rfl,_⟩:=h;rfl
 ·obtain⟨p,r,u,v,w,d,t,b,rfl,hp,hW,⟨dr,hR⟩,bt,bb,k⟩:=h
  refine⟨_,(ai (fm (pv 0) (gj rfl (ca (aR (i:=2) sc__law_beside.nd rfl (Or.inl rfl)) (ca (aR (i:=3) sc__law_beside.nd rfl (Or.inl rfl)) (ca (aR (i:=4) sc__law_beside.nd rfl (Or.inl rfl)) (ca (aR (i:=5) sc__law_beside.nd rfl (Or.inl rfl)) gf))))))
   (ao (aw (al wm (hr.mono) rfl uE uT vV .nil ah (aa (ak cz (ak aK (pv 2) (aO (K:=K) rfl (pv 1) rfl)) (ak aK (aO (K:=K) rfl (pv 1) rfl) (pv 4))) (aa (ak aK (pv 3) (aO (K:=K) rfl (pv 1) rfl)) (aa (pv 5) ac))))))),?_⟩
  refine⟨_,rfl,p,_,rfl,SqT.of hp,rfl,_,_,rfl,_,_,rfl,_,_,rfl,_,_,rfl,rfl,?_⟩;refine⟨_,rfl,_,rfl,r,C,dr,_,_,rfl,hR,R.cl,R.nB,cq _ _,_,_,rfl,rfl,⟨hW.bu.mono,bb.mono⟩,_,rfl,r,C,dr,_,_,rfl,hR,R.cl,R.nT,c8 _ _,_,rfl,_,_,rfl,rfl,⟨bt.mono,hW.bw.mono⟩,_,_,rfl,rfl,?_⟩;refine⟨_,rfl,_,rfl,r,C,dr,_,_,rfl,hR,R.cl,R.nB,cq _ _,_,_,rfl,rfl,⟨hW.bv.mono,bb.mono⟩,_,rfl,_,_,_,rfl,?_,?_,hW.bd.mono,k⟩
  ·exact Bits.mono (Bits.sub (k:=3100) ((hW.bu.mul bb).mono) ((bt.mul hW.bw).mono)) (by decide)
  ·exact(hW.bv.mul bb).mono
inductive yj(vs:List V)(H:Hp)(Q:VK)(E:XK):Prop
 |mk (x y:Int):vs=[.int x,.int y]->0<=x->0<=y->Q (.int (Nat.gcd x.natAbs y.natAbs:Nat)) H->yj vs H Q E
theorem He(F:Fun K "_law_divisor" "_law_divisor" sS f fd)(T:Txt K mg):FnOk P w K mg base CX0 1 f fd ["_law_one","_law_other"] yj:=by
 refine F.ok sc__law_divisor (λvs H Q E h=>?_) (λcdv A outer s H vs Q E hr h=>?_)
 ·obtain⟨a,b,rfl,_⟩:=h;rfl
 ·obtain⟨a,b,rfl,ha,h0,k⟩:=h
  refine⟨_,(ai (gF PassesOwn.never (aJ i7 (pv 1) af (aI _))
   (ai (ar (i:=2) sc__law_divisor.nd rfl (Or.inl rfl) (ak cQ (pv 0) (pv 1)))
     (ai (ar (i:=0) sc__law_divisor.nd rfl (Or.inl rfl) (pv 1))
     (ao (ar (i:=1) sc__law_divisor.nd rfl (Or.inl rfl) (pv 2))))))
   (ao (aw (pv 0)))),?_⟩
  refine⟨λm σ' H'=>∃(x y:Int) (z:Option V),σ'=[some (.int x),some (.int y),z]/\H=H'/\0<=x/\0<=y/\y.natAbs=m/\Nat.gcd x.natAbs y.natAbs=Nat.gcd a.natAbs b.natAbs,⟨_,_,_,none,rfl,rfl,ha,h0,rfl,rfl⟩,?_⟩;rintro m σ' H' ⟨x,y,z,rfl,rfl,hx,hy,rfl,hg⟩;refine⟨_,rfl,_,_,rfl,rfl,_,rfl,?_⟩;refine dJ (λhn=>?_) (λh0=>?_)
  ·have hp:0<y:=by have:y≠0:=hn;omega
   refine⟨λσ'' H''=>∃m',m'<y.natAbs/\∃(x' y':Int) (z:Option V),σ''=[some (.int x'),some (.int y'),z]/\H=H''/\0<=x'/\0<=y'/\y'.natAbs=m'/\Nat.gcd x'.natAbs y'.natAbs=Nat.gcd a.natAbs b.natAbs,λ_ _ h=>h,?_⟩;refine⟨_,rfl,_,rfl,_,_,rfl,rfl,hp,?_⟩;refine⟨_,rfl,?_⟩;refine⟨_,rfl,?_⟩;have h1:=Int.emod_nonneg x (Qd hp);have h2:=RW x hp;exact⟨(x%y).natAbs,by omega,y,x%y,_,rfl,rfl,hy,h1,rfl,by rw[AX hx hp];exact hg⟩
  ·have e:(y:Int)=0:=h0;subst e;refine⟨_,rfl,?_⟩
   have e2:(x:Int)=((Nat.gcd a.natAbs b.natAbs:Nat):Int):=by rw[<- hg];show x=((Nat.gcd x.natAbs 0:Nat):Int);rw[Nat.gcd_zero_right];omega
   rw[e2];exact k
inductive xX(vs:List V)(H:Hp)(Q:VK)(E:XK):Prop
 |mk (a:Addr) (ns:List Int):vs=[.ref a]->H a=some (.lst (ns.map V.int))->Tr ns->ns≠[]->0<aq ns->ns.length<=100->AllB 8000 ns->mkL H Q (aB ns)->xX vs H Q E
theorem lZ{ns:List Int}(hT:Tr ns)(hne:ns≠[])(hp:0<aq ns):0<(av ns:Int)/\aB ns=ap ns:=by
 have hs:=shr_scale (l:=ns)
 have hlast:aq ns=(av ns:Int)*aq (ap ns):=by have h5:cf (scL (av ns:Int) (ap ns)) (ns.length-1)=(av ns:Int)*cf (ap ns) (ns.length-1):=bI _ _ _;rw[hs]at h5;have h6:(ap ns).length=ns.length:=Pk _;unfold aq;rw[h6];exact h5
 have g0:(0:Int)<=(av ns:Int):=by omega
 have gp:0<(av ns:Int):=by
  refine Classical.byContradiction λz=>?_
  have:(av ns:Int)=0:=by omega
  rw[this,PX]at hlast;omega
 refine⟨gp,?_⟩;unfold aB cI;rw[if_neg (λz=>?_)];have:=RF gp z;omega
theorem Hb(F:Fun K "_law_plain" "_law_plain" sP f fd)(T:Txt K mg)(NG:Cal P w K mg base 1 "_law_divisor" ["_law_one","_law_other"] yj Pa Ov):FnOk P w K mg base CX0 2 f fd ["_law_row"] xX:=by
 obtain⟨MV,IG,Jy,L9⟩:=NG;refine F.ok sc__law_plain (λvs H Q E h=>?_) (λcdv A outer s H vs Q E hr h=>?_)
 ·obtain⟨a,ns,rfl,_⟩:=h;rfl
 ·obtain⟨a,ns,rfl,hA,hT,hne,hp,hl,hb,k⟩:=h;have big:=sizeLine_eq;have hS:=SqL.of (K:=K) hA
  refine⟨_,(ai (ar (i:=1) sc__law_plain.nd rfl (Or.inr rfl) af)
   (ai (db PassesOwn.never rfl (fS (K:=K) rfl (pv 0)) (aR (i:=2) sc__law_plain.nd rfl (Or.inl rfl))
     (ao (ar (i:=1) sc__law_plain.nd rfl (Or.inr rfl) (al MV (hr.mono) rfl IG Jy L9 .nil ah (aa (pv 1) (aa (ci gU (by rfl) T.abs_ PyProof.Rows.boot_abs (aa (pv 2) ac)) ac))))))
   (ai (aS (aJ dL (aE (ck (K:=K) rfl) (pv 0) (b7 bV af) (λ_ _=>rfl)) af (aI _))
     (ao (ar (i:=1) sc__law_plain.nd rfl (Or.inr rfl) (b7 bV (pv 1))))
     aV)
   (ao (aw (gk (own:=["_law_one"]) (fr:=["_law_by"]) (js:=[1]) (by walk_at "comp_ok") rfl (fS (K:=K) rfl (pv 0)) (λ_ _ _ _=>(aR (i:=0) (show List.Nodup (["_law_one","_law_by"]:List Str)from by decide +kernel) rfl (Or.inl rfl))) (λ_ _ _ _=>(ak de (pv 0) (pv 1))))))))),?_⟩
  refine aC ?_;refine⟨_,rfl,a,rfl,⟨_,hS⟩,pH (K:=K) (a:=a) (xs:=ns.map V.int) (λi σ' H'=>∃z:Option V,σ'=[some (.ref a),some (.int (av (ns.take i):Nat)),z]/\H=H') ⟨none,rfl,rfl⟩ (λi σ' H' _ ⟨z,_,e⟩=>by rw[<- e];exact hS) ?_ ?_⟩
  ·rintro i y σ' H' hi ⟨z,rfl,rfl⟩;obtain⟨n,en,rfl,_,_⟩:=iw hi;refine cZ ⟨_,rfl,_,rfl,_,rfl,_,_,rfl,by omega,by split<;>omega,?_⟩;have e3:ns.take (i+1)=ns.take i++[n]:=by rw[Qy,en];rfl
   refine⟨some (.int n),?_,rfl⟩;have e4:(if n<0 then -n else n).natAbs=n.natAbs:=by split<;>omega
   rw[e3,AY,P9,e4];rfl
  ·rintro σ' H' ⟨z,rfl,rfl⟩;rw[Pk,QD];dsimp only
   obtain⟨gp,ep⟩:=lZ hT hne hp;refine bZ ⟨_,rfl,_,rfl,a,_,_,_,rfl,rfl,hS,mI hne,_,_,rfl,rfl,_,rfl,aM (λz=>absurd (show aq ns<0 from z) (by omega)) (λ_=>?_)⟩
   have bg:Bits 9000 (av ns:Int):=by
    obtain⟨x,hx,hx0⟩:∃x∈ns,x≠0:=by obtain⟨r,x,e⟩:=(cY ns).resolve_left hne;refine⟨x,by rw[e];simp,λz=>?_⟩;rw[e,dM,z]at hp;exact absurd hp (by decide)
    have hd:=jk hx;exact((hb x hx).mono (show 8000<=9000 by decide)).of_le (Nat.le_of_dvd (by omega) (Rz.mpr hd))
   refine aX ⟨_,rfl,a,rfl,⟨_,hS⟩,ju (K:=K) (a:=a) (xs:=ns.map V.int) (λi ys σ' H'=>∃z0:Option V,σ'=[z0,some (.int (av ns:Nat))]/\ys=((ns.take i).map λx=>x/(av ns:Int)).map V.int/\H=H') (by rw[Pk];omega) ⟨none,rfl,rfl,rfl⟩ ?_ ?_ ?_⟩
   ·rintro i ys σ' H' _ ⟨z0,rfl,rfl,rfl⟩;exact⟨hS,by rw[Pk,Pk,Qx];exact Rv _ _⟩
   ·rintro i x ys σ' H' hi ⟨z0,rfl,rfl,rfl⟩;obtain⟨c,ec,rfl,hc,_⟩:=iw hi;refine⟨_,rfl,_,rfl,_,_,rfl,rfl,⟨gp,bg⟩,?_⟩;refine⟨_,rfl,?_,rfl⟩;rw[Qy,ec];simp only[Option.toList_some,Qc,Qp,List.map_nil]
   ·rintro ys σ' H' q ⟨z0,rfl,rfl,rfl⟩ hq;refine k q _ (Same.upd_new hq) hq ?_;rw[au,Pk,QD,ep];rfl
theorem w6{a b c:Int}(h:c≠0):Tr [a,b,c]:=(tr_snoc (r:=[a,b])).mpr h
theorem xf{a b:Int}(h:b≠0):Tr [a,b]:=(tr_snoc (r:=[a])).mpr h
noncomputable def bQ(u v w d:Int):List Int:=if v=0 then aB [-u,w]else aB [u*u-d*v*v,-2*u*w,w*w]
noncomputable def UpW(u v w d:Int):Int->Int->Prop:=λx1 x2=>0<sgq (u*x2-x1*w) (v*x2) d
noncomputable def cG(u v d m:Int):Int:=if 0<v then u else if v<0 then u+v*d-m else u-1-m
noncomputable def cK(u v d m:Int):Int:=if 0<v then u+v*d+m else if v<0 then u else u+m/3
structure SpE(u v w d m l1 l2 h1 h2:Int):Prop where
 l2p:0<l2
 h2p:0<h2
 bl1:Bits 40 l1
 bl2:Bits 40 l2
 bh1:Bits 40 h1
 bh2:Bits 40 h2
 gl:Nat.gcd l1.natAbs l2.natAbs=1
 gh:Nat.gcd h1.natAbs h2.natAbs=1
 el:l1*w=cG u v d m*l2
 eh:h1*w=cK u v d m*h2
theorem xD{v d m:Int}(hv:0<v)(hd:2<=d)(hm:0<=m):d*v*v<(v*d+m)*(v*d+m):=by
 have h1:0<v*v:=Pl hv hv
 have h2:d*(v*v)<d*(d*(v*v)):=by have:1*(d*(v*v))<d*(d*(v*v)):=Ql (by omega) (Pl (by omega) h1);omega
 have h3:0<=v*d:=PY (by omega) (by omega)
 have h4:v*d*(v*d)<=(v*d+m)*(v*d+m):=by
  have:=PY h3 hm;have:=PY hm hm;have e:(v*d+m)*(v*d+m)=v*d*(v*d)+(v*d*m)+(v*d*m)+m*m:=by grind
  omega
 have e1:d*v*v=d*(v*v):=by grind
 have e2:v*d*(v*d)=d*(d*(v*v)):=by grind
 omega
theorem kZ{u v w d m l1 l2 h1 h2:Int}(hW:WOk u v w d)(hm0:0<=m)(hm:m<60)(hE:SpE u v w d m l1 l2 h1 h2):EndsG 40 l1 l2 h1 h2/\(0<v->u*l2<=l1*w)/\(v<0->h1*w<=u*h2)/\UpW u v w d l1 l2/\¬UpW u v w d h1 h2:=by
 have hw:=hW.w1;have hd2:=hW.d2;obtain⟨l2p,h2p,bl1,bl2,bh1,bh2,gl,gh,el,eh⟩:=hE;have Al:u*l2-l1*w=(u-cG u v d m)*l2:=by rw[el];grind
 have Ah:u*h2-h1*w=(u-cK u v d m)*h2:=by rw[eh];grind
 have lo_sg:sgq (u*l2-l1*w) (v*l2) d=sgq (u-cG u v d m) v d:=by rw[Al,PQ _ l2,PQ v l2,c9 l2p]
 have hi_sg:sgq (u*h2-h1*w) (v*h2) d=sgq (u-cK u v d m) v d:=by rw[Ah,PQ _ h2,PQ v h2,c9 h2p]
 have lt_N:cG u v d m<cK u v d m:=by
  unfold cG cK;rcases Rh v 0 with z |z |z
  ·rw[if_neg (show ¬0<v by omega),if_pos z,if_neg (show ¬0<v by omega),if_pos z];have:v*d<0:=Rm z (by omega);omega
  ·subst z;rw[if_neg (by decide),if_neg (by decide),if_neg (by decide),if_neg (by decide)];omega
  ·rw[if_pos z,if_pos z];have:0<v*d:=Pl z (by omega);omega
 have lt:l1*h2<h1*l2:=by
  refine jw hw ?_;have e1:l1*h2*w=cG u v d m*(l2*h2):=by rw[show l1*h2*w=l1*w*h2 by grind,el];grind
  have e2:h1*l2*w=cK u v d m*(l2*h2):=by rw[show h1*l2*w=h1*w*l2 by grind,eh];grind
  rw[e1,e2];exact Ql lt_N (Pl l2p h2p)
 have en:EndsG 40 l1 l2 h1 h2:=⟨l2p,h2p,bl1,bl2,bh1,bh2,lt,gl,gh⟩;refine⟨en,λhv=>?_,λhv=>?_,?_⟩
 ·have:cG u v d m=u:=by unfold cG;rw[if_pos hv]
  rw[el,this];exact PU _
 ·have:cK u v d m=u:=by unfold cK;rw[if_neg (by omega),if_pos hv]
  rw[eh,this];exact PU _
 rcases Rh v 0 with vn |vn |vn
 ·have eL:cG u v d m=u+v*d-m:=by unfold cG;rw[if_neg (by omega),if_pos vn]
  have eH:cK u v d m=u:=by unfold cK;rw[if_neg (by omega),if_pos vn]
  have nv:0 < -v:=by omega
  have vd:v*d<0:=Rm vn (by omega);have sqm:=xD nv hd2 hm0
  have lo1:sgq (u-cG u v d m) v d=1:=by
   rw[eL,lC (by omega) vn];have q1:(u-(u+v*d-m))*(u-(u+v*d-m))=(-v*d+m)*(-v*d+m):=by grind
   have q2:d * -v * -v=d*v*v:=by grind
   rw[q2]at sqm;rw[q1,if_neg (by omega)]
  have hi1:sgq (u-cK u v d m) v d = -1:=by rw[eH,Int.sub_self];exact ga (PU _) (by omega) (.inr vn)
  exact⟨by show 0<sgq _ _ _;rw[lo_sg,lo1];decide,by show ¬0<sgq _ _ _;rw[hi_sg,hi1];decide⟩
 ·subst vn;have eL:cG u 0 d m=u-1-m:=by unfold cG;rw[if_neg (by decide),if_neg (by decide)]
  have eH:cK u 0 d m=u+m/3:=by unfold cK;rw[if_neg (by decide),if_neg (by decide)]
  refine⟨?_,?_⟩
  ·show 0<sgq _ _ _;rw[lo_sg,eL,f9 (by omega) (PU _) (.inl (by omega))];decide
  ·show ¬0<sgq _ _ _;rw[hi_sg,eH];rcases Q7 (show u-(u+m/3)<=0 by omega)with z |z
   ·rw[ga (by omega) (PU _) (.inl z)];decide
   ·rw[z,iO];decide
 ·have eL:cG u v d m=u:=by unfold cG;rw[if_pos vn]
  have eH:cK u v d m=u+v*d+m:=by unfold cK;rw[if_pos vn]
  have vd:0<v*d:=Pl vn (by omega);have sqm:=xD vn hd2 hm0;have lo1:sgq (u-cG u v d m) v d=1:=by rw[eL,Int.sub_self];exact f9 (PU _) (by omega) (.inr vn)
  have hi1:sgq (u-cK u v d m) v d = -1:=by
   rw[eH,lE (by omega) vn];have q1:(u-(u+v*d+m))*(u-(u+v*d+m))=(v*d+m)*(v*d+m):=by grind
   rw[q1,if_pos (by omega)]
  exact⟨by show 0<sgq _ _ _;rw[lo_sg,lo1];decide,by show ¬0<sgq _ _ _;rw[hi_sg,hi1];decide⟩
inductive qN(vs:List V)(H:Hp)(Q:VK)(E:XK):Prop
 |mk (p:Addr) (u v w d:Int):vs=[.ref p]->WT H p u v w d->WOk u v w d->mkL H Q (bQ u v w d)->qN vs H Q E
theorem Hd(F:Fun K "_law_least" "_law_least" sR f fd)(T:Txt K mg)(NE:Cal P w K mg base 2 "_law_plain" ["_law_row"] xX O8 Ot):FnOk P w K mg base CX0 3 f fd ["_law_worth_here"] qN:=by
 obtain⟨Cy,Ak,AA,Ci⟩:=NE;refine F.ok sc__law_least (λvs H Q E h=>?_) (λcdv A outer s H vs Q E hr h=>?_)
 ·obtain⟨p,u,v,w,d,rfl,_⟩:=h;rfl
 ·obtain⟨p,u,v,w,d,rfl,hp,hW,k⟩:=h;have hw:=hW.w1
  refine⟨_,(ai (fm (pv 0) (gj rfl (ca (aR (i:=1) sc__law_least.nd rfl (Or.inl rfl)) (ca (aR (i:=2) sc__law_least.nd rfl (Or.inl rfl)) (ca (aR (i:=3) sc__law_least.nd rfl (Or.inl rfl)) (ca (aR (i:=4) sc__law_least.nd rfl (Or.inl rfl)) gf))))))
   (ai (aS (aJ cV (pv 2) af (aI _))
     (ao (aw (al Cy (hr.mono) rfl Ak AA Ci .nil ah (aa (bj (aa (b7 bV (pv 1)) (aa (pv 3) ac))) ac))))
     aV)
   (ao (aw (al Cy (hr.mono) rfl Ak AA Ci .nil ah (aa (bj (aa (ak cz (ak aK (pv 1) (pv 1)) (ak aK (ak aK (pv 4) (pv 2)) (pv 2))) (aa (ak aK (ak aK (b7 bV af) (pv 1)) (pv 3)) (aa (ak aK (pv 3) (pv 3)) ac)))) ac)))))),?_⟩
  refine⟨_,rfl,p,_,rfl,SqT.of hp,rfl,_,_,rfl,_,_,rfl,_,_,rfl,_,_,rfl,rfl,?_⟩;dsimp only
  refine gb (λσ' H'=>σ'=[some (.ref p),some (.int u),some (.int v),some (.int w),some (.int d)]/\H=H') ⟨rfl,rfl⟩ ?_;rintro σ' H' ⟨rfl,rfl⟩;refine bZ ⟨_,rfl,_,_,rfl,rfl,_,rfl,aM (λh0=>?_) (λh0=>?_)⟩
  ·have h0':v=0:=h0;refine aX ⟨_,rfl,_,rfl,_,rfl,by show 2<=sizeLine;decide,λq hq=>?_⟩;have s1:Same H (upd H q (.lst [V.int (-u),V.int w])):=Same.upd_new hq;refine⟨q,[-u,w],rfl,au,xf (by omega),by simp,hw,by show 2<=100;decide,λx hx=>?_,λy H' s' hy e=>?_⟩
   ·simp only[Pu,RO,or_false]at hx;rcases hx with rfl |rfl
    ·exact hW.bu.neg.mono
    ·exact hW.bw.mono
   ·refine k y H' (s1.trans s') (s1.free hy) ?_;unfold bQ;rw[if_pos h0'];exact e
  ·have h0':¬v=0:=h0;have b2:Bits 1000000 (-2:Int):=Bits.mono (j:=2) (by show(-2:Int).natAbs<2^2;decide) (by decide);have bdv:Bits 30 (d*v):=(hW.bd.mul hW.bv).mono
   have b2u:Bits 30 (-2*u):=by
    have:Bits 2 (-2:Int):=by show(-2:Int).natAbs<2^2;decide
    exact(this.mul hW.bu).mono
   have ww:0<w*w:=Pl hw hw;refine aX ⟨_,rfl,_,rfl,_,_,rfl,rfl,⟨hW.bu.mono,hW.bu.mono⟩,_,rfl,_,rfl,_,_,rfl,rfl,⟨hW.bd.mono,hW.bv.mono⟩,_,rfl,_,_,rfl,rfl,⟨bdv.mono,hW.bv.mono⟩,_,_,rfl,rfl,?_⟩;refine⟨_,rfl,_,rfl,_,_,rfl,rfl,⟨b2,hW.bu.mono⟩,_,rfl,_,_,rfl,rfl,⟨b2u.mono,hW.bw.mono⟩,?_⟩;refine⟨_,rfl,_,rfl,_,_,rfl,rfl,⟨hW.bw.mono,hW.bw.mono⟩,by show 3<=sizeLine;decide,λq hq=>?_⟩;have s1:Same H (upd H q (.lst [V.int (u*u-d*v*v),V.int (-2*u*w),V.int (w*w)])):=Same.upd_new hq;refine⟨q,[u*u-d*v*v,-2*u*w,w*w],rfl,au,w6 (by omega),by simp,ww,by show 3<=100;decide,λx hx=>?_,λy H' s' hy e=>?_⟩
   ·simp only[Pu,RO,or_false]at hx;rcases hx with rfl |rfl |rfl
    ·exact Bits.mono (Bits.sub (k:=60) ((hW.bu.mul hW.bu).mono) ((bdv.mul hW.bv).mono)) (by decide)
    ·exact(b2u.mul hW.bw).mono
    ·exact(hW.bw.mul hW.bw).mono
   ·refine k y H' (s1.trans s') (s1.free hy) ?_;unfold bQ;rw[if_neg h0'];exact e
theorem iu{x m:Int}(h:0<m):0<=x%m/\x%m<m:=⟨Int.emod_nonneg _ (Qd h),RW _ h⟩
theorem eY{k:Int}(h0:0<=k)(h:k<2^12):Bits 9000 k:=Bits.mono (j:=12) (by show k.natAbs<2^12;omega) (by decide)
inductive qS(vs:List V)(H:Hp)(Q:VK)(E:XK):Prop
 |mk (c:Int):vs=[.int c]->(∀z:Int,Bits 21 z->Q (.int z) H)->qS vs H Q E
theorem Hi(F:Fun K "_law_amount" "_law_amount" sW f fd)(T:Txt K mg):FnOk P w K mg base CX0 1 f fd ["_law_cell"] qS:=by
 refine F.ok Ev (λvs H Q E h=>?_) (λcdv A outer s H vs Q E hr h=>?_)
 ·obtain⟨c,rfl,_⟩:=h;rfl
 ·obtain⟨c,rfl,k⟩:=h
  refine⟨_,(ai (aS (aJ cV (ak cQ (pv 0) af) af (aI _))
   (ao (aw (ak cz (ak cQ (ak de (pv 0) af) (ak b9 (ak aK af (ak oN af af)) af)) (ak oN af af))))
   aV)
   (ao (aw (ak cz (ak cQ (ak de (pv 0) af) af) af)))),?_⟩
  refine bZ ⟨_,rfl,_,_,rfl,rfl,(by show(0:Int)<4;decide),_,_,rfl,rfl,_,rfl,aM (λ_=>?_) (λ_=>?_)⟩
  ·have b6:Bits 1000000 ((10:Int)^6):=Bits.mono (j:=21) (by show((10:Int)^6).natAbs<2^21;decide) (by decide);refine aX ⟨_,rfl,_,_,rfl,rfl,⟨by show(0:Int)<4;decide,eY (by decide) (by decide)⟩,_,_,rfl,rfl,⟨by decide,by decide,by decide⟩,_,_,rfl,rfl,⟨gB,b6⟩,_,_,rfl,rfl,_,_,rfl,rfl,(by show(0:Int)<2*10^6+1;decide),_,_,rfl,rfl,⟨by decide,by decide,by decide⟩,_,_,rfl,rfl,k _ ?_⟩;obtain⟨m0,m1⟩:=iu (x:=c/4) (m:=2*10^6+1) (by decide);show(c/4%(2*10^6+1)-10^6).natAbs<2^21;omega
  ·refine aX ⟨_,rfl,_,_,rfl,rfl,⟨by show(0:Int)<4;decide,eY (by decide) (by decide)⟩,_,_,rfl,rfl,(by show(0:Int)<21;decide),_,_,rfl,rfl,k _ ?_⟩;obtain⟨m0,m1⟩:=iu (x:=c/4) (m:=21) (by decide);show(c/4%21-10).natAbs<2^21;omega
inductive xK(K:PySem.W.Frag)(vs:List V)(H:Hp)(Q:VK)(E:XK):Prop
 |mk (a:Addr) (ns:List Int) (j:Nat):vs=[.ref a,.int (j:Int)]->SqL K H a (ns.map V.int)->(∀(p:Addr) (H':Hp) (u v w d:Int),Same H H'->H p=none->WT H' p u v w d->WOk u v w d->Q (.ref p) H')->xK K vs H Q E
theorem ET{v:V}(h:v∈[V.int 2,V.int 3,V.int 5,V.int 6,V.int 7,V.int 10,V.int 11,V.int 13]):∃d:Int,v=.int d/\2<=d/\d<=13/\NSq d:=by
 simp only[Pu,RO,or_false]at h;rcases h with rfl |rfl |rfl |rfl |rfl |rfl |rfl |rfl
 ·exact⟨_,rfl,by decide,by decide,io (n:=1) (d:=2) (by decide) (by decide)⟩
 ·exact⟨_,rfl,by decide,by decide,io (n:=1) (d:=3) (by decide) (by decide)⟩
 ·exact⟨_,rfl,by decide,by decide,io (n:=2) (d:=5) (by decide) (by decide)⟩
 ·exact⟨_,rfl,by decide,by decide,io (n:=2) (d:=6) (by decide) (by decide)⟩
 ·exact⟨_,rfl,by decide,by decide,io (n:=2) (d:=7) (by decide) (by decide)⟩
 ·exact⟨_,rfl,by decide,by decide,io (n:=3) (d:=10) (by decide) (by decide)⟩
 ·exact⟨_,rfl,by decide,by decide,io (n:=3) (d:=11) (by decide) (by decide)⟩
 ·exact⟨_,rfl,by decide,by decide,io (n:=3) (d:=13) (by decide) (by decide)⟩
theorem G5(F:Fun K "_law_worth" "_law_worth" sJ f fd)(T:Txt K mg)(wL:Cal P w K mg base 1 "_law_amount" ["_law_cell"] qS KK Ko)(nQ:Cal P w K mg base 1 "_law_cell_at" ["_law_script","_law_k"] (iL K) Bn Bi):FnOk P w K mg base CX0 2 f fd ["_law_script","_law_k"] (xK K):=by
 obtain⟨qk,o2,o8,qf⟩:=wL;obtain⟨fZ,fU,fV,fX⟩:=nQ;refine F.ok sc__law_worth (λvs H Q E h=>?_) (λcdv A outer s H vs Q E hr h=>?_)
 ·obtain⟨a,ns,j,rfl,_⟩:=h;rfl
 ·obtain⟨a,ns,j,rfl,hS,k⟩:=h
  refine⟨_,(ai (ar (i:=2) sc__law_worth.nd rfl (Or.inl rfl) (ak aK (al qk (hr.mono) rfl o2 o8 qf .nil ah (aa (al fZ (hr.mono) rfl fU fV fX .nil ah (aa (pv 0) (aa (ak b9 (pv 1) af) ac))) ac)) (i6 pZ (by rfl) T.int_ PyProof.Rows.boot_int (aa (iZ dD (ak cQ (al fZ (hr.mono) rfl fU fV fX .nil ah (aa (pv 0) (aa (ak b9 (pv 1) af) ac))) af) af (aI _)) ac))))
   (ai (ar (i:=3) sc__law_worth.nd rfl (Or.inl rfl) (al fZ (hr.mono) rfl fU fV fX .nil ah (aa (pv 0) (aa (ak b9 (pv 1) af) ac))))
   (ao (aw (cU (aa (al qk (hr.mono) rfl o2 o8 qf .nil ah (aa (al fZ (hr.mono) rfl fU fV fX .nil ah (aa (pv 0) (aa (pv 1) ac))) ac)) (aa (pv 2) (aa (ak b9 af (ak cQ (ak de (pv 3) af) af)) (aa (aE (ck (K:=K) rfl) (bj (aa af (aa af (aa af (aa af (aa af (aa af (aa af (aa af ac))))))))) (ak cQ (pv 3) af) (λ_ _=>rfl)) ac))))))))),?_⟩
  refine aC ⟨_,rfl,_,rfl,_,_,rfl,rfl,a,ns,j+1,rfl,hS,_,rfl,λz hz=>?_⟩;have b1:Bits 1000000 (if decide (ns.getD (j+1) 0%5>0)=true then(1:Int)else 0):=by split;exact uh;exact Bits.zero
  refine⟨_,rfl,_,rfl,_,_,rfl,rfl,a,ns,j+1,rfl,hS,_,_,rfl,rfl,(by show(0:Int)<5;decide),_,_,rfl,rfl,.inr ⟨_,rfl,_,_,rfl,rfl,⟨hz.mono,b1⟩,?_⟩⟩
  have bv:Bits 21 (z*(if decide (ns.getD (j+1) 0%5>0)=true then(1:Int)else 0)):=by
   split
   ·rw[Qe];exact hz
   ·rw[PN];exact Bits.zero
  show di _ _ _ _ _;generalize z*(if decide (ns.getD (j+1) 0%5>0)=true then(1:Int)else 0)=v at bv
  refine gb (λσ' H'=>∃v:Int,σ'=[some (.ref a),some (.int (j:Int)),some (.int v),none]/\H=H'/\Bits 21 v) ⟨_,rfl,rfl,?_⟩ ?_
  ·split
   ·rw[Qe];exact hz
   ·rw[PN];exact Bits.zero
  rintro σ' H' ⟨v,rfl,rfl,bv⟩;refine aC ⟨_,rfl,_,rfl,_,_,rfl,rfl,a,ns,j+2,rfl,hS,?_⟩;refine aX ⟨_,rfl,_,rfl,a,ns,j,rfl,hS,_,rfl,λu bu=>?_⟩;refine⟨_,rfl,_,rfl,_,_,rfl,rfl,⟨by show(0:Int)<8;decide,eY (by decide) (by decide)⟩,_,_,rfl,rfl,(by show(0:Int)<12;decide),_,_,rfl,rfl,by show 8<=sizeLine;decide,λp hp=>?_⟩;obtain⟨x,hx,ex⟩:=Cm (xs:=[V.int 2,V.int 3,V.int 5,V.int 6,V.int 7,V.int 10,V.int 11,V.int 13]) (n:=8) rfl (by decide) (ns.getD (j+2) 0);obtain⟨d,rfl,hd2,hd13,hns⟩:=ET hx;have s1:Same H (upd H p (.lst [V.int 2,V.int 3,V.int 5,V.int 6,V.int 7,V.int 10,V.int 11,V.int 13])):=Same.upd_new hp;refine⟨_,rfl,_,_,rfl,rfl,(by show(0:Int)<8;decide),p,_,_,_,rfl,rfl,SqL.of au,ex,by show 4<=sizeLine;decide,λq hq=>?_⟩;obtain⟨m0,m1⟩:=iu (x:=ns.getD (j+2) 0/8) (m:=12) (by decide);exact k q _ u v _ d (s1.then_new hq) (s1.free hq) au ⟨bu,bv,by omega,by omega,hd2,hd13,hns⟩
inductive xT(C:Addr)(vs:List V)(H:Hp)(Q:VK)(E:XK):Prop
 |mk (p:Addr) (u v w d m:Int):vs=[.ref p,.int m]->WT H p u v w d->WOk u v w d->0<=m->m<60->(∀(t l h:Addr) (H':Hp) (l1 l2 h1 h2:Int),Same H H'->H t=none->H' t=some (.tup [.ref l,.ref h])->RA C H' l l1 l2->RA C H' h h1 h2->SpE u v w d m l1 l2 h1 h2->Q (.ref t) H')->xT C vs H Q E
theorem G9(F:Fun K "_law_span" "_law_span" sN f fd)(T:Txt K mg)(R:RCI K mg C)(cC:KCal P w K mg base 2 C "Ratio" ["self","top","bottom"] (dj C) eo ei eG [.int 1]):FnOk P w K mg base CX0 4 f fd ["_law_worth_here","_law_more"] (xT C):=by
 obtain⟨bU,bT,bK,cs,cT,cS⟩:=cC;refine F.ok sc__law_span (λvs H Q E h=>?_) (λcdv A outer s H vs Q E hr h=>?_)
 ·obtain⟨p,u,v,w,d,m,rfl,_⟩:=h;rfl
 ·obtain⟨p,u,v,w,d,m,rfl,hp,hW,hm0,hm,k⟩:=h;have hw:=hW.w1;have w0:w≠0:=by omega
  refine⟨_,(ai (fm (pv 0) (gj rfl (ca (aR (i:=2) sc__law_span.nd rfl (Or.inl rfl)) (ca (aR (i:=3) sc__law_span.nd rfl (Or.inl rfl)) (ca (aR (i:=4) sc__law_span.nd rfl (Or.inl rfl)) (ca (aR (i:=5) sc__law_span.nd rfl (Or.inl rfl)) gf))))))
   (ai (aS (aJ dD (pv 3) af (aI _))
     (ao (aw (cU (aa (cD bT bU (hr.mono) rfl bK cs .nil ah (aa (pv 2) (aa (pv 4) ac))) (aa (cD bT bU (hr.mono) rfl bK cs .nil ah (aa (ak b9 (ak b9 (pv 2) (ak aK (pv 3) (pv 5))) (pv 1)) (aa (pv 4) ac))) ac)))))
     aV)
   (ai (aS (aJ dL (pv 3) af (aI _))
     (ao (aw (cU (aa (cD bT bU (hr.mono) rfl bK cs .nil ah (aa (ak cz (ak b9 (pv 2) (ak aK (pv 3) (pv 5))) (pv 1)) (aa (pv 4) ac))) (aa (cD bT bU (hr.mono) rfl bK cs .nil ah (aa (pv 2) (aa (pv 4) ac))) ac)))))
     aV)
   (ao (aw (cU (aa (cD bT bU (hr.mono) rfl bK cs .nil ah (aa (ak cz (ak cz (pv 2) af) (pv 1)) (aa (pv 4) ac))) (aa (cD bT bU (hr.mono) rfl bK cs .nil ah (aa (ak b9 (pv 2) (ak de (pv 1) af)) (aa (pv 4) ac))) ac)))))))),?_⟩
  refine⟨_,rfl,p,_,rfl,SqT.of hp,rfl,_,_,rfl,_,_,rfl,_,_,rfl,_,_,rfl,rfl,?_⟩;dsimp only
  refine gb (λσ' H'=>σ'=[some (.ref p),some (.int m),some (.int u),some (.int v),some (.int w),some (.int d)]/\H=H') ⟨rfl,rfl⟩ ?_;rintro σ' H' ⟨rfl,rfl⟩;have bw9:Bits 9000 w:=hW.bw.mono;have bvd:Bits 30 (v*d):=(hW.bv.mul hW.bd).mono;have bN:∀x:Int,Bits 35 x->Bits 40 (rt x w)/\Bits 40 (rb x w):=λx hx=>⟨(fg w0 hx).mono,(fj w0 hW.bw).mono⟩
  have fin:∀(x y:Int),x=cG u v d m->y=cK u v d m->Bits 35 x->Bits 35 y->SpE u v w d m (rt x w) (rb x w) (rt y w) (rb y w):=λx y ex ey bx by'=>⟨dA w0,dA w0,(bN x bx).1,(bN x bx).2,(bN y by').1,(bN y by').2,lK w0,lK w0,by rw[<- ex];exact ge w0,by rw[<- ey];exact ge w0⟩
  have b60:Bits 30 m:=by show m.natAbs<2^30;omega
  have bu30:Bits 30 u:=hW.bu.mono;have bs1:Bits 35 (u+v*d+m):=Bits.mono (Bits.add (k:=31) (Bits.add bu30 bvd) (b60.mono)) (by decide);have bs2:Bits 35 (u+v*d-m):=Bits.mono (Bits.sub (k:=31) (Bits.add bu30 bvd) (b60.mono)) (by decide);have bs3:Bits 35 (u-1-m):=Bits.mono (Bits.sub (k:=31) (Bits.sub bu30 (b1k (by decide))) (b60.mono)) (by decide);have b3:Bits 30 (m/3):=by show(m/3).natAbs<2^30;omega
  have bs4:Bits 35 (u+m/3):=Bits.mono (Bits.add bu30 b3) (by decide);have bu35:Bits 35 u:=hW.bu.mono;refine bZ ⟨_,rfl,_,_,rfl,rfl,_,rfl,aM (λh0=>?_) (λh0=>?_)⟩
  ·have h0':0<v:=h0;refine aX ⟨_,rfl,_,rfl,cR (t:=u) w0 bw9 λl H1 s1 hl hRl=>?_⟩;refine⟨_,rfl,_,rfl,_,rfl,_,_,rfl,rfl,⟨hW.bv.mono,hW.bd.mono⟩,_,_,rfl,rfl,_,rfl,_,_,rfl,rfl,_,rfl,cR (t:=u+v*d+m) w0 bw9 λh H2 s2 hh hRh=>?_⟩;refine⟨by show 2<=sizeLine;decide,λq hq=>?_⟩;have sq:=Same.upd_new (o:=.tup [V.ref l,V.ref h]) hq;have t2:=s1.trans s2;exact k q l h _ _ _ _ _ (t2.then_new hq) (t2.free hq) au ((hRl.same s2).same sq) (hRh.same sq) (fin _ _ (by unfold cG;rw[if_pos h0']) (by unfold cK;rw[if_pos h0']) bu35 bs1)
  have h0':¬0<v:=h0;refine bZ ⟨_,rfl,_,_,rfl,rfl,_,rfl,aM (λh1=>?_) (λh1=>?_)⟩
  ·have h1':v<0:=h1;refine aX ⟨_,rfl,_,rfl,_,rfl,_,_,rfl,rfl,⟨hW.bv.mono,hW.bd.mono⟩,_,_,rfl,rfl,_,rfl,_,_,rfl,rfl,_,rfl,cR (t:=u+v*d-m) w0 bw9 λl H1 s1 hl hRl=>?_⟩;refine⟨_,rfl,_,rfl,cR (t:=u) w0 bw9 λh H2 s2 hh hRh=>?_⟩;refine⟨by show 2<=sizeLine;decide,λq hq=>?_⟩;have sq:=Same.upd_new (o:=.tup [V.ref l,V.ref h]) hq;have t2:=s1.trans s2;exact k q l h _ _ _ _ _ (t2.then_new hq) (t2.free hq) au ((hRl.same s2).same sq) (hRh.same sq) (fin _ _ (by unfold cG;rw[if_neg h0',if_pos h1']) (by unfold cK;rw[if_neg h0',if_pos h1']) bs2 bu35)
  have h1':¬v<0:=h1;refine aX ⟨_,rfl,_,_,rfl,rfl,_,rfl,_,_,rfl,rfl,_,rfl,cR (t:=u-1-m) w0 bw9 λl H1 s1 hl hRl=>?_⟩;refine⟨_,rfl,_,rfl,_,_,rfl,rfl,⟨by show(0:Int)<3;decide,eY (by decide) (by decide)⟩,_,_,rfl,rfl,_,rfl,cR (t:=u+m/3) w0 bw9 λh H2 s2 hh hRh=>?_⟩;refine⟨by show 2<=sizeLine;decide,λq hq=>?_⟩;have sq:=Same.upd_new (o:=.tup [V.ref l,V.ref h]) hq;have t2:=s1.trans s2;exact k q l h _ _ _ _ _ (t2.then_new hq) (t2.free hq) au ((hRl.same s2).same sq) (hRh.same sq) (fin _ _ (by unfold cG;rw[if_neg h0',if_neg h1']) (by unfold cK;rw[if_neg h0',if_neg h1']) bs3 bs4)
inductive xO(vs:List V)(H:Hp)(Q:VK)(E:XK):Prop
 |mk (a b:Addr) (xs ys:List Int):vs=[.ref a,.ref b]->H a=some (.lst (xs.map V.int))->H b=some (.lst (ys.map V.int))->xs≠[]->ys≠[]->xs.length<=1000->ys.length<=1000->AllB 1000000 xs->AllB 1000000 ys->mkL H Q (ad xs ys)->xO vs H Q E
theorem G8(F:Fun K "_law_times" "_law_times" sM f fd)(T:Txt K mg):FnOk P w K mg base CX0 1 f fd ["_law_one","_law_other"] xO:=by
 refine F.ok sc__law_times (λvs H Q E h=>?_) (λcdv A outer s H vs Q E hr h=>?_)
 ·obtain⟨a,b,xs,ys,rfl,_⟩:=h;rfl
 ·obtain⟨a,b,xs,ys,rfl,hA,hB,hx0,hy0,hx,hy,bx,by',k⟩:=h;have big:=sizeLine_eq
  refine⟨_,(ai (ar (i:=2) sc__law_times.nd rfl (Or.inl rfl) (ak uf (bj (aa af ac)) (ak cz (ak b9 (ci (dz (K:=K) rfl) (by rfl) T.len_ PySem.boot_len (aa (pv 0) ac)) (ci (dz (K:=K) rfl) (by rfl) T.len_ PySem.boot_len (aa (pv 1) ac))) af)))
   (ai (db PassesOwn.never rfl (iY rfl T.range_ (aa (ci (dz (K:=K) rfl) (by rfl) T.len_ PySem.boot_len (aa (pv 0) ac)) ac)) (aR (i:=3) sc__law_times.nd rfl (Or.inl rfl))
     (ao (db PassesOwn.never rfl (iY rfl T.range_ (aa (ci (dz (K:=K) rfl) (by rfl) T.len_ PySem.boot_len (aa (pv 1) ac)) ac)) (aR (i:=4) sc__law_times.nd rfl (Or.inl rfl))
       (ao (fm (ak b9 (aE (ck (K:=K) rfl) (pv 2) (ak b9 (pv 3) (pv 4)) (λ_ _=>rfl)) (ak aK (aE (ck (K:=K) rfl) (pv 0) (pv 3) (λ_ _=>rfl)) (aE (ck (K:=K) rfl) (pv 1) (pv 4) (λ_ _=>rfl)))) (md (pv 2) (ak b9 (pv 3) (pv 4)) lJ))))))
   (ao (aw (pv 2))))),?_⟩
  have hlx:(xs.map V.int).length=xs.length:=Pk _;have hly:(ys.map V.int).length=ys.length:=Pk _;obtain⟨la,ea⟩:∃la,xs.length=la+1:=⟨xs.length-1,by have:=Pq.mpr hx0;omega⟩;obtain⟨lb,eb⟩:∃lb,ys.length=lb+1:=⟨ys.length-1,by have:=Pq.mpr hy0;omega⟩;have en:((xs.map V.int).length:Int)+((ys.map V.int).length:Int)-1=((la+lb+1:Nat):Int):=by rw[hlx,hly];omega
  refine aC ⟨by show 1<=sizeLine;omega,λp2 hp2=>?_⟩;have s0:=Same.upd_new (o:=.lst [V.int 0]) hp2;refine⟨_,rfl,a,_,rfl,.inl (SqL.of (s0 _ _ hA)),_,rfl,b,_,rfl,.inl (SqL.of (s0 _ _ hB)),_,_,rfl,rfl,_,_,rfl,rfl,?_⟩;dsimp only
  rw[en];refine⟨p2,_,_,rfl,rfl,au,by omega,by omega,by show 1*_<=_;omega,λp hp=>?_⟩;rw[show((la+lb+1:Nat):Int).toNat=la+lb+1 from rfl,tL];have s4:=s0.then_new (o:=.lst ((List.replicate (la+lb+1) (0:Int)).map V.int)) hp;have hp0:=s0.free hp;have npa:a≠p:=bC hA hp0;have npb:b≠p:=bC hB hp0;have hp4:upd (upd H p2 (.lst [V.int 0])) p (.lst ((List.replicate (la+lb+1) (0:Int)).map V.int)) p=some (.lst ((List.replicate (la+lb+1) (0:Int)).map V.int)):=au;generalize upd (upd H p2 (.lst [V.int 0])) p (.lst ((List.replicate (la+lb+1) (0:Int)).map V.int))=H4 at s4 hp4 ⊢
  refine⟨_,rfl,a,_,rfl,.inl (SqL.of (s4 _ _ hA)),_,rfl,by rw[hlx];omega,by rw[hlx];omega,?_⟩;rw[hlx]
  refine mS (lo:=0) (n:=xs.length) (λj σ' H'=>∃(acc:List Int) (z3 z4:Option V),σ'=[some (.ref a),some (.ref b),some (.ref p),z3,z4]/\SameB p H4 H'/\H' p=some (.lst (acc.map V.int))/\acc.length=la+lb+1/\∀n,n<acc.length->cf acc n=sm xs ys n j)
   ⟨List.replicate (la+lb+1) 0,none,none,rfl,SameB.refl _ _,hp4,by simp,λn _=>by rw[mY];rfl⟩ ?_ ?_
  ·rintro j σ' H' hjl ⟨acc,z3,z4,rfl,sb,hpa,hal,hac⟩;have hA':=sb _ _ npa (s4 _ _ hA);have hB':=sb _ _ npb (s4 _ _ hB);refine⟨_,rfl,b,_,rfl,.inl (SqL.of hB'),_,rfl,by rw[hly];omega,by rw[hly];omega,?_⟩;rw[hly]
   refine mS (lo:=0) (n:=ys.length) (λi σ' H'=>∃(acc:List Int) (z4:Option V),σ'=[some (.ref a),some (.ref b),some (.ref p),some (.int (0+(j:Int))),z4]/\SameB p H4 H'/\H' p=some (.lst (acc.map V.int))/\acc.length=la+lb+1/\∀n,n<acc.length->cf acc n=sm xs ys n j+(if j<=n/\n-j<i then tm xs ys n j else 0))
    ⟨acc,z4,rfl,sb,hpa,hal,zT hac⟩ ?_ ?_
   ·rintro i σ' H' hil ⟨acc,z4,rfl,sb,hpa,hal,hac⟩;have hA':=sb _ _ npa (s4 _ _ hA);have hB':=sb _ _ npb (s4 _ _ hB);have hji:j+i<acc.length:=by omega
    have eji:(0+((j:Nat):Int))+(0+((i:Nat):Int))=((j+i:Nat):Int):=by omega
    have e0:∀x:Nat,(0:Int)+((x:Nat):Int)=((x:Nat):Int):=λx=>by omega
    refine⟨_,rfl,_,rfl,_,rfl,_,_,rfl,rfl,p,_,_,_,rfl,rfl,SqL.of hpa,kP eji hji,_,rfl,_,rfl,a,_,_,_,rfl,rfl,SqL.of hA',kP (e0 j) hjl,_,rfl,_,rfl,b,_,_,_,rfl,rfl,SqL.of hB',kP (e0 i) hil,_,_,rfl,rfl,⟨bx.cf j,by'.cf i⟩,_,_,rfl,rfl,_,rfl,_,rfl,_,rfl,_,_,rfl,rfl,p,_,_,j+i,rfl,rfl,hpa,mP eji (by rw[Pk];exact hji),?_⟩;exact⟨acc.set (j+i) (cf acc (j+i)+cf xs j*cf ys i),_,rfl,sb.then_upd,by rw[au,oX],by rw[Rb];exact hal,zS hjl hil hji hac⟩
   ·rintro σ' H' ⟨acc,z4,rfl,sb,hpa,hal,hac⟩;exact⟨acc,_,_,rfl,sb,hpa,hal,zU hac⟩
  ·rintro σ' H' ⟨acc,z3,z4,rfl,sb,hpa,hal,hac⟩;refine⟨_,rfl,k p H' (λb' o e=>sb b' o (bC e hp0) (s4 b' o e)) hp0 ?_⟩;rw[hpa]
   have e:acc=ad xs ys:=by
    apply eu
    ·rw[hal];unfold ad;rw[if_neg (by intro z;exact z.elim hx0 hy0),Pk,QN];omega
    ·intro n _;rw[aN,zV (by omega) hac]
   rw[e]
theorem ky{u v w d:Int}(hd:0<d):bQ u v w d=ag [u,d*v*v,w]:=by
 unfold bQ;show _=aB (aH u (d*v*v) w);unfold aH;by_cases hv:v=0
 ·subst hv;rw[if_pos rfl,if_pos (by omega)]
 ·have he:d*v*v≠0:=PP (PP (by omega) hv) hv;rw[if_neg hv,if_neg he];have : -2*u*w = -2*w*u:=by grind
  rw[this]
theorem lV(a:List (List Int)):∀b:List (List Int),prd (b++a)=ad (prd b) (prd a)
 | []=>by show prd a=ad [1] (prd a);rw[mq]
 |s::b=>by show ad s (prd (b++a))=ad (ad s (prd b)) (prd a);rw[lV a b,ir]
noncomputable def usP(s:List Int)(m:Nat)(rs:List (List Int)):List (List Int×Nat):=(s,m)::rs.map λf=>(ag f,1)
theorem nS(g:Nat->Nat)(hg:g 1=1):∀rs:List (List Int),fP g (rs.map λf=>(ag f,1))=prd (rs.map ag)
 | []=>rfl
 |f::rs=>by show ad (pw (ag f) (g 1)) (fP g (rs.map λf=>(ag f,1)))=ad (ag f) (prd (rs.map ag));rw[nS g hg rs,hg,gE]
theorem wY:∀rs:List (List Int),fP (·-1) (rs.map λf=>(ag f,1))=[1]
 | []=>rfl
 |f::rs=>by show ad (pw (ag f) 0) (fP (·-1) (rs.map λf=>(ag f,1)))=[1];rw[wY rs];show ad [1] [1]=[1];rfl
structure Pad(u v w d l1 l2:Int)(m:Nat)(A B D:List (List Int))(c:Int):Prop where
 m:m=1\/m=2
 a:A=[]\/A=[[l1,0,l2]]
 b:B=[]\/∃far:Int,(u.natAbs:Int)+(v.natAbs:Int)*d+100<=far/\far<=100000000/\(B=[[-far,0,1]]\/B=[[far,0,1]])
 d:D=[]\/∃k:Int,1<=k/\k<=7/\D=[[0,-k,1]]
 c0:c≠0
 bc:Bits 10 c
theorem o3{t b:Int}(hb:0<b)(hg:Nat.gcd t.natAbs b.natAbs=1):ag [t,0,b]=[-t,b]:=by
 have hr:aH t 0 b=[-t,b]:=by unfold aH;rw[if_pos rfl]
 show aB (aH t 0 b)=_;rw[hr];refine Pln.plain ⟨xf (by omega),by simp,?_,hb⟩;show av [-t,b]=1;unfold av;rw[ix,ix,pG,RD,Int.natAbs_neg];exact hg
theorem km(t:Int):ag [t,0,1]=[-t,1]:=o3 (by decide) (RK _)
theorem uk{k:Int}(hk:1<=k):ag [0,-k,1]=[k,0,1]:=by
 have hr:aH 0 (-k) 1=[k,0,1]:=by unfold aH;rw[if_neg (by omega)];simp
 show aB (aH 0 (-k) 1)=_;rw[hr];refine Pln.plain ⟨w6 (by decide),by simp,?_,(by decide:(0:Int)<1)⟩;show av [k,0,1]=1;unfold av;rw[ix,ix,ix,pG];exact RK _
theorem Ao{u b u' b':Int}(hb:1<=b)(hb':1<=b')(h:u*b'≠u'*b):ag [u,0,b]≠ag [u',0,b']:=λz=>by
 obtain⟨g,A0,A1,hg,eS,e0,e1,_,_⟩:=ou (u:=u) hb;obtain⟨g',A0',A1',hg',eS',e0',e1',_,_⟩:=ou (u:=u') hb';rw[eS,eS']at z;simp at z
 obtain⟨rfl,rfl⟩:=z;apply h;have q:u=g * -A0:=by grind
 have q':u'=g' * -A0:=by grind
 rw[q,q',e1,e1'];grind
theorem vm{t b:Int}(h1:t.natAbs<=1000000000)(h2:1<=b)(h3:b<=1000):FacG [t,0,b]:=⟨t,0,b,rfl,by omega,by omega,by decide,by decide,h2,h3,.inl (PU _)⟩
theorem Ku{k:Int}(h1:1<=k)(h2:k<=7):FacG [0,-k,1]:=⟨0,-k,1,rfl,by decide,by decide,by omega,by omega,by decide,by decide,.inl (by omega)⟩
theorem kS{k:Nat}{x:Int}(h:Bits k x):x.natAbs<2^k:=h
theorem kF{u v w d:Int}(hW:WOk u v w d):FacG [u,d*v*v,w]:=by
 have h1:=kS hW.bu;have h2:=kS hW.bv;have e1:(2:Nat)^21=2097152:=rfl;have hvv:(v*v).natAbs<=2097152*2097152:=by rw[PL];exact QF (by omega) (by omega)
 have hd:(d*(v*v)).natAbs<=13*(2097152*2097152):=by rw[PL];exact QF (by have:=hW.d2;have:=hW.d13;omega) hvv
 have e2:d*v*v=d*(v*v):=PR _ _ _;have hn:=mh hW.ns v;rw[e2]at hn ⊢;exact⟨u,d*(v*v),w,rfl,by omega,by omega,by omega,by omega,by have:=hW.w1;omega,by have:=hW.w12;omega,hn⟩
theorem IJ{u v w d m l1 l2 h1 h2:Int}(hW:WOk u v w d)(hm0:0<=m)(hm:m<60)(hE:SpE u v w d m l1 l2 h1 h2):l2<=12/\(l1.natAbs:Int)<=(u.natAbs:Int)+(v.natAbs:Int)*d+61/\(h1.natAbs:Int)<=((u.natAbs:Int)+(v.natAbs:Int)*d+61)/\(u.natAbs:Int)+(v.natAbs:Int)*d<=90000000:=by
 have hw:=hW.w1;have hw12:=hW.w12;have h1':=kS hW.bu;have h2':=kS hW.bv;have e1:(2:Nat)^21=2097152:=rfl;have hvd:(v.natAbs:Int)*d<=2097152*13:=Rr (by omega) hW.d13 (by have:=hW.d2;omega) (by decide);have nvd:0<=(v.natAbs:Int)*d:=PY (by omega) (by have:=hW.d2;omega)
 have red:∀{t b N:Int},0<b->Nat.gcd t.natAbs b.natAbs=1->t*w=N*b->b<=w/\t.natAbs<=N.natAbs:=λ{t b N} hb hg e=>by
  have e':t.natAbs*w.natAbs=N.natAbs*b.natAbs:=by
   have:=congrArg Int.natAbs e
   rwa [PL,PL]at this
  have hd:b.natAbs∣w.natAbs:=Nat.Coprime.dvd_of_dvd_mul_left (k:=b.natAbs) (m:=t.natAbs) (by rw[Nat.Coprime,Ro];exact hg) ⟨N.natAbs,by rw[e',QK]⟩;have hle:=Nat.le_of_dvd (by omega) hd;refine⟨by omega,?_⟩;have:t.natAbs*w.natAbs<=N.natAbs*w.natAbs:=by rw[e'];exact QP _ hle
  exact RZ this (by omega)
 obtain⟨a1,a2⟩:=red hE.l2p hE.gl hE.el;obtain⟨b1,b2⟩:=red hE.h2p hE.gh hE.eh;have vd:(v*d).natAbs=v.natAbs*d.natAbs:=PL _ _;have vd2:((v.natAbs*d.natAbs:Nat):Int)=(v.natAbs:Int)*d:=by rw[Qu];have:=hW.d2;congr 1;omega
 have ab:∀y k:Int,0<=k->k<=61->(y=v*d\/y=0)->((u+y-k).natAbs:Int)<=(u.natAbs:Int)+(v.natAbs:Int)*d+61/\((u+y+k).natAbs:Int)<=(u.natAbs:Int)+(v.natAbs:Int)*d+61:=λy k k0 k1 hy=>by
  have hy':(y.natAbs:Int)<=(v.natAbs:Int)*d:=by
   rcases hy with rfl |rfl
   ·rw[vd,vd2];exact PU _
   ·exact nvd
  have t1:=Rg (u+y) k;have t2:=Ry u y;have t3:=Ry (u+y) k;have t4:k.natAbs<=61:=by clear t1 t2 t3 hy' nvd hvd h1' h2' hW hE vd vd2 red a1 a2 b1 b2;omega
  clear vd vd2 red a1 a2 b1 b2 hvd h1' h2' hW hE hy k0 k1 nvd hw hw12 e1 hm hm0;generalize (v.natAbs:Int)*d=z at *
  generalize (u+y-k).natAbs=p1 at *
  generalize (u+y+k).natAbs=p2 at *
  generalize (u+y).natAbs=p3 at *
  generalize y.natAbs=p4 at *
  generalize u.natAbs=p5 at *
  generalize k.natAbs=p6 at *
  omega
 have c1:((cG u v d m).natAbs:Int)<=(u.natAbs:Int)+(v.natAbs:Int)*d+61:=by
  unfold cG;split
  ·have:=(ab 0 0 (by decide) (by decide) (.inr rfl)).1;rwa [Qj,Int.sub_zero]at this
  ·split
   ·exact(ab _ m hm0 (by omega) (.inl rfl)).1
   ·have:=(ab 0 (1+m) (by omega) (by omega) (.inr rfl)).1;rwa [Qj,show u-(1+m)=u-1-m by omega]at this
 have c2:((cK u v d m).natAbs:Int)<=(u.natAbs:Int)+(v.natAbs:Int)*d+61:=by
  unfold cK;split
  ·exact(ab _ m hm0 (by omega) (.inl rfl)).2
  ·split
   ·have:=(ab 0 0 (by decide) (by decide) (.inr rfl)).1;rwa [Qj,Int.sub_zero]at this
   ·have:=(ab 0 (m/3) (by omega) (by omega) (.inr rfl)).2;rwa [Qj]at this
 exact⟨Int.le_trans a1 hw12,Int.le_trans (Int.ofNat_le.mpr a2) c1,Int.le_trans (Int.ofNat_le.mpr b2) c2,by omega⟩
theorem ue{L:List (List Int)}{k n:Nat}(hk:1<=k)(hn:1<=n)(h:L=[]\/∃f,L=[f]/\AllB k (ag f)/\(ag f).length<=n/\ag f≠[]):AllB k (prd (L.map ag))/\(prd (L.map ag)).length<=n/\prd (L.map ag)≠[]:=by
 rcases h with rfl |⟨f,rfl,b,l,ne⟩
 ·exact⟨λx hx=>by rw[Pw.mp hx];exact b1k hk,hn,by show([1]:List Int)≠[];simp⟩
 ·have:prd ([f].map ag)=ag f:=cW _;rw[this];exact⟨b,l,ne⟩
theorem gW{k n:Nat}{x:Int}(h:x.natAbs<n)(hn:n<=2^k):Bits k x:=Qa h hn
theorem kR{k:Nat}{x y:Int}(h1:Bits k x)(h2:Bits k y):AllB k [x,y]:=λz hz=>by
 rcases Pu.mp hz with rfl |hz
 ·exact h1
 ·rw[Pw.mp hz];exact h2
theorem FU{u v w d m l1 l2 h1 h2 c:Int}{mm:Nat}{A B D:List (List Int)}(hW:WOk u v w d)(hm0:0<=m)(hm:m<60)(hE:SpE u v w d m l1 l2 h1 h2)(hP:Pad u v w d l1 l2 mm A B D c) :
 Made (whl c (usP (ag [u,d*v*v,w]) mm (A++(B++D)))) c (usP (ag [u,d*v*v,w]) mm (A++(B++D)))/\flt (usP (ag [u,d*v*v,w]) mm (A++(B++D)))=prQ ([u,d*v*v,w]::(A++(B++D)))/\OneW ([u,d*v*v,w]::(A++(B++D))) [u,d*v*v,w] [u,d*v*v,w,aG v] l1 l2 h1 h2:=by
 obtain⟨s1,s2,s3,s4⟩:=IJ hW hm0 hm hE;obtain⟨en,ol,oh,lU,hU⟩:=kZ hW hm0 hm hE;have hw:=hW.w1;have hw12:=hW.w12;have l2p:=hE.l2p;have h2p:=hE.h2p;have nvd:0<=(v.natAbs:Int)*d:=PY (by omega) (by have:=hW.d2;omega)
 have fA:∀f∈A,FacG f/\ag f=[-l1,l2]/\f=[l1,0,l2]:=λf hf=>by
  rcases hP.a with rfl |rfl
  ·cases hf
  ·rw[Pw.mp hf];exact⟨vm (by omega) (by omega) (by omega),o3 l2p hE.gl,rfl⟩
 have fB:∀f∈B,FacG f/\∃t:Int,f=[t,0,1]/\ag f=[-t,1]/\(u.natAbs:Int)+(v.natAbs:Int)*d+100<=(t.natAbs:Int)/\(t.natAbs:Int)<=100000000:=λf hf=>by
  rcases hP.b with rfl |⟨far,g1,g2,rfl |rfl⟩
  ·cases hf
  ·rw[Pw.mp hf];exact⟨vm (by omega) (by decide) (by decide),-far,rfl,km _,by omega,by omega⟩
  ·rw[Pw.mp hf];exact⟨vm (by omega) (by decide) (by decide),far,rfl,km _,by omega,by omega⟩
 have fD:∀f∈D,FacG f/\∃k:Int,1<=k/\k<=7/\f=[0,-k,1]/\ag f=[k,0,1]:=λf hf=>by
  rcases hP.d with rfl |⟨k,g1,g2,rfl⟩
  ·cases hf
  ·rw[Pw.mp hf];exact⟨Ku g1 g2,k,g1,g2,rfl,uk g1⟩
 have f0:=kF hW
 have fR:∀f∈A++(B++D),FacG f:=λf hf=>by
  rcases PV.mp hf with z |z
  ·exact(fA f z).1
  rcases PV.mp z with z |z
  ·exact(fB f z).1
  ·exact(fD f z).1
 have nA:(A.map ag).Nodup:=by rcases hP.a with rfl |rfl<;>simp
 have nB:(B.map ag).Nodup:=by rcases hP.b with rfl |⟨far,_,_,rfl |rfl⟩<;>simp
 have nD:(D.map ag).Nodup:=by rcases hP.d with rfl |⟨k,_,_,rfl⟩<;>simp
 have dAB:∀f∈A,∀g∈B,ag f≠ag g:=λf hf g hg z=>by
  obtain⟨t,_,e2,e3,_⟩:=(fB g hg).2;rw[(fA f hf).2.1,e2]at z;simp at z
  omega
 have dAD:∀f∈A,∀g∈D,ag f≠ag g:=λf hf g hg z=>by obtain⟨k,_,_,_,e2⟩:=(fD g hg).2;rw[(fA f hf).2.1,e2]at z;simp at z
 have dBD:∀f∈B,∀g∈D,ag f≠ag g:=λf hf g hg z=>by obtain⟨t,_,e2,_⟩:=(fB f hf).2;obtain⟨k,_,_,_,e3⟩:=(fD g hg).2;rw[e2,e3]at z;simp at z
 have d0:∀f∈A++(B++D),ag [u,d*v*v,w]≠ag f:=λf hf=>by
  by_cases hv:v=0
  ·subst hv;have e0:d*0*0=0:=by omega
   rw[e0];have eL:cG u 0 d m=u-1-m:=by unfold cG;rw[if_neg (by decide),if_neg (by decide)]
   rcases PV.mp hf with z |z
   ·rw[(fA f z).2.2];refine Ao (by omega) (by omega) λy=>?_
    have:=hE.el;rw[eL]at this;have q:(u-1-m)*l2=u*l2-(1+m)*l2:=by grind
    have:=Pl (show 0<1+m by omega) l2p;omega
   rcases PV.mp z with z |z
   ·obtain⟨t,e1,_,e3,_⟩:=(fB f z).2;rw[e1];refine Ao (by omega) (by decide) λy=>?_
    rw[Qe]at y;have y2:u.natAbs=t.natAbs*w.natAbs:=by rw[y,PL]
    have y3:t.natAbs*1<=t.natAbs*w.natAbs:=QP _ (by omega);omega
   ·obtain⟨k,_,_,_,e2⟩:=(fD f z).2;rw[e2];intro y;have:=ou (u:=u) (b:=w) (by omega);obtain⟨_,A0,A1,_,eS,_⟩:=this;rw[eS]at y;simp at y
  ·have he:0<d*v*v:=by
    rw[PR];refine Pl (by have:=hW.d2;omega) ?_;rcases Qh hv with z |z
    ·exact Qq z z
    ·exact Pl z z
   obtain⟨g,A0,A1,A2,hg,eS,e0,e1,e2,hA⟩:=qX (u:=u) (b:=w) (by omega) (show d*v*v≠0 by omega);rw[eS];rcases PV.mp hf with z |z
   ·rw[(fA f z).2.1];intro y;simp at y
   rcases PV.mp z with z |z
   ·obtain⟨t,_,e3,_⟩:=(fB f z).2;rw[e3];intro y;simp at y
   ·obtain⟨k,k1,_,_,e3⟩:=(fD f z).2;rw[e3];intro y;simp at y
    obtain⟨rfl,rfl,rfl⟩:=y
    have u0:u=0:=by
     have:w*u=0:=by have q : -2*w*u = -2*(w*u):=PR _ _ _;omega
     rcases Qk.mp this with y |y
     ·omega
     ·exact y
    subst u0;have:=Pl hg (show 0<A0 by omega);omega
 have nR:((A++(B++D)).map ag).Nodup:=by
  rw[Qc,Qc];refine List.nodup_append.mpr ⟨nA,List.nodup_append.mpr ⟨nB,nD,?_⟩,?_⟩
  ·intro x hx y hy;obtain⟨f,hf,rfl⟩:=PF.mp hx;obtain⟨g,hg,rfl⟩:=PF.mp hy;exact dBD f hf g hg
  ·intro x hx y hy;obtain⟨f,hf,rfl⟩:=PF.mp hx;rcases PV.mp hy with z |z
   ·obtain⟨g,hg,rfl⟩:=PF.mp z;exact dAB f hf g hg
   ·obtain⟨g,hg,rfl⟩:=PF.mp z;exact dAD f hf g hg
 have hF:Fam ([u,d*v*v,w]::(A++(B++D))):=by
  refine⟨λf hf=>?_,?_⟩
  ·rcases Pu.mp hf with z |z
   ·rw[z];exact f0
   ·exact fR f z
  ·rw[Qp];refine QW.mpr ⟨λz=>?_,nR⟩;obtain⟨f,hf,e⟩:=PF.mp z;exact d0 f hf e.symm
 have hno:∀x∈aL (A++(B++D)),¬(0<aj x l1 l2/\aj x h1 h2<=0):=λx hx=>by
  obtain⟨f,hf,hsf⟩:=QQ.mp hx;rcases PV.mp hf with z |z
  ·rw[(fA f z).2.2,iK]at hsf;rw[Pw.mp hsf];rintro⟨y,_⟩;have:=side_line.mp y;have e:l2*l1=l1*l2:=PQ _ _;omega
  rcases PV.mp z with z |z
  ·obtain⟨t,e1,_,e3,_⟩:=(fB f z).2;rw[e1,iK]at hsf;rw[Pw.mp hsf];rintro⟨y1,y2⟩;have z1:=side_line.mp y1;have z2:¬1*h1<t*h2:=λy=>by have:=side_line.mpr y;omega
   rcases QB 0 t with w1 |w1
   ·have:=Q5 (show 1<=h2 by omega) (Pt w1);omega
   ·have:=Q5 (show 1<=l2 by omega) (show 0 <= -t by omega);have e : -t*l2 = -(t*l2):=Int.neg_mul _ _;omega
  ·obtain⟨k,k1,_,e2,_⟩:=(fD f z).2;rw[e2]at hsf
   have:spF [0,-k,1]=[]:=by show(if 0 <= -k then _ else[])++(if 0 < -k then _ else[])=[];rw[if_neg (by omega),if_neg (by omega)];rfl
   rw[this]at hsf;cases hsf
 obtain⟨hO,hcn⟩:=ug hW.ns hF l2p h2p en.lt lU hU ol oh hno;obtain⟨bS,lS⟩:=j2 f0;have pS:=fG f0;have lS2:=pS.two
 obtain⟨bA,lA,neA⟩:=ue (L:=A) (k:=31) (n:=2) (by decide) (by decide) (by
  rcases hP.a with z |z
  ·exact .inl z
  ·refine .inr ⟨_,z,?_⟩;rw[o3 l2p hE.gl]
   exact⟨kR (gW (n:=100000000) (by omega) (by decide)) (gW (n:=13) (by omega) (by decide)),Pn _,by simp⟩)
 obtain⟨bB,lB,neB⟩:=ue (L:=B) (k:=28) (n:=2) (by decide) (by decide) (by
  rcases hP.b with z |⟨far,g1,g2,z |z⟩
  ·exact .inl z
  ·refine .inr ⟨_,z,?_⟩;rw[km];exact⟨kR (gW (n:=100000001) (by omega) (by decide)) (b1k (by decide)),Pn _,by simp⟩
  ·refine .inr ⟨_,z,?_⟩;rw[km]
   exact⟨kR (gW (n:=100000001) (by omega) (by decide)) (b1k (by decide)),Pn _,by simp⟩)
 obtain⟨bD,lD,neD⟩:=ue (L:=D) (k:=4) (n:=3) (by decide) (by decide) (by
  rcases hP.d with z |⟨k,g1,g2,z⟩
  ·exact .inl z
  ·refine .inr ⟨_,z,?_⟩;rw[uk g1];refine⟨λx hx=>?_,Pn _,by simp⟩;rcases Pu.mp hx with rfl |hx
   ·exact gW (n:=8) (by omega) (by decide)
   rcases Pu.mp hx with rfl |hx
   ·exact Bits.zero
   ·rw[Pw.mp hx];exact b1k (by decide))
 have eR:prd ((A++(B++D)).map ag)=ad (prd (A.map ag)) (ad (prd (B.map ag)) (prd (D.map ag))):=by rw[Qc,Qc,lV,lV]
 have bBD:=iq bB bD (Pn _);have lBD:=bM neB neD;have neBD:=kt neB neD;have bR:=iq bA bBD (Pn _);have lR:=bM neA neBD;have neR:=kt neA neBD;rw[<- eR]at bR lR neR;have bR':AllB 67 (prd ((A++(B++D)).map ag)):=bR.mono (by omega);have lR':(prd ((A++(B++D)).map ag)).length<=5:=by omega
 have nR1:=Pq.mpr neR;have eW:prQ ([u,d*v*v,w]::(A++(B++D)))=ad (ag [u,d*v*v,w]) (prd ((A++(B++D)).map ag)):=by rw[hF.prd];rfl
 have eP:fP id (usP (ag [u,d*v*v,w]) mm (A++(B++D)))=ad (pw (ag [u,d*v*v,w]) mm) (prd ((A++(B++D)).map ag)):=by show ad (pw (ag [u,d*v*v,w]) mm) (fP id _)=_;rw[nS id rfl]
 have eM:mor (usP (ag [u,d*v*v,w]) mm (A++(B++D))) 1=pw (ag [u,d*v*v,w]) (mm-1):=by show ad (pw (ag [u,d*v*v,w]) (mm-1)) (fP (·-1) _)=_;rw[wY,cW]
 have eF:flt (usP (ag [u,d*v*v,w]) mm (A++(B++D)))=prQ ([u,d*v*v,w]::(A++(B++D))):=by rw[eW];show ad (pw (ag [u,d*v*v,w]) 1) (fP ui _)=_;rw[nS ui rfl,gE]
 have use:Use (usP (ag [u,d*v*v,w]) mm (A++(B++D))):=by
  refine⟨λp hp=>?_,λp hp=>?_,?_⟩
  ·rcases Pu.mp hp with z |z
   ·rw[z];exact pS
   ·obtain⟨f,hf,rfl⟩:=PF.mp z;exact fG (fR f hf)
  ·rcases Pu.mp hp with z |z
   ·rw[z];show 1<=mm;rcases hP.m with y |y<;>omega
   ·obtain⟨f,hf,rfl⟩:=PF.mp z;exact Pn _
  ·have:=hF.nd
   have e:(usP (ag [u,d*v*v,w]) mm (A++(B++D))).map (·.1)=([u,d*v*v,w]::(A++(B++D))).map ag:=by show ag [u,d*v*v,w]::((A++(B++D)).map λf=>(ag f,1)).map (·.1)=ag [u,d*v*v,w]::(A++(B++D)).map ag;rw[QE];rfl
   rw[e];exact this
 have pwb:∀n,n<=2->AllB 127 (pw (ag [u,d*v*v,w]) n)/\(pw (ag [u,d*v*v,w]) n).length=1+n*((ag [u,d*v*v,w]).length-1)/\pw (ag [u,d*v*v,w]) n≠[]:=λn hn=>by
  refine⟨?_,(oC pS.pln.ne n).1,(oC pS.pln.ne n).2⟩
  match n,hn with
  |0,_=>exactλx hx=>by rw[Pw.mp hx];exact b1k (by decide)
  |1,_=>rw[gE];exact bS.mono
  |2,_ =>show AllB 127 (ad (ag [u,d*v*v,w]) (ad (ag [u,d*v*v,w]) [1]));rw[cW];exact iq bS bS (by omega)
 have hmm:1<=mm/\mm<=2:=by rcases hP.m with y |y<;>omega
 obtain⟨q1,q2,q3⟩:=pwb mm hmm.2;have q4:mm*((ag [u,d*v*v,w]).length-1)<=2*2:=QF hmm.2 (by omega);have q5:1*1<=mm*((ag [u,d*v*v,w]).length-1):=QF hmm.1 (by omega);have lP:=bM q3 neR;rw[<- eP]at lP;have kl:(whl c (usP (ag [u,d*v*v,w]) mm (A++(B++D)))).length=(fP id (usP (ag [u,d*v*v,w]) mm (A++(B++D)))).length:=by rw[f6,cv]
 have dg:=(pK id (usP (ag [u,d*v*v,w]) mm (A++(B++D))) λp hp=>(use.pri p hp).pln.ne).1;have lW:=bM pS.pln.ne neR;rw[<- eW]at lW;refine⟨⟨rfl,hP.c0,hP.bc,use,by omega,by omega,?_,?_⟩,eF,⟨⟨hF,by omega,by omega,?_⟩,hO,hcn,en.mono⟩⟩
 ·rw[eP];exact iq q1 bR' (by omega)
 ·rw[eM];exact(pwb (mm-1) (by omega)).1.mono
 ·rw[eW];exact iq bS bR' (by omega)
inductive xZ(C:Addr)(vs:List V)(H:Hp)(Q:VK)(E:XK):Prop
 |mk (p t l h:Addr) (u v w d l1 l2 cell:Int):vs=[.ref p,.ref t,.int cell]->WT H p u v w d->WOk u v w d->H t=some (.tup [.ref l,.ref h])->RA C H l l1 l2->0<l2->Bits 40 l1->Bits 40 l2->Nat.gcd l1.natAbs l2.natAbs=1->(∀(mm:Nat) (A B D:List (List Int)) (c:Int),Pad u v w d l1 l2 mm A B D c->mkL H Q (whl c (usP (ag [u,d*v*v,w]) mm (A++(B++D)))))->xZ C vs H Q E
theorem DI{k:Int}(h0:0<=k)(h:k<2^20):Bits 9000 k:=Bits.mono (j:=20) (by show k.natAbs<2^20;omega) (by decide)
structure Got(X:List Int):Prop where
 ne:X≠[]
 len:X.length<=20
 bits:AllB 600 X
theorem Got.mul{X Y:List Int}{k n:Nat}(h:Got X)(ne:Y≠[])(l:Y.length<=3)(b:AllB 64 Y)(hk:AllB k X)(hn:X.length<=n)(h1:k+n+64<=600)(h2:n+3<=20):Got (ad X Y)/\AllB (k+n+64) (ad X Y)/\(ad X Y).length<=n+2:=by have hl:=bM h.ne ne;have hb:=iq (k:=k+n+64) hk b (by omega);have:=Pq.mpr ne;exact⟨⟨kt h.ne ne,by omega,hb.mono h1⟩,hb,by omega⟩
theorem Hc(F:Fun K "_law_padded" "_law_padded" sQ f fd)(T:Txt K mg)(R:RCI K mg C)(wK:Cal P w K mg base 3 "_law_least" ["_law_worth_here"] qN KJ Kn)(NC:Cal P w K mg base 1 "_law_times" ["_law_one","_law_other"] xO O6 Oq):FnOk P w K mg base CX0 4 f fd ["_law_worth_here","_law_span_here","_law_cell"] (xZ C):=by
 obtain⟨wn,uF,uU,vW⟩:=wK;obtain⟨nJ,mF,mO,nj⟩:=NC;refine F.ok sc__law_padded (λvs H Q E h=>?_) (λcdv A outer s H vs Q E hr h=>?_)
 ·obtain⟨p,t,l,h,u,v,w,d,l1,l2,cell,rfl,_⟩:=h;rfl
 ·obtain⟨p,t,l,h,u,v,w,d,l1,l2,cell,rfl,hp,hW,ht,hl,l2p,bl1,bl2,gl,k⟩:=h;have big:=sizeLine_eq
  refine⟨_,(ai (fm (pv 0) (gj rfl (ca (aR (i:=3) sc__law_padded.nd rfl (Or.inl rfl)) (ca (aR (i:=4) sc__law_padded.nd rfl (Or.inl rfl)) (ca (aR (i:=5) sc__law_padded.nd rfl (Or.inl rfl)) (ca (aR (i:=6) sc__law_padded.nd rfl (Or.inl rfl)) gf))))))
   (ai (ar (i:=7) sc__law_padded.nd rfl (Or.inl rfl) (al wn (hr.mono) rfl uF uU vW .nil ah (aa (pv 0) ac)))
   (ai (aS (aJ cV (ak cQ (pv 2) af) af (aI _))
     (ao (ar (i:=7) sc__law_padded.nd rfl (Or.inl rfl) (al nJ (hr.mono) rfl mF mO nj .nil ah (aa (pv 7) (aa (pv 7) ac)))))
     aV)
   (ai (aS (aJ cV (ak cQ (ak de (pv 2) af) af) af (aI _))
     (ao (ar (i:=7) sc__law_padded.nd rfl (Or.inl rfl) (al nJ (hr.mono) rfl mF mO nj .nil ah (aa (pv 7) (aa (bj (aa (b7 bV (aO (K:=K) rfl (aE (aP (K:=K) rfl) (pv 1) af (λ_ _=>rfl)) rfl)) (aa (aO (K:=K) rfl (aE (aP (K:=K) rfl) (pv 1) af (λ_ _=>rfl)) rfl) ac))) ac)))))
     aV)
   (ai (ar (i:=8) sc__law_padded.nd rfl (Or.inl rfl) (ak b9 (ak b9 (ak b9 (ci gU (by rfl) T.abs_ PyProof.Rows.boot_abs (aa (pv 3) ac)) (ak aK (ci gU (by rfl) T.abs_ PyProof.Rows.boot_abs (aa (pv 4) ac)) (pv 6))) af) (ak cQ (ak de (pv 2) af) af)))
   (ai (aS (aJ cV (ak cQ (ak de (pv 2) af) af) af (aI _))
     (ao (ar (i:=7) sc__law_padded.nd rfl (Or.inl rfl) (al nJ (hr.mono) rfl mF mO nj .nil ah (aa (pv 7) (aa (bj (aa (pv 8) (aa af ac))) ac)))))
     aV)
   (ai (aS (aJ cV (ak cQ (ak de (pv 2) af) af) af (aI _))
     (ao (ar (i:=7) sc__law_padded.nd rfl (Or.inl rfl) (al nJ (hr.mono) rfl mF mO nj .nil ah (aa (pv 7) (aa (bj (aa (b7 bV (pv 8)) (aa af ac))) ac)))))
     aV)
   (ai (aS (aJ cV (ak cQ (ak de (pv 2) af) af) af (aI _))
     (ao (ar (i:=7) sc__law_padded.nd rfl (Or.inl rfl) (al nJ (hr.mono) rfl mF mO nj .nil ah (aa (pv 7) (aa (bj (aa (ak b9 af (ak cQ (ak de (pv 2) af) af)) (aa af (aa af ac)))) ac)))))
     aV)
   (ao (aw (gk (own:=["_law_one"]) (fr:=["_law_cell"]) (js:=[2]) (by walk_at "comp_ok") rfl (fS (K:=K) rfl (pv 7)) (λ_ _ _ _=>(aR (i:=0) (show List.Nodup (["_law_one","_law_cell"]:List Str)from by decide +kernel) rfl (Or.inl rfl))) (λ_ _ _ _=>(ak aK (pv 0) (aE (ck (K:=K) rfl) (bj (aa af (aa (b7 bV af) (aa af (aa (b7 bV af) ac))))) (ak cQ (ak de (pv 1) af) af) (λ_ _=>rfl))))))))))))))),?_⟩
  refine⟨_,rfl,p,_,rfl,SqT.of hp,rfl,_,_,rfl,_,_,rfl,_,_,rfl,_,_,rfl,rfl,?_⟩;dsimp only
  refine gb (λσ' H'=>σ'=[some (.ref p),some (.ref t),some (.int cell),some (.int u),some (.int v),some (.int w),some (.int d),none,none]/\H=H') ⟨rfl,rfl⟩ ?_;rintro σ' H' ⟨rfl,rfl⟩;refine aC ⟨_,rfl,p,u,v,w,d,rfl,hp,hW,λq0 H1 s1 hq0 e1=>?_⟩;rw[ky (by have:=hW.d2;omega)]at e1;obtain⟨bS,lS⟩:=j2 (kF hW);have pS:=(fG (kF hW)).pln;have g0:Got (ag [u,d*v*v,w]):=⟨pS.ne,by omega,bS.mono⟩;generalize hs:ag [u,d*v*v,w]=S at e1 bS lS g0 pS k
  show di _ _ _ _ _;refine dY (λσ' H'=>∃(q:Addr) (mm:Nat),σ'=[some (.ref p),some (.ref t),some (.int cell),some (.int u),some (.int v),some (.int w),some (.int d),some (.ref q),none]/\Same H H'/\H q=none/\H' q=some (.lst ((pw S mm).map V.int))/\(mm=1\/mm=2)/\Got (pw S mm)/\AllB 130 (pw S mm)/\(pw S mm).length<=5) ?_ ?_
  case refine_2 =>
   intro rest;refine⟨_,rfl,_,_,rfl,rfl,(by show(0:Int)<3;decide),_,_,rfl,rfl,_,rfl,aM (λ_=>?_) (λ_=>?_)⟩
   ·refine cZ ⟨_,rfl,_,rfl,q0,q0,S,S,rfl,e1,e1,pS.ne,pS.ne,by omega,by omega,bS.mono,bS.mono,λq' H2 s2 hq' e2=>?_⟩;have e:ad S S=pw S 2:=by show _=ad S (ad S [1]);rw[cW]
    obtain⟨m1,m2,m3⟩:=g0.mul pS.ne lS (bS.mono) bS lS (by decide) (by decide);rw[e]at e2 m1 m2 m3;exact rest _ _ ⟨q',2,rfl,s1.trans s2,s1.free hq',e2,.inr rfl,m1,m2.mono,by omega⟩
   ·refine rest _ _ ⟨q0,1,rfl,s1,hq0,by rw[gE];exact e1,.inl rfl,by rw[gE];exact g0,by rw[gE];exact bS.mono,by rw[gE];omega⟩
  clear e1 hq0 s1 q0;rintro σ' H2 ⟨q,mm,rfl,s2,hq,e2,hmm,g2,b2,n2⟩;refine dY (λσ' H'=>∃(q:Addr) (A:List (List Int)),σ'=[some (.ref p),some (.ref t),some (.int cell),some (.int u),some (.int v),some (.int w),some (.int d),some (.ref q),none]/\Same H H'/\H q=none/\H' q=some (.lst ((ad (pw S mm) (prd (A.map ag))).map V.int))/\(A=[]\/A=[[l1,0,l2]])/\Got (ad (pw S mm) (prd (A.map ag)))/\AllB 200 (ad (pw S mm) (prd (A.map ag)))/\(ad (pw S mm) (prd (A.map ag))).length<=7) ?_ ?_
  case refine_2 =>
   intro rest;refine⟨_,rfl,_,_,rfl,rfl,⟨by show(0:Int)<3;decide,eY (by decide) (by decide)⟩,_,_,rfl,rfl,(by show(0:Int)<3;decide),_,_,rfl,rfl,_,rfl,aM (λ_=>?_) (λ_=>?_)⟩
   ·have ht2:=s2 _ _ ht;obtain⟨dl,hl2⟩:=hl.same s2;refine cZ ⟨_,rfl,_,rfl,t,_,_,_,rfl,rfl,SqT.of ht2,rfl,l,C,dl,_,_,rfl,hl2,R.cl,R.nT,c8 _ _,_,rfl,_,rfl,t,_,_,_,rfl,rfl,SqT.of ht2,rfl,l,C,dl,_,_,rfl,hl2,R.cl,R.nB,cq _ _,by show 2<=sizeLine;omega,λql hql=>?_⟩;have s3:Same H2 (upd H2 ql (.lst [V.int (-l1),V.int l2])):=Same.upd_new hql;have bY:AllB 64 [-l1,l2]:=kR (bl1.neg.mono) (bl2.mono);refine⟨q,ql,pw S mm,[-l1,l2],rfl,s3 _ _ e2,au,g2.ne,by simp,by omega,by show 2<=1000;decide,g2.bits.mono,bY.mono,λq' H4 s4 hq' e4=>?_⟩
    have e:[-l1,l2]=prd (([[l1,0,l2]]:List (List Int)).map ag):=by show _=ad (ag [l1,0,l2]) [1];rw[cW,o3 l2p gl]
    obtain⟨m1,m2,m3⟩:=g2.mul (Y:=[-l1,l2]) (by simp) (by show 2<=3;decide) bY b2 n2 (by decide) (by decide);rw[e]at e4 m1 m2 m3;exact rest _ _ ⟨q',[[l1,0,l2]],rfl,(s2.trans s3).trans s4,(s2.trans s3).free hq',e4,.inr rfl,m1,m2.mono,m3⟩
   ·have e:ad (pw S mm) (prd (([]:List (List Int)).map ag))=pw S mm:=cW _;exact rest _ _ ⟨q,[],rfl,s2,hq,by rw[e];exact e2,.inl rfl,by rw[e];exact g2,by rw[e];exact b2.mono,by rw[e];omega⟩
  clear e2 hq s2 q g2 b2 n2;rintro σ' H2 ⟨q,A1,rfl,s2,hq,e2,hA1,g2,b2,n2⟩;generalize hX:ad (pw S mm) (prd (A1.map ag))=X at e2 g2 b2 n2
  have h1':=kS hW.bu;have h2':=kS hW.bv;have bau:Bits 1000 ((u.natAbs:Nat):Int):=gW (n:=2^21) (by rw[P9];exact h1') (RQ (by decide) (by decide));have bav:Bits 1000 ((v.natAbs:Nat):Int):=gW (n:=2^21) (by rw[P9];exact h2') (RQ (by decide) (by decide));refine aC ⟨_,rfl,_,rfl,_,rfl,_,rfl,_,rfl,_,_,rfl,rfl,⟨by rw[nk];exact bav.mono,hW.bd.mono⟩,_,_,rfl,rfl,_,_,rfl,rfl,_,rfl,_,_,rfl,rfl,⟨by show(0:Int)<9;decide,eY (by decide) (by decide)⟩,_,_,rfl,rfl,(by show(0:Int)<50;decide),_,_,rfl,rfl,?_⟩;show di _ _ _ _ _;refine gb (λσ' H'=>∃far:Int,σ'=[some (.ref p),some (.ref t),some (.int cell),some (.int u),some (.int v),some (.int w),some (.int d),some (.ref q),some (.int far)]/\H2=H'/\(u.natAbs:Int)+(v.natAbs:Int)*d+100<=far/\far<=100000000) ⟨_,rfl,rfl,?_⟩ ?_
  ·rw[nk,nk];obtain⟨m0,m1⟩:=iu (x:=cell/9) (m:=50) (by decide);have e21:(2:Nat)^21=2097152:=rfl;have hvd:(v.natAbs:Int)*d<=2097152*13:=Rr (by omega) hW.d13 (by have:=hW.d2;omega) (by decide);omega
  rintro σ' H3 ⟨far,rfl,rfl,f1,f2⟩;have nvd:0<=(v.natAbs:Int)*d:=PY (by omega) (by have:=hW.d2;omega);have bfar:Bits 64 far:=gW (n:=100000001) (by omega) (by decide);have b1':Bits 64 (1:Int):=b1k (by decide);refine dY (λσ' H'=>∃(q:Addr) (B:List (List Int)),σ'=[some (.ref p),some (.ref t),some (.int cell),some (.int u),some (.int v),some (.int w),some (.int d),some (.ref q),some (.int far)]/\Same H H'/\H q=none/\H' q=some (.lst ((ad X (prd (B.map ag))).map V.int))/\(B=[]\/(B=[[-far,0,1]]/\cell/450%3=1))/\Got (ad X (prd (B.map ag)))/\AllB 280 (ad X (prd (B.map ag)))/\(ad X (prd (B.map ag))).length<=9) ?_ ?_
  case refine_2 =>
   intro rest;refine⟨_,rfl,_,_,rfl,rfl,⟨by show(0:Int)<450;decide,eY (by decide) (by decide)⟩,_,_,rfl,rfl,(by show(0:Int)<3;decide),_,_,rfl,rfl,_,rfl,aM (λh0=>?_) (λ_=>?_)⟩
   ·refine cZ ⟨_,rfl,_,rfl,by show 2<=sizeLine;omega,λql hql=>?_⟩;have s3:Same H2 (upd H2 ql (.lst [V.int far,V.int 1])):=Same.upd_new hql;have bY:AllB 64 [far,1]:=kR bfar b1';refine⟨q,ql,X,[far,1],rfl,s3 _ _ e2,au,g2.ne,by simp,by omega,by show 2<=1000;decide,g2.bits.mono,bY.mono,λq' H4 s4 hq' e4=>?_⟩
    have e:[far,1]=prd (([[-far,0,1]]:List (List Int)).map ag):=by show _=ad (ag [-far,0,1]) [1];rw[cW,km,Int.neg_neg]
    obtain⟨m1,m2,m3⟩:=g2.mul (Y:=[far,1]) (by simp) (by show 2<=3;decide) bY b2 n2 (by decide) (by decide);rw[e]at e4 m1 m2 m3;exact rest _ _ ⟨q',[[-far,0,1]],rfl,(s2.trans s3).trans s4,(s2.trans s3).free hq',e4,.inr ⟨rfl,h0⟩,m1,m2.mono,m3⟩
   ·have e:ad X (prd (([]:List (List Int)).map ag))=X:=cW _;exact rest _ _ ⟨q,[],rfl,s2,hq,by rw[e];exact e2,.inl rfl,by rw[e];exact g2,by rw[e];exact b2.mono,by rw[e];omega⟩
  clear e2 hq s2 q;rintro σ' H2 ⟨q,B1,rfl,s2,hq,e2,hB1,g3,b3,n3⟩;refine dY (λσ' H'=>∃(q:Addr) (B:List (List Int)),σ'=[some (.ref p),some (.ref t),some (.int cell),some (.int u),some (.int v),some (.int w),some (.int d),some (.ref q),some (.int far)]/\Same H H'/\H q=none/\H' q=some (.lst ((ad X (prd (B.map ag))).map V.int))/\(B=[]\/(B=[[-far,0,1]]\/B=[[far,0,1]]))/\Got (ad X (prd (B.map ag)))/\AllB 280 (ad X (prd (B.map ag)))/\(ad X (prd (B.map ag))).length<=9) ?_ ?_
  case refine_2 =>
   intro rest;refine⟨_,rfl,_,_,rfl,rfl,⟨by show(0:Int)<450;decide,eY (by decide) (by decide)⟩,_,_,rfl,rfl,(by show(0:Int)<3;decide),_,_,rfl,rfl,_,rfl,aM (λh0=>?_) (λ_=>?_)⟩
   ·have h0':cell/450%3=2:=h0
    have eB:B1=[]:=by
     rcases hB1 with z |⟨_,z⟩
     ·exact z
     ·omega
    subst eB;have eX:ad X (prd (([]:List (List Int)).map ag))=X:=cW _;rw[eX]at e2;refine cZ ⟨_,rfl,_,rfl,_,rfl,by show 2<=sizeLine;omega,λql hql=>?_⟩;have s3:Same H2 (upd H2 ql (.lst [V.int (-far),V.int 1])):=Same.upd_new hql;have bY:AllB 64 [-far,1]:=kR bfar.neg b1';refine⟨q,ql,X,[-far,1],rfl,s3 _ _ e2,au,g2.ne,by simp,by omega,by show 2<=1000;decide,g2.bits.mono,bY.mono,λq' H4 s4 hq' e4=>?_⟩
    have e:[-far,1]=prd (([[far,0,1]]:List (List Int)).map ag):=by show _=ad (ag [far,0,1]) [1];rw[cW,km]
    obtain⟨m1,m2,m3⟩:=g2.mul (Y:=[-far,1]) (by simp) (by show 2<=3;decide) bY b2 n2 (by decide) (by decide);rw[e]at e4 m1 m2 m3;exact rest _ _ ⟨q',[[far,0,1]],rfl,(s2.trans s3).trans s4,(s2.trans s3).free hq',e4,.inr (.inr rfl),m1,m2.mono,m3⟩
   ·exact rest _ _ ⟨q,B1,rfl,s2,hq,e2,by rcases hB1 with z |⟨z,_⟩;exact .inl z;exact .inr (.inl z),g3,b3,n3⟩
  clear e2 hq s2 q g3 b3 n3 hB1 g2 b2 n2;rintro σ' H2 ⟨q,B1',rfl,s2,hq,e2,hB,g2,b2,n2⟩;generalize hY:ad X (prd (B1'.map ag))=Y at e2 g2 b2 n2
  refine dY (λσ' H'=>∃(q:Addr) (D:List (List Int)),σ'=[some (.ref p),some (.ref t),some (.int cell),some (.int u),some (.int v),some (.int w),some (.int d),some (.ref q),some (.int far)]/\Same H H'/\H q=none/\H' q=some (.lst ((ad Y (prd (D.map ag))).map V.int))/\(D=[]\/∃k:Int,1<=k/\k<=7/\D=[[0,-k,1]])/\Got (ad Y (prd (D.map ag)))) ?_ ?_
  case refine_2 =>
   intro rest;refine⟨_,rfl,_,_,rfl,rfl,⟨by show(0:Int)<1350;decide,eY (by decide) (by decide)⟩,_,_,rfl,rfl,(by show(0:Int)<2;decide),_,_,rfl,rfl,_,rfl,aM (λh0=>?_) (λ_=>?_)⟩
   ·obtain⟨m0,m1⟩:=iu (x:=cell/2700) (m:=7) (by decide);refine cZ ⟨_,rfl,_,rfl,_,_,rfl,rfl,⟨by show(0:Int)<2700;decide,eY (by decide) (by decide)⟩,_,_,rfl,rfl,(by show(0:Int)<7;decide),_,_,rfl,rfl,by show 3<=sizeLine;omega,λql hql=>?_⟩;have s3:Same H2 (upd H2 ql (.lst [V.int (1+cell/2700%7),V.int 0,V.int 1])):=Same.upd_new hql
    have bY:AllB 64 [1+cell/2700%7,0,1]:=λx hx=>by
     rcases Pu.mp hx with rfl |hx
     ·exact gW (n:=9) (by omega) (by decide)
     rcases Pu.mp hx with rfl |hx
     ·exact Bits.zero
     ·rw[Pw.mp hx];exact b1'
    refine⟨q,ql,Y,[1+cell/2700%7,0,1],rfl,s3 _ _ e2,au,g2.ne,by simp,by omega,by show 3<=1000;decide,g2.bits.mono,bY.mono,λq' H4 s4 hq' e4=>?_⟩
    have e:[1+cell/2700%7,0,1]=prd (([[0,-(1+cell/2700%7),1]]:List (List Int)).map ag):=by show _=ad (ag [0,-(1+cell/2700%7),1]) [1];rw[cW,uk (by omega)]
    obtain⟨m1',_,_⟩:=g2.mul (Y:=[1+cell/2700%7,0,1]) (by simp) (by show 3<=3;decide) bY b2 n2 (by decide) (by decide);rw[e]at e4 m1';exact rest _ _ ⟨q',_,rfl,(s2.trans s3).trans s4,(s2.trans s3).free hq',e4,.inr ⟨_,by omega,by omega,rfl⟩,m1'⟩
   ·have e:ad Y (prd (([]:List (List Int)).map ag))=Y:=cW _;exact rest _ _ ⟨q,[],rfl,s2,hq,by rw[e];exact e2,.inl rfl,by rw[e];exact g2⟩
  clear e2 hq s2 q g2 b2 n2;rintro σ' H2 ⟨q,D1,rfl,s2,hq,e2,hD,g2⟩;generalize hZ:ad Y (prd (D1.map ag))=Z at e2 g2
  have g2l:=g2.len;obtain⟨x,hx,ex⟩:=Cm (xs:=[V.int 1,V.int (-1),V.int 6,V.int (-35)]) (n:=4) rfl (by decide) (cell/18900)
  obtain⟨c,rfl,hc0,hcb⟩:∃c:Int,x=.int c/\c≠0/\Bits 10 c:=by
   simp only[Pu,RO,or_false]at hx;rcases hx with rfl |rfl |rfl |rfl
   ·exact⟨_,rfl,by decide,by show(1:Int).natAbs<2^10;decide⟩
   ·exact⟨_,rfl,by decide,by show(-1:Int).natAbs<2^10;decide⟩
   ·exact⟨_,rfl,by decide,by show(6:Int).natAbs<2^10;decide⟩
   ·exact⟨_,rfl,by decide,by show(-35:Int).natAbs<2^10;decide⟩
  refine aX ⟨_,rfl,q,rfl,⟨_,SqL.of e2⟩,ju (K:=K) (a:=q) (xs:=Z.map V.int) (λi ys σ' H'=>∃(z0:Option V),σ'=[z0,some (.int cell)]/\ys=(scL c (Z.take i)).map V.int/\Same H2 H') (by rw[Pk];omega) ⟨none,rfl,rfl,Same.refl _⟩ ?_ ?_ ?_⟩
  ·rintro i ys σ' H' _ ⟨z0,rfl,rfl,sm⟩;exact⟨SqL.of (sm _ _ e2),by rw[Pk,cv,Qx];exact Rv _ _⟩
  ·rintro i x ys σ' H' hi ⟨z0,rfl,rfl,sm⟩;obtain⟨y,_,rfl,hm,et⟩:=iw hi;refine⟨_,rfl,_,rfl,_,rfl,by show 4<=sizeLine;omega,λql hql=>?_⟩;refine⟨_,rfl,_,_,rfl,rfl,⟨by show(0:Int)<18900;decide,DI (by decide) (by decide)⟩,_,_,rfl,rfl,(by show(0:Int)<4;decide),ql,_,_,_,rfl,rfl,SqL.of au,ex,_,_,rfl,rfl,⟨(g2.bits y hm).mono,hcb.mono⟩,_,rfl,?_,sm.then_new hql⟩;rw[et];simp[scL,PQ]
  ·rintro ys σ' H' pz ⟨z0,rfl,rfl,sm⟩ hpz;refine k mm A1 B1' D1 c ⟨hmm,hA1,?_,hD,hc0,hcb⟩ pz _ (s2.trans (sm.then_new hpz)) ((s2.trans sm).free hpz) ?_
   ·rcases hB with z |z
    ·exact .inl z
    ·exact .inr ⟨far,f1,f2,z⟩
   ·rw[au,Pk,QD]
    have e:whl c (usP S mm (A1++(B1'++D1)))=scL c Z:=by
     rw[f6]
     have:fP id (usP S mm (A1++(B1'++D1)))=Z:=by show ad (pw S mm) (fP id _)=_;rw[nS id rfl,Qc,Qc,lV,lV,<- hZ,<- hY,<- hX,ir,ir]
     rw[this]
    rw[e]
theorem ik{one other:List Int}{x y:Nat}(b1:AllB x one)(b2:AllB y other):Tr (nxt one other)/\(nxt one other).length<=other.length-1/\AllB (x+aT one other*(y+1)) (nxt one other):=by
 by_cases ho:other=[]
 ·subst ho;have e:nxt one []=[]:=by unfold nxt rst;rw[if_pos rfl];rfl
  rw[e];exact⟨λn hn=>by simp at hn,Ps _,AllB.nil⟩
 ·have rb:AllB (x+aT one other*(y+1)) (aQ one other):=((pQ b1 b2 (aT one other)).2).trim;refine⟨fL (fK _),?_,?_⟩
  ·unfold nxt rst;rw[if_neg ho,ib (eI _ _),j1,cv];have:=gv (a:=one) ho;omega
  ·unfold nxt rst;rw[if_neg ho,ib (eI _ _)];refine iN λv hv=>?_
   obtain⟨u,hu,rfl⟩:=PF.mp hv;have:=(rb u hu).neg
   rwa [show -1*u = -u by omega]
theorem ld{n:Nat}{one other:List Int}{x y:Nat}(t1:Tr one)(t2:Tr other)(b1:AllB x one)(b2:AllB y other)(l1:one.length<=9)(l2:other.length<=9)(hx:x<=1000)(hy:y<=1000)(h:Run n other (nxt one other)/\∀xs∈aU n other (nxt one other),xs.length<=20/\AllB 1000 xs):Run (n+1) one other/\∀xs∈aU (n+1) one other,xs.length<=20/\AllB 1000 xs:=by
 by_cases ho:one=[]
 ·subst ho;exact⟨oz _ _,λxs hx=>by rw[gD]at hx;exact nomatch hx⟩
 ·refine⟨.inr ⟨⟨t1,t2,1000,b1.mono hx,b2.mono hy,by omega,by omega⟩,h.1⟩,λxs hm=>?_⟩
  have e:aU (n+1) one other=one::aU n other (nxt one other):=by show(if one=[]then[]else one::aU n other (nxt one other))=_;rw[if_neg ho]
  rw[e]at hm;rcases Pu.mp hm with rfl |hm
  ·exact⟨by omega,b1.mono hx⟩
  ·exact h.2 xs hm
theorem EE{p F:List Int}(hp:Tr p)(p2:2<=p.length)(pl:p.length<=3)(pb:AllB 48 p)(tF:Tr F)(lF:F.length<=9)(bF:AllB 125 F):Run 14 p F/\∀xs∈aU 14 p F,xs.length<=20/\AllB 1000 xs:=by
 obtain⟨t2,l2,b2⟩:=ik pb bF
 obtain⟨B2,hB2,b2',B3,b3',hB3,B4,b4',hB4,l3,l4⟩:∃B2,B2<=1000/\AllB B2 (nxt p F)/\∃B3,AllB B3 (nxt F (nxt p F))/\B3<=1000/\∃B4,AllB B4 (nxt (nxt p F) (nxt F (nxt p F)))/\B4<=1000/\(nxt F (nxt p F)).length<=9/\(nxt (nxt p F) (nxt F (nxt p F))).length<=1:=by
  rcases Nat.lt_or_ge p.length F.length with z |z
  ·have e0:aT p F=0:=by unfold aT;omega
   have nF:F≠[]:=λy=>by subst y;simp at z
   have len2:(nxt p F).length=p.length:=by unfold nxt rst;rw[if_neg nF,ib (eI _ _),j1,cv];unfold aQ;rw[e0];show(trim p).length=_;rw[qr hp]
   rw[e0,Nat.zero_mul]at b2;obtain⟨t3,l3,b3⟩:=ik bF b2;obtain⟨t4,l4,b4⟩:=ik b2 b3;have d3:aT F (nxt p F)<=10-p.length:=by unfold aT;omega
   have m3:=Qg 49 d3;by_cases q:(nxt F (nxt p F)).length=2
   ·have p3:p.length=3:=by omega
    rw[p3]at m3;have d4:aT (nxt p F) (nxt F (nxt p F))=2:=by unfold aT;omega
    rw[d4]at b4;exact⟨48,by omega,b2,_,b3,by omega,_,b4,by omega,by omega,by omega⟩
   ·have e4:nxt (nxt p F) (nxt F (nxt p F))=[]:=Qz.mp (by omega);refine⟨48,by omega,b2,_,b3,?_,0,by rw[e4];exact AllB.nil,by omega,by omega,by rw[e4];exact Ps _⟩;have:(10-p.length)*49<=8*49:=Qg 49 (by omega);omega
  ·by_cases nF:F=[]
   ·subst nF;have e2:nxt p []=[]:=by unfold nxt rst;rw[if_pos rfl];rfl
    have e3:nxt [] ([]:List Int)=[]:=by unfold nxt rst;rw[if_pos rfl];rfl
    rw[e2,e3,e3];exact⟨0,by omega,AllB.nil,0,AllB.nil,by omega,0,AllB.nil,by omega,Ps _,Ps _⟩
   ·have fl:=Pq.mpr nF;have d2:aT p F<=3:=by unfold aT;omega
    have m2:=Qg 126 d2;have b2:=b2.mono (k:=426) (by omega);obtain⟨t3,l3,b3⟩:=ik bF b2;obtain⟨t4,l4,b4⟩:=ik b2 b3;have e4:nxt (nxt p F) (nxt F (nxt p F))=[]:=Qz.mp (by omega);rw[e4];by_cases q:(nxt p F).length=2
    ·have d3:aT F (nxt p F)<=2:=by unfold aT;omega
     have m3:=Qg 427 d3;exact⟨426,by omega,b2,_,b3,by omega,0,AllB.nil,by omega,by omega,Ps _⟩
    ·have e3:nxt F (nxt p F)=[]:=Qz.mp (by omega);rw[e3];exact⟨426,by omega,b2,0,AllB.nil,by omega,0,AllB.nil,by omega,Ps _,Ps _⟩
 obtain⟨t3,l3',_⟩:=ik bF b2';obtain⟨t4,l4',_⟩:=ik b2' b3';obtain⟨t5,l5,_⟩:=ik b3' b4';have e5:nxt (nxt F (nxt p F)) (nxt (nxt p F) (nxt F (nxt p F)))=[]:=Qz.mp (by omega);refine ld hp tF pb bF (by omega) lF (by omega) (by omega) (ld tF t2 bF b2' lF (by omega) (by omega) hB2 (ld t2 t3 b2' b3' (by omega) l3 hB2 hB3 (ld t3 t4 b3' b4' l3 (by omega) hB3 hB4 ?_)));rw[e5];exact ld t4 (λn hn=>by simp at hn) b4' (AllB.nil (k:=0)) (by omega) (Ps _) hB4 (by omega) ⟨oz _ _,λxs hx=>by rw[gD]at hx;exact nomatch hx⟩
theorem jd{u v w d:Int}(hW:WOk u v w d):Pln (bQ u v w d)/\2<=(bQ u v w d).length/\(bQ u v w d).length<=3/\AllB 48 (bQ u v w d):=by
 have hw:=hW.w1;have hP:=fG (kF hW);rw[<- ky (by have:=hW.d2;omega)]at hP;refine⟨hP.pln,hP.two,?_,?_⟩
 ·unfold bQ;split<;>rw[RM.plain_len]<;>simp
 ·have bw:=hW.bw;unfold bQ;split
  ·refine kg ?_;intro x hx;rcases Pu.mp hx with rfl |hx
   ·exact hW.bu.neg.mono
   ·rw[Pw.mp hx];exact bw.mono
  ·refine kg ?_;intro x hx;have b2:Bits 2 (-2:Int):=by show(-2:Int).natAbs<2^2;decide
   rcases Pu.mp hx with rfl |hx
   ·have q1:Bits 47 (u*u):=(hW.bu.mul hW.bu).mono;have q2:Bits 47 (d*v*v):=((hW.bd.mul hW.bv).mul hW.bv).mono;exact q1.sub q2
   ·rcases Pu.mp hx with rfl |hx
    ·exact((b2.mul hW.bu).mul bw).mono
    ·rw[Pw.mp hx];exact(bw.mul bw).mono
theorem wQ{u v w d m l1 l2 h1 h2:Int}(hW:WOk u v w d)(hm0:0<=m)(hm:m<60)(hE:SpE u v w d m l1 l2 h1 h2):OneS [[u,d*v*v,w]] [u,d*v*v,w] [u,d*v*v,w,aG v] l1 l2 h1 h2:=by obtain⟨en,ol,oh,lU,hU⟩:=kZ hW hm0 hm hE;have hF:Fam [[u,d*v*v,w]]:=⟨λf hf=>by rw[Pw.mp hf];exact kF hW,by simp⟩;exact(ug hW.ns hF hE.l2p hE.h2p en.lt lU hU ol oh (λx hx=>nomatch hx)).1
def SdN(C CN:Addr)(H:Hp)(x:Addr)(u v w d l1 l2 h1 h2:Int):Prop:=∃q l h,NA CN H x q l h/\H q=some (.lst ((bQ u v w d).map V.int))/\RA C H l l1 l2/\RA C H h h1 h2/\EndsG 40 l1 l2 h1 h2/\OneS [[u,d*v*v,w]] [u,d*v*v,w] [u,d*v*v,w,aG v] l1 l2 h1 h2
theorem SdN.same{C CN:Addr}{H H':Hp}{x:Addr}{u v w d l1 l2 h1 h2:Int}(n:SdN C CN H x u v w d l1 l2 h1 h2)(s:Same H H'):SdN C CN H' x u v w d l1 l2 h1 h2:=by obtain⟨q,l,h,⟨dx,a⟩,b,c,e,en,o⟩:=n;exact⟨q,l,h,⟨dx,s _ _ a⟩,s _ _ b,c.same s,e.same s,en,o⟩
inductive xU(C CN:Addr)(vs:List V)(H:Hp)(Q:VK)(E:XK):Prop
 |mk (a x:Addr) (q:List Int) (u v w d l1 l2 h1 h2:Int):vs=[.ref a,.ref x]->H a=some (.lst (q.map V.int))->Tr q->q.length<=8->AllB 71 q->WOk u v w d->SdN C CN H x u v w d l1 l2 h1 h2->(∀H',Same H H'->Q (.int (sgq (hpA u v w d q).1 (hpA u v w d q).2.1 d)) H')->xU C CN vs H Q E
theorem Go(F:Fun K "side" "side" rC f fd)(T:Txt K mg)(R:RCI K mg C)(RN:NCI K mg CN)(eO:Cal P w K mg base 2 "sign_at" ["row","ratio"] (ie C) kG kE)(nN:Cal P w K mg base 4 "count" ["row","low","high"] (og C) Bl Bg)(wC:Cal P w K mg base 34 "row_from" ["first","second"] qH KA Kf)(wE:Cal P w K mg base 1 "multiplied" ["first","second"] qL KD Kh)(nK:Cal P w K mg base 1 "slope" ["row"] (sp1 slopeL) Bj Be):FnOk P w K mg base CX0 36 f fd ["row","one"] (xU C CN):=by
 obtain⟨dX,dP,dQ,dW⟩:=eO;obtain⟨nE,mD,mM,nh⟩:=nN;obtain⟨wg,uB,uQ,vR⟩:=wC;obtain⟨wj,uC,uR,vT⟩:=wE;obtain⟨nq,mz,mJ,m9⟩:=nK;refine F.ok Eb (λvs H Q E h=>?_) (λcdv A outer s H vs Q E hr h=>?_)
 ·obtain⟨a,x,q,u,v,w,d,l1,l2,h1,h2,rfl,_⟩:=h;rfl
 ·obtain⟨a,x,q,u,v,w,d,l1,l2,h1,h2,rfl,hA,tq,lq,bq,hW,hN,k⟩:=h;obtain⟨po,l,h,⟨dx,hx⟩,hpo,hl,hh,en,hO⟩:=hN;obtain⟨pP,p2,p3,pb⟩:=jd hW;have eL:bQ u v w d=ag [u,d*v*v,w]:=ky (by have:=hW.d2;omega)
  refine⟨_,(ai (aS (aJ cV (al dX (hr.mono) rfl dP dQ dW .nil ah (aa (aO (K:=K) rfl (pv 1) rfl) (aa (aO (K:=K) rfl (pv 1) rfl) ac))) af (aI _))
   (ao (aw (al dX (hr.mono) rfl dP dQ dW .nil ah (aa (pv 0) (aa (aO (K:=K) rfl (pv 1) rfl) ac)))))
   aV)
   (ao (aw (al nE (hr.mono) rfl mD mM nh .nil ah (aa (al wg (hr.mono) rfl uB uQ vR .nil ah (aa (aO (K:=K) rfl (pv 1) rfl) (aa (al wj (hr.mono) rfl uC uR vT .nil ah (aa (al nq (hr.mono) rfl mz mJ m9 .nil ah (aa (aO (K:=K) rfl (pv 1) rfl) ac)) (aa (pv 0) ac))) ac))) (aa (aO (K:=K) rfl (pv 1) rfl) (aa (aO (K:=K) rfl (pv 1) rfl) ac))))))),?_⟩
  refine bZ ⟨_,rfl,x,CN,dx,_,_,rfl,hx,RN.cl,RN.nP,kC _ _ _,_,rfl,x,CN,dx,_,_,rfl,hx,RN.cl,RN.nH,kD _ _ _,po,h,bQ u v w d,h1,h2,⟨rfl,hpo,hh,by omega,pb.mono,en.bh1.mono,en.bh2.mono⟩,λH1 s1=>⟨_,_,rfl,rfl,_,rfl,aM (λh0=>?_) (λh0=>?_)⟩⟩
  ·have h0':sg (hv h1 h2 (bQ u v w d))=0:=h0;rw[eL]at h0';refine aX ⟨_,rfl,_,rfl,x,CN,dx,_,_,rfl,s1 _ _ hx,RN.cl,RN.nH,kD _ _ _,a,h,q,h1,h2,⟨rfl,s1 _ _ hA,hh.same s1,by omega,bq.mono,en.bh1.mono,en.bh2.mono⟩,λH2 s2=>?_⟩;rw[Di hW.ns hW.w1 hO q h0'];exact k H2 (s1.trans s2)
  ·have h0':¬sg (hv h1 h2 (bQ u v w d))=0:=h0;have hx1:=s1 _ _ hx;have hpo1:=s1 _ _ hpo;have bs:AllB 52 (slopeL (bQ u v w d)):=qU pb (by omega);have lS:=yE (bQ u v w d);have bF:AllB 125 (ad (slopeL (bQ u v w d)) q):=iq bs bq (by omega);have tF:Tr (ad (slopeL (bQ u v w d)) q):=jS (f7 pP.tr) tq
   have lF:(ad (slopeL (bQ u v w d)) q).length<=9:=by
    by_cases hq:q=[]
    ·subst hq;have e:ad (slopeL (bQ u v w d)) []=[]:=by unfold ad;rw[if_pos (.inr rfl)]
     rw[e];exact Ps _
    ·rw[bM (λz=>by have:=congrArg List.length z;rw[lS]at this;simp at this;omega) hq,lS];omega
   obtain⟨hrun,hrows⟩:=EE (F:=ap (ad (slopeL (bQ u v w d)) q)) pP.tr p2 p3 pb (fL tF) (by rw[j1];exact lF) (iN bF);have eP:ap (bQ u v w d)=bQ u v w d:=ot (.inr pP.prim);have tar:=Dj hW.ns hW.w1 hO tq (N:=14) (by omega) (by rw[<- eL];exact h0');rw[<- eL]at tar;refine aX ⟨_,rfl,x,CN,dx,_,_,rfl,hx1,RN.cl,RN.nP,kC _ _ _,_,rfl,x,CN,dx,_,_,rfl,hx1,RN.cl,RN.nP,kC _ _ _,po,_,rfl,hpo1,by omega,pb.mono,λp1 H2 s2 hp1 e1=>?_⟩;refine⟨_,rfl,p1,a,_,q,rfl,e1,s2 _ _ (s1 _ _ hA),by omega,by omega,bs.mono,bq.mono,λp4 H3 s3 hp4 e4=>?_⟩;have t3:=s2.trans s3;refine⟨po,p4,_,_,14,rfl,t3 _ _ hpo1,e4,pP.tr,tF,by omega,by omega,by decide,by rw[eP];exact hrun,λl0 ps H4 s4 hl0 hps e5 hR=>?_⟩;have t4:=t3.trans s4;rw[eP]at hR;have hx4:=t4 _ _ hx1;refine⟨_,rfl,x,CN,dx,_,_,rfl,hx4,RN.cl,RN.nL,va _ _ _,_,rfl,x,CN,dx,_,_,rfl,hx4,RN.cl,RN.nH,kD _ _ _,l0,l,h,ps,_,l1,l2,h1,h2,rfl,e5,hR,(hl.same s1).same t4,(hh.same s1).same t4,en.bl1.mono,en.bl2.mono,en.bh1.mono,en.bh2.mono,λxs hx=>⟨(hrows xs hx).1,(hrows xs hx).2.mono⟩,?_,λH5 s5=>?_⟩
   ·have:=tK 14 (bQ u v w d) (ap (ad (slopeL (bQ u v w d)) q));omega
   ·rw[pU,pU];rw[show vr 0 (sgs l1 l2 (aU 14 (bQ u v w d) (ap (ad (slopeL (bQ u v w d)) q))))-vr 0 (sgs h1 h2 (aU 14 (bQ u v w d) (ap (ad (slopeL (bQ u v w d)) q))))=_ from tar];exact k H5 (s1.trans (t4.trans s5))
theorem wP{u v w d m l1 l2 h1 h2:Int}(hW:WOk u v w d)(hm0:0<=m)(hm:m<60)(hE:SpE u v w d m l1 l2 h1 h2):∃ε:Int,Spt [u,d*v*v,w,aG v]/\RootU (bQ u v w d) l1 l2 h1 h2 ε (λt n=>0<aj [u,d*v*v,w,aG v] t n)/\∀x1 x2,0<x2->l1*x2<x1*l2->x1*h2<=h1*x2->sg (hv x1 x2 (bQ u v w d)) = -ε*aj [u,d*v*v,w,aG v] x1 x2:=by
 obtain⟨en,ol,oh,lU,hU⟩:=kZ hW hm0 hm hE;have hF:Fam [[u,d*v*v,w]]:=⟨λf hf=>by rw[Pw.mp hf];exact kF hW,by simp⟩;obtain⟨hO,hc⟩:=ug hW.ns hF hE.l2p hE.h2p en.lt lU hU ol oh (λx hx=>nomatch hx);obtain⟨pre,s,post,e,hin,hno⟩:=mV hc;have es:=hO.only s (by rw[e];simp) hin.1 hin.2;have hsp:Spt s:=cX hF.q (by rw[e];simp);obtain⟨ε,e1,hs⟩:=EQ (c:=1) hF.q (by decide) e hE.l2p hE.h2p en.lt hno;rw[show ad [1] (aW [1] ([[u,d*v*v,w]].map ag))=bQ u v w d from hF.one.trans ((ke hF).trans (ky (by have:=hW.d2;omega)).symm)]at hs;rw[<- es];refine⟨ε,hsp,⟨e1,λx1 x2 p a b up=>?_,λx1 x2 p a b up=>?_,λx1 x2 y1 y2 p q a b up lt=>?_,λx1 x2 y1 y2 p q eq up=>?_,hin.1,λz=>?_⟩,hs⟩
 ·have up':0<aj s x1 x2:=up;have:aj s x1 x2=1:=by rcases cO s x1 x2 with z |z |z<;>omega
  rw[hs x1 x2 p a b,this];omega
 ·have up':¬0<aj s x1 x2:=up;rw[hs x1 x2 p a b];rcases cO s x1 x2 with z |z |z
  ·omega
  ·right;rw[z];omega
  ·left;rw[z];omega
 ·have up':¬0<aj s x1 x2:=up
  have ha:l1*y2<y1*l2:=by
   refine jw p ?_;have q1:=Ql a q;have q2:=Ql lt hE.l2p;have e1:l1*y2*x2=l1*x2*y2:=by grind
   have e2:x1*l2*y2=x1*y2*l2:=by grind
   have e3:y1*l2*x2=y1*x2*l2:=by grind
   omega
  rw[hs y1 y2 q ha b,fM hsp p q lt (Qn.mp up')];omega
 ·show 0<aj s y1 y2;rw[<- jY s p q eq];exact up
 ·have z':0<aj s h1 h2:=z;have:=hin.2;omega
theorem NU.mono{j k:Nat}{C CN:Addr}{H:Hp}{x:Addr}{ns:List Int}{l1 l2 h1 h2 ε:Int}{Up:Int->Int->Prop}(n:NU j C CN H x ns l1 l2 h1 h2 ε Up)(h:j<=k:=by decide):NU k C CN H x ns l1 l2 h1 h2 ε Up:=let⟨q,l,hh,a,e,c,d,en,ru⟩:=n;⟨q,l,hh,a,e,c,d,en.mono h,ru⟩
theorem NSg.mono{j k:Nat}{C CN:Addr}{H:Hp}{x:Addr}{ns:List Int}{l1 l2 h1 h2 ε:Int}{s:List Int}(n:NSg j C CN H x ns l1 l2 h1 h2 ε s)(h:j<=k:=by decide):NSg k C CN H x ns l1 l2 h1 h2 ε s:=⟨n.nu.mono h,n.spt,n.sgn⟩
structure CmN(C CN:Addr)(H:Hp)(x:Addr)(u v w d l1 l2 h1 h2 ε:Int):Prop where
 ns:NSg 40 C CN H x (bQ u v w d) l1 l2 h1 h2 ε [u,d*v*v,w,aG v]
 one:OneS [[u,d*v*v,w]] [u,d*v*v,w] [u,d*v*v,w,aG v] l1 l2 h1 h2
 ok:WOk u v w d
theorem CmN.same{C CN:Addr}{H H':Hp}{x:Addr}{u v w d l1 l2 h1 h2 ε:Int}(n:CmN C CN H x u v w d l1 l2 h1 h2 ε)(s:Same H H'):CmN C CN H' x u v w d l1 l2 h1 h2 ε:=⟨n.ns.same s,n.one,n.ok⟩
theorem CmN.sd{C CN:Addr}{H:Hp}{x:Addr}{u v w d l1 l2 h1 h2 ε:Int}(n:CmN C CN H x u v w d l1 l2 h1 h2 ε):SdN C CN H x u v w d l1 l2 h1 h2:=by obtain⟨q,l,h,a,e,c,d,en,ru⟩:=n.ns.nu;exact⟨q,l,h,a,e,c,d,en,n.one⟩
inductive qG(C CN:Addr)(vs:List V)(H:Hp)(Q:VK)(E:XK):Prop
 |mk (x:Addr) (u v w d l1 l2 h1 h2 ε:Int):vs=[.ref x]->CmN C CN H x u v w d l1 l2 h1 h2 ε->(∀H',Same H H'->Q (.int (sgq (u*1-0*w) (v*1) d)) H')->qG C CN vs H Q E
theorem Gm(F:Fun K "sign_of" "sign_of" rA f fd)(T:Txt K mg)(R:RCI K mg C)(RN:NCI K mg CN)(jL:Cal P w K mg base 4 "against" ["one","ratio"] (lu C CN) vw vh)(cC:KCal P w K mg base 2 C "Ratio" ["self","top","bottom"] (dj C) eo ei eG [.int 1]):FnOk P w K mg base CX0 5 f fd ["one"] (qG C CN):=by
 obtain⟨g7,gL,gR,gY⟩:=jL;obtain⟨bU,bT,bK,cs,cT,cS⟩:=cC;refine F.ok D9 (λvs H Q E h=>?_) (λcdv A outer s H vs Q E hr h=>?_)
 ·obtain⟨x,u,v,w,d,l1,l2,h1,h2,ε,rfl,_⟩:=h;rfl
 ·obtain⟨x,u,v,w,d,l1,l2,h1,h2,ε,rfl,hN,k⟩:=h;obtain⟨pP,p2,p3,pb⟩:=jd hN.ok;refine⟨_,(ao (aw (al g7 (hr.mono) rfl gL gR gY .nil ah (aa (pv 0) (aa (cD bT bU (hr.mono) rfl bK cT cS ah (aa af ac)) ac))))),?_⟩;refine aX ⟨_,rfl,cR (t:=0) (b:=1) (by decide) (b1k (by decide)) λr H1 s1 hr1 hR1=>?_⟩;rw[j5,ka]at hR1;refine⟨x,r,_,l1,l2,h1,h2,ε,0,1,_,rfl,(hN.ns.same s1).mono,by omega,pb.mono,hR1,by decide,Bits.zero,b1k (by decide),λH2 s2=>?_⟩;rw[f8 hN.ok.ns (by decide)];exact k H2 (s1.trans s2)
inductive qO(C CN:Addr)(vs:List V)(H:Hp)(Q:VK)(E:XK):Prop
 |mk (x y:Addr) (u v w a b c d l1 l2 h1 h2 ε m1 m2 n1 n2 ε':Int):vs=[.ref x,.ref y]->CmN C CN H x u v w d l1 l2 h1 h2 ε->CmN C CN H y a b c d m1 m2 n1 n2 ε'->(∀H',Same H H'->Q (.int (sgq (u*c-a*w) (v*c-b*w) d)) H')->qO C CN vs H Q E
theorem GU(F:Fun K "compare" "compare" sr f fd)(T:Txt K mg)(R:RCI K mg C)(RN:NCI K mg CN)(jL:Cal P w K mg base 4 "against" ["one","ratio"] (lu C CN) vw vh)(wI:Cal P w K mg base 3 "beside" ["one","sign"] (qR C CN) KH Kl)(Nb:Cal P w K mg base 36 "side" ["row","one"] (xU C CN) OI N0):FnOk P w K mg base CX0 37 f fd ["first","second"] (qO C CN):=by
 obtain⟨g7,gL,gR,gY⟩:=jL;obtain⟨wk,uD,uS,vU⟩:=wI;obtain⟨Mz,Ig,Jc,LL⟩:=Nb;refine F.ok El (λvs H Q E h=>?_) (λcdv A outer s H vs Q E hr h=>?_)
 ·obtain⟨x,y,u,v,w,a,b,c,d,l1,l2,h1,h2,ε,m1,m2,n1,n2,ε',rfl,_⟩:=h;rfl
 ·obtain⟨x,y,u,v,w,a,b,c,d,l1,l2,h1,h2,ε,m1,m2,n1,n2,ε',rfl,hX,hY,k⟩:=h;obtain⟨pP,p2,p3,pb⟩:=jd hX.ok;obtain⟨qP,q2,q3,qb⟩:=jd hY.ok;obtain⟨po,l,h,⟨dy,hy⟩,hpo,hl,hh,en,ru⟩:=id hY.ns.nu;have hd:=hX.ok.ns;have hw:=hX.ok.w1;have hc:=hY.ok.w1;have eL:bQ a b c d=ag [a,d*b*b,c]:=ky (by have:=hX.ok.d2;omega)
  refine⟨_,(ai (aS (aJ oO (al g7 (hr.mono) rfl gL gR gY .nil ah (aa (pv 0) (aa (aO (K:=K) rfl (pv 1) rfl) ac))) af (aI _))
   (ao (aw (b7 bV af)))
   aV)
   (ai (aS (aJ dD (al g7 (hr.mono) rfl gL gR gY .nil ah (aa (pv 0) (aa (aO (K:=K) rfl (pv 1) rfl) ac))) af (aI _))
     (ao (aw af))
     aV)
   (ao (aw (b7 bV (al wk (hr.mono) rfl uD uS vU .nil ah (aa (pv 1) (aa (al Mz (hr.mono) rfl Ig Jc LL .nil ah (aa (aO (K:=K) rfl (pv 1) rfl) (aa (pv 0) ac))) ac)))))))),?_⟩
  refine bZ ⟨_,rfl,_,rfl,y,CN,dy,_,_,rfl,hy,RN.cl,RN.nL,va _ _ _,x,l,_,l1,l2,h1,h2,ε,m1,m2,_,rfl,hX.ns.mono,by omega,pb.mono,hl,en.l2p,en.bl1.mono,en.bl2.mono,λH1 s1=>⟨_,_,rfl,rfl,_,rfl,aM (λh0=>?_) (λh0=>?_)⟩⟩
  ·have e:=Lq hd hw hc en.l2p hY.one.inn.1 h0;rw[e]at k;exact aX ⟨_,rfl,k H1 s1⟩
  have lo:0<aj [u,d*v*v,w,aG v] m1 m2:=QG.mp h0;have hy1:=s1 _ _ hy;refine bZ ⟨_,rfl,_,rfl,y,CN,dy,_,_,rfl,hy1,RN.cl,RN.nH,kD _ _ _,x,h,_,l1,l2,h1,h2,ε,n1,n2,_,rfl,(hX.ns.same s1).mono,by omega,pb.mono,hh.same s1,en.h2p,en.bh1.mono,en.bh2.mono,λH2 s2=>⟨_,_,rfl,rfl,_,rfl,aM (λh0'=>?_) (λh0'=>?_)⟩⟩
  ·have e:=Lr hd hw hc en.h2p hY.one.inn.2 h0';rw[e]at k;exact aX (k H2 (s1.trans s2))
  have hi:aj [u,d*v*v,w,aG v] n1 n2<=0:=Qn.mp h0';have t2:=s1.trans s2;have hy2:=t2 _ _ hy;have hcs:=Lo (ε:=ε') hd hw hc hY.one lo hi (by rw[<- eL];exact hY.ns.sgn);rw[<- eL]at hcs;refine aX ⟨_,rfl,_,rfl,y,CN,dy,_,_,rfl,hy2,RN.cl,RN.nP,kC _ _ _,_,rfl,po,x,_,u,v,w,d,l1,l2,h1,h2,rfl,t2 _ _ hpo,qP.tr,by omega,qb.mono,hX.ok,(hX.same t2).sd,λH3 s3=>?_⟩;have t3:=t2.trans s3;rw[hcs];have hcas:=fb (u*c-a*w) (v*c-b*w) d;have top:sgq (u*c-a*w) (v*c-b*w) d=1->aj [a,d*b*b,c,aG b] n1 n2 = -1:=Ln hd hw hc en.h2p hY.one.inn.2 hi;generalize sgq (u*c-a*w) (v*c-b*w) d=τ at k hcas top
  refine⟨y,_,m1,m2,n1,n2,ε',-τ,_,?_,(hY.ns.same t3).mono,by omega,qb.mono,?_,λH4 s4=>?_⟩
  ·have:ε'*τ = -ε' * -τ:=by rw[Rf]
   rw[this];rfl
  ·rcases hcas with z |z |z
   ·right;right;exact⟨by omega,top z⟩
   ·left;omega
   ·right;left;omega
  ·refine⟨_,rfl,?_⟩;have:=k H4 (t3.trans s4);rw[<- Int.neg_neg τ]at this;exact this
inductive ye(vs:List V)(H:Hp)(Q:VK)(E:XK):Prop
 |mk (p q:Addr) (u v w a b c d e:Int):vs=[.ref p,.ref q]->WT H p u v w d->WT H q a b c e->WOk u v w d->WOk a b c d->Q (.int (sgq (u*c-a*w) (v*c-b*w) d)) H->ye vs H Q E
theorem Hf(F:Fun K "_law_compared" "_law_compared" sT f fd)(T:Txt K mg)(wJ:Cal P w K mg base 1 "_law_sign" ["_law_u","_law_v","_law_d"] qD KI Km):FnOk P w K mg base CX0 2 f fd ["_law_one","_law_other"] ye:=by
 obtain⟨wm,uE,uT,vV⟩:=wJ;refine F.ok sc__law_compared (λvs H Q E h=>?_) (λcdv A outer s H vs Q E hr h=>?_)
 ·obtain⟨p,q,u,v,w,a,b,c,d,e,rfl,_⟩:=h;rfl
 ·obtain⟨p,q,u,v,w,a,b,c,d,e,rfl,hp,hq,hW,hV,k⟩:=h
  refine⟨_,(ai (fm (pv 0) (gj rfl (ca (aR (i:=2) sc__law_compared.nd rfl (Or.inl rfl)) (ca (aR (i:=3) sc__law_compared.nd rfl (Or.inl rfl)) (ca (aR (i:=4) sc__law_compared.nd rfl (Or.inl rfl)) (ca (aR (i:=5) sc__law_compared.nd rfl (Or.inl rfl)) gf))))))
   (ai (fm (pv 1) (gj rfl (ca (aR (i:=6) sc__law_compared.nd rfl (Or.inl rfl)) (ca (aR (i:=7) sc__law_compared.nd rfl (Or.inl rfl)) (ca (aR (i:=8) sc__law_compared.nd rfl (Or.inl rfl)) (ca (aR (i:=9) sc__law_compared.nd rfl (Or.inl rfl)) gf))))))
   (ao (aw (al wm (hr.mono) rfl uE uT vV .nil ah (aa (ak cz (ak aK (pv 2) (pv 8)) (ak aK (pv 6) (pv 4))) (aa (ak cz (ak aK (pv 3) (pv 8)) (ak aK (pv 7) (pv 4))) (aa (pv 5) ac)))))))),?_⟩
  refine⟨_,rfl,p,_,rfl,SqT.of hp,rfl,_,_,rfl,_,_,rfl,_,_,rfl,_,_,rfl,rfl,?_⟩;dsimp only
  refine gb (λσ' H'=>σ'=[some (.ref p),some (.ref q),some (.int u),some (.int v),some (.int w),some (.int d),none,none,none,none]/\H=H') ⟨rfl,rfl⟩ ?_;rintro σ' H' ⟨rfl,rfl⟩;refine⟨_,rfl,q,_,rfl,SqT.of hq,rfl,_,_,rfl,_,_,rfl,_,_,rfl,_,_,rfl,rfl,?_⟩;dsimp only
  refine gb (λσ' H'=>σ'=[some (.ref p),some (.ref q),some (.int u),some (.int v),some (.int w),some (.int d),some (.int a),some (.int b),some (.int c),some (.int e)]/\H=H') ⟨rfl,rfl⟩ ?_;rintro σ' H' ⟨rfl,rfl⟩;have q1:Bits 31 (u*c):=(hW.bu.mul hV.bw).mono;have q2:Bits 31 (a*w):=(hV.bu.mul hW.bw).mono;have q3:Bits 31 (v*c):=(hW.bv.mul hV.bw).mono;have q4:Bits 31 (b*w):=(hV.bv.mul hW.bw).mono;exact aX ⟨_,rfl,_,rfl,_,_,rfl,rfl,⟨hW.bu.mono,hV.bw.mono⟩,_,rfl,_,rfl,_,_,rfl,rfl,⟨hV.bu.mono,hW.bw.mono⟩,_,_,rfl,rfl,_,rfl,_,rfl,_,_,rfl,rfl,⟨hW.bv.mono,hV.bw.mono⟩,_,rfl,_,rfl,_,_,rfl,rfl,⟨hV.bv.mono,hW.bw.mono⟩,_,_,rfl,rfl,_,rfl,_,_,_,rfl,(q1.sub q2).mono,(q3.sub q4).mono,hW.bd.mono,k⟩
inductive xN(K:PySem.W.Frag)(vs:List V)(H:Hp)(Q:VK)(E:XK):Prop
 |mk (a:Addr) (ns:List Int):vs=[.ref a]->SqL K H a (ns.map V.int)->(∀(t p q:Addr) (H':Hp) (u v w a' b' c' d:Int),Same H H'->H t=none->H' t=some (.tup [.ref p,.ref q])->WT H' p u v w d->WT H' q a' b' c' d->WOk u v w d->WOk a' b' c' d->Q (.ref t) H')->xN K vs H Q E
theorem G7(F:Fun K "_law_two" "_law_two" sL f fd)(T:Txt K mg)(Ny:Cal P w K mg base 2 "_law_worth" ["_law_script","_law_k"] (xK K) O3 On)(nQ:Cal P w K mg base 1 "_law_cell_at" ["_law_script","_law_k"] (iL K) Bn Bi):FnOk P w K mg base CX0 3 f fd ["_law_script"] (xN K):=by
 obtain⟨Cv,Ai,Ay,Cg⟩:=Ny;obtain⟨fZ,fU,fV,fX⟩:=nQ;refine F.ok sc__law_two (λvs H Q E h=>?_) (λcdv A outer s H vs Q E hr h=>?_)
 ·obtain⟨a,ns,rfl,_⟩:=h;rfl
 ·obtain⟨a,ns,rfl,hS,k⟩:=h;have big:=sizeLine_eq
  refine⟨_,(ai (ar (i:=1) sc__law_two.nd rfl (Or.inl rfl) (al Cv (hr.mono) rfl Ai Ay Cg .nil ah (aa (pv 0) (aa af ac))))
   (ai (ar (i:=2) sc__law_two.nd rfl (Or.inl rfl) (al Cv (hr.mono) rfl Ai Ay Cg .nil ah (aa (pv 0) (aa af ac))))
   (ai (ar (i:=3) sc__law_two.nd rfl (Or.inl rfl) (ak cQ (al fZ (hr.mono) rfl fU fV fX .nil ah (aa (pv 0) (aa af ac))) af))
   (ai (aS (aJ dL (pv 3) af (aI _))
     (ao (ar (i:=2) sc__law_two.nd rfl (Or.inl rfl) (cU (aa (aE (aP (K:=K) rfl) (pv 1) af (λ_ _=>rfl)) (aa (aE (aP (K:=K) rfl) (pv 1) af (λ_ _=>rfl)) (aa (aE (aP (K:=K) rfl) (pv 1) af (λ_ _=>rfl)) (aa (aE (aP (K:=K) rfl) (pv 1) af (λ_ _=>rfl)) ac)))))))
     aV)
   (ai (aS (aJ cV (pv 3) af (aI _))
     (ao (ar (i:=2) sc__law_two.nd rfl (Or.inl rfl) (cU (aa (aE (aP (K:=K) rfl) (pv 1) af (λ_ _=>rfl)) (aa (b7 bV (aE (aP (K:=K) rfl) (pv 1) af (λ_ _=>rfl))) (aa (aE (aP (K:=K) rfl) (pv 1) af (λ_ _=>rfl)) (aa (aE (aP (K:=K) rfl) (pv 1) af (λ_ _=>rfl)) ac)))))))
     aV)
   (ao (aw (cU (aa (pv 1) (aa (cU (aa (aE (aP (K:=K) rfl) (pv 2) af (λ_ _=>rfl)) (aa (aE (aP (K:=K) rfl) (pv 2) af (λ_ _=>rfl)) (aa (aE (aP (K:=K) rfl) (pv 2) af (λ_ _=>rfl)) (aa (aE (aP (K:=K) rfl) (pv 1) af (λ_ _=>rfl)) ac))))) ac)))))))))),?_⟩
  refine aC ⟨_,rfl,a,ns,0,rfl,hS,λp H1 u v w d s1 hp1 hp hW=>?_⟩;refine aC ⟨_,rfl,a,ns,3,rfl,s1.seq hS,λq H2 a' b' c' d' s2 hq2 hq hV=>?_⟩;have t2:=s1.trans s2;have hp2:=s2 _ _ hp;refine aC ⟨_,rfl,a,ns,6,rfl,t2.seq hS,_,_,rfl,rfl,(by show(0:Int)<6;decide),?_⟩;show di _ _ _ _ _;refine dY (λσ' H'=>∃(q:Addr) (a' b' c' d':Int),σ'=[some (.ref a),some (.ref p),some (.ref q),some (.int (ns.getD 6 0%6))]/\Same H H'/\WT H' p u v w d/\WT H' q a' b' c' d'/\WOk a' b' c' d') ?_ ?_
  case refine_2 =>
   intro rest;refine⟨_,rfl,_,_,rfl,rfl,_,rfl,aM (λ_=>?_) (λ_=>?_)⟩
   ·refine cZ ⟨_,rfl,p,_,_,_,rfl,rfl,SqT.of hp2,rfl,_,rfl,p,_,_,_,rfl,rfl,SqT.of hp2,rfl,_,rfl,p,_,_,_,rfl,rfl,SqT.of hp2,rfl,_,rfl,p,_,_,_,rfl,rfl,SqT.of hp2,rfl,by show 4<=sizeLine;decide,λq3 hq3=>?_⟩;have s3:=Same.upd_new (o:=.tup [V.int u,V.int v,V.int w,V.int d]) hq3;exact rest _ _ ⟨q3,u,v,w,d,rfl,t2.trans s3,s3 _ _ hp2,au,hW⟩
   ·exact rest _ _ ⟨q,a',b',c',d',rfl,t2,hp2,hq,hV⟩
  clear hV hq hq2 hp2 t2 s2;rintro σ' H3 ⟨q,a',b',c',d',rfl,t3,hp3,hq3,hV⟩;refine dY (λσ' H'=>∃(q:Addr) (a' b' c' d':Int),σ'=[some (.ref a),some (.ref p),some (.ref q),some (.int (ns.getD 6 0%6))]/\Same H H'/\WT H' p u v w d/\WT H' q a' b' c' d'/\WOk a' b' c' d') ?_ ?_
  case refine_2 =>
   intro rest;refine⟨_,rfl,_,_,rfl,rfl,_,rfl,aM (λ_=>?_) (λ_=>?_)⟩
   ·refine cZ ⟨_,rfl,p,_,_,_,rfl,rfl,SqT.of hp3,rfl,_,rfl,p,_,_,_,rfl,rfl,SqT.of hp3,rfl,_,rfl,_,rfl,p,_,_,_,rfl,rfl,SqT.of hp3,rfl,_,rfl,p,_,_,_,rfl,rfl,SqT.of hp3,rfl,by show 4<=sizeLine;decide,λq4 hq4=>?_⟩;have s4:=Same.upd_new (o:=.tup [V.int u,V.int (-v),V.int w,V.int d]) hq4;exact rest _ _ ⟨q4,u,-v,w,d,rfl,t3.trans s4,s4 _ _ hp3,au,⟨hW.bu,hW.bv.neg,hW.w1,hW.w12,hW.d2,hW.d13,hW.ns⟩⟩
   ·exact rest _ _ ⟨q,a',b',c',d',rfl,t3,hp3,hq3,hV⟩
  clear hV hq3 hp3 t3;rintro σ' H4 ⟨q,a',b',c',d',rfl,t4,hp4,hq4,hV⟩;refine aX ⟨_,rfl,_,rfl,q,_,_,_,rfl,rfl,SqT.of hq4,rfl,_,rfl,q,_,_,_,rfl,rfl,SqT.of hq4,rfl,_,rfl,q,_,_,_,rfl,rfl,SqT.of hq4,rfl,_,rfl,p,_,_,_,rfl,rfl,SqT.of hp4,rfl,by show 4<=sizeLine;decide,λq5 hq5=>?_⟩;have s5:=Same.upd_new (o:=.tup [V.int a',V.int b',V.int c',V.int d]) hq5;refine⟨by show 2<=sizeLine;decide,λt ht=>?_⟩;have s6:=s5.then_new (o:=.tup [V.ref p,V.ref q5]) ht;exact k t p q5 _ u v w a' b' c' d (t4.trans s6) (t4.free (s5.free ht)) au (s6 _ _ hp4) ((Same.upd_new ht) _ _ au) hW ⟨hV.bu,hV.bv,hV.w1,hV.w12,hW.d2,hW.d13,hW.ns⟩
inductive yt(vs:List V)(H:Hp)(Q:VK)(E:XK):Prop
 |mk (a b:Addr) (xs:List Int):vs=[.ref a,.ref b]->H a=some (.lst (xs.map V.int))->H b=some (.lst (xs.map V.int))->xs.length<=10->Q (.bl true) H->yt vs H Q E
theorem Hk(F:Fun K "_law_alike" "_law_alike" sY f fd)(T:Txt K mg)(Nz:Cal P w K mg base 1 "_law_whole" ["_law_found"] xL O4 Oo):FnOk P w K mg base CX0 2 f fd ["_law_told","_law_due"] yt:=by
 obtain⟨MS,ID,Jv,L6⟩:=Nz;refine F.ok sc__law_alike (λvs H Q E h=>?_) (λcdv A outer s H vs Q E hr h=>?_)
 ·obtain⟨a,b,xs,rfl,_⟩:=h;rfl
 ·obtain⟨a,b,xs,rfl,hA,hB,lx,k⟩:=h;have big:=sizeLine_eq;have hl:(xs.map V.int).length=xs.length:=Pk _
  refine⟨_,(ai (db PassesOwn.never rfl (iY rfl T.range_ (aa (ci (dz (K:=K) rfl) (by rfl) T.len_ PySem.boot_len (aa (pv 1) ac)) ac)) (aR (i:=2) sc__law_alike.nd rfl (Or.inl rfl))
   (ao (aS (PW.pt (y9 (ze (tU (al MS (hr.mono) rfl ID Jv L6 .nil ah (aa (aE (ck (K:=K) rfl) (pv 0) (pv 2) (λ_ _=>rfl)) ac)))) (y8 (aJ i7 (aE (ck (K:=K) rfl) (pv 0) (pv 2) (λ_ _=>rfl)) (aE (ck (K:=K) rfl) (pv 1) (pv 2) (λ_ _=>rfl)) (aI _)))))
     (ao (aw ua))
     aV)))
   (ao (aw ua))),?_⟩
  refine⟨_,rfl,b,_,rfl,.inl (SqL.of hB),xs.length,congrArg (λz:Nat=>[V.int (z:Int)]) hl,by omega,by omega,mS (lo:=0) (n:=xs.length) (λi σ' H'=>∃z2:Option V,σ'=[some (.ref a),some (.ref b),z2]/\H=H') ⟨none,rfl,rfl⟩ ?_ ?_⟩
  ·rintro i σ' H' hi ⟨z2,rfl,rfl⟩;have eix:atI (xs.map V.int) (0+(i:Int))=some (.int (cf xs i)):=v4 (k:=i) (by omega) hi;refine j8 (EY (yT ⟨_,rfl,_,rfl,a,_,_,_,rfl,rfl,SqL.of hA,eix,_,rfl,⟨_,rfl,fN ?_⟩⟩));refine⟨_,rfl,_,rfl,a,_,_,_,rfl,rfl,SqL.of hA,eix,_,rfl,_,rfl,b,_,_,_,rfl,rfl,SqL.of hB,eix,_,_,rfl,rfl,_,rfl,dJ (λz=>absurd rfl z) (λ_=>?_)⟩;exact⟨some (.int (0+(i:Int))),rfl,rfl⟩
  ·rintro σ' H' ⟨z2,rfl,rfl⟩;exact k
inductive yr(C CN:Addr)(vs:List V)(H:Hp)(Q:VK)(E:XK):Prop
 |mk (x y r:Addr) (u v w a b c d l1 l2 h1 h2 ε m1 m2 n1 n2 ε' t n:Int):vs=[.ref x,.ref y,.ref r]->CmN C CN H x u v w d l1 l2 h1 h2 ε->CmN C CN H y a b c d m1 m2 n1 n2 ε'->RA C H r t n->0<n->Bits 30 t->Bits 30 n->mkL H Q [sgq (u*c-a*w) (v*c-b*w) d,sgq (a*w-u*c) (b*w-v*c) d,sgq (u*n-t*w) (v*n) d,sgq (a*n-t*c) (b*n) d,sgq (u*1-0*w) (v*1) d,sgq (a*1-0*c) (b*1) d,0]->yr C CN vs H Q E
theorem Hj(F:Fun K "_law_all" "_law_all" sX f fd)(T:Txt K mg)(R:RCI K mg C)(RN:NCI K mg CN)(wF:Cal P w K mg base 37 "compare" ["first","second"] (qO C CN) KE Ki)(jL:Cal P w K mg base 4 "against" ["one","ratio"] (lu C CN) vw vh)(wy:Cal P w K mg base 5 "sign_of" ["one"] (qG C CN) Kw Kb):FnOk P w K mg base CX0 38 f fd ["_law_a","_law_b","_law_r"] (yr C CN):=by
 obtain⟨kX,ku,kz,kN⟩:=wF;obtain⟨g7,gL,gR,gY⟩:=jL;obtain⟨qh,oZ,o5,qc⟩:=wy;refine F.ok Ew (λvs H Q E h=>?_) (λcdv A outer s H vs Q E hr h=>?_)
 ·obtain⟨x,y,r,u,v,w,a,b,c,d,l1,l2,h1,h2,ε,m1,m2,n1,n2,ε',t,n,rfl,_⟩:=h;rfl
 ·obtain⟨x,y,r,u,v,w,a,b,c,d,l1,l2,h1,h2,ε,m1,m2,n1,n2,ε',t,n,rfl,hX,hY,hR,hn,bt,bn,k⟩:=h;obtain⟨pP,p2,p3,pb⟩:=jd hX.ok;obtain⟨qP,q2,q3,qb⟩:=jd hY.ok;refine⟨_,(ao (aw (bj (aa (al kX (hr.mono) rfl ku kz kN .nil ah (aa (pv 0) (aa (pv 1) ac))) (aa (al kX (hr.mono) rfl ku kz kN .nil ah (aa (pv 1) (aa (pv 0) ac))) (aa (al g7 (hr.mono) rfl gL gR gY .nil ah (aa (pv 0) (aa (pv 2) ac))) (aa (al g7 (hr.mono) rfl gL gR gY .nil ah (aa (pv 1) (aa (pv 2) ac))) (aa (al qh (hr.mono) rfl oZ o5 qc .nil ah (aa (pv 0) ac)) (aa (al qh (hr.mono) rfl oZ o5 qc .nil ah (aa (pv 1) ac)) (aa (al kX (hr.mono) rfl ku kz kN .nil ah (aa (pv 0) (aa (pv 0) ac))) ac)))))))))),?_⟩;refine aX ⟨_,rfl,_,rfl,x,y,u,v,w,a,b,c,d,l1,l2,h1,h2,ε,m1,m2,n1,n2,ε',rfl,hX,hY,λH1 s1=>?_⟩;refine⟨_,rfl,_,rfl,y,x,a,b,c,u,v,w,d,m1,m2,n1,n2,ε',l1,l2,h1,h2,ε,rfl,hY.same s1,hX.same s1,λH2 s2=>?_⟩;have t2:=s1.trans s2;refine⟨_,rfl,_,rfl,x,r,_,l1,l2,h1,h2,ε,t,n,_,rfl,(hX.ns.same t2).mono,by omega,pb.mono,hR.same t2,hn,bt.mono,bn.mono,λH3 s3=>?_⟩;have t3:=t2.trans s3;refine⟨_,rfl,_,rfl,y,r,_,m1,m2,n1,n2,ε',t,n,_,rfl,(hY.ns.same t3).mono,by omega,qb.mono,hR.same t3,hn,bt.mono,bn.mono,λH4 s4=>?_⟩;have t4:=t3.trans s4;refine⟨_,rfl,x,u,v,w,d,l1,l2,h1,h2,ε,rfl,hX.same t4,λH5 s5=>?_⟩;have t5:=t4.trans s5;refine⟨_,rfl,y,a,b,c,d,m1,m2,n1,n2,ε',rfl,hY.same t5,λH6 s6=>?_⟩;have t6:=t5.trans s6;refine⟨_,rfl,_,rfl,x,x,u,v,w,u,v,w,d,l1,l2,h1,h2,ε,l1,l2,h1,h2,ε,rfl,hX.same t6,hX.same t6,λH7 s7=>?_⟩;have t7:=t6.trans s7;refine⟨by show 7<=sizeLine;decide,λp hp=>?_⟩;refine k p _ (t7.then_new hp) (t7.free hp) ?_;rw[au];have e1:sgq (u*w-u*w) (v*w-v*w) d=0:=by rw[Int.sub_self,Int.sub_self,iO]
  rw[f8 hX.ok.ns hn,f8 hX.ok.ns hn,e1];rfl
theorem GM(F:Fun K "law" "law" rY f fd)(T:Txt K mg)(R:RCI K mg C)(RN:NCI K mg CN)(NB:Cal P w K mg base 3 "_law_two" ["_law_script"] (xN K) O5 Op)(nQ:Cal P w K mg base 1 "_law_cell_at" ["_law_script","_law_k"] (iL K) Bn Bi)(ND:Cal P w K mg base 4 "_law_span" ["_law_worth_here","_law_more"] (xT C) O7 Os)(Ni:CalE P w K mg base 39 "number" ["row","low","high"] (qJ C CN) OO N7 Ph [.non,.non])(NF:Cal P w K mg base 4 "_law_padded" ["_law_worth_here","_law_span_here","_law_cell"] (xZ C) O9 Ou)(wO:KCal P w K mg base 1 CN "Number" ["self","row","low","high"] (ll CN) KN Kr KW [])(wK:Cal P w K mg base 3 "_law_least" ["_law_worth_here"] qN KJ Kn)(cC:KCal P w K mg base 2 C "Ratio" ["self","top","bottom"] (dj C) eo ei eG [.int 1])(wL:Cal P w K mg base 1 "_law_amount" ["_law_cell"] qS KK Ko)(NH:Cal P w K mg base 2 "_law_compared" ["_law_one","_law_other"] ye Pb Ow)(NI:Cal P w K mg base 2 "_law_beside" ["_law_worth_here","_law_r"] (yo C) Pc Ox)(NK:Cal P w K mg base 2 "_law_alike" ["_law_told","_law_due"] yt Pe Oz)(NJ:Cal P w K mg base 38 "_law_all" ["_law_a","_law_b","_law_r"] (yr C CN) Pd Oy)(wy:Cal P w K mg base 5 "sign_of" ["one"] (qG C CN) Kw Kb)(wF:Cal P w K mg base 37 "compare" ["first","second"] (qO C CN) KE Ki)(jL:Cal P w K mg base 4 "against" ["one","ratio"] (lu C CN) vw vh):FnOk P w K mg base CX0 40 f fd ["_law_script"] (oe K):=by
 obtain⟨MT,IE,Jw,L7⟩:=NB;obtain⟨fZ,fU,fV,fX⟩:=nQ;obtain⟨Cw,Aj,Az,Ch⟩:=ND;obtain⟨ME,Il,Jh,LQ,Pj,Pi⟩:=Ni;obtain⟨MU,IF,Jx,L8⟩:=NF;obtain⟨wt,wc,uG,vZ,Mc,Lb⟩:=wO;obtain⟨wn,uF,uU,vW⟩:=wK;obtain⟨bU,bT,bK,cs,cT,cS⟩:=cC;obtain⟨qk,o2,o8,qf⟩:=wL;obtain⟨Cz,Am,AB,Cj⟩:=NH;obtain⟨qj,o1,o7,qe⟩:=NI;obtain⟨CA,An,AC,Ck⟩:=NK;obtain⟨MW,IH,Jz,Ma⟩:=NJ;obtain⟨qh,oZ,o5,qc⟩:=wy;obtain⟨kX,ku,kz,kN⟩:=wF;obtain⟨g7,gL,gR,gY⟩:=jL;refine F.ok sc_law (λvs H Q E h=>?_) (λcdv A outer s H vs Q E hr h=>?_)
 ·obtain⟨a,ns,rfl,_⟩:=h;rfl
 ·obtain⟨a,ns,rfl,hS,hlen,k⟩:=h;have big:=sizeLine_eq
  refine⟨_,(ai (fm (al MT (hr.mono) rfl IE Jw L7 .nil ah (aa (pv 0) ac)) (gj rfl (ca (aR (i:=1) sc_law.nd rfl (Or.inl rfl)) (ca (aR (i:=2) sc_law.nd rfl (Or.inl rfl)) gf))))
   (ai (ar (i:=3) sc_law.nd rfl (Or.inl rfl) (al fZ (hr.mono) rfl fU fV fX .nil ah (aa (pv 0) (aa af ac))))
   (ai (ar (i:=4) sc_law.nd rfl (Or.inl rfl) (al Cw (hr.mono) rfl Aj Az Ch .nil ah (aa (pv 1) (aa (ak cQ (pv 3) af) ac))))
   (ai (ar (i:=5) sc_law.nd rfl (Or.inl rfl) (al ME (hr.mono) rfl Il Jh LQ .nil ah (aa (al MU (hr.mono) rfl IF Jx L8 .nil ah (aa (pv 1) (aa (pv 4) (aa (al fZ (hr.mono) rfl fU fV fX .nil ah (aa (pv 0) (aa af ac))) ac)))) (aa (aE (aP (K:=K) rfl) (pv 4) af (λ_ _=>rfl)) (aa (aE (aP (K:=K) rfl) (pv 4) af (λ_ _=>rfl)) ac)))))
   (ai (ar (i:=4) sc_law.nd rfl (Or.inl rfl) (al Cw (hr.mono) rfl Aj Az Ch .nil ah (aa (pv 2) (aa (ak cQ (ak de (pv 3) af) af) ac))))
   (ai (ar (i:=6) sc_law.nd rfl (Or.inl rfl) (cD wc wt (hr.mono) rfl uG vZ .nil ah (aa (al wn (hr.mono) rfl uF uU vW .nil ah (aa (pv 2) ac)) (aa (aE (aP (K:=K) rfl) (pv 4) af (λ_ _=>rfl)) (aa (aE (aP (K:=K) rfl) (pv 4) af (λ_ _=>rfl)) ac)))))
   (ai (ar (i:=7) sc_law.nd rfl (Or.inl rfl) (cD bT bU (hr.mono) rfl bK cs .nil ah (aa (al qk (hr.mono) rfl o2 o8 qf .nil ah (aa (al fZ (hr.mono) rfl fU fV fX .nil ah (aa (pv 0) (aa af ac))) ac)) (aa (ak b9 af (ak cQ (al fZ (hr.mono) rfl fU fV fX .nil ah (aa (pv 0) (aa af ac))) af)) ac))))
   (ai (aS (aJ cV (ak cQ (ak de (pv 3) af) af) af (aI _))
     (ao (ar (i:=7) sc_law.nd rfl (Or.inl rfl) (cD bT bU (hr.mono) rfl bK cs .nil ah (aa (aE (aP (K:=K) rfl) (pv 1) af (λ_ _=>rfl)) (aa (aE (aP (K:=K) rfl) (pv 1) af (λ_ _=>rfl)) ac)))))
     aV)
   (ai (ar (i:=8) sc_law.nd rfl (Or.inl rfl) (bj (aa (al Cz (hr.mono) rfl Am AB Cj .nil ah (aa (pv 1) (aa (pv 2) ac))) (aa (al Cz (hr.mono) rfl Am AB Cj .nil ah (aa (pv 2) (aa (pv 1) ac))) (aa (al qj (hr.mono) rfl o1 o7 qe .nil ah (aa (pv 1) (aa (pv 7) ac))) (aa (al qj (hr.mono) rfl o1 o7 qe .nil ah (aa (pv 2) (aa (pv 7) ac))) ac))))))
   (ai (ar (i:=8) sc_law.nd rfl (Or.inl rfl) (ak FZ (pv 8) (bj (aa (al qj (hr.mono) rfl o1 o7 qe .nil ah (aa (pv 1) (aa (cD bT bU (hr.mono) rfl bK cT cS ah (aa af ac)) ac))) (aa (al qj (hr.mono) rfl o1 o7 qe .nil ah (aa (pv 2) (aa (cD bT bU (hr.mono) rfl bK cT cS ah (aa af ac)) ac))) (aa af ac))))))
   (ai (aS (ze (tU (al CA (hr.mono) rfl An AC Ck .nil ah (aa (al MW (hr.mono) rfl IH Jz Ma .nil ah (aa (pv 5) (aa (pv 6) (aa (pv 7) ac)))) (aa (pv 8) ac)))))
     (ao (aw ua))
     aV)
   (ai (ar (i:=9) sc_law.nd rfl (Or.inl rfl) (bj (aa (al qh (hr.mono) rfl oZ o5 qc .nil ah (aa (pv 6) ac)) (aa (al kX (hr.mono) rfl ku kz kN .nil ah (aa (pv 6) (aa (pv 5) ac))) (aa (al g7 (hr.mono) rfl gL gR gY .nil ah (aa (pv 5) (aa (pv 7) ac))) (aa (al kX (hr.mono) rfl ku kz kN .nil ah (aa (pv 5) (aa (pv 6) ac))) ac))))))
   (ao (aw (al CA (hr.mono) rfl An AC Ck .nil ah (aa (pv 9) (aa (bj (aa (aE (ck (K:=K) rfl) (pv 8) af (λ_ _=>rfl)) (aa (aE (ck (K:=K) rfl) (pv 8) af (λ_ _=>rfl)) (aa (aE (ck (K:=K) rfl) (pv 8) af (λ_ _=>rfl)) (aa (aE (ck (K:=K) rfl) (pv 8) af (λ_ _=>rfl)) ac))))) ac))))))))))))))))),?_⟩
  refine⟨_,rfl,a,ns,rfl,hS,λt0 p q H1 u v w a' b' c' d s1 ht0 et0 hp hq hW hV=>?_⟩;refine⟨t0,_,rfl,SqT.of et0,rfl,_,_,rfl,_,_,rfl,rfl,?_⟩;dsimp only
  refine gb (λσ' H'=>σ'=[some (.ref a),some (.ref p),some (.ref q),none,none,none,none,none,none,none]/\H1=H') ⟨rfl,rfl⟩ ?_;rintro σ' H' ⟨rfl,rfl⟩;refine aC ⟨_,rfl,a,ns,7,rfl,s1.seq hS,?_⟩;generalize ns.getD 7 0=c0;obtain⟨m0,m1⟩:=iu (x:=c0) (m:=60) (by decide);refine aC ⟨_,rfl,_,rfl,_,_,rfl,rfl,(by show(0:Int)<60;decide),p,u,v,w,d,_,rfl,hp,hW,m0,m1,λt l h H2 l1 l2 h1 h2 s2 ht et hl hh hE=>?_⟩;have t2:=s1.trans s2;have hp2:=s2 _ _ hp;obtain⟨en,_⟩:=kZ hW m0 m1 hE;obtain⟨ε,hsp,hru,hsg⟩:=wP hW m0 m1 hE;have eLs:bQ u v w d=ag [u,d*v*v,w]:=ky (by have:=hW.d2;omega);refine aC ⟨_,rfl,_,rfl,_,rfl,a,ns,8,rfl,t2.seq hS,p,t,l,h,u,v,w,d,l1,l2,_,rfl,hp2,hW,et,hl,hE.l2p,hE.bl1,hE.bl2,hE.gl,λmm A1 B1 D1 cc hPad pk H3 s3 hpk ek=>?_⟩;obtain⟨hM,hfl,hOW⟩:=FU hW m0 m1 hE hPad;generalize whl cc (usP (ag [u,d*v*v,w]) mm (A1++(B1++D1)))=kp at ek hM
  have et3:=s3 _ _ et;refine⟨_,rfl,t,_,_,_,rfl,rfl,SqT.of et3,rfl,_,rfl,t,_,_,_,rfl,rfl,SqT.of et3,rfl,pk,l,h,kp,cc,_,_,_,_,l1,l2,h1,h2,rfl,ek,hl.same s3,hh.same s3,hM,hfl,hOW,λx q0 H4 s4 hx hNA hq0 hqn=>?_⟩;rw[<- eLs]at hq0;have u4:=s3.trans s4;have t4:=t2.trans u4;have hX:CmN C CN H4 x u v w d l1 l2 h1 h2 ε:=⟨⟨⟨q0,l,h,hNA,hq0,hl.same u4,hh.same u4,en,hru⟩,hsp,hsg⟩,wQ hW m0 m1 hE,hW⟩;have hp4:=u4 _ _ hp2;have hq4:=(s2.trans u4) _ _ hq;clear hM hfl hOW hNA hq0 hqn hx ek hpk et3 hsg hru hsp en hE hl hh et ht;obtain⟨m0',m1'⟩:=iu (x:=c0/60) (m:=60) (by decide);refine aC ⟨_,rfl,_,rfl,_,_,rfl,rfl,⟨by show(0:Int)<60;decide,eY (by decide) (by decide)⟩,_,_,rfl,rfl,(by show(0:Int)<60;decide),q,a',b',c',d,_,rfl,hq4,hV,m0',m1',λt' l' h' H5 k1 k2 g1 g2 s5 ht' et' hl' hh' hE'=>?_⟩;obtain⟨en',_⟩:=kZ hV m0' m1' hE';obtain⟨ε',hsp',hru',hsg'⟩:=wP hV m0' m1' hE';refine aC ⟨_,rfl,q,a',b',c',d,rfl,s5 _ _ hq4,hV,λbb H6 s6 hbb ebb=>?_⟩;have et6:=s6 _ _ et';refine⟨_,rfl,t',_,_,_,rfl,rfl,SqT.of et6,rfl,_,rfl,t',_,_,_,rfl,rfl,SqT.of et6,rfl,Ae ebb λy q1 H7 s7 hy hNA' hq1 hqn'=>?_⟩;have u7:=s6.trans s7;have hY:CmN C CN H7 y a' b' c' d k1 k2 g1 g2 ε':=⟨⟨⟨q1,l',h',hNA',hq1,hl'.same u7,hh'.same u7,en',hru'⟩,hsp',hsg'⟩,wQ hV m0' m1' hE',hV⟩;have v7:=s5.trans u7;have t7:=t4.trans v7;have hX7:=hX.same v7;have hp7:=v7 _ _ hp4;have hq7:=v7 _ _ hq4;clear hNA' hq1 hqn' hy ebb hbb et6 hsg' hru' hsp' en' hE' hl' hh' et' ht' hX;refine aC ⟨_,rfl,a,ns,9,rfl,t7.seq hS,_,rfl,λz bz=>?_⟩;obtain⟨r0,r1⟩:=iu (x:=ns.getD 10 0) (m:=30) (by decide);have bB:Bits 30 (1+ns.getD 10 0%30):=by show(1+ns.getD 10 0%30).natAbs<2^30;omega
  refine⟨_,rfl,a,ns,10,rfl,t7.seq hS,_,_,rfl,rfl,(by show(0:Int)<30;decide),_,_,rfl,rfl,cR (t:=z) (b:=1+ns.getD 10 0%30) (by omega) (bB.mono) λr H8 s8 hr8 hR8=>?_⟩;have B0:1+ns.getD 10 0%30≠0:=by omega
  show di _ _ _ _ _;refine dY (λσ' H'=>∃(r:Addr) (t n:Int),σ'=[some (.ref a),some (.ref p),some (.ref q),some (.int c0),some (.ref t'),some (.ref x),some (.ref y),some (.ref r),none,none]/\Same H7 H'/\RA C H' r t n/\0<n/\Bits 30 t/\Bits 30 n) ?_ ?_
  case refine_2 =>
   intro rest;have w0:w≠0:=by have:=hW.w1;omega
   have hp8:=s8 _ _ hp7;refine⟨_,rfl,_,_,rfl,rfl,⟨by show(0:Int)<3600;decide,eY (by decide) (by decide)⟩,_,_,rfl,rfl,(by show(0:Int)<4;decide),_,_,rfl,rfl,_,rfl,aM (λ_=>?_) (λ_=>?_)⟩
   ·refine cZ ⟨_,rfl,p,_,_,_,rfl,rfl,SqT.of hp8,rfl,_,rfl,p,_,_,_,rfl,rfl,SqT.of hp8,rfl,cR (t:=u) (b:=w) w0 (hW.bw.mono) λr2 H9 s9 hr9 hR9=>?_⟩;exact rest _ _ ⟨r2,_,_,rfl,s8.trans s9,hR9,dA w0,fg w0 (hW.bu.mono),fj w0 (hW.bw.mono)⟩
   ·exact rest _ _ ⟨r,_,_,rfl,s8,hR8,dA B0,fg B0 (bz.mono),fj B0 bB⟩
  clear B0 hR8 hr8 s8 bB r0 r1 bz;rintro σ' H8 ⟨r,t,n,rfl,s8,hR,hn,bt,bn⟩;have hp8:=s8 _ _ hp7;have hq8:=s8 _ _ hq7;refine aC ⟨_,rfl,_,rfl,p,q,u,v,w,a',b',c',d,d,rfl,hp8,hq8,hW,hV,?_⟩;refine⟨_,rfl,_,rfl,q,p,a',b',c',u,v,w,d,d,rfl,hq8,hp8,hV,hW,?_⟩;refine⟨_,rfl,_,rfl,p,r,u,v,w,d,t,n,rfl,hp8,hW,hR,bt.mono,bn.mono,?_⟩;refine⟨_,rfl,_,rfl,q,r,a',b',c',d,t,n,rfl,hq8,hV,hR,bt.mono,bn.mono,?_⟩;refine⟨by show 4<=sizeLine;decide,λpd hpd=>?_⟩;have s9:Same H8 (upd H8 pd (.lst ([sgq (u*c'-a'*w) (v*c'-b'*w) d,sgq (a'*w-u*c') (b'*w-v*c') d,sgq (u*n-t*w) (v*n) d,sgq (a'*n-t*c') (b'*n) d].map V.int))):=Same.upd_new hpd;have ed:upd H8 pd (.lst ([sgq (u*c'-a'*w) (v*c'-b'*w) d,sgq (a'*w-u*c') (b'*w-v*c') d,sgq (u*n-t*w) (v*n) d,sgq (a'*n-t*c') (b'*n) d].map V.int)) pd=some (.lst ([sgq (u*c'-a'*w) (v*c'-b'*w) d,sgq (a'*w-u*c') (b'*w-v*c') d,sgq (u*n-t*w) (v*n) d,sgq (a'*n-t*c') (b'*n) d].map V.int)):=au;refine j9 (H2:=upd H8 pd (.lst ([sgq (u*c'-a'*w) (v*c'-b'*w) d,sgq (a'*w-u*c') (b'*w-v*c') d,sgq (u*n-t*w) (v*n) d,sgq (a'*n-t*c') (b'*n) d].map V.int))) rfl ?_;generalize upd H8 pd (.lst ([sgq (u*c'-a'*w) (v*c'-b'*w) d,sgq (a'*w-u*c') (b'*w-v*c') d,sgq (u*n-t*w) (v*n) d,sgq (a'*n-t*c') (b'*n) d].map V.int))=H9 at s9 ed ⊢
  refine aC ⟨_,rfl,_,rfl,cR (t:=0) (b:=1) (by decide) (b1k (by decide)) λr2 H10 s10 hr2 hR2=>?_⟩;rw[j5,ka]at hR2;have t10:=s9.trans s10;refine⟨p,r2,u,v,w,d,0,1,rfl,t10 _ _ hp8,hW,hR2,Bits.zero,b1k (by decide),?_⟩;refine⟨_,rfl,cR (t:=0) (b:=1) (by decide) (b1k (by decide)) λr3 H11 s11 hr3 hR3=>?_⟩;rw[j5,ka]at hR3;have t11:=t10.trans s11;refine⟨q,r3,a',b',c',d,0,1,rfl,t11 _ _ hq8,hV,hR3,Bits.zero,b1k (by decide),?_⟩;refine⟨by show 3<=sizeLine;decide,λpe hpe=>?_⟩;have s12:=Same.upd_new (o:=.lst ([sgq (u*1-0*w) (v*1) d,sgq (a'*1-0*c') (b'*1) d,0].map V.int)) hpe;have ed12:=s12 _ _ (s11 _ _ (s10 _ _ ed));refine⟨pd,pe,_,_,rfl,rfl,ed12,au,by show 4+3<=sizeLine;decide,λpf hpf=>?_⟩;have s13:Same H11 (upd (upd H11 pe (.lst ([sgq (u*1-0*w) (v*1) d,sgq (a'*1-0*c') (b'*1) d,0].map V.int))) pf (.lst ([sgq (u*c'-a'*w) (v*c'-b'*w) d,sgq (a'*w-u*c') (b'*w-v*c') d,sgq (u*n-t*w) (v*n) d,sgq (a'*n-t*c') (b'*n) d,sgq (u*1-0*w) (v*1) d,sgq (a'*1-0*c') (b'*1) d,0].map V.int))):=s12.then_new hpf;have ef:upd (upd H11 pe (.lst ([sgq (u*1-0*w) (v*1) d,sgq (a'*1-0*c') (b'*1) d,0].map V.int))) pf (.lst ([sgq (u*c'-a'*w) (v*c'-b'*w) d,sgq (a'*w-u*c') (b'*w-v*c') d,sgq (u*n-t*w) (v*n) d,sgq (a'*n-t*c') (b'*n) d,sgq (u*1-0*w) (v*1) d,sgq (a'*1-0*c') (b'*1) d,0].map V.int)) pf=some (.lst ([sgq (u*c'-a'*w) (v*c'-b'*w) d,sgq (a'*w-u*c') (b'*w-v*c') d,sgq (u*n-t*w) (v*n) d,sgq (a'*n-t*c') (b'*n) d,sgq (u*1-0*w) (v*1) d,sgq (a'*1-0*c') (b'*1) d,0].map V.int)):=au;refine j9 (H2:=upd (upd H11 pe (.lst ([sgq (u*1-0*w) (v*1) d,sgq (a'*1-0*c') (b'*1) d,0].map V.int))) pf (.lst ([sgq (u*c'-a'*w) (v*c'-b'*w) d,sgq (a'*w-u*c') (b'*w-v*c') d,sgq (u*n-t*w) (v*n) d,sgq (a'*n-t*c') (b'*n) d,sgq (u*1-0*w) (v*1) d,sgq (a'*1-0*c') (b'*1) d,0].map V.int))) rfl ?_;generalize upd (upd H11 pe (.lst ([sgq (u*1-0*w) (v*1) d,sgq (a'*1-0*c') (b'*1) d,0].map V.int))) pf (.lst ([sgq (u*c'-a'*w) (v*c'-b'*w) d,sgq (a'*w-u*c') (b'*w-v*c') d,sgq (u*n-t*w) (v*n) d,sgq (a'*n-t*c') (b'*n) d,sgq (u*1-0*w) (v*1) d,sgq (a'*1-0*c') (b'*1) d,0].map V.int))=H13 at s13 ef ⊢
  have t13:=s8.trans (t11.trans s13);have u13:=t11.trans s13;refine bZ (yT ⟨_,rfl,_,rfl,_,rfl,x,y,r,u,v,w,a',b',c',d,l1,l2,h1,h2,ε,k1,k2,g1,g2,ε',t,n,rfl,hX7.same t13,hY.same t13,hR.same u13,hn,bt,bn,λpg H14 s14 hpg eg=>?_⟩);refine⟨_,rfl,pg,pf,_,rfl,eg,s14 _ _ ef,by show 7<=10;decide,⟨_,rfl,fN ?_⟩⟩;have t14:=t13.trans s14;obtain⟨pP,p2,p3,pb⟩:=jd hW;refine aC ⟨_,rfl,y,a',b',c',d,k1,k2,g1,g2,ε',rfl,hY.same t14,λH15 s15=>?_⟩;have t15:=t14.trans s15;refine⟨_,rfl,_,rfl,y,x,a',b',c',u,v,w,d,k1,k2,g1,g2,ε',l1,l2,h1,h2,ε,rfl,hY.same t15,hX7.same t15,λH16 s16=>?_⟩;have t16:=t15.trans s16;have v16:=(s14.trans s15).trans s16;refine⟨_,rfl,_,rfl,x,r,_,l1,l2,h1,h2,ε,t,n,_,rfl,(hX7.ns.same t16).mono,by omega,pb.mono,(hR.same u13).same v16,hn,bt.mono,bn.mono,λH17 s17=>?_⟩;rw[f8 hW.ns hn];have t17:=t16.trans s17;refine⟨_,rfl,_,rfl,x,y,u,v,w,a',b',c',d,l1,l2,h1,h2,ε,k1,k2,g1,g2,ε',rfl,hX7.same t17,hY.same t17,λH18 s18=>?_⟩;have v18:=v16.trans (s17.trans s18);refine⟨by show 4<=sizeLine;decide,λpl hpl=>?_⟩;have s19:Same H18 (upd H18 pl (.lst ([sgq (a'*1-0*c') (b'*1) d,sgq (a'*w-u*c') (b'*w-v*c') d,sgq (u*n-t*w) (v*n) d,sgq (u*c'-a'*w) (v*c'-b'*w) d].map V.int))):=Same.upd_new hpl;have el:upd H18 pl (.lst ([sgq (a'*1-0*c') (b'*1) d,sgq (a'*w-u*c') (b'*w-v*c') d,sgq (u*n-t*w) (v*n) d,sgq (u*c'-a'*w) (v*c'-b'*w) d].map V.int)) pl=some (.lst ([sgq (a'*1-0*c') (b'*1) d,sgq (a'*w-u*c') (b'*w-v*c') d,sgq (u*n-t*w) (v*n) d,sgq (u*c'-a'*w) (v*c'-b'*w) d].map V.int)):=au;refine j9 (H2:=upd H18 pl (.lst ([sgq (a'*1-0*c') (b'*1) d,sgq (a'*w-u*c') (b'*w-v*c') d,sgq (u*n-t*w) (v*n) d,sgq (u*c'-a'*w) (v*c'-b'*w) d].map V.int))) rfl ?_;generalize upd H18 pl (.lst ([sgq (a'*1-0*c') (b'*1) d,sgq (a'*w-u*c') (b'*w-v*c') d,sgq (u*n-t*w) (v*n) d,sgq (u*c'-a'*w) (v*c'-b'*w) d].map V.int))=H19 at s19 el ⊢
  have ef19:=s19 _ _ (v18 _ _ ef);refine aX ⟨_,rfl,_,rfl,pf,_,_,_,rfl,rfl,SqL.of ef19,rfl,_,rfl,pf,_,_,_,rfl,rfl,SqL.of ef19,rfl,_,rfl,pf,_,_,_,rfl,rfl,SqL.of ef19,rfl,_,rfl,pf,_,_,_,rfl,rfl,SqL.of ef19,rfl,by show 4<=sizeLine;decide,λpm hpm=>?_⟩;refine⟨pl,pm,[sgq (a'*1-0*c') (b'*1) d,sgq (a'*w-u*c') (b'*w-v*c') d,sgq (u*n-t*w) (v*n) d,sgq (u*c'-a'*w) (v*c'-b'*w) d],rfl,(Same.upd_new hpm) _ _ el,au,by show 4<=10;decide,k _⟩
end
def FnL(K:PySem.W.Frag)(n:Str)(st:Stmt):Prop:=∃f fd,PySem.W.nsIn K mainGlobals n=some (some (.ref f))/\Fun K n n st f fd
def MtL(K:PySem.W.Frag)(C:Addr)(n q:Str)(st:Stmt):Prop:=∃f fd,PySem.W.findIn K (.ref C) n=some (some (.ref f))/\PySem.W.isFn K (.ref f)=true/\Fun K n q st f fd
structure ClL(K:PySem.W.Frag)(n:Str)(C:Addr):Prop where
 a:PySem.W.nsIn K mainGlobals n=some (some (.ref C))
 pg:PySem.W.plainGet K C Str.empty=true
 hd:PySem.W.hasDictIn K C=true
 po:PySem.W.plainOver K C=true
 sa:PySem.W.findIn K (.ref C) "__setattr__"=some (some (.builtin "object.__setattr__"))
 mkr:PySem.W.makesIn K C=true
 kc:PySem.W.keepIn K (.ref C)=true
 ha:PySem.W.findIn K (.ref C) "__class__"=some (some (.builtin "object.__class__"))
 hn:PySem.W.specialIn K (.builtin "object.__class__") "__get__"=some (some (.builtin "getset_descriptor.__get__"))
 ht:PySem.W.takesIn K (.builtin "object.__class__")=some true
 hm:PySem.W.mroIn K C (.type "object")=some true
section
variable {P:Program}{w:World}{K:PySem.W.Frag}{mg:Str->Option Value}{h base:Heap}{n q:Str}{st:Stmt}{f C:Addr}{oc kV dc pm cd ct:Value}{od an:Option Addr}{sl:Array (Option Value)}{fd:FuncData}{k:Nat}{ps:List Str}{sp:Sp}
theorem fnL(a:PySem.W.nsIn K mainGlobals n=some (some (.ref f)))(l:K.lookup f=some ⟨oc,od,.func (PySem.W.fnOf n n (dU st) (dH st) (aD st) .none kV dc pm an cd ct),sl⟩)(c:PySem.W.codeIn K cd n=true)(k:PySem.W.keepIn K (.ref f)=true):FnL K n st:=⟨_,_,a,A4 l c k⟩
theorem mtL(a:PySem.W.findIn K (.ref C) n=some (some (.ref f)))(i:PySem.W.isFn K (.ref f)=true)(l:K.lookup f=some ⟨oc,od,.func (PySem.W.fnOf n q (dU st) (dH st) (aD st) .none kV dc pm an cd ct),sl⟩)(c:PySem.W.codeIn K cd q=true)(k:PySem.W.keepIn K (.ref f)=true):MtL K C n q st:=⟨_,_,a,i,A4 l c k⟩
def Bx(P:Program)(w:World)(base:Heap):Prop:=P=P/\w=w/\base=base
def BdR(n q:Str)(st:Stmt)(ps:List Str):Prop:=∀(kV doc pm:Value) (an:Option Addr) (cdv ct:Value) (us:List Value),us.length=ps.length->bindArgs (PySem.W.fnOf n q (dU st) (dH st) (aD st) .none kV doc pm an cdv ct) ⟨us,[]⟩=pure (ps.zip us)
theorem cal(_:Bx P w base)(X:K.In h)(G:h.Ns mainGlobals mg)(a:PySem.W.nsIn K mainGlobals n=some (some (.ref f)))(F:Fun K n n st f fd)(o:FnOk P w K mg base CX0 k f fd ps sp)(b:BdR n n st ps):Cal P w K mg base k n ps sp f fd:=⟨o,PySem.W.mg_of X G a,F.kp,F.binds b⟩
theorem mw(_:Bx P w base)(a:PySem.W.findIn K (.ref C) n=some (some (.ref f)))(i:PySem.W.isFn K (.ref f)=true)(F:Fun K n q st f fd)(o:FnOk P w K mg base CX0 k f fd ps sp)(b:BdR n q st ps):MCal P w K mg base k C n ps sp f fd:=⟨o,⟨a,i,F.kp⟩,F.binds b⟩
theorem us1{A:List Value->Prop}(h:∀a,A [a]):∀us:List Value,us.length=1->A us
 | [a],_=>h a
theorem us2{A:List Value->Prop}(h:∀a b,A [a,b]):∀us:List Value,us.length=2->A us
 | [a,b],_=>h a b
theorem us3{A:List Value->Prop}(h:∀a b c,A [a,b,c]):∀us:List Value,us.length=3->A us
 | [a,b,c],_=>h a b c
theorem us4{A:List Value->Prop}(h:∀a b c d,A [a,b,c,d]):∀us:List Value,us.length=4->A us
 | [a,b,c,d],_=>h a b c d
end
theorem all_mk{l:PySem.W.OpenLaw}{w:World}{K:PySem.W.Frag}{h:Heap}{mg:Str->Option Value}{fa CC1 CC2 f4 dt4 f53 dt53:Addr}(X:K.In h)(G:h.Ns mainGlobals mg)(hfa:mg "law"=some (.ref fa))
 {od4 an4 odt4 od53 an53 odt53:Option Addr} {sl4 slt4 sl53 slt53:Array (Option Value)} {oc4 kV4 dc4 pm4 cd4 ct4 oct4 oc53 kV53 dc53 pm53 cd53 ct53 oct53:Value} {nt4:Nat} {tk4_0:Tok} {nt53:Nat} {tk_HIGHEST:Tok}
 (cc1:ClL K "Ratio" CC1)
 (n1_top:PySem.W.findIn K (.ref CC1) "top"=some none)
 (n1_bottom:PySem.W.findIn K (.ref CC1) "bottom"=some none)
 (cc2:ClL K "Number" CC2)
 (n2_poly:PySem.W.findIn K (.ref CC2) "poly"=some none)
 (n2_low:PySem.W.findIn K (.ref CC2) "low"=some none)
 (n2_high:PySem.W.findIn K (.ref CC2) "high"=some none)
 (a4:PySem.W.findIn K (.ref CC1) "__init__"=some (some (.ref f4))) (i4:PySem.W.isFn K (.ref f4)=true)
 (l4:K.lookup f4=some ⟨oc4,od4,.func (PySem.W.fnOf "__init__" "Ratio.__init__" (dU j4) (dH j4) (aD j4) (.ref dt4) kV4 dc4 pm4 an4 cd4 ct4),sl4⟩) (c4:PySem.W.codeIn K cd4 "Ratio.__init__"=true) (k4:PySem.W.keepIn K (.ref f4)=true)
 (t4:K.lookup dt4=some ⟨oct4,odt4,.seq #[.int 1 tk4_0] nt4,slt4⟩)
 (a53:PySem.W.nsIn K mainGlobals "number"=some (some (.ref f53)))
 (l53:K.lookup f53=some ⟨oc53,od53,.func (PySem.W.fnOf "number" "number" (dU j3) (dH j3) (aD j3) (.ref dt53) kV53 dc53 pm53 an53 cd53 ct53),sl53⟩) (c53:PySem.W.codeIn K cd53 "number"=true) (k53:PySem.W.keepIn K (.ref f53)=true)
 (t53:K.lookup dt53=some ⟨oct53,odt53,.seq #[.none,.none] nt53,slt53⟩)
 (aI_HIGHEST:PySem.W.nsIn K mainGlobals "HIGHEST"=some (some (.int 8 tk_HIGHEST)))
 (z0:PySem.W.nsIn K mainGlobals "abs"=some none)
 (z1:PySem.W.nsIn K mainGlobals "len"=some none)
 (z2:PySem.W.nsIn K mainGlobals "max"=some none)
 (z3:PySem.W.nsIn K mainGlobals "range"=some none)
 (z4:PySem.W.nsIn K mainGlobals "enumerate"=some none)
 (z5:PySem.W.nsIn K mainGlobals "reversed"=some none)
 (z6:PySem.W.nsIn K mainGlobals "list"=some none)
 (z7:PySem.W.nsIn K mainGlobals "sum"=some none)
 (z8:PySem.W.nsIn K mainGlobals "any"=some none)
 (z9:PySem.W.nsIn K mainGlobals "isinstance"=some none)
 (z10:PySem.W.nsIn K mainGlobals "int"=some none)
 (z11:PySem.W.nsIn K mainGlobals "bool"=some none)
 (l1:FnL K "shared_by_two" rD)
 (l2:FnL K "shared" rE)
 (l3:FnL K "whole_sign" rf)
 (l5:MtL K CC1 "against" "Ratio.against" tx)
 (l6:FnL K "poly" rL)
 (l7:FnL K "degree" si)
 (l8:FnL K "coefficient" sv)
 (l9:FnL K "taken" rj)
 (l10:FnL K "slope" rz)
 (l11:FnL K "shrunk" oy)
 (l12:FnL K "plain" rM)
 (l13:FnL K "scaled" rF)
 (l14:FnL K "lowered" rV)
 (l15:FnL K "divided" sh)
 (l16:FnL K "value_parts" rg)
 (l17:FnL K "sign_at" rB)
 (l18:FnL K "row_from" rH)
 (l19:FnL K "row_of" rG)
 (l20:FnL K "changes" sC)
 (l21:FnL K "count" sj)
 (l22:FnL K "bound" sE)
 (l23:FnL K "common" su)
 (l24:FnL K "part" rN)
 (l25:FnL K "refuse_high" rJ)
 (l26:FnL K "without_squares" re)
 (l27:MtL K CC2 "__init__" "Number.__init__" tz)
 (l28:FnL K "fine_width" r9)
 (l29:MtL K CC1 "floor" "Ratio.floor" tu)
 (l30:FnL K "middle" rS)
 (l31:FnL K "cells" sD)
 (l32:FnL K "divides" se)
 (l33:FnL K "added" sI)
 (l34:FnL K "multiplied" rQ)
 (l35:MtL K CC1 "plus" "Ratio.plus" tf)
 (l36:MtL K CC1 "minus" "Ratio.minus" tj)
 (l37:MtL K CC1 "times" "Ratio.times" sZ)
 (l38:FnL K "times_floor" rh)
 (l39:FnL K "span_product" rq)
 (l40:FnL K "square_of" rm)
 (l41:FnL K "line_of" rW)
 (l42:FnL K "halvings" rZ)
 (l43:FnL K "stretched" rk)
 (l44:FnL K "spread" rp)
 (l45:FnL K "moved" rR)
 (l46:FnL K "halved" r8)
 (l47:FnL K "along" sG)
 (l48:FnL K "narrowed" rP)
 (l49:FnL K "many_within" rT)
 (l50:FnL K "refuse_great" rK)
 (l51:FnL K "least" rX)
 (l52:FnL K "number_in" rO)
 (l54:FnL K "beside" sF)
 (l55:FnL K "against" sH)
 (l56:FnL K "sign_of" rA)
 (l57:FnL K "side" rC)
 (l58:FnL K "compare" sr)
 (l59:FnL K "_law_cell_at" sU)
 (l60:FnL K "_law_whole" sK)
 (l61:FnL K "_law_divisor" sS)
 (l62:FnL K "_law_sign" sO)
 (l63:FnL K "_law_beside" sV)
 (l64:FnL K "_law_plain" sP)
 (l65:FnL K "_law_least" sR)
 (l66:FnL K "_law_amount" sW)
 (l67:FnL K "_law_worth" sJ)
 (l68:FnL K "_law_span" sN)
 (l69:FnL K "_law_times" sM)
 (l70:FnL K "_law_padded" sQ)
 (l71:FnL K "_law_compared" sT)
 (l72:FnL K "_law_two" sL)
 (l73:FnL K "_law_alike" sY)
 (l74:FnL K "_law_all" sX)
 (l75:FnL K "law" rY)
 (hTr:l.prog.given.tree=none)
 : ∃fd:FuncData,(∀(s:Shared) (v:Value),BindsTo s fd ⟨[v],[]⟩ [("_law_script",v)])/\∀base:Heap,K.In base->base.Ns mainGlobals mg->base.NoSeer->FnOk l.prog w K mg base CX0 40 fa fd ["_law_script"] (oe K):=by
 obtain⟨_,_,a1,F1⟩:=l1;obtain⟨_,_,a2,F2⟩:=l2;obtain⟨_,_,a3,F3⟩:=l3;obtain⟨_,_,a5,i5,F5⟩:=l5;obtain⟨_,_,a6,F6⟩:=l6;obtain⟨_,_,a7,F7⟩:=l7;obtain⟨_,_,a8,F8⟩:=l8;obtain⟨_,_,a9,F9⟩:=l9;obtain⟨_,_,a10,F10⟩:=l10;obtain⟨_,_,a11,F11⟩:=l11;obtain⟨_,_,a12,F12⟩:=l12;obtain⟨_,_,a13,F13⟩:=l13;obtain⟨_,_,a14,F14⟩:=l14;obtain⟨_,_,a15,F15⟩:=l15;obtain⟨_,_,a16,F16⟩:=l16;obtain⟨_,_,a17,F17⟩:=l17;obtain⟨_,_,a18,F18⟩:=l18;obtain⟨_,_,a19,F19⟩:=l19;obtain⟨_,_,a20,F20⟩:=l20;obtain⟨_,_,a21,F21⟩:=l21;obtain⟨_,_,a22,F22⟩:=l22;obtain⟨_,_,a23,F23⟩:=l23;obtain⟨_,_,a24,F24⟩:=l24;obtain⟨_,_,a25,F25⟩:=l25;obtain⟨_,_,a26,F26⟩:=l26;obtain⟨_,_,a27,i27,F27⟩:=l27;obtain⟨_,_,a28,F28⟩:=l28;obtain⟨_,_,a29,i29,F29⟩:=l29;obtain⟨_,_,a30,F30⟩:=l30;obtain⟨_,_,a31,F31⟩:=l31;obtain⟨_,_,a32,F32⟩:=l32;obtain⟨_,_,a33,F33⟩:=l33;obtain⟨_,_,a34,F34⟩:=l34;obtain⟨_,_,a35,i35,F35⟩:=l35;obtain⟨_,_,a36,i36,F36⟩:=l36;obtain⟨_,_,a37,i37,F37⟩:=l37;obtain⟨_,_,a38,F38⟩:=l38;obtain⟨_,_,a39,F39⟩:=l39;obtain⟨_,_,a40,F40⟩:=l40;obtain⟨_,_,a41,F41⟩:=l41;obtain⟨_,_,a42,F42⟩:=l42;obtain⟨_,_,a43,F43⟩:=l43;obtain⟨_,_,a44,F44⟩:=l44;obtain⟨_,_,a45,F45⟩:=l45;obtain⟨_,_,a46,F46⟩:=l46;obtain⟨_,_,a47,F47⟩:=l47;obtain⟨_,_,a48,F48⟩:=l48;obtain⟨_,_,a49,F49⟩:=l49;obtain⟨_,_,a50,F50⟩:=l50;obtain⟨_,_,a51,F51⟩:=l51;obtain⟨_,_,a52,F52⟩:=l52;obtain⟨_,_,a54,F54⟩:=l54;obtain⟨_,_,a55,F55⟩:=l55;obtain⟨_,_,a56,F56⟩:=l56;obtain⟨_,_,a57,F57⟩:=l57;obtain⟨_,_,a58,F58⟩:=l58;obtain⟨_,_,a59,F59⟩:=l59;obtain⟨_,_,a60,F60⟩:=l60;obtain⟨_,_,a61,F61⟩:=l61;obtain⟨_,_,a62,F62⟩:=l62;obtain⟨_,_,a63,F63⟩:=l63;obtain⟨_,_,a64,F64⟩:=l64;obtain⟨_,_,a65,F65⟩:=l65;obtain⟨_,_,a66,F66⟩:=l66;obtain⟨_,_,a67,F67⟩:=l67;obtain⟨_,_,a68,F68⟩:=l68;obtain⟨_,_,a69,F69⟩:=l69;obtain⟨_,_,a70,F70⟩:=l70;obtain⟨_,_,a71,F71⟩:=l71;obtain⟨_,_,a72,F72⟩:=l72;obtain⟨_,_,a73,F73⟩:=l73;obtain⟨_,_,a74,F74⟩:=l74;obtain⟨_,fdL,a75,F75⟩:=l75;cases hfa.symm.trans (PySem.W.mg_of X G a75);have T:Txt K mg:=⟨PySem.W.mg_none_of X G z0,PySem.W.mg_none_of X G z1,PySem.W.mg_none_of X G z2,PySem.W.mg_none_of X G z3,PySem.W.mg_none_of X G z4,PySem.W.mg_none_of X G z5,PySem.W.mg_none_of X G z6,PySem.W.mg_none_of X G z7,PySem.W.mg_none_of X G z8,PySem.W.mg_none_of X G z9,PySem.W.mg_none_of X G z10,PySem.W.mg_none_of X G z11,⟨_,PySem.W.mg_of X G aI_HIGHEST⟩⟩;have R1:RCI K mg CC1:=⟨⟨cc1.pg,cc1.hd,cc1.po,cc1.sa⟩,n1_top,n1_bottom,PySem.W.mg_of X G cc1.a,cc1.ha,cc1.hn,cc1.ht,cc1.hm⟩;have R2:NCI K mg CC2:=⟨⟨cc2.pg,cc2.hd,cc2.po,cc2.sa⟩,n2_poly,n2_low,n2_high,PySem.W.mg_of X G cc2.a,cc2.ha,cc2.hn,cc2.ht,cc2.hm⟩;have F4:=A5 (st:=j4) l4 c4 k4;have b4:=FunD.bindsD (ps:=["self","top","bottom"]) (ds:=[]) (tup:=[.int 1 tk4_0]) 3 F4 t4 rfl rfl λ_ _ _ _ _ _=>us3 λ_ _ _=>⟨_,rfl,rfl⟩
 have bD4:=FunD.bindsD (ps:=["self","top","bottom"]) (ds:=[.int 1 tk4_0]) (tup:=[.int 1 tk4_0]) 2 F4 t4 rfl rfl λ_ _ _ _ _ _=>us2 λ_ _=>⟨_,rfl,rfl⟩
 have F53:=A5 (st:=j3) l53 c53 k53;have b53:=FunD.bindsD (ps:=["row","low","high"]) (ds:=[]) (tup:=[.none,.none]) 3 F53 t53 rfl rfl λ_ _ _ _ _ _=>us3 λ_ _ _=>⟨_,rfl,rfl⟩
 have bD53:=FunD.bindsD (ps:=["row","low","high"]) (ds:=[.none,.none]) (tup:=[.none,.none]) 1 F53 t53 rfl rfl λ_ _ _ _ _ _=>us1 λ_=>⟨_,rfl,rfl⟩
 obtain⟨_,_,_,_,_,_,_,_,_,e,_,_⟩:=F75.ex;refine⟨fdL,λs v=>.of_eq (by rw[e];rfl),λbase KB GB hNS=>?_⟩;have Z:Bx l.prog w base:=⟨rfl,rfl,rfl⟩;have C1:=cal Z X G a1 F1 (Gq F1 T) λ_ _ _ _ _ _=>us2 λ_ _=>rfl
 have C2:=cal Z X G a2 F2 (Gr F2 T C1) λ_ _ _ _ _ _=>us1 λ_=>rfl
 have C3:=cal Z X G a3 F3 (Gc F3 T) λ_ _ _ _ _ _=>us1 λ_=>rfl
 have K1:KCal l.prog w K mg base 2 CC1 "Ratio" ["self","top","bottom"] (dj CC1) _ _ _ [.int 1]:=⟨Hr F4 T R1 C1,⟨cc1.mkr,a4,i4,cc1.kc⟩,PySem.W.mg_of X G cc1.a,b4,bD4,.cons ⟨_,rfl⟩ .nil⟩;have C5:=mw Z a5 i5 F5 (Hq F5 T R1 C3) λ_ _ _ _ _ _=>us2 λ_ _=>rfl
 have C6:=cal Z X G a6 F6 (Gy F6 T) λ_ _ _ _ _ _=>us1 λ_=>rfl
 have C7:=cal Z X G a7 F7 (GS F7 T) λ_ _ _ _ _ _=>us1 λ_=>rfl
 have C8:=cal Z X G a8 F8 (GW F8 T) λ_ _ _ _ _ _=>us2 λ_ _=>rfl
 have C9:=cal Z X G a9 F9 (Gf F9 T C6 C8) λ_ _ _ _ _ _=>us2 λ_ _=>rfl
 have C10:=cal Z X G a10 F10 (Gk F10 T) λ_ _ _ _ _ _=>us1 λ_=>rfl
 have C11:=cal Z X G a11 F11 (Gp F11 T hNS hTr C2) λ_ _ _ _ _ _=>us1 λ_=>rfl
 have C12:=cal Z X G a12 F12 (Gz F12 T C11) λ_ _ _ _ _ _=>us1 λ_=>rfl
 have C13:=cal Z X G a13 F13 (Gs F13 T) λ_ _ _ _ _ _=>us2 λ_ _=>rfl
 have C14:=cal Z X G a14 F14 (GJ F14 T) λ_ _ _ _ _ _=>us4 λ_ _ _ _=>rfl
 have C15:=cal Z X G a15 F15 (GR F15 T C3 C7 C13 C14 C6) λ_ _ _ _ _ _=>us2 λ_ _=>rfl
 have C16:=cal Z X G a16 F16 (Gd F16 T) λ_ _ _ _ _ _=>us3 λ_ _ _=>rfl
 have C17:=cal Z X G a17 F17 (Gn F17 T R1 C16 C3) λ_ _ _ _ _ _=>us2 λ_ _=>rfl
 have C18:=cal Z X G a18 F18 (Gv F18 T C11 C15 C9) λ_ _ _ _ _ _=>us2 λ_ _=>rfl
 have C19:=cal Z X G a19 F19 (Gu F19 T C18 C10) λ_ _ _ _ _ _=>us1 λ_=>rfl
 have C20:=cal Z X G a20 F20 (GX F20 T R1 C17) λ_ _ _ _ _ _=>us2 λ_ _=>rfl
 have C21:=cal Z X G a21 F21 (GT F21 T R1 C20) λ_ _ _ _ _ _=>us3 λ_ _ _=>rfl
 have C22:=cal Z X G a22 F22 (GZ F22 T) λ_ _ _ _ _ _=>us1 λ_=>rfl
 have C23:=cal Z X G a23 F23 (GV F23 T C12 C15) λ_ _ _ _ _ _=>us2 λ_ _=>rfl
 have C24:=cal Z X G a24 F24 (GA F24 T C15 C12) λ_ _ _ _ _ _=>us2 λ_ _=>rfl
 have C25:=cal Z X G a25 F25 (Gw F25 T) λ_ _ _ _ _ _=>us1 λ_=>rfl
 have C26:=cal Z X G a26 F26 (Gb F26 T C24 C23 C10) λ_ _ _ _ _ _=>us1 λ_=>rfl
 have b27:Binds K _ ["self","row","low","high"] []:=F27.binds (λ_ _ _ _ _ _=>us4 λ_ _ _ _=>rfl);have K2:KCal l.prog w K mg base 1 CC2 "Number" ["self","row","low","high"] (ll CC2) _ _ _ []:=⟨Hs F27 T R2,⟨cc2.mkr,a27,i27,cc2.kc⟩,PySem.W.mg_of X G cc2.a,b27,b27,.nil⟩;have C28:=cal Z X G a28 F28 (GP F28 T R1 K1 C22) λ_ _ _ _ _ _=>us1 λ_=>rfl
 have C29:=mw Z a29 i29 F29 (Ho F29 T R1) λ_ _ _ _ _ _=>us1 λ_=>rfl
 have C30:=cal Z X G a30 F30 (GH F30 T R1 K1) λ_ _ _ _ _ _=>us2 λ_ _=>rfl
 have C31:=cal Z X G a31 F31 (GY F31 T R1 C7 C19 K1 C22 C20 C30) λ_ _ _ _ _ _=>us1 λ_=>rfl
 have C32:=cal Z X G a32 F32 (GQ F32 T C15) λ_ _ _ _ _ _=>us2 λ_ _=>rfl
 have C33:=cal Z X G a33 F33 (G4 F33 T C6 C8) λ_ _ _ _ _ _=>us2 λ_ _=>rfl
 have C34:=cal Z X G a34 F34 (GF F34 T) λ_ _ _ _ _ _=>us2 λ_ _=>rfl
 have C35:=mw Z a35 i35 F35 (Hm F35 T R1 K1) λ_ _ _ _ _ _=>us2 λ_ _=>rfl
 have C36:=mw Z a36 i36 F36 (Hn F36 T R1 K1) λ_ _ _ _ _ _=>us2 λ_ _=>rfl
 have C37:=mw Z a37 i37 F37 (Hl F37 T R1 K1) λ_ _ _ _ _ _=>us2 λ_ _=>rfl
 have C38:=cal Z X G a38 F38 (Ge F38 T R1 K1 C37 C29) λ_ _ _ _ _ _=>us2 λ_ _=>rfl
 have C39:=cal Z X G a39 F39 (Gj F39 T R1 C37 C5) λ_ _ _ _ _ _=>us2 λ_ _=>rfl
 have C40:=cal Z X G a40 F40 (Gh F40 T R1 C38 C35 C39 C12) λ_ _ _ _ _ _=>us3 λ_ _ _=>rfl
 have C41:=cal Z X G a41 F41 (GK F41 T R1 K1 C38 C5 C17) λ_ _ _ _ _ _=>us2 λ_ _=>rfl
 have C42:=cal Z X G a42 F42 (GN F42 T R1) λ_ _ _ _ _ _=>us2 λ_ _=>rfl
 have C43:=cal Z X G a43 F43 (Gg F43 T R1 C2 C33 C34 C6) λ_ _ _ _ _ _=>us3 λ_ _ _=>rfl
 have C44:=cal Z X G a44 F44 (Gi F44 T) λ_ _ _ _ _ _=>us1 λ_=>rfl
 have C45:=cal Z X G a45 F45 (GG F45 T C7) λ_ _ _ _ _ _=>us1 λ_=>rfl
 have C46:=cal Z X G a46 F46 (GO F46 T C44 C3 C45) λ_ _ _ _ _ _=>us3 λ_ _ _=>rfl
 have C47:=cal Z X G a47 F47 (G2 F47 T R1 C35 C37 K1) λ_ _ _ _ _ _=>us4 λ_ _ _ _=>rfl
 have C48:=cal Z X G a48 F48 (GE F48 T R1 C36 C42 C46 C43 C17 C47) λ_ _ _ _ _ _=>us4 λ_ _ _ _=>rfl
 have C49:=cal Z X G a49 F49 (GI F49 T R1 C5 C21 C19) λ_ _ _ _ _ _=>us3 λ_ _ _=>rfl
 have C50:=cal Z X G a50 F50 (Gx F50 T) λ_ _ _ _ _ _=>us1 λ_=>rfl
 have C51:=cal Z X G a51 F51 (GL F51 T C12 C7 C28 C48 C41 C31 C40 C32 C21 C19) λ_ _ _ _ _ _=>us3 λ_ _ _=>rfl
 have C52:=cal Z X G a52 F52 (GC F52 T R1 C51 C17 C48 C36 C37 K1 K2) λ_ _ _ _ _ _=>us3 λ_ _ _=>rfl
 have C53:CalE l.prog w K mg base 39 "number" ["row","low","high"] (qJ CC1 CC2) _ _ _ [.non,.non]:=⟨GD F53 T R1 C25 C7 K1 C22 C26 C49 C50 C52,PySem.W.mg_of X G a53,k53,b53,bD53,.cons rfl (.cons rfl (.nil))⟩;have C54:=cal Z X G a54 F54 (G0 F54 T R1 R2 C17) λ_ _ _ _ _ _=>us2 λ_ _=>rfl
 have C55:=cal Z X G a55 F55 (G3 F55 T R1 R2 C5 C54 C17) λ_ _ _ _ _ _=>us2 λ_ _=>rfl
 have C56:=cal Z X G a56 F56 (Gm F56 T R1 R2 C55 K1) λ_ _ _ _ _ _=>us1 λ_=>rfl
 have C57:=cal Z X G a57 F57 (Go F57 T R1 R2 C17 C21 C18 C34 C10) λ_ _ _ _ _ _=>us2 λ_ _=>rfl
 have C58:=cal Z X G a58 F58 (GU F58 T R1 R2 C55 C54 C57) λ_ _ _ _ _ _=>us2 λ_ _=>rfl
 have C59:=cal Z X G a59 F59 (Hg F59 T) λ_ _ _ _ _ _=>us2 λ_ _=>rfl
 have C60:=cal Z X G a60 F60 (G6 F60 T) λ_ _ _ _ _ _=>us1 λ_=>rfl
 have C61:=cal Z X G a61 F61 (He F61 T) λ_ _ _ _ _ _=>us2 λ_ _=>rfl
 have C62:=cal Z X G a62 F62 (Ha F62 T) λ_ _ _ _ _ _=>us3 λ_ _ _=>rfl
 have C63:=cal Z X G a63 F63 (Hh F63 T R1 C62) λ_ _ _ _ _ _=>us2 λ_ _=>rfl
 have C64:=cal Z X G a64 F64 (Hb F64 T C61) λ_ _ _ _ _ _=>us1 λ_=>rfl
 have C65:=cal Z X G a65 F65 (Hd F65 T C64) λ_ _ _ _ _ _=>us1 λ_=>rfl
 have C66:=cal Z X G a66 F66 (Hi F66 T) λ_ _ _ _ _ _=>us1 λ_=>rfl
 have C67:=cal Z X G a67 F67 (G5 F67 T C66 C59) λ_ _ _ _ _ _=>us2 λ_ _=>rfl
 have C68:=cal Z X G a68 F68 (G9 F68 T R1 K1) λ_ _ _ _ _ _=>us2 λ_ _=>rfl
 have C69:=cal Z X G a69 F69 (G8 F69 T) λ_ _ _ _ _ _=>us2 λ_ _=>rfl
 have C70:=cal Z X G a70 F70 (Hc F70 T R1 C65 C69) λ_ _ _ _ _ _=>us3 λ_ _ _=>rfl
 have C71:=cal Z X G a71 F71 (Hf F71 T C62) λ_ _ _ _ _ _=>us2 λ_ _=>rfl
 have C72:=cal Z X G a72 F72 (G7 F72 T C67 C59) λ_ _ _ _ _ _=>us1 λ_=>rfl
 have C73:=cal Z X G a73 F73 (Hk F73 T C60) λ_ _ _ _ _ _=>us2 λ_ _=>rfl
 have C74:=cal Z X G a74 F74 (Hj F74 T R1 R2 C58 C55 C56) λ_ _ _ _ _ _=>us3 λ_ _ _=>rfl
 exact GM F75 T R1 R2 C72 C59 C68 C53 C70 K2 C65 K1 C66 C71 C63 C73 C74 C56 C58 C55
theorem walk{l:PySem.W.OpenLaw}{q:Program}{loose:List Str}{XP:(Str->Option Value)->Heap->Prop}{YP:World->Heap->Prop}{d:DefRec}{K:Params->PySem.W.Frag}(hi:PyProof.Rows.importsNone q=true)(hn:l.most=some 63)(hdf:d.params.defaults=[])
 (hY:∀(w:World) (h:Heap),YP w h->(K w.params).In h)
 (F:∀(w:World) (mg:Str->Option Value) (fa:Addr) (h:Heap),(K w.params).In h->h.Ns mainGlobals mg->mg d.name=some (.ref fa) ->
   ∃fd:FuncData,(∀(s:Shared) (u:Value),BindsTo s fd ⟨[u],[]⟩ [("_law_script",u)])/\∀base:Heap,(K w.params).In base->base.Ns mainGlobals mg->base.NoSeer->FnOk l.prog w (K w.params) mg base CX0 40 fa fd ["_law_script"] (oe (K w.params))) :
 PySem.W.WalkO q loose XP YP l.row.toRowW d [] (λf vs=>PySem.call f vs) :=
 L2.walk_ofS (n:=63) (k:=40) (x:="_law_script") (CX:=λ_=>CX0) (sp:=λw=>oe (K w.params)) hi hn (by decide) hdf ⟨rfl,by decide,by decide⟩ hY F (λ_ _ a ns hl _ hS=>⟨a,ns,rfl,hS,hl,λ_=>rfl⟩) λ_ _ _ _ _ z=>z
section
end
end R47
open PySem PySem.W PyProof.Rows
set_option maxRecDepth 100000 in
set_option maxHeartbeats 0 in
theorem PySem.Challenge.cw_rootspan_k47_compared_holds : PySem.Challenge.rw_rootspan_k47_compared.Holds := by
 w_on;o_law;k_head;(case hw=>w_witness2)
 k_fill
 refine R47.walk (l:=PySem.Challenge.rw_rootspan_k47_compared) (by decide +kernel) rfl rfl (λw h Y=>PySem.W.kIn_of Y) ?F
 case F =>
  intro w mg fa h KX G hmg
  refine' R47.all_mk KX G hmg ?cc1 ?n1_top ?n1_bottom ?cc2 ?n2_poly ?n2_low ?n2_high ?a4 ?i4 ?l4 ?c4 ?k4 ?t4 ?a53 ?l53 ?c53 ?k53 ?t53 ?aI_HIGHEST ?_ ?_ ?_ ?_ ?_ ?_ ?_ ?_ ?_ ?_ ?_ ?_ ?_ ?_ ?_ ?_ ?_ ?_ ?_ ?_ ?_ ?_ ?_ ?_ ?_ ?_ ?_ ?_ ?_ ?_ ?_ ?_ ?_ ?_ ?_ ?_ ?_ ?_ ?_ ?_ ?_ ?_ ?_ ?_ ?_ ?_ ?_ ?_ ?_ ?_ ?_ ?_ ?_ ?_ ?_ ?_ ?_ ?_ ?_ ?_ ?_ ?_ ?_ ?_ ?_ ?_ ?_ ?_ ?_ ?_ ?_ ?_ ?_ ?_ ?_ ?_ ?_ ?_ ?_ ?_ ?_ ?_ ?_ ?_ ?_ rfl
  (case cc1=>apply R47.ClL.mk<;>k_is)
  (case n1_top=>k_is)
  (case n1_bottom=>k_is)
  (case cc2=>apply R47.ClL.mk<;>k_is)
  (case n2_poly=>k_is)
  (case n2_low=>k_is)
  (case n2_high=>k_is)
  (case a4=>k_is)
  (case i4=>k_is)
  (case l4=>k_is)
  (case c4=>k_is)
  (case k4=>k_is)
  (case t4=>k_is)
  (case a53=>k_is)
  (case l53=>k_is)
  (case c53=>k_is)
  (case k53=>k_is)
  (case t53=>k_is)
  (case aI_HIGHEST=>k_is)
  all_goals first | (apply R47.fnL<;>k_is) | (apply R47.mtL<;>k_is) |k_is
